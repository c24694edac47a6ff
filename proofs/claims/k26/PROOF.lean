import PyProof.Rows.All
import Wide.All
import OpenK.AllK
import Wide.FinOn
import Lean
import PyProof.EqAt
import PyProof.EqKinds
import PyProof.TupleCall
import PyProof.NeKinds
import KE.KSortTup
import PyProof.TableCode
import PySem.Challenge.RW_lotheads_k26_few_and_worths_by_marks
set_option Elab.async false
set_option linter.all false
set_option maxRecDepth 100000
namespace L2
open PySem PySem.Spec PyProof.Rows
noncomputable abbrev gd:=Sum Int Str
noncomputable def mX:gd->Value->Bool
 |.inl k,v=>Value.isInt k v
 |.inr x,v=>Value.isStrOf x v
noncomputable def Oj (w:World):gd->Int
 |.inl k=>hashInt k
 |.inr x=>hashStr w x
theorem bG:∀{k:gd} {v:Value},mX k v=true->(∃i t,k=Sum.inl i/\v=Value.int i t)\/(∃x t,k=Sum.inr x/\v=Value.str x t)
 |.inl i,v,h=>by
  obtain⟨t,e⟩:=Value.isInt_shape (k:=i) (v:=v) h
  exact .inl ⟨i,t,rfl,e⟩
 |.inr x,v,h=>by
  obtain⟨t,e⟩:=Value.isStrOf_shape (x:=x) (v:=v) h
  exact .inr ⟨x,t,rfl,e⟩
theorem vb (i:Int)(t:Tok):mX (.inl i) (.int i t)=true:=by simp[mX,Value.isInt]
theorem uk (x:Str)(t:Tok):mX (.inr x) (.str x t)=true:=by simp[mX,Value.isStrOf]
theorem GX (a b:Int):decide ((Sum.inl a:gd)=Sum.inl b)=(a==b):=by
 by_cases e:a=b
 ·subst e;simp
 ·have h:¬(Sum.inl a:gd)=Sum.inl b:=fun q=>e (Sum.inl.inj q)
  rw[decide_eq_false h]
  exact (beq_eq_false_iff_ne.mpr e).symm
theorem Fd (a b:Str):decide ((Sum.inr a:gd)=Sum.inr b)=decide (a=b):=by
 by_cases e:a=b
 ·subst e;simp
 ·have h:¬(Sum.inr a:gd)=Sum.inr b:=fun q=>e (Sum.inr.inj q)
  rw[decide_eq_false h,decide_eq_false e]
theorem HJ (a:Int)(b:Str):decide ((Sum.inl a:gd)=Sum.inr b)=false:=decide_eq_false (fun q=>nomatch q)
theorem HV (a:Str)(b:Int):decide ((Sum.inr a:gd)=Sum.inl b)=false:=decide_eq_false (fun q=>nomatch q)
noncomputable def cb (prog:Program)(w:World):PySem.KeyKind prog w gd where
 is:=mX
 hash:=Oj w
 inj:=fun v a b ha hb=>by
  rcases bG ha with ⟨i,t,rfl,rfl⟩|⟨x,t,rfl,rfl⟩
  ·rcases bG hb with ⟨j,u,rfl,e⟩|⟨y,u,rfl,e⟩
   ·injection e with e1 _;rw[e1]
   ·exact nomatch e
  ·rcases bG hb with ⟨j,u,rfl,e⟩|⟨y,u,rfl,e⟩
   ·exact nomatch e
   ·injection e with e1 _;rw[e1]
 byValue:=fun k v h=>by
  rcases bG h with ⟨i,t,rfl,rfl⟩|⟨x,t,rfl,rfl⟩<;>rfl
 pyHash:=fun hv h=>by
  rcases bG hv with ⟨i,t,rfl,rfl⟩|⟨x,t,rfl,rfl⟩
  ·exact wpAny_pyHash_int h
  ·exact wpAny_pyHash_str h
 eqBool:=fun hu hv h=>by
  rcases bG hu with ⟨i,t,rfl,rfl⟩|⟨x,t,rfl,rfl⟩
  ·rcases bG hv with ⟨j,u,rfl,rfl⟩|⟨y,u,rfl,rfl⟩
   ·rw[GX] at h;exact wpAny_eqBool_int h
   ·rw[HJ] at h;exact SeqAt.EqAt.int_str i t y u _ _ _ _ h
  ·rcases bG hv with ⟨j,u,rfl,rfl⟩|⟨y,u,rfl,rfl⟩
   ·rw[HV] at h;exact SeqAt.EqAt.str_int x t j u _ _ _ _ h
   ·rw[Fd] at h;exact wpAny_eqBool_str h
 «strs»:=fun k x t v h=>by
  rcases bG h with ⟨i,u,rfl,e⟩|⟨y,u,rfl,e⟩
  ·exact nomatch e
  ·injection e with e1 _
   subst e1
   cases v<;>rfl
theorem qC (prog:Program)(w:World)(i:Int)(t:Tok):(cb prog w).is (.inl i) (.int i t)=true:=vb i t
theorem dN (prog:Program)(w:World)(x:Str)(t:Tok):(cb prog w).is (.inr x) (.str x t)=true:=uk x t
end L2
namespace L2
open PySem PySem.Spec PyProof.Rows
inductive V where
 |non|bl (b:Bool)|int (i:Int)|str (x:Str)|byt (b:Array UInt8)|flt (b:UInt64)|ref (a:Addr)|ty (n:String)
 deriving DecidableEq
noncomputable def RelV:V->Value->Prop
 |.non,u=>u=Value.none
 |.bl b,u=>u=Value.bool b
 |.int i,u=>∃t,u=Value.int i t
 |.str x,u=>∃t,u=Value.str x t
 |.byt b,u=>∃t,u=Value.bytes b t
 |.flt b,u=>∃t,u=Value.float b t
 |.ref a,u=>u=Value.ref a
 |.ty n,u=>u=Value.type n
noncomputable abbrev Vals:List V->List Value->Prop:=Paired RelV
theorem Vals.length {xs:List V}{us:List Value}(r:Vals xs us):xs.length=us.length:=Paired.length r
theorem Vals.get:∀{xs:List V} {us:List Value} {i:Nat} {x:V},Vals xs us->xs[i]?=some x->∃u,us[i]?=some u/\RelV x u
 |_,_,_,_,.nil,e=>by simp at e
 |_,_,0,_,.cons r _,e=>by simp at e;subst e;exact⟨_,rfl,r⟩
 |_,_,i+1,x,.cons _ t,e=>by
  obtain⟨u,h1,h2⟩:=Vals.get (i:=i) (x:=x) t (by simpa using e)
  exact⟨u,by simpa using h1,h2⟩
theorem Vals.set {x:V}{u:Value}(r:RelV x u):∀{xs:List V} {us:List Value} (i:Nat),Vals xs us->Vals (xs.set i x) (us.set i u)
 |_,_,_,.nil=>.nil
 |_,_,0,.cons _ t=>.cons r t
 |_,_,i+1,.cons q t=>.cons q (Vals.set r i t)
theorem Vals.append:∀{xs ys:List V} {us ws:List Value},Vals xs us->Vals ys ws->Vals (xs++ys) (us++ws)
 |_,_,_,_,.nil,s=>s
 |_,_,_,_,.cons r t,s=>.cons r (Vals.append t s)
theorem Vals.take:∀{xs:List V} {us:List Value} (n:Nat),Vals xs us->Vals (xs.take n) (us.take n)
 |_,_,0,_=>.nil
 |_,_,_+1,.nil=>.nil
 |_,_,n+1,.cons r t=>.cons r (Vals.take n t)
theorem Vals.drop:∀{xs:List V} {us:List Value} (n:Nat),Vals xs us->Vals (xs.drop n) (us.drop n)
 |_,_,0,r=>r
 |_,_,_+1,.nil=>.nil
 |_,_,n+1,.cons _ t=>Vals.drop n t
noncomputable def IC:Option V->Option Value->Prop
 |some v,some u=>RelV v u
 |none,none=>True
 |_,_=>False
noncomputable def KV {κ:Type}:List (κ×V)->List (κ×Value)->Prop:=Paired fun (p:κ×V) (q:κ×Value)=>p.1=q.1/\RelV p.2 q.2
noncomputable def kV:gd->V
 |.inl i=>.int i
 |.inr x=>.str x
inductive HO where
 |lst (xs:List V)
 |tup (xs:List V)
 |dK (kvs:List (gd×V))|dT (kvs:List (List gd×V))
 |set (S:Int->Bool) (n:Nat)
 |ins (C dx:Addr) (fs:List (Str×V))
 |own (x:Addr)
 |xd (fs:List (Str×V))
 |met (f x:Addr)
 |rng (lo hi:Int)
 |frz (o:Obj) (u:HO)
 |tbl (ps:Array Value)
 |ext (φ:Heap->Prop)
noncomputable abbrev Hp:=Addr->Option HO
noncomputable def upd (H:Hp)(a:Addr)(o:HO):Hp:=fun b=>if b=a then some o else H b
theorem ak {H:Hp}{a:Addr}{o:HO}:upd H a o a=some o:=by unfold upd;rw[if_pos rfl]
theorem av {H:Hp}{a b:Addr}{o:HO}(h:b≠a):upd H a o b=H b:=by unfold upd;rw[if_neg h]
theorem dz {H:Hp}{a b:Addr}{o:HO}(h:H a=some o)(h':H b=none):a≠b:=by
 intro e;subst e;rw[h] at h';cases h'
section
variable (P:Program)(w:World)
noncomputable def ObjOk (H:Hp)(h:Heap)(a:Addr):HO->Prop
 |.lst xs=>xs.length≤sizeLine/\∃(its:List Value) (n:Nat),Vals xs its/\h.get? a=some { cls:=.type "list",data:=.seq its.toArray n }
 |.tup xs=>xs.length≤sizeLine/\∃its:List Value,Vals xs its/\IsTup h a its.toArray
 |.dK kvs=>kvs.length≤sizeLine/\(a==sysModules)=false/\∃vs,KV kvs vs/\h.DictOf (cb P w) a vs
 |.dT kvs=>kvs.length≤sizeLine/\(a==sysModules)=false/\∃xs:List (List gd×Addr×Value),
   Paired (fun (p:List gd×V) (q:List gd×Addr×Value)=>p.1=q.1/\H q.2.1=some (.tup (p.1.map kV))/\RelV p.2 q.2.2) kvs xs ∧
   ∃o es ep,h.get? a=some o/\o.ExactDict/\o.data=.dict es ep/\es.toList=xs.map (entryOfKey (tupleKind (cb P w)))/\(xs.map (·.1)).Nodup
 |.set S n=>h.SetOf (intKind P w) a S n
 |.ins C dx fs=>H dx=some (.own a)/\fs.length≤1000/\dx≠a/\h.get? a=some (PySem.W.instObj C dx) ∧
   ∃mA,h.Ns1 dx mA/\(∀f,IC (fs.lookup f) (mA f))/\PySem.Within mA (fs.map (·.1))
 |.own _=>∃o,h.get? a=some o
 |.xd fs=>∃mA,h.Ns1 a mA/\∀f,IC (fs.lookup f) (mA f)
 |.rng lo hi=>∃t u v,h.get? a=some { cls:=.type "range",data:=.fields #[.int lo t,.int hi u,.int 1 v] }
 |.frz o u=>h.get? a=some o/\ObjOk H h a u
 |.tbl ps=>h.get? a=some { cls:=.none,data:=.fields ps }
 |.met f x=>h.get? a=some (PySem.W.methodObj (.ref f) (.ref x))
 |.ext φ=>φ h/\(∃o,h.get? a=some o)/\∀h1 h2:Heap,φ h1->(∀o,h1.get? a=some o->h2.get? a=some o)->φ h2
noncomputable def HOk (H:Hp)(h:Heap):Prop:=∀a o,H a=some o->ObjOk P w H h a o
end
section
variable {P:Program}{w:World}{H H':Hp}{h h':Heap}{a:Addr}{o:HO}
theorem ObjOk.lt (x:ObjOk P w H h a o):a<h.objs.size:=by
 cases o with
 |lst xs=>obtain⟨_,_,_,_,e⟩:=x;exact Heap.lt_size e
 |tup xs=>obtain⟨_,_,_,p⟩:=x;exact p.lt
 |dK kvs=>obtain⟨_,_,_,_,o,_,_,e,_⟩:=x;exact Heap.lt_size e
 |dT kvs=>obtain⟨_,_,_,_,o,_,_,e,_⟩:=x;exact Heap.lt_size e
 |set S n=>obtain⟨o,_,_,_,e,_⟩:=x;exact Heap.lt_size e
 |ins C dx fs=>obtain⟨_,_,_,e,_⟩:=x;exact Heap.lt_size e
 |own y=>obtain⟨_,e⟩:=x;exact Heap.lt_size e
 |xd fs=>obtain⟨_,⟨_,_,_,e,_⟩,_⟩:=x;exact Heap.lt_size e
 |rng lo hi=>obtain⟨_,_,_,e⟩:=x;exact Heap.lt_size e
 |frz ob u=>obtain⟨e,_⟩:=x;exact Heap.lt_size e
 |tbl ps=>exact Heap.lt_size (show h.get? a=some _ from x)
 |met f y=>exact Heap.lt_size (show h.get? a=some _ from x)
 |ext φ=>obtain⟨_,⟨_,e⟩,_⟩:=x;exact Heap.lt_size e
theorem Paired.mapP {α β:Type}{F G:α->β->Prop}:∀{l₁:List α} {l₂:List β},Paired F l₁ l₂->(∀a b,F a b->G a b)->Paired G l₁ l₂
 |_,_,.nil,_=>.nil
 |_,_,.cons r t,f=>.cons (f _ _ r) (Paired.mapP t f)
theorem ObjOk.stay (x:ObjOk P w H h a o)(k:∀b u,(b=a\/H b=some (.own a))->h.get? b=some u->h'.get? b=some u)
  (ho:∀b,H b=some (.own a)->H' b=some (.own a)) (ht:∀b xs,H b=some (.tup xs)->H' b=some (.tup xs)):ObjOk P w H' h' a o:=by
 induction o with
 |lst xs=>obtain⟨z,its,n,r,e⟩:=x;exact⟨z,its,n,r,k _ _ (.inl rfl) e⟩
 |tup xs=>obtain⟨z,its,r,ob,e,c⟩:=x;exact⟨z,its,r,ob,k _ _ (.inl rfl) e,c⟩
 |dK kvs=>obtain⟨z,y,vs,r,ob,es,ep,e,c⟩:=x;exact⟨z,y,vs,r,ob,es,ep,k _ _ (.inl rfl) e,c⟩
 |dT kvs=>
  obtain⟨z,y,xs,r,ob,es,ep,e,c⟩:=x
  exact⟨z,y,xs,Paired.mapP r fun p q z=>⟨z.1,ht _ _ z.2.1,z.2.2⟩,ob,es,ep,k _ _ (.inl rfl) e,c⟩
 |set S n=>obtain⟨ob,es,ep,t,e,c⟩:=x;exact⟨ob,es,ep,t,k _ _ (.inl rfl) e,c⟩
 |ins C dx fs=>
  obtain⟨d,z,ne,e,mA,⟨od,es,ep,e2,c⟩,r⟩:=x
  exact⟨ho _ d,z,ne,k _ _ (.inl rfl) e,mA,⟨od,es,ep,k _ _ (.inr d) e2,c⟩,r⟩
 |own y=>obtain⟨ob,e⟩:=x;exact⟨ob,k _ _ (.inl rfl) e⟩
 |xd fs=>obtain⟨mA,⟨od,es,ep,e,c⟩,r⟩:=x;exact⟨mA,⟨od,es,ep,k _ _ (.inl rfl) e,c⟩,r⟩
 |rng lo hi=>obtain⟨t,u,v,e⟩:=x;exact⟨t,u,v,k _ _ (.inl rfl) e⟩
 |frz ob u ih=>obtain⟨e,q⟩:=x;exact⟨k _ _ (.inl rfl) e,ih q⟩
 |tbl ps=>
  have e:h.get? a=some { cls:=.none,data:=.fields ps }:=x
  show h'.get? a=some { cls:=.none,data:=.fields ps }
  exact k a _ (.inl rfl) e
 |met f y=>
  have e:h.get? a=some (PySem.W.methodObj (.ref f) (.ref y)):=x
  show h'.get? a=some (PySem.W.methodObj (.ref f) (.ref y))
  exact k a _ (.inl rfl) e
 |ext φ=>obtain⟨p,⟨o,e⟩,st⟩:=x;exact⟨st _ _ p fun o q=>k _ _ (.inl rfl) q,⟨o,k _ _ (.inl rfl) e⟩,st⟩
theorem HOk.lt (x:HOk P w H h)(e:H a=some o):a<h.objs.size:=(x a o e).lt
theorem HOk.fresh (x:HOk P w H h)(e:h.objs.size≤a):H a=none:=by
 cases q:H a with
 |none=>rfl
 |some u=>exact absurd (Nat.lt_of_lt_of_le (x.lt q) e) (Nat.lt_irrefl _)
theorem HOk.kept (x:HOk P w H h)(k:∀b u,h.get? b=some u->h'.get? b=some u):HOk P w H h':=fun a o e=>
 (x a o e).stay (fun b u _ q=>k b u q) (fun _ q=>q) fun _ _ q=>q
theorem HOk.laid (x:HOk P w H h)(k:∀b u,h.get? b=some u->h'.get? b=some u)(hp:h.objs.size≤a)(new:ObjOk P w (upd H a o) h' a o):HOk P w (upd H a o) h':=fun b u e=>by
 have hn:=x.fresh hp
 by_cases hb:b=a
 ·subst hb;rw[ak] at e;cases e;exact new
 ·rw[av hb] at e
  exact (x b u e).stay (fun c v _ q=>k c v q) (fun c q=>by rw[av (dz q hn)];exact q) fun c xs q=>by rw[av (dz q hn)];exact q
end
noncomputable def Rd (H:Hp)(a:Addr)(u:HO):Prop:=H a=some u\/∃o,H a=some (.frz o u)
theorem Rd.ok {P:Program}{w:World}{H:Hp}{h:Heap}{a:Addr}{u:HO}(r:Rd H a u)(x:HOk P w H h):ObjOk P w H h a u:=by
 rcases r with r|⟨o,r⟩
 ·exact x a u r
 ·obtain⟨_,q⟩:=x a _ r
  exact q
noncomputable def MU:Option HO->Prop
 |some (.lst _)=>True
 |some (.dK _)=>True
 |some (.dT _)=>True
 |some (.set _ _)=>True
 |some (.ins _ _ _)=>True
 |some (.ext _)=>True
 |_=>False
section
variable {P:Program}{w:World}{H:Hp}{h h':Heap}{x e:Addr}{o':HO}
theorem HOk.write (ok:HOk P w H h)(mu:MU (H x))(he:e=x\/H e=some (.own x))(k:∀b u,b≠e->h.get? b=some u->h'.get? b=some u)(heo:∃u,h'.get? e=some u)
  (new:ObjOk P w (upd H x o') h' x o'):HOk P w (upd H x o') h':=fun b u q=>by
 have nown:∀c y,H c=some (.own y)->c≠x:=fun c y r z=>by subst z;rw[r] at mu;exact mu
 have ntup:∀c xs,H c=some (.tup xs)->c≠x:=fun c xs r z=>by subst z;rw[r] at mu;exact mu
 by_cases hb:b=x
 ·subst hb;rw[ak] at q;cases q;exact new
 ·rw[av hb] at q
  by_cases hbe:b=e
  ·have q':H b=some (.own x):=by
    rcases he with z|z
    ·exact absurd (hbe.trans z) hb
    ·rw[hbe];exact z
   rw[q] at q';cases q'
   obtain⟨v,hv⟩:=heo
   exact⟨v,by rw[hbe];exact hv⟩
  ·refine (ok b u q).stay (fun c v hc r=>k c v ?_ r) (fun c r=>by rw[av (nown c b r)];exact r) fun c xs r=>by rw[av (ntup c xs r)];exact r
   rcases hc with rfl|hc
   ·exact hbe
   ·rintro rfl
    rcases he with z|z
    ·exact nown c b hc z
    ·rw[hc] at z;cases z;exact hb rfl
end
structure Un (fs ex:List Addr)(H H':Hp)(h h':Heap):Prop where
 keep:∀b o,h.get? b=some o->H b=none->b∉fs->b∉ex->h'.get? b=some o
 slot:∀b o,h.get? b=some o->H b=none->b∈fs->b∉ex->∃sl,h'.get? b=some { o with slots:=sl }
 free:∀b o,h.get? b=some o->H b=none->b∉ex->H' b=none
 there:∀b o,h.get? b=some o->b∉ex->∃o',h'.get? b=some o'
 tups:∀b xs,H b=some (.tup xs)->H' b=some (.tup xs)
 frzs:∀b o u,H b=some (.frz o u)->H' b=some (.frz o u)
 tbls:∀b ps,H b=some (.tbl ps)->∃more,H' b=some (.tbl (ps++more))
section
variable {fs fs' ex ex':List Addr}{H H1 H2:Hp}{h h1 h2 h':Heap}{a x e:Addr}{o:HO}
theorem Un.any (u:Un fs ex H H1 h h1){b:Addr}{ob:Obj}(q:h.get? b=some ob)(n:H b=none)(hx:b∉ex):∃sl,h1.get? b=some { ob with slots:=sl }:=by
 by_cases hb:b∈fs
 ·exact u.slot b ob q n hb hx
 ·exact⟨ob.slots,u.keep b ob q n hb hx⟩
theorem Un.kept (k:∀b u,h.get? b=some u->h'.get? b=some u):Un fs ex H H h h':=
 ⟨fun b ob q _ _ _=>k b ob q,fun b ob q _ _ _=>⟨ob.slots,k b ob q⟩,fun _ _ _ n _=>n,fun b ob q _=>⟨ob,k b ob q⟩,fun _ _ q=>q,fun _ _ _ q=>q,fun _ ps q=>⟨#[],by rw[q];simp⟩⟩
theorem Un.refl:Un fs ex H H h h:=Un.kept fun _ _ q=>q
theorem Un.laid (k:∀b u,h.get? b=some u->h'.get? b=some u)(hp:h.objs.size≤a)(hn:H a=none):Un fs ex H (upd H a o) h h' where
 keep:=fun b u q _ _ _=>k b u q
 slot:=fun b u q _ _ _=>⟨u.slots,k b u q⟩
 free:=fun b u q n _=>by rw[av (Nat.ne_of_lt (Nat.lt_of_lt_of_le (Heap.lt_size q) hp))];exact n
 there:=fun b u q _=>⟨u,k b u q⟩
 tups:=fun b xs q=>by rw[av (dz q hn)];exact q
 frzs:=fun b u xs q=>by rw[av (dz q hn)];exact q
 tbls:=fun b ps q=>⟨#[],by rw[av (dz q hn),q];simp⟩
theorem Un.write (mu:MU (H x))(he:e=x\/H e=some (.own x))(k:∀b u,b≠e->h.get? b=some u->h'.get? b=some u)(heo:∃u,h'.get? e=some u):Un fs ex H (upd H x o) h h':=by
 have hx:∀b,H b=none->b≠x:=fun b n z=>by subst z;rw[n] at mu;exact mu
 have hb:∀b,H b=none->b≠e:=fun b n z=>by
  subst z
  rcases he with r|r
  ·exact hx b n r
  ·rw[n] at r;cases r
 have hm:∀b u,H b=some u->¬MU (some u)->b≠x:=fun b u q nm z=>by subst z;rw[q] at mu;exact nm mu
 refine⟨fun b u q n _ _=>k b u (hb b n) q,fun b u q n _ _=>⟨u.slots,k b u (hb b n) q⟩,fun b u q n _=>by rw[av (hx b n)];exact n,fun b u q _=>?_,
  fun b xs q=>by rw[av (hm b _ q fun z=>z)];exact q,fun b u xs q=>by rw[av (hm b _ q fun z=>z)];exact q,fun b ps q=>⟨#[],by rw[av (hm b _ q fun z=>z),q];simp⟩⟩
 by_cases hbe:b=e
 ·subst hbe;exact heo
 ·exact⟨u,k b u hbe q⟩
end
noncomputable def MS (h:Heap)(H:Hp):List Addr:=(List.range h.objs.size).filter fun a=>(H a).isSome
noncomputable def oA (h:Heap)(H:Hp):Heap:=PySem.W.hideAll h (MS h H)
theorem uj (h:Heap)(H:Hp):(oA h H).objs.size=h.objs.size:=PySem.W.hideAll_size _ _
theorem y0 {h:Heap}{H:Hp}{b:Addr}{o:Obj}(e:h.get? b=some o)(n:H b=none):(oA h H).get? b=some o:=
 PySem.W.hideAll_get _ e fun hm=>by
  have q:(H b).isSome=true:=(List.mem_filter.mp hm).2
  rw[n] at q;simp at q
theorem AL {h:Heap}{H:Hp}{b:Addr}{o:Obj}(e:(oA h H).get? b=some o):h.get? b=some o/\H b=none:=by
 have e':h.get? b=some o:=PySem.W.of_hideAll (MS h H) e
 refine⟨e',?_⟩
 cases q:H b with
 |none=>rfl
 |some x=>
  have hm:b∈MS h H:=List.mem_filter.mpr ⟨List.mem_range.mpr (Heap.lt_size e'),by simp[q]⟩
  have z:(oA h H).get? b=none:=PySem.W.hideAll_none (MS h H) hm
  rw[z] at e;cases e
noncomputable def iJ (g h:Heap)(L:Addr):List (Addr×Obj):=(List.range h.objs.size).filterMap fun a=>if a=L\/(g.get? a).isSome=true then none else (h.get? a).map fun o=>(a,o)
theorem gm {g h:Heap}{L a:Addr}{o:Obj}(h1:a≠L)(h2:g.get? a=none)(h3:h.get? a=some o):(a,o)∈iJ g h L:=
 List.mem_filterMap.mpr ⟨a,List.mem_range.mpr (Heap.lt_size h3),by simp[h1,h2,h3]⟩
theorem ki {g h:Heap}{L:Addr}{p:Addr×Obj}(hp:p∈iJ g h L):p.1≠L/\g.get? p.1=none/\h.get? p.1=some p.2:=by
 obtain⟨b,_,e⟩:=List.mem_filterMap.mp hp
 split at e
 ·cases e
 ·rename_i hn
  cases q:h.get? b with
  |none=>rw[q] at e;simp at e
  |some u=>
   rw[q] at e
   simp only[Option.map_some,Option.some.injEq] at e
   subst e
   refine⟨fun z=>hn (.inl z),?_,q⟩
   show g.get? b=none
   cases r:g.get? b with
   |none=>rfl
   |some v=>exact (hn (.inr (by simp[r]))).elim
noncomputable def bN (g h:Heap)(L d:Addr):List (Addr×Obj):=(iJ g h L).filter fun p=>decide (p.1≠d)
theorem xq {g h:Heap}{L:Addr}:News g L h (iJ g h L):=fun p hp=>let ⟨a,b,c⟩:=ki hp;⟨c,a,b⟩
end L2
namespace L2
open PySem PySem.Spec PyProof.Rows
structure Mod (K:PySem.W.Frag)(mg:Str->Option Value)(base:Heap):Prop where
 kin:K.In base
 glob:base.Ns mainGlobals mg
 blt:∃mb,base.Ns builtinsNs mb/\∀x:Str,x ≠ "__name__"->mb x=bootBuiltins x
 nolimit:base.NoLimit
structure Cx where
 prog:Program
 w:World
 K:PySem.W.Frag
 mg:Str->Option Value
 base:Heap
 A:Around
 N:List Str
 s₀:Shared
 H₀:Hp
 env:Env
 outer:List Env
 stack:List Env
 ex:List Addr
 fn:Str->Bool
 calm:Bool
 pn:List (Addr×Obj)
 xe:Value->Shared->Prop
noncomputable def rY (l:List Env):List Addr:=l.filterMap (·.frame)
noncomputable abbrev Cx.fs (X:Cx):List Addr:=rY X.outer
noncomputable def D7 (sc:Scope)(x:Str):Prop:=sc.names.lookup x=some .local\/sc.names.lookup x=some .cell\/sc.names.lookup x=some .free
noncomputable def IV (sc:Scope)(x:Str):Prop:=sc.names.lookup x=some .local\/sc.names.lookup x=some .cell
noncomputable def N6 (env:Env)(h:Heap)(m:Str->Option Value)(x:Str)(u:Value):Prop:=
 (env.kindOf x=some .local/\m x=some u)\/((env.kindOf x=some .cell\/env.kindOf x=some .free)/\∃c,env.cells.lookup x=some c/\h.IsCell c (some u))
structure Cx.Ok (X:Cx):Prop where
 mod:Mod X.K X.mg X.base
 kind:X.env.scope.kind=.function
 glob:X.env.globals=mainGlobals
 blt:X.env.builtins=builtinsNs
 above:X.s₀.heap.objs.size≤X.env.locals
 inj:∀x y c,X.env.cells.lookup x=some c->X.env.cells.lookup y=some c->x=y
 has:∀x,(X.env.kindOf x=some .cell\/X.env.kindOf x=some .free)->∃c,X.env.cells.lookup x=some c
 cab:∀x c,X.fn x=true->X.env.cells.lookup x=some c->X.s₀.heap.objs.size≤c
 hd:X.calm=true->X.A.handled=none
 frames:X.A.frames=some X.stack
 stk:X.stack=X.outer\/(X.stack=X.env::X.outer/\X.env.frame=some X.env.locals)
 exf:∀b∈X.ex,b≠X.env.locals/\∀x c,X.env.cells.lookup x=some c->c≠b
 bs:∀b o,X.base.get? b=some o->X.s₀.heap.get? b=some o/\X.H₀ b=none
 bsz:X.base.objs.size≤X.s₀.heap.objs.size
 noex:∀b o,X.base.get? b=some o->b∉X.ex
 exfs:∀b∈X.ex,b∉X.fs
 funs:X.s₀.heap.FunFrames X.base X.outer
 frf:∀b∈X.fs,X.H₀ b=none
structure Inv (X:Cx)(pins:List (Addr×Obj))(σ:List (Option V))(H:Hp)(s:Shared):Prop where
 ok:X.Ok
 os:s.os=X.s₀.os
 bare:AllBare s.gens
 base:Un X.fs X.ex X.H₀ H X.s₀.heap s.heap
 loc:∃m,s.heap.Ns X.env.locals m/\∀(i:Nat) (x:Str) (v:V),X.N[i]?=some x->σ[i]?=some (some v)->D7 X.env.scope x->∃u,RelV v u/\N6 X.env s.heap m x u
 cell:∀x c,X.env.cells.lookup x=some c->∃v,s.heap.IsCell c v
 free:H X.env.locals=none
 freeC:∀x c,X.env.cells.lookup x=some c->H c=none
 pin:∀p∈X.pn++pins,s.heap.get? p.1=some p.2/\H p.1=none/\p.1≠X.env.locals/\p.1∉X.fs/\∀v,p.2.data≠.cell v
 hok:HOk X.prog X.w H s.heap
 len:σ.length=X.N.length
section
variable {X:Cx}{pins:List (Addr×Obj)}{σ:List (Option V)}{H H':Hp}{s:Shared}{h':Heap}
theorem Cx.Ok.nofr (ok:X.Ok){b:Addr}{o:Obj}(e:X.base.get? b=some o):b∉X.fs:=fun hb=>by
 have:=(ok.funs.mem hb).1
 rw[e] at this;cases this
theorem Inv.bs (I:Inv X pins σ H s):∀b o,X.base.get? b=some o->s.heap.get? b=some o/\H b=none:=fun b o e=>
 ⟨I.base.keep b o (I.ok.bs b o e).1 (I.ok.bs b o e).2 (I.ok.nofr e) (I.ok.noex b o e),I.base.free b o (I.ok.bs b o e).1 (I.ok.bs b o e).2 (I.ok.noex b o e)⟩
theorem Inv.bk (I:Inv X pins σ H s):∀b o,X.base.get? b=some o->s.heap.get? b=some o:=fun b o e=>(I.bs b o e).1
theorem Inv.mod (I:Inv X pins σ H s):Mod X.K X.mg X.base:=I.ok.mod
theorem Inv.kIn (I:Inv X pins σ H s):X.K.In s.heap:=I.ok.mod.kin.keeps I.bk
theorem Inv.fr (I:Inv X pins σ H s):∃m,Fr X.base X.env.locals s.heap m:=
 let ⟨m,hn,_⟩:=I.loc
 ⟨m,hn,I.bk,Nat.le_trans I.ok.bsz I.ok.above⟩
theorem Inv.lt (I:Inv X pins σ H s):X.env.locals<s.heap.objs.size:=let ⟨_,hn,_⟩:=I.loc;hn.lt
theorem Inv.sz (I:Inv X pins σ H s):X.s₀.heap.objs.size≤s.heap.objs.size:=Nat.le_trans I.ok.above (Nat.le_of_lt I.lt)
theorem Inv.nofs (I:Inv X pins σ H s){a:Addr}(h:s.heap.objs.size≤a):a∉X.fs:=fun hb=>by
 obtain⟨_,o,ho,_⟩:=I.ok.funs.mem hb
 exact absurd (Nat.lt_of_lt_of_le (Heap.lt_size ho) (Nat.le_trans I.sz h)) (Nat.lt_irrefl _)
theorem Inv.cne (I:Inv X pins σ H s):∀x c,X.env.cells.lookup x=some c->c≠X.env.locals:=fun x c e z=>by
 obtain⟨v,o,ho,hd⟩:=I.cell x c e
 obtain⟨m,⟨o',es,ep,ho',hd',_⟩,_⟩:=I.loc
 rw[z,ho'] at ho;cases ho;rw[hd'] at hd;cases hd
theorem Inv.funs (I:Inv X pins σ H s):s.heap.FunFrames X.base X.outer:=by
 have all:∀(l:List Env),(∀b∈rY l,b∈X.fs)->X.s₀.heap.FunFrames X.base l->s.heap.FunFrames X.base l:=by
  intro l
  induction l with
  |nil=>intro _ _;trivial
  |cons env r ih=>
   intro hs hl
   obtain⟨hk,⟨L,o,hf,hn,ho,hd⟩,hr⟩:=hl
   have hL:L∈X.fs:=hs L (by unfold rY;rw[List.filterMap_cons,hf];exact List.mem_cons_self)
   obtain⟨sl,e⟩:=I.base.slot L o ho (I.ok.frf L hL) hL fun z=>I.ok.exfs L z hL
   exact⟨hk,⟨L,_,hf,hn,e,hd⟩,ih (fun b hb=>hs b (by unfold rY;rw[List.filterMap_cons,hf];exact List.mem_cons_of_mem _ hb)) hr⟩
 exact all X.outer (fun _ hb=>hb) I.ok.funs
theorem Inv.stack (I:Inv X pins σ H s):s.heap.FunFrames X.base X.stack:=by
 rcases I.ok.stk with e|⟨e,hf⟩
 ·rw[e];exact I.funs
 ·rw[e]
  obtain⟨m,hn,_⟩:=I.loc
  refine .cons (by rw[I.ok.kind];decide) hf hn ?_ I.funs
  exact Heap.get?_none_of_le (Nat.le_trans I.ok.bsz I.ok.above)
theorem Inv.stkSub (I:Inv X pins σ H s):∀b∈rY X.stack,b∈X.env.locals::X.fs:=fun b hb=>by
 rcases I.ok.stk with e|⟨e,hf⟩
 ·rw[e] at hb;exact List.mem_cons_of_mem _ hb
 ·rw[e] at hb
  unfold rY at hb
  rw[List.filterMap_cons,hf] at hb
  exact hb
theorem Inv.stkFree (I:Inv X pins σ H s):∀b∈rY X.stack,H b=none:=fun b hb=>by
 rcases List.mem_cons.mp (I.stkSub b hb) with e|hb
 ·rw[e];exact I.free
 ·obtain⟨_,o,ho,_⟩:=I.ok.funs.mem hb
  exact I.base.free b o ho (I.ok.frf b hb) fun z=>I.ok.exfs b z hb
theorem Inv.step {g':Array GenState}{t':Nat}{d':Drawn}{ch:List Addr}(I:Inv X pins σ H s)
  (hch:∀b∈ch,(b∈X.ex\/X.s₀.heap.objs.size≤b)/\b≠X.env.locals/\(∀x c,X.env.cells.lookup x=some c->c≠b)/\∀p∈X.pn++pins,p.1≠b)
  (keep:∀b o,b≠X.env.locals->b∉X.fs->b∉ch->s.heap.get? b=some o->H b=none->h'.get? b=some o)
  (slot:∀b o,b≠X.env.locals->b∈X.fs->b∉ch->s.heap.get? b=some o->H b=none->∃sl,h'.get? b=some { o with slots:=sl }) (free:∀b o,b∉ch->s.heap.get? b=some o->H b=none->H' b=none)
  (there:∀b o,b∉ch->s.heap.get? b=some o->∃o',h'.get? b=some o')
  (tups:∀b xs,H b=some (.tup xs)->H' b=some (.tup xs)) (frzs:∀b o u,H b=some (.frz o u)->H' b=some (.frz o u)) (tbls:∀b ps,H b=some (.tbl ps)->∃more,H' b=some (.tbl (ps++more)))
  (ns:∀m,s.heap.Ns X.env.locals m->h'.Ns X.env.locals m) (hok:HOk X.prog X.w H' h') (hg:AllBare g') :
  Inv X pins σ H' { s with heap:=h',gens:=g',drawn:=d',toks:=t' }:=by
 have neL:∀b o,X.s₀.heap.get? b=some o->b≠X.env.locals:=fun b o e=>Nat.ne_of_lt (Nat.lt_of_lt_of_le (Heap.lt_size e) I.ok.above)
 have neC:∀b o,X.s₀.heap.get? b=some o->b∉X.ex->b∉ch:=fun b o e hx hb=>by
  rcases (hch b hb).1 with z|z
  ·exact hx z
  ·exact absurd (Nat.lt_of_lt_of_le (Heap.lt_size e) z) (Nat.lt_irrefl _)
 have cellK:∀x c,X.env.cells.lookup x=some c->∀v,s.heap.IsCell c v->h'.IsCell c v:=fun x c e v ⟨o,ho,hd⟩=>by
  have nch:c∉ch:=fun z=>(hch c z).2.2.1 x c e rfl
  by_cases hc:c∈X.fs
  ·obtain⟨sl,q⟩:=slot c o (I.cne x c e) hc nch ho (I.freeC x c e)
   exact⟨_,q,hd⟩
  ·exact⟨o,keep c o (I.cne x c e) hc nch ho (I.freeC x c e),hd⟩
 refine⟨I.ok,I.os,hg,⟨fun b o e n hb hx=>?_,fun b o e n hb hx=>?_,fun b o e n hx=>?_,fun b o e hx=>?_,fun b xs e=>tups b xs (I.base.tups b xs e),fun b o xs e=>frzs b o xs (I.base.frzs b o xs e),fun b ps e=>?_⟩,?_,fun x c e=>?_,?_,fun x c e=>?_,fun p hp=>?_,hok,I.len⟩
 ·exact keep b o (neL b o e) hb (neC b o e hx) (I.base.keep b o e n hb hx) (I.base.free b o e n hx)
 ·obtain⟨sl,e1⟩:=I.base.slot b o e n hb hx
  obtain⟨sl',e2⟩:=slot b _ (neL b o e) hb (neC b o e hx) e1 (I.base.free b o e n hx)
  exact⟨sl',e2⟩
 ·obtain⟨o',e1⟩:=I.base.there b o e hx
  exact free b o' (neC b o e hx) e1 (I.base.free b o e n hx)
 ·obtain⟨o',e1⟩:=I.base.there b o e hx
  exact there b o' (neC b o e hx) e1
 ·obtain⟨m1,e1⟩:=I.base.tbls b ps e
  obtain⟨m2,e2⟩:=tbls b _ e1
  exact⟨m1++m2,by rw[e2,Array.append_assoc]⟩
 ·obtain⟨m,hn,hl⟩:=I.loc
  refine⟨m,ns m hn,fun i x v e1 e2 e3=>?_⟩
  obtain⟨u,r,l⟩:=hl i x v e1 e2 e3
  refine⟨u,r,?_⟩
  rcases l with l|⟨k,c,e,z⟩
  ·exact .inl l
  ·exact .inr ⟨k,c,e,cellK x c e _ z⟩
 ·obtain⟨v,z⟩:=I.cell x c e
  exact⟨v,cellK x c e v z⟩
 ·obtain⟨m,⟨o,_,_,ho,_⟩,_⟩:=I.loc
  exact free _ o (fun z=>(hch _ z).2.1 rfl) ho I.free
 ·obtain⟨v,o,ho,hd⟩:=I.cell x c e
  exact free c o (fun z=>(hch c z).2.2.1 x c e rfl) ho (I.freeC x c e)
 ·obtain⟨e,n,ne,nf,d⟩:=I.pin p hp
  have nch:p.1∉ch:=fun z=>(hch p.1 z).2.2.2 p hp rfl
  exact⟨keep p.1 p.2 ne nf nch e n,free p.1 p.2 nch e n,ne,nf,d⟩
theorem Inv.un {t':Nat}(I:Inv X pins σ H s)(u:Un X.fs [] H H' s.heap h')(hok:HOk X.prog X.w H' h'):Inv X pins σ H' { s with heap:=h',toks:=t' }:=by
 obtain⟨m,⟨o,es,ep,ho,r⟩,_⟩:=id I.loc
 obtain⟨sl,hL⟩:=u.any ho I.free (by simp)
 exact I.step (g':=s.gens) (d':=s.drawn) (ch:=[]) (fun _ z=>nomatch z) (fun b o _ hb _ e n=>u.keep b o e n hb (by simp)) (fun b o _ hb _ e n=>u.slot b o e n hb (by simp)) (fun b o _ e n=>u.free b o e n (by simp)) (fun b o _ e=>u.there b o e (by simp)) u.tups u.frzs u.tbls (fun m' hm=>by
  obtain⟨o',es',ep',ho',r'⟩:=hm
  rw[ho] at ho';cases ho'
  exact⟨_,es',ep',hL,r'⟩) hok I.bare
theorem Inv.call {g':Array GenState}{t':Nat}{d':Drawn}{ch:List Addr}(I:Inv X pins σ H s)(u:Un (rY X.stack) ch H H' s.heap h')(hok:HOk X.prog X.w H' h')(hg:AllBare g')
  (hch:∀b∈ch,(b∈X.ex\/X.s₀.heap.objs.size≤b)/\b≠X.env.locals/\(∀x c,X.env.cells.lookup x=some c->c≠b)/\∀p∈X.pn++pins,p.1≠b) :
  Inv X pins σ H' { s with heap:=h',gens:=g',drawn:=d',toks:=t' }:=by
 obtain⟨m,⟨o,es,ep,ho,r⟩,_⟩:=id I.loc
 obtain⟨sl,hL⟩:=u.any ho I.free fun z=>(hch _ z).2.1 rfl
 exact I.step (ch:=ch) hch (fun b o hL hb hc e n=>u.keep b o e n (fun z=>(List.mem_cons.mp (I.stkSub b z)).elim hL hb) hc) (fun b o _ _ hc e n=>u.any e n hc) (fun b o hc e n=>u.free b o e n hc) (fun b o hc e=>u.there b o e hc) u.tups u.frzs u.tbls (fun m' hm=>by
  obtain⟨o',es',ep',ho',r'⟩:=hm
  rw[ho] at ho';cases ho'
  exact⟨_,es',ep',hL,r'⟩) hok hg
theorem Inv.turned {t':Nat}{it:Addr}(I:Inv X pins σ H s)(k:∀b o,b≠it->s.heap.get? b=some o->h'.get? b=some o)(hn:H it=none)(hL:it≠X.env.locals)
  (h1:it∈X.ex\/X.s₀.heap.objs.size≤it) (h2:∀x c,X.env.cells.lookup x=some c->c≠it) (h3:∀p∈X.pn++pins,p.1≠it):Inv X pins σ H { s with heap:=h',toks:=t' }:=by
 have nit:∀b u,H b=some u->b≠it:=fun b u e z=>by rw[z,hn] at e;cases e
 refine I.step (g':=s.gens) (d':=s.drawn) (ch:=[it]) (fun b hb=>?_) (fun b o _ _ hc e _=>k b o (fun z=>hc (by simp[z])) e) (fun b o _ _ hc e _=>⟨o.slots,k b o (fun z=>hc (by simp[z])) e⟩) (fun _ _ _ _ n=>n)
  (fun b o hc e=>⟨o,k b o (fun z=>hc (by simp[z])) e⟩) (fun _ _ e=>e) (fun _ _ _ e=>e) (fun b ps e=>⟨#[],by rw[e];simp⟩) (fun m hm=>?_) (fun b u e=>?_) I.bare
 ·have e:b=it:=by simpa using hb
  subst e
  exact⟨h1,hL,h2,h3⟩
 ·obtain⟨o,es,ep,ho,r⟩:=hm
  exact⟨o,es,ep,k _ o (Ne.symm hL) ho,r⟩
 ·refine (I.hok b u e).stay (fun c v hc q=>k c v ?_ q) (fun _ q=>q) fun _ _ q=>q
  rcases hc with z|z
  ·rw[z];exact nit b u e
  ·exact nit c _ z
theorem Inv.tok (I:Inv X pins σ H s)(t:Nat):Inv X pins σ H { s with toks:=t }:=I.un (h':=s.heap) (t':=t) Un.refl I.hok
theorem Inv.kept {t':Nat}(I:Inv X pins σ H s)(k:∀b u,s.heap.get? b=some u->h'.get? b=some u):Inv X pins σ H { s with heap:=h',toks:=t' }:=I.un (Un.kept k) (I.hok.kept k)
theorem Inv.laid {a:Addr}{o:HO}{t':Nat}(I:Inv X pins σ H s)(k:∀b u,s.heap.get? b=some u->h'.get? b=some u)(hp:s.heap.objs.size≤a)(new:ObjOk X.prog X.w (upd H a o) h' a o) :
  Inv X pins σ (upd H a o) { s with heap:=h',toks:=t' }:=I.un (Un.laid k hp (I.hok.fresh hp)) (I.hok.laid k hp new)
theorem Inv.write {x e:Addr}{o:HO}{t':Nat}(I:Inv X pins σ H s)(mu:MU (H x))(he:e=x\/H e=some (.own x))(k:∀b u,b≠e->s.heap.get? b=some u->h'.get? b=some u)(heo:∃u,h'.get? e=some u)
  (new:ObjOk X.prog X.w (upd H x o) h' x o):Inv X pins σ (upd H x o) { s with heap:=h',toks:=t' }:=I.un (Un.write mu he k heo) (I.hok.write mu he k heo new)
theorem Inv.weak {σ':List (Option V)}(I:Inv X pins σ H s)(hl:σ'.length=σ.length)(w:∀(i:Nat) v,σ'[i]?=some (some v)->σ[i]?=some (some v)):Inv X pins σ' H s:=
 ⟨I.ok,I.os,I.bare,I.base,let ⟨m,hn,hl'⟩:=I.loc;⟨m,hn,fun i x v e1 e2 e3=>hl' i x v e1 (w i v e2) e3⟩,I.cell,I.free,I.freeC,I.pin,I.hok,hl.trans I.len⟩
theorem Inv.pins_of {pins':List (Addr×Obj)}(I:Inv X pins σ H s)(h:∀p∈pins',s.heap.get? p.1=some p.2/\H p.1=none/\p.1≠X.env.locals/\p.1∉X.fs/\∀v,p.2.data≠.cell v):Inv X pins' σ H s:=
 ⟨I.ok,I.os,I.bare,I.base,I.loc,I.cell,I.free,I.freeC,fun p hp=>(List.mem_append.mp hp).elim (fun z=>I.pin p (List.mem_append_left _ z)) (h p),I.hok,I.len⟩
theorem pU {N:List Str}(hN:N.Nodup){i j:Nat}{x:Str}(a:N[i]?=some x)(b:N[j]?=some x):i=j:=by
 obtain⟨h1,e1⟩:=List.getElem?_eq_some_iff.mp a
 obtain⟨h2,e2⟩:=List.getElem?_eq_some_iff.mp b
 exact (List.getElem_inj hN).mp (e1.trans e2.symm)
theorem mY {M:Model}{A:Around}{E:Value->Shared->Prop}{i:Nat}{x:Str}{v:V}{u:Value}{Q:Unit->Shared->Prop}(I:Inv X pins σ H s)(hN:X.N.Nodup)(hi:X.N[i]?=some x)(hx:IV X.env.scope x)(r:RelV v u)
  (h:∀s',Inv X pins (σ.set i (some v)) H s'->(∃a,Heap.SameBut a s.heap s'.heap/\(a=X.env.locals\/X.env.cells.lookup x=some a))->Q () s') (hf:X.fn x=true\/X.env.scope.names.lookup x=some .local:=by first|exact .inl rfl|exact .inr rfl|assumption):wpAny M A (storeName X.env x u) Q E s:=by
 obtain⟨m,hn,hl⟩:=id I.loc
 have hcls:(X.env.scope.kind==.class || (X.env.scope.kind==.module&&X.env.locals != X.env.globals))=false:=by rw[I.ok.kind];rfl
 have hiσ:i<σ.length:=by rw[I.len];exact (List.getElem?_eq_some_iff.mp hi).1
 have cne:=I.cne
 have tracked:∀{a:Addr} {h':Heap},(∃o,s.heap.get? a=some o/\H a=none)->Heap.SameBut a s.heap h'->HOk X.prog X.w H h':=fun {a h'} ha hs b ob e=>by
  obtain⟨_,_,hfree⟩:=ha
  refine (I.hok b ob e).stay (fun c w' hc q=>(hs.2 c ?_).trans q) (fun _ q=>q) fun _ _ q=>q
  rintro rfl
  rcases hc with rfl|hc
  ·rw[hfree] at e;cases e
  ·rw[hfree] at hc;cases hc
 rcases hx with hk|hk
 ·refine wpAny_storeName_local hk hn (fun h' hn' hs=>?_) hcls
  obtain⟨oL,_,_,hoL,_⟩:=id hn
  refine h _ ⟨I.ok,I.os,I.bare,⟨fun b o e n hb hx=>?_,fun b o e n hb hx=>?_,I.base.free,fun b o e hx=>?_,I.base.tups,I.base.frzs,I.base.tbls⟩,⟨_,hn',fun j y v' e1 e2 e3=>?_⟩,fun y c e=>?_,I.free,I.freeC,fun p hp=>?_,tracked ⟨oL,hoL,I.free⟩ hs,by simpa using I.len⟩ ⟨_,hs,.inl rfl⟩
  ·exact (hs.2 b (Nat.ne_of_lt (Nat.lt_of_lt_of_le (Heap.lt_size e) I.ok.above))).trans (I.base.keep b o e n hb hx)
  ·obtain⟨sl,e1⟩:=I.base.slot b o e n hb hx
   exact⟨sl,(hs.2 b (Nat.ne_of_lt (Nat.lt_of_lt_of_le (Heap.lt_size e) I.ok.above))).trans e1⟩
  ·obtain⟨o',e1⟩:=I.base.there b o e hx
   exact⟨o',(hs.2 b (Nat.ne_of_lt (Nat.lt_of_lt_of_le (Heap.lt_size e) I.ok.above))).trans e1⟩
  ·by_cases hj:j=i
   ·subst hj
    rw[hi] at e1;cases e1
    rw[List.getElem?_set_self hiσ] at e2
    cases e2
    exact⟨u,r,.inl ⟨hk,by simp⟩⟩
   ·rw[List.getElem?_set_ne (Ne.symm hj)] at e2
    obtain⟨u',r',q⟩:=hl j y v' e1 e2 e3
    refine⟨u',r',?_⟩
    rcases q with ⟨k,e⟩|⟨k,c,e,z⟩
    ·refine .inl ⟨k,?_⟩
     have:y≠x:=fun e=>hj (pU hN e1 (e▸hi))
     simp[this,e]
    ·exact .inr ⟨k,c,e,z.sameBut hs (cne y c e)⟩
  ·obtain⟨w',z⟩:=I.cell y c e
   exact⟨w',z.sameBut hs (cne y c e)⟩
  ·obtain⟨e,n,ne,nf,d⟩:=I.pin p hp
   exact⟨(hs.2 p.1 ne).trans e,n,ne,nf,d⟩
 ·have hfn:X.fn x=true:=by
   rcases hf with z|z
   ·exact z
   ·rw[z] at hk;cases hk
  obtain⟨c,hc⟩:=I.ok.has x (.inl hk)
  obtain⟨w',z⟩:=I.cell x c hc
  refine wpAny_storeName_cell I.ok.kind hk hc z (fun h' hc' hs=>?_)
  obtain⟨oc,hoc,hocd⟩:=id z
  refine h { s with heap:=h' } ⟨I.ok,I.os,I.bare,⟨fun b o e n hb hx=>?_,fun b o e n hb hx=>?_,I.base.free,fun b o e hx=>?_,I.base.tups,I.base.frzs,I.base.tbls⟩,⟨m,hn.sameBut hs (Ne.symm (cne x c hc)),fun j y v' e1 e2 e3=>?_⟩,fun y c' e=>?_,I.free,I.freeC,fun p hp=>?_,tracked ⟨oc,hoc,I.freeC x c hc⟩ hs,by simpa using I.len⟩ ⟨c,hs,.inr hc⟩
  ·exact (hs.2 b (Nat.ne_of_lt (Nat.lt_of_lt_of_le (Heap.lt_size e) (I.ok.cab x c hfn hc)))).trans (I.base.keep b o e n hb hx)
  ·obtain⟨sl,e1⟩:=I.base.slot b o e n hb hx
   exact⟨sl,(hs.2 b (Nat.ne_of_lt (Nat.lt_of_lt_of_le (Heap.lt_size e) (I.ok.cab x c hfn hc)))).trans e1⟩
  ·obtain⟨o',e1⟩:=I.base.there b o e hx
   exact⟨o',(hs.2 b (Nat.ne_of_lt (Nat.lt_of_lt_of_le (Heap.lt_size e) (I.ok.cab x c hfn hc)))).trans e1⟩
  ·by_cases hj:j=i
   ·subst hj
    rw[hi] at e1;cases e1
    rw[List.getElem?_set_self hiσ] at e2
    cases e2
    exact⟨u,r,.inr ⟨.inl hk,c,hc,hc'⟩⟩
   ·rw[List.getElem?_set_ne (Ne.symm hj)] at e2
    obtain⟨u',r',q⟩:=hl j y v' e1 e2 e3
    refine⟨u',r',?_⟩
    rcases q with q|⟨k,c',e,z'⟩
    ·exact .inl q
    ·refine .inr ⟨k,c',e,z'.sameBut hs ?_⟩
     rintro rfl
     exact hj (pU hN e1 (I.ok.inj _ _ _ e hc▸hi))
  ·by_cases hcc:c'=c
   ·subst hcc;exact⟨_,hc'⟩
   ·obtain⟨w2,z2⟩:=I.cell y c' e
    exact⟨w2,z2.sameBut hs hcc⟩
  ·obtain⟨e,n,ne,nf,d⟩:=I.pin p hp
   refine⟨(hs.2 p.1 ?_).trans e,n,ne,nf,d⟩
   intro q
   rw[q,hoc] at e
   have q':oc=p.2:=Option.some.inj e
   exact d w' (by rw[←q'];exact hocd)
theorem gx {M:Model}{A:Around}{E:Value->Shared->Prop}{i:Nat}{x:Str}{v:V}{u:Value}{Q:Unit->Shared->Prop}(I:Inv X pins σ H s)(hN:X.N.Nodup)(hi:X.N[i]?=some x)(hx:IV X.env.scope x)(r:RelV v u)
  (h:∀s',Inv X pins (σ.set i (some v)) H s'->Q () s') (hf:X.fn x=true\/X.env.scope.names.lookup x=some .local:=by first|exact .inl rfl|exact .inr rfl|assumption):wpAny M A (storeName X.env x u) Q E s:=
 mY I hN hi hx r (fun s' I' _=>h s' I') hf
theorem Inv.call' {s':Shared}{ch:List Addr}(I:Inv X pins σ H s)(ho:s'.os=s.os)(u:Un (rY X.stack) ch H H' s.heap s'.heap)(hok:HOk X.prog X.w H' s'.heap)(hg:AllBare s'.gens)
  (hch:∀b∈ch,(b∈X.ex\/X.s₀.heap.objs.size≤b)/\b≠X.env.locals/\(∀x c,X.env.cells.lookup x=some c->c≠b)/\∀p∈X.pn++pins,p.1≠b):Inv X pins σ H' s':=by
 obtain⟨h',g',d',t',o'⟩:=s'
 have e:o'=s.os:=ho
 subst e
 exact I.call (g':=g') (t':=t') (d':=d') u hok hg hch
end
noncomputable abbrev XK:=Value->Option Addr->Hp->Prop
noncomputable abbrev St:=List (Option V)
noncomputable abbrev VK:=V->Hp->Prop
noncomputable abbrev TE:=St->Hp->VK->Prop
noncomputable abbrev TT:=St->Hp->(Bool->Hp->Prop)->Prop
noncomputable abbrev TA:=St->Hp->(List V->Hp->Prop)->Prop
structure Ends where
 nx:St->Hp->Prop
 rt:VK
 bk:St->Hp->Prop:=fun _ _=>False
 ct:St->Hp->Prop:=fun _ _=>False
noncomputable abbrev TS:=Ends->St->Hp->Prop
noncomputable def EP (X:Cx)(pins:List (Addr×Obj))(σ:St)(Q:VK)(u:Value)(s':Shared):Prop:=∃v H',Inv X pins σ H' s'/\RelV v u/\Q v H'
noncomputable def TP (X:Cx)(pins:List (Addr×Obj))(σ:St)(Q:Bool->Hp->Prop)(b:Bool)(s':Shared):Prop:=∃H',Inv X pins σ H' s'/\Q b H'
noncomputable def AP (X:Cx)(pins:List (Addr×Obj))(σ:St)(Q:List V->Hp->Prop)(us:List Value)(s':Shared):Prop:=∃vs H',Inv X pins σ H' s'/\Vals vs us/\Q vs H'
noncomputable def SP (X:Cx)(pins:List (Addr×Obj))(D:Ends)(f:Flow)(s':Shared):Prop:=
 match f with
 |.next=>∃σ' H',Inv X pins σ' H' s'/\D.nx σ' H'
 |.brk=>∃σ' H',Inv X pins σ' H' s'/\D.bk σ' H'
 |.cont=>∃σ' H',Inv X pins σ' H' s'/\D.ct σ' H'
 |.ret u=>∃v σ' H',Inv X pins σ' H' s'/\RelV v u/\D.rt v H'
noncomputable def PE (X:Cx)(e:Expr)(t:TE):Prop:=
 ∀(pins:List (Addr×Obj)) (s:Shared) (σ:St) (H:Hp) (Q:VK),Inv X pins σ H s->t σ H Q->wpAny (model X.prog X.w) X.A (eval e X.env) (EP X pins σ Q) X.xe s
noncomputable def PT (X:Cx)(e:Expr)(t:TT):Prop:=
 ∀(pins:List (Addr×Obj)) (s:Shared) (σ:St) (H:Hp) (Q:Bool->Hp->Prop),Inv X pins σ H s->t σ H Q->wpAny (model X.prog X.w) X.A (isTrue e X.env (eval e X.env)) (TP X pins σ Q) X.xe s
noncomputable def PW (X:Cx)(e:Expr)(t:TT):Prop:=
 ∀(whole:Sem Value) (pins:List (Addr×Obj)) (s:Shared) (σ:St) (H:Hp) (Q:Bool->Hp->Prop),Inv X pins σ H s->t σ H Q->wpAny (model X.prog X.w) X.A (isTrue e X.env whole) (TP X pins σ Q) X.xe s
theorem PW.pt {X:Cx}{e:Expr}{t:TT}(h:PW X e t):PT X e t:=h _
noncomputable def PA (X:Cx)(es:List Expr)(t:TA):Prop:=
 ∀(pos:Pos) (pins:List (Addr×Obj)) (s:Shared) (σ:St) (H:Hp) (Q:List V->Hp->Prop),Inv X pins σ H s->t σ H Q->wpAny (model X.prog X.w) X.A (spliced (backTo pos (starEach es X.env))) (AP X pins σ Q) X.xe s
noncomputable def PS (X:Cx)(st:Stmt)(t:TS):Prop:=
 ∀(pins:List (Addr×Obj)) (s:Shared) (σ:St) (H:Hp) (D:Ends),Inv X pins σ H s->t D σ H->wpAny (model X.prog X.w) X.A (exec st X.env) (SP X pins D) X.xe s
noncomputable def PSs (X:Cx)(st:List Stmt)(t:TS):Prop:=
 ∀(pins:List (Addr×Obj)) (s:Shared) (σ:St) (H:Hp) (D:Ends),Inv X pins σ H s->t D σ H->wpAny (model X.prog X.w) X.A (execs st X.env) (SP X pins D) X.xe s
theorem bv {α:Type}{t:Sem α}{Q Q':α->Shared->Prop}{M:Model}{A:Around}{E:Value->Shared->Prop}{s:Shared}(h:wpAny M A t Q E s)(hQ:∀a s,Q a s->Q' a s):wpAny M A t Q' E s:=wpAny_mono h hQ fun _ _ x=>x
end L2
namespace L2
open PySem PySem.Spec PyProof.Rows
section
variable {X:Cx}
noncomputable def iA (i:Nat):TE:=fun σ H Q=>∃v,σ[i]?=some (some v)/\Q v H
noncomputable def tC (v:V):TE:=fun _ H Q=>Q v H
theorem sN {i:Nat}{x:Str}{pos:Pos}(hN:X.N[i]?=some x)(hv:D7 X.env.scope x)(hd:(x==("__debug__" : Str))=false:=by decide)(hcd:(x==("__classdict__" : Str))=false:=by decide):PE X (.Name x pos) (iA i):=by
 intro pins s σ H Q I h
 obtain⟨v,e,h⟩:=h
 obtain⟨m,hn,hl⟩:=I.loc
 obtain⟨u,r,l⟩:=hl i x v hN e hv
 have fin:EP X pins σ Q u s:=⟨v,H,I,r,h⟩
 rcases l with ⟨hk,hm⟩|⟨hk,c,hc,hcell⟩
 ·exact wpAny_Name (wpAny_loadName_local I.ok.kind hk hn hm fin) hd
 ·rcases hk with hk|hk
  ·exact wpAny_Name (wpAny_loadName_cell I.ok.kind hk hc hcell fin) hd
  ·exact wpAny_Name (wpAny_loadName_free I.ok.kind hk hc hcell fin hcd) hd
theorem y1 {i j pos}:PE X (.Constant (.int i) j pos) (tC (.int i)):=fun _ _ _ H _ I h=>wpAny_Constant_int ⟨.int i,H,I.tok _,⟨_,rfl⟩,h⟩
theorem Mw {b j pos}:PE X (.Constant (.bool b) j pos) (tC (.bl b)):=fun _ _ _ H _ I h=>Constant_bool ⟨.bl b,H,I,rfl,h⟩
theorem Ez {j pos}:PE X (.Constant .none j pos) (tC .non):=fun _ _ _ H _ I h=>Constant_none ⟨.non,H,I,rfl,h⟩
theorem IG {x j pos}:PE X (.Constant (.str x) j pos) (tC (.str x)):=fun _ _ _ H _ I h=>Calls.Constant_str ⟨.str x,H,I.tok _,⟨_,rfl⟩,h⟩
noncomputable def Gl (X:Cx)(x:Str):Prop:=X.env.kindOf x=some .globalImplicit
theorem nN {E:Value->Shared->Prop}{pins:List (Addr×Obj)}{s:Shared}{σ:St}{H:Hp}{x:Str}{u:Value}{pos:Pos}{Q:Value->Shared->Prop}(I:Inv X pins σ H s)(hg:Gl X x)(hm:X.mg x=some u)(h:Q u s)
  (hd:(x==("__debug__" : Str))=false:=by decide):wpAny (model X.prog X.w) X.A (eval (.Name x pos) X.env) Q E s:=
 Calls.Name_function_global I.ok.kind hg (Calls.loadGlobal_global (by rw[I.ok.glob];exact I.mod.glob.keeps I.bk) hm h) hd
theorem gy {E:Value->Shared->Prop}{pins:List (Addr×Obj)}{s:Shared}{σ:St}{H:Hp}{x:Str}{u:Value}{pos:Pos}{Q:Value->Shared->Prop}(I:Inv X pins σ H s)(hg:Gl X x)(hm:X.mg x=none)(hv:bootBuiltins x=some u)(h:Q u s)
  (hn:x ≠ "__name__":=by decide) (hd:(x==("__debug__" : Str))=false:=by decide):wpAny (model X.prog X.w) X.A (eval (.Name x pos) X.env) Q E s:=by
 obtain⟨mb,h1,h2⟩:=I.mod.blt
 exact Calls.Name_function_global I.ok.kind hg (Calls.loadGlobal_builtin (by rw[I.ok.glob];exact I.mod.glob.keeps I.bk) hm (by rw[I.ok.blt];exact h1.keeps I.bk) ((h2 x hn).trans hv) h) hd
theorem iW {x:Str}{v:V}{u:Value}{pos:Pos}(hg:Gl X x)(hm:X.mg x=some u)(r:RelV v u)(hd:(x==("__debug__" : Str))=false:=by decide):PE X (.Name x pos) (tC v):=
 fun _ _ _ H _ I h=>nN I hg hm ⟨v,H,I,r,h⟩ hd
theorem BD {x:Str}{v:V}{u:Value}{pos:Pos}(hg:Gl X x)(hm:X.mg x=none)(hv:bootBuiltins x=some u)(r:RelV v u)(hn:x ≠ "__name__":=by decide)(hd:(x==("__debug__" : Str))=false:=by decide):PE X (.Name x pos) (tC v):=
 fun _ _ _ H _ I h=>gy I hg hm hv ⟨v,H,I,r,h⟩ hn hd
variable {a b:Expr}{ta tb:TE}{pos:Pos}
noncomputable def PC (X:Cx)(op:CmpOp)(a b:Expr)(t:TE):Prop:=
 ∀(pins:List (Addr×Obj)) (s:Shared) (σ:St) (H:Hp) (Q:VK),Inv X pins σ H s->t σ H Q →
  wpAny (model X.prog X.w) X.A (eval a X.env) (fun v s₁=>wpAny (model X.prog X.w) X.A (eval b X.env) (fun u s₂=>wpAny (model X.prog X.w) X.A (compareOp op v u) (EP X pins σ Q) X.xe s₂) X.xe s₁) X.xe s
theorem zj (b:Expr){op:CmpOp}(h:op≠.In)(h2:op≠.NotIn):behindInMarks op b=false:=by
 have e1:(op==CmpOp.In)=false:=by cases op<;>first|rfl|exact absurd rfl h
 have e2:(op==CmpOp.NotIn)=false:=by cases op<;>first|rfl|exact absurd rfl h2
 cases b<;>simp[behindInMarks,e1,e2]
noncomputable def tB (t:TE):TT:=fun σ H Q=>t σ H fun x H1=>∃c,x=.bl c/\Q c H1
theorem Gp {op:CmpOp}{t:TE}(h:PC X op a b t)(h1:behindInMarks op b=false:=by first|exact zj _ (by decide) (by decide)|rfl):PE X (.Compare a [op] [b] pos) t:=fun pins s σ H Q I hw=>wpAny_Compare1 (h pins s σ H Q I hw) h1
theorem Id {e:Expr}{t:TE}(h:PE X e t)(he:∀whole,isTrue e X.env whole=(do let v ←whole;standAt e.pos;holding [v] (truthy v)):=by intro _;rfl):PT X e (tB t):=by
 intro pins s σ H Q I hw
 refine isTrue_plain (bv (h pins s σ H _ I hw) fun v s1 ⟨x,H1,I1,r1,q1⟩=>?_) (he _)
 obtain⟨d,rfl,q⟩:=q1
 cases r1
 exact wpAny_truthy_bool ⟨H1,I1,q⟩
variable {tA tB':TT}{bN:List Expr}
noncomputable def G3 (t u:TT):TT:=fun σ H Q=>t σ H fun c H1=>if c=true then u σ H1 Q else Q false H1
noncomputable def Oq (t u:TT):TT:=fun σ H Q=>t σ H fun c H1=>if c=true then Q true H1 else u σ H1 Q
noncomputable def Ij (t:TT):TT:=fun σ H Q=>t σ H fun c H1=>Q (!c) H1
theorem A0 (ha:PT X a tA):PW X (.BoolOp .And [a] pos) tA:=by
 intro wh pins s σ H Q I h
 refine isTrue_and (bv (ha pins s σ H Q I h) fun c s1 e=>?_)
 cases c with
 |true=>exact isTrue_and_nil e
 |false=>exact e
theorem Iw (ha:PT X a tA):PW X (.BoolOp .Or [a] pos) tA:=by
 intro wh pins s σ H Q I h
 refine isTrue_or (bv (ha pins s σ H Q I h) fun c s1 e=>?_)
 cases c with
 |false=>exact isTrue_or_nil e
 |true=>exact e
theorem Gd (ha:PT X a tA)(hb:PW X (.BoolOp .And (b::bN) pos) tB'):PW X (.BoolOp .And (a::b::bN) pos) (G3 tA tB'):=by
 intro wh pins s σ H Q I h
 refine isTrue_and (bv (ha pins s σ H _ I h) fun c s1 ⟨H1,I1,q1⟩=>?_)
 cases c with
 |true=>exact hb wh pins s1 σ H1 Q I1 q1
 |false=>exact⟨H1,I1,q1⟩
theorem JI (ha:PT X a tA)(hb:PW X (.BoolOp .Or (b::bN) pos) tB'):PW X (.BoolOp .Or (a::b::bN) pos) (Oq tA tB'):=by
 intro wh pins s σ H Q I h
 refine isTrue_or (bv (ha pins s σ H _ I h) fun c s1 ⟨H1,I1,q1⟩=>?_)
 cases c with
 |true=>exact⟨H1,I1,q1⟩
 |false=>exact hb wh pins s1 σ H1 Q I1 q1
theorem Gs (ha:PT X a tA):PT X (.UnaryOp .Not a pos) (Ij tA):=by
 intro pins s σ H Q I h
 exact isTrue_not (ha pins s σ H (fun c H1=>Q (!c) H1) I h)
noncomputable def wS (ta tb:TE):TE:=fun σ H Q=>ta σ H fun x H1=>∃c,x=.bl c/\if c=true then tb σ H1 Q else Q (.bl false) H1
noncomputable def Jf (ta tb:TE):TE:=fun σ H Q=>ta σ H fun x H1=>∃c,x=.bl c/\if c=true then Q (.bl true) H1 else tb σ H1 Q
noncomputable def wL (ta:TE):TE:=fun σ H Q=>ta σ H fun x H1=>∃c,x=.bl c/\Q (.bl (!c)) H1
theorem y6 {op}{t:TE}(h:PE X a t):PE X (.BoolOp op [a] pos) t:=fun pins s σ H Q I hw=>BoolOp_one (h pins s σ H Q I hw)
theorem wJ (ha:PE X a ta)(hb:PE X (.BoolOp .And (b::bN) pos) tb):PE X (.BoolOp .And (a::b::bN) pos) (wS ta tb):=by
 intro pins s σ H Q I h
 refine BoolOp_and (bv (ha pins s σ H _ I h) fun v s1 ⟨x,H1,I1,r1,q1⟩=>?_)
 obtain⟨c,rfl,q1⟩:=q1
 cases r1
 refine wpAny_truthy_bool ?_
 cases c with
 |true=>exact hb pins s1 σ H1 Q I1 q1
 |false=>exact⟨.bl false,H1,I1,rfl,q1⟩
theorem Lw (ha:PE X a ta)(hb:PE X (.BoolOp .Or (b::bN) pos) tb):PE X (.BoolOp .Or (a::b::bN) pos) (Jf ta tb):=by
 intro pins s σ H Q I h
 refine BoolOp_or (bv (ha pins s σ H _ I h) fun v s1 ⟨x,H1,I1,r1,q1⟩=>?_)
 obtain⟨c,rfl,q1⟩:=q1
 cases r1
 refine wpAny_truthy_bool ?_
 cases c with
 |false=>exact hb pins s1 σ H1 Q I1 q1
 |true=>exact⟨.bl true,H1,I1,rfl,q1⟩
theorem HY (ha:PE X a ta):PE X (.UnaryOp .Not a pos) (wL ta):=by
 intro pins s σ H Q I h
 refine UnaryOp_ (bv (ha pins s σ H _ I h) fun v s1 ⟨x,H1,I1,r1,q1⟩=>?_)
 obtain⟨c,rfl,q1⟩:=q1
 cases r1
 exact not_of (wpAny_truthy_bool ⟨.bl (!c),H1,I1,rfl,q1⟩)
noncomputable def Nm (t:TT)(ta tb:TE):TE:=fun σ H Q=>t σ H fun c H1=>if c=true then ta σ H1 Q else tb σ H1 Q
theorem xa {c:Expr}(hc:PT X c tA)(ha:PE X a ta)(hb:PE X b tb):PE X (.IfExp c a b pos) (Nm tA ta tb):=by
 intro pins s σ H Q I h
 refine wpAny_IfExp (bv (hc pins s σ H _ I h) fun d s1 ⟨H1,I1,q1⟩=>?_)
 cases d with
 |true=>exact ha pins s1 σ H1 Q I1 q1
 |false=>exact hb pins s1 σ H1 Q I1 q1
end
end L2
namespace L2
open PySem PySem.Spec PyProof.Rows
noncomputable def SqL (K:PySem.W.Frag)(H:Hp)(a:Addr)(xs:List V):Prop:=
 Rd H a (.lst xs) ∨
  ∃(o:Obj) (its:Array Value) (n:Nat),K.lookup a=some o/\o.cls=.type "list"/\o.dict=none/\o.data=.seq its n/\its.size≤sizeLine/\Vals xs its.toList
noncomputable def SqT (K:PySem.W.Frag)(H:Hp)(a:Addr)(xs:List V):Prop:=
 Rd H a (.tup xs) ∨
  ∃(o:Obj) (its:Array Value) (n:Nat),K.lookup a=some o/\o.cls=.type "tuple"/\o.data=.seq its n/\its.size≤sizeLine/\Vals xs its.toList
noncomputable def MZ:Value->Option V
 |.none=>some .non
 |.bool b=>some (.bl b)
 |.int i _=>some (.int i)
 |.str x _=>some (.str x)
 |.bytes b _=>some (.byt b)
 |.float b _=>some (.flt b)
 |.ref a=>some (.ref a)
 |.type n=>some (.ty n)
 |_=>none
theorem RelV.abs {x:V}{u:Value}(r:RelV x u):MZ u=some x:=by
 cases x with
 |non=>cases r;rfl
 |bl _=>cases r;rfl
 |int _=>obtain⟨t,rfl⟩:=r;rfl
 |str _=>obtain⟨t,rfl⟩:=r;rfl
 |byt _=>obtain⟨t,rfl⟩:=r;rfl
 |flt _=>obtain⟨t,rfl⟩:=r;rfl
 |ref _=>cases r;rfl
 |ty _=>cases r;rfl
theorem RelV.inj {x y:V}{u:Value}(r:RelV x u)(q:RelV y u):x=y:=Option.some.inj (r.abs.symm.trans q.abs)
theorem Vals.inj:∀{xs ys:List V} {us:List Value},Vals xs us->Vals ys us->xs=ys
 |_,_,_,.nil,.nil=>rfl
 |_,_,_,.cons r t,.cons r' t'=>by rw[r.inj r',Vals.inj t t']
section
variable {X:Cx}{pins:List (Addr×Obj)}{σ:St}{H:Hp}{s:Shared}{a:Addr}{xs ys:List V}
theorem SqL.of {K:PySem.W.Frag}(h:H a=some (.lst xs)):SqL K H a xs:=.inl (.inl h)
theorem SqT.of {K:PySem.W.Frag}(h:H a=some (.tup xs)):SqT K H a xs:=.inl (.inl h)
theorem Inv.list (I:Inv X pins σ H s)(h:SqL X.K H a xs):∃its:List Value,Vals xs its/\PlainL s.heap a its.toArray/\xs.length≤sizeLine:=by
 rcases h with h|⟨o,its,n,hk,hc,hd,hs,hz,r⟩
 ·obtain⟨z,its,n,r,e⟩:=h.ok I.hok
  exact⟨its,r,⟨_,n,e,rfl,rfl,rfl⟩,z⟩
 ·refine⟨its.toList,r,⟨o,n,I.kIn a o hk,hc,hd,by simpa using hs⟩,?_⟩
  have e:=r.length
  simp only[Array.length_toList] at e
  omega
theorem Inv.tuple (I:Inv X pins σ H s)(h:SqT X.K H a xs):∃its:List Value,Vals xs its/\IsTup s.heap a its.toArray/\xs.length≤sizeLine:=by
 rcases h with h|⟨o,its,n,hk,hc,hs,hz,r⟩
 ·obtain⟨z,its,r,p⟩:=h.ok I.hok
  exact⟨its,r,p,z⟩
 ·refine⟨its.toList,r,⟨o,I.kIn a o hk,hc,n,by simpa using hs⟩,?_⟩
  have e:=r.length
  simp only[Array.length_toList] at e
  omega
theorem Inv.list_inj (I:Inv X pins σ H s)(h:SqL X.K H a xs)(h':SqL X.K H a ys):xs=ys:=by
 obtain⟨its,r,⟨o,n,e,_,_,d⟩,_⟩:=I.list h
 obtain⟨its',r',⟨o',n',e',_,_,d'⟩,_⟩:=I.list h'
 rw[e] at e';cases e'
 rw[d] at d'
 injection d' with d1 _
 have:its=its':=by simpa using congrArg Array.toList d1
 subst this
 exact r.inj r'
theorem Inv.tuple_inj (I:Inv X pins σ H s)(h:SqT X.K H a xs)(h':SqT X.K H a ys):xs=ys:=by
 obtain⟨its,r,⟨o,e,_,n,d⟩,_⟩:=I.tuple h
 obtain⟨its',r',⟨o',e',_,n',d'⟩,_⟩:=I.tuple h'
 rw[e] at e';cases e'
 rw[d] at d'
 injection d' with d1 _
 have:its=its':=by simpa using congrArg Array.toList d1
 subst this
 exact r.inj r'
end
noncomputable abbrev Cx.wish (X:Cx)(E:Value->Shared->Prop):Cx:={ X with xe:=E }
noncomputable abbrev Cx.nox (X:Cx):Cx:=X.wish fun _ _=>False
theorem Cx.Ok.wish {X:Cx}(ok:X.Ok)(E:Value->Shared->Prop):(X.wish E).Ok:=
 ⟨ok.mod,ok.kind,ok.glob,ok.blt,ok.above,ok.inj,ok.has,ok.cab,ok.hd,ok.frames,ok.stk,ok.exf,ok.bs,ok.bsz,ok.noex,ok.exfs,ok.funs,ok.frf⟩
theorem Cx.Ok.unwish {X:Cx}{E:Value->Shared->Prop}(ok:(X.wish E).Ok):X.Ok:=
 ⟨ok.mod,ok.kind,ok.glob,ok.blt,ok.above,ok.inj,ok.has,ok.cab,ok.hd,ok.frames,ok.stk,ok.exf,ok.bs,ok.bsz,ok.noex,ok.exfs,ok.funs,ok.frf⟩
section
variable {X:Cx}{pins:List (Addr×Obj)}{σ:St}{H:Hp}{s:Shared}{E:Value->Shared->Prop}
theorem Inv.wish (I:Inv X pins σ H s)(E:Value->Shared->Prop):Inv (X.wish E) pins σ H s:=⟨I.ok.wish E,I.os,I.bare,I.base,I.loc,I.cell,I.free,I.freeC,I.pin,I.hok,I.len⟩
theorem Inv.unwish (I:Inv (X.wish E) pins σ H s):Inv X pins σ H s:=⟨I.ok.unwish,I.os,I.bare,I.base,I.loc,I.cell,I.free,I.freeC,I.pin,I.hok,I.len⟩
theorem SP.unwish {D:Ends}{f:Flow}{s':Shared}(h:SP (X.wish E) pins D f s'):SP X pins D f s':=by
 cases f with
 |next=>obtain⟨σ',H',I,q⟩:=h;exact⟨σ',H',I.unwish,q⟩
 |brk=>obtain⟨σ',H',I,q⟩:=h;exact⟨σ',H',I.unwish,q⟩
 |cont=>obtain⟨σ',H',I,q⟩:=h;exact⟨σ',H',I.unwish,q⟩
 |ret u=>obtain⟨v,σ',H',I,r,q⟩:=h;exact⟨v,σ',H',I.unwish,r,q⟩
theorem PSs.nox {st:List Stmt}{t:TS}(h:PSs X.nox st t):PSs X st t:=fun pins s σ H D I hw=>
 wpAny_mono (h pins s σ H D (I.wish _) hw) (fun _ _ q=>q.unwish) fun _ _ z=>False.elim z
end
section
variable {X:Cx}{st:Stmt}{bN:List Stmt}{t u:TS}{e:Expr}{te:TE}{pos:Pos}
noncomputable def ra:TS:=fun D σ H=>D.nx σ H
noncomputable def G1 (t u:TS):TS:=fun D σ H=>t { D with nx:=u D } σ H
theorem Ai:PSs X [] ra:=fun _ _ σ H _ I h=>wpAny_execs_nil ⟨σ,H,I,h⟩
theorem y3 (h1:PS X st t)(h2:PSs X bN u):PSs X (st::bN) (G1 t u):=by
 intro pins s σ H D I h
 refine wpAny_execs_cons (bv (h1 pins s σ H { D with nx:=u D } I h) fun f s1 q=>?_)
 cases f with
 |next=>
  obtain⟨σ',H',I',q⟩:=q
  exact h2 pins s1 σ' H' D I' q
 |ret v=>exact q
 |brk=>exact q
 |cont=>exact q
theorem tz (h1:PS X st t):PSs X [st] t:=by
 intro pins s σ H D I h
 refine wpAny_execs_cons (bv (h1 pins s σ H D I h) fun f s1 q=>?_)
 cases f with
 |next=>exact wpAny_execs_nil q
 |ret v=>exact q
 |brk=>exact q
 |cont=>exact q
noncomputable def EH:TS:=fun D σ H=>D.bk σ H
noncomputable def Lg:TS:=fun D σ H=>D.ct σ H
theorem A9:PS X (.Pass pos) ra:=fun _ _ σ H _ I h=>wpAny_Pass ⟨σ,H,I,h⟩
theorem yB:PS X (.Break pos) EH:=fun _ _ σ H _ I h=>wpAny_Break ⟨σ,H,I,h⟩
theorem qN:PS X (.Continue pos) Lg:=fun _ _ σ H _ I h=>wpAny_Continue ⟨σ,H,I,h⟩
theorem Inv.quiet {pins:List (Addr×Obj)}{σ:St}{H:Hp}{s:Shared}(I:Inv X pins σ H s):interactive X.env=false:=by simp[interactive,I.ok.kind]
theorem Ia {x j pos pos'}:PS X (.Expr (.Constant (.str x) j pos) pos') ra:=fun _ s σ H _ I h=>wpAny_Expr (Calls.Constant_str (show SP X _ _ .next { s with toks:=s.toks+1 } from⟨σ,H,I.tok _,h⟩)) I.quiet
noncomputable def iN (te:TE):TS:=fun D σ H=>te σ H fun _ H1=>D.nx σ H1
theorem jX (he:PE X e te)(hs:swapsWith e none pos.line X.env=pure false:=by rfl):PS X (.Expr e pos) (iN te):=by
 intro pins s σ H D I h
 exact wpAny_Expr_any (bv (he pins s σ H _ I h) fun v s1 ⟨x,H1,I1,r1,q1⟩=>⟨σ,H1,I1,q1⟩) I.quiet hs
noncomputable def F8 (te:TE):TS:=fun D σ H=>te σ H D.rt
theorem nU (he:PE X e te):PS X (.Return (some e) pos) (F8 te):=by
 intro pins s σ H D I h
 exact wpAny_Return_some (bv (he pins s σ H _ I h) fun v s1 ⟨x,H1,I1,r1,q1⟩=>⟨x,σ,H1,I1,r1,q1⟩)
noncomputable def DQ:TS:=fun D _ H=>D.rt .non H
noncomputable def IL (c:TT)(t u:TS):TS:=fun D σ H=>c σ H fun b H1=>if b=true then t D σ H1 else u D σ H1
theorem Kb {c:Expr}{a b:List Stmt}{tc:TT}(hc:PT X c tc)(ha:PSs X a t)(hb:PSs X b u):PS X (.If c a b pos) (IL tc t u):=by
 intro pins s σ H D I h
 refine wpAny_If (bv (hc pins s σ H _ I h) fun d s1 ⟨H1,I1,q1⟩=>?_)
 cases d with
 |true=>exact ha pins s1 σ H1 D I1 q1
 |false=>exact hb pins s1 σ H1 D I1 q1
noncomputable def sw:TS:=fun _ _ _=>False
theorem yg:PS X st sw:=fun _ _ _ _ _ _ h=>h.elim
end
noncomputable abbrev TG:=V->St->Hp->(St->Hp->Prop)->Prop
noncomputable abbrev rb:=List V->St->Hp->(St->Hp->Prop)->Prop
noncomputable def PG (X:Cx)(target:Expr)(t:TG):Prop:=
 ∀(pins:List (Addr×Obj)) (s:Shared) (σ:St) (H:Hp) (v:V) (u:Value) (Q:St->Hp->Prop),Inv X pins σ H s->RelV v u->t v σ H Q →
  wpAny (model X.prog X.w) X.A (assign target X.env u) (fun _ s'=>∃σ' H',Inv X pins σ' H' s'/\Q σ' H') X.xe s
noncomputable def ME (X:Cx)(ts:List Expr)(t:rb):Prop:=
 ∀(pins:List (Addr×Obj)) (s:Shared) (σ:St) (H:Hp) (vs:List V) (us:List Value) (Q:St->Hp->Prop),Inv X pins σ H s->Vals vs us->t vs σ H Q →
  wpAny (model X.prog X.w) X.A (assignInOrder ((assignEach ts X.env).map (·.2)) us) (fun _ s'=>∃σ' H',Inv X pins σ' H' s'/\Q σ' H') X.xe s
noncomputable abbrev yr:=V->V->V->Hp->(Hp->Prop)->Prop
noncomputable def HI (X:Cx)(t:yr):Prop:=
 ∀(pins:List (Addr×Obj)) (s:Shared) (σ:St) (H:Hp) (o i v:V) (ov iv u:Value) (Q:Hp->Prop),Inv X pins σ H s->RelV o ov->RelV i iv->RelV v u->t o i v H Q →
  wpAny (model X.prog X.w) X.A (setItem ov iv u) (fun _ s'=>∃H',Inv X pins σ H' s'/\Q H') X.xe s
noncomputable abbrev JG:=V->V->Hp->VK->Prop
noncomputable def Ju (X:Cx)(op:Operator)(t:JG):Prop:=
 ∀(pins:List (Addr×Obj)) (s:Shared) (σ:St) (H:Hp) (x y:V) (v u:Value) (Q:VK),Inv X pins σ H s->RelV x v->RelV y u->t x y H Q →
  wpAny (model X.prog X.w) X.A (inplaceOp op v u) (EP X pins σ Q) X.xe s
section
variable {X:Cx}{pos:Pos}
noncomputable def dc (i:Nat):TG:=fun v σ H Q=>Q (σ.set i (some v)) H
theorem AB {i:Nat}{x:Str}(hN:X.N.Nodup)(hi:X.N[i]?=some x)(hx:IV X.env.scope x)(hf:X.fn x=true\/X.env.scope.names.lookup x=some .local:=by first|exact .inl rfl|exact .inr rfl|assumption):PG X (.Name x pos) (dc i):=by
 intro pins s σ H v u Q I r h
 exact wpAny_assign_Name (gx I hN hi hx r (fun s' I'=>⟨_,H,I',h⟩) hf)
noncomputable def vE:rb:=fun vs σ H Q=>vs=[]/\Q σ H
noncomputable def nF (t:TG)(u:rb):rb:=fun vs σ H Q=>∃v r,vs=v::r/\t v σ H fun σ' H'=>u r σ' H' Q
theorem AI:ME X [] vE:=by
 intro pins s σ H vs us Q I r h
 obtain⟨e,h⟩:=h
 subst e
 cases r
 exact assignInOrder_nil ⟨σ,H,I,h⟩
theorem xO {e:Expr}{es:List Expr}{t:TG}{u:rb}(h1:PG X e t)(h2:ME X es u)
  (hs:(assignEach (e::es) X.env).map (·.2)=assign e X.env::(assignEach es X.env).map (·.2):=by rfl):ME X (e::es) (nF t u):=by
 intro pins s σ H vs us Q I r h
 obtain⟨v,vr,e1,h⟩:=h
 subst e1
 cases r with
 |cons r rr=>
  rw[hs]
  refine assignInOrder_cons (bv (h1 pins s σ H _ _ _ I r h) fun _ s1 ⟨σ1,H1,I1,q1⟩=>?_)
  exact h2 pins s1 σ1 H1 _ _ Q I1 rr q1
noncomputable def vz (K:PySem.W.Frag)(n:Nat)(t:rb):TG:=fun v σ H Q=>∃a xs,v=.ref a/\SqT K H a xs/\xs.length=n/\t xs σ H Q
theorem FP {es:List Expr}{k:Nat}{t:rb}{n:Nat}(hc:X.calm=true)(h:ME X es t)
  (hn:(assignEach es X.env).length=n:=by rfl) (hst:(assignEach es X.env).findIdx? (·.1)=none:=by rfl):PG X (.Tuple es k pos) (vz X.K n t):=by
 intro pins s σ H v u Q I r hw
 obtain⟨a,xs,e1,hq,hl,hw⟩:=hw
 subst e1
 cases r
 obtain⟨its,rv,ht,hz⟩:=I.tuple hq
 refine assign_Tuple_tuple (I.ok.hd hc) ht (by simp[hn,←hl,rv.length]) hst fun h' hx=>?_
 have I1:Inv X pins σ H { s with heap:=h' }:=I.kept (t':=s.toks) fun b o e=>hx b o (Nat.ne_of_lt (Heap.lt_size e)) e
 exact h pins _ σ H xs _ Q I1 (by simpa using rv) hw
noncomputable def rz (to ti:TE)(t:yr):TG:=fun v σ H Q=>to σ H fun o H1=>ti σ H1 fun i H2=>t o i v H2 fun H3=>Q σ H3
theorem HR {o i:Expr}{to ti:TE}{t:yr}(ho:PE X o to)(hi:PE X i ti)(hs:HI X t)
  (ha:∀v,assign (.Subscript o i pos) X.env v=(do
   let ov ←holding [v] (eval o X.env)
   let iv ←holding [v,ov] (eval i X.env)
   standAt pos
   holding [v,ov,iv] (setItem ov iv v)
   release [v,ov,iv] []):=by intro _;rfl):PG X (.Subscript o i pos) (rz to ti t):=by
 intro pins s σ H v u Q I r h
 rw[ha]
 refine wpAny_bind (wpAny_holding (bv (ho pins s σ H _ I h) fun ov s1 ⟨x,H1,I1,r1,q1⟩=>?_))
 refine wpAny_bind (wpAny_holding (bv (hi pins s1 σ H1 _ I1 q1) fun iv s2 ⟨y,H2,I2,r2,q2⟩=>?_))
 refine wpAny_bind (wpAny_standAt (wpAny_bind (wpAny_holding (bv (hs pins s2 σ H2 x y v ov iv u _ I2 r1 r2 r q2) fun _ s3 ⟨H3,I3,q3⟩=>?_))))
 exact wpAny_release ⟨σ,H3,I3,q3⟩
noncomputable def fU (te:TE)(g:TG):TS:=fun D σ H=>te σ H fun x H1=>g x σ H1 D.nx
theorem zg {tg e:Expr}{te:TE}{g:TG}(he:PE X e te)(hg:PG X tg g)(hs:swapsWithSole [tg] e pos.line X.env=pure false:=by rfl)(hw:swappedStores [tg] e X.env=pure none:=by rfl)
  (h1:(assignEach [tg] X.env).map (·.2)=[assign tg X.env]:=by rfl):PS X (.Assign [tg] e pos) (fU te g):=by
 intro pins s σ H D I h
 refine wpAny_Assign_stores (bv (he pins s σ H _ I h) fun v s1 ⟨x,H1,I1,r1,q1⟩=>?_) hs hw
 rw[h1]
 exact bv (hg pins s1 σ H1 x v _ I1 r1 q1) fun _ s2 q=>q
theorem rC {i:Nat}{x:Str}{e:Expr}{te:TE}{pos':Pos}(hN:X.N.Nodup)(hi:X.N[i]?=some x)(hx:IV X.env.scope x)(he:PE X e te)(hs:swapsWith e (some (.Name x pos')) pos.line X.env=pure false:=by rfl)(hf:X.fn x=true\/X.env.scope.names.lookup x=some .local:=by first|exact .inl rfl|exact .inr rfl|assumption) :
  PS X (.Assign [.Name x pos'] e pos) (fU te (dc i)):=by
 intro pins s σ H D I h
 refine wpAny_Assign_Name (bv (he pins s σ H _ I h) fun v s1 ⟨y,H1,I1,r1,q1⟩=>?_) hs
 exact gx I1 hN hi hx r1 (fun s2 I2=>⟨_,H1,I2,q1⟩) hf
noncomputable def sk (i j:Nat)(ta:TA):TS:=fun D σ H=>ta σ H fun vs H1=>∃v w,vs=[v,w]/\D.nx ((σ.set i (some v)).set j (some w)) H1
theorem xA {i j:Nat}{x y:Str}{a b:Expr}{ta:TA}{px py pt:Pos}{kt k2 pt2}(hc:X.calm=true)(hN:X.N.Nodup)(hi:X.N[i]?=some x)(hj:X.N[j]?=some y)(hij:i≠j)
  (hx:X.env.scope.names.lookup x=some .local) (hy:X.env.scope.names.lookup y=some .local) (ha:PA X [a,b] ta)
  (hw:swappedStores [.Tuple [.Name x px,.Name y py] kt pt] (.Tuple [a,b] k2 pt2) X.env=pure (some [x,y]))
  (hs:swapsWithSole [.Tuple [.Name x px,.Name y py] kt pt] (.Tuple [a,b] k2 pt2) pos.line X.env=pure false:=by rfl) :
  PS X (.Assign [.Tuple [.Name x px,.Name y py] kt pt] (.Tuple [a,b] k2 pt2) pos) (sk i j ta):=by
 intro pins s σ H D I h
 rw[exec_Assign_arm]
 refine wpAny_bind (wpAny_standAt ?_)
 rw[hs]
 refine wpAny_bind (wpAny_pure ?_)
 rw[if_neg (by decide)]
 refine wpAny_bind (Tuple_ (bv (ha _ pins s σ H _ I h) fun us s1 ⟨vs,H1,I1,r1,q1⟩=>?_))
 obtain⟨v,w,e1,q1⟩:=q1
 subst e1
 obtain⟨u1,u2,rfl,rv,rw'⟩:∃u1 u2,us=[u1,u2]/\RelV v u1/\RelV w u2:=by
  cases r1 with
  |cons p q=>
   cases q with
   |cons p' q'=>
    cases q'
    exact⟨_,_,rfl,p,p'⟩
 refine wpAny_newObj_type ?_ (by show 2≤sizeLine;decide)
 have I2:Inv X pins σ H1 { s1 with heap:=s1.heap.push { cls:=.type "tuple",data:=.seq [u1,u2].toArray } }:=I1.kept (t':=s1.toks) fun b o e=>Heap.get?_push_of_some _ e
 rw[hw]
 refine wpAny_bind (wpAny_pure ?_)
 show wpAny (model X.prog X.w) X.A (do rule "assign.swapped-stores";let items ←unpackItems (.ref s1.heap.objs.size) 2 none;assignInOrder [fun v=>bindName X.env y v,fun v=>bindName X.env x v] items.reverse;pure Flow.next) _ _ _
 refine wpAny_bind (wpAny_rule (wpAny_bind (unpackItems_tuple (items:=#[u1,u2]) (I.ok.hd hc) (IsTup.new s1.heap _) fun h' hx'=>?_)))
 have I3:=I2.kept (h':=h') (t':=s1.toks) fun b o e=>hx' b o (Nat.ne_of_lt (Heap.lt_size e)) e
 show wpAny _ _ (assignInOrder [fun v=>bindName X.env y v,fun v=>bindName X.env x v] [u2,u1] >>= fun _=>pure Flow.next) _ _ _
 refine wpAny_bind (assignInOrder_cons (wpAny_bindName (gx I3 hN hj (.inl hy) rw' (fun s2 I4=>?_) (.inr hy))))
 refine assignInOrder_cons (wpAny_bindName (gx I4 hN hi (.inl hx) rv (fun s3 I5=>assignInOrder_nil (wpAny_pure ?_)) (.inr hx)))
 rw[List.set_comm _ _ (Ne.symm hij)] at I5
 exact⟨_,H1,I5,q1⟩
noncomputable def wv (i:Nat)(te:TE)(ti:JG):TS:=fun D σ H=>∃x,σ[i]?=some (some x)/\te σ H fun y H1=>ti x y H1 fun z H2=>D.nx (σ.set i (some z)) H2
theorem Jl {i:Nat}{x:Str}{e:Expr}{te:TE}{op:Operator}{ti:JG}{pos':Pos}(hN:X.N.Nodup)(hi:X.N[i]?=some x)(hx:IV X.env.scope x)(he:PE X e te)(ho:Ju X op ti)(hf:X.fn x=true\/X.env.scope.names.lookup x=some .local:=by first|exact .inl rfl|exact .inr rfl|assumption) :
  PS X (.AugAssign (.Name x pos') op e pos) (wv i te ti):=by
 intro pins s σ H D I h
 obtain⟨v,e1,h⟩:=h
 obtain⟨m,hn,hl⟩:=I.loc
 have vis:D7 X.env.scope x:=by rcases hx with k|k;exact .inl k;exact .inr (.inl k)
 obtain⟨u,r,l⟩:=hl i x v hi e1 vis
 refine wpAny_AugAssign_Name ?_
 have go:wpAny (model X.prog X.w) X.A (eval e X.env) (fun w s₂=>wpAny (model X.prog X.w) X.A (inplaceOp op u w) (fun r s₃=>wpAny (model X.prog X.w) X.A (storeName X.env x r) (fun _=>SP X pins D .next) X.xe s₃) X.xe s₂) X.xe s:=by
  refine bv (he pins s σ H _ I h) fun w s1 ⟨y,H1,I1,r1,q1⟩=>?_
  refine bv (ho pins s1 σ H1 v y u w _ I1 r r1 q1) fun z s2 ⟨zv,H2,I2,r2,q2⟩=>?_
  exact gx I2 hN hi hx r2 (fun s3 I3=>⟨_,H2,I3,q2⟩) hf
 rcases l with ⟨hk,hm⟩|⟨hk,c,hc,hcell⟩
 ·exact wpAny_loadName_local I.ok.kind hk hn hm go
 ·rcases hk with hk|hk
  ·exact wpAny_loadName_cell I.ok.kind hk hc hcell go
  ·rcases hx with k|k
   ·have:X.env.scope.names.lookup x=some .free:=hk
    rw[k] at this;cases this
   ·have:X.env.scope.names.lookup x=some .free:=hk
    rw[k] at this;cases this
noncomputable def Mg (to ti te:TE)(tget:V->V->Hp->VK->Prop)(tip:JG)(tset:yr):TS:=fun D σ H=>to σ H fun o H1=>ti σ H1 fun i H2=>tget o i H2 fun x H3=>te σ H3 fun y H4=>tip x y H4 fun z H5=>tset o i z H5 fun H6=>D.nx σ H6
noncomputable def Ky (X:Cx)(t:V->V->Hp->VK->Prop):Prop:=
 ∀(pins:List (Addr×Obj)) (s:Shared) (σ:St) (H:Hp) (o i:V) (ov iv:Value) (Q:VK),Inv X pins σ H s->RelV o ov->RelV i iv->t o i H Q →
  wpAny (model X.prog X.w) X.A (getItem ov iv) (EP X pins σ Q) X.xe s
theorem A3 {o i e:Expr}{to ti te:TE}{tget:V->V->Hp->VK->Prop}{tip:JG}{tset:yr}{op:Operator}{tpos:Pos}(ho:PE X o to)(hi:PE X i ti)(hg:Ky X tget)(he:PE X e te)(hp:Ju X op tip)(hs:HI X tset)
  (ha:∀ov iv new,augStore i ov iv new=(do holding [new,ov,iv] (setItem ov iv new);release [new,ov,iv] [];pure .next):=by intros;rfl):PS X (.AugAssign (.Subscript o i tpos) op e pos) (Mg to ti te tget tip tset):=by
 intro pins s σ H D I h
 refine wpAny_AugAssign_SubscriptAny (bv (ho pins s σ H _ I h) fun ov s1 ⟨x1,H1,I1,r1,q1⟩=>?_) ha
 refine bv (hi pins s1 σ H1 _ I1 q1) fun iv s2 ⟨x2,H2,I2,r2,q2⟩=>?_
 refine bv (hg pins s2 σ H2 x1 x2 ov iv _ I2 r1 r2 q2) fun old s3 ⟨x3,H3,I3,r3,q3⟩=>?_
 refine bv (he pins s3 σ H3 _ I3 q3) fun v s4 ⟨x4,H4,I4,r4,q4⟩=>?_
 refine bv (hp pins s4 σ H4 x3 x4 old v _ I4 r3 r4 q4) fun new s5 ⟨x5,H5,I5,r5,q5⟩=>?_
 exact bv (hs pins s5 σ H5 x1 x2 x5 ov iv new _ I5 r1 r2 r5 q5) fun _ s6 ⟨H6,I6,q6⟩=>⟨σ,H6,I6,q6⟩
noncomputable def D4 (f:Int->Int->Int):JG:=fun x y H Q=>∃i j,x=.int i/\y=.int j/\Q (.int (f i j)) H
theorem GV:Ju X .Add (D4 fun i j=>i+j):=by
 intro pins s σ H x y v u Q I r1 r2 h
 obtain⟨i,j,e1,e2,q⟩:=h
 subst e1;subst e2
 obtain⟨t,rfl⟩:=r1
 obtain⟨t',rfl⟩:=r2
 exact iadd_int ⟨.int _,H,I.tok _,⟨_,rfl⟩,q⟩
theorem Fv:Ju X .Sub (D4 fun i j=>i - j):=by
 intro pins s σ H x y v u Q I r1 r2 h
 obtain⟨i,j,e1,e2,q⟩:=h
 subst e1;subst e2
 obtain⟨t,rfl⟩:=r1
 obtain⟨t',rfl⟩:=r2
 exact isub_int ⟨.int _,H,I.tok _,⟨_,rfl⟩,q⟩
end
section
variable {X:Cx}{pos:Pos}
noncomputable def sO (c:TT)(tb:TS):TS:=fun D σ H=>∃W:Nat->St->Hp->Prop,(∃m,W m σ H)/\∀m σ H,W m σ H →
 c σ H fun b H1=>if b=true then ∃N:St->Hp->Prop,(∀σ' H',N σ' H'->∃m',m'<m/\W m' σ' H')/\tb { D with nx:=N,ct:=N,bk:=D.nx } σ H1 else D.nx σ H1
theorem yf {c:Expr}{body:List Stmt}{tc:TT}{tb:TS}(hp:PassesOwn (model X.prog X.w) X.A X.env X.xe)(hc:PT X c tc)(hb:PSs X body tb):PS X (.While c body [] pos) (sO tc tb):=by
 intro pins s σ H D I h
 obtain⟨W,⟨m0,w0⟩,turn⟩:=h
 refine wpAny_While (codeAny_whileLoop (fun n s'=>∃σ' H',Inv X pins σ' H' s'/\W n σ' H') ?_ m0 ⟨σ,H,I,w0⟩)
 rintro n s1 ⟨σ1,H1,I1,w1⟩
 refine wpAny_passesOwn hp (bv (hc pins s1 σ1 H1 _ I1 (turn n σ1 H1 w1)) fun b s2 ⟨H2,I2,q2⟩=>?_)
 cases b with
 |true=>
  obtain⟨N,hN,q2⟩:=q2
  rw[if_pos rfl]
  refine wpAny_passesOwn hp (bv (hb pins s2 σ1 H2 _ I2 q2) fun f s3 q3=>?_)
  cases f with
  |next=>
   obtain⟨σ3,H3,I3,n3⟩:=q3
   obtain⟨m',hm,w3⟩:=hN σ3 H3 n3
   exact⟨m',hm,σ3,H3,I3,w3⟩
  |cont=>
   obtain⟨σ3,H3,I3,n3⟩:=q3
   obtain⟨m',hm,w3⟩:=hN σ3 H3 n3
   exact⟨m',hm,σ3,H3,I3,w3⟩
  |brk=>exact q3
  |ret v=>exact q3
 |false=>
  rw[if_neg Bool.false_ne_true]
  exact wpAny_execs_nil ⟨σ1,H2,I2,q2⟩
end
structure It where
 go:Nat->Hp->Prop
 yld:Nat->Hp->V->Hp->Prop
 stop:Nat->Hp->Prop
noncomputable def iS (X:Cx)(pins:List (Addr×Obj))(H:Hp)(b:Addr):Prop:=
 H b=none/\b≠X.env.locals/\b∉X.fs/\(b∈X.ex\/X.s₀.heap.objs.size≤b)/\(∀x c,X.env.cells.lookup x=some c->c≠b)/\∀p∈X.pn++pins,p.1≠b
theorem Inv.fpOk {X:Cx}{pins:List (Addr×Obj)}{σ:St}{H H':Hp}{s:Shared}{b:Addr}(I:Inv X pins σ H s)(hb:s.heap.objs.size≤b)(hn:H' b=none):iS X pins H' b:=by
 refine⟨hn,Nat.ne_of_gt (Nat.lt_of_lt_of_le I.lt hb),I.nofs hb,.inr (Nat.le_trans I.sz hb),fun x c e z=>?_,fun p hp z=>?_⟩
 ·obtain⟨v,q⟩:=I.cell x c e
  exact absurd (Nat.lt_of_lt_of_le q.lt (by rw[z];exact hb)) (Nat.lt_irrefl _)
 ·exact absurd (Nat.lt_of_lt_of_le (Heap.lt_size (I.pin p hp).1) (by rw[z];exact hb)) (Nat.lt_irrefl _)
structure Turn (P:Program)(w:World)(K:PySem.W.Frag)(tg:Expr)(J:It)(fp:List Addr)(it:Addr)(tn:Nat->Heap->Prop):Prop where
 mem:it∈fp
 obj:∀i h,tn i h->∀b∈fp,∃o,h.get? b=some o/\∀v,o.data≠.cell v
 keep:∀i h h',tn i h->(∀b∈fp,∀o,h.get? b=some o->h'.get? b=some o)->tn i h'
 item:∀(X:Cx),X.prog=P->X.w=w->X.K=K->X.calm=true->∀(i:Nat) (pins:List (Addr×Obj)) (s:Shared) (σ:St) (H:Hp) (E:Value->Shared->Prop),Inv X pins σ H s->(∀b∈fp,iS X pins H b)->tn i s.heap->J.go i H →
  wpAny (model P w) X.A (pyNext (.ref it)) (fun r s1=>∃u,r=some u ∧
   wpAny (model P w) X.A (letOwnedTupleGo tg (.ref it) u) (fun _ s2=>∃x H',Inv X pins σ H' s2/\RelV x u/\J.yld i H x H'/\tn (i+1) s2.heap/\∀b∈fp,H' b=none) E s1) E s
 done:∀(X:Cx),X.prog=P->X.w=w->X.K=K->X.calm=true->∀(i:Nat) (pins:List (Addr×Obj)) (s:Shared) (σ:St) (H:Hp) (E:Value->Shared->Prop),Inv X pins σ H s->(∀b∈fp,iS X pins H b)->tn i s.heap->J.stop i H →
  wpAny (model P w) X.A (pyNext (.ref it)) (fun r s1=>r=none/\Inv X pins σ H s1) E s
 self:∀(A:Around) (i:Nat) (s:Shared) (Q:Value->Shared->Prop) (E:Value->Shared->Prop),tn i s.heap->Q (.ref it) s->wpAny (model P w) A (pyIter (.ref it)) Q E s
noncomputable abbrev TI:=St->Hp->(It->Hp->Prop)->Prop
noncomputable def NU (X:Cx)(pins:List (Addr×Obj))(σ:St)(tg:Expr)(R:It->Hp->Prop)(itv:Value)(s2:Shared):Prop:=
 ∃(it:Addr) (fp:List Addr) (tn:Nat->Heap->Prop) (J:It) (H':Hp),itv=.ref it/\Inv X pins σ H' s2/\Turn X.prog X.w X.K tg J fp it tn/\tn 0 s2.heap/\(∀b∈fp,iS X pins H' b)/\R J H'
noncomputable def PI (X:Cx)(tg iter:Expr)(wi:TI):Prop:=
 ∀(pins:List (Addr×Obj)) (s:Shared) (σ:St) (H:Hp) (R:It->Hp->Prop),Inv X pins σ H s->wi σ H R →
  wpAny (model X.prog X.w) X.A (eval iter X.env) (fun v s1=>wpAny (model X.prog X.w) X.A (pyIter v) (NU X pins σ tg R) X.xe s1) X.xe s
theorem tK {M:Model}{A:Around}{E:Value->Shared->Prop}{s:Shared}{tg:Expr}{it:Addr}{u:Value}{o:Obj}{n:String}{vs:Array Value}{Q:Unit->Shared->Prop}(ho:s.heap.get? it=some o)(hc:o.cls=.type n)(hd:o.data=.fields vs)
  (hn:["enumerate","zip","dict_itemiterator","dict_reverseitemiterator","odict_iterator","itertools.zip_longest","itertools.pairwise"].contains n=false) (hQ:Q () s):wpAny M A (letOwnedTupleGo tg (.ref it) u) Q E s:=by
 unfold letOwnedTupleGo
 cases tg<;>first
  |exact wpAny_pure hQ
  |(cases u<;>first
    |exact wpAny_pure hQ
    |(refine wpAny_bind (wpAny_load ho ?_)
      rw[hc,hd]
      show wpAny M A (if (["enumerate","zip","dict_itemiterator","dict_reverseitemiterator","odict_iterator","itertools.zip_longest","itertools.pairwise"].contains n&&vs[0]?==some (rawInt _))=true then _ else _) Q E s
      rw[if_neg (by intro h;rw[hn,Bool.false_and] at h;cases h)]
      exact wpAny_pure hQ))
noncomputable def O7 (K:PySem.W.Frag)(a:Addr):It:=
 ⟨fun i H=>∃xs x,SqL K H a xs/\xs[i]?=some x,fun i H x H'=>H'=H/\∀xs,SqL K H a xs->xs[i]?=some x,fun i H=>∃xs,SqL K H a xs/\xs.length≤i⟩
noncomputable def O3 (K:PySem.W.Frag)(a:Addr):It:=
 ⟨fun i H=>∃xs x,SqT K H a xs/\xs[i]?=some x,fun i H x H'=>H'=H/\∀xs,SqT K H a xs->xs[i]?=some x,fun i H=>∃xs,SqT K H a xs/\xs.length≤i⟩
noncomputable def MK (lo:Int)(n:Nat):It:=⟨fun i _=>i<n,fun i H x H'=>H'=H/\x=.int (lo+i),fun i _=>n≤i⟩
theorem uE {P:Program}{w:World}{K:PySem.W.Frag}{tg:Expr}(a it:Addr):Turn P w K tg (O7 K a) [it] it (fun i h=>h.IsListIter it a i) where
 mem:=by simp
 obj:=fun i h st b hb=>by
  have e:b=it:=by simpa using hb
  subst e
  obtain⟨o,e,c,d⟩:=st
  exact⟨o,e,fun v z=>by rw[d] at z;cases z⟩
 keep:=fun i h h' st k=>st.at fun o e=>k it (by simp) o e
 item:=by
  intro X hP hw hK hc i pins s σ H E I hf st hg
  subst hP hw hK
  obtain⟨xs,x,hq,hx⟩:=hg
  obtain⟨its,rv,p,hz⟩:=I.list hq
  obtain⟨u,hu,ru⟩:=rv.get hx
  obtain⟨f0,f1,f2,f3,f4,f5⟩:=hf it (by simp)
  refine wpAny_pyNext_list_item st p.isList (x:=u) (by simpa using hu) fun h' st' sb=>?_
  have I1:Inv X pins σ H { s with heap:=h' }:=I.turned (t':=s.toks) (fun b o hb e=>(sb.2 b hb).trans e) f0 f1 f3 f4 f5
  obtain⟨o,e,c,d⟩:=id st'
  exact⟨u,rfl,tK (s:={ s with heap:=h' }) e c d (by decide) ⟨x,H,I1,ru,⟨rfl,fun ys hy=>by rw[I.list_inj hy hq];exact hx⟩,st',fun b hb=>(hf b hb).1⟩⟩
 done:=by
  intro X hP hw hK hc i pins s σ H E I hf st hg
  subst hP hw hK
  obtain⟨xs,hq,hx⟩:=hg
  obtain⟨its,rv,p,hz⟩:=I.list hq
  obtain⟨f0,f1,f2,f3,f4,f5⟩:=hf it (by simp)
  have hl:=rv.length
  exact wpAny_pyNext_list_end (I.ok.hd hc) st p.isList (by simp;omega) fun h' eb=>⟨rfl,I.turned (t':=s.toks) (fun b o hb e=>eb b o hb e) f0 f1 f3 f4 f5⟩
 self:=fun _ _ _ _ _ st h=>wpAny_pyIter_listiter st h
theorem rm {P:Program}{w:World}{K:PySem.W.Frag}{tg:Expr}(a it:Addr):Turn P w K tg (O3 K a) [it] it (fun i h=>h.IsTupleIter it a i) where
 mem:=by simp
 obj:=fun i h st b hb=>by
  have e:b=it:=by simpa using hb
  subst e
  obtain⟨o,e,c,d⟩:=st
  exact⟨o,e,fun v z=>by rw[d] at z;cases z⟩
 keep:=fun i h h' st k=>st.at fun o e=>k it (by simp) o e
 item:=by
  intro X hP hw hK hc i pins s σ H E I hf st hg
  subst hP hw hK
  obtain⟨xs,x,hq,hx⟩:=hg
  obtain⟨its,rv,p,hz⟩:=I.tuple hq
  obtain⟨u,hu,ru⟩:=rv.get hx
  obtain⟨f0,f1,f2,f3,f4,f5⟩:=hf it (by simp)
  refine wpAny_pyNext_tuple_item st (show s.heap.IsTuple a its.toArray from p) (x:=u) (by simpa using hu) fun h' st' sb=>?_
  have I1:Inv X pins σ H { s with heap:=h' }:=I.turned (t':=s.toks) (fun b o hb e=>(sb.2 b hb).trans e) f0 f1 f3 f4 f5
  obtain⟨o,e,c,d⟩:=id st'
  exact⟨u,rfl,tK (s:={ s with heap:=h' }) e c d (by decide) ⟨x,H,I1,ru,⟨rfl,fun ys hy=>by rw[I.tuple_inj hy hq];exact hx⟩,st',fun b hb=>(hf b hb).1⟩⟩
 done:=by
  intro X hP hw hK hc i pins s σ H E I hf st hg
  subst hP hw hK
  obtain⟨xs,hq,hx⟩:=hg
  obtain⟨its,rv,p,hz⟩:=I.tuple hq
  obtain⟨f0,f1,f2,f3,f4,f5⟩:=hf it (by simp)
  have hl:=rv.length
  exact wpAny_pyNext_tuple_end (I.ok.hd hc) st (show s.heap.IsTuple a its.toArray from p) (by simp;omega) fun h' eb=>⟨rfl,I.turned (t':=s.toks) (fun b o hb e=>eb b o hb e) f0 f1 f3 f4 f5⟩
 self:=fun _ _ _ _ _ st h=>wpAny_pyIter_tupleiter st h
theorem r9 {P:Program}{w:World}{K:PySem.W.Frag}{tg:Expr}(it:Addr)(lo:Int)(n:Nat):Turn P w K tg (MK lo n) [it] it (fun i h=>IsRangeIter h it (lo+(i:Nat) * 1) ((n:Int) - (i:Nat)) 1) where
 mem:=by simp
 obj:=fun i h st b hb=>by
  have e:b=it:=by simpa using hb
  subst e
  exact⟨_,st,fun v z=>by
   have z':Data.fields _=Data.cell v:=z
   cases z'⟩
 keep:=fun i h h' st k=>k it (by simp) _ st
 item:=by
  intro X hP hw hK hc i pins s σ H E I hf st hg
  subst hP hw hK
  obtain⟨f0,f1,f2,f3,f4,f5⟩:=hf it (by simp)
  have W:=Walks.range (prog:=X.prog) (w:=X.w) (I.ok.hd hc) it lo 1 n
  refine W.item i s _ _ hg st fun v h' tk hv st' kk=>?_
  obtain⟨t,rfl⟩:=hv
  have I1:Inv X pins σ H { s with heap:=h',toks:=tk }:=I.turned (fun b o hb e=>kk b o (by simpa using hb) e) f0 f1 f3 f4 f5
  refine⟨_,rfl,tK (s:={ s with heap:=h',toks:=tk }) (n:="range_iterator") st' rfl rfl (by decide) ⟨.int (lo+i),H,I1,⟨t,?_⟩,⟨rfl,rfl⟩,st',fun b hb=>(hf b hb).1⟩⟩
  rw[Int.mul_one]
 done:=by
  intro X hP hw hK hc i pins s σ H E I hf st hg
  subst hP hw hK
  obtain⟨f0,f1,f2,f3,f4,f5⟩:=hf it (by simp)
  exact wpAny_pyNext_range_end (I.ok.hd hc) st (by have:n≤i:=hg;omega) fun h' eb=>⟨rfl,I.turned (t':=s.toks) (fun b o hb e=>eb b o hb e) f0 f1 f3 f4 f5⟩
 self:=fun _ _ _ _ _ st h=>wpAny_pyIter_rangeiter st h
end L2
namespace L2
open PySem PySem.Spec PyProof.Rows
section
variable {X:Cx}{tg:Expr}
noncomputable def yX (K:PySem.W.Frag)(tl:TE):TI:=fun σ H R=>tl σ H fun x H1=>∃a,x=.ref a/\(∃xs,SqL K H1 a xs)/\R (O7 K a) H1
noncomputable def Jh (K:PySem.W.Frag)(tl:TE):TI:=fun σ H R=>tl σ H fun x H1=>∃a,x=.ref a/\(∃xs,SqT K H1 a xs)/\R (O3 K a) H1
theorem sV {l:Expr}{tl:TE}(hl:PE X l tl):PI X tg l (yX X.K tl):=by
 intro pins s σ H R I h
 refine bv (hl pins s σ H _ I h) fun v s1 ⟨x,H1,I1,r1,q1⟩=>?_
 obtain⟨a,e,⟨xs,hq⟩,q⟩:=q1
 subst e
 cases r1
 obtain⟨its,rv,p,hz⟩:=I1.list hq
 refine wpAny_pyIter_list p.isList ?_
 refine⟨s1.heap.objs.size,[s1.heap.objs.size],_,_,H1,rfl,I1.kept (t':=s1.toks) fun b o e=>Heap.get?_push_of_some _ e,uE a _,⟨_,Heap.get?_push_size _ rfl,rfl,rfl⟩,fun b hb=>?_,q⟩
 have e:b=s1.heap.objs.size:=by simpa using hb
 subst e
 exact I1.fpOk (Nat.le_refl _) (I1.hok.fresh (Nat.le_refl _))
theorem HM {l:Expr}{tl:TE}(hl:PE X l tl):PI X tg l (Jh X.K tl):=by
 intro pins s σ H R I h
 refine bv (hl pins s σ H _ I h) fun v s1 ⟨x,H1,I1,r1,q1⟩=>?_
 obtain⟨a,e,⟨xs,hq⟩,q⟩:=q1
 subst e
 cases r1
 obtain⟨its,rv,p,hz⟩:=I1.tuple hq
 refine wpAny_pyIter_tuple (show s1.heap.IsTuple a its.toArray from p) ?_
 refine⟨s1.heap.objs.size,[s1.heap.objs.size],_,_,H1,rfl,I1.kept (t':=s1.toks) fun b o e=>Heap.get?_push_of_some _ e,rm a _,⟨_,Heap.get?_push_size _ rfl,rfl,rfl⟩,fun b hb=>?_,q⟩
 have e:b=s1.heap.objs.size:=by simpa using hb
 subst e
 exact I1.fpOk (Nat.le_refl _) (I1.hok.fresh (Nat.le_refl _))
theorem qp {pins:List (Addr×Obj)}{σ:St}{H:Hp}{s:Shared}{R:It->Hp->Prop}{E:Value->Shared->Prop}{lo hi:Int}{t u v:Tok}{tk:Nat}(I:Inv X pins σ H s)(h1:-(2 ^ 62)≤lo)(h2:lo<2 ^ 62)(h3:-(2 ^ 62)≤hi)(h4:hi<2 ^ 62)
  (q:R (MK lo (hi - lo).toNat) H):wpAny (model X.prog X.w) X.A (pyIter (.ref s.heap.objs.size)) (NU X pins σ tg R) E { s with heap:=s.heap.push { cls:=.type "range",data:=.fields #[.int lo t,.int hi u,.int 1 v] },toks:=tk }:=by
 refine wpAny_pyIter_range (IsRange.new ..) (small_one h1 h2 h3 h4) ?_
 have I1:Inv X pins σ H { s with heap:=s.heap.push { cls:=.type "range",data:=.fields #[.int lo t,.int hi u,.int 1 v] },toks:=tk }:=I.kept fun b o e=>Heap.get?_push_of_some _ e
 refine⟨(s.heap.push { cls:=.type "range",data:=.fields #[.int lo t,.int hi u,.int 1 v] }).objs.size,[(s.heap.push { cls:=.type "range",data:=.fields #[.int lo t,.int hi u,.int 1 v] }).objs.size],_,_,H,rfl,
  I1.kept (t':=tk) fun b o e=>Heap.get?_push_of_some _ e,r9 _ lo (hi - lo).toNat,?_,fun b hb=>?_,q⟩
 ·have e1:lo+((0:Nat):Int) * 1=lo:=by simp
  have e2:(((hi - lo).toNat:Nat):Int) - ((0:Nat):Int)=Builtin.Range.rangeSize lo hi 1:=by rw[rangeSize_one];split<;>omega
  show IsRangeIter _ _ (lo+((0:Nat):Int) * 1) ((((hi - lo).toNat:Nat):Int) - ((0:Nat):Int)) 1
  rw[e1,e2]
  exact Heap.get?_push_size _ rfl
 ·have e:b=(s.heap.push { cls:=.type "range",data:=.fields #[.int lo t,.int hi u,.int 1 v] }).objs.size:=by simpa using hb
  subst e
  exact I1.fpOk (Nat.le_refl _) (I1.hok.fresh (Nat.le_refl _))
noncomputable def qv (ta:TA):TI:=fun σ H R=>ta σ H fun vs H1=>∃j:Int,vs=[.int j]/\-(2 ^ 62)≤j/\j<2 ^ 62/\R (MK 0 j.toNat) H1
noncomputable def pS (ta:TA):TI:=fun σ H R=>ta σ H fun vs H1=>∃i j:Int,vs=[.int i,.int j]/\(-(2 ^ 62)≤i/\i<2 ^ 62/\-(2 ^ 62)≤j/\j<2 ^ 62)/\R (MK i (j - i).toNat) H1
theorem vX {a:Expr}{ta:TA}{p pos:Pos}(hg:Gl X "range")(hm:X.mg "range" = none)(ha:PA X [a] ta)(hs:starEach [a] X.env=[(false,eval a X.env)]:=by rfl):PI X tg (.Call (.Name "range" p) [a] [] pos) (qv ta):=by
 intro pins s σ H R I h
 refine Call_ (gy I hg hm boot_range (PyProof.Rows.callWith_type1 (bv (ha pos pins s σ H _ I h) fun us s1 ⟨vs,H1,I1,r1,q1⟩=>?_) hs rfl))
 obtain⟨j,e,q1,q2,q⟩:=q1
 subst e
 cases r1 with
 |cons r rr=>
  cases rr
  obtain⟨t,rfl⟩:=r
  exact call_range_1 (qp I1 (by omega) (by omega) q1 q2 (by simpa using q))
theorem we {a b:Expr}{ta:TA}{p pos:Pos}(hg:Gl X "range")(hm:X.mg "range" = none)(ha:PA X [a,b] ta)(hs:starEach [a,b] X.env=[(false,eval a X.env),(false,eval b X.env)]:=by rfl)(hs2:starEach [b] X.env=[(false,eval b X.env)]:=by rfl) :
  PI X tg (.Call (.Name "range" p) [a,b] [] pos) (pS ta):=by
 intro pins s σ H R I h
 refine Call_ (gy I hg hm boot_range (PyProof.Rows.callWith_type1 (bv (ha pos pins s σ H _ I h) fun us s1 ⟨vs,H1,I1,r1,q1⟩=>?_) (by rw[hs,hs2]) (by rw[hs2];rfl)))
 obtain⟨i,j,e,⟨q1,q2,q3,q4⟩,q⟩:=q1
 subst e
 cases r1 with
 |cons r rr=>
  cases rr with
  |cons r' rr=>
   cases rr
   obtain⟨t,rfl⟩:=r
   obtain⟨t',rfl⟩:=r'
   exact call_range_2 (qp I1 q1 q2 q3 q4 q)
noncomputable def GG (wi:TI)(g:TG)(tb:TS):TS:=fun D σ H=>wi σ H fun J H1=>∃W:Nat->Nat->St->Hp->Prop,(∃m,W 0 m σ H1)/\∀i m σ H,W i m σ H →
 (J.stop i H/\D.nx σ H)\/(J.go i H/\∃N:St->Hp->Prop,(∀σ' H',N σ' H'->∃m',m'<m/\W (i+1) m' σ' H')/\∀x H',J.yld i H x H'->g x σ H' fun σ2 H2=>tb { D with nx:=N,ct:=N,bk:=D.nx } σ2 H2)
noncomputable def kc (fp:List Addr)(h:Heap):List (Addr×Obj):=fp.filterMap fun b=>(h.get? b).map fun o=>(b,o)
theorem fO {fp:List Addr}{h:Heap}{b:Addr}{o:Obj}(hb:b∈fp)(e:h.get? b=some o):(b,o)∈kc fp h:=List.mem_filterMap.mpr ⟨b,hb,by rw[e];rfl⟩
theorem wj {fp:List Addr}{h:Heap}{p:Addr×Obj}(hp:p∈kc fp h):p.1∈fp/\h.get? p.1=some p.2:=by
 obtain⟨b,hb,e⟩:=List.mem_filterMap.mp hp
 cases q:h.get? b with
 |none=>rw[q] at e;cases e
 |some o=>
  rw[q] at e
  have e':(b,o)=p:=Option.some.inj e
  subst e'
  exact⟨hb,q⟩
theorem Inv.pinned {pins:List (Addr×Obj)}{σ:St}{H:Hp}{s:Shared}{fp:List Addr}(I:Inv X pins σ H s)(hf:∀b∈fp,iS X pins H b)(ho:∀b∈fp,∃o,s.heap.get? b=some o/\∀v,o.data≠.cell v):Inv X (pins++kc fp s.heap) σ H s:=
 I.pins_of fun p hp=>(List.mem_append.mp hp).elim (fun z=>I.pin p (List.mem_append_right _ z)) fun z=>by
  obtain⟨hb,e⟩:=wj z
  obtain⟨f0,f1,f2,_⟩:=hf p.1 hb
  obtain⟨o,e',d⟩:=ho p.1 hb
  rw[e] at e';cases e'
  exact⟨e,f0,f1,f2,d⟩
theorem Inv.unpinned {pins pl:List (Addr×Obj)}{σ:St}{H:Hp}{s:Shared}(I:Inv X (pins++pl) σ H s):Inv X pins σ H s:=I.pins_of fun p hp=>I.pin p (List.mem_append_right _ (List.mem_append_left _ hp))
theorem Il {iter:Expr}{body:List Stmt}{wi:TI}{g:TG}{tb:TS}{pos:Pos}(hp:PassesOwn (model X.prog X.w) X.A X.env X.xe)(hc:X.calm=true)(hi:PI X tg iter wi)(hg:PG X tg g)(hb:PSs X body tb)
  (hs:∀x,foldedSetIterable iter X.env x=pure x:=by intro _;rfl):PS X (.For tg iter body [] pos) (GG wi g tb):=by
 intro pins s σ H D I h
 refine wpAny_For (bv (hi pins s σ H _ I h) fun v s1 h1=>bv h1 fun itv s2 h2=>?_) hs
 obtain⟨it,fp,tn,J,H2,e,I2,T,BV,f2,W,⟨m0,w0⟩,turn⟩:=h2
 subst e
 have stat:∀{H':Hp},(∀b∈fp,H' b=none)->∀b∈fp,iS X pins H' b:=fun hn b hb=>⟨hn b hb,(f2 b hb).2⟩
 refine codeAny_forLoop_any (fun n s'=>∃i σ' H',Inv X pins σ' H' s'/\tn i s'.heap/\(∀b∈fp,H' b=none)/\W i n σ' H') ?_ m0 ⟨0,σ,H2,I2,BV,fun b hb=>(f2 b hb).1,w0⟩
 rintro n s3 ⟨i,σ3,H3,I3,st3,fr3,w3⟩
 rcases turn i n σ3 H3 w3 with ⟨stop,qn⟩|⟨go,N,hN,step⟩
 ·refine wpAny_passesOwn hp (bv (T.done X rfl rfl rfl hc i pins s3 σ3 H3 X.xe I3 (stat fr3) st3 stop) fun r s4 ⟨hr,I4⟩=>?_)
  subst hr
  exact wpAny_execs_nil ⟨σ3,H3,I4,qn⟩
 ·refine wpAny_passesOwn hp (bv (T.item X rfl rfl rfl hc i pins s3 σ3 H3 X.xe I3 (stat fr3) st3 go) fun r s4 ⟨u,hr,h4⟩=>?_)
  subst hr
  refine wpAny_passesOwn hp (bv h4 fun _ s5 ⟨x,H5,I5,r5,y5,st5,fr5⟩=>?_)
  have I5':=I5.pinned (stat fr5) (T.obj _ _ st5)
  refine wpAny_passesOwn hp (bv (hg _ s5 σ3 H5 x u _ I5' r5 (step x H5 y5)) fun _ s6 ⟨σ6,H6,I6,q6⟩=>?_)
  refine wpAny_passesOwn hp (bv (hb _ s6 σ6 H6 _ I6 q6) fun f s7 q7=>?_)
  have again:∀{σ7:St} {H7:Hp},Inv X (pins++kc fp s5.heap) σ7 H7 s7->N σ7 H7->∃m,m<n/\∃i σ' H',Inv X pins σ' H' s7/\tn i s7.heap/\(∀b∈fp,H' b=none)/\W i m σ' H':=fun {σ7 H7} I7 n7=>by
   obtain⟨m',hm,w7⟩:=hN σ7 H7 n7
   refine⟨m',hm,i+1,σ7,H7,I7.unpinned,T.keep _ _ _ st5 fun b hb o e=>(I7.pin (b,o) (List.mem_append_right _ (List.mem_append_right _ (fO hb e)))).1,fun b hb=>?_,w7⟩
   obtain⟨o,e,d⟩:=T.obj _ _ st5 b hb
   exact (I7.pin (b,o) (List.mem_append_right _ (List.mem_append_right _ (fO hb e)))).2.1
  cases f with
  |next=>obtain⟨σ7,H7,I7,n7⟩:=q7;exact again I7 n7
  |cont=>obtain⟨σ7,H7,I7,n7⟩:=q7;exact again I7 n7
  |brk=>obtain⟨σ7,H7,I7,q7⟩:=q7;exact⟨σ7,H7,I7.unpinned,q7⟩
  |ret v=>obtain⟨x7,σ7,H7,I7,r7,q7⟩:=q7;exact⟨x7,σ7,H7,I7.unpinned,r7,q7⟩
end
end L2
namespace L2
open PySem PySem.Spec PyProof.Rows
noncomputable abbrev R2:=V->V->Hp->VK->Prop
noncomputable def eQ (X:Cx)(f:Value->Value->Sem Value)(r:R2):Prop:=
 ∀(pins:List (Addr×Obj)) (s:Shared) (σ:St) (H:Hp) (x y:V) (v u:Value) (Q:VK),Inv X pins σ H s->RelV x v->RelV y u->r x y H Q →
  wpAny (model X.prog X.w) X.A (f v u) (EP X pins σ Q) X.xe s
noncomputable def OP (X:Cx)(f:Value->Sem Value)(r:V->Hp->VK->Prop):Prop:=
 ∀(pins:List (Addr×Obj)) (s:Shared) (σ:St) (H:Hp) (x:V) (v:Value) (Q:VK),Inv X pins σ H s->RelV x v->r x H Q →
  wpAny (model X.prog X.w) X.A (f v) (EP X pins σ Q) X.xe s
noncomputable def cO (X:Cx)(f:Value)(r:List V->Hp->VK->Prop):Prop:=
 ∀(pins:List (Addr×Obj)) (s:Shared) (σ:St) (H:Hp) (xs:List V) (us:List Value) (Q:VK),Inv X pins σ H s->Vals xs us->r xs H Q →
  wpAny (model X.prog X.w) X.A (call f us) (EP X pins σ Q) X.xe s
noncomputable def Ht (r:R2)(ta tb:TE):TE:=fun σ H Q=>ta σ H fun x H1=>tb σ H1 fun y H2=>r x y H2 Q
noncomputable def M4 (r:V->Hp->VK->Prop)(ta:TE):TE:=fun σ H Q=>ta σ H fun x H1=>r x H1 Q
noncomputable def rI (C:Int->Int->Prop)(g:Int->Int->V):R2:=fun x y H Q=>∃i j,x=.int i/\y=.int j/\C i j/\Q (g i j) H
noncomputable def rg (g:Int->Int->V):R2:=fun x y H Q=>∃i j,x=.int i/\y=.int j/\Q (g i j) H
noncomputable def rU (g:Int->V):V->Hp->VK->Prop:=fun x H Q=>∃i,x=.int i/\Q (g i) H
section
variable {X:Cx}{a b c:Expr}{ta tb tc:TE}{pos:Pos}
theorem HG (ha:PE X a ta)(hb:PE X b tb){pins:List (Addr×Obj)}{s:Shared}{σ:St}{H:Hp}{R:V->V->Hp->Prop}(I:Inv X pins σ H s)
  (h:ta σ H fun x H1=>tb σ H1 fun y H2=>R x y H2) {Q:Value->Shared->Prop} {f:Value->Value->Sem Value}
  (hf:∀v u s2 x y H2,Inv X pins σ H2 s2->RelV x v->RelV y u->R x y H2->wpAny (model X.prog X.w) X.A (f v u) Q X.xe s2) :
  wpAny (model X.prog X.w) X.A (eval a X.env) (fun v s₁=>wpAny (model X.prog X.w) X.A (eval b X.env) (fun u s₂=>wpAny (model X.prog X.w) X.A (f v u) Q X.xe s₂) X.xe s₁) X.xe s:=by
 refine bv (ha pins s σ H _ I h) fun v s1 ⟨x,H1,I1,r1,q1⟩=>?_
 refine bv (hb pins s1 σ H1 _ I1 q1) fun u s2 ⟨y,H2,I2,r2,q2⟩=>?_
 exact hf v u s2 x y H2 I2 r1 r2 q2
theorem yM {op:Operator}{r:R2}(ho:eQ X (binaryOp op) r)(ha:PE X a ta)(hb:PE X b tb):PE X (.BinOp a op b pos) (Ht r ta tb):=by
 intro pins s σ H Q I h
 exact wpAny_BinOp (HG ha hb I h fun v u s2 x y H2 I2 rx ry q=>ho pins s2 σ H2 x y v u Q I2 rx ry q)
theorem D9 {op:UnaryOp}{r:V->Hp->VK->Prop}(ho:OP X (unaryOp op) r)(ha:PE X a ta):PE X (.UnaryOp op a pos) (M4 r ta):=by
 intro pins s σ H Q I h
 exact UnaryOp_ (bv (ha pins s σ H _ I h) fun v s1 ⟨x,H1,I1,r1,q1⟩=>ho pins s1 σ H1 x v Q I1 r1 q1)
theorem Jy {f:Value->Value->Sem Value}{C:Int->Int->Prop}{g:Int->Int->Int}
  (rule:∀(i j:Int) (t u:Tok) (s:Shared) (Q:Value->Shared->Prop) (E:Value->Shared->Prop),C i j->Q (.int (g i j) s.toks) { s with toks:=s.toks+1 }->wpAny (model X.prog X.w) X.A (f (.int i t) (.int j u)) Q E s) :
  eQ X f (rI C fun i j=>.int (g i j)):=by
 intro pins s σ H x y v u Q I rx ry h
 obtain⟨i,j,rfl,rfl,hc,q⟩:=h
 obtain⟨t,rfl⟩:=rx
 obtain⟨t',rfl⟩:=ry
 exact rule i j t t' s _ _ hc ⟨.int (g i j),H,I.tok _,⟨_,rfl⟩,q⟩
theorem Ic {f:Value->Value->Sem Value}{g:Int->Int->Int}
  (rule:∀(i j:Int) (t u:Tok) (s:Shared) (Q:Value->Shared->Prop) (E:Value->Shared->Prop),Q (.int (g i j) s.toks) { s with toks:=s.toks+1 }->wpAny (model X.prog X.w) X.A (f (.int i t) (.int j u)) Q E s) :
  eQ X f (rg fun i j=>.int (g i j)):=by
 intro pins s σ H x y v u Q I rx ry h
 obtain⟨i,j,rfl,rfl,q⟩:=h
 obtain⟨t,rfl⟩:=rx
 obtain⟨t',rfl⟩:=ry
 exact rule i j t t' s _ _ ⟨.int (g i j),H,I.tok _,⟨_,rfl⟩,q⟩
theorem A4 {f:Value->Value->Sem Value}{g:Int->Int->Bool}
  (rule:∀(i j:Int) (t u:Tok) (s:Shared) (Q:Value->Shared->Prop) (E:Value->Shared->Prop),Q (.bool (g i j)) s->wpAny (model X.prog X.w) X.A (f (.int i t) (.int j u)) Q E s) :
  eQ X f (rg fun i j=>.bl (g i j)):=by
 intro pins s σ H x y v u Q I rx ry h
 obtain⟨i,j,rfl,rfl,q⟩:=h
 obtain⟨t,rfl⟩:=rx
 obtain⟨t',rfl⟩:=ry
 exact rule i j t t' s _ _ ⟨.bl (g i j),H,I,rfl,q⟩
noncomputable def Mq (i j:Int):Prop:=0<j/\j<1073741824
noncomputable def IE (i j:Int):Prop:=0≤j/\j≤1000000/\i.natAbs<2 ^ 64
noncomputable def CMul (i j:Int):Prop:=(-(2 ^ 64)<i/\i<2 ^ 64)\/(-(2 ^ 64)<j/\j<2 ^ 64)
theorem CMul.ok {i j:Int}(h:CMul i j):IntMulOk i j:=by
 rcases h with ⟨h1,h2⟩|⟨h1,h2⟩
 ·exact .of_left (intBits_le_64 h1 h2)
 ·exact .of_right (intBits_le_64 h1 h2)
theorem sg (k:Nat):(0:Int)≤2 ^ k:=by
 rw[two_pow_cast]
 exact Int.natCast_nonneg _
theorem HP:eQ X (binaryOp .Add) (rg fun i j=>.int (i+j)):=Ic fun _ _ _ _ _ _ _ q=>add_int q
theorem EO:eQ X (binaryOp .Sub) (rg fun i j=>.int (i - j)):=Ic fun _ _ _ _ _ _ _ q=>sub_int q
theorem Ha:eQ X (binaryOp .Mult) (rI CMul fun i j=>.int (i * j)):=Jy fun _ _ _ _ _ _ _ hc q=>mul_int q hc.ok
theorem Az:eQ X (binaryOp .FloorDiv) (rI Mq fun i j=>.int (i / j)):=Jy fun i j _ _ _ _ _ hc q=>by
 have h1:(0:Int)<j:=hc.1
 have h2:j<1073741824:=hc.2
 exact floordiv_int (by omega) (by rw[Int.fdiv_eq_ediv_of_nonneg i (by omega)];exact q) (.inl (PyProof.noPylong_small (by omega)))
theorem Fu:eQ X (binaryOp .Mod) (rI (fun _ j=>0<j) fun i j=>.int (i % j)):=Jy fun i j _ _ _ _ _ hc q=>by
 have h1:(0:Int)<j:=hc
 exact mod_int' (by omega) (by rw[Int.fmod_eq_emod_of_nonneg i (by omega)];exact q)
theorem Fk:eQ X (binaryOp .Pow) (rI IE fun i j=>.int (i ^ j.toNat)):=Jy fun _ _ _ _ _ _ _ hc q=>pow_int_small hc.1 hc.2.1 hc.2.2 q
theorem HW:eQ X (binaryOp .LShift) (rI IE fun i j=>.int (i * 2 ^ j.toNat)):=Jy fun _ _ _ _ _ _ _ hc q=>lshift_int_small hc.1 hc.2.1 hc.2.2 q
theorem Hz:eQ X (binaryOp .RShift) (rI (fun _ j=>0≤j) fun i j=>.int (i / 2 ^ j.toNat)):=Jy fun i j _ _ _ _ _ hc q=>
 rshift_int hc (by rw[Int.fdiv_eq_ediv_of_nonneg i (sg _)];exact q)
theorem GZ:eQ X (binaryOp .BitAnd) (rg fun i j=>.int (Builtin.bitAnd i j)):=Ic fun _ _ _ _ _ _ _ q=>and_int q
theorem QB {f:Value->Sem Value}{g:Int->Int}
  (rule:∀(i:Int) (t:Tok) (s:Shared) (Q:Value->Shared->Prop) (E:Value->Shared->Prop),Q (.int (g i) s.toks) { s with toks:=s.toks+1 }->wpAny (model X.prog X.w) X.A (f (.int i t)) Q E s) :
  OP X f (rU fun i=>.int (g i)):=by
 intro pins s σ H x v Q I rx h
 obtain⟨i,rfl,q⟩:=h
 obtain⟨t,rfl⟩:=rx
 exact rule i t s _ _ ⟨.int (g i),H,I.tok _,⟨_,rfl⟩,q⟩
theorem xV:OP X (unaryOp .USub) (rU fun i=>.int (-i)):=QB fun _ _ _ _ _ q=>neg_int q
end
noncomputable def JT:V->V->Bool
 |.non,.non=>true|.non,.int _=>true|.int _,.non=>true|.non,.bl _=>true|.bl _,.non=>true|.non,.str _=>true|.str _,.non=>true
 |.int _,.int _=>true|.bl _,.bl _=>true|.str _,.str _=>true|.byt _,.byt _=>true
 |.int _,.str _=>true|.str _,.int _=>true|.bl _,.str _=>true|.str _,.bl _=>true
 |_,_=>false
noncomputable def ge:R2:=fun x y H Q=>JT x y=true/\Q (.bl (decide (x=y))) H
noncomputable def na:R2:=fun x y H Q=>JT x y=true/\Q (.bl (!decide (x=y))) H
section
variable {X:Cx}{a b c:Expr}{ta tb tc:TE}{pos:Pos}
theorem xI {pins:List (Addr×Obj)}{σ:St}{H:Hp}{s:Shared}{Q:VK}{k k':Bool}(I:Inv X pins σ H s)(q:Q (.bl k) H)(e:k=k'):EP X pins σ Q (.bool k') s:=by
 subst e
 exact⟨.bl k,H,I,rfl,q⟩
theorem Mj:eQ X (compareOp .Lt) (rg fun i j=>.bl (decide (i<j))):=A4 fun _ _ _ _ _ _ _ q=>lt_int q
theorem MJ:eQ X (compareOp .LtE) (rg fun i j=>.bl (decide (i≤j))):=A4 fun _ _ _ _ _ _ _ q=>le_int q
theorem Kv:eQ X (compareOp .Gt) (rg fun i j=>.bl (decide (j<i))):=A4 fun _ _ _ _ _ _ _ q=>gt_int q
theorem Lq:eQ X (compareOp .GtE) (rg fun i j=>.bl (decide (j≤i))):=A4 fun _ _ _ _ _ _ _ q=>ge_int q
theorem FY:eQ X (compareOp .Is) (fun x y H Q=>y=.non/\Q (.bl (decide (x=.non))) H):=by
 intro pins s σ H x y v u Q I rx ry h
 obtain⟨rfl,q⟩:=h
 cases ry
 refine is_none_gen (xI I q ?_)
 cases x<;>first
  |(cases rx;rfl)
  |(obtain⟨t,rfl⟩:=rx;rfl)
theorem Bv:eQ X (compareOp .IsNot) (fun x y H Q=>y=.non/\Q (.bl (!decide (x=.non))) H):=by
 intro pins s σ H x y v u Q I rx ry h
 obtain⟨rfl,q⟩:=h
 cases ry
 refine isnot_none_gen (xI I q ?_)
 cases x<;>first
  |(cases rx;rfl)
  |(obtain⟨t,rfl⟩:=rx;rfl)
theorem Ck {op:CmpOp}{r:R2}(ho:eQ X (compareOp op) r)(ha:PE X a ta)(hb:PE X b tb)(hm:behindInMarks op b=false):PE X (.Compare a [op] [b] pos) (Ht r ta tb):=by
 intro pins s σ H Q I h
 exact wpAny_Compare1 (HG ha hb I h fun v u s2 x y H2 I2 rx ry q=>ho pins s2 σ H2 x y v u Q I2 rx ry q) hm
noncomputable def sY (t:TE):TT:=fun σ H Q=>t σ H fun x H'=>∃k,x=.bl k/\Q k H'
theorem B9 {op:CmpOp}{r:R2}(ho:eQ X (compareOp op) r)(ha:PE X a ta)(hb:PE X b tb)(hm:behindInMarks op b=false):PT X (.Compare a [op] [b] pos) (sY (Ht r ta tb)):=by
 intro pins s σ H Q I h
 refine wpAny_isTrue_Compare1 (bv (ha pins s σ H _ I h) fun v s1 ⟨x,H1,I1,r1,q1⟩=>bv (hb pins s1 σ H1 _ I1 q1) fun u s2 ⟨y,H2,I2,r2,q2⟩=>
  bv (ho pins s2 σ H2 x y v u _ I2 r1 r2 q2) fun c s3 ⟨z,H3,I3,r3,k,e,q3⟩=>?_) hm
 subst e
 cases r3
 exact wpAny_truthy_bool ⟨H3,I3,q3⟩
noncomputable def lb (r r':R2)(ta tb tc:TE):TE:=fun σ H Q=>ta σ H fun x H1=>tb σ H1 fun y H2=>r x y H2 fun z H3=>∃k,z=.bl k ∧
 (if k=true then tc σ H3 fun w' H4=>r' y w' H4 Q else Q (.bl false) H3)
theorem yU {op op':CmpOp}{r r':R2}(ho:eQ X (compareOp op) r)(ho':eQ X (compareOp op') r')(ha:PE X a ta)(hb:PE X b tb)(hc:PE X c tc)
  (hm:lastMarks [op,op'] [b,c]=false:=by with_unfolding_all rfl):PE X (.Compare a [op,op'] [b,c] pos) (lb r r' ta tb tc):=by
 intro pins s σ H Q I h
 refine Compare_chain (bv (ha pins s σ H _ I h) fun v s1 ⟨x,H1,I1,r1,q1⟩=>chain_link (bv (hb pins s1 σ H1 _ I1 q1) fun u s2 ⟨y,H2,I2,r2,q2⟩=>
  bv (ho pins s2 σ H2 x y v u _ I2 r1 r2 q2) fun d s3 ⟨z,H3,I3,r3,k,e,q3⟩=>?_)) hm
 subst e
 cases r3
 refine wpAny_truthy_bool ?_
 cases k with
 |false=>exact ite_ff ⟨.bl false,H3,I3,rfl,q3⟩
 |true=>exact ite_tt (chain_last (bv (hc pins s3 σ H3 _ I3 q3) fun w' s4 ⟨z',H4,I4,r4,q4⟩=>ho' pins s4 σ H4 y z' u w' Q I4 r2 r4 q4))
theorem xJ {op op':CmpOp}{r r':R2}(ho:eQ X (compareOp op) r)(ho':eQ X (compareOp op') r')(ha:PE X a ta)(hb:PE X b tb)(hc:PE X c tc)
  (hm:lastMarks [op,op'] [b,c]=false:=by with_unfolding_all rfl):PT X (.Compare a [op,op'] [b,c] pos) (sY (lb r r' ta tb tc)):=by
 intro pins s σ H Q I h
 refine isTrue_chain (bv (ha pins s σ H _ I h) fun v s1 ⟨x,H1,I1,r1,q1⟩=>test_link (bv (hb pins s1 σ H1 _ I1 q1) fun u s2 ⟨y,H2,I2,r2,q2⟩=>
  bv (ho pins s2 σ H2 x y v u _ I2 r1 r2 q2) fun d s3 ⟨z,H3,I3,r3,k,e,q3⟩=>?_)) hm
 subst e
 cases r3
 refine wpAny_truthy_bool ?_
 cases k with
 |false=>
  obtain⟨k',e',q'⟩:=q3
  cases e'
  exact ite_ff ⟨H3,I3,q'⟩
 |true=>
  refine ite_tt (test_last (bv (hc pins s3 σ H3 _ I3 q3) fun w' s4 ⟨z',H4,I4,r4,q4⟩=>bv (ho' pins s4 σ H4 y z' u w' _ I4 r2 r4 q4) fun d' s5 ⟨z2,H5,I5,r5,k2,e2,q5⟩=>?_))
  subst e2
  cases r5
  exact wpAny_truthy_bool ⟨H5,I5,q5⟩
theorem jC:(sizeLine:Nat)<2 ^ 63:=by rw[sizeLine_eq];decide
theorem rW:eQ X (binaryOp .Add) (fun x y H Q=>∃i j,x=.str i/\y=.str j/\i.length+j.length≤sizeLine/\Q (.str (i++j)) H):=by
 intro pins s σ H x y v u Q I rx ry h
 obtain⟨i,j,rfl,rfl,hz,q⟩:=h
 obtain⟨t,rfl⟩:=rx
 obtain⟨t',rfl⟩:=ry
 exact add_str (fun t' tk=>⟨.str (i++j),H,I.tok _,⟨_,rfl⟩,q⟩) hz
theorem dR {x:V}{us:List Value}(r:Vals [x] us):∃u,us=[u]/\RelV x u:=by
 cases r with
 |cons r1 r2=>cases r2;exact⟨_,rfl,r1⟩
theorem DV {x y:V}{us:List Value}(r:Vals [x,y] us):∃u w',us=[u,w']/\RelV x u/\RelV y w':=by
 cases r with
 |cons r1 r2=>
  cases r2 with
  |cons r3 r4=>cases r4;exact⟨_,_,rfl,r1,r3⟩
theorem yQ:cO X (.builtin "abs") (fun xs H Q=>∃i,xs=[.int i]/\Q (.int (if i<0 then -i else i)) H):=by
 intro pins s σ H xs us Q I r h
 obtain⟨i,rfl,q⟩:=h
 obtain⟨u,rfl,t,rfl⟩:=dR r
 exact call_abs_int fun u tk=>⟨.int (if i<0 then -i else i),H,I.tok _,⟨_,rfl⟩,q⟩
theorem um (hc:X.calm=true):cO X (.builtin "max") (fun xs H Q=>∃i j,xs=[.int i,.int j]/\Q (.int (if j > i then j else i)) H):=by
 intro pins s σ H xs us Q I r h
 obtain⟨i,j,rfl,q⟩:=h
 obtain⟨u,w',rfl,⟨t,rfl⟩,⟨t',rfl⟩⟩:=DV r
 refine max_two_ints (I.ok.hd hc) fun h' tk k=>⟨_,H,I.kept k,?_,q⟩
 by_cases hj:j > i
 ·rw[if_pos hj,if_pos hj];exact⟨_,rfl⟩
 ·rw[if_neg hj,if_neg hj];exact⟨_,rfl⟩
theorem vY (hc:X.calm=true):cO X (.builtin "min") (fun xs H Q=>∃i j,xs=[.int i,.int j]/\Q (.int (if j<i then j else i)) H):=by
 intro pins s σ H xs us Q I r h
 obtain⟨i,j,rfl,q⟩:=h
 obtain⟨u,w',rfl,⟨t,rfl⟩,⟨t',rfl⟩⟩:=DV r
 refine min_two_ints (I.ok.hd hc) fun h' tk k=>⟨_,H,I.kept k,?_,q⟩
 by_cases hj:j<i
 ·rw[if_pos hj,if_pos hj];exact⟨_,rfl⟩
 ·rw[if_neg hj,if_neg hj];exact⟨_,rfl⟩
theorem vk:cO X (.type "int") (fun xs H Q=>(∃i,xs=[.int i]/\Q (.int i) H)\/∃k,xs=[.bl k]/\Q (.int (if k then 1 else 0)) H):=by
 intro pins s σ H xs us Q I r h
 rcases h with ⟨i,rfl,q⟩|⟨k,rfl,q⟩
 ·obtain⟨u,rfl,t,rfl⟩:=dR r
  exact call_int_int ⟨.int i,H,I,⟨_,rfl⟩,q⟩
 ·obtain⟨u,rfl,r1⟩:=dR r
  cases r1
  exact call_int_bool ⟨.int (if k then 1 else 0),H,I.tok _,⟨_,rfl⟩,q⟩
noncomputable def Kj (K:PySem.W.Frag)(x:V)(H:Hp)(n:Nat):Prop:=
 match x with
 |.str y=>y.length≤sizeLine/\n=y.length
 |.byt y=>y.size≤sizeLine/\n=y.size
 |.ref p=>(∃xs,SqL K H p xs/\n=xs.length)\/∃xs,SqT K H p xs/\n=xs.length
 |_=>False
theorem wD:cO X (.builtin "len") (fun xs H Q=>∃x n,xs=[x]/\Kj X.K x H n/\Q (.int n) H):=by
 intro pins s σ H xs us Q I r h
 obtain⟨x,n,rfl,e,q⟩:=h
 obtain⟨u,rfl,rx⟩:=dR r
 have hl:=jC
 have hs:sizeLine=16777216:=sizeLine_eq
 cases x with
 |str y=>
  obtain⟨t,rfl⟩:=rx
  obtain⟨hy,e'⟩:y.length≤sizeLine/\n=y.length:=e
  subst e'
  exact len_str (by omega) ⟨.int _,H,I.tok _,⟨_,rfl⟩,q⟩
 |byt y=>
  obtain⟨t,rfl⟩:=rx
  obtain⟨hy,e'⟩:y.size≤sizeLine/\n=y.size:=e
  subst e'
  exact PySem.W.len_bytes (by omega) ⟨.int _,H,I.tok _,⟨_,rfl⟩,q⟩
 |ref p=>
  cases rx
  have e':(∃xs,SqL X.K H p xs/\n=xs.length)\/∃xs,SqT X.K H p xs/\n=xs.length:=e
  rcases e' with ⟨xs,hx,e'⟩|⟨xs,hx,e'⟩
  ·subst e'
   obtain⟨its,r',pl,hz⟩:=I.list hx
   have hlen:=r'.length
   exact Calls.call_len_list pl.isList (by simp only[List.size_toArray];omega) ⟨.int xs.length,H,I.tok _,⟨_,by simp only[List.size_toArray];rw[hlen]⟩,q⟩
  ·subst e'
   obtain⟨its,r',pl,hz⟩:=I.tuple hx
   have hlen:=r'.length
   exact len_tuple pl (by simp only[List.size_toArray];omega) ⟨.int xs.length,H,I.tok _,⟨_,by simp only[List.size_toArray];rw[hlen]⟩,q⟩
 |_=>exact (show False from e).elim
end
end L2
namespace L2
open PySem PySem.Spec PyProof.Rows
structure ObjM (h:Heap)(x dx C:Addr)(mA:Str->Option Value):Prop where
 obj:h.get? x=some (PySem.W.instObj C dx)
 ns:h.Ns1 dx mA
 ne:dx≠x
theorem vd {h:Heap}{dx:Addr}{mA:Str->Option Value}(n:h.Ns1 dx mA):∃od,h.get? dx=some od/\∀name,PySem.W.lookIn name od=some (mA name):=by
 obtain⟨o,es,ep,ho,hd,hk,_,hm⟩:=n
 refine⟨o,ho,fun name=>?_⟩
 have e:=hm name
 unfold nsFind findBy at e
 rw[←Array.find?_toList] at e
 unfold PySem.W.lookIn
 rw[hd]
 dsimp only
 split
 ·rename_i y q
  rw[q] at e
  exact congrArg some e
 ·rename_i q
  rw[q] at e
  have a:es.toList.any (·.refKey)=false:=by
   rw[List.any_eq_false]
   intro y hy
   obtain⟨z,t,hkey⟩:=hk y (Array.mem_toList_iff.mp hy)
   simp[DictEntry.refKey,hkey]
  have a':¬es.toList.any (·.refKey)=true:=by rw[a];exact Bool.false_ne_true
  rw[if_neg a']
  exact congrArg some e
theorem ObjM.look {h:Heap}{x dx C:Addr}{mA:Str->Option Value}(I:ObjM h x dx C mA):∃od,PySem.W.InstAt h x (PySem.W.instObj C dx) C (some od)/\∀name,PySem.W.lookIn name od=some (mA name):=
 let ⟨od,ho,hl⟩:=vd I.ns
 ⟨od,⟨I.obj,rfl,rfl,ho⟩,hl⟩
section
variable {P:Program}{w:World}{H H':Hp}{h h':Heap}{a C dx:Addr}{fs fs':List (Str×V)}
theorem Dx (hok:HOk P w H h)(e:H a=some (.ins C dx fs)):∃mA,ObjM h a dx C mA/\(∀f,IC (fs.lookup f) (mA f))/\PySem.Within mA (fs.map (·.1))/\fs.length≤1000/\H dx=some (.own a):=by
 obtain⟨d,z,ne,ob,mA,n,r,q⟩:=(show ObjOk P w H h a (.ins C dx fs) from hok a _ e)
 exact⟨mA,⟨ob,n,ne⟩,r,q,z,d⟩
end
structure Cls (K:PySem.W.Frag)(C:Addr):Prop where
 pg:PySem.W.plainGet K C Str.empty=true
 hd:PySem.W.hasDictIn K C=true
 po:PySem.W.plainOver K C=true
 sa:PySem.W.findIn K (.ref C) "__setattr__" = some (some (.builtin "object.__setattr__"))
theorem Cls.get {K:PySem.W.Frag}{C:Addr}(c:Cls K C)(f:Str):PySem.W.plainGet K C f=true:=c.pg
section
variable {X:Cx}{o e value:Expr}{f:Str}{pos pos' tpos:Pos}{ta tv:TE}
noncomputable def be:V->V->Hp->VK->Prop:=fun x y H Q=>∃i j,x=.int i/\y=.int j/\Q (.int (i+j)) H
noncomputable def iB:V->V->Hp->VK->Prop:=fun x y H Q=>∃i j,x=.int i/\y=.int j/\Q (.int (i - j)) H
end
section
variable {X:Cx}{pins:List (Addr×Obj)}{σ:St}{H:Hp}{s:Shared}{A:Around}{E:Value->Shared->Prop}{Q:Value->Shared->Prop}{c:Value}{b:Bool}
inductive TyOf (K:PySem.W.Frag) (H:Hp):V->Value->Prop where
 |non:TyOf K H .non (.type "NoneType")
 |bl (x:Bool):TyOf K H (.bl x) (.type "bool")
 |int (i:Int):TyOf K H (.int i) (.type "int")
 |str (x:Str):TyOf K H (.str x) (.type "str")
 |flt (x:UInt64):TyOf K H (.flt x) (.type "float")
 |lst {a:Addr} {xs:List V} (e:H a=some (.lst xs)):TyOf K H (.ref a) (.type "list")
 |frz {a:Addr} {o:Obj} {xs:List V} (e:H a=some (.frz o (.lst xs))):TyOf K H (.ref a) (.type "list")
 |tup {a:Addr} {xs:List V} (e:H a=some (.tup xs)):TyOf K H (.ref a) (.type "tuple")
 |dK {a:Addr} {kvs:List (gd×V)} (e:H a=some (.dK kvs)):TyOf K H (.ref a) (.type "dict")
 |dT {a:Addr} {kvs:List (List gd×V)} (e:H a=some (.dT kvs)):TyOf K H (.ref a) (.type "dict")
 |ins {a C dx:Addr} {fs:List (Str×V)} (e:H a=some (.ins C dx fs)) (cl:Cls K C) (ha:PySem.W.findIn K (.ref C) "__class__" = some (some (.builtin "object.__class__")))
   (hn:PySem.W.specialIn K (.builtin "object.__class__") "__get__" = some (some (.builtin "getset_descriptor.__get__"))) (htk:PySem.W.takesIn K (.builtin "object.__class__")=some true)
   (hm:PySem.W.mroIn K C (.type "object")=some true):TyOf K H (.ref a) (.ref C)
theorem vj {x:V}{u t:Value}(I:Inv X pins σ H s)(rx:RelV x u)(ty:TyOf X.K H x t)(e:PySem.W.kitOne X.K t c=some b)(h:∀tk,Q (.bool b) { s with toks:=tk }) :
  wpAny (model X.prog X.w) A (call (.builtin "isinstance") [u,c]) Q E s:=by
 cases ty with
 |non=>cases (show u=Value.none from rx);exact PySem.W.kia_one PySem.W.kitx_none I.kIn True.intro e (fun z=>nomatch z) h
 |bl y=>cases (show u=Value.bool y from rx);exact PySem.W.kia_one PySem.W.kitx_bool I.kIn True.intro e (fun z=>nomatch z) h
 |int i=>obtain⟨t,q⟩:=(show ∃t,u=Value.int i t from rx);cases q;exact PySem.W.kia_one PySem.W.kitx_int I.kIn True.intro e (fun z=>nomatch z) h
 |str y=>obtain⟨t,q⟩:=(show ∃t,u=Value.str y t from rx);cases q;exact PySem.W.kia_one PySem.W.kitx_str I.kIn True.intro e (fun z=>nomatch z) h
 |flt y=>obtain⟨t,q⟩:=(show ∃t,u=Value.float y t from rx);cases q;exact PySem.W.kia_one PySem.W.kitx_float I.kIn True.intro e (fun z=>nomatch z) h
 | @lst a xs ea=>
  cases (show u=Value.ref a from rx)
  obtain⟨_,_,n,_,h1⟩:=(show ObjOk X.prog X.w H s.heap a (.lst xs) from I.hok a _ ea)
  exact PySem.W.kia_one PySem.W.kitx_list I.kIn ⟨_,h1,rfl⟩ e (fun z=>nomatch z) h
 | @frz a ob xs ea=>
  cases (show u=Value.ref a from rx)
  obtain⟨_,_,_,n,_,h1⟩:=(show ObjOk X.prog X.w H s.heap a (.frz ob (.lst xs)) from I.hok a _ ea)
  exact PySem.W.kia_one PySem.W.kitx_list I.kIn ⟨_,h1,rfl⟩ e (fun z=>nomatch z) h
 | @tup a xs ea=>
  cases (show u=Value.ref a from rx)
  obtain⟨_,_,_,p⟩:=(show ObjOk X.prog X.w H s.heap a (.tup xs) from I.hok a _ ea)
  obtain⟨o,h1,h2,_⟩:=p
  exact PySem.W.kia_one PySem.W.kitx_tuple I.kIn ⟨o,h1,h2⟩ e (fun z=>nomatch z) h
 | @dK a kvs ea=>
  cases (show u=Value.ref a from rx)
  obtain⟨_,_,vs,_,p⟩:=(show ObjOk X.prog X.w H s.heap a (.dK kvs) from I.hok a _ ea)
  obtain⟨o,es,ep,h1,h2,_⟩:=p
  exact PySem.W.kia_one PySem.W.kitx_dict I.kIn ⟨o,h1,h2.1⟩ e (fun z=>nomatch z) h
 | @dT a kvs ea=>
  cases (show u=Value.ref a from rx)
  obtain⟨_,_,xs,_,o,es,ep,h1,h2,_⟩:=(show ObjOk X.prog X.w H s.heap a (.dT kvs) from I.hok a _ ea)
  exact PySem.W.kia_one PySem.W.kitx_dict I.kIn ⟨o,h1,h2.1⟩ e (fun z=>nomatch z) h
 | @ins a C dx fs ea cl ha hn htk hm=>
  cases (show u=Value.ref a from rx)
  obtain⟨mA,O,_⟩:=Dx I.hok ea
  obtain⟨od,J,_⟩:=O.look
  exact PySem.W.kia_one (PySem.W.kitx_own (cl.get _) cl.hd ha hn htk hm) I.kIn J e (fun z=>nomatch z) h
end
end L2
namespace L2
open PySem PySem.Spec PyProof.Rows
structure Room (k:Nat)(A:Around):Prop where
 hd:A.handled=none
 dp:A.depth+3 * k+5<recursionLimit
 un:A.units+16 * k+200<cLine
theorem Room.mono {j k:Nat}{A:Around}(r:Room k A)(h:j≤k):Room j A:=⟨r.hd,by have:=r.dp;omega,by have:=r.un;omega⟩
theorem Room.deeper {k:Nat}{A:Around}(r:Room (k+1) A)(env:Env):Room k (A.deeper env):=
 ⟨r.hd,by have:=r.dp;show A.depth+1+3 * k+5<_;omega,by have:=r.un;show A.units+3+16 * k+200<_;omega⟩
theorem Room.depth {k:Nat}{A:Around}(r:Room k A):A.depth<recursionLimit:=by have:=r.dp;omega
theorem Room.units {k:Nat}{A:Around}(r:Room k A):A.units+64<cLine:=by have:=r.un;omega
noncomputable def rV:TA:=fun _ H Q=>Q [] H
noncomputable def jO (ta:TE)(tr:TA):TA:=fun σ H Q=>ta σ H fun x H1=>tr σ H1 fun xs H2=>Q (x::xs) H2
section
variable {X:Cx}{e:Expr}{es:List Expr}{te:TE}{t:TA}{pos:Pos}
theorem pf:PA X [] rV:=fun _ _ _ _ H Q I h=>Calls.spliced_nil ⟨[],H,I,.nil,h⟩
theorem AC (ha:PE X e te)(hr:PA X es t)(hs:starEach (e::es) X.env=(false,eval e X.env)::starEach es X.env:=by rfl):PA X (e::es) (jO te t):=by
 intro pos pins s σ H Q I h
 rw[hs]
 show wpAny _ _ (spliced ((false,eval e X.env)::backTo pos (starEach es X.env))) _ _ s
 refine Calls.spliced_cons (bv (ha pins s σ H _ I h) fun u s1 ⟨x,H1,I1,r1,q1⟩=>?_)
 exact bv (hr pos pins s1 σ H1 _ I1 q1) fun us s2 ⟨xs,H2,I2,r2,q2⟩=>⟨x::xs,H2,I2,.cons r1 r2,q2⟩
noncomputable def Go (t:TA):TE:=fun σ H Q=>t σ H fun xs H1=>xs.length≤sizeLine/\∀p,H1 p=none->Q (.ref p) (upd H1 p (.tup xs))
noncomputable def Iq (t:TA):TE:=fun σ H Q=>t σ H fun xs H1=>xs.length≤sizeLine/\∀p,H1 p=none->Q (.ref p) (upd H1 p (.lst xs))
theorem FW {x1}(h:PA X es t):PE X (.Tuple es x1 pos) (Go t):=by
 intro pins s σ H Q I hq
 refine wpAny_Tuple_spliced (bv (h pos pins s σ H _ I hq) fun us s1 ⟨xs,H1,I1,r,z,q⟩=>⟨by rw[←r.length];exact z,?_⟩)
 have hf:H1 s1.heap.objs.size=none:=I1.hok.fresh (Nat.le_refl _)
 refine⟨.ref s1.heap.objs.size,upd H1 s1.heap.objs.size (.tup xs),I1.laid (t':=s1.toks) (fun b u e=>Heap.get?_push_of_some _ e) (Nat.le_refl _) ?_,rfl,q _ hf⟩
 exact⟨z,us,r,⟨_,Heap.get?_push_size _ rfl,rfl,_,rfl⟩⟩
theorem G5 (h:PA X es t):PE X (.List es pos) (Iq t):=by
 intro pins s σ H Q I hq
 refine wpAny_List_spliced (bv (h pos pins s σ H _ I hq) fun us s1 ⟨xs,H1,I1,r,z,q⟩=>⟨by rw[←r.length];exact z,?_⟩)
 have hf:H1 s1.heap.objs.size=none:=I1.hok.fresh (Nat.le_refl _)
 refine⟨.ref s1.heap.objs.size,upd H1 s1.heap.objs.size (.lst xs),I1.laid (t':=s1.toks) (fun b u e=>Heap.get?_push_of_some _ e) (Nat.le_refl _) ?_,rfl,q _ hf⟩
 exact⟨z,us,0,r,Heap.get?_push_size _ rfl⟩
end
noncomputable abbrev Sp:=List V->Hp->VK->XK->Prop
noncomputable abbrev vN:=List Env->Hp->Shared->XK->Value->Shared->Prop
structure Env0 (P:Program)(w:World)(K:PySem.W.Frag)(mg:Str->Option Value)(base:Heap)(A:Around)(outer:List Env)(s:Shared)(H:Hp):Prop where
 frames:A.frames=some outer
 mod:Mod K mg base
 bs:∀b o,base.get? b=some o->s.heap.get? b=some o/\H b=none
 bsz:base.objs.size≤s.heap.objs.size
 funs:s.heap.FunFrames base outer
 frf:∀b∈rY outer,H b=none
 hok:HOk P w H s.heap
 bare:AllBare s.gens
noncomputable def CE (outer:List Env)(P:Program)(w:World)(H:Hp)(s:Shared)(Q:VK)(u:Value)(s':Shared):Prop:=
 ∃v H',s'.os=s.os/\AllBare s'.gens/\Un (rY outer) [] H H' s.heap s'.heap/\HOk P w H' s'.heap/\RelV v u/\Q v H'
noncomputable def CR (CX:vN)(outer:List Env)(P:Program)(w:World)(H:Hp)(s:Shared)(Q:VK)(E:XK)(r:Result)(s':Shared):Prop:=
 match r with
 |.ok (.ret u)=>CE outer P w H s Q u s'
 |.ok _=>False
 |.error e=>CX outer H s E e s'
structure FnOk (P:Program)(w:World)(K:PySem.W.Frag)(mg:Str->Option Value)(base:Heap)(CX:vN)(k:Nat)(f:Addr)(fd:FuncData)(ps:List Str)(sp:Sp):Prop where
 len:∀vs H Q E,sp vs H Q E->vs.length=ps.length
 run:∀(A:Around) (outer:List Env) (s:Shared) (H:Hp) (args:Args) (us:List Value) (vs:List V) (Q:VK) (E:XK),Room k A->Env0 P w K mg base A outer s H->BindsTo s fd args (ps.zip us)->Vals vs us->sp vs H Q E →
  codeAny (model P w) A (.call (.ref f) args) (CR CX outer P w H s Q E) s
theorem FnOk.imp {P:Program}{w:World}{K:PySem.W.Frag}{mg:Str->Option Value}{base:Heap}{CX:vN}{k:Nat}{f:Addr}{fd:FuncData}{ps:List Str}{sp sp':Sp}(F:FnOk P w K mg base CX k f fd ps sp)
  (h:∀vs H Q E,sp' vs H Q E->sp vs H Q E):FnOk P w K mg base CX k f fd ps sp':=
 ⟨fun vs H Q E q=>F.len vs H Q E (h _ _ _ _ q),fun A outer s H args us vs Q E hr he hb hv hs=>F.run A outer s H args us vs Q E hr he hb hv (h _ _ _ _ hs)⟩
section
variable {X:Cx}{pins:List (Addr×Obj)}{σ:St}{H:Hp}{s s':Shared}
theorem Inv.env0 (I:Inv X pins σ H s):Env0 X.prog X.w X.K X.mg X.base X.A X.stack s H:=
 ⟨I.ok.frames,I.ok.mod,I.bs,Nat.le_trans I.ok.bsz I.sz,I.stack,I.stkFree,I.hok,I.bare⟩
theorem Inv.after {Q:VK}{u:Value}(I:Inv X pins σ H s)(h:CE X.stack X.prog X.w H s Q u s'):EP X pins σ Q u s':=by
 obtain⟨v,H',os,bare,un,hok,r,q⟩:=h
 obtain⟨hh,g,d,t,os'⟩:=s'
 obtain rfl:os'=s.os:=os
 exact⟨v,H',I.call (h':=hh) (g':=g) (d':=d) (t':=t) (ch:=[]) un hok bare (fun b z=>absurd z (by simp)),r,q⟩
end
noncomputable def eI (sp:Sp)(dvs:List V)(E:XK)(t:TA):TE:=fun σ H Q=>t σ H fun vs H1=>sp (vs++dvs) H1 Q E
noncomputable def Binds (K:PySem.W.Frag)(fd:FuncData)(ps:List Str)(ds:List Value):Prop:=
 ∀(s:Shared) (us:List Value),K.In s.heap->(us++ds).length=ps.length->BindsTo s fd ⟨us,[]⟩ (ps.zip (us++ds))
theorem Binds.all {K:PySem.W.Frag}{fd:FuncData}{ps:List Str}(h:∀us:List Value,us.length=ps.length->bindArgs fd ⟨us,[]⟩=pure (ps.zip us)):Binds K fd ps []:=fun s us _ hl=>by
 rw[List.append_nil] at hl ⊢
 exact .of_eq (h us hl)
noncomputable def oV (CX:vN)(X:Cx)(E:XK):Prop:=∀(pins:List (Addr×Obj)) (σ:St) (H:Hp) (s:Shared) (e:Value) (s':Shared),Inv X pins σ H s->CX X.stack H s E e s'->X.xe e s'
section
variable {X:Cx}{CX:vN}{k:Nat}{f C:Addr}{fd:FuncData}{ps:List Str}{sp:Sp}{dvs:List V}{ds:List Value}{E:XK}{x m:Str}{p pos apos:Pos}{e o:Expr}{es:List Expr}{ta:TE}{t:TA}
theorem sE {pins:List (Addr×Obj)}{σ:St}{H:Hp}{s:Shared}{Q:VK}{us:List Value}{vs:List V}(F:FnOk X.prog X.w X.K X.mg X.base CX k f fd ps sp)(hr:Room k X.A)(hb:Binds X.K fd ps ds)(hd:Vals dvs ds)(hx:oV CX X E)
  (I:Inv X pins σ H s) (r:Vals vs us) (h:sp (vs++dvs) H Q E):wpAny (model X.prog X.w) X.A (call (.ref f) us) (EP X pins σ Q) X.xe s:=by
 have r2:Vals (vs++dvs) (us++ds):=r.append hd
 have hl:(us++ds).length=ps.length:=by rw[←r2.length];exact F.len _ _ _ _ h
 refine wpAny_call (codeAny_mono (F.run X.A X.stack s H ⟨us,[]⟩ (us++ds) (vs++dvs) Q E hr I.env0 (hb s us I.kIn hl) r2 h) fun r s' hq=>?_)
 cases r with
 |error e=>exact hx pins σ H s e s' I hq
 |ok fl=>
  cases fl with
  |ret u=>exact I.after hq
  |next=>exact False.elim hq
  |brk=>exact False.elim hq
  |cont=>exact False.elim hq
theorem Ca (F:FnOk X.prog X.w X.K X.mg X.base CX k f fd ps sp)(hr:Room k X.A)(hg:Gl X x)(hm:X.mg x=some (.ref f))(hk:PySem.W.keepIn X.K (.ref f)=true)(hb:Binds X.K fd ps ds)(hd:Vals dvs ds)(hx:oV CX X E)
  (ha:PA X (e::es) t) (hdb:(x==("__debug__" : Str))=false:=by decide) (he:starEach (e::es) X.env=(false,eval e X.env)::starEach es X.env:=by rfl) (hpl:(backTo pos (starEach es X.env)).any (·.1)=false:=by rfl) :
  PE X (.Call (.Name x p) (e::es) [] pos) (eI sp dvs E t):=by
 intro pins s σ H Q I h
 refine wpAny_Call_Name_kw (nN I hg hm ?_ hdb)
 refine PySem.W.callWith_K (h₀:=X.base) I.ok.mod.kin hk (bv (ha pos pins s σ H _ I h) fun us s1 ⟨vs,H1,I1,r,q⟩=>⟨I1.kIn,?_⟩) he hpl
 exact sE F hr hb hd hx I1 r q
theorem wO (F:FnOk X.prog X.w X.K X.mg X.base CX k f fd ps sp)(hr:Room k X.A)(hg:Gl X x)(hm:X.mg x=some (.ref f))(hk:PySem.W.keepIn X.K (.ref f)=true)(hb:Binds X.K fd ps ds)(hd:Vals dvs ds)(hx:oV CX X E)
  (hdb:(x==("__debug__" : Str))=false:=by decide):PE X (.Call (.Name x p) [] [] pos) (eI sp dvs E rV):=by
 intro pins s σ H Q I h
 refine wpAny_Call_Name_kw (nN I hg hm ?_ hdb)
 exact PySem.W.callWith_K0 I.kIn hk (sE (us:=[]) F hr hb hd hx I .nil h)
end
section
variable {X:Cx}{CX:vN}{k:Nat}{f C:Addr}{fd:FuncData}{ps ks:List Str}{sp:Sp}{E:XK}{x m:Str}{p pos apos kpos:Pos}{e o:Expr}{es:List Expr}{kws:List Keyword}{te ta:TE}{t tk:TA}{nm:Option Str}
variable {g:List Value->List Value->List Value}{gV:List V->List V->List V}
end
structure FnScope (N P:List Str)(sc:Scope):Prop where
 kind:sc.kind=.function
 co:sc.isCoroutine=false
 gen:sc.isGenerator=false
 nd:N.Nodup
 pre:N.take P.length=P
 par:∀x∈P,sc.names.lookup x=some .local\/sc.names.lookup x=some .cell
 nofree:∀y∈sc.names,y.2≠.free
theorem nj {kindOf:Str->Option NameKind}{x:Str}:∀{binds:List (Str×Value)} {m:Str->Option Value},(∀v,(x,v)∉binds)->bindL kindOf binds m x=m x
 |[],_,_=>rfl
 |(n,v)::r,m,h=>by
  unfold bindL
  rw[nj fun w hw=>h w (List.mem_cons_of_mem _ hw)]
  split
  ·have:x≠n:=by rintro rfl;exact h v List.mem_cons_self
   simp[this]
  ·rfl
theorem ni {kindOf:Str->Option NameKind}{x:Str}:∀{binds:List (Str×Value)} {m:Str->Option Value},(∀v,(x,v)∉binds)->bindC kindOf binds m x=m x
 |[],_,_=>rfl
 |(n,v)::r,m,h=>by
  unfold bindC
  rw[ni fun w hw=>h w (List.mem_cons_of_mem _ hw)]
  split
  ·rfl
  ·have:x≠n:=by rintro rfl;exact h v List.mem_cons_self
   simp[this]
theorem mV {kindOf:Str->Option NameKind}{x:Str}{v:Value}:∀{P:List Str} {vs:List Value} {i:Nat} {m:Str->Option Value},P.Nodup->P[i]?=some x->vs[i]?=some v->kindOf x=some .local →
  bindL kindOf (P.zip vs) m x=some v
 |[],_,_,_,_,h,_,_=>by simp at h
 |_::_,[],_,_,_,_,h,_=>by simp at h
 |p::P,w::vs,0,m,nd,h1,h2,hk=>by
  simp at h1 h2;subst h1;subst h2
  show bindL kindOf ((p,w)::P.zip vs) m p=_
  unfold bindL
  rw[nj fun v hv=>(List.nodup_cons.mp nd).1 (List.of_mem_zip hv).1,if_pos hk]
  simp
 |p::P,w::vs,i+1,m,nd,h1,h2,hk=>by
  show bindL kindOf ((p,w)::P.zip vs) m x=_
  unfold bindL
  exact mV (i:=i) (List.nodup_cons.mp nd).2 (by simpa using h1) (by simpa using h2) hk
theorem nC {kindOf:Str->Option NameKind}{x:Str}{v:Value}:∀{P:List Str} {vs:List Value} {i:Nat} {m:Str->Option Value},P.Nodup->P[i]?=some x->vs[i]?=some v->kindOf x≠some .local →
  bindC kindOf (P.zip vs) m x=some v
 |[],_,_,_,_,h,_,_=>by simp at h
 |_::_,[],_,_,_,_,h,_=>by simp at h
 |p::P,w::vs,0,m,nd,h1,h2,hk=>by
  simp at h1 h2;subst h1;subst h2
  show bindC kindOf ((p,w)::P.zip vs) m p=_
  unfold bindC
  rw[ni fun v hv=>(List.nodup_cons.mp nd).1 (List.of_mem_zip hv).1,if_neg hk]
  simp
 |p::P,w::vs,i+1,m,nd,h1,h2,hk=>by
  show bindC kindOf ((p,w)::P.zip vs) m x=_
  unfold bindC
  exact nC (i:=i) (List.nodup_cons.mp nd).2 (by simpa using h1) (by simpa using h2) hk
noncomputable def dn (N:List Str)(vs:List V):St:=vs.map some++List.replicate (N.length - vs.length) none
noncomputable def iR (CX:vN)(P:Program)(w:World)(K:PySem.W.Frag)(mg:Str->Option Value)(base:Heap)(N:List Str)(qual:Str)(scope:Scope)(f:Addr)(cd:Value)(A:Around)(outer:List Env)(s:Shared)(H:Hp)(E:XK):Cx where
 prog:=P
 w:=w
 K:=K
 mg:=mg
 base:=base
 A:=A.deeper (envOfC qual scope s.heap.objs.size f cd)
 N:=N
 s₀:=s
 H₀:=H
 env:=envOfC qual scope s.heap.objs.size f cd
 outer:=outer
 stack:=envOfC qual scope s.heap.objs.size f cd::outer
 ex:=[]
 calm:=true
 fn:=fun _=>true
 pn:=[]
 xe:=fun e s'=>wpAny (model P w) (A.deeper (envOfC qual scope s.heap.objs.size f cd)) (leaving (envOfC qual scope s.heap.objs.size f cd) e) (fun _ s''=>CX outer H s E e s'') (fun e' s''=>CX outer H s E e' s'') s'
theorem qU {sc:Scope}{n:Nat}{x:Str}(h:sc.names.lookup x=some .cell):∃c,(cellsFrom n sc.names []).lookup x=some c:=by
 have q:=PySem.W.cellsFrom_some sc.names n [] (.inl h)
 exact Option.isSome_iff_exists.mp q
theorem uK {CX:vN}{P:Program}{w:World}{K:PySem.W.Frag}{mg:Str->Option Value}{base:Heap}{N ps:List Str}{qual:Str}{scope:Scope}{f:Addr}{cd:Value}{A:Around}{outer:List Env}{s s1:Shared}{H:Hp}{E:XK}{us:List Value}{vs:List V}
  (S:FnScope N ps scope) (hd:A.handled=none) (e0:Env0 P w K mg base A outer s H) (hl:vs.length=ps.length) (r:Vals vs us)
  (x:InCallC s s.heap.objs.size (bindL (envOfC qual scope s.heap.objs.size f cd).kindOf (ps.zip us) fun _=>none) (cellsFrom (s.heap.objs.size+1) scope.names []) (bindC (envOfC qual scope s.heap.objs.size f cd).kindOf (ps.zip us) fun _=>none) s1) :
  Inv (iR CX P w K mg base N qual scope f cd A outer s H E) [] (dn N vs) H s1:=by
 have hpl:ps.length≤N.length:=by have:=congrArg List.length S.pre;rw[List.length_take] at this;omega
 obtain⟨h1,tk,rfl,hk⟩:=x.done
 have noA:∀b:Addr,b∉(iR CX P w K mg base N qual scope f cd A outer s H E).ex:=fun b z=>absurd (show b∈([]:List Addr) from z) (by simp)
 refine⟨⟨e0.mod,S.kind,rfl,rfl,Nat.le_refl _,fun y z c h1 h2=>?_,fun y hy=>?_,fun y c _ h=>?_,fun _=>hd,Around.frames_deeper e0.frames,.inr ⟨rfl,rfl⟩,fun b z=>absurd z (noA b),e0.bs,e0.bsz,fun b _ _=>noA b,fun b z=>absurd z (noA b),e0.funs,e0.frf⟩,
  rfl,e0.bare,Un.kept hk,⟨_,x.toInCall.ns,fun i y v h1 h2 h3=>?_⟩,fun y c h=>⟨_,x.cell y c h⟩,e0.hok.fresh (Nat.le_refl _),fun y c h=>?_,fun p hp=>absurd (show p∈([]:List (Addr×Obj)) from hp) (by simp),e0.hok.kept hk,?_⟩
 ·exact name_of_addr x.apart (PySem.mem_of_lookup h1) (PySem.mem_of_lookup h2)
 ·have hy:scope.names.lookup y=some .cell\/scope.names.lookup y=some .free:=hy
  rcases hy with hy|hy
  ·exact qU hy
  ·exact absurd rfl (S.nofree _ (PySem.mem_of_lookup hy))
 ·exact Nat.le_of_lt (x.above y c (PySem.mem_of_lookup h))
 ·have hi:i<vs.length:=by
   unfold dn at h2
   by_cases hi:i<vs.length
   ·exact hi
   ·rw[List.getElem?_append_right (by simpa using hi)] at h2
    rw[List.getElem?_replicate] at h2
    split at h2<;>cases h2
  have ha:vs[i]?=some v:=by
   unfold dn at h2
   rw[List.getElem?_append_left (by simpa using hi),List.getElem?_map] at h2
   cases e:vs[i]? with
   |none=>rw[e] at h2;cases h2
   |some a=>rw[e] at h2;cases h2;rfl
  obtain⟨u,hu,rv⟩:=r.get ha
  have hp:ps[i]?=some y:=by
   rw[←S.pre,List.getElem?_take_of_lt (by omega)];exact h1
  have ndP:ps.Nodup:=by rw[←S.pre];exact S.nd.sublist (List.take_sublist _ _)
  refine⟨u,rv,?_⟩
  rcases S.par y (List.mem_of_getElem? hp) with k|k
  ·exact .inl ⟨k,mV ndP hp hu k⟩
  ·obtain⟨c,e⟩:=qU (n:=s.heap.objs.size+1) k
   refine .inr ⟨.inl k,c,e,?_⟩
   have q:=x.cell y c e
   rw[nC ndP hp hu (by show scope.names.lookup y≠_;rw[k];decide)] at q
   exact q
 ·exact e0.hok.fresh (Nat.le_of_lt (x.above y c (PySem.mem_of_lookup h)))
 ·unfold dn
  show _=N.length
  rw[List.length_append,List.length_map,List.length_replicate]
  omega
theorem Mr {CX:vN}{P:Program}{w:World}{K:PySem.W.Frag}{mg:Str->Option Value}{base:Heap}{k:Nat}{f:Addr}{name qual:Str}{params:Arguments}{body:List Stmt}{scope:Scope}{dV kV doc pm cdv ct oc:Value}{an od:Option Addr}
  {osl:Array (Option Value)} {N ps:List Str} {sp:Sp} (lk:K.lookup f=some ⟨oc,od,.func (PySem.W.fnOf name qual params body scope dV kV doc pm an cdv ct),osl⟩) (hcd:PySem.W.codeIn K cdv qual=true) (S:FnScope N ps scope)
  (len:∀vs H Q E,sp vs H Q E->vs.length=ps.length)
  (hbody:∀(A:Around) (outer:List Env) (s:Shared) (H:Hp) (vs:List V) (Q:VK) (E:XK),Room k (A.deeper (envOfC qual scope s.heap.objs.size f cdv))->sp vs H Q E →
   ∃t,PSs (iR CX P w K mg base N qual scope f cdv A outer s H E) body t/\t { nx:=fun _ H'=>Q .non H',rt:=Q } (dn N vs) H) :
  FnOk P w K mg base CX (k+1) f (PySem.W.fnOf name qual params body scope dV kV doc pm an cdv ct) ps sp:=by
 refine⟨len,fun A outer s H args us vs Q E hr e0 hb r hsp=>?_⟩
 have hl:=len _ _ _ _ hsp
 have KX:K.In s.heap:=e0.mod.kin.keeps fun b o e=>(e0.bs b o e).1
 have lim:s.heap.NoLimit:=e0.mod.nolimit.keeps fun b o e=>(e0.bs b o e).1
 have hkind:∀y∈ps.zip us,scope.names.lookup y.1=some .local\/(scope.names.lookup y.1=some .cell/\((cellsFrom (s.heap.objs.size+1) scope.names []).lookup y.1).isSome=true):=fun ⟨n,v⟩ hy=>by
  rcases S.par n (List.of_mem_zip hy).1 with q|q
  ·exact .inl q
  ·exact .inr ⟨q,PySem.W.cellsFrom_some _ _ _ (.inl q)⟩
 refine codeAny_call_function hr.depth (KX _ _ lk) rfl S.co S.gen rfl (PySem.W.codeRec_of KX hcd) (hb _ _ _ _ ?_)
 refine wpAny_newFunctionEnv_cells S.kind hkind fun env he s1 x=>?_
 subst he
 refine⟨lim.keeps x.toInCall.keep,codeAny_func ?_⟩
 obtain⟨t,ht,hq⟩:=hbody A outer s H vs Q E (hr.deeper _) hsp
 have I:Inv (iR CX P w K mg base N qual scope f cdv A outer s H E) [] (dn N vs) H s1:=uK S hr.hd e0 hl r x
 refine wpAny_mono (ht [] s1 (dn N vs) H _ I hq) (fun fl s' hs=>?_) fun e s' hs=>hs
 have fin:∀{σ':St} {H':Hp} {v:V} {u:Value},Inv (iR CX P w K mg base N qual scope f cdv A outer s H E) [] σ' H' s'->RelV v u->Q v H'->CE outer P w H s Q u s':=
  fun {σ' H' v u} J rv q=>⟨v,H',J.os,J.bare,J.base,J.hok,rv,q⟩
 cases fl with
 |ret u=>
  obtain⟨v,σ',H',J,rv,q⟩:=hs
  exact fin J rv q
 |next=>
  obtain⟨σ',H',J,q⟩:=hs
  exact fin (v:=V.non) (u:=Value.none) J rfl q
 |brk=>
  obtain⟨_,_,_,q⟩:=hs
  exact False.elim q
 |cont=>
  obtain⟨_,_,_,q⟩:=hs
  exact False.elim q
end L2
namespace L2
open PySem PySem.Spec PyProof.Rows
section
variable {X:Cx}{x:Str}{p pos:Pos}{e:Expr}{es:List Expr}{t:TA}{id T:String}{r:List V->Hp->VK->Prop}
noncomputable def zR (r:List V->Hp->VK->Prop)(t:TA):TE:=fun σ H Q=>t σ H fun vs H1=>r vs H1 Q
theorem bO (hc:cO X (.builtin id) r)(hg:Gl X x)(hm:X.mg x=none)(hv:bootBuiltins x=some (.builtin id))(ha:PA X (e::es) t)(hn:x ≠ "__name__":=by decide)(hdb:(x==("__debug__" : Str))=false:=by decide)
  (he:starEach (e::es) X.env=(false,eval e X.env)::starEach es X.env:=by rfl) (hpl:(backTo pos (starEach es X.env)).any (·.1)=false:=by rfl):PE X (.Call (.Name x p) (e::es) [] pos) (zR r t):=by
 intro pins s σ H Q I h
 refine wpAny_Call_Name_kw (gy I hg hm hv ?_ hn hdb)
 exact PyProof.Rows.callWith_builtin1 (bv (ha pos pins s σ H _ I h) fun us s1 ⟨vs,H1,I1,r1,q1⟩=>hc pins s1 σ H1 vs us Q I1 r1 q1) he hpl
theorem d5 (hc:cO X (.type T) r)(hg:Gl X x)(hm:X.mg x=none)(hv:bootBuiltins x=some (.type T))(ha:PA X (e::es) t)(hn:x ≠ "__name__":=by decide)(hdb:(x==("__debug__" : Str))=false:=by decide)
  (he:starEach (e::es) X.env=(false,eval e X.env)::starEach es X.env:=by rfl) (hpl:(backTo pos (starEach es X.env)).any (·.1)=false:=by rfl):PE X (.Call (.Name x p) (e::es) [] pos) (zR r t):=by
 intro pins s σ H Q I h
 refine wpAny_Call_Name_kw (gy I hg hm hv ?_ hn hdb)
 exact PyProof.Rows.callWith_type1 (bv (ha pos pins s σ H _ I h) fun us s1 ⟨vs,H1,I1,r1,q1⟩=>hc pins s1 σ H1 vs us Q I1 r1 q1) he hpl
end
end L2
namespace HT
open PySem PyProof.Rows
section
variable {prog:Program}{w:World}{A:Around}{E:Value->Shared->Prop}{s:Shared}
theorem cat_tup {t b:Addr}{vs ws:List Value}{Q:Value->Shared->Prop}(ht:IsTup s.heap t vs.toArray)(hb:IsTup s.heap b ws.toArray)(hv:vs≠[])
  (h1:ws=[]->Q (.ref t) s) (h2:ws≠[]->Q (.ref s.heap.objs.size) { s with heap:=s.heap.push { cls:=.type "tuple",data:=.seq (vs++ws).toArray } })
  (hsz:vs.length+ws.length≤sizeLine):wpAny (model prog w) A (binaryOp .Add (.ref t) (.ref b)) Q E s:=by
 obtain⟨⟨cls,dd,data,sl⟩,ho,hc,n,hd⟩:=id ht
 obtain⟨⟨cls2,dd2,data2,sl2⟩,ho2,hc2,n2,hd2⟩:=id hb
 simp only at hc hd hc2 hd2
 subst hc hd hc2 hd2
 have e:vs.toArray++ws.toArray=(vs++ws).toArray:=by simp
 by_cases hw:ws=[]
 ·exact concat_meets ⟨_,ho,rfl⟩ ⟨_,ho2,rfl⟩ noFill_tuple_add seq_tuple_add PySem.F.slot_tuple_add PySem.F.entry_tuple_add (PySem.F.args_tuple_add_2 _ _)
   (tuple_addW1 t b vs.toArray ws.toArray n n2 dd dd2 sl sl2 (by simpa using hv) (by simp[hw])) ⟨ho,ho2,h1 hw⟩
 ·refine concat_meets ⟨_,ho,rfl⟩ ⟨_,ho2,rfl⟩ noFill_tuple_add seq_tuple_add PySem.F.slot_tuple_add PySem.F.entry_tuple_add (PySem.F.args_tuple_add_2 _ _)
   (tuple_addW2 t b vs.toArray ws.toArray n n2 dd dd2 sl sl2 (by simpa using hv) (by simpa using hw) (by rw[List.size_toArray,List.size_toArray];exact hsz)) ⟨ho,ho2,?_⟩
  rw[e]
  exact h2 hw
noncomputable def sIx (n d:Nat):Option Int->Nat
 |none=>d
 |some v=>if v<0 then (v+(n:Int)).toNat else min v.toNat n
theorem sIx_none (n d:Nat):sIx n d none=d:=rfl
theorem sIx_nat (n d k:Nat):sIx n d (some (k:Int))=min k n:=by
 show (if (k:Int)<0 then ((k:Int)+(n:Int)).toNat else min (k:Int).toNat n)=min k n
 rw[if_neg (by omega),Int.toNat_natCast]
theorem Ib (n d:Nat)(hd:d≤n)(o:Option Int):sIx n d o≤n:=by
 cases o with
 |none=>exact hd
 |some v=>
  show (if v<0 then (v+(n:Int)).toNat else min v.toNat n)≤n
  by_cases hv:v<0
  ·rw[if_pos hv];omega
  ·rw[if_neg hv];exact Nat.min_le_right _ _
theorem tZ (v:Int)(n d:Nat):(if v<0 then max (v+(n:Int)) 0 else min v (n:Int))=((sIx n d (some v):Nat):Int):=by
 show (if v<0 then max (v+(n:Int)) 0 else min v (n:Int))=(((if v<0 then (v+(n:Int)).toNat else min v.toNat n):Nat):Int)
 by_cases hv:v<0
 ·simp only[if_pos hv];omega
 ·simp only[if_neg hv];omega
theorem sy (lo hi:Option Int)(n:Nat):Builtin.Slice.sliceAdjust lo hi 1 (n:Int)=(((sIx n 0 lo:Nat):Int),((sIx n n hi:Nat):Int)):=by
 have h1:¬((1:Int)<0):=by omega
 unfold Builtin.Slice.sliceAdjust
 simp only[h1,if_false]
 refine Prod.ext ?_ ?_
 ·cases lo with
  |none=>rfl
  |some v=>exact tZ v n 0
 ·cases hi with
  |none=>rfl
  |some v=>exact tZ v n n
theorem sv (i j:Nat):Builtin.Slice.slicePlaces (i:Int) (j:Int) 1=j - i:=by
 unfold Builtin.Slice.slicePlaces
 have h1:(1:Int) > 0:=by omega
 simp only[h1,if_true,Int.ediv_one]
 split<;>omega
theorem kQ {v:Value}{o:Option Int}{Q:Option Int->Shared->Prop}(p:IsPart v o)(h:Q o s):wpAny (model prog w) A (Builtin.Slice.slicePartIndex v) Q E s:=by
 cases p with
 |none=>exact slicePart_none h
 |int i t=>exact slicePart_int h
theorem fA {sl:Addr}{vl vu:Value}{lo hi:Option Int}{n:Nat}{Q:Int×Int×Nat->Shared->Prop}(hs:s.heap.IsSliceOf sl vl vu .none)(pl:IsPart vl lo)(pu:IsPart vu hi)
  (h:Q (((sIx n 0 lo:Nat):Int),1,sIx n n hi - sIx n 0 lo) s):wpAny (model prog w) A (Builtin.Slice.sliceApplied (.ref sl) (pure (n:Int))) Q E s:=by
 obtain⟨os,hos,hcs,Jx⟩:=id hs
 unfold Builtin.Slice.sliceApplied Builtin.Slice.sliceFields
 refine wpAny_bind (wpAny_bind (wpAny_field hos Jx (x:=vl) rfl (wpAny_bind (wpAny_field hos Jx (x:=vu) rfl (wpAny_bind (wpAny_field hos Jx (x:=.none) rfl (wpAny_pure ?_)))))))
 refine wpAny_bind (slicePart_none ?_)
 show wpAny _ _ (if ((1:Int)==0)=true then _ else _) _ _ s
 rw[if_neg (by decide)]
 refine wpAny_bind (kQ pl (wpAny_bind (kQ pu (wpAny_bind (wpAny_pure ?_)))))
 show wpAny _ _ (match Builtin.Slice.sliceAdjust lo hi 1 (n:Int) with|(lo,hi)=>pure (lo,(1:Int),Builtin.Slice.slicePlaces lo hi 1)) _ _ s
 rw[sy lo hi n]
 show wpAny _ _ (pure (((sIx n 0 lo:Nat):Int),(1:Int),Builtin.Slice.slicePlaces ((sIx n 0 lo:Nat):Int) ((sIx n n hi:Nat):Int) 1)) _ _ s
 rw[sv]
 exact wpAny_pure h
theorem yO (xs:Array Value)(i k:Nat):((List.range k).filterMap fun (m:Nat)=>xs[((i:Int)+(m:Int) * 1).toNat]?).toArray=((xs.toList.drop i).take k).toArray:=by
 have e:(fun (m:Nat)=>xs[((i:Int)+(m:Int) * 1).toNat]?)=fun m=>xs[i+m]?:=by
  funext m
  have:((i:Int)+(m:Int) * 1).toNat=i+m:=by omega
  rw[this]
 rw[e]
 have:=pick_run xs i k
 rw[List.filterMap_map] at this
 have e2:((fun x=>xs[x]?) ∘ fun x=>i+x)=fun m=>xs[i+m]?:=rfl
 rw[e2] at this
 rw[this]
theorem getItem_tuple_cut {t sl:Addr}{items:Array Value}{vl vu:Value}{lo hi:Option Int}{Q:Value->Shared->Prop}(ht:IsTup s.heap t items)(hs:s.heap.IsSliceOf sl vl vu .none)(pl:IsPart vl lo)(pu:IsPart vu hi)
  (hw:¬(sIx items.size 0 lo=0/\sIx items.size items.size hi=items.size))
  (h:Q (.ref s.heap.objs.size) { s with heap:=s.heap.push { cls:=.type "tuple",data:=.seq ((items.toList.drop (sIx items.size 0 lo)).take (sIx items.size items.size hi - sIx items.size 0 lo)).toArray } })
  (hsz:items.size≤sizeLine):wpAny (model prog w) A (getItem (.ref t) (.ref sl)) Q E s:=by
 have htake:sizeOk (.seq ((items.toList.drop (sIx items.size 0 lo)).take (sIx items.size items.size hi - sIx items.size 0 lo)).toArray):=by
  show ((items.toList.drop (sIx items.size 0 lo)).take (sIx items.size items.size hi - sIx items.size 0 lo)).toArray.size≤sizeLine
  rw[List.size_toArray,List.length_take,List.length_drop,Array.length_toList]
  omega
 have hj:sIx items.size items.size hi≤items.size:=Ib _ _ (Nat.le_refl _) hi
 obtain⟨os,hos,hcs,Jx⟩:=id hs
 have hTs:s.TypeIs (.ref sl) "slice":=⟨os,hos,hcs⟩
 unfold getItem
 try with_reducible refine wpAny_holding ?_
 first|refine wpAny_bind (wpAny_pure ?_)|skip
 refine wpAny_bind (wpAny_sequenceKey ht.typeIs (by decide) ?_)
 refine wpAny_bind (wpAny_callSpecial?_slot (name:=Str.ofString "__getitem__") ht.typeIs PyProof.Rows.slot_tuple_getitem
  (wpAny_call_entry PyProof.Rows.slot_tuple_getitem ht.typeIs entry_tuple_getitem ?_ (args_tuple_getitem _ _)))
 show wpAny _ _ (Builtin.Tuple.tupleItemsOf (.ref t) >>= _) _ _ s
 refine wpAny_bind (tupleItemsOf_ ht ?_)
 refine wpAny_bind (wpAny_typeOf hTs ?_)
 rw[if_pos (by decide)]
 refine wpAny_bind (fA hs pl pu ?_)
 have hno:¬((((sIx items.size 0 lo:Nat):Int)==0&&(1:Int)==1&&(sIx items.size items.size hi - sIx items.size 0 lo)==items.size)=true):=by
  intro q
  rw[Bool.and_eq_true,Bool.and_eq_true] at q
  have q1:((sIx items.size 0 lo:Nat):Int)=0:=eq_of_beq q.1.1
  have q2:sIx items.size items.size hi - sIx items.size 0 lo=items.size:=eq_of_beq q.2
  exact hw ⟨by omega,by omega⟩
 show wpAny _ _ (if (((sIx items.size 0 lo:Nat):Int)==0&&(1:Int)==1&&(sIx items.size items.size hi - sIx items.size 0 lo)==items.size)=true then _ else _) _ _ s
 rw[if_neg hno,yO]
 first
  |exact wpAny_bind (m:=Builtin.Tuple.tupleExact _) (wpAny_newObj_type (wpAny_pure ⟨_,rfl,wpAny_pure h⟩) htake)
  |exact wpAny_bind (m:=Builtin.Tuple.tupleExact _) (wpAny_newObj_type (wpAny_bind (wpAny_pure (wpAny_pure ⟨_,rfl,wpAny_pure h⟩))) htake)
  |exact wpAny_bind (wpAny_bind (m:=Builtin.Tuple.tupleExact _) (wpAny_newObj_type (wpAny_pure (wpAny_pure ⟨_,rfl,wpAny_pure h⟩)) htake))
  |exact wpAny_bind (wpAny_bind (m:=Builtin.Tuple.tupleExact _) (wpAny_newObj_type (wpAny_pure ⟨_,rfl,wpAny_pure h⟩) htake))
end
end HT
namespace L2
open PySem PySem.Spec PyProof.Rows
noncomputable abbrev TO:=St->Hp->(Option Int->Hp->Prop)->Prop
noncomputable def PO (X:Cx)(e:Option Expr)(t:TO):Prop:=
 ∀(pins:List (Addr×Obj)) (s:Shared) (σ:St) (H:Hp) (Q:Option Int->Hp->Prop),Inv X pins σ H s->t σ H Q →
  wpAny (model X.prog X.w) X.A (evalPart e X.env) (fun u s'=>∃o H',Inv X pins σ H' s'/\IsPart u o/\Q o H') X.xe s
noncomputable def ot:TO:=fun _ H Q=>Q none H
noncomputable def wW (t:TE):TO:=fun σ H Q=>t σ H fun x H1=>∃i,x=.int i/\Q (some i) H1
section
variable {X:Cx}{e:Expr}{te:TE}{lo hi:Option Expr}{tl th:TO}{pos p2:Pos}
theorem Ay:PO X none ot:=by
 intro pins s σ H Q I h
 rw[evalPart_none]
 exact wpAny_pure ⟨none,H,I,.none,h⟩
theorem Da (h:PE X e te):PO X (some e) (wW te):=by
 intro pins s σ H Q I hw
 rw[evalPart_some]
 refine bv (h pins s σ H _ I hw) fun u s1 ⟨x,H1,I1,r1,q1⟩=>?_
 obtain⟨i,rfl,q⟩:=q1
 obtain⟨t,rfl⟩:=r1
 exact⟨some i,H1,I1,.int i t,q⟩
noncomputable def SlR (X:Cx)(r:V->Option Int->Option Int->Hp->VK->Prop):Prop:=
 ∀(pins:List (Addr×Obj)) (s:Shared) (σ:St) (H:Hp) (x:V) (v vl vu:Value) (lo hi:Option Int) (sl:Addr) (Q:VK),Inv X pins σ H s->RelV x v->s.heap.IsSliceOf sl vl vu .none->IsPart vl lo->IsPart vu hi->r x lo hi H Q →
  ∃T id,typeLookup (.type T) "__getitem__" = pure (some (.builtin id))/\s.TypeIs v T/\wpAny (model X.prog X.w) X.A (getItem v (.ref sl)) (EP X pins σ Q) X.xe s
noncomputable def OI (r:V->Option Int->Option Int->Hp->VK->Prop)(te:TE)(tl th:TO):TE:=fun σ H Q=>te σ H fun x H1=>tl σ H1 fun l H2=>th σ H2 fun u H3=>r x l u H3 Q
theorem lj {r:V->Option Int->Option Int->Hp->VK->Prop}(hr:SlR X r)(he:PE X e te)(hl:PO X lo tl)(hu:PO X hi th):PE X (.Subscript e (.Slice lo hi none p2) pos) (OI r te tl th):=by
 intro pins s σ H Q I h
 refine Subscript_ (bv (he pins s σ H _ I h) fun v s1 ⟨x,H1,I1,r1,q1⟩=>?_)
 refine wpAny_Slice (bv (hl pins s1 σ H1 _ I1 q1) fun vl s2 ⟨l,H2,I2,pl,q2⟩=>bv (hu pins s2 σ H2 _ I2 q2) fun vu s3 ⟨u,H3,I3,pu,q3⟩=>?_)
 rw[evalPart_none]
 refine wpAny_pure ?_
 have I4:Inv X pins σ H3 { s3 with heap:=s3.heap.push { cls:=.type "slice",data:=.fields #[vl,vu,.none] } }:=I3.kept (t':=s3.toks) fun b ob q=>Heap.get?_push_of_some _ q
 obtain⟨T,id,hT,ht,hg⟩:=hr pins { s3 with heap:=s3.heap.push { cls:=.type "slice",data:=.fields #[vl,vu,.none] } } σ H3 x v vl vu l u s3.heap.objs.size Q I4 r1 (Heap.IsSliceOf.new ..) pl pu q3
 show wpAny (model X.prog X.w) X.A (subscriptTail e (.Slice lo hi none p2) v (.ref s3.heap.objs.size)) (EP X pins σ Q) X.xe { s3 with heap:=s3.heap.push { cls:=.type "slice",data:=.fields #[vl,vu,.none] } }
 exact tail_any (ops:=[.ref s3.heap.objs.size,v]) ht hT hg (by with_unfolding_all rfl)
noncomputable def pX (xs:List V)(lo hi:Option Int):List V:=(xs.drop (HT.sIx xs.length 0 lo)).take (HT.sIx xs.length xs.length hi - HT.sIx xs.length 0 lo)
theorem jM (xs:List V)(lo hi:Option Int):(pX xs lo hi).length≤xs.length:=by
 unfold pX
 rw[List.length_take,List.length_drop]
 omega
noncomputable def Jc (K:PySem.W.Frag):V->Option Int->Option Int->Hp->VK->Prop:=fun x lo hi H Q=>∃a xs,x=.ref a/\SqT K H a xs ∧
 ¬(HT.sIx xs.length 0 lo=0/\HT.sIx xs.length xs.length hi=xs.length)/\∀p,H p=none->Q (.ref p) (upd H p (.tup (pX xs lo hi)))
theorem Ih:SlR X (Jc X.K):=by
 intro pins s σ H x v vl vu lo hi sl Q I rx hs pl pu h
 obtain⟨a,xs,rfl,hx,hw,q⟩:=h
 cases rx
 obtain⟨its,r,ht,hz⟩:=I.tuple hx
 have hlen:its.toArray.size=xs.length:=by rw[List.size_toArray];exact r.length.symm
 refine⟨"tuple",_,PyProof.Rows.slot_tuple_getitem.lookup,ht.typeIs,?_⟩
 refine HT.getItem_tuple_cut ht hs pl pu (by rw[hlen];exact hw) ?_ (by rw[hlen];exact hz)
 rw[hlen]
 refine⟨.ref s.heap.objs.size,_,I.laid (t':=s.toks) (o:=.tup (pX xs lo hi)) (fun b ob q=>Heap.get?_push_of_some _ q) (Nat.le_refl _) ?_,rfl,q _ (I.hok.fresh (Nat.le_refl _))⟩
 exact⟨Nat.le_trans (jM xs lo hi) hz,_,(r.drop (HT.sIx xs.length 0 lo)).take (HT.sIx xs.length xs.length hi - HT.sIx xs.length 0 lo),IsTup.new _ _⟩
noncomputable def Eo (K:PySem.W.Frag):R2:=fun x y H Q=>∃a b xs ys,x=.ref a/\y=.ref b/\SqT K H a xs/\SqT K H b ys/\xs≠[]/\xs.length+ys.length≤sizeLine ∧
 (ys=[]->Q (.ref a) H)/\(ys≠[]->∀p,H p=none->Q (.ref p) (upd H p (.tup (xs++ys))))
theorem Vals.nil_iff {xs:List V}{us:List Value}(r:Vals xs us):us=[]↔xs=[]:=by
 cases r with
 |nil=>simp
 |cons _ _=>simp
theorem As:eQ X (binaryOp .Add) (Eo X.K):=by
 intro pins s σ H x y v u Q I rx ry h
 obtain⟨a,b,xs,ys,rfl,rfl,ha,hb,hx,hz,q1,q2⟩:=h
 cases rx
 cases ry
 obtain⟨its,r1,p1,_⟩:=I.tuple ha
 obtain⟨its2,r2,p2,_⟩:=I.tuple hb
 refine HT.cat_tup p1 p2 (fun z=>hx (r1.nil_iff.mp z)) (fun z=>⟨.ref a,H,I,rfl,q1 (r2.nil_iff.mp z)⟩) (fun z=>?_) (by rw[←r1.length,←r2.length];exact hz)
 refine⟨.ref s.heap.objs.size,_,I.laid (t':=s.toks) (o:=.tup (xs++ys)) (fun b ob q=>Heap.get?_push_of_some _ q) (Nat.le_refl _) ?_,rfl,q2 (fun w=>z (r2.nil_iff.mpr w)) _ (I.hok.fresh (Nat.le_refl _))⟩
 exact⟨by rw[List.length_append];exact hz,_,r1.append r2,IsTup.new _ _⟩
end
end L2
namespace L2
open PySem PySem.Spec PyProof.Rows
noncomputable def oH (n:Nat)(i:Int):Option Nat:=if 0≤i then (if i<n then some i.toNat else none) else if -(n:Int)≤i then some (i+n).toNat else none
noncomputable def atI {α:Type}(xs:List α)(i:Int):Option α:=(oH xs.length i).bind fun j=>xs[j]?
theorem tj {n:Nat}{i:Int}{j:Nat}(h:oH n i=some j):seqIndex? i n=some j/\j<n/\-(n:Int)≤i/\i<n:=by
 unfold oH at h
 by_cases h0:0≤i
 ·rw[if_pos h0] at h
  by_cases h1:i<n
  ·rw[if_pos h1] at h
   have e:i.toNat=j:=Option.some.inj h
   exact⟨by rw[seqIndex_of h0 h1,e],by omega,by omega,h1⟩
  ·rw[if_neg h1] at h;cases h
 ·rw[if_neg h0] at h
  by_cases h1:-(n:Int)≤i
  ·rw[if_pos h1] at h
   have e:(i+n).toNat=j:=Option.some.inj h
   exact⟨by rw[seqIndex_neg (by omega) h1,e],by omega,h1,by omega⟩
  ·rw[if_neg h1] at h;cases h
theorem j0 {α:Type}{xs:List α}{i:Int}{v:α}(h:atI xs i=some v):∃j,seqIndex? i xs.length=some j/\xs[j]?=some v/\j<xs.length/\-(xs.length:Int)≤i/\i<xs.length:=by
 unfold atI at h
 cases e:oH xs.length i with
 |none=>rw[e] at h;cases h
 |some j=>
  rw[e] at h
  obtain⟨h1,h2,h3,h4⟩:=tj e
  exact⟨j,h1,h,h2,h3,h4⟩
theorem eG {α:Type}{xs:List α}{j:Nat}{v:α}(h:xs[j]?=some v):atI xs (j:Int)=some v:=by
 have hj:j<xs.length:=(List.getElem?_eq_some_iff.mp h).1
 have e:oH xs.length (j:Int)=some j:=by
  unfold oH
  rw[if_pos (by omega),if_pos (by omega)];simp
 unfold atI;rw[e];exact h
theorem iK {α:Type}(xs:List α)(v:α):atI (xs++[v]) (-1)=some v:=by
 have hl:(xs++[v]).length=xs.length+1:=by simp
 have e:oH (xs++[v]).length (-1)=some xs.length:=by
  unfold oH
  rw[hl,if_neg (by decide),if_pos (by omega)]
  congr 1
  omega
 unfold atI
 rw[e]
 show (xs++[v])[xs.length]?=some v
 simp
noncomputable def gX (b:Expr):Prop:=∀o i,subscripted b false o i=operate [o,i] (getItem o i)
noncomputable def IxR (X:Cx)(r:R2):Prop:=
 ∀(value slice:Expr) (pins:List (Addr×Obj)) (s:Shared) (σ:St) (H:Hp) (x y:V) (v u:Value) (Q:VK),Inv X pins σ H s->RelV x v->RelV y u->r x y H Q →
  subscripted slice false v u=operate [v,u] (getItem v u)->wpAny (model X.prog X.w) X.A (subscriptTail value slice v u) (EP X pins σ Q) X.xe s
noncomputable def Pc (X:Cx)(id:String)(r:V->List V->Hp->VK->Prop):Prop:=
 ∀(pins:List (Addr×Obj)) (s:Shared) (σ:St) (H:Hp) (x:V) (xs:List V) (v:Value) (us:List Value) (Q:VK),Inv X pins σ H s->RelV x v->Vals xs us->r x xs H Q →
  wpAny (model X.prog X.w) X.A (call (.builtin id) (v::us)) (EP X pins σ Q) X.xe s
section
variable {X:Cx}{a b:Expr}{ta tb:TE}{pos:Pos}
theorem IxR.or {r r':R2}(h:IxR X r)(h':IxR X r'):IxR X (fun x y H Q=>r x y H Q\/r' x y H Q):=by
 intro value slice pins s σ H x y v u Q I rx ry q hs
 rcases q with q|q
 ·exact h value slice pins s σ H x y v u Q I rx ry q hs
 ·exact h' value slice pins s σ H x y v u Q I rx ry q hs
theorem DF {r:R2}(hr:IxR X r)(ha:PE X a ta)(hb:PE X b tb)(hs:gX b):PE X (.Subscript a b pos) (Ht r ta tb):=by
 intro pins s σ H Q I h
 exact Subscript_ (HG ha hb I h fun v u s2 x y H2 I2 rx ry q=>hr a b pins s2 σ H2 x y v u Q I2 rx ry q (hs _ _))
noncomputable def Ct (K:PySem.W.Frag):R2:=fun x y H Q=>∃p xs i v,x=.ref p/\y=.int i/\SqL K H p xs/\atI xs i=some v/\Q v H
noncomputable def Aa (K:PySem.W.Frag):R2:=fun x y H Q=>∃p xs i v,x=.ref p/\y=.int i/\SqT K H p xs/\atI xs i=some v/\Q v H
noncomputable def L5:R2:=fun x y H Q=>∃z i c,x=.str z/\y=.int i/\z.length≤sizeLine/\atI z.cps.toList i=some c/\Q (.str ⟨#[c]⟩) H
theorem ix_list:IxR X (Ct X.K):=by
 intro value slice pins s σ H x y v u Q I rx ry h hs
 obtain⟨p,xs,i,z,rfl,rfl,hq,he,q⟩:=h
 cases rx
 obtain⟨t,rfl⟩:=ry
 obtain⟨its,r,pl,hz⟩:=I.list hq
 obtain⟨j,h1,h2,h3,h4,h5⟩:=j0 he
 obtain⟨w,ew,rw'⟩:=r.get h2
 have hl:=r.length
 have hn:=jC
 have fin:EP X pins σ Q w s:=⟨z,H,I,rw',q⟩
 by_cases h0:0≤i
 ·have hj:i.toNat=j:=by
   rw[seqIndex_of h0 h5] at h1
   exact Option.some.inj h1
  exact item_listR pl.isList h0 (by omega) (by rw[hj];simpa using ew) fin hs
 ·have hj:(i+(its.toArray.size:Int)).toNat=j:=by
   rw[seqIndex_neg (by omega) h4] at h1
   rw[List.size_toArray,←hl]
   exact Option.some.inj h1
  exact subscriptTail_builtinR (x:=w) pl.isList.typeIs slot_list_getitem.lookup
   (wpAny_getItem_list_neg (Q:=fun r s'=>r=w/\EP X pins σ Q r s') pl.isList (by omega) (by rw[List.size_toArray]<;>omega) (by omega) (by rw[hj];simpa using ew) ⟨rfl,fin⟩) hs
theorem ix_tup:IxR X (Aa X.K):=by
 intro value slice pins s σ H x y v u Q I rx ry h hs
 obtain⟨p,xs,i,z,rfl,rfl,hq,he,q⟩:=h
 cases rx
 obtain⟨t,rfl⟩:=ry
 obtain⟨its,r,pl,hz⟩:=I.tuple hq
 obtain⟨j,h1,h2,h3,h4,h5⟩:=j0 he
 obtain⟨w,ew,rw'⟩:=r.get h2
 have hl:=r.length
 have hn:=jC
 have fin:EP X pins σ Q w s:=⟨z,H,I,rw',q⟩
 exact subscriptTail_builtinR (x:=w) pl.typeIs slot_tuple_getitem.lookup
  (getItem_tuple (j:=j) (Q:=fun r s'=>r=w/\EP X pins σ Q r s') pl (by omega) (by omega) (by rw[List.size_toArray,←hl];exact h1) (by simpa using ew) ⟨rfl,fin⟩) hs
theorem EY:IxR X L5:=by
 intro value slice pins s σ H x y v u Q I rx ry h hs
 obtain⟨z,i,c,rfl,rfl,hz,he,q⟩:=h
 obtain⟨t,rfl⟩:=rx
 obtain⟨t',rfl⟩:=ry
 obtain⟨j,h1,h2,h3,h4,h5⟩:=j0 he
 have hl:z.cps.toList.length=z.length:=by simp[Str.length]
 rw[hl] at h1 h4 h5
 have hn:=jC
 exact tail_any (typeIs_str s z t) slot_str_getitem.lookup (getItem_str (c:=c) (by
  have e1:decide (i < -(2 ^ 63:Int))=false:=decide_eq_false (by omega)
  have e2:decide (i ≥ 2 ^ 63)=false:=decide_eq_false (by omega)
  rw[e1,e2,Bool.or_false]) (by rw[h1];simpa using h2) ⟨.str ⟨#[c]⟩,H,I.tok _,⟨_,rfl⟩,q⟩) hs
noncomputable def bx (K:PySem.W.Frag):R2:=fun x y H Q=>Ct K x y H Q\/Aa K x y H Q\/L5 x y H Q
theorem HZ:IxR X (bx X.K):=ix_list.or (ix_tup.or EY)
theorem su (its:List Value)(n j:Nat)(u:Value):Obj.mapSeq (·.setIfInBounds j u) { cls:=.type "list",data:=.seq its.toArray n }={ cls:=.type "list",data:=.seq (its.set j u).toArray n }:=by
 simp[Obj.mapSeq]
theorem Inv.lst {pins:List (Addr×Obj)}{σ:St}{H:Hp}{s:Shared}{p:Addr}{xs:List V}(I:Inv X pins σ H s)(h:H p=some (.lst xs)) :
  ∃(its:List Value) (n:Nat),Vals xs its/\s.heap.get? p=some { cls:=.type "list",data:=.seq its.toArray n }/\xs.length≤sizeLine:=by
 obtain⟨z,its,n,r,e⟩:=I.hok p _ h
 exact⟨its,n,r,e,z⟩
theorem Inv.lstUpd {pins:List (Addr×Obj)}{σ:St}{H:Hp}{s:Shared}{p:Addr}{xs ys:List V}{its its':List Value}{n n':Nat}{f:Obj->Obj}(I:Inv X pins σ H s)(h:H p=some (.lst xs))
  (ho:s.heap.get? p=some { cls:=.type "list",data:=.seq its.toArray n }) (hf:f { cls:=.type "list",data:=.seq its.toArray n }={ cls:=.type "list",data:=.seq its'.toArray n' }) (r:Vals ys its') (hz:ys.length≤sizeLine) (t:Nat) :
  Inv X pins σ (upd H p (.lst ys)) { s with heap:=s.heap.update p f,toks:=t }:=by
 have e:(s.heap.update p f).get? p=some { cls:=.type "list",data:=.seq its'.toArray n' }:=by
  rw[Heap.get?_update_self f ho (by rw[hf]<;>rfl),hf]
 refine I.write (x:=p) (e:=p) (by rw[h];trivial) (.inl rfl) (fun b u hb q=>(Heap.get?_update_other _ _ (Ne.symm hb)).trans q) ⟨_,e⟩ ?_
 exact⟨hz,its',n',r,e⟩
noncomputable def qF:V->V->V->Hp->(Hp->Prop)->Prop:=fun o i v H Q=>∃p xs k j,o=.ref p/\i=.int k/\H p=some (.lst xs)/\oH xs.length k=some j/\Q (upd H p (.lst (xs.set j v)))
theorem p5:HI X qF:=by
 intro pins s σ H o i v ov iv u Q I ro ri rv h
 obtain⟨p,xs,k,j,rfl,rfl,hp,hj,q⟩:=h
 cases ro
 obtain⟨t,rfl⟩:=ri
 obtain⟨its,n,r,ho,hz⟩:=I.lst hp
 obtain⟨h1,h2,h3,h4⟩:=tj hj
 have hl:=r.length
 have hn:=jC
 have I':Inv X pins σ (upd H p (.lst (xs.set j v))) { s with heap:=s.heap.update p (Obj.mapSeq (·.setIfInBounds j u)) }:=
  I.lstUpd hp ho (su its n j u) (r.set rv j) (by rw[List.length_set];exact hz) s.toks
 by_cases h0:0≤k
 ·have hk:k.toNat=j:=by
   rw[seqIndex_of h0 h4] at h1
   exact Option.some.inj h1
  exact PySem.W.ki_setAt ho h0 (by omega) (by rw[List.size_toArray,←hl];exact h4) (by rw[hk];exact⟨_,I',q⟩)
 ·have hk:(k+(its.toArray.size:Int)).toNat=j:=by
   rw[seqIndex_neg (by omega) h3] at h1
   rw[List.size_toArray,←hl]
   exact Option.some.inj h1
  exact PySem.W.ki_setBack ho (by omega) (by rw[List.size_toArray,←hl];exact h3) (by omega) (by rw[hk];exact⟨_,I',q⟩)
theorem oW (lo hi:Option Int)(n:Nat):(sliceBounds lo hi none n).1=((HT.sIx n 0 lo:Nat):Int)/\(sliceBounds lo hi none n).2.1=((HT.sIx n n hi:Nat):Int)/\(sliceBounds lo hi none n).2.2=1:=by
 refine⟨?_,?_,rfl⟩
 ·cases lo with
  |none=>simp[sliceBounds,HT.sIx]
  |some i=>
   simp only[sliceBounds,HT.sIx,Option.getD_none,show (1:Int) > 0 by decide,if_true]
   by_cases h:i<0
   ·simp only[h,if_true]<;>omega
   ·simp only[h,if_false]<;>omega
 ·cases hi with
  |none=>simp[sliceBounds,HT.sIx]
  |some i=>
   simp only[sliceBounds,HT.sIx,Option.getD_none,show (1:Int) > 0 by decide,if_true]
   by_cases h:i<0
   ·simp only[h,if_true]<;>omega
   ·simp only[h,if_false]<;>omega
theorem mJ (its:List Value)(lo hi:Option Int):slicePick its.toArray lo hi none=((its.drop (HT.sIx its.length 0 lo)).take (HT.sIx its.length its.length hi - HT.sIx its.length 0 lo)).toArray:=by
 obtain⟨h1,h2,h3⟩:=oW lo hi its.toArray.size
 unfold slicePick
 rw[h1,h2,h3]
 simp only[sliceRange_one,pick_run,List.size_toArray]<;>rfl
noncomputable def Fe (K:PySem.W.Frag):V->Option Int->Option Int->Hp->VK->Prop:=fun x lo hi H Q=>∃a xs,x=.ref a/\SqL K H a xs/\∀p,H p=none->Q (.ref p) (upd H p (.lst (pX xs lo hi)))
theorem CD:SlR X (Fe X.K):=by
 intro pins s σ H x v vl vu lo hi sl Q I rx hs pl pu h
 obtain⟨a,xs,rfl,hx,q⟩:=h
 cases rx
 obtain⟨its,r,ht,hz⟩:=I.list hx
 have hlen:=r.length
 refine⟨"list",_,slot_list_getitem.lookup,ht.isList.typeIs,?_⟩
 refine wpAny_getItem_list_slice ht.isList hs pl pu .none (by simp) ?_ (by rw[List.size_toArray]<;>omega)
 rw[mJ,←hlen]
 refine⟨.ref s.heap.objs.size,_,I.laid (t':=s.toks) (o:=.lst (pX xs lo hi)) (fun b ob q=>Heap.get?_push_of_some _ q) (Nat.le_refl _) ?_,rfl,q _ (I.hok.fresh (Nat.le_refl _))⟩
 exact⟨Nat.le_trans (jM xs lo hi) hz,_,0,(r.drop (HT.sIx xs.length 0 lo)).take (HT.sIx xs.length xs.length hi - HT.sIx xs.length 0 lo),Heap.get?_push_size _ rfl⟩
noncomputable def kR:V->Bool
 |.non=>true
 |.bl _=>true
 |.int _=>true
 |.str _=>true
 |_=>false
noncomputable def wU:V->V->Bool
 |.non,.non=>true
 |.bl a,.bl b=>a==b
 |.bl a,.int b=>(if a then 1 else 0)==b
 |.int a,.bl b=>a==(if b then 1 else 0)
 |.int a,.int b=>a==b
 |.str a,.str b=>a==b
 |_,_=>false
noncomputable def O1 (x:V)(xs:List V):Bool:=xs.any fun y=>wU y x
noncomputable def zW (K:PySem.W.Frag)(neg:Bool):R2:=fun x y H Q=>∃p xs,y=.ref p/\(SqL K H p xs\/SqT K H p xs)/\kR x=true/\xs.all kR=true/\Q (.bl (if neg then !O1 x xs else O1 x xs)) H
theorem oF:cO X (.type "list") (fun xs H Q=>∃p ys,xs=[.ref p]/\(SqL X.K H p ys\/SqT X.K H p ys)/\∀l,H l=none->Q (.ref l) (upd H l (.lst ys))):=by
 intro pins s σ H xs us Q I r h
 obtain⟨p,ys,rfl,hq,q⟩:=h
 obtain⟨u,rfl,rx⟩:=dR r
 cases rx
 have fin:∀(its:List Value),Vals ys its->ys.length≤sizeLine->∀(h':Heap) (c':Nat),(∀b o',s.heap.get? b=some o'->h'.get? b=some o') →
   h'.get? s.heap.objs.size=some { cls:=.type "list",dict:=none,data:=.seq its.toArray c',slots:=#[] }->EP X pins σ Q (.ref s.heap.objs.size) { s with heap:=h' }:=fun its r' hz h' c' kp e=>
  ⟨.ref s.heap.objs.size,_,I.laid (t':=s.toks) kp (Nat.le_refl _) (show ObjOk X.prog X.w _ h' _ (.lst ys) from⟨hz,its,c',r',e⟩),rfl,q _ (I.hok.fresh (Nat.le_refl _))⟩
 rcases hq with hq|hq
 ·obtain⟨its,r',pl,hz⟩:=I.list hq
  have hlen:=r'.length
  obtain⟨o,ho,hc,n,hd⟩:=pl.isList
  exact call_list_seq p (.inl rfl) ho hc hd (fun h' c' kp e=>fin its r' hz h' c' kp e) (by simp only[List.size_toArray]<;>omega)
 ·obtain⟨its,r',pl,hz⟩:=I.tuple hq
  have hlen:=r'.length
  obtain⟨o,ho,hc,n,hd⟩:=pl
  exact call_list_seq p (.inr rfl) ho hc hd (fun h' c' kp e=>fin its r' hz h' c' kp e) (by simp only[List.size_toArray]<;>omega)
theorem md:cO X (.type "tuple") (fun xs H Q=>∃p ys,xs=[.ref p]/\((SqL X.K H p ys/\∀l,H l=none->Q (.ref l) (upd H l (.tup ys)))\/(SqT X.K H p ys/\Q (.ref p) H))):=by
 intro pins s σ H xs us Q I r h
 obtain⟨p,ys,rfl,h⟩:=h
 obtain⟨u,rfl,rx⟩:=dR r
 cases rx
 rcases h with ⟨hq,q⟩|⟨hq,q⟩
 ·obtain⟨its,r',pl,hz⟩:=I.list hq
  have hlen:=r'.length
  refine call_tuple_list pl.isList (fun h' kp=>?_) (by simp only[List.size_toArray]<;>omega)
  have I1:Inv X pins σ H { s with heap:=h' }:=I.kept (t':=s.toks) kp
  have I2:Inv X pins σ (upd H h'.objs.size (.tup ys)) { s with heap:=h'.push { cls:=.type "tuple",data:=.seq its.toArray } }:=
   I1.laid (t':=s.toks) (fun b o e=>Heap.get?_push_of_some _ e) (Nat.le_refl _) (show ObjOk X.prog X.w _ _ _ (.tup ys) from⟨hz,its,r',IsTup.new _ _⟩)
  exact⟨.ref h'.objs.size,_,I2,rfl,q _ (I1.hok.fresh (Nat.le_refl _))⟩
 ·obtain⟨its,r',pl,hz⟩:=I.tuple hq
  exact call_tuple_same pl ⟨.ref p,H,I,rfl,q⟩
noncomputable def OB (K:PySem.W.Frag)(T:String)(x:V)(H:Hp):Prop:=match x with
 |.str _=>T = "str"
 |.int _=>T = "int"
 |.ref p=>(T = "list"/\∃xs,SqL K H p xs)\/(T = "tuple"/\∃o,K.lookup p=some o/\o.cls=.type "tuple"/\o.dict=none) ∨
   (T = "dict"/\((∃kvs,H p=some (.dK kvs))\/∃kvs,H p=some (.dT kvs)))\/(T = "set"/\∃S n,H p=some (.set S n))
 |_=>False
theorem yp {pins:List (Addr×Obj)}{σ:St}{H:Hp}{s:Shared}{T:String}{x:V}{v:Value}(I:Inv X pins σ H s)(r:RelV x v)(ty:OB X.K T x H) :
  s.TypeIs v T/\∀a,v=.ref a->∃ob,s.heap.get? a=some ob/\ob.dict=none:=by
 cases x with
 |str z=>
  obtain⟨t,rfl⟩:=r
  cases (show T = "str" from ty)
  exact⟨typeIs_str s z t,fun _ e=>nomatch e⟩
 |int i=>
  obtain⟨t,rfl⟩:=r
  cases (show T = "int" from ty)
  exact⟨typeIs_int s i t,fun _ e=>nomatch e⟩
 |ref p=>
  cases r
  rcases ty with ⟨rfl,xs,hq⟩|⟨rfl,o,hk,hc,hd⟩|⟨rfl,hk⟩|⟨rfl,S,n,hk⟩
  ·obtain⟨its,_,pl,_⟩:=I.list hq
   refine⟨pl.isList.typeIs,fun a e=>?_⟩
   cases e
   obtain⟨o,n,e,c,hd,_⟩:=pl
   exact⟨o,e,hd⟩
  ·refine⟨⟨o,I.kIn p o hk,hc⟩,fun a e=>?_⟩
   cases e
   exact⟨o,I.kIn _ o hk,hd⟩
  ·have z:∃o,s.heap.get? p=some o/\o.ExactDict:=by
    rcases hk with ⟨kvs,hk⟩|⟨kvs,hk⟩
    ·obtain⟨_,_,_,_,o,_,_,e,ex,_⟩:=I.hok p _ hk
     exact⟨o,e,ex⟩
    ·obtain⟨_,_,_,_,o,_,_,e,ex,_⟩:=I.hok p _ hk
     exact⟨o,e,ex⟩
   obtain⟨o,e,ex⟩:=z
   refine⟨⟨o,e,ex.1⟩,fun a e2=>?_⟩
   cases e2
   exact⟨o,e,ex.2.1⟩
  ·obtain⟨o,_,_,_,e,ex,_⟩:=I.hok p _ hk
   refine⟨⟨o,e,ex.1⟩,fun a e2=>?_⟩
   cases e2
   exact⟨o,e,ex.2.1⟩
 |_=>exact False.elim ty
noncomputable def GY (K:PySem.W.Frag)(T:String)(r:V->List V->Hp->VK->Prop)(to:TE):TE:=fun σ H Q=>to σ H fun x H1=>OB K T x H1/\r x [] H1 Q
noncomputable def ML (K:PySem.W.Frag)(T:String)(r:V->List V->Hp->VK->Prop)(to:TE)(t:TA):TE:=fun σ H Q=>to σ H fun x H1=>OB K T x H1/\t σ H1 fun xs H2=>r x xs H2 Q
variable {o e:Expr}{es:List Expr}{to:TE}{t:TA}{name:Str}{apos cpos:Pos}{T id:String}{r:V->List V->Hp->VK->Prop}
theorem Ik (pa:PlainAttrs T)(slot:Slot T name id)(hty:typeOf (.builtin id)=pure (.type "method_descriptor"))(hm:Pc X id r)(ho:PE X o to)
  (hbase:attributeBase o name X.env (eval o X.env)=eval o X.env:=by rfl) (hline:(apos.endLine==cpos.line)=true:=by rfl):PE X (.Call (.Attribute o name apos) [] [] cpos) (GY X.K T r to):=by
 intro pins s σ H Q I h
 refine wpAny_Call_method0_late hbase hline (bv (ho pins s σ H _ I h) fun v s1 ⟨x,H1,I1,r1,ty,q1⟩=>?_)
 obtain⟨h1,h2⟩:=yp I1 r1 ty
 exact⟨T,id,pa,slot,hty,h1,h2,Calls.callWith_builtin rfl (PySem.evalArgs_none (hm pins s1 σ H1 x [] v [] Q I1 r1 .nil q1))⟩
theorem KI (pa:PlainAttrs T)(slot:Slot T name id)(hty:typeOf (.builtin id)=pure (.type "method_descriptor"))(hm:Pc X id r)(ho:PE X o to)(ha:PA X (e::es) t)
  (hbase:attributeBase o name X.env (eval o X.env)=eval o X.env:=by rfl)
  (hfew:((backTo cpos (starEach (e::es) X.env)).all (fun x=>!x.1)&&(backToKw cpos (keywordEach [] X.env)).all (fun x=>x.1.isSome)
   && decide ((e::es).length+([]:List Keyword).length+(if ([]:List Keyword).isEmpty then 0 else 1)<30))=true:=by rfl)
  (hline:(apos.endLine==cpos.line)=true:=by rfl) (hs:starEach (e::es) X.env=(false,eval e X.env)::starEach es X.env:=by rfl) (hplain:(backTo cpos (starEach es X.env)).any (·.1)=false:=by rfl) :
  PE X (.Call (.Attribute o name apos) (e::es) [] cpos) (ML X.K T r to t):=by
 intro pins s σ H Q I h
 refine wpAny_Call_method_late hbase hfew hline rfl (bv (ho pins s σ H _ I h) fun v s1 ⟨x,H1,I1,r1,ty,q1⟩=>?_)
 obtain⟨h1,h2⟩:=yp I1 r1 ty
 refine⟨T,id,pa,slot,hty,h1,h2,?_⟩
 have hA:=ha cpos pins s1 σ H1 _ I1 q1
 rw[hs] at hA ⊢
 refine Calls.callWith_builtin (by show (false || (backTo cpos (starEach es X.env)).any (·.1))=false;rw[hplain]<;>rfl) (Calls.evalArgs_plain ?_)
 exact bv hA fun us s2 ⟨vs,H2,I2,r2,q2⟩=>hm pins s2 σ H2 x vs v us Q I2 r1 r2 q2
end
end L2
namespace L2
open PySem PySem.Spec PyProof.Rows
noncomputable def Pf (X:Cx)(id:String)(r:V->List V->Hp->VK->Prop):Prop:=
 ∀(pins:List (Addr×Obj)) (s:Shared) (σ:St) (H:Hp) (x:V) (xs:List V) (v:Value) (us:List Value) (Q:VK),Inv X pins σ H s->RelV x v->Vals xs us->r x xs H Q →
  wpAny (model X.prog X.w) X.A (call (.builtin id) (v::us)) (EP X pins σ Q) X.xe s
theorem Vals.one:∀{x:V} {us:List Value},Vals [x] us->∃u,us=[u]/\RelV x u
 |_,_,.cons r .nil=>⟨_,rfl,r⟩
theorem Vals.zero:∀{us:List Value},Vals [] us->us=[]
 |_,.nil=>rfl
theorem Vals.reverse {xs:List V}{us:List Value}(h:Vals xs us):Vals xs.reverse us.reverse:=by
 induction h with
 |nil=>exact .nil
 |cons r t ih=>rw[List.reverse_cons,List.reverse_cons];exact Vals.append ih (.cons r .nil)
theorem Vals.rep {xs:List V}{us:List Value}(h:Vals xs us):∀k:Nat,Vals (List.replicate k xs).flatten (List.replicate k us).flatten
 |0=>.nil
 |k+1=>by
  rw[List.replicate_succ,List.replicate_succ,List.flatten_cons,List.flatten_cons]
  exact Vals.append h (Vals.rep h k)
theorem jr (its:List Value):∀(k:Nat) (acc:List Value),
  List.foldl (fun x1 x2=>x1++x2) acc.toArray (List.replicate k its.toArray)=(acc++(List.replicate k its).flatten).toArray
 |0,acc=>by simp
 |k+1,acc=>by
  have e:acc.toArray++its.toArray=(acc++its).toArray:=by simp
  have e2:(acc++its)++(List.replicate k its).flatten=acc++(List.replicate (k+1) its).flatten:=by
   rw[List.replicate_succ,List.flatten_cons,List.append_assoc]
  rw[←e2,←jr its k (acc++its),←e,List.replicate_succ,List.foldl_cons]
section
variable {X:Cx}{pins:List (Addr×Obj)}{σ:St}{H:Hp}{s:Shared}{l b:Addr}{xs ys zs:List V}
theorem Inv.lset {its its':List Value}{n:Nat}{f:Array Value->Array Value}{t':Nat}(I:Inv X pins σ H s)(hH:H l=some (.lst xs))
  (e:s.heap.get? l=some { cls:=.type "list",data:=.seq its.toArray n }) (hf:f its.toArray=its'.toArray) (hv:Vals ys its') (hz:ys.length≤sizeLine) :
  Inv X pins σ (upd H l (.lst ys)) { s with heap:=s.heap.update l (Obj.mapSeq f),toks:=t' }:=by
 have q:=PySem.IsL.update e f
 rw[hf] at q
 refine I.write (x:=l) (e:=l) (by rw[hH];exact trivial) (.inl rfl) (fun b' u hb hu=>(Heap.get?_update_other s.heap (Obj.mapSeq f) (Ne.symm hb)).trans hu) ⟨_,q⟩ ?_
 exact⟨hz,its',_,hv,q⟩
theorem Inv.lnew {its:List Value}{t':Nat}(I:Inv X pins σ H s)(hv:Vals ys its)(hz:ys.length≤sizeLine) :
  Inv X pins σ (upd H s.heap.objs.size (.lst ys)) { s with heap:=s.heap.push { cls:=.type "list",data:=.seq its.toArray },toks:=t' }:=
 I.laid (fun _ _ q=>Heap.get?_push_of_some _ q) (Nat.le_refl _) ⟨hz,its,0,hv,Heap.get?_push_size _ rfl⟩
theorem Inv.fresh (I:Inv X pins σ H s):H s.heap.objs.size=none:=I.hok.fresh (Nat.le_refl _)
theorem Inv.lstM (I:Inv X pins σ H s)(hH:H l=some (.lst xs)):xs.length≤sizeLine/\∃(its:List Value) (n:Nat),Vals xs its/\xs.length=its.length/\s.heap.get? l=some { cls:=.type "list",data:=.seq its.toArray n }:=by
 obtain⟨z,its,n,r,e⟩:=I.hok l _ hH
 exact⟨z,its,n,r,r.length,e⟩
theorem wH {n:Nat}(h:n≤sizeLine):Builtin.List.listTooLong n=false:=by
 unfold Builtin.List.listTooLong
 exact decide_eq_false (by omega)
end
section
variable {X:Cx}
noncomputable def pp:V->List V->Hp->VK->Prop:=fun x vs H Q=>∃l xs y,x=.ref l/\vs=[y]/\H l=some (.lst xs)/\xs.length<sizeLine/\Q .non (upd H l (.lst (xs++[y])))
theorem uU:Pf X "list.append" pp:=by
 intro pins s σ H x vs v us Q I rx rv h
 obtain⟨l,xs,y,rfl,rfl,hH,hz,q⟩:=h
 cases rx
 obtain⟨u,rfl,ru⟩:=rv.one
 obtain⟨z,its,n,r,hl,e⟩:=I.lstM hH
 refine call_meets F.slot_list_append ⟨_,e,rfl⟩ F.entry_list_append (F.args_list_append_2 _ _) (PySem.list_append l its.toArray n u (by rw[List.size_toArray];omega)) ⟨e,?_⟩
 refine⟨.non,_,I.lset (its':=its++[u]) hH e (by simp) (r.append (.cons ru .nil)) ?_,rfl,q⟩
 rw[List.length_append,List.length_singleton]
 omega
noncomputable def kO:V->List V->Hp->VK->Prop:=fun x vs H Q=>∃l xs,x=.ref l/\vs=[]/\H l=some (.lst xs)/\Q .non (upd H l (.lst xs.reverse))
theorem rJ:Pf X "list.reverse" kO:=by
 intro pins s σ H x vs v us Q I rx rv h
 obtain⟨l,xs,rfl,rfl,hH,q⟩:=h
 cases rx
 have hus:=rv.zero
 subst hus
 obtain⟨z,its,n,r,hl,e⟩:=I.lstM hH
 refine call_meets F.slot_list_reverse ⟨_,e,rfl⟩ F.entry_list_reverse (F.args_list_reverse_1 _) (AutoSeq1.list_reverse_list_0 l its.toArray n (by rw[List.size_toArray];omega)) ⟨e,?_⟩
 refine⟨.non,_,I.lset (its':=its.reverse) hH e (by simp) r.reverse ?_,rfl,q⟩
 rw[List.length_reverse]
 omega
noncomputable def Ou:R2:=fun x y H Q=>∃l b xs zs,x=.ref l/\y=.ref b/\H l=some (.lst xs)/\H b=some (.lst zs)/\xs.length+zs.length≤sizeLine/\∀p,H p=none->Q (.ref p) (upd H p (.lst (xs++zs)))
theorem Hg:eQ X (binaryOp .Add) Ou:=by
 intro pins s σ H x y v u Q I rx ry h
 obtain⟨l,b,xs,zs,rfl,rfl,hH,hB,hz,q⟩:=h
 cases rx
 cases ry
 obtain⟨z,its,n,r,hl,e⟩:=I.lstM hH
 obtain⟨z2,its2,n2,r2,hl2,e2⟩:=I.lstM hB
 refine PySem.P.add_list e e2 ?_ (by rw[List.size_toArray,List.size_toArray];omega)
 have ea:its.toArray++its2.toArray=(its++its2).toArray:=by simp
 rw[ea]
 exact⟨.ref _,_,I.lnew (t':=s.toks) (r.append r2) (by rw[List.length_append];omega),rfl,q _ I.fresh⟩
noncomputable def Nx:R2:=fun x y H Q=>∃l k xs,x=.ref l/\y=.int k/\H l=some (.lst xs)/\-(2 ^ 63)≤k/\k<2 ^ 63/\xs.length * k.toNat≤sizeLine ∧
 ∀p,H p=none->Q (.ref p) (upd H p (.lst (List.replicate k.toNat xs).flatten))
theorem nX {α:Type}(xs:List α)(k:Nat):(List.replicate k xs).flatten.length=k * xs.length:=by
 induction k with
 |zero=>simp
 |succ k ih=>rw[List.replicate_succ,List.flatten_cons,List.length_append,ih,Nat.succ_mul,Nat.add_comm]
theorem H9:eQ X (binaryOp .Mult) Nx:=by
 intro pins s σ H x y v u Q I rx ry h
 obtain⟨l,k,xs,rfl,rfl,hH,h1,h2,hz,q⟩:=h
 cases rx
 obtain⟨t,rfl⟩:=ry
 obtain⟨z,its,n,r,hl,e⟩:=I.lstM hH
 have hlen:its.toArray.size * k.toNat≤sizeLine:=by rw[List.size_toArray,←hl];exact hz
 have hcap:¬its.toArray.size * k.toNat > (2 ^ 63 - 1) / 8:=by
  have:(sizeLine:Nat)≤(2 ^ 63 - 1) / 8:=by decide
  omega
 have hfit:¬(!Builtin.List.listFitsIndex k)=true:=by
  rw[fitsIndex_both h1 h2]
  exact Bool.false_ne_true
 have hlong:¬Builtin.List.listTooLong (its.toArray.size * k.toNat)=true:=by
  rw[wH hlen]
  exact Bool.false_ne_true
 have hnew:List.foldl (fun x1 x2=>x1++x2) #[] (List.replicate (if its.toArray.isEmpty=true then 0 else k.toNat) its.toArray)=(List.replicate k.toNat its).flatten.toArray:=by
  have f0:∀m:Nat,List.foldl (fun x1 x2=>x1++x2) #[] (List.replicate m its.toArray)=(List.replicate m its).flatten.toArray:=fun m=>by
   have:=jr its m []
   rw[List.nil_append] at this
   exact this
  rw[f0]
  cases its with
  |nil=>simp
  |cons a r'=>rw[if_neg (by simp)]
 refine wpAny_binaryOp_repeat_ref (T:="list") (U:="int") (by decide) ⟨_,e,rfl⟩ (fun s'=>typeIs_int s' k t) noFill_list_mul F.fills_int_mul F.slot_int_rmul repeat_list F.slot_int_index.lookup
  (call_meets F.slot_int_rmul (typeIs_int s k t) F.entry_int_rmul (F.args_int_rmul_2 _ _) (int___rmul___int_list k t l its.toArray n)
   ⟨e,rfl,⟨_,e,rfl⟩,call_meets F.slot_list_mul ⟨_,e,rfl⟩ F.entry_list_mul (F.args_list_mul_2 _ _) (AutoListH.list___mul___list_int_3 l its.toArray n k t hfit hcap hlong) ⟨e,?_⟩⟩)
 rw[hnew]
 exact⟨.ref _,_,I.lnew (t':=s.toks) (r.rep k.toNat) (by rw[nX,Nat.mul_comm];exact hz),rfl,q _ I.fresh⟩
end
section
variable {prog:Program}{w:World}{A:Around}{E:Value->Shared->Prop}{s:Shared}
set_option maxRecDepth 100000 in
end
end L2
namespace Att
open PySem PySem.W PySem.Calls PyProof.Rows
theorem jT {P:Params}{h:Heap}:∀(ns:List Int) (vs:List Value),WellAll P h vs (ns.map WData.int)->IntsAre vs ns:=by
 intro ns
 induction ns with
 |nil=>
  intro vs w
  rw[List.map_nil] at w
  cases w
  exact .nil
 |cons n ns ih=>
  intro vs w
  rw[List.map_cons] at w
  cases w with
  |cons a b=>
   cases a
   exact .cons _ _ (ih _ b)
theorem uv {l:OpenLaw}{n:Nat}(hn:l.most=some n){P:Params}{h:Heap}{args:List WData}{vals:List Value}
  (hpre:l.row.toRowW.claim.pre args=true) (hwl:WellAll P h vals args) :
  ∃a vs ns,vals=[Value.ref a]/\args=[WData.list (ns.map WData.int)]/\h.get? a=some { cls:=.type "list",data:=.seq vs.toArray }/\IntsAre vs ns/\ns.length≤n:=by
 have hsh:WShape.hasAll [] args [.list .int]=true:=(pre_splitW hpre).1
 have hc:l.pre.holds [] { args:=args }=true:=(pre_splitW hpre).2
 obtain⟨d,r,rfl,h1,h2⟩:=hasAllW_cons hsh
 obtain rfl:=hasAllW_nil h2
 obtain⟨xs,rfl,h3⟩:=hasW_list h1
 obtain⟨ns,rfl⟩:=items_int h3
 have hlen:ns.length≤n:=by
  unfold OpenLaw.pre at hc
  have h4:(WTm.not (.lt (.lit (.int (n:Int))) (.len (.arg 0)))).holds [] { args:=[.list (ns.map .int)] }=true:=by
   have h4:=(holds_andW hc).1
   rw[hn] at h4
   exact h4
  have h5:=condW_of h4 (w_not (w_lt w_lit (w_len_list (w_arg rfl))))
  rw[List.length_map] at h5
  refine Nat.le_of_not_lt fun q=>?_
  have q':(n:Int)<((ns.length:Nat):Int):=by omega
  first
   |(rw[decide_eq_true q'] at h5;exact absurd h5 (by decide))
   |(simp at h5;omega)
 cases hwl with
 |cons w1 w2=>
  cases w2
  cases w1 with
  |list ho hall=>exact⟨_,_,ns,rfl,rfl,ho,jT ns _ hall,hlen⟩
theorem vq (l:OpenLaw)(args:List WData):l.row.toRowW.claim.post args (.bool true) args=true:=
 postW_of (r:=l.row.toRowW) (X:=(true==true))
  (show WShape.has [] (.bool true) .bool=true by first|rfl|decide|simp[WShape.has,WShape.arms,WShape.armsAll])
  (show (WTm.eq .res (.lit (.bool true))).value [] { args:=args,res:=some (.bool true),after:=args }=some (.bool (true==true)) from w_eq_bool (w_res rfl) w_lit) rfl
theorem attach_call {l:OpenLaw}{n:Nat}{q:Program}{loose:List Str}{XP:(Str->Option Value)->Heap->Prop}{YP:World->Heap->Prop}{d:DefRec}
  (hn:l.most=some n) (hdf:d.params.defaults=[])
  (call:∀(w:World) (s₀ s₁:Shared) (mg mb:Str->Option Value) (fa:Addr) (o:Obj) (pm cd doc:Value) (a:Addr) (vs:List Value) (ns:List Int),
   Ground q loose [] XP w s₀ mg mb s₁.heap->YP w s₁.heap →
   s₁.heap.get? fa=some o->o.data=.func (docDef d.name d.params d.body d.scope pm cd doc)->s₁.heap.CodeRec cd d.name->mg d.name=some (.ref fa) →
   s₁.heap.get? a=some { cls:=.type "list",data:=.seq vs.toArray }->IntsAre vs ns->ns.length≤n->s₁.gens = #[] →
   codeAny (model l.prog w) callerA (.call (.ref fa) ⟨[.ref a],[]⟩) (fun r s'=>r=.ok (.ret (.bool true))/\OldK s₁.heap s'.heap/\s'.os=s₁.os/\AllBare s'.gens) s₁) :
  WalkO q loose XP YP l.row.toRowW d [] (fun f vs=>PySem.call f vs):=by
 intro w s₀ s₁ mg mb G Y fa o pm cd doc dV kV ho hd hcd hD hmg hg args vals as hpre hlay hrd hwl hlo
 obtain rfl:dV=.none:=Dflts.none hD hdf
 obtain rfl:kV=.none:=Dflts.noKw hD
 obtain⟨a,vs,ns,rfl,rfl,hobj,hints,hlen⟩:=uv hn hpre hwl
 refine enter_call (codeAny_mono (call w s₀ s₁ mg mb fa o pm cd doc a vs ns G Y ho (fd_plain hd) hcd hmg hobj hints hlen hg) fun r s' hq=>?_)
 obtain⟨rfl,h2,h3,h4⟩:=hq
 exact⟨.inl ⟨.bool true,.bool true,[],rfl,fun _=>rfl,.bool true,vq l _,fun _=>⟨List.Pairwise.nil,fun _ hm=>(nomatch hm)⟩⟩,h2,h3,h4⟩
section
variable {prog:Program}{w:World}{A:Around}{E:Value->Shared->Prop}{s:Shared}{K:Frag}
noncomputable def ledger (h:Heap)(L d:Addr):List (Addr×Obj):=(List.range h.objs.size).filterMap fun a=>if a=L\/a=d then none else (h.get? a).map fun o=>(a,o)
end
end Att
namespace L2
open PySem PySem.Spec PyProof.Rows
theorem nL:∀{vs:List Value} {ns:List Int},IntsAre vs ns->Vals (ns.map V.int) vs
 |_,_,.nil=>.nil
 |_,_,.cons n t h=>.cons ⟨t,rfl⟩ (nL h)
noncomputable def Hk (H:Hp):Prop:=∀b,H b=none\/∃o xs,H b=some (.frz o (.lst xs))
theorem yI {P:Program}{w:World}{K:PySem.W.Frag}{mg mb:Str->Option Value}{CX:vN}{k:Nat}{fa a:Addr}{fd:FuncData}{x:Str}{sp:Sp}{s₁:Shared}{vs:List Value}{ns:List Int}
  (KX:K.In s₁.heap) (hns:s₁.heap.Ns mainGlobals mg) (hb:s₁.heap.Ns builtinsNs mb) (hbb:∀x:Str,x ≠ "__name__"->mb x=bootBuiltins x) (hlim:s₁.heap.NoLimit) (hg:s₁.gens = #[])
  (ha:s₁.heap.get? a=some { cls:=.type "list",data:=.seq vs.toArray }) (hi:IntsAre vs ns) (hl:ns.length≤sizeLine) (hr:Room k callerA)
  (F:∀base:Heap,K.In base->base.Ns mainGlobals mg->FnOk P w K mg base CX k fa fd [x] sp) (hbind:∀(s:Shared) (u:Value),BindsTo s fd ⟨[u],[]⟩ [(x,u)])
  (hsp:∀H:Hp,Hk H->SqL K H a (ns.map V.int)->sp [.ref a] H (fun v _=>v=.bl true) fun _ _ _=>False)
  (hCX:∀H e s',CX [] H s₁ (fun _ _ _=>False) e s'->False) :
  codeAny (model P w) callerA (.call (.ref fa) ⟨[.ref a],[]⟩) (fun r s'=>r=.ok (.ret (.bool true))/\OldK s₁.heap s'.heap/\s'.os=s₁.os/\AllBare s'.gens) s₁:=by
 have rv:=nL hi
 have lenV:=hi.length
 have core:∀H:Hp,Hk H->SqL K H a (ns.map V.int)->HOk P w H s₁.heap->(∀b,H b≠none->b=a)->(H a≠none->K.lookup a=none) →
   codeAny (model P w) callerA (.call (.ref fa) ⟨[.ref a],[]⟩) (fun r s'=>r=.ok (.ret (.bool true))/\OldK s₁.heap s'.heap/\s'.os=s₁.os/\AllBare s'.gens) s₁:=by
  intro H hO hS hok hA hK
  have base_of:∀{b:Addr} {o:Obj},s₁.heap.get? b=some o->H b=none->(oA s₁.heap H).get? b=some o:=fun e n=>y0 e n
  have noA:∀{b:Addr} {o:Obj} {es:Array DictEntry} {ep:Nat},s₁.heap.get? b=some o->o.data=.dict es ep->H b=none:=fun {b o es ep} e d=>by
   cases q:H b with
   |none=>rfl
   |some u=>
    have e':b=a:=hA b (by rw[q];simp)
    subst e'
    rw[ha] at e;cases e
    have d':Data.seq vs.toArray _=Data.dict es ep:=d
    cases d'
  have nsK:∀{b:Addr} {m:Str->Option Value},s₁.heap.Ns b m->(oA s₁.heap H).Ns b m:=fun {b m} ⟨o,es,ep,e,d,r⟩=>⟨o,es,ep,base_of e (noA e d),d,r⟩
  have hKb:K.In (oA s₁.heap H):=fun b o e=>base_of (KX b o e) (by
   cases q:H b with
   |none=>rfl
   |some u=>
    have e':b=a:=hA b (by rw[q];simp)
    subst e'
    rw[hK (by rw[q];simp)] at e;cases e)
  have hM:Mod K mg (oA s₁.heap H):=⟨hKb,nsK hns,⟨mb,nsK hb,hbb⟩,let ⟨mc,h1,h2⟩:=hlim;⟨mc,nsK h1,h2⟩⟩
  have e0:Env0 P w K mg (oA s₁.heap H) callerA [] s₁ H:=⟨rfl,hM,fun b o e=>AL e,Nat.le_of_eq (uj _ _),trivial,fun b hb=>absurd (show b∈([]:List Addr) from hb) (by simp),hok,.of_eq hg⟩
  refine codeAny_mono ((F _ hKb (nsK hns)).run callerA [] s₁ H ⟨[.ref a],[]⟩ [.ref a] [.ref a] _ _ hr e0 (hbind s₁ (.ref a)) (.cons rfl .nil) (hsp H hO hS)) fun r s' h=>?_
  cases r with
  |error e=>exact (hCX H e s' h).elim
  |ok fl=>
   cases fl with
   |next=>exact False.elim h
   |brk=>exact False.elim h
   |cont=>exact False.elim h
   |ret u=>
    obtain⟨v,H',os,bare,un,hok',r',q⟩:=h
    have q':v=.bl true:=q
    subst q'
    obtain rfl:u=Value.bool true:=r'
    refine⟨rfl,OldK.of_keep fun b o e=>?_,os,bare⟩
    cases q:H b with
    |none=>exact un.keep b o e q (by intro z;exact absurd (show b∈([]:List Addr) from z) (by simp)) (by simp)
    |some u=>
     rcases hO b with z|⟨ob,xs,z⟩
     ·rw[q] at z;cases z
     ·have z2:=un.frzs b ob _ z
      obtain⟨e1,_⟩:=hok b _ z
      obtain⟨e2,_⟩:=hok' b _ z2
      rw[e] at e1;cases e1
      exact e2
 cases hk:K.lookup a with
 |some o=>
  have e:=KX a o hk
  rw[ha] at e
  cases e
  refine core (fun _=>none) (fun _=>.inl rfl) (.inr ⟨_,vs.toArray,_,hk,rfl,rfl,rfl,by rw[List.size_toArray,lenV];exact hl,by simpa using rv⟩) (fun b u z=>by have z':(none:Option HO)=some u:=z;cases z') (fun b z=>absurd rfl z) fun z=>absurd rfl z
 |none=>
  refine core (fun b=>if b=a then some (.frz { cls:=.type "list",data:=.seq vs.toArray } (.lst (ns.map V.int))) else none) (fun b=>?_) (.inl (.inr ⟨{ cls:=.type "list",data:=.seq vs.toArray },if_pos rfl⟩)) (fun b u z=>?_) (fun b z=>?_) fun _=>hk
  ·by_cases hb:b=a
   ·exact .inr ⟨_,_,if_pos hb⟩
   ·exact .inl (if_neg hb)
  ·by_cases hb:b=a
   ·have z':=(if_pos hb).symm.trans z
    cases z'
    subst hb
    exact⟨ha,by rw[List.length_map];exact hl,vs,_,rv,ha⟩
   ·have z':=(if_neg hb).symm.trans z
    cases z'
  ·by_cases hb:b=a
   ·exact hb
   ·exact absurd (if_neg hb) z
end L2
namespace L2
open PySem PySem.Spec PyProof.Rows
theorem Ap {l:PySem.W.OpenLaw}{n k:Nat}{q:Program}{loose:List Str}{XP:(Str->Option Value)->Heap->Prop}{YP:World->Heap->Prop}{d:DefRec}{K:Params->PySem.W.Frag}{CX:World->vN}{sp:World->Sp}{x:Str}
  (hn:l.most=some n) (hn2:n≤sizeLine) (hdf:d.params.defaults=[]) (hr:Room k callerA)
  (hY:∀(w:World) (h:Heap),YP w h->(K w.params).In h)
  (F:∀(w:World) (mg:Str->Option Value) (fa:Addr) (h:Heap),(K w.params).In h->h.Ns mainGlobals mg->mg d.name=some (.ref fa) →
   ∃fd:FuncData,(∀(s:Shared) (u:Value),BindsTo s fd ⟨[u],[]⟩ [(x,u)]) ∧
    ∀base:Heap,(K w.params).In base->base.Ns mainGlobals mg->FnOk l.prog w (K w.params) mg base (CX w) k fa fd [x] (sp w))
  (hsp:∀(w:World) (H:Hp) (a:Addr) (ns:List Int),ns.length≤n->Hk H->SqL (K w.params) H a (ns.map V.int)->sp w [.ref a] H (fun v _=>v=.bl true) fun _ _ _=>False)
  (hCX:∀(w:World) (H:Hp) (s:Shared) (e:Value) (s':Shared),CX w [] H s (fun _ _ _=>False) e s'->False) :
  PySem.W.WalkO q loose XP YP l.row.toRowW d [] (fun f vs=>PySem.call f vs):=by
 refine Att.attach_call hn hdf fun w s₀ s₁ mg mb fa o pm cd doc a vs ns G Y ho hd hcd hmg hobj hints hlen hg=>?_
 have KX:=hY w _ Y
 obtain⟨fd,hb,hF⟩:=F w mg fa _ KX G.T.g hmg
 exact yI KX G.T.g G.T.b G.T.builtins G.T.nolimit hg hobj hints (Nat.le_trans hlen hn2) hr hF hb (fun H hO hS=>hsp w H a ns hlen hO hS) fun H e s'=>hCX w H s₁ e s'
end L2
namespace L2
open PySem PySem.Spec PyProof.Rows
noncomputable def am (s:Stmt):Arguments:=match s with
 |.FunctionDef _ a _ _ _ _ _ _ _ _=>a
 |_=>{ posonlyargs:=[],args:=[],vararg:=none,kwonlyargs:=[],kw_defaults:=[],kwarg:=none,defaults:=[] }
noncomputable def ah (s:Stmt):List Stmt:=match s with
 |.FunctionDef _ _ b _ _ _ _ _ _ _=>b
 |_=>[]
noncomputable def ad (s:Stmt):Scope:=match s with
 |.FunctionDef _ _ _ _ _ _ sc _ _ _=>sc
 |_=>{ kind:=.function,names:=[],isGenerator:=false,isCoroutine:=false }
noncomputable abbrev rf:vN:=fun _ _ _ _ _ _=>False
noncomputable abbrev E0:XK:=fun _ _ _=>False
theorem xr {X:Cx}:oV rf X E0:=fun _ _ _ _ _ _ _ h=>h.elim
structure Fun (K:PySem.W.Frag)(x qual:Str)(st:Stmt)(f:Addr)(fd:FuncData):Prop where
 ex:∃(oc:Value) (od:Option Addr) (kV doc pm:Value) (an:Option Addr) (cdv ct:Value) (osl:Array (Option Value)),
  fd=PySem.W.fnOf x qual (am st) (ah st) (ad st) .none kV doc pm an cdv ct/\K.lookup f=some ⟨oc,od,.func fd,osl⟩/\PySem.W.codeIn K cdv qual=true
 kp:PySem.W.keepIn K (.ref f)=true
section
variable {P:Program}{w:World}{K:PySem.W.Frag}{mg:Str->Option Value}{base:Heap}
theorem Fun.ok {x qual:Str}{st:Stmt}{f:Addr}{fd:FuncData}{N ps:List Str}{k:Nat}{sp:Sp}(F:Fun K x qual st f fd)(S:FnScope N ps (ad st))(len:∀vs H Q E,sp vs H Q E->vs.length=ps.length)
  (hbody:∀(cdv:Value) (A:Around) (outer:List Env) (s:Shared) (H:Hp) (vs:List V) (Q:VK) (E:XK),Room k (A.deeper (envOfC qual (ad st) s.heap.objs.size f cdv))->sp vs H Q E →
   ∃t,PSs (iR rf P w K mg base N qual (ad st) f cdv A outer s H E).nox (ah st) t/\t { nx:=fun _ H'=>Q .non H',rt:=Q } (dn N vs) H):FnOk P w K mg base rf (k+1) f fd ps sp:=by
 obtain⟨oc,od,kV,doc,pm,an,cdv,ct,osl,rfl,lk,hcd⟩:=F.ex
 refine Mr lk hcd S len fun A outer s H vs Q E hr hsp=>?_
 obtain⟨t,h,q⟩:=hbody cdv A outer s H vs Q E hr hsp
 exact⟨t,h.nox,q⟩
theorem IK {x qual:Str}{st:Stmt}{f:Addr}{oc:Value}{od an:Option Addr}{osl:Array (Option Value)}{kV doc pm cdv ct:Value}(l:K.lookup f=some ⟨oc,od,.func (PySem.W.fnOf x qual (am st) (ah st) (ad st) .none kV doc pm an cdv ct),osl⟩)
  (c:PySem.W.codeIn K cdv qual=true) (k:PySem.W.keepIn K (.ref f)=true):Fun K x qual st f (PySem.W.fnOf x qual (am st) (ah st) (ad st) .none kV doc pm an cdv ct):=⟨⟨oc,od,kV,doc,pm,an,cdv,ct,osl,rfl,l,c⟩,k⟩
end
theorem nJ {n:Nat}(h:n≤1000):n<sizeLine:=Nat.lt_of_le_of_lt h (by decide)
section
variable {X:Cx}
theorem pv (i:Nat){x:Str}{pos:Pos}(hN:X.N[i]?=some x:=by rfl)(hv:D7 X.env.scope x:=by first|exact Or.inl rfl|exact Or.inr (Or.inl rfl)|exact Or.inr (Or.inr rfl))(hd:(x==("__debug__" : Str))=false:=by decide)
  (hcd:(x==("__classdict__" : Str))=false:=by decide):PE X (.Name x pos) (iA i):=sN hN hv hd hcd
end
noncomputable def Same (H H':Hp):Prop:=∀b o,H b=some o->H' b=some o
theorem Same.refl (H:Hp):Same H H:=fun _ _ h=>h
theorem Same.trans {H H1 H2:Hp}(a:Same H H1)(b:Same H1 H2):Same H H2:=fun c o h=>b c o (a c o h)
theorem Same.free {H H':Hp}(e:Same H H'){l:Addr}(h:H' l=Option.none):H l=Option.none:=by
 cases q:H l with
 |none=>rfl
 |some o=>
  rw[e l o q] at h
  cases h
theorem Same.seq {K:PySem.W.Frag}{H H':Hp}{a:Addr}{xs:List V}(e:Same H H')(h:SqL K H a xs):SqL K H' a xs:=by
 rcases h with (h|⟨o,h⟩)|h
 ·exact .inl (.inl (e _ _ h))
 ·exact .inl (.inr ⟨o,e _ _ h⟩)
 ·exact .inr h
end L2
set_option maxHeartbeats 4000000
section
namespace L2
open PySem PySem.Spec PyProof.Rows
section
variable {κ:Type}[DecidableEq κ]
end
theorem Dz {P:Program}{w:World}{k:gd}{u:Value}(r:RelV (kV k) u):(cb P w).is k u=true:=by
 cases k with
 |inl i=>obtain⟨t,e⟩:=(show ∃t,u=Value.int i t from r);subst e;exact qC P w i t
 |inr x=>obtain⟨t,e⟩:=(show ∃t,u=Value.str x t from r);subst e;exact dN P w x t
section
variable {X:Cx}{pins:List (Addr×Obj)}{σ:St}{H:Hp}{s:Shared}{a:Addr}{y v:V}{u r:Value}{o:Option V}{A:Around}{E:Value->Shared->Prop}
end
structure M1 (X:Cx)(o:Expr)(m:Str)(apos:Pos)(e:Expr)(cpos:Pos):Prop where
 base:attributeBase o m X.env (eval o X.env)=eval o X.env
 few:((backTo cpos (starEach [e] X.env)).all (fun x=>!x.1)&&(backToKw cpos (keywordEach [] X.env)).all (fun x=>x.1.isSome)
  && decide (([e]:List Expr).length+([]:List Keyword).length+(if ([]:List Keyword).isEmpty then 0 else 1)<30))=true
 line:(apos.endLine==cpos.line)=true
 trees:backTo cpos (starEach [e] X.env)=[(false,eval e X.env)]
end L2
end
section
namespace L2
open PySem PySem.Spec PyProof.Rows
noncomputable def hR (cells:List (Str×Addr)):List (Str×NameKind)->List (Str×Addr)->List (Str×Addr)
 |[],acc=>acc
 |(n,k)::r,acc=>if k==.free then hR cells r ((n,(cells.lookup n).getD 0)::acc) else hR cells r acc
theorem kx {scope:Scope}{env:Env}(h:∀y∈scope.names,y.2=.free->(env.cells.lookup y.1).isSome=true):closureFor scope env=pure (hR env.cells scope.names []):=by
 unfold closureFor
 generalize scope.names=names at h ⊢
 generalize ([]:List (Str×Addr))=acc
 dsimp only
 induction names generalizing acc with
 |nil=>rfl
 |cons x r ih=>
  obtain⟨n,k⟩:=x
  have hr:=ih (fun y hy=>h y (List.mem_cons_of_mem _ hy))
  rw[List.forIn_cons]
  unfold hR
  by_cases hk:(k==NameKind.free)=true
  ·have hs:=h (n,k) List.mem_cons_self (by simpa using hk)
   obtain⟨c,hc⟩:=Option.isSome_iff_exists.mp hs
   have hc':cellOf env n=pure c:=by unfold cellOf;rw[show env.cells.lookup n=some c from hc]
   simp only[hk,if_true]
   rw[hc',show (env.cells.lookup n).getD 0=c by rw[show env.cells.lookup n=some c from hc];rfl]
   exact hr _
  ·simp only[hk]
   exact hr _
theorem iZ {cells:List (Str×Addr)}{x:Str}{c:Addr}:∀{names:List (Str×NameKind)} {acc:List (Str×Addr)},(∀y∈names,y.2=.free->(cells.lookup y.1).isSome=true)->(∀x c,acc.lookup x=some c->cells.lookup x=some c) →
  (hR cells names acc).lookup x=some c->cells.lookup x=some c
 |[],_,_,ha,h=>ha x c h
 |(n,k)::r,acc,hs,ha,h=>by
  unfold hR at h
  by_cases hk:(k==NameKind.free)=true
  ·rw[if_pos hk] at h
   refine iZ (fun y hy=>hs y (List.mem_cons_of_mem _ hy)) (fun z d hz=>?_) h
   obtain⟨e,he⟩:=Option.isSome_iff_exists.mp (hs (n,k) List.mem_cons_self (by simpa using hk))
   have he':cells.lookup n=some e:=he
   rw[List.lookup_cons] at hz
   cases hzn:z==n with
   |true=>
    rw[hzn] at hz
    have:z=n:=by simpa using hzn
    subst this
    rw[he'] at hz ⊢
    exact hz
   |false=>rw[hzn] at hz;exact ha z d hz
  ·rw[if_neg hk] at h
   exact iZ (fun y hy=>hs y (List.mem_cons_of_mem _ hy)) ha h
theorem lr {cells:List (Str×Addr)}{x:Str}:∀{names:List (Str×NameKind)} {acc:List (Str×Addr)},(acc.lookup x).isSome=true->((hR cells names acc).lookup x).isSome=true
 |[],_,h=>h
 |(n,k)::r,acc,h=>by
  unfold hR
  split
  ·refine lr ?_
   rw[List.lookup_cons]
   split
   ·rfl
   ·exact h
  ·exact lr h
theorem iU {cells:List (Str×Addr)}{x:Str}:∀{names:List (Str×NameKind)} {acc:List (Str×Addr)},(x,NameKind.free)∈names->((hR cells names acc).lookup x).isSome=true
 |[],_,h=>nomatch h
 |(n,k)::r,acc,h=>by
  unfold hR
  rcases List.mem_cons.mp h with e|h
  ·cases e
   rw[if_pos (by rfl)]
   exact lr (by rw[List.lookup_cons];simp)
  ·split
   ·exact iU h
   ·exact iU h
noncomputable def Cx.blk (X:Cx)(scope:Scope)(N':List Str)(C:Addr)(s:Shared)(H:Hp)(ex:List Addr):Cx:=
 { X with N:=N',s₀:=s,H₀:=H,env:=compEnvC scope (hR X.env.cells scope.names []) C X.env,outer:=X.stack,ex:=ex,fn:=fun _=>false,pn:=[],xe:=fun _ _=>False }
noncomputable def eW (fm:List (Option Nat))(σ:St):St:=fm.map fun o=>o.bind fun j=>(σ[j]?).join
structure BlkOk (X:Cx)(scope:Scope)(N':List Str)(fm:List (Option Nat)):Prop where
 kind:scope.kind=.function
 nocell:∀y∈scope.names,y.2≠.cell
 names:∀y∈scope.names,y.2=.local->scope.names.lookup y.1=some .local
 free:∀y∈scope.names,y.2=.free->X.env.kindOf y.1=some .cell
 len:fm.length=N'.length
 out:∀(i j:Nat) (x:Str),fm[i]?=some (some j)->N'[i]?=some x->X.N[j]?=some x/\scope.names.lookup x=some .free/\X.env.kindOf x=some .cell
theorem BlkOk.has {X:Cx}{scope:Scope}{N':List Str}{fm:List (Option Nat)}(B:BlkOk X scope N' fm)(ok:X.Ok):∀y∈scope.names,y.2=.free->(X.env.cells.lookup y.1).isSome=true:=fun y hy e=>by
 obtain⟨c,hc⟩:=ok.has y.1 (.inl (B.free y hy e))
 rw[hc];rfl
noncomputable def iG (kind:ScopeKind)(names:List (Str×NameKind))(kindOf:Str->Option NameKind)(N N':List Str)(fm:List (Option Nat)):Bool:=
 kind==.function&&(names.all fun y=>y.2 != .cell)&&(names.all fun y=>y.2 != .local || names.lookup y.1==some .local)&&(names.all fun y=>y.2 != .free || kindOf y.1==some .cell)&&fm.length==N'.length &&
  ((fm.zip N').all fun p=>match p.1 with|none=>true|some j=>N[j]?==some p.2&&names.lookup p.2==some .free&&kindOf p.2==some .cell)
theorem zD {X:Cx}{scope:Scope}{N':List Str}{fm:List (Option Nat)}(h:iG scope.kind scope.names X.env.kindOf X.N N' fm=true):BlkOk X scope N' fm:=by
 unfold iG at h
 simp only[Bool.and_eq_true,beq_iff_eq,List.all_eq_true,Bool.or_eq_true,bne_iff_ne,ne_eq] at h
 obtain⟨⟨⟨⟨⟨h1,h2⟩,h3⟩,h4⟩,h5⟩,h6⟩:=h
 refine⟨h1,h2,fun y hy e=>(h3 y hy).resolve_left fun z=>z e,fun y hy e=>(h4 y hy).resolve_left fun z=>z e,h5,fun i j x e1 e2=>?_⟩
 have hm:(some j,x)∈fm.zip N':=by
  refine List.mem_of_getElem? (i:=i) ?_
  rw[List.getElem?_zip_eq_some]
  exact⟨e1,e2⟩
 have z:=h6 _ hm
 simp only[Bool.and_eq_true,beq_iff_eq] at z
 exact⟨z.1.1,z.1.2,z.2⟩
theorem dl {env:Env}:∀{names:List (Str×NameKind)} {x:Str} {k:NameKind},(names.map fun (n,k)=>if (k==NameKind.free&&env.scope.kind==.function&&env.kindOf n==some .cell) then (n,NameKind.cell) else (n,k)).lookup x=some k →
  (k=.cell/\env.kindOf x=some .cell/\(x,NameKind.free)∈names)\/(x,k)∈names
 |[],_,_,h=>by simp at h
 |(n,k0)::r,x,k,h=>by
  rw[List.map_cons] at h
  by_cases hc:(k0==NameKind.free&&env.scope.kind==.function&&env.kindOf n==some .cell)=true
  ·dsimp only at h
   rw[if_pos hc,List.lookup_cons] at h
   cases hx:x==n with
   |true=>
    rw[hx] at h
    have e:x=n:=by simpa using hx
    subst e
    cases h
    simp only[Bool.and_eq_true,beq_iff_eq] at hc
    exact .inl ⟨rfl,hc.2,by rw[←hc.1.1];exact List.mem_cons_self⟩
   |false=>
    rw[hx] at h
    rcases dl h with ⟨a,b,c⟩|c
    ·exact .inl ⟨a,b,List.mem_cons_of_mem _ c⟩
    ·exact .inr (List.mem_cons_of_mem _ c)
  ·dsimp only at h
   rw[if_neg hc,List.lookup_cons] at h
   cases hx:x==n with
   |true=>
    rw[hx] at h
    have e:x=n:=by simpa using hx
    subst e
    cases h
    exact .inr List.mem_cons_self
   |false=>
    rw[hx] at h
    rcases dl h with ⟨a,b,c⟩|c
    ·exact .inl ⟨a,b,List.mem_cons_of_mem _ c⟩
    ·exact .inr (List.mem_cons_of_mem _ c)
theorem dQ {env:Env}(hk:env.scope.kind=.function):∀{names:List (Str×NameKind)} {x:Str},names.lookup x=some .free->env.kindOf x=some .cell →
  (names.map fun (n,k)=>if (k==NameKind.free&&env.scope.kind==.function&&env.kindOf n==some .cell) then (n,NameKind.cell) else (n,k)).lookup x=some .cell
 |[],_,h,_=>by simp at h
 |(n,k)::r,x,h,hc=>by
  rw[List.map_cons]
  dsimp only
  cases hx:x==n with
  |true=>
   rw[List.lookup_cons,hx] at h
   cases h
   have e:x=n:=by simpa using hx
   subst e
   rw[hc,hk,if_pos (by rfl),List.lookup_cons,hx]
  |false=>
   rw[List.lookup_cons,hx] at h
   have ih:=dQ hk h hc
   split
   ·rw[List.lookup_cons,hx];exact ih
   ·rw[List.lookup_cons,hx];exact ih
section
variable {X:Cx}{scope:Scope}{N':List Str}{fm:List (Option Nat)}{pins:List (Addr×Obj)}{σ:St}{H:Hp}{s:Shared}
theorem Ii (B:BlkOk X scope N' fm)(I:Inv X pins σ H s){C:Addr}{ex:List Addr}(hC:s.heap.objs.size≤C)(hex:∀b∈ex,iS X pins H b)(hlt:∀b∈ex,b<s.heap.objs.size):(X.blk scope N' C s H ex).Ok:=by
 have sub:∀x c,(hR X.env.cells scope.names []).lookup x=some c->X.env.cells.lookup x=some c:=fun x c h=>iZ (B.has I.ok) (fun _ _ z=>by simp at z) h
 refine⟨I.ok.mod,?_,I.ok.glob,I.ok.blt,hC,fun x y c h1 h2=>I.ok.inj x y c (sub x c h1) (sub y c h2),fun x hx=>?_,fun x c h _=>(Bool.false_ne_true h).elim,I.ok.hd,I.ok.frames,.inl rfl,fun b hb=>⟨?_,fun x c h=>(hex b hb).2.2.2.2.1 x c (sub x c h)⟩,I.bs,?_,fun b o e hb=>?_,fun b hb hf=>?_,I.stack,I.stkFree⟩
 ·show (relabel scope X.env).kind=.function
  exact B.kind
 ·have hx':(relabel scope X.env).names.lookup x=some .cell\/(relabel scope X.env).names.lookup x=some .free:=hx
  have mem:(x,NameKind.free)∈scope.names:=by
   rcases hx' with h|h
   ·rcases dl h with ⟨_,_,z⟩|z
    ·exact z
    ·exact absurd rfl (B.nocell _ z)
   ·rcases dl h with ⟨z,_,_⟩|z
    ·cases z
    ·exact z
  exact Option.isSome_iff_exists.mp (iU (cells:=X.env.cells) (acc:=[]) mem)
 ·exact Nat.ne_of_lt (Nat.lt_of_lt_of_le (hlt b hb) hC)
 ·exact Nat.le_trans I.ok.bsz I.sz
 ·have hb':b∈ex:=hb
  rcases (hex b hb').2.2.2.1 with z|z
  ·exact I.ok.noex b o e z
  ·exact absurd (Nat.lt_of_lt_of_le (Heap.lt_size (I.ok.bs b o e).1) z) (Nat.lt_irrefl _)
 ·have hb':b∈ex:=hb
  have hf':b∈rY X.stack:=hf
  rcases List.mem_cons.mp (I.stkSub b hf') with z|z
  ·exact (hex b hb').2.1 z
  ·exact (hex b hb').2.2.1 z
theorem pV {fm:List (Option Nat)}{σ:St}{i:Nat}{v:V}(h:(eW fm σ)[i]?=some (some v)):∃j,fm[i]?=some (some j)/\σ[j]?=some (some v):=by
 unfold eW at h
 rw[List.getElem?_map] at h
 cases e:fm[i]? with
 |none=>rw[e] at h;cases h
 |some o=>
  rw[e] at h
  cases o with
  |none=>cases h
  |some j=>
   refine⟨j,rfl,?_⟩
   have h':some ((σ[j]?).join)=some (some v):=h
   cases e2:σ[j]? with
   |none=>rw[e2] at h';cases h'
   |some w=>rw[e2] at h';exact congrArg some (Option.some.inj h')
theorem Cm (B:BlkOk X scope N' fm)(I:Inv X pins σ H s){C:Addr}{ex:List Addr}{h1:Heap}{tk:Nat}{m:Str->Option Value}(hC:s.heap.objs.size≤C)(hex:∀b∈ex,iS X pins H b)(hlt:∀b∈ex,b<s.heap.objs.size)
  (hn:h1.Ns C m) (old:∀b o,s.heap.get? b=some o->h1.get? b=some o):Inv (X.blk scope N' C s H ex) [] (eW fm σ) H { s with heap:=h1,toks:=tk }:=by
 have sub:∀x c,(hR X.env.cells scope.names []).lookup x=some c->X.env.cells.lookup x=some c:=fun x c h=>iZ (B.has I.ok) (fun _ _ z=>by simp at z) h
 refine⟨Ii B I hC hex hlt,rfl,I.bare,Un.kept old,⟨m,hn,fun i x v hi hσ hv=>?_⟩,fun x c h=>?_,I.hok.fresh hC,fun x c h=>I.freeC x c (sub x c h),fun p hp=>absurd (show p∈([]:List (Addr×Obj)) from hp) (by simp),I.hok.kept old,?_⟩
 ·obtain⟨j,ej,es⟩:=pV hσ
  obtain⟨hN,hf,hk⟩:=B.out i j x ej hi
  obtain⟨m0,_,hl⟩:=I.loc
  obtain⟨u,r,l⟩:=hl j x v hN es (.inr (.inl hk))
  refine⟨u,r,.inr ⟨.inl (dQ I.ok.kind hf hk),?_⟩⟩
  rcases l with ⟨z,_⟩|⟨_,c,hc,z⟩
  ·rw[hk] at z;cases z
  ·obtain⟨c',hc'⟩:=Option.isSome_iff_exists.mp (iU (cells:=X.env.cells) (acc:=[]) (PySem.mem_of_lookup hf))
   have e:=sub x c' hc'
   rw[hc] at e
   cases e
   exact⟨c,hc',z.keeps old⟩
 ·obtain⟨v,z⟩:=I.cell x c (sub x c h)
  exact⟨v,z.keeps old⟩
 ·show (eW fm σ).length=N'.length
  unfold eW
  rw[List.length_map]
  exact B.len
end
noncomputable def PIf (X:Cx)(ifs:List Expr)(t:TT):Prop:=
 ∀(pins:List (Addr×Obj)) (s:Shared) (σ:St) (H:Hp) (Q:Bool->Hp->Prop),Inv X pins σ H s->t σ H Q →
  wpAny (model X.prog X.w) X.A (forIn ifs true fun c r=>if r=true then do let ok ←isTrue c X.env (eval c X.env);pure (ForInStep.yield ok) else pure (ForInStep.yield r)) (TP X pins σ Q) X.xe s
noncomputable def Be:TT:=fun _ H Q=>Q true H
theorem BB {X:Cx}:PIf X [] Be:=fun _ s _ H _ I h=>wpAny_tests_nil ⟨H,I,h⟩
theorem Ao {X:Cx}{c:Expr}{t:TT}(hc:PT X c t):PIf X [c] t:=fun pins s σ H Q I h=>wpAny_tests_one (hc pins s σ H Q I h)
theorem gj {prog:Program}{w:World}{A:Around}{R:Result->Shared->Prop}{s:Shared}{elt target iter:Expr}{ifs:List Expr}{scope:Scope}{pos:Pos}{it acc:Value}{env:Env}(I:Nat->Shared->Prop)
  (turn:∀n s,I n s->wpAny (model prog w) A (pyNext it) (fun r s₁=>match r with
   |none=>R (.ok .next) s₁
   |some v=>wpAny (model prog w) A (letOwnedTupleGo target it v) (fun _ s₁=>wpAny (model prog w) A (assign target env v) (fun _ s₂=>
     wpAny (model prog w) A (forIn ifs true fun c r=>if r=true then do let ok ←isTrue c env (eval c env);pure (ForInStep.yield ok) else pure (ForInStep.yield r)) (fun ok s₃=>
      if ok=true then wpAny (model prog w) A (eval elt env) (fun x s₄=>
       wpAny (model prog w) A (call (.builtin "list.append") [acc,x]) (fun _ s₅=>∃m,m<n/\I m s₅) (fun _ _=>False) s₄) (fun _ _=>False) s₃
      else ∃m,m<n/\I m s₃) (fun _ _=>False) s₂) (fun _ _=>False) s₁) (fun _ _=>False) s₁) (fun _ _=>False) s)
  (n:Nat) (h:I n s) :
  codeAny (model prog w) A (.compLoop (.ListComp elt [⟨target,iter,ifs,0⟩] scope pos) 0 it acc env) R s:=by
 refine codeAny_loop rfl I (fun n s hI=>?_) n h
 show wpAny _ A ((compTurn (.ListComp elt [⟨target,iter,ifs,0⟩] scope pos) 0 it acc env).onRaise (fun x=>do noteFrame x env;theTreesLotGoes x)) _ _ s
 refine wpAny_noted ?_
 rw[compTurn_list]
 refine wpAny_bind (wpAny_standAt (wpAny_bind (wpAny_mono (turn n s hI) (fun r s₁ h₁=>?_) fun _ _ h'=>h'.elim)))
 cases r with
 |none=>exact wpAny_pure h₁
 |some v=>
  refine wpAny_bind (wpAny_mono h₁ (fun _ s₁ h₁=>?_) fun _ _ h'=>h'.elim)
  refine wpAny_bind (wpAny_mono h₁ (fun _ s₂ h₂=>wpAny_bind (wpAny_mono h₂ (fun ok s₃ h₃=>?_) fun _ _ h'=>h'.elim)) fun _ _ h'=>h'.elim)
  cases ok with
  |false=>exact wpAny_pure ⟨rfl,h₃⟩
  |true=>
   exact wpAny_bind (wpAny_bind (wpAny_mono h₃ (fun x s₄ h₄=>wpAny_bind (wpAny_mono h₄ (fun _ s₅ h₅=>wpAny_pure (wpAny_pure ⟨rfl,h₅⟩)) fun _ _ h'=>h'.elim)) fun _ _ h'=>h'.elim))
noncomputable def xN (fm:List (Option Nat))(g:TG)(tc:TT)(te:TE)(σ:St)(J:It)(H1:Hp)(Q:List V->Hp->Prop):Prop:=
 ∃(W:Nat->List V->Hp->Prop) (n:Nat),W 0 [] H1/\(∀i ys H,W i ys H->i≤n/\ys.length<sizeLine)/\∀i ys H,W i ys H →
  (J.stop i H/\Q ys H)\/(J.go i H/\∀x H',J.yld i H x H'->g x (eW fm σ) H' fun σ2 H2=>tc σ2 H2 fun b H3=>if b=true then te σ2 H3 fun y H4=>W (i+1) (ys++[y]) H4 else W (i+1) ys H3)
noncomputable def fD (fm:List (Option Nat))(wi:TI)(g:TG)(tc:TT)(te:TE):TE:=fun σ H Q=>wi σ H fun J H1=>xN fm g tc te σ J H1 fun ys H2=>∀l,H2 l=none->Q (.ref l) (upd H2 l (.lst ys))
noncomputable def nG (fm:List (Option Nat))(g:TG):Prop:=∀x σ H N,g x σ H N->g x σ H fun σ' H'=>N σ' H'/\σ'.length=σ.length/\∀(i j:Nat),fm[i]?=some (some j)->σ'[i]?=σ[i]?
end L2
end
section
namespace L2
open PySem PySem.Spec PyProof.Rows
section
variable {X:Cx}{scope:Scope}{N':List Str}{fm:List (Option Nat)}{pins:List (Addr×Obj)}{σ:St}{H:Hp}{s:Shared}{tg iter elt:Expr}{ifs:List Expr}{pos:Pos}{g:TG}{tc:TT}{te:TE}
theorem kS (B:BlkOk X scope N' fm)(hc:X.calm=true)(hg:∀C s H ex,PG (X.blk scope N' C s H ex) tg g)(hk:nG fm g)(ht:∀C s H ex,PIf (X.blk scope N' C s H ex) ifs tc)(he:∀C s H ex,PE (X.blk scope N' C s H ex) elt te)
  (I:Inv X pins σ H s) {it:Addr} {fp:List Addr} {tn:Nat->Heap->Prop} {J:It} (T:Turn X.prog X.w X.K tg J fp it tn) (st:tn 0 s.heap) (hf:∀b∈fp,iS X pins H b) {Qf:List V->Hp->Prop} (q:xN fm g tc te σ J H Qf)
  {RR:Value->Addr->Result->Shared->Prop} {E:Value->Shared->Prop}
  (hRR:∀D C H' ys s',Inv X pins σ (upd H' D (.lst ys)) s'->H' D=none->Qf ys H'->iS X pins (upd H' D (.lst ys)) C->(∃m,s'.heap.Ns C m)->RR (.ref D) C (.ok .next) s') :
  wpAny (model X.prog X.w) X.A (newList []) (fun acc s₃=>wpAny (model X.prog X.w) X.A (newFunctionEnv scope X.env.globals (hR X.env.cells scope.names []) [] X.env.qual none .none (some X.env)) (fun cenv s₄=>
   codeAny (model X.prog X.w) X.A (.compStart (.ListComp elt [⟨tg,iter,ifs,0⟩] scope pos) 0 (.ref it) acc { cenv with scope:=relabel scope X.env }) (RR acc cenv.locals) s₄) E s₃) E s:=by
 refine wpAny_newObj_type (wpAny_newFunctionEnv B.nocell (by intro y hy;simp at hy) (fun h₁ hns₁ hsb₁=>?_) B.kind)
 dsimp only at hns₁ hsb₁ ⊢
 generalize hH2:s.heap.push { cls:=.type "list",dict:=none,data:=.seq ([]:List Value).toArray }=H2 at hns₁ hsb₁ ⊢
 have hC:H2.objs.size=s.heap.objs.size+1:=by rw[←hH2,Heap.size_push]
 generalize hCC:H2.objs.size=C at hns₁ hsb₁ hC ⊢
 generalize hDD:s.heap.objs.size=D at hC ⊢
 have hDC:D≠C:=by omega
 have hCle:s.heap.objs.size≤C:=by omega
 have lt:∀(b:Nat) (o:Obj),s.heap.get? b=some o->b<D:=fun b o e=>by rw[←hDD];exact Heap.lt_size e
 have old:∀b o,s.heap.get? b=some o->h₁.get? b=some o:=fun b o e=>hsb₁.extBut b o (Nat.ne_of_lt (Nat.lt_trans (lt b o e) (by rw[hC];exact Nat.lt_succ_self _))) (Heap.get?_push_of_some _ (hH2▸Heap.get?_push_of_some _ e))
 have hacc:h₁.PlainList D #[]:=⟨_,hsb₁.extBut _ _ hDC (Heap.get?_push_of_some _ (by rw[←hH2,←hDD];exact Heap.get?_push_size _ rfl))⟩
 have hlt:∀b∈fp,b<s.heap.objs.size:=fun b hb=>by
  obtain⟨o,e,_⟩:=T.obj 0 s.heap st b hb
  exact Heap.lt_size e
 have hDf:D∉fp:=fun hm=>by have z:=hlt _ hm;rw[hDD] at z;exact Nat.lt_irrefl D z
 have st1:tn 0 h₁:=T.keep 0 _ _ st fun b _ o e=>old b o e
 obtain⟨W,n0,w0,hb,turn⟩:=q
 have sub:∀x c,(hR X.env.cells scope.names []).lookup x=some c->X.env.cells.lookup x=some c:=fun x c h=>iZ (B.has I.ok) (fun _ _ z=>by simp at z) h
 have I1:∀tk,Inv (X.blk scope N' C s H fp) [] (eW fm σ) H { s with heap:=h₁,toks:=tk }:=fun tk=>Cm B I hCle hf hlt hns₁ old
 have hDfs:D∉rY X.stack:=fun hm=>by
  obtain⟨_,o,e,_⟩:=I.stack.mem hm
  exact Nat.lt_irrefl D (lt D o e)
 have stat:∀{H':Hp} {oD:Obj},(∀b∈fp,H' b=none)->∀b∈fp,iS (X.blk scope N' C s H fp) [(D,oD)] H' b:=fun {H' oD} hn b hb=>by
  have l:=hlt b hb
  obtain⟨f0,f1,f2,f3,f4,f5⟩:=hf b hb
  refine⟨hn b hb,fun z=>?_,fun z=>?_,.inl hb,fun x c h=>f4 x c (sub x c h),fun p hp z=>?_⟩
  ·have z':b=C:=z
   exact Nat.lt_irrefl C (by rw[←z'] at hCle ⊢;exact Nat.lt_of_lt_of_le l hCle)
  ·rcases List.mem_cons.mp (I.stkSub b z) with y|y
   ·exact f1 y
   ·exact f2 y
  ·have e:p=(D,oD):=by simpa [Cx.blk] using hp
   subst e
   have z':D=b:=z
   exact hDf (z'▸hb)
 have loop:∀tk,codeAny (model X.prog X.w) X.A (.compLoop (.ListComp elt [⟨tg,iter,ifs,0⟩] scope pos) 0 (.ref it) (.ref D) (compEnvC scope (hR X.env.cells scope.names []) C X.env)) (RR (.ref D) C) { s with heap:=h₁,toks:=tk }:=by
  intro tk
  refine gj (fun n s'=>∃i ys its H',n=n0+1 - i/\Inv (X.blk scope N' C s H fp) [] (eW fm σ) H' s'/\tn i s'.heap/\(∀b∈fp,H' b=none)/\Vals ys its/\s'.heap.PlainList D its.toArray/\H' D=none/\W i ys H') ?_ (n0+1)
   ⟨0,[],[],H,rfl,I1 tk,st1,fun b hb=>(hf b hb).1,.nil,hacc,I.hok.fresh (by omega),w0⟩
  rintro n s3 ⟨i,ys,its,H3,rfl,I3,st3,fr3,rv,⟨nn,hd⟩,hD,w3⟩
  obtain⟨hi,hys⟩:=hb i ys H3 w3
  have I3':Inv (X.blk scope N' C s H fp) [(D,{ cls:=.type "list",data:=.seq its.toArray nn })] (eW fm σ) H3 s3:=I3.pins_of fun p hp=>by
   have e:p=(D,{ cls:=.type "list",data:=.seq its.toArray nn }):=by simpa using hp
   subst e
   exact⟨hd,hD,hDC,hDfs,fun v z=>by cases z⟩
  rcases turn i ys H3 w3 with ⟨stop,qf⟩|⟨go,step⟩
  ·refine bv (T.done (X.blk scope N' C s H fp) rfl rfl rfl hc i _ s3 _ H3 _ I3' (stat fr3) st3 stop) fun r s4 ⟨hr,I4⟩=>?_
   subst hr
   have hd4:=(I4.pin (D,{ cls:=.type "list",data:=.seq its.toArray nn }) (by simp)).1
   have ne:∀b o,H3 b=some o->b≠D:=fun b o e z=>by subst z;rw[hD] at e;cases e
   have U:Un (rY X.stack) fp H H3 s.heap s4.heap:=I4.base
   have U':Un (rY X.stack) fp H (upd H3 D (.lst ys)) s.heap s4.heap:=⟨U.keep,U.slot,fun b o e n hx=>by rw[av (Nat.ne_of_lt (lt b o e))];exact U.free b o e n hx,U.there,
    fun b xs e=>by have z:=U.tups b xs e;rw[av (ne b _ z)];exact z,fun b o u e=>by have z:=U.frzs b o u e;rw[av (ne b _ z)];exact z,
    fun b ps e=>by obtain⟨more,z⟩:=U.tbls b ps e;exact⟨more,by rw[av (ne b _ z)];exact z⟩⟩
   have hok:HOk X.prog X.w (upd H3 D (.lst ys)) s4.heap:=fun b o e=>by
    by_cases hbD:b=D
    ·subst hbD
     rw[ak] at e
     cases e
     exact⟨Nat.le_of_lt hys,its,nn,rv,hd4⟩
    ·rw[av hbD] at e
     exact (show ObjOk X.prog X.w H3 s4.heap b o from I4.hok b o e).stay (fun _ _ _ z=>z) (fun c z=>by rw[av (ne c _ z)];exact z) fun c xs z=>by rw[av (ne c _ z)];exact z
   have I5:Inv X pins σ (upd H3 D (.lst ys)) s4:=I.call' (I4.os) U' hok I4.bare fun b hb=>by
    obtain⟨f0,f1,f2,f3,f4,f5⟩:=hf b hb
    exact⟨f3,f1,f4,f5⟩
   obtain⟨m4,hn4,_⟩:=I4.loc
   exact hRR D C H3 ys s4 I5 hD qf (I.fpOk hCle (by rw[av (Ne.symm hDC)];exact I4.free)) ⟨m4,hn4⟩
  ·refine bv (T.item (X.blk scope N' C s H fp) rfl rfl rfl hc i _ s3 _ H3 _ I3' (stat fr3) st3 go) fun r s4 ⟨u,hr,h4⟩=>?_
   subst hr
   refine bv h4 fun _ s5 ⟨x,H5,I5,r5,y5,st5,fr5⟩=>?_
   have I5':=I5.pinned (stat fr5) (T.obj _ _ st5)
   refine bv (hg C s H fp _ s5 _ H5 x u _ I5' r5 (hk _ _ _ _ (step x H5 y5))) fun _ s6 ⟨σ6,H6,I6,q6,l6,k6⟩=>?_
   have back:∀{H7:Hp} {s7:Shared} {P7:List (Addr×Obj)},Inv (X.blk scope N' C s H fp) P7 σ6 H7 s7->Inv (X.blk scope N' C s H fp) [] (eW fm σ) H7 s7:=fun {H7 s7 P7} I7=>(I7.weak l6.symm fun a v e=>by
     obtain⟨j,ej,_⟩:=pV e
     rw[k6 a j ej];exact e).pins_of fun p hp=>nomatch hp
   have still:∀{H7:Hp} {s7:Shared},Inv (X.blk scope N' C s H fp) ([(D,{ cls:=.type "list",data:=.seq its.toArray nn })]++kc fp s5.heap) σ6 H7 s7->tn (i+1) s7.heap/\(∀b∈fp,H7 b=none)/\s7.heap.get? D=some { cls:=.type "list",data:=.seq its.toArray nn }/\H7 D=none:=fun {H7 s7} I7=>by
    refine⟨T.keep _ _ _ st5 fun b hb o e=>(I7.pin (b,o) (List.mem_append_right _ (List.mem_append_right _ (fO hb e)))).1,fun b hb=>?_,?_,?_⟩
    ·obtain⟨o,e,d⟩:=T.obj _ _ st5 b hb
     exact (I7.pin (b,o) (List.mem_append_right _ (List.mem_append_right _ (fO hb e)))).2.1
    ·exact (I7.pin (D,_) (List.mem_append_right _ (List.mem_append_left _ (List.mem_singleton.mpr rfl)))).1
    ·exact (I7.pin (D,{ cls:=.type "list",data:=.seq its.toArray nn }) (List.mem_append_right _ (List.mem_append_left _ (List.mem_singleton.mpr rfl)))).2.1
   refine bv (ht C s H fp _ s6 σ6 H6 _ I6 q6) fun ok s7 ⟨H7,I7,q7⟩=>?_
   cases ok with
   |false=>
    rw[if_neg Bool.false_ne_true] at q7 ⊢
    obtain⟨a1,a2,a3,a4⟩:=still I7
    exact⟨n0+1 - (i+1),by omega,i+1,ys,its,H7,rfl,back I7,a1,a2,rv,⟨nn,a3⟩,a4,q7⟩
   |true=>
    rw[if_pos rfl] at q7 ⊢
    refine bv (he C s H fp _ s7 σ6 H7 _ I7 q7) fun y s8 ⟨v8,H8,I8,r8,w8⟩=>?_
    obtain⟨a1,a2,a3,a4⟩:=still I8
    have hsz:its.toArray.size≤sizeLine:=by
     have:=rv.length
     rw[List.size_toArray]
     omega
    refine wpAny_list_append_plain (hsz:=hsz) ⟨nn,a3⟩ fun h9 hl9 sb9=>?_
    have I8':=back I8
    have I9:Inv (X.blk scope N' C s H fp) [] (eW fm σ) H8 { s8 with heap:=h9 }:=I8'.turned (t':=s8.toks) (fun b o hb e=>(sb9.2 b hb).trans e) a4 hDC (.inr (by show s.heap.objs.size≤D;omega)) (fun x c h z=>by
      obtain⟨v,o,ho,hdd⟩:=I8'.cell x c h
      rw[z,a3] at ho
      cases ho
      cases hdd) fun p hp=>nomatch hp
    refine⟨n0+1 - (i+1),by omega,i+1,ys++[v8],its++[y],H8,rfl,I9,T.keep _ _ _ a1 fun b hb o e=>(sb9.2 b (fun z=>hDf (z▸hb))).trans e,a2,Vals.append rv (.cons r8 .nil),?_,a4,w8⟩
    have e:its.toArray.push y=(its++[y]).toArray:=by simp
    rw[←e]
    exact hl9
 refine codeAny_compStart_list (loop _) (T.self _ 0 _ _ _ st1 (loop _))
end
end L2
end
section
namespace L2
open PySem PySem.Spec PyProof.Rows
section
variable {X:Cx}{scope:Scope}{N':List Str}{fm:List (Option Nat)}{tg iter elt:Expr}{ifs:List Expr}{pos spos px:Pos}{g:TG}{tc:TT}{te:TE}{wi:TI}
theorem C4 (B:BlkOk X scope N' fm)(hc:X.calm=true)(hi:PI X tg iter wi)(hg:∀C s H ex,PG (X.blk scope N' C s H ex) tg g)(hk:nG fm g)(ht:∀C s H ex,PIf (X.blk scope N' C s H ex) ifs tc)(he:∀C s H ex,PE (X.blk scope N' C s H ex) elt te)
  (hs:∀x,foldedSetIterable iter X.env x=pure x:=by intro _;rfl):PE X (.ListComp elt [⟨tg,iter,ifs,0⟩] scope pos) (fD fm wi g tc te):=by
 intro pins s σ H Q I h
 rw[eval_ListComp]
 refine wpAny_comprehension_free (use:=none) rfl hs (kx (B.has I.ok)) B.kind B.names (bv (hi pins s σ H _ I h) fun v s1 h1=>bv h1 fun itv s2 h2=>?_)
 obtain⟨it,fp,tn,J,H2,e,I2,T,BV,f2,q⟩:=h2
 subst e
 refine kS B hc hg hk ht he I2 T BV f2 q (RR:=fun acc C=>compPost (model X.prog X.w) X.A X.xe none (EP X pins σ Q) acc C) fun D C H' ys s' I' hD qf fC ⟨m,hn⟩=>?_
 refine⟨m,hn,fun h' sb=>⟨.ref D,upd H' D (.lst ys),?_,rfl,qf D hD⟩⟩
 obtain⟨f0,f1,f2,f3,f4,f5⟩:=fC
 exact I'.turned (t':=s'.toks) (fun b o hb e=>sb.extBut b o hb e) f0 f1 f3 f4 f5
theorem rh {i:Nat}{x:Str}(hN:X.N.Nodup)(hi':X.N[i]?=some x)(hx:X.env.kindOf x=some .local)(B:BlkOk X scope N' fm)(hc:X.calm=true)(hi:PI X tg iter wi)(hg:∀C s H ex,PG (X.blk scope N' C s H ex) tg g)(hk:nG fm g)
  (ht:∀C s H ex,PIf (X.blk scope N' C s H ex) ifs tc) (he:∀C s H ex,PE (X.blk scope N' C s H ex) elt te) (hsw:swapsWith (.ListComp elt [⟨tg,iter,ifs,0⟩] scope pos) (some (.Name x px)) spos.line X.env=pure true:=by rfl)
  (hs:∀x,foldedSetIterable iter X.env x=pure x:=by intro _;rfl):PS X (.Assign [.Name x px] (.ListComp elt [⟨tg,iter,ifs,0⟩] scope pos) spos) (fU (fD fm wi g tc te) (dc i)):=by
 intro pins s σ H D I h
 rw[exec_Assign_Name_used _ _ _ _ hsw]
 refine wpAny_bind (wpAny_standAt (wpAny_bind ?_))
 show wpAny _ X.A (do let _ ←comprehension (.ListComp elt [⟨tg,iter,ifs,0⟩] scope pos) scope X.env _ (newList []) false (eval iter X.env) (some (assign (.Name x px) X.env))) _ _ s
 refine wpAny_bind (bv (wpAny_comprehension_free (use:=some (assign (.Name x px) X.env)) (Q:=fun _ s'=>SP X pins D .next s') rfl hs (kx (B.has I.ok)) B.kind B.names (bv (hi pins s σ H _ I h) fun v s1 h1=>bv h1 fun itv s2 h2=>?_)) fun _ s' q=>wpAny_pure (wpAny_pure q))
 obtain⟨it,fp,tn,J,H2,e,I2,T,BV,f2,q⟩:=h2
 subst e
 refine kS B hc hg hk ht he I2 T BV f2 q (RR:=fun acc C=>compPost (model X.prog X.w) X.A X.xe (some (assign (.Name x px) X.env)) (fun _ s'=>SP X pins D .next s') acc C) fun D' C H' ys s' I' hD qf fC ⟨m,hn⟩=>?_
 obtain⟨f0,f1,f2,f3,f4,f5⟩:=fC
 show wpAny (model X.prog X.w) X.A (assign (.Name x px) X.env (.ref D')) _ X.xe s'
 refine wpAny_assign_Name (mY I' hN hi' (.inl hx) (v:=.ref D') rfl (fun s2 I2 ⟨a,sb,ha⟩=>?_) (.inr hx))
 have hCa:C≠a:=by
  rcases ha with z|z
  ·rw[z];exact f1
  ·exact fun e=>f4 x a z e.symm
 refine⟨m,hn.sameBut sb hCa,fun h' sb'=>⟨_,upd H' D' (.lst ys),I2.turned (t':=s2.toks) (fun b o hb e=>sb'.extBut b o hb e) f0 f1 f3 f4 f5,qf D' hD⟩⟩
end
theorem jH {X:Cx}:cO X (.builtin "isinstance") (fun xs H Q=>∃x n t b,xs=[x,.ty n]/\TyOf X.K H x t/\PySem.W.kitOne X.K t (.type n)=some b/\Q (.bl b) H):=by
 intro pins s σ H xs us Q I r h
 obtain⟨x,n,t,b,rfl,ty,e,q⟩:=h
 cases r with
 |cons r1 r2=>
  cases r2 with
  |cons r2 r3=>
   cases r3
   cases (show _=Value.type n from r2)
   exact vj I r1 ty e fun tk=>⟨.bl b,H,I.tok tk,rfl,q⟩
theorem yo {bs:List Bool}{its:List Value}(r:Vals (bs.map V.bl) its){i:Nat}{v:Value}(h:its[i]?=some v):v=Value.bool (bs.getD i false):=by
 have hl:=r.length
 have hi:i<its.length:=(List.getElem?_eq_some_iff.mp h).1
 rw[List.length_map] at hl
 have hb:i<bs.length:=by omega
 obtain⟨u,e1,e2⟩:=r.get (i:=i) (x:=V.bl bs[i]) (by rw[List.getElem?_map,List.getElem?_eq_getElem hb]<;>rfl)
 rw[h] at e1
 cases e1
 have e2':v=Value.bool bs[i]:=e2
 rw[e2',List.getD_eq_getElem?_getD,List.getElem?_eq_getElem hb]<;>rfl
theorem vD {bs:List Bool}:(List.range bs.length).all (fun i=>bs.getD i false)=bs.all id:=by
 induction bs with
 |nil=>rfl
 |cons b r ih=>
  rw[List.length_cons,List.range_succ_eq_map,List.all_cons,List.all_map,List.all_cons,←ih]<;>rfl
theorem uV {bs:List Bool}:(List.range bs.length).any (fun i=>bs.getD i false)=bs.any id:=by
 induction bs with
 |nil=>rfl
 |cons b r ih=>
  rw[List.length_cons,List.range_succ_eq_map,List.any_cons,List.any_map,List.any_cons,←ih]<;>rfl
end L2
end
section
namespace L2
open PySem PySem.Spec PyProof.Rows
theorem ji {h:Heap}{a:Addr}{o:Obj}(e:h.get? a=some o):a≠h.objs.size:=Nat.ne_of_lt (Heap.lt_size e)
theorem xT {X:Cx}(hc:X.calm=true):cO X (.builtin "all") (fun xs H Q=>∃(p:Addr) (bs:List Bool),xs=[.ref p]/\SqL X.K H p (bs.map V.bl)/\Q (.bl (bs.all id)) H):=by
 intro pins s σ H xs us Q I r h
 obtain⟨p,bs,rfl,hq,q⟩:=h
 obtain⟨u,rfl,rx⟩:=dR r
 cases rx
 obtain⟨its,rv,pl,hz⟩:=I.list hq
 have hl:its.length=bs.length:=by rw[←rv.length,List.length_map]
 refine call_all_walk (wpAny_pyIter_list pl.isList ?_)
 obtain⟨o,ho,hrest⟩:=id pl.isList
 have hne:p≠s.heap.objs.size:=ji ho
 refine⟨s.heap.objs.size,_,_,_,_,_,fun i=>bs.getD i false,rfl,Walks.list (A:=X.A.in1) (I.ok.hd hc) s.heap.objs.size p hne its.toArray,⟨⟨_,Heap.get?_push_size _ rfl,rfl,rfl⟩,⟨o,Heap.get?_push_of_some _ ho,hrest⟩⟩,fun i v s' Q' E' hP hQ=>?_,fun h' tk hk=>?_⟩
 ·have e:v=Value.bool (bs.getD i false):=yo rv (by simpa using hP)
  subst e
  exact wpAny_truthy_bool hQ
 ·have e2:(List.range its.toArray.size).all (fun i=>bs.getD i false)=bs.all id:=by rw[List.size_toArray,hl];exact vD
  rw[e2]
  exact⟨.bl (bs.all id),H,I.kept (t':=tk) fun b o' e=>hk b o' (fun z=>ji e (List.mem_singleton.mp z)) (Heap.get?_push_of_some _ e),rfl,q⟩
theorem wt {X:Cx}(hc:X.calm=true):cO X (.builtin "any") (fun xs H Q=>∃(p:Addr) (bs:List Bool),xs=[.ref p]/\SqL X.K H p (bs.map V.bl)/\Q (.bl (bs.any id)) H):=by
 intro pins s σ H xs us Q I r h
 obtain⟨p,bs,rfl,hq,q⟩:=h
 obtain⟨u,rfl,rx⟩:=dR r
 cases rx
 obtain⟨its,rv,pl,hz⟩:=I.list hq
 have hl:its.length=bs.length:=by rw[←rv.length,List.length_map]
 refine call_any_walk (wpAny_pyIter_list pl.isList ?_)
 obtain⟨o,ho,hrest⟩:=id pl.isList
 have hne:p≠s.heap.objs.size:=ji ho
 refine⟨s.heap.objs.size,_,_,_,_,_,fun i=>bs.getD i false,rfl,Walks.list (A:=X.A.in1) (I.ok.hd hc) s.heap.objs.size p hne its.toArray,⟨⟨_,Heap.get?_push_size _ rfl,rfl,rfl⟩,⟨o,Heap.get?_push_of_some _ ho,hrest⟩⟩,fun i v s' Q' E' hP hQ=>?_,fun h' tk hk=>?_⟩
 ·have e:v=Value.bool (bs.getD i false):=yo rv (by simpa using hP)
  subst e
  exact wpAny_truthy_bool hQ
 ·have e2:(List.range its.toArray.size).any (fun i=>bs.getD i false)=bs.any id:=by rw[List.size_toArray,hl];exact uV
  rw[e2]
  exact⟨.bl (bs.any id),H,I.kept (t':=tk) fun b o' e=>hk b o' (fun z=>ji e (List.mem_singleton.mp z)) (Heap.get?_push_of_some _ e),rfl,q⟩
noncomputable def kB (n:Nat):List V:=(List.range n).map fun i:Nat=>V.int (i:Int)
theorem jN (n:Nat):(kB n).length=n:=by unfold kB;simp
noncomputable def DP:List V->Hp->VK->Prop:=fun xs H Q=>∃j:Int,xs=[.int j]/\-(2 ^ 62)≤j/\j<2 ^ 62/\∀p,H p=none->Q (.ref p) (upd H p (.rng 0 j))
theorem pW {X:Cx}:cO X (.type "range") DP:=by
 intro pins s σ H xs us Q I r h
 obtain⟨j,rfl,h1,h2,q⟩:=h
 obtain⟨u,rfl,t,rfl⟩:=dR r
 refine call_range_1 ?_
 exact⟨.ref s.heap.objs.size,_,I.laid (fun b o e=>Heap.get?_push_of_some _ e) (Nat.le_refl _) (show ObjOk X.prog X.w _ _ _ (.rng 0 j) from⟨_,_,_,Heap.get?_push_size _ rfl⟩),rfl,q _ (I.hok.fresh (Nat.le_refl _))⟩
theorem lC {n:Nat}{acc:Array Value}(h:ItemsOf (fun i v=>∃t,v=.int ((0:Int)+i * 1) t) acc n):Vals (kB n) acc.toList:=by
 obtain⟨hs,hi⟩:=h
 have gen:∀(l:List Value) (k:Nat),(∀j v,l[j]?=some v->∃t,v=Value.int ((k+j:Nat):Int) t)->Vals ((List.range' k l.length).map fun i:Nat=>V.int (i:Int)) l:=by
  intro l
  induction l with
  |nil=>intro k _;exact .nil
  |cons a r ih=>
   intro k hk
   rw[List.length_cons,List.range'_succ,List.map_cons]
   refine .cons ?_ (ih (k+1) fun j v hj=>?_)
   ·obtain⟨t,e⟩:=hk 0 a rfl
    exact⟨t,by simpa using e⟩
   ·obtain⟨t,e⟩:=hk (j+1) v (by simpa using hj)
    exact⟨t,by rw[e];congr 1;omega⟩
 have e:acc.toList.length=n:=by simpa using hs
 have z:=gen acc.toList 0 fun j v hj=>by
  obtain⟨t,e⟩:=hi j v (by simpa using hj)
  exact⟨t,by rw[e];congr 1;omega⟩
 rw[e] at z
 unfold kB
 rw[List.range_eq_range']
 exact z
theorem mM {X:Cx}(hc:X.calm=true):cO X (.type "list") (fun xs H Q=>∃p j,xs=[.ref p]/\H p=some (.rng 0 j)/\0≤j/\j≤1000000/\∀l,H l=none->Q (.ref l) (upd H l (.lst (kB j.toNat)))):=by
 intro pins s σ H xs us Q I r h
 obtain⟨p,j,rfl,hp,h1,h2,q⟩:=h
 obtain⟨u,rfl,rx⟩:=dR r
 cases rx
 obtain⟨t,u,v,e⟩:=(show ObjOk X.prog X.w H s.heap p (.rng 0 j) from I.hok p _ hp)
 refine call_list_range (I.ok.hd hc) (r:=p) (a:=0) (b:=j) (c:=1) (n:=j.toNat) e (small_one (by omega) (by omega) (by omega) (by omega)) (by rw[rangeSize_one];split<;>omega) (by omega) fun h' tk acc' c' hk hS hacc=>?_
 have z:sizeLine ≥ 1000000:=by decide
 refine⟨.ref s.heap.objs.size,_,I.laid (t':=tk) hk (Nat.le_refl _) (show ObjOk X.prog X.w _ h' _ (.lst (kB j.toNat)) from⟨by rw[jN];omega,acc'.toList,c',lC hacc,hS⟩),rfl,q _ (I.hok.fresh (Nat.le_refl _))⟩
theorem ny {xs:List V}{its:List Value}(r:Vals xs its){j:Nat}(h:j<its.toArray.size):RelV (xs.getD j .non) its.toArray[j]:=by
 have hl:=r.length
 have h1:j<its.length:=by simpa using h
 have h2:j<xs.length:=by omega
 obtain⟨u,e1,e2⟩:=r.get (i:=j) (x:=xs[j]) (List.getElem?_eq_getElem h2)
 have e3:its.toArray[j]=u:=by
  rw[List.getElem?_eq_getElem h1] at e1
  simpa using e1
 rw[e3,List.getD_eq_getElem?_getD,List.getElem?_eq_getElem h2]
 exact e2
end L2
end
section
namespace L2
open PySem PySem.Spec PyProof.Rows
theorem aY {H:Hp}{p:Addr}(h:H p=none)(o:HO):Same H (upd H p o):=fun b u q=>by rw[av (dz q h)];exact q
theorem SqT.of' {K:PySem.W.Frag}{H:Hp}{a:Addr}{xs:List V}(h:H a=some (.tup xs)):SqT K H a xs:=SqT.of h
theorem jv:fillsNumberSlot (.type "tuple") "mul" = pure false:=by first|rfl|decide +kernel|kernel_rfl
end L2
end
section
namespace L2
open PySem PySem.Spec PyProof.Rows
theorem pj:seqRepeat? (.type "tuple")=pure (some (.builtin "tuple.__mul__")):=by
 unfold seqRepeat?
 rw[PySem.seqSlot_of (T:="tuple") (name:="__mul__") (id:="tuple.__mul__") PySem.F.slot_tuple_mul.lookup (by decide +kernel),PySem.seqSlot_of (T:="tuple") (name:="__rmul__") (id:="tuple.__rmul__") PySem.F.slot_tuple_rmul.lookup (by decide +kernel)]
 rfl
theorem ly (a:Int)(t:Tok)(l:Addr)(items:Array Value)(n:Nat)(dd:Option Addr)(sl:Array (Option Value)) :
  Meets (Builtin.«int.__rmul__» ⟨[.int a t,.ref l],[]⟩) (fun _ R s=>s.heap.get? l=some { cls:=.type "tuple",dict:=dd,data:=.seq items n,slots:=sl }/\R (.ok (.ret Value.notImplemented)) s):=
 .of_wp fun prog w A R s h=>by obtain⟨hp,g,d,tk,os⟩:=s;obtain⟨hl,h⟩:=h;wp_walk;exact⟨_,rfl,h⟩
theorem kC (l:Addr)(items:Array Value)(n:Nat)(dd:Option Addr)(sl:Array (Option Value))(t:Tok) :
  Meets (Builtin.«tuple.__mul__» ⟨[.ref l,.int 1 t],[]⟩) (fun _ R s=>s.heap.get? l=some { cls:=.type "tuple",dict:=dd,data:=.seq items n,slots:=sl }/\R (.ok (.ret (Value.ref l))) s):=
 .of_wp fun prog w A R s h=>by obtain⟨hp,g,d,tk,os⟩:=s;obtain⟨hl,h⟩:=h;have f1:=AutoSeq1.idx_int;have f2:=AutoSeq1.sub_tuple_tuple;have hc:(items.isEmpty || (1:Int)==1)=true:=(by simp);wp_walk using wpAny_loadPart' hl;exact⟨_,rfl,h⟩
theorem mn (l:Addr)(items:Array Value)(n:Nat)(dd:Option Addr)(sl:Array (Option Value))(k:Int)(t:Tok)(h1:¬(decide (k < -(2 ^ 63)) || decide (k ≥ 2 ^ 63))=true)(h2:¬(items.isEmpty || k==1)=true)(h3:¬(decide (k≤0) || items.isEmpty)=true)
  (h4:¬(items.size * k > (2 ^ 63 - 1) / 8)) (h5:¬Builtin.Tuple.tupleTooMany (items.size * k)=true) (h6:((List.replicate k.toNat items).foldl (·++·) #[]).size≤sizeLine) :
  Meets (Builtin.«tuple.__mul__» ⟨[.ref l,.int k t],[]⟩) (fun _ R s=>s.heap.get? l=some { cls:=.type "tuple",dict:=dd,data:=.seq items n,slots:=sl }/\R (.ok (.ret (Value.ref s.heap.objs.size))) { s with heap:=s.heap.push { cls:=Value.type "tuple",data:=Data.seq ((List.replicate k.toNat items).foldl (·++·) #[]) },toks:=s.toks }):=
 .of_wp fun prog w A R s h=>by obtain⟨hp,g,d,tk,os⟩:=s;obtain⟨hl,h⟩:=h;have f1:=AutoSeq1.idx_int;have f2:=AutoSeq1.sub_tuple_tuple;wp_walk using wpAny_loadPart' hl;rw[if_neg h1];wp_walk using wpAny_loadPart' hl;rw[if_neg h4];(try dsimp only);rw[if_neg h5];wp_walk using wpAny_loadPart' hl;exact⟨_,rfl,h⟩
theorem kD (its:List Value)(m:Nat):List.foldl (fun x1 x2=>x1++x2) #[] (List.replicate m its.toArray)=(List.replicate m its).flatten.toArray:=by
 have:=jr its m []
 rw[List.nil_append] at this
 exact this
end L2
end
section
namespace L2
open PySem PySem.Spec PyProof.Rows
namespace HT
section
variable {prog:Program}{w:World}{A:Around}{E:Value->Shared->Prop}{s:Shared}
theorem xy {α β:Type}{f:α->Option β}{g:α->β}:∀{l:List α},(∀k∈l,f k=some (g k))->l.filterMap f=l.map g
 |[],_=>rfl
 |a::r,h=>by
  rw[List.filterMap_cons,h a List.mem_cons_self,List.map_cons,xy fun k hk=>h k (List.mem_cons_of_mem _ hk)]
theorem pick_rev (xs:List Value):(List.range xs.length).filterMap (fun (k:Nat)=>xs.toArray[(((xs.length:Nat):Int) - 1+(k:Int) * (-1)).toNat]?)=xs.reverse:=by
 rw[xy (g:=fun k=>xs.getD (xs.length - 1 - k) .none)]
 ·apply List.ext_getElem
  ·simp
  ·intro i h1 h2
   have h3:i<xs.length:=by simpa using h2
   have h4:xs.length - 1 - i<xs.length:=by omega
   rw[List.getElem_map,List.getElem_range,List.getElem_reverse]
   simp[h4]
 ·intro k hk
  have hk':k<xs.length:=List.mem_range.mp hk
  have e1:(((xs.length:Nat):Int) - 1+(k:Int) * (-1)).toNat=xs.length - 1 - k:=by omega
  have h2:xs.length - 1 - k<xs.length:=by omega
  rw[e1]
  simp[h2]
end
end HT
end L2
end
section
namespace L2
open PySem PySem.Spec PyProof.Rows PySem.W
noncomputable def Leaf {α:Type}(n:Nat)(P:α->Prop):KasT α->Prop
 |.ret a=>P a
 |.ask i j k=>i<n/\j<n/\∀b,Leaf n P (k b)
theorem Leaf.bind {α β:Type}{n:Nat}{P:α->Prop}{R:β->Prop}{f:α->KasT β}(hf:∀a,P a->Leaf n R (f a)):∀{t:KasT α},Leaf n P t->Leaf n R (t.bind f)
 |.ret a,h=>hf a h
 |.ask i j k,h=>⟨h.1,h.2.1,fun b=>Leaf.bind hf (h.2.2 b)⟩
noncomputable abbrev OfN (n:Nat)(p:Array Nat):Prop:=p.toList.Perm (List.range n)
theorem OfN.lt {n:Nat}{p:Array Nat}(h:OfN n p)(hn:0<n)(k:Nat):p.getD k 0<n:=by
 by_cases hk:k<p.size
 ·have e:p.getD k 0=p[k]:=by simp[Array.getD,hk]
  rw[e]
  exact List.mem_range.mp (h.subset (by simp))
 ·have e:p.getD k 0=0:=by simp[Array.getD,hk]
  rw[e];exact hn
theorem OfN.rev {n:Nat}{p:Array Nat}(h:OfN n p)(i j:Nat):OfN n (kas_rev p i j):=(mirror_perm p i j _).toList.trans h
theorem OfN.bub {n:Nat}{p:Array Nat}(h:OfN n p)(i j:Nat):OfN n (bubble p i j):=(bubble_perm p i j).toList.trans h
theorem kh {n:Nat}{p:Array Nat}(hp:OfN n p)(hn:0<n):∀f k,Leaf n (fun _=>True) (kas_asc p f k)
 |0,_=>True.intro
 |f+1,k=>⟨hp.lt hn _,hp.lt hn _,fun b=>by
  cases b with
  |true=>exact True.intro
  |false=>exact kh hp hn f (k+1)⟩
theorem gU {n:Nat}(hn:0<n):∀f (p:Array Nat) k q,OfN n p->Leaf n (fun r=>OfN n r.1) (kas_desc f p k q)
 |0,_,_,_,hp=>hp
 |f+1,p,k,q,hp=>⟨hp.lt hn _,hp.lt hn _,fun b=>by
  cases b with
  |true=>
   show Leaf n _ (if q > 0 then kas_desc f (kas_rev p (k - (q+1)) k) (k+1) 0 else kas_desc f p (k+1) 0)
   split
   ·exact gU hn f _ _ _ (hp.rev _ _)
   ·exact gU hn f _ _ _ hp
  |false=>
   refine⟨hp.lt hn _,hp.lt hn _,fun c=>?_⟩
   cases c with
   |true=>exact hp
   |false=>exact gU hn f _ _ _ hp⟩
theorem lx {n:Nat}(hn:0<n){p:Array Nat}(hp:OfN n p)(a b:Nat):Leaf n (fun r=>OfN n r.2) (kas_tail3 a b p):=by
 unfold kas_tail3
 exact Leaf.bind (P:=fun _=>True) (R:=fun r:Nat×Array Nat=>OfN n r.2) (f:=fun m=>KasT.ret (m,kas_rev p 0 a)) (fun m _=>(show OfN n (kas_rev p 0 a) from hp.rev 0 a)) (kh (hp.rev 0 a) hn _ _)
theorem ic {n:Nat}(hn:0<n){p:Array Nat}(hp:OfN n p)(a b:Nat):Leaf n (fun r=>OfN n r.2) (kas_descPart a b p):=by
 refine Leaf.bind (fun r hr=>?_) (gU hn _ _ _ _ hp)
 split
 ·exact lx hn (OfN.rev hr _ _) _ _
 ·exact lx hn hr _ _
theorem sj {n:Nat}(hn:0<n){p:Array Nat}(hp:OfN n p)(b:Nat):Leaf n (fun r=>OfN n r.2) (kas_count b p):=by
 refine Leaf.bind (fun r _=>?_) (kh hp hn _ _)
 split
 ·exact hp
 ·split
  ·refine⟨hp.lt hn _,hp.lt hn _,fun c=>?_⟩
   cases c with
   |true=>exact hp
   |false=>exact ic hn (hp.rev _ _) _ _
  ·exact ic hn hp _ _
theorem il {n:Nat}(hn:0<n){p:Array Nat}(hp:OfN n p)(k:Nat):∀f l r,Leaf n (fun _=>True) (kas_place p k f l r)
 |0,_,_=>True.intro
 |f+1,l,r=>by
  show Leaf n _ (if l ≥ r then .ret l else .ask (p.getD k 0) (p.getD ((l+r) / 2) 0) fun c=>if c=true then kas_place p k f l ((l+r) / 2) else kas_place p k f ((l+r) / 2+1) r)
  split
  ·exact True.intro
  ·refine⟨hp.lt hn _,hp.lt hn _,fun c=>?_⟩
   cases c with
   |true=>exact il hn hp k f _ _
   |false=>exact il hn hp k f _ _
theorem qI {n:Nat}(hn:0<n):∀f (p:Array Nat) k,OfN n p->Leaf n (OfN n) (kas_bin f p k)
 |0,_,_,hp=>hp
 |f+1,p,k,hp=>Leaf.bind (fun l _=>qI hn f _ _ (hp.bub _ _)) (il hn hp k _ _ _)
theorem nA {n:Nat}(hn:0<n):Leaf n (OfN n) (kas_sort n):=by
 refine Leaf.bind (fun r hr=>?_) (sj hn (show OfN n (List.toArray (List.range n)) from .refl _) n)
 split
 ·exact qI hn _ _ _ hr
 ·exact hr
theorem HOk.stands {P:Program}{w:World}{H:Hp}{h:Heap}{a:Addr}{o:HO}(x:HOk P w H h)(e:H a=some o):∃ob,h.get? a=some ob:=by
 have y:=x a o e
 cases o with
 |lst xs=>obtain⟨_,_,_,_,z⟩:=y;exact⟨_,z⟩
 |tup xs=>obtain⟨_,_,_,ob,z,_⟩:=y;exact⟨_,z⟩
 |dK kvs=>obtain⟨_,_,_,_,ob,_,_,z,_⟩:=y;exact⟨_,z⟩
 |dT kvs=>obtain⟨_,_,_,_,ob,_,_,z,_⟩:=y;exact⟨_,z⟩
 |set S n=>obtain⟨ob,_,_,_,z,_⟩:=y;exact⟨_,z⟩
 |ins C dx fs=>obtain⟨_,_,_,z,_⟩:=y;exact⟨_,z⟩
 |own y'=>exact y
 |xd fs=>obtain⟨_,⟨ob,_,_,z,_⟩,_⟩:=y;exact⟨_,z⟩
 |rng lo hi=>obtain⟨_,_,_,z⟩:=y;exact⟨_,z⟩
 |frz ob u=>exact⟨_,y.1⟩
 |tbl ps=>exact⟨_,(show h.get? a=some { cls:=.none,data:=.fields ps } from y)⟩
 |met f y'=>exact⟨_,(show h.get? a=some (PySem.W.methodObj (.ref f) (.ref y')) from y)⟩
 |ext φ=>exact y.2.1
theorem Fw {h:Heap}{L:Addr}{m m':Str->Option Value}(a:h.Ns L m)(b:h.Ns L m'):m=m':=by
 obtain⟨o,es,ep,h1,h2,h3,h4⟩:=a
 obtain⟨o',es',ep',h1',h2',h3',h4'⟩:=b
 rw[h1] at h1'
 cases h1'
 rw[h2] at h2'
 cases h2'
 funext x
 rw[←h4 x,←h4' x]
section
variable {X:Cx}{pins:List (Addr×Obj)}{σ:St}{H:Hp}{s:Shared}
theorem Inv.ledger {h':Heap}{m:Str->Option Value}{D:Addr}{ys:List V}{out:List Value}{c:Nat}(I:Inv X pins σ H s)(F0:Fr X.base X.env.locals s.heap m)(F:Fr X.base X.env.locals h' m)(N:News X.base X.env.locals h' ((D,listOf (List.toArray out) c)::iJ X.base s.heap X.env.locals))
  (hD:s.heap.get? D=none) (r:Vals ys out) (hz:ys.length≤sizeLine):Inv X pins σ (upd H D (.lst ys)) { s with heap:=h' }/\H D=none:=by
 have hHD:H D=none:=by
  cases e:H D with
  |none=>rfl
  |some o=>
   obtain⟨ob,z⟩:=I.hok.stands e
   rw[hD] at z;cases z
 have kept:∀b o,b≠X.env.locals->s.heap.get? b=some o->h'.get? b=some o:=fun b o hb e=>by
  cases q:X.base.get? b with
  |some u=>
   have z:=I.bk b u q
   rw[e] at z;cases z
   exact F.keep b _ q
  |none=>exact (N (b,o) (List.mem_cons_of_mem _ (gm hb q e))).1
 have ne:∀b o,H b=some o->b≠D:=fun b o e z=>by subst z;rw[hHD] at e;cases e
 have neL:∀b o,H b=some o->b≠X.env.locals:=fun b o e z=>by subst z;rw[I.free] at e;cases e
 have hd:=(N (D,listOf (List.toArray out) c) (List.mem_cons_self)).1
 refine⟨I.step (g':=s.gens) (t':=s.toks) (d':=s.drawn) (ch:=[]) (fun _ z=>nomatch z) (fun b o hL _ _ e _=>kept b o hL e) (fun b o hL _ _ e _=>⟨o.slots,kept b o hL e⟩) (fun b o _ e n=>?_) (fun b o _ e=>?_)
  (fun b xs e=>by rw[av (ne b _ e)];exact e) (fun b o u e=>by rw[av (ne b _ e)];exact e) (fun b ps e=>⟨#[],by rw[av (ne b _ e),e];simp⟩) (fun m1 hm=>?_) (fun b o e=>?_) I.bare,hHD⟩
 ·rw[av (fun z=>by subst z;rw[hD] at e;cases e)];exact n
 ·by_cases hb:b=X.env.locals
  ·subst hb
   obtain⟨o',_,_,z,_⟩:=F.ns
   exact⟨o',z⟩
  ·exact⟨o,kept b o hb e⟩
 ·rw[Fw hm F0.ns];exact F.ns
 ·by_cases hb:b=D
  ·subst hb
   rw[ak] at e
   cases e
   exact⟨hz,out,c,r,hd⟩
  ·rw[av hb] at e
   refine (I.hok b o e).stay (fun d u hc q=>kept d u ?_ q) (fun d z=>by rw[av (ne d _ z)];exact z) fun d xs z=>by rw[av (ne d _ z)];exact z
   rcases hc with z|z
   ·rw[z];exact neL b _ e
   ·exact neL d _ z
end
section
variable {prog:Program}{w:World}{A:Around}{E:Value->Shared->Prop}{s:Shared}
theorem rN {a:Addr}{vs:List Value}{n:Nat}{P:PySem.Fin->Shared->Prop}(ho:s.heap.get? a=some (seqObj "list" vs.toArray n))(h2:vs.length<2)
  (h:P (.done (.ret .none)) { s with heap:=sortedHeap s.heap a vs vs.toArray }):wpAny (model prog w) A (Builtin.«list.sort» ⟨[.ref a],[]⟩) P E s:=by
 rw[list_sort_plain]
 have ha:=Heap.lt_size ho
 refine wpAny_bind (listItems_at ho rfl (wpAny_bind (listUpdate_at ho rfl ?_ (by rw[List.size_toArray,sizeLine_eq];omega) (Nat.zero_le _))))
 obtain⟨e1,ho1⟩:∃e1,(s.heap.update a (Obj.mapSeq fun _=>(#[]:Array Value))).get? a=some (seqObj "list" #[] e1):=⟨_,get?_update_seq ho fun _=>#[]⟩
 refine wpAny_bind (seqEpoch_at ho1 rfl (wpAny_bind (wpAny_newTuple (wpAny_bind (wpAny_newList (wpAny_holding ?_) (Nat.zero_le _))) (by show vs.length≤_;rw[sizeLine_eq];omega))))
 have ho6:(((s.heap.update a (Obj.mapSeq fun _=>(#[]:Array Value))).push (seqObj "tuple" vs.toArray 0)).push (seqObj "list" #[] 0)).get? a=some (seqObj "list" #[] e1):=Heap.get?_push_of_some _ (Heap.get?_push_of_some _ ho1)
 show wpAny (model prog w) A _ P E { s with heap:=((s.heap.update a (Obj.mapSeq fun _=>(#[]:Array Value))).push (seqObj "tuple" vs.toArray 0)).push (seqObj "list" #[] 0) }
 dsimp only
 have hlt:vs.toArray.size<2:=by rw[List.size_toArray];exact h2
 rw[if_pos hlt,if_pos hlt]
 refine wpAny_bind (wpAny_pure ?_)
 rw[StateT.run_pure]
 have hsn:(arrOf (SortSt.mk' general' (vs.toArray.zip vs.toArray) #[] 7 none)).map (·.2)=vs.toArray:=by
  show (vs.toArray.zip vs.toArray).map (·.2)=vs.toArray
  apply Array.toList_inj.mp
  simp
  exact List.map_snd_zip (by simp)
 refine wpAny_bind (wpAny_pure ?_)
 dsimp only
 refine wpAny_bind (seqEpoch_at ho6 rfl ?_)
 refine wpAny_bind (listUpdate_at ho6 rfl ?_ (Nat.zero_le _) (by rw[hsn,List.size_toArray,sizeLine_eq];omega))
 simp only[bne_self_eq_false,Bool.false_eq_true,if_false]
 rw[hsn]
 exact wpAny_pure h
theorem nQ {l:Addr}{vs:List Value}{Q:Value->Shared->Prop}(hl:s.heap.IsList l vs.toArray)(h2:vs.length<2)(h:Q (.ref (s.heap.objs.size+1)) { s with heap:=sortedAll s.heap vs vs.toArray }) :
  wpAny (model prog w) A (call (.builtin "sorted") [.ref l]) Q E s:=by
 refine Calls.call_function_entry kind_sorted plain_sorted entry_sorted (args_sorted1 _) ?_
 unfold Builtin.«sorted»
 refine wpAny_bind (m:=checkCount "sorted" 1 1 _) (wpAny_pure (wpAny_bind (collect_list hl (wpAny_bind (wpAny_newList ?_ (by rw[sizeLine_eq];omega))) (by rw[sizeLine_eq];omega))))
 have hsz:((s.heap.push (seqObj "list" #[] 0)).update s.heap.objs.size (Obj.mapSeq (·++vs.toArray))).objs.size=s.heap.objs.size+1:=(Heap.size_update ..).trans (size_push' ..)
 have hoL:(((s.heap.push (seqObj "list" #[] 0)).update s.heap.objs.size (Obj.mapSeq (·++vs.toArray))).push (seqObj "list" vs.toArray 0)).get? (s.heap.objs.size+1)=some (seqObj "list" vs.toArray 0):=hsz▸Heap.get?_push_size _ rfl
 show wpAny _ _ _ _ _ { s with heap:=((s.heap.push (seqObj "list" #[] 0)).update s.heap.objs.size (Obj.mapSeq (·++vs.toArray))).push (seqObj "list" vs.toArray 0) }
 rw[hsz]
 refine wpAny_bind (wpAny_holding (wpAny_call_entry slot_list_sort ⟨_,hoL,rfl⟩ entry_list_sort (rN hoL h2 ⟨_,rfl,?_⟩) (args_list_sort _)))
 exact wpAny_pure ⟨_,rfl,h⟩
end
end L2
end
section
namespace L2
open PySem PySem.Spec PyProof.Rows PySem.W
theorem gf {α:Type}(d:α):∀(xs:List α),(List.range xs.length).map (fun i=>xs.getD i d)=xs:=fun xs=>by
 apply List.ext_getElem
 ·simp
 ·intro i h1 h2
  rw[List.getElem_map,List.getElem_range]
  simp[h2]
theorem qS {ts:List V}{its:List Value}(r:Vals ts its):∀{p:List Nat},(∀i∈p,i<its.length)->Vals (p.map fun i=>ts.getD i .non) (p.map fun i=>its.getD i Value.none)
 |[],_=>.nil
 |i::p,h=>by
  have hi:=h i List.mem_cons_self
  have hz:=ny r (j:=i) (by simpa using hi)
  have e:its.getD i Value.none=its.toArray[i]'(by simpa using hi):=by simp[hi]
  refine .cons ?_ (qS r fun j hj=>h j (List.mem_cons_of_mem _ hj))
  show RelV (ts.getD i .non) (its.getD i Value.none)
  rw[e];exact hz
end L2
end
section
namespace L2
open PySem PySem.Spec PyProof.Rows
noncomputable def FunD (K:PySem.W.Frag)(mg:Str->Option Value)(x:Str)(st:Stmt)(ps:List Str):Prop:=∃f fd,Fun K x x st f fd/\(∀us:List Value,us.length=ps.length->bindArgs fd ⟨us,[]⟩=pure (ps.zip us))/\mg x=some (.ref f)
noncomputable def Def (P:Program)(w:World)(K:PySem.W.Frag)(mg:Str->Option Value)(base:Heap)(k:Nat)(x:Str)(ps:List Str)(sp:Sp):Prop:=
 ∃f fd,FnOk P w K mg base rf k f fd ps sp/\Binds K fd ps []/\PySem.W.keepIn K (.ref f)=true/\mg x=some (.ref f)
section
variable {P:Program}{w:World}{K:PySem.W.Frag}{mg:Str->Option Value}{base:Heap}
theorem FunD.ok {x:Str}{st:Stmt}{N ps:List Str}{k:Nat}{sp:Sp}(F:FunD K mg x st ps)(S:FnScope N ps (ad st))(len:∀vs H Q E,sp vs H Q E->vs.length=ps.length)
  (hbody:∀(f:Addr) (cdv:Value) (A:Around) (outer:List Env) (s:Shared) (H:Hp) (vs:List V) (Q:VK) (E:XK),Room k (A.deeper (envOfC x (ad st) s.heap.objs.size f cdv))->sp vs H Q E →
   ∃t,PSs (iR rf P w K mg base N x (ad st) f cdv A outer s H E).nox (ah st) t/\t { nx:=fun _ H'=>Q .non H',rt:=Q } (dn N vs) H):Def P w K mg base (k+1) x ps sp:=by
 obtain⟨f,fd,F,b,m⟩:=F
 exact⟨f,fd,F.ok S len (hbody f),.all b,F.kp,m⟩
end
theorem FunD.top {P:Program}{w:World}{K:PySem.W.Frag}{mg:Str->Option Value}{x y:Str}{st:Stmt}{fa:Addr}{k:Nat}{sp:Sp}{N:List Str}{R:Heap->Prop}(F:FunD K mg x st [y])(hm:mg x=some (.ref fa))(S:FnScope N [y] (ad st))(len:∀vs H Q E,sp vs H Q E->vs.length=1)
  (hbody:∀base,R base->∀(f:Addr) (cdv:Value) (A:Around) (outer:List Env) (s:Shared) (H:Hp) (vs:List V) (Q:VK) (E:XK),Room k (A.deeper (envOfC x (ad st) s.heap.objs.size f cdv))->sp vs H Q E →
   ∃t,PSs (iR rf P w K mg base N x (ad st) f cdv A outer s H E).nox (ah st) t/\t { nx:=fun _ H'=>Q .non H',rt:=Q } (dn N vs) H) :
  ∃fd:FuncData,(∀(s:Shared) (u:Value),BindsTo s fd ⟨[u],[]⟩ [(y,u)])/\∀base:Heap,R base->FnOk P w K mg base rf (k+1) fa fd [y] sp:=by
 obtain⟨f,fd,F,b,m⟩:=F
 rw[hm] at m
 cases m
 exact⟨fd,fun s u=>.of_eq (b [u] rfl),fun base hb=>F.ok S len (hbody base hb fa)⟩
section
variable {X:Cx}{k j:Nat}{ps:List Str}{sp:Sp}{x:Str}{p pos:Pos}{e:Expr}{es:List Expr}{t:TA}
theorem pH (d:Def X.prog X.w X.K X.mg X.base j x ps sp)(hr:Room k X.A)(ha:PA X (e::es) t)(hj:j≤k:=by decide)(hg:Gl X x:=by rfl)(hdb:(x==("__debug__" : Str))=false:=by decide)(he:starEach (e::es) X.env=(false,eval e X.env)::starEach es X.env:=by rfl)
  (hpl:(backTo pos (starEach es X.env)).any (·.1)=false:=by rfl):PE X (.Call (.Name x p) (e::es) [] pos) (eI sp [] E0 t):=by
 obtain⟨f,fd,F,b,kp,m⟩:=d
 exact Ca F (hr.mono hj) hg m kp b .nil xr ha hdb he hpl
theorem vo (d:Def X.prog X.w X.K X.mg X.base j x ps sp)(hr:Room k X.A)(hj:j≤k:=by decide)(hg:Gl X x:=by rfl)(hdb:(x==("__debug__" : Str))=false:=by decide):PE X (.Call (.Name x p) [] [] pos) (eI sp [] E0 rV):=by
 obtain⟨f,fd,F,b,kp,m⟩:=d
 exact wO F (hr.mono hj) hg m kp b .nil xr hdb
end
section
variable {X:Cx}{scope:Scope}{tg iter elt:Expr}{ifs:List Expr}{pos spos px:Pos}{g:TG}{tc:TT}{te:TE}{wi:TI}
theorem uc (N':List Str)(fm:List (Option Nat))(hi:PI X tg iter wi)(hg:∀C s H ex,PG (X.blk scope N' C s H ex) tg g)(ht:∀C s H ex,PIf (X.blk scope N' C s H ex) ifs tc)(he:∀C s H ex,PE (X.blk scope N' C s H ex) elt te)(hk:nG fm g)
  (hB:iG scope.kind scope.names X.env.kindOf X.N N' fm=true:=by rfl) (hc:X.calm=true:=by rfl) (hs:∀x,foldedSetIterable iter X.env x=pure x:=by intro _;rfl):PE X (.ListComp elt [⟨tg,iter,ifs,0⟩] scope pos) (fD fm wi g tc te):=
 C4 (zD hB) hc hi hg hk ht he hs
theorem qW {i:Nat}{x:Str}(N':List Str)(fm:List (Option Nat))(hN:X.N.Nodup)(hi:PI X tg iter wi)(hg:∀C s H ex,PG (X.blk scope N' C s H ex) tg g)(ht:∀C s H ex,PIf (X.blk scope N' C s H ex) ifs tc)(he:∀C s H ex,PE (X.blk scope N' C s H ex) elt te)(hk:nG fm g)
  (hi':X.N[i]?=some x:=by rfl) (hx:X.env.kindOf x=some .local:=by rfl)
  (hB:iG scope.kind scope.names X.env.kindOf X.N N' fm=true:=by rfl) (hc:X.calm=true:=by rfl) (hsw:swapsWith (.ListComp elt [⟨tg,iter,ifs,0⟩] scope pos) (some (.Name x px)) spos.line X.env=pure true:=by rfl)
  (hs:∀x,foldedSetIterable iter X.env x=pure x:=by intro _;rfl):PS X (.Assign [.Name x px] (.ListComp elt [⟨tg,iter,ifs,0⟩] scope pos) spos) (fU (fD fm wi g tc te) (dc i)):=
 rh hN hi' hx (zD hB) hc hi hg hk ht he hsw hs
end
theorem aq {K:PySem.W.Frag}{mg:Str->Option Value}{x:Str}{st:Stmt}{f:Addr}{oc:Value}{od an:Option Addr}{osl:Array (Option Value)}{kV doc pm cdv ct:Value}{ps:List Str}(l:K.lookup f=some ⟨oc,od,.func (PySem.W.fnOf x x (am st) (ah st) (ad st) .none kV doc pm an cdv ct),osl⟩)
  (c:PySem.W.codeIn K cdv x=true) (k:PySem.W.keepIn K (.ref f)=true) (m:mg x=some (.ref f))
  (h:∀(kV doc pm:Value) (an:Option Addr) (cdv ct:Value) (us:List Value),us.length=ps.length->bindArgs (PySem.W.fnOf x x (am st) (ah st) (ad st) .none kV doc pm an cdv ct) ⟨us,[]⟩=pure (ps.zip us)):FunD K mg x st ps:=
 ⟨f,_,IK l c k,h kV doc pm an cdv ct,m⟩
noncomputable def pO (H:Hp):V->Option (List V)
 |.ref a=>match H a with
  |some (.tup xs)=>some xs
  |_=>none
 |_=>none
noncomputable def eF (H:Hp):V->Option (List V)
 |.ref a=>match H a with
  |some (.lst xs)=>some xs
  |_=>none
 |_=>none
section
variable {X:Cx}{x:Str}{pos:Pos}
theorem El {n:String}(hm:X.mg x=none)(hv:bootBuiltins x=some (.type n))(hg:Gl X x:=by rfl)(hn:x ≠ "__name__":=by decide)(hd:(x==("__debug__" : Str))=false:=by decide):PE X (.Name x pos) (tC (.ty n)):=BD hg hm hv rfl hn hd
theorem IW {i:Int}(h:∃t,X.mg x=some (.int i t))(hg:Gl X x:=by rfl)(hd:(x==("__debug__" : Str))=false:=by decide):PE X (.Name x pos) (tC (.int i)):=by
 obtain⟨t,h⟩:=h
 exact iW hg h ⟨t,rfl⟩ hd
end
theorem GL:bootBuiltins "len" = some (.builtin "len"):=by decide +kernel
theorem Ew:bootBuiltins "abs" = some (.builtin "abs"):=by decide +kernel
theorem ye:bootBuiltins "max" = some (.builtin "max"):=by decide +kernel
theorem yi:bootBuiltins "min" = some (.builtin "min"):=by decide +kernel
theorem IN:bootBuiltins "all" = some (.builtin "all"):=by decide +kernel
theorem FN:bootBuiltins "any" = some (.builtin "any"):=by decide +kernel
theorem ij:bootBuiltins "isinstance" = some (.builtin "isinstance"):=by decide +kernel
theorem m5:bootBuiltins "sorted" = some (.builtin "sorted"):=by decide +kernel
theorem zJ:bootBuiltins "int" = some (.type "int"):=by decide +kernel
theorem Dh:bootBuiltins "bool" = some (.type "bool"):=by decide +kernel
theorem yE:bootBuiltins "str" = some (.type "str"):=by decide +kernel
theorem oo:bootBuiltins "list" = some (.type "list"):=by decide +kernel
theorem kJ:bootBuiltins "tuple" = some (.type "tuple"):=by decide +kernel
theorem Bm:bootBuiltins "dict" = some (.type "dict"):=by decide +kernel
theorem yb:bootBuiltins "range" = some (.type "range"):=by decide +kernel
end L2
end
section
namespace L2
open PySem PySem.Spec PyProof.Rows
section
variable {X:Cx}{K:PySem.W.Frag}(h:X.K=K)
include h
theorem wN:cO X (.builtin "isinstance") (fun xs H Q=>∃x n t b,xs=[x,.ty n]/\TyOf K H x t/\PySem.W.kitOne K t (.type n)=some b/\Q (.bl b) H):=by subst h;exact jH
end
theorem HH {CX:vN}{P:Program}{w:World}{K:PySem.W.Frag}{mg:Str->Option Value}{base:Heap}{N:List Str}{qual:Str}{scope:Scope}{f:Addr}{cd:Value}{A:Around}{outer:List Env}{s:Shared}{H:Hp}{E:XK}:(iR CX P w K mg base N qual scope f cd A outer s H E).K=K:=rfl
theorem Mf {X:Cx}{scope:Scope}{N':List Str}{C:Addr}{s:Shared}{H:Hp}{ex:List Addr}:(X.blk scope N' C s H ex).K=X.K:=rfl
noncomputable def NS (e:Expr):Prop:=∀(es:List Expr) (env:Env),starEach (e::es) env=(false,eval e env)::starEach es env
theorem oS {k p}:NS (.Name k p):=fun _ _=>rfl
theorem fj {X:Cx}{e:Expr}{es:List Expr}{te:TE}{t:TA}(h:NS e)(ha:PE X e te)(hr:PA X es t):PA X (e::es) (jO te t):=AC ha hr (h es X.env)
end L2
end
section
namespace L2
open PySem PySem.Spec PyProof.Rows
inductive TabEs (w:World):List DictEntry->List (Str×Addr)->Prop where
 |nil:TabEs w [] []
 |cons {x:Str} {t:Tok} {f:Addr} {es:List DictEntry} {kvs:List (Str×Addr)}:TabEs w es kvs->TabEs w (⟨PyData.keyHash w.params x,.str x t,.ref f⟩::es) ((x,f)::kvs)
structure Tab (w:World)(K:PySem.W.Frag)(a:Addr)(kvs:List (Str×Addr)):Prop where
 sys:(a==sysModules)=false
 nd:(kvs.map (·.1)).Nodup
 it:∃(es:Array DictEntry) (ep:Nat),K.lookup a=some ⟨.type "dict",none,.dict es ep,#[]⟩/\TabEs w es.toList kvs
noncomputable def sA (kvs:List (Str×Addr)):List (gd×Value):=kvs.map fun p=>(.inr p.1,.ref p.2)
theorem TabEs.ok {P:Program}{w:World}:∀{es:List DictEntry} {kvs:List (Str×Addr)},TabEs w es kvs->(∀e∈es,∃k,(cb P w).is k e.key=true/\e.hash=(cb P w).hash k)/\Pairs (cb P w) es (sA kvs)
 |_,_,.nil=>⟨fun _ h=>(by cases h),.nil⟩
 |_,_,@TabEs.cons _ x t f es kvs r=>by
  obtain⟨a,b⟩:=r.ok (P:=P)
  refine⟨fun e he=>?_,.cons (dN P w x t) rfl b⟩
  rcases List.mem_cons.mp he with rfl|he
  ·exact⟨.inr x,dN P w x t,rfl⟩
  ·exact a e he
theorem Tab.dict {w:World}{K:PySem.W.Frag}{a:Addr}{kvs:List (Str×Addr)}{P:Program}{h:Heap}(T:Tab w K a kvs)(X:K.In h):h.DictOf (cb P w) a (sA kvs):=by
 obtain⟨s,nd,es,ep,l,r⟩:=T
 obtain⟨a1,a2⟩:=r.ok (P:=P)
 refine⟨_,es,ep,X a _ l,⟨rfl,rfl,rfl⟩,rfl,fun e he=>a1 e (Array.mem_toList_iff.mpr he),a2,?_⟩
 have:(sA kvs).map (·.1)=(kvs.map (·.1)).map (Sum.inr:Str->gd):=by simp[sA]
 rw[this]
 exact nd.map _ fun _ _ ne e=>ne (Sum.inr.inj e)
noncomputable def fR (kvs:List (Str×Addr))(x:Str):Option Addr:=(kvs.find? fun p=>decide (p.1=x)).map (·.2)
theorem AO (kvs:List (Str×Addr))(x:Str):valueAt (sA kvs) (.inr x)=(fR kvs x).map Value.ref:=by
 induction kvs with
 |nil=>rfl
 |cons p t ih=>
  by_cases h:p.1=x
  ·simp[valueAt,sA,fR,h]
  ·have h':¬((Sum.inr p.1:gd)=Sum.inr x):=fun e=>h (Sum.inr.inj e)
   simp only[valueAt,sA,fR,List.map_cons,List.find?_cons,decide_eq_false h,decide_eq_false h'] at ih ⊢
   exact ih
section
variable {X:Cx}{a:Addr}{kvs:List (Str×Addr)}{o i:Expr}{to ti:TE}{pos:Pos}
noncomputable def Fm (kvs:List (Str×Addr))(a:Addr)(ti to:TE):TE:=fun σ H Q=>ti σ H fun y H1=>to σ H1 fun x H2=>∃n,x=.ref a/\y=.str n/\Q (.bl (fR kvs n).isSome) H2
theorem IQ (T:Tab X.w X.K a kvs)(hi:PE X i ti)(ho:PE X o to):PC X .In i o (Fm kvs a ti to):=by
 intro pins s σ H Q I h
 refine bv (hi pins s σ H _ I h) fun iv s1 ⟨y,H1,I1,ry,q1⟩=>bv (ho pins s1 σ H1 _ I1 q1) fun u s2 ⟨x,H2,I2,rx,n,ex,ey,q2⟩=>?_
 subst ex ey
 obtain rfl:u=Value.ref a:=rx
 have d:=T.dict (P:=X.prog) I2.kIn
 refine wpAny_in_of (Dz (k:=.inr n) ry) T.sys d.mapOf ?_
 rw[AO,Option.isSome_map]
 exact⟨.bl _,H2,I2.tok _,rfl,q2⟩
end
noncomputable def wV (P:Program)(w:World)(K:PySem.W.Frag)(mg:Str->Option Value)(base:Heap)(k:Nat)(f:Addr)(ps:List Str)(sp:Sp):Prop:=
 ∃fd,FnOk P w K mg base rf k f fd ps sp/\Binds K fd ps []/\PySem.W.keepIn K (.ref f)=true
section
variable {X:Cx}{k j:Nat}{ps:List Str}{D:Addr->Sp->Prop}{x:Str}{p pos:Pos}{e:Expr}{es:List Expr}{t:TA}{i:Nat}
noncomputable def Fq (i:Nat)(D:Addr->Sp->Prop)(t:TA):TE:=fun σ H Q=>∃f sp,σ[i]?=some (some (.ref f))/\D f sp/\t σ H fun vs H1=>sp vs H1 Q E0
theorem zQ (d:∀f sp,D f sp->wV X.prog X.w X.K X.mg X.base j f ps sp)(hr:Room k X.A)(hN:X.N[i]?=some x)(hv:D7 X.env.scope x)(ha:PA X (e::es) t)(hj:j≤k:=by decide)(hdb:(x==("__debug__" : Str))=false:=by decide)(hcd:(x==("__classdict__" : Str))=false:=by decide)
  (he:starEach (e::es) X.env=(false,eval e X.env)::starEach es X.env:=by rfl) (hpl:(backTo pos (starEach es X.env)).any (·.1)=false:=by rfl):PE X (.Call (.Name x p) (e::es) [] pos) (Fq i D t):=by
 intro pins s σ H Q I h
 obtain⟨f,sp,hf,hok,h⟩:=h
 obtain⟨fd,F,b,kp⟩:=d f sp hok
 refine wpAny_Call_Name_kw (bv (sN (pos:=p) hN hv hdb hcd pins s σ H (fun v H'=>v=.ref f/\H'=H) I ⟨_,hf,rfl,rfl⟩) fun u s1 ⟨v,H1,I1,r,e1,e2⟩=>?_)
 subst e1 e2
 obtain rfl:u=Value.ref f:=r
 refine PySem.W.callWith_K (h₀:=X.base) I1.ok.mod.kin kp (bv (ha pos pins s1 σ H1 _ I1 h) fun us s2 ⟨vs,H2,I2,r,q⟩=>⟨I2.kIn,?_⟩) he hpl
 exact sE F (hr.mono hj) b .nil xr I2 r (by rw[List.append_nil];exact q)
end
end L2
end
section
namespace L2
open PySem PySem.Spec PyProof.Rows
section
variable {X:Cx}{pins:List (Addr×Obj)}{σ:St}{H:Hp}{s:Shared}{h':Heap}
theorem Inv.turned2 {t':Nat}{e it:Addr}(I:Inv X pins σ H s)(k:∀b o,b≠e->b≠it->s.heap.get? b=some o->h'.get? b=some o)(f:∀b∈[e,it],iS X pins H b):Inv X pins σ H { s with heap:=h',toks:=t' }:=by
 have ne:∀b u,H b=some u->b≠e/\b≠it:=fun b u q=>⟨fun z=>(by rw[z,(f e (by simp)).1] at q;cases q),fun z=>(by rw[z,(f it (by simp)).1] at q;cases q)⟩
 have kk:∀b o,b∉[e,it]->s.heap.get? b=some o->h'.get? b=some o:=fun b o hb q=>k b o (fun z=>hb (by simp[z])) (fun z=>hb (by simp[z])) q
 refine I.step (g':=s.gens) (d':=s.drawn) (ch:=[e,it]) (fun b hb=>?_) (fun b o _ _ hc q _=>kk b o hc q) (fun b o _ _ hc q _=>⟨o.slots,kk b o hc q⟩) (fun _ _ _ _ n=>n)
  (fun b o hc q=>⟨o,kk b o hc q⟩) (fun _ _ q=>q) (fun _ _ _ q=>q) (fun b ps q=>⟨#[],by rw[q];simp⟩) (fun m hm=>?_) (fun b u q=>?_) I.bare
 ·obtain⟨f0,f1,f2,f3,f4,f5⟩:=f b hb
  exact⟨f3,f1,f4,f5⟩
 ·obtain⟨o,es,ep,ho,r⟩:=hm
  exact⟨o,es,ep,k _ o (Ne.symm (f e (by simp)).2.1) (Ne.symm (f it (by simp)).2.1) ho,r⟩
 ·refine (I.hok b u q).stay (fun c v hc g=>?_) (fun _ g=>g) fun _ _ g=>g
  rcases hc with z|z
  ·subst z;exact k _ v (ne _ u q).1 (ne _ u q).2 g
  ·exact k c v (ne c _ z).1 (ne c _ z).2 g
end
noncomputable def OZ (K:PySem.W.Frag)(a:Addr):It:=
 ⟨fun i H=>∃xs x,SqL K H a xs/\xs[i]?=some x,fun i H v H'=>∃p x,v=.ref p/\H p=none/\H'=upd H p (.tup [.int i,x])/\∀xs,SqL K H a xs->xs[i]?=some x,fun i H=>∃xs,SqL K H a xs/\xs.length≤i⟩
theorem uN {P:Program}{w:World}{K:PySem.W.Frag}{elts:List Expr}{x1}{pos:Pos}(a e it:Addr)(hne:e≠it):Turn P w K (.Tuple elts x1 pos) (OZ K a) [e,it] e (fun i h=>(∃old,IsEnum h e it i old)/\h.IsListIter it a i) where
 mem:=by simp
 obj:=fun i h st b hb=>by
  obtain⟨⟨old,he⟩,o,e',c,d⟩:=st
  rcases List.mem_cons.mp hb with z|z
  ·subst z
   exact⟨_,he,fun v q=>by
    have q':Data.fields _=Data.cell v:=q
    cases q'⟩
  ·have e2:b=it:=by simpa using z
   subst e2
   exact⟨o,e',fun v q=>by rw[d] at q;cases q⟩
 keep:=fun i h h' st k=>⟨⟨st.1.choose,k e (by simp) _ st.1.choose_spec⟩,st.2.at fun o q=>k it (by simp) o q⟩
 item:=by
  intro X hP hw hK hc i pins s σ H E I hf st hg
  subst hP hw hK
  obtain⟨xs,x,hq,hx⟩:=hg
  obtain⟨its,rv,p,hz⟩:=I.list hq
  obtain⟨u,hu,ru⟩:=rv.get hx
  obtain⟨⟨old,he⟩,hit⟩:=st
  refine wpAny_pyNext_enum_item he hit p.isList (x:=u) (by simpa using hu) hne fun h' out lit tup sz kp=>⟨_,rfl,?_⟩
  refine wpAny_letOwnedTupleGo_enum out fun h2 he2 sb=>?_
  have fr:H s.heap.objs.size=none:=I.hok.fresh (Nat.le_refl _)
  have I1:Inv X pins σ (upd H s.heap.objs.size (.tup [.int i,x])) { s with heap:=s.heap.push { cls:=.type "tuple",data:=.seq #[.int i s.toks,u] },toks:=s.toks }:=by
   refine I.laid (t':=s.toks) (fun b u e=>Heap.get?_push_of_some _ e) (Nat.le_refl _) ?_
   exact⟨by simp;decide,[.int i s.toks,u],.cons ⟨_,rfl⟩ (.cons ru .nil),⟨_,Heap.get?_push_size _ rfl,rfl,_,rfl⟩⟩
  have ltE:e<s.heap.objs.size:=Heap.lt_size he
  have Ep:it<s.heap.objs.size:=by obtain⟨o,q,_⟩:=hit;exact Heap.lt_size q
  have f1:∀b∈[e,it],iS X pins (upd H s.heap.objs.size (.tup [.int i,x])) b:=fun b hb=>by
   have hb':b≠s.heap.objs.size:=by
    rcases List.mem_cons.mp hb with z|z
    ·rw[z];exact Nat.ne_of_lt ltE
    ·rw[show b=it by simpa using z];exact Nat.ne_of_lt Ep
   exact⟨by rw[av hb'];exact (hf b hb).1,(hf b hb).2⟩
  have I2:Inv X pins σ (upd H s.heap.objs.size (.tup [.int i,x])) { s with heap:=h2,toks:=s.toks+1 }:=by
   refine Inv.turned2 (e:=e) (it:=it) (t':=s.toks+1) (h':=h2) (s:={ s with heap:=s.heap.push { cls:=.type "tuple",data:=.seq #[.int i s.toks,u] },toks:=s.toks }) I1 (fun b o n1 n2 q=>?_) f1
   rw[sb.2 b n1]
   rcases Heap.get?_push_cases q with ⟨z1,z2⟩|z
   ·subst z1 z2;exact tup
   ·exact kp b o n1 n2 z
  refine⟨.ref s.heap.objs.size,_,I2,rfl,⟨_,x,rfl,fr,rfl,fun ys hy=>by rw[I.list_inj hy hq];exact hx⟩,⟨⟨_,he2⟩,?_⟩,fun b hb=>(f1 b hb).1⟩
  exact lit.at fun o q=>(sb.2 it (Ne.symm hne)).trans q
 done:=by
  intro X hP hw hK hc i pins s σ H E I hf st hg
  subst hP hw hK
  obtain⟨xs,hq,hx⟩:=hg
  obtain⟨its,rv,p,hz⟩:=I.list hq
  obtain⟨⟨old,he⟩,hit⟩:=st
  obtain⟨f0,f1,f2,f3,f4,f5⟩:=hf it (by simp)
  have hl:=rv.length
  exact wpAny_pyNext_enum_end (I.ok.hd hc) he hit p.isList (by simp;omega) fun h' eb=>⟨rfl,I.turned (t':=s.toks) (fun b o hb e=>eb b o hb e) f0 f1 f3 f4 f5⟩
 self:=fun _ _ _ _ _ st h=>wpAny_pyIter_enum st.1.choose_spec h
noncomputable def wI (K:PySem.W.Frag)(ta:TA):TI:=fun σ H R=>ta σ H fun vs H1=>∃a,vs=[.ref a]/\(∃xs,SqL K H1 a xs)/\R (OZ K a) H1
theorem jf:bootBuiltins "enumerate" = some (.type "enumerate"):=by decide +kernel
section
variable {X:Cx}{elts:List Expr}{tpos:Pos}
theorem A5 {x1}{a:Expr}{ta:TA}{p pos:Pos}(hg:Gl X "enumerate")(hm:X.mg "enumerate" = none)(ha:PA X [a] ta)(hs:starEach [a] X.env=[(false,eval a X.env)]:=by rfl):PI X (.Tuple elts x1 tpos) (.Call (.Name "enumerate" p) [a] [] pos) (wI X.K ta):=by
 intro pins s σ H R I h
 refine Call_ (gy I hg hm jf (PyProof.Rows.callWith_type1 (bv (ha pos pins s σ H _ I h) fun us s1 ⟨vs,H1,I1,r1,q1⟩=>?_) hs rfl))
 obtain⟨l,e,⟨xs,hq⟩,q⟩:=q1
 subst e
 cases r1 with
 |cons r rr=>
  cases rr
  cases r
  obtain⟨its,rv,pl,hz⟩:=I1.list hq
  refine call_enumerate_list pl.isList fun h' he hit sz kp=>?_
  refine wpAny_pyIter_enum he ?_
  have I2:Inv X pins σ H1 { s1 with heap:=h',toks:=s1.toks }:=I1.kept kp
  refine⟨s1.heap.objs.size+1,[s1.heap.objs.size+1,s1.heap.objs.size],_,_,H1,rfl,I2,uN l _ _ (Nat.succ_ne_self _),⟨⟨_,he⟩,hit⟩,fun b hb=>?_,q⟩
  have hb':s1.heap.objs.size≤b:=by
   rcases List.mem_cons.mp hb with z|z
   ·rw[z];exact Nat.le_succ _
   ·have e:b=s1.heap.objs.size:=by simpa using z
    rw[e];exact Nat.le_refl _
  exact I1.fpOk hb' (I1.hok.fresh hb')
end
end L2
end
section
namespace L2
open PySem PySem.Spec PyProof.Rows PySem.SeqAt
end L2
end
section
namespace L2
open PySem PySem.Spec PyProof.Rows PySem.W
noncomputable def sC {α:Type}(c:Nat->Nat->Bool):KasT α->α
 |.ret a=>a
 |.ask i j k=>sC c (k (c i j))
theorem xY {α:Type}{n:Nat}{P:α->Prop}{cmp:Nat->Nat->(Bool->Shared->Prop)->Shared->Prop}{Q:α->Shared->Prop}{s:Shared}(lt:Nat->Nat->Bool)(hc:∀i j C,i<n->j<n->C (lt i j) s->cmp i j C s) :
  ∀{t:KasT α},Leaf n P t->(P (sC lt t)->Q (sC lt t) s)->t.kasWp cmp Q s
 |.ret a,h,hq=>hq h
 |.ask i j k,h,hq=>hc i j _ h.1 h.2.1 (xY lt hc (h.2.2 (lt i j)) hq)
theorem p8 {α:Type}{n:Nat}{P:α->Prop}(lt:Nat->Nat->Bool):∀{t:KasT α},Leaf n P t->P (sC lt t)
 |.ret a,h=>h
 |.ask i j k,h=>p8 (t:=k (lt i j)) lt (h.2.2 (lt i j))
noncomputable def Dk (fin:Bool):List (Int×Int)->Bool
 |[]=>fin
 |(x,y)::r=>if x=y then Dk fin r else decide (x<y)
noncomputable def Ep (xs ys:List Int):Bool:=Dk (decide (xs.length<ys.length)) (xs.zip ys)
noncomputable def lD (ks:List (List Int)):List Nat:=if ks.length<2 then List.range ks.length else (sC (fun i j=>Ep (ks.getD i []) (ks.getD j [])) (kas_sort ks.length)).toList
theorem uq (ks:List (List Int)):(lD ks).Perm (List.range ks.length):=by
 unfold lD
 split
 ·exact .refl _
 ·exact p8 _ (nA (by omega))
inductive TupsIn (H:Hp):List V->List (List Int)->Prop where
 |nil:TupsIn H [] []
 |cons {a:Addr} {is:List Int} {ts:List V} {ks:List (List Int)}:H a=some (.tup (is.map V.int))->is≠[]->TupsIn H ts ks->TupsIn H (.ref a::ts) (is::ks)
theorem TupsIn.length {H:Hp}{ts:List V}{ks:List (List Int)}(h:TupsIn H ts ks):ts.length=ks.length:=by
 induction h with
 |nil=>rfl
 |cons _ _ _ ih=>rw[List.length_cons,List.length_cons,ih]
theorem TupsIn.get {H:Hp}{ts:List V}{ks:List (List Int)}(h:TupsIn H ts ks):∀{i:Nat},i<ts.length->∃a,ts.getD i .non=.ref a/\H a=some (.tup ((ks.getD i []).map V.int))/\ks.getD i []≠[]:=by
 induction h with
 |nil=>intro i hi;exact absurd hi (Nat.not_lt_zero _)
 | @cons a is ts ks h1 h2 h3 ih=>
  intro i hi
  cases i with
  |zero=>exact⟨a,rfl,h1,h2⟩
  |succ i=>exact ih (by simpa using hi)
section
variable {X:Cx}{pins:List (Addr×Obj)}{σ:St}{H:Hp}{s:Shared}
theorem zd (I:Inv X pins σ H s){a:Addr}{is:List Int}(h:H a=some (.tup (is.map V.int))):a≠X.env.locals/\∃o n vs,Vals (is.map V.int) vs/\s.heap.get? a=some o/\o.cls=.type "tuple"/\o.data=.seq vs.toArray n:=by
 refine⟨fun z=>?_,?_⟩
 ·rw[z,I.free] at h;cases h
 ·obtain⟨_,its,r,o,e,c,n,d⟩:=(show ObjOk X.prog X.w H s.heap a (.tup (is.map V.int)) from I.hok a _ h)
  exact⟨o,n,its,r,e,c,d⟩
theorem BH (I:Inv X pins σ H s){h':Heap}(kept:∀b o,b≠X.env.locals->s.heap.get? b=some o->h'.get? b=some o):∀{ts:List V} {ks:List (List Int)} {its:List Value},Vals ts its->TupsIn H ts ks →
  ∃fs:List Value,KatTups h' its fs/\fs.length=its.length/\∀v∈fs,∃i t,v=Value.int i t:=by
 intro ts ks its r hp
 induction hp generalizing its with
 |nil=>cases r;exact⟨[],KatTups.nil,rfl,fun _ z=>nomatch z⟩
 | @cons a is ts ks ha ne hp ih=>
  cases r with
  |cons r1 r2=>
   obtain⟨fs,h1,h2,h3⟩:=ih r2
   cases r1
   obtain⟨nl,o,n,vs,rv,eo,ec,ed⟩:=zd I ha
   cases is with
   |nil=>exact absurd rfl ne
   |cons i is=>
    cases rv with
    |cons q1 q2=>
     obtain⟨tk,rfl⟩:=q1
     refine⟨.int i tk::fs,KatTups.cons (kept a o nl eo) ec ed rfl h1,by rw[List.length_cons,List.length_cons,h2],fun v hv=>?_⟩
     rcases List.mem_cons.mp hv with rfl|hv
     ·exact⟨i,tk,rfl⟩
     ·exact h3 v hv
theorem xU {prog:Program}{w:World}{A:Around}{fin:Bool}{C:Bool->Shared->Prop}{s':Shared}:∀{xs ys:List Int} {us vs:List Value} {k:Nat},Vals (xs.map V.int) us->Vals (ys.map V.int) vs->C (Dk fin (xs.zip ys)) s'->KatLex prog w A true fin C (us.zip vs) k s'
 |[],ys,us,vs,k,r1,r2,h=>by cases r1;exact kat_nil h
 |x::xs,[],us,vs,k,r1,r2,h=>by cases r2;cases us<;>exact kat_nil h
 |x::xs,y::ys,us,vs,k,r1,r2,h=>by
  cases r1 with
  |cons a1 r1=>
   cases r2 with
   |cons a2 r2=>
    obtain⟨t,rfl⟩:=a1
    obtain⟨u,rfl⟩:=a2
    rw[List.zip_cons_cons] at h ⊢
    rw[Dk] at h
    refine kat_cons (wpAny_eqBool_int ?_)
    by_cases e:x=y
    ·rw[if_pos e] at h
     rw[show (x==y)=true by rw[e];exact beq_self_eq_true _]
     exact kat_yes (xU r1 r2 h)
    ·rw[if_neg e] at h
     rw[show (x==y)=false from beq_eq_false_iff_ne.mpr e]
     refine kat_no ?_
     by_cases hk:k=0
     ·subst hk;exact oneLt_int h
     ·rw[show (true&&k==0)=false by simp[hk]]
      exact kat_one _ _ (lt_int h)
end
theorem oQ {X:Cx}:cO X (.builtin "sorted") (fun xs H Q=>∃p ts ks,xs=[.ref p]/\SqL X.K H p ts/\ts.length<64/\TupsIn H ts ks/\∀l,H l=none->Q (.ref l) (upd H l (.lst ((lD ks).map fun i=>ts.getD i .non)))):=by
 intro pins s σ H xs us Q I r h
 obtain⟨p,ts,ks,rfl,hq,h64,hp,q⟩:=h
 obtain⟨u,rfl,rx⟩:=dR r
 cases rx
 obtain⟨its,rv,pl,hz⟩:=I.list hq
 have hl:=rv.length
 have hk:=hp.length
 by_cases h2:its.length<2
 ·refine nQ pl.isList h2 ?_
  obtain⟨e,he⟩:=sortedAll_at s.heap its its.toArray
  have es:(lD ks).map (fun i=>ts.getD i .non)=ts:=by
   unfold lD
   rw[if_pos (by omega),←hk]
   exact gf _ _
  have q':=q (s.heap.objs.size+1) (I.hok.fresh (Nat.le_succ _))
  rw[es] at q'
  exact⟨.ref (s.heap.objs.size+1),_,I.laid (t':=s.toks) (fun b o z=>sortedAll_old z) (Nat.le_succ _) (show ObjOk X.prog X.w _ _ _ (.lst ts) from⟨hz,its,e,rv,he⟩),rfl,q'⟩
 ·obtain⟨m,F0⟩:=I.fr
  refine kat_sorted F0 xq pl.isList (by omega) (by omega) fun D e1 h' F' N' hlt=>?_
  have nD:=N' (D,seqObj "list" #[] e1) List.mem_cons_self
  have hD:s.heap.get? D=none:=by
   cases e:s.heap.get? D with
   |none=>rfl
   |some o=>exact absurd (hlt (D,o) (gm nD.2.1 nD.2.2 e)) (Nat.lt_irrefl _)
  have kept:∀b o,b≠X.env.locals->s.heap.get? b=some o->h'.get? b=some o:=fun b o hb e=>by
   cases z:X.base.get? b with
   |some v=>
    have y:=I.bk b v z
    rw[e] at y;cases y
    exact F'.keep b _ z
   |none=>exact (N' (b,o) (List.mem_cons_of_mem _ (gm hb z e))).1
  obtain⟨fs,k1,k2,k3⟩:=BH I kept rv hp
  refine kat_kind (s:={ s with heap:=h' }) k1 (by omega) (T:=.type "int") (fun v hv=>?_) (by decide) ?_
  ·obtain⟨i,t,rfl⟩:=k3 v hv
   exact Looks.of_pure rfl
  ·refine xY (n:=its.length) (P:=OfN its.length) (fun i j=>Ep (ks.getD i []) (ks.getD j [])) (fun i j C hi hj hC=>?_) (nA (by omega)) (fun hpm=>?_)
   ·have get:∀i,i<its.length->∃a o n vs,Vals ((ks.getD i []).map V.int) vs/\its.getD i Value.none=.ref a/\h'.get? a=some o/\o.data=.seq vs.toArray n:=fun i hi=>by
     have hi':i<ts.length:=by omega
     obtain⟨a,e,ha,_⟩:=hp.get hi'
     have hr:=ny rv (j:=i) (by simpa using hi)
     have e2:its.getD i Value.none=its.toArray[i]'(by simpa using hi):=by simp[hi]
     rw[e] at hr
     obtain⟨nl,o,n,vs,rvs,eo,ec,ed⟩:=zd I ha
     exact⟨a,o,n,vs,rvs,e2.trans hr,kept a o nl eo,ed⟩
    obtain⟨a,o,n,vs,rvs,g1,g2,g3⟩:=get i hi
    obtain⟨a',o',n',vs',rvs',g1',g2',g3'⟩:=get j hj
    show wpAny (model X.prog X.w) X.A.in1.in1 (keyLt' (tuples' (Value.type "int" != Value.type "tuple")) (its.getD i Value.none) (its.getD j Value.none)) C (fun _ _=>False) _
    rw[g1,g1',show (Value.type "int" != Value.type "tuple")=true by decide]
    refine kat_lt g2 g3 g2' g3' ?_
    have l1:=rvs.length
    have l2:=rvs'.length
    rw[List.length_map] at l1 l2
    refine xU rvs rvs' ?_
    have e9:decide (vs.toArray.size<vs'.toArray.size)=decide ((ks.getD i []).length<(ks.getD j []).length):=by rw[List.size_toArray,List.size_toArray,l1,l2]
    rw[e9]
    exact hC
   ·have eo:lD ks=(sC (fun i j=>Ep (ks.getD i []) (ks.getD j [])) (kas_sort its.length)).toList:=by
     unfold lD
     rw[if_neg (by omega),show ks.length=its.length by omega]
    generalize hpme:sC (fun i j=>Ep (ks.getD i []) (ks.getD j [])) (kas_sort its.length)=pm at hpm eo ⊢
    have hmem:∀i∈pm.toList,i<its.length:=fun i hi=>List.mem_range.mp (hpm.subset hi)
    have ry:Vals (pm.toList.map fun i=>ts.getD i .non) (pm.toList.map fun i=>its.getD i Value.none):=qS rv hmem
    have perm:(pm.toList.map fun i=>ts.getD i .non).Perm ts:=by
     have z:=hpm.map (fun i=>ts.getD i V.non)
     rw[←hl,gf] at z
     exact z
    refine KasFin.intro F' N' (.head fun _ z=>?_) fun h'' c F'' N''=>?_
    ·exact Nat.ne_of_lt (hlt _ z)
    ·obtain⟨I2,hHD⟩:=I.ledger F0 F'' N'' hD ry (by rw[perm.length_eq];exact hz)
     have q':=q D hHD
     rw[eo] at q'
     exact⟨.ref D,_,I2,rfl,q'⟩
end L2
end
section
namespace L2
open PySem PySem.Spec PyProof.Rows
theorem mD (its:List Value):slicePick its.toArray none none (some (-1))=its.reverse.toArray:=by
 have e:sliceBounds none none (some (-1)) its.toArray.size=((its.length:Int) - 1,-1,-1):=by simp[sliceBounds]
 have r:sliceRange ((its.length:Int) - 1) (-1) (-1)=(List.range its.length).map fun (k:Nat)=>(((its.length:Nat):Int) - 1+(-1) * (k:Int)).toNat:=by
  unfold sliceRange
  have c:(if (-1:Int) > 0 then (if (its.length:Int) - 1 < -1 then (-1 - ((its.length:Int) - 1) + -1 - 1) / -1 else 0) else (if (its.length:Int) - 1 > -1 then ((its.length:Int) - 1 - -1 - -1 - 1) / (- -1) else 0)).toNat=its.length:=by
   rw[if_neg (by decide)]
   by_cases h:(its.length:Int) - 1 > -1
   ·rw[if_pos h,show (- -1:Int)=1 by decide,Int.ediv_one];omega
   ·rw[if_neg h];omega
  simp only[c]
 unfold slicePick
 rw[e]
 show (List.filterMap _ (sliceRange ((its.length:Int) - 1) (-1) (-1))).toArray=_
 rw[r,List.filterMap_map,←HT.pick_rev]
 congr 2
 funext k
 show its.toArray[(((its.length:Nat):Int) - 1+(-1) * (k:Int)).toNat]?=_
 rw[Int.mul_comm]
noncomputable def LV (K:PySem.W.Frag)(te ts:TE):TE:=fun σ H Q=>te σ H fun x H1=>ts σ H1 fun y H2=>y=.int (-1)/\∃a xs,x=.ref a/\SqL K H2 a xs/\∀p,H2 p=none->Q (.ref p) (upd H2 p (.lst xs.reverse))
theorem Cz {X:Cx}{e st:Expr}{te ts:TE}{p2 pos:Pos}(he:PE X e te)(hst:PE X st ts):PE X (.Subscript e (.Slice none none (some st) p2) pos) (LV X.K te ts):=by
 intro pins s σ H Q I h
 refine Subscript_ (bv (he pins s σ H _ I h) fun v s1 ⟨x,H1,I1,r1,q1⟩=>?_)
 refine wpAny_Slice ?_
 rw[evalPart_none]
 refine wpAny_pure (wpAny_pure ?_)
 rw[evalPart_some]
 refine bv (hst pins s1 σ H1 _ I1 q1) fun vst s3 ⟨y,H3,I3,r3,ey,a,xs,ex,hx,q⟩=>?_
 subst ey ex
 obtain⟨t,rfl⟩:=r3
 cases r1
 have I4:Inv X pins σ H3 { s3 with heap:=s3.heap.push { cls:=.type "slice",data:=.fields #[.none,.none,.int (-1) t] } }:=I3.kept (t':=s3.toks) fun b ob q=>Heap.get?_push_of_some _ q
 show wpAny (model X.prog X.w) X.A (subscriptTail e (.Slice none none (some st) p2) (.ref a) (.ref s3.heap.objs.size)) (EP X pins σ Q) X.xe { s3 with heap:=s3.heap.push { cls:=.type "slice",data:=.fields #[.none,.none,.int (-1) t] } }
 obtain⟨its,r,ht,hz⟩:=I4.list hx
 have hlen:=r.length
 refine tail_any (ops:=[.ref a,.ref s3.heap.objs.size]) ht.isList.typeIs slot_list_getitem.lookup (wpAny_getItem_list_slice ht.isList (Heap.IsSliceOf.new ..) .none .none (.int _ _) (by simp) ?_ (by rw[List.size_toArray];omega)) (by with_unfolding_all rfl)
 rw[mD]
 refine⟨.ref _,_,I4.laid (t':=s3.toks) (o:=.lst xs.reverse) (fun b ob q=>Heap.get?_push_of_some _ q) (Nat.le_refl _) ?_,rfl,q _ (I4.hok.fresh (Nat.le_refl _))⟩
 exact⟨by rw[List.length_reverse];exact hz,_,0,r.reverse,Heap.get?_push_size _ rfl⟩
theorem iH:∀{ns:List Int} {its:List Value},Vals (ns.map V.int) its->IntsAre its ns
 |[],_,r=>by cases r;exact .nil
 |n::ns,_,r=>by
  cases r with
  |cons r1 r2=>
   obtain⟨t,rfl⟩:=r1
   exact .cons n t (iH r2)
theorem vi {X:Cx}(hc:X.calm=true):cO X (.builtin "max") (fun xs H Q=>∃(p:Addr) (ns:List Int),xs=[.ref p]/\SqL X.K H p (ns.map V.int)/\0<ns.length/\∀M,M∈ns->(∀a∈ns,a≤M)->Q (.int M) H):=by
 intro pins s σ H xs us Q I r h
 obtain⟨p,ns,rfl,hq,hne,q⟩:=h
 obtain⟨u,rfl,rx⟩:=dR r
 cases rx
 obtain⟨its,rv,pl,hz⟩:=I.list hq
 have hi:=iH rv
 obtain⟨ys,e⟩:=hi.allInts.items
 have hns:ns=ys.toList.map (·.1):=by rw[←hi.numsOf,←nums_intItems,←e]
 have hsz:0<ys.size:=by have h3:=hne;rw[hns,List.length_map,Array.length_toList] at h3;exact h3
 have hl:=pl.isList
 rw[e] at hl
 refine max_intList (I.ok.hd hc) hl hsz fun v h' tk hv hk=>?_
 obtain⟨t,rfl⟩:=intItems_at hv
 obtain⟨h1,h2⟩:=argBest_gt (numAt ys) (ys.size - 1)
 refine⟨.int _,H,I.kept (t':=tk) hk,⟨t,rfl⟩,q _ ?_ fun a ha=>?_⟩
 ·rw[hns,numAt_eq];exact getD_mem (by rw[List.length_map,Array.length_toList];omega)
 ·rw[hns] at ha
  obtain⟨j,hj,rfl⟩:=mem_getD ha
  rw[List.length_map,Array.length_toList] at hj
  rw[←numAt_eq];exact h2 j (by omega)
theorem vP {X:Cx}(hc:X.calm=true):cO X (.builtin "min") (fun xs H Q=>∃(p:Addr) (ns:List Int),xs=[.ref p]/\SqL X.K H p (ns.map V.int)/\0<ns.length/\∀M,M∈ns->(∀a∈ns,M≤a)->Q (.int M) H):=by
 intro pins s σ H xs us Q I r h
 obtain⟨p,ns,rfl,hq,hne,q⟩:=h
 obtain⟨u,rfl,rx⟩:=dR r
 cases rx
 obtain⟨its,rv,pl,hz⟩:=I.list hq
 have hi:=iH rv
 obtain⟨ys,e⟩:=hi.allInts.items
 have hns:ns=ys.toList.map (·.1):=by rw[←hi.numsOf,←nums_intItems,←e]
 have hsz:0<ys.size:=by have h3:=hne;rw[hns,List.length_map,Array.length_toList] at h3;exact h3
 have hl:=pl.isList
 rw[e] at hl
 refine min_intList (I.ok.hd hc) hl hsz fun v h' tk hv hk=>?_
 obtain⟨t,rfl⟩:=intItems_at hv
 obtain⟨h1,h2⟩:=argBest_lt (numAt ys) (ys.size - 1)
 refine⟨.int _,H,I.kept (t':=tk) hk,⟨t,rfl⟩,q _ ?_ fun a ha=>?_⟩
 ·rw[hns,numAt_eq];exact getD_mem (by rw[List.length_map,Array.length_toList];omega)
 ·rw[hns] at ha
  obtain⟨j,hj,rfl⟩:=mem_getD ha
  rw[List.length_map,Array.length_toList] at hj
  rw[←numAt_eq];exact h2 j (by omega)
theorem ut {X:Cx}(hc:X.calm=true):cO X (.builtin "sum") (fun xs H Q=>∃(p:Addr) (ns:List Int),xs=[.ref p]/\SqL X.K H p (ns.map V.int)/\Q (.int ns.sum) H):=by
 intro pins s σ H xs us Q I r h
 obtain⟨p,ns,rfl,hq,q⟩:=h
 obtain⟨u,rfl,rx⟩:=dR r
 cases rx
 obtain⟨its,rv,pl,hz⟩:=I.list hq
 have hi:=iH rv
 obtain⟨ys,e⟩:=hi.allInts.items
 have hns:ns=ys.toList.map (·.1):=by rw[←hi.numsOf,←nums_intItems,←e]
 have hl:=pl.isList
 rw[e] at hl
 refine sum_intListG (I.ok.hd hc) hl fun h' tk t' hk=>?_
 refine⟨.int ns.sum,H,I.kept (t':=tk) hk,⟨t',?_⟩,q⟩
 rw[preSum_eq,List.take_of_length_le (by simp),hns]
theorem wG {X:Cx}:Ky X (fun o i H Q=>∃p xs k v,o=.ref p/\i=.int k/\0≤k/\SqL X.K H p xs/\atI xs k=some v/\Q v H):=by
 intro pins s σ H o i ov iv Q I ro ri h
 obtain⟨p,xs,k,z,rfl,rfl,h0,hq,he,q⟩:=h
 cases ro
 obtain⟨t,rfl⟩:=ri
 obtain⟨its,r,pl,hz⟩:=I.list hq
 obtain⟨j,h1,h2,h3,h4,h5⟩:=j0 he
 obtain⟨w,ew,rw'⟩:=r.get h2
 have hl:=r.length
 have hn:=jC
 have hj:k.toNat=j:=by
  rw[seqIndex_of h0 h5] at h1
  exact Option.some.inj h1
 exact wpAny_getItem_list pl.isList h0 (by omega) (by rw[hj];simpa using ew) ⟨z,H,I,rw',q⟩
end L2
end
section
namespace L2
open PySem PySem.Spec PyProof.Rows
section
variable {prog:Program}{w:World}{A:Around}{E:Value->Shared->Prop}{s:Shared}
theorem Ey {it t:Addr}{i:Nat}{items:Array Value}{x:Value}{Q:Value->Shared->Prop}(hit:s.heap.IsTupleIter it t i)(ht:s.heap.IsTuple t items)(hx:items[i]?=some x)
  (hQ:∀h',h'.IsTupleIter it t (i+1)->Heap.SameBut it s.heap h'->Q x { s with heap:=h' }):wpAny (model prog w) A (Builtin.SmallTypes.nextOf (.ref it)) Q E s:=by
 have hT:=hit.typeIs
 obtain⟨o,ho,hc,hd⟩:=hit;obtain⟨ol,hol,_,nl,hdl⟩:=ht
 unfold Builtin.SmallTypes.nextOf
 refine wpAny_bind (wpAny_callSpecial?_slot (name:=Str.ofString "__next__") hT F.slot_tuple_iterator_next (wpAny_call_entry F.slot_tuple_iterator_next hT F.entry_tuple_iterator_next ?_ (F.args_tuple_iterator_next_1 _)))
 refine (?_:wpAny _ _ (field (.ref it) 0 >>= _) _ _ s);refine wpAny_bind (wpAny_field ho hd (x:=.ref t) rfl (?_:wpAny _ _ (if (Value.ref t==Value.none)=true then _ else _) _ _ s))
 rw[if_neg (show ¬((Value.ref t==Value.none)=true) from Bool.false_ne_true)];refine (?_:wpAny _ _ (field (.ref it) 1 >>= _) _ _ s);refine wpAny_bind (wpAny_field ho hd (x:=.int i 0) rfl (?_:wpAny _ _ (seqItems? (.ref t) >>= _) _ _ s));refine wpAny_bind (m:=seqItems? (.ref t)) (wpAny_seqItems hol hdl ?_);simp only[Int.toNat_natCast,hx]
 refine wpAny_bind (wpAny_setField ho hd (by simp) (wpAny_pure ⟨x,rfl,wpAny_pure (hQ _ ⟨_,Heap.get?_update_self _ ho (Obj.isFreed_of_fields (Obj.data_mapFields hd _)),(Obj.cls_mapFields ..).trans hc,by rw[Obj.data_mapFields hd];simp[rawInt]⟩ (Heap.SameBut.update ..))⟩))
theorem t4 {it t:Addr}{i:Nat}{items:Array Value}{Q:Value->Shared->Prop}(hh:A.handled=none)(hit:s.heap.IsTupleIter it t i)(ht:s.heap.IsTuple t items)(hx:items[i]?=none)
  (hE:∀h' e,Heap.ExtBut it s.heap h'->(∃o,h'.get? e=some o/\o.cls=.type "StopIteration")->E (.ref e) { s with heap:=h' }):wpAny (model prog w) A (Builtin.SmallTypes.nextOf (.ref it)) Q E s:=by
 have hT:=hit.typeIs
 obtain⟨o,ho,hc,hd⟩:=hit;obtain⟨ol,hol,_,nl,hdl⟩:=ht
 unfold Builtin.SmallTypes.nextOf
 refine wpAny_bind (wpAny_callSpecial?_slot (name:=Str.ofString "__next__") hT F.slot_tuple_iterator_next (wpAny_call_entry F.slot_tuple_iterator_next hT F.entry_tuple_iterator_next ?_ (F.args_tuple_iterator_next_1 _)))
 refine (?_:wpAny _ _ (field (.ref it) 0 >>= _) _ _ s);refine wpAny_bind (wpAny_field ho hd (x:=.ref t) rfl (?_:wpAny _ _ (if (Value.ref t==Value.none)=true then _ else _) _ _ s))
 rw[if_neg (show ¬((Value.ref t==Value.none)=true) from Bool.false_ne_true)];refine (?_:wpAny _ _ (field (.ref it) 1 >>= _) _ _ s);refine wpAny_bind (wpAny_field ho hd (x:=.int i 0) rfl (?_:wpAny _ _ (seqItems? (.ref t) >>= _) _ _ s));refine wpAny_bind (m:=seqItems? (.ref t)) (wpAny_seqItems hol hdl ?_);simp only[Int.toNat_natCast,hx]
 refine wpAny_bind (wpAny_rule (wpAny_bind (wpAny_setField ho hd (by simp) (?_:wpAny _ _ (newExc (.type "StopIteration") [] >>= _) _ _ _))))
 refine wpAny_bind ?_;simp only[newExc,newTuple];refine wpAny_bind (wpAny_newObj_type ?_ (by size_fits))
 refine wpAny_bind (m:=firstArgMember _ _) (wpAny_of_eq (a:=Value.none) (by first|rfl|(simp only[firstArgMember];rfl)) (wpAny_newObj_type ?_ (by size_fits)))
 simp only[raiseNew];refine wpAny_bind (wpAny_handled ?_);first|rw[show A.in1.handled=none from hh]|rw[hh]
 exact wpAny_bind (wpAny_pure (wpAny_throw (hE _ _ (((Heap.SameBut.update ..).extBut.push _).push _) ⟨_,Heap.get?_push_size _ rfl,rfl⟩)))
end
theorem oY {h h':Heap}{a t:Addr}{i:Nat}(x:h.IsTupleIter a t i)(k:∀o,h.get? a=some o->h'.get? a=some o):h'.IsTupleIter a t i:=let ⟨o,ho,r⟩:=x;⟨o,k o ho,r⟩
theorem AG {h h':Heap}{a:Addr}{its:Array Value}(x:h.IsTuple a its)(k:∀o,h.get? a=some o->h'.get? a=some o):h'.IsTuple a its:=let ⟨o,ho,r⟩:=x;⟨o,k o ho,r⟩
theorem Fl {prog:Program}{w:World}{A:Around}(hh:A.handled=none)(it l:Addr)(hne:l≠it)(items:Array Value):Draws prog w A it [it,l] items.size (fun i v=>items[i]?=some v) (fun i h=>h.IsTupleIter it l i/\h.IsTuple l items) where
 live:=fun _ _ ⟨⟨o,ho,_⟩,_⟩=>⟨o,ho⟩
 frame:=fun _ _ _ ⟨a,b⟩ hk=>⟨oY a fun o e=>hk it (by simp) o e,AG b fun o e=>hk l (by simp) o e⟩
 item:=fun i s Q E hi ⟨a,b⟩ hQ=>Ey a b (x:=items[i]) (by simp[hi]) fun h' hit' hs'=>hQ _ h' s.toks (by simp[hi]) ⟨hit',b.extBut hs'.extBut hne⟩ hs'
 done:=fun s Q E ⟨a,b⟩ hE=>t4 hh a b (by simp) hE
open AutoSeq1 (wpAny_loadPart') in
theorem Cd (l:Addr)(items:Array Value)(n:Nat)(dct:Option Addr)(sl:Array (Option Value)):Meets (Builtin.«enumerate.__new__» ⟨[.type "enumerate",.ref l],[]⟩) (fun _ R s=>s.heap.get? l=some { cls:=.type "tuple",dict:=dct,data:=.seq items n,slots:=sl }/\R (.ok (.ret (.ref (s.heap.push { cls:=.type "tuple_iterator",data:=.fields #[.ref l,.int 0 0] }).objs.size))) { s with heap:=(s.heap.push { cls:=.type "tuple_iterator",data:=.fields #[.ref l,.int 0 0] }).push { cls:=.type "enumerate",data:=.fields #[.none,.bool false,.ref s.heap.objs.size,rawInt 0,.none,.none] } }):=
 .of_wp fun prog w A R s h=>by
  obtain⟨hp,g,d,tk,os⟩:=s;obtain⟨hl,h⟩:=h
  have hsub:=sub_enumerate;have hL:Heap.IsTuple (Shared.heap ⟨hp,g,d,tk,os⟩) l items:=⟨_,hl,rfl,n,rfl⟩
  wp_walk using wpAny_loadPart' hl;refine wpAny_stack_any fun st=>wpAny_pure ?_
  split
  ·rename_i c _ _ _ _ _;cases (c==Value.type "enumerate")<;>(wp_walk using wpAny_loadPart' hl,wpAny_pyIter_tuple hL;exact⟨_,rfl,h⟩)
  ·wp_walk using wpAny_loadPart' hl,wpAny_pyIter_tuple hL;exact⟨_,rfl,h⟩
section
variable {prog:Program}{w:World}{A:Around}{E:Value->Shared->Prop}{s:Shared}
theorem zx {l:Addr}{items:Array Value}{Q:Value->Shared->Prop}(hL:s.heap.IsTuple l items)
  (h:∀h',IsEnum h' (s.heap.objs.size+1) s.heap.objs.size 0 .none->h'.IsTupleIter s.heap.objs.size l 0->h'.objs.size=s.heap.objs.size+2->(∀b o,s.heap.get? b=some o->h'.get? b=some o)->Q (.ref (s.heap.objs.size+1)) { s with heap:=h' }):wpAny (model prog w) A (call (.type "enumerate") [.ref l]) Q E s:=by
 obtain⟨⟨c,dct,dt,sl⟩,hl,hc,n,hd⟩:=hL;replace hc:c=.type "tuple":=hc;replace hd:dt=.seq items n:=hd;subst hc hd
 refine callType_new F.called_enumerate (by decide) (F.typeCall_enumerate_1 _) (F.newCall_enumerate_1 _) (fun obj=>F.args_object_init_2 obj _) F.entry_enumerate_new (Cd l items n dct sl) ⟨hl,?_⟩
 have hz:(s.heap.push { cls:=.type "tuple_iterator",data:=.fields #[.ref l,.int 0 0] }).objs.size=s.heap.objs.size+1:=Heap.size_push ..
 refine (?_:_/\_);rw[hz]
 have he:IsEnum ((s.heap.push { cls:=.type "tuple_iterator",data:=.fields #[.ref l,.int 0 0] }).push { cls:=.type "enumerate",data:=.fields #[.none,.bool false,.ref s.heap.objs.size,rawInt 0,.none,.none] }) (s.heap.objs.size+1) s.heap.objs.size 0 .none:=by
  have:=Heap.get?_push_size (s.heap.push { cls:=.type "tuple_iterator",data:=.fields #[.ref l,.int 0 0] }) (o:={ cls:=.type "enumerate",data:=.fields #[.none,.bool false,.ref s.heap.objs.size,rawInt 0,.none,.none] }) rfl
  rw[hz] at this;exact this
 exact⟨⟨_,he,rfl⟩,h _ he ⟨_,Heap.get?_push_of_some _ (Heap.get?_push_size _ rfl),rfl,rfl⟩ (by rw[Heap.size_push,hz]) fun b o x=>Heap.get?_push_of_some _ (Heap.get?_push_of_some _ x)⟩
end
noncomputable def OY (K:PySem.W.Frag)(a:Addr):It:=
 ⟨fun i H=>∃xs x,SqT K H a xs/\xs[i]?=some x,fun i H v H'=>∃p x,v=.ref p/\H p=none/\H'=upd H p (.tup [.int i,x])/\∀xs,SqT K H a xs->xs[i]?=some x,fun i H=>∃xs,SqT K H a xs/\xs.length≤i⟩
theorem sP {P:Program}{w:World}{K:PySem.W.Frag}{elts:List Expr}{x1}{pos:Pos}(a e it:Addr)(hne:e≠it):Turn P w K (.Tuple elts x1 pos) (OY K a) [e,it] e (fun i h=>(∃old,IsEnum h e it i old)/\h.IsTupleIter it a i) where
 mem:=by simp
 obj:=fun i h st b hb=>by
  obtain⟨⟨old,he⟩,o,e',c,d⟩:=st
  rcases List.mem_cons.mp hb with z|z
  ·subst z
   exact⟨_,he,fun v q=>by
    have q':Data.fields _=Data.cell v:=q
    cases q'⟩
  ·have e2:b=it:=by simpa using z
   subst e2
   exact⟨o,e',fun v q=>by rw[d] at q;cases q⟩
 keep:=fun i h h' st k=>⟨⟨st.1.choose,k e (by simp) _ st.1.choose_spec⟩,oY st.2 fun o q=>k it (by simp) o q⟩
 item:=by
  intro X hP hw hK hc i pins s σ H E I hf st hg
  subst hP hw hK
  obtain⟨xs,x,hq,hx⟩:=hg
  obtain⟨its,rv,p,hz⟩:=I.tuple hq
  obtain⟨u,hu,ru⟩:=rv.get hx
  obtain⟨⟨old,he⟩,hit⟩:=st
  have pt:s.heap.IsTuple a its.toArray:=p
  have nai:a≠it:=fun q=>by
   obtain⟨o1,h1,c1,_⟩:=pt
   obtain⟨o2,h2,c2,_⟩:=hit
   rw[q,h2] at h1;cases h1;rw[c2] at c1;exact absurd (Value.type.inj c1) (by decide)
  have nae:e≠a:=fun q=>by
   obtain⟨o1,h1,c1,_⟩:=pt
   rw[←q,he] at h1;cases h1;exact absurd (Value.type.inj c1) (by decide)
  have hlt:i<its.toArray.size:=by
   have:=(List.getElem?_eq_some_iff.mp hu).1
   simpa using this
  refine wpAny_pyNext_enum_itemD (Fl (A:=X.A.in1) (I.ok.hd hc) it a nai its.toArray) he ⟨hit,pt⟩ hlt hne (by simp[hne,nae]) fun u' h' tk hu' out lit tup sz kp=>⟨_,rfl,?_⟩
  obtain rfl:u'=u:=by
   have h1:its[i]?=some u':=by simpa using hu'
   rw[hu] at h1;exact (Option.some.inj h1).symm
  refine wpAny_letOwnedTupleGo_enum out fun h2 he2 sb=>?_
  have fr:H s.heap.objs.size=none:=I.hok.fresh (Nat.le_refl _)
  have I1:Inv X pins σ (upd H s.heap.objs.size (.tup [.int i,x])) { s with heap:=s.heap.push { cls:=.type "tuple",data:=.seq #[.int i tk,u'] },toks:=s.toks }:=by
   refine I.laid (t':=s.toks) (fun b u e=>Heap.get?_push_of_some _ e) (Nat.le_refl _) ?_
   exact⟨by simp;decide,[.int i tk,u'],.cons ⟨_,rfl⟩ (.cons ru .nil),⟨_,Heap.get?_push_size _ rfl,rfl,_,rfl⟩⟩
  have ltE:e<s.heap.objs.size:=Heap.lt_size he
  have Ep:it<s.heap.objs.size:=by obtain⟨o,q,_⟩:=hit;exact Heap.lt_size q
  have f1:∀b∈[e,it],iS X pins (upd H s.heap.objs.size (.tup [.int i,x])) b:=fun b hb=>by
   have hb':b≠s.heap.objs.size:=by
    rcases List.mem_cons.mp hb with z|z
    ·rw[z];exact Nat.ne_of_lt ltE
    ·rw[show b=it by simpa using z];exact Nat.ne_of_lt Ep
   exact⟨by rw[av hb'];exact (hf b hb).1,(hf b hb).2⟩
  have I2:Inv X pins σ (upd H s.heap.objs.size (.tup [.int i,x])) { s with heap:=h2,toks:=tk+1 }:=by
   refine Inv.turned2 (e:=e) (it:=it) (t':=tk+1) (h':=h2) (s:={ s with heap:=s.heap.push { cls:=.type "tuple",data:=.seq #[.int i tk,u'] },toks:=s.toks }) I1 (fun b o n1 n2 q=>?_) f1
   rw[sb.2 b n1]
   rcases Heap.get?_push_cases q with ⟨z1,z2⟩|z
   ·subst z1 z2;exact tup
   ·exact kp b o n1 n2 z
  refine⟨.ref s.heap.objs.size,_,I2,rfl,⟨_,x,rfl,fr,rfl,fun ys hy=>by rw[I.tuple_inj hy hq];exact hx⟩,⟨⟨_,he2⟩,?_⟩,fun b hb=>(f1 b hb).1⟩
  exact oY lit.1 fun o q=>(sb.2 it (Ne.symm hne)).trans q
 done:=by
  intro X hP hw hK hc i pins s σ H E I hf st hg
  subst hP hw hK
  obtain⟨xs,hq,hx⟩:=hg
  obtain⟨its,rv,p,hz⟩:=I.tuple hq
  obtain⟨⟨old,he⟩,hit⟩:=st
  obtain⟨f0,f1,f2,f3,f4,f5⟩:=hf it (by simp)
  have hl:=rv.length
  have hT:s.TypeIs (.ref e) "enumerate":=⟨_,he,rfl⟩
  unfold pyNext
  refine wpAny_bind (wpAny_attempt (wpAny_callSpecial?_slot (name:=Str.ofString "__next__") hT F.slot_enumerate_next (wpAny_call_entry F.slot_enumerate_next hT F.entry_enumerate_next ?_ (F.args_enumerate_next_1 _))))
  refine (?_:wpAny _ _ (field (.ref e) 2 >>= _) _ _ _);refine wpAny_bind (wpAny_field he rfl (x:=.ref it) rfl ?_)
  refine wpAny_bind (t4 (I.ok.hd hc) hit (items:=its.toArray) p (by simp;omega) fun h' x he' hx'=>?_)
  obtain⟨o,ho,hc⟩:=hx'
  exact wpAny_bind (wpAny_isInstance (T:="StopIteration") (b:=true) ⟨o,ho,hc⟩ isSubtype_stop (wpAny_pure ⟨rfl,I.turned (t':=s.toks) (fun b o hb e=>he' b o hb e) f0 f1 f3 f4 f5⟩))
 self:=fun _ _ _ _ _ st h=>wpAny_pyIter_enum st.1.choose_spec h
noncomputable def sn (K:PySem.W.Frag)(ta:TA):TI:=fun σ H R=>ta σ H fun vs H1=>∃a,vs=[.ref a]/\(∃xs,SqT K H1 a xs)/\R (OY K a) H1
section
variable {X:Cx}{elts:List Expr}{tpos:Pos}
theorem zK {x1}{a:Expr}{ta:TA}{p pos:Pos}(hg:Gl X "enumerate")(hm:X.mg "enumerate" = none)(ha:PA X [a] ta)(hs:starEach [a] X.env=[(false,eval a X.env)]:=by rfl):PI X (.Tuple elts x1 tpos) (.Call (.Name "enumerate" p) [a] [] pos) (sn X.K ta):=by
 intro pins s σ H R I h
 refine Call_ (gy I hg hm jf (PyProof.Rows.callWith_type1 (bv (ha pos pins s σ H _ I h) fun us s1 ⟨vs,H1,I1,r1,q1⟩=>?_) hs rfl))
 obtain⟨l,e,⟨xs,hq⟩,q⟩:=q1
 subst e
 cases r1 with
 |cons r rr=>
  cases rr
  cases r
  obtain⟨its,rv,pl,hz⟩:=I1.tuple hq
  refine zx (items:=its.toArray) pl fun h' he hit sz kp=>?_
  refine wpAny_pyIter_enum he ?_
  have I2:Inv X pins σ H1 { s1 with heap:=h',toks:=s1.toks }:=I1.kept kp
  refine⟨s1.heap.objs.size+1,[s1.heap.objs.size+1,s1.heap.objs.size],_,_,H1,rfl,I2,sP l _ _ (Nat.succ_ne_self _),⟨⟨_,he⟩,hit⟩,fun b hb=>?_,q⟩
  have hb':s1.heap.objs.size≤b:=by
   rcases List.mem_cons.mp hb with z|z
   ·rw[z];exact Nat.le_succ _
   ·have e:b=s1.heap.objs.size:=by simpa using z
    rw[e];exact Nat.le_refl _
  exact I1.fpOk hb' (I1.hok.fresh hb')
end
end L2
end
section
namespace L2
open PySem PySem.Spec PyProof.Rows
inductive NumEs (w:World):List DictEntry->List (Str×Int)->List (gd×Value)->Prop where
 |nil:NumEs w [] [] []
 |cons {x:Str} {t u:Tok} {i:Int} {es:List DictEntry} {kvs:List (Str×Int)} {vs:List (gd×Value)}:NumEs w es kvs vs->NumEs w (⟨PyData.keyHash w.params x,.str x t,.int i u⟩::es) ((x,i)::kvs) ((.inr x,.int i u)::vs)
structure NumTab (w:World)(K:PySem.W.Frag)(a:Addr)(kvs:List (Str×Int)):Prop where
 sys:(a==sysModules)=false
 nd:(kvs.map (·.1)).Nodup
 it:∃(es:Array DictEntry) (ep:Nat) (vs:List (gd×Value)),K.lookup a=some ⟨.type "dict",none,.dict es ep,#[]⟩/\NumEs w es.toList kvs vs
noncomputable def ir (kvs:List (Str×Int))(x:Str):Option Int:=(kvs.find? fun p=>decide (p.1=x)).map (·.2)
theorem NumEs.ok {P:Program}{w:World}:∀{es:List DictEntry} {kvs:List (Str×Int)} {vs:List (gd×Value)},NumEs w es kvs vs->(∀e∈es,∃k,(cb P w).is k e.key=true/\e.hash=(cb P w).hash k)/\Pairs (cb P w) es vs/\vs.map (·.1)=kvs.map (fun p=>(.inr p.1:gd))
 |_,_,_,.nil=>⟨fun _ h=>(by cases h),.nil,rfl⟩
 |_,_,_,@NumEs.cons _ x t u i es kvs vs r=>by
  obtain⟨a,b,c⟩:=r.ok (P:=P)
  refine⟨fun e he=>?_,.cons (dN P w x t) rfl b,by rw[List.map_cons,List.map_cons,c]⟩
  rcases List.mem_cons.mp he with rfl|he
  ·exact⟨.inr x,dN P w x t,rfl⟩
  ·exact a e he
theorem NumEs.val {w:World}{es:List DictEntry}{kvs:List (Str×Int)}{vs:List (gd×Value)}(h:NumEs w es kvs vs)(x:Str):RelV ((ir kvs x).elim .non .int) ((valueAt vs (.inr x)).getD .none):=by
 induction h with
 |nil=>rfl
 | @cons y t u i es kvs vs r ih=>
  by_cases e:y=x
  ·simp only[valueAt,ir,List.find?_cons,decide_eq_true e,e]
   simp[RelV]
  ·have e':¬((Sum.inr y:gd)=Sum.inr x):=fun q=>e (Sum.inr.inj q)
   simp only[valueAt,ir,List.find?_cons,decide_eq_false e,decide_eq_false e'] at ih ⊢
   exact ih
noncomputable def BW (kvs:List (Str×Int))(a:Addr)(to ti:TE):TE:=fun σ H Q=>to σ H fun x H1=>x=.ref a/\ti σ H1 fun y H2=>∃n,y=.str n/\Q ((ir kvs n).elim .non .int) H2
section
variable {X:Cx}{o e:Expr}{apos cpos:Pos}{to ti:TE}{a:Addr}{kvs:List (Str×Int)}
theorem vM (T:NumTab X.w X.K a kvs)(ho:PE X o to)(he:PE X e ti)(m:M1 X o "get" apos e cpos):PE X (.Call (.Attribute o "get" apos) [e] [] cpos) (BW kvs a to ti):=by
 intro pins s σ H Q I h
 obtain⟨sys,nd,es,ep,vs,l,r⟩:=T
 obtain⟨a1,a2,a3⟩:=r.ok (P:=X.prog)
 have D:∀{h:Heap},X.K.In h->h.DictOf (cb X.prog X.w) a vs:=fun {h} kin=>by
  refine⟨_,es,ep,kin a _ l,⟨rfl,rfl,rfl⟩,rfl,fun e he=>a1 e (Array.mem_toList_iff.mpr he),a2,?_⟩
  rw[a3,show (kvs.map fun p=>(Sum.inr p.1:gd))=(kvs.map (·.1)).map (Sum.inr:Str->gd) by simp]
  exact nd.map _ fun _ _ ne e=>ne (Sum.inr.inj e)
 refine wpAny_Call_method m.base m.few m.line PySem.F.plainAttrs_dict PySem.F.slot_dict_get PySem.F.type_dict_get (bv (ho pins s σ H _ I h) fun u s1 hh=>?_)
 obtain⟨x,H1,I1,rx,ex,q1⟩:=hh
 subst ex
 obtain rfl:u=Value.ref a:=rx
 have d1:=D I1.kIn
 refine⟨d1.typeIs,fun b q=>?_,?_⟩
 ·cases q
  obtain⟨ob,_,_,h1,h2,_⟩:=d1
  exact⟨ob,h1,h2.2.1⟩
 ·rw[m.trees]
  refine Calls.callWith_builtin rfl (Calls.evalArgs_plain (Calls.spliced_cons (bv (he pins s1 σ H1 _ I1 q1) fun iv s2 hh=>Calls.spliced_nil ?_)))
  obtain⟨y,H2,I2,ry,n,ey,q2⟩:=hh
  subst ey
  have d2:=D I2.kIn
  refine call_meetsIn PySem.F.slot_dict_get d2.typeIs PySem.F.entry_dict_get (PySem.F.args_dict_get_2 _ _) (meets_dict_get (cb X.prog X.w) a (Dz (k:=.inr n) ry) sys) ⟨_,d2.mapOf,?_⟩
  exact⟨_,H2,I2.tok _,r.val n,q2⟩
end
end L2
end
section
namespace Pu
open PySem PySem.Spec L2
inductive PV where
 |non|bl (b:Bool)|int (i:Int)|str (x:Str)|ty (n:String)|fn (a:Addr)
 |tup (ps:List PV)|lst (ps:List PV)|dct (ks:List gd) (ps:List PV)
 |src (ps:List PV)|ktu (ps:List PV)
 |rng (lo hi:Int)
mutual
noncomputable def Rep (K:PySem.W.Frag)(F:Hp):PV->V->Prop
 |.non,v=>v=.non
 |.bl b,v=>v=.bl b
 |.int i,v=>v=.int i
 |.str x,v=>v=.str x
 |.ty n,v=>v=.ty n
 |.fn a,v=>v=.ref a
 |.tup ps,v=>∃a vs,v=.ref a/\F a=some (.tup vs)/\Reps K F ps vs
 |.lst ps,v=>∃a vs,v=.ref a/\F a=some (.lst vs)/\Reps K F ps vs
 |.src ps,v=>∃a vs,v=.ref a/\SqL K F a vs/\Reps K F ps vs
 |.ktu ps,v=>∃a vs,v=.ref a/\SqT K F a vs/\Reps K F ps vs
 |.rng lo hi,v=>∃a,v=.ref a/\F a=some (.rng lo hi)
 |.dct ks ps,v=>∃a kvs,v=.ref a/\F a=some (.dK kvs)/\kvs.map (·.1)=ks/\Reps K F ps (kvs.map (·.2))
noncomputable def Reps (K:PySem.W.Frag)(F:Hp):List PV->List V->Prop
 |[],vs=>vs=[]
 |p::ps,vs=>∃v r,vs=v::r/\Rep K F p v/\Reps K F ps r
end
theorem uS {K:PySem.W.Frag}{F F':Hp}{a:Addr}{xs:List V}(e:Same F F')(h:SqT K F a xs):SqT K F' a xs:=by
 rcases h with (h|⟨o,h⟩)|h
 ·exact .inl (.inl (e _ _ h))
 ·exact .inl (.inr ⟨o,e _ _ h⟩)
 ·exact .inr h
mutual
theorem Rep.mono {K:PySem.W.Frag}{F F':Hp}(e:Same F F'):∀{p:PV} {v:V},Rep K F p v->Rep K F' p v
 |.non,_,h=>h
 |.bl _,_,h=>h
 |.int _,_,h=>h
 |.str _,_,h=>h
 |.ty _,_,h=>h
 |.fn _,_,h=>h
 |.tup ps,_,h=>by
  obtain⟨a,vs,e1,e2,e3⟩:=h
  exact⟨a,vs,e1,e _ _ e2,Reps.mono e e3⟩
 |.lst ps,_,h=>by
  obtain⟨a,vs,e1,e2,e3⟩:=h
  exact⟨a,vs,e1,e _ _ e2,Reps.mono e e3⟩
 |.src ps,_,h=>by
  obtain⟨a,vs,e1,e2,e3⟩:=h
  exact⟨a,vs,e1,e.seq e2,Reps.mono e e3⟩
 |.ktu ps,_,h=>by
  obtain⟨a,vs,e1,e2,e3⟩:=h
  exact⟨a,vs,e1,uS e e2,Reps.mono e e3⟩
 |.rng lo hi,_,h=>by
  obtain⟨a,e1,e2⟩:=h
  exact⟨a,e1,e _ _ e2⟩
 |.dct ks ps,_,h=>by
  obtain⟨a,kvs,e1,e2,e3,e4⟩:=h
  exact⟨a,kvs,e1,e _ _ e2,e3,Reps.mono e e4⟩
theorem Reps.mono {K:PySem.W.Frag}{F F':Hp}(e:Same F F'):∀{ps:List PV} {vs:List V},Reps K F ps vs->Reps K F' ps vs
 |[],_,h=>h
 |_::_,_,h=>by
  obtain⟨v,r,e1,e2,e3⟩:=h
  exact⟨v,r,e1,Rep.mono e e2,Reps.mono e e3⟩
end
theorem Reps.length {K:PySem.W.Frag}{F:Hp}:∀{ps:List PV} {vs:List V},Reps K F ps vs->vs.length=ps.length
 |[],_,h=>by rw[show _=[] from h];rfl
 |p::ps,_,⟨v,r,e,_,t⟩=>by rw[e,List.length_cons,List.length_cons,t.length]
theorem Reps.get {K:PySem.W.Frag}{F:Hp}:∀{ps:List PV} {vs:List V} {i:Nat} {p:PV},Reps K F ps vs->ps[i]?=some p->∃v,vs[i]?=some v/\Rep K F p v
 |[],_,i,p,_,e=>by simp at e
 |_::_,_,0,_,⟨v,r,e,h,t⟩,q=>by simp at q;subst q;exact⟨v,by rw[e];rfl,h⟩
 |_::ps,_,i+1,p,⟨v,r,e,h,t⟩,q=>by
  obtain⟨u,h1,h2⟩:=t.get (i:=i) (p:=p) (by simpa using q)
  exact⟨u,by rw[e];simpa using h1,h2⟩
theorem Reps.app {K:PySem.W.Frag}{F:Hp}:∀{ps qs:List PV} {vs us:List V},Reps K F ps vs->Reps K F qs us->Reps K F (ps++qs) (vs++us)
 |[],_,_,_,h,q=>by rw[show _=[] from h];exact q
 |_::_,_,_,_,⟨v,r,e,h,t⟩,q=>⟨v,_,by rw[e];rfl,h,t.app q⟩
theorem Reps.one {K:PySem.W.Frag}{F:Hp}{p:PV}{v:V}(h:Rep K F p v):Reps K F [p] [v]:=⟨v,[],rfl,h,rfl⟩
theorem Reps.set {K:PySem.W.Frag}{F:Hp}{p:PV}{v:V}(h:Rep K F p v):∀{ps:List PV} {vs:List V} (i:Nat),Reps K F ps vs->Reps K F (ps.set i p) (vs.set i v)
 |[],_,_,q=>by rw[show _=[] from q];rfl
 |_::_,_,0,⟨v',r,e,_,t⟩=>by rw[e];exact⟨v,r,rfl,h,t⟩
 |_::_,_,i+1,⟨v',r,e,h',t⟩=>by rw[e];exact⟨v',_,rfl,h',Reps.set h i t⟩
theorem Reps.take {K:PySem.W.Frag}{F:Hp}:∀{ps:List PV} {vs:List V} (n:Nat),Reps K F ps vs->Reps K F (ps.take n) (vs.take n)
 |_,_,0,_=>by simp[Reps]
 |[],_,_+1,q=>by rw[show _=[] from q];rfl
 |_::_,_,n+1,⟨v,r,e,h,t⟩=>by rw[e];exact⟨v,_,rfl,h,t.take n⟩
theorem Reps.drop {K:PySem.W.Frag}{F:Hp}:∀{ps:List PV} {vs:List V} (n:Nat),Reps K F ps vs->Reps K F (ps.drop n) (vs.drop n)
 |_,_,0,q=>q
 |[],_,_+1,q=>by rw[show _=[] from q];rfl
 |_::_,_,n+1,⟨v,r,e,h,t⟩=>by rw[e];exact t.drop n
theorem Reps.rev {K:PySem.W.Frag}{F:Hp}:∀{ps:List PV} {vs:List V},Reps K F ps vs->Reps K F ps.reverse vs.reverse
 |[],_,q=>by rw[show _=[] from q];rfl
 |_::_,_,⟨v,r,e,h,t⟩=>by rw[e,List.reverse_cons,List.reverse_cons];exact t.rev.app (.one h)
structure Grow (F H F' H':Hp):Prop where
 hh:Same H H'
 ff:Same F F'
 fh:Same F' H'
 nw:∀b o,F' b=some o->F b=some o\/H b=none\/∃vs,o=.tup vs
theorem Grow.refl {F H:Hp}(h:Same F H):Grow F H F H:=⟨Same.refl _,Same.refl _,h,fun _ _ e=>.inl e⟩
theorem Grow.trans {F H F1 H1 F2 H2:Hp}(a:Grow F H F1 H1)(b:Grow F1 H1 F2 H2):Grow F H F2 H2:=
 ⟨a.hh.trans b.hh,a.ff.trans b.ff,b.fh,fun c o e=>(b.nw c o e).elim (a.nw c o) fun z=>.inr (z.elim (fun z=>.inl (a.hh.free z)) .inr)⟩
theorem Grow.keep {F H F' H':Hp}(g:Grow F H F' H'){a:Addr}{o:HO}(hF:F a=none)(hH:H a=some o)(ho:∀vs,o≠.tup vs:=by intro vs h;cases h):F' a=none/\H' a=some o:=by
 refine⟨?_,g.hh _ _ hH⟩
 cases e:F' a with
 |none=>rfl
 |some u=>
  rcases g.nw a u e with z|z|⟨vs,z⟩
  ·rw[hF] at z;cases z
  ·rw[hH] at z;cases z
  ·have h1:=g.fh a u e
   rw[g.hh _ _ hH] at h1
   cases h1
   exact absurd z (ho vs)
theorem Grow.new {F H:Hp}(h:Same F H){a:Addr}(ha:H a=none)(o:HO):Grow F H (upd F a o) (upd H a o):=by
 have hFa:F a=none:=h.free ha
 refine⟨aY ha o,aY hFa o,fun b u e=>?_,fun b u e=>?_⟩
 ·by_cases hb:b=a
  ·subst hb;rw[ak] at e ⊢;exact e
  ·rw[av hb] at e ⊢;exact h b u e
 ·by_cases hb:b=a
  ·subst hb;exact .inr (.inl ha)
  ·rw[av hb] at e;exact .inl e
theorem Grow.newO {F H:Hp}(h:Same F H){a:Addr}(ha:H a=none)(o:HO):Grow F H F (upd H a o):=⟨aY ha o,Same.refl _,h.trans (aY ha o),fun b u e=>.inl e⟩
theorem Grow.freeze {F H F' H':Hp}(g:Grow F H F' H'){a:Addr}{o:HO}(h0:H a=none)(hF:F' a=none)(hH:H' a=some o):Grow F H (upd F' a o) H':=by
 refine⟨g.hh,g.ff.trans (aY hF o),fun b u e=>?_,fun b u e=>?_⟩
 ·by_cases hb:b=a
  ·subst hb;rw[ak] at e;rw[hH];exact e
  ·rw[av hb] at e;exact g.fh b u e
 ·by_cases hb:b=a
  ·subst hb;exact .inr (.inl h0)
  ·rw[av hb] at e;exact g.nw b u e
inductive Sl where
 |val (p:PV)|own (ps:List PV)|dic (ks:List gd) (ps:List PV)
noncomputable abbrev ai:=List (Option Sl)
inductive RdV (K:PySem.W.Frag) (F H:Hp):PV->V->Prop where
 |frz {p:PV} {v:V}:Rep K F p v->RdV K F H p v
 |own {ps:List PV} {a:Addr} {vs:List V}:H a=some (.lst vs)->F a=none->Reps K F ps vs->RdV K F H (.lst ps) (.ref a)
 |dic {ks:List gd} {ps:List PV} {a:Addr} {kvs:List (gd×V)}:H a=some (.dK kvs)->F a=none->kvs.map (·.1)=ks->Reps K F ps (kvs.map (·.2))->RdV K F H (.dct ks ps) (.ref a)
theorem RdV.grow {K:PySem.W.Frag}{F H F' H':Hp}{p:PV}{v:V}(g:Grow F H F' H')(h:RdV K F H p v):RdV K F' H' p v:=by
 cases h with
 |frz h=>exact .frz (h.mono g.ff)
 |own h1 h2 h3=>exact .own (g.keep h2 h1).2 (g.keep h2 h1).1 (h3.mono g.ff)
 |dic h1 h2 h3 h4=>exact .dic (g.keep h2 h1).2 (g.keep h2 h1).1 h3 (h4.mono g.ff)
noncomputable def Oc:Sl->PV
 |.val p=>p
 |.own ps=>.lst ps
 |.dic ks ps=>.dct ks ps
noncomputable def SlR (K:PySem.W.Frag)(F H:Hp):Option V->Option Sl->Prop
 |_,none=>True
 |some v,some (.val p)=>Rep K F p v
 |some v,some (.own ps)=>∃a vs,v=.ref a/\H a=some (.lst vs)/\F a=none/\Reps K F ps vs
 |some v,some (.dic ks ps)=>∃a kvs,v=.ref a/\H a=some (.dK kvs)/\F a=none/\kvs.map (·.1)=ks/\Reps K F ps (kvs.map (·.2))
 |none,some _=>False
theorem SlR.rd {K:PySem.W.Frag}{F H:Hp}{o:Option V}{s:Sl}(h:SlR K F H o (some s)):∃v,o=some v/\RdV K F H (Oc s) v:=by
 cases o with
 |none=>cases s<;>exact h.elim
 |some v=>
  refine⟨v,rfl,?_⟩
  cases s with
  |val p=>exact .frz h
  |own ps=>obtain⟨a,vs,rfl,h1,h2,h3⟩:=h;exact .own h1 h2 h3
  |dic ks ps=>obtain⟨a,vs,rfl,h1,h2,h3,h4⟩:=h;exact .dic h1 h2 h3 h4
theorem SlR.grow {K:PySem.W.Frag}{F H F' H':Hp}(g:Grow F H F' H'):∀{o:Option V} {s:Option Sl},SlR K F H o s->SlR K F' H' o s
 |_,none,_=>by unfold SlR;trivial
 |none,some s,h=>by cases s<;>exact h.elim
 |some v,some (.val p),h=>Rep.mono g.ff h
 |some v,some (.own ps),⟨a,vs,e,h1,h2,h3⟩=>⟨a,vs,e,(g.keep h2 h1).2,(g.keep h2 h1).1,h3.mono g.ff⟩
 |some v,some (.dic ks ps),⟨a,vs,e,h1,h2,h3,h4⟩=>⟨a,vs,e,(g.keep h2 h1).2,(g.keep h2 h1).1,h3,h4.mono g.ff⟩
structure ER (K:PySem.W.Frag)(F H:Hp)(σ:St)(ρ:ai):Prop where
 fz:Same F H
 len:σ.length=ρ.length
 sl:∀(i:Nat) (s:Sl),ρ[i]?=some (some s)->SlR K F H ((σ[i]?).join) (some s)
theorem ER.grow {K:PySem.W.Frag}{F H F' H':Hp}{σ:St}{ρ:ai}(g:Grow F H F' H')(h:ER K F H σ ρ):ER K F' H' σ ρ:=⟨g.fh,h.len,fun i s e=>(h.sl i s e).grow g⟩
theorem ER.rd {K:PySem.W.Frag}{F H:Hp}{σ:St}{ρ:ai}(h:ER K F H σ ρ){i:Nat}{s:Sl}(e:ρ[i]?=some (some s)):∃v,σ[i]?=some (some v)/\RdV K F H (Oc s) v:=by
 obtain⟨v,e1,r⟩:=(h.sl i s e).rd
 refine⟨v,?_,r⟩
 cases q:σ[i]? with
 |none=>rw[q] at e1;cases e1
 |some o=>rw[q] at e1;rw[show o=some v from e1]
noncomputable abbrev cY:=ai->(PV->Prop)->Prop
noncomputable abbrev oz:=ai->(List PV->Prop)->Prop
noncomputable abbrev iD:=ai->(Bool->Prop)->Prop
noncomputable abbrev fG:=ai->(List PV->Prop)->Prop
noncomputable def lE (K:PySem.W.Frag)(te:cY):TE:=fun σ H Q=>∃F ρ,∃Qp:PV->Prop,ER K F H σ ρ/\te ρ Qp/\∀p v F' H',Qp p->Grow F H F' H'->Rep K F' p v->Q v H'
noncomputable def lT (K:PySem.W.Frag)(te:cY):TE:=fun σ H Q=>∃F ρ,∃Qp:PV->Prop,ER K F H σ ρ/\te ρ Qp/\∀p v F' H',Qp p->Grow F H F' H'->RdV K F' H' p v->Q v H'
noncomputable def lN (K:PySem.W.Frag)(te:oz):TE:=fun σ H Q=>∃F ρ,∃Qp:List PV->Prop,ER K F H σ ρ/\te ρ Qp/\∀ps a vs F' H',Qp ps->Grow F H F' H'->H a=none->F' a=none->H' a=some (.lst vs)->Reps K F' ps vs->Q (.ref a) H'
noncomputable def lB (K:PySem.W.Frag)(te:iD):TT:=fun σ H Q=>∃F ρ,∃Qp:Bool->Prop,ER K F H σ ρ/\te ρ Qp/\∀b F' H',Qp b->Grow F H F' H'->Q b H'
noncomputable def lA (K:PySem.W.Frag)(te:fG):TA:=fun σ H Q=>∃F ρ,∃Qp:List PV->Prop,ER K F H σ ρ/\te ρ Qp/\∀ps vs F' H',Qp ps->Grow F H F' H'->Reps K F' ps vs->Q vs H'
theorem lE.elim {K:PySem.W.Frag}{te:cY}{σ:St}{H:Hp}{Q:VK}{C:Prop}(h:lE K te σ H Q)(k:∀F ρ (Qp:PV->Prop),ER K F H σ ρ->te ρ Qp->(∀p v F' H',Qp p->Grow F H F' H'->Rep K F' p v->Q v H')->C):C:=by obtain⟨F,ρ,Qp,a,b,c⟩:=h;exact k F ρ Qp a b c
theorem lT.elim {K:PySem.W.Frag}{te:cY}{σ:St}{H:Hp}{Q:VK}{C:Prop}(h:lT K te σ H Q)(k:∀F ρ (Qp:PV->Prop),ER K F H σ ρ->te ρ Qp->(∀p v F' H',Qp p->Grow F H F' H'->RdV K F' H' p v->Q v H')->C):C:=by obtain⟨F,ρ,Qp,a,b,c⟩:=h;exact k F ρ Qp a b c
theorem lN.elim {K:PySem.W.Frag}{te:oz}{σ:St}{H:Hp}{Q:VK}{C:Prop}(h:lN K te σ H Q)(k:∀F ρ (Qp:List PV->Prop),ER K F H σ ρ->te ρ Qp->(∀ps a vs F' H',Qp ps->Grow F H F' H'->H a=none->F' a=none->H' a=some (.lst vs)->Reps K F' ps vs->Q (.ref a) H')->C):C:=by obtain⟨F,ρ,Qp,a,b,c⟩:=h;exact k F ρ Qp a b c
theorem lB.elim {K:PySem.W.Frag}{te:iD}{σ:St}{H:Hp}{Q:Bool->Hp->Prop}{C:Prop}(h:lB K te σ H Q)(k:∀F ρ (Qp:Bool->Prop),ER K F H σ ρ->te ρ Qp->(∀b F' H',Qp b->Grow F H F' H'->Q b H')->C):C:=by obtain⟨F,ρ,Qp,a,b,c⟩:=h;exact k F ρ Qp a b c
theorem lA.elim {K:PySem.W.Frag}{te:fG}{σ:St}{H:Hp}{Q:List V->Hp->Prop}{C:Prop}(h:lA K te σ H Q)(k:∀F ρ (Qp:List PV->Prop),ER K F H σ ρ->te ρ Qp->(∀ps vs F' H',Qp ps->Grow F H F' H'->Reps K F' ps vs->Q vs H')->C):C:=by obtain⟨F,ρ,Qp,a,b,c⟩:=h;exact k F ρ Qp a b c
noncomputable def dr (X:Cx)(e:Expr)(te:cY):Prop:=PE X e (lE X.K te)
noncomputable def d6 (X:Cx)(e:Expr)(te:cY):Prop:=PE X e (lT X.K te)
noncomputable def rD (X:Cx)(e:Expr)(te:oz):Prop:=PE X e (lN X.K te)
noncomputable def PuB (X:Cx)(e:Expr)(te:iD):Prop:=PT X e (lB X.K te)
noncomputable def PuW (X:Cx)(e:Expr)(te:iD):Prop:=PW X e (lB X.K te)
noncomputable def Ea (X:Cx)(es:List Expr)(te:fG):Prop:=PA X es (lA X.K te)
theorem PE.weak {X:Cx}{e:Expr}{t t':TE}(h:PE X e t)(w:∀σ H Q,t' σ H Q->t σ H Q):PE X e t':=fun pins s σ H Q I q=>h pins s σ H Q I (w σ H Q q)
theorem PT.weak {X:Cx}{e:Expr}{t t':TT}(h:PT X e t)(w:∀σ H Q,t' σ H Q->t σ H Q):PT X e t':=fun pins s σ H Q I q=>h pins s σ H Q I (w σ H Q q)
theorem PW.weak {X:Cx}{e:Expr}{t t':TT}(h:PW X e t)(w:∀σ H Q,t' σ H Q->t σ H Q):PW X e t':=fun wh pins s σ H Q I q=>h wh pins s σ H Q I (w σ H Q q)
theorem PA.weak {X:Cx}{e:List Expr}{t t':TA}(h:PA X e t)(w:∀σ H Q,t' σ H Q->t σ H Q):PA X e t':=fun pos pins s σ H Q I q=>h pos pins s σ H Q I (w σ H Q q)
theorem PS.weak {X:Cx}{e:Stmt}{t t':TS}(h:PS X e t)(w:∀D σ H,t' D σ H->t D σ H):PS X e t':=fun pins s σ H D I q=>h pins s σ H D I (w D σ H q)
theorem PSs.weak {X:Cx}{e:List Stmt}{t t':TS}(h:PSs X e t)(w:∀D σ H,t' D σ H->t D σ H):PSs X e t':=fun pins s σ H D I q=>h pins s σ H D I (w D σ H q)
theorem PI.weak {X:Cx}{tg e:Expr}{t t':TI}(h:PI X tg e t)(w:∀σ H Q,t' σ H Q->t σ H Q):PI X tg e t':=fun pins s σ H Q I q=>h pins s σ H Q I (w σ H Q q)
section
variable {X:Cx}{e a b c:Expr}{pos:Pos}{te ta tb:cY}
noncomputable def Nt (tn:oz):cY:=fun ρ Q=>tn ρ fun ps=>Q (.lst ps)
noncomputable def gv (ρ:ai)(i:Nat)(Q:PV->Prop):Prop:=match ρ[i]? with
 |some (some (.val p))=>Q p
 |_=>False
noncomputable def gr (ρ:ai)(i:Nat)(Q:PV->Prop):Prop:=match ρ[i]? with
 |some (some s)=>Q (Oc s)
 |_=>False
noncomputable def pC (p:PV):cY:=fun _ Q=>Q p
noncomputable def gD:PV->V
 |.non=>.non
 |.bl b=>.bl b
 |.int i=>.int i
 |.str x=>.str x
 |.ty n=>.ty n
 |.fn a=>.ref a
 |_=>.non
noncomputable def bQ:PV->Bool
 |.tup _=>false
 |.lst _=>false
 |.dct _ _=>false
 |.src _=>false
 |.ktu _=>false
 |.rng _ _=>false
 |_=>true
theorem lz {K:PySem.W.Frag}{F:Hp}{p:PV}(h:bQ p=true):Rep K F p (gD p):=by
 cases p<;>first|rfl|exact absurd h Bool.false_ne_true
theorem sq {p:PV}(h:PE X e (tC (gD p)))(hp:bQ p=true:=by rfl):dr X e (pC p):=PE.weak h fun σ H Q hh_=>hh_.elim fun F ρ Qp er q k=>k p _ F H q (.refl er.fz) (lz hp)
theorem G7 {i:Int}{j}:dr X (.Constant (.int i) j pos) (pC (.int i)):=sq y1
theorem Lu {i:Bool}{j}:dr X (.Constant (.bool i) j pos) (pC (.bl i)):=sq Mw
theorem Hr {j}:dr X (.Constant .none j pos) (pC .non):=sq Ez
theorem EG {x:Str}{j}:dr X (.Constant (.str x) j pos) (pC (.str x)):=sq IG
noncomputable abbrev fE:=PV->PV->(PV->Prop)->Prop
noncomputable def pr (g:fE)(ta tb:cY):cY:=fun ρ Q=>ta ρ fun x=>tb ρ fun y=>g x y Q
noncomputable def df (K:PySem.W.Frag)(r:R2)(g:fE):Prop:=∀F H x y p q (Qp:PV->Prop) (Q:VK),Same F H->RdV K F H p x->RdV K F H q y->g p q Qp->(∀z v F' H',Qp z->Grow F H F' H'->Rep K F' z v->Q v H')->r x y H Q
theorem iT {r:R2}{g:fE}(hg:df X.K r g):∀σ H Q,lE X.K (pr g ta tb) σ H Q->Ht r (lT X.K ta) (lT X.K tb) σ H Q:=fun σ H Q hh_=>hh_.elim fun F ρ Qp er q k=>
 ⟨F,ρ,_,er,q,fun p v F1 H1 q1 g1 r1=>⟨F1,ρ,_,er.grow g1,q1,fun p2 v2 F2 H2 q2 g2 r2=>
  hg F2 H2 v v2 p p2 Qp Q g2.fh (r1.grow g2) r2 q2 fun z u F3 H3 qz g3 r3=>k z u F3 H3 qz ((g1.trans g2).trans g3) r3⟩⟩
theorem eZ {op:Operator}{r:R2}{g:fE}(ho:eQ X (binaryOp op) r)(hg:df X.K r g)(ha:d6 X a ta)(hb:d6 X b tb):dr X (.BinOp a op b pos) (pr g ta tb):=PE.weak (yM ho ha hb) (iT hg)
theorem Fa {op:CmpOp}{r:R2}{g:fE}(ho:eQ X (compareOp op) r)(hg:df X.K r g)(ha:d6 X a ta)(hb:d6 X b tb)(hm:behindInMarks op b=false):dr X (.Compare a [op] [b] pos) (pr g ta tb):=PE.weak (Ck ho ha hb hm) (iT hg)
noncomputable def OkB:PV->(Bool->Prop)->Prop
 |.bl b,Q=>Q b
 |_,_=>False
noncomputable def OkI:PV->(Int->Prop)->Prop
 |.int i,Q=>Q i
 |_,_=>False
theorem OkB.rd {K:PySem.W.Frag}{F H:Hp}{p:PV}{v:V}{Q:Bool->Prop}(h:OkB p Q)(r:RdV K F H p v):∃b,p=.bl b/\v=.bl b/\Q b:=by
 cases p<;>first|exact h.elim|skip
 cases r with
 |frz r=>exact⟨_,rfl,r,h⟩
theorem OkI.rd {K:PySem.W.Frag}{F H:Hp}{p:PV}{v:V}{Q:Int->Prop}(h:OkI p Q)(r:RdV K F H p v):∃b,p=.int b/\v=.int b/\Q b:=by
 cases p<;>first|exact h.elim|skip
 cases r with
 |frz r=>exact⟨_,rfl,r,h⟩
noncomputable def xM (te:cY):iD:=fun ρ Q=>te ρ fun x=>OkB x Q
theorem Dd {op:CmpOp}{r:R2}{g:fE}(ho:eQ X (compareOp op) r)(hg:df X.K r g)(ha:d6 X a ta)(hb:d6 X b tb)(hm:behindInMarks op b=false):PuB X (.Compare a [op] [b] pos) (xM (pr g ta tb)):=
 PT.weak (B9 ho ha hb hm) fun σ H Q hh_=>hh_.elim fun F ρ Qp er q k=>iT hg σ H _ ⟨F,ρ,_,er,q,fun p v F' H' hp g r=>by
  obtain⟨b,rfl,rfl,q⟩:=hp.rd (H:=H') (.frz r)
  exact⟨b,rfl,k b F' H' q g⟩⟩
noncomputable def gI (C:Int->Int->Prop)(f:Int->Int->PV):fE:=fun x y Q=>OkI x fun i=>OkI y fun j=>C i j/\Q (f i j)
noncomputable def zV (f:Int->Int->PV):fE:=fun x y Q=>OkI x fun i=>OkI y fun j=>Q (f i j)
theorem jB {K:PySem.W.Frag}{C:Int->Int->Prop}{f:Int->Int->PV}(hf:∀i j,bQ (f i j)=true:=by intros;rfl):df K (rI C fun i j=>gD (f i j)) (gI C f):=fun F H x y p q Qp Q s rx ry h k=>by
 obtain⟨i,rfl,rfl,h⟩:=OkI.rd h rx
 obtain⟨j,rfl,rfl,h⟩:=OkI.rd h ry
 exact⟨i,j,rfl,rfl,h.1,k _ _ F H h.2 (.refl s) (lz (hf i j))⟩
theorem fP {K:PySem.W.Frag}{f:Int->Int->PV}(hf:∀i j,bQ (f i j)=true:=by intros;rfl):df K (rg fun i j=>gD (f i j)) (zV f):=fun F H x y p q Qp Q s rx ry h k=>by
 obtain⟨i,rfl,rfl,h⟩:=OkI.rd h rx
 obtain⟨j,rfl,rfl,h⟩:=OkI.rd h ry
 exact⟨i,j,rfl,rfl,k _ _ F H h (.refl s) (lz (hf i j))⟩
noncomputable def ON:fE:=zV fun i j=>.int (i+j)
noncomputable def rz:fE:=zV fun i j=>.int (i - j)
noncomputable def NR:fE:=gI CMul fun i j=>.int (i * j)
noncomputable def NN:fE:=gI Mq fun i j=>.int (i / j)
noncomputable def OF:fE:=gI (fun _ j=>0<j) fun i j=>.int (i % j)
noncomputable def NH:fE:=gI IE fun i j=>.int (i ^ j.toNat)
noncomputable def N9:fE:=gI (fun _ j=>0≤j) fun i j=>.int (i / 2 ^ j.toNat)
noncomputable def M7:fE:=zV fun i j=>.int (Builtin.bitAnd i j)
noncomputable def Qm:fE:=zV fun i j=>.bl (decide (i<j))
noncomputable def PX:fE:=zV fun i j=>.bl (decide (i≤j))
noncomputable def Qy:fE:=zV fun i j=>.bl (decide (j<i))
noncomputable def Qe:fE:=zV fun i j=>.bl (decide (j≤i))
theorem Gj (ha:d6 X a ta)(hb:d6 X b tb):dr X (.BinOp a .Add b pos) (pr ON ta tb):=eZ HP (fP (f:=fun i j=>.int (i+j))) ha hb
theorem Jk (ha:d6 X a ta)(hb:d6 X b tb):dr X (.BinOp a .Sub b pos) (pr rz ta tb):=eZ EO (fP (f:=fun i j=>.int (i - j))) ha hb
theorem I0 (ha:d6 X a ta)(hb:d6 X b tb):dr X (.BinOp a .Mult b pos) (pr NR ta tb):=eZ Ha (jB (f:=fun i j=>.int (i * j))) ha hb
theorem Hm (ha:d6 X a ta)(hb:d6 X b tb):dr X (.BinOp a .FloorDiv b pos) (pr NN ta tb):=eZ Az (jB (f:=fun i j=>.int (i / j))) ha hb
theorem GS (ha:d6 X a ta)(hb:d6 X b tb):dr X (.BinOp a .Mod b pos) (pr OF ta tb):=eZ Fu (jB (f:=fun i j=>.int (i % j))) ha hb
theorem FF (ha:d6 X a ta)(hb:d6 X b tb):dr X (.BinOp a .Pow b pos) (pr NH ta tb):=eZ Fk (jB (f:=fun i j=>.int (i ^ j.toNat))) ha hb
theorem IM (ha:d6 X a ta)(hb:d6 X b tb):dr X (.BinOp a .RShift b pos) (pr N9 ta tb):=eZ Hz (jB (f:=fun i j=>.int (i / 2 ^ j.toNat))) ha hb
theorem B5 (ha:d6 X a ta)(hb:d6 X b tb):dr X (.BinOp a .BitAnd b pos) (pr M7 ta tb):=eZ GZ (fP (f:=fun i j=>.int (Builtin.bitAnd i j))) ha hb
theorem KK:df X.K (rg fun i j=>.bl (decide (i<j))) Qm:=fP (f:=fun i j=>.bl (decide (i<j)))
theorem KC:df X.K (rg fun i j=>.bl (decide (i≤j))) PX:=fP (f:=fun i j=>.bl (decide (i≤j)))
theorem L0:df X.K (rg fun i j=>.bl (decide (j<i))) Qy:=fP (f:=fun i j=>.bl (decide (j<i)))
theorem JL:df X.K (rg fun i j=>.bl (decide (j≤i))) Qe:=fP (f:=fun i j=>.bl (decide (j≤i)))
noncomputable def fg:PV->Bool
 |.non=>true
 |_=>false
noncomputable def Ob:fE:=fun x y Q=>match y with
 |.non=>Q (.bl (fg x))
 |_=>False
noncomputable def LZ:fE:=fun x y Q=>match y with
 |.non=>Q (.bl (!fg x))
 |_=>False
theorem Ek {K:PySem.W.Frag}{F H:Hp}{p:PV}{v:V}(r:RdV K F H p v):decide (v=.non)=fg p:=by
 cases r with
 |frz r=>
  cases p with
  |non=>rw[show v=_ from r];rfl
  |bl _=>rw[show v=_ from r];rfl
  |int _=>rw[show v=_ from r];rfl
  |str _=>rw[show v=_ from r];rfl
  |ty _=>rw[show v=_ from r];rfl
  |fn _=>rw[show v=_ from r];rfl
  |tup _=>obtain⟨a,vs,rfl,_⟩:=r;rfl
  |lst _=>obtain⟨a,vs,rfl,_⟩:=r;rfl
  |dct _ _=>obtain⟨a,vs,rfl,_⟩:=r;rfl
  |src _=>obtain⟨a,vs,rfl,_⟩:=r;rfl
  |ktu _=>obtain⟨a,vs,rfl,_⟩:=r;rfl
  |rng _ _=>obtain⟨a,rfl,_⟩:=r;rfl
 |own=>rfl
 |dic=>rfl
theorem tx {K:PySem.W.Frag}{F H:Hp}{v:V}(r:RdV K F H .non v):v=.non:=by
 cases r with
 |frz r=>exact r
theorem FX:df X.K (fun x y H Q=>y=.non/\Q (.bl (decide (x=.non))) H) Ob:=fun F H x y p q Qp Q s rx ry h k=>by
 cases q<;>first|exact h.elim|skip
 refine⟨tx ry,k _ _ F H h (.refl s) ?_⟩
 rw[Ek rx];rfl
theorem Bf:df X.K (fun x y H Q=>y=.non/\Q (.bl (!decide (x=.non))) H) LZ:=fun F H x y p q Qp Q s rx ry h k=>by
 cases q<;>first|exact h.elim|skip
 refine⟨tx ry,k _ _ F H h (.refl s) ?_⟩
 rw[Ek rx];rfl
end
end Pu
end
section
namespace Pu
open PySem PySem.Spec L2
section
variable {X:Cx}{e a b c:Expr}{pos:Pos}{te ta tb tc:cY}{tA tB':iD}{bN:List Expr}
noncomputable def Kn (ta:cY):cY:=fun ρ Q=>ta ρ fun x=>OkB x fun b=>Q (.bl (!b))
noncomputable def K7 (ta tb:cY):cY:=fun ρ Q=>ta ρ fun x=>OkB x fun b=>if b=true then tb ρ Q else Q (.bl false)
noncomputable def Ny (ta tb:cY):cY:=fun ρ Q=>ta ρ fun x=>OkB x fun b=>if b=true then Q (.bl true) else tb ρ Q
noncomputable def LD (t u:iD):iD:=fun ρ Q=>t ρ fun b=>if b=true then u ρ Q else Q false
noncomputable def Nk (t u:iD):iD:=fun ρ Q=>t ρ fun b=>if b=true then Q true else u ρ Q
noncomputable def KZ (t:iD):iD:=fun ρ Q=>t ρ fun b=>Q (!b)
noncomputable def OU (t:iD)(ta tb:cY):cY:=fun ρ Q=>t ρ fun b=>if b=true then ta ρ Q else tb ρ Q
theorem Io (ha:dr X a ta):dr X (.UnaryOp .Not a pos) (Kn ta):=PE.weak (HY ha) fun σ H Q hh_=>hh_.elim fun F ρ Qp er q k=>⟨F,ρ,_,er,q,fun p v F1 H1 h1 g1 r1=>by
 obtain⟨b,rfl,rfl,h⟩:=h1.rd (H:=H1) (.frz r1)
 exact⟨b,rfl,k _ _ F1 H1 h g1 rfl⟩⟩
theorem Hs (ha:dr X a ta)(hb:dr X (.BoolOp .And (b::bN) pos) tb):dr X (.BoolOp .And (a::b::bN) pos) (K7 ta tb):=PE.weak (wJ ha hb) fun σ H Q hh_=>hh_.elim fun F ρ Qp er q k=>⟨F,ρ,_,er,q,fun p v F1 H1 h1 g1 r1=>by
 obtain⟨b,rfl,rfl,h⟩:=h1.rd (H:=H1) (.frz r1)
 refine⟨b,rfl,?_⟩
 cases b with
 |true=>exact⟨F1,ρ,Qp,er.grow g1,by simpa using h,fun p v F' H' hp g r=>k p v F' H' hp (g1.trans g) r⟩
 |false=>exact k (.bl false) _ F1 H1 (by simpa using h) g1 rfl⟩
theorem LB (ha:dr X a ta)(hb:dr X (.BoolOp .Or (b::bN) pos) tb):dr X (.BoolOp .Or (a::b::bN) pos) (Ny ta tb):=PE.weak (Lw ha hb) fun σ H Q hh_=>hh_.elim fun F ρ Qp er q k=>⟨F,ρ,_,er,q,fun p v F1 H1 h1 g1 r1=>by
 obtain⟨b,rfl,rfl,h⟩:=h1.rd (H:=H1) (.frz r1)
 refine⟨b,rfl,?_⟩
 cases b with
 |false=>exact⟨F1,ρ,Qp,er.grow g1,by simpa using h,fun p v F' H' hp g r=>k p v F' H' hp (g1.trans g) r⟩
 |true=>exact k (.bl true) _ F1 H1 (by simpa using h) g1 rfl⟩
theorem Iz {op}(h:dr X a te):dr X (.BoolOp op [a] pos) te:=y6 h
theorem Bt (h:PT X e (tB (lE X.K te))):PuB X e (xM te):=PT.weak h fun σ H Q hh_=>hh_.elim fun F ρ Qp er q k=>⟨F,ρ,_,er,q,fun p v F1 H1 h1 g1 r1=>by
 obtain⟨b,rfl,rfl,h⟩:=h1.rd (H:=H1) (.frz r1)
 exact⟨b,rfl,k _ F1 H1 h g1⟩⟩
theorem xi (ha:PuB X a tA):PuW X (.BoolOp .And [a] pos) tA:=A0 ha
theorem AH (ha:PuB X a tA):PuW X (.BoolOp .Or [a] pos) tA:=Iw ha
theorem BN (ha:PuB X a tA)(hb:PuW X (.BoolOp .And (b::bN) pos) tB'):PuW X (.BoolOp .And (a::b::bN) pos) (LD tA tB'):=PW.weak (Gd ha hb) fun σ H Q hh_=>hh_.elim fun F ρ Qp er q k=>⟨F,ρ,_,er,q,fun b F1 H1 h1 g1=>by
 cases b with
 |true=>exact⟨F1,ρ,Qp,er.grow g1,by simpa using h1,fun b F' H' hp g=>k b F' H' hp (g1.trans g)⟩
 |false=>exact k _ F1 H1 (by simpa using h1) g1⟩
theorem Jq (ha:PuB X a tA)(hb:PuW X (.BoolOp .Or (b::bN) pos) tB'):PuW X (.BoolOp .Or (a::b::bN) pos) (Nk tA tB'):=PW.weak (JI ha hb) fun σ H Q hh_=>hh_.elim fun F ρ Qp er q k=>⟨F,ρ,_,er,q,fun b F1 H1 h1 g1=>by
 cases b with
 |false=>exact⟨F1,ρ,Qp,er.grow g1,by simpa using h1,fun b F' H' hp g=>k b F' H' hp (g1.trans g)⟩
 |true=>exact k _ F1 H1 (by simpa using h1) g1⟩
theorem JM (h:PuW X e tA):PuB X e tA:=PW.pt h
theorem AR (ha:PuB X a tA):PuB X (.UnaryOp .Not a pos) (KZ tA):=PT.weak (Gs ha) fun σ H Q hh_=>hh_.elim fun F ρ Qp er q k=>⟨F,ρ,_,er,q,fun b F1 H1 h1 g1=>k _ F1 H1 h1 g1⟩
theorem HL (hc:PuB X c tA)(ha:dr X a ta)(hb:dr X b tb):dr X (.IfExp c a b pos) (OU tA ta tb):=PE.weak (xa hc ha hb) fun σ H Q hh_=>hh_.elim fun F ρ Qp er q k=>⟨F,ρ,_,er,q,fun b F1 H1 h1 g1=>by
 cases b with
 |true=>exact⟨F1,ρ,Qp,er.grow g1,by simpa using h1,fun p v F' H' hp g r=>k p v F' H' hp (g1.trans g) r⟩
 |false=>exact⟨F1,ρ,Qp,er.grow g1,by simpa using h1,fun p v F' H' hp g r=>k p v F' H' hp (g1.trans g) r⟩⟩
noncomputable def o0 (g g':fE)(ta tb tc:cY):cY:=fun ρ Q=>ta ρ fun x=>tb ρ fun y=>g x y fun z=>OkB z fun k=>if k=true then tc ρ fun w=>g' y w Q else Q (.bl false)
theorem la {r r':R2}{g g':fE}(hg:df X.K r g)(hg':df X.K r' g'):∀σ H Q,lE X.K (o0 g g' ta tb tc) σ H Q->lb r r' (lT X.K ta) (lT X.K tb) (lT X.K tc) σ H Q:=fun σ H Q hh_=>hh_.elim fun F ρ Qp er q k=>
 ⟨F,ρ,_,er,q,fun p v F1 H1 q1 g1 r1=>⟨F1,ρ,_,er.grow g1,q1,fun p2 v2 F2 H2 q2 g2 r2=>
  hg F2 H2 v v2 p p2 _ _ g2.fh (r1.grow g2) r2 q2 fun z u F3 H3 qz g3 r3=>by
   obtain⟨b,rfl,rfl,h⟩:=OkB.rd (H:=H3) qz (.frz r3)
   refine⟨b,rfl,?_⟩
   have gg:=(g1.trans g2).trans g3
   cases b with
   |true=>exact⟨F3,ρ,_,er.grow gg,by simpa using h,fun p4 v4 F4 H4 q4 g4 r4=>hg' F4 H4 v2 v4 p2 p4 Qp Q g4.fh (r2.grow (g3.trans g4)) r4 q4 fun z u F5 H5 qz g5 r5=>k z u F5 H5 qz ((gg.trans g4).trans g5) r5⟩
   |false=>exact k (.bl false) _ F3 H3 (by simpa using h) gg rfl⟩⟩
theorem zO {op op':CmpOp}{r r':R2}{g g':fE}(ho:eQ X (compareOp op) r)(hg:df X.K r g)(ho':eQ X (compareOp op') r')(hg':df X.K r' g')(ha:d6 X a ta)(hb:d6 X b tb)(hc:d6 X c tc)
  (hm:lastMarks [op,op'] [b,c]=false:=by with_unfolding_all rfl):dr X (.Compare a [op,op'] [b,c] pos) (o0 g g' ta tb tc):=PE.weak (yU ho ho' ha hb hc hm) (la hg hg')
theorem uL {op op':CmpOp}{r r':R2}{g g':fE}(ho:eQ X (compareOp op) r)(hg:df X.K r g)(ho':eQ X (compareOp op') r')(hg':df X.K r' g')(ha:d6 X a ta)(hb:d6 X b tb)(hc:d6 X c tc)
  (hm:lastMarks [op,op'] [b,c]=false:=by with_unfolding_all rfl):PuB X (.Compare a [op,op'] [b,c] pos) (xM (o0 g g' ta tb tc)):=PT.weak (xJ ho ho' ha hb hc hm) fun σ H Q hh_=>hh_.elim fun F ρ Qp er q k=>la hg hg' σ H _ ⟨F,ρ,_,er,q,fun p v F' H' hp g r=>by
  obtain⟨b,rfl,rfl,q⟩:=hp.rd (H:=H') (.frz r)
  exact⟨b,rfl,k b F' H' q g⟩⟩
noncomputable def Nn (ta:cY):cY:=fun ρ Q=>ta ρ fun x=>OkI x fun i=>Q (.int (-i))
theorem Jo (ha:dr X a ta):dr X (.UnaryOp .USub a pos) (Nn ta):=PE.weak (D9 xV ha) fun σ H Q hh_=>hh_.elim fun F ρ Qp er q k=>⟨F,ρ,_,er,q,fun p v F1 H1 h1 g1 r1=>by
 obtain⟨i,rfl,rfl,h⟩:=h1.rd (H:=H1) (.frz r1)
 exact⟨i,rfl,k _ _ F1 H1 h g1 rfl⟩⟩
inductive RdVs (K:PySem.W.Frag) (F H:Hp):List PV->List V->Prop where
 |nil:RdVs K F H [] []
 |cons {p:PV} {v:V} {ps:List PV} {vs:List V}:RdV K F H p v->RdVs K F H ps vs->RdVs K F H (p::ps) (v::vs)
noncomputable def lAT (K:PySem.W.Frag)(te:fG):TA:=fun σ H Q=>∃F ρ,∃Qp:List PV->Prop,ER K F H σ ρ/\te ρ Qp/\∀ps vs F' H',Qp ps->Grow F H F' H'->RdVs K F' H' ps vs->Q vs H'
theorem lAT.elim {K:PySem.W.Frag}{te:fG}{σ:St}{H:Hp}{Q:List V->Hp->Prop}{C:Prop}(h:lAT K te σ H Q)(k:∀F ρ (Qp:List PV->Prop),ER K F H σ ρ->te ρ Qp->(∀ps vs F' H',Qp ps->Grow F H F' H'->RdVs K F' H' ps vs->Q vs H')->C):C:=by obtain⟨F,ρ,Qp,a,b,c⟩:=h;exact k F ρ Qp a b c
noncomputable def uO (X:Cx)(es:List Expr)(te:fG):Prop:=PA X es (lAT X.K te)
noncomputable def JZ:fG:=fun _ Q=>Q []
noncomputable def Eg (te:cY)(t:fG):fG:=fun ρ Q=>te ρ fun p=>t ρ fun ps=>Q (p::ps)
variable {es:List Expr}{t:fG}
theorem AM:Ea X [] JZ:=PA.weak pf fun σ H Q hh_=>hh_.elim fun F ρ Qp er q k=>k _ _ F H q (.refl er.fz) rfl
theorem wy (hn:NS e)(he:dr X e te)(ht:Ea X es t):Ea X (e::es) (Eg te t):=PA.weak (fj hn he ht) fun σ H Q hh_=>hh_.elim fun F ρ Qp er q k=>⟨F,ρ,_,er,q,fun p v F1 H1 h1 g1 r1=>
 ⟨F1,ρ,_,er.grow g1,h1,fun ps vs F2 H2 h2 g2 r2=>k _ _ F2 H2 h2 (g1.trans g2) ⟨v,vs,rfl,r1.mono g2.ff,r2⟩⟩⟩
theorem yn:uO X [] JZ:=PA.weak pf fun σ H Q hh_=>hh_.elim fun F ρ Qp er q k=>k _ _ F H q (.refl er.fz) .nil
theorem ux (hn:NS e)(he:d6 X e te)(ht:uO X es t):uO X (e::es) (Eg te t):=PA.weak (fj hn he ht) fun σ H Q hh_=>hh_.elim fun F ρ Qp er q k=>⟨F,ρ,_,er,q,fun p v F1 H1 h1 g1 r1=>
 ⟨F1,ρ,_,er.grow g1,h1,fun ps vs F2 H2 h2 g2 r2=>k _ _ F2 H2 h2 (g1.trans g2) (.cons (r1.grow g2) r2)⟩⟩
noncomputable def NZ (t:fG):cY:=fun ρ Q=>t ρ fun ps=>ps.length≤sizeLine/\Q (.tup ps)
noncomputable def M8 (t:fG):oz:=fun ρ Q=>t ρ fun ps=>ps.length≤sizeLine/\Q ps
theorem Hv {x1}(h:Ea X es t):dr X (.Tuple es x1 pos) (NZ t):=PE.weak (FW h) fun σ H Q hh_=>hh_.elim fun F ρ Qp er q k=>⟨F,ρ,_,er,q,fun ps vs F1 H1 h1 g1 r1=>⟨by rw[r1.length];exact h1.1,fun p hp=>
 k (.tup ps) (.ref p) _ _ h1.2 (g1.trans (.new g1.fh hp _)) ⟨p,vs,rfl,ak,r1.mono (aY (g1.fh.free hp) _)⟩⟩⟩
theorem Gy (h:Ea X es t):rD X (.List es pos) (M8 t):=PE.weak (G5 h) fun σ H Q hh_=>hh_.elim fun F ρ Qp er q k=>⟨F,ρ,_,er,q,fun ps vs F1 H1 h1 g1 r1=>⟨by rw[r1.length];exact h1.1,fun p hp=>
 k ps p vs F1 _ h1.2 (g1.trans (.newO g1.fh hp _)) (g1.hh.free hp) (g1.fh.free hp) ak r1⟩⟩
noncomputable def items:PV->Option (List PV)
 |.tup ps=>some ps
 |.lst ps=>some ps
 |.src ps=>some ps
 |.ktu ps=>some ps
 |_=>none
noncomputable def OkS (p:PV)(Q:List PV->Prop):Prop:=match items p with
 |some ps=>Q ps
 |none=>False
noncomputable def OkO {α:Type}(o:Option α)(Q:α->Prop):Prop:=match o with
 |some x=>Q x
 |none=>False
theorem OkO.ex {α:Type}{o:Option α}{Q:α->Prop}(h:OkO o Q):∃x,o=some x/\Q x:=by
 cases o with
 |none=>exact h.elim
 |some x=>exact⟨x,rfl,h⟩
theorem OkS.rd {K:PySem.W.Frag}{F H:Hp}{p:PV}{v:V}{Q:List PV->Prop}(h:OkS p Q)(s:Same F H)(r:RdV K F H p v):∃a vs ps,v=.ref a/\(SqL K H a vs\/SqT K H a vs)/\items p=some ps/\Reps K F ps vs/\Q ps:=by
 unfold OkS at h
 cases r with
 |frz r=>
  cases p<;>first|exact h.elim|skip
  ·obtain⟨a,vs,rfl,e,r⟩:=r;exact⟨a,vs,_,rfl,.inr (SqT.of (s _ _ e)),rfl,r,h⟩
  ·obtain⟨a,vs,rfl,e,r⟩:=r;exact⟨a,vs,_,rfl,.inl (SqL.of (s _ _ e)),rfl,r,h⟩
  ·obtain⟨a,vs,rfl,e,r⟩:=r;exact⟨a,vs,_,rfl,.inl (s.seq e),rfl,r,h⟩
  ·obtain⟨a,vs,rfl,e,r⟩:=r;exact⟨a,vs,_,rfl,.inr (uS s e),rfl,r,h⟩
 |own h1 h2 h3=>exact⟨_,_,_,rfl,.inl (SqL.of h1),rfl,h3,h⟩
 |dic=>exact h.elim
theorem Reps.atI {K:PySem.W.Frag}{F:Hp}{ps:List PV}{vs:List V}{i:Int}{p:PV}(h:Reps K F ps vs)(e:L2.atI ps i=some p):∃v,L2.atI vs i=some v/\Rep K F p v:=by
 unfold L2.atI at e ⊢
 rw[h.length]
 cases q:oH ps.length i with
 |none=>rw[q] at e;cases e
 |some j=>rw[q] at e;exact h.get e
noncomputable def Od:fE:=fun x y Q=>OkI y fun i=>match x with
 |.str z=>z.length≤sizeLine/\OkO (L2.atI z.cps.toList i) fun c=>Q (.str ⟨#[c]⟩)
 |p=>OkS p fun ps=>OkO (L2.atI ps i) Q
theorem Ly:df X.K (bx X.K) Od:=fun F H x y p q Qp Q s rx ry h k=>by
 obtain⟨i,rfl,rfl,h⟩:=OkI.rd h ry
 by_cases hz:∃z,p=.str z
 ·obtain⟨z,rfl⟩:=hz
  obtain⟨h1,h2⟩:=h
  obtain⟨c,e,h2⟩:=h2.ex
  cases rx with
  |frz r=>exact .inr (.inr ⟨z,i,c,r,rfl,h1,e,k _ _ F H h2 (.refl s) rfl⟩)
 ·have h':OkS p fun ps=>OkO (L2.atI ps i) Qp:=by
   cases p<;>first|exact h|exact absurd ⟨_,rfl⟩ hz
  obtain⟨a,vs,ps,rfl,hs,_,r,h⟩:=h'.rd s rx
  obtain⟨z,e,h⟩:=h.ex
  obtain⟨v,e',r'⟩:=r.atI e
  rcases hs with hs|hs
  ·exact .inl ⟨a,vs,i,v,rfl,rfl,hs,e',k z v F H h (.refl s) r'⟩
  ·exact .inr (.inl ⟨a,vs,i,v,rfl,rfl,hs,e',k z v F H h (.refl s) r'⟩)
theorem Ei (ha:d6 X a ta)(hb:d6 X b tb)(hs:gX b):dr X (.Subscript a b pos) (pr Od ta tb):=PE.weak (DF HZ ha hb hs) (iT Ly)
noncomputable abbrev uP:=ai->(Option Int->Prop)->Prop
noncomputable def lO (K:PySem.W.Frag)(te:uP):TO:=fun σ H Q=>∃F ρ,∃Qp:Option Int->Prop,ER K F H σ ρ/\te ρ Qp/\∀b F' H',Qp b->Grow F H F' H'->Q b H'
theorem lO.elim {K:PySem.W.Frag}{te:uP}{σ:St}{H:Hp}{Q:Option Int->Hp->Prop}{C:Prop}(h:lO K te σ H Q)(k:∀F ρ (Qp:Option Int->Prop),ER K F H σ ρ->te ρ Qp->(∀b F' H',Qp b->Grow F H F' H'->Q b H')->C):C:=by obtain⟨F,ρ,Qp,a,b,c⟩:=h;exact k F ρ Qp a b c
noncomputable def zh (X:Cx)(e:Option Expr)(te:uP):Prop:=PO X e (lO X.K te)
theorem PO.weak {X:Cx}{e:Option Expr}{t t':TO}(h:PO X e t)(w:∀σ H Q,t' σ H Q->t σ H Q):PO X e t':=fun pins s σ H Q I q=>h pins s σ H _ I (w σ H _ q)
noncomputable def Cn:uP:=fun _ Q=>Q none
noncomputable def Li (te:cY):uP:=fun ρ Q=>te ρ fun x=>OkI x fun i=>Q (some i)
theorem xC:zh X none Cn:=PO.weak Ay fun σ H Q hh_=>hh_.elim fun F ρ Qp er q k=>k _ F H q (.refl er.fz)
theorem xm (h:dr X e te):zh X (some e) (Li te):=PO.weak (Da h) fun σ H Q hh_=>hh_.elim fun F ρ Qp er q k=>⟨F,ρ,_,er,q,fun p v F1 H1 h1 g1 r1=>by
 obtain⟨i,rfl,rfl,h⟩:=h1.rd (H:=H1) (.frz r1)
 exact⟨i,rfl,k _ F1 H1 h g1⟩⟩
noncomputable def cut {α:Type}(xs:List α)(lo hi:Option Int):List α:=(xs.drop (HT.sIx xs.length 0 lo)).take (HT.sIx xs.length xs.length hi - HT.sIx xs.length 0 lo)
theorem Reps.cut {K:PySem.W.Frag}{F:Hp}{ps:List PV}{vs:List V}{lo hi:Option Int}(h:Reps K F ps vs):Reps K F (cut ps lo hi) (pX vs lo hi):=by
 unfold Pu.cut pX
 rw[h.length]
 exact (h.drop _).take _
noncomputable def OkL:PV->(List PV->Prop)->Prop
 |.lst ps,Q=>Q ps
 |.src ps,Q=>Q ps
 |_,_=>False
theorem OkL.rd {K:PySem.W.Frag}{F H:Hp}{p:PV}{v:V}{Q:List PV->Prop}(h:OkL p Q)(s:Same F H)(r:RdV K F H p v):∃a vs ps,v=.ref a/\SqL K H a vs/\Reps K F ps vs/\Q ps:=by
 cases r with
 |frz r=>
  cases p<;>first|exact h.elim|skip
  ·obtain⟨a,vs,rfl,e,r⟩:=r;exact⟨a,vs,_,rfl,SqL.of (s _ _ e),r,h⟩
  ·obtain⟨a,vs,rfl,e,r⟩:=r;exact⟨a,vs,_,rfl,s.seq e,r,h⟩
 |own h1 h2 h3=>exact⟨_,_,_,rfl,SqL.of h1,h3,h⟩
 |dic=>exact h.elim
noncomputable def OkT:PV->(List PV->Prop)->Prop
 |.tup ps,Q=>Q ps
 |_,_=>False
theorem OkT.rd {K:PySem.W.Frag}{F H:Hp}{p:PV}{v:V}{Q:List PV->Prop}(h:OkT p Q)(r:RdV K F H p v):∃a vs ps,p=.tup ps/\v=.ref a/\F a=some (.tup vs)/\Reps K F ps vs/\Q ps:=by
 cases p<;>first|exact h.elim|skip
 cases r with
 |frz r=>obtain⟨a,vs,rfl,e,r⟩:=r;exact⟨a,vs,_,rfl,rfl,e,r,h⟩
noncomputable def OC (te:cY)(tl th:uP):oz:=fun ρ Q=>te ρ fun x=>tl ρ fun l=>th ρ fun h=>OkL x fun ps=>Q (cut ps l h)
theorem Hw {lo hi:Option Expr}{tl th:uP}{p2:Pos}(he:d6 X e te)(hl:zh X lo tl)(hh:zh X hi th):rD X (.Subscript e (.Slice lo hi none p2) pos) (OC te tl th):=PE.weak (lj CD he hl hh) fun σ H Q hh_=>hh_.elim fun F ρ Qp er q k=>⟨F,ρ,_,er,q,fun p v F1 H1 h1 g1 r1=>
 ⟨F1,ρ,_,er.grow g1,h1,fun l F2 H2 h2 g2=>⟨F2,ρ,_,(er.grow g1).grow g2,h2,fun h F3 H3 h3 g3=>by
  have gg:=(g1.trans g2).trans g3
  obtain⟨a,vs,ps,rfl,hs,r,q⟩:=h3.rd gg.fh (r1.grow (g2.trans g3))
  refine⟨a,vs,rfl,hs,fun p hp=>k _ p _ F3 _ q (gg.trans (.newO gg.fh hp _)) (gg.hh.free hp) (gg.fh.free hp) ak r.cut⟩⟩⟩⟩
end
end Pu
end
section
namespace Pu
open PySem PySem.Spec L2 PySem.SeqAt
mutual
noncomputable def au:PV->Bool
 |.non=>true
 |.bl _=>true
 |.int _=>true
 |.str _=>true
 |.tup ps=>ao ps
 |.lst ps=>ao ps
 |_=>false
noncomputable def ao:List PV->Bool
 |[]=>true
 |p::ps=>au p&&ao ps
end
mutual
noncomputable def jb:PV->Nat
 |.tup ps=>bw ps+1
 |.lst ps=>bw ps+1
 |_=>0
noncomputable def bw:List PV->Nat
 |[]=>0
 |p::ps=>max (jb p) (bw ps)
end
mutual
noncomputable def eR:PV->PV->Bool
 |.tup ps,q=>match q with
  |.tup qs=>eO ps qs
  |_=>false
 |.lst ps,q=>match q with
  |.lst qs=>eO ps qs
  |_=>false
 |p,q=>bQ q&&wU (gD p) (gD q)
noncomputable def eO:List PV->List PV->Bool
 |[],qs=>match qs with
  |[]=>true
  |_::_=>false
 |p::ps,qs=>match qs with
  |[]=>false
  |q::qs=>eR p q&&eO ps qs
end
theorem eB:∀(ps qs:List PV),((List.range (min ps.length qs.length)).all (fun j=>eR (ps.getD j .non) (qs.getD j .non))&&ps.length==qs.length)=eO ps qs
 |[],[]=>by simp[eO]
 |[],_::_=>by simp[eO]
 |_::_,[]=>by simp[eO]
 |p::ps,q::qs=>by
  have ih:=eB ps qs
  rw[eO,←ih]
  rw[show min (p::ps).length (q::qs).length=min ps.length qs.length+1 by simp only[List.length_cons];omega,List.range_succ_eq_map,List.all_cons,List.all_map]
  simp[Bool.and_assoc,Function.comp_def]
theorem jG {ps qs:List PV}(h:ps.length=qs.length):(List.range ps.length).all (fun j=>eR (ps.getD j .non) (qs.getD j .non))=eO ps qs:=by
 rw[←eB,←h,Nat.min_self];simp
theorem kz {ps qs:List PV}(h:ps.length≠qs.length):eO ps qs=false:=by
 rw[←eB,(show (ps.length==qs.length)=false by simpa using h),Bool.and_false]
mutual
noncomputable def Dv (s:Shared):PV->Value->Prop
 |.tup ps,u=>∃a its,u=.ref a/\s.heap.IsTuple a its.toArray/\Dvs s ps its
 |.lst ps,u=>∃a its,u=.ref a/\s.heap.IsList a its.toArray/\Dvs s ps its
 |p,u=>RelV (gD p) u
noncomputable def Dvs (s:Shared):List PV->List Value->Prop
 |[],us=>us=[]
 |p::ps,us=>∃u r,us=u::r/\Dv s p u/\Dvs s ps r
end
theorem Dvs.length {s:Shared}:∀{ps:List PV} {us:List Value},Dvs s ps us->us.length=ps.length
 |[],_,h=>by rw[show _=[] from h];rfl
 |_::_,_,⟨u,r,e,_,t⟩=>by rw[e,List.length_cons,List.length_cons,t.length]
section
variable {X:Cx}{pins:List (Addr×Obj)}{σ:L2.St}{F H:Hp}{s:Shared}
mutual
theorem En (I:L2.Inv X pins σ H s)(sf:Same F H):∀{p:PV} {v:V} {u:Value},au p=true->Rep X.K F p v->RelV v u->Dv s p u
 |.non,_,_,_,h,r=>by rw[show _=_ from h] at r;exact r
 |.bl _,_,_,_,h,r=>by rw[show _=_ from h] at r;exact r
 |.int _,_,_,_,h,r=>by rw[show _=_ from h] at r;exact r
 |.str _,_,_,_,h,r=>by rw[show _=_ from h] at r;exact r
 |.tup ps,_,_,hp,⟨a,vs,e,hF,rs⟩,r=>by
  subst e
  obtain⟨its,rv,pl,hz⟩:=I.tuple (SqT.of (sf _ _ hF))
  exact⟨a,its,r,pl,gH I sf hp rs rv⟩
 |.lst ps,_,_,hp,⟨a,vs,e,hF,rs⟩,r=>by
  subst e
  obtain⟨its,rv,pl,hz⟩:=I.list (SqL.of (sf _ _ hF))
  exact⟨a,its,r,pl.isList,gH I sf hp rs rv⟩
 |.ty _,_,_,hp,_,_=>absurd hp Bool.false_ne_true
 |.fn _,_,_,hp,_,_=>absurd hp Bool.false_ne_true
 |.dct _ _,_,_,hp,_,_=>absurd hp Bool.false_ne_true
 |.src _,_,_,hp,_,_=>absurd hp Bool.false_ne_true
 |.ktu _,_,_,hp,_,_=>absurd hp Bool.false_ne_true
 |.rng _ _,_,_,hp,_,_=>absurd hp Bool.false_ne_true
theorem gH (I:L2.Inv X pins σ H s)(sf:Same F H):∀{ps:List PV} {vs:List V} {us:List Value},ao ps=true->Reps X.K F ps vs->Vals vs us->Dvs s ps us
 |[],_,_,_,h,r=>by rw[show _=[] from h] at r;cases r;rfl
 |p::ps,_,_,hp,⟨v,t,e,h1,h2⟩,r=>by
  subst e
  cases r with
  |cons r1 r2=>
   rw[ao,Bool.and_eq_true] at hp
   exact⟨_,_,rfl,En I sf hp.1 h1 r1,gH I sf hp.2 h2 r2⟩
end
theorem m8 (I:L2.Inv X pins σ H s)(sf:Same F H){p:PV}{v:V}{u:Value}(hp:au p=true)(h:RdV X.K F H p v)(r:RelV v u):Dv s p u:=by
 cases h with
 |frz h=>exact En I sf hp h r
 |own h1 h2 h3=>
  obtain⟨its,rv,pl,hz⟩:=I.list (SqL.of h1)
  exact⟨_,its,r,pl.isList,gH I sf hp h3 rv⟩
 |dic=>exact absurd hp Bool.false_ne_true
end
theorem ja {p:PV}(h1:bQ p=true)(h2:au p=true):kR (gD p)=true:=by
 cases p<;>first|rfl|exact absurd h1 Bool.false_ne_true|exact absurd h2 Bool.false_ne_true
theorem Co {A:Around}{s:Shared}{y x:V}{u v:Value}(ry:RelV y u)(rx:RelV x v)(fy:kR y=true)(fx:kR x=true):RcAt A s u v (wU y x):=by
 cases y with
 |non=>
  cases ry
  cases x with
  |non=>cases rx;exact RcAt.none_none
  |bl b=>cases rx;exact RcAt.none_bool b
  |int b=>obtain⟨t,rfl⟩:=rx;exact RcAt.none_int b t
  |str b=>obtain⟨t,rfl⟩:=rx;exact RcAt.none_str b t
  |_=>exact absurd (show false=true from fx) Bool.false_ne_true
 |bl a=>
  cases ry
  cases x with
  |non=>cases rx;exact RcAt.bool_none a
  |bl b=>cases rx;exact RcAt.bool_bool a b
  |int b=>obtain⟨t,rfl⟩:=rx;exact RcAt.bool_int a b t
  |str b=>obtain⟨t,rfl⟩:=rx;exact RcAt.bool_str a b t
  |_=>exact absurd (show false=true from fx) Bool.false_ne_true
 |int a=>
  obtain⟨t',rfl⟩:=ry
  cases x with
  |non=>cases rx;exact RcAt.int_none a t'
  |bl b=>cases rx;exact RcAt.int_bool a t' b
  |int b=>obtain⟨t,rfl⟩:=rx;exact RcAt.int_int a t' b t
  |str b=>obtain⟨t,rfl⟩:=rx;exact RcAt.int_str a t' b t
  |_=>exact absurd (show false=true from fx) Bool.false_ne_true
 |str a=>
  obtain⟨t',rfl⟩:=ry
  cases x with
  |non=>cases rx;exact RcAt.str_none a t'
  |bl b=>cases rx;exact RcAt.str_bool a t' b
  |int b=>obtain⟨t,rfl⟩:=rx;exact RcAt.str_int a t' b t
  |str b=>obtain⟨t,rfl⟩:=rx;exact RcAt.str_str a t' b t
  |_=>exact absurd (show false=true from fx) Bool.false_ne_true
 |_=>exact absurd (show false=true from fy) Bool.false_ne_true
theorem Bu {A:Around}{s:Shared}{y x:V}{u v:Value}(ry:RelV y u)(rx:RelV x v)(fy:kR y=true)(fx:kR x=true):RcNeAt A s u v (!wU y x):=by
 cases y with
 |non=>
  cases ry
  cases x with
  |non=>cases rx;exact RcNeAt.none_none
  |bl b=>cases rx;exact RcNeAt.none_bool b
  |int b=>obtain⟨t,rfl⟩:=rx;exact RcNeAt.none_int b t
  |str b=>obtain⟨t,rfl⟩:=rx;exact RcNeAt.none_str b t
  |_=>exact absurd (show false=true from fx) Bool.false_ne_true
 |bl a=>
  cases ry
  cases x with
  |non=>cases rx;exact RcNeAt.bool_none a
  |bl b=>cases rx;exact RcNeAt.bool_bool a b
  |int b=>obtain⟨t,rfl⟩:=rx;exact RcNeAt.bool_int a b t
  |str b=>obtain⟨t,rfl⟩:=rx;exact RcNeAt.bool_str a b t
  |_=>exact absurd (show false=true from fx) Bool.false_ne_true
 |int a=>
  obtain⟨t',rfl⟩:=ry
  cases x with
  |non=>cases rx;exact RcNeAt.int_none a t'
  |bl b=>cases rx;exact RcNeAt.int_bool a t' b
  |int b=>obtain⟨t,rfl⟩:=rx;exact RcNeAt.int_int a t' b t
  |str b=>obtain⟨t,rfl⟩:=rx;exact RcNeAt.int_str a t' b t
  |_=>exact absurd (show false=true from fx) Bool.false_ne_true
 |str a=>
  obtain⟨t',rfl⟩:=ry
  cases x with
  |non=>cases rx;exact RcNeAt.str_none a t'
  |bl b=>cases rx;exact RcNeAt.str_bool a t' b
  |int b=>obtain⟨t,rfl⟩:=rx;exact RcNeAt.str_int a t' b t
  |str b=>obtain⟨t,rfl⟩:=rx;exact RcNeAt.str_str a t' b t
  |_=>exact absurd (show false=true from fx) Bool.false_ne_true
 |_=>exact absurd (show false=true from fy) Bool.false_ne_true
theorem qa {p q:PV}(hp:bQ p=true):eR p q=(bQ q&&wU (gD p) (gD q)):=by
 cases p<;>first|rfl|exact absurd hp Bool.false_ne_true
mutual
theorem qd:∀{p:PV},au p=true->eR p p=true
 |.non,_=>rfl
 |.bl b,_=>by simp[eR,bQ,gD,wU]
 |.int b,_=>by simp[eR,bQ,gD,wU]
 |.str b,_=>by simp[eR,bQ,gD,wU]
 |.tup ps,h=>jy (ps:=ps) h
 |.lst ps,h=>jy (ps:=ps) h
 |.ty _,h=>absurd h Bool.false_ne_true
 |.fn _,h=>absurd h Bool.false_ne_true
 |.dct _ _,h=>absurd h Bool.false_ne_true
 |.src _,h=>absurd h Bool.false_ne_true
 |.ktu _,h=>absurd h Bool.false_ne_true
 |.rng _ _,h=>absurd h Bool.false_ne_true
theorem jy:∀{ps:List PV},ao ps=true->eO ps ps=true
 |[],_=>rfl
 |p::ps,h=>by
  rw[ao,Bool.and_eq_true] at h
  rw[eO,qd h.1,jy h.2];rfl
end
theorem AK {h:Heap}{a:Addr}{x y:List Value}(h1:h.IsTuple a x.toArray)(h2:h.IsTuple a y.toArray):x=y:=by
 obtain⟨o,e,_,n,d⟩:=h1
 obtain⟨o',e',_,n',d'⟩:=h2
 rw[e] at e';cases e'
 rw[d] at d'
 injection d' with d1 _
 simpa using congrArg Array.toList d1
theorem Cw {h:Heap}{a:Addr}{x y:List Value}(h1:h.IsList a x.toArray)(h2:h.IsList a y.toArray):x=y:=by
 obtain⟨o,e,_,n,d⟩:=h1
 obtain⟨o',e',_,n',d'⟩:=h2
 rw[e] at e';cases e'
 rw[d] at d'
 injection d' with d1 _
 simpa using congrArg Array.toList d1
mutual
theorem Dv.inj {s:Shared}:∀{p q:PV} {u:Value},au p=true->au q=true->Dv s p u->Dv s q u->p=q
 |.tup ps,q,_,hp,hq,⟨a,its,e,h1,h2⟩,d=>by
  subst e
  cases q with
  |tup qs=>
   obtain⟨a',its',e',h1',h2'⟩:=d
   cases e'
   have:=AK h1 h1'
   subst this
   rw[Dvs.inj hp hq h2 h2']
  |lst qs=>
   obtain⟨a',its',e',h1',h2'⟩:=d
   cases e'
   exact absurd rfl (ne_of_list_tuple h1' h1)
  |non=>cases (show Value.ref a=_ from d)
  |bl b=>cases (show Value.ref a=_ from d)
  |int b=>obtain⟨t,e⟩:=d;cases e
  |str b=>obtain⟨t,e⟩:=d;cases e
  |_=>exact absurd hq Bool.false_ne_true
 |.lst ps,q,_,hp,hq,⟨a,its,e,h1,h2⟩,d=>by
  subst e
  cases q with
  |lst qs=>
   obtain⟨a',its',e',h1',h2'⟩:=d
   cases e'
   have:=Cw h1 h1'
   subst this
   rw[Dvs.inj hp hq h2 h2']
  |tup qs=>
   obtain⟨a',its',e',h1',h2'⟩:=d
   cases e'
   exact absurd rfl (ne_of_list_tuple h1 h1')
  |non=>cases (show Value.ref a=_ from d)
  |bl b=>cases (show Value.ref a=_ from d)
  |int b=>obtain⟨t,e⟩:=d;cases e
  |str b=>obtain⟨t,e⟩:=d;cases e
  |_=>exact absurd hq Bool.false_ne_true
 |.non,q,_,hp,hq,d,d'=>by
  cases (show _=Value.none from d)
  cases q with
  |non=>rfl
  |bl b=>cases (show Value.none=_ from d')
  |int b=>obtain⟨t,e⟩:=d';cases e
  |str b=>obtain⟨t,e⟩:=d';cases e
  |tup qs=>obtain⟨a,its,e,_⟩:=d';cases e
  |lst qs=>obtain⟨a,its,e,_⟩:=d';cases e
  |_=>exact absurd hq Bool.false_ne_true
 |.bl x,q,_,hp,hq,d,d'=>by
  cases (show _=Value.bool x from d)
  cases q with
  |non=>cases (show Value.bool x=_ from d')
  |bl b=>cases (show Value.bool x=Value.bool b from d');rfl
  |int b=>obtain⟨t,e⟩:=d';cases e
  |str b=>obtain⟨t,e⟩:=d';cases e
  |tup qs=>obtain⟨a,its,e,_⟩:=d';cases e
  |lst qs=>obtain⟨a,its,e,_⟩:=d';cases e
  |_=>exact absurd hq Bool.false_ne_true
 |.int x,q,_,hp,hq,⟨t,d⟩,d'=>by
  subst d
  cases q with
  |non=>cases (show Value.int x t=_ from d')
  |bl b=>cases (show Value.int x t=Value.bool b from d')
  |int b=>obtain⟨t,e⟩:=d';cases e;rfl
  |str b=>obtain⟨t,e⟩:=d';cases e
  |tup qs=>obtain⟨a,its,e,_⟩:=d';cases e
  |lst qs=>obtain⟨a,its,e,_⟩:=d';cases e
  |_=>exact absurd hq Bool.false_ne_true
 |.str x,q,_,hp,hq,⟨t,d⟩,d'=>by
  subst d
  cases q with
  |non=>cases (show Value.str x t=_ from d')
  |bl b=>cases (show Value.str x t=Value.bool b from d')
  |int b=>obtain⟨t,e⟩:=d';cases e
  |str b=>obtain⟨t,e⟩:=d';cases e;rfl
  |tup qs=>obtain⟨a,its,e,_⟩:=d';cases e
  |lst qs=>obtain⟨a,its,e,_⟩:=d';cases e
  |_=>exact absurd hq Bool.false_ne_true
 |.ty _,_,_,h,_,_,_=>absurd h Bool.false_ne_true
 |.fn _,_,_,h,_,_,_=>absurd h Bool.false_ne_true
 |.dct _ _,_,_,h,_,_,_=>absurd h Bool.false_ne_true
 |.src _,_,_,h,_,_,_=>absurd h Bool.false_ne_true
 |.ktu _,_,_,h,_,_,_=>absurd h Bool.false_ne_true
 |.rng _ _,_,_,h,_,_,_=>absurd h Bool.false_ne_true
theorem Dvs.inj {s:Shared}:∀{ps qs:List PV} {us:List Value},ao ps=true->ao qs=true->Dvs s ps us->Dvs s qs us->ps=qs
 |[],qs,_,_,_,h,h'=>by
  cases (show _=[] from h)
  cases qs with
  |nil=>rfl
  |cons q qs=>obtain⟨u,r,e,_⟩:=h';cases e
 |p::ps,qs,_,hp,hq,⟨u,r,e,d1,d2⟩,h'=>by
  subst e
  cases qs with
  |nil=>cases (show _=[] from h')
  |cons q qs=>
   obtain⟨u',r',e',d1',d2'⟩:=h'
   cases e'
   rw[ao,Bool.and_eq_true] at hp hq
   rw[Dv.inj hp.1 hq.1 d1 d1',Dvs.inj hp.2 hq.2 d2 d2']
end
theorem Dv.flat' {s:Shared}{p:PV}{u:Value}(hf:bQ p=true)(h:Dv s p u):RelV (gD p) u:=by
 cases p<;>first|exact h|exact absurd hf Bool.false_ne_true
theorem t5 {s:Shared}{p q:PV}{A:Around}{u v:Value}(hf:bQ p=true)(hp:au p=true)(hq:au q=true)(hd:A.units<cLine)(d:Dv s p u)(d':Dv s q v):RcAt A s u v (eR p q):=by
 rw[qa hf]
 cases hfq:bQ q with
 |true=>
  rw[Bool.true_and]
  exact Co (d.flat' hf) (d'.flat' hfq) (ja hf hp) (ja hfq hq)
 |false=>
  rw[Bool.false_and]
  have dp:=d.flat' hf
  cases q with
  |tup qs=>
   obtain⟨b,its2,e',h1',h2'⟩:=d'
   subst e'
   cases p with
   |non=>cases dp;exact RcAt.none_tuple h1' hd
   |bl x=>cases dp;exact RcAt.bool_tuple x h1' hd
   |int x=>obtain⟨t,rfl⟩:=dp;exact RcAt.int_tuple x t h1' hd
   |str x=>obtain⟨t,rfl⟩:=dp;exact RcAt.str_tuple x t h1' hd
   |_=>first|exact absurd hf Bool.false_ne_true|exact absurd hp Bool.false_ne_true
  |lst qs=>
   obtain⟨b,its2,e',h1',h2'⟩:=d'
   subst e'
   cases p with
   |non=>cases dp;exact RcAt.none_list h1' hd
   |bl x=>cases dp;exact RcAt.bool_list x h1' hd
   |int x=>obtain⟨t,rfl⟩:=dp;exact RcAt.int_list x t h1' hd
   |str x=>obtain⟨t,rfl⟩:=dp;exact RcAt.str_list x t h1' hd
   |_=>first|exact absurd hf Bool.false_ne_true|exact absurd hp Bool.false_ne_true
  |_=>first|exact absurd hfq.symm Bool.false_ne_true|exact absurd hq Bool.false_ne_true
theorem pN {s:Shared}{p q:PV}{A:Around}{u v:Value}(hp:au p=true)(hq:au q=true)(d:Dv s p u)(d':Dv s q v)(hd:A.units<cLine)(rc:RcAt A s u v (eR p q)):EqAt A s u v (eR p q):=by
 by_cases h:u=v
 ·subst h
  obtain rfl:=Dv.inj hp hq d d'
  rw[qd hp]
  exact EqAt.same _
 ·intro prog w E Q hQ
  unfold eqBool
  refine wpAny_holding ?_
  refine wpAny_ite_split (fun hab=>absurd (eq_of_beq hab) h) (fun _=>?_)
  have nf:∀b t,u≠Value.float b t:=fun b t e=>by
   subst e
   cases p with
   |tup ps=>obtain⟨_,_,e,_⟩:=d;cases e
   |lst ps=>obtain⟨_,_,e,_⟩:=d;cases e
   |non=>cases (show _=Value.none from d)
   |bl x=>cases (show _=Value.bool x from d)
   |int x=>obtain⟨_,e⟩:=d;cases e
   |str x=>obtain⟨_,e⟩:=d;cases e
   |_=>exact absurd hp Bool.false_ne_true
  cases u with
  |float b t=>exact absurd rfl (nf b t)
  |_=>exact wpAny_bind (rc prog w E _ (wpAny_truthy_bool hQ))
mutual
theorem IF {s:Shared}:∀{p q:PV} {A:Around} {u v:Value},au p=true->au q=true->A.units+jb p+1<cLine->Dv s p u->Dv s q v->RcAt A s u v (eR p q)
 |.tup ps,q,A,_,v,hp,hq,hd,⟨a,its,e,h1,h2⟩,d=>by
  subst e
  have l1:=h2.length
  cases q with
  |tup qs=>
   obtain⟨b,its2,e',h1',h2'⟩:=d
   subst e'
   have l2:=h2'.length
   have:=RcAt.tuples (A:=A) (s:=s) (e:=fun j=>eR (ps.getD j .non) (qs.getD j .non)) h1 h1' (by omega) (fun j k1 k2=>qu (ps:=ps) (qs:=qs) hp hq (by rw[jb] at hd;show A.units+1+bw ps+1<cLine;omega) h2 h2' j (by simp at k1;omega) (by simp at k2;omega) (by simpa using k1) (by simpa using k2))
   rw[List.size_toArray,List.size_toArray,l1,l2,eB] at this
   exact this
  |lst qs=>obtain⟨b,its2,e',h1',h2'⟩:=d;subst e';exact RcAt.tuple_list h1 h1' (by omega)
  |non=>cases (show _=Value.none from d);exact RcAt.tuple_none h1 (by omega)
  |bl b=>cases (show _=Value.bool b from d);exact RcAt.tuple_bool b h1 (by omega)
  |int b=>obtain⟨t,rfl⟩:=d;exact RcAt.tuple_int b t h1 (by omega)
  |str b=>obtain⟨t,rfl⟩:=d;exact RcAt.tuple_str b t h1 (by omega)
  |_=>exact absurd hq Bool.false_ne_true
 |.lst ps,q,A,_,v,hp,hq,hd,⟨a,its,e,h1,h2⟩,d=>by
  subst e
  have l1:=h2.length
  cases q with
  |lst qs=>
   obtain⟨b,its2,e',h1',h2'⟩:=d
   subst e'
   have l2:=h2'.length
   by_cases hl:ps.length=qs.length
   ·have:=RcAt.lists (A:=A) (s:=s) (e:=fun j=>eR (ps.getD j .non) (qs.getD j .non)) h1 h1' (by simp;omega) (by omega) (fun j k1 k2=>qu (ps:=ps) (qs:=qs) hp hq (by rw[jb] at hd;show A.units+1+bw ps+1<cLine;omega) h2 h2' j (by simp at k1;omega) (by simp at k2;omega) (by simpa using k1) (by simpa using k2))
    rw[List.size_toArray,l1,jG hl] at this
    exact this
   ·have:=RcAt.lists_lengths (A:=A) (s:=s) h1 h1' (by simp;omega) (by omega)
    rw[←kz hl] at this
    exact this
  |tup qs=>obtain⟨b,its2,e',h1',h2'⟩:=d;subst e';exact RcAt.list_tuple h1 h1' (by omega)
  |non=>cases (show _=Value.none from d);exact RcAt.list_none h1 (by omega)
  |bl b=>cases (show _=Value.bool b from d);exact RcAt.list_bool b h1 (by omega)
  |int b=>obtain⟨t,rfl⟩:=d;exact RcAt.list_int b t h1 (by omega)
  |str b=>obtain⟨t,rfl⟩:=d;exact RcAt.list_str b t h1 (by omega)
  |_=>exact absurd hq Bool.false_ne_true
 |.non,q,A,u,v,hp,hq,hd,d,d'=>t5 (p:=.non) rfl hp hq (by omega) d d'
 |.bl x,q,A,u,v,hp,hq,hd,d,d'=>t5 (p:=.bl x) rfl hp hq (by omega) d d'
 |.int x,q,A,u,v,hp,hq,hd,d,d'=>t5 (p:=.int x) rfl hp hq (by omega) d d'
 |.str x,q,A,u,v,hp,hq,hd,d,d'=>t5 (p:=.str x) rfl hp hq (by omega) d d'
 |.ty _,_,_,_,_,h,_,_,_,_=>absurd h Bool.false_ne_true
 |.fn _,_,_,_,_,h,_,_,_,_=>absurd h Bool.false_ne_true
 |.dct _ _,_,_,_,_,h,_,_,_,_=>absurd h Bool.false_ne_true
 |.src _,_,_,_,_,h,_,_,_,_=>absurd h Bool.false_ne_true
 |.ktu _,_,_,_,_,h,_,_,_,_=>absurd h Bool.false_ne_true
 |.rng _ _,_,_,_,_,h,_,_,_,_=>absurd h Bool.false_ne_true
theorem qu {s:Shared}:∀{ps qs:List PV} {A:Around} {us vs:List Value},ao ps=true->ao qs=true->A.units+bw ps+1<cLine->Dvs s ps us->Dvs s qs vs →
  ∀(j:Nat),j<ps.length->j<qs.length->(h1:j<us.length)->(h2:j<vs.length)->EqAt A s us[j] vs[j] (eR (ps.getD j .non) (qs.getD j .non))
 |[],_,_,_,_,_,_,_,_,_,_,h,_,_,_=>absurd h (Nat.not_lt_zero _)
 |p::ps,qs,A,_,_,hp,hq,hd,⟨u,r,e,d1,d2⟩,d',j,k1,k2,h1,h2=>by
  subst e
  cases qs with
  |nil=>exact absurd k2 (Nat.not_lt_zero _)
  |cons q qs=>
   obtain⟨v,r',e',d1',d2'⟩:=d'
   subst e'
   rw[ao,Bool.and_eq_true] at hp hq
   rw[bw] at hd
   cases j with
   |zero=>
    show EqAt A s u v (eR p q)
    have rc:=IF (p:=p) (q:=q) (A:=A) hp.1 hq.1 (by omega) d1 d1'
    exact pN hp.1 hq.1 d1 d1' (by omega) rc
   |succ j=>
    simp only[List.length_cons] at k1 k2 h1 h2
    have:=qu (ps:=ps) (qs:=qs) (A:=A) hp.2 hq.2 (by omega) d2 d2' j (by omega) (by omega) (by omega) (by omega)
    simpa using this
end
end Pu
end
section
namespace Pu
open PySem PySem.Spec L2 PySem.SeqAt
theorem Nz {s:Shared}{p q:PV}{A:Around}{u v:Value}(hp:au p=true)(hq:au q=true)(hd:A.units+jb p+1<cLine)(d:Dv s p u)(d':Dv s q v):RcNeAt A s u v (!eR p q):=by
 have hu:A.units<cLine:=by omega
 by_cases hf:bQ p=true
 ·rw[qa hf]
  have dp:=d.flat' hf
  cases hfq:bQ q with
  |true=>rw[Bool.true_and];exact Bu dp (d'.flat' hfq) (ja hf hp) (ja hfq hq)
  |false=>
   rw[Bool.false_and]
   cases q with
   |tup qs=>
    obtain⟨b,its2,e',h1',h2'⟩:=d'
    subst e'
    cases p with
    |non=>cases dp;exact RcNeAt.none_tuple h1' hu
    |bl x=>cases dp;exact RcNeAt.bool_tuple x h1' hu
    |int x=>obtain⟨t,rfl⟩:=dp;exact RcNeAt.int_tuple x t h1' hu
    |str x=>obtain⟨t,rfl⟩:=dp;exact RcNeAt.str_tuple x t h1' hu
    |_=>first|exact absurd hf Bool.false_ne_true|exact absurd hp Bool.false_ne_true
   |lst qs=>
    obtain⟨b,its2,e',h1',h2'⟩:=d'
    subst e'
    cases p with
    |non=>cases dp;exact RcNeAt.none_list h1' hu
    |bl x=>cases dp;exact RcNeAt.bool_list x h1' hu
    |int x=>obtain⟨t,rfl⟩:=dp;exact RcNeAt.int_list x t h1' hu
    |str x=>obtain⟨t,rfl⟩:=dp;exact RcNeAt.str_list x t h1' hu
    |_=>first|exact absurd hf Bool.false_ne_true|exact absurd hp Bool.false_ne_true
   |_=>first|exact absurd hfq.symm Bool.false_ne_true|exact absurd hq Bool.false_ne_true
 ·cases p with
  |tup ps=>
   obtain⟨a,its,e,h1,h2⟩:=d
   subst e
   have l1:=h2.length
   cases q with
   |tup qs=>
    obtain⟨b,its2,e',h1',h2'⟩:=d'
    subst e'
    have l2:=h2'.length
    have:=RcNeAt.tuples (A:=A) (s:=s) (e:=fun j=>eR (ps.getD j .non) (qs.getD j .non)) h1 h1' (by omega) (fun j k1 k2=>qu (ps:=ps) (qs:=qs) hp hq (by rw[jb] at hd;show A.units+1+bw ps+1<cLine;omega) h2 h2' j (by simp at k1;omega) (by simp at k2;omega) (by simpa using k1) (by simpa using k2))
    rw[List.size_toArray,List.size_toArray,l1,l2,eB] at this
    exact this
   |lst qs=>obtain⟨b,its2,e',h1',h2'⟩:=d';subst e';exact RcNeAt.tuple_list h1 h1' hu
   |non=>cases (show _=Value.none from d');exact RcNeAt.tuple_none h1 hu
   |bl b=>cases (show _=Value.bool b from d');exact RcNeAt.tuple_bool b h1 hu
   |int b=>obtain⟨t,rfl⟩:=d';exact RcNeAt.tuple_int b t h1 hu
   |str b=>obtain⟨t,rfl⟩:=d';exact RcNeAt.tuple_str b t h1 hu
   |_=>exact absurd hq Bool.false_ne_true
  |lst ps=>
   obtain⟨a,its,e,h1,h2⟩:=d
   subst e
   have l1:=h2.length
   cases q with
   |lst qs=>
    obtain⟨b,its2,e',h1',h2'⟩:=d'
    subst e'
    have l2:=h2'.length
    by_cases hl:ps.length=qs.length
    ·have:=RcNeAt.lists (A:=A) (s:=s) (e:=fun j=>eR (ps.getD j .non) (qs.getD j .non)) h1 h1' (by simp;omega) (by omega) (fun j k1 k2=>qu (ps:=ps) (qs:=qs) hp hq (by rw[jb] at hd;show A.units+1+bw ps+1<cLine;omega) h2 h2' j (by simp at k1;omega) (by simp at k2;omega) (by simpa using k1) (by simpa using k2))
     rw[List.size_toArray,l1,jG hl] at this
     exact this
    ·have:=RcNeAt.lists_lengths (A:=A) (s:=s) h1 h1' (by simp;omega) (by omega)
     rw[show true=!eO ps qs by rw[kz hl];rfl] at this
     exact this
   |tup qs=>obtain⟨b,its2,e',h1',h2'⟩:=d';subst e';exact RcNeAt.list_tuple h1 h1' hu
   |non=>cases (show _=Value.none from d');exact RcNeAt.list_none h1 hu
   |bl b=>cases (show _=Value.bool b from d');exact RcNeAt.list_bool b h1 hu
   |int b=>obtain⟨t,rfl⟩:=d';exact RcNeAt.list_int b t h1 hu
   |str b=>obtain⟨t,rfl⟩:=d';exact RcNeAt.list_str b t h1 hu
   |_=>exact absurd hq Bool.false_ne_true
  |_=>first|exact absurd rfl hf|exact absurd hp Bool.false_ne_true
section
variable {X:Cx}{a b c e:Expr}{pos:Pos}{ta tb te:cY}
noncomputable def Aj (K:PySem.W.Frag)(f:Bool->Bool):R2:=fun x y H Q=>∃F p q,Same F H/\RdV K F H p x/\RdV K F H q y/\au p=true/\au q=true/\jb p≤50/\Q (.bl (f (eR p q))) H
theorem Ji (hu:X.A.units+64<cLine):eQ X (compareOp .Eq) (Aj X.K id):=by
 intro pins s σ H x y v u Q I rx ry ⟨F,p,q,sf,r1,r2,hp,hq,hd,k⟩
 exact IF (A:=X.A) hp hq (by omega) (m8 I sf hp r1 rx) (m8 I sf hq r2 ry) _ _ _ _ ⟨.bl _,H,I,rfl,k⟩
theorem EB (hu:X.A.units+64<cLine):eQ X (compareOp .NotEq) (Aj X.K (!·)):=by
 intro pins s σ H x y v u Q I rx ry ⟨F,p,q,sf,r1,r2,hp,hq,hd,k⟩
 exact Nz (A:=X.A) hp hq (by omega) (m8 I sf hp r1 rx) (m8 I sf hq r2 ry) _ _ _ _ ⟨.bl _,H,I,rfl,k⟩
noncomputable def Pz:fE:=fun x y Q=>au x=true/\au y=true/\jb x≤50/\Q (.bl (eR x y))
noncomputable def PF:fE:=fun x y Q=>au x=true/\au y=true/\jb x≤50/\Q (.bl (!eR x y))
theorem Kl:df X.K (Aj X.K id) Pz:=fun F H x y p q Qp Q s rx ry h k=>⟨F,p,q,s,rx,ry,h.1,h.2.1,h.2.2.1,k _ _ F H h.2.2.2 (.refl s) rfl⟩
theorem KY:df X.K (Aj X.K (!·)) PF:=fun F H x y p q Qp Q s rx ry h k=>⟨F,p,q,s,rx,ry,h.1,h.2.1,h.2.2.1,k _ _ F H h.2.2.2 (.refl s) rfl⟩
open Classical in
noncomputable def DN (s:Shared)(q:PV)(u:Value):Bool:=if h:∃p,au p=true/\Dv s p u then eR h.choose q else false
theorem y4 {s:Shared}{q p:PV}{u:Value}(hp:au p=true)(d:Dv s p u):DN s q u=eR p q:=by
 have h:∃p,au p=true/\Dv s p u:=⟨p,hp,d⟩
 unfold DN
 rw[dif_pos h,Dv.inj h.choose_spec.1 hp h.choose_spec.2 d]
theorem jg {s:Shared}{q:PV}:∀{ps:List PV} {us:List Value},ao ps=true->Dvs s ps us->us.any (DN s q)=ps.any fun p=>eR p q
 |[],_,_,h=>by rw[show _=[] from h];rfl
 |p::ps,_,hp,⟨u,r,e,d1,d2⟩=>by
  subst e
  rw[ao,Bool.and_eq_true] at hp
  rw[List.any_cons,List.any_cons,y4 hp.1 d1,jg hp.2 d2]
theorem jh {s:Shared}{A:Around}{q:PV}{v:Value}(hq:au q=true)(dq:Dv s q v):∀{ps:List PV} {us:List Value},ao ps=true->A.units+bw ps+1<cLine->Dvs s ps us->∀u∈us,EqAt A s u v (DN s q u)
 |[],_,_,_,h,u,hu=>by rw[show _=[] from h] at hu;cases hu
 |p::ps,_,hp,hd,⟨u',r,e,d1,d2⟩,u,hu=>by
  subst e
  rw[ao,Bool.and_eq_true] at hp
  rw[bw] at hd
  rcases List.mem_cons.mp hu with rfl|hu
  ·rw[y4 hp.1 d1]
   exact pN hp.1 hq d1 dq (by omega) (IF hp.1 hq (by omega) d1 dq)
  ·exact jh hq dq hp.2 (by omega) d2 u hu
noncomputable def pin (x:PV)(ps:List PV):Bool:=ps.any fun p=>eR p x
noncomputable def CU (K:PySem.W.Frag)(f:Bool->Bool):R2:=fun x y H Q=>∃F q a vs ps,y=.ref a/\Same F H/\RdV K F H q x/\(SqL K H a vs\/SqT K H a vs)/\Reps K F ps vs/\au q=true/\ao ps=true/\bw ps≤50/\Q (.bl (f (pin q ps))) H
theorem FG (hu:X.A.units+64<cLine):eQ X (compareOp .In) (CU X.K id):=by
 intro pins s σ H x y v u Q I rx ry ⟨F,q,a,vs,ps,ey,sf,rq,hs,rs,hq,hp,hd,k⟩
 subst ey
 cases ry
 have dq:=m8 I sf hq rq rx
 rcases hs with hs|hs
 ·obtain⟨its,rv,pl,hz⟩:=I.list hs
  have ds:=gH I sf hp rs rv
  refine in_listAt (DN s q) pl.isList (fun y hy=>jh hq dq hp (by show X.A.units+1+bw ps+1<cLine;omega) ds y (by simpa using hy)) ?_
  rw[List.any_toArray,jg hp ds]
  exact⟨.bl _,H,I,rfl,k⟩
 ·obtain⟨its,rv,pl,hz⟩:=I.tuple hs
  have ds:=gH I sf hp rs rv
  refine in_tupleAt (DN s q) pl (fun y hy=>jh hq dq hp (by show X.A.units+1+bw ps+1<cLine;omega) ds y (by simpa using hy)) ?_
  rw[List.any_toArray,jg hp ds]
  exact⟨.bl _,H,I,rfl,k⟩
theorem vU (hu:X.A.units+64<cLine):eQ X (compareOp .NotIn) (CU X.K (!·)):=by
 intro pins s σ H x y v u Q I rx ry ⟨F,q,a,vs,ps,ey,sf,rq,hs,rs,hq,hp,hd,k⟩
 subst ey
 cases ry
 have dq:=m8 I sf hq rq rx
 rcases hs with hs|hs
 ·obtain⟨its,rv,pl,hz⟩:=I.list hs
  have ds:=gH I sf hp rs rv
  refine notIn_listAt (DN s q) pl.isList (fun y hy=>jh hq dq hp (by show X.A.units+1+bw ps+1<cLine;omega) ds y (by simpa using hy)) ?_
  rw[List.any_toArray,jg hp ds]
  exact⟨.bl _,H,I,rfl,k⟩
 ·obtain⟨its,rv,pl,hz⟩:=I.tuple hs
  have ds:=gH I sf hp rs rv
  refine notIn_tupleAt (DN s q) pl (fun y hy=>jh hq dq hp (by show X.A.units+1+bw ps+1<cLine;omega) ds y (by simpa using hy)) ?_
  rw[List.any_toArray,jg hp ds]
  exact⟨.bl _,H,I,rfl,k⟩
noncomputable def O4:fE:=fun x y Q=>OkS y fun ps=>au x=true/\ao ps=true/\bw ps≤50/\Q (.bl (pin x ps))
noncomputable def xG:fE:=fun x y Q=>OkS y fun ps=>au x=true/\ao ps=true/\bw ps≤50/\Q (.bl (!pin x ps))
theorem MG:df X.K (CU X.K id) O4:=fun F H x y p q Qp Q s rx ry h k=>by
 obtain⟨a,vs,ps,rfl,hs,_,rs,h⟩:=OkS.rd h s ry
 exact⟨F,p,a,vs,ps,rfl,s,rx,hs,rs,h.1,h.2.1,h.2.2.1,k _ _ F H h.2.2.2 (.refl s) rfl⟩
theorem yq:df X.K (CU X.K (!·)) xG:=fun F H x y p q Qp Q s rx ry h k=>by
 obtain⟨a,vs,ps,rfl,hs,_,rs,h⟩:=OkS.rd h s ry
 exact⟨F,p,a,vs,ps,rfl,s,rx,hs,rs,h.1,h.2.1,h.2.2.1,k _ _ F H h.2.2.2 (.refl s) rfl⟩
end
end Pu
end
section
namespace Pu
open PySem PySem.Spec L2
section
variable {X:Cx}{a b c e:Expr}{pos:Pos}{ta tb te:cY}{t:fG}
noncomputable abbrev pQ:=List PV->(PV->Prop)->Prop
noncomputable abbrev DU:=List PV->(List PV->Prop)->Prop
noncomputable def iz (K:PySem.W.Frag)(r:List V->Hp->VK->Prop)(g:pQ):Prop:=∀F H xs ps (Qp:PV->Prop) (Q:VK),Same F H->RdVs K F H ps xs->g ps Qp->(∀z v F' H',Qp z->Grow F H F' H'->Rep K F' z v->Q v H')->r xs H Q
noncomputable def vn (K:PySem.W.Frag)(r:List V->Hp->VK->Prop)(g:DU):Prop:=∀F H xs ps (Qp:List PV->Prop) (Q:VK),Same F H->RdVs K F H ps xs->g ps Qp->(∀zs a vs F' H',Qp zs->Grow F H F' H'->H a=none->F' a=none->H' a=some (.lst vs)->Reps K F' zs vs->Q (.ref a) H')->r xs H Q
noncomputable def Pv (g:pQ)(t:fG):cY:=fun ρ Q=>t ρ fun ps=>g ps Q
noncomputable def Pg (g:DU)(t:fG):oz:=fun ρ Q=>t ρ fun ps=>g ps Q
theorem Ks {r:List V->Hp->VK->Prop}{g:pQ}(hr:iz X.K r g)(h:PE X e (zR r (lAT X.K t))):dr X e (Pv g t):=PE.weak h fun σ H Q hh_=>hh_.elim fun F ρ Qp er q k=>⟨F,ρ,_,er,q,fun ps vs F1 H1 h1 g1 r1=>
 hr F1 H1 vs ps Qp Q g1.fh r1 h1 fun z v F2 H2 h2 g2 r2=>k z v F2 H2 h2 (g1.trans g2) r2⟩
theorem ww {r:List V->Hp->VK->Prop}{g:DU}(hr:vn X.K r g)(h:PE X e (zR r (lAT X.K t))):rD X e (Pg g t):=PE.weak h fun σ H Q hh_=>hh_.elim fun F ρ Qp er q k=>⟨F,ρ,_,er,q,fun ps vs F1 H1 h1 g1 r1=>
 hr F1 H1 vs ps Qp Q g1.fh r1 h1 fun zs a vs F2 H2 h2 g2 h0 hF hH r2=>k zs a vs F2 H2 h2 (g1.trans g2) (g1.hh.free h0) hF hH r2⟩
noncomputable def One (ps:List PV)(Q:PV->Prop):Prop:=match ps with
 |[p]=>Q p
 |_=>False
noncomputable def Two (ps:List PV)(Q:PV->PV->Prop):Prop:=match ps with
 |[p,q]=>Q p q
 |_=>False
theorem One.rd {K:PySem.W.Frag}{F H:Hp}{ps:List PV}{xs:List V}{Q:PV->Prop}(h:One ps Q)(r:RdVs K F H ps xs):∃p v,ps=[p]/\xs=[v]/\RdV K F H p v/\Q p:=by
 unfold One at h
 split at h
 ·cases r with
  |cons r1 r2=>cases r2;exact⟨_,_,rfl,rfl,r1,h⟩
 ·exact h.elim
theorem Two.rd {K:PySem.W.Frag}{F H:Hp}{ps:List PV}{xs:List V}{Q:PV->PV->Prop}(h:Two ps Q)(r:RdVs K F H ps xs):∃p v p2 v2,ps=[p,p2]/\xs=[v,v2]/\RdV K F H p v/\RdV K F H p2 v2/\Q p p2:=by
 unfold Two at h
 split at h
 ·cases r with
  |cons r1 r2=>cases r2 with
   |cons r2 r3=>cases r3;exact⟨_,_,_,_,rfl,rfl,r1,r2,h⟩
 ·exact h.elim
noncomputable def Ms:pQ:=fun ps Q=>One ps fun p=>match p with
 |.str z=>z.length≤sizeLine/\Q (.int z.length)
 |p=>OkS p fun ps=>Q (.int ps.length)
theorem EA:iz X.K (fun xs H Q=>∃x n,xs=[x]/\Kj X.K x H n/\Q (.int n) H) Ms:=fun F H xs ps Qp Q s r h k=>by
 obtain⟨p,v,rfl,rfl,r,h⟩:=h.rd r
 by_cases hz:∃z,p=.str z
 ·obtain⟨z,rfl⟩:=hz
  cases r with
  |frz r=>cases (show v=.str z from r);exact⟨_,z.length,rfl,⟨h.1,rfl⟩,k _ _ F H h.2 (.refl s) rfl⟩
 ·have h':OkS p fun ps=>Qp (.int ps.length):=by
   cases p<;>first|exact h|exact absurd ⟨_,rfl⟩ hz
  obtain⟨a,vs,ps,rfl,hs,_,rs,h⟩:=h'.rd s r
  refine⟨_,vs.length,rfl,?_,k _ _ F H h (.refl s) (by rw[rs.length];rfl)⟩
  rcases hs with hs|hs
  ·exact .inl ⟨vs,hs,rfl⟩
  ·exact .inr ⟨vs,hs,rfl⟩
noncomputable def Lm:pQ:=fun ps Q=>One ps fun p=>OkI p fun i=>Q (.int (if i<0 then -i else i))
theorem GU:iz X.K (fun xs H Q=>∃i,xs=[.int i]/\Q (.int (if i<0 then -i else i)) H) Lm:=fun F H xs ps Qp Q s r h k=>by
 obtain⟨p,v,rfl,rfl,r,h⟩:=h.rd r
 obtain⟨i,rfl,rfl,h⟩:=h.rd r
 exact⟨i,rfl,k _ _ F H h (.refl s) rfl⟩
noncomputable def D6:pQ:=fun ps Q=>Two ps fun p q=>OkI p fun i=>OkI q fun j=>Q (.int (if j > i then j else i))
theorem CY:iz X.K (fun xs H Q=>∃i j,xs=[.int i,.int j]/\Q (.int (if j > i then j else i)) H) D6:=fun F H xs ps Qp Q s r h k=>by
 obtain⟨p,v,p2,v2,rfl,rfl,r,r2,h⟩:=h.rd r
 obtain⟨i,rfl,rfl,h⟩:=h.rd r
 obtain⟨j,rfl,rfl,h⟩:=h.rd r2
 exact⟨i,j,rfl,k _ _ F H h (.refl s) rfl⟩
noncomputable def Ed:pQ:=fun ps Q=>Two ps fun p q=>OkI p fun i=>OkI q fun j=>Q (.int (if j<i then j else i))
theorem AU:iz X.K (fun xs H Q=>∃i j,xs=[.int i,.int j]/\Q (.int (if j<i then j else i)) H) Ed:=fun F H xs ps Qp Q s r h k=>by
 obtain⟨p,v,p2,v2,rfl,rfl,r,r2,h⟩:=h.rd r
 obtain⟨i,rfl,rfl,h⟩:=h.rd r
 obtain⟨j,rfl,rfl,h⟩:=h.rd r2
 exact⟨i,j,rfl,k _ _ F H h (.refl s) rfl⟩
noncomputable def KM:pQ:=fun ps Q=>One ps fun p=>match p with
 |.bl k=>Q (.int (if k then 1 else 0))
 |p=>OkI p fun i=>Q (.int i)
theorem Jg:iz X.K (fun xs H Q=>(∃i,xs=[.int i]/\Q (.int i) H)\/∃k,xs=[.bl k]/\Q (.int (if k then 1 else 0)) H) KM:=fun F H xs ps Qp Q s r h k=>by
 obtain⟨p,v,rfl,rfl,r,h⟩:=h.rd r
 by_cases hz:∃z,p=.bl z
 ·obtain⟨z,rfl⟩:=hz
  obtain⟨b,e,rfl,h⟩:=OkB.rd (p:=.bl z) (Q:=fun z=>Qp (.int (if z then 1 else 0))) h r
  exact .inr ⟨b,rfl,k _ _ F H h (.refl s) rfl⟩
 ·have h':OkI p fun i=>Qp (.int i):=by
   cases p<;>first|exact h|exact absurd ⟨_,rfl⟩ hz
  obtain⟨i,rfl,rfl,h⟩:=h'.rd r
  exact .inl ⟨i,rfl,k _ _ F H h (.refl s) rfl⟩
noncomputable def OkBs:List PV->(List Bool->Prop)->Prop
 |[],Q=>Q []
 |p::ps,Q=>OkB p fun b=>OkBs ps fun bs=>Q (b::bs)
theorem pP (bs:List Bool)(Q:List Bool->Prop):OkBs (bs.map PV.bl) Q=Q bs:=by
 induction bs generalizing Q with
 |nil=>rfl
 |cons b r ih=>
  show OkBs (r.map PV.bl) (fun bs=>Q (b::bs))=_
  rw[ih]
theorem OkBs.rd {K:PySem.W.Frag}{F:Hp}:∀{ps:List PV} {vs:List V} {Q:List Bool->Prop},OkBs ps Q->Reps K F ps vs->∃bs,vs=bs.map V.bl/\ps=bs.map PV.bl/\Q bs
 |[],_,_,h,r=>⟨[],r,rfl,h⟩
 |p::ps,_,Q,h,⟨v,t,e,r1,r2⟩=>by
  subst e
  obtain⟨b,rfl,rfl,h⟩:=OkB.rd (H:=F) h (.frz r1)
  obtain⟨bs,rfl,rfl,h'⟩:=OkBs.rd h r2
  exact⟨b::bs,rfl,rfl,h'⟩
noncomputable def LK:pQ:=fun ps Q=>One ps fun p=>OkL p fun ps=>OkBs ps fun bs=>Q (.bl (bs.all id))
theorem Hh:iz X.K (fun xs H Q=>∃(p:Addr) (bs:List Bool),xs=[.ref p]/\SqL X.K H p (bs.map V.bl)/\Q (.bl (bs.all id)) H) LK:=fun F H xs ps Qp Q s r h k=>by
 obtain⟨p,v,rfl,rfl,r,h⟩:=h.rd r
 obtain⟨a,vs,ps,rfl,hs,rs,h⟩:=h.rd s r
 obtain⟨bs,rfl,rfl,h'⟩:=h.rd rs
 exact⟨a,bs,rfl,hs,k (.bl _) _ F H h' (.refl s) rfl⟩
noncomputable def L3:pQ:=fun ps Q=>One ps fun p=>OkL p fun ps=>OkBs ps fun bs=>Q (.bl (bs.any id))
theorem GH:iz X.K (fun xs H Q=>∃(p:Addr) (bs:List Bool),xs=[.ref p]/\SqL X.K H p (bs.map V.bl)/\Q (.bl (bs.any id)) H) L3:=fun F H xs ps Qp Q s r h k=>by
 obtain⟨p,v,rfl,rfl,r,h⟩:=h.rd r
 obtain⟨a,vs,ps,rfl,hs,rs,h⟩:=h.rd s r
 obtain⟨bs,rfl,rfl,h'⟩:=h.rd rs
 exact⟨a,bs,rfl,hs,k (.bl _) _ F H h' (.refl s) rfl⟩
noncomputable def LO:pQ:=fun ps Q=>One ps fun p=>match p with
 |.tup ps=>Q (.tup ps)
 |p=>OkL p fun ps=>Q (.tup ps)
theorem GJ:iz X.K (fun xs H Q=>∃p ys,xs=[.ref p]/\((SqL X.K H p ys/\∀l,H l=none->Q (.ref l) (upd H l (.tup ys)))\/(SqT X.K H p ys/\Q (.ref p) H))) LO:=fun F H xs ps Qp Q s r h k=>by
 obtain⟨p,v,rfl,rfl,r,h⟩:=h.rd r
 by_cases hz:∃z,p=.tup z
 ·obtain⟨z,rfl⟩:=hz
  cases r with
  |frz r=>
   obtain⟨a,vs,rfl,e,rs⟩:=r
   exact⟨a,vs,rfl,.inr ⟨SqT.of (s _ _ e),k _ _ F H h (.refl s) ⟨a,vs,rfl,e,rs⟩⟩⟩
 ·have h':OkL p fun ps=>Qp (.tup ps):=by
   cases p<;>first|exact h|exact absurd ⟨_,rfl⟩ hz
  obtain⟨a,vs,ps,rfl,hs,rs,h⟩:=h'.rd s r
  exact⟨a,vs,rfl,.inl ⟨hs,fun l hl=>k _ _ _ _ h (.new s hl _) ⟨l,vs,rfl,ak,rs.mono (aY (s.free hl) _)⟩⟩⟩
noncomputable def KG:DU:=fun ps Q=>One ps fun p=>OkS p Q
theorem HS:vn X.K (fun xs H Q=>∃p ys,xs=[.ref p]/\(SqL X.K H p ys\/SqT X.K H p ys)/\∀l,H l=none->Q (.ref l) (upd H l (.lst ys))) KG:=fun F H xs ps Qp Q s r h k=>by
 obtain⟨p,v,rfl,rfl,r,h⟩:=h.rd r
 obtain⟨a,vs,ps,rfl,hs,_,rs,h⟩:=h.rd s r
 exact⟨a,vs,rfl,hs,fun l hl=>k ps l vs F _ h (.newO s hl _) hl (s.free hl) ak rs⟩
noncomputable def np (lo:Int)(n:Nat):List PV:=(List.range n).map fun i:Nat=>PV.int (lo+i)
theorem jt {K:PySem.W.Frag}{F:Hp}:∀(l:List Nat),Reps K F (l.map fun i:Nat=>PV.int (0+i)) (l.map fun i:Nat=>V.int (i:Int))
 |[]=>rfl
 |x::l=>⟨_,_,rfl,by show Rep K F (PV.int (0+(x:Int))) (V.int x);rw[Int.zero_add];rfl,jt l⟩
noncomputable def KH:pQ:=fun ps Q=>One ps fun p=>OkI p fun j=>-(2 ^ 62)≤j/\j<2 ^ 62/\Q (.rng 0 j)
theorem IA:iz X.K DP KH:=fun F H xs ps Qp Q s r h k=>by
 obtain⟨p,v,rfl,rfl,r,h⟩:=h.rd r
 obtain⟨j,rfl,rfl,h1,h2,h⟩:=h.rd r
 exact⟨j,rfl,h1,h2,fun p hp=>k _ _ _ _ h (.new s hp _) ⟨p,rfl,ak⟩⟩
noncomputable def Pb:PV->(Int->Prop)->Prop
 |.rng lo j,Q=>lo=0/\Q j
 |_,_=>False
noncomputable def Dy:DU:=fun ps Q=>One ps fun p=>Pb p fun j=>0≤j/\j≤1000000/\Q (np 0 j.toNat)
theorem Bo:vn X.K (fun xs H Q=>∃p j,xs=[.ref p]/\H p=some (.rng 0 j)/\0≤j/\j≤1000000/\∀l,H l=none->Q (.ref l) (upd H l (.lst (kB j.toNat)))) Dy:=fun F H xs ps Qp Q s r h k=>by
 obtain⟨p,v,rfl,rfl,r,h⟩:=h.rd r
 cases p<;>first|exact h.elim|skip
 obtain⟨rfl,h1,h2,h⟩:=h
 cases r with
 |frz r=>
  obtain⟨a,rfl,e⟩:=r
  exact⟨a,_,rfl,s _ _ e,h1,h2,fun l hl=>k _ l _ F _ h (.newO s hl _) hl (s.free hl) ak (jt _)⟩
noncomputable def MO (n:String):PV->Option Bool
 |.non=>some false
 |.bl _=>some (n == "bool" || n == "int")
 |.int _=>some (n == "int")
 |.str _=>some (n == "str")
 |.tup _=>some (n == "tuple")
 |.lst _=>some (n == "list")
 |.dct _ _=>some (n == "dict")
 |_=>none
noncomputable def OH:PV->(String->Prop)->Prop
 |.ty n,Q=>Q n
 |_,_=>False
noncomputable def MD:pQ:=fun ps Q=>Two ps fun p q=>OH q fun n=>(n = "int"\/n = "bool"\/n = "str"\/n = "tuple"\/n = "list"\/n = "dict")/\OkO (MO n p) fun b=>Q (.bl b)
theorem ES:iz X.K (fun xs H Q=>∃x n t b,xs=[x,.ty n]/\TyOf X.K H x t/\PySem.W.kitOne X.K t (.type n)=some b/\Q (.bl b) H) MD:=fun F H xs ps Qp Q s r h k=>by
 obtain⟨p,v,p2,v2,rfl,rfl,r1,r2,h⟩:=h.rd r
 clear r
 obtain⟨n,rfl,hn,h⟩:∃n,p2=.ty n/\(n = "int"\/n = "bool"\/n = "str"\/n = "tuple"\/n = "list"\/n = "dict")/\OkO (MO n p) fun b=>Qp (.bl b):=by
  cases p2 with
  |ty n=>exact⟨n,rfl,h⟩
  |_=>exact h.elim
 obtain⟨b,e,h⟩:=h.ex
 cases r2 with
 |frz r2=>
  cases (show v2=.ty n from r2)
  have fin:∀t,TyOf X.K H v t->PySem.W.kitOne X.K t (.type n)=some b->∃x n' t b,[v,V.ty n]=[x,.ty n']/\TyOf X.K H x t/\PySem.W.kitOne X.K t (.type n')=some b/\Q (.bl b) H:=fun t h1 h2=>⟨v,n,t,b,rfl,h1,h2,k _ _ F H h (.refl s) rfl⟩
  cases r1 with
  |frz r=>
   cases p with
   |non=>cases (show v=_ from r);refine fin _ .non ?_;rcases hn with rfl|rfl|rfl|rfl|rfl|rfl<;>exact e
   |bl x=>cases (show v=_ from r);refine fin _ (.bl x) ?_;rcases hn with rfl|rfl|rfl|rfl|rfl|rfl<;>exact e
   |int x=>cases (show v=_ from r);refine fin _ (.int x) ?_;rcases hn with rfl|rfl|rfl|rfl|rfl|rfl<;>exact e
   |str x=>cases (show v=_ from r);refine fin _ (.str x) ?_;rcases hn with rfl|rfl|rfl|rfl|rfl|rfl<;>exact e
   |tup x=>obtain⟨a,vs,rfl,e',_⟩:=r;refine fin _ (.tup (s _ _ e')) ?_;rcases hn with rfl|rfl|rfl|rfl|rfl|rfl<;>exact e
   |lst x=>obtain⟨a,vs,rfl,e',_⟩:=r;refine fin _ (.lst (s _ _ e')) ?_;rcases hn with rfl|rfl|rfl|rfl|rfl|rfl<;>exact e
   |dct x y=>obtain⟨a,vs,rfl,e',_⟩:=r;refine fin _ (.dK (s _ _ e')) ?_;rcases hn with rfl|rfl|rfl|rfl|rfl|rfl<;>exact e
   |_=>cases e
  |own h1 h2 h3=>refine fin _ (.lst h1) ?_;rcases hn with rfl|rfl|rfl|rfl|rfl|rfl<;>exact e
  |dic h1 h2 h3 h4=>refine fin _ (.dK h1) ?_;rcases hn with rfl|rfl|rfl|rfl|rfl|rfl<;>exact e
end
end Pu
end
section
namespace Pu
open PySem PySem.Spec L2
noncomputable abbrev nS:=PV->ai->(ai->Prop)->Prop
noncomputable abbrev oi:=List PV->ai->(ai->Prop)->Prop
inductive VUpd (K:PySem.W.Frag) (F:Hp):L2.St->ai->L2.St->ai->Prop where
 |refl {σ:L2.St} {ρ:ai}:VUpd K F σ ρ σ ρ
 |step {σ σ1:L2.St} {ρ ρ1:ai} {i:Nat} {p:PV} {v:V}:VUpd K F σ ρ σ1 ρ1->Rep K F p v->VUpd K F σ ρ (σ1.set i (some v)) (ρ1.set i (some (.val p)))
theorem VUpd.trans {K:PySem.W.Frag}{F:Hp}{σ σ1 σ2:L2.St}{ρ ρ1 ρ2:ai}(a:VUpd K F σ ρ σ1 ρ1)(b:VUpd K F σ1 ρ1 σ2 ρ2):VUpd K F σ ρ σ2 ρ2:=by
 induction b with
 |refl=>exact a
 |step _ r ih=>exact .step (ih a) r
theorem ER.set {K:PySem.W.Frag}{F H:Hp}{σ:L2.St}{ρ:ai}(h:ER K F H σ ρ){i:Nat}{v:V}{s:Sl}(r:SlR K F H (some v) (some s)):ER K F H (σ.set i (some v)) (ρ.set i (some s)):=by
 refine⟨h.fz,by rw[List.length_set,List.length_set];exact h.len,fun j s' e=>?_⟩
 by_cases hij:i=j
 ·subst hij
  have hi:i<ρ.length:=by
   have:=(List.getElem?_eq_some_iff.mp e).1
   rwa [List.length_set] at this
  rw[List.getElem?_set_self hi] at e
  rw[List.getElem?_set_self (by rw[h.len];exact hi)]
  cases e
  exact r
 ·rw[List.getElem?_set_ne hij] at e ⊢
  exact h.sl j s' e
theorem ER.upd {K:PySem.W.Frag}{F H:Hp}{σ σ':L2.St}{ρ ρ':ai}(h:ER K F H σ ρ)(u:VUpd K F σ ρ σ' ρ'):ER K F H σ' ρ':=by
 induction u with
 |refl=>exact h
 |step _ r ih=>exact (ih h).set r
noncomputable def dO (K:PySem.W.Frag)(g0:TG)(g:nS):Prop:=∀F H σ ρ p v (Qp:ai->Prop) (Q:L2.St->Hp->Prop),Same F H->Rep K F p v->g p ρ Qp->(∀σ' ρ',Qp ρ'->VUpd K F σ ρ σ' ρ'->Q σ' H)->g0 v σ H Q
noncomputable def gL (K:PySem.W.Frag)(g0:rb)(g:oi):Prop:=∀F H σ ρ ps vs (Qp:ai->Prop) (Q:L2.St->Hp->Prop),Same F H->Reps K F ps vs->g ps ρ Qp->(∀σ' ρ',Qp ρ'->VUpd K F σ ρ σ' ρ'->Q σ' H)->g0 vs σ H Q
noncomputable def J8 (i:Nat):nS:=fun p ρ Q=>Q (ρ.set i (some (.val p)))
noncomputable def OL:oi:=fun ps ρ Q=>match ps with
 |[]=>Q ρ
 |_=>False
noncomputable def K9 (g:nS)(gs:oi):oi:=fun ps ρ Q=>match ps with
 |p::ps=>g p ρ fun ρ'=>gs ps ρ' Q
 |[]=>False
noncomputable def No (n:Nat)(gs:oi):nS:=fun p ρ Q=>OkT p fun ps=>ps.length=n/\gs ps ρ Q
theorem AE {K:PySem.W.Frag}{i:Nat}:dO K (dc i) (J8 i):=fun F H σ ρ p v Qp Q s r h k=>k _ _ h (.step .refl r)
theorem IP {K:PySem.W.Frag}:gL K vE OL:=fun F H σ ρ ps vs Qp Q s r h k=>by
 cases ps with
 |nil=>exact⟨r,k _ _ h .refl⟩
 |cons p ps=>exact h.elim
theorem Bk {K:PySem.W.Frag}{g0:TG}{g:nS}{gs0:rb}{gs:oi}(h1:dO K g0 g)(h2:gL K gs0 gs):gL K (nF g0 gs0) (K9 g gs):=fun F H σ ρ ps vs Qp Q s r h k=>by
 cases ps with
 |nil=>exact h.elim
 |cons p ps=>
  obtain⟨v,t,rfl,r1,r2⟩:=r
  exact⟨v,t,rfl,h1 F H σ ρ p v _ _ s r1 h fun σ' ρ' q u=>h2 F H σ' ρ' ps t Qp Q s r2 q fun σ2 ρ2 q2 u2=>k σ2 ρ2 q2 (u.trans u2)⟩
theorem HK {K:PySem.W.Frag}{n:Nat}{gs0:rb}{gs:oi}(h:gL K gs0 gs):dO K (vz K n gs0) (No n gs):=fun F H σ ρ p v Qp Q s r hq k=>by
 obtain⟨a,vs,ps,rfl,rfl,e,rs,hn,hq⟩:=OkT.rd (H:=H) hq (.frz r)
 exact⟨a,vs,rfl,SqT.of (s _ _ e),by rw[rs.length];exact hn,h F H σ ρ ps vs Qp Q s rs hq k⟩
noncomputable abbrev kl:=ai->(List PV->Prop)->Prop
noncomputable def AS (K:PySem.W.Frag)(F:Hp)(J:It)(its:List PV):Prop:=∀F1 H1 (i:Nat),Same F F1->Same F1 H1 →
 (∀p,its[i]?=some p->J.go i H1/\∀x H2,J.yld i H1 x H2->∃F2,Grow F1 H1 F2 H2/\Rep K F2 p x)/\(its.length≤i->J.stop i H1)
noncomputable def lI (K:PySem.W.Frag)(ti:kl):TI:=fun σ H R=>∃F ρ,∃Qp:List PV->Prop,ER K F H σ ρ/\ti ρ Qp/\∀its J F' H',Qp its->Grow F H F' H'->AS K F' J its->R J H'
theorem lI.elim {K:PySem.W.Frag}{ti:kl}{σ:St}{H:Hp}{R}{C:Prop}(h:lI K ti σ H R)(k:∀F ρ (Qp:List PV->Prop),ER K F H σ ρ->ti ρ Qp->(∀its J F' H',Qp its->Grow F H F' H'->AS K F' J its->R J H')->C):C:=by obtain⟨F,ρ,Qp,a,b,c⟩:=h;exact k F ρ Qp a b c
noncomputable def ur (X:Cx)(tg iter:Expr)(ti:kl):Prop:=PI X tg iter (lI X.K ti)
section
variable {X:Cx}{a b c e l tg iter elt:Expr}{pos:Pos}{ta tb te tl:cY}{t:fG}
noncomputable def LN (tl:cY):kl:=fun ρ Q=>tl ρ fun p=>OkL p Q
noncomputable def Of (p:PV)(Q:List PV->Prop):Prop:=match p with
 |.tup ps=>Q ps
 |.ktu ps=>Q ps
 |_=>False
noncomputable def NK (tl:cY):kl:=fun ρ Q=>tl ρ fun p=>Of p Q
theorem wE (hl:dr X l tl):ur X tg l (LN tl):=PI.weak (sV hl) fun σ H R hh_=>hh_.elim fun F ρ Qp er q k=>⟨F,ρ,_,er,q,fun p v F1 H1 h1 g1 r1=>by
 obtain⟨a,vs,ps,rfl,hs,rs,h⟩:∃a vs ps,v=.ref a/\SqL X.K F1 a vs/\Reps X.K F1 ps vs/\Qp ps:=by
  cases p with
  |lst ps=>obtain⟨a,vs,rfl,e,rs⟩:=r1;exact⟨a,vs,ps,rfl,SqL.of e,rs,h1⟩
  |src ps=>obtain⟨a,vs,rfl,e,rs⟩:=r1;exact⟨a,vs,ps,rfl,e,rs,h1⟩
  |_=>exact h1.elim
 refine⟨a,rfl,⟨vs,g1.fh.seq hs⟩,k ps _ F1 H1 h g1 fun F2 H2 i s1 s2=>?_⟩
 have h2:=(s1.trans s2).seq hs
 refine⟨fun p e=>?_,fun hl=>⟨vs,h2,by rw[rs.length];exact hl⟩⟩
 obtain⟨v,ev,rv⟩:=rs.get e
 refine⟨⟨vs,v,h2,ev⟩,fun x H3 ⟨e2,y⟩=>?_⟩
 subst e2
 have:=y vs h2
 rw[ev] at this
 cases this
 exact⟨F2,.refl s2,rv.mono s1⟩⟩
theorem Cb (hl:dr X l tl):ur X tg l (NK tl):=PI.weak (HM hl) fun σ H R hh_=>hh_.elim fun F ρ Qp er q k=>⟨F,ρ,_,er,q,fun p v F1 H1 h1 g1 r1=>by
 obtain⟨a,vs,ps,rfl,hs,rs,h⟩:∃a vs ps,v=.ref a/\SqT X.K F1 a vs/\Reps X.K F1 ps vs/\Qp ps:=by
  cases p with
  |tup ps=>obtain⟨a,vs,rfl,e,rs⟩:=r1;exact⟨a,vs,ps,rfl,SqT.of e,rs,h1⟩
  |ktu ps=>obtain⟨a,vs,rfl,e,rs⟩:=r1;exact⟨a,vs,ps,rfl,e,rs,h1⟩
  |_=>exact h1.elim
 refine⟨a,rfl,⟨vs,uS g1.fh hs⟩,k ps _ F1 H1 h g1 fun F2 H2 i s1 s2=>?_⟩
 have h2:=uS (s1.trans s2) hs
 refine⟨fun p e=>?_,fun hl=>⟨vs,h2,by rw[rs.length];exact hl⟩⟩
 obtain⟨v,ev,rv⟩:=rs.get e
 refine⟨⟨vs,v,h2,ev⟩,fun x H3 ⟨e2,y⟩=>?_⟩
 subst e2
 have:=y vs h2
 rw[ev] at this
 cases this
 exact⟨F2,.refl s2,rv.mono s1⟩⟩
theorem qY {K:PySem.W.Frag}{F:Hp}{lo:Int}{n:Nat}:AS K F (MK lo n) (np lo n):=fun F1 H1 i s1 s2=>by
 refine⟨fun p e=>?_,fun hl=>by show n≤i;simpa [np] using hl⟩
 unfold np at e
 rw[List.getElem?_map] at e
 obtain⟨k,ek,rfl⟩:=Option.map_eq_some_iff.mp e
 obtain⟨hk,rfl⟩:=List.getElem?_eq_some_iff.mp ek
 refine⟨by show i<n;simpa using hk,fun x H2 ⟨e2,y⟩=>?_⟩
 subst e2 y
 exact⟨F1,.refl s2,by rw[List.getElem_range];rfl⟩
noncomputable def K4 (t:fG):kl:=fun ρ Q=>t ρ fun ps=>One ps fun p=>OkI p fun j=>-(2 ^ 62)≤j/\j<2 ^ 62/\Q (np 0 j.toNat)
noncomputable def KT (t:fG):kl:=fun ρ Q=>t ρ fun ps=>Two ps fun p q=>OkI p fun i=>OkI q fun j=>(-(2 ^ 62)≤i/\i<2 ^ 62/\-(2 ^ 62)≤j/\j<2 ^ 62)/\Q (np i (j - i).toNat)
theorem wA (h:PI X tg iter (qv (lAT X.K t))):ur X tg iter (K4 t):=PI.weak h fun σ H R hh_=>hh_.elim fun F ρ Qp er q k=>⟨F,ρ,_,er,q,fun ps vs F1 H1 h1 g1 r1=>by
 obtain⟨p,v,rfl,rfl,r,h⟩:=h1.rd r1
 obtain⟨j,rfl,rfl,h1,h2,h⟩:=h.rd r
 exact⟨j,rfl,h1,h2,k _ _ F1 H1 h g1 qY⟩⟩
theorem xE (h:PI X tg iter (pS (lAT X.K t))):ur X tg iter (KT t):=PI.weak h fun σ H R hh_=>hh_.elim fun F ρ Qp er q k=>⟨F,ρ,_,er,q,fun ps vs F1 H1 h1 g1 r1=>by
 obtain⟨p,v,p2,v2,rfl,rfl,r,r2,h⟩:=h1.rd r1
 obtain⟨i,rfl,rfl,h⟩:=h.rd r
 obtain⟨j,rfl,rfl,h1,h⟩:=h.rd r2
 exact⟨i,j,rfl,h1,k _ _ F1 H1 h g1 qY⟩⟩
noncomputable def fZ (fm:List (Option Nat))(ρ:ai):ai:=fm.map fun o=>o.bind fun j=>(ρ[j]?).join
theorem ER.sub {K:PySem.W.Frag}{F H:Hp}{σ:L2.St}{ρ:ai}(h:ER K F H σ ρ)(fm:List (Option Nat)):ER K F H (eW fm σ) (fZ fm ρ):=by
 refine⟨h.fz,by unfold eW fZ;rw[List.length_map,List.length_map],fun i s e=>?_⟩
 unfold fZ at e
 rw[List.getElem?_map] at e
 obtain⟨o,eo,e⟩:=Option.map_eq_some_iff.mp e
 cases o with
 |none=>cases e
 |some j=>
  have e':(ρ[j]?).join=some s:=e
  have e2:ρ[j]?=some (some s):=by
   cases q:ρ[j]? with
   |none=>rw[q] at e';cases e'
   |some z=>rw[q] at e';rw[show z=some s from e']
  have:=h.sl j s e2
  unfold eW
  rw[List.getElem?_map,eo]
  exact this
noncomputable def JC (g:nS)(tc:iD)(te:cY)(ρ:ai):List PV->List PV->(List PV->Prop)->Prop
 |[],acc,Q=>Q acc
 |v::vs,acc,Q=>g v ρ fun ρ2=>tc ρ2 fun b=>if b=true then te ρ2 fun y=>JC g tc te ρ vs (acc++[y]) Q else JC g tc te ρ vs acc Q
noncomputable def mZ (fm:List (Option Nat))(ti:kl)(g:nS)(tc:iD)(te:cY):oz:=fun ρ Q=>ti ρ fun its=>its.length<1000/\JC g tc te (fZ fm ρ) its [] Q
noncomputable def KN:iD:=fun _ Q=>Q true
theorem yJ {K:PySem.W.Frag}:∀σ H Q,lB K KN σ H Q->Be σ H Q:=fun σ H Q hh_=>hh_.elim fun F ρ Qp er q k=>k _ F H q (.refl er.fz)
theorem PIf.weak {X:Cx}{ifs:List Expr}{t t':TT}(h:PIf X ifs t)(w:∀σ H Q,t' σ H Q->t σ H Q):PIf X ifs t':=fun pins s σ H Q I q=>h pins s σ H Q I (w σ H Q q)
noncomputable def HQ (X:Cx)(ifs:List Expr)(tc:iD):Prop:=PIf X ifs (lB X.K tc)
theorem yt:HQ X [] KN:=PIf.weak BB yJ
theorem yF {tc:iD}(h:PuB X c tc):HQ X [c] tc:=Ao h
theorem jm {K:PySem.W.Frag}{fm:List (Option Nat)}{ti:kl}{g0:TG}{g:nS}{tc:iD}(hg:dO K g0 g):∀σ H Q,lN K (mZ fm ti g tc te) σ H Q->fD fm (lI K ti) g0 (lB K tc) (lE K te) σ H Q:=fun σ H Q hh_=>hh_.elim fun F ρ Qp er q k=>
 ⟨F,ρ,_,er,q,fun its J F1 H1 ⟨hlen,h1⟩ g1 it=>by
  refine⟨fun i ys H'=>∃F' acc,Grow F1 H1 F' H'/\Reps K F' acc ys/\i≤its.length/\acc.length≤i/\JC g tc te (fZ fm ρ) (its.drop i) acc Qp,its.length,⟨F1,[],.refl g1.fh,rfl,Nat.zero_le _,Nat.le_refl _,h1⟩,?_,?_⟩
  ·rintro i ys H' ⟨F',acc,g2,rs,hi,ha,_⟩
   refine⟨hi,nJ ?_⟩
   rw[rs.length];omega
  ·rintro i ys H' ⟨F',acc,g2,rs,hi,ha,h2⟩
   obtain⟨it1,it2⟩:=it F' H' i g2.ff g2.fh
   by_cases hl:i<its.length
   ·obtain⟨go,yl⟩:=it1 _ (List.getElem?_eq_getElem hl)
    refine .inr ⟨go,fun x H2 hy=>?_⟩
    obtain⟨F2,g3,rx⟩:=yl x H2 hy
    rw[List.drop_eq_getElem_cons hl] at h2
    have er2:ER K F2 H2 (eW fm σ) (fZ fm ρ):=(er.grow ((g1.trans g2).trans g3)).sub fm
    refine hg F2 H2 (eW fm σ) (fZ fm ρ) _ x _ _ g3.fh rx h2 fun σ2 ρ2 h3 u=>?_
    refine⟨F2,ρ2,_,er2.upd u,h3,fun b F3 H3 h4 g4=>?_⟩
    cases b with
    |true=>
     rw[if_pos rfl] at h4 ⊢
     refine⟨F3,ρ2,_,(er2.upd u).grow g4,h4,fun y v F4 H4 h5 g5 ry=>?_⟩
     have gg:=((g2.trans g3).trans g4).trans g5
     exact⟨F4,acc++[y],gg,(rs.mono ((g3.ff.trans g4.ff).trans g5.ff)).app (.one ry),hl,by rw[List.length_append];simp;omega,h5⟩
    |false=>
     rw[if_neg Bool.false_ne_true] at h4 ⊢
     exact⟨F3,acc,(g2.trans g3).trans g4,rs.mono (g3.ff.trans g4.ff),hl,by omega,h4⟩
   ·have e:its.drop i=[]:=List.drop_eq_nil_of_le (by omega)
    rw[e] at h2
    exact .inl ⟨it2 (by omega),fun l hl=>k acc l ys F' _ h2 ((g1.trans g2).trans (.newO g2.fh hl _)) ((g1.trans g2).hh.free hl) (g2.fh.free hl) ak rs⟩⟩
theorem CO {K:PySem.W.Frag}{fm:List (Option Nat)}{ti:kl}{g0:TG}{g:nS}{tc:iD}(hg:dO X.K g0 g)(h:PE X e (fD fm (lI X.K ti) g0 (lB X.K tc) (lE X.K te))):rD X e (mZ fm ti g tc te):=PE.weak h (jm hg)
end
end Pu
end
section
namespace Pu
open PySem PySem.Spec L2
noncomputable def qc:Sl->Bool
 |.val _=>false
 |_=>true
noncomputable def gG (σ:L2.St)(ρ:ai)(i:Nat)(a:Addr):Prop:=(∃s,ρ[i]?=some (some s)/\qc s=true)/\σ[i]?=some (some (.ref a))
structure BR (K:PySem.W.Frag)(F0 H0 F H:Hp)(σ:L2.St)(ρ:ai):Prop where
 er:ER K F H σ ρ
 gr:Grow F0 H0 F H
 ow:∀i a,gG σ ρ i a->H0 a=none
 dj:∀i j a,gG σ ρ i a->gG σ ρ j a->i=j
section
variable {K:PySem.W.Frag}{F0 H0 F H F' H':Hp}{σ σ':L2.St}{ρ ρ':ai}
theorem BR.grow (h:BR K F0 H0 F H σ ρ)(g:Grow F H F' H'):BR K F0 H0 F' H' σ ρ:=⟨h.er.grow g,h.gr.trans g,h.ow,h.dj⟩
theorem cc {i j:Nat}{v:V}{s:Sl}{a:Addr}(h:gG (σ.set i (some v)) (ρ.set i (some s)) j a):(i=j/\qc s=true/\v=.ref a)\/(i≠j/\gG σ ρ j a):=by
 obtain⟨⟨s',e,hs⟩,e2⟩:=h
 by_cases hij:i=j
 ·subst hij
  have hi:i<ρ.length:=by
   have:=(List.getElem?_eq_some_iff.mp e).1
   rwa [List.length_set] at this
  have hi2:i<σ.length:=by
   have:=(List.getElem?_eq_some_iff.mp e2).1
   rwa [List.length_set] at this
  rw[List.getElem?_set_self hi] at e
  rw[List.getElem?_set_self hi2] at e2
  cases e
  cases e2
  exact .inl ⟨rfl,hs,rfl⟩
 ·rw[List.getElem?_set_ne hij] at e e2
  exact .inr ⟨hij,⟨s',e,hs⟩,e2⟩
theorem BR.setV (h:BR K F0 H0 F H σ ρ){i:Nat}{p:PV}{v:V}(r:Rep K F p v):BR K F0 H0 F H (σ.set i (some v)) (ρ.set i (some (.val p))):=by
 refine⟨h.er.set r,h.gr,fun j a o=>?_,fun j k a o o'=>?_⟩
 ·rcases cc o with ⟨_,z,_⟩|⟨_,o⟩
  ·exact absurd z Bool.false_ne_true
  ·exact h.ow j a o
 ·rcases cc o with ⟨_,z,_⟩|⟨_,o⟩
  ·exact absurd z Bool.false_ne_true
  ·rcases cc o' with ⟨_,z,_⟩|⟨_,o'⟩
   ·exact absurd z Bool.false_ne_true
   ·exact h.dj j k a o o'
theorem BR.upd (h:BR K F0 H0 F H σ ρ)(u:VUpd K F σ ρ σ' ρ'):BR K F0 H0 F H σ' ρ':=by
 induction u with
 |refl=>exact h
 |step _ r ih=>exact (ih h).setV r
theorem ER.live (h:ER K F H σ ρ){i:Nat}{a:Addr}(o:gG σ ρ i a):F a=none/\∃u,H a=some u:=by
 obtain⟨⟨s,e,hs⟩,e2⟩:=o
 have:=h.sl i s e
 rw[e2] at this
 cases s with
 |val p=>exact absurd hs Bool.false_ne_true
 |own ps=>obtain⟨a',vs,e',h1,h2,_⟩:=this;cases e';exact⟨h2,_,h1⟩
 |dic ks ps=>obtain⟨a',vs,e',h1,h2,_⟩:=this;cases e';exact⟨h2,_,h1⟩
theorem BR.setN (h:BR K F0 H0 F H σ ρ)(g:Grow F H F' H'){i:Nat}{a:Addr}{vs:List V}{ps:List PV}(h0:H a=none)(hF:F' a=none)(hH:H' a=some (.lst vs))(r:Reps K F' ps vs) :
  BR K F0 H0 F' H' (σ.set i (some (.ref a))) (ρ.set i (some (.own ps))):=by
 have h':=h.grow g
 refine⟨h'.er.set ⟨a,vs,rfl,hH,hF,r⟩,h'.gr,fun j b o=>?_,fun j k b o o'=>?_⟩
 ·rcases cc o with ⟨_,_,z⟩|⟨_,o⟩
  ·cases z;exact h.gr.hh.free h0
  ·exact h.ow j b o
 ·have ne:∀{m:Nat},gG σ ρ m b->b≠a:=fun {m} o e=>by
   obtain⟨_,u,hu⟩:=h.er.live o
   subst e
   rw[h0] at hu;cases hu
  rcases cc o with ⟨e1,_,z⟩|⟨_,o⟩
  ·rcases cc o' with ⟨e2,_,_⟩|⟨_,o'⟩
   ·exact e1.symm.trans e2
   ·cases z;exact absurd rfl (ne o')
  ·rcases cc o' with ⟨e2,_,z⟩|⟨_,o'⟩
   ·cases z;exact absurd rfl (ne o)
   ·exact h.dj j k b o o'
theorem nR {i:Nat}{v:V}(e:σ[i]?=some (some v)):σ.set i (some v)=σ:=by
 apply List.ext_getElem?
 intro j
 by_cases hij:i=j
 ·subst hij
  rw[List.getElem?_set_self (List.getElem?_eq_some_iff.mp e).1,e]
 ·rw[List.getElem?_set_ne hij]
theorem BR.mut (h:BR K F0 H0 F H σ ρ){i:Nat}{a:Addr}{u:HO}{s:Sl}(o:gG σ ρ i a)(hs:qc s=true)(r:SlR K F (L2.upd H a u) (some (.ref a)) (some s)):BR K F0 H0 F (L2.upd H a u) σ (ρ.set i (some s)):=by
 obtain⟨hF,u0,hu⟩:=h.er.live o
 have h0:H0 a=none:=h.ow i a o
 have e2:=o.2
 refine⟨⟨fun b w e=>?_,by rw[List.length_set];exact h.er.len,fun j s' e=>?_⟩,⟨fun b w e=>?_,h.gr.ff,fun b w e=>?_,h.gr.nw⟩,fun j b o'=>?_,fun j k b o' o''=>?_⟩
 ·have:b≠a:=fun z=>by subst z;rw[hF] at e;cases e
  rw[av this];exact h.er.fz b w e
 ·by_cases hij:i=j
  ·subst hij
   have hi:i<ρ.length:=by
    have:=(List.getElem?_eq_some_iff.mp e).1
    rwa [List.length_set] at this
   rw[List.getElem?_set_self hi] at e
   cases e
   rw[e2]
   exact r
  ·rw[List.getElem?_set_ne hij] at e
   have old:=h.er.sl j s' e
   obtain⟨v,ev,_⟩:=h.er.rd e
   rw[ev] at old ⊢
   have ne:∀b,qc s'=true->v=.ref b->b≠a:=fun b hb hv z=>by
    subst hv z
    exact hij (h.dj i j b o ⟨⟨s',e,hb⟩,ev⟩)
   cases s' with
   |val p=>exact old
   |own ps=>obtain⟨b,vs,e',h1,h2,h3⟩:=old;cases e';exact⟨b,vs,rfl,by rw[av (ne b rfl rfl)];exact h1,h2,h3⟩
   |dic ks ps=>obtain⟨b,vs,e',h1,h2,h3,h4⟩:=old;cases e';exact⟨b,vs,rfl,by rw[av (ne b rfl rfl)];exact h1,h2,h3,h4⟩
 ·have:b≠a:=fun z=>by subst z;rw[h0] at e;cases e
  rw[av this];exact h.gr.hh b w e
 ·have:b≠a:=fun z=>by subst z;rw[hF] at e;cases e
  rw[av this];exact h.gr.fh b w e
 ·rw[←nR e2] at o'
  rcases cc o' with ⟨_,_,z⟩|⟨_,o'⟩
  ·cases z;exact h0
  ·exact h.ow j b o'
 ·rw[←nR e2] at o' o''
  rcases cc o' with ⟨e1,_,z⟩|⟨_,o'⟩
  ·rcases cc o'' with ⟨e3,_,_⟩|⟨n,o''⟩
   ·exact e1.symm.trans e3
   ·cases z;exact absurd (h.dj i k a o o'') n
  ·rcases cc o'' with ⟨e3,_,z⟩|⟨_,o''⟩
   ·cases z;rw[←e3];exact h.dj j i a o' o
   ·exact h.dj j k b o' o''
theorem BR.fz (h:BR K F0 H0 F H σ ρ){i:Nat}{ps:List PV}(e:ρ[i]?=some (some (.own ps))):∃F',BR K F0 H0 F' H σ (ρ.set i (some (.val (.lst ps)))):=by
 obtain⟨v,ev,_⟩:=h.er.rd e
 have sl:=h.er.sl i _ e
 rw[ev] at sl
 obtain⟨a,vs,e',h1,h2,h3⟩:=sl
 cases e'
 have o:gG σ ρ i a:=⟨⟨_,e,rfl⟩,ev⟩
 have h0:=h.ow i a o
 have gr:=h.gr.freeze h0 h2 h1
 have mono:Same F (L2.upd F a (.lst vs)):=aY h2 _
 refine⟨L2.upd F a (.lst vs),⟨gr.fh,by rw[List.length_set];exact h.er.len,fun j s' e'=>?_⟩,gr,fun j b o'=>?_,fun j k b o' o''=>?_⟩
 ·by_cases hij:i=j
  ·subst hij
   have hi:i<ρ.length:=(List.getElem?_eq_some_iff.mp e).1
   rw[List.getElem?_set_self hi] at e'
   cases e'
   rw[ev]
   exact⟨a,vs,rfl,ak,h3.mono mono⟩
  ·rw[List.getElem?_set_ne hij] at e'
   have old:=h.er.sl j s' e'
   obtain⟨v,ev',_⟩:=h.er.rd e'
   rw[ev'] at old ⊢
   have ne:∀b,qc s'=true->v=.ref b->b≠a:=fun b hb hv z=>by
    subst hv z
    exact hij (h.dj i j b o ⟨⟨s',e',hb⟩,ev'⟩)
   cases s' with
   |val p=>exact Rep.mono mono old
   |own qs=>obtain⟨b,us,e',k1,k2,k3⟩:=old;cases e';exact⟨b,us,rfl,k1,by rw[av (ne b rfl rfl)];exact k2,k3.mono mono⟩
   |dic ks qs=>obtain⟨b,us,e',k1,k2,k3,k4⟩:=old;cases e';exact⟨b,us,rfl,k1,by rw[av (ne b rfl rfl)];exact k2,k3,k4.mono mono⟩
 ·rw[←nR ev] at o'
  rcases cc o' with ⟨_,z,_⟩|⟨_,o'⟩
  ·exact absurd z Bool.false_ne_true
  ·exact h.ow j b o'
 ·rw[←nR ev] at o' o''
  rcases cc o' with ⟨_,z,_⟩|⟨_,o'⟩
  ·exact absurd z Bool.false_ne_true
  ·rcases cc o'' with ⟨_,z,_⟩|⟨_,o''⟩
   ·exact absurd z Bool.false_ne_true
   ·exact h.dj j k b o' o''
end
noncomputable def zS (F H0:Hp):Hp:=fun b=>match F b with
 |some o=>some o
 |none=>H0 b
section
variable {K:PySem.W.Frag}{F0 H0 F H F' H':Hp}{σ σ':L2.St}{ρ ρ':ai}
theorem lK {b:Addr}(h:zS F H0 b=none):F b=none/\H0 b=none:=by
 unfold zS at h
 split at h
 ·cases h
 ·exact⟨by assumption,h⟩
theorem Gb {b:Addr}(hF:F b=none)(h0:H0 b=none):zS F H0 b=none:=by unfold zS;rw[hF];exact h0
theorem BR.base (h:BR K F0 H0 F H σ ρ):BR K F (zS F H0) F H σ ρ:=by
 refine⟨h.er,⟨fun b o e=>?_,Same.refl _,h.er.fz,fun b o e=>.inl e⟩,fun i a o=>Gb (h.er.live o).1 (h.ow i a o),h.dj⟩
 unfold zS at e
 split at e
 ·next q=>cases e;exact h.er.fz b _ q
 ·exact h.gr.hh b o e
theorem Grow.unbase (g:Grow F0 H0 F H)(g':Grow F (zS F H0) F' H'):Grow F0 H0 F' H':=by
 refine⟨fun b o e=>?_,g.ff.trans g'.ff,g'.fh,fun b o e=>?_⟩
 ·refine g'.hh b o ?_
  unfold zS
  split
  ·next u q=>rw[←g.fh b u q];exact g.hh b o e
  ·exact e
 ·rcases g'.nw b o e with z|z|z
  ·exact g.nw b o z
  ·exact .inr (.inl (lK z).2)
  ·exact .inr (.inr z)
theorem BR.unbase (h:BR K F (zS F H0) F' H' σ' ρ')(g:Grow F0 H0 F H):BR K F0 H0 F' H' σ' ρ':=⟨h.er,g.unbase h.gr,fun i a o=>(lK (h.ow i a o)).2,h.dj⟩
end
structure PEnds where
 nx:ai->Prop
 rt:PV->Prop
 rn:List PV->Prop
 bk:ai->Prop:=fun _=>False
 ct:ai->Prop:=fun _=>False
noncomputable abbrev eS:=PEnds->ai->Prop
structure Fit (K:PySem.W.Frag)(F0 H0:Hp)(Dp:PEnds)(D:Ends):Prop where
 nx:∀F H σ ρ,Dp.nx ρ->BR K F0 H0 F H σ ρ->D.nx σ H
 bk:∀F H σ ρ,Dp.bk ρ->BR K F0 H0 F H σ ρ->D.bk σ H
 ct:∀F H σ ρ,Dp.ct ρ->BR K F0 H0 F H σ ρ->D.ct σ H
 rt:∀p v F H,Dp.rt p->Grow F0 H0 F H->Rep K F p v->D.rt v H
 rn:∀ps a vs F H,Dp.rn ps->Grow F0 H0 F H->H0 a=none->F a=none->H a=some (.lst vs)->Reps K F ps vs->D.rt (.ref a) H
noncomputable def lS (K:PySem.W.Frag)(ts:eS):TS:=fun D σ H=>∃F0 H0 F ρ Dp,BR K F0 H0 F H σ ρ/\ts Dp ρ/\Fit K F0 H0 Dp D
theorem lS.elim {K:PySem.W.Frag}{ts:eS}{D:Ends}{σ:St}{H:Hp}{C:Prop}(h:lS K ts D σ H)(k:∀F0 H0 F ρ Dp,BR K F0 H0 F H σ ρ->ts Dp ρ->Fit K F0 H0 Dp D->C):C:=by obtain⟨F0,H0,F,ρ,Dp,a,b,c⟩:=h;exact k F0 H0 F ρ Dp a b c
noncomputable def gZ (X:Cx)(st:Stmt)(ts:eS):Prop:=PS X st (lS X.K ts)
noncomputable def lJ (X:Cx)(st:List Stmt)(ts:eS):Prop:=PSs X st (lS X.K ts)
noncomputable def zP:eS:=fun D ρ=>D.nx ρ
noncomputable def Kf (t u:eS):eS:=fun D ρ=>t { D with nx:=u D } ρ
noncomputable def Hn:eS:=fun D ρ=>D.bk ρ
noncomputable def Kc:eS:=fun D ρ=>D.ct ρ
noncomputable def FQ:eS:=fun _ _=>False
noncomputable def LW (te:cY):eS:=fun D ρ=>te ρ fun _=>D.nx ρ
noncomputable def On (te:cY):eS:=fun D ρ=>te ρ D.rt
noncomputable def Mk (tn:oz):eS:=fun D ρ=>tn ρ D.rn
noncomputable def go (ρ:ai)(i:Nat)(Q:List PV->Prop):Prop:=match ρ[i]? with
 |some (some (.own ps))=>Q ps
 |_=>False
theorem go.ex {ρ:ai}{i:Nat}{Q:List PV->Prop}(h:go ρ i Q):∃ps,ρ[i]?=some (some (.own ps))/\Q ps:=by
 unfold go at h
 split at h
 ·exact⟨_,by assumption,h⟩
 ·exact h.elim
noncomputable def Ef (i:Nat):eS:=fun D ρ=>go ρ i D.rn
noncomputable def P0 (c:iD)(t u:eS):eS:=fun D ρ=>c ρ fun b=>if b=true then t D ρ else u D ρ
noncomputable def KW (i:Nat)(te:cY):eS:=fun D ρ=>te ρ fun p=>D.nx (ρ.set i (some (.val p)))
noncomputable def DZ (i:Nat)(tn:oz):eS:=fun D ρ=>tn ρ fun ps=>D.nx (ρ.set i (some (.own ps)))
noncomputable def N3 (te:cY)(g:nS):eS:=fun D ρ=>te ρ fun p=>g p ρ D.nx
noncomputable def frz (i:Nat)(ρ:ai):ai:=match ρ[i]? with
 |some (some (.own ps))=>ρ.set i (some (.val (.lst ps)))
 |_=>ρ
noncomputable def tE (i:Nat)(t:eS):eS:=fun D ρ=>t D (frz i ρ)
section
variable {X:Cx}{st:Stmt}{bN:List Stmt}{t u:eS}{te:cY}{tn:oz}{e:Expr}{pos:Pos}{i:Nat}
theorem yC:lJ X [] zP:=PSs.weak Ai fun D σ H hh_=>hh_.elim fun F0 H0 F ρ Dp br h ft=>ft.nx F H σ ρ h br
theorem vV (h1:gZ X st t)(h2:lJ X bN u):lJ X (st::bN) (Kf t u):=PSs.weak (y3 h1 h2) fun D σ H hh_=>hh_.elim fun F0 H0 F ρ Dp br h ft=>
 ⟨F0,H0,F,ρ,_,br,h,⟨fun F' H' σ' ρ' h' br'=>⟨F0,H0,F',ρ',Dp,br',h',ft⟩,ft.bk,ft.ct,ft.rt,ft.rn⟩⟩
theorem xt (h1:gZ X st t):lJ X [st] t:=tz h1
theorem zE:gZ X (.Pass pos) zP:=PS.weak A9 fun D σ H hh_=>hh_.elim fun F0 H0 F ρ Dp br h ft=>ft.nx F H σ ρ h br
theorem uu:gZ X (.Break pos) Hn:=PS.weak yB fun D σ H hh_=>hh_.elim fun F0 H0 F ρ Dp br h ft=>ft.bk F H σ ρ h br
theorem zn:gZ X (.Continue pos) Kc:=PS.weak qN fun D σ H hh_=>hh_.elim fun F0 H0 F ρ Dp br h ft=>ft.ct F H σ ρ h br
theorem nc:gZ X st FQ:=PS.weak yg fun D σ H hh_=>hh_.elim fun F0 H0 F ρ Dp br h ft=>h
theorem Dl {x j pos pos'}:gZ X (.Expr (.Constant (.str x) j pos) pos') zP:=PS.weak Ia fun D σ H hh_=>hh_.elim fun F0 H0 F ρ Dp br h ft=>ft.nx F H σ ρ h br
theorem zp (h:PS X st (iN (lE X.K te))):gZ X st (LW te):=PS.weak h fun D σ H hh_=>hh_.elim fun F0 H0 F ρ Dp br h ft=>⟨F,ρ,_,br.er,h,fun p v F1 H1 h1 g1 r1=>ft.nx F1 H1 σ ρ h1 (br.grow g1)⟩
theorem tI (he:dr X e te):gZ X (.Return (some e) pos) (On te):=PS.weak (nU he) fun D σ H hh_=>hh_.elim fun F0 H0 F ρ Dp br h ft=>⟨F,ρ,_,br.er,h,fun p v F1 H1 h1 g1 r1=>ft.rt p v F1 H1 h1 (br.gr.trans g1) r1⟩
theorem yv (he:rD X e tn):gZ X (.Return (some e) pos) (Mk tn):=PS.weak (nU he) fun D σ H hh_=>hh_.elim fun F0 H0 F ρ Dp br h ft=>⟨F,ρ,_,br.er,h,fun ps a vs F1 H1 h1 g1 h0 hF hH r1=>ft.rn ps a vs F1 H1 h1 (br.gr.trans g1) (br.gr.hh.free h0) hF hH r1⟩
theorem zt (he:PE X e (iA i)):gZ X (.Return (some e) pos) (Ef i):=PS.weak (nU he) fun D σ H hh_=>hh_.elim fun F0 H0 F ρ Dp br h ft=>by
 obtain⟨ps,e,h⟩:=h.ex
 obtain⟨v,ev,_⟩:=br.er.rd e
 have sl:=br.er.sl i _ e
 rw[ev] at sl
 obtain⟨a,vs,e',h1,h2,h3⟩:=sl
 cases e'
 exact⟨_,ev,ft.rn ps a vs F H h br.gr (br.ow i a ⟨⟨_,e,rfl⟩,ev⟩) h2 h1 h3⟩
theorem FK {c:Expr}{a b:List Stmt}{tc:iD}(hc:PuB X c tc)(ha:lJ X a t)(hb:lJ X b u):gZ X (.If c a b pos) (P0 tc t u):=PS.weak (Kb hc ha hb) fun D σ H hh_=>hh_.elim fun F0 H0 F ρ Dp br h ft=>⟨F,ρ,_,br.er,h,fun b F1 H1 h1 g1=>by
 cases b with
 |true=>exact⟨F0,H0,F1,ρ,Dp,br.grow g1,by simpa using h1,ft⟩
 |false=>exact⟨F0,H0,F1,ρ,Dp,br.grow g1,by simpa using h1,ft⟩⟩
theorem tR (h:PS X st (fU (lE X.K te) (dc i))):gZ X st (KW i te):=PS.weak h fun D σ H hh_=>hh_.elim fun F0 H0 F ρ Dp br h ft=>⟨F,ρ,_,br.er,h,fun p v F1 H1 h1 g1 r1=>ft.nx F1 H1 _ _ h1 ((br.grow g1).setV r1)⟩
theorem pY (h:PS X st (fU (lN X.K tn) (dc i))):gZ X st (DZ i tn):=PS.weak h fun D σ H hh_=>hh_.elim fun F0 H0 F ρ Dp br h ft=>⟨F,ρ,_,br.er,h,fun ps a vs F1 H1 h1 g1 h0 hF hH r1=>ft.nx F1 H1 _ _ h1 (br.setN g1 h0 hF hH r1)⟩
theorem CA {g0:TG}{g:nS}(hg:dO X.K g0 g)(h:PS X st (fU (lE X.K te) g0)):gZ X st (N3 te g):=PS.weak h fun D σ H hh_=>hh_.elim fun F0 H0 F ρ Dp br h ft=>⟨F,ρ,_,br.er,h,fun p v F1 H1 h1 g1 r1=>
 hg F1 H1 σ ρ p v _ _ g1.fh r1 h1 fun σ' ρ' q u=>ft.nx F1 H1 σ' ρ' q ((br.grow g1).upd u)⟩
theorem sR (i:Nat)(h:gZ X st t):gZ X st (tE i t):=PS.weak h fun D σ H hh_=>hh_.elim fun F0 H0 F ρ Dp br h ft=>by
 unfold tE frz at h
 split at h
 ·next ps e=>
  obtain⟨F',br'⟩:=br.fz e
  exact⟨F0,H0,F',_,Dp,br',h,ft⟩
 ·exact⟨F0,H0,F,ρ,Dp,br,h,ft⟩
theorem qP {fm:List (Option Nat)}{ti:kl}{g0:TG}{g:nS}{tc:iD}(hg:dO X.K g0 g)(h:PS X st (fU (fD fm (lI X.K ti) g0 (lB X.K tc) (lE X.K te)) (dc i))):gZ X st (DZ i (mZ fm ti g tc te)):=pY (PS.weak h fun D σ H q=>jm hg σ H _ q)
theorem oj {fm:List (Option Nat)}{ti:kl}{g0:TG}{g:nS}{tc:iD}(hg:dO X.K g0 g)(h:PS X st (fU (fD fm (lI X.K ti) g0 (lB X.K tc) (lE X.K te)) (dc i))):gZ X st (KW i (Nt (mZ fm ti g tc te))):=PS.weak h fun D σ H hh_=>hh_.elim fun F0 H0 F ρ Dp br h ft=>jm hg σ H _ ⟨F,ρ,_,br.er,h,fun ps a vs F1 H1 h1 g1 h0 hF hH r1=>
 ft.nx _ H1 _ _ h1 ((br.grow (g1.freeze h0 hF hH)).setV ⟨a,vs,rfl,ak,r1.mono (aY hF _)⟩)⟩
noncomputable def GR (i:Nat)(f:Int->Int->Int)(te:cY):eS:=fun D ρ=>gv ρ i fun x=>te ρ fun y=>OkI x fun a=>OkI y fun b=>D.nx (ρ.set i (some (.val (.int (f a b)))))
theorem Cv {f:Int->Int->Int}(h:PS X st (wv i (lE X.K te) (D4 f))):gZ X st (GR i f te):=PS.weak h fun D σ H hh_=>hh_.elim fun F0 H0 F ρ Dp br h ft=>by
 unfold GR gv at h
 split at h
 ·next p e=>
  obtain⟨v,ev,_⟩:=br.er.rd e
  have sl:=br.er.sl i _ e
  rw[ev] at sl
  refine⟨v,ev,F,ρ,_,br.er,h,fun q w F1 H1 h1 g1 r1=>?_⟩
  obtain⟨x,rfl,rfl,h1⟩:=OkI.rd (H:=H1) h1 (.frz (Rep.mono g1.ff sl))
  obtain⟨y,rfl,rfl,h1⟩:=OkI.rd (H:=H1) h1 (.frz r1)
  exact⟨x,y,rfl,rfl,ft.nx F1 H1 _ _ h1 ((br.grow g1).setV rfl)⟩
 ·exact h.elim
theorem BR.ownAt {K:PySem.W.Frag}{F0 H0 F H:Hp}{σ:L2.St}{ρ:ai}(br:BR K F0 H0 F H σ ρ){ps:List PV}(e:ρ[i]?=some (some (.own ps))):∃a vs,σ[i]?=some (some (.ref a))/\gG σ ρ i a/\H a=some (.lst vs)/\F a=none/\Reps K F ps vs:=by
 obtain⟨v,ev,_⟩:=br.er.rd e
 have sl:=br.er.sl i _ e
 rw[ev] at sl
 obtain⟨a,vs,e',h1,h2,h3⟩:=sl
 cases e'
 exact⟨a,vs,ev,⟨⟨_,e,rfl⟩,ev⟩,h1,h2,h3⟩
noncomputable def LC (i:Nat)(t:fG):eS:=fun D ρ=>go ρ i fun ps=>t ρ fun qs=>One qs fun q=>ps.length<sizeLine/\D.nx (ρ.set i (some (.own (ps++[q]))))
theorem CN {t:fG}(h:PS X st (iN (ML X.K "list" pp (iA i) (lA X.K t)))):gZ X st (LC i t):=PS.weak h fun D σ H hh_=>hh_.elim fun F0 H0 F ρ Dp br h ft=>by
 obtain⟨ps,e,h⟩:=h.ex
 obtain⟨a,vs,ev,o,h1,h2,h3⟩:=br.ownAt e
 refine⟨_,ev,.inl ⟨rfl,vs,SqL.of h1⟩,F,ρ,_,br.er,h,fun qs us F1 H1 k1 g1 r1=>?_⟩
 unfold One at k1
 split at k1
 ·next q=>
  obtain⟨v,r,rfl,r1,er⟩:=r1
  cases (show r=[] from er)
  have k:=g1.keep h2 h1
  exact⟨a,vs,v,rfl,rfl,k.2,by rw[h3.length];exact k1.1,ft.nx F1 _ σ _ k1.2 ((br.grow g1).mut (s:=.own _) o rfl ⟨a,_,rfl,ak,k.1,(h3.mono g1.ff).app (.one r1)⟩)⟩
 ·exact k1.elim
noncomputable def HX (j:Nat)(ti te:cY):eS:=fun D ρ=>te ρ fun v=>go ρ j fun ps=>ti ρ fun k=>OkI k fun k=>OkO (oH ps.length k) fun n=>D.nx (ρ.set j (some (.own (ps.set n v))))
theorem ui {j:Nat}{ti:cY}(h:PS X st (fU (lE X.K te) (L2.rz (iA j) (lE X.K ti) qF))):gZ X st (HX j ti te):=PS.weak h fun D σ H hh_=>hh_.elim fun F0 H0 F ρ Dp br h ft=>⟨F,ρ,_,br.er,h,fun p v F1 H1 h1 g1 r1=>by
 obtain⟨ps,e,h⟩:=h1.ex
 have br1:=br.grow g1
 obtain⟨a,vs,ev,o,k1,k2,k3⟩:=br1.ownAt e
 refine⟨_,ev,F1,ρ,_,br1.er,h,fun q w F2 H2 h2 g2 r2=>?_⟩
 obtain⟨k,rfl,rfl,h2⟩:=OkI.rd (H:=H2) h2 (.frz r2)
 obtain⟨n,en,h2⟩:=h2.ex
 have kk:=g2.keep k2 k1
 exact⟨a,vs,k,n,rfl,rfl,kk.2,by rw[k3.length];exact en,ft.nx F2 _ σ _ h2 ((br1.grow g2).mut (s:=.own _) o rfl ⟨a,_,rfl,ak,kk.1,(k3.mono g2.ff).set (r1.mono g2.ff) n⟩)⟩⟩
noncomputable def mW (g:nS)(tb:eS)(D:PEnds):List PV->ai->Prop
 |[],ρ=>D.nx ρ
 |v::vs,ρ=>g v ρ fun ρ2=>tb { D with nx:=mW g tb D vs,ct:=mW g tb D vs,bk:=D.nx } ρ2
noncomputable def Nl (ti:kl)(g:nS)(tb:eS):eS:=fun D ρ=>ti ρ fun its=>mW g tb D its ρ
theorem B3 {ti:kl}{g0:TG}{g:nS}{tb:eS}(hg:dO X.K g0 g)(h:PS X st (GG (lI X.K ti) g0 (lS X.K tb))):gZ X st (Nl ti g tb):=PS.weak h fun D σ H hh_=>hh_.elim fun F0 H0 F ρ Dp br h ft=>⟨F,ρ,_,br.er,h,fun its J F1 H1 h1 g1 it=>by
 refine⟨fun i m σ' H'=>∃F' ρ',BR X.K F0 H0 F' H' σ' ρ'/\Same F1 F'/\i≤its.length/\m=its.length - i/\mW g tb Dp (its.drop i) ρ',⟨its.length,F1,ρ,br.grow g1,Same.refl _,Nat.zero_le _,rfl,h1⟩,?_⟩
 rintro i m σ' H' ⟨F',ρ',br',s1,hi,rfl,h2⟩
 obtain⟨it1,it2⟩:=it F' H' i s1 br'.er.fz
 by_cases hl:i<its.length
 ·obtain⟨go,yl⟩:=it1 _ (List.getElem?_eq_getElem hl)
  rw[List.drop_eq_getElem_cons hl] at h2
  refine .inr ⟨go,fun σ2 H2=>∃F2 ρ2,BR X.K F0 H0 F2 H2 σ2 ρ2/\Same F1 F2/\mW g tb Dp (its.drop (i+1)) ρ2,fun σ2 H2 ⟨F2,ρ2,b2,s2,q2⟩=>⟨its.length - (i+1),by omega,F2,ρ2,b2,s2,hl,rfl,q2⟩,fun x H2 hy=>?_⟩
  obtain⟨F2,g2,rx⟩:=yl x H2 hy
  refine hg F2 H2 σ' ρ' _ x _ _ g2.fh rx h2 fun σ3 ρ3 h3 u=>?_
  have br3:=(br'.grow g2).upd u
  refine⟨F2,zS F2 H0,F2,ρ3,_,br3.base,h3,⟨fun F4 H4 σ4 ρ4 h4 b4=>?_,fun F4 H4 σ4 ρ4 h4 b4=>?_,fun F4 H4 σ4 ρ4 h4 b4=>?_,fun p v F4 H4 h4 g4 r4=>ft.rt p v F4 H4 h4 (br3.gr.unbase g4) r4,fun ps a vs F4 H4 h4 g4 h0 hF hH r4=>ft.rn ps a vs F4 H4 h4 (br3.gr.unbase g4) (lK h0).2 hF hH r4⟩⟩
  ·exact⟨F4,ρ4,b4.unbase br3.gr,(s1.trans g2.ff).trans b4.gr.ff,h4⟩
  ·exact ft.nx F4 H4 σ4 ρ4 h4 (b4.unbase br3.gr)
  ·exact⟨F4,ρ4,b4.unbase br3.gr,(s1.trans g2.ff).trans b4.gr.ff,h4⟩
 ·have e:its.drop i=[]:=List.drop_eq_nil_of_le (by omega)
  rw[e] at h2
  exact .inl ⟨it2 (by omega),ft.nx F' H' σ' ρ' h2 br'⟩⟩
noncomputable def gW (tc:iD)(tb:eS)(D:PEnds):Nat->ai->Prop
 |0,_=>False
 |n+1,ρ=>tc ρ fun b=>if b=true then tb { D with nx:=gW tc tb D n,ct:=gW tc tb D n,bk:=D.nx } ρ else D.nx ρ
noncomputable def GT (tc:iD)(tb:eS):eS:=fun D ρ=>∃n,gW tc tb D n ρ
theorem vG {tc:iD}{tb:eS}(h:PS X st (sO (lB X.K tc) (lS X.K tb))):gZ X st (GT tc tb):=PS.weak h fun D σ H hh_=>hh_.elim fun F0 H0 F ρ Dp br ⟨n,h⟩ ft=>by
 refine⟨fun m σ' H'=>∃F' ρ',BR X.K F0 H0 F' H' σ' ρ'/\gW tc tb Dp m ρ',⟨n,F,ρ,br,h⟩,?_⟩
 rintro m σ' H' ⟨F',ρ',br',h'⟩
 cases m with
 |zero=>exact h'.elim
 |succ m=>
  refine⟨F',ρ',_,br'.er,h',fun b F1 H1 h1 g1=>?_⟩
  cases b with
  |true=>
   rw[if_pos rfl] at h1 ⊢
   refine⟨fun σ2 H2=>∃F2 ρ2,BR X.K F0 H0 F2 H2 σ2 ρ2/\gW tc tb Dp m ρ2,fun σ2 H2 q=>⟨m,Nat.lt_succ_self _,q⟩,F0,H0,F1,ρ',_,br'.grow g1,h1,⟨fun F4 H4 σ4 ρ4 h4 b4=>⟨F4,ρ4,b4,h4⟩,fun F4 H4 σ4 ρ4 h4 b4=>ft.nx F4 H4 σ4 ρ4 h4 b4,fun F4 H4 σ4 ρ4 h4 b4=>⟨F4,ρ4,b4,h4⟩,ft.rt,ft.rn⟩⟩
  |false=>
   rw[if_neg Bool.false_ne_true] at h1 ⊢
   exact ft.nx F1 H1 σ' ρ' h1 (br'.grow g1)
inductive PR where
 |v (p:PV)|n (ps:List PV)
noncomputable def PR.pv:PR->PV
 |.v p=>p
 |.n ps=>.lst ps
noncomputable abbrev vh:=List PV->(PR->Prop)->Prop
noncomputable def Na (K:PySem.W.Frag)(H F' H':Hp)(v:V):PR->Prop
 |.v p=>Rep K F' p v
 |.n ps=>∃a vs,v=.ref a/\H a=none/\F' a=none/\H' a=some (.lst vs)/\Reps K F' ps vs
noncomputable def bq (K:PySem.W.Frag)(φ:vh):Sp:=fun vs H Q _=>∃F ps,∃Qp:PR->Prop,Same F H/\Reps K F ps vs/\φ ps Qp/\∀r v F' H',Qp r->Grow F H F' H'->Na K H F' H' v r->Q v H'
noncomputable def PEnds.of (Q:PR->Prop):PEnds:={ nx:=fun _=>Q (.v .non),rt:=fun p=>Q (.v p),rn:=fun ps=>Q (.n ps) }
noncomputable def iw (N:List Str)(ps:List PV):ai:=ps.map (fun p=>some (Sl.val p))++List.replicate (N.length - ps.length) none
theorem qi {K:PySem.W.Frag}{F H:Hp}(s:Same F H)(N:List Str):∀{ps:List PV} {vs:List V},Reps K F ps vs->ER K F H (L2.dn N vs) (iw N ps):=fun {ps vs} r=>by
 have hl:=r.length
 refine⟨s,by unfold L2.dn iw;simp[hl],fun i s' e=>?_⟩
 unfold iw at e
 unfold L2.dn
 rw[List.getElem?_append] at e ⊢
 rw[List.length_map] at e ⊢
 by_cases hi:i<ps.length
 ·rw[if_pos hi,List.getElem?_map] at e
  rw[if_pos (by omega),List.getElem?_map]
  obtain⟨p,ep,e⟩:=Option.map_eq_some_iff.mp e
  obtain⟨v,ev,rv⟩:=r.get ep
  cases e
  rw[ev]
  exact rv
 ·rw[if_neg hi,List.getElem?_replicate] at e
  split at e<;>cases e
theorem gM {N:List Str}{ps:List PV}{σ:L2.St}{i:Nat}{a:Addr}(o:gG σ (iw N ps) i a):False:=by
 obtain⟨⟨s,e,hs⟩,_⟩:=o
 unfold iw at e
 rw[List.getElem?_append] at e
 split at e
 ·rw[List.getElem?_map] at e
  obtain⟨p,ep,e⟩:=Option.map_eq_some_iff.mp e
  cases e
  exact absurd hs Bool.false_ne_true
 ·rw[List.getElem?_replicate] at e
  split at e<;>cases e
noncomputable def Kp (φ:vh)(t:fG):cY:=fun ρ Q=>t ρ fun ps=>φ ps fun r=>Q r.pv
noncomputable def O5:PR->(List PV->Prop)->Prop
 |.n ps,Q=>Q ps
 |_,_=>False
noncomputable def Gr (φ:vh)(t:fG):oz:=fun ρ Q=>t ρ fun ps=>φ ps fun r=>O5 r Q
theorem Dg {φ:vh}{t:fG}(h:PE X e (eI (bq X.K φ) [] E0 (lA X.K t))):dr X e (Kp φ t):=PE.weak h fun σ H Q hh_=>hh_.elim fun F ρ Qp er q k=>⟨F,ρ,_,er,q,fun ps vs F1 H1 h1 g1 r1=>by
 show bq X.K φ (vs++[]) H1 Q E0
 rw[List.append_nil]
 refine⟨F1,ps,_,g1.fh,r1,h1,fun r v F2 H2 h2 g2 rr=>?_⟩
 cases r with
 |v p=>exact k p v F2 H2 h2 (g1.trans g2) rr
 |n ps=>
  obtain⟨a,vs,rfl,h0,hF,hH,rs⟩:=rr
  exact k (.lst ps) _ _ H2 h2 ((g1.trans g2).freeze (g1.hh.free h0) hF hH) ⟨a,vs,rfl,ak,rs.mono (aY hF _)⟩⟩
theorem yj {φ:vh}{t:fG}(h:PE X e (eI (bq X.K φ) [] E0 (lA X.K t))):rD X e (Gr φ t):=PE.weak h fun σ H Q hh_=>hh_.elim fun F ρ Qp er q k=>⟨F,ρ,_,er,q,fun ps vs F1 H1 h1 g1 r1=>by
 show bq X.K φ (vs++[]) H1 Q E0
 rw[List.append_nil]
 refine⟨F1,ps,_,g1.fh,r1,h1,fun r v F2 H2 h2 g2 rr=>?_⟩
 cases r with
 |v p=>exact h2.elim
 |n ps=>
  obtain⟨a,vs,rfl,h0,hF,hH,rs⟩:=rr
  exact k ps a vs F2 H2 h2 (g1.trans g2) (g1.hh.free h0) hF hH rs⟩
end
theorem OD {P:Program}{w:World}{K:PySem.W.Frag}{mg:Str->Option Value}{base:Heap}{x:Str}{st:Stmt}{N ps:List Str}{k:Nat}{φ:vh}{ts:eS}(F:FunD K mg x st ps)(S:FnScope N ps (ad st))
  (hl:∀qs Q,φ qs Q->qs.length=ps.length)
  (hb:∀(f:Addr) (cdv:Value) (A:Around) (outer:List Env) (s:Shared) (H:Hp) (E:XK),Room k (A.deeper (PyProof.Rows.envOfC x (ad st) s.heap.objs.size f cdv))->lJ (iR rf P w K mg base N x (ad st) f cdv A outer s H E).nox (ah st) ts)
  (hφ:∀qs Q,φ qs Q->ts (PEnds.of Q) (iw N qs)):Def P w K mg base (k+1) x ps (bq K φ):=by
 refine F.ok S (fun vs H Q E ⟨F,qs,Qp,s,r,h,_⟩=>by rw[r.length];exact hl qs Qp h) (fun f cdv A outer s H vs Q E hr ⟨F,qs,Qp,sm,r,h,kk⟩=>?_)
 refine⟨_,hb f cdv A outer s H E hr,F,H,F,iw N qs,PEnds.of Qp,?_,hφ qs Qp h,?_⟩
 ·exact⟨qi sm N r,.refl sm,fun i a o=>(gM o).elim,fun i j a o _=>(gM o).elim⟩
 ·exact⟨fun F' H' σ' ρ' q b=>kk (.v .non) .non F' H' q b.gr rfl,fun F' H' σ' ρ' q b=>q.elim,fun F' H' σ' ρ' q b=>q.elim,fun p v F' H' q g rr=>kk (.v p) v F' H' q g rr,fun ps a vs F' H' q g h0 hF hH rs=>kk (.n ps) (.ref a) F' H' q g ⟨a,vs,rfl,h0,hF,hH,rs⟩⟩
end Pu
end
section
namespace Pu
open PySem PySem.Spec L2
theorem Def.imp {P:Program}{w:World}{K:PySem.W.Frag}{mg:Str->Option Value}{base:Heap}{k:Nat}{x:Str}{ps:List Str}{sp sp':Sp}(d:Def P w K mg base k x ps sp)(h:∀vs H Q E,sp' vs H Q E->sp vs H Q E):Def P w K mg base k x ps sp':=by
 obtain⟨f,fd,F,r⟩:=d
 exact⟨f,fd,F.imp h,r⟩
section
variable {X:Cx}{e a b c l tg iter:Expr}{pos:Pos}{te ta tb:cY}{t:fG}{st:Stmt}{i j:Nat}
theorem RdV.all {K:PySem.W.Frag}{F H:Hp}{p:PV}{v:V}(s:Same F H)(r:RdV K F H p v):Rep K H p v:=by
 cases r with
 |frz r=>exact r.mono s
 |own h1 h2 h3=>exact⟨_,_,rfl,h1,h3.mono s⟩
 |dic h1 h2 h3 h4=>exact⟨_,_,rfl,h1,h3,h4.mono s⟩
theorem RdVs.all {K:PySem.W.Frag}{F H:Hp}{ps:List PV}{vs:List V}(s:Same F H)(r:RdVs K F H ps vs):Reps K H ps vs:=by
 induction r with
 |nil=>rfl
 |cons r _ ih=>exact⟨_,_,rfl,r.all s,ih⟩
noncomputable def OkLo:PV->(List PV->Prop)->Prop
 |.lst ps,Q=>Q ps
 |_,_=>False
theorem OkLo.rd {K:PySem.W.Frag}{F H:Hp}{p:PV}{v:V}{Q:List PV->Prop}(h:OkLo p Q)(s:Same F H)(r:RdV K F H p v):∃a vs ps,p=.lst ps/\v=.ref a/\H a=some (.lst vs)/\Reps K F ps vs/\Q ps:=by
 cases r with
 |frz r=>
  cases p<;>first|exact h.elim|skip
  obtain⟨a,vs,rfl,e,r⟩:=r;exact⟨a,vs,_,rfl,rfl,s _ _ e,r,h⟩
 |own h1 h2 h3=>exact⟨_,_,_,rfl,rfl,h1,h3,h⟩
 |dic=>exact h.elim
noncomputable def Ox (ta tb:cY):oz:=fun ρ Q=>ta ρ fun x=>tb ρ fun y=>OkLo x fun ps=>OkLo y fun qs=>ps.length+qs.length≤sizeLine/\Q (ps++qs)
theorem IR (ha:d6 X a ta)(hb:d6 X b tb):rD X (.BinOp a .Add b pos) (Ox ta tb):=PE.weak (yM Hg ha hb) fun σ H Q hh_=>hh_.elim fun F ρ Qp er q k=>
 ⟨F,ρ,_,er,q,fun p v F1 H1 q1 g1 r1=>⟨F1,ρ,_,er.grow g1,q1,fun p2 v2 F2 H2 q2 g2 r2=>by
  obtain⟨a,vs,ps,rfl,rfl,h1,rs,q2⟩:=q2.rd g2.fh (r1.grow g2)
  obtain⟨b,us,qs,rfl,rfl,h2,rs2,q2⟩:=q2.rd g2.fh r2
  exact⟨a,b,vs,us,rfl,rfl,h1,h2,by rw[rs.length,rs2.length];exact q2.1,fun p hp=>k _ p _ F2 _ q2.2 ((g1.trans g2).trans (.newO g2.fh hp _)) ((g1.trans g2).hh.free hp) (g2.fh.free hp) ak (rs.app rs2)⟩⟩⟩
noncomputable def Nf (ta tb:cY):oz:=fun ρ Q=>ta ρ fun x=>tb ρ fun y=>OkLo x fun ps=>OkI y fun k=>-(2 ^ 63)≤k/\k<2 ^ 63/\ps.length * k.toNat≤sizeLine/\Q (List.replicate k.toNat ps).flatten
theorem Reps.repF {K:PySem.W.Frag}{F:Hp}{ps:List PV}{vs:List V}(h:Reps K F ps vs):∀n,Reps K F (List.replicate n ps).flatten (List.replicate n vs).flatten
 |0=>rfl
 |n+1=>by rw[List.replicate_succ,List.replicate_succ,List.flatten_cons,List.flatten_cons];exact h.app (Reps.repF h n)
theorem Hq (ha:d6 X a ta)(hb:d6 X b tb):rD X (.BinOp a .Mult b pos) (Nf ta tb):=PE.weak (yM H9 ha hb) fun σ H Q hh_=>hh_.elim fun F ρ Qp er q k=>
 ⟨F,ρ,_,er,q,fun p v F1 H1 q1 g1 r1=>⟨F1,ρ,_,er.grow g1,q1,fun p2 v2 F2 H2 q2 g2 r2=>by
  obtain⟨a,vs,ps,rfl,rfl,h1,rs,q2⟩:=q2.rd g2.fh (r1.grow g2)
  obtain⟨n,rfl,rfl,q2⟩:=q2.rd r2
  exact⟨a,n,vs,rfl,rfl,h1,q2.1,q2.2.1,by rw[rs.length];exact q2.2.2.1,fun p hp=>k _ p _ F2 _ q2.2.2.2 ((g1.trans g2).trans (.newO g2.fh hp _)) ((g1.trans g2).hh.free hp) (g2.fh.free hp) ak (rs.repF _)⟩⟩⟩
noncomputable def cr:Nat->List PV->List PV
 |_,[]=>[]
 |k,p::ps=>.tup [.int k,p]::cr (k+1) ps
theorem jw:∀(k:Nat) (ps:List PV),(cr k ps).length=ps.length
 |_,[]=>rfl
 |k,_::ps=>by rw[cr,List.length_cons,List.length_cons,jw]
theorem jA:∀(k:Nat) (ps:List PV) (i:Nat),(cr k ps)[i]?=(ps[i]?).map fun p=>.tup [.int ((k+i:Nat):Int),p]
 |_,[],i=>by simp[cr]
 |k,p::ps,0=>by simp[cr]
 |k,p::ps,i+1=>by
  rw[cr,List.getElem?_cons_succ,List.getElem?_cons_succ,jA,show k+1+i=k+(i+1) by omega]
noncomputable def KL (t:fG):kl:=fun ρ Q=>t ρ fun ps=>One ps fun p=>OkL p fun ps=>Q (cr 0 ps)
theorem zf (h:PI X tg iter (wI X.K (lA X.K t))):ur X tg iter (KL t):=PI.weak h fun σ H R hh_=>hh_.elim fun F ρ Qp er q k=>⟨F,ρ,_,er,q,fun ps vs F1 H1 h1 g1 r1=>by
 obtain⟨p,rfl,h⟩:∃p,ps=[p]/\OkL p fun ps=>Qp (cr 0 ps):=by
  unfold One at h1
  split at h1
  ·exact⟨_,rfl,h1⟩
  ·exact h1.elim
 obtain⟨v,r,rfl,r1,er'⟩:=r1
 cases (show r=[] from er')
 obtain⟨a,vs,ps,rfl,hs,rs,h⟩:∃a vs ps,v=.ref a/\SqL X.K F1 a vs/\Reps X.K F1 ps vs/\Qp (cr 0 ps):=by
  cases p with
  |lst ps=>obtain⟨a,vs,rfl,e,rs⟩:=r1;exact⟨a,vs,ps,rfl,SqL.of e,rs,h⟩
  |src ps=>obtain⟨a,vs,rfl,e,rs⟩:=r1;exact⟨a,vs,ps,rfl,e,rs,h⟩
  |_=>exact h.elim
 refine⟨a,rfl,⟨vs,g1.fh.seq hs⟩,k _ _ F1 H1 h g1 fun F2 H2 i s1 s2=>?_⟩
 have h2:=(s1.trans s2).seq hs
 refine⟨fun p e=>?_,fun hl=>⟨vs,h2,by rw[rs.length];rw[jw] at hl;exact hl⟩⟩
 rw[jA] at e
 obtain⟨p',e1,rfl⟩:=Option.map_eq_some_iff.mp e
 obtain⟨v,ev,rv⟩:=rs.get e1
 refine⟨⟨vs,v,h2,ev⟩,fun x H3 ⟨q,y,ex,hq,e2,hy⟩=>?_⟩
 subst ex e2
 have:=hy vs h2
 rw[ev] at this
 cases this
 refine⟨L2.upd F2 q (.tup [.int i,v]),.new s2 hq _,q,[.int i,v],rfl,ak,?_⟩
 refine⟨_,_,rfl,?_,_,_,rfl,(rv.mono s1).mono (aY (s2.free hq) _),rfl⟩
 show V.int i=V.int ((0+i:Nat):Int)
 rw[Nat.zero_add]⟩
noncomputable def OO (i j:Nat)(t:fG):eS:=fun D ρ=>t ρ fun ps=>Two ps fun p q=>D.nx ((ρ.set i (some (.val p))).set j (some (.val q)))
theorem Cf (h:PS X st (sk i j (lA X.K t))):gZ X st (OO i j t):=PS.weak h fun D σ H hh_=>hh_.elim fun F0 H0 F ρ Dp br h ft=>⟨F,ρ,_,br.er,h,fun ps vs F1 H1 h1 g1 r1=>by
 unfold Two at h1
 split at h1
 ·obtain⟨v,r,rfl,r1,v2,r2,e2,r3,e3⟩:=r1
  subst e2
  cases (show r2=[] from e3)
  exact⟨v,v2,rfl,ft.nx F1 H1 _ _ h1 (((br.grow g1).setV r1).setV r3)⟩
 ·exact h1.elim⟩
end
end Pu
end
section
namespace L2
open PySem PySem.Spec PyProof.Rows
noncomputable def DM:R2:=fun x y H Q=>∃l k xs,x=.ref l/\y=.int k/\H l=some (.tup xs)/\xs≠[]/\1≤k/\k≤1000/\xs.length≤1000/\(k=1->Q (.ref l) H)/\(k≠1->∀p,H p=none->Q (.ref p) (upd H p (.tup (List.replicate k.toNat xs).flatten)))
theorem Dn {X:Cx}:eQ X (binaryOp .Mult) DM:=by
 intro pins s σ H x y v u Q I rx ry h
 obtain⟨l,k,xs,rfl,rfl,hH,hx,k1,k2,k3,q⟩:=h
 cases rx
 obtain⟨t,rfl⟩:=ry
 obtain⟨its,r,p1,z⟩:=I.tuple (SqT.of' hH)
 obtain⟨⟨cls,dd,data,sl⟩,e,hc,n,hd⟩:=id p1
 simp only at hc hd
 subst hc hd
 have hl:=r.length
 have z1:sizeLine ≥ 1000000:=by decide
 have hne:its≠[]:=fun w=>hx (r.nil_iff.mp w)
 have io:its.length * k.toNat≤1000 * 1000:=Nat.mul_le_mul (by omega) (by omega)
 refine wpAny_binaryOp_repeat_ref (T:="tuple") (U:="int") (by decide) ⟨_,e,rfl⟩ (fun s'=>typeIs_int s' k t) jv PySem.F.fills_int_mul PySem.F.slot_int_rmul pj PySem.F.slot_int_index.lookup
  (call_meets PySem.F.slot_int_rmul (typeIs_int s k t) PySem.F.entry_int_rmul (PySem.F.args_int_rmul_2 _ _) (ly k t l its.toArray n dd sl) ⟨e,rfl,⟨_,e,rfl⟩,?_⟩)
 by_cases hk:k=1
 ·subst hk
  refine call_meets PySem.F.slot_tuple_mul ⟨_,e,rfl⟩ PySem.F.entry_tuple_mul (PySem.F.args_tuple_mul_2 _ _) (kC l its.toArray n dd sl t) ⟨e,?_⟩
  exact⟨.ref l,H,I,rfl,q.1 rfl⟩
 ·have hsz:((its.toArray.size:Nat):Int) * k=((its.length * k.toNat:Nat):Int):=by
   rw[List.size_toArray,Int.natCast_mul,Int.toNat_of_nonneg (by omega)]
  refine call_meets PySem.F.slot_tuple_mul ⟨_,e,rfl⟩ PySem.F.entry_tuple_mul (PySem.F.args_tuple_mul_2 _ _) (mn l its.toArray n dd sl k t ?a1 ?a2 ?a3 ?a4 ?a5 ?a6) ⟨e,?_⟩
  case a1=>simp;omega
  case a2=>simp[hne];exact hk
  case a3=>simp[hne];omega
  case a4=>rw[hsz];omega
  case a5=>
   rw[hsz]
   intro hh
   have h2:=of_decide_eq_true hh
   omega
  case a6=>
   rw[kD,List.size_toArray,nX,Nat.mul_comm]
   omega
  rw[kD]
  refine⟨.ref s.heap.objs.size,_,I.laid (t':=s.toks) (o:=.tup (List.replicate k.toNat xs).flatten) (fun b ob q=>Heap.get?_push_of_some _ q) (Nat.le_refl _) ?_,rfl,q.2 hk _ (I.hok.fresh (Nat.le_refl _))⟩
  exact⟨by rw[nX,Nat.mul_comm,hl];omega,_,r.rep k.toNat,IsTup.new _ _⟩
end L2
namespace Pu
open PySem PySem.Spec L2
section
variable {X:Cx}{e a b c l tg iter:Expr}{pos:Pos}{te ta tb:cY}{t:fG}{st:Stmt}{i j:Nat}
noncomputable def L9:fE:=fun x y Q=>OkT x fun ps=>OkI y fun k=>ps≠[]/\1≤k/\k≤1000/\ps.length≤1000/\Q (.tup (List.replicate k.toNat ps).flatten)
theorem C1:df X.K DM L9:=fun F H x y p q Qp Q s rx ry h k=>by
 obtain⟨a,vs,ps,rfl,rfl,hF,rs,h⟩:=h.rd rx
 obtain⟨n,rfl,rfl,h1,h2,h3,h4,h⟩:=h.rd ry
 have hl:=rs.length
 refine⟨a,n,vs,rfl,rfl,s _ _ hF,fun e=>?_,h2,h3,by omega,fun e=>?_,fun e p hp=>?_⟩
 ·subst e
  exact h1 (List.length_eq_zero_iff.mp hl.symm)
 ·subst e
  refine k _ _ F H h (.refl s) ⟨a,vs,rfl,hF,?_⟩
  simpa using rs
 ·exact k _ _ _ _ h (.new s hp _) ⟨p,_,rfl,ak,(rs.repF _).mono (aY (s.free hp) _)⟩
theorem B6 (ha:d6 X a ta)(hb:d6 X b tb):dr X (.BinOp a .Mult b pos) (pr L9 ta tb):=eZ Dn C1 ha hb
noncomputable def Ec:fE:=fun x y Q=>OkT x fun ps=>OkT y fun qs=>ps≠[]/\ps.length+qs.length≤sizeLine/\Q (.tup (ps++qs))
theorem Bh:df X.K (Eo X.K) Ec:=fun F H x y p q Qp Q s rx ry h k=>by
 obtain⟨a,vs,ps,rfl,rfl,hF,rs,h⟩:=h.rd rx
 obtain⟨b,us,qs,rfl,rfl,hF2,rs2,h1,h2,h⟩:=h.rd ry
 have hl:=rs.length
 have hl2:=rs2.length
 refine⟨a,b,vs,us,rfl,rfl,SqT.of (s _ _ hF),SqT.of (s _ _ hF2),fun e=>?_,by omega,fun e=>?_,fun e p hp=>?_⟩
 ·subst e
  exact h1 (List.length_eq_zero_iff.mp hl.symm)
 ·subst e
  have:qs=[]:=List.length_eq_zero_iff.mp hl2.symm
  subst this
  rw[List.append_nil] at h
  exact k _ _ F H h (.refl s) ⟨a,vs,rfl,hF,rs⟩
 ·exact k _ _ _ _ h (.new s hp _) ⟨p,_,rfl,ak,(rs.app rs2).mono (aY (s.free hp) _)⟩
theorem Bq (ha:d6 X a ta)(hb:d6 X b tb):dr X (.BinOp a .Add b pos) (pr Ec ta tb):=eZ As Bh ha hb
noncomputable def wR (K:PySem.W.Frag):R2:=fun x y H Q=>∃a b ys,x=.ref a/\y=.ref b/\SqT K H a []/\SqT K H b ys/\Q (.ref b) H
theorem zu:eQ X (binaryOp .Add) (wR X.K):=by
 intro pins s σ H x y v u Q I rx ry h
 obtain⟨a,b,ys,rfl,rfl,ha,hb,q⟩:=h
 cases rx
 cases ry
 obtain⟨its,r1,⟨⟨cls,dd,data,sl⟩,ho,hc,n,hd⟩,_⟩:=I.tuple ha
 obtain⟨its2,r2,⟨⟨cls2,dd2,data2,sl2⟩,ho2,hc2,n2,hd2⟩,_⟩:=I.tuple hb
 simp only at hc hd hc2 hd2
 subst hc hd hc2 hd2
 cases r1
 exact concat_meets ⟨_,ho,rfl⟩ ⟨_,ho2,rfl⟩ noFill_tuple_add seq_tuple_add PySem.F.slot_tuple_add PySem.F.entry_tuple_add (PySem.F.args_tuple_add_2 _ _)
  (PyProof.Rows.tuple_addW0 a b #[] its2.toArray n n2 dd dd2 sl sl2 rfl) ⟨ho,ho2,.ref b,H,I,rfl,q⟩
noncomputable def DG:fE:=fun x y Q=>OkT x fun ps=>OkT y fun qs=>ps=[]/\Q (.tup qs)
theorem zN:df X.K (wR X.K) DG:=fun F H x y p q Qp Q s rx ry h k=>by
 obtain⟨a,vs,ps,rfl,rfl,hF,rs,h⟩:=h.rd rx
 obtain⟨b,us,qs,rfl,rfl,hF2,rs2,h1,hq⟩:=h.rd ry
 cases h1
 cases (show vs=[] from rs)
 exact⟨a,b,us,rfl,rfl,SqT.of (s _ _ hF),SqT.of (s _ _ hF2),k (.tup qs) _ F H hq (.refl s) ⟨b,us,rfl,hF2,rs2⟩⟩
theorem xL (ha:d6 X a ta)(hb:d6 X b tb):dr X (.BinOp a .Add b pos) (pr DG ta tb):=eZ zu zN ha hb
noncomputable def OM (te:cY)(tl th:uP):cY:=fun ρ Q=>te ρ fun x=>tl ρ fun l=>th ρ fun h=>OkT x fun ps=>¬(HT.sIx ps.length 0 l=0/\HT.sIx ps.length ps.length h=ps.length)/\Q (.tup (cut ps l h))
theorem x9 {lo hi:Option Expr}{tl th:uP}{p2:Pos}(he:d6 X e te)(hl:zh X lo tl)(hh:zh X hi th):dr X (.Subscript e (.Slice lo hi none p2) pos) (OM te tl th):=PE.weak (lj Ih he hl hh) fun σ H Q hh_=>hh_.elim fun F ρ Qp er q k=>⟨F,ρ,_,er,q,fun p v F1 H1 h1 g1 r1=>
 ⟨F1,ρ,_,er.grow g1,h1,fun l F2 H2 h2 g2=>⟨F2,ρ,_,(er.grow g1).grow g2,h2,fun h F3 H3 h3 g3=>by
  have gg:=(g1.trans g2).trans g3
  obtain⟨a,vs,ps,rfl,rfl,hF,rs,hn,q⟩:=h3.rd (r1.grow (g2.trans g3))
  refine⟨a,vs,rfl,SqT.of (gg.fh _ _ hF),by rw[rs.length];exact hn,fun p hp=>k _ _ _ _ q (gg.trans (.new gg.fh hp _)) ⟨p,_,rfl,ak,rs.cut.mono (aY (gg.fh.free hp) _)⟩⟩⟩⟩⟩
end
end Pu
end
section
namespace Pu
open PySem PySem.Spec L2
noncomputable def MW (n:Nat)(ps:List PV):ai:=ps.map (fun p=>some (Sl.val p))++List.replicate (n - ps.length) none
noncomputable def nq (K:PySem.W.Frag):Sp:=fun vs H Q _=>∃(a:Addr) (ns:List Int),vs=[.ref a]/\SqL K H a (ns.map V.int)/\ns.length≤63/\∀H',Q (.bl true) H'
theorem fo {K:PySem.W.Frag}{F:Hp}:∀(ns:List Int),Reps K F (ns.map PV.int) (ns.map V.int)
 |[]=>rfl
 |n::ns=>⟨_,_,rfl,rfl,fo ns⟩
theorem wb {X:Cx}{body:List Stmt}{ts:eS}{N:List Str}{H:Hp}{vs:List V}{Q:VK}{E:XK}(hb:lJ X body ts)(h:nq X.K vs H Q E)
  (hp:∀ns:List Int,ns.length≤63->ts (PEnds.of (fun r=>r=.v (.bl true))) (MW N.length [.src (ns.map PV.int)])):∃t,PSs X body t/\t { nx:=fun _ H'=>Q .non H',rt:=Q } (L2.dn N vs) H:=by
 obtain⟨a,ns,rfl,hS,hl,q⟩:=h
 refine⟨_,hb,H,H,H,MW N.length [.src (ns.map PV.int)],_,?_,hp ns hl,?_⟩
 ·have er:=qi (K:=X.K) (Same.refl H) N (ps:=[.src (ns.map PV.int)]) (vs:=[.ref a]) ⟨_,_,rfl,⟨a,_,rfl,hS,fo ns⟩,rfl⟩
  exact⟨er,.refl (Same.refl H),fun i a o=>(gM o).elim,fun i j a o _=>(gM o).elim⟩
 ·refine⟨fun F' H' σ' ρ' q b=>?_,fun F' H' σ' ρ' q b=>q.elim,fun F' H' σ' ρ' q b=>q.elim,fun p v F' H' e g rr=>?_,fun ps a vs F' H' e g h0 hF hH rs=>?_⟩
  ·have e:PR.v .non=PR.v (.bl true):=q
   cases e
  ·have e':PR.v p=PR.v (.bl true):=e
   cases e'
   cases (show v=.bl true from rr)
   exact q H'
  ·have e':PR.n ps=PR.v (.bl true):=e
   cases e'
theorem Op {l:PySem.W.OpenLaw}{q:Program}{loose:List Str}{XP:(Str->Option Value)->Heap->Prop}{YP:World->Heap->Prop}{d:DefRec}{K:Params->PySem.W.Frag}{k:Nat}(hk:k≤40)(hn:l.most=some 63)(hdf:d.params.defaults=[])
  (hY:∀(w:World) (h:Heap),YP w h->(K w.params).In h)
  (F:∀(w:World) (mg:Str->Option Value) (fa:Addr) (h:Heap),(K w.params).In h->h.Ns mainGlobals mg->mg d.name=some (.ref fa) →
   ∃fd:FuncData,(∀(s:Shared) (u:Value),BindsTo s fd ⟨[u],[]⟩ [("_law_script",u)])/\∀base:Heap,(K w.params).In base/\base.Ns mainGlobals mg->FnOk l.prog w (K w.params) mg base rf k fa fd ["_law_script"] (nq (K w.params))) :
  PySem.W.WalkO q loose XP YP l.row.toRowW d [] (fun f vs=>PySem.call f vs):=by
 have R:Room 40 callerA:=⟨rfl,by decide,by decide⟩
 exact L2.Ap (n:=63) (k:=k) (x:="_law_script") (CX:=fun _=>rf) (sp:=fun w=>nq (K w.params)) hn (by first|decide|omega) hdf (R.mono hk) hY (fun w mg fa h a b c=>let ⟨fd,x,y⟩:=F w mg fa h a b c;⟨fd,x,fun base p1 p2=>y base ⟨p1,p2⟩⟩)
  (fun _ _ a ns hl _ hS=>⟨a,ns,rfl,hS,hl,fun _=>rfl⟩) fun _ _ _ _ _ z=>z
end Pu
end
section
namespace Fo
noncomputable abbrev up (us:List Nat)(x:Nat):Nat:=us.getD x 0
theorem aJ {us:List Nat}{x v t:Nat}(hx:x<us.length):up (us.set x v) t=if t=x then v else up us t:=by
 simp only[up,List.getD_eq_getElem?_getD,List.getElem?_set]
 by_cases h:x=t
 ·subst h;simp[hx]
 ·simp[h,Ne.symm h]
structure Fst (us:List Nat):Prop where
 bnd:∀x,x<us.length->up us x<us.length
 rk:∃r:Nat->Nat,(∀x,x<us.length->r x<us.length)/\∀x,x<us.length->up us x≠x->r (up us x)<r x
inductive Way (us:List Nat):Nat->List Nat->Prop where
 |head {x:Nat}:up us x=x->Way us x [x]
 |step {x:Nat} {l:List Nat}:up us x≠x->Way us (up us x) l->Way us x (x::l)
theorem Way.det {us:List Nat}{x:Nat}{l l':List Nat}(h:Way us x l)(h':Way us x l'):l=l':=by
 induction h generalizing l' with
 |head e=>cases h' with
  |head _=>rfl
  |step n _=>exact absurd e n
 |step n _ ih=>cases h' with
  |head e=>exact absurd e n
  |step _ q=>rw[ih q]
theorem Way.ne {us:List Nat}{x:Nat}{l:List Nat}(h:Way us x l):l≠[]:=by cases h<;>simp
theorem Way.pos {us:List Nat}{x:Nat}{l:List Nat}(h:Way us x l):1≤l.length:=by cases h<;>simp
theorem Way.mem_self {us:List Nat}{x:Nat}{l:List Nat}(h:Way us x l):x∈l:=by cases h<;>simp
noncomputable def cG (l:List Nat):Nat:=l.getLastD 0
theorem bA {x:Nat}{l:List Nat}(h:l≠[]):cG (x::l)=cG l:=by
 cases l with
 |nil=>exact absurd rfl h
 |cons y t=>simp[cG,List.getLastD_cons]
theorem iM {l:List Nat}(h:l≠[]):cG l∈l:=by
 induction l with
 |nil=>exact absurd rfl h
 |cons y t ih=>
  cases t with
  |nil=>simp[cG]
  |cons z t=>rw[bA (by simp)];exact List.mem_cons_of_mem _ (ih (by simp))
theorem Way.head_last {us:List Nat}{x:Nat}{l:List Nat}(h:Way us x l):up us (cG l)=cG l:=by
 induction h with
 |head e=>exact e
 |step _ w ih=>rw[bA w.ne];exact ih
theorem Way.lt {us:List Nat}{x:Nat}{l:List Nat}(h:Way us x l)(b:∀x,x<us.length->up us x<us.length)(hx:x<us.length):∀y∈l,y<us.length:=by
 induction h with
 |head e=>intro y hy;rw[List.mem_singleton] at hy;subst hy;exact hx
 |step n w ih=>
  intro y hy
  rcases List.mem_cons.mp hy with rfl|hy
  ·exact hx
  ·exact ih (b _ hx) y hy
theorem Way.rank {us:List Nat}{x:Nat}{l:List Nat}(h:Way us x l)(b:∀x,x<us.length->up us x<us.length){r:Nat->Nat}(hr:∀x,x<us.length->up us x≠x->r (up us x)<r x)(hx:x<us.length):∀y∈l,r y≤r x:=by
 induction h with
 |head e=>intro y hy;rw[List.mem_singleton] at hy;subst hy;exact Nat.le_refl _
 | @step x l n w ih=>
  intro y hy
  rcases List.mem_cons.mp hy with rfl|hy
  ·exact Nat.le_refl _
  ·exact Nat.le_trans (ih (b _ hx) y hy) (Nat.le_of_lt (hr x hx n))
theorem Way.nodup {us:List Nat}{x:Nat}{l:List Nat}(h:Way us x l)(f:Fst us)(hx:x<us.length):l.Nodup:=by
 obtain⟨b,r,hb,hr⟩:=f
 induction h with
 |head e=>simp
 | @step x l n w ih=>
  refine List.nodup_cons.mpr ⟨fun hm=>?_,ih (b _ hx)⟩
  have h1:=w.rank b hr (b _ hx) x hm
  have h2:=hr x hx n
  omega
theorem Fst.way {us:List Nat}(f:Fst us){x:Nat}(hx:x<us.length):∃l,Way us x l/\l.length≤us.length:=by
 obtain⟨b,r,hb,hr⟩:=f
 suffices h:∀k x,x<us.length->r x≤k->∃l,Way us x l/\l.length≤k+1 by
  obtain⟨l,w,hl⟩:=h (r x) x hx (Nat.le_refl _)
  exact⟨l,w,by have:=hb x hx;omega⟩
 intro k
 induction k with
 |zero=>
  intro x hx h0
  by_cases e:up us x=x
  ·exact⟨_,.head e,by simp⟩
  ·exact absurd (hr x hx e) (by omega)
 |succ k ih=>
  intro x hx h0
  by_cases e:up us x=x
  ·exact⟨_,.head e,by simp⟩
  ·obtain⟨l,w,hl⟩:=ih (up us x) (b x hx) (by have:=hr x hx e;omega)
   exact⟨_,.step e w,by simp;omega⟩
theorem Way.congr {us us':List Nat}{x:Nat}{l:List Nat}(h:Way us x l)(e:∀y∈l,up us' y=up us y):Way us' x l:=by
 induction h with
 | @head x q=>exact .head (by rw[e x (by simp),q])
 | @step x l n w ih=>
  have q:up us' x=up us x:=e x (by simp)
  exact .step (by rw[q];exact n) (by rw[q];exact ih fun y hy=>e y (List.mem_cons_of_mem _ hy))
theorem Way.closed {us:List Nat}{x:Nat}{l:List Nat}(h:Way us x l):∀y∈l,up us y∈l:=by
 induction h with
 | @head x q=>intro y hy;rw[List.mem_singleton] at hy;subst hy;rw[q];simp
 | @step x l n w ih=>
  intro y hy
  rcases List.mem_cons.mp hy with rfl|hy
  ·exact List.mem_cons_of_mem _ w.mem_self
  ·exact List.mem_cons_of_mem _ (ih y hy)
theorem Way.later {us:List Nat}{x:Nat}{l:List Nat}(h:Way us x l):∀y∈l,∃l2,Way us y l2/\cG l2=cG l/\l2.length≤l.length/\∀z∈l2,z∈l:=by
 induction h with
 | @head x q=>intro y hy;rw[List.mem_singleton] at hy;subst hy;exact⟨_,.head q,rfl,Nat.le_refl _,fun _ h=>h⟩
 | @step x l n w ih=>
  intro y hy
  rcases List.mem_cons.mp hy with rfl|hy
  ·exact⟨_,.step n w,rfl,Nat.le_refl _,fun _ h=>h⟩
  ·obtain⟨l2,a,b,c,d⟩:=ih y hy
   exact⟨l2,a,by rw[b,bA w.ne],by simp;omega,fun z hz=>List.mem_cons_of_mem _ (d z hz)⟩
structure Shorter (us us':List Nat):Prop where
 len:us'.length=us.length
 up:∀t,t<us.length->(up us t=t/\Fo.up us' t=t)\/(Fo.up us t≠t/\∃l,Way us (Fo.up us t) l/\Fo.up us' t∈l)
theorem Shorter.refl {us:List Nat}(f:Fst us):Shorter us us:=⟨rfl,fun t ht=>by
 by_cases e:Fo.up us t=t
 ·exact .inl ⟨e,e⟩
 ·obtain⟨l,w,_⟩:=f.way (f.bnd t ht)
  exact .inr ⟨e,l,w,w.mem_self⟩⟩
theorem Shorter.fst {us us':List Nat}(s:Shorter us us')(f:Fst us):Fst us':=by
 obtain⟨b,r,hb,hr⟩:=f
 refine⟨fun x hx=>?_,r,fun x hx=>?_,fun x hx hn=>?_⟩
 ·rw[s.len] at hx ⊢
  rcases s.up x hx with ⟨_,e⟩|⟨_,l,w,m⟩
  ·rw[e];exact hx
  ·exact w.lt b (b x hx) _ m
 ·rw[s.len] at hx ⊢;exact hb x hx
 ·rw[s.len] at hx
  rcases s.up x hx with ⟨_,e⟩|⟨n,l,w,m⟩
  ·exact absurd e hn
  ·exact Nat.lt_of_le_of_lt (w.rank b hr (b x hx) _ m) (hr x hx n)
theorem Shorter.way {us us':List Nat}(s:Shorter us us')(f:Fst us){t:Nat}(ht:t<us.length){l:List Nat}(w:Way us t l):∃l',Way us' t l'/\cG l'=cG l/\l'.length≤l.length:=by
 obtain⟨b,r,hb,hr⟩:=f
 suffices h:∀k t,t<us.length->r t≤k->∀l,Way us t l->∃l',Way us' t l'/\cG l'=cG l/\l'.length≤l.length from h (r t) t ht (Nat.le_refl _) l w
 intro k
 induction k with
 |zero=>
  intro t ht h0 l w
  rcases s.up t ht with ⟨e,e'⟩|⟨n,_⟩
  ·cases w with
   |head _=>exact⟨_,.head e',rfl,Nat.le_refl _⟩
   |step n _=>exact absurd e n
  ·exact absurd (hr t ht n) (by omega)
 |succ k ih=>
  intro t ht h0 l w
  rcases s.up t ht with ⟨e,e'⟩|⟨n,l1,w1,m⟩
  ·cases w with
   |head _=>exact⟨_,.head e',rfl,Nat.le_refl _⟩
   |step n _=>exact absurd e n
  ·cases w with
   |head e=>exact absurd e n
   | @step _ l0 _ w0=>
    obtain rfl:=w0.det w1
    obtain⟨l2,w2,e2,c2,_⟩:=w0.later _ m
    have hy:Fo.up us' t<us.length:=w0.lt b (b t ht) _ m
    have hry:r (Fo.up us' t)<r t:=Nat.lt_of_le_of_lt (w0.rank b hr (b t ht) _ m) (hr t ht n)
    obtain⟨l3,w3,e3,c3⟩:=ih _ hy (by omega) l2 w2
    refine⟨t::l3,.step (fun e=>?_) w3,?_,?_⟩
    ·rw[e] at hry;omega
    ·rw[bA w3.ne,e3,e2,bA w0.ne]
    ·simp;omega
inductive Halv:List Nat->Nat->Nat->List Nat->Nat->Prop where
 |stop {us:List Nat} {x:Nat}:up us x=x->Halv us x x us 0
 |step {us:List Nat} {x h n:Nat} {us':List Nat}:up us x≠x->Halv (us.set x (up us (up us x))) (up us (up us x)) h us' n->Halv us x h us' (n+1)
inductive Splt:List Nat->Nat->Nat->List Nat->Nat->Prop where
 |stop {us:List Nat} {x:Nat}:up us x=x->Splt us x x us 0
 |step {us:List Nat} {x h n:Nat} {us':List Nat}:up us x≠x->Splt (us.set x (up us (up us x))) (up us x) h us' n->Splt us x h us' (n+1)
noncomputable def eN (us:List Nat)(l:List Nat)(h:Nat):List Nat:=l.foldl (fun u t=>u.set t h) us
theorem sS (us l:List Nat)(h:Nat):(eN us l h).length=us.length:=by
 induction l generalizing us with
 |nil=>rfl
 |cons x t ih=>rw[eN,List.foldl_cons,←eN,ih,List.length_set]
theorem uo {us l:List Nat}{h:Nat}(hl:∀y∈l,y<us.length)(t:Nat):up (eN us l h) t=if t∈l then h else up us t:=by
 induction l generalizing us with
 |nil=>simp[eN]
 |cons x l ih=>
  rw[eN,List.foldl_cons,←eN,ih fun y hy=>by rw[List.length_set];exact hl y (List.mem_cons_of_mem _ hy),aJ (hl x (by simp))]
  by_cases h1:t∈l
  ·simp[h1]
  ·by_cases h2:t=x
   ·simp[h2]
   ·simp[h1,h2]
theorem Way.set {us:List Nat}{x y v:Nat}{l:List Nat}(w:Way us y l)(hx:x<us.length)(h:x∉l):Way (us.set x v) y l:=
 w.congr fun z hz=>by rw[aJ hx,if_neg (fun e:z=x=>h (e▸hz))]
theorem Cg {x:Nat}{l:List Nat}:∀{us:List Nat},Way us x l->l.Nodup->(∀y∈l,y<us.length)->∃us',Splt us x (cG l) us' (l.length - 1)/\us'.length=us.length/\∀t,up us' t=if t∈l then up us (up us t) else up us t:=by
 induction l generalizing x with
 |nil=>intro us w;exact absurd rfl w.ne
 |cons z l ih=>
  intro us w nd hl
  cases w with
  |head e=>exact⟨us,.stop e,rfl,fun t=>by
    by_cases h:t∈[z]
    ·rw[List.mem_singleton] at h;subst h;rw[if_pos (by simp),e,e]
    ·rw[if_neg h]⟩
  |step n w=>
   have hz:z<us.length:=hl z (by simp)
   obtain⟨nz,nd⟩:=List.nodup_cons.mp nd
   obtain⟨us',a,b,c⟩:=ih (w.set (v:=up us (up us z)) hz nz) nd fun y hy=>by rw[List.length_set];exact hl y (List.mem_cons_of_mem _ hy)
   have pos:=w.pos
   refine⟨us',?_,by rw[b,List.length_set],fun t=>?_⟩
   ·rw[bA w.ne]
    have:(z::l).length - 1=(l.length - 1)+1:=by simp;omega
    rw[this]
    exact .step n a
   ·rw[c]
    have cl:=w.closed
    by_cases h1:t∈l
    ·have h2:t≠z:=fun e=>nz (e▸h1)
     have h3:up us t≠z:=fun e=>nz (e▸cl t h1)
     rw[if_pos h1,if_pos (List.mem_cons_of_mem _ h1),aJ hz,aJ hz,if_neg h2,if_neg h3]
    ·rw[if_neg h1,aJ hz]
     by_cases h2:t=z
     ·subst h2;simp
     ·rw[if_neg h2,if_neg (by simp[h1,h2])]
noncomputable def fw:List Nat->List Nat
 |[]=>[]
 |[x]=>[x]
 |x::_::l=>x::fw l
theorem gO:∀(l:List Nat) (x:Nat),x∈fw l->x∈l
 |[],_,h=>h
 |[_],_,h=>h
 |x::y::l,z,h=>by
  rcases List.mem_cons.mp h with rfl|h
  ·simp
  ·exact List.mem_cons_of_mem _ (List.mem_cons_of_mem _ (gO l z h))
theorem sX:∀(l:List Nat) {x:Nat} {us:List Nat},Way us x l->l.Nodup->(∀y∈l,y<us.length)->∃us',Halv us x (cG l) us' (l.length / 2)/\us'.length=us.length/\∀t,up us' t=if t∈fw l then up us (up us t) else up us t
 |[],_,_,w,_,_=>absurd rfl w.ne
 |[z],_,us,w,nd,hl=>by
  cases w with
  |head e=>exact⟨us,(show ([z].length / 2=0) from (by simp))▸Halv.stop e,rfl,fun t=>by
    by_cases h:t∈fw [z]
    ·have h':t∈[z]:=h
     rw[List.mem_singleton] at h';subst h';rw[if_pos h,e,e]
    ·rw[if_neg h]⟩
  |step n w=>exact absurd rfl w.ne
 |z::y::l,_,us,w,nd,hl=>by
  cases w with
  |step n w=>
   have hz:z<us.length:=hl z (by simp)
   obtain⟨nz,nd⟩:=List.nodup_cons.mp nd
   cases w with
   |head e=>
    refine⟨us.set z (up us z),?_,by rw[List.length_set],fun t=>?_⟩
    ·have q:Halv (us.set z (up us (up us z))) (up us (up us z)) (up us z) (us.set z (up us z)) 0:=by
      rw[e]
      exact .stop (by rw[aJ hz,if_neg n,e])
     have h1:[z,up us z].length / 2=0+1:=by simp
     rw[h1]
     exact Halv.step n q
    ·rw[aJ hz]
     by_cases h:t=z
     ·subst h;rw[if_pos rfl,if_pos (by simp[fw]),e]
     ·rw[if_neg h,if_neg (by simp[fw,h])]
   |step n2 w=>
    have hm:z∉l:=fun h=>nz (List.mem_cons_of_mem _ h)
    obtain⟨us',a,b,c⟩:=sX l (w.set (v:=up us (up us z)) hz hm) (List.nodup_cons.mp nd).2 fun q hq=>by rw[List.length_set];exact hl q (List.mem_cons_of_mem _ (List.mem_cons_of_mem _ hq))
    refine⟨us',?_,by rw[b,List.length_set],fun t=>?_⟩
    ·have e3:cG (z::up us z::l)=cG l:=by rw[bA (by simp),bA w.ne]
     have e4:(z::up us z::l).length / 2=l.length / 2+1:=by simp;omega
     rw[e3,e4]
     exact Halv.step n a
    ·rw[c]
     have cl:=w.closed
     by_cases h1:t∈fw l
     ·have h0:t∈l:=gO l t h1
      have h2:t≠z:=fun e=>hm (e▸h0)
      have h3:up us t≠z:=fun e=>hm (e▸cl t h0)
      rw[if_pos h1,if_pos (by simp[fw,h1]),aJ hz,aJ hz,if_neg h2,if_neg h3]
     ·rw[if_neg h1,aJ hz]
      by_cases h2:t=z
      ·subst h2;rw[if_pos rfl,if_pos (by simp[fw])]
      ·rw[if_neg h2,if_neg (by simp[fw,h1,h2])]
end Fo
end
section
namespace Fo
open PySem
noncomputable def Le (us:List Nat)(x h:Nat)(us':List Nat)(n:Nat):Prop:=us'=us/\∃l,Way us x l/\h=cG l/\n+1=l.length
noncomputable def BP (us:List Nat)(x h:Nat)(us':List Nat)(n:Nat):Prop:=∃l,Way us x l/\h=cG l/\n=l.length / 2/\us'.length=us.length/\∀t,up us' t=if t∈fw l then up us (up us t) else up us t
noncomputable def AY (us:List Nat)(x h:Nat)(us':List Nat)(n:Nat):Prop:=∃l,Way us x l/\h=cG l/\n+1=l.length/\us'.length=us.length/\∀t,up us' t=if t∈l then up us (up us t) else up us t
noncomputable def Om (us:List Nat)(x h:Nat)(us':List Nat)(n:Nat):Prop:=us'=us.set x (up us (up us x))/\∃l,Way us x l/\h=cG l/\n+1=l.length
noncomputable def Ip (us:List Nat)(x h:Nat)(us':List Nat)(n:Nat):Prop:=∃l,Way us x l/\h=cG l/\n+1=l.length/\us'.length=us.length/\∀t,up us' t=if t∈l then h else up us t
inductive RM:Str->List Nat->Nat->Nat->List Nat->Nat->Prop where
 |none {us x h us' n}:Le us x h us' n->RM "none" us x h us' n
 |whole {us x h us' n}:Ip us x h us' n->RM "whole" us x h us' n
 |halves {us x h us' n}:BP us x h us' n->RM "halves" us x h us' n
 |splits {us x h us' n}:AY us x h us' n->RM "splits" us x h us' n
 |one {us x h us' n}:Om us x h us' n->RM "one" us x h us' n
noncomputable def bg:List Str:=["none","whole","halves","splits","one"]
structure Frst (us:List Nat):Prop where
 one:1≤us.length
 most:us.length≤40
 fst:Fst us
end Fo
namespace Pu
open PySem PySem.Spec L2 Fo
noncomputable def nI (n:Nat):PV:=.int n
noncomputable def nums (us:List Nat):List PV:=us.map nI
noncomputable def ll:vh:=fun qs Q=>∃y:Str,qs=[.str y]/\Q (.v (.bl (decide (y∈bg))))
end Pu
end
section
namespace Dp
open PySem PySem.Spec L2 Pu
inductive RV where
 |fz (p:PV)|nw (ps:List PV)|ln (p:PV)
noncomputable def RV.pv:RV->PV
 |.fz p=>p
 |.nw ps=>.lst ps
 |.ln p=>p
noncomputable def RV.fr:RV->Option PV
 |.fz p=>some p
 |.nw ps=>some (.lst ps)
 |.ln _=>none
noncomputable abbrev FE:=ai->Option RV
noncomputable abbrev FB:=ai->Option Bool
noncomputable abbrev FA:=ai->Option (List RV)
noncomputable abbrev FI:=ai->Option (List PV)
noncomputable def RvOk (K:PySem.W.Frag)(H F' H':Hp)(v:V):RV->Prop
 |.fz p=>Rep K F' p v
 |.nw ps=>∃a vs,v=.ref a/\H a=none/\F' a=none/\H' a=some (.lst vs)/\Reps K F' ps vs
 |.ln p=>RdV K F' H' p v
noncomputable def lR (K:PySem.W.Frag)(f:FE):TE:=fun σ H Q=>∃F ρ r,ER K F H σ ρ/\f ρ=some r/\∀v F' H',Grow F H F' H'->RvOk K H F' H' v r->Q v H'
theorem lR.elim {K:PySem.W.Frag}{f:FE}{σ:St}{H:Hp}{Q:VK}{C:Prop}(h:lR K f σ H Q)(k:∀F ρ r,ER K F H σ ρ->f ρ=some r->(∀v F' H',Grow F H F' H'->RvOk K H F' H' v r->Q v H')->C):C:=by obtain⟨F,ρ,r,a,b,c⟩:=h;exact k F ρ r a b c
noncomputable def DE (X:Cx)(e:Expr)(f:FE):Prop:=PE X e (lR X.K f)
noncomputable def tT (f:FE):cY:=fun ρ Q=>∃r,f ρ=some r/\Q r.pv
noncomputable def tF (f:FE):cY:=fun ρ Q=>∃r p,f ρ=some r/\r.fr=some p/\Q p
noncomputable def tN (f:FE):oz:=fun ρ Q=>∃ps,f ρ=some (.nw ps)/\Q ps
noncomputable def wo (f:FB):iD:=fun ρ Q=>∃b,f ρ=some b/\Q b
noncomputable def EI (f:FA):fG:=fun ρ Q=>∃rs ps,f ρ=some rs/\rs.mapM RV.fr=some ps/\Q ps
noncomputable def zT (f:FA):fG:=fun ρ Q=>∃rs,f ρ=some rs/\Q (rs.map RV.pv)
noncomputable def DY (f:FI):kl:=fun ρ Q=>∃its,f ρ=some its/\Q its
section
variable {X:Cx}{e a b c:Expr}{pos:Pos}{f fa fb fc:FE}{te t1 t2:cY}{tn n1 n2:oz}{i:Nat}
theorem RvOk.rd {K:PySem.W.Frag}{H F' H':Hp}{v:V}:∀{r:RV},RvOk K H F' H' v r->RdV K F' H' r.pv v
 |.fz _,h=>.frz h
 |.nw _,⟨_,_,e,_,h1,h2,h3⟩=>by subst e;exact .own h2 h1 h3
 |.ln _,h=>h
theorem DE.tt (h:DE X e f):d6 X e (tT f):=PE.weak h fun σ H Q hh_=>hh_.elim fun F ρ Qp er ⟨r,e,q⟩ k=>⟨F,ρ,r,er,e,fun v F' H' g ro=>k _ v F' H' q g ro.rd⟩
theorem DE.ee (h:DE X e f):dr X e (tF f):=PE.weak h fun σ H Q hh_=>hh_.elim fun F ρ Qp er ⟨r,p,e,ef,q⟩ k=>⟨F,ρ,r,er,e,fun v F' H' g ro=>by
 cases r with
 |fz p'=>cases ef;exact k _ v F' H' q g ro
 |nw ps=>
  cases ef
  obtain⟨a,vs,rfl,h0,hF,hH,rs⟩:=ro
  exact k _ _ _ H' q (g.freeze h0 hF hH) ⟨a,vs,rfl,ak,rs.mono (aY hF _)⟩
 |ln p'=>cases ef⟩
theorem DE.nn (h:DE X e f):rD X e (tN f):=PE.weak h fun σ H Q hh_=>hh_.elim fun F ρ Qp er ⟨ps,e,q⟩ k=>⟨F,ρ,_,er,e,fun v F' H' g ro=>by
 obtain⟨a,vs,rfl,h0,hF,hH,rs⟩:=ro
 exact k ps a vs F' H' q g h0 hF hH rs⟩
theorem DE.ofE (h:dr X e te)(w:∀ρ r,f ρ=some r->∃p,r=.fz p/\te ρ (fun x=>x=p)):DE X e f:=PE.weak h fun σ H Q hh_=>hh_.elim fun F ρ r er e k=>by
 obtain⟨p,rfl,t⟩:=w ρ r e
 exact⟨F,ρ,_,er,t,fun q v F' H' hq g rr=>by subst hq;exact k v F' H' g rr⟩
theorem DE.ofN (h:rD X e tn)(w:∀ρ r,f ρ=some r->∃ps,r=.nw ps/\tn ρ (fun x=>x=ps)):DE X e f:=PE.weak h fun σ H Q hh_=>hh_.elim fun F ρ r er e k=>by
 obtain⟨p,rfl,t⟩:=w ρ r e
 exact⟨F,ρ,_,er,t,fun q a vs F' H' hq g h0 hF hH rr=>by subst hq;exact k _ F' H' g ⟨a,vs,rfl,h0,hF,hH,rr⟩⟩
theorem PE.or {t u:TE}(h:PE X e t)(h':PE X e u):PE X e (fun σ H Q=>t σ H Q\/u σ H Q):=fun pins s σ H Q I q=>q.elim (h pins s σ H Q I) (h' pins s σ H Q I)
theorem DE.of2 (hE:dr X e te)(hN:rD X e tn)(w:∀ρ r,f ρ=some r->(∃p,r=.fz p/\te ρ (fun x=>x=p))\/∃ps,r=.nw ps/\tn ρ (fun x=>x=ps)):DE X e f:=PE.weak (PE.or hE hN) fun σ H Q hh_=>hh_.elim fun F ρ r er e k=>by
 rcases w ρ r e with ⟨p,rfl,t⟩|⟨p,rfl,t⟩
 ·exact .inl ⟨F,ρ,_,er,t,fun q v F' H' hq g rr=>by subst hq;exact k v F' H' g rr⟩
 ·exact .inr ⟨F,ρ,_,er,t,fun q a vs F' H' hq g h0 hF hH rr=>by subst hq;exact k _ F' H' g ⟨a,vs,rfl,h0,hF,hH,rr⟩⟩
theorem iy (h:dr X e t1)(h':dr X e t2):dr X e (fun ρ Q=>t1 ρ Q\/t2 ρ Q):=PE.weak (PE.or h h') fun σ H Q hh_=>hh_.elim fun F ρ Qp er q k=>q.elim (fun q=>.inl ⟨F,ρ,Qp,er,q,k⟩) fun q=>.inr ⟨F,ρ,Qp,er,q,k⟩
theorem ym (h:rD X e n1)(h':rD X e n2):rD X e (fun ρ Q=>n1 ρ Q\/n2 ρ Q):=PE.weak (PE.or h h') fun σ H Q hh_=>hh_.elim fun F ρ Qp er q k=>q.elim (fun q=>.inl ⟨F,ρ,Qp,er,q,k⟩) fun q=>.inr ⟨F,ρ,Qp,er,q,k⟩
noncomputable def sl (ρ:ai)(i:Nat):Option Sl:=(ρ[i]?).join
noncomputable def AJ:Sl->RV
 |.val p=>.fz p
 |.own ps=>.ln (.lst ps)
 |.dic ks ps=>.ln (.dct ks ps)
noncomputable def fV (i:Nat):FE:=fun ρ=>(sl ρ i).map AJ
theorem dX {ρ:ai}{s:Sl}(h:sl ρ i=some s):ρ[i]?=some (some s):=by
 unfold sl at h
 cases q:ρ[i]? with
 |none=>rw[q] at h;cases h
 |some o=>rw[q] at h;rw[show o=some s from h]
theorem Pa (h:PE X e (iA i)):DE X e (fV i):=PE.weak h fun σ H Q hh_=>hh_.elim fun F ρ r er e k=>by
 unfold fV at e
 obtain⟨s,es,rfl⟩:=Option.map_eq_some_iff.mp e
 have e1:=dX es
 obtain⟨v,ev,rd⟩:=er.rd e1
 refine⟨v,ev,k v F H (.refl er.fz) ?_⟩
 cases s with
 |val p=>
  have:=er.sl i _ e1
  rw[ev] at this
  exact this
 |own ps=>exact rd
 |dic ks ps=>exact rd
noncomputable def fC (p:PV):FE:=fun _=>some (.fz p)
theorem DJ {p:PV}(h:dr X e (pC p)):DE X e (fC p):=.ofE h fun ρ r e=>by cases e;exact⟨p,rfl,rfl⟩
theorem Mn {i:Int}{j}:DE X (.Constant (.int i) j pos) (fC (.int i)):=DJ G7
theorem Nq {i:Bool}{j}:DE X (.Constant (.bool i) j pos) (fC (.bl i)):=DJ Lu
theorem Ll {j}:DE X (.Constant .none j pos) (fC .non):=DJ Hr
theorem Mx {x:Str}{j}:DE X (.Constant (.str x) j pos) (fC (.str x)):=DJ EG
noncomputable def af (g:PV->PV->Option RV)(a b:FE):FE:=fun ρ=>(a ρ).bind fun x=>(b ρ).bind fun y=>g x.pv y.pv
theorem qy {α β γ:Type}{a:Option α}{b:Option β}{g:α->β->Option γ}{r:γ}(h:(a.bind fun x=>b.bind fun y=>g x y)=some r):∃x y,a=some x/\b=some y/\g x y=some r:=by
 obtain⟨x,e1,h⟩:=Option.bind_eq_some_iff.mp h
 obtain⟨y,e2,h⟩:=Option.bind_eq_some_iff.mp h
 exact⟨x,y,e1,e2,h⟩
theorem oK {g:PV->PV->Option RV}{gE:fE}(h:dr X e (pr gE (tT fa) (tT fb)))(w:∀x y r,g x y=some r->∃p,r=.fz p/\gE x y (fun z=>z=p)):DE X e (af g fa fb):=.ofE h fun ρ r e=>by
 obtain⟨x,y,e1,e2,e3⟩:=qy e
 obtain⟨p,rfl,q⟩:=w _ _ r e3
 exact⟨p,rfl,x,e1,y,e2,q⟩
noncomputable def rI (f:Int->Int->PV):PV->PV->Option RV
 |.int i,.int j=>some (.fz (f i j))
 |_,_=>none
theorem Er {f:Int->Int->PV}:∀x y r,rI f x y=some r->∃p,r=.fz p/\zV f x y (fun z=>z=p):=fun x y r h=>by
 unfold rI at h
 split at h
 ·cases h;exact⟨_,rfl,rfl⟩
 ·cases h
noncomputable def ET (C:Int->Int->Prop)[∀i j,Decidable (C i j)](f:Int->Int->PV):PV->PV->Option RV
 |.int i,.int j=>if C i j then some (.fz (f i j)) else none
 |_,_=>none
theorem kw {C D:Int->Int->Prop}[∀i j,Decidable (C i j)]{f:Int->Int->PV}(hc:∀i j,C i j->D i j):∀x y r,ET C f x y=some r->∃p,r=.fz p/\Pu.gI D f x y (fun z=>z=p):=fun x y r h=>by
 unfold ET at h
 split at h
 ·split at h
  ·cases h;exact⟨_,rfl,hc _ _ (by assumption),rfl⟩
  ·cases h
 ·cases h
end
end Dp
end
section
namespace Dp
open PySem PySem.Spec L2 Pu
theorem big {n:Nat}(h:n≤100000):n≤sizeLine:=Nat.le_trans h (by decide)
theorem ND {n:Nat}(h:n≤100000):n<sizeLine:=Nat.lt_of_le_of_lt h (by decide)
section
variable {X:Cx}{e a b c:Expr}{es bN:List Expr}{pos:Pos}{f fa fb fc:FE}{fs:FA}{i:Nat}{ba bb:FB}
noncomputable def be:PV->PV->Option RV
 |.int i,.int j=>some (.fz (.int (i+j)))
 |.lst ps,.lst qs=>if ps.length+qs.length≤100000 then some (.nw (ps++qs)) else none
 |.tup ps,.tup qs=>if ps.length+qs.length≤100000 then some (.fz (.tup (ps++qs))) else none
 |.str x,.str y=>if x.length+y.length≤100000 then some (.fz (.str (x++y))) else none
 |_,_=>none
noncomputable def Ee:fE:=fun x y Q=>match x,y with
 |.str x,.str y=>x.length+y.length≤sizeLine/\Q (.str (x++y))
 |_,_=>False
theorem CL:df X.K (fun x y H Q=>∃i j,x=.str i/\y=.str j/\i.length+j.length≤sizeLine/\Q (.str (i++j)) H) Ee:=fun F H x y p q Qp Q s rx ry h k=>by
 unfold Ee at h
 split at h
 ·cases rx with
  |frz rx=>cases ry with
   |frz ry=>exact⟨_,_,rx,ry,h.1,k _ _ F H h.2 (.refl s) rfl⟩
 ·exact h.elim
theorem Ls (ha:DE X a fa)(hb:DE X b fb):DE X (.BinOp a .Add b pos) (af be fa fb):=
 .of2 (iy (Gj ha.tt hb.tt) (iy (Bq ha.tt hb.tt) (iy (eZ rW CL ha.tt hb.tt) (xL ha.tt hb.tt)))) (IR ha.tt hb.tt) fun ρ r e=>by
  obtain⟨x,y,e1,e2,e3⟩:=qy e
  unfold be at e3
  split at e3
  ·next p q=>cases e3;exact .inl ⟨_,rfl,.inl ⟨x,e1,y,e2,by rw[p,q];rfl⟩⟩
  ·next ps qs p q=>
   split at e3
   ·cases e3;exact .inr ⟨_,rfl,x,e1,y,e2,by rw[p,q];exact⟨big (by assumption),rfl⟩⟩
   ·cases e3
  ·next ps qs p q=>
   split at e3
   ·next h=>
    cases e3
    by_cases z:ps=[]
    ·exact .inl ⟨_,rfl,.inr (.inr (.inr ⟨x,e1,y,e2,by rw[p,q];exact⟨z,by rw[z,List.nil_append]⟩⟩))⟩
    ·exact .inl ⟨_,rfl,.inr (.inl ⟨x,e1,y,e2,by rw[p,q];exact⟨z,big h,rfl⟩⟩)⟩
   ·cases e3
  ·next u v p q=>
   split at e3
   ·cases e3;exact .inl ⟨_,rfl,.inr (.inr (.inl ⟨x,e1,y,e2,by rw[p,q];exact⟨big (by assumption),rfl⟩⟩))⟩
   ·cases e3
  ·cases e3
noncomputable def iB:PV->PV->Option RV:=rI fun i j=>.int (i - j)
theorem K6 (ha:DE X a fa)(hb:DE X b fb):DE X (.BinOp a .Sub b pos) (af iB fa fb):=oK (Jk ha.tt hb.tt) Er
noncomputable def di:PV->PV->Option RV
 |.int i,.int j=>if (i.natAbs<2 ^ 64)\/(j.natAbs<2 ^ 64) then some (.fz (.int (i * j))) else none
 |.lst ps,.int j=>if j≤1000/\-1000≤j/\ps.length≤100 then some (.nw (List.replicate j.toNat ps).flatten) else none
 |.tup ps,.int j=>if ps.isEmpty=false/\1≤j/\j≤1000/\ps.length≤1000 then some (.fz (.tup (List.replicate j.toNat ps).flatten)) else none
 |_,_=>none
theorem Kh (ha:DE X a fa)(hb:DE X b fb):DE X (.BinOp a .Mult b pos) (af di fa fb):=
 .of2 (iy (I0 ha.tt hb.tt) (B6 ha.tt hb.tt)) (Hq ha.tt hb.tt) fun ρ r e=>by
  obtain⟨x,y,e1,e2,e3⟩:=qy e
  unfold di at e3
  split at e3
  ·next i j p q=>
   split at e3
   ·next h=>
    cases e3
    refine .inl ⟨_,rfl,.inl ⟨x,e1,y,e2,?_⟩⟩
    rw[p,q]
    refine⟨?_,rfl⟩
    show CMul i j
    unfold CMul
    rcases h with h|h
    ·exact .inl (by omega)
    ·exact .inr (by omega)
   ·cases e3
  ·next ps j p q=>
   split at e3
   ·next h=>
    cases e3
    refine .inr ⟨_,rfl,x,e1,y,e2,?_⟩
    rw[p,q]
    refine⟨by omega,by omega,?_,rfl⟩
    refine big ?_
    have h1:j.toNat≤1000:=by omega
    exact Nat.le_trans (Nat.mul_le_mul h.2.2 h1) (by decide)
   ·cases e3
  ·next ps j p q=>
   split at e3
   ·next h=>cases e3;exact .inl ⟨_,rfl,.inr ⟨x,e1,y,e2,by rw[p,q];exact⟨by intro z;subst z;exact absurd h.1 (by decide),h.2.1,h.2.2.1,h.2.2.2,rfl⟩⟩⟩
   ·cases e3
  ·cases e3
noncomputable def gh:PV->PV->Option RV:=ET (fun _ j=>0<j/\j<1073741824) fun i j=>.int (i / j)
theorem L8 (ha:DE X a fa)(hb:DE X b fb):DE X (.BinOp a .FloorDiv b pos) (af gh fa fb):=oK (Hm ha.tt hb.tt) (kw fun _ _ h=>h)
noncomputable def aL:PV->PV->Option RV:=ET (fun _ j=>0<j) fun i j=>.int (i % j)
theorem Lr (ha:DE X a fa)(hb:DE X b fb):DE X (.BinOp a .Mod b pos) (af aL fa fb):=oK (GS ha.tt hb.tt) (kw fun _ _ h=>h)
noncomputable def B1:PV->PV->Option RV:=ET (fun i j=>0≤j/\j≤1000000/\i.natAbs<2 ^ 64) fun i j=>.int (i ^ j.toNat)
theorem Kg (ha:DE X a fa)(hb:DE X b fb):DE X (.BinOp a .Pow b pos) (af B1 fa fb):=oK (FF ha.tt hb.tt) (kw fun _ _ h=>h)
noncomputable def J6:PV->PV->Option RV:=ET (fun _ j=>0≤j) fun i j=>.int (i / 2 ^ j.toNat)
theorem Mb (ha:DE X a fa)(hb:DE X b fb):DE X (.BinOp a .RShift b pos) (af J6 fa fb):=oK (IM ha.tt hb.tt) (kw fun _ _ h=>h)
noncomputable def KA:PV->PV->Option RV:=ET (fun i j=>0≤j/\j≤1000000/\i.natAbs<2 ^ 64) fun i j=>.int (i * 2 ^ j.toNat)
theorem LX (ha:DE X a fa)(hb:DE X b fb):DE X (.BinOp a .LShift b pos) (af KA fa fb):=oK (eZ HW (jB (f:=fun i j=>.int (i * 2 ^ j.toNat))) ha.tt hb.tt) (kw fun _ _ h=>h)
noncomputable def yP:PV->PV->Option RV:=rI fun i j=>.int (Builtin.bitAnd i j)
theorem Jr (ha:DE X a fa)(hb:DE X b fb):DE X (.BinOp a .BitAnd b pos) (af yP fa fb):=oK (B5 ha.tt hb.tt) Er
structure CmpR (X:Cx)(op:CmpOp)(g:PV->PV->Option RV):Prop where
 ok:∃(r:R2) (gE:fE),eQ X (compareOp op) r/\df X.K r gE/\∀x y r,g x y=some r->∃p,r=.fz (.bl p)/\∀Q:PV->Prop,Q (.bl p)->gE x y Q
theorem Pp {g:PV->PV->Option RV}{gE:fE}(h:∀x y r,g x y=some r->∃p,r=.fz (.bl p)/\∀Q:PV->Prop,Q (.bl p)->gE x y Q):∀x y r,g x y=some r->∃p,r=.fz p/\gE x y (fun z=>z=p):=fun x y r e=>by
 obtain⟨p,e1,e2⟩:=h x y r e;exact⟨_,e1,e2 _ rfl⟩
theorem Km {op:CmpOp}{g:PV->PV->Option RV}(hc:CmpR X op g)(ha:DE X a fa)(hb:DE X b fb)(hm:behindInMarks op b=false):DE X (.Compare a [op] [b] pos) (af g fa fb):=by
 obtain⟨r,gE,h1,h2,h3⟩:=hc.ok
 exact oK (Fa h1 h2 ha.tt hb.tt hm) (Pp h3)
noncomputable def JE (f:Int->Int->Bool):PV->PV->Option RV
 |.int i,.int j=>some (.fz (.bl (f i j)))
 |_,_=>none
theorem pq {f:Int->Int->Bool}:∀x y r,JE f x y=some r->∃p,r=.fz (.bl p)/\∀Q:PV->Prop,Q (.bl p)->zV (fun i j=>.bl (f i j)) x y Q:=fun x y r h=>by
 unfold JE at h
 split at h
 ·cases h;exact⟨_,rfl,fun _ q=>q⟩
 ·cases h
noncomputable def D1:PV->PV->Option RV:=JE fun i j=>decide (i<j)
noncomputable def wm:PV->PV->Option RV:=JE fun i j=>decide (i≤j)
noncomputable def zC:PV->PV->Option RV:=JE fun i j=>decide (j<i)
noncomputable def MQ:PV->PV->Option RV:=JE fun i j=>decide (j≤i)
theorem Ow:CmpR X .Lt D1:=⟨_,_,Mj,KK,pq⟩
theorem OT:CmpR X .LtE wm:=⟨_,_,MJ,KC,pq⟩
theorem OG:CmpR X .Gt zC:=⟨_,_,Kv,L0,pq⟩
theorem Ov:CmpR X .GtE MQ:=⟨_,_,Lq,JL,pq⟩
noncomputable def ge (x y:PV):Option RV:=if au x&&au y&&decide (jb x≤50) then some (.fz (.bl (eR x y))) else none
noncomputable def na (x y:PV):Option RV:=if au x&&au y&&decide (jb x≤50) then some (.fz (.bl (!eR x y))) else none
theorem Ot (hu:X.A.units+64<cLine):CmpR X .Eq ge:=⟨_,_,Ji hu,Kl,fun x y r h=>by
 unfold ge at h
 split at h
 ·next q=>cases h;rw[Bool.and_eq_true,Bool.and_eq_true,decide_eq_true_eq] at q;exact⟨_,rfl,fun _ z=>⟨q.1.1,q.1.2,q.2,z⟩⟩
 ·cases h⟩
theorem M3 (hu:X.A.units+64<cLine):CmpR X .NotEq na:=⟨_,_,EB hu,KY,fun x y r h=>by
 unfold na at h
 split at h
 ·next q=>cases h;rw[Bool.and_eq_true,Bool.and_eq_true,decide_eq_true_eq] at q;exact⟨_,rfl,fun _ z=>⟨q.1.1,q.1.2,q.2,z⟩⟩
 ·cases h⟩
noncomputable def zW (x y:PV):Option RV:=match items y with
 |some ps=>if au x&&ao ps&&decide (bw ps≤50) then some (.fz (.bl (pin x ps))) else none
 |none=>none
noncomputable def kU (x y:PV):Option RV:=match items y with
 |some ps=>if au x&&ao ps&&decide (bw ps≤50) then some (.fz (.bl (!pin x ps))) else none
 |none=>none
theorem Ol (hu:X.A.units+64<cLine):CmpR X .In zW:=⟨_,_,FG hu,MG,fun x y r h=>by
 unfold zW at h
 split at h
 ·next ps e=>
  split at h
  ·next q=>cases h;rw[Bool.and_eq_true,Bool.and_eq_true,decide_eq_true_eq] at q;refine⟨_,rfl,fun _ z=>?_⟩;unfold O4 OkS;rw[e];exact⟨q.1.1,q.1.2,q.2,z⟩
  ·cases h
 ·cases h⟩
theorem B0 (hu:X.A.units+64<cLine):CmpR X .NotIn kU:=⟨_,_,vU hu,yq,fun x y r h=>by
 unfold kU at h
 split at h
 ·next ps e=>
  split at h
  ·next q=>cases h;rw[Bool.and_eq_true,Bool.and_eq_true,decide_eq_true_eq] at q;refine⟨_,rfl,fun _ z=>?_⟩;unfold xG OkS;rw[e];exact⟨q.1.1,q.1.2,q.2,z⟩
  ·cases h
 ·cases h⟩
noncomputable def MX (x y:PV):Option RV:=match y with
 |.non=>some (.fz (.bl (fg x)))
 |_=>none
noncomputable def oO (x y:PV):Option RV:=match y with
 |.non=>some (.fz (.bl (!fg x)))
 |_=>none
theorem Nd:CmpR X .Is MX:=⟨_,_,FY,FX,fun x y r h=>by
 unfold MX at h
 split at h
 ·cases h;exact⟨_,rfl,fun _ q=>q⟩
 ·cases h⟩
theorem CH:CmpR X .IsNot oO:=⟨_,_,Bv,Bf,fun x y r h=>by
 unfold oO at h
 split at h
 ·cases h;exact⟨_,rfl,fun _ q=>q⟩
 ·cases h⟩
noncomputable def DB (X:Cx)(e:Expr)(g:FB):Prop:=PuB X e (wo g)
noncomputable def DW (X:Cx)(e:Expr)(g:FB):Prop:=PuW X e (wo g)
noncomputable def ug:Option RV->Option Bool
 |some (.fz (.bl b))=>some b
 |_=>none
noncomputable def fT (f:FE):FB:=fun ρ=>ug (f ρ)
theorem dh {o:Option RV}{b:Bool}(h:ug o=some b):o=some (.fz (.bl b)):=by
 unfold ug at h
 split at h
 ·cases h;rfl
 ·cases h
theorem PuB.weak {t t':iD}(h:PuB X e t)(w:∀ρ Q,t' ρ Q->t ρ Q):PuB X e t':=PT.weak h fun σ H Q hh_=>hh_.elim fun F ρ Qp er q k=>⟨F,ρ,Qp,er,w ρ Qp q,k⟩
theorem PuW.weak {t t':iD}(h:PuW X e t)(w:∀ρ Q,t' ρ Q->t ρ Q):PuW X e t':=PW.weak h fun σ H Q hh_=>hh_.elim fun F ρ Qp er q k=>⟨F,ρ,Qp,er,w ρ Qp q,k⟩
theorem MH {op:CmpOp}{g:PV->PV->Option RV}(hc:CmpR X op g)(ha:DE X a fa)(hb:DE X b fb)(hm:behindInMarks op b=false):DB X (.Compare a [op] [b] pos) (fT (af g fa fb)):=by
 obtain⟨r,gE,h1,h2,h3⟩:=hc.ok
 refine PuB.weak (Dd h1 h2 ha.tt hb.tt hm) fun ρ Q ⟨z,e,q⟩=>?_
 obtain⟨x,y,e1,e2,e3⟩:=qy (dh e)
 obtain⟨p,e4,q4⟩:=h3 _ _ _ e3
 cases e4
 exact⟨x,e1,y,e2,q4 _ q⟩
theorem Mt (h:DE X e f)(hv:∀whole,isTrue e X.env whole=(do let v ←whole;standAt e.pos;holding [v] (truthy v)):=by intro _;rfl):DB X e (fT f):=PuB.weak (Bt (Id h.ee hv)) fun ρ Q ⟨b,e,q⟩=>⟨_,_,dh e,rfl,q⟩
noncomputable def ku (g:FB):FB:=fun ρ=>(g ρ).map fun b=>!b
theorem K8 (h:DB X a ba):DB X (.UnaryOp .Not a pos) (ku ba):=PuB.weak (AR h) fun ρ Q ⟨b,e,q⟩=>by
 obtain⟨b',e1,rfl⟩:=Option.map_eq_some_iff.mp e
 exact⟨b',e1,q⟩
noncomputable def fu (g k:FB):FB:=fun ρ=>(g ρ).bind fun b=>if b=true then k ρ else some false
noncomputable def g7 (g k:FB):FB:=fun ρ=>(g ρ).bind fun b=>if b=true then some true else k ρ
theorem Ig (h:DB X a ba):DW X (.BoolOp .And [a] pos) ba:=xi h
theorem MA (h:DB X a ba):DW X (.BoolOp .Or [a] pos) ba:=AH h
theorem LR (ha:DB X a ba)(hb:DW X (.BoolOp .And (b::bN) pos) bb):DW X (.BoolOp .And (a::b::bN) pos) (fu ba bb):=PuW.weak (BN ha hb) fun ρ Q ⟨z,e,q⟩=>by
 obtain⟨x,e1,e2⟩:=Option.bind_eq_some_iff.mp e
 refine⟨x,e1,?_⟩
 cases x with
 |true=>exact⟨z,e2,q⟩
 |false=>cases e2;exact q
theorem Ng (ha:DB X a ba)(hb:DW X (.BoolOp .Or (b::bN) pos) bb):DW X (.BoolOp .Or (a::b::bN) pos) (g7 ba bb):=PuW.weak (Jq ha hb) fun ρ Q ⟨z,e,q⟩=>by
 obtain⟨x,e1,e2⟩:=Option.bind_eq_some_iff.mp e
 refine⟨x,e1,?_⟩
 cases x with
 |true=>cases e2;exact q
 |false=>exact⟨z,e2,q⟩
theorem P4 (h:DW X e ba):DB X e ba:=JM h
noncomputable def sx (f:FE):FE:=fun ρ=>(f ρ).bind fun r=>r.fr.map .fz
noncomputable def ng (f g:FE):FE:=fun ρ=>(ug (f ρ)).bind fun b=>if b=true then sx g ρ else some (.fz (.bl false))
noncomputable def Gk (f g:FE):FE:=fun ρ=>(ug (f ρ)).bind fun b=>if b=true then some (.fz (.bl true)) else sx g ρ
theorem gn {ρ:ai}{r:RV}(h:sx f ρ=some r):∃p,r=.fz p/\tF f ρ (fun x=>x=p):=by
 obtain⟨r',e1,e2⟩:=Option.bind_eq_some_iff.mp h
 obtain⟨p,e3,rfl⟩:=Option.map_eq_some_iff.mp e2
 exact⟨p,rfl,r',p,e1,e3,rfl⟩
theorem Kq {op}(h:DE X a f):DE X (.BoolOp op [a] pos) (sx f):=.ofE (Iz h.ee) fun ρ r e=>gn e
theorem L7 (ha:DE X a fa)(hb:DE X (.BoolOp .And (b::bN) pos) fb):DE X (.BoolOp .And (a::b::bN) pos) (ng fa fb):=.ofE (Hs ha.ee hb.ee) fun ρ r e=>by
 obtain⟨x,e1,e2⟩:=Option.bind_eq_some_iff.mp e
 cases x with
 |true=>
  rw[if_pos rfl] at e2
  obtain⟨p,e3,q⟩:=gn e2
  refine⟨p,e3,_,_,dh e1,rfl,?_⟩
  exact q
 |false=>
  rw[if_neg Bool.false_ne_true] at e2
  cases e2
  exact⟨_,rfl,_,_,dh e1,rfl,rfl⟩
theorem Oh (ha:DE X a fa)(hb:DE X (.BoolOp .Or (b::bN) pos) fb):DE X (.BoolOp .Or (a::b::bN) pos) (Gk fa fb):=.ofE (LB ha.ee hb.ee) fun ρ r e=>by
 obtain⟨x,e1,e2⟩:=Option.bind_eq_some_iff.mp e
 cases x with
 |false=>
  rw[if_neg Bool.false_ne_true] at e2
  obtain⟨p,e3,q⟩:=gn e2
  refine⟨p,e3,_,_,dh e1,rfl,?_⟩
  exact q
 |true=>
  rw[if_pos rfl] at e2
  cases e2
  exact⟨_,rfl,_,_,dh e1,rfl,rfl⟩
noncomputable def t9 (f:FE):FE:=fun ρ=>(ug (f ρ)).map fun b=>.fz (.bl (!b))
theorem LM (ha:DE X a fa):DE X (.UnaryOp .Not a pos) (t9 fa):=.ofE (Io ha.ee) fun ρ r e=>by
 obtain⟨b,e1,rfl⟩:=Option.map_eq_some_iff.mp e
 exact⟨_,rfl,_,_,dh e1,rfl,rfl⟩
noncomputable def sd (f:FE):FE:=fun ρ=>(f ρ).bind fun r=>match r.fr with
 |some (.int i)=>some (.fz (.int (-i)))
 |_=>none
theorem JY (ha:DE X a fa):DE X (.UnaryOp .USub a pos) (sd fa):=.ofE (Jo ha.ee) fun ρ r e=>by
 obtain⟨x,e1,e2⟩:=Option.bind_eq_some_iff.mp e
 split at e2
 ·next i e3=>cases e2;exact⟨_,rfl,x,_,e1,e3,rfl⟩
 ·cases e2
noncomputable def MT (g:FB)(f k:FE):FE:=fun ρ=>(g ρ).bind fun b=>if b=true then sx f ρ else sx k ρ
theorem NQ (hc:DB X c ba)(ha:DE X a fa)(hb:DE X b fb):DE X (.IfExp c a b pos) (MT ba fa fb):=.ofE (HL hc ha.ee hb.ee) fun ρ r e=>by
 obtain⟨x,e1,e2⟩:=Option.bind_eq_some_iff.mp e
 cases x with
 |true=>
  rw[if_pos rfl] at e2
  obtain⟨p,e3,q⟩:=gn e2
  exact⟨p,e3,true,e1,q⟩
 |false=>
  rw[if_neg Bool.false_ne_true] at e2
  obtain⟨p,e3,q⟩:=gn e2
  exact⟨p,e3,false,e1,q⟩
noncomputable def Ge (g g':PV->PV->Option RV)(a b c:FE):FE:=fun ρ=>(a ρ).bind fun x=>(b ρ).bind fun y=>(ug (g x.pv y.pv)).bind fun k=>if k=true then (c ρ).bind fun z=>g' y.pv z.pv else some (.fz (.bl false))
theorem Eu {g g':PV->PV->Option RV}{gE gE':fE}(h:∀x y r,g x y=some r->∃p,r=.fz (.bl p)/\∀Q:PV->Prop,Q (.bl p)->gE x y Q)(h':∀x y r,g' x y=some r->∃p,r=.fz (.bl p)/\∀Q:PV->Prop,Q (.bl p)->gE' x y Q){ρ:ai}{r:RV}(e:Ge g g' fa fb fc ρ=some r) :
  ∃p,r=.fz (.bl p)/\∀Q:PV->Prop,Q (.bl p)->o0 gE gE' (tT fa) (tT fb) (tT fc) ρ Q:=by
 obtain⟨x,y,e1,e2,e3⟩:=qy e
 obtain⟨k,e4,e5⟩:=Option.bind_eq_some_iff.mp e3
 obtain⟨p,e6,q6⟩:=h _ _ _ (dh e4)
 cases e6
 cases k with
 |true=>
  rw[if_pos rfl] at e5
  obtain⟨z,e7,e8⟩:=Option.bind_eq_some_iff.mp e5
  obtain⟨p,e9,q9⟩:=h' _ _ _ e8
  refine⟨p,e9,fun Q q=>⟨x,e1,y,e2,q6 _ ?_⟩⟩
  exact⟨z,e7,q9 _ q⟩
 |false=>
  rw[if_neg Bool.false_ne_true] at e5
  cases e5
  exact⟨_,rfl,fun Q q=>⟨x,e1,y,e2,q6 _ q⟩⟩
theorem OV {op op':CmpOp}{g g':PV->PV->Option RV}(h:CmpR X op g)(h':CmpR X op' g')(ha:DE X a fa)(hb:DE X b fb)(hc:DE X c fc)(hm:lastMarks [op,op'] [b,c]=false:=by rfl):DE X (.Compare a [op,op'] [b,c] pos) (Ge g g' fa fb fc):=by
 obtain⟨r,gE,h1,h2,h3⟩:=h.ok
 obtain⟨r',gE',h1',h2',h3'⟩:=h'.ok
 refine .ofE (zO h1 h2 h1' h2' ha.tt hb.tt hc.tt hm) fun ρ r e=>?_
 obtain⟨p,e1,q⟩:=Eu h3 h3' e
 exact⟨_,e1,q _ rfl⟩
theorem NC {op op':CmpOp}{g g':PV->PV->Option RV}(h:CmpR X op g)(h':CmpR X op' g')(ha:DE X a fa)(hb:DE X b fb)(hc:DE X c fc)(hm:lastMarks [op,op'] [b,c]=false:=by rfl):DB X (.Compare a [op,op'] [b,c] pos) (fT (Ge g g' fa fb fc)):=by
 obtain⟨r,gE,h1,h2,h3⟩:=h.ok
 obtain⟨r',gE',h1',h2',h3'⟩:=h'.ok
 refine PuB.weak (uL h1 h2 h1' h2' ha.tt hb.tt hc.tt hm) fun ρ Q ⟨z,e,q⟩=>?_
 obtain⟨p,e1,q1⟩:=Eu h3 h3' (dh e)
 cases e1
 exact q1 _ q
structure DA (X:Cx)(es:List Expr)(fs:FA):Prop where
 f:Ea X es (EI fs)
 t:uO X es (zT fs)
noncomputable def ae:FA:=fun _=>some []
noncomputable def aa (f:FE)(fs:FA):FA:=fun ρ=>(f ρ).bind fun r=>(fs ρ).bind fun rs=>some (r::rs)
theorem pG {t t':fG}(h:Ea X es t)(w:∀ρ Q,t' ρ Q->t ρ Q):Ea X es t':=PA.weak h fun σ H Q hh_=>hh_.elim fun F ρ Qp er q k=>⟨F,ρ,Qp,er,w ρ Qp q,k⟩
theorem m7 {t t':fG}(h:uO X es t)(w:∀ρ Q,t' ρ Q->t ρ Q):uO X es t':=PA.weak h fun σ H Q hh_=>hh_.elim fun F ρ Qp er q k=>⟨F,ρ,Qp,er,w ρ Qp q,k⟩
theorem mapM_cons {r:RV}{rs:List RV}{ps:List PV}(h:(r::rs).mapM RV.fr=some ps):∃p qs,r.fr=some p/\rs.mapM RV.fr=some qs/\ps=p::qs:=by
 rw[List.mapM_cons] at h
 obtain⟨p,e1,h⟩:=Option.bind_eq_some_iff.mp h
 obtain⟨qs,e2,h⟩:=Option.bind_eq_some_iff.mp h
 cases h
 exact⟨p,qs,e1,e2,rfl⟩
theorem Mp:DA X [] ae:=⟨pG AM fun ρ Q ⟨rs,ps,e,e2,q⟩=>by cases e;cases e2;exact q,m7 yn fun ρ Q ⟨rs,e,q⟩=>by cases e;exact q⟩
theorem Hi (hn:NS e)(he:DE X e f)(ht:DA X es fs):DA X (e::es) (aa f fs):=by
 constructor
 ·refine pG (wy hn he.ee ht.f) fun ρ Q ⟨rs,ps,e1,e2,q⟩=>?_
  obtain⟨r,e3,e1⟩:=Option.bind_eq_some_iff.mp e1
  obtain⟨rs',e4,e1⟩:=Option.bind_eq_some_iff.mp e1
  cases e1
  obtain⟨p,qs,e5,e6,rfl⟩:=mapM_cons e2
  exact⟨r,p,e3,e5,rs',qs,e4,e6,q⟩
 ·refine m7 (ux hn he.tt ht.t) fun ρ Q ⟨rs,e1,q⟩=>?_
  obtain⟨r,e3,e1⟩:=Option.bind_eq_some_iff.mp e1
  obtain⟨rs',e4,e1⟩:=Option.bind_eq_some_iff.mp e1
  cases e1
  exact⟨r,e3,rs',e4,q⟩
noncomputable def cI (fs:FA):FE:=fun ρ=>(fs ρ).bind fun rs=>(rs.mapM RV.fr).bind fun ps=>if ps.length≤100000 then some (.fz (.tup ps)) else none
noncomputable def eT (fs:FA):FE:=fun ρ=>(fs ρ).bind fun rs=>(rs.mapM RV.fr).bind fun ps=>if ps.length≤100000 then some (.nw ps) else none
theorem JS {x1}(h:DA X es fs):DE X (.Tuple es x1 pos) (cI fs):=.ofE (Hv h.f) fun ρ r e=>by
 obtain⟨rs,e1,e⟩:=Option.bind_eq_some_iff.mp e
 obtain⟨ps,e2,e⟩:=Option.bind_eq_some_iff.mp e
 split at e
 ·next z=>cases e;exact⟨_,rfl,rs,ps,e1,e2,big z,rfl⟩
 ·cases e
theorem KU (h:DA X es fs):DE X (.List es pos) (eT fs):=.ofN (Gy h.f) fun ρ r e=>by
 obtain⟨rs,e1,e⟩:=Option.bind_eq_some_iff.mp e
 obtain⟨ps,e2,e⟩:=Option.bind_eq_some_iff.mp e
 split at e
 ·next z=>cases e;exact⟨_,rfl,rs,ps,e1,e2,big z,rfl⟩
 ·cases e
noncomputable def bx:PV->PV->Option RV
 |.str z,.int i=>if z.length≤100000 then (L2.atI z.cps.toList i).map fun c=>.fz (.str ⟨#[c]⟩) else none
 |p,.int i=>(items p).bind fun ps=>(L2.atI ps i).map .fz
 |_,_=>none
theorem Jt:∀x y r,bx x y=some r->∃p,r=.fz p/\Od x y (fun z=>z=p):=fun x y r h=>by
 unfold bx at h
 split at h
 ·split at h
  ·next z=>
   obtain⟨c,e1,rfl⟩:=Option.map_eq_some_iff.mp h
   refine⟨_,rfl,big z,?_⟩
   rw[e1];exact rfl
  ·cases h
 ·next hn=>
  obtain⟨ps,e1,h⟩:=Option.bind_eq_some_iff.mp h
  obtain⟨p,e2,rfl⟩:=Option.map_eq_some_iff.mp h
  refine⟨p,rfl,?_⟩
  have:∀i:Int,L2.atI ps i=some p->OkS x fun ps=>OkO (L2.atI ps i) fun z=>z=p:=fun i ei=>by
   unfold OkS;rw[e1];show OkO (L2.atI ps i) _;rw[ei];exact rfl
  show OkI (.int _) _
  cases x<;>first|exact this _ e2|(cases e1)
 ·cases h
theorem OR (ha:DE X a fa)(hb:DE X b fb)(hs:gX b):DE X (.Subscript a b pos) (af bx fa fb):=oK (Ei ha.tt hb.tt hs) Jt
noncomputable abbrev FO:=ai->Option (Option Int)
noncomputable def tO (f:FO):uP:=fun ρ Q=>∃o,f ρ=some o/\Q o
noncomputable def DO (X:Cx)(e:Option Expr)(f:FO):Prop:=zh X e (tO f)
noncomputable def Eb:FO:=fun _=>some none
noncomputable def DC (f:FE):FO:=fun ρ=>(f ρ).bind fun r=>match r.fr with
 |some (.int i)=>some (some i)
 |_=>none
theorem qK {o:Option Expr}{t t':uP}(h:zh X o t)(w:∀ρ Q,t' ρ Q->t ρ Q):zh X o t':=PO.weak h fun σ H Q hh_=>hh_.elim fun F ρ Qp er q k=>⟨F,ρ,Qp,er,w ρ Qp q,k⟩
theorem Np:DO X none Eb:=qK xC fun ρ Q ⟨o,e,q⟩=>by cases e;exact q
theorem M6 (h:DE X e f):DO X (some e) (DC f):=qK (xm h.ee) fun ρ Q ⟨o,e,q⟩=>by
 obtain⟨r,e1,e2⟩:=Option.bind_eq_some_iff.mp e
 split at e2
 ·next i e3=>cases e2;exact⟨r,_,e1,e3,q⟩
 ·cases e2
noncomputable def JF (p:PV)(l h:Option Int):Option RV:=match p with
 |.lst ps=>some (.nw (cut ps l h))
 |.src ps=>some (.nw (cut ps l h))
 |.tup ps=>if HT.sIx ps.length 0 l=0/\HT.sIx ps.length ps.length h=ps.length then none else some (.fz (.tup (cut ps l h)))
 |_=>none
noncomputable def D8 (f:FE)(l h:FO):FE:=fun ρ=>(f ρ).bind fun r=>(l ρ).bind fun lo=>(h ρ).bind fun hi=>JF r.pv lo hi
theorem M0 {lo hi:Option Expr}{fl fh:FO}{p2:Pos}(ha:DE X a fa)(hl:DO X lo fl)(hh:DO X hi fh):DE X (.Subscript a (.Slice lo hi none p2) pos) (D8 fa fl fh):=.of2 (x9 ha.tt hl hh) (Hw ha.tt hl hh) fun ρ r e=>by
 obtain⟨x,e1,e⟩:=Option.bind_eq_some_iff.mp e
 obtain⟨l,e2,e⟩:=Option.bind_eq_some_iff.mp e
 obtain⟨h,e3,e⟩:=Option.bind_eq_some_iff.mp e
 unfold JF at e
 split at e
 ·next ps q=>cases e;exact .inr ⟨_,rfl,x,e1,l,e2,h,e3,by rw[q];exact rfl⟩
 ·next ps q=>cases e;exact .inr ⟨_,rfl,x,e1,l,e2,h,e3,by rw[q];exact rfl⟩
 ·next ps q=>
  split at e
  ·cases e
  ·next z=>cases e;exact .inl ⟨_,rfl,x,e1,l,e2,h,e3,by rw[q];exact⟨z,rfl⟩⟩
 ·cases e
end
end Dp
end
section
namespace Dp
open PySem PySem.Spec L2 Pu
section
variable {X:Cx}{e a b c tg iter:Expr}{es bN:List Expr}{pos:Pos}{f fa fb fc:FE}{fs:FA}{i:Nat}{ba bb:FB}
noncomputable def fB (g:List PV->Option RV)(fs:FA):FE:=fun ρ=>(fs ρ).bind fun rs=>g (rs.map RV.pv)
theorem iY {r:List V->Hp->VK->Prop}{g0:pQ}{g:List PV->Option RV}(hr:iz X.K r g0)(w:∀ps r,g ps=some r->∃p,r=.fz p/\g0 ps (fun z=>z=p))(h:PE X e (zR r (lAT X.K (zT fs)))):DE X e (fB g fs):=.ofE (Ks hr h) fun ρ r e=>by
 obtain⟨rs,e1,e2⟩:=Option.bind_eq_some_iff.mp e
 obtain⟨p,rfl,q⟩:=w _ _ e2
 exact⟨p,rfl,rs,e1,q⟩
theorem La {r:List V->Hp->VK->Prop}{g0:DU}{g:List PV->Option RV}(hr:vn X.K r g0)(w:∀ps r,g ps=some r->∃p,r=.nw p/\g0 ps (fun z=>z=p))(h:PE X e (zR r (lAT X.K (zT fs)))):DE X e (fB g fs):=.ofN (ww hr h) fun ρ r e=>by
 obtain⟨rs,e1,e2⟩:=Option.bind_eq_some_iff.mp e
 obtain⟨p,rfl,q⟩:=w _ _ e2
 exact⟨p,rfl,rs,e1,q⟩
noncomputable def fW:List PV->Option RV
 |[.str z]=>if z.length≤100000 then some (.fz (.int z.length)) else none
 |[p]=>(items p).map fun ps=>.fz (.int ps.length)
 |_=>none
theorem Ag:∀ps r,fW ps=some r->∃p,r=.fz p/\Ms ps (fun z=>z=p):=fun ps r h=>by
 unfold fW at h
 split at h
 ·split at h
  ·next z=>cases h;exact⟨_,rfl,big z,rfl⟩
  ·cases h
 ·next p hp=>
  obtain⟨qs,e1,rfl⟩:=Option.map_eq_some_iff.mp h
  refine⟨_,rfl,?_⟩
  have:OkS p fun ps=>PV.int ps.length=PV.int qs.length:=by unfold OkS;rw[e1]
  show One [p] _
  cases p<;>first|exact this|(cases e1)
 ·cases h
noncomputable def wp:List PV->Option RV
 |[.int i]=>some (.fz (.int (if i<0 then -i else i)))
 |_=>none
theorem Dq:∀ps r,wp ps=some r->∃p,r=.fz p/\Lm ps (fun z=>z=p):=fun ps r h=>by
 unfold wp at h
 split at h
 ·cases h;exact⟨_,rfl,rfl⟩
 ·cases h
noncomputable def tm:List PV->Option RV
 |[.int i,.int j]=>some (.fz (.int (if j > i then j else i)))
 |_=>none
theorem wY:∀ps r,tm ps=some r->∃p,r=.fz p/\D6 ps (fun z=>z=p):=fun ps r h=>by
 unfold tm at h
 split at h
 ·cases h;exact⟨_,rfl,rfl⟩
 ·cases h
noncomputable def ky:List PV->Option RV
 |[.int i,.int j]=>some (.fz (.int (if j<i then j else i)))
 |_=>none
theorem yY:∀ps r,ky ps=some r->∃p,r=.fz p/\Ed ps (fun z=>z=p):=fun ps r h=>by
 unfold ky at h
 split at h
 ·cases h;exact⟨_,rfl,rfl⟩
 ·cases h
noncomputable def pR:List PV->Option RV
 |[.int i]=>some (.fz (.int i))
 |[.bl b]=>some (.fz (.int (if b then 1 else 0)))
 |_=>none
theorem Dj:∀ps r,pR ps=some r->∃p,r=.fz p/\KM ps (fun z=>z=p):=fun ps r h=>by
 unfold pR at h
 split at h
 ·cases h;exact⟨_,rfl,rfl⟩
 ·cases h;exact⟨_,rfl,rfl⟩
 ·cases h
noncomputable def Jv:List PV->Option (List Bool)
 |[]=>some []
 |.bl b::ps=>(Jv ps).map fun bs=>b::bs
 |_=>none
theorem zF:∀{ps:List PV} {bs:List Bool},Jv ps=some bs->ps=bs.map PV.bl:=fun {ps}=>by
 induction ps with
 |nil=>intro bs h;cases h;rfl
 |cons p ps ih=>
  intro bs h
  cases p<;>first|(cases h;done)|skip
  obtain⟨bs',e1,rfl⟩:=Option.map_eq_some_iff.mp h
  rw[ih e1];rfl
noncomputable def eF:PV->Option (List PV)
 |.lst ps=>some ps
 |.src ps=>some ps
 |_=>none
noncomputable def By:List PV->Option RV
 |[p]=>(eF p).bind fun ps=>(Jv ps).map fun bs=>.fz (.bl (bs.all id))
 |_=>none
noncomputable def Bj:List PV->Option RV
 |[p]=>(eF p).bind fun ps=>(Jv ps).map fun bs=>.fz (.bl (bs.any id))
 |_=>none
theorem dL {p:PV}{ps:List PV}{Q:List PV->Prop}(h:eF p=some ps)(q:Q ps):OkL p Q:=by
 cases p<;>first|(cases h;done)|(cases h;exact q)
theorem Bz:∀ps r,By ps=some r->∃p,r=.fz p/\LK ps (fun z=>z=p):=fun ps r h=>by
 unfold By at h
 split at h
 ·obtain⟨qs,e1,h⟩:=Option.bind_eq_some_iff.mp h
  obtain⟨bs,e2,rfl⟩:=Option.map_eq_some_iff.mp h
  refine⟨_,rfl,dL e1 ?_⟩
  rw[zF e2,pP]
 ·cases h
theorem Cj:∀ps r,Bj ps=some r->∃p,r=.fz p/\L3 ps (fun z=>z=p):=fun ps r h=>by
 unfold Bj at h
 split at h
 ·obtain⟨qs,e1,h⟩:=Option.bind_eq_some_iff.mp h
  obtain⟨bs,e2,rfl⟩:=Option.map_eq_some_iff.mp h
  refine⟨_,rfl,dL e1 ?_⟩
  rw[zF e2,pP]
 ·cases h
noncomputable def jV:List PV->Option RV
 |[.lst ps]=>some (.fz (.tup ps))
 |[.tup ps]=>some (.fz (.tup ps))
 |[.src ps]=>some (.fz (.tup ps))
 |_=>none
theorem C6:∀ps r,jV ps=some r->∃p,r=.fz p/\LO ps (fun z=>z=p):=fun ps r h=>by
 unfold jV at h
 split at h
 ·cases h;exact⟨_,rfl,rfl⟩
 ·cases h;exact⟨_,rfl,rfl⟩
 ·cases h;exact⟨_,rfl,rfl⟩
 ·cases h
noncomputable def eV:List PV->Option RV
 |[.rng lo j]=>if lo=0/\0≤j/\j≤1000000 then some (.nw (np 0 j.toNat)) else none
 |[p]=>(items p).map .nw
 |_=>none
theorem CK:∀ps r,eV ps=some r->∃p,r=.nw p/\(KG ps (fun z=>z=p)\/Dy ps (fun z=>z=p)):=fun ps r h=>by
 unfold eV at h
 split at h
 ·split at h
  ·next z=>cases h;exact⟨_,rfl,.inr ⟨z.1,z.2.1,z.2.2,rfl⟩⟩
  ·cases h
 ·next p hp=>
  obtain⟨qs,e1,rfl⟩:=Option.map_eq_some_iff.mp h
  refine⟨_,rfl,.inl ?_⟩
  show OkS p _
  unfold OkS;rw[e1]
 ·cases h
theorem EJ {x:Str}{p:Pos}(hx:x = "list")(h1:PE X e (zR (fun xs H Q=>∃p ys,xs=[.ref p]/\(SqL X.K H p ys\/SqT X.K H p ys)/\∀l,H l=none->Q (.ref l) (upd H l (.lst ys))) (lAT X.K (zT fs))))
  (h2:PE X e (zR (fun xs H Q=>∃p j,xs=[.ref p]/\H p=some (.rng 0 j)/\0≤j/\j≤1000000/\∀l,H l=none->Q (.ref l) (upd H l (.lst (kB j.toNat)))) (lAT X.K (zT fs)))):DE X e (fB eV fs):=.ofN (ym (ww HS h1) (ww Bo h2)) fun ρ r e=>by
 obtain⟨rs,e1,e2⟩:=Option.bind_eq_some_iff.mp e
 obtain⟨p,rfl,q⟩:=CK _ _ e2
 exact⟨p,rfl,q.elim (fun q=>.inl ⟨rs,e1,q⟩) fun q=>.inr ⟨rs,e1,q⟩⟩
noncomputable def sH:List PV->Option RV
 |[.int j]=>if -(2 ^ 62)≤j/\j<2 ^ 62 then some (.fz (.rng 0 j)) else none
 |_=>none
theorem Cs:∀ps r,sH ps=some r->∃p,r=.fz p/\KH ps (fun z=>z=p):=fun ps r h=>by
 unfold sH at h
 split at h
 ·split at h
  ·next z=>cases h;exact⟨_,rfl,z.1,z.2,rfl⟩
  ·cases h
 ·cases h
noncomputable def eg:List PV->Option RV
 |[p,.ty n]=>if n = "int"\/n = "bool"\/n = "str"\/n = "tuple"\/n = "list"\/n = "dict" then (MO n p).map fun b=>.fz (.bl b) else none
 |_=>none
theorem Jj:∀ps r,eg ps=some r->∃p,r=.fz p/\MD ps (fun z=>z=p):=fun ps r h=>by
 unfold eg at h
 split at h
 ·split at h
  ·next z=>
   obtain⟨b,e1,rfl⟩:=Option.map_eq_some_iff.mp h
   refine⟨_,rfl,z,?_⟩
   rw[e1];exact rfl
  ·cases h
 ·cases h
noncomputable def cC:List PV->Option (List Int)
 |[]=>some []
 |.int i::ps=>(cC ps).map fun is=>i::is
 |_=>none
noncomputable def gl:List PV->Option (List (List Int))
 |[]=>some []
 |.tup qs::ps=>(cC qs).bind fun is=>if is.isEmpty then none else (gl ps).map fun ks=>is::ks
 |_=>none
theorem gR:∀{ps:List PV} {is:List Int},cC ps=some is->ps=is.map PV.int:=fun {ps}=>by
 induction ps with
 |nil=>intro bs h;cases h;rfl
 |cons p ps ih=>
  intro bs h
  cases p<;>first|(cases h;done)|skip
  obtain⟨bs',e1,rfl⟩:=Option.map_eq_some_iff.mp h
  rw[ih e1];rfl
theorem kZ (is:List Int):cC (is.map PV.int)=some is:=by
 induction is with
 |nil=>rfl
 |cons b bs ih=>rw[List.map_cons,cC,ih];rfl
theorem gq {K:PySem.W.Frag}{F:Hp}:∀{is:List Int} {vs:List V},Reps K F (is.map PV.int) vs->vs=is.map V.int
 |[],_,h=>h
 |i::is,_,⟨v,r,e,h,t⟩=>by rw[e,show v=V.int i from h,gq t];rfl
noncomputable def j5:List PV->Option RV
 |[p]=>(eF p).bind fun ps=>(gl ps).bind fun ks=>if ps.length<64 then some (.nw ((lD ks).map fun i=>ps.getD i .non)) else none
 |_=>none
noncomputable def pw:DU:=fun ps Q=>One ps fun p=>OkL p fun ps=>∃ks,gl ps=some ks/\ps.length<64/\Q ((lD ks).map fun i=>ps.getD i .non)
theorem tq {K:PySem.W.Frag}{F H:Hp}(s:Same F H):∀{ps:List PV} {vs:List V} {ks:List (List Int)},Reps K F ps vs->gl ps=some ks->TupsIn H vs ks
 |[],_,_,h,e=>by rw[show _=[] from h];cases e;exact .nil
 |p::ps,_,_,⟨v,r,ev,h,t⟩,e=>by
  subst ev
  cases p<;>first|(cases e;done)|skip
  rw[gl] at e
  obtain⟨is,e1,e⟩:=Option.bind_eq_some_iff.mp e
  split at e
  ·cases e
  ·next ne=>
   obtain⟨ks,e2,rfl⟩:=Option.map_eq_some_iff.mp e
   obtain⟨a,vs,rfl,h1,h2⟩:=h
   rw[gR e1] at h2
   rw[gq h2] at h1
   exact .cons (s _ _ h1) (by intro z;subst z;exact absurd rfl ne) (tq s t e2)
theorem ua {K:PySem.W.Frag}{F:Hp}{ps:List PV}{vs:List V}(h:Reps K F ps vs):∀{l:List Nat},(∀i∈l,i<ps.length)->Reps K F (l.map fun i=>ps.getD i .non) (l.map fun i=>vs.getD i .non)
 |[],_=>rfl
 |i::l,hl=>by
  have hi:=hl i List.mem_cons_self
  obtain⟨v,ev,rv⟩:=h.get (List.getElem?_eq_getElem hi)
  refine⟨v,_,?_,?_,ua h fun j hj=>hl j (List.mem_cons_of_mem _ hj)⟩
  ·rw[List.map_cons,List.getD_eq_getElem?_getD,ev];rfl
  ·show Rep K F (ps.getD i .non) v
   rw[List.getD_eq_getElem?_getD,List.getElem?_eq_getElem hi];exact rv
theorem wq:∀{ps:List PV} {ks:List (List Int)},gl ps=some ks->ks.length=ps.length:=fun {ps}=>by
 induction ps with
 |nil=>intro bs h;cases h;rfl
 |cons p ps ih=>
  intro ks e
  cases p<;>first|(cases e;done)|skip
  rw[gl] at e
  obtain⟨is,e1,e⟩:=Option.bind_eq_some_iff.mp e
  split at e
  ·cases e
  ·obtain⟨ks,e2,rfl⟩:=Option.map_eq_some_iff.mp e
   rw[List.length_cons,List.length_cons,ih e2]
theorem rZ:vn X.K (fun xs H Q=>∃p ts ks,xs=[.ref p]/\SqL X.K H p ts/\ts.length<64/\TupsIn H ts ks/\∀l,H l=none->Q (.ref l) (upd H l (.lst ((lD ks).map fun i=>ts.getD i .non)))) pw:=fun F H xs ps Qp Q s r h k=>by
 obtain⟨p,v,rfl,rfl,r,h⟩:=h.rd r
 obtain⟨a,vs,ps,rfl,hs,rs,ks,e,h64,h⟩:=h.rd s r
 refine⟨a,vs,ks,rfl,hs,by rw[rs.length];exact h64,tq s rs e,fun l hl=>?_⟩
 have hk:=wq e
 refine k _ l _ F _ h (.newO s hl _) hl (s.free hl) ak (ua rs fun i hi=>?_)
 have:=(uq ks).subset hi
 rw[List.mem_range] at this
 omega
theorem rL:∀ps r,j5 ps=some r->∃p,r=.nw p/\pw ps (fun z=>z=p):=fun ps r h=>by
 unfold j5 at h
 split at h
 ·obtain⟨qs,e1,h⟩:=Option.bind_eq_some_iff.mp h
  obtain⟨ks,e2,h⟩:=Option.bind_eq_some_iff.mp h
  split at h
  ·next z=>cases h;exact⟨_,rfl,dL e1 ⟨ks,e2,z,rfl⟩⟩
  ·cases h
 ·cases h
mutual
noncomputable def tf:PV->Bool
 |.tup ps=>DH ps
 |p=>bQ p
noncomputable def DH:List PV->Bool
 |[]=>true
 |p::ps=>tf p&&DH ps
end
noncomputable def II:PR->Bool
 |.v p=>tf p
 |.n ps=>DH ps
noncomputable def iQ (F1 F2:Hp):Hp:=fun b=>match F2 b with
 |some (.tup vs)=>some (.tup vs)
 |_=>F1 b
mutual
theorem yZ {K:PySem.W.Frag}{F1 F2:Hp}:∀{p:PV} {v:V},tf p=true->Rep K F2 p v->Rep K (iQ F1 F2) p v
 |.tup ps,v,h,⟨a,vs,e,h1,h2⟩=>by
  rw[tf] at h
  refine⟨a,vs,e,?_,jY h h2⟩
  unfold iQ;rw[h1]
 |.non,_,_,r=>r
 |.bl _,_,_,r=>r
 |.int _,_,_,r=>r
 |.str _,_,_,r=>r
 |.ty _,_,_,r=>r
 |.fn _,_,_,r=>r
 |.lst _,_,h,_=>by cases h
 |.dct _ _,_,h,_=>by cases h
 |.src _,_,h,_=>by cases h
 |.ktu _,_,h,_=>by cases h
 |.rng _ _,_,h,_=>by cases h
theorem jY {K:PySem.W.Frag}{F1 F2:Hp}:∀{ps:List PV} {vs:List V},DH ps=true->Reps K F2 ps vs->Reps K (iQ F1 F2) ps vs
 |[],_,_,r=>r
 |p::ps,_,h,⟨v,t,e,r1,r2⟩=>by
  rw[DH,Bool.and_eq_true] at h
  exact⟨v,t,e,yZ h.1 r1,jY h.2 r2⟩
end
theorem xP {F1 H1 F2 H2:Hp}(s:Same F1 H1)(g:Grow H1 H1 F2 H2):Grow F1 H1 (iQ F1 F2) H2:=by
 refine⟨g.hh,fun b o e=>?_,fun b o e=>?_,fun b o e=>?_⟩
 ·have h2:=g.ff b o (s b o e)
  unfold iQ
  cases o<;>rw[h2]<;>first|rfl|exact e
 ·unfold iQ at e
  split at e
  ·next vs h=>rw[←e];exact g.fh b _ h
  ·exact g.hh b o (s b o e)
 ·unfold iQ at e
  split at e
  ·cases e;exact .inr (.inr ⟨_,rfl⟩)
  ·exact .inl e
theorem kf {F1 F2:Hp}{a:Addr}(h1:F1 a=none)(h2:F2 a=none):iQ F1 F2 a=none:=by unfold iQ;rw[h2];exact h1
noncomputable def AZ (φ:vh)(t:fG):cY:=fun ρ Q=>t ρ fun ps=>φ ps fun r=>II r=true/\Q r.pv
noncomputable def y2 (φ:vh)(t:fG):oz:=fun ρ Q=>t ρ fun ps=>φ ps fun r=>II r=true/\O5 r Q
theorem vH {φ:vh}{t:fG}(h:PE X e (eI (bq X.K φ) [] E0 (lAT X.K t))):dr X e (AZ φ t):=PE.weak h fun σ H Q hh_=>hh_.elim fun F ρ Qp er q k=>⟨F,ρ,_,er,q,fun ps vs F1 H1 h1 g1 r1=>by
 show bq X.K φ (vs++[]) H1 Q E0
 rw[List.append_nil]
 refine⟨H1,ps,_,Same.refl _,r1.all g1.fh,h1,fun r v F2 H2 h2 g2 rr=>?_⟩
 have gk:=xP g1.fh g2
 cases r with
 |v p=>exact k p _ _ H2 h2.2 (g1.trans gk) (yZ h2.1 rr)
 |n ps=>
  obtain⟨a,vs,rfl,h0,hF,hH,rs⟩:=rr
  have hF1:=kf (g1.fh.free h0) hF
  exact k (.lst ps) _ _ H2 h2.2 ((g1.trans gk).freeze (g1.hh.free h0) hF1 hH) ⟨a,vs,rfl,ak,(jY h2.1 rs).mono (aY hF1 _)⟩⟩
theorem rQ {φ:vh}{t:fG}(h:PE X e (eI (bq X.K φ) [] E0 (lAT X.K t))):rD X e (y2 φ t):=PE.weak h fun σ H Q hh_=>hh_.elim fun F ρ Qp er q k=>⟨F,ρ,_,er,q,fun ps vs F1 H1 h1 g1 r1=>by
 show bq X.K φ (vs++[]) H1 Q E0
 rw[List.append_nil]
 refine⟨H1,ps,_,Same.refl _,r1.all g1.fh,h1,fun r v F2 H2 h2 g2 rr=>?_⟩
 have gk:=xP g1.fh g2
 cases r with
 |v p=>exact h2.2.elim
 |n ps=>
  obtain⟨a,vs,rfl,h0,hF,hH,rs⟩:=rr
  exact k ps a vs _ H2 h2.2 (g1.trans gk) (g1.hh.free h0) (kf (g1.fh.free h0) hF) hH (jY h2.1 rs)⟩
noncomputable def bR (F:List PV->Option PR):vh:=fun qs Q=>∃r,F qs=some r/\Q r
noncomputable def my:PR->RV
 |.v p=>.fz p
 |.n ps=>.nw ps
noncomputable def aw (F:List PV->Option PR)(fs:FA):FE:=fun ρ=>(fs ρ).bind fun rs=>match rs.mapM RV.fr with
 |some ps=>(F ps).map my
 |none=>(F (rs.map RV.pv)).bind fun r=>if II r=true then some (my r) else none
theorem xg {F:List PV->Option PR}(h1:PE X e (eI (bq X.K (bR F)) [] E0 (lA X.K (EI fs))))(h2:PE X e (eI (bq X.K (bR F)) [] E0 (lAT X.K (zT fs)))):DE X e (aw F fs):=
 .of2 (iy (Dg h1) (vH h2)) (ym (yj h1) (rQ h2)) fun ρ r e=>by
  obtain⟨rs,e1,e2⟩:=Option.bind_eq_some_iff.mp e
  split at e2
  ·next ps ep=>
   obtain⟨q,e3,rfl⟩:=Option.map_eq_some_iff.mp e2
   cases q with
   |v p=>exact .inl ⟨p,rfl,.inl ⟨rs,ps,e1,ep,.v p,e3,rfl⟩⟩
   |n qs=>exact .inr ⟨qs,rfl,.inl ⟨rs,ps,e1,ep,.n qs,e3,rfl⟩⟩
  ·obtain⟨q,e3,e4⟩:=Option.bind_eq_some_iff.mp e2
   split at e4
   ·next hf=>
    cases e4
    cases q with
    |v p=>exact .inl ⟨p,rfl,.inr ⟨rs,e1,.v p,e3,hf,rfl⟩⟩
    |n qs=>exact .inr ⟨qs,rfl,.inr ⟨rs,e1,.n qs,e3,hf,rfl⟩⟩
   ·cases e4
noncomputable def DI (X:Cx)(tg iter:Expr)(f:FI):Prop:=ur X tg iter (DY f)
theorem fq {t t':kl}(h:ur X tg iter t)(w:∀ρ Q,t' ρ Q->t ρ Q):ur X tg iter t':=PI.weak h fun σ H Q hh_=>hh_.elim fun F ρ Qp er q k=>⟨F,ρ,Qp,er,w ρ Qp q,k⟩
theorem Fy {t u:kl}(h:ur X tg iter t)(h':ur X tg iter u):ur X tg iter (fun ρ Q=>t ρ Q\/u ρ Q):=fun pins s σ H Q I hh_=>hh_.elim fun F ρ Qp er q k=>q.elim (fun q=>h pins s σ H Q I ⟨F,ρ,Qp,er,q,k⟩) fun q=>h' pins s σ H Q I ⟨F,ρ,Qp,er,q,k⟩
noncomputable def wn (f:FE):FI:=fun ρ=>(f ρ).bind fun r=>r.fr.bind items
theorem tX (h:DE X iter f):DI X tg iter (wn f):=fq (Fy (wE h.ee) (Cb h.ee)) fun ρ Q ⟨its,e,q⟩=>by
 obtain⟨r,e1,e⟩:=Option.bind_eq_some_iff.mp e
 obtain⟨p,e2,e⟩:=Option.bind_eq_some_iff.mp e
 cases p<;>first|(cases e;done)|skip
 ·cases e;exact .inr ⟨r,_,e1,e2,q⟩
 ·cases e;exact .inl ⟨r,_,e1,e2,q⟩
 ·cases e;exact .inl ⟨r,_,e1,e2,q⟩
 ·cases e;exact .inr ⟨r,_,e1,e2,q⟩
noncomputable def Fz (i:Int):Bool:=decide (-(2 ^ 62)≤i)&&decide (i<2 ^ 62)
noncomputable def hX:List PV->Option (List PV)
 |[.int j]=>if Fz j then some (np 0 j.toNat) else none
 |_=>none
noncomputable def GF:List PV->Option (List PV)
 |[.int i,.int j]=>if Fz i&&Fz j then some (np i (j - i).toNat) else none
 |_=>none
noncomputable def hJ (g:List PV->Option (List PV))(fs:FA):FI:=fun ρ=>(fs ρ).bind fun rs=>g (rs.map RV.pv)
theorem ju {i:Int}(h:Fz i=true):-(2 ^ 62)≤i/\i<2 ^ 62:=by
 unfold Fz at h
 rw[Bool.and_eq_true,decide_eq_true_eq,decide_eq_true_eq] at h
 exact h
theorem Js (h:PI X tg iter (qv (lAT X.K (zT fs)))):DI X tg iter (hJ hX fs):=fq (wA h) fun ρ Q ⟨its,e,q⟩=>by
 obtain⟨rs,e1,e⟩:=Option.bind_eq_some_iff.mp e
 refine⟨rs,e1,?_⟩
 unfold hX at e
 split at e
 ·next j ej=>
  split at e
  ·next z=>cases e;rw[ej];exact⟨(ju z).1,(ju z).2,q⟩
  ·cases e
 ·cases e
theorem Ff (h:PI X tg iter (pS (lAT X.K (zT fs)))):DI X tg iter (hJ GF fs):=fq (xE h) fun ρ Q ⟨its,e,q⟩=>by
 obtain⟨rs,e1,e⟩:=Option.bind_eq_some_iff.mp e
 refine⟨rs,e1,?_⟩
 unfold GF at e
 split at e
 ·next i j ej=>
  split at e
  ·next z=>cases e;rw[Bool.and_eq_true] at z;rw[ej];exact⟨⟨(ju z.1).1,(ju z.1).2,(ju z.2).1,(ju z.2).2⟩,q⟩
  ·cases e
 ·cases e
noncomputable def xF (fs:FA):FI:=fun ρ=>(fs ρ).bind fun rs=>(rs.mapM RV.fr).bind fun ps=>match ps with
 |[p]=>(eF p).map (cr 0)
 |_=>none
theorem Hb (h:PI X tg iter (wI X.K (lA X.K (EI fs)))):DI X tg iter (xF fs):=fq (zf h) fun ρ Q ⟨its,e,q⟩=>by
 obtain⟨rs,e1,e⟩:=Option.bind_eq_some_iff.mp e
 obtain⟨ps,e2,e⟩:=Option.bind_eq_some_iff.mp e
 split at e
 ·next p=>
  obtain⟨qs,e3,rfl⟩:=Option.map_eq_some_iff.mp e
  exact⟨rs,_,e1,e2,dL e3 q⟩
 ·cases e
noncomputable abbrev FT:=PV->ai->Option ai
noncomputable abbrev zX:=List PV->ai->Option ai
noncomputable def qT (t:FT):nS:=fun p ρ Q=>∃ρ',t p ρ=some ρ'/\Q ρ'
noncomputable def KF (t:zX):oi:=fun p ρ Q=>∃ρ',t p ρ=some ρ'/\Q ρ'
noncomputable def gN (i:Nat):FT:=fun p ρ=>some (ρ.set i (some (.val p)))
noncomputable def g0:zX:=fun ps ρ=>match ps with
 |[]=>some ρ
 |_=>none
noncomputable def gC (t:FT)(ts:zX):zX:=fun ps ρ=>match ps with
 |p::ps=>(t p ρ).bind fun ρ'=>ts ps ρ'
 |[]=>none
theorem nE {K:PySem.W.Frag}{g0:TG}{g g':nS}(h:dO K g0 g)(w:∀p ρ Q,g' p ρ Q->g p ρ Q):dO K g0 g':=fun F H σ ρ p v Qp Q s r q k=>h F H σ ρ p v Qp Q s r (w p ρ Qp q) k
theorem kW {K:PySem.W.Frag}{g0:rb}{g g':oi}(h:gL K g0 g)(w:∀p ρ Q,g' p ρ Q->g p ρ Q):gL K g0 g':=fun F H σ ρ p v Qp Q s r q k=>h F H σ ρ p v Qp Q s r (w p ρ Qp q) k
theorem EV {K:PySem.W.Frag}{i:Nat}:dO K (dc i) (qT (gN i)):=nE AE fun p ρ Q ⟨ρ',e,q⟩=>by cases e;exact q
theorem Ln {K:PySem.W.Frag}:gL K vE (KF g0):=kW IP fun ps ρ Q ⟨ρ',e,q⟩=>by
 cases ps with
 |nil=>cases e;exact q
 |cons=>cases e
theorem Hx {K:PySem.W.Frag}{h0:TG}{t:FT}{hs0:rb}{ts:zX}(h1:dO K h0 (qT t))(h2:gL K hs0 (KF ts)):gL K (nF h0 hs0) (KF (gC t ts)):=kW (Bk h1 h2) fun ps ρ Q ⟨ρ',e,q⟩=>by
 cases ps with
 |nil=>cases e
 |cons p ps=>
  obtain⟨ρ2,e1,e2⟩:=Option.bind_eq_some_iff.mp e
  exact⟨ρ2,e1,ρ',e2,q⟩
noncomputable def m9 (n:Nat)(ts:zX):FT:=fun p ρ=>match p with
 |.tup ps=>if ps.length=n then ts ps ρ else none
 |_=>none
theorem Lx {K:PySem.W.Frag}{n:Nat}{hs0:rb}{ts:zX}(h:gL K hs0 (KF ts)):dO K (vz K n hs0) (qT (m9 n ts)):=nE (HK h) fun p ρ Q ⟨ρ',e,q⟩=>by
 unfold m9 at e
 split at e
 ·split at e
  ·next z=>exact⟨z,ρ',e,q⟩
  ·cases e
 ·cases e
noncomputable def pZ (t:FT)(c:FB)(f:FE)(ρ:ai):List PV->Option (List PV)
 |[]=>some []
 |p::ps=>(t p ρ).bind fun ρ2=>(c ρ2).bind fun b=>if b=true then (f ρ2).bind fun r=>r.fr.bind fun q=>(pZ t c f ρ ps).map fun qs=>q::qs else pZ t c f ρ ps
noncomputable def fv (fm:List (Option Nat))(it:FI)(t:FT)(c:FB)(f:FE):FE:=fun ρ=>(it ρ).bind fun its=>if its.length<1000 then (pZ t c f (fZ fm ρ) its).map .nw else none
noncomputable def pk:FB:=fun _=>some true
theorem x0 {t:FT}{c:FB}{ρ:ai}:∀{its qs acc:List PV} {Q:List PV->Prop},pZ t c f ρ its=some qs->Q (acc++qs)->JC (qT t) (wo c) (tF f) ρ its acc Q:=fun {its}=>by
 induction its with
 |nil=>intro qs acc Q e q;cases e;rw[List.append_nil] at q;exact q
 |cons p ps ih=>
  intro qs acc Q e q
  rw[pZ] at e
  obtain⟨ρ2,e1,e⟩:=Option.bind_eq_some_iff.mp e
  obtain⟨b,e2,e⟩:=Option.bind_eq_some_iff.mp e
  refine⟨ρ2,e1,b,e2,?_⟩
  cases b with
  |true=>
   rw[if_pos rfl] at e ⊢
   obtain⟨r,e3,e⟩:=Option.bind_eq_some_iff.mp e
   obtain⟨y,e4,e⟩:=Option.bind_eq_some_iff.mp e
   obtain⟨ys,e5,rfl⟩:=Option.map_eq_some_iff.mp e
   exact⟨r,y,e3,e4,ih e5 (by rw[List.append_assoc];exact q)⟩
  |false=>
   rw[if_neg Bool.false_ne_true] at e ⊢
   exact ih e q
theorem nT {fm:List (Option Nat)}{it:FI}{t:FT}{c:FB}{ρ:ai}{r:RV}(e:fv fm it t c f ρ=some r):∃ps,r=.nw ps/\mZ fm (DY it) (qT t) (wo c) (tF f) ρ (fun x=>x=ps):=by
 obtain⟨its,e1,e⟩:=Option.bind_eq_some_iff.mp e
 split at e
 ·next z=>
  obtain⟨ps,e2,rfl⟩:=Option.map_eq_some_iff.mp e
  exact⟨ps,rfl,its,e1,z,x0 e2 rfl⟩
 ·cases e
noncomputable def O6 (X:Cx)(ifs:List Expr)(c:FB):Prop:=HQ X ifs (wo c)
theorem GP:O6 X [] pk:=PIf.weak yt fun σ H Q hh_=>hh_.elim fun F ρ Qp er ⟨b,e,q⟩ k=>by cases e;exact⟨F,ρ,Qp,er,q,k⟩
theorem FM (h:DB X c ba):O6 X [c] ba:=yF h
theorem Jn {fm:List (Option Nat)}{it:FI}{h0:TG}{t:FT}{c:FB}(hg:dO X.K h0 (qT t))(h:PE X e (fD fm (lI X.K (DY it)) h0 (lB X.K (wo c)) (lE X.K (tF f)))):DE X e (fv fm it t c f):=.ofN (CO (K:=X.K) hg h) fun ρ r e=>nT e
end
end Dp
end
section
namespace Dp
open PySem PySem.Spec L2 Pu
inductive Out where
 |nx (ρ:ai)|bk (ρ:ai)|ct (ρ:ai)|rt (p:PV)|rn (ps:List PV)|bad
noncomputable abbrev FS:=ai->Out
noncomputable def Out.sat (D:PEnds):Out->Prop
 |.nx ρ=>D.nx ρ
 |.bk ρ=>D.bk ρ
 |.ct ρ=>D.ct ρ
 |.rt p=>D.rt p
 |.rn ps=>D.rn ps
 |.bad=>False
noncomputable def jF (f:FS):eS:=fun D ρ=>(f ρ).sat D
noncomputable def DS (X:Cx)(st:Stmt)(f:FS):Prop:=gZ X st (jF f)
noncomputable def zU (X:Cx)(st:List Stmt)(f:FS):Prop:=lJ X st (jF f)
section
variable {X:Cx}{e a b c tg iter:Expr}{es:List Expr}{st:Stmt}{bN:List Stmt}{pos:Pos}{f fa fb:FE}{fs:FA}{s u:FS}{i j:Nat}{ba:FB}
theorem aO {t t':eS}(h:gZ X st t)(w:∀D ρ,t' D ρ->t D ρ):gZ X st t':=PS.weak h fun D σ H hh_=>hh_.elim fun F0 H0 F ρ Dp br q ft=>⟨F0,H0,F,ρ,Dp,br,w Dp ρ q,ft⟩
theorem uF {t t':eS}(h:lJ X bN t)(w:∀D ρ,t' D ρ->t D ρ):lJ X bN t':=PSs.weak h fun D σ H hh_=>hh_.elim fun F0 H0 F ρ Dp br q ft=>⟨F0,H0,F,ρ,Dp,br,w Dp ρ q,ft⟩
theorem rj {t t':eS}(h:gZ X st t)(h':gZ X st t'):gZ X st (fun D ρ=>t D ρ\/t' D ρ):=fun pins s σ H D I hh_=>hh_.elim fun F0 H0 F ρ Dp br q ft=>q.elim (fun q=>h pins s σ H D I ⟨F0,H0,F,ρ,Dp,br,q,ft⟩) fun q=>h' pins s σ H D I ⟨F0,H0,F,ρ,Dp,br,q,ft⟩
noncomputable def aH:FS:=fun ρ=>.nx ρ
noncomputable def d8:FS:=fun _=>.bad
noncomputable def Os:FS:=fun ρ=>.bk ρ
noncomputable def Oa:FS:=fun ρ=>.ct ρ
noncomputable def al (s u:FS):FS:=fun ρ=>match s ρ with
 |.nx ρ'=>u ρ'
 |o=>o
theorem L1:zU X [] aH:=yC
theorem LP (h:DS X st s):zU X [st] s:=xt h
theorem Gz (h1:DS X st s)(h2:zU X bN u):zU X (st::bN) (al s u):=uF (vV h1 h2) fun D ρ q=>by
 unfold jF al at q
 unfold Kf jF
 cases e:s ρ with
 |nx ρ'=>rw[e] at q;exact q
 |_=>rw[e] at q;exact q
theorem HA:DS X (.Pass pos) aH:=zE
theorem Mi {x j pos pos'}:DS X (.Expr (.Constant (.str x) j pos) pos') aH:=Dl
theorem N5:DS X (.Break pos) Os:=uu
theorem Oo:DS X (.Continue pos) Oa:=zn
theorem db:DS X st d8:=aO nc fun D ρ q=>q
noncomputable def jJ (f:FE):FS:=fun ρ=>match f ρ with
 |some (.fz _)=>.nx ρ
 |_=>.bad
theorem wP (h:PS X st (iN (lE X.K (tF f)))):DS X st (jJ f):=aO (zp h) fun D ρ q=>by
 unfold jF jJ at q
 split at q
 ·next p e=>exact⟨_,_,e,rfl,q⟩
 ·exact q.elim
noncomputable def cx (f:FE):FS:=fun ρ=>match f ρ with
 |some (.fz p)=>.rt p
 |some (.nw ps)=>.rn ps
 |_=>.bad
theorem Ej (h:DE X e f):DS X (.Return (some e) pos) (cx f):=aO (rj (tI h.ee) (yv h.nn)) fun D ρ q=>by
 unfold jF cx at q
 split at q
 ·next p e=>exact .inl ⟨_,_,e,rfl,q⟩
 ·next p e=>exact .inr ⟨_,e,q⟩
 ·exact q.elim
noncomputable def eU (i:Nat):FS:=fun ρ=>match sl ρ i with
 |some (.val p)=>.rt p
 |some (.own ps)=>.rn ps
 |_=>.bad
theorem Ie (h:PE X e (iA i)):DS X (.Return (some e) pos) (eU i):=aO (rj (tI (Pa h).ee) (zt h)) fun D ρ q=>by
 unfold jF eU at q
 split at q
 ·next p e=>exact .inl ⟨.fz p,p,by unfold fV;rw[e];rfl,rfl,q⟩
 ·next p e=>refine .inr ?_;unfold Ef go;rw[dX e];exact q
 ·exact q.elim
noncomputable def fF (g:FB)(s u:FS):FS:=fun ρ=>match g ρ with
 |some true=>s ρ
 |some false=>u ρ
 |none=>.bad
theorem NE {sa sb:List Stmt}(hc:DB X c ba)(ha:zU X sa s)(hb:zU X sb u):DS X (.If c sa sb pos) (fF ba s u):=aO (FK hc ha hb) fun D ρ q=>by
 unfold jF fF at q
 split at q
 ·next e=>exact⟨true,e,q⟩
 ·next e=>exact⟨false,e,q⟩
 ·exact q.elim
noncomputable def aT (i:Nat)(f:FE):FS:=fun ρ=>match (f ρ).bind RV.fr with
 |some p=>.nx (ρ.set i (some (.val p)))
 |none=>.bad
theorem KS (h:PS X st (fU (lE X.K (tF f)) (dc i))):DS X st (aT i f):=aO (tR h) fun D ρ q=>by
 unfold jF aT at q
 split at q
 ·next p e=>
  obtain⟨r,e1,e2⟩:=Option.bind_eq_some_iff.mp e
  exact⟨r,p,e1,e2,q⟩
 ·exact q.elim
noncomputable def ia (i:Nat)(f:FE):FS:=fun ρ=>match f ρ with
 |some (.fz p)=>.nx (ρ.set i (some (.val p)))
 |some (.nw ps)=>.nx (ρ.set i (some (.own ps)))
 |_=>.bad
theorem LY (h:PS X st (fU (lE X.K (tF f)) (dc i)))(h':PS X st (fU (lN X.K (tN f)) (dc i))):DS X st (ia i f):=aO (rj (tR h) (pY h')) fun D ρ q=>by
 unfold jF ia at q
 split at q
 ·next p e=>exact .inl ⟨_,_,e,rfl,q⟩
 ·next p e=>exact .inr ⟨_,e,q⟩
 ·exact q.elim
theorem F7 {fm:List (Option Nat)}{it:FI}{h0:TG}{t:FT}{c:FB}(hg:dO X.K h0 (qT t))(h:PS X st (fU (fD fm (lI X.K (DY it)) h0 (lB X.K (wo c)) (lE X.K (tF f))) (dc i))):DS X st (aT i (fv fm it t c f)):=aO (oj hg h) fun D ρ q=>by
 unfold jF aT at q
 split at q
 ·next p e=>
  obtain⟨r,e1,e2⟩:=Option.bind_eq_some_iff.mp e
  obtain⟨ps,rfl,k⟩:=nT e1
  cases e2
  obtain⟨its,e3,hl,k⟩:=k
  refine⟨its,e3,hl,?_⟩
  obtain⟨its',e4,e5⟩:=Option.bind_eq_some_iff.mp e1
  rw[e3] at e4;cases e4
  rw[if_pos hl] at e5
  obtain⟨qs,e6,e7⟩:=Option.map_eq_some_iff.mp e5
  cases e7
  exact x0 e6 q
 ·exact q.elim
theorem Jb {fm:List (Option Nat)}{it:FI}{h0:TG}{t:FT}{c:FB}(hg:dO X.K h0 (qT t))(h:PS X st (fU (fD fm (lI X.K (DY it)) h0 (lB X.K (wo c)) (lE X.K (tF f))) (dc i))):DS X st (ia i (fv fm it t c f)):=aO (qP hg h) fun D ρ q=>by
 have key:∀r,fv fm it t c f ρ=some r->∃its ps,r=.nw ps/\it ρ=some its/\its.length<1000/\pZ t c f (fZ fm ρ) its=some ps:=fun r e1=>by
  obtain⟨its,e3,e5⟩:=Option.bind_eq_some_iff.mp e1
  split at e5
  ·next hl=>
   obtain⟨qs,e6,e7⟩:=Option.map_eq_some_iff.mp e5
   exact⟨its,qs,e7.symm,e3,hl,e6⟩
  ·cases e5
 unfold jF ia at q
 split at q
 ·next p e=>obtain⟨_,_,z,_⟩:=key _ e;cases z
 ·next p e=>
  obtain⟨its,ps,z,e3,hl,e6⟩:=key _ e
  cases z
  exact⟨its,e3,hl,x0 e6 q⟩
 ·exact q.elim
noncomputable def hZ (f:FE)(t:FT):FS:=fun ρ=>match (f ρ).bind RV.fr with
 |some p=>match t p ρ with
  |some ρ'=>.nx ρ'
  |none=>.bad
 |none=>.bad
theorem LE {h0:TG}{t:FT}(hg:dO X.K h0 (qT t))(h:PS X st (fU (lE X.K (tF f)) h0)):DS X st (hZ f t):=aO (CA hg h) fun D ρ q=>by
 unfold jF hZ at q
 split at q
 ·next p e=>
  obtain⟨r,e1,e2⟩:=Option.bind_eq_some_iff.mp e
  split at q
  ·next ρ' e3=>exact⟨r,p,e1,e2,ρ',e3,q⟩
  ·exact q.elim
 ·exact q.elim
noncomputable def iF (i j:Nat)(fs:FA):FS:=fun ρ=>match (fs ρ).bind fun rs=>rs.mapM RV.fr with
 |some [p,q]=>.nx ((ρ.set i (some (.val p))).set j (some (.val q)))
 |_=>.bad
theorem J5 (h:PS X st (sk i j (lA X.K (EI fs)))):DS X st (iF i j fs):=aO (Cf h) fun D ρ q=>by
 unfold jF iF at q
 split at q
 ·next p p' e=>
  obtain⟨r,e1,e2⟩:=Option.bind_eq_some_iff.mp e
  exact⟨r,_,e1,e2,q⟩
 ·exact q.elim
noncomputable def Jp (i:Nat)(s:FS):FS:=fun ρ=>s (frz i ρ)
theorem KD (i:Nat)(h:DS X st s):DS X st (Jp i s):=sR i h
noncomputable def ul (g:Int->Int->Int)(i:Nat)(f:FE):FS:=fun ρ=>match sl ρ i,(f ρ).bind RV.fr with
 |some (.val (.int a)),some (.int b)=>.nx (ρ.set i (some (.val (.int (g a b)))))
 |_,_=>.bad
theorem KB {g:Int->Int->Int}(h:PS X st (wv i (lE X.K (tF f)) (D4 g))):DS X st (ul g i f):=aO (Cv h) fun D ρ q=>by
 unfold jF ul at q
 split at q
 ·next a b e1 e2=>
  obtain⟨r,e3,e4⟩:=Option.bind_eq_some_iff.mp e2
  unfold GR gv
  rw[dX e1]
  exact⟨r,_,e3,e4,q⟩
 ·exact q.elim
noncomputable def kK (i:Nat)(fs:FA):FS:=fun ρ=>match sl ρ i,(fs ρ).bind fun rs=>rs.mapM RV.fr with
 |some (.own ps),some [q]=>if ps.length≤100000 then .nx (ρ.set i (some (.own (ps++[q])))) else .bad
 |_,_=>.bad
theorem Ml (h:PS X st (iN (ML X.K "list" pp (iA i) (lA X.K (EI fs))))):DS X st (kK i fs):=aO (CN h) fun D ρ q=>by
 unfold jF kK at q
 split at q
 ·next ps p e1 e2=>
  obtain⟨r,e3,e4⟩:=Option.bind_eq_some_iff.mp e2
  unfold LC go
  rw[dX e1]
  split at q
  ·next z=>exact⟨r,_,e3,e4,ND z,q⟩
  ·exact q.elim
 ·exact q.elim
noncomputable def mL (j:Nat)(fi f:FE):FS:=fun ρ=>match (f ρ).bind RV.fr,sl ρ j,(fi ρ).bind RV.fr with
 |some v,some (.own ps),some (.int k)=>match oH ps.length k with
  |some n=>.nx (ρ.set j (some (.own (ps.set n v))))
  |none=>.bad
 |_,_,_=>.bad
theorem J0 {fi:FE}(h:PS X st (fU (lE X.K (tF f)) (L2.rz (iA j) (lE X.K (tF fi)) qF))):DS X st (mL j fi f):=aO (ui h) fun D ρ q=>by
 unfold jF mL at q
 split at q
 ·next v ps k e1 e2 e3=>
  obtain⟨r,e4,e5⟩:=Option.bind_eq_some_iff.mp e1
  obtain⟨r',e6,e7⟩:=Option.bind_eq_some_iff.mp e3
  split at q
  ·next n en=>
   refine⟨r,v,e4,e5,?_⟩
   unfold go
   rw[dX e2]
   refine⟨r',_,e6,e7,?_⟩
   show OkO (oH ps.length k) _
   rw[en]
   exact q
  ·exact q.elim
 ·exact q.elim
noncomputable def bF (t:FT)(s:FS):List PV->ai->Out
 |[],ρ=>.nx ρ
 |p::ps,ρ=>match t p ρ with
  |some ρ1=>match s ρ1 with
   |.nx ρ2=>bF t s ps ρ2
   |.ct ρ2=>bF t s ps ρ2
   |.bk ρ2=>.nx ρ2
   |o=>o
  |none=>.bad
noncomputable def gJ (it:FI)(t:FT)(s:FS):FS:=fun ρ=>match it ρ with
 |some its=>bF t s its ρ
 |none=>.bad
theorem BE {t:FT}{D:PEnds}:∀{its:List PV} {ρ:ai},(bF t s its ρ).sat D->mW (qT t) (jF s) D its ρ:=fun {its}=>by
 induction its with
 |nil=>intro ρ q;exact q
 |cons p ps ih=>
  intro ρ q
  rw[bF] at q
  split at q
  ·next ρ1 e1=>
   refine⟨ρ1,e1,?_⟩
   show (s ρ1).sat _
   cases e2:s ρ1 with
   |nx ρ2=>rw[e2] at q;exact ih q
   |ct ρ2=>rw[e2] at q;exact ih q
   |bk ρ2=>rw[e2] at q;exact q
   |rt _=>rw[e2] at q;exact q
   |rn _=>rw[e2] at q;exact q
   |bad=>rw[e2] at q;exact q
  ·exact q.elim
theorem My {it:FI}{h0:TG}{t:FT}(hg:dO X.K h0 (qT t))(h:PS X st (GG (lI X.K (DY it)) h0 (lS X.K (jF s)))):DS X st (gJ it t s):=aO (B3 hg h) fun D ρ q=>by
 unfold jF gJ at q
 split at q
 ·next its e=>exact⟨its,e,BE q⟩
 ·exact q.elim
noncomputable def b5 (c:FB)(s:FS):Nat->ai->Out
 |0,_=>.bad
 |n+1,ρ=>match c ρ with
  |some true=>match s ρ with
   |.nx ρ2=>b5 c s n ρ2
   |.ct ρ2=>b5 c s n ρ2
   |.bk ρ2=>.nx ρ2
   |o=>o
  |some false=>.nx ρ
  |none=>.bad
noncomputable def gK (c:FB)(s:FS):FS:=fun ρ=>b5 c s 10000 ρ
theorem zk {c:FB}{D:PEnds}:∀{n:Nat} {ρ:ai},(b5 c s n ρ).sat D->gW (wo c) (jF s) D n ρ:=fun {n}=>by
 induction n with
 |zero=>intro ρ q;exact q
 |succ n ih=>
  intro ρ q
  rw[b5] at q
  split at q
  ·next e1=>
   refine⟨true,e1,?_⟩
   show (if true=true then (s ρ).sat _ else _)
   rw[if_pos rfl]
   cases e2:s ρ with
   |nx ρ2=>rw[e2] at q;exact ih q
   |ct ρ2=>rw[e2] at q;exact ih q
   |bk ρ2=>rw[e2] at q;exact q
   |rt _=>rw[e2] at q;exact q
   |rn _=>rw[e2] at q;exact q
   |bad=>rw[e2] at q;exact q
  ·next e1=>
   exact⟨false,e1,q⟩
  ·exact q.elim
theorem A6 {c:FB}(h:PS X st (sO (lB X.K (wo c)) (lS X.K (jF s)))):DS X st (gK c s):=aO (vG h) fun D ρ q=>⟨10000,zk q⟩
end
noncomputable def Out.res:Out->Option PR
 |.nx _=>some (.v .non)
 |.rt p=>some (.v p)
 |.rn ps=>some (.n ps)
 |_=>none
noncomputable def run (a n:Nat)(s:FS)(qs:List PV):Option PR:=if qs.length=a then (s (MW n qs)).res else none
theorem yy {o:Out}{r:PR}{Q:PR->Prop}(h:o.res=some r)(q:Q r):o.sat (PEnds.of Q):=by
 cases o<;>cases h<;>exact q
theorem LL {P:Program}{w:World}{K:PySem.W.Frag}{mg:Str->Option Value}{base:Heap}{x:Str}{st:Stmt}{N ps:List Str}{k a n:Nat}{s:FS}(F:FunD K mg x st ps)(S:FnScope N ps (ad st))
  (hb:∀(f:Addr) (cdv:Value) (A:Around) (outer:List Env) (s':Shared) (H:Hp) (E:XK),Room k (A.deeper (PyProof.Rows.envOfC x (ad st) s'.heap.objs.size f cdv))->zU (iR rf P w K mg base N x (ad st) f cdv A outer s' H E).nox (ah st) s)
  (ha:ps.length=a:=by rfl) (hn:N.length=n:=by rfl):Def P w K mg base (k+1) x ps (bq K (bR (run a n s))):=by
 subst ha hn
 refine OD F S (fun qs Q ⟨r,e,q⟩=>?_) hb fun qs Q ⟨r,e,q⟩=>?_
 ·unfold run at e
  split at e
  ·assumption
  ·cases e
 ·unfold run at e
  split at e
  ·exact yy e q
  ·cases e
theorem EW {X:Cx}{body:List Stmt}{s:FS}{N:List Str}{H:Hp}{vs:List V}{Q:VK}{E:XK}{n:Nat}(hb:zU X body s)(h:nq X.K vs H Q E)
  (hp:∀ns:List Int,ns.length≤63->run 1 n s [.src (ns.map PV.int)]=some (.v (.bl true))) (hn:N.length=n:=by rfl):∃t,PSs X body t/\t { nx:=fun _ H'=>Q .non H',rt:=Q } (L2.dn N vs) H:=by
 subst hn
 exact wb hb h fun ns hl=>by
  have this:(s (MW N.length [.src (ns.map PV.int)])).res=some (.v (.bl true)):=hp ns hl
  exact yy this rfl
end Dp
end
section
namespace Dp
open PySem PySem.Spec L2 Pu
section
variable {X:Cx}{e a b c tg iter:Expr}{es:List Expr}{st:Stmt}{bN:List Stmt}{p pos:Pos}{f fa fb:FE}{fs:FA}{s u:FS}{i j k:Nat}{ba:FB}{x:Str}{ps:List Str}{F:List PV->Option PR}
theorem Bl (d:Def X.prog X.w X.K X.mg X.base j x ps (bq X.K (bR F)))(hr:Room k X.A)(ha:DA X (e::es) fs)(hj:j≤k:=by decide)(hg:Gl X x:=by rfl)(hdb:(x==("__debug__" : Str))=false:=by decide)(he:starEach (e::es) X.env=(false,eval e X.env)::starEach es X.env:=by rfl)
  (hpl:(backTo pos (starEach es X.env)).any (·.1)=false:=by rfl):DE X (.Call (.Name x p) (e::es) [] pos) (aw F fs):=xg (pH d hr ha.f hj hg hdb he hpl) (pH d hr ha.t hj hg hdb he hpl)
noncomputable def xW (F:List PV->Option PR):FE:=fun _=>(F []).map my
theorem xj (d:Def X.prog X.w X.K X.mg X.base j x ps (bq X.K (bR F)))(hr:Room k X.A)(hj:j≤k:=by decide)(hg:Gl X x:=by rfl)(hdb:(x==("__debug__" : Str))=false:=by decide):DE X (.Call (.Name x p) [] [] pos) (xW F):=by
 have h:=vo (p:=p) (pos:=pos) d hr hj hg hdb
 have h':PE X (.Call (.Name x p) [] [] pos) (eI (bq X.K (bR F)) [] E0 (lA X.K (EI ae))):=PE.weak h fun σ H Q hh_=>hh_.elim fun F ρ Qp er ⟨rs,ps,e1,e2,q⟩ k=>by
  cases e1;cases e2
  exact k [] [] F H q (.refl er.fz) rfl
 have h2:PE X (.Call (.Name x p) [] [] pos) (eI (bq X.K (bR F)) [] E0 (lAT X.K (zT ae))):=PE.weak h fun σ H Q hh_=>hh_.elim fun F ρ Qp er ⟨rs,e1,q⟩ k=>by
  cases e1
  exact k [] [] F H q (.refl er.fz) .nil
 exact xg h' h2
theorem BO (hm:X.mg "list" = none)(ha:DA X (e::es) fs)(hc:X.calm=true:=by rfl)(hg:Gl X "list":=by rfl)(he:starEach (e::es) X.env=(false,eval e X.env)::starEach es X.env:=by rfl)(hpl:(backTo pos (starEach es X.env)).any (·.1)=false:=by rfl) :
  DE X (.Call (.Name "list" p) (e::es) [] pos) (fB eV fs):=EJ (x:="list") (p:=p) rfl (d5 oF hg hm oo ha.t (by decide) (by decide) he hpl) (d5 (mM hc) hg hm oo ha.t (by decide) (by decide) he hpl)
theorem GK {pos':Pos}(he:DE X e f)(hN:X.N.Nodup)(hi:X.N[i]?=some x)(hx:IV X.env.scope x)(hs:swapsWith e (some (.Name x pos')) pos.line X.env=pure false:=by rfl)(hf:X.fn x=true\/X.env.scope.names.lookup x=some .local:=by first|exact .inl rfl|exact .inr rfl|assumption) :
  DS X (.Assign [.Name x pos'] e pos) (ia i f):=LY (rC hN hi hx he.ee hs hf) (rC hN hi hx he.nn hs hf)
end
end Dp
end
section
namespace Pu
open PySem L2 Fo
theorem B7 {i j:Int}:eR (.int i) (.int j)=decide (i=j):=by
 simp only[eR,bQ,gD,wU,Bool.true_and]
 rw[Bool.eq_iff_iff,beq_iff_eq,decide_eq_true_iff]
theorem j2 {i j:Str}:eR (.str i) (.str j)=decide (i=j):=by
 simp only[eR,bQ,gD,wU,Bool.true_and]
 rw[Bool.eq_iff_iff,beq_iff_eq,decide_eq_true_iff]
theorem FV {i j:Bool}:eR (.bl i) (.bl j)=(i==j):=by
 simp only[eR,bQ,gD,wU,Bool.true_and]
theorem C2 {ps qs:List PV}:eR (.tup ps) (.tup qs)=eO ps qs:=by simp only[eR]
theorem Di {ps qs:List PV}:eR (.lst ps) (.lst qs)=eO ps qs:=by simp only[eR]
theorem v3 {p q:PV}{ps qs:List PV}:eO (p::ps) (q::qs)=(eR p q&&eO ps qs):=by simp only[eO]
theorem qD:eO [] []=true:=by simp only[eO]
theorem gp (us:List Nat):(nums us).length=us.length:=List.length_map ..
theorem kj:nums []=[]:=rfl
theorem cW (x:Nat)(us:List Nat):nums (x::us)=nI x::nums us:=rfl
theorem pI (us vs:List Nat):nums (us++vs)=nums us++nums vs:=List.map_append
theorem ka (us:List Nat)(i v:Nat):(nums us).set i (nI v)=nums (us.set i v):=by unfold nums;rw[List.map_set]
theorem jE:∀us:List Nat,ao (nums us)=true
 |[]=>by simp only[nums,List.map_nil,ao]
 |x::us=>by rw[cW,ao,jE us];simp only[nI,au,Bool.and_true]
theorem nr:∀us:List Nat,bw (nums us)=0
 |[]=>by simp only[nums,List.map_nil,bw]
 |x::us=>by rw[cW,bw,nr us];simp only[nI,jb,Nat.max_self]
theorem bf {n x:Nat}(h:x<n):oH n (x:Int)=some x:=by
 unfold oH
 rw[if_pos (by omega),if_pos (by omega),Int.toNat_natCast]
theorem eG {ps:List PV}{x:Nat}{p:PV}(h:ps[x]?=some p):L2.atI ps (x:Int)=some p:=by
 unfold L2.atI
 have hx:x<ps.length:=(List.getElem?_eq_some_iff.mp h).1
 rw[bf hx]
 exact h
theorem P1 {a:PV}{l:List PV}:L2.atI (a::l) (0:Int)=some a:=eG (x:=0) rfl
theorem Pl {a b:PV}{l:List PV}:L2.atI (a::b::l) (1:Int)=some b:=eG (x:=1) rfl
theorem Qh {a b c:PV}{l:List PV}:L2.atI (a::b::c::l) (2:Int)=some c:=eG (x:=2) rfl
theorem PH {a b c d:PV}{l:List PV}:L2.atI (a::b::c::d::l) (3:Int)=some d:=eG (x:=3) rfl
theorem qQ {us:List Nat}{x:Nat}(hx:x<us.length):(nums us)[x]?=some (nI (up us x)):=by
 unfold nums
 rw[List.getElem?_map,List.getElem?_eq_getElem hx]
 simp[up,hx]
theorem ag {us:List Nat}{x:Nat}(hx:x<us.length):L2.atI (nums us) (x:Int)=some (nI (up us x)):=eG (qQ hx)
theorem iK (us:List Nat)(y:Nat):L2.atI (nums (us++[y])) (-1)=some (nI y):=by
 unfold L2.atI oH
 rw[gp,List.length_append,if_neg (by decide),if_pos (by simp;omega)]
 have:(-1+((us.length+[y].length:Nat):Int)).toNat=us.length:=by simp;omega
 rw[this]
 show (nums (us++[y]))[us.length]?=_
 rw[qQ (by simp)]
 simp[up]
theorem uI {l:List Nat}(h:l≠[]):L2.atI (nums l) (-1)=some (nI (cG l)):=by
 obtain⟨us,y,rfl⟩:∃us y,l=us++[y]:=⟨l.dropLast,l.getLast h,(List.dropLast_concat_getLast h).symm⟩
 rw[iK]
 simp[cG]
theorem nK (us:List Nat)(y:Nat):nums us++[PV.int y]=nums (us++[y]):=(pI us [y]).symm
theorem bB (us:List Nat)(i v:Nat):(nums us).set i (PV.int v)=nums (us.set i v):=ka us i v
theorem AQ (n:Nat):np 0 n=nums (List.range n):=by
 unfold np nums
 exact List.map_congr_left fun i _=>by rw[nI,Int.zero_add]
theorem xK {us:List Nat}{v:PV}(h:v∈nums us):∃u∈us,v=nI u:=by
 obtain⟨u,hu,e⟩:=List.mem_map.mp h
 exact⟨u,hu,e.symm⟩
noncomputable def iL (ns:List Int):List PV:=ns.map PV.int
theorem xD (ns:List Int):(iL ns).length=ns.length:=List.length_map ..
theorem Gn {n:Nat}{lo:Int}{v:PV}(h:v∈np lo n):∃i:Int,v=.int i/\lo≤i/\i<lo+n:=by
 obtain⟨k,hk,rfl⟩:=List.mem_map.mp h
 have:=List.mem_range.mp hk
 exact⟨lo+k,rfl,by omega,by omega⟩
theorem tD (lo:Int)(n:Nat):(np lo n).length=n:=by simp[np]
theorem Mu {i:Int}(h:0≤i):PV.int i=nI i.toNat:=by rw[nI,Int.toNat_of_nonneg h]
theorem ED (ns:List Int)(lo hi:Option Int):cut (iL ns) lo hi=iL (cut ns lo hi):=by
 unfold cut iL
 rw[List.length_map,List.map_take,List.map_drop]
theorem zy (ns:List Nat)(lo hi:Option Int):cut (nums ns) lo hi=nums (cut ns lo hi):=by
 unfold cut nums
 rw[List.length_map,List.map_take,List.map_drop]
end Pu
namespace Fo
open PySem L2
structure Left (y:Str)(us:List Nat)(x h:Nat)(us':List Nat)(n:Nat)(l:List Nat):Prop where
 way:Way us x l
 hd:h=cG l
 st:n+1≤l.length
 BV:y ≠ "halves"->n+1=l.length
 sh:Shorter us us'
 off:∀t,t<us.length->t∉l->up us' t=up us t
 no:y = "none"->us'=us
theorem r0 {us:List Nat}(f:Fst us){t:Nat}(ht:t<us.length):(up us t=t/\up us (up us t)=t)\/(up us t≠t/\∃l,Way us (up us t) l/\up us (up us t)∈l):=by
 by_cases e:up us t=t
 ·exact .inl ⟨e,by rw[e,e]⟩
 ·obtain⟨l,w,_⟩:=f.way (f.bnd t ht)
  exact .inr ⟨e,l,w,w.closed _ w.mem_self⟩
theorem RM.left {y:Str}{us:List Nat}{x h:Nat}{us':List Nat}{n:Nat}(f:Fst us)(hx:x<us.length)(r:RM y us x h us' n):∃l,Left y us x h us' n l:=by
 have self:=Shorter.refl f
 cases r with
 |none r=>
  obtain⟨rfl,l,w,e,hn⟩:=r
  exact⟨l,w,e,by omega,fun _=>hn,self,fun _ _ _=>rfl,fun _=>rfl⟩
 |whole r=>
  obtain⟨l,w,e,hn,len,hu⟩:=r
  refine⟨l,w,e,by omega,fun _=>hn,⟨len,fun t ht=>?_⟩,fun t ht hm=>by rw[hu,if_neg hm],fun z=>absurd z (by decide)⟩
  rw[hu]
  by_cases hm:t∈l
  ·rw[if_pos hm]
   obtain⟨l2,w2,e2,_,_⟩:=w.later t hm
   cases w2 with
   |head q=>exact .inl ⟨q,by rw[e,←e2];rfl⟩
   |step q w3=>exact .inr ⟨q,_,w3,by rw[e,←e2,bA w3.ne];exact iM w3.ne⟩
  ·rw[if_neg hm];exact self.up t ht
 |halves r=>
  obtain⟨l,w,e,hn,len,hu⟩:=r
  have pos:=w.pos
  refine⟨l,w,e,by omega,fun z=>absurd rfl z,⟨len,fun t ht=>?_⟩,fun t ht hm=>by rw[hu,if_neg fun q=>hm (gO l t q)],fun z=>absurd z (by decide)⟩
  rw[hu]
  by_cases hm:t∈fw l
  ·rw[if_pos hm];exact r0 f ht
  ·rw[if_neg hm];exact self.up t ht
 |splits r=>
  obtain⟨l,w,e,hn,len,hu⟩:=r
  refine⟨l,w,e,by omega,fun _=>hn,⟨len,fun t ht=>?_⟩,fun t ht hm=>by rw[hu,if_neg hm],fun z=>absurd z (by decide)⟩
  rw[hu]
  by_cases hm:t∈l
  ·rw[if_pos hm];exact r0 f ht
  ·rw[if_neg hm];exact self.up t ht
 |one r=>
  obtain⟨rfl,l,w,e,hn⟩:=r
  refine⟨l,w,e,by omega,fun _=>hn,⟨by rw[List.length_set],fun t ht=>?_⟩,fun t ht hm=>by rw[aJ hx,if_neg fun q=>hm (by rw[q];exact w.mem_self)],fun z=>absurd z (by decide)⟩
  rw[aJ hx]
  by_cases hm:t=x
  ·rw[if_pos hm,hm];exact r0 f hx
  ·rw[if_neg hm];exact self.up t ht
theorem zB {us vs:List Nat}(h:us.length=vs.length)(e:∀t,up us t=up vs t):us=vs:=by
 apply List.ext_getElem h
 intro i h1 h2
 have:=e i
 simpa [up,h1,h2] using this
theorem RM.frst {y:Str}{us:List Nat}{x h:Nat}{us':List Nat}{n:Nat}(f:Frst us)(hx:x<us.length)(r:RM y us x h us' n):Frst us'/\us'.length=us.length:=by
 obtain⟨l,L⟩:=r.left f.fst hx
 have e:=L.sh.len
 exact⟨⟨by rw[e];exact f.one,by rw[e];exact f.most,L.sh.fst f.fst⟩,e⟩
end Fo
namespace Pu
open PySem L2 Fo
end Pu
end
section
namespace Dp
open PySem PySem.Spec L2 Pu
section
variable {X:Cx}{e a b c tg iter:Expr}{es:List Expr}{st:Stmt}{bN:List Stmt}{p pos:Pos}{f fa fb:FE}{fs:FA}{s u:FS}{i j k:Nat}{ba:FB}{x:Str}
noncomputable def Hd (f:FE):FE:=fun ρ=>(f ρ).bind fun r=>(eF r.pv).map fun ps=>.nw ps.reverse
theorem J2 {j1}{p2 p3 p4:Pos}(ha:DE X a fa):DE X (.Subscript a (.Slice none none (some (.UnaryOp .USub (.Constant (.int 1) j1 p3) p4)) p2) pos) (Hd fa):=
 .ofN (tn:=fun ρ Q=>tT fa ρ fun x=>OkL x fun ps=>Q ps.reverse) (PE.weak (Cz ha.tt (D9 xV y1)) fun σ H Q hh_=>hh_.elim fun F ρ Qp er q k=>⟨F,ρ,_,er,q,fun p v F1 H1 q1 g1 r1=>by
   obtain⟨a,vs,ps,rfl,hs,rs,q⟩:=OkL.rd q1 g1.fh r1
   exact⟨1,rfl,rfl,a,vs,rfl,hs,fun p hp=>k _ p _ F1 _ q (g1.trans (.newO g1.fh hp _)) (g1.hh.free hp) (g1.fh.free hp) ak rs.rev⟩⟩) fun ρ r e=>by
  obtain⟨x,e1,e2⟩:=Option.bind_eq_some_iff.mp e
  obtain⟨ps,e3,rfl⟩:=Option.map_eq_some_iff.mp e2
  exact⟨_,rfl,x,e1,dL e3 rfl⟩
noncomputable def qe:List Int->Int
 |[]=>0
 |[i]=>i
 |i::j::l=>max i (qe (j::l))
noncomputable def pE:List Int->Int
 |[]=>0
 |[i]=>i
 |i::j::l=>min i (pE (j::l))
theorem ub:∀{l:List Int},0<l.length->qe l∈l/\∀a∈l,a≤qe l
 |[i],_=>by simp[qe]
 |i::j::l,_=>by
  obtain⟨h1,h2⟩:=ub (l:=j::l) (by simp)
  rw[qe]
  refine⟨?_,fun a ha=>?_⟩
  ·by_cases h:i≤qe (j::l)
   ·rw[Int.max_eq_right h];exact List.mem_cons_of_mem _ h1
   ·rw[Int.max_eq_left (by omega)];exact List.mem_cons_self
  ·rcases List.mem_cons.mp ha with rfl|ha
   ·exact Int.le_max_left _ _
   ·exact Int.le_trans (h2 a ha) (Int.le_max_right _ _)
theorem tW:∀{l:List Int},0<l.length->pE l∈l/\∀a∈l,pE l≤a
 |[i],_=>by simp[pE]
 |i::j::l,_=>by
  obtain⟨h1,h2⟩:=tW (l:=j::l) (by simp)
  rw[pE]
  refine⟨?_,fun a ha=>?_⟩
  ·by_cases h:i≤pE (j::l)
   ·rw[Int.min_eq_left h];exact List.mem_cons_self
   ·rw[Int.min_eq_right (by omega)];exact List.mem_cons_of_mem _ h1
  ·rcases List.mem_cons.mp ha with rfl|ha
   ·exact Int.min_le_left _ _
   ·exact Int.le_trans (Int.min_le_right _ _) (h2 a ha)
noncomputable def kL (g:List Int->Int):List PV->Option RV
 |[p]=>(eF p).bind fun ps=>(cC ps).bind fun is=>if is.length=0 then none else some (.fz (.int (g is)))
 |_=>none
noncomputable def mU:=kL qe
noncomputable def wX:=kL pE
noncomputable def cL (R:List Int->Int->Prop):pQ:=fun ps Q=>One ps fun p=>OkL p fun ps=>∃is,cC ps=some is/\0<is.length/\∀M,R is M->Q (.int M)
theorem Lh {R:List Int->Int->Prop}:iz X.K (fun xs H Q=>∃(p:Addr) (ns:List Int),xs=[.ref p]/\SqL X.K H p (ns.map V.int)/\0<ns.length/\∀M,R ns M->Q (.int M) H) (cL R):=fun F H xs ps Qp Q s r h k=>by
 obtain⟨p,v,rfl,rfl,r,h⟩:=h.rd r
 obtain⟨a,vs,ps,rfl,hs,rs,is,e,hl,h⟩:=h.rd s r
 rw[gR e] at rs
 rw[gq rs] at hs
 exact⟨a,is,rfl,hs,hl,fun M hM=>k _ _ F H (h M hM) (.refl s) rfl⟩
theorem DL {g:List Int->Int}{R:List Int->Int->Prop}(hg:∀is M,R is M->0<is.length->M=g is):∀ps r,kL g ps=some r->∃p,r=.fz p/\cL R ps (fun z=>z=p):=fun ps r h=>by
 unfold kL at h
 split at h
 ·obtain⟨qs,e1,h⟩:=Option.bind_eq_some_iff.mp h
  obtain⟨is,e2,h⟩:=Option.bind_eq_some_iff.mp h
  split at h
  ·cases h
  ·next z=>cases h;exact⟨_,rfl,dL e1 ⟨is,e2,by omega,fun M hM=>by rw[hg is M hM (by omega)]⟩⟩
 ·cases h
theorem Gm (hm:X.mg "max" = none)(ha:DA X (e::es) fs)(hc:X.calm=true:=by rfl)(hg:Gl X "max":=by rfl)(he:starEach (e::es) X.env=(false,eval e X.env)::starEach es X.env:=by rfl)(hpl:(backTo pos (starEach es X.env)).any (·.1)=false:=by rfl) :
  DE X (.Call (.Name "max" p) (e::es) [] pos) (fB mU fs):=iY (Lh (R:=fun is M=>M∈is/\∀a∈is,a≤M)) (DL fun is M h hl=>by
   obtain⟨h1,h2⟩:=ub hl
   exact Int.le_antisymm (h2 M h.1) (h.2 _ h1)) (PE.weak (bO (vi hc) hg hm ye ha.t (by decide) (by decide) he hpl) fun σ H Q hh_=>hh_.elim fun F ρ Qp er q k=>⟨F,ρ,Qp,er,q,fun ps vs F' H' h1 g r=>by
   obtain⟨p,ns,e1,e2,e3,e4⟩:=k ps vs F' H' h1 g r
   exact⟨p,ns,e1,e2,e3,fun M h h'=>e4 M ⟨h,h'⟩⟩⟩)
theorem Ho (hm:X.mg "min" = none)(ha:DA X (e::es) fs)(hc:X.calm=true:=by rfl)(hg:Gl X "min":=by rfl)(he:starEach (e::es) X.env=(false,eval e X.env)::starEach es X.env:=by rfl)(hpl:(backTo pos (starEach es X.env)).any (·.1)=false:=by rfl) :
  DE X (.Call (.Name "min" p) (e::es) [] pos) (fB wX fs):=iY (Lh (R:=fun is M=>M∈is/\∀a∈is,M≤a)) (DL fun is M h hl=>by
   obtain⟨h1,h2⟩:=tW hl
   exact Int.le_antisymm (h.2 _ h1) (h2 M h.1)) (PE.weak (bO (vP hc) hg hm yi ha.t (by decide) (by decide) he hpl) fun σ H Q hh_=>hh_.elim fun F ρ Qp er q k=>⟨F,ρ,Qp,er,q,fun ps vs F' H' h1 g r=>by
   obtain⟨p,ns,e1,e2,e3,e4⟩:=k ps vs F' H' h1 g r
   exact⟨p,ns,e1,e2,e3,fun M h h'=>e4 M ⟨h,h'⟩⟩⟩)
noncomputable def rP:List PV->Option RV
 |[p]=>(eF p).bind fun ps=>(cC ps).map fun is=>.fz (.int is.sum)
 |_=>none
noncomputable def Ke:pQ:=fun ps Q=>One ps fun p=>OkL p fun ps=>∃is,cC ps=some is/\Q (.int is.sum)
theorem EQ:iz X.K (fun xs H Q=>∃(p:Addr) (ns:List Int),xs=[.ref p]/\SqL X.K H p (ns.map V.int)/\Q (.int ns.sum) H) Ke:=fun F H xs ps Qp Q s r h k=>by
 obtain⟨p,v,rfl,rfl,r,h⟩:=h.rd r
 obtain⟨a,vs,ps,rfl,hs,rs,is,e,h⟩:=h.rd s r
 rw[gR e] at rs
 rw[gq rs] at hs
 exact⟨a,is,rfl,hs,k _ _ F H h (.refl s) rfl⟩
theorem AW:∀ps r,rP ps=some r->∃p,r=.fz p/\Ke ps (fun z=>z=p):=fun ps r h=>by
 unfold rP at h
 split at h
 ·obtain⟨qs,e1,h⟩:=Option.bind_eq_some_iff.mp h
  obtain⟨is,e2,rfl⟩:=Option.map_eq_some_iff.mp h
  exact⟨_,rfl,dL e1 ⟨is,e2,rfl⟩⟩
 ·cases h
theorem J3 (hm:X.mg "sum" = none)(ha:DA X (e::es) fs)(hc:X.calm=true:=by rfl)(hg:Gl X "sum":=by rfl)(he:starEach (e::es) X.env=(false,eval e X.env)::starEach es X.env:=by rfl)(hpl:(backTo pos (starEach es X.env)).any (·.1)=false:=by rfl) :
  DE X (.Call (.Name "sum" p) (e::es) [] pos) (fB rP fs):=iY EQ AW (bO (ut hc) hg hm PyProof.Rows.boot_sum ha.t (by decide) (by decide) he hpl)
noncomputable def oG (g:Int->Int->Int)(j:Nat)(fi f:FE):FS:=fun ρ=>match sl ρ j,(fi ρ).bind RV.fr,(f ρ).bind RV.fr with
 |some (.own ps),some (.int k),some (.int b)=>if 0≤k then (match ps[k.toNat]? with
  |some (.int a)=>.nx (ρ.set j (some (.own (ps.set k.toNat (.int (g a b))))))
  |_=>.bad) else .bad
 |_,_,_=>.bad
theorem BF {g:Int->Int->Int}{o ix e:Expr}{fi:FE}{op:Operator}{tpos:Pos}(ho:PE X o (iA j))(hi:DE X ix fi)(he:DE X e f)(hp:Ju X op (D4 g))
  (ha:∀ov iv new,augStore ix ov iv new=(do holding [new,ov,iv] (setItem ov iv new);release [new,ov,iv] [];pure .next):=by intros;rfl):DS X (.AugAssign (.Subscript o ix tpos) op e pos) (oG g j fi f):=
 PS.weak (A3 ho hi.ee wG he.ee hp p5 ha) fun D σ H hh_=>hh_.elim fun F0 H0 F ρ Dp br h ft=>by
  unfold jF oG at h
  split at h
  ·next ps k b e1 e2 e3=>
   split at h
   ·next k0=>
    split at h
    ·next a0 ea=>
     obtain⟨r1,e4,e5⟩:=Option.bind_eq_some_iff.mp e2
     obtain⟨r2,e6,e7⟩:=Option.bind_eq_some_iff.mp e3
     obtain⟨a,vs,ev,ow,k1,k2,k3⟩:=br.ownAt (dX e1)
     refine⟨_,ev,F,ρ,_,br.er,⟨r1,_,e4,e5,rfl⟩,fun q w F1 H1 hq g1 rr=>?_⟩
     subst hq
     cases (show w=.int k from rr)
     have kk:=g1.keep k2 k1
     have hlt:k.toNat<ps.length:=(List.getElem?_eq_some_iff.mp ea).1
     obtain⟨v,ev2,rv⟩:=k3.get ea
     cases (show v=.int a0 from rv)
     have hix:oH vs.length k=some k.toNat:=by
      have:=bf (n:=vs.length) (x:=k.toNat) (by rw[k3.length];exact hlt)
      rwa [Int.toNat_of_nonneg k0] at this
     refine⟨a,vs,k,.int a0,rfl,rfl,k0,SqL.of kk.2,?_,?_⟩
     ·unfold L2.atI;rw[hix];exact ev2
     ·refine⟨F1,ρ,_,br.er.grow g1,⟨r2,_,e6,e7,rfl⟩,fun q w F2 H2 hq g2 rr=>?_⟩
      subst hq
      cases (show w=.int b from rr)
      have kk2:=g2.keep kk.1 kk.2
      refine⟨a0,b,rfl,rfl,a,vs,k,k.toNat,rfl,rfl,kk2.2,hix,?_⟩
      have g12:=g1.trans g2
      exact ft.nx F2 _ σ _ h ((br.grow g12).mut (s:=.own _) ow rfl ⟨a,_,rfl,ak,kk2.1,(k3.mono g12.ff).set (show Rep X.K F2 (.int (g a0 b)) (.int (g a0 b)) from rfl) k.toNat⟩)
    ·exact h.elim
   ·exact h.elim
  ·exact h.elim
end
end Dp
end
section
namespace Fo
open PySem
noncomputable def xQ (us:List Nat):Nat->Nat->List Nat
 |0,x=>[x]
 |n+1,x=>if up us x=x then [x] else x::xQ us n (up us x)
noncomputable def way (us:List Nat)(x:Nat):List Nat:=xQ us us.length x
theorem Do {us:List Nat}{x:Nat}{l:List Nat}(w:Way us x l):∀{n:Nat},l.length≤n+1->xQ us n x=l:=by
 induction w with
 | @head x e=>
  intro n h
  cases n with
  |zero=>rfl
  |succ n=>rw[xQ,if_pos e]
 | @step x l ne w ih=>
  intro n h
  cases n with
  |zero=>have:=w.pos;rw[List.length_cons] at h;omega
  |succ n=>rw[xQ,if_neg ne,ih (by simpa using h)]
theorem iu {us:List Nat}{x:Nat}{l:List Nat}(f:Fst us)(hx:x<us.length)(w:Way us x l):way us x=l:=by
 obtain⟨l',w',h⟩:=f.way hx
 cases w.det w'
 exact Do w (by omega)
theorem bL {us:List Nat}{x:Nat}(f:Fst us)(hx:x<us.length):Way us x (way us x):=by
 obtain⟨l,w,_⟩:=f.way hx
 rw[iu f hx w];exact w
theorem oq {us:List Nat}{x:Nat}(f:Fst us)(hx:x<us.length):(way us x).length≤us.length:=by
 obtain⟨l,w,h⟩:=f.way hx
 rw[iu f hx w];exact h
noncomputable def hd (us:List Nat)(x:Nat):Nat:=cG (way us x)
noncomputable def dp (us:List Nat)(x:Nat):Nat:=(way us x).length - 1
noncomputable def jL (y:Str)(us:List Nat)(x t:Nat):Nat:=
 if y = "whole" then (if t∈way us x then hd us x else up us t)
 else if y = "halves" then (if t∈fw (way us x) then up us (up us t) else up us t)
 else if y = "splits" then (if t∈way us x then up us (up us t) else up us t)
 else if y = "one" then (if t=x then up us (up us t) else up us t)
 else up us t
noncomputable def du (y:Str)(us:List Nat)(x:Nat):List Nat:=(List.range us.length).map (jL y us x)
noncomputable def nP (y:Str)(us:List Nat)(x:Nat):Nat:=if y = "halves" then (way us x).length / 2 else dp us x
theorem j8 {us:List Nat}{t:Nat}(h:us.length≤t):up us t=0:=by
 unfold up;rw[List.getD_eq_getElem?_getD,List.getElem?_eq_none h];rfl
theorem cB (y:Str)(us:List Nat)(x:Nat):(du y us x).length=us.length:=by unfold du;rw[List.length_map,List.length_range]
theorem kP {y:Str}{us:List Nat}{x t:Nat}(h:t<us.length):up (du y us x) t=jL y us x t:=by
 unfold up du
 rw[List.getD_eq_getElem?_getD,List.getElem?_map,List.getElem?_range h];rfl
theorem iE {y:Str}{us us':List Nat}{x:Nat}(hl:us'.length=us.length)(h:∀t,t<us.length->up us' t=jL y us x t):us'=du y us x:=by
 refine zB (by rw[hl,cB]) fun t=>?_
 by_cases ht:t<us.length
 ·rw[h t ht,kP ht]
 ·rw[j8 (by omega),j8 (by rw[cB];omega)]
end Fo
namespace Dp
open PySem L2 Pu Fo
noncomputable def cy (qs:List PV):Option PR:=match qs with
 |[.str y]=>some (.v (.bl (decide (y∈bg))))
 |_=>none
section
variable {P:Program}{w:World}{K:PySem.W.Frag}{mg:Str->Option Value}{base:Heap}{k:Nat}{ps:List Str}{x:Str}
theorem CI {φ ψ:vh}(h:∀qs Q,ψ qs Q->φ qs Q)(d:Def P w K mg base k x ps (bq K φ)):Def P w K mg base k x ps (bq K ψ):=Pu.Def.imp d fun vs H Q E ⟨F,qs,Qp,s,r,q,z⟩=>⟨F,qs,Qp,s,r,h qs Qp q,z⟩
theorem q0 (d:Def P w K mg base k x ps (bq K ll)):Def P w K mg base k x ps (bq K (bR cy)):=CI (fun qs Q ⟨r,e,q⟩=>by
 unfold cy at e
 split at e
 ·cases e;exact⟨_,rfl,q⟩
 ·cases e) d
end
theorem rG (y:Str):cy [.str y]=some (.v (.bl (decide (y∈bg)))):=rfl
end Dp
namespace Lo
open PySem Fo Pu
end Lo
namespace Dp
open PySem L2 Pu Fo Lo
end Dp
end
section
namespace Fo
open PySem L2
theorem fL {us:List Nat}{x t:Nat}(f:Fst us)(hx:x<us.length)(h:t∈way us x):t<us.length:=(bL f hx).lt f.bnd hx t h
theorem wz {us:List Nat}(f:Fst us){x:Nat}(hx:x<us.length){y:Str}(hy:y∈bg):RM y us x (hd us x) (du y us x) (nP y us x):=by
 have w:=bL f hx
 have pos:=w.pos
 have low:∀t,us.length≤t->up (du y us x) t=0/\up us t=0/\t∉way us x:=fun t ht=>⟨j8 (by rw[cB];omega),j8 ht,fun q=>by have:=fL f hx q;omega⟩
 have hdp:dp us x+1=(way us x).length:=by unfold dp;omega
 rcases (show y = "none"\/y = "whole"\/y = "halves"\/y = "splits"\/y = "one" by simpa [bg] using hy) with rfl|rfl|rfl|rfl|rfl
 ·exact .none ⟨(iE rfl fun t ht=>rfl).symm,_,w,rfl,hdp⟩
 ·refine .whole ⟨_,w,rfl,hdp,cB ..,fun t=>?_⟩
  by_cases ht:t<us.length
  ·rw[kP ht];rfl
  ·obtain⟨a,b,c⟩:=low t (by omega)
   rw[a,b,if_neg c]
 ·refine .halves ⟨_,w,rfl,rfl,cB ..,fun t=>?_⟩
  by_cases ht:t<us.length
  ·rw[kP ht];rfl
  ·obtain⟨a,b,c⟩:=low t (by omega)
   rw[a,b,if_neg fun q=>c (gO _ _ q)]
 ·refine .splits ⟨_,w,rfl,hdp,cB ..,fun t=>?_⟩
  by_cases ht:t<us.length
  ·rw[kP ht];rfl
  ·obtain⟨a,b,c⟩:=low t (by omega)
   rw[a,b,if_neg c]
 ·refine .one ⟨(iE (List.length_set) fun t ht=>?_).symm,_,w,rfl,hdp⟩
  rw[aJ hx]
  show (if t=x then up us (up us x) else up us t)=if t=x then up us (up us t) else up us t
  by_cases q:t=x
  ·rw[if_pos q,if_pos q,q]
  ·rw[if_neg q,if_neg q]
theorem i8 {us:List Nat}(f:Frst us){x:Nat}(hx:x<us.length){y:Str}(hy:y∈bg):Frst (du y us x):=((wz f.fst hx hy).frst f hx).1
theorem pA {us:List Nat}{x:Nat}(f:Fst us)(hx:x<us.length)(e:up us x=x):way us x=[x]:=iu f hx (.head e)
theorem pF {us:List Nat}{x:Nat}(f:Fst us)(hx:x<us.length)(e:up us x≠x):way us x=x::way us (up us x):=iu f hx (.step e (bL f (f.bnd x hx)))
theorem cQ {us:List Nat}{x:Nat}(f:Fst us)(hx:x<us.length)(e:up us x=x):hd us x=x:=by unfold hd;rw[pA f hx e];rfl
theorem Au {us:List Nat}{x:Nat}(f:Fst us)(hx:x<us.length)(e:up us x≠x):hd us x=hd us (up us x):=by
 unfold hd
 rw[pF f hx e,bA (bL f (f.bnd x hx)).ne]
theorem K5 {us:List Nat}{x:Nat}(f:Fst us)(hx:x<us.length):hd us (up us x)=hd us x:=by
 by_cases e:up us x=x
 ·rw[e]
 ·exact (Au f hx e).symm
theorem tJ {us:List Nat}{x:Nat}(f:Fst us)(hx:x<us.length):up us (hd us x)=hd us x:=(bL f hx).head_last
theorem kN {us:List Nat}{x:Nat}(f:Fst us)(hx:x<us.length):hd us x<us.length:=fL f hx (iM (bL f hx).ne)
theorem x8 {us:List Nat}(f:Fst us){x:Nat}(hx:x<us.length){y:Str}(hy:y∈bg){t:Nat}(ht:t<us.length):hd (du y us x) t=hd us t/\dp (du y us x) t≤dp us t:=by
 obtain⟨l,L⟩:=(wz f hx hy).left f hx
 obtain⟨l',w',e1,e2⟩:=L.sh.way f ht (bL f ht)
 have f':=L.sh.fst f
 have:=iu f' (by rw[cB];exact ht) w'
 unfold hd dp
 rw[this]
 exact⟨e1,by omega⟩
end Fo
end
section
namespace L2
open PySem PyProof.Rows PySem.W
section
variable {n:Nat}{lt:Nat->Nat->Bool}{p:Array Nat}
end
end L2
end
section
namespace L2
open PySem PySem.Spec PyProof.Rows PySem.W
noncomputable def mO (is:List Int):List Int:=is.mergeSort fun a b=>decide (a≤b)
theorem jz (is:List Int):(mO is).Perm is:=List.mergeSort_perm ..
theorem CS (is:List Int):(mO is).Pairwise (·≤·):=by
 have:=List.pairwise_mergeSort (le:=fun a b:Int=>decide (a≤b)) (fun a b c h1 h2=>by simp only[decide_eq_true_eq] at *;omega) (fun a b=>by simp only[Bool.or_eq_true,decide_eq_true_eq];omega) is
 exact this.imp fun h=>by simpa using h
theorem tV {is js:List Int}(p:js.Perm is)(u:js.Pairwise (·≤·)):js=mO is:=
 List.Perm.eq_of_pairwise (fun a b _ _ h1 h2=>Int.le_antisymm h1 h2) u (CS is) (p.trans (jz is).symm)
theorem iO:∀{is:List Int} {vs:List Value},Vals (is.map V.int) vs->IntsAre vs is
 |[],_,r=>by cases r;exact .nil
 |i::is,_,r=>by
  cases r with
  |cons r1 r2=>obtain⟨t,rfl⟩:=r1;exact .cons i t (iO r2)
theorem pc {is:List Int}{vs:List Value}(h:IntsAre vs is):Vals (is.map V.int) vs:=by
 induction h with
 |nil=>exact .nil
 |cons n t _ ih=>exact .cons ⟨t,rfl⟩ ih
theorem rp {prog:Program}{w:World}{A:Around}{E:Value->Shared->Prop}{s:Shared}{p:Addr}{T:String}{o:Obj}{vs:List Value}{n:Nat}{is:List Int}{Q:Value->Shared->Prop}(hT:T = "list"\/T = "tuple")
  (ho:s.heap.get? p=some o) (hc:o.cls=.type T) (hd:o.data=.seq vs.toArray n) (hi:IntsAre vs is) (h64:vs.length<64)
  (h:∀(h1 h':Heap) (D:Addr) (out:List Value) (js:List Int) (e:Nat),(∀b u,s.heap.get? b=some u->h1.get? b=some u)->(∀b u,h1.get? b=some u->h'.get? b=some u)->h1.objs.size≤D->h'.get? D=some (seqObj "list" out.toArray e)->IntsAre out js->js.Perm is->js.Pairwise (·≤·)->Q (.ref D) { s with heap:=h' }) :
  wpAny (model prog w) A (call (.builtin "sorted") [.ref p]) Q E s:=by
 refine Calls.call_function_entry kind_sorted plain_sorted entry_sorted (args_sorted1 _) ?_
 unfold Builtin.«sorted»
 refine wpAny_bind (m:=checkCount "sorted" 1 1 _) (wpAny_pure (wpAny_bind (wpAny_collect_seq p hT ho hc hd (fun h' keep=>wpAny_bind (wpAny_newList ?_ (by show vs.length≤_;rw[sizeLine_eq];omega))) (by rw[List.size_toArray,sizeLine_eq];omega))))
 have hoL:(h'.push (seqObj "list" vs.toArray 0)).get? h'.objs.size=some (seqObj "list" vs.toArray 0):=Heap.get?_push_size _ rfl
 show wpAny _ _ _ _ _ { s with heap:=h'.push (seqObj "list" vs.toArray 0) }
 refine wpAny_bind (wpAny_holding (wpAny_call_entry slot_list_sort ⟨_,hoL,rfl⟩ entry_list_sort (list_sort_tree hoL hi h64 fun out ns h1 h2 h3=>⟨_,rfl,?_⟩) (args_list_sort _)))
 obtain⟨e,he⟩:=sortedHeap_at (vs:=vs) (out:=out) hoL
 exact wpAny_pure ⟨_,rfl,h h' _ _ out.toList ns e keep (fun b u z1=>by
  have z2:=Heap.get?_push_of_some (seqObj "list" vs.toArray 0) z1
  rw[sortedHeap_old (Nat.ne_of_lt (Heap.lt_size z1)) (Heap.lt_size z2)];exact z2) (Nat.le_refl _) (by rw[he]) h1 h2 h3⟩
theorem oR {X:Cx}:cO X (.builtin "sorted") (fun xs H Q=>∃p is,xs=[.ref p]/\(SqL X.K H p (is.map V.int)\/SqT X.K H p (is.map V.int))/\is.length<64/\∀l,H l=none->Q (.ref l) (upd H l (.lst ((mO is).map V.int)))):=by
 intro pins s σ H xs us Q I r h
 obtain⟨p,is,rfl,hq,h64,q⟩:=h
 obtain⟨u,rfl,rx⟩:=dR r
 cases rx
 have main:∀(its:List Value) (T:String) (o:Obj) (n:Nat),(T = "list"\/T = "tuple")->s.heap.get? p=some o->o.cls=.type T->o.data=.seq its.toArray n->Vals (is.map V.int) its →
   wpAny (model X.prog X.w) X.A (call (.builtin "sorted") [.ref p]) (EP X pins σ Q) X.xe s:=fun its T o n hT ho hc hd rv=>by
  have hl:=rv.length
  rw[List.length_map] at hl
  refine rp hT ho hc hd (iO rv) (by omega) fun h1 h' D out js e k1 k2 hD hh hi hp hu=>?_
  rw[tV hp hu] at hi
  have r2:=pc hi
  have hz:((mO is).map V.int).length≤sizeLine:=by rw[List.length_map,(jz is).length_eq,sizeLine_eq];omega
  have I1:Inv X pins σ H { s with heap:=h1 }:=I.kept (t':=s.toks) k1
  exact⟨.ref D,_,I1.laid (t':=s.toks) k2 hD (show ObjOk X.prog X.w _ _ _ (.lst _) from⟨hz,out,e,r2,hh⟩),rfl,q _ (I1.hok.fresh hD)⟩
 rcases hq with hq|hq
 ·obtain⟨its,rv,⟨o,n,h1,h2,_,h3⟩,_⟩:=I.list hq
  exact main its "list" o n (.inl rfl) h1 h2 h3 rv
 ·obtain⟨its,rv,⟨o,h1,h2,n,h3⟩,_⟩:=I.tuple hq
  exact main its "tuple" o n (.inr rfl) h1 h2 h3 rv
end L2
end
section
namespace L2
open PySem PySem.Spec PyProof.Rows PySem.W
section
variable {prog:Program}{w:World}{A:Around}{E:Value->Shared->Prop}{s:Shared}
noncomputable abbrev wx (a c:Int):Nat->Value->Prop:=fun i v=>∃t,v=.int (a+i * c) t
theorem ql {Q:List Value->Shared->Prop}{r:Addr}{a b c:Int}{t u v:Tok}{n:Nat}(hh:A.handled=none)(hr:IsRange s.heap r a b c t u v)(h1:Builtin.Range.small a b c=true)(h2:Builtin.Range.rangeSize a b c=n)(h3:n≤2 ^ 24)
  (hQ:∀h' tk acc,(∀x o,s.heap.get? x=some o->h'.get? x=some o)->ItemsOf (wx a c) acc n->Q acc.toList { s with heap:=h',toks:=tk }):wpAny (model prog w) A (collect (.ref r)) Q E s:=by
 unfold collect;refine wpAny_bind (wpAny_runValue (codeAny_builtin F.entry_proto_collect ?_));rw[Around.under_plainId F.plain_proto_collect _]
 show wpAny _ A.in1 (newList [] >>= fun z=>again (.builtin "list.__iadd__" ⟨[z,.ref r],[]⟩)) _ _ s
 refine wpAny_bind (wpAny_newObj_type (wpAny_pure ⟨plainId_quiet F.plain_list_iadd _,codeAny_builtin F.entry_list_iadd ?_⟩))
 rw[Around.under_plainId F.plain_list_iadd _];show wpAny _ A.in1 (Builtin.List.listExtendWith (.ref s.heap.objs.size) (.ref r) (.ref s.heap.objs.size)) _ _ _
 have hS0:(s.heap.push { cls:=.type "list",data:=.seq ([]:List Value).toArray }).get? s.heap.objs.size=some { cls:=.type "list",data:=.seq #[] }:=Heap.get?_push_size _ rfl
 have hr0:=Heap.get?_push_of_some { cls:=.type "list",data:=.seq ([]:List Value).toArray } hr
 refine wpAny_extend_range (R:=fun z s'=>match z with
  |.ok (.ret v)=>wpAny (model prog w) A (match v with
   |.ref a=>do
    let o ←load a
    match o.data with
     |.seq xs _=>pure xs.toList
     |_=>unsupported "internal:collect"
   |_=>unsupported "internal:collect") Q E s'
  |.ok _=>False
  |.error e=>E e s') (s:={ s with heap:=s.heap.push { cls:=.type "list",data:=.seq ([]:List Value).toArray } }) hh hr0 h1 h2 h3 s.heap.objs.size _ 0 hS0 fun h' tk acc c' hk hS hacc=>?_
 show wpAny _ A (load s.heap.objs.size >>= fun _=>_) _ _ _
 refine wpAny_bind (wpAny_load hS (wpAny_pure (hQ h' tk acc (fun x o e=>?_) hacc)))
 exact hk x o (Nat.ne_of_lt (Heap.lt_size e)) (Heap.get?_push_of_some _ e)
end
theorem mT (r:Addr){a b c:Int}{t u v:Tok}{n:Nat}(h1:Builtin.Range.small a b c=true)(h2:Builtin.Range.rangeSize a b c=n)(h3:n≤2 ^ 24) :
  Meets (Builtin.«tuple.__new__» ⟨[.type "tuple",.ref r],[]⟩) (fun A R s=>(A.handled=none/\IsRange s.heap r a b c t u v)/\∀(h':Heap) (tk:Nat) (acc:Array Value),(∀x o,s.heap.get? x=some o->h'.get? x=some o)->ItemsOf (wx a c) acc n →
   R (.ok (.ret (.ref h'.objs.size))) { s with heap:=h'.push { cls:=.type "tuple",data:=.seq acc },toks:=tk }):=
 .of_wp fun prog w A R s h=>by
  obtain⟨⟨hh,hr⟩,h⟩:=h
  have hsub:=sub_tuple_self
  have hinit:=init_tuple_lookup
  have hmh:=madeHere_tuple
  have hT:s.TypeIs (.ref r) "range":=⟨_,hr,rfl⟩
  have hh1:A.in1.handled=none:=hh
  wp_walk using wpAny_typeOf hT,ql hh1 hr h1 h2 h3
  intro h' tk acc hk hacc
  show wpAny _ _ (Builtin.Tuple.tupleExact acc.toList.toArray >>= fun z=>ret z) _ _ _
  unfold Builtin.Tuple.tupleExact
  have e:acc.toList.toArray=acc:=by simp
  have hz:acc.toList.toArray.size≤sizeLine:=by rw[e,hacc.1,sizeLine_eq];omega
  refine wpAny_bind (wpAny_newObj_type (wpAny_pure ⟨_,rfl,?_⟩) hz)
  rw[e]
  exact h h' tk acc hk hacc
theorem lH {X:Cx}(hc:X.calm=true):cO X (.type "tuple") (fun xs H Q=>∃p j,xs=[.ref p]/\H p=some (.rng 0 j)/\0≤j/\j≤1000000/\∀l,H l=none->Q (.ref l) (upd H l (.tup (kB j.toNat)))):=by
 intro pins s σ H xs us Q I r h
 obtain⟨p,j,rfl,hp,h1,h2,q⟩:=h
 obtain⟨u,rfl,rx⟩:=dR r
 cases rx
 obtain⟨t,u,v,e⟩:=(show ObjOk X.prog X.w H s.heap p (.rng 0 j) from I.hok p _ hp)
 have z:sizeLine ≥ 1000000:=by decide
 refine callType_new F.called_tuple (by decide) (F.typeCall_tuple_1 _) (F.newCall_tuple_1 _) (fun obj=>F.args_object_init_2 obj _) F.entry_tuple_new
  (mT p (a:=0) (b:=j) (c:=1) (n:=j.toNat) (small_one (by omega) (by omega) (by omega) (by omega)) (by rw[rangeSize_one];split<;>omega) (by omega)) ⟨⟨I.ok.hd hc,e⟩,fun h' tk acc hk hacc=>⟨⟨_,Heap.get?_push_size _ rfl,rfl⟩,?_⟩⟩
 have I1:Inv X pins σ H { s with heap:=h',toks:=tk }:=I.kept (t':=tk) hk
 exact⟨.ref h'.objs.size,_,I1.laid (t':=tk) (fun b o e=>Heap.get?_push_of_some _ e) (Nat.le_refl _) (show ObjOk X.prog X.w _ _ _ (.tup (kB j.toNat)) from⟨by rw[jN];omega,acc.toList,lC hacc,by simpa using IsTup.new h' acc⟩),rfl,q _ (I1.hok.fresh (Nat.le_refl _))⟩
end L2
end
section
namespace L2
open PySem PySem.Spec PyProof.Rows _root_.HT
theorem mx {prog:Program}{w:World}{A:Around}{E:Value->Shared->Prop}{s:Shared}{t z:Addr}{items:Array Value}{vl vu:Value}{lo hi:Option Int}{Q:Value->Shared->Prop}(ht:IsTup s.heap t items)(hs:s.heap.IsSliceOf z vl vu .none)(pl:IsPart vl lo)(pu:IsPart vu hi)
  (hw:_root_.HT.sIx items.size 0 lo=0/\_root_.HT.sIx items.size items.size hi=items.size) (h:Q (.ref t) s):wpAny (model prog w) A (getItem (.ref t) (.ref z)) Q E s:=by
 obtain⟨os,hos,hcs,Jx⟩:=id hs
 have hTs:s.TypeIs (.ref z) "slice":=⟨os,hos,hcs⟩
 unfold getItem;try with_reducible refine wpAny_holding ?_
 first|(refine wpAny_bind (wpAny_pure ?_);skip)|skip
 refine wpAny_bind (wpAny_sequenceKey ht.typeIs (by decide) (wpAny_bind (wpAny_callSpecial?_slot (name:=Str.ofString "__getitem__") ht.typeIs PyProof.Rows.slot_tuple_getitem (wpAny_call_entry PyProof.Rows.slot_tuple_getitem ht.typeIs entry_tuple_getitem ?_ (args_tuple_getitem _ _)))))
 show wpAny _ _ (Builtin.Tuple.tupleItemsOf (.ref t) >>= fun _=>_) _ _ s
 refine wpAny_bind (tupleItemsOf_ ht (wpAny_bind (wpAny_typeOf hTs ?_)))
 rw[if_pos (by decide)];refine wpAny_bind (fA hs pl pu ?_)
 rw[hw.1,hw.2]
 have yes:(((0:Nat):Int)==0&&(1:Int)==1&&(items.size - 0)==items.size)=true:=by simp
 show wpAny _ _ (if (((0:Nat):Int)==0&&(1:Int)==1&&(items.size - 0)==items.size)=true then _ else _) _ _ s
 rw[if_pos yes]
 refine wpAny_bind ?_
 unfold Builtin.Tuple.tupleIsExact
 refine wpAny_bind (wpAny_typeOf ht.typeIs (wpAny_pure ?_))
 rw[if_pos (by decide)]
 exact wpAny_bind (wpAny_rule (wpAny_pure ⟨_,rfl,wpAny_pure h⟩))
noncomputable def N1 (K:PySem.W.Frag):V->Option Int->Option Int->Hp->VK->Prop:=fun x lo hi H Q=>∃a xs,x=.ref a/\SqT K H a xs/\(_root_.HT.sIx xs.length 0 lo=0/\_root_.HT.sIx xs.length xs.length hi=xs.length)/\Q (.ref a) H
theorem AF {X:Cx}:SlR X (N1 X.K):=by
 intro pins s σ H x v vl vu lo hi sl Q I rx hs pl pu h
 obtain⟨a,xs,rfl,hx,hw,q⟩:=h
 cases rx
 obtain⟨its,r,ht,hz⟩:=I.tuple hx
 have hn:its.toArray.size=xs.length:=by rw[List.size_toArray];exact r.length.symm
 refine⟨"tuple",_,PyProof.Rows.slot_tuple_getitem.lookup,ht.typeIs,mx ht hs pl pu (by rw[hn];exact hw) ⟨.ref a,H,I,rfl,q⟩⟩
end L2
end
section
namespace Dp
open PySem L2 Fo Pu
section
variable {X:Cx}{tg iter:Expr}{t:fG}{fs:FA}
noncomputable def pO:PV->Option (List PV)
 |.tup ps=>some ps
 |.ktu ps=>some ps
 |_=>none
theorem yd {K:PySem.W.Frag}{F:Hp}{p:PV}{ps:List PV}{v:V}(h:pO p=some ps)(r:Rep K F p v):∃a vs,v=.ref a/\SqT K F a vs/\Reps K F ps vs:=by
 cases p with
 |tup qs=>cases h;obtain⟨a,vs,e1,e2,rs⟩:=r;exact⟨a,vs,e1,SqT.of e2,rs⟩
 |ktu qs=>cases h;exact r
 |_=>cases h
noncomputable def Iv (t:fG):kl:=fun ρ Q=>t ρ fun ps=>∃p qs,ps=[p]/\pO p=some qs/\Q (cr 0 qs)
theorem vf (h:PI X tg iter (sn X.K (lA X.K t))):ur X tg iter (Iv t):=PI.weak h fun σ H R hh=>by
 obtain⟨F,ρ,Qp,er,q,k⟩:=hh
 refine⟨F,ρ,_,er,q,fun ps vs F1 H1 h1 g1 r1=>?_⟩
 obtain⟨p,qs,rfl,hp,h⟩:=h1
 obtain⟨v,r,rfl,r1,er'⟩:=r1
 cases (show r=[] from er')
 obtain⟨a,vs,rfl,hs,rs⟩:=yd hp r1
 refine⟨a,rfl,⟨vs,uS g1.fh hs⟩,k _ _ F1 H1 h g1 fun F2 H2 i s1 s2=>?_⟩
 have h2:=uS (s1.trans s2) hs
 refine⟨fun p e=>?_,fun hl=>⟨vs,h2,by rw[rs.length];rw[jw] at hl;exact hl⟩⟩
 rw[jA] at e
 obtain⟨p',e1,rfl⟩:=Option.map_eq_some_iff.mp e
 obtain⟨v,ev,rv⟩:=rs.get e1
 refine⟨⟨vs,v,h2,ev⟩,fun x H3 hy=>?_⟩
 obtain⟨q,y,ex,hq,e2,hy⟩:=hy
 subst ex e2
 have:=hy vs h2
 rw[ev] at this
 cases this
 refine⟨L2.upd F2 q (.tup [.int i,v]),.new s2 hq _,q,[.int i,v],rfl,ak,?_⟩
 refine⟨_,_,rfl,?_,_,_,rfl,(rv.mono s1).mono (aY (s2.free hq) _),rfl⟩
 show V.int i=V.int ((0+i:Nat):Int)
 rw[Nat.zero_add]
noncomputable def jx (fs:FA):FI:=fun ρ=>(fs ρ).bind fun rs=>(rs.mapM RV.fr).bind fun ps=>match ps with
 |[p]=>(pO p).map (cr 0)
 |_=>none
theorem Bs (h:PI X tg iter (sn X.K (lA X.K (EI fs)))):DI X tg iter (jx fs):=fq (vf h) fun ρ Q hh=>by
 obtain⟨its,e,q⟩:=hh
 obtain⟨rs,e1,e⟩:=Option.bind_eq_some_iff.mp e
 obtain⟨ps,e2,e⟩:=Option.bind_eq_some_iff.mp e
 split at e
 ·next p=>
  obtain⟨qs,e3,rfl⟩:=Option.map_eq_some_iff.mp e
  exact⟨rs,_,e1,e2,_,_,rfl,e3,q⟩
 ·cases e
structure KTup (K:PySem.W.Frag)(a:Addr)(ps:List PV):Prop where
 it:∃vs,∀F,SqT K F a vs/\Reps K F ps vs
theorem NI {x:Str}{a:Addr}{ps:List PV}{pos:Pos}(hg:Gl X x)(hm:X.mg x=some (.ref a))(h:KTup X.K a ps)(hd:(x==("__debug__" : Str))=false:=by decide):dr X (.Name x pos) (pC (.ktu ps)):=
 PE.weak (iW (v:=.ref a) hg hm rfl hd) fun σ H Q hh=>by
  obtain⟨F,ρ,Qp,er,q,k⟩:=hh
  obtain⟨vs,hv⟩:=h.it
  exact k (.ktu ps) _ F H q (.refl er.fz) ⟨a,vs,rfl,(hv F).1,(hv F).2⟩
inductive TupEs:List Value->List PV->List V->Prop where
 |nil:TupEs [] [] []
 |str {x:Str} {t:Tok} {us:List Value} {ps:List PV} {vs:List V}:TupEs us ps vs->TupEs (.str x t::us) (.str x::ps) (.str x::vs)
 |int {x:Int} {t:Tok} {us:List Value} {ps:List PV} {vs:List V}:TupEs us ps vs->TupEs (.int x t::us) (.int x::ps) (.int x::vs)
theorem TupEs.ok {K:PySem.W.Frag}{F:Hp}:∀{us:List Value} {ps:List PV} {vs:List V},TupEs us ps vs->Vals vs us/\Reps K F ps vs
 |_,_,_,.nil=>⟨.nil,rfl⟩
 |_,_,_,.str h=>⟨.cons ⟨_,rfl⟩ (h.ok (K:=K) (F:=F)).1,_,_,rfl,rfl,(h.ok (K:=K) (F:=F)).2⟩
 |_,_,_,.int h=>⟨.cons ⟨_,rfl⟩ (h.ok (K:=K) (F:=F)).1,_,_,rfl,rfl,(h.ok (K:=K) (F:=F)).2⟩
theorem t7 {K:PySem.W.Frag}{a:Addr}{ps:List PV}{vs:List V}{us:Array Value}{n:Nat}{d:Option Addr}{sl:Array (Option Value)}(l:K.lookup a=some ⟨.type "tuple",d,.seq us n,sl⟩)(h:TupEs us.toList ps vs)(hz:us.size≤sizeLine):KTup K a ps:=
 ⟨vs,fun F=>⟨.inr ⟨_,us,n,l,rfl,rfl,hz,(h.ok (K:=K) (F:=F)).1⟩,h.ok.2⟩⟩
end
end Dp
end
section
namespace Dp
open PySem PySem.Spec L2 Pu
section
variable {X:Cx}{e:Expr}{p apos cpos:Pos}{f:FE}{x:Str}{a:Addr}{kvs:List (Str×Int)}
noncomputable def t6 (kvs:List (Str×Int))(o:Option PV):Option RV:=match o with
 |some (.str n)=>some (.fz ((ir kvs n).elim .non .int))
 |_=>none
noncomputable def j7 (kvs:List (Str×Int))(f:FE):FE:=fun ρ=>t6 kvs ((f ρ).bind RV.fr)
theorem zw (T:NumTab X.w X.K a kvs)(hg:Gl X x)(hm:X.mg x=some (.ref a))(he:DE X e f)(m:M1 X (.Name x p) "get" apos e cpos)(hd:(x==("__debug__" : Str))=false:=by decide):DE X (.Call (.Attribute (.Name x p) "get" apos) [e] [] cpos) (j7 kvs f):=
 .ofE (te:=fun ρ Q=>tF f ρ fun p=>∃n,p=.str n/\Q ((ir kvs n).elim .non .int)) (PE.weak (vM T (iW (v:=.ref a) hg hm rfl hd) he.ee m) fun σ H Q hh=>by
  obtain⟨F,ρ,Qp,er,q,k⟩:=hh
  refine⟨rfl,F,ρ,_,er,q,fun p v F1 H1 q1 g1 r1=>?_⟩
  obtain⟨n,rfl,q1⟩:=q1
  cases (show v=.str n from r1)
  refine⟨n,rfl,k _ _ F1 H1 q1 g1 ?_⟩
  cases ir kvs n<;>rfl) fun ρ r h=>by
  unfold j7 t6 at h
  split at h
  ·next n e1=>
   obtain⟨r1,e2,e3⟩:=Option.bind_eq_some_iff.mp e1
   cases h
   exact⟨_,rfl,r1,_,e2,e3,n,rfl,rfl⟩
  ·cases h
end
end Dp
end
section
namespace Dp
open PySem PySem.Spec L2 Pu
section
variable {X:Cx}{st:Stmt}{i:Nat}
noncomputable def sG:List PV->Option RV
 |[p]=>(items p).bind fun ps=>(cC ps).bind fun is=>if is.length<64 then some (.nw ((mO is).map PV.int)) else none
 |_=>none
noncomputable def qr:DU:=fun ps Q=>One ps fun p=>OkS p fun ps=>∃is,cC ps=some is/\is.length<64/\Q ((mO is).map PV.int)
theorem fo {K:PySem.W.Frag}{F:Hp}:∀is:List Int,Reps K F (is.map PV.int) (is.map V.int)
 |[]=>rfl
 |i::is=>⟨.int i,_,rfl,rfl,fo is⟩
theorem rO:vn X.K (fun xs H Q=>∃p is,xs=[.ref p]/\(SqL X.K H p (is.map V.int)\/SqT X.K H p (is.map V.int))/\is.length<64/\∀l,H l=none->Q (.ref l) (upd H l (.lst ((mO is).map V.int)))) qr:=fun F H xs ps Qp Q s r h k=>by
 obtain⟨p,v,rfl,rfl,r,h⟩:=h.rd r
 obtain⟨a,vs,ps,rfl,hs,ei,rs,is,e,h64,h⟩:=h.rd s r
 rw[gR e] at rs
 rw[gq rs] at hs
 exact⟨a,is,rfl,hs,h64,fun l hl=>k _ l _ F _ h (.newO s hl _) hl (s.free hl) ak (fo _)⟩
theorem vw:∀ps r,sG ps=some r->∃p,r=.nw p/\qr ps (fun z=>z=p):=fun ps r h=>by
 unfold sG at h
 split at h
 ·obtain⟨qs,e1,h⟩:=Option.bind_eq_some_iff.mp h
  obtain⟨is,e2,h⟩:=Option.bind_eq_some_iff.mp h
  split at h
  ·next z=>
   cases h
   refine⟨_,rfl,?_⟩
   show OkS _ _
   unfold OkS
   rw[e1]
   exact⟨is,e2,z,rfl⟩
  ·cases h
 ·cases h
theorem qJ {K:PySem.W.Frag}{F:Hp}:∀{ps:List PV} {vs:List V},Reps K F ps vs->Reps K F ps.reverse vs.reverse
 |[],_,h=>by rw[show _=[] from h];rfl
 |p::ps,_,⟨v,r,e,h,t⟩=>by
  rw[e,List.reverse_cons,List.reverse_cons]
  exact (qJ t).app (.one h)
noncomputable def HU (i:Nat):FS:=fun ρ=>match sl ρ i with
 |some (.own ps)=>.nx (ρ.set i (some (.own ps.reverse)))
 |_=>.bad
noncomputable def KP (i:Nat):eS:=fun D ρ=>go ρ i fun ps=>D.nx (ρ.set i (some (.own ps.reverse)))
theorem Ad (h:PS X st (iN (GY X.K "list" kO (iA i)))):gZ X st (KP i):=PS.weak h fun D σ H hh_=>hh_.elim fun F0 H0 F ρ Dp br h ft=>by
 obtain⟨ps,e,h⟩:=h.ex
 obtain⟨a,vs,ev,o,h1,h2,h3⟩:=br.ownAt e
 exact⟨_,ev,.inl ⟨rfl,vs,SqL.of h1⟩,a,vs,rfl,rfl,h1,ft.nx F _ σ _ h (br.mut (s:=.own _) o rfl ⟨a,_,rfl,ak,h2,qJ h3⟩)⟩
theorem Lv (h:PS X st (iN (GY X.K "list" kO (iA i)))):DS X st (HU i):=aO (Ad h) fun D ρ q=>by
 unfold jF HU at q
 split at q
 ·next ps e1=>
  unfold KP go
  rw[dX e1]
  exact q
 ·exact q.elim
end
end Dp
end
section
namespace Dp
open PySem PySem.Spec L2 Pu
noncomputable def Ev (K:PySem.W.Frag)(F H:Hp)(J:It)(its:List PV):Prop:=∀F1 H1 (i:Nat),Same F F1->Same F1 H1->Same H H1 →
 (∀p,its[i]?=some p->J.go i H1/\∀x H2,J.yld i H1 x H2->∃F2,Grow F1 H1 F2 H2/\Rep K F2 p x)/\(its.length≤i->J.stop i H1)
noncomputable def lIc (K:PySem.W.Frag)(ti:kl):TI:=fun σ H R=>∃F ρ,∃Qp:List PV->Prop,ER K F H σ ρ/\ti ρ Qp/\∀its J F' H',Qp its->Grow F H F' H'->Ev K F' H' J its->R J H'
theorem lIc.elim {K:PySem.W.Frag}{ti:kl}{σ:St}{H:Hp}{R}{C:Prop}(h:lIc K ti σ H R)(k:∀F ρ (Qp:List PV->Prop),ER K F H σ ρ->ti ρ Qp->(∀its J F' H',Qp its->Grow F H F' H'->Ev K F' H' J its->R J H')->C):C:=by obtain⟨F,ρ,Qp,a,b,c⟩:=h;exact k F ρ Qp a b c
section
variable {X:Cx}{e l tg iter:Expr}{te tl:cY}{f:FE}
theorem u9 (hl:d6 X l tl):PI X tg l (lIc X.K (LN tl)):=PI.weak (sV hl) fun σ H R hh_=>hh_.elim fun F ρ Qp er q k=>⟨F,ρ,_,er,q,fun p v F1 H1 h1 g1 r1=>by
 obtain⟨a,vs,ps,rfl,hs,rs,h⟩:=OkL.rd h1 g1.fh r1
 refine⟨a,rfl,⟨vs,hs⟩,k ps _ F1 H1 h g1 fun F2 H2 i s1 s2 s3=>?_⟩
 have h2:=s3.seq hs
 refine⟨fun p e=>?_,fun hl=>⟨vs,h2,by rw[rs.length];exact hl⟩⟩
 obtain⟨v,ev,rv⟩:=rs.get e
 refine⟨⟨vs,v,h2,ev⟩,fun x H3 y=>?_⟩
 obtain⟨e2,y⟩:=y
 subst e2
 have:=y vs h2
 rw[ev] at this
 cases this
 exact⟨F2,.refl s2,rv.mono s1⟩⟩
theorem sJ {K:PySem.W.Frag}{fm:List (Option Nat)}{ti:kl}{g0:TG}{g:nS}{tc:iD}(hg:dO K g0 g):∀σ H Q,lN K (mZ fm ti g tc te) σ H Q->fD fm (lIc K ti) g0 (lB K tc) (lE K te) σ H Q:=fun σ H Q hh_=>hh_.elim fun F ρ Qp er q k=>
 ⟨F,ρ,_,er,q,fun its J F1 H1 hq g1 it=>by
  obtain⟨hlen,h1⟩:=hq
  refine⟨fun i ys H'=>∃F' acc,Grow F1 H1 F' H'/\Reps K F' acc ys/\i≤its.length/\acc.length≤i/\JC g tc te (fZ fm ρ) (its.drop i) acc Qp,its.length,⟨F1,[],.refl g1.fh,rfl,Nat.zero_le _,Nat.le_refl _,h1⟩,?_,?_⟩
  ·rintro i ys H' ⟨F',acc,g2,rs,hi,ha,_⟩
   refine⟨hi,nJ ?_⟩
   rw[rs.length];omega
  ·rintro i ys H' ⟨F',acc,g2,rs,hi,ha,h2⟩
   obtain⟨it1,it2⟩:=it F' H' i g2.ff g2.fh g2.hh
   by_cases hl:i<its.length
   ·obtain⟨go,yl⟩:=it1 _ (List.getElem?_eq_getElem hl)
    refine .inr ⟨go,fun x H2 hy=>?_⟩
    obtain⟨F2,g3,rx⟩:=yl x H2 hy
    rw[List.drop_eq_getElem_cons hl] at h2
    have er2:ER K F2 H2 (eW fm σ) (fZ fm ρ):=(er.grow ((g1.trans g2).trans g3)).sub fm
    refine hg F2 H2 (eW fm σ) (fZ fm ρ) _ x _ _ g3.fh rx h2 fun σ2 ρ2 h3 u=>?_
    refine⟨F2,ρ2,_,er2.upd u,h3,fun b F3 H3 h4 g4=>?_⟩
    cases b with
    |true=>
     rw[if_pos rfl] at h4 ⊢
     refine⟨F3,ρ2,_,(er2.upd u).grow g4,h4,fun y v F4 H4 h5 g5 ry=>?_⟩
     have gg:=((g2.trans g3).trans g4).trans g5
     exact⟨F4,acc++[y],gg,(rs.mono ((g3.ff.trans g4.ff).trans g5.ff)).app (.one ry),hl,by rw[List.length_append];simp;omega,h5⟩
    |false=>
     rw[if_neg Bool.false_ne_true] at h4 ⊢
     exact⟨F3,acc,(g2.trans g3).trans g4,rs.mono (g3.ff.trans g4.ff),hl,by omega,h4⟩
   ·have e:its.drop i=[]:=List.drop_eq_nil_of_le (by omega)
    rw[e] at h2
    exact .inl ⟨it2 (by omega),fun l hl=>k acc l ys F' _ h2 ((g1.trans g2).trans (.newO g2.fh hl _)) ((g1.trans g2).hh.free hl) (g2.fh.free hl) ak rs⟩⟩
noncomputable def O8 (X:Cx)(tg iter:Expr)(f:FI):Prop:=PI X tg iter (lIc X.K (DY f))
noncomputable def J7 (f:FE):FI:=fun ρ=>(f ρ).bind fun r=>eF r.pv
theorem EZ (h:DE X iter f):O8 X tg iter (J7 f):=PI.weak (u9 h.tt) fun σ H R hh_=>hh_.elim fun F ρ Qp er q k=>by
 obtain⟨its,e,q⟩:=q
 obtain⟨r,e1,e⟩:=Option.bind_eq_some_iff.mp e
 exact⟨F,ρ,Qp,er,⟨r,e1,dL e q⟩,k⟩
theorem CM {fm:List (Option Nat)}{it:FI}{h0:TG}{t:FT}{c:FB}(hg:dO X.K h0 (qT t))(h:PE X e (fD fm (lIc X.K (DY it)) h0 (lB X.K (wo c)) (lE X.K (tF f)))):DE X e (fv fm it t c f):=.ofN (PE.weak h (sJ hg)) fun ρ r e=>nT e
end
end Dp
end
section
namespace Dp
open PySem PySem.Spec L2 Pu
section
variable {X:Cx}{e:Expr}{es:List Expr}{p pos apos cpos:Pos}{f:FE}{fs:FA}{x:Str}{ps:List PV}{kvs:List (Str×Int)}
noncomputable def lh:List PV->Option RV
 |[.rng lo j]=>if lo=0/\0≤j/\j≤1000000 then some (.fz (.tup (np 0 j.toNat))) else none
 |_=>none
noncomputable def DT:pQ:=fun ps Q=>One ps fun p=>Pb p fun j=>0≤j/\j≤1000000/\Q (.tup (np 0 j.toNat))
theorem Bp:iz X.K (fun xs H Q=>∃p j,xs=[.ref p]/\H p=some (.rng 0 j)/\0≤j/\j≤1000000/\∀l,H l=none->Q (.ref l) (upd H l (.tup (kB j.toNat)))) DT:=fun F H xs ps Qp Q s r h k=>by
 obtain⟨p,v,rfl,rfl,r,h⟩:=h.rd r
 cases p<;>first|exact h.elim|skip
 obtain⟨rfl,h1,h2,h⟩:=h
 cases r with
 |frz r=>
  obtain⟨a,rfl,e⟩:=r
  exact⟨a,_,rfl,s _ _ e,h1,h2,fun l hl=>k _ _ _ _ h (.new s hl _) ⟨l,_,rfl,ak,jt _⟩⟩
theorem zI:∀ps r,lh ps=some r->∃p,r=.fz p/\DT ps (fun z=>z=p):=fun ps r h=>by
 unfold lh at h
 split at h
 ·split at h
  ·next z=>cases h;exact⟨_,rfl,z.1,z.2.1,z.2.2,rfl⟩
  ·cases h
 ·cases h
theorem Gg (hm:X.mg "tuple" = none)(ha:DA X (e::es) fs)(hc:X.calm=true:=by rfl)(hg:Gl X "tuple":=by rfl)(he:starEach (e::es) X.env=(false,eval e X.env)::starEach es X.env:=by rfl)(hpl:(backTo pos (starEach es X.env)).any (·.1)=false:=by rfl) :
  DE X (.Call (.Name "tuple" p) (e::es) [] pos) (fB lh fs):=iY Bp zI (d5 (lH hc) hg hm kJ ha.t (by decide) (by decide) he hpl)
theorem MN (h:∃a,X.mg x=some (.ref a)/\KTup X.K a ps)(hg:Gl X x:=by rfl)(hd:(x==("__debug__" : Str))=false:=by decide):DE X (.Name x pos) (fC (.ktu ps)):=by
 obtain⟨a,h1,h2⟩:=h
 exact DJ (NI hg h1 h2 hd)
theorem xz (h:∃a,X.mg x=some (.ref a)/\NumTab X.w X.K a kvs)(he:DE X e f)(m:M1 X (.Name x p) "get" apos e cpos)(hg:Gl X x:=by rfl)(hd:(x==("__debug__" : Str))=false:=by decide):DE X (.Call (.Attribute (.Name x p) "get" apos) [e] [] cpos) (j7 kvs f):=by
 obtain⟨a,h1,h2⟩:=h
 exact zw h2 hg h1 he m hd
end
end Dp
namespace Dp
open PySem PySem.Spec L2 Pu
section
variable {X:Cx}{st:Stmt}{i j:Nat}{f1 f2:FE}
noncomputable def Mv (i j:Nat)(n1 n2:oz):eS:=fun D ρ=>n1 ρ fun ps=>n2 ρ fun qs=>D.nx ((ρ.set i (some (.own ps))).set j (some (.own qs)))
theorem zi {n1 n2:oz}(h:PS X st (sk i j (jO (lN X.K n1) (jO (lN X.K n2) rV)))):gZ X st (Mv i j n1 n2):=PS.weak h fun D σ H hh_=>hh_.elim fun F0 H0 F ρ Dp br h ft=>
 ⟨F,ρ,_,br.er,h,fun ps a vs F1 H1 h1 g1 h0 hF hH r1=>⟨F1,ρ,_,(br.grow g1).er,h1,fun qs b ws F2 H2 h2 g2 k0 kF kH r2=>⟨_,_,rfl,ft.nx F2 H2 _ _ h2 ((br.setN g1 h0 hF hH r1).setN g2 k0 kF kH r2)⟩⟩⟩
noncomputable def qO (i j:Nat)(f1 f2:FE):FS:=fun ρ=>match f1 ρ,f2 ρ with
 |some (.nw ps),some (.nw qs)=>.nx ((ρ.set i (some (.own ps))).set j (some (.own qs)))
 |_,_=>.bad
theorem GW (h:PS X st (sk i j (jO (lN X.K (tN f1)) (jO (lN X.K (tN f2)) rV)))):DS X st (qO i j f1 f2):=aO (zi h) fun D ρ q=>by
 unfold jF qO at q
 split at q
 ·next ps qs e1 e2=>exact⟨_,e1,_,e2,q⟩
 ·exact q.elim
end
end Dp
end
section
namespace Dp
open PySem PySem.Spec L2 Pu
noncomputable abbrev yz:=List (Addr×(List PV->Option PR))
noncomputable def look:yz->Addr->Option (List PV->Option PR)
 |[],_=>none
 |(b,F)::t,a=>if a=b then some F else look t a
section
variable {X:Cx}{e:Expr}{es:List Expr}{p pos:Pos}{fs:FA}{x:Str}{i j k:Nat}{qs:List Str}{t:yz}{a:Addr}
theorem NG (hm:X.mg x=some (.ref a))(hg:Gl X x:=by rfl)(hd:(x==("__debug__" : Str))=false:=by decide):DE X (.Name x pos) (fC (.fn a)):=DJ (sq (p:=.fn a) (iW (v:=.ref a) hg hm rfl hd))
noncomputable def o9 (t:yz)(o:Option Sl)(as:Option (List PV)):Option RV:=match o,as with
 |some (.val (.fn a)),some ps=>(look t a).bind fun F=>(F ps).map my
 |_,_=>none
noncomputable def sK (t:yz)(i:Nat)(fs:FA):FE:=fun ρ=>o9 t (sl ρ i) ((fs ρ).bind fun rs=>rs.mapM RV.fr)
theorem Av (hd:∀a F,look t a=some F->wV X.prog X.w X.K X.mg X.base j a qs (bq X.K (bR F)))(hr:Room k X.A)(hN:X.N[i]?=some x)(ha:DA X (e::es) fs)(hv:D7 X.env.scope x:=by first|exact Or.inl rfl|exact Or.inr rfl)(hj:j≤k:=by decide)(hdb:(x==("__debug__" : Str))=false:=by decide)(hcd:(x==("__classdict__" : Str))=false:=by decide)
  (he:starEach (e::es) X.env=(false,eval e X.env)::starEach es X.env:=by rfl) (hpl:(backTo pos (starEach es X.env)).any (·.1)=false:=by rfl):DE X (.Call (.Name x p) (e::es) [] pos) (sK t i fs):=
 PE.weak (zQ (D:=fun f sp=>∃F,look t f=some F/\sp=bq X.K (bR F)) (fun f sp h=>by obtain⟨F,h1,rfl⟩:=h;exact hd f F h1) hr hN hv ha.f hj hdb hcd he hpl) fun σ H Q hh_=>hh_.elim fun F0 ρ r er e k=>by
  unfold sK o9 at e
  split at e
  ·next a ps es ep=>
   obtain⟨rs,e2,e3⟩:=Option.bind_eq_some_iff.mp ep
   obtain⟨F,e1,e⟩:=Option.bind_eq_some_iff.mp e
   obtain⟨q,e4,rfl⟩:=Option.map_eq_some_iff.mp e
   obtain⟨v,ev,rd⟩:=er.rd (dX es)
   have hs:=er.sl i _ (dX es)
   rw[ev] at hs
   obtain rfl:v=.ref a:=hs
   refine⟨a,_,ev,⟨F,e1,rfl⟩,F0,ρ,(fun z=>z=ps),er,⟨rs,ps,e2,e3,rfl⟩,fun ps' vs F1 H1 h1 g1 r1=>?_⟩
   subst h1
   refine⟨F1,ps',(fun z=>z=q),g1.fh,r1,⟨q,e4,rfl⟩,fun r v F2 H2 h2 g2 rr=>?_⟩
   subst h2
   refine k v F2 H2 (g1.trans g2) ?_
   cases r with
   |v p=>exact rr
   |n ps=>
    obtain⟨a,vs,rfl,h0,hF,hH,rs⟩:=rr
    exact⟨a,vs,rfl,g1.hh.free h0,hF,hH,rs⟩
  ·cases e
end
end Dp
end
section
namespace Dp
open PySem PySem.Spec L2 Pu
section
variable {X:Cx}{e a:Expr}{pos:Pos}{te:cY}{fa:FE}
noncomputable def M9 (te:cY)(tl th:uP):cY:=fun ρ Q=>te ρ fun p=>tl ρ fun l=>th ρ fun h=>OkT p fun ps=>(_root_.HT.sIx ps.length 0 l=0/\_root_.HT.sIx ps.length ps.length h=ps.length)/\Q (.tup ps)
theorem G8 {lo hi:Option Expr}{tl th:uP}{p2:Pos}(he:d6 X e te)(hl:zh X lo tl)(hh:zh X hi th):dr X (.Subscript e (.Slice lo hi none p2) pos) (M9 te tl th):=PE.weak (lj AF he hl hh) fun σ H Q hh_=>hh_.elim fun F ρ Qp er q k=>⟨F,ρ,_,er,q,fun p v F1 H1 h1 g1 r1=>
 ⟨F1,ρ,_,er.grow g1,h1,fun l F2 H2 h2 g2=>⟨F2,ρ,_,(er.grow g1).grow g2,h2,fun h F3 H3 h3 g3=>by
  have gg:=(g1.trans g2).trans g3
  obtain⟨a,vs,ps,rfl,rfl,hF,rs,hn,q⟩:=h3.rd (r1.grow (g2.trans g3))
  exact⟨a,vs,rfl,SqT.of (gg.fh _ _ hF),by rw[rs.length];exact hn,k _ _ F3 H3 q gg ⟨a,vs,rfl,hF,rs⟩⟩⟩⟩⟩
noncomputable def JN:PV->Option Int->Option Int->Option RV
 |.tup ps,l,h=>some (.fz (.tup (cut ps l h)))
 |_,_,_=>none
noncomputable def Ku (fa:FE)(fl fh:FO):FE:=fun ρ=>(fa ρ).bind fun x=>(fl ρ).bind fun l=>(fh ρ).bind fun h=>JN x.pv l h
theorem wk {α:Type}{ps:List α}{l h:Option Int}(hw:_root_.HT.sIx ps.length 0 l=0/\_root_.HT.sIx ps.length ps.length h=ps.length):cut ps l h=ps:=by
 unfold cut
 rw[hw.1,hw.2,List.drop_zero,Nat.sub_zero,List.take_length]
theorem Kz {lo hi:Option Expr}{fl fh:FO}{p2:Pos}(ha:DE X a fa)(hl:DO X lo fl)(hh:DO X hi fh):DE X (.Subscript a (.Slice lo hi none p2) pos) (Ku fa fl fh):=.ofE (iy (x9 ha.tt hl hh) (G8 ha.tt hl hh)) fun ρ r e=>by
 obtain⟨x,e1,e⟩:=Option.bind_eq_some_iff.mp e
 obtain⟨l,e2,e⟩:=Option.bind_eq_some_iff.mp e
 obtain⟨h,e3,e⟩:=Option.bind_eq_some_iff.mp e
 cases q:x.pv with
 |tup ps=>
  rw[q] at e
  cases e
  by_cases z:_root_.HT.sIx ps.length 0 l=0/\_root_.HT.sIx ps.length ps.length h=ps.length
  ·refine⟨_,rfl,.inr ⟨x,e1,l,e2,h,e3,?_⟩⟩
   rw[q,wk z];exact⟨z,rfl⟩
  ·refine⟨_,rfl,.inl ⟨x,e1,l,e2,h,e3,?_⟩⟩
   rw[q];exact⟨z,rfl⟩
 |_=>rw[q] at e;cases e
end
end Dp
end
section
namespace L2
open PySem PySem.Spec PyProof.Rows
noncomputable def Ce (b:Bool):Nat:=if b then 1 else 0
theorem sU:typeLookup (.type "bool") "__index__" = pure (some (.builtin "int.__index__")):=by
 rw[typeLookup_type,builtinLookup_eq_fast]
 kernel_rfl
section
variable {P:Program}{w:World}{A:Around}{E:Value->Shared->Prop}{s:Shared}{b:Bool}
theorem yu {Q:Option Int->Shared->Prop}(h:Q (some (Ce b:Int)) s):wpAny (model P w) A (Builtin.List.listSubscript? (.bool b)) Q E s:=by
 have e:=PySem.typeIs_bool s b
 unfold Builtin.List.listSubscript?
 refine wpAny_bind (wpAny_specialOf (T:="bool") e sU ?_)
 refine (?_:wpAny _ _ (asIndex (.bool b) >>= _) _ _ _)
 refine wpAny_bind (wpAny_of_eq (a:=(Ce b:Int)) (by cases b<;>rfl) ?_)
 cases b<;>exact wpAny_pure h
theorem uT {l:Addr}{xs:Array Value}{x:Value}{Q:Value->Shared->Prop}(hl:s.heap.IsList l xs)(hx:xs[Ce b]?=some x)(h:Q x s):wpAny (model P w) A (getItem (.ref l) (.bool b)) Q E s:=by
 have ty:=hl.typeIs
 obtain⟨o,ho,hc,ne,hd⟩:=hl
 unfold getItem
 try with_reducible refine wpAny_holding ?_
 first|refine wpAny_bind (wpAny_pure ?_)|skip
 refine wpAny_bind (wpAny_sequenceKey ty (by decide) ?_)
 have ar:=args_list_getitem (.ref l) (.bool b)
 refine wpAny_bind (wpAny_callSpecial?_slot (name:=Str.ofString "__getitem__") ty slot_list_getitem (wpAny_call_entry slot_list_getitem ty entry_list_getitem ?_ ar))
 refine (?_:wpAny _ _ (Builtin.List.listSubscript? (.bool b) >>= _) _ _ s)
 refine wpAny_bind (yu ?_)
 refine (?_:wpAny _ _ ((seqItemAt l (Ce b) >>= fun r=>pure (r.map (Ce b,·))) >>= _) _ _ s)
 refine wpAny_bind (wpAny_bind (wpAny_seqItemAt ho hd (wpAny_pure ?_)))
 rw[hx]
 first
  |exact wpAny_pure ⟨x,rfl,wpAny_pure h⟩
  |exact wpAny_bind (wpAny_pure (wpAny_pure ⟨x,rfl,wpAny_pure h⟩))
end
noncomputable def vm (K:PySem.W.Frag):R2:=fun x y H Q=>∃p xs b v,x=.ref p/\y=.bl b/\SqL K H p xs/\xs[Ce b]?=some v/\Q v H
theorem Al {X:Cx}:IxR X (vm X.K):=by
 intro value slice pins s σ H x y v u Q I rx ry h hs
 obtain⟨p,xs,b,z,rfl,rfl,hq,he,q⟩:=h
 cases rx
 cases ry
 obtain⟨its,r,pl,hz⟩:=I.list hq
 obtain⟨w,ew,rw'⟩:=r.get he
 exact subscriptTail_builtinR (x:=w) pl.isList.typeIs slot_list_getitem.lookup (uT (Q:=fun r s'=>r=w/\EP X pins σ Q r s') pl.isList (by simpa using ew) ⟨rfl,z,H,I,rw',q⟩) hs
end L2
namespace Dp
open PySem PySem.Spec L2 Pu
section
variable {X:Cx}{a b:Expr}{pos:Pos}{fa fb:FE}
noncomputable def vm:PV->PV->Option RV
 |.lst ps,.int i=>(L2.atI ps i).map .fz
 |.lst ps,.bl b=>(ps[Ce b]?).map .fz
 |_,_=>none
noncomputable def GE:fE:=fun x y Q=>match x,y with
 |.lst ps,.bl b=>OkO (ps[Ce b]?) Q
 |_,_=>False
theorem Ix:df X.K (L2.vm X.K) GE:=fun F H x y p q Qp Q s rx ry h k=>by
 unfold GE at h
 split at h
 ·next ps b=>
  obtain⟨z,e,h⟩:=h.ex
  cases rx with
  |frz rx=>
   obtain⟨a,vs,rfl,e1,r⟩:=rx
   cases ry with
   |frz ry=>
    obtain⟨v,e',r'⟩:=r.get e
    exact⟨a,vs,b,v,rfl,ry,SqL.of (s _ _ e1),e',k z v F H h (.refl s) r'⟩
  |own h1 h2 h3=>
   cases ry with
   |frz ry=>
    obtain⟨v,e',r'⟩:=h3.get e
    exact⟨_,_,b,v,rfl,ry,SqL.of h1,e',k z v F H h (.refl s) r'⟩
 ·exact h.elim
theorem Fh {ta tb:cY}(ha:d6 X a ta)(hb:d6 X b tb)(hs:gX b):dr X (.Subscript a b pos) (pr GE ta tb):=PE.weak (DF Al ha hb hs) (iT Ix)
theorem Kk (ha:DE X a fa)(hb:DE X b fb)(hs:gX b):DE X (.Subscript a b pos) (af vm fa fb):=.ofE (iy (Ei ha.tt hb.tt hs) (Fh ha.tt hb.tt hs)) fun ρ r e=>by
 obtain⟨x,e1,e⟩:=Option.bind_eq_some_iff.mp e
 obtain⟨y,e2,e⟩:=Option.bind_eq_some_iff.mp e
 unfold vm at e
 split at e
 ·next ps i ex ey=>
  obtain⟨p,e3,rfl⟩:=Option.map_eq_some_iff.mp e
  refine⟨p,rfl,.inl ⟨x,e1,y,e2,?_⟩⟩
  rw[ex,ey]
  show OkO (L2.atI ps i) _
  rw[e3];exact rfl
 ·next ps b ex ey=>
  obtain⟨p,e3,rfl⟩:=Option.map_eq_some_iff.mp e
  refine⟨p,rfl,.inr ⟨x,e1,y,e2,?_⟩⟩
  rw[ex,ey]
  show OkO (ps[Ce b]?) _
  rw[e3];exact rfl
 ·cases e
end
end Dp
end
section
namespace L2
open PySem PySem.Spec PyProof.Rows
noncomputable def Dr (lo:Int)(n:Nat)(c:Int):It:={ go:=fun i _=>i<n,yld:=fun i H x H'=>H'=H/\x=.int (lo+i * c),stop:=fun i _=>n≤i }
theorem p7 {P:Program}{w:World}{K:PySem.W.Frag}{tg:Expr}(it:Addr)(lo:Int)(n:Nat)(c:Int):Turn P w K tg (Dr lo n c) [it] it (fun i h=>IsRangeIter h it (lo+(i:Nat) * c) ((n:Int) - (i:Nat)) c) where
 mem:=by simp
 obj:=fun i h st b hb=>by
  have e:b=it:=by simpa using hb
  subst e
  exact⟨_,st,fun v z=>by
   have z':Data.fields _=Data.cell v:=z
   cases z'⟩
 keep:=fun i h h' st k=>k it (by simp) _ st
 item:=by
  intro X hP hw hK hc i pins s σ H E I hf st hg
  subst hP hw hK
  obtain⟨f0,f1,f2,f3,f4,f5⟩:=hf it (by simp)
  have W:=Walks.range (prog:=X.prog) (w:=X.w) (I.ok.hd hc) it lo c n
  refine W.item i s _ _ hg st fun v h' tk hv st' kk=>?_
  obtain⟨t,rfl⟩:=hv
  have I1:Inv X pins σ H { s with heap:=h',toks:=tk }:=I.turned (fun b o hb e=>kk b o (by simpa using hb) e) f0 f1 f3 f4 f5
  exact⟨_,rfl,tK (s:={ s with heap:=h',toks:=tk }) (n:="range_iterator") st' rfl rfl (by decide) ⟨.int (lo+i * c),H,I1,⟨t,rfl⟩,⟨rfl,rfl⟩,st',fun b hb=>(hf b hb).1⟩⟩
 done:=by
  intro X hP hw hK hc i pins s σ H E I hf st hg
  subst hP hw hK
  obtain⟨f0,f1,f2,f3,f4,f5⟩:=hf it (by simp)
  exact wpAny_pyNext_range_end (I.ok.hd hc) st (by have:n≤i:=hg;omega) fun h' eb=>⟨rfl,I.turned (t':=s.toks) (fun b o hb e=>eb b o hb e) f0 f1 f3 f4 f5⟩
 self:=fun _ _ _ _ _ st h=>wpAny_pyIter_rangeiter st h
section
variable {X:Cx}{tg:Expr}
theorem uQ {pins:List (Addr×Obj)}{σ:St}{H:Hp}{s:Shared}{R:It->Hp->Prop}{E:Value->Shared->Prop}{lo hi c:Int}{t u v:Tok}{tk:Nat}(I:Inv X pins σ H s)(h1:Builtin.Range.small lo hi c=true)(h2:0≤Builtin.Range.rangeSize lo hi c)
  (q:R (Dr lo (Builtin.Range.rangeSize lo hi c).toNat c) H):wpAny (model X.prog X.w) X.A (pyIter (.ref s.heap.objs.size)) (NU X pins σ tg R) E { s with heap:=s.heap.push { cls:=.type "range",data:=.fields #[.int lo t,.int hi u,.int c v] },toks:=tk }:=by
 refine wpAny_pyIter_range (IsRange.new ..) h1 ?_
 have I1:Inv X pins σ H { s with heap:=s.heap.push { cls:=.type "range",data:=.fields #[.int lo t,.int hi u,.int c v] },toks:=tk }:=I.kept fun b o e=>Heap.get?_push_of_some _ e
 refine⟨(s.heap.push { cls:=.type "range",data:=.fields #[.int lo t,.int hi u,.int c v] }).objs.size,[(s.heap.push { cls:=.type "range",data:=.fields #[.int lo t,.int hi u,.int c v] }).objs.size],_,_,H,rfl,
  I1.kept (t':=tk) fun b o e=>Heap.get?_push_of_some _ e,p7 _ lo (Builtin.Range.rangeSize lo hi c).toNat c,?_,fun b hb=>?_,q⟩
 ·have e1:lo+((0:Nat):Int) * c=lo:=by simp
  have e2:(((Builtin.Range.rangeSize lo hi c).toNat:Nat):Int) - ((0:Nat):Int)=Builtin.Range.rangeSize lo hi c:=by omega
  show IsRangeIter _ _ (lo+((0:Nat):Int) * c) ((((Builtin.Range.rangeSize lo hi c).toNat:Nat):Int) - ((0:Nat):Int)) c
  rw[e1,e2]
  exact Heap.get?_push_size _ rfl
 ·have e:b=(s.heap.push { cls:=.type "range",data:=.fields #[.int lo t,.int hi u,.int c v] }).objs.size:=by simpa using hb
  subst e
  exact I1.fpOk (Nat.le_refl _) (I1.hok.fresh (Nat.le_refl _))
noncomputable def xX (ta:TA):TI:=fun σ H R=>ta σ H fun vs H1=>∃i j c:Int,vs=[.int i,.int j,.int c]/\(c≠0/\Builtin.Range.small i j c=true/\0≤Builtin.Range.rangeSize i j c/\Builtin.divisionGoesByPylong (j - i) c=false)/\R (Dr i (Builtin.Range.rangeSize i j c).toNat c) H1
theorem uW {a b d:Expr}{ta:TA}{p pos:Pos}(hg:Gl X "range")(hm:X.mg "range" = none)(ha:PA X [a,b,d] ta)(hs:starEach [a,b,d] X.env=[(false,eval a X.env),(false,eval b X.env),(false,eval d X.env)]:=by rfl)(hs2:starEach [b,d] X.env=[(false,eval b X.env),(false,eval d X.env)]:=by rfl) :
  PI X tg (.Call (.Name "range" p) [a,b,d] [] pos) (xX ta):=by
 intro pins s σ H R I h
 refine Call_ (gy I hg hm boot_range (PyProof.Rows.callWith_type1 (bv (ha pos pins s σ H _ I h) fun us s1 ⟨vs,H1,I1,r1,q1⟩=>?_) (by rw[hs,hs2]) (by rw[hs2];rfl)))
 obtain⟨i,j,c,e,⟨q1,q2,q3,q4⟩,q⟩:=q1
 subst e
 cases r1 with
 |cons r rr=>
  cases rr with
  |cons r' rr=>
   cases rr with
   |cons r'' rr=>
    cases rr
    obtain⟨t,rfl⟩:=r
    obtain⟨t',rfl⟩:=r'
    obtain⟨t'',rfl⟩:=r''
    exact call_range_3 q1 (uQ I1 q2 q3 q) (.inl q4)
end
end L2
end
section
namespace Dp
open PySem L2 Fo Pu
section
variable {X:Cx}{tg iter:Expr}{t:fG}{fs:FA}
noncomputable def xk (lo:Int)(n:Nat)(c:Int):List PV:=(List.range n).map fun k:Nat=>.int (lo+k * c)
noncomputable def OS (i j c:Int):Bool:=decide (c≠0)&&Builtin.Range.small i j c&&decide (0≤Builtin.Range.rangeSize i j c)&&!Builtin.divisionGoesByPylong (j - i) c
theorem va {K:PySem.W.Frag}{F:Hp}{lo c:Int}{n:Nat}:AS K F (Dr lo n c) (xk lo n c):=fun F1 H1 i s1 s2=>by
 refine⟨fun p e=>?_,fun hl=>by show n≤i;simpa [xk] using hl⟩
 unfold xk at e
 rw[List.getElem?_map] at e
 obtain⟨k,ek,rfl⟩:=Option.map_eq_some_iff.mp e
 obtain⟨hk,rfl⟩:=List.getElem?_eq_some_iff.mp ek
 refine⟨by show i<n;simpa using hk,fun x H2 ⟨e2,y⟩=>?_⟩
 subst e2 y
 exact⟨F1,.refl s2,by rw[List.getElem_range];rfl⟩
noncomputable def LU (t:fG):kl:=fun ρ Q=>t ρ fun ps=>∃i j c:Int,ps=[.int i,.int j,.int c]/\OS i j c=true/\Q (xk i (Builtin.Range.rangeSize i j c).toNat c)
theorem zA (h:PI X tg iter (xX (lAT X.K t))):ur X tg iter (LU t):=PI.weak h fun σ H R hh_=>hh_.elim fun F ρ Qp er q k=>⟨F,ρ,_,er,q,fun ps vs F1 H1 h1 g1 r1=>by
 obtain⟨i,j,c,rfl,o,h⟩:=h1
 cases r1 with
 |cons r1 rr=>
  cases rr with
  |cons r2 rr=>
   cases rr with
   |cons r3 rr=>
    cases rr
    cases r1 with
    |frz r1=>cases r2 with
     |frz r2=>cases r3 with
      |frz r3=>
       unfold OS at o
       rw[Bool.and_eq_true,Bool.and_eq_true,Bool.and_eq_true,decide_eq_true_eq,decide_eq_true_eq,Bool.not_eq_true'] at o
       cases (show _=V.int i from r1)
       cases (show _=V.int j from r2)
       cases (show _=V.int c from r3)
       exact⟨i,j,c,rfl,⟨o.1.1.1,o.1.1.2,o.1.2,o.2⟩,k _ _ F1 H1 h g1 va⟩⟩
noncomputable def xB:List PV->Option (List PV)
 |[.int i,.int j,.int c]=>if OS i j c then some (xk i (Builtin.Range.rangeSize i j c).toNat c) else none
 |_=>none
theorem Gu (h:PI X tg iter (xX (lAT X.K (zT fs)))):DI X tg iter (hJ xB fs):=fq (zA h) fun ρ Q ⟨its,e,q⟩=>by
 obtain⟨rs,e1,e⟩:=Option.bind_eq_some_iff.mp e
 refine⟨rs,e1,?_⟩
 unfold xB at e
 split at e
 ·next i j c ej=>
  split at e
  ·next z=>cases e;exact⟨i,j,c,ej,z,q⟩
  ·cases e
 ·cases e
end
end Dp
end
section
namespace Dp
open PySem PySem.Spec L2 Pu
noncomputable abbrev Fn:=List PV->Option PR
structure Gc where
 bi:List Str:=[]
 nis:List (Str×Int):=[]
 tups:List (Str×List PV):=[]
 nums:List (Str×List (Str×Int)):=[]
 vals:List (Str×Addr):=[]
 fns:List (Str×Fn):=[]
 tab:yz:=[]
structure Lc where
 sc:Scope
 N:List Str
 top:Bool:=true
 own:List Str:=[]
 frz:List (Nat×List Nat):=[]
 alt:List (Nat×Nat):=[]
 cmp:List ((Nat×Nat)×List Str):=[]
noncomputable def DK (x:Str):List Str->Option Nat
 |[]=>none
 |y::r=>if x=y then some 0 else (DK x r).map (·+1)
theorem kE {x:Str}:∀{l:List Str} {i:Nat},DK x l=some i->l[i]?=some x
 |[],_,h=>by cases h
 |y::r,i,h=>by
  unfold DK at h
  split at h
  ·next e=>cases h;rw[e];rfl
  ·obtain⟨j,e,rfl⟩:=Option.map_eq_some_iff.mp h
   rw[List.getElem?_cons_succ];exact kE e
noncomputable def FH (x:Str):Bool:=x == "__debug__" || x == "__classdict__" || x == "__name__"
noncomputable def dm:FE:=fun _=>none
noncomputable def nM:Expr->Bool
 |.Starred _ _=>false
 |_=>true
theorem dW {e:Expr}(h:nM e=true):NS e:=by
 cases e<;>first|(exact fun _ _=>rfl)|(cases h)
theorem j3 {pos:Pos}{env:Env}:∀{es:List Expr},es.all nM=true->(backTo pos (starEach es env)).any (·.1)=false
 |[],_=>rfl
 |e::es,h=>by
  rw[List.all_cons,Bool.and_eq_true] at h
  rw[dW h.1]
  exact j3 (es:=es) h.2
noncomputable def Pe (L:Lc)(x:Str):Bool:=match L.sc.names.lookup x with
 |some .local=>true
 |some .cell=>true
 |some .free=>true
 |_=>false
noncomputable def glob (L:Lc)(x:Str):Bool:=L.sc.names.lookup x==some .globalImplicit&&!FH x
noncomputable def slot (L:Lc)(x:Str):Option Nat:=if Pe L x&&!FH x then DK x L.N else none
noncomputable def eJ (L:Lc)(x:Str):Option Nat:=if L.sc.names.lookup x==some .local || L.top&&L.sc.names.lookup x==some .cell then DK x L.N else none
noncomputable def N7 (x:Str):FE:=if x = "int" then fC (.ty "int") else if x = "bool" then fC (.ty "bool") else if x = "str" then fC (.ty "str") else if x = "list" then fC (.ty "list") else if x = "tuple" then fC (.ty "tuple") else if x = "dict" then fC (.ty "dict") else dm
noncomputable def y7 (G:Gc)(L:Lc)(x:Str):FE:=
 match slot L x with
 |some i=>fV i
 |none=>if glob L x then (match G.nis.lookup x with
  |some i=>fC (.int i)
  |none=>match G.tups.lookup x with
   |some ps=>fC (.ktu ps)
   |none=>match G.vals.lookup x with
    |some a=>fC (.fn a)
    |none=>if G.bi.contains x then N7 x else dm) else dm
noncomputable def NJ (f:Expr->FE):List Expr->FA
 |[]=>ae
 |e::es=>aa (f e) (NJ f es)
noncomputable def vA (f:Expr->FE)(es:List Expr):FA:=if es.all nM then NJ f es else fun _=>none
noncomputable def O9:Operator->PV->PV->Option RV
 |.Add=>be
 |.Sub=>iB
 |.Mult=>di
 |.FloorDiv=>gh
 |.Mod=>aL
 |.Pow=>B1
 |.RShift=>J6
 |.LShift=>KA
 |.BitAnd=>yP
 |_=>fun _ _=>none
noncomputable def sL:CmpOp->PV->PV->Option RV
 |.Lt=>D1
 |.LtE=>wm
 |.Gt=>zC
 |.GtE=>MQ
 |.Eq=>ge
 |.NotEq=>na
 |.In=>zW
 |.NotIn=>kU
 |.Is=>MX
 |.IsNot=>oO
noncomputable def Cc (L:Lc)(p:Pos):Bool:=L.alt.contains (p.line,p.col)
noncomputable def MV (x:Str)(alt:Bool)(n:Nat)(fs:FA):FE:=
 if x = "len" then fB fW fs else if x = "abs" then fB wp fs else if x = "all" then fB By fs else if x = "any" then fB Bj fs
 else if x = "isinstance" then fB eg fs else if x = "sorted" then (if alt then fB sG fs else fB j5 fs)
 else if x = "max" then (if n=2 then fB tm fs else fB mU fs) else if x = "min" then (if n=2 then fB ky fs else fB wX fs)
 else if x = "sum" then fB rP fs else if x = "int" then fB pR fs else if x = "tuple" then (if alt then fB lh fs else fB jV fs)
 else if x = "list" then fB eV fs else if x = "range" then fB sH fs else dm
noncomputable def zo (G:Gc)(L:Lc)(f:Expr->FE)(x:Str)(args:List Expr)(pos:Pos):FE:=
 match slot L x with
 |some i=>if args.isEmpty then dm else sK G.tab i (vA f args)
 |none=>if glob L x then (match G.fns.lookup x with
  |some F=>if args.isEmpty then xW F else aw F (vA f args)
  |none=>if G.bi.contains x&&!args.isEmpty then MV x (Cc L pos) args.length (vA f args) else dm) else dm
noncomputable def NP:Nat->Expr->List Str
 |_+1,.Name x _=>[x]
 |n+1,.Tuple es _ _=>es.flatMap (NP n)
 |_,_=>[]
noncomputable def Oe (f:Expr->FT):List Expr->zX
 |[]=>g0
 |e::es=>gC (f e) (Oe f es)
noncomputable def vT:Nat->Lc->Expr->FT
 |_+1,L,.Name x _=>match eJ L x with
  |some i=>gN i
  |none=>fun _ _=>none
 |n+1,L,.Tuple es _ _=>if es.all nM then m9 es.length (Oe (vT n L) es) else fun _ _=>none
 |_,_,_=>fun _ _=>none
noncomputable def Fb:TG:=fun _ _ _ _=>False
noncomputable def Jz (f:Expr->TG):List Expr->rb
 |[]=>vE
 |e::es=>nF (f e) (Jz f es)
noncomputable def tG (K:PySem.W.Frag):Nat->Lc->Expr->TG
 |_+1,L,.Name x _=>match eJ L x with
  |some i=>dc i
  |none=>Fb
 |n+1,L,.Tuple es _ _=>if es.all nM then vz K es.length (Jz (tG K n L) es) else Fb
 |_,_,_=>Fb
noncomputable def Me:Nat->Lc->Expr->List Nat
 |_+1,L,.Name x _=>(eJ L x).toList
 |n+1,L,.Tuple es _ _=>es.flatMap (Me n L)
 |_,_,_=>[]
noncomputable def K0:Expr->Bool
 |.Set _ _ _=>false
 |_=>true
noncomputable def xH:Expr->Bool
 |.Tuple _ _ _=>true
 |_=>false
noncomputable def qm (L:Lc):Expr->Bool
 |.Name x _=>L.own.contains x
 |_=>false
noncomputable def vI (G:Gc)(L:Lc)(f:Expr->FE)(own:Bool)(tg it:Expr):FI:=
 if own then J7 (f it) else match it with
 |.Call (.Name x _) [a] [] p=>
  if x = "range"&&glob L "range"&&G.bi.contains "range" then hJ hX (vA f [a])
  else if x = "enumerate"&&glob L "enumerate"&&G.bi.contains "enumerate"&&xH tg then (if Cc L p then jx (vA f [a]) else xF (vA f [a])) else wn (f it)
 |.Call (.Name x _) [a,b] [] _=>if x = "range"&&glob L "range"&&G.bi.contains "range" then hJ GF (vA f [a,b]) else wn (f it)
 |.Call (.Name x _) [a,b,d] [] _=>if x = "range"&&glob L "range"&&G.bi.contains "range" then hJ xB (vA f [a,b,d]) else wn (f it)
 |_=>wn (f it)
noncomputable def zq (sc o:Scope):Scope:={ sc with names:=sc.names.map fun (n,k)=>if k==.free&&o.kind==.function&&o.names.lookup n==some .cell then (n,.cell) else (n,k) }
noncomputable def vO (f:Expr->FE):Option Expr->FO
 |none=>Eb
 |some e=>DC (f e)
noncomputable abbrev RE:=Lc->Expr->FE
noncomputable abbrev RB:=Lc->Expr->FB
noncomputable def MR (L:Lc)(tg:Expr)(N2:List Str):List (Option Nat):=N2.map fun x=>if (NP 5 tg).contains x then none else DK x L.N
noncomputable def FL (L:Lc)(sc:Scope)(tg:Expr)(N2:List Str):Lc:={ L with sc:=zq sc L.sc,N:=N2,top:=false,own:=L.own.filter fun x=>!(NP 5 tg).contains x }
noncomputable def O2 (L:Lc)(sc:Scope)(tg it:Expr)(N2:List Str):Bool:=
 iG sc.kind sc.names (fun x=>L.sc.names.lookup x) L.N N2 (MR L tg N2)&&decide N2.Nodup&&(Me 5 (FL L sc tg N2) tg).all (fun i=>(MR L tg N2)[i]?==some none)&&K0 it
noncomputable def Pk (rB:RB)(L:Lc):List Expr->FB
 |[]=>pk
 |[c]=>rB L c
 |_=>fun _=>none
noncomputable def Oy (G:Gc)(rE:RE)(rB:RB)(L:Lc)(elt tg it:Expr)(ifs:List Expr)(sc:Scope)(p:Pos):FE:=
 match L.cmp.lookup (p.line,p.col) with
 |none=>dm
 |some N2=>if O2 L sc tg it N2 then fv (MR L tg N2) (vI G L (rE L) (qm L it) tg it) (vT 5 (FL L sc tg N2) tg) (Pk rB (FL L sc tg N2) ifs) (rE (FL L sc tg N2) elt) else dm
noncomputable def gP:Expr->Bool
 |.Slice _ _ none _=>false
 |_=>true
noncomputable def OJ (G:Gc)(rE:RE)(rB:RB)(L:Lc):Expr->FE
 |.Constant (.int i) _ _=>fC (.int i)
 |.Constant (.bool b) _ _=>fC (.bl b)
 |.Constant .none _ _=>fC .non
 |.Constant (.str x) _ _=>fC (.str x)
 |.Name x _=>y7 G L x
 |.BinOp a op b _=>af (O9 op) (rE L a) (rE L b)
 |.UnaryOp .USub a _=>sd (rE L a)
 |.UnaryOp .Not a _=>t9 (rE L a)
 |.Compare a [op] [b] _=>if behindInMarks op b then dm else af (sL op) (rE L a) (rE L b)
 |.Compare a [o1,o2] [b,c] _=>if lastMarks [o1,o2] [b,c] then dm else Ge (sL o1) (sL o2) (rE L a) (rE L b) (rE L c)
 |.BoolOp _ [a] _=>sx (rE L a)
 |.BoolOp .And (a::b::r) p=>ng (rE L a) (rE L (.BoolOp .And (b::r) p))
 |.BoolOp .Or (a::b::r) p=>Gk (rE L a) (rE L (.BoolOp .Or (b::r) p))
 |.IfExp c a b _=>MT (rB L c) (rE L a) (rE L b)
 |.Tuple es _ _=>cI (vA (rE L) es)
 |.List es _=>eT (vA (rE L) es)
 |.ListComp elt [⟨tg,it,ifs,0⟩] sc p=>Oy G rE rB L elt tg it ifs sc p
 |.Subscript a (.Slice none none (some (.UnaryOp .USub (.Constant (.int 1) _ _) _)) _) _=>Hd (rE L a)
 |.Subscript a (.Slice lo hi none _) p=>if Cc L p then Ku (rE L a) (vO (rE L) lo) (vO (rE L) hi) else D8 (rE L a) (vO (rE L) lo) (vO (rE L) hi)
 |.Subscript a b p=>if gP b then (if Cc L p then af vm (rE L a) (rE L b) else af bx (rE L a) (rE L b)) else dm
 |.Call (.Name x _) args [] p=>zo G L (rE L) x args p
 |.Call (.Attribute (.Name d _) m ap) [a] [] p=>match G.nums.lookup d with
  |some kvs=>if m = "get"&&glob L d&&ap.endLine==p.line&&nM a then j7 kvs (rE L a) else dm
  |none=>dm
 |_=>dm
noncomputable def wT:Expr->Bool
 |.UnaryOp .Not _ _=>false
 |.BoolOp _ _ _=>false
 |.IfExp _ _ _ _=>false
 |.Compare _ _ _ _=>false
 |_=>true
noncomputable def vW (f:Expr->FB)(op:BoolOp):List Expr->FB
 |[]=>fun _=>none
 |[a]=>f a
 |a::r=>match op with
  |.And=>fu (f a) (vW f op r)
  |.Or=>g7 (f a) (vW f op r)
noncomputable def OA (rE:RE)(rB:RB)(L:Lc):Expr->FB
 |.Compare a [op] [b] _=>if behindInMarks op b then fun _=>none else fT (af (sL op) (rE L a) (rE L b))
 |.Compare a [o1,o2] [b,c] _=>if lastMarks [o1,o2] [b,c] then fun _=>none else fT (Ge (sL o1) (sL o2) (rE L a) (rE L b) (rE L c))
 |.BoolOp op vs _=>vW (rB L) op vs
 |.UnaryOp .Not a _=>ku (rB L a)
 |e=>if wT e then fT (rE L e) else fun _=>none
noncomputable def Cu (G:Gc):Nat->RE×RB
 |0=>(fun _ _=>dm,fun _ _ _=>none)
 |n+1=>(OJ G (Cu G n).1 (Cu G n).2,OA (Cu G n).1 (Cu G n).2)
noncomputable def Et (L:Lc)(v:Expr)(t:Str)(tp:Pos):Bool:=match v with
 |.ListComp _ _ s p|.SetComp _ _ s p|.DictComp _ _ _ s p=>L.sc.kind==.function&&L.sc.names.lookup t==some .local&&tp.line==p.line&&!(s.names.any fun (n,k)=>n==t&&(k==.local || k==.cell))
 |_=>false
noncomputable def Hc:Expr->Bool
 |.ListComp _ _ _ _|.SetComp _ _ _ _|.DictComp _ _ _ _ _=>true
 |_=>false
noncomputable def Lk:Expr->Bool
 |.List _ _=>true
 |.Call (.Name x _) _ _ _=>x == "list"
 |_=>false
noncomputable def MP (L:Lc)(ts vs:List Expr):Option (Option (List Str)):=
 if (!(ts.length==2 || ts.length==3) || vs.length != ts.length || L.sc.kind != .function)=true then some none
 else if (vs.any fun|.Starred ..=>true|_=>false)=true then some none
 else
  let line:=(ts.head?.map (·.pos.line)).getD 0
  let names:=ts.filterMap fun
   |.Name id pos=>if L.sc.names.lookup id==some .local&&pos.line==line then some id else none
   |_=>none
  if (names.length != ts.length || names.eraseDups.length != names.length)=true then some none
  else if vs.all (foldedForSure 8)=true then some none
  else if vs.all (constantsAlone 8)=true then none
  else some (some names)
noncomputable def Ld (L:Lc)(tg v:Expr):Bool:=match tg,v with
 |.Tuple ts _ _,.Tuple vs _ _=>match MP L ts vs with
  |some none=>true
  |_=>false
 |.Tuple _ _ _,_=>true
 |_,_=>false
noncomputable def frzs:List Nat->FS->FS
 |[],s=>s
 |i::r,s=>frzs r (Jp i s)
noncomputable def vL (f:Stmt->FS):List Stmt->FS
 |[]=>aH
 |[s]=>f s
 |s::r=>al (f s) (vL f r)
noncomputable def Gq:Operator->Option (Int->Int->Int)
 |.Add=>some fun a b=>a+b
 |.Sub=>some fun a b=>a - b
 |_=>none
noncomputable def Nj (G:Gc)(rE:RE)(L:Lc)(tg v:Expr):FS:=
 match tg with
 |.Name x p=>match eJ L x with
  |some i=>if Et L v x p&&(match v with
   |.ListComp _ [⟨_,it,_,0⟩] _ _=>qm L it
   |_=>true) then d8 else if L.own.contains x then ia i (rE L v) else aT i (rE L v)
  |none=>d8
 |.Subscript (.Name j _) ix _=>match slot L j with
  |some i=>if gP ix&&!Hc v then mL i (rE L ix) (rE L v) else d8
  |none=>d8
 |.Tuple [.Name x px,.Name y py] k pt=>match v with
  |.Tuple [a,b] _ _=>match MP L [.Name x px,.Name y py] [a,b],DK x L.N,DK y L.N with
   |some (some l),some i,some j=>if l==[x,y]&&nM a&&nM b&&i != j&&L.sc.names.lookup x==some .local&&L.sc.names.lookup y==some .local then
     (if L.own.contains x&&L.own.contains y&&Lk a&&Lk b then qO i j (rE L a) (rE L b) else iF i j (vA (rE L) [a,b])) else d8
   |some none,_,_=>hZ (rE L v) (vT 5 L tg)
   |_,_,_=>d8
  |_=>if xH v then d8 else hZ (rE L v) (vT 5 L tg)
 |_=>if Ld L tg v then hZ (rE L v) (vT 5 L tg) else d8
noncomputable def NF (G:Gc)(rE:RE)(rB:RB)(rS:Lc->Stmt->FS)(L:Lc):Stmt->FS
 |.Return (some (.Name x p)) _=>match slot L x with
  |some i=>eU i
  |none=>cx (rE L (.Name x p))
 |.Return (some e) _=>cx (rE L e)
 |.If c a b _=>fF (rB L c) (vL (rS L) a) (vL (rS L) b)
 |.For tg it body [] _=>if K0 it then gJ (vI G L (rE L) false tg it) (vT 5 L tg) (vL (rS L) body) else d8
 |.While c body [] _=>gK (rB L c) (vL (rS L) body)
 |.Assign [tg] v _=>Nj G rE L tg v
 |.AugAssign (.Name x _) op v _=>match eJ L x,Gq op with
  |some i,some g=>ul g i (rE L v)
  |_,_=>d8
 |.AugAssign (.Subscript (.Name j _) ix _) op v _=>match slot L j,Gq op with
  |some i,some g=>if gP ix then oG g i (rE L ix) (rE L v) else d8
  |_,_=>d8
 |.Expr (.Constant (.str _) _ _) _=>aH
 |.Expr (.Call (.Attribute (.Name o _) m ap) [] [] cp) _=>match slot L o with
  |some i=>if m = "reverse"&&ap.endLine==cp.line then HU i else d8
  |none=>d8
 |.Expr (.Call (.Attribute (.Name o op) m ap) (a::as) [] cp) _=>match slot L o with
  |some i=>if m = "append"&&ap.endLine==cp.line&&(a::as).all nM&&decide (as.length<20) then kK i (vA (rE L) (a::as)) else d8
  |none=>jJ (rE L (.Call (.Attribute (.Name o op) m ap) (a::as) [] cp))
 |.Expr e _=>if Hc e then d8 else jJ (rE L e)
 |.Pass _=>aH
 |.Break _=>Os
 |.Continue _=>Oa
 |_=>d8
noncomputable def vS (G:Gc):Nat->Lc->Stmt->FS
 |0=>fun _ _=>d8
 |n+1=>fun L s=>frzs ((L.frz.lookup s.pos.line).getD []) (NF G (Cu G n).1 (Cu G n).2 (vS G n) L s)
end Dp
end
section
namespace Dp
open PySem PySem.Spec L2 Pu
structure GOk (P:Program)(w:World)(K:PySem.W.Frag)(mg:Str->Option Value)(base:Heap)(k:Nat)(G:Gc):Prop where
 bi:∀x,G.bi.contains x=true->mg x=none
 nis:∀x i,G.nis.lookup x=some i->∃t,mg x=some (.int i t)
 tups:∀x ps,G.tups.lookup x=some ps->∃a,mg x=some (.ref a)/\KTup K a ps
 nums:∀x kvs,G.nums.lookup x=some kvs->∃a,mg x=some (.ref a)/\NumTab w K a kvs
 vals:∀x a,G.vals.lookup x=some a->mg x=some (.ref a)
 fns:∀x F,G.fns.lookup x=some F->∃j ps,j≤k/\Def P w K mg base j x ps (bq K (bR F))
 tab:∃j qs,j≤k/\∀a F,look G.tab a=some F->wV P w K mg base j a qs (bq K (bR F))
structure Ok (X:Cx)(k:Nat)(G:Gc)(L:Lc):Prop where
 g:GOk X.prog X.w X.K X.mg X.base k G
 r:Room k X.A
 sc:X.env.scope=L.sc
 N:X.N=L.N
 nd:L.N.Nodup
 fk:L.sc.kind=.function
 calm:X.calm=true
 top:L.top=true->∀x,X.fn x=true
 xe:X.xe=fun _ _=>False
theorem fM {X:Cx}{e:Expr}{f:FE}(h:∀ρ,f ρ=none):DE X e f:=fun _ _ _ _ _ _ hh=>by
 obtain⟨F,ρ,r,_,e,_⟩:=hh
 rw[h] at e;cases e
theorem wQ {X:Cx}{e:Expr}{f:FB}(h:∀ρ,f ρ=none):DB X e f:=fun _ _ _ _ _ _ hh=>by
 obtain⟨F,ρ,r,_,⟨b,e,_⟩,_⟩:=hh
 rw[h] at e;cases e
theorem C0 {X:Cx}{e tg:Expr}{f:FI}(h:∀ρ,f ρ=none):DI X tg e f:=fun _ _ _ _ _ _ hh=>by
 obtain⟨F,ρ,r,_,⟨b,e,_⟩,_⟩:=hh
 rw[h] at e;cases e
theorem Nw {X:Cx}{es:List Expr}:DA X es (fun _=>none):=by
 constructor
 ·intro _ _ _ _ _ _ _ hh
  obtain⟨F,ρ,r,_,⟨b,_,e,_⟩,_⟩:=hh
  cases e
 ·intro _ _ _ _ _ _ _ hh
  obtain⟨F,ρ,r,_,⟨b,e,_⟩,_⟩:=hh
  cases e
section
variable {X:Cx}{k:Nat}{G:Gc}{L:Lc}{x:Str}{i:Nat}{pos:Pos}{e:Expr}
theorem dw (h:FH x=false):(x==("__debug__" : Str))=false/\(x==("__classdict__" : Str))=false/\x≠("__name__" : Str):=by
 unfold FH at h
 simp only[Bool.or_eq_false_iff] at h
 exact⟨h.1.1,h.1.2,fun z=>by have:=h.2;rw[z] at this;simp at this⟩
theorem t0 (o:Ok X k G L)(h:slot L x=some i):X.N[i]?=some x/\D7 X.env.scope x/\FH x=false:=by
 unfold slot at h
 split at h
 ·next z=>
  rw[Bool.and_eq_true,Bool.not_eq_true'] at z
  refine⟨by rw[o.N];exact kE h,?_,z.2⟩
  have z1:=z.1
  unfold Pe at z1
  unfold D7
  rw[o.sc]
  split at z1<;>first|(next q=>simp[q])|cases z1
 ·cases h
theorem Ok.pv (o:Ok X k G L)(h:slot L x=some i):PE X (.Name x pos) (iA i):=by
 obtain⟨h1,h2,h3⟩:=t0 o h
 exact sN h1 h2 (dw h3).1 (dw h3).2.1
theorem dY (o:Ok X k G L)(h:glob L x=true):Gl X x/\FH x=false:=by
 unfold glob at h
 rw[Bool.and_eq_true,Bool.not_eq_true',beq_iff_eq] at h
 exact⟨by show X.env.scope.names.lookup x=_;rw[o.sc];exact h.1,h.2⟩
theorem iP (o:Ok X k G L)(h:eJ L x=some i):X.N[i]?=some x/\L2.IV X.env.scope x/\(X.fn x=true\/X.env.scope.names.lookup x=some .local):=by
 unfold eJ at h
 split at h
 ·next z=>
  rw[Bool.or_eq_true,Bool.and_eq_true,beq_iff_eq,beq_iff_eq] at z
  refine⟨by rw[o.N];exact kE h,?_,?_⟩
  ·show X.env.scope.names.lookup x=_\/X.env.scope.names.lookup x=_
   rw[o.sc];exact z.elim .inl fun z=>.inr z.2
  ·rw[o.sc];exact z.elim .inr fun z=>.inl (o.top z.1 x)
 ·cases h
theorem Ok.nd' (o:Ok X k G L):X.N.Nodup:=by rw[o.N];exact o.nd
theorem KQ (hm:X.mg x=none)(hg:Gl X x)(hd:FH x=false):DE X (.Name x pos) (N7 x):=by
 unfold N7
 have key:∀n,bootBuiltins x=some (.type n)->DE X (.Name x pos) (fC (.ty n)):=fun n h=>DJ (sq (p:=.ty n) (El hm h hg (dw hd).2.2 (dw hd).1))
 repeat' split
 ·next z=>exact key _ (by rw[z];exact zJ)
 ·next z=>exact key _ (by rw[z];exact Dh)
 ·next z=>exact key _ (by rw[z];exact yE)
 ·next z=>exact key _ (by rw[z];exact oo)
 ·next z=>exact key _ (by rw[z];exact kJ)
 ·next z=>exact key _ (by rw[z];exact Bm)
 ·exact fM fun _=>rfl
theorem CQ (o:Ok X k G L):DE X (.Name x pos) (y7 G L x):=by
 unfold y7
 split
 ·next i h=>exact Pa (o.pv h)
 ·split
  ·next hg=>
   obtain⟨hg,hd⟩:=dY o hg
   split
   ·next i h=>exact DJ (sq (p:=.int i) (IW (o.g.nis x i h) hg (dw hd).1))
   ·split
    ·next ps h=>exact MN (o.g.tups x ps h) hg (dw hd).1
    ·split
     ·next a h=>exact NG (o.g.vals x a h) hg (dw hd).1
     ·split
      ·next h=>exact KQ (o.g.bi x h) hg hd
      ·exact fM fun _=>rfl
  ·exact fM fun _=>rfl
theorem Em {f:Expr->FE}(h:∀e,DE X e (f e)):∀{es:List Expr},es.all nM=true->DA X es (NJ f es)
 |[],_=>Mp
 |e::es,z=>by
  rw[List.all_cons,Bool.and_eq_true] at z
  exact Hi (dW z.1) (h e) (Em h z.2)
theorem mK {f:Expr->FE}(h:∀e,DE X e (f e))(es:List Expr):DA X es (vA f es):=by
 unfold vA
 split
 ·next z=>exact Em h z
 ·exact Nw
theorem Kd {a b:Expr}{fa fb:FE}{op:Operator}(ha:DE X a fa)(hb:DE X b fb):DE X (.BinOp a op b pos) (af (O9 op) fa fb):=by
 cases op<;>first
  |exact Ls ha hb
  |exact K6 ha hb
  |exact Kh ha hb
  |exact L8 ha hb
  |exact Lr ha hb
  |exact Kg ha hb
  |exact Mb ha hb
  |exact LX ha hb
  |exact Jr ha hb
  |(refine fM fun ρ=>?_
    show (fa ρ).bind (fun x=>(fb ρ).bind fun y=>none)=none
    cases fa ρ<;>simp)
theorem jo (hu:X.A.units+64<cLine)(op:CmpOp):CmpR X op (sL op):=by
 cases op<;>first
  |exact Ow
  |exact OT
  |exact OG
  |exact Ov
  |exact Ot hu
  |exact M3 hu
  |exact Ol hu
  |exact B0 hu
  |exact Nd
  |exact CH
theorem Ki (o:Ok X k G L)(hx:G.bi.contains x=true)(hgl:glob L x=true){es:List Expr}{fs:FA}{p:Pos}{alt:Bool}{n:Nat}(ha:DA X (e::es) fs)(hs:(e::es).all nM=true):DE X (.Call (.Name x p) (e::es) [] pos) (MV x alt n fs):=by
 obtain⟨hg,hd⟩:=dY o hgl
 have hm:=o.g.bi x hx
 rw[List.all_cons,Bool.and_eq_true] at hs
 have he:=dW hs.1 es X.env
 have hp:(backTo pos (starEach es X.env)).any (·.1)=false:=j3 hs.2
 obtain⟨d1,d2,d3⟩:=dw hd
 have hc:=o.calm
 unfold MV
 by_cases z:x = "len"
 ·rw[if_pos z]
  exact iY EA Ag (bO wD hg hm (by rw[z];exact GL) ha.t d3 d1 he hp)
 rw[if_neg z];clear z
 by_cases z:x = "abs"
 ·rw[if_pos z]
  exact iY GU Dq (bO yQ hg hm (by rw[z];exact Ew) ha.t d3 d1 he hp)
 rw[if_neg z];clear z
 by_cases z:x = "all"
 ·rw[if_pos z]
  exact iY Hh Bz (bO (xT hc) hg hm (by rw[z];exact IN) ha.t d3 d1 he hp)
 rw[if_neg z];clear z
 by_cases z:x = "any"
 ·rw[if_pos z]
  exact iY GH Cj (bO (wt hc) hg hm (by rw[z];exact FN) ha.t d3 d1 he hp)
 rw[if_neg z];clear z
 by_cases z:x = "isinstance"
 ·rw[if_pos z]
  exact iY ES Jj (bO jH hg hm (by rw[z];exact ij) ha.t d3 d1 he hp)
 rw[if_neg z];clear z
 by_cases z:x = "sorted"
 ·rw[if_pos z]
  cases alt with
  |true=>exact La rO vw (bO oR hg hm (by rw[z];exact m5) ha.t d3 d1 he hp)
  |false=>exact La rZ rL (bO oQ hg hm (by rw[z];exact m5) ha.t d3 d1 he hp)
 rw[if_neg z];clear z
 by_cases z:x = "max"
 ·rw[if_pos z]
  by_cases hn:n=2
  ·rw[if_pos hn];exact iY CY wY (bO (um hc) hg hm (by rw[z];exact ye) ha.t d3 d1 he hp)
  ·rw[if_neg hn];subst z;exact Gm hm ha hc hg he hp
 rw[if_neg z];clear z
 by_cases z:x = "min"
 ·rw[if_pos z]
  by_cases hn:n=2
  ·rw[if_pos hn];exact iY AU yY (bO (vY hc) hg hm (by rw[z];exact yi) ha.t d3 d1 he hp)
  ·rw[if_neg hn];subst z;exact Ho hm ha hc hg he hp
 rw[if_neg z];clear z
 by_cases z:x = "sum"
 ·rw[if_pos z]
  subst z;exact J3 hm ha hc hg he hp
 rw[if_neg z];clear z
 by_cases z:x = "int"
 ·rw[if_pos z]
  exact iY Jg Dj (d5 vk hg hm (by rw[z];exact zJ) ha.t d3 d1 he hp)
 rw[if_neg z];clear z
 by_cases z:x = "tuple"
 ·rw[if_pos z]
  cases alt with
  |true=>subst z;exact Gg hm ha hc hg he hp
  |false=>exact iY GJ C6 (d5 md hg hm (by rw[z];exact kJ) ha.t d3 d1 he hp)
 rw[if_neg z];clear z
 by_cases z:x = "list"
 ·rw[if_pos z]
  subst z;exact BO hm ha hc hg he hp
 rw[if_neg z];clear z
 by_cases z:x = "range"
 ·rw[if_pos z]
  exact iY IA Cs (d5 pW hg hm (by rw[z];exact yb) ha.t d3 d1 he hp)
 rw[if_neg z];clear z
 exact fM fun _=>rfl
theorem Gi {c:Prop}[Decidable c]{a b:FE}{ρ:ai}(ha:a ρ=none)(hb:b ρ=none):(if c then a else b) ρ=none:=by
 by_cases h:c
 ·rw[if_pos h];exact ha
 ·rw[if_neg h];exact hb
theorem C7 (o:Ok X k G L){f:Expr->FE}(h:∀e,DE X e (f e))(args:List Expr){p:Pos}:DE X (.Call (.Name x p) args [] pos) (zo G L f x args pos):=by
 unfold zo
 cases args with
 |nil=>
  split
  ·exact fM fun _=>rfl
  ·split
   ·next hg=>
    obtain⟨hg,hd⟩:=dY o hg
    split
    ·next F hF=>
     obtain⟨j,ps,hj,d⟩:=o.g.fns x F hF
     exact xj d o.r hj hg (dw hd).1
    ·rw[show ([]:List Expr).isEmpty=true from rfl,Bool.not_true,Bool.and_false]
     exact fM fun _=>rfl
   ·exact fM fun _=>rfl
 |cons e es=>
  by_cases hs:(e::es).all nM=true
  ·have ha:=mK (X:=X) h (e::es)
   have hs':=hs
   rw[List.all_cons,Bool.and_eq_true] at hs'
   have he:=dW hs'.1 es X.env
   have hp:(backTo pos (starEach es X.env)).any (·.1)=false:=j3 hs'.2
   split
   ·next i hi=>
    obtain⟨h1,h2,h3⟩:=t0 o hi
    obtain⟨j,qs,hj,ht⟩:=o.g.tab
    exact Av ht o.r h1 ha h2 hj (dw h3).1 (dw h3).2.1 he hp
   ·split
    ·next hgl=>
     obtain⟨hg,hd⟩:=dY o hgl
     split
     ·next F hF=>
      obtain⟨j,ps,hj,d⟩:=o.g.fns x F hF
      exact Bl d o.r ha hj hg (dw hd).1 he hp
     ·split
      ·next hb=>
       rw[Bool.and_eq_true] at hb
       exact Ki o hb.1 hgl ha hs
      ·exact fM fun _=>rfl
    ·exact fM fun _=>rfl
  ·have hn:vA f (e::es)=fun _=>none:=by unfold vA;rw[if_neg hs]
   rw[hn]
   refine fM fun ρ=>?_
   cases slot L x with
   |some i=>
    show o9 _ (sl ρ i) none=none
    unfold o9
    split
    ·next h1 h2=>cases h2
    ·rfl
   |none=>
    by_cases hg:glob L x=true
    ·dsimp only
     rw[if_pos hg]
     cases G.fns.lookup x with
     |some F=>rfl
     |none=>
      dsimp only
      by_cases hb:(G.bi.contains x&&!(e::es).isEmpty)=true
      ·rw[if_pos hb]
       unfold MV
       repeat' (first|rfl|refine Gi ?_ ?_)
      ·rw[if_neg hb];rfl
    ·dsimp only
     rw[if_neg hg];rfl
end
end Dp
end
section
namespace Dp
open PySem PySem.Spec L2 Pu
section
variable {X:Cx}{k:Nat}{G:Gc}{L:Lc}{x:Str}{i:Nat}{pos:Pos}{e:Expr}
theorem tL {tg:Expr}:PG X tg Fb:=fun _ _ _ _ _ _ _ _ _ h=>h.elim
theorem sZ {K:PySem.W.Frag}:dO K Fb (qT fun _ _=>none):=fun _ _ _ _ _ _ _ _ _ _ ⟨_,e,_⟩=>by cases e
theorem Ah (o:Ok X k G L):PG X (.Name x pos) (match eJ L x with|some i=>dc i|none=>Fb):=by
 cases h:eJ L x with
 |some i=>
  obtain⟨h1,h2,h3⟩:=iP o h
  exact AB o.nd' h1 h2 h3
 |none=>exact tL
theorem oI {env:Env}:∀{es:List Expr},es.all nM=true->(assignEach es env).length=es.length/\(assignEach es env).findIdx? (·.1)=none/\∀e r,es=e::r->(assignEach es env).map (·.2)=assign e env::(assignEach r env).map (·.2)
 |[],_=>⟨rfl,rfl,fun _ _ h=>by cases h⟩
 |e::r,h=>by
  rw[List.all_cons,Bool.and_eq_true] at h
  have he:assignEach (e::r) env=(false,assign e env)::assignEach r env:=by
   have:=h.1
   cases e<;>first|rfl|(cases this)
  obtain⟨h1,h2,_⟩:=oI (env:=env) h.2
  rw[he]
  refine⟨by rw[List.length_cons,List.length_cons,h1],?_,fun _ _ q=>by cases q;rfl⟩
  rw[List.findIdx?_cons,h2];rfl
theorem xl {f:Expr->TG}(h:∀e,PG X e (f e)):∀{es:List Expr},es.all nM=true->ME X es (Jz f es)
 |[],_=>AI
 |e::r,z=>by
  have:=(oI (env:=X.env) z).2.2 e r rfl
  rw[List.all_cons,Bool.and_eq_true] at z
  exact xO (h e) (xl h z.2) this
theorem t3:∀(n:Nat) {L:Lc} {X:Cx},Ok X k G L->∀e,PG X e (tG X.K n L e)
 |0,_,_,_,e=>by cases e<;>exact tL
 |n+1,L,X,o,e=>by
  cases e<;>first|exact tL|exact Ah o|skip
  rename_i es kk p
  unfold tG
  split
  ·next z=>
   obtain⟨h1,h2,_⟩:=oI (env:=X.env) z
   exact FP o.calm (xl (t3 n o) z) h1 h2
  ·exact tL
theorem zb {K:PySem.W.Frag}{f:Expr->TG}{g:Expr->FT}(h:∀e,dO K (f e) (qT (g e))):∀es:List Expr,gL K (Jz f es) (KF (Oe g es))
 |[]=>Ln
 |e::r=>Hx (h e) (zb h r)
theorem sW {K:PySem.W.Frag}:∀(n:Nat) (L:Lc) (e:Expr),dO K (tG K n L e) (qT (vT n L e))
 |0,L,e=>by cases e<;>exact sZ
 |n+1,L,e=>by
  cases e<;>first|exact sZ|skip
  ·unfold tG vT
   cases eJ L _ with
   |some i=>exact EV
   |none=>exact sZ
  ·rename_i es kk p
   unfold tG vT
   split
   ·exact Lx (zb (sW n L) es)
   ·exact sZ
noncomputable def qL (l:List Nat)(g:TG):Prop:=∀x σ H N,g x σ H N->g x σ H fun σ' H'=>N σ' H'/\σ'.length=σ.length/\∀i,i∉l->σ'[i]?=σ[i]?
noncomputable def FU (l:List Nat)(g:rb):Prop:=∀x σ H N,g x σ H N->g x σ H fun σ' H'=>N σ' H'/\σ'.length=σ.length/\∀i,i∉l->σ'[i]?=σ[i]?
theorem fN {l:List Nat}:qL l Fb:=fun _ _ _ _ h=>h.elim
noncomputable def Bg (g:TG):Prop:=∀x σ H N N',(∀σ' H',N σ' H'->N' σ' H')->g x σ H N->g x σ H N'
noncomputable def JW (g:rb):Prop:=∀x σ H N N',(∀σ' H',N σ' H'->N' σ' H')->g x σ H N->g x σ H N'
theorem ko {f:Expr->TG}(h:∀e,Bg (f e)):∀es:List Expr,JW (Jz f es)
 |[],_,_,_,_,_,w,⟨e,q⟩=>⟨e,w _ _ q⟩
 |e::r,_,_,_,_,_,w,⟨v,vs,e1,q⟩=>⟨v,vs,e1,h e _ _ _ _ _ (fun _ _ q=>ko h r _ _ _ _ _ w q) q⟩
theorem j6 {K:PySem.W.Frag}:∀(n:Nat) (L:Lc) (e:Expr),Bg (tG K n L e)
 |0,L,e=>by cases e<;>exact fun _ _ _ _ _ _ h=>h.elim
 |n+1,L,e=>by
  cases e<;>first|exact (fun _ _ _ _ _ _ h=>h.elim)|skip
  ·unfold tG
   cases eJ L _ with
   |some i=>exact fun _ _ _ _ _ w q=>w _ _ q
   |none=>exact fun _ _ _ _ _ _ h=>h.elim
  ·rename_i es kk p
   unfold tG
   split
   ·exact fun _ _ _ _ _ w ⟨a,xs,h1,h2,h3,q⟩=>⟨a,xs,h1,h2,h3,ko (j6 n L) es _ _ _ _ _ w q⟩
   ·exact fun _ _ _ _ _ _ h=>h.elim
theorem ud {l m:List Nat}{g:TG}(hm:Bg g)(h:qL l g)(s:∀i,i∈l->i∈m):qL m g:=fun x σ H N q=>
 hm _ _ _ _ _ (fun _ _ ⟨a,b,c⟩=>⟨a,b,fun i hi=>c i fun z=>hi (s i z)⟩) (h x σ H N q)
theorem nb {f:Expr->TG}{l:List Nat}(hm:∀e,Bg (f e)):∀es:List Expr,(∀e∈es,qL l (f e))->FU l (Jz f es)
 |[],_,_,_,_,_,⟨e,q⟩=>⟨e,q,rfl,fun _ _=>rfl⟩
 |e::r,h,_,σ,_,_,⟨v,vs,e1,q⟩=>⟨v,vs,e1,hm e _ _ _ _ _ (fun σ1 H1 ⟨q,l1,k1⟩=>ko hm r _ _ _ _ _ (fun σ2 H2 ⟨q,l2,k2⟩=>⟨q,l2.trans l1,fun i hi=>(k2 i hi).trans (k1 i hi)⟩)
   (nb hm r (fun z hz=>h z (List.mem_cons_of_mem _ hz)) _ _ _ _ q)) (h e List.mem_cons_self _ _ _ _ q)⟩
theorem pB {K:PySem.W.Frag}:∀(n:Nat) (L:Lc) (e:Expr),qL (Me n L e) (tG K n L e)
 |0,L,e=>by cases e<;>exact fN
 |n+1,L,e=>by
  cases e<;>first|exact fN|skip
  ·unfold tG Me
   cases eJ L _ with
   |some i=>exact fun _ σ _ _ q=>⟨q,List.length_set,fun j hj=>List.getElem?_set_ne fun z=>hj (by rw[z];simp)⟩
   |none=>exact fN
  ·rename_i es kk p
   unfold tG
   split
   ·refine fun _ _ _ _ ⟨a,xs,h1,h2,h3,q⟩=>⟨a,xs,h1,h2,h3,nb (j6 n L) es (fun e he=>ud (j6 n L e) (pB n L e) fun i hi=>?_) _ _ _ _ q⟩
    unfold Me
    exact List.mem_flatMap.mpr ⟨e,he,hi⟩
   ·exact fN
theorem D2 (o:Ok X k G L){f:Expr->FE}(h:∀e,DE X e (f e))(tg it:Expr):DI X tg it (vI G L f false tg it):=by
 unfold vI
 rw[if_neg Bool.false_ne_true]
 split
 ·next y p a p'=>
  split
  ·next z=>
   rw[Bool.and_eq_true,Bool.and_eq_true,decide_eq_true_eq] at z
   obtain⟨⟨rfl,z2⟩,z3⟩:=z
   obtain⟨hg,hd⟩:=dY o z2
   by_cases hs:[a].all nM=true
   ·exact Js (vX hg (o.g.bi _ z3) (mK h [a]).t (by
     rw[List.all_cons,Bool.and_eq_true] at hs
     exact dW hs.1 [] X.env))
   ·have:vA f [a]=fun _=>none:=by unfold vA;rw[if_neg hs]
    rw[this];exact C0 fun _=>rfl
  ·split
   ·next z=>
    rw[Bool.and_eq_true,Bool.and_eq_true,Bool.and_eq_true,decide_eq_true_eq] at z
    obtain⟨⟨⟨rfl,z2⟩,z3⟩,z4⟩:=z
    obtain⟨hg,hd⟩:=dY o z2
    obtain⟨elts,kk,tp,rfl⟩:∃elts kk tp,tg=.Tuple elts kk tp:=by
     cases tg<;>first|exact⟨_,_,_,rfl⟩|(cases z4)
    by_cases hs:[a].all nM=true
    ·have he:starEach [a] X.env=[(false,eval a X.env)]:=by
      rw[List.all_cons,Bool.and_eq_true] at hs
      exact dW hs.1 [] X.env
     split
     ·exact Bs (zK hg (o.g.bi _ z3) (mK h [a]).f he)
     ·exact Hb (A5 hg (o.g.bi _ z3) (mK h [a]).f he)
    ·have:vA f [a]=fun _=>none:=by unfold vA;rw[if_neg hs]
     rw[this]
     split<;>exact C0 fun _=>rfl
   ·exact tX (h _)
 ·next y p a b p'=>
  split
  ·next z=>
   rw[Bool.and_eq_true,Bool.and_eq_true,decide_eq_true_eq] at z
   obtain⟨⟨rfl,z2⟩,z3⟩:=z
   obtain⟨hg,hd⟩:=dY o z2
   by_cases hs:[a,b].all nM=true
   ·have hs':=hs
    rw[List.all_cons,List.all_cons,Bool.and_eq_true,Bool.and_eq_true] at hs'
    have e1:starEach [b] X.env=[(false,eval b X.env)]:=dW hs'.2.1 [] X.env
    exact Ff (we hg (o.g.bi _ z3) (mK h [a,b]).t (by rw[dW hs'.1 [b] X.env,e1]) e1)
   ·have:vA f [a,b]=fun _=>none:=by unfold vA;rw[if_neg hs]
    rw[this];exact C0 fun _=>rfl
  ·exact tX (h _)
 ·next y p a b d p'=>
  split
  ·next z=>
   rw[Bool.and_eq_true,Bool.and_eq_true,decide_eq_true_eq] at z
   obtain⟨⟨rfl,z2⟩,z3⟩:=z
   obtain⟨hg,hd⟩:=dY o z2
   by_cases hs:[a,b,d].all nM=true
   ·have hs':=hs
    rw[List.all_cons,List.all_cons,List.all_cons,Bool.and_eq_true,Bool.and_eq_true,Bool.and_eq_true] at hs'
    have e2:starEach [d] X.env=[(false,eval d X.env)]:=dW hs'.2.2.1 [] X.env
    have e1:starEach [b,d] X.env=[(false,eval b X.env),(false,eval d X.env)]:=by rw[dW hs'.2.1 [d] X.env,e2]
    exact Gu (uW hg (o.g.bi _ z3) (mK h [a,b,d]).t (by rw[dW hs'.1 [b,d] X.env,e1]) e1)
   ·have:vA f [a,b,d]=fun _=>none:=by unfold vA;rw[if_neg hs]
    rw[this];exact C0 fun _=>rfl
  ·exact tX (h _)
 ·exact tX (h _)
structure CpOk (X:Cx)(L:Lc)(elt tg it:Expr)(ifs:List Expr)(sc:Scope)(own:Bool)(f:FE):Prop where
 ex:(∀ρ,f ρ=none)\/∃(N2:List Str) (fm:List (Option Nat)) (h0:TG) (fi:FI) (t:FT) (c:FB) (fe:FE),f=fv fm fi t c fe/\dO X.K h0 (qT t) ∧
  (∀C s H ex,PG (X.blk sc N2 C s H ex) tg h0)/\(∀C s H ex,PIf (X.blk sc N2 C s H ex) ifs (lB X.K (wo c)))/\(∀C s H ex,PE (X.blk sc N2 C s H ex) elt (lE X.K (tF fe)))/\nG fm h0 ∧
  iG sc.kind sc.names X.env.kindOf X.N N2 fm=true/\(∀x,foldedSetIterable it X.env x=pure x)/\(own=true->O8 X tg it fi)/\(own=false->DI X tg it fi)
theorem rR (o:Ok X k G L){sc:Scope}{tg:Expr}{N2:List Str}(hk:sc.kind=.function)(hn:N2.Nodup){C:Addr}{s:Shared}{H:Hp}{ex:List Addr}:Ok (X.blk sc N2 C s H ex) k G (FL L sc tg N2) where
 g:=o.g
 r:=o.r
 sc:=by
  show relabel sc X.env=zq sc L.sc
  unfold relabel zq
  rw[show X.env.kindOf=fun x=>L.sc.names.lookup x by funext x;show X.env.scope.names.lookup x=_;rw[o.sc],o.sc]
 N:=rfl
 nd:=hn
 fk:=hk
 calm:=o.calm
 top:=fun h=>by cases h
 xe:=rfl
theorem D3 (o:Ok X k G L){rE:RE}{rB:RB}(hE:∀{X:Cx} {L:Lc},Ok X k G L->∀e,DE X e (rE L e))(hB:∀{X:Cx} {L:Lc},Ok X k G L->∀e,DB X e (rB L e))(elt tg it:Expr)(ifs:List Expr)(sc:Scope)(p:Pos) :
  CpOk X L elt tg it ifs sc (qm L it) (Oy G rE rB L elt tg it ifs sc p):=by
 unfold Oy
 split
 ·exact⟨.inl fun _=>rfl⟩
 ·next N2 _=>
  split
  ·next z=>
   unfold O2 at z
   rw[Bool.and_eq_true,Bool.and_eq_true,Bool.and_eq_true,decide_eq_true_eq] at z
   obtain⟨⟨⟨z1,z2⟩,z3⟩,z4⟩:=z
   have hk:sc.kind=.function:=by
    unfold iG at z1
    simp only[Bool.and_eq_true,beq_iff_eq] at z1
    exact z1.1.1.1.1.1
   refine⟨.inr ⟨N2,MR L tg N2,tG X.K 5 (FL L sc tg N2) tg,_,_,_,_,rfl,sW 5 _ tg,fun C s H ex=>t3 5 (rR o hk z2) tg,fun C s H ex=>?_,fun C s H ex=>(hE (rR o hk z2) elt).ee,?_,?_,?_,fun ho=>?_,fun ho=>?_⟩⟩
   ·have ob:=rR o (tg:=tg) hk z2 (C:=C) (s:=s) (H:=H) (ex:=ex)
    cases ifs with
    |nil=>exact GP
    |cons c r=>
     cases r with
     |nil=>exact FM (hB ob c)
     |cons _ _=>
      intro _ _ _ _ _ _ hh
      obtain⟨F,ρ,r,_,⟨b,e,_⟩,_⟩:=hh
      cases e
   ·intro x σ H N q
    refine j6 5 _ tg _ _ _ _ _ (fun σ' H' ⟨a,b,c⟩=>⟨a,b,fun i j hj=>c i fun hi=>?_⟩) (pB 5 (FL L sc tg N2) tg x σ H N q)
    have:=List.all_eq_true.mp z3 i hi
    rw[beq_iff_eq,hj] at this
    cases this
   ·rw[show X.env.kindOf=fun x=>L.sc.names.lookup x by funext x;show X.env.scope.names.lookup x=_;rw[o.sc],o.N]
    exact z1
   ·intro x
    cases it<;>first|rfl|(cases z4)
   ·unfold vI
    rw[if_pos ho]
    exact EZ (hE o it)
   ·rw[ho]
    exact D2 o (hE o) tg it
  ·exact⟨.inl fun _=>rfl⟩
theorem CpOk.de {elt tg it:Expr}{ifs:List Expr}{sc:Scope}{p:Pos}{own:Bool}{f:FE}(o:Ok X k G L)(h:CpOk X L elt tg it ifs sc own f):DE X (.ListComp elt [⟨tg,it,ifs,0⟩] sc p) f:=by
 rcases h.ex with h|⟨N2,fm,h0,fi,t,c,fe,rfl,hg,h1,h2,h3,h4,h5,h6,h7,h8⟩
 ·exact fM h
 ·cases own with
  |true=>exact CM hg (uc N2 fm (h7 rfl) h1 h2 h3 h4 h5 o.calm h6)
  |false=>exact Jn hg (uc N2 fm (h8 rfl) h1 h2 h3 h4 h5 o.calm h6)
end
end Dp
end
section
namespace Dp
open PySem PySem.Spec L2 Pu
section
variable {X:Cx}{k:Nat}{G:Gc}{L:Lc}{x:Str}{i:Nat}{pos:Pos}{e:Expr}
theorem kM {b:Expr}(h:gP b=true):gX b:=by
 cases b<;>first|(exact fun _ _=>rfl)|skip
 rename_i lo hi st p
 cases st with
 |none=>cases h
 |some s=>exact fun _ _=>rfl
theorem vR {env:Env}(h:wT e=true):∀whole,PySem.isTrue e env whole=(do let v ←whole;standAt e.pos;holding [v] (truthy v)):=by
 cases e<;>first|(exact fun _=>rfl)|(cases h;done)|skip
 rename_i op a p
 cases op<;>first|(exact fun _=>rfl)|(cases h;done)
theorem s9 {f:Expr->FE}(h:∀e,DE X e (f e)):∀o,DO X o (vO f o)
 |none=>Np
 |some e=>M6 (h e)
theorem Kt {f:Expr->FB}(h:∀e,DB X e (f e))(op:BoolOp):∀(vs:List Expr),vs≠[]->DW X (.BoolOp op vs pos) (vW f op vs)
 |[],z=>(z rfl).elim
 |[a],_=>by cases op;exact Ig (h a);exact MA (h a)
 |a::b::r,_=>by
  have ih:=Kt h op (b::r) (by simp)
  cases op
  ·exact LR (h a) ih
  ·exact Ng (h a) ih
theorem MF {d:Str}{dp ap cp:Pos}{a:Expr}{m:Str}(hl:(ap.endLine==cp.line)=true)(hs:nM a=true):M1 X (.Name d dp) m ap a cp:=by
 have he:starEach [a] X.env=[(false,eval a X.env)]:=dW hs [] X.env
 exact⟨rfl,by rw[he];rfl,hl,by rw[he];rfl⟩
theorem G4 (o:Ok X k G L){rE:RE}{rB:RB}(hE:∀{X:Cx} {L:Lc},Ok X k G L->∀e,DE X e (rE L e))(hB:∀{X:Cx} {L:Lc},Ok X k G L->∀e,DB X e (rB L e))(e:Expr):DE X e (OJ G rE rB L e):=by
 have hu:=o.r.units
 unfold OJ
 split
 ·exact Mn
 ·exact Nq
 ·exact Ll
 ·exact Mx
 ·exact CQ o
 ·exact Kd (hE o _) (hE o _)
 ·exact JY (hE o _)
 ·exact LM (hE o _)
 ·split
  ·exact fM fun _=>rfl
  ·next z=>exact Km (jo hu _) (hE o _) (hE o _) (by simpa using z)
 ·split
  ·exact fM fun _=>rfl
  ·next z=>exact OV (jo hu _) (jo hu _) (hE o _) (hE o _) (hE o _) (by simpa using z)
 ·exact Kq (hE o _)
 ·exact L7 (hE o _) (hE o _)
 ·exact Oh (hE o _) (hE o _)
 ·exact NQ (hB o _) (hE o _) (hE o _)
 ·exact JS (mK (hE o) _)
 ·exact KU (mK (hE o) _)
 ·exact (D3 o hE hB _ _ _ _ _ _).de o
 ·exact J2 (hE o _)
 ·split
  ·exact Kz (hE o _) (s9 (hE o) _) (s9 (hE o) _)
  ·exact M0 (hE o _) (s9 (hE o) _) (s9 (hE o) _)
 ·split
  ·next z=>
   split
   ·exact Kk (hE o _) (hE o _) (kM z)
   ·exact OR (hE o _) (hE o _) (kM z)
  ·exact fM fun _=>rfl
 ·exact C7 o (hE o) _
 ·split
  ·next kvs hk=>
   split
   ·next z=>
    rw[Bool.and_eq_true,Bool.and_eq_true,Bool.and_eq_true,decide_eq_true_eq] at z
    obtain⟨⟨⟨rfl,z2⟩,z3⟩,z4⟩:=z
    obtain⟨hg,hd⟩:=dY o z2
    exact xz (o.g.nums _ _ hk) (hE o _) (MF z3 z4) hg (dw hd).1
   ·exact fM fun _=>rfl
  ·exact fM fun _=>rfl
 ·exact fM fun _=>rfl
theorem HD (o:Ok X k G L){rE:RE}{rB:RB}(hE:∀{X:Cx} {L:Lc},Ok X k G L->∀e,DE X e (rE L e))(hB:∀{X:Cx} {L:Lc},Ok X k G L->∀e,DB X e (rB L e))(e:Expr):DB X e (OA rE rB L e):=by
 have hu:=o.r.units
 unfold OA
 split
 ·split
  ·exact wQ fun _=>rfl
  ·next z=>exact MH (jo hu _) (hE o _) (hE o _) (by simpa using z)
 ·split
  ·exact wQ fun _=>rfl
  ·next z=>exact NC (jo hu _) (jo hu _) (hE o _) (hE o _) (hE o _) (by simpa using z)
 ·next op vs p=>
  cases vs with
  |nil=>exact wQ fun _=>rfl
  |cons a r=>exact P4 (Kt (hB o) op (a::r) (by simp))
 ·exact K8 (hB o _)
 ·split
  ·next z=>exact Mt (hE o _) (vR z)
  ·exact wQ fun _=>rfl
end
theorem jK {k:Nat}{G:Gc}:∀n:Nat,(∀{X:Cx} {L:Lc},Ok X k G L->∀e,DE X e ((Cu G n).1 L e))/\∀{X:Cx} {L:Lc},Ok X k G L->∀e,DB X e ((Cu G n).2 L e)
 |0=>⟨fun _ _=>fM fun _=>rfl,fun _ _=>wQ fun _=>rfl⟩
 |n+1=>⟨fun o e=>G4 o (jK n).1 (jK n).2 e,fun o e=>HD o (jK n).1 (jK n).2 e⟩
end Dp
end
section
namespace Dp
open PySem PySem.Spec L2 Pu
section
variable {X:Cx}{k:Nat}{G:Gc}{L:Lc}{x:Str}{i:Nat}{pos:Pos}{e v tg:Expr}
theorem yH {st:Stmt}{s:FS}(h:∀ρ,s ρ=.bad):DS X st s:=aO nc fun D ρ q=>by
 unfold jF at q
 rw[h] at q;exact q
theorem Ok.bk (o:Ok X k G L):X.env.blockKind=.function:=by
 unfold Env.blockKind
 rw[o.sc,o.fk];rfl
theorem D5 (o:Ok X k G L){t:Str}{p:Pos}{ln:Nat}:swapsWith v (some (.Name t p)) ln X.env=pure (Et L v t p):=by
 have hk:X.env.kindOf t=L.sc.names.lookup t:=by show X.env.scope.names.lookup t=_;rw[o.sc]
 cases v<;>first|rfl|skip
 all_goals
  simp only[swapsWith,Et,o.bk,hk,o.fk]
  rfl
theorem EC {ts:List Expr}{kk:Nat}{p:Pos}{ln:Nat}:swapsWithSole [.Tuple ts kk p] v ln X.env=pure false:=by cases v<;>rfl
theorem Gf {a b:Expr}{p:Pos}{ln:Nat}:swapsWithSole [.Subscript a b p] v ln X.env=pure false:=by cases v<;>rfl
theorem AD {ln:Nat}(h:Hc v=false):swapsWith v none ln X.env=pure false:=by
 cases v<;>first|rfl|(cases h)
theorem oT (o:Ok X k G L){ts vs:List Expr}{k1 k2:Nat}{p1 p2:Pos}{r:Option (List Str)}(h:MP L ts vs=some r):swappedStores [.Tuple ts k1 p1] (.Tuple vs k2 p2) X.env=pure r:=by
 have hk:X.env.kindOf=fun x=>L.sc.names.lookup x:=by funext t;show X.env.scope.names.lookup t=_;rw[o.sc]
 unfold MP at h
 unfold swappedStores
 dsimp only
 rw[o.bk,hk]
 rw[o.fk] at h
 split at h
 ·next z=>cases h;exact if_pos z
 ·next z=>
  refine (if_neg z).trans ?_
  split at h
  ·next z=>cases h;exact if_pos z
  ·next z=>
   refine (if_neg z).trans ?_
   dsimp only at h
   split at h
   ·next z=>cases h;exact if_pos z
   ·next z=>
    refine (if_neg z).trans ?_
    split at h
    ·next z=>cases h;exact if_pos z
    ·next z=>
     refine (if_neg z).trans ?_
     split at h
     ·cases h
     ·next z=>cases h;exact (if_neg z).trans rfl
theorem t8 {ts:List Expr}{k1:Nat}{p1:Pos}(h:xH v=false):swappedStores [.Tuple ts k1 p1] v X.env=pure none:=by
 cases v<;>first|rfl|(cases h)
theorem Bb {a ix:Expr}{p:Pos}(h:gP ix=true):∀v,assign (.Subscript a ix p) X.env v=(do
  let ov ←holding [v] (eval a X.env)
  let iv ←holding [v,ov] (eval ix X.env)
  standAt p
  holding [v,ov,iv] (setItem ov iv v)
  release [v,ov,iv] []):=by
 cases ix<;>first|(exact fun _=>rfl)|skip
 rename_i lo hi st p
 cases st with
 |none=>cases h
 |some s=>exact fun _=>rfl
theorem Cr {ix:Expr}(h:gP ix=true):∀ov iv new,augStore ix ov iv new=(do holding [new,ov,iv] (setItem ov iv new);release [new,ov,iv] [];pure .next):=by
 cases ix<;>first|(exact fun _ _ _=>rfl)|skip
 rename_i lo hi st p
 cases st with
 |none=>cases h
 |some s=>exact fun _ _ _=>rfl
noncomputable abbrev HE (k:Nat)(G:Gc)(rE:RE):Prop:=∀{X:Cx} {L:Lc},Ok X k G L->∀e,DE X e (rE L e)
noncomputable abbrev HB (k:Nat)(G:Gc)(rB:RB):Prop:=∀{X:Cx} {L:Lc},Ok X k G L->∀e,DB X e (rB L e)
noncomputable abbrev HC (k:Nat)(G:Gc)(rE:RE):Prop:=∀{X:Cx} {L:Lc},Ok X k G L->∀elt tg it ifs sc p,CpOk X L elt tg it ifs sc (qm L it) (rE L (.ListComp elt [⟨tg,it,ifs,0⟩] sc p))
theorem Og (o:Ok X k G L){f:FE}{p:Pos}{own:Bool}(hi:eJ L x=some i)(h:DE X v f)(hs:Et L v x p=false):DS X (.Assign [.Name x p] v pos) (if own=true then ia i f else aT i f):=by
 obtain⟨h1,h2,h3⟩:=iP o hi
 have hs:=(D5 (v:=v) o (t:=x) (p:=p) (ln:=pos.line)).trans (by rw[hs])
 split
 ·exact GK h o.nd' h1 h2 hs h3
 ·exact KS (rC o.nd' h1 h2 h.ee hs h3)
theorem N0 (o:Ok X k G L){f:FE}{p:Pos}{own:Bool}{elt t it:Expr}{ifs:List Expr}{sc:Scope}{vp:Pos}(hi:eJ L x=some i)(hc:CpOk X L elt t it ifs sc false f)(hs:Et L (.ListComp elt [⟨t,it,ifs,0⟩] sc vp) x p=true) :
  DS X (.Assign [.Name x p] (.ListComp elt [⟨t,it,ifs,0⟩] sc vp) pos) (if own=true then ia i f else aT i f):=by
 obtain⟨h1,h2,h3⟩:=iP o hi
 have hsw:=(D5 (v:=.ListComp elt [⟨t,it,ifs,0⟩] sc vp) o (t:=x) (p:=p) (ln:=pos.line)).trans (by rw[hs])
 have hx:X.env.kindOf x=some .local:=by
  unfold Et at hs
  simp only[Bool.and_eq_true,beq_iff_eq] at hs
  show X.env.scope.names.lookup x=_
  rw[o.sc];exact hs.1.1.2
 rcases hc.ex with h|⟨N2,fm,h0,fi,t',c,fe,rfl,hg,g1,g2,g3,g4,g5,g6,_,g8⟩
 ·split
  ·exact yH fun ρ=>by unfold ia;rw[h]
  ·exact yH fun ρ=>by unfold aT;rw[h];rfl
 ·have:=qW (spos:=pos) N2 fm o.nd' (g8 rfl) g1 g2 g3 g4 h1 hx g5 o.calm hsw g6
  split
  ·exact Jb hg this
  ·exact F7 hg this
theorem Cq (o:Ok X k G L){f:FE}{ts:List Expr}{kk:Nat}{p:Pos}(h:DE X v f)(hw:swappedStores [.Tuple ts kk p] v X.env=pure none):DS X (.Assign [.Tuple ts kk p] v pos) (hZ f (vT 5 L (.Tuple ts kk p))):=
 LE (sW 5 L (.Tuple ts kk p)) (zg h.ee (t3 5 o (.Tuple ts kk p)) EC hw)
theorem IS (o:Ok X k G L){rE:RE}(hE:HE k G rE)(hC:HC k G rE)(tg v:Expr):DS X (.Assign [tg] v pos) (Nj G rE L tg v):=by
 unfold Nj
 split
 ·next y p=>
  split
  ·next i hi=>
   by_cases hs:Et L v y p=true
   ·rw[hs,Bool.true_and]
    split
    ·next elt t it ifs sc vp=>
     split
     ·exact db
     ·next z=>
      refine N0 o hi ?_ hs
      have:=hC o elt t it ifs sc vp
      rw[show qm L it=false by simpa using z] at this
      exact this
    ·exact db
   ·have hs:Et L v y p=false:=by simpa using hs
    rw[hs,Bool.false_and,if_neg Bool.false_ne_true]
    exact Og o hi (hE o v) hs
  ·exact db
 ·next j jp ix p=>
  split
  ·next i hi=>
   split
   ·next z=>
    rw[Bool.and_eq_true] at z
    exact J0 (zg (hE o v).ee (HR (o.pv hi) (hE o ix).ee p5 (Bb z.1)) Gf rfl)
   ·exact db
  ·exact db
 ·next x px y py kk pt=>
  split
  ·next a b k2 p2=>
   split
   ·next l i j hw hi hj=>
    split
    ·next z=>
     simp only[Bool.and_eq_true,beq_iff_eq,bne_iff_ne,ne_eq] at z
     obtain⟨⟨⟨⟨⟨z0,z1⟩,z2⟩,z3⟩,z4⟩,z5⟩:=z
     have e1:X.N[i]?=some x:=by rw[o.N];exact kE hi
     have e2:X.N[j]?=some y:=by rw[o.N];exact kE hj
     have hx:X.env.scope.names.lookup x=some .local:=by rw[o.sc];exact z4
     have hy:X.env.scope.names.lookup y=some .local:=by rw[o.sc];exact z5
     rw[z0] at hw
     split
     ·exact GW (xA o.calm o.nd' e1 e2 z3 hx hy (fj (dW z1) (hE o a).nn (fj (dW z2) (hE o b).nn pf)) (oT o hw))
     ·exact J5 (xA o.calm o.nd' e1 e2 z3 hx hy (mK (hE o) [a,b]).f (oT o hw))
    ·exact db
   ·next hw=>exact Cq o (hE o _) (oT o hw)
   ·exact db
  ·split
   ·exact db
   ·next z=>exact Cq o (hE o v) (t8 (by simpa using z))
 ·split
  ·next z=>
   unfold Ld at z
   split at z
   ·next ts _ _ vs _ _=>
    split at z
    ·next hw=>exact Cq o (hE o _) (oT o hw)
    ·cases z
   ·next ts _ _ hv=>exact Cq o (hE o v) (t8 (by cases v<;>first|rfl|exact (hv _ _ _ rfl).elim))
   ·cases z
  ·exact db
theorem lp {f:Stmt->FS}(h:∀s,DS X s (f s)):∀ss:List Stmt,zU X ss (vL f ss)
 |[]=>L1
 |[s]=>LP (h s)
 |s::t::r=>Gz (h s) (lp h (t::r))
theorem xf {op:Operator}{g:Int->Int->Int}(h:Gq op=some g):Ju X op (D4 g):=by
 cases op<;>first|(cases h;done)|skip
 ·cases h;exact GV
 ·cases h;exact Fv
theorem yx {cp:Pos}{env:Env}:∀{es:List Expr},es.all nM=true->((backTo cp (starEach es env)).all fun x=>!x.fst)=true
 |[],_=>rfl
 |e::es,h=>by
  rw[List.all_cons,Bool.and_eq_true] at h
  rw[dW h.1]
  exact yx (es:=es) h.2
theorem Fx (o:Ok X k G L){rE:RE}{rB:RB}{rS:Lc->Stmt->FS}(hE:HE k G rE)(hB:HB k G rB)(hC:HC k G rE)(hS:∀s,DS X s (rS L s))(st:Stmt):DS X st (NF G rE rB rS L st):=by
 have hp:PassesOwn (model X.prog X.w) X.A X.env X.xe:=by rw[o.xe];exact PassesOwn.never
 unfold NF
 split
 ·split
  ·next i hi=>exact Ie (o.pv hi)
  ·exact Ej (hE o _)
 ·exact Ej (hE o _)
 ·exact NE (hB o _) (lp hS _) (lp hS _)
 ·split
  ·next tg it body _ z=>exact My (sW 5 L tg) (Il hp o.calm (D2 o (hE o) tg it) (t3 5 o tg) (lp hS body) (by
    intro y
    cases it<;>first|rfl|(cases z)))
  ·exact db
 ·exact A6 (yf hp (hB o _) (lp hS _))
 ·exact IS o hE hC _ _
 ·split
  ·next i g hi hg=>
   obtain⟨h1,h2,h3⟩:=iP o hi
   exact KB (Jl o.nd' h1 h2 (hE o _).ee (xf hg) h3)
  ·exact db
 ·split
  ·next i g hi hg=>
   split
   ·next z=>exact BF (o.pv hi) (hE o _) (hE o _) (xf hg) (Cr z)
   ·exact db
  ·exact db
 ·exact Mi
 ·split
  ·next i hi=>
   split
   ·next z=>
    rw[Bool.and_eq_true,decide_eq_true_eq] at z
    obtain⟨rfl,z⟩:=z
    exact Lv (jX (Ik PySem.F.plainAttrs_list PySem.F.slot_list_reverse PySem.F.type_list_reverse rJ (o.pv hi) rfl z))
   ·exact db
  ·exact db
 ·split
  ·next i hi=>
   split
   ·next z=>
    rw[Bool.and_eq_true,Bool.and_eq_true,Bool.and_eq_true,decide_eq_true_eq,decide_eq_true_eq] at z
    obtain⟨⟨⟨rfl,z1⟩,z2⟩,z3⟩:=z
    have z2':=z2
    rw[List.all_cons,Bool.and_eq_true] at z2'
    refine Ml (jX (KI PySem.F.plainAttrs_list PySem.F.slot_list_append PySem.F.type_list_append uU (o.pv hi) (mK (hE o) _).f rfl ?_ z1 (dW z2'.1 _ _) (j3 z2'.2)))
    rw[yx z2]
    show (true&&true&&decide _)=true
    rw[Bool.and_self,Bool.true_and,decide_eq_true_eq]
    simp only[List.length_cons,List.length_nil,List.isEmpty_nil,if_true]
    omega
   ·exact db
  ·exact wP (jX (hE o _).ee)
 ·split
  ·exact db
  ·next z=>exact wP (jX (hE o _).ee (AD (by simpa using z)))
 ·exact HA
 ·exact N5
 ·exact Oo
 ·exact db
theorem td {st:Stmt}:∀{l:List Nat} {s:FS},DS X st s->DS X st (frzs l s)
 |[],_,h=>h
 |i::r,_,h=>td (l:=r) (KD i h)
end
theorem Md {k:Nat}{G:Gc}:∀n,HC k G (Cu G n).1
 |0=>fun _ _ _ _ _ _ _=>⟨.inl fun _=>rfl⟩
 |n+1=>fun o _ _ _ _ _ _=>D3 o (jK n).1 (jK n).2 _ _ _ _ _ _
theorem xw {k:Nat}{G:Gc}:∀(n:Nat) {X:Cx} {L:Lc},Ok X k G L->∀s,DS X s (vS G n L s)
 |0,_,_,_,_=>db
 |n+1,_,_,o,s=>td (Fx o (jK n).1 (jK n).2 (Md n) (xw n o) s)
theorem bz {P:Program}{w:World}{K:PySem.W.Frag}{mg:Str->Option Value}{base:Heap}{x:Str}{st:Stmt}{N ps:List Str}{k a n:Nat}{s:FS}{G:Gc}(L:Lc)(F:FunD K mg x st ps)(S:FnScope N ps (ad st))(g:GOk P w K mg base k G)
  (hs:vL (vS G 60 L) (ah st)=s) (h1:L.sc=ad st:=by rfl) (h2:L.N=N:=by rfl) (h3:L.top=true:=by rfl) (ha:ps.length=a:=by rfl) (hn:N.length=n:=by rfl):Def P w K mg base (k+1) x ps (bq K (bR (run a n s))):=
 LL F S (fun f cdv A outer s' H E hr=>hs▸lp (xw 60 ⟨g,hr,h1.symm,h2.symm,by rw[h2];exact S.nd,by rw[h1];exact S.kind,rfl,fun _ _=>rfl,rfl⟩) (ah st)) ha hn
end Dp
end
section
namespace Dp
open PySem PySem.Spec L2 Pu
section
variable {P:Program}{w:World}{K:PySem.W.Frag}{mg:Str->Option Value}{base:Heap}{k:Nat}
noncomputable def oe {α:Type}(p:α->Prop):List α->Prop
 |[]=>True
 |a::r=>p a/\oe p r
theorem cX {β:Type}{p:Str×β->Prop}:∀{l:List (Str×β)},oe p l->∀x b,l.lookup x=some b->p (x,b)
 |[],_,_,_,h=>by cases h
 |(y,c)::r,⟨h1,h2⟩,x,b,h=>by
  rw[List.lookup_cons] at h
  cases hx:x==y with
  |true=>
   rw[hx] at h
   have:x=y:=by simpa using hx
   subst this
   cases h;exact h1
  |false=>rw[hx] at h;exact cX h2 x b h
theorem qR {p:Str->Prop}:∀{l:List Str},oe p l->∀x,l.contains x=true->p x
 |[],_,_,h=>by cases h
 |y::r,⟨h1,h2⟩,x,h=>by
  rw[List.contains_cons,Bool.or_eq_true] at h
  rcases h with h|h
  ·have:x=y:=by simpa using h
   subst this;exact h1
  ·exact qR h2 x h
structure GB (w:World)(K:PySem.W.Frag)(mg:Str->Option Value)(bi:List Str)(nis:List (Str×Int))(tups:List (Str×List PV))(nums:List (Str×List (Str×Int))):Prop where
 bi:oe (fun x=>mg x=none) bi
 nis:oe (fun p=>∃t,mg p.1=some (.int p.2 t)) nis
 tups:oe (fun p=>∃a,mg p.1=some (.ref a)/\KTup K a p.2) tups
 nums:oe (fun p=>∃a,mg p.1=some (.ref a)/\NumTab w K a p.2) nums
theorem iq {G:Gc}(b:GB w K mg G.bi G.nis G.tups G.nums)(h:oe (fun p=>∃j ps,j≤k/\Def P w K mg base j p.1 ps (bq K (bR p.2))) G.fns)(v:oe (fun p=>mg p.1=some (.ref p.2)) G.vals)
  (t:∃j qs,j≤k/\∀a F,look G.tab a=some F->wV P w K mg base j a qs (bq K (bR F))):GOk P w K mg base k G:=
 ⟨qR b.bi,cX b.nis,cX b.tups,cX b.nums,cX v,cX h,t⟩
theorem bo:∃j qs,j≤k/\∀a F,look [] a=some F->wV P w K mg base j a qs (bq K (bR F)):=⟨0,[],Nat.zero_le _,fun _ _ h=>by cases h⟩
theorem Lb {x:Str}{st:Stmt}{N ps:List Str}{s:FS}{G:Gc}(L:Lc)(S:FnScope N ps (ad st))(g:GOk P w K mg base k G)(hs:vL (vS G 60 L) (ah st)=s){f:Addr}{cdv:Value}{A:Around}{outer:List Env}{s':Shared}{H:Hp}{E:XK}
  (hr:Room k (A.deeper (PyProof.Rows.envOfC x (ad st) s'.heap.objs.size f cdv))) (h1:L.sc=ad st:=by rfl) (h2:L.N=N:=by rfl) (h3:L.top=true:=by rfl):zU (iR rf P w K mg base N x (ad st) f cdv A outer s' H E).nox (ah st) s:=
 hs▸lp (xw 60 ⟨g,hr,h1.symm,h2.symm,by rw[h2];exact S.nd,by rw[h1];exact S.kind,rfl,fun _ _=>rfl,rfl⟩) (ah st)
end
end Dp
end
section
namespace Dp
open PySem L2 Fo Pu
noncomputable def ca (ρ:ai):Out:=(al (aT 3 (af aL (af be (af be (af di (fV 3) (af be (af aL (fV 3) (fC (.int 65521))) (fC (.int 40487)))) (af di (fC (.int 7)) (fV 5))) (fC (.int 5))) (fC (.int 1999999973))))
  (al (kK 2 (aa (af bx (eT (aa (fV 3) (aa (af aL (fV 4) (fC (.int 1000000))) ae))) (fB pR (aa (af zC (fV 4) (fC (.int 0))) ae))) ae))
  (aT 4 (af gh (fV 4) (fC (.int 1000000)))))) ρ
noncomputable def bP (ρ:ai):Out:=(al (ia 2 (eT ae))
  (al (aT 3 (af aL (af di (af be (af aL (fV 0) (fC (.int 1999999973))) (fC (.int 31))) (fC (.int 765432101))) (fC (.int 1999999973))))
  (al (aT 4 (fC (.int 0)))
  (al (fF (g7 (fT (af D1 (fV 0) (fC (.int 0)))) (fT (af MQ (fV 0) (af B1 (fC (.int 10)) (fC (.int 18)))))) (aT 4 (fB wp (aa (fV 0) ae))) aH)
  (al (gJ (hJ hX (aa (fV 1) ae)) (gN 5) ca)
  (eU 2)))))) ρ
noncomputable def aj:List PV->Option PR:=run 2 6 bP
theorem dy {a0 a1:PV}:aj [a0,a1]=(bP [some (.val a0),some (.val a1),none,none,none,none]).res:=Eq.trans rfl rfl
noncomputable def da (ρ:ai):Out:=(aT 2 (af aL (af be (af di (fV 2) (fC (.int 69621))) (fV 3)) (fC (.int 2147483647)))) ρ
noncomputable def dC (ρ:ai):Out:=(al (fF (fT (af D1 (fV 1) (fB fW (aa (fV 0) ae)))) (cx (af bx (fV 0) (fV 1))) aH)
  (al (aT 2 (af aL (af di (fC (.int 48271)) (af be (af be (af di (fV 1) (fV 1)) (af di (fC (.int 7)) (fV 1))) (fC (.int 11)))) (fC (.int 2147483647))))
  (al (gJ (wn (D8 (fV 0) Eb (DC (fC (.int 3))))) (gN 3) da)
  (eU 2)))) ρ
noncomputable def ax:List PV->Option PR:=run 2 4 dC
theorem ib {a0 a1:PV}:ax [a0,a1]=(dC [some (.val a0),some (.val a1),none,none]).res:=Eq.trans rfl rfl
noncomputable def fQ (ρ:ai):Out:=(cx (ng (fB eg (aa (fV 0) (aa (fC (.ty "int")) ae))) (sx (t9 (fB eg (aa (fV 0) (aa (fC (.ty "bool")) ae))))))) ρ
noncomputable def cf:List PV->Option PR:=run 1 1 fQ
theorem oU {a0:PV}:cf [a0]=(fQ [some (.val a0)]).res:=Eq.trans rfl rfl
noncomputable def gB (ρ:ai):Out:=(cx (ng (aw cf (aa (fV 0) ae)) (sx (Ge wm wm (fC (.int 1)) (fV 0) (fC (.int 40)))))) ρ
noncomputable def cA:List PV->Option PR:=run 1 1 gB
theorem p9 {a0:PV}:cA [a0]=(gB [some (.val a0)]).res:=Eq.trans rfl rfl
noncomputable def dP (ρ:ai):Out:=(fF (ku (fT (aw cy (aa (fV 0) ae)))) d8 aH) ρ
noncomputable def bm:List PV->Option PR:=run 1 1 dP
theorem jU {a0:PV}:bm [a0]=(dP [some (.val a0)]).res:=Eq.trans rfl rfl
noncomputable def dG (ρ:ai):Out:=(cx (af bx (eT (aa (af be (fC (.int 1)) (af aL (af gh (fV 0) (fC (.int 8))) (fC (.int 12)))) (aa (af be (fC (.int 1)) (af aL (af gh (fV 0) (fC (.int 8))) (fC (.int 40)))) ae))) (fB pR (aa (af ge (af aL (fV 0) (fC (.int 8))) (fC (.int 3))) ae)))) ρ
noncomputable def bT:List PV->Option PR:=run 1 1 dG
theorem ii {a0:PV}:bT [a0]=(dG [some (.val a0)]).res:=Eq.trans rfl rfl
noncomputable def cH (ρ:ai):Option Bool:=(fu (fT (af na (af bx (fV 0) (af bx (fV 2) (sd (fC (.int 1))))) (af bx (fV 2) (sd (fC (.int 1)))))) (fT (af wm (fB fW (aa (fV 2) ae)) (fB fW (aa (fV 0) ae))))) ρ
noncomputable def dI (ρ:ai):Out:=(kK 2 (aa (af bx (fV 0) (af bx (fV 2) (sd (fC (.int 1))))) ae)) ρ
noncomputable def fX (ρ:ai):Out:=(al (ia 2 (eT (aa (fV 1) ae)))
  (al (gK cH dI)
  (eU 2))) ρ
noncomputable def cg:List PV->Option PR:=run 2 3 fX
theorem pd {a0 a1:PV}:cg [a0,a1]=(fX [some (.val a0),some (.val a1),none]).res:=Eq.trans rfl rfl
end Dp
end
section
namespace Dp
open PySem L2 Fo Pu
noncomputable def nB (o:Out)(u:FS):Out:=match o with
 |.nx ρ'=>u ρ'
 |o=>o
noncomputable def D0 (o:Option RV)(ρ:ai):Out:=match o with
 |some (.fz _)=>.nx ρ
 |_=>.bad
noncomputable def IY (o:Option RV):Out:=match o with
 |some (.fz p)=>.rt p
 |some (.nw ps)=>.rn ps
 |_=>.bad
noncomputable def x6 (o:Option Sl):Out:=match o with
 |some (.val p)=>.rt p
 |some (.own ps)=>.rn ps
 |_=>.bad
noncomputable def MY (o:Option Bool)(s u:FS)(ρ:ai):Out:=match o with
 |some true=>s ρ
 |some false=>u ρ
 |none=>.bad
noncomputable def JK (o:Option PV)(i:Nat)(ρ:ai):Out:=match o with
 |some p=>.nx (ρ.set i (some (.val p)))
 |none=>.bad
noncomputable def EK (o:Option RV)(i:Nat)(ρ:ai):Out:=match o with
 |some (.fz p)=>.nx (ρ.set i (some (.val p)))
 |some (.nw ps)=>.nx (ρ.set i (some (.own ps)))
 |_=>.bad
noncomputable def NB (o:Option ai):Out:=match o with
 |some ρ'=>.nx ρ'
 |none=>.bad
noncomputable def Ka (o:Option PV)(t:FT)(ρ:ai):Out:=match o with
 |some p=>NB (t p ρ)
 |none=>.bad
noncomputable def Mc (o:Option (List PV))(i j:Nat)(ρ:ai):Out:=match o with
 |some [p,q]=>.nx ((ρ.set i (some (.val p))).set j (some (.val q)))
 |_=>.bad
noncomputable def Kr (g:Int->Int->Int)(a:Option Sl)(b:Option PV)(i:Nat)(ρ:ai):Out:=match a,b with
 |some (.val (.int a)),some (.int b)=>.nx (ρ.set i (some (.val (.int (g a b)))))
 |_,_=>.bad
noncomputable def LJ (a:Option Sl)(b:Option (List PV))(i:Nat)(ρ:ai):Out:=match a,b with
 |some (.own ps),some [q]=>if ps.length≤100000 then .nx (ρ.set i (some (.own (ps++[q])))) else .bad
 |_,_=>.bad
noncomputable def zc (o:Option Nat)(v:PV)(ps:List PV)(j:Nat)(ρ:ai):Out:=match o with
 |some n=>.nx (ρ.set j (some (.own (ps.set n v))))
 |none=>.bad
noncomputable def LS (v:Option PV)(a:Option Sl)(k:Option PV)(j:Nat)(ρ:ai):Out:=match v,a,k with
 |some v,some (.own ps),some (.int k)=>zc (oH ps.length k) v ps j ρ
 |_,_,_=>.bad
noncomputable def MI (o:Option (List PV))(t:FT)(s:FS)(ρ:ai):Out:=match o with
 |some its=>bF t s its ρ
 |none=>.bad
noncomputable def JX (o:Option PV):Option RV:=match o with
 |some (.int i)=>some (.fz (.int (-i)))
 |_=>none
noncomputable def Pd (o:Option PV):Option (Option Int):=match o with
 |some (.int i)=>some (some i)
 |_=>none
noncomputable def yW (F:List PV->Option PR)(o:Option (List PV))(rs:List RV):Option RV:=match o with
 |some ps=>(F ps).map my
 |none=>(F (rs.map RV.pv)).bind fun r=>if II r=true then some (my r) else none
noncomputable def Eh (ps:List PV):Option (List PV):=match ps with
 |[p]=>(eF p).map (cr 0)
 |_=>none
noncomputable def kq (o:Out)(t:FT)(s:FS)(ps:List PV):Out:=match o with
 |.nx ρ2=>bF t s ps ρ2
 |.ct ρ2=>bF t s ps ρ2
 |.bk ρ2=>.nx ρ2
 |o=>o
noncomputable def wM (o:Option ai)(t:FT)(s:FS)(ps:List PV):Out:=match o with
 |some ρ=>kq (s ρ) t s ps
 |none=>.bad
theorem cE {t:FT}{s:FS}{p:PV}{ps:List PV}{ρ:ai}:bF t s (p::ps) ρ=wM (t p ρ) t s ps:=Eq.trans rfl rfl
noncomputable def Jw (o:Out)(c:FB)(s:FS)(n:Nat):Out:=match o with
 |.nx ρ2=>b5 c s n ρ2
 |.ct ρ2=>b5 c s n ρ2
 |.bk ρ2=>.nx ρ2
 |o=>o
noncomputable def Nu (o:Option Bool)(c:FB)(s:FS)(n:Nat)(ρ:ai):Out:=match o with
 |some true=>Jw (s ρ) c s n
 |some false=>.nx ρ
 |none=>.bad
theorem gT {c:FB}{s:FS}{n:Nat}{ρ:ai}:b5 c s (n+1) ρ=Nu (c ρ) c s n ρ:=Eq.trans rfl rfl
noncomputable def oB (g:Int->Int->Int)(o:Option PV)(ps:List PV)(k b:Int)(j:Nat)(ρ:ai):Out:=match o with
 |some (.int a)=>.nx (ρ.set j (some (.own (ps.set k.toNat (.int (g a b))))))
 |_=>.bad
noncomputable def y8 (g:Int->Int->Int)(a:Option Sl)(k b:Option PV)(j:Nat)(ρ:ai):Out:=match a,k,b with
 |some (.own ps),some (.int k),some (.int b)=>if 0≤k then oB g ps[k.toNat]? ps k b j ρ else .bad
 |_,_,_=>.bad
theorem F6 {s:Option Sl}{i:Nat}{ρ:ai}:frz (i+1) (s::ρ)=s::frz i ρ:=by
 unfold frz
 rw[List.getElem?_cons_succ]
 split<;>simp_all
theorem qH {r:RV}{rs:List RV}:(r::rs).mapM RV.fr=r.fr.bind fun p=>(rs.mapM RV.fr).bind fun ps=>some (p::ps):=by
 rw[List.mapM_cons];rfl
theorem JP {s u:FS}{ρ:ai}:al s u ρ=nB (s ρ) u:=Eq.trans rfl rfl
theorem Dw {t:FT}{s:FS}{ps:List PV}{ρ:ai}:kq (.nx ρ) t s ps=bF t s ps ρ:=Eq.trans rfl rfl
theorem C8 {t:FT}{s:FS}{ps:List PV}{ρ:ai}:kq (.ct ρ) t s ps=bF t s ps ρ:=Eq.trans rfl rfl
theorem Ak {t:FT}{s:FS}{ps:List PV}{ρ:ai}:kq (.bk ρ) t s ps=.nx ρ:=Eq.trans rfl rfl
theorem C5 {t:FT}{s:FS}{ps:List PV}{p:PV}:kq (.rt p) t s ps=.rt p:=Eq.trans rfl rfl
theorem Ba {t:FT}{s:FS}{ps:List PV}{p:List PV}:kq (.rn p) t s ps=.rn p:=Eq.trans rfl rfl
theorem Ae {t:FT}{s:FS}{ps:List PV}{ρ:ai}:wM (some ρ) t s ps=kq (s ρ) t s ps:=Eq.trans rfl rfl
theorem A7 {t:FT}{s:FS}{ρ:ai}:bF t s [] ρ=.nx ρ:=Eq.trans rfl rfl
theorem Aq {c:FB}{s:FS}{n:Nat}{ρ:ai}:Jw (.nx ρ) c s n=b5 c s n ρ:=Eq.trans rfl rfl
theorem Br {c:FB}{s:FS}{n:Nat}{ρ:ai}:Jw (.ct ρ) c s n=b5 c s n ρ:=Eq.trans rfl rfl
theorem BU {c:FB}{s:FS}{n:Nat}{ρ:ai}:Jw (.bk ρ) c s n=.nx ρ:=Eq.trans rfl rfl
theorem BI {c:FB}{s:FS}{n:Nat}{p:PV}:Jw (.rt p) c s n=.rt p:=Eq.trans rfl rfl
theorem GA {c:FB}{s:FS}{n:Nat}{ρ:ai}:Nu (some true) c s n ρ=Jw (s ρ) c s n:=Eq.trans rfl rfl
theorem GC {c:FB}{s:FS}{n:Nat}{ρ:ai}:Nu (some false) c s n ρ=.nx ρ:=Eq.trans rfl rfl
theorem uB {u:FS}{ρ:ai}:nB (.nx ρ) u=u ρ:=Eq.trans rfl rfl
theorem vJ {u:FS}{p:PV}:nB (.rt p) u=.rt p:=Eq.trans rfl rfl
theorem uR {u:FS}{p:List PV}:nB (.rn p) u=.rn p:=Eq.trans rfl rfl
theorem uz {u:FS}{ρ:ai}:nB (.bk ρ) u=.bk ρ:=Eq.trans rfl rfl
theorem uf {u:FS}{ρ:ai}:nB (.ct ρ) u=.ct ρ:=Eq.trans rfl rfl
theorem FZ {ρ:ai}:aH ρ=.nx ρ:=Eq.trans rfl rfl
theorem NO {ρ:ai}:Os ρ=.bk ρ:=Eq.trans rfl rfl
theorem Ni {ρ:ai}:Oa ρ=.ct ρ:=Eq.trans rfl rfl
theorem EU {f:FE}{ρ:ai}:jJ f ρ=D0 (f ρ) ρ:=Eq.trans rfl rfl
theorem vQ {p:PV}{ρ:ai}:D0 (some (.fz p)) ρ=.nx ρ:=Eq.trans rfl rfl
theorem JO {f:FE}{ρ:ai}:cx f ρ=IY (f ρ):=Eq.trans rfl rfl
theorem wB {p:PV}:IY (some (.fz p))=.rt p:=Eq.trans rfl rfl
theorem xu {p:List PV}:IY (some (.nw p))=.rn p:=Eq.trans rfl rfl
theorem Hy {i:Nat}{ρ:ai}:eU i ρ=x6 (sl ρ i):=Eq.trans rfl rfl
theorem zz {p:PV}:x6 (some (.val p))=.rt p:=Eq.trans rfl rfl
theorem zM {p:List PV}:x6 (some (.own p))=.rn p:=Eq.trans rfl rfl
theorem N4 {g:FB}{s u:FS}{ρ:ai}:fF g s u ρ=MY (g ρ) s u ρ:=Eq.trans rfl rfl
theorem FJ {s u:FS}{ρ:ai}:MY (some true) s u ρ=s ρ:=Eq.trans rfl rfl
theorem GM {s u:FS}{ρ:ai}:MY (some false) s u ρ=u ρ:=Eq.trans rfl rfl
theorem K3 {i:Nat}{f:FE}{ρ:ai}:aT i f ρ=JK ((f ρ).bind RV.fr) i ρ:=Eq.trans rfl rfl
theorem Ds {i:Nat}{p:PV}{ρ:ai}:JK (some p) i ρ=.nx (ρ.set i (some (.val p))):=Eq.trans rfl rfl
theorem LT {i:Nat}{f:FE}{ρ:ai}:ia i f ρ=EK (f ρ) i ρ:=Eq.trans rfl rfl
theorem xS {i:Nat}{p:PV}{ρ:ai}:EK (some (.fz p)) i ρ=.nx (ρ.set i (some (.val p))):=Eq.trans rfl rfl
theorem yN {i:Nat}{p:List PV}{ρ:ai}:EK (some (.nw p)) i ρ=.nx (ρ.set i (some (.own p))):=Eq.trans rfl rfl
theorem Mo {f:FE}{t:FT}{ρ:ai}:hZ f t ρ=Ka ((f ρ).bind RV.fr) t ρ:=Eq.trans rfl rfl
theorem Cy {p:PV}{t:FT}{ρ:ai}:Ka (some p) t ρ=NB (t p ρ):=Eq.trans rfl rfl
theorem Fg {ρ:ai}:NB (some ρ)=.nx ρ:=Eq.trans rfl rfl
theorem L6 {i j:Nat}{fs:FA}{ρ:ai}:iF i j fs ρ=Mc ((fs ρ).bind fun rs=>rs.mapM RV.fr) i j ρ:=Eq.trans rfl rfl
theorem Df {i j:Nat}{p q:PV}{ρ:ai}:Mc (some [p,q]) i j ρ=.nx ((ρ.set i (some (.val p))).set j (some (.val q))):=Eq.trans rfl rfl
theorem KR {i:Nat}{s:FS}{ρ:ai}:Jp i s ρ=s (frz i ρ):=Eq.trans rfl rfl
theorem BX {ps:List PV}{ρ:ai}:frz 0 (some (.own ps)::ρ)=some (.val (.lst ps))::ρ:=Eq.trans rfl rfl
theorem BQ {p:PV}{ρ:ai}:frz 0 (some (.val p)::ρ)=some (.val p)::ρ:=Eq.trans rfl rfl
theorem Lf {g:Int->Int->Int}{i:Nat}{f:FE}{ρ:ai}:ul g i f ρ=Kr g (sl ρ i) ((f ρ).bind RV.fr) i ρ:=Eq.trans rfl rfl
theorem AT {g:Int->Int->Int}{i:Nat}{a b:Int}{ρ:ai}:Kr g (some (.val (.int a))) (some (.int b)) i ρ=.nx (ρ.set i (some (.val (.int (g a b))))):=Eq.trans rfl rfl
theorem LF {i:Nat}{fs:FA}{ρ:ai}:kK i fs ρ=LJ (sl ρ i) ((fs ρ).bind fun rs=>rs.mapM RV.fr) i ρ:=Eq.trans rfl rfl
theorem B2 {i:Nat}{ps:List PV}{q:PV}{ρ:ai}:LJ (some (.own ps)) (some [q]) i ρ=if ps.length≤100000 then .nx (ρ.set i (some (.own (ps++[q])))) else .bad:=Eq.trans rfl rfl
theorem J9 {j:Nat}{fi f:FE}{ρ:ai}:mL j fi f ρ=LS ((f ρ).bind RV.fr) (sl ρ j) ((fi ρ).bind RV.fr) j ρ:=Eq.trans rfl rfl
theorem Am {v:PV}{ps:List PV}{k:Int}{j:Nat}{ρ:ai}:LS (some v) (some (.own ps)) (some (.int k)) j ρ=zc (oH ps.length k) v ps j ρ:=Eq.trans rfl rfl
theorem Cp {v:PV}{ps:List PV}{n j:Nat}{ρ:ai}:zc (some n) v ps j ρ=.nx (ρ.set j (some (.own (ps.set n v)))):=Eq.trans rfl rfl
theorem LH {it:FI}{t:FT}{s:FS}{ρ:ai}:gJ it t s ρ=MI (it ρ) t s ρ:=Eq.trans rfl rfl
theorem zY {its:List PV}{t:FT}{s:FS}{ρ:ai}:MI (some its) t s ρ=bF t s its ρ:=Eq.trans rfl rfl
theorem AX {c:FB}{s:FS}{ρ:ai}:gK c s ρ=b5 c s 10000 ρ:=Eq.trans rfl rfl
theorem zm {ρ:ai}:Out.res (.nx ρ)=some (.v .non):=Eq.trans rfl rfl
theorem xn {p:PV}:Out.res (.rt p)=some (.v p):=Eq.trans rfl rfl
theorem yA {p:List PV}:Out.res (.rn p)=some (.n p):=Eq.trans rfl rfl
theorem Qj {i:Nat}{ρ:ai}:fV i ρ=(sl ρ i).map AJ:=Eq.trans rfl rfl
theorem MC {s:Option Sl}{ρ:ai}:sl (s::ρ) 0=s:=Eq.trans rfl rfl
theorem J4 {s:Option Sl}{i:Nat}{ρ:ai}:sl (s::ρ) (i+1)=sl ρ i:=Eq.trans rfl rfl
theorem yV {p:PV}:AJ (.val p)=.fz p:=Eq.trans rfl rfl
theorem wF {p:List PV}:AJ (.own p)=.ln (.lst p):=Eq.trans rfl rfl
theorem PZ {p:PV}{ρ:ai}:fC p ρ=some (.fz p):=Eq.trans rfl rfl
theorem Nb {g:PV->PV->Option RV}{a b:FE}{ρ:ai}:af g a b ρ=(a ρ).bind fun x=>(b ρ).bind fun y=>g x.pv y.pv:=Eq.trans rfl rfl
theorem Ab {p:PV}:RV.pv (.fz p)=p:=Eq.trans rfl rfl
theorem Du {p:List PV}:RV.pv (.nw p)=.lst p:=Eq.trans rfl rfl
theorem BZ {p:PV}:RV.pv (.ln p)=p:=Eq.trans rfl rfl
theorem Bd {p:PV}:RV.fr (.fz p)=some p:=Eq.trans rfl rfl
theorem Af {p:List PV}:RV.fr (.nw p)=some (.lst p):=Eq.trans rfl rfl
theorem CC {p:PV}:RV.fr (.ln p)=none:=Eq.trans rfl rfl
theorem PB {f:FE}{ρ:ai}:fT f ρ=ug (f ρ):=Eq.trans rfl rfl
theorem MB {b:Bool}:ug (some (.fz (.bl b)))=some b:=Eq.trans rfl rfl
theorem Im {g:FB}{ρ:ai}:ku g ρ=(g ρ).map fun b=>!b:=Eq.trans rfl rfl
theorem IH {g k:FB}{ρ:ai}:fu g k ρ=(g ρ).bind fun b=>if b=true then k ρ else some false:=Eq.trans rfl rfl
theorem Lj {g k:FB}{ρ:ai}:g7 g k ρ=(g ρ).bind fun b=>if b=true then some true else k ρ:=Eq.trans rfl rfl
theorem JU {f:FE}{ρ:ai}:sx f ρ=(f ρ).bind fun r=>r.fr.map .fz:=Eq.trans rfl rfl
theorem Hj {f g:FE}{ρ:ai}:ng f g ρ=(ug (f ρ)).bind fun b=>if b=true then sx g ρ else some (.fz (.bl false)):=Eq.trans rfl rfl
theorem Lz {f g:FE}{ρ:ai}:Gk f g ρ=(ug (f ρ)).bind fun b=>if b=true then some (.fz (.bl true)) else sx g ρ:=Eq.trans rfl rfl
theorem IU {f:FE}{ρ:ai}:t9 f ρ=(ug (f ρ)).map fun b=>.fz (.bl (!b)):=Eq.trans rfl rfl
theorem K2 {f:FE}{ρ:ai}:sd f ρ=(f ρ).bind fun r=>JX r.fr:=Eq.trans rfl rfl
theorem AV {i:Int}:JX (some (.int i))=some (.fz (.int (-i))):=Eq.trans rfl rfl
theorem Mm {g:FB}{f k:FE}{ρ:ai}:MT g f k ρ=(g ρ).bind fun b=>if b=true then sx f ρ else sx k ρ:=Eq.trans rfl rfl
theorem OX {g g':PV->PV->Option RV}{a b c:FE}{ρ:ai}:Ge g g' a b c ρ=(a ρ).bind fun x=>(b ρ).bind fun y=>(ug (g x.pv y.pv)).bind fun k=>if k=true then (c ρ).bind fun z=>g' y.pv z.pv else some (.fz (.bl false)):=Eq.trans rfl rfl
theorem Lp {ρ:ai}:ae ρ=some []:=Eq.trans rfl rfl
theorem Jd {f:FE}{fs:FA}{ρ:ai}:aa f fs ρ=(f ρ).bind fun r=>(fs ρ).bind fun rs=>some (r::rs):=Eq.trans rfl rfl
theorem rM  : ([]:List RV).mapM RV.fr=some []:=Eq.trans rfl rfl
theorem Ko {fs:FA}{ρ:ai}:cI fs ρ=(fs ρ).bind fun rs=>(rs.mapM RV.fr).bind fun ps=>if ps.length≤100000 then some (.fz (.tup ps)) else none:=Eq.trans rfl rfl
theorem L4 {fs:FA}{ρ:ai}:eT fs ρ=(fs ρ).bind fun rs=>(rs.mapM RV.fr).bind fun ps=>if ps.length≤100000 then some (.nw ps) else none:=Eq.trans rfl rfl
theorem CB {i j:Int}:be (.int i) (.int j)=some (.fz (.int (i+j))):=Eq.trans rfl rfl
theorem Bx {ps qs:List PV}:be (.lst ps) (.lst qs)=if ps.length+qs.length≤100000 then some (.nw (ps++qs)) else none:=Eq.trans rfl rfl
theorem Bi {ps qs:List PV}:be (.tup ps) (.tup qs)=if ps.length+qs.length≤100000 then some (.fz (.tup (ps++qs))) else none:=Eq.trans rfl rfl
theorem Ar {i j:Int}:iB (.int i) (.int j)=some (.fz (.int (i - j))):=Eq.trans rfl rfl
theorem Ax {i j:Int}:di (.int i) (.int j)=if (i.natAbs<2 ^ 64)\/(j.natAbs<2 ^ 64) then some (.fz (.int (i * j))) else none:=Eq.trans rfl rfl
theorem AA {ps:List PV}{j:Int}:di (.lst ps) (.int j)=if j≤1000/\-1000≤j/\ps.length≤100 then some (.nw (List.replicate j.toNat ps).flatten) else none:=Eq.trans rfl rfl
theorem CJ {ps:List PV}{j:Int}:di (.tup ps) (.int j)=if ps.isEmpty=false/\1≤j/\j≤1000/\ps.length≤1000 then some (.fz (.tup (List.replicate j.toNat ps).flatten)) else none:=Eq.trans rfl rfl
theorem BK {i j:Int}:gh (.int i) (.int j)=if 0<j/\j<1073741824 then some (.fz (.int (i / j))) else none:=Eq.trans rfl rfl
theorem BS {i j:Int}:aL (.int i) (.int j)=if 0<j then some (.fz (.int (i % j))) else none:=Eq.trans rfl rfl
theorem BA {i j:Int}:B1 (.int i) (.int j)=if 0≤j/\j≤1000000/\i.natAbs<2 ^ 64 then some (.fz (.int (i ^ j.toNat))) else none:=Eq.trans rfl rfl
theorem xh {i j:Int}:yP (.int i) (.int j)=some (.fz (.int (Builtin.bitAnd i j))):=Eq.trans rfl rfl
theorem Hl {i j:Int}:D1 (.int i) (.int j)=some (.fz (.bl (decide (i<j)))):=Eq.trans rfl rfl
theorem Ft {i j:Int}:wm (.int i) (.int j)=some (.fz (.bl (decide (i≤j)))):=Eq.trans rfl rfl
theorem FR {i j:Int}:zC (.int i) (.int j)=some (.fz (.bl (decide (j<i)))):=Eq.trans rfl rfl
theorem Fp {i j:Int}:MQ (.int i) (.int j)=some (.fz (.bl (decide (j≤i)))):=Eq.trans rfl rfl
theorem Gw {x y:PV}:ge x y=if au x&&au y&&decide (jb x≤50) then some (.fz (.bl (eR x y))) else none:=Eq.trans rfl rfl
theorem EM {x y:PV}:na x y=if au x&&au y&&decide (jb x≤50) then some (.fz (.bl (!eR x y))) else none:=Eq.trans rfl rfl
theorem FC {x:PV}{ps:List PV}:zW x (.lst ps)=if au x&&ao ps&&decide (bw ps≤50) then some (.fz (.bl (pin x ps))) else none:=Eq.trans rfl rfl
theorem IX {x:PV}{ps:List PV}:zW x (.tup ps)=if au x&&ao ps&&decide (bw ps≤50) then some (.fz (.bl (pin x ps))) else none:=Eq.trans rfl rfl
theorem CW {x:PV}{ps:List PV}:kU x (.lst ps)=if au x&&ao ps&&decide (bw ps≤50) then some (.fz (.bl (!pin x ps))) else none:=Eq.trans rfl rfl
theorem Dc {x:PV}{ps:List PV}:kU x (.tup ps)=if au x&&ao ps&&decide (bw ps≤50) then some (.fz (.bl (!pin x ps))) else none:=Eq.trans rfl rfl
theorem EF {x:PV}:MX x .non=some (.fz (.bl (fg x))):=Eq.trans rfl rfl
theorem uD {x:PV}:oO x .non=some (.fz (.bl (!fg x))):=Eq.trans rfl rfl
theorem Ir {ps:List PV}{i:Int}:bx (.tup ps) (.int i)=(L2.atI ps i).map .fz:=Eq.trans rfl rfl
theorem Jm {ps:List PV}{i:Int}:bx (.lst ps) (.int i)=(L2.atI ps i).map .fz:=Eq.trans rfl rfl
theorem Hf {ps:List PV}{i:Int}:bx (.src ps) (.int i)=(L2.atI ps i).map .fz:=Eq.trans rfl rfl
theorem NY {f:FE}{l h:FO}{ρ:ai}:D8 f l h ρ=(f ρ).bind fun r=>(l ρ).bind fun lo=>(h ρ).bind fun hi=>JF r.pv lo hi:=Eq.trans rfl rfl
theorem NM {ρ:ai}:Eb ρ=some none:=Eq.trans rfl rfl
theorem NV {f:FE}{ρ:ai}:DC f ρ=(f ρ).bind fun r=>Pd r.fr:=Eq.trans rfl rfl
theorem Fc {i:Int}:Pd (some (.int i))=some (some i):=Eq.trans rfl rfl
theorem IB {ps:List PV}{l h:Option Int}:JF (.lst ps) l h=some (.nw (cut ps l h)):=Eq.trans rfl rfl
theorem Gh {ps:List PV}{l h:Option Int}:JF (.src ps) l h=some (.nw (cut ps l h)):=Eq.trans rfl rfl
theorem EX {ps:List PV}{l h:Option Int}:JF (.tup ps) l h=if HT.sIx ps.length 0 l=0/\HT.sIx ps.length ps.length h=ps.length then none else some (.fz (.tup (cut ps l h))):=Eq.trans rfl rfl
theorem Pq {g:List PV->Option RV}{fs:FA}{ρ:ai}:fB g fs ρ=(fs ρ).bind fun rs=>g (rs.map RV.pv):=Eq.trans rfl rfl
theorem AN {ps:List PV}:fW [.lst ps]=some (.fz (.int ps.length)):=Eq.trans rfl rfl
theorem Bc {ps:List PV}:fW [.tup ps]=some (.fz (.int ps.length)):=Eq.trans rfl rfl
theorem CV {ps:List PV}:fW [.src ps]=some (.fz (.int ps.length)):=Eq.trans rfl rfl
theorem De {i:Int}:wp [.int i]=some (.fz (.int (if i<0 then -i else i))):=Eq.trans rfl rfl
theorem BY {i j:Int}:tm [.int i,.int j]=some (.fz (.int (if j > i then j else i))):=Eq.trans rfl rfl
theorem CT {i j:Int}:ky [.int i,.int j]=some (.fz (.int (if j<i then j else i))):=Eq.trans rfl rfl
theorem Ch {i:Int}:pR [.int i]=some (.fz (.int i)):=Eq.trans rfl rfl
theorem Bn {b:Bool}:pR [.bl b]=some (.fz (.int (if b then 1 else 0))):=Eq.trans rfl rfl
theorem A8 {ps:List PV}:By [.lst ps]=(Jv ps).map fun bs=>.fz (.bl (bs.all id)):=Eq.trans rfl rfl
theorem Dt {ps:List PV}:Bj [.lst ps]=(Jv ps).map fun bs=>.fz (.bl (bs.any id)):=Eq.trans rfl rfl
theorem Dm {ps:List PV}:jV [.lst ps]=some (.fz (.tup ps)):=Eq.trans rfl rfl
theorem BJ {ps:List PV}:jV [.tup ps]=some (.fz (.tup ps)):=Eq.trans rfl rfl
theorem yS {lo j:Int}:eV [.rng lo j]=if lo=0/\0≤j/\j≤1000000 then some (.nw (np 0 j.toNat)) else none:=Eq.trans rfl rfl
theorem za {ps:List PV}:eV [.lst ps]=some (.nw ps):=Eq.trans rfl rfl
theorem yD {ps:List PV}:eV [.tup ps]=some (.nw ps):=Eq.trans rfl rfl
theorem C3 {j:Int}:sH [.int j]=if -(2 ^ 62)≤j/\j<2 ^ 62 then some (.fz (.rng 0 j)) else none:=Eq.trans rfl rfl
theorem sM {ps:List PV}:j5 [.lst ps]=(gl ps).bind fun ks=>if ps.length<64 then some (.nw ((lD ks).map fun i=>ps.getD i .non)) else none:=Eq.trans rfl rfl
theorem IJ {F:List PV->Option PR}{fs:FA}{ρ:ai}:aw F fs ρ=(fs ρ).bind fun rs=>yW F (rs.mapM RV.fr) rs:=Eq.trans rfl rfl
theorem y9 {F:List PV->Option PR}{ps:List PV}{rs:List RV}:yW F (some ps) rs=(F ps).map my:=Eq.trans rfl rfl
theorem wK {F:List PV->Option PR}{rs:List RV}:yW F none rs=(F (rs.map RV.pv)).bind fun r=>if II r=true then some (my r) else none:=Eq.trans rfl rfl
theorem GO {p:PV}:my (.v p)=.fz p:=Eq.trans rfl rfl
theorem GN {p:List PV}:my (.n p)=.nw p:=Eq.trans rfl rfl
theorem BT {p:PV}:II (.v p)=tf p:=Eq.trans rfl rfl
theorem B8 {p:List PV}:II (.n p)=DH p:=Eq.trans rfl rfl
theorem NL {f:FE}{ρ:ai}:wn f ρ=(f ρ).bind fun r=>r.fr.bind items:=Eq.trans rfl rfl
theorem vB {ps:List PV}:items (.tup ps)=some ps:=Eq.trans rfl rfl
theorem vg {ps:List PV}:items (.lst ps)=some ps:=Eq.trans rfl rfl
theorem uC {ps:List PV}:items (.src ps)=some ps:=Eq.trans rfl rfl
theorem Kw {g:List PV->Option (List PV)}{fs:FA}{ρ:ai}:hJ g fs ρ=(fs ρ).bind fun rs=>g (rs.map RV.pv):=Eq.trans rfl rfl
theorem Iy {j:Int}:hX [.int j]=if Fz j then some (np 0 j.toNat) else none:=Eq.trans rfl rfl
theorem Mh {f:FE}{ρ:ai}:Hd f ρ=(f ρ).bind fun r=>(eF r.pv).map fun ps=>.nw ps.reverse:=Eq.trans rfl rfl
theorem uy {ps:List PV}:eF (.lst ps)=some ps:=Eq.trans rfl rfl
theorem uJ {ps:List PV}:eF (.src ps)=some ps:=Eq.trans rfl rfl
theorem Je {ps:List PV}:mU [.lst ps]=(cC ps).bind fun is=>if is.length=0 then none else some (.fz (.int (qe is))):=Eq.trans rfl rfl
theorem IT {ps:List PV}:wX [.lst ps]=(cC ps).bind fun is=>if is.length=0 then none else some (.fz (.int (pE is))):=Eq.trans rfl rfl
theorem Gx {ps:List PV}:rP [.lst ps]=(cC ps).map fun is=>.fz (.int is.sum):=Eq.trans rfl rfl
theorem B4 {g:Int->Int->Int}{j:Nat}{fi f:FE}{ρ:ai}:oG g j fi f ρ=y8 g (sl ρ j) ((fi ρ).bind RV.fr) ((f ρ).bind RV.fr) j ρ:=Eq.trans rfl rfl
theorem uZ {g:Int->Int->Int}{ps:List PV}{k b:Int}{j:Nat}{ρ:ai}:y8 g (some (.own ps)) (some (.int k)) (some (.int b)) j ρ=if 0≤k then oB g ps[k.toNat]? ps k b j ρ else .bad:=Eq.trans rfl rfl
theorem u6 {g:Int->Int->Int}{a:Int}{ps:List PV}{k b:Int}{j:Nat}{ρ:ai}:oB g (some (.int a)) ps k b j ρ=.nx (ρ.set j (some (.own (ps.set k.toNat (.int (g a b)))))):=Eq.trans rfl rfl
theorem Fj {fs:FA}{ρ:ai}:xF fs ρ=(fs ρ).bind fun rs=>(rs.mapM RV.fr).bind Eh:=Eq.trans rfl rfl
theorem xR {ps:List PV}:Eh [.lst ps]=some (cr 0 ps):=Eq.trans rfl rfl
theorem NA {i:Nat}{p:PV}{ρ:ai}:gN i p ρ=some (ρ.set i (some (.val p))):=Eq.trans rfl rfl
theorem OW {ρ:ai}:g0 [] ρ=some ρ:=Eq.trans rfl rfl
theorem M2 {t:FT}{ts:zX}{p:PV}{ps:List PV}{ρ:ai}:gC t ts (p::ps) ρ=(t p ρ).bind fun ρ'=>ts ps ρ':=Eq.trans rfl rfl
theorem LA {n:Nat}{ts:zX}{ps:List PV}{ρ:ai}:m9 n ts (.tup ps) ρ=if ps.length=n then ts ps ρ else none:=Eq.trans rfl rfl
theorem Ja {fm:List (Option Nat)}{it:FI}{t:FT}{c:FB}{f:FE}{ρ:ai}:fv fm it t c f ρ=(it ρ).bind fun its=>if its.length<1000 then (pZ t c f (fZ fm ρ) its).map .nw else none:=Eq.trans rfl rfl
theorem J1 {ρ:ai}:pk ρ=some true:=Eq.trans rfl rfl
theorem wg {ρ:ai}:fZ [] ρ=[]:=Eq.trans rfl rfl
theorem rH {fm:List (Option Nat)}{ρ:ai}:fZ (none::fm) ρ=none::fZ fm ρ:=Eq.trans rfl rfl
theorem sT {j:Nat}{fm:List (Option Nat)}{ρ:ai}:fZ (some j::fm) ρ=sl ρ j::fZ fm ρ:=Eq.trans rfl rfl
theorem F9 {s v:Option Sl}{ρ:ai}:List.set (s::ρ) 0 v=v::ρ:=Eq.trans rfl rfl
theorem Gv {s v:Option Sl}{i:Nat}{ρ:ai}:List.set (s::ρ) (i+1) v=s::List.set ρ i v:=Eq.trans rfl rfl
theorem aV {p:PV}{n:String}{b:Bool}(hn:n = "int"\/n = "bool"\/n = "str"\/n = "tuple"\/n = "list"\/n = "dict")(h:MO n p=some b):eg [p,.ty n]=some (.fz (.bl b)):=by
 unfold eg;simp only[hn,if_true,h,Option.map_some]
theorem oE {i:Int}:eg [(.int i),.ty "int"]=some (.fz (.bl true)):=aV (by decide) rfl
theorem mr {i:Int}:eg [(.int i),.ty "bool"]=some (.fz (.bl false)):=aV (by decide) rfl
theorem nO {i:Int}:eg [(.int i),.ty "str"]=some (.fz (.bl false)):=aV (by decide) rfl
theorem lq {i:Int}:eg [(.int i),.ty "tuple"]=some (.fz (.bl false)):=aV (by decide) rfl
theorem mm {i:Int}:eg [(.int i),.ty "list"]=some (.fz (.bl false)):=aV (by decide) rfl
theorem lX {i:Int}:eg [(.int i),.ty "dict"]=some (.fz (.bl false)):=aV (by decide) rfl
theorem qZ {i:Bool}:eg [(.bl i),.ty "int"]=some (.fz (.bl true)):=aV (by decide) rfl
theorem pb {i:Bool}:eg [(.bl i),.ty "bool"]=some (.fz (.bl true)):=aV (by decide) rfl
theorem qM {i:Bool}:eg [(.bl i),.ty "str"]=some (.fz (.bl false)):=aV (by decide) rfl
theorem mG {i:Bool}:eg [(.bl i),.ty "tuple"]=some (.fz (.bl false)):=aV (by decide) rfl
theorem oa {i:Bool}:eg [(.bl i),.ty "list"]=some (.fz (.bl false)):=aV (by decide) rfl
theorem o6 {i:Bool}:eg [(.bl i),.ty "dict"]=some (.fz (.bl false)):=aV (by decide) rfl
theorem nY {i:List PV}:eg [(.tup i),.ty "int"]=some (.fz (.bl false)):=aV (by decide) rfl
theorem mP {i:List PV}:eg [(.tup i),.ty "bool"]=some (.fz (.bl false)):=aV (by decide) rfl
theorem oP {i:List PV}:eg [(.tup i),.ty "str"]=some (.fz (.bl false)):=aV (by decide) rfl
theorem kG {i:List PV}:eg [(.tup i),.ty "tuple"]=some (.fz (.bl true)):=aV (by decide) rfl
theorem mj {i:List PV}:eg [(.tup i),.ty "list"]=some (.fz (.bl false)):=aV (by decide) rfl
theorem mN {i:List PV}:eg [(.tup i),.ty "dict"]=some (.fz (.bl false)):=aV (by decide) rfl
theorem o4 {i:List PV}:eg [(.lst i),.ty "int"]=some (.fz (.bl false)):=aV (by decide) rfl
theorem lV {i:List PV}:eg [(.lst i),.ty "bool"]=some (.fz (.bl false)):=aV (by decide) rfl
theorem nW {i:List PV}:eg [(.lst i),.ty "str"]=some (.fz (.bl false)):=aV (by decide) rfl
theorem kn {i:List PV}:eg [(.lst i),.ty "tuple"]=some (.fz (.bl false)):=aV (by decide) rfl
theorem lQ {i:List PV}:eg [(.lst i),.ty "list"]=some (.fz (.bl true)):=aV (by decide) rfl
theorem mt {i:List PV}:eg [(.lst i),.ty "dict"]=some (.fz (.bl false)):=aV (by decide) rfl
theorem o8 {i:Str}:eg [(.str i),.ty "int"]=some (.fz (.bl false)):=aV (by decide) rfl
theorem mR {i:Str}:eg [(.str i),.ty "bool"]=some (.fz (.bl false)):=aV (by decide) rfl
theorem o3 {i:Str}:eg [(.str i),.ty "str"]=some (.fz (.bl true)):=aV (by decide) rfl
theorem lG {i:Str}:eg [(.str i),.ty "tuple"]=some (.fz (.bl false)):=aV (by decide) rfl
theorem mF {i:Str}:eg [(.str i),.ty "list"]=some (.fz (.bl false)):=aV (by decide) rfl
theorem mf {i:Str}:eg [(.str i),.ty "dict"]=some (.fz (.bl false)):=aV (by decide) rfl
theorem o5  : eg [.non,.ty "int"]=some (.fz (.bl false)):=aV (by decide) rfl
theorem lW  : eg [.non,.ty "bool"]=some (.fz (.bl false)):=aV (by decide) rfl
theorem pe  : eg [.non,.ty "str"]=some (.fz (.bl false)):=aV (by decide) rfl
theorem lF  : eg [.non,.ty "tuple"]=some (.fz (.bl false)):=aV (by decide) rfl
theorem mC  : eg [.non,.ty "list"]=some (.fz (.bl false)):=aV (by decide) rfl
theorem mv  : eg [.non,.ty "dict"]=some (.fz (.bl false)):=aV (by decide) rfl
theorem qV {α β:Type}{a:α}{f:α->Option β}:((some a).bind f)=f a:=Eq.trans rfl rfl
theorem pD {α β:Type}{f:α->Option β}:((none:Option α).bind f)=none:=Eq.trans rfl rfl
theorem rA {α β:Type}{a:α}{f:α->β}:((some a).map f)=some (f a):=Eq.trans rfl rfl
theorem sD {α β:Type}{f:α->β}:((none:Option α).map f)=none:=Eq.trans rfl rfl
theorem sr {α β:Type}{a:α}{l:List α}{f:α->β}:((a::l).map f)=f a::l.map f:=Eq.trans rfl rfl
theorem v0 {α β:Type}{f:α->β}:(([]:List α).map f)=[]:=Eq.trans rfl rfl
theorem u8 {α:Type}{l:List α}:([]++l)=l:=Eq.trans rfl rfl
theorem r6 {α:Type}{a:α}{l m:List α}:((a::l)++m)=a::(l++m):=Eq.trans rfl rfl
theorem se {α:Type}{a:α}{l:List α}:((a::l).length)=l.length+1:=Eq.trans rfl rfl
theorem wc {α:Type}:(([]:List α).length)=0:=Eq.trans rfl rfl
theorem Hu {α:Type}{a b:α}:((if True then a else b))=a:=Eq.trans rfl rfl
theorem EN {α:Type}{a b:α}:((if False then a else b))=b:=Eq.trans rfl rfl
theorem BG {α:Type}{a b:α}:((if true=true then a else b))=a:=Eq.trans rfl rfl
theorem A1 {α:Type}{a b:α}:((if false=true then a else b))=b:=Eq.trans rfl rfl
theorem vv {α:Type}{a:α}{l:List α}:((a::l).isEmpty)=false:=Eq.trans rfl rfl
theorem vx {α:Type}:(([]:List α).isEmpty)=true:=Eq.trans rfl rfl
theorem qt  : (au .non)=true:=Eq.trans rfl rfl
theorem si {b:Bool}:(au (.bl b))=true:=Eq.trans rfl rfl
theorem qB {b:Int}:(au (.int b))=true:=Eq.trans rfl rfl
theorem pz {b:Str}:(au (.str b))=true:=Eq.trans rfl rfl
theorem vc  : (jb .non)=0:=Eq.trans rfl rfl
theorem wC {b:Bool}:(jb (.bl b))=0:=Eq.trans rfl rfl
theorem uY {b:Int}:(jb (.int b))=0:=Eq.trans rfl rfl
theorem uX {b:Str}:(jb (.str b))=0:=Eq.trans rfl rfl
theorem Nh {n:Nat}:(nI n)=PV.int n:=Eq.trans rfl rfl
theorem CF  : (fg .non)=true:=Eq.trans rfl rfl
theorem u5 {i:Int}:(fg (.int i))=false:=Eq.trans rfl rfl
theorem vK {i:Bool}:(fg (.bl i))=false:=Eq.trans rfl rfl
theorem vF {i:List PV}:(fg (.tup i))=false:=Eq.trans rfl rfl
theorem u7 {i:List PV}:(fg (.lst i))=false:=Eq.trans rfl rfl
theorem uA {i:Str}:(fg (.str i))=false:=Eq.trans rfl rfl
theorem JQ {i:Int}:(Fz i)=(decide (-4611686018427387904≤i)&&decide (i<4611686018427387904)):=Eq.trans rfl rfl
theorem wl {ps:List PV}:au (.tup ps)=ao ps:=by rw[Pu.au]
theorem wa {ps:List PV}:au (.lst ps)=ao ps:=by rw[Pu.au]
theorem rF:ao []=true:=by rw[ao]
theorem so {p:PV}{ps:List PV}:ao (p::ps)=(au p&&ao ps):=by rw[ao]
theorem CP {ps:List PV}:jb (.tup ps)=bw ps+1:=by rw[jb]
theorem Db {ps:List PV}:jb (.lst ps)=bw ps+1:=by rw[jb]
theorem zL:bw []=0:=by rw[bw]
theorem xb {p:PV}{ps:List PV}:bw (p::ps)=max (jb p) (bw ps):=by rw[bw]
noncomputable def E1:=(And.intro (And.intro @F6 (And.intro @qH @JP)) (And.intro @Dw (And.intro @C8 @Ak)))
noncomputable def E2:=(And.intro (And.intro @C5 (And.intro @Ba @Ae)) (And.intro @A7 (And.intro @Aq @Br)))
noncomputable def E3:=(And.intro (And.intro @BU (And.intro @BI @GA)) (And.intro @GC (And.intro @uB @vJ)))
noncomputable def E4:=(And.intro (And.intro @uR (And.intro @uz @uf)) (And.intro @FZ (And.intro @NO @Ni)))
noncomputable def E5:=(And.intro (And.intro @EU (And.intro @vQ @JO)) (And.intro @wB (And.intro @xu @Hy)))
noncomputable def E6:=(And.intro (And.intro @zz (And.intro @zM @N4)) (And.intro @FJ (And.intro @GM @K3)))
noncomputable def E7:=(And.intro (And.intro @Ds (And.intro @LT @xS)) (And.intro @yN (And.intro @Mo @Cy)))
noncomputable def E8:=(And.intro (And.intro @Fg (And.intro @L6 @Df)) (And.intro @KR (And.intro @BX @BQ)))
noncomputable def E9:=(And.intro (And.intro @Lf (And.intro @AT @LF)) (And.intro @B2 (And.intro @J9 @Am)))
noncomputable def Qo:=(And.intro (And.intro @Cp (And.intro @LH @zY)) (And.intro @AX (And.intro @zm @xn)))
noncomputable def Qa:=(And.intro (And.intro @yA (And.intro @Qj @MC)) (And.intro @J4 (And.intro @yV @wF)))
noncomputable def PK:=(And.intro (And.intro @PZ (And.intro @Nb @Ab)) (And.intro @Du (And.intro @BZ @Bd)))
noncomputable def Qt:=(And.intro (And.intro @Af (And.intro @CC @PB)) (And.intro @MB (And.intro @Im @IH)))
noncomputable def Qq:=(And.intro (And.intro @Lj (And.intro @JU @Hj)) (And.intro @Lz (And.intro @IU @K2)))
noncomputable def Py:=(And.intro (And.intro @AV (And.intro @Mm @OX)) (And.intro @Lp (And.intro @Jd @rM)))
noncomputable def Qv:=(And.intro (And.intro @Ko (And.intro @L4 @CB)) (And.intro @Bx (And.intro @Bi @Ar)))
noncomputable def Ph:=(And.intro (And.intro @Ax (And.intro @AA @CJ)) (And.intro @BK (And.intro @BS @BA)))
noncomputable def Pi:=(And.intro (And.intro @xh (And.intro @Hl @Ft)) (And.intro @FR (And.intro @Fp @Gw)))
noncomputable def Qg:=(And.intro (And.intro @EM (And.intro @FC @IX)) (And.intro @CW (And.intro @Dc @EF)))
noncomputable def Pr:=(And.intro (And.intro @uD (And.intro @Ir @Jm)) (And.intro @Hf (And.intro @NY @NM)))
noncomputable def Qu:=(And.intro (And.intro @NV (And.intro @Fc @IB)) (And.intro @Gh (And.intro @EX @Pq)))
noncomputable def Ps:=(And.intro (And.intro @AN (And.intro @Bc @CV)) (And.intro @De (And.intro @BY @CT)))
noncomputable def PD:=(And.intro (And.intro @Ch (And.intro @Bn @A8)) (And.intro @Dt (And.intro @Dm @BJ)))
noncomputable def P2:=(And.intro (And.intro @za (And.intro @yD @sM)) (And.intro @IJ (And.intro @y9 @wK)))
noncomputable def PN:=(And.intro (And.intro @GO (And.intro @GN @BT)) (And.intro @B8 (And.intro @NL @vB)))
noncomputable def Qr:=(And.intro (And.intro @vg (And.intro @uC @Kw)) (And.intro @Mh (And.intro @uy @uJ)))
noncomputable def Pj:=(And.intro (And.intro @Je (And.intro @IT @Gx)) (And.intro @B4 (And.intro @uZ @u6)))
noncomputable def QA:=(And.intro (And.intro @Fj (And.intro @xR @NA)) (And.intro @OW (And.intro @M2 @LA)))
noncomputable def PP:=(And.intro (And.intro @Ja (And.intro @J1 @wg)) (And.intro @rH (And.intro @sT @F9)))
noncomputable def Qw:=(And.intro (And.intro @Gv (And.intro @oE @mr)) (And.intro @nO (And.intro @lq @mm)))
noncomputable def PU:=(And.intro (And.intro @lX (And.intro @qZ @pb)) (And.intro @qM (And.intro @mG @oa)))
noncomputable def Ql:=(And.intro (And.intro @o6 (And.intro @nY @mP)) (And.intro @oP (And.intro @kG @mj)))
noncomputable def P8:=(And.intro (And.intro @mN (And.intro @o4 @lV)) (And.intro @nW (And.intro @kn @lQ)))
noncomputable def PJ:=(And.intro (And.intro @mt (And.intro @o8 @mR)) (And.intro @o3 (And.intro @lG @mF)))
noncomputable def Qk:=(And.intro (And.intro @mf (And.intro @o5 @lW)) (And.intro @pe (And.intro @lF @mC)))
noncomputable def PL:=(And.intro (And.intro @mv (And.intro @qV @pD)) (And.intro @rA (And.intro @sD @sr)))
noncomputable def Po:=(And.intro (And.intro @v0 (And.intro @u8 @r6)) (And.intro @se (And.intro @wc @Hu)))
noncomputable def Pm:=(And.intro (And.intro @EN (And.intro @BG @A1)) (And.intro @vv (And.intro @vx @qt)))
noncomputable def Qb:=(And.intro (And.intro @si (And.intro @qB @pz)) (And.intro @vc (And.intro @wC @uY)))
noncomputable def Pw:=(And.intro (And.intro @uX (And.intro @Nh @CF)) (And.intro @u5 (And.intro @vK @vF)))
noncomputable def P5:=(And.intro (And.intro @u7 (And.intro @uA @wl)) (And.intro @wa (And.intro @rF @so)))
noncomputable def P3:=(And.intro (And.intro @CP (And.intro @Db @zL)) (And.intro @xb (And.intro @P1 @Pl)))
noncomputable def Qd:=(And.intro (And.intro @Qh (And.intro @PH @B7)) (And.intro @j2 (And.intro @FV @C2)))
noncomputable def PQ:=(And.intro (And.intro @Di (And.intro @v3 @qD)) (And.intro @and_true (And.intro @true_and @false_and)))
noncomputable def Pn:=(And.intro (And.intro @and_false (And.intro @Nat.add_zero @Nat.zero_add)) (And.intro @Int.toNat_natCast (And.intro @Bool.not_true @Bool.not_false)))
noncomputable def P6:=(And.intro (And.intro @Bool.true_and (And.intro @Bool.false_and @Bool.and_true)) (And.intro @Bool.and_false (And.intro @Bool.true_or @Bool.false_or)))
noncomputable def P9:=(And.intro (And.intro @Bool.or_true (And.intro @Bool.or_false @Nat.zero_le)) (And.intro @decide_true (And.intro @decide_false @gp)))
noncomputable def PY:=(And.intro (And.intro @jE @nr) (And.intro @Nat.max_self (And.intro @Nat.zero_max @Nat.max_zero)))
noncomputable def EE:=(And.intro E1 (And.intro E2 (And.intro E3 (And.intro E4 (And.intro E5 (And.intro E6 (And.intro E7 (And.intro E8 (And.intro E9 (And.intro Qo (And.intro Qa (And.intro PK (And.intro Qt (And.intro Qq (And.intro Py (And.intro Qv (And.intro Ph (And.intro Pi (And.intro Qg (And.intro Pr (And.intro Qu (And.intro Ps (And.intro PD (And.intro P2 (And.intro PN (And.intro Qr (And.intro Pj (And.intro QA (And.intro PP (And.intro Qw (And.intro PU (And.intro Ql (And.intro P8 (And.intro PJ (And.intro Qk (And.intro PL (And.intro Po (And.intro Pm (And.intro Qb (And.intro Pw (And.intro P5 (And.intro P3 (And.intro Qd (And.intro PQ (And.intro Pn (And.intro P6 (And.intro P9 PY)))))))))))))))))))))))))))))))))))))))))))))))
end Dp
end
section
namespace Dp
open PySem L2 Fo Pu
theorem GD {t:FT}{f:FE}{ρ:ai}(g:PV->PV):∀{its:List PV},(∀p∈its,(t p ρ).bind (fun ρ2=>(f ρ2).bind RV.fr)=some (g p))->pZ t pk f ρ its=some (its.map g):=fun {its}=>by
 induction its with
 |nil=>intro _;rfl
 |cons p ps ih=>
  intro h
  have h1:=h p List.mem_cons_self
  have h2:=ih fun q hq=>h q (List.mem_cons_of_mem _ hq)
  obtain⟨ρ2,e1,h1⟩:=Option.bind_eq_some_iff.mp h1
  obtain⟨r,e2,h1⟩:=Option.bind_eq_some_iff.mp h1
  rw[pZ,e1,h2]
  show (f ρ2).bind _=_
  rw[e2]
  show r.fr.bind _=_
  rw[h1];rfl
theorem tQ {t:FT}{f:FE}{ρ:ai}(g:Nat->PV){us:List Nat}(h:∀u∈us,(t (.int u) ρ).bind (fun ρ2=>(f ρ2).bind RV.fr)=some (g u)):pZ t pk f ρ (nums us)=some (us.map g):=by
 have e:(nums us).map (fun p=>match p with|.int i=>g i.toNat|_=>.non)=us.map g:=by
  unfold nums;rw[List.map_map];exact List.map_congr_left fun u _=>rfl
 rw[←e]
 refine GD _ fun p hp=>?_
 obtain⟨u,hu,rfl⟩:=xK hp
 exact h u hu
theorem vC {t:FT}{c:FB}{f:FE}{ρ:ai}(b:PV->Bool)(g:PV->PV):∀{its:List PV},(∀p∈its,∃ρ2,t p ρ=some ρ2/\c ρ2=some (b p)/\(b p=true->(f ρ2).bind RV.fr=some (g p)))->pZ t c f ρ its=some ((its.filter b).map g):=fun {its}=>by
 induction its with
 |nil=>intro _;rfl
 |cons p ps ih=>
  intro h
  obtain⟨ρ2,e1,e2,h1⟩:=h p List.mem_cons_self
  have h2:=ih fun q hq=>h q (List.mem_cons_of_mem _ hq)
  rw[pZ,e1]
  show (c ρ2).bind _=_
  rw[e2]
  cases hb:b p with
  |true=>
   obtain⟨r,e3,e4⟩:=Option.bind_eq_some_iff.mp (h1 hb)
   rw[List.filter_cons_of_pos hb]
   show (f ρ2).bind _=_
   rw[e3]
   show r.fr.bind _=_
   rw[e4,h2];rfl
  |false=>
   rw[List.filter_cons_of_neg (by rw[hb];exact Bool.false_ne_true)]
   exact h2
noncomputable def ID:=(And.intro (And.intro (And.intro (And.intro (And.intro (show decide (("none" : Str) = "whole")=false by decide) (show decide (("none" : Str) = "halves")=false by decide)) (And.intro (show decide (("none" : Str) = "splits")=false by decide) (show decide (("none" : Str) = "one")=false by decide))) (And.intro (And.intro (show decide (("whole" : Str) = "none")=false by decide) (show decide (("whole" : Str) = "halves")=false by decide)) (And.intro (show decide (("whole" : Str) = "splits")=false by decide) (show decide (("whole" : Str) = "one")=false by decide)))) (And.intro (And.intro (And.intro (show decide (("halves" : Str) = "none")=false by decide) (show decide (("halves" : Str) = "whole")=false by decide)) (And.intro (show decide (("halves" : Str) = "splits")=false by decide) (show decide (("halves" : Str) = "one")=false by decide))) (And.intro (And.intro (show decide (("splits" : Str) = "none")=false by decide) (show decide (("splits" : Str) = "whole")=false by decide)) (And.intro (show decide (("splits" : Str) = "halves")=false by decide) (And.intro (show decide (("splits" : Str) = "one")=false by decide) (show decide (("one" : Str) = "none")=false by decide)))))) (And.intro (And.intro (And.intro (And.intro (show decide (("one" : Str) = "whole")=false by decide) (show decide (("one" : Str) = "halves")=false by decide)) (And.intro (show decide (("one" : Str) = "splits")=false by decide) (show decide (("size" : Str) = "rank")=false by decide))) (And.intro (And.intro (show decide (("size" : Str) = "told")=false by decide) (show decide (("size" : Str) = "names")=false by decide)) (And.intro (show decide (("rank" : Str) = "size")=false by decide) (show decide (("rank" : Str) = "told")=false by decide)))) (And.intro (And.intro (And.intro (show decide (("rank" : Str) = "names")=false by decide) (show decide (("told" : Str) = "size")=false by decide)) (And.intro (show decide (("told" : Str) = "rank")=false by decide) (show decide (("told" : Str) = "names")=false by decide))) (And.intro (And.intro (show decide (("names" : Str) = "size")=false by decide) (show decide (("names" : Str) = "rank")=false by decide)) (And.intro (show decide (("names" : Str) = "told")=false by decide) (And.intro (show decide (("find" : Str) = "join")=false by decide) (show decide (("join" : Str) = "find")=false by decide)))))))
theorem K1 {n:Nat}(h:n≤100000):hX [.int n]=some (nums (List.range n))/\sH [.int n]=some (.fz (.rng 0 n))/\eV [.rng 0 n]=some (.nw (nums (List.range n))):=by
 refine⟨?_,?_,?_⟩
 ·rw[Iy,JQ,decide_eq_true (by omega),decide_eq_true (by omega),Int.toNat_natCast,AQ];rfl
 ·rw[C3,if_pos ⟨by omega,by omega⟩]
 ·rw[yS,if_pos ⟨rfl,by omega,by omega⟩,Int.toNat_natCast,AQ]
theorem Qx {j:Int}(h0:0≤j)(h:j≤100000):hX [.int j]=some (nums (List.range j.toNat))/\sH [.int j]=some (.fz (.rng 0 j))/\eV [.rng 0 j]=some (.nw (nums (List.range j.toNat))):=by
 have:=K1 (n:=j.toNat) (by omega)
 rwa [Int.toNat_of_nonneg h0] at this
theorem BM (i:Int):cf [.int i]=some (.v (.bl true)):=by
 simp only[oU,fQ,EE]
theorem G6 {i:Int}(h1:1≤i)(h2:i≤40):cA [.int i]=some (.v (.bl true)):=by
 simp only[p9,gB,EE,BM,decide_eq_true h1,decide_eq_true h2]
theorem zr {y:Str}(hy:y∈bg):bm [.str y]=some (.v .non):=by
 simp only[jU,dP,EE,rG,decide_eq_true hy]
theorem OK {a b:PV}{c:Bool}:L2.atI [a,b] (if c=true then 1 else 0)=some (if c=true then b else a):=by
 cases c<;>rfl
theorem ph {s0 s1:Option Sl}(vs:List PV):∀(xs:List Nat) (st dg:Int) (z:Option Sl),(∀v∈vs,∃i:Int,v=.int i)->0≤st->st<1999999973->0≤dg->xs.length+vs.length≤1000 →
  ∃(xs':List Nat) (st' dg':Int) (z':Option Sl),xs'.length=xs.length+vs.length/\bF (gN 5) ca vs [s0,s1,some (.own (nums xs)),some (.val (.int st)),some (.val (.int dg)),z]=.nx [s0,s1,some (.own (nums xs')),some (.val (.int st')),some (.val (.int dg')),z']:=by
 induction vs with
 |nil=>intro xs st dg z _ _ _ _ _;exact⟨xs,st,dg,z,rfl,rfl⟩
 |cons v vs ih=>
  intro xs st dg z hv h1 h2 h3 hl
  obtain⟨i,rfl⟩:=hv v List.mem_cons_self
  have m1:=Int.emod_nonneg st (show (65521:Int)≠0 by decide)
  have cm1:(st.natAbs<2 ^ 64\/(st % 65521+40487).natAbs<2 ^ 64)=True:=eq_true (.inl (by omega))
  have cm2:((7:Int).natAbs<2 ^ 64\/i.natAbs<2 ^ 64)=True:=eq_true (.inl (by decide))
  have hlen:(nums xs).length≤100000:=by rw[gp];simp at hl;omega
  have b1:0≤(st * (st % 65521+40487)+7 * i+5) % 1999999973:=Int.emod_nonneg _ (by decide)
  have b2:(st * (st % 65521+40487)+7 * i+5) % 1999999973<1999999973:=Int.emod_lt_of_pos _ (by decide)
  have d1:=Int.emod_nonneg dg (show (1000000:Int)≠0 by decide)
  have hlen':xs.length≤100000:=by rwa [gp] at hlen
  rw[cE]
  simp only[ca,EE,Nat.reduceAdd,Nat.reduceSub,Nat.reduceLeDiff,Nat.reduceLT,Nat.reduceEqDiff,Int.reduceLT,Int.reduceLE,Int.reduceAdd,Int.reduceSub,Int.reduceMul,Int.reduceMod,Int.reduceDiv,Int.reduceNeg,Int.reduceToNat,Int.reducePow,Int.reduceEq,cm1,cm2,OK,hlen']
  generalize (st * (st % 65521+40487)+7 * i+5) % 1999999973=st' at b1 b2
  have hv':(if decide (0<dg)=true then PV.int (dg % 1000000) else PV.int st')=nI (if decide (0<dg)=true then dg % 1000000 else st').toNat:=by
   split<;>rw[Mu (by omega)]
  rw[hv',nI,nK]
  obtain⟨xs',BV,dg2,z2,e1,e2⟩:=ih (xs++[(if decide (0<dg)=true then dg % 1000000 else st').toNat]) st' (dg / 1000000) (some (.val (.int i))) (fun u hu=>hv u (List.mem_cons_of_mem _ hu)) b1 b2 (Int.ediv_nonneg h3 (by decide)) (by simp at hl ⊢;omega)
  exact⟨xs',BV,dg2,z2,by rw[e1,List.length_append];simp;omega,e2⟩
theorem gS (c n:Int)(h0:0≤n)(hn:n≤1000):∃xs:List Nat,xs.length=n.toNat/\aj [.int c,.int n]=some (.n (nums xs)):=by
 have b1:0≤(c % 1999999973+31) * 765432101 % 1999999973:=Int.emod_nonneg _ (by decide)
 have b2:(c % 1999999973+31) * 765432101 % 1999999973<1999999973:=Int.emod_lt_of_pos _ (by decide)
 have cm:((c % 1999999973+31).natAbs<2 ^ 64\/(765432101:Int).natAbs<2 ^ 64)=True:=eq_true (.inr (by decide))
 have k1:=(Qx h0 (show n≤100000 by omega)).1
 have ab:0≤(if c<0 then -c else c):=by split<;>omega
 have fin:∀dg:Int,0≤dg->∃(xs:List Nat) (st' dg':Int) (z':Option Sl),xs.length=n.toNat/\bF (gN 5) ca (nums (List.range n.toNat)) [some (.val (.int c)),some (.val (.int n)),some (.own (nums [])),some (.val (.int ((c % 1999999973+31) * 765432101 % 1999999973))),some (.val (.int dg)),none]=.nx [some (.val (.int c)),some (.val (.int n)),some (.own (nums xs)),some (.val (.int st')),some (.val (.int dg')),z']:=fun dg hd=>by
  obtain⟨xs,st',dg',z',e1,e2⟩:=ph (s0:=some (.val (.int c))) (s1:=some (.val (.int n))) (np 0 n.toNat) [] _ dg none (fun v hv=>by obtain⟨i,e,_⟩:=Gn hv;exact⟨i,e⟩) b1 b2 hd (by rw[tD];simp;omega)
  rw[AQ] at e2
  exact⟨xs,st',dg',z',by rw[e1,tD];simp,e2⟩
 have hp:(10:Int) ^ 18=1000000000000000000:=by decide
 by_cases hc:c<0
 ·obtain⟨xs,st',dg',z',e1,e2⟩:=fin _ ab
  rw[kj] at e2
  refine⟨xs,e1,?_⟩
  simp only[dy,bP,EE,Nat.reduceAdd,Nat.reduceSub,Nat.reduceLeDiff,Nat.reduceLT,Nat.reduceEqDiff,Int.reduceLT,Int.reduceLE,Int.reduceAdd,Int.reduceSub,Int.reduceMul,Int.reduceMod,Int.reduceDiv,Int.reduceNeg,Int.reduceToNat,Int.reducePow,Int.reduceEq,cm,k1,decide_eq_true hc,e2]
 ·by_cases hd:1000000000000000000≤c
  ·obtain⟨xs,st',dg',z',e1,e2⟩:=fin _ ab
   rw[kj] at e2
   refine⟨xs,e1,?_⟩
   simp only[dy,bP,EE,Nat.reduceAdd,Nat.reduceSub,Nat.reduceLeDiff,Nat.reduceLT,Nat.reduceEqDiff,Int.reduceLT,Int.reduceLE,Int.reduceAdd,Int.reduceSub,Int.reduceMul,Int.reduceMod,Int.reduceDiv,Int.reduceNeg,Int.reduceToNat,Int.reducePow,Int.reduceEq,cm,k1,decide_eq_false hc,show (0:Int)≤18/\(18:Int)≤1000000/\(10:Int).natAbs<2 ^ 64 from by decide,decide_eq_true hd,e2]
  ·obtain⟨xs,st',dg',z',e1,e2⟩:=fin 0 (by decide)
   rw[kj] at e2
   refine⟨xs,e1,?_⟩
   simp only[dy,bP,EE,Nat.reduceAdd,Nat.reduceSub,Nat.reduceLeDiff,Nat.reduceLT,Nat.reduceEqDiff,Int.reduceLT,Int.reduceLE,Int.reduceAdd,Int.reduceSub,Int.reduceMul,Int.reduceMod,Int.reduceDiv,Int.reduceNeg,Int.reduceToNat,Int.reducePow,Int.reduceEq,cm,k1,decide_eq_false hc,show (0:Int)≤18/\(18:Int)≤1000000/\(10:Int).natAbs<2 ^ 64 from by decide,decide_eq_false hd,e2]
theorem vy {s0 s1:Option Sl}(ns:List Int):∀(st:Int) (z:Option Sl),∃(st':Int) (z':Option Sl),bF (gN 3) da (iL ns) [s0,s1,some (.val (.int st)),z]=.nx [s0,s1,some (.val (.int st')),z']:=by
 induction ns with
 |nil=>intro st z;exact⟨st,z,rfl⟩
 |cons n ns ih=>
  intro st z
  have cm:(st.natAbs<2 ^ 64\/(69621:Int).natAbs<2 ^ 64)=True:=eq_true (.inr (by decide))
  show ∃st' z',bF (gN 3) da (.int n::iL ns) _=_
  rw[cE]
  simp only[da,EE,Nat.reduceAdd,Nat.reduceSub,Nat.reduceLeDiff,Nat.reduceLT,Nat.reduceEqDiff,Int.reduceLT,Int.reduceLE,Int.reduceAdd,Int.reduceSub,Int.reduceMul,Int.reduceMod,Int.reduceDiv,Int.reduceNeg,Int.reduceToNat,Int.reducePow,Int.reduceEq,cm]
  exact ih _ _
theorem ox (ns:List Int)(k:Int)(h0:0≤k)(hk:k≤1000):∃i:Int,ax [.src (iL ns),.int k]=some (.v (.int i)):=by
 by_cases hl:k<ns.length
 ·have hk':k.toNat<ns.length:=by omega
  have e:L2.atI (iL ns) k=some (.int ns[k.toNat]):=by
   have:=eG (ps:=iL ns) (x:=k.toNat) (p:=.int ns[k.toNat]) (by unfold iL;rw[List.getElem?_map,List.getElem?_eq_getElem hk'];rfl)
   rwa [Int.toNat_of_nonneg h0] at this
  exact⟨ns[k.toNat],by simp only[ib,dC,EE,Nat.reduceAdd,Nat.reduceSub,Nat.reduceLeDiff,Nat.reduceLT,Nat.reduceEqDiff,Int.reduceLT,Int.reduceLE,Int.reduceAdd,Int.reduceSub,Int.reduceMul,Int.reduceMod,Int.reduceDiv,Int.reduceNeg,Int.reduceToNat,Int.reducePow,Int.reduceEq,xD,decide_eq_true hl,e]⟩
 ·have c1:(k.natAbs<2 ^ 64)=True:=eq_true (by omega)
  have c2:((48271:Int).natAbs<2 ^ 64)=True:=eq_true (by decide)
  have c3:((7:Int).natAbs<2 ^ 64)=True:=eq_true (by decide)
  obtain⟨st',z',e⟩:=vy (s0:=some (.val (.src (iL ns)))) (s1:=some (.val (.int k))) (cut ns none (some 3)) (48271 * (k * k+7 * k+11) % 2147483647) none
  refine⟨st',?_⟩
  simp only[ib,dC,EE,Nat.reduceAdd,Nat.reduceSub,Nat.reduceLeDiff,Nat.reduceLT,Nat.reduceEqDiff,Int.reduceLT,Int.reduceLE,Int.reduceAdd,Int.reduceSub,Int.reduceMul,Int.reduceMod,Int.reduceDiv,Int.reduceNeg,Int.reduceToNat,Int.reducePow,Int.reduceEq,xD,decide_eq_false hl,c1,c2,c3,true_or,ED,e]
theorem BL (x:Nat):∃n:Nat,1≤n/\n≤40/\bT [.int x]=some (.v (.int n)):=by
 have a1:=Int.emod_nonneg ((x:Int) / 8) (show (12:Int)≠0 by decide)
 have a2:=Int.emod_lt_of_pos ((x:Int) / 8) (show (0:Int)<12 by decide)
 have a3:=Int.emod_nonneg ((x:Int) / 8) (show (40:Int)≠0 by decide)
 have a4:=Int.emod_lt_of_pos ((x:Int) / 8) (show (0:Int)<40 by decide)
 by_cases h:(x:Int) % 8=3
 ·refine⟨(1+(x:Int) / 8 % 40).toNat,by omega,by omega,?_⟩
  simp only[ii,dG,EE,Nat.reduceAdd,Nat.reduceSub,Nat.reduceLeDiff,Nat.reduceLT,Nat.reduceEqDiff,Int.reduceLT,Int.reduceLE,Int.reduceAdd,Int.reduceSub,Int.reduceMul,Int.reduceMod,Int.reduceDiv,Int.reduceNeg,Int.reduceToNat,Int.reducePow,Int.reduceEq,OK,decide_eq_true h]
  rw[Int.toNat_of_nonneg (by omega)]
 ·refine⟨(1+(x:Int) / 8 % 12).toNat,by omega,by omega,?_⟩
  simp only[ii,dG,EE,Nat.reduceAdd,Nat.reduceSub,Nat.reduceLeDiff,Nat.reduceLT,Nat.reduceEqDiff,Int.reduceLT,Int.reduceLE,Int.reduceAdd,Int.reduceSub,Int.reduceMul,Int.reduceMod,Int.reduceDiv,Int.reduceNeg,Int.reduceToNat,Int.reducePow,Int.reduceEq,OK,decide_eq_false h]
  rw[Int.toNat_of_nonneg (by omega)]
end Dp
end
section
namespace Lo
open PySem PySem.Spec L2 Fo Pu Dp
noncomputable abbrev At:=Nat×List Nat×Addr
noncomputable def kv (t:At):gd×V:=(.inl (t.1:Int),.ref t.2.2)
noncomputable def nv (n:Nat):V:=.int (n:Int)
structure St (F H F1 H1:Hp)(d:Addr)(acc:List At):Prop where
 gr:Grow F H F1 H1
 d0:H d=none
 dF:F1 d=none
 dH:H1 d=some (.dK (acc.map kv))
 ls:∀t∈acc,H t.2.2=none/\F1 t.2.2=none/\H1 t.2.2=some (.lst (t.2.1.map nv))
 nd:(acc.map (·.2.2)).Nodup
 nk:(acc.map (·.1)).Nodup
end Lo
end
section
namespace Fo
open PySem L2
theorem s5 {y:Str}(hy:y∈bg):y = "none"\/y = "whole"\/y = "halves"\/y = "splits"\/y = "one":=by simpa [bg] using hy
theorem n1:(("halves" : Str) = "whole")=False:=eq_false (by decide)
theorem n2:(("halves" : Str) = "splits")=False:=eq_false (by decide)
theorem n3:(("splits" : Str) = "whole")=False:=eq_false (by decide)
theorem n4:(("one" : Str) = "whole")=False:=eq_false (by decide)
theorem n5:(("one" : Str) = "splits")=False:=eq_false (by decide)
theorem n6:(("one" : Str) = "halves")=False:=eq_false (by decide)
theorem n7:(("none" : Str) = "whole")=False:=eq_false (by decide)
theorem n8:(("none" : Str) = "splits")=False:=eq_false (by decide)
theorem n9:(("none" : Str) = "halves")=False:=eq_false (by decide)
theorem Qs:(("none" : Str) = "one")=False:=eq_false (by decide)
theorem O0:(("splits" : Str) = "halves")=False:=eq_false (by decide)
theorem Qi:(("whole" : Str) = "halves")=False:=eq_false (by decide)
end Fo
end
section
namespace Dp
open PySem L2 Fo Pu Lo
theorem uH {p:PV}{us:List Nat}(hp:p=.tup (nums us)\/p=.lst (nums us))(hm:us.length≤40)(hb:∀x,x<us.length->up us x<us.length){s1:Option Sl}{y:Nat}{l2:List Nat}(w:Way us y l2):∀(pre:List Nat),pre.length+l2.length≤us.length->y<us.length →
  ∀n,l2.length<n->b5 cH dI n [some (.val p),s1,some (.own (nums (pre++[y])))]=.nx [some (.val p),s1,some (.own (nums (pre++l2)))]:=by
 induction w with
 | @head y e=>
  intro pre hl hy n hn
  obtain⟨n,rfl⟩:∃k,n=k+1:=⟨n - 1,by simp at hn;omega⟩
  rw[gT]
  rcases hp with rfl|rfl <;>
   simp only[cH,EE,Nat.reduceAdd,Nat.reduceSub,Nat.reduceLeDiff,Nat.reduceLT,Nat.reduceEqDiff,Int.reduceLT,Int.reduceLE,Int.reduceAdd,Int.reduceSub,Int.reduceMul,Int.reduceMod,Int.reduceDiv,Int.reduceNeg,Int.reduceToNat,Int.reducePow,Int.reduceEq,Pu.iK,ag hy,e]
 | @step y l ne w ih=>
  intro pre hl hy n hn
  obtain⟨n,rfl⟩:∃k,n=k+1:=⟨n - 1,by simp at hn;omega⟩
  have ih:=ih (pre++[y]) (by simp at hl ⊢;omega) (hb y hy) n (by simp at hn;omega)
  rw[List.append_assoc,List.append_assoc] at ih
  have pos:=w.pos
  have hne:decide ((up us y:Int)=(y:Int))=false:=decide_eq_false (by omega)
  have hpl:(pre++[y]).length≤100000:=by simp at hl ⊢;omega
  have hle:decide (((pre++[y]).length:Int)≤(us.length:Int))=true:=decide_eq_true (by simp at hl ⊢;omega)
  rw[gT]
  rcases hp with rfl|rfl <;>
   (simp only[cH,dI,EE,Nat.reduceAdd,Nat.reduceSub,Nat.reduceLeDiff,Nat.reduceLT,Nat.reduceEqDiff,Int.reduceLT,Int.reduceLE,Int.reduceAdd,Int.reduceSub,Int.reduceMul,Int.reduceMod,Int.reduceDiv,Int.reduceNeg,Int.reduceToNat,Int.reducePow,Int.reduceEq,Pu.iK,ag hy,hne,hle,hpl,nK,List.append_assoc];exact ih)
theorem HF {p:PV}{us:List Nat}(hp:p=.tup (nums us)\/p=.lst (nums us))(f:Frst us){x:Nat}(hx:x<us.length):cg [p,.int x]=some (.n (nums (way us x))):=by
 have hl:=oq f.fst hx
 have hm:=f.most
 have e:=uH hp f.most f.fst.bnd (s1:=some (.val (.int x))) (bL f.fst hx) [] (by simpa using hl) hx 10000 (by omega)
 rw[List.nil_append,List.nil_append] at e
 have e':b5 cH dI 10000 [some (.val p),some (.val (.int x)),some (.own [.int x])]=_:=e
 simp only[pd,fX,EE,Nat.reduceAdd,Nat.reduceSub,Nat.reduceLeDiff,Nat.reduceLT,Nat.reduceEqDiff,Int.reduceLT,Int.reduceLE,Int.reduceAdd,Int.reduceSub,Int.reduceMul,Int.reduceMod,Int.reduceDiv,Int.reduceNeg,Int.reduceToNat,Int.reducePow,Int.reduceEq,e']
theorem kb {us:List Nat}(f:Frst us){x:Nat}(hx:x<us.length):L2.atI (nums (way us x)) (-1)=some (.int (hd us x:Nat)):=Pu.uI (bL f.fst hx).ne
end Dp
end
section
namespace Dp
open PySem L2 Fo Pu
end Dp
end
section
namespace Dp
open PySem L2 Fo Pu
noncomputable def d9 (ρ:ai):Out:=(fF (ku (fT (aw cA (aa (fV 0) ae)))) d8 aH) ρ
noncomputable def b7:List PV->Option PR:=run 1 1 d9
theorem kr {a0:PV}:b7 [a0]=(d9 [some (.val a0)]).res:=Eq.trans rfl rfl
noncomputable def b9 (ρ:ai):Out:=(cx (ng (fB eg (aa (fV 0) (aa (fC (.ty "str")) ae))) (sx (af zW (fV 0) (fC (.ktu [.str "size",.str "rank",.str "told",.str "names"])))))) ρ
noncomputable def ay:List PV->Option PR:=run 1 1 b9
theorem gc {a0:PV}:ay [a0]=(b9 [some (.val a0)]).res:=Eq.trans rfl rfl
noncomputable def eA (ρ:ai):Out:=(fF (ku (fT (aw ay (aa (fV 0) ae)))) d8 aH) ρ
noncomputable def bX:List PV->Option PR:=run 1 1 eA
theorem kd {a0:PV}:bX [a0]=(eA [some (.val a0)]).res:=Eq.trans rfl rfl
noncomputable def eM (ρ:ai):Out:=(al (jJ (aw b7 (aa (fV 0) ae)))
  (al (jJ (aw bX (aa (fV 1) ae)))
  (al (jJ (aw bm (aa (fV 2) ae)))
  (al (aT 3 (MT (fT (af ge (fV 1) (fC (.str "size")))) (fC (.int 1)) (fC (.int 0))))
  (cx (cI (aa (fV 1) (aa (fV 2) (aa (fB lh (aa (fB sH (aa (fV 0) ae)) ae)) (aa (af di (cI (aa (fV 3) ae)) (fV 0)) ae)))))))))) ρ
noncomputable def bE:List PV->Option PR:=run 3 4 eM
theorem mh {a0 a1 a2:PV}:bE [a0,a1,a2]=(eM [some (.val a0),some (.val a1),some (.val a2),none]).res:=Eq.trans rfl rfl
noncomputable def b8 (ρ:ai):Out:=(al (aT 7 (D8 (aw aj (aa (aw ax (aa (fV 0) (aa (af be (af be (fV 1) (fC (.int 1))) (af gh (fV 6) (fC (.int 5)))) ae))) (aa (fC (.int 20)) ae))) (DC (af di (fC (.int 4)) (af aL (fV 6) (fC (.int 5))))) Eb))
  (al (iF 8 9 (aa (af aL (af bx (fV 7) (fC (.int 0))) (fV 2)) (aa (af aL (af bx (fV 7) (fC (.int 1))) (fV 2)) ae)))
  (al (fF (fT (af ge (af aL (af bx (fV 4) (fC (.int 1))) (fC (.int 4))) (fC (.int 1)))) (iF 8 9 (aa (af aL (fV 6) (fV 2)) (aa (af aL (af be (fV 6) (fC (.int 1))) (fV 2)) ae))) aH)
  (al (fF (fu (fT (af ge (af aL (af bx (fV 4) (fC (.int 1))) (fC (.int 4))) (fC (.int 2)))) (fT (af zC (af aL (af bx (fV 7) (fC (.int 2))) (fC (.int 3))) (fC (.int 0))))) (al (aT 8 (af aL (af di (af gh (fV 8) (fC (.int 2))) (fC (.int 2))) (fV 2)))
  (aT 9 (fB ky (aa (af iB (fV 2) (fC (.int 1))) (aa (af be (fV 8) (fC (.int 1))) ae))))) aH)
  (al (fF (fu (fT (af na (fV 5) (eT ae))) (fT (af ge (af aL (af bx (fV 7) (fC (.int 2))) (fC (.int 7))) (fC (.int 1))))) (hZ (af bx (fV 5) (af aL (af bx (fV 7) (fC (.int 3))) (fB fW (aa (fV 5) ae)))) (m9 2 (gC (gN 8) (gC (gN 9) g0)))) aH)
  (kK 5 (aa (af bx (eT (aa (cI (aa (fV 8) (aa (fV 9) ae))) (aa (cI (aa (fV 9) (aa (fV 8) ae))) ae))) (af aL (af gh (af bx (fV 7) (fC (.int 2))) (fC (.int 7))) (fC (.int 2)))) ae))))))) ρ
noncomputable def eE (ρ:ai):Out:=(al (aT 4 (aw aj (aa (aw ax (aa (fV 0) (aa (fV 1) ae))) (aa (fC (.int 4)) ae))))
  (al (ia 5 (eT ae))
  (al (gJ (hJ hX (aa (af aL (af bx (fV 4) (fC (.int 0))) (af be (fV 3) (fC (.int 1)))) ae)) (gN 6) b8)
  (cx (fB jV (aa (fV 5) ae)))))) ρ
noncomputable def bC:List PV->Option PR:=run 4 10 eE
theorem lL {a0 a1 a2 a3:PV}:bC [a0,a1,a2,a3]=(eE [some (.val a0),some (.val a1),some (.val a2),some (.val a3),none,none,none,none,none,none]).res:=Eq.trans rfl rfl
noncomputable def bd (ρ:ai):Out:=(al (aT 8 (aw aj (aa (aw ax (aa (fV 0) (aa (af be (af be (fV 1) (fC (.int 20))) (af gh (fV 5) (fC (.int 10)))) ae))) (aa (fC (.int 10)) ae))))
  (kK 4 (aa (af bx (eT (aa (cI (aa (fC (.str "join")) (aa (fV 6) (aa (fV 7) ae)))) (aa (cI (aa (fC (.str "join")) (aa (fV 6) (aa (fV 7) ae)))) (aa (cI (aa (fC (.str "find")) (aa (fV 6) ae))) ae)))) (af aL (af bx (fV 8) (af aL (fV 5) (fC (.int 10)))) (fC (.int 3)))) ae))) ρ
noncomputable def ez (ρ:ai):Out:=(al (ia 4 (eT ae))
  (al (gJ (jx (aa (aw bC (aa (fV 0) (aa (fV 1) (aa (fV 2) (aa (fV 3) ae))))) ae)) (m9 2 (gC (gN 5) (gC (m9 2 (gC (gN 6) (gC (gN 7) g0))) g0))) bd)
  (cx (fB jV (aa (fV 4) ae))))) ρ
noncomputable def bh:List PV->Option PR:=run 4 9 ez
theorem kg {a0 a1 a2 a3:PV}:bh [a0,a1,a2,a3]=(ez [some (.val a0),some (.val a1),some (.val a2),some (.val a3),none,none,none,none,none]).res:=Eq.trans rfl rfl
noncomputable def eC (ρ:ai):Out:=(mL 0 (fV 5) (fV 4)) ρ
noncomputable def aQ (ρ:ai):Option Bool:=(fT (af na (af bx (fV 0) (fV 7)) (fV 7))) ρ
noncomputable def bp (ρ:ai):Out:=(al (aT 8 (af bx (fV 0) (fV 7)))
  (al (mL 0 (fV 7) (af bx (fV 0) (fV 8)))
  (al (aT 7 (af bx (eT (aa (fV 8) (aa (af bx (fV 0) (fV 7)) ae))) (fB pR (aa (af ge (fV 1) (fC (.str "halves"))) ae))))
  (aT 6 (af be (fV 6) (fC (.int 1))))))) ρ
noncomputable def bK (ρ:ai):Out:=(al (ia 0 (fB eV (aa (fV 0) ae)))
  (al (aT 3 (aw cg (aa (fV 0) (aa (fV 2) ae))))
  (al (aT 4 (af bx (fV 3) (sd (fC (.int 1)))))
  (al (fF (g7 (fT (af ge (fV 1) (fC (.str "none")))) (g7 (fT (af ge (fV 1) (fC (.str "whole")))) (fT (af ge (fV 1) (fC (.str "one")))))) (al (fF (fT (af ge (fV 1) (fC (.str "whole")))) (gJ (wn (fV 3)) (gN 5) eC) aH)
  (al (fF (fT (af ge (fV 1) (fC (.str "one")))) (mL 0 (fV 2) (af bx (fV 0) (af bx (fV 0) (fV 2)))) aH)
  (cx (cI (aa (fV 4) (aa (fB jV (aa (fV 0) ae)) (aa (af iB (fB fW (aa (fV 3) ae)) (fC (.int 1))) ae))))))) aH)
  (al (aT 6 (fC (.int 0)))
  (al (aT 7 (fV 2))
  (al (gK aQ bp)
  (cx (cI (aa (fV 4) (aa (fB jV (aa (fV 0) ae)) (aa (fV 6) ae)))))))))))) ρ
noncomputable def bI:List PV->Option PR:=run 3 9 bK
theorem cF {a0 a1 a2:PV}:bI [a0,a1,a2]=(bK [some (.val a0),some (.val a1),some (.val a2),none,none,none,none,none,none]).res:=Eq.trans rfl rfl
noncomputable def aB (ρ:ai):Out:=(al (qO 1 2 (fB eV (aa (fV 1) ae)) (fB eV (aa (fV 2) ae)))
  (al (iF 5 6 (aa (fV 3) (aa (fV 4) ae)))
  (al (fF (g7 (fu (fT (af zW (fV 0) (cI (aa (fC (.str "size")) (aa (fC (.str "rank")) ae))))) (fT (af zC (af bx (fV 2) (fV 4)) (af bx (fV 2) (fV 3))))) (fu (fT (af ge (fV 0) (fC (.str "names")))) (fT (af D1 (fV 4) (fV 3))))) (iF 5 6 (aa (fV 4) (aa (fV 3) ae))) aH)
  (al (mL 1 (fV 6) (fV 5))
  (al (fF (fT (af ge (fV 0) (fC (.str "size")))) (mL 2 (fV 5) (af be (af bx (fV 2) (fV 5)) (af bx (fV 2) (fV 6)))) aH)
  (al (fF (fu (fT (af ge (fV 0) (fC (.str "rank")))) (fT (af ge (af bx (fV 2) (fV 5)) (af bx (fV 2) (fV 6))))) (mL 2 (fV 5) (af be (af bx (fV 2) (fV 5)) (fC (.int 1)))) aH)
  (cx (cI (aa (fB jV (aa (fV 1) ae)) (aa (fB jV (aa (fV 2) ae)) ae)))))))))) ρ
noncomputable def bj:List PV->Option PR:=run 5 7 aB
theorem aS {a0 a1 a2 a3 a4:PV}:bj [a0,a1,a2,a3,a4]=(aB [some (.val a0),some (.val a1),some (.val a2),some (.val a3),some (.val a4),none,none]).res:=Eq.trans rfl rfl
noncomputable def cM (ρ:ai):Out:=(al (hZ (fV 0) (m9 4 (gC (gN 2) (gC (gN 3) (gC (gN 4) (gC (gN 5) g0))))))
  (al (hZ (aw bI (aa (fV 4) (aa (fV 3) (aa (af bx (fV 1) (fC (.int 1))) ae)))) (m9 3 (gC (gN 6) (gC (gN 4) (gC (gN 7) g0)))))
  (al (fF (fT (af ge (af bx (fV 1) (fC (.int 0))) (fC (.str "find")))) (cx (cI (aa (cI (aa (fV 2) (aa (fV 3) (aa (fV 4) (aa (fV 5) ae))))) (aa (fV 6) (aa (fV 7) ae))))) aH)
  (al (hZ (aw bI (aa (fV 4) (aa (fV 3) (aa (af bx (fV 1) (fC (.int 2))) ae)))) (m9 3 (gC (gN 8) (gC (gN 4) (gC (gN 9) g0)))))
  (al (fF (fT (af na (fV 6) (fV 8))) (hZ (aw bj (aa (fV 2) (aa (fV 4) (aa (fV 5) (aa (fV 6) (aa (fV 8) ae)))))) (m9 2 (gC (gN 4) (gC (gN 5) g0)))) aH)
  (cx (cI (aa (cI (aa (fV 2) (aa (fV 3) (aa (fV 4) (aa (fV 5) ae))))) (aa (af na (fV 6) (fV 8)) (aa (af be (fV 7) (fV 9)) ae)))))))))) ρ
noncomputable def bS:List PV->Option PR:=run 2 10 cM
theorem eP {a0 a1:PV}:bS [a0,a1]=(cM [some (.val a0),some (.val a1),none,none,none,none,none,none,none,none]).res:=Eq.trans rfl rfl
end Dp
end
section
namespace Dp
open PySem L2 Fo Pu
noncomputable def eX (ρ:ai):Out:=(fF (fT (af wm (fV 0) (fV 2))) (eU 1) aH) ρ
noncomputable def fK (ρ:ai):Out:=(al (gJ (jx (aa (fC (.ktu [.int 2,.int 3,.int 7,.int 2047])) ae)) (m9 2 (gC (gN 1) (gC (gN 2) g0))) eX)
  (cx (fB fW (aa (fC (.ktu [.int 2,.int 3,.int 7,.int 2047])) ae)))) ρ
noncomputable def gu:List PV->Option PR:=run 1 3 fK
theorem jc {a0:PV}:gu [a0]=(fK [some (.val a0),none,none]).res:=Eq.trans rfl rfl
noncomputable def qq (c:FA->FE)(ρ:ai):Out:=(al (aT 3 (c (aa (af iB (fV 0) (fC (.int 1))) (aa (fV 3) (aa (fV 2) ae)))))
  (fF (fT (af zC (fV 3) (fV 2))) (eU 3) aH)) ρ
noncomputable def kA (c:FA->FE)(ρ:ai):Out:=(al (fF (fT (af ge (fV 0) (fC (.int 0)))) (cx (af be (fV 1) (fC (.int 1)))) aH)
  (al (aT 3 (fV 1))
  (al (gJ (hJ hX (aa (af be (fV 1) (fC (.int 1))) ae)) (gN 4) (qq c))
  (eU 3)))) ρ
noncomputable def eK:Nat->List PV->Option PR
 |0=>run 3 5 (kA fun _=>dm)
 |k+1=>run 3 5 (kA (aw (eK k)))
noncomputable def cJ:List PV->Option PR:=eK 5
noncomputable def mI (ρ:ai):Option Bool:=(fT (af wm (aw cJ (aa (af be (fV 2) (fC (.int 1))) (aa (fV 0) (aa (fV 1) ae)))) (fV 1))) ρ
noncomputable def lY (ρ:ai):Out:=(ul (fun a b=>a+b) 2 (fC (.int 1))) ρ
noncomputable def oC (ρ:ai):Out:=(al (aT 2 (fC (.int 0)))
  (al (gK mI lY)
  (eU 2))) ρ
noncomputable def cu:List PV->Option PR:=run 2 3 oC
noncomputable def hV (ρ:ai):Option Bool:=(fT (af wm (fV 4) (fV 2))) ρ
noncomputable def gY (ρ:ai):Out:=(al (ul (fun a b=>a+b) 3 (fC (.int 1)))
  (aT 4 (aw cJ (aa (fV 0) (aa (fV 4) (aa (fV 2) ae)))))) ρ
noncomputable def iC (ρ:ai):Out:=(al (aT 3 (fC (.int 0)))
  (al (aT 4 (aw cJ (aa (fV 0) (aa (fV 1) (aa (fV 2) ae)))))
  (al (gK hV gY)
  (eU 3)))) ρ
noncomputable def aK:List PV->Option PR:=run 3 5 iC
noncomputable def cZ (ρ:ai):Out:=(al (aT 3 (aw gu (aa (fB fW (aa (fV 0) ae)) ae)))
  (al (aT 4 (af bx (fV 1) (fV 2)))
  (al (fF (g7 (fT (af ge (af bx (fV 0) (fV 2)) (fV 2))) (fT (af ge (fV 4) (fC (.int 0))))) (cx (af di (fV 3) (fV 4))) aH)
  (al (aT 5 (af bx (fV 1) (af bx (fV 0) (fV 2))))
  (al (aT 6 (aw cu (aa (fV 4) (aa (fV 5) ae))))
  (cx (af iB (af di (af iB (fV 3) (fV 6)) (fV 4)) (aw aK (aa (fV 6) (aa (fV 4) (aa (fV 5) ae))))))))))) ρ
noncomputable def cv:List PV->Option PR:=run 3 7 cZ
theorem fJ {a0 a1 a2:PV}:cv [a0,a1,a2]=(cZ [some (.val a0),some (.val a1),some (.val a2),none,none,none,none]).res:=Eq.trans rfl rfl
noncomputable def cP (ρ:ai):Option RV:=(aw cv (aa (fV 1) (aa (fV 2) (aa (fV 0) ae)))) ρ
noncomputable def d7 (ρ:ai):Out:=(al (hZ (fV 0) (m9 4 (gC (gN 1) (gC (gN 2) (gC (gN 3) (gC (gN 4) g0))))))
  (al (fF (g7 (fT (af na (fV 1) (fC (.str "rank")))) (fT (af na (fV 2) (fC (.str "whole"))))) d8 aH)
  (cx (fB rP (aa (fv [none,some 3,some 4] (hJ hX (aa (fB fW (aa (fV 3) ae)) ae)) (gN 0) pk cP) ae))))) ρ
noncomputable def aR:List PV->Option PR:=run 1 5 d7
theorem kI {a0:PV}:aR [a0]=(d7 [some (.val a0),none,none,none,none]).res:=Eq.trans rfl rfl
noncomputable def cN (ρ:ai):Option Bool:=(fT (af zC (fV 1) (fV 0))) ρ
noncomputable def cK (ρ:ai):Option RV:=(fV 0) ρ
noncomputable def fH (ρ:ai):Out:=(cx (fB fW (aa (fv [none,some 0] (wn (cI (aa (fC (.int 2)) (aa (fC (.int 3)) (aa (fC (.int 7)) (aa (fC (.int 2047)) ae)))))) (gN 0) cN cK) ae))) ρ
noncomputable def bn:List PV->Option PR:=run 1 1 fH
theorem ou {a0:PV}:bn [a0]=(fH [some (.val a0)]).res:=Eq.trans rfl rfl
noncomputable def jq (c:FA->FE)(ρ:ai):Out:=(fF (fT (af wm (fV 1) (fC (.int 60)))) (aT 1 (c (aa (af iB (fV 0) (fC (.int 1))) (aa (fV 1) ae)))) aH) ρ
noncomputable def fY (c:FA->FE)(ρ:ai):Out:=(al (fF (g7 (fT (af ge (fV 0) (fC (.int 0)))) (fT (af zC (fV 1) (fC (.int 60))))) (cx (af be (fV 1) (fC (.int 1)))) aH)
  (al (gJ (hJ hX (aa (af be (fV 1) (fC (.int 1))) ae)) (gN 2) (jq c))
  (eU 1))) ρ
noncomputable def cz:Nat->List PV->Option PR
 |0=>run 2 3 (fY fun _=>dm)
 |k+1=>run 2 3 (fY (aw (cz k)))
noncomputable def aN:List PV->Option PR:=cz 5
noncomputable def aE (ρ:ai):Option Bool:=(fT (af wm (aw aN (aa (fV 0) (aa (fV 1) ae))) (fV 2))) ρ
noncomputable def aD (ρ:ai):Option RV:=(fV 0) ρ
noncomputable def aG (ρ:ai):Option Bool:=(fT (af wm (fV 8) (fV 5))) ρ
noncomputable def aF (ρ:ai):Out:=(iF 7 8 (aa (af be (fV 7) (fC (.int 1))) (aa (aw aN (aa (fV 6) (aa (fV 8) ae))) ae))) ρ
noncomputable def aZ (ρ:ai):Out:=(al (hZ (cI (aa (aw bn (aa (fB fW (aa (fV 0) ae)) ae)) (aa (af bx (fV 1) (fV 2)) (aa (af bx (fV 1) (af bx (fV 0) (fV 2))) ae)))) (m9 3 (gC (gN 3) (gC (gN 4) (gC (gN 5) g0)))))
  (al (fF (g7 (fT (af ge (af bx (fV 0) (fV 2)) (fV 2))) (fT (af ge (fV 4) (fC (.int 0))))) (cx (af di (fV 3) (fV 4))) aH)
  (al (aT 6 (fB mU (aa (fv [none,some 4,some 5] (hJ hX (aa (fC (.int 5)) ae)) (gN 0) aE aD) ae)))
  (al (iF 7 8 (aa (fC (.int 0)) (aa (aw aN (aa (fV 6) (aa (fV 4) ae))) ae)))
  (al (gK aG aF)
  (cx (af iB (af di (af iB (fV 3) (fV 6)) (fV 4)) (fV 7)))))))) ρ
noncomputable def aA:List PV->Option PR:=run 3 9 aZ
theorem ck {a0 a1 a2:PV}:aA [a0,a1,a2]=(aZ [some (.val a0),some (.val a1),some (.val a2),none,none,none,none,none,none]).res:=Eq.trans rfl rfl
noncomputable def bH (ρ:ai):Option RV:=(aw aA (aa (af bx (fV 1) (fC (.int 2))) (aa (af bx (fV 1) (fC (.int 3))) (aa (fV 0) ae)))) ρ
noncomputable def cD (ρ:ai):Out:=(cx (fB rP (aa (fv [none,some 0] (hJ hX (aa (fB fW (aa (af bx (fV 0) (fC (.int 2))) ae)) ae)) (gN 0) pk bH) ae))) ρ
noncomputable def az:List PV->Option PR:=run 1 1 cD
theorem hG {a0:PV}:az [a0]=(cD [some (.val a0)]).res:=Eq.trans rfl rfl
noncomputable def ce (ρ:ai):Out:=(kK 1 (aa (cI (aa (fC (.str "join")) (aa (af be (fV 3) (af aL (fV 0) (fV 2))) (aa (af be (af be (fV 3) (fV 2)) (af aL (af gh (fV 0) (fC (.int 8))) (fV 2))) ae)))) ae)) ρ
noncomputable def bD (ρ:ai):Out:=(gJ (hJ xB (aa (fC (.int 0)) (aa (af iB (fC (.int 40)) (fV 2)) (aa (af di (fC (.int 2)) (fV 2)) ae)))) (gN 3) ce) ρ
noncomputable def dv (ρ:ai):Out:=(al (ia 1 (eT ae))
  (al (gJ (wn (eT (aa (fC (.int 1)) (aa (fC (.int 2)) (aa (fC (.int 4)) (aa (fC (.int 8)) (aa (fC (.int 16)) ae))))))) (gN 2) bD)
  (cx (fB jV (aa (D8 (fV 1) Eb (DC (fC (.int 50)))) ae))))) ρ
noncomputable def aX:List PV->Option PR:=run 1 4 dv
theorem jl {a0:PV}:aX [a0]=(dv [some (.val a0),none,none,none]).res:=Eq.trans rfl rfl
end Dp
end
section
namespace Pt
open L2 Fo
noncomputable def cl (n:Nat)(c:Nat->Nat)(x:Nat):List Nat:=(List.range n).filter fun y=>decide (c y=c x)
theorem mem_cl {n:Nat}{c:Nat->Nat}{x y:Nat}:y∈cl n c x↔y<n/\c y=c x:=by
 unfold cl;rw[List.mem_filter,List.mem_range,decide_eq_true_eq]
theorem iV {n:Nat}{c c':Nat->Nat}{x x':Nat}(h:∀y,y<n->(c y=c x↔c' y=c' x')):cl n c x=cl n c' x':=
 List.filter_congr fun y hy=>by rw[decide_eq_decide];exact h y (List.mem_range.mp hy)
theorem MM {n:Nat}{c:Nat->Nat}{x y:Nat}(hx:x<n):cl n c x=cl n c y↔c x=c y:=by
 constructor
 ·intro e
  exact (mem_cl.mp (e▸mem_cl.mpr ⟨hx,rfl⟩)).2
 ·intro e;exact iV fun z _=>by rw[e]
theorem tH (n:Nat)(c:Nat->Nat)(x:Nat):(cl n c x).Pairwise (· < ·):=(List.pairwise_lt_range).filter _
theorem HN (n:Nat)(c:Nat->Nat)(x:Nat):(cl n c x).length≤n:=by
 have:=List.length_filter_le (fun y=>decide (c y=c x)) (List.range n)
 rwa [List.length_range] at this
noncomputable def jn (c:Nat->Nat)(x y:Nat):Nat->Nat:=fun z=>if c z=c x then c y else c z
theorem LI {n:Nat}{c:Nat->Nat}{x y:Nat}(h:c x≠c y):mO ((cl n c x++cl n c y).map Int.ofNat)=(cl n (jn c x y) x).map Int.ofNat:=by
 refine (tV (List.Perm.map _ ?_) ?_).symm
 ·refine (List.perm_ext_iff_of_nodup ((tH n _ x).imp fun h=>Nat.ne_of_lt h) ?_).mpr fun z=>?_
  ·refine List.nodup_append.mpr ⟨(tH n _ x).imp fun h=>Nat.ne_of_lt h,(tH n _ y).imp fun h=>Nat.ne_of_lt h,fun a ha b hb e=>?_⟩
   subst e
   exact h ((mem_cl.mp ha).2.symm.trans (mem_cl.mp hb).2)
  ·rw[List.mem_append,mem_cl,mem_cl,mem_cl]
   unfold jn
   rw[if_pos rfl]
   by_cases e:c z=c x
   ·rw[if_pos e];exact⟨fun q=>.inl ⟨q.1,e⟩,fun q=>⟨q.elim (·.1) (·.1),rfl⟩⟩
   ·rw[if_neg e];exact⟨fun q=>.inr q,fun q=>q.elim (fun q=>absurd q.2 e) id⟩
 ·rw[List.pairwise_map]
  exact (tH n _ x).imp fun h=>by show Int.ofNat _≤Int.ofNat _;exact Int.ofNat_le.mpr (Nat.le_of_lt h)
end Pt
end
section
namespace Dp
open PySem L2 Fo Pu Lo Pt
theorem gp (l:List Nat):(nums l).length=l.length:=List.length_map ..
theorem pI (l m:List Nat):nums l++nums m=nums (l++m):=by unfold nums;rw[List.map_append]
noncomputable def Qc (acc l:List Nat):List Nat:=l.foldl (fun a t=>a.set t (up a t+1)) acc
noncomputable def sz (us:List Nat):List Nat:=(List.range us.length).foldl (fun acc x=>Qc acc (way us x)) (List.replicate us.length 0)
end Dp
end
section
namespace Fo
open PySem L2
theorem pT {l:List Nat}{n:Nat}(nd:l.Nodup)(h:∀x∈l,x<n):l.length≤n:=by
 have p:l.Perm ((List.range n).filter fun x=>decide (x∈l)):=(List.perm_ext_iff_of_nodup nd (List.nodup_range.filter _)).mpr fun x=>by
  rw[List.mem_filter,List.mem_range,decide_eq_true_eq]
  exact⟨fun q=>⟨h x q,q⟩,fun q=>q.2⟩
 rw[p.length_eq]
 have:=List.length_filter_le (fun x=>decide (x∈l)) (List.range n)
 rwa [List.length_range] at this
theorem sQ {us:List Nat}(f:Fst us){x t:Nat}(hx:x<us.length)(h:t∈way us x):hd us t=hd us x:=by
 obtain⟨l2,w2,e,_,_⟩:=(bL f hx).later t h
 have:=iu f (fL f hx h) w2
 unfold hd
 rw[this,e]
end Fo
end
section
namespace Fo
open PySem L2
theorem m6 {us:List Nat}(f:Frst us){u t:Nat}(hu:u<us.length)(ht:t<us.length)(eu:up us u=u)(et:up us t=t)(ne:t≠u):Frst (us.set u t):=by
 have hl:(us.set u t).length=us.length:=List.length_set
 refine⟨by rw[hl];exact f.one,by rw[hl];exact f.most,⟨fun x hx=>?_,fun x=>if hd us x=u then dp us x+1 else dp us x,fun x hx=>?_,fun x hx hn=>?_⟩⟩
 ·rw[hl] at hx ⊢
  rw[aJ hu]
  split
  ·exact ht
  ·exact f.fst.bnd x hx
 ·rw[hl] at hx ⊢
  have h1:=oq f.fst hx
  have h2:=(bL f.fst hx).pos
  show (if hd us x=u then dp us x+1 else dp us x)<us.length
  unfold dp
  split
  ·next e=>
   have nm:t∉way us x:=fun q=>ne (by rw[←cQ f.fst ht et,sQ f.fst hx q,e])
   have:(t::way us x).length≤us.length:=pT (List.nodup_cons.mpr ⟨nm,(bL f.fst hx).nodup f.fst hx⟩) fun z hz=>by
    rcases List.mem_cons.mp hz with rfl|hz
    ·exact ht
    ·exact fL f.fst hx hz
   rw[List.length_cons] at this
   omega
  ·omega
 ·rw[hl] at hx
  rw[aJ hu] at hn ⊢
  show (if hd us (if x=u then t else up us x)=u then _ else _)<(if hd us x=u then dp us x+1 else dp us x)
  by_cases e:x=u
  ·subst e
   rw[if_pos rfl,cQ f.fst ht et,if_neg ne,cQ f.fst hx eu,if_pos rfl]
   have:dp us t=0:=by unfold dp;rw[pA f.fst ht et];rfl
   omega
  ·rw[if_neg e] at hn ⊢
   rw[K5 f.fst hx]
   have:dp us (up us x)+1=dp us x:=by
    have h2:=(bL f.fst (f.fst.bnd x hx)).pos
    unfold dp
    rw[pF f.fst hx hn,List.length_cons]
    omega
   split<;>omega
end Fo
namespace Dp
open PySem L2 Fo Pu
theorem eY:∀l:List Nat,DH (nums l)=true
 |[]=>rfl
 |x::l=>by rw[cW,DH,eY l];rfl
theorem lc {s1 s2 s3 s6 s7 s8:Option Sl}{n h:Nat}:∀(l us:List Nat) (z5:Option Sl),us.length=n->(∀t∈l,t<n)->∃z5',bF (gN 5) eC (nums l) [some (.own (nums us)),s1,s2,s3,some (.val (.int h)),z5,s6,s7,s8]=.nx [some (.own (nums (eN us l h))),s1,s2,s3,some (.val (.int h)),z5',s6,s7,s8]
 |[],us,z5,_,_=>⟨z5,rfl⟩
 |t::l,us,z5,hn,hl=>by
  obtain⟨z5',e⟩:=lc (s1:=s1) (s2:=s2) (s3:=s3) (s6:=s6) (s7:=s7) (s8:=s8) (h:=h) l (us.set t h) (some (.val (.int t))) (by rw[List.length_set];exact hn) fun u hu=>hl u (List.mem_cons_of_mem _ hu)
  refine⟨z5',?_⟩
  have ht:t<us.length:=by rw[hn];exact hl t List.mem_cons_self
  show _=Out.nx [some (.own (nums (eN (us.set t h) l h))),s1,s2,s3,some (.val (.int h)),z5',s6,s7,s8]
  rw[←e,cW,cE]
  simp only[eC,EE,Nat.reduceAdd,Nat.reduceSub,Nat.reduceLeDiff,Nat.reduceLT,Nat.reduceEqDiff,Int.reduceLT,Int.reduceLE,Int.reduceAdd,Int.reduceSub,Int.reduceMul,Int.reduceMod,Int.reduceDiv,Int.reduceNeg,Int.reduceToNat,Int.reducePow,Int.reduceEq,bf ht,bB]
theorem ue {s2 s3 s4 s5:Option Sl}{us us':List Nat}{x h n:Nat}(r:Halv us x h us' n):∀(k:Nat) (z8:Option Sl) (fuel:Nat),(∀z,z<us.length->up us z<us.length)->x<us.length->n<fuel →
  ∃z8',b5 aQ bp fuel [some (.own (nums us)),some (.val (.str "halves")),s2,s3,s4,s5,some (.val (.int k)),some (.val (.int x)),z8]=.nx [some (.own (nums us')),some (.val (.str "halves")),s2,s3,s4,s5,some (.val (.int (k+n:Nat))),some (.val (.int h)),z8']:=by
 induction r with
 | @stop us x e=>
  intro k z8 fuel hb hx hf
  obtain⟨fuel,rfl⟩:∃g,fuel=g+1:=⟨fuel - 1,by omega⟩
  refine⟨z8,?_⟩
  rw[gT]
  simp only[aQ,EE,Nat.reduceAdd,Nat.reduceSub,Nat.reduceLeDiff,Nat.reduceLT,Nat.reduceEqDiff,Int.reduceLT,Int.reduceLE,Int.reduceAdd,Int.reduceSub,Int.reduceMul,Int.reduceMod,Int.reduceDiv,Int.reduceNeg,Int.reduceToNat,Int.reducePow,Int.reduceEq,ag hx,e,Nat.add_zero]
 | @step us x h n us' ne r ih=>
  intro k z8 fuel hb hx hf
  obtain⟨fuel,rfl⟩:∃g,fuel=g+1:=⟨fuel - 1,by omega⟩
  have h1:=hb x hx
  have h2:=hb _ h1
  obtain⟨z8',e⟩:=ih (k+1) (some (.val (.int (up us x:Nat)))) fuel (fun z hz=>by
   rw[List.length_set] at hz ⊢
   rw[aJ hx]
   split
   ·exact h2
   ·exact hb z hz) (by rw[List.length_set];exact h2) (by omega)
  refine⟨z8',?_⟩
  have d:decide ((up us x:Int)=(x:Int))=false:=decide_eq_false (by omega)
  have hx':x<(us.set x (up us (up us x))).length:=by rw[List.length_set];exact hx
  have e3:up (us.set x (up us (up us x))) x=up us (up us x):=by rw[aJ hx,if_pos rfl]
  rw[gT,show k+(n+1)=k+1+n by omega,←e]
  simp only[aQ,bp,EE,Nat.reduceAdd,Nat.reduceSub,Nat.reduceLeDiff,Nat.reduceLT,Nat.reduceEqDiff,Int.reduceLT,Int.reduceLE,Int.reduceAdd,Int.reduceSub,Int.reduceMul,Int.reduceMod,Int.reduceDiv,Int.reduceNeg,Int.reduceToNat,Int.reducePow,Int.reduceEq,ID,ag hx,ag h1,d,bf hx,bB,ag hx',e3]
  rfl
theorem uM {s2 s3 s4 s5:Option Sl}{us us':List Nat}{x h n:Nat}(r:Splt us x h us' n):∀(k:Nat) (z8:Option Sl) (fuel:Nat),(∀z,z<us.length->up us z<us.length)->x<us.length->n<fuel →
  ∃z8',b5 aQ bp fuel [some (.own (nums us)),some (.val (.str "splits")),s2,s3,s4,s5,some (.val (.int k)),some (.val (.int x)),z8]=.nx [some (.own (nums us')),some (.val (.str "splits")),s2,s3,s4,s5,some (.val (.int (k+n:Nat))),some (.val (.int h)),z8']:=by
 induction r with
 | @stop us x e=>
  intro k z8 fuel hb hx hf
  obtain⟨fuel,rfl⟩:∃g,fuel=g+1:=⟨fuel - 1,by omega⟩
  refine⟨z8,?_⟩
  rw[gT]
  simp only[aQ,EE,Nat.reduceAdd,Nat.reduceSub,Nat.reduceLeDiff,Nat.reduceLT,Nat.reduceEqDiff,Int.reduceLT,Int.reduceLE,Int.reduceAdd,Int.reduceSub,Int.reduceMul,Int.reduceMod,Int.reduceDiv,Int.reduceNeg,Int.reduceToNat,Int.reducePow,Int.reduceEq,ag hx,e,Nat.add_zero]
 | @step us x h n us' ne r ih=>
  intro k z8 fuel hb hx hf
  obtain⟨fuel,rfl⟩:∃g,fuel=g+1:=⟨fuel - 1,by omega⟩
  have h1:=hb x hx
  have h2:=hb _ h1
  obtain⟨z8',e⟩:=ih (k+1) (some (.val (.int (up us x:Nat)))) fuel (fun z hz=>by
   rw[List.length_set] at hz ⊢
   rw[aJ hx]
   split
   ·exact h2
   ·exact hb z hz) (by rw[List.length_set];exact h1) (by omega)
  refine⟨z8',?_⟩
  have d:decide ((up us x:Int)=(x:Int))=false:=decide_eq_false (by omega)
  have hx':x<(us.set x (up us (up us x))).length:=by rw[List.length_set];exact hx
  have e3:up (us.set x (up us (up us x))) x=up us (up us x):=by rw[aJ hx,if_pos rfl]
  rw[gT,show k+(n+1)=k+1+n by omega,←e]
  simp only[aQ,bp,EE,Nat.reduceAdd,Nat.reduceSub,Nat.reduceLeDiff,Nat.reduceLT,Nat.reduceEqDiff,Int.reduceLT,Int.reduceLE,Int.reduceAdd,Int.reduceSub,Int.reduceMul,Int.reduceMod,Int.reduceDiv,Int.reduceNeg,Int.reduceToNat,Int.reducePow,Int.reduceEq,ID,ag hx,ag h1,d,bf hx,bB,ag hx',e3]
  rfl
theorem oZ {us:List Nat}(f:Frst us){y:Str}(hy:y∈bg){x:Nat}(hx:x<us.length):bI [.tup (nums us),.str y,.int x]=some (.v (.tup [.int (hd us x:Nat),.tup (nums (du y us x)),.int (nP y us x:Nat)])):=by
 have w:=bL f.fst hx
 have nd:=w.nodup f.fst hx
 have lt:=w.lt f.fst.bnd hx
 have pos:=w.pos
 have hl:=oq f.fst hx
 have hm:=f.most
 have hd1:((way us x).length:Int) - 1=(dp us x:Nat):=by unfold dp;omega
 have lw:=HF (p:=.lst (nums us)) (.inr rfl) f hx
 have h1:=f.fst.bnd x hx
 rcases s5 hy with rfl|rfl|rfl|rfl|rfl
 ·have e:du "none" us x=us:=(iE rfl fun t ht=>by simp only[jL,n7,n8,n9,Qs,if_false]).symm
  have es:nP "none" us x=dp us x:=by simp only[nP,n9,if_false]
  simp only[cF,bK,EE,Nat.reduceAdd,Nat.reduceSub,Nat.reduceLeDiff,Nat.reduceLT,Nat.reduceEqDiff,Int.reduceLT,Int.reduceLE,Int.reduceAdd,Int.reduceSub,Int.reduceMul,Int.reduceMod,Int.reduceDiv,Int.reduceNeg,Int.reduceToNat,Int.reducePow,Int.reduceEq,ID,lw,eY,kb f hx,hd1,e,es]
 ·obtain⟨z5,el⟩:=lc (s1:=some (.val (.str "whole"))) (s2:=some (.val (.int x))) (s3:=some (.val (.lst (nums (way us x))))) (s6:=none) (s7:=none) (s8:=none) (h:=hd us x) (way us x) us none rfl lt
  have e:eN us (way us x) (hd us x)=du "whole" us x:=iE (sS ..) fun t ht=>by rw[uo lt];simp only[jL,if_true]
  have es:nP "whole" us x=dp us x:=by simp only[nP,Qi,if_false]
  rw[e] at el
  simp only[cF,bK,EE,Nat.reduceAdd,Nat.reduceSub,Nat.reduceLeDiff,Nat.reduceLT,Nat.reduceEqDiff,Int.reduceLT,Int.reduceLE,Int.reduceAdd,Int.reduceSub,Int.reduceMul,Int.reduceMod,Int.reduceDiv,Int.reduceNeg,Int.reduceToNat,Int.reducePow,Int.reduceEq,ID,lw,eY,kb f hx,hd1,el,es]
 ·obtain⟨us',r,g1,g2⟩:=sX _ w nd lt
  have e:us'=du "halves" us x:=iE g1 fun t ht=>by rw[g2];simp only[jL,n1,if_true,if_false]
  have es:nP "halves" us x=(way us x).length / 2:=by simp only[nP,if_true]
  obtain⟨z8,el⟩:=ue (s2:=some (.val (.int x))) (s3:=some (.val (.lst (nums (way us x))))) (s4:=some (.val (.int (hd us x:Nat)))) (s5:=none) r 0 none 10000 f.fst.bnd hx (by omega)
  rw[Nat.zero_add,e,←es] at el
  have el:b5 aQ bp 10000 [some (.own (nums us)),some (.val (.str "halves")),some (.val (.int x)),some (.val (.lst (nums (way us x)))),some (.val (.int (hd us x:Nat))),none,some (.val (.int 0)),some (.val (.int x)),none]=_:=el
  simp only[cF,bK,EE,Nat.reduceAdd,Nat.reduceSub,Nat.reduceLeDiff,Nat.reduceLT,Nat.reduceEqDiff,Int.reduceLT,Int.reduceLE,Int.reduceAdd,Int.reduceSub,Int.reduceMul,Int.reduceMod,Int.reduceDiv,Int.reduceNeg,Int.reduceToNat,Int.reducePow,Int.reduceEq,ID,lw,eY,kb f hx,hd1,el]
 ·obtain⟨us',r,g1,g2⟩:=Cg w nd lt
  have e:us'=du "splits" us x:=iE g1 fun t ht=>by rw[g2];simp only[jL,n3,O0,if_true,if_false]
  have es:nP "splits" us x=(way us x).length - 1:=by simp only[nP,O0,if_false,dp]
  obtain⟨z8,el⟩:=uM (s2:=some (.val (.int x))) (s3:=some (.val (.lst (nums (way us x))))) (s4:=some (.val (.int (hd us x:Nat)))) (s5:=none) r 0 none 10000 f.fst.bnd hx (by omega)
  rw[Nat.zero_add,e,←es] at el
  have el:b5 aQ bp 10000 [some (.own (nums us)),some (.val (.str "splits")),some (.val (.int x)),some (.val (.lst (nums (way us x)))),some (.val (.int (hd us x:Nat))),none,some (.val (.int 0)),some (.val (.int x)),none]=_:=el
  simp only[cF,bK,EE,Nat.reduceAdd,Nat.reduceSub,Nat.reduceLeDiff,Nat.reduceLT,Nat.reduceEqDiff,Int.reduceLT,Int.reduceLE,Int.reduceAdd,Int.reduceSub,Int.reduceMul,Int.reduceMod,Int.reduceDiv,Int.reduceNeg,Int.reduceToNat,Int.reducePow,Int.reduceEq,ID,lw,eY,kb f hx,hd1,el]
 ·have e:us.set x (up us (up us x))=du "one" us x:=iE (List.length_set) fun t ht=>by
   rw[aJ hx]
   simp only[jL,n4,n5,n6,if_true,if_false]
   by_cases q:t=x
   ·rw[if_pos q,if_pos q,q]
   ·rw[if_neg q,if_neg q]
  have es:nP "one" us x=dp us x:=by simp only[nP,n6,if_false]
  simp only[cF,bK,EE,Nat.reduceAdd,Nat.reduceSub,Nat.reduceLeDiff,Nat.reduceLT,Nat.reduceEqDiff,Int.reduceLT,Int.reduceLE,Int.reduceAdd,Int.reduceSub,Int.reduceMul,Int.reduceMod,Int.reduceDiv,Int.reduceNeg,Int.reduceToNat,Int.reducePow,Int.reduceEq,ID,lw,eY,kb f hx,hd1,ag hx,ag h1,bf hx,bB,e,es]
theorem Fs {x:PV}{ps:List PV}:zW x (.ktu ps)=if au x&&ao ps&&decide (bw ps≤50) then some (.fz (.bl (pin x ps))) else none:=Eq.trans rfl rfl
theorem FD {lo j:Int}:lh [.rng lo j]=if lo=0/\0≤j/\j≤1000000 then some (.fz (.tup (np 0 j.toNat))) else none:=Eq.trans rfl rfl
noncomputable def Es (a b:Option RV)(i j:Nat)(ρ:ai):Out:=match a,b with
 |some (.nw ps),some (.nw qs)=>.nx ((ρ.set i (some (.own ps))).set j (some (.own qs)))
 |_,_=>.bad
theorem gw {i j:Nat}{f g:FE}{ρ:ai}:qO i j f g ρ=Es (f ρ) (g ρ) i j ρ:=Eq.trans rfl rfl
theorem dJ {i j:Nat}{ps qs:List PV}{ρ:ai}:Es (some (.nw ps)) (some (.nw qs)) i j ρ=.nx ((ρ.set i (some (.own ps))).set j (some (.own qs))):=Eq.trans rfl rfl
noncomputable def Iu:List Str:=["size","rank","told","names"]
theorem j4 {j:Str}(h:j∈Iu):j = "size"\/j = "rank"\/j = "told"\/j = "names":=by
 simpa [Iu] using h
noncomputable def jj (j y:Str)(us ms:List Nat):PV:=.tup [.str j,.str y,.tup (nums us),.tup (nums ms)]
noncomputable def Nv (j:Str):Nat:=if j = "size" then 1 else 0
theorem C9 {n:Nat}(h1:1≤n)(h2:n≤40):cA [.int n]=some (.v (.bl true)):=G6 (by omega) (by omega)
theorem nt (us:List Nat)(i v w:Nat):(nums us).set i (PV.int ((v:Int)+(w:Int)))=nums (us.set i (v+w)):=ka us i (v+w)
theorem uw (us:List Nat)(i v:Nat):(nums us).set i (PV.int ((v:Int)+1))=nums (us.set i (v+1)):=ka us i (v+1)
theorem JJ:decide (("size" : Str) = "rank")=false/\decide (("size" : Str) = "told")=false/\decide (("size" : Str) = "names")=false/\decide (("rank" : Str) = "size")=false/\decide (("rank" : Str) = "told")=false/\decide (("rank" : Str) = "names")=false ∧
  decide (("told" : Str) = "size")=false/\decide (("told" : Str) = "rank")=false/\decide (("told" : Str) = "names")=false/\decide (("names" : Str) = "size")=false/\decide (("names" : Str) = "rank")=false/\decide (("names" : Str) = "told")=false:=by decide
theorem xx {j:Str}(hj:j∈Iu):ay [.str j]=some (.v (.bl true)):=by
 have e:zW (.str j) (.ktu [.str "size",.str "rank",.str "told",.str "names"])=some (.fz (.bl true)):=by
  have h1:(Pu.au (.str j)&&ao [.str "size",.str "rank",.str "told",.str "names"]&&decide (bw [.str "size",.str "rank",.str "told",.str "names"]≤50))=true:=by simp[Pu.au,ao,bw,jb]
  have h2:pin (.str j) [.str "size",.str "rank",.str "told",.str "names"]=true:=by
   unfold pin
   simp only[List.any_cons,j2,List.any_nil]
   rcases j4 hj with rfl|rfl|rfl|rfl<;>decide
  rw[Fs,h1,h2];rfl
 simp only[gc,b9,EE,Nat.reduceAdd,Nat.reduceSub,Nat.reduceLeDiff,Nat.reduceLT,Nat.reduceEqDiff,Int.reduceLT,Int.reduceLE,Int.reduceAdd,Int.reduceSub,Int.reduceMul,Int.reduceMod,Int.reduceDiv,Int.reduceNeg,Int.reduceToNat,Int.reducePow,Int.reduceEq,e]
theorem LQ {a n:Nat}(h1:1≤n)(h2:n≤1000):di (.tup [.int a]) (.int n)=some (.fz (.tup (nums (List.replicate n a)))):=by
 have r:∀n:Nat,(List.replicate n [PV.int a]).flatten=nums (List.replicate n a):=fun n=>by
  induction n with
  |zero=>rfl
  |succ n ih=>rw[List.replicate_succ,List.flatten_cons,ih];rfl
 show (if ([PV.int a].isEmpty=false/\1≤(n:Int)/\(n:Int)≤1000/\[PV.int a].length≤1000) then some (RV.fz (.tup (List.replicate (n:Int).toNat [PV.int a]).flatten)) else none)=_
 rw[if_pos ⟨rfl,by omega,by omega,by simp⟩,Int.toNat_natCast,r]
theorem Ma {n:Nat}(h1:1≤n)(h2:n≤40){j y:Str}(hj:j∈Iu)(hy:y∈bg):bE [.int n,.str j,.str y]=some (.v (jj j y (List.range n) (List.replicate n (Nv j)))):=by
 have er:lh [.rng 0 n]=some (.fz (.tup (nums (List.range n)))):=by rw[FD,if_pos ⟨rfl,by omega,by omega⟩,Int.toNat_natCast,AQ]
 have ek:=(K1 (show n≤100000 by omega)).2.1
 have m0:=LQ (a:=0) h1 (show n≤1000 by omega)
 have m1:=LQ (a:=1) h1 (show n≤1000 by omega)
 have m0:di (.tup [.int 0]) (.int n)=_:=m0
 have m1:di (.tup [.int 1]) (.int n)=_:=m1
 unfold jj
 rcases j4 hj with rfl|rfl|rfl|rfl <;>
  simp only[mh,eM,kr,d9,kd,eA,EE,Nat.reduceAdd,Nat.reduceSub,Nat.reduceLeDiff,Nat.reduceLT,Nat.reduceEqDiff,Int.reduceLT,Int.reduceLE,Int.reduceAdd,Int.reduceSub,Int.reduceMul,Int.reduceMod,Int.reduceDiv,Int.reduceNeg,Int.reduceToNat,Int.reducePow,Int.reduceEq,C9 h1 h2,xx hj,zr hy,JJ,ek,er,m0,m1,Nv]<;>rfl
theorem rX {n:Nat}(h1:1≤n)(h2:n≤40):Frst (List.range n):=by
 have u:∀x,x<n->up (List.range n) x=x:=fun x hx=>by unfold up;rw[List.getD_eq_getElem?_getD,List.getElem?_range hx];rfl
 refine⟨by rw[List.length_range];exact h1,by rw[List.length_range];exact h2,⟨fun x hx=>?_,fun _=>0,fun x hx=>?_,fun x hx hn=>?_⟩⟩
 ·rw[List.length_range] at hx ⊢;rw[u x hx];exact hx
 ·show 0<_;omega
 ·rw[List.length_range] at hx;exact absurd (u x hx) hn
noncomputable def stay (j:Str)(ms:List Nat)(a b:Nat):Bool:=if j = "told" then true else if j = "names" then decide (a<b) else decide (up ms b≤up ms a)
noncomputable def Cl (j:Str)(p q:Nat):Nat:=if j = "size" then p+q else if j = "rank"/\p=q then p+1 else p
noncomputable def tp (j:Str)(ms:List Nat)(a b:Nat):Nat:=if stay j ms a b then a else b
noncomputable def un (j:Str)(ms:List Nat)(a b:Nat):Nat:=if stay j ms a b then b else a
noncomputable def lP (j:Str)(us ms:List Nat)(a b:Nat):List Nat:=us.set (un j ms a b) (tp j ms a b)
noncomputable def lM (j:Str)(ms:List Nat)(a b:Nat):List Nat:=ms.set (tp j ms a b) (Cl j (up ms (tp j ms a b)) (up ms (un j ms a b)))
theorem Ci {j:Str}{ms:List Nat}{a b:Nat}:(lM j ms a b).length=ms.length:=by unfold lM;rw[List.length_set]
theorem CG {j:Str}{us ms:List Nat}{a b:Nat}:(lP j us ms a b).length=us.length:=by unfold lP;rw[List.length_set]
theorem yL {us:List Nat}(f:Frst us){j:Str}{ms:List Nat}{a b:Nat}(ha:a<us.length)(hb:b<us.length)(ea:up us a=a)(eb:up us b=b)(ne:a≠b):Frst (lP j us ms a b):=by
 unfold lP tp un
 cases stay j ms a b with
 |true=>exact m6 f hb ha eb ea ne
 |false=>exact m6 f ha hb ea eb ne.symm
theorem gF {ms:List Nat}{t v:Nat}(h:v=up ms t):ms.set t v=ms:=by
 subst h
 by_cases ht:t<ms.length
 ·refine zB (List.length_set) fun z=>?_
  rw[aJ ht]
  split
  ·next e=>rw[e]
  ·rfl
 ·rw[List.set_eq_of_length_le (by omega)]
theorem wd {j:Str}(hj:j∈Iu){us ms:List Nat}{a b:Nat}(hl:ms.length=us.length)(ha:a<us.length)(hb:b<us.length)(ne:a≠b):bj [.str j,.tup (nums us),.tup (nums ms),.int a,.int b]=some (.v (.tup [.tup (nums (lP j us ms a b)),.tup (nums (lM j ms a b))])):=by
 have a':a<ms.length:=by omega
 have b':b<ms.length:=by omega
 have d1:decide ((b:Int)<(a:Int))=decide (b<a):=decide_eq_decide.mpr (by omega)
 have d2:decide ((up ms a:Int)<(up ms b:Int))=decide (up ms a<up ms b):=decide_eq_decide.mpr (by omega)
 have d3:decide ((up ms a:Int)=(up ms b:Int))=decide (up ms a=up ms b):=decide_eq_decide.mpr (by omega)
 have d4:decide ((up ms b:Int)=(up ms a:Int))=decide (up ms b=up ms a):=decide_eq_decide.mpr (by omega)
 have ps:ao [PV.str "size",.str "rank"]=true:=by simp[ao,Pu.au]
 have ds:decide (bw [PV.str "size",.str "rank"]≤50)=true:=by simp[bw,jb]
 have pi:∀k:Str,pin (.str k) [.str "size",.str "rank"]=(decide (("size" : Str)=k) || decide (("rank" : Str)=k)):=fun k=>by
  unfold pin;rw[List.any_cons,List.any_cons,List.any_nil,j2,j2,Bool.or_false]
 rcases j4 hj with rfl|rfl|rfl|rfl
 ·by_cases h:up ms a<up ms b
  ·have es:stay "size" ms a b=false:=decide_eq_false (by omega)
   have e1:lP "size" us ms a b=us.set a b:=by unfold lP tp un;rw[es];rfl
   have e2:lM "size" ms a b=ms.set b (up ms b+up ms a):=by unfold lM tp un;rw[es];rfl
   rw[e1,e2]
   simp only[aS,aB,EE,Nat.reduceAdd,Nat.reduceSub,Nat.reduceLeDiff,Nat.reduceLT,Nat.reduceEqDiff,Int.reduceLT,Int.reduceLE,Int.reduceAdd,Int.reduceSub,Int.reduceMul,Int.reduceMod,Int.reduceDiv,Int.reduceNeg,Int.reduceToNat,Int.reducePow,Int.reduceEq,gw,dJ,ps,ds,pi,JJ,ag a',ag b',d2,decide_eq_true h,bf ha,bf b',bB,nt]
  ·have es:stay "size" ms a b=true:=decide_eq_true (by omega)
   have e1:lP "size" us ms a b=us.set b a:=by unfold lP tp un;rw[es];rfl
   have e2:lM "size" ms a b=ms.set a (up ms a+up ms b):=by unfold lM tp un;rw[es];rfl
   rw[e1,e2]
   simp only[aS,aB,EE,Nat.reduceAdd,Nat.reduceSub,Nat.reduceLeDiff,Nat.reduceLT,Nat.reduceEqDiff,Int.reduceLT,Int.reduceLE,Int.reduceAdd,Int.reduceSub,Int.reduceMul,Int.reduceMod,Int.reduceDiv,Int.reduceNeg,Int.reduceToNat,Int.reducePow,Int.reduceEq,gw,dJ,ps,ds,pi,JJ,ag a',ag b',d2,decide_eq_false h,bf hb,bf a',bB,nt]
 ·by_cases h:up ms a<up ms b
  ·have es:stay "rank" ms a b=false:=decide_eq_false (by omega)
   have e1:lP "rank" us ms a b=us.set a b:=by unfold lP tp un;rw[es];rfl
   have h2:decide (up ms b=up ms a)=false:=decide_eq_false (by omega)
   have e2:lM "rank" ms a b=ms:=by
    unfold lM tp un;rw[es]
    refine gF ?_
    show Cl "rank" (up ms b) (up ms a)=up ms b
    unfold Cl
    rw[if_neg (by decide),if_neg fun z=>by have:=z.2;omega]
   rw[e1,e2]
   simp only[aS,aB,EE,Nat.reduceAdd,Nat.reduceSub,Nat.reduceLeDiff,Nat.reduceLT,Nat.reduceEqDiff,Int.reduceLT,Int.reduceLE,Int.reduceAdd,Int.reduceSub,Int.reduceMul,Int.reduceMod,Int.reduceDiv,Int.reduceNeg,Int.reduceToNat,Int.reducePow,Int.reduceEq,gw,dJ,ps,ds,pi,JJ,ag a',ag b',d2,d4,h2,decide_eq_true h,bf ha,bf b',bB]
  ·have es:stay "rank" ms a b=true:=decide_eq_true (by omega)
   have e1:lP "rank" us ms a b=us.set b a:=by unfold lP tp un;rw[es];rfl
   rw[e1]
   by_cases q:up ms a=up ms b
   ·have e2:lM "rank" ms a b=ms.set a (up ms a+1):=by
     unfold lM tp un;rw[es]
     show ms.set a (Cl "rank" (up ms a) (up ms b))=_
     unfold Cl
     rw[if_neg (by decide),if_pos ⟨rfl,q⟩]
    rw[e2]
    simp only[aS,aB,EE,Nat.reduceAdd,Nat.reduceSub,Nat.reduceLeDiff,Nat.reduceLT,Nat.reduceEqDiff,Int.reduceLT,Int.reduceLE,Int.reduceAdd,Int.reduceSub,Int.reduceMul,Int.reduceMod,Int.reduceDiv,Int.reduceNeg,Int.reduceToNat,Int.reducePow,Int.reduceEq,gw,dJ,ps,ds,pi,JJ,ag a',ag b',d2,d3,decide_eq_true q,decide_eq_false h,bf hb,bf a',bB,uw]
   ·have e2:lM "rank" ms a b=ms:=by
     unfold lM tp un;rw[es]
     refine gF ?_
     show Cl "rank" (up ms a) (up ms b)=_
     unfold Cl
     rw[if_neg (by decide),if_neg fun z=>q z.2]
     rfl
    rw[e2]
    simp only[aS,aB,EE,Nat.reduceAdd,Nat.reduceSub,Nat.reduceLeDiff,Nat.reduceLT,Nat.reduceEqDiff,Int.reduceLT,Int.reduceLE,Int.reduceAdd,Int.reduceSub,Int.reduceMul,Int.reduceMod,Int.reduceDiv,Int.reduceNeg,Int.reduceToNat,Int.reducePow,Int.reduceEq,gw,dJ,ps,ds,pi,JJ,ag a',ag b',d2,d3,decide_eq_false q,decide_eq_false h,bf hb,bf a',bB]
 ·have e1:lP "told" us ms a b=us.set b a:=rfl
  have e2:lM "told" ms a b=ms:=gF rfl
  rw[e1,e2]
  simp only[aS,aB,EE,Nat.reduceAdd,Nat.reduceSub,Nat.reduceLeDiff,Nat.reduceLT,Nat.reduceEqDiff,Int.reduceLT,Int.reduceLE,Int.reduceAdd,Int.reduceSub,Int.reduceMul,Int.reduceMod,Int.reduceDiv,Int.reduceNeg,Int.reduceToNat,Int.reducePow,Int.reduceEq,gw,dJ,ps,ds,pi,JJ,bf hb,bB]
 ·by_cases h:b<a
  ·have es:stay "names" ms a b=false:=decide_eq_false (by omega)
   have e1:lP "names" us ms a b=us.set a b:=by unfold lP tp un;rw[es];rfl
   have e2:lM "names" ms a b=ms:=by unfold lM tp un;rw[es];exact gF rfl
   rw[e1,e2]
   simp only[aS,aB,EE,Nat.reduceAdd,Nat.reduceSub,Nat.reduceLeDiff,Nat.reduceLT,Nat.reduceEqDiff,Int.reduceLT,Int.reduceLE,Int.reduceAdd,Int.reduceSub,Int.reduceMul,Int.reduceMod,Int.reduceDiv,Int.reduceNeg,Int.reduceToNat,Int.reducePow,Int.reduceEq,gw,dJ,ps,ds,pi,JJ,d1,decide_eq_true h,bf ha,bB]
  ·have es:stay "names" ms a b=true:=decide_eq_true (by omega)
   have e1:lP "names" us ms a b=us.set b a:=by unfold lP tp un;rw[es];rfl
   have e2:lM "names" ms a b=ms:=by unfold lM tp un;rw[es];exact gF rfl
   rw[e1,e2]
   simp only[aS,aB,EE,Nat.reduceAdd,Nat.reduceSub,Nat.reduceLeDiff,Nat.reduceLT,Nat.reduceEqDiff,Int.reduceLT,Int.reduceLE,Int.reduceAdd,Int.reduceSub,Int.reduceMul,Int.reduceMod,Int.reduceDiv,Int.reduceNeg,Int.reduceToNat,Int.reducePow,Int.reduceEq,gw,dJ,ps,ds,pi,JJ,d1,decide_eq_false h,bf hb,bB]
inductive Deed where
 |find (x:Nat)|join (x y:Nat)
noncomputable def Deed.pv:Deed->PV
 |.find x=>.tup [.str "find",.int x]
 |.join x y=>.tup [.str "join",.int x,.int y]
noncomputable def Deed.ok (n:Nat):Deed->Prop
 |.find x=>x<n
 |.join x y=>x<n/\y<n
structure Sto (n:Nat)(us ms:List Nat):Prop where
 f:Frst us
 lu:us.length=n
 lm:ms.length=n
noncomputable def dU (j y:Str)(us ms:List Nat):Deed->List Nat
 |.find x=>du y us x
 |.join x z=>if hd us x=hd us z then du y (du y us x) z else lP j (du y (du y us x) z) ms (hd us x) (hd us z)
noncomputable def dM (j:Str)(us ms:List Nat):Deed->List Nat
 |.find _=>ms
 |.join x z=>if hd us x=hd us z then ms else lM j ms (hd us x) (hd us z)
noncomputable def dA (us:List Nat):Deed->PV
 |.find x=>.int (hd us x:Nat)
 |.join x z=>.bl (!decide (hd us x=hd us z))
noncomputable def dS (y:Str)(us:List Nat):Deed->Nat
 |.find x=>nP y us x
 |.join x z=>nP y us x+nP y (du y us x) z
noncomputable def ke (j y:Str)(us ms:List Nat)(d:Deed):PV:=.tup [jj j y (dU j y us ms d) (dM j us ms d),dA us d,.int (dS y us d:Nat)]
theorem jD {us:List Nat}(f:Frst us){x:Nat}(hx:x<us.length){y:Str}(hy:y∈bg){t:Nat}(ht:t<us.length):hd (du y us x) t=hd us t:=(x8 f.fst hx hy ht).1
theorem yk {n:Nat}{us ms:List Nat}(S:Sto n us ms){j y:Str}(hy:y∈bg){d:Deed}(hd':d.ok n):Sto n (dU j y us ms d) (dM j us ms d):=by
 obtain⟨f,lu,lm⟩:=S
 cases d with
 |find x=>
  have hx:x<us.length:=by rw[lu];exact hd'
  exact⟨i8 f hx hy,by show (du y us x).length=n;rw[cB,lu],lm⟩
 |join x z=>
  have hx:x<us.length:=by rw[lu];exact hd'.1
  have hz:z<us.length:=by rw[lu];exact hd'.2
  have f1:=i8 f hx hy
  have l1:=cB y us x
  have hz1:z<(du y us x).length:=by omega
  have f2:=i8 f1 hz1 hy
  have l2:=cB y (du y us x) z
  show Sto n (if hd us x=hd us z then _ else _) (if hd us x=hd us z then _ else _)
  by_cases e:hd us x=hd us z
  ·rw[if_pos e,if_pos e];exact⟨f2,by omega,lm⟩
  ·rw[if_neg e,if_neg e]
   have hd2:∀t,t<us.length->hd (du y (du y us x) z) t=hd us t:=fun t ht=>by rw[jD f1 hz1 hy (by omega),jD f hx hy ht]
   have top:∀t,t<us.length->up (du y (du y us x) z) (hd us t)=hd us t:=fun t ht=>by
    have:=tJ f2.fst (show t<(du y (du y us x) z).length by omega)
    rwa [hd2 t ht] at this
   have a1:=kN f.fst hx
   have a2:=kN f.fst hz
   exact⟨yL f2 (by omega) (by omega) (top x hx) (top z hz) e,by rw[CG];omega,by rw[Ci];exact lm⟩
theorem DD:decide (("find" : Str) = "join")=false/\decide (("join" : Str) = "find")=false:=by decide
theorem An {n:Nat}{us ms:List Nat}(S:Sto n us ms){j y:Str}(hj:j∈Iu)(hy:y∈bg){d:Deed}(h:d.ok n):bS [jj j y us ms,d.pv]=some (.v (ke j y us ms d)):=by
 obtain⟨f,lu,lm⟩:=S
 cases d with
 |find x=>
  have hx:x<us.length:=by rw[lu];exact h
  have a0:L2.atI [PV.str "find",.int (x:Int)] 0=some (.str "find"):=rfl
  have a1:L2.atI [PV.str "find",.int (x:Int)] 1=some (.int x):=rfl
  simp only[Deed.pv,ke,dU,dM,dA,dS,jj]
  simp only[eP,cM,EE,Nat.reduceAdd,Nat.reduceSub,Nat.reduceLeDiff,Nat.reduceLT,Nat.reduceEqDiff,Int.reduceLT,Int.reduceLE,Int.reduceAdd,Int.reduceSub,Int.reduceMul,Int.reduceMod,Int.reduceDiv,Int.reduceNeg,Int.reduceToNat,Int.reducePow,Int.reduceEq,DD,a0,a1,oZ f hy hx]
 |join x z=>
  have hx:x<us.length:=by rw[lu];exact h.1
  have hz:z<us.length:=by rw[lu];exact h.2
  have f1:=i8 f hx hy
  have l1:=cB y us x
  have hz1:z<(du y us x).length:=by omega
  have l2:=cB y (du y us x) z
  have e1:=oZ f hy hx
  have e2:=oZ f1 hy hz1
  rw[jD f hx hy hz] at e2
  have a1':=kN f.fst hx
  have a2':=kN f.fst hz
  have d:decide ((hd us x:Int)=(hd us z:Int))=decide (hd us x=hd us z):=decide_eq_decide.mpr (by omega)
  have a0:L2.atI [PV.str "join",.int (x:Int),.int (z:Int)] 0=some (.str "join"):=rfl
  have a1:L2.atI [PV.str "join",.int (x:Int),.int (z:Int)] 1=some (.int x):=rfl
  have a2:L2.atI [PV.str "join",.int (x:Int),.int (z:Int)] 2=some (.int z):=rfl
  by_cases e:hd us x=hd us z
  ·have r:ke j y us ms (.join x z)=.tup [jj j y (du y (du y us x) z) ms,.bl false,.int (nP y us x+nP y (du y us x) z:Nat)]:=by
    unfold ke
    show PV.tup [jj j y (if hd us x=hd us z then _ else _) (if hd us x=hd us z then _ else _),.bl (!decide (hd us x=hd us z)),_]=_
    rw[if_pos e,if_pos e,decide_eq_true e];rfl
   rw[r]
   simp only[Deed.pv,jj]
   simp only[eP,cM,EE,Nat.reduceAdd,Nat.reduceSub,Nat.reduceLeDiff,Nat.reduceLT,Nat.reduceEqDiff,Int.reduceLT,Int.reduceLE,Int.reduceAdd,Int.reduceSub,Int.reduceMul,Int.reduceMod,Int.reduceDiv,Int.reduceNeg,Int.reduceToNat,Int.reducePow,Int.reduceEq,DD,a0,a1,a2,e1,e2,d,decide_eq_true e]
   rfl
  ·have e3:=wd hj (us:=du y (du y us x) z) (ms:=ms) (a:=hd us x) (b:=hd us z) (by omega) (by omega) (by omega) e
   have r:ke j y us ms (.join x z)=.tup [jj j y (lP j (du y (du y us x) z) ms (hd us x) (hd us z)) (lM j ms (hd us x) (hd us z)),.bl true,.int (nP y us x+nP y (du y us x) z:Nat)]:=by
    unfold ke
    show PV.tup [jj j y (if hd us x=hd us z then _ else _) (if hd us x=hd us z then _ else _),.bl (!decide (hd us x=hd us z)),_]=_
    rw[if_neg e,if_neg e,decide_eq_false e];rfl
   rw[r]
   simp only[Deed.pv,jj]
   simp only[eP,cM,EE,Nat.reduceAdd,Nat.reduceSub,Nat.reduceLeDiff,Nat.reduceLT,Nat.reduceEqDiff,Int.reduceLT,Int.reduceLE,Int.reduceAdd,Int.reduceSub,Int.reduceMul,Int.reduceMod,Int.reduceDiv,Int.reduceNeg,Int.reduceToNat,Int.reducePow,Int.reduceEq,DD,a0,a1,a2,e1,e2,e3,d,decide_eq_false e]
   rfl
end Dp
end
section
namespace Dp
open PySem L2 Fo Pu
noncomputable def JA:FS:=(aT 7 (D8 (aw aj (aa (aw ax (aa (fV 0) (aa (af be (af be (fV 1) (fC (.int 1))) (af gh (fV 6) (fC (.int 5)))) ae))) (aa (fC (.int 20)) ae))) (DC (af di (fC (.int 4)) (af aL (fV 6) (fC (.int 5))))) Eb))
theorem OQ {ρ:ai}:JA ρ=(aT 7 (D8 (aw aj (aa (aw ax (aa (fV 0) (aa (af be (af be (fV 1) (fC (.int 1))) (af gh (fV 6) (fC (.int 5)))) ae))) (aa (fC (.int 20)) ae))) (DC (af di (fC (.int 4)) (af aL (fV 6) (fC (.int 5))))) Eb)) ρ:=Eq.trans rfl rfl
noncomputable def JB:FS:=(iF 8 9 (aa (af aL (af bx (fV 7) (fC (.int 0))) (fV 2)) (aa (af aL (af bx (fV 7) (fC (.int 1))) (fV 2)) ae)))
theorem NT {ρ:ai}:JB ρ=(iF 8 9 (aa (af aL (af bx (fV 7) (fC (.int 0))) (fV 2)) (aa (af aL (af bx (fV 7) (fC (.int 1))) (fV 2)) ae))) ρ:=Eq.trans rfl rfl
noncomputable def NW:FS:=(fF (fT (af ge (af aL (af bx (fV 4) (fC (.int 1))) (fC (.int 4))) (fC (.int 1)))) (iF 8 9 (aa (af aL (fV 6) (fV 2)) (aa (af aL (af be (fV 6) (fC (.int 1))) (fV 2)) ae))) aH)
theorem DR {ρ:ai}:NW ρ=(fF (fT (af ge (af aL (af bx (fV 4) (fC (.int 1))) (fC (.int 4))) (fC (.int 1)))) (iF 8 9 (aa (af aL (fV 6) (fV 2)) (aa (af aL (af be (fV 6) (fC (.int 1))) (fV 2)) ae))) aH) ρ:=Eq.trans rfl rfl
noncomputable def N8:FS:=(fF (fu (fT (af ge (af aL (af bx (fV 4) (fC (.int 1))) (fC (.int 4))) (fC (.int 2)))) (fT (af zC (af aL (af bx (fV 7) (fC (.int 2))) (fC (.int 3))) (fC (.int 0))))) (al (aT 8 (af aL (af di (af gh (fV 8) (fC (.int 2))) (fC (.int 2))) (fV 2))) (aT 9 (fB ky (aa (af iB (fV 2) (fC (.int 1))) (aa (af be (fV 8) (fC (.int 1))) ae))))) aH)
theorem yc {ρ:ai}:N8 ρ=(fF (fu (fT (af ge (af aL (af bx (fV 4) (fC (.int 1))) (fC (.int 4))) (fC (.int 2)))) (fT (af zC (af aL (af bx (fV 7) (fC (.int 2))) (fC (.int 3))) (fC (.int 0))))) (al (aT 8 (af aL (af di (af gh (fV 8) (fC (.int 2))) (fC (.int 2))) (fV 2))) (aT 9 (fB ky (aa (af iB (fV 2) (fC (.int 1))) (aa (af be (fV 8) (fC (.int 1))) ae))))) aH) ρ:=Eq.trans rfl rfl
noncomputable def Oi:FS:=(fF (fu (fT (af na (fV 5) (eT ae))) (fT (af ge (af aL (af bx (fV 7) (fC (.int 2))) (fC (.int 7))) (fC (.int 1))))) (hZ (af bx (fV 5) (af aL (af bx (fV 7) (fC (.int 3))) (fB fW (aa (fV 5) ae)))) (m9 2 (gC (gN 8) (gC (gN 9) g0)))) aH)
theorem xv {ρ:ai}:Oi ρ=(fF (fu (fT (af na (fV 5) (eT ae))) (fT (af ge (af aL (af bx (fV 7) (fC (.int 2))) (fC (.int 7))) (fC (.int 1))))) (hZ (af bx (fV 5) (af aL (af bx (fV 7) (fC (.int 3))) (fB fW (aa (fV 5) ae)))) (m9 2 (gC (gN 8) (gC (gN 9) g0)))) aH) ρ:=Eq.trans rfl rfl
noncomputable def JD:FS:=(kK 5 (aa (af bx (eT (aa (cI (aa (fV 8) (aa (fV 9) ae))) (aa (cI (aa (fV 9) (aa (fV 8) ae))) ae))) (af aL (af gh (af bx (fV 7) (fC (.int 2))) (fC (.int 7))) (fC (.int 2)))) ae))
theorem Mz {ρ:ai}:JD ρ=(kK 5 (aa (af bx (eT (aa (cI (aa (fV 8) (aa (fV 9) ae))) (aa (cI (aa (fV 9) (aa (fV 8) ae))) ae))) (af aL (af gh (af bx (fV 7) (fC (.int 2))) (fC (.int 7))) (fC (.int 2)))) ae)) ρ:=Eq.trans rfl rfl
theorem M5 {ρ:ai}:b8 ρ=(al JA (al JB (al NW (al N8 (al Oi JD))))) ρ:=Eq.trans rfl rfl
noncomputable def jZ (ps:List (Nat×Nat)):List PV:=ps.map fun p=>.tup [.int p.1,.int p.2]
theorem tw (ps:List (Nat×Nat)):(jZ ps).length=ps.length:=List.length_map ..
theorem fI:∀ps:List (Nat×Nat),ao (jZ ps)=true
 |[]=>by show ao []=true;rw[ao]
 |p::ps=>by
  show ao (.tup [.int p.1,.int p.2]::jZ ps)=true
  rw[ao,fI ps];simp[Pu.au,ao]
theorem q8:∀ps:List (Nat×Nat),bw (jZ ps)≤1
 |[]=>by show bw []≤1;rw[bw];omega
 |p::ps=>by
  show bw (.tup [.int p.1,.int p.2]::jZ ps)≤1
  have:=q8 ps
  rw[bw];simp[jb,bw];omega
theorem jk (ps:List (Nat×Nat)):eO (jZ ps) []=ps.isEmpty:=by
 cases ps with
 |nil=>exact qD
 |cons p ps=>exact kz (by show (jZ ps).length+1≠0;omega)
theorem xp {α:Type}(l:List α)(k:Nat):cut l (some (k:Int)) none=l.drop k:=by
 unfold cut
 rw[HT.sIx_nat,HT.sIx_none]
 by_cases h:k≤l.length
 ·rw[Nat.min_eq_left h,List.take_of_length_le (by rw[List.length_drop];omega)]
 ·rw[Nat.min_eq_right (by omega),List.drop_eq_nil_of_le (Nat.le_refl _),List.drop_eq_nil_of_le (by omega),List.take_nil]
section
variable {ns:List Int}{n:Nat}{hs ys:List Nat}{row:List (Nat×Nat)}{s3:Option Sl}{at' k:Nat}
noncomputable def JR (ns:List Int)(at' n:Nat)(s3:Option Sl)(hs:List Nat)(row:List (Nat×Nat))(k:Nat)(ys:List Nat)(x z:Nat):ai:=[some (.val (.src (iL ns))),some (.val (.int at')),some (.val (.int n)),s3,some (.val (.lst (nums hs))),some (.own (jZ row)),some (.val (.int k)),some (.val (.lst (nums ys))),some (.val (.int x)),some (.val (.int z))]
theorem Nc (hn:1≤n)(hh:hs.length=4){x z:Nat}(hx:x<n)(hz:z<n):∃x' z',x'<n/\z'<n/\NW (JR ns at' n s3 hs row k ys x z)=.nx (JR ns at' n s3 hs row k ys x' z'):=by
 have i1:L2.atI (nums hs) 1=some (.int (up hs 1:Nat)):=ag (x:=1) (by omega)
 have pn:(0:Int)<(n:Int):=by omega
 unfold JR
 by_cases q:(up hs 1:Int) % 4=1
 ·refine⟨k % n,(k+1) % n,Nat.mod_lt _ (by omega),Nat.mod_lt _ (by omega),?_⟩
  simp only[DR,EE,Nat.reduceAdd,Nat.reduceSub,Nat.reduceLeDiff,Nat.reduceLT,Nat.reduceEqDiff,Int.reduceLT,Int.reduceLE,Int.reduceAdd,Int.reduceSub,Int.reduceMul,Int.reduceMod,Int.reduceDiv,Int.reduceNeg,Int.reduceToNat,Int.reducePow,Int.reduceEq,i1,decide_eq_true q,pn]
  rfl
 ·exact⟨x,z,hx,hz,by simp only[DR,EE,Nat.reduceAdd,Nat.reduceSub,Nat.reduceLeDiff,Nat.reduceLT,Nat.reduceEqDiff,Int.reduceLT,Int.reduceLE,Int.reduceAdd,Int.reduceSub,Int.reduceMul,Int.reduceMod,Int.reduceDiv,Int.reduceNeg,Int.reduceToNat,Int.reducePow,Int.reduceEq,i1,decide_eq_false q]⟩
theorem NX (hn:1≤n)(hn2:n≤40)(hh:hs.length=4)(hy:4≤ys.length){x z:Nat}(hx:x<n)(hz:z<n):∃x' z',x'<n/\z'<n/\N8 (JR ns at' n s3 hs row k ys x z)=.nx (JR ns at' n s3 hs row k ys x' z'):=by
 have i1:L2.atI (nums hs) 1=some (.int (up hs 1:Nat)):=ag (x:=1) (by omega)
 have i2:L2.atI (nums ys) 2=some (.int (up ys 2:Nat)):=ag (x:=2) (by omega)
 have pn:(0:Int)<(n:Int):=by omega
 unfold JR
 by_cases q:(up hs 1:Int) % 4=2
 ·by_cases q2:(0:Int)<(up ys 2:Int) % 3
  ·have e1:(x:Int) / 2 * 2 % (n:Int)=((x / 2 * 2 % n:Nat):Int):=by push_cast;rfl
   have em:(if ((x / 2 * 2 % n:Nat):Int)+1<(n:Int) - 1 then ((x / 2 * 2 % n:Nat):Int)+1 else (n:Int) - 1)=((min (n - 1) (x / 2 * 2 % n+1):Nat):Int):=by split<;>omega
   refine⟨x / 2 * 2 % n,min (n - 1) (x / 2 * 2 % n+1),Nat.mod_lt _ (by omega),by omega,?_⟩
   have ml:(((x:Int) / 2).natAbs<2 ^ 64\/(2:Int).natAbs<2 ^ 64):=.inr (by decide)
   simp only[yc,EE,Nat.reduceAdd,Nat.reduceSub,Nat.reduceLeDiff,Nat.reduceLT,Nat.reduceEqDiff,Int.reduceLT,Int.reduceLE,Int.reduceAdd,Int.reduceSub,Int.reduceMul,Int.reduceMod,Int.reduceDiv,Int.reduceNeg,Int.reduceToNat,Int.reducePow,Int.reduceEq,i1,i2,decide_eq_true q,decide_eq_true q2,pn,ml,e1,em]
  ·exact⟨x,z,hx,hz,by simp only[yc,EE,Nat.reduceAdd,Nat.reduceSub,Nat.reduceLeDiff,Nat.reduceLT,Nat.reduceEqDiff,Int.reduceLT,Int.reduceLE,Int.reduceAdd,Int.reduceSub,Int.reduceMul,Int.reduceMod,Int.reduceDiv,Int.reduceNeg,Int.reduceToNat,Int.reducePow,Int.reduceEq,i1,i2,decide_eq_true q,decide_eq_false q2]⟩
 ·exact⟨x,z,hx,hz,by simp only[yc,EE,Nat.reduceAdd,Nat.reduceSub,Nat.reduceLeDiff,Nat.reduceLT,Nat.reduceEqDiff,Int.reduceLT,Int.reduceLE,Int.reduceAdd,Int.reduceSub,Int.reduceMul,Int.reduceMod,Int.reduceDiv,Int.reduceNeg,Int.reduceToNat,Int.reducePow,Int.reduceEq,i1,decide_eq_false q]⟩
theorem Nr (hy:4≤ys.length)(hr:∀p∈row,p.1<n/\p.2<n){x z:Nat}(hx:x<n)(hz:z<n):∃x' z',x'<n/\z'<n/\Oi (JR ns at' n s3 hs row k ys x z)=.nx (JR ns at' n s3 hs row k ys x' z'):=by
 have i2:L2.atI (nums ys) 2=some (.int (up ys 2:Nat)):=ag (x:=2) (by omega)
 have i3:L2.atI (nums ys) 3=some (.int (up ys 3:Nat)):=ag (x:=3) (by omega)
 have dd:decide (bw (jZ row)≤49)=true:=decide_eq_true (by have:=q8 row;omega)
 have p0:ao []=true:=by rw[ao]
 unfold JR
 by_cases h0:row=[]
 ·subst h0;exact⟨x,z,hx,hz,by simp only[xv,EE,Nat.reduceAdd,Nat.reduceSub,Nat.reduceLeDiff,Nat.reduceLT,Nat.reduceEqDiff,Int.reduceLT,Int.reduceLE,Int.reduceAdd,Int.reduceSub,Int.reduceMul,Int.reduceMod,Int.reduceDiv,Int.reduceNeg,Int.reduceToNat,Int.reducePow,Int.reduceEq,fI,p0,dd,jk,List.isEmpty_nil]⟩
 ·have ie:row.isEmpty=false:=by cases row with
   |nil=>exact absurd rfl h0
   |cons=>rfl
  have pos:0<row.length:=List.length_pos_iff.mpr h0
  by_cases q:(up ys 2:Int) % 7=1
  ·have hl:up ys 3 % row.length<row.length:=Nat.mod_lt _ pos
   have pl:(0:Int)<(row.length:Int):=by omega
   have ea:L2.atI (jZ row) ((up ys 3:Int) % (row.length:Int))=some (.tup [.int (row[up ys 3 % row.length]).1,.int (row[up ys 3 % row.length]).2]):=by
    rw[show (up ys 3:Int) % (row.length:Int)=((up ys 3 % row.length:Nat):Int) from rfl]
    refine L2.eG ?_
    unfold jZ
    rw[List.getElem?_map,List.getElem?_eq_getElem hl];rfl
   have hm:=hr _ (List.getElem_mem hl)
   refine⟨_,_,hm.1,hm.2,?_⟩
   simp only[xv,EE,Nat.reduceAdd,Nat.reduceSub,Nat.reduceLeDiff,Nat.reduceLT,Nat.reduceEqDiff,Int.reduceLT,Int.reduceLE,Int.reduceAdd,Int.reduceSub,Int.reduceMul,Int.reduceMod,Int.reduceDiv,Int.reduceNeg,Int.reduceToNat,Int.reducePow,Int.reduceEq,fI,p0,dd,jk,ie,i2,i3,decide_eq_true q,tw,pl,ea]
  ·exact⟨x,z,hx,hz,by simp only[xv,EE,Nat.reduceAdd,Nat.reduceSub,Nat.reduceLeDiff,Nat.reduceLT,Nat.reduceEqDiff,Int.reduceLT,Int.reduceLE,Int.reduceAdd,Int.reduceSub,Int.reduceMul,Int.reduceMod,Int.reduceDiv,Int.reduceNeg,Int.reduceToNat,Int.reducePow,Int.reduceEq,fI,p0,dd,jk,ie,i2,decide_eq_false q]⟩
theorem PM (hy:4≤ys.length)(hl:row.length≤1000){x z:Nat}:∃p,(p=(x,z)\/p=(z,x))/\JD (JR ns at' n s3 hs row k ys x z)=.nx (JR ns at' n s3 hs (row++[p]) k ys x z):=by
 have i2:L2.atI (nums ys) 2=some (.int (up ys 2:Nat)):=ag (x:=2) (by omega)
 have l1:(jZ row).length≤100000:=by rw[tw];omega
 have ea:∀p:Nat×Nat,jZ row++[.tup [.int p.1,.int p.2]]=jZ (row++[p]):=fun p=>by unfold jZ;rw[List.map_append];rfl
 unfold JR
 by_cases q:(up ys 2:Int) / 7 % 2=0
 ·refine⟨(x,z),.inl rfl,?_⟩
  have e0:∀a b:PV,L2.atI [a,b] 0=some a:=fun a b=>rfl
  rw[←ea]
  simp only[Mz,EE,Nat.reduceAdd,Nat.reduceSub,Nat.reduceLeDiff,Nat.reduceLT,Nat.reduceEqDiff,Int.reduceLT,Int.reduceLE,Int.reduceAdd,Int.reduceSub,Int.reduceMul,Int.reduceMod,Int.reduceDiv,Int.reduceNeg,Int.reduceToNat,Int.reducePow,Int.reduceEq,i2,q,e0,l1]
 ·have q:(up ys 2:Int) / 7 % 2=1:=by omega
  refine⟨(z,x),.inr rfl,?_⟩
  have e0:∀a b:PV,L2.atI [a,b] 1=some b:=fun a b=>rfl
  rw[←ea]
  simp only[Mz,EE,Nat.reduceAdd,Nat.reduceSub,Nat.reduceLeDiff,Nat.reduceLT,Nat.reduceEqDiff,Int.reduceLT,Int.reduceLE,Int.reduceAdd,Int.reduceSub,Int.reduceMul,Int.reduceMod,Int.reduceDiv,Int.reduceNeg,Int.reduceToNat,Int.reducePow,Int.reduceEq,i2,q,e0,l1]
theorem IZ (hn:1≤n)(hn2:n≤40)(hh:hs.length=4)(hat:at'≤500)(hk:k≤500)(hl:row.length≤1000)(hr:∀p∈row,p.1<n/\p.2<n){z7 z8 z9:Option Sl}:∃p w7 w8 w9,(p.1<n/\p.2<n) ∧
  b8 [some (.val (.src (iL ns))),some (.val (.int at')),some (.val (.int n)),s3,some (.val (.lst (nums hs))),some (.own (jZ row)),some (.val (.int k)),z7,z8,z9] =
   .nx [some (.val (.src (iL ns))),some (.val (.int at')),some (.val (.int n)),s3,some (.val (.lst (nums hs))),some (.own (jZ (row++[p]))),some (.val (.int k)),w7,w8,w9]:=by
 obtain⟨c,ec⟩:=ox ns ((at':Int)+1+(k:Int) / 5) (by omega) (by omega)
 obtain⟨xs,hx,ex⟩:=gS c 20 (by decide) (by decide)
 have hx:xs.length=20:=hx
 have e4:(4:Int) * ((k:Int) % 5)=((4 * (k % 5):Nat):Int):=by omega
 have ec':cut (nums xs) (some ((4 * (k % 5):Nat):Int)) none=nums (xs.drop (4 * (k % 5))):=by rw[zy,xp]
 generalize hys:xs.drop (4 * (k % 5))=ys at ec'
 have hy:4≤ys.length:=by rw[←hys,List.length_drop];omega
 have ml:((4:Int).natAbs<2 ^ 64\/((k:Int) % 5).natAbs<2 ^ 64):=.inl (by decide)
 have pn:(0:Int)<(n:Int):=by omega
 have i0:L2.atI (nums ys) 0=some (.int (up ys 0:Nat)):=ag (x:=0) (by omega)
 have i1:L2.atI (nums ys) 1=some (.int (up ys 1:Nat)):=ag (x:=1) (by omega)
 have m0:(up ys 0:Int) % (n:Int)=((up ys 0 % n:Nat):Int):=rfl
 have m1:(up ys 1:Int) % (n:Int)=((up ys 1 % n:Nat):Int):=rfl
 obtain⟨x1,z1,a1,b1,e1⟩:=Nc (ns:=ns) (at':=at') (s3:=s3) (row:=row) (k:=k) (ys:=ys) hn hh (Nat.mod_lt (up ys 0) (by omega)) (Nat.mod_lt (up ys 1) (by omega))
 obtain⟨x2,z2,a2,b2,e2⟩:=NX (ns:=ns) (at':=at') (s3:=s3) (row:=row) (k:=k) (ys:=ys) hn hn2 hh hy a1 b1
 obtain⟨x3,z3,a3,b3,e3⟩:=Nr (ns:=ns) (at':=at') (s3:=s3) (hs:=hs) (k:=k) (ys:=ys) hy hr a2 b2
 obtain⟨p,hp,e5⟩:=PM (ns:=ns) (n:=n) (at':=at') (s3:=s3) (hs:=hs) (row:=row) (k:=k) (ys:=ys) (x:=x3) (z:=z3) hy hl
 refine⟨p,some (.val (.lst (nums ys))),some (.val (.int x3)),some (.val (.int z3)),by rcases hp with rfl|rfl<;>exact⟨by assumption,by assumption⟩,?_⟩
 unfold JR at e1 e2 e3 e5
 simp only[M5,OQ,NT,EE,Nat.reduceAdd,Nat.reduceSub,Nat.reduceLeDiff,Nat.reduceLT,Nat.reduceEqDiff,Int.reduceLT,Int.reduceLE,Int.reduceAdd,Int.reduceSub,Int.reduceMul,Int.reduceMod,Int.reduceDiv,Int.reduceNeg,Int.reduceToNat,Int.reducePow,Int.reduceEq,ec,ex,ml,e4,ec',i0,i1,pn,m0,m1,e1,e2,e3,e5]
theorem yT (hn:1≤n)(hn2:n≤40)(hh:hs.length=4)(hat:at'≤500):∀(ks:List Nat) (row:List (Nat×Nat)) (z6 z7 z8 z9:Option Sl),(∀k∈ks,k≤500)->row.length+ks.length≤1000->(∀p∈row,p.1<n/\p.2<n) →
  ∃row' w6 w7 w8 w9,(∀p∈row',p.1<n/\p.2<n)/\row'.length=row.length+ks.length/\bF (gN 6) b8 (nums ks) [some (.val (.src (iL ns))),some (.val (.int at')),some (.val (.int n)),s3,some (.val (.lst (nums hs))),some (.own (jZ row)),z6,z7,z8,z9] =
   .nx [some (.val (.src (iL ns))),some (.val (.int at')),some (.val (.int n)),s3,some (.val (.lst (nums hs))),some (.own (jZ row')),w6,w7,w8,w9]
 |[],row,z6,z7,z8,z9,_,_,hr=>⟨row,z6,z7,z8,z9,hr,rfl,rfl⟩
 |k::ks,row,z6,z7,z8,z9,hk,hl,hr=>by
  rw[List.length_cons] at hl
  obtain⟨p,w7,w8,w9,hp,e⟩:=IZ (ns:=ns) (s3:=s3) hn hn2 hh hat (hk k List.mem_cons_self) (by omega) hr (z7:=z7) (z8:=z8) (z9:=z9)
  obtain⟨row',v6,v7,v8,v9,h1,h2,e'⟩:=yT hn hn2 hh hat ks (row++[p]) (some (.val (.int k))) w7 w8 w9 (fun q hq=>hk q (List.mem_cons_of_mem _ hq)) (by rw[List.length_append,List.length_singleton];omega) (fun q hq=>by
   rcases List.mem_append.mp hq with hq|hq
   ·exact hr q hq
   ·rw[List.mem_singleton.mp hq];exact hp)
  refine⟨row',v6,v7,v8,v9,h1,by rw[h2,List.length_append,List.length_singleton,List.length_cons];omega,?_⟩
  rw[←e',cW,cE]
  simp only[EE,Nat.reduceAdd,Nat.reduceSub,Nat.reduceLeDiff,Nat.reduceLT,Nat.reduceEqDiff,Int.reduceLT,Int.reduceLE,Int.reduceAdd,Int.reduceSub,Int.reduceMul,Int.reduceMod,Int.reduceDiv,Int.reduceNeg,Int.reduceToNat,Int.reducePow,Int.reduceEq,e]
theorem xc (ns:List Int){at' n m:Nat}(hn:1≤n)(hn2:n≤40)(hat:at'≤500)(hm:m≤60):∃row:List (Nat×Nat),(∀p∈row,p.1<n/\p.2<n)/\row.length≤m/\bC [.src (iL ns),.int at',.int n,.int m]=some (.v (.tup (jZ row))):=by
 obtain⟨c,ec⟩:=ox ns (at':Int) (by omega) (by omega)
 obtain⟨hs,hh,eh⟩:=gS c 4 (by decide) (by decide)
 have hh:hs.length=4:=hh
 have i0:L2.atI (nums hs) 0=some (.int (up hs 0:Nat)):=ag (x:=0) (by omega)
 have pm:(0:Int)<(m:Int)+1:=by omega
 have em:(up hs 0:Int) % ((m:Int)+1)=((up hs 0 % (m+1):Nat):Int):=rfl
 have lt:up hs 0 % (m+1)<m+1:=Nat.mod_lt _ (by omega)
 generalize up hs 0 % (m+1)=q at *
 obtain⟨row,w6,w7,w8,w9,h1,h2,e⟩:=yT (ns:=ns) (s3:=some (.val (.int m))) hn hn2 hh hat (List.range q) [] none none none none (fun k hk=>by have:=List.mem_range.mp hk;omega) (by rw[List.length_range];simp;omega) (fun p hp=>by cases hp)
 rw[List.length_range] at h2
 simp only[List.length_nil] at h2
 have e:bF (gN 6) b8 (nums (List.range q)) [some (.val (.src (iL ns))),some (.val (.int at')),some (.val (.int n)),some (.val (.int m)),some (.val (.lst (nums hs))),some (.own []),none,none,none,none]=_:=e
 exact⟨row,h1,by omega,by simp only[lL,eE,EE,Nat.reduceAdd,Nat.reduceSub,Nat.reduceLeDiff,Nat.reduceLT,Nat.reduceEqDiff,Int.reduceLT,Int.reduceLE,Int.reduceAdd,Int.reduceSub,Int.reduceMul,Int.reduceMod,Int.reduceDiv,Int.reduceNeg,Int.reduceToNat,Int.reducePow,Int.reduceEq,ec,eh,i0,pm,em,K1 (show q≤100000 by omega),e]⟩
end
noncomputable def rl (ps:List PV):Option (List PV):=match ps with
 |[p]=>(pO p).map (cr 0)
 |_=>none
theorem gQ {fs:FA}{ρ:ai}:jx fs ρ=(fs ρ).bind fun rs=>(rs.mapM RV.fr).bind rl:=by
 unfold jx
 rfl
theorem ve {ps:List PV}:rl [.tup ps]=some (cr 0 ps):=Eq.trans rfl rfl
theorem EL {ns:List Int}{at' n k:Nat}{s3:Option Sl}{ds:List Deed}{x z:Nat}(hx:x<n)(hz:z<n)(hat:at'≤500)(hk:k≤500)(hl:ds.length≤1000){z8:Option Sl}:∃d w8,Deed.ok n d ∧
  bd [some (.val (.src (iL ns))),some (.val (.int at')),some (.val (.int n)),s3,some (.own (ds.map Deed.pv)),some (.val (.int k)),some (.val (.int x)),some (.val (.int z)),z8] =
   .nx [some (.val (.src (iL ns))),some (.val (.int at')),some (.val (.int n)),s3,some (.own ((ds++[d]).map Deed.pv)),some (.val (.int k)),some (.val (.int x)),some (.val (.int z)),w8]:=by
 obtain⟨c,ec⟩:=ox ns ((at':Int)+20+(k:Int) / 10) (by omega) (by omega)
 obtain⟨xs,hxs,ex⟩:=gS c 10 (by decide) (by decide)
 have hxs:xs.length=10:=hxs
 have ik:L2.atI (nums xs) ((k:Int) % 10)=some (.int (up xs (k % 10):Nat)):=ag (x:=k % 10) (by omega)
 have l1:(ds.map Deed.pv).length≤100000:=by rw[List.length_map];omega
 have ea:∀d,ds.map Deed.pv++[d.pv]=(ds++[d]).map Deed.pv:=fun d=>by rw[List.map_append];rfl
 have h3:up xs (k % 10) % 3<3:=Nat.mod_lt _ (by decide)
 have e3:(up xs (k % 10):Int) % 3=((up xs (k % 10) % 3:Nat):Int):=rfl
 generalize up xs (k % 10) % 3=q at *
 have c3:q=0\/q=1\/q=2:=by omega
 have f0:∀a b c:PV,L2.atI [a,b,c] ((0:Nat):Int)=some a:=fun a b c=>rfl
 have f1:∀a b c:PV,L2.atI [a,b,c] ((1:Nat):Int)=some b:=fun a b c=>rfl
 have f2:∀a b c:PV,L2.atI [a,b,c] ((2:Nat):Int)=some c:=fun a b c=>rfl
 have l1:ds.length≤100000:=by omega
 rcases c3 with rfl|rfl|rfl
 ·refine⟨.join x z,some (.val (.lst (nums xs))),⟨hx,hz⟩,?_⟩
  rw[←ea]
  simp only[bd,EE,Nat.reduceAdd,Nat.reduceSub,Nat.reduceLeDiff,Nat.reduceLT,Nat.reduceEqDiff,Int.reduceLT,Int.reduceLE,Int.reduceAdd,Int.reduceSub,Int.reduceMul,Int.reduceMod,Int.reduceDiv,Int.reduceNeg,Int.reduceToNat,Int.reducePow,Int.reduceEq,ec,ex,ik,e3,f0,List.length_map,l1,Deed.pv]
 ·refine⟨.join x z,some (.val (.lst (nums xs))),⟨hx,hz⟩,?_⟩
  rw[←ea]
  simp only[bd,EE,Nat.reduceAdd,Nat.reduceSub,Nat.reduceLeDiff,Nat.reduceLT,Nat.reduceEqDiff,Int.reduceLT,Int.reduceLE,Int.reduceAdd,Int.reduceSub,Int.reduceMul,Int.reduceMod,Int.reduceDiv,Int.reduceNeg,Int.reduceToNat,Int.reducePow,Int.reduceEq,ec,ex,ik,e3,f1,List.length_map,l1,Deed.pv]
 ·refine⟨.find x,some (.val (.lst (nums xs))),hx,?_⟩
  rw[←ea]
  simp only[bd,EE,Nat.reduceAdd,Nat.reduceSub,Nat.reduceLeDiff,Nat.reduceLT,Nat.reduceEqDiff,Int.reduceLT,Int.reduceLE,Int.reduceAdd,Int.reduceSub,Int.reduceMul,Int.reduceMod,Int.reduceDiv,Int.reduceNeg,Int.reduceToNat,Int.reducePow,Int.reduceEq,ec,ex,ik,e3,f2,List.length_map,l1,Deed.pv]
theorem zG {ns:List Int}{at' n:Nat}{s3:Option Sl}(hat:at'≤500):∀(row:List (Nat×Nat)) (k:Nat) (ds:List Deed) (z5 z6 z7 z8:Option Sl),(∀p∈row,p.1<n/\p.2<n)->k+row.length≤500->ds.length+row.length≤1000->(∀d∈ds,Deed.ok n d) →
  ∃(ds':List Deed) (w5 w6 w7 w8:Option Sl),(∀d∈ds',Deed.ok n d)/\ds'.length=ds.length+row.length/\bF (m9 2 (gC (gN 5) (gC (m9 2 (gC (gN 6) (gC (gN 7) g0))) g0))) bd (cr k (jZ row)) [some (.val (.src (iL ns))),some (.val (.int at')),some (.val (.int n)),s3,some (.own (ds.map Deed.pv)),z5,z6,z7,z8] =
   .nx [some (.val (.src (iL ns))),some (.val (.int at')),some (.val (.int n)),s3,some (.own (ds'.map Deed.pv)),w5,w6,w7,w8]
 |[],k,ds,z5,z6,z7,z8,_,_,_,hd=>⟨ds,z5,z6,z7,z8,hd,rfl,rfl⟩
 |(x,z)::row,k,ds,z5,z6,z7,z8,hr,hk,hl,hd=>by
  rw[List.length_cons] at hk hl
  have hx:x<n:=(hr (x,z) List.mem_cons_self).1
  have hz:z<n:=(hr (x,z) List.mem_cons_self).2
  obtain⟨d,w8,hd1,e⟩:=EL (ns:=ns) (at':=at') (s3:=s3) (ds:=ds) (k:=k) hx hz hat (by omega) (by omega) (z8:=z8)
  obtain⟨ds',v5,v6,v7,v8,h1,h2,e'⟩:=zG (ns:=ns) (s3:=s3) hat row (k+1) (ds++[d]) (some (.val (.int k))) (some (.val (.int x))) (some (.val (.int z))) w8 (fun p hp=>hr p (List.mem_cons_of_mem _ hp)) (by omega) (by rw[List.length_append,List.length_singleton];omega) (fun q hq=>by
   rcases List.mem_append.mp hq with hq|hq
   ·exact hd q hq
   ·rw[List.mem_singleton.mp hq];exact hd1)
  refine⟨ds',v5,v6,v7,v8,h1,by rw[h2,List.length_append,List.length_singleton,List.length_cons];omega,?_⟩
  rw[←e',show cr k (jZ ((x,z)::row))=.tup [.int k,.tup [.int x,.int z]]::cr (k+1) (jZ row) from rfl,cE]
  simp only[EE,Nat.reduceAdd,Nat.reduceSub,Nat.reduceLeDiff,Nat.reduceLT,Nat.reduceEqDiff,Int.reduceLT,Int.reduceLE,Int.reduceAdd,Int.reduceSub,Int.reduceMul,Int.reduceMod,Int.reduceDiv,Int.reduceNeg,Int.reduceToNat,Int.reducePow,Int.reduceEq,e]
theorem yw (ns:List Int){at' n m:Nat}(hn:1≤n)(hn2:n≤40)(hat:at'≤500)(hm:m≤60):∃ds:List Deed,(∀d∈ds,Deed.ok n d)/\ds.length≤m/\bh [.src (iL ns),.int at',.int n,.int m]=some (.v (.tup (ds.map Deed.pv))):=by
 obtain⟨row,h1,h2,e⟩:=xc ns hn hn2 hat hm
 obtain⟨ds,w5,w6,w7,w8,h3,h4,e'⟩:=zG (ns:=ns) (s3:=some (.val (.int m))) hat row 0 [] none none none none h1 (by omega) (by simp;omega) (fun d hd=>by cases hd)
 simp only[List.length_nil] at h4
 have e':bF (m9 2 (gC (gN 5) (gC (m9 2 (gC (gN 6) (gC (gN 7) g0))) g0))) bd (cr 0 (jZ row)) [some (.val (.src (iL ns))),some (.val (.int at')),some (.val (.int n)),some (.val (.int m)),some (.own []),none,none,none,none]=_:=e'
 exact⟨ds,h3,by omega,by simp only[kg,ez,EE,Nat.reduceAdd,Nat.reduceSub,Nat.reduceLeDiff,Nat.reduceLT,Nat.reduceEqDiff,Int.reduceLT,Int.reduceLE,Int.reduceAdd,Int.reduceSub,Int.reduceMul,Int.reduceMod,Int.reduceDiv,Int.reduceNeg,Int.reduceToNat,Int.reducePow,Int.reduceEq,e,gQ,ve,e']⟩
end Dp
end
section
namespace Dp
open PySem L2 Fo Pu
noncomputable def Px (num:Nat)(us us':List Nat)(acc:List (Option Nat))(k:Nat):List (Option Nat):=if up us' k=up us k then acc else acc.set k (some num)
noncomputable def Qz (num:Nat)(us us':List Nat)(ks:List Nat)(acc:List (Option Nat)):List (Option Nat):=ks.foldl (Px num us us') acc
noncomputable def tU (us ms:List Nat)(p:Nat×Nat):List Nat:=dU "size" "none" us ms (.join p.1 p.2)
noncomputable def tM (us ms:List Nat)(p:Nat×Nat):List Nat:=dM "size" us ms (.join p.1 p.2)
noncomputable def rT:List (Nat×Nat)->Nat->List Nat->List Nat->List (Option Nat)->List Nat×List Nat×List (Option Nat)
 |[],_,us,ms,ts=>(us,ms,ts)
 |p::r,k,us,ms,ts=>rT r (k+1) (tU us ms p) (tM us ms p) (Qz k us (tU us ms p) (List.range us.length) ts)
theorem BV (j y:Str)(us ms:List Nat):bx (jj j y us ms) (.int 2)=some (.fz (.tup (nums us))):=rfl
noncomputable def rU (n:Nat)(row:List (Nat×Nat)):List Nat:=(rT row 0 (List.range n) (List.replicate n (Nv "size")) (List.replicate n none)).1
end Dp
end
section
namespace Fo
open PySem L2 Pt
theorem Way.nd {us:List Nat}{x:Nat}{l:List Nat}(w:Way us x l):l.Nodup:=by
 induction w with
 |head e=>simp
 | @step x l n w ih=>
  refine List.nodup_cons.mpr ⟨fun h=>?_,ih⟩
  obtain⟨l2,w2,_,hl,_⟩:=w.later x h
  have:=w2.det (.step n w)
  rw[this,List.length_cons] at hl
  omega
theorem xZ {us:List Nat}(b:∀x,x<us.length->up us x<us.length)(w:∀x,x<us.length->∃l,Way us x l):Fst us:=by
 refine⟨b,fun x=>if h:x<us.length then (Classical.choose (w x h)).length - 1 else 0,fun x hx=>?_,fun x hx ne=>?_⟩
 ·show (if h:x<us.length then _ else 0)<us.length
  rw[dif_pos hx]
  have h1:=Classical.choose_spec (w x hx)
  have h2:=pT h1.nd (h1.lt b hx)
  have h3:=h1.pos
  omega
 ·have hu:=b x hx
  show (if h:up us x<us.length then _ else 0)<(if h:x<us.length then _ else 0)
  rw[dif_pos hx,dif_pos hu]
  have h1:=Classical.choose_spec (w x hx)
  have h2:=Classical.choose_spec (w _ hu)
  have h3:=h1.det (.step ne h2)
  have h4:=h2.pos
  rw[h3,List.length_cons]
  omega
end Fo
end
section
namespace Fo
open PySem L2 Pt
theorem ze {l m:List Nat}(h:m≠[]):cG (l++m)=cG m:=by
 induction l with
 |nil=>rfl
 |cons x l ih=>rw[List.cons_append,bA (by simp[h]),ih]
noncomputable def Jx (us:List Nat):List Nat:=(List.range us.length).map (hd us)
section
variable {P us vs:List Nat}
end
end Fo
end
section
namespace Fo
open PySem L2 Pt Dp
section
variable {us vs:List Nat}
section
variable (f:Frst us)(g:Frst vs)(h:us.length+vs.length≤40)
include f g h
end
end
section
variable {us:List Nat}{h u:Nat}
theorem tu (f:Fst us)(hh:h<us.length)(eh:up us h=h)(hu:u<us.length)(ne:hd us u≠h){z:Nat}{l:List Nat}(w:Way us z l):z<us.length->Way (us.set h u) z (if cG l=h then l++way us u else l):=by
 have nu:h∉way us u:=fun q=>ne (by rw[←sQ f hu q,cQ f hh eh])
 have wu:Way (us.set h u) u (way us u):=(bL f hu).set hh nu
 induction w with
 | @head z e=>
  intro hz
  by_cases q:z=h
  ·subst q
   rw[if_pos (show cG [z]=z from rfl)]
   refine .step ?_ ?_
   ·rw[aJ hh,if_pos rfl];intro e;exact nu (e▸(bL f hu).mem_self)
   ·rw[aJ hh,if_pos rfl];exact wu
  ·rw[if_neg (show ¬cG [z]=h from q)]
   exact .head (by rw[aJ hh,if_neg q,e])
 | @step z l n w ih=>
  intro hz
  have q:z≠h:=fun e=>n (by rw[e,eh])
  have ih:=ih (f.bnd z hz)
  rw[bA w.ne]
  have e:up (us.set h u) z=up us z:=by rw[aJ hh,if_neg q]
  split
  ·next p=>rw[if_pos p] at ih;exact .step (by rw[e];exact n) (by rw[e];exact ih)
  ·next p=>rw[if_neg p] at ih;exact .step (by rw[e];exact n) (by rw[e];exact ih)
variable (f:Frst us)(hh:h<us.length)(eh:up us h=h)(hu:u<us.length)(ne:hd us u≠h)
include f hh eh hu ne
theorem qg:Frst (us.set h u):=by
 refine⟨by rw[List.length_set];exact f.one,by rw[List.length_set];exact f.most,xZ (fun x hx=>?_) fun x hx=>?_⟩<;>rw[List.length_set] at hx
 ·rw[List.length_set,aJ hh]
  split
  ·exact hu
  ·exact f.fst.bnd x hx
 ·exact⟨_,tu f.fst hh eh hu ne (bL f.fst hx) hx⟩
theorem zl {z:Nat}(hz:z<us.length):way (us.set h u) z=if hd us z=h then way us z++way us u else way us z:=
 iu (qg f hh eh hu ne).fst (by rw[List.length_set];exact hz) (tu f.fst hh eh hu ne (bL f.fst hz) hz)
theorem rK {z:Nat}(hz:z<us.length):hd (us.set h u) z=jn (hd us) h u z:=by
 have e:hd us h=h:=cQ f.fst hh eh
 show cG (way (us.set h u) z)=if hd us z=hd us h then hd us u else hd us z
 rw[zl f hh eh hu ne hz,e]
 split
 ·exact ze (bL f.fst hu).ne
 ·rfl
theorem Ex:mO ((cl us.length (hd us) h++cl us.length (hd us) u).map Int.ofNat)=(cl us.length (hd (us.set h u)) h).map Int.ofNat:=by
 rw[LI fun e=>ne (by rw[←e];exact cQ f.fst hh eh)]
 congr 1
 refine iV fun y hy=>?_
 rw[rK f hh eh hu ne hy,rK f hh eh hu ne hh]
end
end Fo
end
section
namespace Dp
open PySem L2 Fo Pu Pt
noncomputable def ga (i:Int):Nat:=if 2047<i then 4 else if 7<i then 3 else if 3<i then 2 else if 2<i then 1 else 0
theorem jd {ps:List PV}:rl [.ktu ps]=some (cr 0 ps):=Eq.trans rfl rfl
theorem tP (i:Int):gu [.int i]=some (.v (.int (ga i:Nat))):=by
 have e:cr 0 [PV.int 2,.int 3,.int 7,.int 2047]=[.tup [.int 0,.int 2],.tup [.int 1,.int 3],.tup [.int 2,.int 7],.tup [.int 3,.int 2047]]:=rfl
 unfold ga
 by_cases a:i≤2
 ·rw[if_neg (by omega),if_neg (by omega),if_neg (by omega),if_neg (by omega)]
  simp only[jc,fK,eX,EE,Nat.reduceAdd,Nat.reduceSub,Nat.reduceLeDiff,Nat.reduceLT,Nat.reduceEqDiff,Int.reduceLT,Int.reduceLE,Int.reduceAdd,Int.reduceSub,Int.reduceMul,Int.reduceMod,Int.reduceDiv,Int.reduceNeg,Int.reduceToNat,Int.reducePow,Int.reduceEq,gQ,jd,e,cE,decide_eq_true a]
  rfl
 by_cases b:i≤3
 ·rw[if_neg (by omega),if_neg (by omega),if_neg (by omega),if_pos (by omega)]
  simp only[jc,fK,eX,EE,Nat.reduceAdd,Nat.reduceSub,Nat.reduceLeDiff,Nat.reduceLT,Nat.reduceEqDiff,Int.reduceLT,Int.reduceLE,Int.reduceAdd,Int.reduceSub,Int.reduceMul,Int.reduceMod,Int.reduceDiv,Int.reduceNeg,Int.reduceToNat,Int.reducePow,Int.reduceEq,gQ,jd,e,cE,decide_eq_false a,decide_eq_true b]
  rfl
 by_cases c:i≤7
 ·rw[if_neg (by omega),if_neg (by omega),if_pos (by omega)]
  simp only[jc,fK,eX,EE,Nat.reduceAdd,Nat.reduceSub,Nat.reduceLeDiff,Nat.reduceLT,Nat.reduceEqDiff,Int.reduceLT,Int.reduceLE,Int.reduceAdd,Int.reduceSub,Int.reduceMul,Int.reduceMod,Int.reduceDiv,Int.reduceNeg,Int.reduceToNat,Int.reducePow,Int.reduceEq,gQ,jd,e,cE,decide_eq_false a,decide_eq_false b,decide_eq_true c]
  rfl
 by_cases d:i≤2047
 ·rw[if_neg (by omega),if_pos (by omega)]
  simp only[jc,fK,eX,EE,Nat.reduceAdd,Nat.reduceSub,Nat.reduceLeDiff,Nat.reduceLT,Nat.reduceEqDiff,Int.reduceLT,Int.reduceLE,Int.reduceAdd,Int.reduceSub,Int.reduceMul,Int.reduceMod,Int.reduceDiv,Int.reduceNeg,Int.reduceToNat,Int.reducePow,Int.reduceEq,gQ,jd,e,cE,decide_eq_false a,decide_eq_false b,decide_eq_false c,decide_eq_true d]
  rfl
 ·rw[if_pos (by omega)]
  simp only[jc,fK,eX,EE,Nat.reduceAdd,Nat.reduceSub,Nat.reduceLeDiff,Nat.reduceLT,Nat.reduceEqDiff,Int.reduceLT,Int.reduceLE,Int.reduceAdd,Int.reduceSub,Int.reduceMul,Int.reduceMod,Int.reduceDiv,Int.reduceNeg,Int.reduceToNat,Int.reducePow,Int.reduceEq,gQ,jd,e,cE,decide_eq_false a,decide_eq_false b,decide_eq_false c,decide_eq_false d]
  rfl
theorem oN (i:Int):bn [.int i]=some (.v (.int (ga i:Nat))):=by
 have e:pZ (gN 0) cN cK [none,some (.val (.int i))] [.int 2,.int 3,.int 7,.int 2047]=some ([PV.int 2,.int 3,.int 7,.int 2047].filter fun p=>match p with|.int j=>decide (j<i)|_=>false):=by
  rw[vC (t:=gN 0) (c:=cN) (f:=cK) (ρ:=[none,some (.val (.int i))]) (fun p=>match p with|.int j=>decide (j<i)|_=>false) id (its:=[.int 2,.int 3,.int 7,.int 2047]) fun p hp=>?_,List.map_id]
  obtain⟨j,rfl⟩:∃j,p=.int j:=by
   simp only[List.mem_cons,List.mem_nil_iff,or_false] at hp
   rcases hp with rfl|rfl|rfl|rfl<;>exact⟨_,rfl⟩
  refine⟨_,rfl,?_,fun _=>?_⟩
  ·simp only[cN,EE,Nat.reduceAdd,Nat.reduceSub,Nat.reduceLeDiff,Nat.reduceLT,Nat.reduceEqDiff,Int.reduceLT,Int.reduceLE,Int.reduceAdd,Int.reduceSub,Int.reduceMul,Int.reduceMod,Int.reduceDiv,Int.reduceNeg,Int.reduceToNat,Int.reducePow,Int.reduceEq]
  ·simp only[cK,EE,Nat.reduceAdd,Nat.reduceSub,Nat.reduceLeDiff,Nat.reduceLT,Nat.reduceEqDiff,Int.reduceLT,Int.reduceLE,Int.reduceAdd,Int.reduceSub,Int.reduceMul,Int.reduceMod,Int.reduceDiv,Int.reduceNeg,Int.reduceToNat,Int.reducePow,Int.reduceEq,id]
 have e2:([PV.int 2,.int 3,.int 7,.int 2047].filter fun p=>match p with|.int j=>decide (j<i)|_=>false).length=ga i:=by
  rw[←List.countP_eq_length_filter]
  simp only[List.countP_cons,List.countP_nil,decide_eq_true_eq]
  unfold ga
  split<;>split<;>split<;>split<;>first|rfl|omega|(split<;>first|rfl|omega)
 simp only[ou,fH,cN,cK,EE,Nat.reduceAdd,Nat.reduceSub,Nat.reduceLeDiff,Nat.reduceLT,Nat.reduceEqDiff,Int.reduceLT,Int.reduceLE,Int.reduceAdd,Int.reduceSub,Int.reduceMul,Int.reduceMod,Int.reduceDiv,Int.reduceNeg,Int.reduceToNat,Int.reducePow,Int.reduceEq,e,e2]
noncomputable def mq (m a:Nat):Nat:=if 2 * m+1≤a then 1 else 0
noncomputable def JH (m a:Nat):Nat:=if 2 * m+1≤a then 1 else a - m
theorem qo {P:Nat->Nat->Prop}(h:P 1 2/\P 1 3/\P 1 4/\P 1 5/\P 2 3/\P 2 4/\P 2 5/\P 3 4/\P 3 5/\P 4 5){m a:Nat}(h1:1≤m)(h2:m<a)(h3:a≤5):P m a:=by
 obtain⟨a1,a2,a3,a4,a5,a6,a7,a8,a9,a10⟩:=h
 have:(m=1/\(a=2\/a=3\/a=4\/a=5))\/(m=2/\(a=3\/a=4\/a=5))\/(m=3/\(a=4\/a=5))\/(m=4/\a=5):=by omega
 rcases this with ⟨rfl,rfl|rfl|rfl|rfl⟩|⟨rfl,rfl|rfl|rfl⟩|⟨rfl,rfl|rfl⟩|⟨rfl,rfl⟩<;>assumption
section
variable {m a:Nat}(h1:1≤m)(h2:m<a)(h3:a≤5)
include h1 h2 h3
theorem Bw:cu [.int m,.int a]=some (.v (.int (mq m a:Nat))):=
 qo (P:=fun m a=>cu [.int m,.int a]=some (.v (.int (mq m a:Nat)))) ⟨by kernel_rfl,by kernel_rfl,by kernel_rfl,by kernel_rfl,by kernel_rfl,by kernel_rfl,by kernel_rfl,by kernel_rfl,by kernel_rfl,by kernel_rfl⟩ h1 h2 h3
theorem KO:aK [.int (mq m a:Nat),.int m,.int a]=some (.v (.int (JH m a:Nat))):=
 qo (P:=fun m a=>aK [.int (mq m a:Nat),.int m,.int a]=some (.v (.int (JH m a:Nat)))) ⟨by kernel_rfl,by kernel_rfl,by kernel_rfl,by kernel_rfl,by kernel_rfl,by kernel_rfl,by kernel_rfl,by kernel_rfl,by kernel_rfl,by kernel_rfl⟩ h1 h2 h3
theorem yG:pZ (gN 0) aE aD [none,some (.val (.int m)),some (.val (.int a))] (nums (List.range 5))=some (nums (List.range (mq m a+1))):=
 qo (P:=fun m a=>pZ (gN 0) aE aD [none,some (.val (.int m)),some (.val (.int a))] (nums (List.range 5))=some (nums (List.range (mq m a+1)))) ⟨by kernel_rfl,by kernel_rfl,by kernel_rfl,by kernel_rfl,by kernel_rfl,by kernel_rfl,by kernel_rfl,by kernel_rfl,by kernel_rfl,by kernel_rfl⟩ h1 h2 h3
theorem Aw {s0 s1 s2 s3 s4:Option Sl}:∃g s8,aN [.int (mq m a:Nat),.int m]=some (.v (.int g))/\b5 aG aF 10000 [s0,s1,s2,s3,s4,some (.val (.int a)),some (.val (.int (mq m a:Nat))),some (.val (.int 0)),some (.val (.int g))]=.nx [s0,s1,s2,s3,s4,some (.val (.int a)),some (.val (.int (mq m a:Nat))),some (.val (.int (JH m a:Nat))),s8]:=
 qo (P:=fun m a=>∃g s8,aN [.int (mq m a:Nat),.int m]=some (.v (.int g))/\b5 aG aF 10000 [s0,s1,s2,s3,s4,some (.val (.int a)),some (.val (.int (mq m a:Nat))),some (.val (.int 0)),some (.val (.int g))]=.nx [s0,s1,s2,s3,s4,some (.val (.int a)),some (.val (.int (mq m a:Nat))),some (.val (.int (JH m a:Nat))),s8])
  ⟨⟨2,some (.val (.int 3)),by kernel_rfl,by kernel_rfl⟩,⟨3,some (.val (.int 7)),by kernel_rfl,by kernel_rfl⟩,⟨3,some (.val (.int 7)),by kernel_rfl,by kernel_rfl⟩,⟨3,some (.val (.int 7)),by kernel_rfl,by kernel_rfl⟩,⟨3,some (.val (.int 4)),by kernel_rfl,by kernel_rfl⟩,⟨3,some (.val (.int 5)),by kernel_rfl,by kernel_rfl⟩,⟨5,some (.val (.int 11)),by kernel_rfl,by kernel_rfl⟩,⟨4,some (.val (.int 5)),by kernel_rfl,by kernel_rfl⟩,⟨4,some (.val (.int 6)),by kernel_rfl,by kernel_rfl⟩,⟨5,some (.val (.int 6)),by kernel_rfl,by kernel_rfl⟩⟩ h1 h2 h3
theorem LG:mU [.lst (nums (List.range (mq m a+1)))]=some (.fz (.int (mq m a:Nat))):=
 qo (P:=fun m a=>mU [.lst (nums (List.range (mq m a+1)))]=some (.fz (.int (mq m a:Nat)))) ⟨by kernel_rfl,by kernel_rfl,by kernel_rfl,by kernel_rfl,by kernel_rfl,by kernel_rfl,by kernel_rfl,by kernel_rfl,by kernel_rfl,by kernel_rfl⟩ h1 h2 h3
end
noncomputable def Oz (f m a:Nat):Int:=((f:Int) - (mq m a:Nat)) * m - (JH m a:Nat)
noncomputable def re (us ms:List Nat)(x:Nat):Int:=if up us x=x\/up ms x=0 then (ga us.length:Int) * up ms x else Oz (ga us.length) (up ms x) (up ms (up us x))
structure Rk (n:Nat)(us ms:List Nat):Prop where
 sto:Sto n us ms
 rise:∀x,x<n->up us x≠x->up ms x<up ms (up us x)
 big:∀h,h<n->up us h=h->2 ^ (up ms h)≤(cl n (hd us) h).length
theorem Rk.ris {n:Nat}{us ms:List Nat}(R:Rk n us ms){x:Nat}{l:List Nat}(w:Way us x l):x<n->∀t∈l,up ms x≤up ms t/\(t≠x->up ms x<up ms t):=by
 have b:=R.sto.f.fst.bnd
 rw[R.sto.lu] at b
 induction w with
 | @head x e=>intro _ t ht;rw[List.mem_singleton.mp ht];exact⟨Nat.le_refl _,fun h=>absurd rfl h⟩
 | @step x l ne w ih=>
  intro hx t ht
  have r:=R.rise x hx ne
  rcases List.mem_cons.mp ht with rfl|ht
  ·exact⟨Nat.le_refl _,fun h=>absurd rfl h⟩
  ·have:=(ih (b x hx) t ht).1
   exact⟨by omega,fun _=>by omega⟩
theorem Rk.top {n:Nat}{us ms:List Nat}(R:Rk n us ms){h:Nat}(hh:h<n)(e:up us h=h):up ms h≤5/\2 ^ (up ms h)≤n:=by
 have b:=R.big h hh e
 have c:=HN n (hd us) h
 have m:=R.sto.f.most
 rw[R.sto.lu] at m
 refine⟨Decidable.byContradiction fun q=>?_,by omega⟩
 have:2 ^ 6≤2 ^ (up ms h):=Nat.pow_le_pow_right (by decide) (by omega)
 omega
theorem Rk.le {n:Nat}{us ms:List Nat}(R:Rk n us ms){x:Nat}(hx:x<n):up ms x≤5/\2 ^ (up ms x)≤n:=by
 have hx':x<us.length:=by rw[R.sto.lu];exact hx
 have w:=bL R.sto.f.fst hx'
 have h1:=(R.ris w hx _ (iM w.ne)).1
 have hh:=kN R.sto.f.fst hx'
 rw[R.sto.lu] at hh
 have h2:=R.top hh (tJ R.sto.f.fst hx')
 have h1:up ms x≤up ms (hd us x):=h1
 exact⟨by omega,Nat.le_trans (Nat.pow_le_pow_right (by decide) h1) h2.2⟩
theorem Rk.non {n:Nat}{us ms:List Nat}(R:Rk n us ms){x:Nat}(hx:x<n)(q:¬(up us x=x\/up ms x=0)):1≤up ms x/\up ms x<up ms (up us x)/\up ms (up us x)≤5/\4≤n:=by
 have b:=R.sto.f.fst.bnd x (by rw[R.sto.lu];exact hx)
 rw[R.sto.lu] at b
 have q1:up us x≠x:=fun e=>q (.inl e)
 have q2:up ms x≠0:=fun e=>q (.inr e)
 have r:=R.rise x hx q1
 obtain⟨l1,l2⟩:=R.le b
 have:2 ^ 2≤2 ^ (up ms (up us x)):=Nat.pow_le_pow_right (by decide) (by omega)
 exact⟨by omega,r,l1,by omega⟩
section
variable {n:Nat}{us ms:List Nat}(R:Rk n us ms)
include R
theorem BC {x:Nat}(hx:x<n):cv [.tup (nums us),.tup (nums ms),.int x]=some (.v (.int (re us ms x))):=by
 have hx1:x<us.length:=by rw[R.sto.lu];exact hx
 have hx2:x<ms.length:=by rw[R.sto.lm];exact hx
 have hu:=R.sto.f.fst.bnd x hx1
 have hu2:up us x<ms.length:=by rw[R.sto.lm,←R.sto.lu];exact hu
 have cm:(((ga us.length:Nat):Int).natAbs<2 ^ 64\/((up ms x:Nat):Int).natAbs<2 ^ 64)=True:=eq_true (.inr (by have:=(R.le hx).1;omega))
 unfold re
 by_cases q1:up us x=x
 ·rw[if_pos (.inl q1)]
  have d1:decide ((up us x:Int)=(x:Int))=true:=decide_eq_true (by omega)
  simp only[fJ,cZ,EE,Nat.reduceAdd,Nat.reduceSub,Nat.reduceLeDiff,Nat.reduceLT,Nat.reduceEqDiff,Int.reduceLT,Int.reduceLE,Int.reduceAdd,Int.reduceSub,Int.reduceMul,Int.reduceMod,Int.reduceDiv,Int.reduceNeg,Int.reduceToNat,Int.reducePow,Int.reduceEq,tP,ag hx1,ag hx2,d1,cm]
 ·have d1:decide ((up us x:Int)=(x:Int))=false:=decide_eq_false (by omega)
  by_cases q2:up ms x=0
  ·rw[if_pos (.inr q2)]
   have d2:decide ((up ms x:Int)=0)=true:=decide_eq_true (by omega)
   simp only[fJ,cZ,EE,Nat.reduceAdd,Nat.reduceSub,Nat.reduceLeDiff,Nat.reduceLT,Nat.reduceEqDiff,Int.reduceLT,Int.reduceLE,Int.reduceAdd,Int.reduceSub,Int.reduceMul,Int.reduceMod,Int.reduceDiv,Int.reduceNeg,Int.reduceToNat,Int.reducePow,Int.reduceEq,tP,ag hx1,ag hx2,d1,d2,cm]
  ·have d2:decide ((up ms x:Int)=0)=false:=decide_eq_false (by omega)
   rw[if_neg (fun z=>z.elim q1 q2)]
   obtain⟨m1,m2,m3,_⟩:=R.non hx (fun z=>z.elim q1 q2)
   have cm2:(((ga us.length:Nat):Int) - ((mq (up ms x) (up ms (up us x)):Nat):Int)).natAbs<2 ^ 64\/((up ms x:Nat):Int).natAbs<2 ^ 64:=.inr (by omega)
   simp only[fJ,cZ,EE,Nat.reduceAdd,Nat.reduceSub,Nat.reduceLeDiff,Nat.reduceLT,Nat.reduceEqDiff,Int.reduceLT,Int.reduceLE,Int.reduceAdd,Int.reduceSub,Int.reduceMul,Int.reduceMod,Int.reduceDiv,Int.reduceNeg,Int.reduceToNat,Int.reducePow,Int.reduceEq,tP,ag hx1,ag hx2,ag hu2,d1,d2,Bw m1 m2 m3,KO m1 m2 m3,cm2]
   rfl
theorem yh {x:Nat}(hx:x<n):aA [.tup (nums us),.tup (nums ms),.int x]=some (.v (.int (re us ms x))):=by
 have hx1:x<us.length:=by rw[R.sto.lu];exact hx
 have hx2:x<ms.length:=by rw[R.sto.lm];exact hx
 have hu:=R.sto.f.fst.bnd x hx1
 have hu2:up us x<ms.length:=by rw[R.sto.lm,←R.sto.lu];exact hu
 have cm:(((ga us.length:Nat):Int).natAbs<2 ^ 64\/((up ms x:Nat):Int).natAbs<2 ^ 64)=True:=eq_true (.inr (by have:=(R.le hx).1;omega))
 unfold re
 by_cases q1:up us x=x
 ·rw[if_pos (.inl q1)]
  have d1:decide ((up us x:Int)=(x:Int))=true:=decide_eq_true (by omega)
  simp only[ck,aZ,aE,aD,aG,aF,EE,Nat.reduceAdd,Nat.reduceSub,Nat.reduceLeDiff,Nat.reduceLT,Nat.reduceEqDiff,Int.reduceLT,Int.reduceLE,Int.reduceAdd,Int.reduceSub,Int.reduceMul,Int.reduceMod,Int.reduceDiv,Int.reduceNeg,Int.reduceToNat,Int.reducePow,Int.reduceEq,oN,ag hx1,ag hx2,ag hu2,d1,cm]
 ·have d1:decide ((up us x:Int)=(x:Int))=false:=decide_eq_false (by omega)
  by_cases q2:up ms x=0
  ·rw[if_pos (.inr q2)]
   have d2:decide ((up ms x:Int)=0)=true:=decide_eq_true (by omega)
   simp only[ck,aZ,aE,aD,aG,aF,EE,Nat.reduceAdd,Nat.reduceSub,Nat.reduceLeDiff,Nat.reduceLT,Nat.reduceEqDiff,Int.reduceLT,Int.reduceLE,Int.reduceAdd,Int.reduceSub,Int.reduceMul,Int.reduceMod,Int.reduceDiv,Int.reduceNeg,Int.reduceToNat,Int.reducePow,Int.reduceEq,oN,ag hx1,ag hx2,ag hu2,d1,d2,cm]
  ·have d2:decide ((up ms x:Int)=0)=false:=decide_eq_false (by omega)
   rw[if_neg (fun z=>z.elim q1 q2)]
   obtain⟨m1,m2,m3,_⟩:=R.non hx (fun z=>z.elim q1 q2)
   have cm2:(((ga us.length:Nat):Int) - ((mq (up ms x) (up ms (up us x)):Nat):Int)).natAbs<2 ^ 64\/((up ms x:Nat):Int).natAbs<2 ^ 64:=.inr (by omega)
   have r5:hX [.int 5]=some (nums (List.range 5)):=(K1 (n:=5) (by decide)).1
   have lv:=mq (up ms x) (up ms (up us x))
   obtain⟨g,s8,e1,e2⟩:=Aw m1 m2 m3 (s0:=some (.val (.tup (nums us)))) (s1:=some (.val (.tup (nums ms)))) (s2:=some (.val (.int x))) (s3:=some (.val (.int (ga us.length:Nat)))) (s4:=some (.val (.int (up ms x:Nat))))
   simp only[ck,aZ,aE,aD,aG,aF,EE,Nat.reduceAdd,Nat.reduceSub,Nat.reduceLeDiff,Nat.reduceLT,Nat.reduceEqDiff,Int.reduceLT,Int.reduceLE,Int.reduceAdd,Int.reduceSub,Int.reduceMul,Int.reduceMod,Int.reduceDiv,Int.reduceNeg,Int.reduceToNat,Int.reducePow,Int.reduceEq,oN,ag hx1,ag hx2,ag hu2,d1,d2,r5,List.length_range,yG m1 m2 m3,LG m1 m2 m3,e1,e2,cm2]
   rfl
noncomputable def rkw (us ms:List Nat):Int:=((List.range us.length).map (re us ms)).sum
theorem Kx:aR [jj "rank" "whole" us ms]=some (.v (.int (rkw us ms))):=by
 have hm:=R.sto.f.most
 have e1:pZ (gN 0) pk cP [none,some (.val (.tup (nums us))),some (.val (.tup (nums ms)))] (nums (List.range us.length))=some ((List.range us.length).map fun x=>.int (re us ms x)):=tQ _ fun x hx=>by
  simp only[cP,EE,Nat.reduceAdd,Nat.reduceSub,Nat.reduceLeDiff,Nat.reduceLT,Nat.reduceEqDiff,Int.reduceLT,Int.reduceLE,Int.reduceAdd,Int.reduceSub,Int.reduceMul,Int.reduceMod,Int.reduceDiv,Int.reduceNeg,Int.reduceToNat,Int.reducePow,Int.reduceEq,BC R (show x<n by rw[←R.sto.lu];exact List.mem_range.mp hx)]
 have ei:cC ((List.range us.length).map fun x=>PV.int (re us ms x))=some ((List.range us.length).map (re us ms)):=by
  have:=kZ ((List.range us.length).map (re us ms))
  rwa [List.map_map] at this
 have hn:us.length<1000:=by omega
 have d1:decide (("rank" : Str) = "rank")=true:=by decide
 have d2:decide (("whole" : Str) = "whole")=true:=by decide
 have lg:(List.range us.length).length<1000:=by rw[List.length_range];exact hn
 simp only[kI,d7,cP,jj,EE,Nat.reduceAdd,Nat.reduceSub,Nat.reduceLeDiff,Nat.reduceLT,Nat.reduceEqDiff,Int.reduceLT,Int.reduceLE,Int.reduceAdd,Int.reduceSub,Int.reduceMul,Int.reduceMod,Int.reduceDiv,Int.reduceNeg,Int.reduceToNat,Int.reducePow,Int.reduceEq,d1,d2,K1 (show us.length≤100000 by omega),List.length_range,hn,e1,ei]
 rfl
theorem Ga {j y:Str}:az [jj j y us ms]=some (.v (.int (rkw us ms))):=by
 have hm:=R.sto.f.most
 have g2:bx (jj j y us ms) (.int 2)=some (.fz (.tup (nums us))):=rfl
 have g3:bx (jj j y us ms) (.int 3)=some (.fz (.tup (nums ms))):=rfl
 have e1:pZ (gN 0) pk bH [none,some (.val (jj j y us ms))] (nums (List.range us.length))=some ((List.range us.length).map fun x=>.int (re us ms x)):=tQ _ fun x hx=>by
  simp only[bH,EE,Nat.reduceAdd,Nat.reduceSub,Nat.reduceLeDiff,Nat.reduceLT,Nat.reduceEqDiff,Int.reduceLT,Int.reduceLE,Int.reduceAdd,Int.reduceSub,Int.reduceMul,Int.reduceMod,Int.reduceDiv,Int.reduceNeg,Int.reduceToNat,Int.reducePow,Int.reduceEq,g2,g3,yh R (show x<n by rw[←R.sto.lu];exact List.mem_range.mp hx)]
 have ei:cC ((List.range us.length).map fun x=>PV.int (re us ms x))=some ((List.range us.length).map (re us ms)):=by
  have:=kZ ((List.range us.length).map (re us ms))
  rwa [List.map_map] at this
 have hn:us.length<1000:=by omega
 simp only[hG,cD,bH,EE,Nat.reduceAdd,Nat.reduceSub,Nat.reduceLeDiff,Nat.reduceLT,Nat.reduceEqDiff,Int.reduceLT,Int.reduceLE,Int.reduceAdd,Int.reduceSub,Int.reduceMul,Int.reduceMod,Int.reduceDiv,Int.reduceNeg,Int.reduceToNat,Int.reducePow,Int.reduceEq,g2,K1 (show us.length≤100000 by omega),List.length_range,hn,e1,ei]
 rfl
end
theorem Ac {n:Nat}(h:n≤40):ga n≤3/\(4≤n->2≤ga n):=by
 unfold ga
 refine⟨?_,fun h4=>?_⟩<;>split<;>first|omega|skip
 all_goals split<;>first|omega|skip
 all_goals split<;>first|omega|skip
 all_goals split<;>omega
theorem Fi {f m a:Nat}(hf:2≤f)(h1:1≤m)(h2:m<a)(h3:a≤5):0≤Oz f m a:=by
 have h:2 * m≤f * m:=Nat.mul_le_mul hf (Nat.le_refl m)
 have e:(f:Int) * m=((f * m:Nat):Int):=by rw[Int.natCast_mul]
 unfold Oz mq JH
 rw[Int.sub_mul,e]
 split<;>omega
theorem Rk.nn {n:Nat}{us ms:List Nat}(R:Rk n us ms){x:Nat}(hx:x<n):0≤re us ms x:=by
 unfold re
 split
 ·exact Int.mul_nonneg (by omega) (by omega)
 ·next q=>
  obtain⟨m1,m2,m3,m4⟩:=R.non hx q
  exact Fi ((Ac R.sto.f.most).2 (by rw[R.sto.lu];exact m4)) m1 m2 m3
theorem Rk.rkw {n:Nat}{us ms:List Nat}(R:Rk n us ms):0≤rkw us ms:=by
 unfold Dp.rkw
 have:∀l:List Nat,(∀x∈l,x<n)->0≤(l.map (re us ms)).sum:=fun l=>by
  induction l with
  |nil=>intro _;exact Int.le_refl _
  |cons x l ih=>
   intro h
   rw[List.map_cons,List.sum_cons]
   have:=R.nn (h x List.mem_cons_self)
   have:=ih fun y hy=>h y (List.mem_cons_of_mem _ hy)
   omega
 exact this _ fun x hx=>by rw[←R.sto.lu];exact List.mem_range.mp hx
theorem uh:("whole" : Str)∈bg:=by decide
theorem KJ:("rank" : Str)∈Iu:=by decide
theorem vt {us:List Nat}{x t:Nat}(h:t<us.length):up (du "whole" us x) t=if t∈way us x then hd us x else up us t:=by
 rw[kP h];rfl
theorem Rk.find {n:Nat}{us ms:List Nat}(R:Rk n us ms){x:Nat}(hx:x<n):Rk n (du "whole" us x) ms:=by
 have S:Sto n (du "whole" us x) ms:=yk R.sto (j:="rank") uh (d:=.find x) hx
 have f:=R.sto.f
 have lu:=R.sto.lu
 have hx':x<us.length:=by omega
 have hb:∀t,t<n->hd (du "whole" us x) t=hd us t:=fun t ht=>jD f hx' uh (by omega)
 have up1:∀t,t<n->up (du "whole" us x) t=if t∈way us x then hd us x else up us t:=fun t ht=>vt (by omega)
 refine⟨S,fun t ht ne=>?_,fun h hh e=>?_⟩
 ·rw[up1 t ht] at ne ⊢
  by_cases q:t∈way us x
  ·rw[if_pos q] at ne ⊢
   have e:=sQ f.fst hx' q
   have ht':t<us.length:=by omega
   have w:=bL f.fst ht'
   have:=(R.ris w ht _ (iM w.ne)).2 (by show hd us t≠t;rw[e];exact ne)
   have this:up ms t<up ms (hd us t):=this
   rwa [e] at this
  ·rw[if_neg q] at ne ⊢
   exact R.rise t ht ne
 ·have eh:up us h=h:=by
   have e1:=cQ S.f.fst (show h<(du "whole" us x).length by rw[cB];omega) e
   rw[hb h hh] at e1
   have:=tJ f.fst (show h<us.length by omega)
   rwa [e1] at this
  rw[iV (c:=hd (du "whole" us x)) (c':=hd us) (x:=h) (x':=h) fun y hy=>by rw[hb y hy,hb h hh]]
  exact R.big h hh eh
theorem Rk.link {n:Nat}{us ms:List Nat}(R:Rk n us ms){a b:Nat}(ha:a<n)(hb:b<n)(ea:up us a=a)(eb:up us b=b)(ne:a≠b):Rk n (lP "rank" us ms a b) (lM "rank" ms a b):=by
 have f:=R.sto.f
 have lu:=R.sto.lu
 have lm:=R.sto.lm
 have key:∀u t:Nat,u<n->t<n->up us u=u->up us t=t->u≠t->up ms u≤up ms t->Rk n (us.set u t) (ms.set t (Cl "rank" (up ms t) (up ms u))):=fun u t hu ht eu et ne le=>by
  have hu':u<us.length:=by omega
  have ht':t<us.length:=by omega
  have htm:t<ms.length:=by omega
  have nh:hd us t≠u:=by rw[cQ f.fst ht' et];exact fun e=>ne e.symm
  have mk:Cl "rank" (up ms t) (up ms u)=if up ms t=up ms u then up ms t+1 else up ms t:=by
   show (if ("rank" : Str) = "size" then _ else if ("rank" : Str) = "rank"/\up ms t=up ms u then up ms t+1 else up ms t)=_
   rw[if_neg (by decide)]
   by_cases e:up ms t=up ms u
   ·rw[if_pos ⟨rfl,e⟩,if_pos e]
   ·rw[if_neg (fun z=>e z.2),if_neg e]
  rw[mk]
  have fp:=qg f hu' eu ht' nh
  refine⟨⟨fp,by rw[List.length_set];exact lu,by rw[List.length_set];exact lm⟩,fun z hz nz=>?_,fun h hh e=>?_⟩
  ·rw[aJ hu'] at nz ⊢
   rw[aJ htm,aJ htm]
   by_cases q:z=u
   ·subst q
    rw[if_pos rfl] at nz ⊢
    rw[if_neg ne,if_pos rfl]
    split<;>omega
   ·rw[if_neg q] at nz ⊢
    have r:=R.rise z hz nz
    rw[if_neg (fun e=>nz (by rw[e,et]))]
    split
    ·next e=>rw[e] at r;split<;>omega
    ·exact r
  ·rw[aJ hu'] at e
   have q:h≠u:=fun z=>by rw[if_pos z] at e;exact ne (by rw[←z];exact e.symm)
   rw[if_neg q] at e
   have hjn:∀z,z<n->hd (us.set u t) z=if hd us z=u then t else hd us z:=fun z hz=>by
    rw[rK f hu' eu ht' nh (by omega)]
    show (if hd us z=hd us u then hd us t else hd us z)=_
    rw[cQ f.fst hu' eu,cQ f.fst ht' et]
   have hh1:=cQ f.fst (show h<us.length by omega) e
   rw[aJ htm]
   by_cases p:h=t
   ·subst p
    rw[if_pos rfl]
    have c:=Ex f hu' eu ht' nh
    have c:=congrArg List.length c
    rw[(jz _).length_eq,List.length_map,List.length_map,List.length_append,lu] at c
    have c2:cl n (hd (us.set u h)) u=cl n (hd (us.set u h)) h:=(MM hu).mpr (by rw[hjn u hu,hjn h hh,cQ f.fst hu' eu,if_pos rfl,hh1,if_neg q])
    rw[c2] at c
    have b1:=R.big u hu eu
    have b2:=R.big h hh e
    split
    ·next z=>rw[Nat.pow_succ];rw[←z] at b1;omega
    ·omega
   ·rw[if_neg p]
    rw[iV (c:=hd (us.set u t)) (c':=hd us) (x:=h) (x':=h) fun y hy=>by
     rw[hjn y hy,hjn h hh,hh1,if_neg q]
     by_cases z:hd us y=u
     ·rw[if_pos z,z];exact⟨fun e=>absurd e.symm p,fun e=>absurd e.symm q⟩
     ·rw[if_neg z]]
    exact R.big h hh e
 have st:stay "rank" ms a b=decide (up ms b≤up ms a):=by
  show (if ("rank" : Str) = "told" then true else if ("rank" : Str) = "names" then decide (a<b) else decide (up ms b≤up ms a))=_
  rw[if_neg (by decide),if_neg (by decide)]
 unfold lP lM
 by_cases q:up ms b≤up ms a
 ·have e1:tp "rank" ms a b=a:=by unfold tp;rw[st,decide_eq_true q];rfl
  have e2:un "rank" ms a b=b:=by unfold un;rw[st,decide_eq_true q];rfl
  rw[e1,e2]
  exact key b a hb ha eb ea (fun e=>ne e.symm) q
 ·have e1:tp "rank" ms a b=b:=by unfold tp;rw[st,decide_eq_false q];rfl
  have e2:un "rank" ms a b=a:=by unfold un;rw[st,decide_eq_false q];rfl
  rw[e1,e2]
  exact key a b ha hb ea eb ne (by omega)
theorem Rk.deed {n:Nat}{us ms:List Nat}(R:Rk n us ms){d:Deed}(h:d.ok n):Rk n (dU "rank" "whole" us ms d) (dM "rank" us ms d):=by
 cases d with
 |find x=>exact R.find h
 |join x z=>
  have R1:=R.find h.1
  have R2:=R1.find h.2
  have f:=R.sto.f
  have lu:=R.sto.lu
  have hx:x<us.length:=by rw[lu];exact h.1
  have hz:z<us.length:=by rw[lu];exact h.2
  have l1:=R1.sto.lu
  have hd2:∀t,t<n->hd (du "whole" (du "whole" us x) z) t=hd us t:=fun t ht=>by rw[jD R1.sto.f (by omega) uh (by omega),jD f hx uh (by omega)]
  show Rk n (if hd us x=hd us z then _ else _) (if hd us x=hd us z then _ else _)
  by_cases e:hd us x=hd us z
  ·rw[if_pos e,if_pos e];exact R2
  ·rw[if_neg e,if_neg e]
   have top:∀t,t<n->up (du "whole" (du "whole" us x) z) (hd us t)=hd us t:=fun t ht=>by
    have:=tJ R2.sto.f.fst (show t<(du "whole" (du "whole" us x) z).length by rw[R2.sto.lu];exact ht)
    rwa [hd2 t ht] at this
   have a1:=kN f.fst hx
   have a2:=kN f.fst hz
   exact R2.link (by omega) (by omega) (top x h.1) (top z h.2) e
theorem He {n:Nat}(h1:1≤n)(h2:n≤40):Rk n (List.range n) (List.replicate n 0):=by
 have f:=rX h1 h2
 have z:∀x,x<n->up (List.replicate n 0) x=0:=fun x hx=>by
  unfold up;rw[List.getD_eq_getElem?_getD,List.getElem?_replicate,if_pos hx];rfl
 have e:∀x,x<n->up (List.range n) x=x:=fun x hx=>by
  unfold up;rw[List.getD_eq_getElem?_getD,List.getElem?_range hx];rfl
 refine⟨⟨f,List.length_range ..,List.length_replicate ..⟩,fun x hx ne=>absurd (e x hx) ne,fun h hh _=>?_⟩
 rw[z h hh]
 exact List.length_pos_of_mem (mem_cl.mpr ⟨hh,rfl⟩)
theorem GQ {s:Nat}(h:s∈[1,2,4,8,16]):∃ks:List Nat,(∀k∈ks,k+2 * s≤40)/\ks.length≤20/\xB [.int 0,.int (40 - (s:Int)),.int (2 * (s:Int))]=some (nums ks):=by
 simp only[List.mem_cons,List.mem_nil_iff,or_false] at h
 rcases h with rfl|rfl|rfl|rfl|rfl
 ·exact⟨(List.range 20).map (2 * ·),by decide,by decide,by kernel_rfl⟩
 ·exact⟨(List.range 10).map (4 * ·),by decide,by decide,by kernel_rfl⟩
 ·exact⟨(List.range 5).map (8 * ·),by decide,by decide,by kernel_rfl⟩
 ·exact⟨(List.range 2).map (16 * ·),by decide,by decide,by kernel_rfl⟩
 ·exact⟨(List.range 1).map (32 * ·),by decide,by decide,by kernel_rfl⟩
theorem wZ {x s:Nat}(hs:1≤s):∀(ks:List Nat) (ds:List Deed) (z3:Option Sl),(∀k∈ks,k+2 * s≤40)->ds.length+ks.length≤1000->(∀d∈ds,Deed.ok 40 d) →
  ∃(ds':List Deed) (z3':Option Sl),(∀d∈ds',Deed.ok 40 d)/\ds'.length=ds.length+ks.length/\bF (gN 3) ce (nums ks) [some (.val (.int x)),some (.own (ds.map Deed.pv)),some (.val (.int s)),z3]=.nx [some (.val (.int x)),some (.own (ds'.map Deed.pv)),some (.val (.int s)),z3']
 |[],ds,z3,_,_,h=>⟨ds,z3,h,rfl,rfl⟩
 |k::ks,ds,z3,hk,hl,h=>by
  have k0:=hk k List.mem_cons_self
  rw[List.length_cons] at hl
  have m1:=Nat.mod_lt x (show 0<s by omega)
  have m2:=Nat.mod_lt (x / 8) (show 0<s by omega)
  have d0:Deed.ok 40 (.join (k+x % s) (k+s+x / 8 % s)):=⟨by omega,by omega⟩
  obtain⟨ds',z3',h1,h2,e⟩:=wZ hs ks (ds++[.join (k+x % s) (k+s+x / 8 % s)]) (some (.val (.int k))) (fun u hu=>hk u (List.mem_cons_of_mem _ hu)) (by rw[List.length_append,List.length_singleton];omega) (fun d hd=>by
   rcases List.mem_append.mp hd with hd|hd
   ·exact h d hd
   ·rw[List.mem_singleton.mp hd];exact d0) (x:=x)
  refine⟨ds',z3',h1,by rw[h2,List.length_append,List.length_singleton,List.length_cons];omega,?_⟩
  have a1:(k:Int)+(x:Int) % (s:Int)=((k+x % s:Nat):Int):=by rw[Int.natCast_add,Int.natCast_emod]
  have a2:(k:Int)+(s:Int)+(x:Int) / 8 % (s:Int)=((k+s+x / 8 % s:Nat):Int):=by
   rw[Int.natCast_add,Int.natCast_add,Int.natCast_emod,Int.natCast_ediv];rfl
  have sp:(0:Int)<(s:Int):=by omega
  have l1:(ds.map Deed.pv).length≤100000:=by rw[List.length_map];omega
  have ea:ds.map Deed.pv++[.tup [.str "join",.int ((k+x % s:Nat):Int),.int ((k+s+x / 8 % s:Nat):Int)]]=(ds++[Deed.join (k+x % s) (k+s+x / 8 % s)]).map Deed.pv:=by rw[List.map_append];rfl
  rw[cW,cE,←e]
  simp only[ce,EE,Nat.reduceAdd,Nat.reduceSub,Nat.reduceLeDiff,Nat.reduceLT,Nat.reduceEqDiff,Int.reduceLT,Int.reduceLE,Int.reduceAdd,Int.reduceSub,Int.reduceMul,Int.reduceMod,Int.reduceDiv,Int.reduceNeg,Int.reduceToNat,Int.reducePow,Int.reduceEq,sp,a1,a2,List.length_map,show ds.length≤100000 by omega,ea]
theorem tY {x:Nat}:∀(ss:List Nat) (ds:List Deed) (z2 z3:Option Sl),(∀s∈ss,s∈[1,2,4,8,16])->ds.length+20 * ss.length≤1000->(∀d∈ds,Deed.ok 40 d) →
  ∃(ds':List Deed) (z2' z3':Option Sl),(∀d∈ds',Deed.ok 40 d)/\bF (gN 2) bD (nums ss) [some (.val (.int x)),some (.own (ds.map Deed.pv)),z2,z3]=.nx [some (.val (.int x)),some (.own (ds'.map Deed.pv)),z2',z3']
 |[],ds,z2,z3,_,_,h=>⟨ds,z2,z3,h,rfl⟩
 |s::ss,ds,z2,z3,hs,hl,h=>by
  have s0:=hs s List.mem_cons_self
  have s1:1≤s:=by
   simp only[List.mem_cons,List.mem_nil_iff,or_false] at s0
   omega
  rw[List.length_cons] at hl
  obtain⟨ks,k1,k2,e3⟩:=GQ s0
  obtain⟨ds1,w3,h1,h2,e1⟩:=wZ s1 ks ds z3 k1 (by omega) h (x:=x)
  obtain⟨ds',z2',z3',h3,e⟩:=tY ss ds1 (some (.val (.int s))) w3 (fun u hu=>hs u (List.mem_cons_of_mem _ hu)) (by omega) h1 (x:=x)
  refine⟨ds',z2',z3',h3,?_⟩
  have cm:((2:Int).natAbs<2 ^ 64\/(s:Int).natAbs<2 ^ 64)=True:=eq_true (.inl (by decide))
  rw[cW,cE,←e]
  simp only[bD,EE,Nat.reduceAdd,Nat.reduceSub,Nat.reduceLeDiff,Nat.reduceLT,Nat.reduceEqDiff,Int.reduceLT,Int.reduceLE,Int.reduceAdd,Int.reduceSub,Int.reduceMul,Int.reduceMod,Int.reduceDiv,Int.reduceNeg,Int.reduceToNat,Int.reducePow,Int.reduceEq,cm,e3,e1]
theorem vZ (x:Nat):∃ds:List Deed,(∀d∈ds,Deed.ok 40 d)/\ds.length≤50/\aX [.int x]=some (.v (.tup (ds.map Deed.pv))):=by
 obtain⟨ds,z2,z3,h,e⟩:=tY (x:=x) [1,2,4,8,16] [] none none (fun s hs=>hs) (by decide) (fun d hd=>by cases hd)
 have e:bF (gN 2) bD [.int 1,.int 2,.int 4,.int 8,.int 16] [some (.val (.int x)),some (.own []),none,none]=.nx [some (.val (.int x)),some (.own (ds.map Deed.pv)),z2,z3]:=e
 have ec:cut (ds.map Deed.pv) none (some 50)=(cut ds none (some 50)).map Deed.pv:=by
  unfold cut
  rw[List.length_map,List.map_take,List.map_drop]
 refine⟨cut ds none (some 50),fun d hd=>h d (List.drop_subset _ _ (List.take_subset _ _ hd)),?_,?_⟩
 ·unfold cut
  rw[_root_.HT.sIx_none]
  have:_root_.HT.sIx ds.length ds.length (some ((50:Nat):Int))=min 50 ds.length:=_root_.HT.sIx_nat ..
  have this:_root_.HT.sIx ds.length ds.length (some 50)=min 50 ds.length:=this
  rw[this,List.length_take]
  omega
 ·simp only[jl,dv,ce,bD,EE,Nat.reduceAdd,Nat.reduceSub,Nat.reduceLeDiff,Nat.reduceLT,Nat.reduceEqDiff,Int.reduceLT,Int.reduceLE,Int.reduceAdd,Int.reduceSub,Int.reduceMul,Int.reduceMod,Int.reduceDiv,Int.reduceNeg,Int.reduceToNat,Int.reducePow,Int.reduceEq,e,ec]
end Dp
end
section
namespace K26
open PySem L2 Fo Pu Dp
noncomputable def bc (ρ:ai):Out:=(al (fF (fT (af na (fV 3) (cI ae))) (aT 2 (af bx (aw bS (aa (fV 2) (aa (fV 3) ae))) (fC (.int 0)))) aH)
  (al (aT 4 (aw aR (aa (fV 2) ae)))
  (fF (g7 (fT (fB eg (aa (fV 4) (aa (fC (.ty "bool")) ae)))) (g7 (fT (af na (fV 4) (aw az (aa (fV 2) ae)))) (fT (af D1 (fV 4) (fC (.int 0)))))) (cx (fC (.bl false))) aH))) ρ
noncomputable def eD (ρ:ai):Out:=(al (aT 2 (aw bE (aa (fV 0) (aa (fC (.str "rank")) (aa (fC (.str "whole")) ae)))))
  (al (gJ (wn (af be (cI (aa (cI ae) ae)) (fV 1))) (gN 3) bc)
  (cx (fC (.bl true))))) ρ
noncomputable def bW:List PV->Option PR:=run 2 5 eD
theorem kT {a0 a1:PV}:bW [a0,a1]=(eD [some (.val a0),some (.val a1),none,none,none]).res:=Eq.trans rfl rfl
noncomputable def li (ρ:ai):Out:=(al (aT 6 (aw gu (aa (fV 5) ae)))
  (fF (g7 (fT (fB eg (aa (fV 6) (aa (fC (.ty "bool")) ae)))) (fT (af na (fV 6) (aw bn (aa (fV 5) ae))))) (cx (fC (.bl false))) aH)) ρ
noncomputable def gA (ρ:ai):Out:=(al (aT 2 (aw aj (aa (aw ax (aa (fV 0) (aa (fV 1) ae))) (aa (fC (.int 8)) ae))))
  (al (aT 3 (aw bT (aa (af bx (fV 2) (fC (.int 0))) ae)))
  (al (aT 4 (aw bh (aa (fV 0) (aa (af be (fC (.int 3)) (af di (fC (.int 30)) (fV 1))) (aa (fV 3) (aa (fC (.int 60)) ae))))))
  (al (fF (fT (af ge (af aL (af bx (fV 2) (fC (.int 1))) (fC (.int 4))) (fC (.int 1)))) (iF 3 4 (aa (fC (.int 40)) (aa (af be (aw aX (aa (af bx (fV 2) (fC (.int 2))) ae)) (cI (aa (cI (aa (fC (.str "find")) (aa (af aL (af bx (fV 2) (fC (.int 3))) (fC (.int 40))) ae))) (aa (cI (aa (fC (.str "find")) (aa (fC (.int 39)) ae))) (aa (cI (aa (fC (.str "find")) (aa (af aL (af bx (fV 2) (fC (.int 4))) (fC (.int 40))) ae))) ae))))) ae))) aH)
  (al (fF (ku (fT (aw bW (aa (fV 3) (aa (fV 4) ae))))) (cx (fC (.bl false))) aH)
  (gJ (wn (eT (aa (fC (.int 1)) (aa (fC (.int 2)) (aa (fC (.int 3)) (aa (fC (.int 4)) (aa (fC (.int 7)) (aa (fC (.int 8)) (aa (fC (.int 2047)) (aa (fC (.int 2048)) (aa (fC (.int 999999999)) (aa (af be (fC (.int 1)) (af aL (af bx (fV 2) (fC (.int 5))) (fC (.int 999999999)))) (aa (af be (fC (.int 1)) (af aL (af bx (fV 2) (fC (.int 6))) (fC (.int 3000)))) (aa (af be (fC (.int 1)) (af aL (af bx (fV 2) (fC (.int 7))) (fC (.int 9)))) ae)))))))))))))) (gN 5) li)))))) ρ
noncomputable def i9 (ρ:ai):Out:=(al (gJ (hJ hX (aa (fC (.int 2)) ae)) (gN 1) gA)
  (cx (fC (.bl true)))) ρ
noncomputable def DX:List PV->Option PR:=run 1 7 i9
theorem CZ {a0:PV}:DX [a0]=(i9 [some (.val a0),none,none,none,none,none,none]).res:=Eq.trans rfl rfl
end K26
end
section
namespace K26
open PySem L2 Fo Pu Dp
theorem Qn (d:Deed):Pu.au d.pv=true/\decide (jb d.pv≤50)=true/\eR d.pv (.tup [])=false:=by
 cases d<;>exact⟨rfl,rfl,rfl⟩
theorem wr {n:Nat}{us ms:List Nat}(R:Rk n us ms){s0 s1 s3 z4:Option Sl}:(al (aT 4 (aw aR (aa (fV 2) ae)))
  (fF (g7 (fT (fB eg (aa (fV 4) (aa (fC (.ty "bool")) ae)))) (g7 (fT (af na (fV 4) (aw az (aa (fV 2) ae)))) (fT (af D1 (fV 4) (fC (.int 0)))))) (cx (fC (.bl false))) aH)) [s0,s1,some (.val (jj "rank" "whole" us ms)),s3,z4]=.nx [s0,s1,some (.val (jj "rank" "whole" us ms)),s3,some (.val (.int (rkw us ms)))]:=by
 have d1:decide (rkw us ms<0)=false:=decide_eq_false (by have:=R.rkw;omega)
 have d2:decide (rkw us ms=rkw us ms)=true:=decide_eq_true rfl
 simp only[EE,Nat.reduceAdd,Nat.reduceSub,Nat.reduceLeDiff,Nat.reduceLT,Nat.reduceEqDiff,Int.reduceLT,Int.reduceLE,Int.reduceAdd,Int.reduceSub,Int.reduceMul,Int.reduceMod,Int.reduceDiv,Int.reduceNeg,Int.reduceToNat,Int.reducePow,Int.reduceEq,Kx R,Ga R,d1,d2]
theorem zZ {n:Nat}{us ms:List Nat}(R:Rk n us ms){s0 s1 z4:Option Sl}:bc [s0,s1,some (.val (jj "rank" "whole" us ms)),some (.val (.tup [])),z4]=.nx [s0,s1,some (.val (jj "rank" "whole" us ms)),some (.val (.tup [])),some (.val (.int (rkw us ms)))]:=by
 have p:Pu.au (.tup [])=true/\decide (jb (.tup [])≤50)=true/\eR (.tup []) (.tup [])=true:=⟨rfl,rfl,rfl⟩
 have e:=wr R (s0:=s0) (s1:=s1) (s3:=some (.val (.tup []))) (z4:=z4)
 rw[←e]
 unfold bc
 generalize (al (aT 4 (aw aR (aa (fV 2) ae))) _:FS)=S
 simp only[EE,Nat.reduceAdd,Nat.reduceSub,Nat.reduceLeDiff,Nat.reduceLT,Nat.reduceEqDiff,Int.reduceLT,Int.reduceLE,Int.reduceAdd,Int.reduceSub,Int.reduceMul,Int.reduceMod,Int.reduceDiv,Int.reduceNeg,Int.reduceToNat,Int.reducePow,Int.reduceEq,p]
theorem A2 {n:Nat}{us ms:List Nat}(R:Rk n us ms){d:Deed}(h:d.ok n){s0 s1 z4:Option Sl}:bc [s0,s1,some (.val (jj "rank" "whole" us ms)),some (.val d.pv),z4]=.nx [s0,s1,some (.val (jj "rank" "whole" (dU "rank" "whole" us ms d) (dM "rank" us ms d))),some (.val d.pv),some (.val (.int (rkw (dU "rank" "whole" us ms d) (dM "rank" us ms d))))]:=by
 have p:=Qn d
 have e:=wr (R.deed h) (s0:=s0) (s1:=s1) (s3:=some (.val d.pv)) (z4:=z4)
 have e0:=An R.sto KJ uh h
 have g0:bx (ke "rank" "whole" us ms d) (.int 0)=some (.fz (jj "rank" "whole" (dU "rank" "whole" us ms d) (dM "rank" us ms d))):=rfl
 rw[←e]
 unfold bc
 generalize (al (aT 4 (aw aR (aa (fV 2) ae))) _:FS)=S
 simp only[EE,Nat.reduceAdd,Nat.reduceSub,Nat.reduceLeDiff,Nat.reduceLT,Nat.reduceEqDiff,Int.reduceLT,Int.reduceLE,Int.reduceAdd,Int.reduceSub,Int.reduceMul,Int.reduceMod,Int.reduceDiv,Int.reduceNeg,Int.reduceToNat,Int.reducePow,Int.reduceEq,p,e0,g0]
theorem ya {n:Nat}{s0 s1:Option Sl}:∀(ds:List Deed) (us ms:List Nat) (z3 z4:Option Sl),Rk n us ms->(∀d∈ds,d.ok n)->∃z2' z3' z4',bF (gN 3) bc (ds.map Deed.pv) [s0,s1,some (.val (jj "rank" "whole" us ms)),z3,z4]=.nx [s0,s1,z2',z3',z4']
 |[],us,ms,z3,z4,_,_=>⟨_,z3,z4,rfl⟩
 |d::ds,us,ms,z3,z4,R,h=>by
  have hd:=h d List.mem_cons_self
  obtain⟨z2',z3',z4',e⟩:=ya (s0:=s0) (s1:=s1) ds _ _ (some (.val d.pv)) (some (.val (.int (rkw (dU "rank" "whole" us ms d) (dM "rank" us ms d))))) (R.deed hd) fun u hu=>h u (List.mem_cons_of_mem _ hu)
  refine⟨z2',z3',z4',?_⟩
  rw[List.map_cons,cE,←e]
  simp only[EE,Nat.reduceAdd,Nat.reduceSub,Nat.reduceLeDiff,Nat.reduceLT,Nat.reduceEqDiff,Int.reduceLT,Int.reduceLE,Int.reduceAdd,Int.reduceSub,Int.reduceMul,Int.reduceMod,Int.reduceDiv,Int.reduceNeg,Int.reduceToNat,Int.reducePow,Int.reduceEq,A2 R hd]
theorem tS {n:Nat}(h1:1≤n)(h2:n≤40){ds:List Deed}(h:∀d∈ds,d.ok n)(hl:ds.length≤500):bW [.int n,.tup (ds.map Deed.pv)]=some (.v (.bl true)):=by
 have R:=He h1 h2
 obtain⟨z2,z3,z4,e⟩:=ya (s0:=some (.val (.int n))) (s1:=some (.val (.tup (ds.map Deed.pv)))) ds _ _ (some (.val (.tup []))) (some (.val (.int (rkw (List.range n) (List.replicate n 0))))) R h
 have e0:bE [.int n,.str "rank",.str "whole"]=some (.v (jj "rank" "whole" (List.range n) (List.replicate n 0))):=Ma h1 h2 KJ uh
 have e2:bF (gN 3) bc (.tup []::ds.map Deed.pv) [some (.val (.int n)),some (.val (.tup (ds.map Deed.pv))),some (.val (jj "rank" "whole" (List.range n) (List.replicate n 0))),none,none]=.nx [some (.val (.int n)),some (.val (.tup (ds.map Deed.pv))),z2,z3,z4]:=by
  rw[cE,←e]
  simp only[EE,Nat.reduceAdd,Nat.reduceSub,Nat.reduceLeDiff,Nat.reduceLT,Nat.reduceEqDiff,Int.reduceLT,Int.reduceLE,Int.reduceAdd,Int.reduceSub,Int.reduceMul,Int.reduceMod,Int.reduceDiv,Int.reduceNeg,Int.reduceToNat,Int.reducePow,Int.reduceEq,zZ R]
 have l1:1+(ds.map Deed.pv).length≤100000:=by rw[List.length_map];omega
 simp only[kT,eD,EE,Nat.reduceAdd,Nat.reduceSub,Nat.reduceLeDiff,Nat.reduceLT,Nat.reduceEqDiff,Int.reduceLT,Int.reduceLE,Int.reduceAdd,Int.reduceSub,Int.reduceMul,Int.reduceMod,Int.reduceDiv,Int.reduceNeg,Int.reduceToNat,Int.reducePow,Int.reduceEq,e0,l1,List.length_map,show 1+ds.length≤100000 by omega,e2]
theorem pL {s0 s1 s2 s3 s4:Option Sl}:∀(is:List Int) (z5 z6:Option Sl),∃z5' z6',bF (gN 5) li (is.map PV.int) [s0,s1,s2,s3,s4,z5,z6]=.nx [s0,s1,s2,s3,s4,z5',z6']
 |[],z5,z6=>⟨z5,z6,rfl⟩
 |i::is,z5,z6=>by
  obtain⟨z5',z6',e⟩:=pL (s0:=s0) (s1:=s1) (s2:=s2) (s3:=s3) (s4:=s4) is (some (.val (.int i))) (some (.val (.int (ga i:Nat))))
  refine⟨z5',z6',?_⟩
  have d:decide (((ga i:Nat):Int)=((ga i:Nat):Int))=true:=decide_eq_true rfl
  rw[List.map_cons,cE,←e]
  simp only[li,EE,Nat.reduceAdd,Nat.reduceSub,Nat.reduceLeDiff,Nat.reduceLT,Nat.reduceEqDiff,Int.reduceLT,Int.reduceLE,Int.reduceAdd,Int.reduceSub,Int.reduceMul,Int.reduceMod,Int.reduceDiv,Int.reduceNeg,Int.reduceToNat,Int.reducePow,Int.reduceEq,tP,oN,d]
theorem yK {ns:List Int}{k:Nat}(hk:k≤2){z2 z3 z4 z5 z6:Option Sl}:∃z2' z3' z4' z5' z6',gA [some (.val (.src (iL ns))),some (.val (.int k)),z2,z3,z4,z5,z6]=.nx [some (.val (.src (iL ns))),some (.val (.int k)),z2',z3',z4',z5',z6']:=by
 obtain⟨c,ec⟩:=ox ns k (by omega) (by omega)
 obtain⟨xs,hx,ex⟩:=gS c 8 (by decide) (by decide)
 have hx:xs.length=8:=hx
 have i (j:Nat) (h:j<8):L2.atI (nums xs) j=some (.int (up xs j:Nat)):=ag (x:=j) (by omega)
 have i0:L2.atI (nums xs) 0=some (.int (up xs 0:Nat)):=i 0 (by omega)
 have i1:L2.atI (nums xs) 1=some (.int (up xs 1:Nat)):=i 1 (by omega)
 have i2:L2.atI (nums xs) 2=some (.int (up xs 2:Nat)):=i 2 (by omega)
 have i3:L2.atI (nums xs) 3=some (.int (up xs 3:Nat)):=i 3 (by omega)
 have i4:L2.atI (nums xs) 4=some (.int (up xs 4:Nat)):=i 4 (by omega)
 have i5:L2.atI (nums xs) 5=some (.int (up xs 5:Nat)):=i 5 (by omega)
 have i6:L2.atI (nums xs) 6=some (.int (up xs 6:Nat)):=i 6 (by omega)
 have i7:L2.atI (nums xs) 7=some (.int (up xs 7:Nat)):=i 7 (by omega)
 obtain⟨n,n1,n2,en⟩:=BL (up xs 0)
 obtain⟨ds,h,hl,ed⟩:=yw ns (at':=3+30 * k) (n:=n) (m:=60) n1 n2 (by omega) (by omega)
 have ed:bh [.src (iL ns),.int (3+30 * (k:Int)),.int n,.int 60]=some (.v (.tup (ds.map Deed.pv))):=ed
 have cm:((30:Int).natAbs<2 ^ 64\/(k:Int).natAbs<2 ^ 64)=True:=eq_true (.inl (by decide))
 have fin (n':Nat) (ds':List Deed) {z5 z6:Option Sl}:=pL (s0:=some (.val (.src (iL ns)))) (s1:=some (.val (.int k))) (s2:=some (.val (.lst (nums xs)))) (s3:=some (.val (.int n'))) (s4:=some (.val (.tup (ds'.map Deed.pv)))) [1,2,3,4,7,8,2047,2048,999999999,1+(up xs 5:Int) % 999999999,1+(up xs 6:Int) % 3000,1+(up xs 7:Int) % 9] z5 z6
 by_cases q:(up xs 1:Int) % 4=1
 ·obtain⟨es,h',hl',ee⟩:=vZ (up xs 2)
  have q1:decide ((up xs 1:Int) % 4=1)=true:=decide_eq_true q
  have a3:(up xs 3:Int) % 40=((up xs 3 % 40:Nat):Int):=by omega
  have a4:(up xs 4:Int) % 40=((up xs 4 % 40:Nat):Int):=by omega
  have ea:es.map Deed.pv++[.tup [.str "find",.int ((up xs 3 % 40:Nat):Int)],.tup [.str "find",.int 39],.tup [.str "find",.int ((up xs 4 % 40:Nat):Int)]]=(es++[Deed.find (up xs 3 % 40),.find 39,.find (up xs 4 % 40)]).map Deed.pv:=by rw[List.map_append];rfl
  have hall:∀d∈es++[Deed.find (up xs 3 % 40),.find 39,.find (up xs 4 % 40)],d.ok 40:=fun d hd=>by
   rcases List.mem_append.mp hd with hd|hd
   ·exact h' d hd
   ·simp only[List.mem_cons,List.mem_nil_iff,or_false] at hd
    rcases hd with rfl|rfl|rfl
    ·exact Nat.mod_lt _ (by decide)
    ·show 39<40;decide
    ·exact Nat.mod_lt _ (by decide)
  have er:=tS (n:=40) (by decide) (by decide) hall (by rw[List.length_append];show _+3≤500;omega)
  have er:bW [.int 40,.tup ((es++[Deed.find (up xs 3 % 40),.find 39,.find (up xs 4 % 40)]).map Deed.pv)]=some (.v (.bl true)):=er
  obtain⟨z5',z6',ef⟩:=fin 40 (es++[Deed.find (up xs 3 % 40),.find 39,.find (up xs 4 % 40)]) (z5:=z5) (z6:=z6)
  have l1:es.length+3≤100000:=by omega
  refine⟨some (.val (.lst (nums xs))),some (.val (.int ((40:Nat):Int))),some (.val (.tup ((es++[Deed.find (up xs 3 % 40),.find 39,.find (up xs 4 % 40)]).map Deed.pv))),z5',z6',?_⟩
  rw[←ef]
  simp only[gA,EE,Nat.reduceAdd,Nat.reduceSub,Nat.reduceLeDiff,Nat.reduceLT,Nat.reduceEqDiff,Int.reduceLT,Int.reduceLE,Int.reduceAdd,Int.reduceSub,Int.reduceMul,Int.reduceMod,Int.reduceDiv,Int.reduceNeg,Int.reduceToNat,Int.reducePow,Int.reduceEq,ec,ex,i0,en,cm,ed,i1,q1,i2,ee,i3,i4,a3,a4,List.length_map,l1,ea,er,i5,i6,i7]
  rfl
 ·have q1:decide ((up xs 1:Int) % 4=1)=false:=decide_eq_false q
  have er:=tS n1 n2 h (by omega)
  obtain⟨z5',z6',ef⟩:=fin n ds (z5:=z5) (z6:=z6)
  refine⟨some (.val (.lst (nums xs))),some (.val (.int n)),some (.val (.tup (ds.map Deed.pv))),z5',z6',?_⟩
  rw[←ef]
  simp only[gA,EE,Nat.reduceAdd,Nat.reduceSub,Nat.reduceLeDiff,Nat.reduceLT,Nat.reduceEqDiff,Int.reduceLT,Int.reduceLE,Int.reduceAdd,Int.reduceSub,Int.reduceMul,Int.reduceMod,Int.reduceDiv,Int.reduceNeg,Int.reduceToNat,Int.reducePow,Int.reduceEq,ec,ex,i0,en,cm,ed,i1,q1,er,i5,i6,i7,List.map_cons,List.map_nil]
theorem qh {ns:List Int}:∀(ks:List Nat) (z1 z2 z3 z4 z5 z6:Option Sl),(∀k∈ks,k≤2)->∃z1' z2' z3' z4' z5' z6',bF (gN 1) gA (nums ks) [some (.val (.src (iL ns))),z1,z2,z3,z4,z5,z6]=.nx [some (.val (.src (iL ns))),z1',z2',z3',z4',z5',z6']
 |[],z1,z2,z3,z4,z5,z6,_=>⟨z1,z2,z3,z4,z5,z6,rfl⟩
 |k::ks,z1,z2,z3,z4,z5,z6,h=>by
  obtain⟨w2,w3,w4,w5,w6,e1⟩:=yK (ns:=ns) (h k List.mem_cons_self) (z2:=z2) (z3:=z3) (z4:=z4) (z5:=z5) (z6:=z6)
  obtain⟨z1',z2',z3',z4',z5',z6',e2⟩:=qh (ns:=ns) ks (some (.val (.int k))) w2 w3 w4 w5 w6 fun u hu=>h u (List.mem_cons_of_mem _ hu)
  refine⟨z1',z2',z3',z4',z5',z6',?_⟩
  rw[cW,cE,←e2]
  simp only[EE,Nat.reduceAdd,Nat.reduceSub,Nat.reduceLeDiff,Nat.reduceLT,Nat.reduceEqDiff,Int.reduceLT,Int.reduceLE,Int.reduceAdd,Int.reduceSub,Int.reduceMul,Int.reduceMod,Int.reduceDiv,Int.reduceNeg,Int.reduceToNat,Int.reducePow,Int.reduceEq,e1]
theorem xo:∀ns:List Int,ns.length≤63->run 1 7 i9 [.src (ns.map PV.int)]=some (.v (.bl true)):=fun ns hn=>by
 obtain⟨z1,z2,z3,z4,z5,z6,e⟩:=qh (ns:=ns) (List.range 2) none none none none none none (fun k hk=>by have:=List.mem_range.mp hk;omega)
 have r2:hX [.int 2]=some (nums (List.range 2)):=(K1 (n:=2) (by decide)).1
 show DX [.src (iL ns)]=_
 simp only[CZ,i9,EE,Nat.reduceAdd,Nat.reduceSub,Nat.reduceLeDiff,Nat.reduceLT,Nat.reduceEqDiff,Int.reduceLT,Int.reduceLE,Int.reduceAdd,Int.reduceSub,Int.reduceMul,Int.reduceMod,Int.reduceDiv,Int.reduceNeg,Int.reduceToNat,Int.reducePow,Int.reduceEq,r2,e]
end K26
end
section
section
namespace O26
open PySem L2
noncomputable def top (i:Nat):Stmt:=PySem.Challenge.pw_lotheads_k26_few_and_worths_by_marks.main.body.getD i (.Pass ⟨0,0,0,0⟩)
structure Txt (mg:Str->Option Value):Prop where
 n_abs:mg "abs" = none
 n_bool:mg "bool" = none
 n_enumerate:mg "enumerate" = none
 n_int:mg "int" = none
 n_isinstance:mg "isinstance" = none
 n_len:mg "len" = none
 n_list:mg "list" = none
 n_max:mg "max" = none
 n_min:mg "min" = none
 n_range:mg "range" = none
 n_str:mg "str" = none
 n_sum:mg "sum" = none
 n_tuple:mg "tuple" = none
 c_MOST_THINGS:∃t,mg "MOST_THINGS" = some (.int 40 t)
section
variable {P:Program}{w:World}{K:PySem.W.Frag}{mg:Str->Option Value}{base:Heap}
end
end O26
end
section
namespace O26
open PySem L2
section
variable {P:Program}{w:World}{K:PySem.W.Frag}{mg:Str->Option Value}{base:Heap}
end
end O26
end
section
namespace O26
open PySem L2 Fo
end O26
end
section
namespace O26
open PySem L2 Fo
structure Tabs (w:World)(K:PySem.W.Frag)(mg:Str->Option Value)(aM:Addr)(kvs:List (Str×Addr)):Prop where
 m:mg "MANNERS" = some (.ref aM)
 tab:Tab w K aM kvs
section
variable {P:Program}{w:World}{K:PySem.W.Frag}{mg:Str->Option Value}{base:Heap}{aM:Addr}{kvs:List (Str×Addr)}
noncomputable abbrev cs:Stmt:=top 18
theorem jI:FnScope ["thing"] ["thing"] (ad cs):=⟨rfl,rfl,rfl,by decide +kernel,rfl,by decide +kernel,by decide +kernel⟩
theorem qX (T:Txt mg)(TM:Tabs w K mg aM kvs)(F:FunD K mg "is_short" cs ["thing"]):Def P w K mg base 1 "is_short" ["thing"] (fun vs H Q _=>∃x:Str,vs=[.str x]/\Q (.bl (fR kvs x).isSome) H):=by
 refine F.ok jI (fun vs H Q E h=>by obtain⟨m,rfl,_⟩:=h;rfl) (fun f cdv A outer s H vs Q E hr h=>?_)
 obtain⟨x,rfl,q⟩:=h
 refine⟨_,(tz (nU (wJ (bO (wN (K:=K) rfl) rfl T.n_isinstance ij (fj oS (pv 0) (fj oS (El T.n_str yE) pf)) (he:=oS _ _)) (y6 (Gp (IQ TM.tab (pv 0) (iW (v:=.ref aM) rfl TM.m rfl)) (by with_unfolding_all rfl)))))),?_⟩
 (try dsimp only[F8,DQ,wS,Jf,wL,G3,Oq,Ij,eI,jO,iA,rV,lb,Ht,M4,rg,rI,rU,tC,tB,sY,Nm,IL,G1,ra,fU,dc,Iq,Go,zR,OI,wW,ot,iN,ML,wv,D4,vz,nF,vE,rz,eW,Be,ge,na,Ct,Aa,qF,Fe,Jc,yX,Jh,qv,pS,sw,sk,L2.dn,List.map_cons,List.map_nil,List.length_cons,List.length_nil,List.replicate,List.cons_append,List.nil_append,List.append_nil,List.getElem?_cons_zero,List.getElem?_cons_succ,List.set_cons_zero,List.set_cons_succ,List.getElem?_nil,Option.bind_some,Option.bind_none,Option.join_some,Option.join_none,Nat.add_one_sub_one,Nat.reduceSub,Nat.reduceAdd]);simp only[F8,DQ,wS,Jf,wL,G3,Oq,Ij,eI,jO,iA,rV,lb,Ht,M4,rg,rI,rU,tC,tB,sY,Nm,IL,G1,ra,fU,dc,Iq,Go,zR,OI,wW,ot,iN,ML,wv,D4,vz,nF,vE,rz,eW,Be,ge,na,Ct,Aa,qF,Fe,Jc,yX,Jh,qv,pS,sw,sk,L2.dn,List.map_cons,List.map_nil,List.length_cons,List.length_nil,List.replicate,List.cons_append,List.nil_append,List.append_nil,List.getElem?_cons_zero,List.getElem?_cons_succ,List.set_cons_zero,List.set_cons_succ,List.getElem?_nil,Option.bind_some,Option.bind_none,Option.join_some,Option.join_none,Option.some.injEq,V.int.injEq,V.bl.injEq,V.ref.injEq,List.cons.injEq,and_true,true_and,exists_eq_left,exists_eq_left',exists_eq_right,exists_and_left,Nat.add_one_sub_one,Nat.reduceSub,Nat.sub_self,Nat.reduceAdd,Nat.zero_add,Int.toNat_natCast,List.length_map,V.ty.injEq,V.str.injEq,and_assoc,HH,Mf,Bool.not_true,Bool.not_false,Bool.false_eq_true,if_true,if_false]
 refine⟨_,.str x,true,rfl,?_⟩
 rw[if_pos rfl]
 exact⟨_,rfl,x,rfl,rfl,q⟩
end
end O26
end
section
namespace O26
open PySem L2 Fo Pu
theorem qx (f0 f1 f2 f3 f4:Addr)(y:Str):(fR [("none",f0),("whole",f1),("halves",f2),("splits",f3),("one",f4)] y).isSome=decide (y∈bg):=by
 rw[Bool.eq_iff_iff,decide_eq_true_iff]
 unfold fR bg
 rw[Option.isSome_map,List.find?_isSome]
 simp[eq_comm]
theorem pK {P:Program}{w:World}{K:PySem.W.Frag}{mg:Str->Option Value}{base:Heap}{kvs:List (Str×Addr)}(hk:∀y,(fR kvs y).isSome=decide (y∈bg))(d:Def P w K mg base 1 "is_short" ["thing"] (fun vs H Q _=>∃x:Str,vs=[.str x]/\Q (.bl (fR kvs x).isSome) H)):Def P w K mg base 1 "is_short" ["thing"] (bq K ll):=Pu.Def.imp d fun vs H Q E ⟨F,ps,Qp,sF,rs,hW,k⟩=>by
 obtain⟨y,rfl,hq⟩:=hW
 obtain⟨v1,t1,rfl,r1,e⟩:=rs
 cases (show t1=[] from e)
 cases (show v1=.str y from r1)
 exact⟨y,rfl,by rw[hk];exact k (.v (.bl _)) _ F H hq (.refl sF) rfl⟩
end O26
end
end
section
namespace K26
open PySem L2 Fo Pu Dp
open O26 (Txt top Tabs)
structure Kon (w:World)(K:PySem.W.Frag)(mg:Str->Option Value):Prop where
 k_JOINS:∃a,mg "JOINS" = some (.ref a)/\KTup K a [.str "size",.str "rank",.str "told",.str "names"]
 k_LAST_OF_FEW:∃a,mg "LAST_OF_FEW" = some (.ref a)/\KTup K a [.int 2,.int 3,.int 7,.int 2047]
noncomputable abbrev eH:Stmt:=top 12
noncomputable abbrev dZ:Stmt:=top 13
noncomputable abbrev dD:Stmt:=top 14
noncomputable abbrev dE:Stmt:=top 15
noncomputable abbrev fS:Stmt:=top 16
noncomputable abbrev bt:Stmt:=top 35
theorem jQ:FnScope ["_law_cell_here","_law_many_here","_law_some","_law_state","_law_digits","_law_k"] ["_law_cell_here","_law_many_here"] (ad bt):=⟨rfl,rfl,rfl,by decide +kernel,rfl,by decide +kernel,by decide +kernel⟩
noncomputable abbrev ci:Stmt:=top 36
theorem oM:FnScope ["_law_x"] ["_law_x"] (ad ci):=⟨rfl,rfl,rfl,by decide +kernel,rfl,by decide +kernel,by decide +kernel⟩
noncomputable abbrev cj:Stmt:=top 34
theorem om:FnScope ["_law_script","_law_k","_law_state","_law_cell_here"] ["_law_script","_law_k"] (ad cj):=⟨rfl,rfl,rfl,by decide +kernel,rfl,by decide +kernel,by decide +kernel⟩
noncomputable abbrev b0:Stmt:=top 37
theorem ma:FnScope ["_law_script","_law_at","_law_many_here","_law_most","_law_head","_law_row","_law_k","_law_xs","_law_x","_law_y"] ["_law_script","_law_at","_law_many_here","_law_most"] (ad b0):=⟨rfl,rfl,rfl,by decide +kernel,rfl,by decide +kernel,by decide +kernel⟩
noncomputable abbrev bU:Stmt:=top 38
theorem mo:FnScope ["_law_script","_law_at","_law_many_here","_law_most","_law_row","_law_k","_law_x","_law_y","_law_xs"] ["_law_script","_law_at","_law_many_here","_law_most"] (ad bU):=⟨rfl,rfl,rfl,by decide +kernel,rfl,by decide +kernel,by decide +kernel⟩
noncomputable abbrev cR:Stmt:=top 8
theorem pJ:FnScope ["thing"] ["thing"] (ad cR):=⟨rfl,rfl,rfl,by decide +kernel,rfl,by decide +kernel,by decide +kernel⟩
noncomputable abbrev dB:Stmt:=top 9
theorem sI:FnScope ["thing"] ["thing"] (ad dB):=⟨rfl,rfl,rfl,by decide +kernel,rfl,by decide +kernel,by decide +kernel⟩
noncomputable abbrev bZ:Stmt:=top 10
theorem lZ:FnScope ["many"] ["many"] (ad bZ):=⟨rfl,rfl,rfl,by decide +kernel,rfl,by decide +kernel,by decide +kernel⟩
noncomputable abbrev aC:Stmt:=top 30
theorem gi:FnScope ["thing"] ["thing"] (ad aC):=⟨rfl,rfl,rfl,by decide +kernel,rfl,by decide +kernel,by decide +kernel⟩
noncomputable abbrev b6:Stmt:=top 31
theorem mz:FnScope ["join"] ["join"] (ad b6):=⟨rfl,rfl,rfl,by decide +kernel,rfl,by decide +kernel,by decide +kernel⟩
noncomputable abbrev cs:Stmt:=top 18
theorem jI:FnScope ["thing"] ["thing"] (ad cs):=⟨rfl,rfl,rfl,by decide +kernel,rfl,by decide +kernel,by decide +kernel⟩
noncomputable abbrev bJ:Stmt:=top 19
theorem kX:FnScope ["short"] ["short"] (ad bJ):=⟨rfl,rfl,rfl,by decide +kernel,rfl,by decide +kernel,by decide +kernel⟩
noncomputable abbrev cq:Stmt:=top 32
theorem nZ:FnScope ["many","join","short","mark"] ["many","join","short"] (ad cq):=⟨rfl,rfl,rfl,by decide +kernel,rfl,by decide +kernel,by decide +kernel⟩
noncomputable abbrev ld:Stmt:=top 22
theorem G9:FnScope ["number","at","last"] ["number"] (ad ld):=⟨rfl,rfl,rfl,by decide +kernel,rfl,by decide +kernel,by decide +kernel⟩
noncomputable abbrev dk:Stmt:=top 23
theorem nH:FnScope ["level","start","bound","value","turn"] ["level","start","bound"] (ad dk):=⟨rfl,rfl,rfl,by decide +kernel,rfl,by decide +kernel,by decide +kernel⟩
noncomputable abbrev cU:Stmt:=top 24
theorem qE:FnScope ["mark","above","level"] ["mark","above"] (ad cU):=⟨rfl,rfl,rfl,by decide +kernel,rfl,by decide +kernel,by decide +kernel⟩
noncomputable abbrev aU:Stmt:=top 25
theorem iI:FnScope ["level","mark","above","times","value"] ["level","mark","above"] (ad aU):=⟨rfl,rfl,rfl,by decide +kernel,rfl,by decide +kernel,by decide +kernel⟩
noncomputable abbrev cS:Stmt:=top 26
theorem qw:FnScope ["ups","marks","x","most","mark","above","level"] ["ups","marks","x"] (ad cS):=⟨rfl,rfl,rfl,by decide +kernel,rfl,by decide +kernel,by decide +kernel⟩
noncomputable abbrev bY:Stmt:=top 27
theorem mw:FnScope ["store","join","short","ups","marks"] ["store"] (ad bY):=⟨rfl,rfl,rfl,by decide +kernel,rfl,by decide +kernel,by decide +kernel⟩
noncomputable abbrev cT:Stmt:=top 39
theorem qA:FnScope ["_law_ups","_law_x","_law_way_here"] ["_law_ups","_law_x"] (ad cT):=⟨rfl,rfl,rfl,by decide +kernel,rfl,by decide +kernel,by decide +kernel⟩
noncomputable abbrev cn:Stmt:=top 40
theorem o7:FnScope ["_law_ups","_law_short","_law_x","_law_way_here","_law_head","_law_thing","_law_steps","_law_here","_law_up"] ["_law_ups","_law_short","_law_x"] (ad cn):=⟨rfl,rfl,rfl,by decide +kernel,rfl,by decide +kernel,by decide +kernel⟩
noncomputable abbrev bM:Stmt:=top 41
theorem j9:FnScope ["_law_join","_law_ups","_law_marks","_law_one","_law_other","_law_stays","_law_goes"] ["_law_join","_law_ups","_law_marks","_law_one","_law_other"] (ad bM):=⟨rfl,rfl,rfl,by decide +kernel,rfl,by decide +kernel,by decide +kernel⟩
noncomputable abbrev cw:Stmt:=top 42
theorem oJ:FnScope ["_law_store","_law_deed_here","_law_join","_law_short","_law_ups","_law_marks","_law_one","_law_steps","_law_other","_law_more"] ["_law_store","_law_deed_here"] (ad cw):=⟨rfl,rfl,rfl,by decide +kernel,rfl,by decide +kernel,by decide +kernel⟩
noncomputable abbrev cV:Stmt:=top 43
theorem qj:FnScope ["_law_number"] ["_law_number"] (ad cV):=⟨rfl,rfl,rfl,by decide +kernel,rfl,by decide +kernel,by decide +kernel⟩
noncomputable abbrev aW:Stmt:=top 44
theorem gz:FnScope ["_law_level","_law_number","_law_turn"] ["_law_level","_law_number"] (ad aW):=⟨rfl,rfl,rfl,by decide +kernel,rfl,by decide +kernel,by decide +kernel⟩
noncomputable abbrev aI:Stmt:=top 45
theorem g9:FnScope ["_law_ups","_law_marks","_law_x","_law_most","_law_mark","_law_up","_law_level","_law_times","_law_here"] ["_law_ups","_law_marks","_law_x"] (ad aI):=⟨rfl,rfl,rfl,by decide +kernel,rfl,by decide +kernel,by decide +kernel⟩
noncomputable abbrev aP:Stmt:=top 46
theorem ip:FnScope ["_law_store"] ["_law_store"] (ad aP):=⟨rfl,rfl,rfl,by decide +kernel,rfl,by decide +kernel,by decide +kernel⟩
noncomputable abbrev bV:Stmt:=top 48
theorem mE:FnScope ["_law_many_here","_law_row","_law_store","_law_deed_here","_law_answer"] ["_law_many_here","_law_row"] (ad bV):=⟨rfl,rfl,rfl,by decide +kernel,rfl,by decide +kernel,by decide +kernel⟩
noncomputable abbrev bu:Stmt:=top 47
theorem jR:FnScope ["_law_x","_law_row","_law_size","_law_k"] ["_law_x"] (ad bu):=⟨rfl,rfl,rfl,by decide +kernel,rfl,by decide +kernel,by decide +kernel⟩
noncomputable abbrev ig:Stmt:=top 49
theorem yR:FnScope ["_law_script","_law_k","_law_xs","_law_many_here","_law_row","_law_number","_law_answer"] ["_law_script"] (ad ig):=⟨rfl,rfl,rfl,by decide +kernel,rfl,by decide +kernel,by decide +kernel⟩
end K26
end
section
namespace K26
open PySem L2 Fo Pu Dp
open O26 (Txt top Tabs)
section
variable {P:Program}{w:World}{K:PySem.W.Frag}{mg:Str->Option Value}{base:Heap}
noncomputable def G0:Gc:={ bi:=["abs","bool","enumerate","int","isinstance","len","list","max","min","range","str","sum","tuple"],nis:=[("MOST_THINGS",40)],tups:=[("JOINS",[.str "size",.str "rank",.str "told",.str "names"]),("LAST_OF_FEW",[.int 2,.int 3,.int 7,.int 2047])],nums:=[] }
theorem gb (T:Txt mg)(TK:Kon w K mg):GB w K mg G0.bi G0.nis G0.tups G0.nums:=⟨⟨T.n_abs,⟨T.n_bool,⟨T.n_enumerate,⟨T.n_int,⟨T.n_isinstance,⟨T.n_len,⟨T.n_list,⟨T.n_max,⟨T.n_min,⟨T.n_range,⟨T.n_str,⟨T.n_sum,⟨T.n_tuple,trivial⟩⟩⟩⟩⟩⟩⟩⟩⟩⟩⟩⟩⟩,⟨T.c_MOST_THINGS,trivial⟩,⟨TK.k_JOINS,⟨TK.k_LAST_OF_FEW,trivial⟩⟩,trivial⟩
theorem jP (T:Txt mg)(TK:Kon w K mg)(F:FunD K mg "_law_numbers" bt ["_law_cell_here","_law_many_here"]):Def P w K mg base 1 "_law_numbers" ["_law_cell_here","_law_many_here"] (bq K (bR aj)):=
 bz (G:={ G0 with fns:=[] }) { sc:=ad bt,N:=["_law_cell_here","_law_many_here","_law_some","_law_state","_law_digits","_law_k"],own:=["_law_some"] } F jQ (iq (gb T TK) trivial trivial bo) (by kernel_rfl)
theorem oy (T:Txt mg)(TK:Kon w K mg)(F:FunD K mg "_law_many" ci ["_law_x"]):Def P w K mg base 1 "_law_many" ["_law_x"] (bq K (bR bT)):=
 bz (G:={ G0 with fns:=[] }) { sc:=ad ci,N:=["_law_x"] } F oM (iq (gb T TK) trivial trivial bo) (by kernel_rfl)
theorem oh (T:Txt mg)(TK:Kon w K mg)(F:FunD K mg "_law_cell" cj ["_law_script","_law_k"]):Def P w K mg base 1 "_law_cell" ["_law_script","_law_k"] (bq K (bR ax)):=
 bz (G:={ G0 with fns:=[] }) { sc:=ad cj,N:=["_law_script","_law_k","_law_state","_law_cell_here"] } F om (iq (gb T TK) trivial trivial bo) (by kernel_rfl)
theorem mB (T:Txt mg)(TK:Kon w K mg)(F:FunD K mg "_law_joins" b0 ["_law_script","_law_at","_law_many_here","_law_most"])(d__law_numbers:Def P w K mg base 1 "_law_numbers" ["_law_cell_here","_law_many_here"] (bq K (bR aj)))(d__law_cell:Def P w K mg base 1 "_law_cell" ["_law_script","_law_k"] (bq K (bR ax))):Def P w K mg base 2 "_law_joins" ["_law_script","_law_at","_law_many_here","_law_most"] (bq K (bR bC)):=
 bz (G:={ G0 with fns:=[("_law_numbers",aj),("_law_cell",ax)] }) { sc:=ad b0,N:=["_law_script","_law_at","_law_many_here","_law_most","_law_head","_law_row","_law_k","_law_xs","_law_x","_law_y"],own:=["_law_row"] } F ma (iq (gb T TK) ⟨⟨_,_,by decide,d__law_numbers⟩,⟨⟨_,_,by decide,d__law_cell⟩,trivial⟩⟩ trivial bo) (by kernel_rfl)
theorem mQ (T:Txt mg)(TK:Kon w K mg)(F:FunD K mg "_law_deeds" bU ["_law_script","_law_at","_law_many_here","_law_most"])(d__law_joins:Def P w K mg base 2 "_law_joins" ["_law_script","_law_at","_law_many_here","_law_most"] (bq K (bR bC)))(d__law_numbers:Def P w K mg base 1 "_law_numbers" ["_law_cell_here","_law_many_here"] (bq K (bR aj)))(d__law_cell:Def P w K mg base 1 "_law_cell" ["_law_script","_law_k"] (bq K (bR ax))):Def P w K mg base 3 "_law_deeds" ["_law_script","_law_at","_law_many_here","_law_most"] (bq K (bR bh)):=
 bz (G:={ G0 with fns:=[("_law_joins",bC),("_law_numbers",aj),("_law_cell",ax)] }) { sc:=ad bU,N:=["_law_script","_law_at","_law_many_here","_law_most","_law_row","_law_k","_law_x","_law_y","_law_xs"],own:=["_law_row"],alt:=[(156,36)] } F mo (iq (gb T TK) ⟨⟨_,_,by decide,d__law_joins⟩,⟨⟨_,_,by decide,d__law_numbers⟩,⟨⟨_,_,by decide,d__law_cell⟩,trivial⟩⟩⟩ trivial bo) (by kernel_rfl)
theorem qk (T:Txt mg)(TK:Kon w K mg)(F:FunD K mg "is_whole" cR ["thing"]):Def P w K mg base 1 "is_whole" ["thing"] (bq K (bR cf)):=
 bz (G:={ G0 with fns:=[] }) { sc:=ad cR,N:=["thing"] } F pJ (iq (gb T TK) trivial trivial bo) (by kernel_rfl)
theorem sB (T:Txt mg)(TK:Kon w K mg)(F:FunD K mg "is_many" dB ["thing"])(d_is_whole:Def P w K mg base 1 "is_whole" ["thing"] (bq K (bR cf))):Def P w K mg base 2 "is_many" ["thing"] (bq K (bR cA)):=
 bz (G:={ G0 with fns:=[("is_whole",cf)] }) { sc:=ad dB,N:=["thing"] } F sI (iq (gb T TK) ⟨⟨_,_,by decide,d_is_whole⟩,trivial⟩ trivial bo) (by kernel_rfl)
theorem mi (T:Txt mg)(TK:Kon w K mg)(F:FunD K mg "check_many" bZ ["many"])(d_is_many:Def P w K mg base 2 "is_many" ["thing"] (bq K (bR cA))):Def P w K mg base 3 "check_many" ["many"] (bq K (bR b7)):=
 bz (G:={ G0 with fns:=[("is_many",cA)] }) { sc:=ad bZ,N:=["many"] } F lZ (iq (gb T TK) ⟨⟨_,_,by decide,d_is_many⟩,trivial⟩ trivial bo) (by kernel_rfl)
theorem gt (T:Txt mg)(TK:Kon w K mg)(F:FunD K mg "is_way_of_joining" aC ["thing"]):Def P w K mg base 1 "is_way_of_joining" ["thing"] (bq K (bR ay)):=
 bz (G:={ G0 with fns:=[] }) { sc:=ad aC,N:=["thing"] } F gi (iq (gb T TK) trivial trivial bo) (by kernel_rfl)
theorem mS (T:Txt mg)(TK:Kon w K mg)(F:FunD K mg "check_join" b6 ["join"])(d_is_way_of_joining:Def P w K mg base 1 "is_way_of_joining" ["thing"] (bq K (bR ay))):Def P w K mg base 2 "check_join" ["join"] (bq K (bR bX)):=
 bz (G:={ G0 with fns:=[("is_way_of_joining",ay)] }) { sc:=ad b6,N:=["join"] } F mz (iq (gb T TK) ⟨⟨_,_,by decide,d_is_way_of_joining⟩,trivial⟩ trivial bo) (by kernel_rfl)
theorem lf (T:Txt mg)(TK:Kon w K mg)(F:FunD K mg "check_short" bJ ["short"])(d_is_short:Def P w K mg base 1 "is_short" ["thing"] (bq K (bR cy))):Def P w K mg base 2 "check_short" ["short"] (bq K (bR bm)):=
 bz (G:={ G0 with fns:=[("is_short",cy)] }) { sc:=ad bJ,N:=["short"] } F kX (iq (gb T TK) ⟨⟨_,_,by decide,d_is_short⟩,trivial⟩ trivial bo) (by kernel_rfl)
theorem nV (T:Txt mg)(TK:Kon w K mg)(F:FunD K mg "new_store" cq ["many","join","short"])(d_check_many:Def P w K mg base 3 "check_many" ["many"] (bq K (bR b7)))(d_check_join:Def P w K mg base 2 "check_join" ["join"] (bq K (bR bX)))(d_check_short:Def P w K mg base 2 "check_short" ["short"] (bq K (bR bm))):Def P w K mg base 4 "new_store" ["many","join","short"] (bq K (bR bE)):=
 bz (G:={ G0 with fns:=[("check_many",b7),("check_join",bX),("check_short",bm)] }) { sc:=ad cq,N:=["many","join","short","mark"],alt:=[(117,25)] } F nZ (iq (gb T TK) ⟨⟨_,_,by decide,d_check_many⟩,⟨⟨_,_,by decide,d_check_join⟩,⟨⟨_,_,by decide,d_check_short⟩,trivial⟩⟩⟩ trivial bo) (by kernel_rfl)
theorem GI (T:Txt mg)(TK:Kon w K mg)(F:FunD K mg "few" ld ["number"]):Def P w K mg base 1 "few" ["number"] (bq K (bR gu)):=
 bz (G:={ G0 with fns:=[] }) { sc:=ad ld,N:=["number","at","last"],alt:=[(67,20)] } F G9 (iq (gb T TK) trivial trivial bo) (by kernel_rfl)
theorem je (T:Txt mg)(TK:Kon w K mg)(F:FunD K mg "growth" dk ["level","start","bound"]):∀k,Def P w K mg base (k+1) "growth" ["level","start","bound"] (bq K (bR (eK k)))
 |0=>bz (G:={ G0 with fns:=[] }) { sc:=ad dk,N:=["level","start","bound","value","turn"] } F nH (iq (gb T TK) trivial trivial bo) (by kernel_rfl)
 |k+1=>bz (G:={ G0 with fns:=[("growth",eK k)] }) { sc:=ad dk,N:=["level","start","bound","value","turn"] } F nH (iq (gb T TK) ⟨⟨_,_,by omega,je T TK F k⟩,trivial⟩ trivial bo) (by kernel_rfl)
theorem wf (T:Txt mg)(TK:Kon w K mg)(F:FunD K mg "growth" dk ["level","start","bound"]):Def P w K mg base 6 "growth" ["level","start","bound"] (bq K (bR cJ)):=je T TK F 5
theorem p6 (T:Txt mg)(TK:Kon w K mg)(F:FunD K mg "level_of" cU ["mark","above"])(d_growth:Def P w K mg base 6 "growth" ["level","start","bound"] (bq K (bR cJ))):Def P w K mg base 7 "level_of" ["mark","above"] (bq K (bR cu)):=
 bz (G:={ G0 with fns:=[("growth",cJ)] }) { sc:=ad cU,N:=["mark","above","level"] } F qE (iq (gb T TK) ⟨⟨_,_,by decide,d_growth⟩,trivial⟩ trivial bo) (by kernel_rfl)
theorem iX (T:Txt mg)(TK:Kon w K mg)(F:FunD K mg "times_of_level" aU ["level","mark","above"])(d_growth:Def P w K mg base 6 "growth" ["level","start","bound"] (bq K (bR cJ))):Def P w K mg base 7 "times_of_level" ["level","mark","above"] (bq K (bR aK)):=
 bz (G:={ G0 with fns:=[("growth",cJ)] }) { sc:=ad aU,N:=["level","mark","above","times","value"] } F iI (iq (gb T TK) ⟨⟨_,_,by decide,d_growth⟩,trivial⟩ trivial bo) (by kernel_rfl)
theorem qG (T:Txt mg)(TK:Kon w K mg)(F:FunD K mg "worth_at" cS ["ups","marks","x"])(d_few:Def P w K mg base 1 "few" ["number"] (bq K (bR gu)))(d_level_of:Def P w K mg base 7 "level_of" ["mark","above"] (bq K (bR cu)))(d_times_of_level:Def P w K mg base 7 "times_of_level" ["level","mark","above"] (bq K (bR aK))):Def P w K mg base 8 "worth_at" ["ups","marks","x"] (bq K (bR cv)):=
 bz (G:={ G0 with fns:=[("few",gu),("level_of",cu),("times_of_level",aK)] }) { sc:=ad cS,N:=["ups","marks","x","most","mark","above","level"] } F qw (iq (gb T TK) ⟨⟨_,_,by decide,d_few⟩,⟨⟨_,_,by decide,d_level_of⟩,⟨⟨_,_,by decide,d_times_of_level⟩,trivial⟩⟩⟩ trivial bo) (by kernel_rfl)
theorem lU (T:Txt mg)(TK:Kon w K mg)(F:FunD K mg "rank_worth" bY ["store"])(d_worth_at:Def P w K mg base 8 "worth_at" ["ups","marks","x"] (bq K (bR cv))):Def P w K mg base 9 "rank_worth" ["store"] (bq K (bR aR)):=
 bz (G:={ G0 with fns:=[("worth_at",cv)] }) { sc:=ad bY,N:=["store","join","short","ups","marks"],cmp:=[((104,15),["x","ups","marks"])] } F mw (iq (gb T TK) ⟨⟨_,_,by decide,d_worth_at⟩,trivial⟩ trivial bo) (by kernel_rfl)
theorem qb (T:Txt mg)(TK:Kon w K mg)(F:FunD K mg "_law_way" cT ["_law_ups","_law_x"]):Def P w K mg base 1 "_law_way" ["_law_ups","_law_x"] (bq K (bR cg)):=
 bz (G:={ G0 with fns:=[] }) { sc:=ad cT,N:=["_law_ups","_law_x","_law_way_here"],own:=["_law_way_here"] } F qA (iq (gb T TK) trivial trivial bo) (by kernel_rfl)
theorem oX (T:Txt mg)(TK:Kon w K mg)(F:FunD K mg "_law_find" cn ["_law_ups","_law_short","_law_x"])(d__law_way:Def P w K mg base 1 "_law_way" ["_law_ups","_law_x"] (bq K (bR cg))):Def P w K mg base 2 "_law_find" ["_law_ups","_law_short","_law_x"] (bq K (bR bI)):=
 bz (G:={ G0 with fns:=[("_law_way",cg)] }) { sc:=ad cn,N:=["_law_ups","_law_short","_law_x","_law_way_here","_law_head","_law_thing","_law_steps","_law_here","_law_up"],own:=["_law_ups"] } F o7 (iq (gb T TK) ⟨⟨_,_,by decide,d__law_way⟩,trivial⟩ trivial bo) (by kernel_rfl)
theorem kY (T:Txt mg)(TK:Kon w K mg)(F:FunD K mg "_law_linked" bM ["_law_join","_law_ups","_law_marks","_law_one","_law_other"]):Def P w K mg base 1 "_law_linked" ["_law_join","_law_ups","_law_marks","_law_one","_law_other"] (bq K (bR bj)):=
 bz (G:={ G0 with fns:=[] }) { sc:=ad bM,N:=["_law_join","_law_ups","_law_marks","_law_one","_law_other","_law_stays","_law_goes"],own:=["_law_marks","_law_ups"] } F j9 (iq (gb T TK) trivial trivial bo) (by kernel_rfl)
theorem og (T:Txt mg)(TK:Kon w K mg)(F:FunD K mg "_law_deed" cw ["_law_store","_law_deed_here"])(d__law_find:Def P w K mg base 2 "_law_find" ["_law_ups","_law_short","_law_x"] (bq K (bR bI)))(d__law_linked:Def P w K mg base 1 "_law_linked" ["_law_join","_law_ups","_law_marks","_law_one","_law_other"] (bq K (bR bj))):Def P w K mg base 3 "_law_deed" ["_law_store","_law_deed_here"] (bq K (bR bS)):=
 bz (G:={ G0 with fns:=[("_law_find",bI),("_law_linked",bj)] }) { sc:=ad cw,N:=["_law_store","_law_deed_here","_law_join","_law_short","_law_ups","_law_marks","_law_one","_law_steps","_law_other","_law_more"] } F oJ (iq (gb T TK) ⟨⟨_,_,by decide,d__law_find⟩,⟨⟨_,_,by decide,d__law_linked⟩,trivial⟩⟩ trivial bo) (by kernel_rfl)
theorem pM (T:Txt mg)(TK:Kon w K mg)(F:FunD K mg "_law_few" cV ["_law_number"]):Def P w K mg base 1 "_law_few" ["_law_number"] (bq K (bR bn)):=
 bz (G:={ G0 with fns:=[] }) { sc:=ad cV,N:=["_law_number"],cmp:=[((205,15),["_law_most","_law_number"])] } F qj (iq (gb T TK) trivial trivial bo) (by kernel_rfl)
theorem eL (T:Txt mg)(TK:Kon w K mg)(F:FunD K mg "_law_growth" aW ["_law_level","_law_number"]):∀k,Def P w K mg base (k+1) "_law_growth" ["_law_level","_law_number"] (bq K (bR (cz k)))
 |0=>bz (G:={ G0 with fns:=[] }) { sc:=ad aW,N:=["_law_level","_law_number","_law_turn"] } F gz (iq (gb T TK) trivial trivial bo) (by kernel_rfl)
 |k+1=>bz (G:={ G0 with fns:=[("_law_growth",cz k)] }) { sc:=ad aW,N:=["_law_level","_law_number","_law_turn"] } F gz (iq (gb T TK) ⟨⟨_,_,by omega,eL T TK F k⟩,trivial⟩ trivial bo) (by kernel_rfl)
theorem km (T:Txt mg)(TK:Kon w K mg)(F:FunD K mg "_law_growth" aW ["_law_level","_law_number"]):Def P w K mg base 6 "_law_growth" ["_law_level","_law_number"] (bq K (bR aN)):=eL T TK F 5
theorem hU (T:Txt mg)(TK:Kon w K mg)(F:FunD K mg "_law_thing_worth" aI ["_law_ups","_law_marks","_law_x"])(d__law_few:Def P w K mg base 1 "_law_few" ["_law_number"] (bq K (bR bn)))(d__law_growth:Def P w K mg base 6 "_law_growth" ["_law_level","_law_number"] (bq K (bR aN))):Def P w K mg base 7 "_law_thing_worth" ["_law_ups","_law_marks","_law_x"] (bq K (bR aA)):=
 bz (G:={ G0 with fns:=[("_law_few",bn),("_law_growth",aN)] }) { sc:=ad aI,N:=["_law_ups","_law_marks","_law_x","_law_most","_law_mark","_law_up","_law_level","_law_times","_law_here"],cmp:=[((217,21),["_law_k","_law_mark","_law_up"])] } F g9 (iq (gb T TK) ⟨⟨_,_,by decide,d__law_few⟩,⟨⟨_,_,by decide,d__law_growth⟩,trivial⟩⟩ trivial bo) (by kernel_rfl)
theorem im (T:Txt mg)(TK:Kon w K mg)(F:FunD K mg "_law_rank_worth" aP ["_law_store"])(d__law_thing_worth:Def P w K mg base 7 "_law_thing_worth" ["_law_ups","_law_marks","_law_x"] (bq K (bR aA))):Def P w K mg base 8 "_law_rank_worth" ["_law_store"] (bq K (bR az)):=
 bz (G:={ G0 with fns:=[("_law_thing_worth",aA)] }) { sc:=ad aP,N:=["_law_store"],cmp:=[((223,15),["_law_x","_law_store"])] } F ip (iq (gb T TK) ⟨⟨_,_,by decide,d__law_thing_worth⟩,trivial⟩ trivial bo) (by kernel_rfl)
theorem mH (T:Txt mg)(TK:Kon w K mg)(F:FunD K mg "_law_right" bV ["_law_many_here","_law_row"])(d_new_store:Def P w K mg base 4 "new_store" ["many","join","short"] (bq K (bR bE)))(d_rank_worth:Def P w K mg base 9 "rank_worth" ["store"] (bq K (bR aR)))(d__law_deed:Def P w K mg base 3 "_law_deed" ["_law_store","_law_deed_here"] (bq K (bR bS)))(d__law_rank_worth:Def P w K mg base 8 "_law_rank_worth" ["_law_store"] (bq K (bR az))):Def P w K mg base 10 "_law_right" ["_law_many_here","_law_row"] (bq K (bR bW)):=
 bz (G:={ G0 with fns:=[("new_store",bE),("rank_worth",aR),("_law_deed",bS),("_law_rank_worth",az)] }) { sc:=ad bV,N:=["_law_many_here","_law_row","_law_store","_law_deed_here","_law_answer"] } F mE (iq (gb T TK) ⟨⟨_,_,by decide,d_new_store⟩,⟨⟨_,_,by decide,d_rank_worth⟩,⟨⟨_,_,by decide,d__law_deed⟩,⟨⟨_,_,by decide,d__law_rank_worth⟩,trivial⟩⟩⟩⟩ trivial bo) (by kernel_rfl)
theorem jW (T:Txt mg)(TK:Kon w K mg)(F:FunD K mg "_law_doubled" bu ["_law_x"]):Def P w K mg base 1 "_law_doubled" ["_law_x"] (bq K (bR aX)):=
 bz (G:={ G0 with fns:=[] }) { sc:=ad bu,N:=["_law_x","_law_row","_law_size","_law_k"],own:=["_law_row"] } F jR (iq (gb T TK) trivial trivial bo) (by kernel_rfl)
end
end K26
end
section
namespace K26
open PySem L2 Fo Pu Dp
open O26 (Txt top Tabs)
section
variable {P:Program}{w:World}{K:PySem.W.Frag}{mg:Str->Option Value}{base:Heap}
theorem zH (T:Txt mg)(TK:Kon w K mg){f:Addr}{cdv:Value}{A:Around}{outer:List Env}{s:Shared}{H:Hp}{vs:List V}{Q:VK}{E:XK}(hr:Room 10 (A.deeper (PyProof.Rows.envOfC "law" (ad ig) s.heap.objs.size f cdv)))(h:nq K vs H Q E)(d__law_numbers:Def P w K mg base 1 "_law_numbers" ["_law_cell_here","_law_many_here"] (bq K (bR aj)))(d__law_many:Def P w K mg base 1 "_law_many" ["_law_x"] (bq K (bR bT)))(d__law_deeds:Def P w K mg base 3 "_law_deeds" ["_law_script","_law_at","_law_many_here","_law_most"] (bq K (bR bh)))(d__law_cell:Def P w K mg base 1 "_law_cell" ["_law_script","_law_k"] (bq K (bR ax)))(d__law_right:Def P w K mg base 10 "_law_right" ["_law_many_here","_law_row"] (bq K (bR bW)))(d_few:Def P w K mg base 1 "few" ["number"] (bq K (bR gu)))(d__law_doubled:Def P w K mg base 1 "_law_doubled" ["_law_x"] (bq K (bR aX)))(d__law_few:Def P w K mg base 1 "_law_few" ["_law_number"] (bq K (bR bn))) :
  ∃t,PSs (iR rf P w K mg base ["_law_script","_law_k","_law_xs","_law_many_here","_law_row","_law_number","_law_answer"] "law" (ad ig) f cdv A outer s H E).nox (ah ig) t/\t { nx:=fun _ H'=>Q .non H',rt:=Q } (L2.dn ["_law_script","_law_k","_law_xs","_law_many_here","_law_row","_law_number","_law_answer"] vs) H:=
 EW (N:=["_law_script","_law_k","_law_xs","_law_many_here","_law_row","_law_number","_law_answer"]) (X:=(iR rf P w K mg base ["_law_script","_law_k","_law_xs","_law_many_here","_law_row","_law_number","_law_answer"] "law" (ad ig) f cdv A outer s H E).nox) (Lb (s:=i9) (G:={ G0 with fns:=[("_law_numbers",aj),("_law_many",bT),("_law_deeds",bh),("_law_cell",ax),("_law_right",bW),("few",gu),("_law_doubled",aX),("_law_few",bn)] }) { sc:=ad ig,N:=["_law_script","_law_k","_law_xs","_law_many_here","_law_row","_law_number","_law_answer"] } yR (iq (gb T TK) ⟨⟨_,_,by decide,d__law_numbers⟩,⟨⟨_,_,by decide,d__law_many⟩,⟨⟨_,_,by decide,d__law_deeds⟩,⟨⟨_,_,by decide,d__law_cell⟩,⟨⟨_,_,by decide,d__law_right⟩,⟨⟨_,_,by decide,d_few⟩,⟨⟨_,_,by decide,d__law_doubled⟩,⟨⟨_,_,by decide,d__law_few⟩,trivial⟩⟩⟩⟩⟩⟩⟩⟩ trivial bo) (by kernel_rfl) hr) h xo
end
end K26
end
section
namespace K26
open PySem L2 Fo Pu Dp
open O26 (Txt top Tabs)
@[elab_as_elim] theorem io {P:List Value->Prop}{us:List Value}(h:us.length=1)(k:∀a,P [a]):P us:=by
 obtain _|⟨_,us⟩:=us
 ·cases h
 obtain _|⟨_,us⟩:=us
 ·exact k _
 ·simp at h
@[elab_as_elim] theorem jS {P:List Value->Prop}{us:List Value}(h:us.length=2)(k:∀a b,P [a,b]):P us:=by
 obtain _|⟨_,us⟩:=us
 ·cases h
 obtain _|⟨_,us⟩:=us
 ·cases h
 obtain _|⟨_,us⟩:=us
 ·exact k _ _
 ·simp at h
@[elab_as_elim] theorem uG {P:List Value->Prop}{us:List Value}(h:us.length=3)(k:∀a b c,P [a,b,c]):P us:=by
 obtain _|⟨_,us⟩:=us
 ·cases h
 obtain _|⟨_,us⟩:=us
 ·cases h
 obtain _|⟨_,us⟩:=us
 ·cases h
 obtain _|⟨_,us⟩:=us
 ·exact k _ _ _
 ·simp at h
@[elab_as_elim] theorem JV {P:List Value->Prop}{us:List Value}(h:us.length=4)(k:∀a b c d,P [a,b,c,d]):P us:=by
 obtain _|⟨_,us⟩:=us
 ·cases h
 obtain _|⟨_,us⟩:=us
 ·cases h
 obtain _|⟨_,us⟩:=us
 ·cases h
 obtain _|⟨_,us⟩:=us
 ·cases h
 obtain _|⟨_,us⟩:=us
 ·exact k _ _ _ _
 ·simp at h
@[elab_as_elim] theorem OE {P:List Value->Prop}{us:List Value}(h:us.length=5)(k:∀a b c d e,P [a,b,c,d,e]):P us:=by
 obtain _|⟨_,us⟩:=us
 ·cases h
 obtain _|⟨_,us⟩:=us
 ·cases h
 obtain _|⟨_,us⟩:=us
 ·cases h
 obtain _|⟨_,us⟩:=us
 ·cases h
 obtain _|⟨_,us⟩:=us
 ·cases h
 obtain _|⟨_,us⟩:=us
 ·exact k _ _ _ _ _
 ·simp at h
theorem G2 {l:PySem.W.OpenLaw}{w:World}{K:PySem.W.Frag}{h:Heap}{mg:Str->Option Value}{fa f0 f1 f2 f3 f4 f5 f6 f7 f8 f9 f10 f11 f12 f13 f14 f15 f16 f17 f18 f19 f20 f21 f22 f23 f24 f25 f26 f27 f28 f29 f30 f31 f32 f33 f34:Addr}(X:K.In h)(G:h.Ns mainGlobals mg)(hfa:mg "law" = some (.ref fa))
  {od0 an0 od1 an1 od2 an2 od3 an3 od4 an4 od5 an5 od6 an6 od7 an7 od8 an8 od9 an9 od10 an10 od11 an11 od12 an12 od13 an13 od14 an14 od15 an15 od16 an16 od17 an17 od18 an18 od19 an19 od20 an20 od21 an21 od22 an22 od23 an23 od24 an24 od25 an25 od26 an26 od27 an27 od28 an28 od29 an29 od30 an30 od31 an31 od32 an32 od33 an33 od34 an34:Option Addr} {sl0 sl1 sl2 sl3 sl4 sl5 sl6 sl7 sl8 sl9 sl10 sl11 sl12 sl13 sl14 sl15 sl16 sl17 sl18 sl19 sl20 sl21 sl22 sl23 sl24 sl25 sl26 sl27 sl28 sl29 sl30 sl31 sl32 sl33 sl34:Array (Option Value)} {oc0 kV0 dc0 pm0 cd0 ct0 oc1 kV1 dc1 pm1 cd1 ct1 oc2 kV2 dc2 pm2 cd2 ct2 oc3 kV3 dc3 pm3 cd3 ct3 oc4 kV4 dc4 pm4 cd4 ct4 oc5 kV5 dc5 pm5 cd5 ct5 oc6 kV6 dc6 pm6 cd6 ct6 oc7 kV7 dc7 pm7 cd7 ct7 oc8 kV8 dc8 pm8 cd8 ct8 oc9 kV9 dc9 pm9 cd9 ct9 oc10 kV10 dc10 pm10 cd10 ct10 oc11 kV11 dc11 pm11 cd11 ct11 oc12 kV12 dc12 pm12 cd12 ct12 oc13 kV13 dc13 pm13 cd13 ct13 oc14 kV14 dc14 pm14 cd14 ct14 oc15 kV15 dc15 pm15 cd15 ct15 oc16 kV16 dc16 pm16 cd16 ct16 oc17 kV17 dc17 pm17 cd17 ct17 oc18 kV18 dc18 pm18 cd18 ct18 oc19 kV19 dc19 pm19 cd19 ct19 oc20 kV20 dc20 pm20 cd20 ct20 oc21 kV21 dc21 pm21 cd21 ct21 oc22 kV22 dc22 pm22 cd22 ct22 oc23 kV23 dc23 pm23 cd23 ct23 oc24 kV24 dc24 pm24 cd24 ct24 oc25 kV25 dc25 pm25 cd25 ct25 oc26 kV26 dc26 pm26 cd26 ct26 oc27 kV27 dc27 pm27 cd27 ct27 oc28 kV28 dc28 pm28 cd28 ct28 oc29 kV29 dc29 pm29 cd29 ct29 oc30 kV30 dc30 pm30 cd30 ct30 oc31 kV31 dc31 pm31 cd31 ct31 oc32 kV32 dc32 pm32 cd32 ct32 oc33 kV33 dc33 pm33 cd33 ct33 oc34 kV34 dc34 pm34 cd34 ct34:Value}
  (a0:PySem.W.nsIn K mainGlobals "find_none" = some (some (.ref f0))) (l0:K.lookup f0=some ⟨oc0,od0,.func (PySem.W.fnOf "find_none" "find_none" (am eH) (ah eH) (ad eH) .none kV0 dc0 pm0 an0 cd0 ct0),sl0⟩) (c0:PySem.W.codeIn K cd0 "find_none" = true) (k0:PySem.W.keepIn K (.ref f0)=true)
  (a1:PySem.W.nsIn K mainGlobals "find_whole" = some (some (.ref f1))) (l1:K.lookup f1=some ⟨oc1,od1,.func (PySem.W.fnOf "find_whole" "find_whole" (am dZ) (ah dZ) (ad dZ) .none kV1 dc1 pm1 an1 cd1 ct1),sl1⟩) (c1:PySem.W.codeIn K cd1 "find_whole" = true) (k1:PySem.W.keepIn K (.ref f1)=true)
  (a2:PySem.W.nsIn K mainGlobals "find_halves" = some (some (.ref f2))) (l2:K.lookup f2=some ⟨oc2,od2,.func (PySem.W.fnOf "find_halves" "find_halves" (am dD) (ah dD) (ad dD) .none kV2 dc2 pm2 an2 cd2 ct2),sl2⟩) (c2:PySem.W.codeIn K cd2 "find_halves" = true) (k2:PySem.W.keepIn K (.ref f2)=true)
  (a3:PySem.W.nsIn K mainGlobals "find_splits" = some (some (.ref f3))) (l3:K.lookup f3=some ⟨oc3,od3,.func (PySem.W.fnOf "find_splits" "find_splits" (am dE) (ah dE) (ad dE) .none kV3 dc3 pm3 an3 cd3 ct3),sl3⟩) (c3:PySem.W.codeIn K cd3 "find_splits" = true) (k3:PySem.W.keepIn K (.ref f3)=true)
  (a4:PySem.W.nsIn K mainGlobals "find_one" = some (some (.ref f4))) (l4:K.lookup f4=some ⟨oc4,od4,.func (PySem.W.fnOf "find_one" "find_one" (am fS) (ah fS) (ad fS) .none kV4 dc4 pm4 an4 cd4 ct4),sl4⟩) (c4:PySem.W.codeIn K cd4 "find_one" = true) (k4:PySem.W.keepIn K (.ref f4)=true)
  (a5:PySem.W.nsIn K mainGlobals "_law_numbers" = some (some (.ref f5))) (l5:K.lookup f5=some ⟨oc5,od5,.func (PySem.W.fnOf "_law_numbers" "_law_numbers" (am bt) (ah bt) (ad bt) .none kV5 dc5 pm5 an5 cd5 ct5),sl5⟩) (c5:PySem.W.codeIn K cd5 "_law_numbers" = true) (k5:PySem.W.keepIn K (.ref f5)=true)
  (a6:PySem.W.nsIn K mainGlobals "_law_many" = some (some (.ref f6))) (l6:K.lookup f6=some ⟨oc6,od6,.func (PySem.W.fnOf "_law_many" "_law_many" (am ci) (ah ci) (ad ci) .none kV6 dc6 pm6 an6 cd6 ct6),sl6⟩) (c6:PySem.W.codeIn K cd6 "_law_many" = true) (k6:PySem.W.keepIn K (.ref f6)=true)
  (a7:PySem.W.nsIn K mainGlobals "_law_cell" = some (some (.ref f7))) (l7:K.lookup f7=some ⟨oc7,od7,.func (PySem.W.fnOf "_law_cell" "_law_cell" (am cj) (ah cj) (ad cj) .none kV7 dc7 pm7 an7 cd7 ct7),sl7⟩) (c7:PySem.W.codeIn K cd7 "_law_cell" = true) (k7:PySem.W.keepIn K (.ref f7)=true)
  (a8:PySem.W.nsIn K mainGlobals "_law_joins" = some (some (.ref f8))) (l8:K.lookup f8=some ⟨oc8,od8,.func (PySem.W.fnOf "_law_joins" "_law_joins" (am b0) (ah b0) (ad b0) .none kV8 dc8 pm8 an8 cd8 ct8),sl8⟩) (c8:PySem.W.codeIn K cd8 "_law_joins" = true) (k8:PySem.W.keepIn K (.ref f8)=true)
  (a9:PySem.W.nsIn K mainGlobals "_law_deeds" = some (some (.ref f9))) (l9:K.lookup f9=some ⟨oc9,od9,.func (PySem.W.fnOf "_law_deeds" "_law_deeds" (am bU) (ah bU) (ad bU) .none kV9 dc9 pm9 an9 cd9 ct9),sl9⟩) (c9:PySem.W.codeIn K cd9 "_law_deeds" = true) (k9:PySem.W.keepIn K (.ref f9)=true)
  (a10:PySem.W.nsIn K mainGlobals "is_whole" = some (some (.ref f10))) (l10:K.lookup f10=some ⟨oc10,od10,.func (PySem.W.fnOf "is_whole" "is_whole" (am cR) (ah cR) (ad cR) .none kV10 dc10 pm10 an10 cd10 ct10),sl10⟩) (c10:PySem.W.codeIn K cd10 "is_whole" = true) (k10:PySem.W.keepIn K (.ref f10)=true)
  (a11:PySem.W.nsIn K mainGlobals "is_many" = some (some (.ref f11))) (l11:K.lookup f11=some ⟨oc11,od11,.func (PySem.W.fnOf "is_many" "is_many" (am dB) (ah dB) (ad dB) .none kV11 dc11 pm11 an11 cd11 ct11),sl11⟩) (c11:PySem.W.codeIn K cd11 "is_many" = true) (k11:PySem.W.keepIn K (.ref f11)=true)
  (a12:PySem.W.nsIn K mainGlobals "check_many" = some (some (.ref f12))) (l12:K.lookup f12=some ⟨oc12,od12,.func (PySem.W.fnOf "check_many" "check_many" (am bZ) (ah bZ) (ad bZ) .none kV12 dc12 pm12 an12 cd12 ct12),sl12⟩) (c12:PySem.W.codeIn K cd12 "check_many" = true) (k12:PySem.W.keepIn K (.ref f12)=true)
  (a13:PySem.W.nsIn K mainGlobals "is_way_of_joining" = some (some (.ref f13))) (l13:K.lookup f13=some ⟨oc13,od13,.func (PySem.W.fnOf "is_way_of_joining" "is_way_of_joining" (am aC) (ah aC) (ad aC) .none kV13 dc13 pm13 an13 cd13 ct13),sl13⟩) (c13:PySem.W.codeIn K cd13 "is_way_of_joining" = true) (k13:PySem.W.keepIn K (.ref f13)=true)
  (a14:PySem.W.nsIn K mainGlobals "check_join" = some (some (.ref f14))) (l14:K.lookup f14=some ⟨oc14,od14,.func (PySem.W.fnOf "check_join" "check_join" (am b6) (ah b6) (ad b6) .none kV14 dc14 pm14 an14 cd14 ct14),sl14⟩) (c14:PySem.W.codeIn K cd14 "check_join" = true) (k14:PySem.W.keepIn K (.ref f14)=true)
  (a15:PySem.W.nsIn K mainGlobals "is_short" = some (some (.ref f15))) (l15:K.lookup f15=some ⟨oc15,od15,.func (PySem.W.fnOf "is_short" "is_short" (am cs) (ah cs) (ad cs) .none kV15 dc15 pm15 an15 cd15 ct15),sl15⟩) (c15:PySem.W.codeIn K cd15 "is_short" = true) (k15:PySem.W.keepIn K (.ref f15)=true)
  (a16:PySem.W.nsIn K mainGlobals "check_short" = some (some (.ref f16))) (l16:K.lookup f16=some ⟨oc16,od16,.func (PySem.W.fnOf "check_short" "check_short" (am bJ) (ah bJ) (ad bJ) .none kV16 dc16 pm16 an16 cd16 ct16),sl16⟩) (c16:PySem.W.codeIn K cd16 "check_short" = true) (k16:PySem.W.keepIn K (.ref f16)=true)
  (a17:PySem.W.nsIn K mainGlobals "new_store" = some (some (.ref f17))) (l17:K.lookup f17=some ⟨oc17,od17,.func (PySem.W.fnOf "new_store" "new_store" (am cq) (ah cq) (ad cq) .none kV17 dc17 pm17 an17 cd17 ct17),sl17⟩) (c17:PySem.W.codeIn K cd17 "new_store" = true) (k17:PySem.W.keepIn K (.ref f17)=true)
  (a18:PySem.W.nsIn K mainGlobals "few" = some (some (.ref f18))) (l18:K.lookup f18=some ⟨oc18,od18,.func (PySem.W.fnOf "few" "few" (am ld) (ah ld) (ad ld) .none kV18 dc18 pm18 an18 cd18 ct18),sl18⟩) (c18:PySem.W.codeIn K cd18 "few" = true) (k18:PySem.W.keepIn K (.ref f18)=true)
  (a19:PySem.W.nsIn K mainGlobals "growth" = some (some (.ref f19))) (l19:K.lookup f19=some ⟨oc19,od19,.func (PySem.W.fnOf "growth" "growth" (am dk) (ah dk) (ad dk) .none kV19 dc19 pm19 an19 cd19 ct19),sl19⟩) (c19:PySem.W.codeIn K cd19 "growth" = true) (k19:PySem.W.keepIn K (.ref f19)=true)
  (a20:PySem.W.nsIn K mainGlobals "level_of" = some (some (.ref f20))) (l20:K.lookup f20=some ⟨oc20,od20,.func (PySem.W.fnOf "level_of" "level_of" (am cU) (ah cU) (ad cU) .none kV20 dc20 pm20 an20 cd20 ct20),sl20⟩) (c20:PySem.W.codeIn K cd20 "level_of" = true) (k20:PySem.W.keepIn K (.ref f20)=true)
  (a21:PySem.W.nsIn K mainGlobals "times_of_level" = some (some (.ref f21))) (l21:K.lookup f21=some ⟨oc21,od21,.func (PySem.W.fnOf "times_of_level" "times_of_level" (am aU) (ah aU) (ad aU) .none kV21 dc21 pm21 an21 cd21 ct21),sl21⟩) (c21:PySem.W.codeIn K cd21 "times_of_level" = true) (k21:PySem.W.keepIn K (.ref f21)=true)
  (a22:PySem.W.nsIn K mainGlobals "worth_at" = some (some (.ref f22))) (l22:K.lookup f22=some ⟨oc22,od22,.func (PySem.W.fnOf "worth_at" "worth_at" (am cS) (ah cS) (ad cS) .none kV22 dc22 pm22 an22 cd22 ct22),sl22⟩) (c22:PySem.W.codeIn K cd22 "worth_at" = true) (k22:PySem.W.keepIn K (.ref f22)=true)
  (a23:PySem.W.nsIn K mainGlobals "rank_worth" = some (some (.ref f23))) (l23:K.lookup f23=some ⟨oc23,od23,.func (PySem.W.fnOf "rank_worth" "rank_worth" (am bY) (ah bY) (ad bY) .none kV23 dc23 pm23 an23 cd23 ct23),sl23⟩) (c23:PySem.W.codeIn K cd23 "rank_worth" = true) (k23:PySem.W.keepIn K (.ref f23)=true)
  (a24:PySem.W.nsIn K mainGlobals "_law_way" = some (some (.ref f24))) (l24:K.lookup f24=some ⟨oc24,od24,.func (PySem.W.fnOf "_law_way" "_law_way" (am cT) (ah cT) (ad cT) .none kV24 dc24 pm24 an24 cd24 ct24),sl24⟩) (c24:PySem.W.codeIn K cd24 "_law_way" = true) (k24:PySem.W.keepIn K (.ref f24)=true)
  (a25:PySem.W.nsIn K mainGlobals "_law_find" = some (some (.ref f25))) (l25:K.lookup f25=some ⟨oc25,od25,.func (PySem.W.fnOf "_law_find" "_law_find" (am cn) (ah cn) (ad cn) .none kV25 dc25 pm25 an25 cd25 ct25),sl25⟩) (c25:PySem.W.codeIn K cd25 "_law_find" = true) (k25:PySem.W.keepIn K (.ref f25)=true)
  (a26:PySem.W.nsIn K mainGlobals "_law_linked" = some (some (.ref f26))) (l26:K.lookup f26=some ⟨oc26,od26,.func (PySem.W.fnOf "_law_linked" "_law_linked" (am bM) (ah bM) (ad bM) .none kV26 dc26 pm26 an26 cd26 ct26),sl26⟩) (c26:PySem.W.codeIn K cd26 "_law_linked" = true) (k26:PySem.W.keepIn K (.ref f26)=true)
  (a27:PySem.W.nsIn K mainGlobals "_law_deed" = some (some (.ref f27))) (l27:K.lookup f27=some ⟨oc27,od27,.func (PySem.W.fnOf "_law_deed" "_law_deed" (am cw) (ah cw) (ad cw) .none kV27 dc27 pm27 an27 cd27 ct27),sl27⟩) (c27:PySem.W.codeIn K cd27 "_law_deed" = true) (k27:PySem.W.keepIn K (.ref f27)=true)
  (a28:PySem.W.nsIn K mainGlobals "_law_few" = some (some (.ref f28))) (l28:K.lookup f28=some ⟨oc28,od28,.func (PySem.W.fnOf "_law_few" "_law_few" (am cV) (ah cV) (ad cV) .none kV28 dc28 pm28 an28 cd28 ct28),sl28⟩) (c28:PySem.W.codeIn K cd28 "_law_few" = true) (k28:PySem.W.keepIn K (.ref f28)=true)
  (a29:PySem.W.nsIn K mainGlobals "_law_growth" = some (some (.ref f29))) (l29:K.lookup f29=some ⟨oc29,od29,.func (PySem.W.fnOf "_law_growth" "_law_growth" (am aW) (ah aW) (ad aW) .none kV29 dc29 pm29 an29 cd29 ct29),sl29⟩) (c29:PySem.W.codeIn K cd29 "_law_growth" = true) (k29:PySem.W.keepIn K (.ref f29)=true)
  (a30:PySem.W.nsIn K mainGlobals "_law_thing_worth" = some (some (.ref f30))) (l30:K.lookup f30=some ⟨oc30,od30,.func (PySem.W.fnOf "_law_thing_worth" "_law_thing_worth" (am aI) (ah aI) (ad aI) .none kV30 dc30 pm30 an30 cd30 ct30),sl30⟩) (c30:PySem.W.codeIn K cd30 "_law_thing_worth" = true) (k30:PySem.W.keepIn K (.ref f30)=true)
  (a31:PySem.W.nsIn K mainGlobals "_law_rank_worth" = some (some (.ref f31))) (l31:K.lookup f31=some ⟨oc31,od31,.func (PySem.W.fnOf "_law_rank_worth" "_law_rank_worth" (am aP) (ah aP) (ad aP) .none kV31 dc31 pm31 an31 cd31 ct31),sl31⟩) (c31:PySem.W.codeIn K cd31 "_law_rank_worth" = true) (k31:PySem.W.keepIn K (.ref f31)=true)
  (a32:PySem.W.nsIn K mainGlobals "_law_right" = some (some (.ref f32))) (l32:K.lookup f32=some ⟨oc32,od32,.func (PySem.W.fnOf "_law_right" "_law_right" (am bV) (ah bV) (ad bV) .none kV32 dc32 pm32 an32 cd32 ct32),sl32⟩) (c32:PySem.W.codeIn K cd32 "_law_right" = true) (k32:PySem.W.keepIn K (.ref f32)=true)
  (a33:PySem.W.nsIn K mainGlobals "_law_doubled" = some (some (.ref f33))) (l33:K.lookup f33=some ⟨oc33,od33,.func (PySem.W.fnOf "_law_doubled" "_law_doubled" (am bu) (ah bu) (ad bu) .none kV33 dc33 pm33 an33 cd33 ct33),sl33⟩) (c33:PySem.W.codeIn K cd33 "_law_doubled" = true) (k33:PySem.W.keepIn K (.ref f33)=true)
  (a34:PySem.W.nsIn K mainGlobals "law" = some (some (.ref f34))) (l34:K.lookup f34=some ⟨oc34,od34,.func (PySem.W.fnOf "law" "law" (am ig) (ah ig) (ad ig) .none kV34 dc34 pm34 an34 cd34 ct34),sl34⟩) (c34:PySem.W.codeIn K cd34 "law" = true) (k34:PySem.W.keepIn K (.ref f34)=true)
  (z_abs:PySem.W.nsIn K mainGlobals "abs" = some none)
  (z_bool:PySem.W.nsIn K mainGlobals "bool" = some none)
  (z_enumerate:PySem.W.nsIn K mainGlobals "enumerate" = some none)
  (z_int:PySem.W.nsIn K mainGlobals "int" = some none)
  (z_isinstance:PySem.W.nsIn K mainGlobals "isinstance" = some none)
  (z_len:PySem.W.nsIn K mainGlobals "len" = some none)
  (z_list:PySem.W.nsIn K mainGlobals "list" = some none)
  (z_max:PySem.W.nsIn K mainGlobals "max" = some none)
  (z_min:PySem.W.nsIn K mainGlobals "min" = some none)
  (z_range:PySem.W.nsIn K mainGlobals "range" = some none)
  (z_str:PySem.W.nsIn K mainGlobals "str" = some none)
  (z_sum:PySem.W.nsIn K mainGlobals "sum" = some none)
  (z_tuple:PySem.W.nsIn K mainGlobals "tuple" = some none)
  {tk_MOST_THINGS:Tok}
  (y_MOST_THINGS:PySem.W.nsIn K mainGlobals "MOST_THINGS" = some (some (.int 40 tk_MOST_THINGS)))
  {aM:Addr} {u0 u1 u2 u3 u4:Tok} (y_tab:PySem.W.nsIn K mainGlobals "MANNERS" = some (some (.ref aM)))
  (y_lay:K.lookup aM=some ⟨.type "dict",none,.dict #[⟨PyData.keyHash w.params "none",.str "none" u0,.ref f0⟩,⟨PyData.keyHash w.params "whole",.str "whole" u1,.ref f1⟩,⟨PyData.keyHash w.params "halves",.str "halves" u2,.ref f2⟩,⟨PyData.keyHash w.params "splits",.str "splits" u3,.ref f3⟩,⟨PyData.keyHash w.params "one",.str "one" u4,.ref f4⟩] 5,#[]⟩) (y_sys:(aM==sysModules)=false)
  {aK0:Addr} {oK0:Option Addr} {nK0:Nat} {sK0:Array (Option Value)} {tK0_0 tK0_1 tK0_2 tK0_3:Tok} (yk0:PySem.W.nsIn K mainGlobals "JOINS" = some (some (.ref aK0)))
  (lk0:K.lookup aK0=some ⟨.type "tuple",oK0,.seq #[.str "size" tK0_0,.str "rank" tK0_1,.str "told" tK0_2,.str "names" tK0_3] nK0,sK0⟩)
  {aK1:Addr} {oK1:Option Addr} {nK1:Nat} {sK1:Array (Option Value)} {tK1_0 tK1_1 tK1_2 tK1_3:Tok} (yk1:PySem.W.nsIn K mainGlobals "LAST_OF_FEW" = some (some (.ref aK1)))
  (lk1:K.lookup aK1=some ⟨.type "tuple",oK1,.seq #[.int 2 tK1_0,.int 3 tK1_1,.int 7 tK1_2,.int 2047 tK1_3] nK1,sK1⟩)
  : ∃fd:FuncData,(∀(s:Shared) (u:Value),BindsTo s fd ⟨[u],[]⟩ [("_law_script",u)])/\∀base:Heap,K.In base/\base.Ns mainGlobals mg->FnOk l.prog w K mg base rf 11 fa fd ["_law_script"] (nq K):=by
 have T:Txt mg:=⟨PySem.W.mg_none_of X G z_abs,PySem.W.mg_none_of X G z_bool,PySem.W.mg_none_of X G z_enumerate,PySem.W.mg_none_of X G z_int,PySem.W.mg_none_of X G z_isinstance,PySem.W.mg_none_of X G z_len,PySem.W.mg_none_of X G z_list,PySem.W.mg_none_of X G z_max,PySem.W.mg_none_of X G z_min,PySem.W.mg_none_of X G z_range,PySem.W.mg_none_of X G z_str,PySem.W.mg_none_of X G z_sum,PySem.W.mg_none_of X G z_tuple,⟨_,PySem.W.mg_of X G y_MOST_THINGS⟩⟩
 have TM:Tabs w K mg aM [("none",f0),("whole",f1),("halves",f2),("splits",f3),("one",f4)]:=⟨PySem.W.mg_of X G y_tab,⟨y_sys,(show List.Nodup (["none","whole","halves","splits","one"]:List Str) by decide +kernel),_,_,y_lay,.cons (.cons (.cons (.cons (.cons (.nil)))))⟩⟩
 have TK:Kon w K mg:=⟨⟨aK0,PySem.W.mg_of X G yk0,t7 lk0 (.str (.str (.str (.str .nil)))) (show 4≤sizeLine by decide)⟩,⟨aK1,PySem.W.mg_of X G yk1,t7 lk1 (.int (.int (.int (.int .nil)))) (show 4≤sizeLine by decide)⟩⟩
 have F_find_none:FunD K mg "find_none" eH ["ups","x"]:=aq l0 c0 k0 (PySem.W.mg_of X G a0) fun _ _ _ _ _ _ us hl=>jS hl fun _ _=>rfl
 have F_find_whole:FunD K mg "find_whole" dZ ["ups","x"]:=aq l1 c1 k1 (PySem.W.mg_of X G a1) fun _ _ _ _ _ _ us hl=>jS hl fun _ _=>rfl
 have F_find_halves:FunD K mg "find_halves" dD ["ups","x"]:=aq l2 c2 k2 (PySem.W.mg_of X G a2) fun _ _ _ _ _ _ us hl=>jS hl fun _ _=>rfl
 have F_find_splits:FunD K mg "find_splits" dE ["ups","x"]:=aq l3 c3 k3 (PySem.W.mg_of X G a3) fun _ _ _ _ _ _ us hl=>jS hl fun _ _=>rfl
 have F_find_one:FunD K mg "find_one" fS ["ups","x"]:=aq l4 c4 k4 (PySem.W.mg_of X G a4) fun _ _ _ _ _ _ us hl=>jS hl fun _ _=>rfl
 have aj:FunD K mg "_law_numbers" bt ["_law_cell_here","_law_many_here"]:=aq l5 c5 k5 (PySem.W.mg_of X G a5) fun _ _ _ _ _ _ us hl=>jS hl fun _ _=>rfl
 have bT:FunD K mg "_law_many" ci ["_law_x"]:=aq l6 c6 k6 (PySem.W.mg_of X G a6) fun _ _ _ _ _ _ us hl=>io hl fun _=>rfl
 have ax:FunD K mg "_law_cell" cj ["_law_script","_law_k"]:=aq l7 c7 k7 (PySem.W.mg_of X G a7) fun _ _ _ _ _ _ us hl=>jS hl fun _ _=>rfl
 have bC:FunD K mg "_law_joins" b0 ["_law_script","_law_at","_law_many_here","_law_most"]:=aq l8 c8 k8 (PySem.W.mg_of X G a8) fun _ _ _ _ _ _ us hl=>JV hl fun _ _ _ _=>rfl
 have bh:FunD K mg "_law_deeds" bU ["_law_script","_law_at","_law_many_here","_law_most"]:=aq l9 c9 k9 (PySem.W.mg_of X G a9) fun _ _ _ _ _ _ us hl=>JV hl fun _ _ _ _=>rfl
 have cf:FunD K mg "is_whole" cR ["thing"]:=aq l10 c10 k10 (PySem.W.mg_of X G a10) fun _ _ _ _ _ _ us hl=>io hl fun _=>rfl
 have cA:FunD K mg "is_many" dB ["thing"]:=aq l11 c11 k11 (PySem.W.mg_of X G a11) fun _ _ _ _ _ _ us hl=>io hl fun _=>rfl
 have b7:FunD K mg "check_many" bZ ["many"]:=aq l12 c12 k12 (PySem.W.mg_of X G a12) fun _ _ _ _ _ _ us hl=>io hl fun _=>rfl
 have ay:FunD K mg "is_way_of_joining" aC ["thing"]:=aq l13 c13 k13 (PySem.W.mg_of X G a13) fun _ _ _ _ _ _ us hl=>io hl fun _=>rfl
 have bX:FunD K mg "check_join" b6 ["join"]:=aq l14 c14 k14 (PySem.W.mg_of X G a14) fun _ _ _ _ _ _ us hl=>io hl fun _=>rfl
 have cy:FunD K mg "is_short" cs ["thing"]:=aq l15 c15 k15 (PySem.W.mg_of X G a15) fun _ _ _ _ _ _ us hl=>io hl fun _=>rfl
 have bm:FunD K mg "check_short" bJ ["short"]:=aq l16 c16 k16 (PySem.W.mg_of X G a16) fun _ _ _ _ _ _ us hl=>io hl fun _=>rfl
 have bE:FunD K mg "new_store" cq ["many","join","short"]:=aq l17 c17 k17 (PySem.W.mg_of X G a17) fun _ _ _ _ _ _ us hl=>uG hl fun _ _ _=>rfl
 have gu:FunD K mg "few" ld ["number"]:=aq l18 c18 k18 (PySem.W.mg_of X G a18) fun _ _ _ _ _ _ us hl=>io hl fun _=>rfl
 have cJ:FunD K mg "growth" dk ["level","start","bound"]:=aq l19 c19 k19 (PySem.W.mg_of X G a19) fun _ _ _ _ _ _ us hl=>uG hl fun _ _ _=>rfl
 have cu:FunD K mg "level_of" cU ["mark","above"]:=aq l20 c20 k20 (PySem.W.mg_of X G a20) fun _ _ _ _ _ _ us hl=>jS hl fun _ _=>rfl
 have aK:FunD K mg "times_of_level" aU ["level","mark","above"]:=aq l21 c21 k21 (PySem.W.mg_of X G a21) fun _ _ _ _ _ _ us hl=>uG hl fun _ _ _=>rfl
 have cv:FunD K mg "worth_at" cS ["ups","marks","x"]:=aq l22 c22 k22 (PySem.W.mg_of X G a22) fun _ _ _ _ _ _ us hl=>uG hl fun _ _ _=>rfl
 have aR:FunD K mg "rank_worth" bY ["store"]:=aq l23 c23 k23 (PySem.W.mg_of X G a23) fun _ _ _ _ _ _ us hl=>io hl fun _=>rfl
 have cg:FunD K mg "_law_way" cT ["_law_ups","_law_x"]:=aq l24 c24 k24 (PySem.W.mg_of X G a24) fun _ _ _ _ _ _ us hl=>jS hl fun _ _=>rfl
 have bI:FunD K mg "_law_find" cn ["_law_ups","_law_short","_law_x"]:=aq l25 c25 k25 (PySem.W.mg_of X G a25) fun _ _ _ _ _ _ us hl=>uG hl fun _ _ _=>rfl
 have bj:FunD K mg "_law_linked" bM ["_law_join","_law_ups","_law_marks","_law_one","_law_other"]:=aq l26 c26 k26 (PySem.W.mg_of X G a26) fun _ _ _ _ _ _ us hl=>OE hl fun _ _ _ _ _=>rfl
 have bS:FunD K mg "_law_deed" cw ["_law_store","_law_deed_here"]:=aq l27 c27 k27 (PySem.W.mg_of X G a27) fun _ _ _ _ _ _ us hl=>jS hl fun _ _=>rfl
 have bn:FunD K mg "_law_few" cV ["_law_number"]:=aq l28 c28 k28 (PySem.W.mg_of X G a28) fun _ _ _ _ _ _ us hl=>io hl fun _=>rfl
 have aN:FunD K mg "_law_growth" aW ["_law_level","_law_number"]:=aq l29 c29 k29 (PySem.W.mg_of X G a29) fun _ _ _ _ _ _ us hl=>jS hl fun _ _=>rfl
 have aA:FunD K mg "_law_thing_worth" aI ["_law_ups","_law_marks","_law_x"]:=aq l30 c30 k30 (PySem.W.mg_of X G a30) fun _ _ _ _ _ _ us hl=>uG hl fun _ _ _=>rfl
 have az:FunD K mg "_law_rank_worth" aP ["_law_store"]:=aq l31 c31 k31 (PySem.W.mg_of X G a31) fun _ _ _ _ _ _ us hl=>io hl fun _=>rfl
 have F__law_right:FunD K mg "_law_right" bV ["_law_many_here","_law_row"]:=aq l32 c32 k32 (PySem.W.mg_of X G a32) fun _ _ _ _ _ _ us hl=>jS hl fun _ _=>rfl
 have aX:FunD K mg "_law_doubled" bu ["_law_x"]:=aq l33 c33 k33 (PySem.W.mg_of X G a33) fun _ _ _ _ _ _ us hl=>io hl fun _=>rfl
 have F_law:FunD K mg "law" ig ["_law_script"]:=aq l34 c34 k34 (PySem.W.mg_of X G a34) fun _ _ _ _ _ _ us hl=>io hl fun _=>rfl
 refine FunD.top (R:=fun base=>K.In base/\base.Ns mainGlobals mg) F_law hfa yR (fun vs H Q E h=>by obtain⟨a,ns,rfl,_⟩:=h;rfl) fun base hb f cdv A outer s H vs Q E hr h=>?_
 have D_is_short:=Dp.q0 (O26.pK (O26.qx _ _ _ _ _) (O26.qX (P:=l.prog) (w:=w) (base:=base) T TM cy))
 have D__law_numbers:=jP (P:=l.prog) (w:=w) (base:=base) T TK aj
 have D__law_many:=oy (P:=l.prog) (w:=w) (base:=base) T TK bT
 have D__law_cell:=oh (P:=l.prog) (w:=w) (base:=base) T TK ax
 have D__law_joins:=mB (P:=l.prog) (w:=w) (base:=base) T TK bC D__law_numbers D__law_cell
 have D__law_deeds:=mQ (P:=l.prog) (w:=w) (base:=base) T TK bh D__law_joins D__law_numbers D__law_cell
 have D_is_whole:=qk (P:=l.prog) (w:=w) (base:=base) T TK cf
 have D_is_many:=sB (P:=l.prog) (w:=w) (base:=base) T TK cA D_is_whole
 have D_check_many:=mi (P:=l.prog) (w:=w) (base:=base) T TK b7 D_is_many
 have D_is_way_of_joining:=gt (P:=l.prog) (w:=w) (base:=base) T TK ay
 have D_check_join:=mS (P:=l.prog) (w:=w) (base:=base) T TK bX D_is_way_of_joining
 have D_check_short:=lf (P:=l.prog) (w:=w) (base:=base) T TK bm D_is_short
 have D_new_store:=nV (P:=l.prog) (w:=w) (base:=base) T TK bE D_check_many D_check_join D_check_short
 have D_few:=GI (P:=l.prog) (w:=w) (base:=base) T TK gu
 have D_growth:=wf (P:=l.prog) (w:=w) (base:=base) T TK cJ
 have D_level_of:=p6 (P:=l.prog) (w:=w) (base:=base) T TK cu D_growth
 have D_times_of_level:=iX (P:=l.prog) (w:=w) (base:=base) T TK aK D_growth
 have D_worth_at:=qG (P:=l.prog) (w:=w) (base:=base) T TK cv D_few D_level_of D_times_of_level
 have D_rank_worth:=lU (P:=l.prog) (w:=w) (base:=base) T TK aR D_worth_at
 have D__law_way:=qb (P:=l.prog) (w:=w) (base:=base) T TK cg
 have D__law_find:=oX (P:=l.prog) (w:=w) (base:=base) T TK bI D__law_way
 have D__law_linked:=kY (P:=l.prog) (w:=w) (base:=base) T TK bj
 have D__law_deed:=og (P:=l.prog) (w:=w) (base:=base) T TK bS D__law_find D__law_linked
 have D__law_few:=pM (P:=l.prog) (w:=w) (base:=base) T TK bn
 have D__law_growth:=km (P:=l.prog) (w:=w) (base:=base) T TK aN
 have D__law_thing_worth:=hU (P:=l.prog) (w:=w) (base:=base) T TK aA D__law_few D__law_growth
 have D__law_rank_worth:=im (P:=l.prog) (w:=w) (base:=base) T TK az D__law_thing_worth
 have D__law_right:=mH (P:=l.prog) (w:=w) (base:=base) T TK F__law_right D_new_store D_rank_worth D__law_deed D__law_rank_worth
 have D__law_doubled:=jW (P:=l.prog) (w:=w) (base:=base) T TK aX
 exact zH T TK hr h D__law_numbers D__law_many D__law_deeds D__law_cell D__law_right D_few D__law_doubled D__law_few
end K26
def PySem.W.Fast.tw10500566307840317430 : Unit := ()
def PySem.W.Fast.tw10825687114651189864 : Unit := ()
def PySem.W.Fast.tw14589167889536780558 : Unit := ()
def PySem.W.Fast.tw4037543249018982810 : Unit := ()
def PySem.W.Fast.tw218078302428142491 : Unit := ()
def PySem.W.Fast.tw2162217538098979767 : Unit := ()
def PySem.W.Fast.tw16084186290102726241 : Unit := ()
def PySem.W.Fast.tw12390000684051908251 : Unit := ()
def PySem.W.Fast.tw4799441444889115293 : Unit := ()
def PySem.W.Fast.tw15571631268722649178 : Unit := ()
def PySem.W.Fast.tw7891446729505458250 : Unit := ()
def PySem.W.Fast.tw2785405804405601394 : Unit := ()
def PySem.W.Fast.tw11193690503232375486 : Unit := ()
open PySem PySem.W PyProof.Rows
set_option maxRecDepth 100000 in
set_option maxHeartbeats 0 in
theorem PySem.Challenge.cw_lotheads_k26_few_and_worths_by_marks_holds : PySem.Challenge.rw_lotheads_k26_few_and_worths_by_marks.Holds := by
 w_on;o_law;k_head;(case hw=>w_witness2)
 k_fill
 refine Pu.Op (k:=11) (by decide) (l:=PySem.Challenge.rw_lotheads_k26_few_and_worths_by_marks) rfl rfl (fun w h Y=>PySem.W.kIn_of Y) ?F
 case F=>
  intro w mg fa h KX G hmg
  refine' K26.G2 KX G hmg ?a0 ?l0 ?c0 ?k0 ?a1 ?l1 ?c1 ?k1 ?a2 ?l2 ?c2 ?k2 ?a3 ?l3 ?c3 ?k3 ?a4 ?l4 ?c4 ?k4 ?a5 ?l5 ?c5 ?k5 ?a6 ?l6 ?c6 ?k6 ?a7 ?l7 ?c7 ?k7 ?a8 ?l8 ?c8 ?k8 ?a9 ?l9 ?c9 ?k9 ?a10 ?l10 ?c10 ?k10 ?a11 ?l11 ?c11 ?k11 ?a12 ?l12 ?c12 ?k12 ?a13 ?l13 ?c13 ?k13 ?a14 ?l14 ?c14 ?k14 ?a15 ?l15 ?c15 ?k15 ?a16 ?l16 ?c16 ?k16 ?a17 ?l17 ?c17 ?k17 ?a18 ?l18 ?c18 ?k18 ?a19 ?l19 ?c19 ?k19 ?a20 ?l20 ?c20 ?k20 ?a21 ?l21 ?c21 ?k21 ?a22 ?l22 ?c22 ?k22 ?a23 ?l23 ?c23 ?k23 ?a24 ?l24 ?c24 ?k24 ?a25 ?l25 ?c25 ?k25 ?a26 ?l26 ?c26 ?k26 ?a27 ?l27 ?c27 ?k27 ?a28 ?l28 ?c28 ?k28 ?a29 ?l29 ?c29 ?k29 ?a30 ?l30 ?c30 ?k30 ?a31 ?l31 ?c31 ?k31 ?a32 ?l32 ?c32 ?k32 ?a33 ?l33 ?c33 ?k33 ?a34 ?l34 ?c34 ?k34 ?z_abs ?z_bool ?z_enumerate ?z_int ?z_isinstance ?z_len ?z_list ?z_max ?z_min ?z_range ?z_str ?z_sum ?z_tuple ?y_MOST_THINGS ?y_tab ?y_lay ?y_sys ?yk0 ?lk0 ?yk1 ?lk1
  (case a0=>k_is);(case l0=>k_is);(case c0=>k_is);(case k0=>k_is)
  (case a1=>k_is);(case l1=>k_is);(case c1=>k_is);(case k1=>k_is)
  (case a2=>k_is);(case l2=>k_is);(case c2=>k_is);(case k2=>k_is)
  (case a3=>k_is);(case l3=>k_is);(case c3=>k_is);(case k3=>k_is)
  (case a4=>k_is);(case l4=>k_is);(case c4=>k_is);(case k4=>k_is)
  (case a5=>k_is);(case l5=>k_is);(case c5=>k_is);(case k5=>k_is)
  (case a6=>k_is);(case l6=>k_is);(case c6=>k_is);(case k6=>k_is)
  (case a7=>k_is);(case l7=>k_is);(case c7=>k_is);(case k7=>k_is)
  (case a8=>k_is);(case l8=>k_is);(case c8=>k_is);(case k8=>k_is)
  (case a9=>k_is);(case l9=>k_is);(case c9=>k_is);(case k9=>k_is)
  (case a10=>k_is);(case l10=>k_is);(case c10=>k_is);(case k10=>k_is)
  (case a11=>k_is);(case l11=>k_is);(case c11=>k_is);(case k11=>k_is)
  (case a12=>k_is);(case l12=>k_is);(case c12=>k_is);(case k12=>k_is)
  (case a13=>k_is);(case l13=>k_is);(case c13=>k_is);(case k13=>k_is)
  (case a14=>k_is);(case l14=>k_is);(case c14=>k_is);(case k14=>k_is)
  (case a15=>k_is);(case l15=>k_is);(case c15=>k_is);(case k15=>k_is)
  (case a16=>k_is);(case l16=>k_is);(case c16=>k_is);(case k16=>k_is)
  (case a17=>k_is);(case l17=>k_is);(case c17=>k_is);(case k17=>k_is)
  (case a18=>k_is);(case l18=>k_is);(case c18=>k_is);(case k18=>k_is)
  (case a19=>k_is);(case l19=>k_is);(case c19=>k_is);(case k19=>k_is)
  (case a20=>k_is);(case l20=>k_is);(case c20=>k_is);(case k20=>k_is)
  (case a21=>k_is);(case l21=>k_is);(case c21=>k_is);(case k21=>k_is)
  (case a22=>k_is);(case l22=>k_is);(case c22=>k_is);(case k22=>k_is)
  (case a23=>k_is);(case l23=>k_is);(case c23=>k_is);(case k23=>k_is)
  (case a24=>k_is);(case l24=>k_is);(case c24=>k_is);(case k24=>k_is)
  (case a25=>k_is);(case l25=>k_is);(case c25=>k_is);(case k25=>k_is)
  (case a26=>k_is);(case l26=>k_is);(case c26=>k_is);(case k26=>k_is)
  (case a27=>k_is);(case l27=>k_is);(case c27=>k_is);(case k27=>k_is)
  (case a28=>k_is);(case l28=>k_is);(case c28=>k_is);(case k28=>k_is)
  (case a29=>k_is);(case l29=>k_is);(case c29=>k_is);(case k29=>k_is)
  (case a30=>k_is);(case l30=>k_is);(case c30=>k_is);(case k30=>k_is)
  (case a31=>k_is);(case l31=>k_is);(case c31=>k_is);(case k31=>k_is)
  (case a32=>k_is);(case l32=>k_is);(case c32=>k_is);(case k32=>k_is)
  (case a33=>k_is);(case l33=>k_is);(case c33=>k_is);(case k33=>k_is)
  (case a34=>k_is);(case l34=>k_is);(case c34=>k_is);(case k34=>k_is)
  (case z_abs=>k_is)
  (case z_bool=>k_is)
  (case z_enumerate=>k_is)
  (case z_int=>k_is)
  (case z_isinstance=>k_is)
  (case z_len=>k_is)
  (case z_list=>k_is)
  (case z_max=>k_is)
  (case z_min=>k_is)
  (case z_range=>k_is)
  (case z_str=>k_is)
  (case z_sum=>k_is)
  (case z_tuple=>k_is)
  (case y_MOST_THINGS=>k_is)
  (case y_tab=>k_is)
  (case y_lay=>k_is)
  (case y_sys=>rfl)
  (case yk0=>k_is)
  (case lk0=>k_is)
  (case yk1=>k_is)
  (case lk1=>k_is)
end
