import PyProof.Rows.All
import Wide.All
import OpenK.AllK
import Wide.FinOn
import Lean
import PyProof.EqAt
import PyProof.EqKinds
import PyProof.TupleCall
import PyProof.NeKinds
import KE.KSortTup
import PyProof.TableCode
import PySem.Challenge.RW_lotheads_k04_whole_forests_go_along
set_option Elab.async false
set_option linter.all false
set_option maxRecDepth 100000
namespace L2
open PySem PySem.Spec PyProof.Rows
noncomputable abbrev cW:=Sum Int Str
noncomputable def o3:cW->Value->Bool
 |.inl k,v=>Value.isInt k v
 |.inr x,v=>Value.isStrOf x v
noncomputable def QC (w:World):cW->Int
 |.inl k=>hashInt k
 |.inr x=>hashStr w x
theorem bJ:∀{k:cW} {v:Value},o3 k v=true->(∃i t,k=Sum.inl i/\v=Value.int i t)\/(∃x t,k=Sum.inr x/\v=Value.str x t)
 |.inl i,v,h=>by
  obtain⟨t,e⟩:=Value.isInt_shape (k:=i) (v:=v) h
  exact .inl ⟨i,t,rfl,e⟩
 |.inr x,v,h=>by
  obtain⟨t,e⟩:=Value.isStrOf_shape (x:=x) (v:=v) h
  exact .inr ⟨x,t,rfl,e⟩
theorem yb (i:Int)(t:Tok):o3 (.inl i) (.int i t)=true:=by simp[o3,Value.isInt]
theorem xm (x:Str)(t:Tok):o3 (.inr x) (.str x t)=true:=by simp[o3,Value.isStrOf]
theorem Kg (a b:Int):decide ((Sum.inl a:cW)=Sum.inl b)=(a==b):=by
 by_cases e:a=b
 ·subst e;simp
 ·have h:¬(Sum.inl a:cW)=Sum.inl b:=fun q=>e (Sum.inl.inj q)
  rw[decide_eq_false h]
  exact (beq_eq_false_iff_ne.mpr e).symm
theorem KH (a b:Str):decide ((Sum.inr a:cW)=Sum.inr b)=decide (a=b):=by
 by_cases e:a=b
 ·subst e;simp
 ·have h:¬(Sum.inr a:cW)=Sum.inr b:=fun q=>e (Sum.inr.inj q)
  rw[decide_eq_false h,decide_eq_false e]
theorem IC (a:Int)(b:Str):decide ((Sum.inl a:cW)=Sum.inr b)=false:=decide_eq_false (fun q=>nomatch q)
theorem KQ (a:Str)(b:Int):decide ((Sum.inr a:cW)=Sum.inl b)=false:=decide_eq_false (fun q=>nomatch q)
noncomputable def aL (prog:Program)(w:World):PySem.KeyKind prog w cW where
 is:=o3
 hash:=QC w
 inj:=fun v a b ha hb=>by
  rcases bJ ha with ⟨i,t,rfl,rfl⟩|⟨x,t,rfl,rfl⟩
  ·rcases bJ hb with ⟨j,u,rfl,e⟩|⟨y,u,rfl,e⟩
   ·injection e with e1 _;rw[e1]
   ·exact nomatch e
  ·rcases bJ hb with ⟨j,u,rfl,e⟩|⟨y,u,rfl,e⟩
   ·exact nomatch e
   ·injection e with e1 _;rw[e1]
 byValue:=fun k v h=>by
  rcases bJ h with ⟨i,t,rfl,rfl⟩|⟨x,t,rfl,rfl⟩<;>rfl
 pyHash:=fun hv h=>by
  rcases bJ hv with ⟨i,t,rfl,rfl⟩|⟨x,t,rfl,rfl⟩
  ·exact wpAny_pyHash_int h
  ·exact wpAny_pyHash_str h
 eqBool:=fun hu hv h=>by
  rcases bJ hu with ⟨i,t,rfl,rfl⟩|⟨x,t,rfl,rfl⟩
  ·rcases bJ hv with ⟨j,u,rfl,rfl⟩|⟨y,u,rfl,rfl⟩
   ·rw[Kg] at h;exact wpAny_eqBool_int h
   ·rw[IC] at h;exact SeqAt.EqAt.int_str i t y u _ _ _ _ h
  ·rcases bJ hv with ⟨j,u,rfl,rfl⟩|⟨y,u,rfl,rfl⟩
   ·rw[KQ] at h;exact SeqAt.EqAt.str_int x t j u _ _ _ _ h
   ·rw[KH] at h;exact wpAny_eqBool_str h
 «strs»:=fun k x t v h=>by
  rcases bJ h with ⟨i,u,rfl,e⟩|⟨y,u,rfl,e⟩
  ·exact nomatch e
  ·injection e with e1 _
   subst e1
   cases v<;>rfl
theorem sd (prog:Program)(w:World)(i:Int)(t:Tok):(aL prog w).is (.inl i) (.int i t)=true:=yb i t
theorem fE (prog:Program)(w:World)(x:Str)(t:Tok):(aL prog w).is (.inr x) (.str x t)=true:=xm x t
end L2
namespace L2
open PySem PySem.Spec PyProof.Rows
inductive V where
 |non|bl (b:Bool)|int (i:Int)|str (x:Str)|byt (b:Array UInt8)|flt (b:UInt64)|ref (a:Addr)|ty (n:String)
 deriving DecidableEq
noncomputable def RelV:V->Value->Prop
 |.non,u=>u=Value.none
 |.bl b,u=>u=Value.bool b
 |.int i,u=>∃t,u=Value.int i t
 |.str x,u=>∃t,u=Value.str x t
 |.byt b,u=>∃t,u=Value.bytes b t
 |.flt b,u=>∃t,u=Value.float b t
 |.ref a,u=>u=Value.ref a
 |.ty n,u=>u=Value.type n
noncomputable abbrev Vals:List V->List Value->Prop:=Paired RelV
theorem Vals.length {xs:List V}{us:List Value}(r:Vals xs us):xs.length=us.length:=Paired.length r
theorem Vals.get:∀{xs:List V} {us:List Value} {i:Nat} {x:V},Vals xs us->xs[i]?=some x->∃u,us[i]?=some u/\RelV x u
 |_,_,_,_,.nil,e=>by simp at e
 |_,_,0,_,.cons r _,e=>by simp at e;subst e;exact⟨_,rfl,r⟩
 |_,_,i+1,x,.cons _ t,e=>by
  obtain⟨u,h1,h2⟩:=Vals.get (i:=i) (x:=x) t (by simpa using e)
  exact⟨u,by simpa using h1,h2⟩
theorem Vals.set {x:V}{u:Value}(r:RelV x u):∀{xs:List V} {us:List Value} (i:Nat),Vals xs us->Vals (xs.set i x) (us.set i u)
 |_,_,_,.nil=>.nil
 |_,_,0,.cons _ t=>.cons r t
 |_,_,i+1,.cons q t=>.cons q (Vals.set r i t)
theorem Vals.append:∀{xs ys:List V} {us ws:List Value},Vals xs us->Vals ys ws->Vals (xs++ys) (us++ws)
 |_,_,_,_,.nil,s=>s
 |_,_,_,_,.cons r t,s=>.cons r (Vals.append t s)
theorem Vals.take:∀{xs:List V} {us:List Value} (n:Nat),Vals xs us->Vals (xs.take n) (us.take n)
 |_,_,0,_=>.nil
 |_,_,_+1,.nil=>.nil
 |_,_,n+1,.cons r t=>.cons r (Vals.take n t)
theorem Vals.drop:∀{xs:List V} {us:List Value} (n:Nat),Vals xs us->Vals (xs.drop n) (us.drop n)
 |_,_,0,r=>r
 |_,_,_+1,.nil=>.nil
 |_,_,n+1,.cons _ t=>Vals.drop n t
noncomputable def RelO:Option V->Option Value->Prop
 |some v,some u=>RelV v u
 |none,none=>True
 |_,_=>False
noncomputable def KV {κ:Type}:List (κ×V)->List (κ×Value)->Prop:=Paired fun (p:κ×V) (q:κ×Value)=>p.1=q.1/\RelV p.2 q.2
noncomputable def kV:cW->V
 |.inl i=>.int i
 |.inr x=>.str x
inductive HO where
 |lst (xs:List V)
 |tup (xs:List V)
 |dK (kvs:List (cW×V))|dT (kvs:List (List cW×V))
 |set (S:Int->Bool) (n:Nat)
 |ins (C dx:Addr) (fs:List (Str×V))
 |own (x:Addr)
 |xd (fs:List (Str×V))
 |met (f x:Addr)
 |rng (lo hi:Int)
 |frz (o:Obj) (u:HO)
 |tbl (ps:Array Value)
 |ext (φ:Heap->Prop)
noncomputable abbrev Hp:=Addr->Option HO
noncomputable def upd (H:Hp)(a:Addr)(o:HO):Hp:=fun b=>if b=a then some o else H b
theorem ah {H:Hp}{a:Addr}{o:HO}:upd H a o a=some o:=by unfold upd;rw[if_pos rfl]
theorem ai {H:Hp}{a b:Addr}{o:HO}(h:b≠a):upd H a o b=H b:=by unfold upd;rw[if_neg h]
theorem eO {H:Hp}{a b:Addr}{o:HO}(h:H a=some o)(h':H b=none):a≠b:=by
 intro e;subst e;rw[h] at h';cases h'
section
variable (P:Program)(w:World)
noncomputable def ObjOk (H:Hp)(h:Heap)(a:Addr):HO->Prop
 |.lst xs=>xs.length≤sizeLine/\∃(its:List Value) (n:Nat),Vals xs its/\h.get? a=some { cls:=.type "list",data:=.seq its.toArray n }
 |.tup xs=>xs.length≤sizeLine/\∃its:List Value,Vals xs its/\IsTup h a its.toArray
 |.dK kvs=>kvs.length≤sizeLine/\(a==sysModules)=false/\∃vs,KV kvs vs/\h.DictOf (aL P w) a vs
 |.dT kvs=>kvs.length≤sizeLine/\(a==sysModules)=false/\∃xs:List (List cW×Addr×Value),
   Paired (fun (p:List cW×V) (q:List cW×Addr×Value)=>p.1=q.1/\H q.2.1=some (.tup (p.1.map kV))/\RelV p.2 q.2.2) kvs xs ∧
   ∃o es ep,h.get? a=some o/\o.ExactDict/\o.data=.dict es ep/\es.toList=xs.map (entryOfKey (tupleKind (aL P w)))/\(xs.map (·.1)).Nodup
 |.set S n=>h.SetOf (intKind P w) a S n
 |.ins C dx fs=>H dx=some (.own a)/\fs.length≤1000/\dx≠a/\h.get? a=some (PySem.W.instObj C dx) ∧
   ∃mA,h.Ns1 dx mA/\(∀f,RelO (fs.lookup f) (mA f))/\PySem.Within mA (fs.map (·.1))
 |.own _=>∃o,h.get? a=some o
 |.xd fs=>∃mA,h.Ns1 a mA/\∀f,RelO (fs.lookup f) (mA f)
 |.rng lo hi=>∃t u v,h.get? a=some { cls:=.type "range",data:=.fields #[.int lo t,.int hi u,.int 1 v] }
 |.frz o u=>h.get? a=some o/\ObjOk H h a u
 |.tbl ps=>h.get? a=some { cls:=.none,data:=.fields ps }
 |.met f x=>h.get? a=some (PySem.W.methodObj (.ref f) (.ref x))
 |.ext φ=>φ h/\(∃o,h.get? a=some o)/\∀h1 h2:Heap,φ h1->(∀o,h1.get? a=some o->h2.get? a=some o)->φ h2
noncomputable def HOk (H:Hp)(h:Heap):Prop:=∀a o,H a=some o->ObjOk P w H h a o
end
section
variable {P:Program}{w:World}{H H':Hp}{h h':Heap}{a:Addr}{o:HO}
theorem ObjOk.lt (x:ObjOk P w H h a o):a<h.objs.size:=by
 cases o with
 |lst xs=>obtain⟨_,_,_,_,e⟩:=x;exact Heap.lt_size e
 |tup xs=>obtain⟨_,_,_,p⟩:=x;exact p.lt
 |dK kvs=>obtain⟨_,_,_,_,o,_,_,e,_⟩:=x;exact Heap.lt_size e
 |dT kvs=>obtain⟨_,_,_,_,o,_,_,e,_⟩:=x;exact Heap.lt_size e
 |set S n=>obtain⟨o,_,_,_,e,_⟩:=x;exact Heap.lt_size e
 |ins C dx fs=>obtain⟨_,_,_,e,_⟩:=x;exact Heap.lt_size e
 |own y=>obtain⟨_,e⟩:=x;exact Heap.lt_size e
 |xd fs=>obtain⟨_,⟨_,_,_,e,_⟩,_⟩:=x;exact Heap.lt_size e
 |rng lo hi=>obtain⟨_,_,_,e⟩:=x;exact Heap.lt_size e
 |frz ob u=>obtain⟨e,_⟩:=x;exact Heap.lt_size e
 |tbl ps=>exact Heap.lt_size (show h.get? a=some _ from x)
 |met f y=>exact Heap.lt_size (show h.get? a=some _ from x)
 |ext φ=>obtain⟨_,⟨_,e⟩,_⟩:=x;exact Heap.lt_size e
theorem Paired.mapP {α β:Type}{F G:α->β->Prop}:∀{l₁:List α} {l₂:List β},Paired F l₁ l₂->(∀a b,F a b->G a b)->Paired G l₁ l₂
 |_,_,.nil,_=>.nil
 |_,_,.cons r t,f=>.cons (f _ _ r) (Paired.mapP t f)
theorem ObjOk.stay (x:ObjOk P w H h a o)(k:∀b u,(b=a\/H b=some (.own a))->h.get? b=some u->h'.get? b=some u)
  (ho:∀b,H b=some (.own a)->H' b=some (.own a)) (ht:∀b xs,H b=some (.tup xs)->H' b=some (.tup xs)):ObjOk P w H' h' a o:=by
 induction o with
 |lst xs=>obtain⟨z,its,n,r,e⟩:=x;exact⟨z,its,n,r,k _ _ (.inl rfl) e⟩
 |tup xs=>obtain⟨z,its,r,ob,e,c⟩:=x;exact⟨z,its,r,ob,k _ _ (.inl rfl) e,c⟩
 |dK kvs=>obtain⟨z,y,vs,r,ob,es,ep,e,c⟩:=x;exact⟨z,y,vs,r,ob,es,ep,k _ _ (.inl rfl) e,c⟩
 |dT kvs=>
  obtain⟨z,y,xs,r,ob,es,ep,e,c⟩:=x
  exact⟨z,y,xs,Paired.mapP r fun p q z=>⟨z.1,ht _ _ z.2.1,z.2.2⟩,ob,es,ep,k _ _ (.inl rfl) e,c⟩
 |set S n=>obtain⟨ob,es,ep,t,e,c⟩:=x;exact⟨ob,es,ep,t,k _ _ (.inl rfl) e,c⟩
 |ins C dx fs=>
  obtain⟨d,z,ne,e,mA,⟨od,es,ep,e2,c⟩,r⟩:=x
  exact⟨ho _ d,z,ne,k _ _ (.inl rfl) e,mA,⟨od,es,ep,k _ _ (.inr d) e2,c⟩,r⟩
 |own y=>obtain⟨ob,e⟩:=x;exact⟨ob,k _ _ (.inl rfl) e⟩
 |xd fs=>obtain⟨mA,⟨od,es,ep,e,c⟩,r⟩:=x;exact⟨mA,⟨od,es,ep,k _ _ (.inl rfl) e,c⟩,r⟩
 |rng lo hi=>obtain⟨t,u,v,e⟩:=x;exact⟨t,u,v,k _ _ (.inl rfl) e⟩
 |frz ob u ih=>obtain⟨e,q⟩:=x;exact⟨k _ _ (.inl rfl) e,ih q⟩
 |tbl ps=>
  have e:h.get? a=some { cls:=.none,data:=.fields ps }:=x
  show h'.get? a=some { cls:=.none,data:=.fields ps }
  exact k a _ (.inl rfl) e
 |met f y=>
  have e:h.get? a=some (PySem.W.methodObj (.ref f) (.ref y)):=x
  show h'.get? a=some (PySem.W.methodObj (.ref f) (.ref y))
  exact k a _ (.inl rfl) e
 |ext φ=>obtain⟨p,⟨o,e⟩,st⟩:=x;exact⟨st _ _ p fun o q=>k _ _ (.inl rfl) q,⟨o,k _ _ (.inl rfl) e⟩,st⟩
theorem HOk.lt (x:HOk P w H h)(e:H a=some o):a<h.objs.size:=(x a o e).lt
theorem HOk.fresh (x:HOk P w H h)(e:h.objs.size≤a):H a=none:=by
 cases q:H a with
 |none=>rfl
 |some u=>exact absurd (Nat.lt_of_lt_of_le (x.lt q) e) (Nat.lt_irrefl _)
theorem HOk.kept (x:HOk P w H h)(k:∀b u,h.get? b=some u->h'.get? b=some u):HOk P w H h':=fun a o e=>
 (x a o e).stay (fun b u _ q=>k b u q) (fun _ q=>q) fun _ _ q=>q
theorem HOk.laid (x:HOk P w H h)(k:∀b u,h.get? b=some u->h'.get? b=some u)(hp:h.objs.size≤a)(new:ObjOk P w (upd H a o) h' a o):HOk P w (upd H a o) h':=fun b u e=>by
 have hn:=x.fresh hp
 by_cases hb:b=a
 ·subst hb;rw[ah] at e;cases e;exact new
 ·rw[ai hb] at e
  exact (x b u e).stay (fun c v _ q=>k c v q) (fun c q=>by rw[ai (eO q hn)];exact q) fun c xs q=>by rw[ai (eO q hn)];exact q
end
noncomputable def Rd (H:Hp)(a:Addr)(u:HO):Prop:=H a=some u\/∃o,H a=some (.frz o u)
theorem Rd.of {H:Hp}{a:Addr}{u:HO}(h:H a=some u):Rd H a u:=.inl h
theorem Rd.ok {P:Program}{w:World}{H:Hp}{h:Heap}{a:Addr}{u:HO}(r:Rd H a u)(x:HOk P w H h):ObjOk P w H h a u:=by
 rcases r with r|⟨o,r⟩
 ·exact x a u r
 ·obtain⟨_,q⟩:=x a _ r
  exact q
noncomputable def MP:Option HO->Prop
 |some (.lst _)=>True
 |some (.dK _)=>True
 |some (.dT _)=>True
 |some (.set _ _)=>True
 |some (.ins _ _ _)=>True
 |some (.ext _)=>True
 |_=>False
section
variable {P:Program}{w:World}{H:Hp}{h h':Heap}{x e:Addr}{o':HO}
theorem HOk.write (ok:HOk P w H h)(mu:MP (H x))(he:e=x\/H e=some (.own x))(k:∀b u,b≠e->h.get? b=some u->h'.get? b=some u)(heo:∃u,h'.get? e=some u)
  (new:ObjOk P w (upd H x o') h' x o'):HOk P w (upd H x o') h':=fun b u q=>by
 have nown:∀c y,H c=some (.own y)->c≠x:=fun c y r z=>by subst z;rw[r] at mu;exact mu
 have ntup:∀c xs,H c=some (.tup xs)->c≠x:=fun c xs r z=>by subst z;rw[r] at mu;exact mu
 by_cases hb:b=x
 ·subst hb;rw[ah] at q;cases q;exact new
 ·rw[ai hb] at q
  by_cases hbe:b=e
  ·have q':H b=some (.own x):=by
    rcases he with z|z
    ·exact absurd (hbe.trans z) hb
    ·rw[hbe];exact z
   rw[q] at q';cases q'
   obtain⟨v,hv⟩:=heo
   exact⟨v,by rw[hbe];exact hv⟩
  ·refine (ok b u q).stay (fun c v hc r=>k c v ?_ r) (fun c r=>by rw[ai (nown c b r)];exact r) fun c xs r=>by rw[ai (ntup c xs r)];exact r
   rcases hc with rfl|hc
   ·exact hbe
   ·rintro rfl
    rcases he with z|z
    ·exact nown c b hc z
    ·rw[hc] at z;cases z;exact hb rfl
end
structure Un (fs ex:List Addr)(H H':Hp)(h h':Heap):Prop where
 keep:∀b o,h.get? b=some o->H b=none->b∉fs->b∉ex->h'.get? b=some o
 slot:∀b o,h.get? b=some o->H b=none->b∈fs->b∉ex->∃sl,h'.get? b=some { o with slots:=sl }
 free:∀b o,h.get? b=some o->H b=none->b∉ex->H' b=none
 there:∀b o,h.get? b=some o->b∉ex->∃o',h'.get? b=some o'
 tups:∀b xs,H b=some (.tup xs)->H' b=some (.tup xs)
 frzs:∀b o u,H b=some (.frz o u)->H' b=some (.frz o u)
 tbls:∀b ps,H b=some (.tbl ps)->∃more,H' b=some (.tbl (ps++more))
section
variable {fs fs' ex ex':List Addr}{H H1 H2:Hp}{h h1 h2 h':Heap}{a x e:Addr}{o:HO}
theorem Un.any (u:Un fs ex H H1 h h1){b:Addr}{ob:Obj}(q:h.get? b=some ob)(n:H b=none)(hx:b∉ex):∃sl,h1.get? b=some { ob with slots:=sl }:=by
 by_cases hb:b∈fs
 ·exact u.slot b ob q n hb hx
 ·exact⟨ob.slots,u.keep b ob q n hb hx⟩
theorem Un.trans (a:Un fs ex H H1 h h1)(b:Un fs ex H1 H2 h1 h2):Un fs ex H H2 h h2 where
 keep:=fun c ob q n hc hx=>b.keep c ob (a.keep c ob q n hc hx) (a.free c ob q n hx) hc hx
 slot:=fun c ob q n hc hx=>by
  obtain⟨sl,e1⟩:=a.slot c ob q n hc hx
  obtain⟨sl',e2⟩:=b.slot c _ e1 (a.free c ob q n hx) hc hx
  exact⟨sl',e2⟩
 free:=fun c ob q n hx=>by
  obtain⟨o',e1⟩:=a.there c ob q hx
  exact b.free c o' e1 (a.free c ob q n hx) hx
 there:=fun c ob q hx=>by
  obtain⟨o',e1⟩:=a.there c ob q hx
  exact b.there c o' e1 hx
 tups:=fun c xs q=>b.tups c xs (a.tups c xs q)
 frzs:=fun c ob xs q=>b.frzs c ob xs (a.frzs c ob xs q)
 tbls:=fun c ps q=>by
  obtain⟨m1,e1⟩:=a.tbls c ps q
  obtain⟨m2,e2⟩:=b.tbls c _ e1
  exact⟨m1++m2,by rw[e2,Array.append_assoc]⟩
theorem Un.kept (k:∀b u,h.get? b=some u->h'.get? b=some u):Un fs ex H H h h':=
 ⟨fun b ob q _ _ _=>k b ob q,fun b ob q _ _ _=>⟨ob.slots,k b ob q⟩,fun _ _ _ n _=>n,fun b ob q _=>⟨ob,k b ob q⟩,fun _ _ q=>q,fun _ _ _ q=>q,fun _ ps q=>⟨#[],by rw[q];simp⟩⟩
theorem Un.refl:Un fs ex H H h h:=Un.kept fun _ _ q=>q
theorem Un.laid (k:∀b u,h.get? b=some u->h'.get? b=some u)(hp:h.objs.size≤a)(hn:H a=none):Un fs ex H (upd H a o) h h' where
 keep:=fun b u q _ _ _=>k b u q
 slot:=fun b u q _ _ _=>⟨u.slots,k b u q⟩
 free:=fun b u q n _=>by rw[ai (Nat.ne_of_lt (Nat.lt_of_lt_of_le (Heap.lt_size q) hp))];exact n
 there:=fun b u q _=>⟨u,k b u q⟩
 tups:=fun b xs q=>by rw[ai (eO q hn)];exact q
 frzs:=fun b u xs q=>by rw[ai (eO q hn)];exact q
 tbls:=fun b ps q=>⟨#[],by rw[ai (eO q hn),q];simp⟩
theorem Un.write (mu:MP (H x))(he:e=x\/H e=some (.own x))(k:∀b u,b≠e->h.get? b=some u->h'.get? b=some u)(heo:∃u,h'.get? e=some u):Un fs ex H (upd H x o) h h':=by
 have hx:∀b,H b=none->b≠x:=fun b n z=>by subst z;rw[n] at mu;exact mu
 have hb:∀b,H b=none->b≠e:=fun b n z=>by
  subst z
  rcases he with r|r
  ·exact hx b n r
  ·rw[n] at r;cases r
 have hm:∀b u,H b=some u->¬MP (some u)->b≠x:=fun b u q nm z=>by subst z;rw[q] at mu;exact nm mu
 refine⟨fun b u q n _ _=>k b u (hb b n) q,fun b u q n _ _=>⟨u.slots,k b u (hb b n) q⟩,fun b u q n _=>by rw[ai (hx b n)];exact n,fun b u q _=>?_,
  fun b xs q=>by rw[ai (hm b _ q fun z=>z)];exact q,fun b u xs q=>by rw[ai (hm b _ q fun z=>z)];exact q,fun b ps q=>⟨#[],by rw[ai (hm b _ q fun z=>z),q];simp⟩⟩
 by_cases hbe:b=e
 ·subst hbe;exact heo
 ·exact⟨u,k b u hbe q⟩
theorem Un.mono (u:Un fs ex H H1 h h1)(hs:∀b∈fs,b∈fs')(hx:∀b∈ex,b∈ex'):Un fs' ex' H H1 h h1:=
 ⟨fun b ob q n hb he=>u.keep b ob q n (fun z=>hb (hs b z)) fun z=>he (hx b z),fun _ _ q n _ he=>u.any q n fun z=>he (hx _ z),fun b ob q n he=>u.free b ob q n fun z=>he (hx b z),fun b ob q he=>u.there b ob q fun z=>he (hx b z),u.tups,u.frzs,u.tbls⟩
end
noncomputable def OZ (h:Heap)(H:Hp):List Addr:=(List.range h.objs.size).filter fun a=>(H a).isSome
noncomputable def qr (h:Heap)(H:Hp):Heap:=PySem.W.hideAll h (OZ h H)
theorem yg (h:Heap)(H:Hp):(qr h H).objs.size=h.objs.size:=PySem.W.hideAll_size _ _
theorem zu {h:Heap}{H:Hp}{b:Addr}{o:Obj}(e:h.get? b=some o)(n:H b=none):(qr h H).get? b=some o:=
 PySem.W.hideAll_get _ e fun hm=>by
  have q:(H b).isSome=true:=(List.mem_filter.mp hm).2
  rw[n] at q;simp at q
theorem Cq {h:Heap}{H:Hp}{b:Addr}{o:Obj}(e:(qr h H).get? b=some o):h.get? b=some o/\H b=none:=by
 have e':h.get? b=some o:=PySem.W.of_hideAll (OZ h H) e
 refine⟨e',?_⟩
 cases q:H b with
 |none=>rfl
 |some x=>
  have hm:b∈OZ h H:=List.mem_filter.mpr ⟨List.mem_range.mpr (Heap.lt_size e'),by simp[q]⟩
  have z:(qr h H).get? b=none:=PySem.W.hideAll_none (OZ h H) hm
  rw[z] at e;cases e
noncomputable def kg (g h:Heap)(L:Addr):List (Addr×Obj):=(List.range h.objs.size).filterMap fun a=>if a=L\/(g.get? a).isSome=true then none else (h.get? a).map fun o=>(a,o)
theorem iX {g h:Heap}{L a:Addr}{o:Obj}(h1:a≠L)(h2:g.get? a=none)(h3:h.get? a=some o):(a,o)∈kg g h L:=
 List.mem_filterMap.mpr ⟨a,List.mem_range.mpr (Heap.lt_size h3),by simp[h1,h2,h3]⟩
theorem m7 {g h:Heap}{L:Addr}{p:Addr×Obj}(hp:p∈kg g h L):p.1≠L/\g.get? p.1=none/\h.get? p.1=some p.2:=by
 obtain⟨b,_,e⟩:=List.mem_filterMap.mp hp
 split at e
 ·cases e
 ·rename_i hn
  cases q:h.get? b with
  |none=>rw[q] at e;simp at e
  |some u=>
   rw[q] at e
   simp only[Option.map_some,Option.some.injEq] at e
   subst e
   refine⟨fun z=>hn (.inl z),?_,q⟩
   show g.get? b=none
   cases r:g.get? b with
   |none=>rfl
   |some v=>exact (hn (.inr (by simp[r]))).elim
noncomputable def bW (g h:Heap)(L d:Addr):List (Addr×Obj):=(kg g h L).filter fun p=>decide (p.1≠d)
theorem Ba {g h:Heap}{L:Addr}:News g L h (kg g h L):=fun p hp=>let ⟨a,b,c⟩:=m7 hp;⟨c,a,b⟩
end L2
namespace L2
open PySem PySem.Spec PyProof.Rows
structure Mod (K:PySem.W.Frag)(mg:Str->Option Value)(base:Heap):Prop where
 kin:K.In base
 glob:base.Ns mainGlobals mg
 blt:∃mb,base.Ns builtinsNs mb/\∀x:Str,x ≠ "__name__"->mb x=bootBuiltins x
 nolimit:base.NoLimit
structure Cx where
 prog:Program
 w:World
 K:PySem.W.Frag
 mg:Str->Option Value
 base:Heap
 A:Around
 N:List Str
 s₀:Shared
 H₀:Hp
 env:Env
 outer:List Env
 stack:List Env
 ex:List Addr
 fn:Str->Bool
 calm:Bool
 pn:List (Addr×Obj)
 xe:Value->Shared->Prop
noncomputable def uy (l:List Env):List Addr:=l.filterMap (·.frame)
noncomputable abbrev Cx.fs (X:Cx):List Addr:=uy X.outer
noncomputable def G7 (sc:Scope)(x:Str):Prop:=sc.names.lookup x=some .local\/sc.names.lookup x=some .cell\/sc.names.lookup x=some .free
noncomputable def KS (sc:Scope)(x:Str):Prop:=sc.names.lookup x=some .local\/sc.names.lookup x=some .cell
noncomputable def Po (env:Env)(h:Heap)(m:Str->Option Value)(x:Str)(u:Value):Prop:=
 (env.kindOf x=some .local/\m x=some u)\/((env.kindOf x=some .cell\/env.kindOf x=some .free)/\∃c,env.cells.lookup x=some c/\h.IsCell c (some u))
structure Cx.Ok (X:Cx):Prop where
 mod:Mod X.K X.mg X.base
 kind:X.env.scope.kind=.function
 glob:X.env.globals=mainGlobals
 blt:X.env.builtins=builtinsNs
 above:X.s₀.heap.objs.size≤X.env.locals
 inj:∀x y c,X.env.cells.lookup x=some c->X.env.cells.lookup y=some c->x=y
 has:∀x,(X.env.kindOf x=some .cell\/X.env.kindOf x=some .free)->∃c,X.env.cells.lookup x=some c
 cab:∀x c,X.fn x=true->X.env.cells.lookup x=some c->X.s₀.heap.objs.size≤c
 hd:X.calm=true->X.A.handled=none
 frames:X.A.frames=some X.stack
 stk:X.stack=X.outer\/(X.stack=X.env::X.outer/\X.env.frame=some X.env.locals)
 exf:∀b∈X.ex,b≠X.env.locals/\∀x c,X.env.cells.lookup x=some c->c≠b
 bs:∀b o,X.base.get? b=some o->X.s₀.heap.get? b=some o/\X.H₀ b=none
 bsz:X.base.objs.size≤X.s₀.heap.objs.size
 noex:∀b o,X.base.get? b=some o->b∉X.ex
 exfs:∀b∈X.ex,b∉X.fs
 funs:X.s₀.heap.FunFrames X.base X.outer
 frf:∀b∈X.fs,X.H₀ b=none
structure Inv (X:Cx)(pins:List (Addr×Obj))(σ:List (Option V))(H:Hp)(s:Shared):Prop where
 ok:X.Ok
 os:s.os=X.s₀.os
 bare:AllBare s.gens
 base:Un X.fs X.ex X.H₀ H X.s₀.heap s.heap
 loc:∃m,s.heap.Ns X.env.locals m/\∀(i:Nat) (x:Str) (v:V),X.N[i]?=some x->σ[i]?=some (some v)->G7 X.env.scope x->∃u,RelV v u/\Po X.env s.heap m x u
 cell:∀x c,X.env.cells.lookup x=some c->∃v,s.heap.IsCell c v
 free:H X.env.locals=none
 freeC:∀x c,X.env.cells.lookup x=some c->H c=none
 pin:∀p∈X.pn++pins,s.heap.get? p.1=some p.2/\H p.1=none/\p.1≠X.env.locals/\p.1∉X.fs/\∀v,p.2.data≠.cell v
 hok:HOk X.prog X.w H s.heap
 len:σ.length=X.N.length
section
variable {X:Cx}{pins:List (Addr×Obj)}{σ:List (Option V)}{H H':Hp}{s:Shared}{h':Heap}
theorem Cx.Ok.nofr (ok:X.Ok){b:Addr}{o:Obj}(e:X.base.get? b=some o):b∉X.fs:=fun hb=>by
 have:=(ok.funs.mem hb).1
 rw[e] at this;cases this
theorem Inv.bs (I:Inv X pins σ H s):∀b o,X.base.get? b=some o->s.heap.get? b=some o/\H b=none:=fun b o e=>
 ⟨I.base.keep b o (I.ok.bs b o e).1 (I.ok.bs b o e).2 (I.ok.nofr e) (I.ok.noex b o e),I.base.free b o (I.ok.bs b o e).1 (I.ok.bs b o e).2 (I.ok.noex b o e)⟩
theorem Inv.bk (I:Inv X pins σ H s):∀b o,X.base.get? b=some o->s.heap.get? b=some o:=fun b o e=>(I.bs b o e).1
theorem Inv.mod (I:Inv X pins σ H s):Mod X.K X.mg X.base:=I.ok.mod
theorem Inv.kIn (I:Inv X pins σ H s):X.K.In s.heap:=I.ok.mod.kin.keeps I.bk
theorem Inv.nolimit (I:Inv X pins σ H s):s.heap.NoLimit:=I.ok.mod.nolimit.keeps I.bk
theorem Inv.fr (I:Inv X pins σ H s):∃m,Fr X.base X.env.locals s.heap m:=
 let ⟨m,hn,_⟩:=I.loc
 ⟨m,hn,I.bk,Nat.le_trans I.ok.bsz I.ok.above⟩
theorem Inv.lt (I:Inv X pins σ H s):X.env.locals<s.heap.objs.size:=let ⟨_,hn,_⟩:=I.loc;hn.lt
theorem Inv.sz (I:Inv X pins σ H s):X.s₀.heap.objs.size≤s.heap.objs.size:=Nat.le_trans I.ok.above (Nat.le_of_lt I.lt)
theorem Inv.nofs (I:Inv X pins σ H s){a:Addr}(h:s.heap.objs.size≤a):a∉X.fs:=fun hb=>by
 obtain⟨_,o,ho,_⟩:=I.ok.funs.mem hb
 exact absurd (Nat.lt_of_lt_of_le (Heap.lt_size ho) (Nat.le_trans I.sz h)) (Nat.lt_irrefl _)
theorem Inv.cne (I:Inv X pins σ H s):∀x c,X.env.cells.lookup x=some c->c≠X.env.locals:=fun x c e z=>by
 obtain⟨v,o,ho,hd⟩:=I.cell x c e
 obtain⟨m,⟨o',es,ep,ho',hd',_⟩,_⟩:=I.loc
 rw[z,ho'] at ho;cases ho;rw[hd'] at hd;cases hd
theorem Inv.funs (I:Inv X pins σ H s):s.heap.FunFrames X.base X.outer:=by
 have all:∀(l:List Env),(∀b∈uy l,b∈X.fs)->X.s₀.heap.FunFrames X.base l->s.heap.FunFrames X.base l:=by
  intro l
  induction l with
  |nil=>intro _ _;trivial
  |cons env r ih=>
   intro hs hl
   obtain⟨hk,⟨L,o,hf,hn,ho,hd⟩,hr⟩:=hl
   have hL:L∈X.fs:=hs L (by unfold uy;rw[List.filterMap_cons,hf];exact List.mem_cons_self)
   obtain⟨sl,e⟩:=I.base.slot L o ho (I.ok.frf L hL) hL fun z=>I.ok.exfs L z hL
   exact⟨hk,⟨L,_,hf,hn,e,hd⟩,ih (fun b hb=>hs b (by unfold uy;rw[List.filterMap_cons,hf];exact List.mem_cons_of_mem _ hb)) hr⟩
 exact all X.outer (fun _ hb=>hb) I.ok.funs
theorem Inv.stack (I:Inv X pins σ H s):s.heap.FunFrames X.base X.stack:=by
 rcases I.ok.stk with e|⟨e,hf⟩
 ·rw[e];exact I.funs
 ·rw[e]
  obtain⟨m,hn,_⟩:=I.loc
  refine .cons (by rw[I.ok.kind];decide) hf hn ?_ I.funs
  exact Heap.get?_none_of_le (Nat.le_trans I.ok.bsz I.ok.above)
theorem Inv.stkSub (I:Inv X pins σ H s):∀b∈uy X.stack,b∈X.env.locals::X.fs:=fun b hb=>by
 rcases I.ok.stk with e|⟨e,hf⟩
 ·rw[e] at hb;exact List.mem_cons_of_mem _ hb
 ·rw[e] at hb
  unfold uy at hb
  rw[List.filterMap_cons,hf] at hb
  exact hb
theorem Inv.stkFree (I:Inv X pins σ H s):∀b∈uy X.stack,H b=none:=fun b hb=>by
 rcases List.mem_cons.mp (I.stkSub b hb) with e|hb
 ·rw[e];exact I.free
 ·obtain⟨_,o,ho,_⟩:=I.ok.funs.mem hb
  exact I.base.free b o ho (I.ok.frf b hb) fun z=>I.ok.exfs b z hb
theorem Inv.step {g':Array GenState}{t':Nat}{d':Drawn}{ch:List Addr}(I:Inv X pins σ H s)
  (hch:∀b∈ch,(b∈X.ex\/X.s₀.heap.objs.size≤b)/\b≠X.env.locals/\(∀x c,X.env.cells.lookup x=some c->c≠b)/\∀p∈X.pn++pins,p.1≠b)
  (keep:∀b o,b≠X.env.locals->b∉X.fs->b∉ch->s.heap.get? b=some o->H b=none->h'.get? b=some o)
  (slot:∀b o,b≠X.env.locals->b∈X.fs->b∉ch->s.heap.get? b=some o->H b=none->∃sl,h'.get? b=some { o with slots:=sl }) (free:∀b o,b∉ch->s.heap.get? b=some o->H b=none->H' b=none)
  (there:∀b o,b∉ch->s.heap.get? b=some o->∃o',h'.get? b=some o')
  (tups:∀b xs,H b=some (.tup xs)->H' b=some (.tup xs)) (frzs:∀b o u,H b=some (.frz o u)->H' b=some (.frz o u)) (tbls:∀b ps,H b=some (.tbl ps)->∃more,H' b=some (.tbl (ps++more)))
  (ns:∀m,s.heap.Ns X.env.locals m->h'.Ns X.env.locals m) (hok:HOk X.prog X.w H' h') (hg:AllBare g') :
  Inv X pins σ H' { s with heap:=h',gens:=g',drawn:=d',toks:=t' }:=by
 have neL:∀b o,X.s₀.heap.get? b=some o->b≠X.env.locals:=fun b o e=>Nat.ne_of_lt (Nat.lt_of_lt_of_le (Heap.lt_size e) I.ok.above)
 have neC:∀b o,X.s₀.heap.get? b=some o->b∉X.ex->b∉ch:=fun b o e hx hb=>by
  rcases (hch b hb).1 with z|z
  ·exact hx z
  ·exact absurd (Nat.lt_of_lt_of_le (Heap.lt_size e) z) (Nat.lt_irrefl _)
 have cellK:∀x c,X.env.cells.lookup x=some c->∀v,s.heap.IsCell c v->h'.IsCell c v:=fun x c e v ⟨o,ho,hd⟩=>by
  have nch:c∉ch:=fun z=>(hch c z).2.2.1 x c e rfl
  by_cases hc:c∈X.fs
  ·obtain⟨sl,q⟩:=slot c o (I.cne x c e) hc nch ho (I.freeC x c e)
   exact⟨_,q,hd⟩
  ·exact⟨o,keep c o (I.cne x c e) hc nch ho (I.freeC x c e),hd⟩
 refine⟨I.ok,I.os,hg,⟨fun b o e n hb hx=>?_,fun b o e n hb hx=>?_,fun b o e n hx=>?_,fun b o e hx=>?_,fun b xs e=>tups b xs (I.base.tups b xs e),fun b o xs e=>frzs b o xs (I.base.frzs b o xs e),fun b ps e=>?_⟩,?_,fun x c e=>?_,?_,fun x c e=>?_,fun p hp=>?_,hok,I.len⟩
 ·exact keep b o (neL b o e) hb (neC b o e hx) (I.base.keep b o e n hb hx) (I.base.free b o e n hx)
 ·obtain⟨sl,e1⟩:=I.base.slot b o e n hb hx
  obtain⟨sl',e2⟩:=slot b _ (neL b o e) hb (neC b o e hx) e1 (I.base.free b o e n hx)
  exact⟨sl',e2⟩
 ·obtain⟨o',e1⟩:=I.base.there b o e hx
  exact free b o' (neC b o e hx) e1 (I.base.free b o e n hx)
 ·obtain⟨o',e1⟩:=I.base.there b o e hx
  exact there b o' (neC b o e hx) e1
 ·obtain⟨m1,e1⟩:=I.base.tbls b ps e
  obtain⟨m2,e2⟩:=tbls b _ e1
  exact⟨m1++m2,by rw[e2,Array.append_assoc]⟩
 ·obtain⟨m,hn,hl⟩:=I.loc
  refine⟨m,ns m hn,fun i x v e1 e2 e3=>?_⟩
  obtain⟨u,r,l⟩:=hl i x v e1 e2 e3
  refine⟨u,r,?_⟩
  rcases l with l|⟨k,c,e,z⟩
  ·exact .inl l
  ·exact .inr ⟨k,c,e,cellK x c e _ z⟩
 ·obtain⟨v,z⟩:=I.cell x c e
  exact⟨v,cellK x c e v z⟩
 ·obtain⟨m,⟨o,_,_,ho,_⟩,_⟩:=I.loc
  exact free _ o (fun z=>(hch _ z).2.1 rfl) ho I.free
 ·obtain⟨v,o,ho,hd⟩:=I.cell x c e
  exact free c o (fun z=>(hch c z).2.2.1 x c e rfl) ho (I.freeC x c e)
 ·obtain⟨e,n,ne,nf,d⟩:=I.pin p hp
  have nch:p.1∉ch:=fun z=>(hch p.1 z).2.2.2 p hp rfl
  exact⟨keep p.1 p.2 ne nf nch e n,free p.1 p.2 nch e n,ne,nf,d⟩
theorem Inv.un {t':Nat}(I:Inv X pins σ H s)(u:Un X.fs [] H H' s.heap h')(hok:HOk X.prog X.w H' h'):Inv X pins σ H' { s with heap:=h',toks:=t' }:=by
 obtain⟨m,⟨o,es,ep,ho,r⟩,_⟩:=id I.loc
 obtain⟨sl,hL⟩:=u.any ho I.free (by simp)
 exact I.step (g':=s.gens) (d':=s.drawn) (ch:=[]) (fun _ z=>nomatch z) (fun b o _ hb _ e n=>u.keep b o e n hb (by simp)) (fun b o _ hb _ e n=>u.slot b o e n hb (by simp)) (fun b o _ e n=>u.free b o e n (by simp)) (fun b o _ e=>u.there b o e (by simp)) u.tups u.frzs u.tbls (fun m' hm=>by
  obtain⟨o',es',ep',ho',r'⟩:=hm
  rw[ho] at ho';cases ho'
  exact⟨_,es',ep',hL,r'⟩) hok I.bare
theorem Inv.call {g':Array GenState}{t':Nat}{d':Drawn}{ch:List Addr}(I:Inv X pins σ H s)(u:Un (uy X.stack) ch H H' s.heap h')(hok:HOk X.prog X.w H' h')(hg:AllBare g')
  (hch:∀b∈ch,(b∈X.ex\/X.s₀.heap.objs.size≤b)/\b≠X.env.locals/\(∀x c,X.env.cells.lookup x=some c->c≠b)/\∀p∈X.pn++pins,p.1≠b) :
  Inv X pins σ H' { s with heap:=h',gens:=g',drawn:=d',toks:=t' }:=by
 obtain⟨m,⟨o,es,ep,ho,r⟩,_⟩:=id I.loc
 obtain⟨sl,hL⟩:=u.any ho I.free fun z=>(hch _ z).2.1 rfl
 exact I.step (ch:=ch) hch (fun b o hL hb hc e n=>u.keep b o e n (fun z=>(List.mem_cons.mp (I.stkSub b z)).elim hL hb) hc) (fun b o _ _ hc e n=>u.any e n hc) (fun b o hc e n=>u.free b o e n hc) (fun b o hc e=>u.there b o e hc) u.tups u.frzs u.tbls (fun m' hm=>by
  obtain⟨o',es',ep',ho',r'⟩:=hm
  rw[ho] at ho';cases ho'
  exact⟨_,es',ep',hL,r'⟩) hok hg
theorem Inv.turned {t':Nat}{it:Addr}(I:Inv X pins σ H s)(k:∀b o,b≠it->s.heap.get? b=some o->h'.get? b=some o)(hn:H it=none)(hL:it≠X.env.locals)
  (h1:it∈X.ex\/X.s₀.heap.objs.size≤it) (h2:∀x c,X.env.cells.lookup x=some c->c≠it) (h3:∀p∈X.pn++pins,p.1≠it):Inv X pins σ H { s with heap:=h',toks:=t' }:=by
 have nit:∀b u,H b=some u->b≠it:=fun b u e z=>by rw[z,hn] at e;cases e
 refine I.step (g':=s.gens) (d':=s.drawn) (ch:=[it]) (fun b hb=>?_) (fun b o _ _ hc e _=>k b o (fun z=>hc (by simp[z])) e) (fun b o _ _ hc e _=>⟨o.slots,k b o (fun z=>hc (by simp[z])) e⟩) (fun _ _ _ _ n=>n)
  (fun b o hc e=>⟨o,k b o (fun z=>hc (by simp[z])) e⟩) (fun _ _ e=>e) (fun _ _ _ e=>e) (fun b ps e=>⟨#[],by rw[e];simp⟩) (fun m hm=>?_) (fun b u e=>?_) I.bare
 ·have e:b=it:=by simpa using hb
  subst e
  exact⟨h1,hL,h2,h3⟩
 ·obtain⟨o,es,ep,ho,r⟩:=hm
  exact⟨o,es,ep,k _ o (Ne.symm hL) ho,r⟩
 ·refine (I.hok b u e).stay (fun c v hc q=>k c v ?_ q) (fun _ q=>q) fun _ _ q=>q
  rcases hc with z|z
  ·rw[z];exact nit b u e
  ·exact nit c _ z
theorem Inv.tok (I:Inv X pins σ H s)(t:Nat):Inv X pins σ H { s with toks:=t }:=I.un (h':=s.heap) (t':=t) Un.refl I.hok
theorem Inv.kept {t':Nat}(I:Inv X pins σ H s)(k:∀b u,s.heap.get? b=some u->h'.get? b=some u):Inv X pins σ H { s with heap:=h',toks:=t' }:=I.un (Un.kept k) (I.hok.kept k)
theorem Inv.laid {a:Addr}{o:HO}{t':Nat}(I:Inv X pins σ H s)(k:∀b u,s.heap.get? b=some u->h'.get? b=some u)(hp:s.heap.objs.size≤a)(new:ObjOk X.prog X.w (upd H a o) h' a o) :
  Inv X pins σ (upd H a o) { s with heap:=h',toks:=t' }:=I.un (Un.laid k hp (I.hok.fresh hp)) (I.hok.laid k hp new)
theorem Inv.write {x e:Addr}{o:HO}{t':Nat}(I:Inv X pins σ H s)(mu:MP (H x))(he:e=x\/H e=some (.own x))(k:∀b u,b≠e->s.heap.get? b=some u->h'.get? b=some u)(heo:∃u,h'.get? e=some u)
  (new:ObjOk X.prog X.w (upd H x o) h' x o):Inv X pins σ (upd H x o) { s with heap:=h',toks:=t' }:=I.un (Un.write mu he k heo) (I.hok.write mu he k heo new)
theorem Inv.weak {σ':List (Option V)}(I:Inv X pins σ H s)(hl:σ'.length=σ.length)(w:∀(i:Nat) v,σ'[i]?=some (some v)->σ[i]?=some (some v)):Inv X pins σ' H s:=
 ⟨I.ok,I.os,I.bare,I.base,let ⟨m,hn,hl'⟩:=I.loc;⟨m,hn,fun i x v e1 e2 e3=>hl' i x v e1 (w i v e2) e3⟩,I.cell,I.free,I.freeC,I.pin,I.hok,hl.trans I.len⟩
theorem Inv.pins_of {pins':List (Addr×Obj)}(I:Inv X pins σ H s)(h:∀p∈pins',s.heap.get? p.1=some p.2/\H p.1=none/\p.1≠X.env.locals/\p.1∉X.fs/\∀v,p.2.data≠.cell v):Inv X pins' σ H s:=
 ⟨I.ok,I.os,I.bare,I.base,I.loc,I.cell,I.free,I.freeC,fun p hp=>(List.mem_append.mp hp).elim (fun z=>I.pin p (List.mem_append_left _ z)) (h p),I.hok,I.len⟩
theorem rJ {N:List Str}(hN:N.Nodup){i j:Nat}{x:Str}(a:N[i]?=some x)(b:N[j]?=some x):i=j:=by
 obtain⟨h1,e1⟩:=List.getElem?_eq_some_iff.mp a
 obtain⟨h2,e2⟩:=List.getElem?_eq_some_iff.mp b
 exact (List.getElem_inj hN).mp (e1.trans e2.symm)
theorem oU {M:Model}{A:Around}{E:Value->Shared->Prop}{i:Nat}{x:Str}{v:V}{u:Value}{Q:Unit->Shared->Prop}(I:Inv X pins σ H s)(hN:X.N.Nodup)(hi:X.N[i]?=some x)(hx:KS X.env.scope x)(r:RelV v u)
  (h:∀s',Inv X pins (σ.set i (some v)) H s'->(∃a,Heap.SameBut a s.heap s'.heap/\(a=X.env.locals\/X.env.cells.lookup x=some a))->Q () s') (hf:X.fn x=true\/X.env.scope.names.lookup x=some .local:=by first|exact .inl rfl|exact .inr rfl|assumption):wpAny M A (storeName X.env x u) Q E s:=by
 obtain⟨m,hn,hl⟩:=id I.loc
 have hcls:(X.env.scope.kind==.class || (X.env.scope.kind==.module&&X.env.locals != X.env.globals))=false:=by rw[I.ok.kind];rfl
 have hiσ:i<σ.length:=by rw[I.len];exact (List.getElem?_eq_some_iff.mp hi).1
 have cne:=I.cne
 have tracked:∀{a:Addr} {h':Heap},(∃o,s.heap.get? a=some o/\H a=none)->Heap.SameBut a s.heap h'->HOk X.prog X.w H h':=fun {a h'} ha hs b ob e=>by
  obtain⟨_,_,hfree⟩:=ha
  refine (I.hok b ob e).stay (fun c w' hc q=>(hs.2 c ?_).trans q) (fun _ q=>q) fun _ _ q=>q
  rintro rfl
  rcases hc with rfl|hc
  ·rw[hfree] at e;cases e
  ·rw[hfree] at hc;cases hc
 rcases hx with hk|hk
 ·refine wpAny_storeName_local hk hn (fun h' hn' hs=>?_) hcls
  obtain⟨oL,_,_,hoL,_⟩:=id hn
  refine h _ ⟨I.ok,I.os,I.bare,⟨fun b o e n hb hx=>?_,fun b o e n hb hx=>?_,I.base.free,fun b o e hx=>?_,I.base.tups,I.base.frzs,I.base.tbls⟩,⟨_,hn',fun j y v' e1 e2 e3=>?_⟩,fun y c e=>?_,I.free,I.freeC,fun p hp=>?_,tracked ⟨oL,hoL,I.free⟩ hs,by simpa using I.len⟩ ⟨_,hs,.inl rfl⟩
  ·exact (hs.2 b (Nat.ne_of_lt (Nat.lt_of_lt_of_le (Heap.lt_size e) I.ok.above))).trans (I.base.keep b o e n hb hx)
  ·obtain⟨sl,e1⟩:=I.base.slot b o e n hb hx
   exact⟨sl,(hs.2 b (Nat.ne_of_lt (Nat.lt_of_lt_of_le (Heap.lt_size e) I.ok.above))).trans e1⟩
  ·obtain⟨o',e1⟩:=I.base.there b o e hx
   exact⟨o',(hs.2 b (Nat.ne_of_lt (Nat.lt_of_lt_of_le (Heap.lt_size e) I.ok.above))).trans e1⟩
  ·by_cases hj:j=i
   ·subst hj
    rw[hi] at e1;cases e1
    rw[List.getElem?_set_self hiσ] at e2
    cases e2
    exact⟨u,r,.inl ⟨hk,by simp⟩⟩
   ·rw[List.getElem?_set_ne (Ne.symm hj)] at e2
    obtain⟨u',r',q⟩:=hl j y v' e1 e2 e3
    refine⟨u',r',?_⟩
    rcases q with ⟨k,e⟩|⟨k,c,e,z⟩
    ·refine .inl ⟨k,?_⟩
     have:y≠x:=fun e=>hj (rJ hN e1 (e▸hi))
     simp[this,e]
    ·exact .inr ⟨k,c,e,z.sameBut hs (cne y c e)⟩
  ·obtain⟨w',z⟩:=I.cell y c e
   exact⟨w',z.sameBut hs (cne y c e)⟩
  ·obtain⟨e,n,ne,nf,d⟩:=I.pin p hp
   exact⟨(hs.2 p.1 ne).trans e,n,ne,nf,d⟩
 ·have hfn:X.fn x=true:=by
   rcases hf with z|z
   ·exact z
   ·rw[z] at hk;cases hk
  obtain⟨c,hc⟩:=I.ok.has x (.inl hk)
  obtain⟨w',z⟩:=I.cell x c hc
  refine wpAny_storeName_cell I.ok.kind hk hc z (fun h' hc' hs=>?_)
  obtain⟨oc,hoc,hocd⟩:=id z
  refine h { s with heap:=h' } ⟨I.ok,I.os,I.bare,⟨fun b o e n hb hx=>?_,fun b o e n hb hx=>?_,I.base.free,fun b o e hx=>?_,I.base.tups,I.base.frzs,I.base.tbls⟩,⟨m,hn.sameBut hs (Ne.symm (cne x c hc)),fun j y v' e1 e2 e3=>?_⟩,fun y c' e=>?_,I.free,I.freeC,fun p hp=>?_,tracked ⟨oc,hoc,I.freeC x c hc⟩ hs,by simpa using I.len⟩ ⟨c,hs,.inr hc⟩
  ·exact (hs.2 b (Nat.ne_of_lt (Nat.lt_of_lt_of_le (Heap.lt_size e) (I.ok.cab x c hfn hc)))).trans (I.base.keep b o e n hb hx)
  ·obtain⟨sl,e1⟩:=I.base.slot b o e n hb hx
   exact⟨sl,(hs.2 b (Nat.ne_of_lt (Nat.lt_of_lt_of_le (Heap.lt_size e) (I.ok.cab x c hfn hc)))).trans e1⟩
  ·obtain⟨o',e1⟩:=I.base.there b o e hx
   exact⟨o',(hs.2 b (Nat.ne_of_lt (Nat.lt_of_lt_of_le (Heap.lt_size e) (I.ok.cab x c hfn hc)))).trans e1⟩
  ·by_cases hj:j=i
   ·subst hj
    rw[hi] at e1;cases e1
    rw[List.getElem?_set_self hiσ] at e2
    cases e2
    exact⟨u,r,.inr ⟨.inl hk,c,hc,hc'⟩⟩
   ·rw[List.getElem?_set_ne (Ne.symm hj)] at e2
    obtain⟨u',r',q⟩:=hl j y v' e1 e2 e3
    refine⟨u',r',?_⟩
    rcases q with q|⟨k,c',e,z'⟩
    ·exact .inl q
    ·refine .inr ⟨k,c',e,z'.sameBut hs ?_⟩
     rintro rfl
     exact hj (rJ hN e1 (I.ok.inj _ _ _ e hc▸hi))
  ·by_cases hcc:c'=c
   ·subst hcc;exact⟨_,hc'⟩
   ·obtain⟨w2,z2⟩:=I.cell y c' e
    exact⟨w2,z2.sameBut hs hcc⟩
  ·obtain⟨e,n,ne,nf,d⟩:=I.pin p hp
   refine⟨(hs.2 p.1 ?_).trans e,n,ne,nf,d⟩
   intro q
   rw[q,hoc] at e
   have q':oc=p.2:=Option.some.inj e
   exact d w' (by rw[←q'];exact hocd)
theorem iV {M:Model}{A:Around}{E:Value->Shared->Prop}{i:Nat}{x:Str}{v:V}{u:Value}{Q:Unit->Shared->Prop}(I:Inv X pins σ H s)(hN:X.N.Nodup)(hi:X.N[i]?=some x)(hx:KS X.env.scope x)(r:RelV v u)
  (h:∀s',Inv X pins (σ.set i (some v)) H s'->Q () s') (hf:X.fn x=true\/X.env.scope.names.lookup x=some .local:=by first|exact .inl rfl|exact .inr rfl|assumption):wpAny M A (storeName X.env x u) Q E s:=
 oU I hN hi hx r (fun s' I' _=>h s' I') hf
theorem Inv.call' {s':Shared}{ch:List Addr}(I:Inv X pins σ H s)(ho:s'.os=s.os)(u:Un (uy X.stack) ch H H' s.heap s'.heap)(hok:HOk X.prog X.w H' s'.heap)(hg:AllBare s'.gens)
  (hch:∀b∈ch,(b∈X.ex\/X.s₀.heap.objs.size≤b)/\b≠X.env.locals/\(∀x c,X.env.cells.lookup x=some c->c≠b)/\∀p∈X.pn++pins,p.1≠b):Inv X pins σ H' s':=by
 obtain⟨h',g',d',t',o'⟩:=s'
 have e:o'=s.os:=ho
 subst e
 exact I.call (g':=g') (t':=t') (d':=d') u hok hg hch
end
noncomputable abbrev XK:=Value->Option Addr->Hp->Prop
noncomputable abbrev St:=List (Option V)
noncomputable abbrev VK:=V->Hp->Prop
noncomputable abbrev TE:=St->Hp->VK->Prop
noncomputable abbrev TT:=St->Hp->(Bool->Hp->Prop)->Prop
noncomputable abbrev TA:=St->Hp->(List V->Hp->Prop)->Prop
structure Ends where
 nx:St->Hp->Prop
 rt:VK
 bk:St->Hp->Prop:=fun _ _=>False
 ct:St->Hp->Prop:=fun _ _=>False
noncomputable abbrev TS:=Ends->St->Hp->Prop
noncomputable def EP (X:Cx)(pins:List (Addr×Obj))(σ:St)(Q:VK)(u:Value)(s':Shared):Prop:=∃v H',Inv X pins σ H' s'/\RelV v u/\Q v H'
noncomputable def TP (X:Cx)(pins:List (Addr×Obj))(σ:St)(Q:Bool->Hp->Prop)(b:Bool)(s':Shared):Prop:=∃H',Inv X pins σ H' s'/\Q b H'
noncomputable def AP (X:Cx)(pins:List (Addr×Obj))(σ:St)(Q:List V->Hp->Prop)(us:List Value)(s':Shared):Prop:=∃vs H',Inv X pins σ H' s'/\Vals vs us/\Q vs H'
noncomputable def SP (X:Cx)(pins:List (Addr×Obj))(D:Ends)(f:Flow)(s':Shared):Prop:=
 match f with
 |.next=>∃σ' H',Inv X pins σ' H' s'/\D.nx σ' H'
 |.brk=>∃σ' H',Inv X pins σ' H' s'/\D.bk σ' H'
 |.cont=>∃σ' H',Inv X pins σ' H' s'/\D.ct σ' H'
 |.ret u=>∃v σ' H',Inv X pins σ' H' s'/\RelV v u/\D.rt v H'
noncomputable def PE (X:Cx)(e:Expr)(t:TE):Prop:=
 ∀(pins:List (Addr×Obj)) (s:Shared) (σ:St) (H:Hp) (Q:VK),Inv X pins σ H s->t σ H Q->wpAny (model X.prog X.w) X.A (eval e X.env) (EP X pins σ Q) X.xe s
noncomputable def PT (X:Cx)(e:Expr)(t:TT):Prop:=
 ∀(pins:List (Addr×Obj)) (s:Shared) (σ:St) (H:Hp) (Q:Bool->Hp->Prop),Inv X pins σ H s->t σ H Q->wpAny (model X.prog X.w) X.A (isTrue e X.env (eval e X.env)) (TP X pins σ Q) X.xe s
noncomputable def PW (X:Cx)(e:Expr)(t:TT):Prop:=
 ∀(whole:Sem Value) (pins:List (Addr×Obj)) (s:Shared) (σ:St) (H:Hp) (Q:Bool->Hp->Prop),Inv X pins σ H s->t σ H Q->wpAny (model X.prog X.w) X.A (isTrue e X.env whole) (TP X pins σ Q) X.xe s
theorem PW.pt {X:Cx}{e:Expr}{t:TT}(h:PW X e t):PT X e t:=h _
noncomputable def PA (X:Cx)(es:List Expr)(t:TA):Prop:=
 ∀(pos:Pos) (pins:List (Addr×Obj)) (s:Shared) (σ:St) (H:Hp) (Q:List V->Hp->Prop),Inv X pins σ H s->t σ H Q->wpAny (model X.prog X.w) X.A (spliced (backTo pos (starEach es X.env))) (AP X pins σ Q) X.xe s
noncomputable def PS (X:Cx)(st:Stmt)(t:TS):Prop:=
 ∀(pins:List (Addr×Obj)) (s:Shared) (σ:St) (H:Hp) (D:Ends),Inv X pins σ H s->t D σ H->wpAny (model X.prog X.w) X.A (exec st X.env) (SP X pins D) X.xe s
noncomputable def PSs (X:Cx)(st:List Stmt)(t:TS):Prop:=
 ∀(pins:List (Addr×Obj)) (s:Shared) (σ:St) (H:Hp) (D:Ends),Inv X pins σ H s->t D σ H->wpAny (model X.prog X.w) X.A (execs st X.env) (SP X pins D) X.xe s
theorem bj {α:Type}{t:Sem α}{Q Q':α->Shared->Prop}{M:Model}{A:Around}{E:Value->Shared->Prop}{s:Shared}(h:wpAny M A t Q E s)(hQ:∀a s,Q a s->Q' a s):wpAny M A t Q' E s:=wpAny_mono h hQ fun _ _ x=>x
end L2
namespace L2
open PySem PySem.Spec PyProof.Rows
section
variable {X:Cx}
noncomputable def gz (i:Nat):TE:=fun σ H Q=>∃v,σ[i]?=some (some v)/\Q v H
noncomputable def tC (v:V):TE:=fun _ H Q=>Q v H
theorem uM {i:Nat}{x:Str}{pos:Pos}(hN:X.N[i]?=some x)(hv:G7 X.env.scope x)(hd:(x==("__debug__" : Str))=false:=by decide)(hcd:(x==("__classdict__" : Str))=false:=by decide):PE X (.Name x pos) (gz i):=by
 intro pins s σ H Q I h
 obtain⟨v,e,h⟩:=h
 obtain⟨m,hn,hl⟩:=I.loc
 obtain⟨u,r,l⟩:=hl i x v hN e hv
 have fin:EP X pins σ Q u s:=⟨v,H,I,r,h⟩
 rcases l with ⟨hk,hm⟩|⟨hk,c,hc,hcell⟩
 ·exact wpAny_Name (wpAny_loadName_local I.ok.kind hk hn hm fin) hd
 ·rcases hk with hk|hk
  ·exact wpAny_Name (wpAny_loadName_cell I.ok.kind hk hc hcell fin) hd
  ·exact wpAny_Name (wpAny_loadName_free I.ok.kind hk hc hcell fin hcd) hd
theorem uG {i j pos}:PE X (.Constant (.int i) j pos) (tC (.int i)):=fun _ _ _ H _ I h=>wpAny_Constant_int ⟨.int i,H,I.tok _,⟨_,rfl⟩,h⟩
theorem On {b j pos}:PE X (.Constant (.bool b) j pos) (tC (.bl b)):=fun _ _ _ H _ I h=>Constant_bool ⟨.bl b,H,I,rfl,h⟩
theorem Iy {j pos}:PE X (.Constant .none j pos) (tC .non):=fun _ _ _ H _ I h=>Constant_none ⟨.non,H,I,rfl,h⟩
theorem KU {x j pos}:PE X (.Constant (.str x) j pos) (tC (.str x)):=fun _ _ _ H _ I h=>Calls.Constant_str ⟨.str x,H,I.tok _,⟨_,rfl⟩,h⟩
noncomputable def Gl (X:Cx)(x:Str):Prop:=X.env.kindOf x=some .globalImplicit
theorem pk {E:Value->Shared->Prop}{pins:List (Addr×Obj)}{s:Shared}{σ:St}{H:Hp}{x:Str}{u:Value}{pos:Pos}{Q:Value->Shared->Prop}(I:Inv X pins σ H s)(hg:Gl X x)(hm:X.mg x=some u)(h:Q u s)
  (hd:(x==("__debug__" : Str))=false:=by decide):wpAny (model X.prog X.w) X.A (eval (.Name x pos) X.env) Q E s:=
 Calls.Name_function_global I.ok.kind hg (Calls.loadGlobal_global (by rw[I.ok.glob];exact I.mod.glob.keeps I.bk) hm h) hd
theorem jO {E:Value->Shared->Prop}{pins:List (Addr×Obj)}{s:Shared}{σ:St}{H:Hp}{x:Str}{u:Value}{pos:Pos}{Q:Value->Shared->Prop}(I:Inv X pins σ H s)(hg:Gl X x)(hm:X.mg x=none)(hv:bootBuiltins x=some u)(h:Q u s)
  (hn:x ≠ "__name__":=by decide) (hd:(x==("__debug__" : Str))=false:=by decide):wpAny (model X.prog X.w) X.A (eval (.Name x pos) X.env) Q E s:=by
 obtain⟨mb,h1,h2⟩:=I.mod.blt
 exact Calls.Name_function_global I.ok.kind hg (Calls.loadGlobal_builtin (by rw[I.ok.glob];exact I.mod.glob.keeps I.bk) hm (by rw[I.ok.blt];exact h1.keeps I.bk) ((h2 x hn).trans hv) h) hd
theorem mq {x:Str}{v:V}{u:Value}{pos:Pos}(hg:Gl X x)(hm:X.mg x=some u)(r:RelV v u)(hd:(x==("__debug__" : Str))=false:=by decide):PE X (.Name x pos) (tC v):=
 fun _ _ _ H _ I h=>pk I hg hm ⟨v,H,I,r,h⟩ hd
theorem Ch {x:Str}{v:V}{u:Value}{pos:Pos}(hg:Gl X x)(hm:X.mg x=none)(hv:bootBuiltins x=some u)(r:RelV v u)(hn:x ≠ "__name__":=by decide)(hd:(x==("__debug__" : Str))=false:=by decide):PE X (.Name x pos) (tC v):=
 fun _ _ _ H _ I h=>jO I hg hm hv ⟨v,H,I,r,h⟩ hn hd
variable {a b:Expr}{ta tb:TE}{pos:Pos}
noncomputable def tB (t:TE):TT:=fun σ H Q=>t σ H fun x H1=>∃c,x=.bl c/\Q c H1
theorem KR {e:Expr}{t:TE}(h:PE X e t)(he:∀whole,isTrue e X.env whole=(do let v ←whole;standAt e.pos;holding [v] (truthy v)):=by intro _;rfl):PT X e (tB t):=by
 intro pins s σ H Q I hw
 refine isTrue_plain (bj (h pins s σ H _ I hw) fun v s1 ⟨x,H1,I1,r1,q1⟩=>?_) (he _)
 obtain⟨d,rfl,q⟩:=q1
 cases r1
 exact wpAny_truthy_bool ⟨H1,I1,q⟩
variable {tA tB':TT}{bW:List Expr}
noncomputable def PK (t u:TT):TT:=fun σ H Q=>t σ H fun c H1=>if c=true then u σ H1 Q else Q false H1
noncomputable def R3 (t u:TT):TT:=fun σ H Q=>t σ H fun c H1=>if c=true then Q true H1 else u σ H1 Q
noncomputable def QI (t:TT):TT:=fun σ H Q=>t σ H fun c H1=>Q (!c) H1
theorem Ce (ha:PT X a tA):PW X (.BoolOp .And [a] pos) tA:=by
 intro wh pins s σ H Q I h
 refine isTrue_and (bj (ha pins s σ H Q I h) fun c s1 e=>?_)
 cases c with
 |true=>exact isTrue_and_nil e
 |false=>exact e
theorem Ki (ha:PT X a tA):PW X (.BoolOp .Or [a] pos) tA:=by
 intro wh pins s σ H Q I h
 refine isTrue_or (bj (ha pins s σ H Q I h) fun c s1 e=>?_)
 cases c with
 |false=>exact isTrue_or_nil e
 |true=>exact e
theorem Jb (ha:PT X a tA)(hb:PW X (.BoolOp .And (b::bW) pos) tB'):PW X (.BoolOp .And (a::b::bW) pos) (PK tA tB'):=by
 intro wh pins s σ H Q I h
 refine isTrue_and (bj (ha pins s σ H _ I h) fun c s1 ⟨H1,I1,q1⟩=>?_)
 cases c with
 |true=>exact hb wh pins s1 σ H1 Q I1 q1
 |false=>exact⟨H1,I1,q1⟩
theorem MC (ha:PT X a tA)(hb:PW X (.BoolOp .Or (b::bW) pos) tB'):PW X (.BoolOp .Or (a::b::bW) pos) (R3 tA tB'):=by
 intro wh pins s σ H Q I h
 refine isTrue_or (bj (ha pins s σ H _ I h) fun c s1 ⟨H1,I1,q1⟩=>?_)
 cases c with
 |true=>exact⟨H1,I1,q1⟩
 |false=>exact hb wh pins s1 σ H1 Q I1 q1
theorem Hq (ha:PT X a tA):PT X (.UnaryOp .Not a pos) (QI tA):=by
 intro pins s σ H Q I h
 exact isTrue_not (ha pins s σ H (fun c H1=>Q (!c) H1) I h)
noncomputable def MX (ta tb:TE):TE:=fun σ H Q=>ta σ H fun x H1=>∃c,x=.bl c/\if c=true then tb σ H1 Q else Q (.bl false) H1
noncomputable def Qn (ta tb:TE):TE:=fun σ H Q=>ta σ H fun x H1=>∃c,x=.bl c/\if c=true then Q (.bl true) H1 else tb σ H1 Q
noncomputable def NN (ta:TE):TE:=fun σ H Q=>ta σ H fun x H1=>∃c,x=.bl c/\Q (.bl (!c)) H1
theorem KM {op}{t:TE}(h:PE X a t):PE X (.BoolOp op [a] pos) t:=fun pins s σ H Q I hw=>BoolOp_one (h pins s σ H Q I hw)
theorem KD (ha:PE X a ta)(hb:PE X (.BoolOp .And (b::bW) pos) tb):PE X (.BoolOp .And (a::b::bW) pos) (MX ta tb):=by
 intro pins s σ H Q I h
 refine BoolOp_and (bj (ha pins s σ H _ I h) fun v s1 ⟨x,H1,I1,r1,q1⟩=>?_)
 obtain⟨c,rfl,q1⟩:=q1
 cases r1
 refine wpAny_truthy_bool ?_
 cases c with
 |true=>exact hb pins s1 σ H1 Q I1 q1
 |false=>exact⟨.bl false,H1,I1,rfl,q1⟩
theorem OP (ha:PE X a ta)(hb:PE X (.BoolOp .Or (b::bW) pos) tb):PE X (.BoolOp .Or (a::b::bW) pos) (Qn ta tb):=by
 intro pins s σ H Q I h
 refine BoolOp_or (bj (ha pins s σ H _ I h) fun v s1 ⟨x,H1,I1,r1,q1⟩=>?_)
 obtain⟨c,rfl,q1⟩:=q1
 cases r1
 refine wpAny_truthy_bool ?_
 cases c with
 |false=>exact hb pins s1 σ H1 Q I1 q1
 |true=>exact⟨.bl true,H1,I1,rfl,q1⟩
theorem J8 (ha:PE X a ta):PE X (.UnaryOp .Not a pos) (NN ta):=by
 intro pins s σ H Q I h
 refine UnaryOp_ (bj (ha pins s σ H _ I h) fun v s1 ⟨x,H1,I1,r1,q1⟩=>?_)
 obtain⟨c,rfl,q1⟩:=q1
 cases r1
 exact not_of (wpAny_truthy_bool ⟨.bl (!c),H1,I1,rfl,q1⟩)
noncomputable def RG (t:TT)(ta tb:TE):TE:=fun σ H Q=>t σ H fun c H1=>if c=true then ta σ H1 Q else tb σ H1 Q
theorem Ag {c:Expr}(hc:PT X c tA)(ha:PE X a ta)(hb:PE X b tb):PE X (.IfExp c a b pos) (RG tA ta tb):=by
 intro pins s σ H Q I h
 refine wpAny_IfExp (bj (hc pins s σ H _ I h) fun d s1 ⟨H1,I1,q1⟩=>?_)
 cases d with
 |true=>exact ha pins s1 σ H1 Q I1 q1
 |false=>exact hb pins s1 σ H1 Q I1 q1
end
end L2
namespace L2
open PySem PySem.Spec PyProof.Rows
noncomputable def SqL (K:PySem.W.Frag)(H:Hp)(a:Addr)(xs:List V):Prop:=
 Rd H a (.lst xs) ∨
  ∃(o:Obj) (its:Array Value) (n:Nat),K.lookup a=some o/\o.cls=.type "list"/\o.dict=none/\o.data=.seq its n/\its.size≤sizeLine/\Vals xs its.toList
noncomputable def SqT (K:PySem.W.Frag)(H:Hp)(a:Addr)(xs:List V):Prop:=
 Rd H a (.tup xs) ∨
  ∃(o:Obj) (its:Array Value) (n:Nat),K.lookup a=some o/\o.cls=.type "tuple"/\o.data=.seq its n/\its.size≤sizeLine/\Vals xs its.toList
noncomputable def Q8:Value->Option V
 |.none=>some .non
 |.bool b=>some (.bl b)
 |.int i _=>some (.int i)
 |.str x _=>some (.str x)
 |.bytes b _=>some (.byt b)
 |.float b _=>some (.flt b)
 |.ref a=>some (.ref a)
 |.type n=>some (.ty n)
 |_=>none
theorem RelV.abs {x:V}{u:Value}(r:RelV x u):Q8 u=some x:=by
 cases x with
 |non=>cases r;rfl
 |bl _=>cases r;rfl
 |int _=>obtain⟨t,rfl⟩:=r;rfl
 |str _=>obtain⟨t,rfl⟩:=r;rfl
 |byt _=>obtain⟨t,rfl⟩:=r;rfl
 |flt _=>obtain⟨t,rfl⟩:=r;rfl
 |ref _=>cases r;rfl
 |ty _=>cases r;rfl
theorem RelV.inj {x y:V}{u:Value}(r:RelV x u)(q:RelV y u):x=y:=Option.some.inj (r.abs.symm.trans q.abs)
theorem Vals.inj:∀{xs ys:List V} {us:List Value},Vals xs us->Vals ys us->xs=ys
 |_,_,_,.nil,.nil=>rfl
 |_,_,_,.cons r t,.cons r' t'=>by rw[r.inj r',Vals.inj t t']
section
variable {X:Cx}{pins:List (Addr×Obj)}{σ:St}{H:Hp}{s:Shared}{a:Addr}{xs ys:List V}
theorem SqL.of {K:PySem.W.Frag}(h:H a=some (.lst xs)):SqL K H a xs:=.inl (.inl h)
theorem SqT.of {K:PySem.W.Frag}(h:H a=some (.tup xs)):SqT K H a xs:=.inl (.inl h)
theorem Inv.list (I:Inv X pins σ H s)(h:SqL X.K H a xs):∃its:List Value,Vals xs its/\PlainL s.heap a its.toArray/\xs.length≤sizeLine:=by
 rcases h with h|⟨o,its,n,hk,hc,hd,hs,hz,r⟩
 ·obtain⟨z,its,n,r,e⟩:=h.ok I.hok
  exact⟨its,r,⟨_,n,e,rfl,rfl,rfl⟩,z⟩
 ·refine⟨its.toList,r,⟨o,n,I.kIn a o hk,hc,hd,by simpa using hs⟩,?_⟩
  have e:=r.length
  simp only[Array.length_toList] at e
  omega
theorem Inv.tuple (I:Inv X pins σ H s)(h:SqT X.K H a xs):∃its:List Value,Vals xs its/\IsTup s.heap a its.toArray/\xs.length≤sizeLine:=by
 rcases h with h|⟨o,its,n,hk,hc,hs,hz,r⟩
 ·obtain⟨z,its,r,p⟩:=h.ok I.hok
  exact⟨its,r,p,z⟩
 ·refine⟨its.toList,r,⟨o,I.kIn a o hk,hc,n,by simpa using hs⟩,?_⟩
  have e:=r.length
  simp only[Array.length_toList] at e
  omega
theorem Inv.list_inj (I:Inv X pins σ H s)(h:SqL X.K H a xs)(h':SqL X.K H a ys):xs=ys:=by
 obtain⟨its,r,⟨o,n,e,_,_,d⟩,_⟩:=I.list h
 obtain⟨its',r',⟨o',n',e',_,_,d'⟩,_⟩:=I.list h'
 rw[e] at e';cases e'
 rw[d] at d'
 injection d' with d1 _
 have:its=its':=by simpa using congrArg Array.toList d1
 subst this
 exact r.inj r'
theorem Inv.tuple_inj (I:Inv X pins σ H s)(h:SqT X.K H a xs)(h':SqT X.K H a ys):xs=ys:=by
 obtain⟨its,r,⟨o,e,_,n,d⟩,_⟩:=I.tuple h
 obtain⟨its',r',⟨o',e',_,n',d'⟩,_⟩:=I.tuple h'
 rw[e] at e';cases e'
 rw[d] at d'
 injection d' with d1 _
 have:its=its':=by simpa using congrArg Array.toList d1
 subst this
 exact r.inj r'
end
noncomputable abbrev Cx.wish (X:Cx)(E:Value->Shared->Prop):Cx:={ X with xe:=E }
noncomputable abbrev Cx.nox (X:Cx):Cx:=X.wish fun _ _=>False
theorem Cx.Ok.wish {X:Cx}(ok:X.Ok)(E:Value->Shared->Prop):(X.wish E).Ok:=
 ⟨ok.mod,ok.kind,ok.glob,ok.blt,ok.above,ok.inj,ok.has,ok.cab,ok.hd,ok.frames,ok.stk,ok.exf,ok.bs,ok.bsz,ok.noex,ok.exfs,ok.funs,ok.frf⟩
theorem Cx.Ok.unwish {X:Cx}{E:Value->Shared->Prop}(ok:(X.wish E).Ok):X.Ok:=
 ⟨ok.mod,ok.kind,ok.glob,ok.blt,ok.above,ok.inj,ok.has,ok.cab,ok.hd,ok.frames,ok.stk,ok.exf,ok.bs,ok.bsz,ok.noex,ok.exfs,ok.funs,ok.frf⟩
section
variable {X:Cx}{pins:List (Addr×Obj)}{σ:St}{H:Hp}{s:Shared}{E:Value->Shared->Prop}
theorem Inv.wish (I:Inv X pins σ H s)(E:Value->Shared->Prop):Inv (X.wish E) pins σ H s:=⟨I.ok.wish E,I.os,I.bare,I.base,I.loc,I.cell,I.free,I.freeC,I.pin,I.hok,I.len⟩
theorem Inv.unwish (I:Inv (X.wish E) pins σ H s):Inv X pins σ H s:=⟨I.ok.unwish,I.os,I.bare,I.base,I.loc,I.cell,I.free,I.freeC,I.pin,I.hok,I.len⟩
theorem SP.unwish {D:Ends}{f:Flow}{s':Shared}(h:SP (X.wish E) pins D f s'):SP X pins D f s':=by
 cases f with
 |next=>obtain⟨σ',H',I,q⟩:=h;exact⟨σ',H',I.unwish,q⟩
 |brk=>obtain⟨σ',H',I,q⟩:=h;exact⟨σ',H',I.unwish,q⟩
 |cont=>obtain⟨σ',H',I,q⟩:=h;exact⟨σ',H',I.unwish,q⟩
 |ret u=>obtain⟨v,σ',H',I,r,q⟩:=h;exact⟨v,σ',H',I.unwish,r,q⟩
theorem PE.nox {e:Expr}{t:TE}(h:PE X.nox e t):PE X e t:=fun pins s σ H Q I hw=>
 wpAny_mono (h pins s σ H Q (I.wish _) hw) (fun _ _ ⟨v,H',I',r,q⟩=>⟨v,H',I'.unwish,r,q⟩) fun _ _ z=>False.elim z
theorem PT.nox {e:Expr}{t:TT}(h:PT X.nox e t):PT X e t:=fun pins s σ H Q I hw=>
 wpAny_mono (h pins s σ H Q (I.wish _) hw) (fun _ _ ⟨H',I',q⟩=>⟨H',I'.unwish,q⟩) fun _ _ z=>False.elim z
theorem PSs.nox {st:List Stmt}{t:TS}(h:PSs X.nox st t):PSs X st t:=fun pins s σ H D I hw=>
 wpAny_mono (h pins s σ H D (I.wish _) hw) (fun _ _ q=>q.unwish) fun _ _ z=>False.elim z
end
section
variable {X:Cx}{st:Stmt}{bW:List Stmt}{t u:TS}{e:Expr}{te:TE}{pos:Pos}
noncomputable def yF:TS:=fun D σ H=>D.nx σ H
noncomputable def DX (t u:TS):TS:=fun D σ H=>t { D with nx:=u D } σ H
theorem Em:PSs X [] yF:=fun _ _ σ H _ I h=>wpAny_execs_nil ⟨σ,H,I,h⟩
theorem j4 (h1:PS X st t)(h2:PSs X bW u):PSs X (st::bW) (DX t u):=by
 intro pins s σ H D I h
 refine wpAny_execs_cons (bj (h1 pins s σ H { D with nx:=u D } I h) fun f s1 q=>?_)
 cases f with
 |next=>
  obtain⟨σ',H',I',q⟩:=q
  exact h2 pins s1 σ' H' D I' q
 |ret v=>exact q
 |brk=>exact q
 |cont=>exact q
theorem pH (h1:PS X st t):PSs X [st] t:=by
 intro pins s σ H D I h
 refine wpAny_execs_cons (bj (h1 pins s σ H D I h) fun f s1 q=>?_)
 cases f with
 |next=>exact wpAny_execs_nil q
 |ret v=>exact q
 |brk=>exact q
 |cont=>exact q
noncomputable def KI:TS:=fun D σ H=>D.bk σ H
noncomputable def NT:TS:=fun D σ H=>D.ct σ H
theorem Dc:PS X (.Pass pos) yF:=fun _ _ σ H _ I h=>wpAny_Pass ⟨σ,H,I,h⟩
theorem AI:PS X (.Break pos) KI:=fun _ _ σ H _ I h=>wpAny_Break ⟨σ,H,I,h⟩
theorem sB:PS X (.Continue pos) NT:=fun _ _ σ H _ I h=>wpAny_Continue ⟨σ,H,I,h⟩
theorem Inv.quiet {pins:List (Addr×Obj)}{σ:St}{H:Hp}{s:Shared}(I:Inv X pins σ H s):interactive X.env=false:=by simp[interactive,I.ok.kind]
theorem Hi {x j pos pos'}:PS X (.Expr (.Constant (.str x) j pos) pos') yF:=fun _ s σ H _ I h=>wpAny_Expr (Calls.Constant_str (show SP X _ _ .next { s with toks:=s.toks+1 } from⟨σ,H,I.tok _,h⟩)) I.quiet
noncomputable def lV (te:TE):TS:=fun D σ H=>te σ H fun _ H1=>D.nx σ H1
theorem j2 (he:PE X e te)(hs:swapsWith e none pos.line X.env=pure false:=by rfl):PS X (.Expr e pos) (lV te):=by
 intro pins s σ H D I h
 exact wpAny_Expr_any (bj (he pins s σ H _ I h) fun v s1 ⟨x,H1,I1,r1,q1⟩=>⟨σ,H1,I1,q1⟩) I.quiet hs
noncomputable def MV (te:TE):TS:=fun D σ H=>te σ H D.rt
theorem qu (he:PE X e te):PS X (.Return (some e) pos) (MV te):=by
 intro pins s σ H D I h
 exact wpAny_Return_some (bj (he pins s σ H _ I h) fun v s1 ⟨x,H1,I1,r1,q1⟩=>⟨x,σ,H1,I1,r1,q1⟩)
noncomputable def Qe (c:TT)(t u:TS):TS:=fun D σ H=>c σ H fun b H1=>if b=true then t D σ H1 else u D σ H1
theorem Mc {c:Expr}{a b:List Stmt}{tc:TT}(hc:PT X c tc)(ha:PSs X a t)(hb:PSs X b u):PS X (.If c a b pos) (Qe tc t u):=by
 intro pins s σ H D I h
 refine wpAny_If (bj (hc pins s σ H _ I h) fun d s1 ⟨H1,I1,q1⟩=>?_)
 cases d with
 |true=>exact ha pins s1 σ H1 D I1 q1
 |false=>exact hb pins s1 σ H1 D I1 q1
noncomputable def K9:TS:=fun _ _ _=>False
theorem BI:PS X st K9:=fun _ _ _ _ _ _ h=>h.elim
end
noncomputable abbrev TG:=V->St->Hp->(St->Hp->Prop)->Prop
noncomputable abbrev tX:=List V->St->Hp->(St->Hp->Prop)->Prop
noncomputable def PG (X:Cx)(target:Expr)(t:TG):Prop:=
 ∀(pins:List (Addr×Obj)) (s:Shared) (σ:St) (H:Hp) (v:V) (u:Value) (Q:St->Hp->Prop),Inv X pins σ H s->RelV v u->t v σ H Q →
  wpAny (model X.prog X.w) X.A (assign target X.env u) (fun _ s'=>∃σ' H',Inv X pins σ' H' s'/\Q σ' H') X.xe s
noncomputable def OD (X:Cx)(ts:List Expr)(t:tX):Prop:=
 ∀(pins:List (Addr×Obj)) (s:Shared) (σ:St) (H:Hp) (vs:List V) (us:List Value) (Q:St->Hp->Prop),Inv X pins σ H s->Vals vs us->t vs σ H Q →
  wpAny (model X.prog X.w) X.A (assignInOrder ((assignEach ts X.env).map (·.2)) us) (fun _ s'=>∃σ' H',Inv X pins σ' H' s'/\Q σ' H') X.xe s
noncomputable abbrev BD:=V->V->V->Hp->(Hp->Prop)->Prop
noncomputable def Hl (X:Cx)(t:BD):Prop:=
 ∀(pins:List (Addr×Obj)) (s:Shared) (σ:St) (H:Hp) (o i v:V) (ov iv u:Value) (Q:Hp->Prop),Inv X pins σ H s->RelV o ov->RelV i iv->RelV v u->t o i v H Q →
  wpAny (model X.prog X.w) X.A (setItem ov iv u) (fun _ s'=>∃H',Inv X pins σ H' s'/\Q H') X.xe s
noncomputable abbrev LL:=V->V->Hp->VK->Prop
noncomputable def LI (X:Cx)(op:Operator)(t:LL):Prop:=
 ∀(pins:List (Addr×Obj)) (s:Shared) (σ:St) (H:Hp) (x y:V) (v u:Value) (Q:VK),Inv X pins σ H s->RelV x v->RelV y u->t x y H Q →
  wpAny (model X.prog X.w) X.A (inplaceOp op v u) (EP X pins σ Q) X.xe s
section
variable {X:Cx}{pos:Pos}
noncomputable def dm (i:Nat):TG:=fun v σ H Q=>Q (σ.set i (some v)) H
theorem pJ {i:Nat}{x:Str}(hN:X.N.Nodup)(hi:X.N[i]?=some x)(hx:KS X.env.scope x)(hf:X.fn x=true\/X.env.scope.names.lookup x=some .local:=by first|exact .inl rfl|exact .inr rfl|assumption):PG X (.Name x pos) (dm i):=by
 intro pins s σ H v u Q I r h
 exact wpAny_assign_Name (iV I hN hi hx r (fun s' I'=>⟨_,H,I',h⟩) hf)
noncomputable def Fy:tX:=fun vs σ H Q=>vs=[]/\Q σ H
noncomputable def vB (t:TG)(u:tX):tX:=fun vs σ H Q=>∃v r,vs=v::r/\t v σ H fun σ' H'=>u r σ' H' Q
theorem Cu:OD X [] Fy:=by
 intro pins s σ H vs us Q I r h
 obtain⟨e,h⟩:=h
 subst e
 cases r
 exact assignInOrder_nil ⟨σ,H,I,h⟩
theorem zF {e:Expr}{es:List Expr}{t:TG}{u:tX}(h1:PG X e t)(h2:OD X es u)
  (hs:(assignEach (e::es) X.env).map (·.2)=assign e X.env::(assignEach es X.env).map (·.2):=by rfl):OD X (e::es) (vB t u):=by
 intro pins s σ H vs us Q I r h
 obtain⟨v,vr,e1,h⟩:=h
 subst e1
 cases r with
 |cons r rr=>
  rw[hs]
  refine assignInOrder_cons (bj (h1 pins s σ H _ _ _ I r h) fun _ s1 ⟨σ1,H1,I1,q1⟩=>?_)
  exact h2 pins s1 σ1 H1 _ _ Q I1 rr q1
noncomputable def FP (K:PySem.W.Frag)(n:Nat)(t:tX):TG:=fun v σ H Q=>∃a xs,v=.ref a/\SqT K H a xs/\xs.length=n/\t xs σ H Q
theorem Lz {es:List Expr}{k:Nat}{t:tX}{n:Nat}(hc:X.calm=true)(h:OD X es t)
  (hn:(assignEach es X.env).length=n:=by rfl) (hst:(assignEach es X.env).findIdx? (·.1)=none:=by rfl):PG X (.Tuple es k pos) (FP X.K n t):=by
 intro pins s σ H v u Q I r hw
 obtain⟨a,xs,e1,hq,hl,hw⟩:=hw
 subst e1
 cases r
 obtain⟨its,rv,ht,hz⟩:=I.tuple hq
 refine assign_Tuple_tuple (I.ok.hd hc) ht (by simp[hn,←hl,rv.length]) hst fun h' hx=>?_
 have I1:Inv X pins σ H { s with heap:=h' }:=I.kept (t':=s.toks) fun b o e=>hx b o (Nat.ne_of_lt (Heap.lt_size e)) e
 exact h pins _ σ H xs _ Q I1 (by simpa using rv) hw
noncomputable def Ab (to ti:TE)(t:BD):TG:=fun v σ H Q=>to σ H fun o H1=>ti σ H1 fun i H2=>t o i v H2 fun H3=>Q σ H3
theorem IN {o i:Expr}{to ti:TE}{t:BD}(ho:PE X o to)(hi:PE X i ti)(hs:Hl X t)
  (ha:∀v,assign (.Subscript o i pos) X.env v=(do
   let ov ←holding [v] (eval o X.env)
   let iv ←holding [v,ov] (eval i X.env)
   standAt pos
   holding [v,ov,iv] (setItem ov iv v)
   release [v,ov,iv] []):=by intro _;rfl):PG X (.Subscript o i pos) (Ab to ti t):=by
 intro pins s σ H v u Q I r h
 rw[ha]
 refine wpAny_bind (wpAny_holding (bj (ho pins s σ H _ I h) fun ov s1 ⟨x,H1,I1,r1,q1⟩=>?_))
 refine wpAny_bind (wpAny_holding (bj (hi pins s1 σ H1 _ I1 q1) fun iv s2 ⟨y,H2,I2,r2,q2⟩=>?_))
 refine wpAny_bind (wpAny_standAt (wpAny_bind (wpAny_holding (bj (hs pins s2 σ H2 x y v ov iv u _ I2 r1 r2 r q2) fun _ s3 ⟨H3,I3,q3⟩=>?_))))
 exact wpAny_release ⟨σ,H3,I3,q3⟩
noncomputable def ir (te:TE)(g:TG):TS:=fun D σ H=>te σ H fun x H1=>g x σ H1 D.nx
theorem zm {tg e:Expr}{te:TE}{g:TG}(he:PE X e te)(hg:PG X tg g)(hs:swapsWithSole [tg] e pos.line X.env=pure false:=by rfl)(hw:swappedStores [tg] e X.env=pure none:=by rfl)
  (h1:(assignEach [tg] X.env).map (·.2)=[assign tg X.env]:=by rfl):PS X (.Assign [tg] e pos) (ir te g):=by
 intro pins s σ H D I h
 refine wpAny_Assign_stores (bj (he pins s σ H _ I h) fun v s1 ⟨x,H1,I1,r1,q1⟩=>?_) hs hw
 rw[h1]
 exact bj (hg pins s1 σ H1 x v _ I1 r1 q1) fun _ s2 q=>q
theorem nK {i:Nat}{x:Str}{e:Expr}{te:TE}{pos':Pos}(hN:X.N.Nodup)(hi:X.N[i]?=some x)(hx:KS X.env.scope x)(he:PE X e te)(hs:swapsWith e (some (.Name x pos')) pos.line X.env=pure false:=by rfl)(hf:X.fn x=true\/X.env.scope.names.lookup x=some .local:=by first|exact .inl rfl|exact .inr rfl|assumption) :
  PS X (.Assign [.Name x pos'] e pos) (ir te (dm i)):=by
 intro pins s σ H D I h
 refine wpAny_Assign_Name (bj (he pins s σ H _ I h) fun v s1 ⟨y,H1,I1,r1,q1⟩=>?_) hs
 exact iV I1 hN hi hx r1 (fun s2 I2=>⟨_,H1,I2,q1⟩) hf
noncomputable def zI (i j:Nat)(ta:TA):TS:=fun D σ H=>ta σ H fun vs H1=>∃v w,vs=[v,w]/\D.nx ((σ.set i (some v)).set j (some w)) H1
theorem B4 {i j:Nat}{x y:Str}{a b:Expr}{ta:TA}{px py pt:Pos}{kt k2 pt2}(hc:X.calm=true)(hN:X.N.Nodup)(hi:X.N[i]?=some x)(hj:X.N[j]?=some y)(hij:i≠j)
  (hx:X.env.scope.names.lookup x=some .local) (hy:X.env.scope.names.lookup y=some .local) (ha:PA X [a,b] ta)
  (hw:swappedStores [.Tuple [.Name x px,.Name y py] kt pt] (.Tuple [a,b] k2 pt2) X.env=pure (some [x,y]))
  (hs:swapsWithSole [.Tuple [.Name x px,.Name y py] kt pt] (.Tuple [a,b] k2 pt2) pos.line X.env=pure false:=by rfl) :
  PS X (.Assign [.Tuple [.Name x px,.Name y py] kt pt] (.Tuple [a,b] k2 pt2) pos) (zI i j ta):=by
 intro pins s σ H D I h
 rw[exec_Assign_arm]
 refine wpAny_bind (wpAny_standAt ?_)
 rw[hs]
 refine wpAny_bind (wpAny_pure ?_)
 rw[if_neg (by decide)]
 refine wpAny_bind (Tuple_ (bj (ha _ pins s σ H _ I h) fun us s1 ⟨vs,H1,I1,r1,q1⟩=>?_))
 obtain⟨v,w,e1,q1⟩:=q1
 subst e1
 obtain⟨u1,u2,rfl,rv,rw'⟩:∃u1 u2,us=[u1,u2]/\RelV v u1/\RelV w u2:=by
  cases r1 with
  |cons p q=>
   cases q with
   |cons p' q'=>
    cases q'
    exact⟨_,_,rfl,p,p'⟩
 refine wpAny_newObj_type ?_ (by show 2≤sizeLine;decide)
 have I2:Inv X pins σ H1 { s1 with heap:=s1.heap.push { cls:=.type "tuple",data:=.seq [u1,u2].toArray } }:=I1.kept (t':=s1.toks) fun b o e=>Heap.get?_push_of_some _ e
 rw[hw]
 refine wpAny_bind (wpAny_pure ?_)
 show wpAny (model X.prog X.w) X.A (do rule "assign.swapped-stores";let items ←unpackItems (.ref s1.heap.objs.size) 2 none;assignInOrder [fun v=>bindName X.env y v,fun v=>bindName X.env x v] items.reverse;pure Flow.next) _ _ _
 refine wpAny_bind (wpAny_rule (wpAny_bind (unpackItems_tuple (items:=#[u1,u2]) (I.ok.hd hc) (IsTup.new s1.heap _) fun h' hx'=>?_)))
 have I3:=I2.kept (h':=h') (t':=s1.toks) fun b o e=>hx' b o (Nat.ne_of_lt (Heap.lt_size e)) e
 show wpAny _ _ (assignInOrder [fun v=>bindName X.env y v,fun v=>bindName X.env x v] [u2,u1] >>= fun _=>pure Flow.next) _ _ _
 refine wpAny_bind (assignInOrder_cons (wpAny_bindName (iV I3 hN hj (.inl hy) rw' (fun s2 I4=>?_) (.inr hy))))
 refine assignInOrder_cons (wpAny_bindName (iV I4 hN hi (.inl hx) rv (fun s3 I5=>assignInOrder_nil (wpAny_pure ?_)) (.inr hx)))
 rw[List.set_comm _ _ (Ne.symm hij)] at I5
 exact⟨_,H1,I5,q1⟩
noncomputable def Ht (i:Nat)(te:TE)(ti:LL):TS:=fun D σ H=>∃x,σ[i]?=some (some x)/\te σ H fun y H1=>ti x y H1 fun z H2=>D.nx (σ.set i (some z)) H2
theorem K7 {i:Nat}{x:Str}{e:Expr}{te:TE}{op:Operator}{ti:LL}{pos':Pos}(hN:X.N.Nodup)(hi:X.N[i]?=some x)(hx:KS X.env.scope x)(he:PE X e te)(ho:LI X op ti)(hf:X.fn x=true\/X.env.scope.names.lookup x=some .local:=by first|exact .inl rfl|exact .inr rfl|assumption) :
  PS X (.AugAssign (.Name x pos') op e pos) (Ht i te ti):=by
 intro pins s σ H D I h
 obtain⟨v,e1,h⟩:=h
 obtain⟨m,hn,hl⟩:=I.loc
 have vis:G7 X.env.scope x:=by rcases hx with k|k;exact .inl k;exact .inr (.inl k)
 obtain⟨u,r,l⟩:=hl i x v hi e1 vis
 refine wpAny_AugAssign_Name ?_
 have go:wpAny (model X.prog X.w) X.A (eval e X.env) (fun w s₂=>wpAny (model X.prog X.w) X.A (inplaceOp op u w) (fun r s₃=>wpAny (model X.prog X.w) X.A (storeName X.env x r) (fun _=>SP X pins D .next) X.xe s₃) X.xe s₂) X.xe s:=by
  refine bj (he pins s σ H _ I h) fun w s1 ⟨y,H1,I1,r1,q1⟩=>?_
  refine bj (ho pins s1 σ H1 v y u w _ I1 r r1 q1) fun z s2 ⟨zv,H2,I2,r2,q2⟩=>?_
  exact iV I2 hN hi hx r2 (fun s3 I3=>⟨_,H2,I3,q2⟩) hf
 rcases l with ⟨hk,hm⟩|⟨hk,c,hc,hcell⟩
 ·exact wpAny_loadName_local I.ok.kind hk hn hm go
 ·rcases hk with hk|hk
  ·exact wpAny_loadName_cell I.ok.kind hk hc hcell go
  ·rcases hx with k|k
   ·have:X.env.scope.names.lookup x=some .free:=hk
    rw[k] at this;cases this
   ·have:X.env.scope.names.lookup x=some .free:=hk
    rw[k] at this;cases this
noncomputable def MT (to ti te:TE)(tget:V->V->Hp->VK->Prop)(tip:LL)(tset:BD):TS:=fun D σ H=>to σ H fun o H1=>ti σ H1 fun i H2=>tget o i H2 fun x H3=>te σ H3 fun y H4=>tip x y H4 fun z H5=>tset o i z H5 fun H6=>D.nx σ H6
noncomputable def L5 (X:Cx)(t:V->V->Hp->VK->Prop):Prop:=
 ∀(pins:List (Addr×Obj)) (s:Shared) (σ:St) (H:Hp) (o i:V) (ov iv:Value) (Q:VK),Inv X pins σ H s->RelV o ov->RelV i iv->t o i H Q →
  wpAny (model X.prog X.w) X.A (getItem ov iv) (EP X pins σ Q) X.xe s
theorem En {o i e:Expr}{to ti te:TE}{tget:V->V->Hp->VK->Prop}{tip:LL}{tset:BD}{op:Operator}{tpos:Pos}(ho:PE X o to)(hi:PE X i ti)(hg:L5 X tget)(he:PE X e te)(hp:LI X op tip)(hs:Hl X tset)
  (ha:∀ov iv new,augStore i ov iv new=(do holding [new,ov,iv] (setItem ov iv new);release [new,ov,iv] [];pure .next):=by intros;rfl):PS X (.AugAssign (.Subscript o i tpos) op e pos) (MT to ti te tget tip tset):=by
 intro pins s σ H D I h
 refine wpAny_AugAssign_SubscriptAny (bj (ho pins s σ H _ I h) fun ov s1 ⟨x1,H1,I1,r1,q1⟩=>?_) ha
 refine bj (hi pins s1 σ H1 _ I1 q1) fun iv s2 ⟨x2,H2,I2,r2,q2⟩=>?_
 refine bj (hg pins s2 σ H2 x1 x2 ov iv _ I2 r1 r2 q2) fun old s3 ⟨x3,H3,I3,r3,q3⟩=>?_
 refine bj (he pins s3 σ H3 _ I3 q3) fun v s4 ⟨x4,H4,I4,r4,q4⟩=>?_
 refine bj (hp pins s4 σ H4 x3 x4 old v _ I4 r3 r4 q4) fun new s5 ⟨x5,H5,I5,r5,q5⟩=>?_
 exact bj (hs pins s5 σ H5 x1 x2 x5 ov iv new _ I5 r1 r2 r5 q5) fun _ s6 ⟨H6,I6,q6⟩=>⟨σ,H6,I6,q6⟩
noncomputable def LE (f:Int->Int->Int):LL:=fun x y H Q=>∃i j,x=.int i/\y=.int j/\Q (.int (f i j)) H
theorem Kf:LI X .Add (LE fun i j=>i+j):=by
 intro pins s σ H x y v u Q I r1 r2 h
 obtain⟨i,j,e1,e2,q⟩:=h
 subst e1;subst e2
 obtain⟨t,rfl⟩:=r1
 obtain⟨t',rfl⟩:=r2
 exact iadd_int ⟨.int _,H,I.tok _,⟨_,rfl⟩,q⟩
theorem Hr:LI X .Sub (LE fun i j=>i - j):=by
 intro pins s σ H x y v u Q I r1 r2 h
 obtain⟨i,j,e1,e2,q⟩:=h
 subst e1;subst e2
 obtain⟨t,rfl⟩:=r1
 obtain⟨t',rfl⟩:=r2
 exact isub_int ⟨.int _,H,I.tok _,⟨_,rfl⟩,q⟩
end
section
variable {X:Cx}{pos:Pos}
noncomputable def ug (c:TT)(tb:TS):TS:=fun D σ H=>∃W:Nat->St->Hp->Prop,(∃m,W m σ H)/\∀m σ H,W m σ H →
 c σ H fun b H1=>if b=true then ∃N:St->Hp->Prop,(∀σ' H',N σ' H'->∃m',m'<m/\W m' σ' H')/\tb { D with nx:=N,ct:=N,bk:=D.nx } σ H1 else D.nx σ H1
theorem A5 {c:Expr}{body:List Stmt}{tc:TT}{tb:TS}(hp:PassesOwn (model X.prog X.w) X.A X.env X.xe)(hc:PT X c tc)(hb:PSs X body tb):PS X (.While c body [] pos) (ug tc tb):=by
 intro pins s σ H D I h
 obtain⟨W,⟨m0,w0⟩,turn⟩:=h
 refine wpAny_While (codeAny_whileLoop (fun n s'=>∃σ' H',Inv X pins σ' H' s'/\W n σ' H') ?_ m0 ⟨σ,H,I,w0⟩)
 rintro n s1 ⟨σ1,H1,I1,w1⟩
 refine wpAny_passesOwn hp (bj (hc pins s1 σ1 H1 _ I1 (turn n σ1 H1 w1)) fun b s2 ⟨H2,I2,q2⟩=>?_)
 cases b with
 |true=>
  obtain⟨N,hN,q2⟩:=q2
  rw[if_pos rfl]
  refine wpAny_passesOwn hp (bj (hb pins s2 σ1 H2 _ I2 q2) fun f s3 q3=>?_)
  cases f with
  |next=>
   obtain⟨σ3,H3,I3,n3⟩:=q3
   obtain⟨m',hm,w3⟩:=hN σ3 H3 n3
   exact⟨m',hm,σ3,H3,I3,w3⟩
  |cont=>
   obtain⟨σ3,H3,I3,n3⟩:=q3
   obtain⟨m',hm,w3⟩:=hN σ3 H3 n3
   exact⟨m',hm,σ3,H3,I3,w3⟩
  |brk=>exact q3
  |ret v=>exact q3
 |false=>
  rw[if_neg Bool.false_ne_true]
  exact wpAny_execs_nil ⟨σ1,H2,I2,q2⟩
end
structure It where
 go:Nat->Hp->Prop
 yld:Nat->Hp->V->Hp->Prop
 stop:Nat->Hp->Prop
noncomputable def kf (X:Cx)(pins:List (Addr×Obj))(H:Hp)(b:Addr):Prop:=
 H b=none/\b≠X.env.locals/\b∉X.fs/\(b∈X.ex\/X.s₀.heap.objs.size≤b)/\(∀x c,X.env.cells.lookup x=some c->c≠b)/\∀p∈X.pn++pins,p.1≠b
theorem Inv.fpOk {X:Cx}{pins:List (Addr×Obj)}{σ:St}{H H':Hp}{s:Shared}{b:Addr}(I:Inv X pins σ H s)(hb:s.heap.objs.size≤b)(hn:H' b=none):kf X pins H' b:=by
 refine⟨hn,Nat.ne_of_gt (Nat.lt_of_lt_of_le I.lt hb),I.nofs hb,.inr (Nat.le_trans I.sz hb),fun x c e z=>?_,fun p hp z=>?_⟩
 ·obtain⟨v,q⟩:=I.cell x c e
  exact absurd (Nat.lt_of_lt_of_le q.lt (by rw[z];exact hb)) (Nat.lt_irrefl _)
 ·exact absurd (Nat.lt_of_lt_of_le (Heap.lt_size (I.pin p hp).1) (by rw[z];exact hb)) (Nat.lt_irrefl _)
structure Turn (P:Program)(w:World)(K:PySem.W.Frag)(tg:Expr)(J:It)(fp:List Addr)(it:Addr)(tn:Nat->Heap->Prop):Prop where
 mem:it∈fp
 obj:∀i h,tn i h->∀b∈fp,∃o,h.get? b=some o/\∀v,o.data≠.cell v
 keep:∀i h h',tn i h->(∀b∈fp,∀o,h.get? b=some o->h'.get? b=some o)->tn i h'
 item:∀(X:Cx),X.prog=P->X.w=w->X.K=K->X.calm=true->∀(i:Nat) (pins:List (Addr×Obj)) (s:Shared) (σ:St) (H:Hp) (E:Value->Shared->Prop),Inv X pins σ H s->(∀b∈fp,kf X pins H b)->tn i s.heap->J.go i H →
  wpAny (model P w) X.A (pyNext (.ref it)) (fun r s1=>∃u,r=some u ∧
   wpAny (model P w) X.A (letOwnedTupleGo tg (.ref it) u) (fun _ s2=>∃x H',Inv X pins σ H' s2/\RelV x u/\J.yld i H x H'/\tn (i+1) s2.heap/\∀b∈fp,H' b=none) E s1) E s
 done:∀(X:Cx),X.prog=P->X.w=w->X.K=K->X.calm=true->∀(i:Nat) (pins:List (Addr×Obj)) (s:Shared) (σ:St) (H:Hp) (E:Value->Shared->Prop),Inv X pins σ H s->(∀b∈fp,kf X pins H b)->tn i s.heap->J.stop i H →
  wpAny (model P w) X.A (pyNext (.ref it)) (fun r s1=>r=none/\Inv X pins σ H s1) E s
 self:∀(A:Around) (i:Nat) (s:Shared) (Q:Value->Shared->Prop) (E:Value->Shared->Prop),tn i s.heap->Q (.ref it) s->wpAny (model P w) A (pyIter (.ref it)) Q E s
noncomputable abbrev TI:=St->Hp->(It->Hp->Prop)->Prop
noncomputable def Ru (X:Cx)(pins:List (Addr×Obj))(σ:St)(tg:Expr)(R:It->Hp->Prop)(itv:Value)(s2:Shared):Prop:=
 ∃(it:Addr) (fp:List Addr) (tn:Nat->Heap->Prop) (J:It) (H':Hp),itv=.ref it/\Inv X pins σ H' s2/\Turn X.prog X.w X.K tg J fp it tn/\tn 0 s2.heap/\(∀b∈fp,kf X pins H' b)/\R J H'
noncomputable def PI (X:Cx)(tg iter:Expr)(wi:TI):Prop:=
 ∀(pins:List (Addr×Obj)) (s:Shared) (σ:St) (H:Hp) (R:It->Hp->Prop),Inv X pins σ H s->wi σ H R →
  wpAny (model X.prog X.w) X.A (eval iter X.env) (fun v s1=>wpAny (model X.prog X.w) X.A (pyIter v) (Ru X pins σ tg R) X.xe s1) X.xe s
theorem wb {M:Model}{A:Around}{E:Value->Shared->Prop}{s:Shared}{tg:Expr}{it:Addr}{u:Value}{o:Obj}{n:String}{vs:Array Value}{Q:Unit->Shared->Prop}(ho:s.heap.get? it=some o)(hc:o.cls=.type n)(hd:o.data=.fields vs)
  (hn:["enumerate","zip","dict_itemiterator","dict_reverseitemiterator","odict_iterator","itertools.zip_longest","itertools.pairwise"].contains n=false) (hQ:Q () s):wpAny M A (letOwnedTupleGo tg (.ref it) u) Q E s:=by
 unfold letOwnedTupleGo
 cases tg<;>first
  |exact wpAny_pure hQ
  |(cases u<;>first
    |exact wpAny_pure hQ
    |(refine wpAny_bind (wpAny_load ho ?_)
      rw[hc,hd]
      show wpAny M A (if (["enumerate","zip","dict_itemiterator","dict_reverseitemiterator","odict_iterator","itertools.zip_longest","itertools.pairwise"].contains n&&vs[0]?==some (rawInt _))=true then _ else _) Q E s
      rw[if_neg (by intro h;rw[hn,Bool.false_and] at h;cases h)]
      exact wpAny_pure hQ))
noncomputable def Rh (K:PySem.W.Frag)(a:Addr):It:=
 ⟨fun i H=>∃xs x,SqL K H a xs/\xs[i]?=some x,fun i H x H'=>H'=H/\∀xs,SqL K H a xs->xs[i]?=some x,fun i H=>∃xs,SqL K H a xs/\xs.length≤i⟩
noncomputable def Rl (K:PySem.W.Frag)(a:Addr):It:=
 ⟨fun i H=>∃xs x,SqT K H a xs/\xs[i]?=some x,fun i H x H'=>H'=H/\∀xs,SqT K H a xs->xs[i]?=some x,fun i H=>∃xs,SqT K H a xs/\xs.length≤i⟩
noncomputable def CP (lo:Int)(n:Nat):It:=⟨fun i _=>i<n,fun i H x H'=>H'=H/\x=.int (lo+i),fun i _=>n≤i⟩
theorem yc {P:Program}{w:World}{K:PySem.W.Frag}{tg:Expr}(a it:Addr):Turn P w K tg (Rh K a) [it] it (fun i h=>h.IsListIter it a i) where
 mem:=by simp
 obj:=fun i h st b hb=>by
  have e:b=it:=by simpa using hb
  subst e
  obtain⟨o,e,c,d⟩:=st
  exact⟨o,e,fun v z=>by rw[d] at z;cases z⟩
 keep:=fun i h h' st k=>st.at fun o e=>k it (by simp) o e
 item:=by
  intro X hP hw hK hc i pins s σ H E I hf st hg
  subst hP hw hK
  obtain⟨xs,x,hq,hx⟩:=hg
  obtain⟨its,rv,p,hz⟩:=I.list hq
  obtain⟨u,hu,ru⟩:=rv.get hx
  obtain⟨f0,f1,f2,f3,f4,f5⟩:=hf it (by simp)
  refine wpAny_pyNext_list_item st p.isList (x:=u) (by simpa using hu) fun h' st' sb=>?_
  have I1:Inv X pins σ H { s with heap:=h' }:=I.turned (t':=s.toks) (fun b o hb e=>(sb.2 b hb).trans e) f0 f1 f3 f4 f5
  obtain⟨o,e,c,d⟩:=id st'
  exact⟨u,rfl,wb (s:={ s with heap:=h' }) e c d (by decide) ⟨x,H,I1,ru,⟨rfl,fun ys hy=>by rw[I.list_inj hy hq];exact hx⟩,st',fun b hb=>(hf b hb).1⟩⟩
 done:=by
  intro X hP hw hK hc i pins s σ H E I hf st hg
  subst hP hw hK
  obtain⟨xs,hq,hx⟩:=hg
  obtain⟨its,rv,p,hz⟩:=I.list hq
  obtain⟨f0,f1,f2,f3,f4,f5⟩:=hf it (by simp)
  have hl:=rv.length
  exact wpAny_pyNext_list_end (I.ok.hd hc) st p.isList (by simp;omega) fun h' eb=>⟨rfl,I.turned (t':=s.toks) (fun b o hb e=>eb b o hb e) f0 f1 f3 f4 f5⟩
 self:=fun _ _ _ _ _ st h=>wpAny_pyIter_listiter st h
theorem uC {P:Program}{w:World}{K:PySem.W.Frag}{tg:Expr}(a it:Addr):Turn P w K tg (Rl K a) [it] it (fun i h=>h.IsTupleIter it a i) where
 mem:=by simp
 obj:=fun i h st b hb=>by
  have e:b=it:=by simpa using hb
  subst e
  obtain⟨o,e,c,d⟩:=st
  exact⟨o,e,fun v z=>by rw[d] at z;cases z⟩
 keep:=fun i h h' st k=>st.at fun o e=>k it (by simp) o e
 item:=by
  intro X hP hw hK hc i pins s σ H E I hf st hg
  subst hP hw hK
  obtain⟨xs,x,hq,hx⟩:=hg
  obtain⟨its,rv,p,hz⟩:=I.tuple hq
  obtain⟨u,hu,ru⟩:=rv.get hx
  obtain⟨f0,f1,f2,f3,f4,f5⟩:=hf it (by simp)
  refine wpAny_pyNext_tuple_item st (show s.heap.IsTuple a its.toArray from p) (x:=u) (by simpa using hu) fun h' st' sb=>?_
  have I1:Inv X pins σ H { s with heap:=h' }:=I.turned (t':=s.toks) (fun b o hb e=>(sb.2 b hb).trans e) f0 f1 f3 f4 f5
  obtain⟨o,e,c,d⟩:=id st'
  exact⟨u,rfl,wb (s:={ s with heap:=h' }) e c d (by decide) ⟨x,H,I1,ru,⟨rfl,fun ys hy=>by rw[I.tuple_inj hy hq];exact hx⟩,st',fun b hb=>(hf b hb).1⟩⟩
 done:=by
  intro X hP hw hK hc i pins s σ H E I hf st hg
  subst hP hw hK
  obtain⟨xs,hq,hx⟩:=hg
  obtain⟨its,rv,p,hz⟩:=I.tuple hq
  obtain⟨f0,f1,f2,f3,f4,f5⟩:=hf it (by simp)
  have hl:=rv.length
  exact wpAny_pyNext_tuple_end (I.ok.hd hc) st (show s.heap.IsTuple a its.toArray from p) (by simp;omega) fun h' eb=>⟨rfl,I.turned (t':=s.toks) (fun b o hb e=>eb b o hb e) f0 f1 f3 f4 f5⟩
 self:=fun _ _ _ _ _ st h=>wpAny_pyIter_tupleiter st h
theorem ud {P:Program}{w:World}{K:PySem.W.Frag}{tg:Expr}(it:Addr)(lo:Int)(n:Nat):Turn P w K tg (CP lo n) [it] it (fun i h=>IsRangeIter h it (lo+(i:Nat) * 1) ((n:Int) - (i:Nat)) 1) where
 mem:=by simp
 obj:=fun i h st b hb=>by
  have e:b=it:=by simpa using hb
  subst e
  exact⟨_,st,fun v z=>by
   have z':Data.fields _=Data.cell v:=z
   cases z'⟩
 keep:=fun i h h' st k=>k it (by simp) _ st
 item:=by
  intro X hP hw hK hc i pins s σ H E I hf st hg
  subst hP hw hK
  obtain⟨f0,f1,f2,f3,f4,f5⟩:=hf it (by simp)
  have W:=Walks.range (prog:=X.prog) (w:=X.w) (I.ok.hd hc) it lo 1 n
  refine W.item i s _ _ hg st fun v h' tk hv st' kk=>?_
  obtain⟨t,rfl⟩:=hv
  have I1:Inv X pins σ H { s with heap:=h',toks:=tk }:=I.turned (fun b o hb e=>kk b o (by simpa using hb) e) f0 f1 f3 f4 f5
  refine⟨_,rfl,wb (s:={ s with heap:=h',toks:=tk }) (n:="range_iterator") st' rfl rfl (by decide) ⟨.int (lo+i),H,I1,⟨t,?_⟩,⟨rfl,rfl⟩,st',fun b hb=>(hf b hb).1⟩⟩
  rw[Int.mul_one]
 done:=by
  intro X hP hw hK hc i pins s σ H E I hf st hg
  subst hP hw hK
  obtain⟨f0,f1,f2,f3,f4,f5⟩:=hf it (by simp)
  exact wpAny_pyNext_range_end (I.ok.hd hc) st (by have:n≤i:=hg;omega) fun h' eb=>⟨rfl,I.turned (t':=s.toks) (fun b o hb e=>eb b o hb e) f0 f1 f3 f4 f5⟩
 self:=fun _ _ _ _ _ st h=>wpAny_pyIter_rangeiter st h
end L2
namespace L2
open PySem PySem.Spec PyProof.Rows
section
variable {X:Cx}{tg:Expr}
noncomputable def NX (K:PySem.W.Frag)(tl:TE):TI:=fun σ H R=>tl σ H fun x H1=>∃a,x=.ref a/\(∃xs,SqL K H1 a xs)/\R (Rh K a) H1
noncomputable def Qu (K:PySem.W.Frag)(tl:TE):TI:=fun σ H R=>tl σ H fun x H1=>∃a,x=.ref a/\(∃xs,SqT K H1 a xs)/\R (Rl K a) H1
theorem v6 {l:Expr}{tl:TE}(hl:PE X l tl):PI X tg l (NX X.K tl):=by
 intro pins s σ H R I h
 refine bj (hl pins s σ H _ I h) fun v s1 ⟨x,H1,I1,r1,q1⟩=>?_
 obtain⟨a,e,⟨xs,hq⟩,q⟩:=q1
 subst e
 cases r1
 obtain⟨its,rv,p,hz⟩:=I1.list hq
 refine wpAny_pyIter_list p.isList ?_
 refine⟨s1.heap.objs.size,[s1.heap.objs.size],_,_,H1,rfl,I1.kept (t':=s1.toks) fun b o e=>Heap.get?_push_of_some _ e,yc a _,⟨_,Heap.get?_push_size _ rfl,rfl,rfl⟩,fun b hb=>?_,q⟩
 have e:b=s1.heap.objs.size:=by simpa using hb
 subst e
 exact I1.fpOk (Nat.le_refl _) (I1.hok.fresh (Nat.le_refl _))
theorem Kb {l:Expr}{tl:TE}(hl:PE X l tl):PI X tg l (Qu X.K tl):=by
 intro pins s σ H R I h
 refine bj (hl pins s σ H _ I h) fun v s1 ⟨x,H1,I1,r1,q1⟩=>?_
 obtain⟨a,e,⟨xs,hq⟩,q⟩:=q1
 subst e
 cases r1
 obtain⟨its,rv,p,hz⟩:=I1.tuple hq
 refine wpAny_pyIter_tuple (show s1.heap.IsTuple a its.toArray from p) ?_
 refine⟨s1.heap.objs.size,[s1.heap.objs.size],_,_,H1,rfl,I1.kept (t':=s1.toks) fun b o e=>Heap.get?_push_of_some _ e,uC a _,⟨_,Heap.get?_push_size _ rfl,rfl,rfl⟩,fun b hb=>?_,q⟩
 have e:b=s1.heap.objs.size:=by simpa using hb
 subst e
 exact I1.fpOk (Nat.le_refl _) (I1.hok.fresh (Nat.le_refl _))
theorem su {pins:List (Addr×Obj)}{σ:St}{H:Hp}{s:Shared}{R:It->Hp->Prop}{E:Value->Shared->Prop}{lo hi:Int}{t u v:Tok}{tk:Nat}(I:Inv X pins σ H s)(h1:-(2 ^ 62)≤lo)(h2:lo<2 ^ 62)(h3:-(2 ^ 62)≤hi)(h4:hi<2 ^ 62)
  (q:R (CP lo (hi - lo).toNat) H):wpAny (model X.prog X.w) X.A (pyIter (.ref s.heap.objs.size)) (Ru X pins σ tg R) E { s with heap:=s.heap.push { cls:=.type "range",data:=.fields #[.int lo t,.int hi u,.int 1 v] },toks:=tk }:=by
 refine wpAny_pyIter_range (IsRange.new ..) (small_one h1 h2 h3 h4) ?_
 have I1:Inv X pins σ H { s with heap:=s.heap.push { cls:=.type "range",data:=.fields #[.int lo t,.int hi u,.int 1 v] },toks:=tk }:=I.kept fun b o e=>Heap.get?_push_of_some _ e
 refine⟨(s.heap.push { cls:=.type "range",data:=.fields #[.int lo t,.int hi u,.int 1 v] }).objs.size,[(s.heap.push { cls:=.type "range",data:=.fields #[.int lo t,.int hi u,.int 1 v] }).objs.size],_,_,H,rfl,
  I1.kept (t':=tk) fun b o e=>Heap.get?_push_of_some _ e,ud _ lo (hi - lo).toNat,?_,fun b hb=>?_,q⟩
 ·have e1:lo+((0:Nat):Int) * 1=lo:=by simp
  have e2:(((hi - lo).toNat:Nat):Int) - ((0:Nat):Int)=Builtin.Range.rangeSize lo hi 1:=by rw[rangeSize_one];split<;>omega
  show IsRangeIter _ _ (lo+((0:Nat):Int) * 1) ((((hi - lo).toNat:Nat):Int) - ((0:Nat):Int)) 1
  rw[e1,e2]
  exact Heap.get?_push_size _ rfl
 ·have e:b=(s.heap.push { cls:=.type "range",data:=.fields #[.int lo t,.int hi u,.int 1 v] }).objs.size:=by simpa using hb
  subst e
  exact I1.fpOk (Nat.le_refl _) (I1.hok.fresh (Nat.le_refl _))
noncomputable def rl (ta:TA):TI:=fun σ H R=>ta σ H fun vs H1=>∃j:Int,vs=[.int j]/\-(2 ^ 62)≤j/\j<2 ^ 62/\R (CP 0 j.toNat) H1
noncomputable def AM (ta:TA):TI:=fun σ H R=>ta σ H fun vs H1=>∃i j:Int,vs=[.int i,.int j]/\(-(2 ^ 62)≤i/\i<2 ^ 62/\-(2 ^ 62)≤j/\j<2 ^ 62)/\R (CP i (j - i).toNat) H1
theorem oW {a:Expr}{ta:TA}{p pos:Pos}(hg:Gl X "range")(hm:X.mg "range" = none)(ha:PA X [a] ta)(hs:starEach [a] X.env=[(false,eval a X.env)]:=by rfl):PI X tg (.Call (.Name "range" p) [a] [] pos) (rl ta):=by
 intro pins s σ H R I h
 refine Call_ (jO I hg hm boot_range (PyProof.Rows.callWith_type1 (bj (ha pos pins s σ H _ I h) fun us s1 ⟨vs,H1,I1,r1,q1⟩=>?_) hs rfl))
 obtain⟨j,e,q1,q2,q⟩:=q1
 subst e
 cases r1 with
 |cons r rr=>
  cases rr
  obtain⟨t,rfl⟩:=r
  exact call_range_1 (su I1 (by omega) (by omega) q1 q2 (by simpa using q))
theorem xJ {a b:Expr}{ta:TA}{p pos:Pos}(hg:Gl X "range")(hm:X.mg "range" = none)(ha:PA X [a,b] ta)(hs:starEach [a,b] X.env=[(false,eval a X.env),(false,eval b X.env)]:=by rfl)(hs2:starEach [b] X.env=[(false,eval b X.env)]:=by rfl) :
  PI X tg (.Call (.Name "range" p) [a,b] [] pos) (AM ta):=by
 intro pins s σ H R I h
 refine Call_ (jO I hg hm boot_range (PyProof.Rows.callWith_type1 (bj (ha pos pins s σ H _ I h) fun us s1 ⟨vs,H1,I1,r1,q1⟩=>?_) (by rw[hs,hs2]) (by rw[hs2];rfl)))
 obtain⟨i,j,e,⟨q1,q2,q3,q4⟩,q⟩:=q1
 subst e
 cases r1 with
 |cons r rr=>
  cases rr with
  |cons r' rr=>
   cases rr
   obtain⟨t,rfl⟩:=r
   obtain⟨t',rfl⟩:=r'
   exact call_range_2 (su I1 q1 q2 q3 q4 q)
noncomputable def xI (wi:TI)(g:TG)(tb:TS):TS:=fun D σ H=>wi σ H fun J H1=>∃W:Nat->Nat->St->Hp->Prop,(∃m,W 0 m σ H1)/\∀i m σ H,W i m σ H →
 (J.stop i H/\D.nx σ H)\/(J.go i H/\∃N:St->Hp->Prop,(∀σ' H',N σ' H'->∃m',m'<m/\W (i+1) m' σ' H')/\∀x H',J.yld i H x H'->g x σ H' fun σ2 H2=>tb { D with nx:=N,ct:=N,bk:=D.nx } σ2 H2)
noncomputable def mC (fp:List Addr)(h:Heap):List (Addr×Obj):=fp.filterMap fun b=>(h.get? b).map fun o=>(b,o)
theorem iD {fp:List Addr}{h:Heap}{b:Addr}{o:Obj}(hb:b∈fp)(e:h.get? b=some o):(b,o)∈mC fp h:=List.mem_filterMap.mpr ⟨b,hb,by rw[e];rfl⟩
theorem wS {fp:List Addr}{h:Heap}{p:Addr×Obj}(hp:p∈mC fp h):p.1∈fp/\h.get? p.1=some p.2:=by
 obtain⟨b,hb,e⟩:=List.mem_filterMap.mp hp
 cases q:h.get? b with
 |none=>rw[q] at e;cases e
 |some o=>
  rw[q] at e
  have e':(b,o)=p:=Option.some.inj e
  subst e'
  exact⟨hb,q⟩
theorem Inv.pinned {pins:List (Addr×Obj)}{σ:St}{H:Hp}{s:Shared}{fp:List Addr}(I:Inv X pins σ H s)(hf:∀b∈fp,kf X pins H b)(ho:∀b∈fp,∃o,s.heap.get? b=some o/\∀v,o.data≠.cell v):Inv X (pins++mC fp s.heap) σ H s:=
 I.pins_of fun p hp=>(List.mem_append.mp hp).elim (fun z=>I.pin p (List.mem_append_right _ z)) fun z=>by
  obtain⟨hb,e⟩:=wS z
  obtain⟨f0,f1,f2,_⟩:=hf p.1 hb
  obtain⟨o,e',d⟩:=ho p.1 hb
  rw[e] at e';cases e'
  exact⟨e,f0,f1,f2,d⟩
theorem Inv.unpinned {pins pl:List (Addr×Obj)}{σ:St}{H:Hp}{s:Shared}(I:Inv X (pins++pl) σ H s):Inv X pins σ H s:=I.pins_of fun p hp=>I.pin p (List.mem_append_right _ (List.mem_append_left _ hp))
theorem y3 {iter:Expr}{body:List Stmt}{wi:TI}{g:TG}{tb:TS}{pos:Pos}(hp:PassesOwn (model X.prog X.w) X.A X.env X.xe)(hc:X.calm=true)(hi:PI X tg iter wi)(hg:PG X tg g)(hb:PSs X body tb)
  (hs:∀x,foldedSetIterable iter X.env x=pure x:=by intro _;rfl):PS X (.For tg iter body [] pos) (xI wi g tb):=by
 intro pins s σ H D I h
 refine wpAny_For (bj (hi pins s σ H _ I h) fun v s1 h1=>bj h1 fun itv s2 h2=>?_) hs
 obtain⟨it,fp,tn,J,H2,e,I2,T,st2,f2,W,⟨m0,w0⟩,turn⟩:=h2
 subst e
 have stat:∀{H':Hp},(∀b∈fp,H' b=none)->∀b∈fp,kf X pins H' b:=fun hn b hb=>⟨hn b hb,(f2 b hb).2⟩
 refine codeAny_forLoop_any (fun n s'=>∃i σ' H',Inv X pins σ' H' s'/\tn i s'.heap/\(∀b∈fp,H' b=none)/\W i n σ' H') ?_ m0 ⟨0,σ,H2,I2,st2,fun b hb=>(f2 b hb).1,w0⟩
 rintro n s3 ⟨i,σ3,H3,I3,st3,fr3,w3⟩
 rcases turn i n σ3 H3 w3 with ⟨stop,qn⟩|⟨go,N,hN,step⟩
 ·refine wpAny_passesOwn hp (bj (T.done X rfl rfl rfl hc i pins s3 σ3 H3 X.xe I3 (stat fr3) st3 stop) fun r s4 ⟨hr,I4⟩=>?_)
  subst hr
  exact wpAny_execs_nil ⟨σ3,H3,I4,qn⟩
 ·refine wpAny_passesOwn hp (bj (T.item X rfl rfl rfl hc i pins s3 σ3 H3 X.xe I3 (stat fr3) st3 go) fun r s4 ⟨u,hr,h4⟩=>?_)
  subst hr
  refine wpAny_passesOwn hp (bj h4 fun _ s5 ⟨x,H5,I5,r5,y5,st5,fr5⟩=>?_)
  have I5':=I5.pinned (stat fr5) (T.obj _ _ st5)
  refine wpAny_passesOwn hp (bj (hg _ s5 σ3 H5 x u _ I5' r5 (step x H5 y5)) fun _ s6 ⟨σ6,H6,I6,q6⟩=>?_)
  refine wpAny_passesOwn hp (bj (hb _ s6 σ6 H6 _ I6 q6) fun f s7 q7=>?_)
  have again:∀{σ7:St} {H7:Hp},Inv X (pins++mC fp s5.heap) σ7 H7 s7->N σ7 H7->∃m,m<n/\∃i σ' H',Inv X pins σ' H' s7/\tn i s7.heap/\(∀b∈fp,H' b=none)/\W i m σ' H':=fun {σ7 H7} I7 n7=>by
   obtain⟨m',hm,w7⟩:=hN σ7 H7 n7
   refine⟨m',hm,i+1,σ7,H7,I7.unpinned,T.keep _ _ _ st5 fun b hb o e=>(I7.pin (b,o) (List.mem_append_right _ (List.mem_append_right _ (iD hb e)))).1,fun b hb=>?_,w7⟩
   obtain⟨o,e,d⟩:=T.obj _ _ st5 b hb
   exact (I7.pin (b,o) (List.mem_append_right _ (List.mem_append_right _ (iD hb e)))).2.1
  cases f with
  |next=>obtain⟨σ7,H7,I7,n7⟩:=q7;exact again I7 n7
  |cont=>obtain⟨σ7,H7,I7,n7⟩:=q7;exact again I7 n7
  |brk=>obtain⟨σ7,H7,I7,q7⟩:=q7;exact⟨σ7,H7,I7.unpinned,q7⟩
  |ret v=>obtain⟨x7,σ7,H7,I7,r7,q7⟩:=q7;exact⟨x7,σ7,H7,I7.unpinned,r7,q7⟩
end
theorem wL {lo:Int}{n:Nat}{g:TG}{tb:TS}{D:Ends}{σ:St}{H:Hp}(Pv:Nat->St->Hp->Prop)(h0:Pv 0 σ H)
  (hs:∀i σ H,i<n->Pv i σ H->g (.int (lo+i)) σ H fun σ2 H2=>tb { D with nx:=Pv (i+1),ct:=Pv (i+1),bk:=D.nx } σ2 H2) (hd:∀σ H,Pv n σ H->D.nx σ H) :
  ∃W:Nat->Nat->St->Hp->Prop,(∃m,W 0 m σ H)/\∀i m σ H,W i m σ H →
   ((CP lo n).stop i H/\D.nx σ H)\/((CP lo n).go i H/\∃N:St->Hp->Prop,(∀σ' H',N σ' H'->∃m',m'<m/\W (i+1) m' σ' H')/\∀x H',(CP lo n).yld i H x H'->g x σ H' fun σ2 H2=>tb { D with nx:=N,ct:=N,bk:=D.nx } σ2 H2):=by
 refine⟨fun i m σ H=>m=n - i/\i≤n/\Pv i σ H,⟨n,by simp,Nat.zero_le _,h0⟩,?_⟩
 rintro i m σ H ⟨rfl,hi,p⟩
 by_cases hlt:i<n
 ·refine .inr ⟨hlt,Pv (i+1),fun σ' H' p'=>⟨n - (i+1),by omega,rfl,hlt,p'⟩,fun x H' y=>?_⟩
  obtain⟨e,y⟩:=y
  subst e y
  exact hs i σ _ hlt p
 ·have e:i=n:=by omega
  subst e
  exact .inl ⟨Nat.le_refl _,hd σ H p⟩
end L2
namespace L2
open PySem PySem.Spec PyProof.Rows
noncomputable abbrev R2:=V->V->Hp->VK->Prop
noncomputable def OpR (X:Cx)(f:Value->Value->Sem Value)(r:R2):Prop:=
 ∀(pins:List (Addr×Obj)) (s:Shared) (σ:St) (H:Hp) (x y:V) (v u:Value) (Q:VK),Inv X pins σ H s->RelV x v->RelV y u->r x y H Q →
  wpAny (model X.prog X.w) X.A (f v u) (EP X pins σ Q) X.xe s
noncomputable def PY (X:Cx)(f:Value->Sem Value)(r:V->Hp->VK->Prop):Prop:=
 ∀(pins:List (Addr×Obj)) (s:Shared) (σ:St) (H:Hp) (x:V) (v:Value) (Q:VK),Inv X pins σ H s->RelV x v->r x H Q →
  wpAny (model X.prog X.w) X.A (f v) (EP X pins σ Q) X.xe s
noncomputable def CallR (X:Cx)(f:Value)(r:List V->Hp->VK->Prop):Prop:=
 ∀(pins:List (Addr×Obj)) (s:Shared) (σ:St) (H:Hp) (xs:List V) (us:List Value) (Q:VK),Inv X pins σ H s->Vals xs us->r xs H Q →
  wpAny (model X.prog X.w) X.A (call f us) (EP X pins σ Q) X.xe s
noncomputable def LK (r:R2)(ta tb:TE):TE:=fun σ H Q=>ta σ H fun x H1=>tb σ H1 fun y H2=>r x y H2 Q
noncomputable def Rs (r:V->Hp->VK->Prop)(ta:TE):TE:=fun σ H Q=>ta σ H fun x H1=>r x H1 Q
noncomputable def rI (C:Int->Int->Prop)(g:Int->Int->V):R2:=fun x y H Q=>∃i j,x=.int i/\y=.int j/\C i j/\Q (g i j) H
noncomputable def v9 (g:Int->Int->V):R2:=fun x y H Q=>∃i j,x=.int i/\y=.int j/\Q (g i j) H
noncomputable def rU (g:Int->V):V->Hp->VK->Prop:=fun x H Q=>∃i,x=.int i/\Q (g i) H
section
variable {X:Cx}{a b c:Expr}{ta tb tc:TE}{pos:Pos}
theorem JX (ha:PE X a ta)(hb:PE X b tb){pins:List (Addr×Obj)}{s:Shared}{σ:St}{H:Hp}{R:V->V->Hp->Prop}(I:Inv X pins σ H s)
  (h:ta σ H fun x H1=>tb σ H1 fun y H2=>R x y H2) {Q:Value->Shared->Prop} {f:Value->Value->Sem Value}
  (hf:∀v u s2 x y H2,Inv X pins σ H2 s2->RelV x v->RelV y u->R x y H2->wpAny (model X.prog X.w) X.A (f v u) Q X.xe s2) :
  wpAny (model X.prog X.w) X.A (eval a X.env) (fun v s₁=>wpAny (model X.prog X.w) X.A (eval b X.env) (fun u s₂=>wpAny (model X.prog X.w) X.A (f v u) Q X.xe s₂) X.xe s₁) X.xe s:=by
 refine bj (ha pins s σ H _ I h) fun v s1 ⟨x,H1,I1,r1,q1⟩=>?_
 refine bj (hb pins s1 σ H1 _ I1 q1) fun u s2 ⟨y,H2,I2,r2,q2⟩=>?_
 exact hf v u s2 x y H2 I2 r1 r2 q2
theorem Br {op:Operator}{r:R2}(ho:OpR X (binaryOp op) r)(ha:PE X a ta)(hb:PE X b tb):PE X (.BinOp a op b pos) (LK r ta tb):=by
 intro pins s σ H Q I h
 exact wpAny_BinOp (JX ha hb I h fun v u s2 x y H2 I2 rx ry q=>ho pins s2 σ H2 x y v u Q I2 rx ry q)
theorem zC {op:UnaryOp}{r:V->Hp->VK->Prop}(ho:PY X (unaryOp op) r)(ha:PE X a ta):PE X (.UnaryOp op a pos) (Rs r ta):=by
 intro pins s σ H Q I h
 exact UnaryOp_ (bj (ha pins s σ H _ I h) fun v s1 ⟨x,H1,I1,r1,q1⟩=>ho pins s1 σ H1 x v Q I1 r1 q1)
theorem LG {f:Value->Value->Sem Value}{C:Int->Int->Prop}{g:Int->Int->Int}
  (rule:∀(i j:Int) (t u:Tok) (s:Shared) (Q:Value->Shared->Prop) (E:Value->Shared->Prop),C i j->Q (.int (g i j) s.toks) { s with toks:=s.toks+1 }->wpAny (model X.prog X.w) X.A (f (.int i t) (.int j u)) Q E s) :
  OpR X f (rI C fun i j=>.int (g i j)):=by
 intro pins s σ H x y v u Q I rx ry h
 obtain⟨i,j,rfl,rfl,hc,q⟩:=h
 obtain⟨t,rfl⟩:=rx
 obtain⟨t',rfl⟩:=ry
 exact rule i j t t' s _ _ hc ⟨.int (g i j),H,I.tok _,⟨_,rfl⟩,q⟩
theorem J4 {f:Value->Value->Sem Value}{g:Int->Int->Int}
  (rule:∀(i j:Int) (t u:Tok) (s:Shared) (Q:Value->Shared->Prop) (E:Value->Shared->Prop),Q (.int (g i j) s.toks) { s with toks:=s.toks+1 }->wpAny (model X.prog X.w) X.A (f (.int i t) (.int j u)) Q E s) :
  OpR X f (v9 fun i j=>.int (g i j)):=by
 intro pins s σ H x y v u Q I rx ry h
 obtain⟨i,j,rfl,rfl,q⟩:=h
 obtain⟨t,rfl⟩:=rx
 obtain⟨t',rfl⟩:=ry
 exact rule i j t t' s _ _ ⟨.int (g i j),H,I.tok _,⟨_,rfl⟩,q⟩
theorem DQ {f:Value->Value->Sem Value}{g:Int->Int->Bool}
  (rule:∀(i j:Int) (t u:Tok) (s:Shared) (Q:Value->Shared->Prop) (E:Value->Shared->Prop),Q (.bool (g i j)) s->wpAny (model X.prog X.w) X.A (f (.int i t) (.int j u)) Q E s) :
  OpR X f (v9 fun i j=>.bl (g i j)):=by
 intro pins s σ H x y v u Q I rx ry h
 obtain⟨i,j,rfl,rfl,q⟩:=h
 obtain⟨t,rfl⟩:=rx
 obtain⟨t',rfl⟩:=ry
 exact rule i j t t' s _ _ ⟨.bl (g i j),H,I,rfl,q⟩
noncomputable def L8 (i j:Int):Prop:=0<j/\j<1073741824
noncomputable def KW (i j:Int):Prop:=0≤j/\j≤1000000/\i.natAbs<2 ^ 64
noncomputable def CMul (i j:Int):Prop:=(-(2 ^ 64)<i/\i<2 ^ 64)\/(-(2 ^ 64)<j/\j<2 ^ 64)
theorem CMul.ok {i j:Int}(h:CMul i j):IntMulOk i j:=by
 rcases h with ⟨h1,h2⟩|⟨h1,h2⟩
 ·exact .of_left (intBits_le_64 h1 h2)
 ·exact .of_right (intBits_le_64 h1 h2)
theorem uJ (k:Nat):(0:Int)≤2 ^ k:=by
 rw[two_pow_cast]
 exact Int.natCast_nonneg _
theorem I0:OpR X (binaryOp .Add) (v9 fun i j=>.int (i+j)):=J4 fun _ _ _ _ _ _ _ q=>add_int q
theorem Jo:OpR X (binaryOp .Sub) (v9 fun i j=>.int (i - j)):=J4 fun _ _ _ _ _ _ _ q=>sub_int q
theorem Jj:OpR X (binaryOp .Mult) (rI CMul fun i j=>.int (i * j)):=LG fun _ _ _ _ _ _ _ hc q=>mul_int q hc.ok
theorem Fi:OpR X (binaryOp .FloorDiv) (rI L8 fun i j=>.int (i / j)):=LG fun i j _ _ _ _ _ hc q=>by
 have h1:(0:Int)<j:=hc.1
 have h2:j<1073741824:=hc.2
 exact floordiv_int (by omega) (by rw[Int.fdiv_eq_ediv_of_nonneg i (by omega)];exact q) (.inl (PyProof.noPylong_small (by omega)))
theorem IH:OpR X (binaryOp .Mod) (rI (fun _ j=>0<j) fun i j=>.int (i % j)):=LG fun i j _ _ _ _ _ hc q=>by
 have h1:(0:Int)<j:=hc
 exact mod_int' (by omega) (by rw[Int.fmod_eq_emod_of_nonneg i (by omega)];exact q)
theorem K3:OpR X (binaryOp .Pow) (rI KW fun i j=>.int (i ^ j.toNat)):=LG fun _ _ _ _ _ _ _ hc q=>pow_int_small hc.1 hc.2.1 hc.2.2 q
theorem Hk:OpR X (binaryOp .LShift) (rI KW fun i j=>.int (i * 2 ^ j.toNat)):=LG fun _ _ _ _ _ _ _ hc q=>lshift_int_small hc.1 hc.2.1 hc.2.2 q
theorem Lp:OpR X (binaryOp .RShift) (rI (fun _ j=>0≤j) fun i j=>.int (i / 2 ^ j.toNat)):=LG fun i j _ _ _ _ _ hc q=>
 rshift_int hc (by rw[Int.fdiv_eq_ediv_of_nonneg i (uJ _)];exact q)
theorem IU:OpR X (binaryOp .BitAnd) (v9 fun i j=>.int (Builtin.bitAnd i j)):=J4 fun _ _ _ _ _ _ _ q=>and_int q
theorem R5 {f:Value->Sem Value}{g:Int->Int}
  (rule:∀(i:Int) (t:Tok) (s:Shared) (Q:Value->Shared->Prop) (E:Value->Shared->Prop),Q (.int (g i) s.toks) { s with toks:=s.toks+1 }->wpAny (model X.prog X.w) X.A (f (.int i t)) Q E s) :
  PY X f (rU fun i=>.int (g i)):=by
 intro pins s σ H x v Q I rx h
 obtain⟨i,rfl,q⟩:=h
 obtain⟨t,rfl⟩:=rx
 exact rule i t s _ _ ⟨.int (g i),H,I.tok _,⟨_,rfl⟩,q⟩
theorem ui:PY X (unaryOp .USub) (rU fun i=>.int (-i)):=R5 fun _ _ _ _ _ q=>neg_int q
end
noncomputable def Mr:V->V->Bool
 |.non,.non=>true|.non,.int _=>true|.int _,.non=>true|.non,.bl _=>true|.bl _,.non=>true|.non,.str _=>true|.str _,.non=>true
 |.int _,.int _=>true|.bl _,.bl _=>true|.str _,.str _=>true|.byt _,.byt _=>true
 |.int _,.str _=>true|.str _,.int _=>true|.bl _,.str _=>true|.str _,.bl _=>true
 |_,_=>false
noncomputable def sJ:R2:=fun x y H Q=>Mr x y=true/\Q (.bl (decide (x=y))) H
noncomputable def kN:R2:=fun x y H Q=>Mr x y=true/\Q (.bl (!decide (x=y))) H
section
variable {X:Cx}{a b c:Expr}{ta tb tc:TE}{pos:Pos}
theorem B1 {pins:List (Addr×Obj)}{σ:St}{H:Hp}{s:Shared}{Q:VK}{k k':Bool}(I:Inv X pins σ H s)(q:Q (.bl k) H)(e:k=k'):EP X pins σ Q (.bool k') s:=by
 subst e
 exact⟨.bl k,H,I,rfl,q⟩
theorem NF:OpR X (compareOp .Lt) (v9 fun i j=>.bl (decide (i<j))):=DQ fun _ _ _ _ _ _ _ q=>lt_int q
theorem Ob:OpR X (compareOp .LtE) (v9 fun i j=>.bl (decide (i≤j))):=DQ fun _ _ _ _ _ _ _ q=>le_int q
theorem LQ:OpR X (compareOp .Gt) (v9 fun i j=>.bl (decide (j<i))):=DQ fun _ _ _ _ _ _ _ q=>gt_int q
theorem Nl:OpR X (compareOp .GtE) (v9 fun i j=>.bl (decide (j≤i))):=DQ fun _ _ _ _ _ _ _ q=>ge_int q
theorem JN:OpR X (compareOp .Is) (fun x y H Q=>y=.non/\Q (.bl (decide (x=.non))) H):=by
 intro pins s σ H x y v u Q I rx ry h
 obtain⟨rfl,q⟩:=h
 cases ry
 refine is_none_gen (B1 I q ?_)
 cases x<;>first
  |(cases rx;rfl)
  |(obtain⟨t,rfl⟩:=rx;rfl)
theorem FZ:OpR X (compareOp .IsNot) (fun x y H Q=>y=.non/\Q (.bl (!decide (x=.non))) H):=by
 intro pins s σ H x y v u Q I rx ry h
 obtain⟨rfl,q⟩:=h
 cases ry
 refine isnot_none_gen (B1 I q ?_)
 cases x<;>first
  |(cases rx;rfl)
  |(obtain⟨t,rfl⟩:=rx;rfl)
theorem OpR.or {f:Value->Value->Sem Value}{r r':R2}(h:OpR X f r)(h':OpR X f r'):OpR X f (fun x y H Q=>r x y H Q\/r' x y H Q):=by
 intro pins s σ H x y v u Q I rx ry q
 rcases q with q|q
 ·exact h pins s σ H x y v u Q I rx ry q
 ·exact h' pins s σ H x y v u Q I rx ry q
theorem Ex {op:CmpOp}{r:R2}(ho:OpR X (compareOp op) r)(ha:PE X a ta)(hb:PE X b tb)(hm:behindInMarks op b=false):PE X (.Compare a [op] [b] pos) (LK r ta tb):=by
 intro pins s σ H Q I h
 exact wpAny_Compare1 (JX ha hb I h fun v u s2 x y H2 I2 rx ry q=>ho pins s2 σ H2 x y v u Q I2 rx ry q) hm
noncomputable def Gh (t:TE):TT:=fun σ H Q=>t σ H fun x H'=>∃k,x=.bl k/\Q k H'
theorem Eb {op:CmpOp}{r:R2}(ho:OpR X (compareOp op) r)(ha:PE X a ta)(hb:PE X b tb)(hm:behindInMarks op b=false):PT X (.Compare a [op] [b] pos) (Gh (LK r ta tb)):=by
 intro pins s σ H Q I h
 refine wpAny_isTrue_Compare1 (bj (ha pins s σ H _ I h) fun v s1 ⟨x,H1,I1,r1,q1⟩=>bj (hb pins s1 σ H1 _ I1 q1) fun u s2 ⟨y,H2,I2,r2,q2⟩=>
  bj (ho pins s2 σ H2 x y v u _ I2 r1 r2 q2) fun c s3 ⟨z,H3,I3,r3,k,e,q3⟩=>?_) hm
 subst e
 cases r3
 exact wpAny_truthy_bool ⟨H3,I3,q3⟩
noncomputable def vh (r r':R2)(ta tb tc:TE):TE:=fun σ H Q=>ta σ H fun x H1=>tb σ H1 fun y H2=>r x y H2 fun z H3=>∃k,z=.bl k ∧
 (if k=true then tc σ H3 fun w' H4=>r' y w' H4 Q else Q (.bl false) H3)
theorem Aa {op op':CmpOp}{r r':R2}(ho:OpR X (compareOp op) r)(ho':OpR X (compareOp op') r')(ha:PE X a ta)(hb:PE X b tb)(hc:PE X c tc)
  (hm:lastMarks [op,op'] [b,c]=false:=by with_unfolding_all rfl):PE X (.Compare a [op,op'] [b,c] pos) (vh r r' ta tb tc):=by
 intro pins s σ H Q I h
 refine Compare_chain (bj (ha pins s σ H _ I h) fun v s1 ⟨x,H1,I1,r1,q1⟩=>chain_link (bj (hb pins s1 σ H1 _ I1 q1) fun u s2 ⟨y,H2,I2,r2,q2⟩=>
  bj (ho pins s2 σ H2 x y v u _ I2 r1 r2 q2) fun d s3 ⟨z,H3,I3,r3,k,e,q3⟩=>?_)) hm
 subst e
 cases r3
 refine wpAny_truthy_bool ?_
 cases k with
 |false=>exact ite_ff ⟨.bl false,H3,I3,rfl,q3⟩
 |true=>exact ite_tt (chain_last (bj (hc pins s3 σ H3 _ I3 q3) fun w' s4 ⟨z',H4,I4,r4,q4⟩=>ho' pins s4 σ H4 y z' u w' Q I4 r2 r4 q4))
theorem Bn {op op':CmpOp}{r r':R2}(ho:OpR X (compareOp op) r)(ho':OpR X (compareOp op') r')(ha:PE X a ta)(hb:PE X b tb)(hc:PE X c tc)
  (hm:lastMarks [op,op'] [b,c]=false:=by with_unfolding_all rfl):PT X (.Compare a [op,op'] [b,c] pos) (Gh (vh r r' ta tb tc)):=by
 intro pins s σ H Q I h
 refine isTrue_chain (bj (ha pins s σ H _ I h) fun v s1 ⟨x,H1,I1,r1,q1⟩=>test_link (bj (hb pins s1 σ H1 _ I1 q1) fun u s2 ⟨y,H2,I2,r2,q2⟩=>
  bj (ho pins s2 σ H2 x y v u _ I2 r1 r2 q2) fun d s3 ⟨z,H3,I3,r3,k,e,q3⟩=>?_)) hm
 subst e
 cases r3
 refine wpAny_truthy_bool ?_
 cases k with
 |false=>
  obtain⟨k',e',q'⟩:=q3
  cases e'
  exact ite_ff ⟨H3,I3,q'⟩
 |true=>
  refine ite_tt (test_last (bj (hc pins s3 σ H3 _ I3 q3) fun w' s4 ⟨z',H4,I4,r4,q4⟩=>bj (ho' pins s4 σ H4 y z' u w' _ I4 r2 r4 q4) fun d' s5 ⟨z2,H5,I5,r5,k2,e2,q5⟩=>?_))
  subst e2
  cases r5
  exact wpAny_truthy_bool ⟨H5,I5,q5⟩
theorem lx:(sizeLine:Nat)<2 ^ 63:=by rw[sizeLine_eq];decide
theorem ux:OpR X (binaryOp .Add) (fun x y H Q=>∃i j,x=.str i/\y=.str j/\i.length+j.length≤sizeLine/\Q (.str (i++j)) H):=by
 intro pins s σ H x y v u Q I rx ry h
 obtain⟨i,j,rfl,rfl,hz,q⟩:=h
 obtain⟨t,rfl⟩:=rx
 obtain⟨t',rfl⟩:=ry
 exact add_str (fun t' tk=>⟨.str (i++j),H,I.tok _,⟨_,rfl⟩,q⟩) hz
theorem fP {x:V}{us:List Value}(r:Vals [x] us):∃u,us=[u]/\RelV x u:=by
 cases r with
 |cons r1 r2=>cases r2;exact⟨_,rfl,r1⟩
theorem Gp {x y:V}{us:List Value}(r:Vals [x,y] us):∃u w',us=[u,w']/\RelV x u/\RelV y w':=by
 cases r with
 |cons r1 r2=>
  cases r2 with
  |cons r3 r4=>cases r4;exact⟨_,_,rfl,r1,r3⟩
theorem BE:CallR X (.builtin "abs") (fun xs H Q=>∃i,xs=[.int i]/\Q (.int (if i<0 then -i else i)) H):=by
 intro pins s σ H xs us Q I r h
 obtain⟨i,rfl,q⟩:=h
 obtain⟨u,rfl,t,rfl⟩:=fP r
 exact call_abs_int fun u tk=>⟨.int (if i<0 then -i else i),H,I.tok _,⟨_,rfl⟩,q⟩
theorem wQ (hc:X.calm=true):CallR X (.builtin "max") (fun xs H Q=>∃i j,xs=[.int i,.int j]/\Q (.int (if j > i then j else i)) H):=by
 intro pins s σ H xs us Q I r h
 obtain⟨i,j,rfl,q⟩:=h
 obtain⟨u,w',rfl,⟨t,rfl⟩,⟨t',rfl⟩⟩:=Gp r
 refine max_two_ints (I.ok.hd hc) fun h' tk k=>⟨_,H,I.kept k,?_,q⟩
 by_cases hj:j > i
 ·rw[if_pos hj,if_pos hj];exact⟨_,rfl⟩
 ·rw[if_neg hj,if_neg hj];exact⟨_,rfl⟩
theorem xF (hc:X.calm=true):CallR X (.builtin "min") (fun xs H Q=>∃i j,xs=[.int i,.int j]/\Q (.int (if j<i then j else i)) H):=by
 intro pins s σ H xs us Q I r h
 obtain⟨i,j,rfl,q⟩:=h
 obtain⟨u,w',rfl,⟨t,rfl⟩,⟨t',rfl⟩⟩:=Gp r
 refine min_two_ints (I.ok.hd hc) fun h' tk k=>⟨_,H,I.kept k,?_,q⟩
 by_cases hj:j<i
 ·rw[if_pos hj,if_pos hj];exact⟨_,rfl⟩
 ·rw[if_neg hj,if_neg hj];exact⟨_,rfl⟩
theorem wF:CallR X (.type "int") (fun xs H Q=>(∃i,xs=[.int i]/\Q (.int i) H)\/∃k,xs=[.bl k]/\Q (.int (if k then 1 else 0)) H):=by
 intro pins s σ H xs us Q I r h
 rcases h with ⟨i,rfl,q⟩|⟨k,rfl,q⟩
 ·obtain⟨u,rfl,t,rfl⟩:=fP r
  exact call_int_int ⟨.int i,H,I,⟨_,rfl⟩,q⟩
 ·obtain⟨u,rfl,r1⟩:=fP r
  cases r1
  exact call_int_bool ⟨.int (if k then 1 else 0),H,I.tok _,⟨_,rfl⟩,q⟩
noncomputable def IX (K:PySem.W.Frag)(x:V)(H:Hp)(n:Nat):Prop:=
 match x with
 |.str y=>y.length≤sizeLine/\n=y.length
 |.byt y=>y.size≤sizeLine/\n=y.size
 |.ref p=>(∃xs,SqL K H p xs/\n=xs.length)\/∃xs,SqT K H p xs/\n=xs.length
 |_=>False
theorem rC:CallR X (.builtin "len") (fun xs H Q=>∃x n,xs=[x]/\IX X.K x H n/\Q (.int n) H):=by
 intro pins s σ H xs us Q I r h
 obtain⟨x,n,rfl,e,q⟩:=h
 obtain⟨u,rfl,rx⟩:=fP r
 have hl:=lx
 have hs:sizeLine=16777216:=sizeLine_eq
 cases x with
 |str y=>
  obtain⟨t,rfl⟩:=rx
  obtain⟨hy,e'⟩:y.length≤sizeLine/\n=y.length:=e
  subst e'
  exact len_str (by omega) ⟨.int _,H,I.tok _,⟨_,rfl⟩,q⟩
 |byt y=>
  obtain⟨t,rfl⟩:=rx
  obtain⟨hy,e'⟩:y.size≤sizeLine/\n=y.size:=e
  subst e'
  exact PySem.W.len_bytes (by omega) ⟨.int _,H,I.tok _,⟨_,rfl⟩,q⟩
 |ref p=>
  cases rx
  have e':(∃xs,SqL X.K H p xs/\n=xs.length)\/∃xs,SqT X.K H p xs/\n=xs.length:=e
  rcases e' with ⟨xs,hx,e'⟩|⟨xs,hx,e'⟩
  ·subst e'
   obtain⟨its,r',pl,hz⟩:=I.list hx
   have hlen:=r'.length
   exact Calls.call_len_list pl.isList (by simp only[List.size_toArray];omega) ⟨.int xs.length,H,I.tok _,⟨_,by simp only[List.size_toArray];rw[hlen]⟩,q⟩
  ·subst e'
   obtain⟨its,r',pl,hz⟩:=I.tuple hx
   have hlen:=r'.length
   exact len_tuple pl (by simp only[List.size_toArray];omega) ⟨.int xs.length,H,I.tok _,⟨_,by simp only[List.size_toArray];rw[hlen]⟩,q⟩
 |_=>exact (show False from e).elim
end
end L2
namespace L2
open PySem PySem.Spec PyProof.Rows
structure ObjM (h:Heap)(x dx C:Addr)(mA:Str->Option Value):Prop where
 obj:h.get? x=some (PySem.W.instObj C dx)
 ns:h.Ns1 dx mA
 ne:dx≠x
theorem yq {h:Heap}{dx:Addr}{mA:Str->Option Value}(n:h.Ns1 dx mA):∃od,h.get? dx=some od/\∀name,PySem.W.lookIn name od=some (mA name):=by
 obtain⟨o,es,ep,ho,hd,hk,_,hm⟩:=n
 refine⟨o,ho,fun name=>?_⟩
 have e:=hm name
 unfold nsFind findBy at e
 rw[←Array.find?_toList] at e
 unfold PySem.W.lookIn
 rw[hd]
 dsimp only
 split
 ·rename_i y q
  rw[q] at e
  exact congrArg some e
 ·rename_i q
  rw[q] at e
  have a:es.toList.any (·.refKey)=false:=by
   rw[List.any_eq_false]
   intro y hy
   obtain⟨z,t,hkey⟩:=hk y (Array.mem_toList_iff.mp hy)
   simp[DictEntry.refKey,hkey]
  have a':¬es.toList.any (·.refKey)=true:=by rw[a];exact Bool.false_ne_true
  rw[if_neg a']
  exact congrArg some e
theorem ObjM.look {h:Heap}{x dx C:Addr}{mA:Str->Option Value}(I:ObjM h x dx C mA):∃od,PySem.W.InstAt h x (PySem.W.instObj C dx) C (some od)/\∀name,PySem.W.lookIn name od=some (mA name):=
 let ⟨od,ho,hl⟩:=yq I.ns
 ⟨od,⟨I.obj,rfl,rfl,ho⟩,hl⟩
section
variable {P:Program}{w:World}{H H':Hp}{h h':Heap}{a C dx:Addr}{fs fs':List (Str×V)}
theorem EA (hok:HOk P w H h)(e:H a=some (.ins C dx fs)):∃mA,ObjM h a dx C mA/\(∀f,RelO (fs.lookup f) (mA f))/\PySem.Within mA (fs.map (·.1))/\fs.length≤1000/\H dx=some (.own a):=by
 obtain⟨d,z,ne,ob,mA,n,r,q⟩:=(show ObjOk P w H h a (.ins C dx fs) from hok a _ e)
 exact⟨mA,⟨ob,n,ne⟩,r,q,z,d⟩
end
structure Cls (K:PySem.W.Frag)(C:Addr):Prop where
 pg:PySem.W.plainGet K C Str.empty=true
 hd:PySem.W.hasDictIn K C=true
 po:PySem.W.plainOver K C=true
 sa:PySem.W.findIn K (.ref C) "__setattr__" = some (some (.builtin "object.__setattr__"))
theorem Cls.get {K:PySem.W.Frag}{C:Addr}(c:Cls K C)(f:Str):PySem.W.plainGet K C f=true:=c.pg
structure Con (K:PySem.W.Frag)(C:Addr)(f:Str)(v:V)(u:Value):Prop where
 at_:PySem.W.findIn K (.ref C) f=some (some u)
 rel:RelV v u
 get:PySem.W.specialIn K u "__get__" = some none
 cp:PySem.W.copiedNames.contains f=false
structure Meth (K:PySem.W.Frag)(C:Addr)(m:Str)(f:Addr):Prop where
 at_:PySem.W.findIn K (.ref C) m=some (some (.ref f))
 fn:PySem.W.isFn K (.ref f)=true
 kp:PySem.W.keepIn K (.ref f)=true
section
variable {X:Cx}{o e value:Expr}{f:Str}{pos pos' tpos:Pos}{ta tv:TE}
noncomputable def dQ:V->V->Hp->VK->Prop:=fun x y H Q=>∃i j,x=.int i/\y=.int j/\Q (.int (i+j)) H
noncomputable def kR:V->V->Hp->VK->Prop:=fun x y H Q=>∃i j,x=.int i/\y=.int j/\Q (.int (i - j)) H
end
section
variable {X:Cx}{pins:List (Addr×Obj)}{σ:St}{H:Hp}{s:Shared}{A:Around}{E:Value->Shared->Prop}{Q:Value->Shared->Prop}{c:Value}{b:Bool}
inductive TyOf (K:PySem.W.Frag) (H:Hp):V->Value->Prop where
 |non:TyOf K H .non (.type "NoneType")
 |bl (x:Bool):TyOf K H (.bl x) (.type "bool")
 |int (i:Int):TyOf K H (.int i) (.type "int")
 |str (x:Str):TyOf K H (.str x) (.type "str")
 |flt (x:UInt64):TyOf K H (.flt x) (.type "float")
 |lst {a:Addr} {xs:List V} (e:H a=some (.lst xs)):TyOf K H (.ref a) (.type "list")
 |frz {a:Addr} {o:Obj} {xs:List V} (e:H a=some (.frz o (.lst xs))):TyOf K H (.ref a) (.type "list")
 |tup {a:Addr} {xs:List V} (e:H a=some (.tup xs)):TyOf K H (.ref a) (.type "tuple")
 |dK {a:Addr} {kvs:List (cW×V)} (e:H a=some (.dK kvs)):TyOf K H (.ref a) (.type "dict")
 |dT {a:Addr} {kvs:List (List cW×V)} (e:H a=some (.dT kvs)):TyOf K H (.ref a) (.type "dict")
 |ins {a C dx:Addr} {fs:List (Str×V)} (e:H a=some (.ins C dx fs)) (cl:Cls K C) (ha:PySem.W.findIn K (.ref C) "__class__" = some (some (.builtin "object.__class__")))
   (hn:PySem.W.specialIn K (.builtin "object.__class__") "__get__" = some (some (.builtin "getset_descriptor.__get__"))) (htk:PySem.W.takesIn K (.builtin "object.__class__")=some true)
   (hm:PySem.W.mroIn K C (.type "object")=some true):TyOf K H (.ref a) (.ref C)
theorem xO {x:V}{u t:Value}(I:Inv X pins σ H s)(rx:RelV x u)(ty:TyOf X.K H x t)(e:PySem.W.kitOne X.K t c=some b)(h:∀tk,Q (.bool b) { s with toks:=tk }) :
  wpAny (model X.prog X.w) A (call (.builtin "isinstance") [u,c]) Q E s:=by
 cases ty with
 |non=>cases (show u=Value.none from rx);exact PySem.W.kia_one PySem.W.kitx_none I.kIn True.intro e (fun z=>nomatch z) h
 |bl y=>cases (show u=Value.bool y from rx);exact PySem.W.kia_one PySem.W.kitx_bool I.kIn True.intro e (fun z=>nomatch z) h
 |int i=>obtain⟨t,q⟩:=(show ∃t,u=Value.int i t from rx);cases q;exact PySem.W.kia_one PySem.W.kitx_int I.kIn True.intro e (fun z=>nomatch z) h
 |str y=>obtain⟨t,q⟩:=(show ∃t,u=Value.str y t from rx);cases q;exact PySem.W.kia_one PySem.W.kitx_str I.kIn True.intro e (fun z=>nomatch z) h
 |flt y=>obtain⟨t,q⟩:=(show ∃t,u=Value.float y t from rx);cases q;exact PySem.W.kia_one PySem.W.kitx_float I.kIn True.intro e (fun z=>nomatch z) h
 | @lst a xs ea=>
  cases (show u=Value.ref a from rx)
  obtain⟨_,_,n,_,h1⟩:=(show ObjOk X.prog X.w H s.heap a (.lst xs) from I.hok a _ ea)
  exact PySem.W.kia_one PySem.W.kitx_list I.kIn ⟨_,h1,rfl⟩ e (fun z=>nomatch z) h
 | @frz a ob xs ea=>
  cases (show u=Value.ref a from rx)
  obtain⟨_,_,_,n,_,h1⟩:=(show ObjOk X.prog X.w H s.heap a (.frz ob (.lst xs)) from I.hok a _ ea)
  exact PySem.W.kia_one PySem.W.kitx_list I.kIn ⟨_,h1,rfl⟩ e (fun z=>nomatch z) h
 | @tup a xs ea=>
  cases (show u=Value.ref a from rx)
  obtain⟨_,_,_,p⟩:=(show ObjOk X.prog X.w H s.heap a (.tup xs) from I.hok a _ ea)
  obtain⟨o,h1,h2,_⟩:=p
  exact PySem.W.kia_one PySem.W.kitx_tuple I.kIn ⟨o,h1,h2⟩ e (fun z=>nomatch z) h
 | @dK a kvs ea=>
  cases (show u=Value.ref a from rx)
  obtain⟨_,_,vs,_,p⟩:=(show ObjOk X.prog X.w H s.heap a (.dK kvs) from I.hok a _ ea)
  obtain⟨o,es,ep,h1,h2,_⟩:=p
  exact PySem.W.kia_one PySem.W.kitx_dict I.kIn ⟨o,h1,h2.1⟩ e (fun z=>nomatch z) h
 | @dT a kvs ea=>
  cases (show u=Value.ref a from rx)
  obtain⟨_,_,xs,_,o,es,ep,h1,h2,_⟩:=(show ObjOk X.prog X.w H s.heap a (.dT kvs) from I.hok a _ ea)
  exact PySem.W.kia_one PySem.W.kitx_dict I.kIn ⟨o,h1,h2.1⟩ e (fun z=>nomatch z) h
 | @ins a C dx fs ea cl ha hn htk hm=>
  cases (show u=Value.ref a from rx)
  obtain⟨mA,O,_⟩:=EA I.hok ea
  obtain⟨od,J,_⟩:=O.look
  exact PySem.W.kia_one (PySem.W.kitx_own (cl.get _) cl.hd ha hn htk hm) I.kIn J e (fun z=>nomatch z) h
end
end L2
namespace L2
open PySem PySem.Spec PyProof.Rows
structure Room (k:Nat)(A:Around):Prop where
 hd:A.handled=none
 dp:A.depth+3 * k+5<recursionLimit
 un:A.units+16 * k+200<cLine
theorem Room.mono {j k:Nat}{A:Around}(r:Room k A)(h:j≤k):Room j A:=⟨r.hd,by have:=r.dp;omega,by have:=r.un;omega⟩
theorem Room.deeper {k:Nat}{A:Around}(r:Room (k+1) A)(env:Env):Room k (A.deeper env):=
 ⟨r.hd,by have:=r.dp;show A.depth+1+3 * k+5<_;omega,by have:=r.un;show A.units+3+16 * k+200<_;omega⟩
theorem Room.in1 {k:Nat}{A:Around}(r:Room (k+1) A):Room k A.in1:=
 ⟨r.hd,by have:=r.dp;show A.depth+3 * k+5<_;omega,by have:=r.un;show A.units+1+16 * k+200<_;omega⟩
theorem Room.depth {k:Nat}{A:Around}(r:Room k A):A.depth<recursionLimit:=by have:=r.dp;omega
theorem Room.units {k:Nat}{A:Around}(r:Room k A):A.units+64<cLine:=by have:=r.un;omega
noncomputable def kZ:TA:=fun _ H Q=>Q [] H
noncomputable def gB (ta:TE)(tr:TA):TA:=fun σ H Q=>ta σ H fun x H1=>tr σ H1 fun xs H2=>Q (x::xs) H2
section
variable {X:Cx}{e:Expr}{es:List Expr}{te:TE}{t:TA}{pos:Pos}
theorem iw:PA X [] kZ:=fun _ _ _ _ H Q I h=>Calls.spliced_nil ⟨[],H,I,.nil,h⟩
theorem DN (ha:PE X e te)(hr:PA X es t)(hs:starEach (e::es) X.env=(false,eval e X.env)::starEach es X.env:=by rfl):PA X (e::es) (gB te t):=by
 intro pos pins s σ H Q I h
 rw[hs]
 show wpAny _ _ (spliced ((false,eval e X.env)::backTo pos (starEach es X.env))) _ _ s
 refine Calls.spliced_cons (bj (ha pins s σ H _ I h) fun u s1 ⟨x,H1,I1,r1,q1⟩=>?_)
 exact bj (hr pos pins s1 σ H1 _ I1 q1) fun us s2 ⟨xs,H2,I2,r2,q2⟩=>⟨x::xs,H2,I2,.cons r1 r2,q2⟩
noncomputable def QW (t:TA):TE:=fun σ H Q=>t σ H fun xs H1=>xs.length≤sizeLine/\∀p,H1 p=none->Q (.ref p) (upd H1 p (.tup xs))
noncomputable def M3 (t:TA):TE:=fun σ H Q=>t σ H fun xs H1=>xs.length≤sizeLine/\∀p,H1 p=none->Q (.ref p) (upd H1 p (.lst xs))
theorem HS {x1}(h:PA X es t):PE X (.Tuple es x1 pos) (QW t):=by
 intro pins s σ H Q I hq
 refine wpAny_Tuple_spliced (bj (h pos pins s σ H _ I hq) fun us s1 ⟨xs,H1,I1,r,z,q⟩=>⟨by rw[←r.length];exact z,?_⟩)
 have hf:H1 s1.heap.objs.size=none:=I1.hok.fresh (Nat.le_refl _)
 refine⟨.ref s1.heap.objs.size,upd H1 s1.heap.objs.size (.tup xs),I1.laid (t':=s1.toks) (fun b u e=>Heap.get?_push_of_some _ e) (Nat.le_refl _) ?_,rfl,q _ hf⟩
 exact⟨z,us,r,⟨_,Heap.get?_push_size _ rfl,rfl,_,rfl⟩⟩
theorem AN (h:PA X es t):PE X (.List es pos) (M3 t):=by
 intro pins s σ H Q I hq
 refine wpAny_List_spliced (bj (h pos pins s σ H _ I hq) fun us s1 ⟨xs,H1,I1,r,z,q⟩=>⟨by rw[←r.length];exact z,?_⟩)
 have hf:H1 s1.heap.objs.size=none:=I1.hok.fresh (Nat.le_refl _)
 refine⟨.ref s1.heap.objs.size,upd H1 s1.heap.objs.size (.lst xs),I1.laid (t':=s1.toks) (fun b u e=>Heap.get?_push_of_some _ e) (Nat.le_refl _) ?_,rfl,q _ hf⟩
 exact⟨z,us,0,r,Heap.get?_push_size _ rfl⟩
end
noncomputable abbrev Sp:=List V->Hp->VK->XK->Prop
noncomputable abbrev yd:=List Env->Hp->Shared->XK->Value->Shared->Prop
structure Env0 (P:Program)(w:World)(K:PySem.W.Frag)(mg:Str->Option Value)(base:Heap)(A:Around)(outer:List Env)(s:Shared)(H:Hp):Prop where
 frames:A.frames=some outer
 mod:Mod K mg base
 bs:∀b o,base.get? b=some o->s.heap.get? b=some o/\H b=none
 bsz:base.objs.size≤s.heap.objs.size
 funs:s.heap.FunFrames base outer
 frf:∀b∈uy outer,H b=none
 hok:HOk P w H s.heap
 bare:AllBare s.gens
noncomputable def CE (outer:List Env)(P:Program)(w:World)(H:Hp)(s:Shared)(Q:VK)(u:Value)(s':Shared):Prop:=
 ∃v H',s'.os=s.os/\AllBare s'.gens/\Un (uy outer) [] H H' s.heap s'.heap/\HOk P w H' s'.heap/\RelV v u/\Q v H'
noncomputable def CR (CX:yd)(outer:List Env)(P:Program)(w:World)(H:Hp)(s:Shared)(Q:VK)(E:XK)(r:Result)(s':Shared):Prop:=
 match r with
 |.ok (.ret u)=>CE outer P w H s Q u s'
 |.ok _=>False
 |.error e=>CX outer H s E e s'
structure FnOk (P:Program)(w:World)(K:PySem.W.Frag)(mg:Str->Option Value)(base:Heap)(CX:yd)(k:Nat)(f:Addr)(fd:FuncData)(ps:List Str)(sp:Sp):Prop where
 len:∀vs H Q E,sp vs H Q E->vs.length=ps.length
 run:∀(A:Around) (outer:List Env) (s:Shared) (H:Hp) (args:Args) (us:List Value) (vs:List V) (Q:VK) (E:XK),Room k A->Env0 P w K mg base A outer s H->BindsTo s fd args (ps.zip us)->Vals vs us->sp vs H Q E →
  codeAny (model P w) A (.call (.ref f) args) (CR CX outer P w H s Q E) s
theorem FnOk.mono {P:Program}{w:World}{K:PySem.W.Frag}{mg:Str->Option Value}{base:Heap}{CX:yd}{j k:Nat}{f:Addr}{fd:FuncData}{ps:List Str}{sp:Sp}(F:FnOk P w K mg base CX j f fd ps sp)(h:j≤k) :
  FnOk P w K mg base CX k f fd ps sp:=⟨F.len,fun A outer s H args us vs Q E hr=>F.run A outer s H args us vs Q E (hr.mono h)⟩
theorem FnOk.imp {P:Program}{w:World}{K:PySem.W.Frag}{mg:Str->Option Value}{base:Heap}{CX:yd}{k:Nat}{f:Addr}{fd:FuncData}{ps:List Str}{sp sp':Sp}(F:FnOk P w K mg base CX k f fd ps sp)
  (h:∀vs H Q E,sp' vs H Q E->sp vs H Q E):FnOk P w K mg base CX k f fd ps sp':=
 ⟨fun vs H Q E q=>F.len vs H Q E (h _ _ _ _ q),fun A outer s H args us vs Q E hr he hb hv hs=>F.run A outer s H args us vs Q E hr he hb hv (h _ _ _ _ hs)⟩
theorem Env0.in1 {P:Program}{w:World}{K:PySem.W.Frag}{mg:Str->Option Value}{base:Heap}{A:Around}{outer:List Env}{s:Shared}{H:Hp}(e:Env0 P w K mg base A outer s H) :
  Env0 P w K mg base A.in1 outer s H:=⟨e.frames,e.mod,e.bs,e.bsz,e.funs,e.frf,e.hok,e.bare⟩
section
variable {X:Cx}{pins:List (Addr×Obj)}{σ:St}{H:Hp}{s s':Shared}
theorem Inv.env0 (I:Inv X pins σ H s):Env0 X.prog X.w X.K X.mg X.base X.A X.stack s H:=
 ⟨I.ok.frames,I.ok.mod,I.bs,Nat.le_trans I.ok.bsz I.sz,I.stack,I.stkFree,I.hok,I.bare⟩
theorem Inv.after {Q:VK}{u:Value}(I:Inv X pins σ H s)(h:CE X.stack X.prog X.w H s Q u s'):EP X pins σ Q u s':=by
 obtain⟨v,H',os,bare,un,hok,r,q⟩:=h
 obtain⟨hh,g,d,t,os'⟩:=s'
 obtain rfl:os'=s.os:=os
 exact⟨v,H',I.call (h':=hh) (g':=g) (d':=d) (t':=t) (ch:=[]) un hok bare (fun b z=>absurd z (by simp)),r,q⟩
end
noncomputable def hX (sp:Sp)(dvs:List V)(E:XK)(t:TA):TE:=fun σ H Q=>t σ H fun vs H1=>sp (vs++dvs) H1 Q E
noncomputable def Binds (K:PySem.W.Frag)(fd:FuncData)(ps:List Str)(ds:List Value):Prop:=
 ∀(s:Shared) (us:List Value),K.In s.heap->(us++ds).length=ps.length->BindsTo s fd ⟨us,[]⟩ (ps.zip (us++ds))
theorem Binds.all {K:PySem.W.Frag}{fd:FuncData}{ps:List Str}(h:∀us:List Value,us.length=ps.length->bindArgs fd ⟨us,[]⟩=pure (ps.zip us)):Binds K fd ps []:=fun s us _ hl=>by
 rw[List.append_nil] at hl ⊢
 exact .of_eq (h us hl)
noncomputable def pA (CX:yd)(X:Cx)(E:XK):Prop:=∀(pins:List (Addr×Obj)) (σ:St) (H:Hp) (s:Shared) (e:Value) (s':Shared),Inv X pins σ H s->CX X.stack H s E e s'->X.xe e s'
section
variable {X:Cx}{CX:yd}{k:Nat}{f C:Addr}{fd:FuncData}{ps:List Str}{sp:Sp}{dvs:List V}{ds:List Value}{E:XK}{x m:Str}{p pos apos:Pos}{e o:Expr}{es:List Expr}{ta:TE}{t:TA}
theorem uc {pins:List (Addr×Obj)}{σ:St}{H:Hp}{s:Shared}{Q:VK}{us:List Value}{vs:List V}(F:FnOk X.prog X.w X.K X.mg X.base CX k f fd ps sp)(hr:Room k X.A)(hb:Binds X.K fd ps ds)(hd:Vals dvs ds)(hx:pA CX X E)
  (I:Inv X pins σ H s) (r:Vals vs us) (h:sp (vs++dvs) H Q E):wpAny (model X.prog X.w) X.A (call (.ref f) us) (EP X pins σ Q) X.xe s:=by
 have r2:Vals (vs++dvs) (us++ds):=r.append hd
 have hl:(us++ds).length=ps.length:=by rw[←r2.length];exact F.len _ _ _ _ h
 refine wpAny_call (codeAny_mono (F.run X.A X.stack s H ⟨us,[]⟩ (us++ds) (vs++dvs) Q E hr I.env0 (hb s us I.kIn hl) r2 h) fun r s' hq=>?_)
 cases r with
 |error e=>exact hx pins σ H s e s' I hq
 |ok fl=>
  cases fl with
  |ret u=>exact I.after hq
  |next=>exact False.elim hq
  |brk=>exact False.elim hq
  |cont=>exact False.elim hq
theorem FL (F:FnOk X.prog X.w X.K X.mg X.base CX k f fd ps sp)(hr:Room k X.A)(hg:Gl X x)(hm:X.mg x=some (.ref f))(hk:PySem.W.keepIn X.K (.ref f)=true)(hb:Binds X.K fd ps ds)(hd:Vals dvs ds)(hx:pA CX X E)
  (ha:PA X (e::es) t) (hdb:(x==("__debug__" : Str))=false:=by decide) (he:starEach (e::es) X.env=(false,eval e X.env)::starEach es X.env:=by rfl) (hpl:(backTo pos (starEach es X.env)).any (·.1)=false:=by rfl) :
  PE X (.Call (.Name x p) (e::es) [] pos) (hX sp dvs E t):=by
 intro pins s σ H Q I h
 refine wpAny_Call_Name_kw (pk I hg hm ?_ hdb)
 refine PySem.W.callWith_K (h₀:=X.base) I.ok.mod.kin hk (bj (ha pos pins s σ H _ I h) fun us s1 ⟨vs,H1,I1,r,q⟩=>⟨I1.kIn,?_⟩) he hpl
 exact uc F hr hb hd hx I1 r q
theorem Ax (F:FnOk X.prog X.w X.K X.mg X.base CX k f fd ps sp)(hr:Room k X.A)(hg:Gl X x)(hm:X.mg x=some (.ref f))(hk:PySem.W.keepIn X.K (.ref f)=true)(hb:Binds X.K fd ps ds)(hd:Vals dvs ds)(hx:pA CX X E)
  (hdb:(x==("__debug__" : Str))=false:=by decide):PE X (.Call (.Name x p) [] [] pos) (hX sp dvs E kZ):=by
 intro pins s σ H Q I h
 refine wpAny_Call_Name_kw (pk I hg hm ?_ hdb)
 exact PySem.W.callWith_K0 I.kIn hk (uc (us:=[]) F hr hb hd hx I .nil h)
structure Mk (K:PySem.W.Frag)(C f:Addr):Prop where
 makes:PySem.W.makesIn K C=true
 init:PySem.W.findIn K (.ref C) "__init__" = some (some (.ref f))
 fn:PySem.W.isFn K (.ref f)=true
 kp:PySem.W.keepIn K (.ref C)=true
end
section
variable {X:Cx}{CX:yd}{k:Nat}{f C:Addr}{fd:FuncData}{ps ks:List Str}{sp:Sp}{E:XK}{x m:Str}{p pos apos kpos:Pos}{e o:Expr}{es:List Expr}{kws:List Keyword}{te ta:TE}{t tk:TA}{nm:Option Str}
structure KBinds (K:PySem.W.Frag)(fd:FuncData)(ps ks:List Str)(g:List Value->List Value->List Value)(gV:List V->List V->List V):Prop where
 to:∀(s:Shared) (us ws:List Value),K.In s.heap->(g us ws).length=ps.length->BindsTo s fd ⟨us,ks.zip ws⟩ (ps.zip (g us ws))
 rel:∀{vs:List V} {us:List Value} {zs:List V} {ws:List Value},Vals vs us->Vals zs ws->Vals (gV vs zs) (g us ws)
variable {g:List Value->List Value->List Value}{gV:List V->List V->List V}
end
structure FnScope (N P:List Str)(sc:Scope):Prop where
 kind:sc.kind=.function
 co:sc.isCoroutine=false
 gen:sc.isGenerator=false
 nd:N.Nodup
 pre:N.take P.length=P
 par:∀x∈P,sc.names.lookup x=some .local\/sc.names.lookup x=some .cell
 nofree:∀y∈sc.names,y.2≠.free
theorem o6 {kindOf:Str->Option NameKind}{x:Str}:∀{binds:List (Str×Value)} {m:Str->Option Value},(∀v,(x,v)∉binds)->bindL kindOf binds m x=m x
 |[],_,_=>rfl
 |(n,v)::r,m,h=>by
  unfold bindL
  rw[o6 fun w hw=>h w (List.mem_cons_of_mem _ hw)]
  split
  ·have:x≠n:=by rintro rfl;exact h v List.mem_cons_self
   simp[this]
  ·rfl
theorem pd {kindOf:Str->Option NameKind}{x:Str}:∀{binds:List (Str×Value)} {m:Str->Option Value},(∀v,(x,v)∉binds)->bindC kindOf binds m x=m x
 |[],_,_=>rfl
 |(n,v)::r,m,h=>by
  unfold bindC
  rw[pd fun w hw=>h w (List.mem_cons_of_mem _ hw)]
  split
  ·rfl
  ·have:x≠n:=by rintro rfl;exact h v List.mem_cons_self
   simp[this]
theorem pb {kindOf:Str->Option NameKind}{x:Str}{v:Value}:∀{P:List Str} {vs:List Value} {i:Nat} {m:Str->Option Value},P.Nodup->P[i]?=some x->vs[i]?=some v->kindOf x=some .local →
  bindL kindOf (P.zip vs) m x=some v
 |[],_,_,_,_,h,_,_=>by simp at h
 |_::_,[],_,_,_,_,h,_=>by simp at h
 |p::P,w::vs,0,m,nd,h1,h2,hk=>by
  simp at h1 h2;subst h1;subst h2
  show bindL kindOf ((p,w)::P.zip vs) m p=_
  unfold bindL
  rw[o6 fun v hv=>(List.nodup_cons.mp nd).1 (List.of_mem_zip hv).1,if_pos hk]
  simp
 |p::P,w::vs,i+1,m,nd,h1,h2,hk=>by
  show bindL kindOf ((p,w)::P.zip vs) m x=_
  unfold bindL
  exact pb (i:=i) (List.nodup_cons.mp nd).2 (by simpa using h1) (by simpa using h2) hk
theorem oN {kindOf:Str->Option NameKind}{x:Str}{v:Value}:∀{P:List Str} {vs:List Value} {i:Nat} {m:Str->Option Value},P.Nodup->P[i]?=some x->vs[i]?=some v->kindOf x≠some .local →
  bindC kindOf (P.zip vs) m x=some v
 |[],_,_,_,_,h,_,_=>by simp at h
 |_::_,[],_,_,_,_,h,_=>by simp at h
 |p::P,w::vs,0,m,nd,h1,h2,hk=>by
  simp at h1 h2;subst h1;subst h2
  show bindC kindOf ((p,w)::P.zip vs) m p=_
  unfold bindC
  rw[pd fun v hv=>(List.nodup_cons.mp nd).1 (List.of_mem_zip hv).1,if_neg hk]
  simp
 |p::P,w::vs,i+1,m,nd,h1,h2,hk=>by
  show bindC kindOf ((p,w)::P.zip vs) m x=_
  unfold bindC
  exact oN (i:=i) (List.nodup_cons.mp nd).2 (by simpa using h1) (by simpa using h2) hk
noncomputable def fO (N:List Str)(vs:List V):St:=vs.map some++List.replicate (N.length - vs.length) none
noncomputable def kE (CX:yd)(P:Program)(w:World)(K:PySem.W.Frag)(mg:Str->Option Value)(base:Heap)(N:List Str)(qual:Str)(scope:Scope)(f:Addr)(cd:Value)(A:Around)(outer:List Env)(s:Shared)(H:Hp)(E:XK):Cx where
 prog:=P
 w:=w
 K:=K
 mg:=mg
 base:=base
 A:=A.deeper (envOfC qual scope s.heap.objs.size f cd)
 N:=N
 s₀:=s
 H₀:=H
 env:=envOfC qual scope s.heap.objs.size f cd
 outer:=outer
 stack:=envOfC qual scope s.heap.objs.size f cd::outer
 ex:=[]
 calm:=true
 fn:=fun _=>true
 pn:=[]
 xe:=fun e s'=>wpAny (model P w) (A.deeper (envOfC qual scope s.heap.objs.size f cd)) (leaving (envOfC qual scope s.heap.objs.size f cd) e) (fun _ s''=>CX outer H s E e s'') (fun e' s''=>CX outer H s E e' s'') s'
theorem rH {sc:Scope}{n:Nat}{x:Str}(h:sc.names.lookup x=some .cell):∃c,(cellsFrom n sc.names []).lookup x=some c:=by
 have q:=PySem.W.cellsFrom_some sc.names n [] (.inl h)
 exact Option.isSome_iff_exists.mp q
theorem wO {CX:yd}{P:Program}{w:World}{K:PySem.W.Frag}{mg:Str->Option Value}{base:Heap}{N ps:List Str}{qual:Str}{scope:Scope}{f:Addr}{cd:Value}{A:Around}{outer:List Env}{s s1:Shared}{H:Hp}{E:XK}{us:List Value}{vs:List V}
  (S:FnScope N ps scope) (hd:A.handled=none) (e0:Env0 P w K mg base A outer s H) (hl:vs.length=ps.length) (r:Vals vs us)
  (x:InCallC s s.heap.objs.size (bindL (envOfC qual scope s.heap.objs.size f cd).kindOf (ps.zip us) fun _=>none) (cellsFrom (s.heap.objs.size+1) scope.names []) (bindC (envOfC qual scope s.heap.objs.size f cd).kindOf (ps.zip us) fun _=>none) s1) :
  Inv (kE CX P w K mg base N qual scope f cd A outer s H E) [] (fO N vs) H s1:=by
 have hpl:ps.length≤N.length:=by have:=congrArg List.length S.pre;rw[List.length_take] at this;omega
 obtain⟨h1,tk,rfl,hk⟩:=x.done
 have noA:∀b:Addr,b∉(kE CX P w K mg base N qual scope f cd A outer s H E).ex:=fun b z=>absurd (show b∈([]:List Addr) from z) (by simp)
 refine⟨⟨e0.mod,S.kind,rfl,rfl,Nat.le_refl _,fun y z c h1 h2=>?_,fun y hy=>?_,fun y c _ h=>?_,fun _=>hd,Around.frames_deeper e0.frames,.inr ⟨rfl,rfl⟩,fun b z=>absurd z (noA b),e0.bs,e0.bsz,fun b _ _=>noA b,fun b z=>absurd z (noA b),e0.funs,e0.frf⟩,
  rfl,e0.bare,Un.kept hk,⟨_,x.toInCall.ns,fun i y v h1 h2 h3=>?_⟩,fun y c h=>⟨_,x.cell y c h⟩,e0.hok.fresh (Nat.le_refl _),fun y c h=>?_,fun p hp=>absurd (show p∈([]:List (Addr×Obj)) from hp) (by simp),e0.hok.kept hk,?_⟩
 ·exact name_of_addr x.apart (PySem.mem_of_lookup h1) (PySem.mem_of_lookup h2)
 ·have hy:scope.names.lookup y=some .cell\/scope.names.lookup y=some .free:=hy
  rcases hy with hy|hy
  ·exact rH hy
  ·exact absurd rfl (S.nofree _ (PySem.mem_of_lookup hy))
 ·exact Nat.le_of_lt (x.above y c (PySem.mem_of_lookup h))
 ·have hi:i<vs.length:=by
   unfold fO at h2
   by_cases hi:i<vs.length
   ·exact hi
   ·rw[List.getElem?_append_right (by simpa using hi)] at h2
    rw[List.getElem?_replicate] at h2
    split at h2<;>cases h2
  have ha:vs[i]?=some v:=by
   unfold fO at h2
   rw[List.getElem?_append_left (by simpa using hi),List.getElem?_map] at h2
   cases e:vs[i]? with
   |none=>rw[e] at h2;cases h2
   |some a=>rw[e] at h2;cases h2;rfl
  obtain⟨u,hu,rv⟩:=r.get ha
  have hp:ps[i]?=some y:=by
   rw[←S.pre,List.getElem?_take_of_lt (by omega)];exact h1
  have ndP:ps.Nodup:=by rw[←S.pre];exact S.nd.sublist (List.take_sublist _ _)
  refine⟨u,rv,?_⟩
  rcases S.par y (List.mem_of_getElem? hp) with k|k
  ·exact .inl ⟨k,pb ndP hp hu k⟩
  ·obtain⟨c,e⟩:=rH (n:=s.heap.objs.size+1) k
   refine .inr ⟨.inl k,c,e,?_⟩
   have q:=x.cell y c e
   rw[oN ndP hp hu (by show scope.names.lookup y≠_;rw[k];decide)] at q
   exact q
 ·exact e0.hok.fresh (Nat.le_of_lt (x.above y c (PySem.mem_of_lookup h)))
 ·unfold fO
  show _=N.length
  rw[List.length_append,List.length_map,List.length_replicate]
  omega
theorem LO {CX:yd}{P:Program}{w:World}{K:PySem.W.Frag}{mg:Str->Option Value}{base:Heap}{k:Nat}{f:Addr}{name qual:Str}{params:Arguments}{body:List Stmt}{scope:Scope}{dV kV doc pm cdv ct oc:Value}{an od:Option Addr}
  {osl:Array (Option Value)} {N ps:List Str} {sp:Sp} (lk:K.lookup f=some ⟨oc,od,.func (PySem.W.fnOf name qual params body scope dV kV doc pm an cdv ct),osl⟩) (hcd:PySem.W.codeIn K cdv qual=true) (S:FnScope N ps scope)
  (len:∀vs H Q E,sp vs H Q E->vs.length=ps.length)
  (hbody:∀(A:Around) (outer:List Env) (s:Shared) (H:Hp) (vs:List V) (Q:VK) (E:XK),Room k (A.deeper (envOfC qual scope s.heap.objs.size f cdv))->sp vs H Q E →
   ∃t,PSs (kE CX P w K mg base N qual scope f cdv A outer s H E) body t/\t { nx:=fun _ H'=>Q .non H',rt:=Q } (fO N vs) H) :
  FnOk P w K mg base CX (k+1) f (PySem.W.fnOf name qual params body scope dV kV doc pm an cdv ct) ps sp:=by
 refine⟨len,fun A outer s H args us vs Q E hr e0 hb r hsp=>?_⟩
 have hl:=len _ _ _ _ hsp
 have KX:K.In s.heap:=e0.mod.kin.keeps fun b o e=>(e0.bs b o e).1
 have lim:s.heap.NoLimit:=e0.mod.nolimit.keeps fun b o e=>(e0.bs b o e).1
 have hkind:∀y∈ps.zip us,scope.names.lookup y.1=some .local\/(scope.names.lookup y.1=some .cell/\((cellsFrom (s.heap.objs.size+1) scope.names []).lookup y.1).isSome=true):=fun ⟨n,v⟩ hy=>by
  rcases S.par n (List.of_mem_zip hy).1 with q|q
  ·exact .inl q
  ·exact .inr ⟨q,PySem.W.cellsFrom_some _ _ _ (.inl q)⟩
 refine codeAny_call_function hr.depth (KX _ _ lk) rfl S.co S.gen rfl (PySem.W.codeRec_of KX hcd) (hb _ _ _ _ ?_)
 refine wpAny_newFunctionEnv_cells S.kind hkind fun env he s1 x=>?_
 subst he
 refine⟨lim.keeps x.toInCall.keep,codeAny_func ?_⟩
 obtain⟨t,ht,hq⟩:=hbody A outer s H vs Q E (hr.deeper _) hsp
 have I:Inv (kE CX P w K mg base N qual scope f cdv A outer s H E) [] (fO N vs) H s1:=wO S hr.hd e0 hl r x
 refine wpAny_mono (ht [] s1 (fO N vs) H _ I hq) (fun fl s' hs=>?_) fun e s' hs=>hs
 have fin:∀{σ':St} {H':Hp} {v:V} {u:Value},Inv (kE CX P w K mg base N qual scope f cdv A outer s H E) [] σ' H' s'->RelV v u->Q v H'->CE outer P w H s Q u s':=
  fun {σ' H' v u} J rv q=>⟨v,H',J.os,J.bare,J.base,J.hok,rv,q⟩
 cases fl with
 |ret u=>
  obtain⟨v,σ',H',J,rv,q⟩:=hs
  exact fin J rv q
 |next=>
  obtain⟨σ',H',J,q⟩:=hs
  exact fin (v:=V.non) (u:=Value.none) J rfl q
 |brk=>
  obtain⟨_,_,_,q⟩:=hs
  exact False.elim q
 |cont=>
  obtain⟨_,_,_,q⟩:=hs
  exact False.elim q
end L2
namespace L2
open PySem PySem.Spec PyProof.Rows
section
variable {X:Cx}{x:Str}{p pos:Pos}{e:Expr}{es:List Expr}{t:TA}{id T:String}{r:List V->Hp->VK->Prop}
noncomputable def Be (r:List V->Hp->VK->Prop)(t:TA):TE:=fun σ H Q=>t σ H fun vs H1=>r vs H1 Q
theorem bV (hc:CallR X (.builtin id) r)(hg:Gl X x)(hm:X.mg x=none)(hv:bootBuiltins x=some (.builtin id))(ha:PA X (e::es) t)(hn:x ≠ "__name__":=by decide)(hdb:(x==("__debug__" : Str))=false:=by decide)
  (he:starEach (e::es) X.env=(false,eval e X.env)::starEach es X.env:=by rfl) (hpl:(backTo pos (starEach es X.env)).any (·.1)=false:=by rfl):PE X (.Call (.Name x p) (e::es) [] pos) (Be r t):=by
 intro pins s σ H Q I h
 refine wpAny_Call_Name_kw (jO I hg hm hv ?_ hn hdb)
 exact PyProof.Rows.callWith_builtin1 (bj (ha pos pins s σ H _ I h) fun us s1 ⟨vs,H1,I1,r1,q1⟩=>hc pins s1 σ H1 vs us Q I1 r1 q1) he hpl
theorem eX (hc:CallR X (.type T) r)(hg:Gl X x)(hm:X.mg x=none)(hv:bootBuiltins x=some (.type T))(ha:PA X (e::es) t)(hn:x ≠ "__name__":=by decide)(hdb:(x==("__debug__" : Str))=false:=by decide)
  (he:starEach (e::es) X.env=(false,eval e X.env)::starEach es X.env:=by rfl) (hpl:(backTo pos (starEach es X.env)).any (·.1)=false:=by rfl):PE X (.Call (.Name x p) (e::es) [] pos) (Be r t):=by
 intro pins s σ H Q I h
 refine wpAny_Call_Name_kw (jO I hg hm hv ?_ hn hdb)
 exact PyProof.Rows.callWith_type1 (bj (ha pos pins s σ H _ I h) fun us s1 ⟨vs,H1,I1,r1,q1⟩=>hc pins s1 σ H1 vs us Q I1 r1 q1) he hpl
end
end L2
namespace HT
open PySem PyProof.Rows
section
variable {prog:Program}{w:World}{A:Around}{E:Value->Shared->Prop}{s:Shared}
theorem cat_tup {t b:Addr}{vs ws:List Value}{Q:Value->Shared->Prop}(ht:IsTup s.heap t vs.toArray)(hb:IsTup s.heap b ws.toArray)(hv:vs≠[])
  (h1:ws=[]->Q (.ref t) s) (h2:ws≠[]->Q (.ref s.heap.objs.size) { s with heap:=s.heap.push { cls:=.type "tuple",data:=.seq (vs++ws).toArray } })
  (hsz:vs.length+ws.length≤sizeLine):wpAny (model prog w) A (binaryOp .Add (.ref t) (.ref b)) Q E s:=by
 obtain⟨⟨cls,dd,data,sl⟩,ho,hc,n,hd⟩:=id ht
 obtain⟨⟨cls2,dd2,data2,sl2⟩,ho2,hc2,n2,hd2⟩:=id hb
 simp only at hc hd hc2 hd2
 subst hc hd hc2 hd2
 have e:vs.toArray++ws.toArray=(vs++ws).toArray:=by simp
 by_cases hw:ws=[]
 ·exact concat_meets ⟨_,ho,rfl⟩ ⟨_,ho2,rfl⟩ noFill_tuple_add seq_tuple_add PySem.F.slot_tuple_add PySem.F.entry_tuple_add (PySem.F.args_tuple_add_2 _ _)
   (tuple_addW1 t b vs.toArray ws.toArray n n2 dd dd2 sl sl2 (by simpa using hv) (by simp[hw])) ⟨ho,ho2,h1 hw⟩
 ·refine concat_meets ⟨_,ho,rfl⟩ ⟨_,ho2,rfl⟩ noFill_tuple_add seq_tuple_add PySem.F.slot_tuple_add PySem.F.entry_tuple_add (PySem.F.args_tuple_add_2 _ _)
   (tuple_addW2 t b vs.toArray ws.toArray n n2 dd dd2 sl sl2 (by simpa using hv) (by simpa using hw) (by rw[List.size_toArray,List.size_toArray];exact hsz)) ⟨ho,ho2,?_⟩
  rw[e]
  exact h2 hw
noncomputable def sIx (n d:Nat):Option Int->Nat
 |none=>d
 |some v=>if v<0 then (v+(n:Int)).toNat else min v.toNat n
theorem sIx_none (n d:Nat):sIx n d none=d:=rfl
theorem sIx_nat (n d k:Nat):sIx n d (some (k:Int))=min k n:=by
 show (if (k:Int)<0 then ((k:Int)+(n:Int)).toNat else min (k:Int).toNat n)=min k n
 rw[if_neg (by omega),Int.toNat_natCast]
theorem Lf (n d:Nat)(hd:d≤n)(o:Option Int):sIx n d o≤n:=by
 cases o with
 |none=>exact hd
 |some v=>
  show (if v<0 then (v+(n:Int)).toNat else min v.toNat n)≤n
  by_cases hv:v<0
  ·rw[if_pos hv];omega
  ·rw[if_neg hv];exact Nat.min_le_right _ _
theorem vo (v:Int)(n d:Nat):(if v<0 then max (v+(n:Int)) 0 else min v (n:Int))=((sIx n d (some v):Nat):Int):=by
 show (if v<0 then max (v+(n:Int)) 0 else min v (n:Int))=(((if v<0 then (v+(n:Int)).toNat else min v.toNat n):Nat):Int)
 by_cases hv:v<0
 ·simp only[if_pos hv];omega
 ·simp only[if_neg hv];omega
theorem uP (lo hi:Option Int)(n:Nat):Builtin.Slice.sliceAdjust lo hi 1 (n:Int)=(((sIx n 0 lo:Nat):Int),((sIx n n hi:Nat):Int)):=by
 have h1:¬((1:Int)<0):=by omega
 unfold Builtin.Slice.sliceAdjust
 simp only[h1,if_false]
 refine Prod.ext ?_ ?_
 ·cases lo with
  |none=>rfl
  |some v=>exact vo v n 0
 ·cases hi with
  |none=>rfl
  |some v=>exact vo v n n
theorem u8 (i j:Nat):Builtin.Slice.slicePlaces (i:Int) (j:Int) 1=j - i:=by
 unfold Builtin.Slice.slicePlaces
 have h1:(1:Int) > 0:=by omega
 simp only[h1,if_true,Int.ediv_one]
 split<;>omega
theorem nP {v:Value}{o:Option Int}{Q:Option Int->Shared->Prop}(p:IsPart v o)(h:Q o s):wpAny (model prog w) A (Builtin.Slice.slicePartIndex v) Q E s:=by
 cases p with
 |none=>exact slicePart_none h
 |int i t=>exact slicePart_int h
theorem ib {sl:Addr}{vl vu:Value}{lo hi:Option Int}{n:Nat}{Q:Int×Int×Nat->Shared->Prop}(hs:s.heap.IsSliceOf sl vl vu .none)(pl:IsPart vl lo)(pu:IsPart vu hi)
  (h:Q (((sIx n 0 lo:Nat):Int),1,sIx n n hi - sIx n 0 lo) s):wpAny (model prog w) A (Builtin.Slice.sliceApplied (.ref sl) (pure (n:Int))) Q E s:=by
 obtain⟨os,hos,hcs,lP⟩:=id hs
 unfold Builtin.Slice.sliceApplied Builtin.Slice.sliceFields
 refine wpAny_bind (wpAny_bind (wpAny_field hos lP (x:=vl) rfl (wpAny_bind (wpAny_field hos lP (x:=vu) rfl (wpAny_bind (wpAny_field hos lP (x:=.none) rfl (wpAny_pure ?_)))))))
 refine wpAny_bind (slicePart_none ?_)
 show wpAny _ _ (if ((1:Int)==0)=true then _ else _) _ _ s
 rw[if_neg (by decide)]
 refine wpAny_bind (nP pl (wpAny_bind (nP pu (wpAny_bind (wpAny_pure ?_)))))
 show wpAny _ _ (match Builtin.Slice.sliceAdjust lo hi 1 (n:Int) with|(lo,hi)=>pure (lo,(1:Int),Builtin.Slice.slicePlaces lo hi 1)) _ _ s
 rw[uP lo hi n]
 show wpAny _ _ (pure (((sIx n 0 lo:Nat):Int),(1:Int),Builtin.Slice.slicePlaces ((sIx n 0 lo:Nat):Int) ((sIx n n hi:Nat):Int) 1)) _ _ s
 rw[u8]
 exact wpAny_pure h
theorem zN (xs:Array Value)(i k:Nat):((List.range k).filterMap fun (m:Nat)=>xs[((i:Int)+(m:Int) * 1).toNat]?).toArray=((xs.toList.drop i).take k).toArray:=by
 have e:(fun (m:Nat)=>xs[((i:Int)+(m:Int) * 1).toNat]?)=fun m=>xs[i+m]?:=by
  funext m
  have:((i:Int)+(m:Int) * 1).toNat=i+m:=by omega
  rw[this]
 rw[e]
 have:=pick_run xs i k
 rw[List.filterMap_map] at this
 have e2:((fun x=>xs[x]?) ∘ fun x=>i+x)=fun m=>xs[i+m]?:=rfl
 rw[e2] at this
 rw[this]
theorem getItem_tuple_cut {t sl:Addr}{items:Array Value}{vl vu:Value}{lo hi:Option Int}{Q:Value->Shared->Prop}(ht:IsTup s.heap t items)(hs:s.heap.IsSliceOf sl vl vu .none)(pl:IsPart vl lo)(pu:IsPart vu hi)
  (hw:¬(sIx items.size 0 lo=0/\sIx items.size items.size hi=items.size))
  (h:Q (.ref s.heap.objs.size) { s with heap:=s.heap.push { cls:=.type "tuple",data:=.seq ((items.toList.drop (sIx items.size 0 lo)).take (sIx items.size items.size hi - sIx items.size 0 lo)).toArray } })
  (hsz:items.size≤sizeLine):wpAny (model prog w) A (getItem (.ref t) (.ref sl)) Q E s:=by
 have htake:sizeOk (.seq ((items.toList.drop (sIx items.size 0 lo)).take (sIx items.size items.size hi - sIx items.size 0 lo)).toArray):=by
  show ((items.toList.drop (sIx items.size 0 lo)).take (sIx items.size items.size hi - sIx items.size 0 lo)).toArray.size≤sizeLine
  rw[List.size_toArray,List.length_take,List.length_drop,Array.length_toList]
  omega
 have hj:sIx items.size items.size hi≤items.size:=Lf _ _ (Nat.le_refl _) hi
 obtain⟨os,hos,hcs,lP⟩:=id hs
 have hTs:s.TypeIs (.ref sl) "slice":=⟨os,hos,hcs⟩
 unfold getItem
 try with_reducible refine wpAny_holding ?_
 first|refine wpAny_bind (wpAny_pure ?_)|skip
 refine wpAny_bind (wpAny_sequenceKey ht.typeIs (by decide) ?_)
 refine wpAny_bind (wpAny_callSpecial?_slot (name:=Str.ofString "__getitem__") ht.typeIs PyProof.Rows.slot_tuple_getitem
  (wpAny_call_entry PyProof.Rows.slot_tuple_getitem ht.typeIs entry_tuple_getitem ?_ (args_tuple_getitem _ _)))
 show wpAny _ _ (Builtin.Tuple.tupleItemsOf (.ref t) >>= _) _ _ s
 refine wpAny_bind (tupleItemsOf_ ht ?_)
 refine wpAny_bind (wpAny_typeOf hTs ?_)
 rw[if_pos (by decide)]
 refine wpAny_bind (ib hs pl pu ?_)
 have hno:¬((((sIx items.size 0 lo:Nat):Int)==0&&(1:Int)==1&&(sIx items.size items.size hi - sIx items.size 0 lo)==items.size)=true):=by
  intro q
  rw[Bool.and_eq_true,Bool.and_eq_true] at q
  have q1:((sIx items.size 0 lo:Nat):Int)=0:=eq_of_beq q.1.1
  have q2:sIx items.size items.size hi - sIx items.size 0 lo=items.size:=eq_of_beq q.2
  exact hw ⟨by omega,by omega⟩
 show wpAny _ _ (if (((sIx items.size 0 lo:Nat):Int)==0&&(1:Int)==1&&(sIx items.size items.size hi - sIx items.size 0 lo)==items.size)=true then _ else _) _ _ s
 rw[if_neg hno,zN]
 first
  |exact wpAny_bind (m:=Builtin.Tuple.tupleExact _) (wpAny_newObj_type (wpAny_pure ⟨_,rfl,wpAny_pure h⟩) htake)
  |exact wpAny_bind (m:=Builtin.Tuple.tupleExact _) (wpAny_newObj_type (wpAny_bind (wpAny_pure (wpAny_pure ⟨_,rfl,wpAny_pure h⟩))) htake)
  |exact wpAny_bind (wpAny_bind (m:=Builtin.Tuple.tupleExact _) (wpAny_newObj_type (wpAny_pure (wpAny_pure ⟨_,rfl,wpAny_pure h⟩)) htake))
  |exact wpAny_bind (wpAny_bind (m:=Builtin.Tuple.tupleExact _) (wpAny_newObj_type (wpAny_pure ⟨_,rfl,wpAny_pure h⟩) htake))
end
end HT
namespace L2
open PySem PySem.Spec PyProof.Rows
noncomputable abbrev TO:=St->Hp->(Option Int->Hp->Prop)->Prop
noncomputable def PO (X:Cx)(e:Option Expr)(t:TO):Prop:=
 ∀(pins:List (Addr×Obj)) (s:Shared) (σ:St) (H:Hp) (Q:Option Int->Hp->Prop),Inv X pins σ H s->t σ H Q →
  wpAny (model X.prog X.w) X.A (evalPart e X.env) (fun u s'=>∃o H',Inv X pins σ H' s'/\IsPart u o/\Q o H') X.xe s
noncomputable def EI:TO:=fun _ H Q=>Q none H
noncomputable def Nd (t:TE):TO:=fun σ H Q=>t σ H fun x H1=>∃i,x=.int i/\Q (some i) H1
section
variable {X:Cx}{e:Expr}{te:TE}{lo hi:Option Expr}{tl th:TO}{pos p2:Pos}
theorem CV:PO X none EI:=by
 intro pins s σ H Q I h
 rw[evalPart_none]
 exact wpAny_pure ⟨none,H,I,.none,h⟩
theorem EV (h:PE X e te):PO X (some e) (Nd te):=by
 intro pins s σ H Q I hw
 rw[evalPart_some]
 refine bj (h pins s σ H _ I hw) fun u s1 ⟨x,H1,I1,r1,q1⟩=>?_
 obtain⟨i,rfl,q⟩:=q1
 obtain⟨t,rfl⟩:=r1
 exact⟨some i,H1,I1,.int i t,q⟩
noncomputable def SlR (X:Cx)(r:V->Option Int->Option Int->Hp->VK->Prop):Prop:=
 ∀(pins:List (Addr×Obj)) (s:Shared) (σ:St) (H:Hp) (x:V) (v vl vu:Value) (lo hi:Option Int) (sl:Addr) (Q:VK),Inv X pins σ H s->RelV x v->s.heap.IsSliceOf sl vl vu .none->IsPart vl lo->IsPart vu hi->r x lo hi H Q →
  ∃T id,typeLookup (.type T) "__getitem__" = pure (some (.builtin id))/\s.TypeIs v T/\wpAny (model X.prog X.w) X.A (getItem v (.ref sl)) (EP X pins σ Q) X.xe s
theorem SlR.or {r r':V->Option Int->Option Int->Hp->VK->Prop}(h:SlR X r)(h':SlR X r'):SlR X (fun x lo hi H Q=>r x lo hi H Q\/r' x lo hi H Q):=by
 intro pins s σ H x v vl vu lo hi sl Q I rx hs pl pu q
 rcases q with q|q
 ·exact h pins s σ H x v vl vu lo hi sl Q I rx hs pl pu q
 ·exact h' pins s σ H x v vl vu lo hi sl Q I rx hs pl pu q
noncomputable def RH (r:V->Option Int->Option Int->Hp->VK->Prop)(te:TE)(tl th:TO):TE:=fun σ H Q=>te σ H fun x H1=>tl σ H1 fun l H2=>th σ H2 fun u H3=>r x l u H3 Q
theorem nN {r:V->Option Int->Option Int->Hp->VK->Prop}(hr:SlR X r)(he:PE X e te)(hl:PO X lo tl)(hu:PO X hi th):PE X (.Subscript e (.Slice lo hi none p2) pos) (RH r te tl th):=by
 intro pins s σ H Q I h
 refine Subscript_ (bj (he pins s σ H _ I h) fun v s1 ⟨x,H1,I1,r1,q1⟩=>?_)
 refine wpAny_Slice (bj (hl pins s1 σ H1 _ I1 q1) fun vl s2 ⟨l,H2,I2,pl,q2⟩=>bj (hu pins s2 σ H2 _ I2 q2) fun vu s3 ⟨u,H3,I3,pu,q3⟩=>?_)
 rw[evalPart_none]
 refine wpAny_pure ?_
 have I4:Inv X pins σ H3 { s3 with heap:=s3.heap.push { cls:=.type "slice",data:=.fields #[vl,vu,.none] } }:=I3.kept (t':=s3.toks) fun b ob q=>Heap.get?_push_of_some _ q
 obtain⟨T,id,hT,ht,hg⟩:=hr pins { s3 with heap:=s3.heap.push { cls:=.type "slice",data:=.fields #[vl,vu,.none] } } σ H3 x v vl vu l u s3.heap.objs.size Q I4 r1 (Heap.IsSliceOf.new ..) pl pu q3
 show wpAny (model X.prog X.w) X.A (subscriptTail e (.Slice lo hi none p2) v (.ref s3.heap.objs.size)) (EP X pins σ Q) X.xe { s3 with heap:=s3.heap.push { cls:=.type "slice",data:=.fields #[vl,vu,.none] } }
 exact tail_any (ops:=[.ref s3.heap.objs.size,v]) ht hT hg (by with_unfolding_all rfl)
noncomputable def sq (xs:List V)(lo hi:Option Int):List V:=(xs.drop (HT.sIx xs.length 0 lo)).take (HT.sIx xs.length xs.length hi - HT.sIx xs.length 0 lo)
theorem lX (xs:List V)(lo hi:Option Int):(sq xs lo hi).length≤xs.length:=by
 unfold sq
 rw[List.length_take,List.length_drop]
 omega
noncomputable def QM (K:PySem.W.Frag):V->Option Int->Option Int->Hp->VK->Prop:=fun x lo hi H Q=>∃a xs,x=.ref a/\SqT K H a xs ∧
 ¬(HT.sIx xs.length 0 lo=0/\HT.sIx xs.length xs.length hi=xs.length)/\∀p,H p=none->Q (.ref p) (upd H p (.tup (sq xs lo hi)))
theorem IB:SlR X (QM X.K):=by
 intro pins s σ H x v vl vu lo hi sl Q I rx hs pl pu h
 obtain⟨a,xs,rfl,hx,hw,q⟩:=h
 cases rx
 obtain⟨its,r,ht,hz⟩:=I.tuple hx
 have hlen:its.toArray.size=xs.length:=by rw[List.size_toArray];exact r.length.symm
 refine⟨"tuple",_,PyProof.Rows.slot_tuple_getitem.lookup,ht.typeIs,?_⟩
 refine HT.getItem_tuple_cut ht hs pl pu (by rw[hlen];exact hw) ?_ (by rw[hlen];exact hz)
 rw[hlen]
 refine⟨.ref s.heap.objs.size,_,I.laid (t':=s.toks) (o:=.tup (sq xs lo hi)) (fun b ob q=>Heap.get?_push_of_some _ q) (Nat.le_refl _) ?_,rfl,q _ (I.hok.fresh (Nat.le_refl _))⟩
 exact⟨Nat.le_trans (lX xs lo hi) hz,_,(r.drop (HT.sIx xs.length 0 lo)).take (HT.sIx xs.length xs.length hi - HT.sIx xs.length 0 lo),IsTup.new _ _⟩
noncomputable def Gs (K:PySem.W.Frag):R2:=fun x y H Q=>∃a b xs ys,x=.ref a/\y=.ref b/\SqT K H a xs/\SqT K H b ys/\xs≠[]/\xs.length+ys.length≤sizeLine ∧
 (ys=[]->Q (.ref a) H)/\(ys≠[]->∀p,H p=none->Q (.ref p) (upd H p (.tup (xs++ys))))
theorem Vals.nil_iff {xs:List V}{us:List Value}(r:Vals xs us):us=[]↔xs=[]:=by
 cases r with
 |nil=>simp
 |cons _ _=>simp
theorem Fk:OpR X (binaryOp .Add) (Gs X.K):=by
 intro pins s σ H x y v u Q I rx ry h
 obtain⟨a,b,xs,ys,rfl,rfl,ha,hb,hx,hz,q1,q2⟩:=h
 cases rx
 cases ry
 obtain⟨its,r1,p1,_⟩:=I.tuple ha
 obtain⟨its2,r2,p2,_⟩:=I.tuple hb
 refine HT.cat_tup p1 p2 (fun z=>hx (r1.nil_iff.mp z)) (fun z=>⟨.ref a,H,I,rfl,q1 (r2.nil_iff.mp z)⟩) (fun z=>?_) (by rw[←r1.length,←r2.length];exact hz)
 refine⟨.ref s.heap.objs.size,_,I.laid (t':=s.toks) (o:=.tup (xs++ys)) (fun b ob q=>Heap.get?_push_of_some _ q) (Nat.le_refl _) ?_,rfl,q2 (fun w=>z (r2.nil_iff.mpr w)) _ (I.hok.fresh (Nat.le_refl _))⟩
 exact⟨by rw[List.length_append];exact hz,_,r1.append r2,IsTup.new _ _⟩
end
end L2
namespace L2
open PySem PySem.Spec PyProof.Rows
noncomputable def qw (n:Nat)(i:Int):Option Nat:=if 0≤i then (if i<n then some i.toNat else none) else if -(n:Int)≤i then some (i+n).toNat else none
noncomputable def atI {α:Type}(xs:List α)(i:Int):Option α:=(qw xs.length i).bind fun j=>xs[j]?
theorem vV {n:Nat}{i:Int}{j:Nat}(h:qw n i=some j):seqIndex? i n=some j/\j<n/\-(n:Int)≤i/\i<n:=by
 unfold qw at h
 by_cases h0:0≤i
 ·rw[if_pos h0] at h
  by_cases h1:i<n
  ·rw[if_pos h1] at h
   have e:i.toNat=j:=Option.some.inj h
   exact⟨by rw[seqIndex_of h0 h1,e],by omega,by omega,h1⟩
  ·rw[if_neg h1] at h;cases h
 ·rw[if_neg h0] at h
  by_cases h1:-(n:Int)≤i
  ·rw[if_pos h1] at h
   have e:(i+n).toNat=j:=Option.some.inj h
   exact⟨by rw[seqIndex_neg (by omega) h1,e],by omega,h1,by omega⟩
  ·rw[if_neg h1] at h;cases h
theorem mm {α:Type}{xs:List α}{i:Int}{v:α}(h:atI xs i=some v):∃j,seqIndex? i xs.length=some j/\xs[j]?=some v/\j<xs.length/\-(xs.length:Int)≤i/\i<xs.length:=by
 unfold atI at h
 cases e:qw xs.length i with
 |none=>rw[e] at h;cases h
 |some j=>
  rw[e] at h
  obtain⟨h1,h2,h3,h4⟩:=vV e
  exact⟨j,h1,h,h2,h3,h4⟩
theorem fU {α:Type}{xs:List α}{j:Nat}{v:α}(h:xs[j]?=some v):atI xs (j:Int)=some v:=by
 have hj:j<xs.length:=(List.getElem?_eq_some_iff.mp h).1
 have e:qw xs.length (j:Int)=some j:=by
  unfold qw
  rw[if_pos (by omega),if_pos (by omega)];simp
 unfold atI;rw[e];exact h
theorem hZ {α:Type}(xs:List α)(v:α):atI (xs++[v]) (-1)=some v:=by
 have hl:(xs++[v]).length=xs.length+1:=by simp
 have e:qw (xs++[v]).length (-1)=some xs.length:=by
  unfold qw
  rw[hl,if_neg (by decide),if_pos (by omega)]
  congr 1
  omega
 unfold atI
 rw[e]
 show (xs++[v])[xs.length]?=some v
 simp
noncomputable def jj (b:Expr):Prop:=∀o i,subscripted b false o i=operate [o,i] (getItem o i)
noncomputable def IxR (X:Cx)(r:R2):Prop:=
 ∀(value slice:Expr) (pins:List (Addr×Obj)) (s:Shared) (σ:St) (H:Hp) (x y:V) (v u:Value) (Q:VK),Inv X pins σ H s->RelV x v->RelV y u->r x y H Q →
  subscripted slice false v u=operate [v,u] (getItem v u)->wpAny (model X.prog X.w) X.A (subscriptTail value slice v u) (EP X pins σ Q) X.xe s
noncomputable def MtR (X:Cx)(id:String)(r:V->List V->Hp->VK->Prop):Prop:=
 ∀(pins:List (Addr×Obj)) (s:Shared) (σ:St) (H:Hp) (x:V) (xs:List V) (v:Value) (us:List Value) (Q:VK),Inv X pins σ H s->RelV x v->Vals xs us->r x xs H Q →
  wpAny (model X.prog X.w) X.A (call (.builtin id) (v::us)) (EP X pins σ Q) X.xe s
section
variable {X:Cx}{a b:Expr}{ta tb:TE}{pos:Pos}
theorem IxR.or {r r':R2}(h:IxR X r)(h':IxR X r'):IxR X (fun x y H Q=>r x y H Q\/r' x y H Q):=by
 intro value slice pins s σ H x y v u Q I rx ry q hs
 rcases q with q|q
 ·exact h value slice pins s σ H x y v u Q I rx ry q hs
 ·exact h' value slice pins s σ H x y v u Q I rx ry q hs
theorem MtR.or {id:String}{r r':V->List V->Hp->VK->Prop}(h:MtR X id r)(h':MtR X id r'):MtR X id (fun x xs H Q=>r x xs H Q\/r' x xs H Q):=by
 intro pins s σ H x xs v us Q I rx rs q
 rcases q with q|q
 ·exact h pins s σ H x xs v us Q I rx rs q
 ·exact h' pins s σ H x xs v us Q I rx rs q
theorem Az {r:R2}(hr:IxR X r)(ha:PE X a ta)(hb:PE X b tb)(hs:jj b):PE X (.Subscript a b pos) (LK r ta tb):=by
 intro pins s σ H Q I h
 exact Subscript_ (JX ha hb I h fun v u s2 x y H2 I2 rx ry q=>hr a b pins s2 σ H2 x y v u Q I2 rx ry q (hs _ _))
noncomputable def OT (K:PySem.W.Frag):R2:=fun x y H Q=>∃p xs i v,x=.ref p/\y=.int i/\SqL K H p xs/\atI xs i=some v/\Q v H
noncomputable def Mh (K:PySem.W.Frag):R2:=fun x y H Q=>∃p xs i v,x=.ref p/\y=.int i/\SqT K H p xs/\atI xs i=some v/\Q v H
noncomputable def Mb:R2:=fun x y H Q=>∃z i c,x=.str z/\y=.int i/\z.length≤sizeLine/\atI z.cps.toList i=some c/\Q (.str ⟨#[c]⟩) H
theorem ix_list:IxR X (OT X.K):=by
 intro value slice pins s σ H x y v u Q I rx ry h hs
 obtain⟨p,xs,i,z,rfl,rfl,hq,he,q⟩:=h
 cases rx
 obtain⟨t,rfl⟩:=ry
 obtain⟨its,r,pl,hz⟩:=I.list hq
 obtain⟨j,h1,h2,h3,h4,h5⟩:=mm he
 obtain⟨w,ew,rw'⟩:=r.get h2
 have hl:=r.length
 have hn:=lx
 have fin:EP X pins σ Q w s:=⟨z,H,I,rw',q⟩
 by_cases h0:0≤i
 ·have hj:i.toNat=j:=by
   rw[seqIndex_of h0 h5] at h1
   exact Option.some.inj h1
  exact item_listR pl.isList h0 (by omega) (by rw[hj];simpa using ew) fin hs
 ·have hj:(i+(its.toArray.size:Int)).toNat=j:=by
   rw[seqIndex_neg (by omega) h4] at h1
   rw[List.size_toArray,←hl]
   exact Option.some.inj h1
  exact subscriptTail_builtinR (x:=w) pl.isList.typeIs slot_list_getitem.lookup
   (wpAny_getItem_list_neg (Q:=fun r s'=>r=w/\EP X pins σ Q r s') pl.isList (by omega) (by rw[List.size_toArray]<;>omega) (by omega) (by rw[hj];simpa using ew) ⟨rfl,fin⟩) hs
theorem ix_tup:IxR X (Mh X.K):=by
 intro value slice pins s σ H x y v u Q I rx ry h hs
 obtain⟨p,xs,i,z,rfl,rfl,hq,he,q⟩:=h
 cases rx
 obtain⟨t,rfl⟩:=ry
 obtain⟨its,r,pl,hz⟩:=I.tuple hq
 obtain⟨j,h1,h2,h3,h4,h5⟩:=mm he
 obtain⟨w,ew,rw'⟩:=r.get h2
 have hl:=r.length
 have hn:=lx
 have fin:EP X pins σ Q w s:=⟨z,H,I,rw',q⟩
 exact subscriptTail_builtinR (x:=w) pl.typeIs slot_tuple_getitem.lookup
  (getItem_tuple (j:=j) (Q:=fun r s'=>r=w/\EP X pins σ Q r s') pl (by omega) (by omega) (by rw[List.size_toArray,←hl];exact h1) (by simpa using ew) ⟨rfl,fin⟩) hs
theorem Lr:IxR X Mb:=by
 intro value slice pins s σ H x y v u Q I rx ry h hs
 obtain⟨z,i,c,rfl,rfl,hz,he,q⟩:=h
 obtain⟨t,rfl⟩:=rx
 obtain⟨t',rfl⟩:=ry
 obtain⟨j,h1,h2,h3,h4,h5⟩:=mm he
 have hl:z.cps.toList.length=z.length:=by simp[Str.length]
 rw[hl] at h1 h4 h5
 have hn:=lx
 exact tail_any (typeIs_str s z t) slot_str_getitem.lookup (getItem_str (c:=c) (by
  have e1:decide (i < -(2 ^ 63:Int))=false:=decide_eq_false (by omega)
  have e2:decide (i ≥ 2 ^ 63)=false:=decide_eq_false (by omega)
  rw[e1,e2,Bool.or_false]) (by rw[h1];simpa using h2) ⟨.str ⟨#[c]⟩,H,I.tok _,⟨_,rfl⟩,q⟩) hs
noncomputable def eg (K:PySem.W.Frag):R2:=fun x y H Q=>OT K x y H Q\/Mh K x y H Q\/Mb x y H Q
theorem BM:IxR X (eg X.K):=ix_list.or (ix_tup.or Lr)
theorem uo (its:List Value)(n j:Nat)(u:Value):Obj.mapSeq (·.setIfInBounds j u) { cls:=.type "list",data:=.seq its.toArray n }={ cls:=.type "list",data:=.seq (its.set j u).toArray n }:=by
 simp[Obj.mapSeq]
theorem Inv.lst {pins:List (Addr×Obj)}{σ:St}{H:Hp}{s:Shared}{p:Addr}{xs:List V}(I:Inv X pins σ H s)(h:H p=some (.lst xs)) :
  ∃(its:List Value) (n:Nat),Vals xs its/\s.heap.get? p=some { cls:=.type "list",data:=.seq its.toArray n }/\xs.length≤sizeLine:=by
 obtain⟨z,its,n,r,e⟩:=I.hok p _ h
 exact⟨its,n,r,e,z⟩
theorem Inv.lstUpd {pins:List (Addr×Obj)}{σ:St}{H:Hp}{s:Shared}{p:Addr}{xs ys:List V}{its its':List Value}{n n':Nat}{f:Obj->Obj}(I:Inv X pins σ H s)(h:H p=some (.lst xs))
  (ho:s.heap.get? p=some { cls:=.type "list",data:=.seq its.toArray n }) (hf:f { cls:=.type "list",data:=.seq its.toArray n }={ cls:=.type "list",data:=.seq its'.toArray n' }) (r:Vals ys its') (hz:ys.length≤sizeLine) (t:Nat) :
  Inv X pins σ (upd H p (.lst ys)) { s with heap:=s.heap.update p f,toks:=t }:=by
 have e:(s.heap.update p f).get? p=some { cls:=.type "list",data:=.seq its'.toArray n' }:=by
  rw[Heap.get?_update_self f ho (by rw[hf]<;>rfl),hf]
 refine I.write (x:=p) (e:=p) (by rw[h];trivial) (.inl rfl) (fun b u hb q=>(Heap.get?_update_other _ _ (Ne.symm hb)).trans q) ⟨_,e⟩ ?_
 exact⟨hz,its',n',r,e⟩
noncomputable def Bx:V->V->V->Hp->(Hp->Prop)->Prop:=fun o i v H Q=>∃p xs k j,o=.ref p/\i=.int k/\H p=some (.lst xs)/\qw xs.length k=some j/\Q (upd H p (.lst (xs.set j v)))
theorem tQ:Hl X Bx:=by
 intro pins s σ H o i v ov iv u Q I ro ri rv h
 obtain⟨p,xs,k,j,rfl,rfl,hp,hj,q⟩:=h
 cases ro
 obtain⟨t,rfl⟩:=ri
 obtain⟨its,n,r,ho,hz⟩:=I.lst hp
 obtain⟨h1,h2,h3,h4⟩:=vV hj
 have hl:=r.length
 have hn:=lx
 have I':Inv X pins σ (upd H p (.lst (xs.set j v))) { s with heap:=s.heap.update p (Obj.mapSeq (·.setIfInBounds j u)) }:=
  I.lstUpd hp ho (uo its n j u) (r.set rv j) (by rw[List.length_set];exact hz) s.toks
 by_cases h0:0≤k
 ·have hk:k.toNat=j:=by
   rw[seqIndex_of h0 h4] at h1
   exact Option.some.inj h1
  exact PySem.W.ki_setAt ho h0 (by omega) (by rw[List.size_toArray,←hl];exact h4) (by rw[hk];exact⟨_,I',q⟩)
 ·have hk:(k+(its.toArray.size:Int)).toNat=j:=by
   rw[seqIndex_neg (by omega) h3] at h1
   rw[List.size_toArray,←hl]
   exact Option.some.inj h1
  exact PySem.W.ki_setBack ho (by omega) (by rw[List.size_toArray,←hl];exact h3) (by omega) (by rw[hk];exact⟨_,I',q⟩)
theorem qE (lo hi:Option Int)(n:Nat):(sliceBounds lo hi none n).1=((HT.sIx n 0 lo:Nat):Int)/\(sliceBounds lo hi none n).2.1=((HT.sIx n n hi:Nat):Int)/\(sliceBounds lo hi none n).2.2=1:=by
 refine⟨?_,?_,rfl⟩
 ·cases lo with
  |none=>simp[sliceBounds,HT.sIx]
  |some i=>
   simp only[sliceBounds,HT.sIx,Option.getD_none,show (1:Int) > 0 by decide,if_true]
   by_cases h:i<0
   ·simp only[h,if_true]<;>omega
   ·simp only[h,if_false]<;>omega
 ·cases hi with
  |none=>simp[sliceBounds,HT.sIx]
  |some i=>
   simp only[sliceBounds,HT.sIx,Option.getD_none,show (1:Int) > 0 by decide,if_true]
   by_cases h:i<0
   ·simp only[h,if_true]<;>omega
   ·simp only[h,if_false]<;>omega
theorem ox (its:List Value)(lo hi:Option Int):slicePick its.toArray lo hi none=((its.drop (HT.sIx its.length 0 lo)).take (HT.sIx its.length its.length hi - HT.sIx its.length 0 lo)).toArray:=by
 obtain⟨h1,h2,h3⟩:=qE lo hi its.toArray.size
 unfold slicePick
 rw[h1,h2,h3]
 simp only[sliceRange_one,pick_run,List.size_toArray]<;>rfl
noncomputable def O7 (K:PySem.W.Frag):V->Option Int->Option Int->Hp->VK->Prop:=fun x lo hi H Q=>∃a xs,x=.ref a/\SqL K H a xs/\∀p,H p=none->Q (.ref p) (upd H p (.lst (sq xs lo hi)))
theorem C2:SlR X (O7 X.K):=by
 intro pins s σ H x v vl vu lo hi sl Q I rx hs pl pu h
 obtain⟨a,xs,rfl,hx,q⟩:=h
 cases rx
 obtain⟨its,r,ht,hz⟩:=I.list hx
 have hlen:=r.length
 refine⟨"list",_,slot_list_getitem.lookup,ht.isList.typeIs,?_⟩
 refine wpAny_getItem_list_slice ht.isList hs pl pu .none (by simp) ?_ (by rw[List.size_toArray]<;>omega)
 rw[ox,←hlen]
 refine⟨.ref s.heap.objs.size,_,I.laid (t':=s.toks) (o:=.lst (sq xs lo hi)) (fun b ob q=>Heap.get?_push_of_some _ q) (Nat.le_refl _) ?_,rfl,q _ (I.hok.fresh (Nat.le_refl _))⟩
 exact⟨Nat.le_trans (lX xs lo hi) hz,_,0,(r.drop (HT.sIx xs.length 0 lo)).take (HT.sIx xs.length xs.length hi - HT.sIx xs.length 0 lo),Heap.get?_push_size _ rfl⟩
noncomputable def i7:V->Bool
 |.non=>true
 |.bl _=>true
 |.int _=>true
 |.str _=>true
 |_=>false
noncomputable def wz:V->V->Bool
 |.non,.non=>true
 |.bl a,.bl b=>a==b
 |.bl a,.int b=>(if a then 1 else 0)==b
 |.int a,.bl b=>a==(if b then 1 else 0)
 |.int a,.int b=>a==b
 |.str a,.str b=>a==b
 |_,_=>false
theorem JH {A:Around}{s:Shared}{y x:V}{u v:Value}(ry:RelV y u)(rx:RelV x v)(fy:i7 y=true)(fx:i7 x=true):SeqAt.EqAt A s u v (wz y x):=by
 cases y with
 |non=>
  cases ry
  cases x with
  |non=>cases rx;exact SeqAt.EqAt.same _
  |bl b=>cases rx;exact SeqAt.EqAt.none_bool b
  |int b=>obtain⟨t,rfl⟩:=rx;exact SeqAt.EqAt.none_int b t
  |str b=>obtain⟨t,rfl⟩:=rx;exact SeqAt.EqAt.none_str b t
  |_=>exact absurd (show false=true from fx) Bool.false_ne_true
 |bl a=>
  cases ry
  cases x with
  |non=>cases rx;exact SeqAt.EqAt.bool_none a
  |bl b=>cases rx;exact SeqAt.EqAt.bool_bool a b
  |int b=>obtain⟨t,rfl⟩:=rx;exact SeqAt.EqAt.bool_int a b t
  |str b=>obtain⟨t,rfl⟩:=rx;exact SeqAt.EqAt.bool_str a b t
  |_=>exact absurd (show false=true from fx) Bool.false_ne_true
 |int a=>
  obtain⟨t',rfl⟩:=ry
  cases x with
  |non=>cases rx;exact SeqAt.EqAt.int_none a t'
  |bl b=>cases rx;exact SeqAt.EqAt.int_bool a t' b
  |int b=>obtain⟨t,rfl⟩:=rx;exact SeqAt.EqAt.int_int a t' b t
  |str b=>obtain⟨t,rfl⟩:=rx;exact SeqAt.EqAt.int_str a t' b t
  |_=>exact absurd (show false=true from fx) Bool.false_ne_true
 |str a=>
  obtain⟨t',rfl⟩:=ry
  cases x with
  |non=>cases rx;exact SeqAt.EqAt.str_none a t'
  |bl b=>cases rx;exact SeqAt.EqAt.str_bool a t' b
  |int b=>obtain⟨t,rfl⟩:=rx;exact SeqAt.EqAt.str_int a t' b t
  |str b=>obtain⟨t,rfl⟩:=rx;exact SeqAt.EqAt.str_str a t' b t
  |_=>exact absurd (show false=true from fx) Bool.false_ne_true
 |_=>exact absurd (show false=true from fy) Bool.false_ne_true
noncomputable def Rp (x:V)(xs:List V):Bool:=xs.any fun y=>wz y x
noncomputable def GY (K:PySem.W.Frag)(neg:Bool):R2:=fun x y H Q=>∃p xs,y=.ref p/\(SqL K H p xs\/SqT K H p xs)/\i7 x=true/\xs.all i7=true/\Q (.bl (if neg then !Rp x xs else Rp x xs)) H
theorem CallR.or {f:Value}{r r':List V->Hp->VK->Prop}(h:CallR X f r)(h':CallR X f r'):CallR X f (fun xs H Q=>r xs H Q\/r' xs H Q):=by
 intro pins s σ H xs us Q I rs q
 rcases q with q|q
 ·exact h pins s σ H xs us Q I rs q
 ·exact h' pins s σ H xs us Q I rs q
theorem qD:CallR X (.type "list") (fun xs H Q=>∃p ys,xs=[.ref p]/\(SqL X.K H p ys\/SqT X.K H p ys)/\∀l,H l=none->Q (.ref l) (upd H l (.lst ys))):=by
 intro pins s σ H xs us Q I r h
 obtain⟨p,ys,rfl,hq,q⟩:=h
 obtain⟨u,rfl,rx⟩:=fP r
 cases rx
 have fin:∀(its:List Value),Vals ys its->ys.length≤sizeLine->∀(h':Heap) (c':Nat),(∀b o',s.heap.get? b=some o'->h'.get? b=some o') →
   h'.get? s.heap.objs.size=some { cls:=.type "list",dict:=none,data:=.seq its.toArray c',slots:=#[] }->EP X pins σ Q (.ref s.heap.objs.size) { s with heap:=h' }:=fun its r' hz h' c' kp e=>
  ⟨.ref s.heap.objs.size,_,I.laid (t':=s.toks) kp (Nat.le_refl _) (show ObjOk X.prog X.w _ h' _ (.lst ys) from⟨hz,its,c',r',e⟩),rfl,q _ (I.hok.fresh (Nat.le_refl _))⟩
 rcases hq with hq|hq
 ·obtain⟨its,r',pl,hz⟩:=I.list hq
  have hlen:=r'.length
  obtain⟨o,ho,hc,n,hd⟩:=pl.isList
  exact call_list_seq p (.inl rfl) ho hc hd (fun h' c' kp e=>fin its r' hz h' c' kp e) (by simp only[List.size_toArray]<;>omega)
 ·obtain⟨its,r',pl,hz⟩:=I.tuple hq
  have hlen:=r'.length
  obtain⟨o,ho,hc,n,hd⟩:=pl
  exact call_list_seq p (.inr rfl) ho hc hd (fun h' c' kp e=>fin its r' hz h' c' kp e) (by simp only[List.size_toArray]<;>omega)
theorem jE:CallR X (.type "tuple") (fun xs H Q=>∃p ys,xs=[.ref p]/\((SqL X.K H p ys/\∀l,H l=none->Q (.ref l) (upd H l (.tup ys)))\/(SqT X.K H p ys/\Q (.ref p) H))):=by
 intro pins s σ H xs us Q I r h
 obtain⟨p,ys,rfl,h⟩:=h
 obtain⟨u,rfl,rx⟩:=fP r
 cases rx
 rcases h with ⟨hq,q⟩|⟨hq,q⟩
 ·obtain⟨its,r',pl,hz⟩:=I.list hq
  have hlen:=r'.length
  refine call_tuple_list pl.isList (fun h' kp=>?_) (by simp only[List.size_toArray]<;>omega)
  have I1:Inv X pins σ H { s with heap:=h' }:=I.kept (t':=s.toks) kp
  have I2:Inv X pins σ (upd H h'.objs.size (.tup ys)) { s with heap:=h'.push { cls:=.type "tuple",data:=.seq its.toArray } }:=
   I1.laid (t':=s.toks) (fun b o e=>Heap.get?_push_of_some _ e) (Nat.le_refl _) (show ObjOk X.prog X.w _ _ _ (.tup ys) from⟨hz,its,r',IsTup.new _ _⟩)
  exact⟨.ref h'.objs.size,_,I2,rfl,q _ (I1.hok.fresh (Nat.le_refl _))⟩
 ·obtain⟨its,r',pl,hz⟩:=I.tuple hq
  exact call_tuple_same pl ⟨.ref p,H,I,rfl,q⟩
noncomputable def P5 (K:PySem.W.Frag)(T:String)(x:V)(H:Hp):Prop:=match x with
 |.str _=>T = "str"
 |.int _=>T = "int"
 |.ref p=>(T = "list"/\∃xs,SqL K H p xs)\/(T = "tuple"/\∃o,K.lookup p=some o/\o.cls=.type "tuple"/\o.dict=none) ∨
   (T = "dict"/\((∃kvs,H p=some (.dK kvs))\/∃kvs,H p=some (.dT kvs)))\/(T = "set"/\∃S n,H p=some (.set S n))
 |_=>False
theorem zw {pins:List (Addr×Obj)}{σ:St}{H:Hp}{s:Shared}{T:String}{x:V}{v:Value}(I:Inv X pins σ H s)(r:RelV x v)(ty:P5 X.K T x H) :
  s.TypeIs v T/\∀a,v=.ref a->∃ob,s.heap.get? a=some ob/\ob.dict=none:=by
 cases x with
 |str z=>
  obtain⟨t,rfl⟩:=r
  cases (show T = "str" from ty)
  exact⟨typeIs_str s z t,fun _ e=>nomatch e⟩
 |int i=>
  obtain⟨t,rfl⟩:=r
  cases (show T = "int" from ty)
  exact⟨typeIs_int s i t,fun _ e=>nomatch e⟩
 |ref p=>
  cases r
  rcases ty with ⟨rfl,xs,hq⟩|⟨rfl,o,hk,hc,hd⟩|⟨rfl,hk⟩|⟨rfl,S,n,hk⟩
  ·obtain⟨its,_,pl,_⟩:=I.list hq
   refine⟨pl.isList.typeIs,fun a e=>?_⟩
   cases e
   obtain⟨o,n,e,c,hd,_⟩:=pl
   exact⟨o,e,hd⟩
  ·refine⟨⟨o,I.kIn p o hk,hc⟩,fun a e=>?_⟩
   cases e
   exact⟨o,I.kIn _ o hk,hd⟩
  ·have z:∃o,s.heap.get? p=some o/\o.ExactDict:=by
    rcases hk with ⟨kvs,hk⟩|⟨kvs,hk⟩
    ·obtain⟨_,_,_,_,o,_,_,e,ex,_⟩:=I.hok p _ hk
     exact⟨o,e,ex⟩
    ·obtain⟨_,_,_,_,o,_,_,e,ex,_⟩:=I.hok p _ hk
     exact⟨o,e,ex⟩
   obtain⟨o,e,ex⟩:=z
   refine⟨⟨o,e,ex.1⟩,fun a e2=>?_⟩
   cases e2
   exact⟨o,e,ex.2.1⟩
  ·obtain⟨o,_,_,_,e,ex,_⟩:=I.hok p _ hk
   refine⟨⟨o,e,ex.1⟩,fun a e2=>?_⟩
   cases e2
   exact⟨o,e,ex.2.1⟩
 |_=>exact False.elim ty
noncomputable def Kw (K:PySem.W.Frag)(T:String)(r:V->List V->Hp->VK->Prop)(to:TE):TE:=fun σ H Q=>to σ H fun x H1=>P5 K T x H1/\r x [] H1 Q
noncomputable def O6 (K:PySem.W.Frag)(T:String)(r:V->List V->Hp->VK->Prop)(to:TE)(t:TA):TE:=fun σ H Q=>to σ H fun x H1=>P5 K T x H1/\t σ H1 fun xs H2=>r x xs H2 Q
variable {o e:Expr}{es:List Expr}{to:TE}{t:TA}{name:Str}{apos cpos:Pos}{T id:String}{r:V->List V->Hp->VK->Prop}
theorem Id (pa:PlainAttrs T)(slot:Slot T name id)(hty:typeOf (.builtin id)=pure (.type "method_descriptor"))(hm:MtR X id r)(ho:PE X o to)
  (hbase:attributeBase o name X.env (eval o X.env)=eval o X.env:=by rfl) (hline:(apos.endLine==cpos.line)=true:=by rfl):PE X (.Call (.Attribute o name apos) [] [] cpos) (Kw X.K T r to):=by
 intro pins s σ H Q I h
 refine wpAny_Call_method0_late hbase hline (bj (ho pins s σ H _ I h) fun v s1 ⟨x,H1,I1,r1,ty,q1⟩=>?_)
 obtain⟨h1,h2⟩:=zw I1 r1 ty
 exact⟨T,id,pa,slot,hty,h1,h2,Calls.callWith_builtin rfl (PySem.evalArgs_none (hm pins s1 σ H1 x [] v [] Q I1 r1 .nil q1))⟩
theorem GA (pa:PlainAttrs T)(slot:Slot T name id)(hty:typeOf (.builtin id)=pure (.type "method_descriptor"))(hm:MtR X id r)(ho:PE X o to)(ha:PA X (e::es) t)
  (hbase:attributeBase o name X.env (eval o X.env)=eval o X.env:=by rfl)
  (hfew:((backTo cpos (starEach (e::es) X.env)).all (fun x=>!x.1)&&(backToKw cpos (keywordEach [] X.env)).all (fun x=>x.1.isSome)
   && decide ((e::es).length+([]:List Keyword).length+(if ([]:List Keyword).isEmpty then 0 else 1)<30))=true:=by rfl)
  (hline:(apos.endLine==cpos.line)=true:=by rfl) (hs:starEach (e::es) X.env=(false,eval e X.env)::starEach es X.env:=by rfl) (hplain:(backTo cpos (starEach es X.env)).any (·.1)=false:=by rfl) :
  PE X (.Call (.Attribute o name apos) (e::es) [] cpos) (O6 X.K T r to t):=by
 intro pins s σ H Q I h
 refine wpAny_Call_method_late hbase hfew hline rfl (bj (ho pins s σ H _ I h) fun v s1 ⟨x,H1,I1,r1,ty,q1⟩=>?_)
 obtain⟨h1,h2⟩:=zw I1 r1 ty
 refine⟨T,id,pa,slot,hty,h1,h2,?_⟩
 have hA:=ha cpos pins s1 σ H1 _ I1 q1
 rw[hs] at hA ⊢
 refine Calls.callWith_builtin (by show (false || (backTo cpos (starEach es X.env)).any (·.1))=false;rw[hplain]<;>rfl) (Calls.evalArgs_plain ?_)
 exact bj hA fun us s2 ⟨vs,H2,I2,r2,q2⟩=>hm pins s2 σ H2 x vs v us Q I2 r1 r2 q2
end
end L2
namespace L2
open PySem PySem.Spec PyProof.Rows
noncomputable def Ro (X:Cx)(id:String)(r:V->List V->Hp->VK->Prop):Prop:=
 ∀(pins:List (Addr×Obj)) (s:Shared) (σ:St) (H:Hp) (x:V) (xs:List V) (v:Value) (us:List Value) (Q:VK),Inv X pins σ H s->RelV x v->Vals xs us->r x xs H Q →
  wpAny (model X.prog X.w) X.A (call (.builtin id) (v::us)) (EP X pins σ Q) X.xe s
theorem Vals.one:∀{x:V} {us:List Value},Vals [x] us->∃u,us=[u]/\RelV x u
 |_,_,.cons r .nil=>⟨_,rfl,r⟩
theorem Vals.zero:∀{us:List Value},Vals [] us->us=[]
 |_,.nil=>rfl
theorem Vals.dropLast {xs:List V}{us:List Value}(h:Vals xs us):Vals xs.dropLast us.dropLast:=by
 induction h with
 |nil=>exact .nil
 |cons r t ih=>
  cases t with
  |nil=>exact .nil
  |cons q t'=>exact .cons r ih
theorem Vals.reverse {xs:List V}{us:List Value}(h:Vals xs us):Vals xs.reverse us.reverse:=by
 induction h with
 |nil=>exact .nil
 |cons r t ih=>rw[List.reverse_cons,List.reverse_cons];exact Vals.append ih (.cons r .nil)
theorem Vals.rep {xs:List V}{us:List Value}(h:Vals xs us):∀k:Nat,Vals (List.replicate k xs).flatten (List.replicate k us).flatten
 |0=>.nil
 |k+1=>by
  rw[List.replicate_succ,List.replicate_succ,List.flatten_cons,List.flatten_cons]
  exact Vals.append h (Vals.rep h k)
theorem lj (its:List Value):∀(k:Nat) (acc:List Value),
  List.foldl (fun x1 x2=>x1++x2) acc.toArray (List.replicate k its.toArray)=(acc++(List.replicate k its).flatten).toArray
 |0,acc=>by simp
 |k+1,acc=>by
  have e:acc.toArray++its.toArray=(acc++its).toArray:=by simp
  have e2:(acc++its)++(List.replicate k its).flatten=acc++(List.replicate (k+1) its).flatten:=by
   rw[List.replicate_succ,List.flatten_cons,List.append_assoc]
  rw[←e2,←lj its k (acc++its),←e,List.replicate_succ,List.foldl_cons]
section
variable {X:Cx}{pins:List (Addr×Obj)}{σ:St}{H:Hp}{s:Shared}{l b:Addr}{xs ys zs:List V}
theorem Inv.lset {its its':List Value}{n:Nat}{f:Array Value->Array Value}{t':Nat}(I:Inv X pins σ H s)(hH:H l=some (.lst xs))
  (e:s.heap.get? l=some { cls:=.type "list",data:=.seq its.toArray n }) (hf:f its.toArray=its'.toArray) (hv:Vals ys its') (hz:ys.length≤sizeLine) :
  Inv X pins σ (upd H l (.lst ys)) { s with heap:=s.heap.update l (Obj.mapSeq f),toks:=t' }:=by
 have q:=PySem.IsL.update e f
 rw[hf] at q
 refine I.write (x:=l) (e:=l) (by rw[hH];exact trivial) (.inl rfl) (fun b' u hb hu=>(Heap.get?_update_other s.heap (Obj.mapSeq f) (Ne.symm hb)).trans hu) ⟨_,q⟩ ?_
 exact⟨hz,its',_,hv,q⟩
theorem Inv.lnew {its:List Value}{t':Nat}(I:Inv X pins σ H s)(hv:Vals ys its)(hz:ys.length≤sizeLine) :
  Inv X pins σ (upd H s.heap.objs.size (.lst ys)) { s with heap:=s.heap.push { cls:=.type "list",data:=.seq its.toArray },toks:=t' }:=
 I.laid (fun _ _ q=>Heap.get?_push_of_some _ q) (Nat.le_refl _) ⟨hz,its,0,hv,Heap.get?_push_size _ rfl⟩
theorem Inv.fresh (I:Inv X pins σ H s):H s.heap.objs.size=none:=I.hok.fresh (Nat.le_refl _)
theorem Inv.lstM (I:Inv X pins σ H s)(hH:H l=some (.lst xs)):xs.length≤sizeLine/\∃(its:List Value) (n:Nat),Vals xs its/\xs.length=its.length/\s.heap.get? l=some { cls:=.type "list",data:=.seq its.toArray n }:=by
 obtain⟨z,its,n,r,e⟩:=I.hok l _ hH
 exact⟨z,its,n,r,r.length,e⟩
theorem BS {n:Nat}(h:n≤sizeLine):Builtin.List.listTooLong n=false:=by
 unfold Builtin.List.listTooLong
 exact decide_eq_false (by omega)
end
section
variable {X:Cx}
noncomputable def mx:V->List V->Hp->VK->Prop:=fun x vs H Q=>∃l xs y,x=.ref l/\vs=[y]/\H l=some (.lst xs)/\xs.length<sizeLine/\Q .non (upd H l (.lst (xs++[y])))
theorem o4:Ro X "list.append" mx:=by
 intro pins s σ H x vs v us Q I rx rv h
 obtain⟨l,xs,y,rfl,rfl,hH,hz,q⟩:=h
 cases rx
 obtain⟨u,rfl,ru⟩:=rv.one
 obtain⟨z,its,n,r,hl,e⟩:=I.lstM hH
 refine call_meets F.slot_list_append ⟨_,e,rfl⟩ F.entry_list_append (F.args_list_append_2 _ _) (PySem.list_append l its.toArray n u (by rw[List.size_toArray];omega)) ⟨e,?_⟩
 refine⟨.non,_,I.lset (its':=its++[u]) hH e (by simp) (r.append (.cons ru .nil)) ?_,rfl,q⟩
 rw[List.length_append,List.length_singleton]
 omega
noncomputable def mT:V->List V->Hp->VK->Prop:=fun x vs H Q=>∃l xs,x=.ref l/\vs=[]/\H l=some (.lst xs)/\Q .non (upd H l (.lst xs.reverse))
theorem uj:Ro X "list.reverse" mT:=by
 intro pins s σ H x vs v us Q I rx rv h
 obtain⟨l,xs,rfl,rfl,hH,q⟩:=h
 cases rx
 have hus:=rv.zero
 subst hus
 obtain⟨z,its,n,r,hl,e⟩:=I.lstM hH
 refine call_meets F.slot_list_reverse ⟨_,e,rfl⟩ F.entry_list_reverse (F.args_list_reverse_1 _) (AutoSeq1.list_reverse_list_0 l its.toArray n (by rw[List.size_toArray];omega)) ⟨e,?_⟩
 refine⟨.non,_,I.lset (its':=its.reverse) hH e (by simp) r.reverse ?_,rfl,q⟩
 rw[List.length_reverse]
 omega
noncomputable def PH:R2:=fun x y H Q=>∃l b xs zs,x=.ref l/\y=.ref b/\H l=some (.lst xs)/\H b=some (.lst zs)/\xs.length+zs.length≤sizeLine/\∀p,H p=none->Q (.ref p) (upd H p (.lst (xs++zs)))
theorem J6:OpR X (binaryOp .Add) PH:=by
 intro pins s σ H x y v u Q I rx ry h
 obtain⟨l,b,xs,zs,rfl,rfl,hH,hB,hz,q⟩:=h
 cases rx
 cases ry
 obtain⟨z,its,n,r,hl,e⟩:=I.lstM hH
 obtain⟨z2,its2,n2,r2,hl2,e2⟩:=I.lstM hB
 refine PySem.P.add_list e e2 ?_ (by rw[List.size_toArray,List.size_toArray];omega)
 have ea:its.toArray++its2.toArray=(its++its2).toArray:=by simp
 rw[ea]
 exact⟨.ref _,_,I.lnew (t':=s.toks) (r.append r2) (by rw[List.length_append];omega),rfl,q _ I.fresh⟩
noncomputable def QX:R2:=fun x y H Q=>∃l k xs,x=.ref l/\y=.int k/\H l=some (.lst xs)/\-(2 ^ 63)≤k/\k<2 ^ 63/\xs.length * k.toNat≤sizeLine ∧
 ∀p,H p=none->Q (.ref p) (upd H p (.lst (List.replicate k.toNat xs).flatten))
theorem pw {α:Type}(xs:List α)(k:Nat):(List.replicate k xs).flatten.length=k * xs.length:=by
 induction k with
 |zero=>simp
 |succ k ih=>rw[List.replicate_succ,List.flatten_cons,List.length_append,ih,Nat.succ_mul,Nat.add_comm]
theorem Jn:OpR X (binaryOp .Mult) QX:=by
 intro pins s σ H x y v u Q I rx ry h
 obtain⟨l,k,xs,rfl,rfl,hH,h1,h2,hz,q⟩:=h
 cases rx
 obtain⟨t,rfl⟩:=ry
 obtain⟨z,its,n,r,hl,e⟩:=I.lstM hH
 have hlen:its.toArray.size * k.toNat≤sizeLine:=by rw[List.size_toArray,←hl];exact hz
 have hcap:¬its.toArray.size * k.toNat > (2 ^ 63 - 1) / 8:=by
  have:(sizeLine:Nat)≤(2 ^ 63 - 1) / 8:=by decide
  omega
 have hfit:¬(!Builtin.List.listFitsIndex k)=true:=by
  rw[fitsIndex_both h1 h2]
  exact Bool.false_ne_true
 have hlong:¬Builtin.List.listTooLong (its.toArray.size * k.toNat)=true:=by
  rw[BS hlen]
  exact Bool.false_ne_true
 have hnew:List.foldl (fun x1 x2=>x1++x2) #[] (List.replicate (if its.toArray.isEmpty=true then 0 else k.toNat) its.toArray)=(List.replicate k.toNat its).flatten.toArray:=by
  have f0:∀m:Nat,List.foldl (fun x1 x2=>x1++x2) #[] (List.replicate m its.toArray)=(List.replicate m its).flatten.toArray:=fun m=>by
   have:=lj its m []
   rw[List.nil_append] at this
   exact this
  rw[f0]
  cases its with
  |nil=>simp
  |cons a r'=>rw[if_neg (by simp)]
 refine wpAny_binaryOp_repeat_ref (T:="list") (U:="int") (by decide) ⟨_,e,rfl⟩ (fun s'=>typeIs_int s' k t) noFill_list_mul F.fills_int_mul F.slot_int_rmul repeat_list F.slot_int_index.lookup
  (call_meets F.slot_int_rmul (typeIs_int s k t) F.entry_int_rmul (F.args_int_rmul_2 _ _) (int___rmul___int_list k t l its.toArray n)
   ⟨e,rfl,⟨_,e,rfl⟩,call_meets F.slot_list_mul ⟨_,e,rfl⟩ F.entry_list_mul (F.args_list_mul_2 _ _) (AutoListH.list___mul___list_int_3 l its.toArray n k t hfit hcap hlong) ⟨e,?_⟩⟩)
 rw[hnew]
 exact⟨.ref _,_,I.lnew (t':=s.toks) (r.rep k.toNat) (by rw[pw,Nat.mul_comm];exact hz),rfl,q _ I.fresh⟩
end
section
variable {prog:Program}{w:World}{A:Around}{E:Value->Shared->Prop}{s:Shared}
set_option maxRecDepth 100000 in
end
end L2
namespace Att
open PySem PySem.W PySem.Calls PyProof.Rows
theorem mk {P:Params}{h:Heap}:∀(ns:List Int) (vs:List Value),WellAll P h vs (ns.map WData.int)->IntsAre vs ns:=by
 intro ns
 induction ns with
 |nil=>
  intro vs w
  rw[List.map_nil] at w
  cases w
  exact .nil
 |cons n ns ih=>
  intro vs w
  rw[List.map_cons] at w
  cases w with
  |cons a b=>
   cases a
   exact .cons _ _ (ih _ b)
theorem wV {l:OpenLaw}{n:Nat}(hn:l.most=some n){P:Params}{h:Heap}{args:List WData}{vals:List Value}
  (hpre:l.row.toRowW.claim.pre args=true) (hwl:WellAll P h vals args) :
  ∃a vs ns,vals=[Value.ref a]/\args=[WData.list (ns.map WData.int)]/\h.get? a=some { cls:=.type "list",data:=.seq vs.toArray }/\IntsAre vs ns/\ns.length≤n:=by
 have hsh:WShape.hasAll [] args [.list .int]=true:=(pre_splitW hpre).1
 have hc:l.pre.holds [] { args:=args }=true:=(pre_splitW hpre).2
 obtain⟨d,r,rfl,h1,h2⟩:=hasAllW_cons hsh
 obtain rfl:=hasAllW_nil h2
 obtain⟨xs,rfl,h3⟩:=hasW_list h1
 obtain⟨ns,rfl⟩:=items_int h3
 have hlen:ns.length≤n:=by
  unfold OpenLaw.pre at hc
  have h4:(WTm.not (.lt (.lit (.int (n:Int))) (.len (.arg 0)))).holds [] { args:=[.list (ns.map .int)] }=true:=by
   have h4:=(holds_andW hc).1
   rw[hn] at h4
   exact h4
  have h5:=condW_of h4 (w_not (w_lt w_lit (w_len_list (w_arg rfl))))
  rw[List.length_map] at h5
  refine Nat.le_of_not_lt fun q=>?_
  have q':(n:Int)<((ns.length:Nat):Int):=by omega
  first
   |(rw[decide_eq_true q'] at h5;exact absurd h5 (by decide))
   |(simp at h5;omega)
 cases hwl with
 |cons w1 w2=>
  cases w2
  cases w1 with
  |list ho hall=>exact⟨_,_,ns,rfl,rfl,ho,mk ns _ hall,hlen⟩
theorem yo (l:OpenLaw)(args:List WData):l.row.toRowW.claim.post args (.bool true) args=true:=
 postW_of (r:=l.row.toRowW) (X:=(true==true))
  (show WShape.has [] (.bool true) .bool=true by first|rfl|decide|simp[WShape.has,WShape.arms,WShape.armsAll])
  (show (WTm.eq .res (.lit (.bool true))).value [] { args:=args,res:=some (.bool true),after:=args }=some (.bool (true==true)) from w_eq_bool (w_res rfl) w_lit) rfl
theorem attach_call {l:OpenLaw}{n:Nat}{q:Program}{loose:List Str}{XP:(Str->Option Value)->Heap->Prop}{YP:World->Heap->Prop}{d:DefRec}
  (hn:l.most=some n) (hdf:d.params.defaults=[])
  (call:∀(w:World) (s₀ s₁:Shared) (mg mb:Str->Option Value) (fa:Addr) (o:Obj) (pm cd doc:Value) (a:Addr) (vs:List Value) (ns:List Int),
   Ground q loose [] XP w s₀ mg mb s₁.heap->YP w s₁.heap →
   s₁.heap.get? fa=some o->o.data=.func (docDef d.name d.params d.body d.scope pm cd doc)->s₁.heap.CodeRec cd d.name->mg d.name=some (.ref fa) →
   s₁.heap.get? a=some { cls:=.type "list",data:=.seq vs.toArray }->IntsAre vs ns->ns.length≤n->s₁.gens = #[] →
   codeAny (model l.prog w) callerA (.call (.ref fa) ⟨[.ref a],[]⟩) (fun r s'=>r=.ok (.ret (.bool true))/\OldK s₁.heap s'.heap/\s'.os=s₁.os/\AllBare s'.gens) s₁) :
  WalkO q loose XP YP l.row.toRowW d [] (fun f vs=>PySem.call f vs):=by
 intro w s₀ s₁ mg mb G Y fa o pm cd doc dV kV ho hd hcd hD hmg hg args vals as hpre hlay hrd hwl hlo
 obtain rfl:dV=.none:=Dflts.none hD hdf
 obtain rfl:kV=.none:=Dflts.noKw hD
 obtain⟨a,vs,ns,rfl,rfl,hobj,hints,hlen⟩:=wV hn hpre hwl
 refine enter_call (codeAny_mono (call w s₀ s₁ mg mb fa o pm cd doc a vs ns G Y ho (fd_plain hd) hcd hmg hobj hints hlen hg) fun r s' hq=>?_)
 obtain⟨rfl,h2,h3,h4⟩:=hq
 exact⟨.inl ⟨.bool true,.bool true,[],rfl,fun _=>rfl,.bool true,yo l _,fun _=>⟨List.Pairwise.nil,fun _ hm=>(nomatch hm)⟩⟩,h2,h3,h4⟩
section
variable {prog:Program}{w:World}{A:Around}{E:Value->Shared->Prop}{s:Shared}{K:Frag}
noncomputable def ledger (h:Heap)(L d:Addr):List (Addr×Obj):=(List.range h.objs.size).filterMap fun a=>if a=L\/a=d then none else (h.get? a).map fun o=>(a,o)
end
end Att
namespace L2
open PySem PySem.Spec PyProof.Rows
theorem oS:∀{vs:List Value} {ns:List Int},IntsAre vs ns->Vals (ns.map V.int) vs
 |_,_,.nil=>.nil
 |_,_,.cons n t h=>.cons ⟨t,rfl⟩ (oS h)
noncomputable def Km (H:Hp):Prop:=∀b,H b=none\/∃o xs,H b=some (.frz o (.lst xs))
theorem A1 {P:Program}{w:World}{K:PySem.W.Frag}{mg mb:Str->Option Value}{CX:yd}{k:Nat}{fa a:Addr}{fd:FuncData}{x:Str}{sp:Sp}{s₁:Shared}{vs:List Value}{ns:List Int}
  (KX:K.In s₁.heap) (hns:s₁.heap.Ns mainGlobals mg) (hb:s₁.heap.Ns builtinsNs mb) (hbb:∀x:Str,x ≠ "__name__"->mb x=bootBuiltins x) (hlim:s₁.heap.NoLimit) (hg:s₁.gens = #[])
  (ha:s₁.heap.get? a=some { cls:=.type "list",data:=.seq vs.toArray }) (hi:IntsAre vs ns) (hl:ns.length≤sizeLine) (hr:Room k callerA)
  (F:∀base:Heap,K.In base->base.Ns mainGlobals mg->FnOk P w K mg base CX k fa fd [x] sp) (hbind:∀(s:Shared) (u:Value),BindsTo s fd ⟨[u],[]⟩ [(x,u)])
  (hsp:∀H:Hp,Km H->SqL K H a (ns.map V.int)->sp [.ref a] H (fun v _=>v=.bl true) fun _ _ _=>False)
  (hCX:∀H e s',CX [] H s₁ (fun _ _ _=>False) e s'->False) :
  codeAny (model P w) callerA (.call (.ref fa) ⟨[.ref a],[]⟩) (fun r s'=>r=.ok (.ret (.bool true))/\OldK s₁.heap s'.heap/\s'.os=s₁.os/\AllBare s'.gens) s₁:=by
 have rv:=oS hi
 have lenV:=hi.length
 have core:∀H:Hp,Km H->SqL K H a (ns.map V.int)->HOk P w H s₁.heap->(∀b,H b≠none->b=a)->(H a≠none->K.lookup a=none) →
   codeAny (model P w) callerA (.call (.ref fa) ⟨[.ref a],[]⟩) (fun r s'=>r=.ok (.ret (.bool true))/\OldK s₁.heap s'.heap/\s'.os=s₁.os/\AllBare s'.gens) s₁:=by
  intro H hO hS hok hA hK
  have base_of:∀{b:Addr} {o:Obj},s₁.heap.get? b=some o->H b=none->(qr s₁.heap H).get? b=some o:=fun e n=>zu e n
  have noA:∀{b:Addr} {o:Obj} {es:Array DictEntry} {ep:Nat},s₁.heap.get? b=some o->o.data=.dict es ep->H b=none:=fun {b o es ep} e d=>by
   cases q:H b with
   |none=>rfl
   |some u=>
    have e':b=a:=hA b (by rw[q];simp)
    subst e'
    rw[ha] at e;cases e
    have d':Data.seq vs.toArray _=Data.dict es ep:=d
    cases d'
  have nsK:∀{b:Addr} {m:Str->Option Value},s₁.heap.Ns b m->(qr s₁.heap H).Ns b m:=fun {b m} ⟨o,es,ep,e,d,r⟩=>⟨o,es,ep,base_of e (noA e d),d,r⟩
  have hKb:K.In (qr s₁.heap H):=fun b o e=>base_of (KX b o e) (by
   cases q:H b with
   |none=>rfl
   |some u=>
    have e':b=a:=hA b (by rw[q];simp)
    subst e'
    rw[hK (by rw[q];simp)] at e;cases e)
  have hM:Mod K mg (qr s₁.heap H):=⟨hKb,nsK hns,⟨mb,nsK hb,hbb⟩,let ⟨mc,h1,h2⟩:=hlim;⟨mc,nsK h1,h2⟩⟩
  have e0:Env0 P w K mg (qr s₁.heap H) callerA [] s₁ H:=⟨rfl,hM,fun b o e=>Cq e,Nat.le_of_eq (yg _ _),trivial,fun b hb=>absurd (show b∈([]:List Addr) from hb) (by simp),hok,.of_eq hg⟩
  refine codeAny_mono ((F _ hKb (nsK hns)).run callerA [] s₁ H ⟨[.ref a],[]⟩ [.ref a] [.ref a] _ _ hr e0 (hbind s₁ (.ref a)) (.cons rfl .nil) (hsp H hO hS)) fun r s' h=>?_
  cases r with
  |error e=>exact (hCX H e s' h).elim
  |ok fl=>
   cases fl with
   |next=>exact False.elim h
   |brk=>exact False.elim h
   |cont=>exact False.elim h
   |ret u=>
    obtain⟨v,H',os,bare,un,hok',r',q⟩:=h
    have q':v=.bl true:=q
    subst q'
    obtain rfl:u=Value.bool true:=r'
    refine⟨rfl,OldK.of_keep fun b o e=>?_,os,bare⟩
    cases q:H b with
    |none=>exact un.keep b o e q (by intro z;exact absurd (show b∈([]:List Addr) from z) (by simp)) (by simp)
    |some u=>
     rcases hO b with z|⟨ob,xs,z⟩
     ·rw[q] at z;cases z
     ·have z2:=un.frzs b ob _ z
      obtain⟨e1,_⟩:=hok b _ z
      obtain⟨e2,_⟩:=hok' b _ z2
      rw[e] at e1;cases e1
      exact e2
 cases hk:K.lookup a with
 |some o=>
  have e:=KX a o hk
  rw[ha] at e
  cases e
  refine core (fun _=>none) (fun _=>.inl rfl) (.inr ⟨_,vs.toArray,_,hk,rfl,rfl,rfl,by rw[List.size_toArray,lenV];exact hl,by simpa using rv⟩) (fun b u z=>by have z':(none:Option HO)=some u:=z;cases z') (fun b z=>absurd rfl z) fun z=>absurd rfl z
 |none=>
  refine core (fun b=>if b=a then some (.frz { cls:=.type "list",data:=.seq vs.toArray } (.lst (ns.map V.int))) else none) (fun b=>?_) (.inl (.inr ⟨{ cls:=.type "list",data:=.seq vs.toArray },if_pos rfl⟩)) (fun b u z=>?_) (fun b z=>?_) fun _=>hk
  ·by_cases hb:b=a
   ·exact .inr ⟨_,_,if_pos hb⟩
   ·exact .inl (if_neg hb)
  ·by_cases hb:b=a
   ·have z':=(if_pos hb).symm.trans z
    cases z'
    subst hb
    exact⟨ha,by rw[List.length_map];exact hl,vs,_,rv,ha⟩
   ·have z':=(if_neg hb).symm.trans z
    cases z'
  ·by_cases hb:b=a
   ·exact hb
   ·exact absurd (if_neg hb) z
end L2
namespace L2
open PySem PySem.Spec PyProof.Rows
theorem EK {l:PySem.W.OpenLaw}{n k:Nat}{q:Program}{loose:List Str}{XP:(Str->Option Value)->Heap->Prop}{YP:World->Heap->Prop}{d:DefRec}{K:Params->PySem.W.Frag}{CX:World->yd}{sp:World->Sp}{x:Str}
  (hn:l.most=some n) (hn2:n≤sizeLine) (hdf:d.params.defaults=[]) (hr:Room k callerA)
  (hY:∀(w:World) (h:Heap),YP w h->(K w.params).In h)
  (F:∀(w:World) (mg:Str->Option Value) (fa:Addr) (h:Heap),(K w.params).In h->h.Ns mainGlobals mg->mg d.name=some (.ref fa) →
   ∃fd:FuncData,(∀(s:Shared) (u:Value),BindsTo s fd ⟨[u],[]⟩ [(x,u)]) ∧
    ∀base:Heap,(K w.params).In base->base.Ns mainGlobals mg->FnOk l.prog w (K w.params) mg base (CX w) k fa fd [x] (sp w))
  (hsp:∀(w:World) (H:Hp) (a:Addr) (ns:List Int),ns.length≤n->Km H->SqL (K w.params) H a (ns.map V.int)->sp w [.ref a] H (fun v _=>v=.bl true) fun _ _ _=>False)
  (hCX:∀(w:World) (H:Hp) (s:Shared) (e:Value) (s':Shared),CX w [] H s (fun _ _ _=>False) e s'->False) :
  PySem.W.WalkO q loose XP YP l.row.toRowW d [] (fun f vs=>PySem.call f vs):=by
 refine Att.attach_call hn hdf fun w s₀ s₁ mg mb fa o pm cd doc a vs ns G Y ho hd hcd hmg hobj hints hlen hg=>?_
 have KX:=hY w _ Y
 obtain⟨fd,hb,hF⟩:=F w mg fa _ KX G.T.g hmg
 exact A1 KX G.T.g G.T.b G.T.builtins G.T.nolimit hg hobj hints (Nat.le_trans hlen hn2) hr hF hb (fun H hO hS=>hsp w H a ns hlen hO hS) fun H e s'=>hCX w H s₁ e s'
end L2
namespace L2
open PySem PySem.Spec PyProof.Rows
noncomputable def ao (s:Stmt):Arguments:=match s with
 |.FunctionDef _ a _ _ _ _ _ _ _ _=>a
 |_=>{ posonlyargs:=[],args:=[],vararg:=none,kwonlyargs:=[],kw_defaults:=[],kwarg:=none,defaults:=[] }
noncomputable def ak (s:Stmt):List Stmt:=match s with
 |.FunctionDef _ _ b _ _ _ _ _ _ _=>b
 |_=>[]
noncomputable def aa (s:Stmt):Scope:=match s with
 |.FunctionDef _ _ _ _ _ _ sc _ _ _=>sc
 |_=>{ kind:=.function,names:=[],isGenerator:=false,isCoroutine:=false }
noncomputable abbrev rZ:yd:=fun _ _ _ _ _ _=>False
noncomputable abbrev E0:XK:=fun _ _ _=>False
theorem An {X:Cx}:pA rZ X E0:=fun _ _ _ _ _ _ _ h=>h.elim
structure Fun (K:PySem.W.Frag)(x qual:Str)(st:Stmt)(f:Addr)(fd:FuncData):Prop where
 ex:∃(oc:Value) (od:Option Addr) (kV doc pm:Value) (an:Option Addr) (cdv ct:Value) (osl:Array (Option Value)),
  fd=PySem.W.fnOf x qual (ao st) (ak st) (aa st) .none kV doc pm an cdv ct/\K.lookup f=some ⟨oc,od,.func fd,osl⟩/\PySem.W.codeIn K cdv qual=true
 kp:PySem.W.keepIn K (.ref f)=true
section
variable {P:Program}{w:World}{K:PySem.W.Frag}{mg:Str->Option Value}{base:Heap}
theorem Fun.ok {x qual:Str}{st:Stmt}{f:Addr}{fd:FuncData}{N ps:List Str}{k:Nat}{sp:Sp}(F:Fun K x qual st f fd)(S:FnScope N ps (aa st))(len:∀vs H Q E,sp vs H Q E->vs.length=ps.length)
  (hbody:∀(cdv:Value) (A:Around) (outer:List Env) (s:Shared) (H:Hp) (vs:List V) (Q:VK) (E:XK),Room k (A.deeper (envOfC qual (aa st) s.heap.objs.size f cdv))->sp vs H Q E →
   ∃t,PSs (kE rZ P w K mg base N qual (aa st) f cdv A outer s H E).nox (ak st) t/\t { nx:=fun _ H'=>Q .non H',rt:=Q } (fO N vs) H):FnOk P w K mg base rZ (k+1) f fd ps sp:=by
 obtain⟨oc,od,kV,doc,pm,an,cdv,ct,osl,rfl,lk,hcd⟩:=F.ex
 refine LO lk hcd S len fun A outer s H vs Q E hr hsp=>?_
 obtain⟨t,h,q⟩:=hbody cdv A outer s H vs Q E hr hsp
 exact⟨t,h.nox,q⟩
theorem Fun.binds {x qual:Str}{st:Stmt}{f:Addr}{fd:FuncData}{ps:List Str}(F:Fun K x qual st f fd)
  (h:∀(kV doc pm:Value) (an:Option Addr) (cdv ct:Value) (us:List Value),us.length=ps.length->bindArgs (PySem.W.fnOf x qual (ao st) (ak st) (aa st) .none kV doc pm an cdv ct) ⟨us,[]⟩=pure (ps.zip us)):Binds K fd ps []:=by
 obtain⟨oc,od,kV,doc,pm,an,cdv,ct,osl,rfl,lk,hcd⟩:=F.ex
 exact .all (h kV doc pm an cdv ct)
theorem JW {x qual:Str}{st:Stmt}{f:Addr}{oc:Value}{od an:Option Addr}{osl:Array (Option Value)}{kV doc pm cdv ct:Value}(l:K.lookup f=some ⟨oc,od,.func (PySem.W.fnOf x qual (ao st) (ak st) (aa st) .none kV doc pm an cdv ct),osl⟩)
  (c:PySem.W.codeIn K cdv qual=true) (k:PySem.W.keepIn K (.ref f)=true):Fun K x qual st f (PySem.W.fnOf x qual (ao st) (ak st) (aa st) .none kV doc pm an cdv ct):=⟨⟨oc,od,kV,doc,pm,an,cdv,ct,osl,rfl,l,c⟩,k⟩
end
theorem oM {n:Nat}(h:n≤1000):n<sizeLine:=Nat.lt_of_le_of_lt h (by decide)
section
variable {X:Cx}
theorem pv (i:Nat){x:Str}{pos:Pos}(hN:X.N[i]?=some x:=by rfl)(hv:G7 X.env.scope x:=by first|exact Or.inl rfl|exact Or.inr (Or.inl rfl)|exact Or.inr (Or.inr rfl))(hd:(x==("__debug__" : Str))=false:=by decide)
  (hcd:(x==("__classdict__" : Str))=false:=by decide):PE X (.Name x pos) (gz i):=uM hN hv hd hcd
end
noncomputable def Same (H H':Hp):Prop:=∀b o,H b=some o->H' b=some o
theorem Same.refl (H:Hp):Same H H:=fun _ _ h=>h
theorem Same.trans {H H1 H2:Hp}(a:Same H H1)(b:Same H1 H2):Same H H2:=fun c o h=>b c o (a c o h)
theorem Same.free {H H':Hp}(e:Same H H'){l:Addr}(h:H' l=Option.none):H l=Option.none:=by
 cases q:H l with
 |none=>rfl
 |some o=>
  rw[e l o q] at h
  cases h
theorem Same.seq {K:PySem.W.Frag}{H H':Hp}{a:Addr}{xs:List V}(e:Same H H')(h:SqL K H a xs):SqL K H' a xs:=by
 rcases h with (h|⟨o,h⟩)|h
 ·exact .inl (.inl (e _ _ h))
 ·exact .inl (.inr ⟨o,e _ _ h⟩)
 ·exact .inr h
end L2
set_option maxHeartbeats 4000000
section
namespace L2
open PySem PySem.Spec PyProof.Rows
section
variable {κ:Type}[DecidableEq κ]
noncomputable def iB (kvs:List (κ×V))(k:κ):Option V:=(kvs.find? fun kv=>decide (kv.1=k)).map (·.2)
noncomputable def ja (kvs:List (κ×V))(k:κ)(v:V):List (κ×V):=
 if (kvs.any fun kv=>decide (kv.1=k))=true then kvs.map (fun kv=>if kv.1=k then (kv.1,v) else kv) else kvs++[(k,v)]
noncomputable def Gv (kvs:List (κ×V))(k:κ):List (κ×V):=kvs.filter fun kv=>decide (kv.1≠k)
theorem kD {p:κ×V}{r:List (κ×V)}{k:κ}(e:p.1=k):iB (p::r) k=some p.2:=by simp[iB,List.find?_cons,e]
theorem kM {p:κ×V}{r:List (κ×V)}{k:κ}(e:¬p.1=k):iB (p::r) k=iB r k:=by simp[iB,List.find?_cons,e]
theorem sr (k:κ):∀kvs:List (κ×V),(kvs.any fun kv=>decide (kv.1=k))=(iB kvs k).isSome
 |[]=>rfl
 |p::r=>by
  rw[List.any_cons]
  by_cases e:p.1=k
  ·simp only[kD e,decide_eq_true e,Bool.true_or,Option.isSome_some]
  ·rw[kM e,decide_eq_false e,Bool.false_or];exact sr k r
theorem r6 (kvs:List (κ×V))(k:κ)(v:V):(ja kvs k v).length≤kvs.length+1:=by
 unfold ja
 split
 ·rw[List.length_map];omega
 ·rw[List.length_append,List.length_cons,List.length_nil];omega
theorem RelO.isSome_eq {o:Option V}{u:Option Value}(r:RelO o u):o.isSome=u.isSome:=by
 cases o with
 |none=>cases u with
  |none=>rfl
  |some _=>exact (show False from r).elim
 |some _=>cases u with
  |none=>exact (show False from r).elim
  |some _=>rfl
theorem RelO.getD {o:Option V}{u:Option Value}{d:V}{d':Value}(r:RelO o u)(rd:RelV d d'):RelV (o.getD d) (u.getD d'):=by
 cases o with
 |none=>cases u with
  |none=>exact rd
  |some _=>exact (show False from r).elim
 |some _=>cases u with
  |none=>exact (show False from r).elim
  |some _=>exact r
theorem KV.val {kvs:List (κ×V)}{vs:List (κ×Value)}(r:KV kvs vs)(k:κ):RelO (iB kvs k) (valueAt vs k):=by
 unfold KV at r
 induction r with
 |nil=>exact True.intro
 | @cons p q ps qs h t ih=>
  obtain⟨h1,h2⟩:=h
  by_cases e:p.1=k
  ·have e':q.1=k:=h1.symm.trans e
   have b:valueAt (q::qs) k=some q.2:=by simp[valueAt,List.find?_cons,e']
   rw[kD e,b];exact h2
  ·have e':¬q.1=k:=fun z=>e (h1.trans z)
   have b:valueAt (q::qs) k=valueAt qs k:=by simp[valueAt,List.find?_cons,e']
   rw[kM e,b];exact ih
theorem KV.any {kvs:List (κ×V)}{vs:List (κ×Value)}(r:KV kvs vs)(k:κ):(kvs.any fun kv=>decide (kv.1=k))=vs.any fun kv=>decide (kv.1=k):=by
 unfold KV at r
 induction r with
 |nil=>rfl
 |cons h t ih=>rw[List.any_cons,List.any_cons,ih,h.1]
theorem KV.repl {kvs:List (κ×V)}{vs:List (κ×Value)}(r:KV kvs vs)(k:κ){y:V}{u:Value}(ry:RelV y u) :
  KV (kvs.map fun kv=>if kv.1=k then (kv.1,y) else kv) (vs.map fun kv=>if kv.1=k then (kv.1,u) else kv):=by
 unfold KV at r ⊢
 induction r with
 |nil=>exact .nil
 | @cons p q ps qs h t ih=>
  rw[List.map_cons,List.map_cons]
  refine .cons ?_ ih
  obtain⟨h1,h2⟩:=h
  by_cases e:p.1=k
  ·rw[if_pos e,if_pos (h1.symm.trans e)];exact⟨h1,ry⟩
  ·rw[if_neg e,if_neg (fun z=>e (h1.trans z))];exact⟨h1,h2⟩
theorem KV.put {kvs:List (κ×V)}{vs:List (κ×Value)}(r:KV kvs vs)(k:κ){y:V}{u:Value}(ry:RelV y u):KV (ja kvs k y) (stored vs k u):=by
 unfold ja stored
 rw[r.any k]
 by_cases e:(vs.any fun kv=>decide (kv.1=k))=true
 ·rw[if_pos e,if_pos e];exact r.repl k ry
 ·rw[if_neg e,if_neg e];exact Paired.snoc r ⟨rfl,ry⟩
theorem KV.drop {kvs:List (κ×V)}{vs:List (κ×Value)}(r:KV kvs vs)(k:κ):KV (Gv kvs k) (without vs k):=by
 unfold KV at r ⊢
 unfold Gv without
 induction r with
 |nil=>exact .nil
 | @cons p q ps qs h t ih=>
  obtain⟨h1,h2⟩:=h
  rw[List.filter_cons,List.filter_cons]
  by_cases e:p.1=k
  ·have a:¬decide (p.1≠k)=true:=by simp[e]
   have b:¬decide (q.1≠k)=true:=by simp[h1.symm.trans e]
   rw[if_neg a,if_neg b];exact ih
  ·have e':¬q.1=k:=fun z=>e (h1.trans z)
   have a:decide (p.1≠k)=true:=by simp[e]
   have b:decide (q.1≠k)=true:=by simp[e']
   rw[if_pos a,if_pos b];exact .cons ⟨h1,h2⟩ ih
theorem KV.length {kvs:List (κ×V)}{vs:List (κ×Value)}(r:KV kvs vs):kvs.length=vs.length:=Paired.length r
end
theorem AA {P:Program}{w:World}{k:cW}{u:Value}(r:RelV (kV k) u):(aL P w).is k u=true:=by
 cases k with
 |inl i=>obtain⟨t,e⟩:=(show ∃t,u=Value.int i t from r);subst e;exact sd P w i t
 |inr x=>obtain⟨t,e⟩:=(show ∃t,u=Value.str x t from r);subst e;exact fE P w x t
theorem o8 {P:Program}{w:World}:∀{ks:List cW} {us:List Value},Vals (ks.map kV) us->ItemsAre (aL P w) ks us
 |[],_,r=>by rw[List.map_nil] at r;cases r;exact .nil
 |k::ks,_,r=>by
  rw[List.map_cons] at r
  cases r with
  |cons h t=>exact .cons (AA h) (o8 t)
noncomputable abbrev KT (H:Hp):List (List cW×V)->List (List cW×Addr×Value)->Prop:=Paired fun p q=>p.1=q.1/\H q.2.1=some (.tup (p.1.map kV))/\RelV p.2 q.2.2
theorem KT.val {H:Hp}{kvs:List (List cW×V)}{xs:List (List cW×Addr×Value)}(r:KT H kvs xs)(k:List cW):RelO (iB kvs k) ((atKey xs k).map (·.2)):=by
 induction r with
 |nil=>exact True.intro
 | @cons p q ps qs h t ih=>
  obtain⟨h1,_,h2⟩:=h
  by_cases e:p.1=k
  ·have e':q.1=k:=h1.symm.trans e
   have b:atKey (q::qs) k=some q.2:=by simp[atKey,List.find?_cons,e']
   rw[kD e,b];exact h2
  ·have e':¬q.1=k:=fun z=>e (h1.trans z)
   have b:atKey (q::qs) k=atKey qs k:=by simp[atKey,List.find?_cons,e']
   rw[kM e,b];exact ih
theorem KT.repl {H:Hp}{kvs:List (List cW×V)}{xs:List (List cW×Addr×Value)}(r:KT H kvs xs)(k:List cW){y:V}{u:Value}(ry:RelV y u) :
  KT H (kvs.map fun kv=>if kv.1=k then (kv.1,y) else kv) (xs.map (putAt k u)):=by
 induction r with
 |nil=>exact .nil
 | @cons p q ps qs h t ih=>
  rw[List.map_cons,List.map_cons]
  refine .cons ?_ ih
  obtain⟨h1,h2,h3⟩:=h
  unfold putAt
  by_cases e:p.1=k
  ·rw[if_pos e,if_pos (h1.symm.trans e)];exact⟨h1,h2,ry⟩
  ·rw[if_neg e,if_neg (fun z=>e (h1.trans z))];exact⟨h1,h2,h3⟩
theorem KT.put {H:Hp}{kvs:List (List cW×V)}{xs:List (List cW×Addr×Value)}(r:KT H kvs xs)(k:List cW){b:Addr}{y:V}{u:Value}(hb:H b=some (.tup (k.map kV)))(ry:RelV y u) :
  KT H (ja kvs k y) (storedH xs k b u):=by
 have e:(kvs.any fun kv=>decide (kv.1=k))=(atKey xs k).isSome:=by
  rw[sr,(r.val k).isSome_eq,Option.isSome_map]
 unfold ja storedH
 rw[e]
 by_cases q:(atKey xs k).isSome=true
 ·rw[if_pos q,if_pos q];exact r.repl k ry
 ·rw[if_neg q,if_neg q];exact Paired.snoc r ⟨rfl,hb,ry⟩
theorem KT.keeps {H H':Hp}{kvs:List (List cW×V)}{xs:List (List cW×Addr×Value)}(r:KT H kvs xs)(ht:∀b ys,H b=some (.tup ys)->H' b=some (.tup ys)):KT H' kvs xs:=
 Paired.mapP r fun _ _ z=>⟨z.1,ht _ _ z.2.1,z.2.2⟩
section
variable {P:Program}{w:World}{H:Hp}{h:Heap}{a:Addr}
theorem GU {u:HO}(ok:HOk P w H h)(e:Rd H a u):ObjOk P w H h a u:=e.ok ok
theorem GC {kvs:List (cW×V)}(ok:HOk P w H h)(e:Rd H a (.dK kvs)):kvs.length≤sizeLine/\(a==sysModules)=false/\∃vs,KV kvs vs/\h.DictOf (aL P w) a vs:=
 show ObjOk P w H h a (.dK kvs) from GU ok e
theorem G8 {kvs:List (cW×V)}(ok:HOk P w H h)(e:H a=some (.dK kvs)):kvs.length≤sizeLine/\(a==sysModules)=false/\∃vs,KV kvs vs/\h.DictOf (aL P w) a vs:=GC ok (.inl e)
theorem La {ks:List cW}(ok:HOk P w H h)(e:H a=some (.tup (ks.map kV))):(tupleKind (aL P w)).is h ks a:=by
 obtain⟨_,its,r,o,h1,h2,n,h3⟩:=(show ObjOk P w H h a (.tup (ks.map kV)) from ok a _ e)
 exact⟨o,its.toArray,n,h1,h2,h3,by simpa using o8 r⟩
theorem Mq {kvs:List (List cW×V)}(ok:HOk P w H h)(e:Rd H a (.dT kvs)):kvs.length≤sizeLine/\(a==sysModules)=false ∧
  ∃xs,KT H kvs xs/\h.DictOfH (tupleKind (aL P w)) a xs:=by
 obtain⟨z,y,xs,r,o,es,ep,h1,h2,h3,h4,h5⟩:=(show ObjOk P w H h a (.dT kvs) from GU ok e)
 refine⟨z,y,xs,r,o,es,ep,h1,h2,h3,h4,fun x hx=>?_,h5⟩
 have all:∀{l:List (List cW×V)} {m:List (List cW×Addr×Value)},KT H l m->∀x∈m,(tupleKind (aL P w)).is h x.1 x.2.1:=by
  intro l m q
  induction q with
  |nil=>intro x hx;exact nomatch hx
  | @cons p q ps qs hq t ih=>
   intro x hx
   rcases List.mem_cons.mp hx with e|hx
   ·subst e
    exact La ok (by rw[←hq.1];exact hq.2.1)
   ·exact ih x hx
 exact all r x hx
end
noncomputable def DGet (H:Hp)(a:Addr)(y:V)(r:Option V):Prop:=
 (∃kvs k,Rd H a (.dK kvs)/\y=kV k/\r=iB kvs k)\/∃kvs k b,Rd H a (.dT kvs)/\y=.ref b/\H b=some (.tup (k.map kV))/\r=iB kvs k
noncomputable def DPut (H:Hp)(a:Addr)(y v:V)(H':Hp):Prop:=
 (∃kvs k,H a=some (.dK kvs)/\y=kV k/\kvs.length<sizeLine/\H'=upd H a (.dK (ja kvs k v))) ∨
 ∃kvs k b,H a=some (.dT kvs)/\y=.ref b/\H b=some (.tup (k.map kV))/\kvs.length<sizeLine/\H'=upd H a (.dT (ja kvs k v))
theorem DGet.k {H:Hp}{a:Addr}{kvs:List (cW×V)}{k:cW}(e:H a=some (.dK kvs)):DGet H a (kV k) (iB kvs k):=.inl ⟨kvs,k,.inl e,rfl,rfl⟩
theorem DGet.t {H:Hp}{a b:Addr}{kvs:List (List cW×V)}{k:List cW}(e:H a=some (.dT kvs))(eb:H b=some (.tup (k.map kV))):DGet H a (.ref b) (iB kvs k):=.inr ⟨kvs,k,b,.inl e,rfl,eb,rfl⟩
theorem DPut.k {H:Hp}{a:Addr}{kvs:List (cW×V)}{k:cW}{v:V}(e:H a=some (.dK kvs))(hl:kvs.length<sizeLine):DPut H a (kV k) v (upd H a (.dK (ja kvs k v))):=.inl ⟨kvs,k,e,rfl,hl,rfl⟩
theorem DPut.t {H:Hp}{a b:Addr}{kvs:List (List cW×V)}{k:List cW}{v:V}(e:H a=some (.dT kvs))(eb:H b=some (.tup (k.map kV)))(hl:kvs.length<sizeLine) :
  DPut H a (.ref b) v (upd H a (.dT (ja kvs k v))):=.inr ⟨kvs,k,b,e,rfl,eb,hl,rfl⟩
section
variable {X:Cx}{pins:List (Addr×Obj)}{σ:St}{H:Hp}{s:Shared}{a:Addr}{y v:V}{u r:Value}{o:Option V}{A:Around}{E:Value->Shared->Prop}
theorem Inv.big (I:Inv X pins σ H s):sysModules<s.heap.objs.size:=by
 have h:mainGlobals<s.heap.objs.size:=(I.mod.glob.keeps I.bk).lt
 exact Nat.lt_trans (by decide) h
theorem FY {h':Heap}{t':Nat}{ob:HO}(I:Inv X pins σ H s)(mu:MP (H a))(hs:Heap.SameBut a s.heap h')(he:∃q,h'.get? a=some q)(new:ObjOk X.prog X.w (upd H a ob) h' a ob) :
  Inv X pins σ (upd H a ob) { s with heap:=h',toks:=t' }:=
 I.write (x:=a) (e:=a) mu (.inl rfl) (fun b q hb z=>(hs.2 b hb).trans z) he new
theorem KO {P:Program}{w:World}{H':Hp}{h':Heap}{kvs:List (cW×V)}{vs:List (cW×Value)}(z:kvs.length≤sizeLine)(hd:(a==sysModules)=false)(rel:KV kvs vs)(dd:h'.DictOf (aL P w) a vs) :
  ObjOk P w H' h' a (.dK kvs):=⟨z,hd,vs,rel,dd⟩
end
theorem zL {P:Program}{w:World}{H:Hp}(h:Heap)(hb:sysModules<h.objs.size):ObjOk P w H (h.push { cls:=.type "dict",data:=.dict #[] }) h.objs.size (.dK []):=
 ⟨Nat.zero_le _,beq_eq_false_iff_ne.mpr (Ne.symm (Nat.ne_of_lt hb)),[],.nil,Heap.DictOf.new h⟩
noncomputable def yQ:TE:=fun _ H Q=>∀p,H p=none->Q (.ref p) (upd H p (.dK []))
section
variable {X:Cx}{pos:Pos}
theorem AK:PE X (.Dict [] [] pos) yQ:=fun pins s σ H Q I h=>
 wpAny_Dict_empty ⟨.ref s.heap.objs.size,_,I.laid (a:=s.heap.objs.size) (o:=.dK []) (t':=s.toks) (fun _ _ q=>Heap.get?_push_of_some _ q) (Nat.le_refl _) (zL s.heap I.big),rfl,h _ (I.hok.fresh (Nat.le_refl _))⟩
end
structure M1 (X:Cx)(o:Expr)(m:Str)(apos:Pos)(e:Expr)(cpos:Pos):Prop where
 base:attributeBase o m X.env (eval o X.env)=eval o X.env
 few:((backTo cpos (starEach [e] X.env)).all (fun x=>!x.1)&&(backToKw cpos (keywordEach [] X.env)).all (fun x=>x.1.isSome)
  && decide (([e]:List Expr).length+([]:List Keyword).length+(if ([]:List Keyword).isEmpty then 0 else 1)<30))=true
 line:(apos.endLine==cpos.line)=true
 trees:backTo cpos (starEach [e] X.env)=[(false,eval e X.env)]
structure M2 (X:Cx)(o:Expr)(m:Str)(apos:Pos)(e f:Expr)(cpos:Pos):Prop where
 base:attributeBase o m X.env (eval o X.env)=eval o X.env
 few:((backTo cpos (starEach [e,f] X.env)).all (fun x=>!x.1)&&(backToKw cpos (keywordEach [] X.env)).all (fun x=>x.1.isSome)
  && decide (([e,f]:List Expr).length+([]:List Keyword).length+(if ([]:List Keyword).isEmpty then 0 else 1)<30))=true
 line:(apos.endLine==cpos.line)=true
 trees:backTo cpos (starEach [e,f] X.env)=[(false,eval e X.env),(false,eval f X.env)]
noncomputable def Rf (H:Hp)(a:Addr):Prop:=(∃kvs,Rd H a (.dK kvs))\/∃kvs,Rd H a (.dT kvs)
theorem KZ {X:Cx}{pins:List (Addr×Obj)}{σ:St}{H:Hp}{s:Shared}{a:Addr}(I:Inv X pins σ H s)(d:Rf H a) :
  s.TypeIs (.ref a) "dict"/\(∀b,Value.ref a=.ref b->∃ob,s.heap.get? b=some ob/\ob.dict=none)/\(a==sysModules)=false:=by
 rcases d with ⟨kvs,e⟩|⟨kvs,e⟩
 ·obtain⟨_,hd,vs,_,dd⟩:=GC I.hok e
  refine⟨dd.typeIs,fun b q=>?_,hd⟩
  cases q
  obtain⟨ob,_,_,h1,h2,_⟩:=dd
  exact⟨ob,h1,h2.2.1⟩
 ·obtain⟨_,hd,xs,_,dd⟩:=Mq I.hok e
  refine⟨dd.typeIs,fun b q=>?_,hd⟩
  cases q
  obtain⟨ob,_,_,h1,h2,_⟩:=dd
  exact⟨ob,h1,h2.2.1⟩
end L2
end
section
namespace L2
open PySem PySem.Spec PyProof.Rows
noncomputable def jw (cells:List (Str×Addr)):List (Str×NameKind)->List (Str×Addr)->List (Str×Addr)
 |[],acc=>acc
 |(n,k)::r,acc=>if k==.free then jw cells r ((n,(cells.lookup n).getD 0)::acc) else jw cells r acc
theorem mZ {scope:Scope}{env:Env}(h:∀y∈scope.names,y.2=.free->(env.cells.lookup y.1).isSome=true):closureFor scope env=pure (jw env.cells scope.names []):=by
 unfold closureFor
 generalize scope.names=names at h ⊢
 generalize ([]:List (Str×Addr))=acc
 dsimp only
 induction names generalizing acc with
 |nil=>rfl
 |cons x r ih=>
  obtain⟨n,k⟩:=x
  have hr:=ih (fun y hy=>h y (List.mem_cons_of_mem _ hy))
  rw[List.forIn_cons]
  unfold jw
  by_cases hk:(k==NameKind.free)=true
  ·have hs:=h (n,k) List.mem_cons_self (by simpa using hk)
   obtain⟨c,hc⟩:=Option.isSome_iff_exists.mp hs
   have hc':cellOf env n=pure c:=by unfold cellOf;rw[show env.cells.lookup n=some c from hc]
   simp only[hk,if_true]
   rw[hc',show (env.cells.lookup n).getD 0=c by rw[show env.cells.lookup n=some c from hc];rfl]
   exact hr _
  ·simp only[hk]
   exact hr _
theorem ku {cells:List (Str×Addr)}{x:Str}{c:Addr}:∀{names:List (Str×NameKind)} {acc:List (Str×Addr)},(∀y∈names,y.2=.free->(cells.lookup y.1).isSome=true)->(∀x c,acc.lookup x=some c->cells.lookup x=some c) →
  (jw cells names acc).lookup x=some c->cells.lookup x=some c
 |[],_,_,ha,h=>ha x c h
 |(n,k)::r,acc,hs,ha,h=>by
  unfold jw at h
  by_cases hk:(k==NameKind.free)=true
  ·rw[if_pos hk] at h
   refine ku (fun y hy=>hs y (List.mem_cons_of_mem _ hy)) (fun z d hz=>?_) h
   obtain⟨e,he⟩:=Option.isSome_iff_exists.mp (hs (n,k) List.mem_cons_self (by simpa using hk))
   have he':cells.lookup n=some e:=he
   rw[List.lookup_cons] at hz
   cases hzn:z==n with
   |true=>
    rw[hzn] at hz
    have:z=n:=by simpa using hzn
    subst this
    rw[he'] at hz ⊢
    exact hz
   |false=>rw[hzn] at hz;exact ha z d hz
  ·rw[if_neg hk] at h
   exact ku (fun y hy=>hs y (List.mem_cons_of_mem _ hy)) ha h
theorem mD {cells:List (Str×Addr)}{x:Str}:∀{names:List (Str×NameKind)} {acc:List (Str×Addr)},(acc.lookup x).isSome=true->((jw cells names acc).lookup x).isSome=true
 |[],_,h=>h
 |(n,k)::r,acc,h=>by
  unfold jw
  split
  ·refine mD ?_
   rw[List.lookup_cons]
   split
   ·rfl
   ·exact h
  ·exact mD h
theorem j9 {cells:List (Str×Addr)}{x:Str}:∀{names:List (Str×NameKind)} {acc:List (Str×Addr)},(x,NameKind.free)∈names->((jw cells names acc).lookup x).isSome=true
 |[],_,h=>nomatch h
 |(n,k)::r,acc,h=>by
  unfold jw
  rcases List.mem_cons.mp h with e|h
  ·cases e
   rw[if_pos (by rfl)]
   exact mD (by rw[List.lookup_cons];simp)
  ·split
   ·exact j9 h
   ·exact j9 h
noncomputable def Cx.blk (X:Cx)(scope:Scope)(N':List Str)(C:Addr)(s:Shared)(H:Hp)(ex:List Addr):Cx:=
 { X with N:=N',s₀:=s,H₀:=H,env:=compEnvC scope (jw X.env.cells scope.names []) C X.env,outer:=X.stack,ex:=ex,fn:=fun _=>false,pn:=[],xe:=fun _ _=>False }
noncomputable def iJ (fm:List (Option Nat))(σ:St):St:=fm.map fun o=>o.bind fun j=>(σ[j]?).join
structure BlkOk (X:Cx)(scope:Scope)(N':List Str)(fm:List (Option Nat)):Prop where
 kind:scope.kind=.function
 nocell:∀y∈scope.names,y.2≠.cell
 names:∀y∈scope.names,y.2=.local->scope.names.lookup y.1=some .local
 free:∀y∈scope.names,y.2=.free->X.env.kindOf y.1=some .cell
 len:fm.length=N'.length
 out:∀(i j:Nat) (x:Str),fm[i]?=some (some j)->N'[i]?=some x->X.N[j]?=some x/\scope.names.lookup x=some .free/\X.env.kindOf x=some .cell
theorem BlkOk.has {X:Cx}{scope:Scope}{N':List Str}{fm:List (Option Nat)}(B:BlkOk X scope N' fm)(ok:X.Ok):∀y∈scope.names,y.2=.free->(X.env.cells.lookup y.1).isSome=true:=fun y hy e=>by
 obtain⟨c,hc⟩:=ok.has y.1 (.inl (B.free y hy e))
 rw[hc];rfl
noncomputable def jP (kind:ScopeKind)(names:List (Str×NameKind))(kindOf:Str->Option NameKind)(N N':List Str)(fm:List (Option Nat)):Bool:=
 kind==.function&&(names.all fun y=>y.2 != .cell)&&(names.all fun y=>y.2 != .local || names.lookup y.1==some .local)&&(names.all fun y=>y.2 != .free || kindOf y.1==some .cell)&&fm.length==N'.length &&
  ((fm.zip N').all fun p=>match p.1 with|none=>true|some j=>N[j]?==some p.2&&names.lookup p.2==some .free&&kindOf p.2==some .cell)
theorem Ao {X:Cx}{scope:Scope}{N':List Str}{fm:List (Option Nat)}(h:jP scope.kind scope.names X.env.kindOf X.N N' fm=true):BlkOk X scope N' fm:=by
 unfold jP at h
 simp only[Bool.and_eq_true,beq_iff_eq,List.all_eq_true,Bool.or_eq_true,bne_iff_ne,ne_eq] at h
 obtain⟨⟨⟨⟨⟨h1,h2⟩,h3⟩,h4⟩,h5⟩,h6⟩:=h
 refine⟨h1,h2,fun y hy e=>(h3 y hy).resolve_left fun z=>z e,fun y hy e=>(h4 y hy).resolve_left fun z=>z e,h5,fun i j x e1 e2=>?_⟩
 have hm:(some j,x)∈fm.zip N':=by
  refine List.mem_of_getElem? (i:=i) ?_
  rw[List.getElem?_zip_eq_some]
  exact⟨e1,e2⟩
 have z:=h6 _ hm
 simp only[Bool.and_eq_true,beq_iff_eq] at z
 exact⟨z.1.1,z.1.2,z.2⟩
theorem eD {env:Env}:∀{names:List (Str×NameKind)} {x:Str} {k:NameKind},(names.map fun (n,k)=>if (k==NameKind.free&&env.scope.kind==.function&&env.kindOf n==some .cell) then (n,NameKind.cell) else (n,k)).lookup x=some k →
  (k=.cell/\env.kindOf x=some .cell/\(x,NameKind.free)∈names)\/(x,k)∈names
 |[],_,_,h=>by simp at h
 |(n,k0)::r,x,k,h=>by
  rw[List.map_cons] at h
  by_cases hc:(k0==NameKind.free&&env.scope.kind==.function&&env.kindOf n==some .cell)=true
  ·dsimp only at h
   rw[if_pos hc,List.lookup_cons] at h
   cases hx:x==n with
   |true=>
    rw[hx] at h
    have e:x=n:=by simpa using hx
    subst e
    cases h
    simp only[Bool.and_eq_true,beq_iff_eq] at hc
    exact .inl ⟨rfl,hc.2,by rw[←hc.1.1];exact List.mem_cons_self⟩
   |false=>
    rw[hx] at h
    rcases eD h with ⟨a,b,c⟩|c
    ·exact .inl ⟨a,b,List.mem_cons_of_mem _ c⟩
    ·exact .inr (List.mem_cons_of_mem _ c)
  ·dsimp only at h
   rw[if_neg hc,List.lookup_cons] at h
   cases hx:x==n with
   |true=>
    rw[hx] at h
    have e:x=n:=by simpa using hx
    subst e
    cases h
    exact .inr List.mem_cons_self
   |false=>
    rw[hx] at h
    rcases eD h with ⟨a,b,c⟩|c
    ·exact .inl ⟨a,b,List.mem_cons_of_mem _ c⟩
    ·exact .inr (List.mem_cons_of_mem _ c)
theorem fN {env:Env}(hk:env.scope.kind=.function):∀{names:List (Str×NameKind)} {x:Str},names.lookup x=some .free->env.kindOf x=some .cell →
  (names.map fun (n,k)=>if (k==NameKind.free&&env.scope.kind==.function&&env.kindOf n==some .cell) then (n,NameKind.cell) else (n,k)).lookup x=some .cell
 |[],_,h,_=>by simp at h
 |(n,k)::r,x,h,hc=>by
  rw[List.map_cons]
  dsimp only
  cases hx:x==n with
  |true=>
   rw[List.lookup_cons,hx] at h
   cases h
   have e:x=n:=by simpa using hx
   subst e
   rw[hc,hk,if_pos (by rfl),List.lookup_cons,hx]
  |false=>
   rw[List.lookup_cons,hx] at h
   have ih:=fN hk h hc
   split
   ·rw[List.lookup_cons,hx];exact ih
   ·rw[List.lookup_cons,hx];exact ih
section
variable {X:Cx}{scope:Scope}{N':List Str}{fm:List (Option Nat)}{pins:List (Addr×Obj)}{σ:St}{H:Hp}{s:Shared}
theorem KJ (B:BlkOk X scope N' fm)(I:Inv X pins σ H s){C:Addr}{ex:List Addr}(hC:s.heap.objs.size≤C)(hex:∀b∈ex,kf X pins H b)(hlt:∀b∈ex,b<s.heap.objs.size):(X.blk scope N' C s H ex).Ok:=by
 have sub:∀x c,(jw X.env.cells scope.names []).lookup x=some c->X.env.cells.lookup x=some c:=fun x c h=>ku (B.has I.ok) (fun _ _ z=>by simp at z) h
 refine⟨I.ok.mod,?_,I.ok.glob,I.ok.blt,hC,fun x y c h1 h2=>I.ok.inj x y c (sub x c h1) (sub y c h2),fun x hx=>?_,fun x c h _=>(Bool.false_ne_true h).elim,I.ok.hd,I.ok.frames,.inl rfl,fun b hb=>⟨?_,fun x c h=>(hex b hb).2.2.2.2.1 x c (sub x c h)⟩,I.bs,?_,fun b o e hb=>?_,fun b hb hf=>?_,I.stack,I.stkFree⟩
 ·show (relabel scope X.env).kind=.function
  exact B.kind
 ·have hx':(relabel scope X.env).names.lookup x=some .cell\/(relabel scope X.env).names.lookup x=some .free:=hx
  have mem:(x,NameKind.free)∈scope.names:=by
   rcases hx' with h|h
   ·rcases eD h with ⟨_,_,z⟩|z
    ·exact z
    ·exact absurd rfl (B.nocell _ z)
   ·rcases eD h with ⟨z,_,_⟩|z
    ·cases z
    ·exact z
  exact Option.isSome_iff_exists.mp (j9 (cells:=X.env.cells) (acc:=[]) mem)
 ·exact Nat.ne_of_lt (Nat.lt_of_lt_of_le (hlt b hb) hC)
 ·exact Nat.le_trans I.ok.bsz I.sz
 ·have hb':b∈ex:=hb
  rcases (hex b hb').2.2.2.1 with z|z
  ·exact I.ok.noex b o e z
  ·exact absurd (Nat.lt_of_lt_of_le (Heap.lt_size (I.ok.bs b o e).1) z) (Nat.lt_irrefl _)
 ·have hb':b∈ex:=hb
  have hf':b∈uy X.stack:=hf
  rcases List.mem_cons.mp (I.stkSub b hf') with z|z
  ·exact (hex b hb').2.1 z
  ·exact (hex b hb').2.2.1 z
theorem rP {fm:List (Option Nat)}{σ:St}{i:Nat}{v:V}(h:(iJ fm σ)[i]?=some (some v)):∃j,fm[i]?=some (some j)/\σ[j]?=some (some v):=by
 unfold iJ at h
 rw[List.getElem?_map] at h
 cases e:fm[i]? with
 |none=>rw[e] at h;cases h
 |some o=>
  rw[e] at h
  cases o with
  |none=>cases h
  |some j=>
   refine⟨j,rfl,?_⟩
   have h':some ((σ[j]?).join)=some (some v):=h
   cases e2:σ[j]? with
   |none=>rw[e2] at h';cases h'
   |some w=>rw[e2] at h';exact congrArg some (Option.some.inj h')
theorem FQ (B:BlkOk X scope N' fm)(I:Inv X pins σ H s){C:Addr}{ex:List Addr}{h1:Heap}{tk:Nat}{m:Str->Option Value}(hC:s.heap.objs.size≤C)(hex:∀b∈ex,kf X pins H b)(hlt:∀b∈ex,b<s.heap.objs.size)
  (hn:h1.Ns C m) (old:∀b o,s.heap.get? b=some o->h1.get? b=some o):Inv (X.blk scope N' C s H ex) [] (iJ fm σ) H { s with heap:=h1,toks:=tk }:=by
 have sub:∀x c,(jw X.env.cells scope.names []).lookup x=some c->X.env.cells.lookup x=some c:=fun x c h=>ku (B.has I.ok) (fun _ _ z=>by simp at z) h
 refine⟨KJ B I hC hex hlt,rfl,I.bare,Un.kept old,⟨m,hn,fun i x v hi hσ hv=>?_⟩,fun x c h=>?_,I.hok.fresh hC,fun x c h=>I.freeC x c (sub x c h),fun p hp=>absurd (show p∈([]:List (Addr×Obj)) from hp) (by simp),I.hok.kept old,?_⟩
 ·obtain⟨j,ej,es⟩:=rP hσ
  obtain⟨hN,hf,hk⟩:=B.out i j x ej hi
  obtain⟨m0,_,hl⟩:=I.loc
  obtain⟨u,r,l⟩:=hl j x v hN es (.inr (.inl hk))
  refine⟨u,r,.inr ⟨.inl (fN I.ok.kind hf hk),?_⟩⟩
  rcases l with ⟨z,_⟩|⟨_,c,hc,z⟩
  ·rw[hk] at z;cases z
  ·obtain⟨c',hc'⟩:=Option.isSome_iff_exists.mp (j9 (cells:=X.env.cells) (acc:=[]) (PySem.mem_of_lookup hf))
   have e:=sub x c' hc'
   rw[hc] at e
   cases e
   exact⟨c,hc',z.keeps old⟩
 ·obtain⟨v,z⟩:=I.cell x c (sub x c h)
  exact⟨v,z.keeps old⟩
 ·show (iJ fm σ).length=N'.length
  unfold iJ
  rw[List.length_map]
  exact B.len
end
noncomputable def PIf (X:Cx)(ifs:List Expr)(t:TT):Prop:=
 ∀(pins:List (Addr×Obj)) (s:Shared) (σ:St) (H:Hp) (Q:Bool->Hp->Prop),Inv X pins σ H s->t σ H Q →
  wpAny (model X.prog X.w) X.A (forIn ifs true fun c r=>if r=true then do let ok ←isTrue c X.env (eval c X.env);pure (ForInStep.yield ok) else pure (ForInStep.yield r)) (TP X pins σ Q) X.xe s
noncomputable def Hm:TT:=fun _ H Q=>Q true H
theorem vJ {X:Cx}:PIf X [] Hm:=fun _ s _ H _ I h=>wpAny_tests_nil ⟨H,I,h⟩
theorem Ee {X:Cx}{c:Expr}{t:TT}(hc:PT X c t):PIf X [c] t:=fun pins s σ H Q I h=>wpAny_tests_one (hc pins s σ H Q I h)
theorem i6 {prog:Program}{w:World}{A:Around}{R:Result->Shared->Prop}{s:Shared}{elt target iter:Expr}{ifs:List Expr}{scope:Scope}{pos:Pos}{it acc:Value}{env:Env}(I:Nat->Shared->Prop)
  (turn:∀n s,I n s->wpAny (model prog w) A (pyNext it) (fun r s₁=>match r with
   |none=>R (.ok .next) s₁
   |some v=>wpAny (model prog w) A (letOwnedTupleGo target it v) (fun _ s₁=>wpAny (model prog w) A (assign target env v) (fun _ s₂=>
     wpAny (model prog w) A (forIn ifs true fun c r=>if r=true then do let ok ←isTrue c env (eval c env);pure (ForInStep.yield ok) else pure (ForInStep.yield r)) (fun ok s₃=>
      if ok=true then wpAny (model prog w) A (eval elt env) (fun x s₄=>
       wpAny (model prog w) A (call (.builtin "list.append") [acc,x]) (fun _ s₅=>∃m,m<n/\I m s₅) (fun _ _=>False) s₄) (fun _ _=>False) s₃
      else ∃m,m<n/\I m s₃) (fun _ _=>False) s₂) (fun _ _=>False) s₁) (fun _ _=>False) s₁) (fun _ _=>False) s)
  (n:Nat) (h:I n s) :
  codeAny (model prog w) A (.compLoop (.ListComp elt [⟨target,iter,ifs,0⟩] scope pos) 0 it acc env) R s:=by
 refine codeAny_loop rfl I (fun n s hI=>?_) n h
 show wpAny _ A ((compTurn (.ListComp elt [⟨target,iter,ifs,0⟩] scope pos) 0 it acc env).onRaise (fun x=>do noteFrame x env;theTreesLotGoes x)) _ _ s
 refine wpAny_noted ?_
 rw[compTurn_list]
 refine wpAny_bind (wpAny_standAt (wpAny_bind (wpAny_mono (turn n s hI) (fun r s₁ h₁=>?_) fun _ _ h'=>h'.elim)))
 cases r with
 |none=>exact wpAny_pure h₁
 |some v=>
  refine wpAny_bind (wpAny_mono h₁ (fun _ s₁ h₁=>?_) fun _ _ h'=>h'.elim)
  refine wpAny_bind (wpAny_mono h₁ (fun _ s₂ h₂=>wpAny_bind (wpAny_mono h₂ (fun ok s₃ h₃=>?_) fun _ _ h'=>h'.elim)) fun _ _ h'=>h'.elim)
  cases ok with
  |false=>exact wpAny_pure ⟨rfl,h₃⟩
  |true=>
   exact wpAny_bind (wpAny_bind (wpAny_mono h₃ (fun x s₄ h₄=>wpAny_bind (wpAny_mono h₄ (fun _ s₅ h₅=>wpAny_pure (wpAny_pure ⟨rfl,h₅⟩)) fun _ _ h'=>h'.elim)) fun _ _ h'=>h'.elim))
noncomputable def A3 (fm:List (Option Nat))(g:TG)(tc:TT)(te:TE)(σ:St)(J:It)(H1:Hp)(Q:List V->Hp->Prop):Prop:=
 ∃(W:Nat->List V->Hp->Prop) (n:Nat),W 0 [] H1/\(∀i ys H,W i ys H->i≤n/\ys.length<sizeLine)/\∀i ys H,W i ys H →
  (J.stop i H/\Q ys H)\/(J.go i H/\∀x H',J.yld i H x H'->g x (iJ fm σ) H' fun σ2 H2=>tc σ2 H2 fun b H3=>if b=true then te σ2 H3 fun y H4=>W (i+1) (ys++[y]) H4 else W (i+1) ys H3)
noncomputable def gJ (fm:List (Option Nat))(wi:TI)(g:TG)(tc:TT)(te:TE):TE:=fun σ H Q=>wi σ H fun J H1=>A3 fm g tc te σ J H1 fun ys H2=>∀l,H2 l=none->Q (.ref l) (upd H2 l (.lst ys))
noncomputable def ng (fm:List (Option Nat))(g:TG):Prop:=∀x σ H N,g x σ H N->g x σ H fun σ' H'=>N σ' H'/\σ'.length=σ.length/\∀(i j:Nat),fm[i]?=some (some j)->σ'[i]?=σ[i]?
theorem uQ {fm:List (Option Nat)}{i:Nat}(hi:fm[i]?=some none):ng fm (dm i):=fun x σ H N h=>by
 refine⟨h,List.length_set,fun k j hk=>?_⟩
 have:i≠k:=fun e=>by subst e;rw[hi] at hk;cases hk
 exact List.getElem?_set_ne this
end L2
end
section
namespace L2
open PySem PySem.Spec PyProof.Rows
section
variable {X:Cx}{scope:Scope}{N':List Str}{fm:List (Option Nat)}{pins:List (Addr×Obj)}{σ:St}{H:Hp}{s:Shared}{tg iter elt:Expr}{ifs:List Expr}{pos:Pos}{g:TG}{tc:TT}{te:TE}
theorem nc (B:BlkOk X scope N' fm)(hc:X.calm=true)(hg:∀C s H ex,PG (X.blk scope N' C s H ex) tg g)(hk:ng fm g)(ht:∀C s H ex,PIf (X.blk scope N' C s H ex) ifs tc)(he:∀C s H ex,PE (X.blk scope N' C s H ex) elt te)
  (I:Inv X pins σ H s) {it:Addr} {fp:List Addr} {tn:Nat->Heap->Prop} {J:It} (T:Turn X.prog X.w X.K tg J fp it tn) (st:tn 0 s.heap) (hf:∀b∈fp,kf X pins H b) {Qf:List V->Hp->Prop} (q:A3 fm g tc te σ J H Qf)
  {RR:Value->Addr->Result->Shared->Prop} {E:Value->Shared->Prop}
  (hRR:∀D C H' ys s',Inv X pins σ (upd H' D (.lst ys)) s'->H' D=none->Qf ys H'->kf X pins (upd H' D (.lst ys)) C->(∃m,s'.heap.Ns C m)->RR (.ref D) C (.ok .next) s') :
  wpAny (model X.prog X.w) X.A (newList []) (fun acc s₃=>wpAny (model X.prog X.w) X.A (newFunctionEnv scope X.env.globals (jw X.env.cells scope.names []) [] X.env.qual none .none (some X.env)) (fun cenv s₄=>
   codeAny (model X.prog X.w) X.A (.compStart (.ListComp elt [⟨tg,iter,ifs,0⟩] scope pos) 0 (.ref it) acc { cenv with scope:=relabel scope X.env }) (RR acc cenv.locals) s₄) E s₃) E s:=by
 refine wpAny_newObj_type (wpAny_newFunctionEnv B.nocell (by intro y hy;simp at hy) (fun h₁ hns₁ hsb₁=>?_) B.kind)
 dsimp only at hns₁ hsb₁ ⊢
 generalize hH2:s.heap.push { cls:=.type "list",dict:=none,data:=.seq ([]:List Value).toArray }=H2 at hns₁ hsb₁ ⊢
 have hC:H2.objs.size=s.heap.objs.size+1:=by rw[←hH2,Heap.size_push]
 generalize hCC:H2.objs.size=C at hns₁ hsb₁ hC ⊢
 generalize hDD:s.heap.objs.size=D at hC ⊢
 have hDC:D≠C:=by omega
 have hCle:s.heap.objs.size≤C:=by omega
 have lt:∀(b:Nat) (o:Obj),s.heap.get? b=some o->b<D:=fun b o e=>by rw[←hDD];exact Heap.lt_size e
 have old:∀b o,s.heap.get? b=some o->h₁.get? b=some o:=fun b o e=>hsb₁.extBut b o (Nat.ne_of_lt (Nat.lt_trans (lt b o e) (by rw[hC];exact Nat.lt_succ_self _))) (Heap.get?_push_of_some _ (hH2▸Heap.get?_push_of_some _ e))
 have hacc:h₁.PlainList D #[]:=⟨_,hsb₁.extBut _ _ hDC (Heap.get?_push_of_some _ (by rw[←hH2,←hDD];exact Heap.get?_push_size _ rfl))⟩
 have hlt:∀b∈fp,b<s.heap.objs.size:=fun b hb=>by
  obtain⟨o,e,_⟩:=T.obj 0 s.heap st b hb
  exact Heap.lt_size e
 have hDf:D∉fp:=fun hm=>by have z:=hlt _ hm;rw[hDD] at z;exact Nat.lt_irrefl D z
 have st1:tn 0 h₁:=T.keep 0 _ _ st fun b _ o e=>old b o e
 obtain⟨W,n0,w0,hb,turn⟩:=q
 have sub:∀x c,(jw X.env.cells scope.names []).lookup x=some c->X.env.cells.lookup x=some c:=fun x c h=>ku (B.has I.ok) (fun _ _ z=>by simp at z) h
 have I1:∀tk,Inv (X.blk scope N' C s H fp) [] (iJ fm σ) H { s with heap:=h₁,toks:=tk }:=fun tk=>FQ B I hCle hf hlt hns₁ old
 have hDfs:D∉uy X.stack:=fun hm=>by
  obtain⟨_,o,e,_⟩:=I.stack.mem hm
  exact Nat.lt_irrefl D (lt D o e)
 have stat:∀{H':Hp} {oD:Obj},(∀b∈fp,H' b=none)->∀b∈fp,kf (X.blk scope N' C s H fp) [(D,oD)] H' b:=fun {H' oD} hn b hb=>by
  have l:=hlt b hb
  obtain⟨f0,f1,f2,f3,f4,f5⟩:=hf b hb
  refine⟨hn b hb,fun z=>?_,fun z=>?_,.inl hb,fun x c h=>f4 x c (sub x c h),fun p hp z=>?_⟩
  ·have z':b=C:=z
   exact Nat.lt_irrefl C (by rw[←z'] at hCle ⊢;exact Nat.lt_of_lt_of_le l hCle)
  ·rcases List.mem_cons.mp (I.stkSub b z) with y|y
   ·exact f1 y
   ·exact f2 y
  ·have e:p=(D,oD):=by simpa [Cx.blk] using hp
   subst e
   have z':D=b:=z
   exact hDf (z'▸hb)
 have loop:∀tk,codeAny (model X.prog X.w) X.A (.compLoop (.ListComp elt [⟨tg,iter,ifs,0⟩] scope pos) 0 (.ref it) (.ref D) (compEnvC scope (jw X.env.cells scope.names []) C X.env)) (RR (.ref D) C) { s with heap:=h₁,toks:=tk }:=by
  intro tk
  refine i6 (fun n s'=>∃i ys its H',n=n0+1 - i/\Inv (X.blk scope N' C s H fp) [] (iJ fm σ) H' s'/\tn i s'.heap/\(∀b∈fp,H' b=none)/\Vals ys its/\s'.heap.PlainList D its.toArray/\H' D=none/\W i ys H') ?_ (n0+1)
   ⟨0,[],[],H,rfl,I1 tk,st1,fun b hb=>(hf b hb).1,.nil,hacc,I.hok.fresh (by omega),w0⟩
  rintro n s3 ⟨i,ys,its,H3,rfl,I3,st3,fr3,rv,⟨nn,hd⟩,hD,w3⟩
  obtain⟨hi,hys⟩:=hb i ys H3 w3
  have I3':Inv (X.blk scope N' C s H fp) [(D,{ cls:=.type "list",data:=.seq its.toArray nn })] (iJ fm σ) H3 s3:=I3.pins_of fun p hp=>by
   have e:p=(D,{ cls:=.type "list",data:=.seq its.toArray nn }):=by simpa using hp
   subst e
   exact⟨hd,hD,hDC,hDfs,fun v z=>by cases z⟩
  rcases turn i ys H3 w3 with ⟨stop,qf⟩|⟨go,step⟩
  ·refine bj (T.done (X.blk scope N' C s H fp) rfl rfl rfl hc i _ s3 _ H3 _ I3' (stat fr3) st3 stop) fun r s4 ⟨hr,I4⟩=>?_
   subst hr
   have hd4:=(I4.pin (D,{ cls:=.type "list",data:=.seq its.toArray nn }) (by simp)).1
   have ne:∀b o,H3 b=some o->b≠D:=fun b o e z=>by subst z;rw[hD] at e;cases e
   have U:Un (uy X.stack) fp H H3 s.heap s4.heap:=I4.base
   have U':Un (uy X.stack) fp H (upd H3 D (.lst ys)) s.heap s4.heap:=⟨U.keep,U.slot,fun b o e n hx=>by rw[ai (Nat.ne_of_lt (lt b o e))];exact U.free b o e n hx,U.there,
    fun b xs e=>by have z:=U.tups b xs e;rw[ai (ne b _ z)];exact z,fun b o u e=>by have z:=U.frzs b o u e;rw[ai (ne b _ z)];exact z,
    fun b ps e=>by obtain⟨more,z⟩:=U.tbls b ps e;exact⟨more,by rw[ai (ne b _ z)];exact z⟩⟩
   have hok:HOk X.prog X.w (upd H3 D (.lst ys)) s4.heap:=fun b o e=>by
    by_cases hbD:b=D
    ·subst hbD
     rw[ah] at e
     cases e
     exact⟨Nat.le_of_lt hys,its,nn,rv,hd4⟩
    ·rw[ai hbD] at e
     exact (show ObjOk X.prog X.w H3 s4.heap b o from I4.hok b o e).stay (fun _ _ _ z=>z) (fun c z=>by rw[ai (ne c _ z)];exact z) fun c xs z=>by rw[ai (ne c _ z)];exact z
   have I5:Inv X pins σ (upd H3 D (.lst ys)) s4:=I.call' (I4.os) U' hok I4.bare fun b hb=>by
    obtain⟨f0,f1,f2,f3,f4,f5⟩:=hf b hb
    exact⟨f3,f1,f4,f5⟩
   obtain⟨m4,hn4,_⟩:=I4.loc
   exact hRR D C H3 ys s4 I5 hD qf (I.fpOk hCle (by rw[ai (Ne.symm hDC)];exact I4.free)) ⟨m4,hn4⟩
  ·refine bj (T.item (X.blk scope N' C s H fp) rfl rfl rfl hc i _ s3 _ H3 _ I3' (stat fr3) st3 go) fun r s4 ⟨u,hr,h4⟩=>?_
   subst hr
   refine bj h4 fun _ s5 ⟨x,H5,I5,r5,y5,st5,fr5⟩=>?_
   have I5':=I5.pinned (stat fr5) (T.obj _ _ st5)
   refine bj (hg C s H fp _ s5 _ H5 x u _ I5' r5 (hk _ _ _ _ (step x H5 y5))) fun _ s6 ⟨σ6,H6,I6,q6,l6,k6⟩=>?_
   have back:∀{H7:Hp} {s7:Shared} {P7:List (Addr×Obj)},Inv (X.blk scope N' C s H fp) P7 σ6 H7 s7->Inv (X.blk scope N' C s H fp) [] (iJ fm σ) H7 s7:=fun {H7 s7 P7} I7=>(I7.weak l6.symm fun a v e=>by
     obtain⟨j,ej,_⟩:=rP e
     rw[k6 a j ej];exact e).pins_of fun p hp=>nomatch hp
   have still:∀{H7:Hp} {s7:Shared},Inv (X.blk scope N' C s H fp) ([(D,{ cls:=.type "list",data:=.seq its.toArray nn })]++mC fp s5.heap) σ6 H7 s7->tn (i+1) s7.heap/\(∀b∈fp,H7 b=none)/\s7.heap.get? D=some { cls:=.type "list",data:=.seq its.toArray nn }/\H7 D=none:=fun {H7 s7} I7=>by
    refine⟨T.keep _ _ _ st5 fun b hb o e=>(I7.pin (b,o) (List.mem_append_right _ (List.mem_append_right _ (iD hb e)))).1,fun b hb=>?_,?_,?_⟩
    ·obtain⟨o,e,d⟩:=T.obj _ _ st5 b hb
     exact (I7.pin (b,o) (List.mem_append_right _ (List.mem_append_right _ (iD hb e)))).2.1
    ·exact (I7.pin (D,_) (List.mem_append_right _ (List.mem_append_left _ (List.mem_singleton.mpr rfl)))).1
    ·exact (I7.pin (D,{ cls:=.type "list",data:=.seq its.toArray nn }) (List.mem_append_right _ (List.mem_append_left _ (List.mem_singleton.mpr rfl)))).2.1
   refine bj (ht C s H fp _ s6 σ6 H6 _ I6 q6) fun ok s7 ⟨H7,I7,q7⟩=>?_
   cases ok with
   |false=>
    rw[if_neg Bool.false_ne_true] at q7 ⊢
    obtain⟨a1,a2,a3,a4⟩:=still I7
    exact⟨n0+1 - (i+1),by omega,i+1,ys,its,H7,rfl,back I7,a1,a2,rv,⟨nn,a3⟩,a4,q7⟩
   |true=>
    rw[if_pos rfl] at q7 ⊢
    refine bj (he C s H fp _ s7 σ6 H7 _ I7 q7) fun y s8 ⟨v8,H8,I8,r8,w8⟩=>?_
    obtain⟨a1,a2,a3,a4⟩:=still I8
    have hsz:its.toArray.size≤sizeLine:=by
     have:=rv.length
     rw[List.size_toArray]
     omega
    refine wpAny_list_append_plain (hsz:=hsz) ⟨nn,a3⟩ fun h9 hl9 sb9=>?_
    have I8':=back I8
    have I9:Inv (X.blk scope N' C s H fp) [] (iJ fm σ) H8 { s8 with heap:=h9 }:=I8'.turned (t':=s8.toks) (fun b o hb e=>(sb9.2 b hb).trans e) a4 hDC (.inr (by show s.heap.objs.size≤D;omega)) (fun x c h z=>by
      obtain⟨v,o,ho,hdd⟩:=I8'.cell x c h
      rw[z,a3] at ho
      cases ho
      cases hdd) fun p hp=>nomatch hp
    refine⟨n0+1 - (i+1),by omega,i+1,ys++[v8],its++[y],H8,rfl,I9,T.keep _ _ _ a1 fun b hb o e=>(sb9.2 b (fun z=>hDf (z▸hb))).trans e,a2,Vals.append rv (.cons r8 .nil),?_,a4,w8⟩
    have e:its.toArray.push y=(its++[y]).toArray:=by simp
    rw[←e]
    exact hl9
 refine codeAny_compStart_list (loop _) (T.self _ 0 _ _ _ st1 (loop _))
end
end L2
end
section
namespace L2
open PySem PySem.Spec PyProof.Rows
section
variable {X:Cx}{scope:Scope}{N':List Str}{fm:List (Option Nat)}{tg iter elt:Expr}{ifs:List Expr}{pos spos px:Pos}{g:TG}{tc:TT}{te:TE}{wi:TI}
theorem CO (B:BlkOk X scope N' fm)(hc:X.calm=true)(hi:PI X tg iter wi)(hg:∀C s H ex,PG (X.blk scope N' C s H ex) tg g)(hk:ng fm g)(ht:∀C s H ex,PIf (X.blk scope N' C s H ex) ifs tc)(he:∀C s H ex,PE (X.blk scope N' C s H ex) elt te)
  (hs:∀x,foldedSetIterable iter X.env x=pure x:=by intro _;rfl):PE X (.ListComp elt [⟨tg,iter,ifs,0⟩] scope pos) (gJ fm wi g tc te):=by
 intro pins s σ H Q I h
 rw[eval_ListComp]
 refine wpAny_comprehension_free (use:=none) rfl hs (mZ (B.has I.ok)) B.kind B.names (bj (hi pins s σ H _ I h) fun v s1 h1=>bj h1 fun itv s2 h2=>?_)
 obtain⟨it,fp,tn,J,H2,e,I2,T,st2,f2,q⟩:=h2
 subst e
 refine nc B hc hg hk ht he I2 T st2 f2 q (RR:=fun acc C=>compPost (model X.prog X.w) X.A X.xe none (EP X pins σ Q) acc C) fun D C H' ys s' I' hD qf fC ⟨m,hn⟩=>?_
 refine⟨m,hn,fun h' sb=>⟨.ref D,upd H' D (.lst ys),?_,rfl,qf D hD⟩⟩
 obtain⟨f0,f1,f2,f3,f4,f5⟩:=fC
 exact I'.turned (t':=s'.toks) (fun b o hb e=>sb.extBut b o hb e) f0 f1 f3 f4 f5
theorem uX {i:Nat}{x:Str}(hN:X.N.Nodup)(hi':X.N[i]?=some x)(hx:X.env.kindOf x=some .local)(B:BlkOk X scope N' fm)(hc:X.calm=true)(hi:PI X tg iter wi)(hg:∀C s H ex,PG (X.blk scope N' C s H ex) tg g)(hk:ng fm g)
  (ht:∀C s H ex,PIf (X.blk scope N' C s H ex) ifs tc) (he:∀C s H ex,PE (X.blk scope N' C s H ex) elt te) (hsw:swapsWith (.ListComp elt [⟨tg,iter,ifs,0⟩] scope pos) (some (.Name x px)) spos.line X.env=pure true:=by rfl)
  (hs:∀x,foldedSetIterable iter X.env x=pure x:=by intro _;rfl):PS X (.Assign [.Name x px] (.ListComp elt [⟨tg,iter,ifs,0⟩] scope pos) spos) (ir (gJ fm wi g tc te) (dm i)):=by
 intro pins s σ H D I h
 rw[exec_Assign_Name_used _ _ _ _ hsw]
 refine wpAny_bind (wpAny_standAt (wpAny_bind ?_))
 show wpAny _ X.A (do let _ ←comprehension (.ListComp elt [⟨tg,iter,ifs,0⟩] scope pos) scope X.env _ (newList []) false (eval iter X.env) (some (assign (.Name x px) X.env))) _ _ s
 refine wpAny_bind (bj (wpAny_comprehension_free (use:=some (assign (.Name x px) X.env)) (Q:=fun _ s'=>SP X pins D .next s') rfl hs (mZ (B.has I.ok)) B.kind B.names (bj (hi pins s σ H _ I h) fun v s1 h1=>bj h1 fun itv s2 h2=>?_)) fun _ s' q=>wpAny_pure (wpAny_pure q))
 obtain⟨it,fp,tn,J,H2,e,I2,T,st2,f2,q⟩:=h2
 subst e
 refine nc B hc hg hk ht he I2 T st2 f2 q (RR:=fun acc C=>compPost (model X.prog X.w) X.A X.xe (some (assign (.Name x px) X.env)) (fun _ s'=>SP X pins D .next s') acc C) fun D' C H' ys s' I' hD qf fC ⟨m,hn⟩=>?_
 obtain⟨f0,f1,f2,f3,f4,f5⟩:=fC
 show wpAny (model X.prog X.w) X.A (assign (.Name x px) X.env (.ref D')) _ X.xe s'
 refine wpAny_assign_Name (oU I' hN hi' (.inl hx) (v:=.ref D') rfl (fun s2 I2 ⟨a,sb,ha⟩=>?_) (.inr hx))
 have hCa:C≠a:=by
  rcases ha with z|z
  ·rw[z];exact f1
  ·exact fun e=>f4 x a z e.symm
 refine⟨m,hn.sameBut sb hCa,fun h' sb'=>⟨_,upd H' D' (.lst ys),I2.turned (t':=s2.toks) (fun b o hb e=>sb'.extBut b o hb e) f0 f1 f3 f4 f5,qf D' hD⟩⟩
end
theorem sy {X:Cx}:CallR X (.builtin "isinstance") (fun xs H Q=>∃x n t b,xs=[x,.ty n]/\TyOf X.K H x t/\PySem.W.kitOne X.K t (.type n)=some b/\Q (.bl b) H):=by
 intro pins s σ H xs us Q I r h
 obtain⟨x,n,t,b,rfl,ty,e,q⟩:=h
 cases r with
 |cons r1 r2=>
  cases r2 with
  |cons r2 r3=>
   cases r3
   cases (show _=Value.type n from r2)
   exact xO I r1 ty e fun tk=>⟨.bl b,H,I.tok tk,rfl,q⟩
theorem BK {bs:List Bool}{its:List Value}(r:Vals (bs.map V.bl) its){i:Nat}{v:Value}(h:its[i]?=some v):v=Value.bool (bs.getD i false):=by
 have hl:=r.length
 have hi:i<its.length:=(List.getElem?_eq_some_iff.mp h).1
 rw[List.length_map] at hl
 have hb:i<bs.length:=by omega
 obtain⟨u,e1,e2⟩:=r.get (i:=i) (x:=V.bl bs[i]) (by rw[List.getElem?_map,List.getElem?_eq_getElem hb]<;>rfl)
 rw[h] at e1
 cases e1
 have e2':v=Value.bool bs[i]:=e2
 rw[e2',List.getD_eq_getElem?_getD,List.getElem?_eq_getElem hb]<;>rfl
theorem xE {bs:List Bool}:(List.range bs.length).all (fun i=>bs.getD i false)=bs.all id:=by
 induction bs with
 |nil=>rfl
 |cons b r ih=>
  rw[List.length_cons,List.range_succ_eq_map,List.all_cons,List.all_map,List.all_cons,←ih]<;>rfl
theorem xC {bs:List Bool}:(List.range bs.length).any (fun i=>bs.getD i false)=bs.any id:=by
 induction bs with
 |nil=>rfl
 |cons b r ih=>
  rw[List.length_cons,List.range_succ_eq_map,List.any_cons,List.any_map,List.any_cons,←ih]<;>rfl
end L2
end
section
namespace L2
open PySem PySem.Spec PyProof.Rows
theorem j5 {h:Heap}{a:Addr}{o:Obj}(e:h.get? a=some o):a≠h.objs.size:=Nat.ne_of_lt (Heap.lt_size e)
theorem Bc {X:Cx}(hc:X.calm=true):CallR X (.builtin "all") (fun xs H Q=>∃(p:Addr) (bs:List Bool),xs=[.ref p]/\SqL X.K H p (bs.map V.bl)/\Q (.bl (bs.all id)) H):=by
 intro pins s σ H xs us Q I r h
 obtain⟨p,bs,rfl,hq,q⟩:=h
 obtain⟨u,rfl,rx⟩:=fP r
 cases rx
 obtain⟨its,rv,pl,hz⟩:=I.list hq
 have hl:its.length=bs.length:=by rw[←rv.length,List.length_map]
 refine call_all_walk (wpAny_pyIter_list pl.isList ?_)
 obtain⟨o,ho,hrest⟩:=id pl.isList
 have hne:p≠s.heap.objs.size:=j5 ho
 refine⟨s.heap.objs.size,_,_,_,_,_,fun i=>bs.getD i false,rfl,Walks.list (A:=X.A.in1) (I.ok.hd hc) s.heap.objs.size p hne its.toArray,⟨⟨_,Heap.get?_push_size _ rfl,rfl,rfl⟩,⟨o,Heap.get?_push_of_some _ ho,hrest⟩⟩,fun i v s' Q' E' hP hQ=>?_,fun h' tk hk=>?_⟩
 ·have e:v=Value.bool (bs.getD i false):=BK rv (by simpa using hP)
  subst e
  exact wpAny_truthy_bool hQ
 ·have e2:(List.range its.toArray.size).all (fun i=>bs.getD i false)=bs.all id:=by rw[List.size_toArray,hl];exact xE
  rw[e2]
  exact⟨.bl (bs.all id),H,I.kept (t':=tk) fun b o' e=>hk b o' (fun z=>j5 e (List.mem_singleton.mp z)) (Heap.get?_push_of_some _ e),rfl,q⟩
theorem AG {X:Cx}(hc:X.calm=true):CallR X (.builtin "any") (fun xs H Q=>∃(p:Addr) (bs:List Bool),xs=[.ref p]/\SqL X.K H p (bs.map V.bl)/\Q (.bl (bs.any id)) H):=by
 intro pins s σ H xs us Q I r h
 obtain⟨p,bs,rfl,hq,q⟩:=h
 obtain⟨u,rfl,rx⟩:=fP r
 cases rx
 obtain⟨its,rv,pl,hz⟩:=I.list hq
 have hl:its.length=bs.length:=by rw[←rv.length,List.length_map]
 refine call_any_walk (wpAny_pyIter_list pl.isList ?_)
 obtain⟨o,ho,hrest⟩:=id pl.isList
 have hne:p≠s.heap.objs.size:=j5 ho
 refine⟨s.heap.objs.size,_,_,_,_,_,fun i=>bs.getD i false,rfl,Walks.list (A:=X.A.in1) (I.ok.hd hc) s.heap.objs.size p hne its.toArray,⟨⟨_,Heap.get?_push_size _ rfl,rfl,rfl⟩,⟨o,Heap.get?_push_of_some _ ho,hrest⟩⟩,fun i v s' Q' E' hP hQ=>?_,fun h' tk hk=>?_⟩
 ·have e:v=Value.bool (bs.getD i false):=BK rv (by simpa using hP)
  subst e
  exact wpAny_truthy_bool hQ
 ·have e2:(List.range its.toArray.size).any (fun i=>bs.getD i false)=bs.any id:=by rw[List.size_toArray,hl];exact xC
  rw[e2]
  exact⟨.bl (bs.any id),H,I.kept (t':=tk) fun b o' e=>hk b o' (fun z=>j5 e (List.mem_singleton.mp z)) (Heap.get?_push_of_some _ e),rfl,q⟩
noncomputable def mK (n:Nat):List V:=(List.range n).map fun i:Nat=>V.int (i:Int)
theorem lM (n:Nat):(mK n).length=n:=by unfold mK;simp
noncomputable def Gq:List V->Hp->VK->Prop:=fun xs H Q=>∃j:Int,xs=[.int j]/\-(2 ^ 62)≤j/\j<2 ^ 62/\∀p,H p=none->Q (.ref p) (upd H p (.rng 0 j))
theorem s9 {X:Cx}:CallR X (.type "range") Gq:=by
 intro pins s σ H xs us Q I r h
 obtain⟨j,rfl,h1,h2,q⟩:=h
 obtain⟨u,rfl,t,rfl⟩:=fP r
 refine call_range_1 ?_
 exact⟨.ref s.heap.objs.size,_,I.laid (fun b o e=>Heap.get?_push_of_some _ e) (Nat.le_refl _) (show ObjOk X.prog X.w _ _ _ (.rng 0 j) from⟨_,_,_,Heap.get?_push_size _ rfl⟩),rfl,q _ (I.hok.fresh (Nat.le_refl _))⟩
theorem nR {n:Nat}{acc:Array Value}(h:ItemsOf (fun i v=>∃t,v=.int ((0:Int)+i * 1) t) acc n):Vals (mK n) acc.toList:=by
 obtain⟨hs,hi⟩:=h
 have gen:∀(l:List Value) (k:Nat),(∀j v,l[j]?=some v->∃t,v=Value.int ((k+j:Nat):Int) t)->Vals ((List.range' k l.length).map fun i:Nat=>V.int (i:Int)) l:=by
  intro l
  induction l with
  |nil=>intro k _;exact .nil
  |cons a r ih=>
   intro k hk
   rw[List.length_cons,List.range'_succ,List.map_cons]
   refine .cons ?_ (ih (k+1) fun j v hj=>?_)
   ·obtain⟨t,e⟩:=hk 0 a rfl
    exact⟨t,by simpa using e⟩
   ·obtain⟨t,e⟩:=hk (j+1) v (by simpa using hj)
    exact⟨t,by rw[e];congr 1;omega⟩
 have e:acc.toList.length=n:=by simpa using hs
 have z:=gen acc.toList 0 fun j v hj=>by
  obtain⟨t,e⟩:=hi j v (by simpa using hj)
  exact⟨t,by rw[e];congr 1;omega⟩
 rw[e] at z
 unfold mK
 rw[List.range_eq_range']
 exact z
theorem oe {X:Cx}(hc:X.calm=true):CallR X (.type "list") (fun xs H Q=>∃p j,xs=[.ref p]/\H p=some (.rng 0 j)/\0≤j/\j≤1000000/\∀l,H l=none->Q (.ref l) (upd H l (.lst (mK j.toNat)))):=by
 intro pins s σ H xs us Q I r h
 obtain⟨p,j,rfl,hp,h1,h2,q⟩:=h
 obtain⟨u,rfl,rx⟩:=fP r
 cases rx
 obtain⟨t,u,v,e⟩:=(show ObjOk X.prog X.w H s.heap p (.rng 0 j) from I.hok p _ hp)
 refine call_list_range (I.ok.hd hc) (r:=p) (a:=0) (b:=j) (c:=1) (n:=j.toNat) e (small_one (by omega) (by omega) (by omega) (by omega)) (by rw[rangeSize_one];split<;>omega) (by omega) fun h' tk acc' c' hk hS hacc=>?_
 have z:sizeLine ≥ 1000000:=by decide
 refine⟨.ref s.heap.objs.size,_,I.laid (t':=tk) hk (Nat.le_refl _) (show ObjOk X.prog X.w _ h' _ (.lst (mK j.toNat)) from⟨by rw[lM];omega,acc'.toList,c',nR hacc,hS⟩),rfl,q _ (I.hok.fresh (Nat.le_refl _))⟩
theorem ju {xs:List V}{its:List Value}(r:Vals xs its){j:Nat}(h:j<its.toArray.size):RelV (xs.getD j .non) its.toArray[j]:=by
 have hl:=r.length
 have h1:j<its.length:=by simpa using h
 have h2:j<xs.length:=by omega
 obtain⟨u,e1,e2⟩:=r.get (i:=j) (x:=xs[j]) (List.getElem?_eq_getElem h2)
 have e3:its.toArray[j]=u:=by
  rw[List.getElem?_eq_getElem h1] at e1
  simpa using e1
 rw[e3,List.getD_eq_getElem?_getD,List.getElem?_eq_getElem h2]
 exact e2
end L2
end
section
namespace L2
open PySem PySem.Spec PyProof.Rows
theorem aM {H:Hp}{p:Addr}(h:H p=none)(o:HO):Same H (upd H p o):=fun b u q=>by rw[ai (eO q h)];exact q
theorem SqT.of' {K:PySem.W.Frag}{H:Hp}{a:Addr}{xs:List V}(h:H a=some (.tup xs)):SqT K H a xs:=SqT.of h
theorem kW:fillsNumberSlot (.type "tuple") "mul" = pure false:=by first|rfl|decide +kernel|kernel_rfl
end L2
end
section
namespace L2
open PySem PySem.Spec PyProof.Rows
theorem qK:seqRepeat? (.type "tuple")=pure (some (.builtin "tuple.__mul__")):=by
 unfold seqRepeat?
 rw[PySem.seqSlot_of (T:="tuple") (name:="__mul__") (id:="tuple.__mul__") PySem.F.slot_tuple_mul.lookup (by decide +kernel),PySem.seqSlot_of (T:="tuple") (name:="__rmul__") (id:="tuple.__rmul__") PySem.F.slot_tuple_rmul.lookup (by decide +kernel)]
 rfl
theorem m9 (a:Int)(t:Tok)(l:Addr)(items:Array Value)(n:Nat)(dd:Option Addr)(sl:Array (Option Value)) :
  Meets (Builtin.«int.__rmul__» ⟨[.int a t,.ref l],[]⟩) (fun _ R s=>s.heap.get? l=some { cls:=.type "tuple",dict:=dd,data:=.seq items n,slots:=sl }/\R (.ok (.ret Value.notImplemented)) s):=
 .of_wp fun prog w A R s h=>by obtain⟨hp,g,d,tk,os⟩:=s;obtain⟨hl,h⟩:=h;wp_walk;exact⟨_,rfl,h⟩
theorem mG (l:Addr)(items:Array Value)(n:Nat)(dd:Option Addr)(sl:Array (Option Value))(t:Tok) :
  Meets (Builtin.«tuple.__mul__» ⟨[.ref l,.int 1 t],[]⟩) (fun _ R s=>s.heap.get? l=some { cls:=.type "tuple",dict:=dd,data:=.seq items n,slots:=sl }/\R (.ok (.ret (Value.ref l))) s):=
 .of_wp fun prog w A R s h=>by obtain⟨hp,g,d,tk,os⟩:=s;obtain⟨hl,h⟩:=h;have f1:=AutoSeq1.idx_int;have f2:=AutoSeq1.sub_tuple_tuple;have hc:(items.isEmpty || (1:Int)==1)=true:=(by simp);wp_walk using wpAny_loadPart' hl;exact⟨_,rfl,h⟩
theorem nV (l:Addr)(items:Array Value)(n:Nat)(dd:Option Addr)(sl:Array (Option Value))(k:Int)(t:Tok)(h1:¬(decide (k < -(2 ^ 63)) || decide (k ≥ 2 ^ 63))=true)(h2:¬(items.isEmpty || k==1)=true)(h3:¬(decide (k≤0) || items.isEmpty)=true)
  (h4:¬(items.size * k > (2 ^ 63 - 1) / 8)) (h5:¬Builtin.Tuple.tupleTooMany (items.size * k)=true) (h6:((List.replicate k.toNat items).foldl (·++·) #[]).size≤sizeLine) :
  Meets (Builtin.«tuple.__mul__» ⟨[.ref l,.int k t],[]⟩) (fun _ R s=>s.heap.get? l=some { cls:=.type "tuple",dict:=dd,data:=.seq items n,slots:=sl }/\R (.ok (.ret (Value.ref s.heap.objs.size))) { s with heap:=s.heap.push { cls:=Value.type "tuple",data:=Data.seq ((List.replicate k.toNat items).foldl (·++·) #[]) },toks:=s.toks }):=
 .of_wp fun prog w A R s h=>by obtain⟨hp,g,d,tk,os⟩:=s;obtain⟨hl,h⟩:=h;have f1:=AutoSeq1.idx_int;have f2:=AutoSeq1.sub_tuple_tuple;wp_walk using wpAny_loadPart' hl;rw[if_neg h1];wp_walk using wpAny_loadPart' hl;rw[if_neg h4];(try dsimp only);rw[if_neg h5];wp_walk using wpAny_loadPart' hl;exact⟨_,rfl,h⟩
theorem nM (its:List Value)(m:Nat):List.foldl (fun x1 x2=>x1++x2) #[] (List.replicate m its.toArray)=(List.replicate m its).flatten.toArray:=by
 have:=lj its m []
 rw[List.nil_append] at this
 exact this
end L2
end
section
namespace L2
open PySem PySem.Spec PyProof.Rows
namespace HT
section
variable {prog:Program}{w:World}{A:Around}{E:Value->Shared->Prop}{s:Shared}
theorem zg {α β:Type}{f:α->Option β}{g:α->β}:∀{l:List α},(∀k∈l,f k=some (g k))->l.filterMap f=l.map g
 |[],_=>rfl
 |a::r,h=>by
  rw[List.filterMap_cons,h a List.mem_cons_self,List.map_cons,zg fun k hk=>h k (List.mem_cons_of_mem _ hk)]
theorem pick_rev (xs:List Value):(List.range xs.length).filterMap (fun (k:Nat)=>xs.toArray[(((xs.length:Nat):Int) - 1+(k:Int) * (-1)).toNat]?)=xs.reverse:=by
 rw[zg (g:=fun k=>xs.getD (xs.length - 1 - k) .none)]
 ·apply List.ext_getElem
  ·simp
  ·intro i h1 h2
   have h3:i<xs.length:=by simpa using h2
   have h4:xs.length - 1 - i<xs.length:=by omega
   rw[List.getElem_map,List.getElem_range,List.getElem_reverse]
   simp[h4]
 ·intro k hk
  have hk':k<xs.length:=List.mem_range.mp hk
  have e1:(((xs.length:Nat):Int) - 1+(k:Int) * (-1)).toNat=xs.length - 1 - k:=by omega
  have h2:xs.length - 1 - k<xs.length:=by omega
  rw[e1]
  simp[h2]
end
end HT
end L2
end
section
namespace L2
open PySem PySem.Spec PyProof.Rows PySem.W
noncomputable def Leaf {α:Type}(n:Nat)(P:α->Prop):KasT α->Prop
 |.ret a=>P a
 |.ask i j k=>i<n/\j<n/\∀b,Leaf n P (k b)
theorem Leaf.bind {α β:Type}{n:Nat}{P:α->Prop}{R:β->Prop}{f:α->KasT β}(hf:∀a,P a->Leaf n R (f a)):∀{t:KasT α},Leaf n P t->Leaf n R (t.bind f)
 |.ret a,h=>hf a h
 |.ask i j k,h=>⟨h.1,h.2.1,fun b=>Leaf.bind hf (h.2.2 b)⟩
noncomputable abbrev OfN (n:Nat)(p:Array Nat):Prop:=p.toList.Perm (List.range n)
theorem OfN.lt {n:Nat}{p:Array Nat}(h:OfN n p)(hn:0<n)(k:Nat):p.getD k 0<n:=by
 by_cases hk:k<p.size
 ·have e:p.getD k 0=p[k]:=by simp[Array.getD,hk]
  rw[e]
  exact List.mem_range.mp (h.subset (by simp))
 ·have e:p.getD k 0=0:=by simp[Array.getD,hk]
  rw[e];exact hn
theorem OfN.rev {n:Nat}{p:Array Nat}(h:OfN n p)(i j:Nat):OfN n (kas_rev p i j):=(mirror_perm p i j _).toList.trans h
theorem OfN.bub {n:Nat}{p:Array Nat}(h:OfN n p)(i j:Nat):OfN n (bubble p i j):=(bubble_perm p i j).toList.trans h
theorem mP {n:Nat}{p:Array Nat}(hp:OfN n p)(hn:0<n):∀f k,Leaf n (fun _=>True) (kas_asc p f k)
 |0,_=>True.intro
 |f+1,k=>⟨hp.lt hn _,hp.lt hn _,fun b=>by
  cases b with
  |true=>exact True.intro
  |false=>exact mP hp hn f (k+1)⟩
theorem jq {n:Nat}(hn:0<n):∀f (p:Array Nat) k q,OfN n p->Leaf n (fun r=>OfN n r.1) (kas_desc f p k q)
 |0,_,_,_,hp=>hp
 |f+1,p,k,q,hp=>⟨hp.lt hn _,hp.lt hn _,fun b=>by
  cases b with
  |true=>
   show Leaf n _ (if q > 0 then kas_desc f (kas_rev p (k - (q+1)) k) (k+1) 0 else kas_desc f p (k+1) 0)
   split
   ·exact jq hn f _ _ _ (hp.rev _ _)
   ·exact jq hn f _ _ _ hp
  |false=>
   refine⟨hp.lt hn _,hp.lt hn _,fun c=>?_⟩
   cases c with
   |true=>exact hp
   |false=>exact jq hn f _ _ _ hp⟩
theorem mO {n:Nat}(hn:0<n){p:Array Nat}(hp:OfN n p)(a b:Nat):Leaf n (fun r=>OfN n r.2) (kas_tail3 a b p):=by
 unfold kas_tail3
 exact Leaf.bind (P:=fun _=>True) (R:=fun r:Nat×Array Nat=>OfN n r.2) (f:=fun m=>KasT.ret (m,kas_rev p 0 a)) (fun m _=>(show OfN n (kas_rev p 0 a) from hp.rev 0 a)) (mP (hp.rev 0 a) hn _ _)
theorem jA {n:Nat}(hn:0<n){p:Array Nat}(hp:OfN n p)(a b:Nat):Leaf n (fun r=>OfN n r.2) (kas_descPart a b p):=by
 refine Leaf.bind (fun r hr=>?_) (jq hn _ _ _ _ hp)
 split
 ·exact mO hn (OfN.rev hr _ _) _ _
 ·exact mO hn hr _ _
theorem t9 {n:Nat}(hn:0<n){p:Array Nat}(hp:OfN n p)(b:Nat):Leaf n (fun r=>OfN n r.2) (kas_count b p):=by
 refine Leaf.bind (fun r _=>?_) (mP hp hn _ _)
 split
 ·exact hp
 ·split
  ·refine⟨hp.lt hn _,hp.lt hn _,fun c=>?_⟩
   cases c with
   |true=>exact hp
   |false=>exact jA hn (hp.rev _ _) _ _
  ·exact jA hn hp _ _
theorem jN {n:Nat}(hn:0<n){p:Array Nat}(hp:OfN n p)(k:Nat):∀f l r,Leaf n (fun _=>True) (kas_place p k f l r)
 |0,_,_=>True.intro
 |f+1,l,r=>by
  show Leaf n _ (if l ≥ r then .ret l else .ask (p.getD k 0) (p.getD ((l+r) / 2) 0) fun c=>if c=true then kas_place p k f l ((l+r) / 2) else kas_place p k f ((l+r) / 2+1) r)
  split
  ·exact True.intro
  ·refine⟨hp.lt hn _,hp.lt hn _,fun c=>?_⟩
   cases c with
   |true=>exact jN hn hp k f _ _
   |false=>exact jN hn hp k f _ _
theorem sF {n:Nat}(hn:0<n):∀f (p:Array Nat) k,OfN n p->Leaf n (OfN n) (kas_bin f p k)
 |0,_,_,hp=>hp
 |f+1,p,k,hp=>Leaf.bind (fun l _=>sF hn f _ _ (hp.bub _ _)) (jN hn hp k _ _ _)
theorem oO {n:Nat}(hn:0<n):Leaf n (OfN n) (kas_sort n):=by
 refine Leaf.bind (fun r hr=>?_) (t9 hn (show OfN n (List.toArray (List.range n)) from .refl _) n)
 split
 ·exact sF hn _ _ _ hr
 ·exact hr
theorem HOk.stands {P:Program}{w:World}{H:Hp}{h:Heap}{a:Addr}{o:HO}(x:HOk P w H h)(e:H a=some o):∃ob,h.get? a=some ob:=by
 have y:=x a o e
 cases o with
 |lst xs=>obtain⟨_,_,_,_,z⟩:=y;exact⟨_,z⟩
 |tup xs=>obtain⟨_,_,_,ob,z,_⟩:=y;exact⟨_,z⟩
 |dK kvs=>obtain⟨_,_,_,_,ob,_,_,z,_⟩:=y;exact⟨_,z⟩
 |dT kvs=>obtain⟨_,_,_,_,ob,_,_,z,_⟩:=y;exact⟨_,z⟩
 |set S n=>obtain⟨ob,_,_,_,z,_⟩:=y;exact⟨_,z⟩
 |ins C dx fs=>obtain⟨_,_,_,z,_⟩:=y;exact⟨_,z⟩
 |own y'=>exact y
 |xd fs=>obtain⟨_,⟨ob,_,_,z,_⟩,_⟩:=y;exact⟨_,z⟩
 |rng lo hi=>obtain⟨_,_,_,z⟩:=y;exact⟨_,z⟩
 |frz ob u=>exact⟨_,y.1⟩
 |tbl ps=>exact⟨_,(show h.get? a=some { cls:=.none,data:=.fields ps } from y)⟩
 |met f y'=>exact⟨_,(show h.get? a=some (PySem.W.methodObj (.ref f) (.ref y')) from y)⟩
 |ext φ=>exact y.2.1
theorem K8 {h:Heap}{L:Addr}{m m':Str->Option Value}(a:h.Ns L m)(b:h.Ns L m'):m=m':=by
 obtain⟨o,es,ep,h1,h2,h3,h4⟩:=a
 obtain⟨o',es',ep',h1',h2',h3',h4'⟩:=b
 rw[h1] at h1'
 cases h1'
 rw[h2] at h2'
 cases h2'
 funext x
 rw[←h4 x,←h4' x]
section
variable {X:Cx}{pins:List (Addr×Obj)}{σ:St}{H:Hp}{s:Shared}
theorem Inv.ledger {h':Heap}{m:Str->Option Value}{D:Addr}{ys:List V}{out:List Value}{c:Nat}(I:Inv X pins σ H s)(F0:Fr X.base X.env.locals s.heap m)(F:Fr X.base X.env.locals h' m)(N:News X.base X.env.locals h' ((D,listOf (List.toArray out) c)::kg X.base s.heap X.env.locals))
  (hD:s.heap.get? D=none) (r:Vals ys out) (hz:ys.length≤sizeLine):Inv X pins σ (upd H D (.lst ys)) { s with heap:=h' }/\H D=none:=by
 have hHD:H D=none:=by
  cases e:H D with
  |none=>rfl
  |some o=>
   obtain⟨ob,z⟩:=I.hok.stands e
   rw[hD] at z;cases z
 have kept:∀b o,b≠X.env.locals->s.heap.get? b=some o->h'.get? b=some o:=fun b o hb e=>by
  cases q:X.base.get? b with
  |some u=>
   have z:=I.bk b u q
   rw[e] at z;cases z
   exact F.keep b _ q
  |none=>exact (N (b,o) (List.mem_cons_of_mem _ (iX hb q e))).1
 have ne:∀b o,H b=some o->b≠D:=fun b o e z=>by subst z;rw[hHD] at e;cases e
 have neL:∀b o,H b=some o->b≠X.env.locals:=fun b o e z=>by subst z;rw[I.free] at e;cases e
 have hd:=(N (D,listOf (List.toArray out) c) (List.mem_cons_self)).1
 refine⟨I.step (g':=s.gens) (t':=s.toks) (d':=s.drawn) (ch:=[]) (fun _ z=>nomatch z) (fun b o hL _ _ e _=>kept b o hL e) (fun b o hL _ _ e _=>⟨o.slots,kept b o hL e⟩) (fun b o _ e n=>?_) (fun b o _ e=>?_)
  (fun b xs e=>by rw[ai (ne b _ e)];exact e) (fun b o u e=>by rw[ai (ne b _ e)];exact e) (fun b ps e=>⟨#[],by rw[ai (ne b _ e),e];simp⟩) (fun m1 hm=>?_) (fun b o e=>?_) I.bare,hHD⟩
 ·rw[ai (fun z=>by subst z;rw[hD] at e;cases e)];exact n
 ·by_cases hb:b=X.env.locals
  ·subst hb
   obtain⟨o',_,_,z,_⟩:=F.ns
   exact⟨o',z⟩
  ·exact⟨o,kept b o hb e⟩
 ·rw[K8 hm F0.ns];exact F.ns
 ·by_cases hb:b=D
  ·subst hb
   rw[ah] at e
   cases e
   exact⟨hz,out,c,r,hd⟩
  ·rw[ai hb] at e
   refine (I.hok b o e).stay (fun d u hc q=>kept d u ?_ q) (fun d z=>by rw[ai (ne d _ z)];exact z) fun d xs z=>by rw[ai (ne d _ z)];exact z
   rcases hc with z|z
   ·rw[z];exact neL b _ e
   ·exact neL d _ z
end
section
variable {prog:Program}{w:World}{A:Around}{E:Value->Shared->Prop}{s:Shared}
theorem ue {a:Addr}{vs:List Value}{n:Nat}{P:PySem.Fin->Shared->Prop}(ho:s.heap.get? a=some (seqObj "list" vs.toArray n))(h2:vs.length<2)
  (h:P (.done (.ret .none)) { s with heap:=sortedHeap s.heap a vs vs.toArray }):wpAny (model prog w) A (Builtin.«list.sort» ⟨[.ref a],[]⟩) P E s:=by
 rw[list_sort_plain]
 have ha:=Heap.lt_size ho
 refine wpAny_bind (listItems_at ho rfl (wpAny_bind (listUpdate_at ho rfl ?_ (by rw[List.size_toArray,sizeLine_eq];omega) (Nat.zero_le _))))
 obtain⟨e1,ho1⟩:∃e1,(s.heap.update a (Obj.mapSeq fun _=>(#[]:Array Value))).get? a=some (seqObj "list" #[] e1):=⟨_,get?_update_seq ho fun _=>#[]⟩
 refine wpAny_bind (seqEpoch_at ho1 rfl (wpAny_bind (wpAny_newTuple (wpAny_bind (wpAny_newList (wpAny_holding ?_) (Nat.zero_le _))) (by show vs.length≤_;rw[sizeLine_eq];omega))))
 have ho6:(((s.heap.update a (Obj.mapSeq fun _=>(#[]:Array Value))).push (seqObj "tuple" vs.toArray 0)).push (seqObj "list" #[] 0)).get? a=some (seqObj "list" #[] e1):=Heap.get?_push_of_some _ (Heap.get?_push_of_some _ ho1)
 show wpAny (model prog w) A _ P E { s with heap:=((s.heap.update a (Obj.mapSeq fun _=>(#[]:Array Value))).push (seqObj "tuple" vs.toArray 0)).push (seqObj "list" #[] 0) }
 dsimp only
 have hlt:vs.toArray.size<2:=by rw[List.size_toArray];exact h2
 rw[if_pos hlt,if_pos hlt]
 refine wpAny_bind (wpAny_pure ?_)
 rw[StateT.run_pure]
 have hsn:(arrOf (SortSt.mk' general' (vs.toArray.zip vs.toArray) #[] 7 none)).map (·.2)=vs.toArray:=by
  show (vs.toArray.zip vs.toArray).map (·.2)=vs.toArray
  apply Array.toList_inj.mp
  simp
  exact List.map_snd_zip (by simp)
 refine wpAny_bind (wpAny_pure ?_)
 dsimp only
 refine wpAny_bind (seqEpoch_at ho6 rfl ?_)
 refine wpAny_bind (listUpdate_at ho6 rfl ?_ (Nat.zero_le _) (by rw[hsn,List.size_toArray,sizeLine_eq];omega))
 simp only[bne_self_eq_false,Bool.false_eq_true,if_false]
 rw[hsn]
 exact wpAny_pure h
theorem qV {l:Addr}{vs:List Value}{Q:Value->Shared->Prop}(hl:s.heap.IsList l vs.toArray)(h2:vs.length<2)(h:Q (.ref (s.heap.objs.size+1)) { s with heap:=sortedAll s.heap vs vs.toArray }) :
  wpAny (model prog w) A (call (.builtin "sorted") [.ref l]) Q E s:=by
 refine Calls.call_function_entry kind_sorted plain_sorted entry_sorted (args_sorted1 _) ?_
 unfold Builtin.«sorted»
 refine wpAny_bind (m:=checkCount "sorted" 1 1 _) (wpAny_pure (wpAny_bind (collect_list hl (wpAny_bind (wpAny_newList ?_ (by rw[sizeLine_eq];omega))) (by rw[sizeLine_eq];omega))))
 have hsz:((s.heap.push (seqObj "list" #[] 0)).update s.heap.objs.size (Obj.mapSeq (·++vs.toArray))).objs.size=s.heap.objs.size+1:=(Heap.size_update ..).trans (size_push' ..)
 have hoL:(((s.heap.push (seqObj "list" #[] 0)).update s.heap.objs.size (Obj.mapSeq (·++vs.toArray))).push (seqObj "list" vs.toArray 0)).get? (s.heap.objs.size+1)=some (seqObj "list" vs.toArray 0):=hsz▸Heap.get?_push_size _ rfl
 show wpAny _ _ _ _ _ { s with heap:=((s.heap.push (seqObj "list" #[] 0)).update s.heap.objs.size (Obj.mapSeq (·++vs.toArray))).push (seqObj "list" vs.toArray 0) }
 rw[hsz]
 refine wpAny_bind (wpAny_holding (wpAny_call_entry slot_list_sort ⟨_,hoL,rfl⟩ entry_list_sort (ue hoL h2 ⟨_,rfl,?_⟩) (args_list_sort _)))
 exact wpAny_pure ⟨_,rfl,h⟩
end
end L2
end
section
namespace L2
open PySem PySem.Spec PyProof.Rows PySem.W
theorem i2 {α:Type}(d:α):∀(xs:List α),(List.range xs.length).map (fun i=>xs.getD i d)=xs:=fun xs=>by
 apply List.ext_getElem
 ·simp
 ·intro i h1 h2
  rw[List.getElem_map,List.getElem_range]
  simp[h2]
theorem tu {ts:List V}{its:List Value}(r:Vals ts its):∀{p:List Nat},(∀i∈p,i<its.length)->Vals (p.map fun i=>ts.getD i .non) (p.map fun i=>its.getD i Value.none)
 |[],_=>.nil
 |i::p,h=>by
  have hi:=h i List.mem_cons_self
  have hz:=ju r (j:=i) (by simpa using hi)
  have e:its.getD i Value.none=its.toArray[i]'(by simpa using hi):=by simp[hi]
  refine .cons ?_ (tu r fun j hj=>h j (List.mem_cons_of_mem _ hj))
  show RelV (ts.getD i .non) (its.getD i Value.none)
  rw[e];exact hz
end L2
end
section
namespace L2
open PySem PySem.Spec PyProof.Rows
noncomputable def FunD (K:PySem.W.Frag)(mg:Str->Option Value)(x:Str)(st:Stmt)(ps:List Str):Prop:=∃f fd,Fun K x x st f fd/\(∀us:List Value,us.length=ps.length->bindArgs fd ⟨us,[]⟩=pure (ps.zip us))/\mg x=some (.ref f)
noncomputable def Def (P:Program)(w:World)(K:PySem.W.Frag)(mg:Str->Option Value)(base:Heap)(k:Nat)(x:Str)(ps:List Str)(sp:Sp):Prop:=
 ∃f fd,FnOk P w K mg base rZ k f fd ps sp/\Binds K fd ps []/\PySem.W.keepIn K (.ref f)=true/\mg x=some (.ref f)
section
variable {P:Program}{w:World}{K:PySem.W.Frag}{mg:Str->Option Value}{base:Heap}
theorem FunD.ok {x:Str}{st:Stmt}{N ps:List Str}{k:Nat}{sp:Sp}(F:FunD K mg x st ps)(S:FnScope N ps (aa st))(len:∀vs H Q E,sp vs H Q E->vs.length=ps.length)
  (hbody:∀(f:Addr) (cdv:Value) (A:Around) (outer:List Env) (s:Shared) (H:Hp) (vs:List V) (Q:VK) (E:XK),Room k (A.deeper (envOfC x (aa st) s.heap.objs.size f cdv))->sp vs H Q E →
   ∃t,PSs (kE rZ P w K mg base N x (aa st) f cdv A outer s H E).nox (ak st) t/\t { nx:=fun _ H'=>Q .non H',rt:=Q } (fO N vs) H):Def P w K mg base (k+1) x ps sp:=by
 obtain⟨f,fd,F,b,m⟩:=F
 exact⟨f,fd,F.ok S len (hbody f),.all b,F.kp,m⟩
end
theorem FunD.top {P:Program}{w:World}{K:PySem.W.Frag}{mg:Str->Option Value}{x y:Str}{st:Stmt}{fa:Addr}{k:Nat}{sp:Sp}{N:List Str}{R:Heap->Prop}(F:FunD K mg x st [y])(hm:mg x=some (.ref fa))(S:FnScope N [y] (aa st))(len:∀vs H Q E,sp vs H Q E->vs.length=1)
  (hbody:∀base,R base->∀(f:Addr) (cdv:Value) (A:Around) (outer:List Env) (s:Shared) (H:Hp) (vs:List V) (Q:VK) (E:XK),Room k (A.deeper (envOfC x (aa st) s.heap.objs.size f cdv))->sp vs H Q E →
   ∃t,PSs (kE rZ P w K mg base N x (aa st) f cdv A outer s H E).nox (ak st) t/\t { nx:=fun _ H'=>Q .non H',rt:=Q } (fO N vs) H) :
  ∃fd:FuncData,(∀(s:Shared) (u:Value),BindsTo s fd ⟨[u],[]⟩ [(y,u)])/\∀base:Heap,R base->FnOk P w K mg base rZ (k+1) fa fd [y] sp:=by
 obtain⟨f,fd,F,b,m⟩:=F
 rw[hm] at m
 cases m
 exact⟨fd,fun s u=>.of_eq (b [u] rfl),fun base hb=>F.ok S len (hbody base hb fa)⟩
section
variable {X:Cx}{k j:Nat}{ps:List Str}{sp:Sp}{x:Str}{p pos:Pos}{e:Expr}{es:List Expr}{t:TA}
theorem nt (d:Def X.prog X.w X.K X.mg X.base j x ps sp)(hr:Room k X.A)(ha:PA X (e::es) t)(hj:j≤k:=by decide)(hg:Gl X x:=by rfl)(hdb:(x==("__debug__" : Str))=false:=by decide)(he:starEach (e::es) X.env=(false,eval e X.env)::starEach es X.env:=by rfl)
  (hpl:(backTo pos (starEach es X.env)).any (·.1)=false:=by rfl):PE X (.Call (.Name x p) (e::es) [] pos) (hX sp [] E0 t):=by
 obtain⟨f,fd,F,b,kp,m⟩:=d
 exact FL F (hr.mono hj) hg m kp b .nil An ha hdb he hpl
theorem wA (d:Def X.prog X.w X.K X.mg X.base j x ps sp)(hr:Room k X.A)(hj:j≤k:=by decide)(hg:Gl X x:=by rfl)(hdb:(x==("__debug__" : Str))=false:=by decide):PE X (.Call (.Name x p) [] [] pos) (hX sp [] E0 kZ):=by
 obtain⟨f,fd,F,b,kp,m⟩:=d
 exact Ax F (hr.mono hj) hg m kp b .nil An hdb
end
section
variable {X:Cx}{scope:Scope}{tg iter elt:Expr}{ifs:List Expr}{pos spos px:Pos}{g:TG}{tc:TT}{te:TE}{wi:TI}
theorem qp (N':List Str)(fm:List (Option Nat))(hi:PI X tg iter wi)(hg:∀C s H ex,PG (X.blk scope N' C s H ex) tg g)(ht:∀C s H ex,PIf (X.blk scope N' C s H ex) ifs tc)(he:∀C s H ex,PE (X.blk scope N' C s H ex) elt te)(hk:ng fm g)
  (hB:jP scope.kind scope.names X.env.kindOf X.N N' fm=true:=by rfl) (hc:X.calm=true:=by rfl) (hs:∀x,foldedSetIterable iter X.env x=pure x:=by intro _;rfl):PE X (.ListComp elt [⟨tg,iter,ifs,0⟩] scope pos) (gJ fm wi g tc te):=
 CO (Ao hB) hc hi hg hk ht he hs
theorem rg {i:Nat}{x:Str}(N':List Str)(fm:List (Option Nat))(hN:X.N.Nodup)(hi:PI X tg iter wi)(hg:∀C s H ex,PG (X.blk scope N' C s H ex) tg g)(ht:∀C s H ex,PIf (X.blk scope N' C s H ex) ifs tc)(he:∀C s H ex,PE (X.blk scope N' C s H ex) elt te)(hk:ng fm g)
  (hi':X.N[i]?=some x:=by rfl) (hx:X.env.kindOf x=some .local:=by rfl)
  (hB:jP scope.kind scope.names X.env.kindOf X.N N' fm=true:=by rfl) (hc:X.calm=true:=by rfl) (hsw:swapsWith (.ListComp elt [⟨tg,iter,ifs,0⟩] scope pos) (some (.Name x px)) spos.line X.env=pure true:=by rfl)
  (hs:∀x,foldedSetIterable iter X.env x=pure x:=by intro _;rfl):PS X (.Assign [.Name x px] (.ListComp elt [⟨tg,iter,ifs,0⟩] scope pos) spos) (ir (gJ fm wi g tc te) (dm i)):=
 uX hN hi' hx (Ao hB) hc hi hg hk ht he hsw hs
end
theorem aE {K:PySem.W.Frag}{mg:Str->Option Value}{x:Str}{st:Stmt}{f:Addr}{oc:Value}{od an:Option Addr}{osl:Array (Option Value)}{kV doc pm cdv ct:Value}{ps:List Str}(l:K.lookup f=some ⟨oc,od,.func (PySem.W.fnOf x x (ao st) (ak st) (aa st) .none kV doc pm an cdv ct),osl⟩)
  (c:PySem.W.codeIn K cdv x=true) (k:PySem.W.keepIn K (.ref f)=true) (m:mg x=some (.ref f))
  (h:∀(kV doc pm:Value) (an:Option Addr) (cdv ct:Value) (us:List Value),us.length=ps.length->bindArgs (PySem.W.fnOf x x (ao st) (ak st) (aa st) .none kV doc pm an cdv ct) ⟨us,[]⟩=pure (ps.zip us)):FunD K mg x st ps:=
 ⟨f,_,JW l c k,h kV doc pm an cdv ct,m⟩
inductive Any (H:Hp):V->Prop where
 |non:Any H .non
 |bl (b:Bool):Any H (.bl b)
 |int (i:Int):Any H (.int i)
 |str (x:Str):Any H (.str x)
 |lst {a:Addr} {xs:List V} (e:H a=some (.lst xs)):Any H (.ref a)
 |tup {a:Addr} {xs:List V} (e:H a=some (.tup xs)):Any H (.ref a)
 |dK {a:Addr} {kvs:List (cW×V)} (e:H a=some (.dK kvs)):Any H (.ref a)
theorem Any.mono {H H':Hp}{v:V}(h:Any H v)(s:Same H H'):Any H' v:=by
 cases h with
 |non=>exact .non
 |bl b=>exact .bl b
 |int i=>exact .int i
 |str x=>exact .str x
 |lst e=>exact .lst (s _ _ e)
 |tup e=>exact .tup (s _ _ e)
 |dK e=>exact .dK (s _ _ e)
noncomputable def vH (H:Hp):V->Option (List V)
 |.ref a=>match H a with
  |some (.tup xs)=>some xs
  |_=>none
 |_=>none
noncomputable def gD (H:Hp):V->Option (List V)
 |.ref a=>match H a with
  |some (.lst xs)=>some xs
  |_=>none
 |_=>none
section
variable {X:Cx}{x:Str}{pos:Pos}
theorem Os {n:String}(hm:X.mg x=none)(hv:bootBuiltins x=some (.type n))(hg:Gl X x:=by rfl)(hn:x ≠ "__name__":=by decide)(hd:(x==("__debug__" : Str))=false:=by decide):PE X (.Name x pos) (tC (.ty n)):=Ch hg hm hv rfl hn hd
theorem He {i:Int}(h:∃t,X.mg x=some (.int i t))(hg:Gl X x:=by rfl)(hd:(x==("__debug__" : Str))=false:=by decide):PE X (.Name x pos) (tC (.int i)):=by
 obtain⟨t,h⟩:=h
 exact mq hg h ⟨t,rfl⟩ hd
end
theorem Bi:bootBuiltins "len" = some (.builtin "len"):=by decide +kernel
theorem HD:bootBuiltins "abs" = some (.builtin "abs"):=by decide +kernel
theorem B3:bootBuiltins "max" = some (.builtin "max"):=by decide +kernel
theorem Ac:bootBuiltins "min" = some (.builtin "min"):=by decide +kernel
theorem Iu:bootBuiltins "all" = some (.builtin "all"):=by decide +kernel
theorem JB:bootBuiltins "any" = some (.builtin "any"):=by decide +kernel
theorem nW:bootBuiltins "isinstance" = some (.builtin "isinstance"):=by decide +kernel
theorem o5:bootBuiltins "sorted" = some (.builtin "sorted"):=by decide +kernel
theorem BY:bootBuiltins "int" = some (.type "int"):=by decide +kernel
theorem Eu:bootBuiltins "bool" = some (.type "bool"):=by decide +kernel
theorem IL:bootBuiltins "str" = some (.type "str"):=by decide +kernel
theorem pp:bootBuiltins "list" = some (.type "list"):=by decide +kernel
theorem kJ:bootBuiltins "tuple" = some (.type "tuple"):=by decide +kernel
theorem Dq:bootBuiltins "dict" = some (.type "dict"):=by decide +kernel
theorem Ak:bootBuiltins "range" = some (.type "range"):=by decide +kernel
end L2
end
section
namespace L2
open PySem PySem.Spec PyProof.Rows
section
variable {K:PySem.W.Frag}{a:Addr}{xs:List V}{wi:TI}{g:TG}{tb:TS}{D:Ends}{σ:St}{H H1:Hp}{lo:Int}{n:Nat}
theorem qZ (Pv:Nat->St->Hp->Prop)(hw:∀R:It->Hp->Prop,R (CP lo n) H1->wi σ H R)(h0:Pv 0 σ H1)
  (hs:∀i σ H,i<n->Pv i σ H->g (.int (lo+i)) σ H fun σ2 H2=>tb { D with nx:=Pv (i+1),ct:=Pv (i+1),bk:=D.nx } σ2 H2) (hd:∀σ H,Pv n σ H->D.nx σ H):xI wi g tb D σ H:=hw _ (wL Pv h0 hs hd)
end
theorem Same.upd {H H':Hp}{l:Addr}(s:Same H H')(h:H' l=none)(o:HO):Same H (L2.upd H' l o):=s.trans (aM h o)
section
variable {X:Cx}{K:PySem.W.Frag}(h:X.K=K)
include h
end
noncomputable def NS (e:Expr):Prop:=∀(es:List Expr) (env:Env),starEach (e::es) env=(false,eval e env)::starEach es env
theorem gL {k p}:NS (.Name k p):=fun _ _=>rfl
theorem Dy {a o b p}:NS (.Call a o b p):=fun _ _=>rfl
theorem dM {X:Cx}{e:Expr}{es:List Expr}{te:TE}{t:TA}(h:NS e)(ha:PE X e te)(hr:PA X es t):PA X (e::es) (gB te t):=DN ha hr (h es X.env)
end L2
end
section
namespace L2
open PySem PySem.Spec PyProof.Rows
inductive TabEs (w:World):List DictEntry->List (Str×Addr)->Prop where
 |nil:TabEs w [] []
 |cons {x:Str} {t:Tok} {f:Addr} {es:List DictEntry} {kvs:List (Str×Addr)}:TabEs w es kvs->TabEs w (⟨PyData.keyHash w.params x,.str x t,.ref f⟩::es) ((x,f)::kvs)
structure Tab (w:World)(K:PySem.W.Frag)(a:Addr)(kvs:List (Str×Addr)):Prop where
 sys:(a==sysModules)=false
 nd:(kvs.map (·.1)).Nodup
 it:∃(es:Array DictEntry) (ep:Nat),K.lookup a=some ⟨.type "dict",none,.dict es ep,#[]⟩/\TabEs w es.toList kvs
noncomputable def Cb (kvs:List (Str×Addr)):List (cW×Value):=kvs.map fun p=>(.inr p.1,.ref p.2)
theorem TabEs.ok {P:Program}{w:World}:∀{es:List DictEntry} {kvs:List (Str×Addr)},TabEs w es kvs->(∀e∈es,∃k,(aL P w).is k e.key=true/\e.hash=(aL P w).hash k)/\Pairs (aL P w) es (Cb kvs)
 |_,_,.nil=>⟨fun _ h=>(by cases h),.nil⟩
 |_,_,@TabEs.cons _ x t f es kvs r=>by
  obtain⟨a,b⟩:=r.ok (P:=P)
  refine⟨fun e he=>?_,.cons (fE P w x t) rfl b⟩
  rcases List.mem_cons.mp he with rfl|he
  ·exact⟨.inr x,fE P w x t,rfl⟩
  ·exact a e he
theorem Tab.dict {w:World}{K:PySem.W.Frag}{a:Addr}{kvs:List (Str×Addr)}{P:Program}{h:Heap}(T:Tab w K a kvs)(X:K.In h):h.DictOf (aL P w) a (Cb kvs):=by
 obtain⟨s,nd,es,ep,l,r⟩:=T
 obtain⟨a1,a2⟩:=r.ok (P:=P)
 refine⟨_,es,ep,X a _ l,⟨rfl,rfl,rfl⟩,rfl,fun e he=>a1 e (Array.mem_toList_iff.mpr he),a2,?_⟩
 have:(Cb kvs).map (·.1)=(kvs.map (·.1)).map (Sum.inr:Str->cW):=by simp[Cb]
 rw[this]
 exact nd.map _ fun _ _ ne e=>ne (Sum.inr.inj e)
noncomputable def DefA (P:Program)(w:World)(K:PySem.W.Frag)(mg:Str->Option Value)(base:Heap)(k:Nat)(f:Addr)(ps:List Str)(sp:Sp):Prop:=
 ∃fd,FnOk P w K mg base rZ k f fd ps sp/\Binds K fd ps []/\PySem.W.keepIn K (.ref f)=true
theorem Def.at {P:Program}{w:World}{K:PySem.W.Frag}{mg:Str->Option Value}{base:Heap}{k:Nat}{x:Str}{ps:List Str}{sp:Sp}{f:Addr}(d:Def P w K mg base k x ps sp)(h:mg x=some (.ref f)):DefA P w K mg base k f ps sp:=by
 obtain⟨f',fd,F,b,kp,m⟩:=d
 rw[h] at m
 cases m
 exact⟨fd,F,b,kp⟩
theorem DefA.imp {P:Program}{w:World}{K:PySem.W.Frag}{mg:Str->Option Value}{base:Heap}{k:Nat}{f:Addr}{ps:List Str}{sp sp':Sp}(d:DefA P w K mg base k f ps sp)(h:∀vs H Q E,sp' vs H Q E->sp vs H Q E):DefA P w K mg base k f ps sp':=by
 obtain⟨fd,F,r⟩:=d
 exact⟨fd,F.imp h,r⟩
section
variable {X:Cx}{k j:Nat}{ps:List Str}{D:Addr->Sp->Prop}{x:Str}{p pos:Pos}{e:Expr}{es:List Expr}{t:TA}{i:Nat}
noncomputable def Lq (i:Nat)(D:Addr->Sp->Prop)(t:TA):TE:=fun σ H Q=>∃f sp,σ[i]?=some (some (.ref f))/\D f sp/\t σ H fun vs H1=>sp vs H1 Q E0
theorem Ap (d:∀f sp,D f sp->DefA X.prog X.w X.K X.mg X.base j f ps sp)(hr:Room k X.A)(hN:X.N[i]?=some x)(hv:G7 X.env.scope x)(ha:PA X (e::es) t)(hj:j≤k:=by decide)(hdb:(x==("__debug__" : Str))=false:=by decide)(hcd:(x==("__classdict__" : Str))=false:=by decide)
  (he:starEach (e::es) X.env=(false,eval e X.env)::starEach es X.env:=by rfl) (hpl:(backTo pos (starEach es X.env)).any (·.1)=false:=by rfl):PE X (.Call (.Name x p) (e::es) [] pos) (Lq i D t):=by
 intro pins s σ H Q I h
 obtain⟨f,sp,hf,hok,h⟩:=h
 obtain⟨fd,F,b,kp⟩:=d f sp hok
 refine wpAny_Call_Name_kw (bj (uM (pos:=p) hN hv hdb hcd pins s σ H (fun v H'=>v=.ref f/\H'=H) I ⟨_,hf,rfl,rfl⟩) fun u s1 ⟨v,H1,I1,r,e1,e2⟩=>?_)
 subst e1 e2
 obtain rfl:u=Value.ref f:=r
 refine PySem.W.callWith_K (h₀:=X.base) I1.ok.mod.kin kp (bj (ha pos pins s1 σ H1 _ I1 h) fun us s2 ⟨vs,H2,I2,r,q⟩=>⟨I2.kIn,?_⟩) he hpl
 exact uc F (hr.mono hj) b .nil An I2 r (by rw[List.append_nil];exact q)
end
end L2
end
section
namespace L2
open PySem PySem.Spec PyProof.Rows
section
variable {X:Cx}{pins:List (Addr×Obj)}{σ:St}{H:Hp}{s:Shared}{h':Heap}
theorem Inv.turned2 {t':Nat}{e it:Addr}(I:Inv X pins σ H s)(k:∀b o,b≠e->b≠it->s.heap.get? b=some o->h'.get? b=some o)(f:∀b∈[e,it],kf X pins H b):Inv X pins σ H { s with heap:=h',toks:=t' }:=by
 have ne:∀b u,H b=some u->b≠e/\b≠it:=fun b u q=>⟨fun z=>(by rw[z,(f e (by simp)).1] at q;cases q),fun z=>(by rw[z,(f it (by simp)).1] at q;cases q)⟩
 have kk:∀b o,b∉[e,it]->s.heap.get? b=some o->h'.get? b=some o:=fun b o hb q=>k b o (fun z=>hb (by simp[z])) (fun z=>hb (by simp[z])) q
 refine I.step (g':=s.gens) (d':=s.drawn) (ch:=[e,it]) (fun b hb=>?_) (fun b o _ _ hc q _=>kk b o hc q) (fun b o _ _ hc q _=>⟨o.slots,kk b o hc q⟩) (fun _ _ _ _ n=>n)
  (fun b o hc q=>⟨o,kk b o hc q⟩) (fun _ _ q=>q) (fun _ _ _ q=>q) (fun b ps q=>⟨#[],by rw[q];simp⟩) (fun m hm=>?_) (fun b u q=>?_) I.bare
 ·obtain⟨f0,f1,f2,f3,f4,f5⟩:=f b hb
  exact⟨f3,f1,f4,f5⟩
 ·obtain⟨o,es,ep,ho,r⟩:=hm
  exact⟨o,es,ep,k _ o (Ne.symm (f e (by simp)).2.1) (Ne.symm (f it (by simp)).2.1) ho,r⟩
 ·refine (I.hok b u q).stay (fun c v hc g=>?_) (fun _ g=>g) fun _ _ g=>g
  rcases hc with z|z
  ·subst z;exact k _ v (ne _ u q).1 (ne _ u q).2 g
  ·exact k c v (ne c _ z).1 (ne c _ z).2 g
end
noncomputable def Rm (K:PySem.W.Frag)(a:Addr):It:=
 ⟨fun i H=>∃xs x,SqL K H a xs/\xs[i]?=some x,fun i H v H'=>∃p x,v=.ref p/\H p=none/\H'=upd H p (.tup [.int i,x])/\∀xs,SqL K H a xs->xs[i]?=some x,fun i H=>∃xs,SqL K H a xs/\xs.length≤i⟩
theorem w6 {P:Program}{w:World}{K:PySem.W.Frag}{elts:List Expr}{x1}{pos:Pos}(a e it:Addr)(hne:e≠it):Turn P w K (.Tuple elts x1 pos) (Rm K a) [e,it] e (fun i h=>(∃old,IsEnum h e it i old)/\h.IsListIter it a i) where
 mem:=by simp
 obj:=fun i h st b hb=>by
  obtain⟨⟨old,he⟩,o,e',c,d⟩:=st
  rcases List.mem_cons.mp hb with z|z
  ·subst z
   exact⟨_,he,fun v q=>by
    have q':Data.fields _=Data.cell v:=q
    cases q'⟩
  ·have e2:b=it:=by simpa using z
   subst e2
   exact⟨o,e',fun v q=>by rw[d] at q;cases q⟩
 keep:=fun i h h' st k=>⟨⟨st.1.choose,k e (by simp) _ st.1.choose_spec⟩,st.2.at fun o q=>k it (by simp) o q⟩
 item:=by
  intro X hP hw hK hc i pins s σ H E I hf st hg
  subst hP hw hK
  obtain⟨xs,x,hq,hx⟩:=hg
  obtain⟨its,rv,p,hz⟩:=I.list hq
  obtain⟨u,hu,ru⟩:=rv.get hx
  obtain⟨⟨old,he⟩,hit⟩:=st
  refine wpAny_pyNext_enum_item he hit p.isList (x:=u) (by simpa using hu) hne fun h' out lit tup sz kp=>⟨_,rfl,?_⟩
  refine wpAny_letOwnedTupleGo_enum out fun h2 he2 sb=>?_
  have fr:H s.heap.objs.size=none:=I.hok.fresh (Nat.le_refl _)
  have I1:Inv X pins σ (upd H s.heap.objs.size (.tup [.int i,x])) { s with heap:=s.heap.push { cls:=.type "tuple",data:=.seq #[.int i s.toks,u] },toks:=s.toks }:=by
   refine I.laid (t':=s.toks) (fun b u e=>Heap.get?_push_of_some _ e) (Nat.le_refl _) ?_
   exact⟨by simp;decide,[.int i s.toks,u],.cons ⟨_,rfl⟩ (.cons ru .nil),⟨_,Heap.get?_push_size _ rfl,rfl,_,rfl⟩⟩
  have ltE:e<s.heap.objs.size:=Heap.lt_size he
  have lY:it<s.heap.objs.size:=by obtain⟨o,q,_⟩:=hit;exact Heap.lt_size q
  have f1:∀b∈[e,it],kf X pins (upd H s.heap.objs.size (.tup [.int i,x])) b:=fun b hb=>by
   have hb':b≠s.heap.objs.size:=by
    rcases List.mem_cons.mp hb with z|z
    ·rw[z];exact Nat.ne_of_lt ltE
    ·rw[show b=it by simpa using z];exact Nat.ne_of_lt lY
   exact⟨by rw[ai hb'];exact (hf b hb).1,(hf b hb).2⟩
  have I2:Inv X pins σ (upd H s.heap.objs.size (.tup [.int i,x])) { s with heap:=h2,toks:=s.toks+1 }:=by
   refine Inv.turned2 (e:=e) (it:=it) (t':=s.toks+1) (h':=h2) (s:={ s with heap:=s.heap.push { cls:=.type "tuple",data:=.seq #[.int i s.toks,u] },toks:=s.toks }) I1 (fun b o n1 n2 q=>?_) f1
   rw[sb.2 b n1]
   rcases Heap.get?_push_cases q with ⟨z1,z2⟩|z
   ·subst z1 z2;exact tup
   ·exact kp b o n1 n2 z
  refine⟨.ref s.heap.objs.size,_,I2,rfl,⟨_,x,rfl,fr,rfl,fun ys hy=>by rw[I.list_inj hy hq];exact hx⟩,⟨⟨_,he2⟩,?_⟩,fun b hb=>(f1 b hb).1⟩
  exact lit.at fun o q=>(sb.2 it (Ne.symm hne)).trans q
 done:=by
  intro X hP hw hK hc i pins s σ H E I hf st hg
  subst hP hw hK
  obtain⟨xs,hq,hx⟩:=hg
  obtain⟨its,rv,p,hz⟩:=I.list hq
  obtain⟨⟨old,he⟩,hit⟩:=st
  obtain⟨f0,f1,f2,f3,f4,f5⟩:=hf it (by simp)
  have hl:=rv.length
  exact wpAny_pyNext_enum_end (I.ok.hd hc) he hit p.isList (by simp;omega) fun h' eb=>⟨rfl,I.turned (t':=s.toks) (fun b o hb e=>eb b o hb e) f0 f1 f3 f4 f5⟩
 self:=fun _ _ _ _ _ st h=>wpAny_pyIter_enum st.1.choose_spec h
noncomputable def zk (K:PySem.W.Frag)(ta:TA):TI:=fun σ H R=>ta σ H fun vs H1=>∃a,vs=[.ref a]/\(∃xs,SqL K H1 a xs)/\R (Rm K a) H1
theorem ka:bootBuiltins "enumerate" = some (.type "enumerate"):=by decide +kernel
section
variable {X:Cx}{elts:List Expr}{tpos:Pos}
theorem CY {x1}{a:Expr}{ta:TA}{p pos:Pos}(hg:Gl X "enumerate")(hm:X.mg "enumerate" = none)(ha:PA X [a] ta)(hs:starEach [a] X.env=[(false,eval a X.env)]:=by rfl):PI X (.Tuple elts x1 tpos) (.Call (.Name "enumerate" p) [a] [] pos) (zk X.K ta):=by
 intro pins s σ H R I h
 refine Call_ (jO I hg hm ka (PyProof.Rows.callWith_type1 (bj (ha pos pins s σ H _ I h) fun us s1 ⟨vs,H1,I1,r1,q1⟩=>?_) hs rfl))
 obtain⟨l,e,⟨xs,hq⟩,q⟩:=q1
 subst e
 cases r1 with
 |cons r rr=>
  cases rr
  cases r
  obtain⟨its,rv,pl,hz⟩:=I1.list hq
  refine call_enumerate_list pl.isList fun h' he hit sz kp=>?_
  refine wpAny_pyIter_enum he ?_
  have I2:Inv X pins σ H1 { s1 with heap:=h',toks:=s1.toks }:=I1.kept kp
  refine⟨s1.heap.objs.size+1,[s1.heap.objs.size+1,s1.heap.objs.size],_,_,H1,rfl,I2,w6 l _ _ (Nat.succ_ne_self _),⟨⟨_,he⟩,hit⟩,fun b hb=>?_,q⟩
  have hb':s1.heap.objs.size≤b:=by
   rcases List.mem_cons.mp hb with z|z
   ·rw[z];exact Nat.le_succ _
   ·have e:b=s1.heap.objs.size:=by simpa using z
    rw[e];exact Nat.le_refl _
  exact I1.fpOk hb' (I1.hok.fresh hb')
end
end L2
end
section
namespace L2
open PySem PySem.Spec PyProof.Rows PySem.SeqAt
inductive Deq (K:PySem.W.Frag) (H:Hp):Nat->V->V->Bool->Prop where
 |iE {n:Nat} {x y:V}:i7 x=true->i7 y=true->Deq K H n x y (wz x y)
 |same {n:Nat} {a:Addr}:Deq K H n (.ref a) (.ref a) true
 |tup {n:Nat} {a b:Addr} {xs ys:List V} {e:Nat->Bool}:a≠b->SqT K H a xs->SqT K H b ys->(∀j,j<xs.length->j<ys.length->Deq K H n (xs.getD j .non) (ys.getD j .non) (e j)) →
   Deq K H (n+1) (.ref a) (.ref b) ((List.range (min xs.length ys.length)).all e&&xs.length==ys.length)
theorem Deq.at {X:Cx}{pins:List (Addr×Obj)}{σ:St}{H:Hp}{s:Shared}(I:Inv X pins σ H s){n:Nat}{x y:V}{k:Bool}(d:Deq X.K H n x y k):∀{A:Around} {u v:Value},A.units+n<cLine->RelV x u->RelV y v->EqAt A s u v k:=by
 induction d with
 |iE fx fy=>
  intro A u v hu rx ry
  exact JH rx ry fx fy
 |same=>
  intro A u v hu rx ry
  cases rx;cases ry
  exact EqAt.same _
 | @tup n a b xs ys e hne ha hb hd ih=>
  intro A u v hu rx ry
  cases rx;cases ry
  obtain⟨its,r1,p1,z1⟩:=I.tuple ha
  obtain⟨its2,r2,p2,z2⟩:=I.tuple hb
  have l1:=r1.length
  have l2:=r2.length
  refine EqAt.of_refs hne ?_
  have q:=RcAt.tuples (A:=A) (s:=s) (e:=e) p1 p2 (by omega) (fun j h1 h2=>ih j (by simp at h1;omega) (by simp at h2;omega) (by show A.units+1+n<cLine;omega) (ju r1 h1) (ju r2 h2))
  simpa [l1,l2] using q
end L2
end
section
namespace L2
open PySem PySem.Spec PyProof.Rows PySem.W
noncomputable def cR {α:Type}(c:Nat->Nat->Bool):KasT α->α
 |.ret a=>a
 |.ask i j k=>cR c (k (c i j))
theorem BU {α:Type}{n:Nat}{P:α->Prop}{cmp:Nat->Nat->(Bool->Shared->Prop)->Shared->Prop}{Q:α->Shared->Prop}{s:Shared}(lt:Nat->Nat->Bool)(hc:∀i j C,i<n->j<n->C (lt i j) s->cmp i j C s) :
  ∀{t:KasT α},Leaf n P t->(P (cR lt t)->Q (cR lt t) s)->t.kasWp cmp Q s
 |.ret a,h,hq=>hq h
 |.ask i j k,h,hq=>hc i j _ h.1 h.2.1 (BU lt hc (h.2.2 (lt i j)) hq)
theorem sC {α:Type}{n:Nat}{P:α->Prop}(lt:Nat->Nat->Bool):∀{t:KasT α},Leaf n P t->P (cR lt t)
 |.ret a,h=>h
 |.ask i j k,h=>sC (t:=k (lt i j)) lt (h.2.2 (lt i j))
noncomputable def zt (fin:Bool):List (Int×Int)->Bool
 |[]=>fin
 |(x,y)::r=>if x=y then zt fin r else decide (x<y)
noncomputable def lY (xs ys:List Int):Bool:=zt (decide (xs.length<ys.length)) (xs.zip ys)
noncomputable def jy (ks:List (List Int)):List Nat:=if ks.length<2 then List.range ks.length else (cR (fun i j=>lY (ks.getD i []) (ks.getD j [])) (kas_sort ks.length)).toList
theorem lq (ks:List (List Int)):(jy ks).Perm (List.range ks.length):=by
 unfold jy
 split
 ·exact .refl _
 ·exact sC _ (oO (by omega))
inductive TupsIn (H:Hp):List V->List (List Int)->Prop where
 |nil:TupsIn H [] []
 |cons {a:Addr} {is:List Int} {ts:List V} {ks:List (List Int)}:H a=some (.tup (is.map V.int))->is≠[]->TupsIn H ts ks->TupsIn H (.ref a::ts) (is::ks)
theorem TupsIn.length {H:Hp}{ts:List V}{ks:List (List Int)}(h:TupsIn H ts ks):ts.length=ks.length:=by
 induction h with
 |nil=>rfl
 |cons _ _ _ ih=>rw[List.length_cons,List.length_cons,ih]
theorem TupsIn.get {H:Hp}{ts:List V}{ks:List (List Int)}(h:TupsIn H ts ks):∀{i:Nat},i<ts.length->∃a,ts.getD i .non=.ref a/\H a=some (.tup ((ks.getD i []).map V.int))/\ks.getD i []≠[]:=by
 induction h with
 |nil=>intro i hi;exact absurd hi (Nat.not_lt_zero _)
 | @cons a is ts ks h1 h2 h3 ih=>
  intro i hi
  cases i with
  |zero=>exact⟨a,rfl,h1,h2⟩
  |succ i=>exact ih (by simpa using hi)
section
variable {X:Cx}{pins:List (Addr×Obj)}{σ:St}{H:Hp}{s:Shared}
theorem Al (I:Inv X pins σ H s){a:Addr}{is:List Int}(h:H a=some (.tup (is.map V.int))):a≠X.env.locals/\∃o n vs,Vals (is.map V.int) vs/\s.heap.get? a=some o/\o.cls=.type "tuple"/\o.data=.seq vs.toArray n:=by
 refine⟨fun z=>?_,?_⟩
 ·rw[z,I.free] at h;cases h
 ·obtain⟨_,its,r,o,e,c,n,d⟩:=(show ObjOk X.prog X.w H s.heap a (.tup (is.map V.int)) from I.hok a _ h)
  exact⟨o,n,its,r,e,c,d⟩
theorem Gb (I:Inv X pins σ H s){h':Heap}(kept:∀b o,b≠X.env.locals->s.heap.get? b=some o->h'.get? b=some o):∀{ts:List V} {ks:List (List Int)} {its:List Value},Vals ts its->TupsIn H ts ks →
  ∃fs:List Value,KatTups h' its fs/\fs.length=its.length/\∀v∈fs,∃i t,v=Value.int i t:=by
 intro ts ks its r hp
 induction hp generalizing its with
 |nil=>cases r;exact⟨[],KatTups.nil,rfl,fun _ z=>nomatch z⟩
 | @cons a is ts ks ha ne hp ih=>
  cases r with
  |cons r1 r2=>
   obtain⟨fs,h1,h2,h3⟩:=ih r2
   cases r1
   obtain⟨nl,o,n,vs,rv,eo,ec,ed⟩:=Al I ha
   cases is with
   |nil=>exact absurd rfl ne
   |cons i is=>
    cases rv with
    |cons q1 q2=>
     obtain⟨tk,rfl⟩:=q1
     refine⟨.int i tk::fs,KatTups.cons (kept a o nl eo) ec ed rfl h1,by rw[List.length_cons,List.length_cons,h2],fun v hv=>?_⟩
     rcases List.mem_cons.mp hv with rfl|hv
     ·exact⟨i,tk,rfl⟩
     ·exact h3 v hv
theorem Bl {prog:Program}{w:World}{A:Around}{fin:Bool}{C:Bool->Shared->Prop}{s':Shared}:∀{xs ys:List Int} {us vs:List Value} {k:Nat},Vals (xs.map V.int) us->Vals (ys.map V.int) vs->C (zt fin (xs.zip ys)) s'->KatLex prog w A true fin C (us.zip vs) k s'
 |[],ys,us,vs,k,r1,r2,h=>by cases r1;exact kat_nil h
 |x::xs,[],us,vs,k,r1,r2,h=>by cases r2;cases us<;>exact kat_nil h
 |x::xs,y::ys,us,vs,k,r1,r2,h=>by
  cases r1 with
  |cons a1 r1=>
   cases r2 with
   |cons a2 r2=>
    obtain⟨t,rfl⟩:=a1
    obtain⟨u,rfl⟩:=a2
    rw[List.zip_cons_cons] at h ⊢
    rw[zt] at h
    refine kat_cons (wpAny_eqBool_int ?_)
    by_cases e:x=y
    ·rw[if_pos e] at h
     rw[show (x==y)=true by rw[e];exact beq_self_eq_true _]
     exact kat_yes (Bl r1 r2 h)
    ·rw[if_neg e] at h
     rw[show (x==y)=false from beq_eq_false_iff_ne.mpr e]
     refine kat_no ?_
     by_cases hk:k=0
     ·subst hk;exact oneLt_int h
     ·rw[show (true&&k==0)=false by simp[hk]]
      exact kat_one _ _ (lt_int h)
end
theorem qt {X:Cx}:CallR X (.builtin "sorted") (fun xs H Q=>∃p ts ks,xs=[.ref p]/\SqL X.K H p ts/\ts.length<64/\TupsIn H ts ks/\∀l,H l=none->Q (.ref l) (upd H l (.lst ((jy ks).map fun i=>ts.getD i .non)))):=by
 intro pins s σ H xs us Q I r h
 obtain⟨p,ts,ks,rfl,hq,h64,hp,q⟩:=h
 obtain⟨u,rfl,rx⟩:=fP r
 cases rx
 obtain⟨its,rv,pl,hz⟩:=I.list hq
 have hl:=rv.length
 have hk:=hp.length
 by_cases h2:its.length<2
 ·refine qV pl.isList h2 ?_
  obtain⟨e,he⟩:=sortedAll_at s.heap its its.toArray
  have es:(jy ks).map (fun i=>ts.getD i .non)=ts:=by
   unfold jy
   rw[if_pos (by omega),←hk]
   exact i2 _ _
  have q':=q (s.heap.objs.size+1) (I.hok.fresh (Nat.le_succ _))
  rw[es] at q'
  exact⟨.ref (s.heap.objs.size+1),_,I.laid (t':=s.toks) (fun b o z=>sortedAll_old z) (Nat.le_succ _) (show ObjOk X.prog X.w _ _ _ (.lst ts) from⟨hz,its,e,rv,he⟩),rfl,q'⟩
 ·obtain⟨m,F0⟩:=I.fr
  refine kat_sorted F0 Ba pl.isList (by omega) (by omega) fun D e1 h' F' N' hlt=>?_
  have nD:=N' (D,seqObj "list" #[] e1) List.mem_cons_self
  have hD:s.heap.get? D=none:=by
   cases e:s.heap.get? D with
   |none=>rfl
   |some o=>exact absurd (hlt (D,o) (iX nD.2.1 nD.2.2 e)) (Nat.lt_irrefl _)
  have kept:∀b o,b≠X.env.locals->s.heap.get? b=some o->h'.get? b=some o:=fun b o hb e=>by
   cases z:X.base.get? b with
   |some v=>
    have y:=I.bk b v z
    rw[e] at y;cases y
    exact F'.keep b _ z
   |none=>exact (N' (b,o) (List.mem_cons_of_mem _ (iX hb z e))).1
  obtain⟨fs,k1,k2,k3⟩:=Gb I kept rv hp
  refine kat_kind (s:={ s with heap:=h' }) k1 (by omega) (T:=.type "int") (fun v hv=>?_) (by decide) ?_
  ·obtain⟨i,t,rfl⟩:=k3 v hv
   exact Looks.of_pure rfl
  ·refine BU (n:=its.length) (P:=OfN its.length) (fun i j=>lY (ks.getD i []) (ks.getD j [])) (fun i j C hi hj hC=>?_) (oO (by omega)) (fun hpm=>?_)
   ·have get:∀i,i<its.length->∃a o n vs,Vals ((ks.getD i []).map V.int) vs/\its.getD i Value.none=.ref a/\h'.get? a=some o/\o.data=.seq vs.toArray n:=fun i hi=>by
     have hi':i<ts.length:=by omega
     obtain⟨a,e,ha,_⟩:=hp.get hi'
     have hr:=ju rv (j:=i) (by simpa using hi)
     have e2:its.getD i Value.none=its.toArray[i]'(by simpa using hi):=by simp[hi]
     rw[e] at hr
     obtain⟨nl,o,n,vs,rvs,eo,ec,ed⟩:=Al I ha
     exact⟨a,o,n,vs,rvs,e2.trans hr,kept a o nl eo,ed⟩
    obtain⟨a,o,n,vs,rvs,g1,g2,g3⟩:=get i hi
    obtain⟨a',o',n',vs',rvs',g1',g2',g3'⟩:=get j hj
    show wpAny (model X.prog X.w) X.A.in1.in1 (keyLt' (tuples' (Value.type "int" != Value.type "tuple")) (its.getD i Value.none) (its.getD j Value.none)) C (fun _ _=>False) _
    rw[g1,g1',show (Value.type "int" != Value.type "tuple")=true by decide]
    refine kat_lt g2 g3 g2' g3' ?_
    have l1:=rvs.length
    have l2:=rvs'.length
    rw[List.length_map] at l1 l2
    refine Bl rvs rvs' ?_
    have e9:decide (vs.toArray.size<vs'.toArray.size)=decide ((ks.getD i []).length<(ks.getD j []).length):=by rw[List.size_toArray,List.size_toArray,l1,l2]
    rw[e9]
    exact hC
   ·have eo:jy ks=(cR (fun i j=>lY (ks.getD i []) (ks.getD j [])) (kas_sort its.length)).toList:=by
     unfold jy
     rw[if_neg (by omega),show ks.length=its.length by omega]
    generalize hpme:cR (fun i j=>lY (ks.getD i []) (ks.getD j [])) (kas_sort its.length)=pm at hpm eo ⊢
    have hmem:∀i∈pm.toList,i<its.length:=fun i hi=>List.mem_range.mp (hpm.subset hi)
    have ry:Vals (pm.toList.map fun i=>ts.getD i .non) (pm.toList.map fun i=>its.getD i Value.none):=tu rv hmem
    have perm:(pm.toList.map fun i=>ts.getD i .non).Perm ts:=by
     have z:=hpm.map (fun i=>ts.getD i V.non)
     rw[←hl,i2] at z
     exact z
    refine KasFin.intro F' N' (.head fun _ z=>?_) fun h'' c F'' N''=>?_
    ·exact Nat.ne_of_lt (hlt _ z)
    ·obtain⟨I2,hHD⟩:=I.ledger F0 F'' N'' hD ry (by rw[perm.length_eq];exact hz)
     have q':=q D hHD
     rw[eo] at q'
     exact⟨.ref D,_,I2,rfl,q'⟩
end L2
end
section
namespace L2
open PySem PySem.Spec PyProof.Rows
section
variable {X:Cx}{pins:List (Addr×Obj)}{σ:St}{H:Hp}{s:Shared}{a:Addr}{kvs:List (cW×V)}{k:cW}{z:V}{u r:Value}{A:Around}{E:Value->Shared->Prop}
theorem Ji {Q:Value->Shared->Prop}(I:Inv X pins σ H s)(e:H a=some (.dK kvs))(ry:RelV (kV k) u)(rz:RelV z r)(hl:kvs.length<sizeLine)
  (h1:∀v w' s',iB kvs k=some v->Inv X pins σ H s'->RelV v w'->Q w' s') (h2:iB kvs k=none->∀s',Inv X pins σ (upd H a (.dK (ja kvs k z))) s'->Q r s') :
  wpAny (model X.prog X.w) A (call (.builtin "dict.setdefault") [.ref a,u,r]) Q E s:=by
 obtain⟨zz,hd,vs,rel,dd⟩:=G8 I.hok e
 have rv:=rel.val k
 refine call_meetsIn PySem.F.slot_dict_setdefault dd.typeIs PySem.F.entry_dict_setdefault (PySem.F.args_dict_setdefault_3 _ _ _) (PySem.kt_meets_setdefault (aL X.prog X.w) a (AA ry) hd r) ⟨vs,dd,by rw[←rel.length];exact zz,fun w' hw=>?_,fun hn h' dd' hs=>?_⟩
 ·rw[hw] at rv
  cases q:iB kvs k with
  |none=>rw[q] at rv;exact rv.elim
  |some v=>rw[q] at rv;exact h1 v w' _ q (I.tok _) rv
 ·rw[hn] at rv
  have hz:(ja kvs k z).length≤sizeLine:=by have:=r6 kvs k z;omega
  have he:∃q,h'.get? a=some q:=let ⟨q,_,_,hq,_⟩:=dd';⟨q,hq⟩
  cases q:iB kvs k with
  |some v=>rw[q] at rv;exact rv.elim
  |none=>exact h2 q _ (FY I (by rw[e];exact True.intro) hs he (KO hz hd (rel.put k rz) dd'))
end
noncomputable def AQ (td ty tx:TE):TE:=fun σ H Q=>td σ H fun x H1=>∃a,x=.ref a/\Rf H1 a/\ty σ H1 fun y H2=>tx σ H2 fun z H3=>∃kvs k,H3 a=some (.dK kvs)/\y=kV k/\kvs.length<sizeLine ∧
 (∀v,iB kvs k=some v->Q v H3)/\(iB kvs k=none->Q z (upd H3 a (.dK (ja kvs k z))))
section
variable {X:Cx}{o e f:Expr}{apos cpos:Pos}{td ty tx:TE}
theorem yC (ho:PE X o td)(he:PE X e ty)(hf:PE X f tx)(m:M2 X o "setdefault" apos e f cpos):PE X (.Call (.Attribute o "setdefault" apos) [e,f] [] cpos) (AQ td ty tx):=by
 intro pins s σ H Q I h
 refine wpAny_Call_method m.base m.few m.line PySem.F.plainAttrs_dict PySem.F.slot_dict_setdefault PySem.F.type_dict_setdefault (bj (ho pins s σ H _ I h) fun u s1 ⟨x,H1,I1,rx,a,ex,d,q1⟩=>?_)
 subst ex
 obtain rfl:u=Value.ref a:=rx
 obtain⟨t1,t2,_⟩:=KZ I1 d
 refine⟨t1,t2,?_⟩
 rw[m.trees]
 refine Calls.callWith_builtin rfl (Calls.evalArgs_plain (Calls.spliced_cons (bj (he pins s1 σ H1 _ I1 q1) fun iv s2 ⟨y,H2,I2,ry,q2⟩=>
  Calls.spliced_cons (bj (hf pins s2 σ H2 _ I2 q2) fun fv s3 ⟨z,H3,I3,rz,kvs,k,ea,ey,hl,q3,q4⟩=>Calls.spliced_nil ?_))))
 subst ey
 exact Ji I3 ea ry rz hl (fun v w' s4 l I4 rw'=>⟨v,H3,I4,rw',q3 v l⟩) fun l s4 I4=>⟨z,_,I4,rz,q4 l⟩
end
noncomputable def Rj (d:Addr)(ob:Obj)(kvs:List (cW×V)):It:=
 ⟨fun i H=>H d=some (.frz ob (.dK kvs))/\i<kvs.length,fun i H x H'=>H'=H/\(kvs[i]?).map (·.2)=some x,fun i H=>H d=some (.frz ob (.dK kvs))/\kvs.length≤i⟩
theorem pI {P:Program}{w:World}{h:Heap}{d:Addr}{vs:List (cW×Value)}{ob:Obj}(ho:h.get? d=some ob)(x:h.DictOf (aL P w) d vs):∃es ep,ob.data=.dict es ep/\h.DictAt (aL P w) d vs ep:=by
 obtain⟨o,es,ep,h1,h2,h3,h4⟩:=x
 rw[ho] at h1;cases h1
 exact⟨es,ep,h3,ob,es,ho,h2,h3,h4⟩
theorem xQ {P:Program}{w:World}{K:PySem.W.Frag}{tg:Expr}(d it:Addr)(hne:d≠it)(ob:Obj)(es:Array DictEntry)(ep:Nat)(hob:ob.data=.dict es ep)(kvs:List (cW×V)):Turn P w K tg (Rj d ob kvs) [it] it (fun i h=>h.IsValIter it d i kvs.length ep) where
 mem:=by simp
 obj:=fun i h st b hb=>by
  have e:b=it:=by simpa using hb
  subst e
  obtain⟨o,e,c,d⟩:=st
  exact⟨o,e,fun v z=>by rw[d] at z;cases z⟩
 keep:=fun i h h' st k=>st.at fun o e=>k it (by simp) o e
 item:=by
  intro X hP hw hK hc i pins s σ H E I hf st hg
  subst hP hw hK
  obtain⟨hd,hi⟩:=hg
  obtain⟨f0,f1,f2,f3,f4,f5⟩:=hf it (by simp)
  obtain⟨hgo,zz,hs,vs,rel,dd⟩:=(show ObjOk X.prog X.w H s.heap d (.frz ob (.dK kvs)) from I.hok d _ hd)
  obtain⟨es',ep',q1,at'⟩:=pI hgo dd
  rw[hob] at q1;cases q1
  have hl:kvs.length=vs.length:=rel.length
  have hi':i<vs.length:=by omega
  have hv:∃x,kvs[i]?=some x/\∃u,vs[i]?=some u/\RelV x.2 u.2:=by
   refine⟨kvs[i],List.getElem?_eq_getElem hi,vs[i],List.getElem?_eq_getElem hi',?_⟩
   have g:∀{l:List (cW×V)} {m:List (cW×Value)},KV l m->∀j (h1:j<l.length) (h2:j<m.length),RelV l[j].2 m[j].2:=by
    intro l m r
    induction r with
    |nil=>intro j h1;exact absurd h1 (Nat.not_lt_zero _)
    |cons r0 _ ih=>
     intro j h1 h2
     cases j with
     |zero=>exact r0.2
     |succ j=>exact ih j (by simpa using h1) (by simpa using h2)
   exact g rel i hi hi'
  obtain⟨x,hx,⟨k2,u⟩,hu,ru⟩:=hv
  have st2:s.heap.IsValIter it d i vs.length ep:=by rw[←hl];exact st
  refine wpAny_pyNext_values_item st2 at' hu fun h' st' sb=>?_
  have I1:Inv X pins σ H { s with heap:=h' }:=I.turned (t':=s.toks) (fun b o hb e=>sb.extBut b o hb e) f0 f1 f3 f4 f5
  rw[←hl] at st'
  obtain⟨o,e,c,dd'⟩:=id st'
  exact⟨u,rfl,wb (s:={ s with heap:=h' }) e c dd' (by decide) ⟨x.2,H,I1,ru,⟨rfl,by rw[hx];rfl⟩,st',fun b hb=>(hf b hb).1⟩⟩
 done:=by
  intro X hP hw hK hc i pins s σ H E I hf st hg
  subst hP hw hK
  obtain⟨hd,hi⟩:=hg
  obtain⟨f0,f1,f2,f3,f4,f5⟩:=hf it (by simp)
  obtain⟨hgo,zz,hs,vs,rel,dd⟩:=(show ObjOk X.prog X.w H s.heap d (.frz ob (.dK kvs)) from I.hok d _ hd)
  obtain⟨es',ep',q1,at'⟩:=pI hgo dd
  rw[hob] at q1;cases q1
  have hl:kvs.length=vs.length:=rel.length
  have st2:s.heap.IsValIter it d i vs.length ep:=by rw[←hl];exact st
  exact wpAny_pyNext_values_end (I.ok.hd hc) st2 at' (List.getElem?_eq_none (by omega)) fun h' eb=>⟨rfl,I.turned (t':=s.toks) (fun b o hb e=>eb b o hb e) f0 f1 f3 f4 f5⟩
 self:=fun _ _ _ _ _ st h=>wpAny_pyIter_valiter st h
noncomputable def GN (td:TE):TI:=fun σ H R=>td σ H fun x H1=>∃d kvs,x=.ref d/\H1 d=some (.dK kvs)/\∀ob,R (Rj d ob kvs) (upd H1 d (.frz ob (.dK kvs)))
theorem Inv.frzD {X:Cx}{pins:List (Addr×Obj)}{σ:St}{H:Hp}{s:Shared}{d:Addr}{kvs:List (cW×V)}{ob:Obj}(I:Inv X pins σ H s)(hd:H d=some (.dK kvs))(ho:s.heap.get? d=some ob):Inv X pins σ (upd H d (.frz ob (.dK kvs))) s:=by
 have ne:∀b o,H b=some o->(∀l,o≠.dK l)->b≠d:=fun b o e n z=>by subst z;rw[hd] at e;cases e;exact n _ rfl
 have ok:HOk X.prog X.w (upd H d (.frz ob (.dK kvs))) s.heap:=fun b o e=>by
  by_cases hb:b=d
  ·subst hb
   rw[ah] at e;cases e
   exact⟨ho,I.hok b _ hd⟩
  ·rw[ai hb] at e
   refine (I.hok b o e).stay (fun _ _ _ q=>q) (fun c q=>?_) fun c xs q=>?_
   ·rw[ai (ne c _ q fun l z=>nomatch z)];exact q
   ·rw[ai (ne c _ q fun l z=>nomatch z)];exact q
 have un:Un X.fs [] H (upd H d (.frz ob (.dK kvs))) s.heap s.heap:=⟨fun b o e _ _ _=>e,fun b o e _ _ _=>⟨o.slots,e⟩,fun b o e n _=>by
   rw[ai fun z=>by subst z;rw[hd] at n;cases n];exact n,fun b o e _=>⟨o,e⟩,fun b xs q=>by rw[ai (ne b _ q fun l z=>nomatch z)];exact q,fun b o u q=>by rw[ai (ne b _ q fun l z=>nomatch z)];exact q,fun b ps q=>⟨#[],by rw[ai (ne b _ q fun l z=>nomatch z),Array.append_empty];exact q⟩⟩
 exact I.un un ok
section
variable {X:Cx}{tg o:Expr}{apos cpos:Pos}{td:TE}
theorem Cg (ho:PE X o td)(hbase:attributeBase o "values" X.env (eval o X.env)=eval o X.env:=by rfl)(hline:(apos.endLine==cpos.line)=true:=by rfl):PI X tg (.Call (.Attribute o "values" apos) [] [] cpos) (GN td):=by
 intro pins s σ H R I h
 refine wpAny_Call_method0_late hbase hline (bj (ho pins s σ H _ I h) fun v s1 ⟨x,H1,I1,r1,d,kvs,ex,hd,q⟩=>?_)
 subst ex
 cases r1
 obtain⟨zz,hs,vs,rel,dd⟩:=G8 I1.hok hd
 have hn:∃ob,s1.heap.get? d=some ob/\ob.dict=none:=let ⟨ob,_,_,e1,e2,_⟩:=dd;⟨ob,e1,e2.2.1⟩
 obtain⟨ob,hob,hdn⟩:=hn
 have hlt:=Heap.lt_size hob
 refine⟨"dict","dict.values",PySem.F.plainAttrs_dict,PySem.F.slot_dict_values,PySem.F.type_dict_values,dd.typeIs,fun b e=>by cases e;exact⟨ob,hob,hdn⟩,Calls.callWith_builtin rfl (PySem.evalArgs_none (call_meetsIn PySem.F.slot_dict_values dd.typeIs PySem.F.entry_dict_values (PySem.F.args_dict_values_1 _) (meets_dict_values (aL X.prog X.w) d hs) ⟨⟨vs,dd⟩,?_⟩))⟩
 obtain⟨es,ep,q1,at'⟩:=pI hob dd
 refine wpAny_pyIter_values (knd:=aL X.prog X.w) (d:=d) (kvs:=vs) (ep:=ep) ⟨_,Heap.get?_push_size _ rfl,rfl,rfl⟩ (at'.at' fun o e=>Heap.get?_push_of_some _ e) ?_
 have hl:kvs.length=vs.length:=rel.length
 have k1:∀b u,s1.heap.get? b=some u->((s1.heap.push { cls:=.type "dict_values",data:=.fields #[.ref d] }).push { cls:=.type "dict_valueiterator",data:=.fields #[.ref d,.int 0 0,.int vs.length 0,.int ep 0] }).get? b=some u:=fun b u e=>Heap.get?_push_of_some _ (Heap.get?_push_of_some _ e)
 have I2:=I1.kept (t':=s1.toks) k1
 have I3:=I2.frzD hd (k1 d ob hob)
 have sz:(s1.heap.push { cls:=.type "dict_values",data:=.fields #[.ref d] }).objs.size=s1.heap.objs.size+1:=by simp[Heap.push]
 have hne:d≠(s1.heap.push { cls:=.type "dict_values",data:=.fields #[.ref d] }).objs.size:=Nat.ne_of_lt (by rw[sz];exact Nat.lt_succ_of_lt hlt)
 refine⟨_,[_],_,_,_,rfl,I3,xQ d _ hne ob es ep q1 kvs,?_,fun b hb=>?_,q ob⟩
 ·rw[hl];exact⟨_,Heap.get?_push_size _ rfl,rfl,rfl⟩
 ·have e:b=(s1.heap.push { cls:=.type "dict_values",data:=.fields #[.ref d] }).objs.size:=by simpa using hb
  subst e
  refine I1.fpOk (by rw[sz];exact Nat.le_succ _) ?_
  rw[ai (Ne.symm hne)]
  exact I1.hok.fresh (by rw[sz];exact Nat.le_succ _)
end
end L2
end
section
namespace L2
open PySem PySem.Spec PyProof.Rows
theorem oy (its:List Value):slicePick its.toArray none none (some (-1))=its.reverse.toArray:=by
 have e:sliceBounds none none (some (-1)) its.toArray.size=((its.length:Int) - 1,-1,-1):=by simp[sliceBounds]
 have r:sliceRange ((its.length:Int) - 1) (-1) (-1)=(List.range its.length).map fun (k:Nat)=>(((its.length:Nat):Int) - 1+(-1) * (k:Int)).toNat:=by
  unfold sliceRange
  have c:(if (-1:Int) > 0 then (if (its.length:Int) - 1 < -1 then (-1 - ((its.length:Int) - 1) + -1 - 1) / -1 else 0) else (if (its.length:Int) - 1 > -1 then ((its.length:Int) - 1 - -1 - -1 - 1) / (- -1) else 0)).toNat=its.length:=by
   rw[if_neg (by decide)]
   by_cases h:(its.length:Int) - 1 > -1
   ·rw[if_pos h,show (- -1:Int)=1 by decide,Int.ediv_one];omega
   ·rw[if_neg h];omega
  simp only[c]
 unfold slicePick
 rw[e]
 show (List.filterMap _ (sliceRange ((its.length:Int) - 1) (-1) (-1))).toArray=_
 rw[r,List.filterMap_map,←HT.pick_rev]
 congr 2
 funext k
 show its.toArray[(((its.length:Nat):Int) - 1+(-1) * (k:Int)).toNat]?=_
 rw[Int.mul_comm]
noncomputable def MM (K:PySem.W.Frag)(te ts:TE):TE:=fun σ H Q=>te σ H fun x H1=>ts σ H1 fun y H2=>y=.int (-1)/\∃a xs,x=.ref a/\SqL K H2 a xs/\∀p,H2 p=none->Q (.ref p) (upd H2 p (.lst xs.reverse))
theorem Ct {X:Cx}{e st:Expr}{te ts:TE}{p2 pos:Pos}(he:PE X e te)(hst:PE X st ts):PE X (.Subscript e (.Slice none none (some st) p2) pos) (MM X.K te ts):=by
 intro pins s σ H Q I h
 refine Subscript_ (bj (he pins s σ H _ I h) fun v s1 ⟨x,H1,I1,r1,q1⟩=>?_)
 refine wpAny_Slice ?_
 rw[evalPart_none]
 refine wpAny_pure (wpAny_pure ?_)
 rw[evalPart_some]
 refine bj (hst pins s1 σ H1 _ I1 q1) fun vst s3 ⟨y,H3,I3,r3,ey,a,xs,ex,hx,q⟩=>?_
 subst ey ex
 obtain⟨t,rfl⟩:=r3
 cases r1
 have I4:Inv X pins σ H3 { s3 with heap:=s3.heap.push { cls:=.type "slice",data:=.fields #[.none,.none,.int (-1) t] } }:=I3.kept (t':=s3.toks) fun b ob q=>Heap.get?_push_of_some _ q
 show wpAny (model X.prog X.w) X.A (subscriptTail e (.Slice none none (some st) p2) (.ref a) (.ref s3.heap.objs.size)) (EP X pins σ Q) X.xe { s3 with heap:=s3.heap.push { cls:=.type "slice",data:=.fields #[.none,.none,.int (-1) t] } }
 obtain⟨its,r,ht,hz⟩:=I4.list hx
 have hlen:=r.length
 refine tail_any (ops:=[.ref a,.ref s3.heap.objs.size]) ht.isList.typeIs slot_list_getitem.lookup (wpAny_getItem_list_slice ht.isList (Heap.IsSliceOf.new ..) .none .none (.int _ _) (by simp) ?_ (by rw[List.size_toArray];omega)) (by with_unfolding_all rfl)
 rw[oy]
 refine⟨.ref _,_,I4.laid (t':=s3.toks) (o:=.lst xs.reverse) (fun b ob q=>Heap.get?_push_of_some _ q) (Nat.le_refl _) ?_,rfl,q _ (I4.hok.fresh (Nat.le_refl _))⟩
 exact⟨by rw[List.length_reverse];exact hz,_,0,r.reverse,Heap.get?_push_size _ rfl⟩
theorem kj:∀{ns:List Int} {its:List Value},Vals (ns.map V.int) its->IntsAre its ns
 |[],_,r=>by cases r;exact .nil
 |n::ns,_,r=>by
  cases r with
  |cons r1 r2=>
   obtain⟨t,rfl⟩:=r1
   exact .cons n t (kj r2)
theorem wR {X:Cx}(hc:X.calm=true):CallR X (.builtin "max") (fun xs H Q=>∃(p:Addr) (ns:List Int),xs=[.ref p]/\SqL X.K H p (ns.map V.int)/\0<ns.length/\∀M,M∈ns->(∀a∈ns,a≤M)->Q (.int M) H):=by
 intro pins s σ H xs us Q I r h
 obtain⟨p,ns,rfl,hq,hne,q⟩:=h
 obtain⟨u,rfl,rx⟩:=fP r
 cases rx
 obtain⟨its,rv,pl,hz⟩:=I.list hq
 have hi:=kj rv
 obtain⟨ys,e⟩:=hi.allInts.items
 have hns:ns=ys.toList.map (·.1):=by rw[←hi.numsOf,←nums_intItems,←e]
 have hsz:0<ys.size:=by have h3:=hne;rw[hns,List.length_map,Array.length_toList] at h3;exact h3
 have hl:=pl.isList
 rw[e] at hl
 refine max_intList (I.ok.hd hc) hl hsz fun v h' tk hv hk=>?_
 obtain⟨t,rfl⟩:=intItems_at hv
 obtain⟨h1,h2⟩:=argBest_gt (numAt ys) (ys.size - 1)
 refine⟨.int _,H,I.kept (t':=tk) hk,⟨t,rfl⟩,q _ ?_ fun a ha=>?_⟩
 ·rw[hns,numAt_eq];exact getD_mem (by rw[List.length_map,Array.length_toList];omega)
 ·rw[hns] at ha
  obtain⟨j,hj,rfl⟩:=mem_getD ha
  rw[List.length_map,Array.length_toList] at hj
  rw[←numAt_eq];exact h2 j (by omega)
theorem xN {X:Cx}(hc:X.calm=true):CallR X (.builtin "min") (fun xs H Q=>∃(p:Addr) (ns:List Int),xs=[.ref p]/\SqL X.K H p (ns.map V.int)/\0<ns.length/\∀M,M∈ns->(∀a∈ns,M≤a)->Q (.int M) H):=by
 intro pins s σ H xs us Q I r h
 obtain⟨p,ns,rfl,hq,hne,q⟩:=h
 obtain⟨u,rfl,rx⟩:=fP r
 cases rx
 obtain⟨its,rv,pl,hz⟩:=I.list hq
 have hi:=kj rv
 obtain⟨ys,e⟩:=hi.allInts.items
 have hns:ns=ys.toList.map (·.1):=by rw[←hi.numsOf,←nums_intItems,←e]
 have hsz:0<ys.size:=by have h3:=hne;rw[hns,List.length_map,Array.length_toList] at h3;exact h3
 have hl:=pl.isList
 rw[e] at hl
 refine min_intList (I.ok.hd hc) hl hsz fun v h' tk hv hk=>?_
 obtain⟨t,rfl⟩:=intItems_at hv
 obtain⟨h1,h2⟩:=argBest_lt (numAt ys) (ys.size - 1)
 refine⟨.int _,H,I.kept (t':=tk) hk,⟨t,rfl⟩,q _ ?_ fun a ha=>?_⟩
 ·rw[hns,numAt_eq];exact getD_mem (by rw[List.length_map,Array.length_toList];omega)
 ·rw[hns] at ha
  obtain⟨j,hj,rfl⟩:=mem_getD ha
  rw[List.length_map,Array.length_toList] at hj
  rw[←numAt_eq];exact h2 j (by omega)
theorem xk {X:Cx}(hc:X.calm=true):CallR X (.builtin "sum") (fun xs H Q=>∃(p:Addr) (ns:List Int),xs=[.ref p]/\SqL X.K H p (ns.map V.int)/\Q (.int ns.sum) H):=by
 intro pins s σ H xs us Q I r h
 obtain⟨p,ns,rfl,hq,q⟩:=h
 obtain⟨u,rfl,rx⟩:=fP r
 cases rx
 obtain⟨its,rv,pl,hz⟩:=I.list hq
 have hi:=kj rv
 obtain⟨ys,e⟩:=hi.allInts.items
 have hns:ns=ys.toList.map (·.1):=by rw[←hi.numsOf,←nums_intItems,←e]
 have hl:=pl.isList
 rw[e] at hl
 refine sum_intListG (I.ok.hd hc) hl fun h' tk t' hk=>?_
 refine⟨.int ns.sum,H,I.kept (t':=tk) hk,⟨t',?_⟩,q⟩
 rw[preSum_eq,List.take_of_length_le (by simp),hns]
theorem zH {X:Cx}:L5 X (fun o i H Q=>∃p xs k v,o=.ref p/\i=.int k/\0≤k/\SqL X.K H p xs/\atI xs k=some v/\Q v H):=by
 intro pins s σ H o i ov iv Q I ro ri h
 obtain⟨p,xs,k,z,rfl,rfl,h0,hq,he,q⟩:=h
 cases ro
 obtain⟨t,rfl⟩:=ri
 obtain⟨its,r,pl,hz⟩:=I.list hq
 obtain⟨j,h1,h2,h3,h4,h5⟩:=mm he
 obtain⟨w,ew,rw'⟩:=r.get h2
 have hl:=r.length
 have hn:=lx
 have hj:k.toNat=j:=by
  rw[seqIndex_of h0 h5] at h1
  exact Option.some.inj h1
 exact wpAny_getItem_list pl.isList h0 (by omega) (by rw[hj];simpa using ew) ⟨z,H,I,rw',q⟩
end L2
end
section
namespace L2
open PySem PySem.Spec PyProof.Rows
section
variable {prog:Program}{w:World}{A:Around}{E:Value->Shared->Prop}{s:Shared}
theorem Hv {it t:Addr}{i:Nat}{items:Array Value}{x:Value}{Q:Value->Shared->Prop}(hit:s.heap.IsTupleIter it t i)(ht:s.heap.IsTuple t items)(hx:items[i]?=some x)
  (hQ:∀h',h'.IsTupleIter it t (i+1)->Heap.SameBut it s.heap h'->Q x { s with heap:=h' }):wpAny (model prog w) A (Builtin.SmallTypes.nextOf (.ref it)) Q E s:=by
 have hT:=hit.typeIs
 obtain⟨o,ho,hc,hd⟩:=hit;obtain⟨ol,hol,_,nl,hdl⟩:=ht
 unfold Builtin.SmallTypes.nextOf
 refine wpAny_bind (wpAny_callSpecial?_slot (name:=Str.ofString "__next__") hT F.slot_tuple_iterator_next (wpAny_call_entry F.slot_tuple_iterator_next hT F.entry_tuple_iterator_next ?_ (F.args_tuple_iterator_next_1 _)))
 refine (?_:wpAny _ _ (field (.ref it) 0 >>= _) _ _ s);refine wpAny_bind (wpAny_field ho hd (x:=.ref t) rfl (?_:wpAny _ _ (if (Value.ref t==Value.none)=true then _ else _) _ _ s))
 rw[if_neg (show ¬((Value.ref t==Value.none)=true) from Bool.false_ne_true)];refine (?_:wpAny _ _ (field (.ref it) 1 >>= _) _ _ s);refine wpAny_bind (wpAny_field ho hd (x:=.int i 0) rfl (?_:wpAny _ _ (seqItems? (.ref t) >>= _) _ _ s));refine wpAny_bind (m:=seqItems? (.ref t)) (wpAny_seqItems hol hdl ?_);simp only[Int.toNat_natCast,hx]
 refine wpAny_bind (wpAny_setField ho hd (by simp) (wpAny_pure ⟨x,rfl,wpAny_pure (hQ _ ⟨_,Heap.get?_update_self _ ho (Obj.isFreed_of_fields (Obj.data_mapFields hd _)),(Obj.cls_mapFields ..).trans hc,by rw[Obj.data_mapFields hd];simp[rawInt]⟩ (Heap.SameBut.update ..))⟩))
theorem vU {it t:Addr}{i:Nat}{items:Array Value}{Q:Value->Shared->Prop}(hh:A.handled=none)(hit:s.heap.IsTupleIter it t i)(ht:s.heap.IsTuple t items)(hx:items[i]?=none)
  (hE:∀h' e,Heap.ExtBut it s.heap h'->(∃o,h'.get? e=some o/\o.cls=.type "StopIteration")->E (.ref e) { s with heap:=h' }):wpAny (model prog w) A (Builtin.SmallTypes.nextOf (.ref it)) Q E s:=by
 have hT:=hit.typeIs
 obtain⟨o,ho,hc,hd⟩:=hit;obtain⟨ol,hol,_,nl,hdl⟩:=ht
 unfold Builtin.SmallTypes.nextOf
 refine wpAny_bind (wpAny_callSpecial?_slot (name:=Str.ofString "__next__") hT F.slot_tuple_iterator_next (wpAny_call_entry F.slot_tuple_iterator_next hT F.entry_tuple_iterator_next ?_ (F.args_tuple_iterator_next_1 _)))
 refine (?_:wpAny _ _ (field (.ref it) 0 >>= _) _ _ s);refine wpAny_bind (wpAny_field ho hd (x:=.ref t) rfl (?_:wpAny _ _ (if (Value.ref t==Value.none)=true then _ else _) _ _ s))
 rw[if_neg (show ¬((Value.ref t==Value.none)=true) from Bool.false_ne_true)];refine (?_:wpAny _ _ (field (.ref it) 1 >>= _) _ _ s);refine wpAny_bind (wpAny_field ho hd (x:=.int i 0) rfl (?_:wpAny _ _ (seqItems? (.ref t) >>= _) _ _ s));refine wpAny_bind (m:=seqItems? (.ref t)) (wpAny_seqItems hol hdl ?_);simp only[Int.toNat_natCast,hx]
 refine wpAny_bind (wpAny_rule (wpAny_bind (wpAny_setField ho hd (by simp) (?_:wpAny _ _ (newExc (.type "StopIteration") [] >>= _) _ _ _))))
 refine wpAny_bind ?_;simp only[newExc,newTuple];refine wpAny_bind (wpAny_newObj_type ?_ (by size_fits))
 refine wpAny_bind (m:=firstArgMember _ _) (wpAny_of_eq (a:=Value.none) (by first|rfl|(simp only[firstArgMember];rfl)) (wpAny_newObj_type ?_ (by size_fits)))
 simp only[raiseNew];refine wpAny_bind (wpAny_handled ?_);first|rw[show A.in1.handled=none from hh]|rw[hh]
 exact wpAny_bind (wpAny_pure (wpAny_throw (hE _ _ (((Heap.SameBut.update ..).extBut.push _).push _) ⟨_,Heap.get?_push_size _ rfl,rfl⟩)))
end
theorem qd {h h':Heap}{a t:Addr}{i:Nat}(x:h.IsTupleIter a t i)(k:∀o,h.get? a=some o->h'.get? a=some o):h'.IsTupleIter a t i:=let ⟨o,ho,r⟩:=x;⟨o,k o ho,r⟩
theorem Do {h h':Heap}{a:Addr}{its:Array Value}(x:h.IsTuple a its)(k:∀o,h.get? a=some o->h'.get? a=some o):h'.IsTuple a its:=let ⟨o,ho,r⟩:=x;⟨o,k o ho,r⟩
theorem Ju {prog:Program}{w:World}{A:Around}(hh:A.handled=none)(it l:Addr)(hne:l≠it)(items:Array Value):Draws prog w A it [it,l] items.size (fun i v=>items[i]?=some v) (fun i h=>h.IsTupleIter it l i/\h.IsTuple l items) where
 live:=fun _ _ ⟨⟨o,ho,_⟩,_⟩=>⟨o,ho⟩
 frame:=fun _ _ _ ⟨a,b⟩ hk=>⟨qd a fun o e=>hk it (by simp) o e,Do b fun o e=>hk l (by simp) o e⟩
 item:=fun i s Q E hi ⟨a,b⟩ hQ=>Hv a b (x:=items[i]) (by simp[hi]) fun h' hit' hs'=>hQ _ h' s.toks (by simp[hi]) ⟨hit',b.extBut hs'.extBut hne⟩ hs'
 done:=fun s Q E ⟨a,b⟩ hE=>vU hh a b (by simp) hE
open AutoSeq1 (wpAny_loadPart') in
theorem CQ (l:Addr)(items:Array Value)(n:Nat)(dct:Option Addr)(sl:Array (Option Value)):Meets (Builtin.«enumerate.__new__» ⟨[.type "enumerate",.ref l],[]⟩) (fun _ R s=>s.heap.get? l=some { cls:=.type "tuple",dict:=dct,data:=.seq items n,slots:=sl }/\R (.ok (.ret (.ref (s.heap.push { cls:=.type "tuple_iterator",data:=.fields #[.ref l,.int 0 0] }).objs.size))) { s with heap:=(s.heap.push { cls:=.type "tuple_iterator",data:=.fields #[.ref l,.int 0 0] }).push { cls:=.type "enumerate",data:=.fields #[.none,.bool false,.ref s.heap.objs.size,rawInt 0,.none,.none] } }):=
 .of_wp fun prog w A R s h=>by
  obtain⟨hp,g,d,tk,os⟩:=s;obtain⟨hl,h⟩:=h
  have hsub:=sub_enumerate;have hL:Heap.IsTuple (Shared.heap ⟨hp,g,d,tk,os⟩) l items:=⟨_,hl,rfl,n,rfl⟩
  wp_walk using wpAny_loadPart' hl;refine wpAny_stack_any fun st=>wpAny_pure ?_
  split
  ·rename_i c _ _ _ _ _;cases (c==Value.type "enumerate")<;>(wp_walk using wpAny_loadPart' hl,wpAny_pyIter_tuple hL;exact⟨_,rfl,h⟩)
  ·wp_walk using wpAny_loadPart' hl,wpAny_pyIter_tuple hL;exact⟨_,rfl,h⟩
section
variable {prog:Program}{w:World}{A:Around}{E:Value->Shared->Prop}{s:Shared}
theorem yZ {l:Addr}{items:Array Value}{Q:Value->Shared->Prop}(hL:s.heap.IsTuple l items)
  (h:∀h',IsEnum h' (s.heap.objs.size+1) s.heap.objs.size 0 .none->h'.IsTupleIter s.heap.objs.size l 0->h'.objs.size=s.heap.objs.size+2->(∀b o,s.heap.get? b=some o->h'.get? b=some o)->Q (.ref (s.heap.objs.size+1)) { s with heap:=h' }):wpAny (model prog w) A (call (.type "enumerate") [.ref l]) Q E s:=by
 obtain⟨⟨c,dct,dt,sl⟩,hl,hc,n,hd⟩:=hL;replace hc:c=.type "tuple":=hc;replace hd:dt=.seq items n:=hd;subst hc hd
 refine callType_new F.called_enumerate (by decide) (F.typeCall_enumerate_1 _) (F.newCall_enumerate_1 _) (fun obj=>F.args_object_init_2 obj _) F.entry_enumerate_new (CQ l items n dct sl) ⟨hl,?_⟩
 have hz:(s.heap.push { cls:=.type "tuple_iterator",data:=.fields #[.ref l,.int 0 0] }).objs.size=s.heap.objs.size+1:=Heap.size_push ..
 refine (?_:_/\_);rw[hz]
 have he:IsEnum ((s.heap.push { cls:=.type "tuple_iterator",data:=.fields #[.ref l,.int 0 0] }).push { cls:=.type "enumerate",data:=.fields #[.none,.bool false,.ref s.heap.objs.size,rawInt 0,.none,.none] }) (s.heap.objs.size+1) s.heap.objs.size 0 .none:=by
  have:=Heap.get?_push_size (s.heap.push { cls:=.type "tuple_iterator",data:=.fields #[.ref l,.int 0 0] }) (o:={ cls:=.type "enumerate",data:=.fields #[.none,.bool false,.ref s.heap.objs.size,rawInt 0,.none,.none] }) rfl
  rw[hz] at this;exact this
 exact⟨⟨_,he,rfl⟩,h _ he ⟨_,Heap.get?_push_of_some _ (Heap.get?_push_size _ rfl),rfl,rfl⟩ (by rw[Heap.size_push,hz]) fun b o x=>Heap.get?_push_of_some _ (Heap.get?_push_of_some _ x)⟩
end
noncomputable def Rq (K:PySem.W.Frag)(a:Addr):It:=
 ⟨fun i H=>∃xs x,SqT K H a xs/\xs[i]?=some x,fun i H v H'=>∃p x,v=.ref p/\H p=none/\H'=upd H p (.tup [.int i,x])/\∀xs,SqT K H a xs->xs[i]?=some x,fun i H=>∃xs,SqT K H a xs/\xs.length≤i⟩
theorem u4 {P:Program}{w:World}{K:PySem.W.Frag}{elts:List Expr}{x1}{pos:Pos}(a e it:Addr)(hne:e≠it):Turn P w K (.Tuple elts x1 pos) (Rq K a) [e,it] e (fun i h=>(∃old,IsEnum h e it i old)/\h.IsTupleIter it a i) where
 mem:=by simp
 obj:=fun i h st b hb=>by
  obtain⟨⟨old,he⟩,o,e',c,d⟩:=st
  rcases List.mem_cons.mp hb with z|z
  ·subst z
   exact⟨_,he,fun v q=>by
    have q':Data.fields _=Data.cell v:=q
    cases q'⟩
  ·have e2:b=it:=by simpa using z
   subst e2
   exact⟨o,e',fun v q=>by rw[d] at q;cases q⟩
 keep:=fun i h h' st k=>⟨⟨st.1.choose,k e (by simp) _ st.1.choose_spec⟩,qd st.2 fun o q=>k it (by simp) o q⟩
 item:=by
  intro X hP hw hK hc i pins s σ H E I hf st hg
  subst hP hw hK
  obtain⟨xs,x,hq,hx⟩:=hg
  obtain⟨its,rv,p,hz⟩:=I.tuple hq
  obtain⟨u,hu,ru⟩:=rv.get hx
  obtain⟨⟨old,he⟩,hit⟩:=st
  have pt:s.heap.IsTuple a its.toArray:=p
  have nai:a≠it:=fun q=>by
   obtain⟨o1,h1,c1,_⟩:=pt
   obtain⟨o2,h2,c2,_⟩:=hit
   rw[q,h2] at h1;cases h1;rw[c2] at c1;exact absurd (Value.type.inj c1) (by decide)
  have nae:e≠a:=fun q=>by
   obtain⟨o1,h1,c1,_⟩:=pt
   rw[←q,he] at h1;cases h1;exact absurd (Value.type.inj c1) (by decide)
  have hlt:i<its.toArray.size:=by
   have:=(List.getElem?_eq_some_iff.mp hu).1
   simpa using this
  refine wpAny_pyNext_enum_itemD (Ju (A:=X.A.in1) (I.ok.hd hc) it a nai its.toArray) he ⟨hit,pt⟩ hlt hne (by simp[hne,nae]) fun u' h' tk hu' out lit tup sz kp=>⟨_,rfl,?_⟩
  obtain rfl:u'=u:=by
   have h1:its[i]?=some u':=by simpa using hu'
   rw[hu] at h1;exact (Option.some.inj h1).symm
  refine wpAny_letOwnedTupleGo_enum out fun h2 he2 sb=>?_
  have fr:H s.heap.objs.size=none:=I.hok.fresh (Nat.le_refl _)
  have I1:Inv X pins σ (upd H s.heap.objs.size (.tup [.int i,x])) { s with heap:=s.heap.push { cls:=.type "tuple",data:=.seq #[.int i tk,u'] },toks:=s.toks }:=by
   refine I.laid (t':=s.toks) (fun b u e=>Heap.get?_push_of_some _ e) (Nat.le_refl _) ?_
   exact⟨by simp;decide,[.int i tk,u'],.cons ⟨_,rfl⟩ (.cons ru .nil),⟨_,Heap.get?_push_size _ rfl,rfl,_,rfl⟩⟩
  have ltE:e<s.heap.objs.size:=Heap.lt_size he
  have lY:it<s.heap.objs.size:=by obtain⟨o,q,_⟩:=hit;exact Heap.lt_size q
  have f1:∀b∈[e,it],kf X pins (upd H s.heap.objs.size (.tup [.int i,x])) b:=fun b hb=>by
   have hb':b≠s.heap.objs.size:=by
    rcases List.mem_cons.mp hb with z|z
    ·rw[z];exact Nat.ne_of_lt ltE
    ·rw[show b=it by simpa using z];exact Nat.ne_of_lt lY
   exact⟨by rw[ai hb'];exact (hf b hb).1,(hf b hb).2⟩
  have I2:Inv X pins σ (upd H s.heap.objs.size (.tup [.int i,x])) { s with heap:=h2,toks:=tk+1 }:=by
   refine Inv.turned2 (e:=e) (it:=it) (t':=tk+1) (h':=h2) (s:={ s with heap:=s.heap.push { cls:=.type "tuple",data:=.seq #[.int i tk,u'] },toks:=s.toks }) I1 (fun b o n1 n2 q=>?_) f1
   rw[sb.2 b n1]
   rcases Heap.get?_push_cases q with ⟨z1,z2⟩|z
   ·subst z1 z2;exact tup
   ·exact kp b o n1 n2 z
  refine⟨.ref s.heap.objs.size,_,I2,rfl,⟨_,x,rfl,fr,rfl,fun ys hy=>by rw[I.tuple_inj hy hq];exact hx⟩,⟨⟨_,he2⟩,?_⟩,fun b hb=>(f1 b hb).1⟩
  exact qd lit.1 fun o q=>(sb.2 it (Ne.symm hne)).trans q
 done:=by
  intro X hP hw hK hc i pins s σ H E I hf st hg
  subst hP hw hK
  obtain⟨xs,hq,hx⟩:=hg
  obtain⟨its,rv,p,hz⟩:=I.tuple hq
  obtain⟨⟨old,he⟩,hit⟩:=st
  obtain⟨f0,f1,f2,f3,f4,f5⟩:=hf it (by simp)
  have hl:=rv.length
  have hT:s.TypeIs (.ref e) "enumerate":=⟨_,he,rfl⟩
  unfold pyNext
  refine wpAny_bind (wpAny_attempt (wpAny_callSpecial?_slot (name:=Str.ofString "__next__") hT F.slot_enumerate_next (wpAny_call_entry F.slot_enumerate_next hT F.entry_enumerate_next ?_ (F.args_enumerate_next_1 _))))
  refine (?_:wpAny _ _ (field (.ref e) 2 >>= _) _ _ _);refine wpAny_bind (wpAny_field he rfl (x:=.ref it) rfl ?_)
  refine wpAny_bind (vU (I.ok.hd hc) hit (items:=its.toArray) p (by simp;omega) fun h' x he' hx'=>?_)
  obtain⟨o,ho,hc⟩:=hx'
  exact wpAny_bind (wpAny_isInstance (T:="StopIteration") (b:=true) ⟨o,ho,hc⟩ isSubtype_stop (wpAny_pure ⟨rfl,I.turned (t':=s.toks) (fun b o hb e=>he' b o hb e) f0 f1 f3 f4 f5⟩))
 self:=fun _ _ _ _ _ st h=>wpAny_pyIter_enum st.1.choose_spec h
noncomputable def tZ (K:PySem.W.Frag)(ta:TA):TI:=fun σ H R=>ta σ H fun vs H1=>∃a,vs=[.ref a]/\(∃xs,SqT K H1 a xs)/\R (Rq K a) H1
section
variable {X:Cx}{elts:List Expr}{tpos:Pos}
theorem Ah {x1}{a:Expr}{ta:TA}{p pos:Pos}(hg:Gl X "enumerate")(hm:X.mg "enumerate" = none)(ha:PA X [a] ta)(hs:starEach [a] X.env=[(false,eval a X.env)]:=by rfl):PI X (.Tuple elts x1 tpos) (.Call (.Name "enumerate" p) [a] [] pos) (tZ X.K ta):=by
 intro pins s σ H R I h
 refine Call_ (jO I hg hm ka (PyProof.Rows.callWith_type1 (bj (ha pos pins s σ H _ I h) fun us s1 ⟨vs,H1,I1,r1,q1⟩=>?_) hs rfl))
 obtain⟨l,e,⟨xs,hq⟩,q⟩:=q1
 subst e
 cases r1 with
 |cons r rr=>
  cases rr
  cases r
  obtain⟨its,rv,pl,hz⟩:=I1.tuple hq
  refine yZ (items:=its.toArray) pl fun h' he hit sz kp=>?_
  refine wpAny_pyIter_enum he ?_
  have I2:Inv X pins σ H1 { s1 with heap:=h',toks:=s1.toks }:=I1.kept kp
  refine⟨s1.heap.objs.size+1,[s1.heap.objs.size+1,s1.heap.objs.size],_,_,H1,rfl,I2,u4 l _ _ (Nat.succ_ne_self _),⟨⟨_,he⟩,hit⟩,fun b hb=>?_,q⟩
  have hb':s1.heap.objs.size≤b:=by
   rcases List.mem_cons.mp hb with z|z
   ·rw[z];exact Nat.le_succ _
   ·have e:b=s1.heap.objs.size:=by simpa using z
    rw[e];exact Nat.le_refl _
  exact I1.fpOk hb' (I1.hok.fresh hb')
end
end L2
end
section
namespace L2
open PySem PySem.Spec PyProof.Rows
inductive NumEs (w:World):List DictEntry->List (Str×Int)->List (cW×Value)->Prop where
 |nil:NumEs w [] [] []
 |cons {x:Str} {t u:Tok} {i:Int} {es:List DictEntry} {kvs:List (Str×Int)} {vs:List (cW×Value)}:NumEs w es kvs vs->NumEs w (⟨PyData.keyHash w.params x,.str x t,.int i u⟩::es) ((x,i)::kvs) ((.inr x,.int i u)::vs)
structure NumTab (w:World)(K:PySem.W.Frag)(a:Addr)(kvs:List (Str×Int)):Prop where
 sys:(a==sysModules)=false
 nd:(kvs.map (·.1)).Nodup
 it:∃(es:Array DictEntry) (ep:Nat) (vs:List (cW×Value)),K.lookup a=some ⟨.type "dict",none,.dict es ep,#[]⟩/\NumEs w es.toList kvs vs
noncomputable def jS (kvs:List (Str×Int))(x:Str):Option Int:=(kvs.find? fun p=>decide (p.1=x)).map (·.2)
theorem NumEs.ok {P:Program}{w:World}:∀{es:List DictEntry} {kvs:List (Str×Int)} {vs:List (cW×Value)},NumEs w es kvs vs->(∀e∈es,∃k,(aL P w).is k e.key=true/\e.hash=(aL P w).hash k)/\Pairs (aL P w) es vs/\vs.map (·.1)=kvs.map (fun p=>(.inr p.1:cW))
 |_,_,_,.nil=>⟨fun _ h=>(by cases h),.nil,rfl⟩
 |_,_,_,@NumEs.cons _ x t u i es kvs vs r=>by
  obtain⟨a,b,c⟩:=r.ok (P:=P)
  refine⟨fun e he=>?_,.cons (fE P w x t) rfl b,by rw[List.map_cons,List.map_cons,c]⟩
  rcases List.mem_cons.mp he with rfl|he
  ·exact⟨.inr x,fE P w x t,rfl⟩
  ·exact a e he
theorem NumEs.val {w:World}{es:List DictEntry}{kvs:List (Str×Int)}{vs:List (cW×Value)}(h:NumEs w es kvs vs)(x:Str):RelV ((jS kvs x).elim .non .int) ((valueAt vs (.inr x)).getD .none):=by
 induction h with
 |nil=>rfl
 | @cons y t u i es kvs vs r ih=>
  by_cases e:y=x
  ·simp only[valueAt,jS,List.find?_cons,decide_eq_true e,e]
   simp[RelV]
  ·have e':¬((Sum.inr y:cW)=Sum.inr x):=fun q=>e (Sum.inr.inj q)
   simp only[valueAt,jS,List.find?_cons,decide_eq_false e,decide_eq_false e'] at ih ⊢
   exact ih
noncomputable def D1 (kvs:List (Str×Int))(a:Addr)(to ti:TE):TE:=fun σ H Q=>to σ H fun x H1=>x=.ref a/\ti σ H1 fun y H2=>∃n,y=.str n/\Q ((jS kvs n).elim .non .int) H2
section
variable {X:Cx}{o e:Expr}{apos cpos:Pos}{to ti:TE}{a:Addr}{kvs:List (Str×Int)}
theorem xz (T:NumTab X.w X.K a kvs)(ho:PE X o to)(he:PE X e ti)(m:M1 X o "get" apos e cpos):PE X (.Call (.Attribute o "get" apos) [e] [] cpos) (D1 kvs a to ti):=by
 intro pins s σ H Q I h
 obtain⟨sys,nd,es,ep,vs,l,r⟩:=T
 obtain⟨a1,a2,a3⟩:=r.ok (P:=X.prog)
 have D:∀{h:Heap},X.K.In h->h.DictOf (aL X.prog X.w) a vs:=fun {h} kin=>by
  refine⟨_,es,ep,kin a _ l,⟨rfl,rfl,rfl⟩,rfl,fun e he=>a1 e (Array.mem_toList_iff.mpr he),a2,?_⟩
  rw[a3,show (kvs.map fun p=>(Sum.inr p.1:cW))=(kvs.map (·.1)).map (Sum.inr:Str->cW) by simp]
  exact nd.map _ fun _ _ ne e=>ne (Sum.inr.inj e)
 refine wpAny_Call_method m.base m.few m.line PySem.F.plainAttrs_dict PySem.F.slot_dict_get PySem.F.type_dict_get (bj (ho pins s σ H _ I h) fun u s1 hh=>?_)
 obtain⟨x,H1,I1,rx,ex,q1⟩:=hh
 subst ex
 obtain rfl:u=Value.ref a:=rx
 have d1:=D I1.kIn
 refine⟨d1.typeIs,fun b q=>?_,?_⟩
 ·cases q
  obtain⟨ob,_,_,h1,h2,_⟩:=d1
  exact⟨ob,h1,h2.2.1⟩
 ·rw[m.trees]
  refine Calls.callWith_builtin rfl (Calls.evalArgs_plain (Calls.spliced_cons (bj (he pins s1 σ H1 _ I1 q1) fun iv s2 hh=>Calls.spliced_nil ?_)))
  obtain⟨y,H2,I2,ry,n,ey,q2⟩:=hh
  subst ey
  have d2:=D I2.kIn
  refine call_meetsIn PySem.F.slot_dict_get d2.typeIs PySem.F.entry_dict_get (PySem.F.args_dict_get_2 _ _) (meets_dict_get (aL X.prog X.w) a (AA (k:=.inr n) ry) sys) ⟨_,d2.mapOf,?_⟩
  exact⟨_,H2,I2.tok _,r.val n,q2⟩
end
end L2
end
section
namespace Pu
open PySem PySem.Spec L2
inductive PV where
 |non|bl (b:Bool)|int (i:Int)|str (x:Str)|ty (n:String)|fn (a:Addr)
 |tup (ps:List PV)|lst (ps:List PV)|dct (ks:List cW) (ps:List PV)
 |src (ps:List PV)|ktu (ps:List PV)
 |rng (lo hi:Int)
mutual
noncomputable def Rep (K:PySem.W.Frag)(F:Hp):PV->V->Prop
 |.non,v=>v=.non
 |.bl b,v=>v=.bl b
 |.int i,v=>v=.int i
 |.str x,v=>v=.str x
 |.ty n,v=>v=.ty n
 |.fn a,v=>v=.ref a
 |.tup ps,v=>∃a vs,v=.ref a/\F a=some (.tup vs)/\Reps K F ps vs
 |.lst ps,v=>∃a vs,v=.ref a/\F a=some (.lst vs)/\Reps K F ps vs
 |.src ps,v=>∃a vs,v=.ref a/\SqL K F a vs/\Reps K F ps vs
 |.ktu ps,v=>∃a vs,v=.ref a/\SqT K F a vs/\Reps K F ps vs
 |.rng lo hi,v=>∃a,v=.ref a/\F a=some (.rng lo hi)
 |.dct ks ps,v=>∃a kvs,v=.ref a/\F a=some (.dK kvs)/\kvs.map (·.1)=ks/\Reps K F ps (kvs.map (·.2))
noncomputable def Reps (K:PySem.W.Frag)(F:Hp):List PV->List V->Prop
 |[],vs=>vs=[]
 |p::ps,vs=>∃v r,vs=v::r/\Rep K F p v/\Reps K F ps r
end
theorem x0 {K:PySem.W.Frag}{F F':Hp}{a:Addr}{xs:List V}(e:Same F F')(h:SqT K F a xs):SqT K F' a xs:=by
 rcases h with (h|⟨o,h⟩)|h
 ·exact .inl (.inl (e _ _ h))
 ·exact .inl (.inr ⟨o,e _ _ h⟩)
 ·exact .inr h
mutual
theorem Rep.mono {K:PySem.W.Frag}{F F':Hp}(e:Same F F'):∀{p:PV} {v:V},Rep K F p v->Rep K F' p v
 |.non,_,h=>h
 |.bl _,_,h=>h
 |.int _,_,h=>h
 |.str _,_,h=>h
 |.ty _,_,h=>h
 |.fn _,_,h=>h
 |.tup ps,_,h=>by
  obtain⟨a,vs,e1,e2,e3⟩:=h
  exact⟨a,vs,e1,e _ _ e2,Reps.mono e e3⟩
 |.lst ps,_,h=>by
  obtain⟨a,vs,e1,e2,e3⟩:=h
  exact⟨a,vs,e1,e _ _ e2,Reps.mono e e3⟩
 |.src ps,_,h=>by
  obtain⟨a,vs,e1,e2,e3⟩:=h
  exact⟨a,vs,e1,e.seq e2,Reps.mono e e3⟩
 |.ktu ps,_,h=>by
  obtain⟨a,vs,e1,e2,e3⟩:=h
  exact⟨a,vs,e1,x0 e e2,Reps.mono e e3⟩
 |.rng lo hi,_,h=>by
  obtain⟨a,e1,e2⟩:=h
  exact⟨a,e1,e _ _ e2⟩
 |.dct ks ps,_,h=>by
  obtain⟨a,kvs,e1,e2,e3,e4⟩:=h
  exact⟨a,kvs,e1,e _ _ e2,e3,Reps.mono e e4⟩
theorem Reps.mono {K:PySem.W.Frag}{F F':Hp}(e:Same F F'):∀{ps:List PV} {vs:List V},Reps K F ps vs->Reps K F' ps vs
 |[],_,h=>h
 |_::_,_,h=>by
  obtain⟨v,r,e1,e2,e3⟩:=h
  exact⟨v,r,e1,Rep.mono e e2,Reps.mono e e3⟩
end
theorem Reps.length {K:PySem.W.Frag}{F:Hp}:∀{ps:List PV} {vs:List V},Reps K F ps vs->vs.length=ps.length
 |[],_,h=>by rw[show _=[] from h];rfl
 |p::ps,_,⟨v,r,e,_,t⟩=>by rw[e,List.length_cons,List.length_cons,t.length]
theorem Reps.get {K:PySem.W.Frag}{F:Hp}:∀{ps:List PV} {vs:List V} {i:Nat} {p:PV},Reps K F ps vs->ps[i]?=some p->∃v,vs[i]?=some v/\Rep K F p v
 |[],_,i,p,_,e=>by simp at e
 |_::_,_,0,_,⟨v,r,e,h,t⟩,q=>by simp at q;subst q;exact⟨v,by rw[e];rfl,h⟩
 |_::ps,_,i+1,p,⟨v,r,e,h,t⟩,q=>by
  obtain⟨u,h1,h2⟩:=t.get (i:=i) (p:=p) (by simpa using q)
  exact⟨u,by rw[e];simpa using h1,h2⟩
theorem Reps.app {K:PySem.W.Frag}{F:Hp}:∀{ps qs:List PV} {vs us:List V},Reps K F ps vs->Reps K F qs us->Reps K F (ps++qs) (vs++us)
 |[],_,_,_,h,q=>by rw[show _=[] from h];exact q
 |_::_,_,_,_,⟨v,r,e,h,t⟩,q=>⟨v,_,by rw[e];rfl,h,t.app q⟩
theorem Reps.one {K:PySem.W.Frag}{F:Hp}{p:PV}{v:V}(h:Rep K F p v):Reps K F [p] [v]:=⟨v,[],rfl,h,rfl⟩
theorem Reps.cons {K:PySem.W.Frag}{F:Hp}{p:PV}{v:V}{ps:List PV}{vs:List V}(h:Rep K F p v)(t:Reps K F ps vs):Reps K F (p::ps) (v::vs):=⟨v,vs,rfl,h,t⟩
theorem Reps.set {K:PySem.W.Frag}{F:Hp}{p:PV}{v:V}(h:Rep K F p v):∀{ps:List PV} {vs:List V} (i:Nat),Reps K F ps vs->Reps K F (ps.set i p) (vs.set i v)
 |[],_,_,q=>by rw[show _=[] from q];rfl
 |_::_,_,0,⟨v',r,e,_,t⟩=>by rw[e];exact⟨v,r,rfl,h,t⟩
 |_::_,_,i+1,⟨v',r,e,h',t⟩=>by rw[e];exact⟨v',_,rfl,h',Reps.set h i t⟩
theorem Reps.take {K:PySem.W.Frag}{F:Hp}:∀{ps:List PV} {vs:List V} (n:Nat),Reps K F ps vs->Reps K F (ps.take n) (vs.take n)
 |_,_,0,_=>by simp[Reps]
 |[],_,_+1,q=>by rw[show _=[] from q];rfl
 |_::_,_,n+1,⟨v,r,e,h,t⟩=>by rw[e];exact⟨v,_,rfl,h,t.take n⟩
theorem Reps.drop {K:PySem.W.Frag}{F:Hp}:∀{ps:List PV} {vs:List V} (n:Nat),Reps K F ps vs->Reps K F (ps.drop n) (vs.drop n)
 |_,_,0,q=>q
 |[],_,_+1,q=>by rw[show _=[] from q];rfl
 |_::_,_,n+1,⟨v,r,e,h,t⟩=>by rw[e];exact t.drop n
theorem Reps.rev {K:PySem.W.Frag}{F:Hp}:∀{ps:List PV} {vs:List V},Reps K F ps vs->Reps K F ps.reverse vs.reverse
 |[],_,q=>by rw[show _=[] from q];rfl
 |_::_,_,⟨v,r,e,h,t⟩=>by rw[e,List.reverse_cons,List.reverse_cons];exact t.rev.app (.one h)
theorem Reps.rep {K:PySem.W.Frag}{F:Hp}{p:PV}{v:V}(h:Rep K F p v):∀n,Reps K F (List.replicate n p) (List.replicate n v)
 |0=>rfl
 |n+1=>⟨v,_,rfl,h,Reps.rep h n⟩
structure Grow (F H F' H':Hp):Prop where
 hh:Same H H'
 ff:Same F F'
 fh:Same F' H'
 nw:∀b o,F' b=some o->F b=some o\/H b=none\/∃vs,o=.tup vs
theorem Grow.refl {F H:Hp}(h:Same F H):Grow F H F H:=⟨Same.refl _,Same.refl _,h,fun _ _ e=>.inl e⟩
theorem Grow.trans {F H F1 H1 F2 H2:Hp}(a:Grow F H F1 H1)(b:Grow F1 H1 F2 H2):Grow F H F2 H2:=
 ⟨a.hh.trans b.hh,a.ff.trans b.ff,b.fh,fun c o e=>(b.nw c o e).elim (a.nw c o) fun z=>.inr (z.elim (fun z=>.inl (a.hh.free z)) .inr)⟩
theorem Grow.keep {F H F' H':Hp}(g:Grow F H F' H'){a:Addr}{o:HO}(hF:F a=none)(hH:H a=some o)(ho:∀vs,o≠.tup vs:=by intro vs h;cases h):F' a=none/\H' a=some o:=by
 refine⟨?_,g.hh _ _ hH⟩
 cases e:F' a with
 |none=>rfl
 |some u=>
  rcases g.nw a u e with z|z|⟨vs,z⟩
  ·rw[hF] at z;cases z
  ·rw[hH] at z;cases z
  ·have h1:=g.fh a u e
   rw[g.hh _ _ hH] at h1
   cases h1
   exact absurd z (ho vs)
theorem Grow.new {F H:Hp}(h:Same F H){a:Addr}(ha:H a=none)(o:HO):Grow F H (upd F a o) (upd H a o):=by
 have hFa:F a=none:=h.free ha
 refine⟨aM ha o,aM hFa o,fun b u e=>?_,fun b u e=>?_⟩
 ·by_cases hb:b=a
  ·subst hb;rw[ah] at e ⊢;exact e
  ·rw[ai hb] at e ⊢;exact h b u e
 ·by_cases hb:b=a
  ·subst hb;exact .inr (.inl ha)
  ·rw[ai hb] at e;exact .inl e
theorem Grow.newO {F H:Hp}(h:Same F H){a:Addr}(ha:H a=none)(o:HO):Grow F H F (upd H a o):=⟨aM ha o,Same.refl _,h.trans (aM ha o),fun b u e=>.inl e⟩
theorem Grow.freeze {F H F' H':Hp}(g:Grow F H F' H'){a:Addr}{o:HO}(h0:H a=none)(hF:F' a=none)(hH:H' a=some o):Grow F H (upd F' a o) H':=by
 refine⟨g.hh,g.ff.trans (aM hF o),fun b u e=>?_,fun b u e=>?_⟩
 ·by_cases hb:b=a
  ·subst hb;rw[ah] at e;rw[hH];exact e
  ·rw[ai hb] at e;exact g.fh b u e
 ·by_cases hb:b=a
  ·subst hb;exact .inr (.inl h0)
  ·rw[ai hb] at e;exact g.nw b u e
inductive Sl where
 |val (p:PV)|own (ps:List PV)|dic (ks:List cW) (ps:List PV)
noncomputable abbrev al:=List (Option Sl)
inductive RdV (K:PySem.W.Frag) (F H:Hp):PV->V->Prop where
 |frz {p:PV} {v:V}:Rep K F p v->RdV K F H p v
 |own {ps:List PV} {a:Addr} {vs:List V}:H a=some (.lst vs)->F a=none->Reps K F ps vs->RdV K F H (.lst ps) (.ref a)
 |dic {ks:List cW} {ps:List PV} {a:Addr} {kvs:List (cW×V)}:H a=some (.dK kvs)->F a=none->kvs.map (·.1)=ks->Reps K F ps (kvs.map (·.2))->RdV K F H (.dct ks ps) (.ref a)
theorem RdV.grow {K:PySem.W.Frag}{F H F' H':Hp}{p:PV}{v:V}(g:Grow F H F' H')(h:RdV K F H p v):RdV K F' H' p v:=by
 cases h with
 |frz h=>exact .frz (h.mono g.ff)
 |own h1 h2 h3=>exact .own (g.keep h2 h1).2 (g.keep h2 h1).1 (h3.mono g.ff)
 |dic h1 h2 h3 h4=>exact .dic (g.keep h2 h1).2 (g.keep h2 h1).1 h3 (h4.mono g.ff)
noncomputable def Qx:Sl->PV
 |.val p=>p
 |.own ps=>.lst ps
 |.dic ks ps=>.dct ks ps
noncomputable def SlR (K:PySem.W.Frag)(F H:Hp):Option V->Option Sl->Prop
 |_,none=>True
 |some v,some (.val p)=>Rep K F p v
 |some v,some (.own ps)=>∃a vs,v=.ref a/\H a=some (.lst vs)/\F a=none/\Reps K F ps vs
 |some v,some (.dic ks ps)=>∃a kvs,v=.ref a/\H a=some (.dK kvs)/\F a=none/\kvs.map (·.1)=ks/\Reps K F ps (kvs.map (·.2))
 |none,some _=>False
theorem SlR.rd {K:PySem.W.Frag}{F H:Hp}{o:Option V}{s:Sl}(h:SlR K F H o (some s)):∃v,o=some v/\RdV K F H (Qx s) v:=by
 cases o with
 |none=>cases s<;>exact h.elim
 |some v=>
  refine⟨v,rfl,?_⟩
  cases s with
  |val p=>exact .frz h
  |own ps=>obtain⟨a,vs,rfl,h1,h2,h3⟩:=h;exact .own h1 h2 h3
  |dic ks ps=>obtain⟨a,vs,rfl,h1,h2,h3,h4⟩:=h;exact .dic h1 h2 h3 h4
theorem SlR.grow {K:PySem.W.Frag}{F H F' H':Hp}(g:Grow F H F' H'):∀{o:Option V} {s:Option Sl},SlR K F H o s->SlR K F' H' o s
 |_,none,_=>by unfold SlR;trivial
 |none,some s,h=>by cases s<;>exact h.elim
 |some v,some (.val p),h=>Rep.mono g.ff h
 |some v,some (.own ps),⟨a,vs,e,h1,h2,h3⟩=>⟨a,vs,e,(g.keep h2 h1).2,(g.keep h2 h1).1,h3.mono g.ff⟩
 |some v,some (.dic ks ps),⟨a,vs,e,h1,h2,h3,h4⟩=>⟨a,vs,e,(g.keep h2 h1).2,(g.keep h2 h1).1,h3,h4.mono g.ff⟩
structure ER (K:PySem.W.Frag)(F H:Hp)(σ:St)(ρ:al):Prop where
 fz:Same F H
 len:σ.length=ρ.length
 sl:∀(i:Nat) (s:Sl),ρ[i]?=some (some s)->SlR K F H ((σ[i]?).join) (some s)
theorem ER.grow {K:PySem.W.Frag}{F H F' H':Hp}{σ:St}{ρ:al}(g:Grow F H F' H')(h:ER K F H σ ρ):ER K F' H' σ ρ:=⟨g.fh,h.len,fun i s e=>(h.sl i s e).grow g⟩
theorem ER.rd {K:PySem.W.Frag}{F H:Hp}{σ:St}{ρ:al}(h:ER K F H σ ρ){i:Nat}{s:Sl}(e:ρ[i]?=some (some s)):∃v,σ[i]?=some (some v)/\RdV K F H (Qx s) v:=by
 obtain⟨v,e1,r⟩:=(h.sl i s e).rd
 refine⟨v,?_,r⟩
 cases q:σ[i]? with
 |none=>rw[q] at e1;cases e1
 |some o=>rw[q] at e1;rw[show o=some v from e1]
noncomputable abbrev eC:=al->(PV->Prop)->Prop
noncomputable abbrev oH:=al->(List PV->Prop)->Prop
noncomputable abbrev jM:=al->(Bool->Prop)->Prop
noncomputable abbrev iH:=al->(List PV->Prop)->Prop
noncomputable def lE (K:PySem.W.Frag)(te:eC):TE:=fun σ H Q=>∃F ρ,∃Qp:PV->Prop,ER K F H σ ρ/\te ρ Qp/\∀p v F' H',Qp p->Grow F H F' H'->Rep K F' p v->Q v H'
noncomputable def lT (K:PySem.W.Frag)(te:eC):TE:=fun σ H Q=>∃F ρ,∃Qp:PV->Prop,ER K F H σ ρ/\te ρ Qp/\∀p v F' H',Qp p->Grow F H F' H'->RdV K F' H' p v->Q v H'
noncomputable def lN (K:PySem.W.Frag)(te:oH):TE:=fun σ H Q=>∃F ρ,∃Qp:List PV->Prop,ER K F H σ ρ/\te ρ Qp/\∀ps a vs F' H',Qp ps->Grow F H F' H'->H a=none->F' a=none->H' a=some (.lst vs)->Reps K F' ps vs->Q (.ref a) H'
noncomputable def lB (K:PySem.W.Frag)(te:jM):TT:=fun σ H Q=>∃F ρ,∃Qp:Bool->Prop,ER K F H σ ρ/\te ρ Qp/\∀b F' H',Qp b->Grow F H F' H'->Q b H'
noncomputable def lA (K:PySem.W.Frag)(te:iH):TA:=fun σ H Q=>∃F ρ,∃Qp:List PV->Prop,ER K F H σ ρ/\te ρ Qp/\∀ps vs F' H',Qp ps->Grow F H F' H'->Reps K F' ps vs->Q vs H'
theorem lE.elim {K:PySem.W.Frag}{te:eC}{σ:St}{H:Hp}{Q:VK}{C:Prop}(h:lE K te σ H Q)(k:∀F ρ (Qp:PV->Prop),ER K F H σ ρ->te ρ Qp->(∀p v F' H',Qp p->Grow F H F' H'->Rep K F' p v->Q v H')->C):C:=by obtain⟨F,ρ,Qp,a,b,c⟩:=h;exact k F ρ Qp a b c
theorem lT.elim {K:PySem.W.Frag}{te:eC}{σ:St}{H:Hp}{Q:VK}{C:Prop}(h:lT K te σ H Q)(k:∀F ρ (Qp:PV->Prop),ER K F H σ ρ->te ρ Qp->(∀p v F' H',Qp p->Grow F H F' H'->RdV K F' H' p v->Q v H')->C):C:=by obtain⟨F,ρ,Qp,a,b,c⟩:=h;exact k F ρ Qp a b c
theorem lN.elim {K:PySem.W.Frag}{te:oH}{σ:St}{H:Hp}{Q:VK}{C:Prop}(h:lN K te σ H Q)(k:∀F ρ (Qp:List PV->Prop),ER K F H σ ρ->te ρ Qp->(∀ps a vs F' H',Qp ps->Grow F H F' H'->H a=none->F' a=none->H' a=some (.lst vs)->Reps K F' ps vs->Q (.ref a) H')->C):C:=by obtain⟨F,ρ,Qp,a,b,c⟩:=h;exact k F ρ Qp a b c
theorem lB.elim {K:PySem.W.Frag}{te:jM}{σ:St}{H:Hp}{Q:Bool->Hp->Prop}{C:Prop}(h:lB K te σ H Q)(k:∀F ρ (Qp:Bool->Prop),ER K F H σ ρ->te ρ Qp->(∀b F' H',Qp b->Grow F H F' H'->Q b H')->C):C:=by obtain⟨F,ρ,Qp,a,b,c⟩:=h;exact k F ρ Qp a b c
theorem lA.elim {K:PySem.W.Frag}{te:iH}{σ:St}{H:Hp}{Q:List V->Hp->Prop}{C:Prop}(h:lA K te σ H Q)(k:∀F ρ (Qp:List PV->Prop),ER K F H σ ρ->te ρ Qp->(∀ps vs F' H',Qp ps->Grow F H F' H'->Reps K F' ps vs->Q vs H')->C):C:=by obtain⟨F,ρ,Qp,a,b,c⟩:=h;exact k F ρ Qp a b c
noncomputable def PuE (X:Cx)(e:Expr)(te:eC):Prop:=PE X e (lE X.K te)
noncomputable def fL (X:Cx)(e:Expr)(te:eC):Prop:=PE X e (lT X.K te)
noncomputable def PuN (X:Cx)(e:Expr)(te:oH):Prop:=PE X e (lN X.K te)
noncomputable def PuB (X:Cx)(e:Expr)(te:jM):Prop:=PT X e (lB X.K te)
noncomputable def PuW (X:Cx)(e:Expr)(te:jM):Prop:=PW X e (lB X.K te)
noncomputable def GL (X:Cx)(es:List Expr)(te:iH):Prop:=PA X es (lA X.K te)
theorem PE.weak {X:Cx}{e:Expr}{t t':TE}(h:PE X e t)(w:∀σ H Q,t' σ H Q->t σ H Q):PE X e t':=fun pins s σ H Q I q=>h pins s σ H Q I (w σ H Q q)
theorem PT.weak {X:Cx}{e:Expr}{t t':TT}(h:PT X e t)(w:∀σ H Q,t' σ H Q->t σ H Q):PT X e t':=fun pins s σ H Q I q=>h pins s σ H Q I (w σ H Q q)
theorem PW.weak {X:Cx}{e:Expr}{t t':TT}(h:PW X e t)(w:∀σ H Q,t' σ H Q->t σ H Q):PW X e t':=fun wh pins s σ H Q I q=>h wh pins s σ H Q I (w σ H Q q)
theorem PA.weak {X:Cx}{e:List Expr}{t t':TA}(h:PA X e t)(w:∀σ H Q,t' σ H Q->t σ H Q):PA X e t':=fun pos pins s σ H Q I q=>h pos pins s σ H Q I (w σ H Q q)
theorem PS.weak {X:Cx}{e:Stmt}{t t':TS}(h:PS X e t)(w:∀D σ H,t' D σ H->t D σ H):PS X e t':=fun pins s σ H D I q=>h pins s σ H D I (w D σ H q)
theorem PSs.weak {X:Cx}{e:List Stmt}{t t':TS}(h:PSs X e t)(w:∀D σ H,t' D σ H->t D σ H):PSs X e t':=fun pins s σ H D I q=>h pins s σ H D I (w D σ H q)
theorem PI.weak {X:Cx}{tg e:Expr}{t t':TI}(h:PI X tg e t)(w:∀σ H Q,t' σ H Q->t σ H Q):PI X tg e t':=fun pins s σ H Q I q=>h pins s σ H Q I (w σ H Q q)
section
variable {X:Cx}{e a b c:Expr}{pos:Pos}{te ta tb:eC}
theorem PuE.t (h:PuE X e te):fL X e te:=PE.weak h fun σ H Q hh_=>hh_.elim fun F ρ Qp er q k=>⟨F,ρ,Qp,er,q,fun p v F' H' hq g r=>k p v F' H' hq g (.frz r)⟩
noncomputable def Hy (tn:oH):eC:=fun ρ Q=>tn ρ fun ps=>Q (.lst ps)
theorem PuN.fz {tn:oH}(h:PuN X e tn):PuE X e (Hy tn):=PE.weak h fun σ H Q hh_=>hh_.elim fun F ρ Qp er q k=>⟨F,ρ,_,er,q,fun ps a vs F' H' hq g h0 hF hH r=>
 k (.lst ps) (.ref a) _ H' hq (g.freeze h0 hF hH) ⟨a,vs,rfl,ah,r.mono (aM hF _)⟩⟩
theorem PuN.t {tn:oH}(h:PuN X e tn):fL X e (Hy tn):=h.fz.t
noncomputable def gv (ρ:al)(i:Nat)(Q:PV->Prop):Prop:=match ρ[i]? with
 |some (some (.val p))=>Q p
 |_=>False
noncomputable def gr (ρ:al)(i:Nat)(Q:PV->Prop):Prop:=match ρ[i]? with
 |some (some s)=>Q (Qx s)
 |_=>False
noncomputable def pC (p:PV):eC:=fun _ Q=>Q p
noncomputable def iE:PV->V
 |.non=>.non
 |.bl b=>.bl b
 |.int i=>.int i
 |.str x=>.str x
 |.ty n=>.ty n
 |.fn a=>.ref a
 |_=>.non
noncomputable def bT:PV->Bool
 |.tup _=>false
 |.lst _=>false
 |.dct _ _=>false
 |.src _=>false
 |.ktu _=>false
 |.rng _ _=>false
 |_=>true
theorem mR {K:PySem.W.Frag}{F:Hp}{p:PV}(h:bT p=true):Rep K F p (iE p):=by
 cases p<;>first|rfl|exact absurd h Bool.false_ne_true
theorem uv {p:PV}(h:PE X e (tC (iE p)))(hp:bT p=true:=by rfl):PuE X e (pC p):=PE.weak h fun σ H Q hh_=>hh_.elim fun F ρ Qp er q k=>k p _ F H q (.refl er.fz) (mR hp)
theorem Li {i:Int}{j}:PuE X (.Constant (.int i) j pos) (pC (.int i)):=uv uG
theorem Ml {i:Bool}{j}:PuE X (.Constant (.bool i) j pos) (pC (.bl i)):=uv On
theorem Ka {j}:PuE X (.Constant .none j pos) (pC .non):=uv Iy
theorem JZ {x:Str}{j}:PuE X (.Constant (.str x) j pos) (pC (.str x)):=uv KU
noncomputable abbrev ij:=PV->PV->(PV->Prop)->Prop
noncomputable def ra (g:ij)(ta tb:eC):eC:=fun ρ Q=>ta ρ fun x=>tb ρ fun y=>g x y Q
noncomputable def eG (K:PySem.W.Frag)(r:R2)(g:ij):Prop:=∀F H x y p q (Qp:PV->Prop) (Q:VK),Same F H->RdV K F H p x->RdV K F H q y->g p q Qp->(∀z v F' H',Qp z->Grow F H F' H'->Rep K F' z v->Q v H')->r x y H Q
theorem kn {r:R2}{g:ij}(hg:eG X.K r g):∀σ H Q,lE X.K (ra g ta tb) σ H Q->LK r (lT X.K ta) (lT X.K tb) σ H Q:=fun σ H Q hh_=>hh_.elim fun F ρ Qp er q k=>
 ⟨F,ρ,_,er,q,fun p v F1 H1 q1 g1 r1=>⟨F1,ρ,_,er.grow g1,q1,fun p2 v2 F2 H2 q2 g2 r2=>
  hg F2 H2 v v2 p p2 Qp Q g2.fh (r1.grow g2) r2 q2 fun z u F3 H3 qz g3 r3=>k z u F3 H3 qz ((g1.trans g2).trans g3) r3⟩⟩
theorem ii {op:Operator}{r:R2}{g:ij}(ho:OpR X (binaryOp op) r)(hg:eG X.K r g)(ha:fL X a ta)(hb:fL X b tb):PuE X (.BinOp a op b pos) (ra g ta tb):=PE.weak (Br ho ha hb) (kn hg)
theorem Hn {op:CmpOp}{r:R2}{g:ij}(ho:OpR X (compareOp op) r)(hg:eG X.K r g)(ha:fL X a ta)(hb:fL X b tb)(hm:behindInMarks op b=false):PuE X (.Compare a [op] [b] pos) (ra g ta tb):=PE.weak (Ex ho ha hb hm) (kn hg)
noncomputable def OkB:PV->(Bool->Prop)->Prop
 |.bl b,Q=>Q b
 |_,_=>False
noncomputable def OkI:PV->(Int->Prop)->Prop
 |.int i,Q=>Q i
 |_,_=>False
theorem OkB.rd {K:PySem.W.Frag}{F H:Hp}{p:PV}{v:V}{Q:Bool->Prop}(h:OkB p Q)(r:RdV K F H p v):∃b,p=.bl b/\v=.bl b/\Q b:=by
 cases p<;>first|exact h.elim|skip
 cases r with
 |frz r=>exact⟨_,rfl,r,h⟩
theorem OkI.rd {K:PySem.W.Frag}{F H:Hp}{p:PV}{v:V}{Q:Int->Prop}(h:OkI p Q)(r:RdV K F H p v):∃b,p=.int b/\v=.int b/\Q b:=by
 cases p<;>first|exact h.elim|skip
 cases r with
 |frz r=>exact⟨_,rfl,r,h⟩
noncomputable def zd (te:eC):jM:=fun ρ Q=>te ρ fun x=>OkB x Q
theorem Fa {op:CmpOp}{r:R2}{g:ij}(ho:OpR X (compareOp op) r)(hg:eG X.K r g)(ha:fL X a ta)(hb:fL X b tb)(hm:behindInMarks op b=false):PuB X (.Compare a [op] [b] pos) (zd (ra g ta tb)):=
 PT.weak (Eb ho ha hb hm) fun σ H Q hh_=>hh_.elim fun F ρ Qp er q k=>kn hg σ H _ ⟨F,ρ,_,er,q,fun p v F' H' hp g r=>by
  obtain⟨b,rfl,rfl,q⟩:=hp.rd (H:=H') (.frz r)
  exact⟨b,rfl,k b F' H' q g⟩⟩
noncomputable def gI (C:Int->Int->Prop)(f:Int->Int->PV):ij:=fun x y Q=>OkI x fun i=>OkI y fun j=>C i j/\Q (f i j)
noncomputable def B9 (f:Int->Int->PV):ij:=fun x y Q=>OkI x fun i=>OkI y fun j=>Q (f i j)
theorem kX {K:PySem.W.Frag}{C:Int->Int->Prop}{f:Int->Int->PV}(hf:∀i j,bT (f i j)=true:=by intros;rfl):eG K (rI C fun i j=>iE (f i j)) (gI C f):=fun F H x y p q Qp Q s rx ry h k=>by
 obtain⟨i,rfl,rfl,h⟩:=OkI.rd h rx
 obtain⟨j,rfl,rfl,h⟩:=OkI.rd h ry
 exact⟨i,j,rfl,rfl,h.1,k _ _ F H h.2 (.refl s) (mR (hf i j))⟩
theorem iA {K:PySem.W.Frag}{f:Int->Int->PV}(hf:∀i j,bT (f i j)=true:=by intros;rfl):eG K (v9 fun i j=>iE (f i j)) (B9 f):=fun F H x y p q Qp Q s rx ry h k=>by
 obtain⟨i,rfl,rfl,h⟩:=OkI.rd h rx
 obtain⟨j,rfl,rfl,h⟩:=OkI.rd h ry
 exact⟨i,j,rfl,rfl,k _ _ F H h (.refl s) (mR (hf i j))⟩
noncomputable def PM:ij:=B9 fun i j=>.int (i+j)
noncomputable def Ab:ij:=B9 fun i j=>.int (i - j)
noncomputable def QG:ij:=gI CMul fun i j=>.int (i * j)
noncomputable def Pn:ij:=gI L8 fun i j=>.int (i / j)
noncomputable def P3:ij:=gI (fun _ j=>0<j) fun i j=>.int (i % j)
noncomputable def Qg:ij:=gI KW fun i j=>.int (i ^ j.toNat)
noncomputable def QE:ij:=gI (fun _ j=>0≤j) fun i j=>.int (i / 2 ^ j.toNat)
noncomputable def Qy:ij:=B9 fun i j=>.int (Builtin.bitAnd i j)
noncomputable def RN:ij:=B9 fun i j=>.bl (decide (i<j))
noncomputable def RW:ij:=B9 fun i j=>.bl (decide (i≤j))
noncomputable def RS:ij:=B9 fun i j=>.bl (decide (j<i))
noncomputable def R0:ij:=B9 fun i j=>.bl (decide (j≤i))
theorem Jq (ha:fL X a ta)(hb:fL X b tb):PuE X (.BinOp a .Add b pos) (ra PM ta tb):=ii I0 (iA (f:=fun i j=>.int (i+j))) ha hb
theorem JV (ha:fL X a ta)(hb:fL X b tb):PuE X (.BinOp a .Sub b pos) (ra Ab ta tb):=ii Jo (iA (f:=fun i j=>.int (i - j))) ha hb
theorem Jp (ha:fL X a ta)(hb:fL X b tb):PuE X (.BinOp a .Mult b pos) (ra QG ta tb):=ii Jj (kX (f:=fun i j=>.int (i * j))) ha hb
theorem Ll (ha:fL X a ta)(hb:fL X b tb):PuE X (.BinOp a .FloorDiv b pos) (ra Pn ta tb):=ii Fi (kX (f:=fun i j=>.int (i / j))) ha hb
theorem Ho (ha:fL X a ta)(hb:fL X b tb):PuE X (.BinOp a .Mod b pos) (ra P3 ta tb):=ii IH (kX (f:=fun i j=>.int (i % j))) ha hb
theorem Ix (ha:fL X a ta)(hb:fL X b tb):PuE X (.BinOp a .Pow b pos) (ra Qg ta tb):=ii K3 (kX (f:=fun i j=>.int (i ^ j.toNat))) ha hb
theorem Ic (ha:fL X a ta)(hb:fL X b tb):PuE X (.BinOp a .RShift b pos) (ra QE ta tb):=ii Lp (kX (f:=fun i j=>.int (i / 2 ^ j.toNat))) ha hb
theorem ES (ha:fL X a ta)(hb:fL X b tb):PuE X (.BinOp a .BitAnd b pos) (ra Qy ta tb):=ii IU (iA (f:=fun i j=>.int (Builtin.bitAnd i j))) ha hb
theorem OU:eG X.K (v9 fun i j=>.bl (decide (i<j))) RN:=iA (f:=fun i j=>.bl (decide (i<j)))
theorem Na:eG X.K (v9 fun i j=>.bl (decide (i≤j))) RW:=iA (f:=fun i j=>.bl (decide (i≤j)))
theorem Mj:eG X.K (v9 fun i j=>.bl (decide (j<i))) RS:=iA (f:=fun i j=>.bl (decide (j<i)))
theorem Oy:eG X.K (v9 fun i j=>.bl (decide (j≤i))) R0:=iA (f:=fun i j=>.bl (decide (j≤i)))
noncomputable def hU:PV->Bool
 |.non=>true
 |_=>false
noncomputable def QZ:ij:=fun x y Q=>match y with
 |.non=>Q (.bl (hU x))
 |_=>False
noncomputable def ML:ij:=fun x y Q=>match y with
 |.non=>Q (.bl (!hU x))
 |_=>False
theorem G3 {K:PySem.W.Frag}{F H:Hp}{p:PV}{v:V}(r:RdV K F H p v):decide (v=.non)=hU p:=by
 cases r with
 |frz r=>
  cases p with
  |non=>rw[show v=_ from r];rfl
  |bl _=>rw[show v=_ from r];rfl
  |int _=>rw[show v=_ from r];rfl
  |str _=>rw[show v=_ from r];rfl
  |ty _=>rw[show v=_ from r];rfl
  |fn _=>rw[show v=_ from r];rfl
  |tup _=>obtain⟨a,vs,rfl,_⟩:=r;rfl
  |lst _=>obtain⟨a,vs,rfl,_⟩:=r;rfl
  |dct _ _=>obtain⟨a,vs,rfl,_⟩:=r;rfl
  |src _=>obtain⟨a,vs,rfl,_⟩:=r;rfl
  |ktu _=>obtain⟨a,vs,rfl,_⟩:=r;rfl
  |rng _ _=>obtain⟨a,rfl,_⟩:=r;rfl
 |own=>rfl
 |dic=>rfl
theorem wq {K:PySem.W.Frag}{F H:Hp}{v:V}(r:RdV K F H .non v):v=.non:=by
 cases r with
 |frz r=>exact r
theorem K5:eG X.K (fun x y H Q=>y=.non/\Q (.bl (decide (x=.non))) H) QZ:=fun F H x y p q Qp Q s rx ry h k=>by
 cases q<;>first|exact h.elim|skip
 refine⟨wq ry,k _ _ F H h (.refl s) ?_⟩
 rw[G3 rx];rfl
theorem Dh:eG X.K (fun x y H Q=>y=.non/\Q (.bl (!decide (x=.non))) H) ML:=fun F H x y p q Qp Q s rx ry h k=>by
 cases q<;>first|exact h.elim|skip
 refine⟨wq ry,k _ _ F H h (.refl s) ?_⟩
 rw[G3 rx];rfl
end
end Pu
end
section
namespace Pu
open PySem PySem.Spec L2
section
variable {X:Cx}{e a b c:Expr}{pos:Pos}{te ta tb tc:eC}{tA tB':jM}{bW:List Expr}
noncomputable def Nb (ta:eC):eC:=fun ρ Q=>ta ρ fun x=>OkB x fun b=>Q (.bl (!b))
noncomputable def NC (ta tb:eC):eC:=fun ρ Q=>ta ρ fun x=>OkB x fun b=>if b=true then tb ρ Q else Q (.bl false)
noncomputable def QP (ta tb:eC):eC:=fun ρ Q=>ta ρ fun x=>OkB x fun b=>if b=true then Q (.bl true) else tb ρ Q
noncomputable def Oo (t u:jM):jM:=fun ρ Q=>t ρ fun b=>if b=true then u ρ Q else Q false
noncomputable def Qz (t u:jM):jM:=fun ρ Q=>t ρ fun b=>if b=true then Q true else u ρ Q
noncomputable def OL (t:jM):jM:=fun ρ Q=>t ρ fun b=>Q (!b)
noncomputable def Pp (t:jM)(ta tb:eC):eC:=fun ρ Q=>t ρ fun b=>if b=true then ta ρ Q else tb ρ Q
theorem Jh (ha:PuE X a ta):PuE X (.UnaryOp .Not a pos) (Nb ta):=PE.weak (J8 ha) fun σ H Q hh_=>hh_.elim fun F ρ Qp er q k=>⟨F,ρ,_,er,q,fun p v F1 H1 h1 g1 r1=>by
 obtain⟨b,rfl,rfl,h⟩:=h1.rd (H:=H1) (.frz r1)
 exact⟨b,rfl,k _ _ F1 H1 h g1 rfl⟩⟩
theorem Lm (ha:PuE X a ta)(hb:PuE X (.BoolOp .And (b::bW) pos) tb):PuE X (.BoolOp .And (a::b::bW) pos) (NC ta tb):=PE.weak (KD ha hb) fun σ H Q hh_=>hh_.elim fun F ρ Qp er q k=>⟨F,ρ,_,er,q,fun p v F1 H1 h1 g1 r1=>by
 obtain⟨b,rfl,rfl,h⟩:=h1.rd (H:=H1) (.frz r1)
 refine⟨b,rfl,?_⟩
 cases b with
 |true=>exact⟨F1,ρ,Qp,er.grow g1,by simpa using h,fun p v F' H' hp g r=>k p v F' H' hp (g1.trans g) r⟩
 |false=>exact k (.bl false) _ F1 H1 (by simpa using h) g1 rfl⟩
theorem NE (ha:PuE X a ta)(hb:PuE X (.BoolOp .Or (b::bW) pos) tb):PuE X (.BoolOp .Or (a::b::bW) pos) (QP ta tb):=PE.weak (OP ha hb) fun σ H Q hh_=>hh_.elim fun F ρ Qp er q k=>⟨F,ρ,_,er,q,fun p v F1 H1 h1 g1 r1=>by
 obtain⟨b,rfl,rfl,h⟩:=h1.rd (H:=H1) (.frz r1)
 refine⟨b,rfl,?_⟩
 cases b with
 |false=>exact⟨F1,ρ,Qp,er.grow g1,by simpa using h,fun p v F' H' hp g r=>k p v F' H' hp (g1.trans g) r⟩
 |true=>exact k (.bl true) _ F1 H1 (by simpa using h) g1 rfl⟩
theorem Hd {op}(h:PuE X a te):PuE X (.BoolOp op [a] pos) te:=KM h
theorem EM (h:PT X e (tB (lE X.K te))):PuB X e (zd te):=PT.weak h fun σ H Q hh_=>hh_.elim fun F ρ Qp er q k=>⟨F,ρ,_,er,q,fun p v F1 H1 h1 g1 r1=>by
 obtain⟨b,rfl,rfl,h⟩:=h1.rd (H:=H1) (.frz r1)
 exact⟨b,rfl,k _ F1 H1 h g1⟩⟩
theorem BX (ha:PuB X a tA):PuW X (.BoolOp .And [a] pos) tA:=Ce ha
theorem CH (ha:PuB X a tA):PuW X (.BoolOp .Or [a] pos) tA:=Ki ha
theorem Df (ha:PuB X a tA)(hb:PuW X (.BoolOp .And (b::bW) pos) tB'):PuW X (.BoolOp .And (a::b::bW) pos) (Oo tA tB'):=PW.weak (Jb ha hb) fun σ H Q hh_=>hh_.elim fun F ρ Qp er q k=>⟨F,ρ,_,er,q,fun b F1 H1 h1 g1=>by
 cases b with
 |true=>exact⟨F1,ρ,Qp,er.grow g1,by simpa using h1,fun b F' H' hp g=>k b F' H' hp (g1.trans g)⟩
 |false=>exact k _ F1 H1 (by simpa using h1) g1⟩
theorem Hf (ha:PuB X a tA)(hb:PuW X (.BoolOp .Or (b::bW) pos) tB'):PuW X (.BoolOp .Or (a::b::bW) pos) (Qz tA tB'):=PW.weak (MC ha hb) fun σ H Q hh_=>hh_.elim fun F ρ Qp er q k=>⟨F,ρ,_,er,q,fun b F1 H1 h1 g1=>by
 cases b with
 |false=>exact⟨F1,ρ,Qp,er.grow g1,by simpa using h1,fun b F' H' hp g=>k b F' H' hp (g1.trans g)⟩
 |true=>exact k _ F1 H1 (by simpa using h1) g1⟩
theorem My (h:PuW X e tA):PuB X e tA:=PW.pt h
theorem F8 (ha:PuB X a tA):PuB X (.UnaryOp .Not a pos) (OL tA):=PT.weak (Hq ha) fun σ H Q hh_=>hh_.elim fun F ρ Qp er q k=>⟨F,ρ,_,er,q,fun b F1 H1 h1 g1=>k _ F1 H1 h1 g1⟩
theorem JJ (hc:PuB X c tA)(ha:PuE X a ta)(hb:PuE X b tb):PuE X (.IfExp c a b pos) (Pp tA ta tb):=PE.weak (Ag hc ha hb) fun σ H Q hh_=>hh_.elim fun F ρ Qp er q k=>⟨F,ρ,_,er,q,fun b F1 H1 h1 g1=>by
 cases b with
 |true=>exact⟨F1,ρ,Qp,er.grow g1,by simpa using h1,fun p v F' H' hp g r=>k p v F' H' hp (g1.trans g) r⟩
 |false=>exact⟨F1,ρ,Qp,er.grow g1,by simpa using h1,fun p v F' H' hp g r=>k p v F' H' hp (g1.trans g) r⟩⟩
noncomputable def qk (g g':ij)(ta tb tc:eC):eC:=fun ρ Q=>ta ρ fun x=>tb ρ fun y=>g x y fun z=>OkB z fun k=>if k=true then tc ρ fun w=>g' y w Q else Q (.bl false)
theorem mQ {r r':R2}{g g':ij}(hg:eG X.K r g)(hg':eG X.K r' g'):∀σ H Q,lE X.K (qk g g' ta tb tc) σ H Q->vh r r' (lT X.K ta) (lT X.K tb) (lT X.K tc) σ H Q:=fun σ H Q hh_=>hh_.elim fun F ρ Qp er q k=>
 ⟨F,ρ,_,er,q,fun p v F1 H1 q1 g1 r1=>⟨F1,ρ,_,er.grow g1,q1,fun p2 v2 F2 H2 q2 g2 r2=>
  hg F2 H2 v v2 p p2 _ _ g2.fh (r1.grow g2) r2 q2 fun z u F3 H3 qz g3 r3=>by
   obtain⟨b,rfl,rfl,h⟩:=OkB.rd (H:=H3) qz (.frz r3)
   refine⟨b,rfl,?_⟩
   have gg:=(g1.trans g2).trans g3
   cases b with
   |true=>exact⟨F3,ρ,_,er.grow gg,by simpa using h,fun p4 v4 F4 H4 q4 g4 r4=>hg' F4 H4 v2 v4 p2 p4 Qp Q g4.fh (r2.grow (g3.trans g4)) r4 q4 fun z u F5 H5 qz g5 r5=>k z u F5 H5 qz ((gg.trans g4).trans g5) r5⟩
   |false=>exact k (.bl false) _ F3 H3 (by simpa using h) gg rfl⟩⟩
theorem AT {op op':CmpOp}{r r':R2}{g g':ij}(ho:OpR X (compareOp op) r)(hg:eG X.K r g)(ho':OpR X (compareOp op') r')(hg':eG X.K r' g')(ha:fL X a ta)(hb:fL X b tb)(hc:fL X c tc)
  (hm:lastMarks [op,op'] [b,c]=false:=by with_unfolding_all rfl):PuE X (.Compare a [op,op'] [b,c] pos) (qk g g' ta tb tc):=PE.weak (Aa ho ho' ha hb hc hm) (mQ hg hg')
theorem xi {op op':CmpOp}{r r':R2}{g g':ij}(ho:OpR X (compareOp op) r)(hg:eG X.K r g)(ho':OpR X (compareOp op') r')(hg':eG X.K r' g')(ha:fL X a ta)(hb:fL X b tb)(hc:fL X c tc)
  (hm:lastMarks [op,op'] [b,c]=false:=by with_unfolding_all rfl):PuB X (.Compare a [op,op'] [b,c] pos) (zd (qk g g' ta tb tc)):=PT.weak (Bn ho ho' ha hb hc hm) fun σ H Q hh_=>hh_.elim fun F ρ Qp er q k=>mQ hg hg' σ H _ ⟨F,ρ,_,er,q,fun p v F' H' hp g r=>by
  obtain⟨b,rfl,rfl,q⟩:=hp.rd (H:=H') (.frz r)
  exact⟨b,rfl,k b F' H' q g⟩⟩
noncomputable def P2 (ta:eC):eC:=fun ρ Q=>ta ρ fun x=>OkI x fun i=>Q (.int (-i))
theorem KB (ha:PuE X a ta):PuE X (.UnaryOp .USub a pos) (P2 ta):=PE.weak (zC ui ha) fun σ H Q hh_=>hh_.elim fun F ρ Qp er q k=>⟨F,ρ,_,er,q,fun p v F1 H1 h1 g1 r1=>by
 obtain⟨i,rfl,rfl,h⟩:=h1.rd (H:=H1) (.frz r1)
 exact⟨i,rfl,k _ _ F1 H1 h g1 rfl⟩⟩
inductive RdVs (K:PySem.W.Frag) (F H:Hp):List PV->List V->Prop where
 |nil:RdVs K F H [] []
 |cons {p:PV} {v:V} {ps:List PV} {vs:List V}:RdV K F H p v->RdVs K F H ps vs->RdVs K F H (p::ps) (v::vs)
noncomputable def lAT (K:PySem.W.Frag)(te:iH):TA:=fun σ H Q=>∃F ρ,∃Qp:List PV->Prop,ER K F H σ ρ/\te ρ Qp/\∀ps vs F' H',Qp ps->Grow F H F' H'->RdVs K F' H' ps vs->Q vs H'
theorem lAT.elim {K:PySem.W.Frag}{te:iH}{σ:St}{H:Hp}{Q:List V->Hp->Prop}{C:Prop}(h:lAT K te σ H Q)(k:∀F ρ (Qp:List PV->Prop),ER K F H σ ρ->te ρ Qp->(∀ps vs F' H',Qp ps->Grow F H F' H'->RdVs K F' H' ps vs->Q vs H')->C):C:=by obtain⟨F,ρ,Qp,a,b,c⟩:=h;exact k F ρ Qp a b c
noncomputable def xK (X:Cx)(es:List Expr)(te:iH):Prop:=PA X es (lAT X.K te)
noncomputable def OJ:iH:=fun _ Q=>Q []
noncomputable def Gm (te:eC)(t:iH):iH:=fun ρ Q=>te ρ fun p=>t ρ fun ps=>Q (p::ps)
variable {es:List Expr}{t:iH}
theorem DU:GL X [] OJ:=PA.weak iw fun σ H Q hh_=>hh_.elim fun F ρ Qp er q k=>k _ _ F H q (.refl er.fz) rfl
theorem yz (hn:NS e)(he:PuE X e te)(ht:GL X es t):GL X (e::es) (Gm te t):=PA.weak (dM hn he ht) fun σ H Q hh_=>hh_.elim fun F ρ Qp er q k=>⟨F,ρ,_,er,q,fun p v F1 H1 h1 g1 r1=>
 ⟨F1,ρ,_,er.grow g1,h1,fun ps vs F2 H2 h2 g2 r2=>k _ _ F2 H2 h2 (g1.trans g2) ⟨v,vs,rfl,r1.mono g2.ff,r2⟩⟩⟩
theorem Am:xK X [] OJ:=PA.weak iw fun σ H Q hh_=>hh_.elim fun F ρ Qp er q k=>k _ _ F H q (.refl er.fz) .nil
theorem yn (hn:NS e)(he:fL X e te)(ht:xK X es t):xK X (e::es) (Gm te t):=PA.weak (dM hn he ht) fun σ H Q hh_=>hh_.elim fun F ρ Qp er q k=>⟨F,ρ,_,er,q,fun p v F1 H1 h1 g1 r1=>
 ⟨F1,ρ,_,er.grow g1,h1,fun ps vs F2 H2 h2 g2 r2=>k _ _ F2 H2 h2 (g1.trans g2) (.cons (r1.grow g2) r2)⟩⟩
noncomputable def QT (t:iH):eC:=fun ρ Q=>t ρ fun ps=>ps.length≤sizeLine/\Q (.tup ps)
noncomputable def Pc (t:iH):oH:=fun ρ Q=>t ρ fun ps=>ps.length≤sizeLine/\Q ps
theorem KK {x1}(h:GL X es t):PuE X (.Tuple es x1 pos) (QT t):=PE.weak (HS h) fun σ H Q hh_=>hh_.elim fun F ρ Qp er q k=>⟨F,ρ,_,er,q,fun ps vs F1 H1 h1 g1 r1=>⟨by rw[r1.length];exact h1.1,fun p hp=>
 k (.tup ps) (.ref p) _ _ h1.2 (g1.trans (.new g1.fh hp _)) ⟨p,vs,rfl,ah,r1.mono (aM (g1.fh.free hp) _)⟩⟩⟩
theorem J9 (h:GL X es t):PuN X (.List es pos) (Pc t):=PE.weak (AN h) fun σ H Q hh_=>hh_.elim fun F ρ Qp er q k=>⟨F,ρ,_,er,q,fun ps vs F1 H1 h1 g1 r1=>⟨by rw[r1.length];exact h1.1,fun p hp=>
 k ps p vs F1 _ h1.2 (g1.trans (.newO g1.fh hp _)) (g1.hh.free hp) (g1.fh.free hp) ah r1⟩⟩
noncomputable def items:PV->Option (List PV)
 |.tup ps=>some ps
 |.lst ps=>some ps
 |.src ps=>some ps
 |.ktu ps=>some ps
 |_=>none
noncomputable def OkS (p:PV)(Q:List PV->Prop):Prop:=match items p with
 |some ps=>Q ps
 |none=>False
noncomputable def OkO {α:Type}(o:Option α)(Q:α->Prop):Prop:=match o with
 |some x=>Q x
 |none=>False
theorem OkO.ex {α:Type}{o:Option α}{Q:α->Prop}(h:OkO o Q):∃x,o=some x/\Q x:=by
 cases o with
 |none=>exact h.elim
 |some x=>exact⟨x,rfl,h⟩
theorem OkS.rd {K:PySem.W.Frag}{F H:Hp}{p:PV}{v:V}{Q:List PV->Prop}(h:OkS p Q)(s:Same F H)(r:RdV K F H p v):∃a vs ps,v=.ref a/\(SqL K H a vs\/SqT K H a vs)/\items p=some ps/\Reps K F ps vs/\Q ps:=by
 unfold OkS at h
 cases r with
 |frz r=>
  cases p<;>first|exact h.elim|skip
  ·obtain⟨a,vs,rfl,e,r⟩:=r;exact⟨a,vs,_,rfl,.inr (SqT.of (s _ _ e)),rfl,r,h⟩
  ·obtain⟨a,vs,rfl,e,r⟩:=r;exact⟨a,vs,_,rfl,.inl (SqL.of (s _ _ e)),rfl,r,h⟩
  ·obtain⟨a,vs,rfl,e,r⟩:=r;exact⟨a,vs,_,rfl,.inl (s.seq e),rfl,r,h⟩
  ·obtain⟨a,vs,rfl,e,r⟩:=r;exact⟨a,vs,_,rfl,.inr (x0 s e),rfl,r,h⟩
 |own h1 h2 h3=>exact⟨_,_,_,rfl,.inl (SqL.of h1),rfl,h3,h⟩
 |dic=>exact h.elim
theorem Reps.atI {K:PySem.W.Frag}{F:Hp}{ps:List PV}{vs:List V}{i:Int}{p:PV}(h:Reps K F ps vs)(e:L2.atI ps i=some p):∃v,L2.atI vs i=some v/\Rep K F p v:=by
 unfold L2.atI at e ⊢
 rw[h.length]
 cases q:qw ps.length i with
 |none=>rw[q] at e;cases e
 |some j=>rw[q] at e;exact h.get e
noncomputable def Q2:ij:=fun x y Q=>OkI y fun i=>match x with
 |.str z=>z.length≤sizeLine/\OkO (L2.atI z.cps.toList i) fun c=>Q (.str ⟨#[c]⟩)
 |p=>OkS p fun ps=>OkO (L2.atI ps i) Q
theorem Mo:eG X.K (eg X.K) Q2:=fun F H x y p q Qp Q s rx ry h k=>by
 obtain⟨i,rfl,rfl,h⟩:=OkI.rd h ry
 by_cases hz:∃z,p=.str z
 ·obtain⟨z,rfl⟩:=hz
  obtain⟨h1,h2⟩:=h
  obtain⟨c,e,h2⟩:=h2.ex
  cases rx with
  |frz r=>exact .inr (.inr ⟨z,i,c,r,rfl,h1,e,k _ _ F H h2 (.refl s) rfl⟩)
 ·have h':OkS p fun ps=>OkO (L2.atI ps i) Qp:=by
   cases p<;>first|exact h|exact absurd ⟨_,rfl⟩ hz
  obtain⟨a,vs,ps,rfl,hs,_,r,h⟩:=h'.rd s rx
  obtain⟨z,e,h⟩:=h.ex
  obtain⟨v,e',r'⟩:=r.atI e
  rcases hs with hs|hs
  ·exact .inl ⟨a,vs,i,v,rfl,rfl,hs,e',k z v F H h (.refl s) r'⟩
  ·exact .inr (.inl ⟨a,vs,i,v,rfl,rfl,hs,e',k z v F H h (.refl s) r'⟩)
theorem GW (ha:fL X a ta)(hb:fL X b tb)(hs:jj b):PuE X (.Subscript a b pos) (ra Q2 ta tb):=PE.weak (Az BM ha hb hs) (kn Mo)
noncomputable abbrev xV:=al->(Option Int->Prop)->Prop
noncomputable def lO (K:PySem.W.Frag)(te:xV):TO:=fun σ H Q=>∃F ρ,∃Qp:Option Int->Prop,ER K F H σ ρ/\te ρ Qp/\∀b F' H',Qp b->Grow F H F' H'->Q b H'
theorem lO.elim {K:PySem.W.Frag}{te:xV}{σ:St}{H:Hp}{Q:Option Int->Hp->Prop}{C:Prop}(h:lO K te σ H Q)(k:∀F ρ (Qp:Option Int->Prop),ER K F H σ ρ->te ρ Qp->(∀b F' H',Qp b->Grow F H F' H'->Q b H')->C):C:=by obtain⟨F,ρ,Qp,a,b,c⟩:=h;exact k F ρ Qp a b c
noncomputable def zJ (X:Cx)(e:Option Expr)(te:xV):Prop:=PO X e (lO X.K te)
theorem PO.weak {X:Cx}{e:Option Expr}{t t':TO}(h:PO X e t)(w:∀σ H Q,t' σ H Q->t σ H Q):PO X e t':=fun pins s σ H Q I q=>h pins s σ H _ I (w σ H _ q)
noncomputable def FK:xV:=fun _ Q=>Q none
noncomputable def No (te:eC):xV:=fun ρ Q=>te ρ fun x=>OkI x fun i=>Q (some i)
theorem AV:zJ X none FK:=PO.weak CV fun σ H Q hh_=>hh_.elim fun F ρ Qp er q k=>k _ F H q (.refl er.fz)
theorem Bs (h:PuE X e te):zJ X (some e) (No te):=PO.weak (EV h) fun σ H Q hh_=>hh_.elim fun F ρ Qp er q k=>⟨F,ρ,_,er,q,fun p v F1 H1 h1 g1 r1=>by
 obtain⟨i,rfl,rfl,h⟩:=h1.rd (H:=H1) (.frz r1)
 exact⟨i,rfl,k _ F1 H1 h g1⟩⟩
noncomputable def cut {α:Type}(xs:List α)(lo hi:Option Int):List α:=(xs.drop (HT.sIx xs.length 0 lo)).take (HT.sIx xs.length xs.length hi - HT.sIx xs.length 0 lo)
theorem Reps.cut {K:PySem.W.Frag}{F:Hp}{ps:List PV}{vs:List V}{lo hi:Option Int}(h:Reps K F ps vs):Reps K F (cut ps lo hi) (sq vs lo hi):=by
 unfold Pu.cut sq
 rw[h.length]
 exact (h.drop _).take _
noncomputable def OkL:PV->(List PV->Prop)->Prop
 |.lst ps,Q=>Q ps
 |.src ps,Q=>Q ps
 |_,_=>False
theorem OkL.rd {K:PySem.W.Frag}{F H:Hp}{p:PV}{v:V}{Q:List PV->Prop}(h:OkL p Q)(s:Same F H)(r:RdV K F H p v):∃a vs ps,v=.ref a/\SqL K H a vs/\Reps K F ps vs/\Q ps:=by
 cases r with
 |frz r=>
  cases p<;>first|exact h.elim|skip
  ·obtain⟨a,vs,rfl,e,r⟩:=r;exact⟨a,vs,_,rfl,SqL.of (s _ _ e),r,h⟩
  ·obtain⟨a,vs,rfl,e,r⟩:=r;exact⟨a,vs,_,rfl,s.seq e,r,h⟩
 |own h1 h2 h3=>exact⟨_,_,_,rfl,SqL.of h1,h3,h⟩
 |dic=>exact h.elim
noncomputable def OkT:PV->(List PV->Prop)->Prop
 |.tup ps,Q=>Q ps
 |_,_=>False
theorem OkT.rd {K:PySem.W.Frag}{F H:Hp}{p:PV}{v:V}{Q:List PV->Prop}(h:OkT p Q)(r:RdV K F H p v):∃a vs ps,p=.tup ps/\v=.ref a/\F a=some (.tup vs)/\Reps K F ps vs/\Q ps:=by
 cases p<;>first|exact h.elim|skip
 cases r with
 |frz r=>obtain⟨a,vs,rfl,e,r⟩:=r;exact⟨a,vs,_,rfl,rfl,e,r,h⟩
noncomputable def Pg (te:eC)(tl th:xV):oH:=fun ρ Q=>te ρ fun x=>tl ρ fun l=>th ρ fun h=>OkL x fun ps=>Q (cut ps l h)
theorem Kp {lo hi:Option Expr}{tl th:xV}{p2:Pos}(he:fL X e te)(hl:zJ X lo tl)(hh:zJ X hi th):PuN X (.Subscript e (.Slice lo hi none p2) pos) (Pg te tl th):=PE.weak (nN C2 he hl hh) fun σ H Q hh_=>hh_.elim fun F ρ Qp er q k=>⟨F,ρ,_,er,q,fun p v F1 H1 h1 g1 r1=>
 ⟨F1,ρ,_,er.grow g1,h1,fun l F2 H2 h2 g2=>⟨F2,ρ,_,(er.grow g1).grow g2,h2,fun h F3 H3 h3 g3=>by
  have gg:=(g1.trans g2).trans g3
  obtain⟨a,vs,ps,rfl,hs,r,q⟩:=h3.rd gg.fh (r1.grow (g2.trans g3))
  refine⟨a,vs,rfl,hs,fun p hp=>k _ p _ F3 _ q (gg.trans (.newO gg.fh hp _)) (gg.hh.free hp) (gg.fh.free hp) ah r.cut⟩⟩⟩⟩
end
end Pu
end
section
namespace Pu
open PySem PySem.Spec L2 PySem.SeqAt
mutual
noncomputable def ay:PV->Bool
 |.non=>true
 |.bl _=>true
 |.int _=>true
 |.str _=>true
 |.tup ps=>az ps
 |.lst ps=>az ps
 |_=>false
noncomputable def az:List PV->Bool
 |[]=>true
 |p::ps=>ay p&&az ps
end
mutual
noncomputable def kl:PV->Nat
 |.tup ps=>bP ps+1
 |.lst ps=>bP ps+1
 |_=>0
noncomputable def bP:List PV->Nat
 |[]=>0
 |p::ps=>max (kl p) (bP ps)
end
mutual
noncomputable def g9:PV->PV->Bool
 |.tup ps,q=>match q with
  |.tup qs=>ig ps qs
  |_=>false
 |.lst ps,q=>match q with
  |.lst qs=>ig ps qs
  |_=>false
 |p,q=>bT q&&wz (iE p) (iE q)
noncomputable def ig:List PV->List PV->Bool
 |[],qs=>match qs with
  |[]=>true
  |_::_=>false
 |p::ps,qs=>match qs with
  |[]=>false
  |q::qs=>g9 p q&&ig ps qs
end
theorem ge:∀(ps qs:List PV),((List.range (min ps.length qs.length)).all (fun j=>g9 (ps.getD j .non) (qs.getD j .non))&&ps.length==qs.length)=ig ps qs
 |[],[]=>by simp[ig]
 |[],_::_=>by simp[ig]
 |_::_,[]=>by simp[ig]
 |p::ps,q::qs=>by
  have ih:=ge ps qs
  rw[ig,←ih]
  rw[show min (p::ps).length (q::qs).length=min ps.length qs.length+1 by simp only[List.length_cons];omega,List.range_succ_eq_map,List.all_cons,List.all_map]
  simp[Bool.and_assoc,Function.comp_def]
theorem lZ {ps qs:List PV}(h:ps.length=qs.length):(List.range ps.length).all (fun j=>g9 (ps.getD j .non) (qs.getD j .non))=ig ps qs:=by
 rw[←ge,←h,Nat.min_self];simp
theorem rA {ps qs:List PV}(h:ps.length≠qs.length):ig ps qs=false:=by
 rw[←ge,(show (ps.length==qs.length)=false by simpa using h),Bool.and_false]
mutual
noncomputable def Dv (s:Shared):PV->Value->Prop
 |.tup ps,u=>∃a its,u=.ref a/\s.heap.IsTuple a its.toArray/\Dvs s ps its
 |.lst ps,u=>∃a its,u=.ref a/\s.heap.IsList a its.toArray/\Dvs s ps its
 |p,u=>RelV (iE p) u
noncomputable def Dvs (s:Shared):List PV->List Value->Prop
 |[],us=>us=[]
 |p::ps,us=>∃u r,us=u::r/\Dv s p u/\Dvs s ps r
end
theorem Dvs.length {s:Shared}:∀{ps:List PV} {us:List Value},Dvs s ps us->us.length=ps.length
 |[],_,h=>by rw[show _=[] from h];rfl
 |_::_,_,⟨u,r,e,_,t⟩=>by rw[e,List.length_cons,List.length_cons,t.length]
section
variable {X:Cx}{pins:List (Addr×Obj)}{σ:L2.St}{F H:Hp}{s:Shared}
mutual
theorem GI (I:L2.Inv X pins σ H s)(sf:Same F H):∀{p:PV} {v:V} {u:Value},ay p=true->Rep X.K F p v->RelV v u->Dv s p u
 |.non,_,_,_,h,r=>by rw[show _=_ from h] at r;exact r
 |.bl _,_,_,_,h,r=>by rw[show _=_ from h] at r;exact r
 |.int _,_,_,_,h,r=>by rw[show _=_ from h] at r;exact r
 |.str _,_,_,_,h,r=>by rw[show _=_ from h] at r;exact r
 |.tup ps,_,_,hp,⟨a,vs,e,hF,rs⟩,r=>by
  subst e
  obtain⟨its,rv,pl,hz⟩:=I.tuple (SqT.of (sf _ _ hF))
  exact⟨a,its,r,pl,jc I sf hp rs rv⟩
 |.lst ps,_,_,hp,⟨a,vs,e,hF,rs⟩,r=>by
  subst e
  obtain⟨its,rv,pl,hz⟩:=I.list (SqL.of (sf _ _ hF))
  exact⟨a,its,r,pl.isList,jc I sf hp rs rv⟩
 |.ty _,_,_,hp,_,_=>absurd hp Bool.false_ne_true
 |.fn _,_,_,hp,_,_=>absurd hp Bool.false_ne_true
 |.dct _ _,_,_,hp,_,_=>absurd hp Bool.false_ne_true
 |.src _,_,_,hp,_,_=>absurd hp Bool.false_ne_true
 |.ktu _,_,_,hp,_,_=>absurd hp Bool.false_ne_true
 |.rng _ _,_,_,hp,_,_=>absurd hp Bool.false_ne_true
theorem jc (I:L2.Inv X pins σ H s)(sf:Same F H):∀{ps:List PV} {vs:List V} {us:List Value},az ps=true->Reps X.K F ps vs->Vals vs us->Dvs s ps us
 |[],_,_,_,h,r=>by rw[show _=[] from h] at r;cases r;rfl
 |p::ps,_,_,hp,⟨v,t,e,h1,h2⟩,r=>by
  subst e
  cases r with
  |cons r1 r2=>
   rw[az,Bool.and_eq_true] at hp
   exact⟨_,_,rfl,GI I sf hp.1 h1 r1,jc I sf hp.2 h2 r2⟩
end
theorem oP (I:L2.Inv X pins σ H s)(sf:Same F H){p:PV}{v:V}{u:Value}(hp:ay p=true)(h:RdV X.K F H p v)(r:RelV v u):Dv s p u:=by
 cases h with
 |frz h=>exact GI I sf hp h r
 |own h1 h2 h3=>
  obtain⟨its,rv,pl,hz⟩:=I.list (SqL.of h1)
  exact⟨_,its,r,pl.isList,jc I sf hp h3 rv⟩
 |dic=>exact absurd hp Bool.false_ne_true
end
theorem kB {p:PV}(h1:bT p=true)(h2:ay p=true):i7 (iE p)=true:=by
 cases p<;>first|rfl|exact absurd h1 Bool.false_ne_true|exact absurd h2 Bool.false_ne_true
theorem ED {A:Around}{s:Shared}{y x:V}{u v:Value}(ry:RelV y u)(rx:RelV x v)(fy:i7 y=true)(fx:i7 x=true):RcAt A s u v (wz y x):=by
 cases y with
 |non=>
  cases ry
  cases x with
  |non=>cases rx;exact RcAt.none_none
  |bl b=>cases rx;exact RcAt.none_bool b
  |int b=>obtain⟨t,rfl⟩:=rx;exact RcAt.none_int b t
  |str b=>obtain⟨t,rfl⟩:=rx;exact RcAt.none_str b t
  |_=>exact absurd (show false=true from fx) Bool.false_ne_true
 |bl a=>
  cases ry
  cases x with
  |non=>cases rx;exact RcAt.bool_none a
  |bl b=>cases rx;exact RcAt.bool_bool a b
  |int b=>obtain⟨t,rfl⟩:=rx;exact RcAt.bool_int a b t
  |str b=>obtain⟨t,rfl⟩:=rx;exact RcAt.bool_str a b t
  |_=>exact absurd (show false=true from fx) Bool.false_ne_true
 |int a=>
  obtain⟨t',rfl⟩:=ry
  cases x with
  |non=>cases rx;exact RcAt.int_none a t'
  |bl b=>cases rx;exact RcAt.int_bool a t' b
  |int b=>obtain⟨t,rfl⟩:=rx;exact RcAt.int_int a t' b t
  |str b=>obtain⟨t,rfl⟩:=rx;exact RcAt.int_str a t' b t
  |_=>exact absurd (show false=true from fx) Bool.false_ne_true
 |str a=>
  obtain⟨t',rfl⟩:=ry
  cases x with
  |non=>cases rx;exact RcAt.str_none a t'
  |bl b=>cases rx;exact RcAt.str_bool a t' b
  |int b=>obtain⟨t,rfl⟩:=rx;exact RcAt.str_int a t' b t
  |str b=>obtain⟨t,rfl⟩:=rx;exact RcAt.str_str a t' b t
  |_=>exact absurd (show false=true from fx) Bool.false_ne_true
 |_=>exact absurd (show false=true from fy) Bool.false_ne_true
theorem Ed {A:Around}{s:Shared}{y x:V}{u v:Value}(ry:RelV y u)(rx:RelV x v)(fy:i7 y=true)(fx:i7 x=true):RcNeAt A s u v (!wz y x):=by
 cases y with
 |non=>
  cases ry
  cases x with
  |non=>cases rx;exact RcNeAt.none_none
  |bl b=>cases rx;exact RcNeAt.none_bool b
  |int b=>obtain⟨t,rfl⟩:=rx;exact RcNeAt.none_int b t
  |str b=>obtain⟨t,rfl⟩:=rx;exact RcNeAt.none_str b t
  |_=>exact absurd (show false=true from fx) Bool.false_ne_true
 |bl a=>
  cases ry
  cases x with
  |non=>cases rx;exact RcNeAt.bool_none a
  |bl b=>cases rx;exact RcNeAt.bool_bool a b
  |int b=>obtain⟨t,rfl⟩:=rx;exact RcNeAt.bool_int a b t
  |str b=>obtain⟨t,rfl⟩:=rx;exact RcNeAt.bool_str a b t
  |_=>exact absurd (show false=true from fx) Bool.false_ne_true
 |int a=>
  obtain⟨t',rfl⟩:=ry
  cases x with
  |non=>cases rx;exact RcNeAt.int_none a t'
  |bl b=>cases rx;exact RcNeAt.int_bool a t' b
  |int b=>obtain⟨t,rfl⟩:=rx;exact RcNeAt.int_int a t' b t
  |str b=>obtain⟨t,rfl⟩:=rx;exact RcNeAt.int_str a t' b t
  |_=>exact absurd (show false=true from fx) Bool.false_ne_true
 |str a=>
  obtain⟨t',rfl⟩:=ry
  cases x with
  |non=>cases rx;exact RcNeAt.str_none a t'
  |bl b=>cases rx;exact RcNeAt.str_bool a t' b
  |int b=>obtain⟨t,rfl⟩:=rx;exact RcNeAt.str_int a t' b t
  |str b=>obtain⟨t,rfl⟩:=rx;exact RcNeAt.str_str a t' b t
  |_=>exact absurd (show false=true from fx) Bool.false_ne_true
 |_=>exact absurd (show false=true from fy) Bool.false_ne_true
theorem sE {p q:PV}(hp:bT p=true):g9 p q=(bT q&&wz (iE p) (iE q)):=by
 cases p<;>first|rfl|exact absurd hp Bool.false_ne_true
mutual
theorem j7:∀{p:PV},ay p=true->g9 p p=true
 |.non,_=>rfl
 |.bl b,_=>by simp[g9,bT,iE,wz]
 |.int b,_=>by simp[g9,bT,iE,wz]
 |.str b,_=>by simp[g9,bT,iE,wz]
 |.tup ps,h=>d8 (ps:=ps) h
 |.lst ps,h=>d8 (ps:=ps) h
 |.ty _,h=>absurd h Bool.false_ne_true
 |.fn _,h=>absurd h Bool.false_ne_true
 |.dct _ _,h=>absurd h Bool.false_ne_true
 |.src _,h=>absurd h Bool.false_ne_true
 |.ktu _,h=>absurd h Bool.false_ne_true
 |.rng _ _,h=>absurd h Bool.false_ne_true
theorem d8:∀{ps:List PV},az ps=true->ig ps ps=true
 |[],_=>rfl
 |p::ps,h=>by
  rw[az,Bool.and_eq_true] at h
  rw[ig,j7 h.1,d8 h.2];rfl
end
theorem Dm {h:Heap}{a:Addr}{x y:List Value}(h1:h.IsTuple a x.toArray)(h2:h.IsTuple a y.toArray):x=y:=by
 obtain⟨o,e,_,n,d⟩:=h1
 obtain⟨o',e',_,n',d'⟩:=h2
 rw[e] at e';cases e'
 rw[d] at d'
 injection d' with d1 _
 simpa using congrArg Array.toList d1
theorem CM {h:Heap}{a:Addr}{x y:List Value}(h1:h.IsList a x.toArray)(h2:h.IsList a y.toArray):x=y:=by
 obtain⟨o,e,_,n,d⟩:=h1
 obtain⟨o',e',_,n',d'⟩:=h2
 rw[e] at e';cases e'
 rw[d] at d'
 injection d' with d1 _
 simpa using congrArg Array.toList d1
mutual
theorem Dv.inj {s:Shared}:∀{p q:PV} {u:Value},ay p=true->ay q=true->Dv s p u->Dv s q u->p=q
 |.tup ps,q,_,hp,hq,⟨a,its,e,h1,h2⟩,d=>by
  subst e
  cases q with
  |tup qs=>
   obtain⟨a',its',e',h1',h2'⟩:=d
   cases e'
   have:=Dm h1 h1'
   subst this
   rw[Dvs.inj hp hq h2 h2']
  |lst qs=>
   obtain⟨a',its',e',h1',h2'⟩:=d
   cases e'
   exact absurd rfl (ne_of_list_tuple h1' h1)
  |non=>cases (show Value.ref a=_ from d)
  |bl b=>cases (show Value.ref a=_ from d)
  |int b=>obtain⟨t,e⟩:=d;cases e
  |str b=>obtain⟨t,e⟩:=d;cases e
  |_=>exact absurd hq Bool.false_ne_true
 |.lst ps,q,_,hp,hq,⟨a,its,e,h1,h2⟩,d=>by
  subst e
  cases q with
  |lst qs=>
   obtain⟨a',its',e',h1',h2'⟩:=d
   cases e'
   have:=CM h1 h1'
   subst this
   rw[Dvs.inj hp hq h2 h2']
  |tup qs=>
   obtain⟨a',its',e',h1',h2'⟩:=d
   cases e'
   exact absurd rfl (ne_of_list_tuple h1 h1')
  |non=>cases (show Value.ref a=_ from d)
  |bl b=>cases (show Value.ref a=_ from d)
  |int b=>obtain⟨t,e⟩:=d;cases e
  |str b=>obtain⟨t,e⟩:=d;cases e
  |_=>exact absurd hq Bool.false_ne_true
 |.non,q,_,hp,hq,d,d'=>by
  cases (show _=Value.none from d)
  cases q with
  |non=>rfl
  |bl b=>cases (show Value.none=_ from d')
  |int b=>obtain⟨t,e⟩:=d';cases e
  |str b=>obtain⟨t,e⟩:=d';cases e
  |tup qs=>obtain⟨a,its,e,_⟩:=d';cases e
  |lst qs=>obtain⟨a,its,e,_⟩:=d';cases e
  |_=>exact absurd hq Bool.false_ne_true
 |.bl x,q,_,hp,hq,d,d'=>by
  cases (show _=Value.bool x from d)
  cases q with
  |non=>cases (show Value.bool x=_ from d')
  |bl b=>cases (show Value.bool x=Value.bool b from d');rfl
  |int b=>obtain⟨t,e⟩:=d';cases e
  |str b=>obtain⟨t,e⟩:=d';cases e
  |tup qs=>obtain⟨a,its,e,_⟩:=d';cases e
  |lst qs=>obtain⟨a,its,e,_⟩:=d';cases e
  |_=>exact absurd hq Bool.false_ne_true
 |.int x,q,_,hp,hq,⟨t,d⟩,d'=>by
  subst d
  cases q with
  |non=>cases (show Value.int x t=_ from d')
  |bl b=>cases (show Value.int x t=Value.bool b from d')
  |int b=>obtain⟨t,e⟩:=d';cases e;rfl
  |str b=>obtain⟨t,e⟩:=d';cases e
  |tup qs=>obtain⟨a,its,e,_⟩:=d';cases e
  |lst qs=>obtain⟨a,its,e,_⟩:=d';cases e
  |_=>exact absurd hq Bool.false_ne_true
 |.str x,q,_,hp,hq,⟨t,d⟩,d'=>by
  subst d
  cases q with
  |non=>cases (show Value.str x t=_ from d')
  |bl b=>cases (show Value.str x t=Value.bool b from d')
  |int b=>obtain⟨t,e⟩:=d';cases e
  |str b=>obtain⟨t,e⟩:=d';cases e;rfl
  |tup qs=>obtain⟨a,its,e,_⟩:=d';cases e
  |lst qs=>obtain⟨a,its,e,_⟩:=d';cases e
  |_=>exact absurd hq Bool.false_ne_true
 |.ty _,_,_,h,_,_,_=>absurd h Bool.false_ne_true
 |.fn _,_,_,h,_,_,_=>absurd h Bool.false_ne_true
 |.dct _ _,_,_,h,_,_,_=>absurd h Bool.false_ne_true
 |.src _,_,_,h,_,_,_=>absurd h Bool.false_ne_true
 |.ktu _,_,_,h,_,_,_=>absurd h Bool.false_ne_true
 |.rng _ _,_,_,h,_,_,_=>absurd h Bool.false_ne_true
theorem Dvs.inj {s:Shared}:∀{ps qs:List PV} {us:List Value},az ps=true->az qs=true->Dvs s ps us->Dvs s qs us->ps=qs
 |[],qs,_,_,_,h,h'=>by
  cases (show _=[] from h)
  cases qs with
  |nil=>rfl
  |cons q qs=>obtain⟨u,r,e,_⟩:=h';cases e
 |p::ps,qs,_,hp,hq,⟨u,r,e,d1,d2⟩,h'=>by
  subst e
  cases qs with
  |nil=>cases (show _=[] from h')
  |cons q qs=>
   obtain⟨u',r',e',d1',d2'⟩:=h'
   cases e'
   rw[az,Bool.and_eq_true] at hp hq
   rw[Dv.inj hp.1 hq.1 d1 d1',Dvs.inj hp.2 hq.2 d2 d2']
end
theorem Dv.flat' {s:Shared}{p:PV}{u:Value}(hf:bT p=true)(h:Dv s p u):RelV (iE p) u:=by
 cases p<;>first|exact h|exact absurd hf Bool.false_ne_true
theorem wv {s:Shared}{p q:PV}{A:Around}{u v:Value}(hf:bT p=true)(hp:ay p=true)(hq:ay q=true)(hd:A.units<cLine)(d:Dv s p u)(d':Dv s q v):RcAt A s u v (g9 p q):=by
 rw[sE hf]
 cases hfq:bT q with
 |true=>
  rw[Bool.true_and]
  exact ED (d.flat' hf) (d'.flat' hfq) (kB hf hp) (kB hfq hq)
 |false=>
  rw[Bool.false_and]
  have dp:=d.flat' hf
  cases q with
  |tup qs=>
   obtain⟨b,its2,e',h1',h2'⟩:=d'
   subst e'
   cases p with
   |non=>cases dp;exact RcAt.none_tuple h1' hd
   |bl x=>cases dp;exact RcAt.bool_tuple x h1' hd
   |int x=>obtain⟨t,rfl⟩:=dp;exact RcAt.int_tuple x t h1' hd
   |str x=>obtain⟨t,rfl⟩:=dp;exact RcAt.str_tuple x t h1' hd
   |_=>first|exact absurd hf Bool.false_ne_true|exact absurd hp Bool.false_ne_true
  |lst qs=>
   obtain⟨b,its2,e',h1',h2'⟩:=d'
   subst e'
   cases p with
   |non=>cases dp;exact RcAt.none_list h1' hd
   |bl x=>cases dp;exact RcAt.bool_list x h1' hd
   |int x=>obtain⟨t,rfl⟩:=dp;exact RcAt.int_list x t h1' hd
   |str x=>obtain⟨t,rfl⟩:=dp;exact RcAt.str_list x t h1' hd
   |_=>first|exact absurd hf Bool.false_ne_true|exact absurd hp Bool.false_ne_true
  |_=>first|exact absurd hfq.symm Bool.false_ne_true|exact absurd hq Bool.false_ne_true
theorem rT {s:Shared}{p q:PV}{A:Around}{u v:Value}(hp:ay p=true)(hq:ay q=true)(d:Dv s p u)(d':Dv s q v)(hd:A.units<cLine)(rc:RcAt A s u v (g9 p q)):EqAt A s u v (g9 p q):=by
 by_cases h:u=v
 ·subst h
  obtain rfl:=Dv.inj hp hq d d'
  rw[j7 hp]
  exact EqAt.same _
 ·intro prog w E Q hQ
  unfold eqBool
  refine wpAny_holding ?_
  refine wpAny_ite_split (fun hab=>absurd (eq_of_beq hab) h) (fun _=>?_)
  have nf:∀b t,u≠Value.float b t:=fun b t e=>by
   subst e
   cases p with
   |tup ps=>obtain⟨_,_,e,_⟩:=d;cases e
   |lst ps=>obtain⟨_,_,e,_⟩:=d;cases e
   |non=>cases (show _=Value.none from d)
   |bl x=>cases (show _=Value.bool x from d)
   |int x=>obtain⟨_,e⟩:=d;cases e
   |str x=>obtain⟨_,e⟩:=d;cases e
   |_=>exact absurd hp Bool.false_ne_true
  cases u with
  |float b t=>exact absurd rfl (nf b t)
  |_=>exact wpAny_bind (rc prog w E _ (wpAny_truthy_bool hQ))
mutual
theorem Kx {s:Shared}:∀{p q:PV} {A:Around} {u v:Value},ay p=true->ay q=true->A.units+kl p+1<cLine->Dv s p u->Dv s q v->RcAt A s u v (g9 p q)
 |.tup ps,q,A,_,v,hp,hq,hd,⟨a,its,e,h1,h2⟩,d=>by
  subst e
  have l1:=h2.length
  cases q with
  |tup qs=>
   obtain⟨b,its2,e',h1',h2'⟩:=d
   subst e'
   have l2:=h2'.length
   have:=RcAt.tuples (A:=A) (s:=s) (e:=fun j=>g9 (ps.getD j .non) (qs.getD j .non)) h1 h1' (by omega) (fun j k1 k2=>rb (ps:=ps) (qs:=qs) hp hq (by rw[kl] at hd;show A.units+1+bP ps+1<cLine;omega) h2 h2' j (by simp at k1;omega) (by simp at k2;omega) (by simpa using k1) (by simpa using k2))
   rw[List.size_toArray,List.size_toArray,l1,l2,ge] at this
   exact this
  |lst qs=>obtain⟨b,its2,e',h1',h2'⟩:=d;subst e';exact RcAt.tuple_list h1 h1' (by omega)
  |non=>cases (show _=Value.none from d);exact RcAt.tuple_none h1 (by omega)
  |bl b=>cases (show _=Value.bool b from d);exact RcAt.tuple_bool b h1 (by omega)
  |int b=>obtain⟨t,rfl⟩:=d;exact RcAt.tuple_int b t h1 (by omega)
  |str b=>obtain⟨t,rfl⟩:=d;exact RcAt.tuple_str b t h1 (by omega)
  |_=>exact absurd hq Bool.false_ne_true
 |.lst ps,q,A,_,v,hp,hq,hd,⟨a,its,e,h1,h2⟩,d=>by
  subst e
  have l1:=h2.length
  cases q with
  |lst qs=>
   obtain⟨b,its2,e',h1',h2'⟩:=d
   subst e'
   have l2:=h2'.length
   by_cases hl:ps.length=qs.length
   ·have:=RcAt.lists (A:=A) (s:=s) (e:=fun j=>g9 (ps.getD j .non) (qs.getD j .non)) h1 h1' (by simp;omega) (by omega) (fun j k1 k2=>rb (ps:=ps) (qs:=qs) hp hq (by rw[kl] at hd;show A.units+1+bP ps+1<cLine;omega) h2 h2' j (by simp at k1;omega) (by simp at k2;omega) (by simpa using k1) (by simpa using k2))
    rw[List.size_toArray,l1,lZ hl] at this
    exact this
   ·have:=RcAt.lists_lengths (A:=A) (s:=s) h1 h1' (by simp;omega) (by omega)
    rw[←rA hl] at this
    exact this
  |tup qs=>obtain⟨b,its2,e',h1',h2'⟩:=d;subst e';exact RcAt.list_tuple h1 h1' (by omega)
  |non=>cases (show _=Value.none from d);exact RcAt.list_none h1 (by omega)
  |bl b=>cases (show _=Value.bool b from d);exact RcAt.list_bool b h1 (by omega)
  |int b=>obtain⟨t,rfl⟩:=d;exact RcAt.list_int b t h1 (by omega)
  |str b=>obtain⟨t,rfl⟩:=d;exact RcAt.list_str b t h1 (by omega)
  |_=>exact absurd hq Bool.false_ne_true
 |.non,q,A,u,v,hp,hq,hd,d,d'=>wv (p:=.non) rfl hp hq (by omega) d d'
 |.bl x,q,A,u,v,hp,hq,hd,d,d'=>wv (p:=.bl x) rfl hp hq (by omega) d d'
 |.int x,q,A,u,v,hp,hq,hd,d,d'=>wv (p:=.int x) rfl hp hq (by omega) d d'
 |.str x,q,A,u,v,hp,hq,hd,d,d'=>wv (p:=.str x) rfl hp hq (by omega) d d'
 |.ty _,_,_,_,_,h,_,_,_,_=>absurd h Bool.false_ne_true
 |.fn _,_,_,_,_,h,_,_,_,_=>absurd h Bool.false_ne_true
 |.dct _ _,_,_,_,_,h,_,_,_,_=>absurd h Bool.false_ne_true
 |.src _,_,_,_,_,h,_,_,_,_=>absurd h Bool.false_ne_true
 |.ktu _,_,_,_,_,h,_,_,_,_=>absurd h Bool.false_ne_true
 |.rng _ _,_,_,_,_,h,_,_,_,_=>absurd h Bool.false_ne_true
theorem rb {s:Shared}:∀{ps qs:List PV} {A:Around} {us vs:List Value},az ps=true->az qs=true->A.units+bP ps+1<cLine->Dvs s ps us->Dvs s qs vs →
  ∀(j:Nat),j<ps.length->j<qs.length->(h1:j<us.length)->(h2:j<vs.length)->EqAt A s us[j] vs[j] (g9 (ps.getD j .non) (qs.getD j .non))
 |[],_,_,_,_,_,_,_,_,_,_,h,_,_,_=>absurd h (Nat.not_lt_zero _)
 |p::ps,qs,A,_,_,hp,hq,hd,⟨u,r,e,d1,d2⟩,d',j,k1,k2,h1,h2=>by
  subst e
  cases qs with
  |nil=>exact absurd k2 (Nat.not_lt_zero _)
  |cons q qs=>
   obtain⟨v,r',e',d1',d2'⟩:=d'
   subst e'
   rw[az,Bool.and_eq_true] at hp hq
   rw[bP] at hd
   cases j with
   |zero=>
    show EqAt A s u v (g9 p q)
    have rc:=Kx (p:=p) (q:=q) (A:=A) hp.1 hq.1 (by omega) d1 d1'
    exact rT hp.1 hq.1 d1 d1' (by omega) rc
   |succ j=>
    simp only[List.length_cons] at k1 k2 h1 h2
    have:=rb (ps:=ps) (qs:=qs) (A:=A) hp.2 hq.2 (by omega) d2 d2' j (by omega) (by omega) (by omega) (by omega)
    simpa using this
end
end Pu
end
section
namespace Pu
open PySem PySem.Spec L2 PySem.SeqAt
theorem Qk {s:Shared}{p q:PV}{A:Around}{u v:Value}(hp:ay p=true)(hq:ay q=true)(hd:A.units+kl p+1<cLine)(d:Dv s p u)(d':Dv s q v):RcNeAt A s u v (!g9 p q):=by
 have hu:A.units<cLine:=by omega
 by_cases hf:bT p=true
 ·rw[sE hf]
  have dp:=d.flat' hf
  cases hfq:bT q with
  |true=>rw[Bool.true_and];exact Ed dp (d'.flat' hfq) (kB hf hp) (kB hfq hq)
  |false=>
   rw[Bool.false_and]
   cases q with
   |tup qs=>
    obtain⟨b,its2,e',h1',h2'⟩:=d'
    subst e'
    cases p with
    |non=>cases dp;exact RcNeAt.none_tuple h1' hu
    |bl x=>cases dp;exact RcNeAt.bool_tuple x h1' hu
    |int x=>obtain⟨t,rfl⟩:=dp;exact RcNeAt.int_tuple x t h1' hu
    |str x=>obtain⟨t,rfl⟩:=dp;exact RcNeAt.str_tuple x t h1' hu
    |_=>first|exact absurd hf Bool.false_ne_true|exact absurd hp Bool.false_ne_true
   |lst qs=>
    obtain⟨b,its2,e',h1',h2'⟩:=d'
    subst e'
    cases p with
    |non=>cases dp;exact RcNeAt.none_list h1' hu
    |bl x=>cases dp;exact RcNeAt.bool_list x h1' hu
    |int x=>obtain⟨t,rfl⟩:=dp;exact RcNeAt.int_list x t h1' hu
    |str x=>obtain⟨t,rfl⟩:=dp;exact RcNeAt.str_list x t h1' hu
    |_=>first|exact absurd hf Bool.false_ne_true|exact absurd hp Bool.false_ne_true
   |_=>first|exact absurd hfq.symm Bool.false_ne_true|exact absurd hq Bool.false_ne_true
 ·cases p with
  |tup ps=>
   obtain⟨a,its,e,h1,h2⟩:=d
   subst e
   have l1:=h2.length
   cases q with
   |tup qs=>
    obtain⟨b,its2,e',h1',h2'⟩:=d'
    subst e'
    have l2:=h2'.length
    have:=RcNeAt.tuples (A:=A) (s:=s) (e:=fun j=>g9 (ps.getD j .non) (qs.getD j .non)) h1 h1' (by omega) (fun j k1 k2=>rb (ps:=ps) (qs:=qs) hp hq (by rw[kl] at hd;show A.units+1+bP ps+1<cLine;omega) h2 h2' j (by simp at k1;omega) (by simp at k2;omega) (by simpa using k1) (by simpa using k2))
    rw[List.size_toArray,List.size_toArray,l1,l2,ge] at this
    exact this
   |lst qs=>obtain⟨b,its2,e',h1',h2'⟩:=d';subst e';exact RcNeAt.tuple_list h1 h1' hu
   |non=>cases (show _=Value.none from d');exact RcNeAt.tuple_none h1 hu
   |bl b=>cases (show _=Value.bool b from d');exact RcNeAt.tuple_bool b h1 hu
   |int b=>obtain⟨t,rfl⟩:=d';exact RcNeAt.tuple_int b t h1 hu
   |str b=>obtain⟨t,rfl⟩:=d';exact RcNeAt.tuple_str b t h1 hu
   |_=>exact absurd hq Bool.false_ne_true
  |lst ps=>
   obtain⟨a,its,e,h1,h2⟩:=d
   subst e
   have l1:=h2.length
   cases q with
   |lst qs=>
    obtain⟨b,its2,e',h1',h2'⟩:=d'
    subst e'
    have l2:=h2'.length
    by_cases hl:ps.length=qs.length
    ·have:=RcNeAt.lists (A:=A) (s:=s) (e:=fun j=>g9 (ps.getD j .non) (qs.getD j .non)) h1 h1' (by simp;omega) (by omega) (fun j k1 k2=>rb (ps:=ps) (qs:=qs) hp hq (by rw[kl] at hd;show A.units+1+bP ps+1<cLine;omega) h2 h2' j (by simp at k1;omega) (by simp at k2;omega) (by simpa using k1) (by simpa using k2))
     rw[List.size_toArray,l1,lZ hl] at this
     exact this
    ·have:=RcNeAt.lists_lengths (A:=A) (s:=s) h1 h1' (by simp;omega) (by omega)
     rw[show true=!ig ps qs by rw[rA hl];rfl] at this
     exact this
   |tup qs=>obtain⟨b,its2,e',h1',h2'⟩:=d';subst e';exact RcNeAt.list_tuple h1 h1' hu
   |non=>cases (show _=Value.none from d');exact RcNeAt.list_none h1 hu
   |bl b=>cases (show _=Value.bool b from d');exact RcNeAt.list_bool b h1 hu
   |int b=>obtain⟨t,rfl⟩:=d';exact RcNeAt.list_int b t h1 hu
   |str b=>obtain⟨t,rfl⟩:=d';exact RcNeAt.list_str b t h1 hu
   |_=>exact absurd hq Bool.false_ne_true
  |_=>first|exact absurd rfl hf|exact absurd hp Bool.false_ne_true
section
variable {X:Cx}{a b c e:Expr}{pos:Pos}{ta tb te:eC}
noncomputable def EJ (K:PySem.W.Frag)(f:Bool->Bool):R2:=fun x y H Q=>∃F p q,Same F H/\RdV K F H p x/\RdV K F H q y/\ay p=true/\ay q=true/\kl p≤50/\Q (.bl (f (g9 p q))) H
theorem Ie (hu:X.A.units+64<cLine):OpR X (compareOp .Eq) (EJ X.K id):=by
 intro pins s σ H x y v u Q I rx ry ⟨F,p,q,sf,r1,r2,hp,hq,hd,k⟩
 exact Kx (A:=X.A) hp hq (by omega) (oP I sf hp r1 rx) (oP I sf hq r2 ry) _ _ _ _ ⟨.bl _,H,I,rfl,k⟩
theorem IW (hu:X.A.units+64<cLine):OpR X (compareOp .NotEq) (EJ X.K (!·)):=by
 intro pins s σ H x y v u Q I rx ry ⟨F,p,q,sf,r1,r2,hp,hq,hd,k⟩
 exact Qk (A:=X.A) hp hq (by omega) (oP I sf hp r1 rx) (oP I sf hq r2 ry) _ _ _ _ ⟨.bl _,H,I,rfl,k⟩
noncomputable def RU:ij:=fun x y Q=>ay x=true/\ay y=true/\kl x≤50/\Q (.bl (g9 x y))
noncomputable def RI:ij:=fun x y Q=>ay x=true/\ay y=true/\kl x≤50/\Q (.bl (!g9 x y))
theorem M9:eG X.K (EJ X.K id) RU:=fun F H x y p q Qp Q s rx ry h k=>⟨F,p,q,s,rx,ry,h.1,h.2.1,h.2.2.1,k _ _ F H h.2.2.2 (.refl s) rfl⟩
theorem NB:eG X.K (EJ X.K (!·)) RI:=fun F H x y p q Qp Q s rx ry h k=>⟨F,p,q,s,rx,ry,h.1,h.2.1,h.2.2.1,k _ _ F H h.2.2.2 (.refl s) rfl⟩
open Classical in
noncomputable def GK (s:Shared)(q:PV)(u:Value):Bool:=if h:∃p,ay p=true/\Dv s p u then g9 h.choose q else false
theorem Ad {s:Shared}{q p:PV}{u:Value}(hp:ay p=true)(d:Dv s p u):GK s q u=g9 p q:=by
 have h:∃p,ay p=true/\Dv s p u:=⟨p,hp,d⟩
 unfold GK
 rw[dif_pos h,Dv.inj h.choose_spec.1 hp h.choose_spec.2 d]
theorem jZ {s:Shared}{q:PV}:∀{ps:List PV} {us:List Value},az ps=true->Dvs s ps us->us.any (GK s q)=ps.any fun p=>g9 p q
 |[],_,_,h=>by rw[show _=[] from h];rfl
 |p::ps,_,hp,⟨u,r,e,d1,d2⟩=>by
  subst e
  rw[az,Bool.and_eq_true] at hp
  rw[List.any_cons,List.any_cons,Ad hp.1 d1,jZ hp.2 d2]
theorem kq {s:Shared}{A:Around}{q:PV}{v:Value}(hq:ay q=true)(dq:Dv s q v):∀{ps:List PV} {us:List Value},az ps=true->A.units+bP ps+1<cLine->Dvs s ps us->∀u∈us,EqAt A s u v (GK s q u)
 |[],_,_,_,h,u,hu=>by rw[show _=[] from h] at hu;cases hu
 |p::ps,_,hp,hd,⟨u',r,e,d1,d2⟩,u,hu=>by
  subst e
  rw[az,Bool.and_eq_true] at hp
  rw[bP] at hd
  rcases List.mem_cons.mp hu with rfl|hu
  ·rw[Ad hp.1 d1]
   exact rT hp.1 hq d1 dq (by omega) (Kx hp.1 hq (by omega) d1 dq)
  ·exact kq hq dq hp.2 (by omega) d2 u hu
noncomputable def pin (x:PV)(ps:List PV):Bool:=ps.any fun p=>g9 p x
noncomputable def DY (K:PySem.W.Frag)(f:Bool->Bool):R2:=fun x y H Q=>∃F q a vs ps,y=.ref a/\Same F H/\RdV K F H q x/\(SqL K H a vs\/SqT K H a vs)/\Reps K F ps vs/\ay q=true/\az ps=true/\bP ps≤50/\Q (.bl (f (pin q ps))) H
theorem J2 (hu:X.A.units+64<cLine):OpR X (compareOp .In) (DY X.K id):=by
 intro pins s σ H x y v u Q I rx ry ⟨F,q,a,vs,ps,ey,sf,rq,hs,rs,hq,hp,hd,k⟩
 subst ey
 cases ry
 have dq:=oP I sf hq rq rx
 rcases hs with hs|hs
 ·obtain⟨its,rv,pl,hz⟩:=I.list hs
  have ds:=jc I sf hp rs rv
  refine in_listAt (GK s q) pl.isList (fun y hy=>kq hq dq hp (by show X.A.units+1+bP ps+1<cLine;omega) ds y (by simpa using hy)) ?_
  rw[List.any_toArray,jZ hp ds]
  exact⟨.bl _,H,I,rfl,k⟩
 ·obtain⟨its,rv,pl,hz⟩:=I.tuple hs
  have ds:=jc I sf hp rs rv
  refine in_tupleAt (GK s q) pl (fun y hy=>kq hq dq hp (by show X.A.units+1+bP ps+1<cLine;omega) ds y (by simpa using hy)) ?_
  rw[List.any_toArray,jZ hp ds]
  exact⟨.bl _,H,I,rfl,k⟩
theorem wK (hu:X.A.units+64<cLine):OpR X (compareOp .NotIn) (DY X.K (!·)):=by
 intro pins s σ H x y v u Q I rx ry ⟨F,q,a,vs,ps,ey,sf,rq,hs,rs,hq,hp,hd,k⟩
 subst ey
 cases ry
 have dq:=oP I sf hq rq rx
 rcases hs with hs|hs
 ·obtain⟨its,rv,pl,hz⟩:=I.list hs
  have ds:=jc I sf hp rs rv
  refine notIn_listAt (GK s q) pl.isList (fun y hy=>kq hq dq hp (by show X.A.units+1+bP ps+1<cLine;omega) ds y (by simpa using hy)) ?_
  rw[List.any_toArray,jZ hp ds]
  exact⟨.bl _,H,I,rfl,k⟩
 ·obtain⟨its,rv,pl,hz⟩:=I.tuple hs
  have ds:=jc I sf hp rs rv
  refine notIn_tupleAt (GK s q) pl (fun y hy=>kq hq dq hp (by show X.A.units+1+bP ps+1<cLine;omega) ds y (by simpa using hy)) ?_
  rw[List.any_toArray,jZ hp ds]
  exact⟨.bl _,H,I,rfl,k⟩
noncomputable def Rb:ij:=fun x y Q=>OkS y fun ps=>ay x=true/\az ps=true/\bP ps≤50/\Q (.bl (pin x ps))
noncomputable def BC:ij:=fun x y Q=>OkS y fun ps=>ay x=true/\az ps=true/\bP ps≤50/\Q (.bl (!pin x ps))
theorem MZ:eG X.K (DY X.K id) Rb:=fun F H x y p q Qp Q s rx ry h k=>by
 obtain⟨a,vs,ps,rfl,hs,_,rs,h⟩:=OkS.rd h s ry
 exact⟨F,p,a,vs,ps,rfl,s,rx,hs,rs,h.1,h.2.1,h.2.2.1,k _ _ F H h.2.2.2 (.refl s) rfl⟩
theorem AJ:eG X.K (DY X.K (!·)) BC:=fun F H x y p q Qp Q s rx ry h k=>by
 obtain⟨a,vs,ps,rfl,hs,_,rs,h⟩:=OkS.rd h s ry
 exact⟨F,p,a,vs,ps,rfl,s,rx,hs,rs,h.1,h.2.1,h.2.2.1,k _ _ F H h.2.2.2 (.refl s) rfl⟩
end
end Pu
end
section
namespace Pu
open PySem PySem.Spec L2
section
variable {X:Cx}{a b c e:Expr}{pos:Pos}{ta tb te:eC}{t:iH}
noncomputable abbrev sx:=List PV->(PV->Prop)->Prop
noncomputable abbrev Gj:=List PV->(List PV->Prop)->Prop
noncomputable def jH (K:PySem.W.Frag)(r:List V->Hp->VK->Prop)(g:sx):Prop:=∀F H xs ps (Qp:PV->Prop) (Q:VK),Same F H->RdVs K F H ps xs->g ps Qp->(∀z v F' H',Qp z->Grow F H F' H'->Rep K F' z v->Q v H')->r xs H Q
noncomputable def xZ (K:PySem.W.Frag)(r:List V->Hp->VK->Prop)(g:Gj):Prop:=∀F H xs ps (Qp:List PV->Prop) (Q:VK),Same F H->RdVs K F H ps xs->g ps Qp->(∀zs a vs F' H',Qp zs->Grow F H F' H'->H a=none->F' a=none->H' a=some (.lst vs)->Reps K F' zs vs->Q (.ref a) H')->r xs H Q
noncomputable def RD (g:sx)(t:iH):eC:=fun ρ Q=>t ρ fun ps=>g ps Q
noncomputable def RT (g:Gj)(t:iH):oH:=fun ρ Q=>t ρ fun ps=>g ps Q
theorem NP {r:List V->Hp->VK->Prop}{g:sx}(hr:jH X.K r g)(h:PE X e (Be r (lAT X.K t))):PuE X e (RD g t):=PE.weak h fun σ H Q hh_=>hh_.elim fun F ρ Qp er q k=>⟨F,ρ,_,er,q,fun ps vs F1 H1 h1 g1 r1=>
 hr F1 H1 vs ps Qp Q g1.fh r1 h1 fun z v F2 H2 h2 g2 r2=>k z v F2 H2 h2 (g1.trans g2) r2⟩
theorem zP {r:List V->Hp->VK->Prop}{g:Gj}(hr:xZ X.K r g)(h:PE X e (Be r (lAT X.K t))):PuN X e (RT g t):=PE.weak h fun σ H Q hh_=>hh_.elim fun F ρ Qp er q k=>⟨F,ρ,_,er,q,fun ps vs F1 H1 h1 g1 r1=>
 hr F1 H1 vs ps Qp Q g1.fh r1 h1 fun zs a vs F2 H2 h2 g2 h0 hF hH r2=>k zs a vs F2 H2 h2 (g1.trans g2) (g1.hh.free h0) hF hH r2⟩
noncomputable def One (ps:List PV)(Q:PV->Prop):Prop:=match ps with
 |[p]=>Q p
 |_=>False
noncomputable def Two (ps:List PV)(Q:PV->PV->Prop):Prop:=match ps with
 |[p,q]=>Q p q
 |_=>False
theorem One.rd {K:PySem.W.Frag}{F H:Hp}{ps:List PV}{xs:List V}{Q:PV->Prop}(h:One ps Q)(r:RdVs K F H ps xs):∃p v,ps=[p]/\xs=[v]/\RdV K F H p v/\Q p:=by
 unfold One at h
 split at h
 ·cases r with
  |cons r1 r2=>cases r2;exact⟨_,_,rfl,rfl,r1,h⟩
 ·exact h.elim
theorem Two.rd {K:PySem.W.Frag}{F H:Hp}{ps:List PV}{xs:List V}{Q:PV->PV->Prop}(h:Two ps Q)(r:RdVs K F H ps xs):∃p v p2 v2,ps=[p,p2]/\xs=[v,v2]/\RdV K F H p v/\RdV K F H p2 v2/\Q p p2:=by
 unfold Two at h
 split at h
 ·cases r with
  |cons r1 r2=>cases r2 with
   |cons r2 r3=>cases r3;exact⟨_,_,_,_,rfl,rfl,r1,r2,h⟩
 ·exact h.elim
noncomputable def Oi:sx:=fun ps Q=>One ps fun p=>match p with
 |.str z=>z.length≤sizeLine/\Q (.int z.length)
 |p=>OkS p fun ps=>Q (.int ps.length)
theorem Ip:jH X.K (fun xs H Q=>∃x n,xs=[x]/\IX X.K x H n/\Q (.int n) H) Oi:=fun F H xs ps Qp Q s r h k=>by
 obtain⟨p,v,rfl,rfl,r,h⟩:=h.rd r
 by_cases hz:∃z,p=.str z
 ·obtain⟨z,rfl⟩:=hz
  cases r with
  |frz r=>cases (show v=.str z from r);exact⟨_,z.length,rfl,⟨h.1,rfl⟩,k _ _ F H h.2 (.refl s) rfl⟩
 ·have h':OkS p fun ps=>Qp (.int ps.length):=by
   cases p<;>first|exact h|exact absurd ⟨_,rfl⟩ hz
  obtain⟨a,vs,ps,rfl,hs,_,rs,h⟩:=h'.rd s r
  refine⟨_,vs.length,rfl,?_,k _ _ F H h (.refl s) (by rw[rs.length];rfl)⟩
  rcases hs with hs|hs
  ·exact .inl ⟨vs,hs,rfl⟩
  ·exact .inr ⟨vs,hs,rfl⟩
noncomputable def Nm:sx:=fun ps Q=>One ps fun p=>OkI p fun i=>Q (.int (if i<0 then -i else i))
theorem IE:jH X.K (fun xs H Q=>∃i,xs=[.int i]/\Q (.int (if i<0 then -i else i)) H) Nm:=fun F H xs ps Qp Q s r h k=>by
 obtain⟨p,v,rfl,rfl,r,h⟩:=h.rd r
 obtain⟨i,rfl,rfl,h⟩:=h.rd r
 exact⟨i,rfl,k _ _ F H h (.refl s) rfl⟩
noncomputable def Gw:sx:=fun ps Q=>Two ps fun p q=>OkI p fun i=>OkI q fun j=>Q (.int (if j > i then j else i))
theorem D5:jH X.K (fun xs H Q=>∃i j,xs=[.int i,.int j]/\Q (.int (if j > i then j else i)) H) Gw:=fun F H xs ps Qp Q s r h k=>by
 obtain⟨p,v,p2,v2,rfl,rfl,r,r2,h⟩:=h.rd r
 obtain⟨i,rfl,rfl,h⟩:=h.rd r
 obtain⟨j,rfl,rfl,h⟩:=h.rd r2
 exact⟨i,j,rfl,k _ _ F H h (.refl s) rfl⟩
noncomputable def GF:sx:=fun ps Q=>Two ps fun p q=>OkI p fun i=>OkI q fun j=>Q (.int (if j<i then j else i))
theorem DP:jH X.K (fun xs H Q=>∃i j,xs=[.int i,.int j]/\Q (.int (if j<i then j else i)) H) GF:=fun F H xs ps Qp Q s r h k=>by
 obtain⟨p,v,p2,v2,rfl,rfl,r,r2,h⟩:=h.rd r
 obtain⟨i,rfl,rfl,h⟩:=h.rd r
 obtain⟨j,rfl,rfl,h⟩:=h.rd r2
 exact⟨i,j,rfl,k _ _ F H h (.refl s) rfl⟩
noncomputable def L7:sx:=fun ps Q=>One ps fun p=>match p with
 |.bl k=>Q (.int (if k then 1 else 0))
 |p=>OkI p fun i=>Q (.int i)
theorem Kh:jH X.K (fun xs H Q=>(∃i,xs=[.int i]/\Q (.int i) H)\/∃k,xs=[.bl k]/\Q (.int (if k then 1 else 0)) H) L7:=fun F H xs ps Qp Q s r h k=>by
 obtain⟨p,v,rfl,rfl,r,h⟩:=h.rd r
 by_cases hz:∃z,p=.bl z
 ·obtain⟨z,rfl⟩:=hz
  obtain⟨b,e,rfl,h⟩:=OkB.rd (p:=.bl z) (Q:=fun z=>Qp (.int (if z then 1 else 0))) h r
  exact .inr ⟨b,rfl,k _ _ F H h (.refl s) rfl⟩
 ·have h':OkI p fun i=>Qp (.int i):=by
   cases p<;>first|exact h|exact absurd ⟨_,rfl⟩ hz
  obtain⟨i,rfl,rfl,h⟩:=h'.rd r
  exact .inl ⟨i,rfl,k _ _ F H h (.refl s) rfl⟩
noncomputable def OkBs:List PV->(List Bool->Prop)->Prop
 |[],Q=>Q []
 |p::ps,Q=>OkB p fun b=>OkBs ps fun bs=>Q (b::bs)
theorem rf (bs:List Bool)(Q:List Bool->Prop):OkBs (bs.map PV.bl) Q=Q bs:=by
 induction bs generalizing Q with
 |nil=>rfl
 |cons b r ih=>
  show OkBs (r.map PV.bl) (fun bs=>Q (b::bs))=_
  rw[ih]
theorem OkBs.rd {K:PySem.W.Frag}{F:Hp}:∀{ps:List PV} {vs:List V} {Q:List Bool->Prop},OkBs ps Q->Reps K F ps vs->∃bs,vs=bs.map V.bl/\ps=bs.map PV.bl/\Q bs
 |[],_,_,h,r=>⟨[],r,rfl,h⟩
 |p::ps,_,Q,h,⟨v,t,e,r1,r2⟩=>by
  subst e
  obtain⟨b,rfl,rfl,h⟩:=OkB.rd (H:=F) h (.frz r1)
  obtain⟨bs,rfl,rfl,h'⟩:=OkBs.rd h r2
  exact⟨b::bs,rfl,rfl,h'⟩
noncomputable def NM:sx:=fun ps Q=>One ps fun p=>OkL p fun ps=>OkBs ps fun bs=>Q (.bl (bs.all id))
theorem Ku:jH X.K (fun xs H Q=>∃(p:Addr) (bs:List Bool),xs=[.ref p]/\SqL X.K H p (bs.map V.bl)/\Q (.bl (bs.all id)) H) NM:=fun F H xs ps Qp Q s r h k=>by
 obtain⟨p,v,rfl,rfl,r,h⟩:=h.rd r
 obtain⟨a,vs,ps,rfl,hs,rs,h⟩:=h.rd s r
 obtain⟨bs,rfl,rfl,h'⟩:=h.rd rs
 exact⟨a,bs,rfl,hs,k (.bl _) _ F H h' (.refl s) rfl⟩
noncomputable def Oh:sx:=fun ps Q=>One ps fun p=>OkL p fun ps=>OkBs ps fun bs=>Q (.bl (bs.any id))
theorem K0:jH X.K (fun xs H Q=>∃(p:Addr) (bs:List Bool),xs=[.ref p]/\SqL X.K H p (bs.map V.bl)/\Q (.bl (bs.any id)) H) Oh:=fun F H xs ps Qp Q s r h k=>by
 obtain⟨p,v,rfl,rfl,r,h⟩:=h.rd r
 obtain⟨a,vs,ps,rfl,hs,rs,h⟩:=h.rd s r
 obtain⟨bs,rfl,rfl,h'⟩:=h.rd rs
 exact⟨a,bs,rfl,hs,k (.bl _) _ F H h' (.refl s) rfl⟩
noncomputable def Od:sx:=fun ps Q=>One ps fun p=>match p with
 |.tup ps=>Q (.tup ps)
 |p=>OkL p fun ps=>Q (.tup ps)
theorem JF:jH X.K (fun xs H Q=>∃p ys,xs=[.ref p]/\((SqL X.K H p ys/\∀l,H l=none->Q (.ref l) (upd H l (.tup ys)))\/(SqT X.K H p ys/\Q (.ref p) H))) Od:=fun F H xs ps Qp Q s r h k=>by
 obtain⟨p,v,rfl,rfl,r,h⟩:=h.rd r
 by_cases hz:∃z,p=.tup z
 ·obtain⟨z,rfl⟩:=hz
  cases r with
  |frz r=>
   obtain⟨a,vs,rfl,e,rs⟩:=r
   exact⟨a,vs,rfl,.inr ⟨SqT.of (s _ _ e),k _ _ F H h (.refl s) ⟨a,vs,rfl,e,rs⟩⟩⟩
 ·have h':OkL p fun ps=>Qp (.tup ps):=by
   cases p<;>first|exact h|exact absurd ⟨_,rfl⟩ hz
  obtain⟨a,vs,ps,rfl,hs,rs,h⟩:=h'.rd s r
  exact⟨a,vs,rfl,.inl ⟨hs,fun l hl=>k _ _ _ _ h (.new s hl _) ⟨l,vs,rfl,ah,rs.mono (aM (s.free hl) _)⟩⟩⟩
noncomputable def NA:Gj:=fun ps Q=>One ps fun p=>OkS p Q
theorem J1:xZ X.K (fun xs H Q=>∃p ys,xs=[.ref p]/\(SqL X.K H p ys\/SqT X.K H p ys)/\∀l,H l=none->Q (.ref l) (upd H l (.lst ys))) NA:=fun F H xs ps Qp Q s r h k=>by
 obtain⟨p,v,rfl,rfl,r,h⟩:=h.rd r
 obtain⟨a,vs,ps,rfl,hs,_,rs,h⟩:=h.rd s r
 exact⟨a,vs,rfl,hs,fun l hl=>k ps l vs F _ h (.newO s hl _) hl (s.free hl) ah rs⟩
noncomputable def nQ (lo:Int)(n:Nat):List PV:=(List.range n).map fun i:Nat=>PV.int (lo+i)
theorem lG {K:PySem.W.Frag}{F:Hp}:∀(l:List Nat),Reps K F (l.map fun i:Nat=>PV.int (0+i)) (l.map fun i:Nat=>V.int (i:Int))
 |[]=>rfl
 |x::l=>⟨_,_,rfl,by show Rep K F (PV.int (0+(x:Int))) (V.int x);rw[Int.zero_add];rfl,lG l⟩
noncomputable def Nx:sx:=fun ps Q=>One ps fun p=>OkI p fun j=>-(2 ^ 62)≤j/\j<2 ^ 62/\Q (.rng 0 j)
theorem KF:jH X.K Gq Nx:=fun F H xs ps Qp Q s r h k=>by
 obtain⟨p,v,rfl,rfl,r,h⟩:=h.rd r
 obtain⟨j,rfl,rfl,h1,h2,h⟩:=h.rd r
 exact⟨j,rfl,h1,h2,fun p hp=>k _ _ _ _ h (.new s hp _) ⟨p,rfl,ah⟩⟩
noncomputable def Rn:PV->(Int->Prop)->Prop
 |.rng lo j,Q=>lo=0/\Q j
 |_,_=>False
noncomputable def GE:Gj:=fun ps Q=>One ps fun p=>Rn p fun j=>0≤j/\j≤1000000/\Q (nQ 0 j.toNat)
theorem Fx:xZ X.K (fun xs H Q=>∃p j,xs=[.ref p]/\H p=some (.rng 0 j)/\0≤j/\j≤1000000/\∀l,H l=none->Q (.ref l) (upd H l (.lst (mK j.toNat)))) GE:=fun F H xs ps Qp Q s r h k=>by
 obtain⟨p,v,rfl,rfl,r,h⟩:=h.rd r
 cases p<;>first|exact h.elim|skip
 obtain⟨rfl,h1,h2,h⟩:=h
 cases r with
 |frz r=>
  obtain⟨a,rfl,e⟩:=r
  exact⟨a,_,rfl,s _ _ e,h1,h2,fun l hl=>k _ l _ F _ h (.newO s hl _) hl (s.free hl) ah (lG _)⟩
noncomputable def OY (n:String):PV->Option Bool
 |.non=>some false
 |.bl _=>some (n == "bool" || n == "int")
 |.int _=>some (n == "int")
 |.str _=>some (n == "str")
 |.tup _=>some (n == "tuple")
 |.lst _=>some (n == "list")
 |.dct _ _=>some (n == "dict")
 |_=>none
noncomputable def Pl:PV->(String->Prop)->Prop
 |.ty n,Q=>Q n
 |_,_=>False
noncomputable def NY:sx:=fun ps Q=>Two ps fun p q=>Pl q fun n=>(n = "int"\/n = "bool"\/n = "str"\/n = "tuple"\/n = "list"\/n = "dict")/\OkO (OY n p) fun b=>Q (.bl b)
theorem Kn:jH X.K (fun xs H Q=>∃x n t b,xs=[x,.ty n]/\TyOf X.K H x t/\PySem.W.kitOne X.K t (.type n)=some b/\Q (.bl b) H) NY:=fun F H xs ps Qp Q s r h k=>by
 obtain⟨p,v,p2,v2,rfl,rfl,r1,r2,h⟩:=h.rd r
 clear r
 obtain⟨n,rfl,hn,h⟩:∃n,p2=.ty n/\(n = "int"\/n = "bool"\/n = "str"\/n = "tuple"\/n = "list"\/n = "dict")/\OkO (OY n p) fun b=>Qp (.bl b):=by
  cases p2 with
  |ty n=>exact⟨n,rfl,h⟩
  |_=>exact h.elim
 obtain⟨b,e,h⟩:=h.ex
 cases r2 with
 |frz r2=>
  cases (show v2=.ty n from r2)
  have fin:∀t,TyOf X.K H v t->PySem.W.kitOne X.K t (.type n)=some b->∃x n' t b,[v,V.ty n]=[x,.ty n']/\TyOf X.K H x t/\PySem.W.kitOne X.K t (.type n')=some b/\Q (.bl b) H:=fun t h1 h2=>⟨v,n,t,b,rfl,h1,h2,k _ _ F H h (.refl s) rfl⟩
  cases r1 with
  |frz r=>
   cases p with
   |non=>cases (show v=_ from r);refine fin _ .non ?_;rcases hn with rfl|rfl|rfl|rfl|rfl|rfl<;>exact e
   |bl x=>cases (show v=_ from r);refine fin _ (.bl x) ?_;rcases hn with rfl|rfl|rfl|rfl|rfl|rfl<;>exact e
   |int x=>cases (show v=_ from r);refine fin _ (.int x) ?_;rcases hn with rfl|rfl|rfl|rfl|rfl|rfl<;>exact e
   |str x=>cases (show v=_ from r);refine fin _ (.str x) ?_;rcases hn with rfl|rfl|rfl|rfl|rfl|rfl<;>exact e
   |tup x=>obtain⟨a,vs,rfl,e',_⟩:=r;refine fin _ (.tup (s _ _ e')) ?_;rcases hn with rfl|rfl|rfl|rfl|rfl|rfl<;>exact e
   |lst x=>obtain⟨a,vs,rfl,e',_⟩:=r;refine fin _ (.lst (s _ _ e')) ?_;rcases hn with rfl|rfl|rfl|rfl|rfl|rfl<;>exact e
   |dct x y=>obtain⟨a,vs,rfl,e',_⟩:=r;refine fin _ (.dK (s _ _ e')) ?_;rcases hn with rfl|rfl|rfl|rfl|rfl|rfl<;>exact e
   |_=>cases e
  |own h1 h2 h3=>refine fin _ (.lst h1) ?_;rcases hn with rfl|rfl|rfl|rfl|rfl|rfl<;>exact e
  |dic h1 h2 h3 h4=>refine fin _ (.dK h1) ?_;rcases hn with rfl|rfl|rfl|rfl|rfl|rfl<;>exact e
end
end Pu
end
section
namespace Pu
open PySem PySem.Spec L2
noncomputable abbrev qc:=PV->al->(al->Prop)->Prop
noncomputable abbrev qa:=List PV->al->(al->Prop)->Prop
inductive VUpd (K:PySem.W.Frag) (F:Hp):L2.St->al->L2.St->al->Prop where
 |refl {σ:L2.St} {ρ:al}:VUpd K F σ ρ σ ρ
 |step {σ σ1:L2.St} {ρ ρ1:al} {i:Nat} {p:PV} {v:V}:VUpd K F σ ρ σ1 ρ1->Rep K F p v->VUpd K F σ ρ (σ1.set i (some v)) (ρ1.set i (some (.val p)))
theorem VUpd.trans {K:PySem.W.Frag}{F:Hp}{σ σ1 σ2:L2.St}{ρ ρ1 ρ2:al}(a:VUpd K F σ ρ σ1 ρ1)(b:VUpd K F σ1 ρ1 σ2 ρ2):VUpd K F σ ρ σ2 ρ2:=by
 induction b with
 |refl=>exact a
 |step _ r ih=>exact .step (ih a) r
theorem ER.set {K:PySem.W.Frag}{F H:Hp}{σ:L2.St}{ρ:al}(h:ER K F H σ ρ){i:Nat}{v:V}{s:Sl}(r:SlR K F H (some v) (some s)):ER K F H (σ.set i (some v)) (ρ.set i (some s)):=by
 refine⟨h.fz,by rw[List.length_set,List.length_set];exact h.len,fun j s' e=>?_⟩
 by_cases hij:i=j
 ·subst hij
  have hi:i<ρ.length:=by
   have:=(List.getElem?_eq_some_iff.mp e).1
   rwa [List.length_set] at this
  rw[List.getElem?_set_self hi] at e
  rw[List.getElem?_set_self (by rw[h.len];exact hi)]
  cases e
  exact r
 ·rw[List.getElem?_set_ne hij] at e ⊢
  exact h.sl j s' e
theorem ER.upd {K:PySem.W.Frag}{F H:Hp}{σ σ':L2.St}{ρ ρ':al}(h:ER K F H σ ρ)(u:VUpd K F σ ρ σ' ρ'):ER K F H σ' ρ':=by
 induction u with
 |refl=>exact h
 |step _ r ih=>exact (ih h).set r
noncomputable def fH (K:PySem.W.Frag)(g0:TG)(g:qc):Prop:=∀F H σ ρ p v (Qp:al->Prop) (Q:L2.St->Hp->Prop),Same F H->Rep K F p v->g p ρ Qp->(∀σ' ρ',Qp ρ'->VUpd K F σ ρ σ' ρ'->Q σ' H)->g0 v σ H Q
noncomputable def jh (K:PySem.W.Frag)(g0:tX)(g:qa):Prop:=∀F H σ ρ ps vs (Qp:al->Prop) (Q:L2.St->Hp->Prop),Same F H->Reps K F ps vs->g ps ρ Qp->(∀σ' ρ',Qp ρ'->VUpd K F σ ρ σ' ρ'->Q σ' H)->g0 vs σ H Q
noncomputable def N9 (i:Nat):qc:=fun p ρ Q=>Q (ρ.set i (some (.val p)))
noncomputable def PQ:qa:=fun ps ρ Q=>match ps with
 |[]=>Q ρ
 |_=>False
noncomputable def LV (g:qc)(gs:qa):qa:=fun ps ρ Q=>match ps with
 |p::ps=>g p ρ fun ρ'=>gs ps ρ' Q
 |[]=>False
noncomputable def PB (n:Nat)(gs:qa):qc:=fun p ρ Q=>OkT p fun ps=>ps.length=n/\gs ps ρ Q
theorem Dt {K:PySem.W.Frag}{i:Nat}:fH K (dm i) (N9 i):=fun F H σ ρ p v Qp Q s r h k=>k _ _ h (.step .refl r)
theorem Im {K:PySem.W.Frag}:jh K Fy PQ:=fun F H σ ρ ps vs Qp Q s r h k=>by
 cases ps with
 |nil=>exact⟨r,k _ _ h .refl⟩
 |cons p ps=>exact h.elim
theorem Dk {K:PySem.W.Frag}{g0:TG}{g:qc}{gs0:tX}{gs:qa}(h1:fH K g0 g)(h2:jh K gs0 gs):jh K (vB g0 gs0) (LV g gs):=fun F H σ ρ ps vs Qp Q s r h k=>by
 cases ps with
 |nil=>exact h.elim
 |cons p ps=>
  obtain⟨v,t,rfl,r1,r2⟩:=r
  exact⟨v,t,rfl,h1 F H σ ρ p v _ _ s r1 h fun σ' ρ' q u=>h2 F H σ' ρ' ps t Qp Q s r2 q fun σ2 ρ2 q2 u2=>k σ2 ρ2 q2 (u.trans u2)⟩
theorem Jf {K:PySem.W.Frag}{n:Nat}{gs0:tX}{gs:qa}(h:jh K gs0 gs):fH K (FP K n gs0) (PB n gs):=fun F H σ ρ p v Qp Q s r hq k=>by
 obtain⟨a,vs,ps,rfl,rfl,e,rs,hn,hq⟩:=OkT.rd (H:=H) hq (.frz r)
 exact⟨a,vs,rfl,SqT.of (s _ _ e),by rw[rs.length];exact hn,h F H σ ρ ps vs Qp Q s rs hq k⟩
noncomputable abbrev nS:=al->(List PV->Prop)->Prop
noncomputable def HZ (K:PySem.W.Frag)(F:Hp)(J:It)(its:List PV):Prop:=∀F1 H1 (i:Nat),Same F F1->Same F1 H1 →
 (∀p,its[i]?=some p->J.go i H1/\∀x H2,J.yld i H1 x H2->∃F2,Grow F1 H1 F2 H2/\Rep K F2 p x)/\(its.length≤i->J.stop i H1)
noncomputable def lI (K:PySem.W.Frag)(ti:nS):TI:=fun σ H R=>∃F ρ,∃Qp:List PV->Prop,ER K F H σ ρ/\ti ρ Qp/\∀its J F' H',Qp its->Grow F H F' H'->HZ K F' J its->R J H'
theorem lI.elim {K:PySem.W.Frag}{ti:nS}{σ:St}{H:Hp}{R}{C:Prop}(h:lI K ti σ H R)(k:∀F ρ (Qp:List PV->Prop),ER K F H σ ρ->ti ρ Qp->(∀its J F' H',Qp its->Grow F H F' H'->HZ K F' J its->R J H')->C):C:=by obtain⟨F,ρ,Qp,a,b,c⟩:=h;exact k F ρ Qp a b c
noncomputable def yx (X:Cx)(tg iter:Expr)(ti:nS):Prop:=PI X tg iter (lI X.K ti)
section
variable {X:Cx}{a b c e l tg iter elt:Expr}{pos:Pos}{ta tb te tl:eC}{t:iH}
noncomputable def NQ (tl:eC):nS:=fun ρ Q=>tl ρ fun p=>OkL p Q
noncomputable def Qi (p:PV)(Q:List PV->Prop):Prop:=match p with
 |.tup ps=>Q ps
 |.ktu ps=>Q ps
 |_=>False
noncomputable def PZ (tl:eC):nS:=fun ρ Q=>tl ρ fun p=>Qi p Q
theorem AW (hl:PuE X l tl):yx X tg l (NQ tl):=PI.weak (v6 hl) fun σ H R hh_=>hh_.elim fun F ρ Qp er q k=>⟨F,ρ,_,er,q,fun p v F1 H1 h1 g1 r1=>by
 obtain⟨a,vs,ps,rfl,hs,rs,h⟩:∃a vs ps,v=.ref a/\SqL X.K F1 a vs/\Reps X.K F1 ps vs/\Qp ps:=by
  cases p with
  |lst ps=>obtain⟨a,vs,rfl,e,rs⟩:=r1;exact⟨a,vs,ps,rfl,SqL.of e,rs,h1⟩
  |src ps=>obtain⟨a,vs,rfl,e,rs⟩:=r1;exact⟨a,vs,ps,rfl,e,rs,h1⟩
  |_=>exact h1.elim
 refine⟨a,rfl,⟨vs,g1.fh.seq hs⟩,k ps _ F1 H1 h g1 fun F2 H2 i s1 s2=>?_⟩
 have h2:=(s1.trans s2).seq hs
 refine⟨fun p e=>?_,fun hl=>⟨vs,h2,by rw[rs.length];exact hl⟩⟩
 obtain⟨v,ev,rv⟩:=rs.get e
 refine⟨⟨vs,v,h2,ev⟩,fun x H3 ⟨e2,y⟩=>?_⟩
 subst e2
 have:=y vs h2
 rw[ev] at this
 cases this
 exact⟨F2,.refl s2,rv.mono s1⟩⟩
theorem Ey (hl:PuE X l tl):yx X tg l (PZ tl):=PI.weak (Kb hl) fun σ H R hh_=>hh_.elim fun F ρ Qp er q k=>⟨F,ρ,_,er,q,fun p v F1 H1 h1 g1 r1=>by
 obtain⟨a,vs,ps,rfl,hs,rs,h⟩:∃a vs ps,v=.ref a/\SqT X.K F1 a vs/\Reps X.K F1 ps vs/\Qp ps:=by
  cases p with
  |tup ps=>obtain⟨a,vs,rfl,e,rs⟩:=r1;exact⟨a,vs,ps,rfl,SqT.of e,rs,h1⟩
  |ktu ps=>obtain⟨a,vs,rfl,e,rs⟩:=r1;exact⟨a,vs,ps,rfl,e,rs,h1⟩
  |_=>exact h1.elim
 refine⟨a,rfl,⟨vs,x0 g1.fh hs⟩,k ps _ F1 H1 h g1 fun F2 H2 i s1 s2=>?_⟩
 have h2:=x0 (s1.trans s2) hs
 refine⟨fun p e=>?_,fun hl=>⟨vs,h2,by rw[rs.length];exact hl⟩⟩
 obtain⟨v,ev,rv⟩:=rs.get e
 refine⟨⟨vs,v,h2,ev⟩,fun x H3 ⟨e2,y⟩=>?_⟩
 subst e2
 have:=y vs h2
 rw[ev] at this
 cases this
 exact⟨F2,.refl s2,rv.mono s1⟩⟩
theorem sM {K:PySem.W.Frag}{F:Hp}{lo:Int}{n:Nat}:HZ K F (CP lo n) (nQ lo n):=fun F1 H1 i s1 s2=>by
 refine⟨fun p e=>?_,fun hl=>by show n≤i;simpa [nQ] using hl⟩
 unfold nQ at e
 rw[List.getElem?_map] at e
 obtain⟨k,ek,rfl⟩:=Option.map_eq_some_iff.mp e
 obtain⟨hk,rfl⟩:=List.getElem?_eq_some_iff.mp ek
 refine⟨by show i<n;simpa using hk,fun x H2 ⟨e2,y⟩=>?_⟩
 subst e2 y
 exact⟨F1,.refl s2,by rw[List.getElem_range];rfl⟩
noncomputable def Om (t:iH):nS:=fun ρ Q=>t ρ fun ps=>One ps fun p=>OkI p fun j=>-(2 ^ 62)≤j/\j<2 ^ 62/\Q (nQ 0 j.toNat)
noncomputable def Nj (t:iH):nS:=fun ρ Q=>t ρ fun ps=>Two ps fun p q=>OkI p fun i=>OkI q fun j=>(-(2 ^ 62)≤i/\i<2 ^ 62/\-(2 ^ 62)≤j/\j<2 ^ 62)/\Q (nQ i (j - i).toNat)
theorem AX (h:PI X tg iter (rl (lAT X.K t))):yx X tg iter (Om t):=PI.weak h fun σ H R hh_=>hh_.elim fun F ρ Qp er q k=>⟨F,ρ,_,er,q,fun ps vs F1 H1 h1 g1 r1=>by
 obtain⟨p,v,rfl,rfl,r,h⟩:=h1.rd r1
 obtain⟨j,rfl,rfl,h1,h2,h⟩:=h.rd r
 exact⟨j,rfl,h1,h2,k _ _ F1 H1 h g1 sM⟩⟩
theorem zE (h:PI X tg iter (AM (lAT X.K t))):yx X tg iter (Nj t):=PI.weak h fun σ H R hh_=>hh_.elim fun F ρ Qp er q k=>⟨F,ρ,_,er,q,fun ps vs F1 H1 h1 g1 r1=>by
 obtain⟨p,v,p2,v2,rfl,rfl,r,r2,h⟩:=h1.rd r1
 obtain⟨i,rfl,rfl,h⟩:=h.rd r
 obtain⟨j,rfl,rfl,h1,h⟩:=h.rd r2
 exact⟨i,j,rfl,h1,k _ _ F1 H1 h g1 sM⟩⟩
noncomputable def iK (fm:List (Option Nat))(ρ:al):al:=fm.map fun o=>o.bind fun j=>(ρ[j]?).join
theorem ER.sub {K:PySem.W.Frag}{F H:Hp}{σ:L2.St}{ρ:al}(h:ER K F H σ ρ)(fm:List (Option Nat)):ER K F H (iJ fm σ) (iK fm ρ):=by
 refine⟨h.fz,by unfold iJ iK;rw[List.length_map,List.length_map],fun i s e=>?_⟩
 unfold iK at e
 rw[List.getElem?_map] at e
 obtain⟨o,eo,e⟩:=Option.map_eq_some_iff.mp e
 cases o with
 |none=>cases e
 |some j=>
  have e':(ρ[j]?).join=some s:=e
  have e2:ρ[j]?=some (some s):=by
   cases q:ρ[j]? with
   |none=>rw[q] at e';cases e'
   |some z=>rw[q] at e';rw[show z=some s from e']
  have:=h.sl j s e2
  unfold iJ
  rw[List.getElem?_map,eo]
  exact this
noncomputable def LJ (g:qc)(tc:jM)(te:eC)(ρ:al):List PV->List PV->(List PV->Prop)->Prop
 |[],acc,Q=>Q acc
 |v::vs,acc,Q=>g v ρ fun ρ2=>tc ρ2 fun b=>if b=true then te ρ2 fun y=>LJ g tc te ρ vs (acc++[y]) Q else LJ g tc te ρ vs acc Q
noncomputable def oQ (fm:List (Option Nat))(ti:nS)(g:qc)(tc:jM)(te:eC):oH:=fun ρ Q=>ti ρ fun its=>its.length<1000/\LJ g tc te (iK fm ρ) its [] Q
noncomputable def Mx:jM:=fun _ Q=>Q true
theorem B0 {K:PySem.W.Frag}:∀σ H Q,lB K Mx σ H Q->Hm σ H Q:=fun σ H Q hh_=>hh_.elim fun F ρ Qp er q k=>k _ F H q (.refl er.fz)
theorem PIf.weak {X:Cx}{ifs:List Expr}{t t':TT}(h:PIf X ifs t)(w:∀σ H Q,t' σ H Q->t σ H Q):PIf X ifs t':=fun pins s σ H Q I q=>h pins s σ H Q I (w σ H Q q)
noncomputable def JC (X:Cx)(ifs:List Expr)(tc:jM):Prop:=PIf X ifs (lB X.K tc)
theorem y8:JC X [] Mx:=PIf.weak vJ B0
theorem AH {tc:jM}(h:PuB X c tc):JC X [c] tc:=Ee h
theorem ly {K:PySem.W.Frag}{fm:List (Option Nat)}{ti:nS}{g0:TG}{g:qc}{tc:jM}(hg:fH K g0 g):∀σ H Q,lN K (oQ fm ti g tc te) σ H Q->gJ fm (lI K ti) g0 (lB K tc) (lE K te) σ H Q:=fun σ H Q hh_=>hh_.elim fun F ρ Qp er q k=>
 ⟨F,ρ,_,er,q,fun its J F1 H1 ⟨hlen,h1⟩ g1 it=>by
  refine⟨fun i ys H'=>∃F' acc,Grow F1 H1 F' H'/\Reps K F' acc ys/\i≤its.length/\acc.length≤i/\LJ g tc te (iK fm ρ) (its.drop i) acc Qp,its.length,⟨F1,[],.refl g1.fh,rfl,Nat.zero_le _,Nat.le_refl _,h1⟩,?_,?_⟩
  ·rintro i ys H' ⟨F',acc,g2,rs,hi,ha,_⟩
   refine⟨hi,oM ?_⟩
   rw[rs.length];omega
  ·rintro i ys H' ⟨F',acc,g2,rs,hi,ha,h2⟩
   obtain⟨it1,it2⟩:=it F' H' i g2.ff g2.fh
   by_cases hl:i<its.length
   ·obtain⟨go,yl⟩:=it1 _ (List.getElem?_eq_getElem hl)
    refine .inr ⟨go,fun x H2 hy=>?_⟩
    obtain⟨F2,g3,rx⟩:=yl x H2 hy
    rw[List.drop_eq_getElem_cons hl] at h2
    have er2:ER K F2 H2 (iJ fm σ) (iK fm ρ):=(er.grow ((g1.trans g2).trans g3)).sub fm
    refine hg F2 H2 (iJ fm σ) (iK fm ρ) _ x _ _ g3.fh rx h2 fun σ2 ρ2 h3 u=>?_
    refine⟨F2,ρ2,_,er2.upd u,h3,fun b F3 H3 h4 g4=>?_⟩
    cases b with
    |true=>
     rw[if_pos rfl] at h4 ⊢
     refine⟨F3,ρ2,_,(er2.upd u).grow g4,h4,fun y v F4 H4 h5 g5 ry=>?_⟩
     have gg:=((g2.trans g3).trans g4).trans g5
     exact⟨F4,acc++[y],gg,(rs.mono ((g3.ff.trans g4.ff).trans g5.ff)).app (.one ry),hl,by rw[List.length_append];simp;omega,h5⟩
    |false=>
     rw[if_neg Bool.false_ne_true] at h4 ⊢
     exact⟨F3,acc,(g2.trans g3).trans g4,rs.mono (g3.ff.trans g4.ff),hl,by omega,h4⟩
   ·have e:its.drop i=[]:=List.drop_eq_nil_of_le (by omega)
    rw[e] at h2
    exact .inl ⟨it2 (by omega),fun l hl=>k acc l ys F' _ h2 ((g1.trans g2).trans (.newO g2.fh hl _)) ((g1.trans g2).hh.free hl) (g2.fh.free hl) ah rs⟩⟩
theorem CW {K:PySem.W.Frag}{fm:List (Option Nat)}{ti:nS}{g0:TG}{g:qc}{tc:jM}(hg:fH X.K g0 g)(h:PE X e (gJ fm (lI X.K ti) g0 (lB X.K tc) (lE X.K te))):PuN X e (oQ fm ti g tc te):=PE.weak h (ly hg)
end
end Pu
end
section
namespace Pu
open PySem PySem.Spec L2
noncomputable def sj:Sl->Bool
 |.val _=>false
 |_=>true
noncomputable def jb (σ:L2.St)(ρ:al)(i:Nat)(a:Addr):Prop:=(∃s,ρ[i]?=some (some s)/\sj s=true)/\σ[i]?=some (some (.ref a))
structure BR (K:PySem.W.Frag)(F0 H0 F H:Hp)(σ:L2.St)(ρ:al):Prop where
 er:ER K F H σ ρ
 gr:Grow F0 H0 F H
 ow:∀i a,jb σ ρ i a->H0 a=none
 dj:∀i j a,jb σ ρ i a->jb σ ρ j a->i=j
section
variable {K:PySem.W.Frag}{F0 H0 F H F' H':Hp}{σ σ':L2.St}{ρ ρ':al}
theorem BR.grow (h:BR K F0 H0 F H σ ρ)(g:Grow F H F' H'):BR K F0 H0 F' H' σ ρ:=⟨h.er.grow g,h.gr.trans g,h.ow,h.dj⟩
theorem dc {i j:Nat}{v:V}{s:Sl}{a:Addr}(h:jb (σ.set i (some v)) (ρ.set i (some s)) j a):(i=j/\sj s=true/\v=.ref a)\/(i≠j/\jb σ ρ j a):=by
 obtain⟨⟨s',e,hs⟩,e2⟩:=h
 by_cases hij:i=j
 ·subst hij
  have hi:i<ρ.length:=by
   have:=(List.getElem?_eq_some_iff.mp e).1
   rwa [List.length_set] at this
  have hi2:i<σ.length:=by
   have:=(List.getElem?_eq_some_iff.mp e2).1
   rwa [List.length_set] at this
  rw[List.getElem?_set_self hi] at e
  rw[List.getElem?_set_self hi2] at e2
  cases e
  cases e2
  exact .inl ⟨rfl,hs,rfl⟩
 ·rw[List.getElem?_set_ne hij] at e e2
  exact .inr ⟨hij,⟨s',e,hs⟩,e2⟩
theorem BR.setV (h:BR K F0 H0 F H σ ρ){i:Nat}{p:PV}{v:V}(r:Rep K F p v):BR K F0 H0 F H (σ.set i (some v)) (ρ.set i (some (.val p))):=by
 refine⟨h.er.set r,h.gr,fun j a o=>?_,fun j k a o o'=>?_⟩
 ·rcases dc o with ⟨_,z,_⟩|⟨_,o⟩
  ·exact absurd z Bool.false_ne_true
  ·exact h.ow j a o
 ·rcases dc o with ⟨_,z,_⟩|⟨_,o⟩
  ·exact absurd z Bool.false_ne_true
  ·rcases dc o' with ⟨_,z,_⟩|⟨_,o'⟩
   ·exact absurd z Bool.false_ne_true
   ·exact h.dj j k a o o'
theorem BR.upd (h:BR K F0 H0 F H σ ρ)(u:VUpd K F σ ρ σ' ρ'):BR K F0 H0 F H σ' ρ':=by
 induction u with
 |refl=>exact h
 |step _ r ih=>exact (ih h).setV r
theorem ER.live (h:ER K F H σ ρ){i:Nat}{a:Addr}(o:jb σ ρ i a):F a=none/\∃u,H a=some u:=by
 obtain⟨⟨s,e,hs⟩,e2⟩:=o
 have:=h.sl i s e
 rw[e2] at this
 cases s with
 |val p=>exact absurd hs Bool.false_ne_true
 |own ps=>obtain⟨a',vs,e',h1,h2,_⟩:=this;cases e';exact⟨h2,_,h1⟩
 |dic ks ps=>obtain⟨a',vs,e',h1,h2,_⟩:=this;cases e';exact⟨h2,_,h1⟩
theorem BR.setN (h:BR K F0 H0 F H σ ρ)(g:Grow F H F' H'){i:Nat}{a:Addr}{vs:List V}{ps:List PV}(h0:H a=none)(hF:F' a=none)(hH:H' a=some (.lst vs))(r:Reps K F' ps vs) :
  BR K F0 H0 F' H' (σ.set i (some (.ref a))) (ρ.set i (some (.own ps))):=by
 have h':=h.grow g
 refine⟨h'.er.set ⟨a,vs,rfl,hH,hF,r⟩,h'.gr,fun j b o=>?_,fun j k b o o'=>?_⟩
 ·rcases dc o with ⟨_,_,z⟩|⟨_,o⟩
  ·cases z;exact h.gr.hh.free h0
  ·exact h.ow j b o
 ·have ne:∀{m:Nat},jb σ ρ m b->b≠a:=fun {m} o e=>by
   obtain⟨_,u,hu⟩:=h.er.live o
   subst e
   rw[h0] at hu;cases hu
  rcases dc o with ⟨e1,_,z⟩|⟨_,o⟩
  ·rcases dc o' with ⟨e2,_,_⟩|⟨_,o'⟩
   ·exact e1.symm.trans e2
   ·cases z;exact absurd rfl (ne o')
  ·rcases dc o' with ⟨e2,_,z⟩|⟨_,o'⟩
   ·cases z;exact absurd rfl (ne o)
   ·exact h.dj j k b o o'
theorem pq {i:Nat}{v:V}(e:σ[i]?=some (some v)):σ.set i (some v)=σ:=by
 apply List.ext_getElem?
 intro j
 by_cases hij:i=j
 ·subst hij
  rw[List.getElem?_set_self (List.getElem?_eq_some_iff.mp e).1,e]
 ·rw[List.getElem?_set_ne hij]
theorem BR.mut (h:BR K F0 H0 F H σ ρ){i:Nat}{a:Addr}{u:HO}{s:Sl}(o:jb σ ρ i a)(hs:sj s=true)(r:SlR K F (L2.upd H a u) (some (.ref a)) (some s)):BR K F0 H0 F (L2.upd H a u) σ (ρ.set i (some s)):=by
 obtain⟨hF,u0,hu⟩:=h.er.live o
 have h0:H0 a=none:=h.ow i a o
 have e2:=o.2
 refine⟨⟨fun b w e=>?_,by rw[List.length_set];exact h.er.len,fun j s' e=>?_⟩,⟨fun b w e=>?_,h.gr.ff,fun b w e=>?_,h.gr.nw⟩,fun j b o'=>?_,fun j k b o' o''=>?_⟩
 ·have:b≠a:=fun z=>by subst z;rw[hF] at e;cases e
  rw[ai this];exact h.er.fz b w e
 ·by_cases hij:i=j
  ·subst hij
   have hi:i<ρ.length:=by
    have:=(List.getElem?_eq_some_iff.mp e).1
    rwa [List.length_set] at this
   rw[List.getElem?_set_self hi] at e
   cases e
   rw[e2]
   exact r
  ·rw[List.getElem?_set_ne hij] at e
   have old:=h.er.sl j s' e
   obtain⟨v,ev,_⟩:=h.er.rd e
   rw[ev] at old ⊢
   have ne:∀b,sj s'=true->v=.ref b->b≠a:=fun b hb hv z=>by
    subst hv z
    exact hij (h.dj i j b o ⟨⟨s',e,hb⟩,ev⟩)
   cases s' with
   |val p=>exact old
   |own ps=>obtain⟨b,vs,e',h1,h2,h3⟩:=old;cases e';exact⟨b,vs,rfl,by rw[ai (ne b rfl rfl)];exact h1,h2,h3⟩
   |dic ks ps=>obtain⟨b,vs,e',h1,h2,h3,h4⟩:=old;cases e';exact⟨b,vs,rfl,by rw[ai (ne b rfl rfl)];exact h1,h2,h3,h4⟩
 ·have:b≠a:=fun z=>by subst z;rw[h0] at e;cases e
  rw[ai this];exact h.gr.hh b w e
 ·have:b≠a:=fun z=>by subst z;rw[hF] at e;cases e
  rw[ai this];exact h.gr.fh b w e
 ·rw[←pq e2] at o'
  rcases dc o' with ⟨_,_,z⟩|⟨_,o'⟩
  ·cases z;exact h0
  ·exact h.ow j b o'
 ·rw[←pq e2] at o' o''
  rcases dc o' with ⟨e1,_,z⟩|⟨_,o'⟩
  ·rcases dc o'' with ⟨e3,_,_⟩|⟨n,o''⟩
   ·exact e1.symm.trans e3
   ·cases z;exact absurd (h.dj i k a o o'') n
  ·rcases dc o'' with ⟨e3,_,z⟩|⟨_,o''⟩
   ·cases z;rw[←e3];exact h.dj j i a o' o
   ·exact h.dj j k b o' o''
theorem BR.fz (h:BR K F0 H0 F H σ ρ){i:Nat}{ps:List PV}(e:ρ[i]?=some (some (.own ps))):∃F',BR K F0 H0 F' H σ (ρ.set i (some (.val (.lst ps)))):=by
 obtain⟨v,ev,_⟩:=h.er.rd e
 have sl:=h.er.sl i _ e
 rw[ev] at sl
 obtain⟨a,vs,e',h1,h2,h3⟩:=sl
 cases e'
 have o:jb σ ρ i a:=⟨⟨_,e,rfl⟩,ev⟩
 have h0:=h.ow i a o
 have gr:=h.gr.freeze h0 h2 h1
 have mono:Same F (L2.upd F a (.lst vs)):=aM h2 _
 refine⟨L2.upd F a (.lst vs),⟨gr.fh,by rw[List.length_set];exact h.er.len,fun j s' e'=>?_⟩,gr,fun j b o'=>?_,fun j k b o' o''=>?_⟩
 ·by_cases hij:i=j
  ·subst hij
   have hi:i<ρ.length:=(List.getElem?_eq_some_iff.mp e).1
   rw[List.getElem?_set_self hi] at e'
   cases e'
   rw[ev]
   exact⟨a,vs,rfl,ah,h3.mono mono⟩
  ·rw[List.getElem?_set_ne hij] at e'
   have old:=h.er.sl j s' e'
   obtain⟨v,ev',_⟩:=h.er.rd e'
   rw[ev'] at old ⊢
   have ne:∀b,sj s'=true->v=.ref b->b≠a:=fun b hb hv z=>by
    subst hv z
    exact hij (h.dj i j b o ⟨⟨s',e',hb⟩,ev'⟩)
   cases s' with
   |val p=>exact Rep.mono mono old
   |own qs=>obtain⟨b,us,e',k1,k2,k3⟩:=old;cases e';exact⟨b,us,rfl,k1,by rw[ai (ne b rfl rfl)];exact k2,k3.mono mono⟩
   |dic ks qs=>obtain⟨b,us,e',k1,k2,k3,k4⟩:=old;cases e';exact⟨b,us,rfl,k1,by rw[ai (ne b rfl rfl)];exact k2,k3,k4.mono mono⟩
 ·rw[←pq ev] at o'
  rcases dc o' with ⟨_,z,_⟩|⟨_,o'⟩
  ·exact absurd z Bool.false_ne_true
  ·exact h.ow j b o'
 ·rw[←pq ev] at o' o''
  rcases dc o' with ⟨_,z,_⟩|⟨_,o'⟩
  ·exact absurd z Bool.false_ne_true
  ·rcases dc o'' with ⟨_,z,_⟩|⟨_,o''⟩
   ·exact absurd z Bool.false_ne_true
   ·exact h.dj j k b o' o''
end
noncomputable def B7 (F H0:Hp):Hp:=fun b=>match F b with
 |some o=>some o
 |none=>H0 b
section
variable {K:PySem.W.Frag}{F0 H0 F H F' H':Hp}{σ σ':L2.St}{ρ ρ':al}
theorem nj {b:Addr}(h:B7 F H0 b=none):F b=none/\H0 b=none:=by
 unfold B7 at h
 split at h
 ·cases h
 ·exact⟨by assumption,h⟩
theorem Ih {b:Addr}(hF:F b=none)(h0:H0 b=none):B7 F H0 b=none:=by unfold B7;rw[hF];exact h0
theorem BR.base (h:BR K F0 H0 F H σ ρ):BR K F (B7 F H0) F H σ ρ:=by
 refine⟨h.er,⟨fun b o e=>?_,Same.refl _,h.er.fz,fun b o e=>.inl e⟩,fun i a o=>Ih (h.er.live o).1 (h.ow i a o),h.dj⟩
 unfold B7 at e
 split at e
 ·next q=>cases e;exact h.er.fz b _ q
 ·exact h.gr.hh b o e
theorem Grow.unbase (g:Grow F0 H0 F H)(g':Grow F (B7 F H0) F' H'):Grow F0 H0 F' H':=by
 refine⟨fun b o e=>?_,g.ff.trans g'.ff,g'.fh,fun b o e=>?_⟩
 ·refine g'.hh b o ?_
  unfold B7
  split
  ·next u q=>rw[←g.fh b u q];exact g.hh b o e
  ·exact e
 ·rcases g'.nw b o e with z|z|z
  ·exact g.nw b o z
  ·exact .inr (.inl (nj z).2)
  ·exact .inr (.inr z)
theorem BR.unbase (h:BR K F (B7 F H0) F' H' σ' ρ')(g:Grow F0 H0 F H):BR K F0 H0 F' H' σ' ρ':=⟨h.er,g.unbase h.gr,fun i a o=>(nj (h.ow i a o)).2,h.dj⟩
end
structure PEnds where
 nx:al->Prop
 rt:PV->Prop
 rn:List PV->Prop
 bk:al->Prop:=fun _=>False
 ct:al->Prop:=fun _=>False
noncomputable abbrev hG:=PEnds->al->Prop
structure Fit (K:PySem.W.Frag)(F0 H0:Hp)(Dp:PEnds)(D:Ends):Prop where
 nx:∀F H σ ρ,Dp.nx ρ->BR K F0 H0 F H σ ρ->D.nx σ H
 bk:∀F H σ ρ,Dp.bk ρ->BR K F0 H0 F H σ ρ->D.bk σ H
 ct:∀F H σ ρ,Dp.ct ρ->BR K F0 H0 F H σ ρ->D.ct σ H
 rt:∀p v F H,Dp.rt p->Grow F0 H0 F H->Rep K F p v->D.rt v H
 rn:∀ps a vs F H,Dp.rn ps->Grow F0 H0 F H->H0 a=none->F a=none->H a=some (.lst vs)->Reps K F ps vs->D.rt (.ref a) H
noncomputable def lS (K:PySem.W.Frag)(ts:hG):TS:=fun D σ H=>∃F0 H0 F ρ Dp,BR K F0 H0 F H σ ρ/\ts Dp ρ/\Fit K F0 H0 Dp D
theorem lS.elim {K:PySem.W.Frag}{ts:hG}{D:Ends}{σ:St}{H:Hp}{C:Prop}(h:lS K ts D σ H)(k:∀F0 H0 F ρ Dp,BR K F0 H0 F H σ ρ->ts Dp ρ->Fit K F0 H0 Dp D->C):C:=by obtain⟨F0,H0,F,ρ,Dp,a,b,c⟩:=h;exact k F0 H0 F ρ Dp a b c
noncomputable def jv (X:Cx)(st:Stmt)(ts:hG):Prop:=PS X st (lS X.K ts)
noncomputable def mE (X:Cx)(st:List Stmt)(ts:hG):Prop:=PSs X st (lS X.K ts)
noncomputable def zU:hG:=fun D ρ=>D.nx ρ
noncomputable def Ol (t u:hG):hG:=fun D ρ=>t { D with nx:=u D } ρ
noncomputable def Ir:hG:=fun D ρ=>D.bk ρ
noncomputable def Mt:hG:=fun D ρ=>D.ct ρ
noncomputable def IM:hG:=fun _ _=>False
noncomputable def Mp (te:eC):hG:=fun D ρ=>te ρ fun _=>D.nx ρ
noncomputable def Qv (te:eC):hG:=fun D ρ=>te ρ D.rt
noncomputable def Nr (tn:oH):hG:=fun D ρ=>tn ρ D.rn
noncomputable def go (ρ:al)(i:Nat)(Q:List PV->Prop):Prop:=match ρ[i]? with
 |some (some (.own ps))=>Q ps
 |_=>False
theorem go.ex {ρ:al}{i:Nat}{Q:List PV->Prop}(h:go ρ i Q):∃ps,ρ[i]?=some (some (.own ps))/\Q ps:=by
 unfold go at h
 split at h
 ·exact⟨_,by assumption,h⟩
 ·exact h.elim
noncomputable def G4 (i:Nat):hG:=fun D ρ=>go ρ i D.rn
noncomputable def RF (c:jM)(t u:hG):hG:=fun D ρ=>c ρ fun b=>if b=true then t D ρ else u D ρ
noncomputable def OV (i:Nat)(te:eC):hG:=fun D ρ=>te ρ fun p=>D.nx (ρ.set i (some (.val p)))
noncomputable def Gf (i:Nat)(tn:oH):hG:=fun D ρ=>tn ρ fun ps=>D.nx (ρ.set i (some (.own ps)))
noncomputable def QO (te:eC)(g:qc):hG:=fun D ρ=>te ρ fun p=>g p ρ D.nx
noncomputable def frz (i:Nat)(ρ:al):al:=match ρ[i]? with
 |some (some (.own ps))=>ρ.set i (some (.val (.lst ps)))
 |_=>ρ
noncomputable def vN (i:Nat)(t:hG):hG:=fun D ρ=>t D (frz i ρ)
section
variable {X:Cx}{st:Stmt}{bW:List Stmt}{t u:hG}{te:eC}{tn:oH}{e:Expr}{pos:Pos}{i:Nat}
theorem AU:mE X [] zU:=PSs.weak Em fun D σ H hh_=>hh_.elim fun F0 H0 F ρ Dp br h ft=>ft.nx F H σ ρ h br
theorem xn (h1:jv X st t)(h2:mE X bW u):mE X (st::bW) (Ol t u):=PSs.weak (j4 h1 h2) fun D σ H hh_=>hh_.elim fun F0 H0 F ρ Dp br h ft=>
 ⟨F0,H0,F,ρ,_,br,h,⟨fun F' H' σ' ρ' h' br'=>⟨F0,H0,F',ρ',Dp,br',h',ft⟩,ft.bk,ft.ct,ft.rt,ft.rn⟩⟩
theorem zo (h1:jv X st t):mE X [st] t:=pH h1
theorem Aw:jv X (.Pass pos) zU:=PS.weak Dc fun D σ H hh_=>hh_.elim fun F0 H0 F ρ Dp br h ft=>ft.nx F H σ ρ h br
theorem xD:jv X (.Break pos) Ir:=PS.weak AI fun D σ H hh_=>hh_.elim fun F0 H0 F ρ Dp br h ft=>ft.bk F H σ ρ h br
theorem ze:jv X (.Continue pos) Mt:=PS.weak sB fun D σ H hh_=>hh_.elim fun F0 H0 F ρ Dp br h ft=>ft.ct F H σ ρ h br
theorem pf:jv X st IM:=PS.weak BI fun D σ H hh_=>hh_.elim fun F0 H0 F ρ Dp br h ft=>h
theorem DG {x j pos pos'}:jv X (.Expr (.Constant (.str x) j pos) pos') zU:=PS.weak Hi fun D σ H hh_=>hh_.elim fun F0 H0 F ρ Dp br h ft=>ft.nx F H σ ρ h br
theorem Bq (h:PS X st (lV (lE X.K te))):jv X st (Mp te):=PS.weak h fun D σ H hh_=>hh_.elim fun F0 H0 F ρ Dp br h ft=>⟨F,ρ,_,br.er,h,fun p v F1 H1 h1 g1 r1=>ft.nx F1 H1 σ ρ h1 (br.grow g1)⟩
theorem wa (he:PuE X e te):jv X (.Return (some e) pos) (Qv te):=PS.weak (qu he) fun D σ H hh_=>hh_.elim fun F0 H0 F ρ Dp br h ft=>⟨F,ρ,_,br.er,h,fun p v F1 H1 h1 g1 r1=>ft.rt p v F1 H1 h1 (br.gr.trans g1) r1⟩
theorem Bb (he:PuN X e tn):jv X (.Return (some e) pos) (Nr tn):=PS.weak (qu he) fun D σ H hh_=>hh_.elim fun F0 H0 F ρ Dp br h ft=>⟨F,ρ,_,br.er,h,fun ps a vs F1 H1 h1 g1 h0 hF hH r1=>ft.rn ps a vs F1 H1 h1 (br.gr.trans g1) (br.gr.hh.free h0) hF hH r1⟩
theorem Bu (he:PE X e (gz i)):jv X (.Return (some e) pos) (G4 i):=PS.weak (qu he) fun D σ H hh_=>hh_.elim fun F0 H0 F ρ Dp br h ft=>by
 obtain⟨ps,e,h⟩:=h.ex
 obtain⟨v,ev,_⟩:=br.er.rd e
 have sl:=br.er.sl i _ e
 rw[ev] at sl
 obtain⟨a,vs,e',h1,h2,h3⟩:=sl
 cases e'
 exact⟨_,ev,ft.rn ps a vs F H h br.gr (br.ow i a ⟨⟨_,e,rfl⟩,ev⟩) h2 h1 h3⟩
theorem J5 {c:Expr}{a b:List Stmt}{tc:jM}(hc:PuB X c tc)(ha:mE X a t)(hb:mE X b u):jv X (.If c a b pos) (RF tc t u):=PS.weak (Mc hc ha hb) fun D σ H hh_=>hh_.elim fun F0 H0 F ρ Dp br h ft=>⟨F,ρ,_,br.er,h,fun b F1 H1 h1 g1=>by
 cases b with
 |true=>exact⟨F0,H0,F1,ρ,Dp,br.grow g1,by simpa using h1,ft⟩
 |false=>exact⟨F0,H0,F1,ρ,Dp,br.grow g1,by simpa using h1,ft⟩⟩
theorem vG (h:PS X st (ir (lE X.K te) (dm i))):jv X st (OV i te):=PS.weak h fun D σ H hh_=>hh_.elim fun F0 H0 F ρ Dp br h ft=>⟨F,ρ,_,br.er,h,fun p v F1 H1 h1 g1 r1=>ft.nx F1 H1 _ _ h1 ((br.grow g1).setV r1)⟩
theorem rX (h:PS X st (ir (lN X.K tn) (dm i))):jv X st (Gf i tn):=PS.weak h fun D σ H hh_=>hh_.elim fun F0 H0 F ρ Dp br h ft=>⟨F,ρ,_,br.er,h,fun ps a vs F1 H1 h1 g1 h0 hF hH r1=>ft.nx F1 H1 _ _ h1 (br.setN g1 h0 hF hH r1)⟩
theorem Ev {g0:TG}{g:qc}(hg:fH X.K g0 g)(h:PS X st (ir (lE X.K te) g0)):jv X st (QO te g):=PS.weak h fun D σ H hh_=>hh_.elim fun F0 H0 F ρ Dp br h ft=>⟨F,ρ,_,br.er,h,fun p v F1 H1 h1 g1 r1=>
 hg F1 H1 σ ρ p v _ _ g1.fh r1 h1 fun σ' ρ' q u=>ft.nx F1 H1 σ' ρ' q ((br.grow g1).upd u)⟩
theorem ua (i:Nat)(h:jv X st t):jv X st (vN i t):=PS.weak h fun D σ H hh_=>hh_.elim fun F0 H0 F ρ Dp br h ft=>by
 unfold vN frz at h
 split at h
 ·next ps e=>
  obtain⟨F',br'⟩:=br.fz e
  exact⟨F0,H0,F',_,Dp,br',h,ft⟩
 ·exact⟨F0,H0,F,ρ,Dp,br,h,ft⟩
theorem tE {fm:List (Option Nat)}{ti:nS}{g0:TG}{g:qc}{tc:jM}(hg:fH X.K g0 g)(h:PS X st (ir (gJ fm (lI X.K ti) g0 (lB X.K tc) (lE X.K te)) (dm i))):jv X st (Gf i (oQ fm ti g tc te)):=rX (PS.weak h fun D σ H q=>ly hg σ H _ q)
theorem qJ {fm:List (Option Nat)}{ti:nS}{g0:TG}{g:qc}{tc:jM}(hg:fH X.K g0 g)(h:PS X st (ir (gJ fm (lI X.K ti) g0 (lB X.K tc) (lE X.K te)) (dm i))):jv X st (OV i (Hy (oQ fm ti g tc te))):=PS.weak h fun D σ H hh_=>hh_.elim fun F0 H0 F ρ Dp br h ft=>ly hg σ H _ ⟨F,ρ,_,br.er,h,fun ps a vs F1 H1 h1 g1 h0 hF hH r1=>
 ft.nx _ H1 _ _ h1 ((br.grow (g1.freeze h0 hF hH)).setV ⟨a,vs,rfl,ah,r1.mono (aM hF _)⟩)⟩
noncomputable def K4 (i:Nat)(f:Int->Int->Int)(te:eC):hG:=fun D ρ=>gv ρ i fun x=>te ρ fun y=>OkI x fun a=>OkI y fun b=>D.nx (ρ.set i (some (.val (.int (f a b)))))
theorem FF {f:Int->Int->Int}(h:PS X st (Ht i (lE X.K te) (LE f))):jv X st (K4 i f te):=PS.weak h fun D σ H hh_=>hh_.elim fun F0 H0 F ρ Dp br h ft=>by
 unfold K4 gv at h
 split at h
 ·next p e=>
  obtain⟨v,ev,_⟩:=br.er.rd e
  have sl:=br.er.sl i _ e
  rw[ev] at sl
  refine⟨v,ev,F,ρ,_,br.er,h,fun q w F1 H1 h1 g1 r1=>?_⟩
  obtain⟨x,rfl,rfl,h1⟩:=OkI.rd (H:=H1) h1 (.frz (Rep.mono g1.ff sl))
  obtain⟨y,rfl,rfl,h1⟩:=OkI.rd (H:=H1) h1 (.frz r1)
  exact⟨x,y,rfl,rfl,ft.nx F1 H1 _ _ h1 ((br.grow g1).setV rfl)⟩
 ·exact h.elim
theorem BR.ownAt {K:PySem.W.Frag}{F0 H0 F H:Hp}{σ:L2.St}{ρ:al}(br:BR K F0 H0 F H σ ρ){ps:List PV}(e:ρ[i]?=some (some (.own ps))):∃a vs,σ[i]?=some (some (.ref a))/\jb σ ρ i a/\H a=some (.lst vs)/\F a=none/\Reps K F ps vs:=by
 obtain⟨v,ev,_⟩:=br.er.rd e
 have sl:=br.er.sl i _ e
 rw[ev] at sl
 obtain⟨a,vs,e',h1,h2,h3⟩:=sl
 cases e'
 exact⟨a,vs,ev,⟨⟨_,e,rfl⟩,ev⟩,h1,h2,h3⟩
noncomputable def LP (i:Nat)(t:iH):hG:=fun D ρ=>go ρ i fun ps=>t ρ fun qs=>One qs fun q=>ps.length<sizeLine/\D.nx (ρ.set i (some (.own (ps++[q]))))
theorem C7 {t:iH}(h:PS X st (lV (O6 X.K "list" mx (gz i) (lA X.K t)))):jv X st (LP i t):=PS.weak h fun D σ H hh_=>hh_.elim fun F0 H0 F ρ Dp br h ft=>by
 obtain⟨ps,e,h⟩:=h.ex
 obtain⟨a,vs,ev,o,h1,h2,h3⟩:=br.ownAt e
 refine⟨_,ev,.inl ⟨rfl,vs,SqL.of h1⟩,F,ρ,_,br.er,h,fun qs us F1 H1 k1 g1 r1=>?_⟩
 unfold One at k1
 split at k1
 ·next q=>
  obtain⟨v,r,rfl,r1,er⟩:=r1
  cases (show r=[] from er)
  have k:=g1.keep h2 h1
  exact⟨a,vs,v,rfl,rfl,k.2,by rw[h3.length];exact k1.1,ft.nx F1 _ σ _ k1.2 ((br.grow g1).mut (s:=.own _) o rfl ⟨a,_,rfl,ah,k.1,(h3.mono g1.ff).app (.one r1)⟩)⟩
 ·exact k1.elim
noncomputable def Ia (j:Nat)(ti te:eC):hG:=fun D ρ=>te ρ fun v=>go ρ j fun ps=>ti ρ fun k=>OkI k fun k=>OkO (qw ps.length k) fun n=>D.nx (ρ.set j (some (.own (ps.set n v))))
theorem wN {j:Nat}{ti:eC}(h:PS X st (ir (lE X.K te) (L2.Ab (gz j) (lE X.K ti) Bx))):jv X st (Ia j ti te):=PS.weak h fun D σ H hh_=>hh_.elim fun F0 H0 F ρ Dp br h ft=>⟨F,ρ,_,br.er,h,fun p v F1 H1 h1 g1 r1=>by
 obtain⟨ps,e,h⟩:=h1.ex
 have br1:=br.grow g1
 obtain⟨a,vs,ev,o,k1,k2,k3⟩:=br1.ownAt e
 refine⟨_,ev,F1,ρ,_,br1.er,h,fun q w F2 H2 h2 g2 r2=>?_⟩
 obtain⟨k,rfl,rfl,h2⟩:=OkI.rd (H:=H2) h2 (.frz r2)
 obtain⟨n,en,h2⟩:=h2.ex
 have kk:=g2.keep k2 k1
 exact⟨a,vs,k,n,rfl,rfl,kk.2,by rw[k3.length];exact en,ft.nx F2 _ σ _ h2 ((br1.grow g2).mut (s:=.own _) o rfl ⟨a,_,rfl,ah,kk.1,(k3.mono g2.ff).set (r1.mono g2.ff) n⟩)⟩⟩
noncomputable def pe (g:qc)(tb:hG)(D:PEnds):List PV->al->Prop
 |[],ρ=>D.nx ρ
 |v::vs,ρ=>g v ρ fun ρ2=>tb { D with nx:=pe g tb D vs,ct:=pe g tb D vs,bk:=D.nx } ρ2
noncomputable def Q7 (ti:nS)(g:qc)(tb:hG):hG:=fun D ρ=>ti ρ fun its=>pe g tb D its ρ
theorem Eo {ti:nS}{g0:TG}{g:qc}{tb:hG}(hg:fH X.K g0 g)(h:PS X st (xI (lI X.K ti) g0 (lS X.K tb))):jv X st (Q7 ti g tb):=PS.weak h fun D σ H hh_=>hh_.elim fun F0 H0 F ρ Dp br h ft=>⟨F,ρ,_,br.er,h,fun its J F1 H1 h1 g1 it=>by
 refine⟨fun i m σ' H'=>∃F' ρ',BR X.K F0 H0 F' H' σ' ρ'/\Same F1 F'/\i≤its.length/\m=its.length - i/\pe g tb Dp (its.drop i) ρ',⟨its.length,F1,ρ,br.grow g1,Same.refl _,Nat.zero_le _,rfl,h1⟩,?_⟩
 rintro i m σ' H' ⟨F',ρ',br',s1,hi,rfl,h2⟩
 obtain⟨it1,it2⟩:=it F' H' i s1 br'.er.fz
 by_cases hl:i<its.length
 ·obtain⟨go,yl⟩:=it1 _ (List.getElem?_eq_getElem hl)
  rw[List.drop_eq_getElem_cons hl] at h2
  refine .inr ⟨go,fun σ2 H2=>∃F2 ρ2,BR X.K F0 H0 F2 H2 σ2 ρ2/\Same F1 F2/\pe g tb Dp (its.drop (i+1)) ρ2,fun σ2 H2 ⟨F2,ρ2,b2,s2,q2⟩=>⟨its.length - (i+1),by omega,F2,ρ2,b2,s2,hl,rfl,q2⟩,fun x H2 hy=>?_⟩
  obtain⟨F2,g2,rx⟩:=yl x H2 hy
  refine hg F2 H2 σ' ρ' _ x _ _ g2.fh rx h2 fun σ3 ρ3 h3 u=>?_
  have br3:=(br'.grow g2).upd u
  refine⟨F2,B7 F2 H0,F2,ρ3,_,br3.base,h3,⟨fun F4 H4 σ4 ρ4 h4 b4=>?_,fun F4 H4 σ4 ρ4 h4 b4=>?_,fun F4 H4 σ4 ρ4 h4 b4=>?_,fun p v F4 H4 h4 g4 r4=>ft.rt p v F4 H4 h4 (br3.gr.unbase g4) r4,fun ps a vs F4 H4 h4 g4 h0 hF hH r4=>ft.rn ps a vs F4 H4 h4 (br3.gr.unbase g4) (nj h0).2 hF hH r4⟩⟩
  ·exact⟨F4,ρ4,b4.unbase br3.gr,(s1.trans g2.ff).trans b4.gr.ff,h4⟩
  ·exact ft.nx F4 H4 σ4 ρ4 h4 (b4.unbase br3.gr)
  ·exact⟨F4,ρ4,b4.unbase br3.gr,(s1.trans g2.ff).trans b4.gr.ff,h4⟩
 ·have e:its.drop i=[]:=List.drop_eq_nil_of_le (by omega)
  rw[e] at h2
  exact .inl ⟨it2 (by omega),ft.nx F' H' σ' ρ' h2 br'⟩⟩
noncomputable def jl (tc:jM)(tb:hG)(D:PEnds):Nat->al->Prop
 |0,_=>False
 |n+1,ρ=>tc ρ fun b=>if b=true then tb { D with nx:=jl tc tb D n,ct:=jl tc tb D n,bk:=D.nx } ρ else D.nx ρ
noncomputable def JK (tc:jM)(tb:hG):hG:=fun D ρ=>∃n,jl tc tb D n ρ
theorem xB {tc:jM}{tb:hG}(h:PS X st (ug (lB X.K tc) (lS X.K tb))):jv X st (JK tc tb):=PS.weak h fun D σ H hh_=>hh_.elim fun F0 H0 F ρ Dp br ⟨n,h⟩ ft=>by
 refine⟨fun m σ' H'=>∃F' ρ',BR X.K F0 H0 F' H' σ' ρ'/\jl tc tb Dp m ρ',⟨n,F,ρ,br,h⟩,?_⟩
 rintro m σ' H' ⟨F',ρ',br',h'⟩
 cases m with
 |zero=>exact h'.elim
 |succ m=>
  refine⟨F',ρ',_,br'.er,h',fun b F1 H1 h1 g1=>?_⟩
  cases b with
  |true=>
   rw[if_pos rfl] at h1 ⊢
   refine⟨fun σ2 H2=>∃F2 ρ2,BR X.K F0 H0 F2 H2 σ2 ρ2/\jl tc tb Dp m ρ2,fun σ2 H2 q=>⟨m,Nat.lt_succ_self _,q⟩,F0,H0,F1,ρ',_,br'.grow g1,h1,⟨fun F4 H4 σ4 ρ4 h4 b4=>⟨F4,ρ4,b4,h4⟩,fun F4 H4 σ4 ρ4 h4 b4=>ft.nx F4 H4 σ4 ρ4 h4 b4,fun F4 H4 σ4 ρ4 h4 b4=>⟨F4,ρ4,b4,h4⟩,ft.rt,ft.rn⟩⟩
  |false=>
   rw[if_neg Bool.false_ne_true] at h1 ⊢
   exact ft.nx F1 H1 σ' ρ' h1 (br'.grow g1)
inductive PR where
 |v (p:PV)|n (ps:List PV)
noncomputable def PR.pv:PR->PV
 |.v p=>p
 |.n ps=>.lst ps
noncomputable abbrev zT:=List PV->(PR->Prop)->Prop
noncomputable def Qa (K:PySem.W.Frag)(H F' H':Hp)(v:V):PR->Prop
 |.v p=>Rep K F' p v
 |.n ps=>∃a vs,v=.ref a/\H a=none/\F' a=none/\H' a=some (.lst vs)/\Reps K F' ps vs
noncomputable def aN (K:PySem.W.Frag)(φ:zT):Sp:=fun vs H Q _=>∃F ps,∃Qp:PR->Prop,Same F H/\Reps K F ps vs/\φ ps Qp/\∀r v F' H',Qp r->Grow F H F' H'->Qa K H F' H' v r->Q v H'
noncomputable def PEnds.of (Q:PR->Prop):PEnds:={ nx:=fun _=>Q (.v .non),rt:=fun p=>Q (.v p),rn:=fun ps=>Q (.n ps) }
noncomputable def jQ (N:List Str)(ps:List PV):al:=ps.map (fun p=>some (Sl.val p))++List.replicate (N.length - ps.length) none
theorem rm {K:PySem.W.Frag}{F H:Hp}(s:Same F H)(N:List Str):∀{ps:List PV} {vs:List V},Reps K F ps vs->ER K F H (L2.fO N vs) (jQ N ps):=fun {ps vs} r=>by
 have hl:=r.length
 refine⟨s,by unfold L2.fO jQ;simp[hl],fun i s' e=>?_⟩
 unfold jQ at e
 unfold L2.fO
 rw[List.getElem?_append] at e ⊢
 rw[List.length_map] at e ⊢
 by_cases hi:i<ps.length
 ·rw[if_pos hi,List.getElem?_map] at e
  rw[if_pos (by omega),List.getElem?_map]
  obtain⟨p,ep,e⟩:=Option.map_eq_some_iff.mp e
  obtain⟨v,ev,rv⟩:=r.get ep
  cases e
  rw[ev]
  exact rv
 ·rw[if_neg hi,List.getElem?_replicate] at e
  split at e<;>cases e
theorem jm {N:List Str}{ps:List PV}{σ:L2.St}{i:Nat}{a:Addr}(o:jb σ (jQ N ps) i a):False:=by
 obtain⟨⟨s,e,hs⟩,_⟩:=o
 unfold jQ at e
 rw[List.getElem?_append] at e
 split at e
 ·rw[List.getElem?_map] at e
  obtain⟨p,ep,e⟩:=Option.map_eq_some_iff.mp e
  cases e
  exact absurd hs Bool.false_ne_true
 ·rw[List.getElem?_replicate] at e
  split at e<;>cases e
noncomputable def OG (φ:zT)(t:iH):eC:=fun ρ Q=>t ρ fun ps=>φ ps fun r=>Q r.pv
noncomputable def Rt:PR->(List PV->Prop)->Prop
 |.n ps,Q=>Q ps
 |_,_=>False
noncomputable def HI (φ:zT)(t:iH):oH:=fun ρ Q=>t ρ fun ps=>φ ps fun r=>Rt r Q
theorem CN {φ:zT}{t:iH}(h:PE X e (hX (aN X.K φ) [] E0 (lA X.K t))):PuE X e (OG φ t):=PE.weak h fun σ H Q hh_=>hh_.elim fun F ρ Qp er q k=>⟨F,ρ,_,er,q,fun ps vs F1 H1 h1 g1 r1=>by
 show aN X.K φ (vs++[]) H1 Q E0
 rw[List.append_nil]
 refine⟨F1,ps,_,g1.fh,r1,h1,fun r v F2 H2 h2 g2 rr=>?_⟩
 cases r with
 |v p=>exact k p v F2 H2 h2 (g1.trans g2) rr
 |n ps=>
  obtain⟨a,vs,rfl,h0,hF,hH,rs⟩:=rr
  exact k (.lst ps) _ _ H2 h2 ((g1.trans g2).freeze (g1.hh.free h0) hF hH) ⟨a,vs,rfl,ah,rs.mono (aM hF _)⟩⟩
theorem AO {φ:zT}{t:iH}(h:PE X e (hX (aN X.K φ) [] E0 (lA X.K t))):PuN X e (HI φ t):=PE.weak h fun σ H Q hh_=>hh_.elim fun F ρ Qp er q k=>⟨F,ρ,_,er,q,fun ps vs F1 H1 h1 g1 r1=>by
 show aN X.K φ (vs++[]) H1 Q E0
 rw[List.append_nil]
 refine⟨F1,ps,_,g1.fh,r1,h1,fun r v F2 H2 h2 g2 rr=>?_⟩
 cases r with
 |v p=>exact h2.elim
 |n ps=>
  obtain⟨a,vs,rfl,h0,hF,hH,rs⟩:=rr
  exact k ps a vs F2 H2 h2 (g1.trans g2) (g1.hh.free h0) hF hH rs⟩
end
theorem QS {P:Program}{w:World}{K:PySem.W.Frag}{mg:Str->Option Value}{base:Heap}{x:Str}{st:Stmt}{N ps:List Str}{k:Nat}{φ:zT}{ts:hG}(F:FunD K mg x st ps)(S:FnScope N ps (aa st))
  (hl:∀qs Q,φ qs Q->qs.length=ps.length)
  (hb:∀(f:Addr) (cdv:Value) (A:Around) (outer:List Env) (s:Shared) (H:Hp) (E:XK),Room k (A.deeper (PyProof.Rows.envOfC x (aa st) s.heap.objs.size f cdv))->mE (kE rZ P w K mg base N x (aa st) f cdv A outer s H E).nox (ak st) ts)
  (hφ:∀qs Q,φ qs Q->ts (PEnds.of Q) (jQ N qs)):Def P w K mg base (k+1) x ps (aN K φ):=by
 refine F.ok S (fun vs H Q E ⟨F,qs,Qp,s,r,h,_⟩=>by rw[r.length];exact hl qs Qp h) (fun f cdv A outer s H vs Q E hr ⟨F,qs,Qp,sm,r,h,kk⟩=>?_)
 refine⟨_,hb f cdv A outer s H E hr,F,H,F,jQ N qs,PEnds.of Qp,?_,hφ qs Qp h,?_⟩
 ·exact⟨rm sm N r,.refl sm,fun i a o=>(jm o).elim,fun i j a o _=>(jm o).elim⟩
 ·exact⟨fun F' H' σ' ρ' q b=>kk (.v .non) .non F' H' q b.gr rfl,fun F' H' σ' ρ' q b=>q.elim,fun F' H' σ' ρ' q b=>q.elim,fun p v F' H' q g rr=>kk (.v p) v F' H' q g rr,fun ps a vs F' H' q g h0 hF hH rs=>kk (.n ps) (.ref a) F' H' q g ⟨a,vs,rfl,h0,hF,hH,rs⟩⟩
end Pu
end
section
namespace Pu
open PySem PySem.Spec L2
theorem Def.imp {P:Program}{w:World}{K:PySem.W.Frag}{mg:Str->Option Value}{base:Heap}{k:Nat}{x:Str}{ps:List Str}{sp sp':Sp}(d:Def P w K mg base k x ps sp)(h:∀vs H Q E,sp' vs H Q E->sp vs H Q E):Def P w K mg base k x ps sp':=by
 obtain⟨f,fd,F,r⟩:=d
 exact⟨f,fd,F.imp h,r⟩
section
variable {X:Cx}{e a b c l tg iter:Expr}{pos:Pos}{te ta tb:eC}{t:iH}{st:Stmt}{i j:Nat}
theorem RdV.all {K:PySem.W.Frag}{F H:Hp}{p:PV}{v:V}(s:Same F H)(r:RdV K F H p v):Rep K H p v:=by
 cases r with
 |frz r=>exact r.mono s
 |own h1 h2 h3=>exact⟨_,_,rfl,h1,h3.mono s⟩
 |dic h1 h2 h3 h4=>exact⟨_,_,rfl,h1,h3,h4.mono s⟩
theorem RdVs.all {K:PySem.W.Frag}{F H:Hp}{ps:List PV}{vs:List V}(s:Same F H)(r:RdVs K F H ps vs):Reps K H ps vs:=by
 induction r with
 |nil=>rfl
 |cons r _ ih=>exact⟨_,_,rfl,r.all s,ih⟩
noncomputable def OkLo:PV->(List PV->Prop)->Prop
 |.lst ps,Q=>Q ps
 |_,_=>False
theorem OkLo.rd {K:PySem.W.Frag}{F H:Hp}{p:PV}{v:V}{Q:List PV->Prop}(h:OkLo p Q)(s:Same F H)(r:RdV K F H p v):∃a vs ps,p=.lst ps/\v=.ref a/\H a=some (.lst vs)/\Reps K F ps vs/\Q ps:=by
 cases r with
 |frz r=>
  cases p<;>first|exact h.elim|skip
  obtain⟨a,vs,rfl,e,r⟩:=r;exact⟨a,vs,_,rfl,rfl,s _ _ e,r,h⟩
 |own h1 h2 h3=>exact⟨_,_,_,rfl,rfl,h1,h3,h⟩
 |dic=>exact h.elim
noncomputable def Qm (ta tb:eC):oH:=fun ρ Q=>ta ρ fun x=>tb ρ fun y=>OkLo x fun ps=>OkLo y fun qs=>ps.length+qs.length≤sizeLine/\Q (ps++qs)
theorem Kv (ha:fL X a ta)(hb:fL X b tb):PuN X (.BinOp a .Add b pos) (Qm ta tb):=PE.weak (Br J6 ha hb) fun σ H Q hh_=>hh_.elim fun F ρ Qp er q k=>
 ⟨F,ρ,_,er,q,fun p v F1 H1 q1 g1 r1=>⟨F1,ρ,_,er.grow g1,q1,fun p2 v2 F2 H2 q2 g2 r2=>by
  obtain⟨a,vs,ps,rfl,rfl,h1,rs,q2⟩:=q2.rd g2.fh (r1.grow g2)
  obtain⟨b,us,qs,rfl,rfl,h2,rs2,q2⟩:=q2.rd g2.fh r2
  exact⟨a,b,vs,us,rfl,rfl,h1,h2,by rw[rs.length,rs2.length];exact q2.1,fun p hp=>k _ p _ F2 _ q2.2 ((g1.trans g2).trans (.newO g2.fh hp _)) ((g1.trans g2).hh.free hp) (g2.fh.free hp) ah (rs.app rs2)⟩⟩⟩
noncomputable def Q1 (ta tb:eC):oH:=fun ρ Q=>ta ρ fun x=>tb ρ fun y=>OkLo x fun ps=>OkI y fun k=>-(2 ^ 63)≤k/\k<2 ^ 63/\ps.length * k.toNat≤sizeLine/\Q (List.replicate k.toNat ps).flatten
theorem Reps.repF {K:PySem.W.Frag}{F:Hp}{ps:List PV}{vs:List V}(h:Reps K F ps vs):∀n,Reps K F (List.replicate n ps).flatten (List.replicate n vs).flatten
 |0=>rfl
 |n+1=>by rw[List.replicate_succ,List.replicate_succ,List.flatten_cons,List.flatten_cons];exact h.app (Reps.repF h n)
theorem Jk (ha:fL X a ta)(hb:fL X b tb):PuN X (.BinOp a .Mult b pos) (Q1 ta tb):=PE.weak (Br Jn ha hb) fun σ H Q hh_=>hh_.elim fun F ρ Qp er q k=>
 ⟨F,ρ,_,er,q,fun p v F1 H1 q1 g1 r1=>⟨F1,ρ,_,er.grow g1,q1,fun p2 v2 F2 H2 q2 g2 r2=>by
  obtain⟨a,vs,ps,rfl,rfl,h1,rs,q2⟩:=q2.rd g2.fh (r1.grow g2)
  obtain⟨n,rfl,rfl,q2⟩:=q2.rd r2
  exact⟨a,n,vs,rfl,rfl,h1,q2.1,q2.2.1,by rw[rs.length];exact q2.2.2.1,fun p hp=>k _ p _ F2 _ q2.2.2.2 ((g1.trans g2).trans (.newO g2.fh hp _)) ((g1.trans g2).hh.free hp) (g2.fh.free hp) ah (rs.repF _)⟩⟩⟩
noncomputable def gh:Nat->List PV->List PV
 |_,[]=>[]
 |k,p::ps=>.tup [.int k,p]::gh (k+1) ps
theorem kS:∀(k:Nat) (ps:List PV),(gh k ps).length=ps.length
 |_,[]=>rfl
 |k,_::ps=>by rw[gh,List.length_cons,List.length_cons,kS]
theorem lg:∀(k:Nat) (ps:List PV) (i:Nat),(gh k ps)[i]?=(ps[i]?).map fun p=>.tup [.int ((k+i:Nat):Int),p]
 |_,[],i=>by simp[gh]
 |k,p::ps,0=>by simp[gh]
 |k,p::ps,i+1=>by
  rw[gh,List.getElem?_cons_succ,List.getElem?_cons_succ,lg,show k+1+i=k+(i+1) by omega]
noncomputable def Oa (t:iH):nS:=fun ρ Q=>t ρ fun ps=>One ps fun p=>OkL p fun ps=>Q (gh 0 ps)
theorem By (h:PI X tg iter (zk X.K (lA X.K t))):yx X tg iter (Oa t):=PI.weak h fun σ H R hh_=>hh_.elim fun F ρ Qp er q k=>⟨F,ρ,_,er,q,fun ps vs F1 H1 h1 g1 r1=>by
 obtain⟨p,rfl,h⟩:∃p,ps=[p]/\OkL p fun ps=>Qp (gh 0 ps):=by
  unfold One at h1
  split at h1
  ·exact⟨_,rfl,h1⟩
  ·exact h1.elim
 obtain⟨v,r,rfl,r1,er'⟩:=r1
 cases (show r=[] from er')
 obtain⟨a,vs,ps,rfl,hs,rs,h⟩:∃a vs ps,v=.ref a/\SqL X.K F1 a vs/\Reps X.K F1 ps vs/\Qp (gh 0 ps):=by
  cases p with
  |lst ps=>obtain⟨a,vs,rfl,e,rs⟩:=r1;exact⟨a,vs,ps,rfl,SqL.of e,rs,h⟩
  |src ps=>obtain⟨a,vs,rfl,e,rs⟩:=r1;exact⟨a,vs,ps,rfl,e,rs,h⟩
  |_=>exact h.elim
 refine⟨a,rfl,⟨vs,g1.fh.seq hs⟩,k _ _ F1 H1 h g1 fun F2 H2 i s1 s2=>?_⟩
 have h2:=(s1.trans s2).seq hs
 refine⟨fun p e=>?_,fun hl=>⟨vs,h2,by rw[rs.length];rw[kS] at hl;exact hl⟩⟩
 rw[lg] at e
 obtain⟨p',e1,rfl⟩:=Option.map_eq_some_iff.mp e
 obtain⟨v,ev,rv⟩:=rs.get e1
 refine⟨⟨vs,v,h2,ev⟩,fun x H3 ⟨q,y,ex,hq,e2,hy⟩=>?_⟩
 subst ex e2
 have:=hy vs h2
 rw[ev] at this
 cases this
 refine⟨L2.upd F2 q (.tup [.int i,v]),.new s2 hq _,q,[.int i,v],rfl,ah,?_⟩
 refine⟨_,_,rfl,?_,_,_,rfl,(rv.mono s1).mono (aM (s2.free hq) _),rfl⟩
 show V.int i=V.int ((0+i:Nat):Int)
 rw[Nat.zero_add]⟩
noncomputable def P4 (i j:Nat)(t:iH):hG:=fun D ρ=>t ρ fun ps=>Two ps fun p q=>D.nx ((ρ.set i (some (.val p))).set j (some (.val q)))
theorem C1 (h:PS X st (zI i j (lA X.K t))):jv X st (P4 i j t):=PS.weak h fun D σ H hh_=>hh_.elim fun F0 H0 F ρ Dp br h ft=>⟨F,ρ,_,br.er,h,fun ps vs F1 H1 h1 g1 r1=>by
 unfold Two at h1
 split at h1
 ·obtain⟨v,r,rfl,r1,v2,r2,e2,r3,e3⟩:=r1
  subst e2
  cases (show r2=[] from e3)
  exact⟨v,v2,rfl,ft.nx F1 H1 _ _ h1 (((br.grow g1).setV r1).setV r3)⟩
 ·exact h1.elim⟩
end
end Pu
end
section
namespace L2
open PySem PySem.Spec PyProof.Rows
noncomputable def GO:R2:=fun x y H Q=>∃l k xs,x=.ref l/\y=.int k/\H l=some (.tup xs)/\xs≠[]/\1≤k/\k≤1000/\xs.length≤1000/\(k=1->Q (.ref l) H)/\(k≠1->∀p,H p=none->Q (.ref p) (upd H p (.tup (List.replicate k.toNat xs).flatten)))
theorem CZ {X:Cx}:OpR X (binaryOp .Mult) GO:=by
 intro pins s σ H x y v u Q I rx ry h
 obtain⟨l,k,xs,rfl,rfl,hH,hx,k1,k2,k3,q⟩:=h
 cases rx
 obtain⟨t,rfl⟩:=ry
 obtain⟨its,r,p1,z⟩:=I.tuple (SqT.of' hH)
 obtain⟨⟨cls,dd,data,sl⟩,e,hc,n,hd⟩:=id p1
 simp only at hc hd
 subst hc hd
 have hl:=r.length
 have z1:sizeLine ≥ 1000000:=by decide
 have hne:its≠[]:=fun w=>hx (r.nil_iff.mp w)
 have ld:its.length * k.toNat≤1000 * 1000:=Nat.mul_le_mul (by omega) (by omega)
 refine wpAny_binaryOp_repeat_ref (T:="tuple") (U:="int") (by decide) ⟨_,e,rfl⟩ (fun s'=>typeIs_int s' k t) kW PySem.F.fills_int_mul PySem.F.slot_int_rmul qK PySem.F.slot_int_index.lookup
  (call_meets PySem.F.slot_int_rmul (typeIs_int s k t) PySem.F.entry_int_rmul (PySem.F.args_int_rmul_2 _ _) (m9 k t l its.toArray n dd sl) ⟨e,rfl,⟨_,e,rfl⟩,?_⟩)
 by_cases hk:k=1
 ·subst hk
  refine call_meets PySem.F.slot_tuple_mul ⟨_,e,rfl⟩ PySem.F.entry_tuple_mul (PySem.F.args_tuple_mul_2 _ _) (mG l its.toArray n dd sl t) ⟨e,?_⟩
  exact⟨.ref l,H,I,rfl,q.1 rfl⟩
 ·have hsz:((its.toArray.size:Nat):Int) * k=((its.length * k.toNat:Nat):Int):=by
   rw[List.size_toArray,Int.natCast_mul,Int.toNat_of_nonneg (by omega)]
  refine call_meets PySem.F.slot_tuple_mul ⟨_,e,rfl⟩ PySem.F.entry_tuple_mul (PySem.F.args_tuple_mul_2 _ _) (nV l its.toArray n dd sl k t ?a1 ?a2 ?a3 ?a4 ?a5 ?a6) ⟨e,?_⟩
  case a1=>simp;omega
  case a2=>simp[hne];exact hk
  case a3=>simp[hne];omega
  case a4=>rw[hsz];omega
  case a5=>
   rw[hsz]
   intro hh
   have h2:=of_decide_eq_true hh
   omega
  case a6=>
   rw[nM,List.size_toArray,pw,Nat.mul_comm]
   omega
  rw[nM]
  refine⟨.ref s.heap.objs.size,_,I.laid (t':=s.toks) (o:=.tup (List.replicate k.toNat xs).flatten) (fun b ob q=>Heap.get?_push_of_some _ q) (Nat.le_refl _) ?_,rfl,q.2 hk _ (I.hok.fresh (Nat.le_refl _))⟩
  exact⟨by rw[pw,Nat.mul_comm,hl];omega,_,r.rep k.toNat,IsTup.new _ _⟩
end L2
namespace Pu
open PySem PySem.Spec L2
section
variable {X:Cx}{e a b c l tg iter:Expr}{pos:Pos}{te ta tb:eC}{t:iH}{st:Stmt}{i j:Nat}
noncomputable def L1:ij:=fun x y Q=>OkT x fun ps=>OkI y fun k=>ps≠[]/\1≤k/\k≤1000/\ps.length≤1000/\Q (.tup (List.replicate k.toNat ps).flatten)
theorem Cv:eG X.K GO L1:=fun F H x y p q Qp Q s rx ry h k=>by
 obtain⟨a,vs,ps,rfl,rfl,hF,rs,h⟩:=h.rd rx
 obtain⟨n,rfl,rfl,h1,h2,h3,h4,h⟩:=h.rd ry
 have hl:=rs.length
 refine⟨a,n,vs,rfl,rfl,s _ _ hF,fun e=>?_,h2,h3,by omega,fun e=>?_,fun e p hp=>?_⟩
 ·subst e
  exact h1 (List.length_eq_zero_iff.mp hl.symm)
 ·subst e
  refine k _ _ F H h (.refl s) ⟨a,vs,rfl,hF,?_⟩
  simpa using rs
 ·exact k _ _ _ _ h (.new s hp _) ⟨p,_,rfl,ah,(rs.repF _).mono (aM (s.free hp) _)⟩
theorem Fl (ha:fL X a ta)(hb:fL X b tb):PuE X (.BinOp a .Mult b pos) (ra L1 ta tb):=ii CZ Cv ha hb
noncomputable def Gu:ij:=fun x y Q=>OkT x fun ps=>OkT y fun qs=>ps≠[]/\ps.length+qs.length≤sizeLine/\Q (.tup (ps++qs))
theorem Fp:eG X.K (Gs X.K) Gu:=fun F H x y p q Qp Q s rx ry h k=>by
 obtain⟨a,vs,ps,rfl,rfl,hF,rs,h⟩:=h.rd rx
 obtain⟨b,us,qs,rfl,rfl,hF2,rs2,h1,h2,h⟩:=h.rd ry
 have hl:=rs.length
 have hl2:=rs2.length
 refine⟨a,b,vs,us,rfl,rfl,SqT.of (s _ _ hF),SqT.of (s _ _ hF2),fun e=>?_,by omega,fun e=>?_,fun e p hp=>?_⟩
 ·subst e
  exact h1 (List.length_eq_zero_iff.mp hl.symm)
 ·subst e
  have:qs=[]:=List.length_eq_zero_iff.mp hl2.symm
  subst this
  rw[List.append_nil] at h
  exact k _ _ F H h (.refl s) ⟨a,vs,rfl,hF,rs⟩
 ·exact k _ _ _ _ h (.new s hp _) ⟨p,_,rfl,ah,(rs.app rs2).mono (aM (s.free hp) _)⟩
theorem CF (ha:fL X a ta)(hb:fL X b tb):PuE X (.BinOp a .Add b pos) (ra Gu ta tb):=ii Fk Fp ha hb
noncomputable def yY (K:PySem.W.Frag):R2:=fun x y H Q=>∃a b ys,x=.ref a/\y=.ref b/\SqT K H a []/\SqT K H b ys/\Q (.ref b) H
theorem y2:OpR X (binaryOp .Add) (yY X.K):=by
 intro pins s σ H x y v u Q I rx ry h
 obtain⟨a,b,ys,rfl,rfl,ha,hb,q⟩:=h
 cases rx
 cases ry
 obtain⟨its,r1,⟨⟨cls,dd,data,sl⟩,ho,hc,n,hd⟩,_⟩:=I.tuple ha
 obtain⟨its2,r2,⟨⟨cls2,dd2,data2,sl2⟩,ho2,hc2,n2,hd2⟩,_⟩:=I.tuple hb
 simp only at hc hd hc2 hd2
 subst hc hd hc2 hd2
 cases r1
 exact concat_meets ⟨_,ho,rfl⟩ ⟨_,ho2,rfl⟩ noFill_tuple_add seq_tuple_add PySem.F.slot_tuple_add PySem.F.entry_tuple_add (PySem.F.args_tuple_add_2 _ _)
  (PyProof.Rows.tuple_addW0 a b #[] its2.toArray n n2 dd dd2 sl sl2 rfl) ⟨ho,ho2,.ref b,H,I,rfl,q⟩
noncomputable def Gg:ij:=fun x y Q=>OkT x fun ps=>OkT y fun qs=>ps=[]/\Q (.tup qs)
theorem BN:eG X.K (yY X.K) Gg:=fun F H x y p q Qp Q s rx ry h k=>by
 obtain⟨a,vs,ps,rfl,rfl,hF,rs,h⟩:=h.rd rx
 obtain⟨b,us,qs,rfl,rfl,hF2,rs2,h1,hq⟩:=h.rd ry
 cases h1
 cases (show vs=[] from rs)
 exact⟨a,b,us,rfl,rfl,SqT.of (s _ _ hF),SqT.of (s _ _ hF2),k (.tup qs) _ F H hq (.refl s) ⟨b,us,rfl,hF2,rs2⟩⟩
theorem zx (ha:fL X a ta)(hb:fL X b tb):PuE X (.BinOp a .Add b pos) (ra Gg ta tb):=ii y2 BN ha hb
noncomputable def QH (te:eC)(tl th:xV):eC:=fun ρ Q=>te ρ fun x=>tl ρ fun l=>th ρ fun h=>OkT x fun ps=>¬(HT.sIx ps.length 0 l=0/\HT.sIx ps.length ps.length h=ps.length)/\Q (.tup (cut ps l h))
theorem yA {lo hi:Option Expr}{tl th:xV}{p2:Pos}(he:fL X e te)(hl:zJ X lo tl)(hh:zJ X hi th):PuE X (.Subscript e (.Slice lo hi none p2) pos) (QH te tl th):=PE.weak (nN IB he hl hh) fun σ H Q hh_=>hh_.elim fun F ρ Qp er q k=>⟨F,ρ,_,er,q,fun p v F1 H1 h1 g1 r1=>
 ⟨F1,ρ,_,er.grow g1,h1,fun l F2 H2 h2 g2=>⟨F2,ρ,_,(er.grow g1).grow g2,h2,fun h F3 H3 h3 g3=>by
  have gg:=(g1.trans g2).trans g3
  obtain⟨a,vs,ps,rfl,rfl,hF,rs,hn,q⟩:=h3.rd (r1.grow (g2.trans g3))
  refine⟨a,vs,rfl,SqT.of (gg.fh _ _ hF),by rw[rs.length];exact hn,fun p hp=>k _ _ _ _ q (gg.trans (.new gg.fh hp _)) ⟨p,_,rfl,ah,rs.cut.mono (aM (gg.fh.free hp) _)⟩⟩⟩⟩⟩
noncomputable def isPair:PV->Bool
 |.tup ps=>match ps with
  |[.int _,.int _]=>true
  |_=>false
 |_=>false
theorem isPair.ex {p:PV}(h:isPair p=true):∃i j,p=.tup [.int i,.int j]:=by
 unfold isPair at h
 split at h
 ·split at h
  ·exact⟨_,_,rfl⟩
  ·cases h
 ·cases h
theorem Reps.mem {K:PySem.W.Frag}{F:Hp}:∀{ps:List PV} {vs:List V},Reps K F ps vs->∀v∈vs,∃p∈ps,Rep K F p v
 |[],_,h,v,hv=>by rw[show _=[] from h] at hv;cases hv
 |p::ps,_,⟨u,r,e,h,t⟩,v,hv=>by
  subst e
  rcases List.mem_cons.mp hv with z|z
  ·subst z;exact⟨p,List.mem_cons_self,h⟩
  ·obtain⟨q,hq,hr⟩:=t.mem v z
   exact⟨q,List.mem_cons_of_mem _ hq,hr⟩
end
end Pu
end
section
namespace Pu
open PySem PySem.Spec L2
noncomputable def O2 (n:Nat)(ps:List PV):al:=ps.map (fun p=>some (Sl.val p))++List.replicate (n - ps.length) none
noncomputable def ph (K:PySem.W.Frag):Sp:=fun vs H Q _=>∃(a:Addr) (ns:List Int),vs=[.ref a]/\SqL K H a (ns.map V.int)/\ns.length≤63/\∀H',Q (.bl true) H'
theorem hR {K:PySem.W.Frag}{F:Hp}:∀(ns:List Int),Reps K F (ns.map PV.int) (ns.map V.int)
 |[]=>rfl
 |n::ns=>⟨_,_,rfl,rfl,hR ns⟩
theorem xg {X:Cx}{body:List Stmt}{ts:hG}{N:List Str}{H:Hp}{vs:List V}{Q:VK}{E:XK}(hb:mE X body ts)(h:ph X.K vs H Q E)
  (hp:∀ns:List Int,ns.length≤63->ts (PEnds.of (fun r=>r=.v (.bl true))) (O2 N.length [.src (ns.map PV.int)])):∃t,PSs X body t/\t { nx:=fun _ H'=>Q .non H',rt:=Q } (L2.fO N vs) H:=by
 obtain⟨a,ns,rfl,hS,hl,q⟩:=h
 refine⟨_,hb,H,H,H,O2 N.length [.src (ns.map PV.int)],_,?_,hp ns hl,?_⟩
 ·have er:=rm (K:=X.K) (Same.refl H) N (ps:=[.src (ns.map PV.int)]) (vs:=[.ref a]) ⟨_,_,rfl,⟨a,_,rfl,hS,hR ns⟩,rfl⟩
  exact⟨er,.refl (Same.refl H),fun i a o=>(jm o).elim,fun i j a o _=>(jm o).elim⟩
 ·refine⟨fun F' H' σ' ρ' q b=>?_,fun F' H' σ' ρ' q b=>q.elim,fun F' H' σ' ρ' q b=>q.elim,fun p v F' H' e g rr=>?_,fun ps a vs F' H' e g h0 hF hH rs=>?_⟩
  ·have e:PR.v .non=PR.v (.bl true):=q
   cases e
  ·have e':PR.v p=PR.v (.bl true):=e
   cases e'
   cases (show v=.bl true from rr)
   exact q H'
  ·have e':PR.n ps=PR.v (.bl true):=e
   cases e'
theorem P8 {l:PySem.W.OpenLaw}{q:Program}{loose:List Str}{XP:(Str->Option Value)->Heap->Prop}{YP:World->Heap->Prop}{d:DefRec}{K:Params->PySem.W.Frag}{k:Nat}(hk:k≤40)(hn:l.most=some 63)(hdf:d.params.defaults=[])
  (hY:∀(w:World) (h:Heap),YP w h->(K w.params).In h)
  (F:∀(w:World) (mg:Str->Option Value) (fa:Addr) (h:Heap),(K w.params).In h->h.Ns mainGlobals mg->mg d.name=some (.ref fa) →
   ∃fd:FuncData,(∀(s:Shared) (u:Value),BindsTo s fd ⟨[u],[]⟩ [("_law_script",u)])/\∀base:Heap,(K w.params).In base/\base.Ns mainGlobals mg->FnOk l.prog w (K w.params) mg base rZ k fa fd ["_law_script"] (ph (K w.params))) :
  PySem.W.WalkO q loose XP YP l.row.toRowW d [] (fun f vs=>PySem.call f vs):=by
 have R:Room 40 callerA:=⟨rfl,by decide,by decide⟩
 exact L2.EK (n:=63) (k:=k) (x:="_law_script") (CX:=fun _=>rZ) (sp:=fun w=>ph (K w.params)) hn (by first|decide|omega) hdf (R.mono hk) hY (fun w mg fa h a b c=>let ⟨fd,x,y⟩:=F w mg fa h a b c;⟨fd,x,fun base p1 p2=>y base ⟨p1,p2⟩⟩)
  (fun _ _ a ns hl _ hS=>⟨a,ns,rfl,hS,hl,fun _=>rfl⟩) fun _ _ _ _ _ z=>z
end Pu
end
section
namespace Fo
noncomputable abbrev up (us:List Nat)(x:Nat):Nat:=us.getD x 0
theorem eR {us:List Nat}{x v t:Nat}(hx:x<us.length):up (us.set x v) t=if t=x then v else up us t:=by
 simp only[up,List.getD_eq_getElem?_getD,List.getElem?_set]
 by_cases h:x=t
 ·subst h;simp[hx]
 ·simp[h,Ne.symm h]
structure Fst (us:List Nat):Prop where
 bnd:∀x,x<us.length->up us x<us.length
 rk:∃r:Nat->Nat,(∀x,x<us.length->r x<us.length)/\∀x,x<us.length->up us x≠x->r (up us x)<r x
inductive Way (us:List Nat):Nat->List Nat->Prop where
 |head {x:Nat}:up us x=x->Way us x [x]
 |step {x:Nat} {l:List Nat}:up us x≠x->Way us (up us x) l->Way us x (x::l)
theorem Way.det {us:List Nat}{x:Nat}{l l':List Nat}(h:Way us x l)(h':Way us x l'):l=l':=by
 induction h generalizing l' with
 |head e=>cases h' with
  |head _=>rfl
  |step n _=>exact absurd e n
 |step n _ ih=>cases h' with
  |head e=>exact absurd e n
  |step _ q=>rw[ih q]
theorem Way.ne {us:List Nat}{x:Nat}{l:List Nat}(h:Way us x l):l≠[]:=by cases h<;>simp
theorem Way.pos {us:List Nat}{x:Nat}{l:List Nat}(h:Way us x l):1≤l.length:=by cases h<;>simp
theorem Way.cons {us:List Nat}{x:Nat}{l:List Nat}(h:Way us x l):∃t,l=x::t:=by cases h<;>simp
theorem Way.mem_self {us:List Nat}{x:Nat}{l:List Nat}(h:Way us x l):x∈l:=by cases h<;>simp
noncomputable def dZ (l:List Nat):Nat:=l.getLastD 0
theorem cX {x:Nat}{l:List Nat}(h:l≠[]):dZ (x::l)=dZ l:=by
 cases l with
 |nil=>exact absurd rfl h
 |cons y t=>simp[dZ,List.getLastD_cons]
theorem se {l:List Nat}(h:l≠[]):dZ l∈l:=by
 induction l with
 |nil=>exact absurd rfl h
 |cons y t ih=>
  cases t with
  |nil=>simp[dZ]
  |cons z t=>rw[cX (by simp)];exact List.mem_cons_of_mem _ (ih (by simp))
theorem Way.head_last {us:List Nat}{x:Nat}{l:List Nat}(h:Way us x l):up us (dZ l)=dZ l:=by
 induction h with
 |head e=>exact e
 |step _ w ih=>rw[cX w.ne];exact ih
theorem Way.lt {us:List Nat}{x:Nat}{l:List Nat}(h:Way us x l)(b:∀x,x<us.length->up us x<us.length)(hx:x<us.length):∀y∈l,y<us.length:=by
 induction h with
 |head e=>intro y hy;rw[List.mem_singleton] at hy;subst hy;exact hx
 |step n w ih=>
  intro y hy
  rcases List.mem_cons.mp hy with rfl|hy
  ·exact hx
  ·exact ih (b _ hx) y hy
theorem Way.rank {us:List Nat}{x:Nat}{l:List Nat}(h:Way us x l)(b:∀x,x<us.length->up us x<us.length){r:Nat->Nat}(hr:∀x,x<us.length->up us x≠x->r (up us x)<r x)(hx:x<us.length):∀y∈l,r y≤r x:=by
 induction h with
 |head e=>intro y hy;rw[List.mem_singleton] at hy;subst hy;exact Nat.le_refl _
 | @step x l n w ih=>
  intro y hy
  rcases List.mem_cons.mp hy with rfl|hy
  ·exact Nat.le_refl _
  ·exact Nat.le_trans (ih (b _ hx) y hy) (Nat.le_of_lt (hr x hx n))
theorem Fst.way {us:List Nat}(f:Fst us){x:Nat}(hx:x<us.length):∃l,Way us x l/\l.length≤us.length:=by
 obtain⟨b,r,hb,hr⟩:=f
 suffices h:∀k x,x<us.length->r x≤k->∃l,Way us x l/\l.length≤k+1 by
  obtain⟨l,w,hl⟩:=h (r x) x hx (Nat.le_refl _)
  exact⟨l,w,by have:=hb x hx;omega⟩
 intro k
 induction k with
 |zero=>
  intro x hx h0
  by_cases e:up us x=x
  ·exact⟨_,.head e,by simp⟩
  ·exact absurd (hr x hx e) (by omega)
 |succ k ih=>
  intro x hx h0
  by_cases e:up us x=x
  ·exact⟨_,.head e,by simp⟩
  ·obtain⟨l,w,hl⟩:=ih (up us x) (b x hx) (by have:=hr x hx e;omega)
   exact⟨_,.step e w,by simp;omega⟩
theorem Way.congr {us us':List Nat}{x:Nat}{l:List Nat}(h:Way us x l)(e:∀y∈l,up us' y=up us y):Way us' x l:=by
 induction h with
 | @head x q=>exact .head (by rw[e x (by simp),q])
 | @step x l n w ih=>
  have q:up us' x=up us x:=e x (by simp)
  exact .step (by rw[q];exact n) (by rw[q];exact ih fun y hy=>e y (List.mem_cons_of_mem _ hy))
theorem Way.closed {us:List Nat}{x:Nat}{l:List Nat}(h:Way us x l):∀y∈l,up us y∈l:=by
 induction h with
 | @head x q=>intro y hy;rw[List.mem_singleton] at hy;subst hy;rw[q];simp
 | @step x l n w ih=>
  intro y hy
  rcases List.mem_cons.mp hy with rfl|hy
  ·exact List.mem_cons_of_mem _ w.mem_self
  ·exact List.mem_cons_of_mem _ (ih y hy)
theorem Way.later {us:List Nat}{x:Nat}{l:List Nat}(h:Way us x l):∀y∈l,∃l2,Way us y l2/\dZ l2=dZ l/\l2.length≤l.length/\∀z∈l2,z∈l:=by
 induction h with
 | @head x q=>intro y hy;rw[List.mem_singleton] at hy;subst hy;exact⟨_,.head q,rfl,Nat.le_refl _,fun _ h=>h⟩
 | @step x l n w ih=>
  intro y hy
  rcases List.mem_cons.mp hy with rfl|hy
  ·exact⟨_,.step n w,rfl,Nat.le_refl _,fun _ h=>h⟩
  ·obtain⟨l2,a,b,c,d⟩:=ih y hy
   exact⟨l2,a,by rw[b,cX w.ne],by simp;omega,fun z hz=>List.mem_cons_of_mem _ (d z hz)⟩
structure Shorter (us us':List Nat):Prop where
 len:us'.length=us.length
 up:∀t,t<us.length->(up us t=t/\Fo.up us' t=t)\/(Fo.up us t≠t/\∃l,Way us (Fo.up us t) l/\Fo.up us' t∈l)
theorem Shorter.refl {us:List Nat}(f:Fst us):Shorter us us:=⟨rfl,fun t ht=>by
 by_cases e:Fo.up us t=t
 ·exact .inl ⟨e,e⟩
 ·obtain⟨l,w,_⟩:=f.way (f.bnd t ht)
  exact .inr ⟨e,l,w,w.mem_self⟩⟩
theorem Shorter.fst {us us':List Nat}(s:Shorter us us')(f:Fst us):Fst us':=by
 obtain⟨b,r,hb,hr⟩:=f
 refine⟨fun x hx=>?_,r,fun x hx=>?_,fun x hx hn=>?_⟩
 ·rw[s.len] at hx ⊢
  rcases s.up x hx with ⟨_,e⟩|⟨_,l,w,m⟩
  ·rw[e];exact hx
  ·exact w.lt b (b x hx) _ m
 ·rw[s.len] at hx ⊢;exact hb x hx
 ·rw[s.len] at hx
  rcases s.up x hx with ⟨_,e⟩|⟨n,l,w,m⟩
  ·exact absurd e hn
  ·exact Nat.lt_of_le_of_lt (w.rank b hr (b x hx) _ m) (hr x hx n)
theorem Shorter.way {us us':List Nat}(s:Shorter us us')(f:Fst us){t:Nat}(ht:t<us.length){l:List Nat}(w:Way us t l):∃l',Way us' t l'/\dZ l'=dZ l/\l'.length≤l.length:=by
 obtain⟨b,r,hb,hr⟩:=f
 suffices h:∀k t,t<us.length->r t≤k->∀l,Way us t l->∃l',Way us' t l'/\dZ l'=dZ l/\l'.length≤l.length from h (r t) t ht (Nat.le_refl _) l w
 intro k
 induction k with
 |zero=>
  intro t ht h0 l w
  rcases s.up t ht with ⟨e,e'⟩|⟨n,_⟩
  ·cases w with
   |head _=>exact⟨_,.head e',rfl,Nat.le_refl _⟩
   |step n _=>exact absurd e n
  ·exact absurd (hr t ht n) (by omega)
 |succ k ih=>
  intro t ht h0 l w
  rcases s.up t ht with ⟨e,e'⟩|⟨n,l1,w1,m⟩
  ·cases w with
   |head _=>exact⟨_,.head e',rfl,Nat.le_refl _⟩
   |step n _=>exact absurd e n
  ·cases w with
   |head e=>exact absurd e n
   | @step _ l0 _ w0=>
    obtain rfl:=w0.det w1
    obtain⟨l2,w2,e2,c2,_⟩:=w0.later _ m
    have hy:Fo.up us' t<us.length:=w0.lt b (b t ht) _ m
    have hry:r (Fo.up us' t)<r t:=Nat.lt_of_le_of_lt (w0.rank b hr (b t ht) _ m) (hr t ht n)
    obtain⟨l3,w3,e3,c3⟩:=ih _ hy (by omega) l2 w2
    refine⟨t::l3,.step (fun e=>?_) w3,?_,?_⟩
    ·rw[e] at hry;omega
    ·rw[cX w3.ne,e3,e2,cX w0.ne]
    ·simp;omega
inductive Halv:List Nat->Nat->Nat->List Nat->Nat->Prop where
 |stop {us:List Nat} {x:Nat}:up us x=x->Halv us x x us 0
 |step {us:List Nat} {x h n:Nat} {us':List Nat}:up us x≠x->Halv (us.set x (up us (up us x))) (up us (up us x)) h us' n->Halv us x h us' (n+1)
inductive Splt:List Nat->Nat->Nat->List Nat->Nat->Prop where
 |stop {us:List Nat} {x:Nat}:up us x=x->Splt us x x us 0
 |step {us:List Nat} {x h n:Nat} {us':List Nat}:up us x≠x->Splt (us.set x (up us (up us x))) (up us x) h us' n->Splt us x h us' (n+1)
theorem Way.set {us:List Nat}{x y v:Nat}{l:List Nat}(w:Way us y l)(hx:x<us.length)(h:x∉l):Way (us.set x v) y l:=
 w.congr fun z hz=>by rw[eR hx,if_neg (fun e:z=x=>h (e▸hz))]
noncomputable def tI:List Nat->List Nat
 |[]=>[]
 |[x]=>[x]
 |x::_::l=>x::tI l
theorem o9:∀(l:List Nat) (x:Nat),x∈tI l->x∈l
 |[],_,h=>h
 |[_],_,h=>h
 |x::y::l,z,h=>by
  rcases List.mem_cons.mp h with rfl|h
  ·simp
  ·exact List.mem_cons_of_mem _ (List.mem_cons_of_mem _ (o9 l z h))
end Fo
end
section
namespace Fo
open PySem
noncomputable def NH (us:List Nat)(x h:Nat)(us':List Nat)(n:Nat):Prop:=us'=us/\∃l,Way us x l/\h=dZ l/\n+1=l.length
noncomputable def Ec (us:List Nat)(x h:Nat)(us':List Nat)(n:Nat):Prop:=∃l,Way us x l/\h=dZ l/\n=l.length / 2/\us'.length=us.length/\∀t,up us' t=if t∈tI l then up us (up us t) else up us t
noncomputable def FM (us:List Nat)(x h:Nat)(us':List Nat)(n:Nat):Prop:=∃l,Way us x l/\h=dZ l/\n+1=l.length/\us'.length=us.length/\∀t,up us' t=if t∈l then up us (up us t) else up us t
noncomputable def PX (us:List Nat)(x h:Nat)(us':List Nat)(n:Nat):Prop:=us'=us.set x (up us (up us x))/\∃l,Way us x l/\h=dZ l/\n+1=l.length
noncomputable def Jm (us:List Nat)(x h:Nat)(us':List Nat)(n:Nat):Prop:=∃l,Way us x l/\h=dZ l/\n+1=l.length/\us'.length=us.length/\∀t,up us' t=if t∈l then h else up us t
inductive RM:Str->List Nat->Nat->Nat->List Nat->Nat->Prop where
 |none {us x h us' n}:NH us x h us' n->RM "none" us x h us' n
 |whole {us x h us' n}:Jm us x h us' n->RM "whole" us x h us' n
 |halves {us x h us' n}:Ec us x h us' n->RM "halves" us x h us' n
 |splits {us x h us' n}:FM us x h us' n->RM "splits" us x h us' n
 |one {us x h us' n}:PX us x h us' n->RM "one" us x h us' n
noncomputable def v5:List Str:=["none","whole","halves","splits","one"]
structure Frst (us:List Nat):Prop where
 one:1≤us.length
 most:us.length≤40
 fst:Fst us
end Fo
namespace Pu
open PySem PySem.Spec L2 Fo
noncomputable def nI (n:Nat):PV:=.int n
noncomputable def nums (us:List Nat):List PV:=us.map nI
theorem Grow.tup {F H F' H':Hp}(g:Grow F H F' H'){p:Addr}{vs:List V}(h:H' p=some (.tup vs)):Grow F H (L2.upd F' p (.tup vs)) H'/\Same F' (L2.upd F' p (.tup vs)):=by
 have sm:Same F' (L2.upd F' p (.tup vs)):=fun b o e=>by
  by_cases hb:b=p
  ·subst hb;rw[ah,←h];exact (g.fh b o e)
  ·rw[ai hb];exact e
 refine⟨⟨g.hh,g.ff.trans sm,fun b o e=>?_,fun b o e=>?_⟩,sm⟩
 ·by_cases hb:b=p
  ·subst hb;rw[ah] at e;rw[h];exact e
  ·rw[ai hb] at e;exact g.fh b o e
 ·by_cases hb:b=p
  ·subst hb;rw[ah] at e;cases e;exact .inr (.inr ⟨_,rfl⟩)
  ·rw[ai hb] at e;exact g.nw b o e
theorem kC {K:PySem.W.Frag}{F:Hp}:∀{us:List Nat} {vs:List V},Reps K F (nums us) vs->vs=us.map fun n:Nat=>V.int (n:Int)
 |[],_,h=>h
 |n::us,_,⟨v,r,e,h1,h2⟩=>by
  subst e
  cases (show v=_ from h1)
  rw[kC h2];rfl
end Pu
end
section
namespace Dp
open PySem PySem.Spec L2 Pu
inductive RV where
 |fz (p:PV)|nw (ps:List PV)|ln (p:PV)
noncomputable def RV.pv:RV->PV
 |.fz p=>p
 |.nw ps=>.lst ps
 |.ln p=>p
noncomputable def RV.fr:RV->Option PV
 |.fz p=>some p
 |.nw ps=>some (.lst ps)
 |.ln _=>none
noncomputable abbrev FE:=al->Option RV
noncomputable abbrev FB:=al->Option Bool
noncomputable abbrev FA:=al->Option (List RV)
noncomputable abbrev FI:=al->Option (List PV)
noncomputable def RvOk (K:PySem.W.Frag)(H F' H':Hp)(v:V):RV->Prop
 |.fz p=>Rep K F' p v
 |.nw ps=>∃a vs,v=.ref a/\H a=none/\F' a=none/\H' a=some (.lst vs)/\Reps K F' ps vs
 |.ln p=>RdV K F' H' p v
noncomputable def lR (K:PySem.W.Frag)(f:FE):TE:=fun σ H Q=>∃F ρ r,ER K F H σ ρ/\f ρ=some r/\∀v F' H',Grow F H F' H'->RvOk K H F' H' v r->Q v H'
theorem lR.elim {K:PySem.W.Frag}{f:FE}{σ:St}{H:Hp}{Q:VK}{C:Prop}(h:lR K f σ H Q)(k:∀F ρ r,ER K F H σ ρ->f ρ=some r->(∀v F' H',Grow F H F' H'->RvOk K H F' H' v r->Q v H')->C):C:=by obtain⟨F,ρ,r,a,b,c⟩:=h;exact k F ρ r a b c
noncomputable def DE (X:Cx)(e:Expr)(f:FE):Prop:=PE X e (lR X.K f)
noncomputable def tT (f:FE):eC:=fun ρ Q=>∃r,f ρ=some r/\Q r.pv
noncomputable def tF (f:FE):eC:=fun ρ Q=>∃r p,f ρ=some r/\r.fr=some p/\Q p
noncomputable def tN (f:FE):oH:=fun ρ Q=>∃ps,f ρ=some (.nw ps)/\Q ps
noncomputable def yy (f:FB):jM:=fun ρ Q=>∃b,f ρ=some b/\Q b
noncomputable def Jv (f:FA):iH:=fun ρ Q=>∃rs ps,f ρ=some rs/\rs.mapM RV.fr=some ps/\Q ps
noncomputable def FD (f:FA):iH:=fun ρ Q=>∃rs,f ρ=some rs/\Q (rs.map RV.pv)
noncomputable def GZ (f:FI):nS:=fun ρ Q=>∃its,f ρ=some its/\Q its
section
variable {X:Cx}{e a b c:Expr}{pos:Pos}{f fa fb fc:FE}{te t1 t2:eC}{tn n1 n2:oH}{i:Nat}
theorem RvOk.rd {K:PySem.W.Frag}{H F' H':Hp}{v:V}:∀{r:RV},RvOk K H F' H' v r->RdV K F' H' r.pv v
 |.fz _,h=>.frz h
 |.nw _,⟨_,_,e,_,h1,h2,h3⟩=>by subst e;exact .own h2 h1 h3
 |.ln _,h=>h
theorem DE.tt (h:DE X e f):fL X e (tT f):=PE.weak h fun σ H Q hh_=>hh_.elim fun F ρ Qp er ⟨r,e,q⟩ k=>⟨F,ρ,r,er,e,fun v F' H' g ro=>k _ v F' H' q g ro.rd⟩
theorem DE.ee (h:DE X e f):PuE X e (tF f):=PE.weak h fun σ H Q hh_=>hh_.elim fun F ρ Qp er ⟨r,p,e,ef,q⟩ k=>⟨F,ρ,r,er,e,fun v F' H' g ro=>by
 cases r with
 |fz p'=>cases ef;exact k _ v F' H' q g ro
 |nw ps=>
  cases ef
  obtain⟨a,vs,rfl,h0,hF,hH,rs⟩:=ro
  exact k _ _ _ H' q (g.freeze h0 hF hH) ⟨a,vs,rfl,ah,rs.mono (aM hF _)⟩
 |ln p'=>cases ef⟩
theorem DE.nn (h:DE X e f):PuN X e (tN f):=PE.weak h fun σ H Q hh_=>hh_.elim fun F ρ Qp er ⟨ps,e,q⟩ k=>⟨F,ρ,_,er,e,fun v F' H' g ro=>by
 obtain⟨a,vs,rfl,h0,hF,hH,rs⟩:=ro
 exact k ps a vs F' H' q g h0 hF hH rs⟩
theorem DE.ofE (h:PuE X e te)(w:∀ρ r,f ρ=some r->∃p,r=.fz p/\te ρ (fun x=>x=p)):DE X e f:=PE.weak h fun σ H Q hh_=>hh_.elim fun F ρ r er e k=>by
 obtain⟨p,rfl,t⟩:=w ρ r e
 exact⟨F,ρ,_,er,t,fun q v F' H' hq g rr=>by subst hq;exact k v F' H' g rr⟩
theorem DE.ofN (h:PuN X e tn)(w:∀ρ r,f ρ=some r->∃ps,r=.nw ps/\tn ρ (fun x=>x=ps)):DE X e f:=PE.weak h fun σ H Q hh_=>hh_.elim fun F ρ r er e k=>by
 obtain⟨p,rfl,t⟩:=w ρ r e
 exact⟨F,ρ,_,er,t,fun q a vs F' H' hq g h0 hF hH rr=>by subst hq;exact k _ F' H' g ⟨a,vs,rfl,h0,hF,hH,rr⟩⟩
theorem PE.or {t u:TE}(h:PE X e t)(h':PE X e u):PE X e (fun σ H Q=>t σ H Q\/u σ H Q):=fun pins s σ H Q I q=>q.elim (h pins s σ H Q I) (h' pins s σ H Q I)
theorem DE.of2 (hE:PuE X e te)(hN:PuN X e tn)(w:∀ρ r,f ρ=some r->(∃p,r=.fz p/\te ρ (fun x=>x=p))\/∃ps,r=.nw ps/\tn ρ (fun x=>x=ps)):DE X e f:=PE.weak (PE.or hE hN) fun σ H Q hh_=>hh_.elim fun F ρ r er e k=>by
 rcases w ρ r e with ⟨p,rfl,t⟩|⟨p,rfl,t⟩
 ·exact .inl ⟨F,ρ,_,er,t,fun q v F' H' hq g rr=>by subst hq;exact k v F' H' g rr⟩
 ·exact .inr ⟨F,ρ,_,er,t,fun q a vs F' H' hq g h0 hF hH rr=>by subst hq;exact k _ F' H' g ⟨a,vs,rfl,h0,hF,hH,rr⟩⟩
theorem jK (h:PuE X e t1)(h':PuE X e t2):PuE X e (fun ρ Q=>t1 ρ Q\/t2 ρ Q):=PE.weak (PE.or h h') fun σ H Q hh_=>hh_.elim fun F ρ Qp er q k=>q.elim (fun q=>.inl ⟨F,ρ,Qp,er,q,k⟩) fun q=>.inr ⟨F,ρ,Qp,er,q,k⟩
theorem y1 (h:PuN X e n1)(h':PuN X e n2):PuN X e (fun ρ Q=>n1 ρ Q\/n2 ρ Q):=PE.weak (PE.or h h') fun σ H Q hh_=>hh_.elim fun F ρ Qp er q k=>q.elim (fun q=>.inl ⟨F,ρ,Qp,er,q,k⟩) fun q=>.inr ⟨F,ρ,Qp,er,q,k⟩
noncomputable def sl (ρ:al)(i:Nat):Option Sl:=(ρ[i]?).join
noncomputable def CJ:Sl->RV
 |.val p=>.fz p
 |.own ps=>.ln (.lst ps)
 |.dic ks ps=>.ln (.dct ks ps)
noncomputable def fV (i:Nat):FE:=fun ρ=>(sl ρ i).map CJ
theorem fR {ρ:al}{s:Sl}(h:sl ρ i=some s):ρ[i]?=some (some s):=by
 unfold sl at h
 cases q:ρ[i]? with
 |none=>rw[q] at h;cases h
 |some o=>rw[q] at h;rw[show o=some s from h]
theorem Re (h:PE X e (gz i)):DE X e (fV i):=PE.weak h fun σ H Q hh_=>hh_.elim fun F ρ r er e k=>by
 unfold fV at e
 obtain⟨s,es,rfl⟩:=Option.map_eq_some_iff.mp e
 have e1:=fR es
 obtain⟨v,ev,rd⟩:=er.rd e1
 refine⟨v,ev,k v F H (.refl er.fz) ?_⟩
 cases s with
 |val p=>
  have:=er.sl i _ e1
  rw[ev] at this
  exact this
 |own ps=>exact rd
 |dic ks ps=>exact rd
noncomputable def fC (p:PV):FE:=fun _=>some (.fz p)
theorem G6 {p:PV}(h:PuE X e (pC p)):DE X e (fC p):=.ofE h fun ρ r e=>by cases e;exact⟨p,rfl,rfl⟩
theorem M8 {i:Int}{j}:DE X (.Constant (.int i) j pos) (fC (.int i)):=G6 Li
theorem PU {i:Bool}{j}:DE X (.Constant (.bool i) j pos) (fC (.bl i)):=G6 Ml
theorem Nv {j}:DE X (.Constant .none j pos) (fC .non):=G6 Ka
theorem Ox {x:Str}{j}:DE X (.Constant (.str x) j pos) (fC (.str x)):=G6 JZ
noncomputable def aq (g:PV->PV->Option RV)(a b:FE):FE:=fun ρ=>(a ρ).bind fun x=>(b ρ).bind fun y=>g x.pv y.pv
theorem rO {α β γ:Type}{a:Option α}{b:Option β}{g:α->β->Option γ}{r:γ}(h:(a.bind fun x=>b.bind fun y=>g x y)=some r):∃x y,a=some x/\b=some y/\g x y=some r:=by
 obtain⟨x,e1,h⟩:=Option.bind_eq_some_iff.mp h
 obtain⟨y,e2,h⟩:=Option.bind_eq_some_iff.mp h
 exact⟨x,y,e1,e2,h⟩
theorem pP {g:PV->PV->Option RV}{gE:ij}(h:PuE X e (ra gE (tT fa) (tT fb)))(w:∀x y r,g x y=some r->∃p,r=.fz p/\gE x y (fun z=>z=p)):DE X e (aq g fa fb):=.ofE h fun ρ r e=>by
 obtain⟨x,y,e1,e2,e3⟩:=rO e
 obtain⟨p,rfl,q⟩:=w _ _ r e3
 exact⟨p,rfl,x,e1,y,e2,q⟩
noncomputable def rI (f:Int->Int->PV):PV->PV->Option RV
 |.int i,.int j=>some (.fz (f i j))
 |_,_=>none
theorem GX {f:Int->Int->PV}:∀x y r,rI f x y=some r->∃p,r=.fz p/\B9 f x y (fun z=>z=p):=fun x y r h=>by
 unfold rI at h
 split at h
 ·cases h;exact⟨_,rfl,rfl⟩
 ·cases h
noncomputable def Iv (C:Int->Int->Prop)[∀i j,Decidable (C i j)](f:Int->Int->PV):PV->PV->Option RV
 |.int i,.int j=>if C i j then some (.fz (f i j)) else none
 |_,_=>none
theorem nJ {C D:Int->Int->Prop}[∀i j,Decidable (C i j)]{f:Int->Int->PV}(hc:∀i j,C i j->D i j):∀x y r,Iv C f x y=some r->∃p,r=.fz p/\Pu.gI D f x y (fun z=>z=p):=fun x y r h=>by
 unfold Iv at h
 split at h
 ·split at h
  ·cases h;exact⟨_,rfl,hc _ _ (by assumption),rfl⟩
  ·cases h
 ·cases h
end
end Dp
end
section
namespace Dp
open PySem PySem.Spec L2 Pu
theorem big {n:Nat}(h:n≤100000):n≤sizeLine:=Nat.le_trans h (by decide)
theorem QJ {n:Nat}(h:n≤100000):n<sizeLine:=Nat.lt_of_le_of_lt h (by decide)
section
variable {X:Cx}{e a b c:Expr}{es bW:List Expr}{pos:Pos}{f fa fb fc:FE}{fs:FA}{i:Nat}{ba bb:FB}
noncomputable def dQ:PV->PV->Option RV
 |.int i,.int j=>some (.fz (.int (i+j)))
 |.lst ps,.lst qs=>if ps.length+qs.length≤100000 then some (.nw (ps++qs)) else none
 |.tup ps,.tup qs=>if ps.length+qs.length≤100000 then some (.fz (.tup (ps++qs))) else none
 |.str x,.str y=>if x.length+y.length≤100000 then some (.fz (.str (x++y))) else none
 |_,_=>none
noncomputable def GM:ij:=fun x y Q=>match x,y with
 |.str x,.str y=>x.length+y.length≤sizeLine/\Q (.str (x++y))
 |_,_=>False
theorem Ez:eG X.K (fun x y H Q=>∃i j,x=.str i/\y=.str j/\i.length+j.length≤sizeLine/\Q (.str (i++j)) H) GM:=fun F H x y p q Qp Q s rx ry h k=>by
 unfold GM at h
 split at h
 ·cases rx with
  |frz rx=>cases ry with
   |frz ry=>exact⟨_,_,rx,ry,h.1,k _ _ F H h.2 (.refl s) rfl⟩
 ·exact h.elim
theorem Nq (ha:DE X a fa)(hb:DE X b fb):DE X (.BinOp a .Add b pos) (aq dQ fa fb):=
 .of2 (jK (Jq ha.tt hb.tt) (jK (CF ha.tt hb.tt) (jK (ii ux Ez ha.tt hb.tt) (zx ha.tt hb.tt)))) (Kv ha.tt hb.tt) fun ρ r e=>by
  obtain⟨x,y,e1,e2,e3⟩:=rO e
  unfold dQ at e3
  split at e3
  ·next p q=>cases e3;exact .inl ⟨_,rfl,.inl ⟨x,e1,y,e2,by rw[p,q];rfl⟩⟩
  ·next ps qs p q=>
   split at e3
   ·cases e3;exact .inr ⟨_,rfl,x,e1,y,e2,by rw[p,q];exact⟨big (by assumption),rfl⟩⟩
   ·cases e3
  ·next ps qs p q=>
   split at e3
   ·next h=>
    cases e3
    by_cases z:ps=[]
    ·exact .inl ⟨_,rfl,.inr (.inr (.inr ⟨x,e1,y,e2,by rw[p,q];exact⟨z,by rw[z,List.nil_append]⟩⟩))⟩
    ·exact .inl ⟨_,rfl,.inr (.inl ⟨x,e1,y,e2,by rw[p,q];exact⟨z,big h,rfl⟩⟩)⟩
   ·cases e3
  ·next u v p q=>
   split at e3
   ·cases e3;exact .inl ⟨_,rfl,.inr (.inr (.inl ⟨x,e1,y,e2,by rw[p,q];exact⟨big (by assumption),rfl⟩⟩))⟩
   ·cases e3
  ·cases e3
noncomputable def kR:PV->PV->Option RV:=rI fun i j=>.int (i - j)
theorem LY (ha:DE X a fa)(hb:DE X b fb):DE X (.BinOp a .Sub b pos) (aq kR fa fb):=pP (JV ha.tt hb.tt) GX
noncomputable def jg:PV->PV->Option RV
 |.int i,.int j=>if (i.natAbs<2 ^ 64)\/(j.natAbs<2 ^ 64) then some (.fz (.int (i * j))) else none
 |.lst ps,.int j=>if j≤1000/\-1000≤j/\ps.length≤100 then some (.nw (List.replicate j.toNat ps).flatten) else none
 |.tup ps,.int j=>if ps.isEmpty=false/\1≤j/\j≤1000/\ps.length≤1000 then some (.fz (.tup (List.replicate j.toNat ps).flatten)) else none
 |_,_=>none
theorem Ma (ha:DE X a fa)(hb:DE X b fb):DE X (.BinOp a .Mult b pos) (aq jg fa fb):=
 .of2 (jK (Jp ha.tt hb.tt) (Fl ha.tt hb.tt)) (Jk ha.tt hb.tt) fun ρ r e=>by
  obtain⟨x,y,e1,e2,e3⟩:=rO e
  unfold jg at e3
  split at e3
  ·next i j p q=>
   split at e3
   ·next h=>
    cases e3
    refine .inl ⟨_,rfl,.inl ⟨x,e1,y,e2,?_⟩⟩
    rw[p,q]
    refine⟨?_,rfl⟩
    show CMul i j
    unfold CMul
    rcases h with h|h
    ·exact .inl (by omega)
    ·exact .inr (by omega)
   ·cases e3
  ·next ps j p q=>
   split at e3
   ·next h=>
    cases e3
    refine .inr ⟨_,rfl,x,e1,y,e2,?_⟩
    rw[p,q]
    refine⟨by omega,by omega,?_,rfl⟩
    refine big ?_
    have h1:j.toNat≤1000:=by omega
    exact Nat.le_trans (Nat.mul_le_mul h.2.2 h1) (by decide)
   ·cases e3
  ·next ps j p q=>
   split at e3
   ·next h=>cases e3;exact .inl ⟨_,rfl,.inr ⟨x,e1,y,e2,by rw[p,q];exact⟨by intro z;subst z;exact absurd h.1 (by decide),h.2.1,h.2.2.1,h.2.2.2,rfl⟩⟩⟩
   ·cases e3
  ·cases e3
noncomputable def pU:PV->PV->Option RV:=Iv (fun _ j=>0<j/\j<1073741824) fun i j=>.int (i / j)
theorem LN (ha:DE X a fa)(hb:DE X b fb):DE X (.BinOp a .FloorDiv b pos) (aq pU fa fb):=pP (Ll ha.tt hb.tt) (nJ fun _ _ h=>h)
noncomputable def ia:PV->PV->Option RV:=Iv (fun _ j=>0<j) fun i j=>.int (i % j)
theorem Mn (ha:DE X a fa)(hb:DE X b fb):DE X (.BinOp a .Mod b pos) (aq ia fa fb):=pP (Ho ha.tt hb.tt) (nJ fun _ _ h=>h)
noncomputable def EX:PV->PV->Option RV:=Iv (fun i j=>0≤j/\j≤1000000/\i.natAbs<2 ^ 64) fun i j=>.int (i ^ j.toNat)
theorem Ng (ha:DE X a fa)(hb:DE X b fb):DE X (.BinOp a .Pow b pos) (aq EX fa fb):=pP (Ix ha.tt hb.tt) (nJ fun _ _ h=>h)
noncomputable def OK:PV->PV->Option RV:=Iv (fun _ j=>0≤j) fun i j=>.int (i / 2 ^ j.toNat)
theorem Nh (ha:DE X a fa)(hb:DE X b fb):DE X (.BinOp a .RShift b pos) (aq OK fa fb):=pP (Ic ha.tt hb.tt) (nJ fun _ _ h=>h)
noncomputable def MI:PV->PV->Option RV:=Iv (fun i j=>0≤j/\j≤1000000/\i.natAbs<2 ^ 64) fun i j=>.int (i * 2 ^ j.toNat)
theorem NW (ha:DE X a fa)(hb:DE X b fb):DE X (.BinOp a .LShift b pos) (aq MI fa fb):=pP (ii Hk (kX (f:=fun i j=>.int (i * 2 ^ j.toNat))) ha.tt hb.tt) (nJ fun _ _ h=>h)
noncomputable def vQ:PV->PV->Option RV:=rI fun i j=>.int (Builtin.bitAnd i j)
theorem HF (ha:DE X a fa)(hb:DE X b fb):DE X (.BinOp a .BitAnd b pos) (aq vQ fa fb):=pP (ES ha.tt hb.tt) GX
structure CmpR (X:Cx)(op:CmpOp)(g:PV->PV->Option RV):Prop where
 ok:∃(r:R2) (gE:ij),OpR X (compareOp op) r/\eG X.K r gE/\∀x y r,g x y=some r->∃p,r=.fz (.bl p)/\∀Q:PV->Prop,Q (.bl p)->gE x y Q
theorem Ry {g:PV->PV->Option RV}{gE:ij}(h:∀x y r,g x y=some r->∃p,r=.fz (.bl p)/\∀Q:PV->Prop,Q (.bl p)->gE x y Q):∀x y r,g x y=some r->∃p,r=.fz p/\gE x y (fun z=>z=p):=fun x y r e=>by
 obtain⟨p,e1,e2⟩:=h x y r e;exact⟨_,e1,e2 _ rfl⟩
theorem MO {op:CmpOp}{g:PV->PV->Option RV}(hc:CmpR X op g)(ha:DE X a fa)(hb:DE X b fb)(hm:behindInMarks op b=false):DE X (.Compare a [op] [b] pos) (aq g fa fb):=by
 obtain⟨r,gE,h1,h2,h3⟩:=hc.ok
 exact pP (Hn h1 h2 ha.tt hb.tt hm) (Ry h3)
noncomputable def LH (f:Int->Int->Bool):PV->PV->Option RV
 |.int i,.int j=>some (.fz (.bl (f i j)))
 |_,_=>none
theorem pG {f:Int->Int->Bool}:∀x y r,LH f x y=some r->∃p,r=.fz (.bl p)/\∀Q:PV->Prop,Q (.bl p)->B9 (fun i j=>.bl (f i j)) x y Q:=fun x y r h=>by
 unfold LH at h
 split at h
 ·cases h;exact⟨_,rfl,fun _ q=>q⟩
 ·cases h
noncomputable def KL:PV->PV->Option RV:=LH fun i j=>decide (i<j)
noncomputable def HA:PV->PV->Option RV:=LH fun i j=>decide (i≤j)
noncomputable def KN:PV->PV->Option RV:=LH fun i j=>decide (j<i)
noncomputable def O4:PV->PV->Option RV:=LH fun i j=>decide (j≤i)
theorem O9:CmpR X .Lt KL:=⟨_,_,NF,OU,pG⟩
theorem PJ:CmpR X .LtE HA:=⟨_,_,Ob,Na,pG⟩
theorem Q3:CmpR X .Gt KN:=⟨_,_,LQ,Mj,pG⟩
theorem P0:CmpR X .GtE O4:=⟨_,_,Nl,Oy,pG⟩
noncomputable def sJ (x y:PV):Option RV:=if ay x&&ay y&&decide (kl x≤50) then some (.fz (.bl (g9 x y))) else none
noncomputable def kN (x y:PV):Option RV:=if ay x&&ay y&&decide (kl x≤50) then some (.fz (.bl (!g9 x y))) else none
theorem PP (hu:X.A.units+64<cLine):CmpR X .Eq sJ:=⟨_,_,Ie hu,M9,fun x y r h=>by
 unfold sJ at h
 split at h
 ·next q=>cases h;rw[Bool.and_eq_true,Bool.and_eq_true,decide_eq_true_eq] at q;exact⟨_,rfl,fun _ z=>⟨q.1.1,q.1.2,q.2,z⟩⟩
 ·cases h⟩
theorem QA (hu:X.A.units+64<cLine):CmpR X .NotEq kN:=⟨_,_,IW hu,NB,fun x y r h=>by
 unfold kN at h
 split at h
 ·next q=>cases h;rw[Bool.and_eq_true,Bool.and_eq_true,decide_eq_true_eq] at q;exact⟨_,rfl,fun _ z=>⟨q.1.1,q.1.2,q.2,z⟩⟩
 ·cases h⟩
noncomputable def GY (x y:PV):Option RV:=match items y with
 |some ps=>if ay x&&az ps&&decide (bP ps≤50) then some (.fz (.bl (pin x ps))) else none
 |none=>none
noncomputable def lb (x y:PV):Option RV:=match items y with
 |some ps=>if ay x&&az ps&&decide (bP ps≤50) then some (.fz (.bl (!pin x ps))) else none
 |none=>none
theorem Pb (hu:X.A.units+64<cLine):CmpR X .In GY:=⟨_,_,J2 hu,MZ,fun x y r h=>by
 unfold GY at h
 split at h
 ·next ps e=>
  split at h
  ·next q=>cases h;rw[Bool.and_eq_true,Bool.and_eq_true,decide_eq_true_eq] at q;refine⟨_,rfl,fun _ z=>?_⟩;unfold Rb OkS;rw[e];exact⟨q.1.1,q.1.2,q.2,z⟩
  ·cases h
 ·cases h⟩
theorem FG (hu:X.A.units+64<cLine):CmpR X .NotIn lb:=⟨_,_,wK hu,AJ,fun x y r h=>by
 unfold lb at h
 split at h
 ·next ps e=>
  split at h
  ·next q=>cases h;rw[Bool.and_eq_true,Bool.and_eq_true,decide_eq_true_eq] at q;refine⟨_,rfl,fun _ z=>?_⟩;unfold BC OkS;rw[e];exact⟨q.1.1,q.1.2,q.2,z⟩
  ·cases h
 ·cases h⟩
noncomputable def O3 (x y:PV):Option RV:=match y with
 |.non=>some (.fz (.bl (hU x)))
 |_=>none
noncomputable def qm (x y:PV):Option RV:=match y with
 |.non=>some (.fz (.bl (!hU x)))
 |_=>none
theorem Qo:CmpR X .Is O3:=⟨_,_,JN,K5,fun x y r h=>by
 unfold O3 at h
 split at h
 ·cases h;exact⟨_,rfl,fun _ q=>q⟩
 ·cases h⟩
theorem Cr:CmpR X .IsNot qm:=⟨_,_,FZ,Dh,fun x y r h=>by
 unfold qm at h
 split at h
 ·cases h;exact⟨_,rfl,fun _ q=>q⟩
 ·cases h⟩
noncomputable def DB (X:Cx)(e:Expr)(g:FB):Prop:=PuB X e (yy g)
noncomputable def DW (X:Cx)(e:Expr)(g:FB):Prop:=PuW X e (yy g)
noncomputable def xY:Option RV->Option Bool
 |some (.fz (.bl b))=>some b
 |_=>none
noncomputable def fT (f:FE):FB:=fun ρ=>xY (f ρ)
theorem eE {o:Option RV}{b:Bool}(h:xY o=some b):o=some (.fz (.bl b)):=by
 unfold xY at h
 split at h
 ·cases h;rfl
 ·cases h
theorem PuB.weak {t t':jM}(h:PuB X e t)(w:∀ρ Q,t' ρ Q->t ρ Q):PuB X e t':=PT.weak h fun σ H Q hh_=>hh_.elim fun F ρ Qp er q k=>⟨F,ρ,Qp,er,w ρ Qp q,k⟩
theorem PuW.weak {t t':jM}(h:PuW X e t)(w:∀ρ Q,t' ρ Q->t ρ Q):PuW X e t':=PW.weak h fun σ H Q hh_=>hh_.elim fun F ρ Qp er q k=>⟨F,ρ,Qp,er,w ρ Qp q,k⟩
theorem OW {op:CmpOp}{g:PV->PV->Option RV}(hc:CmpR X op g)(ha:DE X a fa)(hb:DE X b fb)(hm:behindInMarks op b=false):DB X (.Compare a [op] [b] pos) (fT (aq g fa fb)):=by
 obtain⟨r,gE,h1,h2,h3⟩:=hc.ok
 refine PuB.weak (Fa h1 h2 ha.tt hb.tt hm) fun ρ Q ⟨z,e,q⟩=>?_
 obtain⟨x,y,e1,e2,e3⟩:=rO (eE e)
 obtain⟨p,e4,q4⟩:=h3 _ _ _ e3
 cases e4
 exact⟨x,e1,y,e2,q4 _ q⟩
theorem MN (h:DE X e f)(hv:∀whole,isTrue e X.env whole=(do let v ←whole;standAt e.pos;holding [v] (truthy v)):=by intro _;rfl):DB X e (fT f):=PuB.weak (EM (KR h.ee hv)) fun ρ Q ⟨b,e,q⟩=>⟨_,_,eE e,rfl,q⟩
noncomputable def gG (g:FB):FB:=fun ρ=>(g ρ).map fun b=>!b
theorem Nn (h:DB X a ba):DB X (.UnaryOp .Not a pos) (gG ba):=PuB.weak (F8 h) fun ρ Q ⟨b,e,q⟩=>by
 obtain⟨b',e1,rfl⟩:=Option.map_eq_some_iff.mp e
 exact⟨b',e1,q⟩
noncomputable def sH (g k:FB):FB:=fun ρ=>(g ρ).bind fun b=>if b=true then k ρ else some false
noncomputable def jY (g k:FB):FB:=fun ρ=>(g ρ).bind fun b=>if b=true then some true else k ρ
theorem K6 (h:DB X a ba):DW X (.BoolOp .And [a] pos) ba:=BX h
theorem NI (h:DB X a ba):DW X (.BoolOp .Or [a] pos) ba:=CH h
theorem Me (ha:DB X a ba)(hb:DW X (.BoolOp .And (b::bW) pos) bb):DW X (.BoolOp .And (a::b::bW) pos) (sH ba bb):=PuW.weak (Df ha hb) fun ρ Q ⟨z,e,q⟩=>by
 obtain⟨x,e1,e2⟩:=Option.bind_eq_some_iff.mp e
 refine⟨x,e1,?_⟩
 cases x with
 |true=>exact⟨z,e2,q⟩
 |false=>cases e2;exact q
theorem Ps (ha:DB X a ba)(hb:DW X (.BoolOp .Or (b::bW) pos) bb):DW X (.BoolOp .Or (a::b::bW) pos) (jY ba bb):=PuW.weak (Hf ha hb) fun ρ Q ⟨z,e,q⟩=>by
 obtain⟨x,e1,e2⟩:=Option.bind_eq_some_iff.mp e
 refine⟨x,e1,?_⟩
 cases x with
 |true=>cases e2;exact q
 |false=>exact⟨z,e2,q⟩
theorem Rx (h:DW X e ba):DB X e ba:=My h
noncomputable def tW (f:FE):FE:=fun ρ=>(f ρ).bind fun r=>r.fr.map .fz
noncomputable def mB (f g:FE):FE:=fun ρ=>(xY (f ρ)).bind fun b=>if b=true then tW g ρ else some (.fz (.bl false))
noncomputable def Iz (f g:FE):FE:=fun ρ=>(xY (f ρ)).bind fun b=>if b=true then some (.fz (.bl true)) else tW g ρ
theorem je {ρ:al}{r:RV}(h:tW f ρ=some r):∃p,r=.fz p/\tF f ρ (fun x=>x=p):=by
 obtain⟨r',e1,e2⟩:=Option.bind_eq_some_iff.mp h
 obtain⟨p,e3,rfl⟩:=Option.map_eq_some_iff.mp e2
 exact⟨p,rfl,r',p,e1,e3,rfl⟩
theorem Ny {op}(h:DE X a f):DE X (.BoolOp op [a] pos) (tW f):=.ofE (Hd h.ee) fun ρ r e=>je e
theorem MW (ha:DE X a fa)(hb:DE X (.BoolOp .And (b::bW) pos) fb):DE X (.BoolOp .And (a::b::bW) pos) (mB fa fb):=.ofE (Lm ha.ee hb.ee) fun ρ r e=>by
 obtain⟨x,e1,e2⟩:=Option.bind_eq_some_iff.mp e
 cases x with
 |true=>
  rw[if_pos rfl] at e2
  obtain⟨p,e3,q⟩:=je e2
  refine⟨p,e3,_,_,eE e1,rfl,?_⟩
  exact q
 |false=>
  rw[if_neg Bool.false_ne_true] at e2
  cases e2
  exact⟨_,rfl,_,_,eE e1,rfl,rfl⟩
theorem Qq (ha:DE X a fa)(hb:DE X (.BoolOp .Or (b::bW) pos) fb):DE X (.BoolOp .Or (a::b::bW) pos) (Iz fa fb):=.ofE (NE ha.ee hb.ee) fun ρ r e=>by
 obtain⟨x,e1,e2⟩:=Option.bind_eq_some_iff.mp e
 cases x with
 |false=>
  rw[if_neg Bool.false_ne_true] at e2
  obtain⟨p,e3,q⟩:=je e2
  refine⟨p,e3,_,_,eE e1,rfl,?_⟩
  exact q
 |true=>
  rw[if_pos rfl] at e2
  cases e2
  exact⟨_,rfl,_,_,eE e1,rfl,rfl⟩
noncomputable def vz (f:FE):FE:=fun ρ=>(xY (f ρ)).map fun b=>.fz (.bl (!b))
theorem Nk (ha:DE X a fa):DE X (.UnaryOp .Not a pos) (vz fa):=.ofE (Jh ha.ee) fun ρ r e=>by
 obtain⟨b,e1,rfl⟩:=Option.map_eq_some_iff.mp e
 exact⟨_,rfl,_,_,eE e1,rfl,rfl⟩
noncomputable def lJ (f:FE):FE:=fun ρ=>(f ρ).bind fun r=>match r.fr with
 |some (.int i)=>some (.fz (.int (-i)))
 |_=>none
theorem OE (ha:DE X a fa):DE X (.UnaryOp .USub a pos) (lJ fa):=.ofE (KB ha.ee) fun ρ r e=>by
 obtain⟨x,e1,e2⟩:=Option.bind_eq_some_iff.mp e
 split at e2
 ·next i e3=>cases e2;exact⟨_,rfl,x,_,e1,e3,rfl⟩
 ·cases e2
noncomputable def QF (g:FB)(f k:FE):FE:=fun ρ=>(g ρ).bind fun b=>if b=true then tW f ρ else tW k ρ
theorem Pr (hc:DB X c ba)(ha:DE X a fa)(hb:DE X b fb):DE X (.IfExp c a b pos) (QF ba fa fb):=.ofE (JJ hc ha.ee hb.ee) fun ρ r e=>by
 obtain⟨x,e1,e2⟩:=Option.bind_eq_some_iff.mp e
 cases x with
 |true=>
  rw[if_pos rfl] at e2
  obtain⟨p,e3,q⟩:=je e2
  exact⟨p,e3,true,e1,q⟩
 |false=>
  rw[if_neg Bool.false_ne_true] at e2
  obtain⟨p,e3,q⟩:=je e2
  exact⟨p,e3,false,e1,q⟩
noncomputable def Gi (g g':PV->PV->Option RV)(a b c:FE):FE:=fun ρ=>(a ρ).bind fun x=>(b ρ).bind fun y=>(xY (g x.pv y.pv)).bind fun k=>if k=true then (c ρ).bind fun z=>g' y.pv z.pv else some (.fz (.bl false))
theorem Go {g g':PV->PV->Option RV}{gE gE':ij}(h:∀x y r,g x y=some r->∃p,r=.fz (.bl p)/\∀Q:PV->Prop,Q (.bl p)->gE x y Q)(h':∀x y r,g' x y=some r->∃p,r=.fz (.bl p)/\∀Q:PV->Prop,Q (.bl p)->gE' x y Q){ρ:al}{r:RV}(e:Gi g g' fa fb fc ρ=some r) :
  ∃p,r=.fz (.bl p)/\∀Q:PV->Prop,Q (.bl p)->qk gE gE' (tT fa) (tT fb) (tT fc) ρ Q:=by
 obtain⟨x,y,e1,e2,e3⟩:=rO e
 obtain⟨k,e4,e5⟩:=Option.bind_eq_some_iff.mp e3
 obtain⟨p,e6,q6⟩:=h _ _ _ (eE e4)
 cases e6
 cases k with
 |true=>
  rw[if_pos rfl] at e5
  obtain⟨z,e7,e8⟩:=Option.bind_eq_some_iff.mp e5
  obtain⟨p,e9,q9⟩:=h' _ _ _ e8
  refine⟨p,e9,fun Q q=>⟨x,e1,y,e2,q6 _ ?_⟩⟩
  exact⟨z,e7,q9 _ q⟩
 |false=>
  rw[if_neg Bool.false_ne_true] at e5
  cases e5
  exact⟨_,rfl,fun Q q=>⟨x,e1,y,e2,q6 _ q⟩⟩
theorem Pf {op op':CmpOp}{g g':PV->PV->Option RV}(h:CmpR X op g)(h':CmpR X op' g')(ha:DE X a fa)(hb:DE X b fb)(hc:DE X c fc)(hm:lastMarks [op,op'] [b,c]=false:=by rfl):DE X (.Compare a [op,op'] [b,c] pos) (Gi g g' fa fb fc):=by
 obtain⟨r,gE,h1,h2,h3⟩:=h.ok
 obtain⟨r',gE',h1',h2',h3'⟩:=h'.ok
 refine .ofE (AT h1 h2 h1' h2' ha.tt hb.tt hc.tt hm) fun ρ r e=>?_
 obtain⟨p,e1,q⟩:=Go h3 h3' e
 exact⟨_,e1,q _ rfl⟩
theorem QU {op op':CmpOp}{g g':PV->PV->Option RV}(h:CmpR X op g)(h':CmpR X op' g')(ha:DE X a fa)(hb:DE X b fb)(hc:DE X c fc)(hm:lastMarks [op,op'] [b,c]=false:=by rfl):DB X (.Compare a [op,op'] [b,c] pos) (fT (Gi g g' fa fb fc)):=by
 obtain⟨r,gE,h1,h2,h3⟩:=h.ok
 obtain⟨r',gE',h1',h2',h3'⟩:=h'.ok
 refine PuB.weak (xi h1 h2 h1' h2' ha.tt hb.tt hc.tt hm) fun ρ Q ⟨z,e,q⟩=>?_
 obtain⟨p,e1,q1⟩:=Go h3 h3' (eE e)
 cases e1
 exact q1 _ q
structure DA (X:Cx)(es:List Expr)(fs:FA):Prop where
 f:GL X es (Jv fs)
 t:xK X es (FD fs)
noncomputable def ag:FA:=fun _=>some []
noncomputable def ae (f:FE)(fs:FA):FA:=fun ρ=>(f ρ).bind fun r=>(fs ρ).bind fun rs=>some (r::rs)
theorem rR {t t':iH}(h:GL X es t)(w:∀ρ Q,t' ρ Q->t ρ Q):GL X es t':=PA.weak h fun σ H Q hh_=>hh_.elim fun F ρ Qp er q k=>⟨F,ρ,Qp,er,w ρ Qp q,k⟩
theorem oK {t t':iH}(h:xK X es t)(w:∀ρ Q,t' ρ Q->t ρ Q):xK X es t':=PA.weak h fun σ H Q hh_=>hh_.elim fun F ρ Qp er q k=>⟨F,ρ,Qp,er,w ρ Qp q,k⟩
theorem mapM_cons {r:RV}{rs:List RV}{ps:List PV}(h:(r::rs).mapM RV.fr=some ps):∃p qs,r.fr=some p/\rs.mapM RV.fr=some qs/\ps=p::qs:=by
 rw[List.mapM_cons] at h
 obtain⟨p,e1,h⟩:=Option.bind_eq_some_iff.mp h
 obtain⟨qs,e2,h⟩:=Option.bind_eq_some_iff.mp h
 cases h
 exact⟨p,qs,e1,e2,rfl⟩
theorem N6:DA X [] ag:=⟨rR DU fun ρ Q ⟨rs,ps,e,e2,q⟩=>by cases e;cases e2;exact q,oK Am fun ρ Q ⟨rs,e,q⟩=>by cases e;exact q⟩
theorem Kl (hn:NS e)(he:DE X e f)(ht:DA X es fs):DA X (e::es) (ae f fs):=by
 constructor
 ·refine rR (yz hn he.ee ht.f) fun ρ Q ⟨rs,ps,e1,e2,q⟩=>?_
  obtain⟨r,e3,e1⟩:=Option.bind_eq_some_iff.mp e1
  obtain⟨rs',e4,e1⟩:=Option.bind_eq_some_iff.mp e1
  cases e1
  obtain⟨p,qs,e5,e6,rfl⟩:=mapM_cons e2
  exact⟨r,p,e3,e5,rs',qs,e4,e6,q⟩
 ·refine oK (yn hn he.tt ht.t) fun ρ Q ⟨rs,e1,q⟩=>?_
  obtain⟨r,e3,e1⟩:=Option.bind_eq_some_iff.mp e1
  obtain⟨rs',e4,e1⟩:=Option.bind_eq_some_iff.mp e1
  cases e1
  exact⟨r,e3,rs',e4,q⟩
noncomputable def uW (fs:FA):FE:=fun ρ=>(fs ρ).bind fun rs=>(rs.mapM RV.fr).bind fun ps=>if ps.length≤100000 then some (.fz (.tup ps)) else none
noncomputable def jJ (fs:FA):FE:=fun ρ=>(fs ρ).bind fun rs=>(rs.mapM RV.fr).bind fun ps=>if ps.length≤100000 then some (.nw ps) else none
theorem N0 {x1}(h:DA X es fs):DE X (.Tuple es x1 pos) (uW fs):=.ofE (KK h.f) fun ρ r e=>by
 obtain⟨rs,e1,e⟩:=Option.bind_eq_some_iff.mp e
 obtain⟨ps,e2,e⟩:=Option.bind_eq_some_iff.mp e
 split at e
 ·next z=>cases e;exact⟨_,rfl,rs,ps,e1,e2,big z,rfl⟩
 ·cases e
theorem Mi (h:DA X es fs):DE X (.List es pos) (jJ fs):=.ofN (J9 h.f) fun ρ r e=>by
 obtain⟨rs,e1,e⟩:=Option.bind_eq_some_iff.mp e
 obtain⟨ps,e2,e⟩:=Option.bind_eq_some_iff.mp e
 split at e
 ·next z=>cases e;exact⟨_,rfl,rs,ps,e1,e2,big z,rfl⟩
 ·cases e
noncomputable def eg:PV->PV->Option RV
 |.str z,.int i=>if z.length≤100000 then (L2.atI z.cps.toList i).map fun c=>.fz (.str ⟨#[c]⟩) else none
 |p,.int i=>(items p).bind fun ps=>(L2.atI ps i).map .fz
 |_,_=>none
theorem IV:∀x y r,eg x y=some r->∃p,r=.fz p/\Q2 x y (fun z=>z=p):=fun x y r h=>by
 unfold eg at h
 split at h
 ·split at h
  ·next z=>
   obtain⟨c,e1,rfl⟩:=Option.map_eq_some_iff.mp h
   refine⟨_,rfl,big z,?_⟩
   rw[e1];exact rfl
  ·cases h
 ·next hn=>
  obtain⟨ps,e1,h⟩:=Option.bind_eq_some_iff.mp h
  obtain⟨p,e2,rfl⟩:=Option.map_eq_some_iff.mp h
  refine⟨p,rfl,?_⟩
  have:∀i:Int,L2.atI ps i=some p->OkS x fun ps=>OkO (L2.atI ps i) fun z=>z=p:=fun i ei=>by
   unfold OkS;rw[e1];show OkO (L2.atI ps i) _;rw[ei];exact rfl
  show OkI (.int _) _
  cases x<;>first|exact this _ e2|(cases e1)
 ·cases h
theorem Qd (ha:DE X a fa)(hb:DE X b fb)(hs:jj b):DE X (.Subscript a b pos) (aq eg fa fb):=pP (GW ha.tt hb.tt hs) IV
noncomputable abbrev FO:=al->Option (Option Int)
noncomputable def tO (f:FO):xV:=fun ρ Q=>∃o,f ρ=some o/\Q o
noncomputable def DO (X:Cx)(e:Option Expr)(f:FO):Prop:=zJ X e (tO f)
noncomputable def HN:FO:=fun _=>some none
noncomputable def DT (f:FE):FO:=fun ρ=>(f ρ).bind fun r=>match r.fr with
 |some (.int i)=>some (some i)
 |_=>none
theorem sO {o:Option Expr}{t t':xV}(h:zJ X o t)(w:∀ρ Q,t' ρ Q->t ρ Q):zJ X o t':=PO.weak h fun σ H Q hh_=>hh_.elim fun F ρ Qp er q k=>⟨F,ρ,Qp,er,w ρ Qp q,k⟩
theorem Py:DO X none HN:=sO AV fun ρ Q ⟨o,e,q⟩=>by cases e;exact q
theorem QY (h:DE X e f):DO X (some e) (DT f):=sO (Bs h.ee) fun ρ Q ⟨o,e,q⟩=>by
 obtain⟨r,e1,e2⟩:=Option.bind_eq_some_iff.mp e
 split at e2
 ·next i e3=>cases e2;exact⟨r,_,e1,e3,q⟩
 ·cases e2
noncomputable def B6 (p:PV)(l h:Option Int):Option RV:=match p with
 |.lst ps=>some (.nw (cut ps l h))
 |.src ps=>some (.nw (cut ps l h))
 |.tup ps=>if HT.sIx ps.length 0 l=0/\HT.sIx ps.length ps.length h=ps.length then none else some (.fz (.tup (cut ps l h)))
 |_=>none
noncomputable def G5 (f:FE)(l h:FO):FE:=fun ρ=>(f ρ).bind fun r=>(l ρ).bind fun lo=>(h ρ).bind fun hi=>B6 r.pv lo hi
theorem Pi {lo hi:Option Expr}{fl fh:FO}{p2:Pos}(ha:DE X a fa)(hl:DO X lo fl)(hh:DO X hi fh):DE X (.Subscript a (.Slice lo hi none p2) pos) (G5 fa fl fh):=.of2 (yA ha.tt hl hh) (Kp ha.tt hl hh) fun ρ r e=>by
 obtain⟨x,e1,e⟩:=Option.bind_eq_some_iff.mp e
 obtain⟨l,e2,e⟩:=Option.bind_eq_some_iff.mp e
 obtain⟨h,e3,e⟩:=Option.bind_eq_some_iff.mp e
 unfold B6 at e
 split at e
 ·next ps q=>cases e;exact .inr ⟨_,rfl,x,e1,l,e2,h,e3,by rw[q];exact rfl⟩
 ·next ps q=>cases e;exact .inr ⟨_,rfl,x,e1,l,e2,h,e3,by rw[q];exact rfl⟩
 ·next ps q=>
  split at e
  ·cases e
  ·next z=>cases e;exact .inl ⟨_,rfl,x,e1,l,e2,h,e3,by rw[q];exact⟨z,rfl⟩⟩
 ·cases e
end
end Dp
end
section
namespace Dp
open PySem PySem.Spec L2 Pu
section
variable {X:Cx}{e a b c tg iter:Expr}{es bW:List Expr}{pos:Pos}{f fa fb fc:FE}{fs:FA}{i:Nat}{ba bb:FB}
noncomputable def fB (g:List PV->Option RV)(fs:FA):FE:=fun ρ=>(fs ρ).bind fun rs=>g (rs.map RV.pv)
theorem jX {r:List V->Hp->VK->Prop}{g0:sx}{g:List PV->Option RV}(hr:jH X.K r g0)(w:∀ps r,g ps=some r->∃p,r=.fz p/\g0 ps (fun z=>z=p))(h:PE X e (Be r (lAT X.K (FD fs)))):DE X e (fB g fs):=.ofE (NP hr h) fun ρ r e=>by
 obtain⟨rs,e1,e2⟩:=Option.bind_eq_some_iff.mp e
 obtain⟨p,rfl,q⟩:=w _ _ e2
 exact⟨p,rfl,rs,e1,q⟩
theorem LX {r:List V->Hp->VK->Prop}{g0:Gj}{g:List PV->Option RV}(hr:xZ X.K r g0)(w:∀ps r,g ps=some r->∃p,r=.nw p/\g0 ps (fun z=>z=p))(h:PE X e (Be r (lAT X.K (FD fs)))):DE X e (fB g fs):=.ofN (zP hr h) fun ρ r e=>by
 obtain⟨rs,e1,e2⟩:=Option.bind_eq_some_iff.mp e
 obtain⟨p,rfl,q⟩:=w _ _ e2
 exact⟨p,rfl,rs,e1,q⟩
noncomputable def da:List PV->Option RV
 |[.str z]=>if z.length≤100000 then some (.fz (.int z.length)) else none
 |[p]=>(items p).map fun ps=>.fz (.int ps.length)
 |_=>none
theorem D4:∀ps r,da ps=some r->∃p,r=.fz p/\Oi ps (fun z=>z=p):=fun ps r h=>by
 unfold da at h
 split at h
 ·split at h
  ·next z=>cases h;exact⟨_,rfl,big z,rfl⟩
  ·cases h
 ·next p hp=>
  obtain⟨qs,e1,rfl⟩:=Option.map_eq_some_iff.mp h
  refine⟨_,rfl,?_⟩
  have:OkS p fun ps=>PV.int ps.length=PV.int qs.length:=by unfold OkS;rw[e1]
  show One [p] _
  cases p<;>first|exact this|(cases e1)
 ·cases h
noncomputable def zA:List PV->Option RV
 |[.int i]=>some (.fz (.int (if i<0 then -i else i)))
 |_=>none
theorem DH:∀ps r,zA ps=some r->∃p,r=.fz p/\Nm ps (fun z=>z=p):=fun ps r h=>by
 unfold zA at h
 split at h
 ·cases h;exact⟨_,rfl,rfl⟩
 ·cases h
noncomputable def sA:List PV->Option RV
 |[.int i,.int j]=>some (.fz (.int (if j > i then j else i)))
 |_=>none
theorem yN:∀ps r,sA ps=some r->∃p,r=.fz p/\Gw ps (fun z=>z=p):=fun ps r h=>by
 unfold sA at h
 split at h
 ·cases h;exact⟨_,rfl,rfl⟩
 ·cases h
noncomputable def vx:List PV->Option RV
 |[.int i,.int j]=>some (.fz (.int (if j<i then j else i)))
 |_=>none
theorem za:∀ps r,vx ps=some r->∃p,r=.fz p/\GF ps (fun z=>z=p):=fun ps r h=>by
 unfold vx at h
 split at h
 ·cases h;exact⟨_,rfl,rfl⟩
 ·cases h
noncomputable def oo:List PV->Option RV
 |[.int i]=>some (.fz (.int i))
 |[.bl b]=>some (.fz (.int (if b then 1 else 0)))
 |_=>none
theorem CU:∀ps r,oo ps=some r->∃p,r=.fz p/\L7 ps (fun z=>z=p):=fun ps r h=>by
 unfold oo at h
 split at h
 ·cases h;exact⟨_,rfl,rfl⟩
 ·cases h;exact⟨_,rfl,rfl⟩
 ·cases h
noncomputable def Gx:List PV->Option (List Bool)
 |[]=>some []
 |.bl b::ps=>(Gx ps).map fun bs=>b::bs
 |_=>none
theorem AL:∀{ps:List PV} {bs:List Bool},Gx ps=some bs->ps=bs.map PV.bl:=fun {ps}=>by
 induction ps with
 |nil=>intro bs h;cases h;rfl
 |cons p ps ih=>
  intro bs h
  cases p<;>first|(cases h;done)|skip
  obtain⟨bs',e1,rfl⟩:=Option.map_eq_some_iff.mp h
  rw[ih e1];rfl
noncomputable def gD:PV->Option (List PV)
 |.lst ps=>some ps
 |.src ps=>some ps
 |_=>none
noncomputable def wX:List PV->Option RV
 |[p]=>(gD p).bind fun ps=>(Gx ps).map fun bs=>.fz (.bl (bs.all id))
 |_=>none
noncomputable def Ck:List PV->Option RV
 |[p]=>(gD p).bind fun ps=>(Gx ps).map fun bs=>.fz (.bl (bs.any id))
 |_=>none
theorem fD {p:PV}{ps:List PV}{Q:List PV->Prop}(h:gD p=some ps)(q:Q ps):OkL p Q:=by
 cases p<;>first|(cases h;done)|(cases h;exact q)
theorem Ei:∀ps r,wX ps=some r->∃p,r=.fz p/\NM ps (fun z=>z=p):=fun ps r h=>by
 unfold wX at h
 split at h
 ·obtain⟨qs,e1,h⟩:=Option.bind_eq_some_iff.mp h
  obtain⟨bs,e2,rfl⟩:=Option.map_eq_some_iff.mp h
  refine⟨_,rfl,fD e1 ?_⟩
  rw[AL e2,rf]
 ·cases h
theorem C6:∀ps r,Ck ps=some r->∃p,r=.fz p/\Oh ps (fun z=>z=p):=fun ps r h=>by
 unfold Ck at h
 split at h
 ·obtain⟨qs,e1,h⟩:=Option.bind_eq_some_iff.mp h
  obtain⟨bs,e2,rfl⟩:=Option.map_eq_some_iff.mp h
  refine⟨_,rfl,fD e1 ?_⟩
  rw[AL e2,rf]
 ·cases h
noncomputable def kw:List PV->Option RV
 |[.lst ps]=>some (.fz (.tup ps))
 |[.tup ps]=>some (.fz (.tup ps))
 |[.src ps]=>some (.fz (.tup ps))
 |_=>none
theorem Fg:∀ps r,kw ps=some r->∃p,r=.fz p/\Od ps (fun z=>z=p):=fun ps r h=>by
 unfold kw at h
 split at h
 ·cases h;exact⟨_,rfl,rfl⟩
 ·cases h;exact⟨_,rfl,rfl⟩
 ·cases h;exact⟨_,rfl,rfl⟩
 ·cases h
noncomputable def iI:List PV->Option RV
 |[.rng lo j]=>if lo=0/\0≤j/\j≤1000000 then some (.nw (nQ 0 j.toNat)) else none
 |[p]=>(items p).map .nw
 |_=>none
theorem Dr:∀ps r,iI ps=some r->∃p,r=.nw p/\(NA ps (fun z=>z=p)\/GE ps (fun z=>z=p)):=fun ps r h=>by
 unfold iI at h
 split at h
 ·split at h
  ·next z=>cases h;exact⟨_,rfl,.inr ⟨z.1,z.2.1,z.2.2,rfl⟩⟩
  ·cases h
 ·next p hp=>
  obtain⟨qs,e1,rfl⟩:=Option.map_eq_some_iff.mp h
  refine⟨_,rfl,.inl ?_⟩
  show OkS p _
  unfold OkS;rw[e1]
 ·cases h
theorem IS {x:Str}{p:Pos}(hx:x = "list")(h1:PE X e (Be (fun xs H Q=>∃p ys,xs=[.ref p]/\(SqL X.K H p ys\/SqT X.K H p ys)/\∀l,H l=none->Q (.ref l) (upd H l (.lst ys))) (lAT X.K (FD fs))))
  (h2:PE X e (Be (fun xs H Q=>∃p j,xs=[.ref p]/\H p=some (.rng 0 j)/\0≤j/\j≤1000000/\∀l,H l=none->Q (.ref l) (upd H l (.lst (mK j.toNat)))) (lAT X.K (FD fs)))):DE X e (fB iI fs):=.ofN (y1 (zP J1 h1) (zP Fx h2)) fun ρ r e=>by
 obtain⟨rs,e1,e2⟩:=Option.bind_eq_some_iff.mp e
 obtain⟨p,rfl,q⟩:=Dr _ _ e2
 exact⟨p,rfl,q.elim (fun q=>.inl ⟨rs,e1,q⟩) fun q=>.inr ⟨rs,e1,q⟩⟩
noncomputable def sK:List PV->Option RV
 |[.int j]=>if -(2 ^ 62)≤j/\j<2 ^ 62 then some (.fz (.rng 0 j)) else none
 |_=>none
theorem Ek:∀ps r,sK ps=some r->∃p,r=.fz p/\Nx ps (fun z=>z=p):=fun ps r h=>by
 unfold sK at h
 split at h
 ·split at h
  ·next z=>cases h;exact⟨_,rfl,z.1,z.2,rfl⟩
  ·cases h
 ·cases h
noncomputable def gA:List PV->Option RV
 |[p,.ty n]=>if n = "int"\/n = "bool"\/n = "str"\/n = "tuple"\/n = "list"\/n = "dict" then (OY n p).map fun b=>.fz (.bl b) else none
 |_=>none
theorem Ky:∀ps r,gA ps=some r->∃p,r=.fz p/\NY ps (fun z=>z=p):=fun ps r h=>by
 unfold gA at h
 split at h
 ·split at h
  ·next z=>
   obtain⟨b,e1,rfl⟩:=Option.map_eq_some_iff.mp h
   refine⟨_,rfl,z,?_⟩
   rw[e1];exact rfl
  ·cases h
 ·cases h
noncomputable def db:List PV->Option (List Int)
 |[]=>some []
 |.int i::ps=>(db ps).map fun is=>i::is
 |_=>none
noncomputable def gt:List PV->Option (List (List Int))
 |[]=>some []
 |.tup qs::ps=>(db qs).bind fun is=>if is.isEmpty then none else (gt ps).map fun ks=>is::ks
 |_=>none
theorem jo:∀{ps:List PV} {is:List Int},db ps=some is->ps=is.map PV.int:=fun {ps}=>by
 induction ps with
 |nil=>intro bs h;cases h;rfl
 |cons p ps ih=>
  intro bs h
  cases p<;>first|(cases h;done)|skip
  obtain⟨bs',e1,rfl⟩:=Option.map_eq_some_iff.mp h
  rw[ih e1];rfl
theorem jL (is:List Int):db (is.map PV.int)=some is:=by
 induction is with
 |nil=>rfl
 |cons b bs ih=>rw[List.map_cons,db,ih];rfl
theorem iO {K:PySem.W.Frag}{F:Hp}:∀{is:List Int} {vs:List V},Reps K F (is.map PV.int) vs->vs=is.map V.int
 |[],_,h=>h
 |i::is,_,⟨v,r,e,h,t⟩=>by rw[e,show v=V.int i from h,iO t];rfl
noncomputable def iF:List PV->Option RV
 |[p]=>(gD p).bind fun ps=>(gt ps).bind fun ks=>if ps.length<64 then some (.nw ((jy ks).map fun i=>ps.getD i .non)) else none
 |_=>none
noncomputable def rL:Gj:=fun ps Q=>One ps fun p=>OkL p fun ps=>∃ks,gt ps=some ks/\ps.length<64/\Q ((jy ks).map fun i=>ps.getD i .non)
theorem vk {K:PySem.W.Frag}{F H:Hp}(s:Same F H):∀{ps:List PV} {vs:List V} {ks:List (List Int)},Reps K F ps vs->gt ps=some ks->TupsIn H vs ks
 |[],_,_,h,e=>by rw[show _=[] from h];cases e;exact .nil
 |p::ps,_,_,⟨v,r,ev,h,t⟩,e=>by
  subst ev
  cases p<;>first|(cases e;done)|skip
  rw[gt] at e
  obtain⟨is,e1,e⟩:=Option.bind_eq_some_iff.mp e
  split at e
  ·cases e
  ·next ne=>
   obtain⟨ks,e2,rfl⟩:=Option.map_eq_some_iff.mp e
   obtain⟨a,vs,rfl,h1,h2⟩:=h
   rw[jo e1] at h2
   rw[iO h2] at h1
   exact .cons (s _ _ h1) (by intro z;subst z;exact absurd rfl ne) (vk s t e2)
theorem vF {K:PySem.W.Frag}{F:Hp}{ps:List PV}{vs:List V}(h:Reps K F ps vs):∀{l:List Nat},(∀i∈l,i<ps.length)->Reps K F (l.map fun i=>ps.getD i .non) (l.map fun i=>vs.getD i .non)
 |[],_=>rfl
 |i::l,hl=>by
  have hi:=hl i List.mem_cons_self
  obtain⟨v,ev,rv⟩:=h.get (List.getElem?_eq_getElem hi)
  refine⟨v,_,?_,?_,vF h fun j hj=>hl j (List.mem_cons_of_mem _ hj)⟩
  ·rw[List.map_cons,List.getD_eq_getElem?_getD,ev];rfl
  ·show Rep K F (ps.getD i .non) v
   rw[List.getD_eq_getElem?_getD,List.getElem?_eq_getElem hi];exact rv
theorem AR:∀{ps:List PV} {ks:List (List Int)},gt ps=some ks->ks.length=ps.length:=fun {ps}=>by
 induction ps with
 |nil=>intro bs h;cases h;rfl
 |cons p ps ih=>
  intro ks e
  cases p<;>first|(cases e;done)|skip
  rw[gt] at e
  obtain⟨is,e1,e⟩:=Option.bind_eq_some_iff.mp e
  split at e
  ·cases e
  ·obtain⟨ks,e2,rfl⟩:=Option.map_eq_some_iff.mp e
   rw[List.length_cons,List.length_cons,ih e2]
theorem uw:xZ X.K (fun xs H Q=>∃p ts ks,xs=[.ref p]/\SqL X.K H p ts/\ts.length<64/\TupsIn H ts ks/\∀l,H l=none->Q (.ref l) (upd H l (.lst ((jy ks).map fun i=>ts.getD i .non)))) rL:=fun F H xs ps Qp Q s r h k=>by
 obtain⟨p,v,rfl,rfl,r,h⟩:=h.rd r
 obtain⟨a,vs,ps,rfl,hs,rs,ks,e,h64,h⟩:=h.rd s r
 refine⟨a,vs,ks,rfl,hs,by rw[rs.length];exact h64,vk s rs e,fun l hl=>?_⟩
 have hk:=AR e
 refine k _ l _ F _ h (.newO s hl _) hl (s.free hl) ah (vF rs fun i hi=>?_)
 have:=(lq ks).subset hi
 rw[List.mem_range] at this
 omega
theorem u5:∀ps r,iF ps=some r->∃p,r=.nw p/\rL ps (fun z=>z=p):=fun ps r h=>by
 unfold iF at h
 split at h
 ·obtain⟨qs,e1,h⟩:=Option.bind_eq_some_iff.mp h
  obtain⟨ks,e2,h⟩:=Option.bind_eq_some_iff.mp h
  split at h
  ·next z=>cases h;exact⟨_,rfl,fD e1 ⟨ks,e2,z,rfl⟩⟩
  ·cases h
 ·cases h
mutual
noncomputable def tf:PV->Bool
 |.tup ps=>LC ps
 |p=>bT p
noncomputable def LC:List PV->Bool
 |[]=>true
 |p::ps=>tf p&&LC ps
end
noncomputable def JG:PR->Bool
 |.v p=>tf p
 |.n ps=>LC ps
noncomputable def kA (F1 F2:Hp):Hp:=fun b=>match F2 b with
 |some (.tup vs)=>some (.tup vs)
 |_=>F1 b
mutual
theorem zR {K:PySem.W.Frag}{F1 F2:Hp}:∀{p:PV} {v:V},tf p=true->Rep K F2 p v->Rep K (kA F1 F2) p v
 |.tup ps,v,h,⟨a,vs,e,h1,h2⟩=>by
  rw[tf] at h
  refine⟨a,vs,e,?_,mv h h2⟩
  unfold kA;rw[h1]
 |.non,_,_,r=>r
 |.bl _,_,_,r=>r
 |.int _,_,_,r=>r
 |.str _,_,_,r=>r
 |.ty _,_,_,r=>r
 |.fn _,_,_,r=>r
 |.lst _,_,h,_=>by cases h
 |.dct _ _,_,h,_=>by cases h
 |.src _,_,h,_=>by cases h
 |.ktu _,_,h,_=>by cases h
 |.rng _ _,_,h,_=>by cases h
theorem mv {K:PySem.W.Frag}{F1 F2:Hp}:∀{ps:List PV} {vs:List V},LC ps=true->Reps K F2 ps vs->Reps K (kA F1 F2) ps vs
 |[],_,_,r=>r
 |p::ps,_,h,⟨v,t,e,r1,r2⟩=>by
  rw[LC,Bool.and_eq_true] at h
  exact⟨v,t,e,zR h.1 r1,mv h.2 r2⟩
end
theorem zq {F1 H1 F2 H2:Hp}(s:Same F1 H1)(g:Grow H1 H1 F2 H2):Grow F1 H1 (kA F1 F2) H2:=by
 refine⟨g.hh,fun b o e=>?_,fun b o e=>?_,fun b o e=>?_⟩
 ·have h2:=g.ff b o (s b o e)
  unfold kA
  cases o<;>rw[h2]<;>first|rfl|exact e
 ·unfold kA at e
  split at e
  ·next vs h=>rw[←e];exact g.fh b _ h
  ·exact g.hh b o (s b o e)
 ·unfold kA at e
  split at e
  ·cases e;exact .inr (.inr ⟨_,rfl⟩)
  ·exact .inl e
theorem nh {F1 F2:Hp}{a:Addr}(h1:F1 a=none)(h2:F2 a=none):kA F1 F2 a=none:=by unfold kA;rw[h2];exact h1
noncomputable def Dl (φ:zT)(t:iH):eC:=fun ρ Q=>t ρ fun ps=>φ ps fun r=>JG r=true/\Q r.pv
noncomputable def yK (φ:zT)(t:iH):oH:=fun ρ Q=>t ρ fun ps=>φ ps fun r=>JG r=true/\Rt r Q
theorem xG {φ:zT}{t:iH}(h:PE X e (hX (aN X.K φ) [] E0 (lAT X.K t))):PuE X e (Dl φ t):=PE.weak h fun σ H Q hh_=>hh_.elim fun F ρ Qp er q k=>⟨F,ρ,_,er,q,fun ps vs F1 H1 h1 g1 r1=>by
 show aN X.K φ (vs++[]) H1 Q E0
 rw[List.append_nil]
 refine⟨H1,ps,_,Same.refl _,r1.all g1.fh,h1,fun r v F2 H2 h2 g2 rr=>?_⟩
 have gk:=zq g1.fh g2
 cases r with
 |v p=>exact k p _ _ H2 h2.2 (g1.trans gk) (zR h2.1 rr)
 |n ps=>
  obtain⟨a,vs,rfl,h0,hF,hH,rs⟩:=rr
  have hF1:=nh (g1.fh.free h0) hF
  exact k (.lst ps) _ _ H2 h2.2 ((g1.trans gk).freeze (g1.hh.free h0) hF1 hH) ⟨a,vs,rfl,ah,(mv h2.1 rs).mono (aM hF1 _)⟩⟩
theorem ve {φ:zT}{t:iH}(h:PE X e (hX (aN X.K φ) [] E0 (lAT X.K t))):PuN X e (yK φ t):=PE.weak h fun σ H Q hh_=>hh_.elim fun F ρ Qp er q k=>⟨F,ρ,_,er,q,fun ps vs F1 H1 h1 g1 r1=>by
 show aN X.K φ (vs++[]) H1 Q E0
 rw[List.append_nil]
 refine⟨H1,ps,_,Same.refl _,r1.all g1.fh,h1,fun r v F2 H2 h2 g2 rr=>?_⟩
 have gk:=zq g1.fh g2
 cases r with
 |v p=>exact h2.2.elim
 |n ps=>
  obtain⟨a,vs,rfl,h0,hF,hH,rs⟩:=rr
  exact k ps a vs _ H2 h2.2 (g1.trans gk) (g1.hh.free h0) (nh (g1.fh.free h0) hF) hH (mv h2.1 rs)⟩
noncomputable def aW (F:List PV->Option PR):zT:=fun qs Q=>∃r,F qs=some r/\Q r
noncomputable def oa:PR->RV
 |.v p=>.fz p
 |.n ps=>.nw ps
noncomputable def aj (F:List PV->Option PR)(fs:FA):FE:=fun ρ=>(fs ρ).bind fun rs=>match rs.mapM RV.fr with
 |some ps=>(F ps).map oa
 |none=>(F (rs.map RV.pv)).bind fun r=>if JG r=true then some (oa r) else none
theorem zj {F:List PV->Option PR}(h1:PE X e (hX (aN X.K (aW F)) [] E0 (lA X.K (Jv fs))))(h2:PE X e (hX (aN X.K (aW F)) [] E0 (lAT X.K (FD fs)))):DE X e (aj F fs):=
 .of2 (jK (CN h1) (xG h2)) (y1 (AO h1) (ve h2)) fun ρ r e=>by
  obtain⟨rs,e1,e2⟩:=Option.bind_eq_some_iff.mp e
  split at e2
  ·next ps ep=>
   obtain⟨q,e3,rfl⟩:=Option.map_eq_some_iff.mp e2
   cases q with
   |v p=>exact .inl ⟨p,rfl,.inl ⟨rs,ps,e1,ep,.v p,e3,rfl⟩⟩
   |n qs=>exact .inr ⟨qs,rfl,.inl ⟨rs,ps,e1,ep,.n qs,e3,rfl⟩⟩
  ·obtain⟨q,e3,e4⟩:=Option.bind_eq_some_iff.mp e2
   split at e4
   ·next hf=>
    cases e4
    cases q with
    |v p=>exact .inl ⟨p,rfl,.inr ⟨rs,e1,.v p,e3,hf,rfl⟩⟩
    |n qs=>exact .inr ⟨qs,rfl,.inr ⟨rs,e1,.n qs,e3,hf,rfl⟩⟩
   ·cases e4
noncomputable def DI (X:Cx)(tg iter:Expr)(f:FI):Prop:=yx X tg iter (GZ f)
theorem jd {t t':nS}(h:yx X tg iter t)(w:∀ρ Q,t' ρ Q->t ρ Q):yx X tg iter t':=PI.weak h fun σ H Q hh_=>hh_.elim fun F ρ Qp er q k=>⟨F,ρ,Qp,er,w ρ Qp q,k⟩
theorem Kt {t u:nS}(h:yx X tg iter t)(h':yx X tg iter u):yx X tg iter (fun ρ Q=>t ρ Q\/u ρ Q):=fun pins s σ H Q I hh_=>hh_.elim fun F ρ Qp er q k=>q.elim (fun q=>h pins s σ H Q I ⟨F,ρ,Qp,er,q,k⟩) fun q=>h' pins s σ H Q I ⟨F,ρ,Qp,er,q,k⟩
noncomputable def nE (f:FE):FI:=fun ρ=>(f ρ).bind fun r=>r.fr.bind items
theorem A2 (h:DE X iter f):DI X tg iter (nE f):=jd (Kt (AW h.ee) (Ey h.ee)) fun ρ Q ⟨its,e,q⟩=>by
 obtain⟨r,e1,e⟩:=Option.bind_eq_some_iff.mp e
 obtain⟨p,e2,e⟩:=Option.bind_eq_some_iff.mp e
 cases p<;>first|(cases e;done)|skip
 ·cases e;exact .inr ⟨r,_,e1,e2,q⟩
 ·cases e;exact .inl ⟨r,_,e1,e2,q⟩
 ·cases e;exact .inl ⟨r,_,e1,e2,q⟩
 ·cases e;exact .inr ⟨r,_,e1,e2,q⟩
noncomputable def BB (i:Int):Bool:=decide (-(2 ^ 62)≤i)&&decide (i<2 ^ 62)
noncomputable def iM:List PV->Option (List PV)
 |[.int j]=>if BB j then some (nQ 0 j.toNat) else none
 |_=>none
noncomputable def ye:List PV->Option (List PV)
 |[.int i,.int j]=>if BB i&&BB j then some (nQ i (j - i).toNat) else none
 |_=>none
noncomputable def iN (g:List PV->Option (List PV))(fs:FA):FI:=fun ρ=>(fs ρ).bind fun rs=>g (rs.map RV.pv)
theorem lD {i:Int}(h:BB i=true):-(2 ^ 62)≤i/\i<2 ^ 62:=by
 unfold BB at h
 rw[Bool.and_eq_true,decide_eq_true_eq,decide_eq_true_eq] at h
 exact h
theorem JL (h:PI X tg iter (rl (lAT X.K (FD fs)))):DI X tg iter (iN iM fs):=jd (AX h) fun ρ Q ⟨its,e,q⟩=>by
 obtain⟨rs,e1,e⟩:=Option.bind_eq_some_iff.mp e
 refine⟨rs,e1,?_⟩
 unfold iM at e
 split at e
 ·next j ej=>
  split at e
  ·next z=>cases e;rw[ej];exact⟨(lD z).1,(lD z).2,q⟩
  ·cases e
 ·cases e
theorem JD (h:PI X tg iter (AM (lAT X.K (FD fs)))):DI X tg iter (iN ye fs):=jd (zE h) fun ρ Q ⟨its,e,q⟩=>by
 obtain⟨rs,e1,e⟩:=Option.bind_eq_some_iff.mp e
 refine⟨rs,e1,?_⟩
 unfold ye at e
 split at e
 ·next i j ej=>
  split at e
  ·next z=>cases e;rw[Bool.and_eq_true] at z;rw[ej];exact⟨⟨(lD z.1).1,(lD z.1).2,(lD z.2).1,(lD z.2).2⟩,q⟩
  ·cases e
 ·cases e
noncomputable def BA (fs:FA):FI:=fun ρ=>(fs ρ).bind fun rs=>(rs.mapM RV.fr).bind fun ps=>match ps with
 |[p]=>(gD p).map (gh 0)
 |_=>none
theorem Kr (h:PI X tg iter (zk X.K (lA X.K (Jv fs)))):DI X tg iter (BA fs):=jd (By h) fun ρ Q ⟨its,e,q⟩=>by
 obtain⟨rs,e1,e⟩:=Option.bind_eq_some_iff.mp e
 obtain⟨ps,e2,e⟩:=Option.bind_eq_some_iff.mp e
 split at e
 ·next p=>
  obtain⟨qs,e3,rfl⟩:=Option.map_eq_some_iff.mp e
  exact⟨rs,_,e1,e2,fD e3 q⟩
 ·cases e
noncomputable abbrev FT:=PV->al->Option al
noncomputable abbrev Ca:=List PV->al->Option al
noncomputable def qT (t:FT):qc:=fun p ρ Q=>∃ρ',t p ρ=some ρ'/\Q ρ'
noncomputable def M0 (t:Ca):qa:=fun p ρ Q=>∃ρ',t p ρ=some ρ'/\Q ρ'
noncomputable def gN (i:Nat):FT:=fun p ρ=>some (ρ.set i (some (.val p)))
noncomputable def g0:Ca:=fun ps ρ=>match ps with
 |[]=>some ρ
 |_=>none
noncomputable def gC (t:FT)(ts:Ca):Ca:=fun ps ρ=>match ps with
 |p::ps=>(t p ρ).bind fun ρ'=>ts ps ρ'
 |[]=>none
theorem oT {K:PySem.W.Frag}{g0:TG}{g g':qc}(h:fH K g0 g)(w:∀p ρ Q,g' p ρ Q->g p ρ Q):fH K g0 g':=fun F H σ ρ p v Qp Q s r q k=>h F H σ ρ p v Qp Q s r (w p ρ Qp q) k
theorem mz {K:PySem.W.Frag}{g0:tX}{g g':qa}(h:jh K g0 g)(w:∀p ρ Q,g' p ρ Q->g p ρ Q):jh K g0 g':=fun F H σ ρ p v Qp Q s r q k=>h F H σ ρ p v Qp Q s r (w p ρ Qp q) k
theorem Hx {K:PySem.W.Frag}{i:Nat}:fH K (dm i) (qT (gN i)):=oT Dt fun p ρ Q ⟨ρ',e,q⟩=>by cases e;exact q
theorem MG {K:PySem.W.Frag}:jh K Fy (M0 g0):=mz Im fun ps ρ Q ⟨ρ',e,q⟩=>by
 cases ps with
 |nil=>cases e;exact q
 |cons=>cases e
theorem Ke {K:PySem.W.Frag}{h0:TG}{t:FT}{hs0:tX}{ts:Ca}(h1:fH K h0 (qT t))(h2:jh K hs0 (M0 ts)):jh K (vB h0 hs0) (M0 (gC t ts)):=mz (Dk h1 h2) fun ps ρ Q ⟨ρ',e,q⟩=>by
 cases ps with
 |nil=>cases e
 |cons p ps=>
  obtain⟨ρ2,e1,e2⟩:=Option.bind_eq_some_iff.mp e
  exact⟨ρ2,e1,ρ',e2,q⟩
noncomputable def O0 (n:Nat)(ts:Ca):FT:=fun p ρ=>match p with
 |.tup ps=>if ps.length=n then ts ps ρ else none
 |_=>none
theorem OA {K:PySem.W.Frag}{n:Nat}{hs0:tX}{ts:Ca}(h:jh K hs0 (M0 ts)):fH K (FP K n hs0) (qT (O0 n ts)):=oT (Jf h) fun p ρ Q ⟨ρ',e,q⟩=>by
 unfold O0 at e
 split at e
 ·split at e
  ·next z=>exact⟨z,ρ',e,q⟩
  ·cases e
 ·cases e
noncomputable def kO (t:FT)(c:FB)(f:FE)(ρ:al):List PV->Option (List PV)
 |[]=>some []
 |p::ps=>(t p ρ).bind fun ρ2=>(c ρ2).bind fun b=>if b=true then (f ρ2).bind fun r=>r.fr.bind fun q=>(kO t c f ρ ps).map fun qs=>q::qs else kO t c f ρ ps
noncomputable def bL (fm:List (Option Nat))(it:FI)(t:FT)(c:FB)(f:FE):FE:=fun ρ=>(it ρ).bind fun its=>if its.length<1000 then (kO t c f (iK fm ρ) its).map .nw else none
noncomputable def dh:FB:=fun _=>some true
theorem BH {t:FT}{c:FB}{ρ:al}:∀{its qs acc:List PV} {Q:List PV->Prop},kO t c f ρ its=some qs->Q (acc++qs)->LJ (qT t) (yy c) (tF f) ρ its acc Q:=fun {its}=>by
 induction its with
 |nil=>intro qs acc Q e q;cases e;rw[List.append_nil] at q;exact q
 |cons p ps ih=>
  intro qs acc Q e q
  rw[kO] at e
  obtain⟨ρ2,e1,e⟩:=Option.bind_eq_some_iff.mp e
  obtain⟨b,e2,e⟩:=Option.bind_eq_some_iff.mp e
  refine⟨ρ2,e1,b,e2,?_⟩
  cases b with
  |true=>
   rw[if_pos rfl] at e ⊢
   obtain⟨r,e3,e⟩:=Option.bind_eq_some_iff.mp e
   obtain⟨y,e4,e⟩:=Option.bind_eq_some_iff.mp e
   obtain⟨ys,e5,rfl⟩:=Option.map_eq_some_iff.mp e
   exact⟨r,y,e3,e4,ih e5 (by rw[List.append_assoc];exact q)⟩
  |false=>
   rw[if_neg Bool.false_ne_true] at e ⊢
   exact ih e q
theorem pX {fm:List (Option Nat)}{it:FI}{t:FT}{c:FB}{ρ:al}{r:RV}(e:bL fm it t c f ρ=some r):∃ps,r=.nw ps/\oQ fm (GZ it) (qT t) (yy c) (tF f) ρ (fun x=>x=ps):=by
 obtain⟨its,e1,e⟩:=Option.bind_eq_some_iff.mp e
 split at e
 ·next z=>
  obtain⟨ps,e2,rfl⟩:=Option.map_eq_some_iff.mp e
  exact⟨ps,rfl,its,e1,z,BH e2 rfl⟩
 ·cases e
noncomputable def Ri (X:Cx)(ifs:List Expr)(c:FB):Prop:=JC X ifs (yy c)
theorem HJ:Ri X [] dh:=PIf.weak y8 fun σ H Q hh_=>hh_.elim fun F ρ Qp er ⟨b,e,q⟩ k=>by cases e;exact⟨F,ρ,Qp,er,q,k⟩
theorem Ik (h:DB X c ba):Ri X [c] ba:=AH h
theorem Kq {fm:List (Option Nat)}{it:FI}{h0:TG}{t:FT}{c:FB}(hg:fH X.K h0 (qT t))(h:PE X e (gJ fm (lI X.K (GZ it)) h0 (lB X.K (yy c)) (lE X.K (tF f)))):DE X e (bL fm it t c f):=.ofN (CW (K:=X.K) hg h) fun ρ r e=>pX e
end
end Dp
end
section
namespace Dp
open PySem PySem.Spec L2 Pu
inductive Out where
 |nx (ρ:al)|bk (ρ:al)|ct (ρ:al)|rt (p:PV)|rn (ps:List PV)|bad
noncomputable abbrev FS:=al->Out
noncomputable def Out.sat (D:PEnds):Out->Prop
 |.nx ρ=>D.nx ρ
 |.bk ρ=>D.bk ρ
 |.ct ρ=>D.ct ρ
 |.rt p=>D.rt p
 |.rn ps=>D.rn ps
 |.bad=>False
noncomputable def lK (f:FS):hG:=fun D ρ=>(f ρ).sat D
noncomputable def DS (X:Cx)(st:Stmt)(f:FS):Prop:=jv X st (lK f)
noncomputable def B8 (X:Cx)(st:List Stmt)(f:FS):Prop:=mE X st (lK f)
section
variable {X:Cx}{e a b c tg iter:Expr}{es:List Expr}{st:Stmt}{bW:List Stmt}{pos:Pos}{f fa fb:FE}{fs:FA}{s u:FS}{i j:Nat}{ba:FB}
theorem aQ {t t':hG}(h:jv X st t)(w:∀D ρ,t' D ρ->t D ρ):jv X st t':=PS.weak h fun D σ H hh_=>hh_.elim fun F0 H0 F ρ Dp br q ft=>⟨F0,H0,F,ρ,Dp,br,w Dp ρ q,ft⟩
theorem x9 {t t':hG}(h:mE X bW t)(w:∀D ρ,t' D ρ->t D ρ):mE X bW t':=PSs.weak h fun D σ H hh_=>hh_.elim fun F0 H0 F ρ Dp br q ft=>⟨F0,H0,F,ρ,Dp,br,w Dp ρ q,ft⟩
theorem uE {t t':hG}(h:jv X st t)(h':jv X st t'):jv X st (fun D ρ=>t D ρ\/t' D ρ):=fun pins s σ H D I hh_=>hh_.elim fun F0 H0 F ρ Dp br q ft=>q.elim (fun q=>h pins s σ H D I ⟨F0,H0,F,ρ,Dp,br,q,ft⟩) fun q=>h' pins s σ H D I ⟨F0,H0,F,ρ,Dp,br,q,ft⟩
noncomputable def bE:FS:=fun ρ=>.nx ρ
noncomputable def gU:FS:=fun _=>.bad
noncomputable def Q5:FS:=fun ρ=>.bk ρ
noncomputable def Qb:FS:=fun ρ=>.ct ρ
noncomputable def aC (s u:FS):FS:=fun ρ=>match s ρ with
 |.nx ρ'=>u ρ'
 |o=>o
theorem Oc:B8 X [] bE:=AU
theorem Mf (h:DS X st s):B8 X [st] s:=zo h
theorem IG (h1:DS X st s)(h2:B8 X bW u):B8 X (st::bW) (aC s u):=x9 (xn h1 h2) fun D ρ q=>by
 unfold lK aC at q
 unfold Ol lK
 cases e:s ρ with
 |nx ρ'=>rw[e] at q;exact q
 |_=>rw[e] at q;exact q
theorem HH:DS X (.Pass pos) bE:=Aw
theorem LW {x j pos pos'}:DS X (.Expr (.Constant (.str x) j pos) pos') bE:=DG
theorem P9:DS X (.Break pos) Q5:=xD
theorem O8:DS X (.Continue pos) Qb:=ze
theorem eI:DS X st gU:=aQ pf fun D ρ q=>q
noncomputable def gF (f:FE):FS:=fun ρ=>match f ρ with
 |some (.fz _)=>.nx ρ
 |_=>.bad
theorem yJ (h:PS X st (lV (lE X.K (tF f)))):DS X st (gF f):=aQ (Bq h) fun D ρ q=>by
 unfold lK gF at q
 split at q
 ·next p e=>exact⟨_,_,e,rfl,q⟩
 ·exact q.elim
noncomputable def bB (f:FE):FS:=fun ρ=>match f ρ with
 |some (.fz p)=>.rt p
 |some (.nw ps)=>.rn ps
 |_=>.bad
theorem GV (h:DE X e f):DS X (.Return (some e) pos) (bB f):=aQ (uE (wa h.ee) (Bb h.nn)) fun D ρ q=>by
 unfold lK bB at q
 split at q
 ·next p e=>exact .inl ⟨_,_,e,rfl,q⟩
 ·next p e=>exact .inr ⟨_,e,q⟩
 ·exact q.elim
noncomputable def ky (i:Nat):FS:=fun ρ=>match sl ρ i with
 |some (.val p)=>.rt p
 |some (.own ps)=>.rn ps
 |_=>.bad
theorem KY (h:PE X e (gz i)):DS X (.Return (some e) pos) (ky i):=aQ (uE (wa (Re h).ee) (Bu h)) fun D ρ q=>by
 unfold lK ky at q
 split at q
 ·next p e=>exact .inl ⟨.fz p,p,by unfold fV;rw[e];rfl,rfl,q⟩
 ·next p e=>refine .inr ?_;unfold G4 go;rw[fR e];exact q
 ·exact q.elim
noncomputable def lh (g:FB)(s u:FS):FS:=fun ρ=>match g ρ with
 |some true=>s ρ
 |some false=>u ρ
 |none=>.bad
theorem QQ {sa sb:List Stmt}(hc:DB X c ba)(ha:B8 X sa s)(hb:B8 X sb u):DS X (.If c sa sb pos) (lh ba s u):=aQ (J5 hc ha hb) fun D ρ q=>by
 unfold lK lh at q
 split at q
 ·next e=>exact⟨true,e,q⟩
 ·next e=>exact⟨false,e,q⟩
 ·exact q.elim
noncomputable def bA (i:Nat)(f:FE):FS:=fun ρ=>match (f ρ).bind RV.fr with
 |some p=>.nx (ρ.set i (some (.val p)))
 |none=>.bad
theorem Mw (h:PS X st (ir (lE X.K (tF f)) (dm i))):DS X st (bA i f):=aQ (vG h) fun D ρ q=>by
 unfold lK bA at q
 split at q
 ·next p e=>
  obtain⟨r,e1,e2⟩:=Option.bind_eq_some_iff.mp e
  exact⟨r,p,e1,e2,q⟩
 ·exact q.elim
noncomputable def iU (i:Nat)(f:FE):FS:=fun ρ=>match f ρ with
 |some (.fz p)=>.nx (ρ.set i (some (.val p)))
 |some (.nw ps)=>.nx (ρ.set i (some (.own ps)))
 |_=>.bad
theorem NK (h:PS X st (ir (lE X.K (tF f)) (dm i)))(h':PS X st (ir (lN X.K (tN f)) (dm i))):DS X st (iU i f):=aQ (uE (vG h) (rX h')) fun D ρ q=>by
 unfold lK iU at q
 split at q
 ·next p e=>exact .inl ⟨_,_,e,rfl,q⟩
 ·next p e=>exact .inr ⟨_,e,q⟩
 ·exact q.elim
theorem Ly {fm:List (Option Nat)}{it:FI}{h0:TG}{t:FT}{c:FB}(hg:fH X.K h0 (qT t))(h:PS X st (ir (gJ fm (lI X.K (GZ it)) h0 (lB X.K (yy c)) (lE X.K (tF f))) (dm i))):DS X st (bA i (bL fm it t c f)):=aQ (qJ hg h) fun D ρ q=>by
 unfold lK bA at q
 split at q
 ·next p e=>
  obtain⟨r,e1,e2⟩:=Option.bind_eq_some_iff.mp e
  obtain⟨ps,rfl,k⟩:=pX e1
  cases e2
  obtain⟨its,e3,hl,k⟩:=k
  refine⟨its,e3,hl,?_⟩
  obtain⟨its',e4,e5⟩:=Option.bind_eq_some_iff.mp e1
  rw[e3] at e4;cases e4
  rw[if_pos hl] at e5
  obtain⟨qs,e6,e7⟩:=Option.map_eq_some_iff.mp e5
  cases e7
  exact BH e6 q
 ·exact q.elim
theorem Il {fm:List (Option Nat)}{it:FI}{h0:TG}{t:FT}{c:FB}(hg:fH X.K h0 (qT t))(h:PS X st (ir (gJ fm (lI X.K (GZ it)) h0 (lB X.K (yy c)) (lE X.K (tF f))) (dm i))):DS X st (iU i (bL fm it t c f)):=aQ (tE hg h) fun D ρ q=>by
 have key:∀r,bL fm it t c f ρ=some r->∃its ps,r=.nw ps/\it ρ=some its/\its.length<1000/\kO t c f (iK fm ρ) its=some ps:=fun r e1=>by
  obtain⟨its,e3,e5⟩:=Option.bind_eq_some_iff.mp e1
  split at e5
  ·next hl=>
   obtain⟨qs,e6,e7⟩:=Option.map_eq_some_iff.mp e5
   exact⟨its,qs,e7.symm,e3,hl,e6⟩
  ·cases e5
 unfold lK iU at q
 split at q
 ·next p e=>obtain⟨_,_,z,_⟩:=key _ e;cases z
 ·next p e=>
  obtain⟨its,ps,z,e3,hl,e6⟩:=key _ e
  cases z
  exact⟨its,e3,hl,BH e6 q⟩
 ·exact q.elim
noncomputable def uB (f:FE)(t:FT):FS:=fun ρ=>match (f ρ).bind RV.fr with
 |some p=>match t p ρ with
  |some ρ'=>.nx ρ'
  |none=>.bad
 |none=>.bad
theorem MF {h0:TG}{t:FT}(hg:fH X.K h0 (qT t))(h:PS X st (ir (lE X.K (tF f)) h0)):DS X st (uB f t):=aQ (Ev hg h) fun D ρ q=>by
 unfold lK uB at q
 split at q
 ·next p e=>
  obtain⟨r,e1,e2⟩:=Option.bind_eq_some_iff.mp e
  split at q
  ·next ρ' e3=>exact⟨r,p,e1,e2,ρ',e3,q⟩
  ·exact q.elim
 ·exact q.elim
noncomputable def Ga (i j:Nat)(fs:FA):FS:=fun ρ=>match (fs ρ).bind fun rs=>rs.mapM RV.fr with
 |some [p,q]=>.nx ((ρ.set i (some (.val p))).set j (some (.val q)))
 |_=>.bad
theorem OC (h:PS X st (zI i j (lA X.K (Jv fs)))):DS X st (Ga i j fs):=aQ (C1 h) fun D ρ q=>by
 unfold lK Ga at q
 split at q
 ·next p p' e=>
  obtain⟨r,e1,e2⟩:=Option.bind_eq_some_iff.mp e
  exact⟨r,_,e1,e2,q⟩
 ·exact q.elim
noncomputable def uL (i:Nat)(s:FS):FS:=fun ρ=>s (frz i ρ)
theorem Nc (i:Nat)(h:DS X st s):DS X st (uL i s):=ua i h
noncomputable def Ej (g:Int->Int->Int)(i:Nat)(f:FE):FS:=fun ρ=>match sl ρ i,(f ρ).bind RV.fr with
 |some (.val (.int a)),some (.int b)=>.nx (ρ.set i (some (.val (.int (g a b)))))
 |_,_=>.bad
theorem ND {g:Int->Int->Int}(h:PS X st (Ht i (lE X.K (tF f)) (LE g))):DS X st (Ej g i f):=aQ (FF h) fun D ρ q=>by
 unfold lK Ej at q
 split at q
 ·next a b e1 e2=>
  obtain⟨r,e3,e4⟩:=Option.bind_eq_some_iff.mp e2
  unfold K4 gv
  rw[fR e1]
  exact⟨r,_,e3,e4,q⟩
 ·exact q.elim
noncomputable def t4 (i:Nat)(fs:FA):FS:=fun ρ=>match sl ρ i,(fs ρ).bind fun rs=>rs.mapM RV.fr with
 |some (.own ps),some [q]=>if ps.length≤100000 then .nx (ρ.set i (some (.own (ps++[q])))) else .bad
 |_,_=>.bad
theorem Ov (h:PS X st (lV (O6 X.K "list" mx (gz i) (lA X.K (Jv fs))))):DS X st (t4 i fs):=aQ (C7 h) fun D ρ q=>by
 unfold lK t4 at q
 split at q
 ·next ps p e1 e2=>
  obtain⟨r,e3,e4⟩:=Option.bind_eq_some_iff.mp e2
  unfold LP go
  rw[fR e1]
  split at q
  ·next z=>exact⟨r,_,e3,e4,QJ z,q⟩
  ·exact q.elim
 ·exact q.elim
noncomputable def xb (j:Nat)(fi f:FE):FS:=fun ρ=>match (f ρ).bind RV.fr,sl ρ j,(fi ρ).bind RV.fr with
 |some v,some (.own ps),some (.int k)=>match qw ps.length k with
  |some n=>.nx (ρ.set j (some (.own (ps.set n v))))
  |none=>.bad
 |_,_,_=>.bad
theorem L4 {fi:FE}(h:PS X st (ir (lE X.K (tF f)) (L2.Ab (gz j) (lE X.K (tF fi)) Bx))):DS X st (xb j fi f):=aQ (wN h) fun D ρ q=>by
 unfold lK xb at q
 split at q
 ·next v ps k e1 e2 e3=>
  obtain⟨r,e4,e5⟩:=Option.bind_eq_some_iff.mp e1
  obtain⟨r',e6,e7⟩:=Option.bind_eq_some_iff.mp e3
  split at q
  ·next n en=>
   refine⟨r,v,e4,e5,?_⟩
   unfold go
   rw[fR e2]
   refine⟨r',_,e6,e7,?_⟩
   show OkO (qw ps.length k) _
   rw[en]
   exact q
  ·exact q.elim
 ·exact q.elim
noncomputable def bZ (t:FT)(s:FS):List PV->al->Out
 |[],ρ=>.nx ρ
 |p::ps,ρ=>match t p ρ with
  |some ρ1=>match s ρ1 with
   |.nx ρ2=>bZ t s ps ρ2
   |.ct ρ2=>bZ t s ps ρ2
   |.bk ρ2=>.nx ρ2
   |o=>o
  |none=>.bad
noncomputable def jT (it:FI)(t:FT)(s:FS):FS:=fun ρ=>match it ρ with
 |some its=>bZ t s its ρ
 |none=>.bad
theorem DM {t:FT}{D:PEnds}:∀{its:List PV} {ρ:al},(bZ t s its ρ).sat D->pe (qT t) (lK s) D its ρ:=fun {its}=>by
 induction its with
 |nil=>intro ρ q;exact q
 |cons p ps ih=>
  intro ρ q
  rw[bZ] at q
  split at q
  ·next ρ1 e1=>
   refine⟨ρ1,e1,?_⟩
   show (s ρ1).sat _
   cases e2:s ρ1 with
   |nx ρ2=>rw[e2] at q;exact ih q
   |ct ρ2=>rw[e2] at q;exact ih q
   |bk ρ2=>rw[e2] at q;exact q
   |rt _=>rw[e2] at q;exact q
   |rn _=>rw[e2] at q;exact q
   |bad=>rw[e2] at q;exact q
  ·exact q.elim
theorem MY {it:FI}{h0:TG}{t:FT}(hg:fH X.K h0 (qT t))(h:PS X st (xI (lI X.K (GZ it)) h0 (lS X.K (lK s)))):DS X st (jT it t s):=aQ (Eo hg h) fun D ρ q=>by
 unfold lK jT at q
 split at q
 ·next its e=>exact⟨its,e,DM q⟩
 ·exact q.elim
noncomputable def dP (c:FB)(s:FS):Nat->al->Out
 |0,_=>.bad
 |n+1,ρ=>match c ρ with
  |some true=>match s ρ with
   |.nx ρ2=>dP c s n ρ2
   |.ct ρ2=>dP c s n ρ2
   |.bk ρ2=>.nx ρ2
   |o=>o
  |some false=>.nx ρ
  |none=>.bad
noncomputable def nO (c:FB)(s:FS):FS:=fun ρ=>dP c s 10000 ρ
theorem Ay {c:FB}{D:PEnds}:∀{n:Nat} {ρ:al},(dP c s n ρ).sat D->jl (yy c) (lK s) D n ρ:=fun {n}=>by
 induction n with
 |zero=>intro ρ q;exact q
 |succ n ih=>
  intro ρ q
  rw[dP] at q
  split at q
  ·next e1=>
   refine⟨true,e1,?_⟩
   show (if true=true then (s ρ).sat _ else _)
   rw[if_pos rfl]
   cases e2:s ρ with
   |nx ρ2=>rw[e2] at q;exact ih q
   |ct ρ2=>rw[e2] at q;exact ih q
   |bk ρ2=>rw[e2] at q;exact q
   |rt _=>rw[e2] at q;exact q
   |rn _=>rw[e2] at q;exact q
   |bad=>rw[e2] at q;exact q
  ·next e1=>
   exact⟨false,e1,q⟩
  ·exact q.elim
theorem CT {c:FB}(h:PS X st (ug (lB X.K (yy c)) (lS X.K (lK s)))):DS X st (nO c s):=aQ (xB h) fun D ρ q=>⟨10000,Ay q⟩
end
noncomputable def Out.res:Out->Option PR
 |.nx _=>some (.v .non)
 |.rt p=>some (.v p)
 |.rn ps=>some (.n ps)
 |_=>none
noncomputable def run (a n:Nat)(s:FS)(qs:List PV):Option PR:=if qs.length=a then (s (O2 n qs)).res else none
theorem Bo {o:Out}{r:PR}{Q:PR->Prop}(h:o.res=some r)(q:Q r):o.sat (PEnds.of Q):=by
 cases o<;>cases h<;>exact q
theorem Mz {P:Program}{w:World}{K:PySem.W.Frag}{mg:Str->Option Value}{base:Heap}{x:Str}{st:Stmt}{N ps:List Str}{k a n:Nat}{s:FS}(F:FunD K mg x st ps)(S:FnScope N ps (aa st))
  (hb:∀(f:Addr) (cdv:Value) (A:Around) (outer:List Env) (s':Shared) (H:Hp) (E:XK),Room k (A.deeper (PyProof.Rows.envOfC x (aa st) s'.heap.objs.size f cdv))->B8 (kE rZ P w K mg base N x (aa st) f cdv A outer s' H E).nox (ak st) s)
  (ha:ps.length=a:=by rfl) (hn:N.length=n:=by rfl):Def P w K mg base (k+1) x ps (aN K (aW (run a n s))):=by
 subst ha hn
 refine QS F S (fun qs Q ⟨r,e,q⟩=>?_) hb fun qs Q ⟨r,e,q⟩=>?_
 ·unfold run at e
  split at e
  ·assumption
  ·cases e
 ·unfold run at e
  split at e
  ·exact Bo e q
  ·cases e
theorem Jt {X:Cx}{body:List Stmt}{s:FS}{N:List Str}{H:Hp}{vs:List V}{Q:VK}{E:XK}{n:Nat}(hb:B8 X body s)(h:ph X.K vs H Q E)
  (hp:∀ns:List Int,ns.length≤63->run 1 n s [.src (ns.map PV.int)]=some (.v (.bl true))) (hn:N.length=n:=by rfl):∃t,PSs X body t/\t { nx:=fun _ H'=>Q .non H',rt:=Q } (L2.fO N vs) H:=by
 subst hn
 exact xg hb h fun ns hl=>by
  have this:(s (O2 N.length [.src (ns.map PV.int)])).res=some (.v (.bl true)):=hp ns hl
  exact Bo this rfl
end Dp
end
section
namespace Dp
open PySem PySem.Spec L2 Pu
section
variable {X:Cx}{e a b c tg iter:Expr}{es:List Expr}{st:Stmt}{bW:List Stmt}{p pos:Pos}{f fa fb:FE}{fs:FA}{s u:FS}{i j k:Nat}{ba:FB}{x:Str}{ps:List Str}{F:List PV->Option PR}
theorem C4 (d:Def X.prog X.w X.K X.mg X.base j x ps (aN X.K (aW F)))(hr:Room k X.A)(ha:DA X (e::es) fs)(hj:j≤k:=by decide)(hg:Gl X x:=by rfl)(hdb:(x==("__debug__" : Str))=false:=by decide)(he:starEach (e::es) X.env=(false,eval e X.env)::starEach es X.env:=by rfl)
  (hpl:(backTo pos (starEach es X.env)).any (·.1)=false:=by rfl):DE X (.Call (.Name x p) (e::es) [] pos) (aj F fs):=zj (nt d hr ha.f hj hg hdb he hpl) (nt d hr ha.t hj hg hdb he hpl)
noncomputable def zW (F:List PV->Option PR):FE:=fun _=>(F []).map oa
theorem Bz (d:Def X.prog X.w X.K X.mg X.base j x ps (aN X.K (aW F)))(hr:Room k X.A)(hj:j≤k:=by decide)(hg:Gl X x:=by rfl)(hdb:(x==("__debug__" : Str))=false:=by decide):DE X (.Call (.Name x p) [] [] pos) (zW F):=by
 have h:=wA (p:=p) (pos:=pos) d hr hj hg hdb
 have h':PE X (.Call (.Name x p) [] [] pos) (hX (aN X.K (aW F)) [] E0 (lA X.K (Jv ag))):=PE.weak h fun σ H Q hh_=>hh_.elim fun F ρ Qp er ⟨rs,ps,e1,e2,q⟩ k=>by
  cases e1;cases e2
  exact k [] [] F H q (.refl er.fz) rfl
 have h2:PE X (.Call (.Name x p) [] [] pos) (hX (aN X.K (aW F)) [] E0 (lAT X.K (FD ag))):=PE.weak h fun σ H Q hh_=>hh_.elim fun F ρ Qp er ⟨rs,e1,q⟩ k=>by
  cases e1
  exact k [] [] F H q (.refl er.fz) .nil
 exact zj h' h2
theorem Cc (hm:X.mg "list" = none)(ha:DA X (e::es) fs)(hc:X.calm=true:=by rfl)(hg:Gl X "list":=by rfl)(he:starEach (e::es) X.env=(false,eval e X.env)::starEach es X.env:=by rfl)(hpl:(backTo pos (starEach es X.env)).any (·.1)=false:=by rfl) :
  DE X (.Call (.Name "list" p) (e::es) [] pos) (fB iI fs):=IS (x:="list") (p:=p) rfl (eX qD hg hm pp ha.t (by decide) (by decide) he hpl) (eX (oe hc) hg hm pp ha.t (by decide) (by decide) he hpl)
theorem IF {pos':Pos}(he:DE X e f)(hN:X.N.Nodup)(hi:X.N[i]?=some x)(hx:KS X.env.scope x)(hs:swapsWith e (some (.Name x pos')) pos.line X.env=pure false:=by rfl)(hf:X.fn x=true\/X.env.scope.names.lookup x=some .local:=by first|exact .inl rfl|exact .inr rfl|assumption) :
  DS X (.Assign [.Name x pos'] e pos) (iU i f):=NK (nK hN hi hx he.ee hs hf) (nK hN hi hx he.nn hs hf)
end
end Dp
end
section
namespace Pu
open PySem L2 Fo
theorem wo {i j:Int}:g9 (.int i) (.int j)=decide (i=j):=by
 simp only[g9,bT,iE,wz,Bool.true_and]
 rw[Bool.eq_iff_iff,beq_iff_eq,decide_eq_true_iff]
theorem DC {i j:Str}:g9 (.str i) (.str j)=decide (i=j):=by
 simp only[g9,bT,iE,wz,Bool.true_and]
 rw[Bool.eq_iff_iff,beq_iff_eq,decide_eq_true_iff]
theorem JI {i j:Bool}:g9 (.bl i) (.bl j)=(i==j):=by
 simp only[g9,bT,iE,wz,Bool.true_and]
theorem EC {ps qs:List PV}:g9 (.tup ps) (.tup qs)=ig ps qs:=by simp only[g9]
theorem Dw {ps qs:List PV}:g9 (.lst ps) (.lst qs)=ig ps qs:=by simp only[g9]
theorem xH {p q:PV}{ps qs:List PV}:ig (p::ps) (q::qs)=(g9 p q&&ig ps qs):=by simp only[ig]
theorem zy:ig [] []=true:=by simp only[ig]
theorem dy (us:List Nat):(nums us).length=us.length:=List.length_map ..
theorem mV:nums []=[]:=rfl
theorem cZ (x:Nat)(us:List Nat):nums (x::us)=nI x::nums us:=rfl
theorem kI (us vs:List Nat):nums (us++vs)=nums us++nums vs:=List.map_append
theorem tM (us:List Nat)(i v:Nat):(nums us).set i (nI v)=nums (us.set i v):=by unfold nums;rw[List.map_set]
theorem aV:∀us:List Nat,az (nums us)=true
 |[]=>by simp only[nums,List.map_nil,az]
 |x::us=>by rw[cZ,az,aV us];simp only[nI,ay,Bool.and_true]
theorem dE:∀us:List Nat,bP (nums us)=0
 |[]=>by simp only[nums,List.map_nil,bP]
 |x::us=>by rw[cZ,bP,dE us];simp only[nI,kl,Nat.max_self]
theorem il {n x:Nat}(h:x<n):qw n (x:Int)=some x:=by
 unfold qw
 rw[if_pos (by omega),if_pos (by omega),Int.toNat_natCast]
theorem fU {ps:List PV}{x:Nat}{p:PV}(h:ps[x]?=some p):L2.atI ps (x:Int)=some p:=by
 unfold L2.atI
 have hx:x<ps.length:=(List.getElem?_eq_some_iff.mp h).1
 rw[il hx]
 exact h
theorem RY {a:PV}{l:List PV}:L2.atI (a::l) (0:Int)=some a:=fU (x:=0) rfl
theorem RZ {a b:PV}{l:List PV}:L2.atI (a::b::l) (1:Int)=some b:=fU (x:=1) rfl
theorem RL {a b c:PV}{l:List PV}:L2.atI (a::b::c::l) (2:Int)=some c:=fU (x:=2) rfl
theorem RO {a b c d:PV}{l:List PV}:L2.atI (a::b::c::d::l) (3:Int)=some d:=fU (x:=3) rfl
theorem sN {us:List Nat}{x:Nat}(hx:x<us.length):(nums us)[x]?=some (nI (up us x)):=by
 unfold nums
 rw[List.getElem?_map,List.getElem?_eq_getElem hx]
 simp[up,hx]
theorem am {us:List Nat}{x:Nat}(hx:x<us.length):L2.atI (nums us) (x:Int)=some (nI (up us x)):=fU (sN hx)
theorem hZ (us:List Nat)(y:Nat):L2.atI (nums (us++[y])) (-1)=some (nI y):=by
 unfold L2.atI qw
 rw[dy,List.length_append,if_neg (by decide),if_pos (by simp;omega)]
 have:(-1+((us.length+[y].length:Nat):Int)).toNat=us.length:=by simp;omega
 rw[this]
 show (nums (us++[y]))[us.length]?=_
 rw[sN (by simp)]
 simp[up]
theorem oV {l:List Nat}(h:l≠[]):L2.atI (nums l) (-1)=some (nI (dZ l)):=by
 obtain⟨us,y,rfl⟩:∃us y,l=us++[y]:=⟨l.dropLast,l.getLast h,(List.dropLast_concat_getLast h).symm⟩
 rw[hZ]
 simp[dZ]
theorem lm (us:List Nat)(y:Nat):nums us++[PV.int y]=nums (us++[y]):=(kI us [y]).symm
theorem jk (us:List Nat)(i v:Nat):(nums us).set i (PV.int v)=nums (us.set i v):=tM us i v
theorem FV (n:Nat):nQ 0 n=nums (List.range n):=by
 unfold nQ nums
 exact List.map_congr_left fun i _=>by rw[nI,Int.zero_add]
theorem QB (n:Nat):nQ 1 n=nums ((List.range n).map (·+1)):=by
 unfold nQ nums
 rw[List.map_map]
 exact List.map_congr_left fun i _=>by show PV.int (1+(i:Int))=PV.int ((i+1:Nat):Int);congr 1;omega
theorem i8 {us:List Nat}{v:PV}(h:v∈nums us):∃u∈us,v=nI u:=by
 obtain⟨u,hu,e⟩:=List.mem_map.mp h
 exact⟨u,hu,e.symm⟩
noncomputable def iL (ns:List Int):List PV:=ns.map PV.int
theorem Bt (ns:List Int):(iL ns).length=ns.length:=List.length_map ..
theorem JP {n:Nat}{lo:Int}{v:PV}(h:v∈nQ lo n):∃i:Int,v=.int i/\lo≤i/\i<lo+n:=by
 obtain⟨k,hk,rfl⟩:=List.mem_map.mp h
 have:=List.mem_range.mp hk
 exact⟨lo+k,rfl,by omega,by omega⟩
theorem qo (lo:Int)(n:Nat):(nQ lo n).length=n:=by simp[nQ]
theorem BJ {i:Int}(h:0≤i):PV.int i=nI i.toNat:=by rw[nI,Int.toNat_of_nonneg h]
theorem Hj (ns:List Int)(lo hi:Option Int):cut (iL ns) lo hi=iL (cut ns lo hi):=by
 unfold cut iL
 rw[List.length_map,List.map_take,List.map_drop]
theorem na (ns:List Nat)(lo hi:Option Int):cut (nums ns) lo hi=nums (cut ns lo hi):=by
 unfold cut nums
 rw[List.length_map,List.map_take,List.map_drop]
end Pu
namespace Fo
open PySem L2
structure Left (y:Str)(us:List Nat)(x h:Nat)(us':List Nat)(n:Nat)(l:List Nat):Prop where
 way:Way us x l
 hd:h=dZ l
 st:n+1≤l.length
 st2:y ≠ "halves"->n+1=l.length
 sh:Shorter us us'
 off:∀t,t<us.length->t∉l->up us' t=up us t
 no:y = "none"->us'=us
theorem uA {us:List Nat}(f:Fst us){t:Nat}(ht:t<us.length):(up us t=t/\up us (up us t)=t)\/(up us t≠t/\∃l,Way us (up us t) l/\up us (up us t)∈l):=by
 by_cases e:up us t=t
 ·exact .inl ⟨e,by rw[e,e]⟩
 ·obtain⟨l,w,_⟩:=f.way (f.bnd t ht)
  exact .inr ⟨e,l,w,w.closed _ w.mem_self⟩
theorem RM.left {y:Str}{us:List Nat}{x h:Nat}{us':List Nat}{n:Nat}(f:Fst us)(hx:x<us.length)(r:RM y us x h us' n):∃l,Left y us x h us' n l:=by
 have self:=Shorter.refl f
 cases r with
 |none r=>
  obtain⟨rfl,l,w,e,hn⟩:=r
  exact⟨l,w,e,by omega,fun _=>hn,self,fun _ _ _=>rfl,fun _=>rfl⟩
 |whole r=>
  obtain⟨l,w,e,hn,len,hu⟩:=r
  refine⟨l,w,e,by omega,fun _=>hn,⟨len,fun t ht=>?_⟩,fun t ht hm=>by rw[hu,if_neg hm],fun z=>absurd z (by decide)⟩
  rw[hu]
  by_cases hm:t∈l
  ·rw[if_pos hm]
   obtain⟨l2,w2,e2,_,_⟩:=w.later t hm
   cases w2 with
   |head q=>exact .inl ⟨q,by rw[e,←e2];rfl⟩
   |step q w3=>exact .inr ⟨q,_,w3,by rw[e,←e2,cX w3.ne];exact se w3.ne⟩
  ·rw[if_neg hm];exact self.up t ht
 |halves r=>
  obtain⟨l,w,e,hn,len,hu⟩:=r
  have pos:=w.pos
  refine⟨l,w,e,by omega,fun z=>absurd rfl z,⟨len,fun t ht=>?_⟩,fun t ht hm=>by rw[hu,if_neg fun q=>hm (o9 l t q)],fun z=>absurd z (by decide)⟩
  rw[hu]
  by_cases hm:t∈tI l
  ·rw[if_pos hm];exact uA f ht
  ·rw[if_neg hm];exact self.up t ht
 |splits r=>
  obtain⟨l,w,e,hn,len,hu⟩:=r
  refine⟨l,w,e,by omega,fun _=>hn,⟨len,fun t ht=>?_⟩,fun t ht hm=>by rw[hu,if_neg hm],fun z=>absurd z (by decide)⟩
  rw[hu]
  by_cases hm:t∈l
  ·rw[if_pos hm];exact uA f ht
  ·rw[if_neg hm];exact self.up t ht
 |one r=>
  obtain⟨rfl,l,w,e,hn⟩:=r
  refine⟨l,w,e,by omega,fun _=>hn,⟨by rw[List.length_set],fun t ht=>?_⟩,fun t ht hm=>by rw[eR hx,if_neg fun q=>hm (by rw[q];exact w.mem_self)],fun z=>absurd z (by decide)⟩
  rw[eR hx]
  by_cases hm:t=x
  ·rw[if_pos hm,hm];exact uA f hx
  ·rw[if_neg hm];exact self.up t ht
theorem qb {us vs:List Nat}(h:us.length=vs.length)(e:∀t,up us t=up vs t):us=vs:=by
 apply List.ext_getElem h
 intro i h1 h2
 have:=e i
 simpa [up,h1,h2] using this
theorem RM.det {y:Str}{us:List Nat}{x h h2:Nat}{us' us2:List Nat}{n n2:Nat}(r:RM y us x h us' n)(s:RM y us x h2 us2 n2):h2=h/\us2=us'/\n2=n:=by
 cases r with
 |none r=>
  cases s with
  |none s=>obtain⟨rfl,l,w,e,hn⟩:=r;obtain⟨rfl,l2,w2,e2,hn2⟩:=s;cases w.det w2;exact⟨by rw[e,e2],rfl,by omega⟩
 |whole r=>
  cases s with
  |whole s=>obtain⟨l,w,e,hn,len,hu⟩:=r;obtain⟨l2,w2,e2,hn2,gx,hu2⟩:=s;cases w.det w2;cases e;cases e2;exact⟨rfl,qb (by omega) fun t=>by rw[hu,hu2],by omega⟩
 |halves r=>
  cases s with
  |halves s=>obtain⟨l,w,e,hn,len,hu⟩:=r;obtain⟨l2,w2,e2,hn2,gx,hu2⟩:=s;cases w.det w2;exact⟨by rw[e,e2],qb (by omega) fun t=>by rw[hu,hu2],by omega⟩
 |splits r=>
  cases s with
  |splits s=>obtain⟨l,w,e,hn,len,hu⟩:=r;obtain⟨l2,w2,e2,hn2,gx,hu2⟩:=s;cases w.det w2;exact⟨by rw[e,e2],qb (by omega) fun t=>by rw[hu,hu2],by omega⟩
 |one r=>
  cases s with
  |one s=>obtain⟨rfl,l,w,e,hn⟩:=r;obtain⟨rfl,l2,w2,e2,hn2⟩:=s;cases w.det w2;exact⟨by rw[e,e2],rfl,by omega⟩
theorem RM.frst {y:Str}{us:List Nat}{x h:Nat}{us':List Nat}{n:Nat}(f:Frst us)(hx:x<us.length)(r:RM y us x h us' n):Frst us'/\us'.length=us.length:=by
 obtain⟨l,L⟩:=r.left f.fst hx
 have e:=L.sh.len
 exact⟨⟨by rw[e];exact f.one,by rw[e];exact f.most,L.sh.fst f.fst⟩,e⟩
structure Ranked (p us:List Nat)(n:Nat):Prop where
 perm:p.Perm (List.range n)
 len:us.length=n
 up:∀j,j<n->∃i,i≤j/\us.getD (p.getD j 0) 0=p.getD i 0
theorem ur {p us:List Nat}{n:Nat}(h:Ranked p us n):Fst us:=by
 obtain⟨pm,len,hup⟩:=h
 have nd:p.Nodup:=pm.nodup_iff.mpr List.nodup_range
 have pl:p.length=n:=by rw[pm.length_eq,List.length_range]
 have bp:∀i,i<n->p.getD i 0<n:=fun i hi=>by
  have h:p.getD i 0∈p:=by
   rw[List.getD_eq_getElem?_getD,List.getElem?_eq_getElem (by omega)]
   exact List.getElem_mem _
  exact List.mem_range.mp (pm.mem_iff.mp h)
 have rp:∀i,i<n->p.idxOf (p.getD i 0)=i:=fun i hi=>by
  rw[List.getD_eq_getElem?_getD,List.getElem?_eq_getElem (by omega)]
  exact nd.idxOf_getElem i (by omega)
 have ex:∀x,x<n->∃j,j<n/\p.getD j 0=x:=fun x hx=>by
  have hm:x∈p:=pm.mem_iff.mpr (List.mem_range.mpr hx)
  obtain⟨j,hj,e⟩:=List.mem_iff_getElem.mp hm
  exact⟨j,by omega,by rw[List.getD_eq_getElem?_getD,List.getElem?_eq_getElem hj];exact e⟩
 refine⟨fun x hx=>?_,fun x=>p.idxOf x,fun x hx=>?_,fun x hx hn=>?_⟩
 ·rw[len] at hx ⊢
  obtain⟨j,hj,rfl⟩:=ex x hx
  obtain⟨i,hi,e⟩:=hup j hj
  rw[up,e];exact bp i (by omega)
 ·rw[len] at hx ⊢
  obtain⟨j,hj,rfl⟩:=ex x hx
  show p.idxOf _<n
  rw[rp j hj];exact hj
 ·rw[len] at hx
  obtain⟨j,hj,rfl⟩:=ex x hx
  obtain⟨i,hi,e⟩:=hup j hj
  show p.idxOf (up us _)<p.idxOf _
  rw[up,e,rp i (by omega),rp j hj]
  rcases Nat.lt_or_ge i j with h|h
  ·exact h
  ·have:i=j:=by omega
   subst this
   exact absurd e hn
theorem Ranked.set {p us:List Nat}{n k m:Nat}(gr:Ranked p us n)(hk:k<n)(hm:m≤k):Ranked p (us.set (p.getD k 0) (p.getD m 0)) n:=by
 have hpl:p.length=n:=by rw[gr.perm.length_eq,List.length_range]
 have plt:∀k,k<n->p.getD k 0<n:=fun k hk=>by
  have hk':k<p.length:=by omega
  have e:p.getD k 0=p[k]:=by simp[hk']
  rw[e]
  exact List.mem_range.mp (gr.perm.subset (List.getElem_mem hk'))
 refine⟨gr.perm,by rw[List.length_set];exact gr.len,fun j hj=>?_⟩
 by_cases hjk:j=k
 ·subst hjk
  refine⟨m,hm,?_⟩
  rw[List.getD_eq_getElem?_getD,List.getElem?_set_self (by rw[gr.len];exact plt j hj)];rfl
 ·obtain⟨i',h1,h2⟩:=gr.up j hj
  refine⟨i',h1,?_⟩
  have hne:p.getD k 0≠p.getD j 0:=fun e=>by
   have nd:p.Nodup:=gr.perm.nodup_iff.mpr List.nodup_range
   have e1:p.getD k 0=p[k]:=by simp[show k<p.length by omega]
   have e2:p.getD j 0=p[j]:=by simp[show j<p.length by omega]
   rw[e1,e2] at e
   exact hjk ((List.getElem_inj nd).mp e).symm
  rw[List.getD_eq_getElem?_getD,List.getElem?_set_ne hne,←List.getD_eq_getElem?_getD]
  exact h2
theorem Ranked.range {p:List Nat}{n:Nat}(h:p.Perm (List.range n)):Ranked p (List.range n) n:=⟨h,List.length_range,fun j hj=>⟨j,Nat.le_refl _,by
 have hpl:p.length=n:=by rw[h.length_eq,List.length_range]
 have hk':j<p.length:=by omega
 have e:p.getD j 0=p[j]:=by simp[hk']
 have lt:p[j]<n:=List.mem_range.mp (h.subset (List.getElem_mem hk'))
 rw[e];simp[lt]⟩⟩
end Fo
namespace Pu
open PySem L2 Fo
theorem DR:∀k:Nat,k<40->0≤(k:Int) - Builtin.bitAnd (k:Int) (0 - (k:Int))/\(k:Int) - Builtin.bitAnd (k:Int) (0 - (k:Int))≤k:=by decide +kernel
theorem Pj {v0 v1 v2 v3 v4:PV}{kd:Int}{R:PV->Prop}(h0:0≤kd)(h5:kd<5)(r0:R v0)(r1:R v1)(r2:R v2)(r3:R v3)(r4:R v4):∃v,L2.atI [v0,v1,v2,v3,v4] kd=some v/\R v:=by
 have e:kd=0\/kd=1\/kd=2\/kd=3\/kd=4:=by omega
 rcases e with e|e|e|e|e<;>subst e
 ·exact⟨_,rfl,r0⟩
 ·exact⟨_,rfl,r1⟩
 ·exact⟨_,rfl,r2⟩
 ·exact⟨_,rfl,r3⟩
 ·exact⟨_,rfl,r4⟩
end Pu
end
section
namespace Dp
open PySem PySem.Spec L2 Pu
section
variable {X:Cx}{e a b c tg iter:Expr}{es:List Expr}{st:Stmt}{bW:List Stmt}{p pos:Pos}{f fa fb:FE}{fs:FA}{s u:FS}{i j k:Nat}{ba:FB}{x:Str}
noncomputable def Js (f:FE):FE:=fun ρ=>(f ρ).bind fun r=>(gD r.pv).map fun ps=>.nw ps.reverse
theorem M6 {j1}{p2 p3 p4:Pos}(ha:DE X a fa):DE X (.Subscript a (.Slice none none (some (.UnaryOp .USub (.Constant (.int 1) j1 p3) p4)) p2) pos) (Js fa):=
 .ofN (tn:=fun ρ Q=>tT fa ρ fun x=>OkL x fun ps=>Q ps.reverse) (PE.weak (Ct ha.tt (zC ui uG)) fun σ H Q hh_=>hh_.elim fun F ρ Qp er q k=>⟨F,ρ,_,er,q,fun p v F1 H1 q1 g1 r1=>by
   obtain⟨a,vs,ps,rfl,hs,rs,q⟩:=OkL.rd q1 g1.fh r1
   exact⟨1,rfl,rfl,a,vs,rfl,hs,fun p hp=>k _ p _ F1 _ q (g1.trans (.newO g1.fh hp _)) (g1.hh.free hp) (g1.fh.free hp) ah rs.rev⟩⟩) fun ρ r e=>by
  obtain⟨x,e1,e2⟩:=Option.bind_eq_some_iff.mp e
  obtain⟨ps,e3,rfl⟩:=Option.map_eq_some_iff.mp e2
  exact⟨_,rfl,x,e1,fD e3 rfl⟩
noncomputable def tq:List Int->Int
 |[]=>0
 |[i]=>i
 |i::j::l=>max i (tq (j::l))
noncomputable def tK:List Int->Int
 |[]=>0
 |[i]=>i
 |i::j::l=>min i (tK (j::l))
theorem pz:∀{l:List Int},0<l.length->tq l∈l/\∀a∈l,a≤tq l
 |[i],_=>by simp[tq]
 |i::j::l,_=>by
  obtain⟨h1,h2⟩:=pz (l:=j::l) (by simp)
  rw[tq]
  refine⟨?_,fun a ha=>?_⟩
  ·by_cases h:i≤tq (j::l)
   ·rw[Int.max_eq_right h];exact List.mem_cons_of_mem _ h1
   ·rw[Int.max_eq_left (by omega)];exact List.mem_cons_self
  ·rcases List.mem_cons.mp ha with rfl|ha
   ·exact Int.le_max_left _ _
   ·exact Int.le_trans (h2 a ha) (Int.le_max_right _ _)
theorem wt:∀{l:List Int},0<l.length->tK l∈l/\∀a∈l,tK l≤a
 |[i],_=>by simp[tK]
 |i::j::l,_=>by
  obtain⟨h1,h2⟩:=wt (l:=j::l) (by simp)
  rw[tK]
  refine⟨?_,fun a ha=>?_⟩
  ·by_cases h:i≤tK (j::l)
   ·rw[Int.min_eq_left h];exact List.mem_cons_self
   ·rw[Int.min_eq_right (by omega)];exact List.mem_cons_of_mem _ h1
  ·rcases List.mem_cons.mp ha with rfl|ha
   ·exact Int.min_le_left _ _
   ·exact Int.le_trans (Int.min_le_right _ _) (h2 a ha)
noncomputable def kL (g:List Int->Int):List PV->Option RV
 |[p]=>(gD p).bind fun ps=>(db ps).bind fun is=>if is.length=0 then none else some (.fz (.int (g is)))
 |_=>none
noncomputable def wr:=kL tq
noncomputable def yI:=kL tK
noncomputable def cL (R:List Int->Int->Prop):sx:=fun ps Q=>One ps fun p=>OkL p fun ps=>∃is,db ps=some is/\0<is.length/\∀M,R is M->Q (.int M)
theorem MU {R:List Int->Int->Prop}:jH X.K (fun xs H Q=>∃(p:Addr) (ns:List Int),xs=[.ref p]/\SqL X.K H p (ns.map V.int)/\0<ns.length/\∀M,R ns M->Q (.int M) H) (cL R):=fun F H xs ps Qp Q s r h k=>by
 obtain⟨p,v,rfl,rfl,r,h⟩:=h.rd r
 obtain⟨a,vs,ps,rfl,hs,rs,is,e,hl,h⟩:=h.rd s r
 rw[jo e] at rs
 rw[iO rs] at hs
 exact⟨a,is,rfl,hs,hl,fun M hM=>k _ _ F H (h M hM) (.refl s) rfl⟩
theorem Gn {g:List Int->Int}{R:List Int->Int->Prop}(hg:∀is M,R is M->0<is.length->M=g is):∀ps r,kL g ps=some r->∃p,r=.fz p/\cL R ps (fun z=>z=p):=fun ps r h=>by
 unfold kL at h
 split at h
 ·obtain⟨qs,e1,h⟩:=Option.bind_eq_some_iff.mp h
  obtain⟨is,e2,h⟩:=Option.bind_eq_some_iff.mp h
  split at h
  ·cases h
  ·next z=>cases h;exact⟨_,rfl,fD e1 ⟨is,e2,by omega,fun M hM=>by rw[hg is M hM (by omega)]⟩⟩
 ·cases h
theorem HK (hm:X.mg "max" = none)(ha:DA X (e::es) fs)(hc:X.calm=true:=by rfl)(hg:Gl X "max":=by rfl)(he:starEach (e::es) X.env=(false,eval e X.env)::starEach es X.env:=by rfl)(hpl:(backTo pos (starEach es X.env)).any (·.1)=false:=by rfl) :
  DE X (.Call (.Name "max" p) (e::es) [] pos) (fB wr fs):=jX (MU (R:=fun is M=>M∈is/\∀a∈is,a≤M)) (Gn fun is M h hl=>by
   obtain⟨h1,h2⟩:=pz hl
   exact Int.le_antisymm (h2 M h.1) (h.2 _ h1)) (PE.weak (bV (wR hc) hg hm B3 ha.t (by decide) (by decide) he hpl) fun σ H Q hh_=>hh_.elim fun F ρ Qp er q k=>⟨F,ρ,Qp,er,q,fun ps vs F' H' h1 g r=>by
   obtain⟨p,ns,e1,e2,e3,e4⟩:=k ps vs F' H' h1 g r
   exact⟨p,ns,e1,e2,e3,fun M h h'=>e4 M ⟨h,h'⟩⟩⟩)
theorem IA (hm:X.mg "min" = none)(ha:DA X (e::es) fs)(hc:X.calm=true:=by rfl)(hg:Gl X "min":=by rfl)(he:starEach (e::es) X.env=(false,eval e X.env)::starEach es X.env:=by rfl)(hpl:(backTo pos (starEach es X.env)).any (·.1)=false:=by rfl) :
  DE X (.Call (.Name "min" p) (e::es) [] pos) (fB yI fs):=jX (MU (R:=fun is M=>M∈is/\∀a∈is,M≤a)) (Gn fun is M h hl=>by
   obtain⟨h1,h2⟩:=wt hl
   exact Int.le_antisymm (h.2 _ h1) (h2 M h.1)) (PE.weak (bV (xN hc) hg hm Ac ha.t (by decide) (by decide) he hpl) fun σ H Q hh_=>hh_.elim fun F ρ Qp er q k=>⟨F,ρ,Qp,er,q,fun ps vs F' H' h1 g r=>by
   obtain⟨p,ns,e1,e2,e3,e4⟩:=k ps vs F' H' h1 g r
   exact⟨p,ns,e1,e2,e3,fun M h h'=>e4 M ⟨h,h'⟩⟩⟩)
noncomputable def wP:List PV->Option RV
 |[p]=>(gD p).bind fun ps=>(db ps).map fun is=>.fz (.int is.sum)
 |_=>none
noncomputable def Oe:sx:=fun ps Q=>One ps fun p=>OkL p fun ps=>∃is,db ps=some is/\Q (.int is.sum)
theorem KA:jH X.K (fun xs H Q=>∃(p:Addr) (ns:List Int),xs=[.ref p]/\SqL X.K H p (ns.map V.int)/\Q (.int ns.sum) H) Oe:=fun F H xs ps Qp Q s r h k=>by
 obtain⟨p,v,rfl,rfl,r,h⟩:=h.rd r
 obtain⟨a,vs,ps,rfl,hs,rs,is,e,h⟩:=h.rd s r
 rw[jo e] at rs
 rw[iO rs] at hs
 exact⟨a,is,rfl,hs,k _ _ F H h (.refl s) rfl⟩
theorem EL:∀ps r,wP ps=some r->∃p,r=.fz p/\Oe ps (fun z=>z=p):=fun ps r h=>by
 unfold wP at h
 split at h
 ·obtain⟨qs,e1,h⟩:=Option.bind_eq_some_iff.mp h
  obtain⟨is,e2,rfl⟩:=Option.map_eq_some_iff.mp h
  exact⟨_,rfl,fD e1 ⟨is,e2,rfl⟩⟩
 ·cases h
theorem NL (hm:X.mg "sum" = none)(ha:DA X (e::es) fs)(hc:X.calm=true:=by rfl)(hg:Gl X "sum":=by rfl)(he:starEach (e::es) X.env=(false,eval e X.env)::starEach es X.env:=by rfl)(hpl:(backTo pos (starEach es X.env)).any (·.1)=false:=by rfl) :
  DE X (.Call (.Name "sum" p) (e::es) [] pos) (fB wP fs):=jX KA EL (bV (xk hc) hg hm PyProof.Rows.boot_sum ha.t (by decide) (by decide) he hpl)
noncomputable def mF (g:Int->Int->Int)(j:Nat)(fi f:FE):FS:=fun ρ=>match sl ρ j,(fi ρ).bind RV.fr,(f ρ).bind RV.fr with
 |some (.own ps),some (.int k),some (.int b)=>if 0≤k then (match ps[k.toNat]? with
  |some (.int a)=>.nx (ρ.set j (some (.own (ps.set k.toNat (.int (g a b))))))
  |_=>.bad) else .bad
 |_,_,_=>.bad
theorem EO {g:Int->Int->Int}{o ix e:Expr}{fi:FE}{op:Operator}{tpos:Pos}(ho:PE X o (gz j))(hi:DE X ix fi)(he:DE X e f)(hp:LI X op (LE g))
  (ha:∀ov iv new,augStore ix ov iv new=(do holding [new,ov,iv] (setItem ov iv new);release [new,ov,iv] [];pure .next):=by intros;rfl):DS X (.AugAssign (.Subscript o ix tpos) op e pos) (mF g j fi f):=
 PS.weak (En ho hi.ee zH he.ee hp tQ ha) fun D σ H hh_=>hh_.elim fun F0 H0 F ρ Dp br h ft=>by
  unfold lK mF at h
  split at h
  ·next ps k b e1 e2 e3=>
   split at h
   ·next k0=>
    split at h
    ·next a0 ea=>
     obtain⟨r1,e4,e5⟩:=Option.bind_eq_some_iff.mp e2
     obtain⟨r2,e6,e7⟩:=Option.bind_eq_some_iff.mp e3
     obtain⟨a,vs,ev,ow,k1,k2,k3⟩:=br.ownAt (fR e1)
     refine⟨_,ev,F,ρ,_,br.er,⟨r1,_,e4,e5,rfl⟩,fun q w F1 H1 hq g1 rr=>?_⟩
     subst hq
     cases (show w=.int k from rr)
     have kk:=g1.keep k2 k1
     have hlt:k.toNat<ps.length:=(List.getElem?_eq_some_iff.mp ea).1
     obtain⟨v,ev2,rv⟩:=k3.get ea
     cases (show v=.int a0 from rv)
     have hix:qw vs.length k=some k.toNat:=by
      have:=il (n:=vs.length) (x:=k.toNat) (by rw[k3.length];exact hlt)
      rwa [Int.toNat_of_nonneg k0] at this
     refine⟨a,vs,k,.int a0,rfl,rfl,k0,SqL.of kk.2,?_,?_⟩
     ·unfold L2.atI;rw[hix];exact ev2
     ·refine⟨F1,ρ,_,br.er.grow g1,⟨r2,_,e6,e7,rfl⟩,fun q w F2 H2 hq g2 rr=>?_⟩
      subst hq
      cases (show w=.int b from rr)
      have kk2:=g2.keep kk.1 kk.2
      refine⟨a0,b,rfl,rfl,a,vs,k,k.toNat,rfl,rfl,kk2.2,hix,?_⟩
      have g12:=g1.trans g2
      exact ft.nx F2 _ σ _ h ((br.grow g12).mut (s:=.own _) ow rfl ⟨a,_,rfl,ah,kk2.1,(k3.mono g12.ff).set (show Rep X.K F2 (.int (g a0 b)) (.int (g a0 b)) from rfl) k.toNat⟩)
    ·exact h.elim
   ·exact h.elim
  ·exact h.elim
end
end Dp
end
section
namespace Fo
open PySem
noncomputable def fQ (us:List Nat):Nat->Nat->List Nat
 |0,x=>[x]
 |n+1,x=>if up us x=x then [x] else x::fQ us n (up us x)
noncomputable def way (us:List Nat)(x:Nat):List Nat:=fQ us us.length x
theorem Eh {us:List Nat}{x:Nat}{l:List Nat}(w:Way us x l):∀{n:Nat},l.length≤n+1->fQ us n x=l:=by
 induction w with
 | @head x e=>
  intro n h
  cases n with
  |zero=>rfl
  |succ n=>rw[fQ,if_pos e]
 | @step x l ne w ih=>
  intro n h
  cases n with
  |zero=>have:=w.pos;rw[List.length_cons] at h;omega
  |succ n=>rw[fQ,if_neg ne,ih (by simpa using h)]
theorem eF {us:List Nat}{x:Nat}{l:List Nat}(f:Fst us)(hx:x<us.length)(w:Way us x l):way us x=l:=by
 obtain⟨l',w',h⟩:=f.way hx
 cases w.det w'
 exact Eh w (by omega)
theorem aP {us:List Nat}{x:Nat}(f:Fst us)(hx:x<us.length):Way us x (way us x):=by
 obtain⟨l,w,_⟩:=f.way hx
 rw[eF f hx w];exact w
theorem p8 {us:List Nat}{x:Nat}(f:Fst us)(hx:x<us.length):(way us x).length≤us.length:=by
 obtain⟨l,w,h⟩:=f.way hx
 rw[eF f hx w];exact h
noncomputable def hd (us:List Nat)(x:Nat):Nat:=dZ (way us x)
noncomputable def dp (us:List Nat)(x:Nat):Nat:=(way us x).length - 1
noncomputable def Au (y:Str)(us:List Nat)(x t:Nat):Nat:=
 if y = "whole" then (if t∈way us x then hd us x else up us t)
 else if y = "halves" then (if t∈tI (way us x) then up us (up us t) else up us t)
 else if y = "splits" then (if t∈way us x then up us (up us t) else up us t)
 else if y = "one" then (if t=x then up us (up us t) else up us t)
 else up us t
noncomputable def LM (y:Str)(us:List Nat)(x:Nat):List Nat:=(List.range us.length).map (Au y us x)
noncomputable def R1 (y:Str)(us:List Nat)(x:Nat):Nat:=if y = "halves" then (way us x).length / 2 else dp us x
theorem vP {us:List Nat}{t:Nat}(h:us.length≤t):up us t=0:=by
 unfold up;rw[List.getD_eq_getElem?_getD,List.getElem?_eq_none h];rfl
theorem vK (y:Str)(us:List Nat)(x:Nat):(LM y us x).length=us.length:=by unfold LM;rw[List.length_map,List.length_range]
theorem Jx {y:Str}{us:List Nat}{x t:Nat}(h:t<us.length):up (LM y us x) t=Au y us x t:=by
 unfold up LM
 rw[List.getD_eq_getElem?_getD,List.getElem?_map,List.getElem?_range h];rfl
theorem mN {y:Str}{us us':List Nat}{x:Nat}(hl:us'.length=us.length)(h:∀t,t<us.length->up us' t=Au y us x t):us'=LM y us x:=by
 refine qb (by rw[hl,vK]) fun t=>?_
 by_cases ht:t<us.length
 ·rw[h t ht,Jx ht]
 ·rw[vP (by omega),vP (by rw[vK];omega)]
theorem RM.fun {y:Str}{us:List Nat}{x h:Nat}{us':List Nat}{n:Nat}(f:Fst us)(hx:x<us.length)(r:RM y us x h us' n):h=hd us x/\us'=LM y us x/\n=R1 y us x:=by
 cases r with
 |none r=>
  obtain⟨rfl,l,w,e,hn⟩:=r
  rw[←eF f hx w] at e hn
  refine⟨e,mN rfl fun t ht=>rfl,?_⟩
  show n=dp us' x
  unfold dp;omega
 |whole r=>
  obtain⟨l,w,e,hn,hl,hu⟩:=r
  rw[←eF f hx w] at e hn hu
  refine⟨e,mN hl fun t ht=>?_,?_⟩
  ·rw[hu t,e];rfl
  ·show n=dp us x
   unfold dp;omega
 |halves r=>
  obtain⟨l,w,e,hn,hl,hu⟩:=r
  rw[←eF f hx w] at e hn hu
  exact⟨e,mN hl fun t ht=>by rw[hu t];rfl,hn⟩
 |splits r=>
  obtain⟨l,w,e,hn,hl,hu⟩:=r
  rw[←eF f hx w] at e hn hu
  refine⟨e,mN hl fun t ht=>by rw[hu t];rfl,?_⟩
  show n=dp us x
  unfold dp;omega
 |one r=>
  obtain⟨rfl,l,w,e,hn⟩:=r
  rw[←eF f hx w] at e hn
  refine⟨e,mN (List.length_set) fun t ht=>?_,?_⟩
  ·rw[eR hx]
   show (if t=x then up us (up us x) else up us t)=if t=x then up us (up us t) else up us t
   by_cases q:t=x
   ·rw[if_pos q,if_pos q,q]
   ·rw[if_neg q,if_neg q]
  ·show n=dp us x
   unfold dp;omega
theorem j0 (us:List Nat)(k x:Nat):Nat.repeat (up us) (k+1) x=Nat.repeat (up us) k (up us x):=by
 induction k with
 |zero=>rfl
 |succ k ih=>
  show up us (Nat.repeat (up us) (k+1) x)=up us (Nat.repeat (up us) k (up us x))
  rw[ih]
theorem oZ {us:List Nat}{x:Nat}{l:List Nat}(w:Way us x l):∀k,l.length≤k+1->up us (Nat.repeat (up us) k x)=Nat.repeat (up us) k x:=by
 induction w with
 | @head x e=>
  intro k _
  have:Nat.repeat (up us) k x=x:=by
   induction k with
   |zero=>rfl
   |succ k ih=>show up us (Nat.repeat (up us) k x)=x;rw[ih (by simp)];exact e
  rw[this];exact e
 | @step x l n w ih=>
  intro k hk
  have pos:=w.pos
  cases k with
  |zero=>rw[List.length_cons] at hk;omega
  |succ k=>rw[j0];exact ih k (by simpa using hk)
noncomputable def JR (us:List Nat):Bool:=decide (1≤us.length)&&decide (us.length≤40)&&us.all (fun u=>decide (u<us.length))&&(List.range us.length).all fun x=>decide (up us (Nat.repeat (up us) (us.length - 1) x)=Nat.repeat (up us) (us.length - 1) x)
theorem sg {us:List Nat}:∀(k y:Nat),up us (Nat.repeat (up us) k y)=Nat.repeat (up us) k y->∀m,k≤m->fQ us m y=fQ us k y:=fun k=>by
 induction k with
 |zero=>
  intro y h m _
  cases m with
  |zero=>rfl
  |succ m=>have e:fQ us (m+1) y=if up us y=y then [y] else y::fQ us m (up us y):=rfl;rw[e,if_pos (show up us y=y from h)];rfl
 |succ k ih=>
  intro y h m hm
  cases m with
  |zero=>omega
  |succ m=>
   rw[fQ,fQ]
   by_cases e:up us y=y
   ·rw[if_pos e,if_pos e]
   ·rw[if_neg e,if_neg e,ih (up us y) (by rw[←j0];exact h) m (by omega)]
theorem wf (us:List Nat):∀(n x:Nat),(fQ us n x).length≤n+1
 |0,x=>by rw[fQ];simp
 |n+1,x=>by
  rw[fQ]
  split
  ·simp
  ·rw[List.length_cons];have:=wf us n (up us x);omega
theorem zM (us:List Nat):∀(n x:Nat),1≤(fQ us n x).length
 |0,x=>by rw[fQ];simp
 |n+1,x=>by
  rw[fQ]
  split<;>simp
theorem yG {us:List Nat}(h:JR us=true):Frst us:=by
 unfold JR at h
 rw[Bool.and_eq_true,Bool.and_eq_true,Bool.and_eq_true,decide_eq_true_eq,decide_eq_true_eq,List.all_eq_true,List.all_eq_true] at h
 obtain⟨⟨⟨h1,h2⟩,h3⟩,h4⟩:=h
 have bnd:∀x,x<us.length->up us x<us.length:=fun x hx=>by
  have:=h3 us[x] (List.getElem_mem hx)
  rw[decide_eq_true_eq] at this
  show us.getD x 0<_
  rw[List.getD_eq_getElem?_getD,List.getElem?_eq_getElem hx];exact this
 refine⟨h1,h2,bnd,fun x=>(fQ us (us.length - 1) x).length - 1,fun x hx=>?_,fun x hx ne=>?_⟩
 ·have:=wf us (us.length - 1) x
  show (fQ us (us.length - 1) x).length - 1<us.length
  omega
 ·have hf:=h4 x (List.mem_range.mpr hx)
  rw[decide_eq_true_eq] at hf
  have hu:=h4 (up us x) (List.mem_range.mpr (bnd x hx))
  rw[decide_eq_true_eq] at hu
  show (fQ us (us.length - 1) (up us x)).length - 1<(fQ us (us.length - 1) x).length - 1
  cases hn:us.length - 1 with
  |zero=>rw[hn] at hf;exact absurd hf ne
  |succ n=>
   rw[hn,j0] at hf
   have e:=sg n (up us x) hf (n+1) (by omega)
   have e2:fQ us (n+1) x=x::fQ us n (up us x):=by rw[fQ,if_neg ne]
   rw[e,e2,List.length_cons]
   have:=zM us n (up us x)
   omega
theorem Hh {us:List Nat}(f:Frst us):JR us=true:=by
 unfold JR
 rw[Bool.and_eq_true,Bool.and_eq_true,Bool.and_eq_true,decide_eq_true_eq,decide_eq_true_eq,List.all_eq_true,List.all_eq_true]
 refine⟨⟨⟨f.one,f.most⟩,fun u hu=>?_⟩,fun x hx=>?_⟩
 ·obtain⟨i,hi,rfl⟩:=List.mem_iff_getElem.mp hu
  have:=f.fst.bnd i hi
  rw[decide_eq_true_eq]
  unfold up at this
  rwa [List.getD_eq_getElem?_getD,List.getElem?_eq_getElem hi] at this
 ·rw[decide_eq_true_eq]
  obtain⟨l,w,hl⟩:=f.fst.way (List.mem_range.mp hx)
  have:=f.one
  exact oZ w _ (by omega)
end Fo
namespace Dp
open PySem L2 Pu Fo
noncomputable def iS:List PV->Option (List Nat)
 |[]=>some []
 |.int i::ps=>if 0≤i then (iS ps).map fun us=>i.toNat::us else none
 |_=>none
theorem ma:∀us:List Nat,iS (nums us)=some us
 |[]=>rfl
 |u::us=>by
  show iS (.int (u:Int)::nums us)=_
  rw[iS,if_pos (by omega),ma us];rfl
theorem x8:∀{ps:List PV} {us:List Nat},iS ps=some us->ps=nums us:=fun {ps}=>by
 induction ps with
 |nil=>intro us h;cases h;rfl
 |cons p ps ih=>
  intro us h
  cases p<;>first|(cases h;done)|skip
  next i=>
  rw[iS] at h
  split at h
  ·next z=>
   obtain⟨us',e1,rfl⟩:=Option.map_eq_some_iff.mp h
   rw[ih e1,cZ,nI,Int.toNat_of_nonneg z]
  ·cases h
end Dp
namespace Lo
open PySem Fo Pu
noncomputable def pi (acc:List (Nat×List Nat))(h x:Nat):List (Nat×List Nat):=
 if acc.any (fun t=>decide (t.1=h)) then acc.map (fun t=>if t.1=h then (t.1,t.2++[x]) else t) else acc++[(h,[x])]
noncomputable def iW (us:List Nat)(n:Nat):List (Nat×List Nat):=(List.range n).foldl (fun acc x=>pi acc (hd us x) x) []
noncomputable def lots (us:List Nat):List (List Nat):=(iW us us.length).map (·.2)
noncomputable def i4 (us:List Nat):List PV:=(lots us).map fun l=>.tup (nums l)
end Lo
namespace Dp
open PySem L2 Pu Fo Lo
noncomputable def cY (qs:List PV):Option PR:=match qs with
 |[.tup ps]=>match iS ps with
  |some us=>if JR us=true then some (.n (i4 us)) else none
  |none=>none
 |_=>none
theorem xq {us:List Nat}(f:Frst us):cY [.tup (nums us)]=some (.n (i4 us)):=by
 show (match iS (nums us) with|some us=>if JR us=true then some (PR.n (i4 us)) else none|none=>none)=_
 rw[ma]
 show (if JR us=true then some (PR.n (i4 us)) else none)=_
 rw[if_pos (Hh f)]
end Dp
end
section
namespace Fo
open PySem L2
theorem dY {us:List Nat}{x t:Nat}(f:Fst us)(hx:x<us.length)(h:t∈way us x):t<us.length:=(aP f hx).lt f.bnd hx t h
theorem yS {us:List Nat}{x:Nat}(f:Fst us)(hx:x<us.length)(e:up us x=x):way us x=[x]:=eF f hx (.head e)
theorem fq {us:List Nat}{x:Nat}(f:Fst us)(hx:x<us.length)(e:up us x=x):hd us x=x:=by unfold hd;rw[yS f hx e];rfl
theorem zB {us:List Nat}{x:Nat}(f:Fst us)(hx:x<us.length):up us (hd us x)=hd us x:=(aP f hx).head_last
theorem i5 {us:List Nat}{x:Nat}(f:Fst us)(hx:x<us.length):hd us x<us.length:=dY f hx (se (aP f hx).ne)
theorem MB {us:List Nat}{x:Nat}(f:Fst us)(hx:x<us.length):dp us x<us.length:=by
 have:=p8 f hx
 have:=(aP f hx).pos
 unfold dp;omega
end Fo
end
section
namespace L2
open PySem PyProof.Rows PySem.W
theorem ie {α β:Type}{c:Nat->Nat->Bool}{f:α->KasT β}:∀{t:KasT α},cR c (t.bind f)=cR c (f (cR c t))
 |.ret a=>rfl
 |.ask i j k=>ie (t:=k (c i j))
structure LtOk (n:Nat)(lt:Nat->Nat->Bool):Prop where
 tot:∀i j,i<n->j<n->i≠j->lt i j=false->lt j i=true
 tr:∀i j k,i<n->j<n->k<n->lt i j=true->lt j k=true->lt i k=true
noncomputable abbrev gp (p:Array Nat)(k:Nat):Nat:=p.getD k 0
noncomputable def Up (lt:Nat->Nat->Bool)(p:Array Nat)(m:Nat):Prop:=∀i j,i<j->j<m->lt (gp p i) (gp p j)=true
noncomputable def Dn (lt:Nat->Nat->Bool)(p:Array Nat)(m:Nat):Prop:=∀i j,i<j->j<m->lt (gp p j) (gp p i)=true
section
variable {n:Nat}{lt:Nat->Nat->Bool}{p:Array Nat}
theorem ke (p:Array Nat)(k:Nat):gp p k=(p[k]?).getD 0:=by
 unfold gp;rw[Array.getD_eq_getD_getElem?]
theorem OfN.size (h:OfN n p):p.size=n:=by have:=h.length_eq;simpa using this
theorem OfN.lt' (h:OfN n p){k:Nat}(hk:k<n):gp p k<n:=h.lt (by omega) k
theorem OfN.inj (h:OfN n p){i j:Nat}(hi:i<n)(hj:j<n)(e:gp p i=gp p j):i=j:=by
 have nd:p.toList.Nodup:=h.nodup_iff.mpr List.nodup_range
 have hs:=h.size
 have a:∀{k:Nat} (hk:k<n),gp p k=p.toList[k]'(by rw[Array.length_toList];omega):=fun {k} hk=>by
  rw[ke,Array.getElem?_eq_getElem (by omega)];simp
 rw[a hi,a hj] at e
 exact (List.getElem_inj nd).mp e
theorem Up.snoc (L:LtOk n lt)(hp:OfN n p){k:Nat}(h1:1≤k)(hk:k<n)(u:Up lt p k)(h:lt (gp p (k - 1)) (gp p k)=true):Up lt p (k+1):=fun i j hij hj=>by
 by_cases e:j=k
 ·subst e
  by_cases e2:i=j - 1
  ·subst e2;exact h
  ·exact L.tr _ _ _ (hp.lt' (by omega)) (hp.lt' (by omega)) (hp.lt' (by omega)) (u i (j - 1) (by omega) (by omega)) h
 ·exact u i j hij (by omega)
theorem Dn.snoc (L:LtOk n lt)(hp:OfN n p){k:Nat}(h1:1≤k)(hk:k<n)(u:Dn lt p k)(h:lt (gp p k) (gp p (k - 1))=true):Dn lt p (k+1):=fun i j hij hj=>by
 by_cases e:j=k
 ·subst e
  by_cases e2:i=j - 1
  ·subst e2;exact h
  ·exact L.tr _ _ _ (hp.lt' (by omega)) (hp.lt' (by omega)) (hp.lt' (by omega)) h (u i (j - 1) (by omega) (by omega))
 ·exact u i j hij (by omega)
theorem qN (L:LtOk n lt)(hp:OfN n p):∀f k,1≤k->k+f≤n->Up lt p k->k≤cR lt (kas_asc p f k)/\cR lt (kas_asc p f k)≤k+f/\Up lt p (cR lt (kas_asc p f k))/\(cR lt (kas_asc p f k)<k+f->lt (gp p (cR lt (kas_asc p f k))) (gp p (cR lt (kas_asc p f k) - 1))=true)
 |0,k,_,_,u=>⟨Nat.le_refl _,Nat.le_refl _,u,fun h=>absurd h (Nat.lt_irrefl _)⟩
 |f+1,k,h1,hn,u=>by
  rw[show cR lt (kas_asc p (f+1) k)=cR lt (if lt (gp p k) (gp p (k - 1))=true then .ret k else kas_asc p f (k+1)) from rfl]
  cases c:lt (gp p k) (gp p (k - 1)) with
  |true=>exact⟨Nat.le_refl _,Nat.le_add_right _ _,u,fun _=>c⟩
  |false=>
   have:=L.tot _ _ (hp.lt' (k:=k) (by omega)) (hp.lt' (k:=k - 1) (by omega)) (fun e=>by have:=hp.inj (by omega) (by omega) e;omega) c
   obtain⟨a,b,d,e⟩:=qN L hp f (k+1) (by omega) (by omega) (u.snoc L hp h1 (by omega) this)
   rw[if_neg Bool.false_ne_true]
   exact⟨by omega,by omega,d,fun h=>e (by omega)⟩
theorem rh (L:LtOk n lt)(hp:OfN n p):∀f k,1≤k->k+f≤n->Dn lt p k->∃m,cR lt (kas_desc f p k 0)=(p,m,0)/\k≤m/\m≤k+f/\Dn lt p m
 |0,k,_,_,u=>⟨k,rfl,Nat.le_refl _,Nat.le_refl _,u⟩
 |f+1,k,h1,hn,u=>by
  rw[show cR lt (kas_desc (f+1) p k 0)=cR lt (if lt (gp p k) (gp p (k - 1))=true then kas_desc f p (k+1) 0 else .ask (gp p (k - 1)) (gp p k) fun d=>if d=true then .ret (p,k,0) else kas_desc f p (k+1) 1) from rfl]
  cases c:lt (gp p k) (gp p (k - 1)) with
  |true=>
   obtain⟨m,a,b,d,e⟩:=rh L hp f (k+1) (by omega) (by omega) (u.snoc L hp h1 (by omega) c)
   exact⟨m,a,by omega,by omega,e⟩
  |false=>
   have:=L.tot _ _ (hp.lt' (k:=k) (by omega)) (hp.lt' (k:=k - 1) (by omega)) (fun e=>by have:=hp.inj (by omega) (by omega) e;omega) c
   refine⟨k,?_,Nat.le_refl _,by omega,u⟩
   rw[if_neg Bool.false_ne_true]
   show cR lt (if lt (gp p (k - 1)) (gp p k)=true then _ else _)=_
   rw[this];rfl
theorem yX {m k:Nat}(hm:m≤p.size):gp (kas_rev p 0 m) k=if k<m then gp p (m - 1 - k) else gp p k:=by
 rw[ke,ke,ke]
 unfold kas_rev
 rw[getElem?_mirror_all hm]
 by_cases h:k<m
 ·rw[if_pos ⟨Nat.zero_le _,h⟩,if_pos h,Nat.zero_add]
 ·rw[if_neg fun z=>h z.2,if_neg h]
structure Run (n:Nat)(lt:Nat->Nat->Bool)(r:Nat×Array Nat):Prop where
 pos:1≤r.1
 le:r.1≤n
 of:OfN n r.2
 up:Up lt r.2 r.1
theorem yH (L:LtOk n lt)(hp:OfN n p){m:Nat}(h1:1≤m)(hm:m≤n)(u:Dn lt p m):Run n lt (cR lt (kas_tail3 m n p)):=by
 have hr:=OfN.rev hp 0 m
 have hs:=hp.size
 obtain⟨a,b,c,_⟩:=qN L hr (n - m) m h1 (by omega) (fun i j hij hj=>by
  rw[yX (by omega),yX (by omega),if_pos (by omega),if_pos hj]
  exact u _ _ (by omega) (by omega))
 unfold kas_tail3
 rw[ie]
 exact⟨Nat.le_trans h1 a,by show cR lt (kas_asc (kas_rev p 0 m) (n - m) m)≤n;omega,hr,c⟩
theorem xo (L:LtOk n lt)(hp:OfN n p)(hn:1≤n):Run n lt (cR lt (kas_count n p)):=by
 unfold kas_count
 rw[ie]
 obtain⟨a,b,c,d⟩:=qN L hp (n - 1) 1 (Nat.le_refl _) (by omega) (fun i j hij hj=>by omega)
 generalize cR lt (kas_asc p (n - 1) 1)=m at *
 split
 ·exact⟨a,by show m≤n;omega,hp,c⟩
 ·next ne=>
  have ne:m≠n:=fun e=>ne (by subst e;exact beq_self_eq_true _)
  split
  ·next h=>
   rw[show cR lt (KasT.ask (p.getD 0 0) (p.getD (m - 1) 0) fun c=>if c=true then KasT.ret (m,p) else kas_descPart m n (kas_rev p 0 m))=cR lt (if lt (gp p 0) (gp p (m - 1))=true then KasT.ret (m,p) else kas_descPart m n (kas_rev p 0 m)) from rfl,if_pos (c 0 (m - 1) (by omega) (by omega))]
   exact⟨a,by show m≤n;omega,hp,c⟩
  ·have e:m=1:=by omega
   subst e
   have d:=d (by omega)
   unfold kas_descPart
   rw[ie]
   obtain⟨m,e1,e2,e3,e4⟩:=rh L hp (n - (1+1)) (1+1) (by omega) (by omega) (fun i j hij hj=>by
    obtain⟨rfl,rfl⟩:i=0/\j=1:=by omega
    exact d)
   rw[e1,if_neg (Nat.lt_irrefl 0)]
   have ne2:2≤n:=by omega
   exact yH (m:=m) L hp (by omega) (by omega) e4
theorem lr (L:LtOk n lt)(hp:OfN n p){k:Nat}(hk:k<n)(u:Up lt p k):∀f l r,r - l≤f->l≤r->r≤k->(∀i,i<l->lt (gp p i) (gp p k)=true)->(∀i,r≤i->i<k->lt (gp p k) (gp p i)=true) →
  ∃m,cR lt (kas_place p k f l r)=m/\m≤k/\(∀i,i<m->lt (gp p i) (gp p k)=true)/\∀i,m≤i->i<k->lt (gp p k) (gp p i)=true
 |0,l,r,hf,hl,hr,a,b=>⟨l,rfl,by omega,a,fun i hi hik=>b i (by omega) hik⟩
 |f+1,l,r,hf,hl,hr,a,b=>by
  rw[show cR lt (kas_place p k (f+1) l r)=cR lt (if l ≥ r then .ret l else .ask (gp p k) (gp p ((l+r) / 2)) fun c=>if c=true then kas_place p k f l ((l+r) / 2) else kas_place p k f ((l+r) / 2+1) r) from rfl]
  by_cases h:l ≥ r
  ·rw[if_pos h];exact⟨l,rfl,by omega,a,fun i hi hik=>b i (by omega) hik⟩
  ·rw[if_neg h]
   show ∃m,cR lt (if lt (gp p k) (gp p ((l+r) / 2))=true then _ else _)=m/\_
   cases c:lt (gp p k) (gp p ((l+r) / 2)) with
   |true=>
    rw[if_pos rfl]
    refine lr L hp hk u f l ((l+r) / 2) (by omega) (by omega) (by omega) a fun i hi hik=>?_
    by_cases e:i=(l+r) / 2
    ·subst e;exact c
    ·exact L.tr _ _ _ (hp.lt' hk) (hp.lt' (by omega)) (hp.lt' (by omega)) c (u _ i (by omega) hik)
   |false=>
    rw[if_neg Bool.false_ne_true]
    have:=L.tot _ _ (hp.lt' hk) (hp.lt' (k:=(l+r) / 2) (by omega)) (fun e=>by have:=hp.inj hk (by omega) e;omega) c
    refine lr L hp hk u f ((l+r) / 2+1) r (by omega) (by omega) (by omega) (fun i hi=>?_) b
    by_cases e:i=(l+r) / 2
    ·subst e;exact this
    ·exact L.tr _ _ _ (hp.lt' (by omega)) (hp.lt' (by omega)) (hp.lt' hk) (u i _ (by omega) (by omega)) this
theorem vv (L:LtOk n lt):∀f (p:Array Nat) k,OfN n p->1≤k->k+f=n->Up lt p k->OfN n (cR lt (kas_bin f p k))/\Up lt (cR lt (kas_bin f p k)) n
 |0,p,k,hp,_,hk,u=>⟨hp,by obtain rfl:k=n:=(by omega);exact u⟩
 |f+1,p,k,hp,h1,hk,u=>by
  rw[show cR lt (kas_bin (f+1) p k)=cR lt ((kas_place p k k 0 k).bind fun l=>kas_bin f (bubble p k (k - l)) (k+1)) from rfl,ie]
  obtain⟨m,e,hm,a,b⟩:=lr L hp (by omega) u k 0 k (by omega) (by omega) (Nat.le_refl _) (fun i hi=>by omega) (fun i hi hik=>by omega)
  rw[e]
  have hs:=hp.size
  have g:∀i,gp (bubble p k (k - m)) i=if i=m then gp p k else if m<i/\i≤k then gp p (i - 1) else gp p i:=fun i=>by
   rw[ke,getElem?_bubble (by omega) (k - m) (by omega),show k - (k - m)=m by omega]
   split
   ·rw[ke]
   ·split<;>rw[ke]
  refine vv L f _ (k+1) (hp.bub _ _) (by omega) (by omega) fun i j hij hj=>?_
  rw[g,g]
  by_cases e1:i=m
  ·rw[if_pos e1,if_neg (by omega),if_pos (by omega)];exact b _ (by omega) (by omega)
  ·rw[if_neg e1]
   by_cases e2:j=m
   ·rw[if_pos e2,if_neg (by omega)];exact a i (by omega)
   ·rw[if_neg e2]
    by_cases e3:i<m
    ·rw[if_neg (by omega)]
     by_cases e4:m<j/\j≤k
     ·rw[if_pos e4];exact u i (j - 1) (by omega) (by omega)
     ·rw[if_neg e4];exact u i j hij (by omega)
    ·rw[if_pos (by omega),if_pos (by omega)];exact u _ _ (by omega) (by omega)
theorem AF (L:LtOk n lt)(hn:1≤n):OfN n (cR lt (kas_sort n))/\Up lt (cR lt (kas_sort n)) n:=by
 unfold kas_sort
 rw[ie]
 have R:=xo L (show OfN n (List.toArray (List.range n)) from .refl _) hn
 generalize cR lt (kas_count n (List.range n).toArray)=r at *
 have h1:=R.pos
 have h2:=R.le
 split
 ·next h=>
  rw[show max r.1 1=r.1 by omega]
  exact vv L (n - r.1) r.2 r.1 R.of h1 (by omega) R.up
 ·next h=>
  have:r.1=n:=by omega
  exact⟨R.of,this▸R.up⟩
end
theorem pO (y:Int)(ys:List Int):lY [] (y::ys)=true:=by unfold lY;rw[List.zip_nil_left];exact decide_eq_true (by simp)
theorem nF (xs:List Int):lY xs []=false:=by unfold lY;rw[List.zip_nil_right];exact decide_eq_false (by simp)
theorem kc (x y:Int)(xs ys:List Int):lY (x::xs) (y::ys)=if x=y then lY xs ys else decide (x<y):=by
 unfold lY
 rw[List.zip_cons_cons,zt]
 simp only[List.length_cons,Nat.add_lt_add_iff_right]
theorem vZ:∀xs ys:List Int,xs≠ys->lY xs ys=false->lY ys xs=true
 |[],[],h,_=>absurd rfl h
 |[],y::ys,_,h=>by rw[pO] at h;cases h
 |x::xs,[],_,_=>pO x xs
 |x::xs,y::ys,h,e=>by
  rw[kc] at e ⊢
  by_cases q:x=y
  ·subst q
   rw[if_pos rfl] at e ⊢
   exact vZ xs ys (fun z=>h (by rw[z])) e
  ·rw[if_neg q] at e
   rw[if_neg fun z=>q z.symm]
   have:=of_decide_eq_false e
   exact decide_eq_true (by omega)
theorem vj:∀xs ys zs:List Int,lY xs ys=true->lY ys zs=true->lY xs zs=true
 |_,_,[],_,h=>by rw[nF] at h;cases h
 |_,[],_::_,h,_=>by rw[nF] at h;cases h
 |[],_,z::zs,_,_=>pO z zs
 |x::xs,y::ys,z::zs,h,h'=>by
  rw[kc] at h h' ⊢
  by_cases q:x=y
  ·subst q
   rw[if_pos rfl] at h
   by_cases r:x=z
   ·rw[if_pos r] at h' ⊢;exact vj xs ys zs h h'
   ·rw[if_neg r] at h' ⊢;exact h'
  ·rw[if_neg q] at h
   have h:=of_decide_eq_true h
   by_cases r:y=z
   ·subst r;rw[if_neg q];exact decide_eq_true h
   ·rw[if_neg r] at h'
    have h':=of_decide_eq_true h'
    rw[if_neg (by omega)]
    exact decide_eq_true (by omega)
theorem vR:∀xs:List Int,lY xs xs=false
 |[]=>nF []
 |x::xs=>by rw[kc,if_pos rfl];exact vR xs
theorem Cz {ks:List (List Int)}(nd:ks.Nodup):((jy ks).map fun i=>ks.getD i []).Perm ks/\((jy ks).map fun i=>ks.getD i []).Pairwise fun a b=>lY a b=true:=by
 have at':∀{i:Nat} (hi:i<ks.length),ks.getD i []=ks[i]:=fun {i} hi=>by simp[hi]
 constructor
 ·refine ((lq ks).map _).trans (List.Perm.of_eq ?_)
  refine List.ext_getElem (by simp) fun i h1 h2=>?_
  simp[h2]
 ·unfold jy
  split
  ·next h=>
   match ks,h with
   |[],_=>exact .nil
   |[a],_=>exact List.pairwise_singleton ..
  ·next h=>
   have L:LtOk ks.length fun i j=>lY (ks.getD i []) (ks.getD j []):=⟨fun i j hi hj ne e=>vZ _ _ (fun z=>by
    rw[at' hi,at' hj] at z;exact ne ((List.getElem_inj nd).mp z)) e,fun i j k _ _ _ a b=>vj _ _ _ a b⟩
   obtain⟨hp,u⟩:=AF L (by omega)
   generalize cR _ (kas_sort ks.length)=p at *
   rw[List.pairwise_map,List.pairwise_iff_getElem]
   intro i j hi hj hij
   have hs:=hp.size
   have:=u i j hij (by simpa [hs] using hj)
   rw[ke,ke,Array.getElem?_eq_getElem (by simpa using hi),Array.getElem?_eq_getElem (by simpa using hj)] at this
   simpa using this
theorem vw {α:Type}{lt:α->α->Prop}(irr:∀a,¬lt a a)(tr:∀a b c,lt a b->lt b c->lt a c):∀{l l':List α},l.Pairwise lt->l'.Pairwise lt->(∀a,a∈l↔a∈l')->l=l'
 |[],[],_,_,_=>rfl
 |[],b::l',_,_,h=>absurd ((h b).mpr List.mem_cons_self) List.not_mem_nil
 |a::l,[],_,_,h=>absurd ((h a).mp List.mem_cons_self) List.not_mem_nil
 |a::l,b::l',p,p',h=>by
  have q:=List.pairwise_cons.mp p
  have q':=List.pairwise_cons.mp p'
  have e:a=b:=by
   rcases List.mem_cons.mp ((h a).mp List.mem_cons_self) with e|m
   ·exact e
   ·rcases List.mem_cons.mp ((h b).mpr List.mem_cons_self) with e|m'
    ·exact e.symm
    ·exact absurd (tr _ _ _ (q.1 b m') (q'.1 a m)) (irr a)
  subst e
  refine congrArg (a::·) (vw irr tr q.2 q'.2 fun c=>⟨fun hc=>?_,fun hc=>?_⟩)
  ·rcases List.mem_cons.mp ((h c).mp (List.mem_cons_of_mem _ hc)) with e|m
   ·subst e;exact absurd (q.1 c hc) (irr c)
   ·exact m
  ·rcases List.mem_cons.mp ((h c).mpr (List.mem_cons_of_mem _ hc)) with e|m
   ·subst e;exact absurd (q'.1 c hc) (irr c)
   ·exact m
end L2
end
section
namespace L2
open PySem PySem.Spec PyProof.Rows PySem.W
noncomputable def lf (is:List Int):List Int:=is.mergeSort fun a b=>decide (a≤b)
theorem lw (is:List Int):(lf is).Perm is:=List.mergeSort_perm ..
theorem F9 (is:List Int):(lf is).Pairwise (·≤·):=by
 have:=List.pairwise_mergeSort (le:=fun a b:Int=>decide (a≤b)) (fun a b c h1 h2=>by simp only[decide_eq_true_eq] at *;omega) (fun a b=>by simp only[Bool.or_eq_true,decide_eq_true_eq];omega) is
 exact this.imp fun h=>by simpa using h
theorem p6 {is js:List Int}(p:js.Perm is)(u:js.Pairwise (·≤·)):js=lf is:=
 List.Perm.eq_of_pairwise (fun a b _ _ h1 h2=>Int.le_antisymm h1 h2) u (F9 is) (p.trans (lw is).symm)
theorem ko:∀{is:List Int} {vs:List Value},Vals (is.map V.int) vs->IntsAre vs is
 |[],_,r=>by cases r;exact .nil
 |i::is,_,r=>by
  cases r with
  |cons r1 r2=>obtain⟨t,rfl⟩:=r1;exact .cons i t (ko r2)
theorem pL {is:List Int}{vs:List Value}(h:IntsAre vs is):Vals (is.map V.int) vs:=by
 induction h with
 |nil=>exact .nil
 |cons n t _ ih=>exact .cons ⟨t,rfl⟩ ih
theorem ul {prog:Program}{w:World}{A:Around}{E:Value->Shared->Prop}{s:Shared}{p:Addr}{T:String}{o:Obj}{vs:List Value}{n:Nat}{is:List Int}{Q:Value->Shared->Prop}(hT:T = "list"\/T = "tuple")
  (ho:s.heap.get? p=some o) (hc:o.cls=.type T) (hd:o.data=.seq vs.toArray n) (hi:IntsAre vs is) (h64:vs.length<64)
  (h:∀(h1 h':Heap) (D:Addr) (out:List Value) (js:List Int) (e:Nat),(∀b u,s.heap.get? b=some u->h1.get? b=some u)->(∀b u,h1.get? b=some u->h'.get? b=some u)->h1.objs.size≤D->h'.get? D=some (seqObj "list" out.toArray e)->IntsAre out js->js.Perm is->js.Pairwise (·≤·)->Q (.ref D) { s with heap:=h' }) :
  wpAny (model prog w) A (call (.builtin "sorted") [.ref p]) Q E s:=by
 refine Calls.call_function_entry kind_sorted plain_sorted entry_sorted (args_sorted1 _) ?_
 unfold Builtin.«sorted»
 refine wpAny_bind (m:=checkCount "sorted" 1 1 _) (wpAny_pure (wpAny_bind (wpAny_collect_seq p hT ho hc hd (fun h' keep=>wpAny_bind (wpAny_newList ?_ (by show vs.length≤_;rw[sizeLine_eq];omega))) (by rw[List.size_toArray,sizeLine_eq];omega))))
 have hoL:(h'.push (seqObj "list" vs.toArray 0)).get? h'.objs.size=some (seqObj "list" vs.toArray 0):=Heap.get?_push_size _ rfl
 show wpAny _ _ _ _ _ { s with heap:=h'.push (seqObj "list" vs.toArray 0) }
 refine wpAny_bind (wpAny_holding (wpAny_call_entry slot_list_sort ⟨_,hoL,rfl⟩ entry_list_sort (list_sort_tree hoL hi h64 fun out ns h1 h2 h3=>⟨_,rfl,?_⟩) (args_list_sort _)))
 obtain⟨e,he⟩:=sortedHeap_at (vs:=vs) (out:=out) hoL
 exact wpAny_pure ⟨_,rfl,h h' _ _ out.toList ns e keep (fun b u z1=>by
  have z2:=Heap.get?_push_of_some (seqObj "list" vs.toArray 0) z1
  rw[sortedHeap_old (Nat.ne_of_lt (Heap.lt_size z1)) (Heap.lt_size z2)];exact z2) (Nat.le_refl _) (by rw[he]) h1 h2 h3⟩
theorem q0 {X:Cx}:CallR X (.builtin "sorted") (fun xs H Q=>∃p is,xs=[.ref p]/\(SqL X.K H p (is.map V.int)\/SqT X.K H p (is.map V.int))/\is.length<64/\∀l,H l=none->Q (.ref l) (upd H l (.lst ((lf is).map V.int)))):=by
 intro pins s σ H xs us Q I r h
 obtain⟨p,is,rfl,hq,h64,q⟩:=h
 obtain⟨u,rfl,rx⟩:=fP r
 cases rx
 have main:∀(its:List Value) (T:String) (o:Obj) (n:Nat),(T = "list"\/T = "tuple")->s.heap.get? p=some o->o.cls=.type T->o.data=.seq its.toArray n->Vals (is.map V.int) its →
   wpAny (model X.prog X.w) X.A (call (.builtin "sorted") [.ref p]) (EP X pins σ Q) X.xe s:=fun its T o n hT ho hc hd rv=>by
  have hl:=rv.length
  rw[List.length_map] at hl
  refine ul hT ho hc hd (ko rv) (by omega) fun h1 h' D out js e k1 k2 hD hh hi hp hu=>?_
  rw[p6 hp hu] at hi
  have r2:=pL hi
  have hz:((lf is).map V.int).length≤sizeLine:=by rw[List.length_map,(lw is).length_eq,sizeLine_eq];omega
  have I1:Inv X pins σ H { s with heap:=h1 }:=I.kept (t':=s.toks) k1
  exact⟨.ref D,_,I1.laid (t':=s.toks) k2 hD (show ObjOk X.prog X.w _ _ _ (.lst _) from⟨hz,out,e,r2,hh⟩),rfl,q _ (I1.hok.fresh hD)⟩
 rcases hq with hq|hq
 ·obtain⟨its,rv,⟨o,n,h1,h2,_,h3⟩,_⟩:=I.list hq
  exact main its "list" o n (.inl rfl) h1 h2 h3 rv
 ·obtain⟨its,rv,⟨o,h1,h2,n,h3⟩,_⟩:=I.tuple hq
  exact main its "tuple" o n (.inr rfl) h1 h2 h3 rv
end L2
end
section
namespace L2
open PySem PySem.Spec PyProof.Rows PySem.W
section
variable {prog:Program}{w:World}{A:Around}{E:Value->Shared->Prop}{s:Shared}
noncomputable abbrev BG (a c:Int):Nat->Value->Prop:=fun i v=>∃t,v=.int (a+i * c) t
theorem tU {Q:List Value->Shared->Prop}{r:Addr}{a b c:Int}{t u v:Tok}{n:Nat}(hh:A.handled=none)(hr:IsRange s.heap r a b c t u v)(h1:Builtin.Range.small a b c=true)(h2:Builtin.Range.rangeSize a b c=n)(h3:n≤2 ^ 24)
  (hQ:∀h' tk acc,(∀x o,s.heap.get? x=some o->h'.get? x=some o)->ItemsOf (BG a c) acc n->Q acc.toList { s with heap:=h',toks:=tk }):wpAny (model prog w) A (collect (.ref r)) Q E s:=by
 unfold collect;refine wpAny_bind (wpAny_runValue (codeAny_builtin F.entry_proto_collect ?_));rw[Around.under_plainId F.plain_proto_collect _]
 show wpAny _ A.in1 (newList [] >>= fun z=>again (.builtin "list.__iadd__" ⟨[z,.ref r],[]⟩)) _ _ s
 refine wpAny_bind (wpAny_newObj_type (wpAny_pure ⟨plainId_quiet F.plain_list_iadd _,codeAny_builtin F.entry_list_iadd ?_⟩))
 rw[Around.under_plainId F.plain_list_iadd _];show wpAny _ A.in1 (Builtin.List.listExtendWith (.ref s.heap.objs.size) (.ref r) (.ref s.heap.objs.size)) _ _ _
 have hS0:(s.heap.push { cls:=.type "list",data:=.seq ([]:List Value).toArray }).get? s.heap.objs.size=some { cls:=.type "list",data:=.seq #[] }:=Heap.get?_push_size _ rfl
 have hr0:=Heap.get?_push_of_some { cls:=.type "list",data:=.seq ([]:List Value).toArray } hr
 refine wpAny_extend_range (R:=fun z s'=>match z with
  |.ok (.ret v)=>wpAny (model prog w) A (match v with
   |.ref a=>do
    let o ←load a
    match o.data with
     |.seq xs _=>pure xs.toList
     |_=>unsupported "internal:collect"
   |_=>unsupported "internal:collect") Q E s'
  |.ok _=>False
  |.error e=>E e s') (s:={ s with heap:=s.heap.push { cls:=.type "list",data:=.seq ([]:List Value).toArray } }) hh hr0 h1 h2 h3 s.heap.objs.size _ 0 hS0 fun h' tk acc c' hk hS hacc=>?_
 show wpAny _ A (load s.heap.objs.size >>= fun _=>_) _ _ _
 refine wpAny_bind (wpAny_load hS (wpAny_pure (hQ h' tk acc (fun x o e=>?_) hacc)))
 exact hk x o (Nat.ne_of_lt (Heap.lt_size e)) (Heap.get?_push_of_some _ e)
end
theorem og (r:Addr){a b c:Int}{t u v:Tok}{n:Nat}(h1:Builtin.Range.small a b c=true)(h2:Builtin.Range.rangeSize a b c=n)(h3:n≤2 ^ 24) :
  Meets (Builtin.«tuple.__new__» ⟨[.type "tuple",.ref r],[]⟩) (fun A R s=>(A.handled=none/\IsRange s.heap r a b c t u v)/\∀(h':Heap) (tk:Nat) (acc:Array Value),(∀x o,s.heap.get? x=some o->h'.get? x=some o)->ItemsOf (BG a c) acc n →
   R (.ok (.ret (.ref h'.objs.size))) { s with heap:=h'.push { cls:=.type "tuple",data:=.seq acc },toks:=tk }):=
 .of_wp fun prog w A R s h=>by
  obtain⟨⟨hh,hr⟩,h⟩:=h
  have hsub:=sub_tuple_self
  have hinit:=init_tuple_lookup
  have hmh:=madeHere_tuple
  have hT:s.TypeIs (.ref r) "range":=⟨_,hr,rfl⟩
  have hh1:A.in1.handled=none:=hh
  wp_walk using wpAny_typeOf hT,tU hh1 hr h1 h2 h3
  intro h' tk acc hk hacc
  show wpAny _ _ (Builtin.Tuple.tupleExact acc.toList.toArray >>= fun z=>ret z) _ _ _
  unfold Builtin.Tuple.tupleExact
  have e:acc.toList.toArray=acc:=by simp
  have hz:acc.toList.toArray.size≤sizeLine:=by rw[e,hacc.1,sizeLine_eq];omega
  refine wpAny_bind (wpAny_newObj_type (wpAny_pure ⟨_,rfl,?_⟩) hz)
  rw[e]
  exact h h' tk acc hk hacc
theorem m5 {X:Cx}(hc:X.calm=true):CallR X (.type "tuple") (fun xs H Q=>∃p j,xs=[.ref p]/\H p=some (.rng 0 j)/\0≤j/\j≤1000000/\∀l,H l=none->Q (.ref l) (upd H l (.tup (mK j.toNat)))):=by
 intro pins s σ H xs us Q I r h
 obtain⟨p,j,rfl,hp,h1,h2,q⟩:=h
 obtain⟨u,rfl,rx⟩:=fP r
 cases rx
 obtain⟨t,u,v,e⟩:=(show ObjOk X.prog X.w H s.heap p (.rng 0 j) from I.hok p _ hp)
 have z:sizeLine ≥ 1000000:=by decide
 refine callType_new F.called_tuple (by decide) (F.typeCall_tuple_1 _) (F.newCall_tuple_1 _) (fun obj=>F.args_object_init_2 obj _) F.entry_tuple_new
  (og p (a:=0) (b:=j) (c:=1) (n:=j.toNat) (small_one (by omega) (by omega) (by omega) (by omega)) (by rw[rangeSize_one];split<;>omega) (by omega)) ⟨⟨I.ok.hd hc,e⟩,fun h' tk acc hk hacc=>⟨⟨_,Heap.get?_push_size _ rfl,rfl⟩,?_⟩⟩
 have I1:Inv X pins σ H { s with heap:=h',toks:=tk }:=I.kept (t':=tk) hk
 exact⟨.ref h'.objs.size,_,I1.laid (t':=tk) (fun b o e=>Heap.get?_push_of_some _ e) (Nat.le_refl _) (show ObjOk X.prog X.w _ _ _ (.tup (mK j.toNat)) from⟨by rw[lM];omega,acc.toList,nR hacc,by simpa using IsTup.new h' acc⟩),rfl,q _ (I1.hok.fresh (Nat.le_refl _))⟩
end L2
end
section
namespace L2
open PySem PySem.Spec PyProof.Rows _root_.HT
theorem nU {prog:Program}{w:World}{A:Around}{E:Value->Shared->Prop}{s:Shared}{t z:Addr}{items:Array Value}{vl vu:Value}{lo hi:Option Int}{Q:Value->Shared->Prop}(ht:IsTup s.heap t items)(hs:s.heap.IsSliceOf z vl vu .none)(pl:IsPart vl lo)(pu:IsPart vu hi)
  (hw:_root_.HT.sIx items.size 0 lo=0/\_root_.HT.sIx items.size items.size hi=items.size) (h:Q (.ref t) s):wpAny (model prog w) A (getItem (.ref t) (.ref z)) Q E s:=by
 obtain⟨os,hos,hcs,lP⟩:=id hs
 have hTs:s.TypeIs (.ref z) "slice":=⟨os,hos,hcs⟩
 unfold getItem;try with_reducible refine wpAny_holding ?_
 first|(refine wpAny_bind (wpAny_pure ?_);skip)|skip
 refine wpAny_bind (wpAny_sequenceKey ht.typeIs (by decide) (wpAny_bind (wpAny_callSpecial?_slot (name:=Str.ofString "__getitem__") ht.typeIs PyProof.Rows.slot_tuple_getitem (wpAny_call_entry PyProof.Rows.slot_tuple_getitem ht.typeIs entry_tuple_getitem ?_ (args_tuple_getitem _ _)))))
 show wpAny _ _ (Builtin.Tuple.tupleItemsOf (.ref t) >>= fun _=>_) _ _ s
 refine wpAny_bind (tupleItemsOf_ ht (wpAny_bind (wpAny_typeOf hTs ?_)))
 rw[if_pos (by decide)];refine wpAny_bind (ib hs pl pu ?_)
 rw[hw.1,hw.2]
 have yes:(((0:Nat):Int)==0&&(1:Int)==1&&(items.size - 0)==items.size)=true:=by simp
 show wpAny _ _ (if (((0:Nat):Int)==0&&(1:Int)==1&&(items.size - 0)==items.size)=true then _ else _) _ _ s
 rw[if_pos yes]
 refine wpAny_bind ?_
 unfold Builtin.Tuple.tupleIsExact
 refine wpAny_bind (wpAny_typeOf ht.typeIs (wpAny_pure ?_))
 rw[if_pos (by decide)]
 exact wpAny_bind (wpAny_rule (wpAny_pure ⟨_,rfl,wpAny_pure h⟩))
noncomputable def Pw (K:PySem.W.Frag):V->Option Int->Option Int->Hp->VK->Prop:=fun x lo hi H Q=>∃a xs,x=.ref a/\SqT K H a xs/\(_root_.HT.sIx xs.length 0 lo=0/\_root_.HT.sIx xs.length xs.length hi=xs.length)/\Q (.ref a) H
theorem Fd {X:Cx}:SlR X (Pw X.K):=by
 intro pins s σ H x v vl vu lo hi sl Q I rx hs pl pu h
 obtain⟨a,xs,rfl,hx,hw,q⟩:=h
 cases rx
 obtain⟨its,r,ht,hz⟩:=I.tuple hx
 have hn:its.toArray.size=xs.length:=by rw[List.size_toArray];exact r.length.symm
 refine⟨"tuple",_,PyProof.Rows.slot_tuple_getitem.lookup,ht.typeIs,nU ht hs pl pu (by rw[hn];exact hw) ⟨.ref a,H,I,rfl,q⟩⟩
end L2
end
section
namespace Dp
open PySem L2 Fo Pu
section
variable {X:Cx}{tg iter:Expr}{t:iH}{fs:FA}
noncomputable def vH:PV->Option (List PV)
 |.tup ps=>some ps
 |.ktu ps=>some ps
 |_=>none
theorem BO {K:PySem.W.Frag}{F:Hp}{p:PV}{ps:List PV}{v:V}(h:vH p=some ps)(r:Rep K F p v):∃a vs,v=.ref a/\SqT K F a vs/\Reps K F ps vs:=by
 cases p with
 |tup qs=>cases h;obtain⟨a,vs,e1,e2,rs⟩:=r;exact⟨a,vs,e1,SqT.of e2,rs⟩
 |ktu qs=>cases h;exact r
 |_=>cases h
noncomputable def Lk (t:iH):nS:=fun ρ Q=>t ρ fun ps=>∃p qs,ps=[p]/\vH p=some qs/\Q (gh 0 qs)
theorem wD (h:PI X tg iter (tZ X.K (lA X.K t))):yx X tg iter (Lk t):=PI.weak h fun σ H R hh=>by
 obtain⟨F,ρ,Qp,er,q,k⟩:=hh
 refine⟨F,ρ,_,er,q,fun ps vs F1 H1 h1 g1 r1=>?_⟩
 obtain⟨p,qs,rfl,hp,h⟩:=h1
 obtain⟨v,r,rfl,r1,er'⟩:=r1
 cases (show r=[] from er')
 obtain⟨a,vs,rfl,hs,rs⟩:=BO hp r1
 refine⟨a,rfl,⟨vs,x0 g1.fh hs⟩,k _ _ F1 H1 h g1 fun F2 H2 i s1 s2=>?_⟩
 have h2:=x0 (s1.trans s2) hs
 refine⟨fun p e=>?_,fun hl=>⟨vs,h2,by rw[rs.length];rw[kS] at hl;exact hl⟩⟩
 rw[lg] at e
 obtain⟨p',e1,rfl⟩:=Option.map_eq_some_iff.mp e
 obtain⟨v,ev,rv⟩:=rs.get e1
 refine⟨⟨vs,v,h2,ev⟩,fun x H3 hy=>?_⟩
 obtain⟨q,y,ex,hq,e2,hy⟩:=hy
 subst ex e2
 have:=hy vs h2
 rw[ev] at this
 cases this
 refine⟨L2.upd F2 q (.tup [.int i,v]),.new s2 hq _,q,[.int i,v],rfl,ah,?_⟩
 refine⟨_,_,rfl,?_,_,_,rfl,(rv.mono s1).mono (aM (s2.free hq) _),rfl⟩
 show V.int i=V.int ((0+i:Nat):Int)
 rw[Nat.zero_add]
noncomputable def zh (fs:FA):FI:=fun ρ=>(fs ρ).bind fun rs=>(rs.mapM RV.fr).bind fun ps=>match ps with
 |[p]=>(vH p).map (gh 0)
 |_=>none
theorem Ew (h:PI X tg iter (tZ X.K (lA X.K (Jv fs)))):DI X tg iter (zh fs):=jd (wD h) fun ρ Q hh=>by
 obtain⟨its,e,q⟩:=hh
 obtain⟨rs,e1,e⟩:=Option.bind_eq_some_iff.mp e
 obtain⟨ps,e2,e⟩:=Option.bind_eq_some_iff.mp e
 split at e
 ·next p=>
  obtain⟨qs,e3,rfl⟩:=Option.map_eq_some_iff.mp e
  exact⟨rs,_,e1,e2,_,_,rfl,e3,q⟩
 ·cases e
structure KTup (K:PySem.W.Frag)(a:Addr)(ps:List PV):Prop where
 it:∃vs,∀F,SqT K F a vs/\Reps K F ps vs
theorem Q9 {x:Str}{a:Addr}{ps:List PV}{pos:Pos}(hg:Gl X x)(hm:X.mg x=some (.ref a))(h:KTup X.K a ps)(hd:(x==("__debug__" : Str))=false:=by decide):PuE X (.Name x pos) (pC (.ktu ps)):=
 PE.weak (mq (v:=.ref a) hg hm rfl hd) fun σ H Q hh=>by
  obtain⟨F,ρ,Qp,er,q,k⟩:=hh
  obtain⟨vs,hv⟩:=h.it
  exact k (.ktu ps) _ F H q (.refl er.fz) ⟨a,vs,rfl,(hv F).1,(hv F).2⟩
inductive TupEs:List Value->List PV->List V->Prop where
 |nil:TupEs [] [] []
 |str {x:Str} {t:Tok} {us:List Value} {ps:List PV} {vs:List V}:TupEs us ps vs->TupEs (.str x t::us) (.str x::ps) (.str x::vs)
 |int {x:Int} {t:Tok} {us:List Value} {ps:List PV} {vs:List V}:TupEs us ps vs->TupEs (.int x t::us) (.int x::ps) (.int x::vs)
theorem TupEs.ok {K:PySem.W.Frag}{F:Hp}:∀{us:List Value} {ps:List PV} {vs:List V},TupEs us ps vs->Vals vs us/\Reps K F ps vs
 |_,_,_,.nil=>⟨.nil,rfl⟩
 |_,_,_,.str h=>⟨.cons ⟨_,rfl⟩ (h.ok (K:=K) (F:=F)).1,_,_,rfl,rfl,(h.ok (K:=K) (F:=F)).2⟩
 |_,_,_,.int h=>⟨.cons ⟨_,rfl⟩ (h.ok (K:=K) (F:=F)).1,_,_,rfl,rfl,(h.ok (K:=K) (F:=F)).2⟩
end
end Dp
end
section
namespace Dp
open PySem PySem.Spec L2 Pu
section
variable {X:Cx}{e:Expr}{p apos cpos:Pos}{f:FE}{x:Str}{a:Addr}{kvs:List (Str×Int)}
noncomputable def wl (kvs:List (Str×Int))(o:Option PV):Option RV:=match o with
 |some (.str n)=>some (.fz ((jS kvs n).elim .non .int))
 |_=>none
noncomputable def mo (kvs:List (Str×Int))(f:FE):FE:=fun ρ=>wl kvs ((f ρ).bind RV.fr)
theorem Bv (T:NumTab X.w X.K a kvs)(hg:Gl X x)(hm:X.mg x=some (.ref a))(he:DE X e f)(m:M1 X (.Name x p) "get" apos e cpos)(hd:(x==("__debug__" : Str))=false:=by decide):DE X (.Call (.Attribute (.Name x p) "get" apos) [e] [] cpos) (mo kvs f):=
 .ofE (te:=fun ρ Q=>tF f ρ fun p=>∃n,p=.str n/\Q ((jS kvs n).elim .non .int)) (PE.weak (xz T (mq (v:=.ref a) hg hm rfl hd) he.ee m) fun σ H Q hh=>by
  obtain⟨F,ρ,Qp,er,q,k⟩:=hh
  refine⟨rfl,F,ρ,_,er,q,fun p v F1 H1 q1 g1 r1=>?_⟩
  obtain⟨n,rfl,q1⟩:=q1
  cases (show v=.str n from r1)
  refine⟨n,rfl,k _ _ F1 H1 q1 g1 ?_⟩
  cases jS kvs n<;>rfl) fun ρ r h=>by
  unfold mo wl at h
  split at h
  ·next n e1=>
   obtain⟨r1,e2,e3⟩:=Option.bind_eq_some_iff.mp e1
   cases h
   exact⟨_,rfl,r1,_,e2,e3,n,rfl,rfl⟩
  ·cases h
end
end Dp
end
section
namespace Dp
open PySem PySem.Spec L2 Pu
section
variable {X:Cx}{st:Stmt}{i:Nat}
noncomputable def iP:List PV->Option RV
 |[p]=>(items p).bind fun ps=>(db ps).bind fun is=>if is.length<64 then some (.nw ((lf is).map PV.int)) else none
 |_=>none
noncomputable def tP:Gj:=fun ps Q=>One ps fun p=>OkS p fun ps=>∃is,db ps=some is/\is.length<64/\Q ((lf is).map PV.int)
theorem hR {K:PySem.W.Frag}{F:Hp}:∀is:List Int,Reps K F (is.map PV.int) (is.map V.int)
 |[]=>rfl
 |i::is=>⟨.int i,_,rfl,rfl,hR is⟩
theorem uF:xZ X.K (fun xs H Q=>∃p is,xs=[.ref p]/\(SqL X.K H p (is.map V.int)\/SqT X.K H p (is.map V.int))/\is.length<64/\∀l,H l=none->Q (.ref l) (upd H l (.lst ((lf is).map V.int)))) tP:=fun F H xs ps Qp Q s r h k=>by
 obtain⟨p,v,rfl,rfl,r,h⟩:=h.rd r
 obtain⟨a,vs,ps,rfl,hs,ei,rs,is,e,h64,h⟩:=h.rd s r
 rw[jo e] at rs
 rw[iO rs] at hs
 exact⟨a,is,rfl,hs,h64,fun l hl=>k _ l _ F _ h (.newO s hl _) hl (s.free hl) ah (hR _)⟩
theorem wZ:∀ps r,iP ps=some r->∃p,r=.nw p/\tP ps (fun z=>z=p):=fun ps r h=>by
 unfold iP at h
 split at h
 ·obtain⟨qs,e1,h⟩:=Option.bind_eq_some_iff.mp h
  obtain⟨is,e2,h⟩:=Option.bind_eq_some_iff.mp h
  split at h
  ·next z=>
   cases h
   refine⟨_,rfl,?_⟩
   show OkS _ _
   unfold OkS
   rw[e1]
   exact⟨is,e2,z,rfl⟩
  ·cases h
 ·cases h
theorem sG {K:PySem.W.Frag}{F:Hp}:∀{ps:List PV} {vs:List V},Reps K F ps vs->Reps K F ps.reverse vs.reverse
 |[],_,h=>by rw[show _=[] from h];rfl
 |p::ps,_,⟨v,r,e,h,t⟩=>by
  rw[e,List.reverse_cons,List.reverse_cons]
  exact (sG t).app (.one h)
noncomputable def Jz (i:Nat):FS:=fun ρ=>match sl ρ i with
 |some (.own ps)=>.nx (ρ.set i (some (.own ps.reverse)))
 |_=>.bad
noncomputable def MH (i:Nat):hG:=fun D ρ=>go ρ i fun ps=>D.nx (ρ.set i (some (.own ps.reverse)))
theorem C3 (h:PS X st (lV (Kw X.K "list" mT (gz i)))):jv X st (MH i):=PS.weak h fun D σ H hh_=>hh_.elim fun F0 H0 F ρ Dp br h ft=>by
 obtain⟨ps,e,h⟩:=h.ex
 obtain⟨a,vs,ev,o,h1,h2,h3⟩:=br.ownAt e
 exact⟨_,ev,.inl ⟨rfl,vs,SqL.of h1⟩,a,vs,rfl,rfl,h1,ft.nx F _ σ _ h (br.mut (s:=.own _) o rfl ⟨a,_,rfl,ah,h2,sG h3⟩)⟩
theorem Mu (h:PS X st (lV (Kw X.K "list" mT (gz i)))):DS X st (Jz i):=aQ (C3 h) fun D ρ q=>by
 unfold lK Jz at q
 split at q
 ·next ps e1=>
  unfold MH go
  rw[fR e1]
  exact q
 ·exact q.elim
end
end Dp
end
section
namespace Dp
open PySem PySem.Spec L2 Pu
noncomputable def G1 (K:PySem.W.Frag)(F H:Hp)(J:It)(its:List PV):Prop:=∀F1 H1 (i:Nat),Same F F1->Same F1 H1->Same H H1 →
 (∀p,its[i]?=some p->J.go i H1/\∀x H2,J.yld i H1 x H2->∃F2,Grow F1 H1 F2 H2/\Rep K F2 p x)/\(its.length≤i->J.stop i H1)
noncomputable def lIc (K:PySem.W.Frag)(ti:nS):TI:=fun σ H R=>∃F ρ,∃Qp:List PV->Prop,ER K F H σ ρ/\ti ρ Qp/\∀its J F' H',Qp its->Grow F H F' H'->G1 K F' H' J its->R J H'
theorem lIc.elim {K:PySem.W.Frag}{ti:nS}{σ:St}{H:Hp}{R}{C:Prop}(h:lIc K ti σ H R)(k:∀F ρ (Qp:List PV->Prop),ER K F H σ ρ->ti ρ Qp->(∀its J F' H',Qp its->Grow F H F' H'->G1 K F' H' J its->R J H')->C):C:=by obtain⟨F,ρ,Qp,a,b,c⟩:=h;exact k F ρ Qp a b c
section
variable {X:Cx}{e l tg iter:Expr}{te tl:eC}{f:FE}
theorem yp (hl:fL X l tl):PI X tg l (lIc X.K (NQ tl)):=PI.weak (v6 hl) fun σ H R hh_=>hh_.elim fun F ρ Qp er q k=>⟨F,ρ,_,er,q,fun p v F1 H1 h1 g1 r1=>by
 obtain⟨a,vs,ps,rfl,hs,rs,h⟩:=OkL.rd h1 g1.fh r1
 refine⟨a,rfl,⟨vs,hs⟩,k ps _ F1 H1 h g1 fun F2 H2 i s1 s2 s3=>?_⟩
 have h2:=s3.seq hs
 refine⟨fun p e=>?_,fun hl=>⟨vs,h2,by rw[rs.length];exact hl⟩⟩
 obtain⟨v,ev,rv⟩:=rs.get e
 refine⟨⟨vs,v,h2,ev⟩,fun x H3 y=>?_⟩
 obtain⟨e2,y⟩:=y
 subst e2
 have:=y vs h2
 rw[ev] at this
 cases this
 exact⟨F2,.refl s2,rv.mono s1⟩⟩
theorem vg {K:PySem.W.Frag}{fm:List (Option Nat)}{ti:nS}{g0:TG}{g:qc}{tc:jM}(hg:fH K g0 g):∀σ H Q,lN K (oQ fm ti g tc te) σ H Q->gJ fm (lIc K ti) g0 (lB K tc) (lE K te) σ H Q:=fun σ H Q hh_=>hh_.elim fun F ρ Qp er q k=>
 ⟨F,ρ,_,er,q,fun its J F1 H1 hq g1 it=>by
  obtain⟨hlen,h1⟩:=hq
  refine⟨fun i ys H'=>∃F' acc,Grow F1 H1 F' H'/\Reps K F' acc ys/\i≤its.length/\acc.length≤i/\LJ g tc te (iK fm ρ) (its.drop i) acc Qp,its.length,⟨F1,[],.refl g1.fh,rfl,Nat.zero_le _,Nat.le_refl _,h1⟩,?_,?_⟩
  ·rintro i ys H' ⟨F',acc,g2,rs,hi,ha,_⟩
   refine⟨hi,oM ?_⟩
   rw[rs.length];omega
  ·rintro i ys H' ⟨F',acc,g2,rs,hi,ha,h2⟩
   obtain⟨it1,it2⟩:=it F' H' i g2.ff g2.fh g2.hh
   by_cases hl:i<its.length
   ·obtain⟨go,yl⟩:=it1 _ (List.getElem?_eq_getElem hl)
    refine .inr ⟨go,fun x H2 hy=>?_⟩
    obtain⟨F2,g3,rx⟩:=yl x H2 hy
    rw[List.drop_eq_getElem_cons hl] at h2
    have er2:ER K F2 H2 (iJ fm σ) (iK fm ρ):=(er.grow ((g1.trans g2).trans g3)).sub fm
    refine hg F2 H2 (iJ fm σ) (iK fm ρ) _ x _ _ g3.fh rx h2 fun σ2 ρ2 h3 u=>?_
    refine⟨F2,ρ2,_,er2.upd u,h3,fun b F3 H3 h4 g4=>?_⟩
    cases b with
    |true=>
     rw[if_pos rfl] at h4 ⊢
     refine⟨F3,ρ2,_,(er2.upd u).grow g4,h4,fun y v F4 H4 h5 g5 ry=>?_⟩
     have gg:=((g2.trans g3).trans g4).trans g5
     exact⟨F4,acc++[y],gg,(rs.mono ((g3.ff.trans g4.ff).trans g5.ff)).app (.one ry),hl,by rw[List.length_append];simp;omega,h5⟩
    |false=>
     rw[if_neg Bool.false_ne_true] at h4 ⊢
     exact⟨F3,acc,(g2.trans g3).trans g4,rs.mono (g3.ff.trans g4.ff),hl,by omega,h4⟩
   ·have e:its.drop i=[]:=List.drop_eq_nil_of_le (by omega)
    rw[e] at h2
    exact .inl ⟨it2 (by omega),fun l hl=>k acc l ys F' _ h2 ((g1.trans g2).trans (.newO g2.fh hl _)) ((g1.trans g2).hh.free hl) (g2.fh.free hl) ah rs⟩⟩
noncomputable def Rr (X:Cx)(tg iter:Expr)(f:FI):Prop:=PI X tg iter (lIc X.K (GZ f))
noncomputable def MR (f:FE):FI:=fun ρ=>(f ρ).bind fun r=>gD r.pv
theorem IT (h:DE X iter f):Rr X tg iter (MR f):=PI.weak (yp h.tt) fun σ H R hh_=>hh_.elim fun F ρ Qp er q k=>by
 obtain⟨its,e,q⟩:=q
 obtain⟨r,e1,e⟩:=Option.bind_eq_some_iff.mp e
 exact⟨F,ρ,Qp,er,⟨r,e1,fD e q⟩,k⟩
theorem Ep {fm:List (Option Nat)}{it:FI}{h0:TG}{t:FT}{c:FB}(hg:fH X.K h0 (qT t))(h:PE X e (gJ fm (lIc X.K (GZ it)) h0 (lB X.K (yy c)) (lE X.K (tF f)))):DE X e (bL fm it t c f):=.ofN (PE.weak h (vg hg)) fun ρ r e=>pX e
end
end Dp
end
section
namespace Dp
open PySem PySem.Spec L2 Pu
section
variable {X:Cx}{e:Expr}{es:List Expr}{p pos apos cpos:Pos}{f:FE}{fs:FA}{x:Str}{ps:List PV}{kvs:List (Str×Int)}
noncomputable def vm:List PV->Option RV
 |[.rng lo j]=>if lo=0/\0≤j/\j≤1000000 then some (.fz (.tup (nQ 0 j.toNat))) else none
 |_=>none
noncomputable def Gz:sx:=fun ps Q=>One ps fun p=>Rn p fun j=>0≤j/\j≤1000000/\Q (.tup (nQ 0 j.toNat))
theorem F6:jH X.K (fun xs H Q=>∃p j,xs=[.ref p]/\H p=some (.rng 0 j)/\0≤j/\j≤1000000/\∀l,H l=none->Q (.ref l) (upd H l (.tup (mK j.toNat)))) Gz:=fun F H xs ps Qp Q s r h k=>by
 obtain⟨p,v,rfl,rfl,r,h⟩:=h.rd r
 cases p<;>first|exact h.elim|skip
 obtain⟨rfl,h1,h2,h⟩:=h
 cases r with
 |frz r=>
  obtain⟨a,rfl,e⟩:=r
  exact⟨a,_,rfl,s _ _ e,h1,h2,fun l hl=>k _ _ _ _ h (.new s hl _) ⟨l,_,rfl,ah,lG _⟩⟩
theorem yO:∀ps r,vm ps=some r->∃p,r=.fz p/\Gz ps (fun z=>z=p):=fun ps r h=>by
 unfold vm at h
 split at h
 ·split at h
  ·next z=>cases h;exact⟨_,rfl,z.1,z.2.1,z.2.2,rfl⟩
  ·cases h
 ·cases h
theorem JQ (hm:X.mg "tuple" = none)(ha:DA X (e::es) fs)(hc:X.calm=true:=by rfl)(hg:Gl X "tuple":=by rfl)(he:starEach (e::es) X.env=(false,eval e X.env)::starEach es X.env:=by rfl)(hpl:(backTo pos (starEach es X.env)).any (·.1)=false:=by rfl) :
  DE X (.Call (.Name "tuple" p) (e::es) [] pos) (fB vm fs):=jX F6 yO (eX (m5 hc) hg hm kJ ha.t (by decide) (by decide) he hpl)
theorem LS (h:∃a,X.mg x=some (.ref a)/\KTup X.K a ps)(hg:Gl X x:=by rfl)(hd:(x==("__debug__" : Str))=false:=by decide):DE X (.Name x pos) (fC (.ktu ps)):=by
 obtain⟨a,h1,h2⟩:=h
 exact G6 (Q9 hg h1 h2 hd)
theorem BQ (h:∃a,X.mg x=some (.ref a)/\NumTab X.w X.K a kvs)(he:DE X e f)(m:M1 X (.Name x p) "get" apos e cpos)(hg:Gl X x:=by rfl)(hd:(x==("__debug__" : Str))=false:=by decide):DE X (.Call (.Attribute (.Name x p) "get" apos) [e] [] cpos) (mo kvs f):=by
 obtain⟨a,h1,h2⟩:=h
 exact Bv h2 hg h1 he m hd
end
end Dp
namespace Dp
open PySem PySem.Spec L2 Pu
section
variable {X:Cx}{st:Stmt}{i j:Nat}{f1 f2:FE}
noncomputable def N7 (i j:Nat)(n1 n2:oH):hG:=fun D ρ=>n1 ρ fun ps=>n2 ρ fun qs=>D.nx ((ρ.set i (some (.own ps))).set j (some (.own qs)))
theorem zc {n1 n2:oH}(h:PS X st (zI i j (gB (lN X.K n1) (gB (lN X.K n2) kZ)))):jv X st (N7 i j n1 n2):=PS.weak h fun D σ H hh_=>hh_.elim fun F0 H0 F ρ Dp br h ft=>
 ⟨F,ρ,_,br.er,h,fun ps a vs F1 H1 h1 g1 h0 hF hH r1=>⟨F1,ρ,_,(br.grow g1).er,h1,fun qs b ws F2 H2 h2 g2 k0 kF kH r2=>⟨_,_,rfl,ft.nx F2 H2 _ _ h2 ((br.setN g1 h0 hF hH r1).setN g2 k0 kF kH r2)⟩⟩⟩
noncomputable def Aq (i j:Nat)(f1 f2:FE):FS:=fun ρ=>match f1 ρ,f2 ρ with
 |some (.nw ps),some (.nw qs)=>.nx ((ρ.set i (some (.own ps))).set j (some (.own qs)))
 |_,_=>.bad
theorem IP (h:PS X st (zI i j (gB (lN X.K (tN f1)) (gB (lN X.K (tN f2)) kZ)))):DS X st (Aq i j f1 f2):=aQ (zc h) fun D ρ q=>by
 unfold lK Aq at q
 split at q
 ·next ps qs e1 e2=>exact⟨_,e1,_,e2,q⟩
 ·exact q.elim
end
end Dp
end
section
namespace Dp
open PySem PySem.Spec L2 Pu
noncomputable abbrev A4:=List (Addr×(List PV->Option PR))
noncomputable def look:A4->Addr->Option (List PV->Option PR)
 |[],_=>none
 |(b,F)::t,a=>if a=b then some F else look t a
section
variable {X:Cx}{e:Expr}{es:List Expr}{p pos:Pos}{fs:FA}{x:Str}{i j k:Nat}{qs:List Str}{t:A4}{a:Addr}
theorem Qw (hm:X.mg x=some (.ref a))(hg:Gl X x:=by rfl)(hd:(x==("__debug__" : Str))=false:=by decide):DE X (.Name x pos) (fC (.fn a)):=G6 (uv (p:=.fn a) (mq (v:=.ref a) hg hm rfl hd))
noncomputable def pS (t:A4)(o:Option Sl)(as:Option (List PV)):Option RV:=match o,as with
 |some (.val (.fn a)),some ps=>(look t a).bind fun F=>(F ps).map oa
 |_,_=>none
noncomputable def vf (t:A4)(i:Nat)(fs:FA):FE:=fun ρ=>pS t (sl ρ i) ((fs ρ).bind fun rs=>rs.mapM RV.fr)
theorem Fb (hd:∀a F,look t a=some F->DefA X.prog X.w X.K X.mg X.base j a qs (aN X.K (aW F)))(hr:Room k X.A)(hN:X.N[i]?=some x)(ha:DA X (e::es) fs)(hv:G7 X.env.scope x:=by first|exact Or.inl rfl|exact Or.inr rfl)(hj:j≤k:=by decide)(hdb:(x==("__debug__" : Str))=false:=by decide)(hcd:(x==("__classdict__" : Str))=false:=by decide)
  (he:starEach (e::es) X.env=(false,eval e X.env)::starEach es X.env:=by rfl) (hpl:(backTo pos (starEach es X.env)).any (·.1)=false:=by rfl):DE X (.Call (.Name x p) (e::es) [] pos) (vf t i fs):=
 PE.weak (Ap (D:=fun f sp=>∃F,look t f=some F/\sp=aN X.K (aW F)) (fun f sp h=>by obtain⟨F,h1,rfl⟩:=h;exact hd f F h1) hr hN hv ha.f hj hdb hcd he hpl) fun σ H Q hh_=>hh_.elim fun F0 ρ r er e k=>by
  unfold vf pS at e
  split at e
  ·next a ps es ep=>
   obtain⟨rs,e2,e3⟩:=Option.bind_eq_some_iff.mp ep
   obtain⟨F,e1,e⟩:=Option.bind_eq_some_iff.mp e
   obtain⟨q,e4,rfl⟩:=Option.map_eq_some_iff.mp e
   obtain⟨v,ev,rd⟩:=er.rd (fR es)
   have hs:=er.sl i _ (fR es)
   rw[ev] at hs
   obtain rfl:v=.ref a:=hs
   refine⟨a,_,ev,⟨F,e1,rfl⟩,F0,ρ,(fun z=>z=ps),er,⟨rs,ps,e2,e3,rfl⟩,fun ps' vs F1 H1 h1 g1 r1=>?_⟩
   subst h1
   refine⟨F1,ps',(fun z=>z=q),g1.fh,r1,⟨q,e4,rfl⟩,fun r v F2 H2 h2 g2 rr=>?_⟩
   subst h2
   refine k v F2 H2 (g1.trans g2) ?_
   cases r with
   |v p=>exact rr
   |n ps=>
    obtain⟨a,vs,rfl,h0,hF,hH,rs⟩:=rr
    exact⟨a,vs,rfl,g1.hh.free h0,hF,hH,rs⟩
  ·cases e
end
end Dp
end
section
namespace Dp
open PySem PySem.Spec L2 Pu
section
variable {X:Cx}{e a:Expr}{pos:Pos}{te:eC}{fa:FE}
noncomputable def P6 (te:eC)(tl th:xV):eC:=fun ρ Q=>te ρ fun p=>tl ρ fun l=>th ρ fun h=>OkT p fun ps=>(_root_.HT.sIx ps.length 0 l=0/\_root_.HT.sIx ps.length ps.length h=ps.length)/\Q (.tup ps)
theorem Jl {lo hi:Option Expr}{tl th:xV}{p2:Pos}(he:fL X e te)(hl:zJ X lo tl)(hh:zJ X hi th):PuE X (.Subscript e (.Slice lo hi none p2) pos) (P6 te tl th):=PE.weak (nN Fd he hl hh) fun σ H Q hh_=>hh_.elim fun F ρ Qp er q k=>⟨F,ρ,_,er,q,fun p v F1 H1 h1 g1 r1=>
 ⟨F1,ρ,_,er.grow g1,h1,fun l F2 H2 h2 g2=>⟨F2,ρ,_,(er.grow g1).grow g2,h2,fun h F3 H3 h3 g3=>by
  have gg:=(g1.trans g2).trans g3
  obtain⟨a,vs,ps,rfl,rfl,hF,rs,hn,q⟩:=h3.rd (r1.grow (g2.trans g3))
  exact⟨a,vs,rfl,SqT.of (gg.fh _ _ hF),by rw[rs.length];exact hn,k _ _ F3 H3 q gg ⟨a,vs,rfl,hF,rs⟩⟩⟩⟩⟩
noncomputable def N1:PV->Option Int->Option Int->Option RV
 |.tup ps,l,h=>some (.fz (.tup (cut ps l h)))
 |_,_,_=>none
noncomputable def OM (fa:FE)(fl fh:FO):FE:=fun ρ=>(fa ρ).bind fun x=>(fl ρ).bind fun l=>(fh ρ).bind fun h=>N1 x.pv l h
theorem w4 {α:Type}{ps:List α}{l h:Option Int}(hw:_root_.HT.sIx ps.length 0 l=0/\_root_.HT.sIx ps.length ps.length h=ps.length):cut ps l h=ps:=by
 unfold cut
 rw[hw.1,hw.2,List.drop_zero,Nat.sub_zero,List.take_length]
theorem Nz {lo hi:Option Expr}{fl fh:FO}{p2:Pos}(ha:DE X a fa)(hl:DO X lo fl)(hh:DO X hi fh):DE X (.Subscript a (.Slice lo hi none p2) pos) (OM fa fl fh):=.ofE (jK (yA ha.tt hl hh) (Jl ha.tt hl hh)) fun ρ r e=>by
 obtain⟨x,e1,e⟩:=Option.bind_eq_some_iff.mp e
 obtain⟨l,e2,e⟩:=Option.bind_eq_some_iff.mp e
 obtain⟨h,e3,e⟩:=Option.bind_eq_some_iff.mp e
 cases q:x.pv with
 |tup ps=>
  rw[q] at e
  cases e
  by_cases z:_root_.HT.sIx ps.length 0 l=0/\_root_.HT.sIx ps.length ps.length h=ps.length
  ·refine⟨_,rfl,.inr ⟨x,e1,l,e2,h,e3,?_⟩⟩
   rw[q,w4 z];exact⟨z,rfl⟩
  ·refine⟨_,rfl,.inl ⟨x,e1,l,e2,h,e3,?_⟩⟩
   rw[q];exact⟨z,rfl⟩
 |_=>rw[q] at e;cases e
end
end Dp
end
section
namespace L2
open PySem PySem.Spec PyProof.Rows
noncomputable def EU (b:Bool):Nat:=if b then 1 else 0
theorem uu:typeLookup (.type "bool") "__index__" = pure (some (.builtin "int.__index__")):=by
 rw[typeLookup_type,builtinLookup_eq_fast]
 kernel_rfl
section
variable {P:Program}{w:World}{A:Around}{E:Value->Shared->Prop}{s:Shared}{b:Bool}
theorem zK {Q:Option Int->Shared->Prop}(h:Q (some (EU b:Int)) s):wpAny (model P w) A (Builtin.List.listSubscript? (.bool b)) Q E s:=by
 have e:=PySem.typeIs_bool s b
 unfold Builtin.List.listSubscript?
 refine wpAny_bind (wpAny_specialOf (T:="bool") e uu ?_)
 refine (?_:wpAny _ _ (asIndex (.bool b) >>= _) _ _ _)
 refine wpAny_bind (wpAny_of_eq (a:=(EU b:Int)) (by cases b<;>rfl) ?_)
 cases b<;>exact wpAny_pure h
theorem wH {l:Addr}{xs:Array Value}{x:Value}{Q:Value->Shared->Prop}(hl:s.heap.IsList l xs)(hx:xs[EU b]?=some x)(h:Q x s):wpAny (model P w) A (getItem (.ref l) (.bool b)) Q E s:=by
 have ty:=hl.typeIs
 obtain⟨o,ho,hc,ne,hd⟩:=hl
 unfold getItem
 try with_reducible refine wpAny_holding ?_
 first|refine wpAny_bind (wpAny_pure ?_)|skip
 refine wpAny_bind (wpAny_sequenceKey ty (by decide) ?_)
 have ar:=args_list_getitem (.ref l) (.bool b)
 refine wpAny_bind (wpAny_callSpecial?_slot (name:=Str.ofString "__getitem__") ty slot_list_getitem (wpAny_call_entry slot_list_getitem ty entry_list_getitem ?_ ar))
 refine (?_:wpAny _ _ (Builtin.List.listSubscript? (.bool b) >>= _) _ _ s)
 refine wpAny_bind (zK ?_)
 refine (?_:wpAny _ _ ((seqItemAt l (EU b) >>= fun r=>pure (r.map (EU b,·))) >>= _) _ _ s)
 refine wpAny_bind (wpAny_bind (wpAny_seqItemAt ho hd (wpAny_pure ?_)))
 rw[hx]
 first
  |exact wpAny_pure ⟨x,rfl,wpAny_pure h⟩
  |exact wpAny_bind (wpAny_pure (wpAny_pure ⟨x,rfl,wpAny_pure h⟩))
end
noncomputable def xr (K:PySem.W.Frag):R2:=fun x y H Q=>∃p xs b v,x=.ref p/\y=.bl b/\SqL K H p xs/\xs[EU b]?=some v/\Q v H
theorem Dd {X:Cx}:IxR X (xr X.K):=by
 intro value slice pins s σ H x y v u Q I rx ry h hs
 obtain⟨p,xs,b,z,rfl,rfl,hq,he,q⟩:=h
 cases rx
 cases ry
 obtain⟨its,r,pl,hz⟩:=I.list hq
 obtain⟨w,ew,rw'⟩:=r.get he
 exact subscriptTail_builtinR (x:=w) pl.isList.typeIs slot_list_getitem.lookup (wH (Q:=fun r s'=>r=w/\EP X pins σ Q r s') pl.isList (by simpa using ew) ⟨rfl,z,H,I,rw',q⟩) hs
end L2
namespace Dp
open PySem PySem.Spec L2 Pu
section
variable {X:Cx}{a b:Expr}{pos:Pos}{fa fb:FE}
noncomputable def xr:PV->PV->Option RV
 |.lst ps,.int i=>(L2.atI ps i).map .fz
 |.lst ps,.bl b=>(ps[EU b]?).map .fz
 |_,_=>none
noncomputable def JM:ij:=fun x y Q=>match x,y with
 |.lst ps,.bl b=>OkO (ps[EU b]?) Q
 |_,_=>False
theorem Ja:eG X.K (L2.xr X.K) JM:=fun F H x y p q Qp Q s rx ry h k=>by
 unfold JM at h
 split at h
 ·next ps b=>
  obtain⟨z,e,h⟩:=h.ex
  cases rx with
  |frz rx=>
   obtain⟨a,vs,rfl,e1,r⟩:=rx
   cases ry with
   |frz ry=>
    obtain⟨v,e',r'⟩:=r.get e
    exact⟨a,vs,b,v,rfl,ry,SqL.of (s _ _ e1),e',k z v F H h (.refl s) r'⟩
  |own h1 h2 h3=>
   cases ry with
   |frz ry=>
    obtain⟨v,e',r'⟩:=h3.get e
    exact⟨_,_,b,v,rfl,ry,SqL.of h1,e',k z v F H h (.refl s) r'⟩
 ·exact h.elim
theorem IQ {ta tb:eC}(ha:fL X a ta)(hb:fL X b tb)(hs:jj b):PuE X (.Subscript a b pos) (ra JM ta tb):=PE.weak (Az Dd ha hb hs) (kn Ja)
theorem N4 (ha:DE X a fa)(hb:DE X b fb)(hs:jj b):DE X (.Subscript a b pos) (aq xr fa fb):=.ofE (jK (GW ha.tt hb.tt hs) (IQ ha.tt hb.tt hs)) fun ρ r e=>by
 obtain⟨x,e1,e⟩:=Option.bind_eq_some_iff.mp e
 obtain⟨y,e2,e⟩:=Option.bind_eq_some_iff.mp e
 unfold xr at e
 split at e
 ·next ps i ex ey=>
  obtain⟨p,e3,rfl⟩:=Option.map_eq_some_iff.mp e
  refine⟨p,rfl,.inl ⟨x,e1,y,e2,?_⟩⟩
  rw[ex,ey]
  show OkO (L2.atI ps i) _
  rw[e3];exact rfl
 ·next ps b ex ey=>
  obtain⟨p,e3,rfl⟩:=Option.map_eq_some_iff.mp e
  refine⟨p,rfl,.inr ⟨x,e1,y,e2,?_⟩⟩
  rw[ex,ey]
  show OkO (ps[EU b]?) _
  rw[e3];exact rfl
 ·cases e
end
end Dp
end
section
namespace Dp
open PySem PySem.Spec L2 Pu
noncomputable abbrev Fn:=List PV->Option PR
structure Gc where
 bi:List Str:=[]
 nis:List (Str×Int):=[]
 tups:List (Str×List PV):=[]
 nums:List (Str×List (Str×Int)):=[]
 vals:List (Str×Addr):=[]
 fns:List (Str×Fn):=[]
 tab:A4:=[]
structure Lc where
 sc:Scope
 N:List Str
 top:Bool:=true
 own:List Str:=[]
 frz:List (Nat×List Nat):=[]
 alt:List (Nat×Nat):=[]
 cmp:List ((Nat×Nat)×List Str):=[]
noncomputable def G9 (x:Str):List Str->Option Nat
 |[]=>none
 |y::r=>if x=y then some 0 else (G9 x r).map (·+1)
theorem mI {x:Str}:∀{l:List Str} {i:Nat},G9 x l=some i->l[i]?=some x
 |[],_,h=>by cases h
 |y::r,i,h=>by
  unfold G9 at h
  split at h
  ·next e=>cases h;rw[e];rfl
  ·obtain⟨j,e,rfl⟩:=Option.map_eq_some_iff.mp h
   rw[List.getElem?_cons_succ];exact mI e
noncomputable def IJ (x:Str):Bool:=x == "__debug__" || x == "__classdict__" || x == "__name__"
noncomputable def fM:FE:=fun _=>none
noncomputable def pN:Expr->Bool
 |.Starred _ _=>false
 |_=>true
theorem hJ {e:Expr}(h:pN e=true):NS e:=by
 cases e<;>first|(exact fun _ _=>rfl)|(cases h)
theorem mt {pos:Pos}{env:Env}:∀{es:List Expr},es.all pN=true->(backTo pos (starEach es env)).any (·.1)=false
 |[],_=>rfl
 |e::es,h=>by
  rw[List.all_cons,Bool.and_eq_true] at h
  rw[hJ h.1]
  exact mt (es:=es) h.2
noncomputable def Ra (L:Lc)(x:Str):Bool:=match L.sc.names.lookup x with
 |some .local=>true
 |some .cell=>true
 |some .free=>true
 |_=>false
noncomputable def glob (L:Lc)(x:Str):Bool:=L.sc.names.lookup x==some .globalImplicit&&!IJ x
noncomputable def slot (L:Lc)(x:Str):Option Nat:=if Ra L x&&!IJ x then G9 x L.N else none
noncomputable def gM (L:Lc)(x:Str):Option Nat:=if L.sc.names.lookup x==some .local || L.top&&L.sc.names.lookup x==some .cell then G9 x L.N else none
noncomputable def Pe (x:Str):FE:=if x = "int" then fC (.ty "int") else if x = "bool" then fC (.ty "bool") else if x = "str" then fC (.ty "str") else if x = "list" then fC (.ty "list") else if x = "tuple" then fC (.ty "tuple") else if x = "dict" then fC (.ty "dict") else fM
noncomputable def yP (G:Gc)(L:Lc)(x:Str):FE:=
 match slot L x with
 |some i=>fV i
 |none=>if glob L x then (match G.nis.lookup x with
  |some i=>fC (.int i)
  |none=>match G.tups.lookup x with
   |some ps=>fC (.ktu ps)
   |none=>match G.vals.lookup x with
    |some a=>fC (.fn a)
    |none=>if G.bi.contains x then Pe x else fM) else fM
noncomputable def Ql (f:Expr->FE):List Expr->FA
 |[]=>ag
 |e::es=>ae (f e) (Ql f es)
noncomputable def vA (f:Expr->FE)(es:List Expr):FA:=if es.all pN then Ql f es else fun _=>none
noncomputable def Rg:Operator->PV->PV->Option RV
 |.Add=>dQ
 |.Sub=>kR
 |.Mult=>jg
 |.FloorDiv=>pU
 |.Mod=>ia
 |.Pow=>EX
 |.RShift=>OK
 |.LShift=>MI
 |.BitAnd=>vQ
 |_=>fun _ _=>none
noncomputable def va:CmpOp->PV->PV->Option RV
 |.Lt=>KL
 |.LtE=>HA
 |.Gt=>KN
 |.GtE=>O4
 |.Eq=>sJ
 |.NotEq=>kN
 |.In=>GY
 |.NotIn=>lb
 |.Is=>O3
 |.IsNot=>qm
noncomputable def FR (L:Lc)(p:Pos):Bool:=L.alt.contains (p.line,p.col)
noncomputable def OX (x:Str)(alt:Bool)(n:Nat)(fs:FA):FE:=
 if x = "len" then fB da fs else if x = "abs" then fB zA fs else if x = "all" then fB wX fs else if x = "any" then fB Ck fs
 else if x = "isinstance" then fB gA fs else if x = "sorted" then (if alt then fB iP fs else fB iF fs)
 else if x = "max" then (if n=2 then fB sA fs else fB wr fs) else if x = "min" then (if n=2 then fB vx fs else fB yI fs)
 else if x = "sum" then fB wP fs else if x = "int" then fB oo fs else if x = "tuple" then (if alt then fB vm fs else fB kw fs)
 else if x = "list" then fB iI fs else if x = "range" then fB sK fs else fM
noncomputable def Aj (G:Gc)(L:Lc)(f:Expr->FE)(x:Str)(args:List Expr)(pos:Pos):FE:=
 match slot L x with
 |some i=>if args.isEmpty then fM else vf G.tab i (vA f args)
 |none=>if glob L x then (match G.fns.lookup x with
  |some F=>if args.isEmpty then zW F else aj F (vA f args)
  |none=>if G.bi.contains x&&!args.isEmpty then OX x (FR L pos) args.length (vA f args) else fM) else fM
noncomputable def Qs:Nat->Expr->List Str
 |_+1,.Name x _=>[x]
 |n+1,.Tuple es _ _=>es.flatMap (Qs n)
 |_,_=>[]
noncomputable def Qr (f:Expr->FT):List Expr->Ca
 |[]=>g0
 |e::es=>gC (f e) (Qr f es)
noncomputable def vT:Nat->Lc->Expr->FT
 |_+1,L,.Name x _=>match gM L x with
  |some i=>gN i
  |none=>fun _ _=>none
 |n+1,L,.Tuple es _ _=>if es.all pN then O0 es.length (Qr (vT n L) es) else fun _ _=>none
 |_,_,_=>fun _ _=>none
noncomputable def Hs:TG:=fun _ _ _ _=>False
noncomputable def LD (f:Expr->TG):List Expr->tX
 |[]=>Fy
 |e::es=>vB (f e) (LD f es)
noncomputable def tG (K:PySem.W.Frag):Nat->Lc->Expr->TG
 |_+1,L,.Name x _=>match gM L x with
  |some i=>dm i
  |none=>Hs
 |n+1,L,.Tuple es _ _=>if es.all pN then FP K es.length (LD (tG K n L) es) else Hs
 |_,_,_=>Hs
noncomputable def M4:Nat->Lc->Expr->List Nat
 |_+1,L,.Name x _=>(gM L x).toList
 |n+1,L,.Tuple es _ _=>es.flatMap (M4 n L)
 |_,_,_=>[]
noncomputable def Mg:Expr->Bool
 |.Set _ _ _=>false
 |_=>true
noncomputable def Bf:Expr->Bool
 |.Tuple _ _ _=>true
 |_=>false
noncomputable def tH (L:Lc):Expr->Bool
 |.Name x _=>L.own.contains x
 |_=>false
noncomputable def vI (G:Gc)(L:Lc)(f:Expr->FE)(own:Bool)(tg it:Expr):FI:=
 if own then MR (f it) else match it with
 |.Call (.Name x _) [a] [] p=>
  if x = "range"&&glob L "range"&&G.bi.contains "range" then iN iM (vA f [a])
  else if x = "enumerate"&&glob L "enumerate"&&G.bi.contains "enumerate"&&Bf tg then (if FR L p then zh (vA f [a]) else BA (vA f [a])) else nE (f it)
 |.Call (.Name x _) [a,b] [] _=>if x = "range"&&glob L "range"&&G.bi.contains "range" then iN ye (vA f [a,b]) else nE (f it)
 |_=>nE (f it)
noncomputable def zS (sc o:Scope):Scope:={ sc with names:=sc.names.map fun (n,k)=>if k==.free&&o.kind==.function&&o.names.lookup n==some .cell then (n,.cell) else (n,k) }
noncomputable def vO (f:Expr->FE):Option Expr->FO
 |none=>HN
 |some e=>DT (f e)
noncomputable abbrev RE:=Lc->Expr->FE
noncomputable abbrev RB:=Lc->Expr->FB
noncomputable def O5 (L:Lc)(tg:Expr)(N2:List Str):List (Option Nat):=N2.map fun x=>if (Qs 5 tg).contains x then none else G9 x L.N
noncomputable def Kc (L:Lc)(sc:Scope)(tg:Expr)(N2:List Str):Lc:={ L with sc:=zS sc L.sc,N:=N2,top:=false,own:=L.own.filter fun x=>!(Qs 5 tg).contains x }
noncomputable def Rc (L:Lc)(sc:Scope)(tg it:Expr)(N2:List Str):Bool:=
 jP sc.kind sc.names (fun x=>L.sc.names.lookup x) L.N N2 (O5 L tg N2)&&decide N2.Nodup&&(M4 5 (Kc L sc tg N2) tg).all (fun i=>(O5 L tg N2)[i]?==some none)&&Mg it
noncomputable def Rv (rB:RB)(L:Lc):List Expr->FB
 |[]=>dh
 |[c]=>rB L c
 |_=>fun _=>none
noncomputable def Q4 (G:Gc)(rE:RE)(rB:RB)(L:Lc)(elt tg it:Expr)(ifs:List Expr)(sc:Scope)(p:Pos):FE:=
 match L.cmp.lookup (p.line,p.col) with
 |none=>fM
 |some N2=>if Rc L sc tg it N2 then bL (O5 L tg N2) (vI G L (rE L) (tH L it) tg it) (vT 5 (Kc L sc tg N2) tg) (Rv rB (Kc L sc tg N2) ifs) (rE (Kc L sc tg N2) elt) else fM
noncomputable def jt:Expr->Bool
 |.Slice _ _ none _=>false
 |_=>true
noncomputable def Pd (G:Gc)(rE:RE)(rB:RB)(L:Lc):Expr->FE
 |.Constant (.int i) _ _=>fC (.int i)
 |.Constant (.bool b) _ _=>fC (.bl b)
 |.Constant .none _ _=>fC .non
 |.Constant (.str x) _ _=>fC (.str x)
 |.Name x _=>yP G L x
 |.BinOp a op b _=>aq (Rg op) (rE L a) (rE L b)
 |.UnaryOp .USub a _=>lJ (rE L a)
 |.UnaryOp .Not a _=>vz (rE L a)
 |.Compare a [op] [b] _=>if behindInMarks op b then fM else aq (va op) (rE L a) (rE L b)
 |.Compare a [o1,o2] [b,c] _=>if lastMarks [o1,o2] [b,c] then fM else Gi (va o1) (va o2) (rE L a) (rE L b) (rE L c)
 |.BoolOp _ [a] _=>tW (rE L a)
 |.BoolOp .And (a::b::r) p=>mB (rE L a) (rE L (.BoolOp .And (b::r) p))
 |.BoolOp .Or (a::b::r) p=>Iz (rE L a) (rE L (.BoolOp .Or (b::r) p))
 |.IfExp c a b _=>QF (rB L c) (rE L a) (rE L b)
 |.Tuple es _ _=>uW (vA (rE L) es)
 |.List es _=>jJ (vA (rE L) es)
 |.ListComp elt [⟨tg,it,ifs,0⟩] sc p=>Q4 G rE rB L elt tg it ifs sc p
 |.Subscript a (.Slice none none (some (.UnaryOp .USub (.Constant (.int 1) _ _) _)) _) _=>Js (rE L a)
 |.Subscript a (.Slice lo hi none _) p=>if FR L p then OM (rE L a) (vO (rE L) lo) (vO (rE L) hi) else G5 (rE L a) (vO (rE L) lo) (vO (rE L) hi)
 |.Subscript a b p=>if jt b then (if FR L p then aq xr (rE L a) (rE L b) else aq eg (rE L a) (rE L b)) else fM
 |.Call (.Name x _) args [] p=>Aj G L (rE L) x args p
 |.Call (.Attribute (.Name d _) m ap) [a] [] p=>match G.nums.lookup d with
  |some kvs=>if m = "get"&&glob L d&&ap.endLine==p.line&&pN a then mo kvs (rE L a) else fM
  |none=>fM
 |_=>fM
noncomputable def AB:Expr->Bool
 |.UnaryOp .Not _ _=>false
 |.BoolOp _ _ _=>false
 |.IfExp _ _ _ _=>false
 |.Compare _ _ _ _=>false
 |_=>true
noncomputable def vW (f:Expr->FB)(op:BoolOp):List Expr->FB
 |[]=>fun _=>none
 |[a]=>f a
 |a::r=>match op with
  |.And=>sH (f a) (vW f op r)
  |.Or=>jY (f a) (vW f op r)
noncomputable def Pk (rE:RE)(rB:RB)(L:Lc):Expr->FB
 |.Compare a [op] [b] _=>if behindInMarks op b then fun _=>none else fT (aq (va op) (rE L a) (rE L b))
 |.Compare a [o1,o2] [b,c] _=>if lastMarks [o1,o2] [b,c] then fun _=>none else fT (Gi (va o1) (va o2) (rE L a) (rE L b) (rE L c))
 |.BoolOp op vs _=>vW (rB L) op vs
 |.UnaryOp .Not a _=>gG (rB L a)
 |e=>if AB e then fT (rE L e) else fun _=>none
noncomputable def Fz (G:Gc):Nat->RE×RB
 |0=>(fun _ _=>fM,fun _ _ _=>none)
 |n+1=>(Pd G (Fz G n).1 (Fz G n).2,Pk (Fz G n).1 (Fz G n).2)
noncomputable def GG (L:Lc)(v:Expr)(t:Str)(tp:Pos):Bool:=match v with
 |.ListComp _ _ s p|.SetComp _ _ s p|.DictComp _ _ _ s p=>L.sc.kind==.function&&L.sc.names.lookup t==some .local&&tp.line==p.line&&!(s.names.any fun (n,k)=>n==t&&(k==.local || k==.cell))
 |_=>false
noncomputable def HU:Expr->Bool
 |.ListComp _ _ _ _|.SetComp _ _ _ _|.DictComp _ _ _ _ _=>true
 |_=>false
noncomputable def NU:Expr->Bool
 |.List _ _=>true
 |.Call (.Name x _) _ _ _=>x == "list"
 |_=>false
noncomputable def O1 (L:Lc)(ts vs:List Expr):Option (Option (List Str)):=
 if (!(ts.length==2 || ts.length==3) || vs.length != ts.length || L.sc.kind != .function)=true then some none
 else if (vs.any fun|.Starred ..=>true|_=>false)=true then some none
 else
  let line:=(ts.head?.map (·.pos.line)).getD 0
  let names:=ts.filterMap fun
   |.Name id pos=>if L.sc.names.lookup id==some .local&&pos.line==line then some id else none
   |_=>none
  if (names.length != ts.length || names.eraseDups.length != names.length)=true then some none
  else if vs.all (foldedForSure 8)=true then some none
  else if vs.all (constantsAlone 8)=true then none
  else some (some names)
noncomputable def N8 (L:Lc)(tg v:Expr):Bool:=match tg,v with
 |.Tuple ts _ _,.Tuple vs _ _=>match O1 L ts vs with
  |some none=>true
  |_=>false
 |.Tuple _ _ _,_=>true
 |_,_=>false
noncomputable def frzs:List Nat->FS->FS
 |[],s=>s
 |i::r,s=>frzs r (uL i s)
noncomputable def vL (f:Stmt->FS):List Stmt->FS
 |[]=>bE
 |[s]=>f s
 |s::r=>aC (f s) (vL f r)
noncomputable def H9:Operator->Option (Int->Int->Int)
 |.Add=>some fun a b=>a+b
 |.Sub=>some fun a b=>a - b
 |_=>none
noncomputable def Qj (G:Gc)(rE:RE)(L:Lc)(tg v:Expr):FS:=
 match tg with
 |.Name x p=>match gM L x with
  |some i=>if GG L v x p&&(match v with
   |.ListComp _ [⟨_,it,_,0⟩] _ _=>tH L it
   |_=>true) then gU else if L.own.contains x then iU i (rE L v) else bA i (rE L v)
  |none=>gU
 |.Subscript (.Name j _) ix _=>match slot L j with
  |some i=>if jt ix&&!HU v then xb i (rE L ix) (rE L v) else gU
  |none=>gU
 |.Tuple [.Name x px,.Name y py] k pt=>match v with
  |.Tuple [a,b] _ _=>match O1 L [.Name x px,.Name y py] [a,b],G9 x L.N,G9 y L.N with
   |some (some l),some i,some j=>if l==[x,y]&&pN a&&pN b&&i != j&&L.sc.names.lookup x==some .local&&L.sc.names.lookup y==some .local then
     (if L.own.contains x&&L.own.contains y&&NU a&&NU b then Aq i j (rE L a) (rE L b) else Ga i j (vA (rE L) [a,b])) else gU
   |some none,_,_=>uB (rE L v) (vT 5 L tg)
   |_,_,_=>gU
  |_=>if Bf v then gU else uB (rE L v) (vT 5 L tg)
 |_=>if N8 L tg v then uB (rE L v) (vT 5 L tg) else gU
noncomputable def Pz (G:Gc)(rE:RE)(rB:RB)(rS:Lc->Stmt->FS)(L:Lc):Stmt->FS
 |.Return (some (.Name x p)) _=>match slot L x with
  |some i=>ky i
  |none=>bB (rE L (.Name x p))
 |.Return (some e) _=>bB (rE L e)
 |.If c a b _=>lh (rB L c) (vL (rS L) a) (vL (rS L) b)
 |.For tg it body [] _=>if Mg it then jT (vI G L (rE L) false tg it) (vT 5 L tg) (vL (rS L) body) else gU
 |.While c body [] _=>nO (rB L c) (vL (rS L) body)
 |.Assign [tg] v _=>Qj G rE L tg v
 |.AugAssign (.Name x _) op v _=>match gM L x,H9 op with
  |some i,some g=>Ej g i (rE L v)
  |_,_=>gU
 |.AugAssign (.Subscript (.Name j _) ix _) op v _=>match slot L j,H9 op with
  |some i,some g=>if jt ix then mF g i (rE L ix) (rE L v) else gU
  |_,_=>gU
 |.Expr (.Constant (.str _) _ _) _=>bE
 |.Expr (.Call (.Attribute (.Name o _) m ap) [] [] cp) _=>match slot L o with
  |some i=>if m = "reverse"&&ap.endLine==cp.line then Jz i else gU
  |none=>gU
 |.Expr (.Call (.Attribute (.Name o op) m ap) (a::as) [] cp) _=>match slot L o with
  |some i=>if m = "append"&&ap.endLine==cp.line&&(a::as).all pN&&decide (as.length<20) then t4 i (vA (rE L) (a::as)) else gU
  |none=>gF (rE L (.Call (.Attribute (.Name o op) m ap) (a::as) [] cp))
 |.Expr e _=>if HU e then gU else gF (rE L e)
 |.Pass _=>bE
 |.Break _=>Q5
 |.Continue _=>Qb
 |_=>gU
noncomputable def vS (G:Gc):Nat->Lc->Stmt->FS
 |0=>fun _ _=>gU
 |n+1=>fun L s=>frzs ((L.frz.lookup s.pos.line).getD []) (Pz G (Fz G n).1 (Fz G n).2 (vS G n) L s)
end Dp
end
section
namespace Dp
open PySem PySem.Spec L2 Pu
structure GOk (P:Program)(w:World)(K:PySem.W.Frag)(mg:Str->Option Value)(base:Heap)(k:Nat)(G:Gc):Prop where
 bi:∀x,G.bi.contains x=true->mg x=none
 nis:∀x i,G.nis.lookup x=some i->∃t,mg x=some (.int i t)
 tups:∀x ps,G.tups.lookup x=some ps->∃a,mg x=some (.ref a)/\KTup K a ps
 nums:∀x kvs,G.nums.lookup x=some kvs->∃a,mg x=some (.ref a)/\NumTab w K a kvs
 vals:∀x a,G.vals.lookup x=some a->mg x=some (.ref a)
 fns:∀x F,G.fns.lookup x=some F->∃j ps,j≤k/\Def P w K mg base j x ps (aN K (aW F))
 tab:∃j qs,j≤k/\∀a F,look G.tab a=some F->DefA P w K mg base j a qs (aN K (aW F))
structure Ok (X:Cx)(k:Nat)(G:Gc)(L:Lc):Prop where
 g:GOk X.prog X.w X.K X.mg X.base k G
 r:Room k X.A
 sc:X.env.scope=L.sc
 N:X.N=L.N
 nd:L.N.Nodup
 fk:L.sc.kind=.function
 calm:X.calm=true
 top:L.top=true->∀x,X.fn x=true
 xe:X.xe=fun _ _=>False
theorem iu {X:Cx}{e:Expr}{f:FE}(h:∀ρ,f ρ=none):DE X e f:=fun _ _ _ _ _ _ hh=>by
 obtain⟨F,ρ,r,_,e,_⟩:=hh
 rw[h] at e;cases e
theorem BV {X:Cx}{e:Expr}{f:FB}(h:∀ρ,f ρ=none):DB X e f:=fun _ _ _ _ _ _ hh=>by
 obtain⟨F,ρ,r,_,⟨b,e,_⟩,_⟩:=hh
 rw[h] at e;cases e
theorem IR {X:Cx}{e tg:Expr}{f:FI}(h:∀ρ,f ρ=none):DI X tg e f:=fun _ _ _ _ _ _ hh=>by
 obtain⟨F,ρ,r,_,⟨b,e,_⟩,_⟩:=hh
 rw[h] at e;cases e
theorem QV {X:Cx}{es:List Expr}:DA X es (fun _=>none):=by
 constructor
 ·intro _ _ _ _ _ _ _ hh
  obtain⟨F,ρ,r,_,⟨b,_,e,_⟩,_⟩:=hh
  cases e
 ·intro _ _ _ _ _ _ _ hh
  obtain⟨F,ρ,r,_,⟨b,e,_⟩,_⟩:=hh
  cases e
section
variable {X:Cx}{k:Nat}{G:Gc}{L:Lc}{x:Str}{i:Nat}{pos:Pos}{e:Expr}
theorem eW (h:IJ x=false):(x==("__debug__" : Str))=false/\(x==("__classdict__" : Str))=false/\x≠("__name__" : Str):=by
 unfold IJ at h
 simp only[Bool.or_eq_false_iff] at h
 exact⟨h.1.1,h.1.2,fun z=>by have:=h.2;rw[z] at this;simp at this⟩
theorem wg (o:Ok X k G L)(h:slot L x=some i):X.N[i]?=some x/\G7 X.env.scope x/\IJ x=false:=by
 unfold slot at h
 split at h
 ·next z=>
  rw[Bool.and_eq_true,Bool.not_eq_true'] at z
  refine⟨by rw[o.N];exact mI h,?_,z.2⟩
  have z1:=z.1
  unfold Ra at z1
  unfold G7
  rw[o.sc]
  split at z1<;>first|(next q=>simp[q])|cases z1
 ·cases h
theorem Ok.pv (o:Ok X k G L)(h:slot L x=some i):PE X (.Name x pos) (gz i):=by
 obtain⟨h1,h2,h3⟩:=wg o h
 exact uM h1 h2 (eW h3).1 (eW h3).2.1
theorem gO (o:Ok X k G L)(h:glob L x=true):Gl X x/\IJ x=false:=by
 unfold glob at h
 rw[Bool.and_eq_true,Bool.not_eq_true',beq_iff_eq] at h
 exact⟨by show X.env.scope.names.lookup x=_;rw[o.sc];exact h.1,h.2⟩
theorem kz (o:Ok X k G L)(h:gM L x=some i):X.N[i]?=some x/\L2.KS X.env.scope x/\(X.fn x=true\/X.env.scope.names.lookup x=some .local):=by
 unfold gM at h
 split at h
 ·next z=>
  rw[Bool.or_eq_true,Bool.and_eq_true,beq_iff_eq,beq_iff_eq] at z
  refine⟨by rw[o.N];exact mI h,?_,?_⟩
  ·show X.env.scope.names.lookup x=_\/X.env.scope.names.lookup x=_
   rw[o.sc];exact z.elim .inl fun z=>.inr z.2
  ·rw[o.sc];exact z.elim .inr fun z=>.inl (o.top z.1 x)
 ·cases h
theorem Ok.nd' (o:Ok X k G L):X.N.Nodup:=by rw[o.N];exact o.nd
theorem Ow (hm:X.mg x=none)(hg:Gl X x)(hd:IJ x=false):DE X (.Name x pos) (Pe x):=by
 unfold Pe
 have key:∀n,bootBuiltins x=some (.type n)->DE X (.Name x pos) (fC (.ty n)):=fun n h=>G6 (uv (p:=.ty n) (Os hm h hg (eW hd).2.2 (eW hd).1))
 repeat' split
 ·next z=>exact key _ (by rw[z];exact BY)
 ·next z=>exact key _ (by rw[z];exact Eu)
 ·next z=>exact key _ (by rw[z];exact IL)
 ·next z=>exact key _ (by rw[z];exact pp)
 ·next z=>exact key _ (by rw[z];exact kJ)
 ·next z=>exact key _ (by rw[z];exact Dq)
 ·exact iu fun _=>rfl
theorem FH (o:Ok X k G L):DE X (.Name x pos) (yP G L x):=by
 unfold yP
 split
 ·next i h=>exact Re (o.pv h)
 ·split
  ·next hg=>
   obtain⟨hg,hd⟩:=gO o hg
   split
   ·next i h=>exact G6 (uv (p:=.int i) (He (o.g.nis x i h) hg (eW hd).1))
   ·split
    ·next ps h=>exact LS (o.g.tups x ps h) hg (eW hd).1
    ·split
     ·next a h=>exact Qw (o.g.vals x a h) hg (eW hd).1
     ·split
      ·next h=>exact Ow (o.g.bi x h) hg hd
      ·exact iu fun _=>rfl
  ·exact iu fun _=>rfl
theorem Gy {f:Expr->FE}(h:∀e,DE X e (f e)):∀{es:List Expr},es.all pN=true->DA X es (Ql f es)
 |[],_=>N6
 |e::es,z=>by
  rw[List.all_cons,Bool.and_eq_true] at z
  exact Kl (hJ z.1) (h e) (Gy h z.2)
theorem p9 {f:Expr->FE}(h:∀e,DE X e (f e))(es:List Expr):DA X es (vA f es):=by
 unfold vA
 split
 ·next z=>exact Gy h z
 ·exact QV
theorem MK {a b:Expr}{fa fb:FE}{op:Operator}(ha:DE X a fa)(hb:DE X b fb):DE X (.BinOp a op b pos) (aq (Rg op) fa fb):=by
 cases op<;>first
  |exact Nq ha hb
  |exact LY ha hb
  |exact Ma ha hb
  |exact LN ha hb
  |exact Mn ha hb
  |exact Ng ha hb
  |exact Nh ha hb
  |exact NW ha hb
  |exact HF ha hb
  |(refine iu fun ρ=>?_
    show (fa ρ).bind (fun x=>(fb ρ).bind fun y=>none)=none
    cases fa ρ<;>simp)
theorem kP (hu:X.A.units+64<cLine)(op:CmpOp):CmpR X op (va op):=by
 cases op<;>first
  |exact O9
  |exact PJ
  |exact Q3
  |exact P0
  |exact PP hu
  |exact QA hu
  |exact Pb hu
  |exact FG hu
  |exact Qo
  |exact Cr
theorem NR (o:Ok X k G L)(hx:G.bi.contains x=true)(hgl:glob L x=true){es:List Expr}{fs:FA}{p:Pos}{alt:Bool}{n:Nat}(ha:DA X (e::es) fs)(hs:(e::es).all pN=true):DE X (.Call (.Name x p) (e::es) [] pos) (OX x alt n fs):=by
 obtain⟨hg,hd⟩:=gO o hgl
 have hm:=o.g.bi x hx
 rw[List.all_cons,Bool.and_eq_true] at hs
 have he:=hJ hs.1 es X.env
 have hp:(backTo pos (starEach es X.env)).any (·.1)=false:=mt hs.2
 obtain⟨d1,d2,d3⟩:=eW hd
 have hc:=o.calm
 unfold OX
 by_cases z:x = "len"
 ·rw[if_pos z]
  exact jX Ip D4 (bV rC hg hm (by rw[z];exact Bi) ha.t d3 d1 he hp)
 rw[if_neg z];clear z
 by_cases z:x = "abs"
 ·rw[if_pos z]
  exact jX IE DH (bV BE hg hm (by rw[z];exact HD) ha.t d3 d1 he hp)
 rw[if_neg z];clear z
 by_cases z:x = "all"
 ·rw[if_pos z]
  exact jX Ku Ei (bV (Bc hc) hg hm (by rw[z];exact Iu) ha.t d3 d1 he hp)
 rw[if_neg z];clear z
 by_cases z:x = "any"
 ·rw[if_pos z]
  exact jX K0 C6 (bV (AG hc) hg hm (by rw[z];exact JB) ha.t d3 d1 he hp)
 rw[if_neg z];clear z
 by_cases z:x = "isinstance"
 ·rw[if_pos z]
  exact jX Kn Ky (bV sy hg hm (by rw[z];exact nW) ha.t d3 d1 he hp)
 rw[if_neg z];clear z
 by_cases z:x = "sorted"
 ·rw[if_pos z]
  cases alt with
  |true=>exact LX uF wZ (bV q0 hg hm (by rw[z];exact o5) ha.t d3 d1 he hp)
  |false=>exact LX uw u5 (bV qt hg hm (by rw[z];exact o5) ha.t d3 d1 he hp)
 rw[if_neg z];clear z
 by_cases z:x = "max"
 ·rw[if_pos z]
  by_cases hn:n=2
  ·rw[if_pos hn];exact jX D5 yN (bV (wQ hc) hg hm (by rw[z];exact B3) ha.t d3 d1 he hp)
  ·rw[if_neg hn];subst z;exact HK hm ha hc hg he hp
 rw[if_neg z];clear z
 by_cases z:x = "min"
 ·rw[if_pos z]
  by_cases hn:n=2
  ·rw[if_pos hn];exact jX DP za (bV (xF hc) hg hm (by rw[z];exact Ac) ha.t d3 d1 he hp)
  ·rw[if_neg hn];subst z;exact IA hm ha hc hg he hp
 rw[if_neg z];clear z
 by_cases z:x = "sum"
 ·rw[if_pos z]
  subst z;exact NL hm ha hc hg he hp
 rw[if_neg z];clear z
 by_cases z:x = "int"
 ·rw[if_pos z]
  exact jX Kh CU (eX wF hg hm (by rw[z];exact BY) ha.t d3 d1 he hp)
 rw[if_neg z];clear z
 by_cases z:x = "tuple"
 ·rw[if_pos z]
  cases alt with
  |true=>subst z;exact JQ hm ha hc hg he hp
  |false=>exact jX JF Fg (eX jE hg hm (by rw[z];exact kJ) ha.t d3 d1 he hp)
 rw[if_neg z];clear z
 by_cases z:x = "list"
 ·rw[if_pos z]
  subst z;exact Cc hm ha hc hg he hp
 rw[if_neg z];clear z
 by_cases z:x = "range"
 ·rw[if_pos z]
  exact jX KF Ek (eX s9 hg hm (by rw[z];exact Ak) ha.t d3 d1 he hp)
 rw[if_neg z];clear z
 exact iu fun _=>rfl
theorem KC {c:Prop}[Decidable c]{a b:FE}{ρ:al}(ha:a ρ=none)(hb:b ρ=none):(if c then a else b) ρ=none:=by
 by_cases h:c
 ·rw[if_pos h];exact ha
 ·rw[if_neg h];exact hb
theorem FN (o:Ok X k G L){f:Expr->FE}(h:∀e,DE X e (f e))(args:List Expr){p:Pos}:DE X (.Call (.Name x p) args [] pos) (Aj G L f x args pos):=by
 unfold Aj
 cases args with
 |nil=>
  split
  ·exact iu fun _=>rfl
  ·split
   ·next hg=>
    obtain⟨hg,hd⟩:=gO o hg
    split
    ·next F hF=>
     obtain⟨j,ps,hj,d⟩:=o.g.fns x F hF
     exact Bz d o.r hj hg (eW hd).1
    ·rw[show ([]:List Expr).isEmpty=true from rfl,Bool.not_true,Bool.and_false]
     exact iu fun _=>rfl
   ·exact iu fun _=>rfl
 |cons e es=>
  by_cases hs:(e::es).all pN=true
  ·have ha:=p9 (X:=X) h (e::es)
   have hs':=hs
   rw[List.all_cons,Bool.and_eq_true] at hs'
   have he:=hJ hs'.1 es X.env
   have hp:(backTo pos (starEach es X.env)).any (·.1)=false:=mt hs'.2
   split
   ·next i hi=>
    obtain⟨h1,h2,h3⟩:=wg o hi
    obtain⟨j,qs,hj,ht⟩:=o.g.tab
    exact Fb ht o.r h1 ha h2 hj (eW h3).1 (eW h3).2.1 he hp
   ·split
    ·next hgl=>
     obtain⟨hg,hd⟩:=gO o hgl
     split
     ·next F hF=>
      obtain⟨j,ps,hj,d⟩:=o.g.fns x F hF
      exact C4 d o.r ha hj hg (eW hd).1 he hp
     ·split
      ·next hb=>
       rw[Bool.and_eq_true] at hb
       exact NR o hb.1 hgl ha hs
      ·exact iu fun _=>rfl
    ·exact iu fun _=>rfl
  ·have hn:vA f (e::es)=fun _=>none:=by unfold vA;rw[if_neg hs]
   rw[hn]
   refine iu fun ρ=>?_
   cases slot L x with
   |some i=>
    show pS _ (sl ρ i) none=none
    unfold pS
    split
    ·next h1 h2=>cases h2
    ·rfl
   |none=>
    by_cases hg:glob L x=true
    ·dsimp only
     rw[if_pos hg]
     cases G.fns.lookup x with
     |some F=>rfl
     |none=>
      dsimp only
      by_cases hb:(G.bi.contains x&&!(e::es).isEmpty)=true
      ·rw[if_pos hb]
       unfold OX
       repeat' (first|rfl|refine KC ?_ ?_)
      ·rw[if_neg hb];rfl
    ·dsimp only
     rw[if_neg hg];rfl
end
end Dp
end
section
namespace Dp
open PySem PySem.Spec L2 Pu
section
variable {X:Cx}{k:Nat}{G:Gc}{L:Lc}{x:Str}{i:Nat}{pos:Pos}{e:Expr}
theorem we {tg:Expr}:PG X tg Hs:=fun _ _ _ _ _ _ _ _ _ h=>h.elim
theorem wd {K:PySem.W.Frag}:fH K Hs (qT fun _ _=>none):=fun _ _ _ _ _ _ _ _ _ _ ⟨_,e,_⟩=>by cases e
theorem EH (o:Ok X k G L):PG X (.Name x pos) (match gM L x with|some i=>dm i|none=>Hs):=by
 cases h:gM L x with
 |some i=>
  obtain⟨h1,h2,h3⟩:=kz o h
  exact pJ o.nd' h1 h2 h3
 |none=>exact we
theorem pZ {env:Env}:∀{es:List Expr},es.all pN=true->(assignEach es env).length=es.length/\(assignEach es env).findIdx? (·.1)=none/\∀e r,es=e::r->(assignEach es env).map (·.2)=assign e env::(assignEach r env).map (·.2)
 |[],_=>⟨rfl,rfl,fun _ _ h=>by cases h⟩
 |e::r,h=>by
  rw[List.all_cons,Bool.and_eq_true] at h
  have he:assignEach (e::r) env=(false,assign e env)::assignEach r env:=by
   have:=h.1
   cases e<;>first|rfl|(cases this)
  obtain⟨h1,h2,_⟩:=pZ (env:=env) h.2
  rw[he]
  refine⟨by rw[List.length_cons,List.length_cons,h1],?_,fun _ _ q=>by cases q;rfl⟩
  rw[List.findIdx?_cons,h2];rfl
theorem AS {f:Expr->TG}(h:∀e,PG X e (f e)):∀{es:List Expr},es.all pN=true->OD X es (LD f es)
 |[],_=>Cu
 |e::r,z=>by
  have:=(pZ (env:=X.env) z).2.2 e r rfl
  rw[List.all_cons,Bool.and_eq_true] at z
  exact zF (h e) (AS h z.2) this
theorem vn:∀(n:Nat) {L:Lc} {X:Cx},Ok X k G L->∀e,PG X e (tG X.K n L e)
 |0,_,_,_,e=>by cases e<;>exact we
 |n+1,L,X,o,e=>by
  cases e<;>first|exact we|exact EH o|skip
  rename_i es kk p
  unfold tG
  split
  ·next z=>
   obtain⟨h1,h2,_⟩:=pZ (env:=X.env) z
   exact Lz o.calm (AS (vn n o) z) h1 h2
  ·exact we
theorem zn {K:PySem.W.Frag}{f:Expr->TG}{g:Expr->FT}(h:∀e,fH K (f e) (qT (g e))):∀es:List Expr,jh K (LD f es) (M0 (Qr g es))
 |[]=>MG
 |e::r=>Ke (h e) (zn h r)
theorem wp {K:PySem.W.Frag}:∀(n:Nat) (L:Lc) (e:Expr),fH K (tG K n L e) (qT (vT n L e))
 |0,L,e=>by cases e<;>exact wd
 |n+1,L,e=>by
  cases e<;>first|exact wd|skip
  ·unfold tG vT
   cases gM L _ with
   |some i=>exact Hx
   |none=>exact wd
  ·rename_i es kk p
   unfold tG vT
   split
   ·exact OA (zn (wp n L) es)
   ·exact wd
noncomputable def rj (l:List Nat)(g:TG):Prop:=∀x σ H N,g x σ H N->g x σ H fun σ' H'=>N σ' H'/\σ'.length=σ.length/\∀i,i∉l->σ'[i]?=σ[i]?
noncomputable def Ln (l:List Nat)(g:tX):Prop:=∀x σ H N,g x σ H N->g x σ H fun σ' H'=>N σ' H'/\σ'.length=σ.length/\∀i,i∉l->σ'[i]?=σ[i]?
theorem iG {l:List Nat}:rj l Hs:=fun _ _ _ _ h=>h.elim
noncomputable def El (g:TG):Prop:=∀x σ H N N',(∀σ' H',N σ' H'->N' σ' H')->g x σ H N->g x σ H N'
noncomputable def Mm (g:tX):Prop:=∀x σ H N N',(∀σ' H',N σ' H'->N' σ' H')->g x σ H N->g x σ H N'
theorem mJ {f:Expr->TG}(h:∀e,El (f e)):∀es:List Expr,Mm (LD f es)
 |[],_,_,_,_,_,w,⟨e,q⟩=>⟨e,w _ _ q⟩
 |e::r,_,_,_,_,_,w,⟨v,vs,e1,q⟩=>⟨v,vs,e1,h e _ _ _ _ _ (fun _ _ q=>mJ h r _ _ _ _ _ w q) q⟩
theorem mr {K:PySem.W.Frag}:∀(n:Nat) (L:Lc) (e:Expr),El (tG K n L e)
 |0,L,e=>by cases e<;>exact fun _ _ _ _ _ _ h=>h.elim
 |n+1,L,e=>by
  cases e<;>first|exact (fun _ _ _ _ _ _ h=>h.elim)|skip
  ·unfold tG
   cases gM L _ with
   |some i=>exact fun _ _ _ _ _ w q=>w _ _ q
   |none=>exact fun _ _ _ _ _ _ h=>h.elim
  ·rename_i es kk p
   unfold tG
   split
   ·exact fun _ _ _ _ _ w ⟨a,xs,h1,h2,h3,q⟩=>⟨a,xs,h1,h2,h3,mJ (mr n L) es _ _ _ _ _ w q⟩
   ·exact fun _ _ _ _ _ _ h=>h.elim
theorem wW {l m:List Nat}{g:TG}(hm:El g)(h:rj l g)(s:∀i,i∈l->i∈m):rj m g:=fun x σ H N q=>
 hm _ _ _ _ _ (fun _ _ ⟨a,b,c⟩=>⟨a,b,fun i hi=>c i fun z=>hi (s i z)⟩) (h x σ H N q)
theorem oX {f:Expr->TG}{l:List Nat}(hm:∀e,El (f e)):∀es:List Expr,(∀e∈es,rj l (f e))->Ln l (LD f es)
 |[],_,_,_,_,_,⟨e,q⟩=>⟨e,q,rfl,fun _ _=>rfl⟩
 |e::r,h,_,σ,_,_,⟨v,vs,e1,q⟩=>⟨v,vs,e1,hm e _ _ _ _ _ (fun σ1 H1 ⟨q,l1,k1⟩=>mJ hm r _ _ _ _ _ (fun σ2 H2 ⟨q,l2,k2⟩=>⟨q,l2.trans l1,fun i hi=>(k2 i hi).trans (k1 i hi)⟩)
   (oX hm r (fun z hz=>h z (List.mem_cons_of_mem _ hz)) _ _ _ _ q)) (h e List.mem_cons_self _ _ _ _ q)⟩
theorem sn {K:PySem.W.Frag}:∀(n:Nat) (L:Lc) (e:Expr),rj (M4 n L e) (tG K n L e)
 |0,L,e=>by cases e<;>exact iG
 |n+1,L,e=>by
  cases e<;>first|exact iG|skip
  ·unfold tG M4
   cases gM L _ with
   |some i=>exact fun _ σ _ _ q=>⟨q,List.length_set,fun j hj=>List.getElem?_set_ne fun z=>hj (by rw[z];simp)⟩
   |none=>exact iG
  ·rename_i es kk p
   unfold tG
   split
   ·refine fun _ _ _ _ ⟨a,xs,h1,h2,h3,q⟩=>⟨a,xs,h1,h2,h3,oX (mr n L) es (fun e he=>wW (mr n L e) (sn n L e) fun i hi=>?_) _ _ _ _ q⟩
    unfold M4
    exact List.mem_flatMap.mpr ⟨e,he,hi⟩
   ·exact iG
theorem GH (o:Ok X k G L){f:Expr->FE}(h:∀e,DE X e (f e))(tg it:Expr):DI X tg it (vI G L f false tg it):=by
 unfold vI
 rw[if_neg Bool.false_ne_true]
 split
 ·next y p a p'=>
  split
  ·next z=>
   rw[Bool.and_eq_true,Bool.and_eq_true,decide_eq_true_eq] at z
   obtain⟨⟨rfl,z2⟩,z3⟩:=z
   obtain⟨hg,hd⟩:=gO o z2
   by_cases hs:[a].all pN=true
   ·exact JL (oW hg (o.g.bi _ z3) (p9 h [a]).t (by
     rw[List.all_cons,Bool.and_eq_true] at hs
     exact hJ hs.1 [] X.env))
   ·have:vA f [a]=fun _=>none:=by unfold vA;rw[if_neg hs]
    rw[this];exact IR fun _=>rfl
  ·split
   ·next z=>
    rw[Bool.and_eq_true,Bool.and_eq_true,Bool.and_eq_true,decide_eq_true_eq] at z
    obtain⟨⟨⟨rfl,z2⟩,z3⟩,z4⟩:=z
    obtain⟨hg,hd⟩:=gO o z2
    obtain⟨elts,kk,tp,rfl⟩:∃elts kk tp,tg=.Tuple elts kk tp:=by
     cases tg<;>first|exact⟨_,_,_,rfl⟩|(cases z4)
    by_cases hs:[a].all pN=true
    ·have he:starEach [a] X.env=[(false,eval a X.env)]:=by
      rw[List.all_cons,Bool.and_eq_true] at hs
      exact hJ hs.1 [] X.env
     split
     ·exact Ew (Ah hg (o.g.bi _ z3) (p9 h [a]).f he)
     ·exact Kr (CY hg (o.g.bi _ z3) (p9 h [a]).f he)
    ·have:vA f [a]=fun _=>none:=by unfold vA;rw[if_neg hs]
     rw[this]
     split<;>exact IR fun _=>rfl
   ·exact A2 (h _)
 ·next y p a b p'=>
  split
  ·next z=>
   rw[Bool.and_eq_true,Bool.and_eq_true,decide_eq_true_eq] at z
   obtain⟨⟨rfl,z2⟩,z3⟩:=z
   obtain⟨hg,hd⟩:=gO o z2
   by_cases hs:[a,b].all pN=true
   ·have hs':=hs
    rw[List.all_cons,List.all_cons,Bool.and_eq_true,Bool.and_eq_true] at hs'
    have e1:starEach [b] X.env=[(false,eval b X.env)]:=hJ hs'.2.1 [] X.env
    exact JD (xJ hg (o.g.bi _ z3) (p9 h [a,b]).t (by rw[hJ hs'.1 [b] X.env,e1]) e1)
   ·have:vA f [a,b]=fun _=>none:=by unfold vA;rw[if_neg hs]
    rw[this];exact IR fun _=>rfl
  ·exact A2 (h _)
 ·exact A2 (h _)
structure CpOk (X:Cx)(L:Lc)(elt tg it:Expr)(ifs:List Expr)(sc:Scope)(own:Bool)(f:FE):Prop where
 ex:(∀ρ,f ρ=none)\/∃(N2:List Str) (fm:List (Option Nat)) (h0:TG) (fi:FI) (t:FT) (c:FB) (fe:FE),f=bL fm fi t c fe/\fH X.K h0 (qT t) ∧
  (∀C s H ex,PG (X.blk sc N2 C s H ex) tg h0)/\(∀C s H ex,PIf (X.blk sc N2 C s H ex) ifs (lB X.K (yy c)))/\(∀C s H ex,PE (X.blk sc N2 C s H ex) elt (lE X.K (tF fe)))/\ng fm h0 ∧
  jP sc.kind sc.names X.env.kindOf X.N N2 fm=true/\(∀x,foldedSetIterable it X.env x=pure x)/\(own=true->Rr X tg it fi)/\(own=false->DI X tg it fi)
theorem uq (o:Ok X k G L){sc:Scope}{tg:Expr}{N2:List Str}(hk:sc.kind=.function)(hn:N2.Nodup){C:Addr}{s:Shared}{H:Hp}{ex:List Addr}:Ok (X.blk sc N2 C s H ex) k G (Kc L sc tg N2) where
 g:=o.g
 r:=o.r
 sc:=by
  show relabel sc X.env=zS sc L.sc
  unfold relabel zS
  rw[show X.env.kindOf=fun x=>L.sc.names.lookup x by funext x;show X.env.scope.names.lookup x=_;rw[o.sc],o.sc]
 N:=rfl
 nd:=hn
 fk:=hk
 calm:=o.calm
 top:=fun h=>by cases h
 xe:=rfl
theorem GP (o:Ok X k G L){rE:RE}{rB:RB}(hE:∀{X:Cx} {L:Lc},Ok X k G L->∀e,DE X e (rE L e))(hB:∀{X:Cx} {L:Lc},Ok X k G L->∀e,DB X e (rB L e))(elt tg it:Expr)(ifs:List Expr)(sc:Scope)(p:Pos) :
  CpOk X L elt tg it ifs sc (tH L it) (Q4 G rE rB L elt tg it ifs sc p):=by
 unfold Q4
 split
 ·exact⟨.inl fun _=>rfl⟩
 ·next N2 _=>
  split
  ·next z=>
   unfold Rc at z
   rw[Bool.and_eq_true,Bool.and_eq_true,Bool.and_eq_true,decide_eq_true_eq] at z
   obtain⟨⟨⟨z1,z2⟩,z3⟩,z4⟩:=z
   have hk:sc.kind=.function:=by
    unfold jP at z1
    simp only[Bool.and_eq_true,beq_iff_eq] at z1
    exact z1.1.1.1.1.1
   refine⟨.inr ⟨N2,O5 L tg N2,tG X.K 5 (Kc L sc tg N2) tg,_,_,_,_,rfl,wp 5 _ tg,fun C s H ex=>vn 5 (uq o hk z2) tg,fun C s H ex=>?_,fun C s H ex=>(hE (uq o hk z2) elt).ee,?_,?_,?_,fun ho=>?_,fun ho=>?_⟩⟩
   ·have ob:=uq o (tg:=tg) hk z2 (C:=C) (s:=s) (H:=H) (ex:=ex)
    cases ifs with
    |nil=>exact HJ
    |cons c r=>
     cases r with
     |nil=>exact Ik (hB ob c)
     |cons _ _=>
      intro _ _ _ _ _ _ hh
      obtain⟨F,ρ,r,_,⟨b,e,_⟩,_⟩:=hh
      cases e
   ·intro x σ H N q
    refine mr 5 _ tg _ _ _ _ _ (fun σ' H' ⟨a,b,c⟩=>⟨a,b,fun i j hj=>c i fun hi=>?_⟩) (sn 5 (Kc L sc tg N2) tg x σ H N q)
    have:=List.all_eq_true.mp z3 i hi
    rw[beq_iff_eq,hj] at this
    cases this
   ·rw[show X.env.kindOf=fun x=>L.sc.names.lookup x by funext x;show X.env.scope.names.lookup x=_;rw[o.sc],o.N]
    exact z1
   ·intro x
    cases it<;>first|rfl|(cases z4)
   ·unfold vI
    rw[if_pos ho]
    exact IT (hE o it)
   ·rw[ho]
    exact GH o (hE o) tg it
  ·exact⟨.inl fun _=>rfl⟩
theorem CpOk.de {elt tg it:Expr}{ifs:List Expr}{sc:Scope}{p:Pos}{own:Bool}{f:FE}(o:Ok X k G L)(h:CpOk X L elt tg it ifs sc own f):DE X (.ListComp elt [⟨tg,it,ifs,0⟩] sc p) f:=by
 rcases h.ex with h|⟨N2,fm,h0,fi,t,c,fe,rfl,hg,h1,h2,h3,h4,h5,h6,h7,h8⟩
 ·exact iu h
 ·cases own with
  |true=>exact Ep hg (qp N2 fm (h7 rfl) h1 h2 h3 h4 h5 o.calm h6)
  |false=>exact Kq hg (qp N2 fm (h8 rfl) h1 h2 h3 h4 h5 o.calm h6)
end
end Dp
end
section
namespace Dp
open PySem PySem.Spec L2 Pu
section
variable {X:Cx}{k:Nat}{G:Gc}{L:Lc}{x:Str}{i:Nat}{pos:Pos}{e:Expr}
theorem mW {b:Expr}(h:jt b=true):jj b:=by
 cases b<;>first|(exact fun _ _=>rfl)|skip
 rename_i lo hi st p
 cases st with
 |none=>cases h
 |some s=>exact fun _ _=>rfl
theorem yk {env:Env}(h:AB e=true):∀whole,PySem.isTrue e env whole=(do let v ←whole;standAt e.pos;holding [v] (truthy v)):=by
 cases e<;>first|(exact fun _=>rfl)|(cases h;done)|skip
 rename_i op a p
 cases op<;>first|(exact fun _=>rfl)|(cases h;done)
theorem vY {f:Expr->FE}(h:∀e,DE X e (f e)):∀o,DO X o (vO f o)
 |none=>Py
 |some e=>QY (h e)
theorem Oz {f:Expr->FB}(h:∀e,DB X e (f e))(op:BoolOp):∀(vs:List Expr),vs≠[]->DW X (.BoolOp op vs pos) (vW f op vs)
 |[],z=>(z rfl).elim
 |[a],_=>by cases op;exact K6 (h a);exact NI (h a)
 |a::b::r,_=>by
  have ih:=Oz h op (b::r) (by simp)
  cases op
  ·exact Me (h a) ih
  ·exact Ps (h a) ih
theorem Nf {d:Str}{dp ap cp:Pos}{a:Expr}{m:Str}(hl:(ap.endLine==cp.line)=true)(hs:pN a=true):M1 X (.Name d dp) m ap a cp:=by
 have he:starEach [a] X.env=[(false,eval a X.env)]:=hJ hs [] X.env
 exact⟨rfl,by rw[he];rfl,hl,by rw[he];rfl⟩
theorem HQ (o:Ok X k G L){rE:RE}{rB:RB}(hE:∀{X:Cx} {L:Lc},Ok X k G L->∀e,DE X e (rE L e))(hB:∀{X:Cx} {L:Lc},Ok X k G L->∀e,DB X e (rB L e))(e:Expr):DE X e (Pd G rE rB L e):=by
 have hu:=o.r.units
 unfold Pd
 split
 ·exact M8
 ·exact PU
 ·exact Nv
 ·exact Ox
 ·exact FH o
 ·exact MK (hE o _) (hE o _)
 ·exact OE (hE o _)
 ·exact Nk (hE o _)
 ·split
  ·exact iu fun _=>rfl
  ·next z=>exact MO (kP hu _) (hE o _) (hE o _) (by simpa using z)
 ·split
  ·exact iu fun _=>rfl
  ·next z=>exact Pf (kP hu _) (kP hu _) (hE o _) (hE o _) (hE o _) (by simpa using z)
 ·exact Ny (hE o _)
 ·exact MW (hE o _) (hE o _)
 ·exact Qq (hE o _) (hE o _)
 ·exact Pr (hB o _) (hE o _) (hE o _)
 ·exact N0 (p9 (hE o) _)
 ·exact Mi (p9 (hE o) _)
 ·exact (GP o hE hB _ _ _ _ _ _).de o
 ·exact M6 (hE o _)
 ·split
  ·exact Nz (hE o _) (vY (hE o) _) (vY (hE o) _)
  ·exact Pi (hE o _) (vY (hE o) _) (vY (hE o) _)
 ·split
  ·next z=>
   split
   ·exact N4 (hE o _) (hE o _) (mW z)
   ·exact Qd (hE o _) (hE o _) (mW z)
  ·exact iu fun _=>rfl
 ·exact FN o (hE o) _
 ·split
  ·next kvs hk=>
   split
   ·next z=>
    rw[Bool.and_eq_true,Bool.and_eq_true,Bool.and_eq_true,decide_eq_true_eq] at z
    obtain⟨⟨⟨rfl,z2⟩,z3⟩,z4⟩:=z
    obtain⟨hg,hd⟩:=gO o z2
    exact BQ (o.g.nums _ _ hk) (hE o _) (Nf z3 z4) hg (eW hd).1
   ·exact iu fun _=>rfl
  ·exact iu fun _=>rfl
 ·exact iu fun _=>rfl
theorem HY (o:Ok X k G L){rE:RE}{rB:RB}(hE:∀{X:Cx} {L:Lc},Ok X k G L->∀e,DE X e (rE L e))(hB:∀{X:Cx} {L:Lc},Ok X k G L->∀e,DB X e (rB L e))(e:Expr):DB X e (Pk rE rB L e):=by
 have hu:=o.r.units
 unfold Pk
 split
 ·split
  ·exact BV fun _=>rfl
  ·next z=>exact OW (kP hu _) (hE o _) (hE o _) (by simpa using z)
 ·split
  ·exact BV fun _=>rfl
  ·next z=>exact QU (kP hu _) (kP hu _) (hE o _) (hE o _) (hE o _) (by simpa using z)
 ·next op vs p=>
  cases vs with
  |nil=>exact BV fun _=>rfl
  |cons a r=>exact Rx (Oz (hB o) op (a::r) (by simp))
 ·exact Nn (hB o _)
 ·split
  ·next z=>exact MN (hE o _) (yk z)
  ·exact BV fun _=>rfl
end
theorem lL {k:Nat}{G:Gc}:∀n:Nat,(∀{X:Cx} {L:Lc},Ok X k G L->∀e,DE X e ((Fz G n).1 L e))/\∀{X:Cx} {L:Lc},Ok X k G L->∀e,DB X e ((Fz G n).2 L e)
 |0=>⟨fun _ _=>iu fun _=>rfl,fun _ _=>BV fun _=>rfl⟩
 |n+1=>⟨fun o e=>HQ o (lL n).1 (lL n).2 e,fun o e=>HY o (lL n).1 (lL n).2 e⟩
end Dp
end
section
namespace Dp
open PySem PySem.Spec L2 Pu
section
variable {X:Cx}{k:Nat}{G:Gc}{L:Lc}{x:Str}{i:Nat}{pos:Pos}{e v tg:Expr}
theorem Bg {st:Stmt}{s:FS}(h:∀ρ,s ρ=.bad):DS X st s:=aQ pf fun D ρ q=>by
 unfold lK at q
 rw[h] at q;exact q
theorem Ok.bk (o:Ok X k G L):X.env.blockKind=.function:=by
 unfold Env.blockKind
 rw[o.sc,o.fk];rfl
theorem GR (o:Ok X k G L){t:Str}{p:Pos}{ln:Nat}:swapsWith v (some (.Name t p)) ln X.env=pure (GG L v t p):=by
 have hk:X.env.kindOf t=L.sc.names.lookup t:=by show X.env.scope.names.lookup t=_;rw[o.sc]
 cases v<;>first|rfl|skip
 all_goals
  simp only[swapsWith,GG,o.bk,hk,o.fk]
  rfl
theorem HG {ts:List Expr}{kk:Nat}{p:Pos}{ln:Nat}:swapsWithSole [.Tuple ts kk p] v ln X.env=pure false:=by cases v<;>rfl
theorem HR {a b:Expr}{p:Pos}{ln:Nat}:swapsWithSole [.Subscript a b p] v ln X.env=pure false:=by cases v<;>rfl
theorem Fm {ln:Nat}(h:HU v=false):swapsWith v none ln X.env=pure false:=by
 cases v<;>first|rfl|(cases h)
theorem qX (o:Ok X k G L){ts vs:List Expr}{k1 k2:Nat}{p1 p2:Pos}{r:Option (List Str)}(h:O1 L ts vs=some r):swappedStores [.Tuple ts k1 p1] (.Tuple vs k2 p2) X.env=pure r:=by
 have hk:X.env.kindOf=fun x=>L.sc.names.lookup x:=by funext t;show X.env.scope.names.lookup t=_;rw[o.sc]
 unfold O1 at h
 unfold swappedStores
 dsimp only
 rw[o.bk,hk]
 rw[o.fk] at h
 split at h
 ·next z=>cases h;exact if_pos z
 ·next z=>
  refine (if_neg z).trans ?_
  split at h
  ·next z=>cases h;exact if_pos z
  ·next z=>
   refine (if_neg z).trans ?_
   dsimp only at h
   split at h
   ·next z=>cases h;exact if_pos z
   ·next z=>
    refine (if_neg z).trans ?_
    split at h
    ·next z=>cases h;exact if_pos z
    ·next z=>
     refine (if_neg z).trans ?_
     split at h
     ·cases h
     ·next z=>cases h;exact (if_neg z).trans rfl
theorem wj {ts:List Expr}{k1:Nat}{p1:Pos}(h:Bf v=false):swappedStores [.Tuple ts k1 p1] v X.env=pure none:=by
 cases v<;>first|rfl|(cases h)
theorem CG {a ix:Expr}{p:Pos}(h:jt ix=true):∀v,assign (.Subscript a ix p) X.env v=(do
  let ov ←holding [v] (eval a X.env)
  let iv ←holding [v,ov] (eval ix X.env)
  standAt p
  holding [v,ov,iv] (setItem ov iv v)
  release [v,ov,iv] []):=by
 cases ix<;>first|(exact fun _=>rfl)|skip
 rename_i lo hi st p
 cases st with
 |none=>cases h
 |some s=>exact fun _=>rfl
theorem Cn {ix:Expr}(h:jt ix=true):∀ov iv new,augStore ix ov iv new=(do holding [new,ov,iv] (setItem ov iv new);release [new,ov,iv] [];pure .next):=by
 cases ix<;>first|(exact fun _ _ _=>rfl)|skip
 rename_i lo hi st p
 cases st with
 |none=>cases h
 |some s=>exact fun _ _ _=>rfl
noncomputable abbrev HE (k:Nat)(G:Gc)(rE:RE):Prop:=∀{X:Cx} {L:Lc},Ok X k G L->∀e,DE X e (rE L e)
noncomputable abbrev HB (k:Nat)(G:Gc)(rB:RB):Prop:=∀{X:Cx} {L:Lc},Ok X k G L->∀e,DB X e (rB L e)
noncomputable abbrev HC (k:Nat)(G:Gc)(rE:RE):Prop:=∀{X:Cx} {L:Lc},Ok X k G L->∀elt tg it ifs sc p,CpOk X L elt tg it ifs sc (tH L it) (rE L (.ListComp elt [⟨tg,it,ifs,0⟩] sc p))
theorem P1 (o:Ok X k G L){f:FE}{p:Pos}{own:Bool}(hi:gM L x=some i)(h:DE X v f)(hs:GG L v x p=false):DS X (.Assign [.Name x p] v pos) (if own=true then iU i f else bA i f):=by
 obtain⟨h1,h2,h3⟩:=kz o hi
 have hs:=(GR (v:=v) o (t:=x) (p:=p) (ln:=pos.line)).trans (by rw[hs])
 split
 ·exact IF h o.nd' h1 h2 hs h3
 ·exact Mw (nK o.nd' h1 h2 h.ee hs h3)
theorem QN (o:Ok X k G L){f:FE}{p:Pos}{own:Bool}{elt t it:Expr}{ifs:List Expr}{sc:Scope}{vp:Pos}(hi:gM L x=some i)(hc:CpOk X L elt t it ifs sc false f)(hs:GG L (.ListComp elt [⟨t,it,ifs,0⟩] sc vp) x p=true) :
  DS X (.Assign [.Name x p] (.ListComp elt [⟨t,it,ifs,0⟩] sc vp) pos) (if own=true then iU i f else bA i f):=by
 obtain⟨h1,h2,h3⟩:=kz o hi
 have hsw:=(GR (v:=.ListComp elt [⟨t,it,ifs,0⟩] sc vp) o (t:=x) (p:=p) (ln:=pos.line)).trans (by rw[hs])
 have hx:X.env.kindOf x=some .local:=by
  unfold GG at hs
  simp only[Bool.and_eq_true,beq_iff_eq] at hs
  show X.env.scope.names.lookup x=_
  rw[o.sc];exact hs.1.1.2
 rcases hc.ex with h|⟨N2,fm,h0,fi,t',c,fe,rfl,hg,g1,g2,g3,g4,g5,g6,_,g8⟩
 ·split
  ·exact Bg fun ρ=>by unfold iU;rw[h]
  ·exact Bg fun ρ=>by unfold bA;rw[h];rfl
 ·have:=rg (spos:=pos) N2 fm o.nd' (g8 rfl) g1 g2 g3 g4 h1 hx g5 o.calm hsw g6
  split
  ·exact Il hg this
  ·exact Ly hg this
theorem Cd (o:Ok X k G L){f:FE}{ts:List Expr}{kk:Nat}{p:Pos}(h:DE X v f)(hw:swappedStores [.Tuple ts kk p] v X.env=pure none):DS X (.Assign [.Tuple ts kk p] v pos) (uB f (vT 5 L (.Tuple ts kk p))):=
 MF (wp 5 L (.Tuple ts kk p)) (zm h.ee (vn 5 o (.Tuple ts kk p)) HG hw)
theorem JU (o:Ok X k G L){rE:RE}(hE:HE k G rE)(hC:HC k G rE)(tg v:Expr):DS X (.Assign [tg] v pos) (Qj G rE L tg v):=by
 unfold Qj
 split
 ·next y p=>
  split
  ·next i hi=>
   by_cases hs:GG L v y p=true
   ·rw[hs,Bool.true_and]
    split
    ·next elt t it ifs sc vp=>
     split
     ·exact eI
     ·next z=>
      refine QN o hi ?_ hs
      have:=hC o elt t it ifs sc vp
      rw[show tH L it=false by simpa using z] at this
      exact this
    ·exact eI
   ·have hs:GG L v y p=false:=by simpa using hs
    rw[hs,Bool.false_and,if_neg Bool.false_ne_true]
    exact P1 o hi (hE o v) hs
  ·exact eI
 ·next j jp ix p=>
  split
  ·next i hi=>
   split
   ·next z=>
    rw[Bool.and_eq_true] at z
    exact L4 (zm (hE o v).ee (IN (o.pv hi) (hE o ix).ee tQ (CG z.1)) HR rfl)
   ·exact eI
  ·exact eI
 ·next x px y py kk pt=>
  split
  ·next a b k2 p2=>
   split
   ·next l i j hw hi hj=>
    split
    ·next z=>
     simp only[Bool.and_eq_true,beq_iff_eq,bne_iff_ne,ne_eq] at z
     obtain⟨⟨⟨⟨⟨z0,z1⟩,z2⟩,z3⟩,z4⟩,z5⟩:=z
     have e1:X.N[i]?=some x:=by rw[o.N];exact mI hi
     have e2:X.N[j]?=some y:=by rw[o.N];exact mI hj
     have hx:X.env.scope.names.lookup x=some .local:=by rw[o.sc];exact z4
     have hy:X.env.scope.names.lookup y=some .local:=by rw[o.sc];exact z5
     rw[z0] at hw
     split
     ·exact IP (B4 o.calm o.nd' e1 e2 z3 hx hy (dM (hJ z1) (hE o a).nn (dM (hJ z2) (hE o b).nn iw)) (qX o hw))
     ·exact OC (B4 o.calm o.nd' e1 e2 z3 hx hy (p9 (hE o) [a,b]).f (qX o hw))
    ·exact eI
   ·next hw=>exact Cd o (hE o _) (qX o hw)
   ·exact eI
  ·split
   ·exact eI
   ·next z=>exact Cd o (hE o v) (wj (by simpa using z))
 ·split
  ·next z=>
   unfold N8 at z
   split at z
   ·next ts _ _ vs _ _=>
    split at z
    ·next hw=>exact Cd o (hE o _) (qX o hw)
    ·cases z
   ·next ts _ _ hv=>exact Cd o (hE o v) (wj (by cases v<;>first|rfl|exact (hv _ _ _ rfl).elim))
   ·cases z
  ·exact eI
theorem ni {f:Stmt->FS}(h:∀s,DS X s (f s)):∀ss:List Stmt,B8 X ss (vL f ss)
 |[]=>Oc
 |[s]=>Mf (h s)
 |s::t::r=>IG (h s) (ni h (t::r))
theorem yD {op:Operator}{g:Int->Int->Int}(h:H9 op=some g):LI X op (LE g):=by
 cases op<;>first|(cases h;done)|skip
 ·cases h;exact Kf
 ·cases h;exact Hr
theorem Bj {cp:Pos}{env:Env}:∀{es:List Expr},es.all pN=true->((backTo cp (starEach es env)).all fun x=>!x.fst)=true
 |[],_=>rfl
 |e::es,h=>by
  rw[List.all_cons,Bool.and_eq_true] at h
  rw[hJ h.1]
  exact Bj (es:=es) h.2
theorem Lu (o:Ok X k G L){rE:RE}{rB:RB}{rS:Lc->Stmt->FS}(hE:HE k G rE)(hB:HB k G rB)(hC:HC k G rE)(hS:∀s,DS X s (rS L s))(st:Stmt):DS X st (Pz G rE rB rS L st):=by
 have hp:PassesOwn (model X.prog X.w) X.A X.env X.xe:=by rw[o.xe];exact PassesOwn.never
 unfold Pz
 split
 ·split
  ·next i hi=>exact KY (o.pv hi)
  ·exact GV (hE o _)
 ·exact GV (hE o _)
 ·exact QQ (hB o _) (ni hS _) (ni hS _)
 ·split
  ·next tg it body _ z=>exact MY (wp 5 L tg) (y3 hp o.calm (GH o (hE o) tg it) (vn 5 o tg) (ni hS body) (by
    intro y
    cases it<;>first|rfl|(cases z)))
  ·exact eI
 ·exact CT (A5 hp (hB o _) (ni hS _))
 ·exact JU o hE hC _ _
 ·split
  ·next i g hi hg=>
   obtain⟨h1,h2,h3⟩:=kz o hi
   exact ND (K7 o.nd' h1 h2 (hE o _).ee (yD hg) h3)
  ·exact eI
 ·split
  ·next i g hi hg=>
   split
   ·next z=>exact EO (o.pv hi) (hE o _) (hE o _) (yD hg) (Cn z)
   ·exact eI
  ·exact eI
 ·exact LW
 ·split
  ·next i hi=>
   split
   ·next z=>
    rw[Bool.and_eq_true,decide_eq_true_eq] at z
    obtain⟨rfl,z⟩:=z
    exact Mu (j2 (Id PySem.F.plainAttrs_list PySem.F.slot_list_reverse PySem.F.type_list_reverse uj (o.pv hi) rfl z))
   ·exact eI
  ·exact eI
 ·split
  ·next i hi=>
   split
   ·next z=>
    rw[Bool.and_eq_true,Bool.and_eq_true,Bool.and_eq_true,decide_eq_true_eq,decide_eq_true_eq] at z
    obtain⟨⟨⟨rfl,z1⟩,z2⟩,z3⟩:=z
    have z2':=z2
    rw[List.all_cons,Bool.and_eq_true] at z2'
    refine Ov (j2 (GA PySem.F.plainAttrs_list PySem.F.slot_list_append PySem.F.type_list_append o4 (o.pv hi) (p9 (hE o) _).f rfl ?_ z1 (hJ z2'.1 _ _) (mt z2'.2)))
    rw[Bj z2]
    show (true&&true&&decide _)=true
    rw[Bool.and_self,Bool.true_and,decide_eq_true_eq]
    simp only[List.length_cons,List.length_nil,List.isEmpty_nil,if_true]
    omega
   ·exact eI
  ·exact yJ (j2 (hE o _).ee)
 ·split
  ·exact eI
  ·next z=>exact yJ (j2 (hE o _).ee (Fm (by simpa using z)))
 ·exact HH
 ·exact P9
 ·exact O8
 ·exact eI
theorem vy {st:Stmt}:∀{l:List Nat} {s:FS},DS X st s->DS X st (frzs l s)
 |[],_,h=>h
 |i::r,_,h=>vy (l:=r) (Nc i h)
end
theorem N5 {k:Nat}{G:Gc}:∀n,HC k G (Fz G n).1
 |0=>fun _ _ _ _ _ _ _=>⟨.inl fun _=>rfl⟩
 |n+1=>fun o _ _ _ _ _ _=>GP o (lL n).1 (lL n).2 _ _ _ _ _ _
theorem Bm {k:Nat}{G:Gc}:∀(n:Nat) {X:Cx} {L:Lc},Ok X k G L->∀s,DS X s (vS G n L s)
 |0,_,_,_,_=>eI
 |n+1,_,_,o,s=>vy (Lu o (lL n).1 (lL n).2 (N5 n) (Bm n o) s)
theorem bI {P:Program}{w:World}{K:PySem.W.Frag}{mg:Str->Option Value}{base:Heap}{x:Str}{st:Stmt}{N ps:List Str}{k a n:Nat}{s:FS}{G:Gc}(L:Lc)(F:FunD K mg x st ps)(S:FnScope N ps (aa st))(g:GOk P w K mg base k G)
  (hs:vL (vS G 60 L) (ak st)=s) (h1:L.sc=aa st:=by rfl) (h2:L.N=N:=by rfl) (h3:L.top=true:=by rfl) (ha:ps.length=a:=by rfl) (hn:N.length=n:=by rfl):Def P w K mg base (k+1) x ps (aN K (aW (run a n s))):=
 Mz F S (fun f cdv A outer s' H E hr=>hs▸ni (Bm 60 ⟨g,hr,h1.symm,h2.symm,by rw[h2];exact S.nd,by rw[h1];exact S.kind,rfl,fun _ _=>rfl,rfl⟩) (ak st)) ha hn
end Dp
end
section
namespace Dp
open PySem PySem.Spec L2 Pu
section
variable {P:Program}{w:World}{K:PySem.W.Frag}{mg:Str->Option Value}{base:Heap}{k:Nat}
noncomputable def pE {α:Type}(p:α->Prop):List α->Prop
 |[]=>True
 |a::r=>p a/\pE p r
theorem d7 {β:Type}{p:Str×β->Prop}:∀{l:List (Str×β)},pE p l->∀x b,l.lookup x=some b->p (x,b)
 |[],_,_,_,h=>by cases h
 |(y,c)::r,⟨h1,h2⟩,x,b,h=>by
  rw[List.lookup_cons] at h
  cases hx:x==y with
  |true=>
   rw[hx] at h
   have:x=y:=by simpa using hx
   subst this
   cases h;exact h1
  |false=>rw[hx] at h;exact d7 h2 x b h
theorem sS {p:Str->Prop}:∀{l:List Str},pE p l->∀x,l.contains x=true->p x
 |[],_,_,h=>by cases h
 |y::r,⟨h1,h2⟩,x,h=>by
  rw[List.contains_cons,Bool.or_eq_true] at h
  rcases h with h|h
  ·have:x=y:=by simpa using h
   subst this;exact h1
  ·exact sS h2 x h
structure GB (w:World)(K:PySem.W.Frag)(mg:Str->Option Value)(bi:List Str)(nis:List (Str×Int))(tups:List (Str×List PV))(nums:List (Str×List (Str×Int))):Prop where
 bi:pE (fun x=>mg x=none) bi
 nis:pE (fun p=>∃t,mg p.1=some (.int p.2 t)) nis
 tups:pE (fun p=>∃a,mg p.1=some (.ref a)/\KTup K a p.2) tups
 nums:pE (fun p=>∃a,mg p.1=some (.ref a)/\NumTab w K a p.2) nums
theorem jV {G:Gc}(b:GB w K mg G.bi G.nis G.tups G.nums)(h:pE (fun p=>∃j ps,j≤k/\Def P w K mg base j p.1 ps (aN K (aW p.2))) G.fns)(v:pE (fun p=>mg p.1=some (.ref p.2)) G.vals)
  (t:∃j qs,j≤k/\∀a F,look G.tab a=some F->DefA P w K mg base j a qs (aN K (aW F))):GOk P w K mg base k G:=
 ⟨sS b.bi,d7 b.nis,d7 b.tups,d7 b.nums,d7 v,d7 h,t⟩
theorem bD:∃j qs,j≤k/\∀a F,look [] a=some F->DefA P w K mg base j a qs (aN K (aW F)):=⟨0,[],Nat.zero_le _,fun _ _ h=>by cases h⟩
theorem LU {x:Str}{st:Stmt}{N ps:List Str}{s:FS}{G:Gc}(L:Lc)(S:FnScope N ps (aa st))(g:GOk P w K mg base k G)(hs:vL (vS G 60 L) (ak st)=s){f:Addr}{cdv:Value}{A:Around}{outer:List Env}{s':Shared}{H:Hp}{E:XK}
  (hr:Room k (A.deeper (PyProof.Rows.envOfC x (aa st) s'.heap.objs.size f cdv))) (h1:L.sc=aa st:=by rfl) (h2:L.N=N:=by rfl) (h3:L.top=true:=by rfl):B8 (kE rZ P w K mg base N x (aa st) f cdv A outer s' H E).nox (ak st) s:=
 hs▸ni (Bm 60 ⟨g,hr,h1.symm,h2.symm,by rw[h2];exact S.nd,by rw[h1];exact S.kind,rfl,fun _ _=>rfl,rfl⟩) (ak st)
end
end Dp
end
section
namespace Dp
open PySem L2 Fo Pu
noncomputable def df (ρ:al):Out:=(aC (bA 3 (aq ia (aq dQ (aq dQ (aq jg (fV 3) (aq dQ (aq ia (fV 3) (fC (.int 65521))) (fC (.int 40487)))) (aq jg (fC (.int 7)) (fV 5))) (fC (.int 5))) (fC (.int 1999999973))))
  (aC (t4 2 (ae (aq eg (jJ (ae (fV 3) (ae (aq ia (fV 4) (fC (.int 1000000))) ag))) (fB oo (ae (aq KN (fV 4) (fC (.int 0))) ag))) ag))
  (bA 4 (aq pU (fV 4) (fC (.int 1000000)))))) ρ
noncomputable def bU (ρ:al):Out:=(aC (iU 2 (jJ ag))
  (aC (bA 3 (aq ia (aq jg (aq dQ (aq ia (fV 0) (fC (.int 1999999973))) (fC (.int 31))) (fC (.int 765432101))) (fC (.int 1999999973))))
  (aC (bA 4 (fC (.int 0)))
  (aC (lh (jY (fT (aq KL (fV 0) (fC (.int 0)))) (fT (aq O4 (fV 0) (aq EX (fC (.int 10)) (fC (.int 18)))))) (bA 4 (fB zA (ae (fV 0) ag))) bE)
  (aC (jT (iN iM (ae (fV 1) ag)) (gN 5) df)
  (ky 2)))))) ρ
noncomputable def aZ:List PV->Option PR:=run 2 6 bU
theorem eQ {a0 a1:PV}:aZ [a0,a1]=(bU [some (.val a0),some (.val a1),none,none,none,none]).res:=Eq.trans rfl rfl
noncomputable def eJ (ρ:al):Out:=(bA 2 (aq ia (aq dQ (aq jg (fV 2) (fC (.int 69621))) (fV 3)) (fC (.int 2147483647)))) ρ
noncomputable def fA (ρ:al):Out:=(aC (lh (fT (aq KL (fV 1) (fB da (ae (fV 0) ag)))) (bB (aq eg (fV 0) (fV 1))) bE)
  (aC (bA 2 (aq ia (aq jg (fC (.int 48271)) (aq dQ (aq dQ (aq jg (fV 1) (fV 1)) (aq jg (fC (.int 7)) (fV 1))) (fC (.int 11)))) (fC (.int 2147483647))))
  (aC (jT (nE (G5 (fV 0) HN (DT (fC (.int 3))))) (gN 3) eJ)
  (ky 2)))) ρ
noncomputable def bK:List PV->Option PR:=run 2 4 fA
theorem jz {a0 a1:PV}:bK [a0,a1]=(fA [some (.val a0),some (.val a1),none,none]).res:=Eq.trans rfl rfl
noncomputable def iy (ρ:al):Out:=(bB (mB (fB gA (ae (fV 0) (ae (fC (.ty "int")) ag))) (tW (vz (fB gA (ae (fV 0) (ae (fC (.ty "bool")) ag))))))) ρ
noncomputable def bo:List PV->Option PR:=run 1 1 iy
theorem qL {a0:PV}:bo [a0]=(iy [some (.val a0)]).res:=Eq.trans rfl rfl
noncomputable def jf (ρ:al):Out:=(bB (mB (aj bo (ae (fV 0) ag)) (tW (Gi HA HA (fC (.int 1)) (fV 0) (fC (.int 40)))))) ρ
noncomputable def eB:List PV->Option PR:=run 1 1 jf
theorem rF {a0:PV}:eB [a0]=(jf [some (.val a0)]).res:=Eq.trans rfl rfl
noncomputable def d5 (ρ:al):Out:=(bA 2 (aq eg (fV 0) (fV 2))) ρ
noncomputable def eL (ρ:al):Out:=(aC (bA 2 (fV 1))
  (aC (jT (iN iM (ae (fB da (ae (fV 0) ag)) ag)) (gN 3) d5)
  (bB (aq sJ (aq eg (fV 0) (fV 2)) (fV 2))))) ρ
noncomputable def aU:List PV->Option PR:=run 2 4 eL
theorem ki {a0 a1:PV}:aU [a0,a1]=(eL [some (.val a0),some (.val a1),none,none]).res:=Eq.trans rfl rfl
noncomputable def im (ρ:al):Out:=(bB (mB (aj bo (ae (fV 1) ag)) (tW (Gi HA KL (fC (.int 0)) (fV 1) (fV 0))))) ρ
noncomputable def bh:List PV->Option PR:=run 2 2 im
theorem qG {a0 a1:PV}:bh [a0,a1]=(im [some (.val a0),some (.val a1)]).res:=Eq.trans rfl rfl
noncomputable def gi (ρ:al):Option RV:=(aj bh (ae (fV 1) (ae (fV 0) ag))) ρ
noncomputable def gf (ρ:al):Option RV:=(aj aU (ae (fV 1) (ae (fV 0) ag))) ρ
noncomputable def gR (ρ:al):Out:=(aC (lh (jY (gG (fT (fB gA (ae (fV 0) (ae (fC (.ty "tuple")) ag))))) (gG (fT (aj eB (ae (fB da (ae (fV 0) ag)) ag))))) (bB (fC (.bl false))) bE)
  (aC (bA 1 (fB da (ae (fV 0) ag)))
  (aC (lh (gG (fT (fB wX (ae (bL [none,some 1] (nE (fV 0)) (gN 0) dh gi) ag)))) (bB (fC (.bl false))) bE)
  (bB (fB wX (ae (bL [none,some 0] (iN iM (ae (fV 1) ag)) (gN 0) dh gf) ag)))))) ρ
noncomputable def aK:List PV->Option PR:=run 1 2 gR
theorem oq {a0:PV}:aK [a0]=(gR [some (.val a0),none]).res:=Eq.trans rfl rfl
noncomputable def eV (ρ:al):Out:=(lh (gG (fT (aj aK (ae (fV 0) ag)))) gU bE) ρ
noncomputable def au:List PV->Option PR:=run 1 1 eV
theorem li {a0:PV}:au [a0]=(eV [some (.val a0)]).res:=Eq.trans rfl rfl
noncomputable def fG (ρ:al):Out:=(lh (gG (fT (aj bh (ae (fV 0) (ae (fV 1) ag))))) gU bE) ρ
noncomputable def be:List PV->Option PR:=run 2 2 fG
theorem mj {a0 a1:PV}:be [a0,a1]=(fG [some (.val a0),some (.val a1)]).res:=Eq.trans rfl rfl
noncomputable def bq (ρ:al):Out:=(aC (gF (aj au (ae (fV 0) ag)))
  (gF (aj be (ae (fB da (ae (fV 0) ag)) (ae (fV 1) ag))))) ρ
noncomputable def af:List PV->Option PR:=run 2 2 bq
theorem gl {a0 a1:PV}:af [a0,a1]=(bq [some (.val a0),some (.val a1)]).res:=Eq.trans rfl rfl
noncomputable def fF (ρ:al):Option Bool:=(fT (aq kN (aq eg (fV 0) (aq eg (fV 2) (lJ (fC (.int 1))))) (aq eg (fV 2) (lJ (fC (.int 1)))))) ρ
noncomputable def gH (ρ:al):Out:=(t4 2 (ae (aq eg (fV 0) (aq eg (fV 2) (lJ (fC (.int 1))))) ag)) ρ
noncomputable def jU (ρ:al):Out:=(aC (iU 2 (jJ (ae (fV 1) ag)))
  (aC (nO fF gH)
  (ky 2))) ρ
noncomputable def ax:List PV->Option PR:=run 2 3 jU
theorem uK {a0 a1:PV}:ax [a0,a1]=(jU [some (.val a0),some (.val a1),none]).res:=Eq.trans rfl rfl
noncomputable def iz (ρ:al):Out:=(aC (gF (aj af (ae (fV 0) (ae (fV 1) ag))))
  (bB (aq kR (fB da (ae (aj ax (ae (fV 0) (ae (fV 1) ag))) ag)) (fC (.int 1))))) ρ
noncomputable def aH:List PV->Option PR:=run 2 2 iz
theorem qB {a0 a1:PV}:aH [a0,a1]=(iz [some (.val a0),some (.val a1)]).res:=Eq.trans rfl rfl
noncomputable def eS (ρ:al):Option RV:=(uW (ae (aq ia (aq eg (fV 1) (fV 0)) (fC (.int 9973))) (ae (fV 0) ag))) ρ
noncomputable def eP (ρ:al):Option RV:=(aq eg (fV 0) (fC (.int 1))) ρ
noncomputable def bY (ρ:al):Out:=(aC (bA 7 (aq eg (jJ (ae (aq ia (aq pU (aq eg (fV 0) (aq eg (fV 3) (fV 6))) (fC (.int 9973))) (fV 6)) (ae (aq kR (fV 6) (fC (.int 1))) (ae (fC (.int 0)) (ae (fV 6) (ae (aq kR (fV 6) (aq vQ (fV 6) (aq kR (fC (.int 0)) (fV 6)))) ag)))))) (fV 5)))
  (lh (jY (fT (aq kN (fV 5) (fC (.int 0)))) (fT (aq KN (aq ia (aq pU (aq eg (fV 0) (aq eg (fV 3) (fV 6))) (fC (.int 1000))) (fC (.int 4))) (fC (.int 0))))) (xb 4 (aq eg (fV 3) (fV 6)) (aq eg (fV 3) (fV 7))) bE)) ρ
noncomputable def fI (ρ:al):Out:=(aC (bA 2 (fB iF (ae (bL [none,some 0] (iN iM (ae (fV 1) ag)) (gN 0) dh eS) ag)))
  (aC (bA 3 (bL [none] (nE (fV 2)) (gN 0) dh eP))
  (aC (iU 4 (fB iI (ae (fB sK (ae (fV 1) ag)) ag)))
  (aC (bA 5 (aq ia (aq eg (fV 0) (fV 1)) (fC (.int 5))))
  (aC (jT (iN ye (ae (fC (.int 1)) (ae (fV 1) ag))) (gN 6) bY)
  (bB (fB kw (ae (fV 4) ag)))))))) ρ
noncomputable def bf:List PV->Option PR:=run 2 8 fI
theorem mi {a0 a1:PV}:bf [a0,a1]=(fI [some (.val a0),some (.val a1),none,none,none,none,none,none]).res:=Eq.trans rfl rfl
noncomputable def fu (ρ:al):Out:=(bB (aq eg (jJ (ae (aq dQ (fC (.int 1)) (aq ia (aq pU (fV 0) (fC (.int 8))) (fC (.int 12)))) (ae (aq dQ (fC (.int 1)) (aq ia (aq pU (fV 0) (fC (.int 8))) (fC (.int 40)))) ag))) (fB oo (ae (aq sJ (aq ia (fV 0) (fC (.int 8))) (fC (.int 3))) ag)))) ρ
noncomputable def cS:List PV->Option PR:=run 1 1 fu
theorem jD {a0:PV}:cS [a0]=(fu [some (.val a0)]).res:=Eq.trans rfl rfl
noncomputable def i9 (ρ:al):Out:=(aC (gF (aj au (ae (fV 0) ag)))
  (bB (aj cY (ae (fV 0) ag)))) ρ
noncomputable def aw:List PV->Option PR:=run 1 1 i9
theorem tJ {a0:PV}:aw [a0]=(i9 [some (.val a0)]).res:=Eq.trans rfl rfl
noncomputable def dL (ρ:al):Option Bool:=(sH (fT (aq kN (aq eg (fV 0) (aq eg (fV 2) (lJ (fC (.int 1))))) (aq eg (fV 2) (lJ (fC (.int 1)))))) (fT (aq HA (fB da (ae (fV 2) ag)) (fB da (ae (fV 0) ag))))) ρ
noncomputable def fj (ρ:al):Out:=(t4 2 (ae (aq eg (fV 0) (aq eg (fV 2) (lJ (fC (.int 1))))) ag)) ρ
noncomputable def ip (ρ:al):Out:=(aC (iU 2 (jJ (ae (fV 1) ag)))
  (aC (nO dL fj)
  (ky 2))) ρ
noncomputable def dr:List PV->Option PR:=run 2 3 ip
theorem qQ {a0 a1:PV}:dr [a0,a1]=(ip [some (.val a0),some (.val a1),none]).res:=Eq.trans rfl rfl
noncomputable def iR (ρ:al):Out:=(aC (gF (aj af (ae (fV 0) (ae (fV 1) ag))))
  (bB (aq eg (aj ax (ae (fV 0) (ae (fV 1) ag))) (lJ (fC (.int 1)))))) ρ
noncomputable def bG:List PV->Option PR:=run 2 2 iR
theorem sZ {a0 a1:PV}:bG [a0,a1]=(iR [some (.val a0),some (.val a1)]).res:=Eq.trans rfl rfl
noncomputable def jR (ρ:al):Out:=(aC (gF (aj af (ae (fV 0) (ae (fV 1) ag))))
  (bB (fB kw (ae (aj ax (ae (fV 0) (ae (fV 1) ag))) ag)))) ρ
noncomputable def dw:List PV->Option PR:=run 2 2 jR
theorem ub {a0 a1:PV}:dw [a0,a1]=(jR [some (.val a0),some (.val a1)]).res:=Eq.trans rfl rfl
noncomputable def gd (ρ:al):Option RV:=(aq kR (fB da (ae (aj ax (ae (fV 1) (ae (fV 0) ag))) ag)) (fC (.int 1))) ρ
noncomputable def gW (ρ:al):Out:=(aC (gF (aj au (ae (fV 0) ag)))
  (bB (fB wr (ae (bL [none,some 0] (iN iM (ae (fB da (ae (fV 0) ag)) ag)) (gN 0) dh gd) ag)))) ρ
noncomputable def aD:List PV->Option PR:=run 1 1 gW
theorem oh {a0:PV}:aD [a0]=(gW [some (.val a0)]).res:=Eq.trans rfl rfl
noncomputable def gY (ρ:al):Out:=(mF (fun a b=>a+b) 1 (fV 3) (fC (.int 1))) ρ
noncomputable def gX (ρ:al):Out:=(jT (nE (aj ax (ae (fV 0) (ae (fV 2) ag)))) (gN 3) gY) ρ
noncomputable def iq (ρ:al):Out:=(aC (iU 1 (aq jg (jJ (ae (fC (.int 0)) ag)) (fB da (ae (fV 0) ag))))
  (aC (jT (iN iM (ae (fB da (ae (fV 0) ag)) ag)) (gN 2) gX)
  (ky 1))) ρ
noncomputable def dn:List PV->Option PR:=run 1 4 iq
theorem qy {a0:PV}:dn [a0]=(iq [some (.val a0),none,none,none]).res:=Eq.trans rfl rfl
noncomputable def iQ (ρ:al):Out:=(aC (gF (aj af (ae (fV 0) (ae (fV 1) ag))))
  (bB (aq eg (aj dn (ae (fV 0) ag)) (fV 1)))) ρ
noncomputable def aF:List PV->Option PR:=run 2 2 iQ
theorem rW {a0 a1:PV}:aF [a0,a1]=(iQ [some (.val a0),some (.val a1)]).res:=Eq.trans rfl rfl
noncomputable def gZ (ρ:al):Option Bool:=(fT (aq sJ (aq eg (aj ax (ae (fV 1) (ae (fV 0) ag))) (lJ (fC (.int 1)))) (fV 2))) ρ
noncomputable def gS (ρ:al):Option RV:=(fV 0) ρ
noncomputable def io (ρ:al):Out:=(aC (bA 2 (aq eg (aj ax (ae (fV 0) (ae (fV 1) ag))) (lJ (fC (.int 1)))))
  (bB (fB kw (ae (bL [none,some 0,some 2] (iN iM (ae (fB da (ae (fV 0) ag)) ag)) (gN 0) gZ gS) ag)))) ρ
noncomputable def di:List PV->Option PR:=run 2 3 io
theorem p0 {a0 a1:PV}:di [a0,a1]=(io [some (.val a0),some (.val a1),none]).res:=Eq.trans rfl rfl
noncomputable def jI (ρ:al):Out:=(aC (gF (aj af (ae (fV 0) (ae (fV 1) ag))))
  (bB (aj di (ae (fV 0) (ae (fV 1) ag))))) ρ
noncomputable def bX:List PV->Option PR:=run 2 2 jI
theorem u3 {a0 a1:PV}:bX [a0,a1]=(jI [some (.val a0),some (.val a1)]).res:=Eq.trans rfl rfl
end Dp
end
section
namespace Dp
open PySem L2 Fo Pu
noncomputable def oR (o:Out)(u:FS):Out:=match o with
 |.nx ρ'=>u ρ'
 |o=>o
noncomputable def GQ (o:Option RV)(ρ:al):Out:=match o with
 |some (.fz _)=>.nx ρ
 |_=>.bad
noncomputable def ID (o:Option RV):Out:=match o with
 |some (.fz p)=>.rt p
 |some (.nw ps)=>.rn ps
 |_=>.bad
noncomputable def zl (o:Option Sl):Out:=match o with
 |some (.val p)=>.rt p
 |some (.own ps)=>.rn ps
 |_=>.bad
noncomputable def QL (o:Option Bool)(s u:FS)(ρ:al):Out:=match o with
 |some true=>s ρ
 |some false=>u ρ
 |none=>.bad
noncomputable def LZ (o:Option PV)(i:Nat)(ρ:al):Out:=match o with
 |some p=>.nx (ρ.set i (some (.val p)))
 |none=>.bad
noncomputable def Jc (o:Option RV)(i:Nat)(ρ:al):Out:=match o with
 |some (.fz p)=>.nx (ρ.set i (some (.val p)))
 |some (.nw ps)=>.nx (ρ.set i (some (.own ps)))
 |_=>.bad
noncomputable def QK (o:Option al):Out:=match o with
 |some ρ'=>.nx ρ'
 |none=>.bad
noncomputable def Md (o:Option PV)(t:FT)(ρ:al):Out:=match o with
 |some p=>QK (t p ρ)
 |none=>.bad
noncomputable def OR (o:Option (List PV))(i j:Nat)(ρ:al):Out:=match o with
 |some [p,q]=>.nx ((ρ.set i (some (.val p))).set j (some (.val q)))
 |_=>.bad
noncomputable def MS (g:Int->Int->Int)(a:Option Sl)(b:Option PV)(i:Nat)(ρ:al):Out:=match a,b with
 |some (.val (.int a)),some (.int b)=>.nx (ρ.set i (some (.val (.int (g a b)))))
 |_,_=>.bad
noncomputable def ON (a:Option Sl)(b:Option (List PV))(i:Nat)(ρ:al):Out:=match a,b with
 |some (.own ps),some [q]=>if ps.length≤100000 then .nx (ρ.set i (some (.own (ps++[q])))) else .bad
 |_,_=>.bad
noncomputable def yE (o:Option Nat)(v:PV)(ps:List PV)(j:Nat)(ρ:al):Out:=match o with
 |some n=>.nx (ρ.set j (some (.own (ps.set n v))))
 |none=>.bad
noncomputable def MQ (v:Option PV)(a:Option Sl)(k:Option PV)(j:Nat)(ρ:al):Out:=match v,a,k with
 |some v,some (.own ps),some (.int k)=>yE (qw ps.length k) v ps j ρ
 |_,_,_=>.bad
noncomputable def Nt (o:Option (List PV))(t:FT)(s:FS)(ρ:al):Out:=match o with
 |some its=>bZ t s its ρ
 |none=>.bad
noncomputable def LR (o:Option PV):Option RV:=match o with
 |some (.int i)=>some (.fz (.int (-i)))
 |_=>none
noncomputable def Rk (o:Option PV):Option (Option Int):=match o with
 |some (.int i)=>some (some i)
 |_=>none
noncomputable def BL (F:List PV->Option PR)(o:Option (List PV))(rs:List RV):Option RV:=match o with
 |some ps=>(F ps).map oa
 |none=>(F (rs.map RV.pv)).bind fun r=>if JG r=true then some (oa r) else none
noncomputable def Hb (ps:List PV):Option (List PV):=match ps with
 |[p]=>(gD p).map (gh 0)
 |_=>none
noncomputable def m8 (o:Out)(t:FT)(s:FS)(ps:List PV):Out:=match o with
 |.nx ρ2=>bZ t s ps ρ2
 |.ct ρ2=>bZ t s ps ρ2
 |.bk ρ2=>.nx ρ2
 |o=>o
noncomputable def Ae (o:Option al)(t:FT)(s:FS)(ps:List PV):Out:=match o with
 |some ρ=>m8 (s ρ) t s ps
 |none=>.bad
theorem fZ {t:FT}{s:FS}{p:PV}{ps:List PV}{ρ:al}:bZ t s (p::ps) ρ=Ae (t p ρ) t s ps:=Eq.trans rfl rfl
noncomputable def LF (o:Out)(c:FB)(s:FS)(n:Nat):Out:=match o with
 |.nx ρ2=>dP c s n ρ2
 |.ct ρ2=>dP c s n ρ2
 |.bk ρ2=>.nx ρ2
 |o=>o
noncomputable def Qt (o:Option Bool)(c:FB)(s:FS)(n:Nat)(ρ:al):Out:=match o with
 |some true=>LF (s ρ) c s n
 |some false=>.nx ρ
 |none=>.bad
theorem mn {c:FB}{s:FS}{n:Nat}{ρ:al}:dP c s (n+1) ρ=Qt (c ρ) c s n ρ:=Eq.trans rfl rfl
noncomputable def qU (g:Int->Int->Int)(o:Option PV)(ps:List PV)(k b:Int)(j:Nat)(ρ:al):Out:=match o with
 |some (.int a)=>.nx (ρ.set j (some (.own (ps.set k.toNat (.int (g a b))))))
 |_=>.bad
noncomputable def Bk (g:Int->Int->Int)(a:Option Sl)(k b:Option PV)(j:Nat)(ρ:al):Out:=match a,k,b with
 |some (.own ps),some (.int k),some (.int b)=>if 0≤k then qU g ps[k.toNat]? ps k b j ρ else .bad
 |_,_,_=>.bad
theorem Lg {s:Option Sl}{i:Nat}{ρ:al}:frz (i+1) (s::ρ)=s::frz i ρ:=by
 unfold frz
 rw[List.getElem?_cons_succ]
 split<;>simp_all
theorem rM {r:RV}{rs:List RV}:(r::rs).mapM RV.fr=r.fr.bind fun p=>(rs.mapM RV.fr).bind fun ps=>some (p::ps):=by
 rw[List.mapM_cons];rfl
theorem Ms {s u:FS}{ρ:al}:aC s u ρ=oR (s ρ) u:=Eq.trans rfl rfl
theorem Ds {t:FT}{s:FS}{ps:List PV}{ρ:al}:m8 (.nx ρ) t s ps=bZ t s ps ρ:=Eq.trans rfl rfl
theorem Di {t:FT}{s:FS}{ps:List PV}{ρ:al}:m8 (.ct ρ) t s ps=bZ t s ps ρ:=Eq.trans rfl rfl
theorem Co {t:FT}{s:FS}{ps:List PV}{ρ:al}:m8 (.bk ρ) t s ps=.nx ρ:=Eq.trans rfl rfl
theorem Du {t:FT}{s:FS}{ps:List PV}{p:PV}:m8 (.rt p) t s ps=.rt p:=Eq.trans rfl rfl
theorem Ge {t:FT}{s:FS}{ps:List PV}{p:List PV}:m8 (.rn p) t s ps=.rn p:=Eq.trans rfl rfl
theorem Cp {t:FT}{s:FS}{ps:List PV}{ρ:al}:Ae (some ρ) t s ps=m8 (s ρ) t s ps:=Eq.trans rfl rfl
theorem ET {t:FT}{s:FS}{ρ:al}:bZ t s [] ρ=.nx ρ:=Eq.trans rfl rfl
theorem Dx {c:FB}{s:FS}{n:Nat}{ρ:al}:LF (.nx ρ) c s n=dP c s n ρ:=Eq.trans rfl rfl
theorem C9 {c:FB}{s:FS}{n:Nat}{ρ:al}:LF (.ct ρ) c s n=dP c s n ρ:=Eq.trans rfl rfl
theorem DF {c:FB}{s:FS}{n:Nat}{ρ:al}:LF (.bk ρ) c s n=.nx ρ:=Eq.trans rfl rfl
theorem Da {c:FB}{s:FS}{n:Nat}{p:PV}:LF (.rt p) c s n=.rt p:=Eq.trans rfl rfl
theorem Ib {c:FB}{s:FS}{n:Nat}{ρ:al}:Qt (some true) c s n ρ=LF (s ρ) c s n:=Eq.trans rfl rfl
theorem Lw {c:FB}{s:FS}{n:Nat}{ρ:al}:Qt (some false) c s n ρ=.nx ρ:=Eq.trans rfl rfl
theorem xa {u:FS}{ρ:al}:oR (.nx ρ) u=u ρ:=Eq.trans rfl rfl
theorem xw {u:FS}{p:PV}:oR (.rt p) u=.rt p:=Eq.trans rfl rfl
theorem xA {u:FS}{p:List PV}:oR (.rn p) u=.rn p:=Eq.trans rfl rfl
theorem xu {u:FS}{ρ:al}:oR (.bk ρ) u=.bk ρ:=Eq.trans rfl rfl
theorem wY {u:FS}{ρ:al}:oR (.ct ρ) u=.ct ρ:=Eq.trans rfl rfl
theorem Lx {ρ:al}:bE ρ=.nx ρ:=Eq.trans rfl rfl
theorem PC {ρ:al}:Q5 ρ=.bk ρ:=Eq.trans rfl rfl
theorem Pq {ρ:al}:Qb ρ=.ct ρ:=Eq.trans rfl rfl
theorem J3 {f:FE}{ρ:al}:gF f ρ=GQ (f ρ) ρ:=Eq.trans rfl rfl
theorem wU {p:PV}{ρ:al}:GQ (some (.fz p)) ρ=.nx ρ:=Eq.trans rfl rfl
theorem OQ {f:FE}{ρ:al}:bB f ρ=ID (f ρ):=Eq.trans rfl rfl
theorem BF {p:PV}:ID (some (.fz p))=.rt p:=Eq.trans rfl rfl
theorem As {p:List PV}:ID (some (.nw p))=.rn p:=Eq.trans rfl rfl
theorem KG {i:Nat}{ρ:al}:ky i ρ=zl (sl ρ i):=Eq.trans rfl rfl
theorem A8 {p:PV}:zl (some (.val p))=.rt p:=Eq.trans rfl rfl
theorem y6 {p:List PV}:zl (some (.own p))=.rn p:=Eq.trans rfl rfl
theorem Q0 {g:FB}{s u:FS}{ρ:al}:lh g s u ρ=QL (g ρ) s u ρ:=Eq.trans rfl rfl
theorem HP {s u:FS}{ρ:al}:QL (some true) s u ρ=s ρ:=Eq.trans rfl rfl
theorem Ig {s u:FS}{ρ:al}:QL (some false) s u ρ=u ρ:=Eq.trans rfl rfl
theorem M5 {i:Nat}{f:FE}{ρ:al}:bA i f ρ=LZ ((f ρ).bind RV.fr) i ρ:=Eq.trans rfl rfl
theorem Cs {i:Nat}{p:PV}{ρ:al}:LZ (some p) i ρ=.nx (ρ.set i (some (.val p))):=Eq.trans rfl rfl
theorem N3 {i:Nat}{f:FE}{ρ:al}:iU i f ρ=Jc (f ρ) i ρ:=Eq.trans rfl rfl
theorem Af {i:Nat}{p:PV}{ρ:al}:Jc (some (.fz p)) i ρ=.nx (ρ.set i (some (.val p))):=Eq.trans rfl rfl
theorem yM {i:Nat}{p:List PV}{ρ:al}:Jc (some (.nw p)) i ρ=.nx (ρ.set i (some (.own p))):=Eq.trans rfl rfl
theorem Ou {f:FE}{t:FT}{ρ:al}:uB f t ρ=Md ((f ρ).bind RV.fr) t ρ:=Eq.trans rfl rfl
theorem EN {p:PV}{t:FT}{ρ:al}:Md (some p) t ρ=QK (t p ρ):=Eq.trans rfl rfl
theorem Jr {ρ:al}:QK (some ρ)=.nx ρ:=Eq.trans rfl rfl
theorem NG {i j:Nat}{fs:FA}{ρ:al}:Ga i j fs ρ=OR ((fs ρ).bind fun rs=>rs.mapM RV.fr) i j ρ:=Eq.trans rfl rfl
theorem DJ {i j:Nat}{p q:PV}{ρ:al}:OR (some [p,q]) i j ρ=.nx ((ρ.set i (some (.val p))).set j (some (.val q))):=Eq.trans rfl rfl
theorem L0 {i:Nat}{s:FS}{ρ:al}:uL i s ρ=s (frz i ρ):=Eq.trans rfl rfl
theorem EY {ps:List PV}{ρ:al}:frz 0 (some (.own ps)::ρ)=some (.val (.lst ps))::ρ:=Eq.trans rfl rfl
theorem CK {p:PV}{ρ:al}:frz 0 (some (.val p)::ρ)=some (.val p)::ρ:=Eq.trans rfl rfl
theorem ME {g:Int->Int->Int}{i:Nat}{f:FE}{ρ:al}:Ej g i f ρ=MS g (sl ρ i) ((f ρ).bind RV.fr) i ρ:=Eq.trans rfl rfl
theorem Eg {g:Int->Int->Int}{i:Nat}{a b:Int}{ρ:al}:MS g (some (.val (.int a))) (some (.int b)) i ρ=.nx (ρ.set i (some (.val (.int (g a b))))):=Eq.trans rfl rfl
theorem Oj {i:Nat}{fs:FA}{ρ:al}:t4 i fs ρ=ON (sl ρ i) ((fs ρ).bind fun rs=>rs.mapM RV.fr) i ρ:=Eq.trans rfl rfl
theorem D6 {i:Nat}{ps:List PV}{q:PV}{ρ:al}:ON (some (.own ps)) (some [q]) i ρ=if ps.length≤100000 then .nx (ρ.set i (some (.own (ps++[q])))) else .bad:=Eq.trans rfl rfl
theorem Nu {j:Nat}{fi f:FE}{ρ:al}:xb j fi f ρ=MQ ((f ρ).bind RV.fr) (sl ρ j) ((fi ρ).bind RV.fr) j ρ:=Eq.trans rfl rfl
theorem Cm {v:PV}{ps:List PV}{k:Int}{j:Nat}{ρ:al}:MQ (some v) (some (.own ps)) (some (.int k)) j ρ=yE (qw ps.length k) v ps j ρ:=Eq.trans rfl rfl
theorem DV {v:PV}{ps:List PV}{n j:Nat}{ρ:al}:yE (some n) v ps j ρ=.nx (ρ.set j (some (.own (ps.set n v)))):=Eq.trans rfl rfl
theorem Op {it:FI}{t:FT}{s:FS}{ρ:al}:jT it t s ρ=Nt (it ρ) t s ρ:=Eq.trans rfl rfl
theorem DZ {its:List PV}{t:FT}{s:FS}{ρ:al}:Nt (some its) t s ρ=bZ t s its ρ:=Eq.trans rfl rfl
theorem Fu {c:FB}{s:FS}{ρ:al}:nO c s ρ=dP c s 10000 ρ:=Eq.trans rfl rfl
theorem zi {ρ:al}:Out.res (.nx ρ)=some (.v .non):=Eq.trans rfl rfl
theorem yR {p:PV}:Out.res (.rt p)=some (.v p):=Eq.trans rfl rfl
theorem AZ {p:List PV}:Out.res (.rn p)=some (.n p):=Eq.trans rfl rfl
theorem RK {i:Nat}{ρ:al}:fV i ρ=(sl ρ i).map CJ:=Eq.trans rfl rfl
theorem OO {s:Option Sl}{ρ:al}:sl (s::ρ) 0=s:=Eq.trans rfl rfl
theorem Og {s:Option Sl}{i:Nat}{ρ:al}:sl (s::ρ) (i+1)=sl ρ i:=Eq.trans rfl rfl
theorem y0 {p:PV}:CJ (.val p)=.fz p:=Eq.trans rfl rfl
theorem zZ {p:List PV}:CJ (.own p)=.ln (.lst p):=Eq.trans rfl rfl
theorem RJ {p:PV}{ρ:al}:fC p ρ=some (.fz p):=Eq.trans rfl rfl
theorem Ph {g:PV->PV->Option RV}{a b:FE}{ρ:al}:aq g a b ρ=(a ρ).bind fun x=>(b ρ).bind fun y=>g x.pv y.pv:=Eq.trans rfl rfl
theorem Ef {p:PV}:RV.pv (.fz p)=p:=Eq.trans rfl rfl
theorem Et {p:List PV}:RV.pv (.nw p)=.lst p:=Eq.trans rfl rfl
theorem Cj {p:PV}:RV.pv (.ln p)=p:=Eq.trans rfl rfl
theorem De {p:PV}:RV.fr (.fz p)=some p:=Eq.trans rfl rfl
theorem Es {p:List PV}:RV.fr (.nw p)=some (.lst p):=Eq.trans rfl rfl
theorem D3 {p:PV}:RV.fr (.ln p)=none:=Eq.trans rfl rfl
theorem RC {f:FE}{ρ:al}:fT f ρ=xY (f ρ):=Eq.trans rfl rfl
theorem OI {b:Bool}:xY (some (.fz (.bl b)))=some b:=Eq.trans rfl rfl
theorem Ks {g:FB}{ρ:al}:gG g ρ=(g ρ).map fun b=>!b:=Eq.trans rfl rfl
theorem II {g k:FB}{ρ:al}:sH g k ρ=(g ρ).bind fun b=>if b=true then k ρ else some false:=Eq.trans rfl rfl
theorem NV {g k:FB}{ρ:al}:jY g k ρ=(g ρ).bind fun b=>if b=true then some true else k ρ:=Eq.trans rfl rfl
theorem NO {f:FE}{ρ:al}:tW f ρ=(f ρ).bind fun r=>r.fr.map .fz:=Eq.trans rfl rfl
theorem Kz {f g:FE}{ρ:al}:mB f g ρ=(xY (f ρ)).bind fun b=>if b=true then tW g ρ else some (.fz (.bl false)):=Eq.trans rfl rfl
theorem L3 {f g:FE}{ρ:al}:Iz f g ρ=(xY (f ρ)).bind fun b=>if b=true then some (.fz (.bl true)) else tW g ρ:=Eq.trans rfl rfl
theorem Jy {f:FE}{ρ:al}:vz f ρ=(xY (f ρ)).map fun b=>.fz (.bl (!b)):=Eq.trans rfl rfl
theorem Nw {f:FE}{ρ:al}:lJ f ρ=(f ρ).bind fun r=>LR r.fr:=Eq.trans rfl rfl
theorem DD {i:Int}:LR (some (.int i))=some (.fz (.int (-i))):=Eq.trans rfl rfl
theorem MJ {g:FB}{f k:FE}{ρ:al}:QF g f k ρ=(g ρ).bind fun b=>if b=true then tW f ρ else tW k ρ:=Eq.trans rfl rfl
theorem Q6 {g g':PV->PV->Option RV}{a b c:FE}{ρ:al}:Gi g g' a b c ρ=(a ρ).bind fun x=>(b ρ).bind fun y=>(xY (g x.pv y.pv)).bind fun k=>if k=true then (c ρ).bind fun z=>g' y.pv z.pv else some (.fz (.bl false)):=Eq.trans rfl rfl
theorem MA {ρ:al}:ag ρ=some []:=Eq.trans rfl rfl
theorem HW {f:FE}{fs:FA}{ρ:al}:ae f fs ρ=(f ρ).bind fun r=>(fs ρ).bind fun rs=>some (r::rs):=Eq.trans rfl rfl
theorem uz  : ([]:List RV).mapM RV.fr=some []:=Eq.trans rfl rfl
theorem Ot {fs:FA}{ρ:al}:uW fs ρ=(fs ρ).bind fun rs=>(rs.mapM RV.fr).bind fun ps=>if ps.length≤100000 then some (.fz (.tup ps)) else none:=Eq.trans rfl rfl
theorem OB {fs:FA}{ρ:al}:jJ fs ρ=(fs ρ).bind fun rs=>(rs.mapM RV.fr).bind fun ps=>if ps.length≤100000 then some (.nw ps) else none:=Eq.trans rfl rfl
theorem FW {i j:Int}:dQ (.int i) (.int j)=some (.fz (.int (i+j))):=Eq.trans rfl rfl
theorem CD {ps qs:List PV}:dQ (.lst ps) (.lst qs)=if ps.length+qs.length≤100000 then some (.nw (ps++qs)) else none:=Eq.trans rfl rfl
theorem Ci {ps qs:List PV}:dQ (.tup ps) (.tup qs)=if ps.length+qs.length≤100000 then some (.fz (.tup (ps++qs))) else none:=Eq.trans rfl rfl
theorem EW {i j:Int}:kR (.int i) (.int j)=some (.fz (.int (i - j))):=Eq.trans rfl rfl
theorem EB {i j:Int}:jg (.int i) (.int j)=if (i.natAbs<2 ^ 64)\/(j.natAbs<2 ^ 64) then some (.fz (.int (i * j))) else none:=Eq.trans rfl rfl
theorem FX {ps:List PV}{j:Int}:jg (.lst ps) (.int j)=if j≤1000/\-1000≤j/\ps.length≤100 then some (.nw (List.replicate j.toNat ps).flatten) else none:=Eq.trans rfl rfl
theorem EE {ps:List PV}{j:Int}:jg (.tup ps) (.int j)=if ps.isEmpty=false/\1≤j/\j≤1000/\ps.length≤1000 then some (.fz (.tup (List.replicate j.toNat ps).flatten)) else none:=Eq.trans rfl rfl
theorem CA {i j:Int}:pU (.int i) (.int j)=if 0<j/\j<1073741824 then some (.fz (.int (i / j))) else none:=Eq.trans rfl rfl
theorem DK {i j:Int}:ia (.int i) (.int j)=if 0<j then some (.fz (.int (i % j))) else none:=Eq.trans rfl rfl
theorem Fw {i j:Int}:EX (.int i) (.int j)=if 0≤j/\j≤1000000/\i.natAbs<2 ^ 64 then some (.fz (.int (i ^ j.toNat))) else none:=Eq.trans rfl rfl
theorem zX {i j:Int}:vQ (.int i) (.int j)=some (.fz (.int (Builtin.bitAnd i j))):=Eq.trans rfl rfl
theorem Lh {i j:Int}:KL (.int i) (.int j)=some (.fz (.bl (decide (i<j)))):=Eq.trans rfl rfl
theorem JT {i j:Int}:HA (.int i) (.int j)=some (.fz (.bl (decide (i≤j)))):=Eq.trans rfl rfl
theorem HL {i j:Int}:KN (.int i) (.int j)=some (.fz (.bl (decide (j<i)))):=Eq.trans rfl rfl
theorem HX {i j:Int}:O4 (.int i) (.int j)=some (.fz (.bl (decide (j≤i)))):=Eq.trans rfl rfl
theorem vc {x y:PV}:sJ x y=if ay x&&ay y&&decide (kl x≤50) then some (.fz (.bl (g9 x y))) else none:=Eq.trans rfl rfl
theorem um {x y:PV}:kN x y=if ay x&&ay y&&decide (kl x≤50) then some (.fz (.bl (!g9 x y))) else none:=Eq.trans rfl rfl
theorem Ld {x:PV}{ps:List PV}:GY x (.lst ps)=if ay x&&az ps&&decide (bP ps≤50) then some (.fz (.bl (pin x ps))) else none:=Eq.trans rfl rfl
theorem IK {x:PV}{ps:List PV}:GY x (.tup ps)=if ay x&&az ps&&decide (bP ps≤50) then some (.fz (.bl (pin x ps))) else none:=Eq.trans rfl rfl
theorem Dz {x:PV}{ps:List PV}:lb x (.lst ps)=if ay x&&az ps&&decide (bP ps≤50) then some (.fz (.bl (!pin x ps))) else none:=Eq.trans rfl rfl
theorem Fe {x:PV}{ps:List PV}:lb x (.tup ps)=if ay x&&az ps&&decide (bP ps≤50) then some (.fz (.bl (!pin x ps))) else none:=Eq.trans rfl rfl
theorem JA {x:PV}:O3 x .non=some (.fz (.bl (hU x))):=Eq.trans rfl rfl
theorem wB {x:PV}:qm x .non=some (.fz (.bl (!hU x))):=Eq.trans rfl rfl
theorem Hu {ps:List PV}{i:Int}:eg (.tup ps) (.int i)=(L2.atI ps i).map .fz:=Eq.trans rfl rfl
theorem HV {ps:List PV}{i:Int}:eg (.lst ps) (.int i)=(L2.atI ps i).map .fz:=Eq.trans rfl rfl
theorem Iq {ps:List PV}{i:Int}:eg (.src ps) (.int i)=(L2.atI ps i).map .fz:=Eq.trans rfl rfl
theorem Px {f:FE}{l h:FO}{ρ:al}:G5 f l h ρ=(f ρ).bind fun r=>(l ρ).bind fun lo=>(h ρ).bind fun hi=>B6 r.pv lo hi:=Eq.trans rfl rfl
theorem Qc {ρ:al}:HN ρ=some none:=Eq.trans rfl rfl
theorem Qh {f:FE}{ρ:al}:DT f ρ=(f ρ).bind fun r=>Rk r.fr:=Eq.trans rfl rfl
theorem JS {i:Int}:Rk (some (.int i))=some (some i):=Eq.trans rfl rfl
theorem J7 {ps:List PV}{l h:Option Int}:B6 (.lst ps) l h=some (.nw (cut ps l h)):=Eq.trans rfl rfl
theorem KP {ps:List PV}{l h:Option Int}:B6 (.src ps) l h=some (.nw (cut ps l h)):=Eq.trans rfl rfl
theorem JO {ps:List PV}{l h:Option Int}:B6 (.tup ps) l h=if HT.sIx ps.length 0 l=0/\HT.sIx ps.length ps.length h=ps.length then none else some (.fz (.tup (cut ps l h))):=Eq.trans rfl rfl
theorem RP {g:List PV->Option RV}{fs:FA}{ρ:al}:fB g fs ρ=(fs ρ).bind fun rs=>g (rs.map RV.pv):=Eq.trans rfl rfl
theorem D0 {ps:List PV}:da [.lst ps]=some (.fz (.int ps.length)):=Eq.trans rfl rfl
theorem Fs {ps:List PV}:da [.tup ps]=some (.fz (.int ps.length)):=Eq.trans rfl rfl
theorem EZ {ps:List PV}:da [.src ps]=some (.fz (.int ps.length)):=Eq.trans rfl rfl
theorem Dg {i:Int}:zA [.int i]=some (.fz (.int (if i<0 then -i else i))):=Eq.trans rfl rfl
theorem Ea {i j:Int}:sA [.int i,.int j]=some (.fz (.int (if j > i then j else i))):=Eq.trans rfl rfl
theorem CS {i j:Int}:vx [.int i,.int j]=some (.fz (.int (if j<i then j else i))):=Eq.trans rfl rfl
theorem FC {i:Int}:oo [.int i]=some (.fz (.int i)):=Eq.trans rfl rfl
theorem Cy {b:Bool}:oo [.bl b]=some (.fz (.int (if b then 1 else 0))):=Eq.trans rfl rfl
theorem Er {ps:List PV}:wX [.lst ps]=(Gx ps).map fun bs=>.fz (.bl (bs.all id)):=Eq.trans rfl rfl
theorem D2 {ps:List PV}:Ck [.lst ps]=(Gx ps).map fun bs=>.fz (.bl (bs.any id)):=Eq.trans rfl rfl
theorem Ff {ps:List PV}:kw [.lst ps]=some (.fz (.tup ps)):=Eq.trans rfl rfl
theorem Gd {ps:List PV}:kw [.tup ps]=some (.fz (.tup ps)):=Eq.trans rfl rfl
theorem zG {lo j:Int}:iI [.rng lo j]=if lo=0/\0≤j/\j≤1000000 then some (.nw (nQ 0 j.toNat)) else none:=Eq.trans rfl rfl
theorem Bw {ps:List PV}:iI [.lst ps]=some (.nw ps):=Eq.trans rfl rfl
theorem B2 {ps:List PV}:iI [.tup ps]=some (.nw ps):=Eq.trans rfl rfl
theorem C8 {j:Int}:sK [.int j]=if -(2 ^ 62)≤j/\j<2 ^ 62 then some (.fz (.rng 0 j)) else none:=Eq.trans rfl rfl
theorem t0 {ps:List PV}:iF [.lst ps]=(gt ps).bind fun ks=>if ps.length<64 then some (.nw ((jy ks).map fun i=>ps.getD i .non)) else none:=Eq.trans rfl rfl
theorem J0 {F:List PV->Option PR}{fs:FA}{ρ:al}:aj F fs ρ=(fs ρ).bind fun rs=>BL F (rs.mapM RV.fr) rs:=Eq.trans rfl rfl
theorem zr {F:List PV->Option PR}{ps:List PV}{rs:List RV}:BL F (some ps) rs=(F ps).map oa:=Eq.trans rfl rfl
theorem Ai {F:List PV->Option PR}{rs:List RV}:BL F none rs=(F (rs.map RV.pv)).bind fun r=>if JG r=true then some (oa r) else none:=Eq.trans rfl rfl
theorem Jg {p:PV}:oa (.v p)=.fz p:=Eq.trans rfl rfl
theorem Kk {p:List PV}:oa (.n p)=.nw p:=Eq.trans rfl rfl
theorem D7 {p:PV}:JG (.v p)=tf p:=Eq.trans rfl rfl
theorem DL {p:List PV}:JG (.n p)=LC p:=Eq.trans rfl rfl
theorem Pm {f:FE}{ρ:al}:nE f ρ=(f ρ).bind fun r=>r.fr.bind items:=Eq.trans rfl rfl
theorem xL {ps:List PV}:items (.tup ps)=some ps:=Eq.trans rfl rfl
theorem wI {ps:List PV}:items (.lst ps)=some ps:=Eq.trans rfl rfl
theorem yr {ps:List PV}:items (.src ps)=some ps:=Eq.trans rfl rfl
theorem Mv {g:List PV->Option (List PV)}{fs:FA}{ρ:al}:iN g fs ρ=(fs ρ).bind fun rs=>g (rs.map RV.pv):=Eq.trans rfl rfl
theorem Kd {j:Int}:iM [.int j]=if BB j then some (nQ 0 j.toNat) else none:=Eq.trans rfl rfl
theorem Hw {i j:Int}:ye [.int i,.int j]=if BB i&&BB j then some (nQ i (j - i).toNat) else none:=Eq.trans rfl rfl
theorem NZ {f:FE}{ρ:al}:Js f ρ=(f ρ).bind fun r=>(gD r.pv).map fun ps=>.nw ps.reverse:=Eq.trans rfl rfl
theorem xt {ps:List PV}:gD (.lst ps)=some ps:=Eq.trans rfl rfl
theorem yj {ps:List PV}:gD (.src ps)=some ps:=Eq.trans rfl rfl
theorem JY {ps:List PV}:wr [.lst ps]=(db ps).bind fun is=>if is.length=0 then none else some (.fz (.int (tq is))):=Eq.trans rfl rfl
theorem Jd {ps:List PV}:yI [.lst ps]=(db ps).bind fun is=>if is.length=0 then none else some (.fz (.int (tK is))):=Eq.trans rfl rfl
theorem LA {ps:List PV}:wP [.lst ps]=(db ps).map fun is=>.fz (.int is.sum):=Eq.trans rfl rfl
theorem F7 {g:Int->Int->Int}{j:Nat}{fi f:FE}{ρ:al}:mF g j fi f ρ=Bk g (sl ρ j) ((fi ρ).bind RV.fr) ((f ρ).bind RV.fr) j ρ:=Eq.trans rfl rfl
theorem xT {g:Int->Int->Int}{ps:List PV}{k b:Int}{j:Nat}{ρ:al}:Bk g (some (.own ps)) (some (.int k)) (some (.int b)) j ρ=if 0≤k then qU g ps[k.toNat]? ps k b j ρ else .bad:=Eq.trans rfl rfl
theorem yu {g:Int->Int->Int}{a:Int}{ps:List PV}{k b:Int}{j:Nat}{ρ:al}:qU g (some (.int a)) ps k b j ρ=.nx (ρ.set j (some (.own (ps.set k.toNat (.int (g a b)))))):=Eq.trans rfl rfl
theorem Je {fs:FA}{ρ:al}:BA fs ρ=(fs ρ).bind fun rs=>(rs.mapM RV.fr).bind Hb:=Eq.trans rfl rfl
theorem zf {ps:List PV}:Hb [.lst ps]=some (gh 0 ps):=Eq.trans rfl rfl
theorem QD {i:Nat}{p:PV}{ρ:al}:gN i p ρ=some (ρ.set i (some (.val p))):=Eq.trans rfl rfl
theorem QR {ρ:al}:g0 [] ρ=some ρ:=Eq.trans rfl rfl
theorem PD {t:FT}{ts:Ca}{p:PV}{ps:List PV}{ρ:al}:gC t ts (p::ps) ρ=(t p ρ).bind fun ρ'=>ts ps ρ':=Eq.trans rfl rfl
theorem OF {n:Nat}{ts:Ca}{ps:List PV}{ρ:al}:O0 n ts (.tup ps) ρ=if ps.length=n then ts ps ρ else none:=Eq.trans rfl rfl
theorem Iw {fm:List (Option Nat)}{it:FI}{t:FT}{c:FB}{f:FE}{ρ:al}:bL fm it t c f ρ=(it ρ).bind fun its=>if its.length<1000 then (kO t c f (iK fm ρ) its).map .nw else none:=Eq.trans rfl rfl
theorem Ni {ρ:al}:dh ρ=some true:=Eq.trans rfl rfl
theorem wG {ρ:al}:iK [] ρ=[]:=Eq.trans rfl rfl
theorem t6 {fm:List (Option Nat)}{ρ:al}:iK (none::fm) ρ=none::iK fm ρ:=Eq.trans rfl rfl
theorem ut {j:Nat}{fm:List (Option Nat)}{ρ:al}:iK (some j::fm) ρ=sl ρ j::iK fm ρ:=Eq.trans rfl rfl
theorem IY {s v:Option Sl}{ρ:al}:List.set (s::ρ) 0 v=v::ρ:=Eq.trans rfl rfl
theorem Hz {s v:Option Sl}{i:Nat}{ρ:al}:List.set (s::ρ) (i+1) v=s::List.set ρ i v:=Eq.trans rfl rfl
theorem aY {p:PV}{n:String}{b:Bool}(hn:n = "int"\/n = "bool"\/n = "str"\/n = "tuple"\/n = "list"\/n = "dict")(h:OY n p=some b):gA [p,.ty n]=some (.fz (.bl b)):=by
 unfold gA;simp only[hn,if_true,h,Option.map_some]
theorem qi {i:Int}:gA [(.int i),.ty "int"]=some (.fz (.bl true)):=aY (by decide) rfl
theorem nZ {i:Int}:gA [(.int i),.ty "bool"]=some (.fz (.bl false)):=aY (by decide) rfl
theorem qI {i:Int}:gA [(.int i),.ty "str"]=some (.fz (.bl false)):=aY (by decide) rfl
theorem mS {i:Int}:gA [(.int i),.ty "tuple"]=some (.fz (.bl false)):=aY (by decide) rfl
theorem oJ {i:Int}:gA [(.int i),.ty "list"]=some (.fz (.bl false)):=aY (by decide) rfl
theorem oG {i:Int}:gA [(.int i),.ty "dict"]=some (.fz (.bl false)):=aY (by decide) rfl
theorem sL {i:Bool}:gA [(.bl i),.ty "int"]=some (.fz (.bl true)):=aY (by decide) rfl
theorem qP {i:Bool}:gA [(.bl i),.ty "bool"]=some (.fz (.bl true)):=aY (by decide) rfl
theorem rN {i:Bool}:gA [(.bl i),.ty "str"]=some (.fz (.bl false)):=aY (by decide) rfl
theorem oj {i:Bool}:gA [(.bl i),.ty "tuple"]=some (.fz (.bl false)):=aY (by decide) rfl
theorem qH {i:Bool}:gA [(.bl i),.ty "list"]=some (.fz (.bl false)):=aY (by decide) rfl
theorem pT {i:Bool}:gA [(.bl i),.ty "dict"]=some (.fz (.bl false)):=aY (by decide) rfl
theorem qF {i:List PV}:gA [(.tup i),.ty "int"]=some (.fz (.bl false)):=aY (by decide) rfl
theorem nY {i:List PV}:gA [(.tup i),.ty "bool"]=some (.fz (.bl false)):=aY (by decide) rfl
theorem qO {i:List PV}:gA [(.tup i),.ty "str"]=some (.fz (.bl false)):=aY (by decide) rfl
theorem nG {i:List PV}:gA [(.tup i),.ty "tuple"]=some (.fz (.bl true)):=aY (by decide) rfl
theorem oE {i:List PV}:gA [(.tup i),.ty "list"]=some (.fz (.bl false)):=aY (by decide) rfl
theorem oA {i:List PV}:gA [(.tup i),.ty "dict"]=some (.fz (.bl false)):=aY (by decide) rfl
theorem q8 {i:List PV}:gA [(.lst i),.ty "int"]=some (.fz (.bl false)):=aY (by decide) rfl
theorem oI {i:List PV}:gA [(.lst i),.ty "bool"]=some (.fz (.bl false)):=aY (by decide) rfl
theorem qW {i:List PV}:gA [(.lst i),.ty "str"]=some (.fz (.bl false)):=aY (by decide) rfl
theorem mH {i:List PV}:gA [(.lst i),.ty "tuple"]=some (.fz (.bl false)):=aY (by decide) rfl
theorem oF {i:List PV}:gA [(.lst i),.ty "list"]=some (.fz (.bl true)):=aY (by decide) rfl
theorem nT {i:List PV}:gA [(.lst i),.ty "dict"]=some (.fz (.bl false)):=aY (by decide) rfl
theorem qv {i:Str}:gA [(.str i),.ty "int"]=some (.fz (.bl false)):=aY (by decide) rfl
theorem oB {i:Str}:gA [(.str i),.ty "bool"]=some (.fz (.bl false)):=aY (by decide) rfl
theorem pK {i:Str}:gA [(.str i),.ty "str"]=some (.fz (.bl true)):=aY (by decide) rfl
theorem mX {i:Str}:gA [(.str i),.ty "tuple"]=some (.fz (.bl false)):=aY (by decide) rfl
theorem oz {i:Str}:gA [(.str i),.ty "list"]=some (.fz (.bl false)):=aY (by decide) rfl
theorem nX {i:Str}:gA [(.str i),.ty "dict"]=some (.fz (.bl false)):=aY (by decide) rfl
theorem pM  : gA [.non,.ty "int"]=some (.fz (.bl false)):=aY (by decide) rfl
theorem oi  : gA [.non,.ty "bool"]=some (.fz (.bl false)):=aY (by decide) rfl
theorem pD  : gA [.non,.ty "str"]=some (.fz (.bl false)):=aY (by decide) rfl
theorem mU  : gA [.non,.ty "tuple"]=some (.fz (.bl false)):=aY (by decide) rfl
theorem n9  : gA [.non,.ty "list"]=some (.fz (.bl false)):=aY (by decide) rfl
theorem ou  : gA [.non,.ty "dict"]=some (.fz (.bl false)):=aY (by decide) rfl
theorem sk {α β:Type}{a:α}{f:α->Option β}:((some a).bind f)=f a:=Eq.trans rfl rfl
theorem sI {α β:Type}{f:α->Option β}:((none:Option α).bind f)=none:=Eq.trans rfl rfl
theorem u9 {α β:Type}{a:α}{f:α->β}:((some a).map f)=some (f a):=Eq.trans rfl rfl
theorem uI {α β:Type}{f:α->β}:((none:Option α).map f)=none:=Eq.trans rfl rfl
theorem uV {α β:Type}{a:α}{l:List α}{f:α->β}:((a::l).map f)=f a::l.map f:=Eq.trans rfl rfl
theorem xy {α β:Type}{f:α->β}:(([]:List α).map f)=[]:=Eq.trans rfl rfl
theorem xl {α:Type}{l:List α}:([]++l)=l:=Eq.trans rfl rfl
theorem uD {α:Type}{a:α}{l m:List α}:((a::l)++m)=a::(l++m):=Eq.trans rfl rfl
theorem uT {α:Type}{a:α}{l:List α}:((a::l).length)=l.length+1:=Eq.trans rfl rfl
theorem wM {α:Type}:(([]:List α).length)=0:=Eq.trans rfl rfl
theorem IZ {α:Type}{a b:α}:((if True then a else b))=a:=Eq.trans rfl rfl
theorem Ko {α:Type}{a b:α}:((if False then a else b))=b:=Eq.trans rfl rfl
theorem CB {α:Type}{a b:α}:((if true=true then a else b))=a:=Eq.trans rfl rfl
theorem C5 {α:Type}{a b:α}:((if false=true then a else b))=b:=Eq.trans rfl rfl
theorem ya {α:Type}{a:α}{l:List α}:((a::l).isEmpty)=false:=Eq.trans rfl rfl
theorem xx {α:Type}:(([]:List α).isEmpty)=true:=Eq.trans rfl rfl
theorem sP  : (ay .non)=true:=Eq.trans rfl rfl
theorem t3 {b:Bool}:(ay (.bl b))=true:=Eq.trans rfl rfl
theorem tz {b:Int}:(ay (.int b))=true:=Eq.trans rfl rfl
theorem tR {b:Str}:(ay (.str b))=true:=Eq.trans rfl rfl
theorem wT  : (kl .non)=0:=Eq.trans rfl rfl
theorem yU {b:Bool}:(kl (.bl b))=0:=Eq.trans rfl rfl
theorem yh {b:Int}:(kl (.int b))=0:=Eq.trans rfl rfl
theorem xv {b:Str}:(kl (.str b))=0:=Eq.trans rfl rfl
theorem PN {n:Nat}:(nI n)=PV.int n:=Eq.trans rfl rfl
theorem FU  : (hU .non)=true:=Eq.trans rfl rfl
theorem xM {i:Int}:(hU (.int i))=false:=Eq.trans rfl rfl
theorem xp {i:Bool}:(hU (.bl i))=false:=Eq.trans rfl rfl
theorem ym {i:List PV}:(hU (.tup i))=false:=Eq.trans rfl rfl
theorem yt {i:List PV}:(hU (.lst i))=false:=Eq.trans rfl rfl
theorem xj {i:Str}:(hU (.str i))=false:=Eq.trans rfl rfl
theorem Gk {i:Int}:(BB i)=(decide (-4611686018427387904≤i)&&decide (i<4611686018427387904)):=Eq.trans rfl rfl
theorem x6 {ps:List PV}:ay (.tup ps)=az ps:=by rw[Pu.ay]
theorem xh {ps:List PV}:ay (.lst ps)=az ps:=by rw[Pu.ay]
theorem uh:az []=true:=by rw[az]
theorem uR {p:PV}{ps:List PV}:az (p::ps)=(ay p&&az ps):=by rw[az]
theorem Fj {ps:List PV}:kl (.tup ps)=bP ps+1:=by rw[kl]
theorem D8 {ps:List PV}:kl (.lst ps)=bP ps+1:=by rw[kl]
theorem Av:bP []=0:=by rw[bP]
theorem zY {p:PV}{ps:List PV}:bP (p::ps)=max (kl p) (bP ps):=by rw[bP]
noncomputable def E1:=(And.intro (And.intro @Lg (And.intro @rM @Ms)) (And.intro @Ds (And.intro @Di @Co)))
noncomputable def E2:=(And.intro (And.intro @Du (And.intro @Ge @Cp)) (And.intro @ET (And.intro @Dx @C9)))
noncomputable def E3:=(And.intro (And.intro @DF (And.intro @Da @Ib)) (And.intro @Lw (And.intro @xa @xw)))
noncomputable def E4:=(And.intro (And.intro @xA (And.intro @xu @wY)) (And.intro @Lx (And.intro @PC @Pq)))
noncomputable def E5:=(And.intro (And.intro @J3 (And.intro @wU @OQ)) (And.intro @BF (And.intro @As @KG)))
noncomputable def E6:=(And.intro (And.intro @A8 (And.intro @y6 @Q0)) (And.intro @HP (And.intro @Ig @M5)))
noncomputable def E7:=(And.intro (And.intro @Cs (And.intro @N3 @Af)) (And.intro @yM (And.intro @Ou @EN)))
noncomputable def E8:=(And.intro (And.intro @Jr (And.intro @NG @DJ)) (And.intro @L0 (And.intro @EY @CK)))
noncomputable def E9:=(And.intro (And.intro @ME (And.intro @Eg @Oj)) (And.intro @D6 (And.intro @Nu @Cm)))
noncomputable def cw:=(And.intro (And.intro @DV (And.intro @Op @DZ)) (And.intro @Fu (And.intro @zi @yR)))
noncomputable def ci:=(And.intro (And.intro @AZ (And.intro @RK @OO)) (And.intro @Og (And.intro @y0 @zZ)))
noncomputable def cD:=(And.intro (And.intro @RJ (And.intro @Ph @Ef)) (And.intro @Et (And.intro @Cj @De)))
noncomputable def cC:=(And.intro (And.intro @Es (And.intro @D3 @RC)) (And.intro @OI (And.intro @Ks @II)))
noncomputable def b6:=(And.intro (And.intro @NV (And.intro @NO @Kz)) (And.intro @L3 (And.intro @Jy @Nw)))
noncomputable def cQ:=(And.intro (And.intro @DD (And.intro @MJ @Q6)) (And.intro @MA (And.intro @HW @uz)))
noncomputable def cE:=(And.intro (And.intro @Ot (And.intro @OB @FW)) (And.intro @CD (And.intro @Ci @EW)))
noncomputable def cK:=(And.intro (And.intro @EB (And.intro @FX @EE)) (And.intro @CA (And.intro @DK @Fw)))
noncomputable def cv:=(And.intro (And.intro @zX (And.intro @Lh @JT)) (And.intro @HL (And.intro @HX @vc)))
noncomputable def cz:=(And.intro (And.intro @um (And.intro @Ld @IK)) (And.intro @Dz (And.intro @Fe @JA)))
noncomputable def cy:=(And.intro (And.intro @wB (And.intro @Hu @HV)) (And.intro @Iq (And.intro @Px @Qc)))
noncomputable def cu:=(And.intro (And.intro @Qh (And.intro @JS @J7)) (And.intro @KP (And.intro @JO @RP)))
noncomputable def cM:=(And.intro (And.intro @D0 (And.intro @Fs @EZ)) (And.intro @Dg (And.intro @Ea @CS)))
noncomputable def b5:=(And.intro (And.intro @FC (And.intro @Cy @Er)) (And.intro @D2 (And.intro @Ff @Gd)))
noncomputable def cI:=(And.intro (And.intro @Bw (And.intro @B2 @t0)) (And.intro @J0 (And.intro @zr @Ai)))
noncomputable def ca:=(And.intro (And.intro @Jg (And.intro @Kk @D7)) (And.intro @DL (And.intro @Pm @xL)))
noncomputable def cr:=(And.intro (And.intro @wI (And.intro @yr @Mv)) (And.intro @NZ (And.intro @xt @yj)))
noncomputable def cf:=(And.intro (And.intro @JY (And.intro @Jd @LA)) (And.intro @F7 (And.intro @xT @yu)))
noncomputable def cB:=(And.intro (And.intro @Je (And.intro @zf @QD)) (And.intro @QR (And.intro @PD @OF)))
noncomputable def cA:=(And.intro (And.intro @Iw (And.intro @Ni @wG)) (And.intro @t6 (And.intro @ut @IY)))
noncomputable def cG:=(And.intro (And.intro @Hz (And.intro @qi @nZ)) (And.intro @qI (And.intro @mS @oJ)))
noncomputable def cc:=(And.intro (And.intro @oG (And.intro @sL @qP)) (And.intro @rN (And.intro @oj @qH)))
noncomputable def b7:=(And.intro (And.intro @pT (And.intro @qF @nY)) (And.intro @qO (And.intro @nG @oE)))
noncomputable def cF:=(And.intro (And.intro @oA (And.intro @q8 @oI)) (And.intro @qW (And.intro @mH @oF)))
noncomputable def cg:=(And.intro (And.intro @nT (And.intro @qv @oB)) (And.intro @pK (And.intro @mX @oz)))
noncomputable def cH:=(And.intro (And.intro @nX (And.intro @pM @oi)) (And.intro @pD (And.intro @mU @n9)))
noncomputable def cj:=(And.intro (And.intro @ou (And.intro @sk @sI)) (And.intro @u9 (And.intro @uI @uV)))
noncomputable def cJ:=(And.intro (And.intro @xy (And.intro @xl @uD)) (And.intro @uT (And.intro @wM @IZ)))
noncomputable def b3:=(And.intro (And.intro @Ko (And.intro @CB @C5)) (And.intro @ya (And.intro @xx @sP)))
noncomputable def cO:=(And.intro (And.intro @t3 (And.intro @tz @tR)) (And.intro @wT (And.intro @yU @yh)))
noncomputable def b8:=(And.intro (And.intro @xv (And.intro @PN @FU)) (And.intro @xM (And.intro @xp @ym)))
noncomputable def cx:=(And.intro (And.intro @yt (And.intro @xj @x6)) (And.intro @xh (And.intro @uh @uR)))
noncomputable def ck:=(And.intro (And.intro @Fj (And.intro @D8 @Av)) (And.intro @zY (And.intro @RY @RZ)))
noncomputable def ce:=(And.intro (And.intro @RL (And.intro @RO @wo)) (And.intro @DC (And.intro @JI @EC)))
noncomputable def cP:=(And.intro (And.intro @Dw (And.intro @xH @zy)) (And.intro @and_true (And.intro @true_and @false_and)))
noncomputable def cN:=(And.intro (And.intro @and_false (And.intro @Nat.add_zero @Nat.zero_add)) (And.intro @Int.toNat_natCast (And.intro @Bool.not_true @Bool.not_false)))
noncomputable def b9:=(And.intro (And.intro @Bool.true_and (And.intro @Bool.false_and @Bool.and_true)) (And.intro @Bool.and_false (And.intro @Bool.true_or @Bool.false_or)))
noncomputable def cb:=(And.intro (And.intro @Bool.or_true (And.intro @Bool.or_false @Nat.zero_le)) (And.intro @decide_true (And.intro @decide_false @dy)))
noncomputable def cq:=(And.intro (And.intro @aV @dE) (And.intro @Nat.max_self (And.intro @Nat.zero_max @Nat.max_zero)))
end Dp
end
section
namespace Dp
open PySem L2 Fo Pu
theorem uZ {t:FT}{f:FE}{ρ:al}(g:PV->PV):∀{its:List PV},(∀p∈its,(t p ρ).bind (fun ρ2=>(f ρ2).bind RV.fr)=some (g p))->kO t dh f ρ its=some (its.map g):=fun {its}=>by
 induction its with
 |nil=>intro _;rfl
 |cons p ps ih=>
  intro h
  have h1:=h p List.mem_cons_self
  have h2:=ih fun q hq=>h q (List.mem_cons_of_mem _ hq)
  obtain⟨ρ2,e1,h1⟩:=Option.bind_eq_some_iff.mp h1
  obtain⟨r,e2,h1⟩:=Option.bind_eq_some_iff.mp h1
  rw[kO,e1,h2]
  show (f ρ2).bind _=_
  rw[e2]
  show r.fr.bind _=_
  rw[h1];rfl
theorem fo {t:FT}{f:FE}{ρ:al}(g:Nat->PV){us:List Nat}(h:∀u∈us,(t (.int u) ρ).bind (fun ρ2=>(f ρ2).bind RV.fr)=some (g u)):kO t dh f ρ (nums us)=some (us.map g):=by
 have e:(nums us).map (fun p=>match p with|.int i=>g i.toNat|_=>.non)=us.map g:=by
  unfold nums;rw[List.map_map];exact List.map_congr_left fun u _=>rfl
 rw[←e]
 refine uZ _ fun p hp=>?_
 obtain⟨u,hu,rfl⟩:=i8 hp
 exact h u hu
theorem kU {t:FT}{c:FB}{f:FE}{ρ:al}(b:PV->Bool)(g:PV->PV):∀{its:List PV},(∀p∈its,∃ρ2,t p ρ=some ρ2/\c ρ2=some (b p)/\(b p=true->(f ρ2).bind RV.fr=some (g p)))->kO t c f ρ its=some ((its.filter b).map g):=fun {its}=>by
 induction its with
 |nil=>intro _;rfl
 |cons p ps ih=>
  intro h
  obtain⟨ρ2,e1,e2,h1⟩:=h p List.mem_cons_self
  have h2:=ih fun q hq=>h q (List.mem_cons_of_mem _ hq)
  rw[kO,e1]
  show (c ρ2).bind _=_
  rw[e2]
  cases hb:b p with
  |true=>
   obtain⟨r,e3,e4⟩:=Option.bind_eq_some_iff.mp (h1 hb)
   rw[List.filter_cons_of_pos hb]
   show (f ρ2).bind _=_
   rw[e3]
   show r.fr.bind _=_
   rw[e4,h2];rfl
  |false=>
   rw[List.filter_cons_of_neg (by rw[hb];exact Bool.false_ne_true)]
   exact h2
theorem OS {α:Type}(l:List α):Gx (l.map fun _=>PV.bl true)=some (l.map fun _=>true):=by
 induction l with
 |nil=>rfl
 |cons a l ih=>rw[List.map_cons,Gx,ih];rfl
theorem MD {α:Type}(l:List α):(l.map fun _=>true).all id=true:=by induction l<;>simp_all
theorem K1 {n:Nat}(h:n≤100000):iM [.int n]=some (nums (List.range n))/\sK [.int n]=some (.fz (.rng 0 n))/\iI [.rng 0 n]=some (.nw (nums (List.range n))):=by
 refine⟨?_,?_,?_⟩
 ·rw[Kd,Gk,decide_eq_true (by omega),decide_eq_true (by omega),Int.toNat_natCast,FV];rfl
 ·rw[C8,if_pos ⟨by omega,by omega⟩]
 ·rw[zG,if_pos ⟨rfl,by omega,by omega⟩,Int.toNat_natCast,FV]
theorem RX {j:Int}(h0:0≤j)(h:j≤100000):iM [.int j]=some (nums (List.range j.toNat))/\sK [.int j]=some (.fz (.rng 0 j))/\iI [.rng 0 j]=some (.nw (nums (List.range j.toNat))):=by
 have:=K1 (n:=j.toNat) (by omega)
 rwa [Int.toNat_of_nonneg h0] at this
theorem K2 {n:Nat}(h:n≤100000):ye [.int 1,.int n]=some (nums ((List.range (n - 1)).map (·+1))):=by
 have a:BB 1=true:=by decide
 have b:BB n=true:=by rw[Gk,decide_eq_true (by omega),decide_eq_true (by omega)];rfl
 rw[Hw,a,b,show ((n:Int) - 1).toNat=n - 1 by omega,QB];rfl
theorem vC (i:Int):bo [.int i]=some (.v (.bl true)):=by
 simp only[qL,iy,E1,E2,E3,E4,E5,E6,E7,E8,E9,cw,ci,cD,cC,b6,cQ,cE,cK,cv,cz,cy,cu,cM,b5,cI,ca,cr,cf,cB,cA,cG,cc,b7,cF,cg,cH,cj,cJ,b3,cO,b8,cx,ck,ce,cP,cN,b9,cb,cq]
theorem Hg {i:Int}(h1:1≤i)(h2:i≤40):eB [.int i]=some (.v (.bl true)):=by
 simp only[rF,jf,E1,E2,E3,E4,E5,E6,E7,E8,E9,cw,ci,cD,cC,b6,cQ,cE,cK,cv,cz,cy,cu,cM,b5,cI,ca,cr,cf,cB,cA,cG,cc,b7,cF,cg,cH,cj,cJ,b3,cO,b8,cx,ck,ce,cP,cN,b9,cb,cq,vC,decide_eq_true h1,decide_eq_true h2]
theorem v7 (m x:Int):bh [.int m,.int x]=some (.v (.bl (decide (0≤x/\x<m)))):=by
 simp only[qG,im,E1,E2,E3,E4,E5,E6,E7,E8,E9,cw,ci,cD,cC,b6,cQ,cE,cK,cv,cz,cy,cu,cM,b5,cI,ca,cr,cf,cB,cA,cG,cc,b7,cF,cg,cH,cj,cJ,b3,cO,b8,cx,ck,ce,cP,cN,b9,cb,cq,vC]
 by_cases h:0≤x
 ·simp only[decide_eq_true h,E1,E2,E3,E4,E5,E6,E7,E8,E9,cw,ci,cD,cC,b6,cQ,cE,cK,cv,cz,cy,cu,cM,b5,cI,ca,cr,cf,cB,cA,cG,cc,b7,cF,cg,cH,cj,cJ,b3,cO,b8,cx,ck,ce,cP,cN,b9,cb,cq,h]
 ·simp only[decide_eq_false h,E1,E2,E3,E4,E5,E6,E7,E8,E9,cw,ci,cD,cC,b6,cQ,cE,cK,cv,cz,cy,cu,cM,b5,cI,ca,cr,cf,cB,cA,cG,cc,b7,cF,cg,cH,cj,cJ,b3,cO,b8,cx,ck,ce,cP,cN,b9,cb,cq,h,false_and]
theorem nH {us:List Nat}(hb:∀x,x<us.length->up us x<us.length){s1:Option Sl}:∀(vs:List PV) (x:Nat) (z:Option Sl),x<us.length →
  ∃z',bZ (gN 3) d5 vs [some (.val (.tup (nums us))),s1,some (.val (.int x)),z]=.nx [some (.val (.tup (nums us))),s1,some (.val (.int (Nat.repeat (up us) vs.length x:Nat))),z']/\Nat.repeat (up us) vs.length x<us.length
 |[],x,z,hx=>⟨z,rfl,hx⟩
 |v::vs,x,z,hx=>by
  obtain⟨z',e,h⟩:=nH hb vs (up us x) (some (.val v)) (s1:=s1) (hb x hx)
  refine⟨z',?_,by rw[List.length_cons,j0];exact h⟩
  rw[List.length_cons,j0,←e]
  rw[fZ]
  simp only[d5,E1,E2,E3,E4,E5,E6,E7,E8,E9,cw,ci,cD,cC,b6,cQ,cE,cK,cv,cz,cy,cu,cM,b5,cI,ca,cr,cf,cB,cA,cG,cc,b7,cF,cg,cH,cj,cJ,b3,cO,b8,cx,ck,ce,cP,cN,b9,cb,cq,am hx]
theorem Cw {us:List Nat}(f:Frst us){x:Nat}(hx:x<us.length):aU [.tup (nums us),.int x]=some (.v (.bl true)):=by
 have hm:=f.most
 obtain⟨z',e,h⟩:=nH f.fst.bnd (s1:=some (.val (.int x))) (nQ 0 us.length) x none hx
 rw[qo] at e h
 rw[FV] at e
 obtain⟨l,w,hl⟩:=f.fst.way hx
 simp only[ki,eL,E1,E2,E3,E4,E5,E6,E7,E8,E9,cw,ci,cD,cC,b6,cQ,cE,cK,cv,cz,cy,cu,cM,b5,cI,ca,cr,cf,cB,cA,cG,cc,b7,cF,cg,cH,cj,cJ,b3,cO,b8,cx,ck,ce,cP,cN,b9,cb,cq,K1 (show us.length≤100000 by omega),e,am h,oZ w _ (show l.length≤us.length+1 by omega),Nat.reduceLeDiff]
theorem nb {us:List Nat}(f:Frst us):aK [.tup (nums us)]=some (.v (.bl true)):=by
 have hm:=f.most
 have h1:=f.one
 have h2:us.length<1000:=by omega
 have e1:kO (gN 0) dh gi [none,some (.val (.int us.length))] (nums us)=some (us.map fun _=>PV.bl true):=fo _ fun u hu=>by
  obtain⟨i,hi,rfl⟩:=List.mem_iff_getElem.mp hu
  have hb:=f.fst.bnd i hi
  unfold up at hb
  rw[List.getD_eq_getElem?_getD,List.getElem?_eq_getElem hi] at hb
  have:decide ((0:Int)≤(us[i]:Int)/\(us[i]:Int)<(us.length:Int))=true:=decide_eq_true ⟨by omega,by simpa using hb⟩
  simp only[gi,E1,E2,E3,E4,E5,E6,E7,E8,E9,cw,ci,cD,cC,b6,cQ,cE,cK,cv,cz,cy,cu,cM,b5,cI,ca,cr,cf,cB,cA,cG,cc,b7,cF,cg,cH,cj,cJ,b3,cO,b8,cx,ck,ce,cP,cN,b9,cb,cq,v7,this]
 have e2:kO (gN 0) dh gf [none,some (.val (.tup (nums us)))] (nums (List.range us.length))=some ((List.range us.length).map fun _=>PV.bl true):=fo _ fun u hu=>by
  simp only[gf,E1,E2,E3,E4,E5,E6,E7,E8,E9,cw,ci,cD,cC,b6,cQ,cE,cK,cv,cz,cy,cu,cM,b5,cI,ca,cr,cf,cB,cA,cG,cc,b7,cF,cg,cH,cj,cJ,b3,cO,b8,cx,ck,ce,cP,cN,b9,cb,cq,Cw f (List.mem_range.mp hu)]
 simp only[oq,gR,E1,E2,E3,E4,E5,E6,E7,E8,E9,cw,ci,cD,cC,b6,cQ,cE,cK,cv,cz,cy,cu,cM,b5,cI,ca,cr,cf,cB,cA,cG,cc,b7,cF,cg,cH,cj,cJ,b3,cO,b8,cx,ck,ce,cP,cN,b9,cb,cq,Hg (show (1:Int)≤us.length by omega) (show (us.length:Int)≤40 by omega),K1 (show us.length≤100000 by omega),h2,e1,e2,OS,MD,List.length_range]
theorem kQ {us:List Nat}(f:Frst us):au [.tup (nums us)]=some (.v .non):=by
 simp only[li,eV,E1,E2,E3,E4,E5,E6,E7,E8,E9,cw,ci,cD,cC,b6,cQ,cE,cK,cv,cz,cy,cu,cM,b5,cI,ca,cr,cf,cB,cA,cG,cc,b7,cF,cg,cH,cj,cJ,b3,cO,b8,cx,ck,ce,cP,cN,b9,cb,cq,nb f]
theorem zb {m x:Int}(h0:0≤x)(h1:x<m):be [.int m,.int x]=some (.v .non):=by
 simp only[mj,fG,E1,E2,E3,E4,E5,E6,E7,E8,E9,cw,ci,cD,cC,b6,cQ,cE,cK,cv,cz,cy,cu,cM,b5,cI,ca,cr,cf,cB,cA,cG,cc,b7,cF,cg,cH,cj,cJ,b3,cO,b8,cx,ck,ce,cP,cN,b9,cb,cq,v7,decide_eq_true (show 0≤x/\x<m from⟨h0,h1⟩)]
theorem sQ {us:List Nat}(f:Frst us){x:Nat}(hx:x<us.length):af [.tup (nums us),.int x]=some (.v .non):=by
 simp only[gl,bq,E1,E2,E3,E4,E5,E6,E7,E8,E9,cw,ci,cD,cC,b6,cQ,cE,cK,cv,cz,cy,cu,cM,b5,cI,ca,cr,cf,cB,cA,cG,cc,b7,cF,cg,cH,cj,cJ,b3,cO,b8,cx,ck,ce,cP,cN,b9,cb,cq,kQ f,zb (show (0:Int)≤x by omega) (show (x:Int)<us.length by omega)]
theorem zO {p:PV}{us:List Nat}(hp:p=.tup (nums us)\/p=.lst (nums us))(hm:us.length≤40)(hb:∀x,x<us.length->up us x<us.length){s1:Option Sl}{y:Nat}{l2:List Nat}(w:Way us y l2):∀(pre:List Nat),pre.length+l2.length≤us.length->y<us.length →
  ∀n,l2.length<n->dP fF gH n [some (.val p),s1,some (.own (nums (pre++[y])))]=.nx [some (.val p),s1,some (.own (nums (pre++l2)))]:=by
 induction w with
 | @head y e=>
  intro pre hl hy n hn
  obtain⟨n,rfl⟩:∃k,n=k+1:=⟨n - 1,by simp at hn;omega⟩
  rw[mn]
  rcases hp with rfl|rfl <;>
   simp only[fF,E1,E2,E3,E4,E5,E6,E7,E8,E9,cw,ci,cD,cC,b6,cQ,cE,cK,cv,cz,cy,cu,cM,b5,cI,ca,cr,cf,cB,cA,cG,cc,b7,cF,cg,cH,cj,cJ,b3,cO,b8,cx,ck,ce,cP,cN,b9,cb,cq,Nat.reduceAdd,Nat.reduceSub,Nat.reduceLeDiff,Nat.reduceLT,Nat.reduceEqDiff,Int.reduceLT,Int.reduceLE,Int.reduceAdd,Int.reduceSub,Int.reduceMul,Int.reduceMod,Int.reduceDiv,Int.reduceNeg,Int.reduceToNat,Int.reducePow,Int.reduceEq,Pu.hZ,am hy,e]
 | @step y l ne w ih=>
  intro pre hl hy n hn
  obtain⟨n,rfl⟩:∃k,n=k+1:=⟨n - 1,by simp at hn;omega⟩
  have ih:=ih (pre++[y]) (by simp at hl ⊢;omega) (hb y hy) n (by simp at hn;omega)
  rw[List.append_assoc,List.append_assoc] at ih
  have hne:decide ((up us y:Int)=(y:Int))=false:=decide_eq_false (by omega)
  have hpl:(pre++[y]).length≤100000:=by simp at hl ⊢;omega
  rw[mn]
  rcases hp with rfl|rfl <;>
   (simp only[fF,gH,E1,E2,E3,E4,E5,E6,E7,E8,E9,cw,ci,cD,cC,b6,cQ,cE,cK,cv,cz,cy,cu,cM,b5,cI,ca,cr,cf,cB,cA,cG,cc,b7,cF,cg,cH,cj,cJ,b3,cO,b8,cx,ck,ce,cP,cN,b9,cb,cq,Nat.reduceAdd,Nat.reduceSub,Nat.reduceLeDiff,Nat.reduceLT,Nat.reduceEqDiff,Int.reduceLT,Int.reduceLE,Int.reduceAdd,Int.reduceSub,Int.reduceMul,Int.reduceMod,Int.reduceDiv,Int.reduceNeg,Int.reduceToNat,Int.reducePow,Int.reduceEq,Pu.hZ,am hy,hne,hpl,lm,List.append_assoc];exact ih)
theorem lW {p:PV}{us:List Nat}(hp:p=.tup (nums us)\/p=.lst (nums us))(f:Frst us){x:Nat}(hx:x<us.length):ax [p,.int x]=some (.n (nums (way us x))):=by
 have hl:=p8 f.fst hx
 have hm:=f.most
 have e:=zO hp f.most f.fst.bnd (s1:=some (.val (.int x))) (aP f.fst hx) [] (by simpa using hl) hx 10000 (by omega)
 rw[List.nil_append,List.nil_append] at e
 have e':dP fF gH 10000 [some (.val p),some (.val (.int x)),some (.own [.int x])]=_:=e
 simp only[uK,jU,E1,E2,E3,E4,E5,E6,E7,E8,E9,cw,ci,cD,cC,b6,cQ,cE,cK,cv,cz,cy,cu,cM,b5,cI,ca,cr,cf,cB,cA,cG,cc,b7,cF,cg,cH,cj,cJ,b3,cO,b8,cx,ck,ce,cP,cN,b9,cb,cq,Nat.reduceAdd,Nat.reduceSub,Nat.reduceLeDiff,Nat.reduceLT,Nat.reduceEqDiff,Int.reduceLT,Int.reduceLE,Int.reduceAdd,Int.reduceSub,Int.reduceMul,Int.reduceMod,Int.reduceDiv,Int.reduceNeg,Int.reduceToNat,Int.reducePow,Int.reduceEq,e']
theorem fS {us:List Nat}(f:Frst us){x:Nat}(hx:x<us.length):aH [.tup (nums us),.int x]=some (.v (.int (dp us x:Nat))):=by
 have hp:=(aP f.fst hx).pos
 simp only[qB,iz,E1,E2,E3,E4,E5,E6,E7,E8,E9,cw,ci,cD,cC,b6,cQ,cE,cK,cv,cz,cy,cu,cM,b5,cI,ca,cr,cf,cB,cA,cG,cc,b7,cF,cg,cH,cj,cJ,b3,cO,b8,cx,ck,ce,cP,cN,b9,cb,cq,sQ f hx,lW (.inl rfl) f hx]
 unfold dp
 rw[show ((way us x).length:Int) - 1=(((way us x).length - 1:Nat):Int) by omega]
theorem PF {a b:PV}{c:Bool}:L2.atI [a,b] (if c=true then 1 else 0)=some (if c=true then b else a):=by
 cases c<;>rfl
theorem qR {s0 s1:Option Sl}(vs:List PV):∀(xs:List Nat) (st dg:Int) (z:Option Sl),(∀v∈vs,∃i:Int,v=.int i)->0≤st->st<1999999973->0≤dg->xs.length+vs.length≤1000 →
  ∃(xs':List Nat) (st' dg':Int) (z':Option Sl),xs'.length=xs.length+vs.length/\bZ (gN 5) df vs [s0,s1,some (.own (nums xs)),some (.val (.int st)),some (.val (.int dg)),z]=.nx [s0,s1,some (.own (nums xs')),some (.val (.int st')),some (.val (.int dg')),z']:=by
 induction vs with
 |nil=>intro xs st dg z _ _ _ _ _;exact⟨xs,st,dg,z,rfl,rfl⟩
 |cons v vs ih=>
  intro xs st dg z hv h1 h2 h3 hl
  obtain⟨i,rfl⟩:=hv v List.mem_cons_self
  have m1:=Int.emod_nonneg st (show (65521:Int)≠0 by decide)
  have cm1:(st.natAbs<2 ^ 64\/(st % 65521+40487).natAbs<2 ^ 64)=True:=eq_true (.inl (by omega))
  have cm2:((7:Int).natAbs<2 ^ 64\/i.natAbs<2 ^ 64)=True:=eq_true (.inl (by decide))
  have hlen:(nums xs).length≤100000:=by rw[dy];simp at hl;omega
  have b1:0≤(st * (st % 65521+40487)+7 * i+5) % 1999999973:=Int.emod_nonneg _ (by decide)
  have b2:(st * (st % 65521+40487)+7 * i+5) % 1999999973<1999999973:=Int.emod_lt_of_pos _ (by decide)
  have d1:=Int.emod_nonneg dg (show (1000000:Int)≠0 by decide)
  have hlen':xs.length≤100000:=by rwa [dy] at hlen
  rw[fZ]
  simp only[df,E1,E2,E3,E4,E5,E6,E7,E8,E9,cw,ci,cD,cC,b6,cQ,cE,cK,cv,cz,cy,cu,cM,b5,cI,ca,cr,cf,cB,cA,cG,cc,b7,cF,cg,cH,cj,cJ,b3,cO,b8,cx,ck,ce,cP,cN,b9,cb,cq,Nat.reduceAdd,Nat.reduceSub,Nat.reduceLeDiff,Nat.reduceLT,Nat.reduceEqDiff,Int.reduceLT,Int.reduceLE,Int.reduceAdd,Int.reduceSub,Int.reduceMul,Int.reduceMod,Int.reduceDiv,Int.reduceNeg,Int.reduceToNat,Int.reducePow,Int.reduceEq,cm1,cm2,PF,hlen']
  generalize (st * (st % 65521+40487)+7 * i+5) % 1999999973=st' at b1 b2
  have hv':(if decide (0<dg)=true then PV.int (dg % 1000000) else PV.int st')=nI (if decide (0<dg)=true then dg % 1000000 else st').toNat:=by
   split<;>rw[BJ (by omega)]
  rw[hv',nI,lm]
  obtain⟨xs',st2,dg2,z2,e1,e2⟩:=ih (xs++[(if decide (0<dg)=true then dg % 1000000 else st').toNat]) st' (dg / 1000000) (some (.val (.int i))) (fun u hu=>hv u (List.mem_cons_of_mem _ hu)) b1 b2 (Int.ediv_nonneg h3 (by decide)) (by simp at hl ⊢;omega)
  exact⟨xs',st2,dg2,z2,by rw[e1,List.length_append];simp;omega,e2⟩
theorem xR (c n:Int)(h0:0≤n)(hn:n≤1000):∃xs:List Nat,xs.length=n.toNat/\aZ [.int c,.int n]=some (.n (nums xs)):=by
 have b1:0≤(c % 1999999973+31) * 765432101 % 1999999973:=Int.emod_nonneg _ (by decide)
 have b2:(c % 1999999973+31) * 765432101 % 1999999973<1999999973:=Int.emod_lt_of_pos _ (by decide)
 have cm:((c % 1999999973+31).natAbs<2 ^ 64\/(765432101:Int).natAbs<2 ^ 64)=True:=eq_true (.inr (by decide))
 have k1:=(RX h0 (show n≤100000 by omega)).1
 have ab:0≤(if c<0 then -c else c):=by split<;>omega
 have fin:∀dg:Int,0≤dg->∃(xs:List Nat) (st' dg':Int) (z':Option Sl),xs.length=n.toNat/\bZ (gN 5) df (nums (List.range n.toNat)) [some (.val (.int c)),some (.val (.int n)),some (.own (nums [])),some (.val (.int ((c % 1999999973+31) * 765432101 % 1999999973))),some (.val (.int dg)),none]=.nx [some (.val (.int c)),some (.val (.int n)),some (.own (nums xs)),some (.val (.int st')),some (.val (.int dg')),z']:=fun dg hd=>by
  obtain⟨xs,st',dg',z',e1,e2⟩:=qR (s0:=some (.val (.int c))) (s1:=some (.val (.int n))) (nQ 0 n.toNat) [] _ dg none (fun v hv=>by obtain⟨i,e,_⟩:=JP hv;exact⟨i,e⟩) b1 b2 hd (by rw[qo];simp;omega)
  rw[FV] at e2
  exact⟨xs,st',dg',z',by rw[e1,qo];simp,e2⟩
 have hp:(10:Int) ^ 18=1000000000000000000:=by decide
 by_cases hc:c<0
 ·obtain⟨xs,st',dg',z',e1,e2⟩:=fin _ ab
  rw[mV] at e2
  refine⟨xs,e1,?_⟩
  simp only[eQ,bU,E1,E2,E3,E4,E5,E6,E7,E8,E9,cw,ci,cD,cC,b6,cQ,cE,cK,cv,cz,cy,cu,cM,b5,cI,ca,cr,cf,cB,cA,cG,cc,b7,cF,cg,cH,cj,cJ,b3,cO,b8,cx,ck,ce,cP,cN,b9,cb,cq,Nat.reduceAdd,Nat.reduceSub,Nat.reduceLeDiff,Nat.reduceLT,Nat.reduceEqDiff,Int.reduceLT,Int.reduceLE,Int.reduceAdd,Int.reduceSub,Int.reduceMul,Int.reduceMod,Int.reduceDiv,Int.reduceNeg,Int.reduceToNat,Int.reducePow,Int.reduceEq,cm,k1,decide_eq_true hc,e2]
 ·by_cases hd:1000000000000000000≤c
  ·obtain⟨xs,st',dg',z',e1,e2⟩:=fin _ ab
   rw[mV] at e2
   refine⟨xs,e1,?_⟩
   simp only[eQ,bU,E1,E2,E3,E4,E5,E6,E7,E8,E9,cw,ci,cD,cC,b6,cQ,cE,cK,cv,cz,cy,cu,cM,b5,cI,ca,cr,cf,cB,cA,cG,cc,b7,cF,cg,cH,cj,cJ,b3,cO,b8,cx,ck,ce,cP,cN,b9,cb,cq,Nat.reduceAdd,Nat.reduceSub,Nat.reduceLeDiff,Nat.reduceLT,Nat.reduceEqDiff,Int.reduceLT,Int.reduceLE,Int.reduceAdd,Int.reduceSub,Int.reduceMul,Int.reduceMod,Int.reduceDiv,Int.reduceNeg,Int.reduceToNat,Int.reducePow,Int.reduceEq,cm,k1,decide_eq_false hc,show (0:Int)≤18/\(18:Int)≤1000000/\(10:Int).natAbs<2 ^ 64 from by decide,decide_eq_true hd,e2]
  ·obtain⟨xs,st',dg',z',e1,e2⟩:=fin 0 (by decide)
   rw[mV] at e2
   refine⟨xs,e1,?_⟩
   simp only[eQ,bU,E1,E2,E3,E4,E5,E6,E7,E8,E9,cw,ci,cD,cC,b6,cQ,cE,cK,cv,cz,cy,cu,cM,b5,cI,ca,cr,cf,cB,cA,cG,cc,b7,cF,cg,cH,cj,cJ,b3,cO,b8,cx,ck,ce,cP,cN,b9,cb,cq,Nat.reduceAdd,Nat.reduceSub,Nat.reduceLeDiff,Nat.reduceLT,Nat.reduceEqDiff,Int.reduceLT,Int.reduceLE,Int.reduceAdd,Int.reduceSub,Int.reduceMul,Int.reduceMod,Int.reduceDiv,Int.reduceNeg,Int.reduceToNat,Int.reducePow,Int.reduceEq,cm,k1,decide_eq_false hc,show (0:Int)≤18/\(18:Int)≤1000000/\(10:Int).natAbs<2 ^ 64 from by decide,decide_eq_false hd,e2]
theorem yf {s0 s1:Option Sl}(ns:List Int):∀(st:Int) (z:Option Sl),∃(st':Int) (z':Option Sl),bZ (gN 3) eJ (iL ns) [s0,s1,some (.val (.int st)),z]=.nx [s0,s1,some (.val (.int st')),z']:=by
 induction ns with
 |nil=>intro st z;exact⟨st,z,rfl⟩
 |cons n ns ih=>
  intro st z
  have cm:(st.natAbs<2 ^ 64\/(69621:Int).natAbs<2 ^ 64)=True:=eq_true (.inr (by decide))
  show ∃st' z',bZ (gN 3) eJ (.int n::iL ns) _=_
  rw[fZ]
  simp only[eJ,E1,E2,E3,E4,E5,E6,E7,E8,E9,cw,ci,cD,cC,b6,cQ,cE,cK,cv,cz,cy,cu,cM,b5,cI,ca,cr,cf,cB,cA,cG,cc,b7,cF,cg,cH,cj,cJ,b3,cO,b8,cx,ck,ce,cP,cN,b9,cb,cq,Nat.reduceAdd,Nat.reduceSub,Nat.reduceLeDiff,Nat.reduceLT,Nat.reduceEqDiff,Int.reduceLT,Int.reduceLE,Int.reduceAdd,Int.reduceSub,Int.reduceMul,Int.reduceMod,Int.reduceDiv,Int.reduceNeg,Int.reduceToNat,Int.reducePow,Int.reduceEq,cm]
  exact ih _ _
theorem Lb (ns:List Int)(k:Int)(h0:0≤k)(hk:k≤1000):∃i:Int,bK [.src (iL ns),.int k]=some (.v (.int i)):=by
 by_cases hl:k<ns.length
 ·have hk':k.toNat<ns.length:=by omega
  have e:L2.atI (iL ns) k=some (.int ns[k.toNat]):=by
   have:=fU (ps:=iL ns) (x:=k.toNat) (p:=.int ns[k.toNat]) (by unfold iL;rw[List.getElem?_map,List.getElem?_eq_getElem hk'];rfl)
   rwa [Int.toNat_of_nonneg h0] at this
  exact⟨ns[k.toNat],by simp only[jz,fA,E1,E2,E3,E4,E5,E6,E7,E8,E9,cw,ci,cD,cC,b6,cQ,cE,cK,cv,cz,cy,cu,cM,b5,cI,ca,cr,cf,cB,cA,cG,cc,b7,cF,cg,cH,cj,cJ,b3,cO,b8,cx,ck,ce,cP,cN,b9,cb,cq,Nat.reduceAdd,Nat.reduceSub,Nat.reduceLeDiff,Nat.reduceLT,Nat.reduceEqDiff,Int.reduceLT,Int.reduceLE,Int.reduceAdd,Int.reduceSub,Int.reduceMul,Int.reduceMod,Int.reduceDiv,Int.reduceNeg,Int.reduceToNat,Int.reducePow,Int.reduceEq,Bt,decide_eq_true hl,e]⟩
 ·have c1:(k.natAbs<2 ^ 64)=True:=eq_true (by omega)
  have c2:((48271:Int).natAbs<2 ^ 64)=True:=eq_true (by decide)
  have c3:((7:Int).natAbs<2 ^ 64)=True:=eq_true (by decide)
  obtain⟨st',z',e⟩:=yf (s0:=some (.val (.src (iL ns)))) (s1:=some (.val (.int k))) (cut ns none (some 3)) (48271 * (k * k+7 * k+11) % 2147483647) none
  refine⟨st',?_⟩
  simp only[jz,fA,E1,E2,E3,E4,E5,E6,E7,E8,E9,cw,ci,cD,cC,b6,cQ,cE,cK,cv,cz,cy,cu,cM,b5,cI,ca,cr,cf,cB,cA,cG,cc,b7,cF,cg,cH,cj,cJ,b3,cO,b8,cx,ck,ce,cP,cN,b9,cb,cq,Nat.reduceAdd,Nat.reduceSub,Nat.reduceLeDiff,Nat.reduceLT,Nat.reduceEqDiff,Int.reduceLT,Int.reduceLE,Int.reduceAdd,Int.reduceSub,Int.reduceMul,Int.reduceMod,Int.reduceDiv,Int.reduceNeg,Int.reduceToNat,Int.reducePow,Int.reduceEq,Bt,decide_eq_false hl,c1,c2,c3,true_or,Hj,e]
theorem Cf (x:Nat):∃n:Nat,1≤n/\n≤40/\cS [.int x]=some (.v (.int n)):=by
 have a1:=Int.emod_nonneg ((x:Int) / 8) (show (12:Int)≠0 by decide)
 have a2:=Int.emod_lt_of_pos ((x:Int) / 8) (show (0:Int)<12 by decide)
 have a3:=Int.emod_nonneg ((x:Int) / 8) (show (40:Int)≠0 by decide)
 have a4:=Int.emod_lt_of_pos ((x:Int) / 8) (show (0:Int)<40 by decide)
 by_cases h:(x:Int) % 8=3
 ·refine⟨(1+(x:Int) / 8 % 40).toNat,by omega,by omega,?_⟩
  simp only[jD,fu,E1,E2,E3,E4,E5,E6,E7,E8,E9,cw,ci,cD,cC,b6,cQ,cE,cK,cv,cz,cy,cu,cM,b5,cI,ca,cr,cf,cB,cA,cG,cc,b7,cF,cg,cH,cj,cJ,b3,cO,b8,cx,ck,ce,cP,cN,b9,cb,cq,Nat.reduceAdd,Nat.reduceSub,Nat.reduceLeDiff,Nat.reduceLT,Nat.reduceEqDiff,Int.reduceLT,Int.reduceLE,Int.reduceAdd,Int.reduceSub,Int.reduceMul,Int.reduceMod,Int.reduceDiv,Int.reduceNeg,Int.reduceToNat,Int.reducePow,Int.reduceEq,PF,decide_eq_true h]
  rw[Int.toNat_of_nonneg (by omega)]
 ·refine⟨(1+(x:Int) / 8 % 12).toNat,by omega,by omega,?_⟩
  simp only[jD,fu,E1,E2,E3,E4,E5,E6,E7,E8,E9,cw,ci,cD,cC,b6,cQ,cE,cK,cv,cz,cy,cu,cM,b5,cI,ca,cr,cf,cB,cA,cG,cc,b7,cF,cg,cH,cj,cJ,b3,cO,b8,cx,ck,ce,cP,cN,b9,cb,cq,Nat.reduceAdd,Nat.reduceSub,Nat.reduceLeDiff,Nat.reduceLT,Nat.reduceEqDiff,Int.reduceLT,Int.reduceLE,Int.reduceAdd,Int.reduceSub,Int.reduceMul,Int.reduceMod,Int.reduceDiv,Int.reduceNeg,Int.reduceToNat,Int.reducePow,Int.reduceEq,PF,decide_eq_false h]
  rw[Int.toNat_of_nonneg (by omega)]
end Dp
end
section
namespace Dp
open PySem L2 Fo Pu
noncomputable def uY (g:Nat->Int)(l:List Nat):List PV:=l.map fun k=>.tup [.int (g k),.int k]
theorem qh (g:Nat->Int)(l:List Nat):(uY g l).length=l.length:=List.length_map ..
theorem sT (g:Nat->Int):∀l:List Nat,gt (uY g l)=some (l.map fun k=>[g k,(k:Int)])
 |[]=>rfl
 |k::l=>by
  show gt (.tup [.int (g k),.int k]::uY g l)=_
  rw[gt]
  rw[sT g l];rfl
noncomputable def pY (g:Nat->Int)(n:Nat):List Nat:=jy ((List.range n).map fun k=>[g k,(k:Int)])
theorem ic (g:Nat->Int)(n:Nat):(pY g n).Perm (List.range n):=by
 have:=lq ((List.range n).map fun k=>[g k,(k:Int)])
 rwa [List.length_map,List.length_range] at this
theorem sD (g:Nat->Int)(n:Nat):(pY g n).length=n:=by rw[(ic g n).length_eq,List.length_range]
theorem my (g:Nat->Int)(n:Nat)(hn:n<64):iF [.lst (uY g (List.range n))]=some (.nw (uY g (pY g n))):=by
 simp only[E1,E2,E3,E4,E5,E6,E7,E8,E9,cw,ci,cD,cC,b6,cQ,cE,cK,cv,cz,cy,cu,cM,b5,cI,ca,cr,cf,cB,cA,cG,cc,b7,cF,cg,cH,cj,cJ,b3,cO,b8,cx,ck,ce,cP,cN,b9,cb,cq,sT,qh,List.length_range,eq_true hn]
 congr 2
 unfold uY
 refine List.map_congr_left fun i hi=>?_
 have hi':i<n:=List.mem_range.mp ((ic g n).subset hi)
 rw[List.getD_eq_getElem?_getD,List.getElem?_map,List.getElem?_range hi'];rfl
theorem oY {t:FT}{f:FE}{ρ:al}(g:Nat->Int)(l:List Nat)(h:∀a b:Int,(t (.tup [.int a,.int b]) ρ).bind (fun ρ2=>(f ρ2).bind RV.fr)=some (.int b)):kO t dh f ρ (uY g l)=some (nums l):=by
 have e:(uY g l).map (fun p=>match p with|.tup [_,b]=>b|_=>.non)=nums l:=by
  unfold uY nums;rw[List.map_map];exact List.map_congr_left fun u _=>rfl
 rw[←e]
 refine uZ _ fun p hp=>?_
 obtain⟨u,_,rfl⟩:=List.mem_map.mp hp
 exact h _ _
theorem so {xs p:List Nat}{n:Nat}{kd:Int}{s2:Option Sl}(hx:n<xs.length)(hn:n≤40)(hp:p.Perm (List.range n))(h0:0≤kd)(h5:kd<5)(ks:List Nat):∀(us:List Nat) (z6 z7:Option Sl),(∀k∈ks,1≤k/\k<n)->Ranked p us n →
  ∃us' z6' z7',Ranked p us' n/\bZ (gN 6) bY (nums ks) [some (.val (.lst (nums xs))),some (.val (.int n)),s2,some (.val (.lst (nums p))),some (.own (nums us)),some (.val (.int kd)),z6,z7]=.nx [some (.val (.lst (nums xs))),some (.val (.int n)),s2,some (.val (.lst (nums p))),some (.own (nums us')),some (.val (.int kd)),z6',z7']:=by
 have hpl:p.length=n:=by rw[hp.length_eq,List.length_range]
 have plt:∀k,k<n->up p k<n:=fun k hk=>by
  have hk':k<p.length:=by omega
  have e:up p k=p[k]:=by simp[up,hk']
  rw[e]
  exact List.mem_range.mp (hp.subset (List.getElem_mem hk'))
 induction ks with
 |nil=>intro us z6 z7 _ r;exact⟨us,z6,z7,r,rfl⟩
 |cons k ks ih=>
  intro us z6 z7 hks r
  obtain⟨k1,k2⟩:=hks k List.mem_cons_self
  have ih:=fun us z6 z7 r=>ih us z6 z7 (fun j hj=>hks j (List.mem_cons_of_mem _ hj)) r
  have hpk:=plt k k2
  have a0:=Int.emod_nonneg ((up xs (up p k):Int) / 9973) (show (k:Int)≠0 by omega)
  have a1:=Int.emod_lt_of_pos ((up xs (up p k):Int) / 9973) (show (0:Int)<k by omega)
  obtain⟨c2,c3⟩:=DR k (by omega)
  obtain⟨v,hv,m,rfl,hm⟩:∃v,L2.atI [PV.int ((up xs (up p k):Int) / 9973 % (k:Int)),PV.int ((k:Int) - 1),PV.int 0,PV.int k,PV.int ((k:Int) - Builtin.bitAnd (k:Int) (0 - (k:Int)))] kd=some v/\∃m:Nat,v=PV.int m/\m≤k:=
   Pj h0 h5 ⟨_,BJ a0,by omega⟩ ⟨k - 1,by congr 1;omega,by omega⟩ ⟨0,rfl,by omega⟩ ⟨k,rfl,Nat.le_refl _⟩ ⟨_,BJ c2,by omega⟩
  have hmn:m<p.length:=by omega
  have hul:up p k<us.length:=by rw[r.len];exact hpk
  have kp:((0:Int)<(k:Int))=True:=eq_true (by omega)
  rw[cZ,fZ]
  by_cases hk0:kd=0
  ·subst hk0
   by_cases hq:0<(up xs (up p k):Int) / 1000 % 4
   ·simp only[bY,E1,E2,E3,E4,E5,E6,E7,E8,E9,cw,ci,cD,cC,b6,cQ,cE,cK,cv,cz,cy,cu,cM,b5,cI,ca,cr,cf,cB,cA,cG,cc,b7,cF,cg,cH,cj,cJ,b3,cO,b8,cx,ck,ce,cP,cN,b9,cb,cq,Nat.reduceAdd,Nat.reduceSub,Nat.reduceLeDiff,Nat.reduceLT,Nat.reduceEqDiff,Int.reduceLT,Int.reduceLE,Int.reduceAdd,Int.reduceSub,Int.reduceMul,Int.reduceMod,Int.reduceDiv,Int.reduceNeg,Int.reduceToNat,Int.reducePow,Int.reduceEq,am (show k<p.length by omega),am (show up p k<xs.length by omega),kp,hv,am hmn,il hul,jk,decide_eq_true hq]
    exact ih _ _ _ (r.set k2 hm)
   ·simp only[bY,E1,E2,E3,E4,E5,E6,E7,E8,E9,cw,ci,cD,cC,b6,cQ,cE,cK,cv,cz,cy,cu,cM,b5,cI,ca,cr,cf,cB,cA,cG,cc,b7,cF,cg,cH,cj,cJ,b3,cO,b8,cx,ck,ce,cP,cN,b9,cb,cq,Nat.reduceAdd,Nat.reduceSub,Nat.reduceLeDiff,Nat.reduceLT,Nat.reduceEqDiff,Int.reduceLT,Int.reduceLE,Int.reduceAdd,Int.reduceSub,Int.reduceMul,Int.reduceMod,Int.reduceDiv,Int.reduceNeg,Int.reduceToNat,Int.reducePow,Int.reduceEq,am (show k<p.length by omega),am (show up p k<xs.length by omega),kp,hv,am hmn,il hul,jk,decide_eq_false hq]
    exact ih _ _ _ r
  ·simp only[bY,E1,E2,E3,E4,E5,E6,E7,E8,E9,cw,ci,cD,cC,b6,cQ,cE,cK,cv,cz,cy,cu,cM,b5,cI,ca,cr,cf,cB,cA,cG,cc,b7,cF,cg,cH,cj,cJ,b3,cO,b8,cx,ck,ce,cP,cN,b9,cb,cq,Nat.reduceAdd,Nat.reduceSub,Nat.reduceLeDiff,Nat.reduceLT,Nat.reduceEqDiff,Int.reduceLT,Int.reduceLE,Int.reduceAdd,Int.reduceSub,Int.reduceMul,Int.reduceMod,Int.reduceDiv,Int.reduceNeg,Int.reduceToNat,Int.reducePow,Int.reduceEq,am (show k<p.length by omega),am (show up p k<xs.length by omega),kp,hv,am hmn,il hul,jk,decide_eq_false hk0]
   exact ih _ _ _ (r.set k2 hm)
theorem xf {xs:List Nat}{n:Nat}(hx:n<xs.length)(h1:1≤n)(hn:n≤40):∃us:List Nat,Frst us/\us.length=n/\bf [.lst (nums xs),.int n]=some (.v (.tup (nums us))):=by
 generalize hg:(fun k:Nat=>(up xs k:Int) % 9973)=g
 have e1:kO (gN 0) dh eS [none,some (.val (.lst (nums xs)))] (nums (List.range n))=some (uY g (List.range n)):=fo _ fun u hu=>by
  have hu':=List.mem_range.mp hu
  simp only[eS,E1,E2,E3,E4,E5,E6,E7,E8,E9,cw,ci,cD,cC,b6,cQ,cE,cK,cv,cz,cy,cu,cM,b5,cI,ca,cr,cf,cB,cA,cG,cc,b7,cF,cg,cH,cj,cJ,b3,cO,b8,cx,ck,ce,cP,cN,b9,cb,cq,Nat.reduceAdd,Nat.reduceSub,Nat.reduceLeDiff,Nat.reduceLT,Nat.reduceEqDiff,Int.reduceLT,Int.reduceLE,Int.reduceAdd,Int.reduceSub,Int.reduceMul,Int.reduceMod,Int.reduceDiv,Int.reduceNeg,Int.reduceToNat,Int.reducePow,Int.reduceEq,am (show u<xs.length by omega),←hg]
 have e2:kO (gN 0) dh eP [none] (uY g (pY g n))=some (nums (pY g n)):=oY g _ fun a b=>by
  simp only[eP,E1,E2,E3,E4,E5,E6,E7,E8,E9,cw,ci,cD,cC,b6,cQ,cE,cK,cv,cz,cy,cu,cM,b5,cI,ca,cr,cf,cB,cA,cG,cc,b7,cF,cg,cH,cj,cJ,b3,cO,b8,cx,ck,ce,cP,cN,b9,cb,cq,Nat.reduceAdd,Nat.reduceSub,Nat.reduceLeDiff,Nat.reduceLT,Nat.reduceEqDiff,Int.reduceLT,Int.reduceLE,Int.reduceAdd,Int.reduceSub,Int.reduceMul,Int.reduceMod,Int.reduceDiv,Int.reduceNeg,Int.reduceToNat,Int.reducePow,Int.reduceEq]
 have hk0:=Int.emod_nonneg (up xs n:Int) (show (5:Int)≠0 by decide)
 have hk5:=Int.emod_lt_of_pos (up xs n:Int) (show (0:Int)<5 by decide)
 obtain⟨us,z6,z7,r,el⟩:=so (s2:=some (.val (.lst (uY g (pY g n))))) hx hn (ic g n) hk0 hk5 ((List.range (n - 1)).map (·+1)) (List.range n) none none (fun k hk=>by
  obtain⟨j,hj,rfl⟩:=List.mem_map.mp hk
  have:=List.mem_range.mp hj
  omega) (.range (ic g n))
 refine⟨us,⟨by rw[r.len];exact h1,by rw[r.len];exact hn,ur r⟩,r.len,?_⟩
 have hl:n<1000:=by omega
 simp only[mi,fI,E1,E2,E3,E4,E5,E6,E7,E8,E9,cw,ci,cD,cC,b6,cQ,cE,cK,cv,cz,cy,cu,cM,b5,cI,ca,cr,cf,cB,cA,cG,cc,b7,cF,cg,cH,cj,cJ,b3,cO,b8,cx,ck,ce,cP,cN,b9,cb,cq,Nat.reduceAdd,Nat.reduceSub,Nat.reduceLeDiff,Nat.reduceLT,Nat.reduceEqDiff,Int.reduceLT,Int.reduceLE,Int.reduceAdd,Int.reduceSub,Int.reduceMul,Int.reduceMod,Int.reduceDiv,Int.reduceNeg,Int.reduceToNat,Int.reducePow,Int.reduceEq,K1 (show n≤100000 by omega),K2 (show n≤100000 by omega),List.length_range,hl,e1,my g n (by omega),qh,sD,e2,am hx,el]
end Dp
end
section
namespace Lo
open PySem PySem.Spec L2 Fo Pu Dp
theorem d6 (us:List Nat)(n:Nat):iW us (n+1)=pi (iW us n) (hd us n) n:=by
 unfold iW;rw[List.range_succ,List.foldl_append];rfl
theorem BP (acc:List (Nat×List Nat))(h x:Nat):(pi acc h x).length≤acc.length+1:=by
 unfold pi;split
 ·rw[List.length_map];omega
 ·rw[List.length_append];simp
theorem la (us:List Nat):∀n,(iW us n).length≤n
 |0=>Nat.le_refl _
 |n+1=>by rw[d6];have:=BP (iW us n) (hd us n) n;have:=la us n;omega
theorem xU {acc:List (Nat×List Nat)}{h x m:Nat}(ha:∀t∈acc,t.2.length≤m):∀t∈pi acc h x,t.2.length≤m+1:=by
 unfold pi
 intro t ht
 split at ht
 ·obtain⟨u,hu,rfl⟩:=List.mem_map.mp ht
  have:=ha u hu
  split
  ·simp;omega
  ·omega
 ·rcases List.mem_append.mp ht with ht|ht
  ·have:=ha t ht;omega
  ·rw[List.mem_singleton] at ht;subst ht;simp
theorem mL (us:List Nat):∀n,∀t∈iW us n,t.2.length≤n
 |0=>fun t ht=>absurd ht (List.not_mem_nil)
 |n+1=>by rw[d6];exact xU (mL us n)
noncomputable abbrev At:=Nat×List Nat×Addr
noncomputable def kv (t:At):cW×V:=(.inl (t.1:Int),.ref t.2.2)
noncomputable def G2 (t:At):Nat×List Nat:=(t.1,t.2.1)
noncomputable def nv (n:Nat):V:=.int (n:Int)
noncomputable def i3 (acc:List At)(h x:Nat)(l:Addr):List At:=
 if acc.any (fun t=>decide (t.1=h)) then acc.map (fun t=>if t.1=h then (t.1,t.2.1++[x],t.2.2) else t) else acc++[(h,[x],l)]
theorem EF (acc:List At)(h:Nat):(acc.map G2).any (fun t=>decide (t.1=h))=acc.any (fun t=>decide (t.1=h)):=by rw[List.any_map];rfl
theorem sU (acc:List At)(h x:Nat)(l:Addr):(i3 acc h x l).map G2=pi (acc.map G2) h x:=by
 unfold i3 pi
 rw[EF]
 split
 ·rw[List.map_map,List.map_map]
  refine List.map_congr_left fun t _=>?_
  show G2 (if t.1=h then _ else _)=if t.1=h then _ else _
  split<;>rfl
 ·rw[List.map_append];rfl
theorem Ft (a b:Nat):decide ((Sum.inl (a:Int):cW)=Sum.inl (b:Int))=decide (a=b):=by
 rw[Bool.eq_iff_iff,decide_eq_true_iff,decide_eq_true_iff]
 constructor
 ·intro e;have:=Sum.inl.inj e;omega
 ·intro e;rw[e]
theorem uf (h:Nat):∀acc:List At,iB (acc.map kv) (.inl (h:Int))=(acc.find? fun t=>decide (t.1=h)).map fun t=>.ref t.2.2
 |[]=>rfl
 |t::acc=>by
  rw[List.map_cons,List.find?_cons]
  by_cases e:t.1=h
  ·rw[kD (show (kv t).1=_ by show (Sum.inl (t.1:Int):cW)=_;rw[e]),decide_eq_true e];rfl
  ·rw[kM (show ¬(kv t).1=_ from fun z=>e (by have:=Sum.inl.inj z;omega)),decide_eq_false e]
   exact uf h acc
theorem Io (h:Nat)(acc:List At):((acc.map kv).any fun p=>decide (p.1=(Sum.inl (h:Int):cW)))=acc.any (fun t=>decide (t.1=h)):=by
 rw[List.any_map]
 congr 1
 funext t
 exact Ft t.1 h
structure St (F H F1 H1:Hp)(d:Addr)(acc:List At):Prop where
 gr:Grow F H F1 H1
 d0:H d=none
 dF:F1 d=none
 dH:H1 d=some (.dK (acc.map kv))
 ls:∀t∈acc,H t.2.2=none/\F1 t.2.2=none/\H1 t.2.2=some (.lst (t.2.1.map nv))
 nd:(acc.map (·.2.2)).Nodup
 nk:(acc.map (·.1)).Nodup
theorem St.grow {F H F1 H1 F2 H2:Hp}{d:Addr}{acc:List At}(s:St F H F1 H1 d acc)(g:Grow F1 H1 F2 H2):St F H F2 H2 d acc:=by
 have k:=g.keep s.dF s.dH
 refine⟨s.gr.trans g,s.d0,k.1,k.2,fun t ht=>?_,s.nd,s.nk⟩
 obtain⟨a,b,c⟩:=s.ls t ht
 have k:=g.keep b c
 exact⟨a,k.1,k.2⟩
theorem Grow.mut {F H F1 H1:Hp}(g:Grow F H F1 H1){l:Addr}{o:HO}(h0:H l=none)(hF:F1 l=none):Grow F H F1 (L2.upd H1 l o):=by
 refine⟨fun b u e=>?_,g.ff,fun b u e=>?_,g.nw⟩
 ·rw[ai fun z=>by subst z;rw[h0] at e;cases e];exact g.hh b u e
 ·rw[ai fun z=>by subst z;rw[hF] at e;cases e];exact g.fh b u e
theorem sV {acc:List At}{h:Nat}{t:At}(e:acc.find? (fun t=>decide (t.1=h))=some t):t∈acc/\t.1=h:=⟨List.mem_of_find?_eq_some e,by simpa using List.find?_some e⟩
theorem St.found {F H F1 H1:Hp}{d:Addr}{acc:List At}(s:St F H F1 H1 d acc){h x:Nat}{t:At}(e:acc.find? (fun t=>decide (t.1=h))=some t)(l:Addr):St F H F1 (L2.upd H1 t.2.2 (.lst (t.2.1.map nv++[nv x]))) d (i3 acc h x l):=by
 obtain⟨hm,hk⟩:=sV e
 obtain⟨a,b,c⟩:=s.ls t hm
 have hany:acc.any (fun t=>decide (t.1=h))=true:=List.any_eq_true.mpr ⟨t,hm,by simpa using hk⟩
 have one:∀u∈acc,u.1=h->u=t:=fun u hu hh=>by
  have nk:=s.nk
  obtain⟨i,hi,rfl⟩:=List.mem_iff_getElem.mp hu
  obtain⟨j,hj,rfl⟩:=List.mem_iff_getElem.mp hm
  have:(acc.map (·.1))[i]'(by simpa using hi)=(acc.map (·.1))[j]'(by simpa using hj):=by simp[hh,hk]
  have:=(List.getElem_inj nk).mp this
  subst this;rfl
 have ad:∀u∈acc,u≠t->u.2.2≠t.2.2:=fun u hu hne z=>by
  have nd:=s.nd
  obtain⟨i,hi,rfl⟩:=List.mem_iff_getElem.mp hu
  obtain⟨j,hj,rfl⟩:=List.mem_iff_getElem.mp hm
  have:(acc.map (·.2.2))[i]'(by simpa using hi)=(acc.map (·.2.2))[j]'(by simpa using hj):=by simp[z]
  have:=(List.getElem_inj nd).mp this
  subst this;exact hne rfl
 have hd:d≠t.2.2:=fun z=>by rw[←z,s.dH] at c;cases c
 have e1:(i3 acc h x l).map kv=acc.map kv:=by
  unfold i3;rw[if_pos hany,List.map_map]
  refine List.map_congr_left fun u _=>?_
  show kv (if u.1=h then _ else _)=kv u
  split<;>rfl
 have e2:(i3 acc h x l).map (·.2.2)=acc.map (·.2.2):=by
  unfold i3;rw[if_pos hany,List.map_map]
  refine List.map_congr_left fun u _=>?_
  show (if u.1=h then (u.1,u.2.1++[x],u.2.2) else u).2.2=u.2.2
  split<;>rfl
 have e3:(i3 acc h x l).map (·.1)=acc.map (·.1):=by
  unfold i3;rw[if_pos hany,List.map_map]
  refine List.map_congr_left fun u _=>?_
  show (if u.1=h then (u.1,u.2.1++[x],u.2.2) else u).1=u.1
  split<;>rfl
 refine⟨Grow.mut s.gr a b,s.d0,s.dF,by rw[e1,ai hd];exact s.dH,fun u hu=>?_,by rw[e2];exact s.nd,by rw[e3];exact s.nk⟩
 unfold i3 at hu;rw[if_pos hany] at hu
 obtain⟨u,hu',rfl⟩:=List.mem_map.mp hu
 obtain⟨a',b',c'⟩:=s.ls u hu'
 by_cases q:u.1=h
 ·rw[if_pos q]
  have:=one u hu' q
  subst this
  exact⟨a',b',by rw[ah,List.map_append];rfl⟩
 ·rw[if_neg q]
  refine⟨a',b',?_⟩
  rw[ai (ad u hu' fun z=>q (by rw[z];exact hk))];exact c'
theorem St.fresh {F H F1 H1:Hp}{d:Addr}{acc:List At}(s:St F H F1 H1 d acc){h x:Nat}{l:Addr}(e:acc.find? (fun t=>decide (t.1=h))=none)(hl:H1 l=none) :
  St F H F1 (L2.upd (L2.upd (L2.upd H1 l (.lst [])) d (.dK (ja (acc.map kv) (.inl (h:Int)) (.ref l)))) l (.lst [nv x])) d (i3 acc h x l):=by
 have hany:acc.any (fun t=>decide (t.1=h))=false:=by
  rw[Bool.eq_false_iff]
  intro z
  obtain⟨t,ht,q⟩:=List.any_eq_true.mp z
  have:=List.find?_eq_none.mp e t ht
  exact this q
 have hdl:d≠l:=fun z=>by rw[z] at s;rw[s.dH] at hl;cases hl
 have l0:H l=none:=s.gr.hh.free hl
 have lF:F1 l=none:=s.gr.fh.free hl
 have ep:ja (acc.map kv) (.inl (h:Int)) (.ref l)=(i3 acc h x l).map kv:=by
  unfold ja i3
  rw[Io,hany]
  show (acc.map kv)++_=(acc++_).map kv
  rw[List.map_append];rfl
 have hne:∀t∈acc,t.2.2≠l:=fun t ht z=>by have:=(s.ls t ht).2.2;rw[z,hl] at this;cases this
 have hnd:∀t∈acc,t.2.2≠d:=fun t ht z=>by have:=(s.ls t ht).2.2;rw[z,s.dH] at this;cases this
 have pa:i3 acc h x l=acc++[(h,[x],l)]:=by unfold i3;rw[hany];rfl
 refine⟨Grow.mut (Grow.mut (Grow.mut s.gr l0 lF) s.d0 s.dF) l0 lF,s.d0,s.dF,?_,fun t ht=>?_,?_,?_⟩
 ·rw[ai hdl,ah,ep]
 ·rw[pa] at ht
  rcases List.mem_append.mp ht with ht|ht
  ·obtain⟨a,b,c⟩:=s.ls t ht
   exact⟨a,b,by rw[ai (hne t ht),ai (hnd t ht),ai (hne t ht)];exact c⟩
  ·rw[List.mem_singleton] at ht;subst ht
   exact⟨l0,lF,ah⟩
 ·rw[pa,List.map_append,List.nodup_append]
  refine⟨s.nd,by simp,fun a ha b hb=>?_⟩
  obtain⟨t,ht,rfl⟩:=List.mem_map.mp ha
  simp at hb;subst hb
  exact hne t ht
 ·rw[pa,List.map_append,List.nodup_append]
  refine⟨s.nk,by simp,fun a ha b hb=>?_⟩
  obtain⟨t,ht,rfl⟩:=List.mem_map.mp ha
  simp at hb;subst hb
  have:=List.find?_eq_none.mp e t ht
  simpa using this
noncomputable abbrev L9 (K:PySem.W.Frag):List V->Hp->VK->Prop:=fun xs H Q=>∃x n,xs=[x]/\IX K x H n/\Q (.int n) H
noncomputable abbrev PL (K:PySem.W.Frag):List V->Hp->VK->Prop:=fun xs H Q=>∃p ys,xs=[.ref p]/\((SqL K H p ys/\∀l,H l=none->Q (.ref l) (L2.upd H l (.tup ys)))\/(SqT K H p ys/\Q (.ref p) H))
noncomputable def Bd (K:PySem.W.Frag)(spW:Sp):TS:=DX (ir (LK (L2.eg K) (hX spW [] E0 (gB (gz 0) (gB (gz 2) kZ))) (Rs (rU fun i=>.int (-i)) (tC (.int 1)))) (dm 3))
  (lV (O6 K "list" mx (AQ (gz 1) (gz 3) (M3 kZ)) (gB (gz 2) kZ)))
noncomputable def yW (K:PySem.W.Frag):TS:=MV (gJ [none] (GN (gz 1)) (dm 0) Hm (Be (PL K) (gB (gz 0) kZ)))
noncomputable def GT (K:PySem.W.Frag)(spW:Sp):TS:=DX (ir yQ (dm 1)) (DX (xI (rl (gB (Be (L9 K) (gB (gz 0) kZ)) kZ)) (dm 2) (Bd K spW)) (yW K))
theorem pW {K:PySem.W.Frag}{F:Hp}:∀l:List Nat,Reps K F (nums l) (l.map nv)
 |[]=>rfl
 |_::l=>⟨_,_,rfl,rfl,pW l⟩
theorem xc {K:PySem.W.Frag}{F H:Hp}{u:Addr}{us:List Nat}(f:Frst us)(sm:Same F H)(hu:F u=some (.tup (us.map nv))){Q:VK}{N:L2.St->Hp->Prop}
  (q:∀a vs F' H',Grow F H F' H'->H a=none->F' a=none->H' a=some (.lst vs)->Reps K F' (i4 us) vs->Q (.ref a) H'):GT K (aN K (aW Dp.ax)) { nx:=N,rt:=Q } [some (.ref u),none,none,none] H:=by
 intro d hd
 have hm:=f.most
 have hud:u≠d:=fun z=>by rw[←z,sm u _ hu] at hd;cases hd
 show xI (rl (gB (Be (L9 K) (gB (gz 0) kZ)) kZ)) (dm 2) (Bd K (aN K (aW Dp.ax))) { nx:=yW K { nx:=N,rt:=Q },rt:=Q } [some (V.ref u),some (V.ref d),none,none] (L2.upd H d (.dK []))
 refine qZ (lo:=0) (n:=us.length) (H1:=L2.upd H d (.dK [])) (fun i σ H'=>∃F1 acc z2 z3,σ=[some (.ref u),some (.ref d),z2,z3]/\St F H F1 H' d acc/\acc.map G2=iW us i) (fun R r=>?_) ?_ (fun i σ H' hi ⟨F1,acc,z2,z3,es,s,ea⟩=>?_) (fun σ H' ⟨F1,acc,z2,z3,es,s,ea⟩=>?_)
 ·refine⟨_,rfl,.ref u,us.length,rfl,.inr ⟨us.map nv,SqT.of (by rw[ai hud];exact sm u _ hu),by rw[List.length_map]⟩,(us.length:Int),rfl,by omega,by omega,?_⟩
  rw[Int.toNat_natCast];exact r
 ·exact⟨F,[],none,none,rfl,⟨Grow.mut (.refl sm) hd (sm.free hd),hd,sm.free hd,ah,fun t ht=>absurd ht (List.not_mem_nil),List.nodup_nil,List.nodup_nil⟩,rfl⟩
 ·subst es
  have hla:acc.length≤i:=by rw[←List.length_map (f:=G2),ea];exact la us i
  have hll:∀t∈acc,t.2.1.length≤i:=fun t ht=>mL us i (G2 t) (by rw[←ea];exact List.mem_map_of_mem ht)
  refine⟨_,rfl,_,rfl,?_⟩
  refine⟨F1,[.tup (nums us),.int i],fun r=>r=.n (nums (way us i)),s.gr.fh,?_,⟨_,Dp.lW (.inl rfl) f hi,rfl⟩,fun r v F2 H2 er g rr=>?_⟩
  ·refine⟨_,_,rfl,⟨u,_,rfl,s.gr.ff u _ hu,pW us⟩,_,_,rfl,?_,rfl⟩
   show V.int (0+(i:Int))=V.int i
   rw[Int.zero_add]
  ·subst er
   obtain⟨a,vs,rfl,h0,hF,hH,rs⟩:=rr
   have s2:=s.grow g
   have ne:=(aP f.fst hi).ne
   obtain⟨v,ev,rv⟩:=rs.atI (Pu.oV ne)
   cases (show v=V.int (dZ (way us i):Nat) from rv)
   refine⟨1,rfl,.inl ⟨a,vs,-1,_,rfl,rfl,SqL.of hH,ev,?_⟩⟩
   refine⟨_,rfl,d,rfl,.inl ⟨_,.inl s2.dH⟩,_,rfl,Nat.zero_le _,fun l hl=>?_⟩
   have hdl:d≠l:=fun z=>by rw[←z,s2.dH] at hl;cases hl
   have s3:=s2.grow (Grow.newO s2.gr.fh hl (.lst []))
   have big:∀k,k≤40->k<sizeLine:=fun k hk=>Nat.lt_of_le_of_lt hk (by decide)
   refine⟨acc.map kv,.inl ((Fo.hd us i:Nat):Int),s3.dH,rfl,by rw[List.length_map];exact big _ (by omega),fun v e=>?_,fun e=>?_⟩
   ·rw[uf] at e
    obtain⟨t,et,rfl⟩:=Option.map_eq_some_iff.mp e
    obtain⟨tm,tk⟩:=sV et
    obtain⟨b0,b1,b2⟩:=s3.ls t tm
    refine⟨.inl ⟨rfl,_,SqL.of b2⟩,_,rfl,t.2.2,_,_,rfl,rfl,b2,by rw[List.length_map];exact big _ (by have:=hll t tm;omega),F2,i3 acc (Fo.hd us i) i l,_,_,rfl,?_,?_⟩
    ·have:=s3.found et (x:=i) l
     rw[show V.int (0+(i:Int))=nv i by rw[Int.zero_add];rfl]
     exact this
    ·rw[sU,ea,d6]
   ·rw[uf] at e
    have en:acc.find? (fun t=>decide (t.1=Fo.hd us i))=none:=Option.map_eq_none_iff.mp e
    have hl4:(L2.upd (L2.upd H2 l (.lst [])) d (.dK (ja (acc.map kv) (.inl ((Fo.hd us i:Nat):Int)) (.ref l)))) l=some (.lst []):=by rw[ai (Ne.symm hdl),ah]
    refine⟨.inl ⟨rfl,_,SqL.of hl4⟩,_,rfl,l,_,_,rfl,rfl,hl4,big 0 (by decide),F2,i3 acc (Fo.hd us i) i l,_,_,rfl,?_,?_⟩
    ·have:=s2.fresh (x:=i) en hl
     rw[show V.int (0+(i:Int))=nv i by rw[Int.zero_add];rfl]
     exact this
    ·rw[sU,ea,d6]
 ·subst es
  have hla:acc.length≤us.length:=by rw[←List.length_map (f:=G2),ea];exact la us _
  refine⟨_,rfl,d,acc.map kv,rfl,s.dH,fun ob=>?_⟩
  refine⟨fun i ys Hc=>i≤acc.length/\∃Fc,Grow F H Fc Hc/\Hc d=some (.frz ob (.dK (acc.map kv)))/\(∀t∈acc,Hc t.2.2=some (.lst (t.2.1.map nv)))/\Reps K Fc ((acc.take i).map fun t=>PV.tup (nums t.2.1)) ys,acc.length,⟨Nat.zero_le _,F1,Grow.mut s.gr s.d0 s.dF,ah,fun t ht=>?_,rfl⟩,fun i ys Hc ⟨hi,Fc,g,h1,h2,h3⟩=>⟨hi,?_⟩,fun i ys Hc ⟨hi,Fc,g,h1,h2,h3⟩=>?_⟩
  ·have:=(s.ls t ht).2.2
   rw[ai fun z=>by rw[z,s.dH] at this;cases this];exact this
  ·rw[h3.length,List.length_map,List.length_take]
   exact Nat.lt_of_le_of_lt (show min i acc.length≤40 by omega) (by decide)
  ·by_cases hlt:i<acc.length
   ·refine .inr ⟨⟨h1,by rw[List.length_map];exact hlt⟩,fun x H'' ⟨eH,ex⟩=>?_⟩
    subst eH
    rw[List.getElem?_map,List.getElem?_eq_getElem hlt] at ex
    cases ex
    have hmem:acc[i]∈acc:=List.getElem_mem hlt
    have hc:=h2 _ hmem
    refine⟨_,rfl,acc[i].2.2,acc[i].2.1.map nv,rfl,.inl ⟨SqL.of hc,fun l hl=>⟨hlt,L2.upd Fc l (.tup (acc[i].2.1.map nv)),g.trans (.new g.fh hl _),?_,fun t ht=>?_,?_⟩⟩⟩
    ·rw[ai fun z=>by rw[←z,h1] at hl;cases hl];exact h1
    ·have:=h2 t ht
     rw[ai fun z=>by rw[z,hl] at this;cases this];exact this
    ·rw[List.take_succ_eq_append_getElem hlt,List.map_append]
     exact (h3.mono (aM (g.fh.free hl) _)).app (.one ⟨l,_,rfl,ah,pW _⟩)
   ·have hi':i=acc.length:=by omega
    subst hi'
    refine .inl ⟨⟨h1,by rw[List.length_map];exact Nat.le_refl _⟩,fun l hl=>q l ys Fc _ (g.trans (.newO g.fh hl _)) (g.hh.free hl) (g.fh.free hl) ah ?_⟩
    have e:i4 us=(acc.take acc.length).map fun t=>PV.tup (nums t.2.1):=by
     unfold i4 lots
     rw[List.take_length,←ea,List.map_map,List.map_map];rfl
    rw[e];exact h3
end Lo
end
section
namespace Dp
open PySem PySem.Spec L2 Pu Fo Lo
theorem A9 {P:Program}{w:World}{K:PySem.W.Frag}{mg:Str->Option Value}{base:Heap}{x:Str}{st:Stmt}{k:Nat}(F:FunD K mg x st ["ups"])(S:FnScope ["ups","lots","x","head"] ["ups"] (aa st))
  (hb:∀(f:Addr) (cdv:Value) (A:Around) (outer:List Env) (s:Shared) (H:Hp) (E:XK),Room k (A.deeper (PyProof.Rows.envOfC x (aa st) s.heap.objs.size f cdv))->PSs (kE rZ P w K mg base ["ups","lots","x","head"] x (aa st) f cdv A outer s H E).nox (ak st) (GT K (aN K (aW ax)))) :
  Def P w K mg base (k+1) x ["ups"] (aN K (aW cY)):=by
 refine F.ok S (fun vs H Q E ⟨F',qs,Qp,sm,r,⟨res,e,q⟩,kk⟩=>?_) (fun f cdv A outer s H vs Q E hr ⟨F',qs,Qp,sm,r,⟨res,e,q⟩,kk⟩=>⟨_,hb f cdv A outer s H E hr,?_⟩)
 ·unfold cY at e
  split at e
  ·rw[r.length];rfl
  ·cases e
 ·unfold cY at e
  split at e
  ·split at e
   ·next us eu=>
    split at e
    ·next z=>
     cases e
     obtain⟨v,t,rfl,⟨u,ws,rfl,hu,ru⟩,ht⟩:=r
     cases (show t=[] from ht)
     rw[x8 eu] at ru
     have ew:ws=us.map nv:=kC ru
     subst ew
     exact xc (yG z) sm hu fun a vs F2 H2 g h0 hF hH rs=>kk _ _ F2 H2 q g ⟨a,vs,rfl,h0,hF,hH,rs⟩
    ·cases e
   ·cases e
  ·cases e
end Dp
end
section
namespace Fo
open PySem L2
theorem uk {p:List Nat}(nd:p.Nodup){i j:Nat}(hi:i<p.length)(hj:j<p.length)(e:up p i=up p j):i=j:=by
 have e1:up p i=p[i]:=by simp[up,hi]
 have e2:up p j=p[j]:=by simp[up,hj]
 rw[e1,e2] at e
 exact (List.getElem_inj nd).mp e
structure Chn (p us:List Nat):Prop where
 pos:1≤p.length
 nd:p.Nodup
 lt:∀k,k<p.length->up p k<us.length
 nx:∀k,k+1<p.length->up us (up p k)=up p (k+1)
 tp:up us (up p (p.length - 1))=up p (p.length - 1)
theorem s5 {y:Str}(hy:y∈v5):y = "none"\/y = "whole"\/y = "halves"\/y = "splits"\/y = "one":=by simpa [v5] using hy
theorem n1:(("halves" : Str) = "whole")=False:=eq_false (by decide)
theorem n2:(("halves" : Str) = "splits")=False:=eq_false (by decide)
theorem n3:(("splits" : Str) = "whole")=False:=eq_false (by decide)
theorem n4:(("one" : Str) = "whole")=False:=eq_false (by decide)
theorem n5:(("one" : Str) = "splits")=False:=eq_false (by decide)
theorem n6:(("one" : Str) = "halves")=False:=eq_false (by decide)
theorem n7:(("none" : Str) = "whole")=False:=eq_false (by decide)
theorem n8:(("none" : Str) = "splits")=False:=eq_false (by decide)
end Fo
end
section
namespace Dp
open PySem L2 Fo Pu Lo
theorem wE {p:PV}{us:List Nat}(hp:p=.tup (nums us)\/p=.lst (nums us))(hm:us.length≤40)(hb:∀x,x<us.length->up us x<us.length){s1:Option Sl}{y:Nat}{l2:List Nat}(w:Way us y l2):∀(pre:List Nat),pre.length+l2.length≤us.length->y<us.length →
  ∀n,l2.length<n->dP dL fj n [some (.val p),s1,some (.own (nums (pre++[y])))]=.nx [some (.val p),s1,some (.own (nums (pre++l2)))]:=by
 induction w with
 | @head y e=>
  intro pre hl hy n hn
  obtain⟨n,rfl⟩:∃k,n=k+1:=⟨n - 1,by simp at hn;omega⟩
  rw[mn]
  rcases hp with rfl|rfl <;>
   simp only[dL,E1,E2,E3,E4,E5,E6,E7,E8,E9,cw,ci,cD,cC,b6,cQ,cE,cK,cv,cz,cy,cu,cM,b5,cI,ca,cr,cf,cB,cA,cG,cc,b7,cF,cg,cH,cj,cJ,b3,cO,b8,cx,ck,ce,cP,cN,b9,cb,cq,Nat.reduceAdd,Nat.reduceSub,Nat.reduceLeDiff,Nat.reduceLT,Nat.reduceEqDiff,Int.reduceLT,Int.reduceLE,Int.reduceAdd,Int.reduceSub,Int.reduceMul,Int.reduceMod,Int.reduceDiv,Int.reduceNeg,Int.reduceToNat,Int.reducePow,Int.reduceEq,Pu.hZ,am hy,e]
 | @step y l ne w ih=>
  intro pre hl hy n hn
  obtain⟨n,rfl⟩:∃k,n=k+1:=⟨n - 1,by simp at hn;omega⟩
  have ih:=ih (pre++[y]) (by simp at hl ⊢;omega) (hb y hy) n (by simp at hn;omega)
  rw[List.append_assoc,List.append_assoc] at ih
  have pos:=w.pos
  have hne:decide ((up us y:Int)=(y:Int))=false:=decide_eq_false (by omega)
  have hpl:(pre++[y]).length≤100000:=by simp at hl ⊢;omega
  have hle:decide (((pre++[y]).length:Int)≤(us.length:Int))=true:=decide_eq_true (by simp at hl ⊢;omega)
  rw[mn]
  rcases hp with rfl|rfl <;>
   (simp only[dL,fj,E1,E2,E3,E4,E5,E6,E7,E8,E9,cw,ci,cD,cC,b6,cQ,cE,cK,cv,cz,cy,cu,cM,b5,cI,ca,cr,cf,cB,cA,cG,cc,b7,cF,cg,cH,cj,cJ,b3,cO,b8,cx,ck,ce,cP,cN,b9,cb,cq,Nat.reduceAdd,Nat.reduceSub,Nat.reduceLeDiff,Nat.reduceLT,Nat.reduceEqDiff,Int.reduceLT,Int.reduceLE,Int.reduceAdd,Int.reduceSub,Int.reduceMul,Int.reduceMod,Int.reduceDiv,Int.reduceNeg,Int.reduceToNat,Int.reducePow,Int.reduceEq,Pu.hZ,am hy,hne,hle,hpl,lm,List.append_assoc];exact ih)
theorem Ls {p:PV}{us:List Nat}(hp:p=.tup (nums us)\/p=.lst (nums us))(f:Frst us){x:Nat}(hx:x<us.length):dr [p,.int x]=some (.n (nums (way us x))):=by
 have hl:=p8 f.fst hx
 have hm:=f.most
 have e:=wE hp f.most f.fst.bnd (s1:=some (.val (.int x))) (aP f.fst hx) [] (by simpa using hl) hx 10000 (by omega)
 rw[List.nil_append,List.nil_append] at e
 have e':dP dL fj 10000 [some (.val p),some (.val (.int x)),some (.own [.int x])]=_:=e
 simp only[qQ,ip,E1,E2,E3,E4,E5,E6,E7,E8,E9,cw,ci,cD,cC,b6,cQ,cE,cK,cv,cz,cy,cu,cM,b5,cI,ca,cr,cf,cB,cA,cG,cc,b7,cF,cg,cH,cj,cJ,b3,cO,b8,cx,ck,ce,cP,cN,b9,cb,cq,Nat.reduceAdd,Nat.reduceSub,Nat.reduceLeDiff,Nat.reduceLT,Nat.reduceEqDiff,Int.reduceLT,Int.reduceLE,Int.reduceAdd,Int.reduceSub,Int.reduceMul,Int.reduceMod,Int.reduceDiv,Int.reduceNeg,Int.reduceToNat,Int.reducePow,Int.reduceEq,e']
theorem qg {us:List Nat}(f:Frst us){x:Nat}(hx:x<us.length):L2.atI (nums (way us x)) (-1)=some (.int (hd us x:Nat)):=Pu.oV (aP f.fst hx).ne
theorem kY {us:List Nat}(f:Frst us){x:Nat}(hx:x<us.length):bG [.tup (nums us),.int x]=some (.v (.int (hd us x:Nat))):=by
 simp only[sZ,iR,E1,E2,E3,E4,E5,E6,E7,E8,E9,cw,ci,cD,cC,b6,cQ,cE,cK,cv,cz,cy,cu,cM,b5,cI,ca,cr,cf,cB,cA,cG,cc,b7,cF,cg,cH,cj,cJ,b3,cO,b8,cx,ck,ce,cP,cN,b9,cb,cq,Nat.reduceAdd,Nat.reduceSub,Nat.reduceLeDiff,Nat.reduceLT,Nat.reduceEqDiff,Int.reduceLT,Int.reduceLE,Int.reduceAdd,Int.reduceSub,Int.reduceMul,Int.reduceMod,Int.reduceDiv,Int.reduceNeg,Int.reduceToNat,Int.reducePow,Int.reduceEq,sQ f hx,lW (.inl rfl) f hx,qg f hx]
theorem nr {us:List Nat}(f:Frst us){x:Nat}(hx:x<us.length):dw [.tup (nums us),.int x]=some (.v (.tup (nums (way us x)))):=by
 simp only[ub,jR,E1,E2,E3,E4,E5,E6,E7,E8,E9,cw,ci,cD,cC,b6,cQ,cE,cK,cv,cz,cy,cu,cM,b5,cI,ca,cr,cf,cB,cA,cG,cc,b7,cF,cg,cH,cj,cJ,b3,cO,b8,cx,ck,ce,cP,cN,b9,cb,cq,Nat.reduceAdd,Nat.reduceSub,Nat.reduceLeDiff,Nat.reduceLT,Nat.reduceEqDiff,Int.reduceLT,Int.reduceLE,Int.reduceAdd,Int.reduceSub,Int.reduceMul,Int.reduceMod,Int.reduceDiv,Int.reduceNeg,Int.reduceToNat,Int.reducePow,Int.reduceEq,sQ f hx,lW (.inl rfl) f hx]
theorem xP {us:List Nat}(f:Frst us):aw [.tup (nums us)]=some (.n (i4 us)):=by
 simp only[tJ,i9,E1,E2,E3,E4,E5,E6,E7,E8,E9,cw,ci,cD,cC,b6,cQ,cE,cK,cv,cz,cy,cu,cM,b5,cI,ca,cr,cf,cB,cA,cG,cc,b7,cF,cg,cH,cj,cJ,b3,cO,b8,cx,ck,ce,cP,cN,b9,cb,cq,Nat.reduceAdd,Nat.reduceSub,Nat.reduceLeDiff,Nat.reduceLT,Nat.reduceEqDiff,Int.reduceLT,Int.reduceLE,Int.reduceAdd,Int.reduceSub,Int.reduceMul,Int.reduceMod,Int.reduceDiv,Int.reduceNeg,Int.reduceToNat,Int.reducePow,Int.reduceEq,kQ f,xq f]
theorem lots_congr {us us':List Nat}(hl:us'.length=us.length)(h:∀t,t<us.length->hd us' t=hd us t):i4 us'=i4 us:=by
 have e:∀n,n≤us.length->iW us' n=iW us n:=fun n=>by
  induction n with
  |zero=>intro _;rfl
  |succ n ih=>intro hn;rw[d6,d6,ih (by omega),h n (by omega)]
 unfold i4 lots
 rw[hl,e _ (Nat.le_refl _)]
theorem lU:∀l:List (List Nat),az (l.map fun u=>PV.tup (nums u))=true
 |[]=>by rw[List.map_nil,az]
 |u::l=>by rw[List.map_cons,az,Pu.ay,aV,lU l];rfl
theorem o0:∀l:List (List Nat),bP (l.map fun u=>PV.tup (nums u))≤1
 |[]=>by rw[List.map_nil,bP];omega
 |u::l=>by rw[List.map_cons,bP,kl,dE];have:=o0 l;omega
theorem nB (t:Nat):∀l:List Nat,pin (.int t) (nums l)=decide (t∈l)
 |[]=>rfl
 |u::l=>by
  show (g9 (.int (u:Int)) (.int (t:Int)) || pin (.int t) (nums l))=_
  rw[wo,nB t l]
  by_cases h:u=t
  ·subst h;simp
  ·have h':¬((u:Int)=(t:Int)):=by omega
   rw[decide_eq_false h',Bool.false_or]
   have:t≠u:=fun z=>h z.symm
   simp[List.mem_cons,this]
end Dp
end
section
namespace Dp
open PySem L2 Fo Pu
theorem uk {p:List Nat}(nd:p.Nodup){i j:Nat}(hi:i<p.length)(hj:j<p.length)(e:up p i=up p j):i=j:=by
 have e1:up p i=p[i]:=by simp[up,hi]
 have e2:up p j=p[j]:=by simp[up,hj]
 rw[e1,e2] at e
 exact (List.getElem_inj nd).mp e
structure Lad (p us:List Nat):Prop where
 len:us.length=p.length
 nx:∀k,k+1<p.length->up us (up p k)=up p (k+1)
 tp:up us (up p (p.length - 1))=up p (p.length - 1)
theorem CC {p:List Nat}(hp:p.Perm (List.range p.length)):∀k,k<p.length->up p k<p.length:=fun k hk=>by
 have e:up p k=p[k]:=by simp[up,hk]
 rw[e]
 exact List.mem_range.mp (hp.subset (List.getElem_mem hk))
structure Hgt (us:List Nat)(h:Nat):Prop where
 all:∀x,x<us.length->dp us x≤h
 one:∃x,x<us.length/\dp us x=h
theorem Hgt.lt {us:List Nat}{h:Nat}(f:Frst us)(g:Hgt us h):h<us.length:=by
 obtain⟨x,hx,rfl⟩:=g.one
 exact MB f.fst hx
theorem hW {us:List Nat}(f:Frst us):∃h:Nat,Hgt us h/\aD [.tup (nums us)]=some (.v (.int h)):=by
 have hm:=f.most
 have h1:=f.one
 have e:kO (gN 0) dh gd [none,some (.val (.tup (nums us)))] (nums (List.range us.length))=some ((List.range us.length).map fun x=>.int (dp us x:Nat)):=fo _ fun x hx=>by
  have hx':=List.mem_range.mp hx
  have hp:=(aP f.fst hx').pos
  have e1:((way us x).length:Int) - 1=(dp us x:Nat):=by unfold dp;omega
  simp only[gd,E1,E2,E3,E4,E5,E6,E7,E8,E9,cw,ci,cD,cC,b6,cQ,cE,cK,cv,cz,cy,cu,cM,b5,cI,ca,cr,cf,cB,cA,cG,cc,b7,cF,cg,cH,cj,cJ,b3,cO,b8,cx,ck,ce,cP,cN,b9,cb,cq,Nat.reduceAdd,Nat.reduceSub,Nat.reduceLeDiff,Nat.reduceLT,Nat.reduceEqDiff,Int.reduceLT,Int.reduceLE,Int.reduceAdd,Int.reduceSub,Int.reduceMul,Int.reduceMod,Int.reduceDiv,Int.reduceNeg,Int.reduceToNat,Int.reducePow,Int.reduceEq,lW (.inl rfl) f hx',e1]
 have hl:us.length<1000:=by omega
 have ei:db ((List.range us.length).map fun x=>PV.int (dp us x:Nat))=some ((List.range us.length).map fun x=>((dp us x:Nat):Int)):=by
  have:=jL ((List.range us.length).map fun x=>((dp us x:Nat):Int))
  rwa [List.map_map] at this
 obtain⟨m1,m2⟩:=pz (l:=(List.range us.length).map fun x=>((dp us x:Nat):Int)) (by rw[List.length_map,List.length_range];omega)
 obtain⟨x,hx,ex⟩:=List.mem_map.mp m1
 refine⟨dp us x,⟨fun t ht=>?_,x,List.mem_range.mp hx,rfl⟩,?_⟩
 ·have:=m2 _ (List.mem_map.mpr ⟨t,List.mem_range.mpr ht,rfl⟩)
  rw[←ex] at this
  omega
 ·have z:decide (us.length=0)=false:=decide_eq_false (by omega)
  have z':¬us.length=0:=by omega
  simp only[oh,gW,E1,E2,E3,E4,E5,E6,E7,E8,E9,cw,ci,cD,cC,b6,cQ,cE,cK,cv,cz,cy,cu,cM,b5,cI,ca,cr,cf,cB,cA,cG,cc,b7,cF,cg,cH,cj,cJ,b3,cO,b8,cx,ck,ce,cP,cN,b9,cb,cq,Nat.reduceAdd,Nat.reduceSub,Nat.reduceLeDiff,Nat.reduceLT,Nat.reduceEqDiff,Int.reduceLT,Int.reduceLE,Int.reduceAdd,Int.reduceSub,Int.reduceMul,Int.reduceMod,Int.reduceDiv,Int.reduceNeg,Int.reduceToNat,Int.reducePow,Int.reduceEq,kQ f,K1 (show us.length≤100000 by omega),List.length_range,hl,e,ei,List.length_map,z',if_false,←ex]
end Dp
end
section
namespace Pt
open L2 Fo
noncomputable def cl (n:Nat)(c:Nat->Nat)(x:Nat):List Nat:=(List.range n).filter fun y=>decide (c y=c x)
theorem mem_cl {n:Nat}{c:Nat->Nat}{x y:Nat}:y∈cl n c x↔y<n/\c y=c x:=by
 unfold cl;rw[List.mem_filter,List.mem_range,decide_eq_true_eq]
theorem kb {n:Nat}{c c':Nat->Nat}{x x':Nat}(h:∀y,y<n->(c y=c x↔c' y=c' x')):cl n c x=cl n c' x':=
 List.filter_congr fun y hy=>by rw[decide_eq_decide];exact h y (List.mem_range.mp hy)
theorem jC {n:Nat}{c:Nat->Nat}{x y:Nat}(hx:x<n):cl n c x=cl n c y↔c x=c y:=by
 constructor
 ·intro e
  exact (mem_cl.mp (e▸mem_cl.mpr ⟨hx,rfl⟩)).2
 ·intro e;exact kb fun z _=>by rw[e]
theorem lQ (n:Nat)(c:Nat->Nat)(x:Nat):(cl n c x).Pairwise (· < ·):=(List.pairwise_lt_range).filter _
theorem u7 (n:Nat)(c:Nat->Nat)(x:Nat):(cl n c x).length≤n:=by
 have:=List.length_filter_le (fun y=>decide (c y=c x)) (List.range n)
 rwa [List.length_range] at this
structure Part (n:Nat)(c:Nat->Nat)(ls:List (List Nat)):Prop where
 cls:∀l∈ls,∃x,x<n/\l=cl n c x
 all:∀x,x<n->cl n c x∈ls
 nd:ls.Nodup
 len:ls.length≤n
theorem Part.pick {n:Nat}{c:Nat->Nat}{ls:List (List Nat)}(P:Part n c ls){x:Nat}(hx:x<n):ls.filter (fun l=>decide (x∈l))=[cl n c x]:=by
 have e:ls.filter (fun l=>decide (x∈l))=ls.filter fun l=>l==cl n c x:=List.filter_congr fun l hl=>by
  obtain⟨z,hz,rfl⟩:=P.cls l hl
  rw[Bool.eq_iff_iff,decide_eq_true_eq,beq_iff_eq,mem_cl,jC hz]
  exact⟨fun h=>h.2.symm,fun h=>⟨hx,h.symm⟩⟩
 rw[e,List.filter_beq,P.nd.count,if_pos (P.all x hx)];rfl
noncomputable def jn (c:Nat->Nat)(x y:Nat):Nat->Nat:=fun z=>if c z=c x then c y else c z
theorem L6 {n:Nat}{c:Nat->Nat}{x y:Nat}(h:c x≠c y):lf ((cl n c x++cl n c y).map Int.ofNat)=(cl n (jn c x y) x).map Int.ofNat:=by
 refine (p6 (List.Perm.map _ ?_) ?_).symm
 ·refine (List.perm_ext_iff_of_nodup ((lQ n _ x).imp fun h=>Nat.ne_of_lt h) ?_).mpr fun z=>?_
  ·refine List.nodup_append.mpr ⟨(lQ n _ x).imp fun h=>Nat.ne_of_lt h,(lQ n _ y).imp fun h=>Nat.ne_of_lt h,fun a ha b hb e=>?_⟩
   subst e
   exact h ((mem_cl.mp ha).2.symm.trans (mem_cl.mp hb).2)
  ·rw[List.mem_append,mem_cl,mem_cl,mem_cl]
   unfold jn
   rw[if_pos rfl]
   by_cases e:c z=c x
   ·rw[if_pos e];exact⟨fun q=>.inl ⟨q.1,e⟩,fun q=>⟨q.elim (·.1) (·.1),rfl⟩⟩
   ·rw[if_neg e];exact⟨fun q=>.inr q,fun q=>q.elim (fun q=>absurd q.2 e) id⟩
 ·rw[List.pairwise_map]
  exact (lQ n _ x).imp fun h=>by show Int.ofNat _≤Int.ofNat _;exact Int.ofNat_le.mpr (Nat.le_of_lt h)
theorem Part.join {n:Nat}{c:Nat->Nat}{ls:List (List Nat)}(P:Part n c ls){x y:Nat}(hx:x<n)(hy:y<n)(h:c x≠c y):Part n (jn c x y) (ls.filter (fun l=>!(decide (l=cl n c x) || decide (l=cl n c y)))++[cl n (jn c x y) x]):=by
 have keep:∀z,c z≠c x->c z≠c y->cl n (jn c x y) z=cl n c z:=fun z h1 h2=>kb fun w _=>by
  unfold jn
  rw[if_neg h1]
  by_cases e:c w=c x
  ·rw[if_pos e,e];exact⟨fun q=>absurd q.symm h2,fun q=>absurd q.symm h1⟩
  ·rw[if_neg e]
 have jx:∀z,c z=c x\/c z=c y->jn c x y z=jn c x y x:=fun z hz=>by
  unfold jn
  rw[if_pos rfl]
  rcases hz with e|e
  ·rw[if_pos e]
  ·rw[e];split<;>rfl
 refine⟨fun l hl=>?_,fun z hz=>?_,?_,?_⟩
 ·rcases List.mem_append.mp hl with hl|hl
  ·obtain⟨h1,h2⟩:=List.mem_filter.mp hl
   obtain⟨z,hz,rfl⟩:=P.cls l h1
   rw[Bool.not_eq_true',Bool.or_eq_false_iff,decide_eq_false_iff_not,decide_eq_false_iff_not,jC hz,jC hz] at h2
   exact⟨z,hz,(keep z h2.1 h2.2).symm⟩
  ·exact⟨x,hx,List.mem_singleton.mp hl⟩
 ·by_cases e:c z=c x\/c z=c y
  ·exact List.mem_append_right _ (List.mem_singleton.mpr ((jC hz).mpr (jx z e)))
  ·have e1:c z≠c x:=fun q=>e (.inl q)
   have e2:c z≠c y:=fun q=>e (.inr q)
   rw[keep z e1 e2]
   refine List.mem_append_left _ (List.mem_filter.mpr ⟨P.all z hz,?_⟩)
   rw[Bool.not_eq_true',Bool.or_eq_false_iff,decide_eq_false_iff_not,decide_eq_false_iff_not,jC hz,jC hz]
   exact⟨e1,e2⟩
 ·refine List.nodup_append.mpr ⟨P.nd.filter _,(by simp),fun a ha b hb e=>?_⟩
  subst e
  obtain⟨h1,h2⟩:=List.mem_filter.mp ha
  obtain⟨z,hz,rfl⟩:=P.cls a h1
  rw[Bool.not_eq_true',Bool.or_eq_false_iff,decide_eq_false_iff_not,decide_eq_false_iff_not,jC hz,jC hz] at h2
  have hm:x∈cl n c z:=by rw[List.mem_singleton.mp hb];exact mem_cl.mpr ⟨hx,rfl⟩
  exact h2.1 (mem_cl.mp hm).2.symm
 ·rw[List.length_append,List.length_singleton]
  have:(ls.filter (fun l=>!(decide (l=cl n c x) || decide (l=cl n c y)))).length<ls.length:=List.length_filter_lt_length_iff_exists.mpr ⟨_,P.all x hx,by simp⟩
  have:=P.len
  omega
noncomputable def eM (c:Nat->Nat)(x:Nat):Bool:=decide (∀y,y<x->c y≠c x)
noncomputable def aG (n:Nat)(c:Nat->Nat):List (List Nat):=((List.range n).filter (eM c)).map (cl n c)
theorem y7 {c:Nat->Nat}:∀x,∃z,z≤x/\c z=c x/\eM c z=true:=fun x=>by
 induction x using Nat.strongRecOn with
 |_ x ih=>
  by_cases h:eM c x=true
  ·exact⟨x,Nat.le_refl _,rfl,h⟩
  ·unfold eM at h
   rw[decide_eq_true_eq] at h
   have:∃y,y<x/\c y=c x:=Decidable.byContradiction fun q=>h fun y hy e=>q ⟨y,hy,e⟩
   obtain⟨y,hy,e⟩:=this
   obtain⟨z,h1,h2,h3⟩:=ih y hy
   exact⟨z,by omega,h2.trans e,h3⟩
theorem mem_lots {n:Nat}{c:Nat->Nat}{l:List Nat}:l∈aG n c↔∃x,x<n/\l=cl n c x:=by
 unfold aG
 rw[List.mem_map]
 constructor
 ·rintro⟨x,hx,rfl⟩
  exact⟨x,List.mem_range.mp (List.mem_filter.mp hx).1,rfl⟩
 ·rintro⟨x,hx,rfl⟩
  obtain⟨z,h1,h2,h3⟩:=y7 (c:=c) x
  exact⟨z,List.mem_filter.mpr ⟨List.mem_range.mpr (by omega),h3⟩,(jC (by omega)).mpr h2⟩
theorem tD {n:Nat}{c:Nat->Nat}{x:Nat}(hx:x<n)(h:eM c x=true):∃t,cl n c x=x::t:=by
 unfold eM at h
 rw[decide_eq_true_eq] at h
 cases e:cl n c x with
 |nil=>
  have:x∈cl n c x:=mem_cl.mpr ⟨hx,rfl⟩
  rw[e] at this;cases this
 |cons a t=>
  have u:=lQ n c x
  rw[e,List.pairwise_cons] at u
  have hm:x∈cl n c x:=mem_cl.mpr ⟨hx,rfl⟩
  have ha:a∈cl n c x:=by rw[e];exact List.mem_cons_self
  rw[e] at hm
  rcases List.mem_cons.mp hm with rfl|hm
  ·exact⟨t,rfl⟩
  ·exact absurd (mem_cl.mp ha).2 (h a (u.1 x hm))
theorem xS (n:Nat)(c:Nat->Nat):((aG n c).map fun l=>l.map Int.ofNat).Pairwise fun a b=>lY a b=true:=by
 unfold aG
 rw[List.map_map,List.pairwise_map]
 refine ((List.pairwise_lt_range).filter _).imp_of_mem fun {a b} ha hb h=>?_
 obtain⟨ha1,ha2⟩:=List.mem_filter.mp ha
 obtain⟨hb1,hb2⟩:=List.mem_filter.mp hb
 obtain⟨t,e⟩:=tD (List.mem_range.mp ha1) ha2
 obtain⟨t',e'⟩:=tD (List.mem_range.mp hb1) hb2
 show lY ((cl n c a).map Int.ofNat) ((cl n c b).map Int.ofNat)=true
 rw[e,e',List.map_cons,List.map_cons,kc,if_neg (fun z=>by have:=Int.ofNat.inj z;omega)]
 exact decide_eq_true (Int.ofNat_lt.mpr h)
theorem lots_congr {n:Nat}{c c':Nat->Nat}(h:∀x y,x<n->y<n->(c x=c y↔c' x=c' y)):aG n c=aG n c':=by
 unfold aG
 have e:(List.range n).filter (eM c)=(List.range n).filter (eM c'):=List.filter_congr fun x hx=>by
  have hx:=List.mem_range.mp hx
  unfold eM
  rw[decide_eq_decide]
  exact⟨fun q y hy z=>q y hy ((h y x (by omega) hx).mpr z),fun q y hy z=>q y hy ((h y x (by omega) hx).mp z)⟩
 rw[e]
 exact List.map_congr_left fun x hx=>kb fun y hy=>h y x hy (List.mem_range.mp (List.mem_filter.mp hx).1)
theorem Part.sorted {n:Nat}{c:Nat->Nat}{ls:List (List Nat)}(P:Part n c ls){ks:List (List Int)}(e:ks=ls.map fun l=>l.map Int.ofNat):(jy ks).map (fun i=>ks.getD i [])=(aG n c).map fun l=>l.map Int.ofNat:=by
 have inj:∀a b:List Nat,a≠b->a.map Int.ofNat≠b.map Int.ofNat:=fun a b h z=>h (List.map_inj_right (fun _ _ q=>Int.ofNat.inj q) |>.mp z)
 have nd:ks.Nodup:=by rw[e];exact P.nd.map _ inj
 obtain⟨hp,hu⟩:=Cz nd
 refine vw (lt:=fun a b=>lY a b=true) (fun a z=>by rw[vR] at z;cases z) (fun a b d=>vj a b d) hu (xS n c) fun a=>?_
 rw[hp.mem_iff,e,List.mem_map,List.mem_map]
 constructor
 ·rintro⟨l,hl,rfl⟩
  exact⟨l,mem_lots.mpr (P.cls l hl),rfl⟩
 ·rintro⟨l,hl,rfl⟩
  obtain⟨x,hx,rfl⟩:=mem_lots.mp hl
  exact⟨_,P.all x hx,rfl⟩
end Pt
end
section
namespace Pt
open L2 Fo Lo
theorem pB (m:Nat)(c:Nat->Nat)(x:Nat):cl (m+1) c x=cl m c x++if c m=c x then [m] else []:=by
 unfold cl
 rw[List.range_succ,List.filter_append]
 congr 1
 rw[List.filter_cons]
 by_cases h:c m=c x
 ·rw[if_pos (decide_eq_true h),if_pos h];rfl
 ·rw[if_neg (by rw[decide_eq_true_eq];exact h),if_neg h];rfl
theorem tL (us:List Nat):∀m,iW us m=((List.range m).filter (eM (hd us))).map fun x=>(hd us x,cl m (hd us) x)
 |0=>rfl
 |m+1=>by
  rw[d6,tL us m]
  generalize hd us=c
  have anyE:(((List.range m).filter (eM c)).map fun x=>(c x,cl m c x)).any (fun t=>decide (t.1=c m))=!eM c m:=by
   rw[List.any_map]
   rw[Bool.eq_iff_iff,List.any_eq_true,Bool.not_eq_true']
   constructor
   ·rintro⟨x,hx,e⟩
    have e:c x=c m:=of_decide_eq_true e
    refine decide_eq_false fun q=>?_
    exact q x (List.mem_range.mp (List.mem_filter.mp hx).1) e
   ·intro q
    unfold eM at q
    rw[decide_eq_false_iff_not] at q
    have:∃y,y<m/\c y=c m:=Decidable.byContradiction fun z=>q fun y hy e=>z ⟨y,hy,e⟩
    obtain⟨y,hy,e⟩:=this
    obtain⟨z,h1,h2,h3⟩:=y7 (c:=c) y
    exact⟨z,List.mem_filter.mpr ⟨List.mem_range.mpr (by omega),h3⟩,decide_eq_true (h2.trans e)⟩
  unfold pi
  rw[anyE,List.range_succ,List.filter_append,List.map_append]
  cases h:eM c m with
  |true=>
   have h':=h
   unfold eM at h'
   rw[decide_eq_true_eq] at h'
   rw[Bool.not_true,if_neg Bool.false_ne_true,List.filter_cons,if_pos h]
   congr 1
   ·refine List.map_congr_left fun x hx=>?_
    rw[pB,if_neg fun z=>h' x (List.mem_range.mp (List.mem_filter.mp hx).1) z.symm,List.append_nil]
   ·have:cl m c m=[]:=List.filter_eq_nil_iff.mpr fun y hy=>by rw[decide_eq_true_eq];exact h' y (List.mem_range.mp hy)
    rw[List.filter_nil,List.map_cons,List.map_nil,pB,if_pos rfl,this];rfl
  |false=>
   rw[Bool.not_false,if_pos rfl,List.filter_cons,if_neg (by rw[h];exact Bool.false_ne_true),List.filter_nil,List.map_nil,List.append_nil,List.map_map]
   refine List.map_congr_left fun x hx=>?_
   show (if c x=c m then (c x,cl m c x++[m]) else (c x,cl m c x))=_
   rw[pB]
   by_cases e:c x=c m
   ·rw[if_pos e,if_pos e.symm]
   ·rw[if_neg e,if_neg fun z=>e z.symm,List.append_nil]
theorem Fv (us:List Nat):lots us=aG us.length (hd us):=by
 unfold lots aG
 rw[tL,List.map_map];rfl
end Pt
end
section
namespace Dp
open PySem L2 Fo Pu
noncomputable def fg (ρ:al):Out:=(aC (lh (fT (aq KL (fV 0) (fC (.int 13)))) (bB (fB iI (ae (fB sK (ae (fV 0) ag)) ag))) bE)
  (bB (jJ (ae (fC (.int 0)) (ae (fC (.int 1)) (ae (aq pU (fV 0) (fC (.int 2))) (ae (aq kR (fV 0) (fC (.int 2))) (ae (aq kR (fV 0) (fC (.int 1))) ag)))))))) ρ
noncomputable def aA:List PV->Option PR:=run 1 1 fg
theorem jF {a0:PV}:aA [a0]=(fg [some (.val a0)]).res:=Eq.trans rfl rfl
end Dp
end
section
namespace Dp
open PySem L2 Fo Pu Lo Pt
theorem xW {ps:List PV}:iP [.tup ps]=(db ps).bind fun is=>if is.length<64 then some (.nw ((lf is).map PV.int)) else none:=Eq.trans rfl rfl
noncomputable def dI (ls:List (List Nat)):List PV:=ls.map fun l=>.tup (nums l)
theorem fX (ls:List (List Nat)):(dI ls).length=ls.length:=List.length_map ..
theorem vq (l:List Nat):(l.map Int.ofNat).map PV.int=nums l:=by unfold nums;rw[List.map_map];rfl
theorem dy (l:List Nat):(nums l).length=l.length:=List.length_map ..
theorem kI (l m:List Nat):nums l++nums m=nums (l++m):=by unfold nums;rw[List.map_append]
theorem rK (l:List Nat):db (nums l)=some (l.map Int.ofNat):=by rw[←vq,jL]
theorem nA {l m:List Nat}(h:lf (l.map Int.ofNat)=m.map Int.ofNat)(h64:l.length<64):iP [.tup (nums l)]=some (.nw (nums m)):=by
 rw[xW,rK]
 show (if (l.map Int.ofNat).length<64 then _ else _)=_
 rw[List.length_map,if_pos h64,h,vq]
theorem M7 {n:Nat}{c:Nat->Nat}{x:Nat}(hx:x<n):cl n c x≠[]:=fun e=>by
 have:x∈cl n c x:=mem_cl.mpr ⟨hx,rfl⟩
 rw[e] at this;cases this
noncomputable def yw (acc l:List Nat):List Nat:=l.foldl (fun a t=>a.set t (up a t+1)) acc
noncomputable def sz (us:List Nat):List Nat:=(List.range us.length).foldl (fun acc x=>yw acc (way us x)) (List.replicate us.length 0)
theorem ms:∀(l acc:List Nat),(yw acc l).length=acc.length
 |[],_=>rfl
 |t::l,acc=>by
  show (yw (acc.set t (up acc t+1)) l).length=_
  rw[ms l,List.length_set]
theorem GS {n:Nat}{b:FS}{s0 z2:Option Sl}(hb:∀(acc:List Nat) (t:Nat),t<acc.length->b [s0,some (.own (nums acc)),z2,some (.val (.int t))]=.nx [s0,some (.own (nums (acc.set t (up acc t+1)))),z2,some (.val (.int t))]) :
  ∀(l acc:List Nat) (z3:Option Sl),(∀t∈l,t<n)->acc.length=n->∃z3',bZ (gN 3) b (nums l) [s0,some (.own (nums acc)),z2,z3]=.nx [s0,some (.own (nums (yw acc l))),z2,z3']
 |[],acc,z3,_,_=>⟨z3,rfl⟩
 |t::l,acc,z3,hl,ha=>by
  obtain⟨z3',e⟩:=GS hb l (acc.set t (up acc t+1)) (some (.val (.int t))) (fun u hu=>hl u (List.mem_cons_of_mem _ hu)) (by rw[List.length_set];exact ha)
  refine⟨z3',?_⟩
  show _=Out.nx [s0,some (.own (nums (yw (acc.set t (up acc t+1)) l))),z2,z3']
  rw[←e,cZ,fZ]
  have:=hb acc t (by rw[ha];exact hl t List.mem_cons_self)
  simp only[E1,E2,E3,E4,E5,E6,E7,E8,E9,cw,ci,cD,cC,b6,cQ,cE,cK,cv,cz,cy,cu,cM,b5,cI,ca,cr,cf,cB,cA,cG,cc,b7,cF,cg,cH,cj,cJ,b3,cO,b8,cx,ck,ce,cP,cN,b9,cb,cq,Nat.reduceAdd,Nat.reduceSub,Nat.reduceLeDiff,Nat.reduceLT,Nat.reduceEqDiff,Int.reduceLT,Int.reduceLE,Int.reduceAdd,Int.reduceSub,Int.reduceMul,Int.reduceMod,Int.reduceDiv,Int.reduceNeg,Int.reduceToNat,Int.reducePow,Int.reduceEq,this]
theorem Bp {us:List Nat}(f:Frst us){b2:FS}{s0:Option Sl}(hb:∀(acc:List Nat) (x:Nat) (z3:Option Sl),x<us.length->acc.length=us.length->∃z3',b2 [s0,some (.own (nums acc)),some (.val (.int x)),z3]=.nx [s0,some (.own (nums (yw acc (way us x)))),some (.val (.int x)),z3']) :
  ∀(xs acc:List Nat) (z2 z3:Option Sl),(∀t∈xs,t<us.length)->acc.length=us.length->∃z2' z3',bZ (gN 2) b2 (nums xs) [s0,some (.own (nums acc)),z2,z3]=.nx [s0,some (.own (nums (xs.foldl (fun acc x=>yw acc (way us x)) acc))),z2',z3']
 |[],acc,z2,z3,_,_=>⟨z2,z3,rfl⟩
 |x::xs,acc,z2,z3,hl,ha=>by
  obtain⟨w3,e1⟩:=hb acc x z3 (hl x List.mem_cons_self) ha
  obtain⟨z2',z3',e⟩:=Bp f hb xs (yw acc (way us x)) (some (.val (.int x))) w3 (fun u hu=>hl u (List.mem_cons_of_mem _ hu)) (by rw[ms];exact ha)
  refine⟨z2',z3',?_⟩
  rw[List.foldl_cons,←e,cZ,fZ]
  simp only[E1,E2,E3,E4,E5,E6,E7,E8,E9,cw,ci,cD,cC,b6,cQ,cE,cK,cv,cz,cy,cu,cM,b5,cI,ca,cr,cf,cB,cA,cG,cc,b7,cF,cg,cH,cj,cJ,b3,cO,b8,cx,ck,ce,cP,cN,b9,cb,cq,Nat.reduceAdd,Nat.reduceSub,Nat.reduceLeDiff,Nat.reduceLT,Nat.reduceEqDiff,Int.reduceLT,Int.reduceLE,Int.reduceAdd,Int.reduceSub,Int.reduceMul,Int.reduceMod,Int.reduceDiv,Int.reduceNeg,Int.reduceToNat,Int.reducePow,Int.reduceEq,e1]
theorem GJ:∀n:Nat,(List.replicate n [PV.int 0]).flatten=nums (List.replicate n 0)
 |0=>rfl
 |n+1=>by rw[List.replicate_succ,List.flatten_cons,GJ n];rfl
theorem NJ {n:Nat}(h:n≤1000):jg (.lst [.int 0]) (.int n)=some (.nw (nums (List.replicate n 0))):=by
 show (if ((n:Int)≤1000/\-1000≤(n:Int)/\[PV.int 0].length≤100) then some (RV.nw (List.replicate (n:Int).toNat [PV.int 0]).flatten) else none)=_
 rw[if_pos ⟨by omega,by omega,by decide⟩,Int.toNat_natCast,GJ]
theorem vd (us:List Nat)(i v:Nat):(nums us).set i (PV.int ((v:Int)+1))=nums (us.set i (v+1)):=tM us i (v+1)
theorem FJ {acc:List Nat}{t:Nat}(ht:t<acc.length):(nums acc)[t]?=some (.int (up acc t:Nat)):=by
 unfold nums up
 rw[List.getElem?_map,List.getElem?_eq_getElem ht]
 simp[ht,nI]
theorem EG {us:List Nat}(f:Frst us):dn [.tup (nums us)]=some (.n (nums (sz us))):=by
 have hm:=f.most
 obtain⟨z2,z3,e⟩:=Bp f (b2:=gX) (s0:=some (.val (.tup (nums us)))) (fun acc x z3 hx ha=>by
  obtain⟨z3',e⟩:=GS (n:=us.length) (b:=gY) (s0:=some (.val (.tup (nums us)))) (z2:=some (.val (.int x))) (fun acc t ht=>by
   have hz:(0:Int)≤(t:Int):=by omega
   simp only[gY,E1,E2,E3,E4,E5,E6,E7,E8,E9,cw,ci,cD,cC,b6,cQ,cE,cK,cv,cz,cy,cu,cM,b5,cI,ca,cr,cf,cB,cA,cG,cc,b7,cF,cg,cH,cj,cJ,b3,cO,b8,cx,ck,ce,cP,cN,b9,cb,cq,Nat.reduceAdd,Nat.reduceSub,Nat.reduceLeDiff,Nat.reduceLT,Nat.reduceEqDiff,Int.reduceLT,Int.reduceLE,Int.reduceAdd,Int.reduceSub,Int.reduceMul,Int.reduceMod,Int.reduceDiv,Int.reduceNeg,Int.reduceToNat,Int.reducePow,Int.reduceEq,hz,FJ ht,am ht,il ht,vd,Int.toNat_natCast]) (way us x) acc z3 (fun t ht=>dY f.fst hx ht) ha
  refine⟨z3',?_⟩
  simp only[gX,E1,E2,E3,E4,E5,E6,E7,E8,E9,cw,ci,cD,cC,b6,cQ,cE,cK,cv,cz,cy,cu,cM,b5,cI,ca,cr,cf,cB,cA,cG,cc,b7,cF,cg,cH,cj,cJ,b3,cO,b8,cx,ck,ce,cP,cN,b9,cb,cq,Nat.reduceAdd,Nat.reduceSub,Nat.reduceLeDiff,Nat.reduceLT,Nat.reduceEqDiff,Int.reduceLT,Int.reduceLE,Int.reduceAdd,Int.reduceSub,Int.reduceMul,Int.reduceMod,Int.reduceDiv,Int.reduceNeg,Int.reduceToNat,Int.reducePow,Int.reduceEq,lW (.inl rfl) f hx,e]) (List.range us.length) (List.replicate us.length 0) none none (fun t ht=>List.mem_range.mp ht) (List.length_replicate ..)
 simp only[qy,iq,E1,E2,E3,E4,E5,E6,E7,E8,E9,cw,ci,cD,cC,b6,cQ,cE,cK,cv,cz,cy,cu,cM,b5,cI,ca,cr,cf,cB,cA,cG,cc,b7,cF,cg,cH,cj,cJ,b3,cO,b8,cx,ck,ce,cP,cN,b9,cb,cq,Nat.reduceAdd,Nat.reduceSub,Nat.reduceLeDiff,Nat.reduceLT,Nat.reduceEqDiff,Int.reduceLT,Int.reduceLE,Int.reduceAdd,Int.reduceSub,Int.reduceMul,Int.reduceMod,Int.reduceDiv,Int.reduceNeg,Int.reduceToNat,Int.reducePow,Int.reduceEq,NJ (show us.length≤1000 by omega),K1 (show us.length≤100000 by omega),e]
 rfl
theorem HM {us:List Nat}:(sz us).length=us.length:=by
 have:∀(xs acc:List Nat),(xs.foldl (fun acc x=>yw acc (way us x)) acc).length=acc.length:=fun xs=>by
  induction xs with
  |nil=>intro acc;rfl
  |cons x xs ih=>intro acc;rw[List.foldl_cons,ih,ms]
 unfold sz;rw[this,List.length_replicate]
theorem wC {us:List Nat}(f:Frst us){x:Nat}(hx:x<us.length):aF [.tup (nums us),.int x]=some (.v (.int (up (sz us) x:Nat))):=by
 simp only[rW,iQ,E1,E2,E3,E4,E5,E6,E7,E8,E9,cw,ci,cD,cC,b6,cQ,cE,cK,cv,cz,cy,cu,cM,b5,cI,ca,cr,cf,cB,cA,cG,cc,b7,cF,cg,cH,cj,cJ,b3,cO,b8,cx,ck,ce,cP,cN,b9,cb,cq,Nat.reduceAdd,Nat.reduceSub,Nat.reduceLeDiff,Nat.reduceLT,Nat.reduceEqDiff,Int.reduceLT,Int.reduceLE,Int.reduceAdd,Int.reduceSub,Int.reduceMul,Int.reduceMod,Int.reduceDiv,Int.reduceNeg,Int.reduceToNat,Int.reducePow,Int.reduceEq,sQ f hx,EG f,am (show x<(sz us).length by rw[HM];exact hx)]
theorem u6 {us:List Nat}(f:Frst us){x:Nat}(hx:x<us.length):di [.tup (nums us),.int x]=some (.v (.tup (nums (cl us.length (hd us) x)))):=by
 have hm:=f.most
 have e:=kU (t:=gN 0) (c:=gZ) (f:=gS) (ρ:=[none,some (.val (.tup (nums us))),some (.val (.int (hd us x:Nat)))]) (fun p=>match p with|.int i=>decide (hd us i.toNat=hd us x)|_=>false) id (its:=nums (List.range us.length)) (fun p hp=>by
  obtain⟨y,hy,rfl⟩:=i8 hp
  have hy:=List.mem_range.mp hy
  refine⟨_,rfl,?_,fun _=>?_⟩
  ·have d:decide ((hd us y:Int)=(hd us x:Int))=decide (hd us y=hd us x):=decide_eq_decide.mpr (by omega)
   simp only[gZ,E1,E2,E3,E4,E5,E6,E7,E8,E9,cw,ci,cD,cC,b6,cQ,cE,cK,cv,cz,cy,cu,cM,b5,cI,ca,cr,cf,cB,cA,cG,cc,b7,cF,cg,cH,cj,cJ,b3,cO,b8,cx,ck,ce,cP,cN,b9,cb,cq,Nat.reduceAdd,Nat.reduceSub,Nat.reduceLeDiff,Nat.reduceLT,Nat.reduceEqDiff,Int.reduceLT,Int.reduceLE,Int.reduceAdd,Int.reduceSub,Int.reduceMul,Int.reduceMod,Int.reduceDiv,Int.reduceNeg,Int.reduceToNat,Int.reducePow,Int.reduceEq,lW (.inl rfl) f hy,qg f hy,d,Int.toNat_natCast]
  ·simp only[gS,E1,E2,E3,E4,E5,E6,E7,E8,E9,cw,ci,cD,cC,b6,cQ,cE,cK,cv,cz,cy,cu,cM,b5,cI,ca,cr,cf,cB,cA,cG,cc,b7,cF,cg,cH,cj,cJ,b3,cO,b8,cx,ck,ce,cP,cN,b9,cb,cq,Nat.reduceAdd,Nat.reduceSub,Nat.reduceLeDiff,Nat.reduceLT,Nat.reduceEqDiff,Int.reduceLT,Int.reduceLE,Int.reduceAdd,Int.reduceSub,Int.reduceMul,Int.reduceMod,Int.reduceDiv,Int.reduceNeg,Int.reduceToNat,Int.reducePow,Int.reduceEq,id])
 have e2:(nums (List.range us.length)).filter (fun p=>match p with|.int i=>decide (hd us i.toNat=hd us x)|_=>false)=nums (cl us.length (hd us) x):=by
  unfold nums cl
  rw[List.filter_map];rfl
 rw[List.map_id,e2] at e
 have hn:us.length<1000:=by omega
 simp only[p0,io,E1,E2,E3,E4,E5,E6,E7,E8,E9,cw,ci,cD,cC,b6,cQ,cE,cK,cv,cz,cy,cu,cM,b5,cI,ca,cr,cf,cB,cA,cG,cc,b7,cF,cg,cH,cj,cJ,b3,cO,b8,cx,ck,ce,cP,cN,b9,cb,cq,Nat.reduceAdd,Nat.reduceSub,Nat.reduceLeDiff,Nat.reduceLT,Nat.reduceEqDiff,Int.reduceLT,Int.reduceLE,Int.reduceAdd,Int.reduceSub,Int.reduceMul,Int.reduceMod,Int.reduceDiv,Int.reduceNeg,Int.reduceToNat,Int.reducePow,Int.reduceEq,lW (.inl rfl) f hx,qg f hx,K1 (show us.length≤100000 by omega),List.length_range,hn,e]
theorem kx {us:List Nat}(f:Frst us){x:Nat}(hx:x<us.length):bX [.tup (nums us),.int x]=some (.v (.tup (nums (cl us.length (hd us) x)))):=by
 simp only[u3,jI,E1,E2,E3,E4,E5,E6,E7,E8,E9,cw,ci,cD,cC,b6,cQ,cE,cK,cv,cz,cy,cu,cM,b5,cI,ca,cr,cf,cB,cA,cG,cc,b7,cF,cg,cH,cj,cJ,b3,cO,b8,cx,ck,ce,cP,cN,b9,cb,cq,Nat.reduceAdd,Nat.reduceSub,Nat.reduceLeDiff,Nat.reduceLT,Nat.reduceEqDiff,Int.reduceLT,Int.reduceLE,Int.reduceAdd,Int.reduceSub,Int.reduceMul,Int.reduceMod,Int.reduceDiv,Int.reduceNeg,Int.reduceToNat,Int.reducePow,Int.reduceEq,sQ f hx,u6 f hx]
theorem eK (ls:List (List Nat)):az (dI ls)=true:=lU ls
theorem jG (ls:List (List Nat)):bP (dI ls)≤1:=o0 ls
theorem JE {ps:List PV}(h:az ps=true)(hd:bP ps≤40):sJ (.lst ps) (.lst ps)=some (.fz (.bl true))/\kN (.lst ps) (.lst ps)=some (.fz (.bl false)):=by
 have h1:Pu.ay (.lst ps)=true:=by rw[Pu.ay];exact h
 have h2:decide (kl (.lst ps)≤50)=true:=decide_eq_true (by rw[kl];omega)
 rw[vc,um,h1,h2,j7 h1];exact⟨rfl,rfl⟩
theorem Ii {ps:List PV}(h:az ps=true)(hd:bP ps≤40):sJ (.tup ps) (.tup ps)=some (.fz (.bl true))/\kN (.tup ps) (.tup ps)=some (.fz (.bl false)):=by
 have h1:Pu.ay (.tup ps)=true:=by rw[Pu.ay];exact h
 have h2:decide (kl (.tup ps)≤50)=true:=decide_eq_true (by rw[kl];omega)
 rw[vc,um,h1,h2,j7 h1];exact⟨rfl,rfl⟩
theorem Dj (l:List Nat):sJ (.tup (nums l)) (.tup (nums l))=some (.fz (.bl true))/\kN (.tup (nums l)) (.tup (nums l))=some (.fz (.bl false)):=Ii (aV l) (by rw[dE];omega)
theorem si (ls:List (List Nat)):sJ (.lst (dI ls)) (.lst (dI ls))=some (.fz (.bl true))/\kN (.lst (dI ls)) (.lst (dI ls))=some (.fz (.bl false)):=JE (eK ls) (by have:=jG ls;omega)
theorem bN {us:List Nat}(f:Frst us):aw [.tup (nums us)]=some (.n (dI (aG us.length (hd us)))):=by
 rw[xP f]
 show some (PR.n (dI (lots us)))=_
 rw[Fv]
theorem lC (n:Nat)(c:Nat->Nat):(aG n c).length≤n:=by
 unfold aG
 rw[List.length_map]
 have:=List.length_filter_le (eM c) (List.range n)
 rwa [List.length_range] at this
theorem kr {n:Nat}(h1:1≤n)(hn:n≤100000):∃ts:List Nat,(∀t∈ts,t<n)/\ts.length≤n+5/\aA [.int n]=some (.n (nums ts)):=by
 by_cases h:n<13
 ·refine⟨List.range n,fun t ht=>List.mem_range.mp ht,by rw[List.length_range];omega,?_⟩
  have d:decide ((n:Int)<13)=true:=decide_eq_true (by omega)
  simp only[jF,fg,E1,E2,E3,E4,E5,E6,E7,E8,E9,cw,ci,cD,cC,b6,cQ,cE,cK,cv,cz,cy,cu,cM,b5,cI,ca,cr,cf,cB,cA,cG,cc,b7,cF,cg,cH,cj,cJ,b3,cO,b8,cx,ck,ce,cP,cN,b9,cb,cq,Nat.reduceAdd,Nat.reduceSub,Nat.reduceLeDiff,Nat.reduceLT,Nat.reduceEqDiff,Int.reduceLT,Int.reduceLE,Int.reduceAdd,Int.reduceSub,Int.reduceMul,Int.reduceMod,Int.reduceDiv,Int.reduceNeg,Int.reduceToNat,Int.reducePow,Int.reduceEq,K1 hn,d]
 ·refine⟨[0,1,n / 2,n - 2,n - 1],fun t ht=>?_,by simp,?_⟩
  ·simp only[List.mem_cons,List.mem_nil_iff,or_false] at ht
   omega
  ·have d:decide ((n:Int)<13)=false:=decide_eq_false (by omega)
   have e1:(n:Int) / 2=((n / 2:Nat):Int):=by omega
   have e2:(n:Int) - 2=((n - 2:Nat):Int):=by omega
   have e3:(n:Int) - 1=((n - 1:Nat):Int):=by omega
   simp only[jF,fg,E1,E2,E3,E4,E5,E6,E7,E8,E9,cw,ci,cD,cC,b6,cQ,cE,cK,cv,cz,cy,cu,cM,b5,cI,ca,cr,cf,cB,cA,cG,cc,b7,cF,cg,cH,cj,cJ,b3,cO,b8,cx,ck,ce,cP,cN,b9,cb,cq,Nat.reduceAdd,Nat.reduceSub,Nat.reduceLeDiff,Nat.reduceLT,Nat.reduceEqDiff,Int.reduceLT,Int.reduceLE,Int.reduceAdd,Int.reduceSub,Int.reduceMul,Int.reduceMod,Int.reduceDiv,Int.reduceNeg,Int.reduceToNat,Int.reducePow,Int.reduceEq,d,e1,e2,e3]
   rfl
end Dp
end
section
namespace Fo
open PySem L2 Pt
theorem A6 {l:List Nat}{n:Nat}(nd:l.Nodup)(h:∀x∈l,x<n):l.length≤n:=by
 have p:l.Perm ((List.range n).filter fun x=>decide (x∈l)):=(List.perm_ext_iff_of_nodup nd (List.nodup_range.filter _)).mpr fun x=>by
  rw[List.mem_filter,List.mem_range,decide_eq_true_eq]
  exact⟨fun q=>⟨h x q,q⟩,fun q=>q.2⟩
 rw[p.length_eq]
 have:=List.length_filter_le (fun x=>decide (x∈l)) (List.range n)
 rwa [List.length_range] at this
theorem uH {us:List Nat}(f:Fst us){x t:Nat}(hx:x<us.length)(h:t∈way us x):hd us t=hd us x:=by
 obtain⟨l2,w2,e,_,_⟩:=(aP f hx).later t h
 have:=eF f (dY f hx h) w2
 unfold hd
 rw[this,e]
theorem Way.nd {us:List Nat}{x:Nat}{l:List Nat}(w:Way us x l):l.Nodup:=by
 induction w with
 |head e=>simp
 | @step x l n w ih=>
  refine List.nodup_cons.mpr ⟨fun h=>?_,ih⟩
  obtain⟨l2,w2,_,hl,_⟩:=w.later x h
  have:=w2.det (.step n w)
  rw[this,List.length_cons] at hl
  omega
theorem j6 {us:List Nat}(b:∀x,x<us.length->up us x<us.length)(w:∀x,x<us.length->∃l,Way us x l):Fst us:=by
 refine⟨b,fun x=>if h:x<us.length then (Classical.choose (w x h)).length - 1 else 0,fun x hx=>?_,fun x hx ne=>?_⟩
 ·show (if h:x<us.length then _ else 0)<us.length
  rw[dif_pos hx]
  have h1:=Classical.choose_spec (w x hx)
  have h2:=A6 h1.nd (h1.lt b hx)
  have h3:=h1.pos
  omega
 ·have hu:=b x hx
  show (if h:up us x<us.length then _ else 0)<(if h:x<us.length then _ else 0)
  rw[dif_pos hx,dif_pos hu]
  have h1:=Classical.choose_spec (w x hx)
  have h2:=Classical.choose_spec (w _ hu)
  have h3:=h1.det (.step ne h2)
  have h4:=h2.pos
  rw[h3,List.length_cons]
  omega
noncomputable def cn (n:Nat)(p:Nat->Bool):Nat:=(List.range n).countP p
theorem dJ {n:Nat}{p q:Nat->Bool}(h:∀y,y<n->p y=q y):cn n p=cn n q:=List.countP_congr fun y hy=>by rw[h y (List.mem_range.mp hy)]
theorem AC (n m:Nat)(p:Nat->Bool):cn (n+m) p=cn n p+cn m fun y=>p (n+y):=by
 unfold cn
 rw[List.range_add,List.countP_append,List.countP_map];rfl
theorem jr {n:Nat}{p:Nat->Bool}(h:∀y,y<n->p y=false):cn n p=0:=List.countP_eq_zero.mpr fun y hy=>by rw[h y (List.mem_range.mp hy)];exact Bool.false_ne_true
theorem Ar (P:List Nat):(List.range P.length).map (up P)=P:=by
 apply List.ext_getElem (by simp)
 intro i h1 h2
 rw[List.getElem_map,List.getElem_range]
 simp[up,h2]
theorem wc {n:Nat}{P:List Nat}(hp:P.Perm (List.range n))(p:Nat->Bool):cn n p=cn n fun y=>p (up P y):=by
 have hl:P.length=n:=by rw[hp.length_eq,List.length_range]
 unfold cn
 rw[←hp.countP_eq]
 conv=>lhs;rw[←Ar P,hl]
 rw[List.countP_map];rfl
theorem r9 {α:Type}(p q:α->Bool):∀l:List α,l.countP (fun a=>p a || q a)+l.countP (fun a=>p a&&q a)=l.countP p+l.countP q
 |[]=>rfl
 |a::l=>by
  have ih:=r9 p q l
  simp only[List.countP_cons]
  cases p a<;>cases q a<;>simp<;>omega
theorem wm {n:Nat}{p q:Nat->Bool}(h:∀y,y<n->p y=true->q y=false):cn n (fun y=>p y || q y)=cn n p+cn n q:=by
 have:=r9 p q (List.range n)
 have z:(List.range n).countP (fun a=>p a&&q a)=0:=jr (n:=n) fun y hy=>by
  cases e:p y with
  |true=>rw[h y hy e];rfl
  |false=>rfl
 unfold cn
 omega
theorem qq {n x:Nat}(hx:x<n):cn n (fun y=>decide (y=x))=1:=by
 have:cn n (fun y=>decide (y=x))=(List.range n).count x:=by
  unfold cn List.count
  exact List.countP_congr fun y _=>by simp
 rw[this,List.nodup_range.count,if_pos (List.mem_range.mpr hx)]
theorem p7 {α:Type}(q:α->Bool):∀l:List α,(l.map fun y=>if q y=true then 1 else 0).sum=l.countP q
 |[]=>rfl
 |a::l=>by
  rw[List.map_cons,List.sum_cons,p7 q l,List.countP_cons]
  split<;>omega
theorem vM {α:Type}(f g:α->Nat):∀l:List α,(l.map fun y=>f y+g y).sum=(l.map f).sum+(l.map g).sum
 |[]=>rfl
 |a::l=>by
  rw[List.map_cons,List.sum_cons,vM f g l,List.map_cons,List.sum_cons,List.map_cons,List.sum_cons];omega
theorem LT {α β:Type}(r:α->β->Bool)(L:List β):∀C:List α,(C.map fun z=>L.countP (r z)).sum=(L.map fun y=>C.countP fun z=>r z y).sum
 |[]=>by
  rw[List.map_nil,List.sum_nil]
  induction L with
  |nil=>rfl
  |cons y L ih=>rw[List.map_cons,List.sum_cons,←ih];rfl
 |z::C=>by
  rw[List.map_cons,List.sum_cons,LT r L C,←p7,←vM]
  congr 1
  refine List.map_congr_left fun y _=>?_
  rw[List.countP_cons];omega
noncomputable def szc (us:List Nat)(x:Nat):Nat:=cn us.length fun y=>decide (x∈way us y)
noncomputable def kK (us:List Nat)(x z:Nat):Bool:=decide (up us z=x)&&decide (z≠x)
theorem Cl {us:List Nat}(b:∀x,x<us.length->up us x<us.length){x y:Nat}{l:List Nat}(w:Way us y l):y<us.length->cn us.length (fun z=>kK us x z&&decide (z∈l))=if x∈l/\y≠x then 1 else 0:=by
 induction w with
 | @head y e=>
  intro hy
  rw[if_neg (fun h=>h.2 (List.mem_singleton.mp h.1).symm)]
  refine jr fun z hz=>?_
  by_cases q:z=y
  ·subst q
   unfold kK
   rw[e]
   by_cases q:z=x
   ·rw[decide_eq_false (fun h=>h q:¬z≠x)];simp
   ·rw[decide_eq_false q];rfl
  ·rw[decide_eq_false (fun h=>q (List.mem_singleton.mp h)),Bool.and_false]
 | @step y l n w ih=>
  intro hy
  have ih:=ih (b y hy)
  have nd:=(Way.step n w).nd
  have ny:y∉l:=(List.nodup_cons.mp nd).1
  have e:cn us.length (fun z=>kK us x z&&decide (z∈y::l))=cn us.length (fun z=>kK us x z&&decide (z=y))+cn us.length (fun z=>kK us x z&&decide (z∈l)):=by
   rw[←wm]
   ·refine dJ fun z _=>?_
    rw[←Bool.and_or_distrib_left,←Bool.decide_or]
    congr 1
    exact decide_eq_decide.mpr List.mem_cons
   ·intro z _ hz
    rw[Bool.and_eq_true,decide_eq_true_eq] at hz
    rw[hz.2,decide_eq_false ny,Bool.and_false]
  have e1:cn us.length (fun z=>kK us x z&&decide (z=y))=if up us y=x/\y≠x then 1 else 0:=by
   by_cases q:up us y=x/\y≠x
   ·rw[if_pos q,←qq hy]
    refine dJ fun z _=>?_
    by_cases hz:z=y
    ·subst hz
     unfold kK
     rw[decide_eq_true q.1,decide_eq_true q.2,decide_eq_true rfl];rfl
    ·rw[decide_eq_false hz,Bool.and_false]
   ·rw[if_neg q]
    refine jr fun z _=>?_
    by_cases hz:z=y
    ·subst hz
     have:kK us x z=false:=by
      unfold kK
      rw[←Bool.decide_and]
      exact decide_eq_false q
     rw[this];rfl
    ·rw[decide_eq_false hz,Bool.and_false]
  rw[e,e1,ih]
  obtain⟨t,rfl⟩:∃t,l=up us y::t:=by
   cases w with
   |head _=>exact⟨_,rfl⟩
   |step _ _=>exact⟨_,rfl⟩
  by_cases q:up us y=x
  ·subst q
   rw[if_neg (by simp:¬(up us y∈up us y::t/\up us y≠up us y)),if_pos ⟨rfl,fun h=>n h.symm⟩,if_pos ⟨by simp,fun h=>n h.symm⟩]
  ·rw[if_neg (fun h=>q h.1)]
   by_cases hx:x∈up us y::t
   ·have hne:y≠x:=fun h=>ny (h▸hx)
    rw[if_pos ⟨hx,q⟩,if_pos ⟨List.mem_cons_of_mem _ hx,hne⟩]
   ·rw[if_neg (fun h=>hx h.1),if_neg]
    rintro⟨h1,h2⟩
    rcases List.mem_cons.mp h1 with h|h
    ·exact h2 h.symm
    ·exact hx h
theorem A0 {us:List Nat}(f:Fst us){x:Nat}(hx:x<us.length):szc us x=1+(((List.range us.length).filter (kK us x)).map (szc us)).sum:=by
 have e:(((List.range us.length).filter (kK us x)).map (szc us)).sum=cn us.length fun y=>decide (x∈way us y)&&decide (y≠x):=by
  show (((List.range us.length).filter (kK us x)).map fun z=>(List.range us.length).countP fun y=>decide (z∈way us y)).sum=_
  rw[LT (fun z y=>decide (z∈way us y))]
  unfold cn
  rw[←p7]
  congr 1
  refine List.map_congr_left fun y hy=>?_
  have hy:=List.mem_range.mp hy
  rw[List.countP_filter]
  have:=Cl f.bnd (aP f hy) (x:=x) hy
  unfold cn at this
  rw[show (fun z=>decide (z∈way us y)&&kK us x z)=fun z=>kK us x z&&decide (z∈way us y) by funext z;exact Bool.and_comm ..]
  rw[this,←Bool.decide_and]
  simp only[decide_eq_true_eq]
 rw[e]
 have:szc us x=cn us.length (fun y=>decide (y=x) || (decide (x∈way us y)&&decide (y≠x))):=by
  unfold szc
  refine dJ fun y hy=>?_
  by_cases q:y=x
  ·subst q
   rw[decide_eq_true (aP f hy).mem_self,decide_eq_true rfl];rfl
  ·rw[decide_eq_false q,decide_eq_true q];simp
 rw[this,wm (fun y hy h=>by rw[of_decide_eq_true h];simp),qq hx]
end Fo
end
section
namespace Fo
open PySem L2 Pt
theorem mw {n x:Nat}(g:Nat->Nat)(hx:x<n):up ((List.range n).map g) x=g x:=by simp[up,hx]
theorem nq (g:Nat->Nat):∀{l:List Nat},l≠[]->dZ (l.map g)=g (dZ l)
 |[],h=>(h rfl).elim
 |[x],_=>rfl
 |x::y::l,_=>by rw[List.map_cons,cX (by simp),cX (by simp)];exact nq g (by simp)
theorem BW {l m:List Nat}(h:m≠[]):dZ (l++m)=dZ m:=by
 induction l with
 |nil=>rfl
 |cons x l ih=>rw[List.cons_append,cX (by simp[h]),ih]
theorem iC {us:List Nat}(f:Fst us):(aG us.length (hd us)).length=cn us.length fun x=>decide (up us x=x):=by
 unfold aG cn
 rw[List.length_map,List.countP_eq_length_filter]
 have p:(((List.range us.length).filter (eM (hd us))).map (hd us)).Perm ((List.range us.length).filter fun x=>decide (up us x=x)):=by
  refine (List.perm_ext_iff_of_nodup ?_ (List.nodup_range.filter _)).mpr fun h=>?_
  ·refine List.Pairwise.map _ (fun a b (q:a<b/\eM (hd us) b=true) e=>?_) ((List.pairwise_lt_range.filter _).imp_of_mem fun {a b} ha hb hab=>⟨hab,(List.mem_filter.mp hb).2⟩)
   exact of_decide_eq_true q.2 a q.1 e
  ·rw[List.mem_map,List.mem_filter,List.mem_range,decide_eq_true_eq]
   constructor
   ·rintro⟨x,hx,rfl⟩
    have hx:=List.mem_range.mp (List.mem_filter.mp hx).1
    exact⟨i5 f hx,zB f hx⟩
   ·rintro⟨hh,e⟩
    obtain⟨z,hz,ez,lz⟩:=y7 (c:=hd us) h
    exact⟨z,List.mem_filter.mpr ⟨List.mem_range.mpr (by omega),lz⟩,by rw[ez,fq f hh e]⟩
 rw[←p.length_eq,List.length_map]
noncomputable def lP (us:List Nat):List Nat:=(List.range us.length).map (hd us)
theorem gP (us:List Nat):(lP us).length=us.length:=by unfold lP;rw[List.length_map,List.length_range]
theorem wk {us:List Nat}(f:Fst us){x:Nat}(hx:x<us.length):Way (lP us) x (if hd us x=x then [x] else [x,hd us x]):=by
 have e:up (lP us) x=hd us x:=mw _ hx
 have e2:up (lP us) (hd us x)=hd us x:=by
  rw[show up (lP us) (hd us x)=hd us (hd us x) from mw _ (i5 f hx),fq f (i5 f hx) (zB f hx)]
 split
 ·next h=>exact .head (e.trans h)
 ·next h=>exact .step (by rw[e];exact h) (by rw[e];exact .head e2)
theorem iZ {us:List Nat}(f:Frst us):Frst (lP us):=by
 refine⟨by rw[gP];exact f.one,by rw[gP];exact f.most,j6 (fun x hx=>?_) fun x hx=>?_⟩
 ·rw[gP] at hx ⊢
  rw[show up (lP us) x=hd us x from mw _ hx];exact i5 f.fst hx
 ·rw[gP] at hx;exact⟨_,wk f.fst hx⟩
theorem qM {us:List Nat}(f:Frst us){x:Nat}(hx:x<us.length):hd (lP us) x=hd us x/\dp (lP us) x=if hd us x=x then 0 else 1:=by
 have:=eF (iZ f).fst (by rw[gP];exact hx) (wk f.fst hx)
 unfold hd dp at *
 rw[this]
 split
 ·next h=>exact⟨h.symm,rfl⟩
 ·exact⟨rfl,rfl⟩
structure Ren (P us vs:List Nat):Prop where
 perm:P.Perm (List.range us.length)
 len:vs.length=us.length
 up:∀x,x<us.length->up vs (up P x)=up P (up us x)
section
variable {P us vs:List Nat}
theorem Ren.pl (r:Ren P us vs):P.length=us.length:=by rw[r.perm.length_eq,List.length_range]
theorem Ren.lt (r:Ren P us vs){x:Nat}(hx:x<us.length):Fo.up P x<us.length:=by
 have hx':x<P.length:=by rw[r.pl];exact hx
 have:Fo.up P x∈P:=by simp[Fo.up,hx']
 exact List.mem_range.mp (r.perm.subset this)
theorem Ren.inj (r:Ren P us vs){x y:Nat}(hx:x<us.length)(hy:y<us.length)(e:Fo.up P x=Fo.up P y):x=y:=
 uk (r.perm.nodup_iff.mpr List.nodup_range) (by rw[r.pl];exact hx) (by rw[r.pl];exact hy) e
theorem Ren.onto (r:Ren P us vs){y:Nat}(hy:y<us.length):∃x,x<us.length/\Fo.up P x=y:=by
 have:y∈P:=r.perm.mem_iff.mpr (List.mem_range.mpr hy)
 obtain⟨i,hi,e⟩:=List.mem_iff_getElem.mp this
 exact⟨i,by rw[←r.pl];exact hi,by simp[Fo.up,hi,e]⟩
theorem Ren.way (r:Ren P us vs)(b:∀x,x<us.length->Fo.up us x<us.length){x:Nat}{l:List Nat}(w:Way us x l):x<us.length->Way vs (Fo.up P x) (l.map (Fo.up P)):=by
 induction w with
 | @head x e=>exact fun hx=>.head (by rw[r.up x hx,e])
 | @step x l n w ih=>
  intro hx
  refine .step (fun h=>n (r.inj (b x hx) hx (by rw[←r.up x hx,h]))) ?_
  rw[r.up x hx]
  exact ih (b x hx)
theorem Ren.frst (r:Ren P us vs)(f:Frst us):Frst vs:=by
 refine⟨by rw[r.len];exact f.one,by rw[r.len];exact f.most,j6 (fun y hy=>?_) fun y hy=>?_⟩
 ·rw[r.len] at hy ⊢
  obtain⟨x,hx,rfl⟩:=r.onto hy
  rw[r.up x hx];exact r.lt (f.fst.bnd x hx)
 ·rw[r.len] at hy
  obtain⟨x,hx,rfl⟩:=r.onto hy
  exact⟨_,r.way f.fst.bnd (aP f.fst hx) hx⟩
theorem Ren.ways (r:Ren P us vs)(f:Frst us){x:Nat}(hx:x<us.length):Fo.way vs (Fo.up P x)=(Fo.way us x).map (Fo.up P):=
 eF (r.frst f).fst (by rw[r.len];exact r.lt hx) (r.way f.fst.bnd (aP f.fst hx) hx)
theorem Ren.hd (r:Ren P us vs)(f:Frst us){x:Nat}(hx:x<us.length):Fo.hd vs (Fo.up P x)=Fo.up P (Fo.hd us x):=by
 unfold Fo.hd
 rw[r.ways f hx,nq _ (aP f.fst hx).ne]
theorem Ren.dp (r:Ren P us vs)(f:Frst us){x:Nat}(hx:x<us.length):Fo.dp vs (Fo.up P x)=Fo.dp us x:=by
 unfold Fo.dp
 rw[r.ways f hx,List.length_map]
theorem Ren.mem (r:Ren P us vs){x:Nat}(hx:x<us.length){l:List Nat}(hl:∀y∈l,y<us.length):Fo.up P x∈l.map (Fo.up P)↔x∈l:=by
 rw[List.mem_map]
 constructor
 ·rintro⟨y,hy,e⟩
  rw[←r.inj (hl y hy) hx e];exact hy
 ·exact fun h=>⟨x,h,rfl⟩
theorem Ren.szc (r:Ren P us vs)(f:Frst us){x:Nat}(hx:x<us.length):Fo.szc vs (Fo.up P x)=Fo.szc us x:=by
 unfold Fo.szc
 rw[r.len,wc r.perm]
 refine dJ fun y hy=>?_
 rw[r.ways f hy]
 exact decide_eq_decide.mpr (r.mem hx fun z hz=>dY f.fst hy hz)
theorem Ren.cl (r:Ren P us vs)(f:Frst us){x:Nat}(hx:x<us.length):lf (((Pt.cl us.length (Fo.hd us) x).map (Fo.up P)).map Int.ofNat)=(Pt.cl us.length (Fo.hd vs) (Fo.up P x)).map Int.ofNat:=by
 refine (p6 (List.Perm.map _ ?_) ?_).symm
 ·refine (List.perm_ext_iff_of_nodup ((lQ _ _ _).imp fun h=>Nat.ne_of_lt h) ?_).mpr fun y=>?_
  ·refine List.Pairwise.map (R:=fun a b=>a<b/\a<us.length/\b<us.length) _ (fun a b h e=>absurd (r.inj h.2.1 h.2.2 e) (Nat.ne_of_lt h.1)) ?_
   exact (lQ us.length (Fo.hd us) x).imp_of_mem fun {a b} ha hb h=>⟨h,(mem_cl.mp ha).1,(mem_cl.mp hb).1⟩
  ·rw[mem_cl,List.mem_map]
   constructor
   ·rintro⟨hy,e⟩
    obtain⟨z,hz,rfl⟩:=r.onto hy
    rw[r.hd f hz,r.hd f hx] at e
    exact⟨z,mem_cl.mpr ⟨hz,r.inj (i5 f.fst hz) (i5 f.fst hx) e⟩,rfl⟩
   ·rintro⟨z,hz,rfl⟩
    obtain⟨hz,e⟩:=mem_cl.mp hz
    exact⟨r.lt hz,by rw[r.hd f hz,r.hd f hx,e]⟩
 ·exact List.Pairwise.map _ (fun a b (h:a<b)=>Int.ofNat_le.mpr (Nat.le_of_lt h)) (lQ _ _ _)
theorem Ren.lots (r:Ren P us vs)(f:Frst us):(aG vs.length (Fo.hd vs)).length=(aG us.length (Fo.hd us)).length:=by
 rw[iC (r.frst f).fst,iC f.fst,r.len,wc r.perm]
 refine dJ fun y hy=>decide_eq_decide.mpr ?_
 rw[r.up y hy]
 exact⟨fun e=>r.inj (f.fst.bnd y hy) hy e,fun e=>by rw[e]⟩
end
end Fo
end
section
namespace Fo
open PySem L2 Pt Dp
theorem A7 {x:Nat}:∀(l acc:List Nat),(∀t∈l,t<acc.length)->up (yw acc l) x=up acc x+l.count x
 |[],acc,_=>rfl
 |t::l,acc,h=>by
  show up (yw (acc.set t (up acc t+1)) l) x=_
  rw[A7 l _ fun u hu=>by rw[List.length_set];exact h u (List.mem_cons_of_mem _ hu),eR (h t List.mem_cons_self),List.count_cons]
  by_cases e:x=t
  ·subst e;rw[if_pos rfl,if_pos (by simp)];omega
  ·rw[if_neg e,if_neg (by simpa using fun q:t=x=>e q.symm)];rfl
theorem Ha {us:List Nat}(f:Fst us){x:Nat}:∀(xs acc:List Nat),(∀y∈xs,y<us.length)->acc.length=us.length->up (xs.foldl (fun acc y=>yw acc (way us y)) acc) x=up acc x+xs.countP fun y=>decide (x∈way us y)
 |[],_,_,_=>rfl
 |y::xs,acc,h,ha=>by
  have hy:=h y List.mem_cons_self
  rw[List.foldl_cons,Ha f xs _ (fun u hu=>h u (List.mem_cons_of_mem _ hu)) (by rw[ms,ha]),A7 _ _ fun t ht=>by rw[ha];exact dY f hy ht,List.countP_cons,(aP f hy).nd.count]
  simp only[decide_eq_true_eq];omega
theorem OH {us:List Nat}(f:Fst us){x:Nat}:up (sz us) x=szc us x:=by
 have h:=Ha f (x:=x) (List.range us.length) (List.replicate us.length 0) (fun y hy=>List.mem_range.mp hy) (List.length_replicate ..)
 have z:up (List.replicate us.length 0) x=0:=by
  unfold up
  rw[List.getD_eq_getElem?_getD,List.getElem?_replicate]
  split<;>rfl
 rw[z,Nat.zero_add] at h
 exact h
theorem BZ {us vs:List Nat}{h k:Nat}(g:Hgt us h)(q:Hgt vs k)(a:∀x,x<us.length->∃y,y<vs.length/\dp vs y=dp us x)(b:∀y,y<vs.length->∃x,x<us.length/\dp us x=dp vs y):k=h:=by
 obtain⟨x,hx,ex⟩:=g.one
 obtain⟨y,hy,ey⟩:=q.one
 obtain⟨y',h1,h2⟩:=a x hx
 obtain⟨x',h3,h4⟩:=b y hy
 have:=q.all y' h1
 have:=g.all x' h3
 omega
theorem Ren.hgt {P us vs:List Nat}(r:Ren P us vs)(f:Frst us){h k:Nat}(g:Hgt us h)(q:Hgt vs k):k=h:=
 BZ g q (fun x hx=>⟨_,by rw[r.len];exact r.lt hx,r.dp f hx⟩) fun y hy=>by
  obtain⟨x,hx,rfl⟩:=r.onto (by rw[←r.len];exact hy)
  exact⟨x,hx,(r.dp f hx).symm⟩
theorem CI {us:List Nat}(f:Frst us){k:Nat}(q:Hgt (lP us) k):k≤1:=by
 obtain⟨y,hy,rfl⟩:=q.one
 rw[gP] at hy
 rw[(qM f hy).2]
 split<;>omega
noncomputable def hV (us vs:List Nat):List Nat:=us++vs.map (us.length + ·)
section
variable {us vs:List Nat}
theorem dG:(hV us vs).length=us.length+vs.length:=by unfold hV;rw[List.length_append,List.length_map]
theorem Gr {x:Nat}(hx:x<us.length):up (hV us vs) x=up us x:=by
 unfold hV up
 rw[List.getD_eq_getElem?_getD,List.getElem?_append_left hx,List.getD_eq_getElem?_getD]
theorem vE {y:Nat}(hy:y<vs.length):up (hV us vs) (us.length+y)=us.length+up vs y:=by
 unfold hV up
 rw[List.getD_eq_getElem?_getD,List.getElem?_append_right (by omega),Nat.add_sub_cancel_left,List.getElem?_map,List.getD_eq_getElem?_getD,List.getElem?_eq_getElem hy];rfl
theorem zD (f:Fst us){x:Nat}(hx:x<us.length):Way (hV us vs) x (way us x):=(aP f hx).congr fun y hy=>Gr (dY f hx hy)
theorem vX {y:Nat}{l:List Nat}(b:∀x,x<vs.length->up vs x<vs.length)(w:Way vs y l):y<vs.length->Way (hV us vs) (us.length+y) (l.map (us.length + ·)):=by
 induction w with
 | @head y e=>exact fun hy=>.head (by rw[vE hy,e])
 | @step y l n w ih=>
  intro hy
  refine .step (by rw[vE hy];omega) ?_
  rw[vE hy]
  exact ih (b y hy)
theorem nL (f:Frst us)(g:Frst vs)(h:us.length+vs.length≤40):Frst (hV us vs):=by
 have h1:=f.one
 refine⟨by rw[dG];omega,by rw[dG];exact h,j6 (fun x hx=>?_) fun x hx=>?_⟩<;>rw[dG] at hx
 ·rw[dG]
  by_cases q:x<us.length
  ·rw[Gr q];have:=f.fst.bnd x q;omega
  ·obtain⟨y,rfl⟩:∃y,x=us.length+y:=⟨x - us.length,by omega⟩
   rw[vE (by omega)];have:=g.fst.bnd y (by omega);omega
 ·by_cases q:x<us.length
  ·exact⟨_,zD f.fst q⟩
  ·obtain⟨y,rfl⟩:∃y,x=us.length+y:=⟨x - us.length,by omega⟩
   exact⟨_,vX g.fst.bnd (aP g.fst (by omega)) (by omega)⟩
section
variable (f:Frst us)(g:Frst vs)(h:us.length+vs.length≤40)
include f g h
theorem pR {x:Nat}(hx:x<us.length):way (hV us vs) x=way us x:=eF (nL f g h).fst (by rw[dG];omega) (zD f.fst hx)
theorem qe {y:Nat}(hy:y<vs.length):way (hV us vs) (us.length+y)=(way vs y).map (us.length + ·):=eF (nL f g h).fst (by rw[dG];omega) (vX g.fst.bnd (aP g.fst hy) hy)
theorem ik {x:Nat}(hx:x<us.length):hd (hV us vs) x=hd us x:=by unfold hd;rw[pR f g h hx]
theorem iY {y:Nat}(hy:y<vs.length):hd (hV us vs) (us.length+y)=us.length+hd vs y:=by unfold hd;rw[qe f g h hy,nq _ (aP g.fst hy).ne]
theorem yB {x:Nat}(hx:x<us.length):dp (hV us vs) x=dp us x:=by unfold dp;rw[pR f g h hx]
theorem AE {y:Nat}(hy:y<vs.length):dp (hV us vs) (us.length+y)=dp vs y:=by unfold dp;rw[qe f g h hy,List.length_map]
theorem LB {x:Nat}(hx:x<us.length):szc (hV us vs) x=szc us x:=by
 unfold szc
 rw[dG,AC]
 have z:cn vs.length (fun y=>decide (x∈way (hV us vs) (us.length+y)))=0:=jr fun y hy=>by
  rw[qe f g h hy]
  refine decide_eq_false fun q=>?_
  obtain⟨t,_,e⟩:=List.mem_map.mp q
  omega
 rw[z]
 exact dJ fun y hy=>by rw[pR f g h hy]
theorem Ij {x:Nat}(hx:x<vs.length):szc (hV us vs) (us.length+x)=szc vs x:=by
 unfold szc
 rw[dG,AC]
 have z:cn us.length (fun y=>decide (us.length+x∈way (hV us vs) y))=0:=jr fun y hy=>by
  rw[pR f g h hy]
  refine decide_eq_false fun q=>?_
  have:=dY f.fst hy q
  omega
 rw[z,Nat.zero_add]
 refine dJ fun y hy=>?_
 rw[qe f g h hy]
 refine decide_eq_decide.mpr ⟨fun q=>?_,fun q=>List.mem_map.mpr ⟨x,q,rfl⟩⟩
 obtain⟨t,ht,e⟩:=List.mem_map.mp q
 have:t=x:=by omega
 exact this▸ht
theorem Bh:aG (hV us vs).length (hd (hV us vs))=aG us.length (hd us)++(aG vs.length (hd vs)).map fun l=>l.map (us.length + ·):=by
 have l1:∀x,x<us.length->eM (hd (hV us vs)) x=eM (hd us) x:=fun x hx=>by
  unfold eM
  refine decide_eq_decide.mpr ⟨fun q y hy=>?_,fun q y hy=>?_⟩
  ·have:=q y hy
   rwa [ik f g h hx,ik f g h (by omega)] at this
  ·rw[ik f g h hx,ik f g h (by omega)];exact q y hy
 have l2:∀x,x<vs.length->eM (hd (hV us vs)) (us.length+x)=eM (hd vs) x:=fun x hx=>by
  unfold eM
  refine decide_eq_decide.mpr ⟨fun q y hy=>?_,fun q y hy=>?_⟩
  ·have:=q (us.length+y) (by omega)
   rw[iY f g h hx,iY f g h (by omega)] at this
   omega
  ·rw[iY f g h hx]
   by_cases z:y<us.length
   ·rw[ik f g h z]
    have:=i5 f.fst z
    omega
   ·obtain⟨w,rfl⟩:∃w,y=us.length+w:=⟨y - us.length,by omega⟩
    rw[iY f g h (by omega)]
    have:=q w (by omega)
    omega
 have c1:∀x,x<us.length->cl (us.length+vs.length) (hd (hV us vs)) x=cl us.length (hd us) x:=fun x hx=>by
  unfold cl
  rw[List.range_add,List.filter_append,List.filter_map]
  have z:(List.range vs.length).filter ((fun y=>decide (hd (hV us vs) y=hd (hV us vs) x)) ∘ (us.length + ·))=[]:=List.filter_eq_nil_iff.mpr fun y hy=>by
   have hy:=List.mem_range.mp hy
   show ¬decide (hd (hV us vs) (us.length+y)=hd (hV us vs) x)=true
   rw[iY f g h hy,ik f g h hx,decide_eq_true_eq]
   have:=i5 f.fst hx
   omega
  rw[z,List.map_nil,List.append_nil]
  exact List.filter_congr fun y hy=>by rw[ik f g h hx,ik f g h (List.mem_range.mp hy)]
 have c2:∀x,x<vs.length->cl (us.length+vs.length) (hd (hV us vs)) (us.length+x)=(cl vs.length (hd vs) x).map (us.length + ·):=fun x hx=>by
  unfold cl
  rw[List.range_add,List.filter_append,List.filter_map]
  have z:(List.range us.length).filter (fun y=>decide (hd (hV us vs) y=hd (hV us vs) (us.length+x)))=[]:=List.filter_eq_nil_iff.mpr fun y hy=>by
   have hy:=List.mem_range.mp hy
   rw[iY f g h hx,ik f g h hy,decide_eq_true_eq]
   have:=i5 f.fst hy
   omega
  rw[z,List.nil_append]
  congr 1
  refine List.filter_congr fun y hy=>?_
  show decide (hd (hV us vs) (us.length+y)=_)=_
  rw[iY f g h hx,iY f g h (List.mem_range.mp hy)]
  exact decide_eq_decide.mpr (by omega)
 unfold aG
 rw[dG,List.range_add,List.filter_append,List.map_append,List.filter_map,List.map_map,List.map_map]
 have e1:(List.range us.length).filter (eM (hd (hV us vs)))=(List.range us.length).filter (eM (hd us)):=List.filter_congr fun x hx=>l1 x (List.mem_range.mp hx)
 have e2:(List.range vs.length).filter (eM (hd (hV us vs)) ∘ (us.length + ·))=(List.range vs.length).filter (eM (hd vs)):=List.filter_congr fun x hx=>l2 x (List.mem_range.mp hx)
 rw[e1,e2]
 congr 1
 ·exact List.map_congr_left fun x hx=>c1 x (List.mem_range.mp (List.mem_filter.mp hx).1)
 ·exact List.map_congr_left fun x hx=>c2 x (List.mem_range.mp (List.mem_filter.mp hx).1)
theorem C0 {a b c:Nat}(ha:Hgt us a)(hb:Hgt vs b)(hc:Hgt (hV us vs) c):c=max a b:=by
 obtain⟨x,hx,ex⟩:=ha.one
 obtain⟨y,hy,ey⟩:=hb.one
 obtain⟨z,hz,ez⟩:=hc.one
 have h1:=hc.all x (by rw[dG];omega)
 have h2:=hc.all (us.length+y) (by rw[dG];omega)
 rw[yB f g h hx] at h1
 rw[AE f g h hy] at h2
 rw[dG] at hz
 by_cases q:z<us.length
 ·rw[yB f g h q] at ez
  have:=ha.all z q
  omega
 ·obtain⟨w,rfl⟩:∃w,z=us.length+w:=⟨z - us.length,by omega⟩
  rw[AE f g h (by omega)] at ez
  have:=hb.all w (by omega)
  omega
end
end
section
variable {us:List Nat}{h u:Nat}
theorem vt (f:Fst us)(hh:h<us.length)(eh:up us h=h)(hu:u<us.length)(ne:hd us u≠h){z:Nat}{l:List Nat}(w:Way us z l):z<us.length->Way (us.set h u) z (if dZ l=h then l++way us u else l):=by
 have nu:h∉way us u:=fun q=>ne (by rw[←uH f hu q,fq f hh eh])
 have wu:Way (us.set h u) u (way us u):=(aP f hu).set hh nu
 induction w with
 | @head z e=>
  intro hz
  by_cases q:z=h
  ·subst q
   rw[if_pos (show dZ [z]=z from rfl)]
   refine .step ?_ ?_
   ·rw[eR hh,if_pos rfl];intro e;exact nu (e▸(aP f hu).mem_self)
   ·rw[eR hh,if_pos rfl];exact wu
  ·rw[if_neg (show ¬dZ [z]=h from q)]
   exact .head (by rw[eR hh,if_neg q,e])
 | @step z l n w ih=>
  intro hz
  have q:z≠h:=fun e=>n (by rw[e,eh])
  have ih:=ih (f.bnd z hz)
  rw[cX w.ne]
  have e:up (us.set h u) z=up us z:=by rw[eR hh,if_neg q]
  split
  ·next p=>rw[if_pos p] at ih;exact .step (by rw[e];exact n) (by rw[e];exact ih)
  ·next p=>rw[if_neg p] at ih;exact .step (by rw[e];exact n) (by rw[e];exact ih)
variable (f:Frst us)(hh:h<us.length)(eh:up us h=h)(hu:u<us.length)(ne:hd us u≠h)
include f hh eh hu ne
theorem kh:Frst (us.set h u):=by
 refine⟨by rw[List.length_set];exact f.one,by rw[List.length_set];exact f.most,j6 (fun x hx=>?_) fun x hx=>?_⟩<;>rw[List.length_set] at hx
 ·rw[List.length_set,eR hh]
  split
  ·exact hu
  ·exact f.fst.bnd x hx
 ·exact⟨_,vt f.fst hh eh hu ne (aP f.fst hx) hx⟩
theorem mM {z:Nat}(hz:z<us.length):way (us.set h u) z=if hd us z=h then way us z++way us u else way us z:=
 eF (kh f hh eh hu ne).fst (by rw[List.length_set];exact hz) (vt f.fst hh eh hu ne (aP f.fst hz) hz)
theorem yL {z:Nat}(hz:z<us.length):hd (us.set h u) z=jn (hd us) h u z:=by
 have e:hd us h=h:=fq f.fst hh eh
 show dZ (way (us.set h u) z)=if hd us z=hd us h then hd us u else hd us z
 rw[mM f hh eh hu ne hz,e]
 split
 ·exact BW (aP f.fst hu).ne
 ·rfl
theorem Jw {z:Nat}(hz:z<us.length):dp (us.set h u) z=dp us z+if hd us z=h then dp us u+1 else 0:=by
 have h1:=(aP f.fst hz).pos
 have h2:=(aP f.fst hu).pos
 unfold dp
 rw[mM f hh eh hu ne hz]
 split
 ·rw[List.length_append];omega
 ·rfl
theorem Lv:lf ((cl us.length (hd us) h++cl us.length (hd us) u).map Int.ofNat)=(cl us.length (hd (us.set h u)) h).map Int.ofNat:=by
 rw[L6 fun e=>ne (by rw[←e];exact fq f.fst hh eh)]
 congr 1
 refine kb fun y hy=>?_
 rw[yL f hh eh hu ne hy,yL f hh eh hu ne hh]
theorem y4:(aG us.length (hd (us.set h u))).length+1=(aG us.length (hd us)).length:=by
 have q:=iC (kh f hh eh hu ne).fst
 rw[List.length_set] at q
 rw[q,iC f.fst,←qq hh,←wm]
 ·refine dJ fun y hy=>?_
  rw[eR hh]
  by_cases e:y=h
  ·subst e;rw[if_pos rfl,eh];simp
  ·rw[if_neg e];simp[e]
 ·intro y hy q
  refine decide_eq_false fun e=>?_
  subst e
  rw[eR hh,if_pos rfl,decide_eq_true_eq] at q
  exact ne (by rw[q];exact fq f.fst hh eh)
theorem CL {x:Nat}:szc (us.set h u) x=szc us x+if x∈way us u then (cl us.length (hd us) h).length else 0:=by
 have e:hd us h=h:=fq f.fst hh eh
 unfold szc
 rw[List.length_set]
 have q:cn us.length (fun y=>decide (x∈way (us.set h u) y))=cn us.length (fun y=>decide (x∈way us y) || (decide (hd us y=h)&&decide (x∈way us u))):=dJ fun y hy=>by
  rw[mM f hh eh hu ne hy]
  by_cases p:hd us y=h
  ·rw[if_pos p,decide_eq_true p,Bool.true_and,←Bool.decide_or]
   exact decide_eq_decide.mpr List.mem_append
  ·rw[if_neg p,decide_eq_false p,Bool.false_and,Bool.or_false]
 rw[q,wm]
 ·congr 1
  by_cases p:x∈way us u
  ·rw[if_pos p]
   unfold cl cn
   rw[←List.countP_eq_length_filter]
   refine List.countP_congr fun y _=>?_
   rw[decide_eq_true p,Bool.and_true,e]
  ·rw[if_neg p]
   exact jr fun y _=>by rw[decide_eq_false p,Bool.and_false]
 ·intro y hy p
  have p:=of_decide_eq_true p
  by_cases r:hd us y=h
  ·have:x∉way us u:=fun s=>ne (by rw[←uH f.fst hu s,uH f.fst hy p,r])
   rw[decide_eq_false this,Bool.and_false]
  ·rw[decide_eq_false r,Bool.false_and]
end
end Fo
end
section
namespace K04
open PySem L2 Fo Pu Dp
noncomputable def bS (ρ:al):Option Bool:=(fT (aq lb (fV 0) (fV 1))) ρ
noncomputable def bR (ρ:al):Option RV:=(fV 0) ρ
noncomputable def bQ (ρ:al):Out:=(aC (bA 9 (aq eg (jJ (ae (fC (.int 0)) (ae (aq dQ (aj aH (ae (fV 0) (ae (fV 6) ag))) (fC (.int 1))) ag))) (fB oo (ae (aq GY (fV 8) (fV 3)) ag))))
  (aC (lh (fT (aq kN (aj aH (ae (fV 7) (ae (fV 8) ag))) (aq dQ (aj aH (ae (fV 0) (ae (fV 8) ag))) (fV 9)))) (bB (fC (.bl false))) bE)
  (aC (bA 10 (aq eg (jJ (ae (fC (.int 0)) (ae (fB da (ae (fV 3) ag)) ag))) (fB oo (ae (aq GY (fV 8) (aj dw (ae (fV 0) (ae (fV 6) ag)))) ag))))
  (lh (fT (aq kN (aj aF (ae (fV 7) (ae (fV 8) ag))) (aq dQ (aj aF (ae (fV 0) (ae (fV 8) ag))) (fV 10)))) (bB (fC (.bl false))) bE)))) ρ
noncomputable def cU (ρ:al):Out:=(aC (bA 2 (aj aw (ae (fV 0) ag)))
  (aC (lh (fT (aq sJ (fB da (ae (fV 2) ag)) (fC (.int 1)))) (bB (fC (.bl true))) bE)
  (aC (bA 3 (aq eg (fV 2) (aq ia (aq eg (fV 1) (fC (.int 0))) (fB da (ae (fV 2) ag)))))
  (aC (bA 4 (aj bG (ae (fV 0) (ae (aq eg (fV 3) (fC (.int 0))) ag))))
  (aC (bA 5 (bL [none,some 3] (iN iM (ae (fB da (ae (fV 0) ag)) ag)) (gN 0) bS bR))
  (aC (bA 6 (aq eg (fV 5) (aq ia (aq eg (fV 1) (fC (.int 1))) (fB da (ae (fV 5) ag)))))
  (aC (bA 7 (aq dQ (aq dQ (G5 (fV 0) HN (DT (fV 4))) (uW (ae (fV 6) ag))) (G5 (fV 0) (DT (aq dQ (fV 4) (fC (.int 1)))) HN)))
  (aC (lh (jY (gG (fT (aj aK (ae (fV 7) ag)))) (fT (aq kN (fB da (ae (aj aw (ae (fV 7) ag)) ag)) (aq kR (fB da (ae (fV 2) ag)) (fC (.int 1)))))) (bB (fC (.bl false))) bE)
  (aC (lh (fT (aq kN (aj bX (ae (fV 7) (ae (fV 4) ag))) (fB kw (ae (fB iP (ae (aq dQ (fV 3) (aj bX (ae (fV 0) (ae (fV 6) ag)))) ag)) ag)))) (bB (fC (.bl false))) bE)
  (aC (jT (nE (aj aA (ae (fB da (ae (fV 0) ag)) ag))) (gN 8) bQ)
  (bB (fC (.bl true))))))))))))) ρ
noncomputable def bg:List PV->Option PR:=run 2 11 cU
theorem gj {a0 a1:PV}:bg [a0,a1]=(cU [some (.val a0),some (.val a1),none,none,none,none,none,none,none,none,none]).res:=Eq.trans rfl rfl
noncomputable def gT (ρ:al):Out:=(bB (aq eg (aj dr (ae (fV 0) (ae (fV 1) ag))) (lJ (fC (.int 1))))) ρ
noncomputable def eA:List PV->Option PR:=run 2 2 gT
theorem oC {a0 a1:PV}:eA [a0,a1]=(gT [some (.val a0),some (.val a1)]).res:=Eq.trans rfl rfl
noncomputable def fJ (ρ:al):Option RV:=(aj eA (ae (fV 1) (ae (fV 0) ag))) ρ
noncomputable def dO (ρ:al):Option Bool:=(sH (fT (aq sJ (aq eg (fV 1) (fV 0)) (fV 2))) (fT (aq kN (fV 0) (fV 2)))) ρ
noncomputable def dN (ρ:al):Option RV:=(fV 0) ρ
noncomputable def fK (ρ:al):Option RV:=(aj aF (ae (fV 1) (ae (fV 0) ag))) ρ
noncomputable def cV (ρ:al):Out:=(aC (bA 3 (bL [none,some 0,some 2] (iN iM (ae (fB da (ae (fV 0) ag)) ag)) (gN 0) dO dN))
  (aC (lh (fT (aq kN (aj aF (ae (fV 0) (ae (fV 2) ag))) (aq dQ (fC (.int 1)) (fB wP (ae (bL [none,some 0] (nE (fV 3)) (gN 0) dh fK) ag))))) (bB (fC (.bl false))) bE)
  (lh (jY (fT (aq kN (aj aH (ae (fV 0) (ae (fV 2) ag))) (aq kR (fB da (ae (aj dw (ae (fV 0) (ae (fV 2) ag))) ag)) (fC (.int 1))))) (fT (aq kN (aj aH (ae (fV 1) (ae (fV 2) ag))) (fB oo (ae (aq kN (aq eg (fV 1) (fV 2)) (fV 2)) ag))))) (bB (fC (.bl false))) bE))) ρ
noncomputable def gm (ρ:al):Out:=(aC (bA 1 (fB kw (ae (bL [none,some 0] (iN iM (ae (fB da (ae (fV 0) ag)) ag)) (gN 0) dh fJ) ag)))
  (aC (lh (jY (fT (aq kN (aj aw (ae (fV 1) ag)) (aj aw (ae (fV 0) ag)))) (fT (aq KN (aj aD (ae (fV 1) ag)) (fC (.int 1))))) (bB (fC (.bl false))) bE)
  (aC (jT (nE (aj aA (ae (fB da (ae (fV 0) ag)) ag))) (gN 2) cV)
  (bB (fC (.bl true)))))) ρ
noncomputable def dD:List PV->Option PR:=run 1 4 gm
theorem nC {a0:PV}:dD [a0]=(gm [some (.val a0),none,none,none]).res:=Eq.trans rfl rfl
noncomputable def bm (ρ:al):Option RV:=(uW (ae (aq ia (aq jg (aq eg (fV 1) (fV 0)) (fC (.int 7919))) (fC (.int 999983))) (ae (fV 0) ag))) ρ
noncomputable def bu (ρ:al):Option RV:=(aq eg (fV 0) (fC (.int 1))) ρ
noncomputable def bt (ρ:al):Out:=(xb 4 (aq eg (fV 3) (fV 5)) (aq eg (fV 3) (aq eg (fV 0) (fV 5)))) ρ
noncomputable def bw (ρ:al):Option RV:=(aq eg (fV 1) (fV 0)) ρ
noncomputable def aO (ρ:al):Out:=(aC (uL 4 (lh (jY (fT (aq kN (aj bG (ae (fV 4) (ae (aq eg (fV 3) (fV 5)) ag))) (aq eg (fV 3) (aj bG (ae (fV 0) (ae (fV 5) ag)))))) (fT (aq kN (aj aH (ae (fV 4) (ae (aq eg (fV 3) (fV 5)) ag))) (aj aH (ae (fV 0) (ae (fV 5) ag)))))) (bB (fC (.bl false))) bE))
  (aC (uL 4 (lh (fT (aq kN (aj aF (ae (fV 4) (ae (aq eg (fV 3) (fV 5)) ag))) (aj aF (ae (fV 0) (ae (fV 5) ag))))) (bB (fC (.bl false))) bE))
  (uL 4 (lh (fT (aq kN (aj bX (ae (fV 4) (ae (aq eg (fV 3) (fV 5)) ag))) (fB kw (ae (fB iP (ae (bL [none,some 3] (nE (aj bX (ae (fV 0) (ae (fV 5) ag)))) (gN 0) dh bw) ag)) ag)))) (bB (fC (.bl false))) bE)))) ρ
noncomputable def bF (ρ:al):Out:=(aC (bA 2 (fB da (ae (fV 0) ag)))
  (aC (bA 3 (bL [none] (nE (fB iF (ae (bL [none,some 1] (iN iM (ae (fV 2) ag)) (gN 0) dh bm) ag))) (gN 0) dh bu))
  (aC (iU 4 (aq jg (jJ (ae (fC (.int 0)) ag)) (fV 2)))
  (aC (jT (iN iM (ae (fV 2) ag)) (gN 5) bt)
  (aC (iU 4 (fB kw (ae (fV 4) ag)))
  (aC (jT (nE (aj aA (ae (fV 2) ag))) (gN 5) aO)
  (uL 4 (bB (mB (aq sJ (aj aD (ae (fV 4) ag)) (aj aD (ae (fV 0) ag))) (tW (aq sJ (fB da (ae (aj aw (ae (fV 4) ag)) ag)) (fB da (ae (aj aw (ae (fV 0) ag)) ag))))))))))))) ρ
noncomputable def aI:List PV->Option PR:=run 2 6 bF
theorem gw {a0 a1:PV}:aI [a0,a1]=(bF [some (.val a0),some (.val a1),none,none,none,none]).res:=Eq.trans rfl rfl
noncomputable def aR (ρ:al):Option RV:=(aq dQ (fV 1) (fV 0)) ρ
noncomputable def bd (ρ:al):Option RV:=(fB kw (ae (bL [none,some 1] (nE (fV 0)) (gN 0) dh aR) ag)) ρ
noncomputable def aS (ρ:al):Option RV:=(aj aF (ae (fV 1) (ae (fV 0) ag))) ρ
noncomputable def bz (ρ:al):Out:=(aC (bA 2 (fB da (ae (fV 0) ag)))
  (aC (lh (fT (aq KN (aq dQ (fV 2) (fB da (ae (fV 1) ag))) (fC (.int 40)))) (bB (fC (.bl true))) bE)
  (aC (bA 3 (aq dQ (fV 0) (fB kw (ae (bL [none,some 2] (nE (fV 1)) (gN 0) dh aR) ag))))
  (aC (bA 4 (aq dQ (aj aw (ae (fV 0) ag)) (bL [none,some 2] (nE (aj aw (ae (fV 1) ag))) (gN 0) dh bd)))
  (aC (lh (jY (gG (fT (aj aK (ae (fV 3) ag)))) (jY (fT (aq kN (aj aw (ae (fV 3) ag)) (fV 4))) (fT (aq kN (aj aD (ae (fV 3) ag)) (fB sA (ae (aj aD (ae (fV 0) ag)) (ae (aj aD (ae (fV 1) ag)) ag))))))) (bB (fC (.bl false))) bE)
  (aC (bA 5 (aj aA (ae (fV 2) ag)))
  (aC (bA 6 (aj aA (ae (fB da (ae (fV 1) ag)) ag)))
  (aC (bA 7 (aq dQ (bL [none,some 0] (nE (fV 5)) (gN 0) dh aS) (bL [none,some 1] (nE (fV 6)) (gN 0) dh aS)))
  (bB (aq sJ (bL [none,some 3] (nE (aq dQ (fV 5) (bL [none,some 2] (nE (fV 6)) (gN 0) dh aR))) (gN 0) dh aS) (fV 7))))))))))) ρ
noncomputable def aT:List PV->Option PR:=run 2 8 bz
theorem eN {a0 a1:PV}:aT [a0,a1]=(bz [some (.val a0),some (.val a1),none,none,none,none,none,none]).res:=Eq.trans rfl rfl
noncomputable def j3 (ρ:al):Out:=(aC (bA 3 (aj aZ (ae (fV 2) (ae (fC (.int 54)) ag))))
  (aC (bA 4 (aj bf (ae (fV 3) (ae (aj cS (ae (aq eg (fV 3) (fC (.int 49))) ag)) ag))))
  (aC (lh (jY (gG (fT (aj dD (ae (fV 4) ag)))) (jY (gG (fT (aj aI (ae (fV 4) (ae (fV 3) ag))))) (gG (fT (aj aT (ae (fV 4) (ae (fV 1) ag))))))) (bB (fC (.bl false))) bE)
  (aC (lh (gG (fT (aj bg (ae (fV 4) (ae (G5 (fV 3) (DT (fC (.int 50))) HN) ag))))) (bB (fC (.bl false))) bE)
  (bA 1 (fV 4)))))) ρ
noncomputable def jW (ρ:al):Out:=(aC (bA 1 (uW (ae (fC (.int 0)) ag)))
  (aC (jT (nE (aq dQ (jJ (ae (aj bK (ae (fV 0) (ae (fC (.int 0)) ag))) ag)) (G5 (fV 0) (DT (fC (.int 1))) (DT (fC (.int 4)))))) (gN 2) j3)
  (bB (fC (.bl true))))) ρ
noncomputable def GD:List PV->Option PR:=run 1 5 jW
theorem D9 {a0:PV}:GD [a0]=(jW [some (.val a0),none,none,none,none]).res:=Eq.trans rfl rfl
end K04
end
section
namespace K04
open PySem L2 Fo Pu Dp Lo Pt
theorem EQ {us:List Nat}(f:Frst us){x:Nat}(hx:x<us.length):eA [.tup (nums us),.int x]=some (.v (.int (hd us x:Nat))):=by
 simp only[oC,gT,E1,E2,E3,E4,E5,E6,E7,E8,E9,cw,ci,cD,cC,b6,cQ,cE,cK,cv,cz,cy,cu,cM,b5,cI,ca,cr,cf,cB,cA,cG,cc,b7,cF,cg,cH,cj,cJ,b3,cO,b8,cx,ck,ce,cP,cN,b9,cb,cq,Nat.reduceAdd,Nat.reduceSub,Nat.reduceLeDiff,Nat.reduceLT,Nat.reduceEqDiff,Int.reduceLT,Int.reduceLE,Int.reduceAdd,Int.reduceSub,Int.reduceMul,Int.reduceMod,Int.reduceDiv,Int.reduceNeg,Int.reduceToNat,Int.reducePow,Int.reduceEq,Ls (.inl rfl) f hx,qg f hx]
theorem j8 (a b:Nat):decide ((a:Int)=(b:Int))=decide (a=b):=decide_eq_decide.mpr (by omega)
theorem wn {us:List Nat}{x:Nat}:kO (gN 0) dO dN [none,some (.val (.tup (nums us))),some (.val (.int x))] (nums (List.range us.length))=some (nums ((List.range us.length).filter (kK us x))):=by
 have e:=kU (t:=gN 0) (c:=dO) (f:=dN) (ρ:=[none,some (.val (.tup (nums us))),some (.val (.int x))]) (fun p=>match p with|.int i=>kK us x i.toNat|_=>false) id (its:=nums (List.range us.length)) (fun p hp=>by
  obtain⟨y,hy,rfl⟩:=i8 hp
  have hy:=List.mem_range.mp hy
  refine⟨_,rfl,?_,fun _=>?_⟩
  ·show _=some (decide (up us y=x)&&decide (y≠x))
   rw[decide_not]
   cases b1:decide (up us y=x)<;>cases b2:decide (y=x) <;>
    simp only[dO,E1,E2,E3,E4,E5,E6,E7,E8,E9,cw,ci,cD,cC,b6,cQ,cE,cK,cv,cz,cy,cu,cM,b5,cI,ca,cr,cf,cB,cA,cG,cc,b7,cF,cg,cH,cj,cJ,b3,cO,b8,cx,ck,ce,cP,cN,b9,cb,cq,Nat.reduceAdd,Nat.reduceSub,Nat.reduceLeDiff,Nat.reduceLT,Nat.reduceEqDiff,Int.reduceLT,Int.reduceLE,Int.reduceAdd,Int.reduceSub,Int.reduceMul,Int.reduceMod,Int.reduceDiv,Int.reduceNeg,Int.reduceToNat,Int.reducePow,Int.reduceEq,am hy,j8,b1,b2]
  ·simp only[dN,E1,E2,E3,E4,E5,E6,E7,E8,E9,cw,ci,cD,cC,b6,cQ,cE,cK,cv,cz,cy,cu,cM,b5,cI,ca,cr,cf,cB,cA,cG,cc,b7,cF,cg,cH,cj,cJ,b3,cO,b8,cx,ck,ce,cP,cN,b9,cb,cq,Nat.reduceAdd,Nat.reduceSub,Nat.reduceLeDiff,Nat.reduceLT,Nat.reduceEqDiff,Int.reduceLT,Int.reduceLE,Int.reduceAdd,Int.reduceSub,Int.reduceMul,Int.reduceMod,Int.reduceDiv,Int.reduceNeg,Int.reduceToNat,Int.reducePow,Int.reduceEq,id])
 have e2:(nums (List.range us.length)).filter (fun p=>match p with|.int i=>kK us x i.toNat|_=>false)=nums ((List.range us.length).filter (kK us x)):=by
  unfold nums
  rw[List.filter_map];rfl
 rw[List.map_id,e2] at e
 exact e
theorem Np:∀l:List Nat,(l.map fun y:Nat=>(y:Int)).sum=((l.sum:Nat):Int)
 |[]=>rfl
 |a::l=>by rw[List.map_cons,List.sum_cons,Np l,List.sum_cons];omega
theorem gK {us:List Nat}(f:Frst us){x:Nat}(hx:x<us.length):aF [.tup (nums us),.int x]=some (.v (.int (szc us x:Nat))):=by
 rw[wC f hx,OH f.fst]
theorem tY {us:List Nat}(f:Frst us){x:Nat}(hx:x<us.length)(z3:Option Sl):∃z3',cV [some (.val (.tup (nums us))),some (.val (.tup (nums (lP us)))),some (.val (.int x)),z3]=.nx [some (.val (.tup (nums us))),some (.val (.tup (nums (lP us)))),some (.val (.int x)),z3']:=by
 have hm:=f.most
 have hn:us.length<1000:=by omega
 have hp:=(aP f.fst hx).pos
 have e0:((way us x).length:Int) - 1=(dp us x:Nat):=by unfold dp;omega
 have l1:=List.length_filter_le (kK us x) (List.range us.length)
 rw[List.length_range] at l1
 have l2:((List.range us.length).filter (kK us x)).length<1000:=by omega
 have e4:kO (gN 0) dh fK [none,some (.val (.tup (nums us)))] (nums ((List.range us.length).filter (kK us x)))=some (((List.range us.length).filter (kK us x)).map fun y=>.int (szc us y:Nat)):=fo _ fun y hy=>by
  simp only[fK,E1,E2,E3,E4,E5,E6,E7,E8,E9,cw,ci,cD,cC,b6,cQ,cE,cK,cv,cz,cy,cu,cM,b5,cI,ca,cr,cf,cB,cA,cG,cc,b7,cF,cg,cH,cj,cJ,b3,cO,b8,cx,ck,ce,cP,cN,b9,cb,cq,Nat.reduceAdd,Nat.reduceSub,Nat.reduceLeDiff,Nat.reduceLT,Nat.reduceEqDiff,Int.reduceLT,Int.reduceLE,Int.reduceAdd,Int.reduceSub,Int.reduceMul,Int.reduceMod,Int.reduceDiv,Int.reduceNeg,Int.reduceToNat,Int.reducePow,Int.reduceEq,gK f (List.mem_range.mp (List.mem_filter.mp hy).1)]
 have ei:db (((List.range us.length).filter (kK us x)).map fun y=>PV.int (szc us y:Nat))=some (((List.range us.length).filter (kK us x)).map fun y=>((szc us y:Nat):Int)):=by
  have:=jL (((List.range us.length).filter (kK us x)).map fun y=>((szc us y:Nat):Int))
  rwa [List.map_map] at this
 have es:(1:Int)+(((List.range us.length).filter (kK us x)).map fun y=>((szc us y:Nat):Int)).sum=(szc us x:Nat):=by
  have:=Np (((List.range us.length).filter (kK us x)).map (szc us))
  rw[List.map_map] at this
  rw[A0 f.fst hx]
  have h:(((List.range us.length).filter (kK us x)).map fun y=>((szc us y:Nat):Int)).sum=_:=this
  rw[h];omega
 have hx':x<(lP us).length:=by rw[gP];exact hx
 have eh:up (lP us) x=hd us x:=mw _ hx
 refine⟨some (.val (.lst (nums ((List.range us.length).filter (kK us x))))),?_⟩
 have ed:=(qM f hx).2
 by_cases q:hd us x=x
 ·rw[if_pos q] at ed
  simp only[cV,E1,E2,E3,E4,E5,E6,E7,E8,E9,cw,ci,cD,cC,b6,cQ,cE,cK,cv,cz,cy,cu,cM,b5,cI,ca,cr,cf,cB,cA,cG,cc,b7,cF,cg,cH,cj,cJ,b3,cO,b8,cx,ck,ce,cP,cN,b9,cb,cq,Nat.reduceAdd,Nat.reduceSub,Nat.reduceLeDiff,Nat.reduceLT,Nat.reduceEqDiff,Int.reduceLT,Int.reduceLE,Int.reduceAdd,Int.reduceSub,Int.reduceMul,Int.reduceMod,Int.reduceDiv,Int.reduceNeg,Int.reduceToNat,Int.reducePow,Int.reduceEq,K1 (show us.length≤100000 by omega),List.length_range,hn,wn,gK f hx,l2,e4,ei,es,fS f hx,nr f hx,e0,fS (iZ f) hx',ed,am hx',eh,j8,decide_eq_true q,decide_eq_true (rfl:szc us x=szc us x),decide_eq_true (rfl:dp us x=dp us x)]
  rfl
 ·rw[if_neg q] at ed
  simp only[cV,E1,E2,E3,E4,E5,E6,E7,E8,E9,cw,ci,cD,cC,b6,cQ,cE,cK,cv,cz,cy,cu,cM,b5,cI,ca,cr,cf,cB,cA,cG,cc,b7,cF,cg,cH,cj,cJ,b3,cO,b8,cx,ck,ce,cP,cN,b9,cb,cq,Nat.reduceAdd,Nat.reduceSub,Nat.reduceLeDiff,Nat.reduceLT,Nat.reduceEqDiff,Int.reduceLT,Int.reduceLE,Int.reduceAdd,Int.reduceSub,Int.reduceMul,Int.reduceMod,Int.reduceDiv,Int.reduceNeg,Int.reduceToNat,Int.reducePow,Int.reduceEq,K1 (show us.length≤100000 by omega),List.length_range,hn,wn,gK f hx,l2,e4,ei,es,fS f hx,nr f hx,e0,fS (iZ f) hx',ed,am hx',eh,j8,decide_eq_false q,decide_eq_true (rfl:szc us x=szc us x),decide_eq_true (rfl:dp us x=dp us x)]
  rfl
theorem m3 {us:List Nat}(f:Frst us):∀(ts:List Nat) (z2 z3:Option Sl),(∀t∈ts,t<us.length)->∃z2' z3',bZ (gN 2) cV (nums ts) [some (.val (.tup (nums us))),some (.val (.tup (nums (lP us)))),z2,z3]=.nx [some (.val (.tup (nums us))),some (.val (.tup (nums (lP us)))),z2',z3']
 |[],z2,z3,_=>⟨z2,z3,rfl⟩
 |t::ts,z2,z3,h=>by
  obtain⟨w3,e1⟩:=tY f (h t List.mem_cons_self) z3
  obtain⟨z2',z3',e2⟩:=m3 f ts (some (.val (.int t))) w3 fun u hu=>h u (List.mem_cons_of_mem _ hu)
  refine⟨z2',z3',?_⟩
  rw[cZ,fZ,←e2]
  simp only[E1,E2,E3,E4,E5,E6,E7,E8,E9,cw,ci,cD,cC,b6,cQ,cE,cK,cv,cz,cy,cu,cM,b5,cI,ca,cr,cf,cB,cA,cG,cc,b7,cF,cg,cH,cj,cJ,b3,cO,b8,cx,ck,ce,cP,cN,b9,cb,cq,Nat.reduceAdd,Nat.reduceSub,Nat.reduceLeDiff,Nat.reduceLT,Nat.reduceEqDiff,Int.reduceLT,Int.reduceLE,Int.reduceAdd,Int.reduceSub,Int.reduceMul,Int.reduceMod,Int.reduceDiv,Int.reduceNeg,Int.reduceToNat,Int.reducePow,Int.reduceEq,e1]
theorem Fq {us:List Nat}(f:Frst us):dD [.tup (nums us)]=some (.v (.bl true)):=by
 have hm:=f.most
 have h1:=f.one
 have hn:us.length<1000:=by omega
 have e1:kO (gN 0) dh fJ [none,some (.val (.tup (nums us)))] (nums (List.range us.length))=some (nums (lP us)):=by
  rw[fo (fun x=>PV.int (hd us x:Nat)) fun x hx=>by simp only[fJ,E1,E2,E3,E4,E5,E6,E7,E8,E9,cw,ci,cD,cC,b6,cQ,cE,cK,cv,cz,cy,cu,cM,b5,cI,ca,cr,cf,cB,cA,cG,cc,b7,cF,cg,cH,cj,cJ,b3,cO,b8,cx,ck,ce,cP,cN,b9,cb,cq,Nat.reduceAdd,Nat.reduceSub,Nat.reduceLeDiff,Nat.reduceLT,Nat.reduceEqDiff,Int.reduceLT,Int.reduceLE,Int.reduceAdd,Int.reduceSub,Int.reduceMul,Int.reduceMod,Int.reduceDiv,Int.reduceNeg,Int.reduceToNat,Int.reducePow,Int.reduceEq,EQ f (List.mem_range.mp hx)]]
  unfold lP nums;rw[List.map_map];rfl
 have el:aw [.tup (nums (lP us))]=some (.n (dI (aG us.length (hd us)))):=by
  rw[bN (iZ f),gP,Pt.lots_congr fun x y hx hy=>by rw[(qM f hx).1,(qM f hy).1]]
 obtain⟨k,g,eh⟩:=hW (iZ f)
 have hk:=CI f g
 obtain⟨ts,hts,tl,et⟩:=kr h1 (show us.length≤100000 by omega)
 obtain⟨z2,z3,e5⟩:=m3 f ts none none hts
 have dk:decide ((1:Int)<(k:Int))=false:=decide_eq_false (by omega)
 simp only[nC,gm,E1,E2,E3,E4,E5,E6,E7,E8,E9,cw,ci,cD,cC,b6,cQ,cE,cK,cv,cz,cy,cu,cM,b5,cI,ca,cr,cf,cB,cA,cG,cc,b7,cF,cg,cH,cj,cJ,b3,cO,b8,cx,ck,ce,cP,cN,b9,cb,cq,Nat.reduceAdd,Nat.reduceSub,Nat.reduceLeDiff,Nat.reduceLT,Nat.reduceEqDiff,Int.reduceLT,Int.reduceLE,Int.reduceAdd,Int.reduceSub,Int.reduceMul,Int.reduceMod,Int.reduceDiv,Int.reduceNeg,Int.reduceToNat,Int.reducePow,Int.reduceEq,K1 (show us.length≤100000 by omega),List.length_range,hn,e1,el,bN f,(si _).2,eK,d8 (eK _),show decide (bP (dI (aG us.length (hd us)))≤49)=true from decide_eq_true (by have:=jG (aG us.length (hd us));omega),eh,dk,et,e5]
theorem rY (g h:Nat->Nat):∀(ks acc:List Nat),(ks.foldl (fun a k=>a.set (g k) (h k)) acc).length=acc.length
 |[],_=>rfl
 |k::ks,acc=>by rw[List.foldl_cons,rY g h ks,List.length_set]
theorem vD {g h:Nat->Nat}{n x:Nat}(inj:∀a b,a<n->b<n->g a=g b->a=b)(hx:x<n):∀(ks acc:List Nat),(∀k∈ks,k<n)->(∀k,k<n->g k<acc.length)->up (ks.foldl (fun a k=>a.set (g k) (h k)) acc) (g x)=if x∈ks then h x else up acc (g x)
 |[],_,_,_=>by simp
 |k::ks,acc,hk,ha=>by
  have k0:=hk k List.mem_cons_self
  rw[List.foldl_cons,vD inj hx ks _ (fun u hu=>hk u (List.mem_cons_of_mem _ hu)) (fun j hj=>by rw[List.length_set];exact ha j hj),eR (ha k k0)]
  by_cases h1:x∈ks
  ·rw[if_pos h1,if_pos (List.mem_cons_of_mem _ h1)]
  ·rw[if_neg h1]
   by_cases h2:x=k
   ·subst h2;rw[if_pos rfl,if_pos List.mem_cons_self]
   ·rw[if_neg fun e=>h2 (inj _ _ hx k0 e),if_neg (by simp[h1,h2])]
theorem tj {us P:List Nat}{s1 s2:Option Sl}(hb:∀x,x<us.length->up us x<us.length)(hP:P.length=us.length)(hp:∀k,k<us.length->up P k<us.length):∀(ks acc:List Nat) (z5:Option Sl),(∀k∈ks,k<us.length)->acc.length=us.length →
  ∃z5',bZ (gN 5) bt (nums ks) [some (.val (.tup (nums us))),s1,s2,some (.val (.lst (nums P))),some (.own (nums acc)),z5]=.nx [some (.val (.tup (nums us))),s1,s2,some (.val (.lst (nums P))),some (.own (nums (ks.foldl (fun a k=>a.set (up P k) (up P (up us k))) acc))),z5']
 |[],_,z5,_,_=>⟨z5,rfl⟩
 |k::ks,acc,z5,hk,ha=>by
  have k0:=hk k List.mem_cons_self
  obtain⟨z5',e⟩:=tj (s1:=s1) (s2:=s2) hb hP hp ks (acc.set (up P k) (up P (up us k))) (some (.val (.int k))) (fun u hu=>hk u (List.mem_cons_of_mem _ hu)) (by rw[List.length_set];exact ha)
  refine⟨z5',?_⟩
  rw[cZ,fZ,List.foldl_cons,←e]
  simp only[bt,E1,E2,E3,E4,E5,E6,E7,E8,E9,cw,ci,cD,cC,b6,cQ,cE,cK,cv,cz,cy,cu,cM,b5,cI,ca,cr,cf,cB,cA,cG,cc,b7,cF,cg,cH,cj,cJ,b3,cO,b8,cx,ck,ce,cP,cN,b9,cb,cq,Nat.reduceAdd,Nat.reduceSub,Nat.reduceLeDiff,Nat.reduceLT,Nat.reduceEqDiff,Int.reduceLT,Int.reduceLE,Int.reduceAdd,Int.reduceSub,Int.reduceMul,Int.reduceMod,Int.reduceDiv,Int.reduceNeg,Int.reduceToNat,Int.reducePow,Int.reduceEq,am k0,am (show k<P.length by omega),am (show up us k<P.length by have:=hb k k0;omega),il (show up P k<acc.length by have:=hp k k0;omega),jk]
section
variable {us vs P:List Nat}(f:Frst us)(r:Ren P us vs)
include f r
theorem yT {x:Nat}(hx:x<us.length){s1 s2 z5:Option Sl}:aO [some (.val (.tup (nums us))),s1,s2,some (.val (.lst (nums P))),some (.val (.tup (nums vs))),some (.val (.int x))]=.nx [some (.val (.tup (nums us))),s1,s2,some (.val (.lst (nums P))),some (.val (.tup (nums vs))),some (.val (.int x))]:=by
 have fv:=r.frst f
 have hm:=f.most
 have hv:up P x<vs.length:=by rw[r.len];exact r.lt hx
 have hP:x<P.length:=by rw[r.pl];exact hx
 have hh:hd us x<P.length:=by rw[r.pl];exact i5 f.fst hx
 have lc:=u7 us.length (hd us) x
 have e4:kO (gN 0) dh bw [none,some (.val (.lst (nums P)))] (nums (cl us.length (hd us) x))=some (nums ((cl us.length (hd us) x).map (up P))):=by
  rw[fo (fun y=>PV.int (up P y:Nat)) fun y hy=>by simp only[bw,E1,E2,E3,E4,E5,E6,E7,E8,E9,cw,ci,cD,cC,b6,cQ,cE,cK,cv,cz,cy,cu,cM,b5,cI,ca,cr,cf,cB,cA,cG,cc,b7,cF,cg,cH,cj,cJ,b3,cO,b8,cx,ck,ce,cP,cN,b9,cb,cq,Nat.reduceAdd,Nat.reduceSub,Nat.reduceLeDiff,Nat.reduceLT,Nat.reduceEqDiff,Int.reduceLT,Int.reduceLE,Int.reduceAdd,Int.reduceSub,Int.reduceMul,Int.reduceMod,Int.reduceDiv,Int.reduceNeg,Int.reduceToNat,Int.reducePow,Int.reduceEq,am (show y<P.length by rw[r.pl];exact (mem_cl.mp hy).1)]]
  unfold nums;rw[List.map_map];rfl
 have l1:(cl us.length (hd us) x).length<1000:=by omega
 have es:iP [.lst (nums ((cl us.length (hd us) x).map (up P)))]=some (.nw (nums (cl vs.length (hd vs) (up P x)))):=by
  have:=nA (r.cl f hx) (by rw[List.length_map];omega)
  rw[r.len];exact this
 simp only[aO,E1,E2,E3,E4,E5,E6,E7,E8,E9,cw,ci,cD,cC,b6,cQ,cE,cK,cv,cz,cy,cu,cM,b5,cI,ca,cr,cf,cB,cA,cG,cc,b7,cF,cg,cH,cj,cJ,b3,cO,b8,cx,ck,ce,cP,cN,b9,cb,cq,Nat.reduceAdd,Nat.reduceSub,Nat.reduceLeDiff,Nat.reduceLT,Nat.reduceEqDiff,Int.reduceLT,Int.reduceLE,Int.reduceAdd,Int.reduceSub,Int.reduceMul,Int.reduceMod,Int.reduceDiv,Int.reduceNeg,Int.reduceToNat,Int.reducePow,Int.reduceEq,am hP,am hh,kY fv hv,kY f hx,r.hd f hx,fS fv hv,fS f hx,r.dp f hx,gK fv hv,gK f hx,r.szc f hx,kx fv hv,kx f hx,l1,e4,es,j8,decide_eq_true (rfl:szc us x=szc us x),decide_eq_true (rfl:dp us x=dp us x),decide_eq_true (rfl:up P (hd us x)=up P (hd us x)),(Dj _).2,aV,dE,d8 (aV _)]
end
theorem sv {us vs P:List Nat}(f:Frst us)(r:Ren P us vs){s1 s2:Option Sl}:∀(ts:List Nat) (z5:Option Sl),(∀t∈ts,t<us.length)->∃z5',bZ (gN 5) aO (nums ts) [some (.val (.tup (nums us))),s1,s2,some (.val (.lst (nums P))),some (.val (.tup (nums vs))),z5]=.nx [some (.val (.tup (nums us))),s1,s2,some (.val (.lst (nums P))),some (.val (.tup (nums vs))),z5']
 |[],z5,_=>⟨z5,rfl⟩
 |t::ts,z5,h=>by
  obtain⟨z5',e⟩:=sv f r (s1:=s1) (s2:=s2) ts (some (.val (.int t))) fun u hu=>h u (List.mem_cons_of_mem _ hu)
  refine⟨z5',?_⟩
  rw[cZ,fZ,←e]
  simp only[E1,E2,E3,E4,E5,E6,E7,E8,E9,cw,ci,cD,cC,b6,cQ,cE,cK,cv,cz,cy,cu,cM,b5,cI,ca,cr,cf,cB,cA,cG,cc,b7,cF,cg,cH,cj,cJ,b3,cO,b8,cx,ck,ce,cP,cN,b9,cb,cq,Nat.reduceAdd,Nat.reduceSub,Nat.reduceLeDiff,Nat.reduceLT,Nat.reduceEqDiff,Int.reduceLT,Int.reduceLE,Int.reduceAdd,Int.reduceSub,Int.reduceMul,Int.reduceMod,Int.reduceDiv,Int.reduceNeg,Int.reduceToNat,Int.reducePow,Int.reduceEq,yT f r (h t List.mem_cons_self) (z5:=none)]
theorem Oq {us xs:List Nat}(f:Frst us)(hx:us.length≤xs.length):aI [.tup (nums us),.lst (nums xs)]=some (.v (.bl true)):=by
 have hm:=f.most
 have h1:=f.one
 have hn:us.length<1000:=by omega
 have cm:∀k:Nat,(((up xs k:Nat):Int).natAbs<2 ^ 64\/(7919:Int).natAbs<2 ^ 64)=True:=fun k=>eq_true (.inr (by decide))
 have c7:((7919:Int).natAbs<2 ^ 64)=True:=eq_true (by decide)
 have e1:kO (gN 0) dh bm [none,some (.val (.lst (nums xs)))] (nums (List.range us.length))=some (uY (fun k=>(up xs k:Int) * 7919 % 999983) (List.range us.length)):=fo _ fun k hk=>by
  simp only[bm,E1,E2,E3,E4,E5,E6,E7,E8,E9,cw,ci,cD,cC,b6,cQ,cE,cK,cv,cz,cy,cu,cM,b5,cI,ca,cr,cf,cB,cA,cG,cc,b7,cF,cg,cH,cj,cJ,b3,cO,b8,cx,ck,ce,cP,cN,b9,cb,cq,Nat.reduceAdd,Nat.reduceSub,Nat.reduceLeDiff,Nat.reduceLT,Nat.reduceEqDiff,Int.reduceLT,Int.reduceLE,Int.reduceAdd,Int.reduceSub,Int.reduceMul,Int.reduceMod,Int.reduceDiv,Int.reduceNeg,Int.reduceToNat,Int.reducePow,Int.reduceEq,am (show k<xs.length by have:=List.mem_range.mp hk;omega),c7,or_true]
 have e2:kO (gN 0) dh bu [none] (uY (fun k=>(up xs k:Int) * 7919 % 999983) (pY (fun k=>(up xs k:Int) * 7919 % 999983) us.length))=some (nums (pY (fun k=>(up xs k:Int) * 7919 % 999983) us.length)):=oY _ _ fun a b=>by
  simp only[bu,E1,E2,E3,E4,E5,E6,E7,E8,E9,cw,ci,cD,cC,b6,cQ,cE,cK,cv,cz,cy,cu,cM,b5,cI,ca,cr,cf,cB,cA,cG,cc,b7,cF,cg,cH,cj,cJ,b3,cO,b8,cx,ck,ce,cP,cN,b9,cb,cq,Nat.reduceAdd,Nat.reduceSub,Nat.reduceLeDiff,Nat.reduceLT,Nat.reduceEqDiff,Int.reduceLT,Int.reduceLE,Int.reduceAdd,Int.reduceSub,Int.reduceMul,Int.reduceMod,Int.reduceDiv,Int.reduceNeg,Int.reduceToNat,Int.reducePow,Int.reduceEq]
 have es:=my (fun k=>(up xs k:Int) * 7919 % 999983) us.length (by omega)
 have hp:=ic (fun k=>(up xs k:Int) * 7919 % 999983) us.length
 have hl:=sD (fun k=>(up xs k:Int) * 7919 % 999983) us.length
 generalize pY (fun k=>(up xs k:Int) * 7919 % 999983) us.length=P at e2 es hp hl
 have plt:∀k,k<us.length->up P k<us.length:=fun k hk=>by
  have:=CC (p:=P) (by rw[hl];exact hp) k (by omega)
  omega
 have inj:∀a b,a<us.length->b<us.length->up P a=up P b->a=b:=fun a b ha hb e=>Dp.uk (hp.nodup_iff.mpr List.nodup_range) (by omega) (by omega) e
 obtain⟨z5,e3⟩:=tj (P:=P) (s1:=some (.val (.lst (nums xs)))) (s2:=some (.val (.int us.length))) f.fst.bnd hl plt (List.range us.length) (List.replicate us.length 0) none (fun k hk=>List.mem_range.mp hk) (List.length_replicate ..)
 have r:Ren P us ((List.range us.length).foldl (fun a k=>a.set (up P k) (up P (up us k))) (List.replicate us.length 0)):=by
  refine⟨hp,by rw[rY,List.length_replicate],fun x hx=>?_⟩
  rw[vD (g:=up P) (h:=fun k=>up P (up us k)) inj hx _ _ (fun k hk=>List.mem_range.mp hk) fun k hk=>by rw[List.length_replicate];exact plt k hk,if_pos (List.mem_range.mpr hx)]
 generalize (List.range us.length).foldl (fun a k=>a.set (up P k) (up P (up us k))) (List.replicate us.length 0)=vs at e3 r
 have fv:=r.frst f
 obtain⟨ts,hts,tl,et⟩:=kr h1 (show us.length≤100000 by omega)
 obtain⟨w5,e5⟩:=sv f r (s1:=some (.val (.lst (nums xs)))) (s2:=some (.val (.int us.length))) ts z5 hts
 obtain⟨h,g,eh⟩:=hW f
 obtain⟨k,q,ek⟩:=hW fv
 obtain rfl:=r.hgt f g q
 have lp:(uY (fun k=>(up xs k:Int) * 7919 % 999983) P).length<1000:=by rw[qh];omega
 simp only[gw,bF,E1,E2,E3,E4,E5,E6,E7,E8,E9,cw,ci,cD,cC,b6,cQ,cE,cK,cv,cz,cy,cu,cM,b5,cI,ca,cr,cf,cB,cA,cG,cc,b7,cF,cg,cH,cj,cJ,b3,cO,b8,cx,ck,ce,cP,cN,b9,cb,cq,Nat.reduceAdd,Nat.reduceSub,Nat.reduceLeDiff,Nat.reduceLT,Nat.reduceEqDiff,Int.reduceLT,Int.reduceLE,Int.reduceAdd,Int.reduceSub,Int.reduceMul,Int.reduceMod,Int.reduceDiv,Int.reduceNeg,Int.reduceToNat,Int.reducePow,Int.reduceEq,K1 (show us.length≤100000 by omega),List.length_range,hn,e1,es,lp,e2,NJ (show us.length≤1000 by omega),e3,et,e5,eh,ek,bN fv,bN f,fX,r.lots f,j8,decide_eq_true (rfl:k=k),decide_eq_true (rfl:(aG us.length (hd us)).length=(aG us.length (hd us)).length)]
theorem Pa (n:Nat)(l:List Nat):l.map (fun y:Nat=>PV.int ((n:Int)+(y:Int)))=nums (l.map (n + ·)):=by
 unfold nums;rw[List.map_map]
 exact List.map_congr_left fun y _=>rfl
theorem B5 {us vs:List Nat}(f:Frst us)(g:Frst vs):aT [.tup (nums us),.tup (nums vs)]=some (.v (.bl true)):=by
 have hm:=f.most
 have hm':=g.most
 have h1:=f.one
 have h1':=g.one
 by_cases h40:us.length+vs.length≤40
 ·have d0:decide ((40:Int)<(us.length:Int)+(vs.length:Int))=false:=decide_eq_false (by omega)
  have fb:=nL f g h40
  have e1:∀l:List Nat,kO (gN 0) dh aR [none,some (.val (.int us.length))] (nums l)=some (nums (l.map (us.length + ·))):=fun l=>by
   rw[←Pa]
   exact fo _ fun y hy=>by simp only[aR,E1,E2,E3,E4,E5,E6,E7,E8,E9,cw,ci,cD,cC,b6,cQ,cE,cK,cv,cz,cy,cu,cM,b5,cI,ca,cr,cf,cB,cA,cG,cc,b7,cF,cg,cH,cj,cJ,b3,cO,b8,cx,ck,ce,cP,cN,b9,cb,cq,Nat.reduceAdd,Nat.reduceSub,Nat.reduceLeDiff,Nat.reduceLT,Nat.reduceEqDiff,Int.reduceLT,Int.reduceLE,Int.reduceAdd,Int.reduceSub,Int.reduceMul,Int.reduceMod,Int.reduceDiv,Int.reduceNeg,Int.reduceToNat,Int.reducePow,Int.reduceEq]
  have e2:kO (gN 0) dh bd [none,some (.val (.int us.length))] (dI (aG vs.length (hd vs)))=some (dI ((aG vs.length (hd vs)).map fun l=>l.map (us.length + ·))):=by
   have:=uZ (t:=gN 0) (f:=bd) (ρ:=[none,some (.val (.int us.length))]) (fun p=>match p with|.tup ps=>.tup (ps.map fun q=>match q with|.int i=>.int (us.length+i)|_=>.non)|_=>.non) (its:=dI (aG vs.length (hd vs))) fun p hp=>by
    obtain⟨l,hl,rfl⟩:=List.mem_map.mp hp
    obtain⟨x,hx,rfl⟩:=mem_lots.mp hl
    have:=u7 vs.length (hd vs) x
    have l1:(cl vs.length (hd vs) x).length<1000:=by omega
    simp only[bd,E1,E2,E3,E4,E5,E6,E7,E8,E9,cw,ci,cD,cC,b6,cQ,cE,cK,cv,cz,cy,cu,cM,b5,cI,ca,cr,cf,cB,cA,cG,cc,b7,cF,cg,cH,cj,cJ,b3,cO,b8,cx,ck,ce,cP,cN,b9,cb,cq,Nat.reduceAdd,Nat.reduceSub,Nat.reduceLeDiff,Nat.reduceLT,Nat.reduceEqDiff,Int.reduceLT,Int.reduceLE,Int.reduceAdd,Int.reduceSub,Int.reduceMul,Int.reduceMod,Int.reduceDiv,Int.reduceNeg,Int.reduceToNat,Int.reducePow,Int.reduceEq,l1,e1]
    unfold nums
    rw[List.map_map,List.map_map]
    rfl
   rw[this]
   unfold dI
   rw[List.map_map,List.map_map]
   refine congrArg some (List.map_congr_left fun l _=>?_)
   show PV.tup _=PV.tup _
   unfold nums
   rw[List.map_map,List.map_map]
   rfl
  have e3:∀(ws ts:List Nat),Frst ws->(∀t∈ts,t<ws.length)->kO (gN 0) dh aS [none,some (.val (.tup (nums ws)))] (nums ts)=some (nums (ts.map (szc ws))):=fun ws ts fw ht=>by
   rw[fo (fun x=>PV.int (szc ws x:Nat)) fun x hx=>by simp only[aS,E1,E2,E3,E4,E5,E6,E7,E8,E9,cw,ci,cD,cC,b6,cQ,cE,cK,cv,cz,cy,cu,cM,b5,cI,ca,cr,cf,cB,cA,cG,cc,b7,cF,cg,cH,cj,cJ,b3,cO,b8,cx,ck,ce,cP,cN,b9,cb,cq,Nat.reduceAdd,Nat.reduceSub,Nat.reduceLeDiff,Nat.reduceLT,Nat.reduceEqDiff,Int.reduceLT,Int.reduceLE,Int.reduceAdd,Int.reduceSub,Int.reduceMul,Int.reduceMod,Int.reduceDiv,Int.reduceNeg,Int.reduceToNat,Int.reducePow,Int.reduceEq,gK fw (ht x hx)]]
   unfold nums;rw[List.map_map];rfl
  obtain⟨a,ga,ea⟩:=hW f
  obtain⟨b,gb,eb⟩:=hW g
  obtain⟨c,gc,ec⟩:=hW fb
  obtain rfl:=C0 f g h40 ga gb gc
  have em:(if (b:Int) > (a:Int) then (b:Int) else (a:Int))=((max a b:Nat):Int):=by split<;>omega
  obtain⟨ts,hts,tl,et⟩:=kr h1 (show us.length≤100000 by omega)
  obtain⟨qs,hqs,ql,eq⟩:=kr h1' (show vs.length≤100000 by omega)
  have hb:∀t∈ts++qs.map (us.length + ·),t<(hV us vs).length:=fun t ht=>by
   rw[dG]
   rcases List.mem_append.mp ht with ht|ht
   ·have:=hts t ht;omega
   ·obtain⟨q,hq,rfl⟩:=List.mem_map.mp ht
    have:=hqs q hq;omega
  have es:(ts++qs.map (us.length + ·)).map (szc (hV us vs))=ts.map (szc us)++qs.map (szc vs):=by
   rw[List.map_append,List.map_map]
   congr 1
   ·exact List.map_congr_left fun t ht=>LB f g h40 (hts t ht)
   ·exact List.map_congr_left fun t ht=>Ij f g h40 (hqs t ht)
  have lv:=lC vs.length (hd vs)
  have lu:=lC us.length (hd us)
  have ll:aG (hV us vs).length (hd (hV us vs))=_:=Bh f g h40
  have n1:us.length+vs.length≤100000:=by omega
  have n2:(aG us.length (hd us)).length+(aG vs.length (hd vs)).length≤100000:=by omega
  have n3:(aG vs.length (hd vs)).length<1000:=by omega
  have n4:vs.length<1000:=by omega
  have n5:ts.length<1000:=by omega
  have n6:qs.length<1000:=by omega
  have n7:ts.length+qs.length≤100000:=by omega
  have n8:ts.length+qs.length<1000:=by omega
  have a2:dI (aG us.length (hd us))++dI ((aG vs.length (hd vs)).map fun l=>l.map (us.length + ·))=dI (aG us.length (hd us)++(aG vs.length (hd vs)).map fun l=>l.map (us.length + ·)):=by unfold dI;rw[List.map_append]
  have a1:us++vs.map (us.length + ·)=hV us vs:=rfl
  have dd:∀ls:List (List Nat),decide (bP (dI ls)≤49)=true:=fun ls=>decide_eq_true (by have:=jG ls;omega)
  have d9:decide (((max a b:Nat):Int)=((max a b:Nat):Int))=true:=decide_eq_true rfl
  simp only[eN,bz,E1,E2,E3,E4,E5,E6,E7,E8,E9,cw,ci,cD,cC,b6,cQ,cE,cK,cv,cz,cy,cu,cM,b5,cI,ca,cr,cf,cB,cA,cG,cc,b7,cF,cg,cH,cj,cJ,b3,cO,b8,cx,ck,ce,cP,cN,b9,cb,cq,Nat.reduceAdd,Nat.reduceSub,Nat.reduceLeDiff,Nat.reduceLT,Nat.reduceEqDiff,Int.reduceLT,Int.reduceLE,Int.reduceAdd,Int.reduceSub,Int.reduceMul,Int.reduceMod,Int.reduceDiv,Int.reduceNeg,Int.reduceToNat,Int.reducePow,Int.reduceEq,d0,e1,n4,n1,Dp.kI,a1,bN f,bN g,bN fb,n3,fX,e2,List.length_map,n2,a2,ll,nb fb,(si _).2,eK,d8 (eK _),dd,ea,eb,ec,em,d9,et,eq,n5,n6,e3 us ts f hts,e3 vs qs g hqs,n7,n8,List.length_append,e3 (hV us vs) _ fb hb,es,aV,dE,d8 (aV _)]
 ·have d0:decide ((40:Int)<(us.length:Int)+(vs.length:Int))=true:=decide_eq_true (by omega)
  simp only[eN,bz,E1,E2,E3,E4,E5,E6,E7,E8,E9,cw,ci,cD,cC,b6,cQ,cE,cK,cv,cz,cy,cu,cM,b5,cI,ca,cr,cf,cB,cA,cG,cc,b7,cF,cg,cH,cj,cJ,b3,cO,b8,cx,ck,ce,cP,cN,b9,cb,cq,Nat.reduceAdd,Nat.reduceSub,Nat.reduceLeDiff,Nat.reduceLT,Nat.reduceEqDiff,Int.reduceLT,Int.reduceLE,Int.reduceAdd,Int.reduceSub,Int.reduceMul,Int.reduceMod,Int.reduceDiv,Int.reduceNeg,Int.reduceToNat,Int.reducePow,Int.reduceEq,d0]
theorem y9 {n:Nat}{c:Nat->Nat}(h:1≤n):1≤(aG n c).length:=by
 have:cl n c 0∈aG n c:=mem_lots.mpr ⟨0,h,rfl⟩
 exact List.length_pos_of_mem this
theorem AY {n:Nat}{c:Nat->Nat}(h1:1≤n)(h:∀x y,x<n->y<n->c x=c y):(aG n c).length=1:=by
 rw[Pt.lots_congr (c':=fun _=>0) fun x y hx hy=>⟨fun _=>rfl,fun _=>h x y hx hy⟩]
 unfold aG
 rw[List.length_map,←List.countP_eq_length_filter]
 refine (dJ fun y _=>?_).trans (qq (x:=0) h1)
 unfold eM
 refine decide_eq_decide.mpr ⟨fun q=>?_,fun e z hz=>by omega⟩
 rcases Nat.eq_zero_or_pos y with e|e
 ·exact e
 ·exact absurd rfl (q 0 e)
theorem pick {l:List PV}(h:1≤l.length)(a:Nat):∃p,p∈l/\L2.atI l ((a:Int) % (l.length:Int))=some p:=by
 have hi:=Nat.mod_lt a (show 0<l.length by omega)
 refine⟨l[a % l.length],List.getElem_mem hi,?_⟩
 rw[←Int.natCast_emod]
 exact Pu.fU (List.getElem?_eq_getElem hi)
theorem Le {α:Type}(l:List α){m:Nat}(h:m≤l.length):cut l none (some (m:Int))=l.take m:=by
 unfold cut
 rw[_root_.HT.sIx_nat,_root_.HT.sIx_none,Nat.min_eq_left h,List.drop_zero,Nat.sub_zero]
theorem BT {α:Type}(l:List α){m:Nat}(h:m≤l.length):cut l (some (m:Int)) none=l.drop m:=by
 unfold cut
 rw[_root_.HT.sIx_nat,_root_.HT.sIx_none,Nat.min_eq_left h,List.take_of_length_le (by rw[List.length_drop];omega)]
theorem Kj (us:List Nat){h u:Nat}(hh:h<us.length):B6 (.tup (nums us)) none (some (h:Int))=some (.fz (.tup (nums (us.take h))))/\B6 (.tup (nums us)) (some ((h:Int)+1)) none=some (.fz (.tup (nums (us.drop (h+1)))))/\us.take h++[u]++us.drop (h+1)=us.set h u:=by
 refine⟨?_,?_,?_⟩
 ·unfold B6
  show (if _ then none else some (RV.fz (.tup (cut (nums us) none (some (h:Int))))))=_
  rw[na,Le us (by omega),if_neg]
  rw[_root_.HT.sIx_nat,Dp.dy];omega
 ·unfold B6
  show (if _ then none else some (RV.fz (.tup (cut (nums us) (some (((h+1:Nat):Int))) none))))=_
  rw[na,BT us (by omega),if_neg]
  show ¬(_root_.HT.sIx _ 0 (some ((h+1:Nat):Int))=0/\_)
  rw[_root_.HT.sIx_nat,Dp.dy];omega
 ·rw[List.set_eq_take_append_cons_drop,if_pos hh,List.append_assoc];rfl
theorem RA {a b:Int}{p:Prop}[Decidable p]:L2.atI [PV.int a,.int b] (if decide p=true then 1 else 0)=some (.int (if p then b else a)):=by
 by_cases h:p
 ·rw[decide_eq_true h,if_pos h];rfl
 ·rw[decide_eq_false h,if_neg h];rfl
theorem wx {us l:List Nat}:kO (gN 0) bS bR [none,some (.val (.tup (nums l)))] (nums (List.range us.length))=some (nums ((List.range us.length).filter fun y=>!decide (y∈l))):=by
 have e:=kU (t:=gN 0) (c:=bS) (f:=bR) (ρ:=[none,some (.val (.tup (nums l)))]) (fun p=>match p with|.int i=>!decide (i.toNat∈l)|_=>false) id (its:=nums (List.range us.length)) (fun p hp=>by
  obtain⟨y,hy,rfl⟩:=i8 hp
  refine⟨_,rfl,?_,fun _=>?_⟩
  ·show _=some (!decide (y∈l))
   simp only[bS,E1,E2,E3,E4,E5,E6,E7,E8,E9,cw,ci,cD,cC,b6,cQ,cE,cK,cv,cz,cy,cu,cM,b5,cI,ca,cr,cf,cB,cA,cG,cc,b7,cF,cg,cH,cj,cJ,b3,cO,b8,cx,ck,ce,cP,cN,b9,cb,cq,Nat.reduceAdd,Nat.reduceSub,Nat.reduceLeDiff,Nat.reduceLT,Nat.reduceEqDiff,Int.reduceLT,Int.reduceLE,Int.reduceAdd,Int.reduceSub,Int.reduceMul,Int.reduceMod,Int.reduceDiv,Int.reduceNeg,Int.reduceToNat,Int.reducePow,Int.reduceEq,aV,dE,nB]
  ·simp only[bR,E1,E2,E3,E4,E5,E6,E7,E8,E9,cw,ci,cD,cC,b6,cQ,cE,cK,cv,cz,cy,cu,cM,b5,cI,ca,cr,cf,cB,cA,cG,cc,b7,cF,cg,cH,cj,cJ,b3,cO,b8,cx,ck,ce,cP,cN,b9,cb,cq,Nat.reduceAdd,Nat.reduceSub,Nat.reduceLeDiff,Nat.reduceLT,Nat.reduceEqDiff,Int.reduceLT,Int.reduceLE,Int.reduceAdd,Int.reduceSub,Int.reduceMul,Int.reduceMod,Int.reduceDiv,Int.reduceNeg,Int.reduceToNat,Int.reducePow,Int.reduceEq,id])
 have e2:(nums (List.range us.length)).filter (fun p=>match p with|.int i=>!decide (i.toNat∈l)|_=>false)=nums ((List.range us.length).filter fun y=>!decide (y∈l)):=by
  unfold nums
  rw[List.filter_map];rfl
 rw[List.map_id,e2] at e
 exact e
section
variable {us:List Nat}{h u:Nat}(f:Frst us)(hh:h<us.length)(eh:up us h=h)(hu:u<us.length)(ne:hd us u≠h)
include f hh eh hu ne
theorem yV {x:Nat}(hx:x<us.length){s1 s2 s4 s5 z9 z10:Option Sl}:∃z9' z10',bQ [some (.val (.tup (nums us))),s1,s2,some (.val (.tup (nums (cl us.length (hd us) h)))),s4,s5,some (.val (.int u)),some (.val (.tup (nums (us.set h u)))),some (.val (.int x)),z9,z10]=.nx [some (.val (.tup (nums us))),s1,s2,some (.val (.tup (nums (cl us.length (hd us) h)))),s4,s5,some (.val (.int u)),some (.val (.tup (nums (us.set h u)))),some (.val (.int x)),z9',z10']:=by
 have fp:=kh f hh eh hu ne
 have hp:x<(us.set h u).length:=by rw[List.length_set];exact hx
 have hd1:hd us h=h:=fq f.fst hh eh
 have m1:x∈cl us.length (hd us) h↔hd us x=h:=by rw[mem_cl,hd1];exact⟨fun q=>q.2,fun q=>⟨hx,q⟩⟩
 have d1:decide (((dp us x+if hd us x=h then dp us u+1 else 0:Nat):Int)=(dp us x:Int)+if x∈cl us.length (hd us) h then (dp us u:Int)+1 else 0)=true:=decide_eq_true (by
  by_cases q:hd us x=h
  ·rw[if_pos q,if_pos (m1.mpr q)];omega
  ·rw[if_neg q,if_neg fun z=>q (m1.mp z)];omega)
 have d2:decide (((szc us x+if x∈way us u then (cl us.length (hd us) h).length else 0:Nat):Int)=(szc us x:Int)+if x∈way us u then ((cl us.length (hd us) h).length:Int) else 0)=true:=decide_eq_true (by split<;>omega)
 refine⟨some (.val (.int (if x∈cl us.length (hd us) h then (dp us u:Int)+1 else 0))),some (.val (.int (if x∈way us u then ((cl us.length (hd us) h).length:Int) else 0))),?_⟩
 simp only[bQ,E1,E2,E3,E4,E5,E6,E7,E8,E9,cw,ci,cD,cC,b6,cQ,cE,cK,cv,cz,cy,cu,cM,b5,cI,ca,cr,cf,cB,cA,cG,cc,b7,cF,cg,cH,cj,cJ,b3,cO,b8,cx,ck,ce,cP,cN,b9,cb,cq,Nat.reduceAdd,Nat.reduceSub,Nat.reduceLeDiff,Nat.reduceLT,Nat.reduceEqDiff,Int.reduceLT,Int.reduceLE,Int.reduceAdd,Int.reduceSub,Int.reduceMul,Int.reduceMod,Int.reduceDiv,Int.reduceNeg,Int.reduceToNat,Int.reducePow,Int.reduceEq,fS f hu,aV,dE,nB,RA,fS fp hp,fS f hx,Jw f hh eh hu ne hx,d1,nr f hu,Dp.dy,gK fp hp,gK f hx,CL f hh eh hu ne,d2]
theorem o7 {s1 s2 s4 s5:Option Sl}:∀(ts:List Nat) (z8 z9 z10:Option Sl),(∀t∈ts,t<us.length)->∃z8' z9' z10',bZ (gN 8) bQ (nums ts) [some (.val (.tup (nums us))),s1,s2,some (.val (.tup (nums (cl us.length (hd us) h)))),s4,s5,some (.val (.int u)),some (.val (.tup (nums (us.set h u)))),z8,z9,z10]=.nx [some (.val (.tup (nums us))),s1,s2,some (.val (.tup (nums (cl us.length (hd us) h)))),s4,s5,some (.val (.int u)),some (.val (.tup (nums (us.set h u)))),z8',z9',z10']
 |[],z8,z9,z10,_=>⟨z8,z9,z10,rfl⟩
 |t::ts,z8,z9,z10,hl=>by
  obtain⟨w9,w10,e1⟩:=yV f hh eh hu ne (hl t List.mem_cons_self) (s1:=s1) (s2:=s2) (s4:=s4) (s5:=s5) (z9:=z9) (z10:=z10)
  obtain⟨z8',z9',z10',e2⟩:=o7 (s1:=s1) (s2:=s2) (s4:=s4) (s5:=s5) ts (some (.val (.int t))) w9 w10 fun v hv=>hl v (List.mem_cons_of_mem _ hv)
  refine⟨z8',z9',z10',?_⟩
  rw[cZ,fZ,←e2]
  simp only[E1,E2,E3,E4,E5,E6,E7,E8,E9,cw,ci,cD,cC,b6,cQ,cE,cK,cv,cz,cy,cu,cM,b5,cI,ca,cr,cf,cB,cA,cG,cc,b7,cF,cg,cH,cj,cJ,b3,cO,b8,cx,ck,ce,cP,cN,b9,cb,cq,Nat.reduceAdd,Nat.reduceSub,Nat.reduceLeDiff,Nat.reduceLT,Nat.reduceEqDiff,Int.reduceLT,Int.reduceLE,Int.reduceAdd,Int.reduceSub,Int.reduceMul,Int.reduceMod,Int.reduceDiv,Int.reduceNeg,Int.reduceToNat,Int.reducePow,Int.reduceEq,e1]
end
theorem Of {us xs:List Nat}(f:Frst us)(hx:2≤xs.length):bg [.tup (nums us),.lst (nums xs)]=some (.v (.bl true)):=by
 have hm:=f.most
 have h1:=f.one
 have hl:=y9 (c:=hd us) h1
 have hl2:=lC us.length (hd us)
 by_cases q1:(aG us.length (hd us)).length=1
 ·simp only[gj,cU,E1,E2,E3,E4,E5,E6,E7,E8,E9,cw,ci,cD,cC,b6,cQ,cE,cK,cv,cz,cy,cu,cM,b5,cI,ca,cr,cf,cB,cA,cG,cc,b7,cF,cg,cH,cj,cJ,b3,cO,b8,cx,ck,ce,cP,cN,b9,cb,cq,Nat.reduceAdd,Nat.reduceSub,Nat.reduceLeDiff,Nat.reduceLT,Nat.reduceEqDiff,Int.reduceLT,Int.reduceLE,Int.reduceAdd,Int.reduceSub,Int.reduceMul,Int.reduceMod,Int.reduceDiv,Int.reduceNeg,Int.reduceToNat,Int.reducePow,Int.reduceEq,bN f,fX,q1]
  rfl
 ·obtain⟨p,hp,e1⟩:=pick (l:=dI (aG us.length (hd us))) (by rw[fX];exact hl) (up xs 0)
  obtain⟨l,hlm,rfl⟩:=List.mem_map.mp hp
  obtain⟨x,hxx,rfl⟩:=mem_lots.mp hlm
  rw[fX] at e1
  obtain⟨y,t,ey⟩:∃y t,cl us.length (hd us) x=y::t:=by
   cases e:cl us.length (hd us) x with
   |nil=>exact absurd e (M7 hxx)
   |cons y t=>exact⟨y,t,rfl⟩
  obtain⟨hy,ehy⟩:=mem_cl.mp (show y∈cl us.length (hd us) x by rw[ey];exact List.mem_cons_self)
  have e2:L2.atI (nums (cl us.length (hd us) x)) 0=some (.int y):=by rw[ey];exact Pu.fU (x:=0) rfl
  have hh:=i5 f.fst hxx
  have eh:=zB f.fst hxx
  have ec:cl us.length (hd us) x=cl us.length (hd us) (hd us x):=(jC hxx).mpr (fq f.fst hh eh).symm
  rw[ec] at e1 e2
  have hdy:hd us y=hd us x:=ehy
  generalize hd us x=h at hh eh hdy e1 e2
  have ehh:=fq f.fst hh eh
  have on:1≤((List.range us.length).filter fun y=>!decide (y∈cl us.length (hd us) h)).length:=by
   refine Decidable.byContradiction fun z=>q1 (AY h1 ?_)
   have:∀v,v<us.length->hd us v=h:=fun v hv=>Decidable.byContradiction fun q=>z (List.length_pos_of_mem (List.mem_filter.mpr ⟨List.mem_range.mpr hv,by
    rw[Bool.not_eq_true',decide_eq_false_iff_not,mem_cl]
    exact fun r=>q (r.2.trans ehh)⟩))
   intro a b ha hb
   rw[this a ha,this b hb]
  obtain⟨p,hp,e3⟩:=pick (l:=nums ((List.range us.length).filter fun y=>!decide (y∈cl us.length (hd us) h))) (by rw[Dp.dy];exact on) (up xs 1)
  obtain⟨u,hu,rfl⟩:=i8 hp
  rw[Dp.dy] at e3
  obtain⟨hu1,hu2⟩:=List.mem_filter.mp hu
  have hu:=List.mem_range.mp hu1
  have ne:hd us u≠h:=fun z=>by
   rw[Bool.not_eq_true',decide_eq_false_iff_not,mem_cl] at hu2
   exact hu2 ⟨hu,z.trans ehh.symm⟩
  have fp:=kh f hh eh hu ne
  have hp:h<(us.set h u).length:=by rw[List.length_set];exact hh
  obtain⟨a1,a2,a3⟩:=Kj us (u:=u) hh
  have lot:=kx fp hp
  have lots:=bN fp
  rw[List.length_set] at lot lots
  have pl:=y4 f hh eh hu ne
  have pc:=Lv f hh eh hu ne
  have ln:(cl us.length (hd us) h++cl us.length (hd us) u).length<64:=by
   have:=congrArg List.length pc
   rw[(lw _).length_eq,List.length_map,List.length_map] at this
   have:=u7 us.length (hd (us.set h u)) h
   omega
  have es:=nA pc ln
  have ln2:(cl us.length (hd us) h).length+(cl us.length (hd us) u).length≤100000:=by rw[List.length_append] at ln;omega
  obtain⟨ts,hts,tl,et⟩:=kr h1 (show us.length≤100000 by omega)
  have i0:L2.atI (nums xs) 0=some (.int (up xs 0:Nat)):=am (x:=0) (by omega)
  have i1:L2.atI (nums xs) 1=some (.int (up xs 1:Nat)):=am (x:=1) (by omega)
  have k1:(0:Int)<((aG us.length (hd us)).length:Int):=by omega
  have k2:(0:Int)<(((List.range us.length).filter fun y=>!decide (y∈cl us.length (hd us) h)).length:Int):=by omega
  have dq:decide (((aG us.length (hd us)).length:Int)=1)=false:=decide_eq_false (by omega)
  have dl:decide (((aG us.length (hd (us.set h u))).length:Int)=((aG us.length (hd us)).length:Int) - 1)=true:=decide_eq_true (by omega)
  have hn:us.length<1000:=by omega
  have t1:=List.length_take_le h us
  have t2:(us.drop (h+1)).length≤us.length:=by rw[List.length_drop];omega
  have n1:(us.take h).length+1≤100000:=by omega
  have n2:(us.take h).length+1+(us.drop (h+1)).length≤100000:=by omega
  have eu:nums (us.take h)++[PV.int (u:Int)]=nums (us.take h++[u]):=by unfold nums;rw[List.map_append];rfl
  obtain⟨z8,z9,z10,e9⟩:=o7 f hh eh hu ne (s1:=some (.val (.lst (nums xs)))) (s2:=some (.val (.lst (dI (aG us.length (hd us)))))) (s4:=some (.val (.int h))) (s5:=some (.val (.lst (nums ((List.range us.length).filter fun y=>!decide (y∈cl us.length (hd us) h)))))) ts none none none hts
  simp only[gj,cU,E1,E2,E3,E4,E5,E6,E7,E8,E9,cw,ci,cD,cC,b6,cQ,cE,cK,cv,cz,cy,cu,cM,b5,cI,ca,cr,cf,cB,cA,cG,cc,b7,cF,cg,cH,cj,cJ,b3,cO,b8,cx,ck,ce,cP,cN,b9,cb,cq,Nat.reduceAdd,Nat.reduceSub,Nat.reduceLeDiff,Nat.reduceLT,Nat.reduceEqDiff,Int.reduceLT,Int.reduceLE,Int.reduceAdd,Int.reduceSub,Int.reduceMul,Int.reduceMod,Int.reduceDiv,Int.reduceNeg,Int.reduceToNat,Int.reducePow,Int.reduceEq,bN f,fX,dq,i0,k1,e1,e2,kY f hy,hdy,K1 (show us.length≤100000 by omega),List.length_range,hn,wx,i1,Dp.dy,k2,e3,a1,a2,n1,n2,eu,Dp.kI,a3,List.length_append,List.length_singleton,nb fp,lots,dl,lot,kx f hu,ln2,es,aV,dE,d8 (aV _),et,e9]
theorem re {s0:Option Sl}:∀(cs:List Int) (vs:List Nat) (z2 z3 z4:Option Sl),Frst vs->∃z1' z2' z3' z4',bZ (gN 2) j3 (cs.map PV.int) [s0,some (.val (.tup (nums vs))),z2,z3,z4]=.nx [s0,z1',z2',z3',z4']
 |[],vs,z2,z3,z4,_=>⟨_,z2,z3,z4,rfl⟩
 |c::cs,vs,z2,z3,z4,g=>by
  obtain⟨xs,hx,ex⟩:=xR c 54 (by decide) (by decide)
  have hx:xs.length=54:=hx
  have i49:L2.atI (nums xs) 49=some (.int (up xs 49:Nat)):=am (x:=49) (by omega)
  obtain⟨n,n1,n2,en⟩:=Cf (up xs 49)
  obtain⟨us,f,hu,ef⟩:=xf (xs:=xs) (n:=n) (by omega) n1 n2
  obtain⟨z1',z2',z3',z4',e⟩:=re (s0:=s0) cs us (some (.val (.int c))) (some (.val (.lst (nums xs)))) (some (.val (.tup (nums us)))) f
  refine⟨z1',z2',z3',z4',?_⟩
  have ec:cut (nums xs) (some 50) none=nums (xs.drop 50):=by
   rw[na]
   exact congrArg nums (BT xs (m:=50) (by omega))
  rw[List.map_cons,fZ,←e]
  simp only[j3,E1,E2,E3,E4,E5,E6,E7,E8,E9,cw,ci,cD,cC,b6,cQ,cE,cK,cv,cz,cy,cu,cM,b5,cI,ca,cr,cf,cB,cA,cG,cc,b7,cF,cg,cH,cj,cJ,b3,cO,b8,cx,ck,ce,cP,cN,b9,cb,cq,Nat.reduceAdd,Nat.reduceSub,Nat.reduceLeDiff,Nat.reduceLT,Nat.reduceEqDiff,Int.reduceLT,Int.reduceLE,Int.reduceAdd,Int.reduceSub,Int.reduceMul,Int.reduceMod,Int.reduceDiv,Int.reduceNeg,Int.reduceToNat,Int.reducePow,Int.reduceEq,ex,i49,en,ef,Fq f,Oq f (show us.length≤xs.length by omega),B5 f g,ec,Of f (show 2≤(xs.drop 50).length by rw[List.length_drop];omega)]
theorem Fh {α β:Type}(f:α->β)(l:List α)(a b:Option Int):cut (l.map f) a b=(cut l a b).map f:=by
 unfold cut
 simp only[List.length_map,List.map_take,List.map_drop]
theorem Db {α:Type}(l:List α)(a b:Option Int):(cut l a b).length≤l.length:=by
 unfold cut
 rw[List.length_take,List.length_drop]
 omega
theorem zQ:Frst [0]:=yG (by decide +kernel)
theorem AD:∀ns:List Int,ns.length≤63->run 1 5 jW [.src (ns.map PV.int)]=some (.v (.bl true)):=fun ns hn=>by
 obtain⟨c,ec⟩:=Lb ns 0 (by decide) (by decide)
 have ec:bK [.src (ns.map PV.int),.int 0]=some (.v (.int c)):=ec
 obtain⟨z1,z2,z3,z4,e3⟩:=re (s0:=some (.val (.src (ns.map PV.int)))) (c::cut ns (some 1) (some 4)) [0] none none none zQ
 have e3:bZ (gN 2) j3 (.int c::cut (ns.map PV.int) (some 1) (some 4)) [some (.val (.src (ns.map PV.int))),some (.val (.tup [.int 0])),none,none,none]=.nx [some (.val (.src (ns.map PV.int))),z1,z2,z3,z4]:=by
  rw[Fh];exact e3
 have l8:1+(cut (ns.map PV.int) (some 1) (some 4)).length≤100000:=by
  have:=Db (ns.map PV.int) (some 1) (some 4)
  rw[List.length_map] at this
  omega
 show GD [.src (ns.map PV.int)]=_
 simp only[D9,jW,E1,E2,E3,E4,E5,E6,E7,E8,E9,cw,ci,cD,cC,b6,cQ,cE,cK,cv,cz,cy,cu,cM,b5,cI,ca,cr,cf,cB,cA,cG,cc,b7,cF,cg,cH,cj,cJ,b3,cO,b8,cx,ck,ce,cP,cN,b9,cb,cq,Nat.reduceAdd,Nat.reduceSub,Nat.reduceLeDiff,Nat.reduceLT,Nat.reduceEqDiff,Int.reduceLT,Int.reduceLE,Int.reduceAdd,Int.reduceSub,Int.reduceMul,Int.reduceMod,Int.reduceDiv,Int.reduceNeg,Int.reduceToNat,Int.reducePow,Int.reduceEq,ec,l8,e3]
end K04
end
section
namespace K04
open PySem L2 Fo Pu Dp
noncomputable def top (i:Nat):Stmt:=(PySem.Challenge.pw_lotheads_k04_whole_forests_go_along.main.body)[i]?.getD (.Pass ⟨0,0,0,0⟩)
structure Txt (mg:Str->Option Value):Prop where
 n_abs:mg "abs" = none
 n_all:mg "all" = none
 n_bool:mg "bool" = none
 n_int:mg "int" = none
 n_isinstance:mg "isinstance" = none
 n_len:mg "len" = none
 n_list:mg "list" = none
 n_max:mg "max" = none
 n_range:mg "range" = none
 n_sorted:mg "sorted" = none
 n_sum:mg "sum" = none
 n_tuple:mg "tuple" = none
 c_MOST_THINGS:∃t,mg "MOST_THINGS" = some (.int 40 t)
noncomputable abbrev bv:Stmt:=top 27
theorem mh:FnScope ["_law_cell_here","_law_many_here","_law_some_here","_law_state","_law_digits","_law_k"] ["_law_cell_here","_law_many_here"] (aa bv):=⟨rfl,rfl,rfl,by decide +kernel,rfl,by decide +kernel,by decide +kernel⟩
noncomputable abbrev bM:Stmt:=top 29
theorem mY:FnScope ["_law_xs","_law_many_here","_law_order","_law_places","_law_ups","_law_kind","_law_k","_law_at"] ["_law_xs","_law_many_here"] (aa bM):=⟨rfl,rfl,rfl,by decide +kernel,rfl,by decide +kernel,by decide +kernel⟩
noncomputable abbrev dA:Stmt:=top 26
theorem p5:FnScope ["_law_script","_law_k","_law_state","_law_cell_here"] ["_law_script","_law_k"] (aa dA):=⟨rfl,rfl,rfl,by decide +kernel,rfl,by decide +kernel,by decide +kernel⟩
noncomputable abbrev dz:Stmt:=top 28
theorem qC:FnScope ["_law_x"] ["_law_x"] (aa dz):=⟨rfl,rfl,rfl,by decide +kernel,rfl,by decide +kernel,by decide +kernel⟩
noncomputable abbrev d4:Stmt:=top 6
theorem tw:FnScope ["thing"] ["thing"] (aa d4):=⟨rfl,rfl,rfl,by decide +kernel,rfl,by decide +kernel,by decide +kernel⟩
noncomputable abbrev eZ:Stmt:=top 7
theorem t7:FnScope ["thing"] ["thing"] (aa eZ):=⟨rfl,rfl,rfl,by decide +kernel,rfl,by decide +kernel,by decide +kernel⟩
noncomputable abbrev bc:Stmt:=top 9
theorem kT:FnScope ["ups","x","at","step"] ["ups","x"] (aa bc):=⟨rfl,rfl,rfl,by decide +kernel,rfl,by decide +kernel,by decide +kernel⟩
noncomputable abbrev dW:Stmt:=top 8
theorem tS:FnScope ["many","thing"] ["many","thing"] (aa dW):=⟨rfl,rfl,rfl,by decide +kernel,rfl,by decide +kernel,by decide +kernel⟩
noncomputable abbrev dv:Stmt:=top 10
theorem pr:FnScope ["thing","many"] ["thing"] (aa dv):=⟨rfl,rfl,rfl,by decide +kernel,rfl,by decide +kernel,by decide +kernel⟩
noncomputable abbrev bn:Stmt:=top 11
theorem md:FnScope ["ups"] ["ups"] (aa bn):=⟨rfl,rfl,rfl,by decide +kernel,rfl,by decide +kernel,by decide +kernel⟩
noncomputable abbrev gq:Stmt:=top 14
theorem wy:FnScope ["ups","x","way"] ["ups","x"] (aa gq):=⟨rfl,rfl,rfl,by decide +kernel,rfl,by decide +kernel,by decide +kernel⟩
noncomputable abbrev fW:Stmt:=top 16
theorem sc_lots_in:FnScope ["ups","lots","x","head"] ["ups"] (aa fW):=⟨rfl,rfl,rfl,by decide +kernel,rfl,by decide +kernel,by decide +kernel⟩
noncomputable abbrev eT:Stmt:=top 23
theorem uS:FnScope ["ups"] ["ups"] (aa eT):=⟨rfl,rfl,rfl,by decide +kernel,rfl,by decide +kernel,by decide +kernel⟩
noncomputable abbrev bO:Stmt:=top 12
theorem np:FnScope ["many","x"] ["many","x"] (aa bO):=⟨rfl,rfl,rfl,by decide +kernel,rfl,by decide +kernel,by decide +kernel⟩
noncomputable abbrev av:Stmt:=top 13
theorem gu:FnScope ["ups","x"] ["ups","x"] (aa av):=⟨rfl,rfl,rfl,by decide +kernel,rfl,by decide +kernel,by decide +kernel⟩
noncomputable abbrev eY:Stmt:=top 18
theorem uO:FnScope ["ups","x"] ["ups","x"] (aa eY):=⟨rfl,rfl,rfl,by decide +kernel,rfl,by decide +kernel,by decide +kernel⟩
noncomputable abbrev dC:Stmt:=top 32
theorem qx:FnScope ["_law_many_here"] ["_law_many_here"] (aa dC):=⟨rfl,rfl,rfl,by decide +kernel,rfl,by decide +kernel,by decide +kernel⟩
noncomputable abbrev dR:Stmt:=top 17
theorem sw:FnScope ["ups","x","head"] ["ups","x"] (aa dR):=⟨rfl,rfl,rfl,by decide +kernel,rfl,by decide +kernel,by decide +kernel⟩
noncomputable abbrev gn:Stmt:=top 22
theorem ww:FnScope ["ups","x"] ["ups","x"] (aa gn):=⟨rfl,rfl,rfl,by decide +kernel,rfl,by decide +kernel,by decide +kernel⟩
noncomputable abbrev dS:Stmt:=top 19
theorem rD:FnScope ["ups","x"] ["ups","x"] (aa dS):=⟨rfl,rfl,rfl,by decide +kernel,rfl,by decide +kernel,by decide +kernel⟩
noncomputable abbrev dU:Stmt:=top 15
theorem sR:FnScope ["ups","sizes","x","above"] ["ups"] (aa dU):=⟨rfl,rfl,rfl,by decide +kernel,rfl,by decide +kernel,by decide +kernel⟩
noncomputable abbrev eU:Stmt:=top 20
theorem uN:FnScope ["ups","x"] ["ups","x"] (aa eU):=⟨rfl,rfl,rfl,by decide +kernel,rfl,by decide +kernel,by decide +kernel⟩
noncomputable abbrev fY:Stmt:=top 21
theorem yv:FnScope ["ups","x"] ["ups","x"] (aa fY):=⟨rfl,rfl,rfl,by decide +kernel,rfl,by decide +kernel,by decide +kernel⟩
noncomputable abbrev aX:Stmt:=top 35
theorem kG:FnScope ["_law_ups","_law_xs","_law_lots","_law_lot","_law_head_here","_law_others","_law_under","_law_put","_law_x","_law_more","_law_greater"] ["_law_ups","_law_xs"] (aa aX):=⟨rfl,rfl,rfl,by decide +kernel,rfl,by decide +kernel,by decide +kernel⟩
noncomputable abbrev dX:Stmt:=top 30
theorem sY:FnScope ["_law_ups","_law_x","_law_way_here"] ["_law_ups","_law_x"] (aa dX):=⟨rfl,rfl,rfl,by decide +kernel,rfl,by decide +kernel,by decide +kernel⟩
noncomputable abbrev dB:Stmt:=top 31
theorem qj:FnScope ["_law_ups","_law_x"] ["_law_ups","_law_x"] (aa dB):=⟨rfl,rfl,rfl,by decide +kernel,rfl,by decide +kernel,by decide +kernel⟩
noncomputable abbrev du:Stmt:=top 24
theorem pQ:FnScope ["ups"] ["ups"] (aa du):=⟨rfl,rfl,rfl,by decide +kernel,rfl,by decide +kernel,by decide +kernel⟩
noncomputable abbrev cT:Stmt:=top 36
theorem om:FnScope ["_law_ups","_law_heads","_law_x","_law_under"] ["_law_ups"] (aa cT):=⟨rfl,rfl,rfl,by decide +kernel,rfl,by decide +kernel,by decide +kernel⟩
noncomputable abbrev aB:Stmt:=top 33
theorem gQ:FnScope ["_law_ups","_law_xs","_law_many_here","_law_order","_law_other","_law_x"] ["_law_ups","_law_xs"] (aa aB):=⟨rfl,rfl,rfl,by decide +kernel,rfl,by decide +kernel,by decide +kernel⟩
noncomputable abbrev aJ:Stmt:=top 34
theorem iT:FnScope ["_law_ups","_law_other","_law_many_here","_law_twin","_law_lots","_law_some_here","_law_more","_law_sizes"] ["_law_ups","_law_other"] (aa aJ):=⟨rfl,rfl,rfl,by decide +kernel,rfl,by decide +kernel,by decide +kernel⟩
noncomputable abbrev jB:Stmt:=top 37
theorem zV:FnScope ["_law_script","_law_last","_law_cell_here","_law_xs","_law_ups"] ["_law_script"] (aa jB):=⟨rfl,rfl,rfl,by decide +kernel,rfl,by decide +kernel,by decide +kernel⟩
end K04
end
section
namespace K04
open PySem L2 Fo Pu Dp
section
variable {P:Program}{w:World}{K:PySem.W.Frag}{mg:Str->Option Value}{base:Heap}
noncomputable def G0:Gc:={ bi:=["abs","all","bool","int","isinstance","len","list","max","range","sorted","sum","tuple"],nis:=[("MOST_THINGS",40)],tups:=[],nums:=[] }
theorem gb (T:Txt mg):GB w K mg G0.bi G0.nis G0.tups G0.nums:=⟨⟨T.n_abs,⟨T.n_all,⟨T.n_bool,⟨T.n_int,⟨T.n_isinstance,⟨T.n_len,⟨T.n_list,⟨T.n_max,⟨T.n_range,⟨T.n_sorted,⟨T.n_sum,⟨T.n_tuple,trivial⟩⟩⟩⟩⟩⟩⟩⟩⟩⟩⟩⟩,⟨T.c_MOST_THINGS,trivial⟩,trivial,trivial⟩
theorem ml (T:Txt mg)(F:FunD K mg "_law_numbers" bv ["_law_cell_here","_law_many_here"]):Def P w K mg base 1 "_law_numbers" ["_law_cell_here","_law_many_here"] (aN K (aW aZ)):=
 bI (G:={ G0 with fns:=[] }) { sc:=aa bv,N:=["_law_cell_here","_law_many_here","_law_some_here","_law_state","_law_digits","_law_k"],own:=["_law_some_here"] } F mh (jV (gb T) trivial trivial bD) (by kernel_rfl)
theorem m6 (T:Txt mg)(F:FunD K mg "_law_forest" bM ["_law_xs","_law_many_here"]):Def P w K mg base 1 "_law_forest" ["_law_xs","_law_many_here"] (aN K (aW bf)):=
 bI (G:={ G0 with fns:=[] }) { sc:=aa bM,N:=["_law_xs","_law_many_here","_law_order","_law_places","_law_ups","_law_kind","_law_k","_law_at"],own:=["_law_ups"],cmp:=[((100,24),["_law_k","_law_xs"]),((101,18),["_law_pair"])] } F mY (jV (gb T) trivial trivial bD) (by kernel_rfl)
theorem qY (T:Txt mg)(F:FunD K mg "_law_cell" dA ["_law_script","_law_k"]):Def P w K mg base 1 "_law_cell" ["_law_script","_law_k"] (aN K (aW bK)):=
 bI (G:={ G0 with fns:=[] }) { sc:=aa dA,N:=["_law_script","_law_k","_law_state","_law_cell_here"] } F p5 (jV (gb T) trivial trivial bD) (by kernel_rfl)
theorem qS (T:Txt mg)(F:FunD K mg "_law_many" dz ["_law_x"]):Def P w K mg base 1 "_law_many" ["_law_x"] (aN K (aW cS)):=
 bI (G:={ G0 with fns:=[] }) { sc:=aa dz,N:=["_law_x"] } F qC (jV (gb T) trivial trivial bD) (by kernel_rfl)
theorem rG (T:Txt mg)(F:FunD K mg "is_whole" d4 ["thing"]):Def P w K mg base 1 "is_whole" ["thing"] (aN K (aW bo)):=
 bI (G:={ G0 with fns:=[] }) { sc:=aa d4,N:=["thing"] } F tw (jV (gb T) trivial trivial bD) (by kernel_rfl)
theorem uU (T:Txt mg)(F:FunD K mg "is_many" eZ ["thing"])(d_is_whole:Def P w K mg base 1 "is_whole" ["thing"] (aN K (aW bo))):Def P w K mg base 2 "is_many" ["thing"] (aN K (aW eB)):=
 bI (G:={ G0 with fns:=[("is_whole",bo)] }) { sc:=aa eZ,N:=["thing"] } F t7 (jV (gb T) ⟨⟨_,_,by decide,d_is_whole⟩,trivial⟩ trivial bD) (by kernel_rfl)
theorem lH (T:Txt mg)(F:FunD K mg "leads_to_head" bc ["ups","x"]):Def P w K mg base 1 "leads_to_head" ["ups","x"] (aN K (aW aU)):=
 bI (G:={ G0 with fns:=[] }) { sc:=aa bc,N:=["ups","x","at","step"] } F kT (jV (gb T) trivial trivial bD) (by kernel_rfl)
theorem rQ (T:Txt mg)(F:FunD K mg "is_thing" dW ["many","thing"])(d_is_whole:Def P w K mg base 1 "is_whole" ["thing"] (aN K (aW bo))):Def P w K mg base 2 "is_thing" ["many","thing"] (aN K (aW bh)):=
 bI (G:={ G0 with fns:=[("is_whole",bo)] }) { sc:=aa dW,N:=["many","thing"] } F tS (jV (gb T) ⟨⟨_,_,by decide,d_is_whole⟩,trivial⟩ trivial bD) (by kernel_rfl)
theorem pF (T:Txt mg)(F:FunD K mg "is_forest" dv ["thing"])(d_is_many:Def P w K mg base 2 "is_many" ["thing"] (aN K (aW eB)))(d_leads_to_head:Def P w K mg base 1 "leads_to_head" ["ups","x"] (aN K (aW aU)))(d_is_thing:Def P w K mg base 2 "is_thing" ["many","thing"] (aN K (aW bh))):Def P w K mg base 3 "is_forest" ["thing"] (aN K (aW aK)):=
 bI (G:={ G0 with fns:=[("is_many",eB),("leads_to_head",aU),("is_thing",bh)] }) { sc:=aa dv,N:=["thing","many"],cmp:=[((25,15),["up","many"]),((27,15),["x","thing"])] } F pr (jV (gb T) ⟨⟨_,_,by decide,d_is_many⟩,⟨⟨_,_,by decide,d_leads_to_head⟩,⟨⟨_,_,by decide,d_is_thing⟩,trivial⟩⟩⟩ trivial bD) (by kernel_rfl)
theorem mf (T:Txt mg)(F:FunD K mg "check_forest" bn ["ups"])(d_is_forest:Def P w K mg base 3 "is_forest" ["thing"] (aN K (aW aK))):Def P w K mg base 4 "check_forest" ["ups"] (aN K (aW au)):=
 bI (G:={ G0 with fns:=[("is_forest",aK)] }) { sc:=aa bn,N:=["ups"] } F md (jV (gb T) ⟨⟨_,_,by decide,d_is_forest⟩,trivial⟩ trivial bD) (by kernel_rfl)
theorem yi (T:Txt mg)(F:FunD K mg "way_up" gq ["ups","x"]):Def P w K mg base 1 "way_up" ["ups","x"] (aN K (aW ax)):=
 bI (G:={ G0 with fns:=[] }) { sc:=aa gq,N:=["ups","x","way"],own:=["way"] } F wy (jV (gb T) trivial trivial bD) (by kernel_rfl)
theorem t8 (T:Txt mg)(F:FunD K mg "lots_in" fW ["ups"])(d_way_up:Def P w K mg base 1 "way_up" ["ups","x"] (aN K (aW ax))):Def P w K mg base 2 "lots_in" ["ups"] (aN K (aW cY)):=
 A9 F sc_lots_in (fun f cdv A outer s H E hr=>(j4 (nK (i:=1) sc_lots_in.nd rfl (by first|exact Or.inl rfl|exact Or.inr rfl) AK)
  (j4 (y3 PassesOwn.never rfl (oW rfl T.n_range (dM Dy (bV rC rfl T.n_len Bi (dM gL (pv 0) iw) (he:=gL _ _)) iw)) (pJ (i:=2) sc_lots_in.nd rfl (by first|exact Or.inl rfl|exact Or.inr rfl))
   (j4 (nK (i:=3) sc_lots_in.nd rfl (by first|exact Or.inl rfl|exact Or.inr rfl) (Az BM (nt d_way_up hr (dM gL (pv 0) (dM gL (pv 2) iw)) (he:=gL _ _)) (zC ui uG) (fun _ _=>rfl)))
    (pH (j2 (GA PySem.F.plainAttrs_list PySem.F.slot_list_append PySem.F.type_list_append o4 (yC (pv 1) (pv 3) (AN iw) ⟨rfl,rfl,rfl,rfl⟩) (dM gL (pv 2) iw))))))
  (pH (qu (qp ["lot"] [none] (Cg (pv 1)) (fun bC bs bH bx=>(pJ (i:=0) (show List.Nodup (["lot"]:List Str) by decide +kernel) rfl (by first|exact Or.inl rfl|exact Or.inr rfl))) (fun bC bs bH bx=>vJ) (fun bC bs bH bx=>(eX jE rfl T.n_tuple kJ (dM gL (pv 0) iw) (he:=gL _ _))) (uQ rfl)))))))
theorem vi (T:Txt mg)(F:FunD K mg "lots_of" eT ["ups"])(d_check_forest:Def P w K mg base 4 "check_forest" ["ups"] (aN K (aW au)))(d_lots_in:Def P w K mg base 2 "lots_in" ["ups"] (aN K (aW cY))):Def P w K mg base 5 "lots_of" ["ups"] (aN K (aW aw)):=
 bI (G:={ G0 with fns:=[("check_forest",au),("lots_in",cY)] }) { sc:=aa eT,N:=["ups"] } F uS (jV (gb T) ⟨⟨_,_,by decide,d_check_forest⟩,⟨⟨_,_,by decide,d_lots_in⟩,trivial⟩⟩ trivial bD) (by kernel_rfl)
theorem nz (T:Txt mg)(F:FunD K mg "check_thing" bO ["many","x"])(d_is_thing:Def P w K mg base 2 "is_thing" ["many","thing"] (aN K (aW bh))):Def P w K mg base 3 "check_thing" ["many","x"] (aN K (aW be)):=
 bI (G:={ G0 with fns:=[("is_thing",bh)] }) { sc:=aa bO,N:=["many","x"] } F np (jV (gb T) ⟨⟨_,_,by decide,d_is_thing⟩,trivial⟩ trivial bD) (by kernel_rfl)
theorem gy (T:Txt mg)(F:FunD K mg "check_forest_and_thing" av ["ups","x"])(d_check_forest:Def P w K mg base 4 "check_forest" ["ups"] (aN K (aW au)))(d_check_thing:Def P w K mg base 3 "check_thing" ["many","x"] (aN K (aW be))):Def P w K mg base 5 "check_forest_and_thing" ["ups","x"] (aN K (aW af)):=
 bI (G:={ G0 with fns:=[("check_forest",au),("check_thing",be)] }) { sc:=aa av,N:=["ups","x"] } F gu (jV (gb T) ⟨⟨_,_,by decide,d_check_forest⟩,⟨⟨_,_,by decide,d_check_thing⟩,trivial⟩⟩ trivial bD) (by kernel_rfl)
theorem vb (T:Txt mg)(F:FunD K mg "head_of" eY ["ups","x"])(d_check_forest_and_thing:Def P w K mg base 5 "check_forest_and_thing" ["ups","x"] (aN K (aW af)))(d_way_up:Def P w K mg base 1 "way_up" ["ups","x"] (aN K (aW ax))):Def P w K mg base 6 "head_of" ["ups","x"] (aN K (aW bG)):=
 bI (G:={ G0 with fns:=[("check_forest_and_thing",af),("way_up",ax)] }) { sc:=aa eY,N:=["ups","x"] } F uO (jV (gb T) ⟨⟨_,_,by decide,d_check_forest_and_thing⟩,⟨⟨_,_,by decide,d_way_up⟩,trivial⟩⟩ trivial bD) (by kernel_rfl)
theorem pV (T:Txt mg)(F:FunD K mg "_law_some" dC ["_law_many_here"]):Def P w K mg base 1 "_law_some" ["_law_many_here"] (aN K (aW aA)):=
 bI (G:={ G0 with fns:=[] }) { sc:=aa dC,N:=["_law_many_here"] } F qx (jV (gb T) trivial trivial bD) (by kernel_rfl)
theorem sX (T:Txt mg)(F:FunD K mg "lot_with" dR ["ups","x"])(d_way_up:Def P w K mg base 1 "way_up" ["ups","x"] (aN K (aW ax))):Def P w K mg base 2 "lot_with" ["ups","x"] (aN K (aW di)):=
 bI (G:={ G0 with fns:=[("way_up",ax)] }) { sc:=aa dR,N:=["ups","x","head"],cmp:=[((56,17),["y","ups","head"])] } F sw (jV (gb T) ⟨⟨_,_,by decide,d_way_up⟩,trivial⟩ trivial bD) (by kernel_rfl)
theorem wJ (T:Txt mg)(F:FunD K mg "lot_of" gn ["ups","x"])(d_check_forest_and_thing:Def P w K mg base 5 "check_forest_and_thing" ["ups","x"] (aN K (aW af)))(d_lot_with:Def P w K mg base 2 "lot_with" ["ups","x"] (aN K (aW di))):Def P w K mg base 6 "lot_of" ["ups","x"] (aN K (aW bX)):=
 bI (G:={ G0 with fns:=[("check_forest_and_thing",af),("lot_with",di)] }) { sc:=aa gn,N:=["ups","x"] } F ww (jV (gb T) ⟨⟨_,_,by decide,d_check_forest_and_thing⟩,⟨⟨_,_,by decide,d_lot_with⟩,trivial⟩⟩ trivial bD) (by kernel_rfl)
theorem sW (T:Txt mg)(F:FunD K mg "depth_of" dS ["ups","x"])(d_check_forest_and_thing:Def P w K mg base 5 "check_forest_and_thing" ["ups","x"] (aN K (aW af)))(d_way_up:Def P w K mg base 1 "way_up" ["ups","x"] (aN K (aW ax))):Def P w K mg base 6 "depth_of" ["ups","x"] (aN K (aW aH)):=
 bI (G:={ G0 with fns:=[("check_forest_and_thing",af),("way_up",ax)] }) { sc:=aa dS,N:=["ups","x"] } F rD (jV (gb T) ⟨⟨_,_,by decide,d_check_forest_and_thing⟩,⟨⟨_,_,by decide,d_way_up⟩,trivial⟩⟩ trivial bD) (by kernel_rfl)
theorem rV (T:Txt mg)(F:FunD K mg "sizes_in" dU ["ups"])(d_way_up:Def P w K mg base 1 "way_up" ["ups","x"] (aN K (aW ax))):Def P w K mg base 2 "sizes_in" ["ups"] (aN K (aW dn)):=
 bI (G:={ G0 with fns:=[("way_up",ax)] }) { sc:=aa dU,N:=["ups","sizes","x","above"],own:=["sizes"] } F sR (jV (gb T) ⟨⟨_,_,by decide,d_way_up⟩,trivial⟩ trivial bD) (by kernel_rfl)
theorem t5 (T:Txt mg)(F:FunD K mg "size_of" eU ["ups","x"])(d_check_forest_and_thing:Def P w K mg base 5 "check_forest_and_thing" ["ups","x"] (aN K (aW af)))(d_sizes_in:Def P w K mg base 2 "sizes_in" ["ups"] (aN K (aW dn))):Def P w K mg base 6 "size_of" ["ups","x"] (aN K (aW aF)):=
 bI (G:={ G0 with fns:=[("check_forest_and_thing",af),("sizes_in",dn)] }) { sc:=aa eU,N:=["ups","x"] } F uN (jV (gb T) ⟨⟨_,_,by decide,d_check_forest_and_thing⟩,⟨⟨_,_,by decide,d_sizes_in⟩,trivial⟩⟩ trivial bD) (by kernel_rfl)
theorem xX (T:Txt mg)(F:FunD K mg "way_of" fY ["ups","x"])(d_check_forest_and_thing:Def P w K mg base 5 "check_forest_and_thing" ["ups","x"] (aN K (aW af)))(d_way_up:Def P w K mg base 1 "way_up" ["ups","x"] (aN K (aW ax))):Def P w K mg base 6 "way_of" ["ups","x"] (aN K (aW dw)):=
 bI (G:={ G0 with fns:=[("check_forest_and_thing",af),("way_up",ax)] }) { sc:=aa fY,N:=["ups","x"] } F yv (jV (gb T) ⟨⟨_,_,by decide,d_check_forest_and_thing⟩,⟨⟨_,_,by decide,d_way_up⟩,trivial⟩⟩ trivial bD) (by kernel_rfl)
theorem km (T:Txt mg)(F:FunD K mg "_law_put_right" aX ["_law_ups","_law_xs"])(d_lots_of:Def P w K mg base 5 "lots_of" ["ups"] (aN K (aW aw)))(d_head_of:Def P w K mg base 6 "head_of" ["ups","x"] (aN K (aW bG)))(d__law_some:Def P w K mg base 1 "_law_some" ["_law_many_here"] (aN K (aW aA)))(d_lot_of:Def P w K mg base 6 "lot_of" ["ups","x"] (aN K (aW bX)))(d_is_forest:Def P w K mg base 3 "is_forest" ["thing"] (aN K (aW aK)))(d_depth_of:Def P w K mg base 6 "depth_of" ["ups","x"] (aN K (aW aH)))(d_size_of:Def P w K mg base 6 "size_of" ["ups","x"] (aN K (aW aF)))(d_way_of:Def P w K mg base 6 "way_of" ["ups","x"] (aN K (aW dw))):Def P w K mg base 7 "_law_put_right" ["_law_ups","_law_xs"] (aN K (aW bg)):=
 bI (G:={ G0 with fns:=[("lots_of",aw),("head_of",bG),("_law_some",aA),("lot_of",bX),("is_forest",aK),("depth_of",aH),("size_of",aF),("way_of",dw)] }) { sc:=aa aX,N:=["_law_ups","_law_xs","_law_lots","_law_lot","_law_head_here","_law_others","_law_under","_law_put","_law_x","_law_more","_law_greater"],alt:=[(158,49)],cmp:=[((153,18),["_law_x","_law_lot"])] } F kG (jV (gb T) ⟨⟨_,_,by decide,d_lots_of⟩,⟨⟨_,_,by decide,d_head_of⟩,⟨⟨_,_,by decide,d__law_some⟩,⟨⟨_,_,by decide,d_lot_of⟩,⟨⟨_,_,by decide,d_is_forest⟩,⟨⟨_,_,by decide,d_depth_of⟩,⟨⟨_,_,by decide,d_size_of⟩,⟨⟨_,_,by decide,d_way_of⟩,trivial⟩⟩⟩⟩⟩⟩⟩⟩ trivial bD) (by kernel_rfl)
theorem tV (T:Txt mg)(F:FunD K mg "_law_way" dX ["_law_ups","_law_x"]):Def P w K mg base 1 "_law_way" ["_law_ups","_law_x"] (aN K (aW dr)):=
 bI (G:={ G0 with fns:=[] }) { sc:=aa dX,N:=["_law_ups","_law_x","_law_way_here"],own:=["_law_way_here"] } F sY (jV (gb T) trivial trivial bD) (by kernel_rfl)
theorem pj (T:Txt mg)(F:FunD K mg "_law_head" dB ["_law_ups","_law_x"])(d__law_way:Def P w K mg base 1 "_law_way" ["_law_ups","_law_x"] (aN K (aW dr))):Def P w K mg base 2 "_law_head" ["_law_ups","_law_x"] (aN K (aW eA)):=
 bI (G:={ G0 with fns:=[("_law_way",dr)] }) { sc:=aa dB,N:=["_law_ups","_law_x"] } F qj (jV (gb T) ⟨⟨_,_,by decide,d__law_way⟩,trivial⟩ trivial bD) (by kernel_rfl)
theorem qA (T:Txt mg)(F:FunD K mg "height_of" du ["ups"])(d_check_forest:Def P w K mg base 4 "check_forest" ["ups"] (aN K (aW au)))(d_way_up:Def P w K mg base 1 "way_up" ["ups","x"] (aN K (aW ax))):Def P w K mg base 5 "height_of" ["ups"] (aN K (aW aD)):=
 bI (G:={ G0 with fns:=[("check_forest",au),("way_up",ax)] }) { sc:=aa du,N:=["ups"],cmp:=[((77,15),["x","ups"])] } F pQ (jV (gb T) ⟨⟨_,_,by decide,d_check_forest⟩,⟨⟨_,_,by decide,d_way_up⟩,trivial⟩⟩ trivial bD) (by kernel_rfl)
theorem ot (T:Txt mg)(F:FunD K mg "_law_right" cT ["_law_ups"])(d__law_some:Def P w K mg base 1 "_law_some" ["_law_many_here"] (aN K (aW aA)))(d__law_head:Def P w K mg base 2 "_law_head" ["_law_ups","_law_x"] (aN K (aW eA)))(d_lots_of:Def P w K mg base 5 "lots_of" ["ups"] (aN K (aW aw)))(d_height_of:Def P w K mg base 5 "height_of" ["ups"] (aN K (aW aD)))(d_size_of:Def P w K mg base 6 "size_of" ["ups","x"] (aN K (aW aF)))(d_depth_of:Def P w K mg base 6 "depth_of" ["ups","x"] (aN K (aW aH)))(d_way_of:Def P w K mg base 6 "way_of" ["ups","x"] (aN K (aW dw))):Def P w K mg base 7 "_law_right" ["_law_ups"] (aN K (aW dD)):=
 bI (G:={ G0 with fns:=[("_law_some",aA),("_law_head",eA),("lots_of",aw),("height_of",aD),("size_of",aF),("depth_of",aH),("way_of",dw)] }) { sc:=aa cT,N:=["_law_ups","_law_heads","_law_x","_law_under"],cmp:=[((169,23),["_law_x","_law_ups"]),((173,21),["_law_y","_law_ups","_law_x"]),((174,48),["_law_y","_law_ups"])] } F om (jV (gb T) ⟨⟨_,_,by decide,d__law_some⟩,⟨⟨_,_,by decide,d__law_head⟩,⟨⟨_,_,by decide,d_lots_of⟩,⟨⟨_,_,by decide,d_height_of⟩,⟨⟨_,_,by decide,d_size_of⟩,⟨⟨_,_,by decide,d_depth_of⟩,⟨⟨_,_,by decide,d_way_of⟩,trivial⟩⟩⟩⟩⟩⟩⟩ trivial bD) (by kernel_rfl)
theorem g7 (T:Txt mg)(F:FunD K mg "_law_renumbered_right" aB ["_law_ups","_law_xs"])(d__law_some:Def P w K mg base 1 "_law_some" ["_law_many_here"] (aN K (aW aA)))(d_size_of:Def P w K mg base 6 "size_of" ["ups","x"] (aN K (aW aF)))(d_lot_of:Def P w K mg base 6 "lot_of" ["ups","x"] (aN K (aW bX)))(d_height_of:Def P w K mg base 5 "height_of" ["ups"] (aN K (aW aD)))(d_head_of:Def P w K mg base 6 "head_of" ["ups","x"] (aN K (aW bG)))(d_depth_of:Def P w K mg base 6 "depth_of" ["ups","x"] (aN K (aW aH)))(d_lots_of:Def P w K mg base 5 "lots_of" ["ups"] (aN K (aW aw))):Def P w K mg base 7 "_law_renumbered_right" ["_law_ups","_law_xs"] (aN K (aW aI)):=
 bI (G:={ G0 with fns:=[("_law_some",aA),("size_of",aF),("lot_of",bX),("height_of",aD),("head_of",bG),("depth_of",aH),("lots_of",aw)] }) { sc:=aa aB,N:=["_law_ups","_law_xs","_law_many_here","_law_order","_law_other","_law_x"],own:=["_law_other"],frz:=[(128,[4]),(130,[4]),(132,[4]),(134,[4])],alt:=[(132,59)],cmp:=[((122,17),["_law_pair"]),((122,55),["_law_k","_law_xs"]),((132,66),["_law_thing","_law_order"])] } F gQ (jV (gb T) ⟨⟨_,_,by decide,d__law_some⟩,⟨⟨_,_,by decide,d_size_of⟩,⟨⟨_,_,by decide,d_lot_of⟩,⟨⟨_,_,by decide,d_height_of⟩,⟨⟨_,_,by decide,d_head_of⟩,⟨⟨_,_,by decide,d_depth_of⟩,⟨⟨_,_,by decide,d_lots_of⟩,trivial⟩⟩⟩⟩⟩⟩⟩ trivial bD) (by kernel_rfl)
theorem ji (T:Txt mg)(F:FunD K mg "_law_beside_right" aJ ["_law_ups","_law_other"])(d__law_some:Def P w K mg base 1 "_law_some" ["_law_many_here"] (aN K (aW aA)))(d_lots_of:Def P w K mg base 5 "lots_of" ["ups"] (aN K (aW aw)))(d_is_forest:Def P w K mg base 3 "is_forest" ["thing"] (aN K (aW aK)))(d_height_of:Def P w K mg base 5 "height_of" ["ups"] (aN K (aW aD)))(d_size_of:Def P w K mg base 6 "size_of" ["ups","x"] (aN K (aW aF))):Def P w K mg base 7 "_law_beside_right" ["_law_ups","_law_other"] (aN K (aW aT)):=
 bI (G:={ G0 with fns:=[("_law_some",aA),("lots_of",aw),("is_forest",aK),("height_of",aD),("size_of",aF)] }) { sc:=aa aJ,N:=["_law_ups","_law_other","_law_many_here","_law_twin","_law_lots","_law_some_here","_law_more","_law_sizes"],cmp:=[((139,33),["_law_up","_law_many_here"]),((140,36),["_law_lot","_law_many_here"]),((140,43),["_law_x","_law_many_here"]),((145,17),["_law_x","_law_ups"]),((145,76),["_law_x","_law_other"]),((146,11),["_law_x","_law_twin"]),((146,70),["_law_x","_law_many_here"])] } F iT (jV (gb T) ⟨⟨_,_,by decide,d__law_some⟩,⟨⟨_,_,by decide,d_lots_of⟩,⟨⟨_,_,by decide,d_is_forest⟩,⟨⟨_,_,by decide,d_height_of⟩,⟨⟨_,_,by decide,d_size_of⟩,trivial⟩⟩⟩⟩⟩ trivial bD) (by kernel_rfl)
end
end K04
end
section
namespace K04
open PySem L2 Fo Pu Dp
section
variable {P:Program}{w:World}{K:PySem.W.Frag}{mg:Str->Option Value}{base:Heap}
theorem zp (T:Txt mg){f:Addr}{cdv:Value}{A:Around}{outer:List Env}{s:Shared}{H:Hp}{vs:List V}{Q:VK}{E:XK}(hr:Room 7 (A.deeper (PyProof.Rows.envOfC "law" (aa jB) s.heap.objs.size f cdv)))(h:ph K vs H Q E)(d__law_numbers:Def P w K mg base 1 "_law_numbers" ["_law_cell_here","_law_many_here"] (aN K (aW aZ)))(d__law_forest:Def P w K mg base 1 "_law_forest" ["_law_xs","_law_many_here"] (aN K (aW bf)))(d__law_cell:Def P w K mg base 1 "_law_cell" ["_law_script","_law_k"] (aN K (aW bK)))(d__law_many:Def P w K mg base 1 "_law_many" ["_law_x"] (aN K (aW cS)))(d__law_put_right:Def P w K mg base 7 "_law_put_right" ["_law_ups","_law_xs"] (aN K (aW bg)))(d__law_right:Def P w K mg base 7 "_law_right" ["_law_ups"] (aN K (aW dD)))(d__law_renumbered_right:Def P w K mg base 7 "_law_renumbered_right" ["_law_ups","_law_xs"] (aN K (aW aI)))(d__law_beside_right:Def P w K mg base 7 "_law_beside_right" ["_law_ups","_law_other"] (aN K (aW aT))) :
  ∃t,PSs (kE rZ P w K mg base ["_law_script","_law_last","_law_cell_here","_law_xs","_law_ups"] "law" (aa jB) f cdv A outer s H E).nox (ak jB) t/\t { nx:=fun _ H'=>Q .non H',rt:=Q } (L2.fO ["_law_script","_law_last","_law_cell_here","_law_xs","_law_ups"] vs) H:=
 Jt (N:=["_law_script","_law_last","_law_cell_here","_law_xs","_law_ups"]) (X:=(kE rZ P w K mg base ["_law_script","_law_last","_law_cell_here","_law_xs","_law_ups"] "law" (aa jB) f cdv A outer s H E).nox) (LU (s:=jW) (G:={ G0 with fns:=[("_law_numbers",aZ),("_law_forest",bf),("_law_cell",bK),("_law_many",cS),("_law_put_right",bg),("_law_right",dD),("_law_renumbered_right",aI),("_law_beside_right",aT)] }) { sc:=aa jB,N:=["_law_script","_law_last","_law_cell_here","_law_xs","_law_ups"] } zV (jV (gb T) ⟨⟨_,_,by decide,d__law_numbers⟩,⟨⟨_,_,by decide,d__law_forest⟩,⟨⟨_,_,by decide,d__law_cell⟩,⟨⟨_,_,by decide,d__law_many⟩,⟨⟨_,_,by decide,d__law_put_right⟩,⟨⟨_,_,by decide,d__law_right⟩,⟨⟨_,_,by decide,d__law_renumbered_right⟩,⟨⟨_,_,by decide,d__law_beside_right⟩,trivial⟩⟩⟩⟩⟩⟩⟩⟩ trivial bD) (by kernel_rfl) hr) h AD
end
end K04
end
section
namespace K04
open PySem L2 Fo Pu Dp
@[elab_as_elim] theorem ld {P:List Value->Prop}{us:List Value}(h:us.length=1)(k:∀a,P [a]):P us:=by
 obtain _|⟨_,us⟩:=us
 ·cases h
 obtain _|⟨_,us⟩:=us
 ·exact k _
 ·simp at h
@[elab_as_elim] theorem gx {P:List Value->Prop}{us:List Value}(h:us.length=2)(k:∀a b,P [a,b]):P us:=by
 obtain _|⟨_,us⟩:=us
 ·cases h
 obtain _|⟨_,us⟩:=us
 ·cases h
 obtain _|⟨_,us⟩:=us
 ·exact k _ _
 ·simp at h
@[elab_as_elim] theorem Rz {P:List Value->Prop}{us:List Value}(h:us.length=3)(k:∀a b c,P [a,b,c]):P us:=by
 obtain _|⟨_,us⟩:=us
 ·cases h
 obtain _|⟨_,us⟩:=us
 ·cases h
 obtain _|⟨_,us⟩:=us
 ·cases h
 obtain _|⟨_,us⟩:=us
 ·exact k _ _ _
 ·simp at h
@[elab_as_elim] theorem R4 {P:List Value->Prop}{us:List Value}(h:us.length=4)(k:∀a b c d,P [a,b,c,d]):P us:=by
 obtain _|⟨_,us⟩:=us
 ·cases h
 obtain _|⟨_,us⟩:=us
 ·cases h
 obtain _|⟨_,us⟩:=us
 ·cases h
 obtain _|⟨_,us⟩:=us
 ·cases h
 obtain _|⟨_,us⟩:=us
 ·exact k _ _ _ _
 ·simp at h
@[elab_as_elim] theorem RQ {P:List Value->Prop}{us:List Value}(h:us.length=5)(k:∀a b c d e,P [a,b,c,d,e]):P us:=by
 obtain _|⟨_,us⟩:=us
 ·cases h
 obtain _|⟨_,us⟩:=us
 ·cases h
 obtain _|⟨_,us⟩:=us
 ·cases h
 obtain _|⟨_,us⟩:=us
 ·cases h
 obtain _|⟨_,us⟩:=us
 ·cases h
 obtain _|⟨_,us⟩:=us
 ·exact k _ _ _ _ _
 ·simp at h
@[elab_as_elim] theorem Rw {P:List Value->Prop}{us:List Value}(h:us.length=6)(k:∀a b c d e f,P [a,b,c,d,e,f]):P us:=by
 obtain _|⟨_,us⟩:=us
 ·cases h
 obtain _|⟨_,us⟩:=us
 ·cases h
 obtain _|⟨_,us⟩:=us
 ·cases h
 obtain _|⟨_,us⟩:=us
 ·cases h
 obtain _|⟨_,us⟩:=us
 ·cases h
 obtain _|⟨_,us⟩:=us
 ·cases h
 obtain _|⟨_,us⟩:=us
 ·exact k _ _ _ _ _ _
 ·simp at h
theorem Lj {l:PySem.W.OpenLaw}{w:World}{K:PySem.W.Frag}{h:Heap}{mg:Str->Option Value}{fa f0 f1 f2 f3 f4 f5 f6 f7 f8 f9 f10 f11 f12 f13 f14 f15 f16 f17 f18 f19 f20 f21 f22 f23 f24 f25 f26 f27 f28 f29 f30:Addr}(X:K.In h)(G:h.Ns mainGlobals mg)(hfa:mg "law" = some (.ref fa))
  {od0 an0 od1 an1 od2 an2 od3 an3 od4 an4 od5 an5 od6 an6 od7 an7 od8 an8 od9 an9 od10 an10 od11 an11 od12 an12 od13 an13 od14 an14 od15 an15 od16 an16 od17 an17 od18 an18 od19 an19 od20 an20 od21 an21 od22 an22 od23 an23 od24 an24 od25 an25 od26 an26 od27 an27 od28 an28 od29 an29 od30 an30:Option Addr} {sl0 sl1 sl2 sl3 sl4 sl5 sl6 sl7 sl8 sl9 sl10 sl11 sl12 sl13 sl14 sl15 sl16 sl17 sl18 sl19 sl20 sl21 sl22 sl23 sl24 sl25 sl26 sl27 sl28 sl29 sl30:Array (Option Value)} {oc0 kV0 dc0 pm0 cd0 ct0 oc1 kV1 dc1 pm1 cd1 ct1 oc2 kV2 dc2 pm2 cd2 ct2 oc3 kV3 dc3 pm3 cd3 ct3 oc4 kV4 dc4 pm4 cd4 ct4 oc5 kV5 dc5 pm5 cd5 ct5 oc6 kV6 dc6 pm6 cd6 ct6 oc7 kV7 dc7 pm7 cd7 ct7 oc8 kV8 dc8 pm8 cd8 ct8 oc9 kV9 dc9 pm9 cd9 ct9 oc10 kV10 dc10 pm10 cd10 ct10 oc11 kV11 dc11 pm11 cd11 ct11 oc12 kV12 dc12 pm12 cd12 ct12 oc13 kV13 dc13 pm13 cd13 ct13 oc14 kV14 dc14 pm14 cd14 ct14 oc15 kV15 dc15 pm15 cd15 ct15 oc16 kV16 dc16 pm16 cd16 ct16 oc17 kV17 dc17 pm17 cd17 ct17 oc18 kV18 dc18 pm18 cd18 ct18 oc19 kV19 dc19 pm19 cd19 ct19 oc20 kV20 dc20 pm20 cd20 ct20 oc21 kV21 dc21 pm21 cd21 ct21 oc22 kV22 dc22 pm22 cd22 ct22 oc23 kV23 dc23 pm23 cd23 ct23 oc24 kV24 dc24 pm24 cd24 ct24 oc25 kV25 dc25 pm25 cd25 ct25 oc26 kV26 dc26 pm26 cd26 ct26 oc27 kV27 dc27 pm27 cd27 ct27 oc28 kV28 dc28 pm28 cd28 ct28 oc29 kV29 dc29 pm29 cd29 ct29 oc30 kV30 dc30 pm30 cd30 ct30:Value}
  (a0:PySem.W.nsIn K mainGlobals "_law_numbers" = some (some (.ref f0))) (l0:K.lookup f0=some ⟨oc0,od0,.func (PySem.W.fnOf "_law_numbers" "_law_numbers" (ao bv) (ak bv) (aa bv) .none kV0 dc0 pm0 an0 cd0 ct0),sl0⟩) (c0:PySem.W.codeIn K cd0 "_law_numbers" = true) (k0:PySem.W.keepIn K (.ref f0)=true)
  (a1:PySem.W.nsIn K mainGlobals "_law_forest" = some (some (.ref f1))) (l1:K.lookup f1=some ⟨oc1,od1,.func (PySem.W.fnOf "_law_forest" "_law_forest" (ao bM) (ak bM) (aa bM) .none kV1 dc1 pm1 an1 cd1 ct1),sl1⟩) (c1:PySem.W.codeIn K cd1 "_law_forest" = true) (k1:PySem.W.keepIn K (.ref f1)=true)
  (a2:PySem.W.nsIn K mainGlobals "_law_cell" = some (some (.ref f2))) (l2:K.lookup f2=some ⟨oc2,od2,.func (PySem.W.fnOf "_law_cell" "_law_cell" (ao dA) (ak dA) (aa dA) .none kV2 dc2 pm2 an2 cd2 ct2),sl2⟩) (c2:PySem.W.codeIn K cd2 "_law_cell" = true) (k2:PySem.W.keepIn K (.ref f2)=true)
  (a3:PySem.W.nsIn K mainGlobals "_law_many" = some (some (.ref f3))) (l3:K.lookup f3=some ⟨oc3,od3,.func (PySem.W.fnOf "_law_many" "_law_many" (ao dz) (ak dz) (aa dz) .none kV3 dc3 pm3 an3 cd3 ct3),sl3⟩) (c3:PySem.W.codeIn K cd3 "_law_many" = true) (k3:PySem.W.keepIn K (.ref f3)=true)
  (a4:PySem.W.nsIn K mainGlobals "is_whole" = some (some (.ref f4))) (l4:K.lookup f4=some ⟨oc4,od4,.func (PySem.W.fnOf "is_whole" "is_whole" (ao d4) (ak d4) (aa d4) .none kV4 dc4 pm4 an4 cd4 ct4),sl4⟩) (c4:PySem.W.codeIn K cd4 "is_whole" = true) (k4:PySem.W.keepIn K (.ref f4)=true)
  (a5:PySem.W.nsIn K mainGlobals "is_many" = some (some (.ref f5))) (l5:K.lookup f5=some ⟨oc5,od5,.func (PySem.W.fnOf "is_many" "is_many" (ao eZ) (ak eZ) (aa eZ) .none kV5 dc5 pm5 an5 cd5 ct5),sl5⟩) (c5:PySem.W.codeIn K cd5 "is_many" = true) (k5:PySem.W.keepIn K (.ref f5)=true)
  (a6:PySem.W.nsIn K mainGlobals "leads_to_head" = some (some (.ref f6))) (l6:K.lookup f6=some ⟨oc6,od6,.func (PySem.W.fnOf "leads_to_head" "leads_to_head" (ao bc) (ak bc) (aa bc) .none kV6 dc6 pm6 an6 cd6 ct6),sl6⟩) (c6:PySem.W.codeIn K cd6 "leads_to_head" = true) (k6:PySem.W.keepIn K (.ref f6)=true)
  (a7:PySem.W.nsIn K mainGlobals "is_thing" = some (some (.ref f7))) (l7:K.lookup f7=some ⟨oc7,od7,.func (PySem.W.fnOf "is_thing" "is_thing" (ao dW) (ak dW) (aa dW) .none kV7 dc7 pm7 an7 cd7 ct7),sl7⟩) (c7:PySem.W.codeIn K cd7 "is_thing" = true) (k7:PySem.W.keepIn K (.ref f7)=true)
  (a8:PySem.W.nsIn K mainGlobals "is_forest" = some (some (.ref f8))) (l8:K.lookup f8=some ⟨oc8,od8,.func (PySem.W.fnOf "is_forest" "is_forest" (ao dv) (ak dv) (aa dv) .none kV8 dc8 pm8 an8 cd8 ct8),sl8⟩) (c8:PySem.W.codeIn K cd8 "is_forest" = true) (k8:PySem.W.keepIn K (.ref f8)=true)
  (a9:PySem.W.nsIn K mainGlobals "check_forest" = some (some (.ref f9))) (l9:K.lookup f9=some ⟨oc9,od9,.func (PySem.W.fnOf "check_forest" "check_forest" (ao bn) (ak bn) (aa bn) .none kV9 dc9 pm9 an9 cd9 ct9),sl9⟩) (c9:PySem.W.codeIn K cd9 "check_forest" = true) (k9:PySem.W.keepIn K (.ref f9)=true)
  (a10:PySem.W.nsIn K mainGlobals "way_up" = some (some (.ref f10))) (l10:K.lookup f10=some ⟨oc10,od10,.func (PySem.W.fnOf "way_up" "way_up" (ao gq) (ak gq) (aa gq) .none kV10 dc10 pm10 an10 cd10 ct10),sl10⟩) (c10:PySem.W.codeIn K cd10 "way_up" = true) (k10:PySem.W.keepIn K (.ref f10)=true)
  (a11:PySem.W.nsIn K mainGlobals "lots_in" = some (some (.ref f11))) (l11:K.lookup f11=some ⟨oc11,od11,.func (PySem.W.fnOf "lots_in" "lots_in" (ao fW) (ak fW) (aa fW) .none kV11 dc11 pm11 an11 cd11 ct11),sl11⟩) (c11:PySem.W.codeIn K cd11 "lots_in" = true) (k11:PySem.W.keepIn K (.ref f11)=true)
  (a12:PySem.W.nsIn K mainGlobals "lots_of" = some (some (.ref f12))) (l12:K.lookup f12=some ⟨oc12,od12,.func (PySem.W.fnOf "lots_of" "lots_of" (ao eT) (ak eT) (aa eT) .none kV12 dc12 pm12 an12 cd12 ct12),sl12⟩) (c12:PySem.W.codeIn K cd12 "lots_of" = true) (k12:PySem.W.keepIn K (.ref f12)=true)
  (a13:PySem.W.nsIn K mainGlobals "check_thing" = some (some (.ref f13))) (l13:K.lookup f13=some ⟨oc13,od13,.func (PySem.W.fnOf "check_thing" "check_thing" (ao bO) (ak bO) (aa bO) .none kV13 dc13 pm13 an13 cd13 ct13),sl13⟩) (c13:PySem.W.codeIn K cd13 "check_thing" = true) (k13:PySem.W.keepIn K (.ref f13)=true)
  (a14:PySem.W.nsIn K mainGlobals "check_forest_and_thing" = some (some (.ref f14))) (l14:K.lookup f14=some ⟨oc14,od14,.func (PySem.W.fnOf "check_forest_and_thing" "check_forest_and_thing" (ao av) (ak av) (aa av) .none kV14 dc14 pm14 an14 cd14 ct14),sl14⟩) (c14:PySem.W.codeIn K cd14 "check_forest_and_thing" = true) (k14:PySem.W.keepIn K (.ref f14)=true)
  (a15:PySem.W.nsIn K mainGlobals "head_of" = some (some (.ref f15))) (l15:K.lookup f15=some ⟨oc15,od15,.func (PySem.W.fnOf "head_of" "head_of" (ao eY) (ak eY) (aa eY) .none kV15 dc15 pm15 an15 cd15 ct15),sl15⟩) (c15:PySem.W.codeIn K cd15 "head_of" = true) (k15:PySem.W.keepIn K (.ref f15)=true)
  (a16:PySem.W.nsIn K mainGlobals "_law_some" = some (some (.ref f16))) (l16:K.lookup f16=some ⟨oc16,od16,.func (PySem.W.fnOf "_law_some" "_law_some" (ao dC) (ak dC) (aa dC) .none kV16 dc16 pm16 an16 cd16 ct16),sl16⟩) (c16:PySem.W.codeIn K cd16 "_law_some" = true) (k16:PySem.W.keepIn K (.ref f16)=true)
  (a17:PySem.W.nsIn K mainGlobals "lot_with" = some (some (.ref f17))) (l17:K.lookup f17=some ⟨oc17,od17,.func (PySem.W.fnOf "lot_with" "lot_with" (ao dR) (ak dR) (aa dR) .none kV17 dc17 pm17 an17 cd17 ct17),sl17⟩) (c17:PySem.W.codeIn K cd17 "lot_with" = true) (k17:PySem.W.keepIn K (.ref f17)=true)
  (a18:PySem.W.nsIn K mainGlobals "lot_of" = some (some (.ref f18))) (l18:K.lookup f18=some ⟨oc18,od18,.func (PySem.W.fnOf "lot_of" "lot_of" (ao gn) (ak gn) (aa gn) .none kV18 dc18 pm18 an18 cd18 ct18),sl18⟩) (c18:PySem.W.codeIn K cd18 "lot_of" = true) (k18:PySem.W.keepIn K (.ref f18)=true)
  (a19:PySem.W.nsIn K mainGlobals "depth_of" = some (some (.ref f19))) (l19:K.lookup f19=some ⟨oc19,od19,.func (PySem.W.fnOf "depth_of" "depth_of" (ao dS) (ak dS) (aa dS) .none kV19 dc19 pm19 an19 cd19 ct19),sl19⟩) (c19:PySem.W.codeIn K cd19 "depth_of" = true) (k19:PySem.W.keepIn K (.ref f19)=true)
  (a20:PySem.W.nsIn K mainGlobals "sizes_in" = some (some (.ref f20))) (l20:K.lookup f20=some ⟨oc20,od20,.func (PySem.W.fnOf "sizes_in" "sizes_in" (ao dU) (ak dU) (aa dU) .none kV20 dc20 pm20 an20 cd20 ct20),sl20⟩) (c20:PySem.W.codeIn K cd20 "sizes_in" = true) (k20:PySem.W.keepIn K (.ref f20)=true)
  (a21:PySem.W.nsIn K mainGlobals "size_of" = some (some (.ref f21))) (l21:K.lookup f21=some ⟨oc21,od21,.func (PySem.W.fnOf "size_of" "size_of" (ao eU) (ak eU) (aa eU) .none kV21 dc21 pm21 an21 cd21 ct21),sl21⟩) (c21:PySem.W.codeIn K cd21 "size_of" = true) (k21:PySem.W.keepIn K (.ref f21)=true)
  (a22:PySem.W.nsIn K mainGlobals "way_of" = some (some (.ref f22))) (l22:K.lookup f22=some ⟨oc22,od22,.func (PySem.W.fnOf "way_of" "way_of" (ao fY) (ak fY) (aa fY) .none kV22 dc22 pm22 an22 cd22 ct22),sl22⟩) (c22:PySem.W.codeIn K cd22 "way_of" = true) (k22:PySem.W.keepIn K (.ref f22)=true)
  (a23:PySem.W.nsIn K mainGlobals "_law_put_right" = some (some (.ref f23))) (l23:K.lookup f23=some ⟨oc23,od23,.func (PySem.W.fnOf "_law_put_right" "_law_put_right" (ao aX) (ak aX) (aa aX) .none kV23 dc23 pm23 an23 cd23 ct23),sl23⟩) (c23:PySem.W.codeIn K cd23 "_law_put_right" = true) (k23:PySem.W.keepIn K (.ref f23)=true)
  (a24:PySem.W.nsIn K mainGlobals "_law_way" = some (some (.ref f24))) (l24:K.lookup f24=some ⟨oc24,od24,.func (PySem.W.fnOf "_law_way" "_law_way" (ao dX) (ak dX) (aa dX) .none kV24 dc24 pm24 an24 cd24 ct24),sl24⟩) (c24:PySem.W.codeIn K cd24 "_law_way" = true) (k24:PySem.W.keepIn K (.ref f24)=true)
  (a25:PySem.W.nsIn K mainGlobals "_law_head" = some (some (.ref f25))) (l25:K.lookup f25=some ⟨oc25,od25,.func (PySem.W.fnOf "_law_head" "_law_head" (ao dB) (ak dB) (aa dB) .none kV25 dc25 pm25 an25 cd25 ct25),sl25⟩) (c25:PySem.W.codeIn K cd25 "_law_head" = true) (k25:PySem.W.keepIn K (.ref f25)=true)
  (a26:PySem.W.nsIn K mainGlobals "height_of" = some (some (.ref f26))) (l26:K.lookup f26=some ⟨oc26,od26,.func (PySem.W.fnOf "height_of" "height_of" (ao du) (ak du) (aa du) .none kV26 dc26 pm26 an26 cd26 ct26),sl26⟩) (c26:PySem.W.codeIn K cd26 "height_of" = true) (k26:PySem.W.keepIn K (.ref f26)=true)
  (a27:PySem.W.nsIn K mainGlobals "_law_right" = some (some (.ref f27))) (l27:K.lookup f27=some ⟨oc27,od27,.func (PySem.W.fnOf "_law_right" "_law_right" (ao cT) (ak cT) (aa cT) .none kV27 dc27 pm27 an27 cd27 ct27),sl27⟩) (c27:PySem.W.codeIn K cd27 "_law_right" = true) (k27:PySem.W.keepIn K (.ref f27)=true)
  (a28:PySem.W.nsIn K mainGlobals "_law_renumbered_right" = some (some (.ref f28))) (l28:K.lookup f28=some ⟨oc28,od28,.func (PySem.W.fnOf "_law_renumbered_right" "_law_renumbered_right" (ao aB) (ak aB) (aa aB) .none kV28 dc28 pm28 an28 cd28 ct28),sl28⟩) (c28:PySem.W.codeIn K cd28 "_law_renumbered_right" = true) (k28:PySem.W.keepIn K (.ref f28)=true)
  (a29:PySem.W.nsIn K mainGlobals "_law_beside_right" = some (some (.ref f29))) (l29:K.lookup f29=some ⟨oc29,od29,.func (PySem.W.fnOf "_law_beside_right" "_law_beside_right" (ao aJ) (ak aJ) (aa aJ) .none kV29 dc29 pm29 an29 cd29 ct29),sl29⟩) (c29:PySem.W.codeIn K cd29 "_law_beside_right" = true) (k29:PySem.W.keepIn K (.ref f29)=true)
  (a30:PySem.W.nsIn K mainGlobals "law" = some (some (.ref f30))) (l30:K.lookup f30=some ⟨oc30,od30,.func (PySem.W.fnOf "law" "law" (ao jB) (ak jB) (aa jB) .none kV30 dc30 pm30 an30 cd30 ct30),sl30⟩) (c30:PySem.W.codeIn K cd30 "law" = true) (k30:PySem.W.keepIn K (.ref f30)=true)
  (z_abs:PySem.W.nsIn K mainGlobals "abs" = some none)
  (z_all:PySem.W.nsIn K mainGlobals "all" = some none)
  (z_bool:PySem.W.nsIn K mainGlobals "bool" = some none)
  (z_int:PySem.W.nsIn K mainGlobals "int" = some none)
  (z_isinstance:PySem.W.nsIn K mainGlobals "isinstance" = some none)
  (z_len:PySem.W.nsIn K mainGlobals "len" = some none)
  (z_list:PySem.W.nsIn K mainGlobals "list" = some none)
  (z_max:PySem.W.nsIn K mainGlobals "max" = some none)
  (z_range:PySem.W.nsIn K mainGlobals "range" = some none)
  (z_sorted:PySem.W.nsIn K mainGlobals "sorted" = some none)
  (z_sum:PySem.W.nsIn K mainGlobals "sum" = some none)
  (z_tuple:PySem.W.nsIn K mainGlobals "tuple" = some none)
  {tk_MOST_THINGS:Tok}
  (y_MOST_THINGS:PySem.W.nsIn K mainGlobals "MOST_THINGS" = some (some (.int 40 tk_MOST_THINGS)))
  : ∃fd:FuncData,(∀(s:Shared) (u:Value),BindsTo s fd ⟨[u],[]⟩ [("_law_script",u)])/\∀base:Heap,K.In base/\base.Ns mainGlobals mg->FnOk l.prog w K mg base rZ 8 fa fd ["_law_script"] (ph K):=by
 have T:Txt mg:=⟨PySem.W.mg_none_of X G z_abs,PySem.W.mg_none_of X G z_all,PySem.W.mg_none_of X G z_bool,PySem.W.mg_none_of X G z_int,PySem.W.mg_none_of X G z_isinstance,PySem.W.mg_none_of X G z_len,PySem.W.mg_none_of X G z_list,PySem.W.mg_none_of X G z_max,PySem.W.mg_none_of X G z_range,PySem.W.mg_none_of X G z_sorted,PySem.W.mg_none_of X G z_sum,PySem.W.mg_none_of X G z_tuple,⟨_,PySem.W.mg_of X G y_MOST_THINGS⟩⟩
 have aZ:FunD K mg "_law_numbers" bv ["_law_cell_here","_law_many_here"]:=aE l0 c0 k0 (PySem.W.mg_of X G a0) fun _ _ _ _ _ _ us hl=>gx hl fun _ _=>rfl
 have bf:FunD K mg "_law_forest" bM ["_law_xs","_law_many_here"]:=aE l1 c1 k1 (PySem.W.mg_of X G a1) fun _ _ _ _ _ _ us hl=>gx hl fun _ _=>rfl
 have bK:FunD K mg "_law_cell" dA ["_law_script","_law_k"]:=aE l2 c2 k2 (PySem.W.mg_of X G a2) fun _ _ _ _ _ _ us hl=>gx hl fun _ _=>rfl
 have cS:FunD K mg "_law_many" dz ["_law_x"]:=aE l3 c3 k3 (PySem.W.mg_of X G a3) fun _ _ _ _ _ _ us hl=>ld hl fun _=>rfl
 have bo:FunD K mg "is_whole" d4 ["thing"]:=aE l4 c4 k4 (PySem.W.mg_of X G a4) fun _ _ _ _ _ _ us hl=>ld hl fun _=>rfl
 have eB:FunD K mg "is_many" eZ ["thing"]:=aE l5 c5 k5 (PySem.W.mg_of X G a5) fun _ _ _ _ _ _ us hl=>ld hl fun _=>rfl
 have aU:FunD K mg "leads_to_head" bc ["ups","x"]:=aE l6 c6 k6 (PySem.W.mg_of X G a6) fun _ _ _ _ _ _ us hl=>gx hl fun _ _=>rfl
 have bh:FunD K mg "is_thing" dW ["many","thing"]:=aE l7 c7 k7 (PySem.W.mg_of X G a7) fun _ _ _ _ _ _ us hl=>gx hl fun _ _=>rfl
 have aK:FunD K mg "is_forest" dv ["thing"]:=aE l8 c8 k8 (PySem.W.mg_of X G a8) fun _ _ _ _ _ _ us hl=>ld hl fun _=>rfl
 have au:FunD K mg "check_forest" bn ["ups"]:=aE l9 c9 k9 (PySem.W.mg_of X G a9) fun _ _ _ _ _ _ us hl=>ld hl fun _=>rfl
 have ax:FunD K mg "way_up" gq ["ups","x"]:=aE l10 c10 k10 (PySem.W.mg_of X G a10) fun _ _ _ _ _ _ us hl=>gx hl fun _ _=>rfl
 have cY:FunD K mg "lots_in" fW ["ups"]:=aE l11 c11 k11 (PySem.W.mg_of X G a11) fun _ _ _ _ _ _ us hl=>ld hl fun _=>rfl
 have aw:FunD K mg "lots_of" eT ["ups"]:=aE l12 c12 k12 (PySem.W.mg_of X G a12) fun _ _ _ _ _ _ us hl=>ld hl fun _=>rfl
 have be:FunD K mg "check_thing" bO ["many","x"]:=aE l13 c13 k13 (PySem.W.mg_of X G a13) fun _ _ _ _ _ _ us hl=>gx hl fun _ _=>rfl
 have af:FunD K mg "check_forest_and_thing" av ["ups","x"]:=aE l14 c14 k14 (PySem.W.mg_of X G a14) fun _ _ _ _ _ _ us hl=>gx hl fun _ _=>rfl
 have bG:FunD K mg "head_of" eY ["ups","x"]:=aE l15 c15 k15 (PySem.W.mg_of X G a15) fun _ _ _ _ _ _ us hl=>gx hl fun _ _=>rfl
 have aA:FunD K mg "_law_some" dC ["_law_many_here"]:=aE l16 c16 k16 (PySem.W.mg_of X G a16) fun _ _ _ _ _ _ us hl=>ld hl fun _=>rfl
 have di:FunD K mg "lot_with" dR ["ups","x"]:=aE l17 c17 k17 (PySem.W.mg_of X G a17) fun _ _ _ _ _ _ us hl=>gx hl fun _ _=>rfl
 have bX:FunD K mg "lot_of" gn ["ups","x"]:=aE l18 c18 k18 (PySem.W.mg_of X G a18) fun _ _ _ _ _ _ us hl=>gx hl fun _ _=>rfl
 have aH:FunD K mg "depth_of" dS ["ups","x"]:=aE l19 c19 k19 (PySem.W.mg_of X G a19) fun _ _ _ _ _ _ us hl=>gx hl fun _ _=>rfl
 have dn:FunD K mg "sizes_in" dU ["ups"]:=aE l20 c20 k20 (PySem.W.mg_of X G a20) fun _ _ _ _ _ _ us hl=>ld hl fun _=>rfl
 have aF:FunD K mg "size_of" eU ["ups","x"]:=aE l21 c21 k21 (PySem.W.mg_of X G a21) fun _ _ _ _ _ _ us hl=>gx hl fun _ _=>rfl
 have dw:FunD K mg "way_of" fY ["ups","x"]:=aE l22 c22 k22 (PySem.W.mg_of X G a22) fun _ _ _ _ _ _ us hl=>gx hl fun _ _=>rfl
 have F__law_put_right:FunD K mg "_law_put_right" aX ["_law_ups","_law_xs"]:=aE l23 c23 k23 (PySem.W.mg_of X G a23) fun _ _ _ _ _ _ us hl=>gx hl fun _ _=>rfl
 have dr:FunD K mg "_law_way" dX ["_law_ups","_law_x"]:=aE l24 c24 k24 (PySem.W.mg_of X G a24) fun _ _ _ _ _ _ us hl=>gx hl fun _ _=>rfl
 have F__law_head:FunD K mg "_law_head" dB ["_law_ups","_law_x"]:=aE l25 c25 k25 (PySem.W.mg_of X G a25) fun _ _ _ _ _ _ us hl=>gx hl fun _ _=>rfl
 have aD:FunD K mg "height_of" du ["ups"]:=aE l26 c26 k26 (PySem.W.mg_of X G a26) fun _ _ _ _ _ _ us hl=>ld hl fun _=>rfl
 have F__law_right:FunD K mg "_law_right" cT ["_law_ups"]:=aE l27 c27 k27 (PySem.W.mg_of X G a27) fun _ _ _ _ _ _ us hl=>ld hl fun _=>rfl
 have F__law_renumbered_right:FunD K mg "_law_renumbered_right" aB ["_law_ups","_law_xs"]:=aE l28 c28 k28 (PySem.W.mg_of X G a28) fun _ _ _ _ _ _ us hl=>gx hl fun _ _=>rfl
 have F__law_beside_right:FunD K mg "_law_beside_right" aJ ["_law_ups","_law_other"]:=aE l29 c29 k29 (PySem.W.mg_of X G a29) fun _ _ _ _ _ _ us hl=>gx hl fun _ _=>rfl
 have F_law:FunD K mg "law" jB ["_law_script"]:=aE l30 c30 k30 (PySem.W.mg_of X G a30) fun _ _ _ _ _ _ us hl=>ld hl fun _=>rfl
 refine FunD.top (R:=fun base=>K.In base/\base.Ns mainGlobals mg) F_law hfa zV (fun vs H Q E h=>by obtain⟨a,ns,rfl,_⟩:=h;rfl) fun base hb f cdv A outer s H vs Q E hr h=>?_
 have D__law_numbers:=ml (P:=l.prog) (w:=w) (base:=base) T aZ
 have D__law_forest:=m6 (P:=l.prog) (w:=w) (base:=base) T bf
 have D__law_cell:=qY (P:=l.prog) (w:=w) (base:=base) T bK
 have D__law_many:=qS (P:=l.prog) (w:=w) (base:=base) T cS
 have D_is_whole:=rG (P:=l.prog) (w:=w) (base:=base) T bo
 have D_is_many:=uU (P:=l.prog) (w:=w) (base:=base) T eB D_is_whole
 have D_leads_to_head:=lH (P:=l.prog) (w:=w) (base:=base) T aU
 have D_is_thing:=rQ (P:=l.prog) (w:=w) (base:=base) T bh D_is_whole
 have D_is_forest:=pF (P:=l.prog) (w:=w) (base:=base) T aK D_is_many D_leads_to_head D_is_thing
 have D_check_forest:=mf (P:=l.prog) (w:=w) (base:=base) T au D_is_forest
 have D_way_up:=yi (P:=l.prog) (w:=w) (base:=base) T ax
 have D_lots_in:=t8 (P:=l.prog) (w:=w) (base:=base) T cY D_way_up
 have D_lots_of:=vi (P:=l.prog) (w:=w) (base:=base) T aw D_check_forest D_lots_in
 have D_check_thing:=nz (P:=l.prog) (w:=w) (base:=base) T be D_is_thing
 have D_check_forest_and_thing:=gy (P:=l.prog) (w:=w) (base:=base) T af D_check_forest D_check_thing
 have D_head_of:=vb (P:=l.prog) (w:=w) (base:=base) T bG D_check_forest_and_thing D_way_up
 have D__law_some:=pV (P:=l.prog) (w:=w) (base:=base) T aA
 have D_lot_with:=sX (P:=l.prog) (w:=w) (base:=base) T di D_way_up
 have D_lot_of:=wJ (P:=l.prog) (w:=w) (base:=base) T bX D_check_forest_and_thing D_lot_with
 have D_depth_of:=sW (P:=l.prog) (w:=w) (base:=base) T aH D_check_forest_and_thing D_way_up
 have D_sizes_in:=rV (P:=l.prog) (w:=w) (base:=base) T dn D_way_up
 have D_size_of:=t5 (P:=l.prog) (w:=w) (base:=base) T aF D_check_forest_and_thing D_sizes_in
 have D_way_of:=xX (P:=l.prog) (w:=w) (base:=base) T dw D_check_forest_and_thing D_way_up
 have D__law_put_right:=km (P:=l.prog) (w:=w) (base:=base) T F__law_put_right D_lots_of D_head_of D__law_some D_lot_of D_is_forest D_depth_of D_size_of D_way_of
 have D__law_way:=tV (P:=l.prog) (w:=w) (base:=base) T dr
 have D__law_head:=pj (P:=l.prog) (w:=w) (base:=base) T F__law_head D__law_way
 have D_height_of:=qA (P:=l.prog) (w:=w) (base:=base) T aD D_check_forest D_way_up
 have D__law_right:=ot (P:=l.prog) (w:=w) (base:=base) T F__law_right D__law_some D__law_head D_lots_of D_height_of D_size_of D_depth_of D_way_of
 have D__law_renumbered_right:=g7 (P:=l.prog) (w:=w) (base:=base) T F__law_renumbered_right D__law_some D_size_of D_lot_of D_height_of D_head_of D_depth_of D_lots_of
 have D__law_beside_right:=ji (P:=l.prog) (w:=w) (base:=base) T F__law_beside_right D__law_some D_lots_of D_is_forest D_height_of D_size_of
 exact zp T hr h D__law_numbers D__law_forest D__law_cell D__law_many D__law_put_right D__law_right D__law_renumbered_right D__law_beside_right
end K04
def PySem.W.Fast.tw7067853459567076979 : Unit := ()
def PySem.W.Fast.tw3387005958496404940 : Unit := ()
def PySem.W.Fast.tw1728774250376424249 : Unit := ()
def PySem.W.Fast.tw2526848949780583567 : Unit := ()
def PySem.W.Fast.tw16170918593531091012 : Unit := ()
def PySem.W.Fast.tw1343999271832251481 : Unit := ()
def PySem.W.Fast.tw13355819732545881230 : Unit := ()
def PySem.W.Fast.tw1250008635137876544 : Unit := ()
def PySem.W.Fast.tw1680156387711341734 : Unit := ()
def PySem.W.Fast.tw15291406525520109012 : Unit := ()
open PySem PySem.W PyProof.Rows
set_option maxRecDepth 100000 in
set_option maxHeartbeats 0 in
theorem PySem.Challenge.cw_lotheads_k04_whole_forests_go_along_holds : PySem.Challenge.rw_lotheads_k04_whole_forests_go_along.Holds := by
 w_on;o_law;k_head;(case hw=>w_witness2)
 k_fill
 refine Pu.P8 (k:=8) (by decide) (l:=PySem.Challenge.rw_lotheads_k04_whole_forests_go_along) rfl rfl (fun w h Y=>PySem.W.kIn_of Y) ?F
 case F=>
  intro w mg fa h KX G hmg
  refine' K04.Lj KX G hmg ?a0 ?l0 ?c0 ?k0 ?a1 ?l1 ?c1 ?k1 ?a2 ?l2 ?c2 ?k2 ?a3 ?l3 ?c3 ?k3 ?a4 ?l4 ?c4 ?k4 ?a5 ?l5 ?c5 ?k5 ?a6 ?l6 ?c6 ?k6 ?a7 ?l7 ?c7 ?k7 ?a8 ?l8 ?c8 ?k8 ?a9 ?l9 ?c9 ?k9 ?a10 ?l10 ?c10 ?k10 ?a11 ?l11 ?c11 ?k11 ?a12 ?l12 ?c12 ?k12 ?a13 ?l13 ?c13 ?k13 ?a14 ?l14 ?c14 ?k14 ?a15 ?l15 ?c15 ?k15 ?a16 ?l16 ?c16 ?k16 ?a17 ?l17 ?c17 ?k17 ?a18 ?l18 ?c18 ?k18 ?a19 ?l19 ?c19 ?k19 ?a20 ?l20 ?c20 ?k20 ?a21 ?l21 ?c21 ?k21 ?a22 ?l22 ?c22 ?k22 ?a23 ?l23 ?c23 ?k23 ?a24 ?l24 ?c24 ?k24 ?a25 ?l25 ?c25 ?k25 ?a26 ?l26 ?c26 ?k26 ?a27 ?l27 ?c27 ?k27 ?a28 ?l28 ?c28 ?k28 ?a29 ?l29 ?c29 ?k29 ?a30 ?l30 ?c30 ?k30 ?z_abs ?z_all ?z_bool ?z_int ?z_isinstance ?z_len ?z_list ?z_max ?z_range ?z_sorted ?z_sum ?z_tuple ?y_MOST_THINGS
  (case a0=>k_is);(case l0=>k_is);(case c0=>k_is);(case k0=>k_is)
  (case a1=>k_is);(case l1=>k_is);(case c1=>k_is);(case k1=>k_is)
  (case a2=>k_is);(case l2=>k_is);(case c2=>k_is);(case k2=>k_is)
  (case a3=>k_is);(case l3=>k_is);(case c3=>k_is);(case k3=>k_is)
  (case a4=>k_is);(case l4=>k_is);(case c4=>k_is);(case k4=>k_is)
  (case a5=>k_is);(case l5=>k_is);(case c5=>k_is);(case k5=>k_is)
  (case a6=>k_is);(case l6=>k_is);(case c6=>k_is);(case k6=>k_is)
  (case a7=>k_is);(case l7=>k_is);(case c7=>k_is);(case k7=>k_is)
  (case a8=>k_is);(case l8=>k_is);(case c8=>k_is);(case k8=>k_is)
  (case a9=>k_is);(case l9=>k_is);(case c9=>k_is);(case k9=>k_is)
  (case a10=>k_is);(case l10=>k_is);(case c10=>k_is);(case k10=>k_is)
  (case a11=>k_is);(case l11=>k_is);(case c11=>k_is);(case k11=>k_is)
  (case a12=>k_is);(case l12=>k_is);(case c12=>k_is);(case k12=>k_is)
  (case a13=>k_is);(case l13=>k_is);(case c13=>k_is);(case k13=>k_is)
  (case a14=>k_is);(case l14=>k_is);(case c14=>k_is);(case k14=>k_is)
  (case a15=>k_is);(case l15=>k_is);(case c15=>k_is);(case k15=>k_is)
  (case a16=>k_is);(case l16=>k_is);(case c16=>k_is);(case k16=>k_is)
  (case a17=>k_is);(case l17=>k_is);(case c17=>k_is);(case k17=>k_is)
  (case a18=>k_is);(case l18=>k_is);(case c18=>k_is);(case k18=>k_is)
  (case a19=>k_is);(case l19=>k_is);(case c19=>k_is);(case k19=>k_is)
  (case a20=>k_is);(case l20=>k_is);(case c20=>k_is);(case k20=>k_is)
  (case a21=>k_is);(case l21=>k_is);(case c21=>k_is);(case k21=>k_is)
  (case a22=>k_is);(case l22=>k_is);(case c22=>k_is);(case k22=>k_is)
  (case a23=>k_is);(case l23=>k_is);(case c23=>k_is);(case k23=>k_is)
  (case a24=>k_is);(case l24=>k_is);(case c24=>k_is);(case k24=>k_is)
  (case a25=>k_is);(case l25=>k_is);(case c25=>k_is);(case k25=>k_is)
  (case a26=>k_is);(case l26=>k_is);(case c26=>k_is);(case k26=>k_is)
  (case a27=>k_is);(case l27=>k_is);(case c27=>k_is);(case k27=>k_is)
  (case a28=>k_is);(case l28=>k_is);(case c28=>k_is);(case k28=>k_is)
  (case a29=>k_is);(case l29=>k_is);(case c29=>k_is);(case k29=>k_is)
  (case a30=>k_is);(case l30=>k_is);(case c30=>k_is);(case k30=>k_is)
  (case z_abs=>k_is)
  (case z_all=>k_is)
  (case z_bool=>k_is)
  (case z_int=>k_is)
  (case z_isinstance=>k_is)
  (case z_len=>k_is)
  (case z_list=>k_is)
  (case z_max=>k_is)
  (case z_range=>k_is)
  (case z_sorted=>k_is)
  (case z_sum=>k_is)
  (case z_tuple=>k_is)
  (case y_MOST_THINGS=>k_is)
end
