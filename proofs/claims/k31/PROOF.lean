import PyProof.Rows.All
import Wide.All
import OpenK.AllK
import Wide.FinOn
import Lean
import PyProof.EqAt
import PyProof.EqKinds
import PyProof.TupleCall
import PyProof.NeKinds
import KE.KSortTup
import PySem.Challenge.RW_lotheads_k31_heads_and_lots_at_moments
set_option Elab.async false
set_option linter.all false
set_option maxRecDepth 100000
namespace L2
open PySem PySem.Spec PyProof.Rows
noncomputable abbrev iW:=Sum Int Str
noncomputable def t4:iW->Value->Bool
 |.inl k,v=>Value.isInt k v
 |.inr x,v=>Value.isStrOf x v
noncomputable def Ox (w:World):iW->Int
 |.inl k=>hashInt k
 |.inr x=>hashStr w x
theorem cY:∀{k:iW} {v:Value},t4 k v=true->(∃i t,k=Sum.inl i/\v=Value.int i t)\/(∃x t,k=Sum.inr x/\v=Value.str x t)
 |.inl i,v,h=>by
  obtain⟨t,e⟩:=Value.isInt_shape (k:=i) (v:=v) h
  exact .inl ⟨i,t,rfl,e⟩
 |.inr x,v,h=>by
  obtain⟨t,e⟩:=Value.isStrOf_shape (x:=x) (v:=v) h
  exact .inr ⟨x,t,rfl,e⟩
theorem BM (i:Int)(t:Tok):t4 (.inl i) (.int i t)=true:=by simp[t4,Value.isInt]
theorem Bh (x:Str)(t:Tok):t4 (.inr x) (.str x t)=true:=by simp[t4,Value.isStrOf]
theorem KU (a b:Int):decide ((Sum.inl a:iW)=Sum.inl b)=(a==b):=by
 by_cases e:a=b
 ·subst e;simp
 ·have h:¬(Sum.inl a:iW)=Sum.inl b:=fun q=>e (Sum.inl.inj q)
  rw[decide_eq_false h]
  exact (beq_eq_false_iff_ne.mpr e).symm
theorem LD (a b:Str):decide ((Sum.inr a:iW)=Sum.inr b)=decide (a=b):=by
 by_cases e:a=b
 ·subst e;simp
 ·have h:¬(Sum.inr a:iW)=Sum.inr b:=fun q=>e (Sum.inr.inj q)
  rw[decide_eq_false h,decide_eq_false e]
theorem KF (a:Int)(b:Str):decide ((Sum.inl a:iW)=Sum.inr b)=false:=decide_eq_false (fun q=>nomatch q)
theorem Kv (a:Str)(b:Int):decide ((Sum.inr a:iW)=Sum.inl b)=false:=decide_eq_false (fun q=>nomatch q)
noncomputable def bZ (prog:Program)(w:World):PySem.KeyKind prog w iW where
 is:=t4
 hash:=Ox w
 inj:=fun v a b ha hb=>by
  rcases cY ha with ⟨i,t,rfl,rfl⟩|⟨x,t,rfl,rfl⟩
  ·rcases cY hb with ⟨j,u,rfl,e⟩|⟨y,u,rfl,e⟩
   ·injection e with e1 _;rw[e1]
   ·exact nomatch e
  ·rcases cY hb with ⟨j,u,rfl,e⟩|⟨y,u,rfl,e⟩
   ·exact nomatch e
   ·injection e with e1 _;rw[e1]
 byValue:=fun k v h=>by
  rcases cY h with ⟨i,t,rfl,rfl⟩|⟨x,t,rfl,rfl⟩<;>rfl
 pyHash:=fun hv h=>by
  rcases cY hv with ⟨i,t,rfl,rfl⟩|⟨x,t,rfl,rfl⟩
  ·exact wpAny_pyHash_int h
  ·exact wpAny_pyHash_str h
 eqBool:=fun hu hv h=>by
  rcases cY hu with ⟨i,t,rfl,rfl⟩|⟨x,t,rfl,rfl⟩
  ·rcases cY hv with ⟨j,u,rfl,rfl⟩|⟨y,u,rfl,rfl⟩
   ·rw[KU] at h;exact wpAny_eqBool_int h
   ·rw[KF] at h;exact SeqAt.EqAt.int_str i t y u _ _ _ _ h
  ·rcases cY hv with ⟨j,u,rfl,rfl⟩|⟨y,u,rfl,rfl⟩
   ·rw[Kv] at h;exact SeqAt.EqAt.str_int x t j u _ _ _ _ h
   ·rw[LD] at h;exact wpAny_eqBool_str h
 «strs»:=fun k x t v h=>by
  rcases cY h with ⟨i,u,rfl,e⟩|⟨y,u,rfl,e⟩
  ·exact nomatch e
  ·injection e with e1 _
   subst e1
   cases v<;>rfl
theorem wF (prog:Program)(w:World)(i:Int)(t:Tok):(bZ prog w).is (.inl i) (.int i t)=true:=BM i t
theorem lZ (prog:Program)(w:World)(x:Str)(t:Tok):(bZ prog w).is (.inr x) (.str x t)=true:=Bh x t
end L2
namespace L2
open PySem PySem.Spec PyProof.Rows
inductive V where
 |non|bl (b:Bool)|int (i:Int)|str (x:Str)|byt (b:Array UInt8)|flt (b:UInt64)|ref (a:Addr)|ty (n:String)
 deriving DecidableEq
noncomputable def RelV:V->Value->Prop
 |.non,u=>u=Value.none
 |.bl b,u=>u=Value.bool b
 |.int i,u=>∃t,u=Value.int i t
 |.str x,u=>∃t,u=Value.str x t
 |.byt b,u=>∃t,u=Value.bytes b t
 |.flt b,u=>∃t,u=Value.float b t
 |.ref a,u=>u=Value.ref a
 |.ty n,u=>u=Value.type n
noncomputable abbrev Vals:List V->List Value->Prop:=Paired RelV
theorem Vals.length {xs:List V}{us:List Value}(r:Vals xs us):xs.length=us.length:=Paired.length r
theorem Vals.get:∀{xs:List V} {us:List Value} {i:Nat} {x:V},Vals xs us->xs[i]?=some x->∃u,us[i]?=some u/\RelV x u
 |_,_,_,_,.nil,e=>by simp at e
 |_,_,0,_,.cons r _,e=>by simp at e;subst e;exact⟨_,rfl,r⟩
 |_,_,i+1,x,.cons _ t,e=>by
  obtain⟨u,h1,h2⟩:=Vals.get (i:=i) (x:=x) t (by simpa using e)
  exact⟨u,by simpa using h1,h2⟩
theorem Vals.set {x:V}{u:Value}(r:RelV x u):∀{xs:List V} {us:List Value} (i:Nat),Vals xs us->Vals (xs.set i x) (us.set i u)
 |_,_,_,.nil=>.nil
 |_,_,0,.cons _ t=>.cons r t
 |_,_,i+1,.cons q t=>.cons q (Vals.set r i t)
theorem Vals.append:∀{xs ys:List V} {us ws:List Value},Vals xs us->Vals ys ws->Vals (xs++ys) (us++ws)
 |_,_,_,_,.nil,s=>s
 |_,_,_,_,.cons r t,s=>.cons r (Vals.append t s)
theorem Vals.take:∀{xs:List V} {us:List Value} (n:Nat),Vals xs us->Vals (xs.take n) (us.take n)
 |_,_,0,_=>.nil
 |_,_,_+1,.nil=>.nil
 |_,_,n+1,.cons r t=>.cons r (Vals.take n t)
theorem Vals.drop:∀{xs:List V} {us:List Value} (n:Nat),Vals xs us->Vals (xs.drop n) (us.drop n)
 |_,_,0,r=>r
 |_,_,_+1,.nil=>.nil
 |_,_,n+1,.cons _ t=>Vals.drop n t
noncomputable def GU:Option V->Option Value->Prop
 |some v,some u=>RelV v u
 |none,none=>True
 |_,_=>False
noncomputable def KV {κ:Type}:List (κ×V)->List (κ×Value)->Prop:=Paired fun (p:κ×V) (q:κ×Value)=>p.1=q.1/\RelV p.2 q.2
noncomputable def kV:iW->V
 |.inl i=>.int i
 |.inr x=>.str x
inductive HO where
 |lst (xs:List V)
 |tup (xs:List V)
 |dK (kvs:List (iW×V))|dT (kvs:List (List iW×V))
 |set (S:Int->Bool) (n:Nat)
 |ins (C dx:Addr) (fs:List (Str×V))
 |own (x:Addr)
 |xd (fs:List (Str×V))
 |met (f x:Addr)
 |rng (lo hi:Int)
 |frz (o:Obj) (u:HO)
 |tbl (ps:Array Value)
 |ext (φ:Heap->Prop)
noncomputable abbrev Hp:=Addr->Option HO
noncomputable def upd (H:Hp)(a:Addr)(o:HO):Hp:=fun b=>if b=a then some o else H b
theorem aq {H:Hp}{a:Addr}{o:HO}:upd H a o a=some o:=by unfold upd;rw[if_pos rfl]
theorem ay {H:Hp}{a b:Addr}{o:HO}(h:b≠a):upd H a o b=H b:=by unfold upd;rw[if_neg h]
theorem bB {H:Hp}{a b:Addr}{o:HO}(h:H a=some o)(h':H b=none):a≠b:=by
 intro e;subst e;rw[h] at h';cases h'
section
variable (P:Program)(w:World)
noncomputable def ObjOk (H:Hp)(h:Heap)(a:Addr):HO->Prop
 |.lst xs=>xs.length≤sizeLine/\∃(its:List Value) (n:Nat),Vals xs its/\h.get? a=some { cls:=.type "list",data:=.seq its.toArray n }
 |.tup xs=>xs.length≤sizeLine/\∃its:List Value,Vals xs its/\IsTup h a its.toArray
 |.dK kvs=>kvs.length≤sizeLine/\(a==sysModules)=false/\∃vs,KV kvs vs/\h.DictOf (bZ P w) a vs
 |.dT kvs=>kvs.length≤sizeLine/\(a==sysModules)=false/\∃xs:List (List iW×Addr×Value),
   Paired (fun (p:List iW×V) (q:List iW×Addr×Value)=>p.1=q.1/\H q.2.1=some (.tup (p.1.map kV))/\RelV p.2 q.2.2) kvs xs ∧
   ∃o es ep,h.get? a=some o/\o.ExactDict/\o.data=.dict es ep/\es.toList=xs.map (entryOfKey (tupleKind (bZ P w)))/\(xs.map (·.1)).Nodup
 |.set S n=>h.SetOf (intKind P w) a S n
 |.ins C dx fs=>H dx=some (.own a)/\fs.length≤1000/\dx≠a/\h.get? a=some (PySem.W.instObj C dx) ∧
   ∃mA,h.Ns1 dx mA/\(∀f,GU (fs.lookup f) (mA f))/\PySem.Within mA (fs.map (·.1))
 |.own _=>∃o,h.get? a=some o
 |.xd fs=>∃mA,h.Ns1 a mA/\∀f,GU (fs.lookup f) (mA f)
 |.rng lo hi=>∃t u v,h.get? a=some { cls:=.type "range",data:=.fields #[.int lo t,.int hi u,.int 1 v] }
 |.frz o u=>h.get? a=some o/\ObjOk H h a u
 |.tbl ps=>h.get? a=some { cls:=.none,data:=.fields ps }
 |.met f x=>h.get? a=some (PySem.W.methodObj (.ref f) (.ref x))
 |.ext φ=>φ h/\(∃o,h.get? a=some o)/\∀h1 h2:Heap,φ h1->(∀o,h1.get? a=some o->h2.get? a=some o)->φ h2
noncomputable def HOk (H:Hp)(h:Heap):Prop:=∀a o,H a=some o->ObjOk P w H h a o
end
section
variable {P:Program}{w:World}{H H':Hp}{h h':Heap}{a:Addr}{o:HO}
theorem ObjOk.lt (x:ObjOk P w H h a o):a<h.objs.size:=by
 cases o with
 |lst xs=>obtain⟨_,_,_,_,e⟩:=x;exact Heap.lt_size e
 |tup xs=>obtain⟨_,_,_,p⟩:=x;exact p.lt
 |dK kvs=>obtain⟨_,_,_,_,o,_,_,e,_⟩:=x;exact Heap.lt_size e
 |dT kvs=>obtain⟨_,_,_,_,o,_,_,e,_⟩:=x;exact Heap.lt_size e
 |set S n=>obtain⟨o,_,_,_,e,_⟩:=x;exact Heap.lt_size e
 |ins C dx fs=>obtain⟨_,_,_,e,_⟩:=x;exact Heap.lt_size e
 |own y=>obtain⟨_,e⟩:=x;exact Heap.lt_size e
 |xd fs=>obtain⟨_,⟨_,_,_,e,_⟩,_⟩:=x;exact Heap.lt_size e
 |rng lo hi=>obtain⟨_,_,_,e⟩:=x;exact Heap.lt_size e
 |frz ob u=>obtain⟨e,_⟩:=x;exact Heap.lt_size e
 |tbl ps=>exact Heap.lt_size (show h.get? a=some _ from x)
 |met f y=>exact Heap.lt_size (show h.get? a=some _ from x)
 |ext φ=>obtain⟨_,⟨_,e⟩,_⟩:=x;exact Heap.lt_size e
theorem Paired.mapP {α β:Type}{F G:α->β->Prop}:∀{l₁:List α} {l₂:List β},Paired F l₁ l₂->(∀a b,F a b->G a b)->Paired G l₁ l₂
 |_,_,.nil,_=>.nil
 |_,_,.cons r t,f=>.cons (f _ _ r) (Paired.mapP t f)
theorem ObjOk.stay (x:ObjOk P w H h a o)(k:∀b u,(b=a\/H b=some (.own a))->h.get? b=some u->h'.get? b=some u)
  (ho:∀b,H b=some (.own a)->H' b=some (.own a)) (ht:∀b xs,H b=some (.tup xs)->H' b=some (.tup xs)):ObjOk P w H' h' a o:=by
 induction o with
 |lst xs=>obtain⟨z,its,n,r,e⟩:=x;exact⟨z,its,n,r,k _ _ (.inl rfl) e⟩
 |tup xs=>obtain⟨z,its,r,ob,e,c⟩:=x;exact⟨z,its,r,ob,k _ _ (.inl rfl) e,c⟩
 |dK kvs=>obtain⟨z,y,vs,r,ob,es,ep,e,c⟩:=x;exact⟨z,y,vs,r,ob,es,ep,k _ _ (.inl rfl) e,c⟩
 |dT kvs=>
  obtain⟨z,y,xs,r,ob,es,ep,e,c⟩:=x
  exact⟨z,y,xs,Paired.mapP r fun p q z=>⟨z.1,ht _ _ z.2.1,z.2.2⟩,ob,es,ep,k _ _ (.inl rfl) e,c⟩
 |set S n=>obtain⟨ob,es,ep,t,e,c⟩:=x;exact⟨ob,es,ep,t,k _ _ (.inl rfl) e,c⟩
 |ins C dx fs=>
  obtain⟨d,z,ne,e,mA,⟨od,es,ep,e2,c⟩,r⟩:=x
  exact⟨ho _ d,z,ne,k _ _ (.inl rfl) e,mA,⟨od,es,ep,k _ _ (.inr d) e2,c⟩,r⟩
 |own y=>obtain⟨ob,e⟩:=x;exact⟨ob,k _ _ (.inl rfl) e⟩
 |xd fs=>obtain⟨mA,⟨od,es,ep,e,c⟩,r⟩:=x;exact⟨mA,⟨od,es,ep,k _ _ (.inl rfl) e,c⟩,r⟩
 |rng lo hi=>obtain⟨t,u,v,e⟩:=x;exact⟨t,u,v,k _ _ (.inl rfl) e⟩
 |frz ob u ih=>obtain⟨e,q⟩:=x;exact⟨k _ _ (.inl rfl) e,ih q⟩
 |tbl ps=>
  have e:h.get? a=some { cls:=.none,data:=.fields ps }:=x
  show h'.get? a=some { cls:=.none,data:=.fields ps }
  exact k a _ (.inl rfl) e
 |met f y=>
  have e:h.get? a=some (PySem.W.methodObj (.ref f) (.ref y)):=x
  show h'.get? a=some (PySem.W.methodObj (.ref f) (.ref y))
  exact k a _ (.inl rfl) e
 |ext φ=>obtain⟨p,⟨o,e⟩,st⟩:=x;exact⟨st _ _ p fun o q=>k _ _ (.inl rfl) q,⟨o,k _ _ (.inl rfl) e⟩,st⟩
theorem HOk.lt (x:HOk P w H h)(e:H a=some o):a<h.objs.size:=(x a o e).lt
theorem HOk.fresh (x:HOk P w H h)(e:h.objs.size≤a):H a=none:=by
 cases q:H a with
 |none=>rfl
 |some u=>exact absurd (Nat.lt_of_lt_of_le (x.lt q) e) (Nat.lt_irrefl _)
theorem HOk.kept (x:HOk P w H h)(k:∀b u,h.get? b=some u->h'.get? b=some u):HOk P w H h':=fun a o e=>
 (x a o e).stay (fun b u _ q=>k b u q) (fun _ q=>q) fun _ _ q=>q
theorem HOk.laid (x:HOk P w H h)(k:∀b u,h.get? b=some u->h'.get? b=some u)(hp:h.objs.size≤a)(new:ObjOk P w (upd H a o) h' a o):HOk P w (upd H a o) h':=fun b u e=>by
 have hn:=x.fresh hp
 by_cases hb:b=a
 ·subst hb;rw[aq] at e;cases e;exact new
 ·rw[ay hb] at e
  exact (x b u e).stay (fun c v _ q=>k c v q) (fun c q=>by rw[ay (bB q hn)];exact q) fun c xs q=>by rw[ay (bB q hn)];exact q
end
noncomputable def Rd (H:Hp)(a:Addr)(u:HO):Prop:=H a=some u\/∃o,H a=some (.frz o u)
theorem Rd.ok {P:Program}{w:World}{H:Hp}{h:Heap}{a:Addr}{u:HO}(r:Rd H a u)(x:HOk P w H h):ObjOk P w H h a u:=by
 rcases r with r|⟨o,r⟩
 ·exact x a u r
 ·obtain⟨_,q⟩:=x a _ r
  exact q
noncomputable def MD:Option HO->Prop
 |some (.lst _)=>True
 |some (.dK _)=>True
 |some (.dT _)=>True
 |some (.set _ _)=>True
 |some (.ins _ _ _)=>True
 |some (.ext _)=>True
 |_=>False
section
variable {P:Program}{w:World}{H:Hp}{h h':Heap}{x e:Addr}{o':HO}
theorem HOk.write (ok:HOk P w H h)(mu:MD (H x))(he:e=x\/H e=some (.own x))(k:∀b u,b≠e->h.get? b=some u->h'.get? b=some u)(heo:∃u,h'.get? e=some u)
  (new:ObjOk P w (upd H x o') h' x o'):HOk P w (upd H x o') h':=fun b u q=>by
 have nown:∀c y,H c=some (.own y)->c≠x:=fun c y r z=>by subst z;rw[r] at mu;exact mu
 have ntup:∀c xs,H c=some (.tup xs)->c≠x:=fun c xs r z=>by subst z;rw[r] at mu;exact mu
 by_cases hb:b=x
 ·subst hb;rw[aq] at q;cases q;exact new
 ·rw[ay hb] at q
  by_cases hbe:b=e
  ·have q':H b=some (.own x):=by
    rcases he with z|z
    ·exact absurd (hbe.trans z) hb
    ·rw[hbe];exact z
   rw[q] at q';cases q'
   obtain⟨v,hv⟩:=heo
   exact⟨v,by rw[hbe];exact hv⟩
  ·refine (ok b u q).stay (fun c v hc r=>k c v ?_ r) (fun c r=>by rw[ay (nown c b r)];exact r) fun c xs r=>by rw[ay (ntup c xs r)];exact r
   rcases hc with rfl|hc
   ·exact hbe
   ·rintro rfl
    rcases he with z|z
    ·exact nown c b hc z
    ·rw[hc] at z;cases z;exact hb rfl
end
structure Un (fs ex:List Addr)(H H':Hp)(h h':Heap):Prop where
 keep:∀b o,h.get? b=some o->H b=none->b∉fs->b∉ex->h'.get? b=some o
 slot:∀b o,h.get? b=some o->H b=none->b∈fs->b∉ex->∃sl,h'.get? b=some { o with slots:=sl }
 free:∀b o,h.get? b=some o->H b=none->b∉ex->H' b=none
 there:∀b o,h.get? b=some o->b∉ex->∃o',h'.get? b=some o'
 tups:∀b xs,H b=some (.tup xs)->H' b=some (.tup xs)
 frzs:∀b o u,H b=some (.frz o u)->H' b=some (.frz o u)
 tbls:∀b ps,H b=some (.tbl ps)->∃more,H' b=some (.tbl (ps++more))
section
variable {fs fs' ex ex':List Addr}{H H1 H2:Hp}{h h1 h2 h':Heap}{a x e:Addr}{o:HO}
theorem Un.any (u:Un fs ex H H1 h h1){b:Addr}{ob:Obj}(q:h.get? b=some ob)(n:H b=none)(hx:b∉ex):∃sl,h1.get? b=some { ob with slots:=sl }:=by
 by_cases hb:b∈fs
 ·exact u.slot b ob q n hb hx
 ·exact⟨ob.slots,u.keep b ob q n hb hx⟩
theorem Un.kept (k:∀b u,h.get? b=some u->h'.get? b=some u):Un fs ex H H h h':=
 ⟨fun b ob q _ _ _=>k b ob q,fun b ob q _ _ _=>⟨ob.slots,k b ob q⟩,fun _ _ _ n _=>n,fun b ob q _=>⟨ob,k b ob q⟩,fun _ _ q=>q,fun _ _ _ q=>q,fun _ ps q=>⟨#[],by rw[q];simp⟩⟩
theorem Un.refl:Un fs ex H H h h:=Un.kept fun _ _ q=>q
theorem Un.laid (k:∀b u,h.get? b=some u->h'.get? b=some u)(hp:h.objs.size≤a)(hn:H a=none):Un fs ex H (upd H a o) h h' where
 keep:=fun b u q _ _ _=>k b u q
 slot:=fun b u q _ _ _=>⟨u.slots,k b u q⟩
 free:=fun b u q n _=>by rw[ay (Nat.ne_of_lt (Nat.lt_of_lt_of_le (Heap.lt_size q) hp))];exact n
 there:=fun b u q _=>⟨u,k b u q⟩
 tups:=fun b xs q=>by rw[ay (bB q hn)];exact q
 frzs:=fun b u xs q=>by rw[ay (bB q hn)];exact q
 tbls:=fun b ps q=>⟨#[],by rw[ay (bB q hn),q];simp⟩
theorem Un.write (mu:MD (H x))(he:e=x\/H e=some (.own x))(k:∀b u,b≠e->h.get? b=some u->h'.get? b=some u)(heo:∃u,h'.get? e=some u):Un fs ex H (upd H x o) h h':=by
 have hx:∀b,H b=none->b≠x:=fun b n z=>by subst z;rw[n] at mu;exact mu
 have hb:∀b,H b=none->b≠e:=fun b n z=>by
  subst z
  rcases he with r|r
  ·exact hx b n r
  ·rw[n] at r;cases r
 have hm:∀b u,H b=some u->¬MD (some u)->b≠x:=fun b u q nm z=>by subst z;rw[q] at mu;exact nm mu
 refine⟨fun b u q n _ _=>k b u (hb b n) q,fun b u q n _ _=>⟨u.slots,k b u (hb b n) q⟩,fun b u q n _=>by rw[ay (hx b n)];exact n,fun b u q _=>?_,
  fun b xs q=>by rw[ay (hm b _ q fun z=>z)];exact q,fun b u xs q=>by rw[ay (hm b _ q fun z=>z)];exact q,fun b ps q=>⟨#[],by rw[ay (hm b _ q fun z=>z),q];simp⟩⟩
 by_cases hbe:b=e
 ·subst hbe;exact heo
 ·exact⟨u,k b u hbe q⟩
end
noncomputable def Oj (h:Heap)(H:Hp):List Addr:=(List.range h.objs.size).filter fun a=>(H a).isSome
noncomputable def vK (h:Heap)(H:Hp):Heap:=PySem.W.hideAll h (Oj h H)
theorem BJ (h:Heap)(H:Hp):(vK h H).objs.size=h.objs.size:=PySem.W.hideAll_size _ _
theorem BO {h:Heap}{H:Hp}{b:Addr}{o:Obj}(e:h.get? b=some o)(n:H b=none):(vK h H).get? b=some o:=
 PySem.W.hideAll_get _ e fun hm=>by
  have q:(H b).isSome=true:=(List.mem_filter.mp hm).2
  rw[n] at q;simp at q
theorem ES {h:Heap}{H:Hp}{b:Addr}{o:Obj}(e:(vK h H).get? b=some o):h.get? b=some o/\H b=none:=by
 have e':h.get? b=some o:=PySem.W.of_hideAll (Oj h H) e
 refine⟨e',?_⟩
 cases q:H b with
 |none=>rfl
 |some x=>
  have hm:b∈Oj h H:=List.mem_filter.mpr ⟨List.mem_range.mpr (Heap.lt_size e'),by simp[q]⟩
  have z:(vK h H).get? b=none:=PySem.W.hideAll_none (Oj h H) hm
  rw[z] at e;cases e
noncomputable def nL (g h:Heap)(L:Addr):List (Addr×Obj):=(List.range h.objs.size).filterMap fun a=>if a=L\/(g.get? a).isSome=true then none else (h.get? a).map fun o=>(a,o)
theorem ld {g h:Heap}{L a:Addr}{o:Obj}(h1:a≠L)(h2:g.get? a=none)(h3:h.get? a=some o):(a,o)∈nL g h L:=
 List.mem_filterMap.mpr ⟨a,List.mem_range.mpr (Heap.lt_size h3),by simp[h1,h2,h3]⟩
theorem rh {g h:Heap}{L:Addr}{p:Addr×Obj}(hp:p∈nL g h L):p.1≠L/\g.get? p.1=none/\h.get? p.1=some p.2:=by
 obtain⟨b,_,e⟩:=List.mem_filterMap.mp hp
 split at e
 ·cases e
 ·rename_i hn
  cases q:h.get? b with
  |none=>rw[q] at e;simp at e
  |some u=>
   rw[q] at e
   simp only[Option.map_some,Option.some.injEq] at e
   subst e
   refine⟨fun z=>hn (.inl z),?_,q⟩
   show g.get? b=none
   cases r:g.get? b with
   |none=>rfl
   |some v=>exact (hn (.inr (by simp[r]))).elim
noncomputable def eW (g h:Heap)(L d:Addr):List (Addr×Obj):=(nL g h L).filter fun p=>decide (p.1≠d)
theorem CA {g h:Heap}{L:Addr}:News g L h (nL g h L):=fun p hp=>let ⟨a,b,c⟩:=rh hp;⟨c,a,b⟩
end L2
namespace L2
open PySem PySem.Spec PyProof.Rows
structure Mod (K:PySem.W.Frag)(mg:Str->Option Value)(base:Heap):Prop where
 kin:K.In base
 glob:base.Ns mainGlobals mg
 blt:∃mb,base.Ns builtinsNs mb/\∀x:Str,x ≠ "__name__"->mb x=bootBuiltins x
 nolimit:base.NoLimit
structure Cx where
 prog:Program
 w:World
 K:PySem.W.Frag
 mg:Str->Option Value
 base:Heap
 A:Around
 N:List Str
 s₀:Shared
 H₀:Hp
 env:Env
 outer:List Env
 stack:List Env
 ex:List Addr
 fn:Str->Bool
 calm:Bool
 pn:List (Addr×Obj)
 xe:Value->Shared->Prop
noncomputable def x4 (l:List Env):List Addr:=l.filterMap (·.frame)
noncomputable abbrev Cx.fs (X:Cx):List Addr:=x4 X.outer
noncomputable def L4 (sc:Scope)(x:Str):Prop:=sc.names.lookup x=some .local\/sc.names.lookup x=some .cell\/sc.names.lookup x=some .free
noncomputable def L1 (sc:Scope)(x:Str):Prop:=sc.names.lookup x=some .local\/sc.names.lookup x=some .cell
noncomputable def OG (env:Env)(h:Heap)(m:Str->Option Value)(x:Str)(u:Value):Prop:=
 (env.kindOf x=some .local/\m x=some u)\/((env.kindOf x=some .cell\/env.kindOf x=some .free)/\∃c,env.cells.lookup x=some c/\h.IsCell c (some u))
structure Cx.Ok (X:Cx):Prop where
 mod:Mod X.K X.mg X.base
 kind:X.env.scope.kind=.function
 glob:X.env.globals=mainGlobals
 blt:X.env.builtins=builtinsNs
 above:X.s₀.heap.objs.size≤X.env.locals
 inj:∀x y c,X.env.cells.lookup x=some c->X.env.cells.lookup y=some c->x=y
 has:∀x,(X.env.kindOf x=some .cell\/X.env.kindOf x=some .free)->∃c,X.env.cells.lookup x=some c
 cab:∀x c,X.fn x=true->X.env.cells.lookup x=some c->X.s₀.heap.objs.size≤c
 hd:X.calm=true->X.A.handled=none
 frames:X.A.frames=some X.stack
 stk:X.stack=X.outer\/(X.stack=X.env::X.outer/\X.env.frame=some X.env.locals)
 exf:∀b∈X.ex,b≠X.env.locals/\∀x c,X.env.cells.lookup x=some c->c≠b
 bs:∀b o,X.base.get? b=some o->X.s₀.heap.get? b=some o/\X.H₀ b=none
 bsz:X.base.objs.size≤X.s₀.heap.objs.size
 noex:∀b o,X.base.get? b=some o->b∉X.ex
 exfs:∀b∈X.ex,b∉X.fs
 funs:X.s₀.heap.FunFrames X.base X.outer
 frf:∀b∈X.fs,X.H₀ b=none
structure Inv (X:Cx)(pins:List (Addr×Obj))(σ:List (Option V))(H:Hp)(s:Shared):Prop where
 ok:X.Ok
 os:s.os=X.s₀.os
 bare:AllBare s.gens
 base:Un X.fs X.ex X.H₀ H X.s₀.heap s.heap
 loc:∃m,s.heap.Ns X.env.locals m/\∀(i:Nat) (x:Str) (v:V),X.N[i]?=some x->σ[i]?=some (some v)->L4 X.env.scope x->∃u,RelV v u/\OG X.env s.heap m x u
 cell:∀x c,X.env.cells.lookup x=some c->∃v,s.heap.IsCell c v
 free:H X.env.locals=none
 freeC:∀x c,X.env.cells.lookup x=some c->H c=none
 pin:∀p∈X.pn++pins,s.heap.get? p.1=some p.2/\H p.1=none/\p.1≠X.env.locals/\p.1∉X.fs/\∀v,p.2.data≠.cell v
 hok:HOk X.prog X.w H s.heap
 len:σ.length=X.N.length
section
variable {X:Cx}{pins:List (Addr×Obj)}{σ:List (Option V)}{H H':Hp}{s:Shared}{h':Heap}
theorem Cx.Ok.nofr (ok:X.Ok){b:Addr}{o:Obj}(e:X.base.get? b=some o):b∉X.fs:=fun hb=>by
 have:=(ok.funs.mem hb).1
 rw[e] at this;cases this
theorem Inv.bs (I:Inv X pins σ H s):∀b o,X.base.get? b=some o->s.heap.get? b=some o/\H b=none:=fun b o e=>
 ⟨I.base.keep b o (I.ok.bs b o e).1 (I.ok.bs b o e).2 (I.ok.nofr e) (I.ok.noex b o e),I.base.free b o (I.ok.bs b o e).1 (I.ok.bs b o e).2 (I.ok.noex b o e)⟩
theorem Inv.bk (I:Inv X pins σ H s):∀b o,X.base.get? b=some o->s.heap.get? b=some o:=fun b o e=>(I.bs b o e).1
theorem Inv.mod (I:Inv X pins σ H s):Mod X.K X.mg X.base:=I.ok.mod
theorem Inv.kIn (I:Inv X pins σ H s):X.K.In s.heap:=I.ok.mod.kin.keeps I.bk
theorem Inv.fr (I:Inv X pins σ H s):∃m,Fr X.base X.env.locals s.heap m:=
 let ⟨m,hn,_⟩:=I.loc
 ⟨m,hn,I.bk,Nat.le_trans I.ok.bsz I.ok.above⟩
theorem Inv.lt (I:Inv X pins σ H s):X.env.locals<s.heap.objs.size:=let ⟨_,hn,_⟩:=I.loc;hn.lt
theorem Inv.sz (I:Inv X pins σ H s):X.s₀.heap.objs.size≤s.heap.objs.size:=Nat.le_trans I.ok.above (Nat.le_of_lt I.lt)
theorem Inv.nofs (I:Inv X pins σ H s){a:Addr}(h:s.heap.objs.size≤a):a∉X.fs:=fun hb=>by
 obtain⟨_,o,ho,_⟩:=I.ok.funs.mem hb
 exact absurd (Nat.lt_of_lt_of_le (Heap.lt_size ho) (Nat.le_trans I.sz h)) (Nat.lt_irrefl _)
theorem Inv.cne (I:Inv X pins σ H s):∀x c,X.env.cells.lookup x=some c->c≠X.env.locals:=fun x c e z=>by
 obtain⟨v,o,ho,hd⟩:=I.cell x c e
 obtain⟨m,⟨o',es,ep,ho',hd',_⟩,_⟩:=I.loc
 rw[z,ho'] at ho;cases ho;rw[hd'] at hd;cases hd
theorem Inv.funs (I:Inv X pins σ H s):s.heap.FunFrames X.base X.outer:=by
 have all:∀(l:List Env),(∀b∈x4 l,b∈X.fs)->X.s₀.heap.FunFrames X.base l->s.heap.FunFrames X.base l:=by
  intro l
  induction l with
  |nil=>intro _ _;trivial
  |cons env r ih=>
   intro hs hl
   obtain⟨hk,⟨L,o,hf,hn,ho,hd⟩,hr⟩:=hl
   have hL:L∈X.fs:=hs L (by unfold x4;rw[List.filterMap_cons,hf];exact List.mem_cons_self)
   obtain⟨sl,e⟩:=I.base.slot L o ho (I.ok.frf L hL) hL fun z=>I.ok.exfs L z hL
   exact⟨hk,⟨L,_,hf,hn,e,hd⟩,ih (fun b hb=>hs b (by unfold x4;rw[List.filterMap_cons,hf];exact List.mem_cons_of_mem _ hb)) hr⟩
 exact all X.outer (fun _ hb=>hb) I.ok.funs
theorem Inv.stack (I:Inv X pins σ H s):s.heap.FunFrames X.base X.stack:=by
 rcases I.ok.stk with e|⟨e,hf⟩
 ·rw[e];exact I.funs
 ·rw[e]
  obtain⟨m,hn,_⟩:=I.loc
  refine .cons (by rw[I.ok.kind];decide) hf hn ?_ I.funs
  exact Heap.get?_none_of_le (Nat.le_trans I.ok.bsz I.ok.above)
theorem Inv.stkSub (I:Inv X pins σ H s):∀b∈x4 X.stack,b∈X.env.locals::X.fs:=fun b hb=>by
 rcases I.ok.stk with e|⟨e,hf⟩
 ·rw[e] at hb;exact List.mem_cons_of_mem _ hb
 ·rw[e] at hb
  unfold x4 at hb
  rw[List.filterMap_cons,hf] at hb
  exact hb
theorem Inv.stkFree (I:Inv X pins σ H s):∀b∈x4 X.stack,H b=none:=fun b hb=>by
 rcases List.mem_cons.mp (I.stkSub b hb) with e|hb
 ·rw[e];exact I.free
 ·obtain⟨_,o,ho,_⟩:=I.ok.funs.mem hb
  exact I.base.free b o ho (I.ok.frf b hb) fun z=>I.ok.exfs b z hb
theorem Inv.step {g':Array GenState}{t':Nat}{d':Drawn}{ch:List Addr}(I:Inv X pins σ H s)
  (hch:∀b∈ch,(b∈X.ex\/X.s₀.heap.objs.size≤b)/\b≠X.env.locals/\(∀x c,X.env.cells.lookup x=some c->c≠b)/\∀p∈X.pn++pins,p.1≠b)
  (keep:∀b o,b≠X.env.locals->b∉X.fs->b∉ch->s.heap.get? b=some o->H b=none->h'.get? b=some o)
  (slot:∀b o,b≠X.env.locals->b∈X.fs->b∉ch->s.heap.get? b=some o->H b=none->∃sl,h'.get? b=some { o with slots:=sl }) (free:∀b o,b∉ch->s.heap.get? b=some o->H b=none->H' b=none)
  (there:∀b o,b∉ch->s.heap.get? b=some o->∃o',h'.get? b=some o')
  (tups:∀b xs,H b=some (.tup xs)->H' b=some (.tup xs)) (frzs:∀b o u,H b=some (.frz o u)->H' b=some (.frz o u)) (tbls:∀b ps,H b=some (.tbl ps)->∃more,H' b=some (.tbl (ps++more)))
  (ns:∀m,s.heap.Ns X.env.locals m->h'.Ns X.env.locals m) (hok:HOk X.prog X.w H' h') (hg:AllBare g') :
  Inv X pins σ H' { s with heap:=h',gens:=g',drawn:=d',toks:=t' }:=by
 have neL:∀b o,X.s₀.heap.get? b=some o->b≠X.env.locals:=fun b o e=>Nat.ne_of_lt (Nat.lt_of_lt_of_le (Heap.lt_size e) I.ok.above)
 have neC:∀b o,X.s₀.heap.get? b=some o->b∉X.ex->b∉ch:=fun b o e hx hb=>by
  rcases (hch b hb).1 with z|z
  ·exact hx z
  ·exact absurd (Nat.lt_of_lt_of_le (Heap.lt_size e) z) (Nat.lt_irrefl _)
 have cellK:∀x c,X.env.cells.lookup x=some c->∀v,s.heap.IsCell c v->h'.IsCell c v:=fun x c e v ⟨o,ho,hd⟩=>by
  have nch:c∉ch:=fun z=>(hch c z).2.2.1 x c e rfl
  by_cases hc:c∈X.fs
  ·obtain⟨sl,q⟩:=slot c o (I.cne x c e) hc nch ho (I.freeC x c e)
   exact⟨_,q,hd⟩
  ·exact⟨o,keep c o (I.cne x c e) hc nch ho (I.freeC x c e),hd⟩
 refine⟨I.ok,I.os,hg,⟨fun b o e n hb hx=>?_,fun b o e n hb hx=>?_,fun b o e n hx=>?_,fun b o e hx=>?_,fun b xs e=>tups b xs (I.base.tups b xs e),fun b o xs e=>frzs b o xs (I.base.frzs b o xs e),fun b ps e=>?_⟩,?_,fun x c e=>?_,?_,fun x c e=>?_,fun p hp=>?_,hok,I.len⟩
 ·exact keep b o (neL b o e) hb (neC b o e hx) (I.base.keep b o e n hb hx) (I.base.free b o e n hx)
 ·obtain⟨sl,e1⟩:=I.base.slot b o e n hb hx
  obtain⟨sl',e2⟩:=slot b _ (neL b o e) hb (neC b o e hx) e1 (I.base.free b o e n hx)
  exact⟨sl',e2⟩
 ·obtain⟨o',e1⟩:=I.base.there b o e hx
  exact free b o' (neC b o e hx) e1 (I.base.free b o e n hx)
 ·obtain⟨o',e1⟩:=I.base.there b o e hx
  exact there b o' (neC b o e hx) e1
 ·obtain⟨m1,e1⟩:=I.base.tbls b ps e
  obtain⟨m2,e2⟩:=tbls b _ e1
  exact⟨m1++m2,by rw[e2,Array.append_assoc]⟩
 ·obtain⟨m,hn,hl⟩:=I.loc
  refine⟨m,ns m hn,fun i x v e1 e2 e3=>?_⟩
  obtain⟨u,r,l⟩:=hl i x v e1 e2 e3
  refine⟨u,r,?_⟩
  rcases l with l|⟨k,c,e,z⟩
  ·exact .inl l
  ·exact .inr ⟨k,c,e,cellK x c e _ z⟩
 ·obtain⟨v,z⟩:=I.cell x c e
  exact⟨v,cellK x c e v z⟩
 ·obtain⟨m,⟨o,_,_,ho,_⟩,_⟩:=I.loc
  exact free _ o (fun z=>(hch _ z).2.1 rfl) ho I.free
 ·obtain⟨v,o,ho,hd⟩:=I.cell x c e
  exact free c o (fun z=>(hch c z).2.2.1 x c e rfl) ho (I.freeC x c e)
 ·obtain⟨e,n,ne,nf,d⟩:=I.pin p hp
  have nch:p.1∉ch:=fun z=>(hch p.1 z).2.2.2 p hp rfl
  exact⟨keep p.1 p.2 ne nf nch e n,free p.1 p.2 nch e n,ne,nf,d⟩
theorem Inv.un {t':Nat}(I:Inv X pins σ H s)(u:Un X.fs [] H H' s.heap h')(hok:HOk X.prog X.w H' h'):Inv X pins σ H' { s with heap:=h',toks:=t' }:=by
 obtain⟨m,⟨o,es,ep,ho,r⟩,_⟩:=id I.loc
 obtain⟨sl,hL⟩:=u.any ho I.free (by simp)
 exact I.step (g':=s.gens) (d':=s.drawn) (ch:=[]) (fun _ z=>nomatch z) (fun b o _ hb _ e n=>u.keep b o e n hb (by simp)) (fun b o _ hb _ e n=>u.slot b o e n hb (by simp)) (fun b o _ e n=>u.free b o e n (by simp)) (fun b o _ e=>u.there b o e (by simp)) u.tups u.frzs u.tbls (fun m' hm=>by
  obtain⟨o',es',ep',ho',r'⟩:=hm
  rw[ho] at ho';cases ho'
  exact⟨_,es',ep',hL,r'⟩) hok I.bare
theorem Inv.call {g':Array GenState}{t':Nat}{d':Drawn}{ch:List Addr}(I:Inv X pins σ H s)(u:Un (x4 X.stack) ch H H' s.heap h')(hok:HOk X.prog X.w H' h')(hg:AllBare g')
  (hch:∀b∈ch,(b∈X.ex\/X.s₀.heap.objs.size≤b)/\b≠X.env.locals/\(∀x c,X.env.cells.lookup x=some c->c≠b)/\∀p∈X.pn++pins,p.1≠b) :
  Inv X pins σ H' { s with heap:=h',gens:=g',drawn:=d',toks:=t' }:=by
 obtain⟨m,⟨o,es,ep,ho,r⟩,_⟩:=id I.loc
 obtain⟨sl,hL⟩:=u.any ho I.free fun z=>(hch _ z).2.1 rfl
 exact I.step (ch:=ch) hch (fun b o hL hb hc e n=>u.keep b o e n (fun z=>(List.mem_cons.mp (I.stkSub b z)).elim hL hb) hc) (fun b o _ _ hc e n=>u.any e n hc) (fun b o hc e n=>u.free b o e n hc) (fun b o hc e=>u.there b o e hc) u.tups u.frzs u.tbls (fun m' hm=>by
  obtain⟨o',es',ep',ho',r'⟩:=hm
  rw[ho] at ho';cases ho'
  exact⟨_,es',ep',hL,r'⟩) hok hg
theorem Inv.turned {t':Nat}{it:Addr}(I:Inv X pins σ H s)(k:∀b o,b≠it->s.heap.get? b=some o->h'.get? b=some o)(hn:H it=none)(hL:it≠X.env.locals)
  (h1:it∈X.ex\/X.s₀.heap.objs.size≤it) (h2:∀x c,X.env.cells.lookup x=some c->c≠it) (h3:∀p∈X.pn++pins,p.1≠it):Inv X pins σ H { s with heap:=h',toks:=t' }:=by
 have nit:∀b u,H b=some u->b≠it:=fun b u e z=>by rw[z,hn] at e;cases e
 refine I.step (g':=s.gens) (d':=s.drawn) (ch:=[it]) (fun b hb=>?_) (fun b o _ _ hc e _=>k b o (fun z=>hc (by simp[z])) e) (fun b o _ _ hc e _=>⟨o.slots,k b o (fun z=>hc (by simp[z])) e⟩) (fun _ _ _ _ n=>n)
  (fun b o hc e=>⟨o,k b o (fun z=>hc (by simp[z])) e⟩) (fun _ _ e=>e) (fun _ _ _ e=>e) (fun b ps e=>⟨#[],by rw[e];simp⟩) (fun m hm=>?_) (fun b u e=>?_) I.bare
 ·have e:b=it:=by simpa using hb
  subst e
  exact⟨h1,hL,h2,h3⟩
 ·obtain⟨o,es,ep,ho,r⟩:=hm
  exact⟨o,es,ep,k _ o (Ne.symm hL) ho,r⟩
 ·refine (I.hok b u e).stay (fun c v hc q=>k c v ?_ q) (fun _ q=>q) fun _ _ q=>q
  rcases hc with z|z
  ·rw[z];exact nit b u e
  ·exact nit c _ z
theorem Inv.tok (I:Inv X pins σ H s)(t:Nat):Inv X pins σ H { s with toks:=t }:=I.un (h':=s.heap) (t':=t) Un.refl I.hok
theorem Inv.kept {t':Nat}(I:Inv X pins σ H s)(k:∀b u,s.heap.get? b=some u->h'.get? b=some u):Inv X pins σ H { s with heap:=h',toks:=t' }:=I.un (Un.kept k) (I.hok.kept k)
theorem Inv.laid {a:Addr}{o:HO}{t':Nat}(I:Inv X pins σ H s)(k:∀b u,s.heap.get? b=some u->h'.get? b=some u)(hp:s.heap.objs.size≤a)(new:ObjOk X.prog X.w (upd H a o) h' a o) :
  Inv X pins σ (upd H a o) { s with heap:=h',toks:=t' }:=I.un (Un.laid k hp (I.hok.fresh hp)) (I.hok.laid k hp new)
theorem Inv.write {x e:Addr}{o:HO}{t':Nat}(I:Inv X pins σ H s)(mu:MD (H x))(he:e=x\/H e=some (.own x))(k:∀b u,b≠e->s.heap.get? b=some u->h'.get? b=some u)(heo:∃u,h'.get? e=some u)
  (new:ObjOk X.prog X.w (upd H x o) h' x o):Inv X pins σ (upd H x o) { s with heap:=h',toks:=t' }:=I.un (Un.write mu he k heo) (I.hok.write mu he k heo new)
theorem Inv.weak {σ':List (Option V)}(I:Inv X pins σ H s)(hl:σ'.length=σ.length)(w:∀(i:Nat) v,σ'[i]?=some (some v)->σ[i]?=some (some v)):Inv X pins σ' H s:=
 ⟨I.ok,I.os,I.bare,I.base,let ⟨m,hn,hl'⟩:=I.loc;⟨m,hn,fun i x v e1 e2 e3=>hl' i x v e1 (w i v e2) e3⟩,I.cell,I.free,I.freeC,I.pin,I.hok,hl.trans I.len⟩
theorem Inv.pins_of {pins':List (Addr×Obj)}(I:Inv X pins σ H s)(h:∀p∈pins',s.heap.get? p.1=some p.2/\H p.1=none/\p.1≠X.env.locals/\p.1∉X.fs/\∀v,p.2.data≠.cell v):Inv X pins' σ H s:=
 ⟨I.ok,I.os,I.bare,I.base,I.loc,I.cell,I.free,I.freeC,fun p hp=>(List.mem_append.mp hp).elim (fun z=>I.pin p (List.mem_append_left _ z)) (h p),I.hok,I.len⟩
theorem xl {N:List Str}(hN:N.Nodup){i j:Nat}{x:Str}(a:N[i]?=some x)(b:N[j]?=some x):i=j:=by
 obtain⟨h1,e1⟩:=List.getElem?_eq_some_iff.mp a
 obtain⟨h2,e2⟩:=List.getElem?_eq_some_iff.mp b
 exact (List.getElem_inj hN).mp (e1.trans e2.symm)
theorem tI {M:Model}{A:Around}{E:Value->Shared->Prop}{i:Nat}{x:Str}{v:V}{u:Value}{Q:Unit->Shared->Prop}(I:Inv X pins σ H s)(hN:X.N.Nodup)(hi:X.N[i]?=some x)(hx:L1 X.env.scope x)(r:RelV v u)
  (h:∀s',Inv X pins (σ.set i (some v)) H s'->(∃a,Heap.SameBut a s.heap s'.heap/\(a=X.env.locals\/X.env.cells.lookup x=some a))->Q () s') (hf:X.fn x=true\/X.env.scope.names.lookup x=some .local:=by first|exact .inl rfl|exact .inr rfl|assumption):wpAny M A (storeName X.env x u) Q E s:=by
 obtain⟨m,hn,hl⟩:=id I.loc
 have hcls:(X.env.scope.kind==.class || (X.env.scope.kind==.module&&X.env.locals != X.env.globals))=false:=by rw[I.ok.kind];rfl
 have hiσ:i<σ.length:=by rw[I.len];exact (List.getElem?_eq_some_iff.mp hi).1
 have cne:=I.cne
 have tracked:∀{a:Addr} {h':Heap},(∃o,s.heap.get? a=some o/\H a=none)->Heap.SameBut a s.heap h'->HOk X.prog X.w H h':=fun {a h'} ha hs b ob e=>by
  obtain⟨_,_,hfree⟩:=ha
  refine (I.hok b ob e).stay (fun c w' hc q=>(hs.2 c ?_).trans q) (fun _ q=>q) fun _ _ q=>q
  rintro rfl
  rcases hc with rfl|hc
  ·rw[hfree] at e;cases e
  ·rw[hfree] at hc;cases hc
 rcases hx with hk|hk
 ·refine wpAny_storeName_local hk hn (fun h' hn' hs=>?_) hcls
  obtain⟨oL,_,_,hoL,_⟩:=id hn
  refine h _ ⟨I.ok,I.os,I.bare,⟨fun b o e n hb hx=>?_,fun b o e n hb hx=>?_,I.base.free,fun b o e hx=>?_,I.base.tups,I.base.frzs,I.base.tbls⟩,⟨_,hn',fun j y v' e1 e2 e3=>?_⟩,fun y c e=>?_,I.free,I.freeC,fun p hp=>?_,tracked ⟨oL,hoL,I.free⟩ hs,by simpa using I.len⟩ ⟨_,hs,.inl rfl⟩
  ·exact (hs.2 b (Nat.ne_of_lt (Nat.lt_of_lt_of_le (Heap.lt_size e) I.ok.above))).trans (I.base.keep b o e n hb hx)
  ·obtain⟨sl,e1⟩:=I.base.slot b o e n hb hx
   exact⟨sl,(hs.2 b (Nat.ne_of_lt (Nat.lt_of_lt_of_le (Heap.lt_size e) I.ok.above))).trans e1⟩
  ·obtain⟨o',e1⟩:=I.base.there b o e hx
   exact⟨o',(hs.2 b (Nat.ne_of_lt (Nat.lt_of_lt_of_le (Heap.lt_size e) I.ok.above))).trans e1⟩
  ·by_cases hj:j=i
   ·subst hj
    rw[hi] at e1;cases e1
    rw[List.getElem?_set_self hiσ] at e2
    cases e2
    exact⟨u,r,.inl ⟨hk,by simp⟩⟩
   ·rw[List.getElem?_set_ne (Ne.symm hj)] at e2
    obtain⟨u',r',q⟩:=hl j y v' e1 e2 e3
    refine⟨u',r',?_⟩
    rcases q with ⟨k,e⟩|⟨k,c,e,z⟩
    ·refine .inl ⟨k,?_⟩
     have:y≠x:=fun e=>hj (xl hN e1 (e▸hi))
     simp[this,e]
    ·exact .inr ⟨k,c,e,z.sameBut hs (cne y c e)⟩
  ·obtain⟨w',z⟩:=I.cell y c e
   exact⟨w',z.sameBut hs (cne y c e)⟩
  ·obtain⟨e,n,ne,nf,d⟩:=I.pin p hp
   exact⟨(hs.2 p.1 ne).trans e,n,ne,nf,d⟩
 ·have hfn:X.fn x=true:=by
   rcases hf with z|z
   ·exact z
   ·rw[z] at hk;cases hk
  obtain⟨c,hc⟩:=I.ok.has x (.inl hk)
  obtain⟨w',z⟩:=I.cell x c hc
  refine wpAny_storeName_cell I.ok.kind hk hc z (fun h' hc' hs=>?_)
  obtain⟨oc,hoc,hocd⟩:=id z
  refine h { s with heap:=h' } ⟨I.ok,I.os,I.bare,⟨fun b o e n hb hx=>?_,fun b o e n hb hx=>?_,I.base.free,fun b o e hx=>?_,I.base.tups,I.base.frzs,I.base.tbls⟩,⟨m,hn.sameBut hs (Ne.symm (cne x c hc)),fun j y v' e1 e2 e3=>?_⟩,fun y c' e=>?_,I.free,I.freeC,fun p hp=>?_,tracked ⟨oc,hoc,I.freeC x c hc⟩ hs,by simpa using I.len⟩ ⟨c,hs,.inr hc⟩
  ·exact (hs.2 b (Nat.ne_of_lt (Nat.lt_of_lt_of_le (Heap.lt_size e) (I.ok.cab x c hfn hc)))).trans (I.base.keep b o e n hb hx)
  ·obtain⟨sl,e1⟩:=I.base.slot b o e n hb hx
   exact⟨sl,(hs.2 b (Nat.ne_of_lt (Nat.lt_of_lt_of_le (Heap.lt_size e) (I.ok.cab x c hfn hc)))).trans e1⟩
  ·obtain⟨o',e1⟩:=I.base.there b o e hx
   exact⟨o',(hs.2 b (Nat.ne_of_lt (Nat.lt_of_lt_of_le (Heap.lt_size e) (I.ok.cab x c hfn hc)))).trans e1⟩
  ·by_cases hj:j=i
   ·subst hj
    rw[hi] at e1;cases e1
    rw[List.getElem?_set_self hiσ] at e2
    cases e2
    exact⟨u,r,.inr ⟨.inl hk,c,hc,hc'⟩⟩
   ·rw[List.getElem?_set_ne (Ne.symm hj)] at e2
    obtain⟨u',r',q⟩:=hl j y v' e1 e2 e3
    refine⟨u',r',?_⟩
    rcases q with q|⟨k,c',e,z'⟩
    ·exact .inl q
    ·refine .inr ⟨k,c',e,z'.sameBut hs ?_⟩
     rintro rfl
     exact hj (xl hN e1 (I.ok.inj _ _ _ e hc▸hi))
  ·by_cases hcc:c'=c
   ·subst hcc;exact⟨_,hc'⟩
   ·obtain⟨w2,z2⟩:=I.cell y c' e
    exact⟨w2,z2.sameBut hs hcc⟩
  ·obtain⟨e,n,ne,nf,d⟩:=I.pin p hp
   refine⟨(hs.2 p.1 ?_).trans e,n,ne,nf,d⟩
   intro q
   rw[q,hoc] at e
   have q':oc=p.2:=Option.some.inj e
   exact d w' (by rw[←q'];exact hocd)
theorem mk {M:Model}{A:Around}{E:Value->Shared->Prop}{i:Nat}{x:Str}{v:V}{u:Value}{Q:Unit->Shared->Prop}(I:Inv X pins σ H s)(hN:X.N.Nodup)(hi:X.N[i]?=some x)(hx:L1 X.env.scope x)(r:RelV v u)
  (h:∀s',Inv X pins (σ.set i (some v)) H s'->Q () s') (hf:X.fn x=true\/X.env.scope.names.lookup x=some .local:=by first|exact .inl rfl|exact .inr rfl|assumption):wpAny M A (storeName X.env x u) Q E s:=
 tI I hN hi hx r (fun s' I' _=>h s' I') hf
theorem Inv.call' {s':Shared}{ch:List Addr}(I:Inv X pins σ H s)(ho:s'.os=s.os)(u:Un (x4 X.stack) ch H H' s.heap s'.heap)(hok:HOk X.prog X.w H' s'.heap)(hg:AllBare s'.gens)
  (hch:∀b∈ch,(b∈X.ex\/X.s₀.heap.objs.size≤b)/\b≠X.env.locals/\(∀x c,X.env.cells.lookup x=some c->c≠b)/\∀p∈X.pn++pins,p.1≠b):Inv X pins σ H' s':=by
 obtain⟨h',g',d',t',o'⟩:=s'
 have e:o'=s.os:=ho
 subst e
 exact I.call (g':=g') (t':=t') (d':=d') u hok hg hch
end
noncomputable abbrev XK:=Value->Option Addr->Hp->Prop
noncomputable abbrev St:=List (Option V)
noncomputable abbrev VK:=V->Hp->Prop
noncomputable abbrev TE:=St->Hp->VK->Prop
noncomputable abbrev TT:=St->Hp->(Bool->Hp->Prop)->Prop
noncomputable abbrev TA:=St->Hp->(List V->Hp->Prop)->Prop
structure Ends where
 nx:St->Hp->Prop
 rt:VK
 bk:St->Hp->Prop:=fun _ _=>False
 ct:St->Hp->Prop:=fun _ _=>False
noncomputable abbrev TS:=Ends->St->Hp->Prop
noncomputable def EP (X:Cx)(pins:List (Addr×Obj))(σ:St)(Q:VK)(u:Value)(s':Shared):Prop:=∃v H',Inv X pins σ H' s'/\RelV v u/\Q v H'
noncomputable def TP (X:Cx)(pins:List (Addr×Obj))(σ:St)(Q:Bool->Hp->Prop)(b:Bool)(s':Shared):Prop:=∃H',Inv X pins σ H' s'/\Q b H'
noncomputable def AP (X:Cx)(pins:List (Addr×Obj))(σ:St)(Q:List V->Hp->Prop)(us:List Value)(s':Shared):Prop:=∃vs H',Inv X pins σ H' s'/\Vals vs us/\Q vs H'
noncomputable def SP (X:Cx)(pins:List (Addr×Obj))(D:Ends)(f:Flow)(s':Shared):Prop:=
 match f with
 |.next=>∃σ' H',Inv X pins σ' H' s'/\D.nx σ' H'
 |.brk=>∃σ' H',Inv X pins σ' H' s'/\D.bk σ' H'
 |.cont=>∃σ' H',Inv X pins σ' H' s'/\D.ct σ' H'
 |.ret u=>∃v σ' H',Inv X pins σ' H' s'/\RelV v u/\D.rt v H'
noncomputable def PE (X:Cx)(e:Expr)(t:TE):Prop:=
 ∀(pins:List (Addr×Obj)) (s:Shared) (σ:St) (H:Hp) (Q:VK),Inv X pins σ H s->t σ H Q->wpAny (model X.prog X.w) X.A (eval e X.env) (EP X pins σ Q) X.xe s
noncomputable def PT (X:Cx)(e:Expr)(t:TT):Prop:=
 ∀(pins:List (Addr×Obj)) (s:Shared) (σ:St) (H:Hp) (Q:Bool->Hp->Prop),Inv X pins σ H s->t σ H Q->wpAny (model X.prog X.w) X.A (isTrue e X.env (eval e X.env)) (TP X pins σ Q) X.xe s
noncomputable def PW (X:Cx)(e:Expr)(t:TT):Prop:=
 ∀(whole:Sem Value) (pins:List (Addr×Obj)) (s:Shared) (σ:St) (H:Hp) (Q:Bool->Hp->Prop),Inv X pins σ H s->t σ H Q->wpAny (model X.prog X.w) X.A (isTrue e X.env whole) (TP X pins σ Q) X.xe s
theorem PW.pt {X:Cx}{e:Expr}{t:TT}(h:PW X e t):PT X e t:=h _
noncomputable def PA (X:Cx)(es:List Expr)(t:TA):Prop:=
 ∀(pos:Pos) (pins:List (Addr×Obj)) (s:Shared) (σ:St) (H:Hp) (Q:List V->Hp->Prop),Inv X pins σ H s->t σ H Q->wpAny (model X.prog X.w) X.A (spliced (backTo pos (starEach es X.env))) (AP X pins σ Q) X.xe s
noncomputable def PS (X:Cx)(st:Stmt)(t:TS):Prop:=
 ∀(pins:List (Addr×Obj)) (s:Shared) (σ:St) (H:Hp) (D:Ends),Inv X pins σ H s->t D σ H->wpAny (model X.prog X.w) X.A (exec st X.env) (SP X pins D) X.xe s
noncomputable def PSs (X:Cx)(st:List Stmt)(t:TS):Prop:=
 ∀(pins:List (Addr×Obj)) (s:Shared) (σ:St) (H:Hp) (D:Ends),Inv X pins σ H s->t D σ H->wpAny (model X.prog X.w) X.A (execs st X.env) (SP X pins D) X.xe s
theorem dN {α:Type}{t:Sem α}{Q Q':α->Shared->Prop}{M:Model}{A:Around}{E:Value->Shared->Prop}{s:Shared}(h:wpAny M A t Q E s)(hQ:∀a s,Q a s->Q' a s):wpAny M A t Q' E s:=wpAny_mono h hQ fun _ _ x=>x
end L2
namespace L2
open PySem PySem.Spec PyProof.Rows
section
variable {X:Cx}
noncomputable def cL (i:Nat):TE:=fun σ H Q=>∃v,σ[i]?=some (some v)/\Q v H
noncomputable def tC (v:V):TE:=fun _ H Q=>Q v H
theorem CB {i:Nat}{x:Str}{pos:Pos}(hN:X.N[i]?=some x)(hv:L4 X.env.scope x)(hd:(x==("__debug__" : Str))=false:=by decide)(hcd:(x==("__classdict__" : Str))=false:=by decide):PE X (.Name x pos) (cL i):=by
 intro pins s σ H Q I h
 obtain⟨v,e,h⟩:=h
 obtain⟨m,hn,hl⟩:=I.loc
 obtain⟨u,r,l⟩:=hl i x v hN e hv
 have fin:EP X pins σ Q u s:=⟨v,H,I,r,h⟩
 rcases l with ⟨hk,hm⟩|⟨hk,c,hc,hcell⟩
 ·exact wpAny_Name (wpAny_loadName_local I.ok.kind hk hn hm fin) hd
 ·rcases hk with hk|hk
  ·exact wpAny_Name (wpAny_loadName_cell I.ok.kind hk hc hcell fin) hd
  ·exact wpAny_Name (wpAny_loadName_free I.ok.kind hk hc hcell fin hcd) hd
theorem mh {i j pos}:PE X (.Constant (.int i) j pos) (tC (.int i)):=fun _ _ _ H _ I h=>wpAny_Constant_int ⟨.int i,H,I.tok _,⟨_,rfl⟩,h⟩
theorem NU {b j pos}:PE X (.Constant (.bool b) j pos) (tC (.bl b)):=fun _ _ _ H _ I h=>Constant_bool ⟨.bl b,H,I,rfl,h⟩
theorem Kx {j pos}:PE X (.Constant .none j pos) (tC .non):=fun _ _ _ H _ I h=>Constant_none ⟨.non,H,I,rfl,h⟩
theorem LK {x j pos}:PE X (.Constant (.str x) j pos) (tC (.str x)):=fun _ _ _ H _ I h=>Calls.Constant_str ⟨.str x,H,I.tok _,⟨_,rfl⟩,h⟩
noncomputable def Gl (X:Cx)(x:Str):Prop:=X.env.kindOf x=some .globalImplicit
theorem zL {E:Value->Shared->Prop}{pins:List (Addr×Obj)}{s:Shared}{σ:St}{H:Hp}{x:Str}{u:Value}{pos:Pos}{Q:Value->Shared->Prop}(I:Inv X pins σ H s)(hg:Gl X x)(hm:X.mg x=some u)(h:Q u s)
  (hd:(x==("__debug__" : Str))=false:=by decide):wpAny (model X.prog X.w) X.A (eval (.Name x pos) X.env) Q E s:=
 Calls.Name_function_global I.ok.kind hg (Calls.loadGlobal_global (by rw[I.ok.glob];exact I.mod.glob.keeps I.bk) hm h) hd
theorem qk {E:Value->Shared->Prop}{pins:List (Addr×Obj)}{s:Shared}{σ:St}{H:Hp}{x:Str}{u:Value}{pos:Pos}{Q:Value->Shared->Prop}(I:Inv X pins σ H s)(hg:Gl X x)(hm:X.mg x=none)(hv:bootBuiltins x=some u)(h:Q u s)
  (hn:x ≠ "__name__":=by decide) (hd:(x==("__debug__" : Str))=false:=by decide):wpAny (model X.prog X.w) X.A (eval (.Name x pos) X.env) Q E s:=by
 obtain⟨mb,h1,h2⟩:=I.mod.blt
 exact Calls.Name_function_global I.ok.kind hg (Calls.loadGlobal_builtin (by rw[I.ok.glob];exact I.mod.glob.keeps I.bk) hm (by rw[I.ok.blt];exact h1.keeps I.bk) ((h2 x hn).trans hv) h) hd
theorem nJ {x:Str}{v:V}{u:Value}{pos:Pos}(hg:Gl X x)(hm:X.mg x=some u)(r:RelV v u)(hd:(x==("__debug__" : Str))=false:=by decide):PE X (.Name x pos) (tC v):=
 fun _ _ _ H _ I h=>zL I hg hm ⟨v,H,I,r,h⟩ hd
theorem Fw {x:Str}{v:V}{u:Value}{pos:Pos}(hg:Gl X x)(hm:X.mg x=none)(hv:bootBuiltins x=some u)(r:RelV v u)(hn:x ≠ "__name__":=by decide)(hd:(x==("__debug__" : Str))=false:=by decide):PE X (.Name x pos) (tC v):=
 fun _ _ _ H _ I h=>qk I hg hm hv ⟨v,H,I,r,h⟩ hn hd
variable {a b:Expr}{ta tb:TE}{pos:Pos}
noncomputable def PC (X:Cx)(op:CmpOp)(a b:Expr)(t:TE):Prop:=
 ∀(pins:List (Addr×Obj)) (s:Shared) (σ:St) (H:Hp) (Q:VK),Inv X pins σ H s->t σ H Q →
  wpAny (model X.prog X.w) X.A (eval a X.env) (fun v s₁=>wpAny (model X.prog X.w) X.A (eval b X.env) (fun u s₂=>wpAny (model X.prog X.w) X.A (compareOp op v u) (EP X pins σ Q) X.xe s₂) X.xe s₁) X.xe s
theorem B1 (b:Expr){op:CmpOp}(h:op≠.In)(h2:op≠.NotIn):behindInMarks op b=false:=by
 have e1:(op==CmpOp.In)=false:=by cases op<;>first|rfl|exact absurd rfl h
 have e2:(op==CmpOp.NotIn)=false:=by cases op<;>first|rfl|exact absurd rfl h2
 cases b<;>simp[behindInMarks,e1,e2]
noncomputable def tB (t:TE):TT:=fun σ H Q=>t σ H fun x H1=>∃c,x=.bl c/\Q c H1
theorem Lc {op:CmpOp}{t:TE}(h:PC X op a b t)(h1:behindInMarks op b=false:=by first|exact B1 _ (by decide) (by decide)|rfl):PE X (.Compare a [op] [b] pos) t:=fun pins s σ H Q I hw=>wpAny_Compare1 (h pins s σ H Q I hw) h1
theorem K6 {e:Expr}{t:TE}(h:PE X e t)(he:∀whole,isTrue e X.env whole=(do let v ←whole;standAt e.pos;holding [v] (truthy v)):=by intro _;rfl):PT X e (tB t):=by
 intro pins s σ H Q I hw
 refine isTrue_plain (dN (h pins s σ H _ I hw) fun v s1 ⟨x,H1,I1,r1,q1⟩=>?_) (he _)
 obtain⟨d,rfl,q⟩:=q1
 cases r1
 exact wpAny_truthy_bool ⟨H1,I1,q⟩
variable {tA tB':TT}{eW:List Expr}
noncomputable def g9 (t u:TT):TT:=fun σ H Q=>t σ H fun c H1=>if c=true then u σ H1 Q else Q false H1
noncomputable def oG (t u:TT):TT:=fun σ H Q=>t σ H fun c H1=>if c=true then Q true H1 else u σ H1 Q
noncomputable def il (t:TT):TT:=fun σ H Q=>t σ H fun c H1=>Q (!c) H1
theorem FN (ha:PT X a tA):PW X (.BoolOp .And [a] pos) tA:=by
 intro wh pins s σ H Q I h
 refine isTrue_and (dN (ha pins s σ H Q I h) fun c s1 e=>?_)
 cases c with
 |true=>exact isTrue_and_nil e
 |false=>exact e
theorem Ji (ha:PT X a tA):PW X (.BoolOp .Or [a] pos) tA:=by
 intro wh pins s σ H Q I h
 refine isTrue_or (dN (ha pins s σ H Q I h) fun c s1 e=>?_)
 cases c with
 |false=>exact isTrue_or_nil e
 |true=>exact e
theorem Jm (ha:PT X a tA)(hb:PW X (.BoolOp .And (b::eW) pos) tB'):PW X (.BoolOp .And (a::b::eW) pos) (g9 tA tB'):=by
 intro wh pins s σ H Q I h
 refine isTrue_and (dN (ha pins s σ H _ I h) fun c s1 ⟨H1,I1,q1⟩=>?_)
 cases c with
 |true=>exact hb wh pins s1 σ H1 Q I1 q1
 |false=>exact⟨H1,I1,q1⟩
theorem MA (ha:PT X a tA)(hb:PW X (.BoolOp .Or (b::eW) pos) tB'):PW X (.BoolOp .Or (a::b::eW) pos) (oG tA tB'):=by
 intro wh pins s σ H Q I h
 refine isTrue_or (dN (ha pins s σ H _ I h) fun c s1 ⟨H1,I1,q1⟩=>?_)
 cases c with
 |true=>exact⟨H1,I1,q1⟩
 |false=>exact hb wh pins s1 σ H1 Q I1 q1
theorem Jy (ha:PT X a tA):PT X (.UnaryOp .Not a pos) (il tA):=by
 intro pins s σ H Q I h
 exact isTrue_not (ha pins s σ H (fun c H1=>Q (!c) H1) I h)
noncomputable def dw (ta tb:TE):TE:=fun σ H Q=>ta σ H fun x H1=>∃c,x=.bl c/\if c=true then tb σ H1 Q else Q (.bl false) H1
noncomputable def iB (ta tb:TE):TE:=fun σ H Q=>ta σ H fun x H1=>∃c,x=.bl c/\if c=true then Q (.bl true) H1 else tb σ H1 Q
noncomputable def dC (ta:TE):TE:=fun σ H Q=>ta σ H fun x H1=>∃c,x=.bl c/\Q (.bl (!c)) H1
theorem El {op}{t:TE}(h:PE X a t):PE X (.BoolOp op [a] pos) t:=fun pins s σ H Q I hw=>BoolOp_one (h pins s σ H Q I hw)
theorem C8 (ha:PE X a ta)(hb:PE X (.BoolOp .And (b::eW) pos) tb):PE X (.BoolOp .And (a::b::eW) pos) (dw ta tb):=by
 intro pins s σ H Q I h
 refine BoolOp_and (dN (ha pins s σ H _ I h) fun v s1 ⟨x,H1,I1,r1,q1⟩=>?_)
 obtain⟨c,rfl,q1⟩:=q1
 cases r1
 refine wpAny_truthy_bool ?_
 cases c with
 |true=>exact hb pins s1 σ H1 Q I1 q1
 |false=>exact⟨.bl false,H1,I1,rfl,q1⟩
theorem KJ (ha:PE X a ta):PE X (.UnaryOp .Not a pos) (dC ta):=by
 intro pins s σ H Q I h
 refine UnaryOp_ (dN (ha pins s σ H _ I h) fun v s1 ⟨x,H1,I1,r1,q1⟩=>?_)
 obtain⟨c,rfl,q1⟩:=q1
 cases r1
 exact not_of (wpAny_truthy_bool ⟨.bl (!c),H1,I1,rfl,q1⟩)
noncomputable def oy (t:TT)(ta tb:TE):TE:=fun σ H Q=>t σ H fun c H1=>if c=true then ta σ H1 Q else tb σ H1 Q
theorem D8 {c:Expr}(hc:PT X c tA)(ha:PE X a ta)(hb:PE X b tb):PE X (.IfExp c a b pos) (oy tA ta tb):=by
 intro pins s σ H Q I h
 refine wpAny_IfExp (dN (hc pins s σ H _ I h) fun d s1 ⟨H1,I1,q1⟩=>?_)
 cases d with
 |true=>exact ha pins s1 σ H1 Q I1 q1
 |false=>exact hb pins s1 σ H1 Q I1 q1
end
end L2
namespace L2
open PySem PySem.Spec PyProof.Rows
noncomputable def SqL (K:PySem.W.Frag)(H:Hp)(a:Addr)(xs:List V):Prop:=
 Rd H a (.lst xs) ∨
  ∃(o:Obj) (its:Array Value) (n:Nat),K.lookup a=some o/\o.cls=.type "list"/\o.dict=none/\o.data=.seq its n/\its.size≤sizeLine/\Vals xs its.toList
noncomputable def SqT (K:PySem.W.Frag)(H:Hp)(a:Addr)(xs:List V):Prop:=
 Rd H a (.tup xs) ∨
  ∃(o:Obj) (its:Array Value) (n:Nat),K.lookup a=some o/\o.cls=.type "tuple"/\o.data=.seq its n/\its.size≤sizeLine/\Vals xs its.toList
noncomputable def OS:Value->Option V
 |.none=>some .non
 |.bool b=>some (.bl b)
 |.int i _=>some (.int i)
 |.str x _=>some (.str x)
 |.bytes b _=>some (.byt b)
 |.float b _=>some (.flt b)
 |.ref a=>some (.ref a)
 |.type n=>some (.ty n)
 |_=>none
theorem RelV.abs {x:V}{u:Value}(r:RelV x u):OS u=some x:=by
 cases x with
 |non=>cases r;rfl
 |bl _=>cases r;rfl
 |int _=>obtain⟨t,rfl⟩:=r;rfl
 |str _=>obtain⟨t,rfl⟩:=r;rfl
 |byt _=>obtain⟨t,rfl⟩:=r;rfl
 |flt _=>obtain⟨t,rfl⟩:=r;rfl
 |ref _=>cases r;rfl
 |ty _=>cases r;rfl
theorem RelV.inj {x y:V}{u:Value}(r:RelV x u)(q:RelV y u):x=y:=Option.some.inj (r.abs.symm.trans q.abs)
theorem Vals.inj:∀{xs ys:List V} {us:List Value},Vals xs us->Vals ys us->xs=ys
 |_,_,_,.nil,.nil=>rfl
 |_,_,_,.cons r t,.cons r' t'=>by rw[r.inj r',Vals.inj t t']
section
variable {X:Cx}{pins:List (Addr×Obj)}{σ:St}{H:Hp}{s:Shared}{a:Addr}{xs ys:List V}
theorem SqL.of {K:PySem.W.Frag}(h:H a=some (.lst xs)):SqL K H a xs:=.inl (.inl h)
theorem SqT.of {K:PySem.W.Frag}(h:H a=some (.tup xs)):SqT K H a xs:=.inl (.inl h)
theorem Inv.list (I:Inv X pins σ H s)(h:SqL X.K H a xs):∃its:List Value,Vals xs its/\PlainL s.heap a its.toArray/\xs.length≤sizeLine:=by
 rcases h with h|⟨o,its,n,hk,hc,hd,hs,hz,r⟩
 ·obtain⟨z,its,n,r,e⟩:=h.ok I.hok
  exact⟨its,r,⟨_,n,e,rfl,rfl,rfl⟩,z⟩
 ·refine⟨its.toList,r,⟨o,n,I.kIn a o hk,hc,hd,by simpa using hs⟩,?_⟩
  have e:=r.length
  simp only[Array.length_toList] at e
  omega
theorem Inv.tuple (I:Inv X pins σ H s)(h:SqT X.K H a xs):∃its:List Value,Vals xs its/\IsTup s.heap a its.toArray/\xs.length≤sizeLine:=by
 rcases h with h|⟨o,its,n,hk,hc,hs,hz,r⟩
 ·obtain⟨z,its,r,p⟩:=h.ok I.hok
  exact⟨its,r,p,z⟩
 ·refine⟨its.toList,r,⟨o,I.kIn a o hk,hc,n,by simpa using hs⟩,?_⟩
  have e:=r.length
  simp only[Array.length_toList] at e
  omega
theorem Inv.list_inj (I:Inv X pins σ H s)(h:SqL X.K H a xs)(h':SqL X.K H a ys):xs=ys:=by
 obtain⟨its,r,⟨o,n,e,_,_,d⟩,_⟩:=I.list h
 obtain⟨its',r',⟨o',n',e',_,_,d'⟩,_⟩:=I.list h'
 rw[e] at e';cases e'
 rw[d] at d'
 injection d' with d1 _
 have:its=its':=by simpa using congrArg Array.toList d1
 subst this
 exact r.inj r'
theorem Inv.tuple_inj (I:Inv X pins σ H s)(h:SqT X.K H a xs)(h':SqT X.K H a ys):xs=ys:=by
 obtain⟨its,r,⟨o,e,_,n,d⟩,_⟩:=I.tuple h
 obtain⟨its',r',⟨o',e',_,n',d'⟩,_⟩:=I.tuple h'
 rw[e] at e';cases e'
 rw[d] at d'
 injection d' with d1 _
 have:its=its':=by simpa using congrArg Array.toList d1
 subst this
 exact r.inj r'
end
noncomputable abbrev Cx.wish (X:Cx)(E:Value->Shared->Prop):Cx:={ X with xe:=E }
noncomputable abbrev Cx.nox (X:Cx):Cx:=X.wish fun _ _=>False
theorem Cx.Ok.wish {X:Cx}(ok:X.Ok)(E:Value->Shared->Prop):(X.wish E).Ok:=
 ⟨ok.mod,ok.kind,ok.glob,ok.blt,ok.above,ok.inj,ok.has,ok.cab,ok.hd,ok.frames,ok.stk,ok.exf,ok.bs,ok.bsz,ok.noex,ok.exfs,ok.funs,ok.frf⟩
theorem Cx.Ok.unwish {X:Cx}{E:Value->Shared->Prop}(ok:(X.wish E).Ok):X.Ok:=
 ⟨ok.mod,ok.kind,ok.glob,ok.blt,ok.above,ok.inj,ok.has,ok.cab,ok.hd,ok.frames,ok.stk,ok.exf,ok.bs,ok.bsz,ok.noex,ok.exfs,ok.funs,ok.frf⟩
section
variable {X:Cx}{pins:List (Addr×Obj)}{σ:St}{H:Hp}{s:Shared}{E:Value->Shared->Prop}
theorem Inv.wish (I:Inv X pins σ H s)(E:Value->Shared->Prop):Inv (X.wish E) pins σ H s:=⟨I.ok.wish E,I.os,I.bare,I.base,I.loc,I.cell,I.free,I.freeC,I.pin,I.hok,I.len⟩
theorem Inv.unwish (I:Inv (X.wish E) pins σ H s):Inv X pins σ H s:=⟨I.ok.unwish,I.os,I.bare,I.base,I.loc,I.cell,I.free,I.freeC,I.pin,I.hok,I.len⟩
theorem SP.unwish {D:Ends}{f:Flow}{s':Shared}(h:SP (X.wish E) pins D f s'):SP X pins D f s':=by
 cases f with
 |next=>obtain⟨σ',H',I,q⟩:=h;exact⟨σ',H',I.unwish,q⟩
 |brk=>obtain⟨σ',H',I,q⟩:=h;exact⟨σ',H',I.unwish,q⟩
 |cont=>obtain⟨σ',H',I,q⟩:=h;exact⟨σ',H',I.unwish,q⟩
 |ret u=>obtain⟨v,σ',H',I,r,q⟩:=h;exact⟨v,σ',H',I.unwish,r,q⟩
theorem PSs.nox {st:List Stmt}{t:TS}(h:PSs X.nox st t):PSs X st t:=fun pins s σ H D I hw=>
 wpAny_mono (h pins s σ H D (I.wish _) hw) (fun _ _ q=>q.unwish) fun _ _ z=>False.elim z
end
section
variable {X:Cx}{st:Stmt}{eW:List Stmt}{t u:TS}{e:Expr}{te:TE}{pos:Pos}
noncomputable def dl:TS:=fun D σ H=>D.nx σ H
noncomputable def gB (t u:TS):TS:=fun D σ H=>t { D with nx:=u D } σ H
theorem He:PSs X [] dl:=fun _ _ σ H _ I h=>wpAny_execs_nil ⟨σ,H,I,h⟩
theorem aS (h1:PS X st t)(h2:PSs X eW u):PSs X (st::eW) (gB t u):=by
 intro pins s σ H D I h
 refine wpAny_execs_cons (dN (h1 pins s σ H { D with nx:=u D } I h) fun f s1 q=>?_)
 cases f with
 |next=>
  obtain⟨σ',H',I',q⟩:=q
  exact h2 pins s1 σ' H' D I' q
 |ret v=>exact q
 |brk=>exact q
 |cont=>exact q
theorem eT (h1:PS X st t):PSs X [st] t:=by
 intro pins s σ H D I h
 refine wpAny_execs_cons (dN (h1 pins s σ H D I h) fun f s1 q=>?_)
 cases f with
 |next=>exact wpAny_execs_nil q
 |ret v=>exact q
 |brk=>exact q
 |cont=>exact q
theorem Inv.quiet {pins:List (Addr×Obj)}{σ:St}{H:Hp}{s:Shared}(I:Inv X pins σ H s):interactive X.env=false:=by simp[interactive,I.ok.kind]
noncomputable def cc (te:TE):TS:=fun D σ H=>te σ H fun _ H1=>D.nx σ H1
theorem ce (he:PE X e te)(hs:swapsWith e none pos.line X.env=pure false:=by rfl):PS X (.Expr e pos) (cc te):=by
 intro pins s σ H D I h
 exact wpAny_Expr_any (dN (he pins s σ H _ I h) fun v s1 ⟨x,H1,I1,r1,q1⟩=>⟨σ,H1,I1,q1⟩) I.quiet hs
noncomputable def gW (te:TE):TS:=fun D σ H=>te σ H D.rt
theorem jd (he:PE X e te):PS X (.Return (some e) pos) (gW te):=by
 intro pins s σ H D I h
 exact wpAny_Return_some (dN (he pins s σ H _ I h) fun v s1 ⟨x,H1,I1,r1,q1⟩=>⟨x,σ,H1,I1,r1,q1⟩)
noncomputable def dQ:TS:=fun D _ H=>D.rt .non H
noncomputable def hJ (c:TT)(t u:TS):TS:=fun D σ H=>c σ H fun b H1=>if b=true then t D σ H1 else u D σ H1
theorem Oa {c:Expr}{a b:List Stmt}{tc:TT}(hc:PT X c tc)(ha:PSs X a t)(hb:PSs X b u):PS X (.If c a b pos) (hJ tc t u):=by
 intro pins s σ H D I h
 refine wpAny_If (dN (hc pins s σ H _ I h) fun d s1 ⟨H1,I1,q1⟩=>?_)
 cases d with
 |true=>exact ha pins s1 σ H1 D I1 q1
 |false=>exact hb pins s1 σ H1 D I1 q1
noncomputable def bV:TS:=fun _ _ _=>False
theorem DJ:PS X st bV:=fun _ _ _ _ _ _ h=>h.elim
end
noncomputable abbrev TG:=V->St->Hp->(St->Hp->Prop)->Prop
noncomputable abbrev zS:=List V->St->Hp->(St->Hp->Prop)->Prop
noncomputable def PG (X:Cx)(target:Expr)(t:TG):Prop:=
 ∀(pins:List (Addr×Obj)) (s:Shared) (σ:St) (H:Hp) (v:V) (u:Value) (Q:St->Hp->Prop),Inv X pins σ H s->RelV v u->t v σ H Q →
  wpAny (model X.prog X.w) X.A (assign target X.env u) (fun _ s'=>∃σ' H',Inv X pins σ' H' s'/\Q σ' H') X.xe s
noncomputable def Od (X:Cx)(ts:List Expr)(t:zS):Prop:=
 ∀(pins:List (Addr×Obj)) (s:Shared) (σ:St) (H:Hp) (vs:List V) (us:List Value) (Q:St->Hp->Prop),Inv X pins σ H s->Vals vs us->t vs σ H Q →
  wpAny (model X.prog X.w) X.A (assignInOrder ((assignEach ts X.env).map (·.2)) us) (fun _ s'=>∃σ' H',Inv X pins σ' H' s'/\Q σ' H') X.xe s
noncomputable abbrev J5:=V->V->V->Hp->(Hp->Prop)->Prop
noncomputable def M0 (X:Cx)(t:J5):Prop:=
 ∀(pins:List (Addr×Obj)) (s:Shared) (σ:St) (H:Hp) (o i v:V) (ov iv u:Value) (Q:Hp->Prop),Inv X pins σ H s->RelV o ov->RelV i iv->RelV v u->t o i v H Q →
  wpAny (model X.prog X.w) X.A (setItem ov iv u) (fun _ s'=>∃H',Inv X pins σ H' s'/\Q H') X.xe s
noncomputable abbrev Om:=V->V->Hp->VK->Prop
noncomputable def Qa (X:Cx)(op:Operator)(t:Om):Prop:=
 ∀(pins:List (Addr×Obj)) (s:Shared) (σ:St) (H:Hp) (x y:V) (v u:Value) (Q:VK),Inv X pins σ H s->RelV x v->RelV y u->t x y H Q →
  wpAny (model X.prog X.w) X.A (inplaceOp op v u) (EP X pins σ Q) X.xe s
section
variable {X:Cx}{pos:Pos}
noncomputable def bf (i:Nat):TG:=fun v σ H Q=>Q (σ.set i (some v)) H
theorem ar {i:Nat}{x:Str}(hN:X.N.Nodup)(hi:X.N[i]?=some x)(hx:L1 X.env.scope x)(hf:X.fn x=true\/X.env.scope.names.lookup x=some .local:=by first|exact .inl rfl|exact .inr rfl|assumption):PG X (.Name x pos) (bf i):=by
 intro pins s σ H v u Q I r h
 exact wpAny_assign_Name (mk I hN hi hx r (fun s' I'=>⟨_,H,I',h⟩) hf)
noncomputable def gD:zS:=fun vs σ H Q=>vs=[]/\Q σ H
noncomputable def cC (t:TG)(u:zS):zS:=fun vs σ H Q=>∃v r,vs=v::r/\t v σ H fun σ' H'=>u r σ' H' Q
theorem bT:Od X [] gD:=by
 intro pins s σ H vs us Q I r h
 obtain⟨e,h⟩:=h
 subst e
 cases r
 exact assignInOrder_nil ⟨σ,H,I,h⟩
theorem av {e:Expr}{es:List Expr}{t:TG}{u:zS}(h1:PG X e t)(h2:Od X es u)
  (hs:(assignEach (e::es) X.env).map (·.2)=assign e X.env::(assignEach es X.env).map (·.2):=by rfl):Od X (e::es) (cC t u):=by
 intro pins s σ H vs us Q I r h
 obtain⟨v,vr,e1,h⟩:=h
 subst e1
 cases r with
 |cons r rr=>
  rw[hs]
  refine assignInOrder_cons (dN (h1 pins s σ H _ _ _ I r h) fun _ s1 ⟨σ1,H1,I1,q1⟩=>?_)
  exact h2 pins s1 σ1 H1 _ _ Q I1 rr q1
noncomputable def fS (K:PySem.W.Frag)(n:Nat)(t:zS):TG:=fun v σ H Q=>∃a xs,v=.ref a/\SqT K H a xs/\xs.length=n/\t xs σ H Q
theorem KG {es:List Expr}{k:Nat}{t:zS}{n:Nat}(hc:X.calm=true)(h:Od X es t)
  (hn:(assignEach es X.env).length=n:=by rfl) (hst:(assignEach es X.env).findIdx? (·.1)=none:=by rfl):PG X (.Tuple es k pos) (fS X.K n t):=by
 intro pins s σ H v u Q I r hw
 obtain⟨a,xs,e1,hq,hl,hw⟩:=hw
 subst e1
 cases r
 obtain⟨its,rv,ht,hz⟩:=I.tuple hq
 refine assign_Tuple_tuple (I.ok.hd hc) ht (by simp[hn,←hl,rv.length]) hst fun h' hx=>?_
 have I1:Inv X pins σ H { s with heap:=h' }:=I.kept (t':=s.toks) fun b o e=>hx b o (Nat.ne_of_lt (Heap.lt_size e)) e
 exact h pins _ σ H xs _ Q I1 (by simpa using rv) hw
noncomputable def fU (to ti:TE)(t:J5):TG:=fun v σ H Q=>to σ H fun o H1=>ti σ H1 fun i H2=>t o i v H2 fun H3=>Q σ H3
theorem ii {o i:Expr}{to ti:TE}{t:J5}(ho:PE X o to)(hi:PE X i ti)(hs:M0 X t)
  (ha:∀v,assign (.Subscript o i pos) X.env v=(do
   let ov ←holding [v] (eval o X.env)
   let iv ←holding [v,ov] (eval i X.env)
   standAt pos
   holding [v,ov,iv] (setItem ov iv v)
   release [v,ov,iv] []):=by intro _;rfl):PG X (.Subscript o i pos) (fU to ti t):=by
 intro pins s σ H v u Q I r h
 rw[ha]
 refine wpAny_bind (wpAny_holding (dN (ho pins s σ H _ I h) fun ov s1 ⟨x,H1,I1,r1,q1⟩=>?_))
 refine wpAny_bind (wpAny_holding (dN (hi pins s1 σ H1 _ I1 q1) fun iv s2 ⟨y,H2,I2,r2,q2⟩=>?_))
 refine wpAny_bind (wpAny_standAt (wpAny_bind (wpAny_holding (dN (hs pins s2 σ H2 x y v ov iv u _ I2 r1 r2 r q2) fun _ s3 ⟨H3,I3,q3⟩=>?_))))
 exact wpAny_release ⟨σ,H3,I3,q3⟩
noncomputable def df (te:TE)(g:TG):TS:=fun D σ H=>te σ H fun x H1=>g x σ H1 D.nx
theorem bF {tg e:Expr}{te:TE}{g:TG}(he:PE X e te)(hg:PG X tg g)(hs:swapsWithSole [tg] e pos.line X.env=pure false:=by rfl)(hw:swappedStores [tg] e X.env=pure none:=by rfl)
  (h1:(assignEach [tg] X.env).map (·.2)=[assign tg X.env]:=by rfl):PS X (.Assign [tg] e pos) (df te g):=by
 intro pins s σ H D I h
 refine wpAny_Assign_stores (dN (he pins s σ H _ I h) fun v s1 ⟨x,H1,I1,r1,q1⟩=>?_) hs hw
 rw[h1]
 exact dN (hg pins s1 σ H1 x v _ I1 r1 q1) fun _ s2 q=>q
theorem aI {i:Nat}{x:Str}{e:Expr}{te:TE}{pos':Pos}(hN:X.N.Nodup)(hi:X.N[i]?=some x)(hx:L1 X.env.scope x)(he:PE X e te)(hs:swapsWith e (some (.Name x pos')) pos.line X.env=pure false:=by rfl)(hf:X.fn x=true\/X.env.scope.names.lookup x=some .local:=by first|exact .inl rfl|exact .inr rfl|assumption) :
  PS X (.Assign [.Name x pos'] e pos) (df te (bf i)):=by
 intro pins s σ H D I h
 refine wpAny_Assign_Name (dN (he pins s σ H _ I h) fun v s1 ⟨y,H1,I1,r1,q1⟩=>?_) hs
 exact mk I1 hN hi hx r1 (fun s2 I2=>⟨_,H1,I2,q1⟩) hf
noncomputable def fY (i j:Nat)(ta:TA):TS:=fun D σ H=>ta σ H fun vs H1=>∃v w,vs=[v,w]/\D.nx ((σ.set i (some v)).set j (some w)) H1
theorem oY {i j:Nat}{x y:Str}{a b:Expr}{ta:TA}{px py pt:Pos}{kt k2 pt2}(hc:X.calm=true)(hN:X.N.Nodup)(hi:X.N[i]?=some x)(hj:X.N[j]?=some y)(hij:i≠j)
  (hx:X.env.scope.names.lookup x=some .local) (hy:X.env.scope.names.lookup y=some .local) (ha:PA X [a,b] ta)
  (hw:swappedStores [.Tuple [.Name x px,.Name y py] kt pt] (.Tuple [a,b] k2 pt2) X.env=pure (some [x,y]))
  (hs:swapsWithSole [.Tuple [.Name x px,.Name y py] kt pt] (.Tuple [a,b] k2 pt2) pos.line X.env=pure false:=by rfl) :
  PS X (.Assign [.Tuple [.Name x px,.Name y py] kt pt] (.Tuple [a,b] k2 pt2) pos) (fY i j ta):=by
 intro pins s σ H D I h
 rw[exec_Assign_arm]
 refine wpAny_bind (wpAny_standAt ?_)
 rw[hs]
 refine wpAny_bind (wpAny_pure ?_)
 rw[if_neg (by decide)]
 refine wpAny_bind (Tuple_ (dN (ha _ pins s σ H _ I h) fun us s1 ⟨vs,H1,I1,r1,q1⟩=>?_))
 obtain⟨v,w,e1,q1⟩:=q1
 subst e1
 obtain⟨u1,u2,rfl,rv,rw'⟩:∃u1 u2,us=[u1,u2]/\RelV v u1/\RelV w u2:=by
  cases r1 with
  |cons p q=>
   cases q with
   |cons p' q'=>
    cases q'
    exact⟨_,_,rfl,p,p'⟩
 refine wpAny_newObj_type ?_ (by show 2≤sizeLine;decide)
 have I2:Inv X pins σ H1 { s1 with heap:=s1.heap.push { cls:=.type "tuple",data:=.seq [u1,u2].toArray } }:=I1.kept (t':=s1.toks) fun b o e=>Heap.get?_push_of_some _ e
 rw[hw]
 refine wpAny_bind (wpAny_pure ?_)
 show wpAny (model X.prog X.w) X.A (do rule "assign.swapped-stores";let items ←unpackItems (.ref s1.heap.objs.size) 2 none;assignInOrder [fun v=>bindName X.env y v,fun v=>bindName X.env x v] items.reverse;pure Flow.next) _ _ _
 refine wpAny_bind (wpAny_rule (wpAny_bind (unpackItems_tuple (items:=#[u1,u2]) (I.ok.hd hc) (IsTup.new s1.heap _) fun h' hx'=>?_)))
 have I3:=I2.kept (h':=h') (t':=s1.toks) fun b o e=>hx' b o (Nat.ne_of_lt (Heap.lt_size e)) e
 show wpAny _ _ (assignInOrder [fun v=>bindName X.env y v,fun v=>bindName X.env x v] [u2,u1] >>= fun _=>pure Flow.next) _ _ _
 refine wpAny_bind (assignInOrder_cons (wpAny_bindName (mk I3 hN hj (.inl hy) rw' (fun s2 I4=>?_) (.inr hy))))
 refine assignInOrder_cons (wpAny_bindName (mk I4 hN hi (.inl hx) rv (fun s3 I5=>assignInOrder_nil (wpAny_pure ?_)) (.inr hx)))
 rw[List.set_comm _ _ (Ne.symm hij)] at I5
 exact⟨_,H1,I5,q1⟩
noncomputable def h7 (i:Nat)(te:TE)(ti:Om):TS:=fun D σ H=>∃x,σ[i]?=some (some x)/\te σ H fun y H1=>ti x y H1 fun z H2=>D.nx (σ.set i (some z)) H2
theorem xX {i:Nat}{x:Str}{e:Expr}{te:TE}{op:Operator}{ti:Om}{pos':Pos}(hN:X.N.Nodup)(hi:X.N[i]?=some x)(hx:L1 X.env.scope x)(he:PE X e te)(ho:Qa X op ti)(hf:X.fn x=true\/X.env.scope.names.lookup x=some .local:=by first|exact .inl rfl|exact .inr rfl|assumption) :
  PS X (.AugAssign (.Name x pos') op e pos) (h7 i te ti):=by
 intro pins s σ H D I h
 obtain⟨v,e1,h⟩:=h
 obtain⟨m,hn,hl⟩:=I.loc
 have vis:L4 X.env.scope x:=by rcases hx with k|k;exact .inl k;exact .inr (.inl k)
 obtain⟨u,r,l⟩:=hl i x v hi e1 vis
 refine wpAny_AugAssign_Name ?_
 have go:wpAny (model X.prog X.w) X.A (eval e X.env) (fun w s₂=>wpAny (model X.prog X.w) X.A (inplaceOp op u w) (fun r s₃=>wpAny (model X.prog X.w) X.A (storeName X.env x r) (fun _=>SP X pins D .next) X.xe s₃) X.xe s₂) X.xe s:=by
  refine dN (he pins s σ H _ I h) fun w s1 ⟨y,H1,I1,r1,q1⟩=>?_
  refine dN (ho pins s1 σ H1 v y u w _ I1 r r1 q1) fun z s2 ⟨zv,H2,I2,r2,q2⟩=>?_
  exact mk I2 hN hi hx r2 (fun s3 I3=>⟨_,H2,I3,q2⟩) hf
 rcases l with ⟨hk,hm⟩|⟨hk,c,hc,hcell⟩
 ·exact wpAny_loadName_local I.ok.kind hk hn hm go
 ·rcases hk with hk|hk
  ·exact wpAny_loadName_cell I.ok.kind hk hc hcell go
  ·rcases hx with k|k
   ·have:X.env.scope.names.lookup x=some .free:=hk
    rw[k] at this;cases this
   ·have:X.env.scope.names.lookup x=some .free:=hk
    rw[k] at this;cases this
noncomputable def oZ (f:Int->Int->Int):Om:=fun x y H Q=>∃i j,x=.int i/\y=.int j/\Q (.int (f i j)) H
theorem yi:Qa X .Add (oZ fun i j=>i+j):=by
 intro pins s σ H x y v u Q I r1 r2 h
 obtain⟨i,j,e1,e2,q⟩:=h
 subst e1;subst e2
 obtain⟨t,rfl⟩:=r1
 obtain⟨t',rfl⟩:=r2
 exact iadd_int ⟨.int _,H,I.tok _,⟨_,rfl⟩,q⟩
end
section
variable {X:Cx}{pos:Pos}
noncomputable def yq (c:TT)(tb:TS):TS:=fun D σ H=>∃W:Nat->St->Hp->Prop,(∃m,W m σ H)/\∀m σ H,W m σ H →
 c σ H fun b H1=>if b=true then ∃N:St->Hp->Prop,(∀σ' H',N σ' H'->∃m',m'<m/\W m' σ' H')/\tb { D with nx:=N,ct:=N,bk:=D.nx } σ H1 else D.nx σ H1
theorem ji {c:Expr}{body:List Stmt}{tc:TT}{tb:TS}(hp:PassesOwn (model X.prog X.w) X.A X.env X.xe)(hc:PT X c tc)(hb:PSs X body tb):PS X (.While c body [] pos) (yq tc tb):=by
 intro pins s σ H D I h
 obtain⟨W,⟨m0,w0⟩,turn⟩:=h
 refine wpAny_While (codeAny_whileLoop (fun n s'=>∃σ' H',Inv X pins σ' H' s'/\W n σ' H') ?_ m0 ⟨σ,H,I,w0⟩)
 rintro n s1 ⟨σ1,H1,I1,w1⟩
 refine wpAny_passesOwn hp (dN (hc pins s1 σ1 H1 _ I1 (turn n σ1 H1 w1)) fun b s2 ⟨H2,I2,q2⟩=>?_)
 cases b with
 |true=>
  obtain⟨N,hN,q2⟩:=q2
  rw[if_pos rfl]
  refine wpAny_passesOwn hp (dN (hb pins s2 σ1 H2 _ I2 q2) fun f s3 q3=>?_)
  cases f with
  |next=>
   obtain⟨σ3,H3,I3,n3⟩:=q3
   obtain⟨m',hm,w3⟩:=hN σ3 H3 n3
   exact⟨m',hm,σ3,H3,I3,w3⟩
  |cont=>
   obtain⟨σ3,H3,I3,n3⟩:=q3
   obtain⟨m',hm,w3⟩:=hN σ3 H3 n3
   exact⟨m',hm,σ3,H3,I3,w3⟩
  |brk=>exact q3
  |ret v=>exact q3
 |false=>
  rw[if_neg Bool.false_ne_true]
  exact wpAny_execs_nil ⟨σ1,H2,I2,q2⟩
end
structure It where
 go:Nat->Hp->Prop
 yld:Nat->Hp->V->Hp->Prop
 stop:Nat->Hp->Prop
noncomputable def o4 (X:Cx)(pins:List (Addr×Obj))(H:Hp)(b:Addr):Prop:=
 H b=none/\b≠X.env.locals/\b∉X.fs/\(b∈X.ex\/X.s₀.heap.objs.size≤b)/\(∀x c,X.env.cells.lookup x=some c->c≠b)/\∀p∈X.pn++pins,p.1≠b
theorem Inv.fpOk {X:Cx}{pins:List (Addr×Obj)}{σ:St}{H H':Hp}{s:Shared}{b:Addr}(I:Inv X pins σ H s)(hb:s.heap.objs.size≤b)(hn:H' b=none):o4 X pins H' b:=by
 refine⟨hn,Nat.ne_of_gt (Nat.lt_of_lt_of_le I.lt hb),I.nofs hb,.inr (Nat.le_trans I.sz hb),fun x c e z=>?_,fun p hp z=>?_⟩
 ·obtain⟨v,q⟩:=I.cell x c e
  exact absurd (Nat.lt_of_lt_of_le q.lt (by rw[z];exact hb)) (Nat.lt_irrefl _)
 ·exact absurd (Nat.lt_of_lt_of_le (Heap.lt_size (I.pin p hp).1) (by rw[z];exact hb)) (Nat.lt_irrefl _)
structure Turn (P:Program)(w:World)(K:PySem.W.Frag)(tg:Expr)(J:It)(fp:List Addr)(it:Addr)(tn:Nat->Heap->Prop):Prop where
 mem:it∈fp
 obj:∀i h,tn i h->∀b∈fp,∃o,h.get? b=some o/\∀v,o.data≠.cell v
 keep:∀i h h',tn i h->(∀b∈fp,∀o,h.get? b=some o->h'.get? b=some o)->tn i h'
 item:∀(X:Cx),X.prog=P->X.w=w->X.K=K->X.calm=true->∀(i:Nat) (pins:List (Addr×Obj)) (s:Shared) (σ:St) (H:Hp) (E:Value->Shared->Prop),Inv X pins σ H s->(∀b∈fp,o4 X pins H b)->tn i s.heap->J.go i H →
  wpAny (model P w) X.A (pyNext (.ref it)) (fun r s1=>∃u,r=some u ∧
   wpAny (model P w) X.A (letOwnedTupleGo tg (.ref it) u) (fun _ s2=>∃x H',Inv X pins σ H' s2/\RelV x u/\J.yld i H x H'/\tn (i+1) s2.heap/\∀b∈fp,H' b=none) E s1) E s
 done:∀(X:Cx),X.prog=P->X.w=w->X.K=K->X.calm=true->∀(i:Nat) (pins:List (Addr×Obj)) (s:Shared) (σ:St) (H:Hp) (E:Value->Shared->Prop),Inv X pins σ H s->(∀b∈fp,o4 X pins H b)->tn i s.heap->J.stop i H →
  wpAny (model P w) X.A (pyNext (.ref it)) (fun r s1=>r=none/\Inv X pins σ H s1) E s
 self:∀(A:Around) (i:Nat) (s:Shared) (Q:Value->Shared->Prop) (E:Value->Shared->Prop),tn i s.heap->Q (.ref it) s->wpAny (model P w) A (pyIter (.ref it)) Q E s
noncomputable abbrev TI:=St->Hp->(It->Hp->Prop)->Prop
noncomputable def PQ (X:Cx)(pins:List (Addr×Obj))(σ:St)(tg:Expr)(R:It->Hp->Prop)(itv:Value)(s2:Shared):Prop:=
 ∃(it:Addr) (fp:List Addr) (tn:Nat->Heap->Prop) (J:It) (H':Hp),itv=.ref it/\Inv X pins σ H' s2/\Turn X.prog X.w X.K tg J fp it tn/\tn 0 s2.heap/\(∀b∈fp,o4 X pins H' b)/\R J H'
noncomputable def PI (X:Cx)(tg iter:Expr)(wi:TI):Prop:=
 ∀(pins:List (Addr×Obj)) (s:Shared) (σ:St) (H:Hp) (R:It->Hp->Prop),Inv X pins σ H s->wi σ H R →
  wpAny (model X.prog X.w) X.A (eval iter X.env) (fun v s1=>wpAny (model X.prog X.w) X.A (pyIter v) (PQ X pins σ tg R) X.xe s1) X.xe s
theorem zQ {M:Model}{A:Around}{E:Value->Shared->Prop}{s:Shared}{tg:Expr}{it:Addr}{u:Value}{o:Obj}{n:String}{vs:Array Value}{Q:Unit->Shared->Prop}(ho:s.heap.get? it=some o)(hc:o.cls=.type n)(hd:o.data=.fields vs)
  (hn:["enumerate","zip","dict_itemiterator","dict_reverseitemiterator","odict_iterator","itertools.zip_longest","itertools.pairwise"].contains n=false) (hQ:Q () s):wpAny M A (letOwnedTupleGo tg (.ref it) u) Q E s:=by
 unfold letOwnedTupleGo
 cases tg<;>first
  |exact wpAny_pure hQ
  |(cases u<;>first
    |exact wpAny_pure hQ
    |(refine wpAny_bind (wpAny_load ho ?_)
      rw[hc,hd]
      show wpAny M A (if (["enumerate","zip","dict_itemiterator","dict_reverseitemiterator","odict_iterator","itertools.zip_longest","itertools.pairwise"].contains n&&vs[0]?==some (rawInt _))=true then _ else _) Q E s
      rw[if_neg (by intro h;rw[hn,Bool.false_and] at h;cases h)]
      exact wpAny_pure hQ))
noncomputable def Qc (K:PySem.W.Frag)(a:Addr):It:=
 ⟨fun i H=>∃xs x,SqL K H a xs/\xs[i]?=some x,fun i H x H'=>H'=H/\∀xs,SqL K H a xs->xs[i]?=some x,fun i H=>∃xs,SqL K H a xs/\xs.length≤i⟩
noncomputable def PU (K:PySem.W.Frag)(a:Addr):It:=
 ⟨fun i H=>∃xs x,SqT K H a xs/\xs[i]?=some x,fun i H x H'=>H'=H/\∀xs,SqT K H a xs->xs[i]?=some x,fun i H=>∃xs,SqT K H a xs/\xs.length≤i⟩
noncomputable def HA (lo:Int)(n:Nat):It:=⟨fun i _=>i<n,fun i H x H'=>H'=H/\x=.int (lo+i),fun i _=>n≤i⟩
theorem AZ {P:Program}{w:World}{K:PySem.W.Frag}{tg:Expr}(a it:Addr):Turn P w K tg (Qc K a) [it] it (fun i h=>h.IsListIter it a i) where
 mem:=by simp
 obj:=fun i h st b hb=>by
  have e:b=it:=by simpa using hb
  subst e
  obtain⟨o,e,c,d⟩:=st
  exact⟨o,e,fun v z=>by rw[d] at z;cases z⟩
 keep:=fun i h h' st k=>st.at fun o e=>k it (by simp) o e
 item:=by
  intro X hP hw hK hc i pins s σ H E I hf st hg
  subst hP hw hK
  obtain⟨xs,x,hq,hx⟩:=hg
  obtain⟨its,rv,p,hz⟩:=I.list hq
  obtain⟨u,hu,ru⟩:=rv.get hx
  obtain⟨f0,f1,f2,f3,f4,f5⟩:=hf it (by simp)
  refine wpAny_pyNext_list_item st p.isList (x:=u) (by simpa using hu) fun h' st' sb=>?_
  have I1:Inv X pins σ H { s with heap:=h' }:=I.turned (t':=s.toks) (fun b o hb e=>(sb.2 b hb).trans e) f0 f1 f3 f4 f5
  obtain⟨o,e,c,d⟩:=id st'
  exact⟨u,rfl,zQ (s:={ s with heap:=h' }) e c d (by decide) ⟨x,H,I1,ru,⟨rfl,fun ys hy=>by rw[I.list_inj hy hq];exact hx⟩,st',fun b hb=>(hf b hb).1⟩⟩
 done:=by
  intro X hP hw hK hc i pins s σ H E I hf st hg
  subst hP hw hK
  obtain⟨xs,hq,hx⟩:=hg
  obtain⟨its,rv,p,hz⟩:=I.list hq
  obtain⟨f0,f1,f2,f3,f4,f5⟩:=hf it (by simp)
  have hl:=rv.length
  exact wpAny_pyNext_list_end (I.ok.hd hc) st p.isList (by simp;omega) fun h' eb=>⟨rfl,I.turned (t':=s.toks) (fun b o hb e=>eb b o hb e) f0 f1 f3 f4 f5⟩
 self:=fun _ _ _ _ _ st h=>wpAny_pyIter_listiter st h
theorem yw {P:Program}{w:World}{K:PySem.W.Frag}{tg:Expr}(a it:Addr):Turn P w K tg (PU K a) [it] it (fun i h=>h.IsTupleIter it a i) where
 mem:=by simp
 obj:=fun i h st b hb=>by
  have e:b=it:=by simpa using hb
  subst e
  obtain⟨o,e,c,d⟩:=st
  exact⟨o,e,fun v z=>by rw[d] at z;cases z⟩
 keep:=fun i h h' st k=>st.at fun o e=>k it (by simp) o e
 item:=by
  intro X hP hw hK hc i pins s σ H E I hf st hg
  subst hP hw hK
  obtain⟨xs,x,hq,hx⟩:=hg
  obtain⟨its,rv,p,hz⟩:=I.tuple hq
  obtain⟨u,hu,ru⟩:=rv.get hx
  obtain⟨f0,f1,f2,f3,f4,f5⟩:=hf it (by simp)
  refine wpAny_pyNext_tuple_item st (show s.heap.IsTuple a its.toArray from p) (x:=u) (by simpa using hu) fun h' st' sb=>?_
  have I1:Inv X pins σ H { s with heap:=h' }:=I.turned (t':=s.toks) (fun b o hb e=>(sb.2 b hb).trans e) f0 f1 f3 f4 f5
  obtain⟨o,e,c,d⟩:=id st'
  exact⟨u,rfl,zQ (s:={ s with heap:=h' }) e c d (by decide) ⟨x,H,I1,ru,⟨rfl,fun ys hy=>by rw[I.tuple_inj hy hq];exact hx⟩,st',fun b hb=>(hf b hb).1⟩⟩
 done:=by
  intro X hP hw hK hc i pins s σ H E I hf st hg
  subst hP hw hK
  obtain⟨xs,hq,hx⟩:=hg
  obtain⟨its,rv,p,hz⟩:=I.tuple hq
  obtain⟨f0,f1,f2,f3,f4,f5⟩:=hf it (by simp)
  have hl:=rv.length
  exact wpAny_pyNext_tuple_end (I.ok.hd hc) st (show s.heap.IsTuple a its.toArray from p) (by simp;omega) fun h' eb=>⟨rfl,I.turned (t':=s.toks) (fun b o hb e=>eb b o hb e) f0 f1 f3 f4 f5⟩
 self:=fun _ _ _ _ _ st h=>wpAny_pyIter_tupleiter st h
theorem x0 {P:Program}{w:World}{K:PySem.W.Frag}{tg:Expr}(it:Addr)(lo:Int)(n:Nat):Turn P w K tg (HA lo n) [it] it (fun i h=>IsRangeIter h it (lo+(i:Nat) * 1) ((n:Int) - (i:Nat)) 1) where
 mem:=by simp
 obj:=fun i h st b hb=>by
  have e:b=it:=by simpa using hb
  subst e
  exact⟨_,st,fun v z=>by
   have z':Data.fields _=Data.cell v:=z
   cases z'⟩
 keep:=fun i h h' st k=>k it (by simp) _ st
 item:=by
  intro X hP hw hK hc i pins s σ H E I hf st hg
  subst hP hw hK
  obtain⟨f0,f1,f2,f3,f4,f5⟩:=hf it (by simp)
  have W:=Walks.range (prog:=X.prog) (w:=X.w) (I.ok.hd hc) it lo 1 n
  refine W.item i s _ _ hg st fun v h' tk hv st' kk=>?_
  obtain⟨t,rfl⟩:=hv
  have I1:Inv X pins σ H { s with heap:=h',toks:=tk }:=I.turned (fun b o hb e=>kk b o (by simpa using hb) e) f0 f1 f3 f4 f5
  refine⟨_,rfl,zQ (s:={ s with heap:=h',toks:=tk }) (n:="range_iterator") st' rfl rfl (by decide) ⟨.int (lo+i),H,I1,⟨t,?_⟩,⟨rfl,rfl⟩,st',fun b hb=>(hf b hb).1⟩⟩
  rw[Int.mul_one]
 done:=by
  intro X hP hw hK hc i pins s σ H E I hf st hg
  subst hP hw hK
  obtain⟨f0,f1,f2,f3,f4,f5⟩:=hf it (by simp)
  exact wpAny_pyNext_range_end (I.ok.hd hc) st (by have:n≤i:=hg;omega) fun h' eb=>⟨rfl,I.turned (t':=s.toks) (fun b o hb e=>eb b o hb e) f0 f1 f3 f4 f5⟩
 self:=fun _ _ _ _ _ st h=>wpAny_pyIter_rangeiter st h
end L2
namespace L2
open PySem PySem.Spec PyProof.Rows
section
variable {X:Cx}{tg:Expr}
noncomputable def dk (K:PySem.W.Frag)(tl:TE):TI:=fun σ H R=>tl σ H fun x H1=>∃a,x=.ref a/\(∃xs,SqL K H1 a xs)/\R (Qc K a) H1
noncomputable def ia (K:PySem.W.Frag)(tl:TE):TI:=fun σ H R=>tl σ H fun x H1=>∃a,x=.ref a/\(∃xs,SqT K H1 a xs)/\R (PU K a) H1
theorem zR {l:Expr}{tl:TE}(hl:PE X l tl):PI X tg l (dk X.K tl):=by
 intro pins s σ H R I h
 refine dN (hl pins s σ H _ I h) fun v s1 ⟨x,H1,I1,r1,q1⟩=>?_
 obtain⟨a,e,⟨xs,hq⟩,q⟩:=q1
 subst e
 cases r1
 obtain⟨its,rv,p,hz⟩:=I1.list hq
 refine wpAny_pyIter_list p.isList ?_
 refine⟨s1.heap.objs.size,[s1.heap.objs.size],_,_,H1,rfl,I1.kept (t':=s1.toks) fun b o e=>Heap.get?_push_of_some _ e,AZ a _,⟨_,Heap.get?_push_size _ rfl,rfl,rfl⟩,fun b hb=>?_,q⟩
 have e:b=s1.heap.objs.size:=by simpa using hb
 subst e
 exact I1.fpOk (Nat.le_refl _) (I1.hok.fresh (Nat.le_refl _))
theorem LL {l:Expr}{tl:TE}(hl:PE X l tl):PI X tg l (ia X.K tl):=by
 intro pins s σ H R I h
 refine dN (hl pins s σ H _ I h) fun v s1 ⟨x,H1,I1,r1,q1⟩=>?_
 obtain⟨a,e,⟨xs,hq⟩,q⟩:=q1
 subst e
 cases r1
 obtain⟨its,rv,p,hz⟩:=I1.tuple hq
 refine wpAny_pyIter_tuple (show s1.heap.IsTuple a its.toArray from p) ?_
 refine⟨s1.heap.objs.size,[s1.heap.objs.size],_,_,H1,rfl,I1.kept (t':=s1.toks) fun b o e=>Heap.get?_push_of_some _ e,yw a _,⟨_,Heap.get?_push_size _ rfl,rfl,rfl⟩,fun b hb=>?_,q⟩
 have e:b=s1.heap.objs.size:=by simpa using hb
 subst e
 exact I1.fpOk (Nat.le_refl _) (I1.hok.fresh (Nat.le_refl _))
theorem Ea {pins:List (Addr×Obj)}{σ:St}{H:Hp}{s:Shared}{R:It->Hp->Prop}{E:Value->Shared->Prop}{lo hi:Int}{t u v:Tok}{tk:Nat}(I:Inv X pins σ H s)(h1:-(2 ^ 62)≤lo)(h2:lo<2 ^ 62)(h3:-(2 ^ 62)≤hi)(h4:hi<2 ^ 62)
  (q:R (HA lo (hi - lo).toNat) H):wpAny (model X.prog X.w) X.A (pyIter (.ref s.heap.objs.size)) (PQ X pins σ tg R) E { s with heap:=s.heap.push { cls:=.type "range",data:=.fields #[.int lo t,.int hi u,.int 1 v] },toks:=tk }:=by
 refine wpAny_pyIter_range (IsRange.new ..) (small_one h1 h2 h3 h4) ?_
 have I1:Inv X pins σ H { s with heap:=s.heap.push { cls:=.type "range",data:=.fields #[.int lo t,.int hi u,.int 1 v] },toks:=tk }:=I.kept fun b o e=>Heap.get?_push_of_some _ e
 refine⟨(s.heap.push { cls:=.type "range",data:=.fields #[.int lo t,.int hi u,.int 1 v] }).objs.size,[(s.heap.push { cls:=.type "range",data:=.fields #[.int lo t,.int hi u,.int 1 v] }).objs.size],_,_,H,rfl,
  I1.kept (t':=tk) fun b o e=>Heap.get?_push_of_some _ e,x0 _ lo (hi - lo).toNat,?_,fun b hb=>?_,q⟩
 ·have e1:lo+((0:Nat):Int) * 1=lo:=by simp
  have e2:(((hi - lo).toNat:Nat):Int) - ((0:Nat):Int)=Builtin.Range.rangeSize lo hi 1:=by rw[rangeSize_one];split<;>omega
  show IsRangeIter _ _ (lo+((0:Nat):Int) * 1) ((((hi - lo).toNat:Nat):Int) - ((0:Nat):Int)) 1
  rw[e1,e2]
  exact Heap.get?_push_size _ rfl
 ·have e:b=(s.heap.push { cls:=.type "range",data:=.fields #[.int lo t,.int hi u,.int 1 v] }).objs.size:=by simpa using hb
  subst e
  exact I1.fpOk (Nat.le_refl _) (I1.hok.fresh (Nat.le_refl _))
noncomputable def cD (ta:TA):TI:=fun σ H R=>ta σ H fun vs H1=>∃j:Int,vs=[.int j]/\-(2 ^ 62)≤j/\j<2 ^ 62/\R (HA 0 j.toNat) H1
noncomputable def dR (ta:TA):TI:=fun σ H R=>ta σ H fun vs H1=>∃i j:Int,vs=[.int i,.int j]/\(-(2 ^ 62)≤i/\i<2 ^ 62/\-(2 ^ 62)≤j/\j<2 ^ 62)/\R (HA i (j - i).toNat) H1
theorem j5 {a:Expr}{ta:TA}{p pos:Pos}(hg:Gl X "range")(hm:X.mg "range" = none)(ha:PA X [a] ta)(hs:starEach [a] X.env=[(false,eval a X.env)]:=by rfl):PI X tg (.Call (.Name "range" p) [a] [] pos) (cD ta):=by
 intro pins s σ H R I h
 refine Call_ (qk I hg hm boot_range (PyProof.Rows.callWith_type1 (dN (ha pos pins s σ H _ I h) fun us s1 ⟨vs,H1,I1,r1,q1⟩=>?_) hs rfl))
 obtain⟨j,e,q1,q2,q⟩:=q1
 subst e
 cases r1 with
 |cons r rr=>
  cases rr
  obtain⟨t,rfl⟩:=r
  exact call_range_1 (Ea I1 (by omega) (by omega) q1 q2 (by simpa using q))
noncomputable def AN (wi:TI)(g:TG)(tb:TS):TS:=fun D σ H=>wi σ H fun J H1=>∃W:Nat->Nat->St->Hp->Prop,(∃m,W 0 m σ H1)/\∀i m σ H,W i m σ H →
 (J.stop i H/\D.nx σ H)\/(J.go i H/\∃N:St->Hp->Prop,(∀σ' H',N σ' H'->∃m',m'<m/\W (i+1) m' σ' H')/\∀x H',J.yld i H x H'->g x σ H' fun σ2 H2=>tb { D with nx:=N,ct:=N,bk:=D.nx } σ2 H2)
noncomputable def p3 (fp:List Addr)(h:Heap):List (Addr×Obj):=fp.filterMap fun b=>(h.get? b).map fun o=>(b,o)
theorem kl {fp:List Addr}{h:Heap}{b:Addr}{o:Obj}(hb:b∈fp)(e:h.get? b=some o):(b,o)∈p3 fp h:=List.mem_filterMap.mpr ⟨b,hb,by rw[e];rfl⟩
theorem Ap {fp:List Addr}{h:Heap}{p:Addr×Obj}(hp:p∈p3 fp h):p.1∈fp/\h.get? p.1=some p.2:=by
 obtain⟨b,hb,e⟩:=List.mem_filterMap.mp hp
 cases q:h.get? b with
 |none=>rw[q] at e;cases e
 |some o=>
  rw[q] at e
  have e':(b,o)=p:=Option.some.inj e
  subst e'
  exact⟨hb,q⟩
theorem Inv.pinned {pins:List (Addr×Obj)}{σ:St}{H:Hp}{s:Shared}{fp:List Addr}(I:Inv X pins σ H s)(hf:∀b∈fp,o4 X pins H b)(ho:∀b∈fp,∃o,s.heap.get? b=some o/\∀v,o.data≠.cell v):Inv X (pins++p3 fp s.heap) σ H s:=
 I.pins_of fun p hp=>(List.mem_append.mp hp).elim (fun z=>I.pin p (List.mem_append_right _ z)) fun z=>by
  obtain⟨hb,e⟩:=Ap z
  obtain⟨f0,f1,f2,_⟩:=hf p.1 hb
  obtain⟨o,e',d⟩:=ho p.1 hb
  rw[e] at e';cases e'
  exact⟨e,f0,f1,f2,d⟩
theorem Inv.unpinned {pins pl:List (Addr×Obj)}{σ:St}{H:Hp}{s:Shared}(I:Inv X (pins++pl) σ H s):Inv X pins σ H s:=I.pins_of fun p hp=>I.pin p (List.mem_append_right _ (List.mem_append_left _ hp))
theorem io {iter:Expr}{body:List Stmt}{wi:TI}{g:TG}{tb:TS}{pos:Pos}(hp:PassesOwn (model X.prog X.w) X.A X.env X.xe)(hc:X.calm=true)(hi:PI X tg iter wi)(hg:PG X tg g)(hb:PSs X body tb)
  (hs:∀x,foldedSetIterable iter X.env x=pure x:=by intro _;rfl):PS X (.For tg iter body [] pos) (AN wi g tb):=by
 intro pins s σ H D I h
 refine wpAny_For (dN (hi pins s σ H _ I h) fun v s1 h1=>dN h1 fun itv s2 h2=>?_) hs
 obtain⟨it,fp,tn,J,H2,e,I2,T,xq,f2,W,⟨m0,w0⟩,turn⟩:=h2
 subst e
 have stat:∀{H':Hp},(∀b∈fp,H' b=none)->∀b∈fp,o4 X pins H' b:=fun hn b hb=>⟨hn b hb,(f2 b hb).2⟩
 refine codeAny_forLoop_any (fun n s'=>∃i σ' H',Inv X pins σ' H' s'/\tn i s'.heap/\(∀b∈fp,H' b=none)/\W i n σ' H') ?_ m0 ⟨0,σ,H2,I2,xq,fun b hb=>(f2 b hb).1,w0⟩
 rintro n s3 ⟨i,σ3,H3,I3,st3,fr3,w3⟩
 rcases turn i n σ3 H3 w3 with ⟨stop,qn⟩|⟨go,N,hN,step⟩
 ·refine wpAny_passesOwn hp (dN (T.done X rfl rfl rfl hc i pins s3 σ3 H3 X.xe I3 (stat fr3) st3 stop) fun r s4 ⟨hr,I4⟩=>?_)
  subst hr
  exact wpAny_execs_nil ⟨σ3,H3,I4,qn⟩
 ·refine wpAny_passesOwn hp (dN (T.item X rfl rfl rfl hc i pins s3 σ3 H3 X.xe I3 (stat fr3) st3 go) fun r s4 ⟨u,hr,h4⟩=>?_)
  subst hr
  refine wpAny_passesOwn hp (dN h4 fun _ s5 ⟨x,H5,I5,r5,y5,st5,fr5⟩=>?_)
  have I5':=I5.pinned (stat fr5) (T.obj _ _ st5)
  refine wpAny_passesOwn hp (dN (hg _ s5 σ3 H5 x u _ I5' r5 (step x H5 y5)) fun _ s6 ⟨σ6,H6,I6,q6⟩=>?_)
  refine wpAny_passesOwn hp (dN (hb _ s6 σ6 H6 _ I6 q6) fun f s7 q7=>?_)
  have again:∀{σ7:St} {H7:Hp},Inv X (pins++p3 fp s5.heap) σ7 H7 s7->N σ7 H7->∃m,m<n/\∃i σ' H',Inv X pins σ' H' s7/\tn i s7.heap/\(∀b∈fp,H' b=none)/\W i m σ' H':=fun {σ7 H7} I7 n7=>by
   obtain⟨m',hm,w7⟩:=hN σ7 H7 n7
   refine⟨m',hm,i+1,σ7,H7,I7.unpinned,T.keep _ _ _ st5 fun b hb o e=>(I7.pin (b,o) (List.mem_append_right _ (List.mem_append_right _ (kl hb e)))).1,fun b hb=>?_,w7⟩
   obtain⟨o,e,d⟩:=T.obj _ _ st5 b hb
   exact (I7.pin (b,o) (List.mem_append_right _ (List.mem_append_right _ (kl hb e)))).2.1
  cases f with
  |next=>obtain⟨σ7,H7,I7,n7⟩:=q7;exact again I7 n7
  |cont=>obtain⟨σ7,H7,I7,n7⟩:=q7;exact again I7 n7
  |brk=>obtain⟨σ7,H7,I7,q7⟩:=q7;exact⟨σ7,H7,I7.unpinned,q7⟩
  |ret v=>obtain⟨x7,σ7,H7,I7,r7,q7⟩:=q7;exact⟨x7,σ7,H7,I7.unpinned,r7,q7⟩
end
theorem Al {lo:Int}{n:Nat}{g:TG}{tb:TS}{D:Ends}{σ:St}{H:Hp}(Pv:Nat->St->Hp->Prop)(h0:Pv 0 σ H)
  (hs:∀i σ H,i<n->Pv i σ H->g (.int (lo+i)) σ H fun σ2 H2=>tb { D with nx:=Pv (i+1),ct:=Pv (i+1),bk:=D.nx } σ2 H2) (hd:∀σ H,Pv n σ H->D.nx σ H) :
  ∃W:Nat->Nat->St->Hp->Prop,(∃m,W 0 m σ H)/\∀i m σ H,W i m σ H →
   ((HA lo n).stop i H/\D.nx σ H)\/((HA lo n).go i H/\∃N:St->Hp->Prop,(∀σ' H',N σ' H'->∃m',m'<m/\W (i+1) m' σ' H')/\∀x H',(HA lo n).yld i H x H'->g x σ H' fun σ2 H2=>tb { D with nx:=N,ct:=N,bk:=D.nx } σ2 H2):=by
 refine⟨fun i m σ H=>m=n - i/\i≤n/\Pv i σ H,⟨n,by simp,Nat.zero_le _,h0⟩,?_⟩
 rintro i m σ H ⟨rfl,hi,p⟩
 by_cases hlt:i<n
 ·refine .inr ⟨hlt,Pv (i+1),fun σ' H' p'=>⟨n - (i+1),by omega,rfl,hlt,p'⟩,fun x H' y=>?_⟩
  obtain⟨e,y⟩:=y
  subst e y
  exact hs i σ _ hlt p
 ·have e:i=n:=by omega
  subst e
  exact .inl ⟨Nat.le_refl _,hd σ H p⟩
end L2
namespace L2
open PySem PySem.Spec PyProof.Rows
noncomputable abbrev R2:=V->V->Hp->VK->Prop
noncomputable def mw (X:Cx)(f:Value->Value->Sem Value)(r:R2):Prop:=
 ∀(pins:List (Addr×Obj)) (s:Shared) (σ:St) (H:Hp) (x y:V) (v u:Value) (Q:VK),Inv X pins σ H s->RelV x v->RelV y u->r x y H Q →
  wpAny (model X.prog X.w) X.A (f v u) (EP X pins σ Q) X.xe s
noncomputable def Pk (X:Cx)(f:Value->Sem Value)(r:V->Hp->VK->Prop):Prop:=
 ∀(pins:List (Addr×Obj)) (s:Shared) (σ:St) (H:Hp) (x:V) (v:Value) (Q:VK),Inv X pins σ H s->RelV x v->r x H Q →
  wpAny (model X.prog X.w) X.A (f v) (EP X pins σ Q) X.xe s
noncomputable def gZ (X:Cx)(f:Value)(r:List V->Hp->VK->Prop):Prop:=
 ∀(pins:List (Addr×Obj)) (s:Shared) (σ:St) (H:Hp) (xs:List V) (us:List Value) (Q:VK),Inv X pins σ H s->Vals xs us->r xs H Q →
  wpAny (model X.prog X.w) X.A (call f us) (EP X pins σ Q) X.xe s
noncomputable def m5 (r:R2)(ta tb:TE):TE:=fun σ H Q=>ta σ H fun x H1=>tb σ H1 fun y H2=>r x y H2 Q
noncomputable def ot (r:V->Hp->VK->Prop)(ta:TE):TE:=fun σ H Q=>ta σ H fun x H1=>r x H1 Q
noncomputable def rI (C:Int->Int->Prop)(g:Int->Int->V):R2:=fun x y H Q=>∃i j,x=.int i/\y=.int j/\C i j/\Q (g i j) H
noncomputable def ky (g:Int->Int->V):R2:=fun x y H Q=>∃i j,x=.int i/\y=.int j/\Q (g i j) H
noncomputable def rU (g:Int->V):V->Hp->VK->Prop:=fun x H Q=>∃i,x=.int i/\Q (g i) H
section
variable {X:Cx}{a b c:Expr}{ta tb tc:TE}{pos:Pos}
theorem Js (ha:PE X a ta)(hb:PE X b tb){pins:List (Addr×Obj)}{s:Shared}{σ:St}{H:Hp}{R:V->V->Hp->Prop}(I:Inv X pins σ H s)
  (h:ta σ H fun x H1=>tb σ H1 fun y H2=>R x y H2) {Q:Value->Shared->Prop} {f:Value->Value->Sem Value}
  (hf:∀v u s2 x y H2,Inv X pins σ H2 s2->RelV x v->RelV y u->R x y H2->wpAny (model X.prog X.w) X.A (f v u) Q X.xe s2) :
  wpAny (model X.prog X.w) X.A (eval a X.env) (fun v s₁=>wpAny (model X.prog X.w) X.A (eval b X.env) (fun u s₂=>wpAny (model X.prog X.w) X.A (f v u) Q X.xe s₂) X.xe s₁) X.xe s:=by
 refine dN (ha pins s σ H _ I h) fun v s1 ⟨x,H1,I1,r1,q1⟩=>?_
 refine dN (hb pins s1 σ H1 _ I1 q1) fun u s2 ⟨y,H2,I2,r2,q2⟩=>?_
 exact hf v u s2 x y H2 I2 r1 r2 q2
theorem DL {op:Operator}{r:R2}(ho:mw X (binaryOp op) r)(ha:PE X a ta)(hb:PE X b tb):PE X (.BinOp a op b pos) (m5 r ta tb):=by
 intro pins s σ H Q I h
 exact wpAny_BinOp (Js ha hb I h fun v u s2 x y H2 I2 rx ry q=>ho pins s2 σ H2 x y v u Q I2 rx ry q)
theorem IA {op:UnaryOp}{r:V->Hp->VK->Prop}(ho:Pk X (unaryOp op) r)(ha:PE X a ta):PE X (.UnaryOp op a pos) (ot r ta):=by
 intro pins s σ H Q I h
 exact UnaryOp_ (dN (ha pins s σ H _ I h) fun v s1 ⟨x,H1,I1,r1,q1⟩=>ho pins s1 σ H1 x v Q I1 r1 q1)
theorem Oh {f:Value->Value->Sem Value}{C:Int->Int->Prop}{g:Int->Int->Int}
  (rule:∀(i j:Int) (t u:Tok) (s:Shared) (Q:Value->Shared->Prop) (E:Value->Shared->Prop),C i j->Q (.int (g i j) s.toks) { s with toks:=s.toks+1 }->wpAny (model X.prog X.w) X.A (f (.int i t) (.int j u)) Q E s) :
  mw X f (rI C fun i j=>.int (g i j)):=by
 intro pins s σ H x y v u Q I rx ry h
 obtain⟨i,j,rfl,rfl,hc,q⟩:=h
 obtain⟨t,rfl⟩:=rx
 obtain⟨t',rfl⟩:=ry
 exact rule i j t t' s _ _ hc ⟨.int (g i j),H,I.tok _,⟨_,rfl⟩,q⟩
theorem NA {f:Value->Value->Sem Value}{g:Int->Int->Int}
  (rule:∀(i j:Int) (t u:Tok) (s:Shared) (Q:Value->Shared->Prop) (E:Value->Shared->Prop),Q (.int (g i j) s.toks) { s with toks:=s.toks+1 }->wpAny (model X.prog X.w) X.A (f (.int i t) (.int j u)) Q E s) :
  mw X f (ky fun i j=>.int (g i j)):=by
 intro pins s σ H x y v u Q I rx ry h
 obtain⟨i,j,rfl,rfl,q⟩:=h
 obtain⟨t,rfl⟩:=rx
 obtain⟨t',rfl⟩:=ry
 exact rule i j t t' s _ _ ⟨.int (g i j),H,I.tok _,⟨_,rfl⟩,q⟩
theorem Hn {f:Value->Value->Sem Value}{g:Int->Int->Bool}
  (rule:∀(i j:Int) (t u:Tok) (s:Shared) (Q:Value->Shared->Prop) (E:Value->Shared->Prop),Q (.bool (g i j)) s->wpAny (model X.prog X.w) X.A (f (.int i t) (.int j u)) Q E s) :
  mw X f (ky fun i j=>.bl (g i j)):=by
 intro pins s σ H x y v u Q I rx ry h
 obtain⟨i,j,rfl,rfl,q⟩:=h
 obtain⟨t,rfl⟩:=rx
 obtain⟨t',rfl⟩:=ry
 exact rule i j t t' s _ _ ⟨.bl (g i j),H,I,rfl,q⟩
noncomputable def NH (i j:Int):Prop:=0<j/\j<1073741824
noncomputable def ND (i j:Int):Prop:=0≤j/\j≤1000000/\i.natAbs<2 ^ 64
noncomputable def CMul (i j:Int):Prop:=(-(2 ^ 64)<i/\i<2 ^ 64)\/(-(2 ^ 64)<j/\j<2 ^ 64)
theorem CMul.ok {i j:Int}(h:CMul i j):IntMulOk i j:=by
 rcases h with ⟨h1,h2⟩|⟨h1,h2⟩
 ·exact .of_left (intBits_le_64 h1 h2)
 ·exact .of_right (intBits_le_64 h1 h2)
theorem Jx:mw X (binaryOp .Add) (ky fun i j=>.int (i+j)):=NA fun _ _ _ _ _ _ _ q=>add_int q
theorem JF:mw X (binaryOp .Sub) (ky fun i j=>.int (i - j)):=NA fun _ _ _ _ _ _ _ q=>sub_int q
theorem LB:mw X (binaryOp .Mult) (rI CMul fun i j=>.int (i * j)):=Oh fun _ _ _ _ _ _ _ hc q=>mul_int q hc.ok
theorem FP:mw X (binaryOp .FloorDiv) (rI NH fun i j=>.int (i / j)):=Oh fun i j _ _ _ _ _ hc q=>by
 have h1:(0:Int)<j:=hc.1
 have h2:j<1073741824:=hc.2
 exact floordiv_int (by omega) (by rw[Int.fdiv_eq_ediv_of_nonneg i (by omega)];exact q) (.inl (PyProof.noPylong_small (by omega)))
theorem JV:mw X (binaryOp .Mod) (rI (fun _ j=>0<j) fun i j=>.int (i % j)):=Oh fun i j _ _ _ _ _ hc q=>by
 have h1:(0:Int)<j:=hc
 exact mod_int' (by omega) (by rw[Int.fmod_eq_emod_of_nonneg i (by omega)];exact q)
theorem KZ:mw X (binaryOp .Pow) (rI ND fun i j=>.int (i ^ j.toNat)):=Oh fun _ _ _ _ _ _ _ hc q=>pow_int_small hc.1 hc.2.1 hc.2.2 q
theorem QA {f:Value->Sem Value}{g:Int->Int}
  (rule:∀(i:Int) (t:Tok) (s:Shared) (Q:Value->Shared->Prop) (E:Value->Shared->Prop),Q (.int (g i) s.toks) { s with toks:=s.toks+1 }->wpAny (model X.prog X.w) X.A (f (.int i t)) Q E s) :
  Pk X f (rU fun i=>.int (g i)):=by
 intro pins s σ H x v Q I rx h
 obtain⟨i,rfl,q⟩:=h
 obtain⟨t,rfl⟩:=rx
 exact rule i t s _ _ ⟨.int (g i),H,I.tok _,⟨_,rfl⟩,q⟩
theorem Dq:Pk X (unaryOp .USub) (rU fun i=>.int (-i)):=QA fun _ _ _ _ _ q=>neg_int q
end
noncomputable def MP:V->V->Bool
 |.non,.non=>true|.non,.int _=>true|.int _,.non=>true|.non,.bl _=>true|.bl _,.non=>true|.non,.str _=>true|.str _,.non=>true
 |.int _,.int _=>true|.bl _,.bl _=>true|.str _,.str _=>true|.byt _,.byt _=>true
 |.int _,.str _=>true|.str _,.int _=>true|.bl _,.str _=>true|.str _,.bl _=>true
 |_,_=>false
noncomputable def dB:R2:=fun x y H Q=>MP x y=true/\Q (.bl (decide (x=y))) H
noncomputable def iw:R2:=fun x y H Q=>MP x y=true/\Q (.bl (!decide (x=y))) H
theorem zy {i j:Int}:decide (V.int i=V.int j)=(i==j):=by
 rw[Bool.eq_iff_iff]
 simp
theorem JZ {i j:Bool}:decide (V.bl i=V.bl j)=(i==j):=by
 rw[Bool.eq_iff_iff]
 simp
theorem Fv {i j:Str}:decide (V.str i=V.str j)=(i==j):=by
 rw[Bool.eq_iff_iff]
 simp
theorem EX {i j:Array UInt8}:decide (V.byt i=V.byt j)=(i.toList==j.toList):=by
 rw[Bool.eq_iff_iff]
 cases i
 cases j
 simp
section
variable {X:Cx}{a b c:Expr}{ta tb tc:TE}{pos:Pos}
theorem fX {pins:List (Addr×Obj)}{σ:St}{H:Hp}{s:Shared}{Q:VK}{k k':Bool}(I:Inv X pins σ H s)(q:Q (.bl k) H)(e:k=k'):EP X pins σ Q (.bool k') s:=by
 subst e
 exact⟨.bl k,H,I,rfl,q⟩
theorem zK:mw X (compareOp .NotEq) iw:=by
 intro pins s σ H x y v u Q I rx ry h
 obtain⟨hs,q⟩:=h
 cases x with
 |non=>
  cases rx
  cases y with
  |non=>cases ry;exact PySem.EqNone.ne_none_none (fX I q (by simp))
  |bl j=>cases ry;exact PySem.EqNone.ne_none_bool (fX I q (by simp))
  |int j=>obtain⟨t',rfl⟩:=ry;exact PySem.EqNone.ne_none_int (fX I q (by simp))
  |str j=>obtain⟨t',rfl⟩:=ry;exact PySem.EqNone.ne_none_str (fX I q (by simp))
  |_=>exact absurd (show false=true from hs) Bool.false_ne_true
 |bl i=>
  cases rx
  cases y with
  |non=>cases ry;exact PySem.EqNone.ne_bool_none (fX I q (by simp))
  |bl j=>cases ry;exact ne_bool (fX I q (congrArg not JZ))
  |str j=>obtain⟨t',rfl⟩:=ry;exact PySem.EqMixed.ne_bool_str (fX I q (by simp))
  |_=>exact absurd (show false=true from hs) Bool.false_ne_true
 |int i=>
  obtain⟨t,rfl⟩:=rx
  cases y with
  |non=>cases ry;exact PySem.EqNone.ne_int_none (fX I q (by simp))
  |int j=>obtain⟨t',rfl⟩:=ry;exact ne_int (fX I q (congrArg not zy))
  |str j=>obtain⟨t',rfl⟩:=ry;exact PySem.EqMixed.ne_int_str (fX I q (by simp))
  |_=>exact absurd (show false=true from hs) Bool.false_ne_true
 |str i=>
  obtain⟨t,rfl⟩:=rx
  cases y with
  |non=>cases ry;exact PySem.EqNone.ne_str_none (fX I q (by simp))
  |bl j=>cases ry;exact PySem.EqMixed.ne_str_bool (fX I q (by simp))
  |int j=>obtain⟨t',rfl⟩:=ry;exact PySem.EqMixed.ne_str_int (fX I q (by simp))
  |str j=>obtain⟨t',rfl⟩:=ry;exact ne_str (fX I q (congrArg not Fv))
  |_=>exact absurd (show false=true from hs) Bool.false_ne_true
 |byt i=>
  obtain⟨t,rfl⟩:=rx
  cases y with
  |byt j=>obtain⟨t',rfl⟩:=ry;exact PySem.W.ne_bytes (fX I q (congrArg not EX))
  |_=>exact absurd (show false=true from hs) Bool.false_ne_true
 |_=>cases y<;>exact absurd (show false=true from hs) Bool.false_ne_true
theorem My:mw X (compareOp .Lt) (ky fun i j=>.bl (decide (i<j))):=Hn fun _ _ _ _ _ _ _ q=>lt_int q
theorem Of:mw X (compareOp .LtE) (ky fun i j=>.bl (decide (i≤j))):=Hn fun _ _ _ _ _ _ _ q=>le_int q
theorem N8:mw X (compareOp .Gt) (ky fun i j=>.bl (decide (j<i))):=Hn fun _ _ _ _ _ _ _ q=>gt_int q
theorem Nr:mw X (compareOp .GtE) (ky fun i j=>.bl (decide (j≤i))):=Hn fun _ _ _ _ _ _ _ q=>ge_int q
theorem aO (b:Expr){op:CmpOp}(h:op≠.In:=by decide)(h2:op≠.NotIn:=by decide):behindInMarks op b=false:=by
 have e1:(op==CmpOp.In)=false:=by cases op<;>first|rfl|exact absurd rfl h
 have e2:(op==CmpOp.NotIn)=false:=by cases op<;>first|rfl|exact absurd rfl h2
 cases b<;>simp[behindInMarks,e1,e2]
theorem Hs {op:CmpOp}{r:R2}(ho:mw X (compareOp op) r)(ha:PE X a ta)(hb:PE X b tb)(hm:behindInMarks op b=false):PE X (.Compare a [op] [b] pos) (m5 r ta tb):=by
 intro pins s σ H Q I h
 exact wpAny_Compare1 (Js ha hb I h fun v u s2 x y H2 I2 rx ry q=>ho pins s2 σ H2 x y v u Q I2 rx ry q) hm
noncomputable def dy (t:TE):TT:=fun σ H Q=>t σ H fun x H'=>∃k,x=.bl k/\Q k H'
theorem oi {op:CmpOp}{r:R2}(ho:mw X (compareOp op) r)(ha:PE X a ta)(hb:PE X b tb)(hm:behindInMarks op b=false):PT X (.Compare a [op] [b] pos) (dy (m5 r ta tb)):=by
 intro pins s σ H Q I h
 refine wpAny_isTrue_Compare1 (dN (ha pins s σ H _ I h) fun v s1 ⟨x,H1,I1,r1,q1⟩=>dN (hb pins s1 σ H1 _ I1 q1) fun u s2 ⟨y,H2,I2,r2,q2⟩=>
  dN (ho pins s2 σ H2 x y v u _ I2 r1 r2 q2) fun c s3 ⟨z,H3,I3,r3,k,e,q3⟩=>?_) hm
 subst e
 cases r3
 exact wpAny_truthy_bool ⟨H3,I3,q3⟩
noncomputable def bS (r r':R2)(ta tb tc:TE):TE:=fun σ H Q=>ta σ H fun x H1=>tb σ H1 fun y H2=>r x y H2 fun z H3=>∃k,z=.bl k ∧
 (if k=true then tc σ H3 fun w' H4=>r' y w' H4 Q else Q (.bl false) H3)
theorem DY {op op':CmpOp}{r r':R2}(ho:mw X (compareOp op) r)(ho':mw X (compareOp op') r')(ha:PE X a ta)(hb:PE X b tb)(hc:PE X c tc)
  (hm:lastMarks [op,op'] [b,c]=false:=by with_unfolding_all rfl):PE X (.Compare a [op,op'] [b,c] pos) (bS r r' ta tb tc):=by
 intro pins s σ H Q I h
 refine Compare_chain (dN (ha pins s σ H _ I h) fun v s1 ⟨x,H1,I1,r1,q1⟩=>chain_link (dN (hb pins s1 σ H1 _ I1 q1) fun u s2 ⟨y,H2,I2,r2,q2⟩=>
  dN (ho pins s2 σ H2 x y v u _ I2 r1 r2 q2) fun d s3 ⟨z,H3,I3,r3,k,e,q3⟩=>?_)) hm
 subst e
 cases r3
 refine wpAny_truthy_bool ?_
 cases k with
 |false=>exact ite_ff ⟨.bl false,H3,I3,rfl,q3⟩
 |true=>exact ite_tt (chain_last (dN (hc pins s3 σ H3 _ I3 q3) fun w' s4 ⟨z',H4,I4,r4,q4⟩=>ho' pins s4 σ H4 y z' u w' Q I4 r2 r4 q4))
theorem qZ:(sizeLine:Nat)<2 ^ 63:=by rw[sizeLine_eq];decide
theorem y4:mw X (binaryOp .Add) (fun x y H Q=>∃i j,x=.str i/\y=.str j/\i.length+j.length≤sizeLine/\Q (.str (i++j)) H):=by
 intro pins s σ H x y v u Q I rx ry h
 obtain⟨i,j,rfl,rfl,hz,q⟩:=h
 obtain⟨t,rfl⟩:=rx
 obtain⟨t',rfl⟩:=ry
 exact add_str (fun t' tk=>⟨.str (i++j),H,I.tok _,⟨_,rfl⟩,q⟩) hz
theorem kJ {x:V}{us:List Value}(r:Vals [x] us):∃u,us=[u]/\RelV x u:=by
 cases r with
 |cons r1 r2=>cases r2;exact⟨_,rfl,r1⟩
theorem Nq {x y:V}{us:List Value}(r:Vals [x,y] us):∃u w',us=[u,w']/\RelV x u/\RelV y w':=by
 cases r with
 |cons r1 r2=>
  cases r2 with
  |cons r3 r4=>cases r4;exact⟨_,_,rfl,r1,r3⟩
theorem Db:gZ X (.builtin "abs") (fun xs H Q=>∃i,xs=[.int i]/\Q (.int (if i<0 then -i else i)) H):=by
 intro pins s σ H xs us Q I r h
 obtain⟨i,rfl,q⟩:=h
 obtain⟨u,rfl,t,rfl⟩:=kJ r
 exact call_abs_int fun u tk=>⟨.int (if i<0 then -i else i),H,I.tok _,⟨_,rfl⟩,q⟩
theorem As (hc:X.calm=true):gZ X (.builtin "min") (fun xs H Q=>∃i j,xs=[.int i,.int j]/\Q (.int (if j<i then j else i)) H):=by
 intro pins s σ H xs us Q I r h
 obtain⟨i,j,rfl,q⟩:=h
 obtain⟨u,w',rfl,⟨t,rfl⟩,⟨t',rfl⟩⟩:=Nq r
 refine min_two_ints (I.ok.hd hc) fun h' tk k=>⟨_,H,I.kept k,?_,q⟩
 by_cases hj:j<i
 ·rw[if_pos hj,if_pos hj];exact⟨_,rfl⟩
 ·rw[if_neg hj,if_neg hj];exact⟨_,rfl⟩
theorem jS:gZ X (.type "int") (fun xs H Q=>(∃i,xs=[.int i]/\Q (.int i) H)\/∃k,xs=[.bl k]/\Q (.int (if k then 1 else 0)) H):=by
 intro pins s σ H xs us Q I r h
 rcases h with ⟨i,rfl,q⟩|⟨k,rfl,q⟩
 ·obtain⟨u,rfl,t,rfl⟩:=kJ r
  exact call_int_int ⟨.int i,H,I,⟨_,rfl⟩,q⟩
 ·obtain⟨u,rfl,r1⟩:=kJ r
  cases r1
  exact call_int_bool ⟨.int (if k then 1 else 0),H,I.tok _,⟨_,rfl⟩,q⟩
noncomputable def Lj (K:PySem.W.Frag)(x:V)(H:Hp)(n:Nat):Prop:=
 match x with
 |.str y=>y.length≤sizeLine/\n=y.length
 |.byt y=>y.size≤sizeLine/\n=y.size
 |.ref p=>(∃xs,SqL K H p xs/\n=xs.length)\/∃xs,SqT K H p xs/\n=xs.length
 |_=>False
theorem ez:gZ X (.builtin "len") (fun xs H Q=>∃x n,xs=[x]/\Lj X.K x H n/\Q (.int n) H):=by
 intro pins s σ H xs us Q I r h
 obtain⟨x,n,rfl,e,q⟩:=h
 obtain⟨u,rfl,rx⟩:=kJ r
 have hl:=qZ
 have hs:sizeLine=16777216:=sizeLine_eq
 cases x with
 |str y=>
  obtain⟨t,rfl⟩:=rx
  obtain⟨hy,e'⟩:y.length≤sizeLine/\n=y.length:=e
  subst e'
  exact len_str (by omega) ⟨.int _,H,I.tok _,⟨_,rfl⟩,q⟩
 |byt y=>
  obtain⟨t,rfl⟩:=rx
  obtain⟨hy,e'⟩:y.size≤sizeLine/\n=y.size:=e
  subst e'
  exact PySem.W.len_bytes (by omega) ⟨.int _,H,I.tok _,⟨_,rfl⟩,q⟩
 |ref p=>
  cases rx
  have e':(∃xs,SqL X.K H p xs/\n=xs.length)\/∃xs,SqT X.K H p xs/\n=xs.length:=e
  rcases e' with ⟨xs,hx,e'⟩|⟨xs,hx,e'⟩
  ·subst e'
   obtain⟨its,r',pl,hz⟩:=I.list hx
   have hlen:=r'.length
   exact Calls.call_len_list pl.isList (by simp only[List.size_toArray];omega) ⟨.int xs.length,H,I.tok _,⟨_,by simp only[List.size_toArray];rw[hlen]⟩,q⟩
  ·subst e'
   obtain⟨its,r',pl,hz⟩:=I.tuple hx
   have hlen:=r'.length
   exact len_tuple pl (by simp only[List.size_toArray];omega) ⟨.int xs.length,H,I.tok _,⟨_,by simp only[List.size_toArray];rw[hlen]⟩,q⟩
 |_=>exact (show False from e).elim
end
end L2
namespace L2
open PySem PySem.Spec PyProof.Rows
structure ObjM (h:Heap)(x dx C:Addr)(mA:Str->Option Value):Prop where
 obj:h.get? x=some (PySem.W.instObj C dx)
 ns:h.Ns1 dx mA
 ne:dx≠x
theorem AQ {h:Heap}{dx:Addr}{mA:Str->Option Value}(n:h.Ns1 dx mA):∃od,h.get? dx=some od/\∀name,PySem.W.lookIn name od=some (mA name):=by
 obtain⟨o,es,ep,ho,hd,hk,_,hm⟩:=n
 refine⟨o,ho,fun name=>?_⟩
 have e:=hm name
 unfold nsFind findBy at e
 rw[←Array.find?_toList] at e
 unfold PySem.W.lookIn
 rw[hd]
 dsimp only
 split
 ·rename_i y q
  rw[q] at e
  exact congrArg some e
 ·rename_i q
  rw[q] at e
  have a:es.toList.any (·.refKey)=false:=by
   rw[List.any_eq_false]
   intro y hy
   obtain⟨z,t,hkey⟩:=hk y (Array.mem_toList_iff.mp hy)
   simp[DictEntry.refKey,hkey]
  have a':¬es.toList.any (·.refKey)=true:=by rw[a];exact Bool.false_ne_true
  rw[if_neg a']
  exact congrArg some e
theorem ObjM.look {h:Heap}{x dx C:Addr}{mA:Str->Option Value}(I:ObjM h x dx C mA):∃od,PySem.W.InstAt h x (PySem.W.instObj C dx) C (some od)/\∀name,PySem.W.lookIn name od=some (mA name):=
 let ⟨od,ho,hl⟩:=AQ I.ns
 ⟨od,⟨I.obj,rfl,rfl,ho⟩,hl⟩
section
variable {prog:Program}{w:World}{A:Around}{E:Value->Shared->Prop}{s:Shared}{K:PySem.W.Frag}{x dx C f:Addr}{mA:Str->Option Value}{name:Str}{v:Value}
theorem mF {ns:List Str}{Q:Unit->Shared->Prop}(X:K.In s.heap)(I:ObjM s.heap x dx C mA)
  (hs:PySem.W.findIn K (.ref C) "__setattr__" = some (some (.builtin "object.__setattr__"))) (hp:PySem.W.plainOver K C=true) (ht:PySem.W.takerIn K C name=some none) (hh:PySem.W.hasDictIn K C=true)
  (hw:PySem.Within mA ns) (hsz:ns.length≤sizeLine)
  (h:∀h',ObjM h' x dx C (fun y=>if y=name then some v else mA y)->Heap.SameBut dx s.heap h'->Q () { s with heap:=h',toks:=s.toks+2 }) :
  wpAny (model prog w) A (setAttr (.ref x) name v) Q E s:=by
 obtain⟨od,J,hl⟩:=I.look
 refine PySem.W.set_plain X J hs (PySem.W.osa_open (s:={ s with toks:=s.toks+1 }) (r:=none) X J hp ht fun b=>?_)
 obtain⟨cd,hc,hd'⟩:=PySem.W.any_some hh
 have hx:s.heap.get? x=some ⟨.ref C,some dx,.plain,#[]⟩:=I.obj
 refine wpAny_bind (wpAny_pure (wpAny_bind (wpAny_bind (wpAny_loadPart hx (wpAny_bind (PySem.W.Looks.here (s:={ s with toks:=s.toks+1 }) (PySem.W.looks_clsIn X hc) ?_))))))
 rw[hd']
 refine wpAny_pure (a:=some dx) (wpAny_bind (wpAny_pure (wpAny_bind ?_)))
 refine wpAny_nsSet1 (s:={ s with toks:=s.toks+1 }) I.ns fun h' hn2 hs2=>?_
 obtain⟨oD,esD,epD,hoD,hdD,hcD⟩:=hn2.count (PySem.Within.cons name v hw)
 refine wpAny_bind (wpAny_lookBehind hoD (by rw[hdD];exact pastItsLine_dict (Nat.le_trans hcD (by rw[List.length_cons];omega))) ?_)
 exact wpAny_pure (h _ ⟨(hs2.2 _ (Ne.symm I.ne)).trans I.obj,hn2,I.ne⟩ hs2)
end
section
variable {P:Program}{w:World}{H H':Hp}{h h':Heap}{a C dx:Addr}{fs fs':List (Str×V)}
theorem Ga (hok:HOk P w H h)(e:H a=some (.ins C dx fs)):∃mA,ObjM h a dx C mA/\(∀f,GU (fs.lookup f) (mA f))/\PySem.Within mA (fs.map (·.1))/\fs.length≤1000/\H dx=some (.own a):=by
 obtain⟨d,z,ne,ob,mA,n,r,q⟩:=(show ObjOk P w H h a (.ins C dx fs) from hok a _ e)
 exact⟨mA,⟨ob,n,ne⟩,r,q,z,d⟩
end
structure Cls (K:PySem.W.Frag)(C:Addr):Prop where
 pg:PySem.W.plainGet K C Str.empty=true
 hd:PySem.W.hasDictIn K C=true
 po:PySem.W.plainOver K C=true
 sa:PySem.W.findIn K (.ref C) "__setattr__" = some (some (.builtin "object.__setattr__"))
theorem Cls.get {K:PySem.W.Frag}{C:Addr}(c:Cls K C)(f:Str):PySem.W.plainGet K C f=true:=c.pg
section
variable {X:Cx}{o e value:Expr}{f:Str}{pos pos' tpos:Pos}{ta tv:TE}
noncomputable def bo:V->V->Hp->VK->Prop:=fun x y H Q=>∃i j,x=.int i/\y=.int j/\Q (.int (i+j)) H
noncomputable def vY:V->V->Hp->VK->Prop:=fun x y H Q=>∃i j,x=.int i/\y=.int j/\Q (.int (i - j)) H
end
section
variable {X:Cx}{pins:List (Addr×Obj)}{σ:St}{H:Hp}{s:Shared}{A:Around}{E:Value->Shared->Prop}{Q:Value->Shared->Prop}{c:Value}{b:Bool}
inductive TyOf (K:PySem.W.Frag) (H:Hp):V->Value->Prop where
 |non:TyOf K H .non (.type "NoneType")
 |bl (x:Bool):TyOf K H (.bl x) (.type "bool")
 |int (i:Int):TyOf K H (.int i) (.type "int")
 |str (x:Str):TyOf K H (.str x) (.type "str")
 |flt (x:UInt64):TyOf K H (.flt x) (.type "float")
 |lst {a:Addr} {xs:List V} (e:H a=some (.lst xs)):TyOf K H (.ref a) (.type "list")
 |frz {a:Addr} {o:Obj} {xs:List V} (e:H a=some (.frz o (.lst xs))):TyOf K H (.ref a) (.type "list")
 |tup {a:Addr} {xs:List V} (e:H a=some (.tup xs)):TyOf K H (.ref a) (.type "tuple")
 |dK {a:Addr} {kvs:List (iW×V)} (e:H a=some (.dK kvs)):TyOf K H (.ref a) (.type "dict")
 |dT {a:Addr} {kvs:List (List iW×V)} (e:H a=some (.dT kvs)):TyOf K H (.ref a) (.type "dict")
 |ins {a C dx:Addr} {fs:List (Str×V)} (e:H a=some (.ins C dx fs)) (cl:Cls K C) (ha:PySem.W.findIn K (.ref C) "__class__" = some (some (.builtin "object.__class__")))
   (hn:PySem.W.specialIn K (.builtin "object.__class__") "__get__" = some (some (.builtin "getset_descriptor.__get__"))) (htk:PySem.W.takesIn K (.builtin "object.__class__")=some true)
   (hm:PySem.W.mroIn K C (.type "object")=some true):TyOf K H (.ref a) (.ref C)
theorem A9 {x:V}{u t:Value}(I:Inv X pins σ H s)(rx:RelV x u)(ty:TyOf X.K H x t)(e:PySem.W.kitOne X.K t c=some b)(h:∀tk,Q (.bool b) { s with toks:=tk }) :
  wpAny (model X.prog X.w) A (call (.builtin "isinstance") [u,c]) Q E s:=by
 cases ty with
 |non=>cases (show u=Value.none from rx);exact PySem.W.kia_one PySem.W.kitx_none I.kIn True.intro e (fun z=>nomatch z) h
 |bl y=>cases (show u=Value.bool y from rx);exact PySem.W.kia_one PySem.W.kitx_bool I.kIn True.intro e (fun z=>nomatch z) h
 |int i=>obtain⟨t,q⟩:=(show ∃t,u=Value.int i t from rx);cases q;exact PySem.W.kia_one PySem.W.kitx_int I.kIn True.intro e (fun z=>nomatch z) h
 |str y=>obtain⟨t,q⟩:=(show ∃t,u=Value.str y t from rx);cases q;exact PySem.W.kia_one PySem.W.kitx_str I.kIn True.intro e (fun z=>nomatch z) h
 |flt y=>obtain⟨t,q⟩:=(show ∃t,u=Value.float y t from rx);cases q;exact PySem.W.kia_one PySem.W.kitx_float I.kIn True.intro e (fun z=>nomatch z) h
 | @lst a xs ea=>
  cases (show u=Value.ref a from rx)
  obtain⟨_,_,n,_,h1⟩:=(show ObjOk X.prog X.w H s.heap a (.lst xs) from I.hok a _ ea)
  exact PySem.W.kia_one PySem.W.kitx_list I.kIn ⟨_,h1,rfl⟩ e (fun z=>nomatch z) h
 | @frz a ob xs ea=>
  cases (show u=Value.ref a from rx)
  obtain⟨_,_,_,n,_,h1⟩:=(show ObjOk X.prog X.w H s.heap a (.frz ob (.lst xs)) from I.hok a _ ea)
  exact PySem.W.kia_one PySem.W.kitx_list I.kIn ⟨_,h1,rfl⟩ e (fun z=>nomatch z) h
 | @tup a xs ea=>
  cases (show u=Value.ref a from rx)
  obtain⟨_,_,_,p⟩:=(show ObjOk X.prog X.w H s.heap a (.tup xs) from I.hok a _ ea)
  obtain⟨o,h1,h2,_⟩:=p
  exact PySem.W.kia_one PySem.W.kitx_tuple I.kIn ⟨o,h1,h2⟩ e (fun z=>nomatch z) h
 | @dK a kvs ea=>
  cases (show u=Value.ref a from rx)
  obtain⟨_,_,vs,_,p⟩:=(show ObjOk X.prog X.w H s.heap a (.dK kvs) from I.hok a _ ea)
  obtain⟨o,es,ep,h1,h2,_⟩:=p
  exact PySem.W.kia_one PySem.W.kitx_dict I.kIn ⟨o,h1,h2.1⟩ e (fun z=>nomatch z) h
 | @dT a kvs ea=>
  cases (show u=Value.ref a from rx)
  obtain⟨_,_,xs,_,o,es,ep,h1,h2,_⟩:=(show ObjOk X.prog X.w H s.heap a (.dT kvs) from I.hok a _ ea)
  exact PySem.W.kia_one PySem.W.kitx_dict I.kIn ⟨o,h1,h2.1⟩ e (fun z=>nomatch z) h
 | @ins a C dx fs ea cl ha hn htk hm=>
  cases (show u=Value.ref a from rx)
  obtain⟨mA,O,_⟩:=Ga I.hok ea
  obtain⟨od,J,_⟩:=O.look
  exact PySem.W.kia_one (PySem.W.kitx_own (cl.get _) cl.hd ha hn htk hm) I.kIn J e (fun z=>nomatch z) h
end
end L2
namespace L2
open PySem PySem.Spec PyProof.Rows
structure Room (k:Nat)(A:Around):Prop where
 hd:A.handled=none
 dp:A.depth+3 * k+5<recursionLimit
 un:A.units+16 * k+200<cLine
theorem Room.mono {j k:Nat}{A:Around}(r:Room k A)(h:j≤k):Room j A:=⟨r.hd,by have:=r.dp;omega,by have:=r.un;omega⟩
theorem Room.deeper {k:Nat}{A:Around}(r:Room (k+1) A)(env:Env):Room k (A.deeper env):=
 ⟨r.hd,by have:=r.dp;show A.depth+1+3 * k+5<_;omega,by have:=r.un;show A.units+3+16 * k+200<_;omega⟩
theorem Room.depth {k:Nat}{A:Around}(r:Room k A):A.depth<recursionLimit:=by have:=r.dp;omega
theorem Room.units {k:Nat}{A:Around}(r:Room k A):A.units+64<cLine:=by have:=r.un;omega
noncomputable def eN:TA:=fun _ H Q=>Q [] H
noncomputable def bI (ta:TE)(tr:TA):TA:=fun σ H Q=>ta σ H fun x H1=>tr σ H1 fun xs H2=>Q (x::xs) H2
section
variable {X:Cx}{e:Expr}{es:List Expr}{te:TE}{t:TA}{pos:Pos}
theorem cO:PA X [] eN:=fun _ _ _ _ H Q I h=>Calls.spliced_nil ⟨[],H,I,.nil,h⟩
theorem Hb (ha:PE X e te)(hr:PA X es t)(hs:starEach (e::es) X.env=(false,eval e X.env)::starEach es X.env:=by rfl):PA X (e::es) (bI te t):=by
 intro pos pins s σ H Q I h
 rw[hs]
 show wpAny _ _ (spliced ((false,eval e X.env)::backTo pos (starEach es X.env))) _ _ s
 refine Calls.spliced_cons (dN (ha pins s σ H _ I h) fun u s1 ⟨x,H1,I1,r1,q1⟩=>?_)
 exact dN (hr pos pins s1 σ H1 _ I1 q1) fun us s2 ⟨xs,H2,I2,r2,q2⟩=>⟨x::xs,H2,I2,.cons r1 r2,q2⟩
noncomputable def h8 (t:TA):TE:=fun σ H Q=>t σ H fun xs H1=>xs.length≤sizeLine/\∀p,H1 p=none->Q (.ref p) (upd H1 p (.tup xs))
noncomputable def gT (t:TA):TE:=fun σ H Q=>t σ H fun xs H1=>xs.length≤sizeLine/\∀p,H1 p=none->Q (.ref p) (upd H1 p (.lst xs))
theorem nh {x1}(h:PA X es t):PE X (.Tuple es x1 pos) (h8 t):=by
 intro pins s σ H Q I hq
 refine wpAny_Tuple_spliced (dN (h pos pins s σ H _ I hq) fun us s1 ⟨xs,H1,I1,r,z,q⟩=>⟨by rw[←r.length];exact z,?_⟩)
 have hf:H1 s1.heap.objs.size=none:=I1.hok.fresh (Nat.le_refl _)
 refine⟨.ref s1.heap.objs.size,upd H1 s1.heap.objs.size (.tup xs),I1.laid (t':=s1.toks) (fun b u e=>Heap.get?_push_of_some _ e) (Nat.le_refl _) ?_,rfl,q _ hf⟩
 exact⟨z,us,r,⟨_,Heap.get?_push_size _ rfl,rfl,_,rfl⟩⟩
theorem Ey (h:PA X es t):PE X (.List es pos) (gT t):=by
 intro pins s σ H Q I hq
 refine wpAny_List_spliced (dN (h pos pins s σ H _ I hq) fun us s1 ⟨xs,H1,I1,r,z,q⟩=>⟨by rw[←r.length];exact z,?_⟩)
 have hf:H1 s1.heap.objs.size=none:=I1.hok.fresh (Nat.le_refl _)
 refine⟨.ref s1.heap.objs.size,upd H1 s1.heap.objs.size (.lst xs),I1.laid (t':=s1.toks) (fun b u e=>Heap.get?_push_of_some _ e) (Nat.le_refl _) ?_,rfl,q _ hf⟩
 exact⟨z,us,0,r,Heap.get?_push_size _ rfl⟩
end
noncomputable abbrev Sp:=List V->Hp->VK->XK->Prop
noncomputable abbrev zf:=List Env->Hp->Shared->XK->Value->Shared->Prop
structure Env0 (P:Program)(w:World)(K:PySem.W.Frag)(mg:Str->Option Value)(base:Heap)(A:Around)(outer:List Env)(s:Shared)(H:Hp):Prop where
 frames:A.frames=some outer
 mod:Mod K mg base
 bs:∀b o,base.get? b=some o->s.heap.get? b=some o/\H b=none
 bsz:base.objs.size≤s.heap.objs.size
 funs:s.heap.FunFrames base outer
 frf:∀b∈x4 outer,H b=none
 hok:HOk P w H s.heap
 bare:AllBare s.gens
noncomputable def CE (outer:List Env)(P:Program)(w:World)(H:Hp)(s:Shared)(Q:VK)(u:Value)(s':Shared):Prop:=
 ∃v H',s'.os=s.os/\AllBare s'.gens/\Un (x4 outer) [] H H' s.heap s'.heap/\HOk P w H' s'.heap/\RelV v u/\Q v H'
noncomputable def CR (CX:zf)(outer:List Env)(P:Program)(w:World)(H:Hp)(s:Shared)(Q:VK)(E:XK)(r:Result)(s':Shared):Prop:=
 match r with
 |.ok (.ret u)=>CE outer P w H s Q u s'
 |.ok _=>False
 |.error e=>CX outer H s E e s'
structure FnOk (P:Program)(w:World)(K:PySem.W.Frag)(mg:Str->Option Value)(base:Heap)(CX:zf)(k:Nat)(f:Addr)(fd:FuncData)(ps:List Str)(sp:Sp):Prop where
 len:∀vs H Q E,sp vs H Q E->vs.length=ps.length
 run:∀(A:Around) (outer:List Env) (s:Shared) (H:Hp) (args:Args) (us:List Value) (vs:List V) (Q:VK) (E:XK),Room k A->Env0 P w K mg base A outer s H->BindsTo s fd args (ps.zip us)->Vals vs us->sp vs H Q E →
  codeAny (model P w) A (.call (.ref f) args) (CR CX outer P w H s Q E) s
theorem FnOk.imp {P:Program}{w:World}{K:PySem.W.Frag}{mg:Str->Option Value}{base:Heap}{CX:zf}{k:Nat}{f:Addr}{fd:FuncData}{ps:List Str}{sp sp':Sp}(F:FnOk P w K mg base CX k f fd ps sp)
  (h:∀vs H Q E,sp' vs H Q E->sp vs H Q E):FnOk P w K mg base CX k f fd ps sp':=
 ⟨fun vs H Q E q=>F.len vs H Q E (h _ _ _ _ q),fun A outer s H args us vs Q E hr he hb hv hs=>F.run A outer s H args us vs Q E hr he hb hv (h _ _ _ _ hs)⟩
section
variable {X:Cx}{pins:List (Addr×Obj)}{σ:St}{H:Hp}{s s':Shared}
theorem Inv.env0 (I:Inv X pins σ H s):Env0 X.prog X.w X.K X.mg X.base X.A X.stack s H:=
 ⟨I.ok.frames,I.ok.mod,I.bs,Nat.le_trans I.ok.bsz I.sz,I.stack,I.stkFree,I.hok,I.bare⟩
theorem Inv.after {Q:VK}{u:Value}(I:Inv X pins σ H s)(h:CE X.stack X.prog X.w H s Q u s'):EP X pins σ Q u s':=by
 obtain⟨v,H',os,bare,un,hok,r,q⟩:=h
 obtain⟨hh,g,d,t,os'⟩:=s'
 obtain rfl:os'=s.os:=os
 exact⟨v,H',I.call (h':=hh) (g':=g) (d':=d) (t':=t) (ch:=[]) un hok bare (fun b z=>absurd z (by simp)),r,q⟩
end
noncomputable def b8 (sp:Sp)(dvs:List V)(E:XK)(t:TA):TE:=fun σ H Q=>t σ H fun vs H1=>sp (vs++dvs) H1 Q E
noncomputable def Binds (K:PySem.W.Frag)(fd:FuncData)(ps:List Str)(ds:List Value):Prop:=
 ∀(s:Shared) (us:List Value),K.In s.heap->(us++ds).length=ps.length->BindsTo s fd ⟨us,[]⟩ (ps.zip (us++ds))
theorem Binds.all {K:PySem.W.Frag}{fd:FuncData}{ps:List Str}(h:∀us:List Value,us.length=ps.length->bindArgs fd ⟨us,[]⟩=pure (ps.zip us)):Binds K fd ps []:=fun s us _ hl=>by
 rw[List.append_nil] at hl ⊢
 exact .of_eq (h us hl)
noncomputable def y3 (CX:zf)(X:Cx)(E:XK):Prop:=∀(pins:List (Addr×Obj)) (σ:St) (H:Hp) (s:Shared) (e:Value) (s':Shared),Inv X pins σ H s->CX X.stack H s E e s'->X.xe e s'
section
variable {X:Cx}{CX:zf}{k:Nat}{f C:Addr}{fd:FuncData}{ps:List Str}{sp:Sp}{dvs:List V}{ds:List Value}{E:XK}{x m:Str}{p pos apos:Pos}{e o:Expr}{es:List Expr}{ta:TE}{t:TA}
theorem CS {pins:List (Addr×Obj)}{σ:St}{H:Hp}{s:Shared}{Q:VK}{us:List Value}{vs:List V}(F:FnOk X.prog X.w X.K X.mg X.base CX k f fd ps sp)(hr:Room k X.A)(hb:Binds X.K fd ps ds)(hd:Vals dvs ds)(hx:y3 CX X E)
  (I:Inv X pins σ H s) (r:Vals vs us) (h:sp (vs++dvs) H Q E):wpAny (model X.prog X.w) X.A (call (.ref f) us) (EP X pins σ Q) X.xe s:=by
 have r2:Vals (vs++dvs) (us++ds):=r.append hd
 have hl:(us++ds).length=ps.length:=by rw[←r2.length];exact F.len _ _ _ _ h
 refine wpAny_call (codeAny_mono (F.run X.A X.stack s H ⟨us,[]⟩ (us++ds) (vs++dvs) Q E hr I.env0 (hb s us I.kIn hl) r2 h) fun r s' hq=>?_)
 cases r with
 |error e=>exact hx pins σ H s e s' I hq
 |ok fl=>
  cases fl with
  |ret u=>exact I.after hq
  |next=>exact False.elim hq
  |brk=>exact False.elim hq
  |cont=>exact False.elim hq
theorem Gu (F:FnOk X.prog X.w X.K X.mg X.base CX k f fd ps sp)(hr:Room k X.A)(hg:Gl X x)(hm:X.mg x=some (.ref f))(hk:PySem.W.keepIn X.K (.ref f)=true)(hb:Binds X.K fd ps ds)(hd:Vals dvs ds)(hx:y3 CX X E)
  (ha:PA X (e::es) t) (hdb:(x==("__debug__" : Str))=false:=by decide) (he:starEach (e::es) X.env=(false,eval e X.env)::starEach es X.env:=by rfl) (hpl:(backTo pos (starEach es X.env)).any (·.1)=false:=by rfl) :
  PE X (.Call (.Name x p) (e::es) [] pos) (b8 sp dvs E t):=by
 intro pins s σ H Q I h
 refine wpAny_Call_Name_kw (zL I hg hm ?_ hdb)
 refine PySem.W.callWith_K (h₀:=X.base) I.ok.mod.kin hk (dN (ha pos pins s σ H _ I h) fun us s1 ⟨vs,H1,I1,r,q⟩=>⟨I1.kIn,?_⟩) he hpl
 exact CS F hr hb hd hx I1 r q
end
section
variable {X:Cx}{CX:zf}{k:Nat}{f C:Addr}{fd:FuncData}{ps ks:List Str}{sp:Sp}{E:XK}{x m:Str}{p pos apos kpos:Pos}{e o:Expr}{es:List Expr}{kws:List Keyword}{te ta:TE}{t tk:TA}{nm:Option Str}
variable {g:List Value->List Value->List Value}{gV:List V->List V->List V}
end
structure FnScope (N P:List Str)(sc:Scope):Prop where
 kind:sc.kind=.function
 co:sc.isCoroutine=false
 gen:sc.isGenerator=false
 nd:N.Nodup
 pre:N.take P.length=P
 par:∀x∈P,sc.names.lookup x=some .local\/sc.names.lookup x=some .cell
 nofree:∀y∈sc.names,y.2≠.free
theorem tE {kindOf:Str->Option NameKind}{x:Str}:∀{binds:List (Str×Value)} {m:Str->Option Value},(∀v,(x,v)∉binds)->bindL kindOf binds m x=m x
 |[],_,_=>rfl
 |(n,v)::r,m,h=>by
  unfold bindL
  rw[tE fun w hw=>h w (List.mem_cons_of_mem _ hw)]
  split
  ·have:x≠n:=by rintro rfl;exact h v List.mem_cons_self
   simp[this]
  ·rfl
theorem tu {kindOf:Str->Option NameKind}{x:Str}:∀{binds:List (Str×Value)} {m:Str->Option Value},(∀v,(x,v)∉binds)->bindC kindOf binds m x=m x
 |[],_,_=>rfl
 |(n,v)::r,m,h=>by
  unfold bindC
  rw[tu fun w hw=>h w (List.mem_cons_of_mem _ hw)]
  split
  ·rfl
  ·have:x≠n:=by rintro rfl;exact h v List.mem_cons_self
   simp[this]
theorem tK {kindOf:Str->Option NameKind}{x:Str}{v:Value}:∀{P:List Str} {vs:List Value} {i:Nat} {m:Str->Option Value},P.Nodup->P[i]?=some x->vs[i]?=some v->kindOf x=some .local →
  bindL kindOf (P.zip vs) m x=some v
 |[],_,_,_,_,h,_,_=>by simp at h
 |_::_,[],_,_,_,_,h,_=>by simp at h
 |p::P,w::vs,0,m,nd,h1,h2,hk=>by
  simp at h1 h2;subst h1;subst h2
  show bindL kindOf ((p,w)::P.zip vs) m p=_
  unfold bindL
  rw[tE fun v hv=>(List.nodup_cons.mp nd).1 (List.of_mem_zip hv).1,if_pos hk]
  simp
 |p::P,w::vs,i+1,m,nd,h1,h2,hk=>by
  show bindL kindOf ((p,w)::P.zip vs) m x=_
  unfold bindL
  exact tK (i:=i) (List.nodup_cons.mp nd).2 (by simpa using h1) (by simpa using h2) hk
theorem s9 {kindOf:Str->Option NameKind}{x:Str}{v:Value}:∀{P:List Str} {vs:List Value} {i:Nat} {m:Str->Option Value},P.Nodup->P[i]?=some x->vs[i]?=some v->kindOf x≠some .local →
  bindC kindOf (P.zip vs) m x=some v
 |[],_,_,_,_,h,_,_=>by simp at h
 |_::_,[],_,_,_,_,h,_=>by simp at h
 |p::P,w::vs,0,m,nd,h1,h2,hk=>by
  simp at h1 h2;subst h1;subst h2
  show bindC kindOf ((p,w)::P.zip vs) m p=_
  unfold bindC
  rw[tu fun v hv=>(List.nodup_cons.mp nd).1 (List.of_mem_zip hv).1,if_neg hk]
  simp
 |p::P,w::vs,i+1,m,nd,h1,h2,hk=>by
  show bindC kindOf ((p,w)::P.zip vs) m x=_
  unfold bindC
  exact s9 (i:=i) (List.nodup_cons.mp nd).2 (by simpa using h1) (by simpa using h2) hk
noncomputable def bz (N:List Str)(vs:List V):St:=vs.map some++List.replicate (N.length - vs.length) none
noncomputable def nN (CX:zf)(P:Program)(w:World)(K:PySem.W.Frag)(mg:Str->Option Value)(base:Heap)(N:List Str)(qual:Str)(scope:Scope)(f:Addr)(cd:Value)(A:Around)(outer:List Env)(s:Shared)(H:Hp)(E:XK):Cx where
 prog:=P
 w:=w
 K:=K
 mg:=mg
 base:=base
 A:=A.deeper (envOfC qual scope s.heap.objs.size f cd)
 N:=N
 s₀:=s
 H₀:=H
 env:=envOfC qual scope s.heap.objs.size f cd
 outer:=outer
 stack:=envOfC qual scope s.heap.objs.size f cd::outer
 ex:=[]
 calm:=true
 fn:=fun _=>true
 pn:=[]
 xe:=fun e s'=>wpAny (model P w) (A.deeper (envOfC qual scope s.heap.objs.size f cd)) (leaving (envOfC qual scope s.heap.objs.size f cd) e) (fun _ s''=>CX outer H s E e s'') (fun e' s''=>CX outer H s E e' s'') s'
theorem vW {sc:Scope}{n:Nat}{x:Str}(h:sc.names.lookup x=some .cell):∃c,(cellsFrom n sc.names []).lookup x=some c:=by
 have q:=PySem.W.cellsFrom_some sc.names n [] (.inl h)
 exact Option.isSome_iff_exists.mp q
theorem Bx {CX:zf}{P:Program}{w:World}{K:PySem.W.Frag}{mg:Str->Option Value}{base:Heap}{N ps:List Str}{qual:Str}{scope:Scope}{f:Addr}{cd:Value}{A:Around}{outer:List Env}{s s1:Shared}{H:Hp}{E:XK}{us:List Value}{vs:List V}
  (S:FnScope N ps scope) (hd:A.handled=none) (e0:Env0 P w K mg base A outer s H) (hl:vs.length=ps.length) (r:Vals vs us)
  (x:InCallC s s.heap.objs.size (bindL (envOfC qual scope s.heap.objs.size f cd).kindOf (ps.zip us) fun _=>none) (cellsFrom (s.heap.objs.size+1) scope.names []) (bindC (envOfC qual scope s.heap.objs.size f cd).kindOf (ps.zip us) fun _=>none) s1) :
  Inv (nN CX P w K mg base N qual scope f cd A outer s H E) [] (bz N vs) H s1:=by
 have hpl:ps.length≤N.length:=by have:=congrArg List.length S.pre;rw[List.length_take] at this;omega
 obtain⟨h1,tk,rfl,hk⟩:=x.done
 have noA:∀b:Addr,b∉(nN CX P w K mg base N qual scope f cd A outer s H E).ex:=fun b z=>absurd (show b∈([]:List Addr) from z) (by simp)
 refine⟨⟨e0.mod,S.kind,rfl,rfl,Nat.le_refl _,fun y z c h1 h2=>?_,fun y hy=>?_,fun y c _ h=>?_,fun _=>hd,Around.frames_deeper e0.frames,.inr ⟨rfl,rfl⟩,fun b z=>absurd z (noA b),e0.bs,e0.bsz,fun b _ _=>noA b,fun b z=>absurd z (noA b),e0.funs,e0.frf⟩,
  rfl,e0.bare,Un.kept hk,⟨_,x.toInCall.ns,fun i y v h1 h2 h3=>?_⟩,fun y c h=>⟨_,x.cell y c h⟩,e0.hok.fresh (Nat.le_refl _),fun y c h=>?_,fun p hp=>absurd (show p∈([]:List (Addr×Obj)) from hp) (by simp),e0.hok.kept hk,?_⟩
 ·exact name_of_addr x.apart (PySem.mem_of_lookup h1) (PySem.mem_of_lookup h2)
 ·have hy:scope.names.lookup y=some .cell\/scope.names.lookup y=some .free:=hy
  rcases hy with hy|hy
  ·exact vW hy
  ·exact absurd rfl (S.nofree _ (PySem.mem_of_lookup hy))
 ·exact Nat.le_of_lt (x.above y c (PySem.mem_of_lookup h))
 ·have hi:i<vs.length:=by
   unfold bz at h2
   by_cases hi:i<vs.length
   ·exact hi
   ·rw[List.getElem?_append_right (by simpa using hi)] at h2
    rw[List.getElem?_replicate] at h2
    split at h2<;>cases h2
  have ha:vs[i]?=some v:=by
   unfold bz at h2
   rw[List.getElem?_append_left (by simpa using hi),List.getElem?_map] at h2
   cases e:vs[i]? with
   |none=>rw[e] at h2;cases h2
   |some a=>rw[e] at h2;cases h2;rfl
  obtain⟨u,hu,rv⟩:=r.get ha
  have hp:ps[i]?=some y:=by
   rw[←S.pre,List.getElem?_take_of_lt (by omega)];exact h1
  have ndP:ps.Nodup:=by rw[←S.pre];exact S.nd.sublist (List.take_sublist _ _)
  refine⟨u,rv,?_⟩
  rcases S.par y (List.mem_of_getElem? hp) with k|k
  ·exact .inl ⟨k,tK ndP hp hu k⟩
  ·obtain⟨c,e⟩:=vW (n:=s.heap.objs.size+1) k
   refine .inr ⟨.inl k,c,e,?_⟩
   have q:=x.cell y c e
   rw[s9 ndP hp hu (by show scope.names.lookup y≠_;rw[k];decide)] at q
   exact q
 ·exact e0.hok.fresh (Nat.le_of_lt (x.above y c (PySem.mem_of_lookup h)))
 ·unfold bz
  show _=N.length
  rw[List.length_append,List.length_map,List.length_replicate]
  omega
theorem M9 {CX:zf}{P:Program}{w:World}{K:PySem.W.Frag}{mg:Str->Option Value}{base:Heap}{k:Nat}{f:Addr}{name qual:Str}{params:Arguments}{body:List Stmt}{scope:Scope}{dV kV doc pm cdv ct oc:Value}{an od:Option Addr}
  {osl:Array (Option Value)} {N ps:List Str} {sp:Sp} (lk:K.lookup f=some ⟨oc,od,.func (PySem.W.fnOf name qual params body scope dV kV doc pm an cdv ct),osl⟩) (hcd:PySem.W.codeIn K cdv qual=true) (S:FnScope N ps scope)
  (len:∀vs H Q E,sp vs H Q E->vs.length=ps.length)
  (hbody:∀(A:Around) (outer:List Env) (s:Shared) (H:Hp) (vs:List V) (Q:VK) (E:XK),Room k (A.deeper (envOfC qual scope s.heap.objs.size f cdv))->sp vs H Q E →
   ∃t,PSs (nN CX P w K mg base N qual scope f cdv A outer s H E) body t/\t { nx:=fun _ H'=>Q .non H',rt:=Q } (bz N vs) H) :
  FnOk P w K mg base CX (k+1) f (PySem.W.fnOf name qual params body scope dV kV doc pm an cdv ct) ps sp:=by
 refine⟨len,fun A outer s H args us vs Q E hr e0 hb r hsp=>?_⟩
 have hl:=len _ _ _ _ hsp
 have KX:K.In s.heap:=e0.mod.kin.keeps fun b o e=>(e0.bs b o e).1
 have lim:s.heap.NoLimit:=e0.mod.nolimit.keeps fun b o e=>(e0.bs b o e).1
 have hkind:∀y∈ps.zip us,scope.names.lookup y.1=some .local\/(scope.names.lookup y.1=some .cell/\((cellsFrom (s.heap.objs.size+1) scope.names []).lookup y.1).isSome=true):=fun ⟨n,v⟩ hy=>by
  rcases S.par n (List.of_mem_zip hy).1 with q|q
  ·exact .inl q
  ·exact .inr ⟨q,PySem.W.cellsFrom_some _ _ _ (.inl q)⟩
 refine codeAny_call_function hr.depth (KX _ _ lk) rfl S.co S.gen rfl (PySem.W.codeRec_of KX hcd) (hb _ _ _ _ ?_)
 refine wpAny_newFunctionEnv_cells S.kind hkind fun env he s1 x=>?_
 subst he
 refine⟨lim.keeps x.toInCall.keep,codeAny_func ?_⟩
 obtain⟨t,ht,hq⟩:=hbody A outer s H vs Q E (hr.deeper _) hsp
 have I:Inv (nN CX P w K mg base N qual scope f cdv A outer s H E) [] (bz N vs) H s1:=Bx S hr.hd e0 hl r x
 refine wpAny_mono (ht [] s1 (bz N vs) H _ I hq) (fun fl s' hs=>?_) fun e s' hs=>hs
 have fin:∀{σ':St} {H':Hp} {v:V} {u:Value},Inv (nN CX P w K mg base N qual scope f cdv A outer s H E) [] σ' H' s'->RelV v u->Q v H'->CE outer P w H s Q u s':=
  fun {σ' H' v u} J rv q=>⟨v,H',J.os,J.bare,J.base,J.hok,rv,q⟩
 cases fl with
 |ret u=>
  obtain⟨v,σ',H',J,rv,q⟩:=hs
  exact fin J rv q
 |next=>
  obtain⟨σ',H',J,q⟩:=hs
  exact fin (v:=V.non) (u:=Value.none) J rfl q
 |brk=>
  obtain⟨_,_,_,q⟩:=hs
  exact False.elim q
 |cont=>
  obtain⟨_,_,_,q⟩:=hs
  exact False.elim q
end L2
namespace L2
open PySem PySem.Spec PyProof.Rows
section
variable {X:Cx}{x:Str}{p pos:Pos}{e:Expr}{es:List Expr}{t:TA}{id T:String}{r:List V->Hp->VK->Prop}
noncomputable def kU (r:List V->Hp->VK->Prop)(t:TA):TE:=fun σ H Q=>t σ H fun vs H1=>r vs H1 Q
theorem aW (hc:gZ X (.builtin id) r)(hg:Gl X x)(hm:X.mg x=none)(hv:bootBuiltins x=some (.builtin id))(ha:PA X (e::es) t)(hn:x ≠ "__name__":=by decide)(hdb:(x==("__debug__" : Str))=false:=by decide)
  (he:starEach (e::es) X.env=(false,eval e X.env)::starEach es X.env:=by rfl) (hpl:(backTo pos (starEach es X.env)).any (·.1)=false:=by rfl):PE X (.Call (.Name x p) (e::es) [] pos) (kU r t):=by
 intro pins s σ H Q I h
 refine wpAny_Call_Name_kw (qk I hg hm hv ?_ hn hdb)
 exact PyProof.Rows.callWith_builtin1 (dN (ha pos pins s σ H _ I h) fun us s1 ⟨vs,H1,I1,r1,q1⟩=>hc pins s1 σ H1 vs us Q I1 r1 q1) he hpl
theorem aU (hc:gZ X (.type T) r)(hg:Gl X x)(hm:X.mg x=none)(hv:bootBuiltins x=some (.type T))(ha:PA X (e::es) t)(hn:x ≠ "__name__":=by decide)(hdb:(x==("__debug__" : Str))=false:=by decide)
  (he:starEach (e::es) X.env=(false,eval e X.env)::starEach es X.env:=by rfl) (hpl:(backTo pos (starEach es X.env)).any (·.1)=false:=by rfl):PE X (.Call (.Name x p) (e::es) [] pos) (kU r t):=by
 intro pins s σ H Q I h
 refine wpAny_Call_Name_kw (qk I hg hm hv ?_ hn hdb)
 exact PyProof.Rows.callWith_type1 (dN (ha pos pins s σ H _ I h) fun us s1 ⟨vs,H1,I1,r1,q1⟩=>hc pins s1 σ H1 vs us Q I1 r1 q1) he hpl
end
end L2
namespace HT
open PySem PyProof.Rows
section
variable {prog:Program}{w:World}{A:Around}{E:Value->Shared->Prop}{s:Shared}
theorem cat_tup {t b:Addr}{vs ws:List Value}{Q:Value->Shared->Prop}(ht:IsTup s.heap t vs.toArray)(hb:IsTup s.heap b ws.toArray)(hv:vs≠[])
  (h1:ws=[]->Q (.ref t) s) (h2:ws≠[]->Q (.ref s.heap.objs.size) { s with heap:=s.heap.push { cls:=.type "tuple",data:=.seq (vs++ws).toArray } })
  (hsz:vs.length+ws.length≤sizeLine):wpAny (model prog w) A (binaryOp .Add (.ref t) (.ref b)) Q E s:=by
 obtain⟨⟨cls,dd,data,sl⟩,ho,hc,n,hd⟩:=id ht
 obtain⟨⟨cls2,dd2,data2,sl2⟩,ho2,hc2,n2,hd2⟩:=id hb
 simp only at hc hd hc2 hd2
 subst hc hd hc2 hd2
 have e:vs.toArray++ws.toArray=(vs++ws).toArray:=by simp
 by_cases hw:ws=[]
 ·exact concat_meets ⟨_,ho,rfl⟩ ⟨_,ho2,rfl⟩ noFill_tuple_add seq_tuple_add PySem.F.slot_tuple_add PySem.F.entry_tuple_add (PySem.F.args_tuple_add_2 _ _)
   (tuple_addW1 t b vs.toArray ws.toArray n n2 dd dd2 sl sl2 (by simpa using hv) (by simp[hw])) ⟨ho,ho2,h1 hw⟩
 ·refine concat_meets ⟨_,ho,rfl⟩ ⟨_,ho2,rfl⟩ noFill_tuple_add seq_tuple_add PySem.F.slot_tuple_add PySem.F.entry_tuple_add (PySem.F.args_tuple_add_2 _ _)
   (tuple_addW2 t b vs.toArray ws.toArray n n2 dd dd2 sl sl2 (by simpa using hv) (by simpa using hw) (by rw[List.size_toArray,List.size_toArray];exact hsz)) ⟨ho,ho2,?_⟩
  rw[e]
  exact h2 hw
noncomputable def sIx (n d:Nat):Option Int->Nat
 |none=>d
 |some v=>if v<0 then (v+(n:Int)).toNat else min v.toNat n
theorem sIx_none (n d:Nat):sIx n d none=d:=rfl
theorem sIx_nat (n d k:Nat):sIx n d (some (k:Int))=min k n:=by
 show (if (k:Int)<0 then ((k:Int)+(n:Int)).toNat else min (k:Int).toNat n)=min k n
 rw[if_neg (by omega),Int.toNat_natCast]
theorem I0 (n d:Nat)(hd:d≤n)(o:Option Int):sIx n d o≤n:=by
 cases o with
 |none=>exact hd
 |some v=>
  show (if v<0 then (v+(n:Int)).toNat else min v.toNat n)≤n
  by_cases hv:v<0
  ·rw[if_pos hv];omega
  ·rw[if_neg hv];exact Nat.min_le_right _ _
theorem zg (v:Int)(n d:Nat):(if v<0 then max (v+(n:Int)) 0 else min v (n:Int))=((sIx n d (some v):Nat):Int):=by
 show (if v<0 then max (v+(n:Int)) 0 else min v (n:Int))=(((if v<0 then (v+(n:Int)).toNat else min v.toNat n):Nat):Int)
 by_cases hv:v<0
 ·simp only[if_pos hv];omega
 ·simp only[if_neg hv];omega
theorem x6 (lo hi:Option Int)(n:Nat):Builtin.Slice.sliceAdjust lo hi 1 (n:Int)=(((sIx n 0 lo:Nat):Int),((sIx n n hi:Nat):Int)):=by
 have h1:¬((1:Int)<0):=by omega
 unfold Builtin.Slice.sliceAdjust
 simp only[h1,if_false]
 refine Prod.ext ?_ ?_
 ·cases lo with
  |none=>rfl
  |some v=>exact zg v n 0
 ·cases hi with
  |none=>rfl
  |some v=>exact zg v n n
theorem yr (i j:Nat):Builtin.Slice.slicePlaces (i:Int) (j:Int) 1=j - i:=by
 unfold Builtin.Slice.slicePlaces
 have h1:(1:Int) > 0:=by omega
 simp only[h1,if_true,Int.ediv_one]
 split<;>omega
theorem qq {v:Value}{o:Option Int}{Q:Option Int->Shared->Prop}(p:IsPart v o)(h:Q o s):wpAny (model prog w) A (Builtin.Slice.slicePartIndex v) Q E s:=by
 cases p with
 |none=>exact slicePart_none h
 |int i t=>exact slicePart_int h
theorem jQ {sl:Addr}{vl vu:Value}{lo hi:Option Int}{n:Nat}{Q:Int×Int×Nat->Shared->Prop}(hs:s.heap.IsSliceOf sl vl vu .none)(pl:IsPart vl lo)(pu:IsPart vu hi)
  (h:Q (((sIx n 0 lo:Nat):Int),1,sIx n n hi - sIx n 0 lo) s):wpAny (model prog w) A (Builtin.Slice.sliceApplied (.ref sl) (pure (n:Int))) Q E s:=by
 obtain⟨os,hos,hcs,hds⟩:=id hs
 unfold Builtin.Slice.sliceApplied Builtin.Slice.sliceFields
 refine wpAny_bind (wpAny_bind (wpAny_field hos hds (x:=vl) rfl (wpAny_bind (wpAny_field hos hds (x:=vu) rfl (wpAny_bind (wpAny_field hos hds (x:=.none) rfl (wpAny_pure ?_)))))))
 refine wpAny_bind (slicePart_none ?_)
 show wpAny _ _ (if ((1:Int)==0)=true then _ else _) _ _ s
 rw[if_neg (by decide)]
 refine wpAny_bind (qq pl (wpAny_bind (qq pu (wpAny_bind (wpAny_pure ?_)))))
 show wpAny _ _ (match Builtin.Slice.sliceAdjust lo hi 1 (n:Int) with|(lo,hi)=>pure (lo,(1:Int),Builtin.Slice.slicePlaces lo hi 1)) _ _ s
 rw[x6 lo hi n]
 show wpAny _ _ (pure (((sIx n 0 lo:Nat):Int),(1:Int),Builtin.Slice.slicePlaces ((sIx n 0 lo:Nat):Int) ((sIx n n hi:Nat):Int) 1)) _ _ s
 rw[yr]
 exact wpAny_pure h
theorem Dz (xs:Array Value)(i k:Nat):((List.range k).filterMap fun (m:Nat)=>xs[((i:Int)+(m:Int) * 1).toNat]?).toArray=((xs.toList.drop i).take k).toArray:=by
 have e:(fun (m:Nat)=>xs[((i:Int)+(m:Int) * 1).toNat]?)=fun m=>xs[i+m]?:=by
  funext m
  have:((i:Int)+(m:Int) * 1).toNat=i+m:=by omega
  rw[this]
 rw[e]
 have:=pick_run xs i k
 rw[List.filterMap_map] at this
 have e2:((fun x=>xs[x]?) ∘ fun x=>i+x)=fun m=>xs[i+m]?:=rfl
 rw[e2] at this
 rw[this]
theorem getItem_tuple_cut {t sl:Addr}{items:Array Value}{vl vu:Value}{lo hi:Option Int}{Q:Value->Shared->Prop}(ht:IsTup s.heap t items)(hs:s.heap.IsSliceOf sl vl vu .none)(pl:IsPart vl lo)(pu:IsPart vu hi)
  (hw:¬(sIx items.size 0 lo=0/\sIx items.size items.size hi=items.size))
  (h:Q (.ref s.heap.objs.size) { s with heap:=s.heap.push { cls:=.type "tuple",data:=.seq ((items.toList.drop (sIx items.size 0 lo)).take (sIx items.size items.size hi - sIx items.size 0 lo)).toArray } })
  (hsz:items.size≤sizeLine):wpAny (model prog w) A (getItem (.ref t) (.ref sl)) Q E s:=by
 have htake:sizeOk (.seq ((items.toList.drop (sIx items.size 0 lo)).take (sIx items.size items.size hi - sIx items.size 0 lo)).toArray):=by
  show ((items.toList.drop (sIx items.size 0 lo)).take (sIx items.size items.size hi - sIx items.size 0 lo)).toArray.size≤sizeLine
  rw[List.size_toArray,List.length_take,List.length_drop,Array.length_toList]
  omega
 have hj:sIx items.size items.size hi≤items.size:=I0 _ _ (Nat.le_refl _) hi
 obtain⟨os,hos,hcs,hds⟩:=id hs
 have hTs:s.TypeIs (.ref sl) "slice":=⟨os,hos,hcs⟩
 unfold getItem
 try with_reducible refine wpAny_holding ?_
 first|refine wpAny_bind (wpAny_pure ?_)|skip
 refine wpAny_bind (wpAny_sequenceKey ht.typeIs (by decide) ?_)
 refine wpAny_bind (wpAny_callSpecial?_slot (name:=Str.ofString "__getitem__") ht.typeIs PyProof.Rows.slot_tuple_getitem
  (wpAny_call_entry PyProof.Rows.slot_tuple_getitem ht.typeIs entry_tuple_getitem ?_ (args_tuple_getitem _ _)))
 show wpAny _ _ (Builtin.Tuple.tupleItemsOf (.ref t) >>= _) _ _ s
 refine wpAny_bind (tupleItemsOf_ ht ?_)
 refine wpAny_bind (wpAny_typeOf hTs ?_)
 rw[if_pos (by decide)]
 refine wpAny_bind (jQ hs pl pu ?_)
 have hno:¬((((sIx items.size 0 lo:Nat):Int)==0&&(1:Int)==1&&(sIx items.size items.size hi - sIx items.size 0 lo)==items.size)=true):=by
  intro q
  rw[Bool.and_eq_true,Bool.and_eq_true] at q
  have q1:((sIx items.size 0 lo:Nat):Int)=0:=eq_of_beq q.1.1
  have q2:sIx items.size items.size hi - sIx items.size 0 lo=items.size:=eq_of_beq q.2
  exact hw ⟨by omega,by omega⟩
 show wpAny _ _ (if (((sIx items.size 0 lo:Nat):Int)==0&&(1:Int)==1&&(sIx items.size items.size hi - sIx items.size 0 lo)==items.size)=true then _ else _) _ _ s
 rw[if_neg hno,Dz]
 first
  |exact wpAny_bind (m:=Builtin.Tuple.tupleExact _) (wpAny_newObj_type (wpAny_pure ⟨_,rfl,wpAny_pure h⟩) htake)
  |exact wpAny_bind (m:=Builtin.Tuple.tupleExact _) (wpAny_newObj_type (wpAny_bind (wpAny_pure (wpAny_pure ⟨_,rfl,wpAny_pure h⟩))) htake)
  |exact wpAny_bind (wpAny_bind (m:=Builtin.Tuple.tupleExact _) (wpAny_newObj_type (wpAny_pure (wpAny_pure ⟨_,rfl,wpAny_pure h⟩)) htake))
  |exact wpAny_bind (wpAny_bind (m:=Builtin.Tuple.tupleExact _) (wpAny_newObj_type (wpAny_pure ⟨_,rfl,wpAny_pure h⟩) htake))
end
end HT
namespace L2
open PySem PySem.Spec PyProof.Rows
noncomputable abbrev TO:=St->Hp->(Option Int->Hp->Prop)->Prop
noncomputable def PO (X:Cx)(e:Option Expr)(t:TO):Prop:=
 ∀(pins:List (Addr×Obj)) (s:Shared) (σ:St) (H:Hp) (Q:Option Int->Hp->Prop),Inv X pins σ H s->t σ H Q →
  wpAny (model X.prog X.w) X.A (evalPart e X.env) (fun u s'=>∃o H',Inv X pins σ H' s'/\IsPart u o/\Q o H') X.xe s
noncomputable def bm:TO:=fun _ H Q=>Q none H
noncomputable def dm (t:TE):TO:=fun σ H Q=>t σ H fun x H1=>∃i,x=.int i/\Q (some i) H1
section
variable {X:Cx}{e:Expr}{te:TE}{lo hi:Option Expr}{tl th:TO}{pos p2:Pos}
theorem G6:PO X none bm:=by
 intro pins s σ H Q I h
 rw[evalPart_none]
 exact wpAny_pure ⟨none,H,I,.none,h⟩
theorem Gv (h:PE X e te):PO X (some e) (dm te):=by
 intro pins s σ H Q I hw
 rw[evalPart_some]
 refine dN (h pins s σ H _ I hw) fun u s1 ⟨x,H1,I1,r1,q1⟩=>?_
 obtain⟨i,rfl,q⟩:=q1
 obtain⟨t,rfl⟩:=r1
 exact⟨some i,H1,I1,.int i t,q⟩
noncomputable def SlR (X:Cx)(r:V->Option Int->Option Int->Hp->VK->Prop):Prop:=
 ∀(pins:List (Addr×Obj)) (s:Shared) (σ:St) (H:Hp) (x:V) (v vl vu:Value) (lo hi:Option Int) (sl:Addr) (Q:VK),Inv X pins σ H s->RelV x v->s.heap.IsSliceOf sl vl vu .none->IsPart vl lo->IsPart vu hi->r x lo hi H Q →
  ∃T id,typeLookup (.type T) "__getitem__" = pure (some (.builtin id))/\s.TypeIs v T/\wpAny (model X.prog X.w) X.A (getItem v (.ref sl)) (EP X pins σ Q) X.xe s
noncomputable def oK (r:V->Option Int->Option Int->Hp->VK->Prop)(te:TE)(tl th:TO):TE:=fun σ H Q=>te σ H fun x H1=>tl σ H1 fun l H2=>th σ H2 fun u H3=>r x l u H3 Q
theorem pY {r:V->Option Int->Option Int->Hp->VK->Prop}(hr:SlR X r)(he:PE X e te)(hl:PO X lo tl)(hu:PO X hi th):PE X (.Subscript e (.Slice lo hi none p2) pos) (oK r te tl th):=by
 intro pins s σ H Q I h
 refine Subscript_ (dN (he pins s σ H _ I h) fun v s1 ⟨x,H1,I1,r1,q1⟩=>?_)
 refine wpAny_Slice (dN (hl pins s1 σ H1 _ I1 q1) fun vl s2 ⟨l,H2,I2,pl,q2⟩=>dN (hu pins s2 σ H2 _ I2 q2) fun vu s3 ⟨u,H3,I3,pu,q3⟩=>?_)
 rw[evalPart_none]
 refine wpAny_pure ?_
 have I4:Inv X pins σ H3 { s3 with heap:=s3.heap.push { cls:=.type "slice",data:=.fields #[vl,vu,.none] } }:=I3.kept (t':=s3.toks) fun b ob q=>Heap.get?_push_of_some _ q
 obtain⟨T,id,hT,ht,hg⟩:=hr pins { s3 with heap:=s3.heap.push { cls:=.type "slice",data:=.fields #[vl,vu,.none] } } σ H3 x v vl vu l u s3.heap.objs.size Q I4 r1 (Heap.IsSliceOf.new ..) pl pu q3
 show wpAny (model X.prog X.w) X.A (subscriptTail e (.Slice lo hi none p2) v (.ref s3.heap.objs.size)) (EP X pins σ Q) X.xe { s3 with heap:=s3.heap.push { cls:=.type "slice",data:=.fields #[vl,vu,.none] } }
 exact tail_any (ops:=[.ref s3.heap.objs.size,v]) ht hT hg (by with_unfolding_all rfl)
noncomputable def wL (xs:List V)(lo hi:Option Int):List V:=(xs.drop (HT.sIx xs.length 0 lo)).take (HT.sIx xs.length xs.length hi - HT.sIx xs.length 0 lo)
theorem pf (xs:List V)(lo hi:Option Int):(wL xs lo hi).length≤xs.length:=by
 unfold wL
 rw[List.length_take,List.length_drop]
 omega
noncomputable def ib (K:PySem.W.Frag):V->Option Int->Option Int->Hp->VK->Prop:=fun x lo hi H Q=>∃a xs,x=.ref a/\SqT K H a xs ∧
 ¬(HT.sIx xs.length 0 lo=0/\HT.sIx xs.length xs.length hi=xs.length)/\∀p,H p=none->Q (.ref p) (upd H p (.tup (wL xs lo hi)))
theorem K9:SlR X (ib X.K):=by
 intro pins s σ H x v vl vu lo hi sl Q I rx hs pl pu h
 obtain⟨a,xs,rfl,hx,hw,q⟩:=h
 cases rx
 obtain⟨its,r,ht,hz⟩:=I.tuple hx
 have hlen:its.toArray.size=xs.length:=by rw[List.size_toArray];exact r.length.symm
 refine⟨"tuple",_,PyProof.Rows.slot_tuple_getitem.lookup,ht.typeIs,?_⟩
 refine HT.getItem_tuple_cut ht hs pl pu (by rw[hlen];exact hw) ?_ (by rw[hlen];exact hz)
 rw[hlen]
 refine⟨.ref s.heap.objs.size,_,I.laid (t':=s.toks) (o:=.tup (wL xs lo hi)) (fun b ob q=>Heap.get?_push_of_some _ q) (Nat.le_refl _) ?_,rfl,q _ (I.hok.fresh (Nat.le_refl _))⟩
 exact⟨Nat.le_trans (pf xs lo hi) hz,_,(r.drop (HT.sIx xs.length 0 lo)).take (HT.sIx xs.length xs.length hi - HT.sIx xs.length 0 lo),IsTup.new _ _⟩
noncomputable def Is (K:PySem.W.Frag):R2:=fun x y H Q=>∃a b xs ys,x=.ref a/\y=.ref b/\SqT K H a xs/\SqT K H b ys/\xs≠[]/\xs.length+ys.length≤sizeLine ∧
 (ys=[]->Q (.ref a) H)/\(ys≠[]->∀p,H p=none->Q (.ref p) (upd H p (.tup (xs++ys))))
theorem Vals.nil_iff {xs:List V}{us:List Value}(r:Vals xs us):us=[]↔xs=[]:=by
 cases r with
 |nil=>simp
 |cons _ _=>simp
theorem Fq:mw X (binaryOp .Add) (Is X.K):=by
 intro pins s σ H x y v u Q I rx ry h
 obtain⟨a,b,xs,ys,rfl,rfl,ha,hb,hx,hz,q1,q2⟩:=h
 cases rx
 cases ry
 obtain⟨its,r1,p1,_⟩:=I.tuple ha
 obtain⟨its2,r2,p2,_⟩:=I.tuple hb
 refine HT.cat_tup p1 p2 (fun z=>hx (r1.nil_iff.mp z)) (fun z=>⟨.ref a,H,I,rfl,q1 (r2.nil_iff.mp z)⟩) (fun z=>?_) (by rw[←r1.length,←r2.length];exact hz)
 refine⟨.ref s.heap.objs.size,_,I.laid (t':=s.toks) (o:=.tup (xs++ys)) (fun b ob q=>Heap.get?_push_of_some _ q) (Nat.le_refl _) ?_,rfl,q2 (fun w=>z (r2.nil_iff.mpr w)) _ (I.hok.fresh (Nat.le_refl _))⟩
 exact⟨by rw[List.length_append];exact hz,_,r1.append r2,IsTup.new _ _⟩
end
end L2
namespace L2
open PySem PySem.Spec PyProof.Rows
noncomputable def tX (n:Nat)(i:Int):Option Nat:=if 0≤i then (if i<n then some i.toNat else none) else if -(n:Int)≤i then some (i+n).toNat else none
noncomputable def atI {α:Type}(xs:List α)(i:Int):Option α:=(tX xs.length i).bind fun j=>xs[j]?
theorem zx {n:Nat}{i:Int}{j:Nat}(h:tX n i=some j):seqIndex? i n=some j/\j<n/\-(n:Int)≤i/\i<n:=by
 unfold tX at h
 by_cases h0:0≤i
 ·rw[if_pos h0] at h
  by_cases h1:i<n
  ·rw[if_pos h1] at h
   have e:i.toNat=j:=Option.some.inj h
   exact⟨by rw[seqIndex_of h0 h1,e],by omega,by omega,h1⟩
  ·rw[if_neg h1] at h;cases h
 ·rw[if_neg h0] at h
  by_cases h1:-(n:Int)≤i
  ·rw[if_pos h1] at h
   have e:(i+n).toNat=j:=Option.some.inj h
   exact⟨by rw[seqIndex_neg (by omega) h1,e],by omega,h1,by omega⟩
  ·rw[if_neg h1] at h;cases h
theorem vo {α:Type}{xs:List α}{i:Int}{v:α}(h:atI xs i=some v):∃j,seqIndex? i xs.length=some j/\xs[j]?=some v/\j<xs.length/\-(xs.length:Int)≤i/\i<xs.length:=by
 unfold atI at h
 cases e:tX xs.length i with
 |none=>rw[e] at h;cases h
 |some j=>
  rw[e] at h
  obtain⟨h1,h2,h3,h4⟩:=zx e
  exact⟨j,h1,h,h2,h3,h4⟩
theorem iU {α:Type}{xs:List α}{j:Nat}{v:α}(h:xs[j]?=some v):atI xs (j:Int)=some v:=by
 have hj:j<xs.length:=(List.getElem?_eq_some_iff.mp h).1
 have e:tX xs.length (j:Int)=some j:=by
  unfold tX
  rw[if_pos (by omega),if_pos (by omega)];simp
 unfold atI;rw[e];exact h
theorem j2 {α:Type}(xs:List α)(v:α):atI (xs++[v]) (-1)=some v:=by
 have hl:(xs++[v]).length=xs.length+1:=by simp
 have e:tX (xs++[v]).length (-1)=some xs.length:=by
  unfold tX
  rw[hl,if_neg (by decide),if_pos (by omega)]
  congr 1
  omega
 unfold atI
 rw[e]
 show (xs++[v])[xs.length]?=some v
 simp
noncomputable def uu (b:Expr):Prop:=∀o i,subscripted b false o i=operate [o,i] (getItem o i)
noncomputable def IxR (X:Cx)(r:R2):Prop:=
 ∀(value slice:Expr) (pins:List (Addr×Obj)) (s:Shared) (σ:St) (H:Hp) (x y:V) (v u:Value) (Q:VK),Inv X pins σ H s->RelV x v->RelV y u->r x y H Q →
  subscripted slice false v u=operate [v,u] (getItem v u)->wpAny (model X.prog X.w) X.A (subscriptTail value slice v u) (EP X pins σ Q) X.xe s
noncomputable def P5 (X:Cx)(id:String)(r:V->List V->Hp->VK->Prop):Prop:=
 ∀(pins:List (Addr×Obj)) (s:Shared) (σ:St) (H:Hp) (x:V) (xs:List V) (v:Value) (us:List Value) (Q:VK),Inv X pins σ H s->RelV x v->Vals xs us->r x xs H Q →
  wpAny (model X.prog X.w) X.A (call (.builtin id) (v::us)) (EP X pins σ Q) X.xe s
section
variable {X:Cx}{a b:Expr}{ta tb:TE}{pos:Pos}
theorem IxR.or {r r':R2}(h:IxR X r)(h':IxR X r'):IxR X (fun x y H Q=>r x y H Q\/r' x y H Q):=by
 intro value slice pins s σ H x y v u Q I rx ry q hs
 rcases q with q|q
 ·exact h value slice pins s σ H x y v u Q I rx ry q hs
 ·exact h' value slice pins s σ H x y v u Q I rx ry q hs
theorem jr {r:R2}(hr:IxR X r)(ha:PE X a ta)(hb:PE X b tb)(hs:uu b):PE X (.Subscript a b pos) (m5 r ta tb):=by
 intro pins s σ H Q I h
 exact Subscript_ (Js ha hb I h fun v u s2 x y H2 I2 rx ry q=>hr a b pins s2 σ H2 x y v u Q I2 rx ry q (hs _ _))
noncomputable def gM (K:PySem.W.Frag):R2:=fun x y H Q=>∃p xs i v,x=.ref p/\y=.int i/\SqL K H p xs/\atI xs i=some v/\Q v H
noncomputable def gS (K:PySem.W.Frag):R2:=fun x y H Q=>∃p xs i v,x=.ref p/\y=.int i/\SqT K H p xs/\atI xs i=some v/\Q v H
noncomputable def MO:R2:=fun x y H Q=>∃z i c,x=.str z/\y=.int i/\z.length≤sizeLine/\atI z.cps.toList i=some c/\Q (.str ⟨#[c]⟩) H
theorem ix_list:IxR X (gM X.K):=by
 intro value slice pins s σ H x y v u Q I rx ry h hs
 obtain⟨p,xs,i,z,rfl,rfl,hq,he,q⟩:=h
 cases rx
 obtain⟨t,rfl⟩:=ry
 obtain⟨its,r,pl,hz⟩:=I.list hq
 obtain⟨j,h1,h2,h3,h4,h5⟩:=vo he
 obtain⟨w,ew,rw'⟩:=r.get h2
 have hl:=r.length
 have hn:=qZ
 have fin:EP X pins σ Q w s:=⟨z,H,I,rw',q⟩
 by_cases h0:0≤i
 ·have hj:i.toNat=j:=by
   rw[seqIndex_of h0 h5] at h1
   exact Option.some.inj h1
  exact item_listR pl.isList h0 (by omega) (by rw[hj];simpa using ew) fin hs
 ·have hj:(i+(its.toArray.size:Int)).toNat=j:=by
   rw[seqIndex_neg (by omega) h4] at h1
   rw[List.size_toArray,←hl]
   exact Option.some.inj h1
  exact subscriptTail_builtinR (x:=w) pl.isList.typeIs slot_list_getitem.lookup
   (wpAny_getItem_list_neg (Q:=fun r s'=>r=w/\EP X pins σ Q r s') pl.isList (by omega) (by rw[List.size_toArray]<;>omega) (by omega) (by rw[hj];simpa using ew) ⟨rfl,fin⟩) hs
theorem ix_tup:IxR X (gS X.K):=by
 intro value slice pins s σ H x y v u Q I rx ry h hs
 obtain⟨p,xs,i,z,rfl,rfl,hq,he,q⟩:=h
 cases rx
 obtain⟨t,rfl⟩:=ry
 obtain⟨its,r,pl,hz⟩:=I.tuple hq
 obtain⟨j,h1,h2,h3,h4,h5⟩:=vo he
 obtain⟨w,ew,rw'⟩:=r.get h2
 have hl:=r.length
 have hn:=qZ
 have fin:EP X pins σ Q w s:=⟨z,H,I,rw',q⟩
 exact subscriptTail_builtinR (x:=w) pl.typeIs slot_tuple_getitem.lookup
  (getItem_tuple (j:=j) (Q:=fun r s'=>r=w/\EP X pins σ Q r s') pl (by omega) (by omega) (by rw[List.size_toArray,←hl];exact h1) (by simpa using ew) ⟨rfl,fin⟩) hs
theorem KS:IxR X MO:=by
 intro value slice pins s σ H x y v u Q I rx ry h hs
 obtain⟨z,i,c,rfl,rfl,hz,he,q⟩:=h
 obtain⟨t,rfl⟩:=rx
 obtain⟨t',rfl⟩:=ry
 obtain⟨j,h1,h2,h3,h4,h5⟩:=vo he
 have hl:z.cps.toList.length=z.length:=by simp[Str.length]
 rw[hl] at h1 h4 h5
 have hn:=qZ
 exact tail_any (typeIs_str s z t) slot_str_getitem.lookup (getItem_str (c:=c) (by
  have e1:decide (i < -(2 ^ 63:Int))=false:=decide_eq_false (by omega)
  have e2:decide (i ≥ 2 ^ 63)=false:=decide_eq_false (by omega)
  rw[e1,e2,Bool.or_false]) (by rw[h1];simpa using h2) ⟨.str ⟨#[c]⟩,H,I.tok _,⟨_,rfl⟩,q⟩) hs
noncomputable def be (K:PySem.W.Frag):R2:=fun x y H Q=>gM K x y H Q\/gS K x y H Q\/MO x y H Q
theorem Es:IxR X (be X.K):=ix_list.or (ix_tup.or KS)
theorem xS (its:List Value)(n j:Nat)(u:Value):Obj.mapSeq (·.setIfInBounds j u) { cls:=.type "list",data:=.seq its.toArray n }={ cls:=.type "list",data:=.seq (its.set j u).toArray n }:=by
 simp[Obj.mapSeq]
theorem Inv.lst {pins:List (Addr×Obj)}{σ:St}{H:Hp}{s:Shared}{p:Addr}{xs:List V}(I:Inv X pins σ H s)(h:H p=some (.lst xs)) :
  ∃(its:List Value) (n:Nat),Vals xs its/\s.heap.get? p=some { cls:=.type "list",data:=.seq its.toArray n }/\xs.length≤sizeLine:=by
 obtain⟨z,its,n,r,e⟩:=I.hok p _ h
 exact⟨its,n,r,e,z⟩
theorem Inv.lstUpd {pins:List (Addr×Obj)}{σ:St}{H:Hp}{s:Shared}{p:Addr}{xs ys:List V}{its its':List Value}{n n':Nat}{f:Obj->Obj}(I:Inv X pins σ H s)(h:H p=some (.lst xs))
  (ho:s.heap.get? p=some { cls:=.type "list",data:=.seq its.toArray n }) (hf:f { cls:=.type "list",data:=.seq its.toArray n }={ cls:=.type "list",data:=.seq its'.toArray n' }) (r:Vals ys its') (hz:ys.length≤sizeLine) (t:Nat) :
  Inv X pins σ (upd H p (.lst ys)) { s with heap:=s.heap.update p f,toks:=t }:=by
 have e:(s.heap.update p f).get? p=some { cls:=.type "list",data:=.seq its'.toArray n' }:=by
  rw[Heap.get?_update_self f ho (by rw[hf]<;>rfl),hf]
 refine I.write (x:=p) (e:=p) (by rw[h];trivial) (.inl rfl) (fun b u hb q=>(Heap.get?_update_other _ _ (Ne.symm hb)).trans q) ⟨_,e⟩ ?_
 exact⟨hz,its',n',r,e⟩
noncomputable def cZ:V->V->V->Hp->(Hp->Prop)->Prop:=fun o i v H Q=>∃p xs k j,o=.ref p/\i=.int k/\H p=some (.lst xs)/\tX xs.length k=some j/\Q (upd H p (.lst (xs.set j v)))
theorem du:M0 X cZ:=by
 intro pins s σ H o i v ov iv u Q I ro ri rv h
 obtain⟨p,xs,k,j,rfl,rfl,hp,hj,q⟩:=h
 cases ro
 obtain⟨t,rfl⟩:=ri
 obtain⟨its,n,r,ho,hz⟩:=I.lst hp
 obtain⟨h1,h2,h3,h4⟩:=zx hj
 have hl:=r.length
 have hn:=qZ
 have I':Inv X pins σ (upd H p (.lst (xs.set j v))) { s with heap:=s.heap.update p (Obj.mapSeq (·.setIfInBounds j u)) }:=
  I.lstUpd hp ho (xS its n j u) (r.set rv j) (by rw[List.length_set];exact hz) s.toks
 by_cases h0:0≤k
 ·have hk:k.toNat=j:=by
   rw[seqIndex_of h0 h4] at h1
   exact Option.some.inj h1
  exact PySem.W.ki_setAt ho h0 (by omega) (by rw[List.size_toArray,←hl];exact h4) (by rw[hk];exact⟨_,I',q⟩)
 ·have hk:(k+(its.toArray.size:Int)).toNat=j:=by
   rw[seqIndex_neg (by omega) h3] at h1
   rw[List.size_toArray,←hl]
   exact Option.some.inj h1
  exact PySem.W.ki_setBack ho (by omega) (by rw[List.size_toArray,←hl];exact h3) (by omega) (by rw[hk];exact⟨_,I',q⟩)
theorem uV (lo hi:Option Int)(n:Nat):(sliceBounds lo hi none n).1=((HT.sIx n 0 lo:Nat):Int)/\(sliceBounds lo hi none n).2.1=((HT.sIx n n hi:Nat):Int)/\(sliceBounds lo hi none n).2.2=1:=by
 refine⟨?_,?_,rfl⟩
 ·cases lo with
  |none=>simp[sliceBounds,HT.sIx]
  |some i=>
   simp only[sliceBounds,HT.sIx,Option.getD_none,show (1:Int) > 0 by decide,if_true]
   by_cases h:i<0
   ·simp only[h,if_true]<;>omega
   ·simp only[h,if_false]<;>omega
 ·cases hi with
  |none=>simp[sliceBounds,HT.sIx]
  |some i=>
   simp only[sliceBounds,HT.sIx,Option.getD_none,show (1:Int) > 0 by decide,if_true]
   by_cases h:i<0
   ·simp only[h,if_true]<;>omega
   ·simp only[h,if_false]<;>omega
theorem sB (its:List Value)(lo hi:Option Int):slicePick its.toArray lo hi none=((its.drop (HT.sIx its.length 0 lo)).take (HT.sIx its.length its.length hi - HT.sIx its.length 0 lo)).toArray:=by
 obtain⟨h1,h2,h3⟩:=uV lo hi its.toArray.size
 unfold slicePick
 rw[h1,h2,h3]
 simp only[sliceRange_one,pick_run,List.size_toArray]<;>rfl
noncomputable def ic (K:PySem.W.Frag):V->Option Int->Option Int->Hp->VK->Prop:=fun x lo hi H Q=>∃a xs,x=.ref a/\SqL K H a xs/\∀p,H p=none->Q (.ref p) (upd H p (.lst (wL xs lo hi)))
theorem Gb:SlR X (ic X.K):=by
 intro pins s σ H x v vl vu lo hi sl Q I rx hs pl pu h
 obtain⟨a,xs,rfl,hx,q⟩:=h
 cases rx
 obtain⟨its,r,ht,hz⟩:=I.list hx
 have hlen:=r.length
 refine⟨"list",_,slot_list_getitem.lookup,ht.isList.typeIs,?_⟩
 refine wpAny_getItem_list_slice ht.isList hs pl pu .none (by simp) ?_ (by rw[List.size_toArray]<;>omega)
 rw[sB,←hlen]
 refine⟨.ref s.heap.objs.size,_,I.laid (t':=s.toks) (o:=.lst (wL xs lo hi)) (fun b ob q=>Heap.get?_push_of_some _ q) (Nat.le_refl _) ?_,rfl,q _ (I.hok.fresh (Nat.le_refl _))⟩
 exact⟨Nat.le_trans (pf xs lo hi) hz,_,0,(r.drop (HT.sIx xs.length 0 lo)).take (HT.sIx xs.length xs.length hi - HT.sIx xs.length 0 lo),Heap.get?_push_size _ rfl⟩
noncomputable def qg:V->Bool
 |.non=>true
 |.bl _=>true
 |.int _=>true
 |.str _=>true
 |_=>false
noncomputable def CM:V->V->Bool
 |.non,.non=>true
 |.bl a,.bl b=>a==b
 |.bl a,.int b=>(if a then 1 else 0)==b
 |.int a,.bl b=>a==(if b then 1 else 0)
 |.int a,.int b=>a==b
 |.str a,.str b=>a==b
 |_,_=>false
noncomputable def P4 (x:V)(xs:List V):Bool:=xs.any fun y=>CM y x
noncomputable def By (K:PySem.W.Frag)(neg:Bool):R2:=fun x y H Q=>∃p xs,y=.ref p/\(SqL K H p xs\/SqT K H p xs)/\qg x=true/\xs.all qg=true/\Q (.bl (if neg then !P4 x xs else P4 x xs)) H
theorem nS:gZ X (.type "list") (fun xs H Q=>∃p ys,xs=[.ref p]/\(SqL X.K H p ys\/SqT X.K H p ys)/\∀l,H l=none->Q (.ref l) (upd H l (.lst ys))):=by
 intro pins s σ H xs us Q I r h
 obtain⟨p,ys,rfl,hq,q⟩:=h
 obtain⟨u,rfl,rx⟩:=kJ r
 cases rx
 have fin:∀(its:List Value),Vals ys its->ys.length≤sizeLine->∀(h':Heap) (c':Nat),(∀b o',s.heap.get? b=some o'->h'.get? b=some o') →
   h'.get? s.heap.objs.size=some { cls:=.type "list",dict:=none,data:=.seq its.toArray c',slots:=#[] }->EP X pins σ Q (.ref s.heap.objs.size) { s with heap:=h' }:=fun its r' hz h' c' kp e=>
  ⟨.ref s.heap.objs.size,_,I.laid (t':=s.toks) kp (Nat.le_refl _) (show ObjOk X.prog X.w _ h' _ (.lst ys) from⟨hz,its,c',r',e⟩),rfl,q _ (I.hok.fresh (Nat.le_refl _))⟩
 rcases hq with hq|hq
 ·obtain⟨its,r',pl,hz⟩:=I.list hq
  have hlen:=r'.length
  obtain⟨o,ho,hc,n,hd⟩:=pl.isList
  exact call_list_seq p (.inl rfl) ho hc hd (fun h' c' kp e=>fin its r' hz h' c' kp e) (by simp only[List.size_toArray]<;>omega)
 ·obtain⟨its,r',pl,hz⟩:=I.tuple hq
  have hlen:=r'.length
  obtain⟨o,ho,hc,n,hd⟩:=pl
  exact call_list_seq p (.inr rfl) ho hc hd (fun h' c' kp e=>fin its r' hz h' c' kp e) (by simp only[List.size_toArray]<;>omega)
theorem bh:gZ X (.type "tuple") (fun xs H Q=>∃p ys,xs=[.ref p]/\((SqL X.K H p ys/\∀l,H l=none->Q (.ref l) (upd H l (.tup ys)))\/(SqT X.K H p ys/\Q (.ref p) H))):=by
 intro pins s σ H xs us Q I r h
 obtain⟨p,ys,rfl,h⟩:=h
 obtain⟨u,rfl,rx⟩:=kJ r
 cases rx
 rcases h with ⟨hq,q⟩|⟨hq,q⟩
 ·obtain⟨its,r',pl,hz⟩:=I.list hq
  have hlen:=r'.length
  refine call_tuple_list pl.isList (fun h' kp=>?_) (by simp only[List.size_toArray]<;>omega)
  have I1:Inv X pins σ H { s with heap:=h' }:=I.kept (t':=s.toks) kp
  have I2:Inv X pins σ (upd H h'.objs.size (.tup ys)) { s with heap:=h'.push { cls:=.type "tuple",data:=.seq its.toArray } }:=
   I1.laid (t':=s.toks) (fun b o e=>Heap.get?_push_of_some _ e) (Nat.le_refl _) (show ObjOk X.prog X.w _ _ _ (.tup ys) from⟨hz,its,r',IsTup.new _ _⟩)
  exact⟨.ref h'.objs.size,_,I2,rfl,q _ (I1.hok.fresh (Nat.le_refl _))⟩
 ·obtain⟨its,r',pl,hz⟩:=I.tuple hq
  exact call_tuple_same pl ⟨.ref p,H,I,rfl,q⟩
noncomputable def OE (K:PySem.W.Frag)(T:String)(x:V)(H:Hp):Prop:=match x with
 |.str _=>T = "str"
 |.int _=>T = "int"
 |.ref p=>(T = "list"/\∃xs,SqL K H p xs)\/(T = "tuple"/\∃o,K.lookup p=some o/\o.cls=.type "tuple"/\o.dict=none) ∨
   (T = "dict"/\((∃kvs,H p=some (.dK kvs))\/∃kvs,H p=some (.dT kvs)))\/(T = "set"/\∃S n,H p=some (.set S n))
 |_=>False
theorem B8 {pins:List (Addr×Obj)}{σ:St}{H:Hp}{s:Shared}{T:String}{x:V}{v:Value}(I:Inv X pins σ H s)(r:RelV x v)(ty:OE X.K T x H) :
  s.TypeIs v T/\∀a,v=.ref a->∃ob,s.heap.get? a=some ob/\ob.dict=none:=by
 cases x with
 |str z=>
  obtain⟨t,rfl⟩:=r
  cases (show T = "str" from ty)
  exact⟨typeIs_str s z t,fun _ e=>nomatch e⟩
 |int i=>
  obtain⟨t,rfl⟩:=r
  cases (show T = "int" from ty)
  exact⟨typeIs_int s i t,fun _ e=>nomatch e⟩
 |ref p=>
  cases r
  rcases ty with ⟨rfl,xs,hq⟩|⟨rfl,o,hk,hc,hd⟩|⟨rfl,hk⟩|⟨rfl,S,n,hk⟩
  ·obtain⟨its,_,pl,_⟩:=I.list hq
   refine⟨pl.isList.typeIs,fun a e=>?_⟩
   cases e
   obtain⟨o,n,e,c,hd,_⟩:=pl
   exact⟨o,e,hd⟩
  ·refine⟨⟨o,I.kIn p o hk,hc⟩,fun a e=>?_⟩
   cases e
   exact⟨o,I.kIn _ o hk,hd⟩
  ·have z:∃o,s.heap.get? p=some o/\o.ExactDict:=by
    rcases hk with ⟨kvs,hk⟩|⟨kvs,hk⟩
    ·obtain⟨_,_,_,_,o,_,_,e,ex,_⟩:=I.hok p _ hk
     exact⟨o,e,ex⟩
    ·obtain⟨_,_,_,_,o,_,_,e,ex,_⟩:=I.hok p _ hk
     exact⟨o,e,ex⟩
   obtain⟨o,e,ex⟩:=z
   refine⟨⟨o,e,ex.1⟩,fun a e2=>?_⟩
   cases e2
   exact⟨o,e,ex.2.1⟩
  ·obtain⟨o,_,_,_,e,ex,_⟩:=I.hok p _ hk
   refine⟨⟨o,e,ex.1⟩,fun a e2=>?_⟩
   cases e2
   exact⟨o,e,ex.2.1⟩
 |_=>exact False.elim ty
noncomputable def LE (K:PySem.W.Frag)(T:String)(r:V->List V->Hp->VK->Prop)(to:TE):TE:=fun σ H Q=>to σ H fun x H1=>OE K T x H1/\r x [] H1 Q
noncomputable def nt (K:PySem.W.Frag)(T:String)(r:V->List V->Hp->VK->Prop)(to:TE)(t:TA):TE:=fun σ H Q=>to σ H fun x H1=>OE K T x H1/\t σ H1 fun xs H2=>r x xs H2 Q
variable {o e:Expr}{es:List Expr}{to:TE}{t:TA}{name:Str}{apos cpos:Pos}{T id:String}{r:V->List V->Hp->VK->Prop}
theorem Jl (pa:PlainAttrs T)(slot:Slot T name id)(hty:typeOf (.builtin id)=pure (.type "method_descriptor"))(hm:P5 X id r)(ho:PE X o to)
  (hbase:attributeBase o name X.env (eval o X.env)=eval o X.env:=by rfl) (hline:(apos.endLine==cpos.line)=true:=by rfl):PE X (.Call (.Attribute o name apos) [] [] cpos) (LE X.K T r to):=by
 intro pins s σ H Q I h
 refine wpAny_Call_method0_late hbase hline (dN (ho pins s σ H _ I h) fun v s1 ⟨x,H1,I1,r1,ty,q1⟩=>?_)
 obtain⟨h1,h2⟩:=B8 I1 r1 ty
 exact⟨T,id,pa,slot,hty,h1,h2,Calls.callWith_builtin rfl (PySem.evalArgs_none (hm pins s1 σ H1 x [] v [] Q I1 r1 .nil q1))⟩
theorem o5 (pa:PlainAttrs T)(slot:Slot T name id)(hty:typeOf (.builtin id)=pure (.type "method_descriptor"))(hm:P5 X id r)(ho:PE X o to)(ha:PA X (e::es) t)
  (hbase:attributeBase o name X.env (eval o X.env)=eval o X.env:=by rfl)
  (hfew:((backTo cpos (starEach (e::es) X.env)).all (fun x=>!x.1)&&(backToKw cpos (keywordEach [] X.env)).all (fun x=>x.1.isSome)
   && decide ((e::es).length+([]:List Keyword).length+(if ([]:List Keyword).isEmpty then 0 else 1)<30))=true:=by rfl)
  (hline:(apos.endLine==cpos.line)=true:=by rfl) (hs:starEach (e::es) X.env=(false,eval e X.env)::starEach es X.env:=by rfl) (hplain:(backTo cpos (starEach es X.env)).any (·.1)=false:=by rfl) :
  PE X (.Call (.Attribute o name apos) (e::es) [] cpos) (nt X.K T r to t):=by
 intro pins s σ H Q I h
 refine wpAny_Call_method_late hbase hfew hline rfl (dN (ho pins s σ H _ I h) fun v s1 ⟨x,H1,I1,r1,ty,q1⟩=>?_)
 obtain⟨h1,h2⟩:=B8 I1 r1 ty
 refine⟨T,id,pa,slot,hty,h1,h2,?_⟩
 have hA:=ha cpos pins s1 σ H1 _ I1 q1
 rw[hs] at hA ⊢
 refine Calls.callWith_builtin (by show (false || (backTo cpos (starEach es X.env)).any (·.1))=false;rw[hplain]<;>rfl) (Calls.evalArgs_plain ?_)
 exact dN hA fun us s2 ⟨vs,H2,I2,r2,q2⟩=>hm pins s2 σ H2 x vs v us Q I2 r1 r2 q2
end
end L2
namespace L2
open PySem PySem.Spec PyProof.Rows
noncomputable def P9 (X:Cx)(id:String)(r:V->List V->Hp->VK->Prop):Prop:=
 ∀(pins:List (Addr×Obj)) (s:Shared) (σ:St) (H:Hp) (x:V) (xs:List V) (v:Value) (us:List Value) (Q:VK),Inv X pins σ H s->RelV x v->Vals xs us->r x xs H Q →
  wpAny (model X.prog X.w) X.A (call (.builtin id) (v::us)) (EP X pins σ Q) X.xe s
theorem Vals.one:∀{x:V} {us:List Value},Vals [x] us->∃u,us=[u]/\RelV x u
 |_,_,.cons r .nil=>⟨_,rfl,r⟩
theorem Vals.zero:∀{us:List Value},Vals [] us->us=[]
 |_,.nil=>rfl
theorem Vals.reverse {xs:List V}{us:List Value}(h:Vals xs us):Vals xs.reverse us.reverse:=by
 induction h with
 |nil=>exact .nil
 |cons r t ih=>rw[List.reverse_cons,List.reverse_cons];exact Vals.append ih (.cons r .nil)
theorem Vals.rep {xs:List V}{us:List Value}(h:Vals xs us):∀k:Nat,Vals (List.replicate k xs).flatten (List.replicate k us).flatten
 |0=>.nil
 |k+1=>by
  rw[List.replicate_succ,List.replicate_succ,List.flatten_cons,List.flatten_cons]
  exact Vals.append h (Vals.rep h k)
theorem oH (its:List Value):∀(k:Nat) (acc:List Value),
  List.foldl (fun x1 x2=>x1++x2) acc.toArray (List.replicate k its.toArray)=(acc++(List.replicate k its).flatten).toArray
 |0,acc=>by simp
 |k+1,acc=>by
  have e:acc.toArray++its.toArray=(acc++its).toArray:=by simp
  have e2:(acc++its)++(List.replicate k its).flatten=acc++(List.replicate (k+1) its).flatten:=by
   rw[List.replicate_succ,List.flatten_cons,List.append_assoc]
  rw[←e2,←oH its k (acc++its),←e,List.replicate_succ,List.foldl_cons]
section
variable {X:Cx}{pins:List (Addr×Obj)}{σ:St}{H:Hp}{s:Shared}{l b:Addr}{xs ys zs:List V}
theorem Inv.lset {its its':List Value}{n:Nat}{f:Array Value->Array Value}{t':Nat}(I:Inv X pins σ H s)(hH:H l=some (.lst xs))
  (e:s.heap.get? l=some { cls:=.type "list",data:=.seq its.toArray n }) (hf:f its.toArray=its'.toArray) (hv:Vals ys its') (hz:ys.length≤sizeLine) :
  Inv X pins σ (upd H l (.lst ys)) { s with heap:=s.heap.update l (Obj.mapSeq f),toks:=t' }:=by
 have q:=PySem.IsL.update e f
 rw[hf] at q
 refine I.write (x:=l) (e:=l) (by rw[hH];exact trivial) (.inl rfl) (fun b' u hb hu=>(Heap.get?_update_other s.heap (Obj.mapSeq f) (Ne.symm hb)).trans hu) ⟨_,q⟩ ?_
 exact⟨hz,its',_,hv,q⟩
theorem Inv.lnew {its:List Value}{t':Nat}(I:Inv X pins σ H s)(hv:Vals ys its)(hz:ys.length≤sizeLine) :
  Inv X pins σ (upd H s.heap.objs.size (.lst ys)) { s with heap:=s.heap.push { cls:=.type "list",data:=.seq its.toArray },toks:=t' }:=
 I.laid (fun _ _ q=>Heap.get?_push_of_some _ q) (Nat.le_refl _) ⟨hz,its,0,hv,Heap.get?_push_size _ rfl⟩
theorem Inv.fresh (I:Inv X pins σ H s):H s.heap.objs.size=none:=I.hok.fresh (Nat.le_refl _)
theorem Inv.lstM (I:Inv X pins σ H s)(hH:H l=some (.lst xs)):xs.length≤sizeLine/\∃(its:List Value) (n:Nat),Vals xs its/\xs.length=its.length/\s.heap.get? l=some { cls:=.type "list",data:=.seq its.toArray n }:=by
 obtain⟨z,its,n,r,e⟩:=I.hok l _ hH
 exact⟨z,its,n,r,r.length,e⟩
theorem B5 {n:Nat}(h:n≤sizeLine):Builtin.List.listTooLong n=false:=by
 unfold Builtin.List.listTooLong
 exact decide_eq_false (by omega)
end
section
variable {X:Cx}
noncomputable def pQ:V->List V->Hp->VK->Prop:=fun x vs H Q=>∃l xs y,x=.ref l/\vs=[y]/\H l=some (.lst xs)/\xs.length<sizeLine/\Q .non (upd H l (.lst (xs++[y])))
theorem gd:P9 X "list.append" pQ:=by
 intro pins s σ H x vs v us Q I rx rv h
 obtain⟨l,xs,y,rfl,rfl,hH,hz,q⟩:=h
 cases rx
 obtain⟨u,rfl,ru⟩:=rv.one
 obtain⟨z,its,n,r,hl,e⟩:=I.lstM hH
 refine call_meets F.slot_list_append ⟨_,e,rfl⟩ F.entry_list_append (F.args_list_append_2 _ _) (PySem.list_append l its.toArray n u (by rw[List.size_toArray];omega)) ⟨e,?_⟩
 refine⟨.non,_,I.lset (its':=its++[u]) hH e (by simp) (r.append (.cons ru .nil)) ?_,rfl,q⟩
 rw[List.length_append,List.length_singleton]
 omega
noncomputable def qX:V->List V->Hp->VK->Prop:=fun x vs H Q=>∃l xs,x=.ref l/\vs=[]/\H l=some (.lst xs)/\Q .non (upd H l (.lst xs.reverse))
theorem yV:P9 X "list.reverse" qX:=by
 intro pins s σ H x vs v us Q I rx rv h
 obtain⟨l,xs,rfl,rfl,hH,q⟩:=h
 cases rx
 have hus:=rv.zero
 subst hus
 obtain⟨z,its,n,r,hl,e⟩:=I.lstM hH
 refine call_meets F.slot_list_reverse ⟨_,e,rfl⟩ F.entry_list_reverse (F.args_list_reverse_1 _) (AutoSeq1.list_reverse_list_0 l its.toArray n (by rw[List.size_toArray];omega)) ⟨e,?_⟩
 refine⟨.non,_,I.lset (its':=its.reverse) hH e (by simp) r.reverse ?_,rfl,q⟩
 rw[List.length_reverse]
 omega
noncomputable def OQ:R2:=fun x y H Q=>∃l b xs zs,x=.ref l/\y=.ref b/\H l=some (.lst xs)/\H b=some (.lst zs)/\xs.length+zs.length≤sizeLine/\∀p,H p=none->Q (.ref p) (upd H p (.lst (xs++zs)))
theorem J6:mw X (binaryOp .Add) OQ:=by
 intro pins s σ H x y v u Q I rx ry h
 obtain⟨l,b,xs,zs,rfl,rfl,hH,hB,hz,q⟩:=h
 cases rx
 cases ry
 obtain⟨z,its,n,r,hl,e⟩:=I.lstM hH
 obtain⟨z2,its2,n2,r2,hl2,e2⟩:=I.lstM hB
 refine PySem.P.add_list e e2 ?_ (by rw[List.size_toArray,List.size_toArray];omega)
 have ea:its.toArray++its2.toArray=(its++its2).toArray:=by simp
 rw[ea]
 exact⟨.ref _,_,I.lnew (t':=s.toks) (r.append r2) (by rw[List.length_append];omega),rfl,q _ I.fresh⟩
noncomputable def Oz:R2:=fun x y H Q=>∃l k xs,x=.ref l/\y=.int k/\H l=some (.lst xs)/\-(2 ^ 63)≤k/\k<2 ^ 63/\xs.length * k.toNat≤sizeLine ∧
 ∀p,H p=none->Q (.ref p) (upd H p (.lst (List.replicate k.toNat xs).flatten))
theorem uT {α:Type}(xs:List α)(k:Nat):(List.replicate k xs).flatten.length=k * xs.length:=by
 induction k with
 |zero=>simp
 |succ k ih=>rw[List.replicate_succ,List.flatten_cons,List.length_append,ih,Nat.succ_mul,Nat.add_comm]
theorem Jf:mw X (binaryOp .Mult) Oz:=by
 intro pins s σ H x y v u Q I rx ry h
 obtain⟨l,k,xs,rfl,rfl,hH,h1,h2,hz,q⟩:=h
 cases rx
 obtain⟨t,rfl⟩:=ry
 obtain⟨z,its,n,r,hl,e⟩:=I.lstM hH
 have hlen:its.toArray.size * k.toNat≤sizeLine:=by rw[List.size_toArray,←hl];exact hz
 have hcap:¬its.toArray.size * k.toNat > (2 ^ 63 - 1) / 8:=by
  have:(sizeLine:Nat)≤(2 ^ 63 - 1) / 8:=by decide
  omega
 have hfit:¬(!Builtin.List.listFitsIndex k)=true:=by
  rw[fitsIndex_both h1 h2]
  exact Bool.false_ne_true
 have hlong:¬Builtin.List.listTooLong (its.toArray.size * k.toNat)=true:=by
  rw[B5 hlen]
  exact Bool.false_ne_true
 have hnew:List.foldl (fun x1 x2=>x1++x2) #[] (List.replicate (if its.toArray.isEmpty=true then 0 else k.toNat) its.toArray)=(List.replicate k.toNat its).flatten.toArray:=by
  have f0:∀m:Nat,List.foldl (fun x1 x2=>x1++x2) #[] (List.replicate m its.toArray)=(List.replicate m its).flatten.toArray:=fun m=>by
   have:=oH its m []
   rw[List.nil_append] at this
   exact this
  rw[f0]
  cases its with
  |nil=>simp
  |cons a r'=>rw[if_neg (by simp)]
 refine wpAny_binaryOp_repeat_ref (T:="list") (U:="int") (by decide) ⟨_,e,rfl⟩ (fun s'=>typeIs_int s' k t) noFill_list_mul F.fills_int_mul F.slot_int_rmul repeat_list F.slot_int_index.lookup
  (call_meets F.slot_int_rmul (typeIs_int s k t) F.entry_int_rmul (F.args_int_rmul_2 _ _) (int___rmul___int_list k t l its.toArray n)
   ⟨e,rfl,⟨_,e,rfl⟩,call_meets F.slot_list_mul ⟨_,e,rfl⟩ F.entry_list_mul (F.args_list_mul_2 _ _) (AutoListH.list___mul___list_int_3 l its.toArray n k t hfit hcap hlong) ⟨e,?_⟩⟩)
 rw[hnew]
 exact⟨.ref _,_,I.lnew (t':=s.toks) (r.rep k.toNat) (by rw[uT,Nat.mul_comm];exact hz),rfl,q _ I.fresh⟩
end
section
variable {prog:Program}{w:World}{A:Around}{E:Value->Shared->Prop}{s:Shared}
set_option maxRecDepth 100000 in
end
end L2
namespace Att
open PySem PySem.W PySem.Calls PyProof.Rows
theorem pq {P:Params}{h:Heap}:∀(ns:List Int) (vs:List Value),WellAll P h vs (ns.map WData.int)->IntsAre vs ns:=by
 intro ns
 induction ns with
 |nil=>
  intro vs w
  rw[List.map_nil] at w
  cases w
  exact .nil
 |cons n ns ih=>
  intro vs w
  rw[List.map_cons] at w
  cases w with
  |cons a b=>
   cases a
   exact .cons _ _ (ih _ b)
theorem Bv {l:OpenLaw}{n:Nat}(hn:l.most=some n){P:Params}{h:Heap}{args:List WData}{vals:List Value}
  (hpre:l.row.toRowW.claim.pre args=true) (hwl:WellAll P h vals args) :
  ∃a vs ns,vals=[Value.ref a]/\args=[WData.list (ns.map WData.int)]/\h.get? a=some { cls:=.type "list",data:=.seq vs.toArray }/\IntsAre vs ns/\ns.length≤n:=by
 have hsh:WShape.hasAll [] args [.list .int]=true:=(pre_splitW hpre).1
 have hc:l.pre.holds [] { args:=args }=true:=(pre_splitW hpre).2
 obtain⟨d,r,rfl,h1,h2⟩:=hasAllW_cons hsh
 obtain rfl:=hasAllW_nil h2
 obtain⟨xs,rfl,h3⟩:=hasW_list h1
 obtain⟨ns,rfl⟩:=items_int h3
 have hlen:ns.length≤n:=by
  unfold OpenLaw.pre at hc
  have h4:(WTm.not (.lt (.lit (.int (n:Int))) (.len (.arg 0)))).holds [] { args:=[.list (ns.map .int)] }=true:=by
   have h4:=(holds_andW hc).1
   rw[hn] at h4
   exact h4
  have h5:=condW_of h4 (w_not (w_lt w_lit (w_len_list (w_arg rfl))))
  rw[List.length_map] at h5
  refine Nat.le_of_not_lt fun q=>?_
  have q':(n:Int)<((ns.length:Nat):Int):=by omega
  first
   |(rw[decide_eq_true q'] at h5;exact absurd h5 (by decide))
   |(simp at h5;omega)
 cases hwl with
 |cons w1 w2=>
  cases w2
  cases w1 with
  |list ho hall=>exact⟨_,_,ns,rfl,rfl,ho,pq ns _ hall,hlen⟩
theorem Bo (l:OpenLaw)(args:List WData):l.row.toRowW.claim.post args (.bool true) args=true:=
 postW_of (r:=l.row.toRowW) (X:=(true==true))
  (show WShape.has [] (.bool true) .bool=true by first|rfl|decide|simp[WShape.has,WShape.arms,WShape.armsAll])
  (show (WTm.eq .res (.lit (.bool true))).value [] { args:=args,res:=some (.bool true),after:=args }=some (.bool (true==true)) from w_eq_bool (w_res rfl) w_lit) rfl
theorem attach_call {l:OpenLaw}{n:Nat}{q:Program}{loose:List Str}{XP:(Str->Option Value)->Heap->Prop}{YP:World->Heap->Prop}{d:DefRec}
  (hn:l.most=some n) (hdf:d.params.defaults=[])
  (call:∀(w:World) (s₀ s₁:Shared) (mg mb:Str->Option Value) (fa:Addr) (o:Obj) (pm cd doc:Value) (a:Addr) (vs:List Value) (ns:List Int),
   Ground q loose [] XP w s₀ mg mb s₁.heap->YP w s₁.heap →
   s₁.heap.get? fa=some o->o.data=.func (docDef d.name d.params d.body d.scope pm cd doc)->s₁.heap.CodeRec cd d.name->mg d.name=some (.ref fa) →
   s₁.heap.get? a=some { cls:=.type "list",data:=.seq vs.toArray }->IntsAre vs ns->ns.length≤n->s₁.gens = #[] →
   codeAny (model l.prog w) callerA (.call (.ref fa) ⟨[.ref a],[]⟩) (fun r s'=>r=.ok (.ret (.bool true))/\OldK s₁.heap s'.heap/\s'.os=s₁.os/\AllBare s'.gens) s₁) :
  WalkO q loose XP YP l.row.toRowW d [] (fun f vs=>PySem.call f vs):=by
 intro w s₀ s₁ mg mb G Y fa o pm cd doc dV kV ho hd hcd hD hmg hg args vals as hpre hlay hrd hwl hlo
 obtain rfl:dV=.none:=Dflts.none hD hdf
 obtain rfl:kV=.none:=Dflts.noKw hD
 obtain⟨a,vs,ns,rfl,rfl,hobj,hints,hlen⟩:=Bv hn hpre hwl
 refine enter_call (codeAny_mono (call w s₀ s₁ mg mb fa o pm cd doc a vs ns G Y ho (fd_plain hd) hcd hmg hobj hints hlen hg) fun r s' hq=>?_)
 obtain⟨rfl,h2,h3,h4⟩:=hq
 exact⟨.inl ⟨.bool true,.bool true,[],rfl,fun _=>rfl,.bool true,Bo l _,fun _=>⟨List.Pairwise.nil,fun _ hm=>(nomatch hm)⟩⟩,h2,h3,h4⟩
section
variable {prog:Program}{w:World}{A:Around}{E:Value->Shared->Prop}{s:Shared}{K:Frag}
noncomputable def ledger (h:Heap)(L d:Addr):List (Addr×Obj):=(List.range h.objs.size).filterMap fun a=>if a=L\/a=d then none else (h.get? a).map fun o=>(a,o)
end
end Att
namespace L2
open PySem PySem.Spec PyProof.Rows
theorem tG:∀{vs:List Value} {ns:List Int},IntsAre vs ns->Vals (ns.map V.int) vs
 |_,_,.nil=>.nil
 |_,_,.cons n t h=>.cons ⟨t,rfl⟩ (tG h)
noncomputable def LQ (H:Hp):Prop:=∀b,H b=none\/∃o xs,H b=some (.frz o (.lst xs))
theorem CP {P:Program}{w:World}{K:PySem.W.Frag}{mg mb:Str->Option Value}{CX:zf}{k:Nat}{fa a:Addr}{fd:FuncData}{x:Str}{sp:Sp}{s₁:Shared}{vs:List Value}{ns:List Int}
  (KX:K.In s₁.heap) (hns:s₁.heap.Ns mainGlobals mg) (hb:s₁.heap.Ns builtinsNs mb) (hbb:∀x:Str,x ≠ "__name__"->mb x=bootBuiltins x) (hlim:s₁.heap.NoLimit) (hg:s₁.gens = #[])
  (ha:s₁.heap.get? a=some { cls:=.type "list",data:=.seq vs.toArray }) (hi:IntsAre vs ns) (hl:ns.length≤sizeLine) (hr:Room k callerA)
  (F:∀base:Heap,K.In base->base.Ns mainGlobals mg->FnOk P w K mg base CX k fa fd [x] sp) (hbind:∀(s:Shared) (u:Value),BindsTo s fd ⟨[u],[]⟩ [(x,u)])
  (hsp:∀H:Hp,LQ H->SqL K H a (ns.map V.int)->sp [.ref a] H (fun v _=>v=.bl true) fun _ _ _=>False)
  (hCX:∀H e s',CX [] H s₁ (fun _ _ _=>False) e s'->False) :
  codeAny (model P w) callerA (.call (.ref fa) ⟨[.ref a],[]⟩) (fun r s'=>r=.ok (.ret (.bool true))/\OldK s₁.heap s'.heap/\s'.os=s₁.os/\AllBare s'.gens) s₁:=by
 have rv:=tG hi
 have lenV:=hi.length
 have core:∀H:Hp,LQ H->SqL K H a (ns.map V.int)->HOk P w H s₁.heap->(∀b,H b≠none->b=a)->(H a≠none->K.lookup a=none) →
   codeAny (model P w) callerA (.call (.ref fa) ⟨[.ref a],[]⟩) (fun r s'=>r=.ok (.ret (.bool true))/\OldK s₁.heap s'.heap/\s'.os=s₁.os/\AllBare s'.gens) s₁:=by
  intro H hO hS hok hA hK
  have base_of:∀{b:Addr} {o:Obj},s₁.heap.get? b=some o->H b=none->(vK s₁.heap H).get? b=some o:=fun e n=>BO e n
  have noA:∀{b:Addr} {o:Obj} {es:Array DictEntry} {ep:Nat},s₁.heap.get? b=some o->o.data=.dict es ep->H b=none:=fun {b o es ep} e d=>by
   cases q:H b with
   |none=>rfl
   |some u=>
    have e':b=a:=hA b (by rw[q];simp)
    subst e'
    rw[ha] at e;cases e
    have d':Data.seq vs.toArray _=Data.dict es ep:=d
    cases d'
  have nsK:∀{b:Addr} {m:Str->Option Value},s₁.heap.Ns b m->(vK s₁.heap H).Ns b m:=fun {b m} ⟨o,es,ep,e,d,r⟩=>⟨o,es,ep,base_of e (noA e d),d,r⟩
  have hKb:K.In (vK s₁.heap H):=fun b o e=>base_of (KX b o e) (by
   cases q:H b with
   |none=>rfl
   |some u=>
    have e':b=a:=hA b (by rw[q];simp)
    subst e'
    rw[hK (by rw[q];simp)] at e;cases e)
  have hM:Mod K mg (vK s₁.heap H):=⟨hKb,nsK hns,⟨mb,nsK hb,hbb⟩,let ⟨mc,h1,h2⟩:=hlim;⟨mc,nsK h1,h2⟩⟩
  have e0:Env0 P w K mg (vK s₁.heap H) callerA [] s₁ H:=⟨rfl,hM,fun b o e=>ES e,Nat.le_of_eq (BJ _ _),trivial,fun b hb=>absurd (show b∈([]:List Addr) from hb) (by simp),hok,.of_eq hg⟩
  refine codeAny_mono ((F _ hKb (nsK hns)).run callerA [] s₁ H ⟨[.ref a],[]⟩ [.ref a] [.ref a] _ _ hr e0 (hbind s₁ (.ref a)) (.cons rfl .nil) (hsp H hO hS)) fun r s' h=>?_
  cases r with
  |error e=>exact (hCX H e s' h).elim
  |ok fl=>
   cases fl with
   |next=>exact False.elim h
   |brk=>exact False.elim h
   |cont=>exact False.elim h
   |ret u=>
    obtain⟨v,H',os,bare,un,hok',r',q⟩:=h
    have q':v=.bl true:=q
    subst q'
    obtain rfl:u=Value.bool true:=r'
    refine⟨rfl,OldK.of_keep fun b o e=>?_,os,bare⟩
    cases q:H b with
    |none=>exact un.keep b o e q (by intro z;exact absurd (show b∈([]:List Addr) from z) (by simp)) (by simp)
    |some u=>
     rcases hO b with z|⟨ob,xs,z⟩
     ·rw[q] at z;cases z
     ·have z2:=un.frzs b ob _ z
      obtain⟨e1,_⟩:=hok b _ z
      obtain⟨e2,_⟩:=hok' b _ z2
      rw[e] at e1;cases e1
      exact e2
 cases hk:K.lookup a with
 |some o=>
  have e:=KX a o hk
  rw[ha] at e
  cases e
  refine core (fun _=>none) (fun _=>.inl rfl) (.inr ⟨_,vs.toArray,_,hk,rfl,rfl,rfl,by rw[List.size_toArray,lenV];exact hl,by simpa using rv⟩) (fun b u z=>by have z':(none:Option HO)=some u:=z;cases z') (fun b z=>absurd rfl z) fun z=>absurd rfl z
 |none=>
  refine core (fun b=>if b=a then some (.frz { cls:=.type "list",data:=.seq vs.toArray } (.lst (ns.map V.int))) else none) (fun b=>?_) (.inl (.inr ⟨{ cls:=.type "list",data:=.seq vs.toArray },if_pos rfl⟩)) (fun b u z=>?_) (fun b z=>?_) fun _=>hk
  ·by_cases hb:b=a
   ·exact .inr ⟨_,_,if_pos hb⟩
   ·exact .inl (if_neg hb)
  ·by_cases hb:b=a
   ·have z':=(if_pos hb).symm.trans z
    cases z'
    subst hb
    exact⟨ha,by rw[List.length_map];exact hl,vs,_,rv,ha⟩
   ·have z':=(if_neg hb).symm.trans z
    cases z'
  ·by_cases hb:b=a
   ·exact hb
   ·exact absurd (if_neg hb) z
end L2
namespace L2
open PySem PySem.Spec PyProof.Rows
theorem Fa {l:PySem.W.OpenLaw}{n k:Nat}{q:Program}{loose:List Str}{XP:(Str->Option Value)->Heap->Prop}{YP:World->Heap->Prop}{d:DefRec}{K:Params->PySem.W.Frag}{CX:World->zf}{sp:World->Sp}{x:Str}
  (hn:l.most=some n) (hn2:n≤sizeLine) (hdf:d.params.defaults=[]) (hr:Room k callerA)
  (hY:∀(w:World) (h:Heap),YP w h->(K w.params).In h)
  (F:∀(w:World) (mg:Str->Option Value) (fa:Addr) (h:Heap),(K w.params).In h->h.Ns mainGlobals mg->mg d.name=some (.ref fa) →
   ∃fd:FuncData,(∀(s:Shared) (u:Value),BindsTo s fd ⟨[u],[]⟩ [(x,u)]) ∧
    ∀base:Heap,(K w.params).In base->base.Ns mainGlobals mg->FnOk l.prog w (K w.params) mg base (CX w) k fa fd [x] (sp w))
  (hsp:∀(w:World) (H:Hp) (a:Addr) (ns:List Int),ns.length≤n->LQ H->SqL (K w.params) H a (ns.map V.int)->sp w [.ref a] H (fun v _=>v=.bl true) fun _ _ _=>False)
  (hCX:∀(w:World) (H:Hp) (s:Shared) (e:Value) (s':Shared),CX w [] H s (fun _ _ _=>False) e s'->False) :
  PySem.W.WalkO q loose XP YP l.row.toRowW d [] (fun f vs=>PySem.call f vs):=by
 refine Att.attach_call hn hdf fun w s₀ s₁ mg mb fa o pm cd doc a vs ns G Y ho hd hcd hmg hobj hints hlen hg=>?_
 have KX:=hY w _ Y
 obtain⟨fd,hb,hF⟩:=F w mg fa _ KX G.T.g hmg
 exact CP KX G.T.g G.T.b G.T.builtins G.T.nolimit hg hobj hints (Nat.le_trans hlen hn2) hr hF hb (fun H hO hS=>hsp w H a ns hlen hO hS) fun H e s'=>hCX w H s₁ e s'
end L2
namespace L2
open PySem PySem.Spec PyProof.Rows
noncomputable def aA (s:Stmt):Arguments:=match s with
 |.FunctionDef _ a _ _ _ _ _ _ _ _=>a
 |_=>{ posonlyargs:=[],args:=[],vararg:=none,kwonlyargs:=[],kw_defaults:=[],kwarg:=none,defaults:=[] }
noncomputable def aw (s:Stmt):List Stmt:=match s with
 |.FunctionDef _ _ b _ _ _ _ _ _ _=>b
 |_=>[]
noncomputable def ag (s:Stmt):Scope:=match s with
 |.FunctionDef _ _ _ _ _ _ sc _ _ _=>sc
 |_=>{ kind:=.function,names:=[],isGenerator:=false,isCoroutine:=false }
noncomputable abbrev xM:zf:=fun _ _ _ _ _ _=>False
noncomputable abbrev E0:XK:=fun _ _ _=>False
theorem IQ {X:Cx}:y3 xM X E0:=fun _ _ _ _ _ _ _ h=>h.elim
structure Fun (K:PySem.W.Frag)(x qual:Str)(st:Stmt)(f:Addr)(fd:FuncData):Prop where
 ex:∃(oc:Value) (od:Option Addr) (kV doc pm:Value) (an:Option Addr) (cdv ct:Value) (osl:Array (Option Value)),
  fd=PySem.W.fnOf x qual (aA st) (aw st) (ag st) .none kV doc pm an cdv ct/\K.lookup f=some ⟨oc,od,.func fd,osl⟩/\PySem.W.codeIn K cdv qual=true
 kp:PySem.W.keepIn K (.ref f)=true
section
variable {P:Program}{w:World}{K:PySem.W.Frag}{mg:Str->Option Value}{base:Heap}
theorem Fun.ok {x qual:Str}{st:Stmt}{f:Addr}{fd:FuncData}{N ps:List Str}{k:Nat}{sp:Sp}(F:Fun K x qual st f fd)(S:FnScope N ps (ag st))(len:∀vs H Q E,sp vs H Q E->vs.length=ps.length)
  (hbody:∀(cdv:Value) (A:Around) (outer:List Env) (s:Shared) (H:Hp) (vs:List V) (Q:VK) (E:XK),Room k (A.deeper (envOfC qual (ag st) s.heap.objs.size f cdv))->sp vs H Q E →
   ∃t,PSs (nN xM P w K mg base N qual (ag st) f cdv A outer s H E).nox (aw st) t/\t { nx:=fun _ H'=>Q .non H',rt:=Q } (bz N vs) H):FnOk P w K mg base xM (k+1) f fd ps sp:=by
 obtain⟨oc,od,kV,doc,pm,an,cdv,ct,osl,rfl,lk,hcd⟩:=F.ex
 refine M9 lk hcd S len fun A outer s H vs Q E hr hsp=>?_
 obtain⟨t,h,q⟩:=hbody cdv A outer s H vs Q E hr hsp
 exact⟨t,h.nox,q⟩
theorem Lm {x qual:Str}{st:Stmt}{f:Addr}{oc:Value}{od an:Option Addr}{osl:Array (Option Value)}{kV doc pm cdv ct:Value}(l:K.lookup f=some ⟨oc,od,.func (PySem.W.fnOf x qual (aA st) (aw st) (ag st) .none kV doc pm an cdv ct),osl⟩)
  (c:PySem.W.codeIn K cdv qual=true) (k:PySem.W.keepIn K (.ref f)=true):Fun K x qual st f (PySem.W.fnOf x qual (aA st) (aw st) (ag st) .none kV doc pm an cdv ct):=⟨⟨oc,od,kV,doc,pm,an,cdv,ct,osl,rfl,l,c⟩,k⟩
end
theorem tq {n:Nat}(h:n≤1000):n<sizeLine:=Nat.lt_of_le_of_lt h (by decide)
section
variable {X:Cx}
theorem pv (i:Nat){x:Str}{pos:Pos}(hN:X.N[i]?=some x:=by rfl)(hv:L4 X.env.scope x:=by first|exact Or.inl rfl|exact Or.inr (Or.inl rfl)|exact Or.inr (Or.inr rfl))(hd:(x==("__debug__" : Str))=false:=by decide)
  (hcd:(x==("__classdict__" : Str))=false:=by decide):PE X (.Name x pos) (cL i):=CB hN hv hd hcd
end
noncomputable def Same (H H':Hp):Prop:=∀b o,H b=some o->H' b=some o
theorem Same.refl (H:Hp):Same H H:=fun _ _ h=>h
theorem Same.trans {H H1 H2:Hp}(a:Same H H1)(b:Same H1 H2):Same H H2:=fun c o h=>b c o (a c o h)
theorem Same.free {H H':Hp}(e:Same H H'){l:Addr}(h:H' l=Option.none):H l=Option.none:=by
 cases q:H l with
 |none=>rfl
 |some o=>
  rw[e l o q] at h
  cases h
theorem Same.seq {K:PySem.W.Frag}{H H':Hp}{a:Addr}{xs:List V}(e:Same H H')(h:SqL K H a xs):SqL K H' a xs:=by
 rcases h with (h|⟨o,h⟩)|h
 ·exact .inl (.inl (e _ _ h))
 ·exact .inl (.inr ⟨o,e _ _ h⟩)
 ·exact .inr h
end L2
set_option maxHeartbeats 4000000
section
namespace L2
open PySem PySem.Spec PyProof.Rows
section
variable {κ:Type}[DecidableEq κ]
noncomputable def ou (kvs:List (κ×V))(k:κ):Option V:=(kvs.find? fun kv=>decide (kv.1=k)).map (·.2)
noncomputable def rJ (kvs:List (κ×V))(k:κ)(v:V):List (κ×V):=
 if (kvs.any fun kv=>decide (kv.1=k))=true then kvs.map (fun kv=>if kv.1=k then (kv.1,v) else kv) else kvs++[(k,v)]
theorem wZ {p:κ×V}{r:List (κ×V)}{k:κ}(e:p.1=k):ou (p::r) k=some p.2:=by simp[ou,List.find?_cons,e]
theorem wD {p:κ×V}{r:List (κ×V)}{k:κ}(e:¬p.1=k):ou (p::r) k=ou r k:=by simp[ou,List.find?_cons,e]
theorem v0 (kvs:List (κ×V))(k:κ)(v:V):(rJ kvs k v).length≤kvs.length+1:=by
 unfold rJ
 split
 ·rw[List.length_map];omega
 ·rw[List.length_append,List.length_cons,List.length_nil];omega
theorem KV.val {kvs:List (κ×V)}{vs:List (κ×Value)}(r:KV kvs vs)(k:κ):GU (ou kvs k) (valueAt vs k):=by
 unfold KV at r
 induction r with
 |nil=>exact True.intro
 | @cons p q ps qs h t ih=>
  obtain⟨h1,h2⟩:=h
  by_cases e:p.1=k
  ·have e':q.1=k:=h1.symm.trans e
   have b:valueAt (q::qs) k=some q.2:=by simp[valueAt,List.find?_cons,e']
   rw[wZ e,b];exact h2
  ·have e':¬q.1=k:=fun z=>e (h1.trans z)
   have b:valueAt (q::qs) k=valueAt qs k:=by simp[valueAt,List.find?_cons,e']
   rw[wD e,b];exact ih
theorem KV.any {kvs:List (κ×V)}{vs:List (κ×Value)}(r:KV kvs vs)(k:κ):(kvs.any fun kv=>decide (kv.1=k))=vs.any fun kv=>decide (kv.1=k):=by
 unfold KV at r
 induction r with
 |nil=>rfl
 |cons h t ih=>rw[List.any_cons,List.any_cons,ih,h.1]
theorem KV.repl {kvs:List (κ×V)}{vs:List (κ×Value)}(r:KV kvs vs)(k:κ){y:V}{u:Value}(ry:RelV y u) :
  KV (kvs.map fun kv=>if kv.1=k then (kv.1,y) else kv) (vs.map fun kv=>if kv.1=k then (kv.1,u) else kv):=by
 unfold KV at r ⊢
 induction r with
 |nil=>exact .nil
 | @cons p q ps qs h t ih=>
  rw[List.map_cons,List.map_cons]
  refine .cons ?_ ih
  obtain⟨h1,h2⟩:=h
  by_cases e:p.1=k
  ·rw[if_pos e,if_pos (h1.symm.trans e)];exact⟨h1,ry⟩
  ·rw[if_neg e,if_neg (fun z=>e (h1.trans z))];exact⟨h1,h2⟩
theorem KV.put {kvs:List (κ×V)}{vs:List (κ×Value)}(r:KV kvs vs)(k:κ){y:V}{u:Value}(ry:RelV y u):KV (rJ kvs k y) (stored vs k u):=by
 unfold rJ stored
 rw[r.any k]
 by_cases e:(vs.any fun kv=>decide (kv.1=k))=true
 ·rw[if_pos e,if_pos e];exact r.repl k ry
 ·rw[if_neg e,if_neg e];exact Paired.snoc r ⟨rfl,ry⟩
theorem KV.length {kvs:List (κ×V)}{vs:List (κ×Value)}(r:KV kvs vs):kvs.length=vs.length:=Paired.length r
end
theorem Ab {P:Program}{w:World}{k:iW}{u:Value}(r:RelV (kV k) u):(bZ P w).is k u=true:=by
 cases k with
 |inl i=>obtain⟨t,e⟩:=(show ∃t,u=Value.int i t from r);subst e;exact wF P w i t
 |inr x=>obtain⟨t,e⟩:=(show ∃t,u=Value.str x t from r);subst e;exact lZ P w x t
theorem tH {P:Program}{w:World}:∀{ks:List iW} {us:List Value},Vals (ks.map kV) us->ItemsAre (bZ P w) ks us
 |[],_,r=>by rw[List.map_nil] at r;cases r;exact .nil
 |k::ks,_,r=>by
  rw[List.map_cons] at r
  cases r with
  |cons h t=>exact .cons (Ab h) (tH t)
noncomputable abbrev KT (H:Hp):List (List iW×V)->List (List iW×Addr×Value)->Prop:=Paired fun p q=>p.1=q.1/\H q.2.1=some (.tup (p.1.map kV))/\RelV p.2 q.2.2
section
variable {P:Program}{w:World}{H:Hp}{h:Heap}{a:Addr}
theorem IR {u:HO}(ok:HOk P w H h)(e:Rd H a u):ObjOk P w H h a u:=e.ok ok
theorem Ie {kvs:List (iW×V)}(ok:HOk P w H h)(e:Rd H a (.dK kvs)):kvs.length≤sizeLine/\(a==sysModules)=false/\∃vs,KV kvs vs/\h.DictOf (bZ P w) a vs:=
 show ObjOk P w H h a (.dK kvs) from IR ok e
theorem IW {kvs:List (iW×V)}(ok:HOk P w H h)(e:H a=some (.dK kvs)):kvs.length≤sizeLine/\(a==sysModules)=false/\∃vs,KV kvs vs/\h.DictOf (bZ P w) a vs:=Ie ok (.inl e)
theorem Lh {ks:List iW}(ok:HOk P w H h)(e:H a=some (.tup (ks.map kV))):(tupleKind (bZ P w)).is h ks a:=by
 obtain⟨_,its,r,o,h1,h2,n,h3⟩:=(show ObjOk P w H h a (.tup (ks.map kV)) from ok a _ e)
 exact⟨o,its.toArray,n,h1,h2,h3,by simpa using tH r⟩
theorem MK {kvs:List (List iW×V)}(ok:HOk P w H h)(e:Rd H a (.dT kvs)):kvs.length≤sizeLine/\(a==sysModules)=false ∧
  ∃xs,KT H kvs xs/\h.DictOfH (tupleKind (bZ P w)) a xs:=by
 obtain⟨z,y,xs,r,o,es,ep,h1,h2,h3,h4,h5⟩:=(show ObjOk P w H h a (.dT kvs) from IR ok e)
 refine⟨z,y,xs,r,o,es,ep,h1,h2,h3,h4,fun x hx=>?_,h5⟩
 have all:∀{l:List (List iW×V)} {m:List (List iW×Addr×Value)},KT H l m->∀x∈m,(tupleKind (bZ P w)).is h x.1 x.2.1:=by
  intro l m q
  induction q with
  |nil=>intro x hx;exact nomatch hx
  | @cons p q ps qs hq t ih=>
   intro x hx
   rcases List.mem_cons.mp hx with e|hx
   ·subst e
    exact Lh ok (by rw[←hq.1];exact hq.2.1)
   ·exact ih x hx
 exact all r x hx
end
section
variable {X:Cx}{pins:List (Addr×Obj)}{σ:St}{H:Hp}{s:Shared}{a:Addr}{y v:V}{u r:Value}{o:Option V}{A:Around}{E:Value->Shared->Prop}
theorem Inv.big (I:Inv X pins σ H s):sysModules<s.heap.objs.size:=by
 have h:mainGlobals<s.heap.objs.size:=(I.mod.glob.keeps I.bk).lt
 exact Nat.lt_trans (by decide) h
theorem Hr {h':Heap}{t':Nat}{ob:HO}(I:Inv X pins σ H s)(mu:MD (H a))(hs:Heap.SameBut a s.heap h')(he:∃q,h'.get? a=some q)(new:ObjOk X.prog X.w (upd H a ob) h' a ob) :
  Inv X pins σ (upd H a ob) { s with heap:=h',toks:=t' }:=
 I.write (x:=a) (e:=a) mu (.inl rfl) (fun b q hb z=>(hs.2 b hb).trans z) he new
theorem Kr {P:Program}{w:World}{H':Hp}{h':Heap}{kvs:List (iW×V)}{vs:List (iW×Value)}(z:kvs.length≤sizeLine)(hd:(a==sysModules)=false)(rel:KV kvs vs)(dd:h'.DictOf (bZ P w) a vs) :
  ObjOk P w H' h' a (.dK kvs):=⟨z,hd,vs,rel,dd⟩
end
noncomputable def L7 (i:Expr):Prop:=∀ov iv,subscripted i false ov iv=operate [ov,iv] (getItem ov iv)
theorem F7 {prog:Program}{w:World}{A:Around}{E:Value->Shared->Prop}{s:Shared}{env:Env}{value slice:Expr}{pos:Pos}{T id:String}{Q:Value->Shared->Prop}
  (hl:typeLookup (.type T) "__getitem__" = pure (some (.builtin id))) (hs:L7 slice)
  (h:wpAny (model prog w) A (eval value env) (fun o s₁=>wpAny (model prog w) A (eval slice env) (fun i s₂=>s₂.TypeIs o T/\wpAny (model prog w) A (getItem o i) Q E s₂) E s₁) E s) :
  wpAny (model prog w) A (eval (.Subscript value slice pos) env) Q E s:=by
 refine Subscript_ (wpAny_mono h (fun o s₁ h₁=>wpAny_mono h₁ (fun i s₂ h₂=>?_) fun _ _ x=>x) fun _ _ x=>x)
 obtain⟨hT,h₂⟩:=h₂
 unfold subscriptTail
 refine wpAny_bind ?_
 rw[getitemInPython_of_ne hT.not_modules]
 refine wpAny_bind (wpAny_specialOf hT hl ?_)
 have fin:wpAny (model prog w) A (subscripted slice false o i) (fun r s₃=>wpAny (model prog w) A (letTemporaryGo value o r >>= fun _=>pure r) Q E s₃) E s₂:=by
  rw[hs o i]
  exact wpAny_operating (wpAny_mono h₂ (fun r s₃ h₃=>wpAny_bind (wpAny_letTemporaryGo (wpAny_pure h₃))) fun _ _ x=>x)
 first
  |exact wpAny_pure (wpAny_bind fin)
  |exact wpAny_bind (wpAny_pure (wpAny_bind fin))
  |exact wpAny_bind fin
theorem C1 {P:Program}{w:World}{H:Hp}(h:Heap)(hb:sysModules<h.objs.size):ObjOk P w H (h.push { cls:=.type "dict",data:=.dict #[] }) h.objs.size (.dK []):=
 ⟨Nat.zero_le _,beq_eq_false_iff_ne.mpr (Ne.symm (Nat.ne_of_lt hb)),[],.nil,Heap.DictOf.new h⟩
noncomputable def CF:TE:=fun _ H Q=>∀p,H p=none->Q (.ref p) (upd H p (.dK []))
section
variable {X:Cx}{pos:Pos}
theorem Dy:PE X (.Dict [] [] pos) CF:=fun pins s σ H Q I h=>
 wpAny_Dict_empty ⟨.ref s.heap.objs.size,_,I.laid (a:=s.heap.objs.size) (o:=.dK []) (t':=s.toks) (fun _ _ q=>Heap.get?_push_of_some _ q) (Nat.le_refl _) (C1 s.heap I.big),rfl,h _ (I.hok.fresh (Nat.le_refl _))⟩
end
structure M2 (X:Cx)(o:Expr)(m:Str)(apos:Pos)(e f:Expr)(cpos:Pos):Prop where
 base:attributeBase o m X.env (eval o X.env)=eval o X.env
 few:((backTo cpos (starEach [e,f] X.env)).all (fun x=>!x.1)&&(backToKw cpos (keywordEach [] X.env)).all (fun x=>x.1.isSome)
  && decide (([e,f]:List Expr).length+([]:List Keyword).length+(if ([]:List Keyword).isEmpty then 0 else 1)<30))=true
 line:(apos.endLine==cpos.line)=true
 trees:backTo cpos (starEach [e,f] X.env)=[(false,eval e X.env),(false,eval f X.env)]
noncomputable def PZ (H:Hp)(a:Addr):Prop:=(∃kvs,Rd H a (.dK kvs))\/∃kvs,Rd H a (.dT kvs)
theorem LW {X:Cx}{pins:List (Addr×Obj)}{σ:St}{H:Hp}{s:Shared}{a:Addr}(I:Inv X pins σ H s)(d:PZ H a) :
  s.TypeIs (.ref a) "dict"/\(∀b,Value.ref a=.ref b->∃ob,s.heap.get? b=some ob/\ob.dict=none)/\(a==sysModules)=false:=by
 rcases d with ⟨kvs,e⟩|⟨kvs,e⟩
 ·obtain⟨_,hd,vs,_,dd⟩:=Ie I.hok e
  refine⟨dd.typeIs,fun b q=>?_,hd⟩
  cases q
  obtain⟨ob,_,_,h1,h2,_⟩:=dd
  exact⟨ob,h1,h2.2.1⟩
 ·obtain⟨_,hd,xs,_,dd⟩:=MK I.hok e
  refine⟨dd.typeIs,fun b q=>?_,hd⟩
  cases q
  obtain⟨ob,_,_,h1,h2,_⟩:=dd
  exact⟨ob,h1,h2.2.1⟩
end L2
end
section
namespace L2
open PySem PySem.Spec PyProof.Rows
noncomputable def mP (cells:List (Str×Addr)):List (Str×NameKind)->List (Str×Addr)->List (Str×Addr)
 |[],acc=>acc
 |(n,k)::r,acc=>if k==.free then mP cells r ((n,(cells.lookup n).getD 0)::acc) else mP cells r acc
theorem qA {scope:Scope}{env:Env}(h:∀y∈scope.names,y.2=.free->(env.cells.lookup y.1).isSome=true):closureFor scope env=pure (mP env.cells scope.names []):=by
 unfold closureFor
 generalize scope.names=names at h ⊢
 generalize ([]:List (Str×Addr))=acc
 dsimp only
 induction names generalizing acc with
 |nil=>rfl
 |cons x r ih=>
  obtain⟨n,k⟩:=x
  have hr:=ih (fun y hy=>h y (List.mem_cons_of_mem _ hy))
  rw[List.forIn_cons]
  unfold mP
  by_cases hk:(k==NameKind.free)=true
  ·have hs:=h (n,k) List.mem_cons_self (by simpa using hk)
   obtain⟨c,hc⟩:=Option.isSome_iff_exists.mp hs
   have hc':cellOf env n=pure c:=by unfold cellOf;rw[show env.cells.lookup n=some c from hc]
   simp only[hk,if_true]
   rw[hc',show (env.cells.lookup n).getD 0=c by rw[show env.cells.lookup n=some c from hc];rfl]
   exact hr _
  ·simp only[hk]
   exact hr _
theorem nF {cells:List (Str×Addr)}{x:Str}{c:Addr}:∀{names:List (Str×NameKind)} {acc:List (Str×Addr)},(∀y∈names,y.2=.free->(cells.lookup y.1).isSome=true)->(∀x c,acc.lookup x=some c->cells.lookup x=some c) →
  (mP cells names acc).lookup x=some c->cells.lookup x=some c
 |[],_,_,ha,h=>ha x c h
 |(n,k)::r,acc,hs,ha,h=>by
  unfold mP at h
  by_cases hk:(k==NameKind.free)=true
  ·rw[if_pos hk] at h
   refine nF (fun y hy=>hs y (List.mem_cons_of_mem _ hy)) (fun z d hz=>?_) h
   obtain⟨e,he⟩:=Option.isSome_iff_exists.mp (hs (n,k) List.mem_cons_self (by simpa using hk))
   have he':cells.lookup n=some e:=he
   rw[List.lookup_cons] at hz
   cases hzn:z==n with
   |true=>
    rw[hzn] at hz
    have:z=n:=by simpa using hzn
    subst this
    rw[he'] at hz ⊢
    exact hz
   |false=>rw[hzn] at hz;exact ha z d hz
  ·rw[if_neg hk] at h
   exact nF (fun y hy=>hs y (List.mem_cons_of_mem _ hy)) ha h
theorem qe {cells:List (Str×Addr)}{x:Str}:∀{names:List (Str×NameKind)} {acc:List (Str×Addr)},(acc.lookup x).isSome=true->((mP cells names acc).lookup x).isSome=true
 |[],_,h=>h
 |(n,k)::r,acc,h=>by
  unfold mP
  split
  ·refine qe ?_
   rw[List.lookup_cons]
   split
   ·rfl
   ·exact h
  ·exact qe h
theorem nW {cells:List (Str×Addr)}{x:Str}:∀{names:List (Str×NameKind)} {acc:List (Str×Addr)},(x,NameKind.free)∈names->((mP cells names acc).lookup x).isSome=true
 |[],_,h=>nomatch h
 |(n,k)::r,acc,h=>by
  unfold mP
  rcases List.mem_cons.mp h with e|h
  ·cases e
   rw[if_pos (by rfl)]
   exact qe (by rw[List.lookup_cons];simp)
  ·split
   ·exact nW h
   ·exact nW h
noncomputable def Cx.blk (X:Cx)(scope:Scope)(N':List Str)(C:Addr)(s:Shared)(H:Hp)(ex:List Addr):Cx:=
 { X with N:=N',s₀:=s,H₀:=H,env:=compEnvC scope (mP X.env.cells scope.names []) C X.env,outer:=X.stack,ex:=ex,fn:=fun _=>false,pn:=[],xe:=fun _ _=>False }
noncomputable def dc (fm:List (Option Nat))(σ:St):St:=fm.map fun o=>o.bind fun j=>(σ[j]?).join
structure BlkOk (X:Cx)(scope:Scope)(N':List Str)(fm:List (Option Nat)):Prop where
 kind:scope.kind=.function
 nocell:∀y∈scope.names,y.2≠.cell
 names:∀y∈scope.names,y.2=.local->scope.names.lookup y.1=some .local
 free:∀y∈scope.names,y.2=.free->X.env.kindOf y.1=some .cell
 len:fm.length=N'.length
 out:∀(i j:Nat) (x:Str),fm[i]?=some (some j)->N'[i]?=some x->X.N[j]?=some x/\scope.names.lookup x=some .free/\X.env.kindOf x=some .cell
theorem BlkOk.has {X:Cx}{scope:Scope}{N':List Str}{fm:List (Option Nat)}(B:BlkOk X scope N' fm)(ok:X.Ok):∀y∈scope.names,y.2=.free->(X.env.cells.lookup y.1).isSome=true:=fun y hy e=>by
 obtain⟨c,hc⟩:=ok.has y.1 (.inl (B.free y hy e))
 rw[hc];rfl
noncomputable def vH (kind:ScopeKind)(names:List (Str×NameKind))(kindOf:Str->Option NameKind)(N N':List Str)(fm:List (Option Nat)):Bool:=
 kind==.function&&(names.all fun y=>y.2 != .cell)&&(names.all fun y=>y.2 != .local || names.lookup y.1==some .local)&&(names.all fun y=>y.2 != .free || kindOf y.1==some .cell)&&fm.length==N'.length &&
  ((fm.zip N').all fun p=>match p.1 with|none=>true|some j=>N[j]?==some p.2&&names.lookup p.2==some .free&&kindOf p.2==some .cell)
theorem Cl {X:Cx}{scope:Scope}{N':List Str}{fm:List (Option Nat)}(h:vH scope.kind scope.names X.env.kindOf X.N N' fm=true):BlkOk X scope N' fm:=by
 unfold vH at h
 simp only[Bool.and_eq_true,beq_iff_eq,List.all_eq_true,Bool.or_eq_true,bne_iff_ne,ne_eq] at h
 obtain⟨⟨⟨⟨⟨h1,h2⟩,h3⟩,h4⟩,h5⟩,h6⟩:=h
 refine⟨h1,h2,fun y hy e=>(h3 y hy).resolve_left fun z=>z e,fun y hy e=>(h4 y hy).resolve_left fun z=>z e,h5,fun i j x e1 e2=>?_⟩
 have hm:(some j,x)∈fm.zip N':=by
  refine List.mem_of_getElem? (i:=i) ?_
  rw[List.getElem?_zip_eq_some]
  exact⟨e1,e2⟩
 have z:=h6 _ hm
 simp only[Bool.and_eq_true,beq_iff_eq] at z
 exact⟨z.1.1,z.1.2,z.2⟩
theorem gO {env:Env}:∀{names:List (Str×NameKind)} {x:Str} {k:NameKind},(names.map fun (n,k)=>if (k==NameKind.free&&env.scope.kind==.function&&env.kindOf n==some .cell) then (n,NameKind.cell) else (n,k)).lookup x=some k →
  (k=.cell/\env.kindOf x=some .cell/\(x,NameKind.free)∈names)\/(x,k)∈names
 |[],_,_,h=>by simp at h
 |(n,k0)::r,x,k,h=>by
  rw[List.map_cons] at h
  by_cases hc:(k0==NameKind.free&&env.scope.kind==.function&&env.kindOf n==some .cell)=true
  ·dsimp only at h
   rw[if_pos hc,List.lookup_cons] at h
   cases hx:x==n with
   |true=>
    rw[hx] at h
    have e:x=n:=by simpa using hx
    subst e
    cases h
    simp only[Bool.and_eq_true,beq_iff_eq] at hc
    exact .inl ⟨rfl,hc.2,by rw[←hc.1.1];exact List.mem_cons_self⟩
   |false=>
    rw[hx] at h
    rcases gO h with ⟨a,b,c⟩|c
    ·exact .inl ⟨a,b,List.mem_cons_of_mem _ c⟩
    ·exact .inr (List.mem_cons_of_mem _ c)
  ·dsimp only at h
   rw[if_neg hc,List.lookup_cons] at h
   cases hx:x==n with
   |true=>
    rw[hx] at h
    have e:x=n:=by simpa using hx
    subst e
    cases h
    exact .inr List.mem_cons_self
   |false=>
    rw[hx] at h
    rcases gO h with ⟨a,b,c⟩|c
    ·exact .inl ⟨a,b,List.mem_cons_of_mem _ c⟩
    ·exact .inr (List.mem_cons_of_mem _ c)
theorem iO {env:Env}(hk:env.scope.kind=.function):∀{names:List (Str×NameKind)} {x:Str},names.lookup x=some .free->env.kindOf x=some .cell →
  (names.map fun (n,k)=>if (k==NameKind.free&&env.scope.kind==.function&&env.kindOf n==some .cell) then (n,NameKind.cell) else (n,k)).lookup x=some .cell
 |[],_,h,_=>by simp at h
 |(n,k)::r,x,h,hc=>by
  rw[List.map_cons]
  dsimp only
  cases hx:x==n with
  |true=>
   rw[List.lookup_cons,hx] at h
   cases h
   have e:x=n:=by simpa using hx
   subst e
   rw[hc,hk,if_pos (by rfl),List.lookup_cons,hx]
  |false=>
   rw[List.lookup_cons,hx] at h
   have ih:=iO hk h hc
   split
   ·rw[List.lookup_cons,hx];exact ih
   ·rw[List.lookup_cons,hx];exact ih
section
variable {X:Cx}{scope:Scope}{N':List Str}{fm:List (Option Nat)}{pins:List (Addr×Obj)}{σ:St}{H:Hp}{s:Shared}
theorem J1 (B:BlkOk X scope N' fm)(I:Inv X pins σ H s){C:Addr}{ex:List Addr}(hC:s.heap.objs.size≤C)(hex:∀b∈ex,o4 X pins H b)(hlt:∀b∈ex,b<s.heap.objs.size):(X.blk scope N' C s H ex).Ok:=by
 have sub:∀x c,(mP X.env.cells scope.names []).lookup x=some c->X.env.cells.lookup x=some c:=fun x c h=>nF (B.has I.ok) (fun _ _ z=>by simp at z) h
 refine⟨I.ok.mod,?_,I.ok.glob,I.ok.blt,hC,fun x y c h1 h2=>I.ok.inj x y c (sub x c h1) (sub y c h2),fun x hx=>?_,fun x c h _=>(Bool.false_ne_true h).elim,I.ok.hd,I.ok.frames,.inl rfl,fun b hb=>⟨?_,fun x c h=>(hex b hb).2.2.2.2.1 x c (sub x c h)⟩,I.bs,?_,fun b o e hb=>?_,fun b hb hf=>?_,I.stack,I.stkFree⟩
 ·show (relabel scope X.env).kind=.function
  exact B.kind
 ·have hx':(relabel scope X.env).names.lookup x=some .cell\/(relabel scope X.env).names.lookup x=some .free:=hx
  have mem:(x,NameKind.free)∈scope.names:=by
   rcases hx' with h|h
   ·rcases gO h with ⟨_,_,z⟩|z
    ·exact z
    ·exact absurd rfl (B.nocell _ z)
   ·rcases gO h with ⟨z,_,_⟩|z
    ·cases z
    ·exact z
  exact Option.isSome_iff_exists.mp (nW (cells:=X.env.cells) (acc:=[]) mem)
 ·exact Nat.ne_of_lt (Nat.lt_of_lt_of_le (hlt b hb) hC)
 ·exact Nat.le_trans I.ok.bsz I.sz
 ·have hb':b∈ex:=hb
  rcases (hex b hb').2.2.2.1 with z|z
  ·exact I.ok.noex b o e z
  ·exact absurd (Nat.lt_of_lt_of_le (Heap.lt_size (I.ok.bs b o e).1) z) (Nat.lt_irrefl _)
 ·have hb':b∈ex:=hb
  have hf':b∈x4 X.stack:=hf
  rcases List.mem_cons.mp (I.stkSub b hf') with z|z
  ·exact (hex b hb').2.1 z
  ·exact (hex b hb').2.2.1 z
theorem wR {fm:List (Option Nat)}{σ:St}{i:Nat}{v:V}(h:(dc fm σ)[i]?=some (some v)):∃j,fm[i]?=some (some j)/\σ[j]?=some (some v):=by
 unfold dc at h
 rw[List.getElem?_map] at h
 cases e:fm[i]? with
 |none=>rw[e] at h;cases h
 |some o=>
  rw[e] at h
  cases o with
  |none=>cases h
  |some j=>
   refine⟨j,rfl,?_⟩
   have h':some ((σ[j]?).join)=some (some v):=h
   cases e2:σ[j]? with
   |none=>rw[e2] at h';cases h'
   |some w=>rw[e2] at h';exact congrArg some (Option.some.inj h')
theorem Fk (B:BlkOk X scope N' fm)(I:Inv X pins σ H s){C:Addr}{ex:List Addr}{h1:Heap}{tk:Nat}{m:Str->Option Value}(hC:s.heap.objs.size≤C)(hex:∀b∈ex,o4 X pins H b)(hlt:∀b∈ex,b<s.heap.objs.size)
  (hn:h1.Ns C m) (old:∀b o,s.heap.get? b=some o->h1.get? b=some o):Inv (X.blk scope N' C s H ex) [] (dc fm σ) H { s with heap:=h1,toks:=tk }:=by
 have sub:∀x c,(mP X.env.cells scope.names []).lookup x=some c->X.env.cells.lookup x=some c:=fun x c h=>nF (B.has I.ok) (fun _ _ z=>by simp at z) h
 refine⟨J1 B I hC hex hlt,rfl,I.bare,Un.kept old,⟨m,hn,fun i x v hi hσ hv=>?_⟩,fun x c h=>?_,I.hok.fresh hC,fun x c h=>I.freeC x c (sub x c h),fun p hp=>absurd (show p∈([]:List (Addr×Obj)) from hp) (by simp),I.hok.kept old,?_⟩
 ·obtain⟨j,ej,es⟩:=wR hσ
  obtain⟨hN,hf,hk⟩:=B.out i j x ej hi
  obtain⟨m0,_,hl⟩:=I.loc
  obtain⟨u,r,l⟩:=hl j x v hN es (.inr (.inl hk))
  refine⟨u,r,.inr ⟨.inl (iO I.ok.kind hf hk),?_⟩⟩
  rcases l with ⟨z,_⟩|⟨_,c,hc,z⟩
  ·rw[hk] at z;cases z
  ·obtain⟨c',hc'⟩:=Option.isSome_iff_exists.mp (nW (cells:=X.env.cells) (acc:=[]) (PySem.mem_of_lookup hf))
   have e:=sub x c' hc'
   rw[hc] at e
   cases e
   exact⟨c,hc',z.keeps old⟩
 ·obtain⟨v,z⟩:=I.cell x c (sub x c h)
  exact⟨v,z.keeps old⟩
 ·show (dc fm σ).length=N'.length
  unfold dc
  rw[List.length_map]
  exact B.len
end
noncomputable def PIf (X:Cx)(ifs:List Expr)(t:TT):Prop:=
 ∀(pins:List (Addr×Obj)) (s:Shared) (σ:St) (H:Hp) (Q:Bool->Hp->Prop),Inv X pins σ H s->t σ H Q →
  wpAny (model X.prog X.w) X.A (forIn ifs true fun c r=>if r=true then do let ok ←isTrue c X.env (eval c X.env);pure (ForInStep.yield ok) else pure (ForInStep.yield r)) (TP X pins σ Q) X.xe s
noncomputable def gK:TT:=fun _ H Q=>Q true H
theorem zI {X:Cx}:PIf X [] gK:=fun _ s _ H _ I h=>wpAny_tests_nil ⟨H,I,h⟩
theorem FW {X:Cx}{c:Expr}{t:TT}(hc:PT X c t):PIf X [c] t:=fun pins s σ H Q I h=>wpAny_tests_one (hc pins s σ H Q I h)
theorem lV {prog:Program}{w:World}{A:Around}{R:Result->Shared->Prop}{s:Shared}{elt target iter:Expr}{ifs:List Expr}{scope:Scope}{pos:Pos}{it acc:Value}{env:Env}(I:Nat->Shared->Prop)
  (turn:∀n s,I n s->wpAny (model prog w) A (pyNext it) (fun r s₁=>match r with
   |none=>R (.ok .next) s₁
   |some v=>wpAny (model prog w) A (letOwnedTupleGo target it v) (fun _ s₁=>wpAny (model prog w) A (assign target env v) (fun _ s₂=>
     wpAny (model prog w) A (forIn ifs true fun c r=>if r=true then do let ok ←isTrue c env (eval c env);pure (ForInStep.yield ok) else pure (ForInStep.yield r)) (fun ok s₃=>
      if ok=true then wpAny (model prog w) A (eval elt env) (fun x s₄=>
       wpAny (model prog w) A (call (.builtin "list.append") [acc,x]) (fun _ s₅=>∃m,m<n/\I m s₅) (fun _ _=>False) s₄) (fun _ _=>False) s₃
      else ∃m,m<n/\I m s₃) (fun _ _=>False) s₂) (fun _ _=>False) s₁) (fun _ _=>False) s₁) (fun _ _=>False) s)
  (n:Nat) (h:I n s) :
  codeAny (model prog w) A (.compLoop (.ListComp elt [⟨target,iter,ifs,0⟩] scope pos) 0 it acc env) R s:=by
 refine codeAny_loop rfl I (fun n s hI=>?_) n h
 show wpAny _ A ((compTurn (.ListComp elt [⟨target,iter,ifs,0⟩] scope pos) 0 it acc env).onRaise (fun x=>do noteFrame x env;theTreesLotGoes x)) _ _ s
 refine wpAny_noted ?_
 rw[compTurn_list]
 refine wpAny_bind (wpAny_standAt (wpAny_bind (wpAny_mono (turn n s hI) (fun r s₁ h₁=>?_) fun _ _ h'=>h'.elim)))
 cases r with
 |none=>exact wpAny_pure h₁
 |some v=>
  refine wpAny_bind (wpAny_mono h₁ (fun _ s₁ h₁=>?_) fun _ _ h'=>h'.elim)
  refine wpAny_bind (wpAny_mono h₁ (fun _ s₂ h₂=>wpAny_bind (wpAny_mono h₂ (fun ok s₃ h₃=>?_) fun _ _ h'=>h'.elim)) fun _ _ h'=>h'.elim)
  cases ok with
  |false=>exact wpAny_pure ⟨rfl,h₃⟩
  |true=>
   exact wpAny_bind (wpAny_bind (wpAny_mono h₃ (fun x s₄ h₄=>wpAny_bind (wpAny_mono h₄ (fun _ s₅ h₅=>wpAny_pure (wpAny_pure ⟨rfl,h₅⟩)) fun _ _ h'=>h'.elim)) fun _ _ h'=>h'.elim))
noncomputable def CV (fm:List (Option Nat))(g:TG)(tc:TT)(te:TE)(σ:St)(J:It)(H1:Hp)(Q:List V->Hp->Prop):Prop:=
 ∃(W:Nat->List V->Hp->Prop) (n:Nat),W 0 [] H1/\(∀i ys H,W i ys H->i≤n/\ys.length<sizeLine)/\∀i ys H,W i ys H →
  (J.stop i H/\Q ys H)\/(J.go i H/\∀x H',J.yld i H x H'->g x (dc fm σ) H' fun σ2 H2=>tc σ2 H2 fun b H3=>if b=true then te σ2 H3 fun y H4=>W (i+1) (ys++[y]) H4 else W (i+1) ys H3)
noncomputable def kN (fm:List (Option Nat))(wi:TI)(g:TG)(tc:TT)(te:TE):TE:=fun σ H Q=>wi σ H fun J H1=>CV fm g tc te σ J H1 fun ys H2=>∀l,H2 l=none->Q (.ref l) (upd H2 l (.lst ys))
noncomputable def qP (fm:List (Option Nat))(g:TG):Prop:=∀x σ H N,g x σ H N->g x σ H fun σ' H'=>N σ' H'/\σ'.length=σ.length/\∀(i j:Nat),fm[i]?=some (some j)->σ'[i]?=σ[i]?
theorem fZ {fm:List (Option Nat)}{i:Nat}(hi:fm[i]?=some none):qP fm (bf i):=fun x σ H N h=>by
 refine⟨h,List.length_set,fun k j hk=>?_⟩
 have:i≠k:=fun e=>by subst e;rw[hi] at hk;cases hk
 exact List.getElem?_set_ne this
theorem Bj {K:PySem.W.Frag}{fm:List (Option Nat)}{i j:Nat}(hi:fm[i]?=some none)(hj:fm[j]?=some none):qP fm (fS K 2 (cC (bf i) (cC (bf j) gD))):=fun x σ H N h=>by
 obtain⟨a,xs,e,hs,hl,v,r,e1,v2,r2,e2,e3,q⟩:=h
 refine⟨a,xs,e,hs,hl,v,r,e1,v2,r2,e2,e3,q,?_,fun k j' hk=>?_⟩
 ·rw[List.length_set,List.length_set]
 ·have n1:i≠k:=fun e=>by subst e;rw[hi] at hk;cases hk
  have n2:j≠k:=fun e=>by subst e;rw[hj] at hk;cases hk
  rw[List.getElem?_set_ne n2,List.getElem?_set_ne n1]
end L2
end
section
namespace L2
open PySem PySem.Spec PyProof.Rows
section
variable {X:Cx}{scope:Scope}{N':List Str}{fm:List (Option Nat)}{pins:List (Addr×Obj)}{σ:St}{H:Hp}{s:Shared}{tg iter elt:Expr}{ifs:List Expr}{pos:Pos}{g:TG}{tc:TT}{te:TE}
theorem qH (B:BlkOk X scope N' fm)(hc:X.calm=true)(hg:∀C s H ex,PG (X.blk scope N' C s H ex) tg g)(hk:qP fm g)(ht:∀C s H ex,PIf (X.blk scope N' C s H ex) ifs tc)(he:∀C s H ex,PE (X.blk scope N' C s H ex) elt te)
  (I:Inv X pins σ H s) {it:Addr} {fp:List Addr} {tn:Nat->Heap->Prop} {J:It} (T:Turn X.prog X.w X.K tg J fp it tn) (st:tn 0 s.heap) (hf:∀b∈fp,o4 X pins H b) {Qf:List V->Hp->Prop} (q:CV fm g tc te σ J H Qf)
  {RR:Value->Addr->Result->Shared->Prop} {E:Value->Shared->Prop}
  (hRR:∀D C H' ys s',Inv X pins σ (upd H' D (.lst ys)) s'->H' D=none->Qf ys H'->o4 X pins (upd H' D (.lst ys)) C->(∃m,s'.heap.Ns C m)->RR (.ref D) C (.ok .next) s') :
  wpAny (model X.prog X.w) X.A (newList []) (fun acc s₃=>wpAny (model X.prog X.w) X.A (newFunctionEnv scope X.env.globals (mP X.env.cells scope.names []) [] X.env.qual none .none (some X.env)) (fun cenv s₄=>
   codeAny (model X.prog X.w) X.A (.compStart (.ListComp elt [⟨tg,iter,ifs,0⟩] scope pos) 0 (.ref it) acc { cenv with scope:=relabel scope X.env }) (RR acc cenv.locals) s₄) E s₃) E s:=by
 refine wpAny_newObj_type (wpAny_newFunctionEnv B.nocell (by intro y hy;simp at hy) (fun h₁ hns₁ hsb₁=>?_) B.kind)
 dsimp only at hns₁ hsb₁ ⊢
 generalize hH2:s.heap.push { cls:=.type "list",dict:=none,data:=.seq ([]:List Value).toArray }=H2 at hns₁ hsb₁ ⊢
 have hC:H2.objs.size=s.heap.objs.size+1:=by rw[←hH2,Heap.size_push]
 generalize hCC:H2.objs.size=C at hns₁ hsb₁ hC ⊢
 generalize hDD:s.heap.objs.size=D at hC ⊢
 have hDC:D≠C:=by omega
 have hCle:s.heap.objs.size≤C:=by omega
 have lt:∀(b:Nat) (o:Obj),s.heap.get? b=some o->b<D:=fun b o e=>by rw[←hDD];exact Heap.lt_size e
 have old:∀b o,s.heap.get? b=some o->h₁.get? b=some o:=fun b o e=>hsb₁.extBut b o (Nat.ne_of_lt (Nat.lt_trans (lt b o e) (by rw[hC];exact Nat.lt_succ_self _))) (Heap.get?_push_of_some _ (hH2▸Heap.get?_push_of_some _ e))
 have hacc:h₁.PlainList D #[]:=⟨_,hsb₁.extBut _ _ hDC (Heap.get?_push_of_some _ (by rw[←hH2,←hDD];exact Heap.get?_push_size _ rfl))⟩
 have hlt:∀b∈fp,b<s.heap.objs.size:=fun b hb=>by
  obtain⟨o,e,_⟩:=T.obj 0 s.heap st b hb
  exact Heap.lt_size e
 have hDf:D∉fp:=fun hm=>by have z:=hlt _ hm;rw[hDD] at z;exact Nat.lt_irrefl D z
 have st1:tn 0 h₁:=T.keep 0 _ _ st fun b _ o e=>old b o e
 obtain⟨W,n0,w0,hb,turn⟩:=q
 have sub:∀x c,(mP X.env.cells scope.names []).lookup x=some c->X.env.cells.lookup x=some c:=fun x c h=>nF (B.has I.ok) (fun _ _ z=>by simp at z) h
 have I1:∀tk,Inv (X.blk scope N' C s H fp) [] (dc fm σ) H { s with heap:=h₁,toks:=tk }:=fun tk=>Fk B I hCle hf hlt hns₁ old
 have hDfs:D∉x4 X.stack:=fun hm=>by
  obtain⟨_,o,e,_⟩:=I.stack.mem hm
  exact Nat.lt_irrefl D (lt D o e)
 have stat:∀{H':Hp} {oD:Obj},(∀b∈fp,H' b=none)->∀b∈fp,o4 (X.blk scope N' C s H fp) [(D,oD)] H' b:=fun {H' oD} hn b hb=>by
  have l:=hlt b hb
  obtain⟨f0,f1,f2,f3,f4,f5⟩:=hf b hb
  refine⟨hn b hb,fun z=>?_,fun z=>?_,.inl hb,fun x c h=>f4 x c (sub x c h),fun p hp z=>?_⟩
  ·have z':b=C:=z
   exact Nat.lt_irrefl C (by rw[←z'] at hCle ⊢;exact Nat.lt_of_lt_of_le l hCle)
  ·rcases List.mem_cons.mp (I.stkSub b z) with y|y
   ·exact f1 y
   ·exact f2 y
  ·have e:p=(D,oD):=by simpa [Cx.blk] using hp
   subst e
   have z':D=b:=z
   exact hDf (z'▸hb)
 have loop:∀tk,codeAny (model X.prog X.w) X.A (.compLoop (.ListComp elt [⟨tg,iter,ifs,0⟩] scope pos) 0 (.ref it) (.ref D) (compEnvC scope (mP X.env.cells scope.names []) C X.env)) (RR (.ref D) C) { s with heap:=h₁,toks:=tk }:=by
  intro tk
  refine lV (fun n s'=>∃i ys its H',n=n0+1 - i/\Inv (X.blk scope N' C s H fp) [] (dc fm σ) H' s'/\tn i s'.heap/\(∀b∈fp,H' b=none)/\Vals ys its/\s'.heap.PlainList D its.toArray/\H' D=none/\W i ys H') ?_ (n0+1)
   ⟨0,[],[],H,rfl,I1 tk,st1,fun b hb=>(hf b hb).1,.nil,hacc,I.hok.fresh (by omega),w0⟩
  rintro n s3 ⟨i,ys,its,H3,rfl,I3,st3,fr3,rv,⟨nn,hd⟩,hD,w3⟩
  obtain⟨hi,hys⟩:=hb i ys H3 w3
  have I3':Inv (X.blk scope N' C s H fp) [(D,{ cls:=.type "list",data:=.seq its.toArray nn })] (dc fm σ) H3 s3:=I3.pins_of fun p hp=>by
   have e:p=(D,{ cls:=.type "list",data:=.seq its.toArray nn }):=by simpa using hp
   subst e
   exact⟨hd,hD,hDC,hDfs,fun v z=>by cases z⟩
  rcases turn i ys H3 w3 with ⟨stop,qf⟩|⟨go,step⟩
  ·refine dN (T.done (X.blk scope N' C s H fp) rfl rfl rfl hc i _ s3 _ H3 _ I3' (stat fr3) st3 stop) fun r s4 ⟨hr,I4⟩=>?_
   subst hr
   have hd4:=(I4.pin (D,{ cls:=.type "list",data:=.seq its.toArray nn }) (by simp)).1
   have ne:∀b o,H3 b=some o->b≠D:=fun b o e z=>by subst z;rw[hD] at e;cases e
   have U:Un (x4 X.stack) fp H H3 s.heap s4.heap:=I4.base
   have U':Un (x4 X.stack) fp H (upd H3 D (.lst ys)) s.heap s4.heap:=⟨U.keep,U.slot,fun b o e n hx=>by rw[ay (Nat.ne_of_lt (lt b o e))];exact U.free b o e n hx,U.there,
    fun b xs e=>by have z:=U.tups b xs e;rw[ay (ne b _ z)];exact z,fun b o u e=>by have z:=U.frzs b o u e;rw[ay (ne b _ z)];exact z,
    fun b ps e=>by obtain⟨more,z⟩:=U.tbls b ps e;exact⟨more,by rw[ay (ne b _ z)];exact z⟩⟩
   have hok:HOk X.prog X.w (upd H3 D (.lst ys)) s4.heap:=fun b o e=>by
    by_cases hbD:b=D
    ·subst hbD
     rw[aq] at e
     cases e
     exact⟨Nat.le_of_lt hys,its,nn,rv,hd4⟩
    ·rw[ay hbD] at e
     exact (show ObjOk X.prog X.w H3 s4.heap b o from I4.hok b o e).stay (fun _ _ _ z=>z) (fun c z=>by rw[ay (ne c _ z)];exact z) fun c xs z=>by rw[ay (ne c _ z)];exact z
   have I5:Inv X pins σ (upd H3 D (.lst ys)) s4:=I.call' (I4.os) U' hok I4.bare fun b hb=>by
    obtain⟨f0,f1,f2,f3,f4,f5⟩:=hf b hb
    exact⟨f3,f1,f4,f5⟩
   obtain⟨m4,hn4,_⟩:=I4.loc
   exact hRR D C H3 ys s4 I5 hD qf (I.fpOk hCle (by rw[ay (Ne.symm hDC)];exact I4.free)) ⟨m4,hn4⟩
  ·refine dN (T.item (X.blk scope N' C s H fp) rfl rfl rfl hc i _ s3 _ H3 _ I3' (stat fr3) st3 go) fun r s4 ⟨u,hr,h4⟩=>?_
   subst hr
   refine dN h4 fun _ s5 ⟨x,H5,I5,r5,y5,st5,fr5⟩=>?_
   have I5':=I5.pinned (stat fr5) (T.obj _ _ st5)
   refine dN (hg C s H fp _ s5 _ H5 x u _ I5' r5 (hk _ _ _ _ (step x H5 y5))) fun _ s6 ⟨σ6,H6,I6,q6,l6,k6⟩=>?_
   have back:∀{H7:Hp} {s7:Shared} {P7:List (Addr×Obj)},Inv (X.blk scope N' C s H fp) P7 σ6 H7 s7->Inv (X.blk scope N' C s H fp) [] (dc fm σ) H7 s7:=fun {H7 s7 P7} I7=>(I7.weak l6.symm fun a v e=>by
     obtain⟨j,ej,_⟩:=wR e
     rw[k6 a j ej];exact e).pins_of fun p hp=>nomatch hp
   have still:∀{H7:Hp} {s7:Shared},Inv (X.blk scope N' C s H fp) ([(D,{ cls:=.type "list",data:=.seq its.toArray nn })]++p3 fp s5.heap) σ6 H7 s7->tn (i+1) s7.heap/\(∀b∈fp,H7 b=none)/\s7.heap.get? D=some { cls:=.type "list",data:=.seq its.toArray nn }/\H7 D=none:=fun {H7 s7} I7=>by
    refine⟨T.keep _ _ _ st5 fun b hb o e=>(I7.pin (b,o) (List.mem_append_right _ (List.mem_append_right _ (kl hb e)))).1,fun b hb=>?_,?_,?_⟩
    ·obtain⟨o,e,d⟩:=T.obj _ _ st5 b hb
     exact (I7.pin (b,o) (List.mem_append_right _ (List.mem_append_right _ (kl hb e)))).2.1
    ·exact (I7.pin (D,_) (List.mem_append_right _ (List.mem_append_left _ (List.mem_singleton.mpr rfl)))).1
    ·exact (I7.pin (D,{ cls:=.type "list",data:=.seq its.toArray nn }) (List.mem_append_right _ (List.mem_append_left _ (List.mem_singleton.mpr rfl)))).2.1
   refine dN (ht C s H fp _ s6 σ6 H6 _ I6 q6) fun ok s7 ⟨H7,I7,q7⟩=>?_
   cases ok with
   |false=>
    rw[if_neg Bool.false_ne_true] at q7 ⊢
    obtain⟨a1,a2,a3,a4⟩:=still I7
    exact⟨n0+1 - (i+1),by omega,i+1,ys,its,H7,rfl,back I7,a1,a2,rv,⟨nn,a3⟩,a4,q7⟩
   |true=>
    rw[if_pos rfl] at q7 ⊢
    refine dN (he C s H fp _ s7 σ6 H7 _ I7 q7) fun y s8 ⟨v8,H8,I8,r8,w8⟩=>?_
    obtain⟨a1,a2,a3,a4⟩:=still I8
    have hsz:its.toArray.size≤sizeLine:=by
     have:=rv.length
     rw[List.size_toArray]
     omega
    refine wpAny_list_append_plain (hsz:=hsz) ⟨nn,a3⟩ fun h9 hl9 sb9=>?_
    have I8':=back I8
    have I9:Inv (X.blk scope N' C s H fp) [] (dc fm σ) H8 { s8 with heap:=h9 }:=I8'.turned (t':=s8.toks) (fun b o hb e=>(sb9.2 b hb).trans e) a4 hDC (.inr (by show s.heap.objs.size≤D;omega)) (fun x c h z=>by
      obtain⟨v,o,ho,hdd⟩:=I8'.cell x c h
      rw[z,a3] at ho
      cases ho
      cases hdd) fun p hp=>nomatch hp
    refine⟨n0+1 - (i+1),by omega,i+1,ys++[v8],its++[y],H8,rfl,I9,T.keep _ _ _ a1 fun b hb o e=>(sb9.2 b (fun z=>hDf (z▸hb))).trans e,a2,Vals.append rv (.cons r8 .nil),?_,a4,w8⟩
    have e:its.toArray.push y=(its++[y]).toArray:=by simp
    rw[←e]
    exact hl9
 refine codeAny_compStart_list (loop _) (T.self _ 0 _ _ _ st1 (loop _))
end
end L2
end
section
namespace L2
open PySem PySem.Spec PyProof.Rows
section
variable {X:Cx}{scope:Scope}{N':List Str}{fm:List (Option Nat)}{tg iter elt:Expr}{ifs:List Expr}{pos spos px:Pos}{g:TG}{tc:TT}{te:TE}{wi:TI}
theorem FL (B:BlkOk X scope N' fm)(hc:X.calm=true)(hi:PI X tg iter wi)(hg:∀C s H ex,PG (X.blk scope N' C s H ex) tg g)(hk:qP fm g)(ht:∀C s H ex,PIf (X.blk scope N' C s H ex) ifs tc)(he:∀C s H ex,PE (X.blk scope N' C s H ex) elt te)
  (hs:∀x,foldedSetIterable iter X.env x=pure x:=by intro _;rfl):PE X (.ListComp elt [⟨tg,iter,ifs,0⟩] scope pos) (kN fm wi g tc te):=by
 intro pins s σ H Q I h
 rw[eval_ListComp]
 refine wpAny_comprehension_free (use:=none) rfl hs (qA (B.has I.ok)) B.kind B.names (dN (hi pins s σ H _ I h) fun v s1 h1=>dN h1 fun itv s2 h2=>?_)
 obtain⟨it,fp,tn,J,H2,e,I2,T,xq,f2,q⟩:=h2
 subst e
 refine qH B hc hg hk ht he I2 T xq f2 q (RR:=fun acc C=>compPost (model X.prog X.w) X.A X.xe none (EP X pins σ Q) acc C) fun D C H' ys s' I' hD qf fC ⟨m,hn⟩=>?_
 refine⟨m,hn,fun h' sb=>⟨.ref D,upd H' D (.lst ys),?_,rfl,qf D hD⟩⟩
 obtain⟨f0,f1,f2,f3,f4,f5⟩:=fC
 exact I'.turned (t':=s'.toks) (fun b o hb e=>sb.extBut b o hb e) f0 f1 f3 f4 f5
theorem xZ {i:Nat}{x:Str}(hN:X.N.Nodup)(hi':X.N[i]?=some x)(hx:X.env.kindOf x=some .local)(B:BlkOk X scope N' fm)(hc:X.calm=true)(hi:PI X tg iter wi)(hg:∀C s H ex,PG (X.blk scope N' C s H ex) tg g)(hk:qP fm g)
  (ht:∀C s H ex,PIf (X.blk scope N' C s H ex) ifs tc) (he:∀C s H ex,PE (X.blk scope N' C s H ex) elt te) (hsw:swapsWith (.ListComp elt [⟨tg,iter,ifs,0⟩] scope pos) (some (.Name x px)) spos.line X.env=pure true:=by rfl)
  (hs:∀x,foldedSetIterable iter X.env x=pure x:=by intro _;rfl):PS X (.Assign [.Name x px] (.ListComp elt [⟨tg,iter,ifs,0⟩] scope pos) spos) (df (kN fm wi g tc te) (bf i)):=by
 intro pins s σ H D I h
 rw[exec_Assign_Name_used _ _ _ _ hsw]
 refine wpAny_bind (wpAny_standAt (wpAny_bind ?_))
 show wpAny _ X.A (do let _ ←comprehension (.ListComp elt [⟨tg,iter,ifs,0⟩] scope pos) scope X.env _ (newList []) false (eval iter X.env) (some (assign (.Name x px) X.env))) _ _ s
 refine wpAny_bind (dN (wpAny_comprehension_free (use:=some (assign (.Name x px) X.env)) (Q:=fun _ s'=>SP X pins D .next s') rfl hs (qA (B.has I.ok)) B.kind B.names (dN (hi pins s σ H _ I h) fun v s1 h1=>dN h1 fun itv s2 h2=>?_)) fun _ s' q=>wpAny_pure (wpAny_pure q))
 obtain⟨it,fp,tn,J,H2,e,I2,T,xq,f2,q⟩:=h2
 subst e
 refine qH B hc hg hk ht he I2 T xq f2 q (RR:=fun acc C=>compPost (model X.prog X.w) X.A X.xe (some (assign (.Name x px) X.env)) (fun _ s'=>SP X pins D .next s') acc C) fun D' C H' ys s' I' hD qf fC ⟨m,hn⟩=>?_
 obtain⟨f0,f1,f2,f3,f4,f5⟩:=fC
 show wpAny (model X.prog X.w) X.A (assign (.Name x px) X.env (.ref D')) _ X.xe s'
 refine wpAny_assign_Name (tI I' hN hi' (.inl hx) (v:=.ref D') rfl (fun s2 I2 ⟨a,sb,ha⟩=>?_) (.inr hx))
 have hCa:C≠a:=by
  rcases ha with z|z
  ·rw[z];exact f1
  ·exact fun e=>f4 x a z e.symm
 refine⟨m,hn.sameBut sb hCa,fun h' sb'=>⟨_,upd H' D' (.lst ys),I2.turned (t':=s2.toks) (fun b o hb e=>sb'.extBut b o hb e) f0 f1 f3 f4 f5,qf D' hD⟩⟩
end
theorem cV {X:Cx}:gZ X (.builtin "isinstance") (fun xs H Q=>∃x n t b,xs=[x,.ty n]/\TyOf X.K H x t/\PySem.W.kitOne X.K t (.type n)=some b/\Q (.bl b) H):=by
 intro pins s σ H xs us Q I r h
 obtain⟨x,n,t,b,rfl,ty,e,q⟩:=h
 cases r with
 |cons r1 r2=>
  cases r2 with
  |cons r2 r3=>
   cases r3
   cases (show _=Value.type n from r2)
   exact A9 I r1 ty e fun tk=>⟨.bl b,H,I.tok tk,rfl,q⟩
theorem KM {bs:List Bool}{its:List Value}(r:Vals (bs.map V.bl) its){i:Nat}{v:Value}(h:its[i]?=some v):v=Value.bool (bs.getD i false):=by
 have hl:=r.length
 have hi:i<its.length:=(List.getElem?_eq_some_iff.mp h).1
 rw[List.length_map] at hl
 have hb:i<bs.length:=by omega
 obtain⟨u,e1,e2⟩:=r.get (i:=i) (x:=V.bl bs[i]) (by rw[List.getElem?_map,List.getElem?_eq_getElem hb]<;>rfl)
 rw[h] at e1
 cases e1
 have e2':v=Value.bool bs[i]:=e2
 rw[e2',List.getD_eq_getElem?_getD,List.getElem?_eq_getElem hb]<;>rfl
theorem A1 {bs:List Bool}:(List.range bs.length).all (fun i=>bs.getD i false)=bs.all id:=by
 induction bs with
 |nil=>rfl
 |cons b r ih=>
  rw[List.length_cons,List.range_succ_eq_map,List.all_cons,List.all_map,List.all_cons,←ih]<;>rfl
end L2
end
section
namespace L2
open PySem PySem.Spec PyProof.Rows
theorem xK {h:Heap}{a:Addr}{o:Obj}(e:h.get? a=some o):a≠h.objs.size:=Nat.ne_of_lt (Heap.lt_size e)
theorem DT {X:Cx}(hc:X.calm=true):gZ X (.builtin "all") (fun xs H Q=>∃(p:Addr) (bs:List Bool),xs=[.ref p]/\SqL X.K H p (bs.map V.bl)/\Q (.bl (bs.all id)) H):=by
 intro pins s σ H xs us Q I r h
 obtain⟨p,bs,rfl,hq,q⟩:=h
 obtain⟨u,rfl,rx⟩:=kJ r
 cases rx
 obtain⟨its,rv,pl,hz⟩:=I.list hq
 have hl:its.length=bs.length:=by rw[←rv.length,List.length_map]
 refine call_all_walk (wpAny_pyIter_list pl.isList ?_)
 obtain⟨o,ho,hrest⟩:=id pl.isList
 have hne:p≠s.heap.objs.size:=xK ho
 refine⟨s.heap.objs.size,_,_,_,_,_,fun i=>bs.getD i false,rfl,Walks.list (A:=X.A.in1) (I.ok.hd hc) s.heap.objs.size p hne its.toArray,⟨⟨_,Heap.get?_push_size _ rfl,rfl,rfl⟩,⟨o,Heap.get?_push_of_some _ ho,hrest⟩⟩,fun i v s' Q' E' hP hQ=>?_,fun h' tk hk=>?_⟩
 ·have e:v=Value.bool (bs.getD i false):=KM rv (by simpa using hP)
  subst e
  exact wpAny_truthy_bool hQ
 ·have e2:(List.range its.toArray.size).all (fun i=>bs.getD i false)=bs.all id:=by rw[List.size_toArray,hl];exact A1
  rw[e2]
  exact⟨.bl (bs.all id),H,I.kept (t':=tk) fun b o' e=>hk b o' (fun z=>xK e (List.mem_singleton.mp z)) (Heap.get?_push_of_some _ e),rfl,q⟩
noncomputable def qm (n:Nat):List V:=(List.range n).map fun i:Nat=>V.int (i:Int)
theorem o9 (n:Nat):(qm n).length=n:=by unfold qm;simp
noncomputable def Iv:List V->Hp->VK->Prop:=fun xs H Q=>∃j:Int,xs=[.int j]/\-(2 ^ 62)≤j/\j<2 ^ 62/\∀p,H p=none->Q (.ref p) (upd H p (.rng 0 j))
theorem mo {X:Cx}:gZ X (.type "range") Iv:=by
 intro pins s σ H xs us Q I r h
 obtain⟨j,rfl,h1,h2,q⟩:=h
 obtain⟨u,rfl,t,rfl⟩:=kJ r
 refine call_range_1 ?_
 exact⟨.ref s.heap.objs.size,_,I.laid (fun b o e=>Heap.get?_push_of_some _ e) (Nat.le_refl _) (show ObjOk X.prog X.w _ _ _ (.rng 0 j) from⟨_,_,_,Heap.get?_push_size _ rfl⟩),rfl,q _ (I.hok.fresh (Nat.le_refl _))⟩
theorem p6 {n:Nat}{acc:Array Value}(h:ItemsOf (fun i v=>∃t,v=.int ((0:Int)+i * 1) t) acc n):Vals (qm n) acc.toList:=by
 obtain⟨hs,hi⟩:=h
 have gen:∀(l:List Value) (k:Nat),(∀j v,l[j]?=some v->∃t,v=Value.int ((k+j:Nat):Int) t)->Vals ((List.range' k l.length).map fun i:Nat=>V.int (i:Int)) l:=by
  intro l
  induction l with
  |nil=>intro k _;exact .nil
  |cons a r ih=>
   intro k hk
   rw[List.length_cons,List.range'_succ,List.map_cons]
   refine .cons ?_ (ih (k+1) fun j v hj=>?_)
   ·obtain⟨t,e⟩:=hk 0 a rfl
    exact⟨t,by simpa using e⟩
   ·obtain⟨t,e⟩:=hk (j+1) v (by simpa using hj)
    exact⟨t,by rw[e];congr 1;omega⟩
 have e:acc.toList.length=n:=by simpa using hs
 have z:=gen acc.toList 0 fun j v hj=>by
  obtain⟨t,e⟩:=hi j v (by simpa using hj)
  exact⟨t,by rw[e];congr 1;omega⟩
 rw[e] at z
 unfold qm
 rw[List.range_eq_range']
 exact z
theorem sV {X:Cx}(hc:X.calm=true):gZ X (.type "list") (fun xs H Q=>∃p j,xs=[.ref p]/\H p=some (.rng 0 j)/\0≤j/\j≤1000000/\∀l,H l=none->Q (.ref l) (upd H l (.lst (qm j.toNat)))):=by
 intro pins s σ H xs us Q I r h
 obtain⟨p,j,rfl,hp,h1,h2,q⟩:=h
 obtain⟨u,rfl,rx⟩:=kJ r
 cases rx
 obtain⟨t,u,v,e⟩:=(show ObjOk X.prog X.w H s.heap p (.rng 0 j) from I.hok p _ hp)
 refine call_list_range (I.ok.hd hc) (r:=p) (a:=0) (b:=j) (c:=1) (n:=j.toNat) e (small_one (by omega) (by omega) (by omega) (by omega)) (by rw[rangeSize_one];split<;>omega) (by omega) fun h' tk acc' c' hk hS hacc=>?_
 have z:sizeLine ≥ 1000000:=by decide
 refine⟨.ref s.heap.objs.size,_,I.laid (t':=tk) hk (Nat.le_refl _) (show ObjOk X.prog X.w _ h' _ (.lst (qm j.toNat)) from⟨by rw[o9];omega,acc'.toList,c',p6 hacc,hS⟩),rfl,q _ (I.hok.fresh (Nat.le_refl _))⟩
theorem uc {xs:List V}{its:List Value}(r:Vals xs its){j:Nat}(h:j<its.toArray.size):RelV (xs.getD j .non) its.toArray[j]:=by
 have hl:=r.length
 have h1:j<its.length:=by simpa using h
 have h2:j<xs.length:=by omega
 obtain⟨u,e1,e2⟩:=r.get (i:=j) (x:=xs[j]) (List.getElem?_eq_getElem h2)
 have e3:its.toArray[j]=u:=by
  rw[List.getElem?_eq_getElem h1] at e1
  simpa using e1
 rw[e3,List.getD_eq_getElem?_getD,List.getElem?_eq_getElem h2]
 exact e2
end L2
end
section
namespace L2
open PySem PySem.Spec PyProof.Rows
theorem bU {H:Hp}{p:Addr}(h:H p=none)(o:HO):Same H (upd H p o):=fun b u q=>by rw[ay (bB q h)];exact q
theorem SqT.of' {K:PySem.W.Frag}{H:Hp}{a:Addr}{xs:List V}(h:H a=some (.tup xs)):SqT K H a xs:=SqT.of h
theorem oJ:fillsNumberSlot (.type "tuple") "mul" = pure false:=by first|rfl|decide +kernel|kernel_rfl
end L2
end
section
namespace L2
open PySem PySem.Spec PyProof.Rows
theorem vz:seqRepeat? (.type "tuple")=pure (some (.builtin "tuple.__mul__")):=by
 unfold seqRepeat?
 rw[PySem.seqSlot_of (T:="tuple") (name:="__mul__") (id:="tuple.__mul__") PySem.F.slot_tuple_mul.lookup (by decide +kernel),PySem.seqSlot_of (T:="tuple") (name:="__rmul__") (id:="tuple.__rmul__") PySem.F.slot_tuple_rmul.lookup (by decide +kernel)]
 rfl
theorem qK (a:Int)(t:Tok)(l:Addr)(items:Array Value)(n:Nat)(dd:Option Addr)(sl:Array (Option Value)) :
  Meets (Builtin.«int.__rmul__» ⟨[.int a t,.ref l],[]⟩) (fun _ R s=>s.heap.get? l=some { cls:=.type "tuple",dict:=dd,data:=.seq items n,slots:=sl }/\R (.ok (.ret Value.notImplemented)) s):=
 .of_wp fun prog w A R s h=>by obtain⟨hp,g,d,tk,os⟩:=s;obtain⟨hl,h⟩:=h;wp_walk;exact⟨_,rfl,h⟩
theorem qC (l:Addr)(items:Array Value)(n:Nat)(dd:Option Addr)(sl:Array (Option Value))(t:Tok) :
  Meets (Builtin.«tuple.__mul__» ⟨[.ref l,.int 1 t],[]⟩) (fun _ R s=>s.heap.get? l=some { cls:=.type "tuple",dict:=dd,data:=.seq items n,slots:=sl }/\R (.ok (.ret (Value.ref l))) s):=
 .of_wp fun prog w A R s h=>by obtain⟨hp,g,d,tk,os⟩:=s;obtain⟨hl,h⟩:=h;have f1:=AutoSeq1.idx_int;have f2:=AutoSeq1.sub_tuple_tuple;have hc:(items.isEmpty || (1:Int)==1)=true:=(by simp);wp_walk using wpAny_loadPart' hl;exact⟨_,rfl,h⟩
theorem sO (l:Addr)(items:Array Value)(n:Nat)(dd:Option Addr)(sl:Array (Option Value))(k:Int)(t:Tok)(h1:¬(decide (k < -(2 ^ 63)) || decide (k ≥ 2 ^ 63))=true)(h2:¬(items.isEmpty || k==1)=true)(h3:¬(decide (k≤0) || items.isEmpty)=true)
  (h4:¬(items.size * k > (2 ^ 63 - 1) / 8)) (h5:¬Builtin.Tuple.tupleTooMany (items.size * k)=true) (h6:((List.replicate k.toNat items).foldl (·++·) #[]).size≤sizeLine) :
  Meets (Builtin.«tuple.__mul__» ⟨[.ref l,.int k t],[]⟩) (fun _ R s=>s.heap.get? l=some { cls:=.type "tuple",dict:=dd,data:=.seq items n,slots:=sl }/\R (.ok (.ret (Value.ref s.heap.objs.size))) { s with heap:=s.heap.push { cls:=Value.type "tuple",data:=Data.seq ((List.replicate k.toNat items).foldl (·++·) #[]) },toks:=s.toks }):=
 .of_wp fun prog w A R s h=>by obtain⟨hp,g,d,tk,os⟩:=s;obtain⟨hl,h⟩:=h;have f1:=AutoSeq1.idx_int;have f2:=AutoSeq1.sub_tuple_tuple;wp_walk using wpAny_loadPart' hl;rw[if_neg h1];wp_walk using wpAny_loadPart' hl;rw[if_neg h4];(try dsimp only);rw[if_neg h5];wp_walk using wpAny_loadPart' hl;exact⟨_,rfl,h⟩
theorem q0 (its:List Value)(m:Nat):List.foldl (fun x1 x2=>x1++x2) #[] (List.replicate m its.toArray)=(List.replicate m its).flatten.toArray:=by
 have:=oH its m []
 rw[List.nil_append] at this
 exact this
end L2
end
section
namespace L2
open PySem PySem.Spec PyProof.Rows
namespace HT
end HT
end L2
end
section
namespace L2
open PySem PySem.Spec PyProof.Rows PySem.W
noncomputable def Leaf {α:Type}(n:Nat)(P:α->Prop):KasT α->Prop
 |.ret a=>P a
 |.ask i j k=>i<n/\j<n/\∀b,Leaf n P (k b)
theorem Leaf.bind {α β:Type}{n:Nat}{P:α->Prop}{R:β->Prop}{f:α->KasT β}(hf:∀a,P a->Leaf n R (f a)):∀{t:KasT α},Leaf n P t->Leaf n R (t.bind f)
 |.ret a,h=>hf a h
 |.ask i j k,h=>⟨h.1,h.2.1,fun b=>Leaf.bind hf (h.2.2 b)⟩
noncomputable abbrev OfN (n:Nat)(p:Array Nat):Prop:=p.toList.Perm (List.range n)
theorem OfN.lt {n:Nat}{p:Array Nat}(h:OfN n p)(hn:0<n)(k:Nat):p.getD k 0<n:=by
 by_cases hk:k<p.size
 ·have e:p.getD k 0=p[k]:=by simp[Array.getD,hk]
  rw[e]
  exact List.mem_range.mp (h.subset (by simp))
 ·have e:p.getD k 0=0:=by simp[Array.getD,hk]
  rw[e];exact hn
theorem OfN.rev {n:Nat}{p:Array Nat}(h:OfN n p)(i j:Nat):OfN n (kas_rev p i j):=(mirror_perm p i j _).toList.trans h
theorem OfN.bub {n:Nat}{p:Array Nat}(h:OfN n p)(i j:Nat):OfN n (bubble p i j):=(bubble_perm p i j).toList.trans h
theorem qj {n:Nat}{p:Array Nat}(hp:OfN n p)(hn:0<n):∀f k,Leaf n (fun _=>True) (kas_asc p f k)
 |0,_=>True.intro
 |f+1,k=>⟨hp.lt hn _,hp.lt hn _,fun b=>by
  cases b with
  |true=>exact True.intro
  |false=>exact qj hp hn f (k+1)⟩
theorem my {n:Nat}(hn:0<n):∀f (p:Array Nat) k q,OfN n p->Leaf n (fun r=>OfN n r.1) (kas_desc f p k q)
 |0,_,_,_,hp=>hp
 |f+1,p,k,q,hp=>⟨hp.lt hn _,hp.lt hn _,fun b=>by
  cases b with
  |true=>
   show Leaf n _ (if q > 0 then kas_desc f (kas_rev p (k - (q+1)) k) (k+1) 0 else kas_desc f p (k+1) 0)
   split
   ·exact my hn f _ _ _ (hp.rev _ _)
   ·exact my hn f _ _ _ hp
  |false=>
   refine⟨hp.lt hn _,hp.lt hn _,fun c=>?_⟩
   cases c with
   |true=>exact hp
   |false=>exact my hn f _ _ _ hp⟩
theorem qS {n:Nat}(hn:0<n){p:Array Nat}(hp:OfN n p)(a b:Nat):Leaf n (fun r=>OfN n r.2) (kas_tail3 a b p):=by
 unfold kas_tail3
 exact Leaf.bind (P:=fun _=>True) (R:=fun r:Nat×Array Nat=>OfN n r.2) (f:=fun m=>KasT.ret (m,kas_rev p 0 a)) (fun m _=>(show OfN n (kas_rev p 0 a) from hp.rev 0 a)) (qj (hp.rev 0 a) hn _ _)
theorem mV {n:Nat}(hn:0<n){p:Array Nat}(hp:OfN n p)(a b:Nat):Leaf n (fun r=>OfN n r.2) (kas_descPart a b p):=by
 refine Leaf.bind (fun r hr=>?_) (my hn _ _ _ _ hp)
 split
 ·exact qS hn (OfN.rev hr _ _) _ _
 ·exact qS hn hr _ _
theorem yb {n:Nat}(hn:0<n){p:Array Nat}(hp:OfN n p)(b:Nat):Leaf n (fun r=>OfN n r.2) (kas_count b p):=by
 refine Leaf.bind (fun r _=>?_) (qj hp hn _ _)
 split
 ·exact hp
 ·split
  ·refine⟨hp.lt hn _,hp.lt hn _,fun c=>?_⟩
   cases c with
   |true=>exact hp
   |false=>exact mV hn (hp.rev _ _) _ _
  ·exact mV hn hp _ _
theorem na {n:Nat}(hn:0<n){p:Array Nat}(hp:OfN n p)(k:Nat):∀f l r,Leaf n (fun _=>True) (kas_place p k f l r)
 |0,_,_=>True.intro
 |f+1,l,r=>by
  show Leaf n _ (if l ≥ r then .ret l else .ask (p.getD k 0) (p.getD ((l+r) / 2) 0) fun c=>if c=true then kas_place p k f l ((l+r) / 2) else kas_place p k f ((l+r) / 2+1) r)
  split
  ·exact True.intro
  ·refine⟨hp.lt hn _,hp.lt hn _,fun c=>?_⟩
   cases c with
   |true=>exact na hn hp k f _ _
   |false=>exact na hn hp k f _ _
theorem wy {n:Nat}(hn:0<n):∀f (p:Array Nat) k,OfN n p->Leaf n (OfN n) (kas_bin f p k)
 |0,_,_,hp=>hp
 |f+1,p,k,hp=>Leaf.bind (fun l _=>wy hn f _ _ (hp.bub _ _)) (na hn hp k _ _ _)
theorem tL {n:Nat}(hn:0<n):Leaf n (OfN n) (kas_sort n):=by
 refine Leaf.bind (fun r hr=>?_) (yb hn (show OfN n (List.toArray (List.range n)) from .refl _) n)
 split
 ·exact wy hn _ _ _ hr
 ·exact hr
theorem HOk.stands {P:Program}{w:World}{H:Hp}{h:Heap}{a:Addr}{o:HO}(x:HOk P w H h)(e:H a=some o):∃ob,h.get? a=some ob:=by
 have y:=x a o e
 cases o with
 |lst xs=>obtain⟨_,_,_,_,z⟩:=y;exact⟨_,z⟩
 |tup xs=>obtain⟨_,_,_,ob,z,_⟩:=y;exact⟨_,z⟩
 |dK kvs=>obtain⟨_,_,_,_,ob,_,_,z,_⟩:=y;exact⟨_,z⟩
 |dT kvs=>obtain⟨_,_,_,_,ob,_,_,z,_⟩:=y;exact⟨_,z⟩
 |set S n=>obtain⟨ob,_,_,_,z,_⟩:=y;exact⟨_,z⟩
 |ins C dx fs=>obtain⟨_,_,_,z,_⟩:=y;exact⟨_,z⟩
 |own y'=>exact y
 |xd fs=>obtain⟨_,⟨ob,_,_,z,_⟩,_⟩:=y;exact⟨_,z⟩
 |rng lo hi=>obtain⟨_,_,_,z⟩:=y;exact⟨_,z⟩
 |frz ob u=>exact⟨_,y.1⟩
 |tbl ps=>exact⟨_,(show h.get? a=some { cls:=.none,data:=.fields ps } from y)⟩
 |met f y'=>exact⟨_,(show h.get? a=some (PySem.W.methodObj (.ref f) (.ref y')) from y)⟩
 |ext φ=>exact y.2.1
theorem JI {h:Heap}{L:Addr}{m m':Str->Option Value}(a:h.Ns L m)(b:h.Ns L m'):m=m':=by
 obtain⟨o,es,ep,h1,h2,h3,h4⟩:=a
 obtain⟨o',es',ep',h1',h2',h3',h4'⟩:=b
 rw[h1] at h1'
 cases h1'
 rw[h2] at h2'
 cases h2'
 funext x
 rw[←h4 x,←h4' x]
section
variable {X:Cx}{pins:List (Addr×Obj)}{σ:St}{H:Hp}{s:Shared}
theorem Inv.ledger {h':Heap}{m:Str->Option Value}{D:Addr}{ys:List V}{out:List Value}{c:Nat}(I:Inv X pins σ H s)(F0:Fr X.base X.env.locals s.heap m)(F:Fr X.base X.env.locals h' m)(N:News X.base X.env.locals h' ((D,listOf (List.toArray out) c)::nL X.base s.heap X.env.locals))
  (hD:s.heap.get? D=none) (r:Vals ys out) (hz:ys.length≤sizeLine):Inv X pins σ (upd H D (.lst ys)) { s with heap:=h' }/\H D=none:=by
 have hHD:H D=none:=by
  cases e:H D with
  |none=>rfl
  |some o=>
   obtain⟨ob,z⟩:=I.hok.stands e
   rw[hD] at z;cases z
 have kept:∀b o,b≠X.env.locals->s.heap.get? b=some o->h'.get? b=some o:=fun b o hb e=>by
  cases q:X.base.get? b with
  |some u=>
   have z:=I.bk b u q
   rw[e] at z;cases z
   exact F.keep b _ q
  |none=>exact (N (b,o) (List.mem_cons_of_mem _ (ld hb q e))).1
 have ne:∀b o,H b=some o->b≠D:=fun b o e z=>by subst z;rw[hHD] at e;cases e
 have neL:∀b o,H b=some o->b≠X.env.locals:=fun b o e z=>by subst z;rw[I.free] at e;cases e
 have hd:=(N (D,listOf (List.toArray out) c) (List.mem_cons_self)).1
 refine⟨I.step (g':=s.gens) (t':=s.toks) (d':=s.drawn) (ch:=[]) (fun _ z=>nomatch z) (fun b o hL _ _ e _=>kept b o hL e) (fun b o hL _ _ e _=>⟨o.slots,kept b o hL e⟩) (fun b o _ e n=>?_) (fun b o _ e=>?_)
  (fun b xs e=>by rw[ay (ne b _ e)];exact e) (fun b o u e=>by rw[ay (ne b _ e)];exact e) (fun b ps e=>⟨#[],by rw[ay (ne b _ e),e];simp⟩) (fun m1 hm=>?_) (fun b o e=>?_) I.bare,hHD⟩
 ·rw[ay (fun z=>by subst z;rw[hD] at e;cases e)];exact n
 ·by_cases hb:b=X.env.locals
  ·subst hb
   obtain⟨o',_,_,z,_⟩:=F.ns
   exact⟨o',z⟩
  ·exact⟨o,kept b o hb e⟩
 ·rw[JI hm F0.ns];exact F.ns
 ·by_cases hb:b=D
  ·subst hb
   rw[aq] at e
   cases e
   exact⟨hz,out,c,r,hd⟩
  ·rw[ay hb] at e
   refine (I.hok b o e).stay (fun d u hc q=>kept d u ?_ q) (fun d z=>by rw[ay (ne d _ z)];exact z) fun d xs z=>by rw[ay (ne d _ z)];exact z
   rcases hc with z|z
   ·rw[z];exact neL b _ e
   ·exact neL d _ z
end
section
variable {prog:Program}{w:World}{A:Around}{E:Value->Shared->Prop}{s:Shared}
theorem xW {a:Addr}{vs:List Value}{n:Nat}{P:PySem.Fin->Shared->Prop}(ho:s.heap.get? a=some (seqObj "list" vs.toArray n))(h2:vs.length<2)
  (h:P (.done (.ret .none)) { s with heap:=sortedHeap s.heap a vs vs.toArray }):wpAny (model prog w) A (Builtin.«list.sort» ⟨[.ref a],[]⟩) P E s:=by
 rw[list_sort_plain]
 have ha:=Heap.lt_size ho
 refine wpAny_bind (listItems_at ho rfl (wpAny_bind (listUpdate_at ho rfl ?_ (by rw[List.size_toArray,sizeLine_eq];omega) (Nat.zero_le _))))
 obtain⟨e1,ho1⟩:∃e1,(s.heap.update a (Obj.mapSeq fun _=>(#[]:Array Value))).get? a=some (seqObj "list" #[] e1):=⟨_,get?_update_seq ho fun _=>#[]⟩
 refine wpAny_bind (seqEpoch_at ho1 rfl (wpAny_bind (wpAny_newTuple (wpAny_bind (wpAny_newList (wpAny_holding ?_) (Nat.zero_le _))) (by show vs.length≤_;rw[sizeLine_eq];omega))))
 have ho6:(((s.heap.update a (Obj.mapSeq fun _=>(#[]:Array Value))).push (seqObj "tuple" vs.toArray 0)).push (seqObj "list" #[] 0)).get? a=some (seqObj "list" #[] e1):=Heap.get?_push_of_some _ (Heap.get?_push_of_some _ ho1)
 show wpAny (model prog w) A _ P E { s with heap:=((s.heap.update a (Obj.mapSeq fun _=>(#[]:Array Value))).push (seqObj "tuple" vs.toArray 0)).push (seqObj "list" #[] 0) }
 dsimp only
 have hlt:vs.toArray.size<2:=by rw[List.size_toArray];exact h2
 rw[if_pos hlt,if_pos hlt]
 refine wpAny_bind (wpAny_pure ?_)
 rw[StateT.run_pure]
 have hsn:(arrOf (SortSt.mk' general' (vs.toArray.zip vs.toArray) #[] 7 none)).map (·.2)=vs.toArray:=by
  show (vs.toArray.zip vs.toArray).map (·.2)=vs.toArray
  apply Array.toList_inj.mp
  simp
  exact List.map_snd_zip (by simp)
 refine wpAny_bind (wpAny_pure ?_)
 dsimp only
 refine wpAny_bind (seqEpoch_at ho6 rfl ?_)
 refine wpAny_bind (listUpdate_at ho6 rfl ?_ (Nat.zero_le _) (by rw[hsn,List.size_toArray,sizeLine_eq];omega))
 simp only[bne_self_eq_false,Bool.false_eq_true,if_false]
 rw[hsn]
 exact wpAny_pure h
theorem vp {l:Addr}{vs:List Value}{Q:Value->Shared->Prop}(hl:s.heap.IsList l vs.toArray)(h2:vs.length<2)(h:Q (.ref (s.heap.objs.size+1)) { s with heap:=sortedAll s.heap vs vs.toArray }) :
  wpAny (model prog w) A (call (.builtin "sorted") [.ref l]) Q E s:=by
 refine Calls.call_function_entry kind_sorted plain_sorted entry_sorted (args_sorted1 _) ?_
 unfold Builtin.«sorted»
 refine wpAny_bind (m:=checkCount "sorted" 1 1 _) (wpAny_pure (wpAny_bind (collect_list hl (wpAny_bind (wpAny_newList ?_ (by rw[sizeLine_eq];omega))) (by rw[sizeLine_eq];omega))))
 have hsz:((s.heap.push (seqObj "list" #[] 0)).update s.heap.objs.size (Obj.mapSeq (·++vs.toArray))).objs.size=s.heap.objs.size+1:=(Heap.size_update ..).trans (size_push' ..)
 have hoL:(((s.heap.push (seqObj "list" #[] 0)).update s.heap.objs.size (Obj.mapSeq (·++vs.toArray))).push (seqObj "list" vs.toArray 0)).get? (s.heap.objs.size+1)=some (seqObj "list" vs.toArray 0):=hsz▸Heap.get?_push_size _ rfl
 show wpAny _ _ _ _ _ { s with heap:=((s.heap.push (seqObj "list" #[] 0)).update s.heap.objs.size (Obj.mapSeq (·++vs.toArray))).push (seqObj "list" vs.toArray 0) }
 rw[hsz]
 refine wpAny_bind (wpAny_holding (wpAny_call_entry slot_list_sort ⟨_,hoL,rfl⟩ entry_list_sort (xW hoL h2 ⟨_,rfl,?_⟩) (args_list_sort _)))
 exact wpAny_pure ⟨_,rfl,h⟩
end
end L2
end
section
namespace L2
open PySem PySem.Spec PyProof.Rows PySem.W
theorem mq {α:Type}(d:α):∀(xs:List α),(List.range xs.length).map (fun i=>xs.getD i d)=xs:=fun xs=>by
 apply List.ext_getElem
 ·simp
 ·intro i h1 h2
  rw[List.getElem_map,List.getElem_range]
  simp[h2]
theorem wI {ts:List V}{its:List Value}(r:Vals ts its):∀{p:List Nat},(∀i∈p,i<its.length)->Vals (p.map fun i=>ts.getD i .non) (p.map fun i=>its.getD i Value.none)
 |[],_=>.nil
 |i::p,h=>by
  have hi:=h i List.mem_cons_self
  have hz:=uc r (j:=i) (by simpa using hi)
  have e:its.getD i Value.none=its.toArray[i]'(by simpa using hi):=by simp[hi]
  refine .cons ?_ (wI r fun j hj=>h j (List.mem_cons_of_mem _ hj))
  show RelV (ts.getD i .non) (its.getD i Value.none)
  rw[e];exact hz
end L2
end
section
namespace L2
open PySem PySem.Spec PyProof.Rows
noncomputable def FunD (K:PySem.W.Frag)(mg:Str->Option Value)(x:Str)(st:Stmt)(ps:List Str):Prop:=∃f fd,Fun K x x st f fd/\(∀us:List Value,us.length=ps.length->bindArgs fd ⟨us,[]⟩=pure (ps.zip us))/\mg x=some (.ref f)
noncomputable def Def (P:Program)(w:World)(K:PySem.W.Frag)(mg:Str->Option Value)(base:Heap)(k:Nat)(x:Str)(ps:List Str)(sp:Sp):Prop:=
 ∃f fd,FnOk P w K mg base xM k f fd ps sp/\Binds K fd ps []/\PySem.W.keepIn K (.ref f)=true/\mg x=some (.ref f)
section
variable {P:Program}{w:World}{K:PySem.W.Frag}{mg:Str->Option Value}{base:Heap}
theorem FunD.ok {x:Str}{st:Stmt}{N ps:List Str}{k:Nat}{sp:Sp}(F:FunD K mg x st ps)(S:FnScope N ps (ag st))(len:∀vs H Q E,sp vs H Q E->vs.length=ps.length)
  (hbody:∀(f:Addr) (cdv:Value) (A:Around) (outer:List Env) (s:Shared) (H:Hp) (vs:List V) (Q:VK) (E:XK),Room k (A.deeper (envOfC x (ag st) s.heap.objs.size f cdv))->sp vs H Q E →
   ∃t,PSs (nN xM P w K mg base N x (ag st) f cdv A outer s H E).nox (aw st) t/\t { nx:=fun _ H'=>Q .non H',rt:=Q } (bz N vs) H):Def P w K mg base (k+1) x ps sp:=by
 obtain⟨f,fd,F,b,m⟩:=F
 exact⟨f,fd,F.ok S len (hbody f),.all b,F.kp,m⟩
end
theorem FunD.top {P:Program}{w:World}{K:PySem.W.Frag}{mg:Str->Option Value}{x y:Str}{st:Stmt}{fa:Addr}{k:Nat}{sp:Sp}{N:List Str}{R:Heap->Prop}(F:FunD K mg x st [y])(hm:mg x=some (.ref fa))(S:FnScope N [y] (ag st))(len:∀vs H Q E,sp vs H Q E->vs.length=1)
  (hbody:∀base,R base->∀(f:Addr) (cdv:Value) (A:Around) (outer:List Env) (s:Shared) (H:Hp) (vs:List V) (Q:VK) (E:XK),Room k (A.deeper (envOfC x (ag st) s.heap.objs.size f cdv))->sp vs H Q E →
   ∃t,PSs (nN xM P w K mg base N x (ag st) f cdv A outer s H E).nox (aw st) t/\t { nx:=fun _ H'=>Q .non H',rt:=Q } (bz N vs) H) :
  ∃fd:FuncData,(∀(s:Shared) (u:Value),BindsTo s fd ⟨[u],[]⟩ [(y,u)])/\∀base:Heap,R base->FnOk P w K mg base xM (k+1) fa fd [y] sp:=by
 obtain⟨f,fd,F,b,m⟩:=F
 rw[hm] at m
 cases m
 exact⟨fd,fun s u=>.of_eq (b [u] rfl),fun base hb=>F.ok S len (hbody base hb fa)⟩
section
variable {X:Cx}{k j:Nat}{ps:List Str}{sp:Sp}{x:Str}{p pos:Pos}{e:Expr}{es:List Expr}{t:TA}
theorem lh (d:Def X.prog X.w X.K X.mg X.base j x ps sp)(hr:Room k X.A)(ha:PA X (e::es) t)(hj:j≤k:=by decide)(hg:Gl X x:=by rfl)(hdb:(x==("__debug__" : Str))=false:=by decide)(he:starEach (e::es) X.env=(false,eval e X.env)::starEach es X.env:=by rfl)
  (hpl:(backTo pos (starEach es X.env)).any (·.1)=false:=by rfl):PE X (.Call (.Name x p) (e::es) [] pos) (b8 sp [] E0 t):=by
 obtain⟨f,fd,F,b,kp,m⟩:=d
 exact Gu F (hr.mono hj) hg m kp b .nil IQ ha hdb he hpl
end
section
variable {X:Cx}{scope:Scope}{tg iter elt:Expr}{ifs:List Expr}{pos spos px:Pos}{g:TG}{tc:TT}{te:TE}{wi:TI}
theorem ko (N':List Str)(fm:List (Option Nat))(hi:PI X tg iter wi)(hg:∀C s H ex,PG (X.blk scope N' C s H ex) tg g)(ht:∀C s H ex,PIf (X.blk scope N' C s H ex) ifs tc)(he:∀C s H ex,PE (X.blk scope N' C s H ex) elt te)(hk:qP fm g)
  (hB:vH scope.kind scope.names X.env.kindOf X.N N' fm=true:=by rfl) (hc:X.calm=true:=by rfl) (hs:∀x,foldedSetIterable iter X.env x=pure x:=by intro _;rfl):PE X (.ListComp elt [⟨tg,iter,ifs,0⟩] scope pos) (kN fm wi g tc te):=
 FL (Cl hB) hc hi hg hk ht he hs
theorem xh {i:Nat}{x:Str}(N':List Str)(fm:List (Option Nat))(hN:X.N.Nodup)(hi:PI X tg iter wi)(hg:∀C s H ex,PG (X.blk scope N' C s H ex) tg g)(ht:∀C s H ex,PIf (X.blk scope N' C s H ex) ifs tc)(he:∀C s H ex,PE (X.blk scope N' C s H ex) elt te)(hk:qP fm g)
  (hi':X.N[i]?=some x:=by rfl) (hx:X.env.kindOf x=some .local:=by rfl)
  (hB:vH scope.kind scope.names X.env.kindOf X.N N' fm=true:=by rfl) (hc:X.calm=true:=by rfl) (hsw:swapsWith (.ListComp elt [⟨tg,iter,ifs,0⟩] scope pos) (some (.Name x px)) spos.line X.env=pure true:=by rfl)
  (hs:∀x,foldedSetIterable iter X.env x=pure x:=by intro _;rfl):PS X (.Assign [.Name x px] (.ListComp elt [⟨tg,iter,ifs,0⟩] scope pos) spos) (df (kN fm wi g tc te) (bf i)):=
 xZ hN hi' hx (Cl hB) hc hi hg hk ht he hsw hs
end
theorem aE {K:PySem.W.Frag}{mg:Str->Option Value}{x:Str}{st:Stmt}{f:Addr}{oc:Value}{od an:Option Addr}{osl:Array (Option Value)}{kV doc pm cdv ct:Value}{ps:List Str}(l:K.lookup f=some ⟨oc,od,.func (PySem.W.fnOf x x (aA st) (aw st) (ag st) .none kV doc pm an cdv ct),osl⟩)
  (c:PySem.W.codeIn K cdv x=true) (k:PySem.W.keepIn K (.ref f)=true) (m:mg x=some (.ref f))
  (h:∀(kV doc pm:Value) (an:Option Addr) (cdv ct:Value) (us:List Value),us.length=ps.length->bindArgs (PySem.W.fnOf x x (aA st) (aw st) (ag st) .none kV doc pm an cdv ct) ⟨us,[]⟩=pure (ps.zip us)):FunD K mg x st ps:=
 ⟨f,_,Lm l c k,h kV doc pm an cdv ct,m⟩
noncomputable def wC (H:Hp):V->Option (List V)
 |.ref a=>match H a with
  |some (.tup xs)=>some xs
  |_=>none
 |_=>none
noncomputable def iN (H:Hp):V->Option (List V)
 |.ref a=>match H a with
  |some (.lst xs)=>some xs
  |_=>none
 |_=>none
section
variable {X:Cx}{x:Str}{pos:Pos}
theorem nK {n:String}(hm:X.mg x=none)(hv:bootBuiltins x=some (.type n))(hg:Gl X x:=by rfl)(hn:x ≠ "__name__":=by decide)(hd:(x==("__debug__" : Str))=false:=by decide):PE X (.Name x pos) (tC (.ty n)):=Fw hg hm hv rfl hn hd
theorem Kd {i:Int}(h:∃t,X.mg x=some (.int i t))(hg:Gl X x:=by rfl)(hd:(x==("__debug__" : Str))=false:=by decide):PE X (.Name x pos) (tC (.int i)):=by
 obtain⟨t,h⟩:=h
 exact nJ hg h ⟨t,rfl⟩ hd
end
theorem iH:bootBuiltins "len" = some (.builtin "len"):=by decide +kernel
theorem Jh:bootBuiltins "abs" = some (.builtin "abs"):=by decide +kernel
theorem Kl:bootBuiltins "min" = some (.builtin "min"):=by decide +kernel
theorem LJ:bootBuiltins "all" = some (.builtin "all"):=by decide +kernel
theorem bY:bootBuiltins "isinstance" = some (.builtin "isinstance"):=by decide +kernel
theorem tJ:bootBuiltins "sorted" = some (.builtin "sorted"):=by decide +kernel
theorem oW:bootBuiltins "int" = some (.type "int"):=by decide +kernel
theorem zH:bootBuiltins "bool" = some (.type "bool"):=by decide +kernel
theorem Eg:bootBuiltins "str" = some (.type "str"):=by decide +kernel
theorem pN:bootBuiltins "list" = some (.type "list"):=by decide +kernel
theorem ci:bootBuiltins "tuple" = some (.type "tuple"):=by decide +kernel
theorem rG:bootBuiltins "range" = some (.type "range"):=by decide +kernel
end L2
end
section
namespace L2
open PySem PySem.Spec PyProof.Rows
section
variable {K:PySem.W.Frag}{a:Addr}{xs:List V}{wi:TI}{g:TG}{tb:TS}{D:Ends}{σ:St}{H H1:Hp}{lo:Int}{n:Nat}
theorem vg (Pv:Nat->St->Hp->Prop)(hw:∀R:It->Hp->Prop,R (HA lo n) H1->wi σ H R)(h0:Pv 0 σ H1)
  (hs:∀i σ H,i<n->Pv i σ H->g (.int (lo+i)) σ H fun σ2 H2=>tb { D with nx:=Pv (i+1),ct:=Pv (i+1),bk:=D.nx } σ2 H2) (hd:∀σ H,Pv n σ H->D.nx σ H):AN wi g tb D σ H:=hw _ (Al Pv h0 hs hd)
end
theorem Same.upd {H H':Hp}{l:Addr}(s:Same H H')(h:H' l=none)(o:HO):Same H (L2.upd H' l o):=s.trans (bU h o)
section
variable {X:Cx}{K:PySem.W.Frag}(h:X.K=K)
include h
theorem kQ:IxR X (gM K):=by subst h;exact ix_list
theorem Du:gZ X (.builtin "isinstance") (fun xs H Q=>∃x n t b,xs=[x,.ty n]/\TyOf K H x t/\PySem.W.kitOne K t (.type n)=some b/\Q (.bl b) H):=by subst h;exact cV
theorem Bw:gZ X (.type "list") (fun xs H Q=>∃p ys,xs=[.ref p]/\(SqL K H p ys\/SqT K H p ys)/\∀l,H l=none->Q (.ref l) (upd H l (.lst ys))):=by subst h;exact nS
theorem ya:gZ X (.type "tuple") (fun xs H Q=>∃p ys,xs=[.ref p]/\((SqL K H p ys/\∀l,H l=none->Q (.ref l) (upd H l (.tup ys)))\/(SqT K H p ys/\Q (.ref p) H))):=by subst h;exact bh
theorem cN {es:List Expr}{k:Nat}{t:zS}{n:Nat}{pos:Pos}(hc:X.calm=true)(hh:Od X es t)(hn:(assignEach es X.env).length=n:=by rfl)(hst:(assignEach es X.env).findIdx? (·.1)=none:=by rfl):PG X (.Tuple es k pos) (fS K n t):=by subst h;exact KG hc hh hn hst
end
theorem hU {CX:zf}{P:Program}{w:World}{K:PySem.W.Frag}{mg:Str->Option Value}{base:Heap}{N:List Str}{qual:Str}{scope:Scope}{f:Addr}{cd:Value}{A:Around}{outer:List Env}{s:Shared}{H:Hp}{E:XK}:(nN CX P w K mg base N qual scope f cd A outer s H E).K=K:=rfl
theorem j6 {X:Cx}{scope:Scope}{N':List Str}{C:Addr}{s:Shared}{H:Hp}{ex:List Addr}:(X.blk scope N' C s H ex).K=X.K:=rfl
noncomputable def NS (e:Expr):Prop:=∀(es:List Expr) (env:Env),starEach (e::es) env=(false,eval e env)::starEach es env
theorem aR {k v p}:NS (.Constant k v p):=fun _ _=>rfl
theorem ae {k p}:NS (.Name k p):=fun _ _=>rfl
theorem zF {k p}:NS (.List k p):=fun _ _=>rfl
theorem lW {k v p}:NS (.Tuple k v p):=fun _ _=>rfl
theorem aY {a o b p}:NS (.BinOp a o b p):=fun _ _=>rfl
theorem cI {a o b p}:NS (.Compare a o b p):=fun _ _=>rfl
theorem aL {a o b p}:NS (.Call a o b p):=fun _ _=>rfl
theorem aN {a b p}:NS (.Subscript a b p):=fun _ _=>rfl
theorem li {a b c p}:NS (.ListComp a b c p):=fun _ _=>rfl
theorem aG {X:Cx}{e:Expr}{es:List Expr}{te:TE}{t:TA}(h:NS e)(ha:PE X e te)(hr:PA X es t):PA X (e::es) (bI te t):=Hb ha hr (h es X.env)
end L2
end
section
namespace L2
open PySem PySem.Spec PyProof.Rows
inductive TabEs (w:World):List DictEntry->List (Str×Addr)->Prop where
 |nil:TabEs w [] []
 |cons {x:Str} {t:Tok} {f:Addr} {es:List DictEntry} {kvs:List (Str×Addr)}:TabEs w es kvs->TabEs w (⟨PyData.keyHash w.params x,.str x t,.ref f⟩::es) ((x,f)::kvs)
structure Tab (w:World)(K:PySem.W.Frag)(a:Addr)(kvs:List (Str×Addr)):Prop where
 sys:(a==sysModules)=false
 nd:(kvs.map (·.1)).Nodup
 it:∃(es:Array DictEntry) (ep:Nat),K.lookup a=some ⟨.type "dict",none,.dict es ep,#[]⟩/\TabEs w es.toList kvs
noncomputable def yh (kvs:List (Str×Addr)):List (iW×Value):=kvs.map fun p=>(.inr p.1,.ref p.2)
theorem TabEs.ok {P:Program}{w:World}:∀{es:List DictEntry} {kvs:List (Str×Addr)},TabEs w es kvs->(∀e∈es,∃k,(bZ P w).is k e.key=true/\e.hash=(bZ P w).hash k)/\Pairs (bZ P w) es (yh kvs)
 |_,_,.nil=>⟨fun _ h=>(by cases h),.nil⟩
 |_,_,@TabEs.cons _ x t f es kvs r=>by
  obtain⟨a,b⟩:=r.ok (P:=P)
  refine⟨fun e he=>?_,.cons (lZ P w x t) rfl b⟩
  rcases List.mem_cons.mp he with rfl|he
  ·exact⟨.inr x,lZ P w x t,rfl⟩
  ·exact a e he
theorem Tab.dict {w:World}{K:PySem.W.Frag}{a:Addr}{kvs:List (Str×Addr)}{P:Program}{h:Heap}(T:Tab w K a kvs)(X:K.In h):h.DictOf (bZ P w) a (yh kvs):=by
 obtain⟨s,nd,es,ep,l,r⟩:=T
 obtain⟨a1,a2⟩:=r.ok (P:=P)
 refine⟨_,es,ep,X a _ l,⟨rfl,rfl,rfl⟩,rfl,fun e he=>a1 e (Array.mem_toList_iff.mpr he),a2,?_⟩
 have:(yh kvs).map (·.1)=(kvs.map (·.1)).map (Sum.inr:Str->iW):=by simp[yh]
 rw[this]
 exact nd.map _ fun _ _ ne e=>ne (Sum.inr.inj e)
noncomputable def eK (kvs:List (Str×Addr))(x:Str):Option Addr:=(kvs.find? fun p=>decide (p.1=x)).map (·.2)
theorem zj (kvs:List (Str×Addr))(x:Str):valueAt (yh kvs) (.inr x)=(eK kvs x).map Value.ref:=by
 induction kvs with
 |nil=>rfl
 |cons p t ih=>
  by_cases h:p.1=x
  ·simp[valueAt,yh,eK,h]
  ·have h':¬((Sum.inr p.1:iW)=Sum.inr x):=fun e=>h (Sum.inr.inj e)
   simp only[valueAt,yh,eK,List.map_cons,List.find?_cons,decide_eq_false h,decide_eq_false h'] at ih ⊢
   exact ih
section
variable {X:Cx}{a:Addr}{kvs:List (Str×Addr)}{o i:Expr}{to ti:TE}{pos:Pos}
noncomputable def O8 (kvs:List (Str×Addr))(a:Addr)(to ti:TE):TE:=fun σ H Q=>to σ H fun x H1=>ti σ H1 fun y H2=>∃n f,x=.ref a/\y=.str n/\eK kvs n=some f/\Q (.ref f) H2
noncomputable def Lz (kvs:List (Str×Addr))(a:Addr)(ti to:TE):TE:=fun σ H Q=>ti σ H fun y H1=>to σ H1 fun x H2=>∃n,x=.ref a/\y=.str n/\Q (.bl (eK kvs n).isSome) H2
theorem Jn (T:Tab X.w X.K a kvs)(ho:PE X o to)(hi:PE X i ti)(hs:L7 i):PE X (.Subscript o i pos) (O8 kvs a to ti):=by
 intro pins s σ H Q I h
 refine F7 PySem.F.slot_dict_getitem.lookup hs (dN (ho pins s σ H _ I h) fun u s1 ⟨x,H1,I1,rx,q1⟩=>dN (hi pins s1 σ H1 _ I1 q1) fun iv s2 ⟨y,H2,I2,ry,n,f,ex,ey,g,q2⟩=>?_)
 subst ex ey
 obtain rfl:u=Value.ref a:=rx
 have d:=T.dict (P:=X.prog) I2.kIn
 refine⟨d.mapOf.typeIs,wpAny_getItem_of (Ab (k:=.inr n) ry) d.mapOf (by rw[zj,g];rfl) ?_⟩
 exact⟨.ref f,H2,I2.tok _,rfl,q2⟩
theorem LI (T:Tab X.w X.K a kvs)(hi:PE X i ti)(ho:PE X o to):PC X .In i o (Lz kvs a ti to):=by
 intro pins s σ H Q I h
 refine dN (hi pins s σ H _ I h) fun iv s1 ⟨y,H1,I1,ry,q1⟩=>dN (ho pins s1 σ H1 _ I1 q1) fun u s2 ⟨x,H2,I2,rx,n,ex,ey,q2⟩=>?_
 subst ex ey
 obtain rfl:u=Value.ref a:=rx
 have d:=T.dict (P:=X.prog) I2.kIn
 refine wpAny_in_of (Ab (k:=.inr n) ry) T.sys d.mapOf ?_
 rw[zj,Option.isSome_map]
 exact⟨.bl _,H2,I2.tok _,rfl,q2⟩
end
noncomputable def DefA (P:Program)(w:World)(K:PySem.W.Frag)(mg:Str->Option Value)(base:Heap)(k:Nat)(f:Addr)(ps:List Str)(sp:Sp):Prop:=
 ∃fd,FnOk P w K mg base xM k f fd ps sp/\Binds K fd ps []/\PySem.W.keepIn K (.ref f)=true
theorem Def.at {P:Program}{w:World}{K:PySem.W.Frag}{mg:Str->Option Value}{base:Heap}{k:Nat}{x:Str}{ps:List Str}{sp:Sp}{f:Addr}(d:Def P w K mg base k x ps sp)(h:mg x=some (.ref f)):DefA P w K mg base k f ps sp:=by
 obtain⟨f',fd,F,b,kp,m⟩:=d
 rw[h] at m
 cases m
 exact⟨fd,F,b,kp⟩
theorem DefA.imp {P:Program}{w:World}{K:PySem.W.Frag}{mg:Str->Option Value}{base:Heap}{k:Nat}{f:Addr}{ps:List Str}{sp sp':Sp}(d:DefA P w K mg base k f ps sp)(h:∀vs H Q E,sp' vs H Q E->sp vs H Q E):DefA P w K mg base k f ps sp':=by
 obtain⟨fd,F,r⟩:=d
 exact⟨fd,F.imp h,r⟩
section
variable {X:Cx}{k j:Nat}{ps:List Str}{D:Addr->Sp->Prop}{x:Str}{p pos:Pos}{e:Expr}{es:List Expr}{t:TA}{i:Nat}
noncomputable def LH (i:Nat)(D:Addr->Sp->Prop)(t:TA):TE:=fun σ H Q=>∃f sp,σ[i]?=some (some (.ref f))/\D f sp/\t σ H fun vs H1=>sp vs H1 Q E0
theorem wE (d:∀f sp,D f sp->DefA X.prog X.w X.K X.mg X.base j f ps sp)(hr:Room k X.A)(hN:X.N[i]?=some x)(hv:L4 X.env.scope x)(ha:PA X (e::es) t)(hj:j≤k:=by decide)(hdb:(x==("__debug__" : Str))=false:=by decide)(hcd:(x==("__classdict__" : Str))=false:=by decide)
  (he:starEach (e::es) X.env=(false,eval e X.env)::starEach es X.env:=by rfl) (hpl:(backTo pos (starEach es X.env)).any (·.1)=false:=by rfl):PE X (.Call (.Name x p) (e::es) [] pos) (LH i D t):=by
 intro pins s σ H Q I h
 obtain⟨f,sp,hf,hok,h⟩:=h
 obtain⟨fd,F,b,kp⟩:=d f sp hok
 refine wpAny_Call_Name_kw (dN (CB (pos:=p) hN hv hdb hcd pins s σ H (fun v H'=>v=.ref f/\H'=H) I ⟨_,hf,rfl,rfl⟩) fun u s1 ⟨v,H1,I1,r,e1,e2⟩=>?_)
 subst e1 e2
 obtain rfl:u=Value.ref f:=r
 refine PySem.W.callWith_K (h₀:=X.base) I1.ok.mod.kin kp (dN (ha pos pins s1 σ H1 _ I1 h) fun us s2 ⟨vs,H2,I2,r,q⟩=>⟨I2.kIn,?_⟩) he hpl
 exact CS F (hr.mono hj) b .nil IQ I2 r (by rw[List.append_nil];exact q)
end
end L2
end
section
namespace L2
open PySem PySem.Spec PyProof.Rows
section
variable {X:Cx}{pins:List (Addr×Obj)}{σ:St}{H:Hp}{s:Shared}{h':Heap}
theorem Inv.turned2 {t':Nat}{e it:Addr}(I:Inv X pins σ H s)(k:∀b o,b≠e->b≠it->s.heap.get? b=some o->h'.get? b=some o)(f:∀b∈[e,it],o4 X pins H b):Inv X pins σ H { s with heap:=h',toks:=t' }:=by
 have ne:∀b u,H b=some u->b≠e/\b≠it:=fun b u q=>⟨fun z=>(by rw[z,(f e (by simp)).1] at q;cases q),fun z=>(by rw[z,(f it (by simp)).1] at q;cases q)⟩
 have kk:∀b o,b∉[e,it]->s.heap.get? b=some o->h'.get? b=some o:=fun b o hb q=>k b o (fun z=>hb (by simp[z])) (fun z=>hb (by simp[z])) q
 refine I.step (g':=s.gens) (d':=s.drawn) (ch:=[e,it]) (fun b hb=>?_) (fun b o _ _ hc q _=>kk b o hc q) (fun b o _ _ hc q _=>⟨o.slots,kk b o hc q⟩) (fun _ _ _ _ n=>n)
  (fun b o hc q=>⟨o,kk b o hc q⟩) (fun _ _ q=>q) (fun _ _ _ q=>q) (fun b ps q=>⟨#[],by rw[q];simp⟩) (fun m hm=>?_) (fun b u q=>?_) I.bare
 ·obtain⟨f0,f1,f2,f3,f4,f5⟩:=f b hb
  exact⟨f3,f1,f4,f5⟩
 ·obtain⟨o,es,ep,ho,r⟩:=hm
  exact⟨o,es,ep,k _ o (Ne.symm (f e (by simp)).2.1) (Ne.symm (f it (by simp)).2.1) ho,r⟩
 ·refine (I.hok b u q).stay (fun c v hc g=>?_) (fun _ g=>g) fun _ _ g=>g
  rcases hc with z|z
  ·subst z;exact k _ v (ne _ u q).1 (ne _ u q).2 g
  ·exact k c v (ne c _ z).1 (ne c _ z).2 g
end
theorem uM:bootBuiltins "enumerate" = some (.type "enumerate"):=by decide +kernel
end L2
end
section
namespace L2
open PySem PySem.Spec PyProof.Rows PySem.SeqAt
end L2
end
section
namespace L2
open PySem PySem.Spec PyProof.Rows PySem.W
noncomputable def dO {α:Type}(c:Nat->Nat->Bool):KasT α->α
 |.ret a=>a
 |.ask i j k=>dO c (k (c i j))
theorem Dx {α:Type}{n:Nat}{P:α->Prop}{cmp:Nat->Nat->(Bool->Shared->Prop)->Shared->Prop}{Q:α->Shared->Prop}{s:Shared}(lt:Nat->Nat->Bool)(hc:∀i j C,i<n->j<n->C (lt i j) s->cmp i j C s) :
  ∀{t:KasT α},Leaf n P t->(P (dO lt t)->Q (dO lt t) s)->t.kasWp cmp Q s
 |.ret a,h,hq=>hq h
 |.ask i j k,h,hq=>hc i j _ h.1 h.2.1 (Dx lt hc (h.2.2 (lt i j)) hq)
theorem wb {α:Type}{n:Nat}{P:α->Prop}(lt:Nat->Nat->Bool):∀{t:KasT α},Leaf n P t->P (dO lt t)
 |.ret a,h=>h
 |.ask i j k,h=>wb (t:=k (lt i j)) lt (h.2.2 (lt i j))
noncomputable def Ez (fin:Bool):List (Int×Int)->Bool
 |[]=>fin
 |(x,y)::r=>if x=y then Ez fin r else decide (x<y)
noncomputable def pP (xs ys:List Int):Bool:=Ez (decide (xs.length<ys.length)) (xs.zip ys)
noncomputable def mJ (ks:List (List Int)):List Nat:=if ks.length<2 then List.range ks.length else (dO (fun i j=>pP (ks.getD i []) (ks.getD j [])) (kas_sort ks.length)).toList
theorem oN (ks:List (List Int)):(mJ ks).Perm (List.range ks.length):=by
 unfold mJ
 split
 ·exact .refl _
 ·exact wb _ (tL (by omega))
inductive TupsIn (H:Hp):List V->List (List Int)->Prop where
 |nil:TupsIn H [] []
 |cons {a:Addr} {is:List Int} {ts:List V} {ks:List (List Int)}:H a=some (.tup (is.map V.int))->is≠[]->TupsIn H ts ks->TupsIn H (.ref a::ts) (is::ks)
theorem TupsIn.length {H:Hp}{ts:List V}{ks:List (List Int)}(h:TupsIn H ts ks):ts.length=ks.length:=by
 induction h with
 |nil=>rfl
 |cons _ _ _ ih=>rw[List.length_cons,List.length_cons,ih]
theorem TupsIn.get {H:Hp}{ts:List V}{ks:List (List Int)}(h:TupsIn H ts ks):∀{i:Nat},i<ts.length->∃a,ts.getD i .non=.ref a/\H a=some (.tup ((ks.getD i []).map V.int))/\ks.getD i []≠[]:=by
 induction h with
 |nil=>intro i hi;exact absurd hi (Nat.not_lt_zero _)
 | @cons a is ts ks h1 h2 h3 ih=>
  intro i hi
  cases i with
  |zero=>exact⟨a,rfl,h1,h2⟩
  |succ i=>exact ih (by simpa using hi)
section
variable {X:Cx}{pins:List (Addr×Obj)}{σ:St}{H:Hp}{s:Shared}
theorem C4 (I:Inv X pins σ H s){a:Addr}{is:List Int}(h:H a=some (.tup (is.map V.int))):a≠X.env.locals/\∃o n vs,Vals (is.map V.int) vs/\s.heap.get? a=some o/\o.cls=.type "tuple"/\o.data=.seq vs.toArray n:=by
 refine⟨fun z=>?_,?_⟩
 ·rw[z,I.free] at h;cases h
 ·obtain⟨_,its,r,o,e,c,n,d⟩:=(show ObjOk X.prog X.w H s.heap a (.tup (is.map V.int)) from I.hok a _ h)
  exact⟨o,n,its,r,e,c,d⟩
theorem Hh (I:Inv X pins σ H s){h':Heap}(kept:∀b o,b≠X.env.locals->s.heap.get? b=some o->h'.get? b=some o):∀{ts:List V} {ks:List (List Int)} {its:List Value},Vals ts its->TupsIn H ts ks →
  ∃fs:List Value,KatTups h' its fs/\fs.length=its.length/\∀v∈fs,∃i t,v=Value.int i t:=by
 intro ts ks its r hp
 induction hp generalizing its with
 |nil=>cases r;exact⟨[],KatTups.nil,rfl,fun _ z=>nomatch z⟩
 | @cons a is ts ks ha ne hp ih=>
  cases r with
  |cons r1 r2=>
   obtain⟨fs,h1,h2,h3⟩:=ih r2
   cases r1
   obtain⟨nl,o,n,vs,rv,eo,ec,ed⟩:=C4 I ha
   cases is with
   |nil=>exact absurd rfl ne
   |cons i is=>
    cases rv with
    |cons q1 q2=>
     obtain⟨tk,rfl⟩:=q1
     refine⟨.int i tk::fs,KatTups.cons (kept a o nl eo) ec ed rfl h1,by rw[List.length_cons,List.length_cons,h2],fun v hv=>?_⟩
     rcases List.mem_cons.mp hv with rfl|hv
     ·exact⟨i,tk,rfl⟩
     ·exact h3 v hv
theorem Da {prog:Program}{w:World}{A:Around}{fin:Bool}{C:Bool->Shared->Prop}{s':Shared}:∀{xs ys:List Int} {us vs:List Value} {k:Nat},Vals (xs.map V.int) us->Vals (ys.map V.int) vs->C (Ez fin (xs.zip ys)) s'->KatLex prog w A true fin C (us.zip vs) k s'
 |[],ys,us,vs,k,r1,r2,h=>by cases r1;exact kat_nil h
 |x::xs,[],us,vs,k,r1,r2,h=>by cases r2;cases us<;>exact kat_nil h
 |x::xs,y::ys,us,vs,k,r1,r2,h=>by
  cases r1 with
  |cons a1 r1=>
   cases r2 with
   |cons a2 r2=>
    obtain⟨t,rfl⟩:=a1
    obtain⟨u,rfl⟩:=a2
    rw[List.zip_cons_cons] at h ⊢
    rw[Ez] at h
    refine kat_cons (wpAny_eqBool_int ?_)
    by_cases e:x=y
    ·rw[if_pos e] at h
     rw[show (x==y)=true by rw[e];exact beq_self_eq_true _]
     exact kat_yes (Da r1 r2 h)
    ·rw[if_neg e] at h
     rw[show (x==y)=false from beq_eq_false_iff_ne.mpr e]
     refine kat_no ?_
     by_cases hk:k=0
     ·subst hk;exact oneLt_int h
     ·rw[show (true&&k==0)=false by simp[hk]]
      exact kat_one _ _ (lt_int h)
end
theorem ux {X:Cx}:gZ X (.builtin "sorted") (fun xs H Q=>∃p ts ks,xs=[.ref p]/\SqL X.K H p ts/\ts.length<64/\TupsIn H ts ks/\∀l,H l=none->Q (.ref l) (upd H l (.lst ((mJ ks).map fun i=>ts.getD i .non)))):=by
 intro pins s σ H xs us Q I r h
 obtain⟨p,ts,ks,rfl,hq,h64,hp,q⟩:=h
 obtain⟨u,rfl,rx⟩:=kJ r
 cases rx
 obtain⟨its,rv,pl,hz⟩:=I.list hq
 have hl:=rv.length
 have hk:=hp.length
 by_cases h2:its.length<2
 ·refine vp pl.isList h2 ?_
  obtain⟨e,he⟩:=sortedAll_at s.heap its its.toArray
  have es:(mJ ks).map (fun i=>ts.getD i .non)=ts:=by
   unfold mJ
   rw[if_pos (by omega),←hk]
   exact mq _ _
  have q':=q (s.heap.objs.size+1) (I.hok.fresh (Nat.le_succ _))
  rw[es] at q'
  exact⟨.ref (s.heap.objs.size+1),_,I.laid (t':=s.toks) (fun b o z=>sortedAll_old z) (Nat.le_succ _) (show ObjOk X.prog X.w _ _ _ (.lst ts) from⟨hz,its,e,rv,he⟩),rfl,q'⟩
 ·obtain⟨m,F0⟩:=I.fr
  refine kat_sorted F0 CA pl.isList (by omega) (by omega) fun D e1 h' F' N' hlt=>?_
  have nD:=N' (D,seqObj "list" #[] e1) List.mem_cons_self
  have hD:s.heap.get? D=none:=by
   cases e:s.heap.get? D with
   |none=>rfl
   |some o=>exact absurd (hlt (D,o) (ld nD.2.1 nD.2.2 e)) (Nat.lt_irrefl _)
  have kept:∀b o,b≠X.env.locals->s.heap.get? b=some o->h'.get? b=some o:=fun b o hb e=>by
   cases z:X.base.get? b with
   |some v=>
    have y:=I.bk b v z
    rw[e] at y;cases y
    exact F'.keep b _ z
   |none=>exact (N' (b,o) (List.mem_cons_of_mem _ (ld hb z e))).1
  obtain⟨fs,k1,k2,k3⟩:=Hh I kept rv hp
  refine kat_kind (s:={ s with heap:=h' }) k1 (by omega) (T:=.type "int") (fun v hv=>?_) (by decide) ?_
  ·obtain⟨i,t,rfl⟩:=k3 v hv
   exact Looks.of_pure rfl
  ·refine Dx (n:=its.length) (P:=OfN its.length) (fun i j=>pP (ks.getD i []) (ks.getD j [])) (fun i j C hi hj hC=>?_) (tL (by omega)) (fun hpm=>?_)
   ·have get:∀i,i<its.length->∃a o n vs,Vals ((ks.getD i []).map V.int) vs/\its.getD i Value.none=.ref a/\h'.get? a=some o/\o.data=.seq vs.toArray n:=fun i hi=>by
     have hi':i<ts.length:=by omega
     obtain⟨a,e,ha,_⟩:=hp.get hi'
     have hr:=uc rv (j:=i) (by simpa using hi)
     have e2:its.getD i Value.none=its.toArray[i]'(by simpa using hi):=by simp[hi]
     rw[e] at hr
     obtain⟨nl,o,n,vs,rvs,eo,ec,ed⟩:=C4 I ha
     exact⟨a,o,n,vs,rvs,e2.trans hr,kept a o nl eo,ed⟩
    obtain⟨a,o,n,vs,rvs,g1,g2,g3⟩:=get i hi
    obtain⟨a',o',n',vs',rvs',g1',g2',g3'⟩:=get j hj
    show wpAny (model X.prog X.w) X.A.in1.in1 (keyLt' (tuples' (Value.type "int" != Value.type "tuple")) (its.getD i Value.none) (its.getD j Value.none)) C (fun _ _=>False) _
    rw[g1,g1',show (Value.type "int" != Value.type "tuple")=true by decide]
    refine kat_lt g2 g3 g2' g3' ?_
    have l1:=rvs.length
    have l2:=rvs'.length
    rw[List.length_map] at l1 l2
    refine Da rvs rvs' ?_
    have e9:decide (vs.toArray.size<vs'.toArray.size)=decide ((ks.getD i []).length<(ks.getD j []).length):=by rw[List.size_toArray,List.size_toArray,l1,l2]
    rw[e9]
    exact hC
   ·have eo:mJ ks=(dO (fun i j=>pP (ks.getD i []) (ks.getD j [])) (kas_sort its.length)).toList:=by
     unfold mJ
     rw[if_neg (by omega),show ks.length=its.length by omega]
    generalize hpme:dO (fun i j=>pP (ks.getD i []) (ks.getD j [])) (kas_sort its.length)=pm at hpm eo ⊢
    have hmem:∀i∈pm.toList,i<its.length:=fun i hi=>List.mem_range.mp (hpm.subset hi)
    have ry:Vals (pm.toList.map fun i=>ts.getD i .non) (pm.toList.map fun i=>its.getD i Value.none):=wI rv hmem
    have perm:(pm.toList.map fun i=>ts.getD i .non).Perm ts:=by
     have z:=hpm.map (fun i=>ts.getD i V.non)
     rw[←hl,mq] at z
     exact z
    refine KasFin.intro F' N' (.head fun _ z=>?_) fun h'' c F'' N''=>?_
    ·exact Nat.ne_of_lt (hlt _ z)
    ·obtain⟨I2,hHD⟩:=I.ledger F0 F'' N'' hD ry (by rw[perm.length_eq];exact hz)
     have q':=q D hHD
     rw[eo] at q'
     exact⟨.ref D,_,I2,rfl,q'⟩
end L2
end
section
namespace L2
open PySem PySem.Spec PyProof.Rows
section
variable {X:Cx}{pins:List (Addr×Obj)}{σ:St}{H:Hp}{s:Shared}{a:Addr}{kvs:List (iW×V)}{k:iW}{z:V}{u r:Value}{A:Around}{E:Value->Shared->Prop}
theorem Lx {Q:Value->Shared->Prop}(I:Inv X pins σ H s)(e:H a=some (.dK kvs))(ry:RelV (kV k) u)(rz:RelV z r)(hl:kvs.length<sizeLine)
  (h1:∀v w' s',ou kvs k=some v->Inv X pins σ H s'->RelV v w'->Q w' s') (h2:ou kvs k=none->∀s',Inv X pins σ (upd H a (.dK (rJ kvs k z))) s'->Q r s') :
  wpAny (model X.prog X.w) A (call (.builtin "dict.setdefault") [.ref a,u,r]) Q E s:=by
 obtain⟨zz,hd,vs,rel,dd⟩:=IW I.hok e
 have rv:=rel.val k
 refine call_meetsIn PySem.F.slot_dict_setdefault dd.typeIs PySem.F.entry_dict_setdefault (PySem.F.args_dict_setdefault_3 _ _ _) (PySem.kt_meets_setdefault (bZ X.prog X.w) a (Ab ry) hd r) ⟨vs,dd,by rw[←rel.length];exact zz,fun w' hw=>?_,fun hn h' dd' hs=>?_⟩
 ·rw[hw] at rv
  cases q:ou kvs k with
  |none=>rw[q] at rv;exact rv.elim
  |some v=>rw[q] at rv;exact h1 v w' _ q (I.tok _) rv
 ·rw[hn] at rv
  have hz:(rJ kvs k z).length≤sizeLine:=by have:=v0 kvs k z;omega
  have he:∃q,h'.get? a=some q:=let ⟨q,_,_,hq,_⟩:=dd';⟨q,hq⟩
  cases q:ou kvs k with
  |some v=>rw[q] at rv;exact rv.elim
  |none=>exact h2 q _ (Hr I (by rw[e];exact True.intro) hs he (Kr hz hd (rel.put k rz) dd'))
end
noncomputable def BX (td ty tx:TE):TE:=fun σ H Q=>td σ H fun x H1=>∃a,x=.ref a/\PZ H1 a/\ty σ H1 fun y H2=>tx σ H2 fun z H3=>∃kvs k,H3 a=some (.dK kvs)/\y=kV k/\kvs.length<sizeLine ∧
 (∀v,ou kvs k=some v->Q v H3)/\(ou kvs k=none->Q z (upd H3 a (.dK (rJ kvs k z))))
section
variable {X:Cx}{o e f:Expr}{apos cpos:Pos}{td ty tx:TE}
theorem Ct (ho:PE X o td)(he:PE X e ty)(hf:PE X f tx)(m:M2 X o "setdefault" apos e f cpos):PE X (.Call (.Attribute o "setdefault" apos) [e,f] [] cpos) (BX td ty tx):=by
 intro pins s σ H Q I h
 refine wpAny_Call_method m.base m.few m.line PySem.F.plainAttrs_dict PySem.F.slot_dict_setdefault PySem.F.type_dict_setdefault (dN (ho pins s σ H _ I h) fun u s1 ⟨x,H1,I1,rx,a,ex,d,q1⟩=>?_)
 subst ex
 obtain rfl:u=Value.ref a:=rx
 obtain⟨t1,t2,_⟩:=LW I1 d
 refine⟨t1,t2,?_⟩
 rw[m.trees]
 refine Calls.callWith_builtin rfl (Calls.evalArgs_plain (Calls.spliced_cons (dN (he pins s1 σ H1 _ I1 q1) fun iv s2 ⟨y,H2,I2,ry,q2⟩=>
  Calls.spliced_cons (dN (hf pins s2 σ H2 _ I2 q2) fun fv s3 ⟨z,H3,I3,rz,kvs,k,ea,ey,hl,q3,q4⟩=>Calls.spliced_nil ?_))))
 subst ey
 exact Lx I3 ea ry rz hl (fun v w' s4 l I4 rw'=>⟨v,H3,I4,rw',q3 v l⟩) fun l s4 I4=>⟨z,_,I4,rz,q4 l⟩
end
noncomputable def Qb (d:Addr)(ob:Obj)(kvs:List (iW×V)):It:=
 ⟨fun i H=>H d=some (.frz ob (.dK kvs))/\i<kvs.length,fun i H x H'=>H'=H/\(kvs[i]?).map (·.2)=some x,fun i H=>H d=some (.frz ob (.dK kvs))/\kvs.length≤i⟩
theorem uf {P:Program}{w:World}{h:Heap}{d:Addr}{vs:List (iW×Value)}{ob:Obj}(ho:h.get? d=some ob)(x:h.DictOf (bZ P w) d vs):∃es ep,ob.data=.dict es ep/\h.DictAt (bZ P w) d vs ep:=by
 obtain⟨o,es,ep,h1,h2,h3,h4⟩:=x
 rw[ho] at h1;cases h1
 exact⟨es,ep,h3,ob,es,ho,h2,h3,h4⟩
theorem Bl {P:Program}{w:World}{K:PySem.W.Frag}{tg:Expr}(d it:Addr)(hne:d≠it)(ob:Obj)(es:Array DictEntry)(ep:Nat)(hob:ob.data=.dict es ep)(kvs:List (iW×V)):Turn P w K tg (Qb d ob kvs) [it] it (fun i h=>h.IsValIter it d i kvs.length ep) where
 mem:=by simp
 obj:=fun i h st b hb=>by
  have e:b=it:=by simpa using hb
  subst e
  obtain⟨o,e,c,d⟩:=st
  exact⟨o,e,fun v z=>by rw[d] at z;cases z⟩
 keep:=fun i h h' st k=>st.at fun o e=>k it (by simp) o e
 item:=by
  intro X hP hw hK hc i pins s σ H E I hf st hg
  subst hP hw hK
  obtain⟨hd,hi⟩:=hg
  obtain⟨f0,f1,f2,f3,f4,f5⟩:=hf it (by simp)
  obtain⟨hgo,zz,hs,vs,rel,dd⟩:=(show ObjOk X.prog X.w H s.heap d (.frz ob (.dK kvs)) from I.hok d _ hd)
  obtain⟨es',ep',q1,at'⟩:=uf hgo dd
  rw[hob] at q1;cases q1
  have hl:kvs.length=vs.length:=rel.length
  have hi':i<vs.length:=by omega
  have hv:∃x,kvs[i]?=some x/\∃u,vs[i]?=some u/\RelV x.2 u.2:=by
   refine⟨kvs[i],List.getElem?_eq_getElem hi,vs[i],List.getElem?_eq_getElem hi',?_⟩
   have g:∀{l:List (iW×V)} {m:List (iW×Value)},KV l m->∀j (h1:j<l.length) (h2:j<m.length),RelV l[j].2 m[j].2:=by
    intro l m r
    induction r with
    |nil=>intro j h1;exact absurd h1 (Nat.not_lt_zero _)
    |cons r0 _ ih=>
     intro j h1 h2
     cases j with
     |zero=>exact r0.2
     |succ j=>exact ih j (by simpa using h1) (by simpa using h2)
   exact g rel i hi hi'
  obtain⟨x,hx,⟨k2,u⟩,hu,ru⟩:=hv
  have xq:s.heap.IsValIter it d i vs.length ep:=by rw[←hl];exact st
  refine wpAny_pyNext_values_item xq at' hu fun h' st' sb=>?_
  have I1:Inv X pins σ H { s with heap:=h' }:=I.turned (t':=s.toks) (fun b o hb e=>sb.extBut b o hb e) f0 f1 f3 f4 f5
  rw[←hl] at st'
  obtain⟨o,e,c,dd'⟩:=id st'
  exact⟨u,rfl,zQ (s:={ s with heap:=h' }) e c dd' (by decide) ⟨x.2,H,I1,ru,⟨rfl,by rw[hx];rfl⟩,st',fun b hb=>(hf b hb).1⟩⟩
 done:=by
  intro X hP hw hK hc i pins s σ H E I hf st hg
  subst hP hw hK
  obtain⟨hd,hi⟩:=hg
  obtain⟨f0,f1,f2,f3,f4,f5⟩:=hf it (by simp)
  obtain⟨hgo,zz,hs,vs,rel,dd⟩:=(show ObjOk X.prog X.w H s.heap d (.frz ob (.dK kvs)) from I.hok d _ hd)
  obtain⟨es',ep',q1,at'⟩:=uf hgo dd
  rw[hob] at q1;cases q1
  have hl:kvs.length=vs.length:=rel.length
  have xq:s.heap.IsValIter it d i vs.length ep:=by rw[←hl];exact st
  exact wpAny_pyNext_values_end (I.ok.hd hc) xq at' (List.getElem?_eq_none (by omega)) fun h' eb=>⟨rfl,I.turned (t':=s.toks) (fun b o hb e=>eb b o hb e) f0 f1 f3 f4 f5⟩
 self:=fun _ _ _ _ _ st h=>wpAny_pyIter_valiter st h
noncomputable def Io (td:TE):TI:=fun σ H R=>td σ H fun x H1=>∃d kvs,x=.ref d/\H1 d=some (.dK kvs)/\∀ob,R (Qb d ob kvs) (upd H1 d (.frz ob (.dK kvs)))
theorem Inv.frzD {X:Cx}{pins:List (Addr×Obj)}{σ:St}{H:Hp}{s:Shared}{d:Addr}{kvs:List (iW×V)}{ob:Obj}(I:Inv X pins σ H s)(hd:H d=some (.dK kvs))(ho:s.heap.get? d=some ob):Inv X pins σ (upd H d (.frz ob (.dK kvs))) s:=by
 have ne:∀b o,H b=some o->(∀l,o≠.dK l)->b≠d:=fun b o e n z=>by subst z;rw[hd] at e;cases e;exact n _ rfl
 have ok:HOk X.prog X.w (upd H d (.frz ob (.dK kvs))) s.heap:=fun b o e=>by
  by_cases hb:b=d
  ·subst hb
   rw[aq] at e;cases e
   exact⟨ho,I.hok b _ hd⟩
  ·rw[ay hb] at e
   refine (I.hok b o e).stay (fun _ _ _ q=>q) (fun c q=>?_) fun c xs q=>?_
   ·rw[ay (ne c _ q fun l z=>nomatch z)];exact q
   ·rw[ay (ne c _ q fun l z=>nomatch z)];exact q
 have un:Un X.fs [] H (upd H d (.frz ob (.dK kvs))) s.heap s.heap:=⟨fun b o e _ _ _=>e,fun b o e _ _ _=>⟨o.slots,e⟩,fun b o e n _=>by
   rw[ay fun z=>by subst z;rw[hd] at n;cases n];exact n,fun b o e _=>⟨o,e⟩,fun b xs q=>by rw[ay (ne b _ q fun l z=>nomatch z)];exact q,fun b o u q=>by rw[ay (ne b _ q fun l z=>nomatch z)];exact q,fun b ps q=>⟨#[],by rw[ay (ne b _ q fun l z=>nomatch z),Array.append_empty];exact q⟩⟩
 exact I.un un ok
section
variable {X:Cx}{tg o:Expr}{apos cpos:Pos}{td:TE}
theorem Fg (ho:PE X o td)(hbase:attributeBase o "values" X.env (eval o X.env)=eval o X.env:=by rfl)(hline:(apos.endLine==cpos.line)=true:=by rfl):PI X tg (.Call (.Attribute o "values" apos) [] [] cpos) (Io td):=by
 intro pins s σ H R I h
 refine wpAny_Call_method0_late hbase hline (dN (ho pins s σ H _ I h) fun v s1 ⟨x,H1,I1,r1,d,kvs,ex,hd,q⟩=>?_)
 subst ex
 cases r1
 obtain⟨zz,hs,vs,rel,dd⟩:=IW I1.hok hd
 have hn:∃ob,s1.heap.get? d=some ob/\ob.dict=none:=let ⟨ob,_,_,e1,e2,_⟩:=dd;⟨ob,e1,e2.2.1⟩
 obtain⟨ob,hob,hdn⟩:=hn
 have hlt:=Heap.lt_size hob
 refine⟨"dict","dict.values",PySem.F.plainAttrs_dict,PySem.F.slot_dict_values,PySem.F.type_dict_values,dd.typeIs,fun b e=>by cases e;exact⟨ob,hob,hdn⟩,Calls.callWith_builtin rfl (PySem.evalArgs_none (call_meetsIn PySem.F.slot_dict_values dd.typeIs PySem.F.entry_dict_values (PySem.F.args_dict_values_1 _) (meets_dict_values (bZ X.prog X.w) d hs) ⟨⟨vs,dd⟩,?_⟩))⟩
 obtain⟨es,ep,q1,at'⟩:=uf hob dd
 refine wpAny_pyIter_values (knd:=bZ X.prog X.w) (d:=d) (kvs:=vs) (ep:=ep) ⟨_,Heap.get?_push_size _ rfl,rfl,rfl⟩ (at'.at' fun o e=>Heap.get?_push_of_some _ e) ?_
 have hl:kvs.length=vs.length:=rel.length
 have k1:∀b u,s1.heap.get? b=some u->((s1.heap.push { cls:=.type "dict_values",data:=.fields #[.ref d] }).push { cls:=.type "dict_valueiterator",data:=.fields #[.ref d,.int 0 0,.int vs.length 0,.int ep 0] }).get? b=some u:=fun b u e=>Heap.get?_push_of_some _ (Heap.get?_push_of_some _ e)
 have I2:=I1.kept (t':=s1.toks) k1
 have I3:=I2.frzD hd (k1 d ob hob)
 have sz:(s1.heap.push { cls:=.type "dict_values",data:=.fields #[.ref d] }).objs.size=s1.heap.objs.size+1:=by simp[Heap.push]
 have hne:d≠(s1.heap.push { cls:=.type "dict_values",data:=.fields #[.ref d] }).objs.size:=Nat.ne_of_lt (by rw[sz];exact Nat.lt_succ_of_lt hlt)
 refine⟨_,[_],_,_,_,rfl,I3,Bl d _ hne ob es ep q1 kvs,?_,fun b hb=>?_,q ob⟩
 ·rw[hl];exact⟨_,Heap.get?_push_size _ rfl,rfl,rfl⟩
 ·have e:b=(s1.heap.push { cls:=.type "dict_values",data:=.fields #[.ref d] }).objs.size:=by simpa using hb
  subst e
  refine I1.fpOk (by rw[sz];exact Nat.le_succ _) ?_
  rw[ay (Ne.symm hne)]
  exact I1.hok.fresh (by rw[sz];exact Nat.le_succ _)
end
end L2
end
section
namespace Pu
open PySem PySem.Spec L2
inductive PV where
 |non|bl (b:Bool)|int (i:Int)|str (x:Str)|ty (n:String)|fn (a:Addr)
 |tup (ps:List PV)|lst (ps:List PV)|dct (ks:List iW) (ps:List PV)
 |src (ps:List PV)|ktu (ps:List PV)
 |rng (lo hi:Int)
mutual
noncomputable def Rep (K:PySem.W.Frag)(F:Hp):PV->V->Prop
 |.non,v=>v=.non
 |.bl b,v=>v=.bl b
 |.int i,v=>v=.int i
 |.str x,v=>v=.str x
 |.ty n,v=>v=.ty n
 |.fn a,v=>v=.ref a
 |.tup ps,v=>∃a vs,v=.ref a/\F a=some (.tup vs)/\Reps K F ps vs
 |.lst ps,v=>∃a vs,v=.ref a/\F a=some (.lst vs)/\Reps K F ps vs
 |.src ps,v=>∃a vs,v=.ref a/\SqL K F a vs/\Reps K F ps vs
 |.ktu ps,v=>∃a vs,v=.ref a/\SqT K F a vs/\Reps K F ps vs
 |.rng lo hi,v=>∃a,v=.ref a/\F a=some (.rng lo hi)
 |.dct ks ps,v=>∃a kvs,v=.ref a/\F a=some (.dK kvs)/\kvs.map (·.1)=ks/\Reps K F ps (kvs.map (·.2))
noncomputable def Reps (K:PySem.W.Frag)(F:Hp):List PV->List V->Prop
 |[],vs=>vs=[]
 |p::ps,vs=>∃v r,vs=v::r/\Rep K F p v/\Reps K F ps r
end
theorem AT {K:PySem.W.Frag}{F F':Hp}{a:Addr}{xs:List V}(e:Same F F')(h:SqT K F a xs):SqT K F' a xs:=by
 rcases h with (h|⟨o,h⟩)|h
 ·exact .inl (.inl (e _ _ h))
 ·exact .inl (.inr ⟨o,e _ _ h⟩)
 ·exact .inr h
mutual
theorem Rep.mono {K:PySem.W.Frag}{F F':Hp}(e:Same F F'):∀{p:PV} {v:V},Rep K F p v->Rep K F' p v
 |.non,_,h=>h
 |.bl _,_,h=>h
 |.int _,_,h=>h
 |.str _,_,h=>h
 |.ty _,_,h=>h
 |.fn _,_,h=>h
 |.tup ps,_,h=>by
  obtain⟨a,vs,e1,e2,e3⟩:=h
  exact⟨a,vs,e1,e _ _ e2,Reps.mono e e3⟩
 |.lst ps,_,h=>by
  obtain⟨a,vs,e1,e2,e3⟩:=h
  exact⟨a,vs,e1,e _ _ e2,Reps.mono e e3⟩
 |.src ps,_,h=>by
  obtain⟨a,vs,e1,e2,e3⟩:=h
  exact⟨a,vs,e1,e.seq e2,Reps.mono e e3⟩
 |.ktu ps,_,h=>by
  obtain⟨a,vs,e1,e2,e3⟩:=h
  exact⟨a,vs,e1,AT e e2,Reps.mono e e3⟩
 |.rng lo hi,_,h=>by
  obtain⟨a,e1,e2⟩:=h
  exact⟨a,e1,e _ _ e2⟩
 |.dct ks ps,_,h=>by
  obtain⟨a,kvs,e1,e2,e3,e4⟩:=h
  exact⟨a,kvs,e1,e _ _ e2,e3,Reps.mono e e4⟩
theorem Reps.mono {K:PySem.W.Frag}{F F':Hp}(e:Same F F'):∀{ps:List PV} {vs:List V},Reps K F ps vs->Reps K F' ps vs
 |[],_,h=>h
 |_::_,_,h=>by
  obtain⟨v,r,e1,e2,e3⟩:=h
  exact⟨v,r,e1,Rep.mono e e2,Reps.mono e e3⟩
end
theorem Reps.length {K:PySem.W.Frag}{F:Hp}:∀{ps:List PV} {vs:List V},Reps K F ps vs->vs.length=ps.length
 |[],_,h=>by rw[show _=[] from h];rfl
 |p::ps,_,⟨v,r,e,_,t⟩=>by rw[e,List.length_cons,List.length_cons,t.length]
theorem Reps.get {K:PySem.W.Frag}{F:Hp}:∀{ps:List PV} {vs:List V} {i:Nat} {p:PV},Reps K F ps vs->ps[i]?=some p->∃v,vs[i]?=some v/\Rep K F p v
 |[],_,i,p,_,e=>by simp at e
 |_::_,_,0,_,⟨v,r,e,h,t⟩,q=>by simp at q;subst q;exact⟨v,by rw[e];rfl,h⟩
 |_::ps,_,i+1,p,⟨v,r,e,h,t⟩,q=>by
  obtain⟨u,h1,h2⟩:=t.get (i:=i) (p:=p) (by simpa using q)
  exact⟨u,by rw[e];simpa using h1,h2⟩
theorem Reps.app {K:PySem.W.Frag}{F:Hp}:∀{ps qs:List PV} {vs us:List V},Reps K F ps vs->Reps K F qs us->Reps K F (ps++qs) (vs++us)
 |[],_,_,_,h,q=>by rw[show _=[] from h];exact q
 |_::_,_,_,_,⟨v,r,e,h,t⟩,q=>⟨v,_,by rw[e];rfl,h,t.app q⟩
theorem Reps.one {K:PySem.W.Frag}{F:Hp}{p:PV}{v:V}(h:Rep K F p v):Reps K F [p] [v]:=⟨v,[],rfl,h,rfl⟩
theorem Reps.set {K:PySem.W.Frag}{F:Hp}{p:PV}{v:V}(h:Rep K F p v):∀{ps:List PV} {vs:List V} (i:Nat),Reps K F ps vs->Reps K F (ps.set i p) (vs.set i v)
 |[],_,_,q=>by rw[show _=[] from q];rfl
 |_::_,_,0,⟨v',r,e,_,t⟩=>by rw[e];exact⟨v,r,rfl,h,t⟩
 |_::_,_,i+1,⟨v',r,e,h',t⟩=>by rw[e];exact⟨v',_,rfl,h',Reps.set h i t⟩
theorem Reps.take {K:PySem.W.Frag}{F:Hp}:∀{ps:List PV} {vs:List V} (n:Nat),Reps K F ps vs->Reps K F (ps.take n) (vs.take n)
 |_,_,0,_=>by simp[Reps]
 |[],_,_+1,q=>by rw[show _=[] from q];rfl
 |_::_,_,n+1,⟨v,r,e,h,t⟩=>by rw[e];exact⟨v,_,rfl,h,t.take n⟩
theorem Reps.drop {K:PySem.W.Frag}{F:Hp}:∀{ps:List PV} {vs:List V} (n:Nat),Reps K F ps vs->Reps K F (ps.drop n) (vs.drop n)
 |_,_,0,q=>q
 |[],_,_+1,q=>by rw[show _=[] from q];rfl
 |_::_,_,n+1,⟨v,r,e,h,t⟩=>by rw[e];exact t.drop n
structure Grow (F H F' H':Hp):Prop where
 hh:Same H H'
 ff:Same F F'
 fh:Same F' H'
 nw:∀b o,F' b=some o->F b=some o\/H b=none\/∃vs,o=.tup vs
theorem Grow.refl {F H:Hp}(h:Same F H):Grow F H F H:=⟨Same.refl _,Same.refl _,h,fun _ _ e=>.inl e⟩
theorem Grow.trans {F H F1 H1 F2 H2:Hp}(a:Grow F H F1 H1)(b:Grow F1 H1 F2 H2):Grow F H F2 H2:=
 ⟨a.hh.trans b.hh,a.ff.trans b.ff,b.fh,fun c o e=>(b.nw c o e).elim (a.nw c o) fun z=>.inr (z.elim (fun z=>.inl (a.hh.free z)) .inr)⟩
theorem Grow.keep {F H F' H':Hp}(g:Grow F H F' H'){a:Addr}{o:HO}(hF:F a=none)(hH:H a=some o)(ho:∀vs,o≠.tup vs:=by intro vs h;cases h):F' a=none/\H' a=some o:=by
 refine⟨?_,g.hh _ _ hH⟩
 cases e:F' a with
 |none=>rfl
 |some u=>
  rcases g.nw a u e with z|z|⟨vs,z⟩
  ·rw[hF] at z;cases z
  ·rw[hH] at z;cases z
  ·have h1:=g.fh a u e
   rw[g.hh _ _ hH] at h1
   cases h1
   exact absurd z (ho vs)
theorem Grow.new {F H:Hp}(h:Same F H){a:Addr}(ha:H a=none)(o:HO):Grow F H (upd F a o) (upd H a o):=by
 have hFa:F a=none:=h.free ha
 refine⟨bU ha o,bU hFa o,fun b u e=>?_,fun b u e=>?_⟩
 ·by_cases hb:b=a
  ·subst hb;rw[aq] at e ⊢;exact e
  ·rw[ay hb] at e ⊢;exact h b u e
 ·by_cases hb:b=a
  ·subst hb;exact .inr (.inl ha)
  ·rw[ay hb] at e;exact .inl e
theorem Grow.newO {F H:Hp}(h:Same F H){a:Addr}(ha:H a=none)(o:HO):Grow F H F (upd H a o):=⟨bU ha o,Same.refl _,h.trans (bU ha o),fun b u e=>.inl e⟩
theorem Grow.freeze {F H F' H':Hp}(g:Grow F H F' H'){a:Addr}{o:HO}(h0:H a=none)(hF:F' a=none)(hH:H' a=some o):Grow F H (upd F' a o) H':=by
 refine⟨g.hh,g.ff.trans (bU hF o),fun b u e=>?_,fun b u e=>?_⟩
 ·by_cases hb:b=a
  ·subst hb;rw[aq] at e;rw[hH];exact e
  ·rw[ay hb] at e;exact g.fh b u e
 ·by_cases hb:b=a
  ·subst hb;exact .inr (.inl h0)
  ·rw[ay hb] at e;exact g.nw b u e
inductive Sl where
 |val (p:PV)|own (ps:List PV)|dic (ks:List iW) (ps:List PV)
noncomputable abbrev aC:=List (Option Sl)
inductive RdV (K:PySem.W.Frag) (F H:Hp):PV->V->Prop where
 |frz {p:PV} {v:V}:Rep K F p v->RdV K F H p v
 |own {ps:List PV} {a:Addr} {vs:List V}:H a=some (.lst vs)->F a=none->Reps K F ps vs->RdV K F H (.lst ps) (.ref a)
 |dic {ks:List iW} {ps:List PV} {a:Addr} {kvs:List (iW×V)}:H a=some (.dK kvs)->F a=none->kvs.map (·.1)=ks->Reps K F ps (kvs.map (·.2))->RdV K F H (.dct ks ps) (.ref a)
theorem RdV.grow {K:PySem.W.Frag}{F H F' H':Hp}{p:PV}{v:V}(g:Grow F H F' H')(h:RdV K F H p v):RdV K F' H' p v:=by
 cases h with
 |frz h=>exact .frz (h.mono g.ff)
 |own h1 h2 h3=>exact .own (g.keep h2 h1).2 (g.keep h2 h1).1 (h3.mono g.ff)
 |dic h1 h2 h3 h4=>exact .dic (g.keep h2 h1).2 (g.keep h2 h1).1 h3 (h4.mono g.ff)
noncomputable def PH:Sl->PV
 |.val p=>p
 |.own ps=>.lst ps
 |.dic ks ps=>.dct ks ps
noncomputable def SlR (K:PySem.W.Frag)(F H:Hp):Option V->Option Sl->Prop
 |_,none=>True
 |some v,some (.val p)=>Rep K F p v
 |some v,some (.own ps)=>∃a vs,v=.ref a/\H a=some (.lst vs)/\F a=none/\Reps K F ps vs
 |some v,some (.dic ks ps)=>∃a kvs,v=.ref a/\H a=some (.dK kvs)/\F a=none/\kvs.map (·.1)=ks/\Reps K F ps (kvs.map (·.2))
 |none,some _=>False
theorem SlR.rd {K:PySem.W.Frag}{F H:Hp}{o:Option V}{s:Sl}(h:SlR K F H o (some s)):∃v,o=some v/\RdV K F H (PH s) v:=by
 cases o with
 |none=>cases s<;>exact h.elim
 |some v=>
  refine⟨v,rfl,?_⟩
  cases s with
  |val p=>exact .frz h
  |own ps=>obtain⟨a,vs,rfl,h1,h2,h3⟩:=h;exact .own h1 h2 h3
  |dic ks ps=>obtain⟨a,vs,rfl,h1,h2,h3,h4⟩:=h;exact .dic h1 h2 h3 h4
theorem SlR.grow {K:PySem.W.Frag}{F H F' H':Hp}(g:Grow F H F' H'):∀{o:Option V} {s:Option Sl},SlR K F H o s->SlR K F' H' o s
 |_,none,_=>by unfold SlR;trivial
 |none,some s,h=>by cases s<;>exact h.elim
 |some v,some (.val p),h=>Rep.mono g.ff h
 |some v,some (.own ps),⟨a,vs,e,h1,h2,h3⟩=>⟨a,vs,e,(g.keep h2 h1).2,(g.keep h2 h1).1,h3.mono g.ff⟩
 |some v,some (.dic ks ps),⟨a,vs,e,h1,h2,h3,h4⟩=>⟨a,vs,e,(g.keep h2 h1).2,(g.keep h2 h1).1,h3,h4.mono g.ff⟩
structure ER (K:PySem.W.Frag)(F H:Hp)(σ:St)(ρ:aC):Prop where
 fz:Same F H
 len:σ.length=ρ.length
 sl:∀(i:Nat) (s:Sl),ρ[i]?=some (some s)->SlR K F H ((σ[i]?).join) (some s)
theorem ER.grow {K:PySem.W.Frag}{F H F' H':Hp}{σ:St}{ρ:aC}(g:Grow F H F' H')(h:ER K F H σ ρ):ER K F' H' σ ρ:=⟨g.fh,h.len,fun i s e=>(h.sl i s e).grow g⟩
theorem ER.rd {K:PySem.W.Frag}{F H:Hp}{σ:St}{ρ:aC}(h:ER K F H σ ρ){i:Nat}{s:Sl}(e:ρ[i]?=some (some s)):∃v,σ[i]?=some (some v)/\RdV K F H (PH s) v:=by
 obtain⟨v,e1,r⟩:=(h.sl i s e).rd
 refine⟨v,?_,r⟩
 cases q:σ[i]? with
 |none=>rw[q] at e1;cases e1
 |some o=>rw[q] at e1;rw[show o=some v from e1]
noncomputable abbrev gU:=aC->(PV->Prop)->Prop
noncomputable abbrev vj:=aC->(List PV->Prop)->Prop
noncomputable abbrev nr:=aC->(Bool->Prop)->Prop
noncomputable abbrev la:=aC->(List PV->Prop)->Prop
noncomputable def lE (K:PySem.W.Frag)(te:gU):TE:=fun σ H Q=>∃F ρ,∃Qp:PV->Prop,ER K F H σ ρ/\te ρ Qp/\∀p v F' H',Qp p->Grow F H F' H'->Rep K F' p v->Q v H'
noncomputable def lT (K:PySem.W.Frag)(te:gU):TE:=fun σ H Q=>∃F ρ,∃Qp:PV->Prop,ER K F H σ ρ/\te ρ Qp/\∀p v F' H',Qp p->Grow F H F' H'->RdV K F' H' p v->Q v H'
noncomputable def lN (K:PySem.W.Frag)(te:vj):TE:=fun σ H Q=>∃F ρ,∃Qp:List PV->Prop,ER K F H σ ρ/\te ρ Qp/\∀ps a vs F' H',Qp ps->Grow F H F' H'->H a=none->F' a=none->H' a=some (.lst vs)->Reps K F' ps vs->Q (.ref a) H'
noncomputable def lB (K:PySem.W.Frag)(te:nr):TT:=fun σ H Q=>∃F ρ,∃Qp:Bool->Prop,ER K F H σ ρ/\te ρ Qp/\∀b F' H',Qp b->Grow F H F' H'->Q b H'
noncomputable def lA (K:PySem.W.Frag)(te:la):TA:=fun σ H Q=>∃F ρ,∃Qp:List PV->Prop,ER K F H σ ρ/\te ρ Qp/\∀ps vs F' H',Qp ps->Grow F H F' H'->Reps K F' ps vs->Q vs H'
theorem lE.elim {K:PySem.W.Frag}{te:gU}{σ:St}{H:Hp}{Q:VK}{C:Prop}(h:lE K te σ H Q)(k:∀F ρ (Qp:PV->Prop),ER K F H σ ρ->te ρ Qp->(∀p v F' H',Qp p->Grow F H F' H'->Rep K F' p v->Q v H')->C):C:=by obtain⟨F,ρ,Qp,a,b,c⟩:=h;exact k F ρ Qp a b c
theorem lT.elim {K:PySem.W.Frag}{te:gU}{σ:St}{H:Hp}{Q:VK}{C:Prop}(h:lT K te σ H Q)(k:∀F ρ (Qp:PV->Prop),ER K F H σ ρ->te ρ Qp->(∀p v F' H',Qp p->Grow F H F' H'->RdV K F' H' p v->Q v H')->C):C:=by obtain⟨F,ρ,Qp,a,b,c⟩:=h;exact k F ρ Qp a b c
theorem lN.elim {K:PySem.W.Frag}{te:vj}{σ:St}{H:Hp}{Q:VK}{C:Prop}(h:lN K te σ H Q)(k:∀F ρ (Qp:List PV->Prop),ER K F H σ ρ->te ρ Qp->(∀ps a vs F' H',Qp ps->Grow F H F' H'->H a=none->F' a=none->H' a=some (.lst vs)->Reps K F' ps vs->Q (.ref a) H')->C):C:=by obtain⟨F,ρ,Qp,a,b,c⟩:=h;exact k F ρ Qp a b c
theorem lB.elim {K:PySem.W.Frag}{te:nr}{σ:St}{H:Hp}{Q:Bool->Hp->Prop}{C:Prop}(h:lB K te σ H Q)(k:∀F ρ (Qp:Bool->Prop),ER K F H σ ρ->te ρ Qp->(∀b F' H',Qp b->Grow F H F' H'->Q b H')->C):C:=by obtain⟨F,ρ,Qp,a,b,c⟩:=h;exact k F ρ Qp a b c
theorem lA.elim {K:PySem.W.Frag}{te:la}{σ:St}{H:Hp}{Q:List V->Hp->Prop}{C:Prop}(h:lA K te σ H Q)(k:∀F ρ (Qp:List PV->Prop),ER K F H σ ρ->te ρ Qp->(∀ps vs F' H',Qp ps->Grow F H F' H'->Reps K F' ps vs->Q vs H')->C):C:=by obtain⟨F,ρ,Qp,a,b,c⟩:=h;exact k F ρ Qp a b c
noncomputable def iY (X:Cx)(e:Expr)(te:gU):Prop:=PE X e (lE X.K te)
noncomputable def kZ (X:Cx)(e:Expr)(te:gU):Prop:=PE X e (lT X.K te)
noncomputable def yv (X:Cx)(e:Expr)(te:vj):Prop:=PE X e (lN X.K te)
noncomputable def PuB (X:Cx)(e:Expr)(te:nr):Prop:=PT X e (lB X.K te)
noncomputable def PuW (X:Cx)(e:Expr)(te:nr):Prop:=PW X e (lB X.K te)
noncomputable def Ir (X:Cx)(es:List Expr)(te:la):Prop:=PA X es (lA X.K te)
theorem PE.weak {X:Cx}{e:Expr}{t t':TE}(h:PE X e t)(w:∀σ H Q,t' σ H Q->t σ H Q):PE X e t':=fun pins s σ H Q I q=>h pins s σ H Q I (w σ H Q q)
theorem PT.weak {X:Cx}{e:Expr}{t t':TT}(h:PT X e t)(w:∀σ H Q,t' σ H Q->t σ H Q):PT X e t':=fun pins s σ H Q I q=>h pins s σ H Q I (w σ H Q q)
theorem PW.weak {X:Cx}{e:Expr}{t t':TT}(h:PW X e t)(w:∀σ H Q,t' σ H Q->t σ H Q):PW X e t':=fun wh pins s σ H Q I q=>h wh pins s σ H Q I (w σ H Q q)
theorem PA.weak {X:Cx}{e:List Expr}{t t':TA}(h:PA X e t)(w:∀σ H Q,t' σ H Q->t σ H Q):PA X e t':=fun pos pins s σ H Q I q=>h pos pins s σ H Q I (w σ H Q q)
theorem PS.weak {X:Cx}{e:Stmt}{t t':TS}(h:PS X e t)(w:∀D σ H,t' D σ H->t D σ H):PS X e t':=fun pins s σ H D I q=>h pins s σ H D I (w D σ H q)
theorem PSs.weak {X:Cx}{e:List Stmt}{t t':TS}(h:PSs X e t)(w:∀D σ H,t' D σ H->t D σ H):PSs X e t':=fun pins s σ H D I q=>h pins s σ H D I (w D σ H q)
theorem PI.weak {X:Cx}{tg e:Expr}{t t':TI}(h:PI X tg e t)(w:∀σ H Q,t' σ H Q->t σ H Q):PI X tg e t':=fun pins s σ H Q I q=>h pins s σ H Q I (w σ H Q q)
section
variable {X:Cx}{e a b c:Expr}{pos:Pos}{te ta tb:gU}
noncomputable def Pb (tn:vj):gU:=fun ρ Q=>tn ρ fun ps=>Q (.lst ps)
noncomputable def gr (ρ:aC)(i:Nat)(Q:PV->Prop):Prop:=match ρ[i]? with
 |some (some s)=>Q (PH s)
 |_=>False
noncomputable def pC (p:PV):gU:=fun _ Q=>Q p
noncomputable def ma:PV->V
 |.non=>.non
 |.bl b=>.bl b
 |.int i=>.int i
 |.str x=>.str x
 |.ty n=>.ty n
 |.fn a=>.ref a
 |_=>.non
noncomputable def dv:PV->Bool
 |.tup _=>false
 |.lst _=>false
 |.dct _ _=>false
 |.src _=>false
 |.ktu _=>false
 |.rng _ _=>false
 |_=>true
theorem qo {K:PySem.W.Frag}{F:Hp}{p:PV}(h:dv p=true):Rep K F p (ma p):=by
 cases p<;>first|rfl|exact absurd h Bool.false_ne_true
theorem nE {p:PV}(h:PE X e (tC (ma p)))(hp:dv p=true:=by rfl):iY X e (pC p):=PE.weak h fun σ H Q hh_=>hh_.elim fun F ρ Qp er q k=>k p _ F H q (.refl er.fz) (qo hp)
theorem Km {i:Int}{j}:iY X (.Constant (.int i) j pos) (pC (.int i)):=nE mh
theorem NL {i:Bool}{j}:iY X (.Constant (.bool i) j pos) (pC (.bl i)):=nE NU
theorem Kh {j}:iY X (.Constant .none j pos) (pC .non):=nE Kx
theorem LU {x:Str}{j}:iY X (.Constant (.str x) j pos) (pC (.str x)):=nE LK
noncomputable abbrev mI:=PV->PV->(PV->Prop)->Prop
noncomputable def zT (g:mI)(ta tb:gU):gU:=fun ρ Q=>ta ρ fun x=>tb ρ fun y=>g x y Q
noncomputable def jk (K:PySem.W.Frag)(r:R2)(g:mI):Prop:=∀F H x y p q (Qp:PV->Prop) (Q:VK),Same F H->RdV K F H p x->RdV K F H q y->g p q Qp->(∀z v F' H',Qp z->Grow F H F' H'->Rep K F' z v->Q v H')->r x y H Q
theorem pU {r:R2}{g:mI}(hg:jk X.K r g):∀σ H Q,lE X.K (zT g ta tb) σ H Q->m5 r (lT X.K ta) (lT X.K tb) σ H Q:=fun σ H Q hh_=>hh_.elim fun F ρ Qp er q k=>
 ⟨F,ρ,_,er,q,fun p v F1 H1 q1 g1 r1=>⟨F1,ρ,_,er.grow g1,q1,fun p2 v2 F2 H2 q2 g2 r2=>
  hg F2 H2 v v2 p p2 Qp Q g2.fh (r1.grow g2) r2 q2 fun z u F3 H3 qz g3 r3=>k z u F3 H3 qz ((g1.trans g2).trans g3) r3⟩⟩
theorem nU {op:Operator}{r:R2}{g:mI}(ho:mw X (binaryOp op) r)(hg:jk X.K r g)(ha:kZ X a ta)(hb:kZ X b tb):iY X (.BinOp a op b pos) (zT g ta tb):=PE.weak (DL ho ha hb) (pU hg)
theorem JS {op:CmpOp}{r:R2}{g:mI}(ho:mw X (compareOp op) r)(hg:jk X.K r g)(ha:kZ X a ta)(hb:kZ X b tb)(hm:behindInMarks op b=false):iY X (.Compare a [op] [b] pos) (zT g ta tb):=PE.weak (Hs ho ha hb hm) (pU hg)
noncomputable def OkB:PV->(Bool->Prop)->Prop
 |.bl b,Q=>Q b
 |_,_=>False
noncomputable def OkI:PV->(Int->Prop)->Prop
 |.int i,Q=>Q i
 |_,_=>False
theorem OkB.rd {K:PySem.W.Frag}{F H:Hp}{p:PV}{v:V}{Q:Bool->Prop}(h:OkB p Q)(r:RdV K F H p v):∃b,p=.bl b/\v=.bl b/\Q b:=by
 cases p<;>first|exact h.elim|skip
 cases r with
 |frz r=>exact⟨_,rfl,r,h⟩
theorem OkI.rd {K:PySem.W.Frag}{F H:Hp}{p:PV}{v:V}{Q:Int->Prop}(h:OkI p Q)(r:RdV K F H p v):∃b,p=.int b/\v=.int b/\Q b:=by
 cases p<;>first|exact h.elim|skip
 cases r with
 |frz r=>exact⟨_,rfl,r,h⟩
noncomputable def Ic (te:gU):nr:=fun ρ Q=>te ρ fun x=>OkB x Q
theorem Fl {op:CmpOp}{r:R2}{g:mI}(ho:mw X (compareOp op) r)(hg:jk X.K r g)(ha:kZ X a ta)(hb:kZ X b tb)(hm:behindInMarks op b=false):PuB X (.Compare a [op] [b] pos) (Ic (zT g ta tb)):=
 PT.weak (oi ho ha hb hm) fun σ H Q hh_=>hh_.elim fun F ρ Qp er q k=>pU hg σ H _ ⟨F,ρ,_,er,q,fun p v F' H' hp g r=>by
  obtain⟨b,rfl,rfl,q⟩:=hp.rd (H:=H') (.frz r)
  exact⟨b,rfl,k b F' H' q g⟩⟩
noncomputable def gI (C:Int->Int->Prop)(f:Int->Int->PV):mI:=fun x y Q=>OkI x fun i=>OkI y fun j=>C i j/\Q (f i j)
noncomputable def GV (f:Int->Int->PV):mI:=fun x y Q=>OkI x fun i=>OkI y fun j=>Q (f i j)
theorem vC {K:PySem.W.Frag}{C:Int->Int->Prop}{f:Int->Int->PV}(hf:∀i j,dv (f i j)=true:=by intros;rfl):jk K (rI C fun i j=>ma (f i j)) (gI C f):=fun F H x y p q Qp Q s rx ry h k=>by
 obtain⟨i,rfl,rfl,h⟩:=OkI.rd h rx
 obtain⟨j,rfl,rfl,h⟩:=OkI.rd h ry
 exact⟨i,j,rfl,rfl,h.1,k _ _ F H h.2 (.refl s) (qo (hf i j))⟩
theorem mv {K:PySem.W.Frag}{f:Int->Int->PV}(hf:∀i j,dv (f i j)=true:=by intros;rfl):jk K (ky fun i j=>ma (f i j)) (GV f):=fun F H x y p q Qp Q s rx ry h k=>by
 obtain⟨i,rfl,rfl,h⟩:=OkI.rd h rx
 obtain⟨j,rfl,rfl,h⟩:=OkI.rd h ry
 exact⟨i,j,rfl,rfl,k _ _ F H h (.refl s) (qo (hf i j))⟩
noncomputable def ON:mI:=GV fun i j=>.int (i+j)
noncomputable def fU:mI:=GV fun i j=>.int (i - j)
noncomputable def Pf:mI:=gI CMul fun i j=>.int (i * j)
noncomputable def OK:mI:=gI NH fun i j=>.int (i / j)
noncomputable def PF:mI:=gI (fun _ j=>0<j) fun i j=>.int (i % j)
noncomputable def Pd:mI:=gI ND fun i j=>.int (i ^ j.toNat)
noncomputable def Qx:mI:=GV fun i j=>.bl (decide (i<j))
noncomputable def Qg:mI:=GV fun i j=>.bl (decide (i≤j))
noncomputable def Qs:mI:=GV fun i j=>.bl (decide (j<i))
noncomputable def Q8:mI:=GV fun i j=>.bl (decide (j≤i))
theorem Kj (ha:kZ X a ta)(hb:kZ X b tb):iY X (.BinOp a .Add b pos) (zT ON ta tb):=nU Jx (mv (f:=fun i j=>.int (i+j))) ha hb
theorem Kq (ha:kZ X a ta)(hb:kZ X b tb):iY X (.BinOp a .Sub b pos) (zT fU ta tb):=nU JF (mv (f:=fun i j=>.int (i - j))) ha hb
theorem JN (ha:kZ X a ta)(hb:kZ X b tb):iY X (.BinOp a .Mult b pos) (zT Pf ta tb):=nU LB (vC (f:=fun i j=>.int (i * j))) ha hb
theorem Kn (ha:kZ X a ta)(hb:kZ X b tb):iY X (.BinOp a .FloorDiv b pos) (zT OK ta tb):=nU FP (vC (f:=fun i j=>.int (i / j))) ha hb
theorem KY (ha:kZ X a ta)(hb:kZ X b tb):iY X (.BinOp a .Mod b pos) (zT PF ta tb):=nU JV (vC (f:=fun i j=>.int (i % j))) ha hb
theorem Lf (ha:kZ X a ta)(hb:kZ X b tb):iY X (.BinOp a .Pow b pos) (zT Pd ta tb):=nU KZ (vC (f:=fun i j=>.int (i ^ j.toNat))) ha hb
theorem NZ:jk X.K (ky fun i j=>.bl (decide (i<j))) Qx:=mv (f:=fun i j=>.bl (decide (i<j)))
theorem L9:jk X.K (ky fun i j=>.bl (decide (i≤j))) Qg:=mv (f:=fun i j=>.bl (decide (i≤j)))
theorem NT:jk X.K (ky fun i j=>.bl (decide (j<i))) Qs:=mv (f:=fun i j=>.bl (decide (j<i)))
theorem M7:jk X.K (ky fun i j=>.bl (decide (j≤i))) Q8:=mv (f:=fun i j=>.bl (decide (j≤i)))
noncomputable def mR:PV->Bool
 |.non=>true
 |_=>false
end
end Pu
end
section
namespace Pu
open PySem PySem.Spec L2
section
variable {X:Cx}{e a b c:Expr}{pos:Pos}{te ta tb tc:gU}{tA tB':nr}{eW:List Expr}
noncomputable def ME (ta:gU):gU:=fun ρ Q=>ta ρ fun x=>OkB x fun b=>Q (.bl (!b))
noncomputable def Ob (ta tb:gU):gU:=fun ρ Q=>ta ρ fun x=>OkB x fun b=>if b=true then tb ρ Q else Q (.bl false)
noncomputable def MM (t u:nr):nr:=fun ρ Q=>t ρ fun b=>if b=true then u ρ Q else Q false
noncomputable def OT (t u:nr):nr:=fun ρ Q=>t ρ fun b=>if b=true then Q true else u ρ Q
noncomputable def M6 (t:nr):nr:=fun ρ Q=>t ρ fun b=>Q (!b)
noncomputable def O4 (t:nr)(ta tb:gU):gU:=fun ρ Q=>t ρ fun b=>if b=true then ta ρ Q else tb ρ Q
theorem Jj (ha:iY X a ta):iY X (.UnaryOp .Not a pos) (ME ta):=PE.weak (KJ ha) fun σ H Q hh_=>hh_.elim fun F ρ Qp er q k=>⟨F,ρ,_,er,q,fun p v F1 H1 h1 g1 r1=>by
 obtain⟨b,rfl,rfl,h⟩:=h1.rd (H:=H1) (.frz r1)
 exact⟨b,rfl,k _ _ F1 H1 h g1 rfl⟩⟩
theorem Je (ha:iY X a ta)(hb:iY X (.BoolOp .And (b::eW) pos) tb):iY X (.BoolOp .And (a::b::eW) pos) (Ob ta tb):=PE.weak (C8 ha hb) fun σ H Q hh_=>hh_.elim fun F ρ Qp er q k=>⟨F,ρ,_,er,q,fun p v F1 H1 h1 g1 r1=>by
 obtain⟨b,rfl,rfl,h⟩:=h1.rd (H:=H1) (.frz r1)
 refine⟨b,rfl,?_⟩
 cases b with
 |true=>exact⟨F1,ρ,Qp,er.grow g1,by simpa using h,fun p v F' H' hp g r=>k p v F' H' hp (g1.trans g) r⟩
 |false=>exact k (.bl false) _ F1 H1 (by simpa using h) g1 rfl⟩
theorem Kg {op}(h:iY X a te):iY X (.BoolOp op [a] pos) te:=El h
theorem G2 (h:PT X e (tB (lE X.K te))):PuB X e (Ic te):=PT.weak h fun σ H Q hh_=>hh_.elim fun F ρ Qp er q k=>⟨F,ρ,_,er,q,fun p v F1 H1 h1 g1 r1=>by
 obtain⟨b,rfl,rfl,h⟩:=h1.rd (H:=H1) (.frz r1)
 exact⟨b,rfl,k _ F1 H1 h g1⟩⟩
theorem Dg (ha:PuB X a tA):PuW X (.BoolOp .And [a] pos) tA:=FN ha
theorem Gw (ha:PuB X a tA):PuW X (.BoolOp .Or [a] pos) tA:=Ji ha
theorem Go (ha:PuB X a tA)(hb:PuW X (.BoolOp .And (b::eW) pos) tB'):PuW X (.BoolOp .And (a::b::eW) pos) (MM tA tB'):=PW.weak (Jm ha hb) fun σ H Q hh_=>hh_.elim fun F ρ Qp er q k=>⟨F,ρ,_,er,q,fun b F1 H1 h1 g1=>by
 cases b with
 |true=>exact⟨F1,ρ,Qp,er.grow g1,by simpa using h1,fun b F' H' hp g=>k b F' H' hp (g1.trans g)⟩
 |false=>exact k _ F1 H1 (by simpa using h1) g1⟩
theorem Ju (ha:PuB X a tA)(hb:PuW X (.BoolOp .Or (b::eW) pos) tB'):PuW X (.BoolOp .Or (a::b::eW) pos) (OT tA tB'):=PW.weak (MA ha hb) fun σ H Q hh_=>hh_.elim fun F ρ Qp er q k=>⟨F,ρ,_,er,q,fun b F1 H1 h1 g1=>by
 cases b with
 |false=>exact⟨F1,ρ,Qp,er.grow g1,by simpa using h1,fun b F' H' hp g=>k b F' H' hp (g1.trans g)⟩
 |true=>exact k _ F1 H1 (by simpa using h1) g1⟩
theorem Na (h:PuW X e tA):PuB X e tA:=PW.pt h
theorem Gk (ha:PuB X a tA):PuB X (.UnaryOp .Not a pos) (M6 tA):=PT.weak (Jy ha) fun σ H Q hh_=>hh_.elim fun F ρ Qp er q k=>⟨F,ρ,_,er,q,fun b F1 H1 h1 g1=>k _ F1 H1 h1 g1⟩
theorem KC (hc:PuB X c tA)(ha:iY X a ta)(hb:iY X b tb):iY X (.IfExp c a b pos) (O4 tA ta tb):=PE.weak (D8 hc ha hb) fun σ H Q hh_=>hh_.elim fun F ρ Qp er q k=>⟨F,ρ,_,er,q,fun b F1 H1 h1 g1=>by
 cases b with
 |true=>exact⟨F1,ρ,Qp,er.grow g1,by simpa using h1,fun p v F' H' hp g r=>k p v F' H' hp (g1.trans g) r⟩
 |false=>exact⟨F1,ρ,Qp,er.grow g1,by simpa using h1,fun p v F' H' hp g r=>k p v F' H' hp (g1.trans g) r⟩⟩
noncomputable def yK (g g':mI)(ta tb tc:gU):gU:=fun ρ Q=>ta ρ fun x=>tb ρ fun y=>g x y fun z=>OkB z fun k=>if k=true then tc ρ fun w=>g' y w Q else Q (.bl false)
theorem yS {r r':R2}{g g':mI}(hg:jk X.K r g)(hg':jk X.K r' g'):∀σ H Q,lE X.K (yK g g' ta tb tc) σ H Q->bS r r' (lT X.K ta) (lT X.K tb) (lT X.K tc) σ H Q:=fun σ H Q hh_=>hh_.elim fun F ρ Qp er q k=>
 ⟨F,ρ,_,er,q,fun p v F1 H1 q1 g1 r1=>⟨F1,ρ,_,er.grow g1,q1,fun p2 v2 F2 H2 q2 g2 r2=>
  hg F2 H2 v v2 p p2 _ _ g2.fh (r1.grow g2) r2 q2 fun z u F3 H3 qz g3 r3=>by
   obtain⟨b,rfl,rfl,h⟩:=OkB.rd (H:=H3) qz (.frz r3)
   refine⟨b,rfl,?_⟩
   have gg:=(g1.trans g2).trans g3
   cases b with
   |true=>exact⟨F3,ρ,_,er.grow gg,by simpa using h,fun p4 v4 F4 H4 q4 g4 r4=>hg' F4 H4 v2 v4 p2 p4 Qp Q g4.fh (r2.grow (g3.trans g4)) r4 q4 fun z u F5 H5 qz g5 r5=>k z u F5 H5 qz ((gg.trans g4).trans g5) r5⟩
   |false=>exact k (.bl false) _ F3 H3 (by simpa using h) gg rfl⟩⟩
theorem D5 {op op':CmpOp}{r r':R2}{g g':mI}(ho:mw X (compareOp op) r)(hg:jk X.K r g)(ho':mw X (compareOp op') r')(hg':jk X.K r' g')(ha:kZ X a ta)(hb:kZ X b tb)(hc:kZ X c tc)
  (hm:lastMarks [op,op'] [b,c]=false:=by with_unfolding_all rfl):iY X (.Compare a [op,op'] [b,c] pos) (yK g g' ta tb tc):=PE.weak (DY ho ho' ha hb hc hm) (yS hg hg')
noncomputable def O9 (ta:gU):gU:=fun ρ Q=>ta ρ fun x=>OkI x fun i=>Q (.int (-i))
theorem Ku (ha:iY X a ta):iY X (.UnaryOp .USub a pos) (O9 ta):=PE.weak (IA Dq ha) fun σ H Q hh_=>hh_.elim fun F ρ Qp er q k=>⟨F,ρ,_,er,q,fun p v F1 H1 h1 g1 r1=>by
 obtain⟨i,rfl,rfl,h⟩:=h1.rd (H:=H1) (.frz r1)
 exact⟨i,rfl,k _ _ F1 H1 h g1 rfl⟩⟩
inductive RdVs (K:PySem.W.Frag) (F H:Hp):List PV->List V->Prop where
 |nil:RdVs K F H [] []
 |cons {p:PV} {v:V} {ps:List PV} {vs:List V}:RdV K F H p v->RdVs K F H ps vs->RdVs K F H (p::ps) (v::vs)
noncomputable def lAT (K:PySem.W.Frag)(te:la):TA:=fun σ H Q=>∃F ρ,∃Qp:List PV->Prop,ER K F H σ ρ/\te ρ Qp/\∀ps vs F' H',Qp ps->Grow F H F' H'->RdVs K F' H' ps vs->Q vs H'
theorem lAT.elim {K:PySem.W.Frag}{te:la}{σ:St}{H:Hp}{Q:List V->Hp->Prop}{C:Prop}(h:lAT K te σ H Q)(k:∀F ρ (Qp:List PV->Prop),ER K F H σ ρ->te ρ Qp->(∀ps vs F' H',Qp ps->Grow F H F' H'->RdVs K F' H' ps vs->Q vs H')->C):C:=by obtain⟨F,ρ,Qp,a,b,c⟩:=h;exact k F ρ Qp a b c
noncomputable def Ao (X:Cx)(es:List Expr)(te:la):Prop:=PA X es (lAT X.K te)
noncomputable def Mh:la:=fun _ Q=>Q []
noncomputable def Ip (te:gU)(t:la):la:=fun ρ Q=>te ρ fun p=>t ρ fun ps=>Q (p::ps)
variable {es:List Expr}{t:la}
theorem HU:Ir X [] Mh:=PA.weak cO fun σ H Q hh_=>hh_.elim fun F ρ Qp er q k=>k _ _ F H q (.refl er.fz) rfl
theorem Cs (hn:NS e)(he:iY X e te)(ht:Ir X es t):Ir X (e::es) (Ip te t):=PA.weak (aG hn he ht) fun σ H Q hh_=>hh_.elim fun F ρ Qp er q k=>⟨F,ρ,_,er,q,fun p v F1 H1 h1 g1 r1=>
 ⟨F1,ρ,_,er.grow g1,h1,fun ps vs F2 H2 h2 g2 r2=>k _ _ F2 H2 h2 (g1.trans g2) ⟨v,vs,rfl,r1.mono g2.ff,r2⟩⟩⟩
theorem Cy:Ao X [] Mh:=PA.weak cO fun σ H Q hh_=>hh_.elim fun F ρ Qp er q k=>k _ _ F H q (.refl er.fz) .nil
theorem BC (hn:NS e)(he:kZ X e te)(ht:Ao X es t):Ao X (e::es) (Ip te t):=PA.weak (aG hn he ht) fun σ H Q hh_=>hh_.elim fun F ρ Qp er q k=>⟨F,ρ,_,er,q,fun p v F1 H1 h1 g1 r1=>
 ⟨F1,ρ,_,er.grow g1,h1,fun ps vs F2 H2 h2 g2 r2=>k _ _ F2 H2 h2 (g1.trans g2) (.cons (r1.grow g2) r2)⟩⟩
noncomputable def OY (t:la):gU:=fun ρ Q=>t ρ fun ps=>ps.length≤sizeLine/\Q (.tup ps)
noncomputable def O2 (t:la):vj:=fun ρ Q=>t ρ fun ps=>ps.length≤sizeLine/\Q ps
theorem J0 {x1}(h:Ir X es t):iY X (.Tuple es x1 pos) (OY t):=PE.weak (nh h) fun σ H Q hh_=>hh_.elim fun F ρ Qp er q k=>⟨F,ρ,_,er,q,fun ps vs F1 H1 h1 g1 r1=>⟨by rw[r1.length];exact h1.1,fun p hp=>
 k (.tup ps) (.ref p) _ _ h1.2 (g1.trans (.new g1.fh hp _)) ⟨p,vs,rfl,aq,r1.mono (bU (g1.fh.free hp) _)⟩⟩⟩
theorem Jc (h:Ir X es t):yv X (.List es pos) (O2 t):=PE.weak (Ey h) fun σ H Q hh_=>hh_.elim fun F ρ Qp er q k=>⟨F,ρ,_,er,q,fun ps vs F1 H1 h1 g1 r1=>⟨by rw[r1.length];exact h1.1,fun p hp=>
 k ps p vs F1 _ h1.2 (g1.trans (.newO g1.fh hp _)) (g1.hh.free hp) (g1.fh.free hp) aq r1⟩⟩
noncomputable def items:PV->Option (List PV)
 |.tup ps=>some ps
 |.lst ps=>some ps
 |.src ps=>some ps
 |.ktu ps=>some ps
 |_=>none
noncomputable def OkS (p:PV)(Q:List PV->Prop):Prop:=match items p with
 |some ps=>Q ps
 |none=>False
noncomputable def OkO {α:Type}(o:Option α)(Q:α->Prop):Prop:=match o with
 |some x=>Q x
 |none=>False
theorem OkO.ex {α:Type}{o:Option α}{Q:α->Prop}(h:OkO o Q):∃x,o=some x/\Q x:=by
 cases o with
 |none=>exact h.elim
 |some x=>exact⟨x,rfl,h⟩
theorem OkS.rd {K:PySem.W.Frag}{F H:Hp}{p:PV}{v:V}{Q:List PV->Prop}(h:OkS p Q)(s:Same F H)(r:RdV K F H p v):∃a vs ps,v=.ref a/\(SqL K H a vs\/SqT K H a vs)/\items p=some ps/\Reps K F ps vs/\Q ps:=by
 unfold OkS at h
 cases r with
 |frz r=>
  cases p<;>first|exact h.elim|skip
  ·obtain⟨a,vs,rfl,e,r⟩:=r;exact⟨a,vs,_,rfl,.inr (SqT.of (s _ _ e)),rfl,r,h⟩
  ·obtain⟨a,vs,rfl,e,r⟩:=r;exact⟨a,vs,_,rfl,.inl (SqL.of (s _ _ e)),rfl,r,h⟩
  ·obtain⟨a,vs,rfl,e,r⟩:=r;exact⟨a,vs,_,rfl,.inl (s.seq e),rfl,r,h⟩
  ·obtain⟨a,vs,rfl,e,r⟩:=r;exact⟨a,vs,_,rfl,.inr (AT s e),rfl,r,h⟩
 |own h1 h2 h3=>exact⟨_,_,_,rfl,.inl (SqL.of h1),rfl,h3,h⟩
 |dic=>exact h.elim
theorem Reps.atI {K:PySem.W.Frag}{F:Hp}{ps:List PV}{vs:List V}{i:Int}{p:PV}(h:Reps K F ps vs)(e:L2.atI ps i=some p):∃v,L2.atI vs i=some v/\Rep K F p v:=by
 unfold L2.atI at e ⊢
 rw[h.length]
 cases q:tX ps.length i with
 |none=>rw[q] at e;cases e
 |some j=>rw[q] at e;exact h.get e
noncomputable def Ow:mI:=fun x y Q=>OkI y fun i=>match x with
 |.str z=>z.length≤sizeLine/\OkO (L2.atI z.cps.toList i) fun c=>Q (.str ⟨#[c]⟩)
 |p=>OkS p fun ps=>OkO (L2.atI ps i) Q
theorem Nt:jk X.K (be X.K) Ow:=fun F H x y p q Qp Q s rx ry h k=>by
 obtain⟨i,rfl,rfl,h⟩:=OkI.rd h ry
 by_cases hz:∃z,p=.str z
 ·obtain⟨z,rfl⟩:=hz
  obtain⟨h1,h2⟩:=h
  obtain⟨c,e,h2⟩:=h2.ex
  cases rx with
  |frz r=>exact .inr (.inr ⟨z,i,c,r,rfl,h1,e,k _ _ F H h2 (.refl s) rfl⟩)
 ·have h':OkS p fun ps=>OkO (L2.atI ps i) Qp:=by
   cases p<;>first|exact h|exact absurd ⟨_,rfl⟩ hz
  obtain⟨a,vs,ps,rfl,hs,_,r,h⟩:=h'.rd s rx
  obtain⟨z,e,h⟩:=h.ex
  obtain⟨v,e',r'⟩:=r.atI e
  rcases hs with hs|hs
  ·exact .inl ⟨a,vs,i,v,rfl,rfl,hs,e',k z v F H h (.refl s) r'⟩
  ·exact .inr (.inl ⟨a,vs,i,v,rfl,rfl,hs,e',k z v F H h (.refl s) r'⟩)
theorem Mm (ha:kZ X a ta)(hb:kZ X b tb)(hs:uu b):iY X (.Subscript a b pos) (zT Ow ta tb):=PE.weak (jr Es ha hb hs) (pU Nt)
noncomputable abbrev AX:=aC->(Option Int->Prop)->Prop
noncomputable def lO (K:PySem.W.Frag)(te:AX):TO:=fun σ H Q=>∃F ρ,∃Qp:Option Int->Prop,ER K F H σ ρ/\te ρ Qp/\∀b F' H',Qp b->Grow F H F' H'->Q b H'
theorem lO.elim {K:PySem.W.Frag}{te:AX}{σ:St}{H:Hp}{Q:Option Int->Hp->Prop}{C:Prop}(h:lO K te σ H Q)(k:∀F ρ (Qp:Option Int->Prop),ER K F H σ ρ->te ρ Qp->(∀b F' H',Qp b->Grow F H F' H'->Q b H')->C):C:=by obtain⟨F,ρ,Qp,a,b,c⟩:=h;exact k F ρ Qp a b c
noncomputable def DF (X:Cx)(e:Option Expr)(te:AX):Prop:=PO X e (lO X.K te)
theorem PO.weak {X:Cx}{e:Option Expr}{t t':TO}(h:PO X e t)(w:∀σ H Q,t' σ H Q->t σ H Q):PO X e t':=fun pins s σ H Q I q=>h pins s σ H _ I (w σ H _ q)
noncomputable def GP:AX:=fun _ Q=>Q none
noncomputable def Mt (te:gU):AX:=fun ρ Q=>te ρ fun x=>OkI x fun i=>Q (some i)
theorem Di:DF X none GP:=PO.weak G6 fun σ H Q hh_=>hh_.elim fun F ρ Qp er q k=>k _ F H q (.refl er.fz)
theorem DV (h:iY X e te):DF X (some e) (Mt te):=PO.weak (Gv h) fun σ H Q hh_=>hh_.elim fun F ρ Qp er q k=>⟨F,ρ,_,er,q,fun p v F1 H1 h1 g1 r1=>by
 obtain⟨i,rfl,rfl,h⟩:=h1.rd (H:=H1) (.frz r1)
 exact⟨i,rfl,k _ F1 H1 h g1⟩⟩
noncomputable def cut {α:Type}(xs:List α)(lo hi:Option Int):List α:=(xs.drop (HT.sIx xs.length 0 lo)).take (HT.sIx xs.length xs.length hi - HT.sIx xs.length 0 lo)
theorem Reps.cut {K:PySem.W.Frag}{F:Hp}{ps:List PV}{vs:List V}{lo hi:Option Int}(h:Reps K F ps vs):Reps K F (cut ps lo hi) (wL vs lo hi):=by
 unfold Pu.cut wL
 rw[h.length]
 exact (h.drop _).take _
noncomputable def OkL:PV->(List PV->Prop)->Prop
 |.lst ps,Q=>Q ps
 |.src ps,Q=>Q ps
 |_,_=>False
theorem OkL.rd {K:PySem.W.Frag}{F H:Hp}{p:PV}{v:V}{Q:List PV->Prop}(h:OkL p Q)(s:Same F H)(r:RdV K F H p v):∃a vs ps,v=.ref a/\SqL K H a vs/\Reps K F ps vs/\Q ps:=by
 cases r with
 |frz r=>
  cases p<;>first|exact h.elim|skip
  ·obtain⟨a,vs,rfl,e,r⟩:=r;exact⟨a,vs,_,rfl,SqL.of (s _ _ e),r,h⟩
  ·obtain⟨a,vs,rfl,e,r⟩:=r;exact⟨a,vs,_,rfl,s.seq e,r,h⟩
 |own h1 h2 h3=>exact⟨_,_,_,rfl,SqL.of h1,h3,h⟩
 |dic=>exact h.elim
noncomputable def OkT:PV->(List PV->Prop)->Prop
 |.tup ps,Q=>Q ps
 |_,_=>False
theorem OkT.rd {K:PySem.W.Frag}{F H:Hp}{p:PV}{v:V}{Q:List PV->Prop}(h:OkT p Q)(r:RdV K F H p v):∃a vs ps,p=.tup ps/\v=.ref a/\F a=some (.tup vs)/\Reps K F ps vs/\Q ps:=by
 cases p<;>first|exact h.elim|skip
 cases r with
 |frz r=>obtain⟨a,vs,rfl,e,r⟩:=r;exact⟨a,vs,_,rfl,rfl,e,r,h⟩
noncomputable def Pm (te:gU)(tl th:AX):vj:=fun ρ Q=>te ρ fun x=>tl ρ fun l=>th ρ fun h=>OkL x fun ps=>Q (cut ps l h)
theorem Lv {lo hi:Option Expr}{tl th:AX}{p2:Pos}(he:kZ X e te)(hl:DF X lo tl)(hh:DF X hi th):yv X (.Subscript e (.Slice lo hi none p2) pos) (Pm te tl th):=PE.weak (pY Gb he hl hh) fun σ H Q hh_=>hh_.elim fun F ρ Qp er q k=>⟨F,ρ,_,er,q,fun p v F1 H1 h1 g1 r1=>
 ⟨F1,ρ,_,er.grow g1,h1,fun l F2 H2 h2 g2=>⟨F2,ρ,_,(er.grow g1).grow g2,h2,fun h F3 H3 h3 g3=>by
  have gg:=(g1.trans g2).trans g3
  obtain⟨a,vs,ps,rfl,hs,r,q⟩:=h3.rd gg.fh (r1.grow (g2.trans g3))
  refine⟨a,vs,rfl,hs,fun p hp=>k _ p _ F3 _ q (gg.trans (.newO gg.fh hp _)) (gg.hh.free hp) (gg.fh.free hp) aq r.cut⟩⟩⟩⟩
end
end Pu
end
section
namespace Pu
open PySem PySem.Spec L2 PySem.SeqAt
mutual
noncomputable def plain:PV->Bool
 |.non=>true
 |.bl _=>true
 |.int _=>true
 |.str _=>true
 |.tup ps=>aH ps
 |.lst ps=>aH ps
 |_=>false
noncomputable def aH:List PV->Bool
 |[]=>true
 |p::ps=>plain p&&aH ps
end
mutual
noncomputable def oo:PV->Nat
 |.tup ps=>cf ps+1
 |.lst ps=>cf ps+1
 |_=>0
noncomputable def cf:List PV->Nat
 |[]=>0
 |p::ps=>max (oo p) (cf ps)
end
mutual
noncomputable def iT:PV->PV->Bool
 |.tup ps,q=>match q with
  |.tup qs=>iG ps qs
  |_=>false
 |.lst ps,q=>match q with
  |.lst qs=>iG ps qs
  |_=>false
 |p,q=>dv q&&CM (ma p) (ma q)
noncomputable def iG:List PV->List PV->Bool
 |[],qs=>match qs with
  |[]=>true
  |_::_=>false
 |p::ps,qs=>match qs with
  |[]=>false
  |q::qs=>iT p q&&iG ps qs
end
theorem jf:∀(ps qs:List PV),((List.range (min ps.length qs.length)).all (fun j=>iT (ps.getD j .non) (qs.getD j .non))&&ps.length==qs.length)=iG ps qs
 |[],[]=>by simp[iG]
 |[],_::_=>by simp[iG]
 |_::_,[]=>by simp[iG]
 |p::ps,q::qs=>by
  have ih:=jf ps qs
  rw[iG,←ih]
  rw[show min (p::ps).length (q::qs).length=min ps.length qs.length+1 by simp only[List.length_cons];omega,List.range_succ_eq_map,List.all_cons,List.all_map]
  simp[Bool.and_assoc,Function.comp_def]
theorem o8 {ps qs:List PV}(h:ps.length=qs.length):(List.range ps.length).all (fun j=>iT (ps.getD j .non) (qs.getD j .non))=iG ps qs:=by
 rw[←jf,←h,Nat.min_self];simp
theorem rO {ps qs:List PV}(h:ps.length≠qs.length):iG ps qs=false:=by
 rw[←jf,(show (ps.length==qs.length)=false by simpa using h),Bool.and_false]
mutual
noncomputable def Dv (s:Shared):PV->Value->Prop
 |.tup ps,u=>∃a its,u=.ref a/\s.heap.IsTuple a its.toArray/\Dvs s ps its
 |.lst ps,u=>∃a its,u=.ref a/\s.heap.IsList a its.toArray/\Dvs s ps its
 |p,u=>RelV (ma p) u
noncomputable def Dvs (s:Shared):List PV->List Value->Prop
 |[],us=>us=[]
 |p::ps,us=>∃u r,us=u::r/\Dv s p u/\Dvs s ps r
end
theorem Dvs.length {s:Shared}:∀{ps:List PV} {us:List Value},Dvs s ps us->us.length=ps.length
 |[],_,h=>by rw[show _=[] from h];rfl
 |_::_,_,⟨u,r,e,_,t⟩=>by rw[e,List.length_cons,List.length_cons,t.length]
section
variable {X:Cx}{pins:List (Addr×Obj)}{σ:L2.St}{F H:Hp}{s:Shared}
mutual
theorem IB (I:L2.Inv X pins σ H s)(sf:Same F H):∀{p:PV} {v:V} {u:Value},plain p=true->Rep X.K F p v->RelV v u->Dv s p u
 |.non,_,_,_,h,r=>by rw[show _=_ from h] at r;exact r
 |.bl _,_,_,_,h,r=>by rw[show _=_ from h] at r;exact r
 |.int _,_,_,_,h,r=>by rw[show _=_ from h] at r;exact r
 |.str _,_,_,_,h,r=>by rw[show _=_ from h] at r;exact r
 |.tup ps,_,_,hp,⟨a,vs,e,hF,rs⟩,r=>by
  subst e
  obtain⟨its,rv,pl,hz⟩:=I.tuple (SqT.of (sf _ _ hF))
  exact⟨a,its,r,pl,lq I sf hp rs rv⟩
 |.lst ps,_,_,hp,⟨a,vs,e,hF,rs⟩,r=>by
  subst e
  obtain⟨its,rv,pl,hz⟩:=I.list (SqL.of (sf _ _ hF))
  exact⟨a,its,r,pl.isList,lq I sf hp rs rv⟩
 |.ty _,_,_,hp,_,_=>absurd hp Bool.false_ne_true
 |.fn _,_,_,hp,_,_=>absurd hp Bool.false_ne_true
 |.dct _ _,_,_,hp,_,_=>absurd hp Bool.false_ne_true
 |.src _,_,_,hp,_,_=>absurd hp Bool.false_ne_true
 |.ktu _,_,_,hp,_,_=>absurd hp Bool.false_ne_true
 |.rng _ _,_,_,hp,_,_=>absurd hp Bool.false_ne_true
theorem lq (I:L2.Inv X pins σ H s)(sf:Same F H):∀{ps:List PV} {vs:List V} {us:List Value},aH ps=true->Reps X.K F ps vs->Vals vs us->Dvs s ps us
 |[],_,_,_,h,r=>by rw[show _=[] from h] at r;cases r;rfl
 |p::ps,_,_,hp,⟨v,t,e,h1,h2⟩,r=>by
  subst e
  cases r with
  |cons r1 r2=>
   rw[aH,Bool.and_eq_true] at hp
   exact⟨_,_,rfl,IB I sf hp.1 h1 r1,lq I sf hp.2 h2 r2⟩
end
theorem sY (I:L2.Inv X pins σ H s)(sf:Same F H){p:PV}{v:V}{u:Value}(hp:plain p=true)(h:RdV X.K F H p v)(r:RelV v u):Dv s p u:=by
 cases h with
 |frz h=>exact IB I sf hp h r
 |own h1 h2 h3=>
  obtain⟨its,rv,pl,hz⟩:=I.list (SqL.of h1)
  exact⟨_,its,r,pl.isList,lq I sf hp h3 rv⟩
 |dic=>exact absurd hp Bool.false_ne_true
end
theorem nR {p:PV}(h1:dv p=true)(h2:plain p=true):qg (ma p)=true:=by
 cases p<;>first|rfl|exact absurd h1 Bool.false_ne_true|exact absurd h2 Bool.false_ne_true
theorem GF {A:Around}{s:Shared}{y x:V}{u v:Value}(ry:RelV y u)(rx:RelV x v)(fy:qg y=true)(fx:qg x=true):RcAt A s u v (CM y x):=by
 cases y with
 |non=>
  cases ry
  cases x with
  |non=>cases rx;exact RcAt.none_none
  |bl b=>cases rx;exact RcAt.none_bool b
  |int b=>obtain⟨t,rfl⟩:=rx;exact RcAt.none_int b t
  |str b=>obtain⟨t,rfl⟩:=rx;exact RcAt.none_str b t
  |_=>exact absurd (show false=true from fx) Bool.false_ne_true
 |bl a=>
  cases ry
  cases x with
  |non=>cases rx;exact RcAt.bool_none a
  |bl b=>cases rx;exact RcAt.bool_bool a b
  |int b=>obtain⟨t,rfl⟩:=rx;exact RcAt.bool_int a b t
  |str b=>obtain⟨t,rfl⟩:=rx;exact RcAt.bool_str a b t
  |_=>exact absurd (show false=true from fx) Bool.false_ne_true
 |int a=>
  obtain⟨t',rfl⟩:=ry
  cases x with
  |non=>cases rx;exact RcAt.int_none a t'
  |bl b=>cases rx;exact RcAt.int_bool a t' b
  |int b=>obtain⟨t,rfl⟩:=rx;exact RcAt.int_int a t' b t
  |str b=>obtain⟨t,rfl⟩:=rx;exact RcAt.int_str a t' b t
  |_=>exact absurd (show false=true from fx) Bool.false_ne_true
 |str a=>
  obtain⟨t',rfl⟩:=ry
  cases x with
  |non=>cases rx;exact RcAt.str_none a t'
  |bl b=>cases rx;exact RcAt.str_bool a t' b
  |int b=>obtain⟨t,rfl⟩:=rx;exact RcAt.str_int a t' b t
  |str b=>obtain⟨t,rfl⟩:=rx;exact RcAt.str_str a t' b t
  |_=>exact absurd (show false=true from fx) Bool.false_ne_true
 |_=>exact absurd (show false=true from fy) Bool.false_ne_true
theorem FC {A:Around}{s:Shared}{y x:V}{u v:Value}(ry:RelV y u)(rx:RelV x v)(fy:qg y=true)(fx:qg x=true):RcNeAt A s u v (!CM y x):=by
 cases y with
 |non=>
  cases ry
  cases x with
  |non=>cases rx;exact RcNeAt.none_none
  |bl b=>cases rx;exact RcNeAt.none_bool b
  |int b=>obtain⟨t,rfl⟩:=rx;exact RcNeAt.none_int b t
  |str b=>obtain⟨t,rfl⟩:=rx;exact RcNeAt.none_str b t
  |_=>exact absurd (show false=true from fx) Bool.false_ne_true
 |bl a=>
  cases ry
  cases x with
  |non=>cases rx;exact RcNeAt.bool_none a
  |bl b=>cases rx;exact RcNeAt.bool_bool a b
  |int b=>obtain⟨t,rfl⟩:=rx;exact RcNeAt.bool_int a b t
  |str b=>obtain⟨t,rfl⟩:=rx;exact RcNeAt.bool_str a b t
  |_=>exact absurd (show false=true from fx) Bool.false_ne_true
 |int a=>
  obtain⟨t',rfl⟩:=ry
  cases x with
  |non=>cases rx;exact RcNeAt.int_none a t'
  |bl b=>cases rx;exact RcNeAt.int_bool a t' b
  |int b=>obtain⟨t,rfl⟩:=rx;exact RcNeAt.int_int a t' b t
  |str b=>obtain⟨t,rfl⟩:=rx;exact RcNeAt.int_str a t' b t
  |_=>exact absurd (show false=true from fx) Bool.false_ne_true
 |str a=>
  obtain⟨t',rfl⟩:=ry
  cases x with
  |non=>cases rx;exact RcNeAt.str_none a t'
  |bl b=>cases rx;exact RcNeAt.str_bool a t' b
  |int b=>obtain⟨t,rfl⟩:=rx;exact RcNeAt.str_int a t' b t
  |str b=>obtain⟨t,rfl⟩:=rx;exact RcNeAt.str_str a t' b t
  |_=>exact absurd (show false=true from fx) Bool.false_ne_true
 |_=>exact absurd (show false=true from fy) Bool.false_ne_true
theorem xG {p q:PV}(hp:dv p=true):iT p q=(dv q&&CM (ma p) (ma q)):=by
 cases p<;>first|rfl|exact absurd hp Bool.false_ne_true
mutual
theorem xa:∀{p:PV},plain p=true->iT p p=true
 |.non,_=>rfl
 |.bl b,_=>by simp[iT,dv,ma,CM]
 |.int b,_=>by simp[iT,dv,ma,CM]
 |.str b,_=>by simp[iT,dv,ma,CM]
 |.tup ps,h=>mC (ps:=ps) h
 |.lst ps,h=>mC (ps:=ps) h
 |.ty _,h=>absurd h Bool.false_ne_true
 |.fn _,h=>absurd h Bool.false_ne_true
 |.dct _ _,h=>absurd h Bool.false_ne_true
 |.src _,h=>absurd h Bool.false_ne_true
 |.ktu _,h=>absurd h Bool.false_ne_true
 |.rng _ _,h=>absurd h Bool.false_ne_true
theorem mC:∀{ps:List PV},aH ps=true->iG ps ps=true
 |[],_=>rfl
 |p::ps,h=>by
  rw[aH,Bool.and_eq_true] at h
  rw[iG,xa h.1,mC h.2];rfl
end
theorem Gz {h:Heap}{a:Addr}{x y:List Value}(h1:h.IsTuple a x.toArray)(h2:h.IsTuple a y.toArray):x=y:=by
 obtain⟨o,e,_,n,d⟩:=h1
 obtain⟨o',e',_,n',d'⟩:=h2
 rw[e] at e';cases e'
 rw[d] at d'
 injection d' with d1 _
 simpa using congrArg Array.toList d1
theorem EN {h:Heap}{a:Addr}{x y:List Value}(h1:h.IsList a x.toArray)(h2:h.IsList a y.toArray):x=y:=by
 obtain⟨o,e,_,n,d⟩:=h1
 obtain⟨o',e',_,n',d'⟩:=h2
 rw[e] at e';cases e'
 rw[d] at d'
 injection d' with d1 _
 simpa using congrArg Array.toList d1
mutual
theorem Dv.inj {s:Shared}:∀{p q:PV} {u:Value},plain p=true->plain q=true->Dv s p u->Dv s q u->p=q
 |.tup ps,q,_,hp,hq,⟨a,its,e,h1,h2⟩,d=>by
  subst e
  cases q with
  |tup qs=>
   obtain⟨a',its',e',h1',h2'⟩:=d
   cases e'
   have:=Gz h1 h1'
   subst this
   rw[Dvs.inj hp hq h2 h2']
  |lst qs=>
   obtain⟨a',its',e',h1',h2'⟩:=d
   cases e'
   exact absurd rfl (ne_of_list_tuple h1' h1)
  |non=>cases (show Value.ref a=_ from d)
  |bl b=>cases (show Value.ref a=_ from d)
  |int b=>obtain⟨t,e⟩:=d;cases e
  |str b=>obtain⟨t,e⟩:=d;cases e
  |_=>exact absurd hq Bool.false_ne_true
 |.lst ps,q,_,hp,hq,⟨a,its,e,h1,h2⟩,d=>by
  subst e
  cases q with
  |lst qs=>
   obtain⟨a',its',e',h1',h2'⟩:=d
   cases e'
   have:=EN h1 h1'
   subst this
   rw[Dvs.inj hp hq h2 h2']
  |tup qs=>
   obtain⟨a',its',e',h1',h2'⟩:=d
   cases e'
   exact absurd rfl (ne_of_list_tuple h1 h1')
  |non=>cases (show Value.ref a=_ from d)
  |bl b=>cases (show Value.ref a=_ from d)
  |int b=>obtain⟨t,e⟩:=d;cases e
  |str b=>obtain⟨t,e⟩:=d;cases e
  |_=>exact absurd hq Bool.false_ne_true
 |.non,q,_,hp,hq,d,d'=>by
  cases (show _=Value.none from d)
  cases q with
  |non=>rfl
  |bl b=>cases (show Value.none=_ from d')
  |int b=>obtain⟨t,e⟩:=d';cases e
  |str b=>obtain⟨t,e⟩:=d';cases e
  |tup qs=>obtain⟨a,its,e,_⟩:=d';cases e
  |lst qs=>obtain⟨a,its,e,_⟩:=d';cases e
  |_=>exact absurd hq Bool.false_ne_true
 |.bl x,q,_,hp,hq,d,d'=>by
  cases (show _=Value.bool x from d)
  cases q with
  |non=>cases (show Value.bool x=_ from d')
  |bl b=>cases (show Value.bool x=Value.bool b from d');rfl
  |int b=>obtain⟨t,e⟩:=d';cases e
  |str b=>obtain⟨t,e⟩:=d';cases e
  |tup qs=>obtain⟨a,its,e,_⟩:=d';cases e
  |lst qs=>obtain⟨a,its,e,_⟩:=d';cases e
  |_=>exact absurd hq Bool.false_ne_true
 |.int x,q,_,hp,hq,⟨t,d⟩,d'=>by
  subst d
  cases q with
  |non=>cases (show Value.int x t=_ from d')
  |bl b=>cases (show Value.int x t=Value.bool b from d')
  |int b=>obtain⟨t,e⟩:=d';cases e;rfl
  |str b=>obtain⟨t,e⟩:=d';cases e
  |tup qs=>obtain⟨a,its,e,_⟩:=d';cases e
  |lst qs=>obtain⟨a,its,e,_⟩:=d';cases e
  |_=>exact absurd hq Bool.false_ne_true
 |.str x,q,_,hp,hq,⟨t,d⟩,d'=>by
  subst d
  cases q with
  |non=>cases (show Value.str x t=_ from d')
  |bl b=>cases (show Value.str x t=Value.bool b from d')
  |int b=>obtain⟨t,e⟩:=d';cases e
  |str b=>obtain⟨t,e⟩:=d';cases e;rfl
  |tup qs=>obtain⟨a,its,e,_⟩:=d';cases e
  |lst qs=>obtain⟨a,its,e,_⟩:=d';cases e
  |_=>exact absurd hq Bool.false_ne_true
 |.ty _,_,_,h,_,_,_=>absurd h Bool.false_ne_true
 |.fn _,_,_,h,_,_,_=>absurd h Bool.false_ne_true
 |.dct _ _,_,_,h,_,_,_=>absurd h Bool.false_ne_true
 |.src _,_,_,h,_,_,_=>absurd h Bool.false_ne_true
 |.ktu _,_,_,h,_,_,_=>absurd h Bool.false_ne_true
 |.rng _ _,_,_,h,_,_,_=>absurd h Bool.false_ne_true
theorem Dvs.inj {s:Shared}:∀{ps qs:List PV} {us:List Value},aH ps=true->aH qs=true->Dvs s ps us->Dvs s qs us->ps=qs
 |[],qs,_,_,_,h,h'=>by
  cases (show _=[] from h)
  cases qs with
  |nil=>rfl
  |cons q qs=>obtain⟨u,r,e,_⟩:=h';cases e
 |p::ps,qs,_,hp,hq,⟨u,r,e,d1,d2⟩,h'=>by
  subst e
  cases qs with
  |nil=>cases (show _=[] from h')
  |cons q qs=>
   obtain⟨u',r',e',d1',d2'⟩:=h'
   cases e'
   rw[aH,Bool.and_eq_true] at hp hq
   rw[Dv.inj hp.1 hq.1 d1 d1',Dvs.inj hp.2 hq.2 d2 d2']
end
theorem Dv.flat' {s:Shared}{p:PV}{u:Value}(hf:dv p=true)(h:Dv s p u):RelV (ma p) u:=by
 cases p<;>first|exact h|exact absurd hf Bool.false_ne_true
theorem zB {s:Shared}{p q:PV}{A:Around}{u v:Value}(hf:dv p=true)(hp:plain p=true)(hq:plain q=true)(hd:A.units<cLine)(d:Dv s p u)(d':Dv s q v):RcAt A s u v (iT p q):=by
 rw[xG hf]
 cases hfq:dv q with
 |true=>
  rw[Bool.true_and]
  exact GF (d.flat' hf) (d'.flat' hfq) (nR hf hp) (nR hfq hq)
 |false=>
  rw[Bool.false_and]
  have dp:=d.flat' hf
  cases q with
  |tup qs=>
   obtain⟨b,its2,e',h1',h2'⟩:=d'
   subst e'
   cases p with
   |non=>cases dp;exact RcAt.none_tuple h1' hd
   |bl x=>cases dp;exact RcAt.bool_tuple x h1' hd
   |int x=>obtain⟨t,rfl⟩:=dp;exact RcAt.int_tuple x t h1' hd
   |str x=>obtain⟨t,rfl⟩:=dp;exact RcAt.str_tuple x t h1' hd
   |_=>first|exact absurd hf Bool.false_ne_true|exact absurd hp Bool.false_ne_true
  |lst qs=>
   obtain⟨b,its2,e',h1',h2'⟩:=d'
   subst e'
   cases p with
   |non=>cases dp;exact RcAt.none_list h1' hd
   |bl x=>cases dp;exact RcAt.bool_list x h1' hd
   |int x=>obtain⟨t,rfl⟩:=dp;exact RcAt.int_list x t h1' hd
   |str x=>obtain⟨t,rfl⟩:=dp;exact RcAt.str_list x t h1' hd
   |_=>first|exact absurd hf Bool.false_ne_true|exact absurd hp Bool.false_ne_true
  |_=>first|exact absurd hfq.symm Bool.false_ne_true|exact absurd hq Bool.false_ne_true
theorem wM {s:Shared}{p q:PV}{A:Around}{u v:Value}(hp:plain p=true)(hq:plain q=true)(d:Dv s p u)(d':Dv s q v)(hd:A.units<cLine)(rc:RcAt A s u v (iT p q)):EqAt A s u v (iT p q):=by
 by_cases h:u=v
 ·subst h
  obtain rfl:=Dv.inj hp hq d d'
  rw[xa hp]
  exact EqAt.same _
 ·intro prog w E Q hQ
  unfold eqBool
  refine wpAny_holding ?_
  refine wpAny_ite_split (fun hab=>absurd (eq_of_beq hab) h) (fun _=>?_)
  have nf:∀b t,u≠Value.float b t:=fun b t e=>by
   subst e
   cases p with
   |tup ps=>obtain⟨_,_,e,_⟩:=d;cases e
   |lst ps=>obtain⟨_,_,e,_⟩:=d;cases e
   |non=>cases (show _=Value.none from d)
   |bl x=>cases (show _=Value.bool x from d)
   |int x=>obtain⟨_,e⟩:=d;cases e
   |str x=>obtain⟨_,e⟩:=d;cases e
   |_=>exact absurd hp Bool.false_ne_true
  cases u with
  |float b t=>exact absurd rfl (nf b t)
  |_=>exact wpAny_bind (rc prog w E _ (wpAny_truthy_bool hQ))
mutual
theorem Jz {s:Shared}:∀{p q:PV} {A:Around} {u v:Value},plain p=true->plain q=true->A.units+oo p+1<cLine->Dv s p u->Dv s q v->RcAt A s u v (iT p q)
 |.tup ps,q,A,_,v,hp,hq,hd,⟨a,its,e,h1,h2⟩,d=>by
  subst e
  have l1:=h2.length
  cases q with
  |tup qs=>
   obtain⟨b,its2,e',h1',h2'⟩:=d
   subst e'
   have l2:=h2'.length
   have:=RcAt.tuples (A:=A) (s:=s) (e:=fun j=>iT (ps.getD j .non) (qs.getD j .non)) h1 h1' (by omega) (fun j k1 k2=>xI (ps:=ps) (qs:=qs) hp hq (by rw[oo] at hd;show A.units+1+cf ps+1<cLine;omega) h2 h2' j (by simp at k1;omega) (by simp at k2;omega) (by simpa using k1) (by simpa using k2))
   rw[List.size_toArray,List.size_toArray,l1,l2,jf] at this
   exact this
  |lst qs=>obtain⟨b,its2,e',h1',h2'⟩:=d;subst e';exact RcAt.tuple_list h1 h1' (by omega)
  |non=>cases (show _=Value.none from d);exact RcAt.tuple_none h1 (by omega)
  |bl b=>cases (show _=Value.bool b from d);exact RcAt.tuple_bool b h1 (by omega)
  |int b=>obtain⟨t,rfl⟩:=d;exact RcAt.tuple_int b t h1 (by omega)
  |str b=>obtain⟨t,rfl⟩:=d;exact RcAt.tuple_str b t h1 (by omega)
  |_=>exact absurd hq Bool.false_ne_true
 |.lst ps,q,A,_,v,hp,hq,hd,⟨a,its,e,h1,h2⟩,d=>by
  subst e
  have l1:=h2.length
  cases q with
  |lst qs=>
   obtain⟨b,its2,e',h1',h2'⟩:=d
   subst e'
   have l2:=h2'.length
   by_cases hl:ps.length=qs.length
   ·have:=RcAt.lists (A:=A) (s:=s) (e:=fun j=>iT (ps.getD j .non) (qs.getD j .non)) h1 h1' (by simp;omega) (by omega) (fun j k1 k2=>xI (ps:=ps) (qs:=qs) hp hq (by rw[oo] at hd;show A.units+1+cf ps+1<cLine;omega) h2 h2' j (by simp at k1;omega) (by simp at k2;omega) (by simpa using k1) (by simpa using k2))
    rw[List.size_toArray,l1,o8 hl] at this
    exact this
   ·have:=RcAt.lists_lengths (A:=A) (s:=s) h1 h1' (by simp;omega) (by omega)
    rw[←rO hl] at this
    exact this
  |tup qs=>obtain⟨b,its2,e',h1',h2'⟩:=d;subst e';exact RcAt.list_tuple h1 h1' (by omega)
  |non=>cases (show _=Value.none from d);exact RcAt.list_none h1 (by omega)
  |bl b=>cases (show _=Value.bool b from d);exact RcAt.list_bool b h1 (by omega)
  |int b=>obtain⟨t,rfl⟩:=d;exact RcAt.list_int b t h1 (by omega)
  |str b=>obtain⟨t,rfl⟩:=d;exact RcAt.list_str b t h1 (by omega)
  |_=>exact absurd hq Bool.false_ne_true
 |.non,q,A,u,v,hp,hq,hd,d,d'=>zB (p:=.non) rfl hp hq (by omega) d d'
 |.bl x,q,A,u,v,hp,hq,hd,d,d'=>zB (p:=.bl x) rfl hp hq (by omega) d d'
 |.int x,q,A,u,v,hp,hq,hd,d,d'=>zB (p:=.int x) rfl hp hq (by omega) d d'
 |.str x,q,A,u,v,hp,hq,hd,d,d'=>zB (p:=.str x) rfl hp hq (by omega) d d'
 |.ty _,_,_,_,_,h,_,_,_,_=>absurd h Bool.false_ne_true
 |.fn _,_,_,_,_,h,_,_,_,_=>absurd h Bool.false_ne_true
 |.dct _ _,_,_,_,_,h,_,_,_,_=>absurd h Bool.false_ne_true
 |.src _,_,_,_,_,h,_,_,_,_=>absurd h Bool.false_ne_true
 |.ktu _,_,_,_,_,h,_,_,_,_=>absurd h Bool.false_ne_true
 |.rng _ _,_,_,_,_,h,_,_,_,_=>absurd h Bool.false_ne_true
theorem xI {s:Shared}:∀{ps qs:List PV} {A:Around} {us vs:List Value},aH ps=true->aH qs=true->A.units+cf ps+1<cLine->Dvs s ps us->Dvs s qs vs →
  ∀(j:Nat),j<ps.length->j<qs.length->(h1:j<us.length)->(h2:j<vs.length)->EqAt A s us[j] vs[j] (iT (ps.getD j .non) (qs.getD j .non))
 |[],_,_,_,_,_,_,_,_,_,_,h,_,_,_=>absurd h (Nat.not_lt_zero _)
 |p::ps,qs,A,_,_,hp,hq,hd,⟨u,r,e,d1,d2⟩,d',j,k1,k2,h1,h2=>by
  subst e
  cases qs with
  |nil=>exact absurd k2 (Nat.not_lt_zero _)
  |cons q qs=>
   obtain⟨v,r',e',d1',d2'⟩:=d'
   subst e'
   rw[aH,Bool.and_eq_true] at hp hq
   rw[cf] at hd
   cases j with
   |zero=>
    show EqAt A s u v (iT p q)
    have rc:=Jz (p:=p) (q:=q) (A:=A) hp.1 hq.1 (by omega) d1 d1'
    exact wM hp.1 hq.1 d1 d1' (by omega) rc
   |succ j=>
    simp only[List.length_cons] at k1 k2 h1 h2
    have:=xI (ps:=ps) (qs:=qs) (A:=A) hp.2 hq.2 (by omega) d2 d2' j (by omega) (by omega) (by omega) (by omega)
    simpa using this
end
end Pu
end
section
namespace Pu
open PySem PySem.Spec L2 PySem.SeqAt
theorem Pj {s:Shared}{p q:PV}{A:Around}{u v:Value}(hp:plain p=true)(hq:plain q=true)(hd:A.units+oo p+1<cLine)(d:Dv s p u)(d':Dv s q v):RcNeAt A s u v (!iT p q):=by
 have hu:A.units<cLine:=by omega
 by_cases hf:dv p=true
 ·rw[xG hf]
  have dp:=d.flat' hf
  cases hfq:dv q with
  |true=>rw[Bool.true_and];exact FC dp (d'.flat' hfq) (nR hf hp) (nR hfq hq)
  |false=>
   rw[Bool.false_and]
   cases q with
   |tup qs=>
    obtain⟨b,its2,e',h1',h2'⟩:=d'
    subst e'
    cases p with
    |non=>cases dp;exact RcNeAt.none_tuple h1' hu
    |bl x=>cases dp;exact RcNeAt.bool_tuple x h1' hu
    |int x=>obtain⟨t,rfl⟩:=dp;exact RcNeAt.int_tuple x t h1' hu
    |str x=>obtain⟨t,rfl⟩:=dp;exact RcNeAt.str_tuple x t h1' hu
    |_=>first|exact absurd hf Bool.false_ne_true|exact absurd hp Bool.false_ne_true
   |lst qs=>
    obtain⟨b,its2,e',h1',h2'⟩:=d'
    subst e'
    cases p with
    |non=>cases dp;exact RcNeAt.none_list h1' hu
    |bl x=>cases dp;exact RcNeAt.bool_list x h1' hu
    |int x=>obtain⟨t,rfl⟩:=dp;exact RcNeAt.int_list x t h1' hu
    |str x=>obtain⟨t,rfl⟩:=dp;exact RcNeAt.str_list x t h1' hu
    |_=>first|exact absurd hf Bool.false_ne_true|exact absurd hp Bool.false_ne_true
   |_=>first|exact absurd hfq.symm Bool.false_ne_true|exact absurd hq Bool.false_ne_true
 ·cases p with
  |tup ps=>
   obtain⟨a,its,e,h1,h2⟩:=d
   subst e
   have l1:=h2.length
   cases q with
   |tup qs=>
    obtain⟨b,its2,e',h1',h2'⟩:=d'
    subst e'
    have l2:=h2'.length
    have:=RcNeAt.tuples (A:=A) (s:=s) (e:=fun j=>iT (ps.getD j .non) (qs.getD j .non)) h1 h1' (by omega) (fun j k1 k2=>xI (ps:=ps) (qs:=qs) hp hq (by rw[oo] at hd;show A.units+1+cf ps+1<cLine;omega) h2 h2' j (by simp at k1;omega) (by simp at k2;omega) (by simpa using k1) (by simpa using k2))
    rw[List.size_toArray,List.size_toArray,l1,l2,jf] at this
    exact this
   |lst qs=>obtain⟨b,its2,e',h1',h2'⟩:=d';subst e';exact RcNeAt.tuple_list h1 h1' hu
   |non=>cases (show _=Value.none from d');exact RcNeAt.tuple_none h1 hu
   |bl b=>cases (show _=Value.bool b from d');exact RcNeAt.tuple_bool b h1 hu
   |int b=>obtain⟨t,rfl⟩:=d';exact RcNeAt.tuple_int b t h1 hu
   |str b=>obtain⟨t,rfl⟩:=d';exact RcNeAt.tuple_str b t h1 hu
   |_=>exact absurd hq Bool.false_ne_true
  |lst ps=>
   obtain⟨a,its,e,h1,h2⟩:=d
   subst e
   have l1:=h2.length
   cases q with
   |lst qs=>
    obtain⟨b,its2,e',h1',h2'⟩:=d'
    subst e'
    have l2:=h2'.length
    by_cases hl:ps.length=qs.length
    ·have:=RcNeAt.lists (A:=A) (s:=s) (e:=fun j=>iT (ps.getD j .non) (qs.getD j .non)) h1 h1' (by simp;omega) (by omega) (fun j k1 k2=>xI (ps:=ps) (qs:=qs) hp hq (by rw[oo] at hd;show A.units+1+cf ps+1<cLine;omega) h2 h2' j (by simp at k1;omega) (by simp at k2;omega) (by simpa using k1) (by simpa using k2))
     rw[List.size_toArray,l1,o8 hl] at this
     exact this
    ·have:=RcNeAt.lists_lengths (A:=A) (s:=s) h1 h1' (by simp;omega) (by omega)
     rw[show true=!iG ps qs by rw[rO hl];rfl] at this
     exact this
   |tup qs=>obtain⟨b,its2,e',h1',h2'⟩:=d';subst e';exact RcNeAt.list_tuple h1 h1' hu
   |non=>cases (show _=Value.none from d');exact RcNeAt.list_none h1 hu
   |bl b=>cases (show _=Value.bool b from d');exact RcNeAt.list_bool b h1 hu
   |int b=>obtain⟨t,rfl⟩:=d';exact RcNeAt.list_int b t h1 hu
   |str b=>obtain⟨t,rfl⟩:=d';exact RcNeAt.list_str b t h1 hu
   |_=>exact absurd hq Bool.false_ne_true
  |_=>first|exact absurd rfl hf|exact absurd hp Bool.false_ne_true
section
variable {X:Cx}{a b c e:Expr}{pos:Pos}{ta tb te:gU}
noncomputable def Ge (K:PySem.W.Frag)(f:Bool->Bool):R2:=fun x y H Q=>∃F p q,Same F H/\RdV K F H p x/\RdV K F H q y/\plain p=true/\plain q=true/\oo p≤50/\Q (.bl (f (iT p q))) H
theorem K8 (hu:X.A.units+64<cLine):mw X (compareOp .Eq) (Ge X.K id):=by
 intro pins s σ H x y v u Q I rx ry ⟨F,p,q,sf,r1,r2,hp,hq,hd,k⟩
 exact Jz (A:=X.A) hp hq (by omega) (sY I sf hp r1 rx) (sY I sf hq r2 ry) _ _ _ _ ⟨.bl _,H,I,rfl,k⟩
theorem LT (hu:X.A.units+64<cLine):mw X (compareOp .NotEq) (Ge X.K (!·)):=by
 intro pins s σ H x y v u Q I rx ry ⟨F,p,q,sf,r1,r2,hp,hq,hd,k⟩
 exact Pj (A:=X.A) hp hq (by omega) (sY I sf hp r1 rx) (sY I sf hq r2 ry) _ _ _ _ ⟨.bl _,H,I,rfl,k⟩
noncomputable def Qd:mI:=fun x y Q=>plain x=true/\plain y=true/\oo x≤50/\Q (.bl (iT x y))
noncomputable def Qh:mI:=fun x y Q=>plain x=true/\plain y=true/\oo x≤50/\Q (.bl (!iT x y))
theorem Nc:jk X.K (Ge X.K id) Qd:=fun F H x y p q Qp Q s rx ry h k=>⟨F,p,q,s,rx,ry,h.1,h.2.1,h.2.2.1,k _ _ F H h.2.2.2 (.refl s) rfl⟩
theorem NN:jk X.K (Ge X.K (!·)) Qh:=fun F H x y p q Qp Q s rx ry h k=>⟨F,p,q,s,rx,ry,h.1,h.2.1,h.2.2.1,k _ _ F H h.2.2.2 (.refl s) rfl⟩
open Classical in
noncomputable def IP (s:Shared)(q:PV)(u:Value):Bool:=if h:∃p,plain p=true/\Dv s p u then iT h.choose q else false
theorem Cq {s:Shared}{q p:PV}{u:Value}(hp:plain p=true)(d:Dv s p u):IP s q u=iT p q:=by
 have h:∃p,plain p=true/\Dv s p u:=⟨p,hp,d⟩
 unfold IP
 rw[dif_pos h,Dv.inj h.choose_spec.1 hp h.choose_spec.2 d]
theorem oj {s:Shared}{q:PV}:∀{ps:List PV} {us:List Value},aH ps=true->Dvs s ps us->us.any (IP s q)=ps.any fun p=>iT p q
 |[],_,_,h=>by rw[show _=[] from h];rfl
 |p::ps,_,hp,⟨u,r,e,d1,d2⟩=>by
  subst e
  rw[aH,Bool.and_eq_true] at hp
  rw[List.any_cons,List.any_cons,Cq hp.1 d1,oj hp.2 d2]
theorem nP {s:Shared}{A:Around}{q:PV}{v:Value}(hq:plain q=true)(dq:Dv s q v):∀{ps:List PV} {us:List Value},aH ps=true->A.units+cf ps+1<cLine->Dvs s ps us->∀u∈us,EqAt A s u v (IP s q u)
 |[],_,_,_,h,u,hu=>by rw[show _=[] from h] at hu;cases hu
 |p::ps,_,hp,hd,⟨u',r,e,d1,d2⟩,u,hu=>by
  subst e
  rw[aH,Bool.and_eq_true] at hp
  rw[cf] at hd
  rcases List.mem_cons.mp hu with rfl|hu
  ·rw[Cq hp.1 d1]
   exact wM hp.1 hq d1 dq (by omega) (Jz hp.1 hq (by omega) d1 dq)
  ·exact nP hq dq hp.2 (by omega) d2 u hu
noncomputable def pin (x:PV)(ps:List PV):Bool:=ps.any fun p=>iT p x
noncomputable def Fe (K:PySem.W.Frag)(f:Bool->Bool):R2:=fun x y H Q=>∃F q a vs ps,y=.ref a/\Same F H/\RdV K F H q x/\(SqL K H a vs\/SqT K H a vs)/\Reps K F ps vs/\plain q=true/\aH ps=true/\cf ps≤50/\Q (.bl (f (pin q ps))) H
theorem Le (hu:X.A.units+64<cLine):mw X (compareOp .In) (Fe X.K id):=by
 intro pins s σ H x y v u Q I rx ry ⟨F,q,a,vs,ps,ey,sf,rq,hs,rs,hq,hp,hd,k⟩
 subst ey
 cases ry
 have dq:=sY I sf hq rq rx
 rcases hs with hs|hs
 ·obtain⟨its,rv,pl,hz⟩:=I.list hs
  have ds:=lq I sf hp rs rv
  refine in_listAt (IP s q) pl.isList (fun y hy=>nP hq dq hp (by show X.A.units+1+cf ps+1<cLine;omega) ds y (by simpa using hy)) ?_
  rw[List.any_toArray,oj hp ds]
  exact⟨.bl _,H,I,rfl,k⟩
 ·obtain⟨its,rv,pl,hz⟩:=I.tuple hs
  have ds:=lq I sf hp rs rv
  refine in_tupleAt (IP s q) pl (fun y hy=>nP hq dq hp (by show X.A.units+1+cf ps+1<cLine;omega) ds y (by simpa using hy)) ?_
  rw[List.any_toArray,oj hp ds]
  exact⟨.bl _,H,I,rfl,k⟩
theorem BF (hu:X.A.units+64<cLine):mw X (compareOp .NotIn) (Fe X.K (!·)):=by
 intro pins s σ H x y v u Q I rx ry ⟨F,q,a,vs,ps,ey,sf,rq,hs,rs,hq,hp,hd,k⟩
 subst ey
 cases ry
 have dq:=sY I sf hq rq rx
 rcases hs with hs|hs
 ·obtain⟨its,rv,pl,hz⟩:=I.list hs
  have ds:=lq I sf hp rs rv
  refine notIn_listAt (IP s q) pl.isList (fun y hy=>nP hq dq hp (by show X.A.units+1+cf ps+1<cLine;omega) ds y (by simpa using hy)) ?_
  rw[List.any_toArray,oj hp ds]
  exact⟨.bl _,H,I,rfl,k⟩
 ·obtain⟨its,rv,pl,hz⟩:=I.tuple hs
  have ds:=lq I sf hp rs rv
  refine notIn_tupleAt (IP s q) pl (fun y hy=>nP hq dq hp (by show X.A.units+1+cf ps+1<cLine;omega) ds y (by simpa using hy)) ?_
  rw[List.any_toArray,oj hp ds]
  exact⟨.bl _,H,I,rfl,k⟩
noncomputable def P8:mI:=fun x y Q=>OkS y fun ps=>plain x=true/\aH ps=true/\cf ps≤50/\Q (.bl (pin x ps))
noncomputable def B6:mI:=fun x y Q=>OkS y fun ps=>plain x=true/\aH ps=true/\cf ps≤50/\Q (.bl (!pin x ps))
theorem M5:jk X.K (Fe X.K id) P8:=fun F H x y p q Qp Q s rx ry h k=>by
 obtain⟨a,vs,ps,rfl,hs,_,rs,h⟩:=OkS.rd h s ry
 exact⟨F,p,a,vs,ps,rfl,s,rx,hs,rs,h.1,h.2.1,h.2.2.1,k _ _ F H h.2.2.2 (.refl s) rfl⟩
theorem Cd:jk X.K (Fe X.K (!·)) B6:=fun F H x y p q Qp Q s rx ry h k=>by
 obtain⟨a,vs,ps,rfl,hs,_,rs,h⟩:=OkS.rd h s ry
 exact⟨F,p,a,vs,ps,rfl,s,rx,hs,rs,h.1,h.2.1,h.2.2.1,k _ _ F H h.2.2.2 (.refl s) rfl⟩
end
end Pu
end
section
namespace Pu
open PySem PySem.Spec L2
section
variable {X:Cx}{a b c e:Expr}{pos:Pos}{ta tb te:gU}{t:la}
noncomputable abbrev A0:=List PV->(PV->Prop)->Prop
noncomputable abbrev Iw:=List PV->(List PV->Prop)->Prop
noncomputable def rg (K:PySem.W.Frag)(r:List V->Hp->VK->Prop)(g:A0):Prop:=∀F H xs ps (Qp:PV->Prop) (Q:VK),Same F H->RdVs K F H ps xs->g ps Qp->(∀z v F' H',Qp z->Grow F H F' H'->Rep K F' z v->Q v H')->r xs H Q
noncomputable def AY (K:PySem.W.Frag)(r:List V->Hp->VK->Prop)(g:Iw):Prop:=∀F H xs ps (Qp:List PV->Prop) (Q:VK),Same F H->RdVs K F H ps xs->g ps Qp->(∀zs a vs F' H',Qp zs->Grow F H F' H'->H a=none->F' a=none->H' a=some (.lst vs)->Reps K F' zs vs->Q (.ref a) H')->r xs H Q
noncomputable def QS (g:A0)(t:la):gU:=fun ρ Q=>t ρ fun ps=>g ps Q
noncomputable def QY (g:Iw)(t:la):vj:=fun ρ Q=>t ρ fun ps=>g ps Q
theorem M1 {r:List V->Hp->VK->Prop}{g:A0}(hr:rg X.K r g)(h:PE X e (kU r (lAT X.K t))):iY X e (QS g t):=PE.weak h fun σ H Q hh_=>hh_.elim fun F ρ Qp er q k=>⟨F,ρ,_,er,q,fun ps vs F1 H1 h1 g1 r1=>
 hr F1 H1 vs ps Qp Q g1.fh r1 h1 fun z v F2 H2 h2 g2 r2=>k z v F2 H2 h2 (g1.trans g2) r2⟩
theorem Cg {r:List V->Hp->VK->Prop}{g:Iw}(hr:AY X.K r g)(h:PE X e (kU r (lAT X.K t))):yv X e (QY g t):=PE.weak h fun σ H Q hh_=>hh_.elim fun F ρ Qp er q k=>⟨F,ρ,_,er,q,fun ps vs F1 H1 h1 g1 r1=>
 hr F1 H1 vs ps Qp Q g1.fh r1 h1 fun zs a vs F2 H2 h2 g2 h0 hF hH r2=>k zs a vs F2 H2 h2 (g1.trans g2) (g1.hh.free h0) hF hH r2⟩
noncomputable def One (ps:List PV)(Q:PV->Prop):Prop:=match ps with
 |[p]=>Q p
 |_=>False
noncomputable def Two (ps:List PV)(Q:PV->PV->Prop):Prop:=match ps with
 |[p,q]=>Q p q
 |_=>False
theorem One.rd {K:PySem.W.Frag}{F H:Hp}{ps:List PV}{xs:List V}{Q:PV->Prop}(h:One ps Q)(r:RdVs K F H ps xs):∃p v,ps=[p]/\xs=[v]/\RdV K F H p v/\Q p:=by
 unfold One at h
 split at h
 ·cases r with
  |cons r1 r2=>cases r2;exact⟨_,_,rfl,rfl,r1,h⟩
 ·exact h.elim
theorem Two.rd {K:PySem.W.Frag}{F H:Hp}{ps:List PV}{xs:List V}{Q:PV->PV->Prop}(h:Two ps Q)(r:RdVs K F H ps xs):∃p v p2 v2,ps=[p,p2]/\xs=[v,v2]/\RdV K F H p v/\RdV K F H p2 v2/\Q p p2:=by
 unfold Two at h
 split at h
 ·cases r with
  |cons r1 r2=>cases r2 with
   |cons r2 r3=>cases r3;exact⟨_,_,_,_,rfl,rfl,r1,r2,h⟩
 ·exact h.elim
noncomputable def Me:A0:=fun ps Q=>One ps fun p=>match p with
 |.str z=>z.length≤sizeLine/\Q (.int z.length)
 |p=>OkS p fun ps=>Q (.int ps.length)
theorem jg:rg X.K (fun xs H Q=>∃x n,xs=[x]/\Lj X.K x H n/\Q (.int n) H) Me:=fun F H xs ps Qp Q s r h k=>by
 obtain⟨p,v,rfl,rfl,r,h⟩:=h.rd r
 by_cases hz:∃z,p=.str z
 ·obtain⟨z,rfl⟩:=hz
  cases r with
  |frz r=>cases (show v=.str z from r);exact⟨_,z.length,rfl,⟨h.1,rfl⟩,k _ _ F H h.2 (.refl s) rfl⟩
 ·have h':OkS p fun ps=>Qp (.int ps.length):=by
   cases p<;>first|exact h|exact absurd ⟨_,rfl⟩ hz
  obtain⟨a,vs,ps,rfl,hs,_,rs,h⟩:=h'.rd s r
  refine⟨_,vs.length,rfl,?_,k _ _ F H h (.refl s) (by rw[rs.length];rfl)⟩
  rcases hs with hs|hs
  ·exact .inl ⟨vs,hs,rfl⟩
  ·exact .inr ⟨vs,hs,rfl⟩
noncomputable def Nb:A0:=fun ps Q=>One ps fun p=>OkI p fun i=>Q (.int (if i<0 then -i else i))
theorem J8:rg X.K (fun xs H Q=>∃i,xs=[.int i]/\Q (.int (if i<0 then -i else i)) H) Nb:=fun F H xs ps Qp Q s r h k=>by
 obtain⟨p,v,rfl,rfl,r,h⟩:=h.rd r
 obtain⟨i,rfl,rfl,h⟩:=h.rd r
 exact⟨i,rfl,k _ _ F H h (.refl s) rfl⟩
noncomputable def IN:A0:=fun ps Q=>Two ps fun p q=>OkI p fun i=>OkI q fun j=>Q (.int (if j<i then j else i))
theorem FV:rg X.K (fun xs H Q=>∃i j,xs=[.int i,.int j]/\Q (.int (if j<i then j else i)) H) IN:=fun F H xs ps Qp Q s r h k=>by
 obtain⟨p,v,p2,v2,rfl,rfl,r,r2,h⟩:=h.rd r
 obtain⟨i,rfl,rfl,h⟩:=h.rd r
 obtain⟨j,rfl,rfl,h⟩:=h.rd r2
 exact⟨i,j,rfl,k _ _ F H h (.refl s) rfl⟩
noncomputable def MJ:A0:=fun ps Q=>One ps fun p=>match p with
 |.bl k=>Q (.int (if k then 1 else 0))
 |p=>OkI p fun i=>Q (.int i)
theorem qV:rg X.K (fun xs H Q=>(∃i,xs=[.int i]/\Q (.int i) H)\/∃k,xs=[.bl k]/\Q (.int (if k then 1 else 0)) H) MJ:=fun F H xs ps Qp Q s r h k=>by
 obtain⟨p,v,rfl,rfl,r,h⟩:=h.rd r
 by_cases hz:∃z,p=.bl z
 ·obtain⟨z,rfl⟩:=hz
  obtain⟨b,e,rfl,h⟩:=OkB.rd (p:=.bl z) (Q:=fun z=>Qp (.int (if z then 1 else 0))) h r
  exact .inr ⟨b,rfl,k _ _ F H h (.refl s) rfl⟩
 ·have h':OkI p fun i=>Qp (.int i):=by
   cases p<;>first|exact h|exact absurd ⟨_,rfl⟩ hz
  obtain⟨i,rfl,rfl,h⟩:=h'.rd r
  exact .inl ⟨i,rfl,k _ _ F H h (.refl s) rfl⟩
noncomputable def OkBs:List PV->(List Bool->Prop)->Prop
 |[],Q=>Q []
 |p::ps,Q=>OkB p fun b=>OkBs ps fun bs=>Q (b::bs)
theorem CW (bs:List Bool)(Q:List Bool->Prop):OkBs (bs.map PV.bl) Q=Q bs:=by
 induction bs generalizing Q with
 |nil=>rfl
 |cons b r ih=>
  show OkBs (r.map PV.bl) (fun bs=>Q (b::bs))=_
  rw[ih]
theorem OkBs.rd {K:PySem.W.Frag}{F:Hp}:∀{ps:List PV} {vs:List V} {Q:List Bool->Prop},OkBs ps Q->Reps K F ps vs->∃bs,vs=bs.map V.bl/\ps=bs.map PV.bl/\Q bs
 |[],_,_,h,r=>⟨[],r,rfl,h⟩
 |p::ps,_,Q,h,⟨v,t,e,r1,r2⟩=>by
  subst e
  obtain⟨b,rfl,rfl,h⟩:=OkB.rd (H:=F) h (.frz r1)
  obtain⟨bs,rfl,rfl,h'⟩:=OkBs.rd h r2
  exact⟨b::bs,rfl,rfl,h'⟩
noncomputable def MG:A0:=fun ps Q=>One ps fun p=>OkL p fun ps=>OkBs ps fun bs=>Q (.bl (bs.all id))
theorem Ky:rg X.K (fun xs H Q=>∃(p:Addr) (bs:List Bool),xs=[.ref p]/\SqL X.K H p (bs.map V.bl)/\Q (.bl (bs.all id)) H) MG:=fun F H xs ps Qp Q s r h k=>by
 obtain⟨p,v,rfl,rfl,r,h⟩:=h.rd r
 obtain⟨a,vs,ps,rfl,hs,rs,h⟩:=h.rd s r
 obtain⟨bs,rfl,rfl,h'⟩:=h.rd rs
 exact⟨a,bs,rfl,hs,k (.bl _) _ F H h' (.refl s) rfl⟩
noncomputable def Mv:A0:=fun ps Q=>One ps fun p=>match p with
 |.tup ps=>Q (.tup ps)
 |p=>OkL p fun ps=>Q (.tup ps)
theorem jA:rg X.K (fun xs H Q=>∃p ys,xs=[.ref p]/\((SqL X.K H p ys/\∀l,H l=none->Q (.ref l) (upd H l (.tup ys)))\/(SqT X.K H p ys/\Q (.ref p) H))) Mv:=fun F H xs ps Qp Q s r h k=>by
 obtain⟨p,v,rfl,rfl,r,h⟩:=h.rd r
 by_cases hz:∃z,p=.tup z
 ·obtain⟨z,rfl⟩:=hz
  cases r with
  |frz r=>
   obtain⟨a,vs,rfl,e,rs⟩:=r
   exact⟨a,vs,rfl,.inr ⟨SqT.of (s _ _ e),k _ _ F H h (.refl s) ⟨a,vs,rfl,e,rs⟩⟩⟩
 ·have h':OkL p fun ps=>Qp (.tup ps):=by
   cases p<;>first|exact h|exact absurd ⟨_,rfl⟩ hz
  obtain⟨a,vs,ps,rfl,hs,rs,h⟩:=h'.rd s r
  exact⟨a,vs,rfl,.inl ⟨hs,fun l hl=>k _ _ _ _ h (.new s hl _) ⟨l,vs,rfl,aq,rs.mono (bU (s.free hl) _)⟩⟩⟩
noncomputable def Mu:Iw:=fun ps Q=>One ps fun p=>OkS p Q
theorem IY:AY X.K (fun xs H Q=>∃p ys,xs=[.ref p]/\(SqL X.K H p ys\/SqT X.K H p ys)/\∀l,H l=none->Q (.ref l) (upd H l (.lst ys))) Mu:=fun F H xs ps Qp Q s r h k=>by
 obtain⟨p,v,rfl,rfl,r,h⟩:=h.rd r
 obtain⟨a,vs,ps,rfl,hs,_,rs,h⟩:=h.rd s r
 exact⟨a,vs,rfl,hs,fun l hl=>k ps l vs F _ h (.newO s hl _) hl (s.free hl) aq rs⟩
noncomputable def vQ (lo:Int)(n:Nat):List PV:=(List.range n).map fun i:Nat=>PV.int (lo+i)
theorem o0 {K:PySem.W.Frag}{F:Hp}:∀(l:List Nat),Reps K F (l.map fun i:Nat=>PV.int (0+i)) (l.map fun i:Nat=>V.int (i:Int))
 |[]=>rfl
 |x::l=>⟨_,_,rfl,by show Rep K F (PV.int (0+(x:Int))) (V.int x);rw[Int.zero_add];rfl,o0 l⟩
noncomputable def Mq:A0:=fun ps Q=>One ps fun p=>OkI p fun j=>-(2 ^ 62)≤j/\j<2 ^ 62/\Q (.rng 0 j)
theorem x5:rg X.K Iv Mq:=fun F H xs ps Qp Q s r h k=>by
 obtain⟨p,v,rfl,rfl,r,h⟩:=h.rd r
 obtain⟨j,rfl,rfl,h1,h2,h⟩:=h.rd r
 exact⟨j,rfl,h1,h2,fun p hp=>k _ _ _ _ h (.new s hp _) ⟨p,rfl,aq⟩⟩
noncomputable def P6:PV->(Int->Prop)->Prop
 |.rng lo j,Q=>lo=0/\Q j
 |_,_=>False
noncomputable def ID:Iw:=fun ps Q=>One ps fun p=>P6 p fun j=>0≤j/\j≤1000000/\Q (vQ 0 j.toNat)
theorem Gr:AY X.K (fun xs H Q=>∃p j,xs=[.ref p]/\H p=some (.rng 0 j)/\0≤j/\j≤1000000/\∀l,H l=none->Q (.ref l) (upd H l (.lst (qm j.toNat)))) ID:=fun F H xs ps Qp Q s r h k=>by
 obtain⟨p,v,rfl,rfl,r,h⟩:=h.rd r
 cases p<;>first|exact h.elim|skip
 obtain⟨rfl,h1,h2,h⟩:=h
 cases r with
 |frz r=>
  obtain⟨a,rfl,e⟩:=r
  exact⟨a,_,rfl,s _ _ e,h1,h2,fun l hl=>k _ l _ F _ h (.newO s hl _) hl (s.free hl) aq (o0 _)⟩
noncomputable def Oi (n:String):PV->Option Bool
 |.non=>some false
 |.bl _=>some (n == "bool" || n == "int")
 |.int _=>some (n == "int")
 |.str _=>some (n == "str")
 |.tup _=>some (n == "tuple")
 |.lst _=>some (n == "list")
 |.dct _ _=>some (n == "dict")
 |_=>none
noncomputable def O1:PV->(String->Prop)->Prop
 |.ty n,Q=>Q n
 |_,_=>False
noncomputable def Mo:A0:=fun ps Q=>Two ps fun p q=>O1 q fun n=>(n = "int"\/n = "bool"\/n = "str"\/n = "tuple"\/n = "list"\/n = "dict")/\OkO (Oi n p) fun b=>Q (.bl b)
theorem mr:rg X.K (fun xs H Q=>∃x n t b,xs=[x,.ty n]/\TyOf X.K H x t/\PySem.W.kitOne X.K t (.type n)=some b/\Q (.bl b) H) Mo:=fun F H xs ps Qp Q s r h k=>by
 obtain⟨p,v,p2,v2,rfl,rfl,r1,r2,h⟩:=h.rd r
 clear r
 obtain⟨n,rfl,hn,h⟩:∃n,p2=.ty n/\(n = "int"\/n = "bool"\/n = "str"\/n = "tuple"\/n = "list"\/n = "dict")/\OkO (Oi n p) fun b=>Qp (.bl b):=by
  cases p2 with
  |ty n=>exact⟨n,rfl,h⟩
  |_=>exact h.elim
 obtain⟨b,e,h⟩:=h.ex
 cases r2 with
 |frz r2=>
  cases (show v2=.ty n from r2)
  have fin:∀t,TyOf X.K H v t->PySem.W.kitOne X.K t (.type n)=some b->∃x n' t b,[v,V.ty n]=[x,.ty n']/\TyOf X.K H x t/\PySem.W.kitOne X.K t (.type n')=some b/\Q (.bl b) H:=fun t h1 h2=>⟨v,n,t,b,rfl,h1,h2,k _ _ F H h (.refl s) rfl⟩
  cases r1 with
  |frz r=>
   cases p with
   |non=>cases (show v=_ from r);refine fin _ .non ?_;rcases hn with rfl|rfl|rfl|rfl|rfl|rfl<;>exact e
   |bl x=>cases (show v=_ from r);refine fin _ (.bl x) ?_;rcases hn with rfl|rfl|rfl|rfl|rfl|rfl<;>exact e
   |int x=>cases (show v=_ from r);refine fin _ (.int x) ?_;rcases hn with rfl|rfl|rfl|rfl|rfl|rfl<;>exact e
   |str x=>cases (show v=_ from r);refine fin _ (.str x) ?_;rcases hn with rfl|rfl|rfl|rfl|rfl|rfl<;>exact e
   |tup x=>obtain⟨a,vs,rfl,e',_⟩:=r;refine fin _ (.tup (s _ _ e')) ?_;rcases hn with rfl|rfl|rfl|rfl|rfl|rfl<;>exact e
   |lst x=>obtain⟨a,vs,rfl,e',_⟩:=r;refine fin _ (.lst (s _ _ e')) ?_;rcases hn with rfl|rfl|rfl|rfl|rfl|rfl<;>exact e
   |dct x y=>obtain⟨a,vs,rfl,e',_⟩:=r;refine fin _ (.dK (s _ _ e')) ?_;rcases hn with rfl|rfl|rfl|rfl|rfl|rfl<;>exact e
   |_=>cases e
  |own h1 h2 h3=>refine fin _ (.lst h1) ?_;rcases hn with rfl|rfl|rfl|rfl|rfl|rfl<;>exact e
  |dic h1 h2 h3 h4=>refine fin _ (.dK h1) ?_;rcases hn with rfl|rfl|rfl|rfl|rfl|rfl<;>exact e
end
end Pu
end
section
namespace Pu
open PySem PySem.Spec L2
noncomputable abbrev vS:=PV->aC->(aC->Prop)->Prop
noncomputable abbrev uR:=List PV->aC->(aC->Prop)->Prop
inductive VUpd (K:PySem.W.Frag) (F:Hp):L2.St->aC->L2.St->aC->Prop where
 |refl {σ:L2.St} {ρ:aC}:VUpd K F σ ρ σ ρ
 |step {σ σ1:L2.St} {ρ ρ1:aC} {i:Nat} {p:PV} {v:V}:VUpd K F σ ρ σ1 ρ1->Rep K F p v->VUpd K F σ ρ (σ1.set i (some v)) (ρ1.set i (some (.val p)))
theorem VUpd.trans {K:PySem.W.Frag}{F:Hp}{σ σ1 σ2:L2.St}{ρ ρ1 ρ2:aC}(a:VUpd K F σ ρ σ1 ρ1)(b:VUpd K F σ1 ρ1 σ2 ρ2):VUpd K F σ ρ σ2 ρ2:=by
 induction b with
 |refl=>exact a
 |step _ r ih=>exact .step (ih a) r
theorem ER.set {K:PySem.W.Frag}{F H:Hp}{σ:L2.St}{ρ:aC}(h:ER K F H σ ρ){i:Nat}{v:V}{s:Sl}(r:SlR K F H (some v) (some s)):ER K F H (σ.set i (some v)) (ρ.set i (some s)):=by
 refine⟨h.fz,by rw[List.length_set,List.length_set];exact h.len,fun j s' e=>?_⟩
 by_cases hij:i=j
 ·subst hij
  have hi:i<ρ.length:=by
   have:=(List.getElem?_eq_some_iff.mp e).1
   rwa [List.length_set] at this
  rw[List.getElem?_set_self hi] at e
  rw[List.getElem?_set_self (by rw[h.len];exact hi)]
  cases e
  exact r
 ·rw[List.getElem?_set_ne hij] at e ⊢
  exact h.sl j s' e
theorem ER.upd {K:PySem.W.Frag}{F H:Hp}{σ σ':L2.St}{ρ ρ':aC}(h:ER K F H σ ρ)(u:VUpd K F σ ρ σ' ρ'):ER K F H σ' ρ':=by
 induction u with
 |refl=>exact h
 |step _ r ih=>exact (ih h).set r
noncomputable def ke (K:PySem.W.Frag)(g0:TG)(g:vS):Prop:=∀F H σ ρ p v (Qp:aC->Prop) (Q:L2.St->Hp->Prop),Same F H->Rep K F p v->g p ρ Qp->(∀σ' ρ',Qp ρ'->VUpd K F σ ρ σ' ρ'->Q σ' H)->g0 v σ H Q
noncomputable def mT (K:PySem.W.Frag)(g0:zS)(g:uR):Prop:=∀F H σ ρ ps vs (Qp:aC->Prop) (Q:L2.St->Hp->Prop),Same F H->Reps K F ps vs->g ps ρ Qp->(∀σ' ρ',Qp ρ'->VUpd K F σ ρ σ' ρ'->Q σ' H)->g0 vs σ H Q
noncomputable def Nl (i:Nat):vS:=fun p ρ Q=>Q (ρ.set i (some (.val p)))
noncomputable def OB:uR:=fun ps ρ Q=>match ps with
 |[]=>Q ρ
 |_=>False
noncomputable def Ml (g:vS)(gs:uR):uR:=fun ps ρ Q=>match ps with
 |p::ps=>g p ρ fun ρ'=>gs ps ρ' Q
 |[]=>False
noncomputable def OO (n:Nat)(gs:uR):vS:=fun p ρ Q=>OkT p fun ps=>ps.length=n/\gs ps ρ Q
theorem FM {K:PySem.W.Frag}{i:Nat}:ke K (bf i) (Nl i):=fun F H σ ρ p v Qp Q s r h k=>k _ _ h (.step .refl r)
theorem K2 {K:PySem.W.Frag}:mT K gD OB:=fun F H σ ρ ps vs Qp Q s r h k=>by
 cases ps with
 |nil=>exact⟨r,k _ _ h .refl⟩
 |cons p ps=>exact h.elim
theorem FU {K:PySem.W.Frag}{g0:TG}{g:vS}{gs0:zS}{gs:uR}(h1:ke K g0 g)(h2:mT K gs0 gs):mT K (cC g0 gs0) (Ml g gs):=fun F H σ ρ ps vs Qp Q s r h k=>by
 cases ps with
 |nil=>exact h.elim
 |cons p ps=>
  obtain⟨v,t,rfl,r1,r2⟩:=r
  exact⟨v,t,rfl,h1 F H σ ρ p v _ _ s r1 h fun σ' ρ' q u=>h2 F H σ' ρ' ps t Qp Q s r2 q fun σ2 ρ2 q2 u2=>k σ2 ρ2 q2 (u.trans u2)⟩
theorem LC {K:PySem.W.Frag}{n:Nat}{gs0:zS}{gs:uR}(h:mT K gs0 gs):ke K (fS K n gs0) (OO n gs):=fun F H σ ρ p v Qp Q s r hq k=>by
 obtain⟨a,vs,ps,rfl,rfl,e,rs,hn,hq⟩:=OkT.rd (H:=H) hq (.frz r)
 exact⟨a,vs,rfl,SqT.of (s _ _ e),by rw[rs.length];exact hn,h F H σ ρ ps vs Qp Q s rs hq k⟩
noncomputable abbrev uK:=aC->(List PV->Prop)->Prop
noncomputable def Ke (K:PySem.W.Frag)(F:Hp)(J:It)(its:List PV):Prop:=∀F1 H1 (i:Nat),Same F F1->Same F1 H1 →
 (∀p,its[i]?=some p->J.go i H1/\∀x H2,J.yld i H1 x H2->∃F2,Grow F1 H1 F2 H2/\Rep K F2 p x)/\(its.length≤i->J.stop i H1)
noncomputable def lI (K:PySem.W.Frag)(ti:uK):TI:=fun σ H R=>∃F ρ,∃Qp:List PV->Prop,ER K F H σ ρ/\ti ρ Qp/\∀its J F' H',Qp its->Grow F H F' H'->Ke K F' J its->R J H'
theorem lI.elim {K:PySem.W.Frag}{ti:uK}{σ:St}{H:Hp}{R}{C:Prop}(h:lI K ti σ H R)(k:∀F ρ (Qp:List PV->Prop),ER K F H σ ρ->ti ρ Qp->(∀its J F' H',Qp its->Grow F H F' H'->Ke K F' J its->R J H')->C):C:=by obtain⟨F,ρ,Qp,a,b,c⟩:=h;exact k F ρ Qp a b c
noncomputable def EH (X:Cx)(tg iter:Expr)(ti:uK):Prop:=PI X tg iter (lI X.K ti)
section
variable {X:Cx}{a b c e l tg iter elt:Expr}{pos:Pos}{ta tb te tl:gU}{t:la}
noncomputable def Nz (tl:gU):uK:=fun ρ Q=>tl ρ fun p=>OkL p Q
noncomputable def OX (p:PV)(Q:List PV->Prop):Prop:=match p with
 |.tup ps=>Q ps
 |.ktu ps=>Q ps
 |_=>False
noncomputable def OU (tl:gU):uK:=fun ρ Q=>tl ρ fun p=>OX p Q
theorem DX (hl:iY X l tl):EH X tg l (Nz tl):=PI.weak (zR hl) fun σ H R hh_=>hh_.elim fun F ρ Qp er q k=>⟨F,ρ,_,er,q,fun p v F1 H1 h1 g1 r1=>by
 obtain⟨a,vs,ps,rfl,hs,rs,h⟩:∃a vs ps,v=.ref a/\SqL X.K F1 a vs/\Reps X.K F1 ps vs/\Qp ps:=by
  cases p with
  |lst ps=>obtain⟨a,vs,rfl,e,rs⟩:=r1;exact⟨a,vs,ps,rfl,SqL.of e,rs,h1⟩
  |src ps=>obtain⟨a,vs,rfl,e,rs⟩:=r1;exact⟨a,vs,ps,rfl,e,rs,h1⟩
  |_=>exact h1.elim
 refine⟨a,rfl,⟨vs,g1.fh.seq hs⟩,k ps _ F1 H1 h g1 fun F2 H2 i s1 s2=>?_⟩
 have h2:=(s1.trans s2).seq hs
 refine⟨fun p e=>?_,fun hl=>⟨vs,h2,by rw[rs.length];exact hl⟩⟩
 obtain⟨v,ev,rv⟩:=rs.get e
 refine⟨⟨vs,v,h2,ev⟩,fun x H3 ⟨e2,y⟩=>?_⟩
 subst e2
 have:=y vs h2
 rw[ev] at this
 cases this
 exact⟨F2,.refl s2,rv.mono s1⟩⟩
theorem GC (hl:iY X l tl):EH X tg l (OU tl):=PI.weak (LL hl) fun σ H R hh_=>hh_.elim fun F ρ Qp er q k=>⟨F,ρ,_,er,q,fun p v F1 H1 h1 g1 r1=>by
 obtain⟨a,vs,ps,rfl,hs,rs,h⟩:∃a vs ps,v=.ref a/\SqT X.K F1 a vs/\Reps X.K F1 ps vs/\Qp ps:=by
  cases p with
  |tup ps=>obtain⟨a,vs,rfl,e,rs⟩:=r1;exact⟨a,vs,ps,rfl,SqT.of e,rs,h1⟩
  |ktu ps=>obtain⟨a,vs,rfl,e,rs⟩:=r1;exact⟨a,vs,ps,rfl,e,rs,h1⟩
  |_=>exact h1.elim
 refine⟨a,rfl,⟨vs,AT g1.fh hs⟩,k ps _ F1 H1 h g1 fun F2 H2 i s1 s2=>?_⟩
 have h2:=AT (s1.trans s2) hs
 refine⟨fun p e=>?_,fun hl=>⟨vs,h2,by rw[rs.length];exact hl⟩⟩
 obtain⟨v,ev,rv⟩:=rs.get e
 refine⟨⟨vs,v,h2,ev⟩,fun x H3 ⟨e2,y⟩=>?_⟩
 subst e2
 have:=y vs h2
 rw[ev] at this
 cases this
 exact⟨F2,.refl s2,rv.mono s1⟩⟩
theorem CL {K:PySem.W.Frag}{F:Hp}{lo:Int}{n:Nat}:Ke K F (HA lo n) (vQ lo n):=fun F1 H1 i s1 s2=>by
 refine⟨fun p e=>?_,fun hl=>by show n≤i;simpa [vQ] using hl⟩
 unfold vQ at e
 rw[List.getElem?_map] at e
 obtain⟨k,ek,rfl⟩:=Option.map_eq_some_iff.mp e
 obtain⟨hk,rfl⟩:=List.getElem?_eq_some_iff.mp ek
 refine⟨by show i<n;simpa using hk,fun x H2 ⟨e2,y⟩=>?_⟩
 subst e2 y
 exact⟨F1,.refl s2,by rw[List.getElem_range];rfl⟩
noncomputable def N1 (t:la):uK:=fun ρ Q=>t ρ fun ps=>One ps fun p=>OkI p fun j=>-(2 ^ 62)≤j/\j<2 ^ 62/\Q (vQ 0 j.toNat)
theorem Cr (h:PI X tg iter (cD (lAT X.K t))):EH X tg iter (N1 t):=PI.weak h fun σ H R hh_=>hh_.elim fun F ρ Qp er q k=>⟨F,ρ,_,er,q,fun ps vs F1 H1 h1 g1 r1=>by
 obtain⟨p,v,rfl,rfl,r,h⟩:=h1.rd r1
 obtain⟨j,rfl,rfl,h1,h2,h⟩:=h.rd r
 exact⟨j,rfl,h1,h2,k _ _ F1 H1 h g1 CL⟩⟩
noncomputable def lr (fm:List (Option Nat))(ρ:aC):aC:=fm.map fun o=>o.bind fun j=>(ρ[j]?).join
theorem ER.sub {K:PySem.W.Frag}{F H:Hp}{σ:L2.St}{ρ:aC}(h:ER K F H σ ρ)(fm:List (Option Nat)):ER K F H (dc fm σ) (lr fm ρ):=by
 refine⟨h.fz,by unfold dc lr;rw[List.length_map,List.length_map],fun i s e=>?_⟩
 unfold lr at e
 rw[List.getElem?_map] at e
 obtain⟨o,eo,e⟩:=Option.map_eq_some_iff.mp e
 cases o with
 |none=>cases e
 |some j=>
  have e':(ρ[j]?).join=some s:=e
  have e2:ρ[j]?=some (some s):=by
   cases q:ρ[j]? with
   |none=>rw[q] at e';cases e'
   |some z=>rw[q] at e';rw[show z=some s from e']
  have:=h.sl j s e2
  unfold dc
  rw[List.getElem?_map,eo]
  exact this
noncomputable def L5 (g:vS)(tc:nr)(te:gU)(ρ:aC):List PV->List PV->(List PV->Prop)->Prop
 |[],acc,Q=>Q acc
 |v::vs,acc,Q=>g v ρ fun ρ2=>tc ρ2 fun b=>if b=true then te ρ2 fun y=>L5 g tc te ρ vs (acc++[y]) Q else L5 g tc te ρ vs acc Q
noncomputable def wT (fm:List (Option Nat))(ti:uK)(g:vS)(tc:nr)(te:gU):vj:=fun ρ Q=>ti ρ fun its=>its.length<1000/\L5 g tc te (lr fm ρ) its [] Q
noncomputable def Ma:nr:=fun _ Q=>Q true
theorem DK {K:PySem.W.Frag}:∀σ H Q,lB K Ma σ H Q->gK σ H Q:=fun σ H Q hh_=>hh_.elim fun F ρ Qp er q k=>k _ F H q (.refl er.fz)
theorem PIf.weak {X:Cx}{ifs:List Expr}{t t':TT}(h:PIf X ifs t)(w:∀σ H Q,t' σ H Q->t σ H Q):PIf X ifs t':=fun pins s σ H Q I q=>h pins s σ H Q I (w σ H Q q)
noncomputable def Kk (X:Cx)(ifs:List Expr)(tc:nr):Prop:=PIf X ifs (lB X.K tc)
theorem Ed:Kk X [] Ma:=PIf.weak zI DK
theorem Cm {tc:nr}(h:PuB X c tc):Kk X [c] tc:=FW h
theorem tW {K:PySem.W.Frag}{fm:List (Option Nat)}{ti:uK}{g0:TG}{g:vS}{tc:nr}(hg:ke K g0 g):∀σ H Q,lN K (wT fm ti g tc te) σ H Q->kN fm (lI K ti) g0 (lB K tc) (lE K te) σ H Q:=fun σ H Q hh_=>hh_.elim fun F ρ Qp er q k=>
 ⟨F,ρ,_,er,q,fun its J F1 H1 ⟨hlen,h1⟩ g1 it=>by
  refine⟨fun i ys H'=>∃F' acc,Grow F1 H1 F' H'/\Reps K F' acc ys/\i≤its.length/\acc.length≤i/\L5 g tc te (lr fm ρ) (its.drop i) acc Qp,its.length,⟨F1,[],.refl g1.fh,rfl,Nat.zero_le _,Nat.le_refl _,h1⟩,?_,?_⟩
  ·rintro i ys H' ⟨F',acc,g2,rs,hi,ha,_⟩
   refine⟨hi,tq ?_⟩
   rw[rs.length];omega
  ·rintro i ys H' ⟨F',acc,g2,rs,hi,ha,h2⟩
   obtain⟨it1,it2⟩:=it F' H' i g2.ff g2.fh
   by_cases hl:i<its.length
   ·obtain⟨go,yl⟩:=it1 _ (List.getElem?_eq_getElem hl)
    refine .inr ⟨go,fun x H2 hy=>?_⟩
    obtain⟨F2,g3,rx⟩:=yl x H2 hy
    rw[List.drop_eq_getElem_cons hl] at h2
    have er2:ER K F2 H2 (dc fm σ) (lr fm ρ):=(er.grow ((g1.trans g2).trans g3)).sub fm
    refine hg F2 H2 (dc fm σ) (lr fm ρ) _ x _ _ g3.fh rx h2 fun σ2 ρ2 h3 u=>?_
    refine⟨F2,ρ2,_,er2.upd u,h3,fun b F3 H3 h4 g4=>?_⟩
    cases b with
    |true=>
     rw[if_pos rfl] at h4 ⊢
     refine⟨F3,ρ2,_,(er2.upd u).grow g4,h4,fun y v F4 H4 h5 g5 ry=>?_⟩
     have gg:=((g2.trans g3).trans g4).trans g5
     exact⟨F4,acc++[y],gg,(rs.mono ((g3.ff.trans g4.ff).trans g5.ff)).app (.one ry),hl,by rw[List.length_append];simp;omega,h5⟩
    |false=>
     rw[if_neg Bool.false_ne_true] at h4 ⊢
     exact⟨F3,acc,(g2.trans g3).trans g4,rs.mono (g3.ff.trans g4.ff),hl,by omega,h4⟩
   ·have e:its.drop i=[]:=List.drop_eq_nil_of_le (by omega)
    rw[e] at h2
    exact .inl ⟨it2 (by omega),fun l hl=>k acc l ys F' _ h2 ((g1.trans g2).trans (.newO g2.fh hl _)) ((g1.trans g2).hh.free hl) (g2.fh.free hl) aq rs⟩⟩
theorem Fh {K:PySem.W.Frag}{fm:List (Option Nat)}{ti:uK}{g0:TG}{g:vS}{tc:nr}(hg:ke X.K g0 g)(h:PE X e (kN fm (lI X.K ti) g0 (lB X.K tc) (lE X.K te))):yv X e (wT fm ti g tc te):=PE.weak h (tW hg)
end
end Pu
end
section
namespace Pu
open PySem PySem.Spec L2
noncomputable def xu:Sl->Bool
 |.val _=>false
 |_=>true
noncomputable def mj (σ:L2.St)(ρ:aC)(i:Nat)(a:Addr):Prop:=(∃s,ρ[i]?=some (some s)/\xu s=true)/\σ[i]?=some (some (.ref a))
structure BR (K:PySem.W.Frag)(F0 H0 F H:Hp)(σ:L2.St)(ρ:aC):Prop where
 er:ER K F H σ ρ
 gr:Grow F0 H0 F H
 ow:∀i a,mj σ ρ i a->H0 a=none
 dj:∀i j a,mj σ ρ i a->mj σ ρ j a->i=j
section
variable {K:PySem.W.Frag}{F0 H0 F H F' H':Hp}{σ σ':L2.St}{ρ ρ':aC}
theorem BR.grow (h:BR K F0 H0 F H σ ρ)(g:Grow F H F' H'):BR K F0 H0 F' H' σ ρ:=⟨h.er.grow g,h.gr.trans g,h.ow,h.dj⟩
theorem eP {i j:Nat}{v:V}{s:Sl}{a:Addr}(h:mj (σ.set i (some v)) (ρ.set i (some s)) j a):(i=j/\xu s=true/\v=.ref a)\/(i≠j/\mj σ ρ j a):=by
 obtain⟨⟨s',e,hs⟩,e2⟩:=h
 by_cases hij:i=j
 ·subst hij
  have hi:i<ρ.length:=by
   have:=(List.getElem?_eq_some_iff.mp e).1
   rwa [List.length_set] at this
  have hi2:i<σ.length:=by
   have:=(List.getElem?_eq_some_iff.mp e2).1
   rwa [List.length_set] at this
  rw[List.getElem?_set_self hi] at e
  rw[List.getElem?_set_self hi2] at e2
  cases e
  cases e2
  exact .inl ⟨rfl,hs,rfl⟩
 ·rw[List.getElem?_set_ne hij] at e e2
  exact .inr ⟨hij,⟨s',e,hs⟩,e2⟩
theorem BR.setV (h:BR K F0 H0 F H σ ρ){i:Nat}{p:PV}{v:V}(r:Rep K F p v):BR K F0 H0 F H (σ.set i (some v)) (ρ.set i (some (.val p))):=by
 refine⟨h.er.set r,h.gr,fun j a o=>?_,fun j k a o o'=>?_⟩
 ·rcases eP o with ⟨_,z,_⟩|⟨_,o⟩
  ·exact absurd z Bool.false_ne_true
  ·exact h.ow j a o
 ·rcases eP o with ⟨_,z,_⟩|⟨_,o⟩
  ·exact absurd z Bool.false_ne_true
  ·rcases eP o' with ⟨_,z,_⟩|⟨_,o'⟩
   ·exact absurd z Bool.false_ne_true
   ·exact h.dj j k a o o'
theorem BR.upd (h:BR K F0 H0 F H σ ρ)(u:VUpd K F σ ρ σ' ρ'):BR K F0 H0 F H σ' ρ':=by
 induction u with
 |refl=>exact h
 |step _ r ih=>exact (ih h).setV r
theorem ER.live (h:ER K F H σ ρ){i:Nat}{a:Addr}(o:mj σ ρ i a):F a=none/\∃u,H a=some u:=by
 obtain⟨⟨s,e,hs⟩,e2⟩:=o
 have:=h.sl i s e
 rw[e2] at this
 cases s with
 |val p=>exact absurd hs Bool.false_ne_true
 |own ps=>obtain⟨a',vs,e',h1,h2,_⟩:=this;cases e';exact⟨h2,_,h1⟩
 |dic ks ps=>obtain⟨a',vs,e',h1,h2,_⟩:=this;cases e';exact⟨h2,_,h1⟩
theorem BR.setN (h:BR K F0 H0 F H σ ρ)(g:Grow F H F' H'){i:Nat}{a:Addr}{vs:List V}{ps:List PV}(h0:H a=none)(hF:F' a=none)(hH:H' a=some (.lst vs))(r:Reps K F' ps vs) :
  BR K F0 H0 F' H' (σ.set i (some (.ref a))) (ρ.set i (some (.own ps))):=by
 have h':=h.grow g
 refine⟨h'.er.set ⟨a,vs,rfl,hH,hF,r⟩,h'.gr,fun j b o=>?_,fun j k b o o'=>?_⟩
 ·rcases eP o with ⟨_,_,z⟩|⟨_,o⟩
  ·cases z;exact h.gr.hh.free h0
  ·exact h.ow j b o
 ·have ne:∀{m:Nat},mj σ ρ m b->b≠a:=fun {m} o e=>by
   obtain⟨_,u,hu⟩:=h.er.live o
   subst e
   rw[h0] at hu;cases hu
  rcases eP o with ⟨e1,_,z⟩|⟨_,o⟩
  ·rcases eP o' with ⟨e2,_,_⟩|⟨_,o'⟩
   ·exact e1.symm.trans e2
   ·cases z;exact absurd rfl (ne o')
  ·rcases eP o' with ⟨e2,_,z⟩|⟨_,o'⟩
   ·cases z;exact absurd rfl (ne o)
   ·exact h.dj j k b o o'
theorem uv {i:Nat}{v:V}(e:σ[i]?=some (some v)):σ.set i (some v)=σ:=by
 apply List.ext_getElem?
 intro j
 by_cases hij:i=j
 ·subst hij
  rw[List.getElem?_set_self (List.getElem?_eq_some_iff.mp e).1,e]
 ·rw[List.getElem?_set_ne hij]
theorem BR.mut (h:BR K F0 H0 F H σ ρ){i:Nat}{a:Addr}{u:HO}{s:Sl}(o:mj σ ρ i a)(hs:xu s=true)(r:SlR K F (L2.upd H a u) (some (.ref a)) (some s)):BR K F0 H0 F (L2.upd H a u) σ (ρ.set i (some s)):=by
 obtain⟨hF,u0,hu⟩:=h.er.live o
 have h0:H0 a=none:=h.ow i a o
 have e2:=o.2
 refine⟨⟨fun b w e=>?_,by rw[List.length_set];exact h.er.len,fun j s' e=>?_⟩,⟨fun b w e=>?_,h.gr.ff,fun b w e=>?_,h.gr.nw⟩,fun j b o'=>?_,fun j k b o' o''=>?_⟩
 ·have:b≠a:=fun z=>by subst z;rw[hF] at e;cases e
  rw[ay this];exact h.er.fz b w e
 ·by_cases hij:i=j
  ·subst hij
   have hi:i<ρ.length:=by
    have:=(List.getElem?_eq_some_iff.mp e).1
    rwa [List.length_set] at this
   rw[List.getElem?_set_self hi] at e
   cases e
   rw[e2]
   exact r
  ·rw[List.getElem?_set_ne hij] at e
   have old:=h.er.sl j s' e
   obtain⟨v,ev,_⟩:=h.er.rd e
   rw[ev] at old ⊢
   have ne:∀b,xu s'=true->v=.ref b->b≠a:=fun b hb hv z=>by
    subst hv z
    exact hij (h.dj i j b o ⟨⟨s',e,hb⟩,ev⟩)
   cases s' with
   |val p=>exact old
   |own ps=>obtain⟨b,vs,e',h1,h2,h3⟩:=old;cases e';exact⟨b,vs,rfl,by rw[ay (ne b rfl rfl)];exact h1,h2,h3⟩
   |dic ks ps=>obtain⟨b,vs,e',h1,h2,h3,h4⟩:=old;cases e';exact⟨b,vs,rfl,by rw[ay (ne b rfl rfl)];exact h1,h2,h3,h4⟩
 ·have:b≠a:=fun z=>by subst z;rw[h0] at e;cases e
  rw[ay this];exact h.gr.hh b w e
 ·have:b≠a:=fun z=>by subst z;rw[hF] at e;cases e
  rw[ay this];exact h.gr.fh b w e
 ·rw[←uv e2] at o'
  rcases eP o' with ⟨_,_,z⟩|⟨_,o'⟩
  ·cases z;exact h0
  ·exact h.ow j b o'
 ·rw[←uv e2] at o' o''
  rcases eP o' with ⟨e1,_,z⟩|⟨_,o'⟩
  ·rcases eP o'' with ⟨e3,_,_⟩|⟨n,o''⟩
   ·exact e1.symm.trans e3
   ·cases z;exact absurd (h.dj i k a o o'') n
  ·rcases eP o'' with ⟨e3,_,z⟩|⟨_,o''⟩
   ·cases z;rw[←e3];exact h.dj j i a o' o
   ·exact h.dj j k b o' o''
theorem BR.fz (h:BR K F0 H0 F H σ ρ){i:Nat}{ps:List PV}(e:ρ[i]?=some (some (.own ps))):∃F',BR K F0 H0 F' H σ (ρ.set i (some (.val (.lst ps)))):=by
 obtain⟨v,ev,_⟩:=h.er.rd e
 have sl:=h.er.sl i _ e
 rw[ev] at sl
 obtain⟨a,vs,e',h1,h2,h3⟩:=sl
 cases e'
 have o:mj σ ρ i a:=⟨⟨_,e,rfl⟩,ev⟩
 have h0:=h.ow i a o
 have gr:=h.gr.freeze h0 h2 h1
 have mono:Same F (L2.upd F a (.lst vs)):=bU h2 _
 refine⟨L2.upd F a (.lst vs),⟨gr.fh,by rw[List.length_set];exact h.er.len,fun j s' e'=>?_⟩,gr,fun j b o'=>?_,fun j k b o' o''=>?_⟩
 ·by_cases hij:i=j
  ·subst hij
   have hi:i<ρ.length:=(List.getElem?_eq_some_iff.mp e).1
   rw[List.getElem?_set_self hi] at e'
   cases e'
   rw[ev]
   exact⟨a,vs,rfl,aq,h3.mono mono⟩
  ·rw[List.getElem?_set_ne hij] at e'
   have old:=h.er.sl j s' e'
   obtain⟨v,ev',_⟩:=h.er.rd e'
   rw[ev'] at old ⊢
   have ne:∀b,xu s'=true->v=.ref b->b≠a:=fun b hb hv z=>by
    subst hv z
    exact hij (h.dj i j b o ⟨⟨s',e',hb⟩,ev'⟩)
   cases s' with
   |val p=>exact Rep.mono mono old
   |own qs=>obtain⟨b,us,e',k1,k2,k3⟩:=old;cases e';exact⟨b,us,rfl,k1,by rw[ay (ne b rfl rfl)];exact k2,k3.mono mono⟩
   |dic ks qs=>obtain⟨b,us,e',k1,k2,k3,k4⟩:=old;cases e';exact⟨b,us,rfl,k1,by rw[ay (ne b rfl rfl)];exact k2,k3,k4.mono mono⟩
 ·rw[←uv ev] at o'
  rcases eP o' with ⟨_,z,_⟩|⟨_,o'⟩
  ·exact absurd z Bool.false_ne_true
  ·exact h.ow j b o'
 ·rw[←uv ev] at o' o''
  rcases eP o' with ⟨_,z,_⟩|⟨_,o'⟩
  ·exact absurd z Bool.false_ne_true
  ·rcases eP o'' with ⟨_,z,_⟩|⟨_,o''⟩
   ·exact absurd z Bool.false_ne_true
   ·exact h.dj j k b o' o''
end
noncomputable def EK (F H0:Hp):Hp:=fun b=>match F b with
 |some o=>some o
 |none=>H0 b
section
variable {K:PySem.W.Frag}{F0 H0 F H F' H':Hp}{σ σ':L2.St}{ρ ρ':aC}
theorem qv {b:Addr}(h:EK F H0 b=none):F b=none/\H0 b=none:=by
 unfold EK at h
 split at h
 ·cases h
 ·exact⟨by assumption,h⟩
theorem LF {b:Addr}(hF:F b=none)(h0:H0 b=none):EK F H0 b=none:=by unfold EK;rw[hF];exact h0
theorem BR.base (h:BR K F0 H0 F H σ ρ):BR K F (EK F H0) F H σ ρ:=by
 refine⟨h.er,⟨fun b o e=>?_,Same.refl _,h.er.fz,fun b o e=>.inl e⟩,fun i a o=>LF (h.er.live o).1 (h.ow i a o),h.dj⟩
 unfold EK at e
 split at e
 ·next q=>cases e;exact h.er.fz b _ q
 ·exact h.gr.hh b o e
theorem Grow.unbase (g:Grow F0 H0 F H)(g':Grow F (EK F H0) F' H'):Grow F0 H0 F' H':=by
 refine⟨fun b o e=>?_,g.ff.trans g'.ff,g'.fh,fun b o e=>?_⟩
 ·refine g'.hh b o ?_
  unfold EK
  split
  ·next u q=>rw[←g.fh b u q];exact g.hh b o e
  ·exact e
 ·rcases g'.nw b o e with z|z|z
  ·exact g.nw b o z
  ·exact .inr (.inl (qv z).2)
  ·exact .inr (.inr z)
theorem BR.unbase (h:BR K F (EK F H0) F' H' σ' ρ')(g:Grow F0 H0 F H):BR K F0 H0 F' H' σ' ρ':=⟨h.er,g.unbase h.gr,fun i a o=>(qv (h.ow i a o)).2,h.dj⟩
end
structure PEnds where
 nx:aC->Prop
 rt:PV->Prop
 rn:List PV->Prop
 bk:aC->Prop:=fun _=>False
 ct:aC->Prop:=fun _=>False
noncomputable abbrev kn:=PEnds->aC->Prop
structure Fit (K:PySem.W.Frag)(F0 H0:Hp)(Dp:PEnds)(D:Ends):Prop where
 nx:∀F H σ ρ,Dp.nx ρ->BR K F0 H0 F H σ ρ->D.nx σ H
 bk:∀F H σ ρ,Dp.bk ρ->BR K F0 H0 F H σ ρ->D.bk σ H
 ct:∀F H σ ρ,Dp.ct ρ->BR K F0 H0 F H σ ρ->D.ct σ H
 rt:∀p v F H,Dp.rt p->Grow F0 H0 F H->Rep K F p v->D.rt v H
 rn:∀ps a vs F H,Dp.rn ps->Grow F0 H0 F H->H0 a=none->F a=none->H a=some (.lst vs)->Reps K F ps vs->D.rt (.ref a) H
noncomputable def lS (K:PySem.W.Frag)(ts:kn):TS:=fun D σ H=>∃F0 H0 F ρ Dp,BR K F0 H0 F H σ ρ/\ts Dp ρ/\Fit K F0 H0 Dp D
theorem lS.elim {K:PySem.W.Frag}{ts:kn}{D:Ends}{σ:St}{H:Hp}{C:Prop}(h:lS K ts D σ H)(k:∀F0 H0 F ρ Dp,BR K F0 H0 F H σ ρ->ts Dp ρ->Fit K F0 H0 Dp D->C):C:=by obtain⟨F0,H0,F,ρ,Dp,a,b,c⟩:=h;exact k F0 H0 F ρ Dp a b c
noncomputable def oM (X:Cx)(st:Stmt)(ts:kn):Prop:=PS X st (lS X.K ts)
noncomputable def qQ (X:Cx)(st:List Stmt)(ts:kn):Prop:=PSs X st (lS X.K ts)
noncomputable def MZ:kn:=fun D ρ=>D.nx ρ
noncomputable def MW (t u:kn):kn:=fun D ρ=>t { D with nx:=u D } ρ
noncomputable def LP:kn:=fun _ _=>False
noncomputable def NX (te:gU):kn:=fun D ρ=>te ρ fun _=>D.nx ρ
noncomputable def Pw (te:gU):kn:=fun D ρ=>te ρ D.rt
noncomputable def Md (tn:vj):kn:=fun D ρ=>tn ρ D.rn
noncomputable def go (ρ:aC)(i:Nat)(Q:List PV->Prop):Prop:=match ρ[i]? with
 |some (some (.own ps))=>Q ps
 |_=>False
theorem go.ex {ρ:aC}{i:Nat}{Q:List PV->Prop}(h:go ρ i Q):∃ps,ρ[i]?=some (some (.own ps))/\Q ps:=by
 unfold go at h
 split at h
 ·exact⟨_,by assumption,h⟩
 ·exact h.elim
noncomputable def IT (i:Nat):kn:=fun D ρ=>go ρ i D.rn
noncomputable def QZ (c:nr)(t u:kn):kn:=fun D ρ=>c ρ fun b=>if b=true then t D ρ else u D ρ
noncomputable def Nm (i:Nat)(te:gU):kn:=fun D ρ=>te ρ fun p=>D.nx (ρ.set i (some (.val p)))
noncomputable def N4 (i:Nat)(tn:vj):kn:=fun D ρ=>tn ρ fun ps=>D.nx (ρ.set i (some (.own ps)))
noncomputable def Os (te:gU)(g:vS):kn:=fun D ρ=>te ρ fun p=>g p ρ D.nx
noncomputable def frz (i:Nat)(ρ:aC):aC:=match ρ[i]? with
 |some (some (.own ps))=>ρ.set i (some (.val (.lst ps)))
 |_=>ρ
noncomputable def zu (i:Nat)(t:kn):kn:=fun D ρ=>t D (frz i ρ)
section
variable {X:Cx}{st:Stmt}{eW:List Stmt}{t u:kn}{te:gU}{tn:vj}{e:Expr}{pos:Pos}{i:Nat}
theorem B7:qQ X [] MZ:=PSs.weak He fun D σ H hh_=>hh_.elim fun F0 H0 F ρ Dp br h ft=>ft.nx F H σ ρ h br
theorem AJ (h1:oM X st t)(h2:qQ X eW u):qQ X (st::eW) (MW t u):=PSs.weak (aS h1 h2) fun D σ H hh_=>hh_.elim fun F0 H0 F ρ Dp br h ft=>
 ⟨F0,H0,F,ρ,_,br,h,⟨fun F' H' σ' ρ' h' br'=>⟨F0,H0,F',ρ',Dp,br',h',ft⟩,ft.bk,ft.ct,ft.rt,ft.rn⟩⟩
theorem D6 (h1:oM X st t):qQ X [st] t:=eT h1
theorem AB:oM X st LP:=PS.weak DJ fun D σ H hh_=>hh_.elim fun F0 H0 F ρ Dp br h ft=>h
theorem Dd (h:PS X st (cc (lE X.K te))):oM X st (NX te):=PS.weak h fun D σ H hh_=>hh_.elim fun F0 H0 F ρ Dp br h ft=>⟨F,ρ,_,br.er,h,fun p v F1 H1 h1 g1 r1=>ft.nx F1 H1 σ ρ h1 (br.grow g1)⟩
theorem zM (he:iY X e te):oM X (.Return (some e) pos) (Pw te):=PS.weak (jd he) fun D σ H hh_=>hh_.elim fun F0 H0 F ρ Dp br h ft=>⟨F,ρ,_,br.er,h,fun p v F1 H1 h1 g1 r1=>ft.rt p v F1 H1 h1 (br.gr.trans g1) r1⟩
theorem ED (he:yv X e tn):oM X (.Return (some e) pos) (Md tn):=PS.weak (jd he) fun D σ H hh_=>hh_.elim fun F0 H0 F ρ Dp br h ft=>⟨F,ρ,_,br.er,h,fun ps a vs F1 H1 h1 g1 h0 hF hH r1=>ft.rn ps a vs F1 H1 h1 (br.gr.trans g1) (br.gr.hh.free h0) hF hH r1⟩
theorem Cb (he:PE X e (cL i)):oM X (.Return (some e) pos) (IT i):=PS.weak (jd he) fun D σ H hh_=>hh_.elim fun F0 H0 F ρ Dp br h ft=>by
 obtain⟨ps,e,h⟩:=h.ex
 obtain⟨v,ev,_⟩:=br.er.rd e
 have sl:=br.er.sl i _ e
 rw[ev] at sl
 obtain⟨a,vs,e',h1,h2,h3⟩:=sl
 cases e'
 exact⟨_,ev,ft.rn ps a vs F H h br.gr (br.ow i a ⟨⟨_,e,rfl⟩,ev⟩) h2 h1 h3⟩
theorem Jr {c:Expr}{a b:List Stmt}{tc:nr}(hc:PuB X c tc)(ha:qQ X a t)(hb:qQ X b u):oM X (.If c a b pos) (QZ tc t u):=PS.weak (Oa hc ha hb) fun D σ H hh_=>hh_.elim fun F0 H0 F ρ Dp br h ft=>⟨F,ρ,_,br.er,h,fun b F1 H1 h1 g1=>by
 cases b with
 |true=>exact⟨F0,H0,F1,ρ,Dp,br.grow g1,by simpa using h1,ft⟩
 |false=>exact⟨F0,H0,F1,ρ,Dp,br.grow g1,by simpa using h1,ft⟩⟩
theorem zm (h:PS X st (df (lE X.K te) (bf i))):oM X st (Nm i te):=PS.weak h fun D σ H hh_=>hh_.elim fun F0 H0 F ρ Dp br h ft=>⟨F,ρ,_,br.er,h,fun p v F1 H1 h1 g1 r1=>ft.nx F1 H1 _ _ h1 ((br.grow g1).setV r1)⟩
theorem Dm (h:PS X st (df (lN X.K tn) (bf i))):oM X st (N4 i tn):=PS.weak h fun D σ H hh_=>hh_.elim fun F0 H0 F ρ Dp br h ft=>⟨F,ρ,_,br.er,h,fun ps a vs F1 H1 h1 g1 h0 hF hH r1=>ft.nx F1 H1 _ _ h1 (br.setN g1 h0 hF hH r1)⟩
theorem GD {g0:TG}{g:vS}(hg:ke X.K g0 g)(h:PS X st (df (lE X.K te) g0)):oM X st (Os te g):=PS.weak h fun D σ H hh_=>hh_.elim fun F0 H0 F ρ Dp br h ft=>⟨F,ρ,_,br.er,h,fun p v F1 H1 h1 g1 r1=>
 hg F1 H1 σ ρ p v _ _ g1.fh r1 h1 fun σ' ρ' q u=>ft.nx F1 H1 σ' ρ' q ((br.grow g1).upd u)⟩
theorem yu (i:Nat)(h:oM X st t):oM X st (zu i t):=PS.weak h fun D σ H hh_=>hh_.elim fun F0 H0 F ρ Dp br h ft=>by
 unfold zu frz at h
 split at h
 ·next ps e=>
  obtain⟨F',br'⟩:=br.fz e
  exact⟨F0,H0,F',_,Dp,br',h,ft⟩
 ·exact⟨F0,H0,F,ρ,Dp,br,h,ft⟩
theorem uE {fm:List (Option Nat)}{ti:uK}{g0:TG}{g:vS}{tc:nr}(hg:ke X.K g0 g)(h:PS X st (df (kN fm (lI X.K ti) g0 (lB X.K tc) (lE X.K te)) (bf i))):oM X st (Nm i (Pb (wT fm ti g tc te))):=PS.weak h fun D σ H hh_=>hh_.elim fun F0 H0 F ρ Dp br h ft=>tW hg σ H _ ⟨F,ρ,_,br.er,h,fun ps a vs F1 H1 h1 g1 h0 hF hH r1=>
 ft.nx _ H1 _ _ h1 ((br.grow (g1.freeze h0 hF hH)).setV ⟨a,vs,rfl,aq,r1.mono (bU hF _)⟩)⟩
theorem BR.ownAt {K:PySem.W.Frag}{F0 H0 F H:Hp}{σ:L2.St}{ρ:aC}(br:BR K F0 H0 F H σ ρ){ps:List PV}(e:ρ[i]?=some (some (.own ps))):∃a vs,σ[i]?=some (some (.ref a))/\mj σ ρ i a/\H a=some (.lst vs)/\F a=none/\Reps K F ps vs:=by
 obtain⟨v,ev,_⟩:=br.er.rd e
 have sl:=br.er.sl i _ e
 rw[ev] at sl
 obtain⟨a,vs,e',h1,h2,h3⟩:=sl
 cases e'
 exact⟨a,vs,ev,⟨⟨_,e,rfl⟩,ev⟩,h1,h2,h3⟩
noncomputable def Ni (i:Nat)(t:la):kn:=fun D ρ=>go ρ i fun ps=>t ρ fun qs=>One qs fun q=>ps.length<sizeLine/\D.nx (ρ.set i (some (.own (ps++[q]))))
theorem G0 {t:la}(h:PS X st (cc (nt X.K "list" pQ (cL i) (lA X.K t)))):oM X st (Ni i t):=PS.weak h fun D σ H hh_=>hh_.elim fun F0 H0 F ρ Dp br h ft=>by
 obtain⟨ps,e,h⟩:=h.ex
 obtain⟨a,vs,ev,o,h1,h2,h3⟩:=br.ownAt e
 refine⟨_,ev,.inl ⟨rfl,vs,SqL.of h1⟩,F,ρ,_,br.er,h,fun qs us F1 H1 k1 g1 r1=>?_⟩
 unfold One at k1
 split at k1
 ·next q=>
  obtain⟨v,r,rfl,r1,er⟩:=r1
  cases (show r=[] from er)
  have k:=g1.keep h2 h1
  exact⟨a,vs,v,rfl,rfl,k.2,by rw[h3.length];exact k1.1,ft.nx F1 _ σ _ k1.2 ((br.grow g1).mut (s:=.own _) o rfl ⟨a,_,rfl,aq,k.1,(h3.mono g1.ff).app (.one r1)⟩)⟩
 ·exact k1.elim
noncomputable def JC (j:Nat)(ti te:gU):kn:=fun D ρ=>te ρ fun v=>go ρ j fun ps=>ti ρ fun k=>OkI k fun k=>OkO (tX ps.length k) fun n=>D.nx (ρ.set j (some (.own (ps.set n v))))
theorem Ar {j:Nat}{ti:gU}(h:PS X st (df (lE X.K te) (L2.fU (cL j) (lE X.K ti) cZ))):oM X st (JC j ti te):=PS.weak h fun D σ H hh_=>hh_.elim fun F0 H0 F ρ Dp br h ft=>⟨F,ρ,_,br.er,h,fun p v F1 H1 h1 g1 r1=>by
 obtain⟨ps,e,h⟩:=h1.ex
 have br1:=br.grow g1
 obtain⟨a,vs,ev,o,k1,k2,k3⟩:=br1.ownAt e
 refine⟨_,ev,F1,ρ,_,br1.er,h,fun q w F2 H2 h2 g2 r2=>?_⟩
 obtain⟨k,rfl,rfl,h2⟩:=OkI.rd (H:=H2) h2 (.frz r2)
 obtain⟨n,en,h2⟩:=h2.ex
 have kk:=g2.keep k2 k1
 exact⟨a,vs,k,n,rfl,rfl,kk.2,by rw[k3.length];exact en,ft.nx F2 _ σ _ h2 ((br1.grow g2).mut (s:=.own _) o rfl ⟨a,_,rfl,aq,kk.1,(k3.mono g2.ff).set (r1.mono g2.ff) n⟩)⟩⟩
noncomputable def tj (g:vS)(tb:kn)(D:PEnds):List PV->aC->Prop
 |[],ρ=>D.nx ρ
 |v::vs,ρ=>g v ρ fun ρ2=>tb { D with nx:=tj g tb D vs,ct:=tj g tb D vs,bk:=D.nx } ρ2
noncomputable def O6 (ti:uK)(g:vS)(tb:kn):kn:=fun D ρ=>ti ρ fun its=>tj g tb D its ρ
theorem HX {ti:uK}{g0:TG}{g:vS}{tb:kn}(hg:ke X.K g0 g)(h:PS X st (AN (lI X.K ti) g0 (lS X.K tb))):oM X st (O6 ti g tb):=PS.weak h fun D σ H hh_=>hh_.elim fun F0 H0 F ρ Dp br h ft=>⟨F,ρ,_,br.er,h,fun its J F1 H1 h1 g1 it=>by
 refine⟨fun i m σ' H'=>∃F' ρ',BR X.K F0 H0 F' H' σ' ρ'/\Same F1 F'/\i≤its.length/\m=its.length - i/\tj g tb Dp (its.drop i) ρ',⟨its.length,F1,ρ,br.grow g1,Same.refl _,Nat.zero_le _,rfl,h1⟩,?_⟩
 rintro i m σ' H' ⟨F',ρ',br',s1,hi,rfl,h2⟩
 obtain⟨it1,it2⟩:=it F' H' i s1 br'.er.fz
 by_cases hl:i<its.length
 ·obtain⟨go,yl⟩:=it1 _ (List.getElem?_eq_getElem hl)
  rw[List.drop_eq_getElem_cons hl] at h2
  refine .inr ⟨go,fun σ2 H2=>∃F2 ρ2,BR X.K F0 H0 F2 H2 σ2 ρ2/\Same F1 F2/\tj g tb Dp (its.drop (i+1)) ρ2,fun σ2 H2 ⟨F2,ρ2,b2,s2,q2⟩=>⟨its.length - (i+1),by omega,F2,ρ2,b2,s2,hl,rfl,q2⟩,fun x H2 hy=>?_⟩
  obtain⟨F2,g2,rx⟩:=yl x H2 hy
  refine hg F2 H2 σ' ρ' _ x _ _ g2.fh rx h2 fun σ3 ρ3 h3 u=>?_
  have br3:=(br'.grow g2).upd u
  refine⟨F2,EK F2 H0,F2,ρ3,_,br3.base,h3,⟨fun F4 H4 σ4 ρ4 h4 b4=>?_,fun F4 H4 σ4 ρ4 h4 b4=>?_,fun F4 H4 σ4 ρ4 h4 b4=>?_,fun p v F4 H4 h4 g4 r4=>ft.rt p v F4 H4 h4 (br3.gr.unbase g4) r4,fun ps a vs F4 H4 h4 g4 h0 hF hH r4=>ft.rn ps a vs F4 H4 h4 (br3.gr.unbase g4) (qv h0).2 hF hH r4⟩⟩
  ·exact⟨F4,ρ4,b4.unbase br3.gr,(s1.trans g2.ff).trans b4.gr.ff,h4⟩
  ·exact ft.nx F4 H4 σ4 ρ4 h4 (b4.unbase br3.gr)
  ·exact⟨F4,ρ4,b4.unbase br3.gr,(s1.trans g2.ff).trans b4.gr.ff,h4⟩
 ·have e:its.drop i=[]:=List.drop_eq_nil_of_le (by omega)
  rw[e] at h2
  exact .inl ⟨it2 (by omega),ft.nx F' H' σ' ρ' h2 br'⟩⟩
noncomputable def mD (tc:nr)(tb:kn)(D:PEnds):Nat->aC->Prop
 |0,_=>False
 |n+1,ρ=>tc ρ fun b=>if b=true then tb { D with nx:=mD tc tb D n,ct:=mD tc tb D n,bk:=D.nx } ρ else D.nx ρ
noncomputable def Jq (tc:nr)(tb:kn):kn:=fun D ρ=>∃n,mD tc tb D n ρ
theorem Bg {tc:nr}{tb:kn}(h:PS X st (yq (lB X.K tc) (lS X.K tb))):oM X st (Jq tc tb):=PS.weak h fun D σ H hh_=>hh_.elim fun F0 H0 F ρ Dp br ⟨n,h⟩ ft=>by
 refine⟨fun m σ' H'=>∃F' ρ',BR X.K F0 H0 F' H' σ' ρ'/\mD tc tb Dp m ρ',⟨n,F,ρ,br,h⟩,?_⟩
 rintro m σ' H' ⟨F',ρ',br',h'⟩
 cases m with
 |zero=>exact h'.elim
 |succ m=>
  refine⟨F',ρ',_,br'.er,h',fun b F1 H1 h1 g1=>?_⟩
  cases b with
  |true=>
   rw[if_pos rfl] at h1 ⊢
   refine⟨fun σ2 H2=>∃F2 ρ2,BR X.K F0 H0 F2 H2 σ2 ρ2/\mD tc tb Dp m ρ2,fun σ2 H2 q=>⟨m,Nat.lt_succ_self _,q⟩,F0,H0,F1,ρ',_,br'.grow g1,h1,⟨fun F4 H4 σ4 ρ4 h4 b4=>⟨F4,ρ4,b4,h4⟩,fun F4 H4 σ4 ρ4 h4 b4=>ft.nx F4 H4 σ4 ρ4 h4 b4,fun F4 H4 σ4 ρ4 h4 b4=>⟨F4,ρ4,b4,h4⟩,ft.rt,ft.rn⟩⟩
  |false=>
   rw[if_neg Bool.false_ne_true] at h1 ⊢
   exact ft.nx F1 H1 σ' ρ' h1 (br'.grow g1)
inductive PR where
 |v (p:PV)|n (ps:List PV)
noncomputable def PR.pv:PR->PV
 |.v p=>p
 |.n ps=>.lst ps
noncomputable abbrev zP:=List PV->(PR->Prop)->Prop
noncomputable def Pr (K:PySem.W.Frag)(H F' H':Hp)(v:V):PR->Prop
 |.v p=>Rep K F' p v
 |.n ps=>∃a vs,v=.ref a/\H a=none/\F' a=none/\H' a=some (.lst vs)/\Reps K F' ps vs
noncomputable def bE (K:PySem.W.Frag)(φ:zP):Sp:=fun vs H Q _=>∃F ps,∃Qp:PR->Prop,Same F H/\Reps K F ps vs/\φ ps Qp/\∀r v F' H',Qp r->Grow F H F' H'->Pr K H F' H' v r->Q v H'
noncomputable def PEnds.of (Q:PR->Prop):PEnds:={ nx:=fun _=>Q (.v .non),rt:=fun p=>Q (.v p),rn:=fun ps=>Q (.n ps) }
noncomputable def ng (N:List Str)(ps:List PV):aC:=ps.map (fun p=>some (Sl.val p))++List.replicate (N.length - ps.length) none
theorem xF {K:PySem.W.Frag}{F H:Hp}(s:Same F H)(N:List Str):∀{ps:List PV} {vs:List V},Reps K F ps vs->ER K F H (L2.bz N vs) (ng N ps):=fun {ps vs} r=>by
 have hl:=r.length
 refine⟨s,by unfold L2.bz ng;simp[hl],fun i s' e=>?_⟩
 unfold ng at e
 unfold L2.bz
 rw[List.getElem?_append] at e ⊢
 rw[List.length_map] at e ⊢
 by_cases hi:i<ps.length
 ·rw[if_pos hi,List.getElem?_map] at e
  rw[if_pos (by omega),List.getElem?_map]
  obtain⟨p,ep,e⟩:=Option.map_eq_some_iff.mp e
  obtain⟨v,ev,rv⟩:=r.get ep
  cases e
  rw[ev]
  exact rv
 ·rw[if_neg hi,List.getElem?_replicate] at e
  split at e<;>cases e
theorem mB {N:List Str}{ps:List PV}{σ:L2.St}{i:Nat}{a:Addr}(o:mj σ (ng N ps) i a):False:=by
 obtain⟨⟨s,e,hs⟩,_⟩:=o
 unfold ng at e
 rw[List.getElem?_append] at e
 split at e
 ·rw[List.getElem?_map] at e
  obtain⟨p,ep,e⟩:=Option.map_eq_some_iff.mp e
  cases e
  exact absurd hs Bool.false_ne_true
 ·rw[List.getElem?_replicate] at e
  split at e<;>cases e
noncomputable def NE (φ:zP)(t:la):gU:=fun ρ Q=>t ρ fun ps=>φ ps fun r=>Q r.pv
noncomputable def P2:PR->(List PV->Prop)->Prop
 |.n ps,Q=>Q ps
 |_,_=>False
noncomputable def Jp (φ:zP)(t:la):vj:=fun ρ Q=>t ρ fun ps=>φ ps fun r=>P2 r Q
theorem Hy {φ:zP}{t:la}(h:PE X e (b8 (bE X.K φ) [] E0 (lA X.K t))):iY X e (NE φ t):=PE.weak h fun σ H Q hh_=>hh_.elim fun F ρ Qp er q k=>⟨F,ρ,_,er,q,fun ps vs F1 H1 h1 g1 r1=>by
 show bE X.K φ (vs++[]) H1 Q E0
 rw[List.append_nil]
 refine⟨F1,ps,_,g1.fh,r1,h1,fun r v F2 H2 h2 g2 rr=>?_⟩
 cases r with
 |v p=>exact k p v F2 H2 h2 (g1.trans g2) rr
 |n ps=>
  obtain⟨a,vs,rfl,h0,hF,hH,rs⟩:=rr
  exact k (.lst ps) _ _ H2 h2 ((g1.trans g2).freeze (g1.hh.free h0) hF hH) ⟨a,vs,rfl,aq,rs.mono (bU hF _)⟩⟩
theorem Ej {φ:zP}{t:la}(h:PE X e (b8 (bE X.K φ) [] E0 (lA X.K t))):yv X e (Jp φ t):=PE.weak h fun σ H Q hh_=>hh_.elim fun F ρ Qp er q k=>⟨F,ρ,_,er,q,fun ps vs F1 H1 h1 g1 r1=>by
 show bE X.K φ (vs++[]) H1 Q E0
 rw[List.append_nil]
 refine⟨F1,ps,_,g1.fh,r1,h1,fun r v F2 H2 h2 g2 rr=>?_⟩
 cases r with
 |v p=>exact h2.elim
 |n ps=>
  obtain⟨a,vs,rfl,h0,hF,hH,rs⟩:=rr
  exact k ps a vs F2 H2 h2 (g1.trans g2) (g1.hh.free h0) hF hH rs⟩
end
theorem O3 {P:Program}{w:World}{K:PySem.W.Frag}{mg:Str->Option Value}{base:Heap}{x:Str}{st:Stmt}{N ps:List Str}{k:Nat}{φ:zP}{ts:kn}(F:FunD K mg x st ps)(S:FnScope N ps (ag st))
  (hl:∀qs Q,φ qs Q->qs.length=ps.length)
  (hb:∀(f:Addr) (cdv:Value) (A:Around) (outer:List Env) (s:Shared) (H:Hp) (E:XK),Room k (A.deeper (PyProof.Rows.envOfC x (ag st) s.heap.objs.size f cdv))->qQ (nN xM P w K mg base N x (ag st) f cdv A outer s H E).nox (aw st) ts)
  (hφ:∀qs Q,φ qs Q->ts (PEnds.of Q) (ng N qs)):Def P w K mg base (k+1) x ps (bE K φ):=by
 refine F.ok S (fun vs H Q E ⟨F,qs,Qp,s,r,h,_⟩=>by rw[r.length];exact hl qs Qp h) (fun f cdv A outer s H vs Q E hr ⟨F,qs,Qp,sm,r,h,kk⟩=>?_)
 refine⟨_,hb f cdv A outer s H E hr,F,H,F,ng N qs,PEnds.of Qp,?_,hφ qs Qp h,?_⟩
 ·exact⟨xF sm N r,.refl sm,fun i a o=>(mB o).elim,fun i j a o _=>(mB o).elim⟩
 ·exact⟨fun F' H' σ' ρ' q b=>kk (.v .non) .non F' H' q b.gr rfl,fun F' H' σ' ρ' q b=>q.elim,fun F' H' σ' ρ' q b=>q.elim,fun p v F' H' q g rr=>kk (.v p) v F' H' q g rr,fun ps a vs F' H' q g h0 hF hH rs=>kk (.n ps) (.ref a) F' H' q g ⟨a,vs,rfl,h0,hF,hH,rs⟩⟩
end Pu
end
section
namespace Pu
open PySem PySem.Spec L2
theorem Def.imp {P:Program}{w:World}{K:PySem.W.Frag}{mg:Str->Option Value}{base:Heap}{k:Nat}{x:Str}{ps:List Str}{sp sp':Sp}(d:Def P w K mg base k x ps sp)(h:∀vs H Q E,sp' vs H Q E->sp vs H Q E):Def P w K mg base k x ps sp':=by
 obtain⟨f,fd,F,r⟩:=d
 exact⟨f,fd,F.imp h,r⟩
section
variable {X:Cx}{e a b c l tg iter:Expr}{pos:Pos}{te ta tb:gU}{t:la}{st:Stmt}{i j:Nat}
theorem RdV.all {K:PySem.W.Frag}{F H:Hp}{p:PV}{v:V}(s:Same F H)(r:RdV K F H p v):Rep K H p v:=by
 cases r with
 |frz r=>exact r.mono s
 |own h1 h2 h3=>exact⟨_,_,rfl,h1,h3.mono s⟩
 |dic h1 h2 h3 h4=>exact⟨_,_,rfl,h1,h3,h4.mono s⟩
theorem RdVs.all {K:PySem.W.Frag}{F H:Hp}{ps:List PV}{vs:List V}(s:Same F H)(r:RdVs K F H ps vs):Reps K H ps vs:=by
 induction r with
 |nil=>rfl
 |cons r _ ih=>exact⟨_,_,rfl,r.all s,ih⟩
noncomputable def OkLo:PV->(List PV->Prop)->Prop
 |.lst ps,Q=>Q ps
 |_,_=>False
theorem OkLo.rd {K:PySem.W.Frag}{F H:Hp}{p:PV}{v:V}{Q:List PV->Prop}(h:OkLo p Q)(s:Same F H)(r:RdV K F H p v):∃a vs ps,p=.lst ps/\v=.ref a/\H a=some (.lst vs)/\Reps K F ps vs/\Q ps:=by
 cases r with
 |frz r=>
  cases p<;>first|exact h.elim|skip
  obtain⟨a,vs,rfl,e,r⟩:=r;exact⟨a,vs,_,rfl,rfl,s _ _ e,r,h⟩
 |own h1 h2 h3=>exact⟨_,_,_,rfl,rfl,h1,h3,h⟩
 |dic=>exact h.elim
noncomputable def Pz (ta tb:gU):vj:=fun ρ Q=>ta ρ fun x=>tb ρ fun y=>OkLo x fun ps=>OkLo y fun qs=>ps.length+qs.length≤sizeLine/\Q (ps++qs)
theorem J4 (ha:kZ X a ta)(hb:kZ X b tb):yv X (.BinOp a .Add b pos) (Pz ta tb):=PE.weak (DL J6 ha hb) fun σ H Q hh_=>hh_.elim fun F ρ Qp er q k=>
 ⟨F,ρ,_,er,q,fun p v F1 H1 q1 g1 r1=>⟨F1,ρ,_,er.grow g1,q1,fun p2 v2 F2 H2 q2 g2 r2=>by
  obtain⟨a,vs,ps,rfl,rfl,h1,rs,q2⟩:=q2.rd g2.fh (r1.grow g2)
  obtain⟨b,us,qs,rfl,rfl,h2,rs2,q2⟩:=q2.rd g2.fh r2
  exact⟨a,b,vs,us,rfl,rfl,h1,h2,by rw[rs.length,rs2.length];exact q2.1,fun p hp=>k _ p _ F2 _ q2.2 ((g1.trans g2).trans (.newO g2.fh hp _)) ((g1.trans g2).hh.free hp) (g2.fh.free hp) aq (rs.app rs2)⟩⟩⟩
noncomputable def OW (ta tb:gU):vj:=fun ρ Q=>ta ρ fun x=>tb ρ fun y=>OkLo x fun ps=>OkI y fun k=>-(2 ^ 63)≤k/\k<2 ^ 63/\ps.length * k.toNat≤sizeLine/\Q (List.replicate k.toNat ps).flatten
theorem Reps.repF {K:PySem.W.Frag}{F:Hp}{ps:List PV}{vs:List V}(h:Reps K F ps vs):∀n,Reps K F (List.replicate n ps).flatten (List.replicate n vs).flatten
 |0=>rfl
 |n+1=>by rw[List.replicate_succ,List.replicate_succ,List.flatten_cons,List.flatten_cons];exact h.app (Reps.repF h n)
theorem KH (ha:kZ X a ta)(hb:kZ X b tb):yv X (.BinOp a .Mult b pos) (OW ta tb):=PE.weak (DL Jf ha hb) fun σ H Q hh_=>hh_.elim fun F ρ Qp er q k=>
 ⟨F,ρ,_,er,q,fun p v F1 H1 q1 g1 r1=>⟨F1,ρ,_,er.grow g1,q1,fun p2 v2 F2 H2 q2 g2 r2=>by
  obtain⟨a,vs,ps,rfl,rfl,h1,rs,q2⟩:=q2.rd g2.fh (r1.grow g2)
  obtain⟨n,rfl,rfl,q2⟩:=q2.rd r2
  exact⟨a,n,vs,rfl,rfl,h1,q2.1,q2.2.1,by rw[rs.length];exact q2.2.2.1,fun p hp=>k _ p _ F2 _ q2.2.2.2 ((g1.trans g2).trans (.newO g2.fh hp _)) ((g1.trans g2).hh.free hp) (g2.fh.free hp) aq (rs.repF _)⟩⟩⟩
noncomputable def gx:Nat->List PV->List PV
 |_,[]=>[]
 |k,p::ps=>.tup [.int k,p]::gx (k+1) ps
theorem sZ:∀(k:Nat) (ps:List PV),(gx k ps).length=ps.length
 |_,[]=>rfl
 |k,_::ps=>by rw[gx,List.length_cons,List.length_cons,sZ]
theorem tP:∀(k:Nat) (ps:List PV) (i:Nat),(gx k ps)[i]?=(ps[i]?).map fun p=>.tup [.int ((k+i:Nat):Int),p]
 |_,[],i=>by simp[gx]
 |k,p::ps,0=>by simp[gx]
 |k,p::ps,i+1=>by
  rw[gx,List.getElem?_cons_succ,List.getElem?_cons_succ,tP,show k+1+i=k+(i+1) by omega]
noncomputable def OM (i j:Nat)(t:la):kn:=fun D ρ=>t ρ fun ps=>Two ps fun p q=>D.nx ((ρ.set i (some (.val p))).set j (some (.val q)))
theorem Hk (h:PS X st (fY i j (lA X.K t))):oM X st (OM i j t):=PS.weak h fun D σ H hh_=>hh_.elim fun F0 H0 F ρ Dp br h ft=>⟨F,ρ,_,br.er,h,fun ps vs F1 H1 h1 g1 r1=>by
 unfold Two at h1
 split at h1
 ·obtain⟨v,r,rfl,r1,v2,r2,e2,r3,e3⟩:=r1
  subst e2
  cases (show r2=[] from e3)
  exact⟨v,v2,rfl,ft.nx F1 H1 _ _ h1 (((br.grow g1).setV r1).setV r3)⟩
 ·exact h1.elim⟩
end
end Pu
end
section
namespace L2
open PySem PySem.Spec PyProof.Rows
noncomputable def IJ:R2:=fun x y H Q=>∃l k xs,x=.ref l/\y=.int k/\H l=some (.tup xs)/\xs≠[]/\1≤k/\k≤1000/\xs.length≤1000/\(k=1->Q (.ref l) H)/\(k≠1->∀p,H p=none->Q (.ref p) (upd H p (.tup (List.replicate k.toNat xs).flatten)))
theorem HL {X:Cx}:mw X (binaryOp .Mult) IJ:=by
 intro pins s σ H x y v u Q I rx ry h
 obtain⟨l,k,xs,rfl,rfl,hH,hx,k1,k2,k3,q⟩:=h
 cases rx
 obtain⟨t,rfl⟩:=ry
 obtain⟨its,r,p1,z⟩:=I.tuple (SqT.of' hH)
 obtain⟨⟨cls,dd,data,sl⟩,e,hc,n,hd⟩:=id p1
 simp only at hc hd
 subst hc hd
 have hl:=r.length
 have z1:sizeLine ≥ 1000000:=by decide
 have hne:its≠[]:=fun w=>hx (r.nil_iff.mp w)
 have pI:its.length * k.toNat≤1000 * 1000:=Nat.mul_le_mul (by omega) (by omega)
 refine wpAny_binaryOp_repeat_ref (T:="tuple") (U:="int") (by decide) ⟨_,e,rfl⟩ (fun s'=>typeIs_int s' k t) oJ PySem.F.fills_int_mul PySem.F.slot_int_rmul vz PySem.F.slot_int_index.lookup
  (call_meets PySem.F.slot_int_rmul (typeIs_int s k t) PySem.F.entry_int_rmul (PySem.F.args_int_rmul_2 _ _) (qK k t l its.toArray n dd sl) ⟨e,rfl,⟨_,e,rfl⟩,?_⟩)
 by_cases hk:k=1
 ·subst hk
  refine call_meets PySem.F.slot_tuple_mul ⟨_,e,rfl⟩ PySem.F.entry_tuple_mul (PySem.F.args_tuple_mul_2 _ _) (qC l its.toArray n dd sl t) ⟨e,?_⟩
  exact⟨.ref l,H,I,rfl,q.1 rfl⟩
 ·have hsz:((its.toArray.size:Nat):Int) * k=((its.length * k.toNat:Nat):Int):=by
   rw[List.size_toArray,Int.natCast_mul,Int.toNat_of_nonneg (by omega)]
  refine call_meets PySem.F.slot_tuple_mul ⟨_,e,rfl⟩ PySem.F.entry_tuple_mul (PySem.F.args_tuple_mul_2 _ _) (sO l its.toArray n dd sl k t ?a1 ?a2 ?a3 ?a4 ?a5 ?a6) ⟨e,?_⟩
  case a1=>simp;omega
  case a2=>simp[hne];exact hk
  case a3=>simp[hne];omega
  case a4=>rw[hsz];omega
  case a5=>
   rw[hsz]
   intro hh
   have h2:=of_decide_eq_true hh
   omega
  case a6=>
   rw[q0,List.size_toArray,uT,Nat.mul_comm]
   omega
  rw[q0]
  refine⟨.ref s.heap.objs.size,_,I.laid (t':=s.toks) (o:=.tup (List.replicate k.toNat xs).flatten) (fun b ob q=>Heap.get?_push_of_some _ q) (Nat.le_refl _) ?_,rfl,q.2 hk _ (I.hok.fresh (Nat.le_refl _))⟩
  exact⟨by rw[uT,Nat.mul_comm,hl];omega,_,r.rep k.toNat,IsTup.new _ _⟩
end L2
namespace Pu
open PySem PySem.Spec L2
section
variable {X:Cx}{e a b c l tg iter:Expr}{pos:Pos}{te ta tb:gU}{t:la}{st:Stmt}{i j:Nat}
noncomputable def NK:mI:=fun x y Q=>OkT x fun ps=>OkI y fun k=>ps≠[]/\1≤k/\k≤1000/\ps.length≤1000/\Q (.tup (List.replicate k.toNat ps).flatten)
theorem F6:jk X.K IJ NK:=fun F H x y p q Qp Q s rx ry h k=>by
 obtain⟨a,vs,ps,rfl,rfl,hF,rs,h⟩:=h.rd rx
 obtain⟨n,rfl,rfl,h1,h2,h3,h4,h⟩:=h.rd ry
 have hl:=rs.length
 refine⟨a,n,vs,rfl,rfl,s _ _ hF,fun e=>?_,h2,h3,by omega,fun e=>?_,fun e p hp=>?_⟩
 ·subst e
  exact h1 (List.length_eq_zero_iff.mp hl.symm)
 ·subst e
  refine k _ _ F H h (.refl s) ⟨a,vs,rfl,hF,?_⟩
  simpa using rs
 ·exact k _ _ _ _ h (.new s hp _) ⟨p,_,rfl,aq,(rs.repF _).mono (bU (s.free hp) _)⟩
theorem Gy (ha:kZ X a ta)(hb:kZ X b tb):iY X (.BinOp a .Mult b pos) (zT NK ta tb):=nU HL F6 ha hb
noncomputable def IV:mI:=fun x y Q=>OkT x fun ps=>OkT y fun qs=>ps≠[]/\ps.length+qs.length≤sizeLine/\Q (.tup (ps++qs))
theorem G3:jk X.K (Is X.K) IV:=fun F H x y p q Qp Q s rx ry h k=>by
 obtain⟨a,vs,ps,rfl,rfl,hF,rs,h⟩:=h.rd rx
 obtain⟨b,us,qs,rfl,rfl,hF2,rs2,h1,h2,h⟩:=h.rd ry
 have hl:=rs.length
 have hl2:=rs2.length
 refine⟨a,b,vs,us,rfl,rfl,SqT.of (s _ _ hF),SqT.of (s _ _ hF2),fun e=>?_,by omega,fun e=>?_,fun e p hp=>?_⟩
 ·subst e
  exact h1 (List.length_eq_zero_iff.mp hl.symm)
 ·subst e
  have:qs=[]:=List.length_eq_zero_iff.mp hl2.symm
  subst this
  rw[List.append_nil] at h
  exact k _ _ F H h (.refl s) ⟨a,vs,rfl,hF,rs⟩
 ·exact k _ _ _ _ h (.new s hp _) ⟨p,_,rfl,aq,(rs.app rs2).mono (bU (s.free hp) _)⟩
theorem HQ (ha:kZ X a ta)(hb:kZ X b tb):iY X (.BinOp a .Add b pos) (zT IV ta tb):=nU Fq G3 ha hb
noncomputable def OR (te:gU)(tl th:AX):gU:=fun ρ Q=>te ρ fun x=>tl ρ fun l=>th ρ fun h=>OkT x fun ps=>¬(HT.sIx ps.length 0 l=0/\HT.sIx ps.length ps.length h=ps.length)/\Q (.tup (cut ps l h))
theorem D1 {lo hi:Option Expr}{tl th:AX}{p2:Pos}(he:kZ X e te)(hl:DF X lo tl)(hh:DF X hi th):iY X (.Subscript e (.Slice lo hi none p2) pos) (OR te tl th):=PE.weak (pY K9 he hl hh) fun σ H Q hh_=>hh_.elim fun F ρ Qp er q k=>⟨F,ρ,_,er,q,fun p v F1 H1 h1 g1 r1=>
 ⟨F1,ρ,_,er.grow g1,h1,fun l F2 H2 h2 g2=>⟨F2,ρ,_,(er.grow g1).grow g2,h2,fun h F3 H3 h3 g3=>by
  have gg:=(g1.trans g2).trans g3
  obtain⟨a,vs,ps,rfl,rfl,hF,rs,hn,q⟩:=h3.rd (r1.grow (g2.trans g3))
  refine⟨a,vs,rfl,SqT.of (gg.fh _ _ hF),by rw[rs.length];exact hn,fun p hp=>k _ _ _ _ q (gg.trans (.new gg.fh hp _)) ⟨p,_,rfl,aq,rs.cut.mono (bU (gg.fh.free hp) _)⟩⟩⟩⟩⟩
noncomputable def Px:PV->Bool
 |.tup ps=>match ps with
  |[.int _,.int _]=>true
  |_=>false
 |_=>false
end
end Pu
end
section
namespace Pu
open PySem PySem.Spec L2
noncomputable def On (n:Nat)(ps:List PV):aC:=ps.map (fun p=>some (Sl.val p))++List.replicate (n - ps.length) none
noncomputable def t6 (K:PySem.W.Frag):Sp:=fun vs H Q _=>∃(a:Addr) (ns:List Int),vs=[.ref a]/\SqL K H a (ns.map V.int)/\ns.length≤63/\∀H',Q (.bl true) H'
theorem jZ {K:PySem.W.Frag}{F:Hp}:∀(ns:List Int),Reps K F (ns.map PV.int) (ns.map V.int)
 |[]=>rfl
 |n::ns=>⟨_,_,rfl,rfl,jZ ns⟩
theorem Aj {X:Cx}{body:List Stmt}{ts:kn}{N:List Str}{H:Hp}{vs:List V}{Q:VK}{E:XK}(hb:qQ X body ts)(h:t6 X.K vs H Q E)
  (hp:∀ns:List Int,ns.length≤63->ts (PEnds.of (fun r=>r=.v (.bl true))) (On N.length [.src (ns.map PV.int)])):∃t,PSs X body t/\t { nx:=fun _ H'=>Q .non H',rt:=Q } (L2.bz N vs) H:=by
 obtain⟨a,ns,rfl,hS,hl,q⟩:=h
 refine⟨_,hb,H,H,H,On N.length [.src (ns.map PV.int)],_,?_,hp ns hl,?_⟩
 ·have er:=xF (K:=X.K) (Same.refl H) N (ps:=[.src (ns.map PV.int)]) (vs:=[.ref a]) ⟨_,_,rfl,⟨a,_,rfl,hS,jZ ns⟩,rfl⟩
  exact⟨er,.refl (Same.refl H),fun i a o=>(mB o).elim,fun i j a o _=>(mB o).elim⟩
 ·refine⟨fun F' H' σ' ρ' q b=>?_,fun F' H' σ' ρ' q b=>q.elim,fun F' H' σ' ρ' q b=>q.elim,fun p v F' H' e g rr=>?_,fun ps a vs F' H' e g h0 hF hH rs=>?_⟩
  ·have e:PR.v .non=PR.v (.bl true):=q
   cases e
  ·have e':PR.v p=PR.v (.bl true):=e
   cases e'
   cases (show v=.bl true from rr)
   exact q H'
  ·have e':PR.n ps=PR.v (.bl true):=e
   cases e'
theorem Ou {l:PySem.W.OpenLaw}{q:Program}{loose:List Str}{XP:(Str->Option Value)->Heap->Prop}{YP:World->Heap->Prop}{d:DefRec}{K:Params->PySem.W.Frag}{k:Nat}(hk:k≤40)(hn:l.most=some 63)(hdf:d.params.defaults=[])
  (hY:∀(w:World) (h:Heap),YP w h->(K w.params).In h)
  (F:∀(w:World) (mg:Str->Option Value) (fa:Addr) (h:Heap),(K w.params).In h->h.Ns mainGlobals mg->mg d.name=some (.ref fa) →
   ∃fd:FuncData,(∀(s:Shared) (u:Value),BindsTo s fd ⟨[u],[]⟩ [("_law_script",u)])/\∀base:Heap,(K w.params).In base/\base.Ns mainGlobals mg->FnOk l.prog w (K w.params) mg base xM k fa fd ["_law_script"] (t6 (K w.params))) :
  PySem.W.WalkO q loose XP YP l.row.toRowW d [] (fun f vs=>PySem.call f vs):=by
 have R:Room 40 callerA:=⟨rfl,by decide,by decide⟩
 exact L2.Fa (n:=63) (k:=k) (x:="_law_script") (CX:=fun _=>xM) (sp:=fun w=>t6 (K w.params)) hn (by first|decide|omega) hdf (R.mono hk) hY (fun w mg fa h a b c=>let ⟨fd,x,y⟩:=F w mg fa h a b c;⟨fd,x,fun base p1 p2=>y base ⟨p1,p2⟩⟩)
  (fun _ _ a ns hl _ hS=>⟨a,ns,rfl,hS,hl,fun _=>rfl⟩) fun _ _ _ _ _ z=>z
end Pu
end
section
namespace Fo
noncomputable abbrev up (us:List Nat)(x:Nat):Nat:=us.getD x 0
theorem bu {us:List Nat}{x v t:Nat}(hx:x<us.length):up (us.set x v) t=if t=x then v else up us t:=by
 simp only[up,List.getD_eq_getElem?_getD,List.getElem?_set]
 by_cases h:x=t
 ·subst h;simp[hx]
 ·simp[h,Ne.symm h]
structure Fst (us:List Nat):Prop where
 bnd:∀x,x<us.length->up us x<us.length
 rk:∃r:Nat->Nat,(∀x,x<us.length->r x<us.length)/\∀x,x<us.length->up us x≠x->r (up us x)<r x
inductive Way (us:List Nat):Nat->List Nat->Prop where
 |head {x:Nat}:up us x=x->Way us x [x]
 |step {x:Nat} {l:List Nat}:up us x≠x->Way us (up us x) l->Way us x (x::l)
theorem Way.det {us:List Nat}{x:Nat}{l l':List Nat}(h:Way us x l)(h':Way us x l'):l=l':=by
 induction h generalizing l' with
 |head e=>cases h' with
  |head _=>rfl
  |step n _=>exact absurd e n
 |step n _ ih=>cases h' with
  |head e=>exact absurd e n
  |step _ q=>rw[ih q]
theorem Way.ne {us:List Nat}{x:Nat}{l:List Nat}(h:Way us x l):l≠[]:=by cases h<;>simp
theorem Way.pos {us:List Nat}{x:Nat}{l:List Nat}(h:Way us x l):1≤l.length:=by cases h<;>simp
theorem Way.mem_self {us:List Nat}{x:Nat}{l:List Nat}(h:Way us x l):x∈l:=by cases h<;>simp
noncomputable def cM (l:List Nat):Nat:=l.getLastD 0
theorem cA {x:Nat}{l:List Nat}(h:l≠[]):cM (x::l)=cM l:=by
 cases l with
 |nil=>exact absurd rfl h
 |cons y t=>simp[cM,List.getLastD_cons]
theorem ql {l:List Nat}(h:l≠[]):cM l∈l:=by
 induction l with
 |nil=>exact absurd rfl h
 |cons y t ih=>
  cases t with
  |nil=>simp[cM]
  |cons z t=>rw[cA (by simp)];exact List.mem_cons_of_mem _ (ih (by simp))
theorem Way.head_last {us:List Nat}{x:Nat}{l:List Nat}(h:Way us x l):up us (cM l)=cM l:=by
 induction h with
 |head e=>exact e
 |step _ w ih=>rw[cA w.ne];exact ih
theorem Way.lt {us:List Nat}{x:Nat}{l:List Nat}(h:Way us x l)(b:∀x,x<us.length->up us x<us.length)(hx:x<us.length):∀y∈l,y<us.length:=by
 induction h with
 |head e=>intro y hy;rw[List.mem_singleton] at hy;subst hy;exact hx
 |step n w ih=>
  intro y hy
  rcases List.mem_cons.mp hy with rfl|hy
  ·exact hx
  ·exact ih (b _ hx) y hy
theorem Way.rank {us:List Nat}{x:Nat}{l:List Nat}(h:Way us x l)(b:∀x,x<us.length->up us x<us.length){r:Nat->Nat}(hr:∀x,x<us.length->up us x≠x->r (up us x)<r x)(hx:x<us.length):∀y∈l,r y≤r x:=by
 induction h with
 |head e=>intro y hy;rw[List.mem_singleton] at hy;subst hy;exact Nat.le_refl _
 | @step x l n w ih=>
  intro y hy
  rcases List.mem_cons.mp hy with rfl|hy
  ·exact Nat.le_refl _
  ·exact Nat.le_trans (ih (b _ hx) y hy) (Nat.le_of_lt (hr x hx n))
theorem Way.nodup {us:List Nat}{x:Nat}{l:List Nat}(h:Way us x l)(f:Fst us)(hx:x<us.length):l.Nodup:=by
 obtain⟨b,r,hb,hr⟩:=f
 induction h with
 |head e=>simp
 | @step x l n w ih=>
  refine List.nodup_cons.mpr ⟨fun hm=>?_,ih (b _ hx)⟩
  have h1:=w.rank b hr (b _ hx) x hm
  have h2:=hr x hx n
  omega
theorem Fst.way {us:List Nat}(f:Fst us){x:Nat}(hx:x<us.length):∃l,Way us x l/\l.length≤us.length:=by
 obtain⟨b,r,hb,hr⟩:=f
 suffices h:∀k x,x<us.length->r x≤k->∃l,Way us x l/\l.length≤k+1 by
  obtain⟨l,w,hl⟩:=h (r x) x hx (Nat.le_refl _)
  exact⟨l,w,by have:=hb x hx;omega⟩
 intro k
 induction k with
 |zero=>
  intro x hx h0
  by_cases e:up us x=x
  ·exact⟨_,.head e,by simp⟩
  ·exact absurd (hr x hx e) (by omega)
 |succ k ih=>
  intro x hx h0
  by_cases e:up us x=x
  ·exact⟨_,.head e,by simp⟩
  ·obtain⟨l,w,hl⟩:=ih (up us x) (b x hx) (by have:=hr x hx e;omega)
   exact⟨_,.step e w,by simp;omega⟩
theorem Way.congr {us us':List Nat}{x:Nat}{l:List Nat}(h:Way us x l)(e:∀y∈l,up us' y=up us y):Way us' x l:=by
 induction h with
 | @head x q=>exact .head (by rw[e x (by simp),q])
 | @step x l n w ih=>
  have q:up us' x=up us x:=e x (by simp)
  exact .step (by rw[q];exact n) (by rw[q];exact ih fun y hy=>e y (List.mem_cons_of_mem _ hy))
theorem Way.closed {us:List Nat}{x:Nat}{l:List Nat}(h:Way us x l):∀y∈l,up us y∈l:=by
 induction h with
 | @head x q=>intro y hy;rw[List.mem_singleton] at hy;subst hy;rw[q];simp
 | @step x l n w ih=>
  intro y hy
  rcases List.mem_cons.mp hy with rfl|hy
  ·exact List.mem_cons_of_mem _ w.mem_self
  ·exact List.mem_cons_of_mem _ (ih y hy)
theorem Way.later {us:List Nat}{x:Nat}{l:List Nat}(h:Way us x l):∀y∈l,∃l2,Way us y l2/\cM l2=cM l/\l2.length≤l.length/\∀z∈l2,z∈l:=by
 induction h with
 | @head x q=>intro y hy;rw[List.mem_singleton] at hy;subst hy;exact⟨_,.head q,rfl,Nat.le_refl _,fun _ h=>h⟩
 | @step x l n w ih=>
  intro y hy
  rcases List.mem_cons.mp hy with rfl|hy
  ·exact⟨_,.step n w,rfl,Nat.le_refl _,fun _ h=>h⟩
  ·obtain⟨l2,a,b,c,d⟩:=ih y hy
   exact⟨l2,a,by rw[b,cA w.ne],by simp;omega,fun z hz=>List.mem_cons_of_mem _ (d z hz)⟩
structure Shorter (us us':List Nat):Prop where
 len:us'.length=us.length
 up:∀t,t<us.length->(up us t=t/\Fo.up us' t=t)\/(Fo.up us t≠t/\∃l,Way us (Fo.up us t) l/\Fo.up us' t∈l)
theorem Shorter.refl {us:List Nat}(f:Fst us):Shorter us us:=⟨rfl,fun t ht=>by
 by_cases e:Fo.up us t=t
 ·exact .inl ⟨e,e⟩
 ·obtain⟨l,w,_⟩:=f.way (f.bnd t ht)
  exact .inr ⟨e,l,w,w.mem_self⟩⟩
theorem Shorter.fst {us us':List Nat}(s:Shorter us us')(f:Fst us):Fst us':=by
 obtain⟨b,r,hb,hr⟩:=f
 refine⟨fun x hx=>?_,r,fun x hx=>?_,fun x hx hn=>?_⟩
 ·rw[s.len] at hx ⊢
  rcases s.up x hx with ⟨_,e⟩|⟨_,l,w,m⟩
  ·rw[e];exact hx
  ·exact w.lt b (b x hx) _ m
 ·rw[s.len] at hx ⊢;exact hb x hx
 ·rw[s.len] at hx
  rcases s.up x hx with ⟨_,e⟩|⟨n,l,w,m⟩
  ·exact absurd e hn
  ·exact Nat.lt_of_le_of_lt (w.rank b hr (b x hx) _ m) (hr x hx n)
theorem Shorter.way {us us':List Nat}(s:Shorter us us')(f:Fst us){t:Nat}(ht:t<us.length){l:List Nat}(w:Way us t l):∃l',Way us' t l'/\cM l'=cM l/\l'.length≤l.length:=by
 obtain⟨b,r,hb,hr⟩:=f
 suffices h:∀k t,t<us.length->r t≤k->∀l,Way us t l->∃l',Way us' t l'/\cM l'=cM l/\l'.length≤l.length from h (r t) t ht (Nat.le_refl _) l w
 intro k
 induction k with
 |zero=>
  intro t ht h0 l w
  rcases s.up t ht with ⟨e,e'⟩|⟨n,_⟩
  ·cases w with
   |head _=>exact⟨_,.head e',rfl,Nat.le_refl _⟩
   |step n _=>exact absurd e n
  ·exact absurd (hr t ht n) (by omega)
 |succ k ih=>
  intro t ht h0 l w
  rcases s.up t ht with ⟨e,e'⟩|⟨n,l1,w1,m⟩
  ·cases w with
   |head _=>exact⟨_,.head e',rfl,Nat.le_refl _⟩
   |step n _=>exact absurd e n
  ·cases w with
   |head e=>exact absurd e n
   | @step _ l0 _ w0=>
    obtain rfl:=w0.det w1
    obtain⟨l2,w2,e2,c2,_⟩:=w0.later _ m
    have hy:Fo.up us' t<us.length:=w0.lt b (b t ht) _ m
    have hry:r (Fo.up us' t)<r t:=Nat.lt_of_le_of_lt (w0.rank b hr (b t ht) _ m) (hr t ht n)
    obtain⟨l3,w3,e3,c3⟩:=ih _ hy (by omega) l2 w2
    refine⟨t::l3,.step (fun e=>?_) w3,?_,?_⟩
    ·rw[e] at hry;omega
    ·rw[cA w3.ne,e3,e2,cA w0.ne]
    ·simp;omega
inductive Halv:List Nat->Nat->Nat->List Nat->Nat->Prop where
 |stop {us:List Nat} {x:Nat}:up us x=x->Halv us x x us 0
 |step {us:List Nat} {x h n:Nat} {us':List Nat}:up us x≠x->Halv (us.set x (up us (up us x))) (up us (up us x)) h us' n->Halv us x h us' (n+1)
inductive Splt:List Nat->Nat->Nat->List Nat->Nat->Prop where
 |stop {us:List Nat} {x:Nat}:up us x=x->Splt us x x us 0
 |step {us:List Nat} {x h n:Nat} {us':List Nat}:up us x≠x->Splt (us.set x (up us (up us x))) (up us x) h us' n->Splt us x h us' (n+1)
noncomputable def jw (us:List Nat)(l:List Nat)(h:Nat):List Nat:=l.foldl (fun u t=>u.set t h) us
theorem ym (us l:List Nat)(h:Nat):(jw us l h).length=us.length:=by
 induction l generalizing us with
 |nil=>rfl
 |cons x t ih=>rw[jw,List.foldl_cons,←jw,ih,List.length_set]
theorem BB {us l:List Nat}{h:Nat}(hl:∀y∈l,y<us.length)(t:Nat):up (jw us l h) t=if t∈l then h else up us t:=by
 induction l generalizing us with
 |nil=>simp[jw]
 |cons x l ih=>
  rw[jw,List.foldl_cons,←jw,ih fun y hy=>by rw[List.length_set];exact hl y (List.mem_cons_of_mem _ hy),bu (hl x (by simp))]
  by_cases h1:t∈l
  ·simp[h1]
  ·by_cases h2:t=x
   ·simp[h2]
   ·simp[h1,h2]
theorem Way.set {us:List Nat}{x y v:Nat}{l:List Nat}(w:Way us y l)(hx:x<us.length)(h:x∉l):Way (us.set x v) y l:=
 w.congr fun z hz=>by rw[bu hx,if_neg (fun e:z=x=>h (e▸hz))]
theorem zW {x:Nat}{l:List Nat}:∀{us:List Nat},Way us x l->l.Nodup->(∀y∈l,y<us.length)->∃us',Splt us x (cM l) us' (l.length - 1)/\us'.length=us.length/\∀t,up us' t=if t∈l then up us (up us t) else up us t:=by
 induction l generalizing x with
 |nil=>intro us w;exact absurd rfl w.ne
 |cons z l ih=>
  intro us w nd hl
  cases w with
  |head e=>exact⟨us,.stop e,rfl,fun t=>by
    by_cases h:t∈[z]
    ·rw[List.mem_singleton] at h;subst h;rw[if_pos (by simp),e,e]
    ·rw[if_neg h]⟩
  |step n w=>
   have hz:z<us.length:=hl z (by simp)
   obtain⟨nz,nd⟩:=List.nodup_cons.mp nd
   obtain⟨us',a,b,c⟩:=ih (w.set (v:=up us (up us z)) hz nz) nd fun y hy=>by rw[List.length_set];exact hl y (List.mem_cons_of_mem _ hy)
   have pos:=w.pos
   refine⟨us',?_,by rw[b,List.length_set],fun t=>?_⟩
   ·rw[cA w.ne]
    have:(z::l).length - 1=(l.length - 1)+1:=by simp;omega
    rw[this]
    exact .step n a
   ·rw[c]
    have cl:=w.closed
    by_cases h1:t∈l
    ·have h2:t≠z:=fun e=>nz (e▸h1)
     have h3:up us t≠z:=fun e=>nz (e▸cl t h1)
     rw[if_pos h1,if_pos (List.mem_cons_of_mem _ h1),bu hz,bu hz,if_neg h2,if_neg h3]
    ·rw[if_neg h1,bu hz]
     by_cases h2:t=z
     ·subst h2;simp
     ·rw[if_neg h2,if_neg (by simp[h1,h2])]
noncomputable def kc:List Nat->List Nat
 |[]=>[]
 |[x]=>[x]
 |x::_::l=>x::kc l
theorem mE:∀(l:List Nat) (x:Nat),x∈kc l->x∈l
 |[],_,h=>h
 |[_],_,h=>h
 |x::y::l,z,h=>by
  rcases List.mem_cons.mp h with rfl|h
  ·simp
  ·exact List.mem_cons_of_mem _ (List.mem_cons_of_mem _ (mE l z h))
theorem u9:∀(l:List Nat) {x:Nat} {us:List Nat},Way us x l->l.Nodup->(∀y∈l,y<us.length)->∃us',Halv us x (cM l) us' (l.length / 2)/\us'.length=us.length/\∀t,up us' t=if t∈kc l then up us (up us t) else up us t
 |[],_,_,w,_,_=>absurd rfl w.ne
 |[z],_,us,w,nd,hl=>by
  cases w with
  |head e=>exact⟨us,(show ([z].length / 2=0) from (by simp))▸Halv.stop e,rfl,fun t=>by
    by_cases h:t∈kc [z]
    ·have h':t∈[z]:=h
     rw[List.mem_singleton] at h';subst h';rw[if_pos h,e,e]
    ·rw[if_neg h]⟩
  |step n w=>exact absurd rfl w.ne
 |z::y::l,_,us,w,nd,hl=>by
  cases w with
  |step n w=>
   have hz:z<us.length:=hl z (by simp)
   obtain⟨nz,nd⟩:=List.nodup_cons.mp nd
   cases w with
   |head e=>
    refine⟨us.set z (up us z),?_,by rw[List.length_set],fun t=>?_⟩
    ·have q:Halv (us.set z (up us (up us z))) (up us (up us z)) (up us z) (us.set z (up us z)) 0:=by
      rw[e]
      exact .stop (by rw[bu hz,if_neg n,e])
     have h1:[z,up us z].length / 2=0+1:=by simp
     rw[h1]
     exact Halv.step n q
    ·rw[bu hz]
     by_cases h:t=z
     ·subst h;rw[if_pos rfl,if_pos (by simp[kc]),e]
     ·rw[if_neg h,if_neg (by simp[kc,h])]
   |step n2 w=>
    have hm:z∉l:=fun h=>nz (List.mem_cons_of_mem _ h)
    obtain⟨us',a,b,c⟩:=u9 l (w.set (v:=up us (up us z)) hz hm) (List.nodup_cons.mp nd).2 fun q hq=>by rw[List.length_set];exact hl q (List.mem_cons_of_mem _ (List.mem_cons_of_mem _ hq))
    refine⟨us',?_,by rw[b,List.length_set],fun t=>?_⟩
    ·have e3:cM (z::up us z::l)=cM l:=by rw[cA (by simp),cA w.ne]
     have e4:(z::up us z::l).length / 2=l.length / 2+1:=by simp;omega
     rw[e3,e4]
     exact Halv.step n a
    ·rw[c]
     have cl:=w.closed
     by_cases h1:t∈kc l
     ·have h0:t∈l:=mE l t h1
      have h2:t≠z:=fun e=>hm (e▸h0)
      have h3:up us t≠z:=fun e=>hm (e▸cl t h0)
      rw[if_pos h1,if_pos (by simp[kc,h1]),bu hz,bu hz,if_neg h2,if_neg h3]
     ·rw[if_neg h1,bu hz]
      by_cases h2:t=z
      ·subst h2;rw[if_pos rfl,if_pos (by simp[kc])]
      ·rw[if_neg h2,if_neg (by simp[kc,h1,h2])]
end Fo
end
section
namespace Fo
open PySem
noncomputable def wo (us:List Nat)(x h:Nat)(us':List Nat)(n:Nat):Prop:=us'=us/\∃l,Way us x l/\h=cM l/\n+1=l.length
noncomputable def ur (us:List Nat)(x h:Nat)(us':List Nat)(n:Nat):Prop:=∃l,Way us x l/\h=cM l/\n=l.length / 2/\us'.length=us.length/\∀t,up us' t=if t∈kc l then up us (up us t) else up us t
noncomputable def vi (us:List Nat)(x h:Nat)(us':List Nat)(n:Nat):Prop:=∃l,Way us x l/\h=cM l/\n+1=l.length/\us'.length=us.length/\∀t,up us' t=if t∈l then up us (up us t) else up us t
noncomputable def LS (us:List Nat)(x h:Nat)(us':List Nat)(n:Nat):Prop:=us'=us.set x (up us (up us x))/\∃l,Way us x l/\h=cM l/\n+1=l.length
noncomputable def xT (us:List Nat)(x h:Nat)(us':List Nat)(n:Nat):Prop:=∃l,Way us x l/\h=cM l/\n+1=l.length/\us'.length=us.length/\∀t,up us' t=if t∈l then h else up us t
inductive RM:Str->List Nat->Nat->Nat->List Nat->Nat->Prop where
 |none {us x h us' n}:wo us x h us' n->RM "none" us x h us' n
 |whole {us x h us' n}:xT us x h us' n->RM "whole" us x h us' n
 |halves {us x h us' n}:ur us x h us' n->RM "halves" us x h us' n
 |splits {us x h us' n}:vi us x h us' n->RM "splits" us x h us' n
 |one {us x h us' n}:LS us x h us' n->RM "one" us x h us' n
noncomputable def bt:List Str:=["none","whole","halves","splits","one"]
structure Frst (us:List Nat):Prop where
 one:1≤us.length
 most:us.length≤40
 fst:Fst us
end Fo
namespace Pu
open PySem PySem.Spec L2 Fo
noncomputable def nI (n:Nat):PV:=.int n
noncomputable def ak (us:List Nat):List PV:=us.map nI
noncomputable def qp:zP:=fun qs Q=>∃y:Str,qs=[.str y]/\Q (.v (.bl (decide (y∈bt))))
noncomputable def tZ:zP:=fun qs Q=>∃us y x,qs=[.tup (ak us),.str y,nI x]/\Frst us/\y∈bt/\x<us.length/\∀h us' n,RM y us x h us' n->Q (.v (.tup [nI h,.tup (ak us'),nI n]))
theorem Grow.tup {F H F' H':Hp}(g:Grow F H F' H'){p:Addr}{vs:List V}(h:H' p=some (.tup vs)):Grow F H (L2.upd F' p (.tup vs)) H'/\Same F' (L2.upd F' p (.tup vs)):=by
 have sm:Same F' (L2.upd F' p (.tup vs)):=fun b o e=>by
  by_cases hb:b=p
  ·subst hb;rw[aq,←h];exact (g.fh b o e)
  ·rw[ay hb];exact e
 refine⟨⟨g.hh,g.ff.trans sm,fun b o e=>?_,fun b o e=>?_⟩,sm⟩
 ·by_cases hb:b=p
  ·subst hb;rw[aq] at e;rw[h];exact e
  ·rw[ay hb] at e;exact g.fh b o e
 ·by_cases hb:b=p
  ·subst hb;rw[aq] at e;cases e;exact .inr (.inr ⟨_,rfl⟩)
  ·rw[ay hb] at e;exact g.nw b o e
theorem tV {K:PySem.W.Frag}{F:Hp}:∀(us:List Nat),Reps K F (ak us) (us.map fun n:Nat=>V.int (n:Int))
 |[]=>rfl
 |n::us=>⟨_,_,rfl,rfl,tV us⟩
theorem kx {K:PySem.W.Frag}{F:Hp}:∀{us:List Nat} {vs:List V},Reps K F (ak us) vs->vs=us.map fun n:Nat=>V.int (n:Int)
 |[],_,h=>h
 |n::us,_,⟨v,r,e,h1,h2⟩=>by
  subst e
  cases (show v=_ from h1)
  rw[kx h2];rfl
end Pu
end
section
namespace Dp
open PySem PySem.Spec L2 Pu
inductive RV where
 |fz (p:PV)|nw (ps:List PV)|ln (p:PV)
noncomputable def RV.pv:RV->PV
 |.fz p=>p
 |.nw ps=>.lst ps
 |.ln p=>p
noncomputable def RV.fr:RV->Option PV
 |.fz p=>some p
 |.nw ps=>some (.lst ps)
 |.ln _=>none
noncomputable abbrev FE:=aC->Option RV
noncomputable abbrev FB:=aC->Option Bool
noncomputable abbrev FA:=aC->Option (List RV)
noncomputable abbrev FI:=aC->Option (List PV)
noncomputable def RvOk (K:PySem.W.Frag)(H F' H':Hp)(v:V):RV->Prop
 |.fz p=>Rep K F' p v
 |.nw ps=>∃a vs,v=.ref a/\H a=none/\F' a=none/\H' a=some (.lst vs)/\Reps K F' ps vs
 |.ln p=>RdV K F' H' p v
noncomputable def lR (K:PySem.W.Frag)(f:FE):TE:=fun σ H Q=>∃F ρ r,ER K F H σ ρ/\f ρ=some r/\∀v F' H',Grow F H F' H'->RvOk K H F' H' v r->Q v H'
theorem lR.elim {K:PySem.W.Frag}{f:FE}{σ:St}{H:Hp}{Q:VK}{C:Prop}(h:lR K f σ H Q)(k:∀F ρ r,ER K F H σ ρ->f ρ=some r->(∀v F' H',Grow F H F' H'->RvOk K H F' H' v r->Q v H')->C):C:=by obtain⟨F,ρ,r,a,b,c⟩:=h;exact k F ρ r a b c
noncomputable def DE (X:Cx)(e:Expr)(f:FE):Prop:=PE X e (lR X.K f)
noncomputable def tT (f:FE):gU:=fun ρ Q=>∃r,f ρ=some r/\Q r.pv
noncomputable def tF (f:FE):gU:=fun ρ Q=>∃r p,f ρ=some r/\r.fr=some p/\Q p
noncomputable def tN (f:FE):vj:=fun ρ Q=>∃ps,f ρ=some (.nw ps)/\Q ps
noncomputable def EJ (f:FB):nr:=fun ρ Q=>∃b,f ρ=some b/\Q b
noncomputable def Mk (f:FA):la:=fun ρ Q=>∃rs ps,f ρ=some rs/\rs.mapM RV.fr=some ps/\Q ps
noncomputable def JL (f:FA):la:=fun ρ Q=>∃rs,f ρ=some rs/\Q (rs.map RV.pv)
noncomputable def JH (f:FI):uK:=fun ρ Q=>∃its,f ρ=some its/\Q its
section
variable {X:Cx}{e a b c:Expr}{pos:Pos}{f fa fb fc:FE}{te t1 t2:gU}{tn n1 n2:vj}{i:Nat}
theorem RvOk.rd {K:PySem.W.Frag}{H F' H':Hp}{v:V}:∀{r:RV},RvOk K H F' H' v r->RdV K F' H' r.pv v
 |.fz _,h=>.frz h
 |.nw _,⟨_,_,e,_,h1,h2,h3⟩=>by subst e;exact .own h2 h1 h3
 |.ln _,h=>h
theorem DE.tt (h:DE X e f):kZ X e (tT f):=PE.weak h fun σ H Q hh_=>hh_.elim fun F ρ Qp er ⟨r,e,q⟩ k=>⟨F,ρ,r,er,e,fun v F' H' g ro=>k _ v F' H' q g ro.rd⟩
theorem DE.ee (h:DE X e f):iY X e (tF f):=PE.weak h fun σ H Q hh_=>hh_.elim fun F ρ Qp er ⟨r,p,e,ef,q⟩ k=>⟨F,ρ,r,er,e,fun v F' H' g ro=>by
 cases r with
 |fz p'=>cases ef;exact k _ v F' H' q g ro
 |nw ps=>
  cases ef
  obtain⟨a,vs,rfl,h0,hF,hH,rs⟩:=ro
  exact k _ _ _ H' q (g.freeze h0 hF hH) ⟨a,vs,rfl,aq,rs.mono (bU hF _)⟩
 |ln p'=>cases ef⟩
theorem DE.nn (h:DE X e f):yv X e (tN f):=PE.weak h fun σ H Q hh_=>hh_.elim fun F ρ Qp er ⟨ps,e,q⟩ k=>⟨F,ρ,_,er,e,fun v F' H' g ro=>by
 obtain⟨a,vs,rfl,h0,hF,hH,rs⟩:=ro
 exact k ps a vs F' H' q g h0 hF hH rs⟩
theorem DE.ofE (h:iY X e te)(w:∀ρ r,f ρ=some r->∃p,r=.fz p/\te ρ (fun x=>x=p)):DE X e f:=PE.weak h fun σ H Q hh_=>hh_.elim fun F ρ r er e k=>by
 obtain⟨p,rfl,t⟩:=w ρ r e
 exact⟨F,ρ,_,er,t,fun q v F' H' hq g rr=>by subst hq;exact k v F' H' g rr⟩
theorem DE.ofN (h:yv X e tn)(w:∀ρ r,f ρ=some r->∃ps,r=.nw ps/\tn ρ (fun x=>x=ps)):DE X e f:=PE.weak h fun σ H Q hh_=>hh_.elim fun F ρ r er e k=>by
 obtain⟨p,rfl,t⟩:=w ρ r e
 exact⟨F,ρ,_,er,t,fun q a vs F' H' hq g h0 hF hH rr=>by subst hq;exact k _ F' H' g ⟨a,vs,rfl,h0,hF,hH,rr⟩⟩
theorem PE.or {t u:TE}(h:PE X e t)(h':PE X e u):PE X e (fun σ H Q=>t σ H Q\/u σ H Q):=fun pins s σ H Q I q=>q.elim (h pins s σ H Q I) (h' pins s σ H Q I)
theorem DE.of2 (hE:iY X e te)(hN:yv X e tn)(w:∀ρ r,f ρ=some r->(∃p,r=.fz p/\te ρ (fun x=>x=p))\/∃ps,r=.nw ps/\tn ρ (fun x=>x=ps)):DE X e f:=PE.weak (PE.or hE hN) fun σ H Q hh_=>hh_.elim fun F ρ r er e k=>by
 rcases w ρ r e with ⟨p,rfl,t⟩|⟨p,rfl,t⟩
 ·exact .inl ⟨F,ρ,_,er,t,fun q v F' H' hq g rr=>by subst hq;exact k v F' H' g rr⟩
 ·exact .inr ⟨F,ρ,_,er,t,fun q a vs F' H' hq g h0 hF hH rr=>by subst hq;exact k _ F' H' g ⟨a,vs,rfl,h0,hF,hH,rr⟩⟩
theorem rj (h:iY X e t1)(h':iY X e t2):iY X e (fun ρ Q=>t1 ρ Q\/t2 ρ Q):=PE.weak (PE.or h h') fun σ H Q hh_=>hh_.elim fun F ρ Qp er q k=>q.elim (fun q=>.inl ⟨F,ρ,Qp,er,q,k⟩) fun q=>.inr ⟨F,ρ,Qp,er,q,k⟩
theorem CU (h:yv X e n1)(h':yv X e n2):yv X e (fun ρ Q=>n1 ρ Q\/n2 ρ Q):=PE.weak (PE.or h h') fun σ H Q hh_=>hh_.elim fun F ρ Qp er q k=>q.elim (fun q=>.inl ⟨F,ρ,Qp,er,q,k⟩) fun q=>.inr ⟨F,ρ,Qp,er,q,k⟩
noncomputable def sl (ρ:aC)(i:Nat):Option Sl:=(ρ[i]?).join
noncomputable def GQ:Sl->RV
 |.val p=>.fz p
 |.own ps=>.ln (.lst ps)
 |.dic ks ps=>.ln (.dct ks ps)
noncomputable def fV (i:Nat):FE:=fun ρ=>(sl ρ i).map GQ
theorem kB {ρ:aC}{s:Sl}(h:sl ρ i=some s):ρ[i]?=some (some s):=by
 unfold sl at h
 cases q:ρ[i]? with
 |none=>rw[q] at h;cases h
 |some o=>rw[q] at h;rw[show o=some s from h]
theorem ao (h:PE X e (cL i)):DE X e (fV i):=PE.weak h fun σ H Q hh_=>hh_.elim fun F ρ r er e k=>by
 unfold fV at e
 obtain⟨s,es,rfl⟩:=Option.map_eq_some_iff.mp e
 have e1:=kB es
 obtain⟨v,ev,rd⟩:=er.rd e1
 refine⟨v,ev,k v F H (.refl er.fz) ?_⟩
 cases s with
 |val p=>
  have:=er.sl i _ e1
  rw[ev] at this
  exact this
 |own ps=>exact rd
 |dic ks ps=>exact rd
noncomputable def fC (p:PV):FE:=fun _=>some (.fz p)
theorem x9 {p:PV}(h:iY X e (pC p)):DE X e (fC p):=.ofE h fun ρ r e=>by cases e;exact⟨p,rfl,rfl⟩
theorem au {i:Int}{j}:DE X (.Constant (.int i) j pos) (fC (.int i)):=x9 Km
theorem wG {i:Bool}{j}:DE X (.Constant (.bool i) j pos) (fC (.bl i)):=x9 NL
theorem IX {j}:DE X (.Constant .none j pos) (fC .non):=x9 Kh
theorem eZ {x:Str}{j}:DE X (.Constant (.str x) j pos) (fC (.str x)):=x9 LU
noncomputable def aj (g:PV->PV->Option RV)(a b:FE):FE:=fun ρ=>(a ρ).bind fun x=>(b ρ).bind fun y=>g x.pv y.pv
theorem xf {α β γ:Type}{a:Option α}{b:Option β}{g:α->β->Option γ}{r:γ}(h:(a.bind fun x=>b.bind fun y=>g x y)=some r):∃x y,a=some x/\b=some y/\g x y=some r:=by
 obtain⟨x,e1,h⟩:=Option.bind_eq_some_iff.mp h
 obtain⟨y,e2,h⟩:=Option.bind_eq_some_iff.mp h
 exact⟨x,y,e1,e2,h⟩
theorem AO {g:PV->PV->Option RV}{gE:mI}(h:iY X e (zT gE (tT fa) (tT fb)))(w:∀x y r,g x y=some r->∃p,r=.fz p/\gE x y (fun z=>z=p)):DE X e (aj g fa fb):=.ofE h fun ρ r e=>by
 obtain⟨x,y,e1,e2,e3⟩:=xf e
 obtain⟨p,rfl,q⟩:=w _ _ r e3
 exact⟨p,rfl,x,e1,y,e2,q⟩
noncomputable def rI (f:Int->Int->PV):PV->PV->Option RV
 |.int i,.int j=>some (.fz (f i j))
 |_,_=>none
theorem MB {f:Int->Int->PV}:∀x y r,rI f x y=some r->∃p,r=.fz p/\GV f x y (fun z=>z=p):=fun x y r h=>by
 unfold rI at h
 split at h
 ·cases h;exact⟨_,rfl,rfl⟩
 ·cases h
noncomputable def N6 (C:Int->Int->Prop)[∀i j,Decidable (C i j)](f:Int->Int->PV):PV->PV->Option RV
 |.int i,.int j=>if C i j then some (.fz (f i j)) else none
 |_,_=>none
theorem yP {C D:Int->Int->Prop}[∀i j,Decidable (C i j)]{f:Int->Int->PV}(hc:∀i j,C i j->D i j):∀x y r,N6 C f x y=some r->∃p,r=.fz p/\Pu.gI D f x y (fun z=>z=p):=fun x y r h=>by
 unfold N6 at h
 split at h
 ·split at h
  ·cases h;exact⟨_,rfl,hc _ _ (by assumption),rfl⟩
  ·cases h
 ·cases h
end
end Dp
end
section
namespace Dp
open PySem PySem.Spec L2 Pu
theorem big {n:Nat}(h:n≤100000):n≤sizeLine:=Nat.le_trans h (by decide)
theorem PM {n:Nat}(h:n≤100000):n<sizeLine:=Nat.lt_of_le_of_lt h (by decide)
section
variable {X:Cx}{e a b c:Expr}{es eW:List Expr}{pos:Pos}{f fa fb fc:FE}{fs:FA}{i:Nat}{ba bb:FB}
noncomputable def bo:PV->PV->Option RV
 |.int i,.int j=>some (.fz (.int (i+j)))
 |.lst ps,.lst qs=>if ps.length+qs.length≤100000 then some (.nw (ps++qs)) else none
 |.tup ps,.tup qs=>if ps.isEmpty=false/\ps.length+qs.length≤100000 then some (.fz (.tup (ps++qs))) else none
 |.str x,.str y=>if x.length+y.length≤100000 then some (.fz (.str (x++y))) else none
 |_,_=>none
noncomputable def II:mI:=fun x y Q=>match x,y with
 |.str x,.str y=>x.length+y.length≤sizeLine/\Q (.str (x++y))
 |_,_=>False
theorem Fs:jk X.K (fun x y H Q=>∃i j,x=.str i/\y=.str j/\i.length+j.length≤sizeLine/\Q (.str (i++j)) H) II:=fun F H x y p q Qp Q s rx ry h k=>by
 unfold II at h
 split at h
 ·cases rx with
  |frz rx=>cases ry with
   |frz ry=>exact⟨_,_,rx,ry,h.1,k _ _ F H h.2 (.refl s) rfl⟩
 ·exact h.elim
theorem da (ha:DE X a fa)(hb:DE X b fb):DE X (.BinOp a .Add b pos) (aj bo fa fb):=
 .of2 (rj (Kj ha.tt hb.tt) (rj (HQ ha.tt hb.tt) (nU y4 Fs ha.tt hb.tt))) (J4 ha.tt hb.tt) fun ρ r e=>by
  obtain⟨x,y,e1,e2,e3⟩:=xf e
  unfold bo at e3
  split at e3
  ·next p q=>cases e3;exact .inl ⟨_,rfl,.inl ⟨x,e1,y,e2,by rw[p,q];rfl⟩⟩
  ·next ps qs p q=>
   split at e3
   ·cases e3;exact .inr ⟨_,rfl,x,e1,y,e2,by rw[p,q];exact⟨big (by assumption),rfl⟩⟩
   ·cases e3
  ·next ps qs p q=>
   split at e3
   ·next h=>cases e3;exact .inl ⟨_,rfl,.inr (.inl ⟨x,e1,y,e2,by rw[p,q];exact⟨by intro z;subst z;exact absurd h.1 (by decide),big h.2,rfl⟩⟩)⟩
   ·cases e3
  ·next u v p q=>
   split at e3
   ·cases e3;exact .inl ⟨_,rfl,.inr (.inr ⟨x,e1,y,e2,by rw[p,q];exact⟨big (by assumption),rfl⟩⟩)⟩
   ·cases e3
  ·cases e3
noncomputable def vY:PV->PV->Option RV:=rI fun i j=>.int (i - j)
theorem IU (ha:DE X a fa)(hb:DE X b fb):DE X (.BinOp a .Sub b pos) (aj vY fa fb):=AO (Kq ha.tt hb.tt) MB
noncomputable def eU:PV->PV->Option RV
 |.int i,.int j=>if (i.natAbs<2 ^ 64)\/(j.natAbs<2 ^ 64) then some (.fz (.int (i * j))) else none
 |.lst ps,.int j=>if j≤1000/\-1000≤j/\ps.length≤100 then some (.nw (List.replicate j.toNat ps).flatten) else none
 |.tup ps,.int j=>if ps.isEmpty=false/\1≤j/\j≤1000/\ps.length≤1000 then some (.fz (.tup (List.replicate j.toNat ps).flatten)) else none
 |_,_=>none
theorem kG (ha:DE X a fa)(hb:DE X b fb):DE X (.BinOp a .Mult b pos) (aj eU fa fb):=
 .of2 (rj (JN ha.tt hb.tt) (Gy ha.tt hb.tt)) (KH ha.tt hb.tt) fun ρ r e=>by
  obtain⟨x,y,e1,e2,e3⟩:=xf e
  unfold eU at e3
  split at e3
  ·next i j p q=>
   split at e3
   ·next h=>
    cases e3
    refine .inl ⟨_,rfl,.inl ⟨x,e1,y,e2,?_⟩⟩
    rw[p,q]
    refine⟨?_,rfl⟩
    show CMul i j
    unfold CMul
    rcases h with h|h
    ·exact .inl (by omega)
    ·exact .inr (by omega)
   ·cases e3
  ·next ps j p q=>
   split at e3
   ·next h=>
    cases e3
    refine .inr ⟨_,rfl,x,e1,y,e2,?_⟩
    rw[p,q]
    refine⟨by omega,by omega,?_,rfl⟩
    refine big ?_
    have h1:j.toNat≤1000:=by omega
    exact Nat.le_trans (Nat.mul_le_mul h.2.2 h1) (by decide)
   ·cases e3
  ·next ps j p q=>
   split at e3
   ·next h=>cases e3;exact .inl ⟨_,rfl,.inr ⟨x,e1,y,e2,by rw[p,q];exact⟨by intro z;subst z;exact absurd h.1 (by decide),h.2.1,h.2.2.1,h.2.2.2,rfl⟩⟩⟩
   ·cases e3
  ·cases e3
noncomputable def jy:PV->PV->Option RV:=N6 (fun _ j=>0<j/\j<1073741824) fun i j=>.int (i / j)
theorem o6 (ha:DE X a fa)(hb:DE X b fb):DE X (.BinOp a .FloorDiv b pos) (aj jy fa fb):=AO (Kn ha.tt hb.tt) (yP fun _ _ h=>h)
noncomputable def bn:PV->PV->Option RV:=N6 (fun _ j=>0<j) fun i j=>.int (i % j)
theorem dz (ha:DE X a fa)(hb:DE X b fb):DE X (.BinOp a .Mod b pos) (aj bn fa fb):=AO (KY ha.tt hb.tt) (yP fun _ _ h=>h)
noncomputable def GL:PV->PV->Option RV:=N6 (fun i j=>0≤j/\j≤1000000/\i.natAbs<2 ^ 64) fun i j=>.int (i ^ j.toNat)
theorem Mz (ha:DE X a fa)(hb:DE X b fb):DE X (.BinOp a .Pow b pos) (aj GL fa fb):=AO (Lf ha.tt hb.tt) (yP fun _ _ h=>h)
noncomputable def ML:PV->PV->Option RV:=rI fun i j=>.int (Builtin.bitAnd i j)
structure CmpR (X:Cx)(op:CmpOp)(g:PV->PV->Option RV):Prop where
 ok:∃(r:R2) (gE:mI),mw X (compareOp op) r/\jk X.K r gE/\∀x y r,g x y=some r->∃p,r=.fz (.bl p)/\∀Q:PV->Prop,Q (.bl p)->gE x y Q
theorem Q2 {g:PV->PV->Option RV}{gE:mI}(h:∀x y r,g x y=some r->∃p,r=.fz (.bl p)/\∀Q:PV->Prop,Q (.bl p)->gE x y Q):∀x y r,g x y=some r->∃p,r=.fz p/\gE x y (fun z=>z=p):=fun x y r e=>by
 obtain⟨p,e1,e2⟩:=h x y r e;exact⟨_,e1,e2 _ rfl⟩
theorem mS {op:CmpOp}{g:PV->PV->Option RV}(hc:CmpR X op g)(ha:DE X a fa)(hb:DE X b fb)(hm:behindInMarks op b=false):DE X (.Compare a [op] [b] pos) (aj g fa fb):=by
 obtain⟨r,gE,h1,h2,h3⟩:=hc.ok
 exact AO (JS h1 h2 ha.tt hb.tt hm) (Q2 h3)
noncomputable def L3 (f:Int->Int->Bool):PV->PV->Option RV
 |.int i,.int j=>some (.fz (.bl (f i j)))
 |_,_=>none
theorem vy {f:Int->Int->Bool}:∀x y r,L3 f x y=some r->∃p,r=.fz (.bl p)/\∀Q:PV->Prop,Q (.bl p)->GV (fun i j=>.bl (f i j)) x y Q:=fun x y r h=>by
 unfold L3 at h
 split at h
 ·cases h;exact⟨_,rfl,fun _ q=>q⟩
 ·cases h
noncomputable def BN:PV->PV->Option RV:=L3 fun i j=>decide (i<j)
noncomputable def EL:PV->PV->Option RV:=L3 fun i j=>decide (i≤j)
noncomputable def Df:PV->PV->Option RV:=L3 fun i j=>decide (j<i)
noncomputable def LZ:PV->PV->Option RV:=L3 fun i j=>decide (j≤i)
theorem CN:CmpR X .Lt BN:=⟨_,_,My,NZ,vy⟩
theorem Gp:CmpR X .LtE EL:=⟨_,_,Of,L9,vy⟩
theorem Fp:CmpR X .Gt Df:=⟨_,_,N8,NT,vy⟩
theorem MV:CmpR X .GtE LZ:=⟨_,_,Nr,M7,vy⟩
noncomputable def dB (x y:PV):Option RV:=if plain x&&plain y&&decide (oo x≤50) then some (.fz (.bl (iT x y))) else none
noncomputable def iw (x y:PV):Option RV:=if plain x&&plain y&&decide (oo x≤50) then some (.fz (.bl (!iT x y))) else none
theorem iC (hu:X.A.units+64<cLine):CmpR X .Eq dB:=⟨_,_,K8 hu,Nc,fun x y r h=>by
 unfold dB at h
 split at h
 ·next q=>cases h;rw[Bool.and_eq_true,Bool.and_eq_true,decide_eq_true_eq] at q;exact⟨_,rfl,fun _ z=>⟨q.1.1,q.1.2,q.2,z⟩⟩
 ·cases h⟩
theorem ra (hu:X.A.units+64<cLine):CmpR X .NotEq iw:=⟨_,_,LT hu,NN,fun x y r h=>by
 unfold iw at h
 split at h
 ·next q=>cases h;rw[Bool.and_eq_true,Bool.and_eq_true,decide_eq_true_eq] at q;exact⟨_,rfl,fun _ z=>⟨q.1.1,q.1.2,q.2,z⟩⟩
 ·cases h⟩
noncomputable def By (x y:PV):Option RV:=match items y with
 |some ps=>if plain x&&aH ps&&decide (cf ps≤50) then some (.fz (.bl (pin x ps))) else none
 |none=>none
noncomputable def oX (x y:PV):Option RV:=match items y with
 |some ps=>if plain x&&aH ps&&decide (cf ps≤50) then some (.fz (.bl (!pin x ps))) else none
 |none=>none
theorem GO (hu:X.A.units+64<cLine):CmpR X .In By:=⟨_,_,Le hu,M5,fun x y r h=>by
 unfold By at h
 split at h
 ·next ps e=>
  split at h
  ·next q=>cases h;rw[Bool.and_eq_true,Bool.and_eq_true,decide_eq_true_eq] at q;refine⟨_,rfl,fun _ z=>?_⟩;unfold P8 OkS;rw[e];exact⟨q.1.1,q.1.2,q.2,z⟩
  ·cases h
 ·cases h⟩
theorem FF (hu:X.A.units+64<cLine):CmpR X .NotIn oX:=⟨_,_,BF hu,Cd,fun x y r h=>by
 unfold oX at h
 split at h
 ·next ps e=>
  split at h
  ·next q=>cases h;rw[Bool.and_eq_true,Bool.and_eq_true,decide_eq_true_eq] at q;refine⟨_,rfl,fun _ z=>?_⟩;unfold B6 OkS;rw[e];exact⟨q.1.1,q.1.2,q.2,z⟩
  ·cases h
 ·cases h⟩
noncomputable def QH (x y:PV):Option RV:=match y with
 |.non=>some (.fz (.bl (mR x)))
 |_=>none
noncomputable def Ko (x y:PV):Option RV:=match y with
 |.non=>some (.fz (.bl (!mR x)))
 |_=>none
noncomputable def DB (X:Cx)(e:Expr)(g:FB):Prop:=PuB X e (EJ g)
noncomputable def DW (X:Cx)(e:Expr)(g:FB):Prop:=PuW X e (EJ g)
noncomputable def Bd:Option RV->Option Bool
 |some (.fz (.bl b))=>some b
 |_=>none
noncomputable def fT (f:FE):FB:=fun ρ=>Bd (f ρ)
theorem j9 {o:Option RV}{b:Bool}(h:Bd o=some b):o=some (.fz (.bl b)):=by
 unfold Bd at h
 split at h
 ·cases h;rfl
 ·cases h
theorem PuB.weak {t t':nr}(h:PuB X e t)(w:∀ρ Q,t' ρ Q->t ρ Q):PuB X e t':=PT.weak h fun σ H Q hh_=>hh_.elim fun F ρ Qp er q k=>⟨F,ρ,Qp,er,w ρ Qp q,k⟩
theorem PuW.weak {t t':nr}(h:PuW X e t)(w:∀ρ Q,t' ρ Q->t ρ Q):PuW X e t':=PW.weak h fun σ H Q hh_=>hh_.elim fun F ρ Qp er q k=>⟨F,ρ,Qp,er,w ρ Qp q,k⟩
theorem bA {op:CmpOp}{g:PV->PV->Option RV}(hc:CmpR X op g)(ha:DE X a fa)(hb:DE X b fb)(hm:behindInMarks op b=false):DB X (.Compare a [op] [b] pos) (fT (aj g fa fb)):=by
 obtain⟨r,gE,h1,h2,h3⟩:=hc.ok
 refine PuB.weak (Fl h1 h2 ha.tt hb.tt hm) fun ρ Q ⟨z,e,q⟩=>?_
 obtain⟨x,y,e1,e2,e3⟩:=xf (j9 e)
 obtain⟨p,e4,q4⟩:=h3 _ _ _ e3
 cases e4
 exact⟨x,e1,y,e2,q4 _ q⟩
theorem jX (h:DE X e f)(hv:∀whole,isTrue e X.env whole=(do let v ←whole;standAt e.pos;holding [v] (truthy v)):=by intro _;rfl):DB X e (fT f):=PuB.weak (G2 (K6 h.ee hv)) fun ρ Q ⟨b,e,q⟩=>⟨_,_,j9 e,rfl,q⟩
noncomputable def eR (g:FB):FB:=fun ρ=>(g ρ).map fun b=>!b
theorem mf (h:DB X a ba):DB X (.UnaryOp .Not a pos) (eR ba):=PuB.weak (Gk h) fun ρ Q ⟨b,e,q⟩=>by
 obtain⟨b',e1,rfl⟩:=Option.map_eq_some_iff.mp e
 exact⟨b',e1,q⟩
noncomputable def gY (g k:FB):FB:=fun ρ=>(g ρ).bind fun b=>if b=true then k ρ else some false
noncomputable def kT (g k:FB):FB:=fun ρ=>(g ρ).bind fun b=>if b=true then some true else k ρ
theorem nq (h:DB X a ba):DW X (.BoolOp .And [a] pos) ba:=Dg h
theorem t9 (h:DB X a ba):DW X (.BoolOp .Or [a] pos) ba:=Gw h
theorem qY (ha:DB X a ba)(hb:DW X (.BoolOp .And (b::eW) pos) bb):DW X (.BoolOp .And (a::b::eW) pos) (gY ba bb):=PuW.weak (Go ha hb) fun ρ Q ⟨z,e,q⟩=>by
 obtain⟨x,e1,e2⟩:=Option.bind_eq_some_iff.mp e
 refine⟨x,e1,?_⟩
 cases x with
 |true=>exact⟨z,e2,q⟩
 |false=>cases e2;exact q
theorem wv (ha:DB X a ba)(hb:DW X (.BoolOp .Or (b::eW) pos) bb):DW X (.BoolOp .Or (a::b::eW) pos) (kT ba bb):=PuW.weak (Ju ha hb) fun ρ Q ⟨z,e,q⟩=>by
 obtain⟨x,e1,e2⟩:=Option.bind_eq_some_iff.mp e
 refine⟨x,e1,?_⟩
 cases x with
 |true=>cases e2;exact q
 |false=>exact⟨z,e2,q⟩
theorem A8 (h:DW X e ba):DB X e ba:=Na h
noncomputable def sU (f:FE):FE:=fun ρ=>(f ρ).bind fun r=>r.fr.map .fz
noncomputable def kO (f g:FE):FE:=fun ρ=>(Bd (f ρ)).bind fun b=>if b=true then sU g ρ else some (.fz (.bl false))
noncomputable def PK (f g:FE):FE:=fun ρ=>(Bd (f ρ)).bind fun b=>if b=true then some (.fz (.bl true)) else sU g ρ
theorem nX {ρ:aC}{r:RV}(h:sU f ρ=some r):∃p,r=.fz p/\tF f ρ (fun x=>x=p):=by
 obtain⟨r',e1,e2⟩:=Option.bind_eq_some_iff.mp h
 obtain⟨p,e3,rfl⟩:=Option.map_eq_some_iff.mp e2
 exact⟨p,rfl,r',p,e1,e3,rfl⟩
theorem wx {op}(h:DE X a f):DE X (.BoolOp op [a] pos) (sU f):=.ofE (Kg h.ee) fun ρ r e=>nX e
theorem wP (ha:DE X a fa)(hb:DE X (.BoolOp .And (b::eW) pos) fb):DE X (.BoolOp .And (a::b::eW) pos) (kO fa fb):=.ofE (Je ha.ee hb.ee) fun ρ r e=>by
 obtain⟨x,e1,e2⟩:=Option.bind_eq_some_iff.mp e
 cases x with
 |true=>
  rw[if_pos rfl] at e2
  obtain⟨p,e3,q⟩:=nX e2
  refine⟨p,e3,_,_,j9 e1,rfl,?_⟩
  exact q
 |false=>
  rw[if_neg Bool.false_ne_true] at e2
  cases e2
  exact⟨_,rfl,_,_,j9 e1,rfl,rfl⟩
noncomputable def zi (f:FE):FE:=fun ρ=>(Bd (f ρ)).map fun b=>.fz (.bl (!b))
theorem NY (ha:DE X a fa):DE X (.UnaryOp .Not a pos) (zi fa):=.ofE (Jj ha.ee) fun ρ r e=>by
 obtain⟨b,e1,rfl⟩:=Option.map_eq_some_iff.mp e
 exact⟨_,rfl,_,_,j9 e1,rfl,rfl⟩
noncomputable def jP (f:FE):FE:=fun ρ=>(f ρ).bind fun r=>match r.fr with
 |some (.int i)=>some (.fz (.int (-i)))
 |_=>none
theorem oh (ha:DE X a fa):DE X (.UnaryOp .USub a pos) (jP fa):=.ofE (Ku ha.ee) fun ρ r e=>by
 obtain⟨x,e1,e2⟩:=Option.bind_eq_some_iff.mp e
 split at e2
 ·next i e3=>cases e2;exact⟨_,rfl,x,_,e1,e3,rfl⟩
 ·cases e2
noncomputable def L0 (g:FB)(f k:FE):FE:=fun ρ=>(g ρ).bind fun b=>if b=true then sU f ρ else sU k ρ
theorem Nh (hc:DB X c ba)(ha:DE X a fa)(hb:DE X b fb):DE X (.IfExp c a b pos) (L0 ba fa fb):=.ofE (KC hc ha.ee hb.ee) fun ρ r e=>by
 obtain⟨x,e1,e2⟩:=Option.bind_eq_some_iff.mp e
 cases x with
 |true=>
  rw[if_pos rfl] at e2
  obtain⟨p,e3,q⟩:=nX e2
  exact⟨p,e3,true,e1,q⟩
 |false=>
  rw[if_neg Bool.false_ne_true] at e2
  obtain⟨p,e3,q⟩:=nX e2
  exact⟨p,e3,false,e1,q⟩
noncomputable def Ld (g g':PV->PV->Option RV)(a b c:FE):FE:=fun ρ=>(a ρ).bind fun x=>(b ρ).bind fun y=>(Bd (g x.pv y.pv)).bind fun k=>if k=true then (c ρ).bind fun z=>g' y.pv z.pv else some (.fz (.bl false))
theorem Nv {g g':PV->PV->Option RV}{gE gE':mI}(h:∀x y r,g x y=some r->∃p,r=.fz (.bl p)/\∀Q:PV->Prop,Q (.bl p)->gE x y Q)(h':∀x y r,g' x y=some r->∃p,r=.fz (.bl p)/\∀Q:PV->Prop,Q (.bl p)->gE' x y Q){ρ:aC}{r:RV}(e:Ld g g' fa fb fc ρ=some r) :
  ∃p,r=.fz (.bl p)/\∀Q:PV->Prop,Q (.bl p)->yK gE gE' (tT fa) (tT fb) (tT fc) ρ Q:=by
 obtain⟨x,y,e1,e2,e3⟩:=xf e
 obtain⟨k,e4,e5⟩:=Option.bind_eq_some_iff.mp e3
 obtain⟨p,e6,q6⟩:=h _ _ _ (j9 e4)
 cases e6
 cases k with
 |true=>
  rw[if_pos rfl] at e5
  obtain⟨z,e7,e8⟩:=Option.bind_eq_some_iff.mp e5
  obtain⟨p,e9,q9⟩:=h' _ _ _ e8
  refine⟨p,e9,fun Q q=>⟨x,e1,y,e2,q6 _ ?_⟩⟩
  exact⟨z,e7,q9 _ q⟩
 |false=>
  rw[if_neg Bool.false_ne_true] at e5
  cases e5
  exact⟨_,rfl,fun Q q=>⟨x,e1,y,e2,q6 _ q⟩⟩
theorem MR {op op':CmpOp}{g g':PV->PV->Option RV}(h:CmpR X op g)(h':CmpR X op' g')(ha:DE X a fa)(hb:DE X b fb)(hc:DE X c fc)(hm:lastMarks [op,op'] [b,c]=false:=by rfl):DE X (.Compare a [op,op'] [b,c] pos) (Ld g g' fa fb fc):=by
 obtain⟨r,gE,h1,h2,h3⟩:=h.ok
 obtain⟨r',gE',h1',h2',h3'⟩:=h'.ok
 refine .ofE (D5 h1 h2 h1' h2' ha.tt hb.tt hc.tt hm) fun ρ r e=>?_
 obtain⟨p,e1,q⟩:=Nv h3 h3' e
 exact⟨_,e1,q _ rfl⟩
structure DA (X:Cx)(es:List Expr)(fs:FA):Prop where
 f:Ir X es (Mk fs)
 t:Ao X es (JL fs)
noncomputable def ah:FA:=fun _=>some []
noncomputable def aa (f:FE)(fs:FA):FA:=fun ρ=>(f ρ).bind fun r=>(fs ρ).bind fun rs=>some (r::rs)
theorem xo {t t':la}(h:Ir X es t)(w:∀ρ Q,t' ρ Q->t ρ Q):Ir X es t':=PA.weak h fun σ H Q hh_=>hh_.elim fun F ρ Qp er q k=>⟨F,ρ,Qp,er,w ρ Qp q,k⟩
theorem tw {t t':la}(h:Ao X es t)(w:∀ρ Q,t' ρ Q->t ρ Q):Ao X es t':=PA.weak h fun σ H Q hh_=>hh_.elim fun F ρ Qp er q k=>⟨F,ρ,Qp,er,w ρ Qp q,k⟩
theorem mapM_cons {r:RV}{rs:List RV}{ps:List PV}(h:(r::rs).mapM RV.fr=some ps):∃p qs,r.fr=some p/\rs.mapM RV.fr=some qs/\ps=p::qs:=by
 rw[List.mapM_cons] at h
 obtain⟨p,e1,h⟩:=Option.bind_eq_some_iff.mp h
 obtain⟨qs,e2,h⟩:=Option.bind_eq_some_iff.mp h
 cases h
 exact⟨p,qs,e1,e2,rfl⟩
theorem ai:DA X [] ah:=⟨xo HU fun ρ Q ⟨rs,ps,e,e2,q⟩=>by cases e;cases e2;exact q,tw Cy fun ρ Q ⟨rs,e,q⟩=>by cases e;exact q⟩
theorem af (hn:NS e)(he:DE X e f)(ht:DA X es fs):DA X (e::es) (aa f fs):=by
 constructor
 ·refine xo (Cs hn he.ee ht.f) fun ρ Q ⟨rs,ps,e1,e2,q⟩=>?_
  obtain⟨r,e3,e1⟩:=Option.bind_eq_some_iff.mp e1
  obtain⟨rs',e4,e1⟩:=Option.bind_eq_some_iff.mp e1
  cases e1
  obtain⟨p,qs,e5,e6,rfl⟩:=mapM_cons e2
  exact⟨r,p,e3,e5,rs',qs,e4,e6,q⟩
 ·refine tw (BC hn he.tt ht.t) fun ρ Q ⟨rs,e1,q⟩=>?_
  obtain⟨r,e3,e1⟩:=Option.bind_eq_some_iff.mp e1
  obtain⟨rs',e4,e1⟩:=Option.bind_eq_some_iff.mp e1
  cases e1
  exact⟨r,e3,rs',e4,q⟩
noncomputable def bQ (fs:FA):FE:=fun ρ=>(fs ρ).bind fun rs=>(rs.mapM RV.fr).bind fun ps=>if ps.length≤100000 then some (.fz (.tup ps)) else none
noncomputable def eV (fs:FA):FE:=fun ρ=>(fs ρ).bind fun rs=>(rs.mapM RV.fr).bind fun ps=>if ps.length≤100000 then some (.nw ps) else none
theorem dJ {x1}(h:DA X es fs):DE X (.Tuple es x1 pos) (bQ fs):=.ofE (J0 h.f) fun ρ r e=>by
 obtain⟨rs,e1,e⟩:=Option.bind_eq_some_iff.mp e
 obtain⟨ps,e2,e⟩:=Option.bind_eq_some_iff.mp e
 split at e
 ·next z=>cases e;exact⟨_,rfl,rs,ps,e1,e2,big z,rfl⟩
 ·cases e
theorem iQ (h:DA X es fs):DE X (.List es pos) (eV fs):=.ofN (Jc h.f) fun ρ r e=>by
 obtain⟨rs,e1,e⟩:=Option.bind_eq_some_iff.mp e
 obtain⟨ps,e2,e⟩:=Option.bind_eq_some_iff.mp e
 split at e
 ·next z=>cases e;exact⟨_,rfl,rs,ps,e1,e2,big z,rfl⟩
 ·cases e
noncomputable def be:PV->PV->Option RV
 |.str z,.int i=>if z.length≤100000 then (L2.atI z.cps.toList i).map fun c=>.fz (.str ⟨#[c]⟩) else none
 |p,.int i=>(items p).bind fun ps=>(L2.atI ps i).map .fz
 |_,_=>none
theorem Kt:∀x y r,be x y=some r->∃p,r=.fz p/\Ow x y (fun z=>z=p):=fun x y r h=>by
 unfold be at h
 split at h
 ·split at h
  ·next z=>
   obtain⟨c,e1,rfl⟩:=Option.map_eq_some_iff.mp h
   refine⟨_,rfl,big z,?_⟩
   rw[e1];exact rfl
  ·cases h
 ·next hn=>
  obtain⟨ps,e1,h⟩:=Option.bind_eq_some_iff.mp h
  obtain⟨p,e2,rfl⟩:=Option.map_eq_some_iff.mp h
  refine⟨p,rfl,?_⟩
  have:∀i:Int,L2.atI ps i=some p->OkS x fun ps=>OkO (L2.atI ps i) fun z=>z=p:=fun i ei=>by
   unfold OkS;rw[e1];show OkO (L2.atI ps i) _;rw[ei];exact rfl
  show OkI (.int _) _
  cases x<;>first|exact this _ e2|(cases e1)
 ·cases h
theorem bv (ha:DE X a fa)(hb:DE X b fb)(hs:uu b):DE X (.Subscript a b pos) (aj be fa fb):=AO (Mm ha.tt hb.tt hs) Kt
noncomputable abbrev FO:=aC->Option (Option Int)
noncomputable def tO (f:FO):AX:=fun ρ Q=>∃o,f ρ=some o/\Q o
noncomputable def DO (X:Cx)(e:Option Expr)(f:FO):Prop:=DF X e (tO f)
noncomputable def uQ:FO:=fun _=>some none
noncomputable def vv (f:FE):FO:=fun ρ=>(f ρ).bind fun r=>match r.fr with
 |some (.int i)=>some (some i)
 |_=>none
theorem wa {o:Option Expr}{t t':AX}(h:DF X o t)(w:∀ρ Q,t' ρ Q->t ρ Q):DF X o t':=PO.weak h fun σ H Q hh_=>hh_.elim fun F ρ Qp er q k=>⟨F,ρ,Qp,er,w ρ Qp q,k⟩
theorem wO:DO X none uQ:=wa Di fun ρ Q ⟨o,e,q⟩=>by cases e;exact q
theorem wz (h:DE X e f):DO X (some e) (vv f):=wa (DV h.ee) fun ρ Q ⟨o,e,q⟩=>by
 obtain⟨r,e1,e2⟩:=Option.bind_eq_some_iff.mp e
 split at e2
 ·next i e3=>cases e2;exact⟨r,_,e1,e3,q⟩
 ·cases e2
noncomputable def L6 (p:PV)(l h:Option Int):Option RV:=match p with
 |.lst ps=>some (.nw (cut ps l h))
 |.src ps=>some (.nw (cut ps l h))
 |.tup ps=>if HT.sIx ps.length 0 l=0/\HT.sIx ps.length ps.length h=ps.length then none else some (.fz (.tup (cut ps l h)))
 |_=>none
noncomputable def DN (f:FE)(l h:FO):FE:=fun ρ=>(f ρ).bind fun r=>(l ρ).bind fun lo=>(h ρ).bind fun hi=>L6 r.pv lo hi
theorem FZ {lo hi:Option Expr}{fl fh:FO}{p2:Pos}(ha:DE X a fa)(hl:DO X lo fl)(hh:DO X hi fh):DE X (.Subscript a (.Slice lo hi none p2) pos) (DN fa fl fh):=.of2 (D1 ha.tt hl hh) (Lv ha.tt hl hh) fun ρ r e=>by
 obtain⟨x,e1,e⟩:=Option.bind_eq_some_iff.mp e
 obtain⟨l,e2,e⟩:=Option.bind_eq_some_iff.mp e
 obtain⟨h,e3,e⟩:=Option.bind_eq_some_iff.mp e
 unfold L6 at e
 split at e
 ·next ps q=>cases e;exact .inr ⟨_,rfl,x,e1,l,e2,h,e3,by rw[q];exact rfl⟩
 ·next ps q=>cases e;exact .inr ⟨_,rfl,x,e1,l,e2,h,e3,by rw[q];exact rfl⟩
 ·next ps q=>
  split at e
  ·cases e
  ·next z=>cases e;exact .inl ⟨_,rfl,x,e1,l,e2,h,e3,by rw[q];exact⟨z,rfl⟩⟩
 ·cases e
end
end Dp
end
section
namespace Dp
open PySem PySem.Spec L2 Pu
section
variable {X:Cx}{e a b c tg iter:Expr}{es eW:List Expr}{pos:Pos}{f fa fb fc:FE}{fs:FA}{i:Nat}{ba bb:FB}
noncomputable def fB (g:List PV->Option RV)(fs:FA):FE:=fun ρ=>(fs ρ).bind fun rs=>g (rs.map RV.pv)
theorem dE {r:List V->Hp->VK->Prop}{g0:A0}{g:List PV->Option RV}(hr:rg X.K r g0)(w:∀ps r,g ps=some r->∃p,r=.fz p/\g0 ps (fun z=>z=p))(h:PE X e (kU r (lAT X.K (JL fs)))):DE X e (fB g fs):=.ofE (M1 hr h) fun ρ r e=>by
 obtain⟨rs,e1,e2⟩:=Option.bind_eq_some_iff.mp e
 obtain⟨p,rfl,q⟩:=w _ _ e2
 exact⟨p,rfl,rs,e1,q⟩
theorem Nn {r:List V->Hp->VK->Prop}{g0:Iw}{g:List PV->Option RV}(hr:AY X.K r g0)(w:∀ps r,g ps=some r->∃p,r=.nw p/\g0 ps (fun z=>z=p))(h:PE X e (kU r (lAT X.K (JL fs)))):DE X e (fB g fs):=.ofN (Cg hr h) fun ρ r e=>by
 obtain⟨rs,e1,e2⟩:=Option.bind_eq_some_iff.mp e
 obtain⟨p,rfl,q⟩:=w _ _ e2
 exact⟨p,rfl,rs,e1,q⟩
noncomputable def gX:List PV->Option RV
 |[.str z]=>if z.length≤100000 then some (.fz (.int z.length)) else none
 |[p]=>(items p).map fun ps=>.fz (.int ps.length)
 |_=>none
theorem gP:∀ps r,gX ps=some r->∃p,r=.fz p/\Me ps (fun z=>z=p):=fun ps r h=>by
 unfold gX at h
 split at h
 ·split at h
  ·next z=>cases h;exact⟨_,rfl,big z,rfl⟩
  ·cases h
 ·next p hp=>
  obtain⟨qs,e1,rfl⟩:=Option.map_eq_some_iff.mp h
  refine⟨_,rfl,?_⟩
  have:OkS p fun ps=>PV.int ps.length=PV.int qs.length:=by unfold OkS;rw[e1]
  show One [p] _
  cases p<;>first|exact this|(cases e1)
 ·cases h
noncomputable def CO:List PV->Option RV
 |[.int i]=>some (.fz (.int (if i<0 then -i else i)))
 |_=>none
theorem Hq:∀ps r,CO ps=some r->∃p,r=.fz p/\Nb ps (fun z=>z=p):=fun ps r h=>by
 unfold CO at h
 split at h
 ·cases h;exact⟨_,rfl,rfl⟩
 ·cases h
noncomputable def Mw:List PV->Option RV
 |[.int i,.int j]=>some (.fz (.int (if j > i then j else i)))
 |_=>none
noncomputable def tD:List PV->Option RV
 |[.int i,.int j]=>some (.fz (.int (if j<i then j else i)))
 |_=>none
theorem Ck:∀ps r,tD ps=some r->∃p,r=.fz p/\IN ps (fun z=>z=p):=fun ps r h=>by
 unfold tD at h
 split at h
 ·cases h;exact⟨_,rfl,rfl⟩
 ·cases h
noncomputable def oa:List PV->Option RV
 |[.int i]=>some (.fz (.int i))
 |[.bl b]=>some (.fz (.int (if b then 1 else 0)))
 |_=>none
theorem nQ:∀ps r,oa ps=some r->∃p,r=.fz p/\MJ ps (fun z=>z=p):=fun ps r h=>by
 unfold oa at h
 split at h
 ·cases h;exact⟨_,rfl,rfl⟩
 ·cases h;exact⟨_,rfl,rfl⟩
 ·cases h
noncomputable def IK:List PV->Option (List Bool)
 |[]=>some []
 |.bl b::ps=>(IK ps).map fun bs=>b::bs
 |_=>none
theorem JK:∀{ps:List PV} {bs:List Bool},IK ps=some bs->ps=bs.map PV.bl:=fun {ps}=>by
 induction ps with
 |nil=>intro bs h;cases h;rfl
 |cons p ps ih=>
  intro bs h
  cases p<;>first|(cases h;done)|skip
  obtain⟨bs',e1,rfl⟩:=Option.map_eq_some_iff.mp h
  rw[ih e1];rfl
noncomputable def iN:PV->Option (List PV)
 |.lst ps=>some ps
 |.src ps=>some ps
 |_=>none
noncomputable def Ch:List PV->Option RV
 |[p]=>(iN p).bind fun ps=>(IK ps).map fun bs=>.fz (.bl (bs.all id))
 |_=>none
noncomputable def OL:List PV->Option RV
 |[p]=>(iN p).bind fun ps=>(IK ps).map fun bs=>.fz (.bl (bs.any id))
 |_=>none
theorem re {p:PV}{ps:List PV}{Q:List PV->Prop}(h:iN p=some ps)(q:Q ps):OkL p Q:=by
 cases p<;>first|(cases h;done)|(cases h;exact q)
theorem ET:∀ps r,Ch ps=some r->∃p,r=.fz p/\MG ps (fun z=>z=p):=fun ps r h=>by
 unfold Ch at h
 split at h
 ·obtain⟨qs,e1,h⟩:=Option.bind_eq_some_iff.mp h
  obtain⟨bs,e2,rfl⟩:=Option.map_eq_some_iff.mp h
  refine⟨_,rfl,re e1 ?_⟩
  rw[JK e2,CW]
 ·cases h
noncomputable def iV:List PV->Option RV
 |[.lst ps]=>some (.fz (.tup ps))
 |[.tup ps]=>some (.fz (.tup ps))
 |[.src ps]=>some (.fz (.tup ps))
 |_=>none
theorem iu:∀ps r,iV ps=some r->∃p,r=.fz p/\Mv ps (fun z=>z=p):=fun ps r h=>by
 unfold iV at h
 split at h
 ·cases h;exact⟨_,rfl,rfl⟩
 ·cases h;exact⟨_,rfl,rfl⟩
 ·cases h;exact⟨_,rfl,rfl⟩
 ·cases h
noncomputable def fg:List PV->Option RV
 |[.rng lo j]=>if lo=0/\0≤j/\j≤1000000 then some (.nw (vQ 0 j.toNat)) else none
 |[p]=>(items p).map .nw
 |_=>none
theorem Hg:∀ps r,fg ps=some r->∃p,r=.nw p/\(Mu ps (fun z=>z=p)\/ID ps (fun z=>z=p)):=fun ps r h=>by
 unfold fg at h
 split at h
 ·split at h
  ·next z=>cases h;exact⟨_,rfl,.inr ⟨z.1,z.2.1,z.2.2,rfl⟩⟩
  ·cases h
 ·next p hp=>
  obtain⟨qs,e1,rfl⟩:=Option.map_eq_some_iff.mp h
  refine⟨_,rfl,.inl ?_⟩
  show OkS p _
  unfold OkS;rw[e1]
 ·cases h
theorem LG {x:Str}{p:Pos}(hx:x = "list")(h1:PE X e (kU (fun xs H Q=>∃p ys,xs=[.ref p]/\(SqL X.K H p ys\/SqT X.K H p ys)/\∀l,H l=none->Q (.ref l) (upd H l (.lst ys))) (lAT X.K (JL fs))))
  (h2:PE X e (kU (fun xs H Q=>∃p j,xs=[.ref p]/\H p=some (.rng 0 j)/\0≤j/\j≤1000000/\∀l,H l=none->Q (.ref l) (upd H l (.lst (qm j.toNat)))) (lAT X.K (JL fs)))):DE X e (fB fg fs):=.ofN (CU (Cg IY h1) (Cg Gr h2)) fun ρ r e=>by
 obtain⟨rs,e1,e2⟩:=Option.bind_eq_some_iff.mp e
 obtain⟨p,rfl,q⟩:=Hg _ _ e2
 exact⟨p,rfl,q.elim (fun q=>.inl ⟨rs,e1,q⟩) fun q=>.inr ⟨rs,e1,q⟩⟩
noncomputable def qD:List PV->Option RV
 |[.int j]=>if -(2 ^ 62)≤j/\j<2 ^ 62 then some (.fz (.rng 0 j)) else none
 |_=>none
theorem um:∀ps r,qD ps=some r->∃p,r=.fz p/\Mq ps (fun z=>z=p):=fun ps r h=>by
 unfold qD at h
 split at h
 ·split at h
  ·next z=>cases h;exact⟨_,rfl,z.1,z.2,rfl⟩
  ·cases h
 ·cases h
noncomputable def g7:List PV->Option RV
 |[p,.ty n]=>if n = "int"\/n = "bool"\/n = "str"\/n = "tuple"\/n = "list"\/n = "dict" then (Oi n p).map fun b=>.fz (.bl b) else none
 |_=>none
theorem lL:∀ps r,g7 ps=some r->∃p,r=.fz p/\Mo ps (fun z=>z=p):=fun ps r h=>by
 unfold g7 at h
 split at h
 ·split at h
  ·next z=>
   obtain⟨b,e1,rfl⟩:=Option.map_eq_some_iff.mp h
   refine⟨_,rfl,z,?_⟩
   rw[e1];exact rfl
  ·cases h
 ·cases h
noncomputable def fW:List PV->Option (List Int)
 |[]=>some []
 |.int i::ps=>(fW ps).map fun is=>i::is
 |_=>none
noncomputable def jC:List PV->Option (List (List Int))
 |[]=>some []
 |.tup qs::ps=>(fW qs).bind fun is=>if is.isEmpty then none else (jC ps).map fun ks=>is::ks
 |_=>none
theorem ub:∀{ps:List PV} {is:List Int},fW ps=some is->ps=is.map PV.int:=fun {ps}=>by
 induction ps with
 |nil=>intro bs h;cases h;rfl
 |cons p ps ih=>
  intro bs h
  cases p<;>first|(cases h;done)|skip
  obtain⟨bs',e1,rfl⟩:=Option.map_eq_some_iff.mp h
  rw[ih e1];rfl
theorem ye (is:List Int):fW (is.map PV.int)=some is:=by
 induction is with
 |nil=>rfl
 |cons b bs ih=>rw[List.map_cons,fW,ih];rfl
theorem qb {K:PySem.W.Frag}{F:Hp}:∀{is:List Int} {vs:List V},Reps K F (is.map PV.int) vs->vs=is.map V.int
 |[],_,h=>h
 |i::is,_,⟨v,r,e,h,t⟩=>by rw[e,show v=V.int i from h,qb t];rfl
noncomputable def mz:List PV->Option RV
 |[p]=>(iN p).bind fun ps=>(jC ps).bind fun ks=>if ps.length<64 then some (.nw ((mJ ks).map fun i=>ps.getD i .non)) else none
 |_=>none
noncomputable def wu:Iw:=fun ps Q=>One ps fun p=>OkL p fun ps=>∃ks,jC ps=some ks/\ps.length<64/\Q ((mJ ks).map fun i=>ps.getD i .non)
theorem zk {K:PySem.W.Frag}{F H:Hp}(s:Same F H):∀{ps:List PV} {vs:List V} {ks:List (List Int)},Reps K F ps vs->jC ps=some ks->TupsIn H vs ks
 |[],_,_,h,e=>by rw[show _=[] from h];cases e;exact .nil
 |p::ps,_,_,⟨v,r,ev,h,t⟩,e=>by
  subst ev
  cases p<;>first|(cases e;done)|skip
  rw[jC] at e
  obtain⟨is,e1,e⟩:=Option.bind_eq_some_iff.mp e
  split at e
  ·cases e
  ·next ne=>
   obtain⟨ks,e2,rfl⟩:=Option.map_eq_some_iff.mp e
   obtain⟨a,vs,rfl,h1,h2⟩:=h
   rw[ub e1] at h2
   rw[qb h2] at h1
   exact .cons (s _ _ h1) (by intro z;subst z;exact absurd rfl ne) (zk s t e2)
theorem zZ {K:PySem.W.Frag}{F:Hp}{ps:List PV}{vs:List V}(h:Reps K F ps vs):∀{l:List Nat},(∀i∈l,i<ps.length)->Reps K F (l.map fun i=>ps.getD i .non) (l.map fun i=>vs.getD i .non)
 |[],_=>rfl
 |i::l,hl=>by
  have hi:=hl i List.mem_cons_self
  obtain⟨v,ev,rv⟩:=h.get (List.getElem?_eq_getElem hi)
  refine⟨v,_,?_,?_,zZ h fun j hj=>hl j (List.mem_cons_of_mem _ hj)⟩
  ·rw[List.map_cons,List.getD_eq_getElem?_getD,ev];rfl
  ·show Rep K F (ps.getD i .non) v
   rw[List.getD_eq_getElem?_getD,List.getElem?_eq_getElem hi];exact rv
theorem Dl:∀{ps:List PV} {ks:List (List Int)},jC ps=some ks->ks.length=ps.length:=fun {ps}=>by
 induction ps with
 |nil=>intro bs h;cases h;rfl
 |cons p ps ih=>
  intro ks e
  cases p<;>first|(cases e;done)|skip
  rw[jC] at e
  obtain⟨is,e1,e⟩:=Option.bind_eq_some_iff.mp e
  split at e
  ·cases e
  ·obtain⟨ks,e2,rfl⟩:=Option.map_eq_some_iff.mp e
   rw[List.length_cons,List.length_cons,ih e2]
theorem yX:AY X.K (fun xs H Q=>∃p ts ks,xs=[.ref p]/\SqL X.K H p ts/\ts.length<64/\TupsIn H ts ks/\∀l,H l=none->Q (.ref l) (upd H l (.lst ((mJ ks).map fun i=>ts.getD i .non)))) wu:=fun F H xs ps Qp Q s r h k=>by
 obtain⟨p,v,rfl,rfl,r,h⟩:=h.rd r
 obtain⟨a,vs,ps,rfl,hs,rs,ks,e,h64,h⟩:=h.rd s r
 refine⟨a,vs,ks,rfl,hs,by rw[rs.length];exact h64,zk s rs e,fun l hl=>?_⟩
 have hk:=Dl e
 refine k _ l _ F _ h (.newO s hl _) hl (s.free hl) aq (zZ rs fun i hi=>?_)
 have:=(oN ks).subset hi
 rw[List.mem_range] at this
 omega
theorem za:∀ps r,mz ps=some r->∃p,r=.nw p/\wu ps (fun z=>z=p):=fun ps r h=>by
 unfold mz at h
 split at h
 ·obtain⟨qs,e1,h⟩:=Option.bind_eq_some_iff.mp h
  obtain⟨ks,e2,h⟩:=Option.bind_eq_some_iff.mp h
  split at h
  ·next z=>cases h;exact⟨_,rfl,re e1 ⟨ks,e2,z,rfl⟩⟩
  ·cases h
 ·cases h
mutual
noncomputable def tf:PV->Bool
 |.tup ps=>Ik ps
 |p=>dv p
noncomputable def Ik:List PV->Bool
 |[]=>true
 |p::ps=>tf p&&Ik ps
end
noncomputable def Lq:PR->Bool
 |.v p=>tf p
 |.n ps=>Ik ps
noncomputable def nY (F1 F2:Hp):Hp:=fun b=>match F2 b with
 |some (.tup vs)=>some (.tup vs)
 |_=>F1 b
mutual
theorem D2 {K:PySem.W.Frag}{F1 F2:Hp}:∀{p:PV} {v:V},tf p=true->Rep K F2 p v->Rep K (nY F1 F2) p v
 |.tup ps,v,h,⟨a,vs,e,h1,h2⟩=>by
  rw[tf] at h
  refine⟨a,vs,e,?_,pR h h2⟩
  unfold nY;rw[h1]
 |.non,_,_,r=>r
 |.bl _,_,_,r=>r
 |.int _,_,_,r=>r
 |.str _,_,_,r=>r
 |.ty _,_,_,r=>r
 |.fn _,_,_,r=>r
 |.lst _,_,h,_=>by cases h
 |.dct _ _,_,h,_=>by cases h
 |.src _,_,h,_=>by cases h
 |.ktu _,_,h,_=>by cases h
 |.rng _ _,_,h,_=>by cases h
theorem pR {K:PySem.W.Frag}{F1 F2:Hp}:∀{ps:List PV} {vs:List V},Ik ps=true->Reps K F2 ps vs->Reps K (nY F1 F2) ps vs
 |[],_,_,r=>r
 |p::ps,_,h,⟨v,t,e,r1,r2⟩=>by
  rw[Ik,Bool.and_eq_true] at h
  exact⟨v,t,e,D2 h.1 r1,pR h.2 r2⟩
end
theorem DG {F1 H1 F2 H2:Hp}(s:Same F1 H1)(g:Grow H1 H1 F2 H2):Grow F1 H1 (nY F1 F2) H2:=by
 refine⟨g.hh,fun b o e=>?_,fun b o e=>?_,fun b o e=>?_⟩
 ·have h2:=g.ff b o (s b o e)
  unfold nY
  cases o<;>rw[h2]<;>first|rfl|exact e
 ·unfold nY at e
  split at e
  ·next vs h=>rw[←e];exact g.fh b _ h
  ·exact g.hh b o (s b o e)
 ·unfold nY at e
  split at e
  ·cases e;exact .inr (.inr ⟨_,rfl⟩)
  ·exact .inl e
theorem rf {F1 F2:Hp}{a:Addr}(h1:F1 a=none)(h2:F2 a=none):nY F1 F2 a=none:=by unfold nY;rw[h2];exact h1
noncomputable def Hd (φ:zP)(t:la):gU:=fun ρ Q=>t ρ fun ps=>φ ps fun r=>Lq r=true/\Q r.pv
noncomputable def Do (φ:zP)(t:la):vj:=fun ρ Q=>t ρ fun ps=>φ ps fun r=>Lq r=true/\P2 r Q
theorem Bm {φ:zP}{t:la}(h:PE X e (b8 (bE X.K φ) [] E0 (lAT X.K t))):iY X e (Hd φ t):=PE.weak h fun σ H Q hh_=>hh_.elim fun F ρ Qp er q k=>⟨F,ρ,_,er,q,fun ps vs F1 H1 h1 g1 r1=>by
 show bE X.K φ (vs++[]) H1 Q E0
 rw[List.append_nil]
 refine⟨H1,ps,_,Same.refl _,r1.all g1.fh,h1,fun r v F2 H2 h2 g2 rr=>?_⟩
 have gk:=DG g1.fh g2
 cases r with
 |v p=>exact k p _ _ H2 h2.2 (g1.trans gk) (D2 h2.1 rr)
 |n ps=>
  obtain⟨a,vs,rfl,h0,hF,hH,rs⟩:=rr
  have hF1:=rf (g1.fh.free h0) hF
  exact k (.lst ps) _ _ H2 h2.2 ((g1.trans gk).freeze (g1.hh.free h0) hF1 hH) ⟨a,vs,rfl,aq,(pR h2.1 rs).mono (bU hF1 _)⟩⟩
theorem yt {φ:zP}{t:la}(h:PE X e (b8 (bE X.K φ) [] E0 (lAT X.K t))):yv X e (Do φ t):=PE.weak h fun σ H Q hh_=>hh_.elim fun F ρ Qp er q k=>⟨F,ρ,_,er,q,fun ps vs F1 H1 h1 g1 r1=>by
 show bE X.K φ (vs++[]) H1 Q E0
 rw[List.append_nil]
 refine⟨H1,ps,_,Same.refl _,r1.all g1.fh,h1,fun r v F2 H2 h2 g2 rr=>?_⟩
 have gk:=DG g1.fh g2
 cases r with
 |v p=>exact h2.2.elim
 |n ps=>
  obtain⟨a,vs,rfl,h0,hF,hH,rs⟩:=rr
  exact k ps a vs _ H2 h2.2 (g1.trans gk) (g1.hh.free h0) (rf (g1.fh.free h0) hF) hH (pR h2.1 rs)⟩
noncomputable def b6 (F:List PV->Option PR):zP:=fun qs Q=>∃r,F qs=some r/\Q r
noncomputable def sL:PR->RV
 |.v p=>.fz p
 |.n ps=>.nw ps
noncomputable def ap (F:List PV->Option PR)(fs:FA):FE:=fun ρ=>(fs ρ).bind fun rs=>match rs.mapM RV.fr with
 |some ps=>(F ps).map sL
 |none=>(F (rs.map RV.pv)).bind fun r=>if Lq r=true then some (sL r) else none
theorem J9 {F:List PV->Option PR}(h1:PE X e (b8 (bE X.K (b6 F)) [] E0 (lA X.K (Mk fs))))(h2:PE X e (b8 (bE X.K (b6 F)) [] E0 (lAT X.K (JL fs)))):DE X e (ap F fs):=
 .of2 (rj (Hy h1) (Bm h2)) (CU (Ej h1) (yt h2)) fun ρ r e=>by
  obtain⟨rs,e1,e2⟩:=Option.bind_eq_some_iff.mp e
  split at e2
  ·next ps ep=>
   obtain⟨q,e3,rfl⟩:=Option.map_eq_some_iff.mp e2
   cases q with
   |v p=>exact .inl ⟨p,rfl,.inl ⟨rs,ps,e1,ep,.v p,e3,rfl⟩⟩
   |n qs=>exact .inr ⟨qs,rfl,.inl ⟨rs,ps,e1,ep,.n qs,e3,rfl⟩⟩
  ·obtain⟨q,e3,e4⟩:=Option.bind_eq_some_iff.mp e2
   split at e4
   ·next hf=>
    cases e4
    cases q with
    |v p=>exact .inl ⟨p,rfl,.inr ⟨rs,e1,.v p,e3,hf,rfl⟩⟩
    |n qs=>exact .inr ⟨qs,rfl,.inr ⟨rs,e1,.n qs,e3,hf,rfl⟩⟩
   ·cases e4
noncomputable def DI (X:Cx)(tg iter:Expr)(f:FI):Prop:=EH X tg iter (JH f)
theorem rb {t t':uK}(h:EH X tg iter t)(w:∀ρ Q,t' ρ Q->t ρ Q):EH X tg iter t':=PI.weak h fun σ H Q hh_=>hh_.elim fun F ρ Qp er q k=>⟨F,ρ,Qp,er,w ρ Qp q,k⟩
theorem KR {t u:uK}(h:EH X tg iter t)(h':EH X tg iter u):EH X tg iter (fun ρ Q=>t ρ Q\/u ρ Q):=fun pins s σ H Q I hh_=>hh_.elim fun F ρ Qp er q k=>q.elim (fun q=>h pins s σ H Q I ⟨F,ρ,Qp,er,q,k⟩) fun q=>h' pins s σ H Q I ⟨F,ρ,Qp,er,q,k⟩
noncomputable def ph (f:FE):FI:=fun ρ=>(f ρ).bind fun r=>r.fr.bind items
theorem kC (h:DE X iter f):DI X tg iter (ph f):=rb (KR (DX h.ee) (GC h.ee)) fun ρ Q ⟨its,e,q⟩=>by
 obtain⟨r,e1,e⟩:=Option.bind_eq_some_iff.mp e
 obtain⟨p,e2,e⟩:=Option.bind_eq_some_iff.mp e
 cases p<;>first|(cases e;done)|skip
 ·cases e;exact .inr ⟨r,_,e1,e2,q⟩
 ·cases e;exact .inl ⟨r,_,e1,e2,q⟩
 ·cases e;exact .inl ⟨r,_,e1,e2,q⟩
 ·cases e;exact .inr ⟨r,_,e1,e2,q⟩
noncomputable def MF (i:Int):Bool:=decide (-(2 ^ 62)≤i)&&decide (i<2 ^ 62)
noncomputable def oQ:List PV->Option (List PV)
 |[.int j]=>if MF j then some (vQ 0 j.toNat) else none
 |_=>none
noncomputable def r6 (g:List PV->Option (List PV))(fs:FA):FI:=fun ρ=>(fs ρ).bind fun rs=>g (rs.map RV.pv)
theorem DC {i:Int}(h:MF i=true):-(2 ^ 62)≤i/\i<2 ^ 62:=by
 unfold MF at h
 rw[Bool.and_eq_true,decide_eq_true_eq,decide_eq_true_eq] at h
 exact h
theorem uP (h:PI X tg iter (cD (lAT X.K (JL fs)))):DI X tg iter (r6 oQ fs):=rb (Cr h) fun ρ Q ⟨its,e,q⟩=>by
 obtain⟨rs,e1,e⟩:=Option.bind_eq_some_iff.mp e
 refine⟨rs,e1,?_⟩
 unfold oQ at e
 split at e
 ·next j ej=>
  split at e
  ·next z=>cases e;rw[ej];exact⟨(DC z).1,(DC z).2,q⟩
  ·cases e
 ·cases e
noncomputable def Nx (fs:FA):FI:=fun ρ=>(fs ρ).bind fun rs=>(rs.mapM RV.fr).bind fun ps=>match ps with
 |[p]=>(iN p).map (gx 0)
 |_=>none
noncomputable abbrev FT:=PV->aC->Option aC
noncomputable abbrev FX:=List PV->aC->Option aC
noncomputable def qT (t:FT):vS:=fun p ρ Q=>∃ρ',t p ρ=some ρ'/\Q ρ'
noncomputable def Ol (t:FX):uR:=fun p ρ Q=>∃ρ',t p ρ=some ρ'/\Q ρ'
noncomputable def gN (i:Nat):FT:=fun p ρ=>some (ρ.set i (some (.val p)))
noncomputable def g0:FX:=fun ps ρ=>match ps with
 |[]=>some ρ
 |_=>none
noncomputable def gC (t:FT)(ts:FX):FX:=fun ps ρ=>match ps with
 |p::ps=>(t p ρ).bind fun ρ'=>ts ps ρ'
 |[]=>none
theorem t5 {K:PySem.W.Frag}{g0:TG}{g g':vS}(h:ke K g0 g)(w:∀p ρ Q,g' p ρ Q->g p ρ Q):ke K g0 g':=fun F H σ ρ p v Qp Q s r q k=>h F H σ ρ p v Qp Q s r (w p ρ Qp q) k
theorem rA {K:PySem.W.Frag}{g0:zS}{g g':uR}(h:mT K g0 g)(w:∀p ρ Q,g' p ρ Q->g p ρ Q):mT K g0 g':=fun F H σ ρ p v Qp Q s r q k=>h F H σ ρ p v Qp Q s r (w p ρ Qp q) k
theorem aD {K:PySem.W.Frag}{i:Nat}:ke K (bf i) (qT (gN i)):=t5 FM fun p ρ Q ⟨ρ',e,q⟩=>by cases e;exact q
theorem gQ {K:PySem.W.Frag}:mT K gD (Ol g0):=rA K2 fun ps ρ Q ⟨ρ',e,q⟩=>by
 cases ps with
 |nil=>cases e;exact q
 |cons=>cases e
theorem aP {K:PySem.W.Frag}{h0:TG}{t:FT}{hs0:zS}{ts:FX}(h1:ke K h0 (qT t))(h2:mT K hs0 (Ol ts)):mT K (cC h0 hs0) (Ol (gC t ts)):=rA (FU h1 h2) fun ps ρ Q ⟨ρ',e,q⟩=>by
 cases ps with
 |nil=>cases e
 |cons p ps=>
  obtain⟨ρ2,e1,e2⟩:=Option.bind_eq_some_iff.mp e
  exact⟨ρ2,e1,ρ',e2,q⟩
noncomputable def iR (n:Nat)(ts:FX):FT:=fun p ρ=>match p with
 |.tup ps=>if ps.length=n then ts ps ρ else none
 |_=>none
theorem gG {K:PySem.W.Frag}{n:Nat}{hs0:zS}{ts:FX}(h:mT K hs0 (Ol ts)):ke K (fS K n hs0) (qT (iR n ts)):=t5 (LC h) fun p ρ Q ⟨ρ',e,q⟩=>by
 unfold iR at e
 split at e
 ·split at e
  ·next z=>exact⟨z,ρ',e,q⟩
  ·cases e
 ·cases e
noncomputable def vR (t:FT)(c:FB)(f:FE)(ρ:aC):List PV->Option (List PV)
 |[]=>some []
 |p::ps=>(t p ρ).bind fun ρ2=>(c ρ2).bind fun b=>if b=true then (f ρ2).bind fun r=>r.fr.bind fun q=>(vR t c f ρ ps).map fun qs=>q::qs else vR t c f ρ ps
noncomputable def gH (fm:List (Option Nat))(it:FI)(t:FT)(c:FB)(f:FE):FE:=fun ρ=>(it ρ).bind fun its=>if its.length<1000 then (vR t c f (lr fm ρ) its).map .nw else none
noncomputable def lQ:FB:=fun _=>some true
theorem Ij {t:FT}{c:FB}{ρ:aC}:∀{its qs acc:List PV} {Q:List PV->Prop},vR t c f ρ its=some qs->Q (acc++qs)->L5 (qT t) (EJ c) (tF f) ρ its acc Q:=fun {its}=>by
 induction its with
 |nil=>intro qs acc Q e q;cases e;rw[List.append_nil] at q;exact q
 |cons p ps ih=>
  intro qs acc Q e q
  rw[vR] at e
  obtain⟨ρ2,e1,e⟩:=Option.bind_eq_some_iff.mp e
  obtain⟨b,e2,e⟩:=Option.bind_eq_some_iff.mp e
  refine⟨ρ2,e1,b,e2,?_⟩
  cases b with
  |true=>
   rw[if_pos rfl] at e ⊢
   obtain⟨r,e3,e⟩:=Option.bind_eq_some_iff.mp e
   obtain⟨y,e4,e⟩:=Option.bind_eq_some_iff.mp e
   obtain⟨ys,e5,rfl⟩:=Option.map_eq_some_iff.mp e
   exact⟨r,y,e3,e4,ih e5 (by rw[List.append_assoc];exact q)⟩
  |false=>
   rw[if_neg Bool.false_ne_true] at e ⊢
   exact ih e q
theorem uG {fm:List (Option Nat)}{it:FI}{t:FT}{c:FB}{ρ:aC}{r:RV}(e:gH fm it t c f ρ=some r):∃ps,r=.nw ps/\wT fm (JH it) (qT t) (EJ c) (tF f) ρ (fun x=>x=ps):=by
 obtain⟨its,e1,e⟩:=Option.bind_eq_some_iff.mp e
 split at e
 ·next z=>
  obtain⟨ps,e2,rfl⟩:=Option.map_eq_some_iff.mp e
  exact⟨ps,rfl,its,e1,z,Ij e2 rfl⟩
 ·cases e
noncomputable def PX (X:Cx)(ifs:List Expr)(c:FB):Prop:=Kk X ifs (EJ c)
theorem u6:PX X [] lQ:=PIf.weak Ed fun σ H Q hh_=>hh_.elim fun F ρ Qp er ⟨b,e,q⟩ k=>by cases e;exact⟨F,ρ,Qp,er,q,k⟩
theorem xV (h:DB X c ba):PX X [c] ba:=Cm h
theorem qw {fm:List (Option Nat)}{it:FI}{h0:TG}{t:FT}{c:FB}(hg:ke X.K h0 (qT t))(h:PE X e (kN fm (lI X.K (JH it)) h0 (lB X.K (EJ c)) (lE X.K (tF f)))):DE X e (gH fm it t c f):=.ofN (Fh (K:=X.K) hg h) fun ρ r e=>uG e
end
end Dp
end
section
namespace Dp
open PySem PySem.Spec L2 Pu
inductive Out where
 |nx (ρ:aC)|bk (ρ:aC)|ct (ρ:aC)|rt (p:PV)|rn (ps:List PV)|bad
noncomputable abbrev FS:=aC->Out
noncomputable def Out.sat (D:PEnds):Out->Prop
 |.nx ρ=>D.nx ρ
 |.bk ρ=>D.bk ρ
 |.ct ρ=>D.ct ρ
 |.rt p=>D.rt p
 |.rn ps=>D.rn ps
 |.bad=>False
noncomputable def rV (f:FS):kn:=fun D ρ=>(f ρ).sat D
noncomputable def DS (X:Cx)(st:Stmt)(f:FS):Prop:=oM X st (rV f)
noncomputable def Ig (X:Cx)(st:List Stmt)(f:FS):Prop:=qQ X st (rV f)
section
variable {X:Cx}{e a b c tg iter:Expr}{es:List Expr}{st:Stmt}{eW:List Stmt}{pos:Pos}{f fa fb:FE}{fs:FA}{s u:FS}{i j:Nat}{ba:FB}
theorem cg {t t':kn}(h:oM X st t)(w:∀D ρ,t' D ρ->t D ρ):oM X st t':=PS.weak h fun D σ H hh_=>hh_.elim fun F0 H0 F ρ Dp br q ft=>⟨F0,H0,F,ρ,Dp,br,w Dp ρ q,ft⟩
theorem A2 {t t':kn}(h:qQ X eW t)(w:∀D ρ,t' D ρ->t D ρ):qQ X eW t':=PSs.weak h fun D σ H hh_=>hh_.elim fun F0 H0 F ρ Dp br q ft=>⟨F0,H0,F,ρ,Dp,br,w Dp ρ q,ft⟩
theorem y8 {t t':kn}(h:oM X st t)(h':oM X st t'):oM X st (fun D ρ=>t D ρ\/t' D ρ):=fun pins s σ H D I hh_=>hh_.elim fun F0 H0 F ρ Dp br q ft=>q.elim (fun q=>h pins s σ H D I ⟨F0,H0,F,ρ,Dp,br,q,ft⟩) fun q=>h' pins s σ H D I ⟨F0,H0,F,ρ,Dp,br,q,ft⟩
noncomputable def aK:FS:=fun ρ=>.nx ρ
noncomputable def nb:FS:=fun _=>.bad
noncomputable def QF:FS:=fun ρ=>.bk ρ
noncomputable def Qj:FS:=fun ρ=>.ct ρ
noncomputable def al (s u:FS):FS:=fun ρ=>match s ρ with
 |.nx ρ'=>u ρ'
 |o=>o
theorem cx:Ig X [] aK:=B7
theorem aB (h:DS X st s):Ig X [st] s:=D6 h
theorem am (h1:DS X st s)(h2:Ig X eW u):Ig X (st::eW) (al s u):=A2 (AJ h1 h2) fun D ρ q=>by
 unfold rV al at q
 unfold MW rV
 cases e:s ρ with
 |nx ρ'=>rw[e] at q;exact q
 |_=>rw[e] at q;exact q
theorem qN:DS X st nb:=cg AB fun D ρ q=>q
noncomputable def eg (f:FE):FS:=fun ρ=>match f ρ with
 |some (.fz _)=>.nx ρ
 |_=>.bad
theorem i9 (h:PS X st (cc (lE X.K (tF f)))):DS X st (eg f):=cg (Dd h) fun D ρ q=>by
 unfold rV eg at q
 split at q
 ·next p e=>exact⟨_,_,e,rfl,q⟩
 ·exact q.elim
noncomputable def aV (f:FE):FS:=fun ρ=>match f ρ with
 |some (.fz p)=>.rt p
 |some (.nw ps)=>.rn ps
 |_=>.bad
theorem bG (h:DE X e f):DS X (.Return (some e) pos) (aV f):=cg (y8 (zM h.ee) (ED h.nn)) fun D ρ q=>by
 unfold rV aV at q
 split at q
 ·next p e=>exact .inl ⟨_,_,e,rfl,q⟩
 ·next p e=>exact .inr ⟨_,e,q⟩
 ·exact q.elim
noncomputable def j3 (i:Nat):FS:=fun ρ=>match sl ρ i with
 |some (.val p)=>.rt p
 |some (.own ps)=>.rn ps
 |_=>.bad
theorem qB (h:PE X e (cL i)):DS X (.Return (some e) pos) (j3 i):=cg (y8 (zM (ao h).ee) (Cb h)) fun D ρ q=>by
 unfold rV j3 at q
 split at q
 ·next p e=>exact .inl ⟨.fz p,p,by unfold fV;rw[e];rfl,rfl,q⟩
 ·next p e=>refine .inr ?_;unfold IT go;rw[kB e];exact q
 ·exact q.elim
noncomputable def fA (g:FB)(s u:FS):FS:=fun ρ=>match g ρ with
 |some true=>s ρ
 |some false=>u ρ
 |none=>.bad
theorem fO {sa sb:List Stmt}(hc:DB X c ba)(ha:Ig X sa s)(hb:Ig X sb u):DS X (.If c sa sb pos) (fA ba s u):=cg (Jr hc ha hb) fun D ρ q=>by
 unfold rV fA at q
 split at q
 ·next e=>exact⟨true,e,q⟩
 ·next e=>exact⟨false,e,q⟩
 ·exact q.elim
noncomputable def aZ (i:Nat)(f:FE):FS:=fun ρ=>match (f ρ).bind RV.fr with
 |some p=>.nx (ρ.set i (some (.val p)))
 |none=>.bad
theorem ca (h:PS X st (df (lE X.K (tF f)) (bf i))):DS X st (aZ i f):=cg (zm h) fun D ρ q=>by
 unfold rV aZ at q
 split at q
 ·next p e=>
  obtain⟨r,e1,e2⟩:=Option.bind_eq_some_iff.mp e
  exact⟨r,p,e1,e2,q⟩
 ·exact q.elim
noncomputable def jl (i:Nat)(f:FE):FS:=fun ρ=>match f ρ with
 |some (.fz p)=>.nx (ρ.set i (some (.val p)))
 |some (.nw ps)=>.nx (ρ.set i (some (.own ps)))
 |_=>.bad
theorem NO (h:PS X st (df (lE X.K (tF f)) (bf i)))(h':PS X st (df (lN X.K (tN f)) (bf i))):DS X st (jl i f):=cg (y8 (zm h) (Dm h')) fun D ρ q=>by
 unfold rV jl at q
 split at q
 ·next p e=>exact .inl ⟨_,_,e,rfl,q⟩
 ·next p e=>exact .inr ⟨_,e,q⟩
 ·exact q.elim
theorem JG {fm:List (Option Nat)}{it:FI}{h0:TG}{t:FT}{c:FB}(hg:ke X.K h0 (qT t))(h:PS X st (df (kN fm (lI X.K (JH it)) h0 (lB X.K (EJ c)) (lE X.K (tF f))) (bf i))):DS X st (aZ i (gH fm it t c f)):=cg (uE hg h) fun D ρ q=>by
 unfold rV aZ at q
 split at q
 ·next p e=>
  obtain⟨r,e1,e2⟩:=Option.bind_eq_some_iff.mp e
  obtain⟨ps,rfl,k⟩:=uG e1
  cases e2
  obtain⟨its,e3,hl,k⟩:=k
  refine⟨its,e3,hl,?_⟩
  obtain⟨its',e4,e5⟩:=Option.bind_eq_some_iff.mp e1
  rw[e3] at e4;cases e4
  rw[if_pos hl] at e5
  obtain⟨qs,e6,e7⟩:=Option.map_eq_some_iff.mp e5
  cases e7
  exact Ij e6 q
 ·exact q.elim
noncomputable def fM (f:FE)(t:FT):FS:=fun ρ=>match (f ρ).bind RV.fr with
 |some p=>match t p ρ with
  |some ρ'=>.nx ρ'
  |none=>.bad
 |none=>.bad
theorem jo {h0:TG}{t:FT}(hg:ke X.K h0 (qT t))(h:PS X st (df (lE X.K (tF f)) h0)):DS X st (fM f t):=cg (GD hg h) fun D ρ q=>by
 unfold rV fM at q
 split at q
 ·next p e=>
  obtain⟨r,e1,e2⟩:=Option.bind_eq_some_iff.mp e
  split at q
  ·next ρ' e3=>exact⟨r,p,e1,e2,ρ',e3,q⟩
  ·exact q.elim
 ·exact q.elim
noncomputable def oC (i j:Nat)(fs:FA):FS:=fun ρ=>match (fs ρ).bind fun rs=>rs.mapM RV.fr with
 |some [p,q]=>.nx ((ρ.set i (some (.val p))).set j (some (.val q)))
 |_=>.bad
theorem zN (h:PS X st (fY i j (lA X.K (Mk fs)))):DS X st (oC i j fs):=cg (Hk h) fun D ρ q=>by
 unfold rV oC at q
 split at q
 ·next p p' e=>
  obtain⟨r,e1,e2⟩:=Option.bind_eq_some_iff.mp e
  exact⟨r,_,e1,e2,q⟩
 ·exact q.elim
noncomputable def Ai (i:Nat)(s:FS):FS:=fun ρ=>s (frz i ρ)
theorem IS (i:Nat)(h:DS X st s):DS X st (Ai i s):=yu i h
noncomputable def OA (g:Int->Int->Int)(i:Nat)(f:FE):FS:=fun ρ=>match sl ρ i,(f ρ).bind RV.fr with
 |some (.val (.int a)),some (.int b)=>.nx (ρ.set i (some (.val (.int (g a b)))))
 |_,_=>.bad
noncomputable def kX (i:Nat)(fs:FA):FS:=fun ρ=>match sl ρ i,(fs ρ).bind fun rs=>rs.mapM RV.fr with
 |some (.own ps),some [q]=>if ps.length≤100000 then .nx (ρ.set i (some (.own (ps++[q])))) else .bad
 |_,_=>.bad
theorem qy (h:PS X st (cc (nt X.K "list" pQ (cL i) (lA X.K (Mk fs))))):DS X st (kX i fs):=cg (G0 h) fun D ρ q=>by
 unfold rV kX at q
 split at q
 ·next ps p e1 e2=>
  obtain⟨r,e3,e4⟩:=Option.bind_eq_some_iff.mp e2
  unfold Ni go
  rw[kB e1]
  split at q
  ·next z=>exact⟨r,_,e3,e4,PM z,q⟩
  ·exact q.elim
 ·exact q.elim
noncomputable def jv (j:Nat)(fi f:FE):FS:=fun ρ=>match (f ρ).bind RV.fr,sl ρ j,(fi ρ).bind RV.fr with
 |some v,some (.own ps),some (.int k)=>match tX ps.length k with
  |some n=>.nx (ρ.set j (some (.own (ps.set n v))))
  |none=>.bad
 |_,_,_=>.bad
theorem nH {fi:FE}(h:PS X st (df (lE X.K (tF f)) (L2.fU (cL j) (lE X.K (tF fi)) cZ))):DS X st (jv j fi f):=cg (Ar h) fun D ρ q=>by
 unfold rV jv at q
 split at q
 ·next v ps k e1 e2 e3=>
  obtain⟨r,e4,e5⟩:=Option.bind_eq_some_iff.mp e1
  obtain⟨r',e6,e7⟩:=Option.bind_eq_some_iff.mp e3
  split at q
  ·next n en=>
   refine⟨r,v,e4,e5,?_⟩
   unfold go
   rw[kB e2]
   refine⟨r',_,e6,e7,?_⟩
   show OkO (tX ps.length k) _
   rw[en]
   exact q
  ·exact q.elim
 ·exact q.elim
noncomputable def cH (t:FT)(s:FS):List PV->aC->Out
 |[],ρ=>.nx ρ
 |p::ps,ρ=>match t p ρ with
  |some ρ1=>match s ρ1 with
   |.nx ρ2=>cH t s ps ρ2
   |.ct ρ2=>cH t s ps ρ2
   |.bk ρ2=>.nx ρ2
   |o=>o
  |none=>.bad
noncomputable def ig (it:FI)(t:FT)(s:FS):FS:=fun ρ=>match it ρ with
 |some its=>cH t s its ρ
 |none=>.bad
theorem HY {t:FT}{D:PEnds}:∀{its:List PV} {ρ:aC},(cH t s its ρ).sat D->tj (qT t) (rV s) D its ρ:=fun {its}=>by
 induction its with
 |nil=>intro ρ q;exact q
 |cons p ps ih=>
  intro ρ q
  rw[cH] at q
  split at q
  ·next ρ1 e1=>
   refine⟨ρ1,e1,?_⟩
   show (s ρ1).sat _
   cases e2:s ρ1 with
   |nx ρ2=>rw[e2] at q;exact ih q
   |ct ρ2=>rw[e2] at q;exact ih q
   |bk ρ2=>rw[e2] at q;exact q
   |rt _=>rw[e2] at q;exact q
   |rn _=>rw[e2] at q;exact q
   |bad=>rw[e2] at q;exact q
  ·exact q.elim
theorem kD {it:FI}{h0:TG}{t:FT}(hg:ke X.K h0 (qT t))(h:PS X st (AN (lI X.K (JH it)) h0 (lS X.K (rV s)))):DS X st (ig it t s):=cg (HX hg h) fun D ρ q=>by
 unfold rV ig at q
 split at q
 ·next its e=>exact⟨its,e,HY q⟩
 ·exact q.elim
noncomputable def d6 (c:FB)(s:FS):Nat->aC->Out
 |0,_=>.bad
 |n+1,ρ=>match c ρ with
  |some true=>match s ρ with
   |.nx ρ2=>d6 c s n ρ2
   |.ct ρ2=>d6 c s n ρ2
   |.bk ρ2=>.nx ρ2
   |o=>o
  |some false=>.nx ρ
  |none=>.bad
noncomputable def lK (c:FB)(s:FS):FS:=fun ρ=>d6 c s 10000 ρ
theorem Dr {c:FB}{D:PEnds}:∀{n:Nat} {ρ:aC},(d6 c s n ρ).sat D->mD (EJ c) (rV s) D n ρ:=fun {n}=>by
 induction n with
 |zero=>intro ρ q;exact q
 |succ n ih=>
  intro ρ q
  rw[d6] at q
  split at q
  ·next e1=>
   refine⟨true,e1,?_⟩
   show (if true=true then (s ρ).sat _ else _)
   rw[if_pos rfl]
   cases e2:s ρ with
   |nx ρ2=>rw[e2] at q;exact ih q
   |ct ρ2=>rw[e2] at q;exact ih q
   |bk ρ2=>rw[e2] at q;exact q
   |rt _=>rw[e2] at q;exact q
   |rn _=>rw[e2] at q;exact q
   |bad=>rw[e2] at q;exact q
  ·next e1=>
   exact⟨false,e1,q⟩
  ·exact q.elim
theorem u7 {c:FB}(h:PS X st (yq (lB X.K (EJ c)) (lS X.K (rV s)))):DS X st (lK c s):=cg (Bg h) fun D ρ q=>⟨10000,Dr q⟩
end
noncomputable def Out.res:Out->Option PR
 |.nx _=>some (.v .non)
 |.rt p=>some (.v p)
 |.rn ps=>some (.n ps)
 |_=>none
noncomputable def run (a n:Nat)(s:FS)(qs:List PV):Option PR:=if qs.length=a then (s (On n qs)).res else none
theorem CT {o:Out}{r:PR}{Q:PR->Prop}(h:o.res=some r)(q:Q r):o.sat (PEnds.of Q):=by
 cases o<;>cases h<;>exact q
theorem bK {P:Program}{w:World}{K:PySem.W.Frag}{mg:Str->Option Value}{base:Heap}{x:Str}{st:Stmt}{N ps:List Str}{k a n:Nat}{s:FS}(F:FunD K mg x st ps)(S:FnScope N ps (ag st))
  (hb:∀(f:Addr) (cdv:Value) (A:Around) (outer:List Env) (s':Shared) (H:Hp) (E:XK),Room k (A.deeper (PyProof.Rows.envOfC x (ag st) s'.heap.objs.size f cdv))->Ig (nN xM P w K mg base N x (ag st) f cdv A outer s' H E).nox (aw st) s)
  (ha:ps.length=a:=by rfl) (hn:N.length=n:=by rfl):Def P w K mg base (k+1) x ps (bE K (b6 (run a n s))):=by
 subst ha hn
 refine O3 F S (fun qs Q ⟨r,e,q⟩=>?_) hb fun qs Q ⟨r,e,q⟩=>?_
 ·unfold run at e
  split at e
  ·assumption
  ·cases e
 ·unfold run at e
  split at e
  ·exact CT e q
  ·cases e
theorem JU {X:Cx}{body:List Stmt}{s:FS}{N:List Str}{H:Hp}{vs:List V}{Q:VK}{E:XK}{n:Nat}(hb:Ig X body s)(h:t6 X.K vs H Q E)
  (hp:∀ns:List Int,ns.length≤63->run 1 n s [.src (ns.map PV.int)]=some (.v (.bl true))) (hn:N.length=n:=by rfl):∃t,PSs X body t/\t { nx:=fun _ H'=>Q .non H',rt:=Q } (L2.bz N vs) H:=by
 subst hn
 exact Aj hb h fun ns hl=>by
  have this:(s (On N.length [.src (ns.map PV.int)])).res=some (.v (.bl true)):=hp ns hl
  exact CT this rfl
end Dp
end
section
namespace Dp
open PySem PySem.Spec L2 Pu
section
variable {X:Cx}{e a b c tg iter:Expr}{es:List Expr}{st:Stmt}{eW:List Stmt}{p pos:Pos}{f fa fb:FE}{fs:FA}{s u:FS}{i j k:Nat}{ba:FB}{x:Str}{ps:List Str}{F:List PV->Option PR}
theorem ax (d:Def X.prog X.w X.K X.mg X.base j x ps (bE X.K (b6 F)))(hr:Room k X.A)(ha:DA X (e::es) fs)(hj:j≤k:=by decide)(hg:Gl X x:=by rfl)(hdb:(x==("__debug__" : Str))=false:=by decide)(he:starEach (e::es) X.env=(false,eval e X.env)::starEach es X.env:=by rfl)
  (hpl:(backTo pos (starEach es X.env)).any (·.1)=false:=by rfl):DE X (.Call (.Name x p) (e::es) [] pos) (ap F fs):=J9 (lh d hr ha.f hj hg hdb he hpl) (lh d hr ha.t hj hg hdb he hpl)
theorem ki (hm:X.mg "list" = none)(ha:DA X (e::es) fs)(hc:X.calm=true:=by rfl)(hg:Gl X "list":=by rfl)(he:starEach (e::es) X.env=(false,eval e X.env)::starEach es X.env:=by rfl)(hpl:(backTo pos (starEach es X.env)).any (·.1)=false:=by rfl) :
  DE X (.Call (.Name "list" p) (e::es) [] pos) (fB fg fs):=LG (x:="list") (p:=p) rfl (aU nS hg hm pN ha.t (by decide) (by decide) he hpl) (aU (sV hc) hg hm pN ha.t (by decide) (by decide) he hpl)
theorem kg {pos':Pos}(he:DE X e f)(hN:X.N.Nodup)(hi:X.N[i]?=some x)(hx:L1 X.env.scope x)(hs:swapsWith e (some (.Name x pos')) pos.line X.env=pure false:=by rfl)(hf:X.fn x=true\/X.env.scope.names.lookup x=some .local:=by first|exact .inl rfl|exact .inr rfl|assumption) :
  DS X (.Assign [.Name x pos'] e pos) (jl i f):=NO (aI hN hi hx he.ee hs hf) (aI hN hi hx he.nn hs hf)
end
end Dp
end
section
namespace Pu
open PySem L2 Fo
theorem vh {i j:Int}:iT (.int i) (.int j)=decide (i=j):=by
 simp only[iT,dv,ma,CM,Bool.true_and]
 rw[Bool.eq_iff_iff,beq_iff_eq,decide_eq_true_iff]
theorem pT {i j:Str}:iT (.str i) (.str j)=decide (i=j):=by
 simp only[iT,dv,ma,CM,Bool.true_and]
 rw[Bool.eq_iff_iff,beq_iff_eq,decide_eq_true_iff]
theorem K3 {i j:Bool}:iT (.bl i) (.bl j)=(i==j):=by
 simp only[iT,dv,ma,CM,Bool.true_and]
theorem mG {ps qs:List PV}:iT (.tup ps) (.tup qs)=iG ps qs:=by simp only[iT]
theorem Gj {ps qs:List PV}:iT (.lst ps) (.lst qs)=iG ps qs:=by simp only[iT]
theorem ua {p q:PV}{ps qs:List PV}:iG (p::ps) (q::qs)=(iT p q&&iG ps qs):=by simp only[iG]
theorem xB:iG [] []=true:=by simp only[iG]
theorem mn (us:List Nat):(ak us).length=us.length:=List.length_map ..
theorem rF:ak []=[]:=rfl
theorem cP (x:Nat)(us:List Nat):ak (x::us)=nI x::ak us:=rfl
theorem rH (us vs:List Nat):ak (us++vs)=ak us++ak vs:=List.map_append
theorem rC (us:List Nat)(i v:Nat):(ak us).set i (nI v)=ak (us.set i v):=by unfold ak;rw[List.map_set]
theorem eY:∀us:List Nat,aH (ak us)=true
 |[]=>by simp only[ak,List.map_nil,aH]
 |x::us=>by rw[cP,aH,eY us];simp only[nI,plain,Bool.and_true]
theorem ij:∀us:List Nat,cf (ak us)=0
 |[]=>by simp only[ak,List.map_nil,cf]
 |x::us=>by rw[cP,cf,ij us];simp only[nI,oo,Nat.max_self]
theorem j7:∀us vs:List Nat,iG (ak us) (ak vs)=decide (us=vs)
 |[],[]=>by simp[ak,iG]
 |[],_::_=>by simp[ak,iG]
 |_::_,[]=>by simp[ak,iG]
 |x::us,y::vs=>by
  rw[cP,cP,ua,j7 us vs,nI,nI,vh,Bool.eq_iff_iff]
  simp
  intro _
  omega
theorem bw {n x:Nat}(h:x<n):tX n (x:Int)=some x:=by
 unfold tX
 rw[if_pos (by omega),if_pos (by omega),Int.toNat_natCast]
theorem iU {ps:List PV}{x:Nat}{p:PV}(h:ps[x]?=some p):L2.atI ps (x:Int)=some p:=by
 unfold L2.atI
 have hx:x<ps.length:=(List.getElem?_eq_some_iff.mp h).1
 rw[bw hx]
 exact h
theorem Qr {a:PV}{l:List PV}:L2.atI (a::l) (0:Int)=some a:=iU (x:=0) rfl
theorem Rh {a b:PV}{l:List PV}:L2.atI (a::b::l) (1:Int)=some b:=iU (x:=1) rfl
theorem Qi {a b c:PV}{l:List PV}:L2.atI (a::b::c::l) (2:Int)=some c:=iU (x:=2) rfl
theorem QQ {a b c d:PV}{l:List PV}:L2.atI (a::b::c::d::l) (3:Int)=some d:=iU (x:=3) rfl
theorem xA {us:List Nat}{x:Nat}(hx:x<us.length):(ak us)[x]?=some (nI (up us x)):=by
 unfold ak
 rw[List.getElem?_map,List.getElem?_eq_getElem hx]
 simp[up,hx]
theorem az {us:List Nat}{x:Nat}(hx:x<us.length):L2.atI (ak us) (x:Int)=some (nI (up us x)):=iU (xA hx)
theorem j2 (us:List Nat)(y:Nat):L2.atI (ak (us++[y])) (-1)=some (nI y):=by
 unfold L2.atI tX
 rw[mn,List.length_append,if_neg (by decide),if_pos (by simp;omega)]
 have:(-1+((us.length+[y].length:Nat):Int)).toNat=us.length:=by simp;omega
 rw[this]
 show (ak (us++[y]))[us.length]?=_
 rw[xA (by simp)]
 simp[up]
theorem tS {l:List Nat}(h:l≠[]):L2.atI (ak l) (-1)=some (nI (cM l)):=by
 obtain⟨us,y,rfl⟩:∃us y,l=us++[y]:=⟨l.dropLast,l.getLast h,(List.dropLast_concat_getLast h).symm⟩
 rw[j2]
 simp[cM]
theorem oO (us:List Nat)(y:Nat):ak us++[PV.int y]=ak (us++[y]):=(rH us [y]).symm
theorem cb (us:List Nat)(i v:Nat):(ak us).set i (PV.int v)=ak (us.set i v):=rC us i v
theorem Dk (n:Nat):vQ 0 n=ak (List.range n):=by
 unfold vQ ak
 exact List.map_congr_left fun i _=>by rw[nI,Int.zero_add]
theorem Cv {us:List Nat}{v:PV}(h:v∈ak us):∃u∈us,v=nI u:=by
 obtain⟨u,hu,e⟩:=List.mem_map.mp h
 exact⟨u,hu,e.symm⟩
noncomputable def iL (ns:List Int):List PV:=ns.map PV.int
theorem Ce (ns:List Int):(iL ns).length=ns.length:=List.length_map ..
theorem JO {n:Nat}{lo:Int}{v:PV}(h:v∈vQ lo n):∃i:Int,v=.int i/\lo≤i/\i<lo+n:=by
 obtain⟨k,hk,rfl⟩:=List.mem_map.mp h
 have:=List.mem_range.mp hk
 exact⟨lo+k,rfl,by omega,by omega⟩
theorem zG (lo:Int)(n:Nat):(vQ lo n).length=n:=by simp[vQ]
theorem N5 {i:Int}(h:0≤i):PV.int i=nI i.toNat:=by rw[nI,Int.toNat_of_nonneg h]
theorem LM (ns:List Int)(lo hi:Option Int):cut (iL ns) lo hi=iL (cut ns lo hi):=by
 unfold cut iL
 rw[List.length_map,List.map_take,List.map_drop]
theorem qO (ns:List Nat)(lo hi:Option Int):cut (ak ns) lo hi=ak (cut ns lo hi):=by
 unfold cut ak
 rw[List.length_map,List.map_take,List.map_drop]
end Pu
namespace Fo
open PySem L2
structure Left (y:Str)(us:List Nat)(x h:Nat)(us':List Nat)(n:Nat)(l:List Nat):Prop where
 way:Way us x l
 hd:h=cM l
 st:n+1≤l.length
 xq:y ≠ "halves"->n+1=l.length
 sh:Shorter us us'
 off:∀t,t<us.length->t∉l->up us' t=up us t
 no:y = "none"->us'=us
theorem yf {us:List Nat}(f:Fst us){t:Nat}(ht:t<us.length):(up us t=t/\up us (up us t)=t)\/(up us t≠t/\∃l,Way us (up us t) l/\up us (up us t)∈l):=by
 by_cases e:up us t=t
 ·exact .inl ⟨e,by rw[e,e]⟩
 ·obtain⟨l,w,_⟩:=f.way (f.bnd t ht)
  exact .inr ⟨e,l,w,w.closed _ w.mem_self⟩
theorem RM.left {y:Str}{us:List Nat}{x h:Nat}{us':List Nat}{n:Nat}(f:Fst us)(hx:x<us.length)(r:RM y us x h us' n):∃l,Left y us x h us' n l:=by
 have self:=Shorter.refl f
 cases r with
 |none r=>
  obtain⟨rfl,l,w,e,hn⟩:=r
  exact⟨l,w,e,by omega,fun _=>hn,self,fun _ _ _=>rfl,fun _=>rfl⟩
 |whole r=>
  obtain⟨l,w,e,hn,len,hu⟩:=r
  refine⟨l,w,e,by omega,fun _=>hn,⟨len,fun t ht=>?_⟩,fun t ht hm=>by rw[hu,if_neg hm],fun z=>absurd z (by decide)⟩
  rw[hu]
  by_cases hm:t∈l
  ·rw[if_pos hm]
   obtain⟨l2,w2,e2,_,_⟩:=w.later t hm
   cases w2 with
   |head q=>exact .inl ⟨q,by rw[e,←e2];rfl⟩
   |step q w3=>exact .inr ⟨q,_,w3,by rw[e,←e2,cA w3.ne];exact ql w3.ne⟩
  ·rw[if_neg hm];exact self.up t ht
 |halves r=>
  obtain⟨l,w,e,hn,len,hu⟩:=r
  have pos:=w.pos
  refine⟨l,w,e,by omega,fun z=>absurd rfl z,⟨len,fun t ht=>?_⟩,fun t ht hm=>by rw[hu,if_neg fun q=>hm (mE l t q)],fun z=>absurd z (by decide)⟩
  rw[hu]
  by_cases hm:t∈kc l
  ·rw[if_pos hm];exact yf f ht
  ·rw[if_neg hm];exact self.up t ht
 |splits r=>
  obtain⟨l,w,e,hn,len,hu⟩:=r
  refine⟨l,w,e,by omega,fun _=>hn,⟨len,fun t ht=>?_⟩,fun t ht hm=>by rw[hu,if_neg hm],fun z=>absurd z (by decide)⟩
  rw[hu]
  by_cases hm:t∈l
  ·rw[if_pos hm];exact yf f ht
  ·rw[if_neg hm];exact self.up t ht
 |one r=>
  obtain⟨rfl,l,w,e,hn⟩:=r
  refine⟨l,w,e,by omega,fun _=>hn,⟨by rw[List.length_set],fun t ht=>?_⟩,fun t ht hm=>by rw[bu hx,if_neg fun q=>hm (by rw[q];exact w.mem_self)],fun z=>absurd z (by decide)⟩
  rw[bu hx]
  by_cases hm:t=x
  ·rw[if_pos hm,hm];exact yf f hx
  ·rw[if_neg hm];exact self.up t ht
theorem Et {us vs:List Nat}(h:us.length=vs.length)(e:∀t,up us t=up vs t):us=vs:=by
 apply List.ext_getElem h
 intro i h1 h2
 have:=e i
 simpa [up,h1,h2] using this
theorem RM.frst {y:Str}{us:List Nat}{x h:Nat}{us':List Nat}{n:Nat}(f:Frst us)(hx:x<us.length)(r:RM y us x h us' n):Frst us'/\us'.length=us.length:=by
 obtain⟨l,L⟩:=r.left f.fst hx
 have e:=L.sh.len
 exact⟨⟨by rw[e];exact f.one,by rw[e];exact f.most,L.sh.fst f.fst⟩,e⟩
end Fo
namespace Pu
open PySem L2 Fo
end Pu
end
section
namespace Dp
open PySem PySem.Spec L2 Pu
section
variable {X:Cx}{e a b c tg iter:Expr}{es:List Expr}{st:Stmt}{eW:List Stmt}{p pos:Pos}{f fa fb:FE}{fs:FA}{s u:FS}{i j k:Nat}{ba:FB}{x:Str}
noncomputable def Pg (f:FE):FE:=fun ρ=>(f ρ).bind fun r=>(iN r.pv).map fun ps=>.nw ps.reverse
noncomputable def Jw:List Int->Int
 |[]=>0
 |[i]=>i
 |i::j::l=>max i (Jw (j::l))
noncomputable def KW:List Int->Int
 |[]=>0
 |[i]=>i
 |i::j::l=>min i (KW (j::l))
noncomputable def kL (g:List Int->Int):List PV->Option RV
 |[p]=>(iN p).bind fun ps=>(fW ps).bind fun is=>if is.length=0 then none else some (.fz (.int (g is)))
 |_=>none
noncomputable def NJ:=kL Jw
noncomputable def Mn:=kL KW
noncomputable def OH:List PV->Option RV
 |[p]=>(iN p).bind fun ps=>(fW ps).map fun is=>.fz (.int is.sum)
 |_=>none
noncomputable def KD (g:Int->Int->Int)(j:Nat)(fi f:FE):FS:=fun ρ=>match sl ρ j,(fi ρ).bind RV.fr,(f ρ).bind RV.fr with
 |some (.own ps),some (.int k),some (.int b)=>if 0≤k then (match ps[k.toNat]? with
  |some (.int a)=>.nx (ρ.set j (some (.own (ps.set k.toNat (.int (g a b))))))
  |_=>.bad) else .bad
 |_,_,_=>.bad
end
end Dp
end
section
namespace Fo
open PySem
noncomputable def iX (us:List Nat):Nat->Nat->List Nat
 |0,x=>[x]
 |n+1,x=>if up us x=x then [x] else x::iX us n (up us x)
noncomputable def way (us:List Nat)(x:Nat):List Nat:=iX us us.length x
theorem G8 {us:List Nat}{x:Nat}{l:List Nat}(w:Way us x l):∀{n:Nat},l.length≤n+1->iX us n x=l:=by
 induction w with
 | @head x e=>
  intro n h
  cases n with
  |zero=>rfl
  |succ n=>rw[iX,if_pos e]
 | @step x l ne w ih=>
  intro n h
  cases n with
  |zero=>have:=w.pos;rw[List.length_cons] at h;omega
  |succ n=>rw[iX,if_neg ne,ih (by simpa using h)]
theorem jh {us:List Nat}{x:Nat}{l:List Nat}(f:Fst us)(hx:x<us.length)(w:Way us x l):way us x=l:=by
 obtain⟨l',w',h⟩:=f.way hx
 cases w.det w'
 exact G8 w (by omega)
theorem fj {us:List Nat}{x:Nat}(f:Fst us)(hx:x<us.length):Way us x (way us x):=by
 obtain⟨l,w,_⟩:=f.way hx
 rw[jh f hx w];exact w
theorem pL {us:List Nat}{x:Nat}(f:Fst us)(hx:x<us.length):(way us x).length≤us.length:=by
 obtain⟨l,w,h⟩:=f.way hx
 rw[jh f hx w];exact h
noncomputable def hd (us:List Nat)(x:Nat):Nat:=cM (way us x)
noncomputable def dp (us:List Nat)(x:Nat):Nat:=(way us x).length - 1
noncomputable def nM (y:Str)(us:List Nat)(x t:Nat):Nat:=
 if y = "whole" then (if t∈way us x then hd us x else up us t)
 else if y = "halves" then (if t∈kc (way us x) then up us (up us t) else up us t)
 else if y = "splits" then (if t∈way us x then up us (up us t) else up us t)
 else if y = "one" then (if t=x then up us (up us t) else up us t)
 else up us t
noncomputable def gm (y:Str)(us:List Nat)(x:Nat):List Nat:=(List.range us.length).map (nM y us x)
noncomputable def oq (y:Str)(us:List Nat)(x:Nat):Nat:=if y = "halves" then (way us x).length / 2 else dp us x
theorem pW {us:List Nat}{t:Nat}(h:us.length≤t):up us t=0:=by
 unfold up;rw[List.getD_eq_getElem?_getD,List.getElem?_eq_none h];rfl
theorem eS (y:Str)(us:List Nat)(x:Nat):(gm y us x).length=us.length:=by unfold gm;rw[List.length_map,List.length_range]
theorem uD {y:Str}{us:List Nat}{x t:Nat}(h:t<us.length):up (gm y us x) t=nM y us x t:=by
 unfold up gm
 rw[List.getD_eq_getElem?_getD,List.getElem?_map,List.getElem?_range h];rfl
theorem g8 {y:Str}{us us':List Nat}{x:Nat}(hl:us'.length=us.length)(h:∀t,t<us.length->up us' t=nM y us x t):us'=gm y us x:=by
 refine Et (by rw[hl,eS]) fun t=>?_
 by_cases ht:t<us.length
 ·rw[h t ht,uD ht]
 ·rw[pW (by omega),pW (by rw[eS];omega)]
theorem RM.fun {y:Str}{us:List Nat}{x h:Nat}{us':List Nat}{n:Nat}(f:Fst us)(hx:x<us.length)(r:RM y us x h us' n):h=hd us x/\us'=gm y us x/\n=oq y us x:=by
 cases r with
 |none r=>
  obtain⟨rfl,l,w,e,hn⟩:=r
  rw[←jh f hx w] at e hn
  refine⟨e,g8 rfl fun t ht=>rfl,?_⟩
  show n=dp us' x
  unfold dp;omega
 |whole r=>
  obtain⟨l,w,e,hn,hl,hu⟩:=r
  rw[←jh f hx w] at e hn hu
  refine⟨e,g8 hl fun t ht=>?_,?_⟩
  ·rw[hu t,e];rfl
  ·show n=dp us x
   unfold dp;omega
 |halves r=>
  obtain⟨l,w,e,hn,hl,hu⟩:=r
  rw[←jh f hx w] at e hn hu
  exact⟨e,g8 hl fun t ht=>by rw[hu t];rfl,hn⟩
 |splits r=>
  obtain⟨l,w,e,hn,hl,hu⟩:=r
  rw[←jh f hx w] at e hn hu
  refine⟨e,g8 hl fun t ht=>by rw[hu t];rfl,?_⟩
  show n=dp us x
  unfold dp;omega
 |one r=>
  obtain⟨rfl,l,w,e,hn⟩:=r
  rw[←jh f hx w] at e hn
  refine⟨e,g8 (List.length_set) fun t ht=>?_,?_⟩
  ·rw[bu hx]
   show (if t=x then up us (up us x) else up us t)=if t=x then up us (up us t) else up us t
   by_cases q:t=x
   ·rw[if_pos q,if_pos q,q]
   ·rw[if_neg q,if_neg q]
  ·show n=dp us x
   unfold dp;omega
theorem vc (us:List Nat)(k x:Nat):Nat.repeat (up us) (k+1) x=Nat.repeat (up us) k (up us x):=by
 induction k with
 |zero=>rfl
 |succ k ih=>
  show up us (Nat.repeat (up us) (k+1) x)=up us (Nat.repeat (up us) k (up us x))
  rw[ih]
theorem Bi {us:List Nat}{x:Nat}{l:List Nat}(w:Way us x l):∀k,l.length≤k+1->up us (Nat.repeat (up us) k x)=Nat.repeat (up us) k x:=by
 induction w with
 | @head x e=>
  intro k _
  have:Nat.repeat (up us) k x=x:=by
   induction k with
   |zero=>rfl
   |succ k ih=>show up us (Nat.repeat (up us) k x)=x;rw[ih (by simp)];exact e
  rw[this];exact e
 | @step x l n w ih=>
  intro k hk
  have pos:=w.pos
  cases k with
  |zero=>rw[List.length_cons] at hk;omega
  |succ k=>rw[vc];exact ih k (by simpa using hk)
noncomputable def HN (us:List Nat):Bool:=decide (1≤us.length)&&decide (us.length≤40)&&us.all (fun u=>decide (u<us.length))&&(List.range us.length).all fun x=>decide (up us (Nat.repeat (up us) (us.length - 1) x)=Nat.repeat (up us) (us.length - 1) x)
theorem wV {us:List Nat}:∀(k y:Nat),up us (Nat.repeat (up us) k y)=Nat.repeat (up us) k y->∀m,k≤m->iX us m y=iX us k y:=fun k=>by
 induction k with
 |zero=>
  intro y h m _
  cases m with
  |zero=>rfl
  |succ m=>have e:iX us (m+1) y=if up us y=y then [y] else y::iX us m (up us y):=rfl;rw[e,if_pos (show up us y=y from h)];rfl
 |succ k ih=>
  intro y h m hm
  cases m with
  |zero=>omega
  |succ m=>
   rw[iX,iX]
   by_cases e:up us y=y
   ·rw[if_pos e,if_pos e]
   ·rw[if_neg e,if_neg e,ih (up us y) (by rw[←vc];exact h) m (by omega)]
theorem Aa (us:List Nat):∀(n x:Nat),(iX us n x).length≤n+1
 |0,x=>by rw[iX];simp
 |n+1,x=>by
  rw[iX]
  split
  ·simp
  ·rw[List.length_cons];have:=Aa us n (up us x);omega
theorem Ew (us:List Nat):∀(n x:Nat),1≤(iX us n x).length
 |0,x=>by rw[iX];simp
 |n+1,x=>by
  rw[iX]
  split<;>simp
theorem Dh {us:List Nat}(h:HN us=true):Frst us:=by
 unfold HN at h
 rw[Bool.and_eq_true,Bool.and_eq_true,Bool.and_eq_true,decide_eq_true_eq,decide_eq_true_eq,List.all_eq_true,List.all_eq_true] at h
 obtain⟨⟨⟨h1,h2⟩,h3⟩,h4⟩:=h
 have bnd:∀x,x<us.length->up us x<us.length:=fun x hx=>by
  have:=h3 us[x] (List.getElem_mem hx)
  rw[decide_eq_true_eq] at this
  show us.getD x 0<_
  rw[List.getD_eq_getElem?_getD,List.getElem?_eq_getElem hx];exact this
 refine⟨h1,h2,bnd,fun x=>(iX us (us.length - 1) x).length - 1,fun x hx=>?_,fun x hx ne=>?_⟩
 ·have:=Aa us (us.length - 1) x
  show (iX us (us.length - 1) x).length - 1<us.length
  omega
 ·have hf:=h4 x (List.mem_range.mpr hx)
  rw[decide_eq_true_eq] at hf
  have hu:=h4 (up us x) (List.mem_range.mpr (bnd x hx))
  rw[decide_eq_true_eq] at hu
  show (iX us (us.length - 1) (up us x)).length - 1<(iX us (us.length - 1) x).length - 1
  cases hn:us.length - 1 with
  |zero=>rw[hn] at hf;exact absurd hf ne
  |succ n=>
   rw[hn,vc] at hf
   have e:=wV n (up us x) hf (n+1) (by omega)
   have e2:iX us (n+1) x=x::iX us n (up us x):=by rw[iX,if_neg ne]
   rw[e,e2,List.length_cons]
   have:=Ew us n (up us x)
   omega
theorem CH {us:List Nat}(f:Frst us):HN us=true:=by
 unfold HN
 rw[Bool.and_eq_true,Bool.and_eq_true,Bool.and_eq_true,decide_eq_true_eq,decide_eq_true_eq,List.all_eq_true,List.all_eq_true]
 refine⟨⟨⟨f.one,f.most⟩,fun u hu=>?_⟩,fun x hx=>?_⟩
 ·obtain⟨i,hi,rfl⟩:=List.mem_iff_getElem.mp hu
  have:=f.fst.bnd i hi
  rw[decide_eq_true_eq]
  unfold up at this
  rwa [List.getD_eq_getElem?_getD,List.getElem?_eq_getElem hi] at this
 ·rw[decide_eq_true_eq]
  obtain⟨l,w,hl⟩:=f.fst.way (List.mem_range.mp hx)
  have:=f.one
  exact Bi w _ (by omega)
end Fo
namespace Dp
open PySem L2 Pu Fo
noncomputable def jI:List PV->Option (List Nat)
 |[]=>some []
 |.int i::ps=>if 0≤i then (jI ps).map fun us=>i.toNat::us else none
 |_=>none
theorem lC:∀us:List Nat,jI (ak us)=some us
 |[]=>rfl
 |u::us=>by
  show jI (.int (u:Int)::ak us)=_
  rw[jI,if_pos (by omega),lC us];rfl
theorem tR:∀{ps:List PV} {us:List Nat},jI ps=some us->ps=ak us:=fun {ps}=>by
 induction ps with
 |nil=>intro us h;cases h;rfl
 |cons p ps ih=>
  intro us h
  cases p<;>first|(cases h;done)|skip
  next i=>
  rw[jI] at h
  split at h
  ·next z=>
   obtain⟨us',e1,rfl⟩:=Option.map_eq_some_iff.mp h
   rw[ih e1,cP,nI,Int.toNat_of_nonneg z]
  ·cases h
noncomputable def fo (qs:List PV):Option PR:=match qs with
 |[.str y]=>some (.v (.bl (decide (y∈bt))))
 |_=>none
noncomputable def gf (qs:List PV):Option PR:=match qs with
 |[.tup ps,.str y,.int x]=>match jI ps with
  |some us=>if HN us=true/\y∈bt/\0≤x/\x<us.length then some (.v (.tup [nI (hd us x.toNat),.tup (ak (gm y us x.toNat)),nI (oq y us x.toNat)])) else none
  |none=>none
 |_=>none
section
variable {P:Program}{w:World}{K:PySem.W.Frag}{mg:Str->Option Value}{base:Heap}{k:Nat}{ps:List Str}{x:Str}
theorem zn {φ ψ:zP}(h:∀qs Q,ψ qs Q->φ qs Q)(d:Def P w K mg base k x ps (bE K φ)):Def P w K mg base k x ps (bE K ψ):=Pu.Def.imp d fun vs H Q E ⟨F,qs,Qp,s,r,q,z⟩=>⟨F,qs,Qp,s,r,h qs Qp q,z⟩
theorem wm (d:Def P w K mg base k x ps (bE K qp)):Def P w K mg base k x ps (bE K (b6 fo)):=zn (fun qs Q ⟨r,e,q⟩=>by
 unfold fo at e
 split at e
 ·cases e;exact⟨_,rfl,q⟩
 ·cases e) d
theorem yR (d:Def P w K mg base k x ps (bE K tZ)):Def P w K mg base k x ps (bE K (b6 gf)):=zn (fun qs Q ⟨r,e,q⟩=>by
 unfold gf at e
 split at e
 ·next pp y xx _=>
  split at e
  ·next us eu=>
   split at e
   ·next z=>
    cases e
    have f:=Dh z.1
    refine⟨us,y,xx.toNat,?_,f,z.2.1,?_,fun h us' n r=>?_⟩
    ·rw[tR eu,nI,Int.toNat_of_nonneg z.2.2.1]
    ·have:=z.2.2;omega
    ·obtain⟨rfl,rfl,rfl⟩:=r.fun f.fst (by have:=z.2.2;omega)
     exact q
   ·cases e
  ·cases e
 ·cases e) d
end
theorem Bt {us:List Nat}(f:Frst us){y:Str}(hy:y∈bt){x:Nat}(hx:x<us.length):gf [.tup (ak us),.str y,nI x]=some (.v (.tup [nI (hd us x),.tup (ak (gm y us x)),nI (oq y us x)])):=by
 show (match jI (ak us) with
  |some us=>if HN us=true/\y∈bt/\0≤(x:Int)/\(x:Int)<us.length then some (PR.v (.tup [nI (hd us (x:Int).toNat),.tup (ak (gm y us (x:Int).toNat)),nI (oq y us (x:Int).toNat)])) else none
  |none=>none)=_
 rw[lC]
 show (if _ then _ else _)=_
 rw[if_pos ⟨CH f,hy,by omega,by omega⟩,Int.toNat_natCast]
theorem yC (y:Str):fo [.str y]=some (.v (.bl (decide (y∈bt)))):=rfl
end Dp
namespace Lo
open PySem Fo Pu
noncomputable def uI (acc:List (Nat×List Nat))(h x:Nat):List (Nat×List Nat):=
 if acc.any (fun t=>decide (t.1=h)) then acc.map (fun t=>if t.1=h then (t.1,t.2++[x]) else t) else acc++[(h,[x])]
noncomputable def mi (us:List Nat)(n:Nat):List (Nat×List Nat):=(List.range n).foldl (fun acc x=>uI acc (hd us x) x) []
noncomputable def AG (us:List Nat):List (List Nat):=(mi us us.length).map (·.2)
noncomputable def mZ (us:List Nat):List PV:=(AG us).map fun l=>.tup (ak l)
end Lo
namespace Dp
open PySem L2 Pu Fo Lo
noncomputable def dD (qs:List PV):Option PR:=match qs with
 |[.tup ps]=>match jI ps with
  |some us=>if HN us=true then some (.n (mZ us)) else none
  |none=>none
 |_=>none
theorem Ag {us:List Nat}(f:Frst us):dD [.tup (ak us)]=some (.n (mZ us)):=by
 show (match jI (ak us) with|some us=>if HN us=true then some (PR.n (mZ us)) else none|none=>none)=_
 rw[lC]
 show (if HN us=true then some (PR.n (mZ us)) else none)=_
 rw[if_pos (CH f)]
end Dp
end
section
namespace Fo
open PySem L2
theorem kh {us:List Nat}{x t:Nat}(f:Fst us)(hx:x<us.length)(h:t∈way us x):t<us.length:=(fj f hx).lt f.bnd hx t h
theorem Ci {us:List Nat}(f:Fst us){x:Nat}(hx:x<us.length){y:Str}(hy:y∈bt):RM y us x (hd us x) (gm y us x) (oq y us x):=by
 have w:=fj f hx
 have pos:=w.pos
 have low:∀t,us.length≤t->up (gm y us x) t=0/\up us t=0/\t∉way us x:=fun t ht=>⟨pW (by rw[eS];omega),pW ht,fun q=>by have:=kh f hx q;omega⟩
 have hdp:dp us x+1=(way us x).length:=by unfold dp;omega
 rcases (show y = "none"\/y = "whole"\/y = "halves"\/y = "splits"\/y = "one" by simpa [bt] using hy) with rfl|rfl|rfl|rfl|rfl
 ·exact .none ⟨(g8 rfl fun t ht=>rfl).symm,_,w,rfl,hdp⟩
 ·refine .whole ⟨_,w,rfl,hdp,eS ..,fun t=>?_⟩
  by_cases ht:t<us.length
  ·rw[uD ht];rfl
  ·obtain⟨a,b,c⟩:=low t (by omega)
   rw[a,b,if_neg c]
 ·refine .halves ⟨_,w,rfl,rfl,eS ..,fun t=>?_⟩
  by_cases ht:t<us.length
  ·rw[uD ht];rfl
  ·obtain⟨a,b,c⟩:=low t (by omega)
   rw[a,b,if_neg fun q=>c (mE _ _ q)]
 ·refine .splits ⟨_,w,rfl,hdp,eS ..,fun t=>?_⟩
  by_cases ht:t<us.length
  ·rw[uD ht];rfl
  ·obtain⟨a,b,c⟩:=low t (by omega)
   rw[a,b,if_neg c]
 ·refine .one ⟨(g8 (List.length_set) fun t ht=>?_).symm,_,w,rfl,hdp⟩
  rw[bu hx]
  show (if t=x then up us (up us x) else up us t)=if t=x then up us (up us t) else up us t
  by_cases q:t=x
  ·rw[if_pos q,if_pos q,q]
  ·rw[if_neg q,if_neg q]
theorem lJ {us:List Nat}(f:Frst us){x:Nat}(hx:x<us.length){y:Str}(hy:y∈bt):Frst (gm y us x):=((Ci f.fst hx hy).frst f hx).1
theorem xm {us:List Nat}{x:Nat}(f:Fst us)(hx:x<us.length)(e:up us x=x):way us x=[x]:=jh f hx (.head e)
theorem xg {us:List Nat}{x:Nat}(f:Fst us)(hx:x<us.length)(e:up us x≠x):way us x=x::way us (up us x):=jh f hx (.step e (fj f (f.bnd x hx)))
theorem jp {us:List Nat}{x:Nat}(f:Fst us)(hx:x<us.length)(e:up us x=x):hd us x=x:=by unfold hd;rw[xm f hx e];rfl
theorem FK {us:List Nat}{x:Nat}(f:Fst us)(hx:x<us.length)(e:up us x≠x):hd us x=hd us (up us x):=by
 unfold hd
 rw[xg f hx e,cA (fj f (f.bnd x hx)).ne]
theorem zc {us:List Nat}{x:Nat}(f:Fst us)(hx:x<us.length):hd us (up us x)=hd us x:=by
 by_cases e:up us x=x
 ·rw[e]
 ·exact (FK f hx e).symm
theorem wJ {us:List Nat}{x:Nat}(f:Fst us)(hx:x<us.length):up us (hd us x)=hd us x:=(fj f hx).head_last
theorem mY {us:List Nat}{x:Nat}(f:Fst us)(hx:x<us.length):hd us x<us.length:=kh f hx (ql (fj f hx).ne)
theorem CD {us:List Nat}(f:Fst us){x:Nat}(hx:x<us.length){y:Str}(hy:y∈bt){t:Nat}(ht:t<us.length):hd (gm y us x) t=hd us t/\dp (gm y us x) t≤dp us t:=by
 obtain⟨l,L⟩:=(Ci f hx hy).left f hx
 obtain⟨l',w',e1,e2⟩:=L.sh.way f ht (fj f ht)
 have f':=L.sh.fst f
 have:=jh f' (by rw[eS];exact ht) w'
 unfold hd dp
 rw[this]
 exact⟨e1,by omega⟩
end Fo
end
section
namespace Dp
open PySem L2 Fo Pu
noncomputable def cT:FS:=(al (aZ 3 (aj bn (aj bo (aj bo (aj eU (fV 3) (aj bo (aj bn (fV 3) (fC (.int 65521))) (fC (.int 40487)))) (aj eU (fC (.int 7)) (fV 5))) (fC (.int 5))) (fC (.int 1999999973))))
  (al (kX 2 (aa (aj be (eV (aa (fV 3) (aa (aj bn (fV 4) (fC (.int 1000000))) ah))) (fB oa (aa (aj Df (fV 4) (fC (.int 0))) ah))) ah))
  (aZ 4 (aj jy (fV 4) (fC (.int 1000000))))))
theorem mM {ρ:aC}:cT ρ=(al (aZ 3 (aj bn (aj bo (aj bo (aj eU (fV 3) (aj bo (aj bn (fV 3) (fC (.int 65521))) (fC (.int 40487)))) (aj eU (fC (.int 7)) (fV 5))) (fC (.int 5))) (fC (.int 1999999973))))
  (al (kX 2 (aa (aj be (eV (aa (fV 3) (aa (aj bn (fV 4) (fC (.int 1000000))) ah))) (fB oa (aa (aj Df (fV 4) (fC (.int 0))) ah))) ah))
  (aZ 4 (aj jy (fV 4) (fC (.int 1000000)))))) ρ:=Eq.trans rfl rfl
noncomputable def hG:FS:=(al (jl 2 (eV ah))
  (al (aZ 3 (aj bn (aj eU (aj bo (aj bn (fV 0) (fC (.int 1999999973))) (fC (.int 31))) (fC (.int 765432101))) (fC (.int 1999999973))))
  (al (aZ 4 (fC (.int 0)))
  (al (fA (kT (fT (aj BN (fV 0) (fC (.int 0)))) (fT (aj LZ (fV 0) (aj GL (fC (.int 10)) (fC (.int 18)))))) (aZ 4 (fB CO (aa (fV 0) ah))) aK)
  (al (ig (r6 oQ (aa (fV 1) ah)) (gN 5) cT)
  (j3 2))))))
theorem fR {ρ:aC}:hG ρ=(al (jl 2 (eV ah))
  (al (aZ 3 (aj bn (aj eU (aj bo (aj bn (fV 0) (fC (.int 1999999973))) (fC (.int 31))) (fC (.int 765432101))) (fC (.int 1999999973))))
  (al (aZ 4 (fC (.int 0)))
  (al (fA (kT (fT (aj BN (fV 0) (fC (.int 0)))) (fT (aj LZ (fV 0) (aj GL (fC (.int 10)) (fC (.int 18)))))) (aZ 4 (fB CO (aa (fV 0) ah))) aK)
  (al (ig (r6 oQ (aa (fV 1) ah)) (gN 5) cT)
  (j3 2)))))) ρ:=Eq.trans rfl rfl
noncomputable def aF:List PV->Option PR:=run 2 6 hG
theorem ik {a0 a1:PV}:aF [a0,a1]=(hG [some (.val a0),some (.val a1),none,none,none,none]).res:=Eq.trans rfl rfl
noncomputable def fw:FS:=(aZ 2 (aj bn (aj bo (aj eU (fV 2) (fC (.int 69621))) (fV 3)) (fC (.int 2147483647))))
theorem oS {ρ:aC}:fw ρ=(aZ 2 (aj bn (aj bo (aj eU (fV 2) (fC (.int 69621))) (fV 3)) (fC (.int 2147483647)))) ρ:=Eq.trans rfl rfl
noncomputable def jJ:FS:=(al (fA (fT (aj BN (fV 1) (fB gX (aa (fV 0) ah)))) (aV (aj be (fV 0) (fV 1))) aK)
  (al (aZ 2 (aj bn (aj eU (fC (.int 48271)) (aj bo (aj bo (aj eU (fV 1) (fV 1)) (aj eU (fC (.int 7)) (fV 1))) (fC (.int 11)))) (fC (.int 2147483647))))
  (al (ig (ph (DN (fV 0) uQ (vv (fC (.int 3))))) (gN 3) fw)
  (j3 2))))
theorem kI {ρ:aC}:jJ ρ=(al (fA (fT (aj BN (fV 1) (fB gX (aa (fV 0) ah)))) (aV (aj be (fV 0) (fV 1))) aK)
  (al (aZ 2 (aj bn (aj eU (fC (.int 48271)) (aj bo (aj bo (aj eU (fV 1) (fV 1)) (aj eU (fC (.int 7)) (fV 1))) (fC (.int 11)))) (fC (.int 2147483647))))
  (al (ig (ph (DN (fV 0) uQ (vv (fC (.int 3))))) (gN 3) fw)
  (j3 2)))) ρ:=Eq.trans rfl rfl
noncomputable def aX:List PV->Option PR:=run 2 4 jJ
theorem mW {a0 a1:PV}:aX [a0,a1]=(jJ [some (.val a0),some (.val a1),none,none]).res:=Eq.trans rfl rfl
noncomputable def kf:FS:=(aV (kO (fB g7 (aa (fV 0) (aa (fC (.ty "int")) ah))) (sU (zi (fB g7 (aa (fV 0) (aa (fC (.ty "bool")) ah)))))))
theorem rN {ρ:aC}:kf ρ=(aV (kO (fB g7 (aa (fV 0) (aa (fC (.ty "int")) ah))) (sU (zi (fB g7 (aa (fV 0) (aa (fC (.ty "bool")) ah))))))) ρ:=Eq.trans rfl rfl
noncomputable def cG:List PV->Option PR:=run 1 1 kf
theorem uq {a0:PV}:cG [a0]=(kf [some (.val a0)]).res:=Eq.trans rfl rfl
noncomputable def lM:FS:=(aV (kO (ap cG (aa (fV 0) ah)) (sU (Ld EL EL (fC (.int 1)) (fV 0) (fC (.int 40))))))
theorem sQ {ρ:aC}:lM ρ=(aV (kO (ap cG (aa (fV 0) ah)) (sU (Ld EL EL (fC (.int 1)) (fV 0) (fC (.int 40)))))) ρ:=Eq.trans rfl rfl
noncomputable def fE:List PV->Option PR:=run 1 1 lM
theorem wp {a0:PV}:fE [a0]=(lM [some (.val a0)]).res:=Eq.trans rfl rfl
noncomputable def kq:FS:=(aV (kO (ap cG (aa (fV 1) ah)) (sU (Ld EL BN (fC (.int 0)) (fV 1) (fV 0)))))
theorem rE {ρ:aC}:kq ρ=(aV (kO (ap cG (aa (fV 1) ah)) (sU (Ld EL BN (fC (.int 0)) (fV 1) (fV 0))))) ρ:=Eq.trans rfl rfl
noncomputable def bp:List PV->Option PR:=run 2 2 kq
theorem vI {a0 a1:PV}:bp [a0,a1]=(kq [some (.val a0),some (.val a1)]).res:=Eq.trans rfl rfl
noncomputable def iD:FS:=(fA (eR (fT (ap fo (aa (fV 0) ah)))) nb aK)
theorem nO {ρ:aC}:iD ρ=(fA (eR (fT (ap fo (aa (fV 0) ah)))) nb aK) ρ:=Eq.trans rfl rfl
noncomputable def cy:List PV->Option PR:=run 1 1 iD
theorem pk {a0:PV}:cy [a0]=(iD [some (.val a0)]).res:=Eq.trans rfl rfl
noncomputable def iE:FS:=(fA (eR (fT (ap bp (aa (fV 0) (aa (fV 1) ah))))) nb aK)
theorem nT {ρ:aC}:iE ρ=(fA (eR (fT (ap bp (aa (fV 0) (aa (fV 1) ah))))) nb aK) ρ:=Eq.trans rfl rfl
noncomputable def cw:List PV->Option PR:=run 2 2 iE
theorem pA {a0 a1:PV}:cw [a0,a1]=(iE [some (.val a0),some (.val a1)]).res:=Eq.trans rfl rfl
noncomputable def iz:FB:=(fT (aj iw (aj be (fV 0) (aj be (fV 2) (jP (fC (.int 1))))) (aj be (fV 2) (jP (fC (.int 1))))))
theorem mQ {ρ:aC}:iz ρ=(fT (aj iw (aj be (fV 0) (aj be (fV 2) (jP (fC (.int 1))))) (aj be (fV 2) (jP (fC (.int 1)))))) ρ:=Eq.trans rfl rfl
noncomputable def iA:FS:=(kX 2 (aa (aj be (fV 0) (aj be (fV 2) (jP (fC (.int 1))))) ah))
theorem r9 {ρ:aC}:iA ρ=(kX 2 (aa (aj be (fV 0) (aj be (fV 2) (jP (fC (.int 1))))) ah)) ρ:=Eq.trans rfl rfl
noncomputable def m8:FS:=(al (jl 2 (eV (aa (fV 1) ah)))
  (al (lK iz iA)
  (j3 2)))
theorem va {ρ:aC}:m8 ρ=(al (jl 2 (eV (aa (fV 1) ah)))
  (al (lK iz iA)
  (j3 2))) ρ:=Eq.trans rfl rfl
noncomputable def eA:List PV->Option PR:=run 2 3 m8
theorem yZ {a0 a1:PV}:eA [a0,a1]=(m8 [some (.val a0),some (.val a1),none]).res:=Eq.trans rfl rfl
noncomputable def jL:FS:=(aV (aj be (eV (aa (aj bo (fC (.int 1)) (aj bn (aj jy (fV 0) (fC (.int 8))) (fC (.int 12)))) (aa (aj bo (fC (.int 1)) (aj bn (aj jy (fV 0) (fC (.int 8))) (fC (.int 40)))) ah))) (fB oa (aa (aj dB (aj bn (fV 0) (fC (.int 8))) (fC (.int 3))) ah))))
theorem kM {ρ:aC}:jL ρ=(aV (aj be (eV (aa (aj bo (fC (.int 1)) (aj bn (aj jy (fV 0) (fC (.int 8))) (fC (.int 12)))) (aa (aj bo (fC (.int 1)) (aj bn (aj jy (fV 0) (fC (.int 8))) (fC (.int 40)))) ah))) (fB oa (aa (aj dB (aj bn (fV 0) (fC (.int 8))) (fC (.int 3))) ah)))) ρ:=Eq.trans rfl rfl
noncomputable def dW:List PV->Option PR:=run 1 1 jL
theorem m3 {a0:PV}:dW [a0]=(jL [some (.val a0)]).res:=Eq.trans rfl rfl
noncomputable def fN:FB:=(gY (fT (aj iw (aj be (fV 0) (aj be (fV 2) (jP (fC (.int 1))))) (aj be (fV 2) (jP (fC (.int 1)))))) (fT (aj EL (fB gX (aa (fV 2) ah)) (fB gX (aa (fV 0) ah)))))
theorem kE {ρ:aC}:fN ρ=(gY (fT (aj iw (aj be (fV 0) (aj be (fV 2) (jP (fC (.int 1))))) (aj be (fV 2) (jP (fC (.int 1)))))) (fT (aj EL (fB gX (aa (fV 2) ah)) (fB gX (aa (fV 0) ah))))) ρ:=Eq.trans rfl rfl
noncomputable def fK:FS:=(kX 2 (aa (aj be (fV 0) (aj be (fV 2) (jP (fC (.int 1))))) ah))
theorem pK {ρ:aC}:fK ρ=(kX 2 (aa (aj be (fV 0) (aj be (fV 2) (jP (fC (.int 1))))) ah)) ρ:=Eq.trans rfl rfl
noncomputable def kz:FS:=(al (jl 2 (eV (aa (fV 1) ah)))
  (al (lK fN fK)
  (j3 2)))
theorem p5 {ρ:aC}:kz ρ=(al (jl 2 (eV (aa (fV 1) ah)))
  (al (lK fN fK)
  (j3 2))) ρ:=Eq.trans rfl rfl
noncomputable def cF:List PV->Option PR:=run 2 3 kz
theorem uX {a0 a1:PV}:cF [a0,a1]=(kz [some (.val a0),some (.val a1),none]).res:=Eq.trans rfl rfl
end Dp
end
section
namespace Dp
open PySem L2 Fo Pu
noncomputable def t8 (o:Out)(u:FS):Out:=match o with
 |.nx ρ'=>u ρ'
 |o=>o
noncomputable def IF (o:Option RV)(ρ:aC):Out:=match o with
 |some (.fz _)=>.nx ρ
 |_=>.bad
noncomputable def KP (o:Option RV):Out:=match o with
 |some (.fz p)=>.rt p
 |some (.nw ps)=>.rn ps
 |_=>.bad
noncomputable def BV (o:Option Sl):Out:=match o with
 |some (.val p)=>.rt p
 |some (.own ps)=>.rn ps
 |_=>.bad
noncomputable def Pq (o:Option Bool)(s u:FS)(ρ:aC):Out:=match o with
 |some true=>s ρ
 |some false=>u ρ
 |none=>.bad
noncomputable def Oc (o:Option PV)(i:Nat)(ρ:aC):Out:=match o with
 |some p=>.nx (ρ.set i (some (.val p)))
 |none=>.bad
noncomputable def Ly (o:Option RV)(i:Nat)(ρ:aC):Out:=match o with
 |some (.fz p)=>.nx (ρ.set i (some (.val p)))
 |some (.nw ps)=>.nx (ρ.set i (some (.own ps)))
 |_=>.bad
noncomputable def Pn (o:Option aC):Out:=match o with
 |some ρ'=>.nx ρ'
 |none=>.bad
noncomputable def M8 (o:Option PV)(t:FT)(ρ:aC):Out:=match o with
 |some p=>Pn (t p ρ)
 |none=>.bad
noncomputable def Ms (o:Option (List PV))(i j:Nat)(ρ:aC):Out:=match o with
 |some [p,q]=>.nx ((ρ.set i (some (.val p))).set j (some (.val q)))
 |_=>.bad
noncomputable def Mg (g:Int->Int->Int)(a:Option Sl)(b:Option PV)(i:Nat)(ρ:aC):Out:=match a,b with
 |some (.val (.int a)),some (.int b)=>.nx (ρ.set i (some (.val (.int (g a b)))))
 |_,_=>.bad
noncomputable def No (a:Option Sl)(b:Option (List PV))(i:Nat)(ρ:aC):Out:=match a,b with
 |some (.own ps),some [q]=>if ps.length≤100000 then .nx (ρ.set i (some (.own (ps++[q])))) else .bad
 |_,_=>.bad
noncomputable def D0 (o:Option Nat)(v:PV)(ps:List PV)(j:Nat)(ρ:aC):Out:=match o with
 |some n=>.nx (ρ.set j (some (.own (ps.set n v))))
 |none=>.bad
noncomputable def MQ (v:Option PV)(a:Option Sl)(k:Option PV)(j:Nat)(ρ:aC):Out:=match v,a,k with
 |some v,some (.own ps),some (.int k)=>D0 (tX ps.length k) v ps j ρ
 |_,_,_=>.bad
noncomputable def NM (o:Option (List PV))(t:FT)(s:FS)(ρ:aC):Out:=match o with
 |some its=>cH t s its ρ
 |none=>.bad
noncomputable def Og (o:Option PV):Option RV:=match o with
 |some (.int i)=>some (.fz (.int (-i)))
 |_=>none
noncomputable def P1 (o:Option PV):Option (Option Int):=match o with
 |some (.int i)=>some (some i)
 |_=>none
noncomputable def DP (F:List PV->Option PR)(o:Option (List PV))(rs:List RV):Option RV:=match o with
 |some ps=>(F ps).map sL
 |none=>(F (rs.map RV.pv)).bind fun r=>if Lq r=true then some (sL r) else none
noncomputable def Iy (ps:List PV):Option (List PV):=match ps with
 |[p]=>(iN p).map (gx 0)
 |_=>none
noncomputable def qF (o:Out)(t:FT)(s:FS)(ps:List PV):Out:=match o with
 |.nx ρ2=>cH t s ps ρ2
 |.ct ρ2=>cH t s ps ρ2
 |.bk ρ2=>.nx ρ2
 |o=>o
noncomputable def Dc (o:Option aC)(t:FT)(s:FS)(ps:List PV):Out:=match o with
 |some ρ=>qF (s ρ) t s ps
 |none=>.bad
theorem im {t:FT}{s:FS}{p:PV}{ps:List PV}{ρ:aC}:cH t s (p::ps) ρ=Dc (t p ρ) t s ps:=Eq.trans rfl rfl
noncomputable def LY (o:Out)(c:FB)(s:FS)(n:Nat):Out:=match o with
 |.nx ρ2=>d6 c s n ρ2
 |.ct ρ2=>d6 c s n ρ2
 |.bk ρ2=>.nx ρ2
 |o=>o
noncomputable def Ph (o:Option Bool)(c:FB)(s:FS)(n:Nat)(ρ:aC):Out:=match o with
 |some true=>LY (s ρ) c s n
 |some false=>.nx ρ
 |none=>.bad
theorem jq {c:FB}{s:FS}{n:Nat}{ρ:aC}:d6 c s (n+1) ρ=Ph (c ρ) c s n ρ:=Eq.trans rfl rfl
noncomputable def vO (g:Int->Int->Int)(o:Option PV)(ps:List PV)(k b:Int)(j:Nat)(ρ:aC):Out:=match o with
 |some (.int a)=>.nx (ρ.set j (some (.own (ps.set k.toNat (.int (g a b))))))
 |_=>.bad
noncomputable def Dj (g:Int->Int->Int)(a:Option Sl)(k b:Option PV)(j:Nat)(ρ:aC):Out:=match a,k,b with
 |some (.own ps),some (.int k),some (.int b)=>if 0≤k then vO g ps[k.toNat]? ps k b j ρ else .bad
 |_,_,_=>.bad
theorem Lp {s:Option Sl}{i:Nat}{ρ:aC}:frz (i+1) (s::ρ)=s::frz i ρ:=by
 unfold frz
 rw[List.getElem?_cons_succ]
 split<;>simp_all
theorem wN {r:RV}{rs:List RV}:(r::rs).mapM RV.fr=r.fr.bind fun p=>(rs.mapM RV.fr).bind fun ps=>some (p::ps):=by
 rw[List.mapM_cons];rfl
theorem N2 {s u:FS}{ρ:aC}:al s u ρ=t8 (s ρ) u:=Eq.trans rfl rfl
theorem zE {t:FT}{s:FS}{ps:List PV}{ρ:aC}:qF (.nx ρ) t s ps=cH t s ps ρ:=Eq.trans rfl rfl
theorem Fy {t:FT}{s:FS}{ps:List PV}{ρ:aC}:qF (.ct ρ) t s ps=cH t s ps ρ:=Eq.trans rfl rfl
theorem HK {t:FT}{s:FS}{ps:List PV}{ρ:aC}:qF (.bk ρ) t s ps=.nx ρ:=Eq.trans rfl rfl
theorem H9 {t:FT}{s:FS}{ps:List PV}{p:PV}:qF (.rt p) t s ps=.rt p:=Eq.trans rfl rfl
theorem Fb {t:FT}{s:FS}{ps:List PV}{p:List PV}:qF (.rn p) t s ps=.rn p:=Eq.trans rfl rfl
theorem zX {t:FT}{s:FS}{ps:List PV}{ρ:aC}:Dc (some ρ) t s ps=qF (s ρ) t s ps:=Eq.trans rfl rfl
theorem EU {t:FT}{s:FS}{ρ:aC}:cH t s [] ρ=.nx ρ:=Eq.trans rfl rfl
theorem Gh {c:FB}{s:FS}{n:Nat}{ρ:aC}:LY (.nx ρ) c s n=d6 c s n ρ:=Eq.trans rfl rfl
theorem F9 {c:FB}{s:FS}{n:Nat}{ρ:aC}:LY (.ct ρ) c s n=d6 c s n ρ:=Eq.trans rfl rfl
theorem Ht {c:FB}{s:FS}{n:Nat}{ρ:aC}:LY (.bk ρ) c s n=.nx ρ:=Eq.trans rfl rfl
theorem HZ {c:FB}{s:FS}{n:Nat}{p:PV}:LY (.rt p) c s n=.rt p:=Eq.trans rfl rfl
theorem KL {c:FB}{s:FS}{n:Nat}{ρ:aC}:Ph (some true) c s n ρ=LY (s ρ) c s n:=Eq.trans rfl rfl
theorem KI {c:FB}{s:FS}{n:Nat}{ρ:aC}:Ph (some false) c s n ρ=.nx ρ:=Eq.trans rfl rfl
theorem Ax {u:FS}{ρ:aC}:t8 (.nx ρ) u=u ρ:=Eq.trans rfl rfl
theorem AL {u:FS}{p:PV}:t8 (.rt p) u=.rt p:=Eq.trans rfl rfl
theorem Am {u:FS}{p:List PV}:t8 (.rn p) u=.rn p:=Eq.trans rfl rfl
theorem AA {u:FS}{ρ:aC}:t8 (.bk ρ) u=.bk ρ:=Eq.trans rfl rfl
theorem Bz {u:FS}{ρ:aC}:t8 (.ct ρ) u=.ct ρ:=Eq.trans rfl rfl
theorem KK {ρ:aC}:aK ρ=.nx ρ:=Eq.trans rfl rfl
theorem OI {ρ:aC}:QF ρ=.bk ρ:=Eq.trans rfl rfl
theorem Ps {ρ:aC}:Qj ρ=.ct ρ:=Eq.trans rfl rfl
theorem K0 {f:FE}{ρ:aC}:eg f ρ=IF (f ρ) ρ:=Eq.trans rfl rfl
theorem AC {p:PV}{ρ:aC}:IF (some (.fz p)) ρ=.nx ρ:=Eq.trans rfl rfl
theorem Np {f:FE}{ρ:aC}:aV f ρ=KP (f ρ):=Eq.trans rfl rfl
theorem C0 {p:PV}:KP (some (.fz p))=.rt p:=Eq.trans rfl rfl
theorem CK {p:List PV}:KP (some (.nw p))=.rn p:=Eq.trans rfl rfl
theorem Lr {i:Nat}{ρ:aC}:j3 i ρ=BV (sl ρ i):=Eq.trans rfl rfl
theorem C3 {p:PV}:BV (some (.val p))=.rt p:=Eq.trans rfl rfl
theorem B9 {p:List PV}:BV (some (.own p))=.rn p:=Eq.trans rfl rfl
theorem Pe {g:FB}{s u:FS}{ρ:aC}:fA g s u ρ=Pq (g ρ) s u ρ:=Eq.trans rfl rfl
theorem Jb {s u:FS}{ρ:aC}:Pq (some true) s u ρ=s ρ:=Eq.trans rfl rfl
theorem Jo {s u:FS}{ρ:aC}:Pq (some false) s u ρ=u ρ:=Eq.trans rfl rfl
theorem MN {i:Nat}{f:FE}{ρ:aC}:aZ i f ρ=Oc ((f ρ).bind RV.fr) i ρ:=Eq.trans rfl rfl
theorem FH {i:Nat}{p:PV}{ρ:aC}:Oc (some p) i ρ=.nx (ρ.set i (some (.val p))):=Eq.trans rfl rfl
theorem Nd {i:Nat}{f:FE}{ρ:aC}:jl i f ρ=Ly (f ρ) i ρ:=Eq.trans rfl rfl
theorem BQ {i:Nat}{p:PV}{ρ:aC}:Ly (some (.fz p)) i ρ=.nx (ρ.set i (some (.val p))):=Eq.trans rfl rfl
theorem CZ {i:Nat}{p:List PV}{ρ:aC}:Ly (some (.nw p)) i ρ=.nx (ρ.set i (some (.own p))):=Eq.trans rfl rfl
theorem NG {f:FE}{t:FT}{ρ:aC}:fM f t ρ=M8 ((f ρ).bind RV.fr) t ρ:=Eq.trans rfl rfl
theorem HJ {p:PV}{t:FT}{ρ:aC}:M8 (some p) t ρ=Pn (t p ρ):=Eq.trans rfl rfl
theorem LX {ρ:aC}:Pn (some ρ)=.nx ρ:=Eq.trans rfl rfl
theorem N3 {i j:Nat}{fs:FA}{ρ:aC}:oC i j fs ρ=Ms ((fs ρ).bind fun rs=>rs.mapM RV.fr) i j ρ:=Eq.trans rfl rfl
theorem FQ {i j:Nat}{p q:PV}{ρ:aC}:Ms (some [p,q]) i j ρ=.nx ((ρ.set i (some (.val p))).set j (some (.val q))):=Eq.trans rfl rfl
theorem Mp {i:Nat}{s:FS}{ρ:aC}:Ai i s ρ=s (frz i ρ):=Eq.trans rfl rfl
theorem Fu {ps:List PV}{ρ:aC}:frz 0 (some (.own ps)::ρ)=some (.val (.lst ps))::ρ:=Eq.trans rfl rfl
theorem Gi {p:PV}{ρ:aC}:frz 0 (some (.val p)::ρ)=some (.val p)::ρ:=Eq.trans rfl rfl
theorem MX {g:Int->Int->Int}{i:Nat}{f:FE}{ρ:aC}:OA g i f ρ=Mg g (sl ρ i) ((f ρ).bind RV.fr) i ρ:=Eq.trans rfl rfl
theorem FJ {g:Int->Int->Int}{i:Nat}{a b:Int}{ρ:aC}:Mg g (some (.val (.int a))) (some (.int b)) i ρ=.nx (ρ.set i (some (.val (.int (g a b))))):=Eq.trans rfl rfl
theorem Nu {i:Nat}{fs:FA}{ρ:aC}:kX i fs ρ=No (sl ρ i) ((fs ρ).bind fun rs=>rs.mapM RV.fr) i ρ:=Eq.trans rfl rfl
theorem Ft {i:Nat}{ps:List PV}{q:PV}{ρ:aC}:No (some (.own ps)) (some [q]) i ρ=if ps.length≤100000 then .nx (ρ.set i (some (.own (ps++[q])))) else .bad:=Eq.trans rfl rfl
theorem NI {j:Nat}{fi f:FE}{ρ:aC}:jv j fi f ρ=MQ ((f ρ).bind RV.fr) (sl ρ j) ((fi ρ).bind RV.fr) j ρ:=Eq.trans rfl rfl
theorem GM {v:PV}{ps:List PV}{k:Int}{j:Nat}{ρ:aC}:MQ (some v) (some (.own ps)) (some (.int k)) j ρ=D0 (tX ps.length k) v ps j ρ:=Eq.trans rfl rfl
theorem HR {v:PV}{ps:List PV}{n j:Nat}{ρ:aC}:D0 (some n) v ps j ρ=.nx (ρ.set j (some (.own (ps.set n v)))):=Eq.trans rfl rfl
theorem Mr {it:FI}{t:FT}{s:FS}{ρ:aC}:ig it t s ρ=NM (it ρ) t s ρ:=Eq.trans rfl rfl
theorem HG {its:List PV}{t:FT}{s:FS}{ρ:aC}:NM (some its) t s ρ=cH t s its ρ:=Eq.trans rfl rfl
theorem GZ {c:FB}{s:FS}{ρ:aC}:lK c s ρ=d6 c s 10000 ρ:=Eq.trans rfl rfl
theorem Cw {ρ:aC}:Out.res (.nx ρ)=some (.v .non):=Eq.trans rfl rfl
theorem Dt {p:PV}:Out.res (.rt p)=some (.v p):=Eq.trans rfl rfl
theorem Ei {p:List PV}:Out.res (.rn p)=some (.n p):=Eq.trans rfl rfl
theorem QP {i:Nat}{ρ:aC}:fV i ρ=(sl ρ i).map GQ:=Eq.trans rfl rfl
theorem MC {s:Option Sl}{ρ:aC}:sl (s::ρ) 0=s:=Eq.trans rfl rfl
theorem NR {s:Option Sl}{i:Nat}{ρ:aC}:sl (s::ρ) (i+1)=sl ρ i:=Eq.trans rfl rfl
theorem B0 {p:PV}:GQ (.val p)=.fz p:=Eq.trans rfl rfl
theorem D3 {p:List PV}:GQ (.own p)=.ln (.lst p):=Eq.trans rfl rfl
theorem QT {p:PV}{ρ:aC}:fC p ρ=some (.fz p):=Eq.trans rfl rfl
theorem Oq {g:PV->PV->Option RV}{a b:FE}{ρ:aC}:aj g a b ρ=(a ρ).bind fun x=>(b ρ).bind fun y=>g x.pv y.pv:=Eq.trans rfl rfl
theorem FR {p:PV}:RV.pv (.fz p)=p:=Eq.trans rfl rfl
theorem HM {p:List PV}:RV.pv (.nw p)=.lst p:=Eq.trans rfl rfl
theorem HB {p:PV}:RV.pv (.ln p)=p:=Eq.trans rfl rfl
theorem Hw {p:PV}:RV.fr (.fz p)=some p:=Eq.trans rfl rfl
theorem Hj {p:List PV}:RV.fr (.nw p)=some (.lst p):=Eq.trans rfl rfl
theorem Ho {p:PV}:RV.fr (.ln p)=none:=Eq.trans rfl rfl
theorem Q1 {f:FE}{ρ:aC}:fT f ρ=Bd (f ρ):=Eq.trans rfl rfl
theorem MU {b:Bool}:Bd (some (.fz (.bl b)))=some b:=Eq.trans rfl rfl
theorem Ja {g:FB}{ρ:aC}:eR g ρ=(g ρ).map fun b=>!b:=Eq.trans rfl rfl
theorem Jg {g k:FB}{ρ:aC}:gY g k ρ=(g ρ).bind fun b=>if b=true then k ρ else some false:=Eq.trans rfl rfl
theorem MI {g k:FB}{ρ:aC}:kT g k ρ=(g ρ).bind fun b=>if b=true then some true else k ρ:=Eq.trans rfl rfl
theorem Mf {f:FE}{ρ:aC}:sU f ρ=(f ρ).bind fun r=>r.fr.map .fz:=Eq.trans rfl rfl
theorem Kf {f g:FE}{ρ:aC}:kO f g ρ=(Bd (f ρ)).bind fun b=>if b=true then sU g ρ else some (.fz (.bl false)):=Eq.trans rfl rfl
theorem MT {f g:FE}{ρ:aC}:PK f g ρ=(Bd (f ρ)).bind fun b=>if b=true then some (.fz (.bl true)) else sU g ρ:=Eq.trans rfl rfl
theorem Kb {f:FE}{ρ:aC}:zi f ρ=(Bd (f ρ)).map fun b=>.fz (.bl (!b)):=Eq.trans rfl rfl
theorem N9 {f:FE}{ρ:aC}:jP f ρ=(f ρ).bind fun r=>Og r.fr:=Eq.trans rfl rfl
theorem Ib {i:Int}:Og (some (.int i))=some (.fz (.int (-i))):=Eq.trans rfl rfl
theorem Ny {g:FB}{f k:FE}{ρ:aC}:L0 g f k ρ=(g ρ).bind fun b=>if b=true then sU f ρ else sU k ρ:=Eq.trans rfl rfl
theorem Oo {g g':PV->PV->Option RV}{a b c:FE}{ρ:aC}:Ld g g' a b c ρ=(a ρ).bind fun x=>(b ρ).bind fun y=>(Bd (g x.pv y.pv)).bind fun k=>if k=true then (c ρ).bind fun z=>g' y.pv z.pv else some (.fz (.bl false)):=Eq.trans rfl rfl
theorem MY {ρ:aC}:ah ρ=some []:=Eq.trans rfl rfl
theorem JM {f:FE}{fs:FA}{ρ:aC}:aa f fs ρ=(f ρ).bind fun r=>(fs ρ).bind fun rs=>some (r::rs):=Eq.trans rfl rfl
theorem yy  : ([]:List RV).mapM RV.fr=some []:=Eq.trans rfl rfl
theorem NB {fs:FA}{ρ:aC}:bQ fs ρ=(fs ρ).bind fun rs=>(rs.mapM RV.fr).bind fun ps=>if ps.length≤100000 then some (.fz (.tup ps)) else none:=Eq.trans rfl rfl
theorem Mj {fs:FA}{ρ:aC}:eV fs ρ=(fs ρ).bind fun rs=>(rs.mapM RV.fr).bind fun ps=>if ps.length≤100000 then some (.nw ps) else none:=Eq.trans rfl rfl
theorem Hx {i j:Int}:bo (.int i) (.int j)=some (.fz (.int (i+j))):=Eq.trans rfl rfl
theorem Gq {ps qs:List PV}:bo (.lst ps) (.lst qs)=if ps.length+qs.length≤100000 then some (.nw (ps++qs)) else none:=Eq.trans rfl rfl
theorem Gc {ps qs:List PV}:bo (.tup ps) (.tup qs)=if ps.isEmpty=false/\ps.length+qs.length≤100000 then some (.fz (.tup (ps++qs))) else none:=Eq.trans rfl rfl
theorem EY {i j:Int}:vY (.int i) (.int j)=some (.fz (.int (i - j))):=Eq.trans rfl rfl
theorem GH {i j:Int}:eU (.int i) (.int j)=if (i.natAbs<2 ^ 64)\/(j.natAbs<2 ^ 64) then some (.fz (.int (i * j))) else none:=Eq.trans rfl rfl
theorem Fj {ps:List PV}{j:Int}:eU (.lst ps) (.int j)=if j≤1000/\-1000≤j/\ps.length≤100 then some (.nw (List.replicate j.toNat ps).flatten) else none:=Eq.trans rfl rfl
theorem FY {ps:List PV}{j:Int}:eU (.tup ps) (.int j)=if ps.isEmpty=false/\1≤j/\j≤1000/\ps.length≤1000 then some (.fz (.tup (List.replicate j.toNat ps).flatten)) else none:=Eq.trans rfl rfl
theorem HD {i j:Int}:jy (.int i) (.int j)=if 0<j/\j<1073741824 then some (.fz (.int (i / j))) else none:=Eq.trans rfl rfl
theorem HH {i j:Int}:bn (.int i) (.int j)=if 0<j then some (.fz (.int (i % j))) else none:=Eq.trans rfl rfl
theorem Hf {i j:Int}:GL (.int i) (.int j)=if 0≤j/\j≤1000000/\i.natAbs<2 ^ 64 then some (.fz (.int (i ^ j.toNat))) else none:=Eq.trans rfl rfl
theorem Cp {i j:Int}:ML (.int i) (.int j)=some (.fz (.int (Builtin.bitAnd i j))):=Eq.trans rfl rfl
theorem Ln {i j:Int}:BN (.int i) (.int j)=some (.fz (.bl (decide (i<j)))):=Eq.trans rfl rfl
theorem Kz {i j:Int}:EL (.int i) (.int j)=some (.fz (.bl (decide (i≤j)))):=Eq.trans rfl rfl
theorem La {i j:Int}:Df (.int i) (.int j)=some (.fz (.bl (decide (j<i)))):=Eq.trans rfl rfl
theorem JQ {i j:Int}:LZ (.int i) (.int j)=some (.fz (.bl (decide (j≤i)))):=Eq.trans rfl rfl
theorem Lk {x y:PV}:dB x y=if plain x&&plain y&&decide (oo x≤50) then some (.fz (.bl (iT x y))) else none:=Eq.trans rfl rfl
theorem Kw {x y:PV}:iw x y=if plain x&&plain y&&decide (oo x≤50) then some (.fz (.bl (!iT x y))) else none:=Eq.trans rfl rfl
theorem Jk {x:PV}{ps:List PV}:By x (.lst ps)=if plain x&&aH ps&&decide (cf ps≤50) then some (.fz (.bl (pin x ps))) else none:=Eq.trans rfl rfl
theorem Lb {x:PV}{ps:List PV}:By x (.tup ps)=if plain x&&aH ps&&decide (cf ps≤50) then some (.fz (.bl (pin x ps))) else none:=Eq.trans rfl rfl
theorem Ia {x:PV}{ps:List PV}:oX x (.lst ps)=if plain x&&aH ps&&decide (cf ps≤50) then some (.fz (.bl (!pin x ps))) else none:=Eq.trans rfl rfl
theorem Fn {x:PV}{ps:List PV}:oX x (.tup ps)=if plain x&&aH ps&&decide (cf ps≤50) then some (.fz (.bl (!pin x ps))) else none:=Eq.trans rfl rfl
theorem LN {x:PV}:QH x .non=some (.fz (.bl (mR x))):=Eq.trans rfl rfl
theorem Ae {x:PV}:Ko x .non=some (.fz (.bl (!mR x))):=Eq.trans rfl rfl
theorem KA {ps:List PV}{i:Int}:be (.tup ps) (.int i)=(L2.atI ps i).map .fz:=Eq.trans rfl rfl
theorem Jv {ps:List PV}{i:Int}:be (.lst ps) (.int i)=(L2.atI ps i).map .fz:=Eq.trans rfl rfl
theorem Jd {ps:List PV}{i:Int}:be (.src ps) (.int i)=(L2.atI ps i).map .fz:=Eq.trans rfl rfl
theorem PP {f:FE}{l h:FO}{ρ:aC}:DN f l h ρ=(f ρ).bind fun r=>(l ρ).bind fun lo=>(h ρ).bind fun hi=>L6 r.pv lo hi:=Eq.trans rfl rfl
theorem Ot {ρ:aC}:uQ ρ=some none:=Eq.trans rfl rfl
theorem Oy {f:FE}{ρ:aC}:vv f ρ=(f ρ).bind fun r=>P1 r.fr:=Eq.trans rfl rfl
theorem Ki {i:Int}:P1 (some (.int i))=some (some i):=Eq.trans rfl rfl
theorem IZ {ps:List PV}{l h:Option Int}:L6 (.lst ps) l h=some (.nw (cut ps l h)):=Eq.trans rfl rfl
theorem Lg {ps:List PV}{l h:Option Int}:L6 (.src ps) l h=some (.nw (cut ps l h)):=Eq.trans rfl rfl
theorem Kp {ps:List PV}{l h:Option Int}:L6 (.tup ps) l h=if HT.sIx ps.length 0 l=0/\HT.sIx ps.length ps.length h=ps.length then none else some (.fz (.tup (cut ps l h))):=Eq.trans rfl rfl
theorem Ra {g:List PV->Option RV}{fs:FA}{ρ:aC}:fB g fs ρ=(fs ρ).bind fun rs=>g (rs.map RV.pv):=Eq.trans rfl rfl
theorem EM {ps:List PV}:gX [.lst ps]=some (.fz (.int ps.length)):=Eq.trans rfl rfl
theorem GK {ps:List PV}:gX [.tup ps]=some (.fz (.int ps.length)):=Eq.trans rfl rfl
theorem G7 {ps:List PV}:gX [.src ps]=some (.fz (.int ps.length)):=Eq.trans rfl rfl
theorem GB {i:Int}:CO [.int i]=some (.fz (.int (if i<0 then -i else i))):=Eq.trans rfl rfl
theorem EV {i j:Int}:Mw [.int i,.int j]=some (.fz (.int (if j > i then j else i))):=Eq.trans rfl rfl
theorem FD {i j:Int}:tD [.int i,.int j]=some (.fz (.int (if j<i then j else i))):=Eq.trans rfl rfl
theorem Hz {i:Int}:oa [.int i]=some (.fz (.int i)):=Eq.trans rfl rfl
theorem GE {b:Bool}:oa [.bl b]=some (.fz (.int (if b then 1 else 0))):=Eq.trans rfl rfl
theorem EW {ps:List PV}:Ch [.lst ps]=(IK ps).map fun bs=>.fz (.bl (bs.all id)):=Eq.trans rfl rfl
theorem GJ {ps:List PV}:OL [.lst ps]=(IK ps).map fun bs=>.fz (.bl (bs.any id)):=Eq.trans rfl rfl
theorem GW {ps:List PV}:iV [.lst ps]=some (.fz (.tup ps)):=Eq.trans rfl rfl
theorem Hi {ps:List PV}:iV [.tup ps]=some (.fz (.tup ps)):=Eq.trans rfl rfl
theorem Ec {lo j:Int}:fg [.rng lo j]=if lo=0/\0≤j/\j≤1000000 then some (.nw (vQ 0 j.toNat)) else none:=Eq.trans rfl rfl
theorem Ef {ps:List PV}:fg [.lst ps]=some (.nw ps):=Eq.trans rfl rfl
theorem DH {ps:List PV}:fg [.tup ps]=some (.nw ps):=Eq.trans rfl rfl
theorem HC {j:Int}:qD [.int j]=if -(2 ^ 62)≤j/\j<2 ^ 62 then some (.fz (.rng 0 j)) else none:=Eq.trans rfl rfl
theorem qL {ps:List PV}:mz [.lst ps]=(jC ps).bind fun ks=>if ps.length<64 then some (.nw ((mJ ks).map fun i=>ps.getD i .non)) else none:=Eq.trans rfl rfl
theorem KB {F:List PV->Option PR}{fs:FA}{ρ:aC}:ap F fs ρ=(fs ρ).bind fun rs=>DP F (rs.mapM RV.fr) rs:=Eq.trans rfl rfl
theorem Ca {F:List PV->Option PR}{ps:List PV}{rs:List RV}:DP F (some ps) rs=(F ps).map sL:=Eq.trans rfl rfl
theorem En {F:List PV->Option PR}{rs:List RV}:DP F none rs=(F (rs.map RV.pv)).bind fun r=>if Lq r=true then some (sL r) else none:=Eq.trans rfl rfl
theorem Li {p:PV}:sL (.v p)=.fz p:=Eq.trans rfl rfl
theorem JX {p:List PV}:sL (.n p)=.nw p:=Eq.trans rfl rfl
theorem G5 {p:PV}:Lq (.v p)=tf p:=Eq.trans rfl rfl
theorem Hu {p:List PV}:Lq (.n p)=Ik p:=Eq.trans rfl rfl
theorem PB {f:FE}{ρ:aC}:ph f ρ=(f ρ).bind fun r=>r.fr.bind items:=Eq.trans rfl rfl
theorem AU {ps:List PV}:items (.tup ps)=some ps:=Eq.trans rfl rfl
theorem AW {ps:List PV}:items (.lst ps)=some ps:=Eq.trans rfl rfl
theorem Aq {ps:List PV}:items (.src ps)=some ps:=Eq.trans rfl rfl
theorem NV {g:List PV->Option (List PV)}{fs:FA}{ρ:aC}:r6 g fs ρ=(fs ρ).bind fun rs=>g (rs.map RV.pv):=Eq.trans rfl rfl
theorem JY {j:Int}:oQ [.int j]=if MF j then some (vQ 0 j.toNat) else none:=Eq.trans rfl rfl
theorem NF {f:FE}{ρ:aC}:Pg f ρ=(f ρ).bind fun r=>(iN r.pv).map fun ps=>.nw ps.reverse:=Eq.trans rfl rfl
theorem BL {ps:List PV}:iN (.lst ps)=some ps:=Eq.trans rfl rfl
theorem Bq {ps:List PV}:iN (.src ps)=some ps:=Eq.trans rfl rfl
theorem JP {ps:List PV}:NJ [.lst ps]=(fW ps).bind fun is=>if is.length=0 then none else some (.fz (.int (Jw is))):=Eq.trans rfl rfl
theorem LR {ps:List PV}:Mn [.lst ps]=(fW ps).bind fun is=>if is.length=0 then none else some (.fz (.int (KW is))):=Eq.trans rfl rfl
theorem Jt {ps:List PV}:OH [.lst ps]=(fW ps).map fun is=>.fz (.int is.sum):=Eq.trans rfl rfl
theorem GG {g:Int->Int->Int}{j:Nat}{fi f:FE}{ρ:aC}:KD g j fi f ρ=Dj g (sl ρ j) ((fi ρ).bind RV.fr) ((f ρ).bind RV.fr) j ρ:=Eq.trans rfl rfl
theorem Bs {g:Int->Int->Int}{ps:List PV}{k b:Int}{j:Nat}{ρ:aC}:Dj g (some (.own ps)) (some (.int k)) (some (.int b)) j ρ=if 0≤k then vO g ps[k.toNat]? ps k b j ρ else .bad:=Eq.trans rfl rfl
theorem AM {g:Int->Int->Int}{a:Int}{ps:List PV}{k b:Int}{j:Nat}{ρ:aC}:vO g (some (.int a)) ps k b j ρ=.nx (ρ.set j (some (.own (ps.set k.toNat (.int (g a b)))))):=Eq.trans rfl rfl
theorem LO {fs:FA}{ρ:aC}:Nx fs ρ=(fs ρ).bind fun rs=>(rs.mapM RV.fr).bind Iy:=Eq.trans rfl rfl
theorem Eh {ps:List PV}:Iy [.lst ps]=some (gx 0 ps):=Eq.trans rfl rfl
theorem PL {i:Nat}{p:PV}{ρ:aC}:gN i p ρ=some (ρ.set i (some (.val p))):=Eq.trans rfl rfl
theorem PN {ρ:aC}:g0 [] ρ=some ρ:=Eq.trans rfl rfl
theorem Pi {t:FT}{ts:FX}{p:PV}{ps:List PV}{ρ:aC}:gC t ts (p::ps) ρ=(t p ρ).bind fun ρ'=>ts ps ρ':=Eq.trans rfl rfl
theorem MH {n:Nat}{ts:FX}{ps:List PV}{ρ:aC}:iR n ts (.tup ps) ρ=if ps.length=n then ts ps ρ else none:=Eq.trans rfl rfl
theorem JW {fm:List (Option Nat)}{it:FI}{t:FT}{c:FB}{f:FE}{ρ:aC}:gH fm it t c f ρ=(it ρ).bind fun its=>if its.length<1000 then (vR t c f (lr fm ρ) its).map .nw else none:=Eq.trans rfl rfl
theorem NW {ρ:aC}:lQ ρ=some true:=Eq.trans rfl rfl
theorem A4 {ρ:aC}:lr [] ρ=[]:=Eq.trans rfl rfl
theorem yT {fm:List (Option Nat)}{ρ:aC}:lr (none::fm) ρ=none::lr fm ρ:=Eq.trans rfl rfl
theorem y9 {j:Nat}{fm:List (Option Nat)}{ρ:aC}:lr (some j::fm) ρ=sl ρ j::lr fm ρ:=Eq.trans rfl rfl
theorem KN {s v:Option Sl}{ρ:aC}:List.set (s::ρ) 0 v=v::ρ:=Eq.trans rfl rfl
theorem LV {s v:Option Sl}{i:Nat}{ρ:aC}:List.set (s::ρ) (i+1) v=s::List.set ρ i v:=Eq.trans rfl rfl
theorem bX {p:PV}{n:String}{b:Bool}(hn:n = "int"\/n = "bool"\/n = "str"\/n = "tuple"\/n = "list"\/n = "dict")(h:Oi n p=some b):g7 [p,.ty n]=some (.fz (.bl b)):=by
 unfold g7;simp only[hn,if_true,h,Option.map_some]
theorem u8 {i:Int}:g7 [(.int i),.ty "int"]=some (.fz (.bl true)):=bX (by decide) rfl
theorem sC {i:Int}:g7 [(.int i),.ty "bool"]=some (.fz (.bl false)):=bX (by decide) rfl
theorem vf {i:Int}:g7 [(.int i),.ty "str"]=some (.fz (.bl false)):=bX (by decide) rfl
theorem qu {i:Int}:g7 [(.int i),.ty "tuple"]=some (.fz (.bl false)):=bX (by decide) rfl
theorem sX {i:Int}:g7 [(.int i),.ty "list"]=some (.fz (.bl false)):=bX (by decide) rfl
theorem so {i:Int}:g7 [(.int i),.ty "dict"]=some (.fz (.bl false)):=bX (by decide) rfl
theorem vZ {i:Bool}:g7 [(.bl i),.ty "int"]=some (.fz (.bl true)):=bX (by decide) rfl
theorem vb {i:Bool}:g7 [(.bl i),.ty "bool"]=some (.fz (.bl true)):=bX (by decide) rfl
theorem vT {i:Bool}:g7 [(.bl i),.ty "str"]=some (.fz (.bl false)):=bX (by decide) rfl
theorem sq {i:Bool}:g7 [(.bl i),.ty "tuple"]=some (.fz (.bl false)):=bX (by decide) rfl
theorem uj {i:Bool}:g7 [(.bl i),.ty "list"]=some (.fz (.bl false)):=bX (by decide) rfl
theorem vm {i:Bool}:g7 [(.bl i),.ty "dict"]=some (.fz (.bl false)):=bX (by decide) rfl
theorem ug {i:List PV}:g7 [(.tup i),.ty "int"]=some (.fz (.bl false)):=bX (by decide) rfl
theorem si {i:List PV}:g7 [(.tup i),.ty "bool"]=some (.fz (.bl false)):=bX (by decide) rfl
theorem vG {i:List PV}:g7 [(.tup i),.ty "str"]=some (.fz (.bl false)):=bX (by decide) rfl
theorem qc {i:List PV}:g7 [(.tup i),.ty "tuple"]=some (.fz (.bl true)):=bX (by decide) rfl
theorem sI {i:List PV}:g7 [(.tup i),.ty "list"]=some (.fz (.bl false)):=bX (by decide) rfl
theorem sE {i:List PV}:g7 [(.tup i),.ty "dict"]=some (.fz (.bl false)):=bX (by decide) rfl
theorem uh {i:List PV}:g7 [(.lst i),.ty "int"]=some (.fz (.bl false)):=bX (by decide) rfl
theorem sP {i:List PV}:g7 [(.lst i),.ty "bool"]=some (.fz (.bl false)):=bX (by decide) rfl
theorem u5 {i:List PV}:g7 [(.lst i),.ty "str"]=some (.fz (.bl false)):=bX (by decide) rfl
theorem qr {i:List PV}:g7 [(.lst i),.ty "tuple"]=some (.fz (.bl false)):=bX (by decide) rfl
theorem sn {i:List PV}:g7 [(.lst i),.ty "list"]=some (.fz (.bl true)):=bX (by decide) rfl
theorem su {i:List PV}:g7 [(.lst i),.ty "dict"]=some (.fz (.bl false)):=bX (by decide) rfl
theorem vJ {i:Str}:g7 [(.str i),.ty "int"]=some (.fz (.bl false)):=bX (by decide) rfl
theorem sN {i:Str}:g7 [(.str i),.ty "bool"]=some (.fz (.bl false)):=bX (by decide) rfl
theorem vB {i:Str}:g7 [(.str i),.ty "str"]=some (.fz (.bl true)):=bX (by decide) rfl
theorem q5 {i:Str}:g7 [(.str i),.ty "tuple"]=some (.fz (.bl false)):=bX (by decide) rfl
theorem sr {i:Str}:g7 [(.str i),.ty "list"]=some (.fz (.bl false)):=bX (by decide) rfl
theorem sW {i:Str}:g7 [(.str i),.ty "dict"]=some (.fz (.bl false)):=bX (by decide) rfl
theorem uH  : g7 [.non,.ty "int"]=some (.fz (.bl false)):=bX (by decide) rfl
theorem sS  : g7 [.non,.ty "bool"]=some (.fz (.bl false)):=bX (by decide) rfl
theorem vq  : g7 [.non,.ty "str"]=some (.fz (.bl false)):=bX (by decide) rfl
theorem rL  : g7 [.non,.ty "tuple"]=some (.fz (.bl false)):=bX (by decide) rfl
theorem rZ  : g7 [.non,.ty "list"]=some (.fz (.bl false)):=bX (by decide) rfl
theorem sR  : g7 [.non,.ty "dict"]=some (.fz (.bl false)):=bX (by decide) rfl
theorem vV {α β:Type}{a:α}{f:α->Option β}:((some a).bind f)=f a:=Eq.trans rfl rfl
theorem xE {α β:Type}{f:α->Option β}:((none:Option α).bind f)=none:=Eq.trans rfl rfl
theorem yo {α β:Type}{a:α}{f:α->β}:((some a).map f)=some (f a):=Eq.trans rfl rfl
theorem yz {α β:Type}{f:α->β}:((none:Option α).map f)=none:=Eq.trans rfl rfl
theorem yJ {α β:Type}{a:α}{l:List α}{f:α->β}:((a::l).map f)=f a::l.map f:=Eq.trans rfl rfl
theorem AH {α β:Type}{f:α->β}:(([]:List α).map f)=[]:=Eq.trans rfl rfl
theorem Bn {α:Type}{l:List α}:([]++l)=l:=Eq.trans rfl rfl
theorem xQ {α:Type}{a:α}{l m:List α}:((a::l)++m)=a::(l++m):=Eq.trans rfl rfl
theorem xR {α:Type}{a:α}{l:List α}:((a::l).length)=l.length+1:=Eq.trans rfl rfl
theorem Bk {α:Type}:(([]:List α).length)=0:=Eq.trans rfl rfl
theorem JT {α:Type}{a b:α}:((if True then a else b))=a:=Eq.trans rfl rfl
theorem J3 {α:Type}{a b:α}:((if False then a else b))=b:=Eq.trans rfl rfl
theorem Gm {α:Type}{a b:α}:((if true=true then a else b))=a:=Eq.trans rfl rfl
theorem Fm {α:Type}{a b:α}:((if false=true then a else b))=b:=Eq.trans rfl rfl
theorem AI {α:Type}{a:α}{l:List α}:((a::l).isEmpty)=false:=Eq.trans rfl rfl
theorem BK {α:Type}:(([]:List α).isEmpty)=true:=Eq.trans rfl rfl
theorem xH  : (plain .non)=true:=Eq.trans rfl rfl
theorem yp {b:Bool}:(plain (.bl b))=true:=Eq.trans rfl rfl
theorem wW {b:Int}:(plain (.int b))=true:=Eq.trans rfl rfl
theorem xt {b:Str}:(plain (.str b))=true:=Eq.trans rfl rfl
theorem AK  : (oo .non)=0:=Eq.trans rfl rfl
theorem Er {b:Bool}:(oo (.bl b))=0:=Eq.trans rfl rfl
theorem Ad {b:Int}:(oo (.int b))=0:=Eq.trans rfl rfl
theorem Av {b:Str}:(oo (.str b))=0:=Eq.trans rfl rfl
theorem Pc {n:Nat}:(nI n)=PV.int n:=Eq.trans rfl rfl
theorem GI  : (mR .non)=true:=Eq.trans rfl rfl
theorem A7 {i:Int}:(mR (.int i))=false:=Eq.trans rfl rfl
theorem Bu {i:Bool}:(mR (.bl i))=false:=Eq.trans rfl rfl
theorem A6 {i:List PV}:(mR (.tup i))=false:=Eq.trans rfl rfl
theorem Af {i:List PV}:(mR (.lst i))=false:=Eq.trans rfl rfl
theorem Bp {i:Str}:(mR (.str i))=false:=Eq.trans rfl rfl
theorem N7 {i:Int}:(MF i)=(decide (-4611686018427387904≤i)&&decide (i<4611686018427387904)):=Eq.trans rfl rfl
theorem BI {ps:List PV}:plain (.tup ps)=aH ps:=by rw[Pu.plain]
theorem A3 {ps:List PV}:plain (.lst ps)=aH ps:=by rw[Pu.plain]
theorem yc:aH []=true:=by rw[aH]
theorem zb {p:PV}{ps:List PV}:aH (p::ps)=(plain p&&aH ps):=by rw[aH]
theorem GT {ps:List PV}:oo (.tup ps)=cf ps+1:=by rw[oo]
theorem EQ {ps:List PV}:oo (.lst ps)=cf ps+1:=by rw[oo]
theorem Cc:cf []=0:=by rw[cf]
theorem C5 {p:PV}{ps:List PV}:cf (p::ps)=max (oo p) (cf ps):=by rw[cf]
noncomputable def E1:=(And.intro (And.intro @Lp (And.intro @wN @N2)) (And.intro @zE (And.intro @Fy @HK)))
noncomputable def E2:=(And.intro (And.intro @H9 (And.intro @Fb @zX)) (And.intro @EU (And.intro @Gh @F9)))
noncomputable def E3:=(And.intro (And.intro @Ht (And.intro @HZ @KL)) (And.intro @KI (And.intro @Ax @AL)))
noncomputable def E4:=(And.intro (And.intro @Am (And.intro @AA @Bz)) (And.intro @KK (And.intro @OI @Ps)))
noncomputable def E5:=(And.intro (And.intro @K0 (And.intro @AC @Np)) (And.intro @C0 (And.intro @CK @Lr)))
noncomputable def E6:=(And.intro (And.intro @C3 (And.intro @B9 @Pe)) (And.intro @Jb (And.intro @Jo @MN)))
noncomputable def E7:=(And.intro (And.intro @FH (And.intro @Nd @BQ)) (And.intro @CZ (And.intro @NG @HJ)))
noncomputable def E8:=(And.intro (And.intro @LX (And.intro @N3 @FQ)) (And.intro @Mp (And.intro @Fu @Gi)))
noncomputable def E9:=(And.intro (And.intro @MX (And.intro @FJ @Nu)) (And.intro @Ft (And.intro @NI @GM)))
noncomputable def Qu:=(And.intro (And.intro @HR (And.intro @Mr @HG)) (And.intro @GZ (And.intro @Cw @Dt)))
noncomputable def Rj:=(And.intro (And.intro @Ei (And.intro @QP @MC)) (And.intro @NR (And.intro @B0 @D3)))
noncomputable def Rc:=(And.intro (And.intro @QT (And.intro @Oq @FR)) (And.intro @HM (And.intro @HB @Hw)))
noncomputable def Rg:=(And.intro (And.intro @Hj (And.intro @Ho @Q1)) (And.intro @MU (And.intro @Ja @Jg)))
noncomputable def QN:=(And.intro (And.intro @MI (And.intro @Mf @Kf)) (And.intro @MT (And.intro @Kb @N9)))
noncomputable def Qz:=(And.intro (And.intro @Ib (And.intro @Ny @Oo)) (And.intro @MY (And.intro @JM @yy)))
noncomputable def Qq:=(And.intro (And.intro @NB (And.intro @Mj @Hx)) (And.intro @Gq (And.intro @Gc @EY)))
noncomputable def QM:=(And.intro (And.intro @GH (And.intro @Fj @FY)) (And.intro @HD (And.intro @HH @Hf)))
noncomputable def QE:=(And.intro (And.intro @Cp (And.intro @Ln @Kz)) (And.intro @La (And.intro @JQ @Lk)))
noncomputable def QL:=(And.intro (And.intro @Kw (And.intro @Jk @Lb)) (And.intro @Ia (And.intro @Fn @LN)))
noncomputable def Qv:=(And.intro (And.intro @Ae (And.intro @KA @Jv)) (And.intro @Jd (And.intro @PP @Ot)))
noncomputable def Qk:=(And.intro (And.intro @Oy (And.intro @Ki @IZ)) (And.intro @Lg (And.intro @Kp @Ra)))
noncomputable def QR:=(And.intro (And.intro @EM (And.intro @GK @G7)) (And.intro @GB (And.intro @EV @FD)))
noncomputable def Rb:=(And.intro (And.intro @Hz (And.intro @GE @EW)) (And.intro @GJ (And.intro @GW @Hi)))
noncomputable def QB:=(And.intro (And.intro @Ef (And.intro @DH @qL)) (And.intro @KB (And.intro @Ca @En)))
noncomputable def QC:=(And.intro (And.intro @Li (And.intro @JX @G5)) (And.intro @Hu (And.intro @PB @AU)))
noncomputable def QX:=(And.intro (And.intro @AW (And.intro @Aq @NV)) (And.intro @NF (And.intro @BL @Bq)))
noncomputable def QW:=(And.intro (And.intro @JP (And.intro @LR @Jt)) (And.intro @GG (And.intro @Bs @AM)))
noncomputable def Rk:=(And.intro (And.intro @LO (And.intro @Eh @PL)) (And.intro @PN (And.intro @Pi @MH)))
noncomputable def Q9:=(And.intro (And.intro @JW (And.intro @NW @A4)) (And.intro @yT (And.intro @y9 @KN)))
noncomputable def Q4:=(And.intro (And.intro @LV (And.intro @u8 @sC)) (And.intro @vf (And.intro @qu @sX)))
noncomputable def Q3:=(And.intro (And.intro @so (And.intro @vZ @vb)) (And.intro @vT (And.intro @sq @uj)))
noncomputable def Ql:=(And.intro (And.intro @vm (And.intro @ug @si)) (And.intro @vG (And.intro @qc @sI)))
noncomputable def QO:=(And.intro (And.intro @sE (And.intro @uh @sP)) (And.intro @u5 (And.intro @qr @sn)))
noncomputable def Qw:=(And.intro (And.intro @su (And.intro @vJ @sN)) (And.intro @vB (And.intro @q5 @sr)))
noncomputable def QI:=(And.intro (And.intro @sW (And.intro @uH @sS)) (And.intro @vq (And.intro @rL @rZ)))
noncomputable def QV:=(And.intro (And.intro @sR (And.intro @vV @xE)) (And.intro @yo (And.intro @yz @yJ)))
noncomputable def Qn:=(And.intro (And.intro @AH (And.intro @Bn @xQ)) (And.intro @xR (And.intro @Bk @JT)))
noncomputable def Q6:=(And.intro (And.intro @J3 (And.intro @Gm @Fm)) (And.intro @AI (And.intro @BK @xH)))
noncomputable def Ri:=(And.intro (And.intro @yp (And.intro @wW @xt)) (And.intro @AK (And.intro @Er @Ad)))
noncomputable def Qo:=(And.intro (And.intro @Av (And.intro @Pc @GI)) (And.intro @A7 (And.intro @Bu @A6)))
noncomputable def Re:=(And.intro (And.intro @Af (And.intro @Bp @BI)) (And.intro @A3 (And.intro @yc @zb)))
noncomputable def Q5:=(And.intro (And.intro @GT (And.intro @EQ @Cc)) (And.intro @C5 (And.intro @Qr @Rh)))
noncomputable def Qy:=(And.intro (And.intro @Qi (And.intro @QQ @vh)) (And.intro @pT (And.intro @K3 @mG)))
noncomputable def Qm:=(And.intro (And.intro @Gj (And.intro @ua @xB)) (And.intro @and_true (And.intro @true_and @false_and)))
noncomputable def QU:=(And.intro (And.intro @and_false (And.intro @Nat.add_zero @Nat.zero_add)) (And.intro @Int.toNat_natCast (And.intro @Bool.not_true @Bool.not_false)))
noncomputable def Qe:=(And.intro (And.intro @Bool.true_and (And.intro @Bool.false_and @Bool.and_true)) (And.intro @Bool.and_false (And.intro @Bool.true_or @Bool.false_or)))
noncomputable def Q0:=(And.intro (And.intro @Bool.or_true (And.intro @Bool.or_false @Nat.zero_le)) (And.intro @decide_true (And.intro @decide_false @mn)))
noncomputable def Qt:=(And.intro (And.intro @eY @ij) (And.intro @Nat.max_self (And.intro @Nat.zero_max @Nat.max_zero)))
noncomputable def EE:=(And.intro E1 (And.intro E2 (And.intro E3 (And.intro E4 (And.intro E5 (And.intro E6 (And.intro E7 (And.intro E8 (And.intro E9 (And.intro Qu (And.intro Rj (And.intro Rc (And.intro Rg (And.intro QN (And.intro Qz (And.intro Qq (And.intro QM (And.intro QE (And.intro QL (And.intro Qv (And.intro Qk (And.intro QR (And.intro Rb (And.intro QB (And.intro QC (And.intro QX (And.intro QW (And.intro Rk (And.intro Q9 (And.intro Q4 (And.intro Q3 (And.intro Ql (And.intro QO (And.intro Qw (And.intro QI (And.intro QV (And.intro Qn (And.intro Q6 (And.intro Ri (And.intro Qo (And.intro Re (And.intro Q5 (And.intro Qy (And.intro Qm (And.intro QU (And.intro Qe (And.intro Q0 Qt)))))))))))))))))))))))))))))))))))))))))))))))
end Dp
end
section
namespace Dp
open PySem L2 Fo Pu
theorem yn {t:FT}{f:FE}{ρ:aC}(g:PV->PV):∀{its:List PV},(∀p∈its,(t p ρ).bind (fun ρ2=>(f ρ2).bind RV.fr)=some (g p))->vR t lQ f ρ its=some (its.map g):=fun {its}=>by
 induction its with
 |nil=>intro _;rfl
 |cons p ps ih=>
  intro h
  have h1:=h p List.mem_cons_self
  have h2:=ih fun q hq=>h q (List.mem_cons_of_mem _ hq)
  obtain⟨ρ2,e1,h1⟩:=Option.bind_eq_some_iff.mp h1
  obtain⟨r,e2,h1⟩:=Option.bind_eq_some_iff.mp h1
  rw[vR,e1,h2]
  show (f ρ2).bind _=_
  rw[e2]
  show r.fr.bind _=_
  rw[h1];rfl
theorem zr {t:FT}{f:FE}{ρ:aC}(g:Nat->PV){us:List Nat}(h:∀u∈us,(t (.int u) ρ).bind (fun ρ2=>(f ρ2).bind RV.fr)=some (g u)):vR t lQ f ρ (ak us)=some (us.map g):=by
 have e:(ak us).map (fun p=>match p with|.int i=>g i.toNat|_=>.non)=us.map g:=by
  unfold ak;rw[List.map_map];exact List.map_congr_left fun u _=>rfl
 rw[←e]
 refine yn _ fun p hp=>?_
 obtain⟨u,hu,rfl⟩:=Cv hp
 exact h u hu
theorem t7 {t:FT}{c:FB}{f:FE}{ρ:aC}(b:PV->Bool)(g:PV->PV):∀{its:List PV},(∀p∈its,∃ρ2,t p ρ=some ρ2/\c ρ2=some (b p)/\(b p=true->(f ρ2).bind RV.fr=some (g p)))->vR t c f ρ its=some ((its.filter b).map g):=fun {its}=>by
 induction its with
 |nil=>intro _;rfl
 |cons p ps ih=>
  intro h
  obtain⟨ρ2,e1,e2,h1⟩:=h p List.mem_cons_self
  have h2:=ih fun q hq=>h q (List.mem_cons_of_mem _ hq)
  rw[vR,e1]
  show (c ρ2).bind _=_
  rw[e2]
  cases hb:b p with
  |true=>
   obtain⟨r,e3,e4⟩:=Option.bind_eq_some_iff.mp (h1 hb)
   rw[List.filter_cons_of_pos hb]
   show (f ρ2).bind _=_
   rw[e3]
   show r.fr.bind _=_
   rw[e4,h2];rfl
  |false=>
   rw[List.filter_cons_of_neg (by rw[hb];exact Bool.false_ne_true)]
   exact h2
theorem MS {α:Type}(l:List α):IK (l.map fun _=>PV.bl true)=some (l.map fun _=>true):=by
 induction l with
 |nil=>rfl
 |cons a l ih=>rw[List.map_cons,IK,ih];rfl
theorem Nf {α:Type}(l:List α):(l.map fun _=>true).all id=true:=by induction l<;>simp_all
theorem Fd (f:Nat->Nat)(us:List Nat):us.map (fun u=>PV.int (f u))=ak (us.map f):=by unfold ak;rw[List.map_map];rfl
noncomputable def Lw:=(And.intro (And.intro (And.intro (And.intro (And.intro (show decide (("none" : Str) = "whole")=false by decide) (show decide (("none" : Str) = "halves")=false by decide)) (And.intro (show decide (("none" : Str) = "splits")=false by decide) (show decide (("none" : Str) = "one")=false by decide))) (And.intro (And.intro (show decide (("whole" : Str) = "none")=false by decide) (show decide (("whole" : Str) = "halves")=false by decide)) (And.intro (show decide (("whole" : Str) = "splits")=false by decide) (show decide (("whole" : Str) = "one")=false by decide)))) (And.intro (And.intro (And.intro (show decide (("halves" : Str) = "none")=false by decide) (show decide (("halves" : Str) = "whole")=false by decide)) (And.intro (show decide (("halves" : Str) = "splits")=false by decide) (show decide (("halves" : Str) = "one")=false by decide))) (And.intro (And.intro (show decide (("splits" : Str) = "none")=false by decide) (show decide (("splits" : Str) = "whole")=false by decide)) (And.intro (show decide (("splits" : Str) = "halves")=false by decide) (And.intro (show decide (("splits" : Str) = "one")=false by decide) (show decide (("one" : Str) = "none")=false by decide)))))) (And.intro (And.intro (And.intro (And.intro (show decide (("one" : Str) = "whole")=false by decide) (show decide (("one" : Str) = "halves")=false by decide)) (And.intro (show decide (("one" : Str) = "splits")=false by decide) (show decide (("size" : Str) = "rank")=false by decide))) (And.intro (And.intro (show decide (("size" : Str) = "told")=false by decide) (show decide (("size" : Str) = "names")=false by decide)) (And.intro (show decide (("rank" : Str) = "size")=false by decide) (show decide (("rank" : Str) = "told")=false by decide)))) (And.intro (And.intro (And.intro (show decide (("rank" : Str) = "names")=false by decide) (show decide (("told" : Str) = "size")=false by decide)) (And.intro (show decide (("told" : Str) = "rank")=false by decide) (show decide (("told" : Str) = "names")=false by decide))) (And.intro (And.intro (show decide (("names" : Str) = "size")=false by decide) (show decide (("names" : Str) = "rank")=false by decide)) (And.intro (show decide (("names" : Str) = "told")=false by decide) (And.intro (show decide (("find" : Str) = "join")=false by decide) (show decide (("join" : Str) = "find")=false by decide)))))))
theorem K1 {n:Nat}(h:n≤100000):oQ [.int n]=some (ak (List.range n))/\qD [.int n]=some (.fz (.rng 0 n))/\fg [.rng 0 n]=some (.nw (ak (List.range n))):=by
 refine⟨?_,?_,?_⟩
 ·rw[JY,N7,decide_eq_true (by omega),decide_eq_true (by omega),Int.toNat_natCast,Dk];rfl
 ·rw[HC,if_pos ⟨by omega,by omega⟩]
 ·rw[Ec,if_pos ⟨rfl,by omega,by omega⟩,Int.toNat_natCast,Dk]
theorem QJ {j:Int}(h0:0≤j)(h:j≤100000):oQ [.int j]=some (ak (List.range j.toNat))/\qD [.int j]=some (.fz (.rng 0 j))/\fg [.rng 0 j]=some (.nw (ak (List.range j.toNat))):=by
 have:=K1 (n:=j.toNat) (by omega)
 rwa [Int.toNat_of_nonneg h0] at this
theorem zD (i:Int):cG [.int i]=some (.v (.bl true)):=by
 simp only[uq,rN,EE]
theorem J2 {i:Int}(h1:1≤i)(h2:i≤40):fE [.int i]=some (.v (.bl true)):=by
 simp only[wp,sQ,EE,zD,decide_eq_true h1,decide_eq_true h2]
theorem ve (m x:Int):bp [.int m,.int x]=some (.v (.bl (decide (0≤x/\x<m)))):=by
 simp only[vI,rE,EE,zD]
 by_cases h:0≤x
 ·simp only[decide_eq_true h,EE,h]
 ·simp only[decide_eq_false h,EE,h,false_and]
theorem CY {y:Str}(hy:y∈bt):cy [.str y]=some (.v .non):=by
 simp only[pk,nO,EE,yC,decide_eq_true hy]
theorem Eu {m x:Int}(h0:0≤x)(h1:x<m):cw [.int m,.int x]=some (.v .non):=by
 simp only[pA,nT,EE,ve,decide_eq_true (show 0≤x/\x<m from⟨h0,h1⟩)]
theorem Co {p:PV}{us:List Nat}(hp:p=.tup (ak us)\/p=.lst (ak us))(hm:us.length≤40)(hb:∀x,x<us.length->up us x<us.length){s1:Option Sl}{y:Nat}{l2:List Nat}(w:Way us y l2):∀(pre:List Nat),pre.length+l2.length≤us.length->y<us.length →
  ∀n,l2.length<n->d6 iz iA n [some (.val p),s1,some (.own (ak (pre++[y])))]=.nx [some (.val p),s1,some (.own (ak (pre++l2)))]:=by
 induction w with
 | @head y e=>
  intro pre hl hy n hn
  obtain⟨n,rfl⟩:∃k,n=k+1:=⟨n - 1,by simp at hn;omega⟩
  rw[jq]
  rcases hp with rfl|rfl <;>
   simp only[mQ,EE,Nat.reduceAdd,Nat.reduceSub,Nat.reduceLeDiff,Nat.reduceLT,Nat.reduceEqDiff,Int.reduceLT,Int.reduceLE,Int.reduceAdd,Int.reduceSub,Int.reduceMul,Int.reduceMod,Int.reduceDiv,Int.reduceNeg,Int.reduceToNat,Int.reducePow,Int.reduceEq,Pu.j2,az hy,e]
 | @step y l ne w ih=>
  intro pre hl hy n hn
  obtain⟨n,rfl⟩:∃k,n=k+1:=⟨n - 1,by simp at hn;omega⟩
  have ih:=ih (pre++[y]) (by simp at hl ⊢;omega) (hb y hy) n (by simp at hn;omega)
  rw[List.append_assoc,List.append_assoc] at ih
  have hne:decide ((up us y:Int)=(y:Int))=false:=decide_eq_false (by omega)
  have hpl:(pre++[y]).length≤100000:=by simp at hl ⊢;omega
  rw[jq]
  rcases hp with rfl|rfl <;>
   (simp only[mQ,r9,EE,Nat.reduceAdd,Nat.reduceSub,Nat.reduceLeDiff,Nat.reduceLT,Nat.reduceEqDiff,Int.reduceLT,Int.reduceLE,Int.reduceAdd,Int.reduceSub,Int.reduceMul,Int.reduceMod,Int.reduceDiv,Int.reduceNeg,Int.reduceToNat,Int.reducePow,Int.reduceEq,Pu.j2,az hy,hne,hpl,oO,List.append_assoc];exact ih)
theorem IC {p:PV}{us:List Nat}(hp:p=.tup (ak us)\/p=.lst (ak us))(f:Frst us){x:Nat}(hx:x<us.length):eA [p,.int x]=some (.n (ak (way us x))):=by
 have hl:=pL f.fst hx
 have hm:=f.most
 have e:=Co hp f.most f.fst.bnd (s1:=some (.val (.int x))) (fj f.fst hx) [] (by simpa using hl) hx 10000 (by omega)
 rw[List.nil_append,List.nil_append] at e
 have e':d6 iz iA 10000 [some (.val p),some (.val (.int x)),some (.own [.int x])]=_:=e
 simp only[yZ,va,EE,Nat.reduceAdd,Nat.reduceSub,Nat.reduceLeDiff,Nat.reduceLT,Nat.reduceEqDiff,Int.reduceLT,Int.reduceLE,Int.reduceAdd,Int.reduceSub,Int.reduceMul,Int.reduceMod,Int.reduceDiv,Int.reduceNeg,Int.reduceToNat,Int.reducePow,Int.reduceEq,e']
theorem Pa {a b:PV}{c:Bool}:L2.atI [a,b] (if c=true then 1 else 0)=some (if c=true then b else a):=by
 cases c<;>rfl
theorem uz {s0 s1:Option Sl}(vs:List PV):∀(xs:List Nat) (st dg:Int) (z:Option Sl),(∀v∈vs,∃i:Int,v=.int i)->0≤st->st<1999999973->0≤dg->xs.length+vs.length≤1000 →
  ∃(xs':List Nat) (st' dg':Int) (z':Option Sl),xs'.length=xs.length+vs.length/\cH (gN 5) cT vs [s0,s1,some (.own (ak xs)),some (.val (.int st)),some (.val (.int dg)),z]=.nx [s0,s1,some (.own (ak xs')),some (.val (.int st')),some (.val (.int dg')),z']:=by
 induction vs with
 |nil=>intro xs st dg z _ _ _ _ _;exact⟨xs,st,dg,z,rfl,rfl⟩
 |cons v vs ih=>
  intro xs st dg z hv h1 h2 h3 hl
  obtain⟨i,rfl⟩:=hv v List.mem_cons_self
  have m1:=Int.emod_nonneg st (show (65521:Int)≠0 by decide)
  have cm1:(st.natAbs<2 ^ 64\/(st % 65521+40487).natAbs<2 ^ 64)=True:=eq_true (.inl (by omega))
  have cm2:((7:Int).natAbs<2 ^ 64\/i.natAbs<2 ^ 64)=True:=eq_true (.inl (by decide))
  have hlen:(ak xs).length≤100000:=by rw[mn];simp at hl;omega
  have b1:0≤(st * (st % 65521+40487)+7 * i+5) % 1999999973:=Int.emod_nonneg _ (by decide)
  have b2:(st * (st % 65521+40487)+7 * i+5) % 1999999973<1999999973:=Int.emod_lt_of_pos _ (by decide)
  have d1:=Int.emod_nonneg dg (show (1000000:Int)≠0 by decide)
  have hlen':xs.length≤100000:=by rwa [mn] at hlen
  rw[im]
  simp only[mM,EE,Nat.reduceAdd,Nat.reduceSub,Nat.reduceLeDiff,Nat.reduceLT,Nat.reduceEqDiff,Int.reduceLT,Int.reduceLE,Int.reduceAdd,Int.reduceSub,Int.reduceMul,Int.reduceMod,Int.reduceDiv,Int.reduceNeg,Int.reduceToNat,Int.reducePow,Int.reduceEq,cm1,cm2,Pa,hlen']
  generalize (st * (st % 65521+40487)+7 * i+5) % 1999999973=st' at b1 b2
  have hv':(if decide (0<dg)=true then PV.int (dg % 1000000) else PV.int st')=nI (if decide (0<dg)=true then dg % 1000000 else st').toNat:=by
   split<;>rw[N5 (by omega)]
  rw[hv',nI,oO]
  obtain⟨xs',xq,dg2,z2,e1,e2⟩:=ih (xs++[(if decide (0<dg)=true then dg % 1000000 else st').toNat]) st' (dg / 1000000) (some (.val (.int i))) (fun u hu=>hv u (List.mem_cons_of_mem _ hu)) b1 b2 (Int.ediv_nonneg h3 (by decide)) (by simp at hl ⊢;omega)
  exact⟨xs',xq,dg2,z2,by rw[e1,List.length_append];simp;omega,e2⟩
theorem mx (c n:Int)(h0:0≤n)(hn:n≤1000):∃xs:List Nat,xs.length=n.toNat/\aF [.int c,.int n]=some (.n (ak xs)):=by
 have b1:0≤(c % 1999999973+31) * 765432101 % 1999999973:=Int.emod_nonneg _ (by decide)
 have b2:(c % 1999999973+31) * 765432101 % 1999999973<1999999973:=Int.emod_lt_of_pos _ (by decide)
 have cm:((c % 1999999973+31).natAbs<2 ^ 64\/(765432101:Int).natAbs<2 ^ 64)=True:=eq_true (.inr (by decide))
 have k1:=(QJ h0 (show n≤100000 by omega)).1
 have ab:0≤(if c<0 then -c else c):=by split<;>omega
 have fin:∀dg:Int,0≤dg->∃(xs:List Nat) (st' dg':Int) (z':Option Sl),xs.length=n.toNat/\cH (gN 5) cT (ak (List.range n.toNat)) [some (.val (.int c)),some (.val (.int n)),some (.own (ak [])),some (.val (.int ((c % 1999999973+31) * 765432101 % 1999999973))),some (.val (.int dg)),none]=.nx [some (.val (.int c)),some (.val (.int n)),some (.own (ak xs)),some (.val (.int st')),some (.val (.int dg')),z']:=fun dg hd=>by
  obtain⟨xs,st',dg',z',e1,e2⟩:=uz (s0:=some (.val (.int c))) (s1:=some (.val (.int n))) (vQ 0 n.toNat) [] _ dg none (fun v hv=>by obtain⟨i,e,_⟩:=JO hv;exact⟨i,e⟩) b1 b2 hd (by rw[zG];simp;omega)
  rw[Dk] at e2
  exact⟨xs,st',dg',z',by rw[e1,zG];simp,e2⟩
 have hp:(10:Int) ^ 18=1000000000000000000:=by decide
 by_cases hc:c<0
 ·obtain⟨xs,st',dg',z',e1,e2⟩:=fin _ ab
  rw[rF] at e2
  refine⟨xs,e1,?_⟩
  simp only[ik,fR,EE,Nat.reduceAdd,Nat.reduceSub,Nat.reduceLeDiff,Nat.reduceLT,Nat.reduceEqDiff,Int.reduceLT,Int.reduceLE,Int.reduceAdd,Int.reduceSub,Int.reduceMul,Int.reduceMod,Int.reduceDiv,Int.reduceNeg,Int.reduceToNat,Int.reducePow,Int.reduceEq,cm,k1,decide_eq_true hc,e2]
 ·by_cases hd:1000000000000000000≤c
  ·obtain⟨xs,st',dg',z',e1,e2⟩:=fin _ ab
   rw[rF] at e2
   refine⟨xs,e1,?_⟩
   simp only[ik,fR,EE,Nat.reduceAdd,Nat.reduceSub,Nat.reduceLeDiff,Nat.reduceLT,Nat.reduceEqDiff,Int.reduceLT,Int.reduceLE,Int.reduceAdd,Int.reduceSub,Int.reduceMul,Int.reduceMod,Int.reduceDiv,Int.reduceNeg,Int.reduceToNat,Int.reducePow,Int.reduceEq,cm,k1,decide_eq_false hc,show (0:Int)≤18/\(18:Int)≤1000000/\(10:Int).natAbs<2 ^ 64 from by decide,decide_eq_true hd,e2]
  ·obtain⟨xs,st',dg',z',e1,e2⟩:=fin 0 (by decide)
   rw[rF] at e2
   refine⟨xs,e1,?_⟩
   simp only[ik,fR,EE,Nat.reduceAdd,Nat.reduceSub,Nat.reduceLeDiff,Nat.reduceLT,Nat.reduceEqDiff,Int.reduceLT,Int.reduceLE,Int.reduceAdd,Int.reduceSub,Int.reduceMul,Int.reduceMod,Int.reduceDiv,Int.reduceNeg,Int.reduceToNat,Int.reducePow,Int.reduceEq,cm,k1,decide_eq_false hc,show (0:Int)≤18/\(18:Int)≤1000000/\(10:Int).natAbs<2 ^ 64 from by decide,decide_eq_false hd,e2]
theorem A5 {s0 s1:Option Sl}(ns:List Int):∀(st:Int) (z:Option Sl),∃(st':Int) (z':Option Sl),cH (gN 3) fw (iL ns) [s0,s1,some (.val (.int st)),z]=.nx [s0,s1,some (.val (.int st')),z']:=by
 induction ns with
 |nil=>intro st z;exact⟨st,z,rfl⟩
 |cons n ns ih=>
  intro st z
  have cm:(st.natAbs<2 ^ 64\/(69621:Int).natAbs<2 ^ 64)=True:=eq_true (.inr (by decide))
  show ∃st' z',cH (gN 3) fw (.int n::iL ns) _=_
  rw[im]
  simp only[oS,EE,Nat.reduceAdd,Nat.reduceSub,Nat.reduceLeDiff,Nat.reduceLT,Nat.reduceEqDiff,Int.reduceLT,Int.reduceLE,Int.reduceAdd,Int.reduceSub,Int.reduceMul,Int.reduceMod,Int.reduceDiv,Int.reduceNeg,Int.reduceToNat,Int.reducePow,Int.reduceEq,cm]
  exact ih _ _
theorem uL (ns:List Int)(k:Int)(h0:0≤k)(hk:k≤1000):∃i:Int,aX [.src (iL ns),.int k]=some (.v (.int i)):=by
 by_cases hl:k<ns.length
 ·have hk':k.toNat<ns.length:=by omega
  have e:L2.atI (iL ns) k=some (.int ns[k.toNat]):=by
   have:=iU (ps:=iL ns) (x:=k.toNat) (p:=.int ns[k.toNat]) (by unfold iL;rw[List.getElem?_map,List.getElem?_eq_getElem hk'];rfl)
   rwa [Int.toNat_of_nonneg h0] at this
  exact⟨ns[k.toNat],by simp only[mW,kI,EE,Nat.reduceAdd,Nat.reduceSub,Nat.reduceLeDiff,Nat.reduceLT,Nat.reduceEqDiff,Int.reduceLT,Int.reduceLE,Int.reduceAdd,Int.reduceSub,Int.reduceMul,Int.reduceMod,Int.reduceDiv,Int.reduceNeg,Int.reduceToNat,Int.reducePow,Int.reduceEq,Ce,decide_eq_true hl,e]⟩
 ·have c1:(k.natAbs<2 ^ 64)=True:=eq_true (by omega)
  have c2:((48271:Int).natAbs<2 ^ 64)=True:=eq_true (by decide)
  have c3:((7:Int).natAbs<2 ^ 64)=True:=eq_true (by decide)
  obtain⟨st',z',e⟩:=A5 (s0:=some (.val (.src (iL ns)))) (s1:=some (.val (.int k))) (cut ns none (some 3)) (48271 * (k * k+7 * k+11) % 2147483647) none
  refine⟨st',?_⟩
  simp only[mW,kI,EE,Nat.reduceAdd,Nat.reduceSub,Nat.reduceLeDiff,Nat.reduceLT,Nat.reduceEqDiff,Int.reduceLT,Int.reduceLE,Int.reduceAdd,Int.reduceSub,Int.reduceMul,Int.reduceMod,Int.reduceDiv,Int.reduceNeg,Int.reduceToNat,Int.reducePow,Int.reduceEq,Ce,decide_eq_false hl,c1,c2,c3,true_or,LM,e]
theorem HV (x:Nat):∃n:Nat,1≤n/\n≤40/\dW [.int x]=some (.v (.int n)):=by
 have a1:=Int.emod_nonneg ((x:Int) / 8) (show (12:Int)≠0 by decide)
 have a2:=Int.emod_lt_of_pos ((x:Int) / 8) (show (0:Int)<12 by decide)
 have a3:=Int.emod_nonneg ((x:Int) / 8) (show (40:Int)≠0 by decide)
 have a4:=Int.emod_lt_of_pos ((x:Int) / 8) (show (0:Int)<40 by decide)
 by_cases h:(x:Int) % 8=3
 ·refine⟨(1+(x:Int) / 8 % 40).toNat,by omega,by omega,?_⟩
  simp only[m3,kM,EE,Nat.reduceAdd,Nat.reduceSub,Nat.reduceLeDiff,Nat.reduceLT,Nat.reduceEqDiff,Int.reduceLT,Int.reduceLE,Int.reduceAdd,Int.reduceSub,Int.reduceMul,Int.reduceMod,Int.reduceDiv,Int.reduceNeg,Int.reduceToNat,Int.reducePow,Int.reduceEq,Pa,decide_eq_true h]
  rw[Int.toNat_of_nonneg (by omega)]
 ·refine⟨(1+(x:Int) / 8 % 12).toNat,by omega,by omega,?_⟩
  simp only[m3,kM,EE,Nat.reduceAdd,Nat.reduceSub,Nat.reduceLeDiff,Nat.reduceLT,Nat.reduceEqDiff,Int.reduceLT,Int.reduceLE,Int.reduceAdd,Int.reduceSub,Int.reduceMul,Int.reduceMod,Int.reduceDiv,Int.reduceNeg,Int.reduceToNat,Int.reducePow,Int.reduceEq,Pa,decide_eq_false h]
  rw[Int.toNat_of_nonneg (by omega)]
end Dp
end
section
namespace Lo
open PySem PySem.Spec L2 Fo Pu Dp
theorem ga (us:List Nat)(n:Nat):mi us (n+1)=uI (mi us n) (hd us n) n:=by
 unfold mi;rw[List.range_succ,List.foldl_append];rfl
theorem Ex (acc:List (Nat×List Nat))(h x:Nat):(uI acc h x).length≤acc.length+1:=by
 unfold uI;split
 ·rw[List.length_map];omega
 ·rw[List.length_append];simp
theorem oE (us:List Nat):∀n,(mi us n).length≤n
 |0=>Nat.le_refl _
 |n+1=>by rw[ga];have:=Ex (mi us n) (hd us n) n;have:=oE us n;omega
theorem BH {acc:List (Nat×List Nat)}{h x m:Nat}(ha:∀t∈acc,t.2.length≤m):∀t∈uI acc h x,t.2.length≤m+1:=by
 unfold uI
 intro t ht
 split at ht
 ·obtain⟨u,hu,rfl⟩:=List.mem_map.mp ht
  have:=ha u hu
  split
  ·simp;omega
  ·omega
 ·rcases List.mem_append.mp ht with ht|ht
  ·have:=ha t ht;omega
  ·rw[List.mem_singleton] at ht;subst ht;simp
theorem rB (us:List Nat):∀n,∀t∈mi us n,t.2.length≤n
 |0=>fun t ht=>absurd ht (List.not_mem_nil)
 |n+1=>by rw[ga];exact BH (rB us n)
noncomputable abbrev At:=Nat×List Nat×Addr
noncomputable def kv (t:At):iW×V:=(.inl (t.1:Int),.ref t.2.2)
noncomputable def IM (t:At):Nat×List Nat:=(t.1,t.2.1)
noncomputable def nv (n:Nat):V:=.int (n:Int)
noncomputable def mt (acc:List At)(h x:Nat)(l:Addr):List At:=
 if acc.any (fun t=>decide (t.1=h)) then acc.map (fun t=>if t.1=h then (t.1,t.2.1++[x],t.2.2) else t) else acc++[(h,[x],l)]
theorem F8 (acc:List At)(h:Nat):(acc.map IM).any (fun t=>decide (t.1=h))=acc.any (fun t=>decide (t.1=h)):=by rw[List.any_map];rfl
theorem xJ (acc:List At)(h x:Nat)(l:Addr):(mt acc h x l).map IM=uI (acc.map IM) h x:=by
 unfold mt uI
 rw[F8]
 split
 ·rw[List.map_map,List.map_map]
  refine List.map_congr_left fun t _=>?_
  show IM (if t.1=h then _ else _)=if t.1=h then _ else _
  split<;>rfl
 ·rw[List.map_append];rfl
theorem HW (a b:Nat):decide ((Sum.inl (a:Int):iW)=Sum.inl (b:Int))=decide (a=b):=by
 rw[Bool.eq_iff_iff,decide_eq_true_iff,decide_eq_true_iff]
 constructor
 ·intro e;have:=Sum.inl.inj e;omega
 ·intro e;rw[e]
theorem yO (h:Nat):∀acc:List At,ou (acc.map kv) (.inl (h:Int))=(acc.find? fun t=>decide (t.1=h)).map fun t=>.ref t.2.2
 |[]=>rfl
 |t::acc=>by
  rw[List.map_cons,List.find?_cons]
  by_cases e:t.1=h
  ·rw[wZ (show (kv t).1=_ by show (Sum.inl (t.1:Int):iW)=_;rw[e]),decide_eq_true e];rfl
  ·rw[wD (show ¬(kv t).1=_ from fun z=>e (by have:=Sum.inl.inj z;omega)),decide_eq_false e]
   exact yO h acc
theorem KO (h:Nat)(acc:List At):((acc.map kv).any fun p=>decide (p.1=(Sum.inl (h:Int):iW)))=acc.any (fun t=>decide (t.1=h)):=by
 rw[List.any_map]
 congr 1
 funext t
 exact HW t.1 h
structure St (F H F1 H1:Hp)(d:Addr)(acc:List At):Prop where
 gr:Grow F H F1 H1
 d0:H d=none
 dF:F1 d=none
 dH:H1 d=some (.dK (acc.map kv))
 ls:∀t∈acc,H t.2.2=none/\F1 t.2.2=none/\H1 t.2.2=some (.lst (t.2.1.map nv))
 nd:(acc.map (·.2.2)).Nodup
 nk:(acc.map (·.1)).Nodup
theorem St.grow {F H F1 H1 F2 H2:Hp}{d:Addr}{acc:List At}(s:St F H F1 H1 d acc)(g:Grow F1 H1 F2 H2):St F H F2 H2 d acc:=by
 have k:=g.keep s.dF s.dH
 refine⟨s.gr.trans g,s.d0,k.1,k.2,fun t ht=>?_,s.nd,s.nk⟩
 obtain⟨a,b,c⟩:=s.ls t ht
 have k:=g.keep b c
 exact⟨a,k.1,k.2⟩
theorem Grow.mut {F H F1 H1:Hp}(g:Grow F H F1 H1){l:Addr}{o:HO}(h0:H l=none)(hF:F1 l=none):Grow F H F1 (L2.upd H1 l o):=by
 refine⟨fun b u e=>?_,g.ff,fun b u e=>?_,g.nw⟩
 ·rw[ay fun z=>by subst z;rw[h0] at e;cases e];exact g.hh b u e
 ·rw[ay fun z=>by subst z;rw[hF] at e;cases e];exact g.fh b u e
theorem wB {acc:List At}{h:Nat}{t:At}(e:acc.find? (fun t=>decide (t.1=h))=some t):t∈acc/\t.1=h:=⟨List.mem_of_find?_eq_some e,by simpa using List.find?_some e⟩
theorem St.found {F H F1 H1:Hp}{d:Addr}{acc:List At}(s:St F H F1 H1 d acc){h x:Nat}{t:At}(e:acc.find? (fun t=>decide (t.1=h))=some t)(l:Addr):St F H F1 (L2.upd H1 t.2.2 (.lst (t.2.1.map nv++[nv x]))) d (mt acc h x l):=by
 obtain⟨hm,hk⟩:=wB e
 obtain⟨a,b,c⟩:=s.ls t hm
 have hany:acc.any (fun t=>decide (t.1=h))=true:=List.any_eq_true.mpr ⟨t,hm,by simpa using hk⟩
 have one:∀u∈acc,u.1=h->u=t:=fun u hu hh=>by
  have nk:=s.nk
  obtain⟨i,hi,rfl⟩:=List.mem_iff_getElem.mp hu
  obtain⟨j,hj,rfl⟩:=List.mem_iff_getElem.mp hm
  have:(acc.map (·.1))[i]'(by simpa using hi)=(acc.map (·.1))[j]'(by simpa using hj):=by simp[hh,hk]
  have:=(List.getElem_inj nk).mp this
  subst this;rfl
 have ad:∀u∈acc,u≠t->u.2.2≠t.2.2:=fun u hu hne z=>by
  have nd:=s.nd
  obtain⟨i,hi,rfl⟩:=List.mem_iff_getElem.mp hu
  obtain⟨j,hj,rfl⟩:=List.mem_iff_getElem.mp hm
  have:(acc.map (·.2.2))[i]'(by simpa using hi)=(acc.map (·.2.2))[j]'(by simpa using hj):=by simp[z]
  have:=(List.getElem_inj nd).mp this
  subst this;exact hne rfl
 have hd:d≠t.2.2:=fun z=>by rw[←z,s.dH] at c;cases c
 have e1:(mt acc h x l).map kv=acc.map kv:=by
  unfold mt;rw[if_pos hany,List.map_map]
  refine List.map_congr_left fun u _=>?_
  show kv (if u.1=h then _ else _)=kv u
  split<;>rfl
 have e2:(mt acc h x l).map (·.2.2)=acc.map (·.2.2):=by
  unfold mt;rw[if_pos hany,List.map_map]
  refine List.map_congr_left fun u _=>?_
  show (if u.1=h then (u.1,u.2.1++[x],u.2.2) else u).2.2=u.2.2
  split<;>rfl
 have e3:(mt acc h x l).map (·.1)=acc.map (·.1):=by
  unfold mt;rw[if_pos hany,List.map_map]
  refine List.map_congr_left fun u _=>?_
  show (if u.1=h then (u.1,u.2.1++[x],u.2.2) else u).1=u.1
  split<;>rfl
 refine⟨Grow.mut s.gr a b,s.d0,s.dF,by rw[e1,ay hd];exact s.dH,fun u hu=>?_,by rw[e2];exact s.nd,by rw[e3];exact s.nk⟩
 unfold mt at hu;rw[if_pos hany] at hu
 obtain⟨u,hu',rfl⟩:=List.mem_map.mp hu
 obtain⟨a',b',c'⟩:=s.ls u hu'
 by_cases q:u.1=h
 ·rw[if_pos q]
  have:=one u hu' q
  subst this
  exact⟨a',b',by rw[aq,List.map_append];rfl⟩
 ·rw[if_neg q]
  refine⟨a',b',?_⟩
  rw[ay (ad u hu' fun z=>q (by rw[z];exact hk))];exact c'
theorem St.fresh {F H F1 H1:Hp}{d:Addr}{acc:List At}(s:St F H F1 H1 d acc){h x:Nat}{l:Addr}(e:acc.find? (fun t=>decide (t.1=h))=none)(hl:H1 l=none) :
  St F H F1 (L2.upd (L2.upd (L2.upd H1 l (.lst [])) d (.dK (rJ (acc.map kv) (.inl (h:Int)) (.ref l)))) l (.lst [nv x])) d (mt acc h x l):=by
 have hany:acc.any (fun t=>decide (t.1=h))=false:=by
  rw[Bool.eq_false_iff]
  intro z
  obtain⟨t,ht,q⟩:=List.any_eq_true.mp z
  have:=List.find?_eq_none.mp e t ht
  exact this q
 have hdl:d≠l:=fun z=>by rw[z] at s;rw[s.dH] at hl;cases hl
 have l0:H l=none:=s.gr.hh.free hl
 have lF:F1 l=none:=s.gr.fh.free hl
 have ep:rJ (acc.map kv) (.inl (h:Int)) (.ref l)=(mt acc h x l).map kv:=by
  unfold rJ mt
  rw[KO,hany]
  show (acc.map kv)++_=(acc++_).map kv
  rw[List.map_append];rfl
 have hne:∀t∈acc,t.2.2≠l:=fun t ht z=>by have:=(s.ls t ht).2.2;rw[z,hl] at this;cases this
 have hnd:∀t∈acc,t.2.2≠d:=fun t ht z=>by have:=(s.ls t ht).2.2;rw[z,s.dH] at this;cases this
 have pa:mt acc h x l=acc++[(h,[x],l)]:=by unfold mt;rw[hany];rfl
 refine⟨Grow.mut (Grow.mut (Grow.mut s.gr l0 lF) s.d0 s.dF) l0 lF,s.d0,s.dF,?_,fun t ht=>?_,?_,?_⟩
 ·rw[ay hdl,aq,ep]
 ·rw[pa] at ht
  rcases List.mem_append.mp ht with ht|ht
  ·obtain⟨a,b,c⟩:=s.ls t ht
   exact⟨a,b,by rw[ay (hne t ht),ay (hnd t ht),ay (hne t ht)];exact c⟩
  ·rw[List.mem_singleton] at ht;subst ht
   exact⟨l0,lF,aq⟩
 ·rw[pa,List.map_append,List.nodup_append]
  refine⟨s.nd,by simp,fun a ha b hb=>?_⟩
  obtain⟨t,ht,rfl⟩:=List.mem_map.mp ha
  simp at hb;subst hb
  exact hne t ht
 ·rw[pa,List.map_append,List.nodup_append]
  refine⟨s.nk,by simp,fun a ha b hb=>?_⟩
  obtain⟨t,ht,rfl⟩:=List.mem_map.mp ha
  simp at hb;subst hb
  have:=List.find?_eq_none.mp e t ht
  simpa using this
noncomputable abbrev Mb (K:PySem.W.Frag):List V->Hp->VK->Prop:=fun xs H Q=>∃x n,xs=[x]/\Lj K x H n/\Q (.int n) H
noncomputable abbrev Py (K:PySem.W.Frag):List V->Hp->VK->Prop:=fun xs H Q=>∃p ys,xs=[.ref p]/\((SqL K H p ys/\∀l,H l=none->Q (.ref l) (L2.upd H l (.tup ys)))\/(SqT K H p ys/\Q (.ref p) H))
noncomputable def CI (K:PySem.W.Frag)(spW:Sp):TS:=gB (df (m5 (L2.be K) (b8 spW [] E0 (bI (cL 0) (bI (cL 2) eN))) (ot (rU fun i=>.int (-i)) (tC (.int 1)))) (bf 3))
  (cc (nt K "list" pQ (BX (cL 1) (cL 3) (gT eN)) (bI (cL 2) eN)))
noncomputable def De (K:PySem.W.Frag):TS:=gW (kN [none] (Io (cL 1)) (bf 0) gK (kU (Py K) (bI (cL 0) eN)))
noncomputable def IG (K:PySem.W.Frag)(spW:Sp):TS:=gB (df CF (bf 1)) (gB (AN (cD (bI (kU (Mb K) (bI (cL 0) eN)) eN)) (bf 2) (CI K spW)) (De K))
theorem vL {K:PySem.W.Frag}{F:Hp}:∀l:List Nat,Reps K F (ak l) (l.map nv)
 |[]=>rfl
 |_::l=>⟨_,_,rfl,rfl,vL l⟩
theorem AR {K:PySem.W.Frag}{F H:Hp}{u:Addr}{us:List Nat}(f:Frst us)(sm:Same F H)(hu:F u=some (.tup (us.map nv))){Q:VK}{N:L2.St->Hp->Prop}
  (q:∀a vs F' H',Grow F H F' H'->H a=none->F' a=none->H' a=some (.lst vs)->Reps K F' (mZ us) vs->Q (.ref a) H'):IG K (bE K (b6 Dp.eA)) { nx:=N,rt:=Q } [some (.ref u),none,none,none] H:=by
 intro d hd
 have hm:=f.most
 have hud:u≠d:=fun z=>by rw[←z,sm u _ hu] at hd;cases hd
 show AN (cD (bI (kU (Mb K) (bI (cL 0) eN)) eN)) (bf 2) (CI K (bE K (b6 Dp.eA))) { nx:=De K { nx:=N,rt:=Q },rt:=Q } [some (V.ref u),some (V.ref d),none,none] (L2.upd H d (.dK []))
 refine vg (lo:=0) (n:=us.length) (H1:=L2.upd H d (.dK [])) (fun i σ H'=>∃F1 acc z2 z3,σ=[some (.ref u),some (.ref d),z2,z3]/\St F H F1 H' d acc/\acc.map IM=mi us i) (fun R r=>?_) ?_ (fun i σ H' hi ⟨F1,acc,z2,z3,es,s,ea⟩=>?_) (fun σ H' ⟨F1,acc,z2,z3,es,s,ea⟩=>?_)
 ·refine⟨_,rfl,.ref u,us.length,rfl,.inr ⟨us.map nv,SqT.of (by rw[ay hud];exact sm u _ hu),by rw[List.length_map]⟩,(us.length:Int),rfl,by omega,by omega,?_⟩
  rw[Int.toNat_natCast];exact r
 ·exact⟨F,[],none,none,rfl,⟨Grow.mut (.refl sm) hd (sm.free hd),hd,sm.free hd,aq,fun t ht=>absurd ht (List.not_mem_nil),List.nodup_nil,List.nodup_nil⟩,rfl⟩
 ·subst es
  have hla:acc.length≤i:=by rw[←List.length_map (f:=IM),ea];exact oE us i
  have hll:∀t∈acc,t.2.1.length≤i:=fun t ht=>rB us i (IM t) (by rw[←ea];exact List.mem_map_of_mem ht)
  refine⟨_,rfl,_,rfl,?_⟩
  refine⟨F1,[.tup (ak us),.int i],fun r=>r=.n (ak (way us i)),s.gr.fh,?_,⟨_,Dp.IC (.inl rfl) f hi,rfl⟩,fun r v F2 H2 er g rr=>?_⟩
  ·refine⟨_,_,rfl,⟨u,_,rfl,s.gr.ff u _ hu,vL us⟩,_,_,rfl,?_,rfl⟩
   show V.int (0+(i:Int))=V.int i
   rw[Int.zero_add]
  ·subst er
   obtain⟨a,vs,rfl,h0,hF,hH,rs⟩:=rr
   have s2:=s.grow g
   have ne:=(fj f.fst hi).ne
   obtain⟨v,ev,rv⟩:=rs.atI (Pu.tS ne)
   cases (show v=V.int (cM (way us i):Nat) from rv)
   refine⟨1,rfl,.inl ⟨a,vs,-1,_,rfl,rfl,SqL.of hH,ev,?_⟩⟩
   refine⟨_,rfl,d,rfl,.inl ⟨_,.inl s2.dH⟩,_,rfl,Nat.zero_le _,fun l hl=>?_⟩
   have hdl:d≠l:=fun z=>by rw[←z,s2.dH] at hl;cases hl
   have s3:=s2.grow (Grow.newO s2.gr.fh hl (.lst []))
   have big:∀k,k≤40->k<sizeLine:=fun k hk=>Nat.lt_of_le_of_lt hk (by decide)
   refine⟨acc.map kv,.inl ((Fo.hd us i:Nat):Int),s3.dH,rfl,by rw[List.length_map];exact big _ (by omega),fun v e=>?_,fun e=>?_⟩
   ·rw[yO] at e
    obtain⟨t,et,rfl⟩:=Option.map_eq_some_iff.mp e
    obtain⟨tm,tk⟩:=wB et
    obtain⟨b0,b1,b2⟩:=s3.ls t tm
    refine⟨.inl ⟨rfl,_,SqL.of b2⟩,_,rfl,t.2.2,_,_,rfl,rfl,b2,by rw[List.length_map];exact big _ (by have:=hll t tm;omega),F2,mt acc (Fo.hd us i) i l,_,_,rfl,?_,?_⟩
    ·have:=s3.found et (x:=i) l
     rw[show V.int (0+(i:Int))=nv i by rw[Int.zero_add];rfl]
     exact this
    ·rw[xJ,ea,ga]
   ·rw[yO] at e
    have en:acc.find? (fun t=>decide (t.1=Fo.hd us i))=none:=Option.map_eq_none_iff.mp e
    have hl4:(L2.upd (L2.upd H2 l (.lst [])) d (.dK (rJ (acc.map kv) (.inl ((Fo.hd us i:Nat):Int)) (.ref l)))) l=some (.lst []):=by rw[ay (Ne.symm hdl),aq]
    refine⟨.inl ⟨rfl,_,SqL.of hl4⟩,_,rfl,l,_,_,rfl,rfl,hl4,big 0 (by decide),F2,mt acc (Fo.hd us i) i l,_,_,rfl,?_,?_⟩
    ·have:=s2.fresh (x:=i) en hl
     rw[show V.int (0+(i:Int))=nv i by rw[Int.zero_add];rfl]
     exact this
    ·rw[xJ,ea,ga]
 ·subst es
  have hla:acc.length≤us.length:=by rw[←List.length_map (f:=IM),ea];exact oE us _
  refine⟨_,rfl,d,acc.map kv,rfl,s.dH,fun ob=>?_⟩
  refine⟨fun i ys Hc=>i≤acc.length/\∃Fc,Grow F H Fc Hc/\Hc d=some (.frz ob (.dK (acc.map kv)))/\(∀t∈acc,Hc t.2.2=some (.lst (t.2.1.map nv)))/\Reps K Fc ((acc.take i).map fun t=>PV.tup (ak t.2.1)) ys,acc.length,⟨Nat.zero_le _,F1,Grow.mut s.gr s.d0 s.dF,aq,fun t ht=>?_,rfl⟩,fun i ys Hc ⟨hi,Fc,g,h1,h2,h3⟩=>⟨hi,?_⟩,fun i ys Hc ⟨hi,Fc,g,h1,h2,h3⟩=>?_⟩
  ·have:=(s.ls t ht).2.2
   rw[ay fun z=>by rw[z,s.dH] at this;cases this];exact this
  ·rw[h3.length,List.length_map,List.length_take]
   exact Nat.lt_of_le_of_lt (show min i acc.length≤40 by omega) (by decide)
  ·by_cases hlt:i<acc.length
   ·refine .inr ⟨⟨h1,by rw[List.length_map];exact hlt⟩,fun x H'' ⟨eH,ex⟩=>?_⟩
    subst eH
    rw[List.getElem?_map,List.getElem?_eq_getElem hlt] at ex
    cases ex
    have hmem:acc[i]∈acc:=List.getElem_mem hlt
    have hc:=h2 _ hmem
    refine⟨_,rfl,acc[i].2.2,acc[i].2.1.map nv,rfl,.inl ⟨SqL.of hc,fun l hl=>⟨hlt,L2.upd Fc l (.tup (acc[i].2.1.map nv)),g.trans (.new g.fh hl _),?_,fun t ht=>?_,?_⟩⟩⟩
    ·rw[ay fun z=>by rw[←z,h1] at hl;cases hl];exact h1
    ·have:=h2 t ht
     rw[ay fun z=>by rw[z,hl] at this;cases this];exact this
    ·rw[List.take_succ_eq_append_getElem hlt,List.map_append]
     exact (h3.mono (bU (g.fh.free hl) _)).app (.one ⟨l,_,rfl,aq,vL _⟩)
   ·have hi':i=acc.length:=by omega
    subst hi'
    refine .inl ⟨⟨h1,by rw[List.length_map];exact Nat.le_refl _⟩,fun l hl=>q l ys Fc _ (g.trans (.newO g.fh hl _)) (g.hh.free hl) (g.fh.free hl) aq ?_⟩
    have e:mZ us=(acc.take acc.length).map fun t=>PV.tup (ak t.2.1):=by
     unfold mZ AG
     rw[List.take_length,←ea,List.map_map,List.map_map];rfl
    rw[e];exact h3
end Lo
end
section
namespace Dp
open PySem PySem.Spec L2 Pu Fo Lo
theorem B2 {P:Program}{w:World}{K:PySem.W.Frag}{mg:Str->Option Value}{base:Heap}{x:Str}{st:Stmt}{k:Nat}(F:FunD K mg x st ["ups"])(S:FnScope ["ups","lots","x","head"] ["ups"] (ag st))
  (hb:∀(f:Addr) (cdv:Value) (A:Around) (outer:List Env) (s:Shared) (H:Hp) (E:XK),Room k (A.deeper (PyProof.Rows.envOfC x (ag st) s.heap.objs.size f cdv))->PSs (nN xM P w K mg base ["ups","lots","x","head"] x (ag st) f cdv A outer s H E).nox (aw st) (IG K (bE K (b6 eA)))) :
  Def P w K mg base (k+1) x ["ups"] (bE K (b6 dD)):=by
 refine F.ok S (fun vs H Q E ⟨F',qs,Qp,sm,r,⟨res,e,q⟩,kk⟩=>?_) (fun f cdv A outer s H vs Q E hr ⟨F',qs,Qp,sm,r,⟨res,e,q⟩,kk⟩=>⟨_,hb f cdv A outer s H E hr,?_⟩)
 ·unfold dD at e
  split at e
  ·rw[r.length];rfl
  ·cases e
 ·unfold dD at e
  split at e
  ·split at e
   ·next us eu=>
    split at e
    ·next z=>
     cases e
     obtain⟨v,t,rfl,⟨u,ws,rfl,hu,ru⟩,ht⟩:=r
     cases (show t=[] from ht)
     rw[tR eu] at ru
     have ew:ws=us.map nv:=kx ru
     subst ew
     exact AR (Dh z) sm hu fun a vs F2 H2 g h0 hF hH rs=>kk _ _ F2 H2 q g ⟨a,vs,rfl,h0,hF,hH,rs⟩
    ·cases e
   ·cases e
  ·cases e
end Dp
end
section
namespace Fo
open PySem L2
theorem s5 {y:Str}(hy:y∈bt):y = "none"\/y = "whole"\/y = "halves"\/y = "splits"\/y = "one":=by simpa [bt] using hy
theorem n1:(("halves" : Str) = "whole")=False:=eq_false (by decide)
theorem n2:(("halves" : Str) = "splits")=False:=eq_false (by decide)
theorem n3:(("splits" : Str) = "whole")=False:=eq_false (by decide)
theorem n4:(("one" : Str) = "whole")=False:=eq_false (by decide)
theorem n5:(("one" : Str) = "splits")=False:=eq_false (by decide)
theorem n6:(("one" : Str) = "halves")=False:=eq_false (by decide)
theorem n7:(("none" : Str) = "whole")=False:=eq_false (by decide)
theorem n8:(("none" : Str) = "splits")=False:=eq_false (by decide)
theorem n9:(("none" : Str) = "halves")=False:=eq_false (by decide)
theorem P3:(("none" : Str) = "one")=False:=eq_false (by decide)
theorem PY:(("splits" : Str) = "halves")=False:=eq_false (by decide)
theorem QK:(("whole" : Str) = "halves")=False:=eq_false (by decide)
end Fo
end
section
namespace Dp
open PySem L2 Fo Pu Lo
theorem BD {p:PV}{us:List Nat}(hp:p=.tup (ak us)\/p=.lst (ak us))(hm:us.length≤40)(hb:∀x,x<us.length->up us x<us.length){s1:Option Sl}{y:Nat}{l2:List Nat}(w:Way us y l2):∀(pre:List Nat),pre.length+l2.length≤us.length->y<us.length →
  ∀n,l2.length<n->d6 fN fK n [some (.val p),s1,some (.own (ak (pre++[y])))]=.nx [some (.val p),s1,some (.own (ak (pre++l2)))]:=by
 induction w with
 | @head y e=>
  intro pre hl hy n hn
  obtain⟨n,rfl⟩:∃k,n=k+1:=⟨n - 1,by simp at hn;omega⟩
  rw[jq]
  rcases hp with rfl|rfl <;>
   simp only[kE,EE,Nat.reduceAdd,Nat.reduceSub,Nat.reduceLeDiff,Nat.reduceLT,Nat.reduceEqDiff,Int.reduceLT,Int.reduceLE,Int.reduceAdd,Int.reduceSub,Int.reduceMul,Int.reduceMod,Int.reduceDiv,Int.reduceNeg,Int.reduceToNat,Int.reducePow,Int.reduceEq,Pu.j2,az hy,e]
 | @step y l ne w ih=>
  intro pre hl hy n hn
  obtain⟨n,rfl⟩:∃k,n=k+1:=⟨n - 1,by simp at hn;omega⟩
  have ih:=ih (pre++[y]) (by simp at hl ⊢;omega) (hb y hy) n (by simp at hn;omega)
  rw[List.append_assoc,List.append_assoc] at ih
  have pos:=w.pos
  have hne:decide ((up us y:Int)=(y:Int))=false:=decide_eq_false (by omega)
  have hpl:(pre++[y]).length≤100000:=by simp at hl ⊢;omega
  have hle:decide (((pre++[y]).length:Int)≤(us.length:Int))=true:=decide_eq_true (by simp at hl ⊢;omega)
  rw[jq]
  rcases hp with rfl|rfl <;>
   (simp only[kE,pK,EE,Nat.reduceAdd,Nat.reduceSub,Nat.reduceLeDiff,Nat.reduceLT,Nat.reduceEqDiff,Int.reduceLT,Int.reduceLE,Int.reduceAdd,Int.reduceSub,Int.reduceMul,Int.reduceMod,Int.reduceDiv,Int.reduceNeg,Int.reduceToNat,Int.reducePow,Int.reduceEq,Pu.j2,az hy,hne,hle,hpl,oO,List.append_assoc];exact ih)
theorem EC {p:PV}{us:List Nat}(hp:p=.tup (ak us)\/p=.lst (ak us))(f:Frst us){x:Nat}(hx:x<us.length):cF [p,.int x]=some (.n (ak (way us x))):=by
 have hl:=pL f.fst hx
 have hm:=f.most
 have e:=BD hp f.most f.fst.bnd (s1:=some (.val (.int x))) (fj f.fst hx) [] (by simpa using hl) hx 10000 (by omega)
 rw[List.nil_append,List.nil_append] at e
 have e':d6 fN fK 10000 [some (.val p),some (.val (.int x)),some (.own [.int x])]=_:=e
 simp only[uX,p5,EE,Nat.reduceAdd,Nat.reduceSub,Nat.reduceLeDiff,Nat.reduceLT,Nat.reduceEqDiff,Int.reduceLT,Int.reduceLE,Int.reduceAdd,Int.reduceSub,Int.reduceMul,Int.reduceMod,Int.reduceDiv,Int.reduceNeg,Int.reduceToNat,Int.reducePow,Int.reduceEq,e']
theorem nj {us:List Nat}(f:Frst us){x:Nat}(hx:x<us.length):L2.atI (ak (way us x)) (-1)=some (.int (hd us x:Nat)):=Pu.tS (fj f.fst hx).ne
theorem lots_congr {us us':List Nat}(hl:us'.length=us.length)(h:∀t,t<us.length->hd us' t=hd us t):mZ us'=mZ us:=by
 have e:∀n,n≤us.length->mi us' n=mi us n:=fun n=>by
  induction n with
  |zero=>intro _;rfl
  |succ n ih=>intro hn;rw[ga,ga,ih (by omega),h n (by omega)]
 unfold mZ AG
 rw[hl,e _ (Nat.le_refl _)]
theorem o7:∀l:List (List Nat),aH (l.map fun u=>PV.tup (ak u))=true
 |[]=>by rw[List.map_nil,aH]
 |u::l=>by rw[List.map_cons,aH,Pu.plain,eY,o7 l];rfl
theorem tz:∀l:List (List Nat),cf (l.map fun u=>PV.tup (ak u))≤1
 |[]=>by rw[List.map_nil,cf];omega
 |u::l=>by rw[List.map_cons,cf,oo,ij];have:=tz l;omega
theorem xk (t:Nat):∀l:List Nat,pin (.int t) (ak l)=decide (t∈l)
 |[]=>rfl
 |u::l=>by
  show (iT (.int (u:Int)) (.int (t:Int)) || pin (.int t) (ak l))=_
  rw[vh,xk t l]
  by_cases h:u=t
  ·subst h;simp
  ·have h':¬((u:Int)=(t:Int)):=by omega
   rw[decide_eq_false h',Bool.false_or]
   have:t≠u:=fun z=>h z.symm
   simp[List.mem_cons,this]
end Dp
end
section
namespace Dp
open PySem L2 Fo Pu
end Dp
end
section
namespace L2
open PySem PySem.Spec PyProof.Rows
section
variable {prog:Program}{w:World}{A:Around}{E:Value->Shared->Prop}{s:Shared}
theorem K7 {it t:Addr}{i:Nat}{items:Array Value}{x:Value}{Q:Value->Shared->Prop}(hit:s.heap.IsTupleIter it t i)(ht:s.heap.IsTuple t items)(hx:items[i]?=some x)
  (hQ:∀h',h'.IsTupleIter it t (i+1)->Heap.SameBut it s.heap h'->Q x { s with heap:=h' }):wpAny (model prog w) A (Builtin.SmallTypes.nextOf (.ref it)) Q E s:=by
 have hT:=hit.typeIs
 obtain⟨o,ho,hc,hd⟩:=hit;obtain⟨ol,hol,_,nl,hdl⟩:=ht
 unfold Builtin.SmallTypes.nextOf
 refine wpAny_bind (wpAny_callSpecial?_slot (name:=Str.ofString "__next__") hT F.slot_tuple_iterator_next (wpAny_call_entry F.slot_tuple_iterator_next hT F.entry_tuple_iterator_next ?_ (F.args_tuple_iterator_next_1 _)))
 refine (?_:wpAny _ _ (field (.ref it) 0 >>= _) _ _ s);refine wpAny_bind (wpAny_field ho hd (x:=.ref t) rfl (?_:wpAny _ _ (if (Value.ref t==Value.none)=true then _ else _) _ _ s))
 rw[if_neg (show ¬((Value.ref t==Value.none)=true) from Bool.false_ne_true)];refine (?_:wpAny _ _ (field (.ref it) 1 >>= _) _ _ s);refine wpAny_bind (wpAny_field ho hd (x:=.int i 0) rfl (?_:wpAny _ _ (seqItems? (.ref t) >>= _) _ _ s));refine wpAny_bind (m:=seqItems? (.ref t)) (wpAny_seqItems hol hdl ?_);simp only[Int.toNat_natCast,hx]
 refine wpAny_bind (wpAny_setField ho hd (by simp) (wpAny_pure ⟨x,rfl,wpAny_pure (hQ _ ⟨_,Heap.get?_update_self _ ho (Obj.isFreed_of_fields (Obj.data_mapFields hd _)),(Obj.cls_mapFields ..).trans hc,by rw[Obj.data_mapFields hd];simp[rawInt]⟩ (Heap.SameBut.update ..))⟩))
theorem Ac {it t:Addr}{i:Nat}{items:Array Value}{Q:Value->Shared->Prop}(hh:A.handled=none)(hit:s.heap.IsTupleIter it t i)(ht:s.heap.IsTuple t items)(hx:items[i]?=none)
  (hE:∀h' e,Heap.ExtBut it s.heap h'->(∃o,h'.get? e=some o/\o.cls=.type "StopIteration")->E (.ref e) { s with heap:=h' }):wpAny (model prog w) A (Builtin.SmallTypes.nextOf (.ref it)) Q E s:=by
 have hT:=hit.typeIs
 obtain⟨o,ho,hc,hd⟩:=hit;obtain⟨ol,hol,_,nl,hdl⟩:=ht
 unfold Builtin.SmallTypes.nextOf
 refine wpAny_bind (wpAny_callSpecial?_slot (name:=Str.ofString "__next__") hT F.slot_tuple_iterator_next (wpAny_call_entry F.slot_tuple_iterator_next hT F.entry_tuple_iterator_next ?_ (F.args_tuple_iterator_next_1 _)))
 refine (?_:wpAny _ _ (field (.ref it) 0 >>= _) _ _ s);refine wpAny_bind (wpAny_field ho hd (x:=.ref t) rfl (?_:wpAny _ _ (if (Value.ref t==Value.none)=true then _ else _) _ _ s))
 rw[if_neg (show ¬((Value.ref t==Value.none)=true) from Bool.false_ne_true)];refine (?_:wpAny _ _ (field (.ref it) 1 >>= _) _ _ s);refine wpAny_bind (wpAny_field ho hd (x:=.int i 0) rfl (?_:wpAny _ _ (seqItems? (.ref t) >>= _) _ _ s));refine wpAny_bind (m:=seqItems? (.ref t)) (wpAny_seqItems hol hdl ?_);simp only[Int.toNat_natCast,hx]
 refine wpAny_bind (wpAny_rule (wpAny_bind (wpAny_setField ho hd (by simp) (?_:wpAny _ _ (newExc (.type "StopIteration") [] >>= _) _ _ _))))
 refine wpAny_bind ?_;simp only[newExc,newTuple];refine wpAny_bind (wpAny_newObj_type ?_ (by size_fits))
 refine wpAny_bind (m:=firstArgMember _ _) (wpAny_of_eq (a:=Value.none) (by first|rfl|(simp only[firstArgMember];rfl)) (wpAny_newObj_type ?_ (by size_fits)))
 simp only[raiseNew];refine wpAny_bind (wpAny_handled ?_);first|rw[show A.in1.handled=none from hh]|rw[hh]
 exact wpAny_bind (wpAny_pure (wpAny_throw (hE _ _ (((Heap.SameBut.update ..).extBut.push _).push _) ⟨_,Heap.get?_push_size _ rfl,rfl⟩)))
end
theorem vk {h h':Heap}{a t:Addr}{i:Nat}(x:h.IsTupleIter a t i)(k:∀o,h.get? a=some o->h'.get? a=some o):h'.IsTupleIter a t i:=let ⟨o,ho,r⟩:=x;⟨o,k o ho,r⟩
theorem Fx {h h':Heap}{a:Addr}{its:Array Value}(x:h.IsTuple a its)(k:∀o,h.get? a=some o->h'.get? a=some o):h'.IsTuple a its:=let ⟨o,ho,r⟩:=x;⟨o,k o ho,r⟩
theorem J7 {prog:Program}{w:World}{A:Around}(hh:A.handled=none)(it l:Addr)(hne:l≠it)(items:Array Value):Draws prog w A it [it,l] items.size (fun i v=>items[i]?=some v) (fun i h=>h.IsTupleIter it l i/\h.IsTuple l items) where
 live:=fun _ _ ⟨⟨o,ho,_⟩,_⟩=>⟨o,ho⟩
 frame:=fun _ _ _ ⟨a,b⟩ hk=>⟨vk a fun o e=>hk it (by simp) o e,Fx b fun o e=>hk l (by simp) o e⟩
 item:=fun i s Q E hi ⟨a,b⟩ hQ=>K7 a b (x:=items[i]) (by simp[hi]) fun h' hit' hs'=>hQ _ h' s.toks (by simp[hi]) ⟨hit',b.extBut hs'.extBut hne⟩ hs'
 done:=fun s Q E ⟨a,b⟩ hE=>Ac hh a b (by simp) hE
open AutoSeq1 (wpAny_loadPart') in
theorem Gd (l:Addr)(items:Array Value)(n:Nat)(dct:Option Addr)(sl:Array (Option Value)):Meets (Builtin.«enumerate.__new__» ⟨[.type "enumerate",.ref l],[]⟩) (fun _ R s=>s.heap.get? l=some { cls:=.type "tuple",dict:=dct,data:=.seq items n,slots:=sl }/\R (.ok (.ret (.ref (s.heap.push { cls:=.type "tuple_iterator",data:=.fields #[.ref l,.int 0 0] }).objs.size))) { s with heap:=(s.heap.push { cls:=.type "tuple_iterator",data:=.fields #[.ref l,.int 0 0] }).push { cls:=.type "enumerate",data:=.fields #[.none,.bool false,.ref s.heap.objs.size,rawInt 0,.none,.none] } }):=
 .of_wp fun prog w A R s h=>by
  obtain⟨hp,g,d,tk,os⟩:=s;obtain⟨hl,h⟩:=h
  have hsub:=sub_enumerate;have hL:Heap.IsTuple (Shared.heap ⟨hp,g,d,tk,os⟩) l items:=⟨_,hl,rfl,n,rfl⟩
  wp_walk using wpAny_loadPart' hl;refine wpAny_stack_any fun st=>wpAny_pure ?_
  split
  ·rename_i c _ _ _ _ _;cases (c==Value.type "enumerate")<;>(wp_walk using wpAny_loadPart' hl,wpAny_pyIter_tuple hL;exact⟨_,rfl,h⟩)
  ·wp_walk using wpAny_loadPart' hl,wpAny_pyIter_tuple hL;exact⟨_,rfl,h⟩
section
variable {prog:Program}{w:World}{A:Around}{E:Value->Shared->Prop}{s:Shared}
theorem BU {l:Addr}{items:Array Value}{Q:Value->Shared->Prop}(hL:s.heap.IsTuple l items)
  (h:∀h',IsEnum h' (s.heap.objs.size+1) s.heap.objs.size 0 .none->h'.IsTupleIter s.heap.objs.size l 0->h'.objs.size=s.heap.objs.size+2->(∀b o,s.heap.get? b=some o->h'.get? b=some o)->Q (.ref (s.heap.objs.size+1)) { s with heap:=h' }):wpAny (model prog w) A (call (.type "enumerate") [.ref l]) Q E s:=by
 obtain⟨⟨c,dct,dt,sl⟩,hl,hc,n,hd⟩:=hL;replace hc:c=.type "tuple":=hc;replace hd:dt=.seq items n:=hd;subst hc hd
 refine callType_new F.called_enumerate (by decide) (F.typeCall_enumerate_1 _) (F.newCall_enumerate_1 _) (fun obj=>F.args_object_init_2 obj _) F.entry_enumerate_new (Gd l items n dct sl) ⟨hl,?_⟩
 have hz:(s.heap.push { cls:=.type "tuple_iterator",data:=.fields #[.ref l,.int 0 0] }).objs.size=s.heap.objs.size+1:=Heap.size_push ..
 refine (?_:_/\_);rw[hz]
 have he:IsEnum ((s.heap.push { cls:=.type "tuple_iterator",data:=.fields #[.ref l,.int 0 0] }).push { cls:=.type "enumerate",data:=.fields #[.none,.bool false,.ref s.heap.objs.size,rawInt 0,.none,.none] }) (s.heap.objs.size+1) s.heap.objs.size 0 .none:=by
  have:=Heap.get?_push_size (s.heap.push { cls:=.type "tuple_iterator",data:=.fields #[.ref l,.int 0 0] }) (o:={ cls:=.type "enumerate",data:=.fields #[.none,.bool false,.ref s.heap.objs.size,rawInt 0,.none,.none] }) rfl
  rw[hz] at this;exact this
 exact⟨⟨_,he,rfl⟩,h _ he ⟨_,Heap.get?_push_of_some _ (Heap.get?_push_size _ rfl),rfl,rfl⟩ (by rw[Heap.size_push,hz]) fun b o x=>Heap.get?_push_of_some _ (Heap.get?_push_of_some _ x)⟩
end
noncomputable def P0 (K:PySem.W.Frag)(a:Addr):It:=
 ⟨fun i H=>∃xs x,SqT K H a xs/\xs[i]?=some x,fun i H v H'=>∃p x,v=.ref p/\H p=none/\H'=upd H p (.tup [.int i,x])/\∀xs,SqT K H a xs->xs[i]?=some x,fun i H=>∃xs,SqT K H a xs/\xs.length≤i⟩
theorem yg {P:Program}{w:World}{K:PySem.W.Frag}{elts:List Expr}{x1}{pos:Pos}(a e it:Addr)(hne:e≠it):Turn P w K (.Tuple elts x1 pos) (P0 K a) [e,it] e (fun i h=>(∃old,IsEnum h e it i old)/\h.IsTupleIter it a i) where
 mem:=by simp
 obj:=fun i h st b hb=>by
  obtain⟨⟨old,he⟩,o,e',c,d⟩:=st
  rcases List.mem_cons.mp hb with z|z
  ·subst z
   exact⟨_,he,fun v q=>by
    have q':Data.fields _=Data.cell v:=q
    cases q'⟩
  ·have e2:b=it:=by simpa using z
   subst e2
   exact⟨o,e',fun v q=>by rw[d] at q;cases q⟩
 keep:=fun i h h' st k=>⟨⟨st.1.choose,k e (by simp) _ st.1.choose_spec⟩,vk st.2 fun o q=>k it (by simp) o q⟩
 item:=by
  intro X hP hw hK hc i pins s σ H E I hf st hg
  subst hP hw hK
  obtain⟨xs,x,hq,hx⟩:=hg
  obtain⟨its,rv,p,hz⟩:=I.tuple hq
  obtain⟨u,hu,ru⟩:=rv.get hx
  obtain⟨⟨old,he⟩,hit⟩:=st
  have pt:s.heap.IsTuple a its.toArray:=p
  have nai:a≠it:=fun q=>by
   obtain⟨o1,h1,c1,_⟩:=pt
   obtain⟨o2,h2,c2,_⟩:=hit
   rw[q,h2] at h1;cases h1;rw[c2] at c1;exact absurd (Value.type.inj c1) (by decide)
  have nae:e≠a:=fun q=>by
   obtain⟨o1,h1,c1,_⟩:=pt
   rw[←q,he] at h1;cases h1;exact absurd (Value.type.inj c1) (by decide)
  have hlt:i<its.toArray.size:=by
   have:=(List.getElem?_eq_some_iff.mp hu).1
   simpa using this
  refine wpAny_pyNext_enum_itemD (J7 (A:=X.A.in1) (I.ok.hd hc) it a nai its.toArray) he ⟨hit,pt⟩ hlt hne (by simp[hne,nae]) fun u' h' tk hu' out lit tup sz kp=>⟨_,rfl,?_⟩
  obtain rfl:u'=u:=by
   have h1:its[i]?=some u':=by simpa using hu'
   rw[hu] at h1;exact (Option.some.inj h1).symm
  refine wpAny_letOwnedTupleGo_enum out fun h2 he2 sb=>?_
  have fr:H s.heap.objs.size=none:=I.hok.fresh (Nat.le_refl _)
  have I1:Inv X pins σ (upd H s.heap.objs.size (.tup [.int i,x])) { s with heap:=s.heap.push { cls:=.type "tuple",data:=.seq #[.int i tk,u'] },toks:=s.toks }:=by
   refine I.laid (t':=s.toks) (fun b u e=>Heap.get?_push_of_some _ e) (Nat.le_refl _) ?_
   exact⟨by simp;decide,[.int i tk,u'],.cons ⟨_,rfl⟩ (.cons ru .nil),⟨_,Heap.get?_push_size _ rfl,rfl,_,rfl⟩⟩
  have ltE:e<s.heap.objs.size:=Heap.lt_size he
  have pP:it<s.heap.objs.size:=by obtain⟨o,q,_⟩:=hit;exact Heap.lt_size q
  have f1:∀b∈[e,it],o4 X pins (upd H s.heap.objs.size (.tup [.int i,x])) b:=fun b hb=>by
   have hb':b≠s.heap.objs.size:=by
    rcases List.mem_cons.mp hb with z|z
    ·rw[z];exact Nat.ne_of_lt ltE
    ·rw[show b=it by simpa using z];exact Nat.ne_of_lt pP
   exact⟨by rw[ay hb'];exact (hf b hb).1,(hf b hb).2⟩
  have I2:Inv X pins σ (upd H s.heap.objs.size (.tup [.int i,x])) { s with heap:=h2,toks:=tk+1 }:=by
   refine Inv.turned2 (e:=e) (it:=it) (t':=tk+1) (h':=h2) (s:={ s with heap:=s.heap.push { cls:=.type "tuple",data:=.seq #[.int i tk,u'] },toks:=s.toks }) I1 (fun b o n1 n2 q=>?_) f1
   rw[sb.2 b n1]
   rcases Heap.get?_push_cases q with ⟨z1,z2⟩|z
   ·subst z1 z2;exact tup
   ·exact kp b o n1 n2 z
  refine⟨.ref s.heap.objs.size,_,I2,rfl,⟨_,x,rfl,fr,rfl,fun ys hy=>by rw[I.tuple_inj hy hq];exact hx⟩,⟨⟨_,he2⟩,?_⟩,fun b hb=>(f1 b hb).1⟩
  exact vk lit.1 fun o q=>(sb.2 it (Ne.symm hne)).trans q
 done:=by
  intro X hP hw hK hc i pins s σ H E I hf st hg
  subst hP hw hK
  obtain⟨xs,hq,hx⟩:=hg
  obtain⟨its,rv,p,hz⟩:=I.tuple hq
  obtain⟨⟨old,he⟩,hit⟩:=st
  obtain⟨f0,f1,f2,f3,f4,f5⟩:=hf it (by simp)
  have hl:=rv.length
  have hT:s.TypeIs (.ref e) "enumerate":=⟨_,he,rfl⟩
  unfold pyNext
  refine wpAny_bind (wpAny_attempt (wpAny_callSpecial?_slot (name:=Str.ofString "__next__") hT F.slot_enumerate_next (wpAny_call_entry F.slot_enumerate_next hT F.entry_enumerate_next ?_ (F.args_enumerate_next_1 _))))
  refine (?_:wpAny _ _ (field (.ref e) 2 >>= _) _ _ _);refine wpAny_bind (wpAny_field he rfl (x:=.ref it) rfl ?_)
  refine wpAny_bind (Ac (I.ok.hd hc) hit (items:=its.toArray) p (by simp;omega) fun h' x he' hx'=>?_)
  obtain⟨o,ho,hc⟩:=hx'
  exact wpAny_bind (wpAny_isInstance (T:="StopIteration") (b:=true) ⟨o,ho,hc⟩ isSubtype_stop (wpAny_pure ⟨rfl,I.turned (t':=s.toks) (fun b o hb e=>he' b o hb e) f0 f1 f3 f4 f5⟩))
 self:=fun _ _ _ _ _ st h=>wpAny_pyIter_enum st.1.choose_spec h
noncomputable def yH (K:PySem.W.Frag)(ta:TA):TI:=fun σ H R=>ta σ H fun vs H1=>∃a,vs=[.ref a]/\(∃xs,SqT K H1 a xs)/\R (P0 K a) H1
section
variable {X:Cx}{elts:List Expr}{tpos:Pos}
theorem xz {x1}{a:Expr}{ta:TA}{p pos:Pos}(hg:Gl X "enumerate")(hm:X.mg "enumerate" = none)(ha:PA X [a] ta)(hs:starEach [a] X.env=[(false,eval a X.env)]:=by rfl):PI X (.Tuple elts x1 tpos) (.Call (.Name "enumerate" p) [a] [] pos) (yH X.K ta):=by
 intro pins s σ H R I h
 refine Call_ (qk I hg hm uM (PyProof.Rows.callWith_type1 (dN (ha pos pins s σ H _ I h) fun us s1 ⟨vs,H1,I1,r1,q1⟩=>?_) hs rfl))
 obtain⟨l,e,⟨xs,hq⟩,q⟩:=q1
 subst e
 cases r1 with
 |cons r rr=>
  cases rr
  cases r
  obtain⟨its,rv,pl,hz⟩:=I1.tuple hq
  refine BU (items:=its.toArray) pl fun h' he hit sz kp=>?_
  refine wpAny_pyIter_enum he ?_
  have I2:Inv X pins σ H1 { s1 with heap:=h',toks:=s1.toks }:=I1.kept kp
  refine⟨s1.heap.objs.size+1,[s1.heap.objs.size+1,s1.heap.objs.size],_,_,H1,rfl,I2,yg l _ _ (Nat.succ_ne_self _),⟨⟨_,he⟩,hit⟩,fun b hb=>?_,q⟩
  have hb':s1.heap.objs.size≤b:=by
   rcases List.mem_cons.mp hb with z|z
   ·rw[z];exact Nat.le_succ _
   ·have e:b=s1.heap.objs.size:=by simpa using z
    rw[e];exact Nat.le_refl _
  exact I1.fpOk hb' (I1.hok.fresh hb')
end
end L2
end
section
namespace L2
open PySem PySem.Spec PyProof.Rows
end L2
end
section
namespace L2
open PySem PyProof.Rows PySem.W
theorem j1 {α β:Type}{c:Nat->Nat->Bool}{f:α->KasT β}:∀{t:KasT α},dO c (t.bind f)=dO c (f (dO c t))
 |.ret a=>rfl
 |.ask i j k=>j1 (t:=k (c i j))
structure LtOk (n:Nat)(lt:Nat->Nat->Bool):Prop where
 tot:∀i j,i<n->j<n->i≠j->lt i j=false->lt j i=true
 tr:∀i j k,i<n->j<n->k<n->lt i j=true->lt j k=true->lt i k=true
noncomputable abbrev gp (p:Array Nat)(k:Nat):Nat:=p.getD k 0
noncomputable def Up (lt:Nat->Nat->Bool)(p:Array Nat)(m:Nat):Prop:=∀i j,i<j->j<m->lt (gp p i) (gp p j)=true
noncomputable def Dn (lt:Nat->Nat->Bool)(p:Array Nat)(m:Nat):Prop:=∀i j,i<j->j<m->lt (gp p j) (gp p i)=true
section
variable {n:Nat}{lt:Nat->Nat->Bool}{p:Array Nat}
theorem og (p:Array Nat)(k:Nat):gp p k=(p[k]?).getD 0:=by
 unfold gp;rw[Array.getD_eq_getD_getElem?]
theorem OfN.size (h:OfN n p):p.size=n:=by have:=h.length_eq;simpa using this
theorem OfN.lt' (h:OfN n p){k:Nat}(hk:k<n):gp p k<n:=h.lt (by omega) k
theorem OfN.inj (h:OfN n p){i j:Nat}(hi:i<n)(hj:j<n)(e:gp p i=gp p j):i=j:=by
 have nd:p.toList.Nodup:=h.nodup_iff.mpr List.nodup_range
 have hs:=h.size
 have a:∀{k:Nat} (hk:k<n),gp p k=p.toList[k]'(by rw[Array.length_toList];omega):=fun {k} hk=>by
  rw[og,Array.getElem?_eq_getElem (by omega)];simp
 rw[a hi,a hj] at e
 exact (List.getElem_inj nd).mp e
theorem Up.snoc (L:LtOk n lt)(hp:OfN n p){k:Nat}(h1:1≤k)(hk:k<n)(u:Up lt p k)(h:lt (gp p (k - 1)) (gp p k)=true):Up lt p (k+1):=fun i j hij hj=>by
 by_cases e:j=k
 ·subst e
  by_cases e2:i=j - 1
  ·subst e2;exact h
  ·exact L.tr _ _ _ (hp.lt' (by omega)) (hp.lt' (by omega)) (hp.lt' (by omega)) (u i (j - 1) (by omega) (by omega)) h
 ·exact u i j hij (by omega)
theorem Dn.snoc (L:LtOk n lt)(hp:OfN n p){k:Nat}(h1:1≤k)(hk:k<n)(u:Dn lt p k)(h:lt (gp p k) (gp p (k - 1))=true):Dn lt p (k+1):=fun i j hij hj=>by
 by_cases e:j=k
 ·subst e
  by_cases e2:i=j - 1
  ·subst e2;exact h
  ·exact L.tr _ _ _ (hp.lt' (by omega)) (hp.lt' (by omega)) (hp.lt' (by omega)) h (u i (j - 1) (by omega) (by omega))
 ·exact u i j hij (by omega)
theorem vt (L:LtOk n lt)(hp:OfN n p):∀f k,1≤k->k+f≤n->Up lt p k->k≤dO lt (kas_asc p f k)/\dO lt (kas_asc p f k)≤k+f/\Up lt p (dO lt (kas_asc p f k))/\(dO lt (kas_asc p f k)<k+f->lt (gp p (dO lt (kas_asc p f k))) (gp p (dO lt (kas_asc p f k) - 1))=true)
 |0,k,_,_,u=>⟨Nat.le_refl _,Nat.le_refl _,u,fun h=>absurd h (Nat.lt_irrefl _)⟩
 |f+1,k,h1,hn,u=>by
  rw[show dO lt (kas_asc p (f+1) k)=dO lt (if lt (gp p k) (gp p (k - 1))=true then .ret k else kas_asc p f (k+1)) from rfl]
  cases c:lt (gp p k) (gp p (k - 1)) with
  |true=>exact⟨Nat.le_refl _,Nat.le_add_right _ _,u,fun _=>c⟩
  |false=>
   have:=L.tot _ _ (hp.lt' (k:=k) (by omega)) (hp.lt' (k:=k - 1) (by omega)) (fun e=>by have:=hp.inj (by omega) (by omega) e;omega) c
   obtain⟨a,b,d,e⟩:=vt L hp f (k+1) (by omega) (by omega) (u.snoc L hp h1 (by omega) this)
   rw[if_neg Bool.false_ne_true]
   exact⟨by omega,by omega,d,fun h=>e (by omega)⟩
theorem wj (L:LtOk n lt)(hp:OfN n p):∀f k,1≤k->k+f≤n->Dn lt p k->∃m,dO lt (kas_desc f p k 0)=(p,m,0)/\k≤m/\m≤k+f/\Dn lt p m
 |0,k,_,_,u=>⟨k,rfl,Nat.le_refl _,Nat.le_refl _,u⟩
 |f+1,k,h1,hn,u=>by
  rw[show dO lt (kas_desc (f+1) p k 0)=dO lt (if lt (gp p k) (gp p (k - 1))=true then kas_desc f p (k+1) 0 else .ask (gp p (k - 1)) (gp p k) fun d=>if d=true then .ret (p,k,0) else kas_desc f p (k+1) 1) from rfl]
  cases c:lt (gp p k) (gp p (k - 1)) with
  |true=>
   obtain⟨m,a,b,d,e⟩:=wj L hp f (k+1) (by omega) (by omega) (u.snoc L hp h1 (by omega) c)
   exact⟨m,a,by omega,by omega,e⟩
  |false=>
   have:=L.tot _ _ (hp.lt' (k:=k) (by omega)) (hp.lt' (k:=k - 1) (by omega)) (fun e=>by have:=hp.inj (by omega) (by omega) e;omega) c
   refine⟨k,?_,Nat.le_refl _,by omega,u⟩
   rw[if_neg Bool.false_ne_true]
   show dO lt (if lt (gp p (k - 1)) (gp p k)=true then _ else _)=_
   rw[this];rfl
theorem BT {m k:Nat}(hm:m≤p.size):gp (kas_rev p 0 m) k=if k<m then gp p (m - 1 - k) else gp p k:=by
 rw[og,og,og]
 unfold kas_rev
 rw[getElem?_mirror_all hm]
 by_cases h:k<m
 ·rw[if_pos ⟨Nat.zero_le _,h⟩,if_pos h,Nat.zero_add]
 ·rw[if_neg fun z=>h z.2,if_neg h]
structure Run (n:Nat)(lt:Nat->Nat->Bool)(r:Nat×Array Nat):Prop where
 pos:1≤r.1
 le:r.1≤n
 of:OfN n r.2
 up:Up lt r.2 r.1
theorem EA (L:LtOk n lt)(hp:OfN n p){m:Nat}(h1:1≤m)(hm:m≤n)(u:Dn lt p m):Run n lt (dO lt (kas_tail3 m n p)):=by
 have hr:=OfN.rev hp 0 m
 have hs:=hp.size
 obtain⟨a,b,c,_⟩:=vt L hr (n - m) m h1 (by omega) (fun i j hij hj=>by
  rw[BT (by omega),BT (by omega),if_pos (by omega),if_pos hj]
  exact u _ _ (by omega) (by omega))
 unfold kas_tail3
 rw[j1]
 exact⟨Nat.le_trans h1 a,by show dO lt (kas_asc (kas_rev p 0 m) (n - m) m)≤n;omega,hr,c⟩
theorem Aw (L:LtOk n lt)(hp:OfN n p)(hn:1≤n):Run n lt (dO lt (kas_count n p)):=by
 unfold kas_count
 rw[j1]
 obtain⟨a,b,c,d⟩:=vt L hp (n - 1) 1 (Nat.le_refl _) (by omega) (fun i j hij hj=>by omega)
 generalize dO lt (kas_asc p (n - 1) 1)=m at *
 split
 ·exact⟨a,by show m≤n;omega,hp,c⟩
 ·next ne=>
  have ne:m≠n:=fun e=>ne (by subst e;exact beq_self_eq_true _)
  split
  ·next h=>
   rw[show dO lt (KasT.ask (p.getD 0 0) (p.getD (m - 1) 0) fun c=>if c=true then KasT.ret (m,p) else kas_descPart m n (kas_rev p 0 m))=dO lt (if lt (gp p 0) (gp p (m - 1))=true then KasT.ret (m,p) else kas_descPart m n (kas_rev p 0 m)) from rfl,if_pos (c 0 (m - 1) (by omega) (by omega))]
   exact⟨a,by show m≤n;omega,hp,c⟩
  ·have e:m=1:=by omega
   subst e
   have d:=d (by omega)
   unfold kas_descPart
   rw[j1]
   obtain⟨m,e1,e2,e3,e4⟩:=wj L hp (n - (1+1)) (1+1) (by omega) (by omega) (fun i j hij hj=>by
    obtain⟨rfl,rfl⟩:i=0/\j=1:=by omega
    exact d)
   rw[e1,if_neg (Nat.lt_irrefl 0)]
   have ne2:2≤n:=by omega
   exact EA (m:=m) L hp (by omega) (by omega) e4
theorem o3 (L:LtOk n lt)(hp:OfN n p){k:Nat}(hk:k<n)(u:Up lt p k):∀f l r,r - l≤f->l≤r->r≤k->(∀i,i<l->lt (gp p i) (gp p k)=true)->(∀i,r≤i->i<k->lt (gp p k) (gp p i)=true) →
  ∃m,dO lt (kas_place p k f l r)=m/\m≤k/\(∀i,i<m->lt (gp p i) (gp p k)=true)/\∀i,m≤i->i<k->lt (gp p k) (gp p i)=true
 |0,l,r,hf,hl,hr,a,b=>⟨l,rfl,by omega,a,fun i hi hik=>b i (by omega) hik⟩
 |f+1,l,r,hf,hl,hr,a,b=>by
  rw[show dO lt (kas_place p k (f+1) l r)=dO lt (if l ≥ r then .ret l else .ask (gp p k) (gp p ((l+r) / 2)) fun c=>if c=true then kas_place p k f l ((l+r) / 2) else kas_place p k f ((l+r) / 2+1) r) from rfl]
  by_cases h:l ≥ r
  ·rw[if_pos h];exact⟨l,rfl,by omega,a,fun i hi hik=>b i (by omega) hik⟩
  ·rw[if_neg h]
   show ∃m,dO lt (if lt (gp p k) (gp p ((l+r) / 2))=true then _ else _)=m/\_
   cases c:lt (gp p k) (gp p ((l+r) / 2)) with
   |true=>
    rw[if_pos rfl]
    refine o3 L hp hk u f l ((l+r) / 2) (by omega) (by omega) (by omega) a fun i hi hik=>?_
    by_cases e:i=(l+r) / 2
    ·subst e;exact c
    ·exact L.tr _ _ _ (hp.lt' hk) (hp.lt' (by omega)) (hp.lt' (by omega)) c (u _ i (by omega) hik)
   |false=>
    rw[if_neg Bool.false_ne_true]
    have:=L.tot _ _ (hp.lt' hk) (hp.lt' (k:=(l+r) / 2) (by omega)) (fun e=>by have:=hp.inj hk (by omega) e;omega) c
    refine o3 L hp hk u f ((l+r) / 2+1) r (by omega) (by omega) (by omega) (fun i hi=>?_) b
    by_cases e:i=(l+r) / 2
    ·subst e;exact this
    ·exact L.tr _ _ _ (hp.lt' (by omega)) (hp.lt' (by omega)) (hp.lt' hk) (u i _ (by omega) (by omega)) this
theorem zo (L:LtOk n lt):∀f (p:Array Nat) k,OfN n p->1≤k->k+f=n->Up lt p k->OfN n (dO lt (kas_bin f p k))/\Up lt (dO lt (kas_bin f p k)) n
 |0,p,k,hp,_,hk,u=>⟨hp,by obtain rfl:k=n:=(by omega);exact u⟩
 |f+1,p,k,hp,h1,hk,u=>by
  rw[show dO lt (kas_bin (f+1) p k)=dO lt ((kas_place p k k 0 k).bind fun l=>kas_bin f (bubble p k (k - l)) (k+1)) from rfl,j1]
  obtain⟨m,e,hm,a,b⟩:=o3 L hp (by omega) u k 0 k (by omega) (by omega) (Nat.le_refl _) (fun i hi=>by omega) (fun i hi hik=>by omega)
  rw[e]
  have hs:=hp.size
  have g:∀i,gp (bubble p k (k - m)) i=if i=m then gp p k else if m<i/\i≤k then gp p (i - 1) else gp p i:=fun i=>by
   rw[og,getElem?_bubble (by omega) (k - m) (by omega),show k - (k - m)=m by omega]
   split
   ·rw[og]
   ·split<;>rw[og]
  refine zo L f _ (k+1) (hp.bub _ _) (by omega) (by omega) fun i j hij hj=>?_
  rw[g,g]
  by_cases e1:i=m
  ·rw[if_pos e1,if_neg (by omega),if_pos (by omega)];exact b _ (by omega) (by omega)
  ·rw[if_neg e1]
   by_cases e2:j=m
   ·rw[if_pos e2,if_neg (by omega)];exact a i (by omega)
   ·rw[if_neg e2]
    by_cases e3:i<m
    ·rw[if_neg (by omega)]
     by_cases e4:m<j/\j≤k
     ·rw[if_pos e4];exact u i (j - 1) (by omega) (by omega)
     ·rw[if_neg e4];exact u i j hij (by omega)
    ·rw[if_pos (by omega),if_pos (by omega)];exact u _ _ (by omega) (by omega)
theorem D7 (L:LtOk n lt)(hn:1≤n):OfN n (dO lt (kas_sort n))/\Up lt (dO lt (kas_sort n)) n:=by
 unfold kas_sort
 rw[j1]
 have R:=Aw L (show OfN n (List.toArray (List.range n)) from .refl _) hn
 generalize dO lt (kas_count n (List.range n).toArray)=r at *
 have h1:=R.pos
 have h2:=R.le
 split
 ·next h=>
  rw[show max r.1 1=r.1 by omega]
  exact zo L (n - r.1) r.2 r.1 R.of h1 (by omega) R.up
 ·next h=>
  have:r.1=n:=by omega
  exact⟨R.of,this▸R.up⟩
end
theorem uS (y:Int)(ys:List Int):pP [] (y::ys)=true:=by unfold pP;rw[List.zip_nil_left];exact decide_eq_true (by simp)
theorem qd (xs:List Int):pP xs []=false:=by unfold pP;rw[List.zip_nil_right];exact decide_eq_false (by simp)
theorem nu (x y:Int)(xs ys:List Int):pP (x::xs) (y::ys)=if x=y then pP xs ys else decide (x<y):=by
 unfold pP
 rw[List.zip_cons_cons,Ez]
 simp only[List.length_cons,Nat.add_lt_add_iff_right]
theorem z0:∀xs ys:List Int,xs≠ys->pP xs ys=false->pP ys xs=true
 |[],[],h,_=>absurd rfl h
 |[],y::ys,_,h=>by rw[uS] at h;cases h
 |x::xs,[],_,_=>uS x xs
 |x::xs,y::ys,h,e=>by
  rw[nu] at e ⊢
  by_cases q:x=y
  ·subst q
   rw[if_pos rfl] at e ⊢
   exact z0 xs ys (fun z=>h (by rw[z])) e
  ·rw[if_neg q] at e
   rw[if_neg fun z=>q z.symm]
   have:=of_decide_eq_false e
   exact decide_eq_true (by omega)
theorem yj:∀xs ys zs:List Int,pP xs ys=true->pP ys zs=true->pP xs zs=true
 |_,_,[],_,h=>by rw[qd] at h;cases h
 |_,[],_::_,h,_=>by rw[qd] at h;cases h
 |[],_,z::zs,_,_=>uS z zs
 |x::xs,y::ys,z::zs,h,h'=>by
  rw[nu] at h h' ⊢
  by_cases q:x=y
  ·subst q
   rw[if_pos rfl] at h
   by_cases r:x=z
   ·rw[if_pos r] at h' ⊢;exact yj xs ys zs h h'
   ·rw[if_neg r] at h' ⊢;exact h'
  ·rw[if_neg q] at h
   have h:=of_decide_eq_true h
   by_cases r:y=z
   ·subst r;rw[if_neg q];exact decide_eq_true h
   ·rw[if_neg r] at h'
    have h':=of_decide_eq_true h'
    rw[if_neg (by omega)]
    exact decide_eq_true (by omega)
theorem zO:∀xs:List Int,pP xs xs=false
 |[]=>qd []
 |x::xs=>by rw[nu,if_pos rfl];exact zO xs
theorem GN {ks:List (List Int)}(nd:ks.Nodup):((mJ ks).map fun i=>ks.getD i []).Perm ks/\((mJ ks).map fun i=>ks.getD i []).Pairwise fun a b=>pP a b=true:=by
 have at':∀{i:Nat} (hi:i<ks.length),ks.getD i []=ks[i]:=fun {i} hi=>by simp[hi]
 constructor
 ·refine ((oN ks).map _).trans (List.Perm.of_eq ?_)
  refine List.ext_getElem (by simp) fun i h1 h2=>?_
  simp[h2]
 ·unfold mJ
  split
  ·next h=>
   match ks,h with
   |[],_=>exact .nil
   |[a],_=>exact List.pairwise_singleton ..
  ·next h=>
   have L:LtOk ks.length fun i j=>pP (ks.getD i []) (ks.getD j []):=⟨fun i j hi hj ne e=>z0 _ _ (fun z=>by
    rw[at' hi,at' hj] at z;exact ne ((List.getElem_inj nd).mp z)) e,fun i j k _ _ _ a b=>yj _ _ _ a b⟩
   obtain⟨hp,u⟩:=D7 L (by omega)
   generalize dO _ (kas_sort ks.length)=p at *
   rw[List.pairwise_map,List.pairwise_iff_getElem]
   intro i j hi hj hij
   have hs:=hp.size
   have:=u i j hij (by simpa [hs] using hj)
   rw[og,og,Array.getElem?_eq_getElem (by simpa using hi),Array.getElem?_eq_getElem (by simpa using hj)] at this
   simpa using this
theorem zC {α:Type}{lt:α->α->Prop}(irr:∀a,¬lt a a)(tr:∀a b c,lt a b->lt b c->lt a c):∀{l l':List α},l.Pairwise lt->l'.Pairwise lt->(∀a,a∈l↔a∈l')->l=l'
 |[],[],_,_,_=>rfl
 |[],b::l',_,_,h=>absurd ((h b).mpr List.mem_cons_self) List.not_mem_nil
 |a::l,[],_,_,h=>absurd ((h a).mp List.mem_cons_self) List.not_mem_nil
 |a::l,b::l',p,p',h=>by
  have q:=List.pairwise_cons.mp p
  have q':=List.pairwise_cons.mp p'
  have e:a=b:=by
   rcases List.mem_cons.mp ((h a).mp List.mem_cons_self) with e|m
   ·exact e
   ·rcases List.mem_cons.mp ((h b).mpr List.mem_cons_self) with e|m'
    ·exact e.symm
    ·exact absurd (tr _ _ _ (q.1 b m') (q'.1 a m)) (irr a)
  subst e
  refine congrArg (a::·) (zC irr tr q.2 q'.2 fun c=>⟨fun hc=>?_,fun hc=>?_⟩)
  ·rcases List.mem_cons.mp ((h c).mp (List.mem_cons_of_mem _ hc)) with e|m
   ·subst e;exact absurd (q.1 c hc) (irr c)
   ·exact m
  ·rcases List.mem_cons.mp ((h c).mpr (List.mem_cons_of_mem _ hc)) with e|m
   ·subst e;exact absurd (q'.1 c hc) (irr c)
   ·exact m
end L2
end
section
namespace L2
open PySem PySem.Spec PyProof.Rows PySem.W
noncomputable def qE (is:List Int):List Int:=is.mergeSort fun a b=>decide (a≤b)
theorem ox (is:List Int):(qE is).Perm is:=List.mergeSort_perm ..
theorem G4 (is:List Int):(qE is).Pairwise (·≤·):=by
 have:=List.pairwise_mergeSort (le:=fun a b:Int=>decide (a≤b)) (fun a b c h1 h2=>by simp only[decide_eq_true_eq] at *;omega) (fun a b=>by simp only[Bool.or_eq_true,decide_eq_true_eq];omega) is
 exact this.imp fun h=>by simpa using h
theorem zh {is js:List Int}(p:js.Perm is)(u:js.Pairwise (·≤·)):js=qE is:=
 List.Perm.eq_of_pairwise (fun a b _ _ h1 h2=>Int.le_antisymm h1 h2) u (G4 is) (p.trans (ox is).symm)
theorem om:∀{is:List Int} {vs:List Value},Vals (is.map V.int) vs->IntsAre vs is
 |[],_,r=>by cases r;exact .nil
 |i::is,_,r=>by
  cases r with
  |cons r1 r2=>obtain⟨t,rfl⟩:=r1;exact .cons i t (om r2)
theorem vn {is:List Int}{vs:List Value}(h:IntsAre vs is):Vals (is.map V.int) vs:=by
 induction h with
 |nil=>exact .nil
 |cons n t _ ih=>exact .cons ⟨t,rfl⟩ ih
theorem yI {prog:Program}{w:World}{A:Around}{E:Value->Shared->Prop}{s:Shared}{p:Addr}{T:String}{o:Obj}{vs:List Value}{n:Nat}{is:List Int}{Q:Value->Shared->Prop}(hT:T = "list"\/T = "tuple")
  (ho:s.heap.get? p=some o) (hc:o.cls=.type T) (hd:o.data=.seq vs.toArray n) (hi:IntsAre vs is) (h64:vs.length<64)
  (h:∀(h1 h':Heap) (D:Addr) (out:List Value) (js:List Int) (e:Nat),(∀b u,s.heap.get? b=some u->h1.get? b=some u)->(∀b u,h1.get? b=some u->h'.get? b=some u)->h1.objs.size≤D->h'.get? D=some (seqObj "list" out.toArray e)->IntsAre out js->js.Perm is->js.Pairwise (·≤·)->Q (.ref D) { s with heap:=h' }) :
  wpAny (model prog w) A (call (.builtin "sorted") [.ref p]) Q E s:=by
 refine Calls.call_function_entry kind_sorted plain_sorted entry_sorted (args_sorted1 _) ?_
 unfold Builtin.«sorted»
 refine wpAny_bind (m:=checkCount "sorted" 1 1 _) (wpAny_pure (wpAny_bind (wpAny_collect_seq p hT ho hc hd (fun h' keep=>wpAny_bind (wpAny_newList ?_ (by show vs.length≤_;rw[sizeLine_eq];omega))) (by rw[List.size_toArray,sizeLine_eq];omega))))
 have hoL:(h'.push (seqObj "list" vs.toArray 0)).get? h'.objs.size=some (seqObj "list" vs.toArray 0):=Heap.get?_push_size _ rfl
 show wpAny _ _ _ _ _ { s with heap:=h'.push (seqObj "list" vs.toArray 0) }
 refine wpAny_bind (wpAny_holding (wpAny_call_entry slot_list_sort ⟨_,hoL,rfl⟩ entry_list_sort (list_sort_tree hoL hi h64 fun out ns h1 h2 h3=>⟨_,rfl,?_⟩) (args_list_sort _)))
 obtain⟨e,he⟩:=sortedHeap_at (vs:=vs) (out:=out) hoL
 exact wpAny_pure ⟨_,rfl,h h' _ _ out.toList ns e keep (fun b u z1=>by
  have z2:=Heap.get?_push_of_some (seqObj "list" vs.toArray 0) z1
  rw[sortedHeap_old (Nat.ne_of_lt (Heap.lt_size z1)) (Heap.lt_size z2)];exact z2) (Nat.le_refl _) (by rw[he]) h1 h2 h3⟩
theorem uZ {X:Cx}:gZ X (.builtin "sorted") (fun xs H Q=>∃p is,xs=[.ref p]/\(SqL X.K H p (is.map V.int)\/SqT X.K H p (is.map V.int))/\is.length<64/\∀l,H l=none->Q (.ref l) (upd H l (.lst ((qE is).map V.int)))):=by
 intro pins s σ H xs us Q I r h
 obtain⟨p,is,rfl,hq,h64,q⟩:=h
 obtain⟨u,rfl,rx⟩:=kJ r
 cases rx
 have main:∀(its:List Value) (T:String) (o:Obj) (n:Nat),(T = "list"\/T = "tuple")->s.heap.get? p=some o->o.cls=.type T->o.data=.seq its.toArray n->Vals (is.map V.int) its →
   wpAny (model X.prog X.w) X.A (call (.builtin "sorted") [.ref p]) (EP X pins σ Q) X.xe s:=fun its T o n hT ho hc hd rv=>by
  have hl:=rv.length
  rw[List.length_map] at hl
  refine yI hT ho hc hd (om rv) (by omega) fun h1 h' D out js e k1 k2 hD hh hi hp hu=>?_
  rw[zh hp hu] at hi
  have r2:=vn hi
  have hz:((qE is).map V.int).length≤sizeLine:=by rw[List.length_map,(ox is).length_eq,sizeLine_eq];omega
  have I1:Inv X pins σ H { s with heap:=h1 }:=I.kept (t':=s.toks) k1
  exact⟨.ref D,_,I1.laid (t':=s.toks) k2 hD (show ObjOk X.prog X.w _ _ _ (.lst _) from⟨hz,out,e,r2,hh⟩),rfl,q _ (I1.hok.fresh hD)⟩
 rcases hq with hq|hq
 ·obtain⟨its,rv,⟨o,n,h1,h2,_,h3⟩,_⟩:=I.list hq
  exact main its "list" o n (.inl rfl) h1 h2 h3 rv
 ·obtain⟨its,rv,⟨o,h1,h2,n,h3⟩,_⟩:=I.tuple hq
  exact main its "tuple" o n (.inr rfl) h1 h2 h3 rv
end L2
end
section
namespace L2
open PySem PySem.Spec PyProof.Rows PySem.W
section
variable {prog:Program}{w:World}{A:Around}{E:Value->Shared->Prop}{s:Shared}
noncomputable abbrev EB (a c:Int):Nat->Value->Prop:=fun i v=>∃t,v=.int (a+i * c) t
theorem wH {Q:List Value->Shared->Prop}{r:Addr}{a b c:Int}{t u v:Tok}{n:Nat}(hh:A.handled=none)(hr:IsRange s.heap r a b c t u v)(h1:Builtin.Range.small a b c=true)(h2:Builtin.Range.rangeSize a b c=n)(h3:n≤2 ^ 24)
  (hQ:∀h' tk acc,(∀x o,s.heap.get? x=some o->h'.get? x=some o)->ItemsOf (EB a c) acc n->Q acc.toList { s with heap:=h',toks:=tk }):wpAny (model prog w) A (collect (.ref r)) Q E s:=by
 unfold collect;refine wpAny_bind (wpAny_runValue (codeAny_builtin F.entry_proto_collect ?_));rw[Around.under_plainId F.plain_proto_collect _]
 show wpAny _ A.in1 (newList [] >>= fun z=>again (.builtin "list.__iadd__" ⟨[z,.ref r],[]⟩)) _ _ s
 refine wpAny_bind (wpAny_newObj_type (wpAny_pure ⟨plainId_quiet F.plain_list_iadd _,codeAny_builtin F.entry_list_iadd ?_⟩))
 rw[Around.under_plainId F.plain_list_iadd _];show wpAny _ A.in1 (Builtin.List.listExtendWith (.ref s.heap.objs.size) (.ref r) (.ref s.heap.objs.size)) _ _ _
 have hS0:(s.heap.push { cls:=.type "list",data:=.seq ([]:List Value).toArray }).get? s.heap.objs.size=some { cls:=.type "list",data:=.seq #[] }:=Heap.get?_push_size _ rfl
 have hr0:=Heap.get?_push_of_some { cls:=.type "list",data:=.seq ([]:List Value).toArray } hr
 refine wpAny_extend_range (R:=fun z s'=>match z with
  |.ok (.ret v)=>wpAny (model prog w) A (match v with
   |.ref a=>do
    let o ←load a
    match o.data with
     |.seq xs _=>pure xs.toList
     |_=>unsupported "internal:collect"
   |_=>unsupported "internal:collect") Q E s'
  |.ok _=>False
  |.error e=>E e s') (s:={ s with heap:=s.heap.push { cls:=.type "list",data:=.seq ([]:List Value).toArray } }) hh hr0 h1 h2 h3 s.heap.objs.size _ 0 hS0 fun h' tk acc c' hk hS hacc=>?_
 show wpAny _ A (load s.heap.objs.size >>= fun _=>_) _ _ _
 refine wpAny_bind (wpAny_load hS (wpAny_pure (hQ h' tk acc (fun x o e=>?_) hacc)))
 exact hk x o (Nat.ne_of_lt (Heap.lt_size e)) (Heap.get?_push_of_some _ e)
end
theorem rY (r:Addr){a b c:Int}{t u v:Tok}{n:Nat}(h1:Builtin.Range.small a b c=true)(h2:Builtin.Range.rangeSize a b c=n)(h3:n≤2 ^ 24) :
  Meets (Builtin.«tuple.__new__» ⟨[.type "tuple",.ref r],[]⟩) (fun A R s=>(A.handled=none/\IsRange s.heap r a b c t u v)/\∀(h':Heap) (tk:Nat) (acc:Array Value),(∀x o,s.heap.get? x=some o->h'.get? x=some o)->ItemsOf (EB a c) acc n →
   R (.ok (.ret (.ref h'.objs.size))) { s with heap:=h'.push { cls:=.type "tuple",data:=.seq acc },toks:=tk }):=
 .of_wp fun prog w A R s h=>by
  obtain⟨⟨hh,hr⟩,h⟩:=h
  have hsub:=sub_tuple_self
  have hinit:=init_tuple_lookup
  have hmh:=madeHere_tuple
  have hT:s.TypeIs (.ref r) "range":=⟨_,hr,rfl⟩
  have hh1:A.in1.handled=none:=hh
  wp_walk using wpAny_typeOf hT,wH hh1 hr h1 h2 h3
  intro h' tk acc hk hacc
  show wpAny _ _ (Builtin.Tuple.tupleExact acc.toList.toArray >>= fun z=>ret z) _ _ _
  unfold Builtin.Tuple.tupleExact
  have e:acc.toList.toArray=acc:=by simp
  have hz:acc.toList.toArray.size≤sizeLine:=by rw[e,hacc.1,sizeLine_eq];omega
  refine wpAny_bind (wpAny_newObj_type (wpAny_pure ⟨_,rfl,?_⟩) hz)
  rw[e]
  exact h h' tk acc hk hacc
theorem qU {X:Cx}(hc:X.calm=true):gZ X (.type "tuple") (fun xs H Q=>∃p j,xs=[.ref p]/\H p=some (.rng 0 j)/\0≤j/\j≤1000000/\∀l,H l=none->Q (.ref l) (upd H l (.tup (qm j.toNat)))):=by
 intro pins s σ H xs us Q I r h
 obtain⟨p,j,rfl,hp,h1,h2,q⟩:=h
 obtain⟨u,rfl,rx⟩:=kJ r
 cases rx
 obtain⟨t,u,v,e⟩:=(show ObjOk X.prog X.w H s.heap p (.rng 0 j) from I.hok p _ hp)
 have z:sizeLine ≥ 1000000:=by decide
 refine callType_new F.called_tuple (by decide) (F.typeCall_tuple_1 _) (F.newCall_tuple_1 _) (fun obj=>F.args_object_init_2 obj _) F.entry_tuple_new
  (rY p (a:=0) (b:=j) (c:=1) (n:=j.toNat) (small_one (by omega) (by omega) (by omega) (by omega)) (by rw[rangeSize_one];split<;>omega) (by omega)) ⟨⟨I.ok.hd hc,e⟩,fun h' tk acc hk hacc=>⟨⟨_,Heap.get?_push_size _ rfl,rfl⟩,?_⟩⟩
 have I1:Inv X pins σ H { s with heap:=h',toks:=tk }:=I.kept (t':=tk) hk
 exact⟨.ref h'.objs.size,_,I1.laid (t':=tk) (fun b o e=>Heap.get?_push_of_some _ e) (Nat.le_refl _) (show ObjOk X.prog X.w _ _ _ (.tup (qm j.toNat)) from⟨by rw[o9];omega,acc.toList,p6 hacc,by simpa using IsTup.new h' acc⟩),rfl,q _ (I1.hok.fresh (Nat.le_refl _))⟩
end L2
end
section
namespace L2
open PySem PySem.Spec PyProof.Rows _root_.HT
theorem sK {prog:Program}{w:World}{A:Around}{E:Value->Shared->Prop}{s:Shared}{t z:Addr}{items:Array Value}{vl vu:Value}{lo hi:Option Int}{Q:Value->Shared->Prop}(ht:IsTup s.heap t items)(hs:s.heap.IsSliceOf z vl vu .none)(pl:IsPart vl lo)(pu:IsPart vu hi)
  (hw:_root_.HT.sIx items.size 0 lo=0/\_root_.HT.sIx items.size items.size hi=items.size) (h:Q (.ref t) s):wpAny (model prog w) A (getItem (.ref t) (.ref z)) Q E s:=by
 obtain⟨os,hos,hcs,hds⟩:=id hs
 have hTs:s.TypeIs (.ref z) "slice":=⟨os,hos,hcs⟩
 unfold getItem;try with_reducible refine wpAny_holding ?_
 first|(refine wpAny_bind (wpAny_pure ?_);skip)|skip
 refine wpAny_bind (wpAny_sequenceKey ht.typeIs (by decide) (wpAny_bind (wpAny_callSpecial?_slot (name:=Str.ofString "__getitem__") ht.typeIs PyProof.Rows.slot_tuple_getitem (wpAny_call_entry PyProof.Rows.slot_tuple_getitem ht.typeIs entry_tuple_getitem ?_ (args_tuple_getitem _ _)))))
 show wpAny _ _ (Builtin.Tuple.tupleItemsOf (.ref t) >>= fun _=>_) _ _ s
 refine wpAny_bind (tupleItemsOf_ ht (wpAny_bind (wpAny_typeOf hTs ?_)))
 rw[if_pos (by decide)];refine wpAny_bind (jQ hs pl pu ?_)
 rw[hw.1,hw.2]
 have yes:(((0:Nat):Int)==0&&(1:Int)==1&&(items.size - 0)==items.size)=true:=by simp
 show wpAny _ _ (if (((0:Nat):Int)==0&&(1:Int)==1&&(items.size - 0)==items.size)=true then _ else _) _ _ s
 rw[if_pos yes]
 refine wpAny_bind ?_
 unfold Builtin.Tuple.tupleIsExact
 refine wpAny_bind (wpAny_typeOf ht.typeIs (wpAny_pure ?_))
 rw[if_pos (by decide)]
 exact wpAny_bind (wpAny_rule (wpAny_pure ⟨_,rfl,wpAny_pure h⟩))
noncomputable def Op (K:PySem.W.Frag):V->Option Int->Option Int->Hp->VK->Prop:=fun x lo hi H Q=>∃a xs,x=.ref a/\SqT K H a xs/\(_root_.HT.sIx xs.length 0 lo=0/\_root_.HT.sIx xs.length xs.length hi=xs.length)/\Q (.ref a) H
theorem Hl {X:Cx}:SlR X (Op X.K):=by
 intro pins s σ H x v vl vu lo hi sl Q I rx hs pl pu h
 obtain⟨a,xs,rfl,hx,hw,q⟩:=h
 cases rx
 obtain⟨its,r,ht,hz⟩:=I.tuple hx
 have hn:its.toArray.size=xs.length:=by rw[List.size_toArray];exact r.length.symm
 refine⟨"tuple",_,PyProof.Rows.slot_tuple_getitem.lookup,ht.typeIs,sK ht hs pl pu (by rw[hn];exact hw) ⟨.ref a,H,I,rfl,q⟩⟩
end L2
end
section
namespace Dp
open PySem L2 Fo Pu
section
variable {X:Cx}{tg iter:Expr}{t:la}{fs:FA}
noncomputable def wC:PV->Option (List PV)
 |.tup ps=>some ps
 |.ktu ps=>some ps
 |_=>none
theorem DZ {K:PySem.W.Frag}{F:Hp}{p:PV}{ps:List PV}{v:V}(h:wC p=some ps)(r:Rep K F p v):∃a vs,v=.ref a/\SqT K F a vs/\Reps K F ps vs:=by
 cases p with
 |tup qs=>cases h;obtain⟨a,vs,e1,e2,rs⟩:=r;exact⟨a,vs,e1,SqT.of e2,rs⟩
 |ktu qs=>cases h;exact r
 |_=>cases h
noncomputable def Ll (t:la):uK:=fun ρ Q=>t ρ fun ps=>∃p qs,ps=[p]/\wC p=some qs/\Q (gx 0 qs)
theorem AE (h:PI X tg iter (yH X.K (lA X.K t))):EH X tg iter (Ll t):=PI.weak h fun σ H R hh=>by
 obtain⟨F,ρ,Qp,er,q,k⟩:=hh
 refine⟨F,ρ,_,er,q,fun ps vs F1 H1 h1 g1 r1=>?_⟩
 obtain⟨p,qs,rfl,hp,h⟩:=h1
 obtain⟨v,r,rfl,r1,er'⟩:=r1
 cases (show r=[] from er')
 obtain⟨a,vs,rfl,hs,rs⟩:=DZ hp r1
 refine⟨a,rfl,⟨vs,AT g1.fh hs⟩,k _ _ F1 H1 h g1 fun F2 H2 i s1 s2=>?_⟩
 have h2:=AT (s1.trans s2) hs
 refine⟨fun p e=>?_,fun hl=>⟨vs,h2,by rw[rs.length];rw[sZ] at hl;exact hl⟩⟩
 rw[tP] at e
 obtain⟨p',e1,rfl⟩:=Option.map_eq_some_iff.mp e
 obtain⟨v,ev,rv⟩:=rs.get e1
 refine⟨⟨vs,v,h2,ev⟩,fun x H3 hy=>?_⟩
 obtain⟨q,y,ex,hq,e2,hy⟩:=hy
 subst ex e2
 have:=hy vs h2
 rw[ev] at this
 cases this
 refine⟨L2.upd F2 q (.tup [.int i,v]),.new s2 hq _,q,[.int i,v],rfl,aq,?_⟩
 refine⟨_,_,rfl,?_,_,_,rfl,(rv.mono s1).mono (bU (s2.free hq) _),rfl⟩
 show V.int i=V.int ((0+i:Nat):Int)
 rw[Nat.zero_add]
noncomputable def m9 (fs:FA):FI:=fun ρ=>(fs ρ).bind fun rs=>(rs.mapM RV.fr).bind fun ps=>match ps with
 |[p]=>(wC p).map (gx 0)
 |_=>none
theorem zt (h:PI X tg iter (yH X.K (lA X.K (Mk fs)))):DI X tg iter (m9 fs):=rb (AE h) fun ρ Q hh=>by
 obtain⟨its,e,q⟩:=hh
 obtain⟨rs,e1,e⟩:=Option.bind_eq_some_iff.mp e
 obtain⟨ps,e2,e⟩:=Option.bind_eq_some_iff.mp e
 split at e
 ·next p=>
  obtain⟨qs,e3,rfl⟩:=Option.map_eq_some_iff.mp e
  exact⟨rs,_,e1,e2,_,_,rfl,e3,q⟩
 ·cases e
structure KTup (K:PySem.W.Frag)(a:Addr)(ps:List PV):Prop where
 it:∃vs,∀F,SqT K F a vs/\Reps K F ps vs
theorem PJ {x:Str}{a:Addr}{ps:List PV}{pos:Pos}(hg:Gl X x)(hm:X.mg x=some (.ref a))(h:KTup X.K a ps)(hd:(x==("__debug__" : Str))=false:=by decide):iY X (.Name x pos) (pC (.ktu ps)):=
 PE.weak (nJ (v:=.ref a) hg hm rfl hd) fun σ H Q hh=>by
  obtain⟨F,ρ,Qp,er,q,k⟩:=hh
  obtain⟨vs,hv⟩:=h.it
  exact k (.ktu ps) _ F H q (.refl er.fz) ⟨a,vs,rfl,(hv F).1,(hv F).2⟩
inductive TupEs:List Value->List PV->List V->Prop where
 |nil:TupEs [] [] []
 |str {x:Str} {t:Tok} {us:List Value} {ps:List PV} {vs:List V}:TupEs us ps vs->TupEs (.str x t::us) (.str x::ps) (.str x::vs)
 |int {x:Int} {t:Tok} {us:List Value} {ps:List PV} {vs:List V}:TupEs us ps vs->TupEs (.int x t::us) (.int x::ps) (.int x::vs)
theorem TupEs.ok {K:PySem.W.Frag}{F:Hp}:∀{us:List Value} {ps:List PV} {vs:List V},TupEs us ps vs->Vals vs us/\Reps K F ps vs
 |_,_,_,.nil=>⟨.nil,rfl⟩
 |_,_,_,.str h=>⟨.cons ⟨_,rfl⟩ (h.ok (K:=K) (F:=F)).1,_,_,rfl,rfl,(h.ok (K:=K) (F:=F)).2⟩
 |_,_,_,.int h=>⟨.cons ⟨_,rfl⟩ (h.ok (K:=K) (F:=F)).1,_,_,rfl,rfl,(h.ok (K:=K) (F:=F)).2⟩
theorem Gf {K:PySem.W.Frag}{a:Addr}{ps:List PV}{vs:List V}{us:Array Value}{n:Nat}{d:Option Addr}{sl:Array (Option Value)}(l:K.lookup a=some ⟨.type "tuple",d,.seq us n,sl⟩)(h:TupEs us.toList ps vs)(hz:us.size≤sizeLine):KTup K a ps:=
 ⟨vs,fun F=>⟨.inr ⟨_,us,n,l,rfl,rfl,hz,(h.ok (K:=K) (F:=F)).1⟩,h.ok.2⟩⟩
end
end Dp
end
section
namespace Dp
open PySem PySem.Spec L2 Pu
section
variable {X:Cx}{st:Stmt}{i:Nat}
noncomputable def m6:List PV->Option RV
 |[p]=>(items p).bind fun ps=>(fW ps).bind fun is=>if is.length<64 then some (.nw ((qE is).map PV.int)) else none
 |_=>none
noncomputable def xr:Iw:=fun ps Q=>One ps fun p=>OkS p fun ps=>∃is,fW ps=some is/\is.length<64/\Q ((qE is).map PV.int)
theorem jZ {K:PySem.W.Frag}{F:Hp}:∀is:List Int,Reps K F (is.map PV.int) (is.map V.int)
 |[]=>rfl
 |i::is=>⟨.int i,_,rfl,rfl,jZ is⟩
theorem yM:AY X.K (fun xs H Q=>∃p is,xs=[.ref p]/\(SqL X.K H p (is.map V.int)\/SqT X.K H p (is.map V.int))/\is.length<64/\∀l,H l=none->Q (.ref l) (upd H l (.lst ((qE is).map V.int)))) xr:=fun F H xs ps Qp Q s r h k=>by
 obtain⟨p,v,rfl,rfl,r,h⟩:=h.rd r
 obtain⟨a,vs,ps,rfl,hs,ei,rs,is,e,h64,h⟩:=h.rd s r
 rw[ub e] at rs
 rw[qb rs] at hs
 exact⟨a,is,rfl,hs,h64,fun l hl=>k _ l _ F _ h (.newO s hl _) hl (s.free hl) aq (jZ _)⟩
theorem Bb:∀ps r,m6 ps=some r->∃p,r=.nw p/\xr ps (fun z=>z=p):=fun ps r h=>by
 unfold m6 at h
 split at h
 ·obtain⟨qs,e1,h⟩:=Option.bind_eq_some_iff.mp h
  obtain⟨is,e2,h⟩:=Option.bind_eq_some_iff.mp h
  split at h
  ·next z=>
   cases h
   refine⟨_,rfl,?_⟩
   show OkS _ _
   unfold OkS
   rw[e1]
   exact⟨is,e2,z,rfl⟩
  ·cases h
 ·cases h
theorem xn {K:PySem.W.Frag}{F:Hp}:∀{ps:List PV} {vs:List V},Reps K F ps vs->Reps K F ps.reverse vs.reverse
 |[],_,h=>by rw[show _=[] from h];rfl
 |p::ps,_,⟨v,r,e,h,t⟩=>by
  rw[e,List.reverse_cons,List.reverse_cons]
  exact (xn t).app (.one h)
noncomputable def D4 (i:Nat):FS:=fun ρ=>match sl ρ i with
 |some (.own ps)=>.nx (ρ.set i (some (.own ps.reverse)))
 |_=>.bad
noncomputable def N0 (i:Nat):kn:=fun D ρ=>go ρ i fun ps=>D.nx (ρ.set i (some (.own ps.reverse)))
theorem EO (h:PS X st (cc (LE X.K "list" qX (cL i)))):oM X st (N0 i):=PS.weak h fun D σ H hh_=>hh_.elim fun F0 H0 F ρ Dp br h ft=>by
 obtain⟨ps,e,h⟩:=h.ex
 obtain⟨a,vs,ev,o,h1,h2,h3⟩:=br.ownAt e
 exact⟨_,ev,.inl ⟨rfl,vs,SqL.of h1⟩,a,vs,rfl,rfl,h1,ft.nx F _ σ _ h (br.mut (s:=.own _) o rfl ⟨a,_,rfl,aq,h2,xn h3⟩)⟩
theorem Mc (h:PS X st (cc (LE X.K "list" qX (cL i)))):DS X st (D4 i):=cg (EO h) fun D ρ q=>by
 unfold rV D4 at q
 split at q
 ·next ps e1=>
  unfold N0 go
  rw[kB e1]
  exact q
 ·exact q.elim
end
end Dp
end
section
namespace Dp
open PySem PySem.Spec L2 Pu
noncomputable def IH (K:PySem.W.Frag)(F H:Hp)(J:It)(its:List PV):Prop:=∀F1 H1 (i:Nat),Same F F1->Same F1 H1->Same H H1 →
 (∀p,its[i]?=some p->J.go i H1/\∀x H2,J.yld i H1 x H2->∃F2,Grow F1 H1 F2 H2/\Rep K F2 p x)/\(its.length≤i->J.stop i H1)
noncomputable def lIc (K:PySem.W.Frag)(ti:uK):TI:=fun σ H R=>∃F ρ,∃Qp:List PV->Prop,ER K F H σ ρ/\ti ρ Qp/\∀its J F' H',Qp its->Grow F H F' H'->IH K F' H' J its->R J H'
theorem lIc.elim {K:PySem.W.Frag}{ti:uK}{σ:St}{H:Hp}{R}{C:Prop}(h:lIc K ti σ H R)(k:∀F ρ (Qp:List PV->Prop),ER K F H σ ρ->ti ρ Qp->(∀its J F' H',Qp its->Grow F H F' H'->IH K F' H' J its->R J H')->C):C:=by obtain⟨F,ρ,Qp,a,b,c⟩:=h;exact k F ρ Qp a b c
section
variable {X:Cx}{e l tg iter:Expr}{te tl:gU}{f:FE}
theorem Br (hl:kZ X l tl):PI X tg l (lIc X.K (Nz tl)):=PI.weak (zR hl) fun σ H R hh_=>hh_.elim fun F ρ Qp er q k=>⟨F,ρ,_,er,q,fun p v F1 H1 h1 g1 r1=>by
 obtain⟨a,vs,ps,rfl,hs,rs,h⟩:=OkL.rd h1 g1.fh r1
 refine⟨a,rfl,⟨vs,hs⟩,k ps _ F1 H1 h g1 fun F2 H2 i s1 s2 s3=>?_⟩
 have h2:=s3.seq hs
 refine⟨fun p e=>?_,fun hl=>⟨vs,h2,by rw[rs.length];exact hl⟩⟩
 obtain⟨v,ev,rv⟩:=rs.get e
 refine⟨⟨vs,v,h2,ev⟩,fun x H3 y=>?_⟩
 obtain⟨e2,y⟩:=y
 subst e2
 have:=y vs h2
 rw[ev] at this
 cases this
 exact⟨F2,.refl s2,rv.mono s1⟩⟩
theorem xU {K:PySem.W.Frag}{fm:List (Option Nat)}{ti:uK}{g0:TG}{g:vS}{tc:nr}(hg:ke K g0 g):∀σ H Q,lN K (wT fm ti g tc te) σ H Q->kN fm (lIc K ti) g0 (lB K tc) (lE K te) σ H Q:=fun σ H Q hh_=>hh_.elim fun F ρ Qp er q k=>
 ⟨F,ρ,_,er,q,fun its J F1 H1 hq g1 it=>by
  obtain⟨hlen,h1⟩:=hq
  refine⟨fun i ys H'=>∃F' acc,Grow F1 H1 F' H'/\Reps K F' acc ys/\i≤its.length/\acc.length≤i/\L5 g tc te (lr fm ρ) (its.drop i) acc Qp,its.length,⟨F1,[],.refl g1.fh,rfl,Nat.zero_le _,Nat.le_refl _,h1⟩,?_,?_⟩
  ·rintro i ys H' ⟨F',acc,g2,rs,hi,ha,_⟩
   refine⟨hi,tq ?_⟩
   rw[rs.length];omega
  ·rintro i ys H' ⟨F',acc,g2,rs,hi,ha,h2⟩
   obtain⟨it1,it2⟩:=it F' H' i g2.ff g2.fh g2.hh
   by_cases hl:i<its.length
   ·obtain⟨go,yl⟩:=it1 _ (List.getElem?_eq_getElem hl)
    refine .inr ⟨go,fun x H2 hy=>?_⟩
    obtain⟨F2,g3,rx⟩:=yl x H2 hy
    rw[List.drop_eq_getElem_cons hl] at h2
    have er2:ER K F2 H2 (dc fm σ) (lr fm ρ):=(er.grow ((g1.trans g2).trans g3)).sub fm
    refine hg F2 H2 (dc fm σ) (lr fm ρ) _ x _ _ g3.fh rx h2 fun σ2 ρ2 h3 u=>?_
    refine⟨F2,ρ2,_,er2.upd u,h3,fun b F3 H3 h4 g4=>?_⟩
    cases b with
    |true=>
     rw[if_pos rfl] at h4 ⊢
     refine⟨F3,ρ2,_,(er2.upd u).grow g4,h4,fun y v F4 H4 h5 g5 ry=>?_⟩
     have gg:=((g2.trans g3).trans g4).trans g5
     exact⟨F4,acc++[y],gg,(rs.mono ((g3.ff.trans g4.ff).trans g5.ff)).app (.one ry),hl,by rw[List.length_append];simp;omega,h5⟩
    |false=>
     rw[if_neg Bool.false_ne_true] at h4 ⊢
     exact⟨F3,acc,(g2.trans g3).trans g4,rs.mono (g3.ff.trans g4.ff),hl,by omega,h4⟩
   ·have e:its.drop i=[]:=List.drop_eq_nil_of_le (by omega)
    rw[e] at h2
    exact .inl ⟨it2 (by omega),fun l hl=>k acc l ys F' _ h2 ((g1.trans g2).trans (.newO g2.fh hl _)) ((g1.trans g2).hh.free hl) (g2.fh.free hl) aq rs⟩⟩
noncomputable def QG (X:Cx)(tg iter:Expr)(f:FI):Prop:=PI X tg iter (lIc X.K (JH f))
noncomputable def Fz (f:FE):FI:=fun ρ=>(f ρ).bind fun r=>iN r.pv
theorem K5 (h:DE X iter f):QG X tg iter (Fz f):=PI.weak (Br h.tt) fun σ H R hh_=>hh_.elim fun F ρ Qp er q k=>by
 obtain⟨its,e,q⟩:=q
 obtain⟨r,e1,e⟩:=Option.bind_eq_some_iff.mp e
 exact⟨F,ρ,Qp,er,⟨r,e1,re e q⟩,k⟩
theorem HS {fm:List (Option Nat)}{it:FI}{h0:TG}{t:FT}{c:FB}(hg:ke X.K h0 (qT t))(h:PE X e (kN fm (lIc X.K (JH it)) h0 (lB X.K (EJ c)) (lE X.K (tF f)))):DE X e (gH fm it t c f):=.ofN (PE.weak h (xU hg)) fun ρ r e=>uG e
end
end Dp
end
section
namespace Dp
open PySem PySem.Spec L2 Pu
section
variable {X:Cx}{e:Expr}{es:List Expr}{p pos apos cpos:Pos}{f:FE}{fs:FA}{x:Str}{ps:List PV}{kvs:List (Str×Int)}
noncomputable def mU:List PV->Option RV
 |[.rng lo j]=>if lo=0/\0≤j/\j≤1000000 then some (.fz (.tup (vQ 0 j.toNat))) else none
 |_=>none
noncomputable def Ix:A0:=fun ps Q=>One ps fun p=>P6 p fun j=>0≤j/\j≤1000000/\Q (.tup (vQ 0 j.toNat))
theorem GY:rg X.K (fun xs H Q=>∃p j,xs=[.ref p]/\H p=some (.rng 0 j)/\0≤j/\j≤1000000/\∀l,H l=none->Q (.ref l) (upd H l (.tup (qm j.toNat)))) Ix:=fun F H xs ps Qp Q s r h k=>by
 obtain⟨p,v,rfl,rfl,r,h⟩:=h.rd r
 cases p<;>first|exact h.elim|skip
 obtain⟨rfl,h1,h2,h⟩:=h
 cases r with
 |frz r=>
  obtain⟨a,rfl,e⟩:=r
  exact⟨a,_,rfl,s _ _ e,h1,h2,fun l hl=>k _ _ _ _ h (.new s hl _) ⟨l,_,rfl,aq,o0 _⟩⟩
theorem BY:∀ps r,mU ps=some r->∃p,r=.fz p/\Ix ps (fun z=>z=p):=fun ps r h=>by
 unfold mU at h
 split at h
 ·split at h
  ·next z=>cases h;exact⟨_,rfl,z.1,z.2.1,z.2.2,rfl⟩
  ·cases h
 ·cases h
theorem DM (hm:X.mg "tuple" = none)(ha:DA X (e::es) fs)(hc:X.calm=true:=by rfl)(hg:Gl X "tuple":=by rfl)(he:starEach (e::es) X.env=(false,eval e X.env)::starEach es X.env:=by rfl)(hpl:(backTo pos (starEach es X.env)).any (·.1)=false:=by rfl) :
  DE X (.Call (.Name "tuple" p) (e::es) [] pos) (fB mU fs):=dE GY BY (aU (qU hc) hg hm ci ha.t (by decide) (by decide) he hpl)
theorem Mx (h:∃a,X.mg x=some (.ref a)/\KTup X.K a ps)(hg:Gl X x:=by rfl)(hd:(x==("__debug__" : Str))=false:=by decide):DE X (.Name x pos) (fC (.ktu ps)):=by
 obtain⟨a,h1,h2⟩:=h
 exact x9 (PJ hg h1 h2 hd)
end
end Dp
namespace Dp
open PySem PySem.Spec L2 Pu
section
variable {X:Cx}{st:Stmt}{i j:Nat}{f1 f2:FE}
noncomputable def NP (i j:Nat)(n1 n2:vj):kn:=fun D ρ=>n1 ρ fun ps=>n2 ρ fun qs=>D.nx ((ρ.set i (some (.own ps))).set j (some (.own qs)))
theorem CG {n1 n2:vj}(h:PS X st (fY i j (bI (lN X.K n1) (bI (lN X.K n2) eN)))):oM X st (NP i j n1 n2):=PS.weak h fun D σ H hh_=>hh_.elim fun F0 H0 F ρ Dp br h ft=>
 ⟨F,ρ,_,br.er,h,fun ps a vs F1 H1 h1 g1 h0 hF hH r1=>⟨F1,ρ,_,(br.grow g1).er,h1,fun qs b ws F2 H2 h2 g2 k0 kF kH r2=>⟨_,_,rfl,ft.nx F2 H2 _ _ h2 ((br.setN g1 h0 hF hH r1).setN g2 k0 kF kH r2)⟩⟩⟩
noncomputable def qJ (i j:Nat)(f1 f2:FE):FS:=fun ρ=>match f1 ρ,f2 ρ with
 |some (.nw ps),some (.nw qs)=>.nx ((ρ.set i (some (.own ps))).set j (some (.own qs)))
 |_,_=>.bad
theorem C9 (h:PS X st (fY i j (bI (lN X.K (tN f1)) (bI (lN X.K (tN f2)) eN)))):DS X st (qJ i j f1 f2):=cg (CG h) fun D ρ q=>by
 unfold rV qJ at q
 split at q
 ·next ps qs e1 e2=>exact⟨_,e1,_,e2,q⟩
 ·exact q.elim
end
end Dp
end
section
namespace Dp
open PySem PySem.Spec L2 Pu
noncomputable abbrev oA:=List (Addr×(List PV->Option PR))
noncomputable def look:oA->Addr->Option (List PV->Option PR)
 |[],_=>none
 |(b,F)::t,a=>if a=b then some F else look t a
theorem Mi {b a:Addr}{F G:List PV->Option PR}(h:look [(b,F)] a=some G):a=b/\G=F:=by
 unfold look at h
 split at h
 ·cases h;exact⟨by assumption,rfl⟩
 ·cases h
theorem GA {b:Addr}{F:List PV->Option PR}:look [(b,F)] b=some F:=by unfold look;rw[if_pos rfl]
section
variable {X:Cx}{e:Expr}{es:List Expr}{p pos:Pos}{fs:FA}{x:Str}{i j k:Nat}{qs:List Str}{t:oA}{a:Addr}
theorem Po (hm:X.mg x=some (.ref a))(hg:Gl X x:=by rfl)(hd:(x==("__debug__" : Str))=false:=by decide):DE X (.Name x pos) (fC (.fn a)):=x9 (nE (p:=.fn a) (nJ (v:=.ref a) hg hm rfl hd))
noncomputable def vE (t:oA)(o:Option Sl)(as:Option (List PV)):Option RV:=match o,as with
 |some (.val (.fn a)),some ps=>(look t a).bind fun F=>(F ps).map sL
 |_,_=>none
noncomputable def rM (t:oA)(i:Nat)(fs:FA):FE:=fun ρ=>vE t (sl ρ i) ((fs ρ).bind fun rs=>rs.mapM RV.fr)
theorem Fi (hd:∀a F,look t a=some F->DefA X.prog X.w X.K X.mg X.base j a qs (bE X.K (b6 F)))(hr:Room k X.A)(hN:X.N[i]?=some x)(ha:DA X (e::es) fs)(hv:L4 X.env.scope x:=by first|exact Or.inl rfl|exact Or.inr rfl)(hj:j≤k:=by decide)(hdb:(x==("__debug__" : Str))=false:=by decide)(hcd:(x==("__classdict__" : Str))=false:=by decide)
  (he:starEach (e::es) X.env=(false,eval e X.env)::starEach es X.env:=by rfl) (hpl:(backTo pos (starEach es X.env)).any (·.1)=false:=by rfl):DE X (.Call (.Name x p) (e::es) [] pos) (rM t i fs):=
 PE.weak (wE (D:=fun f sp=>∃F,look t f=some F/\sp=bE X.K (b6 F)) (fun f sp h=>by obtain⟨F,h1,rfl⟩:=h;exact hd f F h1) hr hN hv ha.f hj hdb hcd he hpl) fun σ H Q hh_=>hh_.elim fun F0 ρ r er e k=>by
  unfold rM vE at e
  split at e
  ·next a ps es ep=>
   obtain⟨rs,e2,e3⟩:=Option.bind_eq_some_iff.mp ep
   obtain⟨F,e1,e⟩:=Option.bind_eq_some_iff.mp e
   obtain⟨q,e4,rfl⟩:=Option.map_eq_some_iff.mp e
   obtain⟨v,ev,rd⟩:=er.rd (kB es)
   have hs:=er.sl i _ (kB es)
   rw[ev] at hs
   obtain rfl:v=.ref a:=hs
   refine⟨a,_,ev,⟨F,e1,rfl⟩,F0,ρ,(fun z=>z=ps),er,⟨rs,ps,e2,e3,rfl⟩,fun ps' vs F1 H1 h1 g1 r1=>?_⟩
   subst h1
   refine⟨F1,ps',(fun z=>z=q),g1.fh,r1,⟨q,e4,rfl⟩,fun r v F2 H2 h2 g2 rr=>?_⟩
   subst h2
   refine k v F2 H2 (g1.trans g2) ?_
   cases r with
   |v p=>exact rr
   |n ps=>
    obtain⟨a,vs,rfl,h0,hF,hH,rs⟩:=rr
    exact⟨a,vs,rfl,g1.hh.free h0,hF,hH,rs⟩
  ·cases e
end
end Dp
end
section
namespace Dp
open PySem PySem.Spec L2 Pu
section
variable {X:Cx}{e a:Expr}{pos:Pos}{te:gU}{fa:FE}
noncomputable def OJ (te:gU)(tl th:AX):gU:=fun ρ Q=>te ρ fun p=>tl ρ fun l=>th ρ fun h=>OkT p fun ps=>(_root_.HT.sIx ps.length 0 l=0/\_root_.HT.sIx ps.length ps.length h=ps.length)/\Q (.tup ps)
theorem Ka {lo hi:Option Expr}{tl th:AX}{p2:Pos}(he:kZ X e te)(hl:DF X lo tl)(hh:DF X hi th):iY X (.Subscript e (.Slice lo hi none p2) pos) (OJ te tl th):=PE.weak (pY Hl he hl hh) fun σ H Q hh_=>hh_.elim fun F ρ Qp er q k=>⟨F,ρ,_,er,q,fun p v F1 H1 h1 g1 r1=>
 ⟨F1,ρ,_,er.grow g1,h1,fun l F2 H2 h2 g2=>⟨F2,ρ,_,(er.grow g1).grow g2,h2,fun h F3 H3 h3 g3=>by
  have gg:=(g1.trans g2).trans g3
  obtain⟨a,vs,ps,rfl,rfl,hF,rs,hn,q⟩:=h3.rd (r1.grow (g2.trans g3))
  exact⟨a,vs,rfl,SqT.of (gg.fh _ _ hF),by rw[rs.length];exact hn,k _ _ F3 H3 q gg ⟨a,vs,rfl,hF,rs⟩⟩⟩⟩⟩
noncomputable def Dw:PV->Option Int->Option Int->Option RV
 |.tup ps,l,h=>some (.fz (.tup (cut ps l h)))
 |_,_,_=>none
noncomputable def sD (fa:FE)(fl fh:FO):FE:=fun ρ=>(fa ρ).bind fun x=>(fl ρ).bind fun l=>(fh ρ).bind fun h=>Dw x.pv l h
theorem Ak {α:Type}{ps:List α}{l h:Option Int}(hw:_root_.HT.sIx ps.length 0 l=0/\_root_.HT.sIx ps.length ps.length h=ps.length):cut ps l h=ps:=by
 unfold cut
 rw[hw.1,hw.2,List.drop_zero,Nat.sub_zero,List.take_length]
theorem zY {lo hi:Option Expr}{fl fh:FO}{p2:Pos}(ha:DE X a fa)(hl:DO X lo fl)(hh:DO X hi fh):DE X (.Subscript a (.Slice lo hi none p2) pos) (sD fa fl fh):=.ofE (rj (D1 ha.tt hl hh) (Ka ha.tt hl hh)) fun ρ r e=>by
 obtain⟨x,e1,e⟩:=Option.bind_eq_some_iff.mp e
 obtain⟨l,e2,e⟩:=Option.bind_eq_some_iff.mp e
 obtain⟨h,e3,e⟩:=Option.bind_eq_some_iff.mp e
 cases q:x.pv with
 |tup ps=>
  rw[q] at e
  cases e
  by_cases z:_root_.HT.sIx ps.length 0 l=0/\_root_.HT.sIx ps.length ps.length h=ps.length
  ·refine⟨_,rfl,.inr ⟨x,e1,l,e2,h,e3,?_⟩⟩
   rw[q,Ak z];exact⟨z,rfl⟩
  ·refine⟨_,rfl,.inl ⟨x,e1,l,e2,h,e3,?_⟩⟩
   rw[q];exact⟨z,rfl⟩
 |_=>rw[q] at e;cases e
end
end Dp
end
section
namespace Dp
open PySem L2 Fo Pu
noncomputable def eO:FE:=(bQ (aa (fV 0) ah))
theorem mK {ρ:aC}:eO ρ=(bQ (aa (fV 0) ah)) ρ:=Eq.trans rfl rfl
noncomputable def bL:FB:=(fT (aj By (fV 1) (fV 0)))
theorem mH {ρ:aC}:bL ρ=(fT (aj By (fV 1) (fV 0))) ρ:=Eq.trans rfl rfl
noncomputable def aT:FE:=(fV 0)
theorem iP {ρ:aC}:aT ρ=(fV 0) ρ:=Eq.trans rfl rfl
noncomputable def cU:FB:=(fT (aj oX (fV 0) (bQ (aa (fV 1) (aa (fV 2) ah)))))
theorem mL {ρ:aC}:cU ρ=(fT (aj oX (fV 0) (bQ (aa (fV 1) (aa (fV 2) ah))))) ρ:=Eq.trans rfl rfl
noncomputable def db:FS:=(al (aZ 5 (aj be (gH [none,some 3] (ph (fV 2)) (gN 0) bL aT) (fC (.int 0))))
  (al (aZ 6 (aj be (gH [none,some 4] (ph (fV 2)) (gN 0) bL aT) (fC (.int 0))))
  (fA (fT (aj iw (fV 5) (fV 6))) (aZ 2 (aj bo (gH [none,some 5,some 6] (ph (fV 2)) (gN 0) cU aT) (eV (aa (fB iV (aa (fB m6 (aa (aj bo (fV 5) (fV 6)) ah)) ah)) ah)))) aK)))
theorem iS {ρ:aC}:db ρ=(al (aZ 5 (aj be (gH [none,some 3] (ph (fV 2)) (gN 0) bL aT) (fC (.int 0))))
  (al (aZ 6 (aj be (gH [none,some 4] (ph (fV 2)) (gN 0) bL aT) (fC (.int 0))))
  (fA (fT (aj iw (fV 5) (fV 6))) (aZ 2 (aj bo (gH [none,some 5,some 6] (ph (fV 2)) (gN 0) cU aT) (eV (aa (fB iV (aa (fB m6 (aa (aj bo (fV 5) (fV 6)) ah)) ah)) ah)))) aK))) ρ:=Eq.trans rfl rfl
noncomputable def hV:FS:=(al (aZ 2 (gH [none] (r6 oQ (aa (fV 0) ah)) (gN 0) lQ eO))
  (al (ig (ph (fV 1)) (iR 2 (gC (gN 3) (gC (gN 4) g0))) db)
  (aV (fB mz (aa (fV 2) ah)))))
theorem nc {ρ:aC}:hV ρ=(al (aZ 2 (gH [none] (r6 oQ (aa (fV 0) ah)) (gN 0) lQ eO))
  (al (ig (ph (fV 1)) (iR 2 (gC (gN 3) (gC (gN 4) g0))) db)
  (aV (fB mz (aa (fV 2) ah))))) ρ:=Eq.trans rfl rfl
noncomputable def b9:List PV->Option PR:=run 2 7 hV
theorem oz {a0 a1:PV}:b9 [a0,a1]=(hV [some (.val a0),some (.val a1),none,none,none,none,none]).res:=Eq.trans rfl rfl
noncomputable def jb:FS:=(fA (eR (fT (ap fE (aa (fV 0) ah)))) nb aK)
theorem jV {ρ:aC}:jb ρ=(fA (eR (fT (ap fE (aa (fV 0) ah)))) nb aK) ρ:=Eq.trans rfl rfl
noncomputable def b5:List PV->Option PR:=run 1 1 jb
theorem md {a0:PV}:b5 [a0]=(jb [some (.val a0)]).res:=Eq.trans rfl rfl
noncomputable def eJ:FS:=(aV (kO (fB g7 (aa (fV 0) (aa (fC (.ty "str")) ah))) (sU (aj By (fV 0) (fC (.ktu [.str "size",.str "rank",.str "told",.str "names"]))))))
theorem jY {ρ:aC}:eJ ρ=(aV (kO (fB g7 (aa (fV 0) (aa (fC (.ty "str")) ah))) (sU (aj By (fV 0) (fC (.ktu [.str "size",.str "rank",.str "told",.str "names"])))))) ρ:=Eq.trans rfl rfl
noncomputable def bc:List PV->Option PR:=run 1 1 eJ
theorem kW {a0:PV}:bc [a0]=(eJ [some (.val a0)]).res:=Eq.trans rfl rfl
noncomputable def je:FS:=(fA (eR (fT (ap bc (aa (fV 0) ah)))) nb aK)
theorem oF {ρ:aC}:je ρ=(fA (eR (fT (ap bc (aa (fV 0) ah)))) nb aK) ρ:=Eq.trans rfl rfl
noncomputable def d5:List PV->Option PR:=run 1 1 je
theorem p8 {a0:PV}:d5 [a0]=(je [some (.val a0)]).res:=Eq.trans rfl rfl
noncomputable def jD:FS:=(al (eg (ap b5 (aa (fV 0) ah)))
  (al (eg (ap d5 (aa (fV 1) ah)))
  (al (eg (ap cy (aa (fV 2) ah)))
  (al (aZ 3 (L0 (fT (aj dB (fV 1) (fC (.str "size")))) (fC (.int 1)) (fC (.int 0))))
  (aV (bQ (aa (fV 1) (aa (fV 2) (aa (fB mU (aa (fB qD (aa (fV 0) ah)) ah)) (aa (aj eU (bQ (aa (fV 3) ah)) (fV 0)) ah))))))))))
theorem pJ {ρ:aC}:jD ρ=(al (eg (ap b5 (aa (fV 0) ah)))
  (al (eg (ap d5 (aa (fV 1) ah)))
  (al (eg (ap cy (aa (fV 2) ah)))
  (al (aZ 3 (L0 (fT (aj dB (fV 1) (fC (.str "size")))) (fC (.int 1)) (fC (.int 0))))
  (aV (bQ (aa (fV 1) (aa (fV 2) (aa (fB mU (aa (fB qD (aa (fV 0) ah)) ah)) (aa (aj eU (bQ (aa (fV 3) ah)) (fV 0)) ah)))))))))) ρ:=Eq.trans rfl rfl
noncomputable def dY:List PV->Option PR:=run 3 4 jD
theorem sM {a0 a1 a2:PV}:dY [a0,a1,a2]=(jD [some (.val a0),some (.val a1),some (.val a2),none]).res:=Eq.trans rfl rfl
noncomputable def cQ:FS:=(al (aZ 7 (DN (ap aF (aa (ap aX (aa (fV 0) (aa (aj bo (aj bo (fV 1) (fC (.int 1))) (aj jy (fV 6) (fC (.int 5)))) ah))) (aa (fC (.int 20)) ah))) (vv (aj eU (fC (.int 4)) (aj bn (fV 6) (fC (.int 5))))) uQ))
  (al (oC 8 9 (aa (aj bn (aj be (fV 7) (fC (.int 0))) (fV 2)) (aa (aj bn (aj be (fV 7) (fC (.int 1))) (fV 2)) ah)))
  (al (fA (fT (aj dB (aj bn (aj be (fV 4) (fC (.int 1))) (fC (.int 4))) (fC (.int 1)))) (oC 8 9 (aa (aj bn (fV 6) (fV 2)) (aa (aj bn (aj bo (fV 6) (fC (.int 1))) (fV 2)) ah))) aK)
  (al (fA (gY (fT (aj dB (aj bn (aj be (fV 4) (fC (.int 1))) (fC (.int 4))) (fC (.int 2)))) (fT (aj Df (aj bn (aj be (fV 7) (fC (.int 2))) (fC (.int 3))) (fC (.int 0))))) (al (aZ 8 (aj bn (aj eU (aj jy (fV 8) (fC (.int 2))) (fC (.int 2))) (fV 2)))
  (aZ 9 (fB tD (aa (aj vY (fV 2) (fC (.int 1))) (aa (aj bo (fV 8) (fC (.int 1))) ah))))) aK)
  (al (fA (gY (fT (aj iw (fV 5) (eV ah))) (fT (aj dB (aj bn (aj be (fV 7) (fC (.int 2))) (fC (.int 7))) (fC (.int 1))))) (fM (aj be (fV 5) (aj bn (aj be (fV 7) (fC (.int 3))) (fB gX (aa (fV 5) ah)))) (iR 2 (gC (gN 8) (gC (gN 9) g0)))) aK)
  (kX 5 (aa (aj be (eV (aa (bQ (aa (fV 8) (aa (fV 9) ah))) (aa (bQ (aa (fV 9) (aa (fV 8) ah))) ah))) (aj bn (aj jy (aj be (fV 7) (fC (.int 2))) (fC (.int 7))) (fC (.int 2)))) ah)))))))
noncomputable def jj:FS:=(al (aZ 4 (ap aF (aa (ap aX (aa (fV 0) (aa (fV 1) ah))) (aa (fC (.int 4)) ah))))
  (al (jl 5 (eV ah))
  (al (ig (r6 oQ (aa (aj bn (aj be (fV 4) (fC (.int 0))) (aj bo (fV 3) (fC (.int 1)))) ah)) (gN 6) cQ)
  (aV (fB iV (aa (fV 5) ah))))))
theorem oV {ρ:aC}:jj ρ=(al (aZ 4 (ap aF (aa (ap aX (aa (fV 0) (aa (fV 1) ah))) (aa (fC (.int 4)) ah))))
  (al (jl 5 (eV ah))
  (al (ig (r6 oQ (aa (aj bn (aj be (fV 4) (fC (.int 0))) (aj bo (fV 3) (fC (.int 1)))) ah)) (gN 6) cQ)
  (aV (fB iV (aa (fV 5) ah)))))) ρ:=Eq.trans rfl rfl
noncomputable def b7:List PV->Option PR:=run 4 10 jj
theorem qG {a0 a1 a2 a3:PV}:b7 [a0,a1,a2,a3]=(jj [some (.val a0),some (.val a1),some (.val a2),some (.val a3),none,none,none,none,none,none]).res:=Eq.trans rfl rfl
noncomputable def gL:FS:=(jv 0 (fV 5) (fV 4))
theorem oB {ρ:aC}:gL ρ=(jv 0 (fV 5) (fV 4)) ρ:=Eq.trans rfl rfl
noncomputable def cB:FB:=(fT (aj iw (aj be (fV 0) (fV 7)) (fV 7)))
theorem fG {ρ:aC}:cB ρ=(fT (aj iw (aj be (fV 0) (fV 7)) (fV 7))) ρ:=Eq.trans rfl rfl
noncomputable def cE:FS:=(al (aZ 8 (aj be (fV 0) (fV 7)))
  (al (jv 0 (fV 7) (aj be (fV 0) (fV 8)))
  (al (aZ 7 (aj be (eV (aa (fV 8) (aa (aj be (fV 0) (fV 7)) ah))) (fB oa (aa (aj dB (fV 1) (fC (.str "halves"))) ah))))
  (aZ 6 (aj bo (fV 6) (fC (.int 1)))))))
theorem j0 {ρ:aC}:cE ρ=(al (aZ 8 (aj be (fV 0) (fV 7)))
  (al (jv 0 (fV 7) (aj be (fV 0) (fV 8)))
  (al (aZ 7 (aj be (eV (aa (fV 8) (aa (aj be (fV 0) (fV 7)) ah))) (fB oa (aa (aj dB (fV 1) (fC (.str "halves"))) ah))))
  (aZ 6 (aj bo (fV 6) (fC (.int 1))))))) ρ:=Eq.trans rfl rfl
noncomputable def jK:FS:=(al (jl 0 (fB fg (aa (fV 0) ah)))
  (al (aZ 3 (ap cF (aa (fV 0) (aa (fV 2) ah))))
  (al (aZ 4 (aj be (fV 3) (jP (fC (.int 1)))))
  (al (fA (kT (fT (aj dB (fV 1) (fC (.str "none")))) (kT (fT (aj dB (fV 1) (fC (.str "whole")))) (fT (aj dB (fV 1) (fC (.str "one")))))) (al (fA (fT (aj dB (fV 1) (fC (.str "whole")))) (ig (ph (fV 3)) (gN 5) gL) aK)
  (al (fA (fT (aj dB (fV 1) (fC (.str "one")))) (jv 0 (fV 2) (aj be (fV 0) (aj be (fV 0) (fV 2)))) aK)
  (aV (bQ (aa (fV 4) (aa (fB iV (aa (fV 0) ah)) (aa (aj vY (fB gX (aa (fV 3) ah)) (fC (.int 1))) ah))))))) aK)
  (al (aZ 6 (fC (.int 0)))
  (al (aZ 7 (fV 2))
  (al (lK cB cE)
  (aV (bQ (aa (fV 4) (aa (fB iV (aa (fV 0) ah)) (aa (fV 6) ah))))))))))))
theorem d9 {ρ:aC}:jK ρ=(al (jl 0 (fB fg (aa (fV 0) ah)))
  (al (aZ 3 (ap cF (aa (fV 0) (aa (fV 2) ah))))
  (al (aZ 4 (aj be (fV 3) (jP (fC (.int 1)))))
  (al (fA (kT (fT (aj dB (fV 1) (fC (.str "none")))) (kT (fT (aj dB (fV 1) (fC (.str "whole")))) (fT (aj dB (fV 1) (fC (.str "one")))))) (al (fA (fT (aj dB (fV 1) (fC (.str "whole")))) (ig (ph (fV 3)) (gN 5) gL) aK)
  (al (fA (fT (aj dB (fV 1) (fC (.str "one")))) (jv 0 (fV 2) (aj be (fV 0) (aj be (fV 0) (fV 2)))) aK)
  (aV (bQ (aa (fV 4) (aa (fB iV (aa (fV 0) ah)) (aa (aj vY (fB gX (aa (fV 3) ah)) (fC (.int 1))) ah))))))) aK)
  (al (aZ 6 (fC (.int 0)))
  (al (aZ 7 (fV 2))
  (al (lK cB cE)
  (aV (bQ (aa (fV 4) (aa (fB iV (aa (fV 0) ah)) (aa (fV 6) ah)))))))))))) ρ:=Eq.trans rfl rfl
noncomputable def cn:List PV->Option PR:=run 3 9 jK
theorem fL {a0 a1 a2:PV}:cn [a0,a1,a2]=(jK [some (.val a0),some (.val a1),some (.val a2),none,none,none,none,none,none]).res:=Eq.trans rfl rfl
noncomputable def iM:FS:=(al (qJ 1 2 (fB fg (aa (fV 1) ah)) (fB fg (aa (fV 2) ah)))
  (al (oC 5 6 (aa (fV 3) (aa (fV 4) ah)))
  (al (fA (kT (gY (fT (aj By (fV 0) (bQ (aa (fC (.str "size")) (aa (fC (.str "rank")) ah))))) (fT (aj Df (aj be (fV 2) (fV 4)) (aj be (fV 2) (fV 3))))) (gY (fT (aj dB (fV 0) (fC (.str "names")))) (fT (aj BN (fV 4) (fV 3))))) (oC 5 6 (aa (fV 4) (aa (fV 3) ah))) aK)
  (al (jv 1 (fV 6) (fV 5))
  (al (fA (fT (aj dB (fV 0) (fC (.str "size")))) (jv 2 (fV 5) (aj bo (aj be (fV 2) (fV 5)) (aj be (fV 2) (fV 6)))) aK)
  (al (fA (gY (fT (aj dB (fV 0) (fC (.str "rank")))) (fT (aj dB (aj be (fV 2) (fV 5)) (aj be (fV 2) (fV 6))))) (jv 2 (fV 5) (aj bo (aj be (fV 2) (fV 5)) (fC (.int 1)))) aK)
  (aV (bQ (aa (fB iV (aa (fV 1) ah)) (aa (fB iV (aa (fV 2) ah)) ah))))))))))
theorem bq {ρ:aC}:iM ρ=(al (qJ 1 2 (fB fg (aa (fV 1) ah)) (fB fg (aa (fV 2) ah)))
  (al (oC 5 6 (aa (fV 3) (aa (fV 4) ah)))
  (al (fA (kT (gY (fT (aj By (fV 0) (bQ (aa (fC (.str "size")) (aa (fC (.str "rank")) ah))))) (fT (aj Df (aj be (fV 2) (fV 4)) (aj be (fV 2) (fV 3))))) (gY (fT (aj dB (fV 0) (fC (.str "names")))) (fT (aj BN (fV 4) (fV 3))))) (oC 5 6 (aa (fV 4) (aa (fV 3) ah))) aK)
  (al (jv 1 (fV 6) (fV 5))
  (al (fA (fT (aj dB (fV 0) (fC (.str "size")))) (jv 2 (fV 5) (aj bo (aj be (fV 2) (fV 5)) (aj be (fV 2) (fV 6)))) aK)
  (al (fA (gY (fT (aj dB (fV 0) (fC (.str "rank")))) (fT (aj dB (aj be (fV 2) (fV 5)) (aj be (fV 2) (fV 6))))) (jv 2 (fV 5) (aj bo (aj be (fV 2) (fV 5)) (fC (.int 1)))) aK)
  (aV (bQ (aa (fB iV (aa (fV 1) ah)) (aa (fB iV (aa (fV 2) ah)) ah)))))))))) ρ:=Eq.trans rfl rfl
noncomputable def cu:List PV->Option PR:=run 5 7 iM
theorem bR {a0 a1 a2 a3 a4:PV}:cu [a0,a1,a2,a3,a4]=(iM [some (.val a0),some (.val a1),some (.val a2),some (.val a3),some (.val a4),none,none]).res:=Eq.trans rfl rfl
noncomputable def jG:FS:=(al (fM (fV 0) (iR 4 (gC (gN 2) (gC (gN 3) (gC (gN 4) (gC (gN 5) g0))))))
  (al (fM (ap cn (aa (fV 4) (aa (fV 3) (aa (aj be (fV 1) (fC (.int 1))) ah)))) (iR 3 (gC (gN 6) (gC (gN 4) (gC (gN 7) g0)))))
  (al (fA (fT (aj dB (aj be (fV 1) (fC (.int 0))) (fC (.str "find")))) (aV (bQ (aa (bQ (aa (fV 2) (aa (fV 3) (aa (fV 4) (aa (fV 5) ah))))) (aa (fV 6) (aa (fV 7) ah))))) aK)
  (al (fM (ap cn (aa (fV 4) (aa (fV 3) (aa (aj be (fV 1) (fC (.int 2))) ah)))) (iR 3 (gC (gN 8) (gC (gN 4) (gC (gN 9) g0)))))
  (al (fA (fT (aj iw (fV 6) (fV 8))) (fM (ap cu (aa (fV 2) (aa (fV 4) (aa (fV 5) (aa (fV 6) (aa (fV 8) ah)))))) (iR 2 (gC (gN 4) (gC (gN 5) g0)))) aK)
  (aV (bQ (aa (bQ (aa (fV 2) (aa (fV 3) (aa (fV 4) (aa (fV 5) ah))))) (aa (aj iw (fV 6) (fV 8)) (aa (aj bo (fV 7) (fV 9)) ah))))))))))
theorem iI {ρ:aC}:jG ρ=(al (fM (fV 0) (iR 4 (gC (gN 2) (gC (gN 3) (gC (gN 4) (gC (gN 5) g0))))))
  (al (fM (ap cn (aa (fV 4) (aa (fV 3) (aa (aj be (fV 1) (fC (.int 1))) ah)))) (iR 3 (gC (gN 6) (gC (gN 4) (gC (gN 7) g0)))))
  (al (fA (fT (aj dB (aj be (fV 1) (fC (.int 0))) (fC (.str "find")))) (aV (bQ (aa (bQ (aa (fV 2) (aa (fV 3) (aa (fV 4) (aa (fV 5) ah))))) (aa (fV 6) (aa (fV 7) ah))))) aK)
  (al (fM (ap cn (aa (fV 4) (aa (fV 3) (aa (aj be (fV 1) (fC (.int 2))) ah)))) (iR 3 (gC (gN 8) (gC (gN 4) (gC (gN 9) g0)))))
  (al (fA (fT (aj iw (fV 6) (fV 8))) (fM (ap cu (aa (fV 2) (aa (fV 4) (aa (fV 5) (aa (fV 6) (aa (fV 8) ah)))))) (iR 2 (gC (gN 4) (gC (gN 5) g0)))) aK)
  (aV (bQ (aa (bQ (aa (fV 2) (aa (fV 3) (aa (fV 4) (aa (fV 5) ah))))) (aa (aj iw (fV 6) (fV 8)) (aa (aj bo (fV 7) (fV 9)) ah)))))))))) ρ:=Eq.trans rfl rfl
noncomputable def cS:List PV->Option PR:=run 2 10 jG
theorem jE {a0 a1:PV}:cS [a0,a1]=(jG [some (.val a0),some (.val a1),none,none,none,none,none,none,none,none]).res:=Eq.trans rfl rfl
noncomputable def ni:FS:=(aV (fB iV (aa (fB fg (aa (fV 0) ah)) ah)))
theorem uN {ρ:aC}:ni ρ=(aV (fB iV (aa (fB fg (aa (fV 0) ah)) ah))) ρ:=Eq.trans rfl rfl
noncomputable def iy:List PV->Option PR:=run 1 1 ni
theorem yW {a0:PV}:iy [a0]=(ni [some (.val a0)]).res:=Eq.trans rfl rfl
noncomputable def jN:FS:=(al (fM (fV 0) (iR 4 (gC (gN 2) (gC (gN 3) (gC (gN 4) (gC (gN 5) g0))))))
  (al (fM (ap gf (aa (fV 4) (aa (fV 3) (aa (fV 1) ah)))) (iR 3 (gC (gN 6) (gC (gN 7) (gC (gN 8) g0)))))
  (aV (bQ (aa (bQ (aa (fV 2) (aa (fV 3) (aa (fV 7) (aa (ap iy (aa (fV 5) ah)) ah))))) (aa (fV 6) (aa (fV 8) ah)))))))
theorem pF {ρ:aC}:jN ρ=(al (fM (fV 0) (iR 4 (gC (gN 2) (gC (gN 3) (gC (gN 4) (gC (gN 5) g0))))))
  (al (fM (ap gf (aa (fV 4) (aa (fV 3) (aa (fV 1) ah)))) (iR 3 (gC (gN 6) (gC (gN 7) (gC (gN 8) g0)))))
  (aV (bQ (aa (bQ (aa (fV 2) (aa (fV 3) (aa (fV 7) (aa (ap iy (aa (fV 5) ah)) ah))))) (aa (fV 6) (aa (fV 8) ah))))))) ρ:=Eq.trans rfl rfl
noncomputable def cz:List PV->Option PR:=run 2 9 jN
theorem se {a0 a1:PV}:cz [a0,a1]=(jN [some (.val a0),some (.val a1),none,none,none,none,none,none,none]).res:=Eq.trans rfl rfl
noncomputable def iF:FS:=(al (fA (fT (aj dB (fV 0) (fC (.str "told")))) (aV (fC (.bl true))) aK)
  (al (fA (fT (aj dB (fV 0) (fC (.str "names")))) (aV (aj BN (fV 2) (fV 3))) aK)
  (aV (aj LZ (aj be (fV 1) (fV 2)) (aj be (fV 1) (fV 3))))))
theorem eQ {ρ:aC}:iF ρ=(al (fA (fT (aj dB (fV 0) (fC (.str "told")))) (aV (fC (.bl true))) aK)
  (al (fA (fT (aj dB (fV 0) (fC (.str "names")))) (aV (aj BN (fV 2) (fV 3))) aK)
  (aV (aj LZ (aj be (fV 1) (fV 2)) (aj be (fV 1) (fV 3)))))) ρ:=Eq.trans rfl rfl
noncomputable def cq:List PV->Option PR:=run 4 4 iF
theorem fP {a0 a1 a2 a3:PV}:cq [a0,a1,a2,a3]=(iF [some (.val a0),some (.val a1),some (.val a2),some (.val a3)]).res:=Eq.trans rfl rfl
noncomputable def iK:FS:=(al (fA (fT (aj dB (fV 0) (fC (.str "size")))) (aV (aj bo (fV 1) (fV 2))) aK)
  (al (fA (gY (fT (aj dB (fV 0) (fC (.str "rank")))) (fT (aj dB (fV 1) (fV 2)))) (aV (aj bo (fV 1) (fC (.int 1)))) aK)
  (j3 1)))
theorem cR {ρ:aC}:iK ρ=(al (fA (fT (aj dB (fV 0) (fC (.str "size")))) (aV (aj bo (fV 1) (fV 2))) aK)
  (al (fA (gY (fT (aj dB (fV 0) (fC (.str "rank")))) (fT (aj dB (fV 1) (fV 2)))) (aV (aj bo (fV 1) (fC (.int 1)))) aK)
  (j3 1))) ρ:=Eq.trans rfl rfl
noncomputable def cr:List PV->Option PR:=run 3 3 iK
theorem d8 {a0 a1 a2:PV}:cr [a0,a1,a2]=(iK [some (.val a0),some (.val a1),some (.val a2)]).res:=Eq.trans rfl rfl
noncomputable def eM:FS:=(al (fM (fV 0) (iR 4 (gC (gN 3) (gC (gN 4) (gC (gN 5) (gC (gN 6) g0))))))
  (al (aZ 7 (ap cq (aa (fV 3) (aa (fV 6) (aa (fV 1) (aa (fV 2) ah))))))
  (al (fM (L0 (fT (fV 7)) (bQ (aa (fV 1) (aa (fV 2) ah))) (bQ (aa (fV 2) (aa (fV 1) ah)))) (iR 2 (gC (gN 8) (gC (gN 9) g0))))
  (al (jl 10 (fB fg (aa (fV 5) ah)))
  (al (jv 10 (fV 9) (fV 8))
  (al (jl 11 (fB fg (aa (fV 6) ah)))
  (al (jv 11 (fV 8) (ap cr (aa (fV 3) (aa (aj be (fV 6) (fV 8)) (aa (aj be (fV 6) (fV 9)) ah)))))
  (aV (bQ (aa (fV 3) (aa (fV 4) (aa (fB iV (aa (fV 10) ah)) (aa (fB iV (aa (fV 11) ah)) ah)))))))))))))
theorem gc {ρ:aC}:eM ρ=(al (fM (fV 0) (iR 4 (gC (gN 3) (gC (gN 4) (gC (gN 5) (gC (gN 6) g0))))))
  (al (aZ 7 (ap cq (aa (fV 3) (aa (fV 6) (aa (fV 1) (aa (fV 2) ah))))))
  (al (fM (L0 (fT (fV 7)) (bQ (aa (fV 1) (aa (fV 2) ah))) (bQ (aa (fV 2) (aa (fV 1) ah)))) (iR 2 (gC (gN 8) (gC (gN 9) g0))))
  (al (jl 10 (fB fg (aa (fV 5) ah)))
  (al (jv 10 (fV 9) (fV 8))
  (al (jl 11 (fB fg (aa (fV 6) ah)))
  (al (jv 11 (fV 8) (ap cr (aa (fV 3) (aa (aj be (fV 6) (fV 8)) (aa (aj be (fV 6) (fV 9)) ah)))))
  (aV (bQ (aa (fV 3) (aa (fV 4) (aa (fB iV (aa (fV 10) ah)) (aa (fB iV (aa (fV 11) ah)) ah))))))))))))) ρ:=Eq.trans rfl rfl
noncomputable def bd:List PV->Option PR:=run 3 12 eM
theorem g6 {a0 a1 a2:PV}:bd [a0,a1,a2]=(eM [some (.val a0),some (.val a1),some (.val a2),none,none,none,none,none,none,none,none,none]).res:=Eq.trans rfl rfl
noncomputable def ju:FS:=(al (fM (ap cz (aa (fV 0) (aa (fV 1) ah))) (iR 3 (gC (gN 3) (gC (gN 4) (gC (gN 5) g0)))))
  (al (fM (ap cz (aa (fV 3) (aa (fV 2) ah))) (iR 3 (gC (gN 6) (gC (gN 7) (gC (gN 8) g0)))))
  (al (aZ 9 (aj bo (fV 5) (fV 8)))
  (al (fA (fT (aj dB (fV 4) (fV 7))) (aV (bQ (aa (fV 6) (aa (fC (.bl false)) (aa (fV 9) ah))))) aK)
  (aV (bQ (aa (ap bd (aa (fV 6) (aa (fV 4) (aa (fV 7) ah)))) (aa (fC (.bl true)) (aa (fV 9) ah)))))))))
theorem kP {ρ:aC}:ju ρ=(al (fM (ap cz (aa (fV 0) (aa (fV 1) ah))) (iR 3 (gC (gN 3) (gC (gN 4) (gC (gN 5) g0)))))
  (al (fM (ap cz (aa (fV 3) (aa (fV 2) ah))) (iR 3 (gC (gN 6) (gC (gN 7) (gC (gN 8) g0)))))
  (al (aZ 9 (aj bo (fV 5) (fV 8)))
  (al (fA (fT (aj dB (fV 4) (fV 7))) (aV (bQ (aa (fV 6) (aa (fC (.bl false)) (aa (fV 9) ah))))) aK)
  (aV (bQ (aa (ap bd (aa (fV 6) (aa (fV 4) (aa (fV 7) ah)))) (aa (fC (.bl true)) (aa (fV 9) ah))))))))) ρ:=Eq.trans rfl rfl
noncomputable def cX:List PV->Option PR:=run 3 10 ju
theorem mX {a0 a1 a2:PV}:cX [a0,a1,a2]=(ju [some (.val a0),some (.val a1),some (.val a2),none,none,none,none,none,none,none]).res:=Eq.trans rfl rfl
end Dp
end
section
namespace Dp
open PySem L2 Fo Pu
noncomputable def jc:FS:=(al (aZ 2 (ap aF (aa (ap aX (aa (fV 0) (aa (aj bo (fC (.int 40)) (aj jy (fV 1) (fC (.int 13)))) ah))) (aa (fC (.int 4)) ah))))
  (al (aZ 3 (ap dW (aa (aj be (fV 2) (fC (.int 0))) ah)))
  (aV (bQ (aa (fV 3) (aa (ap b7 (aa (fV 0) (aa (fV 1) (aa (fV 3) (aa (aj be (eV (aa (fC (.int 12)) (aa (fC (.int 60)) ah))) (fB oa (aa (aj dB (aj bn (aj be (fV 2) (fC (.int 1))) (fC (.int 4))) (fC (.int 1))) ah))) ah))))) ah))))))
theorem j8 {ρ:aC}:jc ρ=(al (aZ 2 (ap aF (aa (ap aX (aa (fV 0) (aa (aj bo (fC (.int 40)) (aj jy (fV 1) (fC (.int 13)))) ah))) (aa (fC (.int 4)) ah))))
  (al (aZ 3 (ap dW (aa (aj be (fV 2) (fC (.int 0))) ah)))
  (aV (bQ (aa (fV 3) (aa (ap b7 (aa (fV 0) (aa (fV 1) (aa (fV 3) (aa (aj be (eV (aa (fC (.int 12)) (aa (fC (.int 60)) ah))) (fB oa (aa (aj dB (aj bn (aj be (fV 2) (fC (.int 1))) (fC (.int 4))) (fC (.int 1))) ah))) ah))))) ah)))))) ρ:=Eq.trans rfl rfl
noncomputable def de:List PV->Option PR:=run 2 4 jc
theorem lz {a0 a1:PV}:de [a0,a1]=(jc [some (.val a0),some (.val a1),none,none]).res:=Eq.trans rfl rfl
noncomputable def kr:FS:=(aV (bQ (aa (fV 1) (aa (fV 2) (aa (fB mU (aa (fB qD (aa (fV 0) ah)) ah)) (aa (aj eU (bQ (aa (fB oa (aa (aj dB (fV 1) (fC (.str "size"))) ah)) ah)) (fV 0)) ah))))))
theorem qM {ρ:aC}:kr ρ=(aV (bQ (aa (fV 1) (aa (fV 2) (aa (fB mU (aa (fB qD (aa (fV 0) ah)) ah)) (aa (aj eU (bQ (aa (fB oa (aa (aj dB (fV 1) (fC (.str "size"))) ah)) ah)) (fV 0)) ah)))))) ρ:=Eq.trans rfl rfl
noncomputable def fk:List PV->Option PR:=run 3 3 kr
theorem uk {a0 a1 a2:PV}:fk [a0,a1,a2]=(kr [some (.val a0),some (.val a1),some (.val a2)]).res:=Eq.trans rfl rfl
noncomputable def gF (t:oA):FS:=(fA (eR (fT (rM t 2 (aa (fV 0) (aa (fV 4) ah))))) nb aK)
theorem oR {t:oA}{ρ:aC}:(gF t) ρ=(fA (eR (fT (rM t 2 (aa (fV 0) (aa (fV 4) ah))))) nb aK) ρ:=Eq.trans rfl rfl
noncomputable def jM (t:oA):FS:=(al (fA (eR (fT (fB g7 (aa (fV 1) (aa (fC (.ty "tuple")) ah))))) nb aK)
  (ig (m9 (aa (fV 1) ah)) (iR 2 (gC (gN 3) (gC (gN 4) g0))) (gF t)))
theorem pH {t:oA}{ρ:aC}:(jM t) ρ=(al (fA (eR (fT (fB g7 (aa (fV 1) (aa (fC (.ty "tuple")) ah))))) nb aK)
  (ig (m9 (aa (fV 1) ah)) (iR 2 (gC (gN 3) (gC (gN 4) g0))) (gF t))) ρ:=Eq.trans rfl rfl
noncomputable def dZ (t:oA):List PV->Option PR:=run 3 5 (jM t)
theorem sj {t:oA}{a0 a1 a2:PV}:(dZ t) [a0,a1,a2]=((jM t) [some (.val a0),some (.val a1),some (.val a2),none,none]).res:=Eq.trans rfl rfl
noncomputable def lH:FS:=(al (fA (kT (eR (fT (fB g7 (aa (fV 1) (aa (fC (.ty "tuple")) ah))))) (fT (aj iw (fB gX (aa (fV 1) ah)) (fC (.int 2))))) (aV (fC (.bl false))) aK)
  (aV (kO (ap bp (aa (fV 0) (aa (aj be (fV 1) (fC (.int 0))) ah))) (sU (ap bp (aa (fV 0) (aa (aj be (fV 1) (fC (.int 1))) ah)))))))
theorem sw {ρ:aC}:lH ρ=(al (fA (kT (eR (fT (fB g7 (aa (fV 1) (aa (fC (.ty "tuple")) ah))))) (fT (aj iw (fB gX (aa (fV 1) ah)) (fC (.int 2))))) (aV (fC (.bl false))) aK)
  (aV (kO (ap bp (aa (fV 0) (aa (aj be (fV 1) (fC (.int 0))) ah))) (sU (ap bp (aa (fV 0) (aa (aj be (fV 1) (fC (.int 1))) ah))))))) ρ:=Eq.trans rfl rfl
noncomputable def dn:List PV->Option PR:=run 2 2 lH
theorem we {a0 a1:PV}:dn [a0,a1]=(lH [some (.val a0),some (.val a1)]).res:=Eq.trans rfl rfl
noncomputable def iJ (a_is_pair:Addr):FS:=(eg (ap (dZ [(a_is_pair,dn)]) (aa (fV 0) (aa (fV 1) (aa (fC (.fn a_is_pair)) ah)))))
theorem nZ {a_is_pair:Addr}{ρ:aC}:(iJ a_is_pair) ρ=(eg (ap (dZ [(a_is_pair,dn)]) (aa (fV 0) (aa (fV 1) (aa (fC (.fn a_is_pair)) ah))))) ρ:=Eq.trans rfl rfl
noncomputable def cs (a_is_pair:Addr):List PV->Option PR:=run 2 2 (iJ a_is_pair)
theorem pB {a_is_pair:Addr}{a0 a1:PV}:(cs a_is_pair) [a0,a1]=((iJ a_is_pair) [some (.val a0),some (.val a1)]).res:=Eq.trans rfl rfl
noncomputable def d7 (a_is_pair:Addr):FS:=(al (eg (ap b5 (aa (fV 0) ah)))
  (eg (ap (cs a_is_pair) (aa (fV 0) (aa (fV 1) ah)))))
theorem jB {a_is_pair:Addr}{ρ:aC}:(d7 a_is_pair) ρ=(al (eg (ap b5 (aa (fV 0) ah)))
  (eg (ap (cs a_is_pair) (aa (fV 0) (aa (fV 1) ah))))) ρ:=Eq.trans rfl rfl
noncomputable def aJ (a_is_pair:Addr):List PV->Option PR:=run 2 2 (d7 a_is_pair)
theorem kA {a_is_pair:Addr}{a0 a1:PV}:(aJ a_is_pair) [a0,a1]=((d7 a_is_pair) [some (.val a0),some (.val a1)]).res:=Eq.trans rfl rfl
noncomputable def cJ:FS:=(fA (fT (aj iw (aj be (aj be (fV 7) (fC (.int 2))) (fV 10)) (aj be (aj be (fV 2) (fC (.int 2))) (fV 10)))) (jv 3 (fV 10) (fV 4)) aK)
theorem gj {ρ:aC}:cJ ρ=(fA (fT (aj iw (aj be (aj be (fV 7) (fC (.int 2))) (fV 10)) (aj be (aj be (fV 2) (fC (.int 2))) (fV 10)))) (jv 3 (fV 10) (fV 4)) aK) ρ:=Eq.trans rfl rfl
noncomputable def cK:FS:=(al (fM (ap cX (aa (fV 2) (aa (fV 5) (aa (fV 6) ah)))) (iR 3 (gC (gN 7) (gC (gN 8) (gC (gN 9) g0)))))
  (al (ig (r6 oQ (aa (fV 0) ah)) (gN 10) cJ)
  (aZ 2 (fV 7))))
theorem jU {ρ:aC}:cK ρ=(al (fM (ap cX (aa (fV 2) (aa (fV 5) (aa (fV 6) ah)))) (iR 3 (gC (gN 7) (gC (gN 8) (gC (gN 9) g0)))))
  (al (ig (r6 oQ (aa (fV 0) ah)) (gN 10) cJ)
  (aZ 2 (fV 7)))) ρ:=Eq.trans rfl rfl
noncomputable def fq:FS:=(al (aZ 2 (ap dY (aa (fV 0) (aa (fC (.str "size")) (aa (fC (.str "none")) ah)))))
  (al (jl 3 (aj eU (eV (aa (fC .non) ah)) (fV 0)))
  (al (ig (m9 (aa (fV 1) ah)) (iR 2 (gC (gN 4) (gC (iR 2 (gC (gN 5) (gC (gN 6) g0))) g0))) cK)
  (aV (bQ (aa (aj be (fV 2) (fC (.int 2))) (aa (fB iV (aa (fV 3) ah)) ah)))))))
theorem kj {ρ:aC}:fq ρ=(al (aZ 2 (ap dY (aa (fV 0) (aa (fC (.str "size")) (aa (fC (.str "none")) ah)))))
  (al (jl 3 (aj eU (eV (aa (fC .non) ah)) (fV 0)))
  (al (ig (m9 (aa (fV 1) ah)) (iR 2 (gC (gN 4) (gC (iR 2 (gC (gN 5) (gC (gN 6) g0))) g0))) cK)
  (aV (bQ (aa (aj be (fV 2) (fC (.int 2))) (aa (fB iV (aa (fV 3) ah)) ah))))))) ρ:=Eq.trans rfl rfl
noncomputable def aQ:List PV->Option PR:=run 2 11 fq
theorem lj {a0 a1:PV}:aQ [a0,a1]=(fq [some (.val a0),some (.val a1),none,none,none,none,none,none,none,none,none]).res:=Eq.trans rfl rfl
noncomputable def hR:FS:=(fA (eR (fT (ap bp (aa (aj bo (fB gX (aa (fV 0) ah)) (fC (.int 1))) (aa (fV 1) ah))))) nb aK)
theorem m7 {ρ:aC}:hR ρ=(fA (eR (fT (ap bp (aa (aj bo (fB gX (aa (fV 0) ah)) (fC (.int 1))) (aa (fV 1) ah))))) nb aK) ρ:=Eq.trans rfl rfl
noncomputable def bg:List PV->Option PR:=run 2 2 hR
theorem oP {a0 a1:PV}:bg [a0,a1]=(hR [some (.val a0),some (.val a1)]).res:=Eq.trans rfl rfl
noncomputable def mm:FS:=(aV (ap dD (aa (aj be (ap aQ (aa (fV 0) (aa (fV 1) ah))) (fC (.int 0))) ah)))
theorem sv {ρ:aC}:mm ρ=(aV (ap dD (aa (aj be (ap aQ (aa (fV 0) (aa (fV 1) ah))) (fC (.int 0))) ah))) ρ:=Eq.trans rfl rfl
noncomputable def gh:List PV->Option PR:=run 2 2 mm
theorem xw {a0 a1:PV}:gh [a0,a1]=(mm [some (.val a0),some (.val a1)]).res:=Eq.trans rfl rfl
noncomputable def lf (a_is_pair:Addr):FS:=(al (eg (ap (aJ a_is_pair) (aa (fV 0) (aa (fV 1) ah))))
  (al (eg (ap bg (aa (fV 1) (aa (fV 2) ah))))
  (aV (ap gh (aa (fV 0) (aa (sD (fV 1) uQ (vv (fV 2))) ah))))))
theorem sT {a_is_pair:Addr}{ρ:aC}:(lf a_is_pair) ρ=(al (eg (ap (aJ a_is_pair) (aa (fV 0) (aa (fV 1) ah))))
  (al (eg (ap bg (aa (fV 1) (aa (fV 2) ah))))
  (aV (ap gh (aa (fV 0) (aa (sD (fV 1) uQ (vv (fV 2))) ah)))))) ρ:=Eq.trans rfl rfl
noncomputable def eI (a_is_pair:Addr):List PV->Option PR:=run 3 3 (lf a_is_pair)
theorem xv {a_is_pair:Addr}{a0 a1 a2:PV}:(eI a_is_pair) [a0,a1,a2]=((lf a_is_pair) [some (.val a0),some (.val a1),some (.val a2)]).res:=Eq.trans rfl rfl
noncomputable def jF:FS:=(aV (aj be (ap aQ (aa (fV 0) (aa (sD (fV 1) uQ (vv (fV 2))) ah))) (fC (.int 0))))
theorem pD {ρ:aC}:jF ρ=(aV (aj be (ap aQ (aa (fV 0) (aa (sD (fV 1) uQ (vv (fV 2))) ah))) (fC (.int 0)))) ρ:=Eq.trans rfl rfl
noncomputable def dP:List PV->Option PR:=run 3 3 jF
theorem sk {a0 a1 a2:PV}:dP [a0,a1,a2]=(jF [some (.val a0),some (.val a1),some (.val a2)]).res:=Eq.trans rfl rfl
noncomputable def lG (a_is_pair:Addr):FS:=(al (eg (ap (aJ a_is_pair) (aa (fV 0) (aa (fV 1) ah))))
  (al (eg (ap bg (aa (fV 1) (aa (fV 2) ah))))
  (al (eg (ap cw (aa (fV 0) (aa (fV 3) ah))))
  (aV (aj be (ap eA (aa (ap dP (aa (fV 0) (aa (fV 1) (aa (fV 2) ah)))) (aa (fV 3) ah))) (jP (fC (.int 1))))))))
theorem sd {a_is_pair:Addr}{ρ:aC}:(lG a_is_pair) ρ=(al (eg (ap (aJ a_is_pair) (aa (fV 0) (aa (fV 1) ah))))
  (al (eg (ap bg (aa (fV 1) (aa (fV 2) ah))))
  (al (eg (ap cw (aa (fV 0) (aa (fV 3) ah))))
  (aV (aj be (ap eA (aa (ap dP (aa (fV 0) (aa (fV 1) (aa (fV 2) ah)))) (aa (fV 3) ah))) (jP (fC (.int 1)))))))) ρ:=Eq.trans rfl rfl
noncomputable def gn (a_is_pair:Addr):List PV->Option PR:=run 4 4 (lG a_is_pair)
theorem vX {a_is_pair:Addr}{a0 a1 a2 a3:PV}:(gn a_is_pair) [a0,a1,a2,a3]=((lG a_is_pair) [some (.val a0),some (.val a1),some (.val a2),some (.val a3)]).res:=Eq.trans rfl rfl
noncomputable def ix:FS:=(al (fM (ap cS (aa (fV 0) (aa (fV 4) ah))) (iR 3 (gC (gN 0) (gC (gN 5) (gC (gN 6) g0)))))
  (al (kX 2 (aa (fV 5) ah))
  (kX 3 (aa (fV 6) ah))))
theorem pG {ρ:aC}:ix ρ=(al (fM (ap cS (aa (fV 0) (aa (fV 4) ah))) (iR 3 (gC (gN 0) (gC (gN 5) (gC (gN 6) g0)))))
  (al (kX 2 (aa (fV 5) ah))
  (kX 3 (aa (fV 6) ah)))) ρ:=Eq.trans rfl rfl
noncomputable def kw:FS:=(al (qJ 2 3 (eV ah) (eV ah))
  (al (ig (ph (fV 1)) (gN 4) ix)
  (Ai 3 (Ai 2 (aV (bQ (aa (fV 0) (aa (fV 2) (aa (fV 3) ah)))))))))
theorem qx {ρ:aC}:kw ρ=(al (qJ 2 3 (eV ah) (eV ah))
  (al (ig (ph (fV 1)) (gN 4) ix)
  (Ai 3 (Ai 2 (aV (bQ (aa (fV 0) (aa (fV 2) (aa (fV 3) ah))))))))) ρ:=Eq.trans rfl rfl
noncomputable def fu:List PV->Option PR:=run 2 7 kw
theorem uO {a0 a1:PV}:fu [a0,a1]=(kw [some (.val a0),some (.val a1),none,none,none,none,none]).res:=Eq.trans rfl rfl
end Dp
end
section
namespace Pt
open L2 Fo
noncomputable def cl (n:Nat)(c:Nat->Nat)(x:Nat):List Nat:=(List.range n).filter fun y=>decide (c y=c x)
theorem mem_cl {n:Nat}{c:Nat->Nat}{x y:Nat}:y∈cl n c x↔y<n/\c y=c x:=by
 unfold cl;rw[List.mem_filter,List.mem_range,decide_eq_true_eq]
theorem qI {n:Nat}{c c':Nat->Nat}{x x':Nat}(h:∀y,y<n->(c y=c x↔c' y=c' x')):cl n c x=cl n c' x':=
 List.filter_congr fun y hy=>by rw[decide_eq_decide];exact h y (List.mem_range.mp hy)
theorem lv {n:Nat}{c:Nat->Nat}{x y:Nat}(hx:x<n):cl n c x=cl n c y↔c x=c y:=by
 constructor
 ·intro e
  exact (mem_cl.mp (e▸mem_cl.mpr ⟨hx,rfl⟩)).2
 ·intro e;exact qI fun z _=>by rw[e]
theorem wq (n:Nat)(c:Nat->Nat)(x:Nat):(cl n c x).Pairwise (· < ·):=(List.pairwise_lt_range).filter _
theorem xO (n:Nat)(c:Nat->Nat)(x:Nat):(cl n c x).length≤n:=by
 have:=List.length_filter_le (fun y=>decide (c y=c x)) (List.range n)
 rwa [List.length_range] at this
structure Part (n:Nat)(c:Nat->Nat)(ls:List (List Nat)):Prop where
 cls:∀l∈ls,∃x,x<n/\l=cl n c x
 all:∀x,x<n->cl n c x∈ls
 nd:ls.Nodup
 len:ls.length≤n
theorem Part.pick {n:Nat}{c:Nat->Nat}{ls:List (List Nat)}(P:Part n c ls){x:Nat}(hx:x<n):ls.filter (fun l=>decide (x∈l))=[cl n c x]:=by
 have e:ls.filter (fun l=>decide (x∈l))=ls.filter fun l=>l==cl n c x:=List.filter_congr fun l hl=>by
  obtain⟨z,hz,rfl⟩:=P.cls l hl
  rw[Bool.eq_iff_iff,decide_eq_true_eq,beq_iff_eq,mem_cl,lv hz]
  exact⟨fun h=>h.2.symm,fun h=>⟨hx,h.symm⟩⟩
 rw[e,List.filter_beq,P.nd.count,if_pos (P.all x hx)];rfl
theorem HF (n:Nat):Part n id ((List.range n).map fun x=>[x]):=by
 have e:∀x,x<n->cl n id x=[x]:=fun x hx=>by
  have:cl n id x=(List.range n).filter (·==x):=List.filter_congr fun y _=>by rw[Bool.eq_iff_iff,decide_eq_true_eq,beq_iff_eq];exact Iff.rfl
  rw[this,List.filter_beq,List.nodup_range.count,if_pos (List.mem_range.mpr hx)];rfl
 refine⟨fun l hl=>?_,fun x hx=>?_,?_,?_⟩
 ·obtain⟨x,hx,rfl⟩:=List.mem_map.mp hl
  exact⟨x,List.mem_range.mp hx,(e x (List.mem_range.mp hx)).symm⟩
 ·rw[e x hx];exact List.mem_map.mpr ⟨x,List.mem_range.mpr hx,rfl⟩
 ·refine List.nodup_range.map _ fun a b h z=>h (by simpa using z)
 ·rw[List.length_map,List.length_range];exact Nat.le_refl _
noncomputable def jn (c:Nat->Nat)(x y:Nat):Nat->Nat:=fun z=>if c z=c x then c y else c z
theorem zU {c:Nat->Nat}{x y:Nat}(h:c x=c y):jn c x y=c:=funext fun z=>by
 unfold jn;split
 ·next e=>rw[e,h]
 ·rfl
theorem Iu {n:Nat}{c:Nat->Nat}{x y:Nat}(h:c x≠c y):qE ((cl n c x++cl n c y).map Int.ofNat)=(cl n (jn c x y) x).map Int.ofNat:=by
 refine (zh (List.Perm.map _ ?_) ?_).symm
 ·refine (List.perm_ext_iff_of_nodup ((wq n _ x).imp fun h=>Nat.ne_of_lt h) ?_).mpr fun z=>?_
  ·refine List.nodup_append.mpr ⟨(wq n _ x).imp fun h=>Nat.ne_of_lt h,(wq n _ y).imp fun h=>Nat.ne_of_lt h,fun a ha b hb e=>?_⟩
   subst e
   exact h ((mem_cl.mp ha).2.symm.trans (mem_cl.mp hb).2)
  ·rw[List.mem_append,mem_cl,mem_cl,mem_cl]
   unfold jn
   rw[if_pos rfl]
   by_cases e:c z=c x
   ·rw[if_pos e];exact⟨fun q=>.inl ⟨q.1,e⟩,fun q=>⟨q.elim (·.1) (·.1),rfl⟩⟩
   ·rw[if_neg e];exact⟨fun q=>.inr q,fun q=>q.elim (fun q=>absurd q.2 e) id⟩
 ·rw[List.pairwise_map]
  exact (wq n _ x).imp fun h=>by show Int.ofNat _≤Int.ofNat _;exact Int.ofNat_le.mpr (Nat.le_of_lt h)
theorem Part.join {n:Nat}{c:Nat->Nat}{ls:List (List Nat)}(P:Part n c ls){x y:Nat}(hx:x<n)(hy:y<n)(h:c x≠c y):Part n (jn c x y) (ls.filter (fun l=>!(decide (l=cl n c x) || decide (l=cl n c y)))++[cl n (jn c x y) x]):=by
 have keep:∀z,c z≠c x->c z≠c y->cl n (jn c x y) z=cl n c z:=fun z h1 h2=>qI fun w _=>by
  unfold jn
  rw[if_neg h1]
  by_cases e:c w=c x
  ·rw[if_pos e,e];exact⟨fun q=>absurd q.symm h2,fun q=>absurd q.symm h1⟩
  ·rw[if_neg e]
 have jx:∀z,c z=c x\/c z=c y->jn c x y z=jn c x y x:=fun z hz=>by
  unfold jn
  rw[if_pos rfl]
  rcases hz with e|e
  ·rw[if_pos e]
  ·rw[e];split<;>rfl
 refine⟨fun l hl=>?_,fun z hz=>?_,?_,?_⟩
 ·rcases List.mem_append.mp hl with hl|hl
  ·obtain⟨h1,h2⟩:=List.mem_filter.mp hl
   obtain⟨z,hz,rfl⟩:=P.cls l h1
   rw[Bool.not_eq_true',Bool.or_eq_false_iff,decide_eq_false_iff_not,decide_eq_false_iff_not,lv hz,lv hz] at h2
   exact⟨z,hz,(keep z h2.1 h2.2).symm⟩
  ·exact⟨x,hx,List.mem_singleton.mp hl⟩
 ·by_cases e:c z=c x\/c z=c y
  ·exact List.mem_append_right _ (List.mem_singleton.mpr ((lv hz).mpr (jx z e)))
  ·have e1:c z≠c x:=fun q=>e (.inl q)
   have e2:c z≠c y:=fun q=>e (.inr q)
   rw[keep z e1 e2]
   refine List.mem_append_left _ (List.mem_filter.mpr ⟨P.all z hz,?_⟩)
   rw[Bool.not_eq_true',Bool.or_eq_false_iff,decide_eq_false_iff_not,decide_eq_false_iff_not,lv hz,lv hz]
   exact⟨e1,e2⟩
 ·refine List.nodup_append.mpr ⟨P.nd.filter _,(by simp),fun a ha b hb e=>?_⟩
  subst e
  obtain⟨h1,h2⟩:=List.mem_filter.mp ha
  obtain⟨z,hz,rfl⟩:=P.cls a h1
  rw[Bool.not_eq_true',Bool.or_eq_false_iff,decide_eq_false_iff_not,decide_eq_false_iff_not,lv hz,lv hz] at h2
  have hm:x∈cl n c z:=by rw[List.mem_singleton.mp hb];exact mem_cl.mpr ⟨hx,rfl⟩
  exact h2.1 (mem_cl.mp hm).2.symm
 ·rw[List.length_append,List.length_singleton]
  have:(ls.filter (fun l=>!(decide (l=cl n c x) || decide (l=cl n c y)))).length<ls.length:=List.length_filter_lt_length_iff_exists.mpr ⟨_,P.all x hx,by simp⟩
  have:=P.len
  omega
noncomputable def vP (ps:List (Nat×Nat))(c:Nat->Nat):Nat->Nat:=ps.foldl (fun c p=>jn c p.1 p.2) c
theorem Cn (p:Nat×Nat)(ps:List (Nat×Nat))(c:Nat->Nat):vP (p::ps) c=vP ps (jn c p.1 p.2):=rfl
noncomputable def mN (c:Nat->Nat)(x:Nat):Bool:=decide (∀y,y<x->c y≠c x)
noncomputable def dr (n:Nat)(c:Nat->Nat):List (List Nat):=((List.range n).filter (mN c)).map (cl n c)
theorem Il {c:Nat->Nat}:∀x,∃z,z≤x/\c z=c x/\mN c z=true:=fun x=>by
 induction x using Nat.strongRecOn with
 |_ x ih=>
  by_cases h:mN c x=true
  ·exact⟨x,Nat.le_refl _,rfl,h⟩
  ·unfold mN at h
   rw[decide_eq_true_eq] at h
   have:∃y,y<x/\c y=c x:=Decidable.byContradiction fun q=>h fun y hy e=>q ⟨y,hy,e⟩
   obtain⟨y,hy,e⟩:=this
   obtain⟨z,h1,h2,h3⟩:=ih y hy
   exact⟨z,by omega,h2.trans e,h3⟩
theorem mem_lots {n:Nat}{c:Nat->Nat}{l:List Nat}:l∈dr n c↔∃x,x<n/\l=cl n c x:=by
 unfold dr
 rw[List.mem_map]
 constructor
 ·rintro⟨x,hx,rfl⟩
  exact⟨x,List.mem_range.mp (List.mem_filter.mp hx).1,rfl⟩
 ·rintro⟨x,hx,rfl⟩
  obtain⟨z,h1,h2,h3⟩:=Il (c:=c) x
  exact⟨z,List.mem_filter.mpr ⟨List.mem_range.mpr (by omega),h3⟩,(lv (by omega)).mpr h2⟩
theorem wY {n:Nat}{c:Nat->Nat}{x:Nat}(hx:x<n)(h:mN c x=true):∃t,cl n c x=x::t:=by
 unfold mN at h
 rw[decide_eq_true_eq] at h
 cases e:cl n c x with
 |nil=>
  have:x∈cl n c x:=mem_cl.mpr ⟨hx,rfl⟩
  rw[e] at this;cases this
 |cons a t=>
  have u:=wq n c x
  rw[e,List.pairwise_cons] at u
  have hm:x∈cl n c x:=mem_cl.mpr ⟨hx,rfl⟩
  have ha:a∈cl n c x:=by rw[e];exact List.mem_cons_self
  rw[e] at hm
  rcases List.mem_cons.mp hm with rfl|hm
  ·exact⟨t,rfl⟩
  ·exact absurd (mem_cl.mp ha).2 (h a (u.1 x hm))
theorem Bc (n:Nat)(c:Nat->Nat):((dr n c).map fun l=>l.map Int.ofNat).Pairwise fun a b=>pP a b=true:=by
 unfold dr
 rw[List.map_map,List.pairwise_map]
 refine ((List.pairwise_lt_range).filter _).imp_of_mem fun {a b} ha hb h=>?_
 obtain⟨ha1,ha2⟩:=List.mem_filter.mp ha
 obtain⟨hb1,hb2⟩:=List.mem_filter.mp hb
 obtain⟨t,e⟩:=wY (List.mem_range.mp ha1) ha2
 obtain⟨t',e'⟩:=wY (List.mem_range.mp hb1) hb2
 show pP ((cl n c a).map Int.ofNat) ((cl n c b).map Int.ofNat)=true
 rw[e,e',List.map_cons,List.map_cons,nu,if_neg (fun z=>by have:=Int.ofNat.inj z;omega)]
 exact decide_eq_true (Int.ofNat_lt.mpr h)
theorem lots_congr {n:Nat}{c c':Nat->Nat}(h:∀x y,x<n->y<n->(c x=c y↔c' x=c' y)):dr n c=dr n c':=by
 unfold dr
 have e:(List.range n).filter (mN c)=(List.range n).filter (mN c'):=List.filter_congr fun x hx=>by
  have hx:=List.mem_range.mp hx
  unfold mN
  rw[decide_eq_decide]
  exact⟨fun q y hy z=>q y hy ((h y x (by omega) hx).mpr z),fun q y hy z=>q y hy ((h y x (by omega) hx).mp z)⟩
 rw[e]
 exact List.map_congr_left fun x hx=>qI fun y hy=>h y x hy (List.mem_range.mp (List.mem_filter.mp hx).1)
theorem Part.sorted {n:Nat}{c:Nat->Nat}{ls:List (List Nat)}(P:Part n c ls){ks:List (List Int)}(e:ks=ls.map fun l=>l.map Int.ofNat):(mJ ks).map (fun i=>ks.getD i [])=(dr n c).map fun l=>l.map Int.ofNat:=by
 have inj:∀a b:List Nat,a≠b->a.map Int.ofNat≠b.map Int.ofNat:=fun a b h z=>h (List.map_inj_right (fun _ _ q=>Int.ofNat.inj q) |>.mp z)
 have nd:ks.Nodup:=by rw[e];exact P.nd.map _ inj
 obtain⟨hp,hu⟩:=GN nd
 refine zC (lt:=fun a b=>pP a b=true) (fun a z=>by rw[zO] at z;cases z) (fun a b d=>yj a b d) hu (Bc n c) fun a=>?_
 rw[hp.mem_iff,e,List.mem_map,List.mem_map]
 constructor
 ·rintro⟨l,hl,rfl⟩
  exact⟨l,mem_lots.mpr (P.cls l hl),rfl⟩
 ·rintro⟨l,hl,rfl⟩
  obtain⟨x,hx,rfl⟩:=mem_lots.mp hl
  exact⟨_,P.all x hx,rfl⟩
end Pt
end
section
namespace Pt
open L2 Fo Lo
theorem uo (m:Nat)(c:Nat->Nat)(x:Nat):cl (m+1) c x=cl m c x++if c m=c x then [m] else []:=by
 unfold cl
 rw[List.range_succ,List.filter_append]
 congr 1
 rw[List.filter_cons]
 by_cases h:c m=c x
 ·rw[if_pos (decide_eq_true h),if_pos h];rfl
 ·rw[if_neg (by rw[decide_eq_true_eq];exact h),if_neg h];rfl
theorem xi (us:List Nat):∀m,mi us m=((List.range m).filter (mN (hd us))).map fun x=>(hd us x,cl m (hd us) x)
 |0=>rfl
 |m+1=>by
  rw[ga,xi us m]
  generalize hd us=c
  have anyE:(((List.range m).filter (mN c)).map fun x=>(c x,cl m c x)).any (fun t=>decide (t.1=c m))=!mN c m:=by
   rw[List.any_map]
   rw[Bool.eq_iff_iff,List.any_eq_true,Bool.not_eq_true']
   constructor
   ·rintro⟨x,hx,e⟩
    have e:c x=c m:=of_decide_eq_true e
    refine decide_eq_false fun q=>?_
    exact q x (List.mem_range.mp (List.mem_filter.mp hx).1) e
   ·intro q
    unfold mN at q
    rw[decide_eq_false_iff_not] at q
    have:∃y,y<m/\c y=c m:=Decidable.byContradiction fun z=>q fun y hy e=>z ⟨y,hy,e⟩
    obtain⟨y,hy,e⟩:=this
    obtain⟨z,h1,h2,h3⟩:=Il (c:=c) y
    exact⟨z,List.mem_filter.mpr ⟨List.mem_range.mpr (by omega),h3⟩,decide_eq_true (h2.trans e)⟩
  unfold uI
  rw[anyE,List.range_succ,List.filter_append,List.map_append]
  cases h:mN c m with
  |true=>
   have h':=h
   unfold mN at h'
   rw[decide_eq_true_eq] at h'
   rw[Bool.not_true,if_neg Bool.false_ne_true,List.filter_cons,if_pos h]
   congr 1
   ·refine List.map_congr_left fun x hx=>?_
    rw[uo,if_neg fun z=>h' x (List.mem_range.mp (List.mem_filter.mp hx).1) z.symm,List.append_nil]
   ·have:cl m c m=[]:=List.filter_eq_nil_iff.mpr fun y hy=>by rw[decide_eq_true_eq];exact h' y (List.mem_range.mp hy)
    rw[List.filter_nil,List.map_cons,List.map_nil,uo,if_pos rfl,this];rfl
  |false=>
   rw[Bool.not_false,if_pos rfl,List.filter_cons,if_neg (by rw[h];exact Bool.false_ne_true),List.filter_nil,List.map_nil,List.append_nil,List.map_map]
   refine List.map_congr_left fun x hx=>?_
   show (if c x=c m then (c x,cl m c x++[m]) else (c x,cl m c x))=_
   rw[uo]
   by_cases e:c x=c m
   ·rw[if_pos e,if_pos e.symm]
   ·rw[if_neg e,if_neg fun z=>e z.symm,List.append_nil]
theorem G9 (us:List Nat):AG us=dr us.length (hd us):=by
 unfold AG dr
 rw[xi,List.map_map];rfl
end Pt
end
section
namespace Dp
open PySem L2 Fo Pu Lo Pt
theorem Ay {ps:List PV}:m6 [.tup ps]=(fW ps).bind fun is=>if is.length<64 then some (.nw ((qE is).map PV.int)) else none:=Eq.trans rfl rfl
noncomputable def Nk (o:Option Sl)(i:Nat)(ρ:aC):Out:=match o with
 |some (.own ps)=>.nx (ρ.set i (some (.own ps.reverse)))
 |_=>.bad
theorem NC {i:Nat}{ρ:aC}:D4 i ρ=Nk (sl ρ i) i ρ:=Eq.trans rfl rfl
theorem HI {i:Nat}{ps:List PV}{ρ:aC}:Nk (some (.own ps)) i ρ=.nx (ρ.set i (some (.own ps.reverse))):=Eq.trans rfl rfl
noncomputable def bJ (ls:List (List Nat)):List PV:=ls.map fun l=>.tup (ak l)
theorem kd (ls:List (List Nat)):(bJ ls).length=ls.length:=List.length_map ..
theorem pX (l:List Nat):(l.map Int.ofNat).map PV.int=ak l:=by unfold ak;rw[List.map_map];rfl
theorem mn (l:List Nat):(ak l).length=l.length:=List.length_map ..
theorem rH (l m:List Nat):ak l++ak m=ak (l++m):=by unfold ak;rw[List.map_append]
theorem pd (l:List Nat):fW (ak l)=some (l.map Int.ofNat):=by rw[←pX,ye]
theorem y7 {l m:List Nat}(h:qE (l.map Int.ofNat)=m.map Int.ofNat)(h64:l.length<64):m6 [.tup (ak l)]=some (.nw (ak m)):=by
 rw[Ay,pd]
 show (if (l.map Int.ofNat).length<64 then _ else _)=_
 rw[List.length_map,if_pos h64,h,pX]
theorem pb:∀{ls:List (List Nat)},(∀l∈ls,l≠[])->jC (bJ ls)=some (ls.map fun l=>l.map Int.ofNat)
 |[],_=>rfl
 |l::ls,h=>by
  show (fW (ak l)).bind _=_
  rw[pd]
  show (if (l.map Int.ofNat).isEmpty=true then none else (jC (bJ ls)).map _)=_
  rw[pb fun m hm=>h m (List.mem_cons_of_mem _ hm),if_neg]
  ·rfl
  ·cases l with
   |nil=>exact absurd rfl (h [] List.mem_cons_self)
   |cons=>exact Bool.false_ne_true
theorem Iq {n:Nat}{c:Nat->Nat}{x:Nat}(hx:x<n):cl n c x≠[]:=fun e=>by
 have:x∈cl n c x:=mem_cl.mpr ⟨hx,rfl⟩
 rw[e] at this;cases this
theorem xC {n:Nat}{c:Nat->Nat}{ls:List (List Nat)}(P:Part n c ls)(h40:n≤40):mz [.lst (bJ ls)]=some (.nw (bJ (dr n c))):=by
 have hl:=P.len
 rw[qL,pb fun l h=>by obtain⟨x,hx,rfl⟩:=P.cls l h;exact Iq hx]
 show (if (bJ ls).length<64 then _ else _)=_
 rw[kd,if_pos (by omega)]
 have e:∀i∈mJ (ls.map fun l=>l.map Int.ofNat),(bJ ls).getD i .non=PV.tup (((ls.map fun l=>l.map Int.ofNat).getD i []).map PV.int):=fun i hi=>by
  have:=List.mem_range.mp ((oN _).subset hi)
  rw[List.length_map] at this
  unfold bJ
  rw[List.getD_eq_getElem?_getD,List.getD_eq_getElem?_getD,List.getElem?_map,List.getElem?_map,List.getElem?_eq_getElem this]
  show PV.tup (ak _)=PV.tup ((List.map Int.ofNat _).map PV.int)
  rw[pX]
 rw[List.map_congr_left e,show (fun i=>PV.tup (((ls.map fun l=>l.map Int.ofNat).getD i []).map PV.int))=(fun k:List Int=>PV.tup (k.map PV.int)) ∘ (fun i=>(ls.map fun l=>l.map Int.ofNat).getD i []) from rfl,←List.map_map,P.sorted rfl,List.map_map]
 unfold bJ
 refine congrArg (fun z=>some (RV.nw z)) (List.map_congr_left fun l _=>?_)
 show PV.tup ((l.map Int.ofNat).map PV.int)=_
 rw[pX]
noncomputable def D9 (ps:List (Nat×Nat)):List PV:=ps.map fun p=>.tup [.int p.1,.int p.2]
theorem nG {n:Nat}{c:Nat->Nat}{ls:List (List Nat)}(P:Part n c ls){x:Nat}(hx:x<n):vR (gN 0) bL aT [none,some (.val (.int x))] (bJ ls)=some [.tup (ak (cl n c x))]:=by
 have e:=t7 (t:=gN 0) (c:=bL) (f:=aT) (ρ:=[none,some (.val (.int x))]) (fun p=>match p with|.tup q=>pin (.int x) q|_=>false) id (its:=bJ ls) (fun p hp=>by
  obtain⟨l,hl,rfl⟩:=List.mem_map.mp hp
  refine⟨_,rfl,?_,fun _=>?_⟩
  ·simp only[mH,EE,Nat.reduceAdd,Nat.reduceSub,Nat.reduceLeDiff,Nat.reduceLT,Nat.reduceEqDiff,Int.reduceLT,Int.reduceLE,Int.reduceAdd,Int.reduceSub,Int.reduceMul,Int.reduceMod,Int.reduceDiv,Int.reduceNeg,Int.reduceToNat,Int.reducePow,Int.reduceEq,eY,ij]
  ·simp only[iP,EE,Nat.reduceAdd,Nat.reduceSub,Nat.reduceLeDiff,Nat.reduceLT,Nat.reduceEqDiff,Int.reduceLT,Int.reduceLE,Int.reduceAdd,Int.reduceSub,Int.reduceMul,Int.reduceMod,Int.reduceDiv,Int.reduceNeg,Int.reduceToNat,Int.reducePow,Int.reduceEq,id])
 rw[e]
 unfold bJ
 have q:((fun p=>match p with|.tup q=>pin (.int x) q|_=>false) ∘ fun l=>PV.tup (ak l))=fun l=>decide (x∈l):=funext fun l=>xk x l
 rw[List.filter_map,List.map_id,q,P.pick hx]
 rfl
theorem Gs (x a b:PV):pin x [a,b]=(iT a x || iT b x):=by unfold pin;rw[List.any_cons,List.any_cons,List.any_nil,Bool.or_false]
theorem Eb {l1 l2:List Nat}{ls:List (List Nat)}:vR (gN 0) cU aT [none,some (.val (.tup (ak l1))),some (.val (.tup (ak l2)))] (bJ ls)=some (bJ (ls.filter fun l=>!(decide (l=l1) || decide (l=l2)))):=by
 have e:=t7 (t:=gN 0) (c:=cU) (f:=aT) (ρ:=[none,some (.val (.tup (ak l1))),some (.val (.tup (ak l2)))]) (fun p=>!(iT (.tup (ak l1)) p || iT (.tup (ak l2)) p)) id (its:=bJ ls) (fun p hp=>by
  obtain⟨l,hl,rfl⟩:=List.mem_map.mp hp
  refine⟨_,rfl,?_,fun _=>?_⟩
  ·simp only[mL,EE,Nat.reduceAdd,Nat.reduceSub,Nat.reduceLeDiff,Nat.reduceLT,Nat.reduceEqDiff,Int.reduceLT,Int.reduceLE,Int.reduceAdd,Int.reduceSub,Int.reduceMul,Int.reduceMod,Int.reduceDiv,Int.reduceNeg,Int.reduceToNat,Int.reducePow,Int.reduceEq,eY,ij,Gs,mG]
  ·simp only[iP,EE,Nat.reduceAdd,Nat.reduceSub,Nat.reduceLeDiff,Nat.reduceLT,Nat.reduceEqDiff,Int.reduceLT,Int.reduceLE,Int.reduceAdd,Int.reduceSub,Int.reduceMul,Int.reduceMod,Int.reduceDiv,Int.reduceNeg,Int.reduceToNat,Int.reducePow,Int.reduceEq,id])
 rw[e]
 unfold bJ
 have q:((fun p=>!(iT (.tup (ak l1)) p || iT (.tup (ak l2)) p)) ∘ fun l=>PV.tup (ak l))=fun l=>!(decide (l=l1) || decide (l=l2)):=funext fun l=>by
  show (!(iT (.tup (ak l1)) (.tup (ak l)) || iT (.tup (ak l2)) (.tup (ak l))))=_
  rw[mG,mG,j7,j7,show decide (l1=l)=decide (l=l1) from decide_eq_decide.mpr eq_comm,show decide (l2=l)=decide (l=l2) from decide_eq_decide.mpr eq_comm]
 rw[List.filter_map,List.map_id,q]
theorem p7 {n:Nat}(h40:n≤40){s0 s1:Option Sl}:∀(ps:List (Nat×Nat)) (c:Nat->Nat) (ls:List (List Nat)) (z3 z4 z5 z6:Option Sl),Part n c ls->(∀p∈ps,p.1<n/\p.2<n) →
  ∃ls' z3' z4' z5' z6',Part n (vP ps c) ls'/\cH (iR 2 (gC (gN 3) (gC (gN 4) g0))) db (D9 ps) [s0,s1,some (.val (.lst (bJ ls))),z3,z4,z5,z6]=.nx [s0,s1,some (.val (.lst (bJ ls'))),z3',z4',z5',z6']
 |[],c,ls,z3,z4,z5,z6,P,_=>⟨ls,z3,z4,z5,z6,P,rfl⟩
 |(x,y)::ps,c,ls,z3,z4,z5,z6,P,hp=>by
  have hx:x<n:=(hp (x,y) List.mem_cons_self).1
  have hy:y<n:=(hp (x,y) List.mem_cons_self).2
  have hl:=P.len
  have h1:(bJ ls).length<1000:=by rw[kd];omega
  have a0:∀v:PV,L2.atI [v] 0=some v:=fun v=>rfl
  by_cases h:c x=c y
  ·obtain⟨ls',z3',z4',z5',z6',P',e⟩:=p7 h40 (s0:=s0) (s1:=s1) ps (jn c x y) ls (some (.val (.int x))) (some (.val (.int y))) (some (.val (.tup (ak (cl n c x))))) (some (.val (.tup (ak (cl n c y))))) (by rw[zU h];exact P) fun p q=>hp p (List.mem_cons_of_mem _ q)
   refine⟨ls',z3',z4',z5',z6',P',?_⟩
   rw[show D9 ((x,y)::ps)=.tup [.int x,.int y]::D9 ps from rfl,im,←e]
   have d:decide (cl n c x=cl n c y)=true:=decide_eq_true ((lv hx).mpr h)
   simp only[iS,EE,Nat.reduceAdd,Nat.reduceSub,Nat.reduceLeDiff,Nat.reduceLT,Nat.reduceEqDiff,Int.reduceLT,Int.reduceLE,Int.reduceAdd,Int.reduceSub,Int.reduceMul,Int.reduceMod,Int.reduceDiv,Int.reduceNeg,Int.reduceToNat,Int.reducePow,Int.reduceEq,h1,nG P hx,nG P hy,a0,eY,ij,mG,j7,d]
  ·obtain⟨ls',z3',z4',z5',z6',P',e⟩:=p7 h40 (s0:=s0) (s1:=s1) ps (jn c x y) _ (some (.val (.int x))) (some (.val (.int y))) (some (.val (.tup (ak (cl n c x))))) (some (.val (.tup (ak (cl n c y))))) (P.join hx hy h) fun p q=>hp p (List.mem_cons_of_mem _ q)
   refine⟨ls',z3',z4',z5',z6',P',?_⟩
   rw[show D9 ((x,y)::ps)=.tup [.int x,.int y]::D9 ps from rfl,im,←e]
   have d:decide (cl n c x=cl n c y)=false:=decide_eq_false fun q=>h ((lv hx).mp q)
   have l1:=xO n c x
   have l2:=xO n c y
   have hs:m6 [.tup (ak (cl n c x++cl n c y))]=some (.nw (ak (cl n (jn c x y) x))):=y7 (Iu h) (by
    have:=congrArg List.length (Iu (n:=n) h)
    rw[(ox _).length_eq,List.length_map,List.length_map] at this
    have:=xO n (jn c x y) x
    omega)
   have ne:(ak (cl n c x)).isEmpty=false:=by
    cases q:cl n c x with
    |nil=>exact absurd q (Iq hx)
    |cons=>rfl
   have h2:(cl n c x).length+(cl n c y).length≤100000:=by omega
   have h3:(bJ (ls.filter fun l=>!(decide (l=cl n c x) || decide (l=cl n c y)))).length+1≤100000:=by
    rw[kd]
    have:=List.length_filter_le (fun l=>!(decide (l=cl n c x) || decide (l=cl n c y))) ls
    omega
   have h4:bJ (ls.filter fun l=>!(decide (l=cl n c x) || decide (l=cl n c y)))++[.tup (ak (cl n (jn c x y) x))]=bJ (ls.filter (fun l=>!(decide (l=cl n c x) || decide (l=cl n c y)))++[cl n (jn c x y) x]):=by unfold bJ;rw[List.map_append];rfl
   simp only[iS,EE,Nat.reduceAdd,Nat.reduceSub,Nat.reduceLeDiff,Nat.reduceLT,Nat.reduceEqDiff,Int.reduceLT,Int.reduceLE,Int.reduceAdd,Int.reduceSub,Int.reduceMul,Int.reduceMod,Int.reduceDiv,Int.reduceNeg,Int.reduceToNat,Int.reducePow,Int.reduceEq,h1,nG P hx,nG P hy,a0,eY,ij,mG,j7,d,Eb,ne,h2,h3,rH,hs,h4,and_self]
noncomputable def Rf (acc l:List Nat):List Nat:=l.foldl (fun a t=>a.set t (up a t+1)) acc
noncomputable def sz (us:List Nat):List Nat:=(List.range us.length).foldl (fun acc x=>Rf acc (way us x)) (List.replicate us.length 0)
theorem Oe {f:FE}{ρ:aC}:Fz f ρ=(f ρ).bind fun r=>iN r.pv:=Eq.trans rfl rfl
theorem Gg {ps:List PV}:iN (.lst ps)=some ps:=Eq.trans rfl rfl
theorem nC (ls:List (List Nat)):aH (bJ ls)=true:=o7 ls
theorem xN (ls:List (List Nat)):cf (bJ ls)≤1:=tz ls
theorem AV (n:Nat)(c:Nat->Nat):(dr n c).length≤n:=by
 unfold dr
 rw[List.length_map]
 have:=List.length_filter_le (mN c) (List.range n)
 rwa [List.length_range] at this
end Dp
end
section
namespace Fo
open PySem L2
theorem Em {l:List Nat}{n:Nat}(nd:l.Nodup)(h:∀x∈l,x<n):l.length≤n:=by
 have p:l.Perm ((List.range n).filter fun x=>decide (x∈l)):=(List.perm_ext_iff_of_nodup nd (List.nodup_range.filter _)).mpr fun x=>by
  rw[List.mem_filter,List.mem_range,decide_eq_true_eq]
  exact⟨fun q=>⟨h x q,q⟩,fun q=>q.2⟩
 rw[p.length_eq]
 have:=List.length_filter_le (fun x=>decide (x∈l)) (List.range n)
 rwa [List.length_range] at this
theorem Lu {us:List Nat}(f:Fst us){x t:Nat}(hx:x<us.length)(h:t∈way us x):hd us t=hd us x:=by
 obtain⟨l2,w2,e,_,_⟩:=(fj f hx).later t h
 have:=jh f (kh f hx h) w2
 unfold hd
 rw[this,e]
theorem oT {us:List Nat}(f:Frst us){u t:Nat}(hu:u<us.length)(ht:t<us.length)(eu:up us u=u)(et:up us t=t)(ne:t≠u):Frst (us.set u t):=by
 have hl:(us.set u t).length=us.length:=List.length_set
 refine⟨by rw[hl];exact f.one,by rw[hl];exact f.most,⟨fun x hx=>?_,fun x=>if hd us x=u then dp us x+1 else dp us x,fun x hx=>?_,fun x hx hn=>?_⟩⟩
 ·rw[hl] at hx ⊢
  rw[bu hu]
  split
  ·exact ht
  ·exact f.fst.bnd x hx
 ·rw[hl] at hx ⊢
  have h1:=pL f.fst hx
  have h2:=(fj f.fst hx).pos
  show (if hd us x=u then dp us x+1 else dp us x)<us.length
  unfold dp
  split
  ·next e=>
   have nm:t∉way us x:=fun q=>ne (by rw[←jp f.fst ht et,Lu f.fst hx q,e])
   have:(t::way us x).length≤us.length:=Em (List.nodup_cons.mpr ⟨nm,(fj f.fst hx).nodup f.fst hx⟩) fun z hz=>by
    rcases List.mem_cons.mp hz with rfl|hz
    ·exact ht
    ·exact kh f.fst hx hz
   rw[List.length_cons] at this
   omega
  ·omega
 ·rw[hl] at hx
  rw[bu hu] at hn ⊢
  show (if hd us (if x=u then t else up us x)=u then _ else _)<(if hd us x=u then dp us x+1 else dp us x)
  by_cases e:x=u
  ·subst e
   rw[if_pos rfl,jp f.fst ht et,if_neg ne,jp f.fst hx eu,if_pos rfl]
   have:dp us t=0:=by unfold dp;rw[xm f.fst ht et];rfl
   omega
  ·rw[if_neg e] at hn ⊢
   rw[zc f.fst hx]
   have:dp us (up us x)+1=dp us x:=by
    have h2:=(fj f.fst (f.fst.bnd x hx)).pos
    unfold dp
    rw[xg f.fst hx hn,List.length_cons]
    omega
   split<;>omega
end Fo
namespace Dp
open PySem L2 Fo Pu
theorem jR:∀l:List Nat,Ik (ak l)=true
 |[]=>rfl
 |x::l=>by rw[cP,Ik,jR l];rfl
theorem qt {s1 s2 s3 s6 s7 s8:Option Sl}{n h:Nat}:∀(l us:List Nat) (z5:Option Sl),us.length=n->(∀t∈l,t<n)->∃z5',cH (gN 5) gL (ak l) [some (.own (ak us)),s1,s2,s3,some (.val (.int h)),z5,s6,s7,s8]=.nx [some (.own (ak (jw us l h))),s1,s2,s3,some (.val (.int h)),z5',s6,s7,s8]
 |[],us,z5,_,_=>⟨z5,rfl⟩
 |t::l,us,z5,hn,hl=>by
  obtain⟨z5',e⟩:=qt (s1:=s1) (s2:=s2) (s3:=s3) (s6:=s6) (s7:=s7) (s8:=s8) (h:=h) l (us.set t h) (some (.val (.int t))) (by rw[List.length_set];exact hn) fun u hu=>hl u (List.mem_cons_of_mem _ hu)
  refine⟨z5',?_⟩
  have ht:t<us.length:=by rw[hn];exact hl t List.mem_cons_self
  show _=Out.nx [some (.own (ak (jw (us.set t h) l h))),s1,s2,s3,some (.val (.int h)),z5',s6,s7,s8]
  rw[←e,cP,im]
  simp only[oB,EE,Nat.reduceAdd,Nat.reduceSub,Nat.reduceLeDiff,Nat.reduceLT,Nat.reduceEqDiff,Int.reduceLT,Int.reduceLE,Int.reduceAdd,Int.reduceSub,Int.reduceMul,Int.reduceMod,Int.reduceDiv,Int.reduceNeg,Int.reduceToNat,Int.reducePow,Int.reduceEq,bw ht,cb]
theorem BG {s2 s3 s4 s5:Option Sl}{us us':List Nat}{x h n:Nat}(r:Halv us x h us' n):∀(k:Nat) (z8:Option Sl) (fuel:Nat),(∀z,z<us.length->up us z<us.length)->x<us.length->n<fuel →
  ∃z8',d6 cB cE fuel [some (.own (ak us)),some (.val (.str "halves")),s2,s3,s4,s5,some (.val (.int k)),some (.val (.int x)),z8]=.nx [some (.own (ak us')),some (.val (.str "halves")),s2,s3,s4,s5,some (.val (.int (k+n:Nat))),some (.val (.int h)),z8']:=by
 induction r with
 | @stop us x e=>
  intro k z8 fuel hb hx hf
  obtain⟨fuel,rfl⟩:∃g,fuel=g+1:=⟨fuel - 1,by omega⟩
  refine⟨z8,?_⟩
  rw[jq]
  simp only[fG,EE,Nat.reduceAdd,Nat.reduceSub,Nat.reduceLeDiff,Nat.reduceLT,Nat.reduceEqDiff,Int.reduceLT,Int.reduceLE,Int.reduceAdd,Int.reduceSub,Int.reduceMul,Int.reduceMod,Int.reduceDiv,Int.reduceNeg,Int.reduceToNat,Int.reducePow,Int.reduceEq,az hx,e,Nat.add_zero]
 | @step us x h n us' ne r ih=>
  intro k z8 fuel hb hx hf
  obtain⟨fuel,rfl⟩:∃g,fuel=g+1:=⟨fuel - 1,by omega⟩
  have h1:=hb x hx
  have h2:=hb _ h1
  obtain⟨z8',e⟩:=ih (k+1) (some (.val (.int (up us x:Nat)))) fuel (fun z hz=>by
   rw[List.length_set] at hz ⊢
   rw[bu hx]
   split
   ·exact h2
   ·exact hb z hz) (by rw[List.length_set];exact h2) (by omega)
  refine⟨z8',?_⟩
  have d:decide ((up us x:Int)=(x:Int))=false:=decide_eq_false (by omega)
  have hx':x<(us.set x (up us (up us x))).length:=by rw[List.length_set];exact hx
  have e3:up (us.set x (up us (up us x))) x=up us (up us x):=by rw[bu hx,if_pos rfl]
  rw[jq,show k+(n+1)=k+1+n by omega,←e]
  simp only[fG,j0,EE,Nat.reduceAdd,Nat.reduceSub,Nat.reduceLeDiff,Nat.reduceLT,Nat.reduceEqDiff,Int.reduceLT,Int.reduceLE,Int.reduceAdd,Int.reduceSub,Int.reduceMul,Int.reduceMod,Int.reduceDiv,Int.reduceNeg,Int.reduceToNat,Int.reducePow,Int.reduceEq,Lw,az hx,az h1,d,bw hx,cb,az hx',e3]
  rfl
theorem Ah {s2 s3 s4 s5:Option Sl}{us us':List Nat}{x h n:Nat}(r:Splt us x h us' n):∀(k:Nat) (z8:Option Sl) (fuel:Nat),(∀z,z<us.length->up us z<us.length)->x<us.length->n<fuel →
  ∃z8',d6 cB cE fuel [some (.own (ak us)),some (.val (.str "splits")),s2,s3,s4,s5,some (.val (.int k)),some (.val (.int x)),z8]=.nx [some (.own (ak us')),some (.val (.str "splits")),s2,s3,s4,s5,some (.val (.int (k+n:Nat))),some (.val (.int h)),z8']:=by
 induction r with
 | @stop us x e=>
  intro k z8 fuel hb hx hf
  obtain⟨fuel,rfl⟩:∃g,fuel=g+1:=⟨fuel - 1,by omega⟩
  refine⟨z8,?_⟩
  rw[jq]
  simp only[fG,EE,Nat.reduceAdd,Nat.reduceSub,Nat.reduceLeDiff,Nat.reduceLT,Nat.reduceEqDiff,Int.reduceLT,Int.reduceLE,Int.reduceAdd,Int.reduceSub,Int.reduceMul,Int.reduceMod,Int.reduceDiv,Int.reduceNeg,Int.reduceToNat,Int.reducePow,Int.reduceEq,az hx,e,Nat.add_zero]
 | @step us x h n us' ne r ih=>
  intro k z8 fuel hb hx hf
  obtain⟨fuel,rfl⟩:∃g,fuel=g+1:=⟨fuel - 1,by omega⟩
  have h1:=hb x hx
  have h2:=hb _ h1
  obtain⟨z8',e⟩:=ih (k+1) (some (.val (.int (up us x:Nat)))) fuel (fun z hz=>by
   rw[List.length_set] at hz ⊢
   rw[bu hx]
   split
   ·exact h2
   ·exact hb z hz) (by rw[List.length_set];exact h1) (by omega)
  refine⟨z8',?_⟩
  have d:decide ((up us x:Int)=(x:Int))=false:=decide_eq_false (by omega)
  have hx':x<(us.set x (up us (up us x))).length:=by rw[List.length_set];exact hx
  have e3:up (us.set x (up us (up us x))) x=up us (up us x):=by rw[bu hx,if_pos rfl]
  rw[jq,show k+(n+1)=k+1+n by omega,←e]
  simp only[fG,j0,EE,Nat.reduceAdd,Nat.reduceSub,Nat.reduceLeDiff,Nat.reduceLT,Nat.reduceEqDiff,Int.reduceLT,Int.reduceLE,Int.reduceAdd,Int.reduceSub,Int.reduceMul,Int.reduceMod,Int.reduceDiv,Int.reduceNeg,Int.reduceToNat,Int.reducePow,Int.reduceEq,Lw,az hx,az h1,d,bw hx,cb,az hx',e3]
  rfl
theorem ut {us:List Nat}(f:Frst us){y:Str}(hy:y∈bt){x:Nat}(hx:x<us.length):cn [.tup (ak us),.str y,.int x]=some (.v (.tup [.int (hd us x:Nat),.tup (ak (gm y us x)),.int (oq y us x:Nat)])):=by
 have w:=fj f.fst hx
 have nd:=w.nodup f.fst hx
 have lt:=w.lt f.fst.bnd hx
 have pos:=w.pos
 have hl:=pL f.fst hx
 have hm:=f.most
 have hd1:((way us x).length:Int) - 1=(dp us x:Nat):=by unfold dp;omega
 have lw:=EC (p:=.lst (ak us)) (.inr rfl) f hx
 have h1:=f.fst.bnd x hx
 rcases s5 hy with rfl|rfl|rfl|rfl|rfl
 ·have e:gm "none" us x=us:=(g8 rfl fun t ht=>by simp only[nM,n7,n8,n9,P3,if_false]).symm
  have es:oq "none" us x=dp us x:=by simp only[oq,n9,if_false]
  simp only[fL,d9,EE,Nat.reduceAdd,Nat.reduceSub,Nat.reduceLeDiff,Nat.reduceLT,Nat.reduceEqDiff,Int.reduceLT,Int.reduceLE,Int.reduceAdd,Int.reduceSub,Int.reduceMul,Int.reduceMod,Int.reduceDiv,Int.reduceNeg,Int.reduceToNat,Int.reducePow,Int.reduceEq,Lw,lw,jR,nj f hx,hd1,e,es]
 ·obtain⟨z5,el⟩:=qt (s1:=some (.val (.str "whole"))) (s2:=some (.val (.int x))) (s3:=some (.val (.lst (ak (way us x))))) (s6:=none) (s7:=none) (s8:=none) (h:=hd us x) (way us x) us none rfl lt
  have e:jw us (way us x) (hd us x)=gm "whole" us x:=g8 (ym ..) fun t ht=>by rw[BB lt];simp only[nM,if_true]
  have es:oq "whole" us x=dp us x:=by simp only[oq,QK,if_false]
  rw[e] at el
  simp only[fL,d9,EE,Nat.reduceAdd,Nat.reduceSub,Nat.reduceLeDiff,Nat.reduceLT,Nat.reduceEqDiff,Int.reduceLT,Int.reduceLE,Int.reduceAdd,Int.reduceSub,Int.reduceMul,Int.reduceMod,Int.reduceDiv,Int.reduceNeg,Int.reduceToNat,Int.reducePow,Int.reduceEq,Lw,lw,jR,nj f hx,hd1,el,es]
 ·obtain⟨us',r,g1,g2⟩:=u9 _ w nd lt
  have e:us'=gm "halves" us x:=g8 g1 fun t ht=>by rw[g2];simp only[nM,n1,if_true,if_false]
  have es:oq "halves" us x=(way us x).length / 2:=by simp only[oq,if_true]
  obtain⟨z8,el⟩:=BG (s2:=some (.val (.int x))) (s3:=some (.val (.lst (ak (way us x))))) (s4:=some (.val (.int (hd us x:Nat)))) (s5:=none) r 0 none 10000 f.fst.bnd hx (by omega)
  rw[Nat.zero_add,e,←es] at el
  have el:d6 cB cE 10000 [some (.own (ak us)),some (.val (.str "halves")),some (.val (.int x)),some (.val (.lst (ak (way us x)))),some (.val (.int (hd us x:Nat))),none,some (.val (.int 0)),some (.val (.int x)),none]=_:=el
  simp only[fL,d9,EE,Nat.reduceAdd,Nat.reduceSub,Nat.reduceLeDiff,Nat.reduceLT,Nat.reduceEqDiff,Int.reduceLT,Int.reduceLE,Int.reduceAdd,Int.reduceSub,Int.reduceMul,Int.reduceMod,Int.reduceDiv,Int.reduceNeg,Int.reduceToNat,Int.reducePow,Int.reduceEq,Lw,lw,jR,nj f hx,hd1,el]
 ·obtain⟨us',r,g1,g2⟩:=zW w nd lt
  have e:us'=gm "splits" us x:=g8 g1 fun t ht=>by rw[g2];simp only[nM,n3,PY,if_true,if_false]
  have es:oq "splits" us x=(way us x).length - 1:=by simp only[oq,PY,if_false,dp]
  obtain⟨z8,el⟩:=Ah (s2:=some (.val (.int x))) (s3:=some (.val (.lst (ak (way us x))))) (s4:=some (.val (.int (hd us x:Nat)))) (s5:=none) r 0 none 10000 f.fst.bnd hx (by omega)
  rw[Nat.zero_add,e,←es] at el
  have el:d6 cB cE 10000 [some (.own (ak us)),some (.val (.str "splits")),some (.val (.int x)),some (.val (.lst (ak (way us x)))),some (.val (.int (hd us x:Nat))),none,some (.val (.int 0)),some (.val (.int x)),none]=_:=el
  simp only[fL,d9,EE,Nat.reduceAdd,Nat.reduceSub,Nat.reduceLeDiff,Nat.reduceLT,Nat.reduceEqDiff,Int.reduceLT,Int.reduceLE,Int.reduceAdd,Int.reduceSub,Int.reduceMul,Int.reduceMod,Int.reduceDiv,Int.reduceNeg,Int.reduceToNat,Int.reducePow,Int.reduceEq,Lw,lw,jR,nj f hx,hd1,el]
 ·have e:us.set x (up us (up us x))=gm "one" us x:=g8 (List.length_set) fun t ht=>by
   rw[bu hx]
   simp only[nM,n4,n5,n6,if_true,if_false]
   by_cases q:t=x
   ·rw[if_pos q,if_pos q,q]
   ·rw[if_neg q,if_neg q]
  have es:oq "one" us x=dp us x:=by simp only[oq,n6,if_false]
  simp only[fL,d9,EE,Nat.reduceAdd,Nat.reduceSub,Nat.reduceLeDiff,Nat.reduceLT,Nat.reduceEqDiff,Int.reduceLT,Int.reduceLE,Int.reduceAdd,Int.reduceSub,Int.reduceMul,Int.reduceMod,Int.reduceDiv,Int.reduceNeg,Int.reduceToNat,Int.reducePow,Int.reduceEq,Lw,lw,jR,nj f hx,hd1,az hx,az h1,bw hx,cb,e,es]
theorem KQ {x:PV}{ps:List PV}:By x (.ktu ps)=if plain x&&aH ps&&decide (cf ps≤50) then some (.fz (.bl (pin x ps))) else none:=Eq.trans rfl rfl
theorem Ds {lo j:Int}:mU [.rng lo j]=if lo=0/\0≤j/\j≤1000000 then some (.fz (.tup (vQ 0 j.toNat))) else none:=Eq.trans rfl rfl
noncomputable def Id (a b:Option RV)(i j:Nat)(ρ:aC):Out:=match a,b with
 |some (.nw ps),some (.nw qs)=>.nx ((ρ.set i (some (.own ps))).set j (some (.own qs)))
 |_,_=>.bad
theorem ku {i j:Nat}{f g:FE}{ρ:aC}:qJ i j f g ρ=Id (f ρ) (g ρ) i j ρ:=Eq.trans rfl rfl
theorem gJ {i j:Nat}{ps qs:List PV}{ρ:aC}:Id (some (.nw ps)) (some (.nw qs)) i j ρ=.nx ((ρ.set i (some (.own ps))).set j (some (.own qs))):=Eq.trans rfl rfl
noncomputable def BZ:List Str:=["size","rank","told","names"]
theorem j4 {j:Str}(h:j∈BZ):j = "size"\/j = "rank"\/j = "told"\/j = "names":=by
 simpa [BZ] using h
noncomputable def kK (j y:Str)(us ms:List Nat):PV:=.tup [.str j,.str y,.tup (ak us),.tup (ak ms)]
noncomputable def Im (j:Str):Nat:=if j = "size" then 1 else 0
theorem zd {n:Nat}(h1:1≤n)(h2:n≤40):fE [.int n]=some (.v (.bl true)):=J2 (by omega) (by omega)
theorem ud (us:List Nat)(i v w:Nat):(ak us).set i (PV.int ((v:Int)+(w:Int)))=ak (us.set i (v+w)):=rC us i (v+w)
theorem Az (us:List Nat)(i v:Nat):(ak us).set i (PV.int ((v:Int)+1))=ak (us.set i (v+1)):=rC us i (v+1)
theorem JJ:decide (("size" : Str) = "rank")=false/\decide (("size" : Str) = "told")=false/\decide (("size" : Str) = "names")=false/\decide (("rank" : Str) = "size")=false/\decide (("rank" : Str) = "told")=false/\decide (("rank" : Str) = "names")=false ∧
  decide (("told" : Str) = "size")=false/\decide (("told" : Str) = "rank")=false/\decide (("told" : Str) = "names")=false/\decide (("names" : Str) = "size")=false/\decide (("names" : Str) = "rank")=false/\decide (("names" : Str) = "told")=false:=by decide
theorem C7 {j:Str}(hj:j∈BZ):bc [.str j]=some (.v (.bl true)):=by
 have e:By (.str j) (.ktu [.str "size",.str "rank",.str "told",.str "names"])=some (.fz (.bl true)):=by
  have h1:(Pu.plain (.str j)&&aH [.str "size",.str "rank",.str "told",.str "names"]&&decide (cf [.str "size",.str "rank",.str "told",.str "names"]≤50))=true:=by simp[Pu.plain,aH,cf,oo]
  have h2:pin (.str j) [.str "size",.str "rank",.str "told",.str "names"]=true:=by
   unfold pin
   simp only[List.any_cons,pT,List.any_nil]
   rcases j4 hj with rfl|rfl|rfl|rfl<;>decide
  rw[KQ,h1,h2];rfl
 simp only[kW,jY,EE,Nat.reduceAdd,Nat.reduceSub,Nat.reduceLeDiff,Nat.reduceLT,Nat.reduceEqDiff,Int.reduceLT,Int.reduceLE,Int.reduceAdd,Int.reduceSub,Int.reduceMul,Int.reduceMod,Int.reduceDiv,Int.reduceNeg,Int.reduceToNat,Int.reducePow,Int.reduceEq,e]
theorem Kc {a n:Nat}(h1:1≤n)(h2:n≤1000):eU (.tup [.int a]) (.int n)=some (.fz (.tup (ak (List.replicate n a)))):=by
 have r:∀n:Nat,(List.replicate n [PV.int a]).flatten=ak (List.replicate n a):=fun n=>by
  induction n with
  |zero=>rfl
  |succ n ih=>rw[List.replicate_succ,List.flatten_cons,ih];rfl
 show (if ([PV.int a].isEmpty=false/\1≤(n:Int)/\(n:Int)≤1000/\[PV.int a].length≤1000) then some (RV.fz (.tup (List.replicate (n:Int).toNat [PV.int a]).flatten)) else none)=_
 rw[if_pos ⟨rfl,by omega,by omega,by simp⟩,Int.toNat_natCast,r]
theorem M3 {n:Nat}(h1:1≤n)(h2:n≤40){j y:Str}(hj:j∈BZ)(hy:y∈bt):dY [.int n,.str j,.str y]=some (.v (kK j y (List.range n) (List.replicate n (Im j)))):=by
 have er:mU [.rng 0 n]=some (.fz (.tup (ak (List.range n)))):=by rw[Ds,if_pos ⟨rfl,by omega,by omega⟩,Int.toNat_natCast,Dk]
 have ek:=(K1 (show n≤100000 by omega)).2.1
 have m0:=Kc (a:=0) h1 (show n≤1000 by omega)
 have m1:=Kc (a:=1) h1 (show n≤1000 by omega)
 have m0:eU (.tup [.int 0]) (.int n)=_:=m0
 have m1:eU (.tup [.int 1]) (.int n)=_:=m1
 unfold kK
 rcases j4 hj with rfl|rfl|rfl|rfl <;>
  simp only[sM,pJ,md,jV,p8,oF,EE,Nat.reduceAdd,Nat.reduceSub,Nat.reduceLeDiff,Nat.reduceLT,Nat.reduceEqDiff,Int.reduceLT,Int.reduceLE,Int.reduceAdd,Int.reduceSub,Int.reduceMul,Int.reduceMod,Int.reduceDiv,Int.reduceNeg,Int.reduceToNat,Int.reducePow,Int.reduceEq,zd h1 h2,C7 hj,CY hy,JJ,ek,er,m0,m1,Im]<;>rfl
theorem qW {n:Nat}(h1:1≤n)(h2:n≤40):Frst (List.range n):=by
 have u:∀x,x<n->up (List.range n) x=x:=fun x hx=>by unfold up;rw[List.getD_eq_getElem?_getD,List.getElem?_range hx];rfl
 refine⟨by rw[List.length_range];exact h1,by rw[List.length_range];exact h2,⟨fun x hx=>?_,fun _=>0,fun x hx=>?_,fun x hx hn=>?_⟩⟩
 ·rw[List.length_range] at hx ⊢;rw[u x hx];exact hx
 ·show 0<_;omega
 ·rw[List.length_range] at hx;exact absurd (u x hx) hn
theorem Cj (ms:List Nat):iy [.tup (ak ms)]=some (.v (.tup (ak ms))):=by
 simp only[yW,uN,EE,Nat.reduceAdd,Nat.reduceSub,Nat.reduceLeDiff,Nat.reduceLT,Nat.reduceEqDiff,Int.reduceLT,Int.reduceLE,Int.reduceAdd,Int.reduceSub,Int.reduceMul,Int.reduceMod,Int.reduceDiv,Int.reduceNeg,Int.reduceToNat,Int.reducePow,Int.reduceEq]
theorem zV {us ms:List Nat}(f:Frst us){j y:Str}(hy:y∈bt){x:Nat}(hx:x<us.length):cz [kK j y us ms,.int x]=some (.v (.tup [kK j y (gm y us x) ms,.int (hd us x:Nat),.int (oq y us x:Nat)])):=by
 have e:=Bt f hy hx
 simp only[nI] at e
 unfold kK
 simp only[se,pF,EE,Nat.reduceAdd,Nat.reduceSub,Nat.reduceLeDiff,Nat.reduceLT,Nat.reduceEqDiff,Int.reduceLT,Int.reduceLE,Int.reduceAdd,Int.reduceSub,Int.reduceMul,Int.reduceMod,Int.reduceDiv,Int.reduceNeg,Int.reduceToNat,Int.reducePow,Int.reduceEq,e,Cj]
noncomputable def stay (j:Str)(ms:List Nat)(a b:Nat):Bool:=if j = "told" then true else if j = "names" then decide (a<b) else decide (up ms b≤up ms a)
noncomputable def y6 (j:Str)(p q:Nat):Nat:=if j = "size" then p+q else if j = "rank"/\p=q then p+1 else p
noncomputable def tp (j:Str)(ms:List Nat)(a b:Nat):Nat:=if stay j ms a b then a else b
noncomputable def un (j:Str)(ms:List Nat)(a b:Nat):Nat:=if stay j ms a b then b else a
noncomputable def oU (j:Str)(us ms:List Nat)(a b:Nat):List Nat:=us.set (un j ms a b) (tp j ms a b)
noncomputable def qi (j:Str)(ms:List Nat)(a b:Nat):List Nat:=ms.set (tp j ms a b) (y6 j (up ms (tp j ms a b)) (up ms (un j ms a b)))
theorem GX {j:Str}(hj:j∈BZ){ms:List Nat}{a b:Nat}(ha:a<ms.length)(hb:b<ms.length):cq [.str j,.tup (ak ms),.int a,.int b]=some (.v (.bl (stay j ms a b))):=by
 have d1:decide ((a:Int)<(b:Int))=decide (a<b):=decide_eq_decide.mpr (by omega)
 have d2:decide ((up ms b:Int)≤(up ms a:Int))=decide (up ms b≤up ms a):=decide_eq_decide.mpr (by omega)
 rcases j4 hj with rfl|rfl|rfl|rfl
 ·rw[show stay "size" ms a b=decide (up ms b≤up ms a) from rfl];simp only[fP,eQ,EE,Nat.reduceAdd,Nat.reduceSub,Nat.reduceLeDiff,Nat.reduceLT,Nat.reduceEqDiff,Int.reduceLT,Int.reduceLE,Int.reduceAdd,Int.reduceSub,Int.reduceMul,Int.reduceMod,Int.reduceDiv,Int.reduceNeg,Int.reduceToNat,Int.reducePow,Int.reduceEq,JJ,az ha,az hb,d2]
 ·rw[show stay "rank" ms a b=decide (up ms b≤up ms a) from rfl];simp only[fP,eQ,EE,Nat.reduceAdd,Nat.reduceSub,Nat.reduceLeDiff,Nat.reduceLT,Nat.reduceEqDiff,Int.reduceLT,Int.reduceLE,Int.reduceAdd,Int.reduceSub,Int.reduceMul,Int.reduceMod,Int.reduceDiv,Int.reduceNeg,Int.reduceToNat,Int.reducePow,Int.reduceEq,JJ,az ha,az hb,d2]
 ·rw[show stay "told" ms a b=true from rfl];simp only[fP,eQ,EE,Nat.reduceAdd,Nat.reduceSub,Nat.reduceLeDiff,Nat.reduceLT,Nat.reduceEqDiff,Int.reduceLT,Int.reduceLE,Int.reduceAdd,Int.reduceSub,Int.reduceMul,Int.reduceMod,Int.reduceDiv,Int.reduceNeg,Int.reduceToNat,Int.reducePow,Int.reduceEq]
 ·rw[show stay "names" ms a b=decide (a<b) from rfl];simp only[fP,eQ,EE,Nat.reduceAdd,Nat.reduceSub,Nat.reduceLeDiff,Nat.reduceLT,Nat.reduceEqDiff,Int.reduceLT,Int.reduceLE,Int.reduceAdd,Int.reduceSub,Int.reduceMul,Int.reduceMod,Int.reduceDiv,Int.reduceNeg,Int.reduceToNat,Int.reducePow,Int.reduceEq,JJ,d1]
theorem C2 {j:Str}(hj:j∈BZ)(p q:Nat):cr [.str j,.int p,.int q]=some (.v (.int (y6 j p q:Nat))):=by
 have d:decide ((p:Int)=(q:Int))=decide (p=q):=decide_eq_decide.mpr (by omega)
 rcases j4 hj with rfl|rfl|rfl|rfl
 ·rw[show y6 "size" p q=p+q from rfl];simp only[d8,cR,EE,Nat.reduceAdd,Nat.reduceSub,Nat.reduceLeDiff,Nat.reduceLT,Nat.reduceEqDiff,Int.reduceLT,Int.reduceLE,Int.reduceAdd,Int.reduceSub,Int.reduceMul,Int.reduceMod,Int.reduceDiv,Int.reduceNeg,Int.reduceToNat,Int.reducePow,Int.reduceEq];rfl
 ·by_cases h:p=q
  ·rw[show y6 "rank" p q=p+1 by unfold y6;rw[if_neg (by decide),if_pos ⟨rfl,h⟩]];simp only[d8,cR,EE,Nat.reduceAdd,Nat.reduceSub,Nat.reduceLeDiff,Nat.reduceLT,Nat.reduceEqDiff,Int.reduceLT,Int.reduceLE,Int.reduceAdd,Int.reduceSub,Int.reduceMul,Int.reduceMod,Int.reduceDiv,Int.reduceNeg,Int.reduceToNat,Int.reducePow,Int.reduceEq,JJ,d,decide_eq_true h];rfl
  ·rw[show y6 "rank" p q=p by unfold y6;rw[if_neg (by decide),if_neg fun z=>h z.2]];simp only[d8,cR,EE,Nat.reduceAdd,Nat.reduceSub,Nat.reduceLeDiff,Nat.reduceLT,Nat.reduceEqDiff,Int.reduceLT,Int.reduceLE,Int.reduceAdd,Int.reduceSub,Int.reduceMul,Int.reduceMod,Int.reduceDiv,Int.reduceNeg,Int.reduceToNat,Int.reducePow,Int.reduceEq,JJ,d,decide_eq_false h]
 ·rw[show y6 "told" p q=p from rfl];simp only[d8,cR,EE,Nat.reduceAdd,Nat.reduceSub,Nat.reduceLeDiff,Nat.reduceLT,Nat.reduceEqDiff,Int.reduceLT,Int.reduceLE,Int.reduceAdd,Int.reduceSub,Int.reduceMul,Int.reduceMod,Int.reduceDiv,Int.reduceNeg,Int.reduceToNat,Int.reducePow,Int.reduceEq,JJ]
 ·rw[show y6 "names" p q=p from rfl];simp only[d8,cR,EE,Nat.reduceAdd,Nat.reduceSub,Nat.reduceLeDiff,Nat.reduceLT,Nat.reduceEqDiff,Int.reduceLT,Int.reduceLE,Int.reduceAdd,Int.reduceSub,Int.reduceMul,Int.reduceMod,Int.reduceDiv,Int.reduceNeg,Int.reduceToNat,Int.reducePow,Int.reduceEq,JJ]
theorem NQ {j y:Str}(hj:j∈BZ){us ms:List Nat}{a b:Nat}(hl:ms.length=us.length)(ha:a<us.length)(hb:b<us.length):bd [kK j y us ms,.int a,.int b]=some (.v (kK j y (oU j us ms a b) (qi j ms a b))):=by
 have st:=GX hj (ms:=ms) (show a<ms.length by omega) (show b<ms.length by omega)
 unfold kK oU qi tp un
 cases h:stay j ms a b with
 |true=>
  rw[h] at st
  simp only[g6,gc,EE,Nat.reduceAdd,Nat.reduceSub,Nat.reduceLeDiff,Nat.reduceLT,Nat.reduceEqDiff,Int.reduceLT,Int.reduceLE,Int.reduceAdd,Int.reduceSub,Int.reduceMul,Int.reduceMod,Int.reduceDiv,Int.reduceNeg,Int.reduceToNat,Int.reducePow,Int.reduceEq,st,bw ha,bw hb,bw (show a<ms.length by omega),cb,az (show a<ms.length by omega),az (show b<ms.length by omega),C2 hj]
 |false=>
  rw[h] at st
  simp only[g6,gc,EE,Nat.reduceAdd,Nat.reduceSub,Nat.reduceLeDiff,Nat.reduceLT,Nat.reduceEqDiff,Int.reduceLT,Int.reduceLE,Int.reduceAdd,Int.reduceSub,Int.reduceMul,Int.reduceMod,Int.reduceDiv,Int.reduceNeg,Int.reduceToNat,Int.reducePow,Int.reduceEq,st,bw ha,bw hb,bw (show b<ms.length by omega),cb,az (show a<ms.length by omega),az (show b<ms.length by omega),C2 hj,Bool.false_eq_true,if_false]
theorem GR {j:Str}{ms:List Nat}{a b:Nat}:(qi j ms a b).length=ms.length:=by unfold qi;rw[List.length_set]
theorem Hv {j:Str}{us ms:List Nat}{a b:Nat}:(oU j us ms a b).length=us.length:=by unfold oU;rw[List.length_set]
theorem Ee {us:List Nat}(f:Frst us){j:Str}{ms:List Nat}{a b:Nat}(ha:a<us.length)(hb:b<us.length)(ea:up us a=a)(eb:up us b=b)(ne:a≠b):Frst (oU j us ms a b):=by
 unfold oU tp un
 cases stay j ms a b with
 |true=>exact oT f hb ha eb ea ne
 |false=>exact oT f ha hb ea eb ne.symm
theorem lY {ms:List Nat}{t v:Nat}(h:v=up ms t):ms.set t v=ms:=by
 subst h
 by_cases ht:t<ms.length
 ·refine Et (List.length_set) fun z=>?_
  rw[bu ht]
  split
  ·next e=>rw[e]
  ·rfl
 ·rw[List.set_eq_of_length_le (by omega)]
theorem AS {j:Str}(hj:j∈BZ){us ms:List Nat}{a b:Nat}(hl:ms.length=us.length)(ha:a<us.length)(hb:b<us.length)(ne:a≠b):cu [.str j,.tup (ak us),.tup (ak ms),.int a,.int b]=some (.v (.tup [.tup (ak (oU j us ms a b)),.tup (ak (qi j ms a b))])):=by
 have a':a<ms.length:=by omega
 have b':b<ms.length:=by omega
 have d1:decide ((b:Int)<(a:Int))=decide (b<a):=decide_eq_decide.mpr (by omega)
 have d2:decide ((up ms a:Int)<(up ms b:Int))=decide (up ms a<up ms b):=decide_eq_decide.mpr (by omega)
 have d3:decide ((up ms a:Int)=(up ms b:Int))=decide (up ms a=up ms b):=decide_eq_decide.mpr (by omega)
 have d4:decide ((up ms b:Int)=(up ms a:Int))=decide (up ms b=up ms a):=decide_eq_decide.mpr (by omega)
 have ps:aH [PV.str "size",.str "rank"]=true:=by simp[aH,Pu.plain]
 have ds:decide (cf [PV.str "size",.str "rank"]≤50)=true:=by simp[cf,oo]
 have pi:∀k:Str,pin (.str k) [.str "size",.str "rank"]=(decide (("size" : Str)=k) || decide (("rank" : Str)=k)):=fun k=>by
  unfold pin;rw[List.any_cons,List.any_cons,List.any_nil,pT,pT,Bool.or_false]
 rcases j4 hj with rfl|rfl|rfl|rfl
 ·by_cases h:up ms a<up ms b
  ·have es:stay "size" ms a b=false:=decide_eq_false (by omega)
   have e1:oU "size" us ms a b=us.set a b:=by unfold oU tp un;rw[es];rfl
   have e2:qi "size" ms a b=ms.set b (up ms b+up ms a):=by unfold qi tp un;rw[es];rfl
   rw[e1,e2]
   simp only[bR,bq,EE,Nat.reduceAdd,Nat.reduceSub,Nat.reduceLeDiff,Nat.reduceLT,Nat.reduceEqDiff,Int.reduceLT,Int.reduceLE,Int.reduceAdd,Int.reduceSub,Int.reduceMul,Int.reduceMod,Int.reduceDiv,Int.reduceNeg,Int.reduceToNat,Int.reducePow,Int.reduceEq,ku,gJ,ps,ds,pi,JJ,az a',az b',d2,decide_eq_true h,bw ha,bw b',cb,ud]
  ·have es:stay "size" ms a b=true:=decide_eq_true (by omega)
   have e1:oU "size" us ms a b=us.set b a:=by unfold oU tp un;rw[es];rfl
   have e2:qi "size" ms a b=ms.set a (up ms a+up ms b):=by unfold qi tp un;rw[es];rfl
   rw[e1,e2]
   simp only[bR,bq,EE,Nat.reduceAdd,Nat.reduceSub,Nat.reduceLeDiff,Nat.reduceLT,Nat.reduceEqDiff,Int.reduceLT,Int.reduceLE,Int.reduceAdd,Int.reduceSub,Int.reduceMul,Int.reduceMod,Int.reduceDiv,Int.reduceNeg,Int.reduceToNat,Int.reducePow,Int.reduceEq,ku,gJ,ps,ds,pi,JJ,az a',az b',d2,decide_eq_false h,bw hb,bw a',cb,ud]
 ·by_cases h:up ms a<up ms b
  ·have es:stay "rank" ms a b=false:=decide_eq_false (by omega)
   have e1:oU "rank" us ms a b=us.set a b:=by unfold oU tp un;rw[es];rfl
   have h2:decide (up ms b=up ms a)=false:=decide_eq_false (by omega)
   have e2:qi "rank" ms a b=ms:=by
    unfold qi tp un;rw[es]
    refine lY ?_
    show y6 "rank" (up ms b) (up ms a)=up ms b
    unfold y6
    rw[if_neg (by decide),if_neg fun z=>by have:=z.2;omega]
   rw[e1,e2]
   simp only[bR,bq,EE,Nat.reduceAdd,Nat.reduceSub,Nat.reduceLeDiff,Nat.reduceLT,Nat.reduceEqDiff,Int.reduceLT,Int.reduceLE,Int.reduceAdd,Int.reduceSub,Int.reduceMul,Int.reduceMod,Int.reduceDiv,Int.reduceNeg,Int.reduceToNat,Int.reducePow,Int.reduceEq,ku,gJ,ps,ds,pi,JJ,az a',az b',d2,d4,h2,decide_eq_true h,bw ha,bw b',cb]
  ·have es:stay "rank" ms a b=true:=decide_eq_true (by omega)
   have e1:oU "rank" us ms a b=us.set b a:=by unfold oU tp un;rw[es];rfl
   rw[e1]
   by_cases q:up ms a=up ms b
   ·have e2:qi "rank" ms a b=ms.set a (up ms a+1):=by
     unfold qi tp un;rw[es]
     show ms.set a (y6 "rank" (up ms a) (up ms b))=_
     unfold y6
     rw[if_neg (by decide),if_pos ⟨rfl,q⟩]
    rw[e2]
    simp only[bR,bq,EE,Nat.reduceAdd,Nat.reduceSub,Nat.reduceLeDiff,Nat.reduceLT,Nat.reduceEqDiff,Int.reduceLT,Int.reduceLE,Int.reduceAdd,Int.reduceSub,Int.reduceMul,Int.reduceMod,Int.reduceDiv,Int.reduceNeg,Int.reduceToNat,Int.reducePow,Int.reduceEq,ku,gJ,ps,ds,pi,JJ,az a',az b',d2,d3,decide_eq_true q,decide_eq_false h,bw hb,bw a',cb,Az]
   ·have e2:qi "rank" ms a b=ms:=by
     unfold qi tp un;rw[es]
     refine lY ?_
     show y6 "rank" (up ms a) (up ms b)=_
     unfold y6
     rw[if_neg (by decide),if_neg fun z=>q z.2]
     rfl
    rw[e2]
    simp only[bR,bq,EE,Nat.reduceAdd,Nat.reduceSub,Nat.reduceLeDiff,Nat.reduceLT,Nat.reduceEqDiff,Int.reduceLT,Int.reduceLE,Int.reduceAdd,Int.reduceSub,Int.reduceMul,Int.reduceMod,Int.reduceDiv,Int.reduceNeg,Int.reduceToNat,Int.reducePow,Int.reduceEq,ku,gJ,ps,ds,pi,JJ,az a',az b',d2,d3,decide_eq_false q,decide_eq_false h,bw hb,bw a',cb]
 ·have e1:oU "told" us ms a b=us.set b a:=rfl
  have e2:qi "told" ms a b=ms:=lY rfl
  rw[e1,e2]
  simp only[bR,bq,EE,Nat.reduceAdd,Nat.reduceSub,Nat.reduceLeDiff,Nat.reduceLT,Nat.reduceEqDiff,Int.reduceLT,Int.reduceLE,Int.reduceAdd,Int.reduceSub,Int.reduceMul,Int.reduceMod,Int.reduceDiv,Int.reduceNeg,Int.reduceToNat,Int.reducePow,Int.reduceEq,ku,gJ,ps,ds,pi,JJ,bw hb,cb]
 ·by_cases h:b<a
  ·have es:stay "names" ms a b=false:=decide_eq_false (by omega)
   have e1:oU "names" us ms a b=us.set a b:=by unfold oU tp un;rw[es];rfl
   have e2:qi "names" ms a b=ms:=by unfold qi tp un;rw[es];exact lY rfl
   rw[e1,e2]
   simp only[bR,bq,EE,Nat.reduceAdd,Nat.reduceSub,Nat.reduceLeDiff,Nat.reduceLT,Nat.reduceEqDiff,Int.reduceLT,Int.reduceLE,Int.reduceAdd,Int.reduceSub,Int.reduceMul,Int.reduceMod,Int.reduceDiv,Int.reduceNeg,Int.reduceToNat,Int.reducePow,Int.reduceEq,ku,gJ,ps,ds,pi,JJ,d1,decide_eq_true h,bw ha,cb]
  ·have es:stay "names" ms a b=true:=decide_eq_true (by omega)
   have e1:oU "names" us ms a b=us.set b a:=by unfold oU tp un;rw[es];rfl
   have e2:qi "names" ms a b=ms:=by unfold qi tp un;rw[es];exact lY rfl
   rw[e1,e2]
   simp only[bR,bq,EE,Nat.reduceAdd,Nat.reduceSub,Nat.reduceLeDiff,Nat.reduceLT,Nat.reduceEqDiff,Int.reduceLT,Int.reduceLE,Int.reduceAdd,Int.reduceSub,Int.reduceMul,Int.reduceMod,Int.reduceDiv,Int.reduceNeg,Int.reduceToNat,Int.reducePow,Int.reduceEq,ku,gJ,ps,ds,pi,JJ,d1,decide_eq_false h,bw hb,cb]
inductive Deed where
 |find (x:Nat)|join (x y:Nat)
noncomputable def Deed.pv:Deed->PV
 |.find x=>.tup [.str "find",.int x]
 |.join x y=>.tup [.str "join",.int x,.int y]
noncomputable def Deed.ok (n:Nat):Deed->Prop
 |.find x=>x<n
 |.join x y=>x<n/\y<n
structure Sto (n:Nat)(us ms:List Nat):Prop where
 f:Frst us
 lu:us.length=n
 lm:ms.length=n
noncomputable def dU (j y:Str)(us ms:List Nat):Deed->List Nat
 |.find x=>gm y us x
 |.join x z=>if hd us x=hd us z then gm y (gm y us x) z else oU j (gm y (gm y us x) z) ms (hd us x) (hd us z)
noncomputable def dM (j:Str)(us ms:List Nat):Deed->List Nat
 |.find _=>ms
 |.join x z=>if hd us x=hd us z then ms else qi j ms (hd us x) (hd us z)
noncomputable def dA (us:List Nat):Deed->PV
 |.find x=>.int (hd us x:Nat)
 |.join x z=>.bl (!decide (hd us x=hd us z))
noncomputable def dS (y:Str)(us:List Nat):Deed->Nat
 |.find x=>oq y us x
 |.join x z=>oq y us x+oq y (gm y us x) z
noncomputable def ll (j y:Str)(us ms:List Nat)(d:Deed):PV:=.tup [kK j y (dU j y us ms d) (dM j us ms d),dA us d,.int (dS y us d:Nat)]
theorem uF {us:List Nat}(f:Frst us){x:Nat}(hx:x<us.length){y:Str}(hy:y∈bt){t:Nat}(ht:t<us.length):hd (gm y us x) t=hd us t:=(CD f.fst hx hy ht).1
theorem CJ {n:Nat}{us ms:List Nat}(S:Sto n us ms){j y:Str}(hy:y∈bt){d:Deed}(hd':d.ok n):Sto n (dU j y us ms d) (dM j us ms d):=by
 obtain⟨f,lu,lm⟩:=S
 cases d with
 |find x=>
  have hx:x<us.length:=by rw[lu];exact hd'
  exact⟨lJ f hx hy,by show (gm y us x).length=n;rw[eS,lu],lm⟩
 |join x z=>
  have hx:x<us.length:=by rw[lu];exact hd'.1
  have hz:z<us.length:=by rw[lu];exact hd'.2
  have f1:=lJ f hx hy
  have l1:=eS y us x
  have hz1:z<(gm y us x).length:=by omega
  have f2:=lJ f1 hz1 hy
  have l2:=eS y (gm y us x) z
  show Sto n (if hd us x=hd us z then _ else _) (if hd us x=hd us z then _ else _)
  by_cases e:hd us x=hd us z
  ·rw[if_pos e,if_pos e];exact⟨f2,by omega,lm⟩
  ·rw[if_neg e,if_neg e]
   have hd2:∀t,t<us.length->hd (gm y (gm y us x) z) t=hd us t:=fun t ht=>by rw[uF f1 hz1 hy (by omega),uF f hx hy ht]
   have top:∀t,t<us.length->up (gm y (gm y us x) z) (hd us t)=hd us t:=fun t ht=>by
    have:=wJ f2.fst (show t<(gm y (gm y us x) z).length by omega)
    rwa [hd2 t ht] at this
   have a1:=mY f.fst hx
   have a2:=mY f.fst hz
   exact⟨Ee f2 (by omega) (by omega) (top x hx) (top z hz) e,by rw[Hv];omega,by rw[GR];exact lm⟩
theorem HP {n:Nat}{us ms:List Nat}(S:Sto n us ms){j y:Str}(hj:j∈BZ)(hy:y∈bt){x z:Nat}(hx':x<n)(hz':z<n):cX [kK j y us ms,.int x,.int z]=some (.v (ll j y us ms (.join x z))):=by
 obtain⟨f,lu,lm⟩:=S
 have hx:x<us.length:=by omega
 have hz:z<us.length:=by omega
 have f1:=lJ f hx hy
 have l1:=eS y us x
 have hz1:z<(gm y us x).length:=by omega
 have l2:=eS y (gm y us x) z
 have e1:=zV f hy hx (ms:=ms) (j:=j)
 have e2:=zV f1 hy hz1 (ms:=ms) (j:=j)
 rw[uF f hx hy hz] at e2
 have a1:=mY f.fst hx
 have a2:=mY f.fst hz
 have d:decide ((hd us x:Int)=(hd us z:Int))=decide (hd us x=hd us z):=decide_eq_decide.mpr (by omega)
 by_cases e:hd us x=hd us z
 ·have r:ll j y us ms (.join x z)=.tup [kK j y (gm y (gm y us x) z) ms,.bl false,.int (oq y us x+oq y (gm y us x) z:Nat)]:=by
   unfold ll
   show PV.tup [kK j y (if hd us x=hd us z then _ else _) (if hd us x=hd us z then _ else _),.bl (!decide (hd us x=hd us z)),_]=_
   rw[if_pos e,if_pos e,decide_eq_true e];rfl
  rw[r]
  simp only[mX,kP,EE,Nat.reduceAdd,Nat.reduceSub,Nat.reduceLeDiff,Nat.reduceLT,Nat.reduceEqDiff,Int.reduceLT,Int.reduceLE,Int.reduceAdd,Int.reduceSub,Int.reduceMul,Int.reduceMod,Int.reduceDiv,Int.reduceNeg,Int.reduceToNat,Int.reducePow,Int.reduceEq,e1,e2,d,decide_eq_true e]
  rfl
 ·have e3:=NQ (y:=y) hj (us:=gm y (gm y us x) z) (ms:=ms) (a:=hd us x) (b:=hd us z) (by omega) (by omega) (by omega)
  have r:ll j y us ms (.join x z)=.tup [kK j y (oU j (gm y (gm y us x) z) ms (hd us x) (hd us z)) (qi j ms (hd us x) (hd us z)),.bl true,.int (oq y us x+oq y (gm y us x) z:Nat)]:=by
   unfold ll
   show PV.tup [kK j y (if hd us x=hd us z then _ else _) (if hd us x=hd us z then _ else _),.bl (!decide (hd us x=hd us z)),_]=_
   rw[if_neg e,if_neg e,decide_eq_false e];rfl
  rw[r]
  simp only[mX,kP,EE,Nat.reduceAdd,Nat.reduceSub,Nat.reduceLeDiff,Nat.reduceLT,Nat.reduceEqDiff,Int.reduceLT,Int.reduceLE,Int.reduceAdd,Int.reduceSub,Int.reduceMul,Int.reduceMod,Int.reduceDiv,Int.reduceNeg,Int.reduceToNat,Int.reducePow,Int.reduceEq,e1,e2,e3,d,decide_eq_false e]
  rfl
theorem DD:decide (("find" : Str) = "join")=false/\decide (("join" : Str) = "find")=false:=by decide
theorem EZ {n:Nat}{us ms:List Nat}(S:Sto n us ms){j y:Str}(hj:j∈BZ)(hy:y∈bt){d:Deed}(h:d.ok n):cS [kK j y us ms,d.pv]=some (.v (ll j y us ms d)):=by
 obtain⟨f,lu,lm⟩:=S
 cases d with
 |find x=>
  have hx:x<us.length:=by rw[lu];exact h
  have a0:L2.atI [PV.str "find",.int (x:Int)] 0=some (.str "find"):=rfl
  have a1:L2.atI [PV.str "find",.int (x:Int)] 1=some (.int x):=rfl
  simp only[Deed.pv,ll,dU,dM,dA,dS,kK]
  simp only[jE,iI,EE,Nat.reduceAdd,Nat.reduceSub,Nat.reduceLeDiff,Nat.reduceLT,Nat.reduceEqDiff,Int.reduceLT,Int.reduceLE,Int.reduceAdd,Int.reduceSub,Int.reduceMul,Int.reduceMod,Int.reduceDiv,Int.reduceNeg,Int.reduceToNat,Int.reducePow,Int.reduceEq,DD,a0,a1,ut f hy hx]
 |join x z=>
  have hx:x<us.length:=by rw[lu];exact h.1
  have hz:z<us.length:=by rw[lu];exact h.2
  have f1:=lJ f hx hy
  have l1:=eS y us x
  have hz1:z<(gm y us x).length:=by omega
  have l2:=eS y (gm y us x) z
  have e1:=ut f hy hx
  have e2:=ut f1 hy hz1
  rw[uF f hx hy hz] at e2
  have a1':=mY f.fst hx
  have a2':=mY f.fst hz
  have d:decide ((hd us x:Int)=(hd us z:Int))=decide (hd us x=hd us z):=decide_eq_decide.mpr (by omega)
  have a0:L2.atI [PV.str "join",.int (x:Int),.int (z:Int)] 0=some (.str "join"):=rfl
  have a1:L2.atI [PV.str "join",.int (x:Int),.int (z:Int)] 1=some (.int x):=rfl
  have a2:L2.atI [PV.str "join",.int (x:Int),.int (z:Int)] 2=some (.int z):=rfl
  by_cases e:hd us x=hd us z
  ·have r:ll j y us ms (.join x z)=.tup [kK j y (gm y (gm y us x) z) ms,.bl false,.int (oq y us x+oq y (gm y us x) z:Nat)]:=by
    unfold ll
    show PV.tup [kK j y (if hd us x=hd us z then _ else _) (if hd us x=hd us z then _ else _),.bl (!decide (hd us x=hd us z)),_]=_
    rw[if_pos e,if_pos e,decide_eq_true e];rfl
   rw[r]
   simp only[Deed.pv,kK]
   simp only[jE,iI,EE,Nat.reduceAdd,Nat.reduceSub,Nat.reduceLeDiff,Nat.reduceLT,Nat.reduceEqDiff,Int.reduceLT,Int.reduceLE,Int.reduceAdd,Int.reduceSub,Int.reduceMul,Int.reduceMod,Int.reduceDiv,Int.reduceNeg,Int.reduceToNat,Int.reducePow,Int.reduceEq,DD,a0,a1,a2,e1,e2,d,decide_eq_true e]
   rfl
  ·have e3:=AS hj (us:=gm y (gm y us x) z) (ms:=ms) (a:=hd us x) (b:=hd us z) (by omega) (by omega) (by omega) e
   have r:ll j y us ms (.join x z)=.tup [kK j y (oU j (gm y (gm y us x) z) ms (hd us x) (hd us z)) (qi j ms (hd us x) (hd us z)),.bl true,.int (oq y us x+oq y (gm y us x) z:Nat)]:=by
    unfold ll
    show PV.tup [kK j y (if hd us x=hd us z then _ else _) (if hd us x=hd us z then _ else _),.bl (!decide (hd us x=hd us z)),_]=_
    rw[if_neg e,if_neg e,decide_eq_false e];rfl
   rw[r]
   simp only[Deed.pv,kK]
   simp only[jE,iI,EE,Nat.reduceAdd,Nat.reduceSub,Nat.reduceLeDiff,Nat.reduceLT,Nat.reduceEqDiff,Int.reduceLT,Int.reduceLE,Int.reduceAdd,Int.reduceSub,Int.reduceMul,Int.reduceMod,Int.reduceDiv,Int.reduceNeg,Int.reduceToNat,Int.reducePow,Int.reduceEq,DD,a0,a1,a2,e1,e2,e3,d,decide_eq_false e]
   rfl
end Dp
end
section
namespace Dp
open PySem L2 Fo Pu
noncomputable def JA:FS:=(aZ 7 (DN (ap aF (aa (ap aX (aa (fV 0) (aa (aj bo (aj bo (fV 1) (fC (.int 1))) (aj jy (fV 6) (fC (.int 5)))) ah))) (aa (fC (.int 20)) ah))) (vv (aj eU (fC (.int 4)) (aj bn (fV 6) (fC (.int 5))))) uQ))
theorem OD {ρ:aC}:JA ρ=(aZ 7 (DN (ap aF (aa (ap aX (aa (fV 0) (aa (aj bo (aj bo (fV 1) (fC (.int 1))) (aj jy (fV 6) (fC (.int 5)))) ah))) (aa (fC (.int 20)) ah))) (vv (aj eU (fC (.int 4)) (aj bn (fV 6) (fC (.int 5))))) uQ)) ρ:=Eq.trans rfl rfl
noncomputable def JB:FS:=(oC 8 9 (aa (aj bn (aj be (fV 7) (fC (.int 0))) (fV 2)) (aa (aj bn (aj be (fV 7) (fC (.int 1))) (fV 2)) ah)))
theorem O7 {ρ:aC}:JB ρ=(oC 8 9 (aa (aj bn (aj be (fV 7) (fC (.int 0))) (fV 2)) (aa (aj bn (aj be (fV 7) (fC (.int 1))) (fV 2)) ah))) ρ:=Eq.trans rfl rfl
noncomputable def Ov:FS:=(fA (fT (aj dB (aj bn (aj be (fV 4) (fC (.int 1))) (fC (.int 4))) (fC (.int 1)))) (oC 8 9 (aa (aj bn (fV 6) (fV 2)) (aa (aj bn (aj bo (fV 6) (fC (.int 1))) (fV 2)) ah))) aK)
theorem IE {ρ:aC}:Ov ρ=(fA (fT (aj dB (aj bn (aj be (fV 4) (fC (.int 1))) (fC (.int 4))) (fC (.int 1)))) (oC 8 9 (aa (aj bn (fV 6) (fV 2)) (aa (aj bn (aj bo (fV 6) (fC (.int 1))) (fV 2)) ah))) aK) ρ:=Eq.trans rfl rfl
noncomputable def OF:FS:=(fA (gY (fT (aj dB (aj bn (aj be (fV 4) (fC (.int 1))) (fC (.int 4))) (fC (.int 2)))) (fT (aj Df (aj bn (aj be (fV 7) (fC (.int 2))) (fC (.int 3))) (fC (.int 0))))) (al (aZ 8 (aj bn (aj eU (aj jy (fV 8) (fC (.int 2))) (fC (.int 2))) (fV 2))) (aZ 9 (fB tD (aa (aj vY (fV 2) (fC (.int 1))) (aa (aj bo (fV 8) (fC (.int 1))) ah))))) aK)
theorem Eo {ρ:aC}:OF ρ=(fA (gY (fT (aj dB (aj bn (aj be (fV 4) (fC (.int 1))) (fC (.int 4))) (fC (.int 2)))) (fT (aj Df (aj bn (aj be (fV 7) (fC (.int 2))) (fC (.int 3))) (fC (.int 0))))) (al (aZ 8 (aj bn (aj eU (aj jy (fV 8) (fC (.int 2))) (fC (.int 2))) (fV 2))) (aZ 9 (fB tD (aa (aj vY (fV 2) (fC (.int 1))) (aa (aj bo (fV 8) (fC (.int 1))) ah))))) aK) ρ:=Eq.trans rfl rfl
noncomputable def OP:FS:=(fA (gY (fT (aj iw (fV 5) (eV ah))) (fT (aj dB (aj bn (aj be (fV 7) (fC (.int 2))) (fC (.int 7))) (fC (.int 1))))) (fM (aj be (fV 5) (aj bn (aj be (fV 7) (fC (.int 3))) (fB gX (aa (fV 5) ah)))) (iR 2 (gC (gN 8) (gC (gN 9) g0)))) aK)
theorem Cu {ρ:aC}:OP ρ=(fA (gY (fT (aj iw (fV 5) (eV ah))) (fT (aj dB (aj bn (aj be (fV 7) (fC (.int 2))) (fC (.int 7))) (fC (.int 1))))) (fM (aj be (fV 5) (aj bn (aj be (fV 7) (fC (.int 3))) (fB gX (aa (fV 5) ah)))) (iR 2 (gC (gN 8) (gC (gN 9) g0)))) aK) ρ:=Eq.trans rfl rfl
noncomputable def JD:FS:=(kX 5 (aa (aj be (eV (aa (bQ (aa (fV 8) (aa (fV 9) ah))) (aa (bQ (aa (fV 9) (aa (fV 8) ah))) ah))) (aj bn (aj jy (aj be (fV 7) (fC (.int 2))) (fC (.int 7))) (fC (.int 2)))) ah))
theorem Nj {ρ:aC}:JD ρ=(kX 5 (aa (aj be (eV (aa (bQ (aa (fV 8) (aa (fV 9) ah))) (aa (bQ (aa (fV 9) (aa (fV 8) ah))) ah))) (aj bn (aj jy (aj be (fV 7) (fC (.int 2))) (fC (.int 7))) (fC (.int 2)))) ah)) ρ:=Eq.trans rfl rfl
theorem OC {ρ:aC}:cQ ρ=(al JA (al JB (al Ov (al OF (al OP JD))))) ρ:=Eq.trans rfl rfl
noncomputable def gR (ps:List (Nat×Nat)):List PV:=ps.map fun p=>.tup [.int p.1,.int p.2]
theorem jm (ps:List (Nat×Nat)):(gR ps).length=ps.length:=List.length_map ..
theorem km:∀ps:List (Nat×Nat),aH (gR ps)=true
 |[]=>by show aH []=true;rw[aH]
 |p::ps=>by
  show aH (.tup [.int p.1,.int p.2]::gR ps)=true
  rw[aH,km ps];simp[Pu.plain,aH]
theorem ww:∀ps:List (Nat×Nat),cf (gR ps)≤1
 |[]=>by show cf []≤1;rw[cf];omega
 |p::ps=>by
  show cf (.tup [.int p.1,.int p.2]::gR ps)≤1
  have:=ww ps
  rw[cf];simp[oo,cf];omega
theorem oI (ps:List (Nat×Nat)):iG (gR ps) []=ps.isEmpty:=by
 cases ps with
 |nil=>exact xB
 |cons p ps=>exact rO (by show (gR ps).length+1≠0;omega)
theorem Ek {α:Type}(l:List α)(k:Nat):cut l (some (k:Int)) none=l.drop k:=by
 unfold cut
 rw[HT.sIx_nat,HT.sIx_none]
 by_cases h:k≤l.length
 ·rw[Nat.min_eq_left h,List.take_of_length_le (by rw[List.length_drop];omega)]
 ·rw[Nat.min_eq_right (by omega),List.drop_eq_nil_of_le (Nat.le_refl _),List.drop_eq_nil_of_le (by omega),List.take_nil]
section
variable {ns:List Int}{n:Nat}{hs ys:List Nat}{row:List (Nat×Nat)}{s3:Option Sl}{at' k:Nat}
noncomputable def JR (ns:List Int)(at' n:Nat)(s3:Option Sl)(hs:List Nat)(row:List (Nat×Nat))(k:Nat)(ys:List Nat)(x z:Nat):aC:=[some (.val (.src (iL ns))),some (.val (.int at')),some (.val (.int n)),s3,some (.val (.lst (ak hs))),some (.own (gR row)),some (.val (.int k)),some (.val (.lst (ak ys))),some (.val (.int x)),some (.val (.int z))]
theorem OZ (hn:1≤n)(hh:hs.length=4){x z:Nat}(hx:x<n)(hz:z<n):∃x' z',x'<n/\z'<n/\Ov (JR ns at' n s3 hs row k ys x z)=.nx (JR ns at' n s3 hs row k ys x' z'):=by
 have i1:L2.atI (ak hs) 1=some (.int (up hs 1:Nat)):=az (x:=1) (by omega)
 have pn:(0:Int)<(n:Int):=by omega
 unfold JR
 by_cases q:(up hs 1:Int) % 4=1
 ·refine⟨k % n,(k+1) % n,Nat.mod_lt _ (by omega),Nat.mod_lt _ (by omega),?_⟩
  simp only[IE,EE,Nat.reduceAdd,Nat.reduceSub,Nat.reduceLeDiff,Nat.reduceLT,Nat.reduceEqDiff,Int.reduceLT,Int.reduceLE,Int.reduceAdd,Int.reduceSub,Int.reduceMul,Int.reduceMod,Int.reduceDiv,Int.reduceNeg,Int.reduceToNat,Int.reducePow,Int.reduceEq,i1,decide_eq_true q,pn]
  rfl
 ·exact⟨x,z,hx,hz,by simp only[IE,EE,Nat.reduceAdd,Nat.reduceSub,Nat.reduceLeDiff,Nat.reduceLT,Nat.reduceEqDiff,Int.reduceLT,Int.reduceLE,Int.reduceAdd,Int.reduceSub,Int.reduceMul,Int.reduceMod,Int.reduceDiv,Int.reduceNeg,Int.reduceToNat,Int.reducePow,Int.reduceEq,i1,decide_eq_false q]⟩
theorem OV (hn:1≤n)(hn2:n≤40)(hh:hs.length=4)(hy:4≤ys.length){x z:Nat}(hx:x<n)(hz:z<n):∃x' z',x'<n/\z'<n/\OF (JR ns at' n s3 hs row k ys x z)=.nx (JR ns at' n s3 hs row k ys x' z'):=by
 have i1:L2.atI (ak hs) 1=some (.int (up hs 1:Nat)):=az (x:=1) (by omega)
 have i2:L2.atI (ak ys) 2=some (.int (up ys 2:Nat)):=az (x:=2) (by omega)
 have pn:(0:Int)<(n:Int):=by omega
 unfold JR
 by_cases q:(up hs 1:Int) % 4=2
 ·by_cases q2:(0:Int)<(up ys 2:Int) % 3
  ·have e1:(x:Int) / 2 * 2 % (n:Int)=((x / 2 * 2 % n:Nat):Int):=by push_cast;rfl
   have em:(if ((x / 2 * 2 % n:Nat):Int)+1<(n:Int) - 1 then ((x / 2 * 2 % n:Nat):Int)+1 else (n:Int) - 1)=((min (n - 1) (x / 2 * 2 % n+1):Nat):Int):=by split<;>omega
   refine⟨x / 2 * 2 % n,min (n - 1) (x / 2 * 2 % n+1),Nat.mod_lt _ (by omega),by omega,?_⟩
   have ml:(((x:Int) / 2).natAbs<2 ^ 64\/(2:Int).natAbs<2 ^ 64):=.inr (by decide)
   simp only[Eo,EE,Nat.reduceAdd,Nat.reduceSub,Nat.reduceLeDiff,Nat.reduceLT,Nat.reduceEqDiff,Int.reduceLT,Int.reduceLE,Int.reduceAdd,Int.reduceSub,Int.reduceMul,Int.reduceMod,Int.reduceDiv,Int.reduceNeg,Int.reduceToNat,Int.reducePow,Int.reduceEq,i1,i2,decide_eq_true q,decide_eq_true q2,pn,ml,e1,em]
  ·exact⟨x,z,hx,hz,by simp only[Eo,EE,Nat.reduceAdd,Nat.reduceSub,Nat.reduceLeDiff,Nat.reduceLT,Nat.reduceEqDiff,Int.reduceLT,Int.reduceLE,Int.reduceAdd,Int.reduceSub,Int.reduceMul,Int.reduceMod,Int.reduceDiv,Int.reduceNeg,Int.reduceToNat,Int.reducePow,Int.reduceEq,i1,i2,decide_eq_true q,decide_eq_false q2]⟩
 ·exact⟨x,z,hx,hz,by simp only[Eo,EE,Nat.reduceAdd,Nat.reduceSub,Nat.reduceLeDiff,Nat.reduceLT,Nat.reduceEqDiff,Int.reduceLT,Int.reduceLE,Int.reduceAdd,Int.reduceSub,Int.reduceMul,Int.reduceMod,Int.reduceDiv,Int.reduceNeg,Int.reduceToNat,Int.reducePow,Int.reduceEq,i1,decide_eq_false q]⟩
theorem Pp (hy:4≤ys.length)(hr:∀p∈row,p.1<n/\p.2<n){x z:Nat}(hx:x<n)(hz:z<n):∃x' z',x'<n/\z'<n/\OP (JR ns at' n s3 hs row k ys x z)=.nx (JR ns at' n s3 hs row k ys x' z'):=by
 have i2:L2.atI (ak ys) 2=some (.int (up ys 2:Nat)):=az (x:=2) (by omega)
 have i3:L2.atI (ak ys) 3=some (.int (up ys 3:Nat)):=az (x:=3) (by omega)
 have dd:decide (cf (gR row)≤49)=true:=decide_eq_true (by have:=ww row;omega)
 have p0:aH []=true:=by rw[aH]
 unfold JR
 by_cases h0:row=[]
 ·subst h0;exact⟨x,z,hx,hz,by simp only[Cu,EE,Nat.reduceAdd,Nat.reduceSub,Nat.reduceLeDiff,Nat.reduceLT,Nat.reduceEqDiff,Int.reduceLT,Int.reduceLE,Int.reduceAdd,Int.reduceSub,Int.reduceMul,Int.reduceMod,Int.reduceDiv,Int.reduceNeg,Int.reduceToNat,Int.reducePow,Int.reduceEq,km,p0,dd,oI,List.isEmpty_nil]⟩
 ·have ie:row.isEmpty=false:=by cases row with
   |nil=>exact absurd rfl h0
   |cons=>rfl
  have pos:0<row.length:=List.length_pos_iff.mpr h0
  by_cases q:(up ys 2:Int) % 7=1
  ·have hl:up ys 3 % row.length<row.length:=Nat.mod_lt _ pos
   have pl:(0:Int)<(row.length:Int):=by omega
   have ea:L2.atI (gR row) ((up ys 3:Int) % (row.length:Int))=some (.tup [.int (row[up ys 3 % row.length]).1,.int (row[up ys 3 % row.length]).2]):=by
    rw[show (up ys 3:Int) % (row.length:Int)=((up ys 3 % row.length:Nat):Int) from rfl]
    refine L2.iU ?_
    unfold gR
    rw[List.getElem?_map,List.getElem?_eq_getElem hl];rfl
   have hm:=hr _ (List.getElem_mem hl)
   refine⟨_,_,hm.1,hm.2,?_⟩
   simp only[Cu,EE,Nat.reduceAdd,Nat.reduceSub,Nat.reduceLeDiff,Nat.reduceLT,Nat.reduceEqDiff,Int.reduceLT,Int.reduceLE,Int.reduceAdd,Int.reduceSub,Int.reduceMul,Int.reduceMod,Int.reduceDiv,Int.reduceNeg,Int.reduceToNat,Int.reducePow,Int.reduceEq,km,p0,dd,oI,ie,i2,i3,decide_eq_true q,jm,pl,ea]
  ·exact⟨x,z,hx,hz,by simp only[Cu,EE,Nat.reduceAdd,Nat.reduceSub,Nat.reduceLeDiff,Nat.reduceLT,Nat.reduceEqDiff,Int.reduceLT,Int.reduceLE,Int.reduceAdd,Int.reduceSub,Int.reduceMul,Int.reduceMod,Int.reduceDiv,Int.reduceNeg,Int.reduceToNat,Int.reducePow,Int.reduceEq,km,p0,dd,oI,ie,i2,decide_eq_false q]⟩
theorem QD (hy:4≤ys.length)(hl:row.length≤1000){x z:Nat}:∃p,(p=(x,z)\/p=(z,x))/\JD (JR ns at' n s3 hs row k ys x z)=.nx (JR ns at' n s3 hs (row++[p]) k ys x z):=by
 have i2:L2.atI (ak ys) 2=some (.int (up ys 2:Nat)):=az (x:=2) (by omega)
 have l1:(gR row).length≤100000:=by rw[jm];omega
 have ea:∀p:Nat×Nat,gR row++[.tup [.int p.1,.int p.2]]=gR (row++[p]):=fun p=>by unfold gR;rw[List.map_append];rfl
 unfold JR
 by_cases q:(up ys 2:Int) / 7 % 2=0
 ·refine⟨(x,z),.inl rfl,?_⟩
  have e0:∀a b:PV,L2.atI [a,b] 0=some a:=fun a b=>rfl
  rw[←ea]
  simp only[Nj,EE,Nat.reduceAdd,Nat.reduceSub,Nat.reduceLeDiff,Nat.reduceLT,Nat.reduceEqDiff,Int.reduceLT,Int.reduceLE,Int.reduceAdd,Int.reduceSub,Int.reduceMul,Int.reduceMod,Int.reduceDiv,Int.reduceNeg,Int.reduceToNat,Int.reducePow,Int.reduceEq,i2,q,e0,l1]
 ·have q:(up ys 2:Int) / 7 % 2=1:=by omega
  refine⟨(z,x),.inr rfl,?_⟩
  have e0:∀a b:PV,L2.atI [a,b] 1=some b:=fun a b=>rfl
  rw[←ea]
  simp only[Nj,EE,Nat.reduceAdd,Nat.reduceSub,Nat.reduceLeDiff,Nat.reduceLT,Nat.reduceEqDiff,Int.reduceLT,Int.reduceLE,Int.reduceAdd,Int.reduceSub,Int.reduceMul,Int.reduceMod,Int.reduceDiv,Int.reduceNeg,Int.reduceToNat,Int.reducePow,Int.reduceEq,i2,q,e0,l1]
theorem JE (hn:1≤n)(hn2:n≤40)(hh:hs.length=4)(hat:at'≤500)(hk:k≤500)(hl:row.length≤1000)(hr:∀p∈row,p.1<n/\p.2<n){z7 z8 z9:Option Sl}:∃p w7 w8 w9,(p.1<n/\p.2<n) ∧
  cQ [some (.val (.src (iL ns))),some (.val (.int at')),some (.val (.int n)),s3,some (.val (.lst (ak hs))),some (.own (gR row)),some (.val (.int k)),z7,z8,z9] =
   .nx [some (.val (.src (iL ns))),some (.val (.int at')),some (.val (.int n)),s3,some (.val (.lst (ak hs))),some (.own (gR (row++[p]))),some (.val (.int k)),w7,w8,w9]:=by
 obtain⟨c,ec⟩:=uL ns ((at':Int)+1+(k:Int) / 5) (by omega) (by omega)
 obtain⟨xs,hx,ex⟩:=mx c 20 (by decide) (by decide)
 have hx:xs.length=20:=hx
 have e4:(4:Int) * ((k:Int) % 5)=((4 * (k % 5):Nat):Int):=by omega
 have ec':cut (ak xs) (some ((4 * (k % 5):Nat):Int)) none=ak (xs.drop (4 * (k % 5))):=by rw[qO,Ek]
 generalize hys:xs.drop (4 * (k % 5))=ys at ec'
 have hy:4≤ys.length:=by rw[←hys,List.length_drop];omega
 have ml:((4:Int).natAbs<2 ^ 64\/((k:Int) % 5).natAbs<2 ^ 64):=.inl (by decide)
 have pn:(0:Int)<(n:Int):=by omega
 have i0:L2.atI (ak ys) 0=some (.int (up ys 0:Nat)):=az (x:=0) (by omega)
 have i1:L2.atI (ak ys) 1=some (.int (up ys 1:Nat)):=az (x:=1) (by omega)
 have m0:(up ys 0:Int) % (n:Int)=((up ys 0 % n:Nat):Int):=rfl
 have m1:(up ys 1:Int) % (n:Int)=((up ys 1 % n:Nat):Int):=rfl
 obtain⟨x1,z1,a1,b1,e1⟩:=OZ (ns:=ns) (at':=at') (s3:=s3) (row:=row) (k:=k) (ys:=ys) hn hh (Nat.mod_lt (up ys 0) (by omega)) (Nat.mod_lt (up ys 1) (by omega))
 obtain⟨x2,z2,a2,b2,e2⟩:=OV (ns:=ns) (at':=at') (s3:=s3) (row:=row) (k:=k) (ys:=ys) hn hn2 hh hy a1 b1
 obtain⟨x3,z3,a3,b3,e3⟩:=Pp (ns:=ns) (at':=at') (s3:=s3) (hs:=hs) (k:=k) (ys:=ys) hy hr a2 b2
 obtain⟨p,hp,e5⟩:=QD (ns:=ns) (n:=n) (at':=at') (s3:=s3) (hs:=hs) (row:=row) (k:=k) (ys:=ys) (x:=x3) (z:=z3) hy hl
 refine⟨p,some (.val (.lst (ak ys))),some (.val (.int x3)),some (.val (.int z3)),by rcases hp with rfl|rfl<;>exact⟨by assumption,by assumption⟩,?_⟩
 unfold JR at e1 e2 e3 e5
 simp only[OC,OD,O7,EE,Nat.reduceAdd,Nat.reduceSub,Nat.reduceLeDiff,Nat.reduceLT,Nat.reduceEqDiff,Int.reduceLT,Int.reduceLE,Int.reduceAdd,Int.reduceSub,Int.reduceMul,Int.reduceMod,Int.reduceDiv,Int.reduceNeg,Int.reduceToNat,Int.reducePow,Int.reduceEq,ec,ex,ml,e4,ec',i0,i1,pn,m0,m1,e1,e2,e3,e5]
theorem CC (hn:1≤n)(hn2:n≤40)(hh:hs.length=4)(hat:at'≤500):∀(ks:List Nat) (row:List (Nat×Nat)) (z6 z7 z8 z9:Option Sl),(∀k∈ks,k≤500)->row.length+ks.length≤1000->(∀p∈row,p.1<n/\p.2<n) →
  ∃row' w6 w7 w8 w9,(∀p∈row',p.1<n/\p.2<n)/\row'.length=row.length+ks.length/\cH (gN 6) cQ (ak ks) [some (.val (.src (iL ns))),some (.val (.int at')),some (.val (.int n)),s3,some (.val (.lst (ak hs))),some (.own (gR row)),z6,z7,z8,z9] =
   .nx [some (.val (.src (iL ns))),some (.val (.int at')),some (.val (.int n)),s3,some (.val (.lst (ak hs))),some (.own (gR row')),w6,w7,w8,w9]
 |[],row,z6,z7,z8,z9,_,_,hr=>⟨row,z6,z7,z8,z9,hr,rfl,rfl⟩
 |k::ks,row,z6,z7,z8,z9,hk,hl,hr=>by
  rw[List.length_cons] at hl
  obtain⟨p,w7,w8,w9,hp,e⟩:=JE (ns:=ns) (s3:=s3) hn hn2 hh hat (hk k List.mem_cons_self) (by omega) hr (z7:=z7) (z8:=z8) (z9:=z9)
  obtain⟨row',v6,v7,v8,v9,h1,h2,e'⟩:=CC hn hn2 hh hat ks (row++[p]) (some (.val (.int k))) w7 w8 w9 (fun q hq=>hk q (List.mem_cons_of_mem _ hq)) (by rw[List.length_append,List.length_singleton];omega) (fun q hq=>by
   rcases List.mem_append.mp hq with hq|hq
   ·exact hr q hq
   ·rw[List.mem_singleton.mp hq];exact hp)
  refine⟨row',v6,v7,v8,v9,h1,by rw[h2,List.length_append,List.length_singleton,List.length_cons];omega,?_⟩
  rw[←e',cP,im]
  simp only[EE,Nat.reduceAdd,Nat.reduceSub,Nat.reduceLeDiff,Nat.reduceLT,Nat.reduceEqDiff,Int.reduceLT,Int.reduceLE,Int.reduceAdd,Int.reduceSub,Int.reduceMul,Int.reduceMod,Int.reduceDiv,Int.reduceNeg,Int.reduceToNat,Int.reducePow,Int.reduceEq,e]
theorem wg (ns:List Int){at' n m:Nat}(hn:1≤n)(hn2:n≤40)(hat:at'≤500)(hm:m≤60):∃row:List (Nat×Nat),(∀p∈row,p.1<n/\p.2<n)/\row.length≤m/\b7 [.src (iL ns),.int at',.int n,.int m]=some (.v (.tup (gR row))):=by
 obtain⟨c,ec⟩:=uL ns (at':Int) (by omega) (by omega)
 obtain⟨hs,hh,eh⟩:=mx c 4 (by decide) (by decide)
 have hh:hs.length=4:=hh
 have i0:L2.atI (ak hs) 0=some (.int (up hs 0:Nat)):=az (x:=0) (by omega)
 have pm:(0:Int)<(m:Int)+1:=by omega
 have em:(up hs 0:Int) % ((m:Int)+1)=((up hs 0 % (m+1):Nat):Int):=rfl
 have lt:up hs 0 % (m+1)<m+1:=Nat.mod_lt _ (by omega)
 generalize up hs 0 % (m+1)=q at *
 obtain⟨row,w6,w7,w8,w9,h1,h2,e⟩:=CC (ns:=ns) (s3:=some (.val (.int m))) hn hn2 hh hat (List.range q) [] none none none none (fun k hk=>by have:=List.mem_range.mp hk;omega) (by rw[List.length_range];simp;omega) (fun p hp=>by cases hp)
 rw[List.length_range] at h2
 simp only[List.length_nil] at h2
 have e:cH (gN 6) cQ (ak (List.range q)) [some (.val (.src (iL ns))),some (.val (.int at')),some (.val (.int n)),some (.val (.int m)),some (.val (.lst (ak hs))),some (.own []),none,none,none,none]=_:=e
 exact⟨row,h1,by omega,by simp only[qG,oV,EE,Nat.reduceAdd,Nat.reduceSub,Nat.reduceLeDiff,Nat.reduceLT,Nat.reduceEqDiff,Int.reduceLT,Int.reduceLE,Int.reduceAdd,Int.reduceSub,Int.reduceMul,Int.reduceMod,Int.reduceDiv,Int.reduceNeg,Int.reduceToNat,Int.reducePow,Int.reduceEq,ec,eh,i0,pm,em,K1 (show q≤100000 by omega),e]⟩
end
noncomputable def DR (ps:List PV):Option (List PV):=match ps with
 |[p]=>(wC p).map (gx 0)
 |_=>none
theorem zA {fs:FA}{ρ:aC}:m9 fs ρ=(fs ρ).bind fun rs=>(rs.mapM RV.fr).bind DR:=by
 unfold m9
 rfl
theorem tY {ps:List PV}:DR [.tup ps]=some (gx 0 ps):=Eq.trans rfl rfl
end Dp
end
section
namespace Dp
open PySem L2 Fo Pu
theorem Gn {t:oA}{i:Nat}{fs:FA}{ρ:aC}:rM t i fs ρ=vE t (sl ρ i) ((fs ρ).bind fun rs=>rs.mapM RV.fr):=Eq.trans rfl rfl
theorem Au {t:oA}{a:Addr}{ps:List PV}:vE t (some (.val (.fn a))) (some ps)=(look t a).bind fun F=>(F ps).map sL:=Eq.trans rfl rfl
theorem K4 {n x z:Nat}(hx:x<n)(hz:z<n):dn [.int n,.tup [.int x,.int z]]=some (.v (.bl true)):=by
 have a0:L2.atI [PV.int (x:Int),.int (z:Int)] 0=some (.int x):=rfl
 have a1:L2.atI [PV.int (x:Int),.int (z:Int)] 1=some (.int z):=rfl
 have k2:((2:Nat):Int)=2:=rfl
 have t1:decide ((0:Int)≤(x:Int)/\(x:Int)<(n:Int))=true:=decide_eq_true ⟨by omega,by omega⟩
 have t2:decide ((0:Int)≤(z:Int)/\(z:Int)<(n:Int))=true:=decide_eq_true ⟨by omega,by omega⟩
 simp only[we,sw,EE,Nat.reduceAdd,Nat.reduceSub,Nat.reduceLeDiff,Nat.reduceLT,Nat.reduceEqDiff,Int.reduceLT,Int.reduceLE,Int.reduceAdd,Int.reduceSub,Int.reduceMul,Int.reduceMod,Int.reduceDiv,Int.reduceNeg,Int.reduceToNat,Int.reducePow,Int.reduceEq,k2,a0,a1,ve,t1,t2]
theorem wU {n:Nat}{a:Addr}{s1:Option Sl}:∀(row:List (Nat×Nat)) (k:Nat) (z3 z4:Option Sl),(∀p∈row,p.1<n/\p.2<n) →
  ∃w3 w4,cH (iR 2 (gC (gN 3) (gC (gN 4) g0))) (gF [(a,dn)]) (gx k (gR row)) [some (.val (.int n)),s1,some (.val (.fn a)),z3,z4]=.nx [some (.val (.int n)),s1,some (.val (.fn a)),w3,w4]
 |[],k,z3,z4,_=>⟨z3,z4,rfl⟩
 |(x,z)::row,k,z3,z4,hr=>by
  have hx:x<n:=(hr (x,z) List.mem_cons_self).1
  have hz:z<n:=(hr (x,z) List.mem_cons_self).2
  obtain⟨w3,w4,e⟩:=wU row (k+1) (some (.val (.int k))) (some (.val (.tup [.int x,.int z]))) fun p hp=>hr p (List.mem_cons_of_mem _ hp)
  refine⟨w3,w4,?_⟩
  rw[←e,show gx k (gR ((x,z)::row))=.tup [.int k,.tup [.int x,.int z]]::gx (k+1) (gR row) from rfl,im]
  simp only[oR,EE,Nat.reduceAdd,Nat.reduceSub,Nat.reduceLeDiff,Nat.reduceLT,Nat.reduceEqDiff,Int.reduceLT,Int.reduceLE,Int.reduceAdd,Int.reduceSub,Int.reduceMul,Int.reduceMod,Int.reduceDiv,Int.reduceNeg,Int.reduceToNat,Int.reducePow,Int.reduceEq,Gn,Au,GA,K4 hx hz]
theorem Cf {n:Nat}{a:Addr}{row:List (Nat×Nat)}(hr:∀p∈row,p.1<n/\p.2<n):cs a [.int n,.tup (gR row)]=some (.v .non):=by
 obtain⟨w3,w4,e⟩:=wU (n:=n) (a:=a) (s1:=some (.val (.tup (gR row)))) row 0 none none hr
 have e':dZ [(a,dn)] [.int n,.tup (gR row),.fn a]=some (.v .non):=by
  simp only[sj,pH,EE,Nat.reduceAdd,Nat.reduceSub,Nat.reduceLeDiff,Nat.reduceLT,Nat.reduceEqDiff,Int.reduceLT,Int.reduceLE,Int.reduceAdd,Int.reduceSub,Int.reduceMul,Int.reduceMod,Int.reduceDiv,Int.reduceNeg,Int.reduceToNat,Int.reducePow,Int.reduceEq,zA,tY,e]
 simp only[pB,nZ,EE,Nat.reduceAdd,Nat.reduceSub,Nat.reduceLeDiff,Nat.reduceLT,Nat.reduceEqDiff,Int.reduceLT,Int.reduceLE,Int.reduceAdd,Int.reduceSub,Int.reduceMul,Int.reduceMod,Int.reduceDiv,Int.reduceNeg,Int.reduceToNat,Int.reducePow,Int.reduceEq,e']
theorem Ii {n:Nat}{a:Addr}{row:List (Nat×Nat)}(h1:1≤n)(h2:n≤40)(hr:∀p∈row,p.1<n/\p.2<n):aJ a [.int n,.tup (gR row)]=some (.v .non):=by
 simp only[kA,jB,md,jV,EE,Nat.reduceAdd,Nat.reduceSub,Nat.reduceLeDiff,Nat.reduceLT,Nat.reduceEqDiff,Int.reduceLT,Int.reduceLE,Int.reduceAdd,Int.reduceSub,Int.reduceMul,Int.reduceMod,Int.reduceDiv,Int.reduceNeg,Int.reduceToNat,Int.reducePow,Int.reduceEq,zd h1 h2,Cf hr]
noncomputable def Q7 (o:Option Nat):PV:=o.elim .non fun n=>.int (n:Int)
noncomputable def EI (ts:List (Option Nat)):List PV:=ts.map Q7
theorem GS (ts:List (Option Nat)):(EI ts).length=ts.length:=List.length_map ..
theorem Gx (ts:List (Option Nat))(i k:Nat):(EI ts).set i (.int (k:Int))=EI (ts.set i (some k)):=by
 unfold EI;rw[List.map_set];rfl
noncomputable def BA (num:Nat)(us us':List Nat)(acc:List (Option Nat))(k:Nat):List (Option Nat):=if up us' k=up us k then acc else acc.set k (some num)
noncomputable def xD (num:Nat)(us us':List Nat)(ks:List Nat)(acc:List (Option Nat)):List (Option Nat):=ks.foldl (BA num us us') acc
theorem uB {num:Nat}{us us':List Nat}{acc:List (Option Nat)}{k:Nat}:(BA num us us' acc k).length=acc.length:=by
 unfold BA;split
 ·rfl
 ·rw[List.length_set]
theorem pV {num:Nat}{us us':List Nat}:∀(ks:List Nat) (acc:List (Option Nat)),(xD num us us' ks acc).length=acc.length
 |[],_=>rfl
 |k::ks,acc=>by
  show (xD num us us' ks (BA num us us' acc k)).length=_
  rw[pV ks,uB]
theorem ze {n num:Nat}{us us':List Nat}{i:Nat}{b:FS}{R:List (Option Nat)->Option Sl->aC}(hset:∀p acc z,gN i p (R acc z)=some (R acc (some (.val p))))
  (hb:∀acc k,k<n->acc.length=n->b (R acc (some (.val (.int (k:Nat)))))=.nx (R (BA num us us' acc k) (some (.val (.int (k:Nat)))))):∀(ks:List Nat) (acc:List (Option Nat)) (z:Option Sl),(∀k∈ks,k<n)->acc.length=n →
  ∃z',cH (gN i) b (ak ks) (R acc z)=.nx (R (xD num us us' ks acc) z')
 |[],acc,z,_,_=>⟨z,rfl⟩
 |k::ks,acc,z,hk,ha=>by
  obtain⟨z',e⟩:=ze hset hb ks (BA num us us' acc k) (some (.val (.int (k:Nat)))) (fun q hq=>hk q (List.mem_cons_of_mem _ hq)) (by rw[uB];exact ha)
  refine⟨z',?_⟩
  show _=Out.nx (R (xD num us us' ks (BA num us us' acc k)) z')
  rw[←e,cP,im]
  have h1:=hset (nI k) acc z
  have h2:=hb acc k (hk k List.mem_cons_self) ha
  rw[h1]
  have h2:b (R acc (some (.val (nI k))))=_:=h2
  simp only[zX,zE,h2]
noncomputable def tU (us ms:List Nat)(p:Nat×Nat):List Nat:=dU "size" "none" us ms (.join p.1 p.2)
noncomputable def tM (us ms:List Nat)(p:Nat×Nat):List Nat:=dM "size" us ms (.join p.1 p.2)
noncomputable def rT:List (Nat×Nat)->Nat->List Nat->List Nat->List (Option Nat)->List Nat×List Nat×List (Option Nat)
 |[],_,us,ms,ts=>(us,ms,ts)
 |p::r,k,us,ms,ts=>rT r (k+1) (tU us ms p) (tM us ms p) (xD k us (tU us ms p) (List.range us.length) ts)
theorem pO:("none" : Str)∈bt:=by decide
theorem uw:("size" : Str)∈BZ:=by decide
theorem xb {n:Nat}{us ms:List Nat}(S:Sto n us ms){p:Nat×Nat}(h:p.1<n/\p.2<n):Sto n (tU us ms p) (tM us ms p):=CJ S pO h
theorem B4 {n:Nat}:∀(row:List (Nat×Nat)) (k:Nat) (us ms:List Nat) (ts:List (Option Nat)),Sto n us ms->ts.length=n->(∀p∈row,p.1<n/\p.2<n)->Sto n (rT row k us ms ts).1 (rT row k us ms ts).2.1/\(rT row k us ms ts).2.2.length=n
 |[],_,_,_,_,S,ht,_=>⟨S,ht⟩
 |p::r,k,us,ms,ts,S,ht,hr=>B4 r (k+1) _ _ _ (xb S (hr p List.mem_cons_self)) (by rw[pV];exact ht) fun q hq=>hr q (List.mem_cons_of_mem _ hq)
theorem xq (j y:Str)(us ms:List Nat):be (kK j y us ms) (.int 2)=some (.fz (.tup (ak us))):=rfl
theorem zp {n:Nat}(h2:n≤40){s1:Option Sl}:∀(row:List (Nat×Nat)) (k:Nat) (us ms:List Nat) (ts:List (Option Nat)) (z4 z5 z6 z7 z8 z9 z10:Option Sl),Sto n us ms->ts.length=n->(∀p∈row,p.1<n/\p.2<n) →
  ∃w4 w5 w6 w7 w8 w9 w10,cH (iR 2 (gC (gN 4) (gC (iR 2 (gC (gN 5) (gC (gN 6) g0))) g0))) cK (gx k (gR row)) [some (.val (.int n)),s1,some (.val (kK "size" "none" us ms)),some (.own (EI ts)),z4,z5,z6,z7,z8,z9,z10] =
   .nx [some (.val (.int n)),s1,some (.val (kK "size" "none" (rT row k us ms ts).1 (rT row k us ms ts).2.1)),some (.own (EI (rT row k us ms ts).2.2)),w4,w5,w6,w7,w8,w9,w10]
 |[],k,us,ms,ts,z4,z5,z6,z7,z8,z9,z10,_,_,_=>⟨z4,z5,z6,z7,z8,z9,z10,rfl⟩
 |(x,z)::row,k,us,ms,ts,z4,z5,z6,z7,z8,z9,z10,S,ht,hr=>by
  have h:=hr (x,z) List.mem_cons_self
  have S':=xb S h
  have ej:=HP S uw pO h.1 h.2
  obtain⟨w10,el⟩:=ze (n:=n) (num:=k) (us:=us) (us':=tU us ms (x,z)) (i:=10) (b:=cJ)
   (R:=fun acc q=>[some (.val (.int n)),s1,some (.val (kK "size" "none" us ms)),some (.own (EI acc)),some (.val (.int k)),some (.val (.int x)),some (.val (.int z)),some (.val (kK "size" "none" (tU us ms (x,z)) (tM us ms (x,z)))),some (.val (dA us (.join x z))),some (.val (.int (dS "none" us (.join x z):Nat))),q]) (fun p acc q=>rfl) (fun acc q hq ha=>by
    have l1:q<us.length:=by rw[S.lu];exact hq
    have l2:q<(tU us ms (x,z)).length:=by rw[S'.lu];exact hq
    have d:decide ((up (tU us ms (x,z)) q:Int)=(up us q:Int))=decide (up (tU us ms (x,z)) q=up us q):=decide_eq_decide.mpr (by omega)
    unfold BA
    by_cases e:up (tU us ms (x,z)) q=up us q
    ·rw[if_pos e]
     simp only[gj,EE,Nat.reduceAdd,Nat.reduceSub,Nat.reduceLeDiff,Nat.reduceLT,Nat.reduceEqDiff,Int.reduceLT,Int.reduceLE,Int.reduceAdd,Int.reduceSub,Int.reduceMul,Int.reduceMod,Int.reduceDiv,Int.reduceNeg,Int.reduceToNat,Int.reducePow,Int.reduceEq,xq,az l1,az l2,d,decide_eq_true e]
    ·rw[if_neg e]
     simp only[gj,EE,Nat.reduceAdd,Nat.reduceSub,Nat.reduceLeDiff,Nat.reduceLT,Nat.reduceEqDiff,Int.reduceLT,Int.reduceLE,Int.reduceAdd,Int.reduceSub,Int.reduceMul,Int.reduceMod,Int.reduceDiv,Int.reduceNeg,Int.reduceToNat,Int.reducePow,Int.reduceEq,xq,az l1,az l2,d,decide_eq_false e,GS,bw (show q<acc.length by omega),Gx]) (List.range us.length) ts z10 (fun q hq=>by have:=List.mem_range.mp hq;rw[S.lu] at this;exact this) ht
  obtain⟨w4,w5,w6,w7,w8,w9,v10,e⟩:=zp h2 (s1:=s1) row (k+1) (tU us ms (x,z)) (tM us ms (x,z)) (xD k us (tU us ms (x,z)) (List.range us.length) ts) (some (.val (.int k))) (some (.val (.int x))) (some (.val (.int z))) (some (.val (kK "size" "none" (tU us ms (x,z)) (tM us ms (x,z))))) (some (.val (dA us (.join x z)))) (some (.val (.int (dS "none" us (.join x z):Nat)))) w10 S' (by rw[pV];exact ht) fun q hq=>hr q (List.mem_cons_of_mem _ hq)
  refine⟨w4,w5,w6,w7,w8,w9,v10,?_⟩
  rw[show rT ((x,z)::row) k us ms ts=rT row (k+1) (tU us ms (x,z)) (tM us ms (x,z)) (xD k us (tU us ms (x,z)) (List.range us.length) ts) from rfl,←e,show gx k (gR ((x,z)::row))=.tup [.int k,.tup [.int x,.int z]]::gx (k+1) (gR row) from rfl,im]
  have ej:cX [kK "size" "none" us ms,.int x,.int z]=some (.v (.tup [kK "size" "none" (tU us ms (x,z)) (tM us ms (x,z)),dA us (.join x z),.int (dS "none" us (.join x z):Nat)])):=ej
  rw[S.lu] at el ⊢
  simp only[jU,EE,Nat.reduceAdd,Nat.reduceSub,Nat.reduceLeDiff,Nat.reduceLT,Nat.reduceEqDiff,Int.reduceLT,Int.reduceLE,Int.reduceAdd,Int.reduceSub,Int.reduceMul,Int.reduceMod,Int.reduceDiv,Int.reduceNeg,Int.reduceToNat,Int.reducePow,Int.reduceEq,ej,K1 (show n≤100000 by omega),el]
theorem Ng:∀n:Nat,(List.replicate n [PV.non]).flatten=EI (List.replicate n none)
 |0=>rfl
 |n+1=>by rw[List.replicate_succ,List.flatten_cons,Ng n];rfl
theorem O5 {n:Nat}(h:n≤1000):eU (.lst [.non]) (.int n)=some (.nw (EI (List.replicate n none))):=by
 show (if ((n:Int)≤1000/\-1000≤(n:Int)/\[PV.non].length≤100) then some (RV.nw (List.replicate (n:Int).toNat [PV.non]).flatten) else none)=_
 rw[if_pos ⟨by omega,by omega,by decide⟩,Int.toNat_natCast,Ng]
noncomputable def rU (n:Nat)(row:List (Nat×Nat)):List Nat:=(rT row 0 (List.range n) (List.replicate n (Im "size")) (List.replicate n none)).1
noncomputable def rW (n:Nat)(row:List (Nat×Nat)):List (Option Nat):=(rT row 0 (List.range n) (List.replicate n (Im "size")) (List.replicate n none)).2.2
theorem CQ {n:Nat}(h1:1≤n)(h2:n≤40):Sto n (List.range n) (List.replicate n (Im "size")):=⟨qW h1 h2,List.length_range,List.length_replicate⟩
theorem M4 {n:Nat}(h1:1≤n)(h2:n≤40){row:List (Nat×Nat)}(hr:∀p∈row,p.1<n/\p.2<n):aQ [.int n,.tup (gR row)]=some (.v (.tup [.tup (ak (rU n row)),.tup (EI (rW n row))])):=by
 obtain⟨w4,w5,w6,w7,w8,w9,w10,e⟩:=zp h2 (s1:=some (.val (.tup (gR row)))) row 0 _ _ (List.replicate n none) none none none none none none none (CQ h1 h2) List.length_replicate hr
 unfold rU rW
 simp only[lj,kj,EE,Nat.reduceAdd,Nat.reduceSub,Nat.reduceLeDiff,Nat.reduceLT,Nat.reduceEqDiff,Int.reduceLT,Int.reduceLE,Int.reduceAdd,Int.reduceSub,Int.reduceMul,Int.reduceMod,Int.reduceDiv,Int.reduceNeg,Int.reduceToNat,Int.reducePow,Int.reduceEq,M3 h1 h2 uw pO,O5 (show n≤1000 by omega),zA,tY,e,xq]
theorem LA {n:Nat}(h1:1≤n)(h2:n≤40):fk [.int n,.str "size",.str "none"]=some (.v (kK "size" "none" (List.range n) (List.replicate n (Im "size")))):=by
 have er:mU [.rng 0 n]=some (.fz (.tup (ak (List.range n)))):=by rw[Ds,if_pos ⟨rfl,by omega,by omega⟩,Int.toNat_natCast,Dk]
 have ek:=(K1 (show n≤100000 by omega)).2.1
 have m1:eU (.tup [.int 1]) (.int n)=_:=Kc (a:=1) h1 (show n≤1000 by omega)
 unfold kK
 simp only[uk,qM,EE,Nat.reduceAdd,Nat.reduceSub,Nat.reduceLeDiff,Nat.reduceLT,Nat.reduceEqDiff,Int.reduceLT,Int.reduceLE,Int.reduceAdd,Int.reduceSub,Int.reduceMul,Int.reduceMod,Int.reduceDiv,Int.reduceNeg,Int.reduceToNat,Int.reducePow,Int.reduceEq,ek,er,m1]
 rfl
theorem FG (ns:List Int){at':Nat}(hat:at'≤500):∃(n:Nat) (row:List (Nat×Nat)),1≤n/\n≤40/\(∀p∈row,p.1<n/\p.2<n)/\row.length≤60/\de [.src (iL ns),.int at']=some (.v (.tup [.int n,.tup (gR row)])):=by
 obtain⟨c,ec⟩:=uL ns ((40:Int)+(at':Int) / 13) (by omega) (by omega)
 obtain⟨hs,hh,eh⟩:=mx c 4 (by decide) (by decide)
 have hh:hs.length=4:=hh
 have i0:L2.atI (ak hs) 0=some (.int (up hs 0:Nat)):=az (x:=0) (by omega)
 have i1:L2.atI (ak hs) 1=some (.int (up hs 1:Nat)):=az (x:=1) (by omega)
 obtain⟨n,n1,n2,en⟩:=HV (up hs 0)
 by_cases q:(up hs 1:Int) % 4=1
 ·obtain⟨row,r1,r2,er⟩:=wg ns (at':=at') (n:=n) (m:=60) n1 n2 hat (by decide)
  have er:b7 [.src (iL ns),.int at',.int n,.int 60]=_:=er
  have a1:L2.atI [PV.int 12,.int 60] 1=some (.int 60):=rfl
  exact⟨n,row,n1,n2,r1,r2,by simp only[lz,j8,EE,Nat.reduceAdd,Nat.reduceSub,Nat.reduceLeDiff,Nat.reduceLT,Nat.reduceEqDiff,Int.reduceLT,Int.reduceLE,Int.reduceAdd,Int.reduceSub,Int.reduceMul,Int.reduceMod,Int.reduceDiv,Int.reduceNeg,Int.reduceToNat,Int.reducePow,Int.reduceEq,ec,eh,i0,i1,en,decide_eq_true q,a1,er]⟩
 ·obtain⟨row,r1,r2,er⟩:=wg ns (at':=at') (n:=n) (m:=12) n1 n2 hat (by decide)
  have er:b7 [.src (iL ns),.int at',.int n,.int 12]=_:=er
  have a1:L2.atI [PV.int 12,.int 60] 0=some (.int 12):=rfl
  exact⟨n,row,n1,n2,r1,by omega,by simp only[lz,j8,EE,Nat.reduceAdd,Nat.reduceSub,Nat.reduceLeDiff,Nat.reduceLT,Nat.reduceEqDiff,Int.reduceLT,Int.reduceLE,Int.reduceAdd,Int.reduceSub,Int.reduceMul,Int.reduceMod,Int.reduceDiv,Int.reduceNeg,Int.reduceToNat,Int.reducePow,Int.reduceEq,ec,eh,i0,i1,en,decide_eq_false q,a1,er]⟩
noncomputable def wr (ts:List (Option Nat))(x:Nat):Option Nat:=(ts[x]?).join
structure Tin (k:Nat)(us:List Nat)(ts:List (Option Nat)):Prop where
 hd:∀x,x<us.length->(up us x=x↔wr ts x=none)
 lt:∀x t,wr ts x=some t->t<k
 le:∀x,x<us.length->up us x≠x->∀t',wr ts (up us x)=some t'->∃t,wr ts x=some t/\t<t'
theorem HE {ts:List (Option Nat)}{u k x:Nat}(hu:u<ts.length):wr (ts.set u (some k)) x=if x=u then some k else wr ts x:=by
 unfold wr
 rw[List.getElem?_set]
 by_cases h:u=x
 ·subst h;rw[if_pos rfl,if_pos hu,if_pos rfl];rfl
 ·rw[if_neg h,if_neg fun z=>h z.symm]
theorem wQ {k:Nat}{us:List Nat}:∀(ks:List Nat) (ts:List (Option Nat)),xD k us us ks ts=ts
 |[],_=>rfl
 |q::ks,ts=>by
  show xD k us us ks (BA k us us ts q)=ts
  rw[show BA k us us ts q=ts from if_pos rfl,wQ ks]
theorem B3 {k:Nat}{us us':List Nat}:∀(ks:List Nat) (ts:List (Option Nat)) (x:Nat),(∀q∈ks,q<ts.length)->wr (xD k us us' ks ts) x=if x∈ks/\up us' x≠up us x then some k else wr ts x
 |[],ts,x,_=>by rw[if_neg fun h=>by cases h.1];rfl
 |q::ks,ts,x,h=>by
  show wr (xD k us us' ks (BA k us us' ts q)) x=_
  rw[B3 ks _ x fun r hr=>by rw[uB];exact h r (List.mem_cons_of_mem _ hr)]
  have hq:=h q List.mem_cons_self
  have e1:wr (BA k us us' ts q) x=if x=q/\up us' q≠up us q then some k else wr ts x:=by
   unfold BA
   by_cases e:up us' q=up us q
   ·rw[if_pos e,if_neg fun z=>z.2 e]
   ·rw[if_neg e,HE hq]
    by_cases e2:x=q
    ·rw[if_pos e2,if_pos ⟨e2,e⟩]
    ·rw[if_neg e2,if_neg fun z=>e2 z.1]
  rw[e1]
  by_cases a:x∈ks/\up us' x≠up us x
  ·rw[if_pos a,if_pos ⟨List.mem_cons_of_mem _ a.1,a.2⟩]
  ·rw[if_neg a]
   by_cases b:x=q/\up us' q≠up us q
   ·rw[if_pos b,if_pos ⟨by rw[b.1];exact List.mem_cons_self,by rw[b.1];exact b.2⟩]
   ·rw[if_neg b,if_neg fun z=>?_]
    rcases List.mem_cons.mp z.1 with e|e
    ·exact b ⟨e,by rw[←e];exact z.2⟩
    ·exact a ⟨e,z.2⟩
theorem wS (us:List Nat)(x:Nat):gm "none" us x=us:=(g8 rfl fun t ht=>by simp only[nM,n7,n8,n9,P3,if_false]).symm
theorem Ih {us ms:List Nat}{p:Nat×Nat}:tU us ms p=if hd us p.1=hd us p.2 then us else oU "size" us ms (hd us p.1) (hd us p.2):=by
 show (if hd us p.1=hd us p.2 then gm "none" (gm "none" us p.1) p.2 else oU "size" (gm "none" (gm "none" us p.1) p.2) ms _ _)=_
 rw[wS,wS]
theorem BS {n k:Nat}{us ms:List Nat}{ts:List (Option Nat)}(S:Sto n us ms)(ht:ts.length=n){p:Nat×Nat}(h:p.1<n/\p.2<n)(T:Tin k us ts):Tin (k+1) (tU us ms p) (xD k us (tU us ms p) (List.range us.length) ts):=by
 rw[Ih]
 by_cases e:hd us p.1=hd us p.2
 ·rw[if_pos e,wQ]
  exact⟨T.hd,fun x t q=>Nat.lt_succ_of_lt (T.lt x t q),T.le⟩
 ·rw[if_neg e]
  obtain⟨f,lu,lm⟩:=S
  have hx:p.1<us.length:=by omega
  have hz:p.2<us.length:=by omega
  have main:∀u v,u<us.length->v<us.length->up us u=u->up us v=v->v≠u->Tin (k+1) (us.set u v) (xD k us (us.set u v) (List.range us.length) ts):=fun u v hu hv eu ev ne=>by
   have at':∀x,wr (xD k us (us.set u v) (List.range us.length) ts) x=if x=u then some k else wr ts x:=fun x=>by
    rw[B3 _ _ _ fun q hq=>by have:=List.mem_range.mp hq;omega,bu hu]
    by_cases q:x=u
    ·rw[if_pos q,if_pos q,if_pos ⟨by rw[q];exact List.mem_range.mpr hu,by rw[q,eu];exact ne⟩]
    ·rw[if_neg q,if_neg q,if_neg fun z=>z.2 rfl]
   refine⟨fun x hx=>?_,fun x t=>?_,fun x hx=>?_⟩
   ·rw[List.length_set] at hx
    rw[at',bu hu]
    by_cases q:x=u
    ·rw[if_pos q,if_pos q,q];exact⟨fun z=>absurd z ne,fun z=>by cases z⟩
    ·rw[if_neg q,if_neg q];exact T.hd x hx
   ·rw[at']
    split
    ·intro z;cases z;exact Nat.lt_succ_self _
    ·intro z;exact Nat.lt_succ_of_lt (T.lt x t z)
   ·rw[List.length_set] at hx
    rw[bu hu]
    by_cases q:x=u
    ·rw[if_pos q]
     intro _ t' z
     rw[at',if_neg ne,(T.hd v hv).mp ev] at z
     cases z
    ·rw[if_neg q]
     intro hn t' z
     rw[at'] at z
     rw[at',if_neg q]
     by_cases w:up us x=u
     ·rw[if_pos w] at z
      cases z
      cases c:wr ts x with
      |none=>exact absurd ((T.hd x hx).mpr c) hn
      |some t=>exact⟨t,rfl,T.lt x t c⟩
     ·rw[if_neg w] at z
      exact T.le x hx hn t' z
  have a1:=mY f.fst hx
  have a2:=mY f.fst hz
  have b1:=wJ f.fst hx
  have b2:=wJ f.fst hz
  unfold oU tp un
  cases stay "size" ms (hd us p.1) (hd us p.2) with
  |true=>exact main _ _ a2 a1 b2 b1 e
  |false=>exact main _ _ a1 a2 b1 b2 fun z=>e z.symm
theorem zw {n:Nat}:∀(row:List (Nat×Nat)) (k:Nat) (us ms:List Nat) (ts:List (Option Nat)),Sto n us ms->ts.length=n->(∀p∈row,p.1<n/\p.2<n)->Tin k us ts->Tin (k+row.length) (rT row k us ms ts).1 (rT row k us ms ts).2.2
 |[],_,_,_,_,_,_,_,T=>T
 |p::r,k,us,ms,ts,S,ht,hr,T=>by
  have:=zw r (k+1) _ _ (xD k us (tU us ms p) (List.range us.length) ts) (xb S (hr p List.mem_cons_self)) (by rw[pV];exact ht) (fun q hq=>hr q (List.mem_cons_of_mem _ hq)) (BS S ht (hr p List.mem_cons_self) T)
  rw[List.length_cons,show k+(r.length+1)=k+1+r.length by omega]
  exact this
theorem O0 (n:Nat):Tin 0 (List.range n) (List.replicate n none):=by
 have t0:∀x,wr (List.replicate n none) x=none:=fun x=>by
  unfold wr
  rw[List.getElem?_replicate]
  split<;>rfl
 have u:∀x,x<n->up (List.range n) x=x:=fun x hx=>by unfold up;rw[List.getD_eq_getElem?_getD,List.getElem?_range hx];rfl
 refine⟨fun x hx=>⟨fun _=>t0 x,fun _=>u x (by rwa [List.length_range] at hx)⟩,fun x t z=>(by rw[t0] at z;cases z),fun x hx hn=>absurd (u x (by rwa [List.length_range] at hx)) hn⟩
theorem rD {n:Nat}(h1:1≤n)(h2:n≤40){row:List (Nat×Nat)}(hr:∀p∈row,p.1<n/\p.2<n):Tin row.length (rU n row) (rW n row)/\Frst (rU n row)/\(rU n row).length=n/\(rW n row).length=n:=by
 obtain⟨S,l⟩:=B4 row 0 _ _ (List.replicate n none) (CQ h1 h2) List.length_replicate hr
 have T:=zw row 0 _ _ _ (CQ h1 h2) List.length_replicate hr (O0 n)
 rw[Nat.zero_add] at T
 exact⟨T,S.f,S.lu,l⟩
end Dp
end
section
namespace Dp
open PySem L2 Fo Pt
theorem pS {us:List Nat}(f:Frst us){u t:Nat}(hu:u<us.length)(ht:t<us.length)(eu:up us u=u)(et:up us t=t)(ne:t≠u){z:Nat}(hz:z<us.length):hd (us.set u t) z=if hd us z=u then t else hd us z:=by
 have f':=oT f hu ht eu et ne
 have l':(us.set u t).length=us.length:=List.length_set
 have ht':hd (us.set u t) t=t:=jp f'.fst (by omega) (by rw[bu hu,if_neg ne];exact et)
 have main:∀{z:Nat} {l:List Nat},Way us z l->z<us.length->hd (us.set u t) z=if hd us z=u then t else hd us z:=fun {z l} w=>by
  induction w with
  | @head z e=>
   intro hz
   rw[jp f.fst hz e]
   by_cases q:z=u
   ·subst q
    rw[if_pos rfl,←zc f'.fst (by omega),bu hu,if_pos rfl,ht']
   ·rw[if_neg q]
    exact jp f'.fst (by omega) (by rw[bu hu,if_neg q];exact e)
  | @step z l n w ih=>
   intro hz
   have q:z≠u:=fun q=>n (by rw[q];exact eu)
   have:=ih (f.fst.bnd z hz)
   rw[zc f.fst hz] at this
   rw[←this,←zc f'.fst (show z<(us.set u t).length by omega),bu hu,if_neg q]
 exact main (fj f.fst hz) hz
theorem Be {X Y A B x y a b:Nat}(ne:A≠B)(x1:X=A↔x=a)(x2:X=B↔x=b)(y1:Y=A↔y=a)(y2:Y=B↔y=b)(xy:X=Y↔x=y):((if X=B then A else X)=(if Y=B then A else Y)↔(if x=a then b else x)=(if y=a then b else y)):=by
 by_cases h1:X=B<;>by_cases h2:Y=B<;>by_cases h3:x=a<;>by_cases h4:y=a
 all_goals first|rw[if_pos h1]|rw[if_neg h1]
 all_goals first|rw[if_pos h2]|rw[if_neg h2]
 all_goals first|rw[if_pos h3]|rw[if_neg h3]
 all_goals first|rw[if_pos h4]|rw[if_neg h4]
 all_goals omega
theorem yd {X Y A B x y a b:Nat}(ne:A≠B)(x1:X=A↔x=a)(x2:X=B↔x=b)(y1:Y=A↔y=a)(y2:Y=B↔y=b)(xy:X=Y↔x=y):((if X=A then B else X)=(if Y=A then B else Y)↔(if x=a then b else x)=(if y=a then b else y)):=by
 by_cases h1:X=A<;>by_cases h2:Y=A<;>by_cases h3:x=a<;>by_cases h4:y=a
 all_goals first|rw[if_pos h1]|rw[if_neg h1]
 all_goals first|rw[if_pos h2]|rw[if_neg h2]
 all_goals first|rw[if_pos h3]|rw[if_neg h3]
 all_goals first|rw[if_pos h4]|rw[if_neg h4]
 all_goals omega
noncomputable def L8 (n:Nat)(us:List Nat)(c:Nat->Nat):Prop:=∀x y,x<n->y<n->(hd us x=hd us y↔c x=c y)
theorem Cz {n:Nat}{us ms:List Nat}{c:Nat->Nat}(S:Sto n us ms){p:Nat×Nat}(h:p.1<n/\p.2<n)(K:L8 n us c):L8 n (tU us ms p) (jn c p.1 p.2):=by
 rw[Ih]
 have kp:=K p.1 p.2 h.1 h.2
 by_cases e:hd us p.1=hd us p.2
 ·rw[if_pos e,zU (kp.mp e)];exact K
 ·rw[if_neg e]
  obtain⟨f,lu,lm⟩:=S
  have hx:p.1<us.length:=by omega
  have hz:p.2<us.length:=by omega
  have a1:=mY f.fst hx
  have a2:=mY f.fst hz
  have b1:=wJ f.fst hx
  have b2:=wJ f.fst hz
  intro x y lx ly
  have x1:=K x p.1 lx h.1
  have x2:=K x p.2 lx h.2
  have y1:=K y p.1 ly h.1
  have y2:=K y p.2 ly h.2
  have xy:=K x y lx ly
  unfold jn
  unfold oU tp un
  cases stay "size" ms (hd us p.1) (hd us p.2) with
  |true=>
   show hd (us.set (hd us p.2) (hd us p.1)) x=hd (us.set (hd us p.2) (hd us p.1)) y↔_
   rw[pS f a2 a1 b2 b1 e (by omega),pS f a2 a1 b2 b1 e (by omega)]
   exact Be e x1 x2 y1 y2 xy
  |false=>
   show hd (us.set (hd us p.1) (hd us p.2)) x=hd (us.set (hd us p.1) (hd us p.2)) y↔_
   rw[pS f a1 a2 b1 b2 (fun z=>e z.symm) (by omega),pS f a1 a2 b1 b2 (fun z=>e z.symm) (by omega)]
   exact yd e x1 x2 y1 y2 xy
theorem zq {n:Nat}:∀(row:List (Nat×Nat)) (k:Nat) (us ms:List Nat) (ts:List (Option Nat)) (c:Nat->Nat),Sto n us ms->(∀p∈row,p.1<n/\p.2<n)->L8 n us c->L8 n (rT row k us ms ts).1 (vP row c)
 |[],_,_,_,_,_,_,_,K=>K
 |p::r,k,us,ms,ts,c,S,hr,K=>by
  rw[Cn]
  exact zq r (k+1) _ _ _ _ (xb S (hr p List.mem_cons_self)) (fun q hq=>hr q (List.mem_cons_of_mem _ hq)) (Cz S (hr p List.mem_cons_self) K)
theorem PD {n:Nat}(h1:1≤n)(h2:n≤40):L8 n (List.range n) id:=fun x y hx hy=>by
 have u:∀x,x<n->up (List.range n) x=x:=fun x hx=>by unfold up;rw[List.getD_eq_getElem?_getD,List.getElem?_range hx];rfl
 have f:=qW h1 h2
 rw[jp f.fst (by rw[List.length_range];exact hx) (u x hx),jp f.fst (by rw[List.length_range];exact hy) (u y hy)]
 exact Iff.rfl
theorem BP {n:Nat}(h1:1≤n)(h2:n≤40){row:List (Nat×Nat)}(hr:∀p∈row,p.1<n/\p.2<n):dr n (hd (rU n row))=dr n (vP row id):=
 Pt.lots_congr (zq row 0 _ _ _ id (CQ h1 h2) hr (PD h1 h2))
end Dp
end
section
namespace Dp
open PySem L2 Fo Pu Lo Pt
theorem DU {fa:FE}{fl fh:FO}{ρ:aC}:sD fa fl fh ρ=(fa ρ).bind fun x=>(fl ρ).bind fun l=>(fh ρ).bind fun h=>Dw x.pv l h:=Eq.trans rfl rfl
theorem vM {ps:List PV}{l h:Option Int}:Dw (.tup ps) l h=some (.fz (.tup (cut ps l h))):=Eq.trans rfl rfl
theorem Ls {α:Type}(l:List α){m:Nat}(h:m≤l.length):cut l none (some (m:Int))=l.take m:=by
 unfold cut
 rw[_root_.HT.sIx_nat,_root_.HT.sIx_none,Nat.min_eq_left h,List.drop_zero,Nat.sub_zero]
theorem vA {row:List (Nat×Nat)}{m:Nat}(h:m≤row.length):cut (gR row) none (some (m:Int))=gR (row.take m):=by
 rw[Ls _ (by rw[jm];exact h)]
 unfold gR;rw[List.map_take]
theorem nA {n m:Nat}{row:List (Nat×Nat)}(hr:∀p∈row,p.1<n/\p.2<n):∀p∈row.take m,p.1<n/\p.2<n:=fun p hp=>hr p (List.take_subset _ _ hp)
theorem Ev {n:Nat}(h1:1≤n)(h2:n≤40){row:List (Nat×Nat)}(hr:∀p∈row,p.1<n/\p.2<n):gh [.int n,.tup (gR row)]=some (.n (bJ (dr n (vP row id)))):=by
 obtain⟨_,f,lu,_⟩:=rD h1 h2 hr
 have e:dD [.tup (ak (rU n row))]=some (.n (bJ (dr n (vP row id)))):=by
  rw[Ag f,←BP h1 h2 hr]
  show some (PR.n (bJ (AG (rU n row))))=_
  rw[G9,lu]
 have a0:∀a b:PV,L2.atI [a,b] 0=some a:=fun a b=>rfl
 simp only[xw,sv,EE,Nat.reduceAdd,Nat.reduceSub,Nat.reduceLeDiff,Nat.reduceLT,Nat.reduceEqDiff,Int.reduceLT,Int.reduceLE,Int.reduceAdd,Int.reduceSub,Int.reduceMul,Int.reduceMod,Int.reduceDiv,Int.reduceNeg,Int.reduceToNat,Int.reducePow,Int.reduceEq,M4 h1 h2 hr,a0,e]
theorem tQ {row:List (Nat×Nat)}{m:Nat}(h:m≤row.length):bg [.tup (gR row),.int m]=some (.v .non):=by
 have t:decide ((0:Int)≤(m:Int)/\(m:Int)<(row.length:Int)+1)=true:=decide_eq_true ⟨by omega,by omega⟩
 simp only[oP,m7,EE,Nat.reduceAdd,Nat.reduceSub,Nat.reduceLeDiff,Nat.reduceLT,Nat.reduceEqDiff,Int.reduceLT,Int.reduceLE,Int.reduceAdd,Int.reduceSub,Int.reduceMul,Int.reduceMod,Int.reduceDiv,Int.reduceNeg,Int.reduceToNat,Int.reducePow,Int.reduceEq,jm,ve,t]
theorem AF {a:Addr}{n m:Nat}(h1:1≤n)(h2:n≤40){row:List (Nat×Nat)}(hr:∀p∈row,p.1<n/\p.2<n)(h:m≤row.length):eI a [.int n,.tup (gR row),.int m]=some (.n (bJ (dr n (vP (row.take m) id)))):=by
 simp only[xv,sT,EE,Nat.reduceAdd,Nat.reduceSub,Nat.reduceLeDiff,Nat.reduceLT,Nat.reduceEqDiff,Int.reduceLT,Int.reduceLE,Int.reduceAdd,Int.reduceSub,Int.reduceMul,Int.reduceMod,Int.reduceDiv,Int.reduceNeg,Int.reduceToNat,Int.reducePow,Int.reduceEq,Ii h1 h2 hr,tQ h,DU,vM,vA h,Ev h1 h2 (nA hr)]
theorem AD {a:Addr}{n m x:Nat}(h1:1≤n)(h2:n≤40){row:List (Nat×Nat)}(hr:∀p∈row,p.1<n/\p.2<n)(h:m≤row.length)(hx:x<n):gn a [.int n,.tup (gR row),.int m,.int x]=some (.v (.int (hd (rU n (row.take m)) x:Nat))):=by
 obtain⟨_,f,lu,_⟩:=rD h1 h2 (nA (m:=m) hr)
 have a0:∀a b:PV,L2.atI [a,b] 0=some a:=fun a b=>rfl
 have e:dP [.int n,.tup (gR row),.int m]=some (.v (.tup (ak (rU n (row.take m))))):=by
  simp only[sk,pD,EE,Nat.reduceAdd,Nat.reduceSub,Nat.reduceLeDiff,Nat.reduceLT,Nat.reduceEqDiff,Int.reduceLT,Int.reduceLE,Int.reduceAdd,Int.reduceSub,Int.reduceMul,Int.reduceMod,Int.reduceDiv,Int.reduceNeg,Int.reduceToNat,Int.reducePow,Int.reduceEq,DU,vM,vA h,M4 h1 h2 (nA hr),a0]
 simp only[vX,sd,EE,Nat.reduceAdd,Nat.reduceSub,Nat.reduceLeDiff,Nat.reduceLT,Nat.reduceEqDiff,Int.reduceLT,Int.reduceLE,Int.reduceAdd,Int.reduceSub,Int.reduceMul,Int.reduceMod,Int.reduceDiv,Int.reduceNeg,Int.reduceToNat,Int.reducePow,Int.reduceEq,Ii h1 h2 hr,tQ h,Eu (show (0:Int)≤x by omega) (show (x:Int)<n by omega),e,IC (.inl rfl) f (show x<(rU n (row.take m)).length by omega),nj f (show x<(rU n (row.take m)).length by omega)]
end Dp
end
section
namespace K31
open PySem L2 Fo Pu Dp
noncomputable def jz:FS:=(aV (aj be (ap cF (aa (fV 0) (aa (fV 1) ah))) (jP (fC (.int 1)))))
theorem pE {ρ:aC}:jz ρ=(aV (aj be (ap cF (aa (fV 0) (aa (fV 1) ah))) (jP (fC (.int 1))))) ρ:=Eq.trans rfl rfl
noncomputable def ge:List PV->Option PR:=run 2 2 jz
theorem sG {a0 a1:PV}:ge [a0,a1]=(jz [some (.val a0),some (.val a1)]).res:=Eq.trans rfl rfl
noncomputable def ck (a_is_pair:Addr):FE:=(fB g7 (aa (fV 0) (aa (fC (.ty "tuple")) ah)))
theorem jt {a_is_pair:Addr}{ρ:aC}:(ck a_is_pair) ρ=(fB g7 (aa (fV 0) (aa (fC (.ty "tuple")) ah))) ρ:=Eq.trans rfl rfl
noncomputable def bj (a_is_pair:Addr):FE:=(bQ (aa (fC (.str "join")) (aa (fV 0) (aa (fV 1) ah))))
theorem jH {a_is_pair:Addr}{ρ:aC}:(bj a_is_pair) ρ=(bQ (aa (fC (.str "join")) (aa (fV 0) (aa (fV 1) ah)))) ρ:=Eq.trans rfl rfl
noncomputable def cj (a_is_pair:Addr):FS:=(al (aZ 8 (ap (gn a_is_pair) (aa (fV 0) (aa (fV 1) (aa (fV 2) (aa (aj bn (fV 7) (fV 0)) ah))))))
  (fA (kT (fT (fB g7 (aa (fV 8) (aa (fC (.ty "bool")) ah)))) (fT (aj iw (fV 8) (ap ge (aa (fV 6) (aa (aj bn (fV 7) (fV 0)) ah)))))) (aV (fC (.bl false))) aK))
theorem jO {a_is_pair:Addr}{ρ:aC}:(cj a_is_pair) ρ=(al (aZ 8 (ap (gn a_is_pair) (aa (fV 0) (aa (fV 1) (aa (fV 2) (aa (aj bn (fV 7) (fV 0)) ah))))))
  (fA (kT (fT (fB g7 (aa (fV 8) (aa (fC (.ty "bool")) ah)))) (fT (aj iw (fV 8) (ap ge (aa (fV 6) (aa (aj bn (fV 7) (fV 0)) ah)))))) (aV (fC (.bl false))) aK)) ρ:=Eq.trans rfl rfl
noncomputable def eL (a_is_pair:Addr):FS:=(al (aZ 4 (ap b9 (aa (fV 0) (aa (sD (fV 1) uQ (vv (fV 2))) ah))))
  (al (jl 5 (ap (eI a_is_pair) (aa (fV 0) (aa (fV 1) (aa (fV 2) ah)))))
  (al (fA (kT (eR (fT (fB g7 (aa (fV 5) (aa (fC (.ty "list")) ah))))) (kT (fT (aj iw (fV 5) (fV 4))) (eR (fT (fB Ch (aa (gH [none] (Fz (fV 5)) (gN 0) lQ (ck a_is_pair)) ah)))))) (aV (fC (.bl false))) aK)
  (al (aZ 6 (aj be (aj be (ap fu (aa (ap fk (aa (fV 0) (aa (fC (.str "size")) (aa (fC (.str "none")) ah)))) (aa (gH [none,none] (ph (sD (fV 1) uQ (vv (fV 2)))) (iR 2 (gC (gN 0) (gC (gN 1) g0))) lQ (bj a_is_pair)) ah))) (fC (.int 0))) (fC (.int 2))))
  (al (ig (ph (DN (fV 3) uQ (vv (fC (.int 6))))) (gN 7) (cj a_is_pair))
  (al (D4 5)
  (al (kX 5 (aa (fC .non) ah))
  (aV (aj dB (ap (eI a_is_pair) (aa (fV 0) (aa (fV 1) (aa (fV 2) ah)))) (fV 4))))))))))
theorem jT {a_is_pair:Addr}{ρ:aC}:(eL a_is_pair) ρ=(al (aZ 4 (ap b9 (aa (fV 0) (aa (sD (fV 1) uQ (vv (fV 2))) ah))))
  (al (jl 5 (ap (eI a_is_pair) (aa (fV 0) (aa (fV 1) (aa (fV 2) ah)))))
  (al (fA (kT (eR (fT (fB g7 (aa (fV 5) (aa (fC (.ty "list")) ah))))) (kT (fT (aj iw (fV 5) (fV 4))) (eR (fT (fB Ch (aa (gH [none] (Fz (fV 5)) (gN 0) lQ (ck a_is_pair)) ah)))))) (aV (fC (.bl false))) aK)
  (al (aZ 6 (aj be (aj be (ap fu (aa (ap fk (aa (fV 0) (aa (fC (.str "size")) (aa (fC (.str "none")) ah)))) (aa (gH [none,none] (ph (sD (fV 1) uQ (vv (fV 2)))) (iR 2 (gC (gN 0) (gC (gN 1) g0))) lQ (bj a_is_pair)) ah))) (fC (.int 0))) (fC (.int 2))))
  (al (ig (ph (DN (fV 3) uQ (vv (fC (.int 6))))) (gN 7) (cj a_is_pair))
  (al (D4 5)
  (al (kX 5 (aa (fC .non) ah))
  (aV (aj dB (ap (eI a_is_pair) (aa (fV 0) (aa (fV 1) (aa (fV 2) ah)))) (fV 4)))))))))) ρ:=Eq.trans rfl rfl
noncomputable def bP (a_is_pair:Addr):List PV->Option PR:=run 4 9 (eL a_is_pair)
theorem kS {a_is_pair:Addr}{a0 a1 a2 a3:PV}:(bP a_is_pair) [a0,a1,a2,a3]=((eL a_is_pair) [some (.val a0),some (.val a1),some (.val a2),some (.val a3),none,none,none,none,none]).res:=Eq.trans rfl rfl
noncomputable def oe (a_is_pair:Addr):FE:=(aj bn (fV 0) (aj bo (fB gX (aa (fV 1) ah)) (fC (.int 1))))
theorem yD {a_is_pair:Addr}{ρ:aC}:(oe a_is_pair) ρ=(aj bn (fV 0) (aj bo (fB gX (aa (fV 1) ah)) (fC (.int 1)))) ρ:=Eq.trans rfl rfl
noncomputable def lX (a_is_pair:Addr):FS:=(fA (eR (fT (ap (bP a_is_pair) (aa (fV 2) (aa (fV 3) (aa (fV 6) (aa (fV 4) ah))))))) (aV (fC (.bl false))) aK)
theorem yG {a_is_pair:Addr}{ρ:aC}:(lX a_is_pair) ρ=(fA (eR (fT (ap (bP a_is_pair) (aa (fV 2) (aa (fV 3) (aa (fV 6) (aa (fV 4) ah))))))) (aV (fC (.bl false))) aK) ρ:=Eq.trans rfl rfl
noncomputable def jW (a_is_pair:Addr):FS:=(al (fM (ap de (aa (fV 0) (aa (fV 1) ah))) (iR 2 (gC (gN 2) (gC (gN 3) g0))))
  (al (aZ 4 (ap aF (aa (ap aX (aa (fV 0) (aa (aj bo (fC (.int 44)) (aj jy (fV 1) (fC (.int 13)))) ah))) (aa (fC (.int 16)) ah))))
  (al (aZ 5 (fB fg (aa (fB qD (aa (aj bo (fB gX (aa (fV 3) ah)) (fC (.int 1))) ah)) ah)))
  (al (fA (fT (aj Df (fB gX (aa (fV 5) ah)) (fC (.int 13)))) (aZ 5 (aj bo (eV (aa (fC (.int 0)) (aa (fB gX (aa (fV 3) ah)) ah))) (gH [none,some 3] (ph (DN (fV 4) (vv (fC (.int 6))) uQ)) (gN 0) lQ (oe a_is_pair)))) aK)
  (ig (ph (fV 5)) (gN 6) (lX a_is_pair))))))
theorem rm {a_is_pair:Addr}{ρ:aC}:(jW a_is_pair) ρ=(al (fM (ap de (aa (fV 0) (aa (fV 1) ah))) (iR 2 (gC (gN 2) (gC (gN 3) g0))))
  (al (aZ 4 (ap aF (aa (ap aX (aa (fV 0) (aa (aj bo (fC (.int 44)) (aj jy (fV 1) (fC (.int 13)))) ah))) (aa (fC (.int 16)) ah))))
  (al (aZ 5 (fB fg (aa (fB qD (aa (aj bo (fB gX (aa (fV 3) ah)) (fC (.int 1))) ah)) ah)))
  (al (fA (fT (aj Df (fB gX (aa (fV 5) ah)) (fC (.int 13)))) (aZ 5 (aj bo (eV (aa (fC (.int 0)) (aa (fB gX (aa (fV 3) ah)) ah))) (gH [none,some 3] (ph (DN (fV 4) (vv (fC (.int 6))) uQ)) (gN 0) lQ (oe a_is_pair)))) aK)
  (ig (ph (fV 5)) (gN 6) (lX a_is_pair)))))) ρ:=Eq.trans rfl rfl
noncomputable def pM (a_is_pair:Addr):FS:=(al (ig (ph (eV (aa (fC (.int 0)) (aa (fC (.int 13)) ah)))) (gN 1) (jW a_is_pair))
  (aV (fC (.bl true))))
theorem An {a_is_pair:Addr}{ρ:aC}:(pM a_is_pair) ρ=(al (ig (ph (eV (aa (fC (.int 0)) (aa (fC (.int 13)) ah)))) (gN 1) (jW a_is_pair))
  (aV (fC (.bl true)))) ρ:=Eq.trans rfl rfl
noncomputable def IL (a_is_pair:Addr):List PV->Option PR:=run 1 7 (pM a_is_pair)
theorem Ff {a_is_pair:Addr}{a0:PV}:(IL a_is_pair) [a0]=((pM a_is_pair) [some (.val a0),none,none,none,none,none,none]).res:=Eq.trans rfl rfl
end K31
end
section
namespace K31
open PySem L2 Fo Pu Dp Lo Pt
theorem Ha {us:List Nat}(f:Frst us){x:Nat}(hx:x<us.length):ge [.tup (ak us),.int x]=some (.v (.int (hd us x:Nat))):=by
 simp only[sG,pE,EE,Nat.reduceAdd,Nat.reduceSub,Nat.reduceLeDiff,Nat.reduceLT,Nat.reduceEqDiff,Int.reduceLT,Int.reduceLE,Int.reduceAdd,Int.reduceSub,Int.reduceMul,Int.reduceMod,Int.reduceDiv,Int.reduceNeg,Int.reduceToNat,Int.reducePow,Int.reduceEq,EC (.inl rfl) f hx,nj f hx]
theorem yF {n:Nat}(h40:n≤40){ps:List (Nat×Nat)}(hp:∀p∈ps,p.1<n/\p.2<n):b9 [.int n,.tup (gR ps)]=some (.n (bJ (dr n (vP ps id)))):=by
 obtain⟨ls',z3',z4',z5',z6',P',e⟩:=p7 h40 (s0:=some (.val (.int n))) (s1:=some (.val (.tup (gR ps)))) ps id _ none none none none (HF n) hp
 have e0:vR (gN 0) lQ eO [none] (ak (List.range n))=some (bJ ((List.range n).map fun x=>[x])):=by
  rw[zr (fun u=>PV.tup [.int u]) fun u hu=>by simp only[mK,EE,Nat.reduceAdd,Nat.reduceSub,Nat.reduceLeDiff,Nat.reduceLT,Nat.reduceEqDiff,Int.reduceLT,Int.reduceLE,Int.reduceAdd,Int.reduceSub,Int.reduceMul,Int.reduceMod,Int.reduceDiv,Int.reduceNeg,Int.reduceToNat,Int.reducePow,Int.reduceEq]]
  unfold bJ;rw[List.map_map];rfl
 have h1:(List.range n).length<1000:=by rw[List.length_range];omega
 have hn:n<1000:=by omega
 have e:cH (iR 2 (gC (gN 3) (gC (gN 4) g0))) db (gR ps) [some (.val (.int n)),some (.val (.tup (gR ps))),some (.val (.lst (bJ ((List.range n).map fun x=>[x])))),none,none,none,none]=_:=e
 simp only[oz,nc,EE,Nat.reduceAdd,Nat.reduceSub,Nat.reduceLeDiff,Nat.reduceLT,Nat.reduceEqDiff,Int.reduceLT,Int.reduceLE,Int.reduceAdd,Int.reduceSub,Int.reduceMul,Int.reduceMod,Int.reduceDiv,Int.reduceNeg,Int.reduceToNat,Int.reducePow,Int.reduceEq,K1 (show n≤100000 by omega),h1,hn,List.length_range,e0,e,xC P' h40]
noncomputable def Iz (row:List (Nat×Nat)):List PV:=row.map fun p=>.tup [.str "join",.int p.1,.int p.2]
theorem xc {n:Nat}{s1:Option Sl}:∀(row:List (Nat×Nat)) (k:Nat) (us ms:List Nat) (ts:List (Option Nat)) (as bs:List PV) (z4 z5 z6:Option Sl),Sto n us ms->(∀p∈row,p.1<n/\p.2<n)->as.length+row.length≤1000->bs.length+row.length≤1000 →
  ∃as' bs' w4 w5 w6,cH (gN 4) ix (Iz row) [some (.val (kK "size" "none" us ms)),s1,some (.own as),some (.own bs),z4,z5,z6]=.nx [some (.val (kK "size" "none" (rT row k us ms ts).1 (rT row k us ms ts).2.1)),s1,some (.own as'),some (.own bs'),w4,w5,w6]
 |[],k,us,ms,ts,as,bs,z4,z5,z6,_,_,_,_=>⟨as,bs,z4,z5,z6,rfl⟩
 |p::row,k,us,ms,ts,as,bs,z4,z5,z6,S,hr,ha,hb=>by
  rw[List.length_cons] at ha hb
  have h:=hr p List.mem_cons_self
  have ed:cS [kK "size" "none" us ms,.tup [.str "join",.int p.1,.int p.2]]=some (.v (.tup [kK "size" "none" (tU us ms p) (tM us ms p),dA us (.join p.1 p.2),.int (dS "none" us (.join p.1 p.2):Nat)])):=EZ S uw pO (d:=.join p.1 p.2) h
  obtain⟨as',bs',w4,w5,w6,e⟩:=xc (s1:=s1) row (k+1) (tU us ms p) (tM us ms p) (xD k us (tU us ms p) (List.range us.length) ts) (as++[dA us (.join p.1 p.2)]) (bs++[.int (dS "none" us (.join p.1 p.2):Nat)]) (some (.val (.tup [.str "join",.int p.1,.int p.2]))) (some (.val (dA us (.join p.1 p.2)))) (some (.val (.int (dS "none" us (.join p.1 p.2):Nat)))) (xb S h) (fun q hq=>hr q (List.mem_cons_of_mem _ hq)) (by rw[List.length_append,List.length_singleton];omega) (by rw[List.length_append,List.length_singleton];omega)
  refine⟨as',bs',w4,w5,w6,?_⟩
  have l1:as.length≤100000:=by omega
  have l2:bs.length≤100000:=by omega
  rw[show rT (p::row) k us ms ts=rT row (k+1) (tU us ms p) (tM us ms p) (xD k us (tU us ms p) (List.range us.length) ts) from rfl,←e,show Iz (p::row)=.tup [.str "join",.int p.1,.int p.2]::Iz row from rfl,im]
  simp only[pG,EE,Nat.reduceAdd,Nat.reduceSub,Nat.reduceLeDiff,Nat.reduceLT,Nat.reduceEqDiff,Int.reduceLT,Int.reduceLE,Int.reduceAdd,Int.reduceSub,Int.reduceMul,Int.reduceMod,Int.reduceDiv,Int.reduceNeg,Int.reduceToNat,Int.reducePow,Int.reduceEq,ed,l1,l2]
theorem Nw {n:Nat}(h1:1≤n)(h2:n≤40){row:List (Nat×Nat)}(hr:∀p∈row,p.1<n/\p.2<n)(hl:row.length≤60):∃(as bs:List PV) (ms:List Nat),fu [kK "size" "none" (List.range n) (List.replicate n (Im "size")),.lst (Iz row)]=some (.v (.tup [kK "size" "none" (rU n row) ms,.lst as,.lst bs])):=by
 obtain⟨as,bs,w4,w5,w6,e⟩:=xc (n:=n) (s1:=some (.val (.lst (Iz row)))) row 0 _ _ (List.replicate n none) [] [] none none none (CQ h1 h2) hr (by simp;omega) (by simp;omega)
 refine⟨as,bs,(rT row 0 (List.range n) (List.replicate n (Im "size")) (List.replicate n none)).2.1,?_⟩
 unfold Dp.rU
 simp only[uO,qx,EE,Nat.reduceAdd,Nat.reduceSub,Nat.reduceLeDiff,Nat.reduceLT,Nat.reduceEqDiff,Int.reduceLT,Int.reduceLE,Int.reduceAdd,Int.reduceSub,Int.reduceMul,Int.reduceMod,Int.reduceDiv,Int.reduceNeg,Int.reduceToNat,Int.reducePow,Int.reduceEq,ku,gJ,e]
variable {a:Addr}
theorem DQ {n m:Nat}(h1:1≤n)(h2:n≤40){row:List (Nat×Nat)}(hr:∀p∈row,p.1<n/\p.2<n)(hm:m≤row.length){s3 s4 s5:Option Sl}:∀(xs:List Nat) (z7 z8:Option Sl),
  ∃w7 w8,cH (gN 7) (cj a) (ak xs) [some (.val (.int n)),some (.val (.tup (gR row))),some (.val (.int m)),s3,s4,s5,some (.val (.tup (ak (Dp.rU n (row.take m))))),z7,z8]=.nx [some (.val (.int n)),some (.val (.tup (gR row))),some (.val (.int m)),s3,s4,s5,some (.val (.tup (ak (Dp.rU n (row.take m))))),w7,w8]
 |[],z7,z8=>⟨z7,z8,rfl⟩
 |x::xs,z7,z8=>by
  obtain⟨_,f,lu,_⟩:=rD h1 h2 (nA (m:=m) hr)
  have hx:x % n<n:=Nat.mod_lt _ (by omega)
  have pn:(0:Int)<(n:Int):=by omega
  have e0:(x:Int) % (n:Int)=((x % n:Nat):Int):=rfl
  obtain⟨w7,w8,e⟩:=DQ h1 h2 hr hm (s3:=s3) (s4:=s4) (s5:=s5) xs (some (.val (.int x))) (some (.val (.int (hd (Dp.rU n (row.take m)) (x % n):Nat))))
  refine⟨w7,w8,?_⟩
  rw[←e,cP,im]
  have dh:∀q:Nat,decide ((q:Int)=(q:Int))=true:=fun q=>decide_eq_true rfl
  simp only[jO,EE,Nat.reduceAdd,Nat.reduceSub,Nat.reduceLeDiff,Nat.reduceLT,Nat.reduceEqDiff,Int.reduceLT,Int.reduceLE,Int.reduceAdd,Int.reduceSub,Int.reduceMul,Int.reduceMod,Int.reduceDiv,Int.reduceNeg,Int.reduceToNat,Int.reducePow,Int.reduceEq,pn,e0,AD h1 h2 hr hm hx,Ha f (show x % n<(Dp.rU n (row.take m)).length by omega),dh]
theorem EF {n m:Nat}(h1:1≤n)(h2:n≤40){row:List (Nat×Nat)}(hr:∀p∈row,p.1<n/\p.2<n)(hm:m≤row.length)(hl:row.length≤60){xs:List Nat}(hx:xs.length=16):bP a [.int n,.tup (gR row),.int m,.lst (ak xs)]=some (.v (.bl true)):=by
 have ht:=nA (m:=m) hr
 have lt:(row.take m).length≤60:=by rw[List.length_take];omega
 obtain⟨as,bs,ms,er⟩:=Nw h1 h2 ht lt
 have g1:vR (gN 0) lQ (ck a) [none] (bJ (dr n (vP (row.take m) id)))=some ((bJ (dr n (vP (row.take m) id))).map fun _=>PV.bl true):=yn _ fun p hp=>by
  obtain⟨l,hl,rfl⟩:=List.mem_map.mp hp
  simp only[jt,EE,Nat.reduceAdd,Nat.reduceSub,Nat.reduceLeDiff,Nat.reduceLT,Nat.reduceEqDiff,Int.reduceLT,Int.reduceLE,Int.reduceAdd,Int.reduceSub,Int.reduceMul,Int.reduceMod,Int.reduceDiv,Int.reduceNeg,Int.reduceToNat,Int.reducePow,Int.reduceEq]
 have g2:vR (iR 2 (gC (gN 0) (gC (gN 1) g0))) lQ (bj a) [none,none] (gR (row.take m))=some (Iz (row.take m)):=by
  have:∀l:List (Nat×Nat),vR (iR 2 (gC (gN 0) (gC (gN 1) g0))) lQ (bj a) [none,none] (gR l)=some (Iz l):=fun l=>by
   induction l with
   |nil=>rfl
   |cons p l ih=>
    have:=yn (t:=iR 2 (gC (gN 0) (gC (gN 1) g0))) (f:=bj a) (ρ:=[none,none]) (fun q=>match q with|.tup [.int x,.int y]=>.tup [.str "join",.int x,.int y]|_=>.non) (its:=gR (p::l)) fun q hq=>by
     obtain⟨r,_,rfl⟩:=List.mem_map.mp hq
     simp only[jH,EE,Nat.reduceAdd,Nat.reduceSub,Nat.reduceLeDiff,Nat.reduceLT,Nat.reduceEqDiff,Int.reduceLT,Int.reduceLE,Int.reduceAdd,Int.reduceSub,Int.reduceMul,Int.reduceMod,Int.reduceDiv,Int.reduceNeg,Int.reduceToNat,Int.reducePow,Int.reduceEq]
    rw[this]
    unfold gR Iz
    rw[List.map_map];rfl
  exact this _
 have hll:=AV n (vP (row.take m) id)
 have l1:(bJ (dr n (vP (row.take m) id))).length<1000:=by rw[kd];omega
 have l2:(bJ (dr n (vP (row.take m) id))).reverse.length≤100000:=by rw[List.length_reverse,kd];omega
 have l3:(gR (row.take m)).length<1000:=by rw[jm];omega
 have dd:decide (cf (bJ (dr n (vP (row.take m) id)))≤49)=true:=decide_eq_true (by have:=xN (dr n (vP (row.take m) id));omega)
 have i0:∀p q r:PV,L2.atI [p,q,r] 0=some p:=fun p q r=>rfl
 obtain⟨w7,w8,el⟩:=DQ (a:=a) h1 h2 hr hm (s3:=some (.val (.lst (ak xs)))) (s4:=some (.val (.lst (bJ (dr n (vP (row.take m) id)))))) (s5:=some (.own (bJ (dr n (vP (row.take m) id))))) (cut xs none (some 6)) none none
 simp only[kS,jT,EE,Nat.reduceAdd,Nat.reduceSub,Nat.reduceLeDiff,Nat.reduceLT,Nat.reduceEqDiff,Int.reduceLT,Int.reduceLE,Int.reduceAdd,Int.reduceSub,Int.reduceMul,Int.reduceMod,Int.reduceDiv,Int.reduceNeg,Int.reduceToNat,Int.reducePow,Int.reduceEq,DU,vM,vA hm,yF h2 ht,AF h1 h2 hr hm,Dp.Oe,Gg,l1,g1,nC,dd,mC (nC _),MS,Nf,LA h1 h2,l3,g2,er,i0,xq,qO,el,NC,HI,l2]
theorem yQ {n:Nat}(h1:1≤n)(h2:n≤40){row:List (Nat×Nat)}(hr:∀p∈row,p.1<n/\p.2<n)(hl:row.length≤60){xs:List Nat}(hx:xs.length=16){s0 s1 s5:Option Sl}:∀(qs:List Nat) (z6:Option Sl),(∀q∈qs,q≤row.length) →
  ∃w6,cH (gN 6) (lX a) (ak qs) [s0,s1,some (.val (.int n)),some (.val (.tup (gR row))),some (.val (.lst (ak xs))),s5,z6]=.nx [s0,s1,some (.val (.int n)),some (.val (.tup (gR row))),some (.val (.lst (ak xs))),s5,w6]
 |[],z6,_=>⟨z6,rfl⟩
 |q::qs,z6,h=>by
  obtain⟨w6,e⟩:=yQ h1 h2 hr hl hx (s0:=s0) (s1:=s1) (s5:=s5) qs (some (.val (.int q))) fun r hr=>h r (List.mem_cons_of_mem _ hr)
  refine⟨w6,?_⟩
  rw[←e,cP,im]
  simp only[yG,EE,Nat.reduceAdd,Nat.reduceSub,Nat.reduceLeDiff,Nat.reduceLT,Nat.reduceEqDiff,Int.reduceLT,Int.reduceLE,Int.reduceAdd,Int.reduceSub,Int.reduceMul,Int.reduceMod,Int.reduceDiv,Int.reduceNeg,Int.reduceToNat,Int.reducePow,Int.reduceEq,EF h1 h2 hr (h q List.mem_cons_self) hl hx]
theorem BW:∀ns:List Int,ns.length≤63->run 1 7 (pM a) [.src (ns.map PV.int)]=some (.v (.bl true)):=fun ns hn=>by
 have step:∀(q:Nat) (z2 z3 z4 z5 z6:Option Sl),q≤13->∃w2 w3 w4 w5 w6,jW a [some (.val (.src (iL ns))),some (.val (.int q)),z2,z3,z4,z5,z6]=.nx [some (.val (.src (iL ns))),some (.val (.int q)),w2,w3,w4,w5,w6]:=fun q z2 z3 z4 z5 z6 hq=>by
  obtain⟨n,row,n1,n2,hr,hl,ed⟩:=FG ns (at':=q) (by omega)
  obtain⟨c,ec⟩:=uL ns ((44:Int)+(q:Int) / 13) (by omega) (by omega)
  obtain⟨xs,hx,ex⟩:=mx c 16 (by decide) (by decide)
  have hx:xs.length=16:=hx
  have k1:=K1 (n:=row.length+1) (by omega)
  have el:(row.length:Int)+1=((row.length+1:Nat):Int):=by omega
  by_cases d:13<row.length+1
  ·have dd:decide ((13:Int)<((row.length+1:Nat):Int))=true:=decide_eq_true (by omega)
   have pl:(0:Int)<((row.length+1:Nat):Int):=by omega
   have g:vR (gN 0) lQ (oe a) [none,some (.val (.tup (gR row)))] (ak (cut xs (some 6) none))=some (ak ((cut xs (some 6) none).map (· % (row.length+1)))):=by
    rw[←Fd]
    exact zr _ fun u hu=>by
     simp only[yD,EE,Nat.reduceAdd,Nat.reduceSub,Nat.reduceLeDiff,Nat.reduceLT,Nat.reduceEqDiff,Int.reduceLT,Int.reduceLE,Int.reduceAdd,Int.reduceSub,Int.reduceMul,Int.reduceMod,Int.reduceDiv,Int.reduceNeg,Int.reduceToNat,Int.reducePow,Int.reduceEq,jm,el,pl]
     rfl
   have lc:(cut xs (some 6) none).length≤16:=by
    unfold cut
    rw[List.length_take,List.length_drop];omega
   have lc1:(cut xs (some 6) none).length<1000:=by omega
   have lc2:2+(cut xs (some 6) none).length≤100000:=by omega
   obtain⟨w6,em⟩:=yQ (a:=a) n1 n2 hr hl hx (s0:=some (.val (.src (iL ns)))) (s1:=some (.val (.int q))) (s5:=some (.val (.lst (ak (0::row.length::(cut xs (some 6) none).map (· % (row.length+1))))))) (0::row.length::(cut xs (some 6) none).map (· % (row.length+1))) z6 (fun r hr=>by
    rcases List.mem_cons.mp hr with rfl|hr
    ·omega
    ·rcases List.mem_cons.mp hr with rfl|hr
     ·omega
     ·obtain⟨u,_,rfl⟩:=List.mem_map.mp hr
      have:=Nat.mod_lt u (show 0<row.length+1 by omega)
      omega)
   have em:cH (gN 6) (lX a) (.int 0::.int (row.length:Nat)::ak ((cut xs (some 6) none).map (· % (row.length+1)))) [some (.val (.src (iL ns))),some (.val (.int q)),some (.val (.int n)),some (.val (.tup (gR row))),some (.val (.lst (ak xs))),some (.val (.lst (.int 0::.int (row.length:Nat)::ak ((cut xs (some 6) none).map (· % (row.length+1)))))),z6]=_:=em
   exact⟨some (.val (.int n)),some (.val (.tup (gR row))),some (.val (.lst (ak xs))),some (.val (.lst (.int 0::.int (row.length:Nat)::ak ((cut xs (some 6) none).map (· % (row.length+1)))))),w6,by simp only[rm,EE,Nat.reduceAdd,Nat.reduceSub,Nat.reduceLeDiff,Nat.reduceLT,Nat.reduceEqDiff,Int.reduceLT,Int.reduceLE,Int.reduceAdd,Int.reduceSub,Int.reduceMul,Int.reduceMod,Int.reduceDiv,Int.reduceNeg,Int.reduceToNat,Int.reducePow,Int.reduceEq,ed,ec,ex,jm,el,k1,List.length_range,dd,qO,lc1,g,List.length_map,lc2,em];rfl⟩
  ·have dd:decide ((13:Int)<((row.length+1:Nat):Int))=false:=decide_eq_false (by omega)
   obtain⟨w6,em⟩:=yQ (a:=a) n1 n2 hr hl hx (s0:=some (.val (.src (iL ns)))) (s1:=some (.val (.int q))) (s5:=some (.val (.lst (ak (List.range (row.length+1)))))) (List.range (row.length+1)) z6 (fun r hr=>by have:=List.mem_range.mp hr;omega)
   exact⟨some (.val (.int n)),some (.val (.tup (gR row))),some (.val (.lst (ak xs))),some (.val (.lst (ak (List.range (row.length+1))))),w6,by simp only[rm,EE,Nat.reduceAdd,Nat.reduceSub,Nat.reduceLeDiff,Nat.reduceLT,Nat.reduceEqDiff,Int.reduceLT,Int.reduceLE,Int.reduceAdd,Int.reduceSub,Int.reduceMul,Int.reduceMod,Int.reduceDiv,Int.reduceNeg,Int.reduceToNat,Int.reducePow,Int.reduceEq,ed,ec,ex,jm,el,k1,List.length_range,dd,em]⟩
 have loop:∀(qs:List Nat) (z1 z2 z3 z4 z5 z6:Option Sl),(∀q∈qs,q≤13)->∃w1 w2 w3 w4 w5 w6,cH (gN 1) (jW a) (ak qs) [some (.val (.src (iL ns))),z1,z2,z3,z4,z5,z6]=.nx [some (.val (.src (iL ns))),w1,w2,w3,w4,w5,w6]:=fun qs=>by
  induction qs with
  |nil=>intro z1 z2 z3 z4 z5 z6 _;exact⟨z1,z2,z3,z4,z5,z6,rfl⟩
  |cons q qs ih=>
   intro z1 z2 z3 z4 z5 z6 h
   obtain⟨v2,v3,v4,v5,v6,e1⟩:=step q z2 z3 z4 z5 z6 (h q List.mem_cons_self)
   obtain⟨w1,w2,w3,w4,w5,w6,e⟩:=ih (some (.val (.int q))) v2 v3 v4 v5 v6 fun r hr=>h r (List.mem_cons_of_mem _ hr)
   refine⟨w1,w2,w3,w4,w5,w6,?_⟩
   rw[←e,cP,im]
   simp only[EE,Nat.reduceAdd,Nat.reduceSub,Nat.reduceLeDiff,Nat.reduceLT,Nat.reduceEqDiff,Int.reduceLT,Int.reduceLE,Int.reduceAdd,Int.reduceSub,Int.reduceMul,Int.reduceMod,Int.reduceDiv,Int.reduceNeg,Int.reduceToNat,Int.reducePow,Int.reduceEq,e1]
 obtain⟨w1,w2,w3,w4,w5,w6,e⟩:=loop [0,13] none none none none none none (by decide)
 have e:cH (gN 1) (jW a) [.int 0,.int 13] [some (.val (.src (ns.map PV.int))),none,none,none,none,none,none]=_:=e
 show IL a [.src (ns.map PV.int)]=_
 simp only[Ff,An,EE,Nat.reduceAdd,Nat.reduceSub,Nat.reduceLeDiff,Nat.reduceLT,Nat.reduceEqDiff,Int.reduceLT,Int.reduceLE,Int.reduceAdd,Int.reduceSub,Int.reduceMul,Int.reduceMod,Int.reduceDiv,Int.reduceNeg,Int.reduceToNat,Int.reducePow,Int.reduceEq,e]
end K31
end
section
section
namespace O31
open PySem L2
noncomputable def top (i:Nat):Stmt:=PySem.Challenge.pw_lotheads_k31_heads_and_lots_at_moments.main.body.getD i (.Pass ⟨0,0,0,0⟩)
structure Txt (mg:Str->Option Value):Prop where
 n_abs:mg "abs" = none
 n_all:mg "all" = none
 n_bool:mg "bool" = none
 n_enumerate:mg "enumerate" = none
 n_int:mg "int" = none
 n_isinstance:mg "isinstance" = none
 n_len:mg "len" = none
 n_list:mg "list" = none
 n_min:mg "min" = none
 n_range:mg "range" = none
 n_sorted:mg "sorted" = none
 n_str:mg "str" = none
 n_tuple:mg "tuple" = none
 c_MOST_THINGS:∃t,mg "MOST_THINGS" = some (.int 40 t)
section
variable {P:Program}{w:World}{K:PySem.W.Frag}{mg:Str->Option Value}{base:Heap}
noncomputable abbrev nV (n:Nat):V:=.int (n:Int)
theorem fQ {us:List Nat}{x:Nat}(hx:x<us.length):atI (us.map nV) (x:Int)=some (nV (us.getD x 0)):=by
 refine iU ?_
 rw[List.getElem?_map,List.getElem?_eq_getElem hx]
 simp[hx]
end
end O31
end
section
namespace O31
open PySem L2
end O31
end
section
namespace O31
open PySem L2
theorem ui {n k:Nat}(h:k<n):tX n (k:Int)=some k:=by
 unfold tX
 rw[if_pos (by omega),if_pos (by omega),Int.toNat_natCast]
section
variable {P:Program}{w:World}{K:PySem.W.Frag}{mg:Str->Option Value}{base:Heap}
end
end O31
end
section
namespace O31
open PySem L2 Fo
noncomputable def SB (a:Addr)(H H':Hp):Prop:=∀b o,b≠a->H b=some o->H' b=some o
theorem SB.refl {a:Addr}{H:Hp}:SB a H H:=fun _ _ _ h=>h
theorem SB.upd {a:Addr}{H H':Hp}(s:SB a H H')(o:HO):SB a H (upd H' a o):=fun b q n h=>by rw[ay n];exact s b q n h
theorem SB.new {a p:Addr}{H H':Hp}(s:SB a H H')(hp:H' p=none)(o:HO):SB a H (L2.upd H' p o):=fun b q n h=>by
 rw[ay (bB (s b q n h) hp)];exact s b q n h
noncomputable def fJ (R:List Nat->Nat->Nat->List Nat->Nat->Prop):Sp:=fun vs H Q _=>∃(a:Addr) (us:List Nat) (x:Nat),vs=[.ref a,.int x]/\H a=some (.lst (us.map nV))/\us.length≤40/\Fst us/\x<us.length ∧
 ∀h us' n p H',R us x h us' n->SB a H H'->H' a=some (.lst (us'.map nV))->H' p=some (.tup [nV h,nV n])->Q (.ref p) H'
theorem Ep {u y:Nat}:decide (nV u=nV y)=decide (u=y):=by
 rw[zy,Bool.eq_iff_iff,beq_iff_eq,decide_eq_true_iff]
 omega
theorem mF {vs:List Nat}{y v:Nat}:(vs.map nV).set y (nV v)=(vs.set y v).map nV:=by rw[List.map_set]
theorem zJ {vs:List Nat}{y v:Nat}(hb:∀z,z<vs.length->up vs z<vs.length)(hy:y<vs.length)(hv:v<vs.length):∀z,z<(vs.set y v).length->up (vs.set y v) z<(vs.set y v).length:=fun z hz=>by
 rw[List.length_set] at hz ⊢
 rw[bu hy]
 split
 ·exact hv
 ·exact hb z hz
theorem C6 {p l:List Nat}{y:Nat}(h:l≠[]):cM (p++y::l)=cM l:=by
 induction p with
 |nil=>exact cA h
 |cons z p ih=>rw[List.cons_append,cA (by simp)];exact ih
structure WInv (a:Addr)(x:Nat)(us l:List Nat)(n:Nat)(H:Hp)(m:Nat)(σ:St)(H':Hp):Prop where
 mk' ::
 it:∃vs y pre l2 z,σ=[some (.ref a),some (nV x),some (nV (cM l)),some (nV n),some (nV y),z]/\H' a=some (.lst (vs.map nV))/\SB a H H'/\vs.length=us.length/\(∀t,up vs t=if t∈pre then cM l else up us t)/\l=pre++l2/\Way us y l2/\l2.length=m
structure HInv (a:Addr)(x:Nat)(us':List Nat)(h N len:Nat)(H:Hp)(Rl:List Nat->Nat->Nat->List Nat->Nat->Prop)(m:Nat)(σ:St)(H':Hp):Prop where
 mk' ::
 it:∃vs y k,σ=[some (.ref a),some (nV x),some (nV y),some (nV k)]/\H' a=some (.lst (vs.map nV))/\SB a H H'/\y<len/\vs.length=len/\(∀z,z<vs.length->up vs z<vs.length)/\Rl vs y h us' m/\k+m=N
section
variable {P:Program}{w:World}{K:PySem.W.Frag}{mg:Str->Option Value}{base:Heap}
noncomputable abbrev dX:Stmt:=top 18
theorem sc_find_none:FnScope ["ups","x","at","steps"] ["ups","x"] (ag dX):=⟨rfl,rfl,rfl,by decide +kernel,rfl,by decide +kernel,by decide +kernel⟩
theorem uJ (T:Txt mg)(F:FunD K mg "find_none" dX ["ups","x"]):Def P w K mg base 1 "find_none" ["ups","x"] (fJ wo):=by
 refine F.ok sc_find_none (fun vs H Q E h=>by obtain⟨m,v,x,rfl,_⟩:=h;rfl) (fun f cdv A outer s H vs Q E hr h=>?_)
 obtain⟨a,us,x,rfl,ha,h40,hf,hx,q⟩:=h
 refine⟨_,(aS (aI (i:=2) sc_find_none.nd rfl (by first|exact Or.inl rfl|exact Or.inr rfl) (pv 1))
  (aS (aI (i:=3) sc_find_none.nd rfl (by first|exact Or.inl rfl|exact Or.inr rfl) mh)
  (aS (ji PassesOwn.never (oi zK (jr (kQ (K:=K) rfl) (pv 0) (pv 2) (fun _ _=>rfl)) (pv 2) (aO _)) (aS (aI (i:=2) sc_find_none.nd rfl (by first|exact Or.inl rfl|exact Or.inr rfl) (jr (kQ (K:=K) rfl) (pv 0) (pv 2) (fun _ _=>rfl)))
  (eT (xX (i:=3) sc_find_none.nd rfl (by first|exact Or.inl rfl|exact Or.inr rfl) mh yi))))
  (eT (jd (nh (aG ae (pv 2) (aG ae (pv 3) cO)))))))),?_⟩
 (try dsimp only[gW,dQ,dw,iB,dC,g9,oG,il,b8,bI,cL,eN,bS,m5,ot,ky,rI,rU,tC,tB,dy,oy,hJ,gB,dl,df,bf,gT,h8,kU,oK,dm,bm,cc,nt,h7,oZ,fS,cC,gD,fU,dc,gK,dB,iw,gM,gS,cZ,ic,ib,dk,ia,cD,dR,bV,fY,L2.bz,List.map_cons,List.map_nil,List.length_cons,List.length_nil,List.replicate,List.cons_append,List.nil_append,List.append_nil,List.getElem?_cons_zero,List.getElem?_cons_succ,List.set_cons_zero,List.set_cons_succ,List.getElem?_nil,Option.bind_some,Option.bind_none,Option.join_some,Option.join_none,Nat.add_one_sub_one,Nat.reduceSub,Nat.reduceAdd]);simp only[gW,dQ,dw,iB,dC,g9,oG,il,b8,bI,cL,eN,bS,m5,ot,ky,rI,rU,tC,tB,dy,oy,hJ,gB,dl,df,bf,gT,h8,kU,oK,dm,bm,cc,nt,h7,oZ,fS,cC,gD,fU,dc,gK,dB,iw,gM,gS,cZ,ic,ib,dk,ia,cD,dR,bV,fY,L2.bz,List.map_cons,List.map_nil,List.length_cons,List.length_nil,List.replicate,List.cons_append,List.nil_append,List.append_nil,List.getElem?_cons_zero,List.getElem?_cons_succ,List.set_cons_zero,List.set_cons_succ,List.getElem?_nil,Option.bind_some,Option.bind_none,Option.join_some,Option.join_none,Option.some.injEq,V.int.injEq,V.bl.injEq,V.ref.injEq,List.cons.injEq,and_true,true_and,exists_eq_left,exists_eq_left',exists_eq_right,exists_and_left,Nat.add_one_sub_one,Nat.reduceSub,Nat.sub_self,Nat.reduceAdd,Nat.zero_add,Int.toNat_natCast,List.length_map,V.ty.injEq,V.str.injEq,and_assoc,hU,j6,Bool.not_true,Bool.not_false,Bool.false_eq_true,if_true,if_false]
 obtain⟨l,wl,hl⟩:=hf.way hx
 refine⟨fun m σ H'=>H'=H/\∃y k l2,σ=[some (.ref a),some (nV x),some (nV y),some (nV k)]/\Way us y l2/\y<us.length/\l2.length=m/\k+l2.length=l.length/\cM l2=cM l,⟨l.length,rfl,x,0,l,rfl,wl,hx,rfl,by omega,rfl⟩,?_⟩
 rintro m σ H' ⟨rfl,y,k,l2,rfl,w2,hy,rfl,e1,e2⟩
 (try dsimp only[gW,dQ,dw,iB,dC,g9,oG,il,b8,bI,cL,eN,bS,m5,ot,ky,rI,rU,tC,tB,dy,oy,hJ,gB,dl,df,bf,gT,h8,kU,oK,dm,bm,cc,nt,h7,oZ,fS,cC,gD,fU,dc,gK,dB,iw,gM,gS,cZ,ic,ib,dk,ia,cD,dR,bV,fY,L2.bz,List.map_cons,List.map_nil,List.length_cons,List.length_nil,List.replicate,List.cons_append,List.nil_append,List.append_nil,List.getElem?_cons_zero,List.getElem?_cons_succ,List.set_cons_zero,List.set_cons_succ,List.getElem?_nil,Option.bind_some,Option.bind_none,Option.join_some,Option.join_none,Nat.add_one_sub_one,Nat.reduceSub,Nat.reduceAdd]);simp only[gW,dQ,dw,iB,dC,g9,oG,il,b8,bI,cL,eN,bS,m5,ot,ky,rI,rU,tC,tB,dy,oy,hJ,gB,dl,df,bf,gT,h8,kU,oK,dm,bm,cc,nt,h7,oZ,fS,cC,gD,fU,dc,gK,dB,iw,gM,gS,cZ,ic,ib,dk,ia,cD,dR,bV,fY,L2.bz,List.map_cons,List.map_nil,List.length_cons,List.length_nil,List.replicate,List.cons_append,List.nil_append,List.append_nil,List.getElem?_cons_zero,List.getElem?_cons_succ,List.set_cons_zero,List.set_cons_succ,List.getElem?_nil,Option.bind_some,Option.bind_none,Option.join_some,Option.join_none,Option.some.injEq,V.int.injEq,V.bl.injEq,V.ref.injEq,List.cons.injEq,and_true,true_and,exists_eq_left,exists_eq_left',exists_eq_right,exists_and_left,Nat.add_one_sub_one,Nat.reduceSub,Nat.sub_self,Nat.reduceAdd,Nat.zero_add,Int.toNat_natCast,List.length_map,V.ty.injEq,V.str.injEq,and_assoc,hU,j6,Bool.not_true,Bool.not_false,Bool.false_eq_true,if_true,if_false]
 refine⟨us.map nV,SqL.of ha,_,fQ hy,rfl,?_⟩
 rw[show decide (nV (us.getD y 0)=nV y)=decide (up us y=y) from Ep]
 cases w2 with
 |head e=>
  rw[decide_eq_true e]
  refine⟨by decide,fun p hp=>q _ us k p _ ⟨rfl,l,wl,?_,by simpa using e1⟩ (SB.refl.new hp _) (by rw[ay (bB ha hp)];exact ha) aq⟩
  exact e2
 | @step _ l3 n w3=>
  rw[decide_eq_false n]
  refine⟨fun σ' H''=>H''=H'/\σ'=[some (.ref a),some (nV x),some (nV (up us y)),some (.int (k+1))],fun σ' H'' e=>?_,us.map nV,SqL.of ha,_,fQ hy,rfl,rfl⟩
  obtain⟨rfl,rfl⟩:=e
  exact⟨l3.length,by simp,rfl,up us y,k+1,rfl,l3,w3,hf.bnd y hy,rfl,by rw[←e1];simp;omega,by rw[←e2,cA w3.ne]⟩
noncomputable abbrev cv:Stmt:=top 20
theorem sc_find_halves:FnScope ["ups","x","at","steps"] ["ups","x"] (ag cv):=⟨rfl,rfl,rfl,by decide +kernel,rfl,by decide +kernel,by decide +kernel⟩
theorem qh (T:Txt mg)(F:FunD K mg "find_halves" cv ["ups","x"]):Def P w K mg base 1 "find_halves" ["ups","x"] (fJ ur):=by
 refine F.ok sc_find_halves (fun vs H Q E h=>by obtain⟨m,v,x,rfl,_⟩:=h;rfl) (fun f cdv A outer s H vs Q E hr h=>?_)
 obtain⟨a,us,x,rfl,ha,h40,hf,hx,q⟩:=h
 refine⟨_,(aS (aI (i:=2) sc_find_halves.nd rfl (by first|exact Or.inl rfl|exact Or.inr rfl) (pv 1))
  (aS (aI (i:=3) sc_find_halves.nd rfl (by first|exact Or.inl rfl|exact Or.inr rfl) mh)
  (aS (ji PassesOwn.never (oi zK (jr (kQ (K:=K) rfl) (pv 0) (pv 2) (fun _ _=>rfl)) (pv 2) (aO _)) (aS (bF (jr (kQ (K:=K) rfl) (pv 0) (jr (kQ (K:=K) rfl) (pv 0) (pv 2) (fun _ _=>rfl)) (fun _ _=>rfl)) (ii (pv 0) (pv 2) du))
  (aS (aI (i:=2) sc_find_halves.nd rfl (by first|exact Or.inl rfl|exact Or.inr rfl) (jr (kQ (K:=K) rfl) (pv 0) (pv 2) (fun _ _=>rfl)))
  (eT (xX (i:=3) sc_find_halves.nd rfl (by first|exact Or.inl rfl|exact Or.inr rfl) mh yi)))))
  (eT (jd (nh (aG ae (pv 2) (aG ae (pv 3) cO)))))))),?_⟩
 (try dsimp only[gW,dQ,dw,iB,dC,g9,oG,il,b8,bI,cL,eN,bS,m5,ot,ky,rI,rU,tC,tB,dy,oy,hJ,gB,dl,df,bf,gT,h8,kU,oK,dm,bm,cc,nt,h7,oZ,fS,cC,gD,fU,dc,gK,dB,iw,gM,gS,cZ,ic,ib,dk,ia,cD,dR,bV,fY,L2.bz,List.map_cons,List.map_nil,List.length_cons,List.length_nil,List.replicate,List.cons_append,List.nil_append,List.append_nil,List.getElem?_cons_zero,List.getElem?_cons_succ,List.set_cons_zero,List.set_cons_succ,List.getElem?_nil,Option.bind_some,Option.bind_none,Option.join_some,Option.join_none,Nat.add_one_sub_one,Nat.reduceSub,Nat.reduceAdd]);simp only[gW,dQ,dw,iB,dC,g9,oG,il,b8,bI,cL,eN,bS,m5,ot,ky,rI,rU,tC,tB,dy,oy,hJ,gB,dl,df,bf,gT,h8,kU,oK,dm,bm,cc,nt,h7,oZ,fS,cC,gD,fU,dc,gK,dB,iw,gM,gS,cZ,ic,ib,dk,ia,cD,dR,bV,fY,L2.bz,List.map_cons,List.map_nil,List.length_cons,List.length_nil,List.replicate,List.cons_append,List.nil_append,List.append_nil,List.getElem?_cons_zero,List.getElem?_cons_succ,List.set_cons_zero,List.set_cons_succ,List.getElem?_nil,Option.bind_some,Option.bind_none,Option.join_some,Option.join_none,Option.some.injEq,V.int.injEq,V.bl.injEq,V.ref.injEq,List.cons.injEq,and_true,true_and,exists_eq_left,exists_eq_left',exists_eq_right,exists_and_left,Nat.add_one_sub_one,Nat.reduceSub,Nat.sub_self,Nat.reduceAdd,Nat.zero_add,Int.toNat_natCast,List.length_map,V.ty.injEq,V.str.injEq,and_assoc,hU,j6,Bool.not_true,Bool.not_false,Bool.false_eq_true,if_true,if_false]
 obtain⟨l,wl,hl⟩:=hf.way hx
 obtain⟨us',hv,g1,g2⟩:=u9 l wl (wl.nodup hf hx) (wl.lt hf.bnd hx)
 refine⟨fun m σ H'=>HInv a x us' (cM l) (l.length / 2) us.length H Halv m σ H',⟨l.length / 2,⟨us,x,0,rfl,ha,SB.refl,hx,rfl,hf.bnd,hv,by omega⟩⟩,?_⟩
 rintro m σ H' ⟨⟨vs,y,k,rfl,hv',sb,hy,hlen,hb,w2,e1⟩⟩
 (try dsimp only[gW,dQ,dw,iB,dC,g9,oG,il,b8,bI,cL,eN,bS,m5,ot,ky,rI,rU,tC,tB,dy,oy,hJ,gB,dl,df,bf,gT,h8,kU,oK,dm,bm,cc,nt,h7,oZ,fS,cC,gD,fU,dc,gK,dB,iw,gM,gS,cZ,ic,ib,dk,ia,cD,dR,bV,fY,L2.bz,List.map_cons,List.map_nil,List.length_cons,List.length_nil,List.replicate,List.cons_append,List.nil_append,List.append_nil,List.getElem?_cons_zero,List.getElem?_cons_succ,List.set_cons_zero,List.set_cons_succ,List.getElem?_nil,Option.bind_some,Option.bind_none,Option.join_some,Option.join_none,Nat.add_one_sub_one,Nat.reduceSub,Nat.reduceAdd]);simp only[gW,dQ,dw,iB,dC,g9,oG,il,b8,bI,cL,eN,bS,m5,ot,ky,rI,rU,tC,tB,dy,oy,hJ,gB,dl,df,bf,gT,h8,kU,oK,dm,bm,cc,nt,h7,oZ,fS,cC,gD,fU,dc,gK,dB,iw,gM,gS,cZ,ic,ib,dk,ia,cD,dR,bV,fY,L2.bz,List.map_cons,List.map_nil,List.length_cons,List.length_nil,List.replicate,List.cons_append,List.nil_append,List.append_nil,List.getElem?_cons_zero,List.getElem?_cons_succ,List.set_cons_zero,List.set_cons_succ,List.getElem?_nil,Option.bind_some,Option.bind_none,Option.join_some,Option.join_none,Option.some.injEq,V.int.injEq,V.bl.injEq,V.ref.injEq,List.cons.injEq,and_true,true_and,exists_eq_left,exists_eq_left',exists_eq_right,exists_and_left,Nat.add_one_sub_one,Nat.reduceSub,Nat.sub_self,Nat.reduceAdd,Nat.zero_add,Int.toNat_natCast,List.length_map,V.ty.injEq,V.str.injEq,and_assoc,hU,j6,Bool.not_true,Bool.not_false,Bool.false_eq_true,if_true,if_false]
 refine⟨vs.map nV,SqL.of hv',_,fQ (by omega),rfl,?_⟩
 rw[show decide (nV (vs.getD y 0)=nV y)=decide (up vs y=y) from Ep]
 cases w2 with
 |stop e=>
  rw[decide_eq_true e]
  refine⟨by decide,fun p hp=>q _ us' k p _ ⟨l,wl,rfl,by omega,g1,g2⟩ (sb.new hp _) (by rw[ay (bB hv' hp)];exact hv') aq⟩
 | @step _ _ _ m _ n w3=>
  rw[decide_eq_false n]
  refine⟨fun σ' H''=>H''=upd H' a (.lst ((vs.set y (up vs (up vs y))).map nV))/\σ'=[some (.ref a),some (nV x),some (nV (up vs (up vs y))),some (.int (k+1))],fun σ' H'' e=>?_,vs.map nV,SqL.of hv',_,fQ (by omega),vs.map nV,_,rfl,SqL.of hv',_,fQ (hb y (by omega)),vs.map nV,hv',y,ui (by rw[List.length_map];omega),_,SqL.of aq,nV (up vs (up vs y)),?_,?_⟩
  ·obtain⟨rfl,rfl⟩:=e
   exact⟨m,by omega,⟨⟨_,up vs (up vs y),k+1,rfl,aq,sb.upd _,by have:=hb y (by omega);have:=hb _ this;omega,by rw[List.length_set];exact hlen,zJ hb (by omega) (hb _ (hb _ (by omega))),w3,by omega⟩⟩⟩
  ·rw[mF,fQ (by rw[List.length_set];omega)]
   show some (nV (up (vs.set y _) y))=_
   rw[bu (by omega),if_pos rfl]
  ·rw[mF];exact⟨rfl,rfl⟩
noncomputable abbrev cp:Stmt:=top 21
theorem sc_find_splits:FnScope ["ups","x","at","steps","above"] ["ups","x"] (ag cp):=⟨rfl,rfl,rfl,by decide +kernel,rfl,by decide +kernel,by decide +kernel⟩
theorem rK (T:Txt mg)(F:FunD K mg "find_splits" cp ["ups","x"]):Def P w K mg base 1 "find_splits" ["ups","x"] (fJ vi):=by
 refine F.ok sc_find_splits (fun vs H Q E h=>by obtain⟨m,v,x,rfl,_⟩:=h;rfl) (fun f cdv A outer s H vs Q E hr h=>?_)
 obtain⟨a,us,x,rfl,ha,h40,hf,hx,q⟩:=h
 refine⟨_,(aS (aI (i:=2) sc_find_splits.nd rfl (by first|exact Or.inl rfl|exact Or.inr rfl) (pv 1))
  (aS (aI (i:=3) sc_find_splits.nd rfl (by first|exact Or.inl rfl|exact Or.inr rfl) mh)
  (aS (ji PassesOwn.never (oi zK (jr (kQ (K:=K) rfl) (pv 0) (pv 2) (fun _ _=>rfl)) (pv 2) (aO _)) (aS (aI (i:=4) sc_find_splits.nd rfl (by first|exact Or.inl rfl|exact Or.inr rfl) (jr (kQ (K:=K) rfl) (pv 0) (pv 2) (fun _ _=>rfl)))
  (aS (bF (jr (kQ (K:=K) rfl) (pv 0) (pv 4) (fun _ _=>rfl)) (ii (pv 0) (pv 2) du))
  (aS (aI (i:=2) sc_find_splits.nd rfl (by first|exact Or.inl rfl|exact Or.inr rfl) (pv 4))
  (eT (xX (i:=3) sc_find_splits.nd rfl (by first|exact Or.inl rfl|exact Or.inr rfl) mh yi))))))
  (eT (jd (nh (aG ae (pv 2) (aG ae (pv 3) cO)))))))),?_⟩
 (try dsimp only[gW,dQ,dw,iB,dC,g9,oG,il,b8,bI,cL,eN,bS,m5,ot,ky,rI,rU,tC,tB,dy,oy,hJ,gB,dl,df,bf,gT,h8,kU,oK,dm,bm,cc,nt,h7,oZ,fS,cC,gD,fU,dc,gK,dB,iw,gM,gS,cZ,ic,ib,dk,ia,cD,dR,bV,fY,L2.bz,List.map_cons,List.map_nil,List.length_cons,List.length_nil,List.replicate,List.cons_append,List.nil_append,List.append_nil,List.getElem?_cons_zero,List.getElem?_cons_succ,List.set_cons_zero,List.set_cons_succ,List.getElem?_nil,Option.bind_some,Option.bind_none,Option.join_some,Option.join_none,Nat.add_one_sub_one,Nat.reduceSub,Nat.reduceAdd]);simp only[gW,dQ,dw,iB,dC,g9,oG,il,b8,bI,cL,eN,bS,m5,ot,ky,rI,rU,tC,tB,dy,oy,hJ,gB,dl,df,bf,gT,h8,kU,oK,dm,bm,cc,nt,h7,oZ,fS,cC,gD,fU,dc,gK,dB,iw,gM,gS,cZ,ic,ib,dk,ia,cD,dR,bV,fY,L2.bz,List.map_cons,List.map_nil,List.length_cons,List.length_nil,List.replicate,List.cons_append,List.nil_append,List.append_nil,List.getElem?_cons_zero,List.getElem?_cons_succ,List.set_cons_zero,List.set_cons_succ,List.getElem?_nil,Option.bind_some,Option.bind_none,Option.join_some,Option.join_none,Option.some.injEq,V.int.injEq,V.bl.injEq,V.ref.injEq,List.cons.injEq,and_true,true_and,exists_eq_left,exists_eq_left',exists_eq_right,exists_and_left,Nat.add_one_sub_one,Nat.reduceSub,Nat.sub_self,Nat.reduceAdd,Nat.zero_add,Int.toNat_natCast,List.length_map,V.ty.injEq,V.str.injEq,and_assoc,hU,j6,Bool.not_true,Bool.not_false,Bool.false_eq_true,if_true,if_false]
 obtain⟨l,wl,hl⟩:=hf.way hx
 obtain⟨us',hv,g1,g2⟩:=zW wl (wl.nodup hf hx) (wl.lt hf.bnd hx)
 have lp:=wl.pos
 refine⟨fun m σ H'=>∃z,HInv a x us' (cM l) (l.length - 1) us.length H Splt m (σ.take 4) H'/\σ=σ.take 4++[z],⟨l.length - 1,none,⟨us,x,0,rfl,ha,SB.refl,hx,rfl,hf.bnd,hv,by omega⟩,rfl⟩,?_⟩
 rintro m σ H' ⟨z,⟨vs,y,k,eσ,hv',sb,hy,hlen,hb,w2,e1⟩,eσ'⟩
 rw[eσ] at eσ'
 subst eσ'
 (try dsimp only[gW,dQ,dw,iB,dC,g9,oG,il,b8,bI,cL,eN,bS,m5,ot,ky,rI,rU,tC,tB,dy,oy,hJ,gB,dl,df,bf,gT,h8,kU,oK,dm,bm,cc,nt,h7,oZ,fS,cC,gD,fU,dc,gK,dB,iw,gM,gS,cZ,ic,ib,dk,ia,cD,dR,bV,fY,L2.bz,List.map_cons,List.map_nil,List.length_cons,List.length_nil,List.replicate,List.cons_append,List.nil_append,List.append_nil,List.getElem?_cons_zero,List.getElem?_cons_succ,List.set_cons_zero,List.set_cons_succ,List.getElem?_nil,Option.bind_some,Option.bind_none,Option.join_some,Option.join_none,Nat.add_one_sub_one,Nat.reduceSub,Nat.reduceAdd]);simp only[gW,dQ,dw,iB,dC,g9,oG,il,b8,bI,cL,eN,bS,m5,ot,ky,rI,rU,tC,tB,dy,oy,hJ,gB,dl,df,bf,gT,h8,kU,oK,dm,bm,cc,nt,h7,oZ,fS,cC,gD,fU,dc,gK,dB,iw,gM,gS,cZ,ic,ib,dk,ia,cD,dR,bV,fY,L2.bz,List.map_cons,List.map_nil,List.length_cons,List.length_nil,List.replicate,List.cons_append,List.nil_append,List.append_nil,List.getElem?_cons_zero,List.getElem?_cons_succ,List.set_cons_zero,List.set_cons_succ,List.getElem?_nil,Option.bind_some,Option.bind_none,Option.join_some,Option.join_none,Option.some.injEq,V.int.injEq,V.bl.injEq,V.ref.injEq,List.cons.injEq,and_true,true_and,exists_eq_left,exists_eq_left',exists_eq_right,exists_and_left,Nat.add_one_sub_one,Nat.reduceSub,Nat.sub_self,Nat.reduceAdd,Nat.zero_add,Int.toNat_natCast,List.length_map,V.ty.injEq,V.str.injEq,and_assoc,hU,j6,Bool.not_true,Bool.not_false,Bool.false_eq_true,if_true,if_false]
 refine⟨vs.map nV,SqL.of hv',_,fQ (by omega),rfl,?_⟩
 rw[show decide (nV (vs.getD y 0)=nV y)=decide (up vs y=y) from Ep]
 cases w2 with
 |stop e=>
  rw[decide_eq_true e]
  refine⟨by decide,fun p hp=>q _ us' k p _ ⟨l,wl,rfl,by omega,g1,g2⟩ (sb.new hp _) (by rw[ay (bB hv' hp)];exact hv') aq⟩
 | @step _ _ _ m _ n w3=>
  rw[decide_eq_false n]
  refine⟨fun σ' H''=>H''=upd H' a (.lst ((vs.set y (up vs (up vs y))).map nV))/\σ'=[some (.ref a),some (nV x),some (nV (up vs y)),some (.int (k+1)),some (nV (up vs y))],fun σ' H'' e=>?_,vs.map nV,SqL.of hv',_,fQ (by omega),vs.map nV,_,rfl,SqL.of hv',_,fQ (hb y (by omega)),vs.map nV,hv',y,ui (by rw[List.length_map];omega),?_⟩
  ·obtain⟨rfl,rfl⟩:=e
   exact⟨m,by omega,⟨⟨_,up vs y,k+1,rfl,aq,sb.upd _,by have:=hb y (by omega);omega,by rw[List.length_set];exact hlen,zJ hb (by omega) (hb _ (hb _ (by omega))),w3,by omega⟩⟩,_,rfl⟩
  ·rw[mF];exact⟨rfl,rfl⟩
noncomputable abbrev eX:Stmt:=top 22
theorem sc_find_one:FnScope ["ups","x","head","steps"] ["ups","x"] (ag eX):=⟨rfl,rfl,rfl,by decide +kernel,rfl,by decide +kernel,by decide +kernel⟩
theorem wA (T:Txt mg)(F:FunD K mg "find_one" eX ["ups","x"])(d_find_none:Def P w K mg base 1 "find_none" ["ups","x"] (fJ wo)):Def P w K mg base 2 "find_one" ["ups","x"] (fJ LS):=by
 refine F.ok sc_find_one (fun vs H Q E h=>by obtain⟨m,v,x,rfl,_⟩:=h;rfl) (fun f cdv A outer s H vs Q E hr h=>?_)
 obtain⟨a,us,x,rfl,ha,h40,hf,hx,q⟩:=h
 refine⟨_,(aS (bF (lh d_find_none hr (aG ae (pv 0) (aG ae (pv 1) cO)) (he:=ae _ _)) (cN (K:=K) (n:=2) rfl rfl (av (ar (i:=2) sc_find_one.nd rfl (by first|exact Or.inl rfl|exact Or.inr rfl)) (av (ar (i:=3) sc_find_one.nd rfl (by first|exact Or.inl rfl|exact Or.inr rfl)) bT))))
  (aS (bF (jr (kQ (K:=K) rfl) (pv 0) (jr (kQ (K:=K) rfl) (pv 0) (pv 1) (fun _ _=>rfl)) (fun _ _=>rfl)) (ii (pv 0) (pv 1) du))
  (eT (jd (nh (aG ae (pv 2) (aG ae (pv 3) cO))))))),?_⟩
 (try dsimp only[gW,dQ,dw,iB,dC,g9,oG,il,b8,bI,cL,eN,bS,m5,ot,ky,rI,rU,tC,tB,dy,oy,hJ,gB,dl,df,bf,gT,h8,kU,oK,dm,bm,cc,nt,h7,oZ,fS,cC,gD,fU,dc,gK,dB,iw,gM,gS,cZ,ic,ib,dk,ia,cD,dR,bV,fY,L2.bz,List.map_cons,List.map_nil,List.length_cons,List.length_nil,List.replicate,List.cons_append,List.nil_append,List.append_nil,List.getElem?_cons_zero,List.getElem?_cons_succ,List.set_cons_zero,List.set_cons_succ,List.getElem?_nil,Option.bind_some,Option.bind_none,Option.join_some,Option.join_none,Nat.add_one_sub_one,Nat.reduceSub,Nat.reduceAdd]);simp only[gW,dQ,dw,iB,dC,g9,oG,il,b8,bI,cL,eN,bS,m5,ot,ky,rI,rU,tC,tB,dy,oy,hJ,gB,dl,df,bf,gT,h8,kU,oK,dm,bm,cc,nt,h7,oZ,fS,cC,gD,fU,dc,gK,dB,iw,gM,gS,cZ,ic,ib,dk,ia,cD,dR,bV,fY,L2.bz,List.map_cons,List.map_nil,List.length_cons,List.length_nil,List.replicate,List.cons_append,List.nil_append,List.append_nil,List.getElem?_cons_zero,List.getElem?_cons_succ,List.set_cons_zero,List.set_cons_succ,List.getElem?_nil,Option.bind_some,Option.bind_none,Option.join_some,Option.join_none,Option.some.injEq,V.int.injEq,V.bl.injEq,V.ref.injEq,List.cons.injEq,and_true,true_and,exists_eq_left,exists_eq_left',exists_eq_right,exists_and_left,Nat.add_one_sub_one,Nat.reduceSub,Nat.sub_self,Nat.reduceAdd,Nat.zero_add,Int.toNat_natCast,List.length_map,V.ty.injEq,V.str.injEq,and_assoc,hU,j6,Bool.not_true,Bool.not_false,Bool.false_eq_true,if_true,if_false]
 refine⟨a,us,x,rfl,ha,h40,hf,hx,?_⟩
 rintro h us2 n p H' ⟨e,l,wl,rfl,hn⟩ sb h1 h2
 rw[e] at h1
 clear e
 (try dsimp only[gW,dQ,dw,iB,dC,g9,oG,il,b8,bI,cL,eN,bS,m5,ot,ky,rI,rU,tC,tB,dy,oy,hJ,gB,dl,df,bf,gT,h8,kU,oK,dm,bm,cc,nt,h7,oZ,fS,cC,gD,fU,dc,gK,dB,iw,gM,gS,cZ,ic,ib,dk,ia,cD,dR,bV,fY,L2.bz,List.map_cons,List.map_nil,List.length_cons,List.length_nil,List.replicate,List.cons_append,List.nil_append,List.append_nil,List.getElem?_cons_zero,List.getElem?_cons_succ,List.set_cons_zero,List.set_cons_succ,List.getElem?_nil,Option.bind_some,Option.bind_none,Option.join_some,Option.join_none,Nat.add_one_sub_one,Nat.reduceSub,Nat.reduceAdd]);simp only[gW,dQ,dw,iB,dC,g9,oG,il,b8,bI,cL,eN,bS,m5,ot,ky,rI,rU,tC,tB,dy,oy,hJ,gB,dl,df,bf,gT,h8,kU,oK,dm,bm,cc,nt,h7,oZ,fS,cC,gD,fU,dc,gK,dB,iw,gM,gS,cZ,ic,ib,dk,ia,cD,dR,bV,fY,L2.bz,List.map_cons,List.map_nil,List.length_cons,List.length_nil,List.replicate,List.cons_append,List.nil_append,List.append_nil,List.getElem?_cons_zero,List.getElem?_cons_succ,List.set_cons_zero,List.set_cons_succ,List.getElem?_nil,Option.bind_some,Option.bind_none,Option.join_some,Option.join_none,Option.some.injEq,V.int.injEq,V.bl.injEq,V.ref.injEq,List.cons.injEq,and_true,true_and,exists_eq_left,exists_eq_left',exists_eq_right,exists_and_left,Nat.add_one_sub_one,Nat.reduceSub,Nat.sub_self,Nat.reduceAdd,Nat.zero_add,Int.toNat_natCast,List.length_map,V.ty.injEq,V.str.injEq,and_assoc,hU,j6,Bool.not_true,Bool.not_false,Bool.false_eq_true,if_true,if_false]
 refine⟨[nV (cM l),nV n],SqT.of h2,rfl,_,_,rfl,_,_,rfl,rfl,us.map nV,SqL.of h1,_,fQ hx,us.map nV,_,rfl,SqL.of h1,_,fQ (hf.bnd x hx),us.map nV,h1,x,ui (by rw[List.length_map];omega),by decide,fun p2 hp2=>?_⟩
 rw[mF] at hp2 ⊢
 exact q _ _ n p2 _ ⟨rfl,l,wl,rfl,hn⟩ ((sb.upd _).new hp2 _) (by rw[ay (bB aq hp2),aq]) aq
noncomputable abbrev cW:Stmt:=top 19
theorem sc_find_whole:FnScope ["ups","x","head","steps","at","above"] ["ups","x"] (ag cW):=⟨rfl,rfl,rfl,by decide +kernel,rfl,by decide +kernel,by decide +kernel⟩
theorem sA (T:Txt mg)(F:FunD K mg "find_whole" cW ["ups","x"])(d_find_none:Def P w K mg base 1 "find_none" ["ups","x"] (fJ wo)):Def P w K mg base 2 "find_whole" ["ups","x"] (fJ xT):=by
 refine F.ok sc_find_whole (fun vs H Q E h=>by obtain⟨m,v,x,rfl,_⟩:=h;rfl) (fun f cdv A outer s H vs Q E hr h=>?_)
 obtain⟨a,us,x,rfl,ha,h40,hf,hx,q⟩:=h
 refine⟨_,(aS (bF (lh d_find_none hr (aG ae (pv 0) (aG ae (pv 1) cO)) (he:=ae _ _)) (cN (K:=K) (n:=2) rfl rfl (av (ar (i:=2) sc_find_whole.nd rfl (by first|exact Or.inl rfl|exact Or.inr rfl)) (av (ar (i:=3) sc_find_whole.nd rfl (by first|exact Or.inl rfl|exact Or.inr rfl)) bT))))
  (aS (aI (i:=4) sc_find_whole.nd rfl (by first|exact Or.inl rfl|exact Or.inr rfl) (pv 1))
  (aS (ji PassesOwn.never (oi zK (pv 4) (pv 2) (aO _)) (aS (aI (i:=5) sc_find_whole.nd rfl (by first|exact Or.inl rfl|exact Or.inr rfl) (jr (kQ (K:=K) rfl) (pv 0) (pv 4) (fun _ _=>rfl)))
  (aS (bF (pv 2) (ii (pv 0) (pv 4) du))
  (eT (aI (i:=4) sc_find_whole.nd rfl (by first|exact Or.inl rfl|exact Or.inr rfl) (pv 5))))))
  (eT (jd (nh (aG ae (pv 2) (aG ae (pv 3) cO)))))))),?_⟩
 (try dsimp only[gW,dQ,dw,iB,dC,g9,oG,il,b8,bI,cL,eN,bS,m5,ot,ky,rI,rU,tC,tB,dy,oy,hJ,gB,dl,df,bf,gT,h8,kU,oK,dm,bm,cc,nt,h7,oZ,fS,cC,gD,fU,dc,gK,dB,iw,gM,gS,cZ,ic,ib,dk,ia,cD,dR,bV,fY,L2.bz,List.map_cons,List.map_nil,List.length_cons,List.length_nil,List.replicate,List.cons_append,List.nil_append,List.append_nil,List.getElem?_cons_zero,List.getElem?_cons_succ,List.set_cons_zero,List.set_cons_succ,List.getElem?_nil,Option.bind_some,Option.bind_none,Option.join_some,Option.join_none,Nat.add_one_sub_one,Nat.reduceSub,Nat.reduceAdd]);simp only[gW,dQ,dw,iB,dC,g9,oG,il,b8,bI,cL,eN,bS,m5,ot,ky,rI,rU,tC,tB,dy,oy,hJ,gB,dl,df,bf,gT,h8,kU,oK,dm,bm,cc,nt,h7,oZ,fS,cC,gD,fU,dc,gK,dB,iw,gM,gS,cZ,ic,ib,dk,ia,cD,dR,bV,fY,L2.bz,List.map_cons,List.map_nil,List.length_cons,List.length_nil,List.replicate,List.cons_append,List.nil_append,List.append_nil,List.getElem?_cons_zero,List.getElem?_cons_succ,List.set_cons_zero,List.set_cons_succ,List.getElem?_nil,Option.bind_some,Option.bind_none,Option.join_some,Option.join_none,Option.some.injEq,V.int.injEq,V.bl.injEq,V.ref.injEq,List.cons.injEq,and_true,true_and,exists_eq_left,exists_eq_left',exists_eq_right,exists_and_left,Nat.add_one_sub_one,Nat.reduceSub,Nat.sub_self,Nat.reduceAdd,Nat.zero_add,Int.toNat_natCast,List.length_map,V.ty.injEq,V.str.injEq,and_assoc,hU,j6,Bool.not_true,Bool.not_false,Bool.false_eq_true,if_true,if_false]
 refine⟨a,us,x,rfl,ha,h40,hf,hx,?_⟩
 rintro h us2 n p H' ⟨e,l,wl,rfl,hn⟩ sb h1 h2
 rw[e] at h1
 clear e
 (try dsimp only[gW,dQ,dw,iB,dC,g9,oG,il,b8,bI,cL,eN,bS,m5,ot,ky,rI,rU,tC,tB,dy,oy,hJ,gB,dl,df,bf,gT,h8,kU,oK,dm,bm,cc,nt,h7,oZ,fS,cC,gD,fU,dc,gK,dB,iw,gM,gS,cZ,ic,ib,dk,ia,cD,dR,bV,fY,L2.bz,List.map_cons,List.map_nil,List.length_cons,List.length_nil,List.replicate,List.cons_append,List.nil_append,List.append_nil,List.getElem?_cons_zero,List.getElem?_cons_succ,List.set_cons_zero,List.set_cons_succ,List.getElem?_nil,Option.bind_some,Option.bind_none,Option.join_some,Option.join_none,Nat.add_one_sub_one,Nat.reduceSub,Nat.reduceAdd]);simp only[gW,dQ,dw,iB,dC,g9,oG,il,b8,bI,cL,eN,bS,m5,ot,ky,rI,rU,tC,tB,dy,oy,hJ,gB,dl,df,bf,gT,h8,kU,oK,dm,bm,cc,nt,h7,oZ,fS,cC,gD,fU,dc,gK,dB,iw,gM,gS,cZ,ic,ib,dk,ia,cD,dR,bV,fY,L2.bz,List.map_cons,List.map_nil,List.length_cons,List.length_nil,List.replicate,List.cons_append,List.nil_append,List.append_nil,List.getElem?_cons_zero,List.getElem?_cons_succ,List.set_cons_zero,List.set_cons_succ,List.getElem?_nil,Option.bind_some,Option.bind_none,Option.join_some,Option.join_none,Option.some.injEq,V.int.injEq,V.bl.injEq,V.ref.injEq,List.cons.injEq,and_true,true_and,exists_eq_left,exists_eq_left',exists_eq_right,exists_and_left,Nat.add_one_sub_one,Nat.reduceSub,Nat.sub_self,Nat.reduceAdd,Nat.zero_add,Int.toNat_natCast,List.length_map,V.ty.injEq,V.str.injEq,and_assoc,hU,j6,Bool.not_true,Bool.not_false,Bool.false_eq_true,if_true,if_false]
 refine⟨[nV (cM l),nV n],SqT.of h2,rfl,_,_,rfl,_,_,rfl,rfl,?_⟩
 have nd:=wl.nodup hf hx
 have inl:=wl.lt hf.bnd hx
 refine⟨fun m σ H''=>WInv a x us l n H m σ H'',⟨l.length,⟨us,x,[],l,none,rfl,h1,sb,rfl,fun t=>by simp,rfl,wl,rfl⟩⟩,?_⟩
 rintro m σ H'' ⟨⟨vs,y,pre,l2,z,rfl,hv',sb',hlen,hup,el,w2,rfl⟩⟩
 have hy:y<us.length:=inl y (by rw[el];exact List.mem_append_right _ w2.mem_self)
 have np:y∉pre:=fun hm=>by
  rw[el] at nd
  exact (List.nodup_append.mp nd).2.2 y hm y w2.mem_self rfl
 have uy:up vs y=up us y:=by rw[hup,if_neg np]
 (try dsimp only[gW,dQ,dw,iB,dC,g9,oG,il,b8,bI,cL,eN,bS,m5,ot,ky,rI,rU,tC,tB,dy,oy,hJ,gB,dl,df,bf,gT,h8,kU,oK,dm,bm,cc,nt,h7,oZ,fS,cC,gD,fU,dc,gK,dB,iw,gM,gS,cZ,ic,ib,dk,ia,cD,dR,bV,fY,L2.bz,List.map_cons,List.map_nil,List.length_cons,List.length_nil,List.replicate,List.cons_append,List.nil_append,List.append_nil,List.getElem?_cons_zero,List.getElem?_cons_succ,List.set_cons_zero,List.set_cons_succ,List.getElem?_nil,Option.bind_some,Option.bind_none,Option.join_some,Option.join_none,Nat.add_one_sub_one,Nat.reduceSub,Nat.reduceAdd]);simp only[gW,dQ,dw,iB,dC,g9,oG,il,b8,bI,cL,eN,bS,m5,ot,ky,rI,rU,tC,tB,dy,oy,hJ,gB,dl,df,bf,gT,h8,kU,oK,dm,bm,cc,nt,h7,oZ,fS,cC,gD,fU,dc,gK,dB,iw,gM,gS,cZ,ic,ib,dk,ia,cD,dR,bV,fY,L2.bz,List.map_cons,List.map_nil,List.length_cons,List.length_nil,List.replicate,List.cons_append,List.nil_append,List.append_nil,List.getElem?_cons_zero,List.getElem?_cons_succ,List.set_cons_zero,List.set_cons_succ,List.getElem?_nil,Option.bind_some,Option.bind_none,Option.join_some,Option.join_none,Option.some.injEq,V.int.injEq,V.bl.injEq,V.ref.injEq,List.cons.injEq,and_true,true_and,exists_eq_left,exists_eq_left',exists_eq_right,exists_and_left,Nat.add_one_sub_one,Nat.reduceSub,Nat.sub_self,Nat.reduceAdd,Nat.zero_add,Int.toNat_natCast,List.length_map,V.ty.injEq,V.str.injEq,and_assoc,hU,j6,Bool.not_true,Bool.not_false,Bool.false_eq_true,if_true,if_false]
 refine⟨rfl,?_⟩
 rw[show decide ((y:Int)=(cM l:Int))=decide (y=cM l) by rw[Bool.eq_iff_iff,decide_eq_true_iff,decide_eq_true_iff];omega]
 cases w2 with
 |head e=>
  have ey:y=cM l:=by rw[el];simp[cM]
  rw[decide_eq_true ey]
  refine⟨by decide,fun p hp=>q _ vs n p _ ⟨l,wl,rfl,hn,hlen,fun t=>?_⟩ (sb'.new hp _) (by rw[ay (bB hv' hp)];exact hv') aq⟩
  rw[hup]
  by_cases h3:t∈pre
  ·rw[if_pos h3,if_pos (by rw[el];exact List.mem_append_left _ h3)]
  ·rw[if_neg h3]
   by_cases h4:t=y
   ·rw[h4,if_pos (by rw[el];simp),e];exact ey
   ·rw[if_neg (by rw[el];simp[h3,h4])]
 | @step _ l3 n2 w3=>
  have el3:cM l=cM l3:=by rw[el];exact C6 w3.ne
  have ny:y∉l3:=fun hm=>by
   rw[el] at nd
   exact (List.nodup_cons.mp (List.nodup_append.mp nd).2.1).1 hm
  have hne:¬y=cM l:=fun e=>ny (by rw[e,el3];exact ql w3.ne)
  rw[decide_eq_false hne]
  refine⟨fun σ' H3=>H3=upd H'' a (.lst ((vs.set y (cM l)).map nV))/\σ'=[some (.ref a),some (nV x),some (nV (cM l)),some (nV n),some (nV (up us y)),some (nV (up us y))],fun σ' H3 e=>?_,vs.map nV,SqL.of hv',_,fQ (by omega),vs.map nV,hv',y,ui (by rw[List.length_map];omega),?_⟩
  ·obtain⟨rfl,rfl⟩:=e
   refine⟨l3.length,by simp,⟨⟨_,up us y,pre++[y],l3,_,rfl,aq,sb'.upd _,by rw[List.length_set];exact hlen,fun t=>?_,by rw[el];simp,w3,rfl⟩⟩⟩
   rw[bu (by omega),hup]
   by_cases h4:t=y
   ·simp[h4]
   ·simp[h4]
  ·rw[mF]
   show _/\[_,_,_,_,some (nV (up vs y)),some (nV (up vs y))]=_
   rw[uy]
   exact⟨rfl,rfl⟩
end
end O31
end
section
namespace O31
open PySem L2 Fo
structure Tabs (w:World)(K:PySem.W.Frag)(mg:Str->Option Value)(aM:Addr)(kvs:List (Str×Addr)):Prop where
 m:mg "MANNERS" = some (.ref aM)
 tab:Tab w K aM kvs
structure Tr (H:Hp)(a:Addr)(us:List Nat):Prop where
 it:H a=some (.tup (us.map nV))
 one:1≤us.length
 most:us.length≤40
 fst:Fst us
section
variable {P:Program}{w:World}{K:PySem.W.Frag}{mg:Str->Option Value}{base:Heap}{aM:Addr}{kvs:List (Str×Addr)}
noncomputable abbrev fe:Stmt:=top 24
theorem pe:FnScope ["thing"] ["thing"] (ag fe):=⟨rfl,rfl,rfl,by decide +kernel,rfl,by decide +kernel,by decide +kernel⟩
theorem wk (T:Txt mg)(TM:Tabs w K mg aM kvs)(F:FunD K mg "is_short" fe ["thing"]):Def P w K mg base 1 "is_short" ["thing"] (fun vs H Q _=>∃x:Str,vs=[.str x]/\Q (.bl (eK kvs x).isSome) H):=by
 refine F.ok pe (fun vs H Q E h=>by obtain⟨m,rfl,_⟩:=h;rfl) (fun f cdv A outer s H vs Q E hr h=>?_)
 obtain⟨x,rfl,q⟩:=h
 refine⟨_,(eT (jd (C8 (aW (Du (K:=K) rfl) rfl T.n_isinstance bY (aG ae (pv 0) (aG ae (nK T.n_str Eg) cO)) (he:=ae _ _)) (El (Lc (LI TM.tab (pv 0) (nJ (v:=.ref aM) rfl TM.m rfl)) (by with_unfolding_all rfl)))))),?_⟩
 (try dsimp only[gW,dQ,dw,iB,dC,g9,oG,il,b8,bI,cL,eN,bS,m5,ot,ky,rI,rU,tC,tB,dy,oy,hJ,gB,dl,df,bf,gT,h8,kU,oK,dm,bm,cc,nt,h7,oZ,fS,cC,gD,fU,dc,gK,dB,iw,gM,gS,cZ,ic,ib,dk,ia,cD,dR,bV,fY,L2.bz,List.map_cons,List.map_nil,List.length_cons,List.length_nil,List.replicate,List.cons_append,List.nil_append,List.append_nil,List.getElem?_cons_zero,List.getElem?_cons_succ,List.set_cons_zero,List.set_cons_succ,List.getElem?_nil,Option.bind_some,Option.bind_none,Option.join_some,Option.join_none,Nat.add_one_sub_one,Nat.reduceSub,Nat.reduceAdd]);simp only[gW,dQ,dw,iB,dC,g9,oG,il,b8,bI,cL,eN,bS,m5,ot,ky,rI,rU,tC,tB,dy,oy,hJ,gB,dl,df,bf,gT,h8,kU,oK,dm,bm,cc,nt,h7,oZ,fS,cC,gD,fU,dc,gK,dB,iw,gM,gS,cZ,ic,ib,dk,ia,cD,dR,bV,fY,L2.bz,List.map_cons,List.map_nil,List.length_cons,List.length_nil,List.replicate,List.cons_append,List.nil_append,List.append_nil,List.getElem?_cons_zero,List.getElem?_cons_succ,List.set_cons_zero,List.set_cons_succ,List.getElem?_nil,Option.bind_some,Option.bind_none,Option.join_some,Option.join_none,Option.some.injEq,V.int.injEq,V.bl.injEq,V.ref.injEq,List.cons.injEq,and_true,true_and,exists_eq_left,exists_eq_left',exists_eq_right,exists_and_left,Nat.add_one_sub_one,Nat.reduceSub,Nat.sub_self,Nat.reduceAdd,Nat.zero_add,Int.toNat_natCast,List.length_map,V.ty.injEq,V.str.injEq,and_assoc,hU,j6,Bool.not_true,Bool.not_false,Bool.false_eq_true,if_true,if_false]
 refine⟨_,.str x,true,rfl,?_⟩
 rw[if_pos rfl]
 exact⟨_,rfl,x,rfl,rfl,q⟩
noncomputable abbrev gu:Stmt:=top 26
theorem sc_find_in:FnScope ["ups","short","x","behind","manner","head","steps"] ["ups","short","x"] (ag gu):=⟨rfl,rfl,rfl,by decide +kernel,rfl,by decide +kernel,by decide +kernel⟩
noncomputable def zl (kvs:List (Str×Addr)):Sp:=fun vs H Q _=>∃a us y x,vs=[.ref a,.str y,nV x]/\Tr H a us/\(eK kvs y).isSome=true/\x<us.length/\∀h us' n p b H',RM y us x h us' n->Same H H'->H' p=some (.tup [nV h,.ref b,nV n])->H' b=some (.tup (us'.map nV))->Q (.ref p) H'
theorem yA (T:Txt mg)(TM:Tabs w K mg aM kvs)(F:FunD K mg "find_in" gu ["ups","short","x"])(dL:∀f sp,(∃y,eK kvs y=some f/\sp=fJ (RM y))->DefA P w K mg base 2 f ["ups","x"] sp):Def P w K mg base 3 "find_in" ["ups","short","x"] (zl kvs):=by
 refine F.ok sc_find_in (fun vs H Q E h=>by obtain⟨m,v,x,y,rfl,_⟩:=h;rfl) (fun f cdv A outer s H vs Q E hr h=>?_)
 obtain⟨a,us,y,x,rfl,t,hy,hx,q⟩:=h
 refine⟨_,(aS (aI (i:=3) sc_find_in.nd rfl (by first|exact Or.inl rfl|exact Or.inr rfl) (aU (Bw (K:=K) rfl) rfl T.n_list pN (aG ae (pv 0) cO) (he:=ae _ _)))
  (aS (aI (i:=4) sc_find_in.nd rfl (by first|exact Or.inl rfl|exact Or.inr rfl) (Jn TM.tab (nJ (v:=.ref aM) rfl TM.m rfl) (pv 1) (fun _ _=>rfl)))
  (aS (bF (wE dL hr (i:=4) rfl (by first|exact Or.inl rfl|exact Or.inr (Or.inl rfl)) (aG ae (pv 3) (aG ae (pv 2) cO)) (he:=ae _ _)) (cN (K:=K) (n:=2) rfl rfl (av (ar (i:=5) sc_find_in.nd rfl (by first|exact Or.inl rfl|exact Or.inr rfl)) (av (ar (i:=6) sc_find_in.nd rfl (by first|exact Or.inl rfl|exact Or.inr rfl)) bT))))
  (eT (jd (nh (aG ae (pv 5) (aG aL (aU (ya (K:=K) rfl) rfl T.n_tuple ci (aG ae (pv 3) cO) (he:=ae _ _)) (aG ae (pv 6) cO))))))))),?_⟩
 (try dsimp only[gW,dQ,dw,iB,dC,g9,oG,il,b8,bI,cL,eN,bS,m5,ot,ky,rI,rU,tC,tB,dy,oy,hJ,gB,dl,df,bf,gT,h8,kU,oK,dm,bm,cc,nt,h7,oZ,fS,cC,gD,fU,dc,gK,dB,iw,gM,gS,cZ,ic,ib,dk,ia,cD,dR,bV,fY,L2.bz,List.map_cons,List.map_nil,List.length_cons,List.length_nil,List.replicate,List.cons_append,List.nil_append,List.append_nil,List.getElem?_cons_zero,List.getElem?_cons_succ,List.set_cons_zero,List.set_cons_succ,List.getElem?_nil,Option.bind_some,Option.bind_none,Option.join_some,Option.join_none,Nat.add_one_sub_one,Nat.reduceSub,Nat.reduceAdd]);simp only[gW,dQ,dw,iB,dC,g9,oG,il,b8,bI,cL,eN,bS,m5,ot,ky,rI,rU,tC,tB,dy,oy,hJ,gB,dl,df,bf,gT,h8,kU,oK,dm,bm,cc,nt,h7,oZ,fS,cC,gD,fU,dc,gK,dB,iw,gM,gS,cZ,ic,ib,dk,ia,cD,dR,bV,fY,L2.bz,List.map_cons,List.map_nil,List.length_cons,List.length_nil,List.replicate,List.cons_append,List.nil_append,List.append_nil,List.getElem?_cons_zero,List.getElem?_cons_succ,List.set_cons_zero,List.set_cons_succ,List.getElem?_nil,Option.bind_some,Option.bind_none,Option.join_some,Option.join_none,Option.some.injEq,V.int.injEq,V.bl.injEq,V.ref.injEq,List.cons.injEq,and_true,true_and,exists_eq_left,exists_eq_left',exists_eq_right,exists_and_left,Nat.add_one_sub_one,Nat.reduceSub,Nat.sub_self,Nat.reduceAdd,Nat.zero_add,Int.toNat_natCast,List.length_map,V.ty.injEq,V.str.injEq,and_assoc,hU,j6,Bool.not_true,Bool.not_false,Bool.false_eq_true,if_true,if_false]
 refine⟨us.map nV,.inr (SqT.of t.it),fun l hl=>?_⟩
 obtain⟨f0,hf0⟩:=Option.isSome_iff_exists.mp hy
 refine⟨_,rfl,y,f0,rfl,rfl,hf0,?_⟩
 refine⟨f0,_,rfl,⟨y,hf0,rfl⟩,_,rfl,_,rfl,?_⟩
 refine⟨l,us,x,rfl,aq,t.most,t.fst,hx,fun h us' n p H1 r sb h1 h2=>?_⟩
 refine⟨p,rfl,[nV h,nV n],SqT.of h2,rfl,_,_,rfl,_,_,rfl,rfl,us'.map nV,.inl ⟨SqL.of h1,fun b hb=>⟨by decide,fun p2 hp2=>?_⟩⟩⟩
 have s1:Same H H1:=fun c o hc=>sb c o (bB hc hl) (by rw[ay (bB hc hl)];exact hc)
 exact q h us' n p2 b _ r ((s1.upd hb _).upd hp2 _) aq (by rw[ay (bB aq hp2)];exact aq)
end
end O31
end
section
namespace O31
open PySem L2 Fo Pu
section
variable {P:Program}{w:World}{K:PySem.W.Frag}{mg:Str->Option Value}{base:Heap}
theorem FnOk.up {CX:zf}{j k:Nat}{f:Addr}{fd:FuncData}{ps:List Str}{sp:Sp}(F:FnOk P w K mg base CX j f fd ps sp)(h:j≤k):FnOk P w K mg base CX k f fd ps sp:=
 ⟨F.len,fun A outer s H args us vs Q E hr=>F.run A outer s H args us vs Q E (hr.mono h)⟩
theorem DefA.up {j k:Nat}{f:Addr}{ps:List Str}{sp:Sp}(d:DefA P w K mg base j f ps sp)(h:j≤k):DefA P w K mg base k f ps sp:=by
 obtain⟨fd,F,r⟩:=d
 exact⟨fd,FnOk.up F h,r⟩
theorem lg {R R':List Nat->Nat->Nat->List Nat->Nat->Prop}(i:∀us x h us' n,R us x h us' n->R' us x h us' n)(vs:List V)(H:Hp)(Q:VK)(E:XK)(h:fJ R' vs H Q E):fJ R vs H Q E:=by
 obtain⟨a,us,x,rfl,h1,h2,h3,h4,q⟩:=h
 exact⟨a,us,x,rfl,h1,h2,h3,h4,fun h us' n p H' r=>q h us' n p H' (i _ _ _ _ _ r)⟩
theorem wf (k:Str)(v:Addr)(t:List (Str×Addr))(y:Str):eK ((k,v)::t) y=if k=y then some v else eK t y:=by
 by_cases h:k=y
 ·simp[eK,h]
 ·simp only[eK,List.find?_cons,decide_eq_false h,if_neg h]
theorem wc {f0 f1 f2 f3 f4:Addr}(d0:DefA P w K mg base 1 f0 ["ups","x"] (fJ wo))(d1:DefA P w K mg base 2 f1 ["ups","x"] (fJ xT))(d2:DefA P w K mg base 1 f2 ["ups","x"] (fJ ur))(d3:DefA P w K mg base 1 f3 ["ups","x"] (fJ vi))(d4:DefA P w K mg base 2 f4 ["ups","x"] (fJ LS)) :
  ∀f sp,(∃y,eK [("none",f0),("whole",f1),("halves",f2),("splits",f3),("one",f4)] y=some f/\sp=fJ (RM y))->DefA P w K mg base 2 f ["ups","x"] sp:=by
 rintro f sp ⟨y,hy,rfl⟩
 simp only[wf] at hy
 split at hy
 ·rename_i e;subst e;cases hy;exact DefA.up (d0.imp (lg fun _ _ _ _ _=>RM.none)) (by decide)
 split at hy
 ·rename_i e;subst e;cases hy;exact d1.imp (lg fun _ _ _ _ _=>RM.whole)
 split at hy
 ·rename_i e;subst e;cases hy;exact DefA.up (d2.imp (lg fun _ _ _ _ _=>RM.halves)) (by decide)
 split at hy
 ·rename_i e;subst e;cases hy;exact DefA.up (d3.imp (lg fun _ _ _ _ _=>RM.splits)) (by decide)
 split at hy
 ·rename_i e;subst e;cases hy;exact d4.imp (lg fun _ _ _ _ _=>RM.one)
 ·cases hy
end
theorem pc (f0 f1 f2 f3 f4:Addr)(y:Str):(eK [("none",f0),("whole",f1),("halves",f2),("splits",f3),("one",f4)] y).isSome=decide (y∈bt):=by
 rw[Bool.eq_iff_iff,decide_eq_true_iff]
 unfold eK bt
 rw[Option.isSome_map,List.find?_isSome]
 simp[eq_comm]
theorem xL {P:Program}{w:World}{K:PySem.W.Frag}{mg:Str->Option Value}{base:Heap}{kvs:List (Str×Addr)}(hk:∀y,(eK kvs y).isSome=decide (y∈bt))(d:Def P w K mg base 1 "is_short" ["thing"] (fun vs H Q _=>∃x:Str,vs=[.str x]/\Q (.bl (eK kvs x).isSome) H)):Def P w K mg base 1 "is_short" ["thing"] (bE K qp):=Pu.Def.imp d fun vs H Q E ⟨F,ps,Qp,sF,rs,hW,k⟩=>by
 obtain⟨y,rfl,hq⟩:=hW
 obtain⟨v1,t1,rfl,r1,e⟩:=rs
 cases (show t1=[] from e)
 cases (show v1=.str y from r1)
 exact⟨y,rfl,by rw[hk];exact k (.v (.bl _)) _ F H hq (.refl sF) rfl⟩
theorem x8 {P:Program}{w:World}{K:PySem.W.Frag}{mg:Str->Option Value}{base:Heap}{kvs:List (Str×Addr)}(hk:∀y,(eK kvs y).isSome=decide (y∈bt))(d:Def P w K mg base 3 "find_in" ["ups","short","x"] (zl kvs)):Def P w K mg base 3 "find_in" ["ups","short","x"] (bE K tZ):=Pu.Def.imp d fun vs H Q E ⟨F,ps,Qp,sF,rs,hW,k⟩=>by
 obtain⟨us,y,x,rfl,f,hy,hx,hq⟩:=hW
 obtain⟨v1,t1,rfl,r1,v2,t2,e2,r2,v3,t3,e3,r3,e4⟩:=rs
 subst e2
 subst e3
 cases (show t3=[] from e4)
 obtain⟨a,ws,rfl,hF,rw1⟩:=r1
 cases (show v2=.str y from r2)
 cases (show v3=.int x from r3)
 have ew:=kx rw1
 subst ew
 refine⟨a,us,y,x,rfl,⟨sF _ _ hF,f.one,f.most,f.fst⟩,by rw[hk];exact decide_eq_true hy,hx,fun h us' n p b H' r s hp hb=>?_⟩
 have g0:Grow F H F H':=⟨s,Same.refl _,sF.trans s,fun _ _ e=>.inl e⟩
 obtain⟨g1,s1⟩:=g0.tup hb
 obtain⟨g2,s2⟩:=g1.tup hp
 exact k (.v (.tup [nI h,.tup (ak us'),nI n])) (.ref p) _ H' (hq h us' n r) g2 ⟨p,_,rfl,aq,_,_,rfl,rfl,_,_,rfl,⟨b,_,rfl,s2 _ _ aq,tV us'⟩,_,_,rfl,rfl,rfl⟩
end O31
end
end
section
namespace K31
open PySem L2 Fo Pu Dp
open O31 (Txt top Tabs)
structure Kon (w:World)(K:PySem.W.Frag)(mg:Str->Option Value):Prop where
 k_JOINS:∃a,mg "JOINS" = some (.ref a)/\KTup K a [.str "size",.str "rank",.str "told",.str "names"]
noncomputable abbrev dX:Stmt:=top 18
theorem sc_find_none:FnScope ["ups","x","at","steps"] ["ups","x"] (ag dX):=⟨rfl,rfl,rfl,by decide +kernel,rfl,by decide +kernel,by decide +kernel⟩
noncomputable abbrev cW:Stmt:=top 19
theorem sc_find_whole:FnScope ["ups","x","head","steps","at","above"] ["ups","x"] (ag cW):=⟨rfl,rfl,rfl,by decide +kernel,rfl,by decide +kernel,by decide +kernel⟩
noncomputable abbrev cv:Stmt:=top 20
theorem sc_find_halves:FnScope ["ups","x","at","steps"] ["ups","x"] (ag cv):=⟨rfl,rfl,rfl,by decide +kernel,rfl,by decide +kernel,by decide +kernel⟩
noncomputable abbrev cp:Stmt:=top 21
theorem sc_find_splits:FnScope ["ups","x","at","steps","above"] ["ups","x"] (ag cp):=⟨rfl,rfl,rfl,by decide +kernel,rfl,by decide +kernel,by decide +kernel⟩
noncomputable abbrev eX:Stmt:=top 22
theorem sc_find_one:FnScope ["ups","x","head","steps"] ["ups","x"] (ag eX):=⟨rfl,rfl,rfl,by decide +kernel,rfl,by decide +kernel,by decide +kernel⟩
noncomputable abbrev di:Stmt:=top 52
theorem sc__law_numbers:FnScope ["_law_cell_here","_law_many_here","_law_some","_law_state","_law_digits","_law_k"] ["_law_cell_here","_law_many_here"] (ag di):=⟨rfl,rfl,rfl,by decide +kernel,rfl,by decide +kernel,by decide +kernel⟩
noncomputable abbrev gz:Stmt:=top 53
theorem uU:FnScope ["_law_x"] ["_law_x"] (ag gz):=⟨rfl,rfl,rfl,by decide +kernel,rfl,by decide +kernel,by decide +kernel⟩
noncomputable abbrev gv:Stmt:=top 51
theorem sc__law_cell:FnScope ["_law_script","_law_k","_law_state","_law_cell_here"] ["_law_script","_law_k"] (ag gv):=⟨rfl,rfl,rfl,by decide +kernel,rfl,by decide +kernel,by decide +kernel⟩
noncomputable abbrev fD:Stmt:=top 54
theorem sc__law_joins:FnScope ["_law_script","_law_at","_law_many_here","_law_most","_law_head_here","_law_row","_law_k","_law_xs","_law_x","_law_y"] ["_law_script","_law_at","_law_many_here","_law_most"] (ag fD):=⟨rfl,rfl,rfl,by decide +kernel,rfl,by decide +kernel,by decide +kernel⟩
noncomputable abbrev fF:Stmt:=top 63
theorem sc__law_drawn:FnScope ["_law_script","_law_at","_law_head_here","_law_many_here"] ["_law_script","_law_at"] (ag fF):=⟨rfl,rfl,rfl,by decide +kernel,rfl,by decide +kernel,by decide +kernel⟩
noncomputable abbrev dI:Stmt:=top 57
theorem sc__law_lots_by:FnScope ["_law_many_here","_law_pairs","_law_lots","_law_x","_law_y","_law_one","_law_other"] ["_law_many_here","_law_pairs"] (ag dI):=⟨rfl,rfl,rfl,by decide +kernel,rfl,by decide +kernel,by decide +kernel⟩
noncomputable abbrev ip:Stmt:=top 10
theorem wt:FnScope ["thing"] ["thing"] (ag ip):=⟨rfl,rfl,rfl,by decide +kernel,rfl,by decide +kernel,by decide +kernel⟩
noncomputable abbrev iZ:Stmt:=top 11
theorem xP:FnScope ["thing"] ["thing"] (ag iZ):=⟨rfl,rfl,rfl,by decide +kernel,rfl,by decide +kernel,by decide +kernel⟩
noncomputable abbrev fH:Stmt:=top 13
theorem rX:FnScope ["many"] ["many"] (ag fH):=⟨rfl,rfl,rfl,by decide +kernel,rfl,by decide +kernel,by decide +kernel⟩
noncomputable abbrev gt:Stmt:=top 29
theorem sc_check_row:FnScope ["many","row","is_right","number","place"] ["many","row","is_right"] (ag gt):=⟨rfl,rfl,rfl,by decide +kernel,rfl,by decide +kernel,by decide +kernel⟩
noncomputable abbrev hZ:Stmt:=top 12
theorem xp:FnScope ["many","thing"] ["many","thing"] (ag hZ):=⟨rfl,rfl,rfl,by decide +kernel,rfl,by decide +kernel,by decide +kernel⟩
noncomputable abbrev i6:Stmt:=top 28
theorem xY:FnScope ["many","thing"] ["many","thing"] (ag i6):=⟨rfl,rfl,rfl,by decide +kernel,rfl,by decide +kernel,by decide +kernel⟩
noncomputable abbrev eC:Stmt:=top 30
theorem qa:FnScope ["many","row"] ["many","row"] (ag eC):=⟨rfl,rfl,rfl,by decide +kernel,rfl,by decide +kernel,by decide +kernel⟩
noncomputable abbrev bD:Stmt:=top 44
theorem kR:FnScope ["many","row"] ["many","row"] (ag bD):=⟨rfl,rfl,rfl,by decide +kernel,rfl,by decide +kernel,by decide +kernel⟩
noncomputable abbrev dG:Stmt:=top 45
theorem pr:FnScope ["row","moment"] ["row","moment"] (ag dG):=⟨rfl,rfl,rfl,by decide +kernel,rfl,by decide +kernel,by decide +kernel⟩
noncomputable abbrev ka:Stmt:=top 15
theorem sc_way_up:FnScope ["ups","x","way"] ["ups","x"] (ag ka):=⟨rfl,rfl,rfl,by decide +kernel,rfl,by decide +kernel,by decide +kernel⟩
noncomputable abbrev i8:Stmt:=top 16
theorem sc_lots_in:FnScope ["ups","lots","x","head"] ["ups"] (ag i8):=⟨rfl,rfl,rfl,by decide +kernel,rfl,by decide +kernel,by decide +kernel⟩
noncomputable abbrev bO:Stmt:=top 39
theorem lb:FnScope ["thing"] ["thing"] (ag bO):=⟨rfl,rfl,rfl,by decide +kernel,rfl,by decide +kernel,by decide +kernel⟩
noncomputable abbrev fI:Stmt:=top 40
theorem sg:FnScope ["join"] ["join"] (ag fI):=⟨rfl,rfl,rfl,by decide +kernel,rfl,by decide +kernel,by decide +kernel⟩
noncomputable abbrev fe:Stmt:=top 24
theorem pe:FnScope ["thing"] ["thing"] (ag fe):=⟨rfl,rfl,rfl,by decide +kernel,rfl,by decide +kernel,by decide +kernel⟩
noncomputable abbrev eF:Stmt:=top 25
theorem qR:FnScope ["short"] ["short"] (ag eF):=⟨rfl,rfl,rfl,by decide +kernel,rfl,by decide +kernel,by decide +kernel⟩
noncomputable abbrev gw:Stmt:=top 41
theorem sc_new_store:FnScope ["many","join","short","mark"] ["many","join","short"] (ag gw):=⟨rfl,rfl,rfl,by decide +kernel,rfl,by decide +kernel,by decide +kernel⟩
noncomputable abbrev gu:Stmt:=top 26
theorem sc_find_in:FnScope ["ups","short","x","behind","manner","head","steps"] ["ups","short","x"] (ag gu):=⟨rfl,rfl,rfl,by decide +kernel,rfl,by decide +kernel,by decide +kernel⟩
noncomputable abbrev kb:Stmt:=top 34
theorem Ba:FnScope ["numbers"] ["numbers"] (ag kb):=⟨rfl,rfl,rfl,by decide +kernel,rfl,by decide +kernel,by decide +kernel⟩
noncomputable abbrev gq:Stmt:=top 35
theorem sc_find_done:FnScope ["store","x","join","short","ups","marks","head","behind","steps"] ["store","x"] (ag gq):=⟨rfl,rfl,rfl,by decide +kernel,rfl,by decide +kernel,by decide +kernel⟩
noncomputable abbrev eB:Stmt:=top 31
theorem q8:FnScope ["join","marks","first","second"] ["join","marks","first","second"] (ag eB):=⟨rfl,rfl,rfl,by decide +kernel,rfl,by decide +kernel,by decide +kernel⟩
noncomputable abbrev eG:Stmt:=top 32
theorem rS:FnScope ["join","top","under"] ["join","top","under"] (ag eG):=⟨rfl,rfl,rfl,by decide +kernel,rfl,by decide +kernel,by decide +kernel⟩
noncomputable abbrev bM:Stmt:=top 33
theorem sc_with_heads_joined:FnScope ["store","first","second","join","short","ups","marks","stays","top","under","new_ups","new_marks"] ["store","first","second"] (ag bM):=⟨rfl,rfl,rfl,by decide +kernel,rfl,by decide +kernel,by decide +kernel⟩
noncomputable abbrev gl:Stmt:=top 36
theorem sc_join_done:FnScope ["store","x","y","after_x","first","steps_x","after_y","second","steps_y","steps"] ["store","x","y"] (ag gl):=⟨rfl,rfl,rfl,by decide +kernel,rfl,by decide +kernel,by decide +kernel⟩
noncomputable abbrev bW:Stmt:=top 43
theorem sc_forest_and_times:FnScope ["many","row","store","times","number","x","y","behind","real","steps","thing"] ["many","row"] (ag bW):=⟨rfl,rfl,rfl,by decide +kernel,rfl,by decide +kernel,by decide +kernel⟩
noncomputable abbrev i5:Stmt:=top 47
theorem yE:FnScope ["many","row"] ["many","row"] (ag i5):=⟨rfl,rfl,rfl,by decide +kernel,rfl,by decide +kernel,by decide +kernel⟩
noncomputable abbrev i7:Stmt:=top 49
theorem yk:FnScope ["many","row","moment"] ["many","row","moment"] (ag i7):=⟨rfl,rfl,rfl,by decide +kernel,rfl,by decide +kernel,by decide +kernel⟩
noncomputable abbrev eE:Stmt:=top 14
theorem rQ:FnScope ["many","x"] ["many","x"] (ag eE):=⟨rfl,rfl,rfl,by decide +kernel,rfl,by decide +kernel,by decide +kernel⟩
noncomputable abbrev gb:Stmt:=top 46
theorem ul:FnScope ["many","row","moment"] ["many","row","moment"] (ag gb):=⟨rfl,rfl,rfl,by decide +kernel,rfl,by decide +kernel,by decide +kernel⟩
noncomputable abbrev i4:Stmt:=top 48
theorem y0:FnScope ["many","row","moment","x"] ["many","row","moment","x"] (ag i4):=⟨rfl,rfl,rfl,by decide +kernel,rfl,by decide +kernel,by decide +kernel⟩
noncomputable abbrev iq:Stmt:=top 55
theorem sc__law_way:FnScope ["_law_ups","_law_x","_law_way_here"] ["_law_ups","_law_x"] (ag iq):=⟨rfl,rfl,rfl,by decide +kernel,rfl,by decide +kernel,by decide +kernel⟩
noncomputable abbrev gi:Stmt:=top 58
theorem sc__law_find:FnScope ["_law_ups","_law_short","_law_x","_law_way_here","_law_head_here","_law_thing","_law_steps","_law_here","_law_up"] ["_law_ups","_law_short","_law_x"] (ag gi):=⟨rfl,rfl,rfl,by decide +kernel,rfl,by decide +kernel,by decide +kernel⟩
noncomputable abbrev eD:Stmt:=top 60
theorem sc__law_linked:FnScope ["_law_join","_law_ups","_law_marks","_law_one","_law_other","_law_stays","_law_goes"] ["_law_join","_law_ups","_law_marks","_law_one","_law_other"] (ag eD):=⟨rfl,rfl,rfl,by decide +kernel,rfl,by decide +kernel,by decide +kernel⟩
noncomputable abbrev gy:Stmt:=top 61
theorem sc__law_deed:FnScope ["_law_store","_law_deed_here","_law_join","_law_short","_law_ups","_law_marks","_law_one","_law_steps","_law_other","_law_more"] ["_law_store","_law_deed_here"] (ag gy):=⟨rfl,rfl,rfl,by decide +kernel,rfl,by decide +kernel,by decide +kernel⟩
noncomputable abbrev hX:Stmt:=top 62
theorem sc__law_run:FnScope ["_law_store","_law_row","_law_answers","_law_steps","_law_deed_here","_law_answer","_law_many_here"] ["_law_store","_law_row"] (ag hX):=⟨rfl,rfl,rfl,by decide +kernel,rfl,by decide +kernel,by decide +kernel⟩
noncomputable abbrev ir:Stmt:=top 59
theorem xj:FnScope ["_law_many_here","_law_join","_law_short"] ["_law_many_here","_law_join","_law_short"] (ag ir):=⟨rfl,rfl,rfl,by decide +kernel,rfl,by decide +kernel,by decide +kernel⟩
noncomputable abbrev gA:Stmt:=top 56
theorem vF:FnScope ["_law_ups","_law_x"] ["_law_ups","_law_x"] (ag gA):=⟨rfl,rfl,rfl,by decide +kernel,rfl,by decide +kernel,by decide +kernel⟩
noncomputable abbrev bN:Stmt:=top 64
theorem sc__law_moment_right:FnScope ["_law_many_here","_law_row","_law_moment","_law_xs","_law_due","_law_told","_law_ups","_law_x","_law_head_here"] ["_law_many_here","_law_row","_law_moment","_law_xs"] (ag bN):=⟨rfl,rfl,rfl,by decide +kernel,rfl,by decide +kernel,by decide +kernel⟩
noncomputable abbrev nB:Stmt:=top 65
theorem sc_law:FnScope ["_law_script","_law_at","_law_many_here","_law_row","_law_xs","_law_moments","_law_moment"] ["_law_script"] (ag nB):=⟨rfl,rfl,rfl,by decide +kernel,rfl,by decide +kernel,by decide +kernel⟩
end K31
end
section
namespace K31
open PySem L2 Fo Pu Dp
open O31 (Txt top Tabs)
section
variable {P:Program}{w:World}{K:PySem.W.Frag}{mg:Str->Option Value}{base:Heap}
theorem pz (T:Txt mg)(F:FunD K mg "_law_numbers" di ["_law_cell_here","_law_many_here"]):Def P w K mg base 1 "_law_numbers" ["_law_cell_here","_law_many_here"] (bE K (b6 aF)):=
 bK F sc__law_numbers (fun f cdv A outer s H E hr=>(am (kg (iQ ai) sc__law_numbers.nd rfl (by first|exact Or.inl rfl|exact Or.inr rfl))
  (am (ca (aI (i:=3) sc__law_numbers.nd rfl (by first|exact Or.inl rfl|exact Or.inr rfl) (DE.ee (dz (kG (da (dz (ao (pv 0)) au) au) au) au))))
  (am (ca (aI (i:=4) sc__law_numbers.nd rfl (by first|exact Or.inl rfl|exact Or.inr rfl) (DE.ee au)))
  (am (fO (A8 (wv (bA CN (ao (pv 0)) au (aO _)) (t9 (bA MV (ao (pv 0)) (Mz au au) (aO _))))) (aB (ca (aI (i:=4) sc__law_numbers.nd rfl (by first|exact Or.inl rfl|exact Or.inr rfl) (DE.ee (dE J8 Hq (aW Db rfl T.n_abs Jh (DA.t (af ae (ao (pv 0)) ai)) (he:=ae _ _))))))) cx)
  (am (kD aD (io PassesOwn.never rfl (uP (j5 rfl T.n_range (DA.t (af ae (ao (pv 1)) ai)))) (ar (i:=5) sc__law_numbers.nd rfl (by first|exact Or.inl rfl|exact Or.inr rfl)) (am (ca (aI (i:=3) sc__law_numbers.nd rfl (by first|exact Or.inl rfl|exact Or.inr rfl) (DE.ee (dz (da (da (kG (ao (pv 3)) (da (dz (ao (pv 3)) au) au)) (kG au (ao (pv 5)))) au) au))))
  (am (qy (ce (o5 PySem.F.plainAttrs_list PySem.F.slot_list_append PySem.F.type_list_append gd (pv 2) (DA.f (af aN (bv (iQ (af ae (ao (pv 3)) (af aY (dz (ao (pv 4)) au) ai))) (dE qV nQ (aU jS rfl T.n_int oW (DA.t (af cI (mS Fp (ao (pv 4)) au (aO _)) ai)) (he:=cI _ _))) (fun _ _=>rfl)) ai)))))
  (aB (ca (aI (i:=4) sc__law_numbers.nd rfl (by first|exact Or.inl rfl|exact Or.inr rfl) (DE.ee (o6 (ao (pv 4)) au)))))))))
  (aB (qB (pv 2)))))))))
theorem rp (T:Txt mg)(F:FunD K mg "check_joins" eC ["many","row"]){a_is_pair:Addr}(m_is_pair:mg "is_pair" = some (.ref a_is_pair))(d_check_row_OF_is_pair:Def P w K mg base 4 "check_row" ["many","row","is_right"] (bE K (b6 (dZ [(a_is_pair,dn)])))):Def P w K mg base 5 "check_joins" ["many","row"] (bE K (b6 (cs a_is_pair))):=
 bK F qa (fun f cdv A outer s H E hr=>(aB (i9 (ce (DE.ee (ax d_check_row_OF_is_pair hr (af ae (ao (pv 0)) (af ae (ao (pv 1)) (af ae (Po m_is_pair) ai))) (he:=ae _ _)))))))
theorem pw (T:Txt mg)(F:FunD K mg "check_moment" dG ["row","moment"])(d_is_thing:Def P w K mg base 2 "is_thing" ["many","thing"] (bE K (b6 bp))):Def P w K mg base 3 "check_moment" ["row","moment"] (bE K (b6 bg)):=
 bK F pr (fun f cdv A outer s H E hr=>(aB (fO (mf (jX (ax d_is_thing hr (af aY (da (dE jg gP (aW ez rfl T.n_len iH (DA.t (af ae (ao (pv 0)) ai)) (he:=ae _ _))) au) (af ae (ao (pv 1)) ai)) (he:=aY _ _)))) (aB qN) cx)))
theorem rl (T:Txt mg)(F:FunD K mg "check_short" eF ["short"])(d_is_short:Def P w K mg base 1 "is_short" ["thing"] (bE K (b6 fo))):Def P w K mg base 2 "check_short" ["short"] (bE K (b6 cy)):=
 bK F qR (fun f cdv A outer s H E hr=>(aB (fO (mf (jX (ax d_is_short hr (af ae (ao (pv 0)) ai) (he:=ae _ _)))) (aB qN) cx)))
theorem pZ (T:Txt mg)(F:FunD K mg "first_stays" eB ["join","marks","first","second"]):Def P w K mg base 1 "first_stays" ["join","marks","first","second"] (bE K (b6 cq)):=
 bK F q8 (fun f cdv A outer s H E hr=>(am (fO (bA (iC hr.units) (ao (pv 0)) eZ (aO _)) (aB (bG wG)) cx)
  (am (fO (bA (iC hr.units) (ao (pv 0)) eZ (aO _)) (aB (bG (mS CN (ao (pv 2)) (ao (pv 3)) (aO _)))) cx)
  (aB (bG (mS MV (bv (ao (pv 1)) (ao (pv 2)) (fun _ _=>rfl)) (bv (ao (pv 1)) (ao (pv 3)) (fun _ _=>rfl)) (aO _)))))))
theorem mO (T:Txt mg)(F:FunD K mg "forest_and_times" bW ["many","row"])(d_new_store:Def P w K mg base 4 "new_store" ["many","join","short"] (bE K (b6 dY)))(d_join_done:Def P w K mg base 5 "join_done" ["store","x","y"] (bE K (b6 cX))):Def P w K mg base 6 "forest_and_times" ["many","row"] (bE K (b6 aQ)):=
 bK F sc_forest_and_times (fun f cdv A outer s H E hr=>(am (ca (aI (i:=2) sc_forest_and_times.nd rfl (by first|exact Or.inl rfl|exact Or.inr rfl) (DE.ee (ax d_new_store hr (af ae (ao (pv 0)) (af aR eZ (af aR eZ ai))) (he:=ae _ _)))))
  (am (kg (kG (iQ (af aR IX ai)) (ao (pv 0))) sc_forest_and_times.nd rfl (by first|exact Or.inl rfl|exact Or.inr rfl))
  (am (kD (gG (aP aD (aP (gG (aP aD (aP aD gQ))) gQ))) (io PassesOwn.never rfl (zt (xz rfl T.n_enumerate (DA.f (af ae (ao (pv 1)) ai)))) (cN (K:=K) (n:=2) rfl rfl (av (ar (i:=4) sc_forest_and_times.nd rfl (by first|exact Or.inl rfl|exact Or.inr rfl)) (av (cN (K:=K) (n:=2) rfl rfl (av (ar (i:=5) sc_forest_and_times.nd rfl (by first|exact Or.inl rfl|exact Or.inr rfl)) (av (ar (i:=6) sc_forest_and_times.nd rfl (by first|exact Or.inl rfl|exact Or.inr rfl)) bT))) bT))) (am (jo (gG (aP aD (aP aD (aP aD gQ)))) (bF (DE.ee (ax d_join_done hr (af ae (ao (pv 2)) (af ae (ao (pv 5)) (af ae (ao (pv 6)) ai))) (he:=ae _ _))) (cN (K:=K) (n:=3) rfl rfl (av (ar (i:=7) sc_forest_and_times.nd rfl (by first|exact Or.inl rfl|exact Or.inr rfl)) (av (ar (i:=8) sc_forest_and_times.nd rfl (by first|exact Or.inl rfl|exact Or.inr rfl)) (av (ar (i:=9) sc_forest_and_times.nd rfl (by first|exact Or.inl rfl|exact Or.inr rfl)) bT))))))
  (am (kD aD (io PassesOwn.never rfl (uP (j5 rfl T.n_range (DA.t (af ae (ao (pv 0)) ai)))) (ar (i:=10) sc_forest_and_times.nd rfl (by first|exact Or.inl rfl|exact Or.inr rfl)) (aB (fO (bA (ra hr.units) (bv (bv (ao (pv 7)) au (fun _ _=>rfl)) (ao (pv 10)) (fun _ _=>rfl)) (bv (bv (ao (pv 2)) au (fun _ _=>rfl)) (ao (pv 10)) (fun _ _=>rfl)) (aO _)) (aB (nH (bF (DE.ee (ao (pv 4))) (ii (pv 3) (DE.ee (ao (pv 10))) du)))) cx))))
  (aB (ca (aI (i:=2) sc_forest_and_times.nd rfl (by first|exact Or.inl rfl|exact Or.inr rfl) (DE.ee (ao (pv 7))))))))))
  (aB (bG (dJ (af aN (bv (ao (pv 2)) au (fun _ _=>rfl)) (af aL (dE jA iu (aU bh rfl T.n_tuple ci (DA.t (af ae (ao (pv 3)) ai)) (he:=ae _ _))) ai)))))))))
theorem vD (T:Txt mg)(F:FunD K mg "_law_head" gA ["_law_ups","_law_x"])(d__law_way:Def P w K mg base 1 "_law_way" ["_law_ups","_law_x"] (bE K (b6 cF))):Def P w K mg base 2 "_law_head" ["_law_ups","_law_x"] (bE K (b6 ge)):=
 bK F vF (fun f cdv A outer s H E hr=>(aB (bG (bv (ax d__law_way hr (af ae (ao (pv 0)) (af ae (ao (pv 1)) ai)) (he:=ae _ _)) (oh au) (fun _ _=>rfl)))))
theorem lU (T:Txt mg)(F:FunD K mg "_law_moment_right" bN ["_law_many_here","_law_row","_law_moment","_law_xs"]){a_is_pair:Addr}(d__law_lots_by:Def P w K mg base 1 "_law_lots_by" ["_law_many_here","_law_pairs"] (bE K (b6 b9)))(d_lots_at:Def P w K mg base 8 "lots_at" ["many","row","moment"] (bE K (b6 (eI a_is_pair))))(d_head_at:Def P w K mg base 8 "head_at" ["many","row","moment","x"] (bE K (b6 (gn a_is_pair))))(d__law_run:Def P w K mg base 4 "_law_run" ["_law_store","_law_row"] (bE K (b6 fu)))(d__law_new:Def P w K mg base 1 "_law_new" ["_law_many_here","_law_join","_law_short"] (bE K (b6 fk)))(d__law_head:Def P w K mg base 2 "_law_head" ["_law_ups","_law_x"] (bE K (b6 ge))):Def P w K mg base 9 "_law_moment_right" ["_law_many_here","_law_row","_law_moment","_law_xs"] (bE K (b6 (bP a_is_pair))):=
 bK F sc__law_moment_right (fun f cdv A outer s H E hr=>(am (ca (aI (i:=4) sc__law_moment_right.nd rfl (by first|exact Or.inl rfl|exact Or.inr rfl) (DE.ee (ax d__law_lots_by hr (af ae (ao (pv 0)) (af aN (zY (ao (pv 1)) wO (wz (ao (pv 2)))) ai)) (he:=ae _ _)))))
  (am (kg (ax d_lots_at hr (af ae (ao (pv 0)) (af ae (ao (pv 1)) (af ae (ao (pv 2)) ai))) (he:=ae _ _)) sc__law_moment_right.nd rfl (by first|exact Or.inl rfl|exact Or.inr rfl))
  (am (fO (A8 (wv (mf (jX (dE mr lL (aW cV rfl T.n_isinstance bY (DA.t (af ae (ao (pv 5)) (af ae (x9 (nE (p:=.ty "list") (nK T.n_list pN))) ai))) (he:=ae _ _))))) (wv (bA (ra hr.units) (ao (pv 5)) (ao (pv 4)) (aO _)) (t9 (mf (jX (dE Ky ET (aW (DT rfl) rfl T.n_all LJ (DA.t (af li (HS aD (ko ["_law_lot"] [none] (K5 (ao (pv 5))) (fun bC bs bH bx=>(ar (i:=0) (show List.Nodup (["_law_lot"]:List Str) by decide +kernel) rfl (by first|exact Or.inl rfl|exact Or.inr rfl))) (fun bC bs bH bx=>u6) (fun bC bs bH bx=>DE.ee (dE mr lL (aW cV rfl T.n_isinstance bY (DA.t (af ae (ao (pv 0)) (af ae (x9 (nE (p:=.ty "tuple") (nK T.n_tuple ci))) ai))) (he:=ae _ _)))) (fZ rfl))) ai)) (he:=li _ _))))))))) (aB (bG wG)) cx)
  (am (ca (aI (i:=6) sc__law_moment_right.nd rfl (by first|exact Or.inl rfl|exact Or.inr rfl) (DE.ee (bv (bv (ax d__law_run hr (af aL (ax d__law_new hr (af ae (ao (pv 0)) (af aR eZ (af aR eZ ai))) (he:=ae _ _)) (af li (qw (gG (aP aD (aP aD gQ))) (ko ["_law_x","_law_y"] [none,none] (kC (zY (ao (pv 1)) wO (wz (ao (pv 2))))) (fun bC bs bH bx=>(cN (K:=K) (n:=2) rfl rfl (av (ar (i:=0) (show List.Nodup (["_law_x","_law_y"]:List Str) by decide +kernel) rfl (by first|exact Or.inl rfl|exact Or.inr rfl)) (av (ar (i:=1) (show List.Nodup (["_law_x","_law_y"]:List Str) by decide +kernel) rfl (by first|exact Or.inl rfl|exact Or.inr rfl)) bT)))) (fun bC bs bH bx=>u6) (fun bC bs bH bx=>DE.ee (dJ (af aR eZ (af ae (ao (pv 0)) (af ae (ao (pv 1)) ai))))) (Bj rfl rfl))) ai)) (he:=aL _ _)) au (fun _ _=>rfl)) au (fun _ _=>rfl)))))
  (am (kD aD (io PassesOwn.never rfl (kC (FZ (ao (pv 3)) wO (wz au))) (ar (i:=7) sc__law_moment_right.nd rfl (by first|exact Or.inl rfl|exact Or.inr rfl)) (am (ca (aI (i:=8) sc__law_moment_right.nd rfl (by first|exact Or.inl rfl|exact Or.inr rfl) (DE.ee (ax d_head_at hr (af ae (ao (pv 0)) (af ae (ao (pv 1)) (af ae (ao (pv 2)) (af aY (dz (ao (pv 7)) (ao (pv 0))) ai)))) (he:=ae _ _)))))
  (aB (fO (A8 (wv (jX (dE mr lL (aW cV rfl T.n_isinstance bY (DA.t (af ae (ao (pv 8)) (af ae (x9 (nE (p:=.ty "bool") (nK T.n_bool zH))) ai))) (he:=ae _ _)))) (t9 (bA (ra hr.units) (ao (pv 8)) (ax d__law_head hr (af ae (ao (pv 6)) (af aY (dz (ao (pv 7)) (ao (pv 0))) ai)) (he:=ae _ _)) (aO _))))) (aB (bG wG)) cx)))))
  (am (Mc (ce (Jl PySem.F.plainAttrs_list PySem.F.slot_list_reverse PySem.F.type_list_reverse yV (pv 5))))
  (am (qy (ce (o5 PySem.F.plainAttrs_list PySem.F.slot_list_append PySem.F.type_list_append gd (pv 5) (DA.f (af aR IX ai)))))
  (aB (bG (mS (iC hr.units) (ax d_lots_at hr (af ae (ao (pv 0)) (af ae (ao (pv 1)) (af ae (ao (pv 2)) ai))) (he:=ae _ _)) (ao (pv 4)) (aO _))))))))))))
end
end K31
end
section
namespace K31
open PySem L2 Fo Pu Dp
open O31 (Txt top Tabs)
section
variable {P:Program}{w:World}{K:PySem.W.Frag}{mg:Str->Option Value}{base:Heap}
theorem vN (T:Txt mg)(F:FunD K mg "_law_many" gz ["_law_x"]):Def P w K mg base 1 "_law_many" ["_law_x"] (bE K (b6 dW)):=
 bK F uU (fun f cdv A outer s H E hr=>(aB (bG (bv (iQ (af aY (da au (dz (o6 (ao (pv 0)) au) au)) (af aY (da au (dz (o6 (ao (pv 0)) au) au)) ai))) (dE qV nQ (aU jS rfl T.n_int oW (DA.t (af cI (mS (iC hr.units) (dz (ao (pv 0)) au) au (aO _)) ai)) (he:=cI _ _))) (fun _ _=>rfl)))))
theorem wn (T:Txt mg)(F:FunD K mg "is_whole" ip ["thing"]):Def P w K mg base 1 "is_whole" ["thing"] (bE K (b6 cG)):=
 bK F wt (fun f cdv A outer s H E hr=>(aB (bG (wP (dE mr lL (aW cV rfl T.n_isinstance bY (DA.t (af ae (ao (pv 0)) (af ae (x9 (nE (p:=.ty "int") (nK T.n_int oW))) ai))) (he:=ae _ _))) (wx (NY (dE mr lL (aW cV rfl T.n_isinstance bY (DA.t (af ae (ao (pv 0)) (af ae (x9 (nE (p:=.ty "bool") (nK T.n_bool zH))) ai))) (he:=ae _ _)))))))))
theorem ss (T:Txt mg)(F:FunD K mg "check_many" fH ["many"])(d_is_many:Def P w K mg base 2 "is_many" ["thing"] (bE K (b6 fE))):Def P w K mg base 3 "check_many" ["many"] (bE K (b6 b5)):=
 bK F rX (fun f cdv A outer s H E hr=>(aB (fO (mf (jX (ax d_is_many hr (af ae (ao (pv 0)) ai) (he:=ae _ _)))) (aB qN) cx)))
theorem vU (T:Txt mg)(F:FunD K mg "is_thing" hZ ["many","thing"])(d_is_whole:Def P w K mg base 1 "is_whole" ["thing"] (bE K (b6 cG))):Def P w K mg base 2 "is_thing" ["many","thing"] (bE K (b6 bp)):=
 bK F xp (fun f cdv A outer s H E hr=>(aB (bG (wP (ax d_is_whole hr (af ae (ao (pv 1)) ai) (he:=ae _ _)) (wx (MR Gp CN au (ao (pv 1)) (ao (pv 0)) (by with_unfolding_all rfl)))))))
theorem kY (T:Txt mg)(F:FunD K mg "check_many_and_row" bD ["many","row"]){a_is_pair:Addr}(d_check_many:Def P w K mg base 3 "check_many" ["many"] (bE K (b6 b5)))(d_check_joins:Def P w K mg base 5 "check_joins" ["many","row"] (bE K (b6 (cs a_is_pair)))):Def P w K mg base 6 "check_many_and_row" ["many","row"] (bE K (b6 (aJ a_is_pair))):=
 bK F kR (fun f cdv A outer s H E hr=>(am (i9 (ce (DE.ee (ax d_check_many hr (af ae (ao (pv 0)) ai) (he:=ae _ _)))))
  (aB (i9 (ce (DE.ee (ax d_check_joins hr (af ae (ao (pv 0)) (af ae (ao (pv 1)) ai)) (he:=ae _ _))))))))
theorem lP (T:Txt mg)(TK:Kon w K mg)(F:FunD K mg "is_way_of_joining" bO ["thing"]):Def P w K mg base 1 "is_way_of_joining" ["thing"] (bE K (b6 bc)):=
 bK F lb (fun f cdv A outer s H E hr=>(aB (bG (wP (dE mr lL (aW cV rfl T.n_isinstance bY (DA.t (af ae (ao (pv 0)) (af ae (x9 (nE (p:=.ty "str") (nK T.n_str Eg))) ai))) (he:=ae _ _))) (wx (mS (GO hr.units) (ao (pv 0)) (Mx TK.k_JOINS) (by with_unfolding_all rfl)))))))
theorem uA (T:Txt mg)(F:FunD K mg "new_store" gw ["many","join","short"])(d_check_many:Def P w K mg base 3 "check_many" ["many"] (bE K (b6 b5)))(d_check_join:Def P w K mg base 2 "check_join" ["join"] (bE K (b6 d5)))(d_check_short:Def P w K mg base 2 "check_short" ["short"] (bE K (b6 cy))):Def P w K mg base 4 "new_store" ["many","join","short"] (bE K (b6 dY)):=
 bK F sc_new_store (fun f cdv A outer s H E hr=>(am (i9 (ce (DE.ee (ax d_check_many hr (af ae (ao (pv 0)) ai) (he:=ae _ _)))))
  (am (i9 (ce (DE.ee (ax d_check_join hr (af ae (ao (pv 1)) ai) (he:=ae _ _)))))
  (am (i9 (ce (DE.ee (ax d_check_short hr (af ae (ao (pv 2)) ai) (he:=ae _ _)))))
  (am (ca (aI (i:=3) sc_new_store.nd rfl (by first|exact Or.inl rfl|exact Or.inr rfl) (DE.ee (Nh (bA (iC hr.units) (ao (pv 1)) eZ (aO _)) au au))))
  (aB (bG (dJ (af ae (ao (pv 1)) (af ae (ao (pv 2)) (af aL (DM T.n_tuple (af aL (dE x5 um (aU mo rfl T.n_range rG (DA.t (af ae (ao (pv 0)) ai)) (he:=ae _ _))) ai) (he:=aL _ _)) (af aY (kG (dJ (af ae (ao (pv 3)) ai)) (ao (pv 0))) ai))))))))))))
theorem yY (T:Txt mg)(F:FunD K mg "lots_at" i7 ["many","row","moment"]){a_is_pair:Addr}(d_check_many_and_row:Def P w K mg base 6 "check_many_and_row" ["many","row"] (bE K (b6 (aJ a_is_pair))))(d_check_moment:Def P w K mg base 3 "check_moment" ["row","moment"] (bE K (b6 bg)))(d_lots_by:Def P w K mg base 7 "lots_by" ["many","row"] (bE K (b6 gh))):Def P w K mg base 8 "lots_at" ["many","row","moment"] (bE K (b6 (eI a_is_pair))):=
 bK F yk (fun f cdv A outer s H E hr=>(am (i9 (ce (DE.ee (ax d_check_many_and_row hr (af ae (ao (pv 0)) (af ae (ao (pv 1)) ai)) (he:=ae _ _)))))
  (am (i9 (ce (DE.ee (ax d_check_moment hr (af ae (ao (pv 1)) (af ae (ao (pv 2)) ai)) (he:=ae _ _)))))
  (aB (bG (ax d_lots_by hr (af ae (ao (pv 0)) (af aN (zY (ao (pv 1)) wO (wz (ao (pv 2)))) ai)) (he:=ae _ _)))))))
theorem wd (T:Txt mg)(F:FunD K mg "_law_way" iq ["_law_ups","_law_x"]):Def P w K mg base 1 "_law_way" ["_law_ups","_law_x"] (bE K (b6 cF)):=
 bK F sc__law_way (fun f cdv A outer s H E hr=>(am (kg (iQ (af ae (ao (pv 1)) ai)) sc__law_way.nd rfl (by first|exact Or.inl rfl|exact Or.inr rfl))
  (am (u7 (ji PassesOwn.never (A8 (qY (bA (ra hr.units) (bv (ao (pv 0)) (bv (ao (pv 2)) (oh au) (fun _ _=>rfl)) (fun _ _=>rfl)) (bv (ao (pv 2)) (oh au) (fun _ _=>rfl)) (aO _)) (nq (bA Gp (dE jg gP (aW ez rfl T.n_len iH (DA.t (af ae (ao (pv 2)) ai)) (he:=ae _ _))) (dE jg gP (aW ez rfl T.n_len iH (DA.t (af ae (ao (pv 0)) ai)) (he:=ae _ _))) (aO _))))) (aB (qy (ce (o5 PySem.F.plainAttrs_list PySem.F.slot_list_append PySem.F.type_list_append gd (pv 2) (DA.f (af aN (bv (ao (pv 0)) (bv (ao (pv 2)) (oh au) (fun _ _=>rfl)) (fun _ _=>rfl)) ai))))))))
  (aB (qB (pv 2))))))
theorem vx (T:Txt mg)(F:FunD K mg "_law_deed" gy ["_law_store","_law_deed_here"])(d__law_find:Def P w K mg base 2 "_law_find" ["_law_ups","_law_short","_law_x"] (bE K (b6 cn)))(d__law_linked:Def P w K mg base 1 "_law_linked" ["_law_join","_law_ups","_law_marks","_law_one","_law_other"] (bE K (b6 cu))):Def P w K mg base 3 "_law_deed" ["_law_store","_law_deed_here"] (bE K (b6 cS)):=
 bK F sc__law_deed (fun f cdv A outer s H E hr=>(am (jo (gG (aP aD (aP aD (aP aD (aP aD gQ))))) (bF (DE.ee (ao (pv 0))) (cN (K:=K) (n:=4) rfl rfl (av (ar (i:=2) sc__law_deed.nd rfl (by first|exact Or.inl rfl|exact Or.inr rfl)) (av (ar (i:=3) sc__law_deed.nd rfl (by first|exact Or.inl rfl|exact Or.inr rfl)) (av (ar (i:=4) sc__law_deed.nd rfl (by first|exact Or.inl rfl|exact Or.inr rfl)) (av (ar (i:=5) sc__law_deed.nd rfl (by first|exact Or.inl rfl|exact Or.inr rfl)) bT)))))))
  (am (jo (gG (aP aD (aP aD (aP aD gQ)))) (bF (DE.ee (ax d__law_find hr (af ae (ao (pv 4)) (af ae (ao (pv 3)) (af aN (bv (ao (pv 1)) au (fun _ _=>rfl)) ai))) (he:=ae _ _))) (cN (K:=K) (n:=3) rfl rfl (av (ar (i:=6) sc__law_deed.nd rfl (by first|exact Or.inl rfl|exact Or.inr rfl)) (av (ar (i:=4) sc__law_deed.nd rfl (by first|exact Or.inl rfl|exact Or.inr rfl)) (av (ar (i:=7) sc__law_deed.nd rfl (by first|exact Or.inl rfl|exact Or.inr rfl)) bT))))))
  (am (fO (bA (iC hr.units) (bv (ao (pv 1)) au (fun _ _=>rfl)) eZ (aO _)) (aB (bG (dJ (af lW (dJ (af ae (ao (pv 2)) (af ae (ao (pv 3)) (af ae (ao (pv 4)) (af ae (ao (pv 5)) ai))))) (af ae (ao (pv 6)) (af ae (ao (pv 7)) ai)))))) cx)
  (am (jo (gG (aP aD (aP aD (aP aD gQ)))) (bF (DE.ee (ax d__law_find hr (af ae (ao (pv 4)) (af ae (ao (pv 3)) (af aN (bv (ao (pv 1)) au (fun _ _=>rfl)) ai))) (he:=ae _ _))) (cN (K:=K) (n:=3) rfl rfl (av (ar (i:=8) sc__law_deed.nd rfl (by first|exact Or.inl rfl|exact Or.inr rfl)) (av (ar (i:=4) sc__law_deed.nd rfl (by first|exact Or.inl rfl|exact Or.inr rfl)) (av (ar (i:=9) sc__law_deed.nd rfl (by first|exact Or.inl rfl|exact Or.inr rfl)) bT))))))
  (am (fO (bA (ra hr.units) (ao (pv 6)) (ao (pv 8)) (aO _)) (aB (jo (gG (aP aD (aP aD gQ))) (bF (DE.ee (ax d__law_linked hr (af ae (ao (pv 2)) (af ae (ao (pv 4)) (af ae (ao (pv 5)) (af ae (ao (pv 6)) (af ae (ao (pv 8)) ai))))) (he:=ae _ _))) (cN (K:=K) (n:=2) rfl rfl (av (ar (i:=4) sc__law_deed.nd rfl (by first|exact Or.inl rfl|exact Or.inr rfl)) (av (ar (i:=5) sc__law_deed.nd rfl (by first|exact Or.inl rfl|exact Or.inr rfl)) bT)))))) cx)
  (aB (bG (dJ (af lW (dJ (af ae (ao (pv 2)) (af ae (ao (pv 3)) (af ae (ao (pv 4)) (af ae (ao (pv 5)) ai))))) (af cI (mS (ra hr.units) (ao (pv 6)) (ao (pv 8)) (aO _)) (af aY (da (ao (pv 7)) (ao (pv 9))) ai))))))))))))
end
end K31
end
section
namespace K31
open PySem L2 Fo Pu Dp
open O31 (Txt top Tabs)
section
variable {P:Program}{w:World}{K:PySem.W.Frag}{mg:Str->Option Value}{base:Heap}
theorem vw (T:Txt mg)(F:FunD K mg "_law_cell" gv ["_law_script","_law_k"]):Def P w K mg base 1 "_law_cell" ["_law_script","_law_k"] (bE K (b6 aX)):=
 bK F sc__law_cell (fun f cdv A outer s H E hr=>(am (fO (bA CN (ao (pv 1)) (dE jg gP (aW ez rfl T.n_len iH (DA.t (af ae (ao (pv 0)) ai)) (he:=ae _ _))) (aO _)) (aB (bG (bv (ao (pv 0)) (ao (pv 1)) (fun _ _=>rfl)))) cx)
  (am (ca (aI (i:=2) sc__law_cell.nd rfl (by first|exact Or.inl rfl|exact Or.inr rfl) (DE.ee (dz (kG au (da (da (kG (ao (pv 1)) (ao (pv 1))) (kG au (ao (pv 1)))) au)) au))))
  (am (kD aD (io PassesOwn.never rfl (kC (FZ (ao (pv 0)) wO (wz au))) (ar (i:=3) sc__law_cell.nd rfl (by first|exact Or.inl rfl|exact Or.inr rfl)) (aB (ca (aI (i:=2) sc__law_cell.nd rfl (by first|exact Or.inl rfl|exact Or.inr rfl) (DE.ee (dz (da (kG (ao (pv 2)) au) (ao (pv 3))) au)))))))
  (aB (qB (pv 2)))))))
theorem yL (T:Txt mg)(F:FunD K mg "is_many" iZ ["thing"])(d_is_whole:Def P w K mg base 1 "is_whole" ["thing"] (bE K (b6 cG))):Def P w K mg base 2 "is_many" ["thing"] (bE K (b6 fE)):=
 bK F xP (fun f cdv A outer s H E hr=>(aB (bG (wP (ax d_is_whole hr (af ae (ao (pv 0)) ai) (he:=ae _ _)) (wx (MR Gp Gp au (ao (pv 0)) (x9 (nE (p:=.int 40) (Kd T.c_MOST_THINGS))) (by with_unfolding_all rfl)))))))
theorem uY (T:Txt mg)(F:FunD K mg "check_row" gt ["many","row","is_right"]){t:oA}(hd:∀a G,look t a=some G->DefA P w K mg base 3 a ["many","thing"] (bE K (b6 G))):Def P w K mg base 4 "check_row" ["many","row","is_right"] (bE K (b6 (dZ t))):=
 bK F sc_check_row (fun f cdv A outer s H E hr=>(am (fO (mf (jX (dE mr lL (aW cV rfl T.n_isinstance bY (DA.t (af ae (ao (pv 1)) (af ae (x9 (nE (p:=.ty "tuple") (nK T.n_tuple ci))) ai))) (he:=ae _ _))))) (aB qN) cx)
  (aB (kD (gG (aP aD (aP aD gQ))) (io PassesOwn.never rfl (zt (xz rfl T.n_enumerate (DA.f (af ae (ao (pv 1)) ai)))) (cN (K:=K) (n:=2) rfl rfl (av (ar (i:=3) sc_check_row.nd rfl (by first|exact Or.inl rfl|exact Or.inr rfl)) (av (ar (i:=4) sc_check_row.nd rfl (by first|exact Or.inl rfl|exact Or.inr rfl)) bT))) (aB (fO (mf (jX (Fi (i:=2) hd hr rfl (af ae (ao (pv 0)) (af ae (ao (pv 4)) ai)) (he:=ae _ _)))) (aB qN) cx)))))))
theorem BE (T:Txt mg)(F:FunD K mg "way_up" ka ["ups","x"]):Def P w K mg base 1 "way_up" ["ups","x"] (bE K (b6 eA)):=
 bK F sc_way_up (fun f cdv A outer s H E hr=>(am (kg (iQ (af ae (ao (pv 1)) ai)) sc_way_up.nd rfl (by first|exact Or.inl rfl|exact Or.inr rfl))
  (am (u7 (ji PassesOwn.never (bA (ra hr.units) (bv (ao (pv 0)) (bv (ao (pv 2)) (oh au) (fun _ _=>rfl)) (fun _ _=>rfl)) (bv (ao (pv 2)) (oh au) (fun _ _=>rfl)) (aO _)) (aB (qy (ce (o5 PySem.F.plainAttrs_list PySem.F.slot_list_append PySem.F.type_list_append gd (pv 2) (DA.f (af aN (bv (ao (pv 0)) (bv (ao (pv 2)) (oh au) (fun _ _=>rfl)) (fun _ _=>rfl)) ai))))))))
  (aB (qB (pv 2))))))
theorem Bf (T:Txt mg)(F:FunD K mg "copied" kb ["numbers"]):Def P w K mg base 1 "copied" ["numbers"] (bE K (b6 iy)):=
 bK F Ba (fun f cdv A outer s H E hr=>(aB (bG (dE jA iu (aU bh rfl T.n_tuple ci (DA.t (af aL (ki T.n_list (af ae (ao (pv 0)) ai) (he:=ae _ _)) ai)) (he:=aL _ _))))))
theorem p9 (T:Txt mg)(F:FunD K mg "mark_behind" eG ["join","top","under"]):Def P w K mg base 1 "mark_behind" ["join","top","under"] (bE K (b6 cr)):=
 bK F rS (fun f cdv A outer s H E hr=>(am (fO (bA (iC hr.units) (ao (pv 0)) eZ (aO _)) (aB (bG (da (ao (pv 1)) (ao (pv 2))))) cx)
  (am (fO (A8 (qY (bA (iC hr.units) (ao (pv 0)) eZ (aO _)) (nq (bA (iC hr.units) (ao (pv 1)) (ao (pv 2)) (aO _))))) (aB (bG (da (ao (pv 1)) au))) cx)
  (aB (qB (pv 1))))))
theorem yx (T:Txt mg)(F:FunD K mg "lots_by" i5 ["many","row"])(d_lots_in:Def P w K mg base 2 "lots_in" ["ups"] (bE K (b6 dD)))(d_forest_and_times:Def P w K mg base 6 "forest_and_times" ["many","row"] (bE K (b6 aQ))):Def P w K mg base 7 "lots_by" ["many","row"] (bE K (b6 gh)):=
 bK F yE (fun f cdv A outer s H E hr=>(aB (bG (ax d_lots_in hr (af aN (bv (ax d_forest_and_times hr (af ae (ao (pv 0)) (af ae (ao (pv 1)) ai)) (he:=ae _ _)) au (fun _ _=>rfl)) ai) (he:=aN _ _)))))
theorem rR (T:Txt mg)(F:FunD K mg "check_thing" eE ["many","x"])(d_is_thing:Def P w K mg base 2 "is_thing" ["many","thing"] (bE K (b6 bp))):Def P w K mg base 3 "check_thing" ["many","x"] (bE K (b6 cw)):=
 bK F rQ (fun f cdv A outer s H E hr=>(aB (fO (mf (jX (ax d_is_thing hr (af ae (ao (pv 0)) (af ae (ao (pv 1)) ai)) (he:=ae _ _)))) (aB qN) cx)))
theorem yU (T:Txt mg)(F:FunD K mg "head_at" i4 ["many","row","moment","x"]){a_is_pair:Addr}(d_check_many_and_row:Def P w K mg base 6 "check_many_and_row" ["many","row"] (bE K (b6 (aJ a_is_pair))))(d_check_moment:Def P w K mg base 3 "check_moment" ["row","moment"] (bE K (b6 bg)))(d_check_thing:Def P w K mg base 3 "check_thing" ["many","x"] (bE K (b6 cw)))(d_way_up:Def P w K mg base 1 "way_up" ["ups","x"] (bE K (b6 eA)))(d_forest_at:Def P w K mg base 7 "forest_at" ["many","row","moment"] (bE K (b6 dP))):Def P w K mg base 8 "head_at" ["many","row","moment","x"] (bE K (b6 (gn a_is_pair))):=
 bK F y0 (fun f cdv A outer s H E hr=>(am (i9 (ce (DE.ee (ax d_check_many_and_row hr (af ae (ao (pv 0)) (af ae (ao (pv 1)) ai)) (he:=ae _ _)))))
  (am (i9 (ce (DE.ee (ax d_check_moment hr (af ae (ao (pv 1)) (af ae (ao (pv 2)) ai)) (he:=ae _ _)))))
  (am (i9 (ce (DE.ee (ax d_check_thing hr (af ae (ao (pv 0)) (af ae (ao (pv 3)) ai)) (he:=ae _ _)))))
  (aB (bG (bv (ax d_way_up hr (af aL (ax d_forest_at hr (af ae (ao (pv 0)) (af ae (ao (pv 1)) (af ae (ao (pv 2)) ai))) (he:=ae _ _)) (af ae (ao (pv 3)) ai)) (he:=aL _ _)) (oh au) (fun _ _=>rfl))))))))
theorem wK (T:Txt mg)(F:FunD K mg "_law_run" hX ["_law_store","_law_row"])(d__law_deed:Def P w K mg base 3 "_law_deed" ["_law_store","_law_deed_here"] (bE K (b6 cS))):Def P w K mg base 4 "_law_run" ["_law_store","_law_row"] (bE K (b6 fu)):=
 bK F sc__law_run (fun f cdv A outer s H E hr=>(am (C9 (oY (i:=2) (j:=3) rfl sc__law_run.nd rfl rfl (by decide) rfl rfl (aG zF (DE.nn (iQ ai)) (aG zF (DE.nn (iQ ai)) cO)) (by rfl)))
  (am (kD aD (io PassesOwn.never rfl (kC (ao (pv 1))) (ar (i:=4) sc__law_run.nd rfl (by first|exact Or.inl rfl|exact Or.inr rfl)) (am (jo (gG (aP aD (aP aD (aP aD gQ)))) (bF (DE.ee (ax d__law_deed hr (af ae (ao (pv 0)) (af ae (ao (pv 4)) ai)) (he:=ae _ _))) (cN (K:=K) (n:=3) rfl rfl (av (ar (i:=0) sc__law_run.nd rfl (by first|exact Or.inl rfl|exact Or.inr rfl)) (av (ar (i:=5) sc__law_run.nd rfl (by first|exact Or.inl rfl|exact Or.inr rfl)) (av (ar (i:=6) sc__law_run.nd rfl (by first|exact Or.inl rfl|exact Or.inr rfl)) bT))))))
  (am (qy (ce (o5 PySem.F.plainAttrs_list PySem.F.slot_list_append PySem.F.type_list_append gd (pv 2) (DA.f (af ae (ao (pv 5)) ai)))))
  (aB (qy (ce (o5 PySem.F.plainAttrs_list PySem.F.slot_list_append PySem.F.type_list_append gd (pv 3) (DA.f (af ae (ao (pv 6)) ai))))))))))
  (aB (IS 3 (IS 2 (bG (dJ (af ae (ao (pv 0)) (af ae (ao (pv 2)) (af ae (ao (pv 3)) ai)))))))))))
end
end K31
end
section
namespace K31
open PySem L2 Fo Pu Dp
open O31 (Txt top Tabs)
section
variable {P:Program}{w:World}{K:PySem.W.Frag}{mg:Str->Option Value}{base:Heap}
theorem sx (T:Txt mg)(F:FunD K mg "_law_joins" fD ["_law_script","_law_at","_law_many_here","_law_most"])(d__law_numbers:Def P w K mg base 1 "_law_numbers" ["_law_cell_here","_law_many_here"] (bE K (b6 aF)))(d__law_cell:Def P w K mg base 1 "_law_cell" ["_law_script","_law_k"] (bE K (b6 aX))):Def P w K mg base 2 "_law_joins" ["_law_script","_law_at","_law_many_here","_law_most"] (bE K (b6 b7)):=
 bK F sc__law_joins (fun f cdv A outer s H E hr=>(am (ca (aI (i:=4) sc__law_joins.nd rfl (by first|exact Or.inl rfl|exact Or.inr rfl) (DE.ee (ax d__law_numbers hr (af aL (ax d__law_cell hr (af ae (ao (pv 0)) (af ae (ao (pv 1)) ai)) (he:=ae _ _)) (af aR au ai)) (he:=aL _ _)))))
  (am (kg (iQ ai) sc__law_joins.nd rfl (by first|exact Or.inl rfl|exact Or.inr rfl))
  (am (kD aD (io PassesOwn.never rfl (uP (j5 rfl T.n_range (DA.t (af aY (dz (bv (ao (pv 4)) au (fun _ _=>rfl)) (da (ao (pv 3)) au)) ai)))) (ar (i:=6) sc__law_joins.nd rfl (by first|exact Or.inl rfl|exact Or.inr rfl)) (am (ca (aI (i:=7) sc__law_joins.nd rfl (by first|exact Or.inl rfl|exact Or.inr rfl) (DE.ee (FZ (ax d__law_numbers hr (af aL (ax d__law_cell hr (af ae (ao (pv 0)) (af aY (da (da (ao (pv 1)) au) (o6 (ao (pv 6)) au)) ai)) (he:=ae _ _)) (af aR au ai)) (he:=aL _ _)) (wz (kG au (dz (ao (pv 6)) au))) wO))))
  (am (zN (oY (i:=8) (j:=9) rfl sc__law_joins.nd rfl rfl (by decide) rfl rfl (DA.f (af aY (dz (bv (ao (pv 7)) au (fun _ _=>rfl)) (ao (pv 2))) (af aY (dz (bv (ao (pv 7)) au (fun _ _=>rfl)) (ao (pv 2))) ai))) (by rfl)))
  (am (fO (bA (iC hr.units) (dz (bv (ao (pv 4)) au (fun _ _=>rfl)) au) au (aO _)) (aB (zN (oY (i:=8) (j:=9) rfl sc__law_joins.nd rfl rfl (by decide) rfl rfl (DA.f (af aY (dz (ao (pv 6)) (ao (pv 2))) (af aY (dz (da (ao (pv 6)) au) (ao (pv 2))) ai))) (by rfl)))) cx)
  (am (fO (A8 (qY (bA (iC hr.units) (dz (bv (ao (pv 4)) au (fun _ _=>rfl)) au) au (aO _)) (nq (bA Fp (dz (bv (ao (pv 7)) au (fun _ _=>rfl)) au) au (aO _))))) (am (ca (aI (i:=8) sc__law_joins.nd rfl (by first|exact Or.inl rfl|exact Or.inr rfl) (DE.ee (dz (kG (o6 (ao (pv 8)) au) au) (ao (pv 2))))))
  (aB (ca (aI (i:=9) sc__law_joins.nd rfl (by first|exact Or.inl rfl|exact Or.inr rfl) (DE.ee (dE FV Ck (aW (As rfl) rfl T.n_min Kl (DA.t (af aY (IU (ao (pv 2)) au) (af aY (da (ao (pv 8)) au) ai))) (he:=aY _ _)))))))) cx)
  (am (fO (A8 (qY (bA (ra hr.units) (ao (pv 5)) (iQ ai) (aO _)) (nq (bA (iC hr.units) (dz (bv (ao (pv 7)) au (fun _ _=>rfl)) au) au (aO _))))) (aB (jo (gG (aP aD (aP aD gQ))) (bF (DE.ee (bv (ao (pv 5)) (dz (bv (ao (pv 7)) au (fun _ _=>rfl)) (dE jg gP (aW ez rfl T.n_len iH (DA.t (af ae (ao (pv 5)) ai)) (he:=ae _ _)))) (fun _ _=>rfl))) (cN (K:=K) (n:=2) rfl rfl (av (ar (i:=8) sc__law_joins.nd rfl (by first|exact Or.inl rfl|exact Or.inr rfl)) (av (ar (i:=9) sc__law_joins.nd rfl (by first|exact Or.inl rfl|exact Or.inr rfl)) bT)))))) cx)
  (aB (qy (ce (o5 PySem.F.plainAttrs_list PySem.F.slot_list_append PySem.F.type_list_append gd (pv 5) (DA.f (af aN (bv (iQ (af lW (dJ (af ae (ao (pv 8)) (af ae (ao (pv 9)) ai))) (af lW (dJ (af ae (ao (pv 9)) (af ae (ao (pv 8)) ai))) ai))) (dz (o6 (bv (ao (pv 7)) au (fun _ _=>rfl)) au) au) (fun _ _=>rfl)) ai)))))))))))))
  (aB (bG (dE jA iu (aU bh rfl T.n_tuple ci (DA.t (af ae (ao (pv 5)) ai)) (he:=ae _ _)))))))))
theorem lD (T:Txt mg)(F:FunD K mg "with_heads_joined" bM ["store","first","second"])(d_first_stays:Def P w K mg base 1 "first_stays" ["join","marks","first","second"] (bE K (b6 cq)))(d_mark_behind:Def P w K mg base 1 "mark_behind" ["join","top","under"] (bE K (b6 cr))):Def P w K mg base 2 "with_heads_joined" ["store","first","second"] (bE K (b6 bd)):=
 bK F sc_with_heads_joined (fun f cdv A outer s H E hr=>(am (jo (gG (aP aD (aP aD (aP aD (aP aD gQ))))) (bF (DE.ee (ao (pv 0))) (cN (K:=K) (n:=4) rfl rfl (av (ar (i:=3) sc_with_heads_joined.nd rfl (by first|exact Or.inl rfl|exact Or.inr rfl)) (av (ar (i:=4) sc_with_heads_joined.nd rfl (by first|exact Or.inl rfl|exact Or.inr rfl)) (av (ar (i:=5) sc_with_heads_joined.nd rfl (by first|exact Or.inl rfl|exact Or.inr rfl)) (av (ar (i:=6) sc_with_heads_joined.nd rfl (by first|exact Or.inl rfl|exact Or.inr rfl)) bT)))))))
  (am (ca (aI (i:=7) sc_with_heads_joined.nd rfl (by first|exact Or.inl rfl|exact Or.inr rfl) (DE.ee (ax d_first_stays hr (af ae (ao (pv 3)) (af ae (ao (pv 6)) (af ae (ao (pv 1)) (af ae (ao (pv 2)) ai)))) (he:=ae _ _)))))
  (am (jo (gG (aP aD (aP aD gQ))) (bF (DE.ee (Nh (jX (ao (pv 7))) (dJ (af ae (ao (pv 1)) (af ae (ao (pv 2)) ai))) (dJ (af ae (ao (pv 2)) (af ae (ao (pv 1)) ai))))) (cN (K:=K) (n:=2) rfl rfl (av (ar (i:=8) sc_with_heads_joined.nd rfl (by first|exact Or.inl rfl|exact Or.inr rfl)) (av (ar (i:=9) sc_with_heads_joined.nd rfl (by first|exact Or.inl rfl|exact Or.inr rfl)) bT)))))
  (am (kg (ki T.n_list (af ae (ao (pv 5)) ai) (he:=ae _ _)) sc_with_heads_joined.nd rfl (by first|exact Or.inl rfl|exact Or.inr rfl))
  (am (nH (bF (DE.ee (ao (pv 8))) (ii (pv 10) (DE.ee (ao (pv 9))) du)))
  (am (kg (ki T.n_list (af ae (ao (pv 6)) ai) (he:=ae _ _)) sc_with_heads_joined.nd rfl (by first|exact Or.inl rfl|exact Or.inr rfl))
  (am (nH (bF (DE.ee (ax d_mark_behind hr (af ae (ao (pv 3)) (af aN (bv (ao (pv 6)) (ao (pv 8)) (fun _ _=>rfl)) (af aN (bv (ao (pv 6)) (ao (pv 9)) (fun _ _=>rfl)) ai))) (he:=ae _ _))) (ii (pv 11) (DE.ee (ao (pv 8))) du)))
  (aB (bG (dJ (af ae (ao (pv 3)) (af ae (ao (pv 4)) (af aL (dE jA iu (aU bh rfl T.n_tuple ci (DA.t (af ae (ao (pv 10)) ai)) (he:=ae _ _))) (af aL (dE jA iu (aU bh rfl T.n_tuple ci (DA.t (af ae (ao (pv 11)) ai)) (he:=ae _ _))) ai)))))))))))))))
theorem wX (T:Txt mg)(F:FunD K mg "_law_new" ir ["_law_many_here","_law_join","_law_short"]):Def P w K mg base 1 "_law_new" ["_law_many_here","_law_join","_law_short"] (bE K (b6 fk)):=
 bK F xj (fun f cdv A outer s H E hr=>(aB (bG (dJ (af ae (ao (pv 1)) (af ae (ao (pv 2)) (af aL (DM T.n_tuple (af aL (dE x5 um (aU mo rfl T.n_range rG (DA.t (af ae (ao (pv 0)) ai)) (he:=ae _ _))) ai) (he:=aL _ _)) (af aY (kG (dJ (af aL (dE qV nQ (aU jS rfl T.n_int oW (DA.t (af cI (mS (iC hr.units) (ao (pv 1)) eZ (aO _)) ai)) (he:=cI _ _))) ai)) (ao (pv 0))) ai))))))))
end
end K31
end
section
namespace K31
open PySem L2 Fo Pu Dp
open O31 (Txt top Tabs)
section
variable {P:Program}{w:World}{K:PySem.W.Frag}{mg:Str->Option Value}{base:Heap}
theorem sy (T:Txt mg)(F:FunD K mg "_law_drawn" fF ["_law_script","_law_at"])(d__law_numbers:Def P w K mg base 1 "_law_numbers" ["_law_cell_here","_law_many_here"] (bE K (b6 aF)))(d__law_many:Def P w K mg base 1 "_law_many" ["_law_x"] (bE K (b6 dW)))(d__law_cell:Def P w K mg base 1 "_law_cell" ["_law_script","_law_k"] (bE K (b6 aX)))(d__law_joins:Def P w K mg base 2 "_law_joins" ["_law_script","_law_at","_law_many_here","_law_most"] (bE K (b6 b7))):Def P w K mg base 3 "_law_drawn" ["_law_script","_law_at"] (bE K (b6 de)):=
 bK F sc__law_drawn (fun f cdv A outer s H E hr=>(am (ca (aI (i:=2) sc__law_drawn.nd rfl (by first|exact Or.inl rfl|exact Or.inr rfl) (DE.ee (ax d__law_numbers hr (af aL (ax d__law_cell hr (af ae (ao (pv 0)) (af aY (da au (o6 (ao (pv 1)) au)) ai)) (he:=ae _ _)) (af aR au ai)) (he:=aL _ _)))))
  (am (ca (aI (i:=3) sc__law_drawn.nd rfl (by first|exact Or.inl rfl|exact Or.inr rfl) (DE.ee (ax d__law_many hr (af aN (bv (ao (pv 2)) au (fun _ _=>rfl)) ai) (he:=aN _ _)))))
  (aB (bG (dJ (af ae (ao (pv 3)) (af aL (ax d__law_joins hr (af ae (ao (pv 0)) (af ae (ao (pv 1)) (af ae (ao (pv 3)) (af aN (bv (iQ (af aR au (af aR au ai))) (dE qV nQ (aU jS rfl T.n_int oW (DA.t (af cI (mS (iC hr.units) (dz (bv (ao (pv 2)) au (fun _ _=>rfl)) au) au (aO _)) ai)) (he:=cI _ _))) (fun _ _=>rfl)) ai)))) (he:=ae _ _)) ai))))))))
theorem yB (T:Txt mg)(F:FunD K mg "is_pair" i6 ["many","thing"])(d_is_thing:Def P w K mg base 2 "is_thing" ["many","thing"] (bE K (b6 bp))):Def P w K mg base 3 "is_pair" ["many","thing"] (bE K (b6 dn)):=
 bK F xY (fun f cdv A outer s H E hr=>(am (fO (A8 (wv (mf (jX (dE mr lL (aW cV rfl T.n_isinstance bY (DA.t (af ae (ao (pv 1)) (af ae (x9 (nE (p:=.ty "tuple") (nK T.n_tuple ci))) ai))) (he:=ae _ _))))) (t9 (bA (ra hr.units) (dE jg gP (aW ez rfl T.n_len iH (DA.t (af ae (ao (pv 1)) ai)) (he:=ae _ _))) au (aO _))))) (aB (bG wG)) cx)
  (aB (bG (wP (ax d_is_thing hr (af ae (ao (pv 0)) (af aN (bv (ao (pv 1)) au (fun _ _=>rfl)) ai)) (he:=ae _ _)) (wx (ax d_is_thing hr (af ae (ao (pv 0)) (af aN (bv (ao (pv 1)) au (fun _ _=>rfl)) ai)) (he:=ae _ _))))))))
theorem yN (T:Txt mg)(F:FunD K mg "lots_in" i8 ["ups"])(d_way_up:Def P w K mg base 1 "way_up" ["ups","x"] (bE K (b6 eA))):Def P w K mg base 2 "lots_in" ["ups"] (bE K (b6 dD)):=
 B2 F sc_lots_in (fun f cdv A outer s H E hr=>(aS (aI (i:=1) sc_lots_in.nd rfl (by first|exact Or.inl rfl|exact Or.inr rfl) Dy)
  (aS (io PassesOwn.never rfl (j5 rfl T.n_range (aG aL (aW ez rfl T.n_len iH (aG ae (pv 0) cO) (he:=ae _ _)) cO)) (ar (i:=2) sc_lots_in.nd rfl (by first|exact Or.inl rfl|exact Or.inr rfl))
   (aS (aI (i:=3) sc_lots_in.nd rfl (by first|exact Or.inl rfl|exact Or.inr rfl) (jr Es (lh d_way_up hr (aG ae (pv 0) (aG ae (pv 2) cO)) (he:=ae _ _)) (IA Dq mh) (fun _ _=>rfl)))
    (eT (ce (o5 PySem.F.plainAttrs_list PySem.F.slot_list_append PySem.F.type_list_append gd (Ct (pv 1) (pv 3) (Ey cO) ⟨rfl,rfl,rfl,rfl⟩) (aG ae (pv 2) cO))))))
  (eT (jd (ko ["lot"] [none] (Fg (pv 1)) (fun bC bs bH bx=>(ar (i:=0) (show List.Nodup (["lot"]:List Str) by decide +kernel) rfl (by first|exact Or.inl rfl|exact Or.inr rfl))) (fun bC bs bH bx=>zI) (fun bC bs bH bx=>(aU bh rfl T.n_tuple ci (aG ae (pv 0) cO) (he:=ae _ _))) (fZ rfl)))))))
theorem uW (T:Txt mg)(F:FunD K mg "join_done" gl ["store","x","y"])(d_find_done:Def P w K mg base 4 "find_done" ["store","x"] (bE K (b6 cz)))(d_with_heads_joined:Def P w K mg base 2 "with_heads_joined" ["store","first","second"] (bE K (b6 bd))):Def P w K mg base 5 "join_done" ["store","x","y"] (bE K (b6 cX)):=
 bK F sc_join_done (fun f cdv A outer s H E hr=>(am (jo (gG (aP aD (aP aD (aP aD gQ)))) (bF (DE.ee (ax d_find_done hr (af ae (ao (pv 0)) (af ae (ao (pv 1)) ai)) (he:=ae _ _))) (cN (K:=K) (n:=3) rfl rfl (av (ar (i:=3) sc_join_done.nd rfl (by first|exact Or.inl rfl|exact Or.inr rfl)) (av (ar (i:=4) sc_join_done.nd rfl (by first|exact Or.inl rfl|exact Or.inr rfl)) (av (ar (i:=5) sc_join_done.nd rfl (by first|exact Or.inl rfl|exact Or.inr rfl)) bT))))))
  (am (jo (gG (aP aD (aP aD (aP aD gQ)))) (bF (DE.ee (ax d_find_done hr (af ae (ao (pv 3)) (af ae (ao (pv 2)) ai)) (he:=ae _ _))) (cN (K:=K) (n:=3) rfl rfl (av (ar (i:=6) sc_join_done.nd rfl (by first|exact Or.inl rfl|exact Or.inr rfl)) (av (ar (i:=7) sc_join_done.nd rfl (by first|exact Or.inl rfl|exact Or.inr rfl)) (av (ar (i:=8) sc_join_done.nd rfl (by first|exact Or.inl rfl|exact Or.inr rfl)) bT))))))
  (am (ca (aI (i:=9) sc_join_done.nd rfl (by first|exact Or.inl rfl|exact Or.inr rfl) (DE.ee (da (ao (pv 5)) (ao (pv 8))))))
  (am (fO (bA (iC hr.units) (ao (pv 4)) (ao (pv 7)) (aO _)) (aB (bG (dJ (af ae (ao (pv 6)) (af aR wG (af ae (ao (pv 9)) ai)))))) cx)
  (aB (bG (dJ (af aL (ax d_with_heads_joined hr (af ae (ao (pv 6)) (af ae (ao (pv 4)) (af ae (ao (pv 7)) ai))) (he:=ae _ _)) (af aR wG (af ae (ao (pv 9)) ai)))))))))))
theorem rP (T:Txt mg)(F:FunD K mg "_law_linked" eD ["_law_join","_law_ups","_law_marks","_law_one","_law_other"]):Def P w K mg base 1 "_law_linked" ["_law_join","_law_ups","_law_marks","_law_one","_law_other"] (bE K (b6 cu)):=
 bK F sc__law_linked (fun f cdv A outer s H E hr=>(am (C9 (oY (i:=1) (j:=2) rfl sc__law_linked.nd rfl rfl (by decide) rfl rfl (aG aL (DE.nn (ki T.n_list (af ae (ao (pv 1)) ai) (he:=ae _ _))) (aG aL (DE.nn (ki T.n_list (af ae (ao (pv 2)) ai) (he:=ae _ _))) cO)) (by rfl)))
  (am (zN (oY (i:=5) (j:=6) rfl sc__law_linked.nd rfl rfl (by decide) rfl rfl (DA.f (af ae (ao (pv 3)) (af ae (ao (pv 4)) ai))) (by rfl)))
  (am (fO (A8 (wv (A8 (qY (bA (GO hr.units) (ao (pv 0)) (dJ (af aR eZ (af aR eZ ai))) (by with_unfolding_all rfl)) (nq (bA Fp (bv (ao (pv 2)) (ao (pv 4)) (fun _ _=>rfl)) (bv (ao (pv 2)) (ao (pv 3)) (fun _ _=>rfl)) (aO _))))) (t9 (A8 (qY (bA (iC hr.units) (ao (pv 0)) eZ (aO _)) (nq (bA CN (ao (pv 4)) (ao (pv 3)) (aO _)))))))) (aB (zN (oY (i:=5) (j:=6) rfl sc__law_linked.nd rfl rfl (by decide) rfl rfl (DA.f (af ae (ao (pv 4)) (af ae (ao (pv 3)) ai))) (by rfl)))) cx)
  (am (nH (bF (DE.ee (ao (pv 5))) (ii (pv 1) (DE.ee (ao (pv 6))) du)))
  (am (fO (bA (iC hr.units) (ao (pv 0)) eZ (aO _)) (aB (nH (bF (DE.ee (da (bv (ao (pv 2)) (ao (pv 5)) (fun _ _=>rfl)) (bv (ao (pv 2)) (ao (pv 6)) (fun _ _=>rfl)))) (ii (pv 2) (DE.ee (ao (pv 5))) du)))) cx)
  (am (fO (A8 (qY (bA (iC hr.units) (ao (pv 0)) eZ (aO _)) (nq (bA (iC hr.units) (bv (ao (pv 2)) (ao (pv 5)) (fun _ _=>rfl)) (bv (ao (pv 2)) (ao (pv 6)) (fun _ _=>rfl)) (aO _))))) (aB (nH (bF (DE.ee (da (bv (ao (pv 2)) (ao (pv 5)) (fun _ _=>rfl)) au)) (ii (pv 2) (DE.ee (ao (pv 5))) du)))) cx)
  (aB (bG (dJ (af aL (dE jA iu (aU bh rfl T.n_tuple ci (DA.t (af ae (ao (pv 1)) ai)) (he:=ae _ _))) (af aL (dE jA iu (aU bh rfl T.n_tuple ci (DA.t (af ae (ao (pv 2)) ai)) (he:=ae _ _))) ai))))))))))))
end
end K31
end
section
namespace K31
open PySem L2 Fo Pu Dp
open O31 (Txt top Tabs)
section
variable {P:Program}{w:World}{K:PySem.W.Frag}{mg:Str->Option Value}{base:Heap}
theorem pj (T:Txt mg)(F:FunD K mg "_law_lots_by" dI ["_law_many_here","_law_pairs"]):Def P w K mg base 1 "_law_lots_by" ["_law_many_here","_law_pairs"] (bE K (b6 b9)):=
 bK F sc__law_lots_by (fun f cdv A outer s H E hr=>(am (JG aD (xh (i:=2) ["_law_x"] [none] sc__law_lots_by.nd (uP (j5 rfl T.n_range (DA.t (af ae (ao (pv 0)) ai)))) (fun bC bs bH bx=>(ar (i:=0) (show List.Nodup (["_law_x"]:List Str) by decide +kernel) rfl (by first|exact Or.inl rfl|exact Or.inr rfl))) (fun bC bs bH bx=>u6) (fun bC bs bH bx=>DE.ee (dJ (af ae (ao (pv 0)) ai))) (fZ rfl)))
  (am (kD (gG (aP aD (aP aD gQ))) (io PassesOwn.never rfl (kC (ao (pv 1))) (cN (K:=K) (n:=2) rfl rfl (av (ar (i:=3) sc__law_lots_by.nd rfl (by first|exact Or.inl rfl|exact Or.inr rfl)) (av (ar (i:=4) sc__law_lots_by.nd rfl (by first|exact Or.inl rfl|exact Or.inr rfl)) bT))) (am (ca (aI (i:=5) sc__law_lots_by.nd rfl (by first|exact Or.inl rfl|exact Or.inr rfl) (DE.ee (bv (qw aD (ko ["_law_lot","_law_x"] [none,some 3] (kC (ao (pv 2))) (fun bC bs bH bx=>(ar (i:=0) (show List.Nodup (["_law_lot","_law_x"]:List Str) by decide +kernel) rfl (by first|exact Or.inl rfl|exact Or.inr rfl))) (fun bC bs bH bx=>(xV (bA (GO hr.units) (ao (pv 1)) (ao (pv 0)) (by with_unfolding_all rfl)))) (fun bC bs bH bx=>DE.ee (ao (pv 0))) (fZ rfl))) au (fun _ _=>rfl)))))
  (am (ca (aI (i:=6) sc__law_lots_by.nd rfl (by first|exact Or.inl rfl|exact Or.inr rfl) (DE.ee (bv (qw aD (ko ["_law_lot","_law_y"] [none,some 4] (kC (ao (pv 2))) (fun bC bs bH bx=>(ar (i:=0) (show List.Nodup (["_law_lot","_law_y"]:List Str) by decide +kernel) rfl (by first|exact Or.inl rfl|exact Or.inr rfl))) (fun bC bs bH bx=>(xV (bA (GO hr.units) (ao (pv 1)) (ao (pv 0)) (by with_unfolding_all rfl)))) (fun bC bs bH bx=>DE.ee (ao (pv 0))) (fZ rfl))) au (fun _ _=>rfl)))))
  (aB (fO (bA (ra hr.units) (ao (pv 5)) (ao (pv 6)) (aO _)) (aB (ca (aI (i:=2) sc__law_lots_by.nd rfl (by first|exact Or.inl rfl|exact Or.inr rfl) (DE.ee (da (qw aD (ko ["_law_lot","_law_one","_law_other"] [none,some 5,some 6] (kC (ao (pv 2))) (fun bC bs bH bx=>(ar (i:=0) (show List.Nodup (["_law_lot","_law_one","_law_other"]:List Str) by decide +kernel) rfl (by first|exact Or.inl rfl|exact Or.inr rfl))) (fun bC bs bH bx=>(xV (bA (FF hr.units) (ao (pv 0)) (dJ (af ae (ao (pv 1)) (af ae (ao (pv 2)) ai))) (by with_unfolding_all rfl)))) (fun bC bs bH bx=>DE.ee (ao (pv 0))) (fZ rfl))) (iQ (af aL (dE jA iu (aU bh rfl T.n_tuple ci (DA.t (af aL (Nn yM Bb (aW uZ rfl T.n_sorted tJ (DA.t (af aY (da (ao (pv 5)) (ao (pv 6))) ai)) (he:=aY _ _))) ai)) (he:=aL _ _))) ai))))))) cx))))))
  (aB (bG (Nn yX za (aW ux rfl T.n_sorted tJ (DA.t (af ae (ao (pv 2)) ai)) (he:=ae _ _))))))))
theorem sH (T:Txt mg)(F:FunD K mg "check_join" fI ["join"])(d_is_way_of_joining:Def P w K mg base 1 "is_way_of_joining" ["thing"] (bE K (b6 bc))):Def P w K mg base 2 "check_join" ["join"] (bE K (b6 d5)):=
 bK F sg (fun f cdv A outer s H E hr=>(aB (fO (mf (jX (ax d_is_way_of_joining hr (af ae (ao (pv 0)) ai) (he:=ae _ _)))) (aB qN) cx)))
theorem uC (T:Txt mg)(F:FunD K mg "find_done" gq ["store","x"])(d_find_in:Def P w K mg base 3 "find_in" ["ups","short","x"] (bE K (b6 gf)))(d_copied:Def P w K mg base 1 "copied" ["numbers"] (bE K (b6 iy))):Def P w K mg base 4 "find_done" ["store","x"] (bE K (b6 cz)):=
 bK F sc_find_done (fun f cdv A outer s H E hr=>(am (jo (gG (aP aD (aP aD (aP aD (aP aD gQ))))) (bF (DE.ee (ao (pv 0))) (cN (K:=K) (n:=4) rfl rfl (av (ar (i:=2) sc_find_done.nd rfl (by first|exact Or.inl rfl|exact Or.inr rfl)) (av (ar (i:=3) sc_find_done.nd rfl (by first|exact Or.inl rfl|exact Or.inr rfl)) (av (ar (i:=4) sc_find_done.nd rfl (by first|exact Or.inl rfl|exact Or.inr rfl)) (av (ar (i:=5) sc_find_done.nd rfl (by first|exact Or.inl rfl|exact Or.inr rfl)) bT)))))))
  (am (jo (gG (aP aD (aP aD (aP aD gQ)))) (bF (DE.ee (ax d_find_in hr (af ae (ao (pv 4)) (af ae (ao (pv 3)) (af ae (ao (pv 1)) ai))) (he:=ae _ _))) (cN (K:=K) (n:=3) rfl rfl (av (ar (i:=6) sc_find_done.nd rfl (by first|exact Or.inl rfl|exact Or.inr rfl)) (av (ar (i:=7) sc_find_done.nd rfl (by first|exact Or.inl rfl|exact Or.inr rfl)) (av (ar (i:=8) sc_find_done.nd rfl (by first|exact Or.inl rfl|exact Or.inr rfl)) bT))))))
  (aB (bG (dJ (af lW (dJ (af ae (ao (pv 2)) (af ae (ao (pv 3)) (af ae (ao (pv 7)) (af aL (ax d_copied hr (af ae (ao (pv 5)) ai) (he:=ae _ _)) ai))))) (af ae (ao (pv 6)) (af ae (ao (pv 8)) ai)))))))))
theorem vd (T:Txt mg)(F:FunD K mg "forest_at" gb ["many","row","moment"])(d_forest_and_times:Def P w K mg base 6 "forest_and_times" ["many","row"] (bE K (b6 aQ))):Def P w K mg base 7 "forest_at" ["many","row","moment"] (bE K (b6 dP)):=
 bK F ul (fun f cdv A outer s H E hr=>(aB (bG (bv (ax d_forest_and_times hr (af ae (ao (pv 0)) (af aN (zY (ao (pv 1)) wO (wz (ao (pv 2)))) ai)) (he:=ae _ _)) au (fun _ _=>rfl)))))
theorem ue (T:Txt mg)(F:FunD K mg "_law_find" gi ["_law_ups","_law_short","_law_x"])(d__law_way:Def P w K mg base 1 "_law_way" ["_law_ups","_law_x"] (bE K (b6 cF))):Def P w K mg base 2 "_law_find" ["_law_ups","_law_short","_law_x"] (bE K (b6 cn)):=
 bK F sc__law_find (fun f cdv A outer s H E hr=>(am (kg (ki T.n_list (af ae (ao (pv 0)) ai) (he:=ae _ _)) sc__law_find.nd rfl (by first|exact Or.inl rfl|exact Or.inr rfl))
  (am (ca (aI (i:=3) sc__law_find.nd rfl (by first|exact Or.inl rfl|exact Or.inr rfl) (DE.ee (ax d__law_way hr (af ae (ao (pv 0)) (af ae (ao (pv 2)) ai)) (he:=ae _ _)))))
  (am (ca (aI (i:=4) sc__law_find.nd rfl (by first|exact Or.inl rfl|exact Or.inr rfl) (DE.ee (bv (ao (pv 3)) (oh au) (fun _ _=>rfl)))))
  (am (fO (A8 (wv (bA (iC hr.units) (ao (pv 1)) eZ (aO _)) (wv (bA (iC hr.units) (ao (pv 1)) eZ (aO _)) (t9 (bA (iC hr.units) (ao (pv 1)) eZ (aO _)))))) (am (fO (bA (iC hr.units) (ao (pv 1)) eZ (aO _)) (aB (kD aD (io PassesOwn.never rfl (kC (ao (pv 3))) (ar (i:=5) sc__law_find.nd rfl (by first|exact Or.inl rfl|exact Or.inr rfl)) (aB (nH (bF (DE.ee (ao (pv 4))) (ii (pv 0) (DE.ee (ao (pv 5))) du))))))) cx)
  (am (fO (bA (iC hr.units) (ao (pv 1)) eZ (aO _)) (aB (nH (bF (DE.ee (bv (ao (pv 0)) (bv (ao (pv 0)) (ao (pv 2)) (fun _ _=>rfl)) (fun _ _=>rfl))) (ii (pv 0) (DE.ee (ao (pv 2))) du)))) cx)
  (aB (bG (dJ (af ae (ao (pv 4)) (af aL (dE jA iu (aU bh rfl T.n_tuple ci (DA.t (af ae (ao (pv 0)) ai)) (he:=ae _ _))) (af aY (IU (dE jg gP (aW ez rfl T.n_len iH (DA.t (af ae (ao (pv 3)) ai)) (he:=ae _ _))) au) ai)))))))) cx)
  (am (ca (aI (i:=6) sc__law_find.nd rfl (by first|exact Or.inl rfl|exact Or.inr rfl) (DE.ee au)))
  (am (ca (aI (i:=7) sc__law_find.nd rfl (by first|exact Or.inl rfl|exact Or.inr rfl) (DE.ee (ao (pv 2)))))
  (am (u7 (ji PassesOwn.never (bA (ra hr.units) (bv (ao (pv 0)) (ao (pv 7)) (fun _ _=>rfl)) (ao (pv 7)) (aO _)) (am (ca (aI (i:=8) sc__law_find.nd rfl (by first|exact Or.inl rfl|exact Or.inr rfl) (DE.ee (bv (ao (pv 0)) (ao (pv 7)) (fun _ _=>rfl)))))
  (am (nH (bF (DE.ee (bv (ao (pv 0)) (ao (pv 8)) (fun _ _=>rfl))) (ii (pv 0) (DE.ee (ao (pv 7))) du)))
  (am (ca (aI (i:=7) sc__law_find.nd rfl (by first|exact Or.inl rfl|exact Or.inr rfl) (DE.ee (bv (iQ (af ae (ao (pv 8)) (af aN (bv (ao (pv 0)) (ao (pv 7)) (fun _ _=>rfl)) ai))) (dE qV nQ (aU jS rfl T.n_int oW (DA.t (af cI (mS (iC hr.units) (ao (pv 1)) eZ (aO _)) ai)) (he:=cI _ _))) (fun _ _=>rfl)))))
  (aB (ca (aI (i:=6) sc__law_find.nd rfl (by first|exact Or.inl rfl|exact Or.inr rfl) (DE.ee (da (ao (pv 6)) au))))))))))
  (aB (bG (dJ (af ae (ao (pv 4)) (af aL (dE jA iu (aU bh rfl T.n_tuple ci (DA.t (af ae (ao (pv 0)) ai)) (he:=ae _ _))) (af ae (ao (pv 6)) ai))))))))))))))
end
end K31
end
section
namespace K31
open PySem L2 Fo Pu Dp
open O31 (Txt top Tabs)
section
variable {P:Program}{w:World}{K:PySem.W.Frag}{mg:Str->Option Value}{base:Heap}
theorem EG (T:Txt mg){f:Addr}{cdv:Value}{A:Around}{outer:List Env}{s:Shared}{H:Hp}{vs:List V}{Q:VK}{E:XK}(hr:Room 9 (A.deeper (PyProof.Rows.envOfC "law" (ag nB) s.heap.objs.size f cdv)))(h:t6 K vs H Q E){a_is_pair:Addr}(d__law_drawn:Def P w K mg base 3 "_law_drawn" ["_law_script","_law_at"] (bE K (b6 de)))(d__law_numbers:Def P w K mg base 1 "_law_numbers" ["_law_cell_here","_law_many_here"] (bE K (b6 aF)))(d__law_cell:Def P w K mg base 1 "_law_cell" ["_law_script","_law_k"] (bE K (b6 aX)))(d__law_moment_right:Def P w K mg base 9 "_law_moment_right" ["_law_many_here","_law_row","_law_moment","_law_xs"] (bE K (b6 (bP a_is_pair)))) :
  ∃t,PSs (nN xM P w K mg base ["_law_script","_law_at","_law_many_here","_law_row","_law_xs","_law_moments","_law_moment"] "law" (ag nB) f cdv A outer s H E).nox (aw nB) t/\t { nx:=fun _ H'=>Q .non H',rt:=Q } (L2.bz ["_law_script","_law_at","_law_many_here","_law_row","_law_xs","_law_moments","_law_moment"] vs) H:=
 JU (N:=["_law_script","_law_at","_law_many_here","_law_row","_law_xs","_law_moments","_law_moment"]) (X:=(nN xM P w K mg base ["_law_script","_law_at","_law_many_here","_law_row","_law_xs","_law_moments","_law_moment"] "law" (ag nB) f cdv A outer s H E).nox) (am (kD aD (io PassesOwn.never rfl (kC (iQ (af aR au (af aR au ai)))) (ar (i:=1) sc_law.nd rfl (by first|exact Or.inl rfl|exact Or.inr rfl)) (am (jo (gG (aP aD (aP aD gQ))) (bF (DE.ee (ax d__law_drawn hr (af ae (ao (pv 0)) (af ae (ao (pv 1)) ai)) (he:=ae _ _))) (cN (K:=K) (n:=2) rfl rfl (av (ar (i:=2) sc_law.nd rfl (by first|exact Or.inl rfl|exact Or.inr rfl)) (av (ar (i:=3) sc_law.nd rfl (by first|exact Or.inl rfl|exact Or.inr rfl)) bT)))))
  (am (ca (aI (i:=4) sc_law.nd rfl (by first|exact Or.inl rfl|exact Or.inr rfl) (DE.ee (ax d__law_numbers hr (af aL (ax d__law_cell hr (af ae (ao (pv 0)) (af aY (da au (o6 (ao (pv 1)) au)) ai)) (he:=ae _ _)) (af aR au ai)) (he:=aL _ _)))))
  (am (ca (aI (i:=5) sc_law.nd rfl (by first|exact Or.inl rfl|exact Or.inr rfl) (DE.ee (ki T.n_list (af aL (dE x5 um (aU mo rfl T.n_range rG (DA.t (af aY (da (dE jg gP (aW ez rfl T.n_len iH (DA.t (af ae (ao (pv 3)) ai)) (he:=ae _ _))) au) ai)) (he:=aY _ _))) ai) (he:=aL _ _)))))
  (am (fO (bA Fp (dE jg gP (aW ez rfl T.n_len iH (DA.t (af ae (ao (pv 5)) ai)) (he:=ae _ _))) au (aO _)) (aB (ca (aI (i:=5) sc_law.nd rfl (by first|exact Or.inl rfl|exact Or.inr rfl) (DE.ee (da (iQ (af aR au (af aL (dE jg gP (aW ez rfl T.n_len iH (DA.t (af ae (ao (pv 3)) ai)) (he:=ae _ _))) ai))) (qw aD (ko ["_law_x","_law_row"] [none,some 3] (kC (FZ (ao (pv 4)) (wz au) wO)) (fun bC bs bH bx=>(ar (i:=0) (show List.Nodup (["_law_x","_law_row"]:List Str) by decide +kernel) rfl (by first|exact Or.inl rfl|exact Or.inr rfl))) (fun bC bs bH bx=>u6) (fun bC bs bH bx=>DE.ee (dz (ao (pv 0)) (da (dE jg gP (aW ez rfl T.n_len iH (DA.t (af ae (ao (pv 1)) ai)) (he:=ae _ _))) au))) (fZ rfl)))))))) cx)
  (aB (kD aD (io PassesOwn.never rfl (kC (ao (pv 5))) (ar (i:=6) sc_law.nd rfl (by first|exact Or.inl rfl|exact Or.inr rfl)) (aB (fO (mf (jX (ax d__law_moment_right hr (af ae (ao (pv 2)) (af ae (ao (pv 3)) (af ae (ao (pv 6)) (af ae (ao (pv 4)) ai)))) (he:=ae _ _)))) (aB (bG wG)) cx)))))))))))
  (aB (bG wG))) h BW
end
end K31
end
section
namespace K31
open PySem L2 Fo Pu Dp
open O31 (Txt top Tabs)
@[elab_as_elim] theorem pI {P:List Value->Prop}{us:List Value}(h:us.length=1)(k:∀a,P [a]):P us:=by
 obtain _|⟨_,us⟩:=us
 ·cases h
 obtain _|⟨_,us⟩:=us
 ·exact k _
 ·simp at h
@[elab_as_elim] theorem ja {P:List Value->Prop}{us:List Value}(h:us.length=2)(k:∀a b,P [a,b]):P us:=by
 obtain _|⟨_,us⟩:=us
 ·cases h
 obtain _|⟨_,us⟩:=us
 ·cases h
 obtain _|⟨_,us⟩:=us
 ·exact k _ _
 ·simp at h
@[elab_as_elim] theorem sJ {P:List Value->Prop}{us:List Value}(h:us.length=3)(k:∀a b c,P [a,b,c]):P us:=by
 obtain _|⟨_,us⟩:=us
 ·cases h
 obtain _|⟨_,us⟩:=us
 ·cases h
 obtain _|⟨_,us⟩:=us
 ·cases h
 obtain _|⟨_,us⟩:=us
 ·exact k _ _ _
 ·simp at h
@[elab_as_elim] theorem Hm {P:List Value->Prop}{us:List Value}(h:us.length=4)(k:∀a b c d,P [a,b,c,d]):P us:=by
 obtain _|⟨_,us⟩:=us
 ·cases h
 obtain _|⟨_,us⟩:=us
 ·cases h
 obtain _|⟨_,us⟩:=us
 ·cases h
 obtain _|⟨_,us⟩:=us
 ·cases h
 obtain _|⟨_,us⟩:=us
 ·exact k _ _ _ _
 ·simp at h
@[elab_as_elim] theorem Pl {P:List Value->Prop}{us:List Value}(h:us.length=5)(k:∀a b c d e,P [a,b,c,d,e]):P us:=by
 obtain _|⟨_,us⟩:=us
 ·cases h
 obtain _|⟨_,us⟩:=us
 ·cases h
 obtain _|⟨_,us⟩:=us
 ·cases h
 obtain _|⟨_,us⟩:=us
 ·cases h
 obtain _|⟨_,us⟩:=us
 ·cases h
 obtain _|⟨_,us⟩:=us
 ·exact k _ _ _ _ _
 ·simp at h
theorem Ks {l:PySem.W.OpenLaw}{w:World}{K:PySem.W.Frag}{h:Heap}{mg:Str->Option Value}{fa f0 f1 f2 f3 f4 f5 f6 f7 f8 f9 f10 f11 f12 f13 f14 f15 f16 f17 f18 f19 f20 f21 f22 f23 f24 f25 f26 f27 f28 f29 f30 f31 f32 f33 f34 f35 f36 f37 f38 f39 f40 f41 f42 f43 f44 f45 f46 f47 f48:Addr}(X:K.In h)(G:h.Ns mainGlobals mg)(hfa:mg "law" = some (.ref fa))
  {od0 an0 od1 an1 od2 an2 od3 an3 od4 an4 od5 an5 od6 an6 od7 an7 od8 an8 od9 an9 od10 an10 od11 an11 od12 an12 od13 an13 od14 an14 od15 an15 od16 an16 od17 an17 od18 an18 od19 an19 od20 an20 od21 an21 od22 an22 od23 an23 od24 an24 od25 an25 od26 an26 od27 an27 od28 an28 od29 an29 od30 an30 od31 an31 od32 an32 od33 an33 od34 an34 od35 an35 od36 an36 od37 an37 od38 an38 od39 an39 od40 an40 od41 an41 od42 an42 od43 an43 od44 an44 od45 an45 od46 an46 od47 an47 od48 an48:Option Addr} {sl0 sl1 sl2 sl3 sl4 sl5 sl6 sl7 sl8 sl9 sl10 sl11 sl12 sl13 sl14 sl15 sl16 sl17 sl18 sl19 sl20 sl21 sl22 sl23 sl24 sl25 sl26 sl27 sl28 sl29 sl30 sl31 sl32 sl33 sl34 sl35 sl36 sl37 sl38 sl39 sl40 sl41 sl42 sl43 sl44 sl45 sl46 sl47 sl48:Array (Option Value)} {oc0 kV0 dc0 pm0 cd0 ct0 oc1 kV1 dc1 pm1 cd1 ct1 oc2 kV2 dc2 pm2 cd2 ct2 oc3 kV3 dc3 pm3 cd3 ct3 oc4 kV4 dc4 pm4 cd4 ct4 oc5 kV5 dc5 pm5 cd5 ct5 oc6 kV6 dc6 pm6 cd6 ct6 oc7 kV7 dc7 pm7 cd7 ct7 oc8 kV8 dc8 pm8 cd8 ct8 oc9 kV9 dc9 pm9 cd9 ct9 oc10 kV10 dc10 pm10 cd10 ct10 oc11 kV11 dc11 pm11 cd11 ct11 oc12 kV12 dc12 pm12 cd12 ct12 oc13 kV13 dc13 pm13 cd13 ct13 oc14 kV14 dc14 pm14 cd14 ct14 oc15 kV15 dc15 pm15 cd15 ct15 oc16 kV16 dc16 pm16 cd16 ct16 oc17 kV17 dc17 pm17 cd17 ct17 oc18 kV18 dc18 pm18 cd18 ct18 oc19 kV19 dc19 pm19 cd19 ct19 oc20 kV20 dc20 pm20 cd20 ct20 oc21 kV21 dc21 pm21 cd21 ct21 oc22 kV22 dc22 pm22 cd22 ct22 oc23 kV23 dc23 pm23 cd23 ct23 oc24 kV24 dc24 pm24 cd24 ct24 oc25 kV25 dc25 pm25 cd25 ct25 oc26 kV26 dc26 pm26 cd26 ct26 oc27 kV27 dc27 pm27 cd27 ct27 oc28 kV28 dc28 pm28 cd28 ct28 oc29 kV29 dc29 pm29 cd29 ct29 oc30 kV30 dc30 pm30 cd30 ct30 oc31 kV31 dc31 pm31 cd31 ct31 oc32 kV32 dc32 pm32 cd32 ct32 oc33 kV33 dc33 pm33 cd33 ct33 oc34 kV34 dc34 pm34 cd34 ct34 oc35 kV35 dc35 pm35 cd35 ct35 oc36 kV36 dc36 pm36 cd36 ct36 oc37 kV37 dc37 pm37 cd37 ct37 oc38 kV38 dc38 pm38 cd38 ct38 oc39 kV39 dc39 pm39 cd39 ct39 oc40 kV40 dc40 pm40 cd40 ct40 oc41 kV41 dc41 pm41 cd41 ct41 oc42 kV42 dc42 pm42 cd42 ct42 oc43 kV43 dc43 pm43 cd43 ct43 oc44 kV44 dc44 pm44 cd44 ct44 oc45 kV45 dc45 pm45 cd45 ct45 oc46 kV46 dc46 pm46 cd46 ct46 oc47 kV47 dc47 pm47 cd47 ct47 oc48 kV48 dc48 pm48 cd48 ct48:Value}
  (a0:PySem.W.nsIn K mainGlobals "find_none" = some (some (.ref f0))) (l0:K.lookup f0=some ⟨oc0,od0,.func (PySem.W.fnOf "find_none" "find_none" (aA dX) (aw dX) (ag dX) .none kV0 dc0 pm0 an0 cd0 ct0),sl0⟩) (c0:PySem.W.codeIn K cd0 "find_none" = true) (k0:PySem.W.keepIn K (.ref f0)=true)
  (a1:PySem.W.nsIn K mainGlobals "find_whole" = some (some (.ref f1))) (l1:K.lookup f1=some ⟨oc1,od1,.func (PySem.W.fnOf "find_whole" "find_whole" (aA cW) (aw cW) (ag cW) .none kV1 dc1 pm1 an1 cd1 ct1),sl1⟩) (c1:PySem.W.codeIn K cd1 "find_whole" = true) (k1:PySem.W.keepIn K (.ref f1)=true)
  (a2:PySem.W.nsIn K mainGlobals "find_halves" = some (some (.ref f2))) (l2:K.lookup f2=some ⟨oc2,od2,.func (PySem.W.fnOf "find_halves" "find_halves" (aA cv) (aw cv) (ag cv) .none kV2 dc2 pm2 an2 cd2 ct2),sl2⟩) (c2:PySem.W.codeIn K cd2 "find_halves" = true) (k2:PySem.W.keepIn K (.ref f2)=true)
  (a3:PySem.W.nsIn K mainGlobals "find_splits" = some (some (.ref f3))) (l3:K.lookup f3=some ⟨oc3,od3,.func (PySem.W.fnOf "find_splits" "find_splits" (aA cp) (aw cp) (ag cp) .none kV3 dc3 pm3 an3 cd3 ct3),sl3⟩) (c3:PySem.W.codeIn K cd3 "find_splits" = true) (k3:PySem.W.keepIn K (.ref f3)=true)
  (a4:PySem.W.nsIn K mainGlobals "find_one" = some (some (.ref f4))) (l4:K.lookup f4=some ⟨oc4,od4,.func (PySem.W.fnOf "find_one" "find_one" (aA eX) (aw eX) (ag eX) .none kV4 dc4 pm4 an4 cd4 ct4),sl4⟩) (c4:PySem.W.codeIn K cd4 "find_one" = true) (k4:PySem.W.keepIn K (.ref f4)=true)
  (a5:PySem.W.nsIn K mainGlobals "_law_numbers" = some (some (.ref f5))) (l5:K.lookup f5=some ⟨oc5,od5,.func (PySem.W.fnOf "_law_numbers" "_law_numbers" (aA di) (aw di) (ag di) .none kV5 dc5 pm5 an5 cd5 ct5),sl5⟩) (c5:PySem.W.codeIn K cd5 "_law_numbers" = true) (k5:PySem.W.keepIn K (.ref f5)=true)
  (a6:PySem.W.nsIn K mainGlobals "_law_many" = some (some (.ref f6))) (l6:K.lookup f6=some ⟨oc6,od6,.func (PySem.W.fnOf "_law_many" "_law_many" (aA gz) (aw gz) (ag gz) .none kV6 dc6 pm6 an6 cd6 ct6),sl6⟩) (c6:PySem.W.codeIn K cd6 "_law_many" = true) (k6:PySem.W.keepIn K (.ref f6)=true)
  (a7:PySem.W.nsIn K mainGlobals "_law_cell" = some (some (.ref f7))) (l7:K.lookup f7=some ⟨oc7,od7,.func (PySem.W.fnOf "_law_cell" "_law_cell" (aA gv) (aw gv) (ag gv) .none kV7 dc7 pm7 an7 cd7 ct7),sl7⟩) (c7:PySem.W.codeIn K cd7 "_law_cell" = true) (k7:PySem.W.keepIn K (.ref f7)=true)
  (a8:PySem.W.nsIn K mainGlobals "_law_joins" = some (some (.ref f8))) (l8:K.lookup f8=some ⟨oc8,od8,.func (PySem.W.fnOf "_law_joins" "_law_joins" (aA fD) (aw fD) (ag fD) .none kV8 dc8 pm8 an8 cd8 ct8),sl8⟩) (c8:PySem.W.codeIn K cd8 "_law_joins" = true) (k8:PySem.W.keepIn K (.ref f8)=true)
  (a9:PySem.W.nsIn K mainGlobals "_law_drawn" = some (some (.ref f9))) (l9:K.lookup f9=some ⟨oc9,od9,.func (PySem.W.fnOf "_law_drawn" "_law_drawn" (aA fF) (aw fF) (ag fF) .none kV9 dc9 pm9 an9 cd9 ct9),sl9⟩) (c9:PySem.W.codeIn K cd9 "_law_drawn" = true) (k9:PySem.W.keepIn K (.ref f9)=true)
  (a10:PySem.W.nsIn K mainGlobals "_law_lots_by" = some (some (.ref f10))) (l10:K.lookup f10=some ⟨oc10,od10,.func (PySem.W.fnOf "_law_lots_by" "_law_lots_by" (aA dI) (aw dI) (ag dI) .none kV10 dc10 pm10 an10 cd10 ct10),sl10⟩) (c10:PySem.W.codeIn K cd10 "_law_lots_by" = true) (k10:PySem.W.keepIn K (.ref f10)=true)
  (a11:PySem.W.nsIn K mainGlobals "is_whole" = some (some (.ref f11))) (l11:K.lookup f11=some ⟨oc11,od11,.func (PySem.W.fnOf "is_whole" "is_whole" (aA ip) (aw ip) (ag ip) .none kV11 dc11 pm11 an11 cd11 ct11),sl11⟩) (c11:PySem.W.codeIn K cd11 "is_whole" = true) (k11:PySem.W.keepIn K (.ref f11)=true)
  (a12:PySem.W.nsIn K mainGlobals "is_many" = some (some (.ref f12))) (l12:K.lookup f12=some ⟨oc12,od12,.func (PySem.W.fnOf "is_many" "is_many" (aA iZ) (aw iZ) (ag iZ) .none kV12 dc12 pm12 an12 cd12 ct12),sl12⟩) (c12:PySem.W.codeIn K cd12 "is_many" = true) (k12:PySem.W.keepIn K (.ref f12)=true)
  (a13:PySem.W.nsIn K mainGlobals "check_many" = some (some (.ref f13))) (l13:K.lookup f13=some ⟨oc13,od13,.func (PySem.W.fnOf "check_many" "check_many" (aA fH) (aw fH) (ag fH) .none kV13 dc13 pm13 an13 cd13 ct13),sl13⟩) (c13:PySem.W.codeIn K cd13 "check_many" = true) (k13:PySem.W.keepIn K (.ref f13)=true)
  (a14:PySem.W.nsIn K mainGlobals "check_row" = some (some (.ref f14))) (l14:K.lookup f14=some ⟨oc14,od14,.func (PySem.W.fnOf "check_row" "check_row" (aA gt) (aw gt) (ag gt) .none kV14 dc14 pm14 an14 cd14 ct14),sl14⟩) (c14:PySem.W.codeIn K cd14 "check_row" = true) (k14:PySem.W.keepIn K (.ref f14)=true)
  (a15:PySem.W.nsIn K mainGlobals "is_thing" = some (some (.ref f15))) (l15:K.lookup f15=some ⟨oc15,od15,.func (PySem.W.fnOf "is_thing" "is_thing" (aA hZ) (aw hZ) (ag hZ) .none kV15 dc15 pm15 an15 cd15 ct15),sl15⟩) (c15:PySem.W.codeIn K cd15 "is_thing" = true) (k15:PySem.W.keepIn K (.ref f15)=true)
  (a16:PySem.W.nsIn K mainGlobals "is_pair" = some (some (.ref f16))) (l16:K.lookup f16=some ⟨oc16,od16,.func (PySem.W.fnOf "is_pair" "is_pair" (aA i6) (aw i6) (ag i6) .none kV16 dc16 pm16 an16 cd16 ct16),sl16⟩) (c16:PySem.W.codeIn K cd16 "is_pair" = true) (k16:PySem.W.keepIn K (.ref f16)=true)
  (a17:PySem.W.nsIn K mainGlobals "check_joins" = some (some (.ref f17))) (l17:K.lookup f17=some ⟨oc17,od17,.func (PySem.W.fnOf "check_joins" "check_joins" (aA eC) (aw eC) (ag eC) .none kV17 dc17 pm17 an17 cd17 ct17),sl17⟩) (c17:PySem.W.codeIn K cd17 "check_joins" = true) (k17:PySem.W.keepIn K (.ref f17)=true)
  (a18:PySem.W.nsIn K mainGlobals "check_many_and_row" = some (some (.ref f18))) (l18:K.lookup f18=some ⟨oc18,od18,.func (PySem.W.fnOf "check_many_and_row" "check_many_and_row" (aA bD) (aw bD) (ag bD) .none kV18 dc18 pm18 an18 cd18 ct18),sl18⟩) (c18:PySem.W.codeIn K cd18 "check_many_and_row" = true) (k18:PySem.W.keepIn K (.ref f18)=true)
  (a19:PySem.W.nsIn K mainGlobals "check_moment" = some (some (.ref f19))) (l19:K.lookup f19=some ⟨oc19,od19,.func (PySem.W.fnOf "check_moment" "check_moment" (aA dG) (aw dG) (ag dG) .none kV19 dc19 pm19 an19 cd19 ct19),sl19⟩) (c19:PySem.W.codeIn K cd19 "check_moment" = true) (k19:PySem.W.keepIn K (.ref f19)=true)
  (a20:PySem.W.nsIn K mainGlobals "way_up" = some (some (.ref f20))) (l20:K.lookup f20=some ⟨oc20,od20,.func (PySem.W.fnOf "way_up" "way_up" (aA ka) (aw ka) (ag ka) .none kV20 dc20 pm20 an20 cd20 ct20),sl20⟩) (c20:PySem.W.codeIn K cd20 "way_up" = true) (k20:PySem.W.keepIn K (.ref f20)=true)
  (a21:PySem.W.nsIn K mainGlobals "lots_in" = some (some (.ref f21))) (l21:K.lookup f21=some ⟨oc21,od21,.func (PySem.W.fnOf "lots_in" "lots_in" (aA i8) (aw i8) (ag i8) .none kV21 dc21 pm21 an21 cd21 ct21),sl21⟩) (c21:PySem.W.codeIn K cd21 "lots_in" = true) (k21:PySem.W.keepIn K (.ref f21)=true)
  (a22:PySem.W.nsIn K mainGlobals "is_way_of_joining" = some (some (.ref f22))) (l22:K.lookup f22=some ⟨oc22,od22,.func (PySem.W.fnOf "is_way_of_joining" "is_way_of_joining" (aA bO) (aw bO) (ag bO) .none kV22 dc22 pm22 an22 cd22 ct22),sl22⟩) (c22:PySem.W.codeIn K cd22 "is_way_of_joining" = true) (k22:PySem.W.keepIn K (.ref f22)=true)
  (a23:PySem.W.nsIn K mainGlobals "check_join" = some (some (.ref f23))) (l23:K.lookup f23=some ⟨oc23,od23,.func (PySem.W.fnOf "check_join" "check_join" (aA fI) (aw fI) (ag fI) .none kV23 dc23 pm23 an23 cd23 ct23),sl23⟩) (c23:PySem.W.codeIn K cd23 "check_join" = true) (k23:PySem.W.keepIn K (.ref f23)=true)
  (a24:PySem.W.nsIn K mainGlobals "is_short" = some (some (.ref f24))) (l24:K.lookup f24=some ⟨oc24,od24,.func (PySem.W.fnOf "is_short" "is_short" (aA fe) (aw fe) (ag fe) .none kV24 dc24 pm24 an24 cd24 ct24),sl24⟩) (c24:PySem.W.codeIn K cd24 "is_short" = true) (k24:PySem.W.keepIn K (.ref f24)=true)
  (a25:PySem.W.nsIn K mainGlobals "check_short" = some (some (.ref f25))) (l25:K.lookup f25=some ⟨oc25,od25,.func (PySem.W.fnOf "check_short" "check_short" (aA eF) (aw eF) (ag eF) .none kV25 dc25 pm25 an25 cd25 ct25),sl25⟩) (c25:PySem.W.codeIn K cd25 "check_short" = true) (k25:PySem.W.keepIn K (.ref f25)=true)
  (a26:PySem.W.nsIn K mainGlobals "new_store" = some (some (.ref f26))) (l26:K.lookup f26=some ⟨oc26,od26,.func (PySem.W.fnOf "new_store" "new_store" (aA gw) (aw gw) (ag gw) .none kV26 dc26 pm26 an26 cd26 ct26),sl26⟩) (c26:PySem.W.codeIn K cd26 "new_store" = true) (k26:PySem.W.keepIn K (.ref f26)=true)
  (a27:PySem.W.nsIn K mainGlobals "find_in" = some (some (.ref f27))) (l27:K.lookup f27=some ⟨oc27,od27,.func (PySem.W.fnOf "find_in" "find_in" (aA gu) (aw gu) (ag gu) .none kV27 dc27 pm27 an27 cd27 ct27),sl27⟩) (c27:PySem.W.codeIn K cd27 "find_in" = true) (k27:PySem.W.keepIn K (.ref f27)=true)
  (a28:PySem.W.nsIn K mainGlobals "copied" = some (some (.ref f28))) (l28:K.lookup f28=some ⟨oc28,od28,.func (PySem.W.fnOf "copied" "copied" (aA kb) (aw kb) (ag kb) .none kV28 dc28 pm28 an28 cd28 ct28),sl28⟩) (c28:PySem.W.codeIn K cd28 "copied" = true) (k28:PySem.W.keepIn K (.ref f28)=true)
  (a29:PySem.W.nsIn K mainGlobals "find_done" = some (some (.ref f29))) (l29:K.lookup f29=some ⟨oc29,od29,.func (PySem.W.fnOf "find_done" "find_done" (aA gq) (aw gq) (ag gq) .none kV29 dc29 pm29 an29 cd29 ct29),sl29⟩) (c29:PySem.W.codeIn K cd29 "find_done" = true) (k29:PySem.W.keepIn K (.ref f29)=true)
  (a30:PySem.W.nsIn K mainGlobals "first_stays" = some (some (.ref f30))) (l30:K.lookup f30=some ⟨oc30,od30,.func (PySem.W.fnOf "first_stays" "first_stays" (aA eB) (aw eB) (ag eB) .none kV30 dc30 pm30 an30 cd30 ct30),sl30⟩) (c30:PySem.W.codeIn K cd30 "first_stays" = true) (k30:PySem.W.keepIn K (.ref f30)=true)
  (a31:PySem.W.nsIn K mainGlobals "mark_behind" = some (some (.ref f31))) (l31:K.lookup f31=some ⟨oc31,od31,.func (PySem.W.fnOf "mark_behind" "mark_behind" (aA eG) (aw eG) (ag eG) .none kV31 dc31 pm31 an31 cd31 ct31),sl31⟩) (c31:PySem.W.codeIn K cd31 "mark_behind" = true) (k31:PySem.W.keepIn K (.ref f31)=true)
  (a32:PySem.W.nsIn K mainGlobals "with_heads_joined" = some (some (.ref f32))) (l32:K.lookup f32=some ⟨oc32,od32,.func (PySem.W.fnOf "with_heads_joined" "with_heads_joined" (aA bM) (aw bM) (ag bM) .none kV32 dc32 pm32 an32 cd32 ct32),sl32⟩) (c32:PySem.W.codeIn K cd32 "with_heads_joined" = true) (k32:PySem.W.keepIn K (.ref f32)=true)
  (a33:PySem.W.nsIn K mainGlobals "join_done" = some (some (.ref f33))) (l33:K.lookup f33=some ⟨oc33,od33,.func (PySem.W.fnOf "join_done" "join_done" (aA gl) (aw gl) (ag gl) .none kV33 dc33 pm33 an33 cd33 ct33),sl33⟩) (c33:PySem.W.codeIn K cd33 "join_done" = true) (k33:PySem.W.keepIn K (.ref f33)=true)
  (a34:PySem.W.nsIn K mainGlobals "forest_and_times" = some (some (.ref f34))) (l34:K.lookup f34=some ⟨oc34,od34,.func (PySem.W.fnOf "forest_and_times" "forest_and_times" (aA bW) (aw bW) (ag bW) .none kV34 dc34 pm34 an34 cd34 ct34),sl34⟩) (c34:PySem.W.codeIn K cd34 "forest_and_times" = true) (k34:PySem.W.keepIn K (.ref f34)=true)
  (a35:PySem.W.nsIn K mainGlobals "lots_by" = some (some (.ref f35))) (l35:K.lookup f35=some ⟨oc35,od35,.func (PySem.W.fnOf "lots_by" "lots_by" (aA i5) (aw i5) (ag i5) .none kV35 dc35 pm35 an35 cd35 ct35),sl35⟩) (c35:PySem.W.codeIn K cd35 "lots_by" = true) (k35:PySem.W.keepIn K (.ref f35)=true)
  (a36:PySem.W.nsIn K mainGlobals "lots_at" = some (some (.ref f36))) (l36:K.lookup f36=some ⟨oc36,od36,.func (PySem.W.fnOf "lots_at" "lots_at" (aA i7) (aw i7) (ag i7) .none kV36 dc36 pm36 an36 cd36 ct36),sl36⟩) (c36:PySem.W.codeIn K cd36 "lots_at" = true) (k36:PySem.W.keepIn K (.ref f36)=true)
  (a37:PySem.W.nsIn K mainGlobals "check_thing" = some (some (.ref f37))) (l37:K.lookup f37=some ⟨oc37,od37,.func (PySem.W.fnOf "check_thing" "check_thing" (aA eE) (aw eE) (ag eE) .none kV37 dc37 pm37 an37 cd37 ct37),sl37⟩) (c37:PySem.W.codeIn K cd37 "check_thing" = true) (k37:PySem.W.keepIn K (.ref f37)=true)
  (a38:PySem.W.nsIn K mainGlobals "forest_at" = some (some (.ref f38))) (l38:K.lookup f38=some ⟨oc38,od38,.func (PySem.W.fnOf "forest_at" "forest_at" (aA gb) (aw gb) (ag gb) .none kV38 dc38 pm38 an38 cd38 ct38),sl38⟩) (c38:PySem.W.codeIn K cd38 "forest_at" = true) (k38:PySem.W.keepIn K (.ref f38)=true)
  (a39:PySem.W.nsIn K mainGlobals "head_at" = some (some (.ref f39))) (l39:K.lookup f39=some ⟨oc39,od39,.func (PySem.W.fnOf "head_at" "head_at" (aA i4) (aw i4) (ag i4) .none kV39 dc39 pm39 an39 cd39 ct39),sl39⟩) (c39:PySem.W.codeIn K cd39 "head_at" = true) (k39:PySem.W.keepIn K (.ref f39)=true)
  (a40:PySem.W.nsIn K mainGlobals "_law_way" = some (some (.ref f40))) (l40:K.lookup f40=some ⟨oc40,od40,.func (PySem.W.fnOf "_law_way" "_law_way" (aA iq) (aw iq) (ag iq) .none kV40 dc40 pm40 an40 cd40 ct40),sl40⟩) (c40:PySem.W.codeIn K cd40 "_law_way" = true) (k40:PySem.W.keepIn K (.ref f40)=true)
  (a41:PySem.W.nsIn K mainGlobals "_law_find" = some (some (.ref f41))) (l41:K.lookup f41=some ⟨oc41,od41,.func (PySem.W.fnOf "_law_find" "_law_find" (aA gi) (aw gi) (ag gi) .none kV41 dc41 pm41 an41 cd41 ct41),sl41⟩) (c41:PySem.W.codeIn K cd41 "_law_find" = true) (k41:PySem.W.keepIn K (.ref f41)=true)
  (a42:PySem.W.nsIn K mainGlobals "_law_linked" = some (some (.ref f42))) (l42:K.lookup f42=some ⟨oc42,od42,.func (PySem.W.fnOf "_law_linked" "_law_linked" (aA eD) (aw eD) (ag eD) .none kV42 dc42 pm42 an42 cd42 ct42),sl42⟩) (c42:PySem.W.codeIn K cd42 "_law_linked" = true) (k42:PySem.W.keepIn K (.ref f42)=true)
  (a43:PySem.W.nsIn K mainGlobals "_law_deed" = some (some (.ref f43))) (l43:K.lookup f43=some ⟨oc43,od43,.func (PySem.W.fnOf "_law_deed" "_law_deed" (aA gy) (aw gy) (ag gy) .none kV43 dc43 pm43 an43 cd43 ct43),sl43⟩) (c43:PySem.W.codeIn K cd43 "_law_deed" = true) (k43:PySem.W.keepIn K (.ref f43)=true)
  (a44:PySem.W.nsIn K mainGlobals "_law_run" = some (some (.ref f44))) (l44:K.lookup f44=some ⟨oc44,od44,.func (PySem.W.fnOf "_law_run" "_law_run" (aA hX) (aw hX) (ag hX) .none kV44 dc44 pm44 an44 cd44 ct44),sl44⟩) (c44:PySem.W.codeIn K cd44 "_law_run" = true) (k44:PySem.W.keepIn K (.ref f44)=true)
  (a45:PySem.W.nsIn K mainGlobals "_law_new" = some (some (.ref f45))) (l45:K.lookup f45=some ⟨oc45,od45,.func (PySem.W.fnOf "_law_new" "_law_new" (aA ir) (aw ir) (ag ir) .none kV45 dc45 pm45 an45 cd45 ct45),sl45⟩) (c45:PySem.W.codeIn K cd45 "_law_new" = true) (k45:PySem.W.keepIn K (.ref f45)=true)
  (a46:PySem.W.nsIn K mainGlobals "_law_head" = some (some (.ref f46))) (l46:K.lookup f46=some ⟨oc46,od46,.func (PySem.W.fnOf "_law_head" "_law_head" (aA gA) (aw gA) (ag gA) .none kV46 dc46 pm46 an46 cd46 ct46),sl46⟩) (c46:PySem.W.codeIn K cd46 "_law_head" = true) (k46:PySem.W.keepIn K (.ref f46)=true)
  (a47:PySem.W.nsIn K mainGlobals "_law_moment_right" = some (some (.ref f47))) (l47:K.lookup f47=some ⟨oc47,od47,.func (PySem.W.fnOf "_law_moment_right" "_law_moment_right" (aA bN) (aw bN) (ag bN) .none kV47 dc47 pm47 an47 cd47 ct47),sl47⟩) (c47:PySem.W.codeIn K cd47 "_law_moment_right" = true) (k47:PySem.W.keepIn K (.ref f47)=true)
  (a48:PySem.W.nsIn K mainGlobals "law" = some (some (.ref f48))) (l48:K.lookup f48=some ⟨oc48,od48,.func (PySem.W.fnOf "law" "law" (aA nB) (aw nB) (ag nB) .none kV48 dc48 pm48 an48 cd48 ct48),sl48⟩) (c48:PySem.W.codeIn K cd48 "law" = true) (k48:PySem.W.keepIn K (.ref f48)=true)
  (z_abs:PySem.W.nsIn K mainGlobals "abs" = some none)
  (z_all:PySem.W.nsIn K mainGlobals "all" = some none)
  (z_bool:PySem.W.nsIn K mainGlobals "bool" = some none)
  (z_enumerate:PySem.W.nsIn K mainGlobals "enumerate" = some none)
  (z_int:PySem.W.nsIn K mainGlobals "int" = some none)
  (z_isinstance:PySem.W.nsIn K mainGlobals "isinstance" = some none)
  (z_len:PySem.W.nsIn K mainGlobals "len" = some none)
  (z_list:PySem.W.nsIn K mainGlobals "list" = some none)
  (z_min:PySem.W.nsIn K mainGlobals "min" = some none)
  (z_range:PySem.W.nsIn K mainGlobals "range" = some none)
  (z_sorted:PySem.W.nsIn K mainGlobals "sorted" = some none)
  (z_str:PySem.W.nsIn K mainGlobals "str" = some none)
  (z_tuple:PySem.W.nsIn K mainGlobals "tuple" = some none)
  {tk_MOST_THINGS:Tok}
  (y_MOST_THINGS:PySem.W.nsIn K mainGlobals "MOST_THINGS" = some (some (.int 40 tk_MOST_THINGS)))
  {aM:Addr} {u0 u1 u2 u3 u4:Tok} (y_tab:PySem.W.nsIn K mainGlobals "MANNERS" = some (some (.ref aM)))
  (y_lay:K.lookup aM=some ⟨.type "dict",none,.dict #[⟨PyData.keyHash w.params "none",.str "none" u0,.ref f0⟩,⟨PyData.keyHash w.params "whole",.str "whole" u1,.ref f1⟩,⟨PyData.keyHash w.params "halves",.str "halves" u2,.ref f2⟩,⟨PyData.keyHash w.params "splits",.str "splits" u3,.ref f3⟩,⟨PyData.keyHash w.params "one",.str "one" u4,.ref f4⟩] 5,#[]⟩) (y_sys:(aM==sysModules)=false)
  {aK0:Addr} {oK0:Option Addr} {nK0:Nat} {sK0:Array (Option Value)} {tK0_0 tK0_1 tK0_2 tK0_3:Tok} (yk0:PySem.W.nsIn K mainGlobals "JOINS" = some (some (.ref aK0)))
  (lk0:K.lookup aK0=some ⟨.type "tuple",oK0,.seq #[.str "size" tK0_0,.str "rank" tK0_1,.str "told" tK0_2,.str "names" tK0_3] nK0,sK0⟩)
  : ∃fd:FuncData,(∀(s:Shared) (u:Value),BindsTo s fd ⟨[u],[]⟩ [("_law_script",u)])/\∀base:Heap,K.In base/\base.Ns mainGlobals mg->FnOk l.prog w K mg base xM 10 fa fd ["_law_script"] (t6 K):=by
 have T:Txt mg:=⟨PySem.W.mg_none_of X G z_abs,PySem.W.mg_none_of X G z_all,PySem.W.mg_none_of X G z_bool,PySem.W.mg_none_of X G z_enumerate,PySem.W.mg_none_of X G z_int,PySem.W.mg_none_of X G z_isinstance,PySem.W.mg_none_of X G z_len,PySem.W.mg_none_of X G z_list,PySem.W.mg_none_of X G z_min,PySem.W.mg_none_of X G z_range,PySem.W.mg_none_of X G z_sorted,PySem.W.mg_none_of X G z_str,PySem.W.mg_none_of X G z_tuple,⟨_,PySem.W.mg_of X G y_MOST_THINGS⟩⟩
 have TM:Tabs w K mg aM [("none",f0),("whole",f1),("halves",f2),("splits",f3),("one",f4)]:=⟨PySem.W.mg_of X G y_tab,⟨y_sys,(show List.Nodup (["none","whole","halves","splits","one"]:List Str) by decide +kernel),_,_,y_lay,.cons (.cons (.cons (.cons (.cons (.nil)))))⟩⟩
 have TK:Kon w K mg:=⟨⟨aK0,PySem.W.mg_of X G yk0,Gf lk0 (.str (.str (.str (.str .nil)))) (show 4≤sizeLine by decide)⟩⟩
 have F_find_none:FunD K mg "find_none" dX ["ups","x"]:=aE l0 c0 k0 (PySem.W.mg_of X G a0) fun _ _ _ _ _ _ us hl=>ja hl fun _ _=>rfl
 have F_find_whole:FunD K mg "find_whole" cW ["ups","x"]:=aE l1 c1 k1 (PySem.W.mg_of X G a1) fun _ _ _ _ _ _ us hl=>ja hl fun _ _=>rfl
 have F_find_halves:FunD K mg "find_halves" cv ["ups","x"]:=aE l2 c2 k2 (PySem.W.mg_of X G a2) fun _ _ _ _ _ _ us hl=>ja hl fun _ _=>rfl
 have F_find_splits:FunD K mg "find_splits" cp ["ups","x"]:=aE l3 c3 k3 (PySem.W.mg_of X G a3) fun _ _ _ _ _ _ us hl=>ja hl fun _ _=>rfl
 have F_find_one:FunD K mg "find_one" eX ["ups","x"]:=aE l4 c4 k4 (PySem.W.mg_of X G a4) fun _ _ _ _ _ _ us hl=>ja hl fun _ _=>rfl
 have aF:FunD K mg "_law_numbers" di ["_law_cell_here","_law_many_here"]:=aE l5 c5 k5 (PySem.W.mg_of X G a5) fun _ _ _ _ _ _ us hl=>ja hl fun _ _=>rfl
 have dW:FunD K mg "_law_many" gz ["_law_x"]:=aE l6 c6 k6 (PySem.W.mg_of X G a6) fun _ _ _ _ _ _ us hl=>pI hl fun _=>rfl
 have aX:FunD K mg "_law_cell" gv ["_law_script","_law_k"]:=aE l7 c7 k7 (PySem.W.mg_of X G a7) fun _ _ _ _ _ _ us hl=>ja hl fun _ _=>rfl
 have b7:FunD K mg "_law_joins" fD ["_law_script","_law_at","_law_many_here","_law_most"]:=aE l8 c8 k8 (PySem.W.mg_of X G a8) fun _ _ _ _ _ _ us hl=>Hm hl fun _ _ _ _=>rfl
 have de:FunD K mg "_law_drawn" fF ["_law_script","_law_at"]:=aE l9 c9 k9 (PySem.W.mg_of X G a9) fun _ _ _ _ _ _ us hl=>ja hl fun _ _=>rfl
 have b9:FunD K mg "_law_lots_by" dI ["_law_many_here","_law_pairs"]:=aE l10 c10 k10 (PySem.W.mg_of X G a10) fun _ _ _ _ _ _ us hl=>ja hl fun _ _=>rfl
 have cG:FunD K mg "is_whole" ip ["thing"]:=aE l11 c11 k11 (PySem.W.mg_of X G a11) fun _ _ _ _ _ _ us hl=>pI hl fun _=>rfl
 have fE:FunD K mg "is_many" iZ ["thing"]:=aE l12 c12 k12 (PySem.W.mg_of X G a12) fun _ _ _ _ _ _ us hl=>pI hl fun _=>rfl
 have b5:FunD K mg "check_many" fH ["many"]:=aE l13 c13 k13 (PySem.W.mg_of X G a13) fun _ _ _ _ _ _ us hl=>pI hl fun _=>rfl
 have dZ:FunD K mg "check_row" gt ["many","row","is_right"]:=aE l14 c14 k14 (PySem.W.mg_of X G a14) fun _ _ _ _ _ _ us hl=>sJ hl fun _ _ _=>rfl
 have bp:FunD K mg "is_thing" hZ ["many","thing"]:=aE l15 c15 k15 (PySem.W.mg_of X G a15) fun _ _ _ _ _ _ us hl=>ja hl fun _ _=>rfl
 have dn:FunD K mg "is_pair" i6 ["many","thing"]:=aE l16 c16 k16 (PySem.W.mg_of X G a16) fun _ _ _ _ _ _ us hl=>ja hl fun _ _=>rfl
 have cs:FunD K mg "check_joins" eC ["many","row"]:=aE l17 c17 k17 (PySem.W.mg_of X G a17) fun _ _ _ _ _ _ us hl=>ja hl fun _ _=>rfl
 have aJ:FunD K mg "check_many_and_row" bD ["many","row"]:=aE l18 c18 k18 (PySem.W.mg_of X G a18) fun _ _ _ _ _ _ us hl=>ja hl fun _ _=>rfl
 have bg:FunD K mg "check_moment" dG ["row","moment"]:=aE l19 c19 k19 (PySem.W.mg_of X G a19) fun _ _ _ _ _ _ us hl=>ja hl fun _ _=>rfl
 have eA:FunD K mg "way_up" ka ["ups","x"]:=aE l20 c20 k20 (PySem.W.mg_of X G a20) fun _ _ _ _ _ _ us hl=>ja hl fun _ _=>rfl
 have dD:FunD K mg "lots_in" i8 ["ups"]:=aE l21 c21 k21 (PySem.W.mg_of X G a21) fun _ _ _ _ _ _ us hl=>pI hl fun _=>rfl
 have bc:FunD K mg "is_way_of_joining" bO ["thing"]:=aE l22 c22 k22 (PySem.W.mg_of X G a22) fun _ _ _ _ _ _ us hl=>pI hl fun _=>rfl
 have d5:FunD K mg "check_join" fI ["join"]:=aE l23 c23 k23 (PySem.W.mg_of X G a23) fun _ _ _ _ _ _ us hl=>pI hl fun _=>rfl
 have fo:FunD K mg "is_short" fe ["thing"]:=aE l24 c24 k24 (PySem.W.mg_of X G a24) fun _ _ _ _ _ _ us hl=>pI hl fun _=>rfl
 have cy:FunD K mg "check_short" eF ["short"]:=aE l25 c25 k25 (PySem.W.mg_of X G a25) fun _ _ _ _ _ _ us hl=>pI hl fun _=>rfl
 have dY:FunD K mg "new_store" gw ["many","join","short"]:=aE l26 c26 k26 (PySem.W.mg_of X G a26) fun _ _ _ _ _ _ us hl=>sJ hl fun _ _ _=>rfl
 have gf:FunD K mg "find_in" gu ["ups","short","x"]:=aE l27 c27 k27 (PySem.W.mg_of X G a27) fun _ _ _ _ _ _ us hl=>sJ hl fun _ _ _=>rfl
 have iy:FunD K mg "copied" kb ["numbers"]:=aE l28 c28 k28 (PySem.W.mg_of X G a28) fun _ _ _ _ _ _ us hl=>pI hl fun _=>rfl
 have cz:FunD K mg "find_done" gq ["store","x"]:=aE l29 c29 k29 (PySem.W.mg_of X G a29) fun _ _ _ _ _ _ us hl=>ja hl fun _ _=>rfl
 have cq:FunD K mg "first_stays" eB ["join","marks","first","second"]:=aE l30 c30 k30 (PySem.W.mg_of X G a30) fun _ _ _ _ _ _ us hl=>Hm hl fun _ _ _ _=>rfl
 have cr:FunD K mg "mark_behind" eG ["join","top","under"]:=aE l31 c31 k31 (PySem.W.mg_of X G a31) fun _ _ _ _ _ _ us hl=>sJ hl fun _ _ _=>rfl
 have bd:FunD K mg "with_heads_joined" bM ["store","first","second"]:=aE l32 c32 k32 (PySem.W.mg_of X G a32) fun _ _ _ _ _ _ us hl=>sJ hl fun _ _ _=>rfl
 have cX:FunD K mg "join_done" gl ["store","x","y"]:=aE l33 c33 k33 (PySem.W.mg_of X G a33) fun _ _ _ _ _ _ us hl=>sJ hl fun _ _ _=>rfl
 have aQ:FunD K mg "forest_and_times" bW ["many","row"]:=aE l34 c34 k34 (PySem.W.mg_of X G a34) fun _ _ _ _ _ _ us hl=>ja hl fun _ _=>rfl
 have gh:FunD K mg "lots_by" i5 ["many","row"]:=aE l35 c35 k35 (PySem.W.mg_of X G a35) fun _ _ _ _ _ _ us hl=>ja hl fun _ _=>rfl
 have eI:FunD K mg "lots_at" i7 ["many","row","moment"]:=aE l36 c36 k36 (PySem.W.mg_of X G a36) fun _ _ _ _ _ _ us hl=>sJ hl fun _ _ _=>rfl
 have cw:FunD K mg "check_thing" eE ["many","x"]:=aE l37 c37 k37 (PySem.W.mg_of X G a37) fun _ _ _ _ _ _ us hl=>ja hl fun _ _=>rfl
 have dP:FunD K mg "forest_at" gb ["many","row","moment"]:=aE l38 c38 k38 (PySem.W.mg_of X G a38) fun _ _ _ _ _ _ us hl=>sJ hl fun _ _ _=>rfl
 have gn:FunD K mg "head_at" i4 ["many","row","moment","x"]:=aE l39 c39 k39 (PySem.W.mg_of X G a39) fun _ _ _ _ _ _ us hl=>Hm hl fun _ _ _ _=>rfl
 have cF:FunD K mg "_law_way" iq ["_law_ups","_law_x"]:=aE l40 c40 k40 (PySem.W.mg_of X G a40) fun _ _ _ _ _ _ us hl=>ja hl fun _ _=>rfl
 have cn:FunD K mg "_law_find" gi ["_law_ups","_law_short","_law_x"]:=aE l41 c41 k41 (PySem.W.mg_of X G a41) fun _ _ _ _ _ _ us hl=>sJ hl fun _ _ _=>rfl
 have cu:FunD K mg "_law_linked" eD ["_law_join","_law_ups","_law_marks","_law_one","_law_other"]:=aE l42 c42 k42 (PySem.W.mg_of X G a42) fun _ _ _ _ _ _ us hl=>Pl hl fun _ _ _ _ _=>rfl
 have cS:FunD K mg "_law_deed" gy ["_law_store","_law_deed_here"]:=aE l43 c43 k43 (PySem.W.mg_of X G a43) fun _ _ _ _ _ _ us hl=>ja hl fun _ _=>rfl
 have fu:FunD K mg "_law_run" hX ["_law_store","_law_row"]:=aE l44 c44 k44 (PySem.W.mg_of X G a44) fun _ _ _ _ _ _ us hl=>ja hl fun _ _=>rfl
 have fk:FunD K mg "_law_new" ir ["_law_many_here","_law_join","_law_short"]:=aE l45 c45 k45 (PySem.W.mg_of X G a45) fun _ _ _ _ _ _ us hl=>sJ hl fun _ _ _=>rfl
 have F__law_head:FunD K mg "_law_head" gA ["_law_ups","_law_x"]:=aE l46 c46 k46 (PySem.W.mg_of X G a46) fun _ _ _ _ _ _ us hl=>ja hl fun _ _=>rfl
 have F__law_moment_right:FunD K mg "_law_moment_right" bN ["_law_many_here","_law_row","_law_moment","_law_xs"]:=aE l47 c47 k47 (PySem.W.mg_of X G a47) fun _ _ _ _ _ _ us hl=>Hm hl fun _ _ _ _=>rfl
 have F_law:FunD K mg "law" nB ["_law_script"]:=aE l48 c48 k48 (PySem.W.mg_of X G a48) fun _ _ _ _ _ _ us hl=>pI hl fun _=>rfl
 refine FunD.top (R:=fun base=>K.In base/\base.Ns mainGlobals mg) F_law hfa sc_law (fun vs H Q E h=>by obtain⟨a,ns,rfl,_⟩:=h;rfl) fun base hb f cdv A outer s H vs Q E hr h=>?_
 have D_find_none:=O31.uJ (P:=l.prog) (w:=w) (base:=base) T F_find_none
 have D_find_whole:=O31.sA T F_find_whole D_find_none
 have D_find_halves:=O31.qh (P:=l.prog) (w:=w) (base:=base) T F_find_halves
 have D_find_splits:=O31.rK (P:=l.prog) (w:=w) (base:=base) T F_find_splits
 have D_find_one:=O31.wA T F_find_one D_find_none
 have D_L:=O31.wc (D_find_none.at (PySem.W.mg_of X G a0)) (D_find_whole.at (PySem.W.mg_of X G a1)) (D_find_halves.at (PySem.W.mg_of X G a2)) (D_find_splits.at (PySem.W.mg_of X G a3)) (D_find_one.at (PySem.W.mg_of X G a4))
 have D_find_in:=Dp.yR (O31.x8 (O31.pc _ _ _ _ _) (O31.yA (P:=l.prog) (w:=w) (base:=base) T TM gf D_L))
 have D_is_short:=Dp.wm (O31.xL (O31.pc _ _ _ _ _) (O31.wk (P:=l.prog) (w:=w) (base:=base) T TM fo))
 have D__law_numbers:=pz (P:=l.prog) (w:=w) (base:=base) T aF
 have D__law_many:=vN (P:=l.prog) (w:=w) (base:=base) T dW
 have D__law_cell:=vw (P:=l.prog) (w:=w) (base:=base) T aX
 have D__law_joins:=sx (P:=l.prog) (w:=w) (base:=base) T b7 D__law_numbers D__law_cell
 have D__law_drawn:=sy (P:=l.prog) (w:=w) (base:=base) T de D__law_numbers D__law_many D__law_cell D__law_joins
 have D__law_lots_by:=pj (P:=l.prog) (w:=w) (base:=base) T b9
 have D_is_whole:=wn (P:=l.prog) (w:=w) (base:=base) T cG
 have D_is_many:=yL (P:=l.prog) (w:=w) (base:=base) T fE D_is_whole
 have D_check_many:=ss (P:=l.prog) (w:=w) (base:=base) T b5 D_is_many
 have D_is_thing:=vU (P:=l.prog) (w:=w) (base:=base) T bp D_is_whole
 have D_is_pair:=yB (P:=l.prog) (w:=w) (base:=base) T dn D_is_thing
 have D_check_row_OF_is_pair:=uY (P:=l.prog) (w:=w) (base:=base) T dZ (t:=[(f16,Dp.dn)]) (fun z G1 hz=>by obtain⟨hz1,hz2⟩:=Mi hz;subst hz1 hz2;exact D_is_pair.at (PySem.W.mg_of X G a16))
 have D_check_joins:=rp (P:=l.prog) (w:=w) (base:=base) T cs (PySem.W.mg_of X G a16) D_check_row_OF_is_pair
 have D_check_many_and_row:=kY (P:=l.prog) (w:=w) (base:=base) T aJ D_check_many D_check_joins
 have D_check_moment:=pw (P:=l.prog) (w:=w) (base:=base) T bg D_is_thing
 have D_way_up:=BE (P:=l.prog) (w:=w) (base:=base) T eA
 have D_lots_in:=yN (P:=l.prog) (w:=w) (base:=base) T dD D_way_up
 have D_is_way_of_joining:=lP (P:=l.prog) (w:=w) (base:=base) T TK bc
 have D_check_join:=sH (P:=l.prog) (w:=w) (base:=base) T d5 D_is_way_of_joining
 have D_check_short:=rl (P:=l.prog) (w:=w) (base:=base) T cy D_is_short
 have D_new_store:=uA (P:=l.prog) (w:=w) (base:=base) T dY D_check_many D_check_join D_check_short
 have D_copied:=Bf (P:=l.prog) (w:=w) (base:=base) T iy
 have D_find_done:=uC (P:=l.prog) (w:=w) (base:=base) T cz D_find_in D_copied
 have D_first_stays:=pZ (P:=l.prog) (w:=w) (base:=base) T cq
 have D_mark_behind:=p9 (P:=l.prog) (w:=w) (base:=base) T cr
 have D_with_heads_joined:=lD (P:=l.prog) (w:=w) (base:=base) T bd D_first_stays D_mark_behind
 have D_join_done:=uW (P:=l.prog) (w:=w) (base:=base) T cX D_find_done D_with_heads_joined
 have D_forest_and_times:=mO (P:=l.prog) (w:=w) (base:=base) T aQ D_new_store D_join_done
 have D_lots_by:=yx (P:=l.prog) (w:=w) (base:=base) T gh D_lots_in D_forest_and_times
 have D_lots_at:=yY (P:=l.prog) (w:=w) (base:=base) T eI D_check_many_and_row D_check_moment D_lots_by
 have D_check_thing:=rR (P:=l.prog) (w:=w) (base:=base) T cw D_is_thing
 have D_forest_at:=vd (P:=l.prog) (w:=w) (base:=base) T dP D_forest_and_times
 have D_head_at:=yU (P:=l.prog) (w:=w) (base:=base) T gn D_check_many_and_row D_check_moment D_check_thing D_way_up D_forest_at
 have D__law_way:=wd (P:=l.prog) (w:=w) (base:=base) T cF
 have D__law_find:=ue (P:=l.prog) (w:=w) (base:=base) T cn D__law_way
 have D__law_linked:=rP (P:=l.prog) (w:=w) (base:=base) T cu
 have D__law_deed:=vx (P:=l.prog) (w:=w) (base:=base) T cS D__law_find D__law_linked
 have D__law_run:=wK (P:=l.prog) (w:=w) (base:=base) T fu D__law_deed
 have D__law_new:=wX (P:=l.prog) (w:=w) (base:=base) T fk
 have D__law_head:=vD (P:=l.prog) (w:=w) (base:=base) T F__law_head D__law_way
 have D__law_moment_right:=lU (P:=l.prog) (w:=w) (base:=base) T F__law_moment_right D__law_lots_by D_lots_at D_head_at D__law_run D__law_new D__law_head
 exact EG T hr h D__law_drawn D__law_numbers D__law_cell D__law_moment_right
end K31
def PySem.W.Fast.tw4080166712732378114 : Unit := ()
def PySem.W.Fast.tw1764593188991054772 : Unit := ()
def PySem.W.Fast.tw18200268232598439524 : Unit := ()
def PySem.W.Fast.tw2162999755804930164 : Unit := ()
def PySem.W.Fast.tw7385654503572829616 : Unit := ()
def PySem.W.Fast.tw671634132987625359 : Unit := ()
def PySem.W.Fast.tw9759217161243501704 : Unit := ()
def PySem.W.Fast.tw9352306228191233329 : Unit := ()
def PySem.W.Fast.tw5891707179447178443 : Unit := ()
def PySem.W.Fast.tw16631679637219371847 : Unit := ()
def PySem.W.Fast.tw11430060326758254423 : Unit := ()
def PySem.W.Fast.tw8366281836271021650 : Unit := ()
def PySem.W.Fast.tw13034266962653120135 : Unit := ()
def PySem.W.Fast.tw686242979145394125 : Unit := ()
def PySem.W.Fast.tw2356083755251363325 : Unit := ()
def PySem.W.Fast.tw16069158872428933616 : Unit := ()
open PySem PySem.W PyProof.Rows
set_option maxRecDepth 100000 in
set_option maxHeartbeats 0 in
theorem PySem.Challenge.cw_lotheads_k31_heads_and_lots_at_moments_holds : PySem.Challenge.rw_lotheads_k31_heads_and_lots_at_moments.Holds := by
 w_on;o_law;k_head;(case hw=>w_witness2)
 k_fill
 refine Pu.Ou (k:=10) (by decide) (l:=PySem.Challenge.rw_lotheads_k31_heads_and_lots_at_moments) rfl rfl (fun w h Y=>PySem.W.kIn_of Y) ?F
 case F=>
  intro w mg fa h KX G hmg
  refine' K31.Ks KX G hmg ?a0 ?l0 ?c0 ?k0 ?a1 ?l1 ?c1 ?k1 ?a2 ?l2 ?c2 ?k2 ?a3 ?l3 ?c3 ?k3 ?a4 ?l4 ?c4 ?k4 ?a5 ?l5 ?c5 ?k5 ?a6 ?l6 ?c6 ?k6 ?a7 ?l7 ?c7 ?k7 ?a8 ?l8 ?c8 ?k8 ?a9 ?l9 ?c9 ?k9 ?a10 ?l10 ?c10 ?k10 ?a11 ?l11 ?c11 ?k11 ?a12 ?l12 ?c12 ?k12 ?a13 ?l13 ?c13 ?k13 ?a14 ?l14 ?c14 ?k14 ?a15 ?l15 ?c15 ?k15 ?a16 ?l16 ?c16 ?k16 ?a17 ?l17 ?c17 ?k17 ?a18 ?l18 ?c18 ?k18 ?a19 ?l19 ?c19 ?k19 ?a20 ?l20 ?c20 ?k20 ?a21 ?l21 ?c21 ?k21 ?a22 ?l22 ?c22 ?k22 ?a23 ?l23 ?c23 ?k23 ?a24 ?l24 ?c24 ?k24 ?a25 ?l25 ?c25 ?k25 ?a26 ?l26 ?c26 ?k26 ?a27 ?l27 ?c27 ?k27 ?a28 ?l28 ?c28 ?k28 ?a29 ?l29 ?c29 ?k29 ?a30 ?l30 ?c30 ?k30 ?a31 ?l31 ?c31 ?k31 ?a32 ?l32 ?c32 ?k32 ?a33 ?l33 ?c33 ?k33 ?a34 ?l34 ?c34 ?k34 ?a35 ?l35 ?c35 ?k35 ?a36 ?l36 ?c36 ?k36 ?a37 ?l37 ?c37 ?k37 ?a38 ?l38 ?c38 ?k38 ?a39 ?l39 ?c39 ?k39 ?a40 ?l40 ?c40 ?k40 ?a41 ?l41 ?c41 ?k41 ?a42 ?l42 ?c42 ?k42 ?a43 ?l43 ?c43 ?k43 ?a44 ?l44 ?c44 ?k44 ?a45 ?l45 ?c45 ?k45 ?a46 ?l46 ?c46 ?k46 ?a47 ?l47 ?c47 ?k47 ?a48 ?l48 ?c48 ?k48 ?z_abs ?z_all ?z_bool ?z_enumerate ?z_int ?z_isinstance ?z_len ?z_list ?z_min ?z_range ?z_sorted ?z_str ?z_tuple ?y_MOST_THINGS ?y_tab ?y_lay ?y_sys ?yk0 ?lk0
  (case a0=>k_is);(case l0=>k_is);(case c0=>k_is);(case k0=>k_is)
  (case a1=>k_is);(case l1=>k_is);(case c1=>k_is);(case k1=>k_is)
  (case a2=>k_is);(case l2=>k_is);(case c2=>k_is);(case k2=>k_is)
  (case a3=>k_is);(case l3=>k_is);(case c3=>k_is);(case k3=>k_is)
  (case a4=>k_is);(case l4=>k_is);(case c4=>k_is);(case k4=>k_is)
  (case a5=>k_is);(case l5=>k_is);(case c5=>k_is);(case k5=>k_is)
  (case a6=>k_is);(case l6=>k_is);(case c6=>k_is);(case k6=>k_is)
  (case a7=>k_is);(case l7=>k_is);(case c7=>k_is);(case k7=>k_is)
  (case a8=>k_is);(case l8=>k_is);(case c8=>k_is);(case k8=>k_is)
  (case a9=>k_is);(case l9=>k_is);(case c9=>k_is);(case k9=>k_is)
  (case a10=>k_is);(case l10=>k_is);(case c10=>k_is);(case k10=>k_is)
  (case a11=>k_is);(case l11=>k_is);(case c11=>k_is);(case k11=>k_is)
  (case a12=>k_is);(case l12=>k_is);(case c12=>k_is);(case k12=>k_is)
  (case a13=>k_is);(case l13=>k_is);(case c13=>k_is);(case k13=>k_is)
  (case a14=>k_is);(case l14=>k_is);(case c14=>k_is);(case k14=>k_is)
  (case a15=>k_is);(case l15=>k_is);(case c15=>k_is);(case k15=>k_is)
  (case a16=>k_is);(case l16=>k_is);(case c16=>k_is);(case k16=>k_is)
  (case a17=>k_is);(case l17=>k_is);(case c17=>k_is);(case k17=>k_is)
  (case a18=>k_is);(case l18=>k_is);(case c18=>k_is);(case k18=>k_is)
  (case a19=>k_is);(case l19=>k_is);(case c19=>k_is);(case k19=>k_is)
  (case a20=>k_is);(case l20=>k_is);(case c20=>k_is);(case k20=>k_is)
  (case a21=>k_is);(case l21=>k_is);(case c21=>k_is);(case k21=>k_is)
  (case a22=>k_is);(case l22=>k_is);(case c22=>k_is);(case k22=>k_is)
  (case a23=>k_is);(case l23=>k_is);(case c23=>k_is);(case k23=>k_is)
  (case a24=>k_is);(case l24=>k_is);(case c24=>k_is);(case k24=>k_is)
  (case a25=>k_is);(case l25=>k_is);(case c25=>k_is);(case k25=>k_is)
  (case a26=>k_is);(case l26=>k_is);(case c26=>k_is);(case k26=>k_is)
  (case a27=>k_is);(case l27=>k_is);(case c27=>k_is);(case k27=>k_is)
  (case a28=>k_is);(case l28=>k_is);(case c28=>k_is);(case k28=>k_is)
  (case a29=>k_is);(case l29=>k_is);(case c29=>k_is);(case k29=>k_is)
  (case a30=>k_is);(case l30=>k_is);(case c30=>k_is);(case k30=>k_is)
  (case a31=>k_is);(case l31=>k_is);(case c31=>k_is);(case k31=>k_is)
  (case a32=>k_is);(case l32=>k_is);(case c32=>k_is);(case k32=>k_is)
  (case a33=>k_is);(case l33=>k_is);(case c33=>k_is);(case k33=>k_is)
  (case a34=>k_is);(case l34=>k_is);(case c34=>k_is);(case k34=>k_is)
  (case a35=>k_is);(case l35=>k_is);(case c35=>k_is);(case k35=>k_is)
  (case a36=>k_is);(case l36=>k_is);(case c36=>k_is);(case k36=>k_is)
  (case a37=>k_is);(case l37=>k_is);(case c37=>k_is);(case k37=>k_is)
  (case a38=>k_is);(case l38=>k_is);(case c38=>k_is);(case k38=>k_is)
  (case a39=>k_is);(case l39=>k_is);(case c39=>k_is);(case k39=>k_is)
  (case a40=>k_is);(case l40=>k_is);(case c40=>k_is);(case k40=>k_is)
  (case a41=>k_is);(case l41=>k_is);(case c41=>k_is);(case k41=>k_is)
  (case a42=>k_is);(case l42=>k_is);(case c42=>k_is);(case k42=>k_is)
  (case a43=>k_is);(case l43=>k_is);(case c43=>k_is);(case k43=>k_is)
  (case a44=>k_is);(case l44=>k_is);(case c44=>k_is);(case k44=>k_is)
  (case a45=>k_is);(case l45=>k_is);(case c45=>k_is);(case k45=>k_is)
  (case a46=>k_is);(case l46=>k_is);(case c46=>k_is);(case k46=>k_is)
  (case a47=>k_is);(case l47=>k_is);(case c47=>k_is);(case k47=>k_is)
  (case a48=>k_is);(case l48=>k_is);(case c48=>k_is);(case k48=>k_is)
  (case z_abs=>k_is)
  (case z_all=>k_is)
  (case z_bool=>k_is)
  (case z_enumerate=>k_is)
  (case z_int=>k_is)
  (case z_isinstance=>k_is)
  (case z_len=>k_is)
  (case z_list=>k_is)
  (case z_min=>k_is)
  (case z_range=>k_is)
  (case z_sorted=>k_is)
  (case z_str=>k_is)
  (case z_tuple=>k_is)
  (case y_MOST_THINGS=>k_is)
  (case y_tab=>k_is)
  (case y_lay=>k_is)
  (case y_sys=>rfl)
  (case yk0=>k_is)
  (case lk0=>k_is)
end
