import PyProof.Rows.All
import Wide.All
import OpenK.AllK
import Wide.FinOn
import Lean
import PyProof.EqAt
import PyProof.EqKinds
import PyProof.TupleCall
import PyProof.NeKinds
import KE.KSortTup
import PyProof.TableCode
import PyProof.EnumFor
import PyProof.EnumMake
import PyProof.EnumStmt
import PyProof.TupleOfStr
import PyProof.Draws
import PyProof.TupleIter
import KE.KMinKey
import OpenK.KLine
import PySem.Challenge.RW_lotheads_k60_least_forests
set_option Elab.async false
set_option linter.all false
set_option maxRecDepth 100000
namespace L2
open PySem PySem.Spec PyProof.Rows
noncomputable abbrev fP:=Sum Int Str
noncomputable def m6:fP->Value->Bool
 |.inl k,v=>Value.isInt k v
 |.inr x,v=>Value.isStrOf x v
noncomputable def Ml (w:World):fP->Int
 |.inl k=>hashInt k
 |.inr x=>hashStr w x
theorem cK:∀{k:fP} {v:Value},m6 k v=true->(∃i t,k=Sum.inl i/\v=Value.int i t)\/(∃x t,k=Sum.inr x/\v=Value.str x t)
 |.inl i,v,h=>by
  obtain⟨t,e⟩:=Value.isInt_shape (k:=i) (v:=v) h
  exact .inl ⟨i,t,rfl,e⟩
 |.inr x,v,h=>by
  obtain⟨t,e⟩:=Value.isStrOf_shape (x:=x) (v:=v) h
  exact .inr ⟨x,t,rfl,e⟩
theorem zn (i:Int)(t:Tok):m6 (.inl i) (.int i t)=true:=by simp[m6,Value.isInt]
theorem zo (x:Str)(t:Tok):m6 (.inr x) (.str x t)=true:=by simp[m6,Value.isStrOf]
theorem Hd (a b:Int):decide ((Sum.inl a:fP)=Sum.inl b)=(a==b):=by
 by_cases e:a=b
 ·subst e;simp
 ·have h:¬(Sum.inl a:fP)=Sum.inl b:=fun q=>e (Sum.inl.inj q)
  rw[decide_eq_false h]
  exact (beq_eq_false_iff_ne.mpr e).symm
theorem Ib (a b:Str):decide ((Sum.inr a:fP)=Sum.inr b)=decide (a=b):=by
 by_cases e:a=b
 ·subst e;simp
 ·have h:¬(Sum.inr a:fP)=Sum.inr b:=fun q=>e (Sum.inr.inj q)
  rw[decide_eq_false h,decide_eq_false e]
theorem GL (a:Int)(b:Str):decide ((Sum.inl a:fP)=Sum.inr b)=false:=decide_eq_false (fun q=>nomatch q)
theorem H9 (a:Str)(b:Int):decide ((Sum.inr a:fP)=Sum.inl b)=false:=decide_eq_false (fun q=>nomatch q)
noncomputable def bq (prog:Program)(w:World):PySem.KeyKind prog w fP where
 is:=m6
 hash:=Ml w
 inj:=fun v a b ha hb=>by
  rcases cK ha with ⟨i,t,rfl,rfl⟩|⟨x,t,rfl,rfl⟩
  ·rcases cK hb with ⟨j,u,rfl,e⟩|⟨y,u,rfl,e⟩
   ·injection e with e1 _;rw[e1]
   ·exact nomatch e
  ·rcases cK hb with ⟨j,u,rfl,e⟩|⟨y,u,rfl,e⟩
   ·exact nomatch e
   ·injection e with e1 _;rw[e1]
 byValue:=fun k v h=>by
  rcases cK h with ⟨i,t,rfl,rfl⟩|⟨x,t,rfl,rfl⟩<;>rfl
 pyHash:=fun hv h=>by
  rcases cK hv with ⟨i,t,rfl,rfl⟩|⟨x,t,rfl,rfl⟩
  ·exact wpAny_pyHash_int h
  ·exact wpAny_pyHash_str h
 eqBool:=fun hu hv h=>by
  rcases cK hu with ⟨i,t,rfl,rfl⟩|⟨x,t,rfl,rfl⟩
  ·rcases cK hv with ⟨j,u,rfl,rfl⟩|⟨y,u,rfl,rfl⟩
   ·rw[Hd] at h;exact wpAny_eqBool_int h
   ·rw[GL] at h;exact SeqAt.EqAt.int_str i t y u _ _ _ _ h
  ·rcases cK hv with ⟨j,u,rfl,rfl⟩|⟨y,u,rfl,rfl⟩
   ·rw[H9] at h;exact SeqAt.EqAt.str_int x t j u _ _ _ _ h
   ·rw[Ib] at h;exact wpAny_eqBool_str h
 «strs»:=fun k x t v h=>by
  rcases cK h with ⟨i,u,rfl,e⟩|⟨y,u,rfl,e⟩
  ·exact nomatch e
  ·injection e with e1 _
   subst e1
   cases v<;>rfl
theorem vc (prog:Program)(w:World)(i:Int)(t:Tok):(bq prog w).is (.inl i) (.int i t)=true:=zn i t
theorem ka (prog:Program)(w:World)(x:Str)(t:Tok):(bq prog w).is (.inr x) (.str x t)=true:=zo x t
end L2
namespace L2
open PySem PySem.Spec PyProof.Rows
inductive V where
 |non|bl (b:Bool)|int (i:Int)|str (x:Str)|byt (b:Array UInt8)|flt (b:UInt64)|ref (a:Addr)|ty (n:String)
 deriving DecidableEq
noncomputable def iQ:V->Value->Prop
 |.non,u=>u=Value.none
 |.bl b,u=>u=Value.bool b
 |.int i,u=>∃t,u=Value.int i t
 |.str x,u=>∃t,u=Value.str x t
 |.byt b,u=>∃t,u=Value.bytes b t
 |.flt b,u=>∃t,u=Value.float b t
 |.ref a,u=>u=Value.ref a
 |.ty n,u=>u=Value.type n
noncomputable abbrev Vals:List V->List Value->Prop:=Paired iQ
theorem Vals.length {xs:List V}{us:List Value}(r:Vals xs us):xs.length=us.length:=Paired.length r
theorem Vals.get:∀{xs:List V} {us:List Value} {i:Nat} {x:V},Vals xs us->xs[i]?=some x->∃u,us[i]?=some u/\iQ x u
 |_,_,_,_,.nil,e=>by simp at e
 |_,_,0,_,.cons r _,e=>by simp at e;subst e;exact⟨_,rfl,r⟩
 |_,_,i+1,x,.cons _ t,e=>by
  obtain⟨u,h1,h2⟩:=Vals.get (i:=i) (x:=x) t (by simpa using e)
  exact⟨u,by simpa using h1,h2⟩
noncomputable def KG:Option V->Option Value->Prop
 |some v,some u=>iQ v u
 |none,none=>True
 |_,_=>False
noncomputable def KV {κ:Type}:List (κ×V)->List (κ×Value)->Prop:=Paired fun (p:κ×V) (q:κ×Value)=>p.1=q.1/\iQ p.2 q.2
noncomputable def kV:fP->V
 |.inl i=>.int i
 |.inr x=>.str x
inductive HO where
 |lst (xs:List V)
 |tup (xs:List V)
 |dK (kvs:List (fP×V))|dT (kvs:List (List fP×V))
 |set (S:Int->Bool) (n:Nat)
 |ins (C dx:Addr) (fs:List (Str×V))
 |own (x:Addr)
 |xd (fs:List (Str×V))
 |met (f x:Addr)
 |rng (lo hi:Int)
 |frz (o:Obj) (u:HO)
 |tbl (ps:Array Value)
 |ext (φ:Heap->Prop)
noncomputable abbrev Hp:=Addr->Option HO
noncomputable def gf (H:Hp)(a:Addr)(o:HO):Hp:=fun b=>if b=a then some o else H b
theorem bL {H:Hp}{a:Addr}{o:HO}:gf H a o a=some o:=by unfold gf;rw[if_pos rfl]
theorem aA {H:Hp}{a b:Addr}{o:HO}(h:b≠a):gf H a o b=H b:=by unfold gf;rw[if_neg h]
section
variable (P:Program)(w:World)
noncomputable def ObjOk (H:Hp)(h:Heap)(a:Addr):HO->Prop
 |.lst xs=>xs.length≤sizeLine/\∃(its:List Value) (n:Nat),Vals xs its/\h.get? a=some { cls:=.type "list",data:=.seq its.toArray n }
 |.tup xs=>xs.length≤sizeLine/\∃its:List Value,Vals xs its/\IsTup h a its.toArray
 |.dK kvs=>kvs.length≤sizeLine/\(a==sysModules)=false/\∃vs,KV kvs vs/\h.DictOf (bq P w) a vs
 |.dT kvs=>kvs.length≤sizeLine/\(a==sysModules)=false/\∃xs:List (List fP×Addr×Value),
   Paired (fun (p:List fP×V) (q:List fP×Addr×Value)=>p.1=q.1/\H q.2.1=some (.tup (p.1.map kV))/\iQ p.2 q.2.2) kvs xs ∧
   ∃o es ep,h.get? a=some o/\o.ExactDict/\o.data=.dict es ep/\es.toList=xs.map (entryOfKey (tupleKind (bq P w)))/\(xs.map (·.1)).Nodup
 |.set S n=>h.SetOf (intKind P w) a S n
 |.ins C dx fs=>H dx=some (.own a)/\fs.length≤1000/\dx≠a/\h.get? a=some (PySem.W.instObj C dx) ∧
   ∃mA,h.Ns1 dx mA/\(∀f,KG (fs.lookup f) (mA f))/\PySem.Within mA (fs.map (·.1))
 |.own _=>∃o,h.get? a=some o
 |.xd fs=>∃mA,h.Ns1 a mA/\∀f,KG (fs.lookup f) (mA f)
 |.rng lo hi=>∃t u v,h.get? a=some { cls:=.type "range",data:=.fields #[.int lo t,.int hi u,.int 1 v] }
 |.frz o u=>h.get? a=some o/\ObjOk H h a u
 |.tbl ps=>h.get? a=some { cls:=.none,data:=.fields ps }
 |.met f x=>h.get? a=some (PySem.W.methodObj (.ref f) (.ref x))
 |.ext φ=>φ h/\(∃o,h.get? a=some o)/\∀h1 h2:Heap,φ h1->(∀o,h1.get? a=some o->h2.get? a=some o)->φ h2
noncomputable def HOk (H:Hp)(h:Heap):Prop:=∀a o,H a=some o->ObjOk P w H h a o
end
section
variable {P:Program}{w:World}{H H':Hp}{h h':Heap}{a:Addr}{o:HO}
theorem ObjOk.lt (x:ObjOk P w H h a o):a<h.objs.size:=by
 cases o with
 |lst xs=>obtain⟨_,_,_,_,e⟩:=x;exact Heap.lt_size e
 |tup xs=>obtain⟨_,_,_,p⟩:=x;exact p.lt
 |dK kvs=>obtain⟨_,_,_,_,o,_,_,e,_⟩:=x;exact Heap.lt_size e
 |dT kvs=>obtain⟨_,_,_,_,o,_,_,e,_⟩:=x;exact Heap.lt_size e
 |set S n=>obtain⟨o,_,_,_,e,_⟩:=x;exact Heap.lt_size e
 |ins C dx fs=>obtain⟨_,_,_,e,_⟩:=x;exact Heap.lt_size e
 |own y=>obtain⟨_,e⟩:=x;exact Heap.lt_size e
 |xd fs=>obtain⟨_,⟨_,_,_,e,_⟩,_⟩:=x;exact Heap.lt_size e
 |rng lo hi=>obtain⟨_,_,_,e⟩:=x;exact Heap.lt_size e
 |frz ob u=>obtain⟨e,_⟩:=x;exact Heap.lt_size e
 |tbl ps=>exact Heap.lt_size (show h.get? a=some _ from x)
 |met f y=>exact Heap.lt_size (show h.get? a=some _ from x)
 |ext φ=>obtain⟨_,⟨_,e⟩,_⟩:=x;exact Heap.lt_size e
theorem Paired.mapP {α β:Type}{F G:α->β->Prop}:∀{l₁:List α} {l₂:List β},Paired F l₁ l₂->(∀a b,F a b->G a b)->Paired G l₁ l₂
 |_,_,.nil,_=>.nil
 |_,_,.cons r t,f=>.cons (f _ _ r) (Paired.mapP t f)
theorem ObjOk.stay (x:ObjOk P w H h a o)(k:∀b u,(b=a\/H b=some (.own a))->h.get? b=some u->h'.get? b=some u)
  (ho:∀b,H b=some (.own a)->H' b=some (.own a)) (ht:∀b xs,H b=some (.tup xs)->H' b=some (.tup xs)):ObjOk P w H' h' a o:=by
 induction o with
 |lst xs=>obtain⟨z,its,n,r,e⟩:=x;exact⟨z,its,n,r,k _ _ (.inl rfl) e⟩
 |tup xs=>obtain⟨z,its,r,ob,e,c⟩:=x;exact⟨z,its,r,ob,k _ _ (.inl rfl) e,c⟩
 |dK kvs=>obtain⟨z,y,vs,r,ob,es,ep,e,c⟩:=x;exact⟨z,y,vs,r,ob,es,ep,k _ _ (.inl rfl) e,c⟩
 |dT kvs=>
  obtain⟨z,y,xs,r,ob,es,ep,e,c⟩:=x
  exact⟨z,y,xs,Paired.mapP r fun p q z=>⟨z.1,ht _ _ z.2.1,z.2.2⟩,ob,es,ep,k _ _ (.inl rfl) e,c⟩
 |set S n=>obtain⟨ob,es,ep,t,e,c⟩:=x;exact⟨ob,es,ep,t,k _ _ (.inl rfl) e,c⟩
 |ins C dx fs=>
  obtain⟨d,z,ne,e,mA,⟨od,es,ep,e2,c⟩,r⟩:=x
  exact⟨ho _ d,z,ne,k _ _ (.inl rfl) e,mA,⟨od,es,ep,k _ _ (.inr d) e2,c⟩,r⟩
 |own y=>obtain⟨ob,e⟩:=x;exact⟨ob,k _ _ (.inl rfl) e⟩
 |xd fs=>obtain⟨mA,⟨od,es,ep,e,c⟩,r⟩:=x;exact⟨mA,⟨od,es,ep,k _ _ (.inl rfl) e,c⟩,r⟩
 |rng lo hi=>obtain⟨t,u,v,e⟩:=x;exact⟨t,u,v,k _ _ (.inl rfl) e⟩
 |frz ob u ih=>obtain⟨e,q⟩:=x;exact⟨k _ _ (.inl rfl) e,ih q⟩
 |tbl ps=>
  have e:h.get? a=some { cls:=.none,data:=.fields ps }:=x
  show h'.get? a=some { cls:=.none,data:=.fields ps }
  exact k a _ (.inl rfl) e
 |met f y=>
  have e:h.get? a=some (PySem.W.methodObj (.ref f) (.ref y)):=x
  show h'.get? a=some (PySem.W.methodObj (.ref f) (.ref y))
  exact k a _ (.inl rfl) e
 |ext φ=>obtain⟨p,⟨o,e⟩,st⟩:=x;exact⟨st _ _ p fun o q=>k _ _ (.inl rfl) q,⟨o,k _ _ (.inl rfl) e⟩,st⟩
theorem HOk.lt (x:HOk P w H h)(e:H a=some o):a<h.objs.size:=(x a o e).lt
theorem HOk.fresh (x:HOk P w H h)(e:h.objs.size≤a):H a=none:=by
 cases q:H a with
 |none=>rfl
 |some u=>exact absurd (Nat.lt_of_lt_of_le (x.lt q) e) (Nat.lt_irrefl _)
theorem HOk.kept (x:HOk P w H h)(k:∀b u,h.get? b=some u->h'.get? b=some u):HOk P w H h':=fun a o e=>
 (x a o e).stay (fun b u _ q=>k b u q) (fun _ q=>q) fun _ _ q=>q
end
noncomputable def Rd (H:Hp)(a:Addr)(u:HO):Prop:=H a=some u\/∃o,H a=some (.frz o u)
noncomputable def LG:Option HO->Prop
 |some (.lst _)=>True
 |some (.dK _)=>True
 |some (.dT _)=>True
 |some (.set _ _)=>True
 |some (.ins _ _ _)=>True
 |some (.ext _)=>True
 |_=>False
section
variable {P:Program}{w:World}{H:Hp}{h h':Heap}{x e:Addr}{o':HO}
theorem HOk.write (ok:HOk P w H h)(mu:LG (H x))(he:e=x\/H e=some (.own x))(k:∀b u,b≠e->h.get? b=some u->h'.get? b=some u)(heo:∃u,h'.get? e=some u)
  (new:ObjOk P w (gf H x o') h' x o'):HOk P w (gf H x o') h':=fun b u q=>by
 have nown:∀c y,H c=some (.own y)->c≠x:=fun c y r z=>by subst z;rw[r] at mu;exact mu
 have ntup:∀c xs,H c=some (.tup xs)->c≠x:=fun c xs r z=>by subst z;rw[r] at mu;exact mu
 by_cases hb:b=x
 ·subst hb;rw[bL] at q;cases q;exact new
 ·rw[aA hb] at q
  by_cases hbe:b=e
  ·have q':H b=some (.own x):=by
    rcases he with z|z
    ·exact absurd (hbe.trans z) hb
    ·rw[hbe];exact z
   rw[q] at q';cases q'
   obtain⟨v,hv⟩:=heo
   exact⟨v,by rw[hbe];exact hv⟩
  ·refine (ok b u q).stay (fun c v hc r=>k c v ?_ r) (fun c r=>by rw[aA (nown c b r)];exact r) fun c xs r=>by rw[aA (ntup c xs r)];exact r
   rcases hc with rfl|hc
   ·exact hbe
   ·rintro rfl
    rcases he with z|z
    ·exact nown c b hc z
    ·rw[hc] at z;cases z;exact hb rfl
end
structure Un (fs ex:List Addr)(H H':Hp)(h h':Heap):Prop where
 keep:∀b o,h.get? b=some o->H b=none->b∉fs->b∉ex->h'.get? b=some o
 slot:∀b o,h.get? b=some o->H b=none->b∈fs->b∉ex->∃sl,h'.get? b=some { o with slots:=sl }
 free:∀b o,h.get? b=some o->H b=none->b∉ex->H' b=none
 there:∀b o,h.get? b=some o->b∉ex->∃o',h'.get? b=some o'
 tups:∀b xs,H b=some (.tup xs)->H' b=some (.tup xs)
 frzs:∀b o u,H b=some (.frz o u)->H' b=some (.frz o u)
 tbls:∀b ps,H b=some (.tbl ps)->∃more,H' b=some (.tbl (ps++more))
section
variable {fs fs' ex ex':List Addr}{H H1 H2:Hp}{h h1 h2 h':Heap}{a x e:Addr}{o:HO}
theorem Un.any (u:Un fs ex H H1 h h1){b:Addr}{ob:Obj}(q:h.get? b=some ob)(n:H b=none)(hx:b∉ex):∃sl,h1.get? b=some { ob with slots:=sl }:=by
 by_cases hb:b∈fs
 ·exact u.slot b ob q n hb hx
 ·exact⟨ob.slots,u.keep b ob q n hb hx⟩
theorem Un.kept (k:∀b u,h.get? b=some u->h'.get? b=some u):Un fs ex H H h h':=
 ⟨fun b ob q _ _ _=>k b ob q,fun b ob q _ _ _=>⟨ob.slots,k b ob q⟩,fun _ _ _ n _=>n,fun b ob q _=>⟨ob,k b ob q⟩,fun _ _ q=>q,fun _ _ _ q=>q,fun _ ps q=>⟨#[],by rw[q];simp⟩⟩
theorem Un.write (mu:LG (H x))(he:e=x\/H e=some (.own x))(k:∀b u,b≠e->h.get? b=some u->h'.get? b=some u)(heo:∃u,h'.get? e=some u):Un fs ex H (gf H x o) h h':=by
 have hx:∀b,H b=none->b≠x:=fun b n z=>by subst z;rw[n] at mu;exact mu
 have hb:∀b,H b=none->b≠e:=fun b n z=>by
  subst z
  rcases he with r|r
  ·exact hx b n r
  ·rw[n] at r;cases r
 have hm:∀b u,H b=some u->¬LG (some u)->b≠x:=fun b u q nm z=>by subst z;rw[q] at mu;exact nm mu
 refine⟨fun b u q n _ _=>k b u (hb b n) q,fun b u q n _ _=>⟨u.slots,k b u (hb b n) q⟩,fun b u q n _=>by rw[aA (hx b n)];exact n,fun b u q _=>?_,
  fun b xs q=>by rw[aA (hm b _ q fun z=>z)];exact q,fun b u xs q=>by rw[aA (hm b _ q fun z=>z)];exact q,fun b ps q=>⟨#[],by rw[aA (hm b _ q fun z=>z),q];simp⟩⟩
 by_cases hbe:b=e
 ·subst hbe;exact heo
 ·exact⟨u,k b u hbe q⟩
end
noncomputable def mc (g h:Heap)(L:Addr):List (Addr×Obj):=(List.range h.objs.size).filterMap fun a=>if a=L\/(g.get? a).isSome=true then none else (h.get? a).map fun o=>(a,o)
theorem ny {g h:Heap}{L a:Addr}{o:Obj}(h1:a≠L)(h2:g.get? a=none)(h3:h.get? a=some o):(a,o)∈mc g h L:=
 List.mem_filterMap.mpr ⟨a,List.mem_range.mpr (Heap.lt_size h3),by simp[h1,h2,h3]⟩
theorem o7 {g h:Heap}{L:Addr}{p:Addr×Obj}(hp:p∈mc g h L):p.1≠L/\g.get? p.1=none/\h.get? p.1=some p.2:=by
 obtain⟨b,_,e⟩:=List.mem_filterMap.mp hp
 split at e
 ·cases e
 ·rename_i hn
  cases q:h.get? b with
  |none=>rw[q] at e;simp at e
  |some u=>
   rw[q] at e
   simp only[Option.map_some,Option.some.injEq] at e
   subst e
   refine⟨fun z=>hn (.inl z),?_,q⟩
   show g.get? b=none
   cases r:g.get? b with
   |none=>rfl
   |some v=>exact (hn (.inr (by simp[r]))).elim
noncomputable def jc (g h:Heap)(L d:Addr):List (Addr×Obj):=(mc g h L).filter fun p=>decide (p.1≠d)
theorem AH {g h:Heap}{L:Addr}:News g L h (mc g h L):=fun p hp=>let ⟨a,b,c⟩:=o7 hp;⟨c,a,b⟩
end L2
namespace L2
open PySem PySem.Spec PyProof.Rows
structure Mod (K:PySem.W.Frag)(mg:Str->Option Value)(base:Heap):Prop where
 kin:K.In base
 glob:base.Ns mainGlobals mg
 blt:∃mb,base.Ns builtinsNs mb/\∀x:Str,x ≠ "__name__"->mb x=bootBuiltins x
 nolimit:base.NoLimit
structure Cx where
 prog:Program
 w:World
 K:PySem.W.Frag
 mg:Str->Option Value
 base:Heap
 A:Around
 N:List Str
 s₀:Shared
 H₀:Hp
 env:Env
 outer:List Env
 stack:List Env
 ex:List Addr
 fn:Str->Bool
 calm:Bool
 pn:List (Addr×Obj)
 xe:Value->Shared->Prop
noncomputable def oT (l:List Env):List Addr:=l.filterMap (·.frame)
noncomputable abbrev Cx.fs (X:Cx):List Addr:=oT X.outer
noncomputable def rL (sc:Scope)(x:Str):Prop:=sc.names.lookup x=some .local\/sc.names.lookup x=some .cell\/sc.names.lookup x=some .free
noncomputable def Nf (sc:Scope)(x:Str):Prop:=sc.names.lookup x=some .local\/sc.names.lookup x=some .cell
noncomputable def Kk (env:Env)(h:Heap)(m:Str->Option Value)(x:Str)(u:Value):Prop:=
 (env.kindOf x=some .local/\m x=some u)\/((env.kindOf x=some .cell\/env.kindOf x=some .free)/\∃c,env.cells.lookup x=some c/\h.IsCell c (some u))
structure Cx.Ok (X:Cx):Prop where
 mod:Mod X.K X.mg X.base
 kind:X.env.scope.kind=.function
 glob:X.env.globals=mainGlobals
 blt:X.env.builtins=builtinsNs
 above:X.s₀.heap.objs.size≤X.env.locals
 inj:∀x y c,X.env.cells.lookup x=some c->X.env.cells.lookup y=some c->x=y
 has:∀x,(X.env.kindOf x=some .cell\/X.env.kindOf x=some .free)->∃c,X.env.cells.lookup x=some c
 cab:∀x c,X.fn x=true->X.env.cells.lookup x=some c->X.s₀.heap.objs.size≤c
 hd:X.calm=true->X.A.handled=none
 frames:X.A.frames=some X.stack
 stk:X.stack=X.outer\/(X.stack=X.env::X.outer/\X.env.frame=some X.env.locals)
 exf:∀b∈X.ex,b≠X.env.locals/\∀x c,X.env.cells.lookup x=some c->c≠b
 bs:∀b o,X.base.get? b=some o->X.s₀.heap.get? b=some o/\X.H₀ b=none
 bsz:X.base.objs.size≤X.s₀.heap.objs.size
 noex:∀b o,X.base.get? b=some o->b∉X.ex
 exfs:∀b∈X.ex,b∉X.fs
 funs:X.s₀.heap.FunFrames X.base X.outer
 frf:∀b∈X.fs,X.H₀ b=none
structure Inv (X:Cx)(pins:List (Addr×Obj))(σ:List (Option V))(H:Hp)(s:Shared):Prop where
 ok:X.Ok
 os:s.os=X.s₀.os
 bare:AllBare s.gens
 base:Un X.fs X.ex X.H₀ H X.s₀.heap s.heap
 loc:∃m,s.heap.Ns X.env.locals m/\∀(i:Nat) (x:Str) (v:V),X.N[i]?=some x->σ[i]?=some (some v)->rL X.env.scope x->∃u,iQ v u/\Kk X.env s.heap m x u
 cell:∀x c,X.env.cells.lookup x=some c->∃v,s.heap.IsCell c v
 free:H X.env.locals=none
 freeC:∀x c,X.env.cells.lookup x=some c->H c=none
 pin:∀p∈X.pn++pins,s.heap.get? p.1=some p.2/\H p.1=none/\p.1≠X.env.locals/\p.1∉X.fs/\∀v,p.2.data≠.cell v
 hok:HOk X.prog X.w H s.heap
 len:σ.length=X.N.length
section
variable {X:Cx}{pins:List (Addr×Obj)}{σ:List (Option V)}{H H':Hp}{s:Shared}{h':Heap}
theorem Cx.Ok.nofr (ok:X.Ok){b:Addr}{o:Obj}(e:X.base.get? b=some o):b∉X.fs:=fun hb=>by
 have:=(ok.funs.mem hb).1
 rw[e] at this;cases this
theorem Inv.bs (I:Inv X pins σ H s):∀b o,X.base.get? b=some o->s.heap.get? b=some o/\H b=none:=fun b o e=>
 ⟨I.base.keep b o (I.ok.bs b o e).1 (I.ok.bs b o e).2 (I.ok.nofr e) (I.ok.noex b o e),I.base.free b o (I.ok.bs b o e).1 (I.ok.bs b o e).2 (I.ok.noex b o e)⟩
theorem Inv.bk (I:Inv X pins σ H s):∀b o,X.base.get? b=some o->s.heap.get? b=some o:=fun b o e=>(I.bs b o e).1
theorem Inv.mod (I:Inv X pins σ H s):Mod X.K X.mg X.base:=I.ok.mod
theorem Inv.kIn (I:Inv X pins σ H s):X.K.In s.heap:=I.ok.mod.kin.keeps I.bk
theorem Inv.fr (I:Inv X pins σ H s):∃m,Fr X.base X.env.locals s.heap m:=
 let ⟨m,hn,_⟩:=I.loc
 ⟨m,hn,I.bk,Nat.le_trans I.ok.bsz I.ok.above⟩
theorem Inv.lt (I:Inv X pins σ H s):X.env.locals<s.heap.objs.size:=let ⟨_,hn,_⟩:=I.loc;hn.lt
theorem Inv.sz (I:Inv X pins σ H s):X.s₀.heap.objs.size≤s.heap.objs.size:=Nat.le_trans I.ok.above (Nat.le_of_lt I.lt)
theorem Inv.nofs (I:Inv X pins σ H s){a:Addr}(h:s.heap.objs.size≤a):a∉X.fs:=fun hb=>by
 obtain⟨_,o,ho,_⟩:=I.ok.funs.mem hb
 exact absurd (Nat.lt_of_lt_of_le (Heap.lt_size ho) (Nat.le_trans I.sz h)) (Nat.lt_irrefl _)
theorem Inv.cne (I:Inv X pins σ H s):∀x c,X.env.cells.lookup x=some c->c≠X.env.locals:=fun x c e z=>by
 obtain⟨v,o,ho,hd⟩:=I.cell x c e
 obtain⟨m,⟨o',es,ep,ho',hd',_⟩,_⟩:=I.loc
 rw[z,ho'] at ho;cases ho;rw[hd'] at hd;cases hd
theorem Inv.funs (I:Inv X pins σ H s):s.heap.FunFrames X.base X.outer:=by
 have all:∀(l:List Env),(∀b∈oT l,b∈X.fs)->X.s₀.heap.FunFrames X.base l->s.heap.FunFrames X.base l:=by
  intro l
  induction l with
  |nil=>intro _ _;trivial
  |cons env r ih=>
   intro hs hl
   obtain⟨hk,⟨L,o,hf,hn,ho,hd⟩,hr⟩:=hl
   have hL:L∈X.fs:=hs L (by unfold oT;rw[List.filterMap_cons,hf];exact List.mem_cons_self)
   obtain⟨sl,e⟩:=I.base.slot L o ho (I.ok.frf L hL) hL fun z=>I.ok.exfs L z hL
   exact⟨hk,⟨L,_,hf,hn,e,hd⟩,ih (fun b hb=>hs b (by unfold oT;rw[List.filterMap_cons,hf];exact List.mem_cons_of_mem _ hb)) hr⟩
 exact all X.outer (fun _ hb=>hb) I.ok.funs
theorem Inv.stack (I:Inv X pins σ H s):s.heap.FunFrames X.base X.stack:=by
 rcases I.ok.stk with e|⟨e,hf⟩
 ·rw[e];exact I.funs
 ·rw[e]
  obtain⟨m,hn,_⟩:=I.loc
  refine .cons (by rw[I.ok.kind];decide) hf hn ?_ I.funs
  exact Heap.get?_none_of_le (Nat.le_trans I.ok.bsz I.ok.above)
theorem Inv.stkSub (I:Inv X pins σ H s):∀b∈oT X.stack,b∈X.env.locals::X.fs:=fun b hb=>by
 rcases I.ok.stk with e|⟨e,hf⟩
 ·rw[e] at hb;exact List.mem_cons_of_mem _ hb
 ·rw[e] at hb
  unfold oT at hb
  rw[List.filterMap_cons,hf] at hb
  exact hb
theorem Inv.stkFree (I:Inv X pins σ H s):∀b∈oT X.stack,H b=none:=fun b hb=>by
 rcases List.mem_cons.mp (I.stkSub b hb) with e|hb
 ·rw[e];exact I.free
 ·obtain⟨_,o,ho,_⟩:=I.ok.funs.mem hb
  exact I.base.free b o ho (I.ok.frf b hb) fun z=>I.ok.exfs b z hb
theorem Inv.step {g':Array GenState}{t':Nat}{d':Drawn}{ch:List Addr}(I:Inv X pins σ H s)
  (hch:∀b∈ch,(b∈X.ex\/X.s₀.heap.objs.size≤b)/\b≠X.env.locals/\(∀x c,X.env.cells.lookup x=some c->c≠b)/\∀p∈X.pn++pins,p.1≠b)
  (keep:∀b o,b≠X.env.locals->b∉X.fs->b∉ch->s.heap.get? b=some o->H b=none->h'.get? b=some o)
  (slot:∀b o,b≠X.env.locals->b∈X.fs->b∉ch->s.heap.get? b=some o->H b=none->∃sl,h'.get? b=some { o with slots:=sl }) (free:∀b o,b∉ch->s.heap.get? b=some o->H b=none->H' b=none)
  (there:∀b o,b∉ch->s.heap.get? b=some o->∃o',h'.get? b=some o')
  (tups:∀b xs,H b=some (.tup xs)->H' b=some (.tup xs)) (frzs:∀b o u,H b=some (.frz o u)->H' b=some (.frz o u)) (tbls:∀b ps,H b=some (.tbl ps)->∃more,H' b=some (.tbl (ps++more)))
  (ns:∀m,s.heap.Ns X.env.locals m->h'.Ns X.env.locals m) (hok:HOk X.prog X.w H' h') (hg:AllBare g') :
  Inv X pins σ H' { s with heap:=h',gens:=g',drawn:=d',toks:=t' }:=by
 have neL:∀b o,X.s₀.heap.get? b=some o->b≠X.env.locals:=fun b o e=>Nat.ne_of_lt (Nat.lt_of_lt_of_le (Heap.lt_size e) I.ok.above)
 have neC:∀b o,X.s₀.heap.get? b=some o->b∉X.ex->b∉ch:=fun b o e hx hb=>by
  rcases (hch b hb).1 with z|z
  ·exact hx z
  ·exact absurd (Nat.lt_of_lt_of_le (Heap.lt_size e) z) (Nat.lt_irrefl _)
 have cellK:∀x c,X.env.cells.lookup x=some c->∀v,s.heap.IsCell c v->h'.IsCell c v:=fun x c e v ⟨o,ho,hd⟩=>by
  have nch:c∉ch:=fun z=>(hch c z).2.2.1 x c e rfl
  by_cases hc:c∈X.fs
  ·obtain⟨sl,q⟩:=slot c o (I.cne x c e) hc nch ho (I.freeC x c e)
   exact⟨_,q,hd⟩
  ·exact⟨o,keep c o (I.cne x c e) hc nch ho (I.freeC x c e),hd⟩
 refine⟨I.ok,I.os,hg,⟨fun b o e n hb hx=>?_,fun b o e n hb hx=>?_,fun b o e n hx=>?_,fun b o e hx=>?_,fun b xs e=>tups b xs (I.base.tups b xs e),fun b o xs e=>frzs b o xs (I.base.frzs b o xs e),fun b ps e=>?_⟩,?_,fun x c e=>?_,?_,fun x c e=>?_,fun p hp=>?_,hok,I.len⟩
 ·exact keep b o (neL b o e) hb (neC b o e hx) (I.base.keep b o e n hb hx) (I.base.free b o e n hx)
 ·obtain⟨sl,e1⟩:=I.base.slot b o e n hb hx
  obtain⟨sl',e2⟩:=slot b _ (neL b o e) hb (neC b o e hx) e1 (I.base.free b o e n hx)
  exact⟨sl',e2⟩
 ·obtain⟨o',e1⟩:=I.base.there b o e hx
  exact free b o' (neC b o e hx) e1 (I.base.free b o e n hx)
 ·obtain⟨o',e1⟩:=I.base.there b o e hx
  exact there b o' (neC b o e hx) e1
 ·obtain⟨m1,e1⟩:=I.base.tbls b ps e
  obtain⟨m2,e2⟩:=tbls b _ e1
  exact⟨m1++m2,by rw[e2,Array.append_assoc]⟩
 ·obtain⟨m,hn,hl⟩:=I.loc
  refine⟨m,ns m hn,fun i x v e1 e2 e3=>?_⟩
  obtain⟨u,r,l⟩:=hl i x v e1 e2 e3
  refine⟨u,r,?_⟩
  rcases l with l|⟨k,c,e,z⟩
  ·exact .inl l
  ·exact .inr ⟨k,c,e,cellK x c e _ z⟩
 ·obtain⟨v,z⟩:=I.cell x c e
  exact⟨v,cellK x c e v z⟩
 ·obtain⟨m,⟨o,_,_,ho,_⟩,_⟩:=I.loc
  exact free _ o (fun z=>(hch _ z).2.1 rfl) ho I.free
 ·obtain⟨v,o,ho,hd⟩:=I.cell x c e
  exact free c o (fun z=>(hch c z).2.2.1 x c e rfl) ho (I.freeC x c e)
 ·obtain⟨e,n,ne,nf,d⟩:=I.pin p hp
  have nch:p.1∉ch:=fun z=>(hch p.1 z).2.2.2 p hp rfl
  exact⟨keep p.1 p.2 ne nf nch e n,free p.1 p.2 nch e n,ne,nf,d⟩
theorem Inv.un {t':Nat}(I:Inv X pins σ H s)(u:Un X.fs [] H H' s.heap h')(hok:HOk X.prog X.w H' h'):Inv X pins σ H' { s with heap:=h',toks:=t' }:=by
 obtain⟨m,⟨o,es,ep,ho,r⟩,_⟩:=id I.loc
 obtain⟨sl,hL⟩:=u.any ho I.free (by simp)
 exact I.step (g':=s.gens) (d':=s.drawn) (ch:=[]) (fun _ z=>nomatch z) (fun b o _ hb _ e n=>u.keep b o e n hb (by simp)) (fun b o _ hb _ e n=>u.slot b o e n hb (by simp)) (fun b o _ e n=>u.free b o e n (by simp)) (fun b o _ e=>u.there b o e (by simp)) u.tups u.frzs u.tbls (fun m' hm=>by
  obtain⟨o',es',ep',ho',r'⟩:=hm
  rw[ho] at ho';cases ho'
  exact⟨_,es',ep',hL,r'⟩) hok I.bare
theorem Inv.call {g':Array GenState}{t':Nat}{d':Drawn}{ch:List Addr}(I:Inv X pins σ H s)(u:Un (oT X.stack) ch H H' s.heap h')(hok:HOk X.prog X.w H' h')(hg:AllBare g')
  (hch:∀b∈ch,(b∈X.ex\/X.s₀.heap.objs.size≤b)/\b≠X.env.locals/\(∀x c,X.env.cells.lookup x=some c->c≠b)/\∀p∈X.pn++pins,p.1≠b) :
  Inv X pins σ H' { s with heap:=h',gens:=g',drawn:=d',toks:=t' }:=by
 obtain⟨m,⟨o,es,ep,ho,r⟩,_⟩:=id I.loc
 obtain⟨sl,hL⟩:=u.any ho I.free fun z=>(hch _ z).2.1 rfl
 exact I.step (ch:=ch) hch (fun b o hL hb hc e n=>u.keep b o e n (fun z=>(List.mem_cons.mp (I.stkSub b z)).elim hL hb) hc) (fun b o _ _ hc e n=>u.any e n hc) (fun b o hc e n=>u.free b o e n hc) (fun b o hc e=>u.there b o e hc) u.tups u.frzs u.tbls (fun m' hm=>by
  obtain⟨o',es',ep',ho',r'⟩:=hm
  rw[ho] at ho';cases ho'
  exact⟨_,es',ep',hL,r'⟩) hok hg
theorem Inv.turned {t':Nat}{it:Addr}(I:Inv X pins σ H s)(k:∀b o,b≠it->s.heap.get? b=some o->h'.get? b=some o)(hn:H it=none)(hL:it≠X.env.locals)
  (h1:it∈X.ex\/X.s₀.heap.objs.size≤it) (h2:∀x c,X.env.cells.lookup x=some c->c≠it) (h3:∀p∈X.pn++pins,p.1≠it):Inv X pins σ H { s with heap:=h',toks:=t' }:=by
 have nit:∀b u,H b=some u->b≠it:=fun b u e z=>by rw[z,hn] at e;cases e
 refine I.step (g':=s.gens) (d':=s.drawn) (ch:=[it]) (fun b hb=>?_) (fun b o _ _ hc e _=>k b o (fun z=>hc (by simp[z])) e) (fun b o _ _ hc e _=>⟨o.slots,k b o (fun z=>hc (by simp[z])) e⟩) (fun _ _ _ _ n=>n)
  (fun b o hc e=>⟨o,k b o (fun z=>hc (by simp[z])) e⟩) (fun _ _ e=>e) (fun _ _ _ e=>e) (fun b ps e=>⟨#[],by rw[e];simp⟩) (fun m hm=>?_) (fun b u e=>?_) I.bare
 ·have e:b=it:=by simpa using hb
  subst e
  exact⟨h1,hL,h2,h3⟩
 ·obtain⟨o,es,ep,ho,r⟩:=hm
  exact⟨o,es,ep,k _ o (Ne.symm hL) ho,r⟩
 ·refine (I.hok b u e).stay (fun c v hc q=>k c v ?_ q) (fun _ q=>q) fun _ _ q=>q
  rcases hc with z|z
  ·rw[z];exact nit b u e
  ·exact nit c _ z
theorem Inv.kept {t':Nat}(I:Inv X pins σ H s)(k:∀b u,s.heap.get? b=some u->h'.get? b=some u):Inv X pins σ H { s with heap:=h',toks:=t' }:=I.un (Un.kept k) (I.hok.kept k)
theorem Inv.write {x e:Addr}{o:HO}{t':Nat}(I:Inv X pins σ H s)(mu:LG (H x))(he:e=x\/H e=some (.own x))(k:∀b u,b≠e->s.heap.get? b=some u->h'.get? b=some u)(heo:∃u,h'.get? e=some u)
  (new:ObjOk X.prog X.w (gf H x o) h' x o):Inv X pins σ (gf H x o) { s with heap:=h',toks:=t' }:=I.un (Un.write mu he k heo) (I.hok.write mu he k heo new)
theorem Inv.pins_of {pins':List (Addr×Obj)}(I:Inv X pins σ H s)(h:∀p∈pins',s.heap.get? p.1=some p.2/\H p.1=none/\p.1≠X.env.locals/\p.1∉X.fs/\∀v,p.2.data≠.cell v):Inv X pins' σ H s:=
 ⟨I.ok,I.os,I.bare,I.base,I.loc,I.cell,I.free,I.freeC,fun p hp=>(List.mem_append.mp hp).elim (fun z=>I.pin p (List.mem_append_left _ z)) (h p),I.hok,I.len⟩
theorem uI {N:List Str}(hN:N.Nodup){i j:Nat}{x:Str}(a:N[i]?=some x)(b:N[j]?=some x):i=j:=by
 obtain⟨h1,e1⟩:=List.getElem?_eq_some_iff.mp a
 obtain⟨h2,e2⟩:=List.getElem?_eq_some_iff.mp b
 exact (List.getElem_inj hN).mp (e1.trans e2.symm)
theorem kG {M:Model}{A:Around}{E:Value->Shared->Prop}{i:Nat}{x:Str}{v:V}{u:Value}{Q:Unit->Shared->Prop}(I:Inv X pins σ H s)(hN:X.N.Nodup)(hi:X.N[i]?=some x)(hx:Nf X.env.scope x)(r:iQ v u)
  (h:∀s',Inv X pins (σ.set i (some v)) H s'->(∃a,Heap.SameBut a s.heap s'.heap/\(a=X.env.locals\/X.env.cells.lookup x=some a))->Q () s') (hf:X.fn x=true\/X.env.scope.names.lookup x=some .local:=by first|exact .inl rfl|exact .inr rfl|assumption):wpAny M A (storeName X.env x u) Q E s:=by
 obtain⟨m,hn,hl⟩:=id I.loc
 have hcls:(X.env.scope.kind==.class || (X.env.scope.kind==.module&&X.env.locals != X.env.globals))=false:=by rw[I.ok.kind];rfl
 have hiσ:i<σ.length:=by rw[I.len];exact (List.getElem?_eq_some_iff.mp hi).1
 have cne:=I.cne
 have tracked:∀{a:Addr} {h':Heap},(∃o,s.heap.get? a=some o/\H a=none)->Heap.SameBut a s.heap h'->HOk X.prog X.w H h':=fun {a h'} ha hs b ob e=>by
  obtain⟨_,_,hfree⟩:=ha
  refine (I.hok b ob e).stay (fun c w' hc q=>(hs.2 c ?_).trans q) (fun _ q=>q) fun _ _ q=>q
  rintro rfl
  rcases hc with rfl|hc
  ·rw[hfree] at e;cases e
  ·rw[hfree] at hc;cases hc
 rcases hx with hk|hk
 ·refine wpAny_storeName_local hk hn (fun h' hn' hs=>?_) hcls
  obtain⟨oL,_,_,hoL,_⟩:=id hn
  refine h _ ⟨I.ok,I.os,I.bare,⟨fun b o e n hb hx=>?_,fun b o e n hb hx=>?_,I.base.free,fun b o e hx=>?_,I.base.tups,I.base.frzs,I.base.tbls⟩,⟨_,hn',fun j y v' e1 e2 e3=>?_⟩,fun y c e=>?_,I.free,I.freeC,fun p hp=>?_,tracked ⟨oL,hoL,I.free⟩ hs,by simpa using I.len⟩ ⟨_,hs,.inl rfl⟩
  ·exact (hs.2 b (Nat.ne_of_lt (Nat.lt_of_lt_of_le (Heap.lt_size e) I.ok.above))).trans (I.base.keep b o e n hb hx)
  ·obtain⟨sl,e1⟩:=I.base.slot b o e n hb hx
   exact⟨sl,(hs.2 b (Nat.ne_of_lt (Nat.lt_of_lt_of_le (Heap.lt_size e) I.ok.above))).trans e1⟩
  ·obtain⟨o',e1⟩:=I.base.there b o e hx
   exact⟨o',(hs.2 b (Nat.ne_of_lt (Nat.lt_of_lt_of_le (Heap.lt_size e) I.ok.above))).trans e1⟩
  ·by_cases hj:j=i
   ·subst hj
    rw[hi] at e1;cases e1
    rw[List.getElem?_set_self hiσ] at e2
    cases e2
    exact⟨u,r,.inl ⟨hk,by simp⟩⟩
   ·rw[List.getElem?_set_ne (Ne.symm hj)] at e2
    obtain⟨u',r',q⟩:=hl j y v' e1 e2 e3
    refine⟨u',r',?_⟩
    rcases q with ⟨k,e⟩|⟨k,c,e,z⟩
    ·refine .inl ⟨k,?_⟩
     have:y≠x:=fun e=>hj (uI hN e1 (e▸hi))
     simp[this,e]
    ·exact .inr ⟨k,c,e,z.sameBut hs (cne y c e)⟩
  ·obtain⟨w',z⟩:=I.cell y c e
   exact⟨w',z.sameBut hs (cne y c e)⟩
  ·obtain⟨e,n,ne,nf,d⟩:=I.pin p hp
   exact⟨(hs.2 p.1 ne).trans e,n,ne,nf,d⟩
 ·have hfn:X.fn x=true:=by
   rcases hf with z|z
   ·exact z
   ·rw[z] at hk;cases hk
  obtain⟨c,hc⟩:=I.ok.has x (.inl hk)
  obtain⟨w',z⟩:=I.cell x c hc
  refine wpAny_storeName_cell I.ok.kind hk hc z (fun h' hc' hs=>?_)
  obtain⟨oc,hoc,hocd⟩:=id z
  refine h { s with heap:=h' } ⟨I.ok,I.os,I.bare,⟨fun b o e n hb hx=>?_,fun b o e n hb hx=>?_,I.base.free,fun b o e hx=>?_,I.base.tups,I.base.frzs,I.base.tbls⟩,⟨m,hn.sameBut hs (Ne.symm (cne x c hc)),fun j y v' e1 e2 e3=>?_⟩,fun y c' e=>?_,I.free,I.freeC,fun p hp=>?_,tracked ⟨oc,hoc,I.freeC x c hc⟩ hs,by simpa using I.len⟩ ⟨c,hs,.inr hc⟩
  ·exact (hs.2 b (Nat.ne_of_lt (Nat.lt_of_lt_of_le (Heap.lt_size e) (I.ok.cab x c hfn hc)))).trans (I.base.keep b o e n hb hx)
  ·obtain⟨sl,e1⟩:=I.base.slot b o e n hb hx
   exact⟨sl,(hs.2 b (Nat.ne_of_lt (Nat.lt_of_lt_of_le (Heap.lt_size e) (I.ok.cab x c hfn hc)))).trans e1⟩
  ·obtain⟨o',e1⟩:=I.base.there b o e hx
   exact⟨o',(hs.2 b (Nat.ne_of_lt (Nat.lt_of_lt_of_le (Heap.lt_size e) (I.ok.cab x c hfn hc)))).trans e1⟩
  ·by_cases hj:j=i
   ·subst hj
    rw[hi] at e1;cases e1
    rw[List.getElem?_set_self hiσ] at e2
    cases e2
    exact⟨u,r,.inr ⟨.inl hk,c,hc,hc'⟩⟩
   ·rw[List.getElem?_set_ne (Ne.symm hj)] at e2
    obtain⟨u',r',q⟩:=hl j y v' e1 e2 e3
    refine⟨u',r',?_⟩
    rcases q with q|⟨k,c',e,z'⟩
    ·exact .inl q
    ·refine .inr ⟨k,c',e,z'.sameBut hs ?_⟩
     rintro rfl
     exact hj (uI hN e1 (I.ok.inj _ _ _ e hc▸hi))
  ·by_cases hcc:c'=c
   ·subst hcc;exact⟨_,hc'⟩
   ·obtain⟨w2,z2⟩:=I.cell y c' e
    exact⟨w2,z2.sameBut hs hcc⟩
  ·obtain⟨e,n,ne,nf,d⟩:=I.pin p hp
   refine⟨(hs.2 p.1 ?_).trans e,n,ne,nf,d⟩
   intro q
   rw[q,hoc] at e
   have q':oc=p.2:=Option.some.inj e
   exact d w' (by rw[←q'];exact hocd)
theorem Inv.call' {s':Shared}{ch:List Addr}(I:Inv X pins σ H s)(ho:s'.os=s.os)(u:Un (oT X.stack) ch H H' s.heap s'.heap)(hok:HOk X.prog X.w H' s'.heap)(hg:AllBare s'.gens)
  (hch:∀b∈ch,(b∈X.ex\/X.s₀.heap.objs.size≤b)/\b≠X.env.locals/\(∀x c,X.env.cells.lookup x=some c->c≠b)/\∀p∈X.pn++pins,p.1≠b):Inv X pins σ H' s':=by
 obtain⟨h',g',d',t',o'⟩:=s'
 have e:o'=s.os:=ho
 subst e
 exact I.call (g':=g') (t':=t') (d':=d') u hok hg hch
end
noncomputable abbrev XK:=Value->Option Addr->Hp->Prop
noncomputable abbrev St:=List (Option V)
noncomputable abbrev VK:=V->Hp->Prop
noncomputable abbrev TE:=St->Hp->VK->Prop
noncomputable abbrev TT:=St->Hp->(Bool->Hp->Prop)->Prop
noncomputable abbrev TA:=St->Hp->(List V->Hp->Prop)->Prop
structure Ends where
 nx:St->Hp->Prop
 rt:VK
 bk:St->Hp->Prop:=fun _ _=>False
 ct:St->Hp->Prop:=fun _ _=>False
noncomputable abbrev TS:=Ends->St->Hp->Prop
noncomputable def EP (X:Cx)(pins:List (Addr×Obj))(σ:St)(Q:VK)(u:Value)(s':Shared):Prop:=∃v H',Inv X pins σ H' s'/\iQ v u/\Q v H'
noncomputable def PE (X:Cx)(e:Expr)(t:TE):Prop:=
 ∀(pins:List (Addr×Obj)) (s:Shared) (σ:St) (H:Hp) (Q:VK),Inv X pins σ H s->t σ H Q->wpAny (model X.prog X.w) X.A (eval e X.env) (EP X pins σ Q) X.xe s
theorem aB {α:Type}{t:Sem α}{Q Q':α->Shared->Prop}{M:Model}{A:Around}{E:Value->Shared->Prop}{s:Shared}(h:wpAny M A t Q E s)(hQ:∀a s,Q a s->Q' a s):wpAny M A t Q' E s:=wpAny_mono h hQ fun _ _ x=>x
end L2
namespace L2
open PySem PySem.Spec PyProof.Rows
section
variable {X:Cx}
theorem Nv {a b:Expr}{ta tb:TE}(ha:PE X a ta)(hb:PE X b tb){pins:List (Addr×Obj)}{s:Shared}{σ:St}{H:Hp}{R:V->V->Hp->Prop}(I:Inv X pins σ H s)(h:ta σ H fun x H1=>tb σ H1 fun y H2=>R x y H2)
  {α:Type} {Q:α->Shared->Prop} {f:Value->Value->Sem α}
  (hf:∀v u s2 x y H2,Inv X pins σ H2 s2->iQ x v->iQ y u->R x y H2->wpAny (model X.prog X.w) X.A (f v u) Q X.xe s2) :
  wpAny (model X.prog X.w) X.A (eval a X.env) (fun v s₁=>wpAny (model X.prog X.w) X.A (eval b X.env) (fun u s₂=>wpAny (model X.prog X.w) X.A (f v u) Q X.xe s₂) X.xe s₁) X.xe s:=by
 refine aB (ha pins s σ H _ I h) fun v s1 ⟨x,H1,I1,r1,q1⟩=>?_
 refine aB (hb pins s1 σ H1 _ I1 q1) fun u s2 ⟨y,H2,I2,r2,q2⟩=>?_
 exact hf v u s2 x y H2 I2 r1 r2 q2
noncomputable def Ji (i:Nat):TE:=fun σ H Q=>∃v,σ[i]?=some (some v)/\Q v H
theorem IB {i:Nat}{x:Str}{pos:Pos}(hN:X.N[i]?=some x)(hv:rL X.env.scope x)(hd:(x==("__debug__" : Str))=false:=by decide)(hcd:(x==("__classdict__" : Str))=false:=by decide):PE X (.Name x pos) (Ji i):=by
 intro pins s σ H Q I h
 obtain⟨v,e,h⟩:=h
 obtain⟨m,hn,hl⟩:=I.loc
 obtain⟨u,r,l⟩:=hl i x v hN e hv
 have fin:EP X pins σ Q u s:=⟨v,H,I,r,h⟩
 rcases l with ⟨hk,hm⟩|⟨hk,c,hc,hcell⟩
 ·exact wpAny_Name (wpAny_loadName_local I.ok.kind hk hn hm fin) hd
 ·rcases hk with hk|hk
  ·exact wpAny_Name (wpAny_loadName_cell I.ok.kind hk hc hcell fin) hd
  ·exact wpAny_Name (wpAny_loadName_free I.ok.kind hk hc hcell fin hcd) hd
noncomputable def Gl (X:Cx)(x:Str):Prop:=X.env.kindOf x=some .globalImplicit
theorem oe {E:Value->Shared->Prop}{pins:List (Addr×Obj)}{s:Shared}{σ:St}{H:Hp}{x:Str}{u:Value}{pos:Pos}{Q:Value->Shared->Prop}(I:Inv X pins σ H s)(hg:Gl X x)(hm:X.mg x=some u)(h:Q u s)
  (hd:(x==("__debug__" : Str))=false:=by decide):wpAny (model X.prog X.w) X.A (eval (.Name x pos) X.env) Q E s:=
 Calls.Name_function_global I.ok.kind hg (Calls.loadGlobal_global (by rw[I.ok.glob];exact I.mod.glob.keeps I.bk) hm h) hd
theorem lE {E:Value->Shared->Prop}{pins:List (Addr×Obj)}{s:Shared}{σ:St}{H:Hp}{x:Str}{u:Value}{pos:Pos}{Q:Value->Shared->Prop}(I:Inv X pins σ H s)(hg:Gl X x)(hm:X.mg x=none)(hv:bootBuiltins x=some u)(h:Q u s)
  (hn:x ≠ "__name__":=by decide) (hd:(x==("__debug__" : Str))=false:=by decide):wpAny (model X.prog X.w) X.A (eval (.Name x pos) X.env) Q E s:=by
 obtain⟨mb,h1,h2⟩:=I.mod.blt
 exact Calls.Name_function_global I.ok.kind hg (Calls.loadGlobal_builtin (by rw[I.ok.glob];exact I.mod.glob.keeps I.bk) hm (by rw[I.ok.blt];exact h1.keeps I.bk) ((h2 x hn).trans hv) h) hd
noncomputable def Nj (ta tb:TE)(k:Int->Int->Hp->Prop):St->Hp->Prop:=fun σ H=>ta σ H fun x H1=>tb σ H1 fun y H2=>∃i j,x=.int i/\y=.int j/\k i j H2
variable {a b:Expr}{ta tb:TE}{pos:Pos}
noncomputable def PC (X:Cx)(op:CmpOp)(a b:Expr)(t:TE):Prop:=
 ∀(pins:List (Addr×Obj)) (s:Shared) (σ:St) (H:Hp) (Q:VK),Inv X pins σ H s->t σ H Q →
  wpAny (model X.prog X.w) X.A (eval a X.env) (fun v s₁=>wpAny (model X.prog X.w) X.A (eval b X.env) (fun u s₂=>wpAny (model X.prog X.w) X.A (compareOp op v u) (EP X pins σ Q) X.xe s₂) X.xe s₁) X.xe s
noncomputable def Jb (p:Int->Int->Bool)(ta tb:TE):TE:=fun σ H Q=>Nj ta tb (fun i j H2=>Q (.bl (p i j)) H2) σ H
noncomputable abbrev Ng:TE->TE->TE:=Jb fun i j=>decide (i≤j)
theorem IH {op:CmpOp}{p:Int->Int->Bool}(ha:PE X a ta)(hb:PE X b tb)
  (rule:∀(i j:Int) (t u:Tok) (Q:Value->Shared->Prop) (s:Shared),Q (.bool (p i j)) s->wpAny (model X.prog X.w) X.A (compareOp op (.int i t) (.int j u)) Q X.xe s):PC X op a b (Jb p ta tb):=by
 intro pins s σ H Q I h
 refine Nv ha hb I h fun v u s2 x y H2 I2 rx ry q=>?_
 obtain⟨i,j,rfl,rfl,q⟩:=q
 obtain⟨t,rfl⟩:=rx
 obtain⟨t',rfl⟩:=ry
 exact rule i j t t' _ s2 ⟨.bl _,H2,I2,rfl,q⟩
theorem FH (ha:PE X a ta)(hb:PE X b tb):PC X .LtE a b (Ng ta tb):=IH ha hb fun _ _ _ _ _ _ h=>le_int h
variable {tA tB':TT}{jc:List Expr}
end
end L2
namespace L2
open PySem PySem.Spec PyProof.Rows
noncomputable def Nc (K:PySem.W.Frag)(H:Hp)(a:Addr)(xs:List V):Prop:=
 Rd H a (.lst xs) ∨
  ∃(o:Obj) (its:Array Value) (n:Nat),K.lookup a=some o/\o.cls=.type "list"/\o.dict=none/\o.data=.seq its n/\its.size≤sizeLine/\Vals xs its.toList
noncomputable def Lx (K:PySem.W.Frag)(H:Hp)(a:Addr)(xs:List V):Prop:=
 Rd H a (.tup xs) ∨
  ∃(o:Obj) (its:Array Value) (n:Nat),K.lookup a=some o/\o.cls=.type "tuple"/\o.data=.seq its n/\its.size≤sizeLine/\Vals xs its.toList
section
variable {X:Cx}{pins:List (Addr×Obj)}{σ:St}{H:Hp}{s:Shared}{a:Addr}{xs ys:List V}
end
section
variable {X:Cx}{pins:List (Addr×Obj)}{σ:St}{H:Hp}{s:Shared}{E:Value->Shared->Prop}
end
section
variable {X:Cx}{st:Stmt}{jc:List Stmt}{t u:TS}{e:Expr}{te:TE}{pos:Pos}
theorem Inv.quiet {pins:List (Addr×Obj)}{σ:St}{H:Hp}{s:Shared}(I:Inv X pins σ H s):interactive X.env=false:=by simp[interactive,I.ok.kind]
end
noncomputable def jC (X:Cx)(pins:List (Addr×Obj))(H:Hp)(b:Addr):Prop:=
 H b=none/\b≠X.env.locals/\b∉X.fs/\(b∈X.ex\/X.s₀.heap.objs.size≤b)/\(∀x c,X.env.cells.lookup x=some c->c≠b)/\∀p∈X.pn++pins,p.1≠b
theorem Inv.fpOk {X:Cx}{pins:List (Addr×Obj)}{σ:St}{H H':Hp}{s:Shared}{b:Addr}(I:Inv X pins σ H s)(hb:s.heap.objs.size≤b)(hn:H' b=none):jC X pins H' b:=by
 refine⟨hn,Nat.ne_of_gt (Nat.lt_of_lt_of_le I.lt hb),I.nofs hb,.inr (Nat.le_trans I.sz hb),fun x c e z=>?_,fun p hp z=>?_⟩
 ·obtain⟨v,q⟩:=I.cell x c e
  exact absurd (Nat.lt_of_lt_of_le q.lt (by rw[z];exact hb)) (Nat.lt_irrefl _)
 ·exact absurd (Nat.lt_of_lt_of_le (Heap.lt_size (I.pin p hp).1) (by rw[z];exact hb)) (Nat.lt_irrefl _)
theorem t8 {M:Model}{A:Around}{E:Value->Shared->Prop}{s:Shared}{tg:Expr}{it:Addr}{u:Value}{o:Obj}{n:String}{vs:Array Value}{Q:Unit->Shared->Prop}(ho:s.heap.get? it=some o)(hc:o.cls=.type n)(hd:o.data=.fields vs)
  (hn:["enumerate","zip","dict_itemiterator","dict_reverseitemiterator","odict_iterator","itertools.zip_longest","itertools.pairwise"].contains n=false) (hQ:Q () s):wpAny M A (letOwnedTupleGo tg (.ref it) u) Q E s:=by
 unfold letOwnedTupleGo
 cases tg<;>first
  |exact wpAny_pure hQ
  |(cases u<;>first
    |exact wpAny_pure hQ
    |(refine wpAny_bind (wpAny_load ho ?_)
      rw[hc,hd]
      show wpAny M A (if (["enumerate","zip","dict_itemiterator","dict_reverseitemiterator","odict_iterator","itertools.zip_longest","itertools.pairwise"].contains n&&vs[0]?==some (rawInt _))=true then _ else _) Q E s
      rw[if_neg (by intro h;rw[hn,Bool.false_and] at h;cases h)]
      exact wpAny_pure hQ))
end L2
namespace L2
open PySem PySem.Spec PyProof.Rows
section
variable {X:Cx}{tg:Expr}
noncomputable def lg (fp:List Addr)(h:Heap):List (Addr×Obj):=fp.filterMap fun b=>(h.get? b).map fun o=>(b,o)
theorem vy {fp:List Addr}{h:Heap}{b:Addr}{o:Obj}(hb:b∈fp)(e:h.get? b=some o):(b,o)∈lg fp h:=List.mem_filterMap.mpr ⟨b,hb,by rw[e];rfl⟩
theorem zD {fp:List Addr}{h:Heap}{p:Addr×Obj}(hp:p∈lg fp h):p.1∈fp/\h.get? p.1=some p.2:=by
 obtain⟨b,hb,e⟩:=List.mem_filterMap.mp hp
 cases q:h.get? b with
 |none=>rw[q] at e;cases e
 |some o=>
  rw[q] at e
  have e':(b,o)=p:=Option.some.inj e
  subst e'
  exact⟨hb,q⟩
theorem Inv.pinned {pins:List (Addr×Obj)}{σ:St}{H:Hp}{s:Shared}{fp:List Addr}(I:Inv X pins σ H s)(hf:∀b∈fp,jC X pins H b)(ho:∀b∈fp,∃o,s.heap.get? b=some o/\∀v,o.data≠.cell v):Inv X (pins++lg fp s.heap) σ H s:=
 I.pins_of fun p hp=>(List.mem_append.mp hp).elim (fun z=>I.pin p (List.mem_append_right _ z)) fun z=>by
  obtain⟨hb,e⟩:=zD z
  obtain⟨f0,f1,f2,_⟩:=hf p.1 hb
  obtain⟨o,e',d⟩:=ho p.1 hb
  rw[e] at e';cases e'
  exact⟨e,f0,f1,f2,d⟩
theorem Inv.unpinned {pins pl:List (Addr×Obj)}{σ:St}{H:Hp}{s:Shared}(I:Inv X (pins++pl) σ H s):Inv X pins σ H s:=I.pins_of fun p hp=>I.pin p (List.mem_append_right _ (List.mem_append_left _ hp))
end
end L2
namespace L2
open PySem PySem.Spec PyProof.Rows
noncomputable abbrev R2:=V->V->Hp->VK->Prop
noncomputable def rI (C:Int->Int->Prop)(g:Int->Int->V):R2:=fun x y H Q=>∃i j,x=.int i/\y=.int j/\C i j/\Q (g i j) H
noncomputable def rU (g:Int->V):V->Hp->VK->Prop:=fun x H Q=>∃i,x=.int i/\Q (g i) H
section
variable {X:Cx}{a b c:Expr}{ta tb tc:TE}{pos:Pos}
noncomputable def CMul (i j:Int):Prop:=(-(2 ^ 64)<i/\i<2 ^ 64)\/(-(2 ^ 64)<j/\j<2 ^ 64)
theorem CMul.ok {i j:Int}(h:CMul i j):IntMulOk i j:=by
 rcases h with ⟨h1,h2⟩|⟨h1,h2⟩
 ·exact .of_left (intBits_le_64 h1 h2)
 ·exact .of_right (intBits_le_64 h1 h2)
theorem vP (k:Nat):(0:Int)≤2 ^ k:=by
 rw[two_pow_cast]
 exact Int.natCast_nonneg _
end
noncomputable def JP:V->V->Bool
 |.non,.non=>true|.non,.int _=>true|.int _,.non=>true|.non,.bl _=>true|.bl _,.non=>true|.non,.str _=>true|.str _,.non=>true
 |.int _,.int _=>true|.bl _,.bl _=>true|.str _,.str _=>true|.byt _,.byt _=>true
 |.int _,.str _=>true|.str _,.int _=>true|.bl _,.str _=>true|.str _,.bl _=>true
 |_,_=>false
noncomputable def mQ:R2:=fun x y H Q=>JP x y=true/\Q (.bl (decide (x=y))) H
noncomputable def oR:R2:=fun x y H Q=>JP x y=true/\Q (.bl (!decide (x=y))) H
section
variable {X:Cx}{a b c:Expr}{ta tb tc:TE}{pos:Pos}
theorem pg:(sizeLine:Nat)<2 ^ 63:=by rw[sizeLine_eq];decide
end
end L2
namespace L2
open PySem PySem.Spec PyProof.Rows
section
variable {X:Cx}{o e value:Expr}{f:Str}{pos pos' tpos:Pos}{ta tv:TE}
noncomputable def de:V->V->Hp->VK->Prop:=fun x y H Q=>∃i j,x=.int i/\y=.int j/\Q (.int (i+j)) H
noncomputable def zw:V->V->Hp->VK->Prop:=fun x y H Q=>∃i j,x=.int i/\y=.int j/\Q (.int (i - j)) H
end
section
variable {X:Cx}{pins:List (Addr×Obj)}{σ:St}{H:Hp}{s:Shared}{A:Around}{E:Value->Shared->Prop}{Q:Value->Shared->Prop}{c:Value}{b:Bool}
end
end L2
namespace L2
open PySem PySem.Spec PyProof.Rows
noncomputable abbrev Sp:=List V->Hp->VK->XK->Prop
noncomputable abbrev M5:=List Env->Hp->Shared->XK->Value->Shared->Prop
structure Env0 (P:Program)(w:World)(K:PySem.W.Frag)(mg:Str->Option Value)(base:Heap)(A:Around)(outer:List Env)(s:Shared)(H:Hp):Prop where
 frames:A.frames=some outer
 mod:Mod K mg base
 bs:∀b o,base.get? b=some o->s.heap.get? b=some o/\H b=none
 bsz:base.objs.size≤s.heap.objs.size
 funs:s.heap.FunFrames base outer
 frf:∀b∈oT outer,H b=none
 hok:HOk P w H s.heap
 bare:AllBare s.gens
section
variable {X:Cx}{pins:List (Addr×Obj)}{σ:St}{H:Hp}{s s':Shared}
theorem Inv.env0 (I:Inv X pins σ H s):Env0 X.prog X.w X.K X.mg X.base X.A X.stack s H:=
 ⟨I.ok.frames,I.ok.mod,I.bs,Nat.le_trans I.ok.bsz I.sz,I.stack,I.stkFree,I.hok,I.bare⟩
end
noncomputable def Binds (K:PySem.W.Frag)(fd:FuncData)(ps:List Str)(ds:List Value):Prop:=
 ∀(s:Shared) (us:List Value),K.In s.heap->(us++ds).length=ps.length->BindsTo s fd ⟨us,[]⟩ (ps.zip (us++ds))
theorem Binds.all {K:PySem.W.Frag}{fd:FuncData}{ps:List Str}(h:∀us:List Value,us.length=ps.length->bindArgs fd ⟨us,[]⟩=pure (ps.zip us)):Binds K fd ps []:=fun s us _ hl=>by
 rw[List.append_nil] at hl ⊢
 exact .of_eq (h us hl)
section
variable {X:Cx}{CX:M5}{k:Nat}{f C:Addr}{fd:FuncData}{ps:List Str}{sp:Sp}{dvs:List V}{ds:List Value}{E:XK}{x m:Str}{p pos apos:Pos}{e o:Expr}{es:List Expr}{ta:TE}{t:TA}
end
section
variable {X:Cx}{CX:M5}{k:Nat}{f C:Addr}{fd:FuncData}{ps ks:List Str}{sp:Sp}{E:XK}{x m:Str}{p pos apos kpos:Pos}{e o:Expr}{es:List Expr}{kws:List Keyword}{te ta:TE}{t tk:TA}{nm:Option Str}
variable {g:List Value->List Value->List Value}{gV:List V->List V->List V}
end
structure FnScope (N P:List Str)(sc:Scope):Prop where
 kind:sc.kind=.function
 co:sc.isCoroutine=false
 gen:sc.isGenerator=false
 nd:N.Nodup
 pre:N.take P.length=P
 par:∀x∈P,sc.names.lookup x=some .local\/sc.names.lookup x=some .cell
 nofree:∀y∈sc.names,y.2≠.free
theorem rV {kindOf:Str->Option NameKind}{x:Str}:∀{binds:List (Str×Value)} {m:Str->Option Value},(∀v,(x,v)∉binds)->bindL kindOf binds m x=m x
 |[],_,_=>rfl
 |(n,v)::r,m,h=>by
  unfold bindL
  rw[rV fun w hw=>h w (List.mem_cons_of_mem _ hw)]
  split
  ·have:x≠n:=by rintro rfl;exact h v List.mem_cons_self
   simp[this]
  ·rfl
theorem rN {kindOf:Str->Option NameKind}{x:Str}:∀{binds:List (Str×Value)} {m:Str->Option Value},(∀v,(x,v)∉binds)->bindC kindOf binds m x=m x
 |[],_,_=>rfl
 |(n,v)::r,m,h=>by
  unfold bindC
  rw[rN fun w hw=>h w (List.mem_cons_of_mem _ hw)]
  split
  ·rfl
  ·have:x≠n:=by rintro rfl;exact h v List.mem_cons_self
   simp[this]
theorem q9 {kindOf:Str->Option NameKind}{x:Str}{v:Value}:∀{P:List Str} {vs:List Value} {i:Nat} {m:Str->Option Value},P.Nodup->P[i]?=some x->vs[i]?=some v->kindOf x=some .local →
  bindL kindOf (P.zip vs) m x=some v
 |[],_,_,_,_,h,_,_=>by simp at h
 |_::_,[],_,_,_,_,h,_=>by simp at h
 |p::P,w::vs,0,m,nd,h1,h2,hk=>by
  simp at h1 h2;subst h1;subst h2
  show bindL kindOf ((p,w)::P.zip vs) m p=_
  unfold bindL
  rw[rV fun v hv=>(List.nodup_cons.mp nd).1 (List.of_mem_zip hv).1,if_pos hk]
  simp
 |p::P,w::vs,i+1,m,nd,h1,h2,hk=>by
  show bindL kindOf ((p,w)::P.zip vs) m x=_
  unfold bindL
  exact q9 (i:=i) (List.nodup_cons.mp nd).2 (by simpa using h1) (by simpa using h2) hk
theorem ro {kindOf:Str->Option NameKind}{x:Str}{v:Value}:∀{P:List Str} {vs:List Value} {i:Nat} {m:Str->Option Value},P.Nodup->P[i]?=some x->vs[i]?=some v->kindOf x≠some .local →
  bindC kindOf (P.zip vs) m x=some v
 |[],_,_,_,_,h,_,_=>by simp at h
 |_::_,[],_,_,_,_,h,_=>by simp at h
 |p::P,w::vs,0,m,nd,h1,h2,hk=>by
  simp at h1 h2;subst h1;subst h2
  show bindC kindOf ((p,w)::P.zip vs) m p=_
  unfold bindC
  rw[rN fun v hv=>(List.nodup_cons.mp nd).1 (List.of_mem_zip hv).1,if_neg hk]
  simp
 |p::P,w::vs,i+1,m,nd,h1,h2,hk=>by
  show bindC kindOf ((p,w)::P.zip vs) m x=_
  unfold bindC
  exact ro (i:=i) (List.nodup_cons.mp nd).2 (by simpa using h1) (by simpa using h2) hk
noncomputable def iI (N:List Str)(vs:List V):St:=vs.map some++List.replicate (N.length - vs.length) none
theorem tQ {sc:Scope}{n:Nat}{x:Str}(h:sc.names.lookup x=some .cell):∃c,(cellsFrom n sc.names []).lookup x=some c:=by
 have q:=PySem.W.cellsFrom_some sc.names n [] (.inl h)
 exact Option.isSome_iff_exists.mp q
end L2
namespace L2
open PySem PySem.Spec PyProof.Rows
end L2
namespace HT
open PySem PyProof.Rows
noncomputable def lexLt:List Int->List Int->Bool
 |[],[]=>false
 |[],_::_=>true
 |_::_,[]=>false
 |x::xs,y::ys=>if x=y then lexLt xs ys else decide (x<y)
section
variable {prog:Program}{w:World}{A:Around}{E:Value->Shared->Prop}{s:Shared}
theorem cat_tup {t b:Addr}{vs ws:List Value}{Q:Value->Shared->Prop}(ht:IsTup s.heap t vs.toArray)(hb:IsTup s.heap b ws.toArray)(hv:vs≠[])
  (h1:ws=[]->Q (.ref t) s) (h2:ws≠[]->Q (.ref s.heap.objs.size) { s with heap:=s.heap.push { cls:=.type "tuple",data:=.seq (vs++ws).toArray } })
  (hsz:vs.length+ws.length≤sizeLine):wpAny (model prog w) A (binaryOp .Add (.ref t) (.ref b)) Q E s:=by
 obtain⟨⟨cls,dd,data,sl⟩,ho,hc,n,hd⟩:=id ht
 obtain⟨⟨cls2,dd2,data2,sl2⟩,ho2,hc2,n2,hd2⟩:=id hb
 simp only at hc hd hc2 hd2
 subst hc hd hc2 hd2
 have e:vs.toArray++ws.toArray=(vs++ws).toArray:=by simp
 by_cases hw:ws=[]
 ·exact concat_meets ⟨_,ho,rfl⟩ ⟨_,ho2,rfl⟩ noFill_tuple_add seq_tuple_add PySem.F.slot_tuple_add PySem.F.entry_tuple_add (PySem.F.args_tuple_add_2 _ _)
   (tuple_addW1 t b vs.toArray ws.toArray n n2 dd dd2 sl sl2 (by simpa using hv) (by simp[hw])) ⟨ho,ho2,h1 hw⟩
 ·refine concat_meets ⟨_,ho,rfl⟩ ⟨_,ho2,rfl⟩ noFill_tuple_add seq_tuple_add PySem.F.slot_tuple_add PySem.F.entry_tuple_add (PySem.F.args_tuple_add_2 _ _)
   (tuple_addW2 t b vs.toArray ws.toArray n n2 dd dd2 sl sl2 (by simpa using hv) (by simpa using hw) (by rw[List.size_toArray,List.size_toArray];exact hsz)) ⟨ho,ho2,?_⟩
  rw[e]
  exact h2 hw
noncomputable def sIx (n d:Nat):Option Int->Nat
 |none=>d
 |some v=>if v<0 then (v+(n:Int)).toNat else min v.toNat n
theorem sIx_none (n d:Nat):sIx n d none=d:=rfl
theorem sIx_nat (n d k:Nat):sIx n d (some (k:Int))=min k n:=by
 show (if (k:Int)<0 then ((k:Int)+(n:Int)).toNat else min (k:Int).toNat n)=min k n
 rw[if_neg (by omega),Int.toNat_natCast]
theorem HD (n d:Nat)(hd:d≤n)(o:Option Int):sIx n d o≤n:=by
 cases o with
 |none=>exact hd
 |some v=>
  show (if v<0 then (v+(n:Int)).toNat else min v.toNat n)≤n
  by_cases hv:v<0
  ·rw[if_pos hv];omega
  ·rw[if_neg hv];exact Nat.min_le_right _ _
theorem yd (v:Int)(n d:Nat):(if v<0 then max (v+(n:Int)) 0 else min v (n:Int))=((sIx n d (some v):Nat):Int):=by
 show (if v<0 then max (v+(n:Int)) 0 else min v (n:Int))=(((if v<0 then (v+(n:Int)).toNat else min v.toNat n):Nat):Int)
 by_cases hv:v<0
 ·simp only[if_pos hv];omega
 ·simp only[if_neg hv];omega
theorem vV (lo hi:Option Int)(n:Nat):Builtin.Slice.sliceAdjust lo hi 1 (n:Int)=(((sIx n 0 lo:Nat):Int),((sIx n n hi:Nat):Int)):=by
 have h1:¬((1:Int)<0):=by omega
 unfold Builtin.Slice.sliceAdjust
 simp only[h1,if_false]
 refine Prod.ext ?_ ?_
 ·cases lo with
  |none=>rfl
  |some v=>exact yd v n 0
 ·cases hi with
  |none=>rfl
  |some v=>exact yd v n n
theorem vH (i j:Nat):Builtin.Slice.slicePlaces (i:Int) (j:Int) 1=j - i:=by
 unfold Builtin.Slice.slicePlaces
 have h1:(1:Int) > 0:=by omega
 simp only[h1,if_true,Int.ediv_one]
 split<;>omega
theorem slicePart_ {v:Value}{o:Option Int}{Q:Option Int->Shared->Prop}(p:IsPart v o)(h:Q o s):wpAny (model prog w) A (Builtin.Slice.slicePartIndex v) Q E s:=by
 cases p with
 |none=>exact slicePart_none h
 |int i t=>exact slicePart_int h
theorem jy {sl:Addr}{vl vu:Value}{lo hi:Option Int}{n:Nat}{Q:Int×Int×Nat->Shared->Prop}(hs:s.heap.IsSliceOf sl vl vu .none)(pl:IsPart vl lo)(pu:IsPart vu hi)
  (h:Q (((sIx n 0 lo:Nat):Int),1,sIx n n hi - sIx n 0 lo) s):wpAny (model prog w) A (Builtin.Slice.sliceApplied (.ref sl) (pure (n:Int))) Q E s:=by
 obtain⟨os,hos,hcs,hds⟩:=id hs
 unfold Builtin.Slice.sliceApplied Builtin.Slice.sliceFields
 refine wpAny_bind (wpAny_bind (wpAny_field hos hds (x:=vl) rfl (wpAny_bind (wpAny_field hos hds (x:=vu) rfl (wpAny_bind (wpAny_field hos hds (x:=.none) rfl (wpAny_pure ?_)))))))
 refine wpAny_bind (slicePart_none ?_)
 show wpAny _ _ (if ((1:Int)==0)=true then _ else _) _ _ s
 rw[if_neg (by decide)]
 refine wpAny_bind (slicePart_ pl (wpAny_bind (slicePart_ pu (wpAny_bind (wpAny_pure ?_)))))
 show wpAny _ _ (match Builtin.Slice.sliceAdjust lo hi 1 (n:Int) with|(lo,hi)=>pure (lo,(1:Int),Builtin.Slice.slicePlaces lo hi 1)) _ _ s
 rw[vV lo hi n]
 show wpAny _ _ (pure (((sIx n 0 lo:Nat):Int),(1:Int),Builtin.Slice.slicePlaces ((sIx n 0 lo:Nat):Int) ((sIx n n hi:Nat):Int) 1)) _ _ s
 rw[vH]
 exact wpAny_pure h
theorem Ac (xs:Array Value)(i k:Nat):((List.range k).filterMap fun (m:Nat)=>xs[((i:Int)+(m:Int) * 1).toNat]?).toArray=((xs.toList.drop i).take k).toArray:=by
 have e:(fun (m:Nat)=>xs[((i:Int)+(m:Int) * 1).toNat]?)=fun m=>xs[i+m]?:=by
  funext m
  have:((i:Int)+(m:Int) * 1).toNat=i+m:=by omega
  rw[this]
 rw[e]
 have:=pick_run xs i k
 rw[List.filterMap_map] at this
 have e2:((fun x=>xs[x]?) ∘ fun x=>i+x)=fun m=>xs[i+m]?:=rfl
 rw[e2] at this
 rw[this]
theorem getItem_tuple_cut {t sl:Addr}{items:Array Value}{vl vu:Value}{lo hi:Option Int}{Q:Value->Shared->Prop}(ht:IsTup s.heap t items)(hs:s.heap.IsSliceOf sl vl vu .none)(pl:IsPart vl lo)(pu:IsPart vu hi)
  (hw:¬(sIx items.size 0 lo=0/\sIx items.size items.size hi=items.size))
  (h:Q (.ref s.heap.objs.size) { s with heap:=s.heap.push { cls:=.type "tuple",data:=.seq ((items.toList.drop (sIx items.size 0 lo)).take (sIx items.size items.size hi - sIx items.size 0 lo)).toArray } })
  (hsz:items.size≤sizeLine):wpAny (model prog w) A (getItem (.ref t) (.ref sl)) Q E s:=by
 have htake:sizeOk (.seq ((items.toList.drop (sIx items.size 0 lo)).take (sIx items.size items.size hi - sIx items.size 0 lo)).toArray):=by
  show ((items.toList.drop (sIx items.size 0 lo)).take (sIx items.size items.size hi - sIx items.size 0 lo)).toArray.size≤sizeLine
  rw[List.size_toArray,List.length_take,List.length_drop,Array.length_toList]
  omega
 have hj:sIx items.size items.size hi≤items.size:=HD _ _ (Nat.le_refl _) hi
 obtain⟨os,hos,hcs,hds⟩:=id hs
 have hTs:s.TypeIs (.ref sl) "slice":=⟨os,hos,hcs⟩
 unfold getItem
 try with_reducible refine wpAny_holding ?_
 first|refine wpAny_bind (wpAny_pure ?_)|skip
 refine wpAny_bind (wpAny_sequenceKey ht.typeIs (by decide) ?_)
 refine wpAny_bind (wpAny_callSpecial?_slot (name:=Str.ofString "__getitem__") ht.typeIs PyProof.Rows.slot_tuple_getitem
  (wpAny_call_entry PyProof.Rows.slot_tuple_getitem ht.typeIs entry_tuple_getitem ?_ (args_tuple_getitem _ _)))
 show wpAny _ _ (Builtin.Tuple.tupleItemsOf (.ref t) >>= _) _ _ s
 refine wpAny_bind (tupleItemsOf_ ht ?_)
 refine wpAny_bind (wpAny_typeOf hTs ?_)
 rw[if_pos (by decide)]
 refine wpAny_bind (jy hs pl pu ?_)
 have hno:¬((((sIx items.size 0 lo:Nat):Int)==0&&(1:Int)==1&&(sIx items.size items.size hi - sIx items.size 0 lo)==items.size)=true):=by
  intro q
  rw[Bool.and_eq_true,Bool.and_eq_true] at q
  have q1:((sIx items.size 0 lo:Nat):Int)=0:=eq_of_beq q.1.1
  have q2:sIx items.size items.size hi - sIx items.size 0 lo=items.size:=eq_of_beq q.2
  exact hw ⟨by omega,by omega⟩
 show wpAny _ _ (if (((sIx items.size 0 lo:Nat):Int)==0&&(1:Int)==1&&(sIx items.size items.size hi - sIx items.size 0 lo)==items.size)=true then _ else _) _ _ s
 rw[if_neg hno,Ac]
 first
  |exact wpAny_bind (m:=Builtin.Tuple.tupleExact _) (wpAny_newObj_type (wpAny_pure ⟨_,rfl,wpAny_pure h⟩) htake)
  |exact wpAny_bind (m:=Builtin.Tuple.tupleExact _) (wpAny_newObj_type (wpAny_bind (wpAny_pure (wpAny_pure ⟨_,rfl,wpAny_pure h⟩))) htake)
  |exact wpAny_bind (wpAny_bind (m:=Builtin.Tuple.tupleExact _) (wpAny_newObj_type (wpAny_pure (wpAny_pure ⟨_,rfl,wpAny_pure h⟩)) htake))
  |exact wpAny_bind (wpAny_bind (m:=Builtin.Tuple.tupleExact _) (wpAny_newObj_type (wpAny_pure ⟨_,rfl,wpAny_pure h⟩) htake))
end
end HT
namespace L2
open PySem PySem.Spec PyProof.Rows
noncomputable abbrev TO:=St->Hp->(Option Int->Hp->Prop)->Prop
section
variable {X:Cx}{e:Expr}{te:TE}{lo hi:Option Expr}{tl th:TO}{pos p2:Pos}
noncomputable def zb (K:PySem.W.Frag):R2:=fun x y H Q=>∃a b ns ms,x=.ref a/\y=.ref b/\Lx K H a (ns.map V.int)/\Lx K H b (ms.map V.int)/\Q (.bl (HT.lexLt ns ms)) H
end
end L2
namespace L2
open PySem PySem.Spec PyProof.Rows
noncomputable def tV (n:Nat)(i:Int):Option Nat:=if 0≤i then (if i<n then some i.toNat else none) else if -(n:Int)≤i then some (i+n).toNat else none
noncomputable def eH {α:Type}(xs:List α)(i:Int):Option α:=(tV xs.length i).bind fun j=>xs[j]?
theorem xt {n:Nat}{i:Int}{j:Nat}(h:tV n i=some j):seqIndex? i n=some j/\j<n/\-(n:Int)≤i/\i<n:=by
 unfold tV at h
 by_cases h0:0≤i
 ·rw[if_pos h0] at h
  by_cases h1:i<n
  ·rw[if_pos h1] at h
   have e:i.toNat=j:=Option.some.inj h
   exact⟨by rw[seqIndex_of h0 h1,e],by omega,by omega,h1⟩
  ·rw[if_neg h1] at h;cases h
 ·rw[if_neg h0] at h
  by_cases h1:-(n:Int)≤i
  ·rw[if_pos h1] at h
   have e:(i+n).toNat=j:=Option.some.inj h
   exact⟨by rw[seqIndex_neg (by omega) h1,e],by omega,h1,by omega⟩
  ·rw[if_neg h1] at h;cases h
theorem yY {α:Type}{xs:List α}{i:Int}{v:α}(h:eH xs i=some v):∃j,seqIndex? i xs.length=some j/\xs[j]?=some v/\j<xs.length/\-(xs.length:Int)≤i/\i<xs.length:=by
 unfold eH at h
 cases e:tV xs.length i with
 |none=>rw[e] at h;cases h
 |some j=>
  rw[e] at h
  obtain⟨h1,h2,h3,h4⟩:=xt e
  exact⟨j,h1,h,h2,h3,h4⟩
theorem gF {α:Type}{xs:List α}{j:Nat}{v:α}(h:xs[j]?=some v):eH xs (j:Int)=some v:=by
 have hj:j<xs.length:=(List.getElem?_eq_some_iff.mp h).1
 have e:tV xs.length (j:Int)=some j:=by
  unfold tV
  rw[if_pos (by omega),if_pos (by omega)];simp
 unfold eH;rw[e];exact h
noncomputable def yE (b:Expr):Prop:=∀o i,subscripted b false o i=operate [o,i] (getItem o i)
section
variable {X:Cx}{a b:Expr}{ta tb:TE}{pos:Pos}
noncomputable def LX (K:PySem.W.Frag):R2:=fun x y H Q=>∃p xs i v,x=.ref p/\y=.int i/\Nc K H p xs/\eH xs i=some v/\Q v H
noncomputable def MB (K:PySem.W.Frag):R2:=fun x y H Q=>∃p xs i v,x=.ref p/\y=.int i/\Lx K H p xs/\eH xs i=some v/\Q v H
noncomputable def MF:R2:=fun x y H Q=>∃z i c,x=.str z/\y=.int i/\z.length≤sizeLine/\eH z.cps.toList i=some c/\Q (.str ⟨#[c]⟩) H
noncomputable def be (K:PySem.W.Frag):R2:=fun x y H Q=>LX K x y H Q\/MB K x y H Q\/MF x y H Q
theorem r3 (lo hi:Option Int)(n:Nat):(sliceBounds lo hi none n).1=((HT.sIx n 0 lo:Nat):Int)/\(sliceBounds lo hi none n).2.1=((HT.sIx n n hi:Nat):Int)/\(sliceBounds lo hi none n).2.2=1:=by
 refine⟨?_,?_,rfl⟩
 ·cases lo with
  |none=>simp[sliceBounds,HT.sIx]
  |some i=>
   simp only[sliceBounds,HT.sIx,Option.getD_none,show (1:Int) > 0 by decide,if_true]
   by_cases h:i<0
   ·simp only[h,if_true]<;>omega
   ·simp only[h,if_false]<;>omega
 ·cases hi with
  |none=>simp[sliceBounds,HT.sIx]
  |some i=>
   simp only[sliceBounds,HT.sIx,Option.getD_none,show (1:Int) > 0 by decide,if_true]
   by_cases h:i<0
   ·simp only[h,if_true]<;>omega
   ·simp only[h,if_false]<;>omega
theorem qM (its:List Value)(lo hi:Option Int):slicePick its.toArray lo hi none=((its.drop (HT.sIx its.length 0 lo)).take (HT.sIx its.length its.length hi - HT.sIx its.length 0 lo)).toArray:=by
 obtain⟨h1,h2,h3⟩:=r3 lo hi its.toArray.size
 unfold slicePick
 rw[h1,h2,h3]
 simp only[sliceRange_one,pick_run,List.size_toArray]<;>rfl
noncomputable def Gb:V->Bool
 |.non=>true
 |.bl _=>true
 |.int _=>true
 |.str _=>true
 |_=>false
noncomputable def Ff:V->V->Bool
 |.non,.non=>true
 |.bl a,.bl b=>a==b
 |.bl a,.int b=>(if a then 1 else 0)==b
 |.int a,.bl b=>a==(if b then 1 else 0)
 |.int a,.int b=>a==b
 |.str a,.str b=>a==b
 |_,_=>false
noncomputable def MW (x:V)(xs:List V):Bool:=xs.any fun y=>Ff y x
noncomputable def zu (K:PySem.W.Frag)(neg:Bool):R2:=fun x y H Q=>∃p xs,y=.ref p/\(Nc K H p xs\/Lx K H p xs)/\Gb x=true/\xs.all Gb=true/\Q (.bl (if neg then !MW x xs else MW x xs)) H
variable {o e:Expr}{es:List Expr}{to:TE}{t:TA}{name:Str}{apos cpos:Pos}{T id:String}{r:V->List V->Hp->VK->Prop}
end
end L2
namespace L2
open PySem PySem.Spec PyProof.Rows
theorem lh {α:Type}(l:List α):l.eraseIdx (l.length - 1)=l.dropLast:=by
 induction l with
 |nil=>rfl
 |cons a r ih=>
  cases r with
  |nil=>rfl
  |cons b r=>
   have e:(a::b::r).length - 1=((b::r).length - 1)+1:=by
    have h1:(a::b::r).length=r.length+2:=rfl
    have h2:(b::r).length=r.length+1:=rfl
    omega
   rw[e,List.eraseIdx_cons_succ,ih]
   all_goals rfl
theorem qT {α:Type}:∀(l:List α) (i:Nat),(l.eraseIdx i).length≤l.length
 |[],_=>Nat.le_refl _
 |_::_,0=>Nat.le_succ _
 |_::r,i+1=>Nat.succ_le_succ (qT r i)
theorem qU (its:List Value):∀(k:Nat) (acc:List Value),
  List.foldl (fun x1 x2=>x1++x2) acc.toArray (List.replicate k its.toArray)=(acc++(List.replicate k its).flatten).toArray
 |0,acc=>by simp
 |k+1,acc=>by
  have e:acc.toArray++its.toArray=(acc++its).toArray:=by simp
  have e2:(acc++its)++(List.replicate k its).flatten=acc++(List.replicate (k+1) its).flatten:=by
   rw[List.replicate_succ,List.flatten_cons,List.append_assoc]
  rw[←e2,←qU its k (acc++its),←e,List.replicate_succ,List.foldl_cons]
section
variable {X:Cx}{pins:List (Addr×Obj)}{σ:St}{H:Hp}{s:Shared}{l b:Addr}{xs ys zs:List V}
theorem CZ {n:Nat}(h:n≤sizeLine):Builtin.List.listTooLong n=false:=by
 unfold Builtin.List.listTooLong
 exact decide_eq_false (by omega)
end
section
variable {X:Cx}
theorem sO {α:Type}(xs:List α)(k:Nat):(List.replicate k xs).flatten.length=k * xs.length:=by
 induction k with
 |zero=>simp
 |succ k ih=>rw[List.replicate_succ,List.flatten_cons,List.length_append,ih,Nat.succ_mul,Nat.add_comm]
end
section
variable {prog:Program}{w:World}{A:Around}{E:Value->Shared->Prop}{s:Shared}
set_option maxRecDepth 100000 in
end
end L2
namespace Att
open PySem PySem.W PySem.Calls PyProof.Rows
theorem nB {P:Params}{h:Heap}:∀(ns:List Int) (vs:List Value),WellAll P h vs (ns.map WData.int)->IntsAre vs ns:=by
 intro ns
 induction ns with
 |nil=>
  intro vs w
  rw[List.map_nil] at w
  cases w
  exact .nil
 |cons n ns ih=>
  intro vs w
  rw[List.map_cons] at w
  cases w with
  |cons a b=>
   cases a
   exact .cons _ _ (ih _ b)
theorem zH {l:OpenLaw}{n:Nat}(hn:l.most=some n){P:Params}{h:Heap}{args:List WData}{vals:List Value}
  (hpre:l.row.toRowW.claim.pre args=true) (hwl:WellAll P h vals args) :
  ∃a vs ns,vals=[Value.ref a]/\args=[WData.list (ns.map WData.int)]/\h.get? a=some { cls:=.type "list",data:=.seq vs.toArray }/\IntsAre vs ns/\ns.length≤n:=by
 have hsh:WShape.hasAll [] args [.list .int]=true:=(pre_splitW hpre).1
 have hc:l.pre.holds [] { args:=args }=true:=(pre_splitW hpre).2
 obtain⟨d,r,rfl,h1,h2⟩:=hasAllW_cons hsh
 obtain rfl:=hasAllW_nil h2
 obtain⟨xs,rfl,h3⟩:=hasW_list h1
 obtain⟨ns,rfl⟩:=items_int h3
 have hlen:ns.length≤n:=by
  unfold OpenLaw.pre at hc
  have h4:(WTm.not (.lt (.lit (.int (n:Int))) (.len (.arg 0)))).holds [] { args:=[.list (ns.map .int)] }=true:=by
   have h4:=(holds_andW hc).1
   rw[hn] at h4
   exact h4
  have h5:=condW_of h4 (w_not (w_lt w_lit (w_len_list (w_arg rfl))))
  rw[List.length_map] at h5
  refine Nat.le_of_not_lt fun q=>?_
  have q':(n:Int)<((ns.length:Nat):Int):=by omega
  first
   |(rw[decide_eq_true q'] at h5;exact absurd h5 (by decide))
   |(simp at h5;omega)
 cases hwl with
 |cons w1 w2=>
  cases w2
  cases w1 with
  |list ho hall=>exact⟨_,_,ns,rfl,rfl,ho,nB ns _ hall,hlen⟩
theorem zV (l:OpenLaw)(args:List WData):l.row.toRowW.claim.post args (.bool true) args=true:=
 postW_of (r:=l.row.toRowW) (X:=(true==true))
  (show WShape.has [] (.bool true) .bool=true by first|rfl|decide|simp[WShape.has,WShape.arms,WShape.armsAll])
  (show (WTm.eq .res (.lit (.bool true))).value [] { args:=args,res:=some (.bool true),after:=args }=some (.bool (true==true)) from w_eq_bool (w_res rfl) w_lit) rfl
theorem attach_call {l:OpenLaw}{n:Nat}{q:Program}{loose:List Str}{XP:(Str->Option Value)->Heap->Prop}{YP:World->Heap->Prop}{d:DefRec}
  (hn:l.most=some n) (hdf:d.params.defaults=[])
  (call:∀(w:World) (s₀ s₁:Shared) (mg mb:Str->Option Value) (fa:Addr) (o:Obj) (pm cd doc:Value) (a:Addr) (vs:List Value) (ns:List Int),
   Ground q loose [] XP w s₀ mg mb s₁.heap->YP w s₁.heap →
   s₁.heap.get? fa=some o->o.data=.func (docDef d.name d.params d.body d.scope pm cd doc)->s₁.heap.CodeRec cd d.name->mg d.name=some (.ref fa) →
   s₁.heap.get? a=some { cls:=.type "list",data:=.seq vs.toArray }->IntsAre vs ns->ns.length≤n->s₁.gens = #[] →
   codeAny (model l.prog w) callerA (.call (.ref fa) ⟨[.ref a],[]⟩) (fun r s'=>r=.ok (.ret (.bool true))/\OldK s₁.heap s'.heap/\s'.os=s₁.os/\AllBare s'.gens) s₁) :
  WalkO q loose XP YP l.row.toRowW d [] (fun f vs=>PySem.call f vs):=by
 intro w s₀ s₁ mg mb G Y fa o pm cd doc dV kV ho hd hcd hD hmg hg args vals as hpre hlay hrd hwl hlo
 obtain rfl:dV=.none:=Dflts.none hD hdf
 obtain rfl:kV=.none:=Dflts.noKw hD
 obtain⟨a,vs,ns,rfl,rfl,hobj,hints,hlen⟩:=zH hn hpre hwl
 refine enter_call (codeAny_mono (call w s₀ s₁ mg mb fa o pm cd doc a vs ns G Y ho (fd_plain hd) hcd hmg hobj hints hlen hg) fun r s' hq=>?_)
 obtain⟨rfl,h2,h3,h4⟩:=hq
 exact⟨.inl ⟨.bool true,.bool true,[],rfl,fun _=>rfl,.bool true,zV l _,fun _=>⟨List.Pairwise.nil,fun _ hm=>(nomatch hm)⟩⟩,h2,h3,h4⟩
end Att
namespace L2
open PySem PySem.Spec PyProof.Rows
end L2
namespace L2
open PySem PySem.Spec PyProof.Rows
end L2
namespace L2
open PySem PySem.Spec PyProof.Rows
noncomputable def ao (s:Stmt):Arguments:=match s with
 |.FunctionDef _ a _ _ _ _ _ _ _ _=>a
 |_=>{ posonlyargs:=[],args:=[],vararg:=none,kwonlyargs:=[],kw_defaults:=[],kwarg:=none,defaults:=[] }
noncomputable def ak (s:Stmt):List Stmt:=match s with
 |.FunctionDef _ _ b _ _ _ _ _ _ _=>b
 |_=>[]
noncomputable def ae (s:Stmt):Scope:=match s with
 |.FunctionDef _ _ _ _ _ _ sc _ _ _=>sc
 |_=>{ kind:=.function,names:=[],isGenerator:=false,isCoroutine:=false }
structure Fun (K:PySem.W.Frag)(x qual:Str)(st:Stmt)(f:Addr)(fd:FuncData):Prop where
 ex:∃(oc:Value) (od:Option Addr) (kV doc pm:Value) (an:Option Addr) (cdv ct:Value) (osl:Array (Option Value)),
  fd=PySem.W.fnOf x qual (ao st) (ak st) (ae st) .none kV doc pm an cdv ct/\K.lookup f=some ⟨oc,od,.func fd,osl⟩/\PySem.W.codeIn K cdv qual=true
 kp:PySem.W.keepIn K (.ref f)=true
section
variable {P:Program}{w:World}{K:PySem.W.Frag}{mg:Str->Option Value}{base:Heap}
theorem Ir {x qual:Str}{st:Stmt}{f:Addr}{oc:Value}{od an:Option Addr}{osl:Array (Option Value)}{kV doc pm cdv ct:Value}(l:K.lookup f=some ⟨oc,od,.func (PySem.W.fnOf x qual (ao st) (ak st) (ae st) .none kV doc pm an cdv ct),osl⟩)
  (c:PySem.W.codeIn K cdv qual=true) (k:PySem.W.keepIn K (.ref f)=true):Fun K x qual st f (PySem.W.fnOf x qual (ao st) (ak st) (ae st) .none kV doc pm an cdv ct):=⟨⟨oc,od,kV,doc,pm,an,cdv,ct,osl,rfl,l,c⟩,k⟩
end
section
variable {X:Cx}
theorem pv (i:Nat){x:Str}{pos:Pos}(hN:X.N[i]?=some x:=by rfl)(hv:rL X.env.scope x:=by first|exact Or.inl rfl|exact Or.inr (Or.inl rfl)|exact Or.inr (Or.inr rfl))(hd:(x==("__debug__" : Str))=false:=by decide)
  (hcd:(x==("__classdict__" : Str))=false:=by decide):PE X (.Name x pos) (Ji i):=IB hN hv hd hcd
end
end L2
set_option maxHeartbeats 4000000
section
namespace L2
open PySem PySem.Spec PyProof.Rows
noncomputable def kf (cells:List (Str×Addr)):List (Str×NameKind)->List (Str×Addr)->List (Str×Addr)
 |[],acc=>acc
 |(n,k)::r,acc=>if k==.free then kf cells r ((n,(cells.lookup n).getD 0)::acc) else kf cells r acc
theorem pN {scope:Scope}{env:Env}(h:∀y∈scope.names,y.2=.free->(env.cells.lookup y.1).isSome=true):closureFor scope env=pure (kf env.cells scope.names []):=by
 unfold closureFor
 generalize scope.names=names at h ⊢
 generalize ([]:List (Str×Addr))=acc
 dsimp only
 induction names generalizing acc with
 |nil=>rfl
 |cons x r ih=>
  obtain⟨n,k⟩:=x
  have hr:=ih (fun y hy=>h y (List.mem_cons_of_mem _ hy))
  rw[List.forIn_cons]
  unfold kf
  by_cases hk:(k==NameKind.free)=true
  ·have hs:=h (n,k) List.mem_cons_self (by simpa using hk)
   obtain⟨c,hc⟩:=Option.isSome_iff_exists.mp hs
   have hc':cellOf env n=pure c:=by unfold cellOf;rw[show env.cells.lookup n=some c from hc]
   simp only[hk,if_true]
   rw[hc',show (env.cells.lookup n).getD 0=c by rw[show env.cells.lookup n=some c from hc];rfl]
   exact hr _
  ·simp only[hk]
   exact hr _
theorem kF {cells:List (Str×Addr)}{x:Str}{c:Addr}:∀{names:List (Str×NameKind)} {acc:List (Str×Addr)},(∀y∈names,y.2=.free->(cells.lookup y.1).isSome=true)->(∀x c,acc.lookup x=some c->cells.lookup x=some c) →
  (kf cells names acc).lookup x=some c->cells.lookup x=some c
 |[],_,_,ha,h=>ha x c h
 |(n,k)::r,acc,hs,ha,h=>by
  unfold kf at h
  by_cases hk:(k==NameKind.free)=true
  ·rw[if_pos hk] at h
   refine kF (fun y hy=>hs y (List.mem_cons_of_mem _ hy)) (fun z d hz=>?_) h
   obtain⟨e,he⟩:=Option.isSome_iff_exists.mp (hs (n,k) List.mem_cons_self (by simpa using hk))
   have he':cells.lookup n=some e:=he
   rw[List.lookup_cons] at hz
   cases hzn:z==n with
   |true=>
    rw[hzn] at hz
    have:z=n:=by simpa using hzn
    subst this
    rw[he'] at hz ⊢
    exact hz
   |false=>rw[hzn] at hz;exact ha z d hz
  ·rw[if_neg hk] at h
   exact kF (fun y hy=>hs y (List.mem_cons_of_mem _ hy)) ha h
theorem pj {cells:List (Str×Addr)}{x:Str}:∀{names:List (Str×NameKind)} {acc:List (Str×Addr)},(acc.lookup x).isSome=true->((kf cells names acc).lookup x).isSome=true
 |[],_,h=>h
 |(n,k)::r,acc,h=>by
  unfold kf
  split
  ·refine pj ?_
   rw[List.lookup_cons]
   split
   ·rfl
   ·exact h
  ·exact pj h
theorem lQ {cells:List (Str×Addr)}{x:Str}:∀{names:List (Str×NameKind)} {acc:List (Str×Addr)},(x,NameKind.free)∈names->((kf cells names acc).lookup x).isSome=true
 |[],_,h=>nomatch h
 |(n,k)::r,acc,h=>by
  unfold kf
  rcases List.mem_cons.mp h with e|h
  ·cases e
   rw[if_pos (by rfl)]
   exact pj (by rw[List.lookup_cons];simp)
  ·split
   ·exact lQ h
   ·exact lQ h
noncomputable def Cx.blk (X:Cx)(scope:Scope)(N':List Str)(C:Addr)(s:Shared)(H:Hp)(ex:List Addr):Cx:=
 { X with N:=N',s₀:=s,H₀:=H,env:=compEnvC scope (kf X.env.cells scope.names []) C X.env,outer:=X.stack,ex:=ex,fn:=fun _=>false,pn:=[],xe:=fun _ _=>False }
noncomputable def nU (fm:List (Option Nat))(σ:St):St:=fm.map fun o=>o.bind fun j=>(σ[j]?).join
structure BlkOk (X:Cx)(scope:Scope)(N':List Str)(fm:List (Option Nat)):Prop where
 kind:scope.kind=.function
 nocell:∀y∈scope.names,y.2≠.cell
 names:∀y∈scope.names,y.2=.local->scope.names.lookup y.1=some .local
 free:∀y∈scope.names,y.2=.free->X.env.kindOf y.1=some .cell
 len:fm.length=N'.length
 out:∀(i j:Nat) (x:Str),fm[i]?=some (some j)->N'[i]?=some x->X.N[j]?=some x/\scope.names.lookup x=some .free/\X.env.kindOf x=some .cell
theorem BlkOk.has {X:Cx}{scope:Scope}{N':List Str}{fm:List (Option Nat)}(B:BlkOk X scope N' fm)(ok:X.Ok):∀y∈scope.names,y.2=.free->(X.env.cells.lookup y.1).isSome=true:=fun y hy e=>by
 obtain⟨c,hc⟩:=ok.has y.1 (.inl (B.free y hy e))
 rw[hc];rfl
noncomputable def sr (kind:ScopeKind)(names:List (Str×NameKind))(kindOf:Str->Option NameKind)(N N':List Str)(fm:List (Option Nat)):Bool:=
 kind==.function&&(names.all fun y=>y.2 != .cell)&&(names.all fun y=>y.2 != .local || names.lookup y.1==some .local)&&(names.all fun y=>y.2 != .free || kindOf y.1==some .cell)&&fm.length==N'.length &&
  ((fm.zip N').all fun p=>match p.1 with|none=>true|some j=>N[j]?==some p.2&&names.lookup p.2==some .free&&kindOf p.2==some .cell)
theorem IF {X:Cx}{scope:Scope}{N':List Str}{fm:List (Option Nat)}(h:sr scope.kind scope.names X.env.kindOf X.N N' fm=true):BlkOk X scope N' fm:=by
 unfold sr at h
 simp only[Bool.and_eq_true,beq_iff_eq,List.all_eq_true,Bool.or_eq_true,bne_iff_ne,ne_eq] at h
 obtain⟨⟨⟨⟨⟨h1,h2⟩,h3⟩,h4⟩,h5⟩,h6⟩:=h
 refine⟨h1,h2,fun y hy e=>(h3 y hy).resolve_left fun z=>z e,fun y hy e=>(h4 y hy).resolve_left fun z=>z e,h5,fun i j x e1 e2=>?_⟩
 have hm:(some j,x)∈fm.zip N':=by
  refine List.mem_of_getElem? (i:=i) ?_
  rw[List.getElem?_zip_eq_some]
  exact⟨e1,e2⟩
 have z:=h6 _ hm
 simp only[Bool.and_eq_true,beq_iff_eq] at z
 exact⟨z.1.1,z.1.2,z.2⟩
theorem gu {env:Env}:∀{names:List (Str×NameKind)} {x:Str} {k:NameKind},(names.map fun (n,k)=>if (k==NameKind.free&&env.scope.kind==.function&&env.kindOf n==some .cell) then (n,NameKind.cell) else (n,k)).lookup x=some k →
  (k=.cell/\env.kindOf x=some .cell/\(x,NameKind.free)∈names)\/(x,k)∈names
 |[],_,_,h=>by simp at h
 |(n,k0)::r,x,k,h=>by
  rw[List.map_cons] at h
  by_cases hc:(k0==NameKind.free&&env.scope.kind==.function&&env.kindOf n==some .cell)=true
  ·dsimp only at h
   rw[if_pos hc,List.lookup_cons] at h
   cases hx:x==n with
   |true=>
    rw[hx] at h
    have e:x=n:=by simpa using hx
    subst e
    cases h
    simp only[Bool.and_eq_true,beq_iff_eq] at hc
    exact .inl ⟨rfl,hc.2,by rw[←hc.1.1];exact List.mem_cons_self⟩
   |false=>
    rw[hx] at h
    rcases gu h with ⟨a,b,c⟩|c
    ·exact .inl ⟨a,b,List.mem_cons_of_mem _ c⟩
    ·exact .inr (List.mem_cons_of_mem _ c)
  ·dsimp only at h
   rw[if_neg hc,List.lookup_cons] at h
   cases hx:x==n with
   |true=>
    rw[hx] at h
    have e:x=n:=by simpa using hx
    subst e
    cases h
    exact .inr List.mem_cons_self
   |false=>
    rw[hx] at h
    rcases gu h with ⟨a,b,c⟩|c
    ·exact .inl ⟨a,b,List.mem_cons_of_mem _ c⟩
    ·exact .inr (List.mem_cons_of_mem _ c)
theorem ir {env:Env}(hk:env.scope.kind=.function):∀{names:List (Str×NameKind)} {x:Str},names.lookup x=some .free->env.kindOf x=some .cell →
  (names.map fun (n,k)=>if (k==NameKind.free&&env.scope.kind==.function&&env.kindOf n==some .cell) then (n,NameKind.cell) else (n,k)).lookup x=some .cell
 |[],_,h,_=>by simp at h
 |(n,k)::r,x,h,hc=>by
  rw[List.map_cons]
  dsimp only
  cases hx:x==n with
  |true=>
   rw[List.lookup_cons,hx] at h
   cases h
   have e:x=n:=by simpa using hx
   subst e
   rw[hc,hk,if_pos (by rfl),List.lookup_cons,hx]
  |false=>
   rw[List.lookup_cons,hx] at h
   have ih:=ir hk h hc
   split
   ·rw[List.lookup_cons,hx];exact ih
   ·rw[List.lookup_cons,hx];exact ih
section
variable {X:Cx}{scope:Scope}{N':List Str}{fm:List (Option Nat)}{pins:List (Addr×Obj)}{σ:St}{H:Hp}{s:Shared}
theorem HV (B:BlkOk X scope N' fm)(I:Inv X pins σ H s){C:Addr}{ex:List Addr}(hC:s.heap.objs.size≤C)(hex:∀b∈ex,jC X pins H b)(hlt:∀b∈ex,b<s.heap.objs.size):(X.blk scope N' C s H ex).Ok:=by
 have sub:∀x c,(kf X.env.cells scope.names []).lookup x=some c->X.env.cells.lookup x=some c:=fun x c h=>kF (B.has I.ok) (fun _ _ z=>by simp at z) h
 refine⟨I.ok.mod,?_,I.ok.glob,I.ok.blt,hC,fun x y c h1 h2=>I.ok.inj x y c (sub x c h1) (sub y c h2),fun x hx=>?_,fun x c h _=>(Bool.false_ne_true h).elim,I.ok.hd,I.ok.frames,.inl rfl,fun b hb=>⟨?_,fun x c h=>(hex b hb).2.2.2.2.1 x c (sub x c h)⟩,I.bs,?_,fun b o e hb=>?_,fun b hb hf=>?_,I.stack,I.stkFree⟩
 ·show (relabel scope X.env).kind=.function
  exact B.kind
 ·have hx':(relabel scope X.env).names.lookup x=some .cell\/(relabel scope X.env).names.lookup x=some .free:=hx
  have mem:(x,NameKind.free)∈scope.names:=by
   rcases hx' with h|h
   ·rcases gu h with ⟨_,_,z⟩|z
    ·exact z
    ·exact absurd rfl (B.nocell _ z)
   ·rcases gu h with ⟨z,_,_⟩|z
    ·cases z
    ·exact z
  exact Option.isSome_iff_exists.mp (lQ (cells:=X.env.cells) (acc:=[]) mem)
 ·exact Nat.ne_of_lt (Nat.lt_of_lt_of_le (hlt b hb) hC)
 ·exact Nat.le_trans I.ok.bsz I.sz
 ·have hb':b∈ex:=hb
  rcases (hex b hb').2.2.2.1 with z|z
  ·exact I.ok.noex b o e z
  ·exact absurd (Nat.lt_of_lt_of_le (Heap.lt_size (I.ok.bs b o e).1) z) (Nat.lt_irrefl _)
 ·have hb':b∈ex:=hb
  have hf':b∈oT X.stack:=hf
  rcases List.mem_cons.mp (I.stkSub b hf') with z|z
  ·exact (hex b hb').2.1 z
  ·exact (hex b hb').2.2.1 z
theorem uR {fm:List (Option Nat)}{σ:St}{i:Nat}{v:V}(h:(nU fm σ)[i]?=some (some v)):∃j,fm[i]?=some (some j)/\σ[j]?=some (some v):=by
 unfold nU at h
 rw[List.getElem?_map] at h
 cases e:fm[i]? with
 |none=>rw[e] at h;cases h
 |some o=>
  rw[e] at h
  cases o with
  |none=>cases h
  |some j=>
   refine⟨j,rfl,?_⟩
   have h':some ((σ[j]?).join)=some (some v):=h
   cases e2:σ[j]? with
   |none=>rw[e2] at h';cases h'
   |some w=>rw[e2] at h';exact congrArg some (Option.some.inj h')
theorem DI (B:BlkOk X scope N' fm)(I:Inv X pins σ H s){C:Addr}{ex:List Addr}{h1:Heap}{tk:Nat}{m:Str->Option Value}(hC:s.heap.objs.size≤C)(hex:∀b∈ex,jC X pins H b)(hlt:∀b∈ex,b<s.heap.objs.size)
  (hn:h1.Ns C m) (old:∀b o,s.heap.get? b=some o->h1.get? b=some o):Inv (X.blk scope N' C s H ex) [] (nU fm σ) H { s with heap:=h1,toks:=tk }:=by
 have sub:∀x c,(kf X.env.cells scope.names []).lookup x=some c->X.env.cells.lookup x=some c:=fun x c h=>kF (B.has I.ok) (fun _ _ z=>by simp at z) h
 refine⟨HV B I hC hex hlt,rfl,I.bare,Un.kept old,⟨m,hn,fun i x v hi hσ hv=>?_⟩,fun x c h=>?_,I.hok.fresh hC,fun x c h=>I.freeC x c (sub x c h),fun p hp=>absurd (show p∈([]:List (Addr×Obj)) from hp) (by simp),I.hok.kept old,?_⟩
 ·obtain⟨j,ej,es⟩:=uR hσ
  obtain⟨hN,hf,hk⟩:=B.out i j x ej hi
  obtain⟨m0,_,hl⟩:=I.loc
  obtain⟨u,r,l⟩:=hl j x v hN es (.inr (.inl hk))
  refine⟨u,r,.inr ⟨.inl (ir I.ok.kind hf hk),?_⟩⟩
  rcases l with ⟨z,_⟩|⟨_,c,hc,z⟩
  ·rw[hk] at z;cases z
  ·obtain⟨c',hc'⟩:=Option.isSome_iff_exists.mp (lQ (cells:=X.env.cells) (acc:=[]) (PySem.mem_of_lookup hf))
   have e:=sub x c' hc'
   rw[hc] at e
   cases e
   exact⟨c,hc',z.keeps old⟩
 ·obtain⟨v,z⟩:=I.cell x c (sub x c h)
  exact⟨v,z.keeps old⟩
 ·show (nU fm σ).length=N'.length
  unfold nU
  rw[List.length_map]
  exact B.len
end
theorem j7 {prog:Program}{w:World}{A:Around}{R:Result->Shared->Prop}{s:Shared}{elt target iter:Expr}{ifs:List Expr}{scope:Scope}{pos:Pos}{it acc:Value}{env:Env}(I:Nat->Shared->Prop)
  (turn:∀n s,I n s->wpAny (model prog w) A (pyNext it) (fun r s₁=>match r with
   |none=>R (.ok .next) s₁
   |some v=>wpAny (model prog w) A (letOwnedTupleGo target it v) (fun _ s₁=>wpAny (model prog w) A (assign target env v) (fun _ s₂=>
     wpAny (model prog w) A (forIn ifs true fun c r=>if r=true then do let ok ←isTrue c env (eval c env);pure (ForInStep.yield ok) else pure (ForInStep.yield r)) (fun ok s₃=>
      if ok=true then wpAny (model prog w) A (eval elt env) (fun x s₄=>
       wpAny (model prog w) A (call (.builtin "list.append") [acc,x]) (fun _ s₅=>∃m,m<n/\I m s₅) (fun _ _=>False) s₄) (fun _ _=>False) s₃
      else ∃m,m<n/\I m s₃) (fun _ _=>False) s₂) (fun _ _=>False) s₁) (fun _ _=>False) s₁) (fun _ _=>False) s)
  (n:Nat) (h:I n s) :
  codeAny (model prog w) A (.compLoop (.ListComp elt [⟨target,iter,ifs,0⟩] scope pos) 0 it acc env) R s:=by
 refine codeAny_loop rfl I (fun n s hI=>?_) n h
 show wpAny _ A ((compTurn (.ListComp elt [⟨target,iter,ifs,0⟩] scope pos) 0 it acc env).onRaise (fun x=>do noteFrame x env;theTreesLotGoes x)) _ _ s
 refine wpAny_noted ?_
 rw[compTurn_list]
 refine wpAny_bind (wpAny_standAt (wpAny_bind (wpAny_mono (turn n s hI) (fun r s₁ h₁=>?_) fun _ _ h'=>h'.elim)))
 cases r with
 |none=>exact wpAny_pure h₁
 |some v=>
  refine wpAny_bind (wpAny_mono h₁ (fun _ s₁ h₁=>?_) fun _ _ h'=>h'.elim)
  refine wpAny_bind (wpAny_mono h₁ (fun _ s₂ h₂=>wpAny_bind (wpAny_mono h₂ (fun ok s₃ h₃=>?_) fun _ _ h'=>h'.elim)) fun _ _ h'=>h'.elim)
  cases ok with
  |false=>exact wpAny_pure ⟨rfl,h₃⟩
  |true=>
   exact wpAny_bind (wpAny_bind (wpAny_mono h₃ (fun x s₄ h₄=>wpAny_bind (wpAny_mono h₄ (fun _ s₅ h₅=>wpAny_pure (wpAny_pure ⟨rfl,h₅⟩)) fun _ _ h'=>h'.elim)) fun _ _ h'=>h'.elim))
end L2
end
section
namespace L2
open PySem PySem.Spec PyProof.Rows
end L2
end
section
namespace L2
open PySem PySem.Spec PyProof.Rows
theorem mM:fillsNumberSlot (.type "tuple") "mul" = pure false:=by first|rfl|decide +kernel|kernel_rfl
end L2
end
section
namespace L2
open PySem PySem.Spec PyProof.Rows
theorem sY:seqRepeat? (.type "tuple")=pure (some (.builtin "tuple.__mul__")):=by
 unfold seqRepeat?
 rw[PySem.seqSlot_of (T:="tuple") (name:="__mul__") (id:="tuple.__mul__") PySem.F.slot_tuple_mul.lookup (by decide +kernel),PySem.seqSlot_of (T:="tuple") (name:="__rmul__") (id:="tuple.__rmul__") PySem.F.slot_tuple_rmul.lookup (by decide +kernel)]
 rfl
theorem pA (a:Int)(t:Tok)(l:Addr)(items:Array Value)(n:Nat)(dd:Option Addr)(sl:Array (Option Value)) :
  Meets (Builtin.«int.__rmul__» ⟨[.int a t,.ref l],[]⟩) (fun _ R s=>s.heap.get? l=some { cls:=.type "tuple",dict:=dd,data:=.seq items n,slots:=sl }/\R (.ok (.ret Value.notImplemented)) s):=
 .of_wp fun prog w A R s h=>by obtain⟨hp,g,d,tk,os⟩:=s;obtain⟨hl,h⟩:=h;wp_walk;exact⟨_,rfl,h⟩
theorem oQ (l:Addr)(items:Array Value)(n:Nat)(dd:Option Addr)(sl:Array (Option Value))(t:Tok) :
  Meets (Builtin.«tuple.__mul__» ⟨[.ref l,.int 1 t],[]⟩) (fun _ R s=>s.heap.get? l=some { cls:=.type "tuple",dict:=dd,data:=.seq items n,slots:=sl }/\R (.ok (.ret (Value.ref l))) s):=
 .of_wp fun prog w A R s h=>by obtain⟨hp,g,d,tk,os⟩:=s;obtain⟨hl,h⟩:=h;have f1:=AutoSeq1.idx_int;have f2:=AutoSeq1.sub_tuple_tuple;have hc:(items.isEmpty || (1:Int)==1)=true:=(by simp);wp_walk using wpAny_loadPart' hl;exact⟨_,rfl,h⟩
theorem qK (l:Addr)(items:Array Value)(n:Nat)(dd:Option Addr)(sl:Array (Option Value))(k:Int)(t:Tok)(h1:¬(decide (k < -(2 ^ 63)) || decide (k ≥ 2 ^ 63))=true)(h2:¬(items.isEmpty || k==1)=true)(h3:¬(decide (k≤0) || items.isEmpty)=true)
  (h4:¬(items.size * k > (2 ^ 63 - 1) / 8)) (h5:¬Builtin.Tuple.tupleTooMany (items.size * k)=true) (h6:((List.replicate k.toNat items).foldl (·++·) #[]).size≤sizeLine) :
  Meets (Builtin.«tuple.__mul__» ⟨[.ref l,.int k t],[]⟩) (fun _ R s=>s.heap.get? l=some { cls:=.type "tuple",dict:=dd,data:=.seq items n,slots:=sl }/\R (.ok (.ret (Value.ref s.heap.objs.size))) { s with heap:=s.heap.push { cls:=Value.type "tuple",data:=Data.seq ((List.replicate k.toNat items).foldl (·++·) #[]) },toks:=s.toks }):=
 .of_wp fun prog w A R s h=>by obtain⟨hp,g,d,tk,os⟩:=s;obtain⟨hl,h⟩:=h;have f1:=AutoSeq1.idx_int;have f2:=AutoSeq1.sub_tuple_tuple;wp_walk using wpAny_loadPart' hl;rw[if_neg h1];wp_walk using wpAny_loadPart' hl;rw[if_neg h4];(try dsimp only);rw[if_neg h5];wp_walk using wpAny_loadPart' hl;exact⟨_,rfl,h⟩
theorem lz (its:List Value)(m:Nat):List.foldl (fun x1 x2=>x1++x2) #[] (List.replicate m its.toArray)=(List.replicate m its).flatten.toArray:=by
 have:=qU its m []
 rw[List.nil_append] at this
 exact this
end L2
end
section
namespace L2
open PySem PySem.Spec PyProof.Rows
namespace HT
section
variable {prog:Program}{w:World}{A:Around}{E:Value->Shared->Prop}{s:Shared}
theorem mC {sl:Addr}{vst:Value}{n:Nat}{Q:Int×Int×Nat->Shared->Prop}(hs:s.heap.IsSliceOf sl .none .none vst)(Gx:IsPart vst (some (-1)))
  (h:Q ((n:Int) - 1,-1,n) s):wpAny (model prog w) A (Builtin.Slice.sliceApplied (.ref sl) (pure (n:Int))) Q E s:=by
 obtain⟨os,hos,hcs,hds⟩:=id hs
 unfold Builtin.Slice.sliceApplied Builtin.Slice.sliceFields
 refine wpAny_bind (wpAny_bind (wpAny_field hos hds (x:=.none) rfl (wpAny_bind (wpAny_field hos hds (x:=.none) rfl (wpAny_bind (wpAny_field hos hds (x:=vst) rfl (wpAny_pure ?_)))))))
 refine wpAny_bind (_root_.HT.slicePart_ Gx ?_)
 show wpAny _ _ (if ((-1:Int)==0)=true then _ else _) _ _ s
 rw[if_neg (by decide)]
 refine wpAny_bind (slicePart_none (wpAny_bind (slicePart_none (wpAny_bind (wpAny_pure ?_)))))
 have e1:Builtin.Slice.sliceAdjust none none (-1) (n:Int)=((n:Int) - 1,-1):=rfl
 have e2:Builtin.Slice.slicePlaces ((n:Int) - 1) (-1) (-1)=n:=by
  unfold Builtin.Slice.slicePlaces
  rw[if_neg (by decide)]
  by_cases hn:(n:Int) - 1 > -1
  ·rw[if_pos hn]
   have:((n:Int) - 1 - -1 - 1) / (- -1)=(n:Int) - 1:=by rw[show (- -1:Int)=1 by decide,Int.ediv_one];omega
   rw[this];omega
  ·rw[if_neg hn];omega
 show wpAny _ _ (match Builtin.Slice.sliceAdjust none none (-1) (n:Int) with|(lo,hi)=>pure (lo,(-1:Int),Builtin.Slice.slicePlaces lo hi (-1))) _ _ s
 rw[e1]
 show wpAny _ _ (pure ((n:Int) - 1,(-1:Int),Builtin.Slice.slicePlaces ((n:Int) - 1) (-1) (-1))) _ _ s
 rw[e2]
 exact wpAny_pure h
theorem An {α β:Type}{f:α->Option β}{g:α->β}:∀{l:List α},(∀k∈l,f k=some (g k))->l.filterMap f=l.map g
 |[],_=>rfl
 |a::r,h=>by
  rw[List.filterMap_cons,h a List.mem_cons_self,List.map_cons,An fun k hk=>h k (List.mem_cons_of_mem _ hk)]
theorem pick_rev (xs:List Value):(List.range xs.length).filterMap (fun (k:Nat)=>xs.toArray[(((xs.length:Nat):Int) - 1+(k:Int) * (-1)).toNat]?)=xs.reverse:=by
 rw[An (g:=fun k=>xs.getD (xs.length - 1 - k) .none)]
 ·apply List.ext_getElem
  ·simp
  ·intro i h1 h2
   have h3:i<xs.length:=by simpa using h2
   have h4:xs.length - 1 - i<xs.length:=by omega
   rw[List.getElem_map,List.getElem_range,List.getElem_reverse]
   simp[h4]
 ·intro k hk
  have hk':k<xs.length:=List.mem_range.mp hk
  have e1:(((xs.length:Nat):Int) - 1+(k:Int) * (-1)).toNat=xs.length - 1 - k:=by omega
  have h2:xs.length - 1 - k<xs.length:=by omega
  rw[e1]
  simp[h2]
theorem getItem_tuple_rev {t sl:Addr}{vs:List Value}{vst:Value}{Q:Value->Shared->Prop}(ht:IsTup s.heap t vs.toArray)(hs:s.heap.IsSliceOf sl .none .none vst)(Gx:IsPart vst (some (-1)))
  (h:Q (.ref s.heap.objs.size) { s with heap:=s.heap.push { cls:=.type "tuple",data:=.seq vs.reverse.toArray } })
  (hsz:vs.length≤sizeLine):wpAny (model prog w) A (getItem (.ref t) (.ref sl)) Q E s:=by
 have htake:sizeOk (.seq vs.reverse.toArray):=by
  show vs.reverse.toArray.size≤sizeLine
  rw[List.size_toArray,List.length_reverse]
  exact hsz
 obtain⟨os,hos,hcs,hds⟩:=id hs
 have hTs:s.TypeIs (.ref sl) "slice":=⟨os,hos,hcs⟩
 unfold getItem
 try with_reducible refine wpAny_holding ?_
 first|refine wpAny_bind (wpAny_pure ?_)|skip
 refine wpAny_bind (wpAny_sequenceKey ht.typeIs (by decide) ?_)
 refine wpAny_bind (wpAny_callSpecial?_slot (name:=Str.ofString "__getitem__") ht.typeIs PyProof.Rows.slot_tuple_getitem
  (wpAny_call_entry PyProof.Rows.slot_tuple_getitem ht.typeIs entry_tuple_getitem ?_ (args_tuple_getitem _ _)))
 show wpAny _ _ (Builtin.Tuple.tupleItemsOf (.ref t) >>= _) _ _ s
 refine wpAny_bind (tupleItemsOf_ ht ?_)
 refine wpAny_bind (wpAny_typeOf hTs ?_)
 rw[if_pos (by decide)]
 have e0:(vs.toArray.size:Nat)=vs.length:=List.size_toArray
 rw[e0]
 refine wpAny_bind (mC hs Gx ?_)
 show wpAny _ _ (if ((((vs.length:Nat):Int) - 1)==0&&(-1:Int)==1&&vs.length==vs.length)=true then _ else _) _ _ s
 have hno:¬(((((vs.length:Nat):Int) - 1)==0&&(-1:Int)==1&&vs.length==vs.length)=true):=by
  rw[show ((-1:Int)==1)=false by decide,Bool.and_false,Bool.false_and]
  exact Bool.false_ne_true
 rw[if_neg hno,pick_rev]
 first
  |exact wpAny_bind (m:=Builtin.Tuple.tupleExact _) (wpAny_newObj_type (wpAny_pure ⟨_,rfl,wpAny_pure h⟩) htake)
  |exact wpAny_bind (m:=Builtin.Tuple.tupleExact _) (wpAny_newObj_type (wpAny_bind (wpAny_pure (wpAny_pure ⟨_,rfl,wpAny_pure h⟩))) htake)
  |exact wpAny_bind (wpAny_bind (m:=Builtin.Tuple.tupleExact _) (wpAny_newObj_type (wpAny_pure (wpAny_pure ⟨_,rfl,wpAny_pure h⟩)) htake))
end
end HT
end L2
end
section
namespace L2
open PySem PySem.Spec PyProof.Rows PySem.W
noncomputable def Leaf {α:Type}(n:Nat)(P:α->Prop):KasT α->Prop
 |.ret a=>P a
 |.ask i j k=>i<n/\j<n/\∀b,Leaf n P (k b)
theorem Leaf.bind {α β:Type}{n:Nat}{P:α->Prop}{R:β->Prop}{f:α->KasT β}(hf:∀a,P a->Leaf n R (f a)):∀{t:KasT α},Leaf n P t->Leaf n R (t.bind f)
 |.ret a,h=>hf a h
 |.ask i j k,h=>⟨h.1,h.2.1,fun b=>Leaf.bind hf (h.2.2 b)⟩
noncomputable abbrev OfN (n:Nat)(p:Array Nat):Prop:=p.toList.Perm (List.range n)
theorem OfN.lt {n:Nat}{p:Array Nat}(h:OfN n p)(hn:0<n)(k:Nat):p.getD k 0<n:=by
 by_cases hk:k<p.size
 ·have e:p.getD k 0=p[k]:=by simp[Array.getD,hk]
  rw[e]
  exact List.mem_range.mp (h.subset (by simp))
 ·have e:p.getD k 0=0:=by simp[Array.getD,hk]
  rw[e];exact hn
theorem OfN.rev {n:Nat}{p:Array Nat}(h:OfN n p)(i j:Nat):OfN n (kas_rev p i j):=(mirror_perm p i j _).toList.trans h
theorem OfN.bub {n:Nat}{p:Array Nat}(h:OfN n p)(i j:Nat):OfN n (bubble p i j):=(bubble_perm p i j).toList.trans h
theorem oS {n:Nat}{p:Array Nat}(hp:OfN n p)(hn:0<n):∀f k,Leaf n (fun _=>True) (kas_asc p f k)
 |0,_=>True.intro
 |f+1,k=>⟨hp.lt hn _,hp.lt hn _,fun b=>by
  cases b with
  |true=>exact True.intro
  |false=>exact oS hp hn f (k+1)⟩
theorem kH {n:Nat}(hn:0<n):∀f (p:Array Nat) k q,OfN n p->Leaf n (fun r=>OfN n r.1) (kas_desc f p k q)
 |0,_,_,_,hp=>hp
 |f+1,p,k,q,hp=>⟨hp.lt hn _,hp.lt hn _,fun b=>by
  cases b with
  |true=>
   show Leaf n _ (if q > 0 then kas_desc f (kas_rev p (k - (q+1)) k) (k+1) 0 else kas_desc f p (k+1) 0)
   split
   ·exact kH hn f _ _ _ (hp.rev _ _)
   ·exact kH hn f _ _ _ hp
  |false=>
   refine⟨hp.lt hn _,hp.lt hn _,fun c=>?_⟩
   cases c with
   |true=>exact hp
   |false=>exact kH hn f _ _ _ hp⟩
theorem pz {n:Nat}(hn:0<n){p:Array Nat}(hp:OfN n p)(a b:Nat):Leaf n (fun r=>OfN n r.2) (kas_tail3 a b p):=by
 unfold kas_tail3
 exact Leaf.bind (P:=fun _=>True) (R:=fun r:Nat×Array Nat=>OfN n r.2) (f:=fun m=>KasT.ret (m,kas_rev p 0 a)) (fun m _=>(show OfN n (kas_rev p 0 a) from hp.rev 0 a)) (oS (hp.rev 0 a) hn _ _)
theorem kX {n:Nat}(hn:0<n){p:Array Nat}(hp:OfN n p)(a b:Nat):Leaf n (fun r=>OfN n r.2) (kas_descPart a b p):=by
 refine Leaf.bind (fun r hr=>?_) (kH hn _ _ _ _ hp)
 split
 ·exact pz hn (OfN.rev hr _ _) _ _
 ·exact pz hn hr _ _
theorem vQ {n:Nat}(hn:0<n){p:Array Nat}(hp:OfN n p)(b:Nat):Leaf n (fun r=>OfN n r.2) (kas_count b p):=by
 refine Leaf.bind (fun r _=>?_) (oS hp hn _ _)
 split
 ·exact hp
 ·split
  ·refine⟨hp.lt hn _,hp.lt hn _,fun c=>?_⟩
   cases c with
   |true=>exact hp
   |false=>exact kX hn (hp.rev _ _) _ _
  ·exact kX hn hp _ _
theorem li {n:Nat}(hn:0<n){p:Array Nat}(hp:OfN n p)(k:Nat):∀f l r,Leaf n (fun _=>True) (kas_place p k f l r)
 |0,_,_=>True.intro
 |f+1,l,r=>by
  show Leaf n _ (if l ≥ r then .ret l else .ask (p.getD k 0) (p.getD ((l+r) / 2) 0) fun c=>if c=true then kas_place p k f l ((l+r) / 2) else kas_place p k f ((l+r) / 2+1) r)
  split
  ·exact True.intro
  ·refine⟨hp.lt hn _,hp.lt hn _,fun c=>?_⟩
   cases c with
   |true=>exact li hn hp k f _ _
   |false=>exact li hn hp k f _ _
theorem u8 {n:Nat}(hn:0<n):∀f (p:Array Nat) k,OfN n p->Leaf n (OfN n) (kas_bin f p k)
 |0,_,_,hp=>hp
 |f+1,p,k,hp=>Leaf.bind (fun l _=>u8 hn f _ _ (hp.bub _ _)) (li hn hp k _ _ _)
theorem qR {n:Nat}(hn:0<n):Leaf n (OfN n) (kas_sort n):=by
 refine Leaf.bind (fun r hr=>?_) (vQ hn (show OfN n (List.toArray (List.range n)) from .refl _) n)
 split
 ·exact u8 hn _ _ _ hr
 ·exact hr
theorem HOk.stands {P:Program}{w:World}{H:Hp}{h:Heap}{a:Addr}{o:HO}(x:HOk P w H h)(e:H a=some o):∃ob,h.get? a=some ob:=by
 have y:=x a o e
 cases o with
 |lst xs=>obtain⟨_,_,_,_,z⟩:=y;exact⟨_,z⟩
 |tup xs=>obtain⟨_,_,_,ob,z,_⟩:=y;exact⟨_,z⟩
 |dK kvs=>obtain⟨_,_,_,_,ob,_,_,z,_⟩:=y;exact⟨_,z⟩
 |dT kvs=>obtain⟨_,_,_,_,ob,_,_,z,_⟩:=y;exact⟨_,z⟩
 |set S n=>obtain⟨ob,_,_,_,z,_⟩:=y;exact⟨_,z⟩
 |ins C dx fs=>obtain⟨_,_,_,z,_⟩:=y;exact⟨_,z⟩
 |own y'=>exact y
 |xd fs=>obtain⟨_,⟨ob,_,_,z,_⟩,_⟩:=y;exact⟨_,z⟩
 |rng lo hi=>obtain⟨_,_,_,z⟩:=y;exact⟨_,z⟩
 |frz ob u=>exact⟨_,y.1⟩
 |tbl ps=>exact⟨_,(show h.get? a=some { cls:=.none,data:=.fields ps } from y)⟩
 |met f y'=>exact⟨_,(show h.get? a=some (PySem.W.methodObj (.ref f) (.ref y')) from y)⟩
 |ext φ=>exact y.2.1
theorem Gk {h:Heap}{L:Addr}{m m':Str->Option Value}(a:h.Ns L m)(b:h.Ns L m'):m=m':=by
 obtain⟨o,es,ep,h1,h2,h3,h4⟩:=a
 obtain⟨o',es',ep',h1',h2',h3',h4'⟩:=b
 rw[h1] at h1'
 cases h1'
 rw[h2] at h2'
 cases h2'
 funext x
 rw[←h4 x,←h4' x]
section
variable {prog:Program}{w:World}{A:Around}{E:Value->Shared->Prop}{s:Shared}
theorem wy {a:Addr}{vs:List Value}{n:Nat}{P:PySem.Fin->Shared->Prop}(ho:s.heap.get? a=some (seqObj "list" vs.toArray n))(h2:vs.length<2)
  (h:P (.done (.ret .none)) { s with heap:=sortedHeap s.heap a vs vs.toArray }):wpAny (model prog w) A (Builtin.«list.sort» ⟨[.ref a],[]⟩) P E s:=by
 rw[list_sort_plain]
 have ha:=Heap.lt_size ho
 refine wpAny_bind (listItems_at ho rfl (wpAny_bind (listUpdate_at ho rfl ?_ (by rw[List.size_toArray,sizeLine_eq];omega) (Nat.zero_le _))))
 obtain⟨e1,ho1⟩:∃e1,(s.heap.update a (Obj.mapSeq fun _=>(#[]:Array Value))).get? a=some (seqObj "list" #[] e1):=⟨_,get?_update_seq ho fun _=>#[]⟩
 refine wpAny_bind (seqEpoch_at ho1 rfl (wpAny_bind (wpAny_newTuple (wpAny_bind (wpAny_newList (wpAny_holding ?_) (Nat.zero_le _))) (by show vs.length≤_;rw[sizeLine_eq];omega))))
 have ho6:(((s.heap.update a (Obj.mapSeq fun _=>(#[]:Array Value))).push (seqObj "tuple" vs.toArray 0)).push (seqObj "list" #[] 0)).get? a=some (seqObj "list" #[] e1):=Heap.get?_push_of_some _ (Heap.get?_push_of_some _ ho1)
 show wpAny (model prog w) A _ P E { s with heap:=((s.heap.update a (Obj.mapSeq fun _=>(#[]:Array Value))).push (seqObj "tuple" vs.toArray 0)).push (seqObj "list" #[] 0) }
 dsimp only
 have hlt:vs.toArray.size<2:=by rw[List.size_toArray];exact h2
 rw[if_pos hlt,if_pos hlt]
 refine wpAny_bind (wpAny_pure ?_)
 rw[StateT.run_pure]
 have hsn:(arrOf (SortSt.mk' general' (vs.toArray.zip vs.toArray) #[] 7 none)).map (·.2)=vs.toArray:=by
  show (vs.toArray.zip vs.toArray).map (·.2)=vs.toArray
  apply Array.toList_inj.mp
  simp
  exact List.map_snd_zip (by simp)
 refine wpAny_bind (wpAny_pure ?_)
 dsimp only
 refine wpAny_bind (seqEpoch_at ho6 rfl ?_)
 refine wpAny_bind (listUpdate_at ho6 rfl ?_ (Nat.zero_le _) (by rw[hsn,List.size_toArray,sizeLine_eq];omega))
 simp only[bne_self_eq_false,Bool.false_eq_true,if_false]
 rw[hsn]
 exact wpAny_pure h
theorem r8 {l:Addr}{vs:List Value}{Q:Value->Shared->Prop}(hl:s.heap.IsList l vs.toArray)(h2:vs.length<2)(h:Q (.ref (s.heap.objs.size+1)) { s with heap:=sortedAll s.heap vs vs.toArray }) :
  wpAny (model prog w) A (call (.builtin "sorted") [.ref l]) Q E s:=by
 refine Calls.call_function_entry kind_sorted plain_sorted entry_sorted (args_sorted1 _) ?_
 unfold Builtin.«sorted»
 refine wpAny_bind (m:=checkCount "sorted" 1 1 _) (wpAny_pure (wpAny_bind (collect_list hl (wpAny_bind (wpAny_newList ?_ (by rw[sizeLine_eq];omega))) (by rw[sizeLine_eq];omega))))
 have hsz:((s.heap.push (seqObj "list" #[] 0)).update s.heap.objs.size (Obj.mapSeq (·++vs.toArray))).objs.size=s.heap.objs.size+1:=(Heap.size_update ..).trans (size_push' ..)
 have hoL:(((s.heap.push (seqObj "list" #[] 0)).update s.heap.objs.size (Obj.mapSeq (·++vs.toArray))).push (seqObj "list" vs.toArray 0)).get? (s.heap.objs.size+1)=some (seqObj "list" vs.toArray 0):=hsz▸Heap.get?_push_size _ rfl
 show wpAny _ _ _ _ _ { s with heap:=((s.heap.push (seqObj "list" #[] 0)).update s.heap.objs.size (Obj.mapSeq (·++vs.toArray))).push (seqObj "list" vs.toArray 0) }
 rw[hsz]
 refine wpAny_bind (wpAny_holding (wpAny_call_entry slot_list_sort ⟨_,hoL,rfl⟩ entry_list_sort (wy hoL h2 ⟨_,rfl,?_⟩) (args_list_sort _)))
 exact wpAny_pure ⟨_,rfl,h⟩
end
end L2
end
section
namespace Dp
open PySem PySem.Spec L2 PyProof.Rows
inductive PV where
 |non|bl (b:Bool)|int (i:Int)|str (x:Str)|ty (n:String)|fn (x:Str)
 |tup (ps:List PV)|lst (ps:List PV)|dct (ks:List fP) (ps:List PV)
 |src (ps:List PV)|ktu (ps:List PV)
 |rng (lo hi:Int)
 |exn (C:Addr)
 |set (ps:List PV)
noncomputable def jg:PV->Bool
 |.non=>true
 |.bl _=>true
 |.int _=>true
 |.str _=>true
 |.ty _=>true
 |_=>false
structure Cn where
 ok:Addr->Prop
 P:Program
 w:World
 mg:Str->Option Value
noncomputable def gx (its:List Value)(n:Nat):Obj:={ cls:=.type "list",data:=.seq its.toArray n }
mutual
noncomputable def D1 (top:Addr->Prop)(c:Cn)(h:Heap):PV->Value->Prop
 |.non,u=>u=.none
 |.bl b,u=>u=.bool b
 |.int i,u=>∃t,u=.int i t
 |.str x,u=>∃t,u=.str x t
 |.ty n,u=>u=.type n
 |.fn x,u=>∃a,c.mg x=some (.ref a)/\u=.ref a
 |.tup ps,u=>∃a its,u=.ref a/\top a/\IsTup h a its.toArray/\its.length≤sizeLine/\Ds c h ps its
 |.lst ps,u=>∃a its n,u=.ref a/\top a/\h.get? a=some (gx its n)/\its.length≤sizeLine/\Ds c h ps its
 |.ktu ps,u=>∃a its,u=.ref a/\top a/\IsTup h a its.toArray/\its.length≤sizeLine/\Ds c h ps its
 |.src ps,u=>∃a its n,u=.ref a/\top a/\h.get? a=some (gx its n)/\its.length≤sizeLine/\Ds c h ps its
 |.dct ks ps,u=>∃a kus,u=.ref a/\top a/\(a==sysModules)=false/\h.DictOf (bq c.P c.w) a kus/\kus.length≤sizeLine/\kus.map (·.1)=ks/\Ds c h ps (kus.map (·.2))
 |.rng lo hi,u=>∃a t1 t2 t3,u=.ref a/\top a/\h.get? a=some { cls:=.type "range",data:=.fields #[.int lo t1,.int hi t2,.int 1 t3] }
 |.exn C,u=>∃a o,u=.ref a/\top a/\h.get? a=some o/\o.cls=.ref C
 |.set ps,u=>False
noncomputable def Ds (c:Cn)(h:Heap):List PV->List Value->Prop
 |[],us=>us=[]
 |p::ps,us=>∃u r,us=u::r/\D1 c.ok c h p u/\Ds c h ps r
end
noncomputable abbrev D (c:Cn)(h:Heap):PV->Value->Prop:=D1 c.ok c h
noncomputable abbrev Rd (c:Cn)(h:Heap):PV->Value->Prop:=D1 (fun _=>True) c h
section
variable {c c':Cn}{h h':Heap}
theorem Ds.length:∀{ps:List PV} {us:List Value},Ds c h ps us->us.length=ps.length
 |[],_,e=>by rw[show _=[] from e];rfl
 |_::_,_,⟨u,r,e,_,t⟩=>by rw[e,List.length_cons,List.length_cons,t.length]
structure Kp (c c':Cn)(h h':Heap):Prop where
 P:c'.P=c.P
 w:c'.w=c.w
 mg:c'.mg=c.mg
 kp:∀a o,c.ok a->h.get? a=some o->c'.ok a/\h'.get? a=some o
mutual
theorem D1.mono {top top':Addr->Prop}(k:Kp c c' h h')(kt:∀a o,top a->h.get? a=some o->top' a/\h'.get? a=some o):∀{p:PV} {u:Value},D1 top c h p u->D1 top' c' h' p u
 |.non,_,e=>e
 |.bl _,_,e=>e
 |.int _,_,e=>e
 |.str _,_,e=>e
 |.ty _,_,e=>e
 |.fn _,_,⟨a,m,e⟩=>⟨a,by rw[k.mg];exact m,e⟩
 |.tup ps,_,⟨a,its,e,q,⟨o,ho,r⟩,z,t⟩=>⟨a,its,e,(kt _ _ q ho).1,⟨o,(kt _ _ q ho).2,r⟩,z,Ds.mono k t⟩
 |.ktu ps,_,⟨a,its,e,q,⟨o,ho,r⟩,z,t⟩=>⟨a,its,e,(kt _ _ q ho).1,⟨o,(kt _ _ q ho).2,r⟩,z,Ds.mono k t⟩
 |.lst ps,_,⟨a,its,n,e,q,ho,z,t⟩=>⟨a,its,n,e,(kt _ _ q ho).1,(kt _ _ q ho).2,z,Ds.mono k t⟩
 |.src ps,_,⟨a,its,n,e,q,ho,z,t⟩=>⟨a,its,n,e,(kt _ _ q ho).1,(kt _ _ q ho).2,z,Ds.mono k t⟩
 |.dct ks ps,_,⟨a,kus,e,q,y,⟨o,es,ep,ho,r⟩,z,m,t⟩=>⟨a,kus,e,(kt _ _ q ho).1,y,by rw[k.P,k.w];exact⟨o,es,ep,(kt _ _ q ho).2,r⟩,z,m,Ds.mono k t⟩
 |.rng _ _,_,⟨a,t1,t2,t3,e,q,ho⟩=>⟨a,t1,t2,t3,e,kt _ _ q ho⟩
 |.exn C,_,⟨a,o,e,q,ho,r⟩=>⟨a,o,e,(kt _ _ q ho).1,(kt _ _ q ho).2,r⟩
 |.set _,_,e=>e
theorem Ds.mono (k:Kp c c' h h'):∀{ps:List PV} {us:List Value},Ds c h ps us->Ds c' h' ps us
 |[],_,e=>e
 |_::_,_,⟨u,r,e,d,t⟩=>⟨u,r,e,D1.mono k k.kp d,Ds.mono k t⟩
end
theorem D1.m {p:PV}{u:Value}(d:D c h p u)(k:Kp c c' h h'):D c' h' p u:=D1.mono k k.kp d
theorem D1.rd {p:PV}{u:Value}{top:Addr->Prop}(d:D1 top c h p u):Rd c h p u:=D1.mono ⟨rfl,rfl,rfl,fun _ _ q e=>⟨q,e⟩⟩ (fun _ _ _ e=>⟨trivial,e⟩) d
theorem Kp.refl:Kp c c h h:=⟨rfl,rfl,rfl,fun _ _ q e=>⟨q,e⟩⟩
theorem Ds.get:∀{ps:List PV} {us:List Value} {i:Nat} {p:PV},Ds c h ps us->ps[i]?=some p->∃u,us[i]?=some u/\D c h p u
 |[],_,i,p,_,e=>by simp at e
 |_::_,_,0,_,⟨u,r,e,d,t⟩,q=>by simp at q;subst q;exact⟨u,by rw[e];rfl,d⟩
 |_::ps,_,i+1,p,⟨u,r,e,d,t⟩,q=>by
  obtain⟨v,h1,h2⟩:=t.get (i:=i) (p:=p) (by simpa using q)
  exact⟨v,by rw[e];simpa using h1,h2⟩
theorem Ds.app:∀{ps qs:List PV} {us vs:List Value},Ds c h ps us->Ds c h qs vs->Ds c h (ps++qs) (us++vs)
 |[],_,_,_,e,q=>by rw[show _=[] from e];exact q
 |_::_,_,_,_,⟨u,r,e,d,t⟩,q=>⟨u,_,by rw[e];rfl,d,t.app q⟩
theorem Ds.one {p:PV}{u:Value}(d:D c h p u):Ds c h [p] [u]:=⟨u,[],rfl,d,rfl⟩
theorem Ds.cons {p:PV}{u:Value}{ps:List PV}{us:List Value}(d:D c h p u)(t:Ds c h ps us):Ds c h (p::ps) (u::us):=⟨u,us,rfl,d,t⟩
theorem Ds.set {p:PV}{u:Value}(d:D c h p u):∀{ps:List PV} {us:List Value} (i:Nat),Ds c h ps us->Ds c h (ps.set i p) (us.set i u)
 |[],_,_,q=>by rw[show _=[] from q];rfl
 |_::_,_,0,⟨v',r,e,_,t⟩=>by rw[e];exact⟨u,r,rfl,d,t⟩
 |_::_,_,i+1,⟨v',r,e,h',t⟩=>by rw[e];exact⟨v',_,rfl,h',Ds.set d i t⟩
theorem Ds.take:∀{ps:List PV} {us:List Value} (n:Nat),Ds c h ps us->Ds c h (ps.take n) (us.take n)
 |_,_,0,_=>by simp[Ds]
 |[],_,_+1,q=>by rw[show _=[] from q];rfl
 |_::_,_,n+1,⟨v,r,e,d,t⟩=>by rw[e];exact⟨v,_,rfl,d,t.take n⟩
theorem Ds.drop:∀{ps:List PV} {us:List Value} (n:Nat),Ds c h ps us->Ds c h (ps.drop n) (us.drop n)
 |_,_,0,q=>q
 |[],_,_+1,q=>by rw[show _=[] from q];rfl
 |_::_,_,n+1,⟨v,r,e,d,t⟩=>by rw[e];exact t.drop n
theorem Ds.rev:∀{ps:List PV} {us:List Value},Ds c h ps us->Ds c h ps.reverse us.reverse
 |[],_,q=>by rw[show _=[] from q];rfl
 |_::_,_,⟨v,r,e,d,t⟩=>by rw[e,List.reverse_cons,List.reverse_cons];exact t.rev.app (.one d)
theorem Ds.rep {ps:List PV}{us:List Value}(d:Ds c h ps us):∀n,Ds c h (List.replicate n ps).flatten (List.replicate n us).flatten
 |0=>rfl
 |n+1=>d.app (Ds.rep d n)
theorem Ds.of:∀{ps:List PV} {us:List Value},us.length=ps.length->(∀(i:Nat) p u,ps[i]?=some p->us[i]?=some u->D c h p u)->Ds c h ps us
 |[],[],_,_=>rfl
 |p::ps,u::us,hl,hd=>⟨u,us,rfl,hd 0 p u rfl rfl,Ds.of (by simpa using hl) fun i p u h1 h2=>hd (i+1) p u (by simpa using h1) (by simpa using h2)⟩
 |[],_::_,hl,_=>by cases hl
 |_::_,[],hl,_=>by cases hl
theorem D1.v {top:Addr->Prop}{p:PV}{u:Value}(d:D1 top c h p u):∃v,iQ v u/\∀u',iQ v u'->D1 top c h p u':=by
 cases p with
 |non=>exact⟨.non,d,fun _ r=>r⟩
 |bl b=>exact⟨.bl b,d,fun _ r=>r⟩
 |int i=>exact⟨.int i,d,fun _ r=>r⟩
 |str i=>exact⟨.str i,d,fun _ r=>r⟩
 |ty i=>exact⟨.ty i,d,fun _ r=>r⟩
 |fn i=>obtain⟨a,m,e⟩:=d;exact⟨.ref a,e,fun _ r=>⟨a,m,r⟩⟩
 |set i=>exact (show False from d).elim
 |tup|lst|ktu|src|dct|rng|exn=>
  obtain⟨a,r,x⟩:=id d
  first
   |exact⟨.ref a,x.1,fun u' q=>by rw[show u'=.ref a from q];exact⟨a,r,rfl,x.2⟩⟩
   |(obtain⟨n,x⟩:=x;exact⟨.ref a,x.1,fun u' q=>by rw[show u'=.ref a from q];exact⟨a,r,n,rfl,x.2⟩⟩)
   |(obtain⟨n,m,x⟩:=x;exact⟨.ref a,x.1,fun u' q=>by rw[show u'=.ref a from q];exact⟨a,r,n,m,rfl,x.2⟩⟩)
end
end Dp
end
section
namespace Dp
open PySem PySem.Spec L2 PyProof.Rows
inductive Sl where
 |val (p:PV)|own (ps:List PV)|dic (ks:List fP) (ps:List PV)
noncomputable abbrev aj:=List (Option Sl)
noncomputable abbrev ay:HO:=.ext fun _=>True
noncomputable def jV (bad:Addr->Prop)(H:Hp)(a:Addr):Prop:=H a=none/\¬bad a
structure Z (X:Cx) where
 bad:Addr->Prop
 pins:List (Addr×Obj)
 σ:L2.St
 H:Hp
 ρ:aj
noncomputable abbrev bg (X:Cx)(bad:Addr->Prop)(H:Hp):Cn:=⟨jV bad H,X.prog,X.w,X.mg⟩
noncomputable abbrev Z.cn {X:Cx}(z:Z X):Cn:=bg X z.bad z.H
noncomputable def DictAt (c:Cn)(h:Heap)(a:Addr)(ks:List fP)(ps:List PV):Prop:=∃kus,(a==sysModules)=false/\h.DictOf (bq c.P c.w) a kus/\kus.length≤sizeLine/\kus.map (·.1)=ks/\Ds c h ps (kus.map (·.2))
noncomputable def ListAt (c:Cn)(h:Heap)(a:Addr)(ps:List PV):Prop:=∃its n,h.get? a=some (gx its n)/\its.length≤sizeLine/\Ds c h ps its
noncomputable def SlOk (c:Cn)(H:Hp)(h:Heap):Sl->V->Prop
 |.val p,v=>∀u,iQ v u->D c h p u
 |.own ps,v=>∃a,v=.ref a/\H a=some ay/\ListAt c h a ps
 |.dic ks ps,v=>∃a,v=.ref a/\H a=some ay/\DictAt c h a ks ps
noncomputable def cV:Sl->Bool
 |.val _=>false
 |_=>true
noncomputable def bU (σ:L2.St)(ρ:aj)(i:Nat)(a:Addr):Prop:=(∃s,ρ[i]?=some (some s)/\cV s=true)/\σ[i]?=some (some (.ref a))
structure Z.ok {X:Cx}(z:Z X)(s:Shared):Prop where
 I:Inv X z.pins z.σ z.H s
 len:z.σ.length=z.ρ.length
 slk:∀(i:Nat) t,z.ρ[i]?=some (some t)->∃v,z.σ[i]?=some (some v)/\(∃u,iQ v u)/\SlOk z.cn z.H s.heap t v
 dj:∀i j a,bU z.σ z.ρ i a->bU z.σ z.ρ j a->i=j
 nb:∀i a,bU z.σ z.ρ i a->¬z.bad a/\(X.s₀.heap.get? a=none\/X.H₀ a≠none)
 oh:∀b o,z.H b=some o->o=ay
 oh0:∀b o,X.H₀ b=some o->o=ay
 loc:z.bad X.env.locals
 cel:∀x c,X.env.cells.lookup x=some c->z.bad c
 fs:∀b∈X.fs,z.bad b
 ex:∀b∈X.ex,z.bad b
 there:∀b,z.bad b->∃o,s.heap.get? b=some o
 bs:∀b o,X.base.get? b=some o->¬z.bad b
 ot:∀a o,z.H a=some o->¬z.bad a/\∃ob,s.heap.get? a=some ob/\ob.cls≠.type "tuple"
 anc:X.fn "" = true->∀a,X.H₀ a≠none->z.σ[0]?=some (some (.ref a))
structure Ext (bad:Addr->Prop)(h h':Heap):Prop where
 kp:∀a o,¬bad a->h.get? a=some o->h'.get? a=some o
 th:∀a o,h.get? a=some o->∃o',h'.get? a=some o'
theorem Ext.refl {bad:Addr->Prop}{h:Heap}:Ext bad h h:=⟨fun _ _ _ e=>e,fun _ o e=>⟨o,e⟩⟩
theorem Ext.trans {bad:Addr->Prop}{h h1 h2:Heap}(a:Ext bad h h1)(b:Ext bad h1 h2):Ext bad h h2:=
 ⟨fun x o n e=>b.kp x o n (a.kp x o n e),fun x o e=>let ⟨o',q⟩:=a.th x o e;b.th x o' q⟩
theorem Ext.kept {bad:Addr->Prop}{h h':Heap}(k:∀b u,h.get? b=some u->h'.get? b=some u):Ext bad h h':=⟨fun a o _ e=>k a o e,fun a o e=>⟨o,k a o e⟩⟩
section
variable {X:Cx}{z:Z X}{s s' s1 s2:Shared}{h h':Heap}
theorem Ext.kpD {bad:Addr->Prop}{H:Hp}(e:Ext bad h h'):Kp (bg X bad H) (bg X bad H) h h':=⟨rfl,rfl,rfl,fun a o q g=>⟨q,e.kp a o q.2 g⟩⟩
theorem ListAt.mono {c c':Cn}{a:Addr}{ps:List PV}(k:Kp c c' h h')(q:∀o,h.get? a=some o->h'.get? a=some o):ListAt c h a ps->ListAt c' h' a ps
 |⟨its,n,e,z,t⟩=>⟨its,n,q _ e,z,t.mono k⟩
theorem DictAt.mono {c c':Cn}{a:Addr}{ks:List fP}{ps:List PV}(k:Kp c c' h h')(q:∀o,h.get? a=some o->h'.get? a=some o):DictAt c h a ks ps->DictAt c' h' a ks ps
 |⟨kus,y,⟨o,es,ep,e,r⟩,z,m,t⟩=>⟨kus,y,by rw[k.P,k.w];exact⟨o,es,ep,q _ e,r⟩,z,m,t.mono k⟩
theorem SlOk.mono {c c':Cn}{H:Hp}(k:Kp c c' h h')(q:∀a o,H a=some ay->h.get? a=some o->h'.get? a=some o):∀{t:Sl} {v:V},SlOk c H h t v->SlOk c' H h' t v
 |.val p,_,d=>fun u r=>(d u r).m k
 |.own ps,_,⟨a,e,o,d⟩=>⟨a,e,o,d.mono k (q a · o)⟩
 |.dic ks ps,_,⟨a,e,o,d⟩=>⟨a,e,o,d.mono k (q a · o)⟩
noncomputable def Z.go (z:Z X)(s s':Shared):Prop:=z.ok s'/\Ext z.bad s.heap s'.heap
theorem Z.ok.stands (h:z.ok s){a:Addr}{o:HO}(e:z.H a=some o):∃ob,s.heap.get? a=some ob:=h.I.hok.stands e
theorem Z.ok.free (h:z.ok s){a:Addr}(e:s.heap.get? a=none):jV z.bad z.H a:=by
 refine⟨?_,fun b=>?_⟩
 ·cases q:z.H a with
  |none=>rfl
  |some o=>obtain⟨ob,r⟩:=h.stands q;rw[e] at r;cases r
 ·obtain⟨o,r⟩:=h.there a b;rw[e] at r;cases r
theorem Z.ok.own_nb (h:z.ok s){i:Nat}{t:Sl}{a:Addr}(e:z.ρ[i]?=some (some t))(o:cV t=true)(q:z.σ[i]?=some (some (.ref a))):¬z.bad a:=(h.nb i a ⟨⟨t,e,o⟩,q⟩).1
theorem SlOk.step {z:Z X}(hz:z.ok s)(e:Ext z.bad s.heap h'){i:Nat}{t:Sl}{v:V}(e1:z.ρ[i]?=some (some t))(e2:z.σ[i]?=some (some v)):SlOk z.cn z.H s.heap t v->SlOk z.cn z.H h' t v:=fun q=>by
 cases t with
 |val p=>exact fun u r=>(q u r).m e.kpD
 |own ps=>obtain⟨a,rfl,o,d⟩:=q;exact⟨a,rfl,o,d.mono e.kpD fun o'=>e.kp a o' (hz.own_nb e1 rfl e2)⟩
 |dic ks ps=>obtain⟨a,rfl,o,d⟩:=q;exact⟨a,rfl,o,d.mono e.kpD fun o'=>e.kp a o' (hz.own_nb e1 rfl e2)⟩
theorem Z.ok.ext (hz:z.ok s)(I:Inv X z.pins z.σ z.H s')(e:Ext z.bad s.heap s'.heap):z.go s s':=
 ⟨⟨I,hz.len,fun i t q=>by
  obtain⟨v,e1,r,d⟩:=hz.slk i t q
  exact⟨v,e1,r,d.step hz e q e1⟩,hz.dj,hz.nb,hz.oh,hz.oh0,hz.loc,hz.cel,hz.fs,hz.ex,fun b q=>let ⟨o,r⟩:=hz.there b q;e.th b o r,hz.bs,fun a o q=>⟨(hz.ot a o q).1,let ⟨ob,r1,r2⟩:=(hz.ot a o q).2;⟨ob,e.kp a ob (hz.ot a o q).1 r1,r2⟩⟩,hz.anc⟩,e⟩
theorem Z.ok.kept (hz:z.ok s){t:Nat}(k:∀b u,s.heap.get? b=some u->h'.get? b=some u):z.go s { s with heap:=h',toks:=t }:=hz.ext (hz.I.kept (t':=t) k) (.kept k)
theorem Z.ok.tok (hz:z.ok s)(t:Nat):z.go s { s with toks:=t }:=hz.kept (h':=s.heap) fun _ _ e=>e
theorem Z.ok.push (hz:z.ok s)(o:Obj)(t:Nat):z.go s { s with heap:=s.heap.push o,toks:=t }:=hz.kept fun _ _ e=>Heap.get?_push_of_some _ e
theorem Z.ok.refl (hz:z.ok s):z.go s s:=⟨hz,.refl⟩
theorem Z.go.trans (a:z.go s s1)(b:z.go s1 s2):z.go s s2:=⟨b.1,a.2.trans b.2⟩
end
inductive RV where
 |fz (p:PV)|nw (ps:List PV)|ln (p:PV)
noncomputable def RV.pv:RV->PV
 |.fz p=>p
 |.nw ps=>.lst ps
 |.ln p=>p
noncomputable def RV.fr:RV->Option PV
 |.fz p=>some p
 |.nw ps=>some (.lst ps)
 |.ln _=>none
noncomputable abbrev FE:=aj->Option RV
noncomputable abbrev FB:=aj->Option Bool
noncomputable abbrev FA:=aj->Option (List RV)
noncomputable abbrev FI:=aj->Option (List PV)
section
variable {X:Cx}{z:Z X}{s s' s1 s2:Shared}{h0 h h':Heap}
noncomputable def G6:PV->Bool
 |.lst _=>true
 |.dct _ _=>true
 |_=>false
noncomputable def RvOk (z:Z X)(h0 h:Heap):RV->Value->Prop
 |.fz p,u=>D z.cn h p u
 |.nw ps,u=>∃a,u=.ref a/\h0.get? a=none/\jV z.bad z.H a/\ListAt (bg X z.bad (gf z.H a ay)) h a ps
 |.ln p,u=>Rd z.cn h p u/\G6 p=true/\∀a,u=.ref a->¬z.bad a
theorem A9 {bad:Addr->Prop}{H:Hp}{a:Addr}{h:Heap}:Kp (bg X bad (gf H a ay)) (bg X bad H) h h:=⟨rfl,rfl,rfl,fun b o q e=>⟨⟨by
 have:=q.1
 by_cases hb:b=a
 ·subst hb;rw[bL] at this;cases this
 ·rwa [aA hb] at this,q.2⟩,e⟩⟩
theorem wl {bad:Addr->Prop}{H:Hp}{a:Addr}{h:Heap}(n:h.get? a=none):Kp (bg X bad H) (bg X bad (gf H a ay)) h h:=⟨rfl,rfl,rfl,fun b o q e=>⟨⟨by
 rw[aA (fun z=>by subst z;rw[n] at e;cases e)];exact q.1,q.2⟩,e⟩⟩
theorem RvOk.fr {r:RV}{p:PV}{u:Value}(d:RvOk z h0 h r u)(e:r.fr=some p):D z.cn h p u:=by
 cases r with
 |fz q=>cases e;exact d
 |nw ps=>cases e;obtain⟨a,e,_,o,its,n,g,l,t⟩:=d;exact⟨a,its,n,e,o,g,l,t.mono A9⟩
 |ln q=>cases e
theorem RvOk.rd {r:RV}{u:Value}(d:RvOk z h0 h r u):Rd z.cn h r.pv u:=by
 cases r with
 |fz q=>exact D1.rd d
 |nw ps=>exact D1.rd (RvOk.fr d rfl)
 |ln q=>exact d.1
theorem RvOk.ext {r:RV}{u:Value}(d:RvOk z h0 h r u)(e:Ext z.bad h h'):RvOk z h0 h' r u:=by
 cases r with
 |fz q=>exact D1.m d e.kpD
 |nw ps=>obtain⟨a,e1,n,o,l⟩:=d;exact⟨a,e1,n,o,l.mono e.kpD fun o' q=>e.kp a o' o.2 q⟩
 |ln q=>
  refine⟨?_,d.2⟩
  obtain⟨d,lb,nb⟩:=d
  have k:∀a,u=.ref a->∀o,h.get? a=some o->h'.get? a=some o:=fun a ea o q=>e.kp a o (nb a ea) q
  cases q with
  |lst ps=>obtain⟨a,its,n,e1,q,ho,l,t⟩:=d;exact⟨a,its,n,e1,q,k a e1 _ ho,l,t.mono e.kpD⟩
  |dct ks ps=>obtain⟨a,kus,e1,q,y,⟨o,es,ep,ho,r⟩,l,m,t⟩:=d;exact⟨a,kus,e1,q,y,⟨o,es,ep,k a e1 _ ho,r⟩,l,m,t.mono e.kpD⟩
  |_=>cases lb
structure Rv (z:Z X)(h:Heap)(p:PV)(u:Value):Prop where
 rd:Rd z.cn h p u
 fz:G6 p=false->D z.cn h p u
 nb:G6 p=true->∀a,u=.ref a->¬z.bad a
theorem D1.rv_nb {p:PV}{u:Value}(d:D z.cn h p u)(e:G6 p=true){a:Addr}(ea:u=.ref a):¬z.bad a:=by
 cases p with
 |lst ps=>obtain⟨b,its,n,e1,q,_⟩:=d;rw[e1] at ea;cases ea;exact q.2
 |dct ks ps=>obtain⟨b,its,e1,q,_⟩:=d;rw[e1] at ea;cases ea;exact q.2
 |_=>cases e
theorem RvOk.rv {r:RV}{u:Value}(d:RvOk z h0 h r u):Rv z h r.pv u:=by
 refine⟨d.rd,fun e=>?_,fun e a ea=>?_⟩
 ·cases r with
  |fz q=>exact d
  |nw ps=>cases e
  |ln q=>rw[show RV.pv (.ln q)=q from rfl,d.2.1] at e;cases e
 ·cases r with
  |fz q=>exact D1.rv_nb d e ea
  |nw ps=>obtain⟨b,rfl,_,o,_⟩:=d;cases ea;exact o.2
  |ln q=>exact d.2.2 a ea
noncomputable def Z.post (z:Z X)(s:Shared)(r:RV)(u:Value)(s':Shared):Prop:=z.go s s'/\RvOk z s.heap s'.heap r u
theorem RvOk.old {r:RV}{u:Value}(d:RvOk z h0 h r u)(e:∀a,h0.get? a=none->h'.get? a=none):RvOk z h' h r u:=by
 cases r with
 |fz q=>exact d
 |nw ps=>obtain⟨a,e1,n,o,l⟩:=d;exact⟨a,e1,e a n,o,l⟩
 |ln q=>exact d
theorem Ext.back {bad:Addr->Prop}(e:Ext bad h h'){a:Addr}(n:h'.get? a=none):h.get? a=none:=by
 cases q:h.get? a with
 |none=>rfl
 |some o=>obtain⟨o',r⟩:=e.th a o q;rw[n] at r;cases r
theorem Z.go.post {r:RV}{u:Value}(a:z.go s s1)(b:Z.post z s1 r u s2):Z.post z s r u s2:=⟨a.trans b.1,b.2.old fun _=>Ext.back a.2⟩
end
noncomputable abbrev W (X:Cx){α:Type}(t:Sem α)(Q:α->Shared->Prop)(E:Value->Shared->Prop)(s:Shared):Prop:=wpAny (model X.prog X.w) X.A t Q E s
noncomputable def NE (X:Cx)(e:Expr)(f:FE):Prop:=∀(z:Z X) s r E,z.ok s->f z.ρ=some r->W X (eval e X.env) (Z.post z s r) E s
noncomputable def NB (X:Cx)(e:Expr)(f:FB):Prop:=∀(z:Z X) s b E,z.ok s->f z.ρ=some b->W X (isTrue e X.env (eval e X.env)) (fun c s'=>c=b/\z.go s s') E s
noncomputable def NW (X:Cx)(e:Expr)(f:FB):Prop:=∀(z:Z X) whole s b E,z.ok s->f z.ρ=some b->W X (isTrue e X.env whole) (fun c s'=>c=b/\z.go s s') E s
inductive RvsOk {X:Cx} (z:Z X) (h0 h:Heap):List RV->List Value->Prop where
 |nil:RvsOk z h0 h [] []
 |cons {r:RV} {u:Value} {rs:List RV} {us:List Value}:RvOk z h0 h r u->RvsOk z h0 h rs us->RvsOk z h0 h (r::rs) (u::us)
noncomputable def NA (X:Cx)(es:List Expr)(f:FA):Prop:=∀(z:Z X) (pos:Pos) s rs E,z.ok s->f z.ρ=some rs->W X (spliced (backTo pos (starEach es X.env))) (fun us s'=>z.go s s'/\RvsOk z s.heap s'.heap rs us) E s
end Dp
end
section
namespace L2
open PySem PySem.Spec PyProof.Rows
section
variable {κ:Type}[DecidableEq κ]
end
theorem pP {P:Program}{w:World}{k:fP}{u:Value}(r:iQ (kV k) u):(bq P w).is k u=true:=by
 cases k with
 |inl i=>obtain⟨t,e⟩:=(show ∃t,u=Value.int i t from r);subst e;exact vc P w i t
 |inr x=>obtain⟨t,e⟩:=(show ∃t,u=Value.str x t from r);subst e;exact ka P w x t
section
variable {X:Cx}{pins:List (Addr×Obj)}{σ:St}{H:Hp}{s:Shared}{a:Addr}{y v:V}{u r:Value}{o:Option V}{A:Around}{E:Value->Shared->Prop}
theorem Inv.big (I:Inv X pins σ H s):sysModules<s.heap.objs.size:=by
 have h:mainGlobals<s.heap.objs.size:=(I.mod.glob.keeps I.bk).lt
 exact Nat.lt_trans (by decide) h
end
end L2
end
section
namespace Dp
open PySem PySem.Spec L2 PySem.SeqAt
noncomputable def vt:PV->V
 |.non=>.non
 |.bl b=>.bl b
 |.int i=>.int i
 |.str x=>.str x
 |.ty n=>.ty n
 |_=>.non
mutual
noncomputable def aW:PV->Bool
 |.non=>true
 |.bl _=>true
 |.int _=>true
 |.str _=>true
 |.tup ps=>aq ps
 |.lst ps=>aq ps
 |_=>false
noncomputable def aq:List PV->Bool
 |[]=>true
 |p::ps=>aW p&&aq ps
end
mutual
noncomputable def qq:PV->Nat
 |.tup ps=>cR ps+1
 |.lst ps=>cR ps+1
 |_=>0
noncomputable def cR:List PV->Nat
 |[]=>0
 |p::ps=>max (qq p) (cR ps)
end
mutual
noncomputable def iJ:PV->PV->Bool
 |.tup ps,q=>match q with
  |.tup qs=>fK ps qs
  |_=>false
 |.lst ps,q=>match q with
  |.lst qs=>fK ps qs
  |_=>false
 |p,q=>jg q&&Ff (vt p) (vt q)
noncomputable def fK:List PV->List PV->Bool
 |[],qs=>match qs with
  |[]=>true
  |_::_=>false
 |p::ps,qs=>match qs with
  |[]=>false
  |q::qs=>iJ p q&&fK ps qs
end
theorem jP:∀(ps qs:List PV),((List.range (min ps.length qs.length)).all (fun j=>iJ (ps.getD j .non) (qs.getD j .non))&&ps.length==qs.length)=fK ps qs
 |[],[]=>by simp[fK]
 |[],_::_=>by simp[fK]
 |_::_,[]=>by simp[fK]
 |p::ps,q::qs=>by
  have ih:=jP ps qs
  rw[fK,←ih,show min (p::ps).length (q::qs).length=min ps.length qs.length+1 by simp only[List.length_cons];omega,List.range_succ_eq_map,List.all_cons,List.all_map]
  simp[Bool.and_assoc,Function.comp_def]
theorem tX {ps qs:List PV}(h:ps.length=qs.length):(List.range ps.length).all (fun j=>iJ (ps.getD j .non) (qs.getD j .non))=fK ps qs:=by
 rw[←jP,←h,Nat.min_self];simp
theorem kz {ps qs:List PV}(h:ps.length≠qs.length):fK ps qs=false:=by
 rw[←jP,(show (ps.length==qs.length)=false by simpa using h),Bool.and_false]
mutual
theorem uu:∀{p:PV},aW p=true->iJ p p=true
 |.non,_=>rfl
 |.bl b,_=>by simp[iJ,jg,vt,Ff]
 |.int b,_=>by simp[iJ,jg,vt,Ff]
 |.str b,_=>by simp[iJ,jg,vt,Ff]
 |.tup ps,h=>kC (ps:=ps) h
 |.lst ps,h=>kC (ps:=ps) h
 |.ty _,h|.fn _,h|.dct _ _,h|.src _,h|.ktu _,h|.rng _ _,h|.exn _,h|.set _,h=>absurd h Bool.false_ne_true
theorem kC:∀{ps:List PV},aq ps=true->fK ps ps=true
 |[],_=>rfl
 |p::ps,h=>by
  rw[aq,Bool.and_eq_true] at h
  rw[fK,uu h.1,kC h.2];rfl
end
inductive Vw (c:Cn) (h:Heap):PV->Value->Prop where
 |non:Vw c h .non .none
 |bl {b:Bool}:Vw c h (.bl b) (.bool b)
 |int {i:Int} {t:Tok}:Vw c h (.int i) (.int i t)
 |str {i:Str} {t:Tok}:Vw c h (.str i) (.str i t)
 |tup {ps:List PV} {a:Addr} {its:List Value}:aq ps=true->h.IsTuple a its.toArray->Ds c h ps its->Vw c h (.tup ps) (.ref a)
 |lst {ps:List PV} {a:Addr} {its:List Value}:aq ps=true->h.IsList a its.toArray->Ds c h ps its->Vw c h (.lst ps) (.ref a)
theorem D1.vw {top:Addr->Prop}{c:Cn}{h:Heap}{p:PV}{u:Value}(hp:aW p=true)(d:D1 top c h p u):Vw c h p u:=by
 cases p with
 |non=>cases (show u=_ from d);exact .non
 |bl b=>cases (show u=_ from d);exact .bl
 |int b=>obtain⟨t,rfl⟩:=d;exact .int
 |str b=>obtain⟨t,rfl⟩:=d;exact .str
 |tup ps=>obtain⟨a,its,rfl,_,q,_,t⟩:=d;exact .tup hp q t
 |lst ps=>obtain⟨a,its,n,rfl,_,q,_,t⟩:=d;exact .lst hp ⟨_,q,rfl,n,rfl⟩ t
 |_=>exact absurd hp Bool.false_ne_true
theorem DZ {h:Heap}{a:Addr}{x y:List Value}(h1:h.IsTuple a x.toArray)(h2:h.IsTuple a y.toArray):x=y:=by
 obtain⟨o,e,_,n,d⟩:=h1
 obtain⟨o',e',_,n',d'⟩:=h2
 rw[e] at e';cases e'
 rw[d] at d'
 injection d' with d1 _
 simpa using congrArg Array.toList d1
theorem EJ {h:Heap}{a:Addr}{x y:List Value}(h1:h.IsList a x.toArray)(h2:h.IsList a y.toArray):x=y:=by
 obtain⟨o,e,_,n,d⟩:=h1
 obtain⟨o',e',_,n',d'⟩:=h2
 rw[e] at e';cases e'
 rw[d] at d'
 injection d' with d1 _
 simpa using congrArg Array.toList d1
theorem Fb {h:Heap}{a:Addr}{x y:Array Value}(h1:h.IsList a x)(h2:h.IsTuple a y):False:=by
 obtain⟨o,e,c,_⟩:=h1
 obtain⟨o',e',c',_⟩:=h2
 rw[e] at e';cases e';rw[c] at c';exact absurd (Value.type.inj c') (by decide)
mutual
theorem D1.inj {c c':Cn}{h:Heap}{t t':Addr->Prop}:∀{p q:PV} {u:Value},aW p=true->aW q=true->D1 t c h p u->D1 t' c' h q u->p=q:=fun {p q u} hp hq d d'=>by
 cases p with
 |tup ps=>
  obtain⟨a,its,rfl,_,h1,_,h2⟩:=d
  cases d'.vw hq with
  |tup _ h1' h2'=>cases DZ h1 h1';rw[Ds.inj hp hq h2 h2']
  |lst _ h1' _=>exact (Fb h1' h1).elim
 |lst ps=>
  obtain⟨a,its,n,rfl,_,h1,_,h2⟩:=d
  have h1:h.IsList a its.toArray:=⟨_,h1,rfl,n,rfl⟩
  cases d'.vw hq with
  |lst _ h1' h2'=>cases EJ h1 h1';rw[Ds.inj hp hq h2 h2']
  |tup _ h1' _=>exact (Fb h1 h1').elim
 |non=>cases (show u=_ from d);cases d'.vw hq;rfl
 |bl b=>cases (show u=_ from d);cases d'.vw hq;rfl
 |int b=>obtain⟨t,rfl⟩:=d;cases d'.vw hq;rfl
 |str b=>obtain⟨t,rfl⟩:=d;cases d'.vw hq;rfl
 |_=>exact absurd hp Bool.false_ne_true
theorem Ds.inj {c c':Cn}{h:Heap}:∀{ps qs:List PV} {us:List Value},aq ps=true->aq qs=true->Ds c h ps us->Ds c' h qs us->ps=qs
 |[],qs,_,_,_,e,h'=>by
  cases (show _=[] from e)
  cases qs with
  |nil=>rfl
  |cons q qs=>obtain⟨u,r,e,_⟩:=h';cases e
 |p::ps,qs,_,hp,hq,⟨u,r,e,d1,d2⟩,h'=>by
  subst e
  cases qs with
  |nil=>cases (show _=[] from h')
  |cons q qs=>
   obtain⟨u',r',e',d1',d2'⟩:=h'
   cases e'
   rw[aq,Bool.and_eq_true] at hp hq
   rw[D1.inj hp.1 hq.1 d1 d1',Ds.inj hp.2 hq.2 d2 d2']
end
variable {c c':Cn}{s:Shared}
theorem uX {t t':Addr->Prop}{p q:PV}{A:Around}{u v:Value}(hp:aW p=true)(hq:aW q=true)(d:D1 t c s.heap p u)(d':D1 t' c' s.heap q v)(rc:RcAt A s u v (iJ p q)):EqAt A s u v (iJ p q):=by
 by_cases h:u=v
 ·subst h
  obtain rfl:=D1.inj hp hq d d'
  rw[uu hp]
  exact EqAt.same _
 ·intro prog w E Q hQ
  unfold eqBool
  refine wpAny_holding ?_
  refine wpAny_ite_split (fun hab=>absurd (eq_of_beq hab) h) (fun _=>?_)
  cases d.vw hp<;>exact wpAny_bind (rc prog w E _ (wpAny_truthy_bool hQ))
theorem zP {p q:PV}{A:Around}{u v:Value}(hd:A.units<cLine)(d:Vw c s.heap p u)(d':Vw c' s.heap q v)(nt:∀ps qs,p=.tup ps->q≠.tup qs)(nl:∀ps qs,p=.lst ps->q≠.lst qs):RcAt A s u v (iJ p q)/\RcNeAt A s u v (!iJ p q):=by
 cases d with
 |non=>cases d' with
  |non=>exact⟨RcAt.none_none,RcNeAt.none_none⟩
  |bl=>exact⟨RcAt.none_bool _,RcNeAt.none_bool _⟩
  |int=>exact⟨RcAt.none_int _ _,RcNeAt.none_int _ _⟩
  |str=>exact⟨RcAt.none_str _ _,RcNeAt.none_str _ _⟩
  |tup _ h _=>exact⟨RcAt.none_tuple h hd,RcNeAt.none_tuple h hd⟩
  |lst _ h _=>exact⟨RcAt.none_list h hd,RcNeAt.none_list h hd⟩
 |bl=>cases d' with
  |non=>exact⟨RcAt.bool_none _,RcNeAt.bool_none _⟩
  |bl=>exact⟨RcAt.bool_bool _ _,RcNeAt.bool_bool _ _⟩
  |int=>exact⟨RcAt.bool_int _ _ _,RcNeAt.bool_int _ _ _⟩
  |str=>exact⟨RcAt.bool_str _ _ _,RcNeAt.bool_str _ _ _⟩
  |tup _ h _=>exact⟨RcAt.bool_tuple _ h hd,RcNeAt.bool_tuple _ h hd⟩
  |lst _ h _=>exact⟨RcAt.bool_list _ h hd,RcNeAt.bool_list _ h hd⟩
 |int=>cases d' with
  |non=>exact⟨RcAt.int_none _ _,RcNeAt.int_none _ _⟩
  |bl=>exact⟨RcAt.int_bool _ _ _,RcNeAt.int_bool _ _ _⟩
  |int=>exact⟨RcAt.int_int _ _ _ _,RcNeAt.int_int _ _ _ _⟩
  |str=>exact⟨RcAt.int_str _ _ _ _,RcNeAt.int_str _ _ _ _⟩
  |tup _ h _=>exact⟨RcAt.int_tuple _ _ h hd,RcNeAt.int_tuple _ _ h hd⟩
  |lst _ h _=>exact⟨RcAt.int_list _ _ h hd,RcNeAt.int_list _ _ h hd⟩
 |str=>cases d' with
  |non=>exact⟨RcAt.str_none _ _,RcNeAt.str_none _ _⟩
  |bl=>exact⟨RcAt.str_bool _ _ _,RcNeAt.str_bool _ _ _⟩
  |int=>exact⟨RcAt.str_int _ _ _ _,RcNeAt.str_int _ _ _ _⟩
  |str=>exact⟨RcAt.str_str _ _ _ _,RcNeAt.str_str _ _ _ _⟩
  |tup _ h _=>exact⟨RcAt.str_tuple _ _ h hd,RcNeAt.str_tuple _ _ h hd⟩
  |lst _ h _=>exact⟨RcAt.str_list _ _ h hd,RcNeAt.str_list _ _ h hd⟩
 |tup _ h _=>cases d' with
  |non=>exact⟨RcAt.tuple_none h hd,RcNeAt.tuple_none h hd⟩
  |bl=>exact⟨RcAt.tuple_bool _ h hd,RcNeAt.tuple_bool _ h hd⟩
  |int=>exact⟨RcAt.tuple_int _ _ h hd,RcNeAt.tuple_int _ _ h hd⟩
  |str=>exact⟨RcAt.tuple_str _ _ h hd,RcNeAt.tuple_str _ _ h hd⟩
  |tup=>exact absurd rfl (nt _ _ rfl)
  |lst _ h' _=>exact⟨RcAt.tuple_list h h' hd,RcNeAt.tuple_list h h' hd⟩
 |lst _ h _=>cases d' with
  |non=>exact⟨RcAt.list_none h hd,RcNeAt.list_none h hd⟩
  |bl=>exact⟨RcAt.list_bool _ h hd,RcNeAt.list_bool _ h hd⟩
  |int=>exact⟨RcAt.list_int _ _ h hd,RcNeAt.list_int _ _ h hd⟩
  |str=>exact⟨RcAt.list_str _ _ h hd,RcNeAt.list_str _ _ h hd⟩
  |tup _ h' _=>exact⟨RcAt.list_tuple h h' hd,RcNeAt.list_tuple h h' hd⟩
  |lst=>exact absurd rfl (nl _ _ rfl)
theorem yw {ps qs:List PV}{A:Around}{a b:Addr}{its its2:List Value}(hu:A.units<cLine)(l1:its.length=ps.length)(l2:its2.length=qs.length)(es:∀j (h1:j<its.toArray.size) (h2:j<its2.toArray.size),EqAt A.in1 s its.toArray[j] its2.toArray[j] (iJ (ps.getD j .non) (qs.getD j .non))) :
  (s.heap.IsTuple a its.toArray->s.heap.IsTuple b its2.toArray->RcAt A s (.ref a) (.ref b) (fK ps qs)/\RcNeAt A s (.ref a) (.ref b) (!fK ps qs))/\(s.heap.IsList a its.toArray->s.heap.IsList b its2.toArray->RcAt A s (.ref a) (.ref b) (fK ps qs)/\RcNeAt A s (.ref a) (.ref b) (!fK ps qs)):=by
 refine⟨fun h1 h2=>?_,fun h1 h2=>?_⟩
 ·have x:=RcAt.tuples (A:=A) (s:=s) (e:=fun j=>iJ (ps.getD j .non) (qs.getD j .non)) h1 h2 hu es
  have y:=RcNeAt.tuples (A:=A) (s:=s) (e:=fun j=>iJ (ps.getD j .non) (qs.getD j .non)) h1 h2 hu es
  rw[List.size_toArray,List.size_toArray,l1,l2,jP] at x y
  exact⟨x,y⟩
 ·by_cases hl:ps.length=qs.length
  ·have x:=RcAt.lists (A:=A) (s:=s) (e:=fun j=>iJ (ps.getD j .non) (qs.getD j .non)) h1 h2 (by simp;omega) hu es
   have y:=RcNeAt.lists (A:=A) (s:=s) (e:=fun j=>iJ (ps.getD j .non) (qs.getD j .non)) h1 h2 (by simp;omega) hu es
   rw[List.size_toArray,l1,tX hl] at x y
   exact⟨x,y⟩
  ·have x:=RcAt.lists_lengths (A:=A) (s:=s) h1 h2 (by simp;omega) hu
   have y:=RcNeAt.lists_lengths (A:=A) (s:=s) h1 h2 (by simp;omega) hu
   rw[kz hl]
   exact⟨x,y⟩
mutual
theorem EF:∀{p q:PV} {A:Around} {u v:Value} {t t':Addr->Prop},aW p=true->aW q=true->A.units+qq p+1<cLine->D1 t c s.heap p u->D1 t' c' s.heap q v->RcAt A s u v (iJ p q)/\RcNeAt A s u v (!iJ p q)
 |.tup ps,q,A,_,v,t,t',hp,hq,hd,⟨a,its,e,o,h1,z,h2⟩,d=>by
  subst e
  cases d.vw hq with
  |tup _ h1' h2'=>exact (yw (by omega) h2.length h2'.length fun j k1 k2=>C7 (ps:=ps) hp hq (by rw[qq] at hd;show A.units+1+cR ps+1<cLine;omega) h2 h2' j (by simpa using k1) (by simpa using k2) k1 k2).1 h1 h1'
  |_=>exact zP (by omega) (D1.vw (p:=.tup ps) hp ⟨a,its,rfl,o,h1,z,h2⟩) (d.vw hq) (fun _ _ _ e=>(by cases e)) fun _ _ e=>(by cases e)
 |.lst ps,q,A,_,v,t,t',hp,hq,hd,⟨a,its,n,e,o,h1,z,h2⟩,d=>by
  subst e
  cases d.vw hq with
  |lst _ h1' h2'=>exact (yw (by omega) h2.length h2'.length fun j k1 k2=>C7 (ps:=ps) hp hq (by rw[qq] at hd;show A.units+1+cR ps+1<cLine;omega) h2 h2' j (by simpa using k1) (by simpa using k2) k1 k2).2 ⟨_,h1,rfl,n,rfl⟩ h1'
  |_=>exact zP (by omega) (D1.vw (p:=.lst ps) hp ⟨a,its,n,rfl,o,h1,z,h2⟩) (d.vw hq) (fun _ _ e=>(by cases e)) fun _ _ _ e=>(by cases e)
 |.non,q,A,u,v,_,_,hp,hq,hd,d,d'=>zP (by omega) (d.vw hp) (d'.vw hq) (fun _ _ e=>by cases e) fun _ _ e=>by cases e
 |.bl _,q,A,u,v,_,_,hp,hq,hd,d,d'=>zP (by omega) (d.vw hp) (d'.vw hq) (fun _ _ e=>by cases e) fun _ _ e=>by cases e
 |.int _,q,A,u,v,_,_,hp,hq,hd,d,d'=>zP (by omega) (d.vw hp) (d'.vw hq) (fun _ _ e=>by cases e) fun _ _ e=>by cases e
 |.str _,q,A,u,v,_,_,hp,hq,hd,d,d'=>zP (by omega) (d.vw hp) (d'.vw hq) (fun _ _ e=>by cases e) fun _ _ e=>by cases e
 |.ty _,_,_,_,_,_,_,h,_,_,_,_|.fn _,_,_,_,_,_,_,h,_,_,_,_|.dct _ _,_,_,_,_,_,_,h,_,_,_,_|.src _,_,_,_,_,_,_,h,_,_,_,_|.ktu _,_,_,_,_,_,_,h,_,_,_,_|.rng _ _,_,_,_,_,_,_,h,_,_,_,_|.exn _,_,_,_,_,_,_,h,_,_,_,_|.set _,_,_,_,_,_,_,h,_,_,_,_=>absurd h Bool.false_ne_true
theorem C7:∀{ps qs:List PV} {A:Around} {us vs:List Value},aq ps=true->aq qs=true->A.units+cR ps+1<cLine->Ds c s.heap ps us->Ds c' s.heap qs vs->∀j (_:j<us.length) (_:j<vs.length) (h1:j<us.toArray.size) (h2:j<vs.toArray.size),EqAt A s us.toArray[j] vs.toArray[j] (iJ (ps.getD j .non) (qs.getD j .non))
 |[],qs,A,us,vs,_,_,_,e,_=>fun j h1 _ _ _=>absurd h1 (by rw[show us=[] from e];exact Nat.not_lt_zero _)
 |p::ps,qs,A,us,vs,hp,hq,hd,⟨u,r,e,d1,d2⟩,d'=>fun j h1 h2 k1 k2=>by
  cases qs with
  |nil=>exact absurd h2 (by rw[show vs=[] from d'];exact Nat.not_lt_zero _)
  |cons q qs=>
   obtain⟨v,r',e',d1',d2'⟩:=d'
   subst e e'
   rw[aq,Bool.and_eq_true] at hp hq
   rw[cR] at hd
   cases j with
   |zero=>
    have:=uX hp.1 hq.1 d1 d1' (EF (A:=A) hp.1 hq.1 (by omega) d1 d1').1
    simpa using this
   |succ j=>
    have:=C7 (A:=A) hp.2 hq.2 (by omega) d2 d2' j (by simpa using h1) (by simpa using h2) (by simpa using h1) (by simpa using h2)
    simpa using this
end
open Classical in
noncomputable def Dt (c:Cn)(h:Heap)(q:PV)(u:Value):Bool:=if h:∃p,aW p=true/\D c h p u then iJ h.choose q else false
theorem CQ {q p:PV}{u:Value}(hp:aW p=true)(d:D c s.heap p u):Dt c s.heap q u=iJ p q:=by
 have h:∃p,aW p=true/\D c s.heap p u:=⟨p,hp,d⟩
 unfold Dt
 rw[dif_pos h,D1.inj h.choose_spec.1 hp h.choose_spec.2 d]
theorem wU {q:PV}:∀{ps:List PV} {us:List Value},aq ps=true->Ds c s.heap ps us->us.any (Dt c s.heap q)=ps.any fun p=>iJ p q
 |[],_,_,h=>by rw[show _=[] from h];rfl
 |p::ps,_,hp,⟨u,r,e,d1,d2⟩=>by
  subst e
  rw[aq,Bool.and_eq_true] at hp
  rw[List.any_cons,List.any_cons,CQ hp.1 d1,wU hp.2 d2]
theorem yA {A:Around}{q:PV}{v:Value}{t:Addr->Prop}(hq:aW q=true)(dq:D1 t c' s.heap q v):∀{ps:List PV} {us:List Value},aq ps=true->A.units+cR ps+1<cLine->Ds c s.heap ps us->∀u∈us,EqAt A s u v (Dt c s.heap q u)
 |[],_,_,_,h,u,hu=>by rw[show _=[] from h] at hu;cases hu
 |p::ps,_,hp,hd,⟨u',r,e,d1,d2⟩,u,hu=>by
  subst e
  rw[aq,Bool.and_eq_true] at hp
  rw[cR] at hd
  rcases List.mem_cons.mp hu with rfl|hu
  ·rw[CQ hp.1 d1]
   exact uX hp.1 hq d1 dq (EF hp.1 hq (by omega) d1 dq).1
  ·exact yA hq dq hp.2 (by omega) d2 u hu
noncomputable def pin (x:PV)(ps:List PV):Bool:=ps.any fun p=>iJ p x
noncomputable def items:PV->Option (List PV)
 |.tup ps=>some ps
 |.lst ps=>some ps
 |.src ps=>some ps
 |.ktu ps=>some ps
 |_=>none
theorem D1.items {t:Addr->Prop}{h:Heap}{p:PV}{u:Value}{ps:List PV}(d:D1 t c h p u)(e:items p=some ps):∃a its,u=.ref a/\t a/\its.length≤sizeLine/\Ds c h ps its/\(PyProof.Rows.IsTup h a its.toArray\/∃n,h.get? a=some (gx its n)):=by
 cases p with
 |tup qs=>cases e;obtain⟨a,its,e,o,q,z,t⟩:=d;exact⟨a,its,e,o,z,t,.inl q⟩
 |ktu qs=>cases e;obtain⟨a,its,e,o,q,z,t⟩:=d;exact⟨a,its,e,o,z,t,.inl q⟩
 |lst qs=>cases e;obtain⟨a,its,n,e,o,q,z,t⟩:=d;exact⟨a,its,e,o,z,t,.inr ⟨n,q⟩⟩
 |src qs=>cases e;obtain⟨a,its,n,e,o,q,z,t⟩:=d;exact⟨a,its,e,o,z,t,.inr ⟨n,q⟩⟩
 |_=>cases e
theorem aT {h:Heap}{a:Addr}{its:List Value}{n:Nat}(e:h.get? a=some (gx its n)):h.IsList a its.toArray:=⟨_,e,rfl,n,rfl⟩
section
variable {prog:Program}{w:World}{A:Around}{E:Value->Shared->Prop}{Q:Value->Shared->Prop}
theorem F5 {x y:PV}{u v:Value}{ps:List PV}{t t':Addr->Prop}(ng:Bool)(hu:A.units+64<cLine)(hx:aW x=true)(dx:D1 t c' s.heap x u)(dy:D1 t' c s.heap y v)(e:items y=some ps)(hp:aq ps=true)(hd:cR ps≤50)(q:Q (.bool (if ng=true then !pin x ps else pin x ps)) s) :
  wpAny (model prog w) A (compareOp (if ng=true then .NotIn else .In) u v) Q E s:=by
 obtain⟨a,its,rfl,_,_,ds,h⟩:=dy.items e
 have m:∀y∈its.toArray,EqAt A.in1 s y u (Dt c s.heap x y):=fun y hy=>yA hx dx hp (by show A.units+1+cR ps+1<cLine;omega) ds y (by simpa using hy)
 have e2:its.toArray.any (Dt c s.heap x)=pin x ps:=by rw[List.any_toArray,wU hp ds];rfl
 cases ng<;>rcases h with h|⟨n,h⟩
 ·exact in_tupleAt (Dt c s.heap x) h m (by rw[e2];exact q)
 ·exact in_listAt (Dt c s.heap x) (aT h) m (by rw[e2];exact q)
 ·exact notIn_tupleAt (Dt c s.heap x) h m (by rw[e2];exact q)
 ·exact notIn_listAt (Dt c s.heap x) (aT h) m (by rw[e2];exact q)
end
noncomputable def i8:PV->Option fP
 |.int i=>some (.inl i)
 |.str x=>some (.inr x)
 |_=>none
theorem gK {t:Addr->Prop}{c:Cn}{h:Heap}{p:PV}{u:Value}{k:fP}(e:i8 p=some k)(d:D1 t c h p u):iQ (kV k) u:=by
 cases p with
 |int i=>cases e;exact d
 |str x=>cases e;exact d
 |_=>cases e
noncomputable def nu:List fP->List PV->fP->Option PV
 |k::ks,p::ps,y=>if k=y then some p else nu ks ps y
 |_,_,_=>none
theorem lT {c:Cn}{h:Heap}{y:fP}:∀{kus:List (fP×Value)} {ks:List fP} {ps:List PV},kus.map (·.1)=ks->Ds c h ps (kus.map (·.2))->(∀p,nu ks ps y=some p->∃u,valueAt kus y=some u/\D c h p u)/\(nu ks ps y=none->valueAt kus y=none)
 |[],ks,ps,e,d=>by
  subst e
  cases ps with
  |nil=>exact⟨fun p e=>(by cases e),fun _=>rfl⟩
  |cons p ps=>obtain⟨u,r,e,_⟩:=d;cases e
 |(k,v)::kus,ks,ps,e,d=>by
  subst e
  cases ps with
  |nil=>cases (show v::kus.map (·.2)=[] from d)
  |cons p ps=>
   obtain⟨u,r,e,d1,d2⟩:=d
   cases e
   obtain⟨h1,h2⟩:=lT (y:=y) rfl d2
   show (∀q,(if k=y then some p else nu (kus.map (·.1)) ps y)=some q->_)/\((if k=y then some p else nu (kus.map (·.1)) ps y)=none->_)
   by_cases hk:k=y
   ·rw[if_pos hk]
    exact⟨fun q e=>(by cases e;exact⟨v,by simp[valueAt,hk],d1⟩),fun e=>by cases e⟩
   ·rw[if_neg hk]
    have ev:valueAt ((k,v)::kus) y=valueAt kus y:=by simp[valueAt,hk]
    rw[ev]
    exact⟨h1,h2⟩
noncomputable def LB (x y:PV):Option Bool:=match y with
 |.dct ks ps=>(i8 x).map fun k=>(nu ks ps k).isSome
 |_=>none
theorem Dj {P:Program}{w:World}{mg:Str->Option Value}{A:Around}{s:Shared}{ok ok':Addr->Prop}{t t':Addr->Prop}{x y:PV}{u v:Value}{b ng:Bool}{Q:Value->Shared->Prop}{E:Value->Shared->Prop}(dx:D1 t ⟨ok',P,w,mg⟩ s.heap x u)(dy:D1 t' ⟨ok,P,w,mg⟩ s.heap y v)(e:LB x y=some b)(q:∀tk,Q (.bool (if ng then !b else b)) { s with toks:=tk }) :
  wpAny (model P w) A (compareOp (if ng then .NotIn else .In) u v) Q E s:=by
 unfold LB at e
 split at e
 ·next ks ps=>
  obtain⟨k,ek,rfl⟩:=Option.map_eq_some_iff.mp e
  obtain⟨a,kus,rfl,_,y,dd,zl,hk,ds⟩:=dy
  obtain⟨h1,h2⟩:=lT (y:=k) hk ds
  have ev:(valueAt kus k).isSome=(nu ks ps k).isSome:=by
   cases hd:nu ks ps k with
   |none=>rw[h2 hd];rfl
   |some p=>obtain⟨w',e1,_⟩:=h1 p hd;rw[e1];rfl
  cases ng with
  |false=>exact wpAny_in_of (pP (gK ek dx)) y dd.mapOf (by rw[ev];exact q _)
  |true=>exact wpAny_notIn_of (pP (gK ek dx)) y dd.mapOf (by rw[ev];exact q _)
 ·cases e
end Dp
end
section
namespace Dp
open PySem PySem.Spec L2 PyProof.Rows
theorem big {n:Nat}(h:n≤100000):n≤sizeLine:=Nat.le_trans h (by decide)
theorem JE {n:Nat}(h:n≤100000):n<sizeLine:=Nat.lt_of_le_of_lt h (by decide)
section
variable {X:Cx}{e a b c:Expr}{es jc:List Expr}{pos:Pos}{f fa fb fc:FE}{fs:FA}{i:Nat}{ba bb:FB}
noncomputable def sl (ρ:aj)(i:Nat):Option Sl:=(ρ[i]?).join
noncomputable def r9:Sl->RV
 |.val p=>.fz p
 |.own ps=>.ln (.lst ps)
 |.dic ks ps=>.ln (.dct ks ps)
noncomputable def fV (i:Nat):FE:=fun ρ=>(sl ρ i).map r9
theorem hV {ρ:aj}{s:Sl}(h:sl ρ i=some s):ρ[i]?=some (some s):=by
 unfold sl at h
 cases q:ρ[i]? with
 |none=>rw[q] at h;cases h
 |some o=>rw[q] at h;rw[show o=some s from h]
theorem ListAt.rd {c:Cn}{h:Heap}{a:Addr}{ps:List PV}:ListAt c h a ps->Rd c h (.lst ps) (.ref a)
 |⟨its,n,e,z,t⟩=>⟨a,its,n,rfl,trivial,e,z,t⟩
theorem DictAt.rd {c:Cn}{h:Heap}{a:Addr}{ks:List fP}{ps:List PV}:DictAt c h a ks ps->Rd c h (.dct ks ps) (.ref a)
 |⟨kus,y,d,z,m,t⟩=>⟨a,kus,rfl,trivial,y,d,z,m,t⟩
theorem Z.ok.get {z:Z X}{s:Shared}(hz:z.ok s){t:Sl}{x:Str}(e:sl z.ρ i=some t)(hN:X.N[i]?=some x)(hv:rL X.env.scope x):∃v u m,s.heap.Ns X.env.locals m/\iQ v u/\Kk X.env s.heap m x u/\z.σ[i]?=some (some v)/\SlOk z.cn z.H s.heap t v/\RvOk z s.heap s.heap (r9 t) u:=by
 obtain⟨v,e1,_,d⟩:=hz.slk i t (hV e)
 obtain⟨m,hn,hl⟩:=hz.I.loc
 obtain⟨u,r,l⟩:=hl i x v hN e1 hv
 refine⟨v,u,m,hn,r,l,e1,d,?_⟩
 cases t with
 |val p=>exact d u r
 |own ps=>obtain⟨a,rfl,o,d⟩:=d;rw[show u=.ref a from r];exact⟨ListAt.rd d,rfl,fun b q=>by cases q;exact hz.own_nb (hV e) rfl e1⟩
 |dic ks ps=>obtain⟨a,rfl,o,d⟩:=d;rw[show u=.ref a from r];exact⟨DictAt.rd d,rfl,fun b q=>by cases q;exact hz.own_nb (hV e) rfl e1⟩
theorem J6 {x:Str}(hN:X.N[i]?=some x)(hv:rL X.env.scope x)(hd:(x==("__debug__" : Str))=false)(hcd:(x==("__classdict__" : Str))=false):NE X (.Name x pos) (fV i):=by
 intro z s r E hz h
 obtain⟨t,et,rfl⟩:=Option.map_eq_some_iff.mp h
 obtain⟨v,u,m,hn,rr,l,e1,d,q⟩:=Z.ok.get hz et hN hv
 have fin:Z.post z s (r9 t) u s:=⟨hz.refl,q⟩
 rcases l with ⟨hk,hm⟩|⟨hk,c,hc,hcell⟩
 ·exact wpAny_Name (wpAny_loadName_local hz.I.ok.kind hk hn hm fin) hd
 ·rcases hk with hk|hk
  ·exact wpAny_Name (wpAny_loadName_cell hz.I.ok.kind hk hc hcell fin) hd
  ·exact wpAny_Name (wpAny_loadName_free hz.I.ok.kind hk hc hcell fin hcd) hd
noncomputable def fC (p:PV):FE:=fun _=>some (.fz p)
theorem n_int {i:Int}{j}:NE X (.Constant (.int i) j pos) (fC (.int i)):=fun z s r E hz h=>by cases h;exact wpAny_Constant_int ⟨hz.tok _,_,rfl⟩
theorem Mo {i:Bool}{j}:NE X (.Constant (.bool i) j pos) (fC (.bl i)):=fun z s r E hz h=>by cases h;exact Constant_bool ⟨hz.refl,rfl⟩
theorem Je {j}:NE X (.Constant .none j pos) (fC .non):=fun z s r E hz h=>by cases h;exact Constant_none ⟨hz.refl,rfl⟩
theorem n_str {x:Str}{j}:NE X (.Constant (.str x) j pos) (fC (.str x)):=fun z s r E hz h=>by cases h;exact Calls.Constant_str ⟨hz.tok _,_,rfl⟩
noncomputable def Nw (X:Cx)(x:Str)(p:PV):Prop:=∃u,X.mg x=some u/\∀(h:Heap) (bad:Addr->Prop) (H:Hp),(∀b o,X.base.get? b=some o->h.get? b=some o/\H b=none/\¬bad b)->D (bg X bad H) h p u
theorem sd {x:Str}{p:PV}(hg:Gl X x)(hp:Nw X x p)(hd:(x==("__debug__" : Str))=false):NE X (.Name x pos) (fC p):=fun z s r E hz h=>by
 cases h
 obtain⟨u,m,d⟩:=hp
 exact oe hz.I hg m ⟨hz.refl,d _ _ _ fun b o q=>⟨hz.I.bk b o q,(hz.I.bs b o q).2,hz.bs b o q⟩⟩ hd
theorem Kj {x:Str}{n:String}(hg:Gl X x)(hm:X.mg x=none)(hv:bootBuiltins x=some (.type n))(hn:x ≠ "__name__")(hd:(x==("__debug__" : Str))=false):NE X (.Name x pos) (fC (.ty n)):=fun z s r E hz h=>by
 cases h;exact lE hz.I hg hm hv ⟨hz.refl,rfl⟩ hn hd
noncomputable def ah (g:PV->PV->Option RV)(a b:FE):FE:=fun ρ=>(a ρ).bind fun x=>(b ρ).bind fun y=>g x.pv y.pv
theorem yh {α β γ:Type}{a:Option α}{b:Option β}{g:α->β->Option γ}{r:γ}(h:(a.bind fun x=>b.bind fun y=>g x y)=some r):∃x y,a=some x/\b=some y/\g x y=some r:=by
 obtain⟨x,e1,h⟩:=Option.bind_eq_some_iff.mp h
 obtain⟨y,e2,h⟩:=Option.bind_eq_some_iff.mp h
 exact⟨x,y,e1,e2,h⟩
noncomputable def vE (X:Cx)(F:Value->Value->Sem Value)(g:PV->PV->Option RV):Prop:=∀(z:Z X) s p q u v r E,z.ok s->Rv z s.heap p u->Rv z s.heap q v->g p q=some r->W X (F u v) (Z.post z s r) E s
theorem two (ha:NE X a fa)(hb:NE X b fb){z:Z X}{s:Shared}(hz:z.ok s){x y:RV}(ex:fa z.ρ=some x)(ey:fb z.ρ=some y){α:Type}{Q:α->Shared->Prop}{E:Value->Shared->Prop}{F:Value->Value->Sem α}
  (k:∀u v s2,z.go s s2->RvOk z s.heap s2.heap x u->RvOk z s.heap s2.heap y v->W X (F u v) Q E s2):W X (eval a X.env) (fun u s1=>W X (eval b X.env) (fun v s2=>W X (F u v) Q E s2) E s1) E s:=
 aB (ha z s x E hz ex) fun u s1 ⟨g1,d1⟩=>aB (hb z s1 y E g1.1 ey) fun v s2 ⟨g2,d2⟩=>k u v s2 (g1.trans g2) (d1.ext g2.2) (d2.old fun _=>Ext.back g1.2)
theorem MN {op:Operator}{g:PV->PV->Option RV}(h:vE X (binaryOp op) g)(ha:NE X a fa)(hb:NE X b fb):NE X (.BinOp a op b pos) (ah g fa fb):=fun z s r E hz q=>by
 obtain⟨x,y,ex,ey,eg⟩:=yh q
 exact wpAny_BinOp (two ha hb hz ex ey fun u v s2 g2 d1 d2=>aB (h z s2 _ _ u v r E g2.1 d1.rv d2.rv eg) fun w s3 q3=>g2.post q3)
noncomputable def rI (f:Int->Int->PV):PV->PV->Option RV
 |.int i,.int j=>some (.fz (f i j))
 |_,_=>none
noncomputable def GA (C:Int->Int->Prop)[∀i j,Decidable (C i j)](f:Int->Int->PV):PV->PV->Option RV
 |.int i,.int j=>if C i j then some (.fz (f i j)) else none
 |_,_=>none
theorem tO {F:Value->Value->Sem Value}{C:Int->Int->Prop}[∀i j,Decidable (C i j)]{g:Int->Int->Int}
  (rule:∀(i j:Int) (t u:Tok) (s:Shared) (Q:Value->Shared->Prop) (E:Value->Shared->Prop),C i j->Q (.int (g i j) s.toks) { s with toks:=s.toks+1 }->W X (F (.int i t) (.int j u)) Q E s):vE X F (GA C fun i j=>.int (g i j)):=by
 intro z s p q u v r E hz dp dq e
 unfold GA at e
 split at e
 ·split at e
  ·next hc=>cases e;obtain⟨⟨t,rfl⟩,_⟩:=dp;obtain⟨⟨t',rfl⟩,_⟩:=dq;exact rule _ _ _ _ _ _ _ hc ⟨hz.tok _,_,rfl⟩
  ·cases e
 ·cases e
theorem B4 {F:Value->Value->Sem Value}{g:Int->Int->Int}
  (rule:∀(i j:Int) (t u:Tok) (s:Shared) (Q:Value->Shared->Prop) (E:Value->Shared->Prop),Q (.int (g i j) s.toks) { s with toks:=s.toks+1 }->W X (F (.int i t) (.int j u)) Q E s):vE X F (rI fun i j=>.int (g i j)):=by
 intro z s p q u v r E hz dp dq e
 unfold rI at e
 split at e
 ·cases e;obtain⟨⟨t,rfl⟩,_⟩:=dp;obtain⟨⟨t',rfl⟩,_⟩:=dq;exact rule _ _ _ _ _ _ _ ⟨hz.tok _,_,rfl⟩
 ·cases e
noncomputable def IK (f:Int->Int->Bool):PV->PV->Option RV
 |.int i,.int j=>some (.fz (.bl (f i j)))
 |_,_=>none
theorem Et {F:Value->Value->Sem Value}{g:Int->Int->Bool}
  (rule:∀(i j:Int) (t u:Tok) (s:Shared) (Q:Value->Shared->Prop) (E:Value->Shared->Prop),Q (.bool (g i j)) s->W X (F (.int i t) (.int j u)) Q E s):vE X F (IK g):=by
 intro z s p q u v r E hz dp dq e
 unfold IK at e
 split at e
 ·cases e;obtain⟨⟨t,rfl⟩,_⟩:=dp;obtain⟨⟨t',rfl⟩,_⟩:=dq;exact rule _ _ _ _ _ _ _ ⟨hz.refl,rfl⟩
 ·cases e
theorem Z.ok.newT {z:Z X}{s:Shared}(hz:z.ok s){ps:List PV}{its:List Value}(d:Ds z.cn s.heap ps its)(l:its.length≤sizeLine)(t:Nat):Z.post z s (.fz (.tup ps)) (.ref s.heap.objs.size) { s with heap:=s.heap.push { cls:=.type "tuple",data:=.seq its.toArray },toks:=t }:=
 ⟨hz.push _ t,_,its,rfl,hz.free (Heap.get?_none_of_le (Nat.le_refl _)),⟨_,Heap.get?_push_size _ rfl,rfl,_,rfl⟩,l,d.mono (hz.push _ t).2.kpD⟩
theorem Z.ok.newL {z:Z X}{s:Shared}(hz:z.ok s){ps:List PV}{its:List Value}(d:Ds z.cn s.heap ps its)(l:its.length≤sizeLine){h':Heap}{t n:Nat}(k:∀b u,s.heap.get? b=some u->h'.get? b=some u)(e:h'.get? s.heap.objs.size=some (gx its n)):Z.post z s (.nw ps) (.ref s.heap.objs.size) { s with heap:=h',toks:=t }:=by
 have n:=Heap.get?_none_of_le (h:=s.heap) (Nat.le_refl _)
 refine⟨hz.kept k,_,rfl,n,hz.free n,its,_,e,l,(d.mono (wl n)).mono ⟨rfl,rfl,rfl,fun b o q e=>⟨q,k b o e⟩⟩⟩
theorem Z.ok.newL0 {z:Z X}{s:Shared}(hz:z.ok s){ps:List PV}{its:List Value}(d:Ds z.cn s.heap ps its)(l:its.length≤sizeLine){t n:Nat}:Z.post z s (.nw ps) (.ref s.heap.objs.size) { s with heap:=s.heap.push (gx its n),toks:=t }:=
 Z.ok.newL hz d l (fun _ _ e=>Heap.get?_push_of_some _ e) (Heap.get?_push_size _ rfl)
noncomputable def de:PV->PV->Option RV
 |.int i,.int j=>some (.fz (.int (i+j)))
 |.lst ps,.lst qs=>if ps.length+qs.length≤100000 then some (.nw (ps++qs)) else none
 |.tup ps,.tup qs=>if ps.length+qs.length≤100000 then some (.fz (.tup (ps++qs))) else none
 |.str x,.str y=>if x.length+y.length≤100000 then some (.fz (.str (x++y))) else none
 |_,_=>none
end
end Dp
end
section
namespace Dp
open PySem PySem.Spec L2 PyProof.Rows
section
variable {X:Cx}{e a b c:Expr}{es jc:List Expr}{pos:Pos}{f fa fb fc:FE}{fs:FA}{i:Nat}{ba bb:FB}
theorem I9:vE X (binaryOp .Add) de:=by
 intro z s p q u v r E hz dp dq e
 unfold de at e
 split at e
 ·cases e;obtain⟨⟨t,rfl⟩,_⟩:=dp;obtain⟨⟨t',rfl⟩,_⟩:=dq;exact add_int ⟨hz.tok _,_,rfl⟩
 ·split at e
  ·next h=>
   cases e
   obtain⟨⟨l,its,n,rfl,_,e1,z1,d1⟩,_⟩:=dp
   obtain⟨⟨l2,its2,n2,rfl,_,e2,z2,d2⟩,_⟩:=dq
   have l1:=d1.length
   have l2:=d2.length
   have hb:=big h
   refine PySem.P.add_list e1 e2 ?_ (by rw[List.size_toArray,List.size_toArray];omega)
   rw[List.append_toArray]
   exact Z.ok.newL0 (n:=0) hz (d1.app d2) (by rw[List.length_append];omega)
  ·cases e
 ·split at e
  ·next h=>
   cases e
   have hb:=big h
   obtain⟨l,its,rfl,o1,e1,z1,d1⟩:=dp.2 rfl
   obtain⟨l2,its2,rfl,o2,e2,z2,d2⟩:=dq.2 rfl
   have l1:=d1.length
   have l2:=d2.length
   by_cases hx:its=[]
   ·subst hx
    rw[List.length_nil] at l1
    cases List.length_eq_zero_iff.mp l1.symm
    obtain⟨⟨cls,dd,data,sl⟩,ho,hc,n,hd⟩:=id e1
    obtain⟨⟨cls2,dd2,data2,sl2⟩,ho2,hc2,n2,hd2⟩:=id e2
    simp only at hc hd hc2 hd2
    subst hc hd hc2 hd2
    exact concat_meets ⟨_,ho,rfl⟩ ⟨_,ho2,rfl⟩ noFill_tuple_add seq_tuple_add PySem.F.slot_tuple_add PySem.F.entry_tuple_add (PySem.F.args_tuple_add_2 _ _) (tuple_addW0 _ _ _ _ n n2 dd dd2 sl sl2 (by rfl)) ⟨ho,ho2,hz.refl,dq.2 rfl⟩
   ·refine HT.cat_tup e1 e2 hx (fun hw=>?_) (fun hw=>?_) (by omega)
    ·subst hw
     rw[List.length_nil] at l2
     cases List.length_eq_zero_iff.mp l2.symm
     rw[List.append_nil]
     exact⟨hz.refl,dp.2 rfl⟩
    ·exact Z.ok.newT hz (d1.app d2) (by rw[List.length_append];omega) s.toks
  ·cases e
 ·split at e
  ·next h=>cases e;obtain⟨⟨t,rfl⟩,_⟩:=dp;obtain⟨⟨t',rfl⟩,_⟩:=dq;exact PyProof.Rows.add_str (fun t tk=>⟨hz.tok _,_,rfl⟩) (big h)
  ·cases e
 ·cases e
noncomputable def zw:PV->PV->Option RV:=rI fun i j=>.int (i - j)
noncomputable def iM:PV->PV->Option RV
 |.int i,.int j=>if (i.natAbs<2 ^ 64)\/(j.natAbs<2 ^ 64) then some (.fz (.int (i * j))) else none
 |.lst ps,.int j=>if j≤1000/\-1000≤j/\ps.length≤100 then some (.nw (List.replicate j.toNat ps).flatten) else none
 |.tup ps,.int j=>if ps.isEmpty=false/\1≤j/\j≤1000/\ps.length≤1000 then some (.fz (.tup (List.replicate j.toNat ps).flatten)) else none
 |_,_=>none
theorem ut:sizeLine ≥ 1000000:=by decide
theorem K7:vE X (binaryOp .Mult) iM:=by
 intro z s p q u v r E hz dp dq e
 have z1:=ut
 unfold iM at e
 split at e
 ·next i j=>
  split at e
  ·next h=>
   cases e;obtain⟨⟨t,rfl⟩,_⟩:=dp;obtain⟨⟨t',rfl⟩,_⟩:=dq
   refine mul_int ⟨hz.tok _,_,rfl⟩ (CMul.ok ?_)
   rcases h with h|h
   ·exact .inl (by omega)
   ·exact .inr (by omega)
  ·cases e
 ·next ps k=>
  split at e
  ·next h=>
   cases e
   obtain⟨h1,h2,h3⟩:=h
   obtain⟨⟨l,its,n,rfl,_,e,_,d⟩,_⟩:=dp;obtain⟨⟨t,rfl⟩,_⟩:=dq
   have hl:=d.length
   have nG:its.length * k.toNat≤100 * 1000:=Nat.mul_le_mul (by omega) (by omega)
   have hlen:its.toArray.size * k.toNat≤sizeLine:=by rw[List.size_toArray];omega
   have hcap:¬its.toArray.size * k.toNat > (2 ^ 63 - 1) / 8:=by rw[List.size_toArray];omega
   have hfit:¬(!Builtin.List.listFitsIndex k)=true:=by
    rw[fitsIndex_both (by omega) (by omega)]
    exact Bool.false_ne_true
   have hlong:¬Builtin.List.listTooLong (its.toArray.size * k.toNat)=true:=by
    rw[CZ hlen]
    exact Bool.false_ne_true
   have hnew:List.foldl (fun x1 x2=>x1++x2) #[] (List.replicate (if its.toArray.isEmpty=true then 0 else k.toNat) its.toArray)=(List.replicate k.toNat its).flatten.toArray:=by
    rw[lz]
    cases its with
    |nil=>simp
    |cons a r'=>rw[if_neg (by simp)]
   refine wpAny_binaryOp_repeat_ref (T:="list") (U:="int") (by decide) ⟨_,e,rfl⟩ (fun s'=>typeIs_int s' k t) noFill_list_mul PySem.F.fills_int_mul PySem.F.slot_int_rmul repeat_list PySem.F.slot_int_index.lookup
    (call_meets PySem.F.slot_int_rmul (typeIs_int s k t) PySem.F.entry_int_rmul (PySem.F.args_int_rmul_2 _ _) (int___rmul___int_list k t l its.toArray n)
     ⟨e,rfl,⟨_,e,rfl⟩,call_meets PySem.F.slot_list_mul ⟨_,e,rfl⟩ PySem.F.entry_list_mul (PySem.F.args_list_mul_2 _ _) (AutoListH.list___mul___list_int_3 l its.toArray n k t hfit hcap hlong) ⟨e,?_⟩⟩)
   rw[hnew]
   exact Z.ok.newL0 (n:=0) hz (d.rep k.toNat) (by rw[sO,Nat.mul_comm];omega)
  ·cases e
 ·next ps k=>
  split at e
  ·next h=>
   cases e
   obtain⟨h0,h1,h2,h3⟩:=h
   obtain⟨l,its,rfl,o1,p1,_,d⟩:=dp.2 rfl;obtain⟨⟨t,rfl⟩,_⟩:=dq
   obtain⟨⟨cls,dd,data,sl⟩,e,hc,n,hd⟩:=id p1
   simp only at hc hd
   subst hc hd
   have hl:=d.length
   have hne:its≠[]:=fun w=>by subst w;cases List.length_eq_zero_iff.mp hl.symm;cases h0
   have nG:its.length * k.toNat≤1000 * 1000:=Nat.mul_le_mul (by omega) (by omega)
   refine wpAny_binaryOp_repeat_ref (T:="tuple") (U:="int") (by decide) ⟨_,e,rfl⟩ (fun s'=>typeIs_int s' k t) mM PySem.F.fills_int_mul PySem.F.slot_int_rmul sY PySem.F.slot_int_index.lookup
    (call_meets PySem.F.slot_int_rmul (typeIs_int s k t) PySem.F.entry_int_rmul (PySem.F.args_int_rmul_2 _ _) (pA k t l its.toArray n dd sl) ⟨e,rfl,⟨_,e,rfl⟩,?_⟩)
   by_cases hk:k=1
   ·subst hk
    refine call_meets PySem.F.slot_tuple_mul ⟨_,e,rfl⟩ PySem.F.entry_tuple_mul (PySem.F.args_tuple_mul_2 _ _) (oQ l its.toArray n dd sl t) ⟨e,hz.refl,?_⟩
    rw[show (List.replicate (1:Int).toNat ps).flatten=ps by simp]
    exact dp.2 rfl
   ·have hsz:((its.toArray.size:Nat):Int) * k=((its.length * k.toNat:Nat):Int):=by
     rw[List.size_toArray,Int.natCast_mul,Int.toNat_of_nonneg (by omega)]
    refine call_meets PySem.F.slot_tuple_mul ⟨_,e,rfl⟩ PySem.F.entry_tuple_mul (PySem.F.args_tuple_mul_2 _ _) (qK l its.toArray n dd sl k t ?a1 ?a2 ?a3 ?a4 ?a5 ?a6) ⟨e,?_⟩
    case a1=>simp;omega
    case a2=>simp[hne];exact hk
    case a3=>simp[hne];omega
    case a4=>rw[hsz];omega
    case a5=>
     rw[hsz]
     intro hh
     have h2:=of_decide_eq_true hh
     omega
    case a6=>
     rw[lz,List.size_toArray,sO,Nat.mul_comm]
     omega
    rw[lz]
    exact Z.ok.newT hz (d.rep k.toNat) (by rw[sO,Nat.mul_comm];omega) s.toks
  ·cases e
 ·cases e
noncomputable def kO:PV->PV->Option RV:=GA (fun _ j=>0<j/\j<1073741824) fun i j=>.int (i / j)
noncomputable def bO:PV->PV->Option RV:=GA (fun _ j=>0<j) fun i j=>.int (i % j)
noncomputable def HU:PV->PV->Option RV:=GA (fun i j=>0≤j/\j≤1000000/\i.natAbs<2 ^ 64) fun i j=>.int (i ^ j.toNat)
noncomputable def LU:PV->PV->Option RV:=GA (fun _ j=>0≤j) fun i j=>.int (i / 2 ^ j.toNat)
noncomputable def ML:PV->PV->Option RV:=GA (fun i j=>0≤j/\j≤1000000/\i.natAbs<2 ^ 64) fun i j=>.int (i * 2 ^ j.toNat)
noncomputable def JT:PV->PV->Option RV:=rI fun i j=>.int (Builtin.bitAnd i j)
noncomputable def MS:Operator->PV->PV->Option RV
 |.Add=>de
 |.Sub=>zw
 |.Mult=>iM
 |.FloorDiv=>kO
 |.Mod=>bO
 |.Pow=>HU
 |.RShift=>LU
 |.LShift=>ML
 |.BitAnd=>JT
 |_=>fun _ _=>none
theorem Mp:∀op,vE X (binaryOp op) (MS op)
 |.Add=>I9
 |.Sub=>B4 fun _ _ _ _ _ _ _ q=>sub_int q
 |.Mult=>K7
 |.FloorDiv=>tO fun i j _ _ _ _ _ hc q=>floordiv_int (by omega) (by rw[Int.fdiv_eq_ediv_of_nonneg i (by omega)];exact q) (.inl (PyProof.noPylong_small (by omega)))
 |.Mod=>tO fun i j _ _ _ _ _ hc q=>mod_int' (by omega) (by rw[Int.fmod_eq_emod_of_nonneg i (by omega)];exact q)
 |.Pow=>tO fun _ _ _ _ _ _ _ hc q=>pow_int_small hc.1 hc.2.1 hc.2.2 q
 |.RShift=>tO fun i j _ _ _ _ _ hc q=>rshift_int hc (by rw[Int.fdiv_eq_ediv_of_nonneg i (vP _)];exact q)
 |.LShift=>tO fun _ _ _ _ _ _ _ hc q=>lshift_int_small hc.1 hc.2.1 hc.2.2 q
 |.BitAnd=>B4 fun _ _ _ _ _ _ _ q=>and_int q
 |.BitOr|.BitXor|.Div|.MatMult=>fun _ _ _ _ _ _ _ _ _ _ _ e=>by cases e
noncomputable def mj:PV->Bool
 |.non=>true
 |_=>false
noncomputable def Ik:PV->PV->Option RV:=IK fun i j=>decide (i<j)
noncomputable def Ld:PV->PV->Option RV:=IK fun i j=>decide (i≤j)
noncomputable def IT:PV->PV->Option RV:=IK fun i j=>decide (j<i)
noncomputable def J1:PV->PV->Option RV:=IK fun i j=>decide (j≤i)
noncomputable def mQ (x y:PV):Option RV:=if aW x&&aW y&&decide (qq x≤50) then some (.fz (.bl (iJ x y))) else none
noncomputable def oR (x y:PV):Option RV:=if aW x&&aW y&&decide (qq x≤50) then some (.fz (.bl (!iJ x y))) else none
noncomputable def zu (x y:PV):Option RV:=match items y with
 |some ps=>if aW x&&aq ps&&decide (cR ps≤50) then some (.fz (.bl (pin x ps))) else none
 |none=>(LB x y).map fun b=>.fz (.bl b)
noncomputable def jd (x y:PV):Option RV:=match items y with
 |some ps=>if aW x&&aq ps&&decide (cR ps≤50) then some (.fz (.bl (!pin x ps))) else none
 |none=>(LB x y).map fun b=>.fz (.bl (!b))
noncomputable def LK (x y:PV):Option RV:=match y with
 |.non=>some (.fz (.bl (mj x)))
 |_=>none
noncomputable def wM (x y:PV):Option RV:=match y with
 |.non=>some (.fz (.bl (!mj x)))
 |_=>none
noncomputable def qI:CmpOp->PV->PV->Option RV
 |.Lt=>Ik
 |.LtE=>Ld
 |.Gt=>IT
 |.GtE=>J1
 |.Eq=>mQ
 |.NotEq=>oR
 |.In=>zu
 |.NotIn=>jd
 |.Is=>LK
 |.IsNot=>wM
theorem y0 {z:Z X}{h:Heap}{p:PV}{u:Value}(d:Rd z.cn h p u):(u==Value.none)=mj p:=by
 cases p with
 |non=>cases (show u=_ from d);rfl
 |bl=>cases (show u=_ from d);rfl
 |ty=>cases (show u=_ from d);rfl
 |fn=>obtain⟨_,_,rfl⟩:=d;rfl
 |int=>obtain⟨t,rfl⟩:=d;rfl
 |str=>obtain⟨t,rfl⟩:=d;rfl
 |set=>exact (show False from d).elim
 |rng=>obtain⟨_,_,_,_,rfl,_⟩:=d;rfl
 |lst=>obtain⟨_,_,_,rfl,_⟩:=d;rfl
 |src=>obtain⟨_,_,_,rfl,_⟩:=d;rfl
 |_=>obtain⟨_,_,rfl,_⟩:=d;rfl
theorem qX (hu:X.A.units+64<cLine):∀op,vE X (compareOp op) (qI op)
 |.Lt=>Et fun _ _ _ _ _ _ _ h=>lt_int h
 |.LtE=>Et fun _ _ _ _ _ _ _ h=>le_int h
 |.Gt=>Et fun _ _ _ _ _ _ _ h=>gt_int h
 |.GtE=>Et fun _ _ _ _ _ _ _ h=>ge_int h
 |.Eq=>fun z s p q u v r E hz dp dq e=>by
  change mQ p q=some r at e
  unfold mQ at e
  split at e
  ·next h=>
   cases e
   simp only[Bool.and_eq_true,decide_eq_true_eq] at h
   exact (EF (A:=X.A) h.1.1 h.1.2 (by omega) dp.1 dq.1).1 _ _ _ _ ⟨hz.refl,rfl⟩
  ·cases e
 |.NotEq=>fun z s p q u v r E hz dp dq e=>by
  change oR p q=some r at e
  unfold oR at e
  split at e
  ·next h=>
   cases e
   simp only[Bool.and_eq_true,decide_eq_true_eq] at h
   exact (EF (A:=X.A) h.1.1 h.1.2 (by omega) dp.1 dq.1).2 _ _ _ _ ⟨hz.refl,rfl⟩
  ·cases e
 |.In=>fun z s p q u v r E hz dp dq e=>by
  change zu p q=some r at e
  unfold zu at e
  split at e
  ·next ps h1=>
   split at e
   ·next h=>
    cases e
    simp only[Bool.and_eq_true,decide_eq_true_eq] at h
    exact F5 false hu h.1.1 dp.1 dq.1 h1 h.1.2 h.2 ⟨hz.refl,rfl⟩
   ·cases e
  ·obtain⟨b,e1,rfl⟩:=Option.map_eq_some_iff.mp e
   exact Dj (A:=X.A) (ng:=false) dp.1 dq.1 e1 fun tk=>⟨hz.tok tk,rfl⟩
 |.NotIn=>fun z s p q u v r E hz dp dq e=>by
  change jd p q=some r at e
  unfold jd at e
  split at e
  ·next ps h1=>
   split at e
   ·next h=>
    cases e
    simp only[Bool.and_eq_true,decide_eq_true_eq] at h
    exact F5 true hu h.1.1 dp.1 dq.1 h1 h.1.2 h.2 ⟨hz.refl,rfl⟩
   ·cases e
  ·obtain⟨b,e1,rfl⟩:=Option.map_eq_some_iff.mp e
   exact Dj (A:=X.A) (ng:=true) dp.1 dq.1 e1 fun tk=>⟨hz.tok tk,rfl⟩
 |.Is=>fun z s p q u v r E hz dp dq e=>by
  change LK p q=some r at e
  unfold LK at e
  split at e
  ·cases e
   cases (show v=Value.none from dq.1)
   exact is_none_gen ⟨hz.refl,by rw[y0 dp.1];rfl⟩
  ·cases e
 |.IsNot=>fun z s p q u v r E hz dp dq e=>by
  change wM p q=some r at e
  unfold wM at e
  split at e
  ·cases e
   cases (show v=Value.none from dq.1)
   exact isnot_none_gen ⟨hz.refl,by rw[y0 dp.1];rfl⟩
  ·cases e
theorem Fs {op:CmpOp}{g:PV->PV->Option RV}(h:vE X (compareOp op) g)(ha:NE X a fa)(hb:NE X b fb)(hm:behindInMarks op b=false):NE X (.Compare a [op] [b] pos) (ah g fa fb):=fun z s r E hz q=>by
 obtain⟨x,y,ex,ey,eg⟩:=yh q
 exact wpAny_Compare1 (two ha hb hz ex ey fun u v s2 g2 d1 d2=>aB (h z s2 _ _ u v r E g2.1 d1.rv d2.rv eg) fun w s3 q3=>g2.post q3) hm
noncomputable def zZ:Option RV->Option Bool
 |some (.fz (.bl b))=>some b
 |_=>none
noncomputable def fT (f:FE):FB:=fun ρ=>zZ (f ρ)
theorem ii {o:Option RV}{b:Bool}(h:zZ o=some b):o=some (.fz (.bl b)):=by
 unfold zZ at h
 split at h
 ·cases h;rfl
 ·cases h
theorem Kw {op:CmpOp}{g:PV->PV->Option RV}(h:vE X (compareOp op) g)(ha:NE X a fa)(hb:NE X b fb)(hm:behindInMarks op b=false):NB X (.Compare a [op] [b] pos) (fT (ah g fa fb)):=fun z s k E hz q=>by
 obtain⟨x,y,ex,ey,eg⟩:=yh (ii q)
 exact wpAny_isTrue_Compare1 (two ha hb hz ex ey fun u v s2 g2 d1 d2=>aB (h z s2 _ _ u v _ E g2.1 d1.rv d2.rv eg) fun w s3 q3=>by
  cases (show w=Value.bool k from q3.2)
  exact wpAny_truthy_bool ⟨rfl,g2.trans q3.1⟩) hm
theorem Lg (h:NE X e f)(hv:∀whole,isTrue e X.env whole=(do let v ←whole;standAt e.pos;holding [v] (truthy v))):NB X e (fT f):=fun z s k E hz q=>
 isTrue_plain (aB (h z s _ E hz (ii q)) fun v s1 q1=>by
  cases (show v=Value.bool k from q1.2)
  exact wpAny_truthy_bool ⟨rfl,q1.1⟩) (hv _)
noncomputable def i4 (g:FB):FB:=fun ρ=>(g ρ).map fun b=>!b
noncomputable def jv (g k:FB):FB:=fun ρ=>(g ρ).bind fun b=>if b=true then k ρ else some false
noncomputable def uP (g k:FB):FB:=fun ρ=>(g ρ).bind fun b=>if b=true then some true else k ρ
theorem GP (ha:NB X a ba):NW X (.BoolOp .And [a] pos) ba:=fun z wh s k E hz q=>by
 refine isTrue_and (aB (ha z s k E hz q) fun c s1 e=>?_)
 cases c with
 |true=>exact isTrue_and_nil e
 |false=>exact e
theorem Li (ha:NB X a ba):NW X (.BoolOp .Or [a] pos) ba:=fun z wh s k E hz q=>by
 refine isTrue_or (aB (ha z s k E hz q) fun c s1 e=>?_)
 cases c with
 |false=>exact isTrue_or_nil e
 |true=>exact e
theorem KZ (ha:NB X a ba)(hb:NW X (.BoolOp .And (b::jc) pos) bb):NW X (.BoolOp .And (a::b::jc) pos) (jv ba bb):=fun z wh s k E hz q=>by
 obtain⟨c0,e0,q⟩:=Option.bind_eq_some_iff.mp q
 refine isTrue_and (aB (ha z s c0 E hz e0) fun c s1 ⟨e,g1⟩=>?_)
 subst e
 cases c with
 |true=>exact aB (hb z wh s1 k E g1.1 q) fun d s2 ⟨e2,g2⟩=>⟨e2,g1.trans g2⟩
 |false=>cases q;exact⟨rfl,g1⟩
theorem Md (ha:NB X a ba)(hb:NW X (.BoolOp .Or (b::jc) pos) bb):NW X (.BoolOp .Or (a::b::jc) pos) (uP ba bb):=fun z wh s k E hz q=>by
 obtain⟨c0,e0,q⟩:=Option.bind_eq_some_iff.mp q
 refine isTrue_or (aB (ha z s c0 E hz e0) fun c s1 ⟨e,g1⟩=>?_)
 subst e
 cases c with
 |false=>exact aB (hb z wh s1 k E g1.1 q) fun d s2 ⟨e2,g2⟩=>⟨e2,g1.trans g2⟩
 |true=>cases q;exact⟨rfl,g1⟩
theorem Kb (ha:NB X a ba):NB X (.UnaryOp .Not a pos) (i4 ba):=fun z s k E hz q=>by
 obtain⟨c,e,rfl⟩:=Option.map_eq_some_iff.mp q
 exact isTrue_not (aB (ha z s c E hz e) fun d s1 ⟨e1,g1⟩=>⟨by rw[e1],g1⟩)
noncomputable def rj (f:FE):FE:=fun ρ=>(f ρ).bind fun r=>r.fr.map .fz
theorem AF (h:NE X e f):NE X e (rj f):=fun z s r E hz q=>by
 obtain⟨x,ex,q⟩:=Option.bind_eq_some_iff.mp q
 obtain⟨p,ep,rfl⟩:=Option.map_eq_some_iff.mp q
 exact aB (h z s x E hz ex) fun u s1 q1=>⟨q1.1,q1.2.fr ep⟩
noncomputable def jT (f g:FE):FE:=fun ρ=>(zZ (f ρ)).bind fun b=>if b=true then rj g ρ else some (.fz (.bl false))
noncomputable def KF (f g:FE):FE:=fun ρ=>(zZ (f ρ)).bind fun b=>if b=true then some (.fz (.bl true)) else rj g ρ
noncomputable def xh (f:FE):FE:=fun ρ=>(zZ (f ρ)).map fun b=>.fz (.bl (!b))
theorem KC {op}(h:NE X a fa):NE X (.BoolOp op [a] pos) (rj fa):=fun z s r E hz q=>BoolOp_one (AF h z s r E hz q)
theorem JL (ha:NE X a fa)(hb:NE X (.BoolOp .And (b::jc) pos) fb):NE X (.BoolOp .And (a::b::jc) pos) (jT fa fb):=fun z s r E hz q=>by
 obtain⟨k,ek,q⟩:=Option.bind_eq_some_iff.mp q
 refine BoolOp_and (aB (ha z s _ E hz (ii ek)) fun v s1 q1=>?_)
 cases (show v=Value.bool k from q1.2)
 refine wpAny_truthy_bool ?_
 cases k with
 |true=>exact aB (AF hb z s1 r E q1.1.1 q) fun w s2 q2=>q1.1.post q2
 |false=>cases q;exact⟨q1.1,rfl⟩
theorem MK (ha:NE X a fa)(hb:NE X (.BoolOp .Or (b::jc) pos) fb):NE X (.BoolOp .Or (a::b::jc) pos) (KF fa fb):=fun z s r E hz q=>by
 obtain⟨k,ek,q⟩:=Option.bind_eq_some_iff.mp q
 refine BoolOp_or (aB (ha z s _ E hz (ii ek)) fun v s1 q1=>?_)
 cases (show v=Value.bool k from q1.2)
 refine wpAny_truthy_bool ?_
 cases k with
 |false=>exact aB (AF hb z s1 r E q1.1.1 q) fun w s2 q2=>q1.1.post q2
 |true=>cases q;exact⟨q1.1,rfl⟩
theorem J2 (ha:NE X a fa):NE X (.UnaryOp .Not a pos) (xh fa):=fun z s r E hz q=>by
 obtain⟨k,ek,rfl⟩:=Option.map_eq_some_iff.mp q
 refine UnaryOp_ (aB (ha z s _ E hz (ii ek)) fun v s1 q1=>?_)
 cases (show v=Value.bool k from q1.2)
 exact not_of (wpAny_truthy_bool ⟨q1.1,rfl⟩)
noncomputable def KK (o:Option PV):Option RV:=match o with
 |some (.int i)=>some (.fz (.int (-i)))
 |_=>none
noncomputable def HH (f:FE):FE:=fun ρ=>(f ρ).bind fun r=>KK r.fr
theorem F2 (ha:NE X a fa):NE X (.UnaryOp .USub a pos) (HH fa):=fun z s r E hz q=>by
 obtain⟨x,ex,q⟩:=Option.bind_eq_some_iff.mp q
 unfold KK at q
 split at q
 ·next i h=>
  cases q
  refine UnaryOp_ (aB (ha z s _ E hz ex) fun v s1 q1=>?_)
  obtain⟨t,rfl⟩:=q1.2.fr h
  exact neg_int (q1.1.post ⟨q1.1.1.tok _,_,rfl⟩)
 ·cases q
noncomputable def IW (g:FB)(f k:FE):FE:=fun ρ=>(g ρ).bind fun b=>if b=true then rj f ρ else rj k ρ
theorem LO {t:Expr}(hc:NB X t ba)(ha:NE X a fa)(hb:NE X b fb):NE X (.IfExp t a b pos) (IW ba fa fb):=fun z s r E hz q=>by
 obtain⟨k,ek,q⟩:=Option.bind_eq_some_iff.mp q
 refine wpAny_IfExp (aB (hc z s k E hz ek) fun d s1 ⟨e,g1⟩=>?_)
 subst e
 cases d with
 |true=>exact aB (AF ha z s1 r E g1.1 q) fun w s2 q2=>g1.post q2
 |false=>exact aB (AF hb z s1 r E g1.1 q) fun w s2 q2=>g1.post q2
noncomputable def FG (g g':PV->PV->Option RV)(a b c:FE):FE:=fun ρ=>(a ρ).bind fun x=>(b ρ).bind fun y=>(zZ (g x.pv y.pv)).bind fun k=>if k=true then (c ρ).bind fun z=>g' y.pv z.pv else some (.fz (.bl false))
noncomputable def ag:FA:=fun _=>some []
noncomputable def aa (f:FE)(fs:FA):FA:=fun ρ=>(f ρ).bind fun r=>(fs ρ).bind fun rs=>some (r::rs)
theorem RvsOk.old {z:Z X}{h0 h h':Heap}{rs:List RV}{us:List Value}(d:RvsOk z h0 h rs us)(e:∀a,h0.get? a=none->h'.get? a=none):RvsOk z h' h rs us:=by
 induction d with
 |nil=>exact .nil
 |cons a _ ih=>exact .cons (a.old e) ih
theorem tD:NA X [] ag:=fun z pos s rs E hz q=>by cases q;exact Calls.spliced_nil ⟨hz.refl,.nil⟩
theorem DD (ha:NE X e f)(hr:NA X es fs)(hs:starEach (e::es) X.env=(false,eval e X.env)::starEach es X.env):NA X (e::es) (aa f fs):=fun z pos s rs E hz q=>by
 obtain⟨r,er,q⟩:=Option.bind_eq_some_iff.mp q
 obtain⟨rs',ers,q⟩:=Option.bind_eq_some_iff.mp q
 cases q
 rw[hs]
 show W X (spliced ((false,eval e X.env)::backTo pos (starEach es X.env))) _ _ s
 refine Calls.spliced_cons (aB (ha z s r E hz er) fun u s1 q1=>?_)
 exact aB (hr z pos s1 rs' E q1.1.1 ers) fun us s2 q2=>⟨q1.1.trans q2.1,.cons (q1.2.ext q2.1.2) (q2.2.old fun _=>Ext.back q1.1.2)⟩
theorem RvsOk.fr {z:Z X}{h0 h:Heap}{rs:List RV}{us:List Value}(d:RvsOk z h0 h rs us):∀{ps:List PV},rs.mapM RV.fr=some ps->Ds z.cn h ps us:=by
 induction d with
 |nil=>intro ps e;cases e;rfl
 |cons a _ ih=>
  intro ps e
  rw[List.mapM_cons] at e
  obtain⟨p,e1,e⟩:=Option.bind_eq_some_iff.mp e
  obtain⟨qs,e2,e⟩:=Option.bind_eq_some_iff.mp e
  cases e
  exact .cons (a.fr e1) (ih e2)
inductive Rvs (z:Z X) (h:Heap):List PV->List Value->Prop where
 |nil:Rvs z h [] []
 |cons {p:PV} {u:Value} {ps:List PV} {us:List Value}:Rv z h p u->Rvs z h ps us->Rvs z h (p::ps) (u::us)
theorem RvsOk.rv {z:Z X}{h0 h:Heap}{rs:List RV}{us:List Value}(d:RvsOk z h0 h rs us):Rvs z h (rs.map RV.pv) us:=by
 induction d with
 |nil=>exact .nil
 |cons a _ ih=>exact .cons a.rv ih
noncomputable def cJ (fs:FA):FE:=fun ρ=>(fs ρ).bind fun rs=>(rs.mapM RV.fr).bind fun ps=>if ps.length≤100000 then some (.fz (.tup ps)) else none
noncomputable def iK (fs:FA):FE:=fun ρ=>(fs ρ).bind fun rs=>(rs.mapM RV.fr).bind fun ps=>if ps.length≤100000 then some (.nw ps) else none
theorem KL {k}(h:NA X es fs):NE X (.Tuple es k pos) (cJ fs):=fun z s r E hz q=>by
 obtain⟨rs,e1,q⟩:=Option.bind_eq_some_iff.mp q
 obtain⟨ps,e2,q⟩:=Option.bind_eq_some_iff.mp q
 split at q
 ·next hl=>
  cases q
  refine wpAny_Tuple_spliced (aB (h z pos s rs E hz e1) fun us s1 ⟨g1,d1⟩=>?_)
  have d:=d1.fr e2
  have l:=d.length
  have lb:us.length≤sizeLine:=by rw[l];exact big hl
  exact⟨lb,g1.post (Z.ok.newT g1.1 d lb s1.toks)⟩
 ·cases q
theorem Kq (h:NA X es fs):NE X (.List es pos) (iK fs):=fun z s r E hz q=>by
 obtain⟨rs,e1,q⟩:=Option.bind_eq_some_iff.mp q
 obtain⟨ps,e2,q⟩:=Option.bind_eq_some_iff.mp q
 split at q
 ·next hl=>
  cases q
  refine wpAny_List_spliced (aB (h z pos s rs E hz e1) fun us s1 ⟨g1,d1⟩=>?_)
  have d:=d1.fr e2
  have l:=d.length
  have lb:us.length≤sizeLine:=by rw[l];exact big hl
  exact⟨lb,g1.post (Z.ok.newL0 (n:=0) g1.1 d lb)⟩
 ·cases q
end
end Dp
end
section
namespace L2
open PySem PySem.Spec PyProof.Rows PySem.W
theorem o8 {α:Type}(d:α):∀(xs:List α),(List.range xs.length).map (fun i=>xs.getD i d)=xs:=fun xs=>by
 apply List.ext_getElem
 ·simp
 ·intro i h1 h2
  rw[List.getElem_map,List.getElem_range]
  simp[h2]
end L2
end
section
namespace L2
open PySem PySem.Spec PyProof.Rows
noncomputable def ax (K:PySem.W.Frag)(mg:Str->Option Value)(x:Str)(st:Stmt)(ps:List Str):Prop:=∃f fd,Fun K x x st f fd/\(∀us:List Value,us.length=ps.length->bindArgs fd ⟨us,[]⟩=pure (ps.zip us))/\mg x=some (.ref f)
section
variable {P:Program}{w:World}{K:PySem.W.Frag}{mg:Str->Option Value}{base:Heap}
end
theorem au {K:PySem.W.Frag}{mg:Str->Option Value}{x:Str}{st:Stmt}{f:Addr}{oc:Value}{od an:Option Addr}{osl:Array (Option Value)}{kV doc pm cdv ct:Value}{ps:List Str}(l:K.lookup f=some ⟨oc,od,.func (PySem.W.fnOf x x (ao st) (ak st) (ae st) .none kV doc pm an cdv ct),osl⟩)
  (c:PySem.W.codeIn K cdv x=true) (k:PySem.W.keepIn K (.ref f)=true) (m:mg x=some (.ref f))
  (h:∀(kV doc pm:Value) (an:Option Addr) (cdv ct:Value) (us:List Value),us.length=ps.length->bindArgs (PySem.W.fnOf x x (ao st) (ak st) (ae st) .none kV doc pm an cdv ct) ⟨us,[]⟩=pure (ps.zip us)):ax K mg x st ps:=
 ⟨f,_,Ir l c k,h kV doc pm an cdv ct,m⟩
noncomputable def kn (H:Hp):V->Option (List V)
 |.ref a=>match H a with
  |some (.lst xs)=>some xs
  |_=>none
 |_=>none
theorem Im:bootBuiltins "len" = some (.builtin "len"):=by decide +kernel
theorem GU:bootBuiltins "abs" = some (.builtin "abs"):=by decide +kernel
theorem BV:bootBuiltins "max" = some (.builtin "max"):=by decide +kernel
theorem Dk:bootBuiltins "min" = some (.builtin "min"):=by decide +kernel
theorem Hq:bootBuiltins "all" = some (.builtin "all"):=by decide +kernel
theorem HP:bootBuiltins "any" = some (.builtin "any"):=by decide +kernel
theorem qB:bootBuiltins "isinstance" = some (.builtin "isinstance"):=by decide +kernel
theorem qO:bootBuiltins "sorted" = some (.builtin "sorted"):=by decide +kernel
theorem It:bootBuiltins "sum" = some (.builtin "sum"):=by decide +kernel
theorem Bf:bootBuiltins "int" = some (.type "int"):=by decide +kernel
theorem Eg:bootBuiltins "bool" = some (.type "bool"):=by decide +kernel
theorem Ck:bootBuiltins "str" = some (.type "str"):=by decide +kernel
theorem yq:bootBuiltins "list" = some (.type "list"):=by decide +kernel
theorem p5:bootBuiltins "tuple" = some (.type "tuple"):=by decide +kernel
theorem DK:bootBuiltins "dict" = some (.type "dict"):=by decide +kernel
theorem C3:bootBuiltins "range" = some (.type "range"):=by decide +kernel
end L2
end
section
namespace L2
open PySem PySem.Spec PyProof.Rows
section
variable {X:Cx}{K:PySem.W.Frag}(h:X.K=K)
include h
end
noncomputable def NS (e:Expr):Prop:=∀(es:List Expr) (env:Env),starEach (e::es) env=(false,eval e env)::starEach es env
end L2
end
section
namespace L2
open PySem PySem.Spec PyProof.Rows
end L2
end
section
namespace L2
open PySem PySem.Spec PyProof.Rows
theorem tI:bootBuiltins "enumerate" = some (.type "enumerate"):=by decide +kernel
end L2
end
section
namespace L2
open PySem PySem.Spec PyProof.Rows PySem.SeqAt
end L2
end
section
namespace L2
open PySem PySem.Spec PyProof.Rows PySem.W
noncomputable def dE {α:Type}(c:Nat->Nat->Bool):KasT α->α
 |.ret a=>a
 |.ask i j k=>dE c (k (c i j))
theorem AL {α:Type}{n:Nat}{P:α->Prop}{cmp:Nat->Nat->(Bool->Shared->Prop)->Shared->Prop}{Q:α->Shared->Prop}{s:Shared}(lt:Nat->Nat->Bool)(hc:∀i j C,i<n->j<n->C (lt i j) s->cmp i j C s) :
  ∀{t:KasT α},Leaf n P t->(P (dE lt t)->Q (dE lt t) s)->t.kasWp cmp Q s
 |.ret a,h,hq=>hq h
 |.ask i j k,h,hq=>hc i j _ h.1 h.2.1 (AL lt hc (h.2.2 (lt i j)) hq)
theorem uU {α:Type}{n:Nat}{P:α->Prop}(lt:Nat->Nat->Bool):∀{t:KasT α},Leaf n P t->P (dE lt t)
 |.ret a,h=>h
 |.ask i j k,h=>uU (t:=k (lt i j)) lt (h.2.2 (lt i j))
noncomputable def zd (fin:Bool):List (Int×Int)->Bool
 |[]=>fin
 |(x,y)::r=>if x=y then zd fin r else decide (x<y)
noncomputable def qe (xs ys:List Int):Bool:=zd (decide (xs.length<ys.length)) (xs.zip ys)
noncomputable def lW (ks:List (List Int)):List Nat:=if ks.length<2 then List.range ks.length else (dE (fun i j=>qe (ks.getD i []) (ks.getD j [])) (kas_sort ks.length)).toList
theorem mR (ks:List (List Int)):(lW ks).Perm (List.range ks.length):=by
 unfold lW
 split
 ·exact .refl _
 ·exact uU _ (qR (by omega))
section
variable {X:Cx}{pins:List (Addr×Obj)}{σ:St}{H:Hp}{s:Shared}
theorem Dr {prog:Program}{w:World}{A:Around}{fin:Bool}{C:Bool->Shared->Prop}{s':Shared}:∀{xs ys:List Int} {us vs:List Value} {k:Nat},Vals (xs.map V.int) us->Vals (ys.map V.int) vs->C (zd fin (xs.zip ys)) s'->KatLex prog w A true fin C (us.zip vs) k s'
 |[],ys,us,vs,k,r1,r2,h=>by cases r1;exact kat_nil h
 |x::xs,[],us,vs,k,r1,r2,h=>by cases r2;cases us<;>exact kat_nil h
 |x::xs,y::ys,us,vs,k,r1,r2,h=>by
  cases r1 with
  |cons a1 r1=>
   cases r2 with
   |cons a2 r2=>
    obtain⟨t,rfl⟩:=a1
    obtain⟨u,rfl⟩:=a2
    rw[List.zip_cons_cons] at h ⊢
    rw[zd] at h
    refine kat_cons (wpAny_eqBool_int ?_)
    by_cases e:x=y
    ·rw[if_pos e] at h
     rw[show (x==y)=true by rw[e];exact beq_self_eq_true _]
     exact kat_yes (Dr r1 r2 h)
    ·rw[if_neg e] at h
     rw[show (x==y)=false from beq_eq_false_iff_ne.mpr e]
     refine kat_no ?_
     by_cases hk:k=0
     ·subst hk;exact oneLt_int h
     ·rw[show (true&&k==0)=false by simp[hk]]
      exact kat_one _ _ (lt_int h)
end
end L2
end
section
namespace L2
open PySem PySem.Spec PyProof.Rows
noncomputable def IS (b:Bool):Nat:=if b then 1 else 0
theorem vJ:typeLookup (.type "bool") "__index__" = pure (some (.builtin "int.__index__")):=by
 rw[typeLookup_type,builtinLookup_eq_fast]
 kernel_rfl
section
variable {P:Program}{w:World}{A:Around}{E:Value->Shared->Prop}{s:Shared}{b:Bool}
theorem CJ {Q:Option Int->Shared->Prop}(h:Q (some (IS b:Int)) s):wpAny (model P w) A (Builtin.List.listSubscript? (.bool b)) Q E s:=by
 have e:=PySem.typeIs_bool s b
 unfold Builtin.List.listSubscript?
 refine wpAny_bind (wpAny_specialOf (T:="bool") e vJ ?_)
 refine (?_:wpAny _ _ (asIndex (.bool b) >>= _) _ _ _)
 refine wpAny_bind (wpAny_of_eq (a:=(IS b:Int)) (by cases b<;>rfl) ?_)
 cases b<;>exact wpAny_pure h
theorem zA {l:Addr}{xs:Array Value}{x:Value}{Q:Value->Shared->Prop}(hl:s.heap.IsList l xs)(hx:xs[IS b]?=some x)(h:Q x s):wpAny (model P w) A (getItem (.ref l) (.bool b)) Q E s:=by
 have ty:=hl.typeIs
 obtain⟨o,ho,hc,ne,hd⟩:=hl
 unfold getItem
 try with_reducible refine wpAny_holding ?_
 first|refine wpAny_bind (wpAny_pure ?_)|skip
 refine wpAny_bind (wpAny_sequenceKey ty (by decide) ?_)
 have ar:=args_list_getitem (.ref l) (.bool b)
 refine wpAny_bind (wpAny_callSpecial?_slot (name:=Str.ofString "__getitem__") ty slot_list_getitem (wpAny_call_entry slot_list_getitem ty entry_list_getitem ?_ ar))
 refine (?_:wpAny _ _ (Builtin.List.listSubscript? (.bool b) >>= _) _ _ s)
 refine wpAny_bind (CJ ?_)
 refine (?_:wpAny _ _ ((seqItemAt l (IS b) >>= fun r=>pure (r.map (IS b,·))) >>= _) _ _ s)
 refine wpAny_bind (wpAny_bind (wpAny_seqItemAt ho hd (wpAny_pure ?_)))
 rw[hx]
 first
  |exact wpAny_pure ⟨x,rfl,wpAny_pure h⟩
  |exact wpAny_bind (wpAny_pure (wpAny_pure ⟨x,rfl,wpAny_pure h⟩))
end
end L2
end
section
namespace L2
open PySem PySem.Spec PyProof.Rows
theorem qw (its:List Value):slicePick its.toArray none none (some (-1))=its.reverse.toArray:=by
 have e:sliceBounds none none (some (-1)) its.toArray.size=((its.length:Int) - 1,-1,-1):=by simp[sliceBounds]
 have r:sliceRange ((its.length:Int) - 1) (-1) (-1)=(List.range its.length).map fun (k:Nat)=>(((its.length:Nat):Int) - 1+(-1) * (k:Int)).toNat:=by
  unfold sliceRange
  have c:(if (-1:Int) > 0 then (if (its.length:Int) - 1 < -1 then (-1 - ((its.length:Int) - 1) + -1 - 1) / -1 else 0) else (if (its.length:Int) - 1 > -1 then ((its.length:Int) - 1 - -1 - -1 - 1) / (- -1) else 0)).toNat=its.length:=by
   rw[if_neg (by decide)]
   by_cases h:(its.length:Int) - 1 > -1
   ·rw[if_pos h,show (- -1:Int)=1 by decide,Int.ediv_one];omega
   ·rw[if_neg h];omega
  simp only[c]
 unfold slicePick
 rw[e]
 show (List.filterMap _ (sliceRange ((its.length:Int) - 1) (-1) (-1))).toArray=_
 rw[r,List.filterMap_map,←HT.pick_rev]
 congr 2
 funext k
 show its.toArray[(((its.length:Nat):Int) - 1+(-1) * (k:Int)).toNat]?=_
 rw[Int.mul_comm]
end L2
end
section
namespace L2
open PySem PyProof.Rows PySem.W
theorem jq {α β:Type}{c:Nat->Nat->Bool}{f:α->KasT β}:∀{t:KasT α},dE c (t.bind f)=dE c (f (dE c t))
 |.ret a=>rfl
 |.ask i j k=>jq (t:=k (c i j))
structure LtOk (n:Nat)(lt:Nat->Nat->Bool):Prop where
 tot:∀i j,i<n->j<n->i≠j->lt i j=false->lt j i=true
 tr:∀i j k,i<n->j<n->k<n->lt i j=true->lt j k=true->lt i k=true
noncomputable abbrev gp (p:Array Nat)(k:Nat):Nat:=p.getD k 0
noncomputable def Up (lt:Nat->Nat->Bool)(p:Array Nat)(m:Nat):Prop:=∀i j,i<j->j<m->lt (gp p i) (gp p j)=true
noncomputable def Dn (lt:Nat->Nat->Bool)(p:Array Nat)(m:Nat):Prop:=∀i j,i<j->j<m->lt (gp p j) (gp p i)=true
section
variable {n:Nat}{lt:Nat->Nat->Bool}{p:Array Nat}
theorem lL (p:Array Nat)(k:Nat):gp p k=(p[k]?).getD 0:=by
 unfold gp;rw[Array.getD_eq_getD_getElem?]
theorem OfN.size (h:OfN n p):p.size=n:=by have:=h.length_eq;simpa using this
theorem OfN.lt' (h:OfN n p){k:Nat}(hk:k<n):gp p k<n:=h.lt (by omega) k
theorem OfN.inj (h:OfN n p){i j:Nat}(hi:i<n)(hj:j<n)(e:gp p i=gp p j):i=j:=by
 have nd:p.toList.Nodup:=h.nodup_iff.mpr List.nodup_range
 have hs:=h.size
 have a:∀{k:Nat} (hk:k<n),gp p k=p.toList[k]'(by rw[Array.length_toList];omega):=fun {k} hk=>by
  rw[lL,Array.getElem?_eq_getElem (by omega)];simp
 rw[a hi,a hj] at e
 exact (List.getElem_inj nd).mp e
theorem Up.snoc (L:LtOk n lt)(hp:OfN n p){k:Nat}(h1:1≤k)(hk:k<n)(u:Up lt p k)(h:lt (gp p (k - 1)) (gp p k)=true):Up lt p (k+1):=fun i j hij hj=>by
 by_cases e:j=k
 ·subst e
  by_cases e2:i=j - 1
  ·subst e2;exact h
  ·exact L.tr _ _ _ (hp.lt' (by omega)) (hp.lt' (by omega)) (hp.lt' (by omega)) (u i (j - 1) (by omega) (by omega)) h
 ·exact u i j hij (by omega)
theorem Dn.snoc (L:LtOk n lt)(hp:OfN n p){k:Nat}(h1:1≤k)(hk:k<n)(u:Dn lt p k)(h:lt (gp p k) (gp p (k - 1))=true):Dn lt p (k+1):=fun i j hij hj=>by
 by_cases e:j=k
 ·subst e
  by_cases e2:i=j - 1
  ·subst e2;exact h
  ·exact L.tr _ _ _ (hp.lt' (by omega)) (hp.lt' (by omega)) (hp.lt' (by omega)) h (u i (j - 1) (by omega) (by omega))
 ·exact u i j hij (by omega)
theorem sH (L:LtOk n lt)(hp:OfN n p):∀f k,1≤k->k+f≤n->Up lt p k->k≤dE lt (kas_asc p f k)/\dE lt (kas_asc p f k)≤k+f/\Up lt p (dE lt (kas_asc p f k))/\(dE lt (kas_asc p f k)<k+f->lt (gp p (dE lt (kas_asc p f k))) (gp p (dE lt (kas_asc p f k) - 1))=true)
 |0,k,_,_,u=>⟨Nat.le_refl _,Nat.le_refl _,u,fun h=>absurd h (Nat.lt_irrefl _)⟩
 |f+1,k,h1,hn,u=>by
  rw[show dE lt (kas_asc p (f+1) k)=dE lt (if lt (gp p k) (gp p (k - 1))=true then .ret k else kas_asc p f (k+1)) from rfl]
  cases c:lt (gp p k) (gp p (k - 1)) with
  |true=>exact⟨Nat.le_refl _,Nat.le_add_right _ _,u,fun _=>c⟩
  |false=>
   have:=L.tot _ _ (hp.lt' (k:=k) (by omega)) (hp.lt' (k:=k - 1) (by omega)) (fun e=>by have:=hp.inj (by omega) (by omega) e;omega) c
   obtain⟨a,b,d,e⟩:=sH L hp f (k+1) (by omega) (by omega) (u.snoc L hp h1 (by omega) this)
   rw[if_neg Bool.false_ne_true]
   exact⟨by omega,by omega,d,fun h=>e (by omega)⟩
theorem ul (L:LtOk n lt)(hp:OfN n p):∀f k,1≤k->k+f≤n->Dn lt p k->∃m,dE lt (kas_desc f p k 0)=(p,m,0)/\k≤m/\m≤k+f/\Dn lt p m
 |0,k,_,_,u=>⟨k,rfl,Nat.le_refl _,Nat.le_refl _,u⟩
 |f+1,k,h1,hn,u=>by
  rw[show dE lt (kas_desc (f+1) p k 0)=dE lt (if lt (gp p k) (gp p (k - 1))=true then kas_desc f p (k+1) 0 else .ask (gp p (k - 1)) (gp p k) fun d=>if d=true then .ret (p,k,0) else kas_desc f p (k+1) 1) from rfl]
  cases c:lt (gp p k) (gp p (k - 1)) with
  |true=>
   obtain⟨m,a,b,d,e⟩:=ul L hp f (k+1) (by omega) (by omega) (u.snoc L hp h1 (by omega) c)
   exact⟨m,a,by omega,by omega,e⟩
  |false=>
   have:=L.tot _ _ (hp.lt' (k:=k) (by omega)) (hp.lt' (k:=k - 1) (by omega)) (fun e=>by have:=hp.inj (by omega) (by omega) e;omega) c
   refine⟨k,?_,Nat.le_refl _,by omega,u⟩
   rw[if_neg Bool.false_ne_true]
   show dE lt (if lt (gp p (k - 1)) (gp p k)=true then _ else _)=_
   rw[this];rfl
theorem AN {m k:Nat}(hm:m≤p.size):gp (kas_rev p 0 m) k=if k<m then gp p (m - 1 - k) else gp p k:=by
 rw[lL,lL,lL]
 unfold kas_rev
 rw[getElem?_mirror_all hm]
 by_cases h:k<m
 ·rw[if_pos ⟨Nat.zero_le _,h⟩,if_pos h,Nat.zero_add]
 ·rw[if_neg fun z=>h z.2,if_neg h]
structure Run (n:Nat)(lt:Nat->Nat->Bool)(r:Nat×Array Nat):Prop where
 pos:1≤r.1
 le:r.1≤n
 of:OfN n r.2
 up:Up lt r.2 r.1
theorem AZ (L:LtOk n lt)(hp:OfN n p){m:Nat}(h1:1≤m)(hm:m≤n)(u:Dn lt p m):Run n lt (dE lt (kas_tail3 m n p)):=by
 have hr:=OfN.rev hp 0 m
 have hs:=hp.size
 obtain⟨a,b,c,_⟩:=sH L hr (n - m) m h1 (by omega) (fun i j hij hj=>by
  rw[AN (by omega),AN (by omega),if_pos (by omega),if_pos hj]
  exact u _ _ (by omega) (by omega))
 unfold kas_tail3
 rw[jq]
 exact⟨Nat.le_trans h1 a,by show dE lt (kas_asc (kas_rev p 0 m) (n - m) m)≤n;omega,hr,c⟩
theorem zG (L:LtOk n lt)(hp:OfN n p)(hn:1≤n):Run n lt (dE lt (kas_count n p)):=by
 unfold kas_count
 rw[jq]
 obtain⟨a,b,c,d⟩:=sH L hp (n - 1) 1 (Nat.le_refl _) (by omega) (fun i j hij hj=>by omega)
 generalize dE lt (kas_asc p (n - 1) 1)=m at *
 split
 ·exact⟨a,by show m≤n;omega,hp,c⟩
 ·next ne=>
  have ne:m≠n:=fun e=>ne (by subst e;exact beq_self_eq_true _)
  split
  ·next h=>
   rw[show dE lt (KasT.ask (p.getD 0 0) (p.getD (m - 1) 0) fun c=>if c=true then KasT.ret (m,p) else kas_descPart m n (kas_rev p 0 m))=dE lt (if lt (gp p 0) (gp p (m - 1))=true then KasT.ret (m,p) else kas_descPart m n (kas_rev p 0 m)) from rfl,if_pos (c 0 (m - 1) (by omega) (by omega))]
   exact⟨a,by show m≤n;omega,hp,c⟩
  ·have e:m=1:=by omega
   subst e
   have d:=d (by omega)
   unfold kas_descPart
   rw[jq]
   obtain⟨m,e1,e2,e3,e4⟩:=ul L hp (n - (1+1)) (1+1) (by omega) (by omega) (fun i j hij hj=>by
    obtain⟨rfl,rfl⟩:i=0/\j=1:=by omega
    exact d)
   rw[e1,if_neg (Nat.lt_irrefl 0)]
   have ne2:2≤n:=by omega
   exact AZ (m:=m) L hp (by omega) (by omega) e4
theorem mX (L:LtOk n lt)(hp:OfN n p){k:Nat}(hk:k<n)(u:Up lt p k):∀f l r,r - l≤f->l≤r->r≤k->(∀i,i<l->lt (gp p i) (gp p k)=true)->(∀i,r≤i->i<k->lt (gp p k) (gp p i)=true) →
  ∃m,dE lt (kas_place p k f l r)=m/\m≤k/\(∀i,i<m->lt (gp p i) (gp p k)=true)/\∀i,m≤i->i<k->lt (gp p k) (gp p i)=true
 |0,l,r,hf,hl,hr,a,b=>⟨l,rfl,by omega,a,fun i hi hik=>b i (by omega) hik⟩
 |f+1,l,r,hf,hl,hr,a,b=>by
  rw[show dE lt (kas_place p k (f+1) l r)=dE lt (if l ≥ r then .ret l else .ask (gp p k) (gp p ((l+r) / 2)) fun c=>if c=true then kas_place p k f l ((l+r) / 2) else kas_place p k f ((l+r) / 2+1) r) from rfl]
  by_cases h:l ≥ r
  ·rw[if_pos h];exact⟨l,rfl,by omega,a,fun i hi hik=>b i (by omega) hik⟩
  ·rw[if_neg h]
   show ∃m,dE lt (if lt (gp p k) (gp p ((l+r) / 2))=true then _ else _)=m/\_
   cases c:lt (gp p k) (gp p ((l+r) / 2)) with
   |true=>
    rw[if_pos rfl]
    refine mX L hp hk u f l ((l+r) / 2) (by omega) (by omega) (by omega) a fun i hi hik=>?_
    by_cases e:i=(l+r) / 2
    ·subst e;exact c
    ·exact L.tr _ _ _ (hp.lt' hk) (hp.lt' (by omega)) (hp.lt' (by omega)) c (u _ i (by omega) hik)
   |false=>
    rw[if_neg Bool.false_ne_true]
    have:=L.tot _ _ (hp.lt' hk) (hp.lt' (k:=(l+r) / 2) (by omega)) (fun e=>by have:=hp.inj hk (by omega) e;omega) c
    refine mX L hp hk u f ((l+r) / 2+1) r (by omega) (by omega) (by omega) (fun i hi=>?_) b
    by_cases e:i=(l+r) / 2
    ·subst e;exact this
    ·exact L.tr _ _ _ (hp.lt' (by omega)) (hp.lt' (by omega)) (hp.lt' hk) (u i _ (by omega) (by omega)) this
theorem xW (L:LtOk n lt):∀f (p:Array Nat) k,OfN n p->1≤k->k+f=n->Up lt p k->OfN n (dE lt (kas_bin f p k))/\Up lt (dE lt (kas_bin f p k)) n
 |0,p,k,hp,_,hk,u=>⟨hp,by obtain rfl:k=n:=(by omega);exact u⟩
 |f+1,p,k,hp,h1,hk,u=>by
  rw[show dE lt (kas_bin (f+1) p k)=dE lt ((kas_place p k k 0 k).bind fun l=>kas_bin f (bubble p k (k - l)) (k+1)) from rfl,jq]
  obtain⟨m,e,hm,a,b⟩:=mX L hp (by omega) u k 0 k (by omega) (by omega) (Nat.le_refl _) (fun i hi=>by omega) (fun i hi hik=>by omega)
  rw[e]
  have hs:=hp.size
  have g:∀i,gp (bubble p k (k - m)) i=if i=m then gp p k else if m<i/\i≤k then gp p (i - 1) else gp p i:=fun i=>by
   rw[lL,getElem?_bubble (by omega) (k - m) (by omega),show k - (k - m)=m by omega]
   split
   ·rw[lL]
   ·split<;>rw[lL]
  refine xW L f _ (k+1) (hp.bub _ _) (by omega) (by omega) fun i j hij hj=>?_
  rw[g,g]
  by_cases e1:i=m
  ·rw[if_pos e1,if_neg (by omega),if_pos (by omega)];exact b _ (by omega) (by omega)
  ·rw[if_neg e1]
   by_cases e2:j=m
   ·rw[if_pos e2,if_neg (by omega)];exact a i (by omega)
   ·rw[if_neg e2]
    by_cases e3:i<m
    ·rw[if_neg (by omega)]
     by_cases e4:m<j/\j≤k
     ·rw[if_pos e4];exact u i (j - 1) (by omega) (by omega)
     ·rw[if_neg e4];exact u i j hij (by omega)
    ·rw[if_pos (by omega),if_pos (by omega)];exact u _ _ (by omega) (by omega)
theorem BF (L:LtOk n lt)(hn:1≤n):OfN n (dE lt (kas_sort n))/\Up lt (dE lt (kas_sort n)) n:=by
 unfold kas_sort
 rw[jq]
 have R:=zG L (show OfN n (List.toArray (List.range n)) from .refl _) hn
 generalize dE lt (kas_count n (List.range n).toArray)=r at *
 have h1:=R.pos
 have h2:=R.le
 split
 ·next h=>
  rw[show max r.1 1=r.1 by omega]
  exact xW L (n - r.1) r.2 r.1 R.of h1 (by omega) R.up
 ·next h=>
  have:r.1=n:=by omega
  exact⟨R.of,this▸R.up⟩
end
theorem ti (y:Int)(ys:List Int):qe [] (y::ys)=true:=by unfold qe;rw[List.zip_nil_left];exact decide_eq_true (by simp)
theorem pk (xs:List Int):qe xs []=false:=by unfold qe;rw[List.zip_nil_right];exact decide_eq_false (by simp)
theorem jA (x y:Int)(xs ys:List Int):qe (x::xs) (y::ys)=if x=y then qe xs ys else decide (x<y):=by
 unfold qe
 rw[List.zip_cons_cons,zd]
 simp only[List.length_cons,Nat.add_lt_add_iff_right]
theorem xH:∀xs ys:List Int,xs≠ys->qe xs ys=false->qe ys xs=true
 |[],[],h,_=>absurd rfl h
 |[],y::ys,_,h=>by rw[ti] at h;cases h
 |x::xs,[],_,_=>ti x xs
 |x::xs,y::ys,h,e=>by
  rw[jA] at e ⊢
  by_cases q:x=y
  ·subst q
   rw[if_pos rfl] at e ⊢
   exact xH xs ys (fun z=>h (by rw[z])) e
  ·rw[if_neg q] at e
   rw[if_neg fun z=>q z.symm]
   have:=of_decide_eq_false e
   exact decide_eq_true (by omega)
theorem vC:∀xs ys zs:List Int,qe xs ys=true->qe ys zs=true->qe xs zs=true
 |_,_,[],_,h=>by rw[pk] at h;cases h
 |_,[],_::_,h,_=>by rw[pk] at h;cases h
 |[],_,z::zs,_,_=>ti z zs
 |x::xs,y::ys,z::zs,h,h'=>by
  rw[jA] at h h' ⊢
  by_cases q:x=y
  ·subst q
   rw[if_pos rfl] at h
   by_cases r:x=z
   ·rw[if_pos r] at h' ⊢;exact vC xs ys zs h h'
   ·rw[if_neg r] at h' ⊢;exact h'
  ·rw[if_neg q] at h
   have h:=of_decide_eq_true h
   by_cases r:y=z
   ·subst r;rw[if_neg q];exact decide_eq_true h
   ·rw[if_neg r] at h'
    have h':=of_decide_eq_true h'
    rw[if_neg (by omega)]
    exact decide_eq_true (by omega)
theorem oq:∀xs:List Int,qe xs xs=false
 |[]=>pk []
 |x::xs=>by rw[jA,if_pos rfl];exact oq xs
theorem wT {ks:List (List Int)}(nd:ks.Nodup):((lW ks).map fun i=>ks.getD i []).Perm ks/\((lW ks).map fun i=>ks.getD i []).Pairwise fun a b=>qe a b=true:=by
 have at':∀{i:Nat} (hi:i<ks.length),ks.getD i []=ks[i]:=fun {i} hi=>by simp[hi]
 constructor
 ·refine ((mR ks).map _).trans (List.Perm.of_eq ?_)
  refine List.ext_getElem (by simp) fun i h1 h2=>?_
  simp[h2]
 ·unfold lW
  split
  ·next h=>
   match ks,h with
   |[],_=>exact .nil
   |[a],_=>exact List.pairwise_singleton ..
  ·next h=>
   have L:LtOk ks.length fun i j=>qe (ks.getD i []) (ks.getD j []):=⟨fun i j hi hj ne e=>xH _ _ (fun z=>by
    rw[at' hi,at' hj] at z;exact ne ((List.getElem_inj nd).mp z)) e,fun i j k _ _ _ a b=>vC _ _ _ a b⟩
   obtain⟨hp,u⟩:=BF L (by omega)
   generalize dE _ (kas_sort ks.length)=p at *
   rw[List.pairwise_map,List.pairwise_iff_getElem]
   intro i j hi hj hij
   have hs:=hp.size
   have:=u i j hij (by simpa [hs] using hj)
   rw[lL,lL,Array.getElem?_eq_getElem (by simpa using hi),Array.getElem?_eq_getElem (by simpa using hj)] at this
   simpa using this
theorem yB {α:Type}{lt:α->α->Prop}(irr:∀a,¬lt a a)(tr:∀a b c,lt a b->lt b c->lt a c):∀{l l':List α},l.Pairwise lt->l'.Pairwise lt->(∀a,a∈l↔a∈l')->l=l'
 |[],[],_,_,_=>rfl
 |[],b::l',_,_,h=>absurd ((h b).mpr List.mem_cons_self) List.not_mem_nil
 |a::l,[],_,_,h=>absurd ((h a).mp List.mem_cons_self) List.not_mem_nil
 |a::l,b::l',p,p',h=>by
  have q:=List.pairwise_cons.mp p
  have q':=List.pairwise_cons.mp p'
  have e:a=b:=by
   rcases List.mem_cons.mp ((h a).mp List.mem_cons_self) with e|m
   ·exact e
   ·rcases List.mem_cons.mp ((h b).mpr List.mem_cons_self) with e|m'
    ·exact e.symm
    ·exact absurd (tr _ _ _ (q.1 b m') (q'.1 a m)) (irr a)
  subst e
  refine congrArg (a::·) (yB irr tr q.2 q'.2 fun c=>⟨fun hc=>?_,fun hc=>?_⟩)
  ·rcases List.mem_cons.mp ((h c).mp (List.mem_cons_of_mem _ hc)) with e|m
   ·subst e;exact absurd (q.1 c hc) (irr c)
   ·exact m
  ·rcases List.mem_cons.mp ((h c).mpr (List.mem_cons_of_mem _ hc)) with e|m
   ·subst e;exact absurd (q'.1 c hc) (irr c)
   ·exact m
end L2
end
section
namespace L2
open PySem PySem.Spec PyProof.Rows PySem.W
noncomputable def oH (is:List Int):List Int:=is.mergeSort fun a b=>decide (a≤b)
theorem mT (is:List Int):(oH is).Perm is:=List.mergeSort_perm ..
theorem Ew (is:List Int):(oH is).Pairwise (·≤·):=by
 have:=List.pairwise_mergeSort (le:=fun a b:Int=>decide (a≤b)) (fun a b c h1 h2=>by simp only[decide_eq_true_eq] at *;omega) (fun a b=>by simp only[Bool.or_eq_true,decide_eq_true_eq];omega) is
 exact this.imp fun h=>by simpa using h
theorem sW {is js:List Int}(p:js.Perm is)(u:js.Pairwise (·≤·)):js=oH is:=
 List.Perm.eq_of_pairwise (fun a b _ _ h1 h2=>Int.le_antisymm h1 h2) u (Ew is) (p.trans (mT is).symm)
theorem mo {is:List Int}{vs:List Value}(h:IntsAre vs is):Vals (is.map V.int) vs:=by
 induction h with
 |nil=>exact .nil
 |cons n t _ ih=>exact .cons ⟨t,rfl⟩ ih
theorem wI {prog:Program}{w:World}{A:Around}{E:Value->Shared->Prop}{s:Shared}{p:Addr}{T:String}{o:Obj}{vs:List Value}{n:Nat}{is:List Int}{Q:Value->Shared->Prop}(hT:T = "list"\/T = "tuple")
  (ho:s.heap.get? p=some o) (hc:o.cls=.type T) (hd:o.data=.seq vs.toArray n) (hi:IntsAre vs is) (h64:vs.length<64)
  (h:∀(h1 h':Heap) (D:Addr) (out:List Value) (js:List Int) (e:Nat),(∀b u,s.heap.get? b=some u->h1.get? b=some u)->(∀b u,h1.get? b=some u->h'.get? b=some u)->h1.objs.size≤D->h'.get? D=some (seqObj "list" out.toArray e)->IntsAre out js->js.Perm is->js.Pairwise (·≤·)->Q (.ref D) { s with heap:=h' }) :
  wpAny (model prog w) A (call (.builtin "sorted") [.ref p]) Q E s:=by
 refine Calls.call_function_entry kind_sorted plain_sorted entry_sorted (args_sorted1 _) ?_
 unfold Builtin.«sorted»
 refine wpAny_bind (m:=checkCount "sorted" 1 1 _) (wpAny_pure (wpAny_bind (wpAny_collect_seq p hT ho hc hd (fun h' keep=>wpAny_bind (wpAny_newList ?_ (by show vs.length≤_;rw[sizeLine_eq];omega))) (by rw[List.size_toArray,sizeLine_eq];omega))))
 have hoL:(h'.push (seqObj "list" vs.toArray 0)).get? h'.objs.size=some (seqObj "list" vs.toArray 0):=Heap.get?_push_size _ rfl
 show wpAny _ _ _ _ _ { s with heap:=h'.push (seqObj "list" vs.toArray 0) }
 refine wpAny_bind (wpAny_holding (wpAny_call_entry slot_list_sort ⟨_,hoL,rfl⟩ entry_list_sort (list_sort_tree hoL hi h64 fun out ns h1 h2 h3=>⟨_,rfl,?_⟩) (args_list_sort _)))
 obtain⟨e,he⟩:=sortedHeap_at (vs:=vs) (out:=out) hoL
 exact wpAny_pure ⟨_,rfl,h h' _ _ out.toList ns e keep (fun b u z1=>by
  have z2:=Heap.get?_push_of_some (seqObj "list" vs.toArray 0) z1
  rw[sortedHeap_old (Nat.ne_of_lt (Heap.lt_size z1)) (Heap.lt_size z2)];exact z2) (Nat.le_refl _) (by rw[he]) h1 h2 h3⟩
end L2
end
section
namespace L2
open PySem PySem.Spec PyProof.Rows PySem.W
section
variable {prog:Program}{w:World}{A:Around}{E:Value->Shared->Prop}{s:Shared}
noncomputable abbrev BR (a c:Int):Nat->Value->Prop:=fun i v=>∃t,v=.int (a+i * c) t
theorem t9 {Q:List Value->Shared->Prop}{r:Addr}{a b c:Int}{t u v:Tok}{n:Nat}(hh:A.handled=none)(hr:IsRange s.heap r a b c t u v)(h1:Builtin.Range.small a b c=true)(h2:Builtin.Range.rangeSize a b c=n)(h3:n≤2 ^ 24)
  (hQ:∀h' tk acc,(∀x o,s.heap.get? x=some o->h'.get? x=some o)->ItemsOf (BR a c) acc n->Q acc.toList { s with heap:=h',toks:=tk }):wpAny (model prog w) A (collect (.ref r)) Q E s:=by
 unfold collect;refine wpAny_bind (wpAny_runValue (codeAny_builtin F.entry_proto_collect ?_));rw[Around.under_plainId F.plain_proto_collect _]
 show wpAny _ A.in1 (newList [] >>= fun z=>again (.builtin "list.__iadd__" ⟨[z,.ref r],[]⟩)) _ _ s
 refine wpAny_bind (wpAny_newObj_type (wpAny_pure ⟨plainId_quiet F.plain_list_iadd _,codeAny_builtin F.entry_list_iadd ?_⟩))
 rw[Around.under_plainId F.plain_list_iadd _];show wpAny _ A.in1 (Builtin.List.listExtendWith (.ref s.heap.objs.size) (.ref r) (.ref s.heap.objs.size)) _ _ _
 have hS0:(s.heap.push { cls:=.type "list",data:=.seq ([]:List Value).toArray }).get? s.heap.objs.size=some { cls:=.type "list",data:=.seq #[] }:=Heap.get?_push_size _ rfl
 have hr0:=Heap.get?_push_of_some { cls:=.type "list",data:=.seq ([]:List Value).toArray } hr
 refine wpAny_extend_range (R:=fun z s'=>match z with
  |.ok (.ret v)=>wpAny (model prog w) A (match v with
   |.ref a=>do
    let o ←load a
    match o.data with
     |.seq xs _=>pure xs.toList
     |_=>unsupported "internal:collect"
   |_=>unsupported "internal:collect") Q E s'
  |.ok _=>False
  |.error e=>E e s') (s:={ s with heap:=s.heap.push { cls:=.type "list",data:=.seq ([]:List Value).toArray } }) hh hr0 h1 h2 h3 s.heap.objs.size _ 0 hS0 fun h' tk acc c' hk hS hacc=>?_
 show wpAny _ A (load s.heap.objs.size >>= fun _=>_) _ _ _
 refine wpAny_bind (wpAny_load hS (wpAny_pure (hQ h' tk acc (fun x o e=>?_) hacc)))
 exact hk x o (Nat.ne_of_lt (Heap.lt_size e)) (Heap.get?_push_of_some _ e)
end
theorem qi (r:Addr){a b c:Int}{t u v:Tok}{n:Nat}(h1:Builtin.Range.small a b c=true)(h2:Builtin.Range.rangeSize a b c=n)(h3:n≤2 ^ 24) :
  Meets (Builtin.«tuple.__new__» ⟨[.type "tuple",.ref r],[]⟩) (fun A R s=>(A.handled=none/\IsRange s.heap r a b c t u v)/\∀(h':Heap) (tk:Nat) (acc:Array Value),(∀x o,s.heap.get? x=some o->h'.get? x=some o)->ItemsOf (BR a c) acc n →
   R (.ok (.ret (.ref h'.objs.size))) { s with heap:=h'.push { cls:=.type "tuple",data:=.seq acc },toks:=tk }):=
 .of_wp fun prog w A R s h=>by
  obtain⟨⟨hh,hr⟩,h⟩:=h
  have hsub:=sub_tuple_self
  have hinit:=init_tuple_lookup
  have hmh:=madeHere_tuple
  have hT:s.TypeIs (.ref r) "range":=⟨_,hr,rfl⟩
  have hh1:A.in1.handled=none:=hh
  wp_walk using wpAny_typeOf hT,t9 hh1 hr h1 h2 h3
  intro h' tk acc hk hacc
  show wpAny _ _ (Builtin.Tuple.tupleExact acc.toList.toArray >>= fun z=>ret z) _ _ _
  unfold Builtin.Tuple.tupleExact
  have e:acc.toList.toArray=acc:=by simp
  have hz:acc.toList.toArray.size≤sizeLine:=by rw[e,hacc.1,sizeLine_eq];omega
  refine wpAny_bind (wpAny_newObj_type (wpAny_pure ⟨_,rfl,?_⟩) hz)
  rw[e]
  exact h h' tk acc hk hacc
end L2
end
section
namespace L2
open PySem PySem.Spec PyProof.Rows _root_.HT
theorem qm {prog:Program}{w:World}{A:Around}{E:Value->Shared->Prop}{s:Shared}{t z:Addr}{items:Array Value}{vl vu:Value}{lo hi:Option Int}{Q:Value->Shared->Prop}(ht:IsTup s.heap t items)(hs:s.heap.IsSliceOf z vl vu .none)(pl:IsPart vl lo)(pu:IsPart vu hi)
  (hw:_root_.HT.sIx items.size 0 lo=0/\_root_.HT.sIx items.size items.size hi=items.size) (h:Q (.ref t) s):wpAny (model prog w) A (getItem (.ref t) (.ref z)) Q E s:=by
 obtain⟨os,hos,hcs,hds⟩:=id hs
 have hTs:s.TypeIs (.ref z) "slice":=⟨os,hos,hcs⟩
 unfold getItem;try with_reducible refine wpAny_holding ?_
 first|(refine wpAny_bind (wpAny_pure ?_);skip)|skip
 refine wpAny_bind (wpAny_sequenceKey ht.typeIs (by decide) (wpAny_bind (wpAny_callSpecial?_slot (name:=Str.ofString "__getitem__") ht.typeIs PyProof.Rows.slot_tuple_getitem (wpAny_call_entry PyProof.Rows.slot_tuple_getitem ht.typeIs entry_tuple_getitem ?_ (args_tuple_getitem _ _)))))
 show wpAny _ _ (Builtin.Tuple.tupleItemsOf (.ref t) >>= fun _=>_) _ _ s
 refine wpAny_bind (tupleItemsOf_ ht (wpAny_bind (wpAny_typeOf hTs ?_)))
 rw[if_pos (by decide)];refine wpAny_bind (jy hs pl pu ?_)
 rw[hw.1,hw.2]
 have yes:(((0:Nat):Int)==0&&(1:Int)==1&&(items.size - 0)==items.size)=true:=by simp
 show wpAny _ _ (if (((0:Nat):Int)==0&&(1:Int)==1&&(items.size - 0)==items.size)=true then _ else _) _ _ s
 rw[if_pos yes]
 refine wpAny_bind ?_
 unfold Builtin.Tuple.tupleIsExact
 refine wpAny_bind (wpAny_typeOf ht.typeIs (wpAny_pure ?_))
 rw[if_pos (by decide)]
 exact wpAny_bind (wpAny_rule (wpAny_pure ⟨_,rfl,wpAny_pure h⟩))
end L2
end
section
namespace Dp
open PySem PySem.Spec L2 PyProof.Rows
section
variable {X:Cx}{e a b c:Expr}{es jc:List Expr}{pos:Pos}{f fa fb fc:FE}{fs:FA}{i:Nat}{ba bb:FB}
noncomputable def Mv (X:Cx)(g:PV->PV->Option RV):Prop:=∀(value slice:Expr) (z:Z X) s p q u v r E,z.ok s->Rv z s.heap p u->Rv z s.heap q v->g p q=some r->subscripted slice false u v=operate [u,v] (getItem u v)->W X (subscriptTail value slice u v) (Z.post z s r) E s
theorem KB {g:PV->PV->Option RV}(h:Mv X g)(ha:NE X a fa)(hb:NE X b fb)(hs:yE b):NE X (.Subscript a b pos) (ah g fa fb):=fun z s r E hz q=>by
 obtain⟨x,y,ex,ey,eg⟩:=yh q
 exact Subscript_ (two ha hb hz ex ey fun u v s2 g2 d1 d2=>aB (h a b z s2 _ _ u v r E g2.1 d1.rv d2.rv eg (hs _ _)) fun w s3 q3=>g2.post q3)
noncomputable def be:PV->PV->Option RV
 |.str z,.int i=>if z.length≤100000 then (L2.eH z.cps.toList i).map fun c=>.fz (.str ⟨#[c]⟩) else none
 |.dct ks ps,q=>(i8 q).bind fun k=>(nu ks ps k).map .fz
 |p,.int i=>(items p).bind fun ps=>(L2.eH ps i).map .fz
 |_,_=>none
theorem yp {z:Z X}{s:Shared}{value slice:Expr}{p:PV}{u:Value}{i:Int}{t:Tok}{ps:List PV}{q:PV}{E:Value->Shared->Prop}(hz:z.ok s)(d:Rd z.cn s.heap p u)(e1:items p=some ps)(e2:L2.eH ps i=some q)(hs:subscripted slice false u (.int i t)=operate [u,.int i t] (getItem u (.int i t))) :
  W X (subscriptTail value slice u (.int i t)) (Z.post z s (.fz q)) E s:=by
 obtain⟨a,its,rfl,_,zl,ds,h⟩:=D1.items d e1
 obtain⟨j,h1,h2,h3,h4,h5⟩:=yY e2
 obtain⟨w,ew,dw⟩:=ds.get h2
 have hl:=ds.length
 have hn:=pg
 have fin:Z.post z s (.fz q) w s:=⟨hz.refl,dw⟩
 rcases h with pl|⟨n,e⟩
 ·exact subscriptTail_builtinR (x:=w) pl.typeIs slot_tuple_getitem.lookup
   (getItem_tuple (j:=j) (Q:=fun r s'=>r=w/\Z.post z s (.fz q) r s') pl (by omega) (by omega) (by rw[List.size_toArray,hl];exact h1) (by simpa using ew) ⟨rfl,fin⟩) hs
 ·have pl:=aT e
  by_cases h0:0≤i
  ·have hj:i.toNat=j:=by
    rw[seqIndex_of h0 h5] at h1
    exact Option.some.inj h1
   exact item_listR pl h0 (by omega) (by rw[hj];simpa using ew) fin hs
  ·have hj:(i+(its.toArray.size:Int)).toNat=j:=by
    rw[seqIndex_neg (by omega) h4] at h1
    rw[List.size_toArray,hl]
    exact Option.some.inj h1
   exact subscriptTail_builtinR (x:=w) pl.typeIs slot_list_getitem.lookup
    (wpAny_getItem_list_neg (Q:=fun r s'=>r=w/\Z.post z s (.fz q) r s') pl (by omega) (by rw[List.size_toArray]<;>omega) (by omega) (by rw[hj];simpa using ew) ⟨rfl,fin⟩) hs
theorem IC:Mv X be:=by
 intro value slice z s p q u v r E hz dp dq e hs
 have seq:∀{i:Int},q=.int i →  ((items p).bind fun ps=>(L2.eH ps i).map .fz)=some r->W X (subscriptTail value slice u v) (Z.post z s r) E s:=fun {i} eq e'=>by
  subst eq
  obtain⟨⟨t,rfl⟩,_⟩:=dq
  obtain⟨ps,e1,e3⟩:=Option.bind_eq_some_iff.mp e'
  obtain⟨w,e2,rfl⟩:=Option.map_eq_some_iff.mp e3
  exact yp hz dp.1 e1 e2 hs
 unfold be at e
 split at e
 ·next x i=>
  split at e
  ·next hl=>
   obtain⟨c,e2,rfl⟩:=Option.map_eq_some_iff.mp e
   obtain⟨⟨t,rfl⟩,_⟩:=dp
   obtain⟨⟨t',rfl⟩,_⟩:=dq
   obtain⟨j,h1,h2,h3,h4,h5⟩:=yY e2
   have hl':x.cps.toList.length=x.length:=by simp[Str.length]
   rw[hl'] at h1 h4 h5
   have hn:=pg
   have hb:=big hl
   exact tail_any (typeIs_str s x t) slot_str_getitem.lookup (getItem_str (c:=c) (by
    have e1:decide (i < -(2 ^ 63:Int))=false:=decide_eq_false (by omega)
    have e2:decide (i ≥ 2 ^ 63)=false:=decide_eq_false (by omega)
    rw[e1,e2,Bool.or_false]) (by rw[h1];simpa using h2) ⟨hz.tok _,_,rfl⟩) hs
  ·cases e
 ·next ks ps=>
  obtain⟨k,ek,e⟩:=Option.bind_eq_some_iff.mp e
  obtain⟨w,e2,rfl⟩:=Option.map_eq_some_iff.mp e
  obtain⟨a,kus,rfl,_,y,dd,zl,hk,ds⟩:=dp.1
  obtain⟨x,ex,dx⟩:=(lT (y:=k) hk ds).1 w e2
  exact tail_any dd.typeIs PySem.F.slot_dict_getitem.lookup (wpAny_getItem_of (pP (gK ek dq.1)) dd.mapOf ex ⟨hz.tok _,dx⟩) hs
 ·exact seq rfl e
 ·cases e
noncomputable def DR:PV->PV->Option RV
 |.lst ps,.int i=>(L2.eH ps i).map .fz
 |.lst ps,.bl b=>(ps[IS b]?).map .fz
 |_,_=>none
theorem Bc:Mv X DR:=by
 intro value slice z s p q u v r E hz dp dq e hs
 unfold DR at e
 split at e
 ·obtain⟨⟨t,rfl⟩,_⟩:=dq
  obtain⟨w,e2,rfl⟩:=Option.map_eq_some_iff.mp e
  exact yp hz dp.1 rfl e2 hs
 ·next ps b=>
  cases (show v=Value.bool b from dq.1)
  obtain⟨w,e2,rfl⟩:=Option.map_eq_some_iff.mp e
  obtain⟨a,its,n,rfl,_,e1,zl,ds⟩:=dp.1
  obtain⟨x,ex,dx⟩:=ds.get e2
  exact subscriptTail_builtinR (x:=x) (aT e1).typeIs slot_list_getitem.lookup (zA (Q:=fun r s'=>r=x/\Z.post z s (.fz w) r s') (aT e1) (by simpa using ex) ⟨rfl,hz.refl,dx⟩) hs
 ·cases e
noncomputable def nZ {α:Type}(xs:List α)(lo hi:Option Int):List α:=(xs.drop (HT.sIx xs.length 0 lo)).take (HT.sIx xs.length xs.length hi - HT.sIx xs.length 0 lo)
noncomputable abbrev FO:=aj->Option (Option Int)
noncomputable def NO (X:Cx)(e:Option Expr)(f:FO):Prop:=∀(z:Z X) s o E,z.ok s->f z.ρ=some o->W X (evalPart e X.env) (fun u s'=>z.go s s'/\IsPart u o) E s
noncomputable def zX:FO:=fun _=>some none
noncomputable def Lu (o:Option PV):Option (Option Int):=match o with
 |some (.int i)=>some (some i)
 |_=>none
noncomputable def zW (f:FE):FO:=fun ρ=>(f ρ).bind fun r=>Lu r.fr
theorem Ep:NO X none zX:=fun z s o E hz q=>by cases q;rw[evalPart_none];exact wpAny_pure ⟨hz.refl,.none⟩
theorem E3 (h:NE X e f):NO X (some e) (zW f):=fun z s o E hz q=>by
 obtain⟨r,er,q⟩:=Option.bind_eq_some_iff.mp q
 unfold Lu at q
 split at q
 ·next i hi=>
  cases q
  rw[evalPart_some]
  refine aB (h z s r E hz er) fun u s1 q1=>?_
  obtain⟨t,rfl⟩:=q1.2.fr hi
  exact⟨q1.1,.int i t⟩
 ·cases q
noncomputable def IQ (p:PV)(l h:Option Int):Option RV:=match p with
 |.lst ps=>some (.nw (nZ ps l h))
 |.src ps=>some (.nw (nZ ps l h))
 |.tup ps=>if HT.sIx ps.length 0 l=0/\HT.sIx ps.length ps.length h=ps.length then none else some (.fz (.tup (nZ ps l h)))
 |_=>none
noncomputable def CI:PV->Option Int->Option Int->Option RV
 |.tup ps,l,h=>some (.fz (.tup (nZ ps l h)))
 |_,_,_=>none
noncomputable def Em (g:PV->Option Int->Option Int->Option RV)(f:FE)(l h:FO):FE:=fun ρ=>(f ρ).bind fun r=>(l ρ).bind fun lo=>(h ρ).bind fun hi=>g r.pv lo hi
noncomputable abbrev CY:FE->FO->FO->FE:=Em IQ
noncomputable abbrev Ks:FE->FO->FO->FE:=Em CI
noncomputable def Mk (X:Cx)(g:PV->Option Int->Option Int->Option RV):Prop:=∀(z:Z X) s p v vl vu lo hi t r E,z.ok s->Rv z s.heap p v->s.heap.IsSliceOf t vl vu .none->IsPart vl lo->IsPart vu hi->g p lo hi=some r →
 ∃T id,typeLookup (.type T) "__getitem__" = pure (some (.builtin id))/\s.TypeIs v T/\W X (getItem v (.ref t)) (Z.post z s r) E s
theorem JS {g:PV->Option Int->Option Int->Option RV}{lo hi:Option Expr}{fl fh:FO}{p2:Pos}(hr:Mk X g)(he:NE X e f)(hl:NO X lo fl)(hu:NO X hi fh):NE X (.Subscript e (.Slice lo hi none p2) pos) (Em g f fl fh):=fun z s r E hz q=>by
 obtain⟨x,ex,q⟩:=Option.bind_eq_some_iff.mp q
 obtain⟨ol,el,q⟩:=Option.bind_eq_some_iff.mp q
 obtain⟨oh,eh,q⟩:=Option.bind_eq_some_iff.mp q
 refine Subscript_ (aB (he z s x E hz ex) fun v s1 q1=>?_)
 refine wpAny_Slice (aB (hl z s1 ol E q1.1.1 el) fun vl s2 ⟨g2,pl⟩=>aB (hu z s2 oh E g2.1 eh) fun vu s3 ⟨g3,pu⟩=>?_)
 rw[evalPart_none]
 refine wpAny_pure ?_
 have g4:=g3.1.push { cls:=.type "slice",data:=.fields #[vl,vu,.none] } s3.toks
 have ga:=q1.1.trans (g2.trans (g3.trans g4))
 obtain⟨T,id,hT,ht,hg⟩:=hr z _ x.pv v vl vu ol oh s3.heap.objs.size r E g4.1 ((q1.2.ext (g2.2.trans (g3.2.trans g4.2))).rv) (Heap.IsSliceOf.new ..) pl pu q
 exact tail_any (ops:=[.ref s3.heap.objs.size,v]) ht hT (aB hg fun w s5 q5=>ga.post q5) (by with_unfolding_all rfl)
theorem B5 {c:Cn}{h:Heap}{ps:List PV}{its:List Value}(d:Ds c h ps its)(lo hi:Option Int):Ds c h (nZ ps lo hi) ((its.drop (HT.sIx its.length 0 lo)).take (HT.sIx its.length its.length hi - HT.sIx its.length 0 lo)):=by
 unfold nZ;rw[d.length];exact (d.drop _).take _
theorem J7 {z:Z X}{s:Shared}{ps:List PV}{v vl vu:Value}{lo hi:Option Int}{t:Addr}{E:Value->Shared->Prop}(hz:z.ok s)(d:Rd z.cn s.heap (.lst ps) v)(hs:s.heap.IsSliceOf t vl vu .none)(pl:IsPart vl lo)(pu:IsPart vu hi) :
  ∃T id,typeLookup (.type T) "__getitem__" = pure (some (.builtin id))/\s.TypeIs v T/\W X (getItem v (.ref t)) (Z.post z s (.nw (nZ ps lo hi))) E s:=by
 obtain⟨a,its,n,rfl,_,e1,zl,ds⟩:=d
 have ht:=aT e1
 refine⟨"list",_,slot_list_getitem.lookup,ht.typeIs,?_⟩
 refine wpAny_getItem_list_slice ht hs pl pu .none (by simp) ?_ (by rw[List.size_toArray]<;>omega)
 rw[qM]
 exact Z.ok.newL0 (n:=0) hz (B5 ds lo hi) (by rw[List.length_take,List.length_drop];omega)
theorem Kc {z:Z X}{s:Shared}{ps:List PV}{v vl vu:Value}{lo hi:Option Int}{t:Addr}{E:Value->Shared->Prop}(hz:z.ok s)(d:D z.cn s.heap (.tup ps) v)(hs:s.heap.IsSliceOf t vl vu .none)(pl:IsPart vl lo)(pu:IsPart vu hi) :
  ∃T id,typeLookup (.type T) "__getitem__" = pure (some (.builtin id))/\s.TypeIs v T/\W X (getItem v (.ref t)) (Z.post z s (.fz (.tup (nZ ps lo hi)))) E s:=by
 have d':=d
 obtain⟨a,its,rfl,o,ht,zl,ds⟩:=d
 have hn:its.toArray.size=its.length:=List.size_toArray
 refine⟨"tuple",_,PyProof.Rows.slot_tuple_getitem.lookup,ht.typeIs,?_⟩
 by_cases hw:HT.sIx its.length 0 lo=0/\HT.sIx its.length its.length hi=its.length
 ·refine qm ht hs pl pu (by rw[hn];exact hw) ⟨hz.refl,?_⟩
  have:nZ ps lo hi=ps:=by
   have hl:=ds.length
   unfold nZ
   rw[←hl,hw.1,hw.2,List.drop_zero,Nat.sub_zero,List.take_of_length_le (by omega)]
  rw[this];exact d'
 ·refine HT.getItem_tuple_cut ht hs pl pu (by rw[hn];exact hw) ?_ (by rw[hn];exact zl)
  rw[hn]
  exact Z.ok.newT hz (B5 ds lo hi) (by rw[List.length_take,List.length_drop];omega) s.toks
theorem Mt:Mk X IQ:=fun z s p v vl vu lo hi t r E hz d hs pl pu q=>by
 unfold IQ at q
 split at q
 ·cases q;exact J7 hz d.1 hs pl pu
 ·cases q;exact J7 hz d.1 hs pl pu
 ·split at q
  ·cases q
  ·cases q;exact Kc hz (d.2 rfl) hs pl pu
 ·cases q
theorem Lm:Mk X CI:=fun z s p v vl vu lo hi t r E hz d hs pl pu q=>by
 unfold CI at q
 split at q
 ·cases q;exact Kc hz (d.2 rfl) hs pl pu
 ·cases q
noncomputable def kn:PV->Option (List PV)
 |.lst ps=>some ps
 |.src ps=>some ps
 |_=>none
theorem D1.lst {t:Addr->Prop}{c:Cn}{h:Heap}{p:PV}{u:Value}{ps:List PV}(d:D1 t c h p u)(e:kn p=some ps):D1 t c h (.lst ps) u:=by
 cases p with
 |lst qs=>cases e;exact d
 |src qs=>cases e;exact d
 |_=>cases e
noncomputable def Du (p:PV):Option RV:=match p with
 |.tup ps=>some (.fz (.tup ps.reverse))
 |p=>(kn p).map fun ps=>.nw ps.reverse
noncomputable def BJ (f:FE):FE:=fun ρ=>(f ρ).bind fun r=>Du r.pv
theorem Jg {st:Expr}{p2:Pos}(he:NE X e f)(hst:NE X st (fC (.int (-1)))\/NE X st (HH (fC (.int 1)))):NE X (.Subscript e (.Slice none none (some st) p2) pos) (BJ f):=fun z s r E hz q=>by
 obtain⟨x,ex,q⟩:=Option.bind_eq_some_iff.mp q
 refine Subscript_ (aB (he z s x E hz ex) fun v s1 q1=>?_)
 refine wpAny_Slice ?_
 rw[evalPart_none]
 refine wpAny_pure (wpAny_pure ?_)
 rw[evalPart_some]
 have hst':W X (eval st X.env) (Z.post z s1 (.fz (.int (-1)))) E s1:=hst.elim (fun h=>h z s1 _ E q1.1.1 rfl) fun h=>h z s1 _ E q1.1.1 rfl
 refine aB hst' fun vst s3 q3=>?_
 obtain⟨t,rfl⟩:=q3.2
 have g4:=q3.1.1.push { cls:=.type "slice",data:=.fields #[.none,.none,.int (-1) t] } s3.toks
 have ga:=q1.1.trans (q3.1.trans g4)
 have dx:=(q1.2.ext (q3.1.2.trans g4.2)).rv
 have lstCase:∀ps,kn x.pv=some ps->r=.nw ps.reverse->W X (subscriptTail e (.Slice none none (some st) p2) v (.ref s3.heap.objs.size)) (Z.post z s r) E { s3 with heap:=s3.heap.push { cls:=.type "slice",data:=.fields #[.none,.none,.int (-1) t] } }:=fun ps e1 er=>by
  subst er
  obtain⟨a,its,n,rfl,_,e1,zl,ds⟩:=D1.lst dx.1 e1
  have ht:=aT e1
  refine tail_any (ops:=[.ref a,.ref s3.heap.objs.size]) ht.typeIs slot_list_getitem.lookup (wpAny_getItem_list_slice ht (Heap.IsSliceOf.new ..) .none .none (.int _ _) (by simp) ?_ (by rw[List.size_toArray];omega)) (by with_unfolding_all rfl)
  rw[qw]
  exact ga.post (Z.ok.newL0 (n:=0) (t:=s3.toks) g4.1 ds.rev (by rw[List.length_reverse];exact zl))
 unfold Du at q
 split at q
 ·next ps ep=>
  cases q
  rw[ep] at dx
  obtain⟨a,its,rfl,o,ht,zl,ds⟩:=dx.2 rfl
  refine tail_any (ops:=[.ref a,.ref s3.heap.objs.size]) ht.typeIs PyProof.Rows.slot_tuple_getitem.lookup (L2.HT.getItem_tuple_rev ht (Heap.IsSliceOf.new ..) (.int _ _) ?_ zl) (by with_unfolding_all rfl)
  exact ga.post (Z.ok.newT g4.1 ds.rev (by rw[List.length_reverse];exact zl) s3.toks)
 ·obtain⟨ps,e1,e2⟩:=Option.map_eq_some_iff.mp q
  exact lstCase ps e1 e2.symm
noncomputable def fF (X:Cx)(fv:Value)(g:List PV->Option RV):Prop:=∀(z:Z X) s ps us r E,z.ok s->Rvs z s.heap ps us->g ps=some r->W X (call fv us) (Z.post z s r) E s
noncomputable def fB (g:List PV->Option RV)(fs:FA):FE:=fun ρ=>(fs ρ).bind fun rs=>g (rs.map RV.pv)
theorem MD {x:Str}{p:Pos}{id:String}{g:List PV->Option RV}(hc:fF X (.builtin id) g)(hg:Gl X x)(hm:X.mg x=none)(hv:bootBuiltins x=some (.builtin id))(ha:NA X (e::es) fs)(hn:x ≠ "__name__")(hdb:(x==("__debug__" : Str))=false)
  (he:starEach (e::es) X.env=(false,eval e X.env)::starEach es X.env) (hpl:(backTo pos (starEach es X.env)).any (·.1)=false):NE X (.Call (.Name x p) (e::es) [] pos) (fB g fs):=fun z s r E hz q=>by
 obtain⟨rs,er,q⟩:=Option.bind_eq_some_iff.mp q
 refine wpAny_Call_Name_kw (lE hz.I hg hm hv ?_ hn hdb)
 exact PyProof.Rows.callWith_builtin1 (aB (ha z pos s rs E hz er) fun us s1 ⟨g1,d1⟩=>aB (hc z s1 _ us r E g1.1 d1.rv q) fun w s2 q2=>g1.post q2) he hpl
theorem LP {x:Str}{p:Pos}{T:String}{g:List PV->Option RV}(hc:fF X (.type T) g)(hg:Gl X x)(hm:X.mg x=none)(hv:bootBuiltins x=some (.type T))(ha:NA X (e::es) fs)(hn:x ≠ "__name__")(hdb:(x==("__debug__" : Str))=false)
  (he:starEach (e::es) X.env=(false,eval e X.env)::starEach es X.env) (hpl:(backTo pos (starEach es X.env)).any (·.1)=false):NE X (.Call (.Name x p) (e::es) [] pos) (fB g fs):=fun z s r E hz q=>by
 obtain⟨rs,er,q⟩:=Option.bind_eq_some_iff.mp q
 refine wpAny_Call_Name_kw (lE hz.I hg hm hv ?_ hn hdb)
 exact PyProof.Rows.callWith_type1 (aB (ha z pos s rs E hz er) fun us s1 ⟨g1,d1⟩=>aB (hc z s1 _ us r E g1.1 d1.rv q) fun w s2 q2=>g1.post q2) he hpl
theorem Rvs.one {z:Z X}{h:Heap}{p:PV}{us:List Value}(d:Rvs z h [p] us):∃u,us=[u]/\Rv z h p u:=by
 cases d with
 |cons a b=>cases b;exact⟨_,rfl,a⟩
theorem Rvs.two {z:Z X}{h:Heap}{p q:PV}{us:List Value}(d:Rvs z h [p,q] us):∃u v,us=[u,v]/\Rv z h p u/\Rv z h q v:=by
 cases d with
 |cons a b=>cases b with
  |cons b c=>cases c;exact⟨_,_,rfl,a,b⟩
noncomputable def j8:List PV->Option RV
 |[.str z]=>if z.length≤100000 then some (.fz (.int z.length)) else none
 |[p]=>(items p).map fun ps=>.fz (.int ps.length)
 |_=>none
theorem Jd:fF X (.builtin "len") j8:=fun z s ps us r E hz d q=>by
 have hn:=pg
 unfold j8 at q
 split at q
 ·split at q
  ·next hl=>
   cases q
   obtain⟨u,rfl,⟨t,rfl⟩,_⟩:=d.one
   have hb:=big hl
   exact len_str (by omega) ⟨hz.tok _,_,rfl⟩
  ·cases q
 ·obtain⟨ps,e1,rfl⟩:=Option.map_eq_some_iff.mp q
  obtain⟨u,rfl,du⟩:=d.one
  obtain⟨a,its,rfl,_,zl,ds,h⟩:=D1.items du.1 e1
  have hl:=ds.length
  have fin:∀t tk,Z.post z s (.fz (.int ps.length)) (.int its.toArray.size t) { s with toks:=tk }:=fun t tk=>⟨hz.tok _,t,by rw[List.size_toArray,hl]⟩
  rcases h with pl|⟨n,e⟩
  ·exact len_tuple pl (by rw[List.size_toArray];omega) (fin _ _)
  ·exact Calls.call_len_list (aT e) (by rw[List.size_toArray];omega) (fin _ _)
 ·cases q
noncomputable def Bm:List PV->Option RV
 |[.int i]=>some (.fz (.int (if i<0 then -i else i)))
 |_=>none
noncomputable def uC:List PV->Option RV
 |[.int i,.int j]=>some (.fz (.int (if j > i then j else i)))
 |_=>none
noncomputable def nr:List PV->Option RV
 |[.int i,.int j]=>some (.fz (.int (if j<i then j else i)))
 |_=>none
noncomputable def wj:List PV->Option RV
 |[.int i]=>some (.fz (.int i))
 |[.bl b]=>some (.fz (.int (if b then 1 else 0)))
 |_=>none
end
end Dp
end
section
namespace Dp
open PySem PySem.Spec L2 PyProof.Rows
section
variable {X:Cx}
theorem JC:fF X (.builtin "abs") Bm:=fun z s ps us r E hz d q=>by
 unfold Bm at q
 split at q
 ·cases q;obtain⟨u,rfl,⟨t,rfl⟩,_⟩:=d.one;exact call_abs_int fun u tk=>⟨hz.tok _,_,rfl⟩
 ·cases q
theorem Io (hc:X.calm=true):fF X (.builtin "max") uC:=fun z s ps us r E hz d q=>by
 unfold uC at q
 split at q
 ·next i j=>
  cases q;obtain⟨u,v,rfl,⟨⟨t,rfl⟩,_⟩,⟨t',rfl⟩,_⟩:=d.two
  refine max_two_ints (hz.I.ok.hd hc) fun h' tk k=>⟨hz.kept k,?_⟩
  by_cases hj:j > i
  ·rw[if_pos hj,if_pos hj];exact⟨_,rfl⟩
  ·rw[if_neg hj,if_neg hj];exact⟨_,rfl⟩
 ·cases q
theorem Ha (hc:X.calm=true):fF X (.builtin "min") nr:=fun z s ps us r E hz d q=>by
 unfold nr at q
 split at q
 ·next i j=>
  cases q;obtain⟨u,v,rfl,⟨⟨t,rfl⟩,_⟩,⟨t',rfl⟩,_⟩:=d.two
  refine min_two_ints (hz.I.ok.hd hc) fun h' tk k=>⟨hz.kept k,?_⟩
  by_cases hj:j<i
  ·rw[if_pos hj,if_pos hj];exact⟨_,rfl⟩
  ·rw[if_neg hj,if_neg hj];exact⟨_,rfl⟩
 ·cases q
theorem La:fF X (.type "int") wj:=fun z s ps us r E hz d q=>by
 unfold wj at q
 split at q
 ·cases q;obtain⟨u,rfl,⟨t,rfl⟩,_⟩:=d.one;exact call_int_int ⟨hz.refl,_,rfl⟩
 ·next k=>cases q;obtain⟨u,rfl,du⟩:=d.one;cases (show u=Value.bool k from du.1);exact call_int_bool ⟨hz.tok _,_,rfl⟩
 ·cases q
noncomputable def G8:List PV->Option RV
 |[.int i]=>if i.natAbs.log2<1920 then some (.fz (.str (toString i))) else none
 |_=>none
theorem J9:fF X (.type "str") G8:=fun z s ps us r E hz d q=>by
 unfold G8 at q
 split at q
 ·split at q
  ·next h=>cases q;obtain⟨u,rfl,⟨t,rfl⟩,_⟩:=d.one;exact PySem.P.str_of_int h ⟨hz.tok _,_,rfl⟩
  ·cases q
 ·cases q
noncomputable def G4:List PV->Option (List Bool)
 |[]=>some []
 |.bl b::ps=>(G4 ps).map fun bs=>b::bs
 |_=>none
theorem CF {c:Cn}{h:Heap}{ps:List PV}:∀{us:List Value} {bs:List Bool},Ds c h ps us->G4 ps=some bs->us=bs.map Value.bool:=by
 induction ps with
 |nil=>intro us bs d e;cases e;exact d
 |cons p ps ih=>
  intro us bs d q
  obtain⟨u,r,e,d,t⟩:=d
  cases p with
  |bl b=>
   obtain⟨bs',e',rfl⟩:=Option.map_eq_some_iff.mp q
   rw[e,show u=Value.bool b from d,ih t e',List.map_cons]
  |_=>cases q
noncomputable def C6:List PV->Option RV
 |[p]=>(kn p).bind fun ps=>(G4 ps).map fun bs=>.fz (.bl (bs.all id))
 |_=>none
noncomputable def Gq:List PV->Option RV
 |[p]=>(kn p).bind fun ps=>(G4 ps).map fun bs=>.fz (.bl (bs.any id))
 |_=>none
theorem Iq (bs:List Bool):(List.range bs.length).all (fun i=>bs.getD i false)=bs.all id:=by
 induction bs with
 |nil=>rfl
 |cons b r ih=>rw[List.length_cons,List.range_succ_eq_map,List.all_cons,List.all_map,List.all_cons,←ih]<;>rfl
theorem Gj (bs:List Bool):(List.range bs.length).any (fun i=>bs.getD i false)=bs.any id:=by
 induction bs with
 |nil=>rfl
 |cons b r ih=>rw[List.length_cons,List.range_succ_eq_map,List.any_cons,List.any_map,List.any_cons,←ih]<;>rfl
theorem kE {h:Heap}{a:Addr}{o:Obj}(e:h.get? a=some o):a≠h.objs.size:=Nat.ne_of_lt (Heap.lt_size e)
theorem Gi {bs:List Bool}{i:Nat}{v:Value}(h:(bs.map Value.bool).toArray[i]?=some v):v=Value.bool (bs.getD i false):=by
 rw[List.getElem?_toArray,List.getElem?_map] at h
 obtain⟨b,e,rfl⟩:=Option.map_eq_some_iff.mp h
 rw[List.getD_eq_getElem?_getD,e];rfl
theorem Lk (hc:X.calm=true):fF X (.builtin "all") C6:=fun z s ps us r E hz d q=>by
 unfold C6 at q
 split at q
 ·obtain⟨ps,e1,q⟩:=Option.bind_eq_some_iff.mp q
  obtain⟨bs,e2,rfl⟩:=Option.map_eq_some_iff.mp q
  obtain⟨u,rfl,du⟩:=d.one
  obtain⟨p,its,n,rfl,_,e1,zl,ds⟩:=D1.lst du.1 e1
  have ei:=CF ds e2
  subst ei
  have pl:=aT e1
  refine call_all_walk (wpAny_pyIter_list pl ?_)
  refine⟨s.heap.objs.size,_,_,_,_,_,fun i=>bs.getD i false,rfl,Walks.list (A:=X.A.in1) (hz.I.ok.hd hc) s.heap.objs.size p (kE e1) (bs.map Value.bool).toArray,⟨⟨_,Heap.get?_push_size _ rfl,rfl,rfl⟩,⟨_,Heap.get?_push_of_some _ e1,rfl,n,rfl⟩⟩,fun i v s' Q' E' hP hQ=>?_,fun h' tk hk=>?_⟩
  ·rw[Gi hP];exact wpAny_truthy_bool hQ
  ·rw[List.size_toArray,List.length_map,Iq]
   exact⟨hz.kept fun b o' e=>hk b o' (fun z=>kE e (List.mem_singleton.mp z)) (Heap.get?_push_of_some _ e),rfl⟩
 ·cases q
theorem Jw (hc:X.calm=true):fF X (.builtin "any") Gq:=fun z s ps us r E hz d q=>by
 unfold Gq at q
 split at q
 ·obtain⟨ps,e1,q⟩:=Option.bind_eq_some_iff.mp q
  obtain⟨bs,e2,rfl⟩:=Option.map_eq_some_iff.mp q
  obtain⟨u,rfl,du⟩:=d.one
  obtain⟨p,its,n,rfl,_,e1,zl,ds⟩:=D1.lst du.1 e1
  have ei:=CF ds e2
  subst ei
  have pl:=aT e1
  refine call_any_walk (wpAny_pyIter_list pl ?_)
  refine⟨s.heap.objs.size,_,_,_,_,_,fun i=>bs.getD i false,rfl,Walks.list (A:=X.A.in1) (hz.I.ok.hd hc) s.heap.objs.size p (kE e1) (bs.map Value.bool).toArray,⟨⟨_,Heap.get?_push_size _ rfl,rfl,rfl⟩,⟨_,Heap.get?_push_of_some _ e1,rfl,n,rfl⟩⟩,fun i v s' Q' E' hP hQ=>?_,fun h' tk hk=>?_⟩
  ·rw[Gi hP];exact wpAny_truthy_bool hQ
  ·rw[List.size_toArray,List.length_map,Gj]
   exact⟨hz.kept fun b o' e=>hk b o' (fun z=>kE e (List.mem_singleton.mp z)) (Heap.get?_push_of_some _ e),rfl⟩
 ·cases q
noncomputable def MU (n:String):PV->Option Bool
 |.non=>some false
 |.bl _=>some (n == "bool" || n == "int")
 |.int _=>some (n == "int")
 |.str _=>some (n == "str")
 |.tup _=>some (n == "tuple")
 |.lst _=>some (n == "list")
 |.dct _ _=>some (n == "dict")
 |_=>none
noncomputable def tG:List PV->Option RV
 |[p,.ty n]=>if n = "int"\/n = "bool"\/n = "str"\/n = "tuple"\/n = "list"\/n = "dict" then (MU n p).map fun b=>.fz (.bl b) else none
 |_=>none
theorem L6:fF X (.builtin "isinstance") tG:=fun z s ps us r E hz d q=>by
 unfold tG at q
 split at q
 ·next p n=>
  split at q
  ·next hn=>
   obtain⟨b,e,rfl⟩:=Option.map_eq_some_iff.mp q
   obtain⟨u,v,rfl,du,dv⟩:=d.two
   cases (show v=Value.type n from dv.1)
   have kin:=hz.I.kIn
   have fin:∀tk,Z.post z s (.fz (.bl b)) (.bool b) { s with toks:=tk }:=fun tk=>⟨hz.tok _,rfl⟩
   cases p with
   |non=>cases (show u=_ from du.1);exact PySem.W.kia_one (K:=X.K) PySem.W.kitx_none kin True.intro (by rcases hn with rfl|rfl|rfl|rfl|rfl|rfl<;>exact e) (fun z=>nomatch z) fin
   |bl x=>cases (show u=_ from du.1);exact PySem.W.kia_one (K:=X.K) PySem.W.kitx_bool kin True.intro (by rcases hn with rfl|rfl|rfl|rfl|rfl|rfl<;>exact e) (fun z=>nomatch z) fin
   |int x=>obtain⟨⟨t,rfl⟩,_⟩:=du;exact PySem.W.kia_one (K:=X.K) PySem.W.kitx_int kin True.intro (by rcases hn with rfl|rfl|rfl|rfl|rfl|rfl<;>exact e) (fun z=>nomatch z) fin
   |str x=>obtain⟨⟨t,rfl⟩,_⟩:=du;exact PySem.W.kia_one (K:=X.K) PySem.W.kitx_str kin True.intro (by rcases hn with rfl|rfl|rfl|rfl|rfl|rfl<;>exact e) (fun z=>nomatch z) fin
   |lst x=>obtain⟨⟨a,its,m,rfl,_,h1,_⟩,_⟩:=du;exact PySem.W.kia_one (K:=X.K) PySem.W.kitx_list kin ⟨_,h1,rfl⟩ (by rcases hn with rfl|rfl|rfl|rfl|rfl|rfl<;>exact e) (fun z=>nomatch z) fin
   |tup x=>obtain⟨⟨a,its,rfl,_,⟨o,h1,h2,_⟩,_⟩,_⟩:=du;exact PySem.W.kia_one (K:=X.K) PySem.W.kitx_tuple kin ⟨o,h1,h2⟩ (by rcases hn with rfl|rfl|rfl|rfl|rfl|rfl<;>exact e) (fun z=>nomatch z) fin
   |dct x y=>obtain⟨⟨a,kus,rfl,_,_,⟨o,es,ep,h1,h2,_⟩,_⟩,_⟩:=du;exact PySem.W.kia_one (K:=X.K) PySem.W.kitx_dict kin ⟨o,h1,h2.1⟩ (by rcases hn with rfl|rfl|rfl|rfl|rfl|rfl<;>exact e) (fun z=>nomatch z) fin
   |_=>cases e
  ·cases q
 ·cases q
noncomputable def qd (lo:Int)(n:Nat):List PV:=(List.range n).map fun i:Nat=>PV.int (lo+i)
theorem lF (lo:Int)(n:Nat):(qd lo n).length=n:=by unfold qd;simp
noncomputable def tS:List PV->Option RV
 |[.int j]=>if -(2 ^ 62)≤j/\j<2 ^ 62 then some (.fz (.rng 0 j)) else none
 |_=>none
theorem Jm:fF X (.type "range") tS:=fun z s ps us r E hz d q=>by
 unfold tS at q
 split at q
 ·split at q
  ·next h=>
   cases q
   obtain⟨u,rfl,⟨t,rfl⟩,_⟩:=d.one
   exact call_range_1 ⟨hz.push _ _,_,_,_,_,rfl,hz.free (Heap.get?_none_of_le (Nat.le_refl _)),Heap.get?_push_size _ rfl⟩
  ·cases q
 ·cases q
theorem AB {c:Cn}{h:Heap}{n:Nat}{acc:Array Value}(hi:ItemsOf (fun i v=>∃t,v=.int ((0:Int)+i * 1) t) acc n):Ds c h (qd 0 n) acc.toList:=by
 obtain⟨hs,hi⟩:=hi
 refine Ds.of (by rw[lF];simpa using hs) fun i p u h1 h2=>?_
 unfold qd at h1
 rw[List.getElem?_map] at h1
 obtain⟨k,e,rfl⟩:=Option.map_eq_some_iff.mp h1
 obtain⟨hk,e⟩:=List.getElem?_eq_some_iff.mp e
 rw[List.getElem_range] at e
 subst e
 obtain⟨t,e⟩:=hi i u (by simpa using h2)
 exact⟨t,by rw[e,Int.mul_one]⟩
noncomputable def lI:List PV->Option RV
 |[.lst ps]=>some (.fz (.tup ps))
 |[.tup ps]=>some (.fz (.tup ps))
 |[.src ps]=>some (.fz (.tup ps))
 |_=>none
theorem AG {z:Z X}{s:Shared}{ps:List PV}{u:Value}{E:Value->Shared->Prop}(hz:z.ok s)(d:Rd z.cn s.heap (.lst ps) u):W X (call (.type "tuple") [u]) (Z.post z s (.fz (.tup ps))) E s:=by
 obtain⟨p,its,n,rfl,_,e1,zl,ds⟩:=d
 refine call_tuple_list (aT e1) (fun h' kp=>?_) (by simp only[List.size_toArray];omega)
 have g:=hz.kept (t:=s.toks) kp
 exact g.post (Z.ok.newT g.1 (ds.mono g.2.kpD) zl s.toks)
theorem Kt:fF X (.type "tuple") lI:=fun z s ps us r E hz d q=>by
 unfold lI at q
 split at q
 ·cases q;obtain⟨u,rfl,du⟩:=d.one;exact AG hz du.1
 ·cases q;obtain⟨u,rfl,du⟩:=d.one
  have d':=du.2 rfl
  obtain⟨a,its,rfl,o,pl,_⟩:=du.2 rfl
  exact call_tuple_same pl ⟨hz.refl,d'⟩
 ·cases q;obtain⟨u,rfl,du⟩:=d.one;exact AG hz du.1
 ·cases q
noncomputable def jR:List PV->Option RV
 |[.rng lo j]=>if lo=0/\0≤j/\j≤1000000 then some (.nw (qd 0 j.toNat)) else none
 |[p]=>(items p).map .nw
 |_=>none
theorem Hv (hc:X.calm=true):fF X (.type "list") jR:=fun z s ps us r E hz d q=>by
 have zl:=ut
 unfold jR at q
 split at q
 ·next lo j=>
  split at q
  ·next h=>
   cases q
   obtain⟨rfl,h1,h2⟩:=h
   obtain⟨u,rfl,⟨a,t1,t2,t3,rfl,_,e⟩,_⟩:=d.one
   refine call_list_range (hz.I.ok.hd hc) (r:=a) (a:=0) (b:=j) (c:=1) (n:=j.toNat) e (small_one (by omega) (by omega) (by omega) (by omega)) (by rw[rangeSize_one];split<;>omega) (by omega) fun h' tk acc' c' hk hS hacc=>?_
   have dd:=AB (c:=z.cn) (h:=s.heap) hacc
   refine Z.ok.newL hz dd (by rw[dd.length,lF];omega) hk (n:=c') ?_
   simpa [gx] using hS
  ·cases q
 ·obtain⟨ps,e1,rfl⟩:=Option.map_eq_some_iff.mp q
  obtain⟨u,rfl,du⟩:=d.one
  obtain⟨a,its,rfl,_,zl,ds,h⟩:=D1.items du.1 e1
  have fin:∀(h':Heap) (c':Nat),(∀b o',s.heap.get? b=some o'->h'.get? b=some o')->h'.get? s.heap.objs.size=some { cls:=.type "list",dict:=none,data:=.seq its.toArray c',slots:=#[] }->Z.post z s (.nw ps) (.ref s.heap.objs.size) { s with heap:=h' }:=fun h' c' kp e=>
   Z.ok.newL hz ds zl kp (t:=s.toks) (n:=c') e
  rcases h with ⟨o,ho,hc,n,hd⟩|⟨n,e⟩
  ·exact call_list_seq a (.inr rfl) ho hc hd fin (by simp only[List.size_toArray]<;>omega)
  ·exact call_list_seq a (.inl rfl) e rfl rfl fin (by simp only[List.size_toArray]<;>omega)
 ·cases q
noncomputable def rp:List PV->Option RV
 |[.rng lo j]=>if lo=0/\0≤j/\j≤1000000 then some (.fz (.tup (qd 0 j.toNat))) else none
 |_=>none
theorem Hs (hc:X.calm=true):fF X (.type "tuple") rp:=fun z s ps us r E hz d q=>by
 have zl:=ut
 unfold rp at q
 split at q
 ·next lo j=>
  split at q
  ·next h=>
   cases q
   obtain⟨rfl,h1,h2⟩:=h
   obtain⟨u,rfl,⟨a,t1,t2,t3,rfl,_,e⟩,_⟩:=d.one
   refine callType_new F.called_tuple (by decide) (F.typeCall_tuple_1 _) (F.newCall_tuple_1 _) (fun obj=>F.args_object_init_2 obj _) F.entry_tuple_new
    (qi a (a:=0) (b:=j) (c:=1) (n:=j.toNat) (small_one (by omega) (by omega) (by omega) (by omega)) (by rw[rangeSize_one];split<;>omega) (by omega)) ⟨⟨hz.I.ok.hd hc,e⟩,fun h' tk acc hk hacc=>⟨⟨_,Heap.get?_push_size _ rfl,rfl⟩,?_⟩⟩
   have g:=hz.kept (t:=tk) hk
   have dd:=AB (c:=z.cn) (h:=h') hacc
   have:=Z.ok.newT g.1 dd (by rw[dd.length,lF];omega) tk
   exact g.post (by simpa using this)
  ·cases q
 ·cases q
noncomputable def dG:List PV->Option (List Int)
 |[]=>some []
 |.int i::ps=>(dG ps).map fun is=>i::is
 |_=>none
theorem su {c:Cn}{h:Heap}{ps:List PV}:∀{us:List Value} {is:List Int},Ds c h ps us->dG ps=some is->IntsAre us is:=by
 induction ps with
 |nil=>intro us bs d e;cases e;rw[show us=[] from d];exact .nil
 |cons p ps ih=>
  intro us bs d q
  obtain⟨u,r,e,d,t⟩:=d
  cases p with
  |int b=>
   obtain⟨bs',e',rfl⟩:=Option.map_eq_some_iff.mp q
   obtain⟨k,rfl⟩:=d
   subst e
   exact .cons b k (ih t e')
  |_=>cases q
theorem xP {c:Cn}{h:Heap}{us:List Value}{is:List Int}(d:IntsAre us is):Ds c h (is.map PV.int) us:=by
 induction d with
 |nil=>rfl
 |cons n t _ ih=>exact .cons ⟨t,rfl⟩ ih
noncomputable def qg:List Int->Int
 |[]=>0
 |[i]=>i
 |i::j::l=>max i (qg (j::l))
noncomputable def zF:List Int->Int
 |[]=>0
 |[i]=>i
 |i::j::l=>min i (zF (j::l))
theorem yN:∀{is:List Int},0<is.length->qg is∈is/\∀a∈is,a≤qg is
 |[i],_=>⟨List.mem_singleton.mpr rfl,fun a h=>by rw[List.mem_singleton.mp h];exact Int.le_refl _⟩
 |i::j::l,_=>by
  obtain⟨h1,h2⟩:=yN (is:=j::l) (by simp)
  rw[qg]
  refine⟨?_,fun a ha=>?_⟩
  ·by_cases hm:i≤qg (j::l)
   ·rw[Int.max_eq_right hm];exact List.mem_cons_of_mem _ h1
   ·rw[Int.max_eq_left (by omega)];exact List.mem_cons_self
  ·rcases List.mem_cons.mp ha with rfl|ha
   ·exact Int.le_max_left _ _
   ·exact Int.le_trans (h2 a ha) (Int.le_max_right _ _)
theorem yx:∀{is:List Int},0<is.length->zF is∈is/\∀a∈is,zF is≤a
 |[i],_=>⟨List.mem_singleton.mpr rfl,fun a h=>by rw[List.mem_singleton.mp h];exact Int.le_refl _⟩
 |i::j::l,_=>by
  obtain⟨h1,h2⟩:=yx (is:=j::l) (by simp)
  rw[zF]
  refine⟨?_,fun a ha=>?_⟩
  ·by_cases hm:zF (j::l)≤i
   ·rw[Int.min_eq_right hm];exact List.mem_cons_of_mem _ h1
   ·rw[Int.min_eq_left (by omega)];exact List.mem_cons_self
  ·rcases List.mem_cons.mp ha with rfl|ha
   ·exact Int.min_le_left _ _
   ·exact Int.le_trans (Int.min_le_right _ _) (h2 a ha)
noncomputable def s9 {α:Type}(g:List Int->Option α):List PV->Option α
 |[p]=>(kn p).bind fun ps=>(dG ps).bind g
 |_=>none
noncomputable def kL (g:List Int->Int):List PV->Option RV:=s9 fun is=>if is.length=0 then none else some (.fz (.int (g is)))
noncomputable def FY:=kL qg
noncomputable def Fm:=kL zF
theorem Rvs.ints {z:Z X}{h:Heap}{ps:List PV}{us:List Value}(d:Rvs z h ps us){α:Type}{g:List Int->Option α}{r:α}(q:s9 g ps=some r):∃p ys is,us=[.ref p]/\h.IsList p (intItems ys)/\is=ys.toList.map (·.1)/\g is=some r:=by
 unfold s9 at q
 split at q
 ·obtain⟨ps,e1,q⟩:=Option.bind_eq_some_iff.mp q
  obtain⟨is,e2,q⟩:=Option.bind_eq_some_iff.mp q
  obtain⟨u,rfl,du⟩:=d.one
  obtain⟨p,its,n,rfl,_,e1,zl,ds⟩:=D1.lst du.1 e1
  have hi:=su ds e2
  obtain⟨ys,e⟩:=hi.allInts.items
  have hl:=aT e1
  rw[e] at hl
  exact⟨p,ys,is,rfl,hl,by rw[←hi.numsOf,←nums_intItems,←e],q⟩
 ·cases q
theorem KA (hc:X.calm=true):fF X (.builtin "max") FY:=fun z s ps us r E hz d q=>by
 obtain⟨p,ys,is,rfl,hl,hns,q⟩:=d.ints q
 split at q
 ·cases q
 ·next hne=>
  cases q
  have hsz:0<ys.size:=by rw[hns,List.length_map,Array.length_toList] at hne;omega
  refine max_intList (hz.I.ok.hd hc) hl hsz fun v h' tk hv hk=>?_
  obtain⟨t,rfl⟩:=intItems_at hv
  obtain⟨h1,h2⟩:=argBest_gt (numAt ys) (ys.size - 1)
  refine⟨hz.kept hk,t,?_⟩
  congr 1
  obtain⟨m1,m2⟩:=yN (is:=is) (by omega)
  refine Int.le_antisymm (m2 _ ?_) ?_
  ·rw[hns,numAt_eq];exact getD_mem (by rw[List.length_map,Array.length_toList];omega)
  ·have m3:=m1
   rw[hns] at m3
   obtain⟨j,hj,e⟩:=mem_getD m3
   rw[List.length_map,Array.length_toList] at hj
   rw[hns,←e,←numAt_eq];exact h2 j (by omega)
theorem JV (hc:X.calm=true):fF X (.builtin "min") Fm:=fun z s ps us r E hz d q=>by
 obtain⟨p,ys,is,rfl,hl,hns,q⟩:=d.ints q
 split at q
 ·cases q
 ·next hne=>
  cases q
  have hsz:0<ys.size:=by rw[hns,List.length_map,Array.length_toList] at hne;omega
  refine min_intList (hz.I.ok.hd hc) hl hsz fun v h' tk hv hk=>?_
  obtain⟨t,rfl⟩:=intItems_at hv
  obtain⟨h1,h2⟩:=argBest_lt (numAt ys) (ys.size - 1)
  refine⟨hz.kept hk,t,?_⟩
  congr 1
  obtain⟨m1,m2⟩:=yx (is:=is) (by omega)
  refine Int.le_antisymm ?_ (m2 _ ?_)
  ·have m3:=m1
   rw[hns] at m3
   obtain⟨j,hj,e⟩:=mem_getD m3
   rw[List.length_map,Array.length_toList] at hj
   rw[hns,←e,←numAt_eq];exact h2 j (by omega)
  ·rw[hns,numAt_eq];exact getD_mem (by rw[List.length_map,Array.length_toList];omega)
noncomputable def zU:List PV->Option RV:=s9 fun is=>some (.fz (.int is.sum))
theorem Kn (hc:X.calm=true):fF X (.builtin "sum") zU:=fun z s ps us r E hz d q=>by
 obtain⟨p,ys,is,rfl,hl,hns,q⟩:=d.ints q
 cases q
 refine sum_intListG (hz.I.ok.hd hc) hl fun h' tk t' hk=>⟨hz.kept hk,t',?_⟩
 rw[preSum_eq,List.take_of_length_le (by simp),hns]
end
end Dp
end
section
namespace Dp
open PySem PySem.Spec L2 PyProof.Rows PySem.W
section
variable {X:Cx}
theorem Inv.led {pins:List (Addr×Obj)}{σ:L2.St}{H:Hp}{s:Shared}{h':Heap}{m:Str->Option Value}(I:Inv X pins σ H s)(F0:Fr X.base X.env.locals s.heap m)(F:Fr X.base X.env.locals h' m)
  (kept:∀b o,b≠X.env.locals->s.heap.get? b=some o->h'.get? b=some o):Inv X pins σ H { s with heap:=h' }:=by
 have neL:∀b o,H b=some o->b≠X.env.locals:=fun b o e z=>by subst z;rw[I.free] at e;cases e
 refine I.step (g':=s.gens) (t':=s.toks) (d':=s.drawn) (ch:=[]) (fun _ z=>nomatch z) (fun b o hL _ _ e _=>kept b o hL e) (fun b o hL _ _ e _=>⟨o.slots,kept b o hL e⟩) (fun b o _ e n=>n) (fun b o _ e=>?_)
  (fun b xs e=>e) (fun b o u e=>e) (fun b ps e=>⟨#[],by rw[e];simp⟩) (fun m1 hm=>?_) (fun b o e=>?_) I.bare
 ·by_cases hb:b=X.env.locals
  ·subst hb
   obtain⟨o',_,_,z,_⟩:=F.ns
   exact⟨o',z⟩
  ·exact⟨o,kept b o hb e⟩
 ·rw[Gk hm F0.ns];exact F.ns
 ·refine (I.hok b o e).stay (fun d u hc q=>kept d u ?_ q) (fun d z=>z) fun d xs z=>z
  rcases hc with z|z
  ·rw[z];exact neL b _ e
  ·exact neL d _ z
theorem Z.ok.led {z:Z X}{s:Shared}{h':Heap}{m:Str->Option Value}(hz:z.ok s)(F0:Fr X.base X.env.locals s.heap m)(F:Fr X.base X.env.locals h' m)(kept:∀b o,b≠X.env.locals->s.heap.get? b=some o->h'.get? b=some o):z.go s { s with heap:=h' }:=
 Z.ok.ext hz (Inv.led hz.I F0 F kept) ⟨fun a o n e=>kept a o (fun q=>n (q▸hz.loc)) e,fun a o e=>by
  by_cases hb:a=X.env.locals
  ·subst hb
   obtain⟨o',_,_,z,_⟩:=F.ns
   exact⟨o',z⟩
  ·exact⟨o,kept a o hb e⟩⟩
noncomputable def jN:List PV->Option (List (List Int))
 |[]=>some []
 |.tup qs::ps=>(dG qs).bind fun is=>if is.isEmpty then none else (jN ps).map fun ks=>is::ks
 |_=>none
inductive Kys (h:Heap):List (List Int)->List Value->Prop where
 |nil:Kys h [] []
 |cons {a:Addr} {is:List Int} {vs us:List Value} {ks:List (List Int)}:IsTup h a vs.toArray->IntsAre vs is->is≠[]->Kys h ks us->Kys h (is::ks) (.ref a::us)
theorem DP {c:Cn}{h:Heap}{ps:List PV}:∀{us:List Value} {ks:List (List Int)},Ds c h ps us->jN ps=some ks->Kys h ks us:=by
 induction ps with
 |nil=>intro us ks d e;cases e;rw[show us=[] from d];exact .nil
 |cons p ps ih=>
  intro us ks d q
  obtain⟨u,r,e,d,t⟩:=d
  cases p with
  |tup qs=>
   obtain⟨is,e1,q⟩:=Option.bind_eq_some_iff.mp q
   split at q
   ·cases q
   ·next hne=>
    obtain⟨ks',e2,rfl⟩:=Option.map_eq_some_iff.mp q
    obtain⟨a,its,rfl,_,pl,_,ds⟩:=d
    subst e
    exact .cons pl (su ds e1) (fun z=>hne (by rw[z];rfl)) (ih t e2)
  |_=>cases q
theorem Kys.length {h:Heap}{ks:List (List Int)}{us:List Value}(k:Kys h ks us):ks.length=us.length:=by
 induction k with
 |nil=>rfl
 |cons _ _ _ _ ih=>rw[List.length_cons,List.length_cons,ih]
theorem Kys.get {h:Heap}{ks:List (List Int)}{us:List Value}(k:Kys h ks us):∀{i:Nat},i<us.length->∃a vs,us.getD i Value.none=.ref a/\IsTup h a vs.toArray/\IntsAre vs (ks.getD i []):=by
 induction k with
 |nil=>intro i hi;exact absurd hi (Nat.not_lt_zero _)
 | @cons a is vs us ks h1 h2 h3 h4 ih=>
  intro i hi
  cases i with
  |zero=>exact⟨a,vs,rfl,h1,h2⟩
  |succ i=>exact ih (by simpa using hi)
theorem Kys.tups {h h':Heap}{L:Addr}{ks:List (List Int)}{us:List Value}(k:Kys h ks us)(nl:∀a items,IsTup h a items->a≠L)(kept:∀b o,b≠L->h.get? b=some o->h'.get? b=some o):∃fs:List Value,KatTups h' us fs/\fs.length=us.length/\∀v∈fs,∃i t,v=Value.int i t:=by
 induction k with
 |nil=>exact⟨[],KatTups.nil,rfl,fun _ z=>nomatch z⟩
 | @cons a is vs us ks h1 h2 h3 h4 ih=>
  obtain⟨fs,f1,f2,f3⟩:=ih
  have hl:=nl _ _ h1
  obtain⟨o,eo,ec,n,ed⟩:=h1
  cases h2 with
  |nil=>exact absurd rfl h3
  |cons i tk q=>
   refine⟨.int i tk::fs,KatTups.cons (kept a o hl eo) ec ed rfl f1,by rw[List.length_cons,List.length_cons,f2],fun v hv=>?_⟩
   rcases List.mem_cons.mp hv with rfl|hv
   ·exact⟨i,tk,rfl⟩
   ·exact f3 v hv
theorem Cv {prog:Program}{w:World}{A:Around}{fin:Bool}{C:Bool->Shared->Prop}{s':Shared}{xs ys:List Int}{us vs:List Value}{k:Nat}(r1:IntsAre us xs)(r2:IntsAre vs ys)(h:C (zd fin (xs.zip ys)) s'):KatLex prog w A true fin C (us.zip vs) k s':=
 Dr (mo r1) (mo r2) h
theorem AA {c:Cn}{h:Heap}{ps:List PV}{us:List Value}(d:Ds c h ps us):∀{q:List Nat},(∀i∈q,i<us.length)->Ds c h (q.map fun i=>ps.getD i .non) (q.map fun i=>us.getD i Value.none)
 |[],_=>rfl
 |i::q,hq=>by
  have hi:=hq i List.mem_cons_self
  have hl:=d.length
  obtain⟨u,e1,e2⟩:=d.get (i:=i) (p:=ps.getD i .non) (by rw[List.getD_eq_getElem?_getD,List.getElem?_eq_getElem (by omega)];rfl)
  refine .cons ?_ (AA d fun j hj=>hq j (List.mem_cons_of_mem _ hj))
  show D c h (ps.getD i .non) (us.getD i Value.none)
  rw[List.getD_eq_getElem?_getD (l:=us),e1]
  exact e2
noncomputable def iu:List PV->Option RV
 |[p]=>(kn p).bind fun ps=>(jN ps).bind fun ks=>if ps.length<64 then some (.nw ((lW ks).map fun i=>ps.getD i .non)) else none
 |_=>none
theorem wE {z:Z X}{s:Shared}(hz:z.ok s){a:Addr}{items:Array Value}(h:IsTup s.heap a items):a≠X.env.locals:=fun q=>by
 obtain⟨o,e,_,n,d⟩:=h
 obtain⟨m,⟨o',es,ep,e',d',_⟩,_⟩:=hz.I.loc
 rw[q,e'] at e;cases e;rw[d'] at d;cases d
theorem Ae:fF X (.builtin "sorted") iu:=fun z s ps us r E hz d q=>by
 unfold iu at q
 split at q
 ·obtain⟨ts,e1,q⟩:=Option.bind_eq_some_iff.mp q
  obtain⟨ks,e2,q⟩:=Option.bind_eq_some_iff.mp q
  split at q
  ·next h64=>
   cases q
   obtain⟨u,rfl,du⟩:=d.one
   obtain⟨p,its,n,rfl,_,e1,zl,ds⟩:=D1.lst du.1 e1
   have pl:=aT e1
   have ky:=DP ds e2
   have hk:=ky.length
   have hl:=ds.length
   by_cases h2:its.length<2
   ·refine r8 pl h2 ?_
    obtain⟨e,he⟩:=sortedAll_at s.heap its its.toArray
    have es:(lW ks).map (fun i=>ts.getD i .non)=ts:=by
     unfold lW
     rw[if_pos (by omega),hk,hl]
     exact o8 _ _
    rw[es]
    have g:=hz.kept (h':=sortedAll s.heap its its.toArray) (t:=s.toks) fun b o z=>sortedAll_old z
    have nn:=Heap.get?_none_of_le (h:=s.heap) (a:=s.heap.objs.size+1) (Nat.le_succ _)
    exact⟨g,_,rfl,nn,hz.free nn,its,e,he,zl,(ds.mono (wl nn)).mono ⟨rfl,rfl,rfl,fun b o q e=>⟨q,sortedAll_old e⟩⟩⟩
   ·obtain⟨m,F0⟩:=hz.I.fr
    refine kat_sorted F0 AH pl (by omega) (by omega) fun D e1 h' F' N' hlt=>?_
    have nD:=N' (D,seqObj "list" #[] e1) List.mem_cons_self
    have hD:s.heap.get? D=none:=by
     cases e:s.heap.get? D with
     |none=>rfl
     |some o=>exact absurd (hlt (D,o) (ny nD.2.1 nD.2.2 e)) (Nat.lt_irrefl _)
    have kp:∀(h'':Heap) (x:Addr×Obj) (F:Fr X.base X.env.locals h'' m) (N:News X.base X.env.locals h'' (x::mc X.base s.heap X.env.locals)),∀b o,b≠X.env.locals->s.heap.get? b=some o->h''.get? b=some o:=fun h'' x F N b o hb e=>by
     cases z:X.base.get? b with
     |some v=>
      have y:=hz.I.bk b v z
      rw[e] at y;cases y
      exact F.keep b _ z
     |none=>exact (N (b,o) (List.mem_cons_of_mem _ (ny hb z e))).1
    have kept:=kp h' _ F' N'
    obtain⟨fs,k1,k2,k3⟩:=ky.tups (fun a items h=>wE hz h) kept
    refine kat_kind (s:={ s with heap:=h' }) k1 (by omega) (T:=.type "int") (fun v hv=>?_) (by decide) ?_
    ·obtain⟨i,t,rfl⟩:=k3 v hv
     exact Looks.of_pure rfl
    ·refine AL (n:=its.length) (P:=OfN its.length) (fun i j=>qe (ks.getD i []) (ks.getD j [])) (fun i j C hi hj hC=>?_) (qR (by omega)) (fun hpm=>?_)
     ·obtain⟨a,vs,g1,g2,r1⟩:=ky.get hi
      obtain⟨a',vs',g1',g2',r1'⟩:=ky.get hj
      have nl1:=wE hz g2
      have nl2:=wE hz g2'
      obtain⟨o,eo,ec,n1,ed⟩:=g2
      obtain⟨o',eo',ec',n1',ed'⟩:=g2'
      show wpAny (model X.prog X.w) X.A.in1.in1 (keyLt' (tuples' (Value.type "int" != Value.type "tuple")) (its.getD i Value.none) (its.getD j Value.none)) C (fun _ _=>False) _
      rw[g1,g1',show (Value.type "int" != Value.type "tuple")=true by decide]
      refine kat_lt (kept _ _ nl1 eo) ed (kept _ _ nl2 eo') ed' (Cv r1 r1' ?_)
      rw[List.size_toArray,List.size_toArray,r1.length,r1'.length]
      exact hC
     ·have eo:lW ks=(dE (fun i j=>qe (ks.getD i []) (ks.getD j [])) (kas_sort its.length)).toList:=by
       unfold lW
       rw[if_neg (by omega),hk]
      generalize hpme:dE (fun i j=>qe (ks.getD i []) (ks.getD j [])) (kas_sort its.length)=pm at hpm eo ⊢
      have hmem:∀i∈pm.toList,i<its.length:=fun i hi=>List.mem_range.mp (hpm.subset hi)
      refine KasFin.intro F' N' (.head fun _ z=>?_) fun h'' c F'' N''=>?_
      ·exact Nat.ne_of_lt (hlt _ z)
      ·have kept2:=kp h'' _ F'' N''
       have g:=Z.ok.led hz F0 F'' kept2
       rw[eo]
       refine⟨g,D,rfl,hD,hz.free hD,_,c,(N'' (D,_) List.mem_cons_self).1,?_,((AA ds hmem).mono (wl hD)).mono g.2.kpD⟩
       have:=hpm.length_eq
       rw[List.length_map,this,List.length_range]
       exact zl
  ·cases q
 ·cases q
noncomputable def iq:List PV->Option RV
 |[p]=>(items p).bind fun ps=>(dG ps).bind fun is=>if is.length<64 then some (.nw ((oH is).map PV.int)) else none
 |_=>none
theorem DU:fF X (.builtin "sorted") iq:=fun z s ps us r E hz d q=>by
 unfold iq at q
 split at q
 ·obtain⟨ts,e1,q⟩:=Option.bind_eq_some_iff.mp q
  obtain⟨is,e2,q⟩:=Option.bind_eq_some_iff.mp q
  split at q
  ·next h64=>
   cases q
   obtain⟨u,rfl,du⟩:=d.one
   obtain⟨a,its,rfl,_,zl,ds,h⟩:=D1.items du.1 e1
   have hi:=su ds e2
   have hl:=hi.length
   have main:∀(T:String) (o:Obj) (n:Nat),(T = "list"\/T = "tuple")->s.heap.get? a=some o->o.cls=.type T->o.data=.seq its.toArray n->W X (call (.builtin "sorted") [.ref a]) (Z.post z s (.nw ((oH is).map PV.int))) E s:=fun T o n hT ho hc hd=>by
    refine wI hT ho hc hd hi (by omega) fun h1 h' D out js e k1 k2 hD hh hi hp hu=>?_
    rw[sW hp hu] at hi
    have g:=hz.kept (t:=s.toks) fun b u e=>k2 b u (k1 b u e)
    have nn:s.heap.get? D=none:=by
     cases q:s.heap.get? D with
     |none=>rfl
     |some o=>exact absurd (Heap.lt_size (k1 _ _ q)) (Nat.not_lt.mpr hD)
    refine⟨g,D,rfl,nn,hz.free nn,out,e,hh,?_,xP hi⟩
    rw[hi.length,(mT is).length_eq,sizeLine_eq];omega
   rcases h with ⟨o,ho,hc,n,hd⟩|⟨n,e⟩
   ·exact main "tuple" o n (.inr rfl) ho hc hd
   ·exact main "list" _ n (.inl rfl) e rfl rfl
  ·cases q
 ·cases q
end
end Dp
end
section
namespace Dp
open PySem PySem.Spec L2 PyProof.Rows
inductive Out where
 |nx (ρ:aj)|bk (ρ:aj)|ct (ρ:aj)|rt (p:PV) (ρ:aj)|rn (ps:List PV) (ρ:aj)|bad
noncomputable abbrev FS:=aj->Out
structure Stp (bad:Addr->Prop)(H H':Hp)(h h':Heap):Prop where
 kp:∀a o,¬bad a->H a=none->h.get? a=some o->h'.get? a=some o/\H' a=none
 th:∀a o,h.get? a=some o->∃o',h'.get? a=some o'
section
variable {X:Cx}{z:Z X}{s s' s1 s2:Shared}{h h' h1 h2:Heap}{bad:Addr->Prop}{H H1 H2:Hp}
theorem Ext.stp (e:Ext bad h h'):Stp bad H H h h':=⟨fun a o n q g=>⟨e.kp a o n g,q⟩,e.th⟩
theorem Stp.trans (a:Stp bad H H1 h h1)(b:Stp bad H1 H2 h1 h2):Stp bad H H2 h h2:=
 ⟨fun x o n q g=>b.kp x o n (a.kp x o n q g).2 (a.kp x o n q g).1,fun x o g=>let ⟨o',q⟩:=a.th x o g;b.th x o' q⟩
theorem Stp.kpD (e:Stp bad H H1 h h'):Kp (bg X bad H) (bg X bad H1) h h':=⟨rfl,rfl,rfl,fun a o q g=>⟨⟨(e.kp a o q.2 q.1 g).2,q.2⟩,(e.kp a o q.2 q.1 g).1⟩⟩
noncomputable abbrev Z.wi (z:Z X)(σ:L2.St)(H:Hp)(ρ:aj):Z X:=⟨z.bad,z.pins,σ,H,ρ⟩
noncomputable def Z.to (z:Z X)(s:Shared)(ρ:aj)(s':Shared):Prop:=∃σ' H',(z.wi σ' H' ρ).ok s'/\Stp z.bad z.H H' s.heap s'.heap
theorem Z.go.to (g:z.go s s'):z.to s z.ρ s':=⟨z.σ,z.H,g.1,g.2.stp⟩
noncomputable def Z.sp (z:Z X)(s:Shared)(o:Out)(fl:Flow)(s':Shared):Prop:=match o with
 |.nx ρ=>fl=.next/\z.to s ρ s'
 |.bk ρ=>fl=.brk/\z.to s ρ s'
 |.ct ρ=>fl=.cont/\z.to s ρ s'
 |.rt p ρ=>∃u σ' H',fl=.ret u/\(z.wi σ' H' ρ).ok s'/\Stp z.bad z.H H' s.heap s'.heap/\D (bg X z.bad H') s'.heap p u
 |.rn ps ρ=>∃a σ' H',fl=.ret (.ref a)/\(z.wi σ' H' ρ).ok s'/\Stp z.bad z.H H' s.heap s'.heap/\X.s₀.heap.get? a=none/\¬z.bad a/\ListAt (bg X z.bad (gf H' a ay)) s'.heap a ps
 |.bad=>False
noncomputable def NS (X:Cx)(st:Stmt)(f:FS):Prop:=∀(z:Z X) s E,z.ok s->f z.ρ≠.bad->W X (exec st X.env) (Z.sp z s (f z.ρ)) E s
noncomputable def zY (X:Cx)(st:List Stmt)(f:FS):Prop:=∀(z:Z X) s E,z.ok s->f z.ρ≠.bad->W X (execs st X.env) (Z.sp z s (f z.ρ)) E s
theorem Z.sp.back {o:Out}{fl:Flow}{σ1:L2.St}{H1:Hp}{ρ1:aj}(t:Stp z.bad z.H H1 s.heap s1.heap)(h:(z.wi σ1 H1 ρ1).sp s1 o fl s'):z.sp s o fl s':=by
 cases o with
 |nx ρ=>obtain⟨e,σ',H',a,b⟩:=h;exact⟨e,σ',H',a,t.trans b⟩
 |bk ρ=>obtain⟨e,σ',H',a,b⟩:=h;exact⟨e,σ',H',a,t.trans b⟩
 |ct ρ=>obtain⟨e,σ',H',a,b⟩:=h;exact⟨e,σ',H',a,t.trans b⟩
 |rt p ρ=>obtain⟨u,σ',H',e,a,b,c⟩:=h;exact⟨u,σ',H',e,a,t.trans b,c⟩
 |rn p ρ=>obtain⟨u,σ',H',e,a,b,c⟩:=h;exact⟨u,σ',H',e,a,t.trans b,c⟩
 |bad=>exact h
theorem Z.sp.back0 {o:Out}{fl:Flow}(g:z.go s s1)(h:Z.sp z s1 o fl s'):z.sp s o fl s':=Z.sp.back (σ1:=z.σ) (H1:=z.H) (ρ1:=z.ρ) g.2.stp h
end
section
variable {X:Cx}{st:Stmt}{jc:List Stmt}{f g:FS}{e:Expr}{fe:FE}{pos:Pos}
noncomputable def bu:FS:=fun ρ=>.nx ρ
noncomputable def bZ:FS:=fun _=>.bad
noncomputable def MY:FS:=fun ρ=>.bk ρ
noncomputable def M2:FS:=fun ρ=>.ct ρ
noncomputable def ai (s u:FS):FS:=fun ρ=>match s ρ with
 |.nx ρ'=>u ρ'
 |o=>o
theorem cg:NS X st bZ:=fun z s E _ h=>absurd rfl h
theorem Ih:zY X [] bu:=fun z s E hz _=>wpAny_execs_nil ⟨rfl,hz.refl.to⟩
theorem H0 (h1:NS X st f):zY X [st] f:=fun z s E hz hb=>by
 refine wpAny_execs_cons (aB (h1 z s E hz hb) fun fl s1 q=>?_)
 generalize f z.ρ=o at hb q
 cases o with
 |nx ρ=>obtain⟨e,q⟩:=q;subst e;exact wpAny_execs_nil ⟨rfl,q⟩
 |bk ρ=>obtain⟨e,q⟩:=q;subst e;exact⟨rfl,q⟩
 |ct ρ=>obtain⟨e,q⟩:=q;subst e;exact⟨rfl,q⟩
 |rt p ρ=>obtain⟨u,σ',H',e,q⟩:=q;subst e;exact⟨u,σ',H',rfl,q⟩
 |rn p ρ=>obtain⟨u,σ',H',e,q⟩:=q;subst e;exact⟨u,σ',H',rfl,q⟩
 |bad=>exact absurd rfl hb
theorem EV (h1:NS X st f)(h2:zY X jc g):zY X (st::jc) (ai f g):=fun z s E hz hb=>by
 unfold ai at hb ⊢
 have hb1:f z.ρ≠.bad:=fun q=>by rw[q] at hb;exact hb rfl
 refine wpAny_execs_cons (aB (h1 z s E hz hb1) fun fl s1 q=>?_)
 generalize f z.ρ=o at hb q hb1
 cases o with
 |nx ρ=>
  obtain⟨e,σ',H',ok,t⟩:=q
  subst e
  exact aB (h2 (z.wi σ' H' ρ) s1 E ok hb) fun fl s2 q2=>q2.back t
 |bk ρ=>obtain⟨e,q⟩:=q;subst e;exact⟨rfl,q⟩
 |ct ρ=>obtain⟨e,q⟩:=q;subst e;exact⟨rfl,q⟩
 |rt p ρ=>obtain⟨u,σ',H',e,q⟩:=q;subst e;exact⟨u,σ',H',rfl,q⟩
 |rn p ρ=>obtain⟨u,σ',H',e,q⟩:=q;subst e;exact⟨u,σ',H',rfl,q⟩
 |bad=>exact absurd rfl hb1
theorem HZ:NS X (.Pass pos) bu:=fun z s E hz _=>wpAny_Pass ⟨rfl,hz.refl.to⟩
theorem D2:NS X (.Break pos) MY:=fun z s E hz _=>wpAny_Break ⟨rfl,hz.refl.to⟩
theorem wx:NS X (.Continue pos) M2:=fun z s E hz _=>wpAny_Continue ⟨rfl,hz.refl.to⟩
theorem KW {x j pos'}:NS X (.Expr (.Constant (.str x) j pos) pos') bu:=fun z s E hz _=>wpAny_Expr (Calls.Constant_str (show Z.sp z s _ .next { s with toks:=s.toks+1 } from⟨rfl,(hz.tok _).to⟩)) hz.I.quiet
noncomputable def wZ (o:Option RV)(ρ:aj):Out:=match o with
 |some (.fz _)=>.nx ρ
 |_=>.bad
noncomputable def i6 (f:FE):FS:=fun ρ=>wZ (f ρ) ρ
theorem oF (h:NE X e fe)(hs:swapsWith e none pos.line X.env=pure false):NS X (.Expr e pos) (i6 fe):=fun z s E hz hb=>by
 unfold i6 wZ at hb ⊢
 split at hb
 ·next p er=>exact wpAny_Expr_any (aB (h z s _ E hz er) fun v s1 q=>⟨rfl,q.1.to⟩) hz.I.quiet hs
 ·exact absurd rfl hb
noncomputable def BY (o:Option RV)(ρ:aj):Out:=match o with
 |some (.fz p)=>.rt p ρ
 |some (.nw ps)=>.rn ps ρ
 |_=>.bad
noncomputable def bz (f:FE):FS:=fun ρ=>BY (f ρ) ρ
theorem iB {z:Z X}{s:Shared}(hz:z.ok s){a:Addr}(n:s.heap.get? a=none):X.s₀.heap.get? a=none:=by
 cases q:X.s₀.heap.get? a with
 |none=>rfl
 |some o=>
  by_cases hx:a∈X.ex
  ·obtain⟨o',r⟩:=hz.there a (hz.ex a hx);rw[n] at r;cases r
  ·obtain⟨o',r⟩:=hz.I.base.there a o q hx;rw[n] at r;cases r
theorem FD (h:NE X e fe):NS X (.Return (some e) pos) (bz fe):=fun z s E hz hb=>by
 unfold bz BY at hb ⊢
 split at hb
 ·next p er=>exact wpAny_Return_some (aB (h z s _ E hz er) fun v s1 q=>⟨v,z.σ,z.H,rfl,q.1.1,q.1.2.stp,q.2⟩)
 ·next ps er=>exact wpAny_Return_some (aB (h z s _ E hz er) fun v s1 q=>by
   obtain⟨g,a,rfl,n,o,l⟩:=q
   exact⟨a,z.σ,z.H,rfl,g.1,g.2.stp,iB hz n,o.2,l⟩)
 ·exact absurd rfl hb
noncomputable def uO (o:Option Sl)(ρ:aj):Out:=match o with
 |some (.val p)=>.rt p ρ
 |some (.own ps)=>.rn ps ρ
 |_=>.bad
noncomputable def lZ (i:Nat):FS:=fun ρ=>uO (sl ρ i) ρ
theorem po {H:Hp}{a:Addr}{o:HO}(h:H a=some o):gf H a o=H:=by
 funext b;unfold gf;split
 ·next e=>rw[e,h]
 ·rfl
theorem GF {i:Nat}{x:Str}{p:Pos}(hN:X.N[i]?=some x)(hv:rL X.env.scope x)(hd:(x==("__debug__" : Str))=false)(hcd:(x==("__classdict__" : Str))=false)(hl:X.H₀=fun _=>none):NS X (.Return (some (.Name x p)) pos) (lZ i):=fun z s E hz hb=>by
 unfold lZ uO at hb ⊢
 split at hb
 ·next q eq=>exact wpAny_Return_some (aB (J6 hN hv hd hcd z s _ E hz (show fV i z.ρ=some (.fz q) by unfold fV;rw[eq];rfl)) fun v s1 w=>⟨v,z.σ,z.H,rfl,w.1.1,w.1.2.stp,w.2⟩)
 ·next ps eq=>
  have:=J6 (pos:=p) hN hv hd hcd z s (.ln (.lst ps)) (fun _ _=>True) hz (show fV i z.ρ=_ by unfold fV;rw[eq];rfl)
  obtain⟨v,e1,⟨u0,r0⟩,d⟩:=hz.slk i _ (hV eq)
  obtain⟨a,rfl,ha,l⟩:=d
  obtain⟨m,hn,hlk⟩:=hz.I.loc
  obtain⟨u,r,lk⟩:=hlk i x (.ref a) hN e1 hv
  cases (show u=Value.ref a from r)
  have nb:=hz.nb i a ⟨⟨_,hV eq,rfl⟩,e1⟩
  have fin:Z.sp z s (.rn ps z.ρ) (.ret (.ref a)) s:=⟨a,z.σ,z.H,rfl,hz,Ext.refl.stp,(nb.2.resolve_right fun q=>q (by rw[hl])),nb.1,(by rw[po ha];exact l)⟩
  refine wpAny_Return_some (wpAny_Name ?_ hd)
  rcases lk with ⟨hk,hm⟩|⟨hk,c,hc,hcell⟩
  ·exact wpAny_loadName_local hz.I.ok.kind hk hn hm fin
  ·rcases hk with hk|hk
   ·exact wpAny_loadName_cell hz.I.ok.kind hk hc hcell fin
   ·exact wpAny_loadName_free hz.I.ok.kind hk hc hcell fin hcd
 ·exact absurd rfl hb
noncomputable def Km (o:Option Bool)(s u:FS)(ρ:aj):Out:=match o with
 |some true=>s ρ
 |some false=>u ρ
 |none=>.bad
noncomputable def jZ (g:FB)(s u:FS):FS:=fun ρ=>Km (g ρ) s u ρ
theorem Mg {c:Expr}{a b:List Stmt}{fc:FB}(hc:NB X c fc)(ha:zY X a f)(hb:zY X b g):NS X (.If c a b pos) (jZ fc f g):=fun z s E hz hn=>by
 unfold jZ Km at hn ⊢
 split at hn
 ·next ek=>
  refine wpAny_If (aB (hc z s _ E hz ek) fun d s1 ⟨e,g1⟩=>?_)
  subst e
  exact aB (ha z s1 E g1.1 hn) fun fl s2 q=>q.back0 g1
 ·next ek=>
  refine wpAny_If (aB (hc z s _ E hz ek) fun d s1 ⟨e,g1⟩=>?_)
  subst e
  exact aB (hb z s1 E g1.1 hn) fun fl s2 q=>q.back0 g1
 ·exact absurd rfl hn
end
inductive PR where
 |v (p:PV)|n (ps:List PV)
noncomputable abbrev Fn:=List PV->Option PR
noncomputable def Gx (n:Nat)(ps:List PV):aj:=ps.map (fun p=>some (Sl.val p))++List.replicate (n - ps.length) none
noncomputable def Out.res:Out->Option PR
 |.nx _=>some (.v .non)
 |.rt p _=>some (.v p)
 |.rn ps _=>some (.n ps)
 |_=>none
noncomputable def run (a n:Nat)(s:FS)(qs:List PV):Option PR:=if qs.length=a then (s (Gx n qs)).res else none
structure Rm (k:Nat)(A:Around):Prop where
 dp:A.depth+3 * k+5<recursionLimit
 un:A.units+16 * k+200<cLine
theorem Rm.mono {j k:Nat}{A:Around}(r:Rm k A)(h:j≤k):Rm j A:=⟨by have:=r.dp;omega,by have:=r.un;omega⟩
theorem Rm.deeper {k:Nat}{A:Around}(r:Rm (k+1) A)(env:Env):Rm k (A.deeper env):=
 ⟨by have:=r.dp;show A.depth+1+3 * k+5<_;omega,by have:=r.un;show A.units+3+16 * k+200<_;omega⟩
theorem Rm.depth {k:Nat}{A:Around}(r:Rm k A):A.depth<recursionLimit:=by have:=r.dp;omega
theorem Rm.units {k:Nat}{A:Around}(r:Rm k A):A.units+64<cLine:=by have:=r.un;omega
noncomputable abbrev h0:Hp:=fun _=>none
noncomputable def Fin (P:Program)(w:World)(mg:Str->Option Value)(outer:List Env)(bad:Addr->Prop)(s:Shared)(r:PR)(res:Result)(s':Shared):Prop:=
 ∃u,res=.ok (.ret u)/\s'.os=s.os/\AllBare s'.gens/\Un (oT outer) [] h0 h0 s.heap s'.heap/\match r with
  |.v p=>D ⟨jV bad h0,P,w,mg⟩ s'.heap p u
  |.n ps=>∃a,u=.ref a/\s.heap.get? a=none/\ListAt ⟨jV bad (gf h0 a ay),P,w,mg⟩ s'.heap a ps
structure NF (P:Program)(w:World)(K:PySem.W.Frag)(mg:Str->Option Value)(base:Heap)(cm:Bool)(k:Nat)(f:Addr)(fd:FuncData)(ps:List Str)(F:Fn):Prop where
 len:∀qs r,F qs=some r->qs.length=ps.length
 run:∀(A:Around) (outer:List Env) (s:Shared) (args:Args) (us:List Value) (qs:List PV) (r:PR) (bad:Addr->Prop),(cm=true->A.handled=none)->Rm k A->Env0 P w K mg base A outer s h0->BindsTo s fd args (ps.zip us) →
  (∀b∈oT outer,bad b)->(∀b,bad b->∃o,s.heap.get? b=some o)->(∀b o,base.get? b=some o->¬bad b)->Ds ⟨jV bad h0,P,w,mg⟩ s.heap qs us->F qs=some r->codeAny (model P w) A (.call (.ref f) args) (Fin P w mg outer bad s r) s
theorem NF.mono {P:Program}{w:World}{K:PySem.W.Frag}{mg:Str->Option Value}{base:Heap}{cm:Bool}{j k:Nat}{f:Addr}{fd:FuncData}{ps:List Str}{F:Fn}(n:NF P w K mg base cm j f fd ps F)(h:j≤k):NF P w K mg base cm k f fd ps F:=
 ⟨n.len,fun A outer s args us qs r bad hc hr=>n.run A outer s args us qs r bad hc (hr.mono h)⟩
noncomputable def Ii (P:Program)(w:World)(K:PySem.W.Frag)(mg:Str->Option Value)(base:Heap)(cm:Bool)(N:List Str)(qual:Str)(scope:Scope)(f:Addr)(cd:Value)(A:Around)(outer:List Env)(s:Shared)(H:Hp):Cx where
 prog:=P
 w:=w
 K:=K
 mg:=mg
 base:=base
 A:=A.deeper (envOfC qual scope s.heap.objs.size f cd)
 N:=N
 s₀:=s
 H₀:=H
 env:=envOfC qual scope s.heap.objs.size f cd
 outer:=outer
 stack:=envOfC qual scope s.heap.objs.size f cd::outer
 ex:=[]
 calm:=cm
 fn:=fun _=>true
 pn:=[]
 xe:=fun _ _=>False
theorem wd {P:Program}{w:World}{K:PySem.W.Frag}{mg:Str->Option Value}{base:Heap}{cm:Bool}{N ps:List Str}{qual:Str}{scope:Scope}{f:Addr}{cd:Value}{A:Around}{outer:List Env}{s s1:Shared}{H:Hp}{us:List Value}{vs:List V}
  (S:FnScope N ps scope) (hd:cm=true->A.handled=none) (e0:Env0 P w K mg base A outer s H) (hl:vs.length=ps.length) (r:Vals vs us)
  (x:InCallC s s.heap.objs.size (bindL (envOfC qual scope s.heap.objs.size f cd).kindOf (ps.zip us) fun _=>none) (cellsFrom (s.heap.objs.size+1) scope.names []) (bindC (envOfC qual scope s.heap.objs.size f cd).kindOf (ps.zip us) fun _=>none) s1) :
  Inv (Ii P w K mg base cm N qual scope f cd A outer s H) [] (L2.iI N vs) H s1:=by
 have hpl:ps.length≤N.length:=by have:=congrArg List.length S.pre;rw[List.length_take] at this;omega
 obtain⟨h1,tk,rfl,hk⟩:=x.done
 have noA:∀b:Addr,b∉(Ii P w K mg base cm N qual scope f cd A outer s H).ex:=fun b z=>absurd (show b∈([]:List Addr) from z) (by simp)
 refine⟨⟨e0.mod,S.kind,rfl,rfl,Nat.le_refl _,fun y z c h1 h2=>?_,fun y hy=>?_,fun y c _ h=>?_,hd,Around.frames_deeper e0.frames,.inr ⟨rfl,rfl⟩,fun b z=>absurd z (noA b),e0.bs,e0.bsz,fun b _ _=>noA b,fun b z=>absurd z (noA b),e0.funs,e0.frf⟩,
  rfl,e0.bare,Un.kept hk,⟨_,x.toInCall.ns,fun i y v h1 h2 h3=>?_⟩,fun y c h=>⟨_,x.cell y c h⟩,e0.hok.fresh (Nat.le_refl _),fun y c h=>?_,fun p hp=>absurd (show p∈([]:List (Addr×Obj)) from hp) (by simp),e0.hok.kept hk,?_⟩
 ·exact name_of_addr x.apart (PySem.mem_of_lookup h1) (PySem.mem_of_lookup h2)
 ·have hy:scope.names.lookup y=some .cell\/scope.names.lookup y=some .free:=hy
  rcases hy with hy|hy
  ·exact tQ hy
  ·exact absurd rfl (S.nofree _ (PySem.mem_of_lookup hy))
 ·exact Nat.le_of_lt (x.above y c (PySem.mem_of_lookup h))
 ·have hi:i<vs.length:=by
   unfold L2.iI at h2
   by_cases hi:i<vs.length
   ·exact hi
   ·rw[List.getElem?_append_right (by simpa using hi)] at h2
    rw[List.getElem?_replicate] at h2
    split at h2<;>cases h2
  have ha:vs[i]?=some v:=by
   unfold L2.iI at h2
   rw[List.getElem?_append_left (by simpa using hi),List.getElem?_map] at h2
   cases e:vs[i]? with
   |none=>rw[e] at h2;cases h2
   |some a=>rw[e] at h2;cases h2;rfl
  obtain⟨u,hu,rv⟩:=r.get ha
  have hp:ps[i]?=some y:=by
   rw[←S.pre,List.getElem?_take_of_lt (by omega)];exact h1
  have ndP:ps.Nodup:=by rw[←S.pre];exact S.nd.sublist (List.take_sublist _ _)
  refine⟨u,rv,?_⟩
  rcases S.par y (List.mem_of_getElem? hp) with k|k
  ·exact .inl ⟨k,q9 ndP hp hu k⟩
  ·obtain⟨c,e⟩:=tQ (n:=s.heap.objs.size+1) k
   refine .inr ⟨.inl k,c,e,?_⟩
   have q:=x.cell y c e
   rw[ro ndP hp hu (by show scope.names.lookup y≠_;rw[k];decide)] at q
   exact q
 ·exact e0.hok.fresh (Nat.le_of_lt (x.above y c (PySem.mem_of_lookup h)))
 ·unfold L2.iI
  show _=N.length
  rw[List.length_append,List.length_map,List.length_replicate]
  omega
theorem CT {v:V}{a:Addr}(r:iQ v (.ref a)):v=.ref a:=by
 cases v with
 |ref b=>cases (show Value.ref a=Value.ref b from r);rfl
 |non=>cases (show Value.ref a=Value.none from r)
 |bl b=>cases (show Value.ref a=Value.bool b from r)
 |ty b=>cases (show Value.ref a=Value.type b from r)
 |_=>obtain⟨_,e⟩:=r;cases e
noncomputable def Out.res2:Out->Option (PR×aj)
 |.nx ρ=>some (.v .non,ρ)
 |.rt p ρ=>some (.v p,ρ)
 |.rn ps ρ=>some (.n ps,ρ)
 |_=>none
noncomputable def zf (n:Nat)(ts:List Sl):aj:=ts.map some++List.replicate (n - ts.length) none
noncomputable def Ent (c:Cn)(H:Hp)(h:Heap):List Sl->List Value->Prop
 |[],us=>us=[]
 |t::ts,us=>∃u r,us=u::r/\(match t with
  |.val p=>D c h p u
  |t=>∃a,u=.ref a/\SlOk c H h t (.ref a))/\Ent c H h ts r
theorem Ent.vs {c:Cn}{H:Hp}{h:Heap}:∀{ts:List Sl} {us:List Value},Ent c H h ts us->∃vs,Vals vs us/\vs.length=ts.length/\∀(i:Nat) t v,ts[i]?=some t->vs[i]?=some v->(∃u,iQ v u)/\SlOk c H h t v
 |[],us,e=>⟨[],by rw[show us=[] from e];exact .nil,rfl,fun i t v e=>by simp at e⟩
 |t::ts,us,⟨u,r,e,d,en⟩=>by
  obtain⟨vs,rv,hl,hd⟩:=Ent.vs en
  have one:∃v,iQ v u/\SlOk c H h t v:=by
   cases t with
   |val p=>obtain⟨v,ru,k⟩:=D1.v d;exact⟨v,ru,k⟩
   |own ps=>obtain⟨a,rfl,k⟩:=d;exact⟨.ref a,rfl,k⟩
   |dic ks ps=>obtain⟨a,rfl,k⟩:=d;exact⟨.ref a,rfl,k⟩
  obtain⟨v,ru,k⟩:=one
  subst e
  refine⟨v::vs,.cons ru rv,by simp[hl],fun i t' v' e1 e2=>?_⟩
  cases i with
  |zero=>cases e1;cases e2;exact⟨⟨u,ru⟩,k⟩
  |succ i=>exact hd i t' v' (by simpa using e1) (by simpa using e2)
theorem wR {n:Nat}{ts:List Sl}{i:Nat}{t:Sl}(e:(zf n ts)[i]?=some (some t)):ts[i]?=some t:=by
 unfold zf at e
 by_cases hi:i<ts.length
 ·rw[List.getElem?_append_left (by simpa using hi),List.getElem?_map] at e
  cases w:ts[i]? with
  |none=>rw[w] at e;cases e
  |some p=>rw[w] at e;cases e;rfl
 ·rw[List.getElem?_append_right (by simpa using hi),List.getElem?_replicate] at e
  split at e<;>cases e
theorem xo {P:Program}{w:World}{K:PySem.W.Frag}{mg:Str->Option Value}{base:Heap}{cm:Bool}{f:Addr}{name qual:Str}{params:Arguments}{body:List Stmt}{scope:Scope}{dV kV doc pm cdv ct oc:Value}{an od:Option Addr}
  {osl:Array (Option Value)} {N ps:List Str} {g:FS} (lk:K.lookup f=some ⟨oc,od,.func (PySem.W.fnOf name qual params body scope dV kV doc pm an cdv ct),osl⟩) (hcd:PySem.W.codeIn K cdv qual=true) (S:FnScope N ps scope)
  {A:Around} {outer:List Env} {s:Shared} {args:Args} {us:List Value} {ts:List Sl} {bad:Addr->Prop} {H:Hp} (hc:cm=true->A.handled=none) (hr:A.depth<recursionLimit) (e0:Env0 P w K mg base A outer s H) (hb:BindsTo s (PySem.W.fnOf name qual params body scope dV kV doc pm an cdv ct) args (ps.zip us))
  (hfr:∀b∈oT outer,bad b) (hth:∀b,bad b->∃o,s.heap.get? b=some o) (hbs:∀b o,base.get? b=some o->¬bad b) (hl:ts.length=ps.length) (en:Ent ⟨jV bad H,P,w,mg⟩ H s.heap ts us)
  (ho:∀(i:Nat) t,ts[i]?=some t->cV t=true->i=0) (hH:∀b o,H b=some o->o=ay/\¬bad b/\us[0]?=some (.ref b)/\∃ob,s.heap.get? b=some ob/\ob.cls≠.type "tuple")
  (hbody:zY (Ii P w K mg base cm N qual scope f cdv A outer s H) body g) {pr:PR} {ρ':aj} (hres:(g (zf N.length ts)).res2=some (pr,ρ')) {R:Result->Shared->Prop}
  (hR:∀(bad':Addr->Prop) σ' H' u s',(∀b,bad b->bad' b)->(⟨bad',[],σ',H',ρ'⟩:Z (Ii P w K mg base cm N qual scope f cdv A outer s H)).ok s'->(match pr with
   |.v p=>D ⟨jV bad' H',P,w,mg⟩ s'.heap p u
   |.n ps=>∃a,u=.ref a/\s.heap.get? a=none/\ListAt ⟨jV bad' (gf H' a ay),P,w,mg⟩ s'.heap a ps)->R (.ok (.ret u)) s'):codeAny (model P w) A (.call (.ref f) args) R s:=by
 obtain⟨vs,rv,hv,dv⟩:=en.vs
 have KX:K.In s.heap:=e0.mod.kin.keeps fun b o e=>(e0.bs b o e).1
 have lim:s.heap.NoLimit:=e0.mod.nolimit.keeps fun b o e=>(e0.bs b o e).1
 have hkind:∀y∈ps.zip us,scope.names.lookup y.1=some .local\/(scope.names.lookup y.1=some .cell/\((cellsFrom (s.heap.objs.size+1) scope.names []).lookup y.1).isSome=true):=fun ⟨n,v⟩ hy=>by
  rcases S.par n (List.of_mem_zip hy).1 with q|q
  ·exact .inl q
  ·exact .inr ⟨q,PySem.W.cellsFrom_some _ _ _ (.inl q)⟩
 refine codeAny_call_function hr (KX _ _ lk) rfl S.co S.gen rfl (PySem.W.codeRec_of KX hcd) (hb _ _ _ _ ?_)
 refine wpAny_newFunctionEnv_cells S.kind hkind fun env he s1 x=>?_
 subst he
 refine⟨lim.keeps x.toInCall.keep,codeAny_func ?_⟩
 have I:=wd (cm:=cm) (f:=f) (cd:=cdv) (qual:=qual) S hc e0 (by rw[hv,hl]) rv x
 let X:=Ii P w K mg base cm N qual scope f cdv A outer s H
 obtain⟨h1,tk,es1,hk⟩:=x.done
 let bad':Addr->Prop:=fun a=>bad a\/s.heap.get? a=none/\∃o,s1.heap.get? a=some o
 have npl:ps.length≤N.length:=by have:=congrArg List.length S.pre;rw[List.length_take] at this;omega
 let z:Z X:=⟨bad',[],L2.iI N vs,H,zf N.length ts⟩
 have own0':∀{i a},bU (L2.iI N vs) (zf N.length ts) i a->i=0/\H a=some ay:=fun {i a} ⟨⟨t,e,o⟩,q⟩=>by
  have e1:=wR e
  have h0:=ho i t e1 o
  have hi:i<vs.length:=by rw[hv];exact (List.getElem?_eq_some_iff.mp e1).1
  obtain⟨_,d⟩:=dv i t vs[i] e1 (List.getElem?_eq_getElem hi)
  unfold L2.iI at q
  rw[List.getElem?_append_left (by simpa using hi),List.getElem?_map,List.getElem?_eq_getElem hi] at q
  have q':vs[i]=.ref a:=Option.some.inj (Option.some.inj q)
  rw[q'] at d
  cases t with
  |val p=>cases o
  |own ps=>obtain⟨b,e,r,_⟩:=d;cases e;exact⟨h0,r⟩
  |dic ks ps=>obtain⟨b,e,r,_⟩:=d;cases e;exact⟨h0,r⟩
 have nH:∀b o,H b=some o->¬bad' b:=fun b o e y=>y.elim (hH b o e).2.1 fun y=>by
  obtain⟨_,_,_,ob,q,_⟩:=hH b o e
  rw[y.1] at q;cases q
 have kp:Kp ⟨jV bad H,P,w,mg⟩ (bg X bad' H) s.heap s1.heap:=⟨rfl,rfl,rfl,fun a o q e=>by
  rw[es1]
  exact⟨⟨q.1,fun w=>w.elim q.2 fun w=>by rw[w.1] at e;cases e⟩,hk a o e⟩⟩
 have hz:z.ok s1:=by
  refine⟨I,?_,fun i t e=>?_,fun i j a o1 o2=>(own0' o1).1.trans (own0' o2).1.symm,fun i a o=>⟨nH a _ (own0' o).2,.inr fun y=>?_⟩,fun b o e=>(hH b o e).1,fun b o e=>(hH b o e).1,?_,fun y c e=>?_,fun b hb=>(Or.inl (hfr b hb):bad b\/_),fun b hb=>absurd (show b∈([]:List Addr) from hb) (by simp),fun b hb=>?_,fun b o e hb=>?_,fun a o e=>⟨nH a o e,?_⟩,fun _ a e=>?_⟩
  ·show (L2.iI N vs).length=(zf N.length ts).length
   unfold L2.iI zf;simp only[List.length_append,List.length_map,List.length_replicate];omega
  ·have ep:=wR e
   have hiv:i<vs.length:=by rw[hv];exact (List.getElem?_eq_some_iff.mp ep).1
   obtain⟨r1,r2⟩:=dv i t vs[i] ep (List.getElem?_eq_getElem hiv)
   refine⟨vs[i],?_,r1,SlOk.mono (c:=⟨jV bad H,P,w,mg⟩) (c':=bg X bad' H) kp (fun a o _ e=>by rw[es1];exact hk a o e) r2⟩
   show (L2.iI N vs)[i]?=_
   unfold L2.iI
   rw[List.getElem?_append_left (by simpa using hiv),List.getElem?_map,List.getElem?_eq_getElem hiv];rfl
  ·have y':H a=none:=y
   rw[(own0' o).2] at y';cases y'
  ·refine Or.inr ⟨Heap.get?_none_of_le (Nat.le_refl _),?_⟩
   obtain⟨o,_,_,e,_⟩:=x.toInCall.ns
   exact⟨o,e⟩
  ·refine Or.inr ⟨Heap.get?_none_of_le (Nat.le_of_lt (x.above y c (PySem.mem_of_lookup e))),?_⟩
   obtain⟨o,e,_⟩:=x.cell y c e
   exact⟨o,e⟩
  ·rcases hb with hb|hb
   ·obtain⟨o,e⟩:=hth b hb
    exact⟨o,by rw[es1];exact hk b o e⟩
   ·exact hb.2
  ·rcases hb with hb|hb
   ·exact hbs b o e hb
   ·have e':base.get? b=some o:=e
    rw[(e0.bs b o e').1] at hb;cases hb.1
  ·obtain⟨_,_,_,ob,q1,q2⟩:=hH a o e
   exact⟨ob,by rw[es1];exact hk a ob q1,q2⟩
  ·have e':H a≠none:=e
   cases q:H a with
   |none=>exact absurd q e'
   |some o=>
    obtain⟨_,_,q0,_⟩:=hH a o q
    obtain⟨u,ru,hu⟩:∃v,vs[0]?=some v/\v=.ref a:=by
     have:=rv.length
     cases rv with
     |nil=>simp at q0
     |cons r rr=>
      simp at q0;subst q0
      refine⟨_,rfl,?_⟩
      exact CT r
    subst hu
    show (L2.iI N vs)[0]?=_
    have hi:0<vs.length:=(List.getElem?_eq_some_iff.mp ru).1
    unfold L2.iI
    rw[List.getElem?_append_left (by simpa using hi),List.getElem?_map,ru];rfl
 have hnb:g z.ρ≠.bad:=fun q'=>by
  rw[show g (zf N.length ts)=.bad from q'] at hres;cases hres
 refine wpAny_mono (hbody z s1 (fun _ _=>False) hz hnb) (fun fl s' hs=>?_) fun e s' hs=>hs.elim
 have hs:z.sp s1 (g (zf N.length ts)) fl s':=hs
 generalize g (zf N.length ts)=o at hs hres
 cases o with
 |nx ρ=>cases hres;obtain⟨e,σ',H',ok,t⟩:=hs;subst e;exact hR bad' σ' H' .none s' (fun b=>.inl) ok rfl
 |rt p ρ=>cases hres;obtain⟨u,σ',H',e,ok,t,d⟩:=hs;subst e;exact hR bad' σ' H' u s' (fun b=>.inl) ok d
 |rn ps' ρ=>cases hres;obtain⟨a,σ',H',e,ok,t,n,nb,l⟩:=hs;subst e;exact hR bad' σ' H' _ s' (fun b=>.inl) ok ⟨a,rfl,n,l⟩
 |bk ρ=>cases hres
 |ct ρ=>cases hres
 |bad=>cases hres
theorem pZ {c:Cn}{H:Hp}{h:Heap}:∀{qs:List PV} {us:List Value},Ds c h qs us->Ent c H h (qs.map Sl.val) us
 |[],_,e=>e
 |_::_,_,⟨u,r,e,d,t⟩=>⟨u,r,e,d,pZ t⟩
theorem EX {n:Nat}{qs:List PV}:Gx n qs=zf n (qs.map Sl.val):=by unfold Gx zf;rw[List.map_map,List.length_map];rfl
theorem C9 {o:Out}{r:PR}(h:o.res=some r):∃ρ,o.res2=some (r,ρ):=by
 cases o<;>cases h<;>exact⟨_,rfl⟩
theorem KD {P:Program}{w:World}{K:PySem.W.Frag}{mg:Str->Option Value}{base:Heap}{cm:Bool}{k:Nat}{f:Addr}{name qual:Str}{params:Arguments}{body:List Stmt}{scope:Scope}{dV kV doc pm cdv ct oc:Value}{an od:Option Addr}
  {osl:Array (Option Value)} {N ps:List Str} {g:FS} (lk:K.lookup f=some ⟨oc,od,.func (PySem.W.fnOf name qual params body scope dV kV doc pm an cdv ct),osl⟩) (hcd:PySem.W.codeIn K cdv qual=true) (S:FnScope N ps scope)
  (hbody:∀(A:Around) (outer:List Env) (s:Shared),(cm=true->A.handled=none)->Rm k (A.deeper (envOfC qual scope s.heap.objs.size f cdv))->zY (Ii P w K mg base cm N qual scope f cdv A outer s h0) body g) :
  NF P w K mg base cm (k+1) f (PySem.W.fnOf name qual params body scope dV kV doc pm an cdv ct) ps (run ps.length N.length g):=by
 refine⟨fun qs r q=>?_,fun A outer s args us qs r bad hc hr e0 hb hfr hth hbs ds q=>?_⟩
 ·unfold run at q;split at q
  ·assumption
  ·cases q
 ·unfold run at q
  split at q
  ·next hl=>
   obtain⟨ρ',q2⟩:=C9 q
   rw[EX] at q2
   refine xo (H:=h0) (ts:=qs.map .val) lk hcd S hc hr.depth e0 hb hfr hth hbs (by rw[List.length_map];exact hl) (pZ ds) (fun i t e o=>?_) (fun b o e=>by cases e) (hbody A outer s hc (hr.deeper _)) q2 fun bad' σ' H' u s' hb' ok d=>?_
   ·rw[List.getElem?_map] at e
    obtain⟨p,_,rfl⟩:=Option.map_eq_some_iff.mp e
    cases o
   ·have b:=ok.I.base
    refine⟨u,rfl,ok.I.os,ok.I.bare,⟨b.keep,b.slot,fun b o _ n _=>rfl,b.there,fun b xs e=>(by cases e),fun b o u e=>(by cases e),fun b ps e=>(by cases e)⟩,?_⟩
    cases r with
    |v p=>exact D1.m (c:=⟨jV bad' H',P,w,mg⟩) (c':=⟨jV bad h0,P,w,mg⟩) d ⟨rfl,rfl,rfl,fun a o q e=>⟨⟨rfl,fun w=>q.2 (hb' a w)⟩,e⟩⟩
    |n ps'=>
     obtain⟨a,rfl,n,l⟩:=d
     refine⟨a,rfl,n,ListAt.mono (c:=⟨jV bad' (gf H' a ay),P,w,mg⟩) (c':=⟨jV bad (gf h0 a ay),P,w,mg⟩) ⟨rfl,rfl,rfl,fun b o q e=>⟨⟨?_,fun w=>q.2 (hb' b w)⟩,e⟩⟩ (fun _ e=>e) l⟩
     have q1:=q.1
     by_cases hb:b=a
     ·subst hb;rw[bL] at q1;cases q1
     ·rw[aA hb]
  ·cases q
end Dp
end
section
namespace Dp
open PySem PySem.Spec L2 PyProof.Rows
section
variable {X:Cx}{e:Expr}{es:List Expr}{fs:FA}{pos:Pos}
mutual
noncomputable def tf:PV->Bool
 |.tup ps=>Dz ps
 |p=>jg p
noncomputable def Dz:List PV->Bool
 |[]=>true
 |p::ps=>tf p&&Dz ps
end
noncomputable def MA:PR->Bool
 |.v p=>tf p
 |.n ps=>Dz ps
noncomputable def sj:PR->RV
 |.v p=>.fz p
 |.n ps=>.nw ps
noncomputable def o9 (F:Fn)(o:Option (List PV))(rs:List RV):Option RV:=match o with
 |some ps=>(F ps).map sj
 |none=>(F (rs.map RV.pv)).bind fun r=>if MA r=true then some (sj r) else none
noncomputable def av (F:Fn)(fs:FA):FE:=fun ρ=>(fs ρ).bind fun rs=>o9 F (rs.mapM RV.fr) rs
noncomputable def Cd (F:Fn):FE:=fun _=>(F []).map sj
theorem L3 {H:Hp}{fs:List Addr}{h h':Heap}(u:Un fs [] h0 h0 h h')(ho:∀b o,H b=some o->o=ay):Un fs [] H H h h':=
 ⟨fun b o e _ f x=>u.keep b o e rfl f x,fun b o e _ f x=>u.slot b o e rfl f x,fun _ _ _ n _=>n,u.there,fun _ _ e=>e,fun _ _ _ e=>e,fun b ps e=>⟨#[],by rw[e];simp⟩⟩
theorem Gg {P:Program}{w:World}{mg:Str->Option Value}{ok:Addr->Prop}{ok':Addr->Prop}{h:Heap}(k:∀a o,ok a->h.get? a=some o->o.cls=.type "tuple"->ok' a):(∀{p:PV} {u:Value},tf p=true->D ⟨ok,P,w,mg⟩ h p u->D ⟨ok',P,w,mg⟩ h p u)/\∀{ps:List PV} {us:List Value},Dz ps=true->Ds ⟨ok,P,w,mg⟩ h ps us->Ds ⟨ok',P,w,mg⟩ h ps us:=by
 have a:(∀(p:PV),∀{u:Value},tf p=true->D ⟨ok,P,w,mg⟩ h p u->D ⟨ok',P,w,mg⟩ h p u):=fun p=>by
  induction p using PV.rec (motive_2:=fun ps=>∀{us:List Value},Dz ps=true->Ds ⟨ok,P,w,mg⟩ h ps us->Ds ⟨ok',P,w,mg⟩ h ps us) with
  |tup ps ih=>
   intro u t d
   obtain⟨a,its,rfl,o,⟨ob,e,c,r⟩,l,ds⟩:=d
   exact⟨a,its,rfl,k a ob o e c,⟨ob,e,c,r⟩,l,ih t ds⟩
  |nil=>assumption
  |cons p ps ihp ihs=>
   rename_i us t d
   obtain⟨u,r,e,d1,d2⟩:=d
   rw[Dz,Bool.and_eq_true] at t
   exact⟨u,r,e,ihp t.1 d1,ihs t.2 d2⟩
  |non=>intro u _ d;exact d
  |bl=>intro u _ d;exact d
  |int=>intro u _ d;exact d
  |str=>intro u _ d;exact d
  |ty=>intro u _ d;exact d
  |fn=>intro u _ d;exact d
  |_=>intro u t;cases t
 refine⟨fun {p u} t d=>a p t d,fun {ps}=>?_⟩
 induction ps with
 |nil=>intro us _ d;exact d
 |cons p ps ih=>
  intro us t d
  obtain⟨u,r,e,d1,d2⟩:=d
  rw[Dz,Bool.and_eq_true] at t
  exact⟨u,r,e,a p t.1 d1,ih t.2 d2⟩
theorem Z.ok.after {z:Z X}{s s':Shared}(hz:z.ok s)(os:s'.os=s.os)(g:AllBare s'.gens)(u:Un (oT X.stack) [] h0 h0 s.heap s'.heap):z.go s s':=by
 have hfr:∀b∈oT X.stack,z.bad b:=fun b hb=>by
  rcases List.mem_cons.mp (hz.I.stkSub b hb) with e|e
  ·rw[e];exact hz.loc
  ·exact hz.fs b e
 have hok:HOk X.prog X.w z.H s'.heap:=fun b o e=>by
  have e2:=hz.oh b o e
  subst e2
  obtain⟨ob,q⟩:=hz.stands e
  obtain⟨o',q'⟩:=u.there b ob q (by simp)
  exact⟨trivial,⟨o',q'⟩,fun _ _ _ _=>trivial⟩
 exact Z.ok.ext hz (hz.I.call' os (L3 u hz.oh) hok g (fun b z=>absurd z (by simp))) ⟨fun a o n e=>u.keep a o e rfl (fun q=>n (hfr a q)) (by simp),fun a o e=>u.there a o e (by simp)⟩
theorem Ak {cm:Bool}{k:Nat}{f:Addr}{fd:FuncData}{ps:List Str}{F:Fn}(n:NF X.prog X.w X.K X.mg X.base cm k f fd ps F)(hc:cm=true->X.calm=true)(hr:Rm k X.A)(hb:Binds X.K fd ps []){z:Z X}{s:Shared}(hz:z.ok s){bad:Addr->Prop}(hbd:∀a,z.bad a->bad a)(hbd2:∀a,bad a->z.bad a\/z.H a≠none){us:List Value}{qs:List PV}{r:PR}
  (ds:Ds ⟨jV bad h0,X.prog,X.w,X.mg⟩ s.heap qs us) (q:F qs=some r) {Q:Value->Shared->Prop} {E:Value->Shared->Prop} (h:∀u s',z.go s s'->(match r with
  |.v p=>D ⟨jV bad h0,X.prog,X.w,X.mg⟩ s'.heap p u
  |.n ps=>∃a,u=.ref a/\s.heap.get? a=none/\ListAt ⟨jV bad (gf h0 a ay),X.prog,X.w,X.mg⟩ s'.heap a ps)->Q u s'):W X (call (.ref f) us) Q E s:=by
 have e0:=hz.I.env0
 have e1:Env0 X.prog X.w X.K X.mg X.base X.A X.stack s h0:=⟨e0.frames,e0.mod,fun b o e=>⟨(e0.bs b o e).1,rfl⟩,e0.bsz,e0.funs,fun _ _=>rfl,(fun b o e=>by cases e),e0.bare⟩
 have hl:(us++[]).length=ps.length:=by rw[List.append_nil,ds.length];exact n.len _ _ q
 have hfr:∀b∈oT X.stack,z.bad b:=fun b hb=>by
  rcases List.mem_cons.mp (hz.I.stkSub b hb) with e|e
  ·rw[e];exact hz.loc
  ·exact hz.fs b e
 refine wpAny_call (codeAny_mono (n.run X.A X.stack s ⟨us,[]⟩ us qs r bad (fun c=>hz.I.ok.hd (hc c)) hr e1 (by have:=hb s us hz.I.kIn hl;rwa [List.append_nil] at this) (fun b q=>hbd b (hfr b q)) (fun b q=>?_) (fun b o e q=>?_) ds q) fun res s' hq=>?_)
 ·rcases hbd2 b q with w|w
  ·exact hz.there b w
  ·cases e:z.H b with
   |none=>exact absurd e w
   |some o=>exact hz.stands e
 ·rcases hbd2 b q with w|w
  ·exact hz.bs b o e w
  ·exact w (hz.I.bs b o e).2
 ·obtain⟨u,rfl,os,bare,un,w⟩:=hq
  exact h u s' (Z.ok.after hz os bare un) w
theorem vU {cm:Bool}{k:Nat}{f:Addr}{fd:FuncData}{ps:List Str}{F:Fn}(n:NF X.prog X.w X.K X.mg X.base cm k f fd ps F)(hc:cm=true->X.calm=true)(hr:Rm k X.A)(hb:Binds X.K fd ps []){z:Z X}{s:Shared}{h00:Heap}(hz:z.ok s){us:List Value}{rs:List RV}{r:RV}{E:Value->Shared->Prop}(ds:RvsOk z h00 s.heap rs us)(q:o9 F (rs.mapM RV.fr) rs=some r):W X (call (.ref f) us) (Z.post z s r) E s:=by
 cases em:rs.mapM RV.fr with
 |some qs=>
  rw[em] at q
  obtain⟨pr,e,rfl⟩:=Option.map_eq_some_iff.mp q
  refine Ak n hc hr hb hz (bad:=fun a=>z.bad a\/z.H a≠none) (fun a h=>.inl h) (fun a h=>h) (Ds.mono (c:=z.cn) (c':=⟨jV (fun a=>z.bad a\/z.H a≠none) h0,X.prog,X.w,X.mg⟩) ⟨rfl,rfl,rfl,fun a o q e=>⟨⟨rfl,fun w=>w.elim q.2 fun w=>w q.1⟩,e⟩⟩ (ds.fr em)) e fun u s' g d=>⟨g,?_⟩
  have ok:∀{a:Addr},¬(z.bad a\/z.H a≠none)->jV z.bad z.H a:=fun {a} w=>⟨by
   cases e:z.H a with
   |none=>rfl
   |some o=>exact absurd (.inr (by rw[e];simp)) w,fun b=>w (.inl b)⟩
  cases pr with
  |v p=>exact D1.m (c:=⟨jV (fun a=>z.bad a\/z.H a≠none) h0,X.prog,X.w,X.mg⟩) (c':=z.cn) d ⟨rfl,rfl,rfl,fun a o q e=>⟨ok q.2,e⟩⟩
  |n ps=>
   obtain⟨a,rfl,n,l⟩:=d
   refine⟨a,rfl,n,hz.free n,ListAt.mono (c:=⟨jV (fun a=>z.bad a\/z.H a≠none) (gf h0 a ay),X.prog,X.w,X.mg⟩) (c':=bg X z.bad (gf z.H a ay)) ⟨rfl,rfl,rfl,fun b o q e=>⟨⟨?_,(ok q.2).2⟩,e⟩⟩ (fun _ e=>e) l⟩
   have q1:=q.1
   by_cases hb:b=a
   ·subst hb;rw[bL] at q1;cases q1
   ·rw[aA hb];exact (ok q.2).1
 |none=>
  rw[em] at q
  obtain⟨pr,e,q⟩:=Option.bind_eq_some_iff.mp q
  split at q
  ·next ht=>
   cases q
   have dd:Ds ⟨jV z.bad h0,X.prog,X.w,X.mg⟩ s.heap (rs.map RV.pv) us:=by
    clear em e q
    induction ds with
    |nil=>rfl
    |cons d _ ih=>
     refine .cons ?_ ih
     have v:=d.rv
     cases hl:G6 (RV.pv _) with
     |false=>exact D1.m (c:=z.cn) (c':=⟨jV z.bad h0,X.prog,X.w,X.mg⟩) (v.fz hl) ⟨rfl,rfl,rfl,fun a o q e=>⟨⟨rfl,q.2⟩,e⟩⟩
     |true=>
      refine D1.mono (top:=fun a=>¬z.bad a) (c:=z.cn) (c':=⟨jV z.bad h0,X.prog,X.w,X.mg⟩) ⟨rfl,rfl,rfl,fun a o q e=>⟨⟨rfl,q.2⟩,e⟩⟩ (fun a o q e=>⟨⟨rfl,q⟩,e⟩) ?_
      generalize RV.pv _=p at v hl
      cases p with
      |lst ps=>obtain⟨a,its,n,e1,_,r⟩:=v.rd;exact⟨a,its,n,e1,v.nb rfl a e1,r⟩
      |dct ks ps=>obtain⟨a,its,e1,_,r⟩:=v.rd;exact⟨a,its,e1,v.nb rfl a e1,r⟩
      |_=>cases hl
   refine Ak n hc hr hb hz (bad:=z.bad) (fun a h=>h) (fun a h=>.inl h) dd e fun u s' g d=>⟨g,?_⟩
   have ok:∀a o,¬z.bad a->s'.heap.get? a=some o->o.cls=.type "tuple"->z.H a=none:=fun a o w e c=>by
    cases q:z.H a with
    |none=>rfl
    |some o'=>
     obtain⟨ob,r1,r2⟩:=(g.1.ot a o' q).2
     rw[e] at r1;cases r1
     exact absurd c r2
   cases pr with
   |v p=>exact (Gg fun a o q e c=>⟨ok a o q.2 e c,q.2⟩).1 ht d
   |n ps=>
    obtain⟨a,rfl,n,its,m,e1,l,t⟩:=d
    refine⟨a,rfl,n,hz.free n,its,m,e1,l,(Gg fun b o q e c=>⟨?_,q.2⟩).2 ht t⟩
    have q1:=q.1
    by_cases hb:b=a
    ·subst hb;rw[bL] at q1;cases q1
    ·rw[aA hb];exact ok b o q.2 e c
  ·cases q
structure DefN (P:Program)(w:World)(K:PySem.W.Frag)(mg:Str->Option Value)(base:Heap)(cm:Bool)(k:Nat)(x:Str)(F:Fn):Prop where
 ex:∃f fd ps,NF P w K mg base cm k f fd ps F/\Binds K fd ps []/\PySem.W.keepIn K (.ref f)=true/\mg x=some (.ref f)
theorem HJ {cm:Bool}{k j:Nat}{x:Str}{p:Pos}{F:Fn}(n:DefN X.prog X.w X.K X.mg X.base cm j x F)(hj:j≤k)(hc:cm=true->X.calm=true)(hr:Rm k X.A)(hg:Gl X x)(ha:NA X (e::es) fs)(hdb:(x==("__debug__" : Str))=false)
  (he:starEach (e::es) X.env=(false,eval e X.env)::starEach es X.env) (hpl:(backTo pos (starEach es X.env)).any (·.1)=false):NE X (.Call (.Name x p) (e::es) [] pos) (av F fs):=fun z s r E hz q=>by
 obtain⟨f,fd,ps,n,hb,hk,hm⟩:=n.ex
 obtain⟨rs,er,q⟩:=Option.bind_eq_some_iff.mp q
 refine wpAny_Call_Name_kw (oe hz.I hg hm ?_ hdb)
 refine PySem.W.callWith_K (h₀:=X.base) hz.I.ok.mod.kin hk (aB (ha z pos s rs E hz er) fun us s1 ⟨g1,d1⟩=>⟨g1.1.I.kIn,?_⟩) he hpl
 exact aB (vU (n.mono hj) hc hr hb g1.1 d1 q) fun u s2 q2=>g1.post q2
theorem Eu {cm:Bool}{k j:Nat}{x:Str}{p:Pos}{F:Fn}(n:DefN X.prog X.w X.K X.mg X.base cm j x F)(hj:j≤k)(hc:cm=true->X.calm=true)(hr:Rm k X.A)(hg:Gl X x)(hdb:(x==("__debug__" : Str))=false):NE X (.Call (.Name x p) [] [] pos) (Cd F):=fun z s r E hz q=>by
 obtain⟨f,fd,ps,n,hb,hk,hm⟩:=n.ex
 obtain⟨pr,er,rfl⟩:=Option.map_eq_some_iff.mp q
 refine wpAny_Call_Name_kw (oe hz.I hg hm ?_ hdb)
 exact PySem.W.callWith_K0 hz.I.kIn hk (vU (rs:=[]) (h00:=s.heap) (us:=[]) (n.mono hj) hc hr hb hz .nil (show (F []).map sj=_ by rw[er];rfl))
structure Nm (X:Cx)(i:Nat)(x:Str):Prop where
 nd:X.N.Nodup
 ix:X.N[i]?=some x
 loc:Nf X.env.scope x
 fn:X.fn x=true\/X.env.scope.names.lookup x=some .local
 an:X.fn "" = true->(∃a,X.H₀ a≠none)->i≠0
theorem kK {σ:L2.St}{ρ:aj}{i j:Nat}{a:Addr}{v:V}{p:PV}(o:bU (σ.set i (some v)) (ρ.set i (some (.val p))) j a):bU σ ρ j a:=by
 obtain⟨⟨t,e,ot⟩,q⟩:=o
 by_cases hj:i=j
 ·subst hj
  rw[List.getElem?_set] at e
  simp only[if_true] at e
  split at e
  ·cases e;cases ot
  ·cases e
 ·rw[List.getElem?_set_ne hj] at e q
  exact⟨⟨t,e,ot⟩,q⟩
noncomputable def Z.tv (z:Z X)(s:Shared)(ρ:aj)(s':Shared):Prop:=∃σ',(z.wi σ' z.H ρ).ok s'/\Ext z.bad s.heap s'.heap
theorem Z.tv.to {z:Z X}{s s':Shared}{ρ:aj}:z.tv s ρ s'->z.to s ρ s'
 |⟨σ',ok,e⟩=>⟨σ',z.H,ok,e.stp⟩
theorem Z.ok.stored {z:Z X}{s s':Shared}(hz:z.ok s){i:Nat}(an:X.fn "" = true->(∃a,X.H₀ a≠none)->i≠0){p:PV}{u:Value}{v:V}(hi:i<z.σ.length)(d:D z.cn s.heap p u)(ru:iQ v u)(rv:∀u',iQ v u'->D z.cn s.heap p u')(I':Inv X z.pins (z.σ.set i (some v)) z.H s')(e:Ext z.bad s.heap s'.heap):z.tv s (z.ρ.set i (some (.val p))) s':=by
 have hi2:i<z.ρ.length:=by rw[←hz.len];exact hi
 refine⟨z.σ.set i (some v),⟨I',by simp[hz.len],fun j t q=>?_,fun j k a o1 o2=>hz.dj j k a (kK o1) (kK o2),fun j a o=>hz.nb j a (kK o),hz.oh,hz.oh0,hz.loc,hz.cel,hz.fs,hz.ex,fun b q=>let ⟨o,r⟩:=hz.there b q;e.th b o r,hz.bs,fun a o q=>⟨(hz.ot a o q).1,let ⟨ob,r1,r2⟩:=(hz.ot a o q).2;⟨ob,e.kp a ob (hz.ot a o q).1 r1,r2⟩⟩,fun hf a ha=>(List.getElem?_set_ne (an hf ⟨a,ha⟩)).trans (hz.anc hf a ha)⟩,e⟩
 by_cases hj:i=j
 ·subst hj
  have q:(z.ρ.set i (some (.val p)))[i]?=some (some t):=q
  rw[List.getElem?_set_self hi2] at q
  cases q
  exact⟨v,List.getElem?_set_self hi,⟨u,ru⟩,fun u' r=>(rv u' r).m e.kpD⟩
 ·have q:(z.ρ.set i (some (.val p)))[j]?=some (some t):=q
  rw[List.getElem?_set_ne hj] at q
  obtain⟨w,e1,r,d⟩:=hz.slk j t q
  exact⟨w,by rw[show (z.wi (z.σ.set i (some v)) z.H (z.ρ.set i (some (.val p)))).σ=z.σ.set i (some v) from rfl,List.getElem?_set_ne hj];exact e1,r,d.step hz e q e1⟩
theorem lN {z:Z X}{s s':Shared}{x:Str}{a:Addr}(hz:z.ok s){σ':L2.St}{H':Hp}(I':Inv X z.pins σ' H' s')(sb:Heap.SameBut a s.heap s'.heap)(ha:a=X.env.locals\/X.env.cells.lookup x=some a):Ext z.bad s.heap s'.heap:=by
 have hb:z.bad a:=by
  rcases ha with e|e
  ·rw[e];exact hz.loc
  ·exact hz.cel x a e
 refine⟨fun b o n e=>(sb.2 b (fun q=>n (q▸hb))).trans e,fun b o e=>?_⟩
 by_cases hba:b=a
 ·subst hba
  rcases ha with q|q
  ·obtain⟨m,⟨o',_,_,e',_⟩,_⟩:=I'.loc;exact⟨o',by rw[q];exact e'⟩
  ·obtain⟨v,o',e',_⟩:=I'.cell x b q;exact⟨o',e'⟩
 ·exact⟨o,(sb.2 b hba).trans e⟩
theorem ib {z:Z X}{s:Shared}(hz:z.ok s){i:Nat}{x:Str}(nm:Nm X i x){p:PV}{u:Value}(d:D z.cn s.heap p u){E:Value->Shared->Prop} :
  W X (storeName X.env x u) (fun _ s'=>z.tv s (z.ρ.set i (some (.val p))) s') E s:=by
 obtain⟨v,ru,rv⟩:=d.v
 refine kG hz.I nm.nd nm.ix nm.loc ru (fun s' I' ⟨a,sb,ha⟩=>?_) nm.fn
 exact Z.ok.stored hz nm.an (by rw[hz.I.len];exact (List.getElem?_eq_some_iff.mp nm.ix).1) d ru rv I' (lN hz I' sb ha)
theorem Inv.track {pins:List (Addr×Obj)}{σ:L2.St}{H:Hp}{s:Shared}{a:Addr}{ob:Obj}(I:Inv X pins σ H s)(hn:H a=none)(ho:s.heap.get? a=some ob)(h00:X.s₀.heap.get? a=none)(hL:a≠X.env.locals)(hC:∀x c,X.env.cells.lookup x=some c->c≠a)(hp:∀p∈X.pn++pins,p.1≠a):Inv X pins σ (gf H a ay) s:=by
 have ne:∀b o,H b=some o->b≠a:=fun b o e z=>by subst z;rw[hn] at e;cases e
 refine⟨I.ok,I.os,I.bare,⟨I.base.keep,I.base.slot,fun b o e n hx=>?_,I.base.there,fun b xs e=>?_,fun b o u e=>?_,fun b ps e=>?_⟩,I.loc,I.cell,?_,fun x c e=>?_,fun p q=>?_,fun b o e=>?_,I.len⟩
 ·rw[aA (fun z=>by subst z;rw[h00] at e;cases e)];exact I.base.free b o e n hx
 ·have:=I.base.tups b xs e;rw[aA (ne b _ this)];exact this
 ·have:=I.base.frzs b o u e;rw[aA (ne b _ this)];exact this
 ·obtain⟨m,this⟩:=I.base.tbls b ps e;exact⟨m,by rw[aA (ne b _ this)];exact this⟩
 ·rw[aA (Ne.symm hL)];exact I.free
 ·rw[aA (hC x c e)];exact I.freeC x c e
 ·obtain⟨q1,q2,q3⟩:=I.pin p q;exact⟨q1,by rw[aA (hp p q)];exact q2,q3⟩
 ·by_cases hb:b=a
  ·subst hb;rw[bL] at e;cases e;exact⟨trivial,⟨ob,ho⟩,fun _ _ _ _=>trivial⟩
  ·rw[aA hb] at e
   exact (I.hok b o e).stay (fun _ _ _ q=>q) (fun c q=>by rw[aA (ne c _ q)];exact q) fun c xs q=>by rw[aA (ne c _ q)];exact q
noncomputable def wg (H:Hp)(a:Addr):Hp:=fun b=>if b=a then none else H b
theorem mf {H:Hp}{a:Addr}:wg H a a=none:=by unfold wg;rw[if_pos rfl]
theorem jb {H:Hp}{a b:Addr}(h:b≠a):wg H a b=H b:=by unfold wg;rw[if_neg h]
theorem jB {H:Hp}{a b:Addr}(h:H b=none):wg H a b=none:=by unfold wg;split<;>trivial
theorem Inv.untrack {pins:List (Addr×Obj)}{σ:L2.St}{H:Hp}{s:Shared}{a:Addr}(I:Inv X pins σ H s)(ha:H a=some ay):Inv X pins σ (wg H a) s:=by
 have ne:∀b o,H b=some o->o≠ay->b≠a:=fun b o e n z=>by subst z;rw[ha] at e;cases e;exact n rfl
 refine⟨I.ok,I.os,I.bare,⟨I.base.keep,I.base.slot,fun b o e n hx=>jB (I.base.free b o e n hx),I.base.there,fun b xs e=>?_,fun b o u e=>?_,fun b ps e=>?_⟩,I.loc,I.cell,jB I.free,fun x c e=>jB (I.freeC x c e),fun p q=>?_,fun b o e=>?_,I.len⟩
 ·have:=I.base.tups b xs e;rw[jb (ne b _ this fun q=>nomatch q)];exact this
 ·have:=I.base.frzs b o u e;rw[jb (ne b _ this fun q=>nomatch q)];exact this
 ·obtain⟨m,this⟩:=I.base.tbls b ps e;exact⟨m,by rw[jb (ne b _ this fun q=>nomatch q)];exact this⟩
 ·obtain⟨q1,q2,q3⟩:=I.pin p q;exact⟨q1,jB q2,q3⟩
 ·by_cases hb:b=a
  ·subst hb;rw[mf] at e;cases e
  ·rw[jb hb] at e
   exact (I.hok b o e).stay (fun _ _ _ q=>q) (fun c q=>by rw[jb (ne c _ q fun q=>nomatch q)];exact q) fun c xs q=>by rw[jb (ne c _ q fun q=>nomatch q)];exact q
theorem qZ {z:Z X}{s1:Shared}(hz:z.ok s1){i:Nat}{x:Str}(nm:Nm X i x){t:Sl}(ht:cV t=true){a:Addr}(fr:jV z.bad z.H a)(h00:X.s₀.heap.get? a=none)(hp:∀p∈X.pn++z.pins,p.1≠a)
  (nt:∃ob,s1.heap.get? a=some ob/\ob.cls≠.type "tuple") (d:SlOk (bg X z.bad (gf z.H a ay)) (gf z.H a ay) s1.heap t (.ref a)) (sk:∀(j:Nat) t v,z.ρ[j]?=some (some t)->z.σ[j]?=some (some v)->SlOk (bg X z.bad (gf z.H a ay)) z.H s1.heap t v) {E:Value->Shared->Prop} :
  W X (storeName X.env x (.ref a)) (fun _ s'=>∃σ',(z.wi σ' (gf z.H a ay) (z.ρ.set i (some t))).ok s'/\Ext z.bad s1.heap s'.heap) E s1:=by
 obtain⟨ob,ho,hcl⟩:=nt
 have hnb:=fr.2
 have I1:Inv X z.pins z.σ (gf z.H a ay) s1:=Inv.track hz.I fr.1 ho h00 (fun q=>hnb (q▸hz.loc)) (fun y c e q=>hnb (q▸hz.cel y c e)) hp
 refine kG I1 nm.nd nm.ix nm.loc (v:=.ref a) rfl (fun s' I' ⟨b,sb,hb⟩=>?_) nm.fn
 have e:Ext z.bad s1.heap s'.heap:=lN (z:=z) hz I' sb hb
 have hil:i<z.σ.length:=by rw[hz.I.len];exact (List.getElem?_eq_some_iff.mp nm.ix).1
 have hil2:i<z.ρ.length:=by rw[←hz.len];exact hil
 have hnf:∀j,¬bU z.σ z.ρ j a:=fun j o=>by
  obtain⟨⟨t',e1,ot⟩,q⟩:=o
  obtain⟨v,e2,_,d2⟩:=hz.slk j t' e1
  rw[q] at e2;cases e2
  have:z.H a=some ay:=by
   cases t' with
   |val p=>cases ot
   |own ps=>obtain⟨b,e3,h,_⟩:=d2;cases e3;exact h
   |dic ks ps=>obtain⟨b,e3,h,_⟩:=d2;cases e3;exact h
  rw[fr.1] at this;cases this
 have oset:∀{j b},bU (z.σ.set i (some (.ref a))) (z.ρ.set i (some t)) j b->(j=i/\b=a)\/(j≠i/\bU z.σ z.ρ j b):=fun {j b} o=>by
  obtain⟨⟨t',e1,ot⟩,q⟩:=o
  by_cases hj:i=j
  ·subst hj
   rw[List.getElem?_set_self hil] at q;cases q
   exact .inl ⟨rfl,rfl⟩
  ·rw[List.getElem?_set_ne hj] at e1 q
   exact .inr ⟨Ne.symm hj,⟨t',e1,ot⟩,q⟩
 have hne:∀{b},z.H b=some ay->b≠a:=fun {b} hb y=>by subst y;rw[fr.1] at hb;cases hb
 refine⟨z.σ.set i (some (.ref a)),⟨I',by simp[hz.len],fun j t' q=>?_,fun j k b o1 o2=>?_,fun j b o=>?_,fun b o q=>?_,hz.oh0,hz.loc,hz.cel,hz.fs,hz.ex,fun b q=>let ⟨o,r⟩:=hz.there b q;e.th b o r,hz.bs,fun b o q=>?_,fun hf b hb=>(List.getElem?_set_ne (nm.an hf ⟨b,hb⟩)).trans (hz.anc hf b hb)⟩,e⟩
 ·by_cases hj:i=j
  ·subst hj
   have q:(z.ρ.set i (some t))[i]?=some (some t'):=q
   rw[List.getElem?_set_self hil2] at q
   cases q
   refine⟨.ref a,List.getElem?_set_self hil,⟨.ref a,rfl⟩,?_⟩
   refine SlOk.mono (c:=bg X z.bad (gf z.H a ay)) (c':=bg X z.bad (gf z.H a ay)) e.kpD (fun b o hb w=>?_) d
   by_cases hba:b=a
   ·subst hba;exact e.kp b o hnb w
   ·have hb:gf z.H a ay b=some ay:=hb
    rw[aA hba] at hb;exact e.kp b o (hz.ot b _ hb).1 w
  ·have q:(z.ρ.set i (some t))[j]?=some (some t'):=q
   rw[List.getElem?_set_ne hj] at q
   obtain⟨w,e1,r,_⟩:=hz.slk j t' q
   refine⟨w,by rw[show (z.wi (z.σ.set i (some (.ref a))) (gf z.H a ay) (z.ρ.set i (some t))).σ=z.σ.set i (some (.ref a)) from rfl,List.getElem?_set_ne hj];exact e1,r,?_⟩
   have d:=SlOk.mono (c':=bg X z.bad (gf z.H a ay)) e.kpD (fun b o hb w=>e.kp b o (hz.ot b _ hb).1 w) (sk j t' w q e1)
   cases t' with
   |val p=>exact d
   |own ps=>obtain⟨b,rfl,hb,l⟩:=d;exact⟨b,rfl,(aA (hne hb)).trans hb,l⟩
   |dic ks ps=>obtain⟨b,rfl,hb,l⟩:=d;exact⟨b,rfl,(aA (hne hb)).trans hb,l⟩
 ·rcases oset o1 with ⟨e1,e2⟩|⟨e1,e2⟩<;>rcases oset o2 with ⟨f1,f2⟩|⟨f1,f2⟩
  ·rw[e1,f1]
  ·subst e2;exact absurd f2 (hnf k)
  ·subst f2;exact absurd e2 (hnf j)
  ·exact hz.dj j k b e2 f2
 ·rcases oset o with ⟨e1,e2⟩|⟨e1,e2⟩
  ·subst e2;exact⟨hnb,.inl h00⟩
  ·exact hz.nb j b e2
 ·by_cases hba:b=a
  ·subst hba
   have q:gf z.H b ay b=some o:=q
   rw[bL] at q;cases q;rfl
  ·have q:gf z.H a ay b=some o:=q
   rw[aA hba] at q;exact hz.oh b o q
 ·by_cases hba:b=a
  ·subst hba;exact⟨hnb,ob,e.kp b ob hnb ho,hcl⟩
  ·have q:gf z.H a ay b=some o:=q
   rw[aA hba] at q
   obtain⟨r0,ob',r1,r2⟩:=hz.ot b o q
   exact⟨r0,ob',e.kp b ob' r0 r1,r2⟩
theorem Z.ok.sk {z:Z X}{s:Shared}(hz:z.ok s){bad':Addr->Prop}{h':Heap}{a:Addr}(n:s.heap.get? a=none)(e:Ext z.bad s.heap h')(nb:∀b,bad' b->z.bad b\/s.heap.get? b=none)(j:Nat)(t:Sl)(v:V)(e1:z.ρ[j]?=some (some t))(e2:z.σ[j]?=some (some v)):SlOk (bg X bad' (gf z.H a ay)) z.H h' t v:=by
 obtain⟨w,e3,_,d⟩:=hz.slk j t e1
 rw[e2] at e3;cases e3
 exact SlOk.mono (c:=z.cn) (c':=bg X bad' (gf z.H a ay)) ⟨rfl,rfl,rfl,fun b o q g=>⟨⟨by rw[aA (fun y=>by subst y;rw[n] at g;cases g)];exact q.1,fun y=>(nb b y).elim q.2 fun y=>by rw[y] at g;cases g⟩,e.kp b o q.2 g⟩⟩ (fun b o hb w=>e.kp b o (hz.ot b _ hb).1 w) d
theorem Stp.new {bad:Addr->Prop}{H:Hp}{h h':Heap}{a:Addr}(e:Ext bad h h')(n:h.get? a=none):Stp bad H (gf H a ay) h h':=
 ⟨fun b o nb hn hb=>⟨e.kp b o nb hb,by rw[aA (fun y=>by subst y;rw[n] at hb;cases hb)];exact hn⟩,e.th⟩
theorem CE {z:Z X}{s s1:Shared}(hz:z.ok s)(g:z.go s s1){i:Nat}{x:Str}(nm:Nm X i x){t:Sl}(ht:cV t=true){a:Addr}(n:s.heap.get? a=none)(nt:∃ob,s1.heap.get? a=some ob/\ob.cls≠.type "tuple")(d:SlOk (bg X z.bad (gf z.H a ay)) (gf z.H a ay) s1.heap t (.ref a)){E:Value->Shared->Prop} :
  W X (storeName X.env x (.ref a)) (fun _ s'=>z.to s (z.ρ.set i (some t)) s') E s1:=
 aB (qZ g.1 nm ht (hz.free n) (iB hz n) (fun p hp q=>by have:=(hz.I.pin p hp).1;rw[q,n] at this;cases this) nt d (hz.sk n g.2 fun b=>.inl)) fun _ s' ⟨σ',ok,e⟩=>⟨σ',_,ok,Stp.new (g.2.trans e) n⟩
end
end Dp
end
section
namespace Dp
open PySem PySem.Spec L2 PyProof.Rows
section
variable {X:Cx}{e:Expr}{f:FE}{es:List Expr}{fs:FA}{pos:Pos}{i:Nat}{x:Str}
noncomputable def EK (o:Option PV)(i:Nat)(ρ:aj):Out:=match o with
 |some p=>.nx (ρ.set i (some (.val p)))
 |none=>.bad
noncomputable def az (i:Nat)(f:FE):FS:=fun ρ=>EK ((f ρ).bind RV.fr) i ρ
theorem Z.go.tv {z:Z X}{s s1 s2:Shared}{ρ:aj}(g:z.go s s1)(h:z.tv s1 ρ s2):z.tv s ρ s2:=let ⟨σ',ok,e⟩:=h;⟨σ',ok,g.2.trans e⟩
theorem Ja {p':Pos}(n:Nm X i x)(h:NE X e f)(hs:swapsWith e (some (.Name x p')) pos.line X.env=pure false):NS X (.Assign [.Name x p'] e pos) (az i f):=fun z s E hz hb=>by
 unfold az EK at hb ⊢
 split at hb
 ·next p ep=>
  obtain⟨r,er,ep⟩:=Option.bind_eq_some_iff.mp ep
  exact wpAny_Assign_Name (aB (h z s r E hz er) fun u s1 q=>aB (ib q.1.1 n (q.2.fr ep)) fun _ s2 w=>⟨rfl,(q.1.tv w).to⟩) hs
 ·exact absurd rfl hb
noncomputable def D5 (o:Option RV)(i:Nat)(ρ:aj):Out:=match o with
 |some (.fz p)=>.nx (ρ.set i (some (.val p)))
 |some (.nw ps)=>.nx (ρ.set i (some (.own ps)))
 |_=>.bad
noncomputable def kb (i:Nat)(f:FE):FS:=fun ρ=>D5 (f ρ) i ρ
theorem lM {h:Heap}{a:Addr}{c:Cn}{ps:List PV}:ListAt c h a ps->∃ob,h.get? a=some ob/\ob.cls≠.type "tuple"
 |⟨its,n,e,_⟩=>⟨_,e,by intro q;exact absurd (Value.type.inj q) (by decide)⟩
theorem Jv {p':Pos}(n:Nm X i x)(h:NE X e f)(hs:swapsWith e (some (.Name x p')) pos.line X.env=pure false):NS X (.Assign [.Name x p'] e pos) (kb i f):=fun z s E hz hb=>by
 unfold kb D5 at hb ⊢
 split at hb
 ·next p er=>exact wpAny_Assign_Name (aB (h z s _ E hz er) fun u s1 q=>aB (ib q.1.1 n q.2) fun _ s2 w=>⟨rfl,(q.1.tv w).to⟩) hs
 ·next ps er=>exact wpAny_Assign_Name (aB (h z s _ E hz er) fun u s1 q=>by
   obtain⟨g,a,rfl,nn,o,l⟩:=q
   exact aB (CE hz g n (t:=.own ps) rfl nn (lM l) ⟨a,rfl,bL,l⟩) fun _ s2 w=>⟨rfl,w⟩) hs
 ·exact absurd rfl hb
noncomputable abbrev FT:=PV->aj->Option aj
noncomputable abbrev ze:=List PV->aj->Option aj
noncomputable def NG (X:Cx)(tg:Expr)(t:FT):Prop:=∀(z:Z X) s p u ρ E,z.ok s->D z.cn s.heap p u->t p z.ρ=some ρ->W X (assign tg X.env u) (fun _ s'=>z.tv s ρ s') E s
noncomputable def Kd (X:Cx)(tgs:List Expr)(t:ze):Prop:=∀(z:Z X) s ps us ρ E,z.ok s->Ds z.cn s.heap ps us->t ps z.ρ=some ρ->W X (assignInOrder ((assignEach tgs X.env).map (·.2)) us) (fun _ s'=>z.tv s ρ s') E s
noncomputable def gN (i:Nat):FT:=fun p ρ=>some (ρ.set i (some (.val p)))
noncomputable def g0:ze:=fun ps ρ=>match ps with
 |[]=>some ρ
 |_=>none
noncomputable def gC (t:FT)(ts:ze):ze:=fun ps ρ=>match ps with
 |p::ps=>(t p ρ).bind fun ρ'=>ts ps ρ'
 |[]=>none
noncomputable def jm (n:Nat)(ts:ze):FT:=fun p ρ=>match p with
 |.tup ps=>if ps.length=n then ts ps ρ else none
 |_=>none
theorem MH (n:Nm X i x):NG X (.Name x pos) (gN i):=fun z s p u ρ E hz d q=>by
 cases q;exact wpAny_assign_Name (ib hz n d)
theorem Z.tv.trans {z:Z X}{s s1 s2:Shared}{ρ1 ρ2:aj}{σ1:L2.St}(e:Ext z.bad s.heap s1.heap)(h:(z.wi σ1 z.H ρ1).tv s1 ρ2 s2):z.tv s ρ2 s2:=let ⟨σ',ok,e'⟩:=h;⟨σ',ok,e.trans e'⟩
theorem Nt:Kd X [] g0:=fun z s ps us ρ E hz d q=>by
 cases ps with
 |nil=>cases q;rw[show us=[] from d];exact assignInOrder_nil ⟨z.σ,hz,.refl⟩
 |cons=>cases q
theorem Nn {t:FT}{ts:ze}(h1:NG X e t)(h2:Kd X es ts)(hs:(assignEach (e::es) X.env).map (·.2)=assign e X.env::(assignEach es X.env).map (·.2)):Kd X (e::es) (gC t ts):=fun z s ps us ρ E hz d q=>by
 cases ps with
 |nil=>cases q
 |cons p ps=>
  obtain⟨u,r,rfl,d1,d2⟩:=d
  obtain⟨ρ1,e1,e2⟩:=Option.bind_eq_some_iff.mp q
  rw[hs]
  refine assignInOrder_cons (aB (h1 z s p u ρ1 E hz d1 e1) fun _ s1 ⟨σ1,ok,x1⟩=>?_)
  exact aB (h2 (z.wi σ1 z.H ρ1) s1 ps r ρ E ok (d2.mono x1.kpD) e2) fun _ s2 w=>Z.tv.trans x1 w
theorem Nx {k n:Nat}{ts:ze}(hc:X.calm=true)(h:Kd X es ts)(hn:(assignEach es X.env).length=n)(hst:(assignEach es X.env).findIdx? (·.1)=none):NG X (.Tuple es k pos) (jm n ts):=fun z s p u ρ E hz d q=>by
 unfold jm at q
 split at q
 ·next ps=>
  split at q
  ·next hl=>
   obtain⟨a,its,rfl,o,ht,zl,ds⟩:=d
   refine assign_Tuple_tuple (hz.I.ok.hd hc) ht (by simp[hn,←hl,ds.length]) hst fun h' hx=>?_
   have g:z.go s { s with heap:=h' }:=hz.kept (t:=s.toks) fun b o e=>hx b o (Nat.ne_of_lt (Heap.lt_size e)) e
   exact aB (h z _ ps its ρ E g.1 (ds.mono g.2.kpD) q) fun _ s2 w=>g.tv w
  ·cases q
 ·cases q
noncomputable def FR (o:Option aj):Out:=match o with
 |some ρ=>.nx ρ
 |none=>.bad
noncomputable def Dy (o:Option PV)(t:FT)(ρ:aj):Out:=match o with
 |some p=>FR (t p ρ)
 |none=>.bad
noncomputable def iU (f:FE)(t:FT):FS:=fun ρ=>Dy ((f ρ).bind RV.fr) t ρ
theorem Lb {tg:Expr}{t:FT}(h:NE X e f)(hg:NG X tg t)(hs:swapsWithSole [tg] e pos.line X.env=pure false)(hw:swappedStores [tg] e X.env=pure none)
  (h1:(assignEach [tg] X.env).map (·.2)=[assign tg X.env]):NS X (.Assign [tg] e pos) (iU f t):=fun z s E hz hb=>by
 unfold iU Dy FR at hb ⊢
 split at hb
 ·next p ep=>
  split at hb
  ·next ρ et=>
   obtain⟨r,er,ep⟩:=Option.bind_eq_some_iff.mp ep
   refine wpAny_Assign_stores (aB (h z s r E hz er) fun u s1 q=>?_) hs hw
   rw[h1]
   exact aB (hg z s1 p u ρ E q.1.1 (q.2.fr ep) et) fun _ s2 w=>⟨rfl,(q.1.tv w).to⟩
  ·exact absurd rfl hb
 ·exact absurd rfl hb
noncomputable def DM (o:Option (List PV))(i j:Nat)(ρ:aj):Out:=match o with
 |some [p,q]=>.nx ((ρ.set i (some (.val p))).set j (some (.val q)))
 |_=>.bad
noncomputable def qh (i j:Nat)(fs:FA):FS:=fun ρ=>DM ((fs ρ).bind fun rs=>rs.mapM RV.fr) i j ρ
theorem Ko {j:Nat}{y:Str}{a b:Expr}{px py pt:Pos}{kt k2 pt2}(hc:X.calm=true)(n1:Nm X i x)(n2:Nm X j y)(hij:i≠j)(hx:X.env.scope.names.lookup x=some .local)(hy:X.env.scope.names.lookup y=some .local)(ha:NA X [a,b] fs)
  (hw:swappedStores [.Tuple [.Name x px,.Name y py] kt pt] (.Tuple [a,b] k2 pt2) X.env=pure (some [x,y]))
  (hs:swapsWithSole [.Tuple [.Name x px,.Name y py] kt pt] (.Tuple [a,b] k2 pt2) pos.line X.env=pure false) :
  NS X (.Assign [.Tuple [.Name x px,.Name y py] kt pt] (.Tuple [a,b] k2 pt2) pos) (qh i j fs):=fun z s E hz hb=>by
 unfold qh DM at hb ⊢
 split at hb
 ·next p q epq=>
  obtain⟨rs,er,epq⟩:=Option.bind_eq_some_iff.mp epq
  rw[exec_Assign_arm]
  refine wpAny_bind (wpAny_standAt ?_)
  rw[hs]
  refine wpAny_bind (wpAny_pure ?_)
  rw[if_neg (by decide)]
  refine wpAny_bind (Tuple_ (aB (ha z _ s rs E hz er) fun us s1 ⟨g1,d1⟩=>?_))
  obtain⟨u1,r1,rfl,dp,u2,r2,rfl,dq,e3⟩:=d1.fr epq
  cases (show r2=[] from e3)
  refine wpAny_newObj_type ?_ (by show 2≤sizeLine;decide)
  have g2:=g1.1.push { cls:=.type "tuple",data:=.seq [u1,u2].toArray } s1.toks
  rw[hw]
  refine wpAny_bind (wpAny_pure ?_)
  show W X (do rule "assign.swapped-stores";let items ←unpackItems (.ref s1.heap.objs.size) 2 none;assignInOrder [fun v=>bindName X.env y v,fun v=>bindName X.env x v] items.reverse;pure Flow.next) _ _ _
  refine wpAny_bind (wpAny_rule (wpAny_bind (unpackItems_tuple (items:=#[u1,u2]) (hz.I.ok.hd hc) (IsTup.new s1.heap _) fun h' hx'=>?_)))
  have g3:z.go _ { s1 with heap:=h' }:=g2.1.kept (t:=s1.toks) fun b o e=>hx' b o (Nat.ne_of_lt (Heap.lt_size e)) e
  have ge:=g2.2.trans g3.2
  show wpAny _ _ (assignInOrder [fun v=>bindName X.env y v,fun v=>bindName X.env x v] [u2,u1] >>= fun _=>pure Flow.next) _ _ _
  refine wpAny_bind (assignInOrder_cons (wpAny_bindName (aB (ib (p:=q) g3.1 n2 (dq.m ge.kpD)) fun _ s2 ⟨σ1,ok1,x1⟩=>?_)))
  refine assignInOrder_cons (wpAny_bindName (aB (ib (p:=p) ok1 n1 (dp.m (ge.trans x1).kpD)) fun _ s3 ⟨σ2,ok2,x2⟩=>assignInOrder_nil (wpAny_pure ?_)))
  refine⟨rfl,σ2,z.H,?_,(g1.2.trans (ge.trans (x1.trans x2))).stp⟩
  have ec:(z.ρ.set i (some (Sl.val p))).set j (some (Sl.val q))=(z.ρ.set j (some (Sl.val q))).set i (some (Sl.val p)):=List.set_comm _ _ hij
  rw[ec]
  exact ok2
 ·exact absurd rfl hb
theorem Z.ok.mut0 {z:Z X}{s s':Shared}(hz:z.ok s){a:Addr}(o:bU z.σ z.ρ i a)(I':Inv X z.pins z.σ z.H s')(k:∀b u,¬z.bad b->b≠a->s.heap.get? b=some u->s'.heap.get? b=some u)(th:∀b u,s.heap.get? b=some u->∃u',s'.heap.get? b=some u'){t:Sl}(ht:cV t=true)(nt:∃ob,s'.heap.get? a=some ob/\ob.cls≠.type "tuple")
  (d:Kp z.cn z.cn s.heap s'.heap->SlOk z.cn z.H s'.heap t (.ref a)):(z.wi z.σ z.H (z.ρ.set i (some t))).ok s'/\Stp z.bad z.H z.H s.heap s'.heap:=by
 obtain⟨⟨t0,e0,o0⟩,q0⟩:=id o
 obtain⟨v,e2,_,d2⟩:=hz.slk i t0 e0
 rw[q0] at e2;cases e2
 have hH:z.H a=some ay:=by
  cases t0 with
  |val p=>cases o0
  |own ps=>obtain⟨b,e3,h,_⟩:=d2;cases e3;exact h
  |dic ks ps=>obtain⟨b,e3,h,_⟩:=d2;cases e3;exact h
 obtain⟨ob,hob,hcl⟩:=nt
 have hil:i<z.ρ.length:=(List.getElem?_eq_some_iff.mp e0).1
 have kp:Kp z.cn z.cn s.heap s'.heap:=⟨rfl,rfl,rfl,fun b u q e=>⟨q,k b u q.2 (fun y=>by have q1:z.H b=none:=q.1;rw[y,hH] at q1;cases q1) e⟩⟩
 have own:∀{j b},bU z.σ (z.ρ.set i (some t)) j b->bU z.σ z.ρ j b:=fun {j b} ⟨⟨t',e1,ot⟩,q⟩=>by
  by_cases hj:i=j
  ·subst hj;exact⟨⟨t0,e0,o0⟩,q⟩
  ·rw[List.getElem?_set_ne hj] at e1;exact⟨⟨t',e1,ot⟩,q⟩
 refine⟨⟨I',by simp[hz.len],fun j t' q=>?_,fun j k b o1 o2=>hz.dj j k b (own o1) (own o2),fun j b o=>hz.nb j b (own o),hz.oh,hz.oh0,hz.loc,hz.cel,hz.fs,hz.ex,fun b q=>let ⟨u,r⟩:=hz.there b q;th b u r,hz.bs,fun b o q=>?_,hz.anc⟩,⟨fun b u n hn e=>⟨k b u n (fun y=>by rw[y,hH] at hn;cases hn) e,hn⟩,th⟩⟩
 ·by_cases hj:i=j
  ·subst hj
   have q:(z.ρ.set i (some t))[i]?=some (some t'):=q
   rw[List.getElem?_set_self hil] at q
   cases q
   exact⟨.ref a,q0,⟨.ref a,rfl⟩,d kp⟩
  ·have q:(z.ρ.set i (some t))[j]?=some (some t'):=q
   rw[List.getElem?_set_ne hj] at q
   obtain⟨w,e1,r,dd⟩:=hz.slk j t' q
   refine⟨w,e1,r,?_⟩
   have ne:∀b,w=.ref b->cV t'=true->b≠a:=fun b e3 ot y=>by
    subst y e3
    exact hj (hz.dj i j b o ⟨⟨t',q,ot⟩,e1⟩)
   cases t' with
   |val p=>exact fun u r=>(dd u r).m kp
   |own ps=>obtain⟨b,rfl,hb,l⟩:=dd;exact⟨b,rfl,hb,l.mono kp fun o w=>k b o (hz.ot b _ hb).1 (ne b rfl rfl) w⟩
   |dic ks ps=>obtain⟨b,rfl,hb,l⟩:=dd;exact⟨b,rfl,hb,l.mono kp fun o w=>k b o (hz.ot b _ hb).1 (ne b rfl rfl) w⟩
 ·obtain⟨r0,u,r1,r2⟩:=hz.ot b o q
  by_cases hb:b=a
  ·subst hb;exact⟨r0,ob,hob,hcl⟩
  ·exact⟨r0,u,k b u r0 hb r1,r2⟩
theorem Z.ok.mut {z:Z X}{s:Shared}(hz:z.ok s){a:Addr}(o:bU z.σ z.ρ i a){h':Heap}{tk:Nat}(k:∀b u,b≠a->s.heap.get? b=some u->h'.get? b=some u){t:Sl}(ht:cV t=true)(nt:∃ob,h'.get? a=some ob/\ob.cls≠.type "tuple")
  (d:∀(c:Cn),c=z.cn->Kp c c s.heap h'->SlOk c z.H h' t (.ref a)):(z.wi z.σ z.H (z.ρ.set i (some t))).ok { s with heap:=h',toks:=tk }/\Stp z.bad z.H z.H s.heap h':=by
 obtain⟨⟨t0,e0,o0⟩,q0⟩:=id o
 obtain⟨v,e2,_,d2⟩:=hz.slk i t0 e0
 rw[q0] at e2;cases e2
 have hH:z.H a=some ay:=by
  cases t0 with
  |val p=>cases o0
  |own ps=>obtain⟨b,e3,h,_⟩:=d2;cases e3;exact h
  |dic ks ps=>obtain⟨b,e3,h,_⟩:=d2;cases e3;exact h
 have I':Inv X z.pins z.σ z.H { s with heap:=h',toks:=tk }:=by
  obtain⟨ob,hob,hcl⟩:=nt
  have:=hz.I.write (x:=a) (e:=a) (o:=ay) (h':=h') (t':=tk) (by rw[hH];exact trivial) (.inl rfl) k ⟨ob,hob⟩ ⟨trivial,⟨ob,hob⟩,fun _ _ _ _=>trivial⟩
  rwa [po hH] at this
 exact Z.ok.mut0 hz o I' (fun b u _=>k b u) (fun b u e=>by
  by_cases hb:b=a
  ·subst hb;obtain⟨ob,hob,_⟩:=nt;exact⟨ob,hob⟩
  ·exact⟨u,k b u hb e⟩) ht nt (d _ rfl)
theorem Z.ok.owned {z:Z X}{s:Shared}(hz:z.ok s){t:Sl}(e:sl z.ρ i=some t)(ho:cV t=true):∃a,bU z.σ z.ρ i a/\z.H a=some ay/\SlOk z.cn z.H s.heap t (.ref a):=by
 obtain⟨v,e2,_,d2⟩:=hz.slk i t (hV e)
 cases t with
 |val p=>cases ho
 |own ps=>obtain⟨b,rfl,h,l⟩:=d2;exact⟨b,⟨⟨_,hV e,rfl⟩,e2⟩,h,b,rfl,h,l⟩
 |dic ks ps=>obtain⟨b,rfl,h,l⟩:=d2;exact⟨b,⟨⟨_,hV e,rfl⟩,e2⟩,h,b,rfl,h,l⟩
theorem mK {z:Z X}{s:Shared}(hz:z.ok s){a:Addr}(o:z.σ[i]?=some (some (.ref a))){p:Pos}(hN:X.N[i]?=some x)(hv:rL X.env.scope x)(hd:(x==("__debug__" : Str))=false)(hcd:(x==("__classdict__" : Str))=false){Q:Value->Shared->Prop}{E:Value->Shared->Prop}(h:Q (.ref a) s):W X (eval (.Name x p) X.env) Q E s:=by
 obtain⟨m,hn,hl⟩:=hz.I.loc
 obtain⟨u,r,l⟩:=hl i x _ hN o hv
 cases (show u=Value.ref a from r)
 rcases l with ⟨hk,hm⟩|⟨hk,c,hc,hcell⟩
 ·exact wpAny_Name (wpAny_loadName_local hz.I.ok.kind hk hn hm h) hd
 ·rcases hk with hk|hk
  ·exact wpAny_Name (wpAny_loadName_cell hz.I.ok.kind hk hc hcell h) hd
  ·exact wpAny_Name (wpAny_loadName_free hz.I.ok.kind hk hc hcell h hcd) hd
noncomputable abbrev GM:=Sl->List PV->Option (Sl×PV)
structure MtN (X:Cx)(T:String)(name:Str)(id:String)(g:GM):Prop where
 pa:PlainAttrs T
 slot:Slot T name id
 hty:typeOf (.builtin id)=pure (.type "method_descriptor")
 ty:∀t ps r,g t ps=some r->cV t=true/\∀(c:Cn) H h a,SlOk c H h t (.ref a)->∃ob,h.get? a=some ob/\ob.cls=.type T/\ob.dict=none
 call:∀(z:Z X) s i t a ps us t' p E,z.ok s->sl z.ρ i=some t->bU z.σ z.ρ i a->SlOk z.cn z.H s.heap t (.ref a)->Ds z.cn s.heap ps us->g t ps=some (t',p) →
  W X (call (.builtin id) (.ref a::us)) (fun v s'=>(z.wi z.σ z.H (z.ρ.set i (some t'))).ok s'/\Stp z.bad z.H z.H s.heap s'.heap/\D z.cn s'.heap p v) E s
noncomputable def Gn (g:GM)(o:Option Sl)(ps:Option (List PV)):Option (Sl×PV):=match o,ps with
 |some t,some ps=>g t ps
 |_,_=>none
structure McN (X:Cx)(i:Nat)(x:Str)(name:Str)(p apos cpos:Pos)(es:List Expr):Prop where
 hN:X.N[i]?=some x
 hv:rL X.env.scope x
 hd:(x==("__debug__" : Str))=false
 hcd:(x==("__classdict__" : Str))=false
 base:attributeBase (.Name x p) name X.env (eval (.Name x p) X.env)=eval (.Name x p) X.env
 line:(apos.endLine==cpos.line)=true
 few:((backTo cpos (starEach es X.env)).all (fun x=>!x.1)&&(backToKw cpos (keywordEach [] X.env)).all (fun x=>x.1.isSome)&&decide (es.length+([]:List Keyword).length+(if ([]:List Keyword).isEmpty then 0 else 1)<30))=true
 ns:∀e r,es=e::r->starEach (e::r) X.env=(false,eval e X.env)::starEach r X.env/\(backTo cpos (starEach r X.env)).any (·.1)=false
theorem yW {T:String}{name:Str}{id:String}{g:GM}(m:MtN X T name id g){p apos cpos:Pos}(c:McN X i x name p apos cpos es)(ha:NA X es fs)(h0:es=[]->fs=ag){z:Z X}{s:Shared}(hz:z.ok s){t':Sl}{q:PV}(e:Gn g (sl z.ρ i) ((fs z.ρ).bind fun rs=>rs.mapM RV.fr)=some (t',q)){E:Value->Shared->Prop} :
  W X (eval (.Call (.Attribute (.Name x p) name apos) es [] cpos) X.env) (fun v s'=>(z.wi z.σ z.H (z.ρ.set i (some t'))).ok s'/\Stp z.bad z.H z.H s.heap s'.heap/\D z.cn s'.heap q v) E s:=by
 unfold Gn at e
 split at e
 ·next t ps et eps=>
  obtain⟨rs,er,eps⟩:=Option.bind_eq_some_iff.mp eps
  obtain⟨ho,hT⟩:=m.ty t ps _ e
  obtain⟨a,oa,hH,d⟩:=Z.ok.owned hz et ho
  obtain⟨ob,e1,e2,e3⟩:=hT _ _ _ _ d
  have fin:∀us s1,z.go s s1->RvsOk z s.heap s1.heap rs us->W X (call (.builtin id) (.ref a::us)) (fun v s'=>(z.wi z.σ z.H (z.ρ.set i (some t'))).ok s'/\Stp z.bad z.H z.H s.heap s'.heap/\D z.cn s'.heap q v) E s1:=fun us s1 g1 d1=>by
   obtain⟨a',oa',_,d'⟩:=Z.ok.owned g1.1 et ho
   have:a'=a:=by have h1:=oa.2;have h2:=oa'.2;rw[h1] at h2;cases h2;rfl
   subst this
   exact aB (m.call z s1 i t a' ps us t' q E g1.1 et oa' d' (d1.fr eps) e) fun v s2 w=>⟨w.1,g1.2.stp.trans w.2.1,w.2.2⟩
  cases es with
  |nil=>
   refine wpAny_Call_method0_late c.base c.line (mK hz oa.2 c.hN c.hv c.hd c.hcd ⟨T,id,m.pa,m.slot,m.hty,⟨ob,e1,e2⟩,fun b q=>by cases q;exact⟨ob,e1,e3⟩,Calls.callWith_builtin rfl (PySem.evalArgs_none ?_)⟩)
   rw[h0 rfl] at er;cases er
   exact fin [] s hz.refl .nil
  |cons e0 es0=>
   refine wpAny_Call_method_late c.base c.few c.line rfl (mK hz oa.2 c.hN c.hv c.hd c.hcd ⟨T,id,m.pa,m.slot,m.hty,⟨ob,e1,e2⟩,fun b q=>by cases q;exact⟨ob,e1,e3⟩,?_⟩)
   obtain⟨hs,hp⟩:=c.ns e0 es0 rfl
   have hA:=ha z cpos s rs E hz er
   rw[hs] at hA ⊢
   refine Calls.callWith_builtin (by show (false || (backTo cpos (starEach es0 X.env)).any (·.1))=false;rw[hp]<;>rfl) (Calls.evalArgs_plain ?_)
   exact aB hA fun us s1 ⟨g1,d1⟩=>fin us s1 g1 d1
 ·cases e
end
end Dp
end
section
namespace Dp
open PySem PySem.Spec L2 PyProof.Rows
section
variable {X:Cx}{e:Expr}{f fi:FE}{es:List Expr}{fs:FA}{pos:Pos}{i j:Nat}{x:Str}
noncomputable def Eh (o:Option (Sl×PV))(i:Nat)(ρ:aj):Out:=match o with
 |some (t,_)=>.nx (ρ.set i (some t))
 |none=>.bad
noncomputable def vx (g:GM)(i:Nat)(fs:FA):FS:=fun ρ=>Eh (Gn g (sl ρ i) ((fs ρ).bind fun rs=>rs.mapM RV.fr)) i ρ
theorem Ix {T:String}{name:Str}{id:String}{g:GM}(m:MtN X T name id g){p apos cpos:Pos}(c:McN X i x name p apos cpos es)(ha:NA X es fs)(h0:es=[]->fs=ag)(hs:swapsWith (.Call (.Attribute (.Name x p) name apos) es [] cpos) none pos.line X.env=pure false) :
  NS X (.Expr (.Call (.Attribute (.Name x p) name apos) es [] cpos) pos) (vx g i fs):=fun z s E hz hb=>by
 unfold vx Eh at hb ⊢
 split at hb
 ·next t q e=>exact wpAny_Expr_any (aB (yW m c ha h0 hz e) fun v s1 w=>⟨rfl,z.σ,z.H,w.1,w.2.1⟩) hz.I.quiet hs
 ·exact absurd rfl hb
noncomputable def Ez (o:Option (Sl×PV))(j i:Nat)(ρ:aj):Out:=match o with
 |some (t,p)=>.nx ((ρ.set i (some t)).set j (some (.val p)))
 |none=>.bad
noncomputable def Dg (g:GM)(j i:Nat)(fs:FA):FS:=fun ρ=>Ez (Gn g (sl ρ i) ((fs ρ).bind fun rs=>rs.mapM RV.fr)) j i ρ
theorem JW {T:String}{name y:Str}{id:String}{g:GM}(m:MtN X T name id g){p p' apos cpos:Pos}(c:McN X i x name p apos cpos es)(n:Nm X j y)(ha:NA X es fs)(h0:es=[]->fs=ag)(hs:swapsWith (.Call (.Attribute (.Name x p) name apos) es [] cpos) (some (.Name y p')) pos.line X.env=pure false) :
  NS X (.Assign [.Name y p'] (.Call (.Attribute (.Name x p) name apos) es [] cpos) pos) (Dg g j i fs):=fun z s E hz hb=>by
 unfold Dg Ez at hb ⊢
 split at hb
 ·next t q e=>
  refine wpAny_Assign_Name (aB (yW m c ha h0 hz e) fun v s1 w=>?_) hs
  exact aB (ib (p:=q) w.1 n w.2.2) fun _ s2 ⟨σ',ok,x⟩=>⟨rfl,σ',z.H,ok,w.2.1.trans x.stp⟩
 ·exact absurd rfl hb
theorem oy {t:Sl}{ps:List PV}(e:t=.own ps):cV t=true/\∀(c:Cn) H h a,SlOk c H h t (.ref a)->∃ob,h.get? a=some ob/\ob.cls=.type "list"/\ob.dict=none:=by
 subst e
 exact⟨rfl,fun c H h a ⟨b,e1,_,its,n,e2,_⟩=>by cases e1;exact⟨_,e2,rfl,rfl⟩⟩
theorem j2 {z:Z X}{s:Shared}(hz:z.ok s){a:Addr}(o:bU z.σ z.ρ i a){its its':List Value}{n:Nat}{g:Array Value->Array Value}{ps':List PV}(e:s.heap.get? a=some (gx its n))(hg:g its.toArray=its'.toArray)(d:Ds z.cn s.heap ps' its')(l:its'.length≤sizeLine)(hH:z.H a=some ay)(tk:Nat) :
  (z.wi z.σ z.H (z.ρ.set i (some (.own ps')))).ok { s with heap:=s.heap.update a (Obj.mapSeq g),toks:=tk }/\Stp z.bad z.H z.H s.heap (s.heap.update a (Obj.mapSeq g)):=by
 have q:=PySem.IsL.update e g
 rw[hg] at q
 exact Z.ok.mut hz o (fun b u hb hu=>(Heap.get?_update_other s.heap (Obj.mapSeq g) (Ne.symm hb)).trans hu) (t:=.own ps') rfl ⟨_,q,by intro w;exact absurd (Value.type.inj w) (by decide)⟩ fun c ec k=>by
  subst ec;exact⟨a,rfl,hH,its',_,q,l,d.mono k⟩
noncomputable def mL:GM:=fun t ps=>match t,ps with
 |.own ps,[q]=>if ps.length≤100000 then some (.own (ps++[q]),.non) else none
 |_,_=>none
theorem Js:MtN X "list" "append" "list.append" mL where
 pa:=PySem.F.plainAttrs_list
 slot:=PySem.F.slot_list_append
 hty:=PySem.F.type_list_append
 ty:=fun t ps r e=>by
  unfold mL at e
  split at e
  ·exact oy rfl
  ·cases e
 call:=fun z s i t a ps us t' p E hz et oa d du e=>by
  unfold mL at e
  split at e
  ·next ps q=>
   split at e
   ·next hl=>
    cases e
    obtain⟨b,e1,hH,its,n,e2,zl,ds⟩:=d
    cases e1
    obtain⟨u,r,rfl,dq,er⟩:=du
    cases (show r=[] from er)
    have l:=ds.length
    have hb:=JE hl
    refine call_meets F.slot_list_append ⟨_,e2,rfl⟩ F.entry_list_append (F.args_list_append_2 _ _) (PySem.list_append a its.toArray n u (by rw[List.size_toArray];omega)) ⟨e2,?_⟩
    have m:=j2 hz oa e2 (g:=(·.push u)) (its':=its++[u]) (by simp) (ds.app (.one dq)) (by rw[List.length_append,List.length_singleton];omega) hH s.toks
    exact⟨m.1,m.2,rfl⟩
   ·cases e
  ·cases e
noncomputable def Ce:GM:=fun t ps=>match t,ps with
 |.own ps,[]=>some (.own ps.reverse,.non)
 |_,_=>none
theorem J0:MtN X "list" "reverse" "list.reverse" Ce where
 pa:=PySem.F.plainAttrs_list
 slot:=PySem.F.slot_list_reverse
 hty:=PySem.F.type_list_reverse
 ty:=fun t ps r e=>by
  unfold Ce at e
  split at e
  ·exact oy rfl
  ·cases e
 call:=fun z s i t a ps us t' p E hz et oa d du e=>by
  unfold Ce at e
  split at e
  ·next ps=>
   cases e
   obtain⟨b,e1,hH,its,n,e2,zl,ds⟩:=d
   cases e1
   cases (show us=[] from du)
   refine call_meets F.slot_list_reverse ⟨_,e2,rfl⟩ F.entry_list_reverse (F.args_list_reverse_1 _) (AutoSeq1.list_reverse_list_0 a its.toArray n (by rw[List.size_toArray];omega)) ⟨e2,?_⟩
   have m:=j2 hz oa e2 (g:=(·.reverse)) (its':=its.reverse) (by simp) ds.rev (by rw[List.length_reverse];exact zl) hH s.toks
   exact⟨m.1,m.2,rfl⟩
  ·cases e
noncomputable def tC:GM:=fun t ps=>match t,ps with
 |.own ps,[.int k]=>if 0≤k/\k<100000 then (ps[k.toNat]?).map fun p=>(.own (ps.eraseIdx k.toNat),p) else none
 |.own ps,[]=>(ps[ps.length - 1]?).map fun p=>(.own ps.dropLast,p)
 |_,_=>none
theorem Ds.erase {c:Cn}{h:Heap}:∀{ps:List PV} {us:List Value} (k:Nat),Ds c h ps us->Ds c h (ps.eraseIdx k) (us.eraseIdx k)
 |[],_,_,d=>by rw[show _=[] from d];rfl
 |_::_,_,0,⟨u,r,e,d,t⟩=>by rw[e];exact t
 |_::_,_,k+1,⟨u,r,e,d,t⟩=>by rw[e];exact⟨u,_,rfl,d,Ds.erase k t⟩
theorem FP:MtN X "list" "pop" "list.pop" tC where
 pa:=PySem.F.plainAttrs_list
 slot:=PySem.F.slot_list_pop
 hty:=PySem.F.type_list_pop
 ty:=fun t ps r e=>by
  unfold tC at e
  split at e
  ·exact oy rfl
  ·exact oy rfl
  ·cases e
 call:=fun z s i t a ps us t' p E hz et oa d du e=>by
  unfold tC at e
  split at e
  ·next ps k=>
   split at e
   ·next hk=>
    obtain⟨q,e3,e4⟩:=Option.map_eq_some_iff.mp e
    cases e4
    obtain⟨b,e1,hH,its,n,e2,zl,ds⟩:=d
    cases e1
    obtain⟨u,r,rfl,⟨tt,rfl⟩,er⟩:=du
    cases (show r=[] from er)
    have l:=ds.length
    have hlt:k.toNat<ps.length:=(List.getElem?_eq_some_iff.mp e3).1
    obtain⟨w,hw,dw⟩:=ds.get e3
    refine call_meets F.slot_list_pop ⟨_,e2,rfl⟩ F.entry_list_pop (F.args_list_pop_2 _ _)
     (MeetsSeq.list_pop_at a its.toArray n k tt k.toNat w (fitsIndex_both (by omega) (by omega)) (by rw[List.size_toArray,seqIndex_of hk.1 (by omega)]) (by rw[←Array.getElem?_toList];exact hw) (by rw[List.size_toArray];omega)) ⟨e2,?_⟩
    have m:=j2 hz oa e2 (g:=(·.eraseIdxIfInBounds k.toNat)) (its':=its.eraseIdx k.toNat) (by rw[List.eraseIdxIfInBounds_toArray]) (Ds.erase _ ds) (by have:=qT its k.toNat;omega) hH s.toks
    exact⟨m.1,m.2,dw.m m.2.kpD⟩
   ·cases e
  ·next ps=>
   obtain⟨q,e3,e4⟩:=Option.map_eq_some_iff.mp e
   cases e4
   obtain⟨b,e1,hH,its,n,e2,zl,ds⟩:=d
   cases e1
   cases (show us=[] from du)
   have l:=ds.length
   obtain⟨w,hw,dw⟩:=ds.get e3
   rw[←l] at hw
   refine call_meets F.slot_list_pop ⟨_,e2,rfl⟩ F.entry_list_pop (F.args_list_pop_1 _) (MeetsSeq.list_pop_last a its.toArray n w (by simpa using hw) (by rw[List.size_toArray];omega)) ⟨e2,?_⟩
   have dd:=Ds.erase (its.length - 1) ds
   rw[lh] at dd
   rw[l,lh] at dd
   have m:=j2 hz oa e2 (g:=(·.eraseIdxIfInBounds (its.toArray.size - 1))) (its':=its.dropLast) (by rw[List.size_toArray,List.eraseIdxIfInBounds_toArray,lh]) dd (by rw[List.length_dropLast];omega) hH s.toks
   exact⟨m.1,m.2,dw.m m.2.kpD⟩
  ·cases e
noncomputable def xU (o:Option Nat)(v:PV)(ps:List PV)(j:Nat)(ρ:aj):Out:=match o with
 |some n=>.nx (ρ.set j (some (.own (ps.set n v))))
 |none=>.bad
noncomputable def D7 (v:Option PV)(o:Option Sl)(k:Option PV)(j:Nat)(ρ:aj):Out:=match v,o,k with
 |some v,some (.own ps),some (.int k)=>xU (tV ps.length k) v ps j ρ
 |_,_,_=>.bad
noncomputable def lD (j:Nat)(fi f:FE):FS:=fun ρ=>D7 ((f ρ).bind RV.fr) (sl ρ j) ((fi ρ).bind RV.fr) j ρ
theorem xK {z:Z X}{s:Shared}(hz:z.ok s){a:Addr}(o:bU z.σ z.ρ i a){ps:List PV}{k:Int}{t:Tok}{n:Nat}{v:PV}{u:Value}(hH:z.H a=some ay)(l:ListAt z.cn s.heap a ps)(hn:tV ps.length k=some n)(d:D z.cn s.heap v u){E:Value->Shared->Prop} :
  W X (setItem (.ref a) (.int k t) u) (fun _ s'=>(z.wi z.σ z.H (z.ρ.set i (some (.own (ps.set n v))))).ok s'/\Stp z.bad z.H z.H s.heap s'.heap) E s:=by
 obtain⟨its,m,e,zl,ds⟩:=l
 obtain⟨h1,h2,h3,h4⟩:=xt hn
 have hl:=ds.length
 have hlb:=pg
 have fin:=j2 hz o e (g:=(·.setIfInBounds n u)) (its':=its.set n u) (by simp) (ds.set d n) (by rw[List.length_set];exact zl) hH s.toks
 by_cases h0:0≤k
 ·have hk:k.toNat=n:=by
   rw[seqIndex_of h0 h4] at h1
   exact Option.some.inj h1
  exact PySem.W.ki_setAt e h0 (by omega) (by rw[List.size_toArray,hl];exact h4) (by rw[hk];exact fin)
 ·have hk:(k+(its.toArray.size:Int)).toNat=n:=by
   rw[seqIndex_neg (by omega) h3] at h1
   rw[List.size_toArray,hl]
   exact Option.some.inj h1
  exact PySem.W.ki_setBack e (by omega) (by rw[List.size_toArray,hl];exact h3) (by omega) (by rw[hk];exact fin)
theorem ph {z:Z X}{s:Shared}(hz:z.ok s){ps:List PV}(e:sl z.ρ i=some (.own ps)){a:Addr}(o:z.σ[i]?=some (some (.ref a))):bU z.σ z.ρ i a/\z.H a=some ay/\ListAt z.cn s.heap a ps:=by
 obtain⟨b,o1,h,_,e2,_,l⟩:=Z.ok.owned hz e rfl
 cases e2
 have:=o1.2
 rw[o] at this;cases this
 exact⟨o1,h,l⟩
theorem Jo {ix o:Expr}{p:Pos}{tpos:Pos}(hN:X.N[j]?=some x)(hv:rL X.env.scope x)(hd:(x==("__debug__" : Str))=false)(hcd:(x==("__classdict__" : Str))=false)(hi:NE X ix fi)(h:NE X e f)
  (hs:swapsWithSole [.Subscript (.Name x p) ix tpos] e pos.line X.env=pure false) (hw:swappedStores [.Subscript (.Name x p) ix tpos] e X.env=pure none)
  (h1:(assignEach [.Subscript (.Name x p) ix tpos] X.env).map (·.2)=[assign (.Subscript (.Name x p) ix tpos) X.env])
  (ha:∀v,assign (.Subscript (.Name x p) ix tpos) X.env v=(do
   let ov ←holding [v] (eval (.Name x p) X.env)
   let iv ←holding [v,ov] (eval ix X.env)
   standAt tpos
   holding [v,ov,iv] (setItem ov iv v)
   release [v,ov,iv] [])):NS X (.Assign [.Subscript (.Name x p) ix tpos] e pos) (lD j fi f):=fun z s E hz hb=>by
 unfold lD D7 at hb ⊢
 split at hb
 ·next v ps k ev es ek=>
  unfold xU at hb ⊢
  split at hb
  ·next n en=>
   obtain⟨r,er,ev⟩:=Option.bind_eq_some_iff.mp ev
   obtain⟨rk,erk,ek⟩:=Option.bind_eq_some_iff.mp ek
   refine wpAny_Assign_stores (aB (h z s r E hz er) fun u s1 q=>?_) hs hw
   rw[h1]
   show W X (assign _ X.env u) _ E s1
   rw[ha]
   obtain⟨a,o1,_,_⟩:=Z.ok.owned hz es rfl
   refine wpAny_bind (wpAny_holding (mK q.1.1 o1.2 hN hv hd hcd ?_))
   refine wpAny_bind (wpAny_holding (aB (hi z s1 rk E q.1.1 erk) fun iv s2 q2=>?_))
   obtain⟨t,rfl⟩:=q2.2.fr ek
   obtain⟨o2,hH,l⟩:=ph q2.1.1 es o1.2
   refine wpAny_bind (wpAny_standAt (wpAny_bind (wpAny_holding (aB (xK q2.1.1 o2 hH l en ((q.2.fr ev).m q2.1.2.kpD)) fun _ s3 w=>?_))))
   exact wpAny_release ⟨rfl,z.σ,z.H,w.1,(q.1.2.trans q2.1.2).stp.trans w.2⟩
  ·exact absurd rfl hb
 ·exact absurd rfl hb
noncomputable def EA (g:Int->Int->Int)(o:Option Sl)(v:Option PV)(i:Nat)(ρ:aj):Out:=match o,v with
 |some (.val (.int a)),some (.int b)=>.nx (ρ.set i (some (.val (.int (g a b)))))
 |_,_=>.bad
noncomputable def nE (g:Int->Int->Int)(i:Nat)(f:FE):FS:=fun ρ=>EA g (sl ρ i) ((f ρ).bind RV.fr) i ρ
noncomputable def Ay (X:Cx)(op:Operator)(g:Int->Int->Int):Prop:=∀(a b:Int) (t u:Tok) (s:Shared) (Q:Value->Shared->Prop) E,(∀tk n,Q (.int (g a b) tk) { s with toks:=n })->W X (inplaceOp op (.int a t) (.int b u)) Q E s
theorem BX:Ay X .Add fun a b=>a+b:=fun a b t u s Q E h=>iadd_int (h _ _)
theorem Bx:Ay X .Sub fun a b=>a - b:=fun a b t u s Q E h=>isub_int (h _ _)
theorem JO {op:Operator}{g:Int->Int->Int}{p':Pos}(n:Nm X i x)(h:NE X e f)(ho:Ay X op g):NS X (.AugAssign (.Name x p') op e pos) (nE g i f):=fun z s E hz hb=>by
 unfold nE EA at hb ⊢
 split at hb
 ·next a b es ev=>
  obtain⟨r,er,ev⟩:=Option.bind_eq_some_iff.mp ev
  have vis:rL X.env.scope x:=by rcases n.loc with k|k;exact .inl k;exact .inr (.inl k)
  obtain⟨v,u,m,hn,rr,lk,e1,d,_⟩:=Z.ok.get hz es n.ix vis
  obtain⟨t,rfl⟩:=d u rr
  refine wpAny_AugAssign_Name ?_
  have go:W X (eval e X.env) (fun w s₂=>W X (inplaceOp op (.int a t) w) (fun r s₃=>W X (storeName X.env x r) (fun _=>Z.sp z s (.nx (z.ρ.set i (some (.val (.int (g a b)))))) .next) E s₃) E s₂) E s:=
   aB (h z s r E hz er) fun w s1 q=>by
    obtain⟨t',rfl⟩:=q.2.fr ev
    refine ho a b t t' s1 _ _ fun tk nn=>?_
    have g2:=q.1.trans (q.1.1.tok nn)
    exact aB (ib (p:=.int (g a b)) g2.1 n ⟨tk,rfl⟩) fun _ s2 w=>⟨rfl,(g2.tv w).to⟩
  rcases lk with ⟨hk,hm⟩|⟨hk,c,hc,hcell⟩
  ·exact wpAny_loadName_local hz.I.ok.kind hk hn hm go
  ·rcases hk with hk|hk
   ·exact wpAny_loadName_cell hz.I.ok.kind hk hc hcell go
   ·rcases n.loc with k|k
    ·have:X.env.scope.names.lookup x=some .free:=hk
     rw[k] at this;cases this
    ·have:X.env.scope.names.lookup x=some .free:=hk
     rw[k] at this;cases this
 ·exact absurd rfl hb
noncomputable def yK (g:Int->Int->Int)(o:Option PV)(ps:List PV)(k b:Int)(j:Nat)(ρ:aj):Out:=match o with
 |some (.int a)=>.nx (ρ.set j (some (.own (ps.set k.toNat (.int (g a b))))))
 |_=>.bad
noncomputable def AC (g:Int->Int->Int)(o:Option Sl)(k v:Option PV)(j:Nat)(ρ:aj):Out:=match o,k,v with
 |some (.own ps),some (.int k),some (.int b)=>if 0≤k then yK g ps[k.toNat]? ps k b j ρ else .bad
 |_,_,_=>.bad
noncomputable def mw (g:Int->Int->Int)(j:Nat)(fi f:FE):FS:=fun ρ=>AC g (sl ρ j) ((fi ρ).bind RV.fr) ((f ρ).bind RV.fr) j ρ
theorem E7 {op:Operator}{g:Int->Int->Int}{ix:Expr}{p tpos:Pos}(hN:X.N[j]?=some x)(hv:rL X.env.scope x)(hd:(x==("__debug__" : Str))=false)(hcd:(x==("__classdict__" : Str))=false)(hi:NE X ix fi)(h:NE X e f)(ho:Ay X op g)
  (ha:∀ov iv new,augStore ix ov iv new=(do holding [new,ov,iv] (setItem ov iv new);release [new,ov,iv] [];pure .next)):NS X (.AugAssign (.Subscript (.Name x p) ix tpos) op e pos) (mw g j fi f):=fun z s E hz hb=>by
 unfold mw AC at hb ⊢
 split at hb
 ·next ps k b es ek ev=>
  split at hb
  ·next h0=>
   rw[if_pos h0]
   unfold yK at hb ⊢
   split at hb
   ·next a ea=>
    obtain⟨r,er,ev⟩:=Option.bind_eq_some_iff.mp ev
    obtain⟨rk,erk,ek⟩:=Option.bind_eq_some_iff.mp ek
    obtain⟨ad,o1,_,_⟩:=Z.ok.owned hz es rfl
    have hlt:k.toNat<ps.length:=(List.getElem?_eq_some_iff.mp ea).1
    have hlb:=pg
    refine wpAny_AugAssign_SubscriptAny (mK hz o1.2 hN hv hd hcd ?_) ha
    refine aB (hi z s rk E hz erk) fun iv s2 q2=>?_
    obtain⟨t,rfl⟩:=q2.2.fr ek
    obtain⟨o2,hH,l⟩:=ph q2.1.1 es o1.2
    obtain⟨its,m,e1,zl,ds⟩:=l
    have hl:=ds.length
    obtain⟨w,ew,tw,rfl⟩:=ds.get ea
    refine wpAny_getItem_list (aT e1) h0 (by omega) (by simpa using ew) ?_
    refine aB (h z s2 r E q2.1.1 er) fun v s4 q4=>?_
    obtain⟨t',rfl⟩:=q4.2.fr ev
    refine ho a b tw t' s4 _ _ fun tk nn=>?_
    have g5:=q4.1.trans (q4.1.1.tok nn)
    obtain⟨o5,hH5,l5⟩:=ph g5.1 es o1.2
    have hn:tV ps.length k=some k.toNat:=by unfold tV;rw[if_pos h0,if_pos (by omega)]
    exact aB (xK (v:=.int (g a b)) g5.1 o5 hH5 l5 hn ⟨tk,rfl⟩) fun _ s6 w=>⟨rfl,z.σ,z.H,w.1,(q2.1.2.trans g5.2).stp.trans w.2⟩
   ·exact absurd rfl hb
  ·exact absurd rfl hb
 ·exact absurd rfl hb
noncomputable def frz (i:Nat)(ρ:aj):aj:=match ρ[i]? with
 |some (some (.own ps))=>ρ.set i (some (.val (.lst ps)))
 |some (some (.dic ks ps))=>ρ.set i (some (.val (.dct ks ps)))
 |_=>ρ
noncomputable def Kz (i:Nat)(s:FS):FS:=fun ρ=>s (frz i ρ)
theorem Z.ok.frz {z:Z X}{s:Shared}(hz:z.ok s)(i:Nat):∃H',(z.wi z.σ H' (Dp.frz i z.ρ)).ok s/\Stp z.bad z.H H' s.heap s.heap:=by
 have main:∀(t:Sl) (p:PV),z.ρ[i]?=some (some t)->cV t=true->(∀(c:Cn) H a,c.ok a->SlOk c H s.heap t (.ref a)->D c s.heap p (.ref a))->∃H',(z.wi z.σ H' (z.ρ.set i (some (.val p)))).ok s/\Stp z.bad z.H H' s.heap s.heap:=fun t p et ho hp=>by
  have hil:i<z.ρ.length:=(List.getElem?_eq_some_iff.mp et).1
  obtain⟨a,oa,hH,d⟩:=Z.ok.owned hz (show sl z.ρ i=some t by unfold sl;rw[et];rfl) ho
  have own:∀{j b},bU z.σ (z.ρ.set i (some (.val p))) j b->j≠i/\bU z.σ z.ρ j b:=fun {j b} ⟨⟨t',e1,ot⟩,q⟩=>by
   by_cases hj:i=j
   ·subst hj;rw[List.getElem?_set_self hil] at e1;cases e1;cases ot
   ·rw[List.getElem?_set_ne hj] at e1;exact⟨Ne.symm hj,⟨t',e1,ot⟩,q⟩
  have kp:Kp z.cn (bg X z.bad (wg z.H a)) s.heap s.heap:=⟨rfl,rfl,rfl,fun b o q e=>⟨⟨jB q.1,q.2⟩,e⟩⟩
  refine⟨wg z.H a,⟨Inv.untrack hz.I hH,by simp[hz.len],fun j t' q=>?_,fun j k b o1 o2=>hz.dj j k b (own o1).2 (own o2).2,fun j b o=>hz.nb j b (own o).2,fun b o q=>?_,hz.oh0,hz.loc,hz.cel,hz.fs,hz.ex,hz.there,hz.bs,fun b o q=>?_,hz.anc⟩,⟨fun b o n hn e=>⟨e,jB hn⟩,fun b o e=>⟨o,e⟩⟩⟩
  ·by_cases hj:i=j
   ·subst hj
    have q:(z.ρ.set i (some (.val p)))[i]?=some (some t'):=q
    rw[List.getElem?_set_self hil] at q
    cases q
    refine⟨.ref a,oa.2,⟨.ref a,rfl⟩,fun u r=>?_⟩
    rw[show u=.ref a from r]
    exact hp (bg X z.bad (wg z.H a)) z.H a ⟨mf,(hz.ot a _ hH).1⟩ (d.mono kp fun _ _ _ e=>e)
   ·have q2:(z.ρ.set i (some (.val p)))[j]?=some (some t'):=q
    rw[List.getElem?_set_ne hj] at q2
    obtain⟨w,e1,r,dd⟩:=hz.slk j t' q2
    refine⟨w,e1,r,?_⟩
    have ne:∀b,w=.ref b->cV t'=true->b≠a:=fun b e3 ot y=>by
     subst y e3
     exact hj (hz.dj i j b oa ⟨⟨t',q2,ot⟩,e1⟩)
    cases t' with
    |val p=>exact fun u r=>(dd u r).m kp
    |own ps=>obtain⟨b,rfl,hb,l⟩:=dd;exact⟨b,rfl,(jb (ne b rfl rfl)).trans hb,l.mono kp fun _ e=>e⟩
    |dic ks ps=>obtain⟨b,rfl,hb,l⟩:=dd;exact⟨b,rfl,(jb (ne b rfl rfl)).trans hb,l.mono kp fun _ e=>e⟩
  ·by_cases hb:b=a
   ·have q:wg z.H a b=some o:=q
    rw[hb,mf] at q;cases q
   ·have q:wg z.H a b=some o:=q
    rw[jb hb] at q;exact hz.oh b o q
  ·by_cases hb:b=a
   ·have q:wg z.H a b=some o:=q
    rw[hb,mf] at q;cases q
   ·have q:wg z.H a b=some o:=q
    rw[jb hb] at q;exact hz.ot b o q
 unfold Dp.frz
 split
 ·next ps e=>exact main _ _ e rfl fun c H a o d=>by obtain⟨b,e1,_,its,n,r⟩:=d;cases e1;exact⟨a,its,n,rfl,o,r⟩
 ·next ks ps e=>exact main _ _ e rfl fun c H a o d=>by obtain⟨b,e1,_,kus,r⟩:=d;cases e1;exact⟨a,kus,rfl,o,r⟩
 ·exact⟨z.H,hz,Ext.refl.stp⟩
theorem J8 {st:Stmt}{g:FS}(h:NS X st g)(i:Nat):NS X st (Kz i g):=fun z s E hz hb=>by
 obtain⟨H',ok,t⟩:=Z.ok.frz hz i
 exact aB (h (z.wi z.σ H' (frz i z.ρ)) s E ok hb) fun fl s' q=>q.back t
end
end Dp
end
section
namespace Dp
open PySem PySem.Spec L2 PyProof.Rows
section
variable {X:Cx}{z:Z X}{s s' s1 s2:Shared}{h h':Heap}{fp:List Addr}
theorem Inv.turnedL {pins:List (Addr×Obj)}{σ:L2.St}{H:Hp}{t':Nat}(I:Inv X pins σ H s)(k:∀b o,b∉fp->s.heap.get? b=some o->h'.get? b=some o)(th:∀b∈fp,∃o,h'.get? b=some o)(f:∀b∈fp,jC X pins H b):Inv X pins σ H { s with heap:=h',toks:=t' }:=by
 have ne:∀b u,H b=some u->b∉fp:=fun b u q y=>by rw[(f b y).1] at q;cases q
 have hl:X.env.locals∉fp:=fun y=>(f _ y).2.1 rfl
 refine I.step (g':=s.gens) (d':=s.drawn) (ch:=fp) (fun b hb=>?_) (fun b o _ _ hc q _=>k b o hc q) (fun b o _ _ hc q _=>⟨o.slots,k b o hc q⟩) (fun _ _ _ _ n=>n)
  (fun b o hc q=>⟨o,k b o hc q⟩) (fun _ _ q=>q) (fun _ _ _ q=>q) (fun b ps q=>⟨#[],by rw[q];simp⟩) (fun m hm=>?_) (fun b u q=>?_) I.bare
 ·obtain⟨f0,f1,f2,f3,f4,f5⟩:=f b hb
  exact⟨f3,f1,f4,f5⟩
 ·obtain⟨o,es,ep,ho,r⟩:=hm
  exact⟨o,es,ep,k _ o hl ho,r⟩
 ·refine (I.hok b u q).stay (fun c v hc g=>?_) (fun _ g=>g) fun _ _ g=>g
  rcases hc with y|y
  ·subst y;exact k _ v (ne _ u q) g
  ·exact k c v (ne c _ y) g
theorem Z.ok.turn {t:Nat}(hz:z.ok s)(f:∀b∈fp,jC X z.pins z.H b/\z.bad b)(k:∀b o,b∉fp->s.heap.get? b=some o->h'.get? b=some o)(th:∀b∈fp,∃o,h'.get? b=some o):z.go s { s with heap:=h',toks:=t }:=
 hz.ext (Inv.turnedL hz.I k th fun b hb=>(f b hb).1) ⟨fun a o n e=>k a o (fun y=>n (f a y).2) e,fun a o e=>by
  by_cases y:a∈fp
  ·exact th a y
  ·exact⟨o,k a o y e⟩⟩
noncomputable abbrev Z.wb (z:Z X)(fp:List Addr):Z X:=⟨fun b=>z.bad b\/b∈fp,z.pins,z.σ,z.H,z.ρ⟩
noncomputable abbrev Z.wp (z:Z X)(pl:List (Addr×Obj)):Z X:=⟨z.bad,z.pins++pl,z.σ,z.H,z.ρ⟩
theorem oo {bad bad':Addr->Prop}{H:Hp}(e:Ext bad h h')(n:∀b,bad' b->bad b\/h.get? b=none):Kp (bg X bad H) (bg X bad' H) h h':=
 ⟨rfl,rfl,rfl,fun a o q g=>⟨⟨q.1,fun y=>(n a y).elim q.2 fun y=>by rw[y] at g;cases g⟩,e.kp a o q.2 g⟩⟩
theorem xN {bad bad':Addr->Prop}{H:Hp}(n:∀b,bad b->bad' b):Kp (bg X bad' H) (bg X bad H) h h:=⟨rfl,rfl,rfl,fun a o q g=>⟨⟨q.1,fun y=>q.2 (n a y)⟩,g⟩⟩
theorem Z.ok.more (hz:z.ok s)(g:z.go s s2)(n:∀b∈fp,s.heap.get? b=none/\∃o,s2.heap.get? b=some o):(z.wb fp).ok s2:=by
 have k:=oo (X:=X) (H:=z.H) (bad':=fun b=>z.bad b\/b∈fp) g.2 fun b y=>y.imp id fun y=>(n b y).1
 have own:∀a o,z.H a=some o->a∉fp:=fun a o q y=>by obtain⟨ob,r⟩:=hz.stands q;rw[(n a y).1] at r;cases r
 have ot:=g.1.ot
 refine⟨g.1.I,hz.len,fun i t q=>?_,hz.dj,fun i a q=>?_,hz.oh,hz.oh0,.inl hz.loc,fun x c e=>.inl (hz.cel x c e),fun b q=>.inl (hz.fs b q),fun b q=>.inl (hz.ex b q),fun b q=>q.elim (g.1.there b) fun q=>(n b q).2,fun b o e q=>?_,fun a o q=>⟨fun y=>y.elim (ot a o q).1 (own a o q),(ot a o q).2⟩,hz.anc⟩
 ·obtain⟨v,e1,r,d⟩:=hz.slk i t q
  refine⟨v,e1,r,d.mono k fun a o ha e=>g.2.kp a o (hz.ot a _ ha).1 e⟩
 ·have e:∃ob,s.heap.get? a=some ob:=by
   obtain⟨⟨t,e1,ot⟩,e2⟩:=q
   obtain⟨v,e3,_,d⟩:=hz.slk i t e1
   rw[e2] at e3;cases e3
   cases t with
   |val p=>cases ot
   |own ps=>obtain⟨b,eb,ho,_⟩:=d;cases eb;exact hz.stands ho
   |dic ks ps=>obtain⟨b,eb,ho,_⟩:=d;cases eb;exact hz.stands ho
  exact⟨fun y=>y.elim (hz.nb i a q).1 fun y=>(by obtain⟨o,e⟩:=e;rw[(n a y).1] at e;cases e),(hz.nb i a q).2⟩
 ·rcases q with q|q
  ·exact hz.bs b o e q
  ·have:=(hz.I.bs b o e).1
   rw[(n b q).1] at this;cases this
theorem Z.ok.less {s3:Shared}{σ:L2.St}{H:Hp}{ρ:aj}(hz:z.ok s)(n:∀b∈fp,s.heap.get? b=none)(ok:((z.wb fp).wi σ H ρ).ok s3)(I:Inv X z.pins σ H s')(k:∀b o,b∉fp->s3.heap.get? b=some o->s'.heap.get? b=some o):(z.wi σ H ρ).ok s':=by
 have kp:Kp (bg X (z.wb fp).bad H) (bg X z.bad H) s3.heap s'.heap:=⟨rfl,rfl,rfl,fun a o q g=>⟨⟨q.1,fun y=>q.2 (.inl y)⟩,k a o (fun y=>q.2 (.inr y)) g⟩⟩
 have no:∀a o,H a=some o->a∉fp:=fun a o q y=>(ok.ot a o q).1 (.inr y)
 refine⟨I,ok.len,fun i t q=>?_,ok.dj,fun i a o=>⟨fun y=>(ok.nb i a o).1 (.inl y),(ok.nb i a o).2⟩,ok.oh,ok.oh0,hz.loc,hz.cel,hz.fs,hz.ex,fun b q=>?_,hz.bs,fun a o q=>⟨fun y=>(ok.ot a o q).1 (.inl y),let ⟨ob,e1,e2⟩:=(ok.ot a o q).2;⟨ob,k a ob (no a o q) e1,e2⟩⟩,ok.anc⟩
 ·obtain⟨v,e1,r,d⟩:=ok.slk i t q
  exact⟨v,e1,r,d.mono kp fun a o h e=>k a o (no a _ h) e⟩
 ·obtain⟨o,e⟩:=ok.there b (.inl q)
  exact⟨o,k b o (fun y=>by obtain⟨o',e'⟩:=hz.there b q;rw[n b y] at e';cases e') e⟩
theorem Stp.less {h3:Heap}{bad:Addr->Prop}{H H':Hp}(e:Ext bad h h1)(n:∀b∈fp,h.get? b=none)(t:Stp (fun b=>bad b\/b∈fp) H H' h1 h3)(k:∀b o,b∉fp->h3.get? b=some o->h'.get? b=some o):Stp bad H H' h h':=by
 have no:∀a o,h.get? a=some o->a∉fp:=fun a o g y=>by rw[n a y] at g;cases g
 refine⟨fun a o nb q g=>?_,fun a o g=>?_⟩
 ·obtain⟨r1,r2⟩:=t.kp a o (fun y=>y.elim nb (no a o g)) q (e.kp a o nb g)
  exact⟨k a o (no a o g) r1,r2⟩
 ·obtain⟨o',q⟩:=e.th a o g
  obtain⟨o2,q⟩:=t.th a o' q
  exact⟨o2,k a o2 (no a o g) q⟩
theorem Z.sp.less {o:Out}{fl:Flow}(hz:z.ok s)(g:Ext z.bad s.heap s2.heap)(n:∀b∈fp,s.heap.get? b=none)(h:(z.wb fp).sp s2 o fl s'):z.sp s o fl s':=by
 have id':∀b o,b∉fp->s'.heap.get? b=some o->s'.heap.get? b=some o:=fun _ _ _ e=>e
 cases o with
 |nx ρ=>obtain⟨e,σ',H',a,b⟩:=h;exact⟨e,σ',H',hz.less n a a.I id',b.less g n id'⟩
 |bk ρ=>obtain⟨e,σ',H',a,b⟩:=h;exact⟨e,σ',H',hz.less n a a.I id',b.less g n id'⟩
 |ct ρ=>obtain⟨e,σ',H',a,b⟩:=h;exact⟨e,σ',H',hz.less n a a.I id',b.less g n id'⟩
 |rt p ρ=>obtain⟨u,σ',H',e,a,b,c⟩:=h;exact⟨u,σ',H',e,hz.less n a a.I id',b.less g n id',c.m (xN fun _=>.inl)⟩
 |rn p ρ=>obtain⟨u,σ',H',e,a,b,c,d,l⟩:=h;exact⟨u,σ',H',e,hz.less n a a.I id',b.less g n id',c,fun y=>d (.inl y),l.mono (xN fun _=>.inl) fun _ e=>e⟩
 |bad=>exact h
end
structure Trn (P:Program)(w:World)(tg:Expr)(it:Addr)(fp pl:List Addr)(its:List PV)(tn:Nat->Cn->Heap->Prop):Prop where
 obj:∀i c h,tn i c h->∀b∈fp,∃o,h.get? b=some o/\∀v,o.data≠.cell v
 keep:∀i c c' h h',tn i c h->Kp c c' h h'->(∀b,b∈fp\/b∈pl->∀o,h.get? b=some o->h'.get? b=some o)->tn i c' h'
 item:∀(X:Cx),X.prog=P->X.w=w->X.calm=true->∀(z:Z X) (s:Shared) (E:Value->Shared->Prop) (i:Nat) (p:PV),z.ok s->(∀b∈fp,jC X z.pins z.H b/\z.bad b)->(∀b∈pl,¬z.bad b)->tn i z.cn s.heap->its[i]?=some p →
  W X (pyNext (.ref it)) (fun r s1=>∃u,r=some u/\W X (letOwnedTupleGo tg (.ref it) u) (fun _ s2=>z.go s s2/\D z.cn s2.heap p u/\tn (i+1) z.cn s2.heap) E s1) E s
 done:∀(X:Cx),X.prog=P->X.w=w->X.calm=true->∀(z:Z X) (s:Shared) (E:Value->Shared->Prop) (i:Nat),z.ok s->(∀b∈fp,jC X z.pins z.H b/\z.bad b)->(∀b∈pl,¬z.bad b)->tn i z.cn s.heap->its.length≤i →
  W X (pyNext (.ref it)) (fun r s1=>r=none/\Inv X z.pins z.σ z.H s1/\∀b o,b∉fp->s.heap.get? b=some o->s1.heap.get? b=some o) E s
 self:∀(A:Around) (i:Nat) (c:Cn) (s:Shared) (Q:Value->Shared->Prop) (E:Value->Shared->Prop),tn i c s.heap->Q (.ref it) s->wpAny (model P w) A (pyIter (.ref it)) Q E s
noncomputable def Ls {X:Cx}(z:Z X)(tg:Expr)(still:Bool)(its:List PV)(s:Shared)(itv:Value)(s2:Shared):Prop:=
 ∃it fp pl tn,itv=.ref it/\(still=true->pl=[])/\(∀b∈pl,¬z.bad b/\b∉fp/\∃o,s2.heap.get? b=some o)/\Trn X.prog X.w tg it fp pl its tn/\z.go s s2/\(∀b∈fp,jC X z.pins z.H b/\s.heap.get? b=none)/\tn 0 (bg X (fun b=>z.bad b\/b∈fp) z.H) s2.heap
noncomputable def NI (X:Cx)(still:Bool)(tg iter:Expr)(f:FI):Prop:=∀(z:Z X) s its E,z.ok s->f z.ρ=some its->W X (eval iter X.env) (fun v s1=>W X (pyIter v) (Ls z tg still its s) E s1) E s
theorem NI.any {X:Cx}{st:Bool}{tg iter:Expr}{f:FI}(h:NI X true tg iter f):NI X st tg iter f:=fun z s its E hz e=>aB (h z s its E hz e) fun v s1 q=>aB q fun itv s2 ⟨it,fp,pl,tn,a,b,r⟩=>⟨it,fp,pl,tn,a,fun _=>b rfl,r⟩
noncomputable def aZ (t:FT)(s:FS):List PV->aj->Out
 |[],ρ=>.nx ρ
 |p::ps,ρ=>match t p ρ with
  |some ρ1=>match s ρ1 with
   |.nx ρ2=>aZ t s ps ρ2
   |.ct ρ2=>aZ t s ps ρ2
   |.bk ρ2=>.nx ρ2
   |o=>o
  |none=>.bad
noncomputable def jt (it:FI)(t:FT)(s:FS):FS:=fun ρ=>match it ρ with
 |some its=>aZ t s its ρ
 |none=>.bad
noncomputable def cE (c:FB)(s:FS):Nat->aj->Out
 |0,_=>.bad
 |n+1,ρ=>match c ρ with
  |some true=>match s ρ with
   |.nx ρ2=>cE c s n ρ2
   |.ct ρ2=>cE c s n ρ2
   |.bk ρ2=>.nx ρ2
   |o=>o
  |some false=>.nx ρ
  |none=>.bad
noncomputable def g6 (c:FB)(s:FS):FS:=fun ρ=>cE c s 10000 ρ
section
variable {X:Cx}{tg iter:Expr}{body:List Stmt}{fi:FI}{t:FT}{g:FS}{pos:Pos}
theorem pinned {z:Z X}{s:Shared}{fp:List Addr}(hz:z.ok s)(f:∀b∈fp,jC X z.pins z.H b)(o:∀b∈fp,∃o,s.heap.get? b=some o/\∀v,o.data≠.cell v):(z.wp (lg fp s.heap)).ok s:=
 ⟨hz.I.pinned f o,hz.len,hz.slk,hz.dj,hz.nb,hz.oh,hz.oh0,hz.loc,hz.cel,hz.fs,hz.ex,hz.there,hz.bs,hz.ot,hz.anc⟩
theorem unpinned {z:Z X}{pl:List (Addr×Obj)}{s:Shared}{σ:L2.St}{H:Hp}{ρ:aj}(hz:((z.wp pl).wi σ H ρ).ok s):(z.wi σ H ρ).ok s:=
 ⟨hz.I.unpinned,hz.len,hz.slk,hz.dj,hz.nb,hz.oh,hz.oh0,hz.loc,hz.cel,hz.fs,hz.ex,hz.there,hz.bs,hz.ot,hz.anc⟩
theorem uF {z:Z X}{fp:List Addr}{h:Heap}{s:Shared}{σ:L2.St}{H:Hp}{ρ:aj}(hz:((z.wp (lg fp h)).wi σ H ρ).ok s)(b:Addr)(hb:b∈fp)(o:Obj)(e:h.get? b=some o):s.heap.get? b=some o:=
 (hz.I.pin (b,o) (List.mem_append_right _ (List.mem_append_right _ (vy hb e)))).1
theorem Jn (hc:X.calm=true)(hi:NI X true tg iter fi)(hg:NG X tg t)(hb:zY X body g)(hs:∀x,foldedSetIterable iter X.env x=pure x:=by intro _;rfl):NS X (.For tg iter body [] pos) (jt fi t g):=fun z s E hz hn=>by
 unfold jt at hn ⊢
 split at hn
 ·next its ei=>
  refine wpAny_For (aB (hi z s its E hz ei) fun v s1 h1=>aB h1 fun itv s2 h2=>?_) hs
  obtain⟨it,fp,pl,tn,e,hpl,_,T,g2,f2,st2⟩:=h2
  cases hpl rfl
  subst e
  have z2:(z.wb fp).ok s2:=hz.more g2 fun b hb=>⟨(f2 b hb).2,let ⟨o,e,_⟩:=T.obj _ _ _ st2 b hb;⟨o,e⟩⟩
  have stat:∀{σ H ρ s'},((z.wb fp).wi σ H ρ).ok s'->∀b∈fp,jC X z.pins H b/\(z.wb fp).bad b:=fun {σ H ρ s'} ok b hb=>⟨⟨by
   cases q:H b with
   |none=>rfl
   |some o=>exact absurd (Or.inr hb) (ok.ot b o q).1,(f2 b hb).1.2⟩,.inr hb⟩
  have fin:∀{fl s'},(z.wb fp).sp s2 (aZ t g its z.ρ) fl s'->z.sp s (aZ t g its z.ρ) fl s':=fun h=>h.less hz g2.2 fun b hb=>(f2 b hb).2
  generalize ho:aZ t g its z.ρ=o at hn fin ⊢
  refine codeAny_forLoop_any (fun n s'=>∃i σ' H' ρ',n=its.length - i/\i≤its.length/\((z.wb fp).wi σ' H' ρ').ok s'/\Stp (z.wb fp).bad z.H H' s2.heap s'.heap/\tn i (bg X (z.wb fp).bad H') s'.heap/\aZ t g (its.drop i) ρ'=o) ?_ its.length ⟨0,z.σ,z.H,z.ρ,rfl,Nat.zero_le _,z2,Ext.refl.stp,st2,ho⟩
  rintro n s3 ⟨i,σ3,H3,ρ3,rfl,hi3,ok3,t3,st3,eo⟩
  by_cases hlt:i<its.length
  ·rw[List.drop_eq_getElem_cons hlt,aZ] at eo
   cases e1:t its[i] ρ3 with
   |none=>rw[e1] at eo;exact absurd eo.symm hn
   |some ρ4=>
   rw[e1] at eo
   simp only[] at eo
   refine aB (T.item X rfl rfl hc ((z.wb fp).wi σ3 H3 ρ3) s3 _ i its[i] ok3 (stat ok3) (fun b q=>nomatch q) st3 (List.getElem?_eq_getElem hlt)) fun r s4 ⟨u,hr,h4⟩=>?_
   subst hr
   refine aB h4 fun _ s5 ⟨g5,d5,st5⟩=>?_
   have ok5:=pinned g5.1 (fun b hb=>(stat g5.1 b hb).1) (T.obj _ _ _ st5)
   refine aB (hg _ s5 its[i] u ρ4 _ ok5 d5 e1) fun _ s6 ⟨σ6,ok6,x6⟩=>?_
   have hnb:g ρ4≠.bad:=fun q=>by rw[q] at eo;exact hn eo.symm
   refine aB (hb _ s6 _ ok6 hnb) fun f s7 q7=>?_
   have t6:Stp (z.wb fp).bad z.H H3 s2.heap s6.heap:=t3.trans (g5.2.trans x6).stp
   have again:∀{ρ7 σ7 H7},((((z.wb fp).wi σ3 H3 ρ3).wp (lg fp s5.heap)).wi σ7 H7 ρ7).ok s7->Stp (z.wb fp).bad H3 H7 s6.heap s7.heap->aZ t g (its.drop (i+1)) ρ7=o →
     ∃m,m<its.length - i/\∃i σ' H' ρ',m=its.length - i/\i≤its.length/\((z.wb fp).wi σ' H' ρ').ok s7/\Stp (z.wb fp).bad z.H H' s2.heap s7.heap/\tn i (bg X (z.wb fp).bad H') s7.heap/\aZ t g (its.drop i) ρ'=o:=fun {ρ7 σ7 H7} ok7 t7 e7=>by
    refine⟨its.length - (i+1),by omega,i+1,σ7,H7,ρ7,rfl,hlt,unpinned (z:=(z.wb fp).wi σ3 H3 ρ3) ok7,t6.trans t7,?_,e7⟩
    exact T.keep _ _ _ _ _ st5 (x6.stp.trans t7).kpD fun b hb=>hb.elim (fun hb=>uF (z:=(z.wb fp).wi σ3 H3 ρ3) ok7 b hb) fun q=>nomatch q
   generalize g ρ4=o4 at eo q7 hnb
   cases o4 with
   |nx ρ7=>obtain⟨e,σ7,H7,ok7,t7⟩:=q7;subst e;exact again ok7 t7 eo
   |ct ρ7=>obtain⟨e,σ7,H7,ok7,t7⟩:=q7;subst e;exact again ok7 t7 eo
   |bk ρ7=>obtain⟨e,σ7,H7,ok7,t7⟩:=q7;subst e;refine fin ?_;rw[←eo];exact⟨rfl,σ7,H7,unpinned (z:=(z.wb fp).wi σ3 H3 ρ3) ok7,t6.trans t7⟩
   |rt p ρ7=>obtain⟨u,σ7,H7,e,ok7,t7,d7⟩:=q7;subst e;refine fin ?_;rw[←eo];exact⟨u,σ7,H7,rfl,unpinned (z:=(z.wb fp).wi σ3 H3 ρ3) ok7,t6.trans t7,d7⟩
   |rn p ρ7=>obtain⟨u,σ7,H7,e,ok7,t7,d7⟩:=q7;subst e;refine fin ?_;rw[←eo];exact⟨u,σ7,H7,rfl,unpinned (z:=(z.wb fp).wi σ3 H3 ρ3) ok7,t6.trans t7,d7⟩
   |bad=>exact absurd rfl hnb
  ·rw[List.drop_eq_nil_of_le (by omega),aZ] at eo
   refine aB (T.done X rfl rfl hc ((z.wb fp).wi σ3 H3 ρ3) s3 _ i ok3 (stat ok3) (fun b q=>nomatch q) st3 (by omega)) fun r s4 ⟨hr,I4,k4⟩=>?_
   subst hr
   refine wpAny_execs_nil ?_
   show Z.sp z s o .next _
   rw[←eo]
   exact⟨rfl,σ3,H3,hz.less (fun b hb=>(f2 b hb).2) ok3 I4 k4,t3.less g2.2 (fun b hb=>(f2 b hb).2) k4⟩
 ·exact absurd rfl hn
theorem EN {c:Expr}{fc:FB}(hc:NB X c fc)(hb:zY X body g):NS X (.While c body [] pos) (g6 fc g):=fun z s E hz hn=>by
 unfold g6 at hn ⊢
 generalize ho:cE fc g 10000 z.ρ=o at hn ⊢
 refine wpAny_While (codeAny_whileLoop (fun n s'=>∃σ' H' ρ',(z.wi σ' H' ρ').ok s'/\Stp z.bad z.H H' s.heap s'.heap/\cE fc g n ρ'=o) ?_ 10000 ⟨z.σ,z.H,z.ρ,hz,Ext.refl.stp,ho⟩)
 rintro n s1 ⟨σ1,H1,ρ1,ok1,t1,eo⟩
 cases n with
 |zero=>exact absurd eo.symm hn
 |succ n=>
  rw[cE] at eo
  cases ec:fc ρ1 with
  |none=>rw[ec] at eo;exact absurd eo.symm hn
  |some b=>
  rw[ec] at eo
  refine aB (hc (z.wi σ1 H1 ρ1) s1 b _ ok1 ec) fun b' s2 ⟨e,g2⟩=>?_
  subst e
  cases b' with
  |true=>
   rw[if_pos rfl]
   have hnb:g ρ1≠.bad:=fun q=>by rw[q] at eo;exact hn eo.symm
   refine aB (hb (z.wi σ1 H1 ρ1) s2 _ g2.1 hnb) fun f s3 q3=>?_
   have t2:Stp z.bad z.H H1 s.heap s2.heap:=t1.trans g2.2.stp
   simp only[] at eo
   generalize g ρ1=o4 at eo q3 hnb
   cases o4 with
   |nx ρ7=>obtain⟨e,σ7,H7,ok7,t7⟩:=q3;subst e;exact⟨n,Nat.lt_succ_self _,σ7,H7,ρ7,ok7,t2.trans t7,eo⟩
   |ct ρ7=>obtain⟨e,σ7,H7,ok7,t7⟩:=q3;subst e;exact⟨n,Nat.lt_succ_self _,σ7,H7,ρ7,ok7,t2.trans t7,eo⟩
   |bk ρ7=>obtain⟨e,σ7,H7,ok7,t7⟩:=q3;subst e;show Z.sp z s o .next _;rw[←eo];exact⟨rfl,σ7,H7,ok7,t2.trans t7⟩
   |rt p ρ7=>obtain⟨u,σ7,H7,e,ok7,t7,d7⟩:=q3;subst e;show Z.sp z s o (.ret u) _;rw[←eo];exact⟨u,σ7,H7,rfl,ok7,t2.trans t7,d7⟩
   |rn p ρ7=>obtain⟨u,σ7,H7,e,ok7,t7,d7⟩:=q3;subst e;show Z.sp z s o (.ret (.ref u)) _;rw[←eo];exact⟨u,σ7,H7,rfl,ok7,t2.trans t7,d7⟩
   |bad=>exact absurd rfl hnb
  |false=>
   rw[if_neg Bool.false_ne_true]
   refine wpAny_execs_nil ?_
   show Z.sp z s o .next _
   rw[←eo]
   exact⟨rfl,σ1,H1,g2.1,t1.trans g2.2.stp⟩
end
end Dp
end
section
namespace L2
open PySem PySem.Spec PyProof.Rows
section
variable {prog:Program}{w:World}{A:Around}{E:Value->Shared->Prop}{s:Shared}
theorem G3 {it t:Addr}{i:Nat}{items:Array Value}{x:Value}{Q:Value->Shared->Prop}(hit:s.heap.IsTupleIter it t i)(ht:s.heap.IsTuple t items)(hx:items[i]?=some x)
  (hQ:∀h',h'.IsTupleIter it t (i+1)->Heap.SameBut it s.heap h'->Q x { s with heap:=h' }):wpAny (model prog w) A (Builtin.SmallTypes.nextOf (.ref it)) Q E s:=by
 have hT:=hit.typeIs
 obtain⟨o,ho,hc,hd⟩:=hit;obtain⟨ol,hol,_,nl,hdl⟩:=ht
 unfold Builtin.SmallTypes.nextOf
 refine wpAny_bind (wpAny_callSpecial?_slot (name:=Str.ofString "__next__") hT F.slot_tuple_iterator_next (wpAny_call_entry F.slot_tuple_iterator_next hT F.entry_tuple_iterator_next ?_ (F.args_tuple_iterator_next_1 _)))
 refine (?_:wpAny _ _ (field (.ref it) 0 >>= _) _ _ s);refine wpAny_bind (wpAny_field ho hd (x:=.ref t) rfl (?_:wpAny _ _ (if (Value.ref t==Value.none)=true then _ else _) _ _ s))
 rw[if_neg (show ¬((Value.ref t==Value.none)=true) from Bool.false_ne_true)];refine (?_:wpAny _ _ (field (.ref it) 1 >>= _) _ _ s);refine wpAny_bind (wpAny_field ho hd (x:=.int i 0) rfl (?_:wpAny _ _ (seqItems? (.ref t) >>= _) _ _ s));refine wpAny_bind (m:=seqItems? (.ref t)) (wpAny_seqItems hol hdl ?_);simp only[Int.toNat_natCast,hx]
 refine wpAny_bind (wpAny_setField ho hd (by simp) (wpAny_pure ⟨x,rfl,wpAny_pure (hQ _ ⟨_,Heap.get?_update_self _ ho (Obj.isFreed_of_fields (Obj.data_mapFields hd _)),(Obj.cls_mapFields ..).trans hc,by rw[Obj.data_mapFields hd];simp[rawInt]⟩ (Heap.SameBut.update ..))⟩))
theorem xu {it t:Addr}{i:Nat}{items:Array Value}{Q:Value->Shared->Prop}(hh:A.handled=none)(hit:s.heap.IsTupleIter it t i)(ht:s.heap.IsTuple t items)(hx:items[i]?=none)
  (hE:∀h' e,Heap.ExtBut it s.heap h'->(∃o,h'.get? e=some o/\o.cls=.type "StopIteration")->E (.ref e) { s with heap:=h' }):wpAny (model prog w) A (Builtin.SmallTypes.nextOf (.ref it)) Q E s:=by
 have hT:=hit.typeIs
 obtain⟨o,ho,hc,hd⟩:=hit;obtain⟨ol,hol,_,nl,hdl⟩:=ht
 unfold Builtin.SmallTypes.nextOf
 refine wpAny_bind (wpAny_callSpecial?_slot (name:=Str.ofString "__next__") hT F.slot_tuple_iterator_next (wpAny_call_entry F.slot_tuple_iterator_next hT F.entry_tuple_iterator_next ?_ (F.args_tuple_iterator_next_1 _)))
 refine (?_:wpAny _ _ (field (.ref it) 0 >>= _) _ _ s);refine wpAny_bind (wpAny_field ho hd (x:=.ref t) rfl (?_:wpAny _ _ (if (Value.ref t==Value.none)=true then _ else _) _ _ s))
 rw[if_neg (show ¬((Value.ref t==Value.none)=true) from Bool.false_ne_true)];refine (?_:wpAny _ _ (field (.ref it) 1 >>= _) _ _ s);refine wpAny_bind (wpAny_field ho hd (x:=.int i 0) rfl (?_:wpAny _ _ (seqItems? (.ref t) >>= _) _ _ s));refine wpAny_bind (m:=seqItems? (.ref t)) (wpAny_seqItems hol hdl ?_);simp only[Int.toNat_natCast,hx]
 refine wpAny_bind (wpAny_rule (wpAny_bind (wpAny_setField ho hd (by simp) (?_:wpAny _ _ (newExc (.type "StopIteration") [] >>= _) _ _ _))))
 refine wpAny_bind ?_;simp only[newExc,newTuple];refine wpAny_bind (wpAny_newObj_type ?_ (by size_fits))
 refine wpAny_bind (m:=firstArgMember _ _) (wpAny_of_eq (a:=Value.none) (by first|rfl|(simp only[firstArgMember];rfl)) (wpAny_newObj_type ?_ (by size_fits)))
 simp only[raiseNew];refine wpAny_bind (wpAny_handled ?_);first|rw[show A.in1.handled=none from hh]|rw[hh]
 exact wpAny_bind (wpAny_pure (wpAny_throw (hE _ _ (((Heap.SameBut.update ..).extBut.push _).push _) ⟨_,Heap.get?_push_size _ rfl,rfl⟩)))
end
theorem n6 {h h':Heap}{a t:Addr}{i:Nat}(x:h.IsTupleIter a t i)(k:∀o,h.get? a=some o->h'.get? a=some o):h'.IsTupleIter a t i:=let ⟨o,ho,r⟩:=x;⟨o,k o ho,r⟩
theorem Ei {h h':Heap}{a:Addr}{its:Array Value}(x:h.IsTuple a its)(k:∀o,h.get? a=some o->h'.get? a=some o):h'.IsTuple a its:=let ⟨o,ho,r⟩:=x;⟨o,k o ho,r⟩
theorem GK {prog:Program}{w:World}{A:Around}(hh:A.handled=none)(it l:Addr)(hne:l≠it)(items:Array Value):Draws prog w A it [it,l] items.size (fun i v=>items[i]?=some v) (fun i h=>h.IsTupleIter it l i/\h.IsTuple l items) where
 live:=fun _ _ ⟨⟨o,ho,_⟩,_⟩=>⟨o,ho⟩
 frame:=fun _ _ _ ⟨a,b⟩ hk=>⟨n6 a fun o e=>hk it (by simp) o e,Ei b fun o e=>hk l (by simp) o e⟩
 item:=fun i s Q E hi ⟨a,b⟩ hQ=>G3 a b (x:=items[i]) (by simp[hi]) fun h' hit' hs'=>hQ _ h' s.toks (by simp[hi]) ⟨hit',b.extBut hs'.extBut hne⟩ hs'
 done:=fun s Q E ⟨a,b⟩ hE=>xu hh a b (by simp) hE
open AutoSeq1 (wpAny_loadPart') in
theorem Eo (l:Addr)(items:Array Value)(n:Nat)(dct:Option Addr)(sl:Array (Option Value)):Meets (Builtin.«enumerate.__new__» ⟨[.type "enumerate",.ref l],[]⟩) (fun _ R s=>s.heap.get? l=some { cls:=.type "tuple",dict:=dct,data:=.seq items n,slots:=sl }/\R (.ok (.ret (.ref (s.heap.push { cls:=.type "tuple_iterator",data:=.fields #[.ref l,.int 0 0] }).objs.size))) { s with heap:=(s.heap.push { cls:=.type "tuple_iterator",data:=.fields #[.ref l,.int 0 0] }).push { cls:=.type "enumerate",data:=.fields #[.none,.bool false,.ref s.heap.objs.size,rawInt 0,.none,.none] } }):=
 .of_wp fun prog w A R s h=>by
  obtain⟨hp,g,d,tk,os⟩:=s;obtain⟨hl,h⟩:=h
  have hsub:=sub_enumerate;have hL:Heap.IsTuple (Shared.heap ⟨hp,g,d,tk,os⟩) l items:=⟨_,hl,rfl,n,rfl⟩
  wp_walk using wpAny_loadPart' hl;refine wpAny_stack_any fun st=>wpAny_pure ?_
  split
  ·rename_i c _ _ _ _ _;cases (c==Value.type "enumerate")<;>(wp_walk using wpAny_loadPart' hl,wpAny_pyIter_tuple hL;exact⟨_,rfl,h⟩)
  ·wp_walk using wpAny_loadPart' hl,wpAny_pyIter_tuple hL;exact⟨_,rfl,h⟩
section
variable {prog:Program}{w:World}{A:Around}{E:Value->Shared->Prop}{s:Shared}
theorem Bu {l:Addr}{items:Array Value}{Q:Value->Shared->Prop}(hL:s.heap.IsTuple l items)
  (h:∀h',IsEnum h' (s.heap.objs.size+1) s.heap.objs.size 0 .none->h'.IsTupleIter s.heap.objs.size l 0->h'.objs.size=s.heap.objs.size+2->(∀b o,s.heap.get? b=some o->h'.get? b=some o)->Q (.ref (s.heap.objs.size+1)) { s with heap:=h' }):wpAny (model prog w) A (call (.type "enumerate") [.ref l]) Q E s:=by
 obtain⟨⟨c,dct,dt,sl⟩,hl,hc,n,hd⟩:=hL;replace hc:c=.type "tuple":=hc;replace hd:dt=.seq items n:=hd;subst hc hd
 refine callType_new F.called_enumerate (by decide) (F.typeCall_enumerate_1 _) (F.newCall_enumerate_1 _) (fun obj=>F.args_object_init_2 obj _) F.entry_enumerate_new (Eo l items n dct sl) ⟨hl,?_⟩
 have hz:(s.heap.push { cls:=.type "tuple_iterator",data:=.fields #[.ref l,.int 0 0] }).objs.size=s.heap.objs.size+1:=Heap.size_push ..
 refine (?_:_/\_);rw[hz]
 have he:IsEnum ((s.heap.push { cls:=.type "tuple_iterator",data:=.fields #[.ref l,.int 0 0] }).push { cls:=.type "enumerate",data:=.fields #[.none,.bool false,.ref s.heap.objs.size,rawInt 0,.none,.none] }) (s.heap.objs.size+1) s.heap.objs.size 0 .none:=by
  have:=Heap.get?_push_size (s.heap.push { cls:=.type "tuple_iterator",data:=.fields #[.ref l,.int 0 0] }) (o:={ cls:=.type "enumerate",data:=.fields #[.none,.bool false,.ref s.heap.objs.size,rawInt 0,.none,.none] }) rfl
  rw[hz] at this;exact this
 exact⟨⟨_,he,rfl⟩,h _ he ⟨_,Heap.get?_push_of_some _ (Heap.get?_push_size _ rfl),rfl,rfl⟩ (by rw[Heap.size_push,hz]) fun b o x=>Heap.get?_push_of_some _ (Heap.get?_push_of_some _ x)⟩
end
end L2
end
section
namespace Dp
open PySem PySem.Spec L2 PyProof.Rows
section
variable {P:Program}{w:World}{tg:Expr}{h h':Heap}
theorem xi {a it:Addr}{ps:List PV}{ow:Bool}:Trn P w tg it [it] (if ow then [a] else []) ps (fun i c h=>h.IsListIter it a i/\ListAt c h a ps/\(ow=false->c.ok a)) where
 obj:=fun i c h st b hb=>by
  have e:b=it:=by simpa using hb
  subst e
  obtain⟨⟨o,e,_,d⟩,_⟩:=st
  exact⟨o,e,fun v z=>by rw[d] at z;cases z⟩
 keep:=fun i c c' h h' st k kk=>by
  obtain⟨st,l,ok⟩:=st
  refine⟨st.at fun o e=>kk it (.inl (by simp)) o e,l.mono k fun o e=>?_,fun e=>?_⟩
  ·cases ow with
   |true=>exact kk a (.inr (by simp)) o e
   |false=>exact (k.kp a o (ok rfl) e).2
  ·obtain⟨its,n,g,_⟩:=l
   exact (k.kp a _ (ok e) g).1
 item:=fun X hP hw hc z s E i p hz hf hp st hx=>by
  subst hP hw
  obtain⟨st,l,ok⟩:=st
  obtain⟨its,n,g,zl,ds⟩:=id l
  obtain⟨u,hu,du⟩:=ds.get hx
  refine wpAny_pyNext_list_item st (aT g) (x:=u) (by simpa using hu) fun h' st' sb=>?_
  have nb:a≠it:=fun e=>by
   obtain⟨o,e1,c1,_⟩:=st
   rw[←e,g] at e1;cases e1;exact absurd (Value.type.inj c1) (by decide)
  have go:=hz.turn (t:=s.toks) (h':=h') hf (fun b o hb e=>(sb.2 b (by simpa using hb)).trans e) fun b hb=>by
   rw[show b=it by simpa using hb];exact⟨_,st'.choose_spec.1⟩
  have kp:Kp z.cn z.cn s.heap h':=go.2.kpD
  obtain⟨o,e,c,d⟩:=id st'
  exact⟨u,rfl,t8 (s:={ s with heap:=h' }) e c d (by decide) ⟨go,du.m kp,st',l.mono kp fun o e=>(sb.2 a nb).trans e,ok⟩⟩
 done:=fun X hP hw hc z s E i hz hf hp st hx=>by
  subst hP hw
  obtain⟨st,l,ok⟩:=st
  obtain⟨its,n,g,zl,ds⟩:=l
  have hl:=ds.length
  obtain⟨f,bd⟩:=hf it (by simp)
  exact wpAny_pyNext_list_end (hz.I.ok.hd hc) st (aT g) (by simp;omega) fun h' eb=>⟨rfl,hz.I.turned (t':=s.toks) (fun b o hb e=>eb b o hb e) f.1 f.2.1 f.2.2.2.1 f.2.2.2.2.1 f.2.2.2.2.2,fun b o hb e=>eb b o (by simpa using hb) e⟩
 self:=fun A i c s Q E st q=>wpAny_pyIter_listiter st.1 q
theorem IA {a it:Addr}{ps:List PV}:Trn P w tg it [it] [] ps (fun i c h=>h.IsTupleIter it a i/\∃its,IsTup h a its.toArray/\its.length≤sizeLine/\Ds c h ps its/\c.ok a) where
 obj:=fun i c h st b hb=>by
  have e:b=it:=by simpa using hb
  subst e
  obtain⟨⟨o,e,_,d⟩,_⟩:=st
  exact⟨o,e,fun v z=>by rw[d] at z;cases z⟩
 keep:=fun i c c' h h' st k kk=>by
  obtain⟨st,its,⟨o,g,r⟩,zl,ds,ok⟩:=st
  exact⟨n6 st fun o e=>kk it (.inl (by simp)) o e,its,⟨o,(k.kp a _ ok g).2,r⟩,zl,ds.mono k,(k.kp a _ ok g).1⟩
 item:=fun X hP hw hc z s E i p hz hf hp st hx=>by
  subst hP hw
  obtain⟨st,its,g,zl,ds,ok⟩:=st
  obtain⟨u,hu,du⟩:=ds.get hx
  refine wpAny_pyNext_tuple_item st (show s.heap.IsTuple a its.toArray from g) (x:=u) (by simpa using hu) fun h' st' sb=>?_
  have go:=hz.turn (t:=s.toks) (h':=h') hf (fun b o hb e=>(sb.2 b (by simpa using hb)).trans e) fun b hb=>by
   rw[show b=it by simpa using hb];exact⟨_,st'.choose_spec.1⟩
  have kp:Kp z.cn z.cn s.heap h':=go.2.kpD
  obtain⟨o,e,c,d⟩:=id st'
  obtain⟨o2,g2,r2⟩:=g
  exact⟨u,rfl,t8 (s:={ s with heap:=h' }) e c d (by decide) ⟨go,du.m kp,st',its,⟨o2,(kp.kp a _ ok g2).2,r2⟩,zl,ds.mono kp,ok⟩⟩
 done:=fun X hP hw hc z s E i hz hf hp st hx=>by
  subst hP hw
  obtain⟨st,its,g,zl,ds,ok⟩:=st
  have hl:=ds.length
  obtain⟨f,bd⟩:=hf it (by simp)
  exact wpAny_pyNext_tuple_end (hz.I.ok.hd hc) st (show s.heap.IsTuple a its.toArray from g) (by simp;omega) fun h' eb=>⟨rfl,hz.I.turned (t':=s.toks) (fun b o hb e=>eb b o hb e) f.1 f.2.1 f.2.2.2.1 f.2.2.2.2.1 f.2.2.2.2.2,fun b o hb e=>eb b o (by simpa using hb) e⟩
 self:=fun A i c s Q E st q=>wpAny_pyIter_tupleiter st.1 q
noncomputable def ud (lo:Int)(n:Nat)(c:Int):List PV:=(List.range n).map fun k:Nat=>.int (lo+k * c)
theorem Bv {lo c:Int}{n i:Nat}{p:PV}(e:(ud lo n c)[i]?=some p):i<n/\p=.int (lo+i * c):=by
 unfold ud at e
 rw[List.getElem?_map] at e
 obtain⟨k,ek,rfl⟩:=Option.map_eq_some_iff.mp e
 obtain⟨hk,rfl⟩:=List.getElem?_eq_some_iff.mp ek
 exact⟨by simpa using hk,by rw[List.getElem_range]⟩
theorem vk {lo:Int}{n:Nat}:ud lo n 1=qd lo n:=by unfold ud qd;simp only[Int.mul_one]
theorem Ic {it:Addr}{lo c0:Int}{n:Nat}:Trn P w tg it [it] [] (ud lo n c0) (fun i c h=>IsRangeIter h it (lo+(i:Nat) * c0) ((n:Int) - (i:Nat)) c0) where
 obj:=fun i c h st b hb=>by
  have e:b=it:=by simpa using hb
  subst e
  exact⟨_,st,fun v z=>by
   have z':Data.fields _=Data.cell v:=z
   cases z'⟩
 keep:=fun i c c' h h' st k kk=>kk it (.inl (by simp)) _ st
 item:=fun X hP hw hc z s E i p hz hf hp st hx=>by
  subst hP hw
  obtain⟨hi,rfl⟩:=Bv hx
  have W:=Walks.range (prog:=X.prog) (w:=X.w) (hz.I.ok.hd hc) it lo c0 n
  refine W.item i s _ _ hi st fun v h' tk hv st' kk=>?_
  obtain⟨t,rfl⟩:=hv
  have go:=hz.turn (t:=tk) (h':=h') hf (fun b o hb e=>kk b o hb e) fun b hb=>by
   rw[show b=it by simpa using hb];exact⟨_,st'⟩
  exact⟨_,rfl,t8 (s:={ s with heap:=h',toks:=tk }) (n:="range_iterator") st' rfl rfl (by decide) ⟨go,⟨t,rfl⟩,st'⟩⟩
 done:=fun X hP hw hc z s E i hz hf hp st hx=>by
  subst hP hw
  obtain⟨f,bd⟩:=hf it (by simp)
  exact wpAny_pyNext_range_end (hz.I.ok.hd hc) st (by have:n≤i:=(by simpa [ud] using hx);omega) fun h' eb=>⟨rfl,hz.I.turned (t':=s.toks) (fun b o hb e=>eb b o hb e) f.1 f.2.1 f.2.2.2.1 f.2.2.2.2.1 f.2.2.2.2.2,fun b o hb e=>eb b o (by simpa using hb) e⟩
 self:=fun A i c s Q E st q=>wpAny_pyIter_rangeiter st q
end
section
variable {X:Cx}{tg iter:Expr}{f:FE}{fs:FA}{st:Bool}{z:Z X}{s s1:Shared}
noncomputable def m8 (f:FE):FI:=fun ρ=>(f ρ).bind fun r=>r.fr.bind items
noncomputable def Ju (f:FE):FI:=fun ρ=>(f ρ).bind fun r=>kn r.pv
theorem Z.ok.fp (hz:z.ok s1)(g:Ext z.bad s.heap s1.heap){b:Addr}(hb:s1.heap.objs.size≤b):jC X z.pins z.H b/\s.heap.get? b=none:=
 ⟨hz.I.fpOk hb (hz.I.hok.fresh hb),Ext.back g (Heap.get?_none_of_le hb)⟩
theorem gw {P:Addr->Prop}{a:Addr}(h:P a):∀b∈[a],P b:=fun b hb=>by rw[show b=a by simpa using hb];exact h
theorem vg (hz:z.ok s1){h2:Heap}{fp:List Addr}(k:∀b o,s1.heap.get? b=some o->h2.get? b=some o)(n:∀b∈fp,s1.heap.objs.size≤b):Kp z.cn (bg X (fun b=>z.bad b\/b∈fp) z.H) s1.heap h2:=
 oo (.kept k) fun b y=>y.imp id fun y=>Heap.get?_none_of_le (n b y)
theorem Ch {p:PV}{its:List PV}{v:Value}{E:Value->Shared->Prop}(g:z.go s s1)(d:D z.cn s1.heap p v)(e:items p=some its):W X (pyIter v) (Ls z tg true its s) E s1:=by
 obtain⟨a,us,rfl,ok,zl,ds,h⟩:=D1.items d e
 have g2:∀o:Obj,z.go s { s1 with heap:=s1.heap.push o }:=fun o=>g.trans (g.1.push o s1.toks)
 have kk:∀o:Obj,Kp z.cn (bg X (fun b=>z.bad b\/b∈[s1.heap.objs.size]) z.H) s1.heap (s1.heap.push o):=fun o=>vg g.1 (fun b o e=>Heap.get?_push_of_some _ e) (gw (P:=fun b=>s1.heap.objs.size≤b) (Nat.le_refl _))
 rcases h with ⟨o,ho,r⟩|⟨n,ho⟩
 ·have ht:s1.heap.IsTuple a us.toArray:=⟨o,ho,r⟩
  refine wpAny_pyIter_tuple ht ⟨s1.heap.objs.size,[s1.heap.objs.size],[],_,rfl,fun _=>rfl,fun b q=>(nomatch q),IA (a:=a),g2 _,gw (g.1.fp g.2 (Nat.le_refl _)),⟨_,Heap.get?_push_size _ rfl,rfl,rfl⟩,us,⟨o,Heap.get?_push_of_some _ ho,r⟩,zl,ds.mono (kk _),((kk (gx [] 0)).kp a o ok ho).1⟩
 ·refine wpAny_pyIter_list (aT ho) ⟨s1.heap.objs.size,[s1.heap.objs.size],[],_,rfl,fun _=>rfl,fun b q=>(nomatch q),xi (a:=a) (ow:=false),g2 _,gw (g.1.fp g.2 (Nat.le_refl _)),⟨_,Heap.get?_push_size _ rfl,rfl,rfl⟩,⟨us,n,Heap.get?_push_of_some _ ho,zl,ds.mono (kk _)⟩,fun _=>((kk (gx [] 0)).kp a _ ok ho).1⟩
theorem yT (h:NE X iter f):NI X true tg iter (m8 f):=fun z s its E hz q=>by
 obtain⟨r,e1,q⟩:=Option.bind_eq_some_iff.mp q
 obtain⟨p,e2,q⟩:=Option.bind_eq_some_iff.mp q
 exact aB (h z s r E hz e1) fun v s1 q1=>Ch q1.1 (q1.2.fr e2) q
theorem Iw (h:NE X iter f):NI X false tg iter (Ju f):=fun z s its E hz q=>by
 obtain⟨r,e1,q⟩:=Option.bind_eq_some_iff.mp q
 refine aB (h z s r E hz e1) fun v s1 q1=>?_
 cases hr:r.fr with
 |some p=>
  have:r.pv=p:=by cases r<;>cases hr<;>rfl
  subst this
  exact aB (Ch q1.1 (q1.2.fr hr) (by cases hp:r.pv<;>rw[hp] at q<;>first|exact q|cases q)) fun itv s2 ⟨it,fp,pl,tn,a,b,r⟩=>⟨it,fp,pl,tn,a,fun _=>b rfl,r⟩
 |none=>
  cases r with
  |ln p=>
   obtain⟨g,⟨d,lb,nb⟩⟩:=q1
   have d:=D1.lst d q
   obtain⟨a,us,n,rfl,_,ho,zl,ds⟩:=d
   have kk:=vg (fp:=[s1.heap.objs.size]) g.1 (fun b o e=>Heap.get?_push_of_some (h:=s1.heap) { cls:=.type "list_iterator",data:=.fields #[.ref a,.int 0 0] } e) (gw (P:=fun b=>s1.heap.objs.size≤b) (Nat.le_refl _))
   refine wpAny_pyIter_list (aT ho) ⟨s1.heap.objs.size,[s1.heap.objs.size],[a],_,rfl,fun e=>(nomatch e),fun b hb=>(by rw[show b=a by simpa using hb];exact⟨nb a rfl,fun y=>(by rw[show a=s1.heap.objs.size by simpa using y] at ho;exact absurd (Heap.lt_size ho) (Nat.lt_irrefl _)),_,Heap.get?_push_of_some _ ho⟩),xi (a:=a) (ow:=true),g.trans (g.1.push _ s1.toks),gw (g.1.fp g.2 (Nat.le_refl _)),⟨_,Heap.get?_push_size _ rfl,rfl,rfl⟩,⟨us,n,Heap.get?_push_of_some _ ho,zl,ds.mono kk⟩,fun e=>(nomatch e)⟩
  |_=>cases hr
noncomputable def CK (i:Int):Bool:=decide (-(2 ^ 62)≤i)&&decide (i<2 ^ 62)
theorem wm {i:Int}(h:CK i=true):-(2 ^ 62)≤i/\i<2 ^ 62:=by
 unfold CK at h
 rw[Bool.and_eq_true,decide_eq_true_eq,decide_eq_true_eq] at h
 exact h
noncomputable def ok3 (i j c:Int):Bool:=decide (c≠0)&&Builtin.Range.small i j c&&decide (0≤Builtin.Range.rangeSize i j c)&&!Builtin.divisionGoesByPylong (j - i) c
noncomputable def lq:List PV->Option (List PV)
 |[.int j]=>if CK j then some (qd 0 j.toNat) else none
 |_=>none
noncomputable def Bp:List PV->Option (List PV)
 |[.int i,.int j]=>if CK i&&CK j then some (qd i (j - i).toNat) else none
 |_=>none
noncomputable def GY:List PV->Option (List PV)
 |[.int i,.int j,.int c]=>if ok3 i j c then some (ud i (Builtin.Range.rangeSize i j c).toNat c) else none
 |_=>none
noncomputable def kN (g:List PV->Option (List PV))(fs:FA):FI:=fun ρ=>(fs ρ).bind fun rs=>g (rs.map RV.pv)
theorem v0 {its:List PV}{lo hi c:Int}{t u v:Tok}{tk:Nat}{E:Value->Shared->Prop}(g:z.go s s1)(h1:Builtin.Range.small lo hi c=true)(h2:0≤Builtin.Range.rangeSize lo hi c)(e:its=ud lo (Builtin.Range.rangeSize lo hi c).toNat c) :
  W X (pyIter (.ref s1.heap.objs.size)) (Ls z tg true its s) E { s1 with heap:=s1.heap.push { cls:=.type "range",data:=.fields #[.int lo t,.int hi u,.int c v] },toks:=tk }:=by
 subst e
 generalize ho:({ cls:=.type "range",data:=.fields #[.int lo t,.int hi u,.int c v] }:Obj)=o
 have g2:=g.trans (g.1.push o tk)
 refine wpAny_pyIter_range (by subst ho;exact IsRange.new ..) h1 ⟨(s1.heap.push o).objs.size,[(s1.heap.push o).objs.size],[],_,rfl,fun _=>rfl,fun b q=>(nomatch q),Ic,g2.trans (g2.1.push _ tk),gw (g2.1.fp g2.2 (Nat.le_refl _)),?_⟩
 have e1:lo+((0:Nat):Int) * c=lo:=by simp
 have e2:(((Builtin.Range.rangeSize lo hi c).toNat:Nat):Int) - ((0:Nat):Int)=Builtin.Range.rangeSize lo hi c:=by omega
 show IsRangeIter _ _ (lo+((0:Nat):Int) * c) ((((Builtin.Range.rangeSize lo hi c).toNat:Nat):Int) - ((0:Nat):Int)) c
 rw[e1,e2]
 exact Heap.get?_push_size _ rfl
variable {a b d:Expr}{p pos:Pos}
theorem Lw {i j:Int}:0≤Builtin.Range.rangeSize i j 1/\(Builtin.Range.rangeSize i j 1).toNat=(j - i).toNat:=by
 rw[rangeSize_one];split<;>constructor<;>omega
theorem HA (hg:Gl X "range")(hm:X.mg "range" = none)(ha:NA X [a] fs)(hs:starEach [a] X.env=[(false,eval a X.env)]):NI X true tg (.Call (.Name "range" p) [a] [] pos) (kN lq fs):=fun z s its E hz q=>by
 obtain⟨rs,er,q⟩:=Option.bind_eq_some_iff.mp q
 refine Call_ (lE hz.I hg hm boot_range (PyProof.Rows.callWith_type1 (aB (ha z pos s rs E hz er) fun us s1 ⟨g1,d1⟩=>?_) hs rfl))
 have d:=d1.rv
 unfold lq at q
 split at q
 ·next j ej=>
  split at q
  ·next h=>
   cases q
   rw[ej] at d
   obtain⟨u,rfl,⟨t,rfl⟩,_⟩:=d.one
   obtain⟨h1,h2⟩:=wm h
   exact call_range_1 (v0 g1 (small_one (by omega) (by omega) h1 h2) Lw.1 (by rw[Lw.2,vk,Int.sub_zero]))
  ·cases q
 ·cases q
theorem GQ (hg:Gl X "range")(hm:X.mg "range" = none)(ha:NA X [a,b] fs)(hs:starEach [a,b] X.env=[(false,eval a X.env),(false,eval b X.env)])(hs2:starEach [b] X.env=[(false,eval b X.env)]):NI X true tg (.Call (.Name "range" p) [a,b] [] pos) (kN Bp fs):=fun z s its E hz q=>by
 obtain⟨rs,er,q⟩:=Option.bind_eq_some_iff.mp q
 refine Call_ (lE hz.I hg hm boot_range (PyProof.Rows.callWith_type1 (aB (ha z pos s rs E hz er) fun us s1 ⟨g1,d1⟩=>?_) (by rw[hs,hs2]) (by rw[hs2];rfl)))
 have d:=d1.rv
 unfold Bp at q
 split at q
 ·next i j ej=>
  split at q
  ·next h=>
   cases q
   rw[ej] at d
   obtain⟨u,v,rfl,⟨⟨t,rfl⟩,_⟩,⟨t',rfl⟩,_⟩:=d.two
   rw[Bool.and_eq_true] at h
   obtain⟨h1,h2⟩:=wm h.1
   obtain⟨h3,h4⟩:=wm h.2
   exact call_range_2 (v0 g1 (small_one h1 h2 h3 h4) Lw.1 (by rw[Lw.2,vk]))
  ·cases q
 ·cases q
theorem Gu (hg:Gl X "range")(hm:X.mg "range" = none)(ha:NA X [a,b,d] fs)(hs:starEach [a,b,d] X.env=[(false,eval a X.env),(false,eval b X.env),(false,eval d X.env)])(hs2:starEach [b,d] X.env=[(false,eval b X.env),(false,eval d X.env)]) :
  NI X true tg (.Call (.Name "range" p) [a,b,d] [] pos) (kN GY fs):=fun z s its E hz q=>by
 obtain⟨rs,er,q⟩:=Option.bind_eq_some_iff.mp q
 refine Call_ (lE hz.I hg hm boot_range (PyProof.Rows.callWith_type1 (aB (ha z pos s rs E hz er) fun us s1 ⟨g1,d1⟩=>?_) (by rw[hs,hs2]) (by rw[hs2];rfl)))
 have d:=d1.rv
 unfold GY at q
 split at q
 ·next i j c ej=>
  split at q
  ·next h=>
   cases q
   rw[ej] at d
   cases d with
   |cons r rr=>cases rr with
    |cons r' rr=>cases rr with
     |cons r'' rr=>
      cases rr
      obtain⟨t,rfl⟩:=r.rd
      obtain⟨t',rfl⟩:=r'.rd
      obtain⟨t'',rfl⟩:=r''.rd
      unfold ok3 at h
      rw[Bool.and_eq_true,Bool.and_eq_true,Bool.and_eq_true,decide_eq_true_eq,decide_eq_true_eq,Bool.not_eq_true'] at h
      exact call_range_3 h.1.1.1 (v0 g1 h.1.1.2 h.1.2 rfl) (.inl h.2)
  ·cases q
 ·cases q
end
noncomputable def fO:Nat->List PV->List PV
 |_,[]=>[]
 |k,p::ps=>.tup [.int k,p]::fO (k+1) ps
theorem kD:∀(k:Nat) (ps:List PV),(fO k ps).length=ps.length
 |_,[]=>rfl
 |k,_::ps=>by rw[fO,List.length_cons,List.length_cons,kD]
theorem mB:∀{ps:List PV} {k i:Nat} {q:PV},(fO k ps)[i]?=some q->∃p,ps[i]?=some p/\q=.tup [.int (k+i:Nat),p]
 |[],_,_,_,e=>by simp[fO] at e
 |p::ps,k,0,q,e=>by simp[fO] at e;exact⟨p,rfl,by rw[←e];rfl⟩
 |p::ps,k,i+1,q,e=>by
  obtain⟨p',h1,h2⟩:=mB (ps:=ps) (k:=k+1) (i:=i) (by simpa [fO] using e)
  exact⟨p',by simpa using h1,by rw[h2,Nat.add_right_comm];rfl⟩
section
variable {P:Program}{w:World}{h h':Heap}{elts:List Expr}{x1:Nat}{tpos:Pos}
theorem yg {X:Cx}{z:Z X}{s:Shared}{e it:Addr}{h1 h2:Heap}{tk tk2:Nat}{p:PV}{u:Value}{i:Nat}(hz:z.ok s)(hf:∀b∈[e,it],jC X z.pins z.H b/\z.bad b)(du:D z.cn s.heap p u)(tup:h1.get? s.heap.objs.size=some { cls:=.type "tuple",data:=.seq #[.int i tk,u] })
  (kp:∀b o,b≠e->b≠it->s.heap.get? b=some o->h1.get? b=some o) (ee:∃o,h2.get? e=some o) (ei:∃o,h2.get? it=some o) (sb:Heap.SameBut e h1 h2) (le:∀b∈[e,it],∃o,s.heap.get? b=some o) :
  z.go s { s with heap:=h2,toks:=tk2 }/\D z.cn h2 (.tup [.int i,p]) (.ref s.heap.objs.size):=by
 have go:=hz.turn (t:=tk2) (h':=h2) hf (fun b o hb q=>by
  have n1:b≠e:=fun y=>hb (by simp[y])
  exact (sb.2 b n1).trans (kp b o n1 (fun y=>hb (by simp[y])) q)) fun b hb=>by
   rcases List.mem_cons.mp hb with y|y
   ·rw[y];exact ee
   ·rw[show b=it by simpa using y];exact ei
 have ne:s.heap.objs.size≠e:=fun y=>by obtain⟨o,q⟩:=le e (by simp);rw[←y] at q;exact absurd (Heap.lt_size q) (Nat.lt_irrefl _)
 refine⟨go,s.heap.objs.size,[.int i tk,u],rfl,hz.free (Heap.get?_none_of_le (Nat.le_refl _)),⟨_,(sb.2 _ ne).trans tup,rfl,_,rfl⟩,(by show 2≤sizeLine;decide),_,_,rfl,⟨tk,rfl⟩,u,[],rfl,du.m go.2.kpD,rfl⟩
theorem r5 {a e it:Addr}{i:Nat}{h:Heap}(he:∃old,IsEnum h e it i old)(hi:∃o,h.get? it=some o/\∀v,o.data≠.cell v):∀b∈[e,it],∃o,h.get? b=some o/\∀v,o.data≠.cell v:=fun b hb=>by
 rcases List.mem_cons.mp hb with y|y
 ·rw[y]
  obtain⟨old,he⟩:=he
  exact⟨_,he,fun v q=>by
   have q':Data.fields _=Data.cell v:=q
   cases q'⟩
 ·rw[show b=it by simpa using y];exact hi
theorem JK {a e it:Addr}(hne:e≠it){ps:List PV}:Trn P w (.Tuple elts x1 tpos) e [e,it] [] (fO 0 ps) (fun i c h=>(∃old,IsEnum h e it i old)/\h.IsListIter it a i/\ListAt c h a ps/\c.ok a) where
 obj:=fun i c h st=>r5 (a:=a) st.1 (by obtain⟨_,⟨o,e,_,d⟩,_⟩:=st;exact⟨o,e,fun v y=>by rw[d] at y;cases y⟩)
 keep:=fun i c c' h h' st k kk=>by
  obtain⟨⟨old,he⟩,st,l,ok⟩:=st
  obtain⟨its,n,g,r⟩:=id l
  exact⟨⟨old,kk e (.inl (by simp)) _ he⟩,st.at fun o q=>kk it (.inl (by simp)) o q,l.mono k fun o q=>(k.kp a o ok q).2,(k.kp a _ ok g).1⟩
 item:=fun X hP hw hc z s E i p hz hf hp st hx=>by
  subst hP hw
  obtain⟨⟨old,he⟩,st,l,ok⟩:=st
  obtain⟨its,n,g,zl,ds⟩:=id l
  obtain⟨p',hx2,rfl⟩:=mB hx
  rw[Nat.zero_add]
  obtain⟨u,hu,du⟩:=ds.get hx2
  refine wpAny_pyNext_enum_item he st (aT g) (x:=u) (by simpa using hu) hne fun h' out lit tup sz kp=>⟨_,rfl,?_⟩
  refine wpAny_letOwnedTupleGo_enum out fun h2 he2 sb=>?_
  have lit2:h2.IsListIter it a (i+1):=lit.at fun o q=>(sb.2 it (Ne.symm hne)).trans q
  obtain⟨go,dd⟩:=yg (tk2:=s.toks+1) hz hf du tup kp ⟨_,he2⟩ ⟨_,lit2.choose_spec.1⟩ sb (fun b hb=>let ⟨o,e,_⟩:=r5 (a:=a) ⟨_,he⟩ (by obtain⟨o,e,_,d⟩:=st;exact⟨o,e,fun v y=>by rw[d] at y;cases y⟩) b hb;⟨o,e⟩)
  have kp2:Kp z.cn z.cn s.heap h2:=go.2.kpD
  exact⟨go,dd,⟨_,he2⟩,lit2,l.mono kp2 fun o q=>(kp2.kp a o ok q).2,ok⟩
 done:=fun X hP hw hc z s E i hz hf hp st hx=>by
  subst hP hw
  obtain⟨⟨old,he⟩,st,⟨its,n,g,zl,ds⟩,ok⟩:=st
  have hl:=ds.length
  rw[kD] at hx
  obtain⟨f,bd⟩:=hf it (by simp)
  exact wpAny_pyNext_enum_end (hz.I.ok.hd hc) he st (aT g) (by simp;omega) fun h' eb=>⟨rfl,hz.I.turned (t':=s.toks) (fun b o hb e=>eb b o hb e) f.1 f.2.1 f.2.2.2.1 f.2.2.2.2.1 f.2.2.2.2.2,fun b o hb e=>eb b o (fun y=>hb (by simp[y])) e⟩
 self:=fun A i c s Q E st q=>wpAny_pyIter_enum st.1.choose_spec q
theorem Gw {a e it:Addr}(hne:e≠it){ps:List PV}:Trn P w (.Tuple elts x1 tpos) e [e,it] [] (fO 0 ps) (fun i c h=>(∃old,IsEnum h e it i old)/\h.IsTupleIter it a i/\∃its,IsTup h a its.toArray/\its.length≤sizeLine/\Ds c h ps its/\c.ok a) where
 obj:=fun i c h st=>r5 (a:=a) st.1 (by obtain⟨_,⟨o,e,_,d⟩,_⟩:=st;exact⟨o,e,fun v y=>by rw[d] at y;cases y⟩)
 keep:=fun i c c' h h' st k kk=>by
  obtain⟨⟨old,he⟩,st,its,⟨o,g,r⟩,zl,ds,ok⟩:=st
  exact⟨⟨old,kk e (.inl (by simp)) _ he⟩,n6 st fun o q=>kk it (.inl (by simp)) o q,its,⟨o,(k.kp a _ ok g).2,r⟩,zl,ds.mono k,(k.kp a _ ok g).1⟩
 item:=fun X hP hw hc z s E i p hz hf hp st hx=>by
  subst hP hw
  obtain⟨⟨old,he⟩,st,its,g,zl,ds,ok⟩:=st
  obtain⟨p',hx2,rfl⟩:=mB hx
  rw[Nat.zero_add]
  obtain⟨u,hu,du⟩:=ds.get hx2
  have pt:s.heap.IsTuple a its.toArray:=g
  have nai:a≠it:=fun q=>by
   obtain⟨o1,h1,c1,_⟩:=pt
   obtain⟨o2,h2,c2,_⟩:=st
   rw[q,h2] at h1;cases h1;rw[c2] at c1;exact absurd (Value.type.inj c1) (by decide)
  have nae:e≠a:=fun q=>by
   obtain⟨o1,h1,c1,_⟩:=pt
   rw[←q,he] at h1;cases h1;exact absurd (Value.type.inj c1) (by decide)
  have hlt:i<its.toArray.size:=by
   have:=(List.getElem?_eq_some_iff.mp hu).1
   simpa using this
  refine wpAny_pyNext_enum_itemD (GK (A:=X.A.in1) (hz.I.ok.hd hc) it a nai its.toArray) he ⟨st,pt⟩ hlt hne (by simp[hne,nae]) fun u' h' tk hu' out lit tup sz kp=>⟨_,rfl,?_⟩
  obtain rfl:u'=u:=by
   have h1:its[i]?=some u':=by simpa using hu'
   rw[hu] at h1;exact (Option.some.inj h1).symm
  refine wpAny_letOwnedTupleGo_enum out fun h2 he2 sb=>?_
  have lit2:h2.IsTupleIter it a (i+1):=n6 lit.1 fun o q=>(sb.2 it (Ne.symm hne)).trans q
  obtain⟨go,dd⟩:=yg (tk2:=tk+1) hz hf du tup kp ⟨_,he2⟩ ⟨_,lit2.choose_spec.1⟩ sb (fun b hb=>let ⟨o,e,_⟩:=r5 (a:=a) ⟨_,he⟩ (by obtain⟨o,e,_,d⟩:=st;exact⟨o,e,fun v y=>by rw[d] at y;cases y⟩) b hb;⟨o,e⟩)
  have kp2:Kp z.cn z.cn s.heap h2:=go.2.kpD
  obtain⟨o,g,r⟩:=g
  exact⟨go,dd,⟨_,he2⟩,lit2,its,⟨o,(kp2.kp a _ ok g).2,r⟩,zl,ds.mono kp2,ok⟩
 done:=fun X hP hw hc z s E i hz hf hp st hx=>by
  subst hP hw
  obtain⟨⟨old,he⟩,st,its,g,zl,ds,ok⟩:=st
  have hl:=ds.length
  rw[kD] at hx
  obtain⟨f,bd⟩:=hf it (by simp)
  have hT:s.TypeIs (.ref e) "enumerate":=⟨_,he,rfl⟩
  unfold pyNext
  refine wpAny_bind (wpAny_attempt (wpAny_callSpecial?_slot (name:=Str.ofString "__next__") hT F.slot_enumerate_next (wpAny_call_entry F.slot_enumerate_next hT F.entry_enumerate_next ?_ (F.args_enumerate_next_1 _))))
  refine (?_:wpAny _ _ (field (.ref e) 2 >>= _) _ _ _);refine wpAny_bind (wpAny_field he rfl (x:=.ref it) rfl ?_)
  refine wpAny_bind (xu (hz.I.ok.hd hc) st (items:=its.toArray) g (by simp;omega) fun h' x he' hx'=>?_)
  obtain⟨o,ho,hc⟩:=hx'
  exact wpAny_bind (wpAny_isInstance (T:="StopIteration") (b:=true) ⟨o,ho,hc⟩ isSubtype_stop (wpAny_pure ⟨rfl,hz.I.turned (t':=s.toks) (fun b o hb e=>he' b o hb e) f.1 f.2.1 f.2.2.2.1 f.2.2.2.2.1 f.2.2.2.2.2,fun b o hb e=>he' b o (fun y=>hb (by simp[y])) e⟩))
 self:=fun A i c s Q E st q=>wpAny_pyIter_enum st.1.choose_spec q
end
section
variable {X:Cx}{fs:FA}{elts:List Expr}{x1:Nat}{tpos:Pos}{a:Expr}{p pos:Pos}
noncomputable def rm:List PV->Option (List PV)
 |[p]=>(items p).map (fO 0)
 |_=>none
noncomputable def np (fs:FA):FI:=fun ρ=>(fs ρ).bind fun rs=>(rs.mapM RV.fr).bind rm
theorem Hy (hg:Gl X "enumerate")(hm:X.mg "enumerate" = none)(ha:NA X [a] fs)(hs:starEach [a] X.env=[(false,eval a X.env)]):NI X true (.Tuple elts x1 tpos) (.Call (.Name "enumerate" p) [a] [] pos) (np fs):=fun z s its E hz q=>by
 obtain⟨rs,er,q⟩:=Option.bind_eq_some_iff.mp q
 obtain⟨ps,ep,q⟩:=Option.bind_eq_some_iff.mp q
 refine Call_ (lE hz.I hg hm tI (PyProof.Rows.callWith_type1 (aB (ha z pos s rs E hz er) fun us s1 ⟨g,d1⟩=>?_) hs rfl))
 have d:=d1.fr ep
 unfold rm at q
 split at q
 ·next p'=>
  obtain⟨qs,e3,rfl⟩:=Option.map_eq_some_iff.mp q
  obtain⟨u,r,rfl,d,e4⟩:=d
  cases (show r=[] from e4)
  obtain⟨l,vs,rfl,ok,zl,ds,h⟩:=D1.items d e3
  have fin:∀(h' h2:Heap),h'.objs.size=s1.heap.objs.size+2->(∀b o,s1.heap.get? b=some o->h'.get? b=some o)->z.go s { s1 with heap:=h' }/\(∀b∈[s1.heap.objs.size+1,s1.heap.objs.size],jC X z.pins z.H b/\s.heap.get? b=none)/\Kp z.cn (bg X (fun b=>z.bad b\/b∈[s1.heap.objs.size+1,s1.heap.objs.size]) z.H) s1.heap h':=fun h' h2 sz kp=>by
   have le:∀b∈[s1.heap.objs.size+1,s1.heap.objs.size],s1.heap.objs.size≤b:=fun b hb=>by
    rcases List.mem_cons.mp hb with y|y
    ·rw[y];exact Nat.le_succ _
    ·rw[show b=s1.heap.objs.size by simpa using y];exact Nat.le_refl _
   exact⟨g.trans (g.1.kept (t:=s1.toks) kp),fun b hb=>g.1.fp g.2 (le b hb),vg g.1 kp le⟩
  rcases h with ⟨o,ho,r⟩|⟨n,ho⟩
  ·refine Bu (items:=vs.toArray) ⟨o,ho,r⟩ fun h' he hit sz kp=>wpAny_pyIter_enum he ?_
   obtain⟨f1,f2,f3⟩:=fin h' h' sz kp
   exact⟨_,_,[],_,rfl,fun _=>rfl,fun b q=>(nomatch q),Gw (a:=l) (Nat.succ_ne_self _),f1,f2,⟨_,he⟩,hit,vs,⟨o,kp _ _ ho,r⟩,zl,ds.mono f3,(f3.kp l _ ok ho).1⟩
  ·refine call_enumerate_list (aT ho) fun h' he hit sz kp=>wpAny_pyIter_enum he ?_
   obtain⟨f1,f2,f3⟩:=fin h' h' sz kp
   exact⟨_,_,[],_,rfl,fun _=>rfl,fun b q=>(nomatch q),JK (a:=l) (Nat.succ_ne_self _),f1,f2,⟨_,he⟩,hit,⟨vs,n,kp _ _ ho,zl,ds.mono f3⟩,(f3.kp l _ ok ho).1⟩
 ·cases q
end
end Dp
end
section
namespace Dp
open PySem PySem.Spec L2 PyProof.Rows
noncomputable def IU (X:Cx)(ifs:List Expr)(f:FB):Prop:=∀(z:Z X) s b E,z.ok s->f z.ρ=some b →
 W X (forIn ifs true fun c r=>if r=true then do let ok ←isTrue c X.env (eval c X.env);pure (ForInStep.yield ok) else pure (ForInStep.yield r)) (fun c s'=>c=b/\z.go s s') E s
noncomputable def gj:FB:=fun _=>some true
theorem Hc {X:Cx}:IU X [] gj:=fun z s b E hz q=>by cases q;exact wpAny_tests_nil ⟨rfl,hz.refl⟩
theorem IG {X:Cx}{c:Expr}{f:FB}(h:NB X c f):IU X [c] f:=fun z s b E hz q=>wpAny_tests_one (h z s b E hz q)
noncomputable def iW (fm:List (Option Nat))(ρ:aj):aj:=fm.map fun o=>o.bind fun j=>(ρ[j]?).join
noncomputable def lj (t:FT)(c:FB)(f:FE)(ρ:aj):List PV->Option (List PV)
 |[]=>some []
 |p::ps=>(t p ρ).bind fun ρ2=>(c ρ2).bind fun b=>if b=true then (f ρ2).bind fun r=>r.fr.bind fun q=>(lj t c f ρ ps).map fun qs=>q::qs else lj t c f ρ ps
noncomputable def cU (fm:List (Option Nat))(it:FI)(t:FT)(c:FB)(f:FE):FE:=fun ρ=>(it ρ).bind fun its=>if its.length<1000 then (lj t c f (iW fm ρ) its).map .nw else none
noncomputable def FK (fm:List (Option Nat))(t:FT):Prop:=∀p ρ ρ',t p ρ=some ρ'->ρ'.length=ρ.length/\∀(i j:Nat),fm[i]?=some (some j)->ρ'[i]?=ρ[i]?
noncomputable def Lf (fm:List (Option Nat))(t:ze):Prop:=∀p ρ ρ',t p ρ=some ρ'->ρ'.length=ρ.length/\∀(i j:Nat),fm[i]?=some (some j)->ρ'[i]?=ρ[i]?
theorem Mi {fm:List (Option Nat)}{k:Nat}(h:fm[k]?=some none):FK fm (gN k):=fun p ρ ρ' e=>by
 cases e
 refine⟨List.length_set ..,fun i j q=>List.getElem?_set_ne fun y=>?_⟩
 subst y;rw[h] at q;cases q
theorem LS {fm:List (Option Nat)}:Lf fm g0:=fun p ρ ρ' e=>by
 cases p with
 |nil=>cases e;exact⟨rfl,fun _ _ _=>rfl⟩
 |cons=>cases e
theorem MI {fm:List (Option Nat)}{t:FT}{ts:ze}(h1:FK fm t)(h2:Lf fm ts):Lf fm (gC t ts):=fun p ρ ρ' e=>by
 cases p with
 |nil=>cases e
 |cons p ps=>
  obtain⟨ρ1,e1,e2⟩:=Option.bind_eq_some_iff.mp e
  exact⟨(h2 ps ρ1 ρ' e2).1.trans (h1 p ρ ρ1 e1).1,fun i j q=>((h2 ps ρ1 ρ' e2).2 i j q).trans ((h1 p ρ ρ1 e1).2 i j q)⟩
theorem MC {fm:List (Option Nat)}{n:Nat}{ts:ze}(h:Lf fm ts):FK fm (jm n ts):=fun p ρ ρ' e=>by
 unfold jm at e
 split at e
 ·split at e
  ·exact h _ ρ ρ' e
  ·cases e
 ·cases e
theorem pR {fm:List (Option Nat)}{ρ:aj}{i:Nat}{t:Sl}(h:(iW fm ρ)[i]?=some (some t)):∃j,fm[i]?=some (some j)/\ρ[j]?=some (some t):=by
 unfold iW at h
 rw[List.getElem?_map] at h
 obtain⟨o,e1,h⟩:=Option.map_eq_some_iff.mp h
 obtain⟨j,rfl,h⟩:=Option.bind_eq_some_iff.mp h
 refine⟨j,e1,?_⟩
 replace h:(ρ[j]?).join=some t:=h
 cases e2:ρ[j]? with
 |none=>rw[e2] at h;cases h
 |some w=>rw[e2] at h;exact congrArg some h
theorem DC {fm:List (Option Nat)}{σ:L2.St}{i j:Nat}{v:V}(h1:fm[i]?=some (some j))(h2:σ[j]?=some (some v)):(nU fm σ)[i]?=some (some v):=by
 unfold nU
 rw[List.getElem?_map,h1]
 show some ((σ[j]?).join)=_
 rw[h2];rfl
section
variable {X:Cx}{z:Z X}{s:Shared}
theorem Z.ok.pinsOf (hz:z.ok s)(pl:List (Addr×Obj))(h:∀p∈pl,s.heap.get? p.1=some p.2/\z.H p.1=none/\p.1≠X.env.locals/\p.1∉X.fs/\∀v,p.2.data≠.cell v):(⟨z.bad,pl,z.σ,z.H,z.ρ⟩:Z X).ok s:=
 ⟨hz.I.pins_of h,hz.len,hz.slk,hz.dj,hz.nb,hz.oh,hz.oh0,hz.loc,hz.cel,hz.fs,hz.ex,hz.there,hz.bs,hz.ot,hz.anc⟩
theorem Z.ok.weak (hz:z.ok s){ρ':aj}(hl:ρ'.length=z.ρ.length)(h:∀(i:Nat) t,ρ'[i]?=some (some t)->z.ρ[i]?=some (some t)):(z.wi z.σ z.H ρ').ok s:=by
 have ow:∀{i a},bU z.σ ρ' i a->bU z.σ z.ρ i a:=fun {i a} ⟨⟨t,e,o⟩,q⟩=>⟨⟨t,h i t e,o⟩,q⟩
 exact⟨hz.I,hz.len.trans hl.symm,fun i t q=>hz.slk i t (h i t q),fun i j a o1 o2=>hz.dj i j a (ow o1) (ow o2),fun i a o=>hz.nb i a (ow o),hz.oh,hz.oh0,hz.loc,hz.cel,hz.fs,hz.ex,hz.there,hz.bs,hz.ot,hz.anc⟩
end
section
variable {X:Cx}{scope:Scope}{N':List Str}{fm:List (Option Nat)}{tg iter elt:Expr}{ifs:List Expr}{pos:Pos}{t:FT}{fc:FB}{f:FE}
structure Blk (X:Cx)(scope:Scope)(N':List Str)(fm:List (Option Nat)):Prop where
 ok:BlkOk X scope N' fm
 nd:N'.Nodup
theorem zS (B:Blk X scope N' fm){z:Z X}{s0 s:Shared}(hz:z.ok s0)(g:z.go s0 s){fp:List Addr}(hf:∀b∈fp,jC X z.pins z.H b/\s0.heap.get? b=none)(ho:∀b∈fp,∃o,s.heap.get? b=some o){C Dd:Addr}(hC:s.heap.objs.size≤C)(hD:s.heap.objs.size≤Dd)
  {h1:Heap} {tk:Nat} {m:Str->Option Value} (hn:h1.Ns C m) (hd:∃o,h1.get? Dd=some o) (old:∀b o,s.heap.get? b=some o->h1.get? b=some o) :
  (⟨fun b=>z.bad b\/b∈fp\/b=C\/b=Dd,[],nU fm z.σ,z.H,iW fm z.ρ⟩:Z (X.blk scope N' C s z.H fp)).ok { s with heap:=h1,toks:=tk }:=by
 have n0:∀b,b∈fp\/b=C\/b=Dd->s0.heap.get? b=none:=fun b y=>by
  rcases y with y|y|y
  ·exact (hf b y).2
  ·subst y;exact Ext.back g.2 (Heap.get?_none_of_le hC)
  ·subst y;exact Ext.back g.2 (Heap.get?_none_of_le hD)
 have hlt:∀b∈fp,b<s.heap.objs.size:=fun b hb=>let ⟨o,e⟩:=ho b hb;Heap.lt_size e
 have e1:Ext z.bad s0.heap h1:=g.2.trans (.kept old)
 have I:=DI (tk:=tk) B.ok g.1.I hC (fun b hb=>(hf b hb).1) hlt hn old
 have k:Kp z.cn (bg (X.blk scope N' C s z.H fp) (fun b=>z.bad b\/b∈fp\/b=C\/b=Dd) z.H) s0.heap h1:=oo (X:=X) e1 fun b y=>y.imp id (n0 b)
 have sub:∀x c,(kf X.env.cells scope.names []).lookup x=some c->X.env.cells.lookup x=some c:=fun x c h=>kF (B.ok.has hz.I.ok) (fun _ _ y=>by simp at y) h
 have own:∀{i a},bU (nU fm z.σ) (iW fm z.ρ) i a->∃j x,fm[i]?=some (some j)/\N'[i]?=some x/\X.N[j]?=some x/\bU z.σ z.ρ j a:=fun {i a} ⟨⟨t,e,o⟩,q⟩=>by
  obtain⟨j,e1,e2⟩:=pR e
  obtain⟨j',e3,e4⟩:=uR q
  rw[e1] at e3;cases e3
  have hi:i<N'.length:=by rw[←B.ok.len];exact (List.getElem?_eq_some_iff.mp e1).1
  exact⟨j,N'[i],e1,List.getElem?_eq_getElem hi,(B.ok.out i j _ e1 (List.getElem?_eq_getElem hi)).1,⟨⟨t,e2,o⟩,e4⟩⟩
 have stands:∀a o,z.H a=some o->¬(z.bad a\/a∈fp\/a=C\/a=Dd):=fun a o q y=>by
  obtain⟨ob,e⟩:=hz.stands q
  exact y.elim (hz.ot a o q).1 fun y=>by rw[n0 a y] at e;cases e
 refine⟨I,by show (nU fm z.σ).length=(iW fm z.ρ).length;unfold nU iW;rw[List.length_map,List.length_map],fun i t q=>?_,fun i j a o1 o2=>?_,fun i a o=>?_,hz.oh,hz.oh,.inr (.inr (.inl rfl)),fun x c e=>.inl (hz.cel x c (sub x c e)),fun b q=>.inl ?_,fun b q=>.inr (.inl q),fun b q=>?_,fun b o e q=>?_,fun a o q=>⟨stands a o q,let ⟨ob,r1,r2⟩:=(hz.ot a o q).2;⟨ob,e1.kp a ob (hz.ot a o q).1 r1,r2⟩⟩,fun hf=>by cases hf⟩
 ·obtain⟨j,q1,q2⟩:=pR q
  obtain⟨v,e2,r,d⟩:=hz.slk j t q2
  exact⟨v,DC q1 e2,r,d.mono k fun a o h w=>e1.kp a o (hz.ot a _ h).1 w⟩
 ·obtain⟨k1,x,a1,a2,a3,a4⟩:=own o1
  obtain⟨k2,y,b1,b2,b3,b4⟩:=own o2
  have:=hz.dj k1 k2 a a4 b4
  subst this
  rw[a3] at b3;cases b3
  exact (List.getElem?_inj (List.getElem?_eq_some_iff.mp a2).1 B.nd).mp (a2.trans b2.symm)
 ·obtain⟨k1,x,a1,a2,a3,a4⟩:=own o
  have hH:z.H a=some ay:=by
   obtain⟨⟨t,e,ot⟩,q⟩:=a4
   obtain⟨v,e2,_,d2⟩:=hz.slk k1 t e
   rw[q] at e2;cases e2
   cases t with
   |val p=>cases ot
   |own ps=>obtain⟨b,e3,h,_⟩:=d2;cases e3;exact h
   |dic ks ps=>obtain⟨b,e3,h,_⟩:=d2;cases e3;exact h
  exact⟨stands a _ hH,.inr fun y=>by
   have y':z.H a=none:=y
   rw[hH] at y';cases y'⟩
 ·rcases List.mem_cons.mp (g.1.I.stkSub b q) with y|y
  ·rw[y];exact hz.loc
  ·exact hz.fs b y
 ·rcases q with q|q|q|q
  ·obtain⟨o,e⟩:=hz.there b q;exact e1.th b o e
  ·obtain⟨o,e⟩:=ho b q;exact⟨o,old b o e⟩
  ·subst q;obtain⟨o,es,ep,e,_⟩:=hn;exact⟨o,e⟩
  ·subst q;exact hd
 ·rcases q with q|q
  ·exact hz.bs b o e q
  ·have:=(hz.I.bs b o e).1
   rw[n0 b q] at this;cases this
theorem qW (B:Blk X scope N' fm)(hc:X.calm=true)(hg:∀C s H ex,NG (X.blk scope N' C s H ex) tg t)(hk:FK fm t)(ht:∀C s H ex,IU (X.blk scope N' C s H ex) ifs fc)(he:∀C s H ex,NE (X.blk scope N' C s H ex) elt f)
  {z:Z X} {s0 s:Shared} (hz:z.ok s0) {its ps:List PV} {itv:Value} (hi:Ls z tg false its s0 itv s) (hl:its.length<1000) (q:lj t fc f (iW fm z.ρ) its=some ps) {RR:Value->Addr->Result->Shared->Prop} {E:Value->Shared->Prop}
  (hRR:∀Dd C s',(z.wb [C]).ok s'->Ext z.bad s0.heap s'.heap->s0.heap.get? Dd=none->Dd≠C->ListAt (bg X (z.wb [C]).bad (gf z.H Dd ay)) s'.heap Dd ps->jC X z.pins z.H C->s0.heap.get? C=none->(∃m,s'.heap.Ns C m)->RR (.ref Dd) C (.ok .next) s') :
  W X (newList []) (fun acc s₃=>W X (newFunctionEnv scope X.env.globals (kf X.env.cells scope.names []) [] X.env.qual none .none (some X.env)) (fun cenv s₄=>
   codeAny (model X.prog X.w) X.A (.compStart (.ListComp elt [⟨tg,iter,ifs,0⟩] scope pos) 0 itv acc { cenv with scope:=relabel scope X.env }) (RR acc cenv.locals) s₄) E s₃) E s:=by
 obtain⟨it,fp,pl,tn,rfl,_,hpl,T,g,hf,st⟩:=hi
 refine wpAny_newObj_type (wpAny_newFunctionEnv B.ok.nocell (by intro y hy;simp at hy) (fun h₁ hns₁ hsb₁=>?_) B.ok.kind)
 dsimp only at hns₁ hsb₁ ⊢
 generalize hH2:s.heap.push { cls:=.type "list",dict:=none,data:=.seq ([]:List Value).toArray }=H2 at hns₁ hsb₁ ⊢
 have hC:H2.objs.size=s.heap.objs.size+1:=by rw[←hH2,Heap.size_push]
 generalize hCC:H2.objs.size=C at hns₁ hsb₁ hC ⊢
 generalize hDD:s.heap.objs.size=Dd at hC ⊢
 have hDC:Dd≠C:=by omega
 have hCle:s.heap.objs.size≤C:=by omega
 have hDle:s.heap.objs.size≤Dd:=by omega
 have lt:∀(b:Nat) (o:Obj),s.heap.get? b=some o->b<Dd:=fun b o e=>by rw[←hDD];exact Heap.lt_size e
 have old:∀b o,s.heap.get? b=some o->h₁.get? b=some o:=fun b o e=>hsb₁.extBut b o (Nat.ne_of_lt (Nat.lt_trans (lt b o e) (by rw[hC];exact Nat.lt_succ_self _))) (Heap.get?_push_of_some _ (hH2▸Heap.get?_push_of_some _ e))
 have hacc:h₁.get? Dd=some (gx [] 0):=hsb₁.extBut _ _ hDC (Heap.get?_push_of_some _ (by rw[←hH2,←hDD];exact Heap.get?_push_size _ rfl))
 have there:∀b∈fp,∃o,s.heap.get? b=some o:=fun b hb=>let ⟨o,e,_⟩:=T.obj _ _ _ st b hb;⟨o,e⟩
 have n0:∀b,b∈fp\/b=C\/b=Dd->s0.heap.get? b=none:=fun b y=>by
  rcases y with y|y|y
  ·exact (hf b y).2
  ·subst y;exact Ext.back g.2 (Heap.get?_none_of_le hCle)
  ·subst y;exact Ext.back g.2 (Heap.get?_none_of_le hDle)
 have hDf:Dd∉fp:=fun hm=>by obtain⟨o,e⟩:=there _ hm;exact Nat.lt_irrefl _ (lt _ _ e)
 have hCf:C∉fp:=fun hm=>by obtain⟨o,e⟩:=there _ hm;exact absurd (lt _ _ e) (by omega)
 have hDfs:Dd∉oT X.stack:=fun hm=>by
  obtain⟨_,o,e,_⟩:=g.1.I.stack.mem hm
  exact Nat.lt_irrefl Dd (lt Dd o e)
 have fHD:z.H Dd=none:=g.1.I.hok.fresh hDle
 have fHC:z.H C=none:=g.1.I.hok.fresh hCle
 have fC:jC X z.pins z.H C:=g.1.I.fpOk hCle fHC
 let Y:Cx:=X.blk scope N' C s z.H fp
 let bad':Addr->Prop:=fun b=>z.bad b\/b∈fp\/b=C\/b=Dd
 have iI:∀tk,(⟨bad',[],nU fm z.σ,z.H,iW fm z.ρ⟩:Z Y).ok { s with heap:=h₁,toks:=tk }:=fun tk=>zS B hz g hf there hCle hDle hns₁ ⟨_,hacc⟩ old
 have st1:tn 0 (bg Y bad' z.H) h₁:=T.keep 0 _ _ _ _ st (oo (X:=X) (bad:=fun b=>z.bad b\/b∈fp) (bad':=bad') (.kept old) fun b y=>by
  rcases y with y|y|y|y
  ·exact .inl (.inl y)
  ·exact .inl (.inr y)
  ·subst y;exact .inr (Heap.get?_none_of_le hCle)
  ·subst y;exact .inr (Heap.get?_none_of_le hDle)) fun b _=>old b
 have hpl2:∀b∈pl,¬bad' b:=fun b hb y=>by
  obtain⟨p1,p2,o,p3⟩:=hpl b hb
  rcases y with y|y|y|y
  ·exact p1 y
  ·exact p2 y
  ·subst y;exact absurd (lt _ _ p3) (by omega)
  ·subst y;exact absurd (lt _ _ p3) (by omega)
 have sub:∀x c,(kf X.env.cells scope.names []).lookup x=some c->X.env.cells.lookup x=some c:=fun x c h=>kF (B.ok.has hz.I.ok) (fun _ _ y=>by simp at y) h
 have stat:∀{oD:Obj},∀b∈fp,jC Y [(Dd,oD)] z.H b/\bad' b:=fun {oD} b hb=>by
  obtain⟨⟨f0,f1,f2,f3,f4,f5⟩,_⟩:=hf b hb
  refine⟨⟨f0,fun y=>hCf ((show b=C from y)▸hb),fun y=>?_,.inl hb,fun x c h=>f4 x c (sub x c h),fun p hp y=>?_⟩,.inr (.inl hb)⟩
  ·rcases List.mem_cons.mp (g.1.I.stkSub b y) with y|y
   ·exact f1 y
   ·exact f2 y
  ·have e:p=(Dd,oD):=by simpa [Y,Cx.blk] using hp
   subst e
   exact hDf ((show Dd=b from y)▸hb)
 have loop:∀tk,codeAny (model X.prog X.w) X.A (.compLoop (.ListComp elt [⟨tg,iter,ifs,0⟩] scope pos) 0 (.ref it) (.ref Dd) (compEnvC scope (kf X.env.cells scope.names []) C X.env)) (RR (.ref Dd) C) { s with heap:=h₁,toks:=tk }:=by
  intro tk
  refine j7 (fun n s'=>∃i σ' acc us n' jc,n=its.length+1 - i/\i≤its.length/\(⟨bad',[],σ',z.H,iW fm z.ρ⟩:Z Y).ok s'/\Ext bad' h₁ s'.heap/\tn i (bg Y bad' z.H) s'.heap/\s'.heap.get? Dd=some (gx us n')/\Ds (bg Y bad' z.H) s'.heap acc us/\acc.length≤i/\lj t fc f (iW fm z.ρ) (its.drop i)=some jc/\acc++jc=ps) ?_ (its.length+1)
   ⟨0,_,[],[],0,ps,rfl,Nat.zero_le _,iI tk,.refl,st1,hacc,rfl,Nat.le_refl _,q,rfl⟩
  rintro n s3 ⟨i,σ3,acc,us,n3,jc,rfl,hi3,ok3,x3,st3,hd3,ds3,ha3,go3,e3⟩
  have l3:=ds3.length
  have okp:(⟨bad',[(Dd,gx us n3)],σ3,z.H,iW fm z.ρ⟩:Z Y).ok s3:=ok3.pinsOf _ fun p hp=>by
   have e:p=(Dd,gx us n3):=by simpa using hp
   subst e
   exact⟨hd3,fHD,hDC,hDfs,fun v y=>by cases y⟩
  by_cases hlt:i<its.length
  ·rw[List.drop_eq_getElem_cons hlt,lj] at go3
   obtain⟨ρ4,e1,go3⟩:=Option.bind_eq_some_iff.mp go3
   obtain⟨b,e2,go3⟩:=Option.bind_eq_some_iff.mp go3
   refine aB (T.item Y rfl rfl hc _ s3 _ i its[i] okp stat hpl2 st3 (List.getElem?_eq_getElem hlt)) fun r s4 ⟨u,hr,h4⟩=>?_
   subst hr
   refine aB h4 fun _ s5 ⟨g5,d5,st5⟩=>?_
   have ok5:=pinned g5.1 (fun b hb=>(stat b hb).1) (T.obj _ _ _ st5)
   refine aB (hg C s z.H fp _ s5 its[i] u ρ4 _ ok5 d5 e1) fun _ s6 ⟨σ6,ok6,x6⟩=>?_
   obtain⟨kl,kk⟩:=hk _ _ _ e1
   refine aB (ht C s z.H fp _ s6 b _ ok6 e2) fun c s7 ⟨ec,g7⟩=>?_
   subst ec
   have still:∀{s8:Shared},((((⟨bad',[(Dd,gx us n3)],σ3,z.H,iW fm z.ρ⟩:Z Y).wp (lg fp s5.heap)).wi σ6 z.H ρ4)).ok s8->Ext bad' s5.heap s8.heap->(⟨bad',[],σ6,z.H,iW fm z.ρ⟩:Z Y).ok s8/\Ext bad' h₁ s8.heap/\tn (i+1) (bg Y bad' z.H) s8.heap/\s8.heap.get? Dd=some (gx us n3)/\Ds (bg Y bad' z.H) s8.heap acc us:=fun {s8} ok8 x8=>by
    have x9:Ext bad' s3.heap s8.heap:=g5.2.trans x8
    refine⟨(Z.ok.weak (ok8.pinsOf [] fun p hp=>nomatch hp) kl.symm fun i t e=>?_ :),x3.trans x9,T.keep _ _ _ _ _ st5 (Ext.kpD x8) fun b hb o e=>?_,?_,ds3.mono x9.kpD⟩
    ·obtain⟨j,q1,q2⟩:=pR e
     show ρ4[i]?=_
     rw[kk i j q1];exact e
    ·rcases hb with hb|hb
     ·exact uF (z:=⟨bad',[(Dd,gx us n3)],σ3,z.H,iW fm z.ρ⟩) ok8 b hb o e
     ·exact x8.kp b o (hpl2 b hb) e
    ·exact (ok8.I.pin (Dd,_) (List.mem_append_right _ (List.mem_append_left _ (List.mem_singleton.mpr rfl)))).1
   cases c with
   |false=>
    rw[if_neg Bool.false_ne_true] at go3 ⊢
    obtain⟨a1,a2,a3,a4,a5⟩:=still g7.1 (x6.trans g7.2)
    exact⟨its.length+1 - (i+1),by omega,i+1,σ6,acc,us,n3,jc,rfl,hlt,a1,a2,a3,a4,a5,by omega,go3,e3⟩
   |true=>
    rw[if_pos rfl] at go3 ⊢
    obtain⟨r,e4,go3⟩:=Option.bind_eq_some_iff.mp go3
    obtain⟨y,e5,go3⟩:=Option.bind_eq_some_iff.mp go3
    obtain⟨rest',e6,rfl⟩:=Option.map_eq_some_iff.mp go3
    refine aB (he C s z.H fp _ s7 r _ g7.1 e4) fun v s8 q8=>?_
    obtain⟨a1,a2,a3,a4,a5⟩:=still q8.1.1 (x6.trans (g7.2.trans q8.1.2))
    have dv:D (bg Y bad' z.H) s8.heap y v:=q8.2.fr e5
    refine wpAny_list_append_plain (hsz:=by rw[List.size_toArray];have:=ut;omega) (show s8.heap.PlainList Dd us.toArray from⟨n3,a4⟩) fun h9 hl9 sb9=>?_
    have kp9:∀b o,b∉[Dd]->s8.heap.get? b=some o->h9.get? b=some o:=fun b o hb e=>(sb9.2 b (by simpa using hb)).trans e
    obtain⟨n9,hl9⟩:=hl9
    have go9:=a1.turn (t:=s8.toks) (h':=h9) (fp:=[Dd]) (gw (P:=fun b=>jC Y [] z.H b/\bad' b) ⟨⟨fHD,hDC,hDfs,.inr (by show s.heap.objs.size≤Dd;omega),fun x c h y=>?_,fun p hp=>(nomatch hp)⟩,.inr (.inr (.inr rfl))⟩) kp9 (gw (P:=fun b=>∃o,h9.get? b=some o) ⟨_,hl9⟩)
    ·have k9:Kp (bg Y bad' z.H) (bg Y bad' z.H) s8.heap h9:=go9.2.kpD
     refine⟨its.length+1 - (i+1),by omega,i+1,σ6,acc++[y],us++[v],n9,rest',rfl,hlt,go9.1,a2.trans go9.2,T.keep _ _ _ _ _ a3 k9 fun b hb o e=>kp9 b o (fun w=>?_) e,?_,(a5.mono k9).app (.one (dv.m k9)),by rw[List.length_append];simp;omega,e6,by rw[List.append_assoc];exact e3⟩
     ·have w:b=Dd:=by simpa using w
      subst w
      rcases hb with hb|hb
      ·exact hDf hb
      ·exact hpl2 b hb (.inr (.inr (.inr rfl)))
     ·have e:us.toArray.push v=(us++[v]).toArray:=by simp
      rw[hl9,e];rfl
    ·obtain⟨v,o,ho,hdd⟩:=a1.I.cell x c h
     rw[y,a4] at ho
     cases ho
     cases hdd
  ·have hnil:its.drop i=[]:=List.drop_eq_nil_of_le (by omega)
   rw[hnil,lj] at go3
   cases go3
   rw[List.append_nil] at e3
   subst e3
   refine aB (T.done Y rfl rfl hc _ s3 _ i okp stat hpl2 st3 (by omega)) fun r s4 ⟨hr,I4,k4⟩=>?_
   subst hr
   have hd4:s4.heap.get? Dd=some (gx us n3):=k4 Dd _ hDf hd3
   have U:Un (oT X.stack) fp z.H z.H s.heap s4.heap:=I4.base
   have I5:Inv X z.pins z.σ z.H s4:=g.1.I.call' I4.os U I4.hok I4.bare fun b hb=>by
    obtain⟨⟨f0,f1,f2,f3,f4,f5⟩,_⟩:=hf b hb
    exact⟨f3,f1,f4,f5⟩
   obtain⟨m4,hn4,_⟩:=I4.loc
   have x4:∀a o,¬bad' a->h₁.get? a=some o->s4.heap.get? a=some o:=fun a o nb e=>k4 a o (fun y=>nb (.inr (.inl y))) (x3.kp a o nb e)
   have e04:Ext z.bad s0.heap s4.heap:=⟨fun a o nb e=>x4 a o (fun y=>y.elim nb fun y=>by rw[n0 a y] at e;cases e) (old a o (g.2.kp a o nb e)),fun a o e=>by
    obtain⟨o1,e1⟩:=g.2.th a o e
    obtain⟨o2,e2⟩:=x3.th a o1 (old a o1 e1)
    exact⟨o2,k4 a o2 (fun y=>by rw[n0 a (.inl y)] at e;cases e) e2⟩⟩
   have gg:=hz.ext I5 e04
   have zC:(z.wb [C]).ok s4:=hz.more gg (gw (P:=fun b=>s0.heap.get? b=none/\∃o,s4.heap.get? b=some o) ⟨n0 C (.inr (.inl rfl)),let ⟨o,_,_,e,_⟩:=hn4;⟨o,e⟩⟩)
   refine hRR Dd C s4 zC e04 (n0 Dd (.inr (.inr rfl))) hDC ⟨us,n3,hd4,by have:=ut;omega,Ds.mono (c:=bg Y bad' z.H) (c':=bg X (z.wb [C]).bad (gf z.H Dd ay)) (h:=s3.heap) ⟨rfl,rfl,rfl,fun a o q e=>⟨⟨?_,fun y=>?_⟩,k4 a o (fun y=>q.2 (.inr (.inl y))) e⟩⟩ ds3⟩ fC (n0 C (.inr (.inl rfl))) ⟨m4,hn4⟩
   ·show gf z.H Dd ay a=none
    rw[aA fun y=>q.2 (.inr (.inr (.inr y)))];exact q.1
   ·rcases y with y|y
    ·exact q.2 (.inl y)
    ·exact q.2 (.inr (.inr (.inl (by simpa using y))))
 refine codeAny_compStart_list (loop _) (T.self _ 0 _ _ _ _ st1 (loop _))
theorem C5 {z:Z X}{s0 s1:Shared}{h':Heap}{C:Addr}{σ:L2.St}{H:Hp}{ρ:aj}(hz:z.ok s0)(ok:((z.wb [C]).wi σ H ρ).ok s1)(fC:jC X z.pins H C)(n:s0.heap.get? C=none)(sb:Heap.SameBut C s1.heap h'):(z.wi σ H ρ).ok { s1 with heap:=h' }/\∀b o,b∉[C]->s1.heap.get? b=some o->h'.get? b=some o:=by
 obtain⟨f0,f1,f2,f3,f4,f5⟩:=fC
 have k:∀b o,b∉[C]->s1.heap.get? b=some o->h'.get? b=some o:=fun b o hb e=>sb.extBut b o (fun y=>hb (by simp[y])) e
 exact⟨hz.less (fp:=[C]) (gw n) ok (ok.I.turned (t':=s1.toks) (fun b o hb e=>sb.extBut b o hb e) f0 f1 f3 f4 f5) k,k⟩
theorem HY (B:Blk X scope N' fm)(hc:X.calm=true){fi:FI}(hi:NI X false tg iter fi)(hg:∀C s H ex,NG (X.blk scope N' C s H ex) tg t)(hk:FK fm t)(ht:∀C s H ex,IU (X.blk scope N' C s H ex) ifs fc)(he:∀C s H ex,NE (X.blk scope N' C s H ex) elt f)
  (hs:∀x,foldedSetIterable iter X.env x=pure x:=by intro _;rfl):NE X (.ListComp elt [⟨tg,iter,ifs,0⟩] scope pos) (cU fm fi t fc f):=fun z s0 r E hz q=>by
 obtain⟨its,ei,q⟩:=Option.bind_eq_some_iff.mp q
 split at q
 ·next hl=>
  obtain⟨ps,eg,rfl⟩:=Option.map_eq_some_iff.mp q
  rw[eval_ListComp]
  refine wpAny_comprehension_free (use:=none) rfl hs (pN (B.ok.has hz.I.ok)) B.ok.kind B.ok.names (aB (hi z s0 its E hz ei) fun v s1 h1=>aB h1 fun itv s2 h2=>?_)
  refine qW B hc hg hk ht he hz h2 hl eg (RR:=fun acc C=>compPost (model X.prog X.w) X.A E none (Z.post z s0 (.nw ps)) acc C) fun Dd C s' zC e04 nD hDC l fC nC ⟨m,hn⟩=>⟨m,hn,fun h' sb=>?_⟩
  obtain⟨ok,k⟩:=C5 (σ:=z.σ) (H:=z.H) (ρ:=z.ρ) hz zC fC nC sb
  have e0:Ext z.bad s0.heap h':=⟨fun a o nb e=>k a o (fun y=>by rw[show a=C by simpa using y,nC] at e;cases e) (e04.kp a o nb e),fun a o e=>let ⟨o1,e1⟩:=e04.th a o e;⟨o1,k a o1 (fun y=>by rw[show a=C by simpa using y,nC] at e;cases e) e1⟩⟩
  refine⟨⟨ok,e0⟩,Dd,rfl,nD,hz.free nD,ListAt.mono (c:=bg X (z.wb [C]).bad (gf z.H Dd ay)) (c':=bg X z.bad (gf z.H Dd ay)) ⟨rfl,rfl,rfl,fun a o q e=>⟨⟨q.1,fun y=>q.2 (.inl y)⟩,k a o (fun y=>q.2 (.inr y)) e⟩⟩ (fun o e=>k Dd o (fun y=>hDC (by simpa using y)) e) l⟩
 ·cases q
noncomputable def LJ (X:Cx)(x:Str)(g:List PV->aj->Out):Prop:=∀(y:Z X) (ps:List PV) (Dd:Addr) (s1:Shared) (E:Value->Shared->Prop),y.ok s1->jV y.bad y.H Dd->X.s₀.heap.get? Dd=none->(∀p∈X.pn++y.pins,p.1≠Dd)->ListAt (bg X y.bad (gf y.H Dd ay)) s1.heap Dd ps →
 (∀(j:Nat) t v,y.ρ[j]?=some (some t)->y.σ[j]?=some (some v)->SlOk (bg X y.bad (gf y.H Dd ay)) y.H s1.heap t v)->W X (storeName X.env x (.ref Dd)) (fun _ s2=>∃σ' H' ρ',g ps y.ρ=.nx ρ'/\(y.wi σ' H' ρ').ok s2/\Ext y.bad s1.heap s2.heap/\(H'=y.H\/H'=gf y.H Dd ay)) E s1
noncomputable def JI (i:Nat)(ps:List PV)(ρ:aj):Out:=.nx (ρ.set i (some (.own ps)))
noncomputable def Kv (i:Nat)(ps:List PV)(ρ:aj):Out:=.nx (ρ.set i (some (.val (.lst ps))))
theorem HM {i:Nat}{x:Str}(n:Nm X i x):LJ X x (JI i):=fun y ps Dd s1 E ok fr h00 hp l sk=>
 aB (qZ (t:=.own ps) ok n rfl fr h00 hp (lM l) ⟨Dd,rfl,bL,l⟩ sk) fun _ s2 ⟨σ',ok',e⟩=>⟨σ',_,_,rfl,ok',e,.inr rfl⟩
theorem Iv {i:Nat}{x:Str}(n:Nm X i x):LJ X x (Kv i):=fun y ps Dd s1 E ok fr h00 hp l sk=>
 aB (ib (p:=.lst ps) ok n (by obtain⟨its,m,g,zl,ds⟩:=l;exact⟨Dd,its,m,rfl,fr,g,zl,ds.mono A9⟩)) fun _ s2 ⟨σ',ok',e⟩=>⟨σ',_,_,rfl,ok',e,.inl rfl⟩
noncomputable def JU (o:Option RV)(g:List PV->aj->Out)(ρ:aj):Out:=match o with
 |some (.nw ps)=>g ps ρ
 |_=>.bad
noncomputable def zM (f:FE)(g:List PV->aj->Out):FS:=fun ρ=>JU (f ρ) g ρ
theorem Ab (B:Blk X scope N' fm)(hc:X.calm=true){fi:FI}(hi:NI X false tg iter fi)(hg:∀C s H ex,NG (X.blk scope N' C s H ex) tg t)(hk:FK fm t)(ht:∀C s H ex,IU (X.blk scope N' C s H ex) ifs fc)(he:∀C s H ex,NE (X.blk scope N' C s H ex) elt f)
  {x:Str} {px spos:Pos} {g:List PV->aj->Out} (hst:LJ X x g) (hsw:swapsWith (.ListComp elt [⟨tg,iter,ifs,0⟩] scope pos) (some (.Name x px)) spos.line X.env=pure true) (hs:∀x,foldedSetIterable iter X.env x=pure x:=by intro _;rfl) :
  NS X (.Assign [.Name x px] (.ListComp elt [⟨tg,iter,ifs,0⟩] scope pos) spos) (zM (cU fm fi t fc f) g):=fun z s0 E hz hb=>by
 unfold zM JU at hb ⊢
 split at hb
 ·next ps er=>
  obtain⟨its,ei,q⟩:=Option.bind_eq_some_iff.mp er
  split at q
  ·next hl=>
   obtain⟨ps',eg,e⟩:=Option.map_eq_some_iff.mp q
   cases e
   rw[exec_Assign_Name_used _ _ _ _ hsw]
   refine wpAny_bind (wpAny_standAt (wpAny_bind ?_))
   show wpAny _ X.A (do let _ ←comprehension (.ListComp elt [⟨tg,iter,ifs,0⟩] scope pos) scope X.env _ (newList []) false (eval iter X.env) (some (assign (.Name x px) X.env))) _ _ s0
   refine wpAny_bind (aB (wpAny_comprehension_free (use:=some (assign (.Name x px) X.env)) (Q:=fun _ s'=>Z.sp z s0 (g ps z.ρ) .next s') rfl hs (pN (B.ok.has hz.I.ok)) B.ok.kind B.ok.names (aB (hi z s0 its E hz ei) fun v s1 h1=>aB h1 fun itv s2 h2=>?_)) fun _ s' q=>wpAny_pure (wpAny_pure q))
   refine qW B hc hg hk ht he hz h2 hl eg (RR:=fun acc C=>compPost (model X.prog X.w) X.A E (some (assign (.Name x px) X.env)) (fun _ s'=>Z.sp z s0 (g ps z.ρ) .next s') acc C) fun Dd C s' zC e04 nD hDC l fC nC ⟨m,hn⟩=>?_
   have hn':=hn
   obtain⟨oC,es,ep,gC,cC,dC,rC⟩:=hn'
   have fC':=fC
   obtain⟨f0,f1,f2,f3,f4,f5⟩:=fC'
   have pC:((z.wb [C]).wp [(C,oC)]).ok s':=by
    refine⟨zC.I.pins_of fun p hp=>(List.mem_append.mp hp).elim (fun q=>zC.I.pin p (List.mem_append_right _ q)) fun q=>?_,zC.len,zC.slk,zC.dj,zC.nb,zC.oh,zC.oh0,zC.loc,zC.cel,zC.fs,zC.ex,zC.there,zC.bs,zC.ot,zC.anc⟩
    rw[show p=(C,oC) by simpa using q]
    exact⟨gC,f0,f1,f2,fun v y=>by
     have y:oC.data=.cell v:=y
     first
      |(rw[dC] at y;cases y)
      |(rw[cC] at y;cases y)⟩
   show W X (assign (.Name x px) X.env (.ref Dd)) _ E s'
   refine wpAny_assign_Name (aB (hst ((z.wb [C]).wp [(C,oC)]) ps Dd s' E pC ⟨(hz.free nD).1,fun y=>y.elim (hz.free nD).2 fun y=>hDC (by simpa using y)⟩ (iB hz nD) (fun p hp y=>?_) l (hz.sk nD e04 fun b y=>y.imp id fun y=>by rw[show b=C by simpa using y];exact nC)) fun _ s'' ⟨σ',H',ρ',eg,ok,e5,hH⟩=>?_)
   ·rcases List.mem_append.mp hp with q|q
    ·have:=(hz.I.pin p (List.mem_append_left _ q)).1
     rw[y,nD] at this;cases this
    ·rcases List.mem_append.mp q with q|q
     ·have:=(hz.I.pin p (List.mem_append_right _ q)).1
      rw[y,nD] at this;cases this
     ·rw[show p=(C,oC) by simpa using q] at y;exact hDC y.symm
   ·have gC2:s''.heap.get? C=some oC:=(ok.I.pin (C,oC) (List.mem_append_right _ (List.mem_append_right _ (List.mem_singleton.mpr rfl)))).1
    refine⟨m,⟨oC,es,ep,gC2,cC,dC,rC⟩,fun h' sb=>?_⟩
    have hC:H' C=none:=(ok.I.pin (C,oC) (List.mem_append_right _ (List.mem_append_right _ (List.mem_singleton.mpr rfl)))).2.1
    obtain⟨ok2,k⟩:=C5 (σ:=σ') (H:=H') (ρ:=ρ') hz (unpinned (z:=z.wb [C]) ok) ⟨hC,f1,f2,f3,f4,f5⟩ nC sb
    show Z.sp z s0 (g ps z.ρ) .next _
    rw[show g ps z.ρ=.nx ρ' from eg]
    have e0:Ext z.bad s0.heap h':=⟨fun a o nb e=>?_,fun a o e=>?_⟩
    ·refine⟨rfl,σ',H',ok2,?_⟩
     rcases hH with y|y
     ·rw[y];exact e0.stp
     ·rw[y];exact Stp.new e0 nD
    ·have ne:a≠C:=fun y=>by rw[y,nC] at e;cases e
     exact k a o (by simpa using ne) (e5.kp a o (fun y=>y.elim nb fun y=>ne (by simpa using y)) (e04.kp a o nb e))
    ·have ne:a≠C:=fun y=>by rw[y,nC] at e;cases e
     obtain⟨o1,e1⟩:=e04.th a o e
     obtain⟨o2,e2⟩:=e5.th a o1 e1
     exact⟨o2,k a o2 (by simpa using ne) e2⟩
  ·cases q
 ·exact absurd rfl hb
end
end Dp
end
section
namespace Dp
open PySem PySem.Spec L2 PyProof.Rows
section
variable {X:Cx}{a b c:Expr}{fa fb fc:FE}{op op':CmpOp}{g g':PV->PV->Option RV}{pos:Pos}
theorem LL (h:vE X (compareOp op) g)(h':vE X (compareOp op') g')(ha:NE X a fa)(hb:NE X b fb)(hc:NE X c fc)(hm:lastMarks [op,op'] [b,c]=false):NE X (.Compare a [op,op'] [b,c] pos) (FG g g' fa fb fc):=fun z s r E hz q=>by
 obtain⟨x,ex,q⟩:=Option.bind_eq_some_iff.mp q
 obtain⟨y,ey,q⟩:=Option.bind_eq_some_iff.mp q
 obtain⟨k,ek,q⟩:=Option.bind_eq_some_iff.mp q
 refine Compare_chain (aB (ha z s x E hz ex) fun v s1 q1=>chain_link (aB (hb z s1 y E q1.1.1 ey) fun u s2 q2=>
  aB (h z s2 _ _ v u _ E q2.1.1 (q1.2.ext q2.1.2).rv q2.2.rv (ii ek)) fun d s3 q3=>?_)) hm
 cases (show d=Value.bool k from q3.2)
 have g3:=(q1.1.trans q2.1).trans q3.1
 refine wpAny_truthy_bool ?_
 cases k with
 |false=>cases q;exact ite_ff ⟨g3,rfl⟩
 |true=>
  rw[if_pos rfl] at q
  obtain⟨w,ew,q⟩:=Option.bind_eq_some_iff.mp q
  exact ite_tt (chain_last (aB (hc z s3 w E q3.1.1 ew) fun w' s4 q4=>aB (h' z s4 _ _ u w' r E q4.1.1 ((q2.2.ext q3.1.2).ext q4.1.2).rv q4.2.rv q) fun d' s5 q5=>(g3.trans q4.1).post q5))
theorem L4 (h:vE X (compareOp op) g)(h':vE X (compareOp op') g')(ha:NE X a fa)(hb:NE X b fb)(hc:NE X c fc)(hm:lastMarks [op,op'] [b,c]=false):NB X (.Compare a [op,op'] [b,c] pos) (fT (FG g g' fa fb fc)):=fun z s r E hz q=>by
 obtain⟨x,ex,q⟩:=Option.bind_eq_some_iff.mp (ii q)
 obtain⟨y,ey,q⟩:=Option.bind_eq_some_iff.mp q
 obtain⟨k,ek,q⟩:=Option.bind_eq_some_iff.mp q
 refine isTrue_chain (aB (ha z s x E hz ex) fun v s1 q1=>test_link (aB (hb z s1 y E q1.1.1 ey) fun u s2 q2=>
  aB (h z s2 _ _ v u _ E q2.1.1 (q1.2.ext q2.1.2).rv q2.2.rv (ii ek)) fun d s3 q3=>?_)) hm
 cases (show d=Value.bool k from q3.2)
 have g3:=(q1.1.trans q2.1).trans q3.1
 refine wpAny_truthy_bool ?_
 cases k with
 |false=>cases q;exact ite_ff ⟨rfl,g3⟩
 |true=>
  rw[if_pos rfl] at q
  obtain⟨w,ew,q⟩:=Option.bind_eq_some_iff.mp q
  refine ite_tt (test_last (aB (hc z s3 w E q3.1.1 ew) fun w' s4 q4=>aB (h' z s4 _ _ u w' _ E q4.1.1 ((q2.2.ext q3.1.2).ext q4.1.2).rv q4.2.rv q) fun d' s5 q5=>?_))
  cases (show d'=Value.bool r from q5.2)
  exact wpAny_truthy_bool ⟨rfl,(g3.trans q4.1).trans q5.1⟩
noncomputable def Ge:Option PV->Option RV
 |some (.int i)=>some (.fz (.int (Builtin.Int.intBits i:Nat)))
 |_=>none
noncomputable def BH (f:FE):FE:=fun ρ=>(f ρ).bind fun r=>Ge r.fr
theorem Hw {x:Str}{p apos cpos:Pos}{f:FE}(ha:NE X (.Name x p) f)(hline:(apos.endLine==cpos.line)=true):NE X (.Call (.Attribute (.Name x p) "bit_length" apos) [] [] cpos) (BH f):=fun z s r E hz q=>by
 obtain⟨y,ey,q⟩:=Option.bind_eq_some_iff.mp q
 unfold Ge at q
 split at q
 ·next i ei=>
  cases q
  refine wpAny_Call_method0_late rfl hline (aB (ha z s y E hz ey) fun v s1 q1=>?_)
  obtain⟨t,rfl⟩:=q1.2.fr ei
  refine⟨"int","int.bit_length",F.plainAttrs_int,F.slot_int_bit_length,F.type_int_bit_length,typeIs_int s1 i t,?_,Calls.callWith_builtin rfl (PySem.evalArgs_none ?_)⟩
  ·exact fun a e=>nomatch e
  ·refine call_gives F.slot_int_bit_length (typeIs_int s1 i t) F.entry_int_bit_length (F.args_int_bit_length_1 _) (AutoIntG2.int_bit_length_int_0 i t) ?_
   exact⟨q1.1.trans (q1.1.1.tok _),_,rfl⟩
 ·cases q
end
end Dp
end
section
namespace Dp
open PySem PySem.Spec L2 PyProof.Rows
noncomputable abbrev oI:=List PV->List PV->Option (List PV×PV)
noncomputable abbrev hL (a:Addr):Hp:=gf h0 a ay
structure NFL (P:Program)(w:World)(K:PySem.W.Frag)(mg:Str->Option Value)(base:Heap)(cm:Bool)(k:Nat)(f:Addr)(fd:FuncData)(ps:List Str)(F:oI):Prop where
 len:∀ps0 qs r,F ps0 qs=some r->qs.length+1=ps.length
 run:∀(A:Around) (outer:List Env) (s:Shared) (args:Args) (a:Addr) (us:List Value) (ps0 qs ps1:List PV) (p:PV) (bad:Addr->Prop),(cm=true->A.handled=none)->Rm k A->Env0 P w K mg base A outer s (hL a)->BindsTo s fd args (ps.zip (.ref a::us)) →
  (∀b∈oT outer,bad b)->(∀b,bad b->∃o,s.heap.get? b=some o)->(∀b o,base.get? b=some o->¬bad b)->¬bad a->ListAt ⟨jV bad (hL a),P,w,mg⟩ s.heap a ps0->Ds ⟨jV bad (hL a),P,w,mg⟩ s.heap qs us->F ps0 qs=some (ps1,p) →
  codeAny (model P w) A (.call (.ref f) args) (fun r s'=>∃u,r=.ok (.ret u)/\s'.os=s.os/\AllBare s'.gens/\Un (oT outer) [] (hL a) (hL a) s.heap s'.heap/\D ⟨jV bad (hL a),P,w,mg⟩ s'.heap p u/\ListAt ⟨jV bad (hL a),P,w,mg⟩ s'.heap a ps1) s
theorem NFL.mono {P:Program}{w:World}{K:PySem.W.Frag}{mg:Str->Option Value}{base:Heap}{cm:Bool}{j k:Nat}{f:Addr}{fd:FuncData}{ps:List Str}{F:oI}(n:NFL P w K mg base cm j f fd ps F)(h:j≤k):NFL P w K mg base cm k f fd ps F:=
 ⟨n.len,fun A outer s args a us ps0 qs ps1 p bad hc hr=>n.run A outer s args a us ps0 qs ps1 p bad hc (hr.mono h)⟩
noncomputable def lY:Option (PR×aj)->Option (List PV×PV)
 |some (.v p,some (.own ps1)::_)=>some (ps1,p)
 |_=>none
noncomputable def r6 (a n:Nat)(g:FS):oI:=fun ps0 qs=>if qs.length+1=a then lY (g (zf n (.own ps0::qs.map .val))).res2 else none
theorem wG {o:Option (PR×aj)}{ps1:List PV}{p:PV}(h:lY o=some (ps1,p)):∃ρ,o=some (.v p,some (.own ps1)::ρ):=by
 unfold lY at h
 split at h
 ·cases h;exact⟨_,rfl⟩
 ·cases h
theorem GX {P:Program}{w:World}{K:PySem.W.Frag}{mg:Str->Option Value}{base:Heap}{cm:Bool}{k:Nat}{f:Addr}{name qual:Str}{params:Arguments}{body:List Stmt}{scope:Scope}{dV kV doc pm cdv ct oc:Value}{an od:Option Addr}
  {osl:Array (Option Value)} {N ps:List Str} {g:FS} (lk:K.lookup f=some ⟨oc,od,.func (PySem.W.fnOf name qual params body scope dV kV doc pm an cdv ct),osl⟩) (hcd:PySem.W.codeIn K cdv qual=true) (S:FnScope N ps scope)
  (hbody:∀(A:Around) (outer:List Env) (s:Shared) (H:Hp),(cm=true->A.handled=none)->Rm k (A.deeper (envOfC qual scope s.heap.objs.size f cdv))->zY (Ii P w K mg base cm N qual scope f cdv A outer s H) body g) :
  NFL P w K mg base cm (k+1) f (PySem.W.fnOf name qual params body scope dV kV doc pm an cdv ct) ps (r6 ps.length N.length g):=by
 refine⟨fun ps0 qs r q=>?_,fun A outer s args a us ps0 qs ps1 p bad hc hr e0 hb hfr hth hbs na l ds q=>?_⟩
 ·unfold r6 at q;split at q
  ·assumption
  ·cases q
 ·unfold r6 at q
  split at q
  ·next hl=>
   obtain⟨ρ,q2⟩:=wG q
   have oL:∀b o,hL a b=some o->b=a/\o=ay:=fun b o e=>by
    by_cases hb:b=a
    ·subst hb;have e:gf h0 b ay b=some o:=e;rw[bL] at e;cases e;exact⟨rfl,rfl⟩
    ·have e:gf h0 a ay b=some o:=e;rw[aA hb] at e;cases e
   obtain⟨its,n,g1,zl,dl⟩:=id l
   refine xo (H:=hL a) (ts:=.own ps0::qs.map .val) lk hcd S hc hr.depth e0 hb hfr hth hbs (by simpa using hl) ⟨.ref a,us,rfl,⟨a,rfl,a,rfl,bL,l⟩,pZ ds⟩ (fun i t e o=>?_) (fun b o e=>?_) (hbody A outer s _ hc (hr.deeper _)) q2 fun bad' σ' H' u s' hb' ok d=>?_
   ·cases i with
    |zero=>rfl
    |succ i=>
     rw[List.getElem?_cons_succ,List.getElem?_map] at e
     obtain⟨p,_,rfl⟩:=Option.map_eq_some_iff.mp e
     cases o
   ·obtain⟨rfl,rfl⟩:=oL b o e
    exact⟨rfl,na,rfl,_,g1,by intro q;exact absurd (Value.type.inj q) (by decide)⟩
   ·have b:=ok.I.base
    have an:=ok.anc rfl a (show gf h0 a ay a≠none by rw[bL];simp)
    obtain⟨v,e2,_,a',ea,hH,l'⟩:=ok.slk 0 (.own ps1) rfl
    rw[an] at e2;cases e2;cases ea
    have kp:Kp ⟨jV bad' H',P,w,mg⟩ ⟨jV bad (hL a),P,w,mg⟩ s'.heap s'.heap:=⟨rfl,rfl,rfl,fun b o q e=>⟨⟨aA (fun y=>by rw[y] at q;have q1:H' a=none:=q.1;rw[show H' a=some ay from hH] at q1;cases q1),fun w=>q.2 (hb' b w)⟩,e⟩⟩
    refine⟨u,rfl,ok.I.os,ok.I.bare,⟨b.keep,b.slot,fun b o _ n _=>n,b.there,fun b xs e=>?_,fun b o u e=>?_,fun b ps e=>?_⟩,D1.m d kp,l'.mono kp fun _ e=>e⟩
    ·cases (oL b _ e).2
    ·cases (oL b _ e).2
    ·cases (oL b _ e).2
  ·cases q
section
variable {X:Cx}{i:Nat}{x:Str}{es:List Expr}{fs:FA}{pos:Pos}
theorem D4 {cm:Bool}{k:Nat}{f:Addr}{fd:FuncData}{ps:List Str}{F:oI}(n:NFL X.prog X.w X.K X.mg X.base cm k f fd ps F)(hc:cm=true->X.calm=true)(hr:Rm k X.A)(hb:Binds X.K fd ps []){z:Z X}{s:Shared}(hz:z.ok s){a:Addr}(o:bU z.σ z.ρ i a){ps0 ps1 qs:List PV}{us:List Value}{p:PV}
  (hH:z.H a=some ay) (l:ListAt z.cn s.heap a ps0) (ds:Ds z.cn s.heap qs us) (q:F ps0 qs=some (ps1,p)) {E:Value->Shared->Prop} :
  W X (call (.ref f) (.ref a::us)) (fun v s'=>(z.wi z.σ z.H (z.ρ.set i (some (.own ps1)))).ok s'/\Stp z.bad z.H z.H s.heap s'.heap/\D z.cn s'.heap p v) E s:=by
 have e0:=hz.I.env0
 have ne:∀b,z.H b=none->b≠a:=fun b e y=>by subst y;rw[hH] at e;cases e
 have hLn:∀b,z.H b=none->hL a b=none:=fun b e=>aA (ne b e)
 have e1:Env0 X.prog X.w X.K X.mg X.base X.A X.stack s (hL a):=⟨e0.frames,e0.mod,fun b o e=>⟨(e0.bs b o e).1,hLn b (e0.bs b o e).2⟩,e0.bsz,e0.funs,fun b hb=>hLn b (e0.frf b hb),fun b u e=>(by
  by_cases hb:b=a
  ·subst hb
   have e:gf h0 b ay b=some u:=e
   rw[bL] at e;cases e
   exact⟨trivial,hz.stands hH,fun _ _ _ _=>trivial⟩
  ·have e:gf h0 a ay b=some u:=e
   rw[aA hb] at e;cases e),e0.bare⟩
 have hl:((Value.ref a::us)++[]).length=ps.length:=by rw[List.append_nil,List.length_cons,ds.length];exact n.len _ _ _ q
 have hfr:∀b∈oT X.stack,z.bad b:=fun b hb=>by
  rcases List.mem_cons.mp (hz.I.stkSub b hb) with e|e
  ·rw[e];exact hz.loc
  ·exact hz.fs b e
 let bad:Addr->Prop:=fun b=>(z.bad b\/z.H b≠none)/\b≠a
 have kp:Kp z.cn ⟨jV bad (hL a),X.prog,X.w,X.mg⟩ s.heap s.heap:=⟨rfl,rfl,rfl,fun b o q e=>⟨⟨hLn b q.1,fun y=>y.1.elim q.2 fun y=>y q.1⟩,e⟩⟩
 refine wpAny_call (codeAny_mono (n.run X.A X.stack s ⟨.ref a::us,[]⟩ a us ps0 qs ps1 p bad (fun c=>hz.I.ok.hd (hc c)) hr e1 (by have:=hb s (.ref a::us) hz.I.kIn hl;rwa [List.append_nil] at this) (fun b q=>⟨.inl (hfr b q),fun y=>(hz.ot a _ hH).1 (y▸hfr b q)⟩) (fun b q=>?_) (fun b o e q=>?_) (fun y=>y.2 rfl) (l.mono kp fun _ e=>e) (ds.mono kp) q) fun res s' hq=>?_)
 ·rcases q.1 with w|w
  ·exact hz.there b w
  ·cases e:z.H b with
   |none=>exact absurd e w
   |some o=>exact hz.stands e
 ·rcases q.1 with w|w
  ·exact hz.bs b o e w
  ·exact w (hz.I.bs b o e).2
 ·obtain⟨u,rfl,os,bare,un,d,l'⟩:=hq
  have kp2:Kp ⟨jV bad (hL a),X.prog,X.w,X.mg⟩ z.cn s'.heap s'.heap:=⟨rfl,rfl,rfl,fun b o q e=>by
   have nb:b≠a:=fun y=>by subst y;have:=q.1;rw[show hL b b=some ay from bL] at this;cases this
   refine⟨⟨?_,fun y=>q.2 ⟨.inl y,nb⟩⟩,e⟩
   cases w:z.H b with
   |none=>rfl
   |some o=>exact absurd ⟨.inr (by rw[w];simp),nb⟩ q.2⟩
  have hok:HOk X.prog X.w z.H s'.heap:=fun b o e=>by
   have e2:=hz.oh b o e
   subst e2
   obtain⟨ob,q⟩:=hz.stands e
   obtain⟨o',q'⟩:=un.there b ob q (by simp)
   exact⟨trivial,⟨o',q'⟩,fun _ _ _ _=>trivial⟩
  have U:Un (oT X.stack) [] z.H z.H s.heap s'.heap:=⟨fun b o e n f x=>un.keep b o e (hLn b n) f x,fun b o e n f x=>un.slot b o e (hLn b n) f x,fun _ _ _ n _=>n,un.there,fun _ _ e=>e,fun _ _ _ e=>e,fun b ps e=>⟨#[],by rw[e];simp⟩⟩
  have I':=hz.I.call' os U hok bare (fun b z=>absurd z (by simp))
  obtain⟨h1,h2⟩:=Z.ok.mut0 hz o I' (fun b u nb ne e=>un.keep b u e (aA ne) (fun q=>nb (hfr b q)) (by simp)) (fun b u e=>un.there b u e (by simp)) (t:=.own ps1) rfl (lM l') fun _=>⟨a,rfl,hH,l'.mono kp2 fun _ e=>e⟩
  exact⟨h1,h2,d.m kp2⟩
structure DefL (P:Program)(w:World)(K:PySem.W.Frag)(mg:Str->Option Value)(base:Heap)(cm:Bool)(k:Nat)(x:Str)(F:oI):Prop where
 ex:∃f fd ps,NFL P w K mg base cm k f fd ps F/\Binds K fd ps []/\PySem.W.keepIn K (.ref f)=true/\mg x=some (.ref f)
noncomputable def sS (tab:List (Str×Fn))(o:Option Sl)(qs:Option (List PV))(rs:List RV):Option RV:=match o with
 |some (.val (.fn x))=>(tab.lookup x).bind fun F=>o9 F qs rs
 |_=>none
noncomputable def oB (tab:List (Str×Fn))(j:Nat)(fs:FA):FE:=fun ρ=>(fs ρ).bind fun rs=>sS tab (sl ρ j) (rs.mapM RV.fr) rs
theorem EE {cm:Bool}{k:Nat}{j:Nat}{y:Str}{p:Pos}{e:Expr}{tab:List (Str×Fn)}(ht:∀x F,tab.lookup x=some F->∃j,j≤k/\DefN X.prog X.w X.K X.mg X.base cm j x F)(hc:cm=true->X.calm=true)(hr:Rm k X.A)
  (hN:X.N[j]?=some y) (hv:rL X.env.scope y) (hd:(y==("__debug__" : Str))=false) (hcd:(y==("__classdict__" : Str))=false) (ha:NA X (e::es) fs)
  (he:starEach (e::es) X.env=(false,eval e X.env)::starEach es X.env) (hpl:(backTo pos (starEach es X.env)).any (·.1)=false):NE X (.Call (.Name y p) (e::es) [] pos) (oB tab j fs):=fun z s r E hz q=>by
 obtain⟨rs,er,q⟩:=Option.bind_eq_some_iff.mp q
 unfold sS at q
 split at q
 ·next x ef=>
  obtain⟨F,eF,q⟩:=Option.bind_eq_some_iff.mp q
  obtain⟨jj,hj,d⟩:=ht x F eF
  obtain⟨f,fd,ps,n,hb,hk,hm⟩:=d.ex
  refine wpAny_Call_Name_kw (aB (J6 hN hv hd hcd z s (.fz (.fn x)) E hz (show (sl z.ρ j).map r9=_ by rw[ef];rfl)) fun v s0 q0=>?_)
  obtain⟨a,m,rfl⟩:=q0.2
  have m:X.mg x=some (.ref a):=m
  rw[hm] at m;cases m
  refine PySem.W.callWith_K (h₀:=X.base) hz.I.ok.mod.kin hk (aB (ha z pos s0 rs E q0.1.1 er) fun us s1 ⟨g1,d1⟩=>⟨g1.1.I.kIn,?_⟩) he hpl
  exact aB (vU (n.mono hj) hc hr hb g1.1 d1 q) fun u s2 q2=>(q0.1.trans g1).post q2
 ·cases q
noncomputable def o6 (F:Option oI)(o:Option Sl)(qs:Option (List PV))(i:Nat)(t:FT)(ρ:aj):Out:=match F,o,qs with
 |some F,some (.own ps),some qs=>match F ps qs with
  |some (ps1,p)=>FR (t p (ρ.set i (some (.own ps1))))
  |none=>.bad
 |_,_,_=>.bad
noncomputable def F3 (F:oI)(i:Nat)(fs:FA)(t:FT):FS:=fun ρ=>o6 (some F) (sl ρ i) ((fs ρ).bind fun rs=>rs.mapM RV.fr) i t ρ
noncomputable def Lh (tab:List (Str×oI))(o:Option Sl):Option oI:=match o with
 |some (.val (.fn x))=>tab.lookup x
 |_=>none
noncomputable def oW (tab:List (Str×oI))(j i:Nat)(fs:FA)(t:FT):FS:=fun ρ=>o6 (Lh tab (sl ρ j)) (sl ρ i) ((fs ρ).bind fun rs=>rs.mapM RV.fr) i t ρ
theorem tT {cm:Bool}{k:Nat}{f:Addr}{fd:FuncData}{ps:List Str}{F:oI}{tg:Expr}{t:FT}{xp fp cpos:Pos}{g:Str}(n:NFL X.prog X.w X.K X.mg X.base cm k f fd ps F)(hbi:Binds X.K fd ps [])(hk:PySem.W.keepIn X.K (.ref f)=true)(hc:cm=true->X.calm=true)(hr:Rm k X.A)
  (hN:X.N[i]?=some x) (hv:rL X.env.scope x) (hd:(x==("__debug__" : Str))=false) (hcd:(x==("__classdict__" : Str))=false) (ha:NA X es fs) (hpl:(backTo cpos (starEach es X.env)).any (·.1)=false) (hg:NG X tg t)
  (hs:swapsWithSole [tg] (.Call (.Name g fp) (.Name x xp::es) [] cpos) pos.line X.env=pure false) (hw:swappedStores [tg] (.Call (.Name g fp) (.Name x xp::es) [] cpos) X.env=pure none) (h1:(assignEach [tg] X.env).map (·.2)=[assign tg X.env])
  {z:Z X} {s:Shared} {E:Value->Shared->Prop} (hz:z.ok s) (hload:∀(s:Shared) Q,z.ok s->(∀s',z.go s s'->Q (.ref f) s')->W X (eval (.Name g fp) X.env) Q E s) (hb:o6 (some F) (sl z.ρ i) ((fs z.ρ).bind fun rs=>rs.mapM RV.fr) i t z.ρ≠.bad) :
  W X (exec (.Assign [tg] (.Call (.Name g fp) (.Name x xp::es) [] cpos) pos) X.env) (Z.sp z s (o6 (some F) (sl z.ρ i) ((fs z.ρ).bind fun rs=>rs.mapM RV.fr) i t z.ρ)) E s:=by
 unfold o6 FR at hb ⊢
 split at hb
 ·next F' ps0 qs hF ho hq=>
  cases hF
  split at hb
  ·next ps1 p hr'=>
   split at hb
   ·next ρ' et=>
    obtain⟨rs,er,eq⟩:=Option.bind_eq_some_iff.mp hq
    refine wpAny_Assign_stores (wpAny_Call_Name_kw (hload s _ hz fun s0 g0=>?_)) hs hw
    refine PySem.W.callWith_K (h₀:=X.base) hz.I.ok.mod.kin hk ?_ rfl hpl
    refine Calls.spliced_cons ?_
    obtain⟨v,e2,_,a,rfl,hH,l⟩:=g0.1.slk i _ (hV ho)
    refine mK g0.1 e2 hN hv hd hcd (aB (ha z cpos s0 rs _ g0.1 er) fun us s1 ⟨g1,d1⟩=>⟨g1.1.I.kIn,?_⟩)
    have oa:bU z.σ z.ρ i a:=⟨⟨_,hV ho,rfl⟩,e2⟩
    have l1:ListAt z.cn s1.heap a ps0:=l.mono g1.2.kpD fun o e=>g1.2.kp a o (hz.ot a _ hH).1 e
    refine aB (D4 n hc hr hbi g1.1 oa hH l1 (d1.fr eq) hr') fun v s2 ⟨ok2,t2,d2⟩=>?_
    rw[h1]
    exact aB (hg (z.wi z.σ z.H (z.ρ.set i (some (.own ps1)))) s2 p v ρ' E ok2 d2 et) fun _ s3 ⟨σ3,ok3,x3⟩=>⟨rfl,σ3,z.H,ok3,((g0.2.trans g1.2).stp.trans t2).trans x3.stp⟩
   ·exact absurd rfl hb
  ·exact absurd rfl hb
 ·exact absurd rfl hb
theorem Ia {cm:Bool}{k j:Nat}{F:oI}{tg:Expr}{t:FT}{xp fp cpos:Pos}{g:Str}(d:DefL X.prog X.w X.K X.mg X.base cm j g F)(hj:j≤k)(hgl:Gl X g)(hgd:(g==("__debug__" : Str))=false)(hc:cm=true->X.calm=true)(hr:Rm k X.A)
  (hN:X.N[i]?=some x) (hv:rL X.env.scope x) (hd:(x==("__debug__" : Str))=false) (hcd:(x==("__classdict__" : Str))=false) (ha:NA X es fs) (hpl:(backTo cpos (starEach es X.env)).any (·.1)=false) (hg:NG X tg t)
  (hs:swapsWithSole [tg] (.Call (.Name g fp) (.Name x xp::es) [] cpos) pos.line X.env=pure false) (hw:swappedStores [tg] (.Call (.Name g fp) (.Name x xp::es) [] cpos) X.env=pure none) (h1:(assignEach [tg] X.env).map (·.2)=[assign tg X.env]) :
  NS X (.Assign [tg] (.Call (.Name g fp) (.Name x xp::es) [] cpos) pos) (F3 F i fs t):=fun z s E hz hb=>by
 obtain⟨f,fd,ps,n,hbi,hk,hm⟩:=d.ex
 exact tT (n.mono hj) hbi hk hc hr hN hv hd hcd ha hpl hg hs hw h1 hz (fun s Q hz h=>oe hz.I hgl hm (h s hz.refl) hgd) hb
theorem EY {cm:Bool}{k j:Nat}{y:Str}{tab:List (Str×oI)}{tg:Expr}{t:FT}{xp fp cpos:Pos}(ht:∀x F,tab.lookup x=some F->∃j,j≤k/\DefL X.prog X.w X.K X.mg X.base cm j x F)(hc:cm=true->X.calm=true)(hr:Rm k X.A)
  (hN':X.N[j]?=some y) (hv':rL X.env.scope y) (hd':(y==("__debug__" : Str))=false) (hcd':(y==("__classdict__" : Str))=false)
  (hN:X.N[i]?=some x) (hv:rL X.env.scope x) (hd:(x==("__debug__" : Str))=false) (hcd:(x==("__classdict__" : Str))=false) (ha:NA X es fs) (hpl:(backTo cpos (starEach es X.env)).any (·.1)=false) (hg:NG X tg t)
  (hs:swapsWithSole [tg] (.Call (.Name y fp) (.Name x xp::es) [] cpos) pos.line X.env=pure false) (hw:swappedStores [tg] (.Call (.Name y fp) (.Name x xp::es) [] cpos) X.env=pure none) (h1:(assignEach [tg] X.env).map (·.2)=[assign tg X.env]) :
  NS X (.Assign [tg] (.Call (.Name y fp) (.Name x xp::es) [] cpos) pos) (oW tab j i fs t):=fun z s E hz hb=>by
 unfold oW at hb ⊢
 cases ho:Lh tab (sl z.ρ j) with
 |none=>rw[ho] at hb;exact absurd rfl hb
 |some F=>
  rw[ho] at hb
  have ho':=ho
  unfold Lh at ho'
  split at ho'
  ·next g ef=>
   obtain⟨jj,hj,d⟩:=ht g F ho'
   obtain⟨f,fd,ps,n,hbi,hk,hm⟩:=d.ex
   refine tT (n.mono hj) hbi hk hc hr hN hv hd hcd ha hpl hg hs hw h1 hz (fun s Q hz' h=>?_) hb
   have:=J6 (pos:=fp) hN' hv' hd' hcd' z s (.fz (.fn g)) E hz' (show (sl z.ρ j).map r9=_ by rw[ef];rfl)
   exact aB this fun v s1 q=>by
    obtain⟨a,m,rfl⟩:=q.2
    have m:X.mg g=some (.ref a):=m
    rw[hm] at m;cases m
    exact h s1 q.1
  ·cases ho'
end
end Dp
end
section
namespace Dp
open PySem PySem.Spec L2 PyProof.Rows
section
variable {X:Cx}{o:Expr}{es:List Expr}{fo:FE}{fs:FA}{pos:Pos}
structure MthN (X:Cx)(T:String)(name:Str)(id:String)(g:PV->List PV->Option RV):Prop where
 pa:PlainAttrs T
 slot:Slot T name id
 hty:typeOf (.builtin id)=pure (.type "method_descriptor")
 ty:∀(z:Z X) (s:Shared) p qs r u,g p qs=some r->Rv z s.heap p u->s.TypeIs u T/\∀b,u=.ref b->∃ob,s.heap.get? b=some ob/\ob.dict=none
 call:∀(z:Z X) (s:Shared) p u qs us r E,z.ok s->Rv z s.heap p u->Rvs z s.heap qs us->g p qs=some r->W X (call (.builtin id) (u::us)) (Z.post z s r) E s
structure Mc (X:Cx)(o:Expr)(name:Str)(apos cpos:Pos)(es:List Expr):Prop where
 base:attributeBase o name X.env (eval o X.env)=eval o X.env
 line:(apos.endLine==cpos.line)=true
 few:((backTo cpos (starEach es X.env)).all (fun x=>!x.1)&&(backToKw cpos (keywordEach [] X.env)).all (fun x=>x.1.isSome)&&decide (es.length+([]:List Keyword).length+(if ([]:List Keyword).isEmpty then 0 else 1)<30))=true
 ns:∀e r,es=e::r->starEach (e::r) X.env=(false,eval e X.env)::starEach r X.env/\(backTo cpos (starEach r X.env)).any (·.1)=false
noncomputable def AR (g:PV->List PV->Option RV)(fo:FE)(fs:FA):FE:=fun ρ=>(fo ρ).bind fun x=>(fs ρ).bind fun rs=>g x.pv (rs.map RV.pv)
theorem Jy {T:String}{name:Str}{id:String}{g:PV->List PV->Option RV}(m:MthN X T name id g){apos cpos:Pos}(c:Mc X o name apos cpos es)(ho:NE X o fo)(ha:NA X es fs)(h0:es=[]->fs=ag):NE X (.Call (.Attribute o name apos) es [] cpos) (AR g fo fs):=fun z s r E hz q=>by
 obtain⟨x,ex,q⟩:=Option.bind_eq_some_iff.mp q
 obtain⟨rs,er,q⟩:=Option.bind_eq_some_iff.mp q
 cases es with
 |nil=>
  refine wpAny_Call_method0_late c.base c.line (aB (ho z s x E hz ex) fun u s1 q1=>?_)
  obtain⟨t1,t2⟩:=m.ty z s1 _ _ r u q q1.2.rv
  rw[h0 rfl] at er;cases er
  exact⟨T,id,m.pa,m.slot,m.hty,t1,t2,Calls.callWith_builtin rfl (PySem.evalArgs_none (aB (m.call z s1 _ u _ [] r E q1.1.1 q1.2.rv .nil q) fun v s2 q2=>q1.1.post q2))⟩
 |cons e0 es0=>
  refine wpAny_Call_method_late c.base c.few c.line rfl (aB (ho z s x E hz ex) fun u s1 q1=>?_)
  obtain⟨t1,t2⟩:=m.ty z s1 _ _ r u q q1.2.rv
  refine⟨T,id,m.pa,m.slot,m.hty,t1,t2,?_⟩
  obtain⟨hs,hp⟩:=c.ns e0 es0 rfl
  have hA:=ha z cpos s1 rs E q1.1.1 er
  rw[hs] at hA ⊢
  refine Calls.callWith_builtin (by show (false || (backTo cpos (starEach es0 X.env)).any (·.1))=false;rw[hp]<;>rfl) (Calls.evalArgs_plain ?_)
  exact aB hA fun us s2 ⟨g2,d2⟩=>aB (m.call z s2 _ u _ us r E g2.1 (q1.2.ext g2.2).rv d2.rv q) fun v s3 q3=>(q1.1.trans g2).post q3
noncomputable def uA:PV->List PV->Option RV
 |.dct ks ps,[k]=>(i8 k).map fun k=>.fz ((nu ks ps k).getD .non)
 |.dct ks ps,[k,x]=>(i8 k).bind fun k=>match nu ks ps k with
  |some p=>some (.fz p)
  |none=>if G6 x=true then none else some (.fz x)
 |_,_=>none
theorem AT {z:Z X}{s:Shared}{ks:List fP}{ps:List PV}{u:Value}(d:Rv z s.heap (.dct ks ps) u):s.TypeIs u "dict"/\∀b,u=.ref b->∃ob,s.heap.get? b=some ob/\ob.dict=none:=by
 obtain⟨a,kus,rfl,_,y,dd,_⟩:=d.rd
 refine⟨dd.typeIs,fun b e=>?_⟩
 cases e
 obtain⟨ob,_,_,h1,h2,_⟩:=dd
 exact⟨ob,h1,h2.2.1⟩
theorem Jx:MthN X "dict" "get" "dict.get" uA where
 pa:=PySem.F.plainAttrs_dict
 slot:=PySem.F.slot_dict_get
 hty:=PySem.F.type_dict_get
 ty:=fun z s p qs r u e d=>by
  unfold uA at e
  split at e
  ·exact AT d
  ·exact AT d
  ·cases e
 call:=fun z s p u qs us r E hz d ds e=>by
  unfold uA at e
  split at e
  ·next ks ps k0=>
   obtain⟨k,ek,rfl⟩:=Option.map_eq_some_iff.mp e
   obtain⟨v,rfl,dv⟩:=ds.one
   obtain⟨a,kus,rfl,_,y,dd,zl,hk,dps⟩:=d.rd
   obtain⟨h1,h2⟩:=lT (y:=k) hk dps
   refine call_meetsIn PySem.F.slot_dict_get dd.typeIs PySem.F.entry_dict_get (PySem.F.args_dict_get_2 _ _) (meets_dict_get (bq X.prog X.w) a (pP (gK ek dv.rd)) y) ⟨_,dd.mapOf,hz.tok _,?_⟩
   cases hd:nu ks ps k with
   |none=>rw[h2 hd];exact rfl
   |some p=>obtain⟨w,e1,dw⟩:=h1 p hd;rw[e1];exact dw
  ·next ks ps k0 x=>
   obtain⟨k,ek,e⟩:=Option.bind_eq_some_iff.mp e
   obtain⟨v,w0,rfl,dv,dx⟩:=ds.two
   obtain⟨a,kus,rfl,_,y,dd,zl,hk,dps⟩:=d.rd
   obtain⟨h1,h2⟩:=lT (y:=k) hk dps
   refine call_meetsIn PySem.F.slot_dict_get dd.typeIs PySem.F.entry_dict_get (PySem.F.args_dict_get_3 _ _ _) (meets_dict_get_default (bq X.prog X.w) a (pP (gK ek dv.rd)) y w0) ⟨_,dd.mapOf,?_⟩
   split at e
   ·next p hd=>
    cases e
    obtain⟨w,e1,dw⟩:=h1 p hd
    rw[e1];exact⟨hz.tok _,dw⟩
   ·next hd=>
    split at e
    ·cases e
    ·next hn=>
     cases e
     rw[h2 hd]
     exact⟨hz.tok _,D1.m (dx.fz (by simpa using hn)) .refl⟩
  ·cases e
end
end Dp
end
section
namespace Dp
open PySem PySem.Spec L2 PyProof.Rows
structure Gd where
 bi:List Str:=[]
 nis:List (Str×Int):=[]
 tups:List (Str×List PV):=[]
 vals:List Str:=[]
 fns:List (Str×Fn):=[]
 dcts:List (Str×List fP×List PV):=[]
 tab:List (Str×Fn):=[]
 lents:List (Str×oI):=[]
structure Lc where
 sc:Scope
 N:List Str
 top:Bool:=true
 lent:Bool:=false
 own:List Str:=[]
 frz:List (Nat×List Nat):=[]
 alt:List (Nat×Nat):=[]
 cmp:List ((Nat×Nat)×List Str):=[]
 dic:List Str:=[]
structure Hk where
 e:Gd->(Lc->Expr->FE)->(Lc->Expr->FB)->Lc->Expr->Option FE:=fun _ _ _ _ _=>none
 i:Gd->Lc->(Expr->FE)->Expr->Expr->Option FI:=fun _ _ _ _ _=>none
 b:Gd->(Lc->Expr->FE)->(Lc->Expr->FB)->Lc->Expr->Option FB:=fun _ _ _ _ _=>none
 s:Gd->(Lc->Expr->FE)->(Lc->Expr->FB)->(Lc->Stmt->FS)->Lc->Stmt->Option FS:=fun _ _ _ _ _ _=>none
structure Gc extends Gd where
 hk:Hk:={}
noncomputable def IY (x:Str):List Str->Option Nat
 |[]=>none
 |y::r=>if x=y then some 0 else (IY x r).map (·+1)
theorem wo {x:Str}:∀{l:List Str} {i:Nat},IY x l=some i->l[i]?=some x
 |[],_,h=>by cases h
 |y::r,i,h=>by
  unfold IY at h
  split at h
  ·next e=>cases h;rw[e];rfl
  ·obtain⟨j,e,rfl⟩:=Option.map_eq_some_iff.mp h
   rw[List.getElem?_cons_succ];exact wo e
noncomputable def Dw (x:Str):Bool:=x == "__debug__" || x == "__classdict__" || x == "__name__"
noncomputable def bx:FE:=fun _=>none
noncomputable def mv:Expr->Bool
 |.Starred _ _=>false
 |_=>true
theorem ig {e:Expr}(h:mv e=true)(es:List Expr)(env:Env):starEach (e::es) env=(false,eval e env)::starEach es env:=by
 cases e<;>first|rfl|(cases h)
theorem jK {pos:Pos}{env:Env}:∀{es:List Expr},es.all mv=true->(backTo pos (starEach es env)).any (·.1)=false
 |[],_=>rfl
 |e::es,h=>by
  rw[List.all_cons,Bool.and_eq_true] at h
  rw[ig h.1]
  exact jK (es:=es) h.2
noncomputable def M9 (L:Lc)(x:Str):Bool:=match L.sc.names.lookup x with
 |some .local=>true
 |some .cell=>true
 |some .free=>true
 |_=>false
noncomputable def glob (L:Lc)(x:Str):Bool:=L.sc.names.lookup x==some .globalImplicit&&!Dw x
noncomputable def slot (L:Lc)(x:Str):Option Nat:=if M9 L x&&!Dw x then IY x L.N else none
noncomputable def gB (L:Lc)(x:Str):Option Nat:=if L.sc.names.lookup x==some .local || L.top&&L.sc.names.lookup x==some .cell then (IY x L.N).bind (fun i=>if L.lent&&i==0 then none else some i) else none
noncomputable def LI (x:Str):FE:=if x = "int" then fC (.ty "int") else if x = "bool" then fC (.ty "bool") else if x = "str" then fC (.ty "str") else if x = "list" then fC (.ty "list") else if x = "tuple" then fC (.ty "tuple") else if x = "dict" then fC (.ty "dict") else bx
noncomputable def AM (G:Gc)(L:Lc)(x:Str):FE:=
 match slot L x with
 |some i=>fV i
 |none=>if glob L x then (match G.nis.lookup x with
  |some i=>fC (.int i)
  |none=>match G.tups.lookup x with
   |some ps=>fC (.ktu ps)
   |none=>if G.vals.contains x then fC (.fn x)
    else match G.dcts.lookup x with
     |some kp=>fC (.dct kp.1 kp.2)
     |none=>if G.bi.contains x then LI x else bx) else bx
noncomputable def IR (f:Expr->FE):List Expr->FA
 |[]=>ag
 |e::es=>aa (f e) (IR f es)
noncomputable def vA (f:Expr->FE)(es:List Expr):FA:=if es.all mv then IR f es else fun _=>none
noncomputable def Db (L:Lc)(p:Pos):Bool:=L.alt.contains (p.line,p.col)
noncomputable def Ly (x:Str)(alt:Bool)(n:Nat)(fs:FA):FE:=
 if x = "len" then fB j8 fs else if x = "abs" then fB Bm fs else if x = "all" then fB C6 fs else if x = "any" then fB Gq fs
 else if x = "isinstance" then fB tG fs else if x = "sorted" then (if alt then fB iq fs else fB iu fs)
 else if x = "max" then (if n=2 then fB uC fs else fB FY fs) else if x = "min" then (if n=2 then fB nr fs else fB Fm fs)
 else if x = "sum" then fB zU fs else if x = "int" then fB wj fs else if x = "tuple" then (if alt then fB rp fs else fB lI fs)
 else if x = "list" then fB jR fs else if x = "range" then fB tS fs else if x = "str" then fB G8 fs else bx
noncomputable def CO (G:Gc)(L:Lc)(f:Expr->FE)(x:Str)(args:List Expr)(pos:Pos):FE:=
 match slot L x with
 |some i=>if args.isEmpty then bx else oB G.tab i (vA f args)
 |none=>if glob L x then (match G.fns.lookup x with
  |some F=>if args.isEmpty then Cd F else av F (vA f args)
  |none=>if G.bi.contains x&&!args.isEmpty then Ly x (Db L pos) args.length (vA f args) else bx) else bx
noncomputable def Ms:Nat->Expr->List Str
 |_+1,.Name x _=>[x]
 |n+1,.Tuple es _ _=>es.flatMap (Ms n)
 |_,_=>[]
noncomputable def Lz (f:Expr->FT):List Expr->ze
 |[]=>g0
 |e::es=>gC (f e) (Lz f es)
noncomputable def vT:Nat->Lc->Expr->FT
 |_+1,L,.Name x _=>match gB L x with
  |some i=>gN i
  |none=>fun _ _=>none
 |n+1,L,.Tuple es _ _=>if es.all mv then jm es.length (Lz (vT n L) es) else fun _ _=>none
 |_,_,_=>fun _ _=>none
noncomputable def JZ:Nat->Lc->Expr->List Nat
 |_+1,L,.Name x _=>(gB L x).toList
 |n+1,L,.Tuple es _ _=>es.flatMap (JZ n L)
 |_,_,_=>[]
noncomputable def GB:Expr->Bool
 |.Set _ _ _=>false
 |_=>true
noncomputable def yI:Expr->Bool
 |.Tuple _ _ _=>true
 |_=>false
noncomputable def E8 (L:Lc):Expr->Bool
 |.Name x _=>L.own.contains x
 |_=>false
noncomputable def vI (G:Gc)(L:Lc)(f:Expr->FE)(own:Bool)(tg it:Expr):FI:=
 if own then Ju (f it) else match G.hk.i G.toGd L f tg it with
 |some g=>g
 |none=>match it with
 |.Call (.Name x _) [a] [] p=>
  if x = "range"&&glob L "range"&&G.bi.contains "range" then kN lq (vA f [a])
  else if x = "enumerate"&&glob L "enumerate"&&G.bi.contains "enumerate"&&yI tg then np (vA f [a]) else m8 (f it)
 |.Call (.Name x _) [a,b] [] _=>if x = "range"&&glob L "range"&&G.bi.contains "range" then kN Bp (vA f [a,b]) else m8 (f it)
 |.Call (.Name x _) [a,b,d] [] _=>if x = "range"&&glob L "range"&&G.bi.contains "range" then kN GY (vA f [a,b,d]) else m8 (f it)
 |_=>m8 (f it)
noncomputable def Cb (sc o:Scope):Scope:={ sc with names:=sc.names.map fun (n,k)=>if k==.free&&o.kind==.function&&o.names.lookup n==some .cell then (n,.cell) else (n,k) }
noncomputable def vO (f:Expr->FE):Option Expr->FO
 |none=>zX
 |some e=>zW (f e)
noncomputable abbrev RE:=Lc->Expr->FE
noncomputable abbrev RB:=Lc->Expr->FB
noncomputable def LA (L:Lc)(tg:Expr)(N2:List Str):List (Option Nat):=N2.map fun x=>if (Ms 5 tg).contains x then none else IY x L.N
noncomputable def KS (L:Lc)(sc:Scope)(tg:Expr)(N2:List Str):Lc:={ L with sc:=Cb sc L.sc,N:=N2,top:=false,own:=L.own.filter fun x=>!(Ms 5 tg).contains x }
noncomputable def MZ (L:Lc)(sc:Scope)(tg it:Expr)(N2:List Str):Bool:=
 sr sc.kind sc.names (fun x=>L.sc.names.lookup x) L.N N2 (LA L tg N2)&&decide N2.Nodup&&(JZ 5 (KS L sc tg N2) tg).all (fun i=>(LA L tg N2)[i]?==some none)&&GB it
noncomputable def Nu (rB:RB)(L:Lc):List Expr->FB
 |[]=>gj
 |[c]=>rB L c
 |_=>fun _=>none
noncomputable def LD (G:Gc)(rE:RE)(rB:RB)(L:Lc)(elt tg it:Expr)(ifs:List Expr)(sc:Scope)(p:Pos):FE:=
 match L.cmp.lookup (p.line,p.col) with
 |none=>bx
 |some N2=>if MZ L sc tg it N2 then cU (LA L tg N2) (vI G L (rE L) (E8 L it) tg it) (vT 5 (KS L sc tg N2) tg) (Nu rB (KS L sc tg N2) ifs) (rE (KS L sc tg N2) elt) else bx
noncomputable def hK:Expr->Bool
 |.Slice _ _ none _=>false
 |_=>true
noncomputable def M3:Const->FE
 |.int i=>fC (.int i)
 |.bool b=>fC (.bl b)
 |.none=>fC .non
 |.str x=>fC (.str x)
 |_=>bx
noncomputable def Na (op:UnaryOp)(f:FE):FE:=match op with
 |.USub=>HH f
 |.Not=>xh f
 |_=>bx
noncomputable def M4 (f:Expr->FE)(a:Expr)(ops:List CmpOp)(bs:List Expr):FE:=match ops with
 |[]=>bx
 |o1::ops=>match bs with
  |[]=>bx
  |b::bs=>match ops with
   |[]=>match bs with
    |[]=>if behindInMarks o1 b then bx else ah (qI o1) (f a) (f b)
    |_::_=>bx
   |o2::ops=>match ops with
    |_::_=>bx
    |[]=>match bs with
     |[]=>bx
     |c::bs=>match bs with
      |_::_=>bx
      |[]=>if lastMarks [o1,o2] [b,c] then bx else FG (qI o1) (qI o2) (f a) (f b) (f c)
noncomputable def M8 (f:Expr->FE)(op:BoolOp)(vs:List Expr)(p:Pos):FE:=match vs with
 |[]=>bx
 |a::r=>match r with
  |[]=>rj (f a)
  |b::r=>match op with
   |.And=>jT (f a) (f (.BoolOp .And (b::r) p))
   |.Or=>KF (f a) (f (.BoolOp .Or (b::r) p))
noncomputable def No (G:Gc)(rE:RE)(rB:RB)(L:Lc)(elt:Expr)(gs:List Comprehension)(sc:Scope)(p:Pos):FE:=match gs with
 |[]=>bx
 |g::gs=>match gs with
  |_::_=>bx
  |[]=>match g with
   |⟨tg,it,ifs,n⟩=>if n=0 then LD G rE rB L elt tg it ifs sc p else bx
noncomputable def HK:Expr->Bool
 |.UnaryOp op a _=>match op with
  |.USub=>match a with
   |.Constant c _ _=>match c with
    |.int i=>decide (i=1)
    |_=>false
   |_=>false
  |_=>false
 |_=>false
noncomputable def MQ (L:Lc)(f:Expr->FE)(a ix:Expr)(p:Pos):FE:=match ix with
 |.Slice lo hi st _=>match st with
  |none=>if Db L p then Ks (f a) (vO f lo) (vO f hi) else CY (f a) (vO f lo) (vO f hi)
  |some s=>if HK s&&lo.isNone&&hi.isNone then BJ (f a) else bx
 |b=>if Db L p then ah DR (f a) (f b) else ah be (f a) (f b)
noncomputable def M6 (G:Gc)(L:Lc)(f:Expr->FE)(d:Str)(q:Pos)(m:Str)(ap:Pos)(args:List Expr)(p:Pos):FE:=match args with
 |[]=>if m = "bit_length"&&ap.endLine==p.line then BH (f (.Name d q)) else bx
 |a::r=>if m = "get"&&ap.endLine==p.line&&(a::r).all mv&&decide (r.length<20) then AR uA (f (.Name d q)) (vA f (a::r)) else bx
noncomputable def Ki (G:Gc)(L:Lc)(f:Expr->FE)(fn:Expr)(args:List Expr)(kws:List Keyword)(p:Pos):FE:=match kws with
 |_::_=>bx
 |[]=>match fn with
  |.Name x _=>CO G L f x args p
  |.Attribute o m ap=>match o with
   |.Name d q=>M6 G L f d q m ap args p
   |_=>bx
  |_=>bx
noncomputable def L1 (G:Gc)(rE:RE)(rB:RB)(L:Lc):Expr->FE
 |.Constant c _ _=>M3 c
 |.Name x _=>AM G L x
 |.BinOp a op b _=>ah (MS op) (rE L a) (rE L b)
 |.UnaryOp op a _=>Na op (rE L a)
 |.Compare a ops bs _=>M4 (rE L) a ops bs
 |.BoolOp op vs p=>M8 (rE L) op vs p
 |.IfExp c a b _=>IW (rB L c) (rE L a) (rE L b)
 |.Tuple es _ _=>cJ (vA (rE L) es)
 |.List es _=>iK (vA (rE L) es)
 |.ListComp elt gs sc p=>No G rE rB L elt gs sc p
 |.Subscript a ix p=>MQ L (rE L) a ix p
 |.Call fn args kws p=>Ki G L (rE L) fn args kws p
 |_=>bx
noncomputable def Cu:Expr->Bool
 |.UnaryOp .Not _ _=>false
 |.BoolOp _ _ _=>false
 |.IfExp _ _ _ _=>false
 |.Compare _ _ _ _=>false
 |_=>true
noncomputable def vW (f:Expr->FB)(op:BoolOp):List Expr->FB
 |[]=>fun _=>none
 |[a]=>f a
 |a::r=>match op with
  |.And=>jv (f a) (vW f op r)
  |.Or=>uP (f a) (vW f op r)
noncomputable def LF (rE:RE)(rB:RB)(L:Lc):Expr->FB
 |.Compare a [op] [b] _=>if behindInMarks op b then fun _=>none else fT (ah (qI op) (rE L a) (rE L b))
 |.Compare a [o1,o2] [b,c] _=>if lastMarks [o1,o2] [b,c] then fun _=>none else fT (FG (qI o1) (qI o2) (rE L a) (rE L b) (rE L c))
 |.BoolOp op vs _=>vW (rB L) op vs
 |.UnaryOp .Not a _=>i4 (rB L a)
 |e=>if Cu e then fT (rE L e) else fun _=>none
noncomputable def L8 (G:Gc)(rE:RE)(rB:RB)(L:Lc):Expr->FE
 |.ListComp elt [g] sc p=>L1 G rE rB L (.ListComp elt [g] sc p)
 |e=>match G.hk.e G.toGd rE rB L e with
  |some f=>f
  |none=>L1 G rE rB L e
noncomputable def zR (G:Gc):Nat->RE×RB
 |0=>(fun _ _=>bx,fun _ _ _=>none)
 |n+1=>(L8 G (zR G n).1 (zR G n).2,fun L e=>match G.hk.b G.toGd (zR G n).1 (zR G n).2 L e with
  |some f=>f
  |none=>LF (zR G n).1 (zR G n).2 L e)
noncomputable def GZ (L:Lc)(v:Expr)(t:Str)(tp:Pos):Bool:=match v with
 |.ListComp _ _ s p|.SetComp _ _ s p|.DictComp _ _ _ s p=>L.sc.kind==.function&&L.sc.names.lookup t==some .local&&tp.line==p.line&&!(s.names.any fun (n,k)=>n==t&&(k==.local || k==.cell))
 |_=>false
noncomputable def ER:Expr->Bool
 |.ListComp _ _ _ _|.SetComp _ _ _ _|.DictComp _ _ _ _ _=>true
 |_=>false
noncomputable def KM:Expr->Bool
 |.List _ _=>true
 |.Call (.Name x _) _ _ _=>x == "list"
 |_=>false
noncomputable def I7 (L:Lc)(ts vs:List Expr):Option (Option (List Str)):=
 if (!(ts.length==2 || ts.length==3) || vs.length != ts.length || L.sc.kind != .function)=true then some none
 else if (vs.any fun|.Starred ..=>true|_=>false)=true then some none
 else
  let line:=(ts.head?.map (·.pos.line)).getD 0
  let names:=ts.filterMap fun
   |.Name id pos=>if L.sc.names.lookup id==some .local&&pos.line==line then some id else none
   |_=>none
  if (names.length != ts.length || names.eraseDups.length != names.length)=true then some none
  else if vs.all (foldedForSure 8)=true then some none
  else if vs.all (constantsAlone 8)=true then none
  else some (some names)
noncomputable def Jl (L:Lc)(tg v:Expr):Bool:=match tg,v with
 |.Tuple ts _ _,.Tuple vs _ _=>match I7 L ts vs with
  |some none=>true
  |_=>false
 |.Tuple _ _ _,_=>true
 |_,_=>false
noncomputable def frzs:List Nat->FS->FS
 |[],s=>s
 |i::r,s=>frzs r (Kz i s)
noncomputable def vL (f:Stmt->FS):List Stmt->FS
 |[]=>bu
 |[s]=>f s
 |s::r=>ai (f s) (vL f r)
noncomputable def sn:Operator->Option (Int->Int->Int)
 |.Add=>some fun a b=>a+b
 |.Sub=>some fun a b=>a - b
 |_=>none
noncomputable def IE:Expr->Bool
 |.ListComp _ [⟨_,_,_,0⟩] _ _=>true
 |_=>false
noncomputable def Mf (L:Lc)(y:Nat)(v:Expr):Option FS:=match v with
 |.Call (.Attribute (.Name o _) m ap) [] [] cp=>match slot L o with
  |some i=>if m = "pop"&&ap.endLine==cp.line then some (Dg tC y i ag) else none
  |none=>none
 |_=>none
noncomputable def MM:Expr->Bool
 |.Name _ _=>true
 |_=>false
noncomputable def LV (G:Gc)(f:Expr->FE)(L:Lc)(tg v:Expr):Option FS:=match v with
 |.Call (.Name g _) (.Name x _::es) [] _=>match slot L x with
  |some i=>if (L.own.contains x || L.lent&&i==0)&&es.all mv&&(MM tg || yI tg) then
    (match G.lents.lookup g with
     |some F=>if glob L g then some (F3 F i (IR f es) (vT 5 L tg)) else none
     |none=>match slot L g with
      |some j=>if G.lents.isEmpty then none else some (oW G.lents j i (IR f es) (vT 5 L tg))
      |none=>none)
   else none
  |none=>none
 |_=>none
noncomputable def H8 (G:Gc)(rE:RE)(L:Lc)(tg v:Expr):FS:=
 match tg with
 |.Name x p=>match gB L x with
  |some i=>if GZ L v x p&&!IE v then bZ else match Mf L i v with
   |some s=>s
   |none=>if L.own.contains x then kb i (rE L v) else az i (rE L v)
  |none=>bZ
 |.Subscript (.Name j _) ix _=>match slot L j with
  |some i=>if hK ix&&!ER v then lD i (rE L ix) (rE L v) else bZ
  |none=>bZ
 |.Tuple [.Name x px,.Name y py] k pt=>match v with
  |.Tuple [a,b] _ _=>match I7 L [.Name x px,.Name y py] [a,b],gB L x,gB L y with
   |some (some l),some i,some j=>if l==[x,y]&&mv a&&mv b&&i != j&&L.sc.names.lookup x==some .local&&L.sc.names.lookup y==some .local then
     qh i j (vA (rE L) [a,b]) else bZ
   |some none,_,_=>iU (rE L v) (vT 5 L tg)
   |_,_,_=>bZ
  |_=>if yI v then bZ else iU (rE L v) (vT 5 L tg)
 |_=>if Jl L tg v then iU (rE L v) (vT 5 L tg) else bZ
noncomputable def L0 (G:Gc)(rE:RE)(L:Lc)(tg v:Expr):FS:=match LV G (rE L) L tg v with
 |some s=>s
 |none=>H8 G rE L tg v
noncomputable def Nb (L:Lc)(f:Expr->FE)(v:Option Expr):FS:=match v with
 |none=>bZ
 |some e=>match e with
  |.Name x p=>match slot L x with
   |some i=>if L.top&&!L.lent then lZ i else bZ
   |none=>bz (f (.Name x p))
  |e=>bz (f e)
noncomputable def JQ (L:Lc)(f:Expr->FE)(tg:Expr)(op:Operator)(v:Expr):FS:=match tg with
 |.Name x _=>match gB L x with
  |none=>bZ
  |some i=>match sn op with
   |some g=>nE g i (f v)
   |none=>bZ
 |.Subscript b ix _=>match b with
  |.Name j _=>match slot L j with
   |none=>bZ
   |some i=>match sn op with
    |some g=>if hK ix then mw g i (f ix) (f v) else bZ
    |none=>bZ
  |_=>bZ
 |_=>bZ
noncomputable def GV (L:Lc)(f:Expr->FE)(o:Str)(q:Pos)(m:Str)(ap:Pos)(args:List Expr)(cp:Pos):FS:=match slot L o with
 |some i=>match args with
  |[]=>if ap.endLine==cp.line then (if m = "reverse" then vx Ce i ag else if m = "pop" then vx tC i ag else bZ) else bZ
  |a::as=>if m = "append"&&ap.endLine==cp.line&&(a::as).all mv&&decide (as.length<20) then vx mL i (vA f (a::as)) else bZ
 |none=>match args with
  |[]=>bZ
  |a::as=>i6 (f (.Call (.Attribute (.Name o q) m ap) (a::as) [] cp))
noncomputable def Mb (L:Lc)(f:Expr->FE)(fn:Expr)(args:List Expr)(kws:List Keyword)(cp:Pos):FS:=match kws with
 |_::_=>i6 (f (.Call fn args kws cp))
 |[]=>match fn with
  |.Attribute b m ap=>match b with
   |.Name o q=>GV L f o q m ap args cp
   |b=>i6 (f (.Call (.Attribute b m ap) args [] cp))
  |fn=>i6 (f (.Call fn args [] cp))
noncomputable def MJ:Expr->Bool
 |.Constant c _ _=>match c with
  |.str _=>true
  |_=>false
 |_=>false
noncomputable def Hb (L:Lc)(f:Expr->FE)(e:Expr):FS:=if MJ e then bu else match e with
 |.Call fn args kws cp=>Mb L f fn args kws cp
 |e=>if ER e then bZ else i6 (f e)
noncomputable def M1 (G:Gc)(rE:RE)(rB:RB)(rS:Lc->Stmt->FS)(L:Lc):Stmt->FS
 |.Return v _=>Nb L (rE L) v
 |.If c a b _=>jZ (rB L c) (vL (rS L) a) (vL (rS L) b)
 |.For tg it body els _=>match els with
  |[]=>if GB it then jt (vI G L (rE L) false tg it) (vT 5 L tg) (vL (rS L) body) else bZ
  |_::_=>bZ
 |.While c body els _=>match els with
  |[]=>g6 (rB L c) (vL (rS L) body)
  |_::_=>bZ
 |.Assign tgs v _=>match tgs with
  |[]=>bZ
  |tg::r=>match r with
   |[]=>L0 G rE L tg v
   |_::_=>bZ
 |.AugAssign tg op v _=>JQ L (rE L) tg op v
 |.Expr e _=>Hb L (rE L) e
 |.Pass _=>bu
 |.Break _=>MY
 |.Continue _=>M2
 |_=>bZ
noncomputable def vS (G:Gc):Nat->Lc->Stmt->FS
 |0=>fun _ _=>bZ
 |n+1=>fun L s=>frzs ((L.frz.lookup s.pos.line).getD []) (match G.hk.s G.toGd (zR G n).1 (zR G n).2 (vS G n) L s with
  |some f=>f
  |none=>M1 G (zR G n).1 (zR G n).2 (vS G n) L s)
end Dp
end
section
namespace Dp
open PySem PySem.Spec L2 PyProof.Rows
noncomputable def Fp (P:Program)(w:World)(mg:Str->Option Value)(base:Heap)(x:Str)(p:PV):Prop:=∃u,mg x=some u/\∀(h:Heap) (bad:Addr->Prop) (H:Hp),(∀b o,base.get? b=some o->h.get? b=some o/\H b=none/\¬bad b)->D ⟨jV bad H,P,w,mg⟩ h p u
structure GOk (P:Program)(w:World)(K:PySem.W.Frag)(mg:Str->Option Value)(base:Heap)(k:Nat)(G:Gd):Prop where
 bi:∀x,G.bi.contains x=true->mg x=none
 nis:∀x i,G.nis.lookup x=some i->∃t,mg x=some (.int i t)
 tups:∀x ps,G.tups.lookup x=some ps->Fp P w mg base x (.ktu ps)
 vals:∀x,G.vals.contains x=true->∃a,mg x=some (.ref a)
 fns:∀x F,G.fns.lookup x=some F->∃j,j≤k/\DefN P w K mg base true j x F
 dcts:∀x kp,G.dcts.lookup x=some kp->Fp P w mg base x (.dct kp.1 kp.2)
 tab:∀x F,G.tab.lookup x=some F->∃j,j≤k/\DefN P w K mg base true j x F
 lents:∀x F,G.lents.lookup x=some F->∃j,j≤k/\DefL P w K mg base true j x F
structure Ok0 (X:Cx)(k:Nat)(G:Gd)(L:Lc):Prop where
 g:GOk X.prog X.w X.K X.mg X.base k G
 r:Rm k X.A
 sc:X.env.scope=L.sc
 N:X.N=L.N
 nd:L.N.Nodup
 fk:L.sc.kind=.function
 calm:X.calm=true
 top:L.top=true->∀x,X.fn x=true
 h0:L.lent=false->L.top=true->X.H₀=fun _=>none
 blk:L.top=false->X.fn "" = false
noncomputable abbrev Mr (k:Nat)(G:Gd)(rE:RE):Prop:=∀{X:Cx} {L:Lc},Ok0 X k G L->∀e,NE X e (rE L e)
noncomputable abbrev Mw (k:Nat)(G:Gd)(rB:RB):Prop:=∀{X:Cx} {L:Lc},Ok0 X k G L->∀e,NB X e (rB L e)
structure HkOk (hk:Hk):Prop where
 e:∀{X:Cx} {k:Nat} {G:Gd} {L:Lc} {rE:RE} {rB:RB},Ok0 X k G L->Mr k G rE->Mw k G rB->∀e f,hk.e G rE rB L e=some f->NE X e f
 i:∀{X:Cx} {k:Nat} {G:Gd} {L:Lc} {f:Expr->FE},Ok0 X k G L->(∀e,NE X e (f e))->∀tg it g,hk.i G L f tg it=some g->NI X true tg it g
 b:∀{X:Cx} {k:Nat} {G:Gd} {L:Lc} {rE:RE} {rB:RB},Ok0 X k G L->Mr k G rE->Mw k G rB->∀e f,hk.b G rE rB L e=some f->NB X e f
 s:∀{X:Cx} {k:Nat} {G:Gd} {L:Lc} {rE:RE} {rB:RB} {rS:Lc->Stmt->FS},Ok0 X k G L->Mr k G rE->Mw k G rB->(∀s,NS X s (rS L s))->∀st f,hk.s G rE rB rS L st=some f->NS X st f
structure Ok (X:Cx)(k:Nat)(G:Gc)(L:Lc):Prop extends Ok0 X k G.toGd L where
 hk:HkOk G.hk
theorem fN {X:Cx}{e:Expr}{f:FE}(h:∀ρ,f ρ=none):NE X e f:=fun z s r E hz q=>by rw[h] at q;cases q
theorem A0 {X:Cx}{e:Expr}{f:FB}(h:∀ρ,f ρ=none):NB X e f:=fun z s r E hz q=>by rw[h] at q;cases q
theorem DJ {X:Cx}{st:Bool}{e tg:Expr}{f:FI}(h:∀ρ,f ρ=none):NI X st tg e f:=fun z s r E hz q=>by rw[h] at q;cases q
theorem J5 {X:Cx}{es:List Expr}:NA X es (fun _=>none):=fun z pos s r E hz q=>by cases q
theorem Ej {X:Cx}{tg:Expr}:NG X tg (fun _ _=>none):=fun z s p u ρ E hz d q=>by cases q
section
variable {X:Cx}{k:Nat}{G:Gc}{L:Lc}{x:Str}{i:Nat}{pos:Pos}{e:Expr}
theorem bo (h:Dw x=false):(x==("__debug__" : Str))=false/\(x==("__classdict__" : Str))=false/\x≠("__name__" : Str):=by
 unfold Dw at h
 simp only[Bool.or_eq_false_iff] at h
 exact⟨h.1.1,h.1.2,fun z=>by have:=h.2;rw[z] at this;simp at this⟩
theorem vi {G:Gd}(o:Ok0 X k G L)(h:slot L x=some i):X.N[i]?=some x/\rL X.env.scope x/\Dw x=false:=by
 unfold slot at h
 split at h
 ·next z=>
  rw[Bool.and_eq_true,Bool.not_eq_true'] at z
  refine⟨by rw[o.N];exact wo h,?_,z.2⟩
  have z1:=z.1
  unfold M9 at z1
  unfold rL
  rw[o.sc]
  split at z1<;>first|(next q=>simp[q])|cases z1
 ·cases h
theorem iZ (o:Ok X k G L)(h:slot L x=some i):X.N[i]?=some x/\rL X.env.scope x/\Dw x=false:=vi o.toOk0 h
theorem Cs {G:Gd}(o:Ok0 X k G L)(h:glob L x=true):Gl X x/\Dw x=false:=by
 unfold glob at h
 rw[Bool.and_eq_true,Bool.not_eq_true',beq_iff_eq] at h
 exact⟨by show X.env.scope.names.lookup x=_;rw[o.sc];exact h.1,h.2⟩
theorem i7 (o:Ok X k G L)(h:glob L x=true):Gl X x/\Dw x=false:=Cs o.toOk0 h
theorem kI {G:Gd}(o:Ok0 X k G L)(h:gB L x=some i):Nm X i x:=by
 unfold gB at h
 split at h
 ·next z=>
  rw[Bool.or_eq_true,Bool.and_eq_true,beq_iff_eq,beq_iff_eq] at z
  obtain⟨i',h,h'⟩:=Option.bind_eq_some_iff.mp h
  split at h'
  ·cases h'
  next hl=>
  cases h'
  refine⟨by rw[o.N];exact o.nd,by rw[o.N];exact wo h,?_,?_,fun hf ⟨a,ha⟩ e=>?_⟩
  ·show X.env.scope.names.lookup x=_\/X.env.scope.names.lookup x=_
   rw[o.sc];exact z.elim .inl fun z=>.inr z.2
  ·rw[o.sc];exact z.elim .inr fun z=>.inl (o.top z.1 x)
  ·cases ht:L.top with
   |false=>rw[o.blk ht] at hf;cases hf
   |true=>
    cases hle:L.lent with
    |false=>exact ha (by rw[o.h0 hle ht])
    |true=>subst e;rw[hle] at hl;simp at hl
 ·cases h
theorem hX (o:Ok X k G L)(h:gB L x=some i):Nm X i x:=kI o.toOk0 h
theorem KT (hm:X.mg x=none)(hg:Gl X x)(hd:Dw x=false):NE X (.Name x pos) (LI x):=by
 unfold LI
 have key:∀n,bootBuiltins x=some (.type n)->NE X (.Name x pos) (fC (.ty n)):=fun n h=>Kj hg hm h (bo hd).2.2 (bo hd).1
 repeat' split
 ·next z=>exact key _ (by rw[z];exact Bf)
 ·next z=>exact key _ (by rw[z];exact Eg)
 ·next z=>exact key _ (by rw[z];exact Ck)
 ·next z=>exact key _ (by rw[z];exact yq)
 ·next z=>exact key _ (by rw[z];exact p5)
 ·next z=>exact key _ (by rw[z];exact DK)
 ·exact fN fun _=>rfl
theorem El (o:Ok X k G L):NE X (.Name x pos) (AM G L x):=by
 unfold AM
 split
 ·next i h=>
  obtain⟨h1,h2,h3⟩:=iZ o h
  exact J6 h1 h2 (bo h3).1 (bo h3).2.1
 ·split
  ·next hg=>
   obtain⟨hg,hd⟩:=i7 o hg
   split
   ·next i h=>
    obtain⟨t,m⟩:=o.g.nis x i h
    exact sd hg ⟨_,m,fun _ _ _ _=>⟨t,rfl⟩⟩ (bo hd).1
   ·split
    ·next ps h=>exact sd hg (o.g.tups x ps h) (bo hd).1
    ·split
     ·next h=>
      obtain⟨a,m⟩:=o.g.vals x h
      exact sd hg ⟨_,m,fun _ _ _ _=>⟨a,m,rfl⟩⟩ (bo hd).1
     ·split
      ·next kp h=>exact sd hg (o.g.dcts x kp h) (bo hd).1
      ·split
       ·next h=>exact KT (o.g.bi x h) hg hd
       ·exact fN fun _=>rfl
  ·exact fN fun _=>rfl
theorem AS {f:Expr->FE}(h:∀e,NE X e (f e)):∀{es:List Expr},es.all mv=true->NA X es (IR f es)
 |[],_=>tD
 |e::es,z=>by
  rw[List.all_cons,Bool.and_eq_true] at z
  exact DD (h e) (AS h z.2) (ig z.1 es X.env)
theorem nJ {f:Expr->FE}(h:∀e,NE X e (f e))(es:List Expr):NA X es (vA f es):=by
 unfold vA
 split
 ·next z=>exact AS h z
 ·exact J5
theorem Jc (o:Ok X k G L)(hx:G.bi.contains x=true)(hgl:glob L x=true){es:List Expr}{fs:FA}{p:Pos}{alt:Bool}{n:Nat}(ha:NA X (e::es) fs)(hs:(e::es).all mv=true):NE X (.Call (.Name x p) (e::es) [] pos) (Ly x alt n fs):=by
 obtain⟨hg,hd⟩:=i7 o hgl
 have hm:=o.g.bi x hx
 rw[List.all_cons,Bool.and_eq_true] at hs
 have he:=ig hs.1 es X.env
 have hp:(backTo pos (starEach es X.env)).any (·.1)=false:=jK hs.2
 obtain⟨d1,d2,d3⟩:=bo hd
 have hc:=o.calm
 have B:∀{id g},fF X (.builtin id) g->bootBuiltins x=some (.builtin id)->NE X (.Call (.Name x p) (e::es) [] pos) (fB g fs):=fun c b=>MD c hg hm b ha d3 d1 he hp
 have T:∀{id g},fF X (.type id) g->bootBuiltins x=some (.type id)->NE X (.Call (.Name x p) (e::es) [] pos) (fB g fs):=fun c b=>LP c hg hm b ha d3 d1 he hp
 unfold Ly
 by_cases z:x = "len"
 ·rw[if_pos z]
  exact B Jd (by rw[z];exact Im)
 rw[if_neg z];clear z
 by_cases z:x = "abs"
 ·rw[if_pos z]
  exact B JC (by rw[z];exact GU)
 rw[if_neg z];clear z
 by_cases z:x = "all"
 ·rw[if_pos z]
  exact B (Lk hc) (by rw[z];exact Hq)
 rw[if_neg z];clear z
 by_cases z:x = "any"
 ·rw[if_pos z]
  exact B (Jw hc) (by rw[z];exact HP)
 rw[if_neg z];clear z
 by_cases z:x = "isinstance"
 ·rw[if_pos z]
  exact B L6 (by rw[z];exact qB)
 rw[if_neg z];clear z
 by_cases z:x = "sorted"
 ·rw[if_pos z]
  split
  ·exact B DU (by rw[z];exact qO)
  ·exact B Ae (by rw[z];exact qO)
 rw[if_neg z];clear z
 by_cases z:x = "max"
 ·rw[if_pos z]
  split
  ·exact B (Io hc) (by rw[z];exact BV)
  ·exact B (KA hc) (by rw[z];exact BV)
 rw[if_neg z];clear z
 by_cases z:x = "min"
 ·rw[if_pos z]
  split
  ·exact B (Ha hc) (by rw[z];exact Dk)
  ·exact B (JV hc) (by rw[z];exact Dk)
 rw[if_neg z];clear z
 by_cases z:x = "sum"
 ·rw[if_pos z]
  exact B (Kn hc) (by rw[z];exact It)
 rw[if_neg z];clear z
 by_cases z:x = "int"
 ·rw[if_pos z]
  exact T La (by rw[z];exact Bf)
 rw[if_neg z];clear z
 by_cases z:x = "tuple"
 ·rw[if_pos z]
  split
  ·exact T (Hs hc) (by rw[z];exact p5)
  ·exact T Kt (by rw[z];exact p5)
 rw[if_neg z];clear z
 by_cases z:x = "list"
 ·rw[if_pos z]
  exact T (Hv hc) (by rw[z];exact yq)
 rw[if_neg z];clear z
 by_cases z:x = "range"
 ·rw[if_pos z]
  exact T Jm (by rw[z];exact C3)
 rw[if_neg z];clear z
 by_cases z:x = "str"
 ·rw[if_pos z]
  exact T J9 (by rw[z];exact Ck)
 rw[if_neg z];clear z
 exact fN fun _=>rfl
theorem ED (o:Ok X k G L){f:Expr->FE}(h:∀e,NE X e (f e)){p:Pos}(args:List Expr):NE X (.Call (.Name x p) args [] pos) (CO G L f x args pos):=by
 unfold CO
 split
 ·next i hi=>
  obtain⟨h1,h2,h3⟩:=iZ o hi
  cases args with
  |nil=>exact fN fun _=>rfl
  |cons e es=>
   show NE X _ (oB G.tab i (vA f (e::es)))
   by_cases hs:(e::es).all mv=true
   ·have ha:=nJ h (e::es)
    rw[List.all_cons,Bool.and_eq_true] at hs
    exact EE o.g.tab (fun _=>o.calm) o.r h1 h2 (bo h3).1 (bo h3).2.1 ha (ig hs.1 es X.env) (jK hs.2)
   ·have:vA f (e::es)=fun _=>none:=by unfold vA;rw[if_neg hs]
    rw[this];exact fN fun _=>rfl
 ·split
  ·next hgl=>
   obtain⟨hg,hd⟩:=i7 o hgl
   obtain⟨d1,d2,d3⟩:=bo hd
   split
   ·next F hF=>
    obtain⟨j,hj,D⟩:=o.g.fns x F hF
    cases args with
    |nil=>exact Eu D hj (fun _=>o.calm) o.r hg d1
    |cons e es=>
     show NE X _ (av F (vA f (e::es)))
     by_cases hs:(e::es).all mv=true
     ·have ha:=nJ h (e::es)
      rw[List.all_cons,Bool.and_eq_true] at hs
      exact HJ D hj (fun _=>o.calm) o.r hg ha d1 (ig hs.1 es X.env) (jK hs.2)
     ·have:vA f (e::es)=fun _=>none:=by unfold vA;rw[if_neg hs]
      rw[this];exact fN fun _=>rfl
   ·split
    ·next hb=>
     rw[Bool.and_eq_true] at hb
     cases args with
     |nil=>cases hb.2
     |cons e es=>
      by_cases hs:(e::es).all mv=true
      ·exact Jc o hb.1 hgl (nJ h (e::es)) hs
      ·have:vA f (e::es)=fun _=>none:=by unfold vA;rw[if_neg hs]
       rw[this]
       have nn:∀g,fB g (fun _=>none)=bx:=fun _=>rfl
       simp only[Ly,nn,ite_self]
       exact fN fun _=>rfl
    ·exact fN fun _=>rfl
  ·exact fN fun _=>rfl
theorem sU {env:Env}:∀{es:List Expr},es.all mv=true->(assignEach es env).length=es.length/\(assignEach es env).findIdx? (·.1)=none/\∀e r,es=e::r->(assignEach es env).map (·.2)=assign e env::(assignEach r env).map (·.2)
 |[],_=>⟨rfl,rfl,fun _ _ h=>by cases h⟩
 |e::r,h=>by
  rw[List.all_cons,Bool.and_eq_true] at h
  have he:assignEach (e::r) env=(false,assign e env)::assignEach r env:=by
   have:=h.1
   cases e<;>first|rfl|(cases this)
  obtain⟨h1,h2,_⟩:=sU (env:=env) h.2
  rw[he]
  refine⟨by rw[List.length_cons,List.length_cons,h1],?_,fun _ _ q=>by cases q;rfl⟩
  rw[List.findIdx?_cons,h2];rfl
theorem Aw {f:Expr->FT}(h:∀e,NG X e (f e)):∀{es:List Expr},es.all mv=true->Kd X es (Lz f es)
 |[],_=>Nt
 |e::r,z=>by
  have:=(sU (env:=X.env) z).2.2 e r rfl
  rw[List.all_cons,Bool.and_eq_true] at z
  exact Nn (h e) (Aw h z.2) this
theorem vb:∀(n:Nat) {L:Lc} {X:Cx},Ok X k G L->∀e,NG X e (vT n L e)
 |0,_,_,_,e=>by cases e<;>exact Ej
 |n+1,L,X,o,e=>by
  cases e<;>first|exact Ej|skip
  ·rename_i x p
   unfold vT
   cases h:gB L x with
   |some i=>exact MH (hX o h)
   |none=>exact Ej
  ·rename_i es kk p
   unfold vT
   split
   ·next z=>
    obtain⟨h1,h2,_⟩:=sU (env:=X.env) z
    exact Nx o.calm (Aw (vb n o) z) h1 h2
   ·exact Ej
theorem wP {fm:List (Option Nat)}:FK fm (fun _ _=>none):=fun _ _ _ e=>by cases e
theorem Bd {fm:List (Option Nat)}{f:Expr->FT}:∀{es:List Expr},(∀e∈es,FK fm (f e))->Lf fm (Lz f es)
 |[],_=>LS
 |e::r,h=>MI (h e List.mem_cons_self) (Bd fun e he=>h e (List.mem_cons_of_mem _ he))
theorem FU {fm:List (Option Nat)}:∀(n:Nat) (L:Lc) (e:Expr),(∀i∈JZ n L e,fm[i]?=some none)->FK fm (vT n L e)
 |0,L,e,_=>by cases e<;>exact wP
 |n+1,L,e,h=>by
  cases e<;>first|exact wP|skip
  ·unfold vT
   unfold JZ at h
   cases hs:gB L _ with
   |some i=>exact Mi (h i (by rw[hs];simp))
   |none=>exact wP
  ·rename_i es kk p
   unfold vT
   split
   ·refine MC (Bd fun e he=>FU n L e fun i hi=>h i ?_)
    unfold JZ
    exact List.mem_flatMap.mpr ⟨e,he,hi⟩
   ·exact wP
theorem FN (o:Ok X k G L){f:Expr->FE}(h:∀e,NE X e (f e))(tg it:Expr):NI X true tg it (vI G L f false tg it):=by
 have no:∀{es:List Expr},¬es.all mv=true->vA f es=fun _=>none:=fun {es} hs=>by unfold vA;rw[if_neg hs]
 unfold vI
 rw[if_neg Bool.false_ne_true]
 split
 ·next g hg=>exact o.hk.i o.toOk0 h tg it g hg
 rename_i hno
 clear hno
 split
 ·next y p a p'=>
  split
  ·next z=>
   rw[Bool.and_eq_true,Bool.and_eq_true,decide_eq_true_eq] at z
   obtain⟨⟨rfl,z2⟩,z3⟩:=z
   obtain⟨hg,hd⟩:=i7 o z2
   by_cases hs:[a].all mv=true
   ·exact HA hg (o.g.bi _ z3) (nJ h [a]) (by
     rw[List.all_cons,Bool.and_eq_true] at hs
     exact ig hs.1 [] X.env)
   ·rw[no hs];exact DJ fun _=>rfl
  ·split
   ·next z=>
    rw[Bool.and_eq_true,Bool.and_eq_true,Bool.and_eq_true,decide_eq_true_eq] at z
    obtain⟨⟨⟨rfl,z2⟩,z3⟩,z4⟩:=z
    obtain⟨hg,hd⟩:=i7 o z2
    obtain⟨elts,kk,tp,rfl⟩:∃elts kk tp,tg=.Tuple elts kk tp:=by
     cases tg<;>first|exact⟨_,_,_,rfl⟩|(cases z4)
    by_cases hs:[a].all mv=true
    ·exact Hy hg (o.g.bi _ z3) (nJ h [a]) (by
      rw[List.all_cons,Bool.and_eq_true] at hs
      exact ig hs.1 [] X.env)
    ·rw[no hs];exact DJ fun _=>rfl
   ·exact yT (h _)
 ·next y p a b p'=>
  split
  ·next z=>
   rw[Bool.and_eq_true,Bool.and_eq_true,decide_eq_true_eq] at z
   obtain⟨⟨rfl,z2⟩,z3⟩:=z
   obtain⟨hg,hd⟩:=i7 o z2
   by_cases hs:[a,b].all mv=true
   ·have hs':=hs
    rw[List.all_cons,List.all_cons,Bool.and_eq_true,Bool.and_eq_true] at hs'
    have e1:starEach [b] X.env=[(false,eval b X.env)]:=ig hs'.2.1 [] X.env
    exact GQ hg (o.g.bi _ z3) (nJ h [a,b]) (by rw[ig hs'.1 [b] X.env,e1]) e1
   ·rw[no hs];exact DJ fun _=>rfl
  ·exact yT (h _)
 ·next y p a b d p'=>
  split
  ·next z=>
   rw[Bool.and_eq_true,Bool.and_eq_true,decide_eq_true_eq] at z
   obtain⟨⟨rfl,z2⟩,z3⟩:=z
   obtain⟨hg,hd⟩:=i7 o z2
   by_cases hs:[a,b,d].all mv=true
   ·have hs':=hs
    rw[List.all_cons,List.all_cons,List.all_cons,Bool.and_eq_true,Bool.and_eq_true,Bool.and_eq_true] at hs'
    have e2:starEach [d] X.env=[(false,eval d X.env)]:=ig hs'.2.2.1 [] X.env
    have e1:starEach [b,d] X.env=[(false,eval b X.env),(false,eval d X.env)]:=by rw[ig hs'.2.1 [d] X.env,e2]
    exact Gu hg (o.g.bi _ z3) (nJ h [a,b,d]) (by rw[ig hs'.1 [b,d] X.env,e1]) e1
   ·rw[no hs];exact DJ fun _=>rfl
  ·exact yT (h _)
 ·exact yT (h _)
theorem vG (o:Ok X k G L){sc:Scope}{tg:Expr}{N2:List Str}(hk:sc.kind=.function)(hn:N2.Nodup){C:Addr}{s:Shared}{H:Hp}{ex:List Addr}:Ok (X.blk sc N2 C s H ex) k G (KS L sc tg N2) where
 hk:=o.hk
 g:=o.g
 r:=o.r
 sc:=by
  show relabel sc X.env=Cb sc L.sc
  unfold relabel Cb
  rw[show X.env.kindOf=fun x=>L.sc.names.lookup x by funext x;show X.env.scope.names.lookup x=_;rw[o.sc],o.sc]
 N:=rfl
 nd:=hn
 fk:=hk
 calm:=o.calm
 top:=fun h=>by cases h
 h0:=fun _ h=>by cases h
 blk:=fun _=>rfl
structure CpOk (X:Cx)(elt tg it:Expr)(ifs:List Expr)(sc:Scope)(f:FE):Prop where
 ex:(∀ρ,f ρ=none)\/∃(N2:List Str) (fm:List (Option Nat)) (fi:FI) (t:FT) (c:FB) (fe:FE),f=cU fm fi t c fe/\Blk X sc N2 fm/\NI X false tg it fi ∧
  (∀C s H ex,NG (X.blk sc N2 C s H ex) tg t)/\FK fm t/\(∀C s H ex,IU (X.blk sc N2 C s H ex) ifs c)/\(∀C s H ex,NE (X.blk sc N2 C s H ex) elt fe)/\∀x,foldedSetIterable it X.env x=pure x
theorem FV (o:Ok X k G L){rE:RE}{rB:RB}(hE:∀{X:Cx} {L:Lc},Ok X k G L->∀e,NE X e (rE L e))(hB:∀{X:Cx} {L:Lc},Ok X k G L->∀e,NB X e (rB L e))(elt tg it:Expr)(ifs:List Expr)(sc:Scope)(p:Pos) :
  CpOk X elt tg it ifs sc (LD G rE rB L elt tg it ifs sc p):=by
 unfold LD
 split
 ·exact⟨.inl fun _=>rfl⟩
 ·next N2 _=>
  split
  ·next z=>
   unfold MZ at z
   rw[Bool.and_eq_true,Bool.and_eq_true,Bool.and_eq_true,decide_eq_true_eq] at z
   obtain⟨⟨⟨z1,z2⟩,z3⟩,z4⟩:=z
   have hk:sc.kind=.function:=by
    unfold sr at z1
    simp only[Bool.and_eq_true,beq_iff_eq] at z1
    exact z1.1.1.1.1.1
   refine⟨.inr ⟨N2,LA L tg N2,_,_,_,_,rfl,⟨IF ?_,z2⟩,?_,fun C s H ex=>vb 5 (vG o hk z2) tg,FU 5 _ tg fun i hi=>?_,fun C s H ex=>?_,fun C s H ex=>hE (vG o hk z2) elt,fun x=>?_⟩⟩
   ·rw[show X.env.kindOf=fun x=>L.sc.names.lookup x by funext x;show X.env.scope.names.lookup x=_;rw[o.sc],o.N]
    exact z1
   ·cases ho:E8 L it with
    |true=>unfold vI;rw[if_pos rfl];exact Iw (hE o it)
    |false=>exact (FN o (hE o) tg it).any
   ·exact by simpa using List.all_eq_true.mp z3 i hi
   ·have ob:=vG o (tg:=tg) hk z2 (C:=C) (s:=s) (H:=H) (ex:=ex)
    cases ifs with
    |nil=>exact Hc
    |cons c r=>cases r with
     |nil=>exact IG (hB ob c)
     |cons=>exact fun z s b E hz q=>by cases q
   ·cases it<;>first|rfl|(cases z4)
  ·exact⟨.inl fun _=>rfl⟩
theorem CpOk.ne {elt tg it:Expr}{ifs:List Expr}{sc:Scope}{p:Pos}{f:FE}(o:Ok X k G L)(h:CpOk X elt tg it ifs sc f):NE X (.ListComp elt [⟨tg,it,ifs,0⟩] sc p) f:=by
 rcases h.ex with h|⟨N2,fm,fi,t,c,fe,rfl,h1,h2,h3,h4,h5,h6,h7⟩
 ·exact fN h
 ·exact HY h1 o.calm h2 h3 h4 h5 h6 h7
end
end Dp
end
section
namespace Dp
open PySem PySem.Spec L2 PyProof.Rows
section
variable {X:Cx}{k:Nat}{G:Gc}{L:Lc}{x:Str}{i:Nat}{pos:Pos}{e:Expr}
theorem vD {cp:Pos}{env:Env}:∀{es:List Expr},es.all mv=true->((backTo cp (starEach es env)).all fun x=>!x.fst)=true
 |[],_=>rfl
 |e::es,h=>by
  rw[List.all_cons,Bool.and_eq_true] at h
  rw[ig h.1]
  exact vD (es:=es) h.2
theorem Ip {d m:Str}{q ap cp:Pos}{es:List Expr}(hl:(ap.endLine==cp.line)=true)(hs:es.all mv=true)(hn:es.length<21):Mc X (.Name d q) m ap cp es:=by
 refine⟨rfl,hl,?_,fun e r he=>?_⟩
 ·rw[vD hs]
  show (true&&true&&decide _)=true
  rw[Bool.and_self,Bool.true_and,decide_eq_true_eq]
  simp only[List.length_nil,List.isEmpty_nil,if_true]
  omega
 ·subst he
  rw[List.all_cons,Bool.and_eq_true] at hs
  exact⟨ig hs.1 r X.env,jK hs.2⟩
theorem p8 {b:Expr}(h:hK b=true):yE b:=by
 cases b<;>first|(exact fun _ _=>rfl)|skip
 rename_i lo hi st p
 cases st with
 |none=>cases h
 |some s=>exact fun _ _=>rfl
theorem zr {env:Env}(h:Cu e=true):∀whole,PySem.isTrue e env whole=(do let v ←whole;standAt e.pos;holding [v] (truthy v)):=by
 cases e<;>first|(exact fun _=>rfl)|(cases h;done)|skip
 rename_i op a p
 cases op<;>first|(exact fun _=>rfl)|(cases h;done)
theorem yv {f:Expr->FE}(h:∀e,NE X e (f e)):∀o,NO X o (vO f o)
 |none=>Ep
 |some e=>E3 (h e)
theorem JH {f:Expr->FB}(h:∀e,NB X e (f e))(op:BoolOp):∀(vs:List Expr),vs≠[]->NW X (.BoolOp op vs pos) (vW f op vs)
 |[],z=>(z rfl).elim
 |[a],_=>by cases op;exact GP (h a);exact Li (h a)
 |a::b::r,_=>by
  have ih:=JH h op (b::r) (by simp)
  cases op
  ·exact KZ (h a) ih
  ·exact Md (h a) ih
theorem Ny {op:BoolOp}{vs:List Expr}{f:FB}(h:NW X (.BoolOp op vs pos) f):NB X (.BoolOp op vs pos) f:=fun z s b E hz q=>h z _ s b E hz q
theorem G5 {c:Const}{kd:Nat}:NE X (.Constant c kd pos) (M3 c):=by
 cases c<;>first|exact n_int|exact Mo|exact Je|exact n_str|exact fN fun _=>rfl
theorem E2 {s:Expr}(h:HK s=true):∃p1 k p2,s=.UnaryOp .USub (.Constant (.int 1) k p1) p2:=by
 cases s<;>first|(cases h;done)|skip
 rename_i op a p
 cases op<;>first|(cases h;done)|skip
 cases a<;>first|(cases h;done)|skip
 rename_i c k p1
 cases c<;>first|(cases h;done)|skip
 rename_i i
 have:i=1:=of_decide_eq_true h
 subst this
 exact⟨_,_,_,rfl⟩
section
variable {f:Expr->FE}(hf:∀e,NE X e (f e))
include hf
theorem GC {op:UnaryOp}{a:Expr}:NE X (.UnaryOp op a pos) (Na op (f a)):=by
 cases op<;>first|exact F2 (hf _)|exact J2 (hf _)|exact fN fun _=>rfl
theorem Hg (o:Ok X k G L){a:Expr}{ops:List CmpOp}{bs:List Expr}:NE X (.Compare a ops bs pos) (M4 f a ops bs):=by
 have hu:=o.r.units
 cases ops with
 |nil=>exact fN fun _=>rfl
 |cons o1 ops=>cases bs with
  |nil=>exact fN fun _=>rfl
  |cons b bs=>cases ops with
   |nil=>cases bs with
    |nil=>
     show NE X _ (if behindInMarks o1 b then bx else ah (qI o1) (f a) (f b))
     split
     ·exact fN fun _=>rfl
     ·next z=>exact Fs (qX hu _) (hf _) (hf _) (by simpa using z)
    |cons=>exact fN fun _=>rfl
   |cons o2 ops=>cases ops with
    |cons=>exact fN fun _=>rfl
    |nil=>cases bs with
     |nil=>exact fN fun _=>rfl
     |cons c bs=>cases bs with
      |cons=>exact fN fun _=>rfl
      |nil=>
       show NE X _ (if lastMarks [o1,o2] [b,c] then bx else FG (qI o1) (qI o2) (f a) (f b) (f c))
       split
       ·exact fN fun _=>rfl
       ·next z=>exact LL (qX hu _) (qX hu _) (hf _) (hf _) (hf _) (by simpa using z)
theorem Hu {op:BoolOp}{vs:List Expr}:NE X (.BoolOp op vs pos) (M8 f op vs pos):=by
 cases vs with
 |nil=>exact fN fun _=>rfl
 |cons a r=>cases r with
  |nil=>exact KC (hf _)
  |cons b r=>cases op with
   |And=>exact JL (hf _) (hf _)
   |Or=>exact MK (hf _) (hf _)
theorem GR {a ix:Expr}:NE X (.Subscript a ix pos) (MQ L f a ix pos):=by
 have other:∀b:Expr,hK b=true->NE X (.Subscript a b pos) (if Db L pos then ah DR (f a) (f b) else ah be (f a) (f b)):=fun b z=>by
  split
  ·exact KB Bc (hf _) (hf _) (p8 z)
  ·exact KB IC (hf _) (hf _) (p8 z)
 cases ix<;>first|exact other _ rfl|skip
 rename_i lo hi st p
 cases st with
 |none=>
  show NE X _ (if Db L pos then Ks (f a) (vO f lo) (vO f hi) else CY (f a) (vO f lo) (vO f hi))
  split
  ·exact JS Lm (hf _) (yv hf _) (yv hf _)
  ·exact JS Mt (hf _) (yv hf _) (yv hf _)
 |some s=>
  show NE X _ (if HK s&&lo.isNone&&hi.isNone then BJ (f a) else bx)
  split
  ·next z=>
   rw[Bool.and_eq_true,Bool.and_eq_true] at z
   obtain⟨⟨z1,z2⟩,z3⟩:=z
   obtain⟨p1,kk,p2,rfl⟩:=E2 z1
   cases lo with
   |some=>cases z2
   |none=>cases hi with
    |some=>cases z3
    |none=>exact Jg (hf _) (.inr (F2 n_int))
  ·exact fN fun _=>rfl
theorem HF {d m:Str}{q ap:Pos}{args:List Expr}:NE X (.Call (.Attribute (.Name d q) m ap) args [] pos) (M6 G L f d q m ap args pos):=by
 cases args with
 |nil=>
  show NE X _ (if m = "bit_length"&&ap.endLine==pos.line then BH (f (.Name d q)) else bx)
  split
  ·next z=>
   rw[Bool.and_eq_true,decide_eq_true_eq] at z
   obtain⟨rfl,z2⟩:=z
   exact Hw (hf _) z2
  ·exact fN fun _=>rfl
 |cons a r=>
  show NE X _ (if m = "get"&&ap.endLine==pos.line&&(a::r).all mv&&decide (r.length<20) then AR uA (f (.Name d q)) (vA f (a::r)) else bx)
  split
  ·next z=>
   rw[Bool.and_eq_true,Bool.and_eq_true,Bool.and_eq_true,decide_eq_true_eq,decide_eq_true_eq] at z
   obtain⟨⟨⟨rfl,z1⟩,z2⟩,z3⟩:=z
   exact Jy Jx (Ip z1 z2 (by rw[List.length_cons];omega)) (hf _) (nJ hf _) (fun e=>by cases e)
  ·exact fN fun _=>rfl
theorem EO (o:Ok X k G L){fn:Expr}{args:List Expr}{kws:List Keyword}:NE X (.Call fn args kws pos) (Ki G L f fn args kws pos):=by
 cases kws with
 |cons=>exact fN fun _=>rfl
 |nil=>
  cases fn<;>first|exact fN fun _=>rfl|exact ED o hf _|skip
  rename_i ob m ap
  cases ob<;>first|exact fN fun _=>rfl|exact HF (G:=G) (L:=L) hf
end
theorem Dl (o:Ok X k G L){rE:RE}{rB:RB}(hE:∀{X:Cx} {L:Lc},Ok X k G L->∀e,NE X e (rE L e))(hB:∀{X:Cx} {L:Lc},Ok X k G L->∀e,NB X e (rB L e))(e:Expr):NE X e (L1 G rE rB L e):=by
 cases e with
 |Constant c kd p=>exact G5
 |Name x p=>exact El o
 |BinOp a op b p=>exact MN (Mp op) (hE o _) (hE o _)
 |UnaryOp op a p=>exact GC (hE o)
 |Compare a ops bs p=>exact Hg (hE o) o
 |BoolOp op vs p=>exact Hu (hE o)
 |IfExp c a b p=>exact LO (hB o _) (hE o _) (hE o _)
 |Tuple es kk p=>exact KL (nJ (hE o) _)
 |List es p=>exact Kq (nJ (hE o) _)
 |ListComp elt gs sc p=>
  cases gs with
  |nil=>exact fN fun _=>rfl
  |cons g gs=>cases gs with
   |cons=>exact fN fun _=>rfl
   |nil=>
    obtain⟨tg,it,ifs,n⟩:=g
    show NE X _ (if n=0 then LD G rE rB L elt tg it ifs sc p else bx)
    split
    ·next z=>subst z;exact (FV o hE hB _ _ _ _ _ _).ne o
    ·exact fN fun _=>rfl
 |Subscript a ix p=>exact GR (hE o)
 |Call fn args kws p=>exact EO (hE o) o
 |_=>exact fN fun _=>rfl
theorem HQ (o:Ok X k G L){rE:RE}{rB:RB}(hE:∀{X:Cx} {L:Lc},Ok X k G L->∀e,NE X e (rE L e))(hB:∀{X:Cx} {L:Lc},Ok X k G L->∀e,NB X e (rB L e))(e:Expr):NB X e (LF rE rB L e):=by
 have hu:=o.r.units
 unfold LF
 split
 ·split
  ·exact A0 fun _=>rfl
  ·next z=>exact Kw (qX hu _) (hE o _) (hE o _) (by simpa using z)
 ·split
  ·exact A0 fun _=>rfl
  ·next z=>exact L4 (qX hu _) (qX hu _) (hE o _) (hE o _) (hE o _) (by simpa using z)
 ·next op vs p=>
  cases vs with
  |nil=>exact A0 fun _=>rfl
  |cons a r=>exact Ny (JH (hB o) op (a::r) (by simp))
 ·exact Kb (hB o _)
 ·split
  ·next z=>exact Lg (hE o _) (zr z)
  ·exact A0 fun _=>rfl
end
theorem Hi {X:Cx}{k:Nat}{G:Gc}{L:Lc}(o:Ok X k G L){rE:RE}{rB:RB}(hE:∀{X:Cx} {L:Lc},Ok X k G L->∀e,NE X e (rE L e))(hB:∀{X:Cx} {L:Lc},Ok X k G L->∀e,NB X e (rB L e))(e:Expr):NE X e (L8 G rE rB L e):=by
 unfold L8
 split
 ·exact Dl o hE hB _
 ·split
  ·next f hf=>exact o.hk.e o.toOk0 (fun o'=>hE ⟨o',o.hk⟩) (fun o'=>hB ⟨o',o.hk⟩) _ f hf
  ·exact Dl o hE hB _
theorem Ee {X:Cx}{k:Nat}{G:Gc}{L:Lc}(o:Ok X k G L){rE:RE}{rB:RB}(hE:∀{X:Cx} {L:Lc},Ok X k G L->∀e,NE X e (rE L e))(hB:∀{X:Cx} {L:Lc},Ok X k G L->∀e,NB X e (rB L e))(e:Expr):NB X e (match G.hk.b G.toGd rE rB L e with
  |some f=>f
  |none=>LF rE rB L e):=by
 split
 ·next f hf=>exact o.hk.b o.toOk0 (fun o'=>hE ⟨o',o.hk⟩) (fun o'=>hB ⟨o',o.hk⟩) _ f hf
 ·exact HQ o hE hB _
theorem la {k:Nat}{G:Gc}:∀n:Nat,(∀{X:Cx} {L:Lc},Ok X k G L->∀e,NE X e ((zR G n).1 L e))/\∀{X:Cx} {L:Lc},Ok X k G L->∀e,NB X e ((zR G n).2 L e)
 |0=>⟨fun _ _=>fN fun _=>rfl,fun _ _=>A0 fun _=>rfl⟩
 |n+1=>⟨fun o e=>Hi o (la n).1 (la n).2 e,fun o e=>Ee o (la n).1 (la n).2 e⟩
noncomputable abbrev HE (k:Nat)(G:Gc)(rE:RE):Prop:=∀{X:Cx} {L:Lc},Ok X k G L->∀e,NE X e (rE L e)
noncomputable abbrev HB (k:Nat)(G:Gc)(rB:RB):Prop:=∀{X:Cx} {L:Lc},Ok X k G L->∀e,NB X e (rB L e)
noncomputable abbrev HC (k:Nat)(G:Gc)(rE:RE):Prop:=∀{X:Cx} {L:Lc},Ok X k G L->∀elt tg it ifs sc p,CpOk X elt tg it ifs sc (rE L (.ListComp elt [⟨tg,it,ifs,0⟩] sc p))
theorem JN {k:Nat}{G:Gc}:∀n,HC k G (zR G n).1
 |0=>fun _ _ _ _ _ _ _=>⟨.inl fun _=>rfl⟩
 |n+1=>fun o _ _ _ _ _ _=>FV o (la n).1 (la n).2 _ _ _ _ _ _
end Dp
end
section
namespace Dp
open PySem PySem.Spec L2 PyProof.Rows
section
variable {X:Cx}{k:Nat}{G:Gc}{L:Lc}{x:Str}{i:Nat}{pos:Pos}{e v tg:Expr}
theorem CW {st:Stmt}{s:FS}(h:∀ρ,s ρ=.bad):NS X st s:=fun z s' E hz hb=>absurd (h _) hb
theorem Ok0.bk {G:Gd}(o:Ok0 X k G L):X.env.blockKind=.function:=by
 unfold Env.blockKind
 rw[o.sc,o.fk];rfl
theorem H5 {G:Gd}(o:Ok0 X k G L){t:Str}{p:Pos}{ln:Nat}:swapsWith v (some (.Name t p)) ln X.env=pure (GZ L v t p):=by
 have hk:X.env.kindOf t=L.sc.names.lookup t:=by show X.env.scope.names.lookup t=_;rw[o.sc]
 cases v<;>first|rfl|skip
 all_goals
  simp only[swapsWith,GZ,o.bk,hk,o.fk]
  rfl
theorem F8 (o:Ok X k G L){t:Str}{p:Pos}{ln:Nat}:swapsWith v (some (.Name t p)) ln X.env=pure (GZ L v t p):=H5 o.toOk0
theorem CG {ts:List Expr}{kk:Nat}{p:Pos}{ln:Nat}:swapsWithSole [.Tuple ts kk p] v ln X.env=pure false:=by cases v<;>rfl
theorem G7 {a b:Expr}{p:Pos}{ln:Nat}:swapsWithSole [.Subscript a b p] v ln X.env=pure false:=by cases v<;>rfl
theorem E4 {ln:Nat}(h:ER v=false):swapsWith v none ln X.env=pure false:=by
 cases v<;>first|rfl|(cases h)
theorem xM {G:Gd}(o:Ok0 X k G L){ts vs:List Expr}{k1 k2:Nat}{p1 p2:Pos}{r:Option (List Str)}(h:I7 L ts vs=some r):swappedStores [.Tuple ts k1 p1] (.Tuple vs k2 p2) X.env=pure r:=by
 have hk:X.env.kindOf=fun x=>L.sc.names.lookup x:=by funext t;show X.env.scope.names.lookup t=_;rw[o.sc]
 unfold I7 at h
 unfold swappedStores
 dsimp only
 rw[o.bk,hk]
 rw[o.fk] at h
 split at h
 ·next z=>cases h;exact if_pos z
 ·next z=>
  refine (if_neg z).trans ?_
  split at h
  ·next z=>cases h;exact if_pos z
  ·next z=>
   refine (if_neg z).trans ?_
   dsimp only at h
   split at h
   ·next z=>cases h;exact if_pos z
   ·next z=>
    refine (if_neg z).trans ?_
    split at h
    ·next z=>cases h;exact if_pos z
    ·next z=>
     refine (if_neg z).trans ?_
     split at h
     ·cases h
     ·next z=>cases h;exact (if_neg z).trans rfl
theorem vz (o:Ok X k G L){ts vs:List Expr}{k1 k2:Nat}{p1 p2:Pos}{r:Option (List Str)}(h:I7 L ts vs=some r):swappedStores [.Tuple ts k1 p1] (.Tuple vs k2 p2) X.env=pure r:=xM o.toOk0 h
theorem yZ {ts:List Expr}{k1:Nat}{p1:Pos}(h:yI v=false):swappedStores [.Tuple ts k1 p1] v X.env=pure none:=by
 cases v<;>first|rfl|(cases h)
theorem yz {a ix:Expr}{p:Pos}(h:hK ix=true):∀v,assign (.Subscript a ix p) X.env v=(do
  let ov ←holding [v] (eval a X.env)
  let iv ←holding [v,ov] (eval ix X.env)
  standAt p
  holding [v,ov,iv] (setItem ov iv v)
  release [v,ov,iv] []):=by
 cases ix<;>first|(exact fun _=>rfl)|skip
 rename_i lo hi st p
 cases st with
 |none=>cases h
 |some s=>exact fun _=>rfl
theorem EW {ix:Expr}(h:hK ix=true):∀ov iv new,augStore ix ov iv new=(do holding [new,ov,iv] (setItem ov iv new);release [new,ov,iv] [];pure .next):=by
 cases ix<;>first|(exact fun _ _ _=>rfl)|skip
 rename_i lo hi st p
 cases st with
 |none=>cases h
 |some s=>exact fun _ _ _=>rfl
theorem Mz (o:Ok X k G L){f:FE}{p:Pos}{own:Bool}(hi:gB L x=some i)(h:NE X v f)(hs:GZ L v x p=false):NS X (.Assign [.Name x p] v pos) (if own=true then kb i f else az i f):=by
 have hs:=(F8 (v:=v) o (t:=x) (p:=p) (ln:=pos.line)).trans (by rw[hs])
 split
 ·exact Jv (hX o hi) h hs
 ·exact Ja (hX o hi) h hs
theorem yk {fm:List (Option Nat)}{fi:FI}{t:FT}{c:FB}{fe:FE}{ρ:aj}:cU fm fi t c fe ρ=none\/∃ps,cU fm fi t c fe ρ=some (.nw ps):=by
 unfold cU
 cases fi ρ with
 |none=>exact .inl rfl
 |some its=>
  show (if its.length<1000 then _ else _)=none\/∃ps,(if its.length<1000 then _ else _)=_
  split
  ·cases lj t c fe (iW fm ρ) its with
   |none=>exact .inl rfl
   |some ps=>exact .inr ⟨ps,rfl⟩
  ·exact .inl rfl
theorem LY (o:Ok X k G L){f:FE}{p:Pos}{own:Bool}{elt t it:Expr}{ifs:List Expr}{sc:Scope}{vp:Pos}(hi:gB L x=some i)(hc:CpOk X elt t it ifs sc f)(hs:GZ L (.ListComp elt [⟨t,it,ifs,0⟩] sc vp) x p=true) :
  NS X (.Assign [.Name x p] (.ListComp elt [⟨t,it,ifs,0⟩] sc vp) pos) (if own=true then kb i f else az i f):=by
 have n:=hX o hi
 have hsw:=(F8 (v:=.ListComp elt [⟨t,it,ifs,0⟩] sc vp) o (t:=x) (p:=p) (ln:=pos.line)).trans (by rw[hs])
 rcases hc.ex with h|⟨N2,fm,fi,t',c,fe,rfl,h1,h2,h3,h4,h5,h6,h7⟩
 ·split
  ·exact CW fun ρ=>by unfold kb;rw[h];rfl
  ·exact CW fun ρ=>by unfold az;rw[h];rfl
 ·split
  ·have:=Ab (px:=p) h1 o.calm h2 h3 h4 h5 h6 (HM n) hsw h7
   rw[show kb i (cU fm fi t' c fe)=zM (cU fm fi t' c fe) (JI i) by
    funext ρ;unfold kb zM
    rcases yk (fm:=fm) (fi:=fi) (t:=t') (c:=c) (fe:=fe) (ρ:=ρ) with e|⟨ps,e⟩<;>rw[e]<;>rfl]
   exact this
  ·have:=Ab (px:=p) h1 o.calm h2 h3 h4 h5 h6 (Iv n) hsw h7
   rw[show az i (cU fm fi t' c fe)=zM (cU fm fi t' c fe) (Kv i) by
    funext ρ;unfold az zM
    rcases yk (fm:=fm) (fi:=fi) (t:=t') (c:=c) (fe:=fe) (ρ:=ρ) with e|⟨ps,e⟩<;>rw[e]<;>rfl]
   exact this
theorem xL (o:Ok X k G L){d m:Str}{q ap cp:Pos}{es:List Expr}(hi:slot L d=some i)(hl:(ap.endLine==cp.line)=true)(hs:es.all mv=true)(hn:es.length<21):McN X i d m q ap cp es:=by
 obtain⟨h1,h2,h3⟩:=iZ o hi
 refine⟨h1,h2,(bo h3).1,(bo h3).2.1,rfl,hl,?_,fun e r he=>?_⟩
 ·rw[vD hs]
  show (true&&true&&decide _)=true
  rw[Bool.and_self,Bool.true_and,decide_eq_true_eq]
  simp only[List.length_nil,List.isEmpty_nil,if_true]
  omega
 ·subst he
  rw[List.all_cons,Bool.and_eq_true] at hs
  exact⟨ig hs.1 r X.env,jK hs.2⟩
theorem ID (o:Ok X k G L){y:Nat}{p:Pos}{s:FS}(hi:gB L x=some y)(h:Mf L y v=some s):NS X (.Assign [.Name x p] v pos) s:=by
 unfold Mf at h
 split at h
 ·next d q m ap cp=>
  split at h
  ·next i hd=>
   split at h
   ·next z=>
    rw[Bool.and_eq_true,decide_eq_true_eq] at z
    obtain⟨rfl,z⟩:=z
    cases h
    exact JW FP (xL o hd z rfl (by decide)) (hX o hi) tD (fun _=>rfl) rfl
   ·cases h
  ·cases h
 ·cases h
theorem EL (o:Ok X k G L){f:FE}{ts:List Expr}{kk:Nat}{p:Pos}(h:NE X v f)(hw:swappedStores [.Tuple ts kk p] v X.env=pure none):NS X (.Assign [.Tuple ts kk p] v pos) (iU f (vT 5 L (.Tuple ts kk p))):=
 Lb h (vb 5 o (.Tuple ts kk p)) CG hw rfl
theorem Ek (h:IE v=true):∃elt t it ifs sc p,v=.ListComp elt [⟨t,it,ifs,0⟩] sc p:=by
 unfold IE at h
 split at h
 ·exact⟨_,_,_,_,_,_,rfl⟩
 ·cases h
theorem EQ (o:Ok X k G L){rE:RE}(hE:HE k G rE)(hC:HC k G rE)(tg v:Expr):NS X (.Assign [tg] v pos) (H8 G rE L tg v):=by
 unfold H8
 split
 ·next y p=>
  split
  ·next i hi=>
   split
   ·exact cg
   ·next z=>
    split
    ·next s hs=>exact ID o hi hs
    ·by_cases hs:GZ L v y p=true
     ·rw[hs,Bool.true_and,Bool.not_eq_true'] at z
      obtain⟨elt,t,it,ifs,sc,vp,rfl⟩:=Ek (v:=v) (by simpa using z)
      exact LY o hi (hC o elt t it ifs sc vp) hs
     ·exact Mz o hi (hE o v) (by simpa using hs)
  ·exact cg
 ·next j jp ix p=>
  split
  ·next i hi=>
   obtain⟨h1,h2,h3⟩:=iZ o hi
   split
   ·next z=>
    rw[Bool.and_eq_true] at z
    exact Jo (o:=v) h1 h2 (bo h3).1 (bo h3).2.1 (hE o ix) (hE o v) G7 rfl rfl (yz z.1)
   ·exact cg
  ·exact cg
 ·next x px y py kk pt=>
  split
  ·next a b k2 p2=>
   split
   ·next l i j hw hi hj=>
    split
    ·next z=>
     simp only[Bool.and_eq_true,beq_iff_eq,bne_iff_ne,ne_eq] at z
     obtain⟨⟨⟨⟨⟨z0,z1⟩,z2⟩,z3⟩,z4⟩,z5⟩:=z
     have hx:X.env.scope.names.lookup x=some .local:=by rw[o.sc];exact z4
     have hy:X.env.scope.names.lookup y=some .local:=by rw[o.sc];exact z5
     rw[z0] at hw
     exact Ko o.calm (hX o hi) (hX o hj) z3 hx hy (nJ (hE o) [a,b]) (vz o hw) CG
    ·exact cg
   ·next hw=>exact EL o (hE o _) (vz o hw)
   ·exact cg
  ·split
   ·exact cg
   ·next z=>exact EL o (hE o v) (yZ (by simpa using z))
 ·split
  ·next z=>
   unfold Jl at z
   split at z
   ·next ts _ _ vs _ _=>
    split at z
    ·next hw=>exact EL o (hE o _) (vz o hw)
    ·cases z
   ·next ts _ _ hv=>exact EL o (hE o v) (yZ (by cases v<;>first|rfl|exact (hv _ _ _ rfl).elim))
   ·cases z
  ·exact cg
theorem HN (o:Ok X k G L){f:Expr->FE}(hf:∀e,NE X e (f e)){s:FS}(h:LV G f L tg v=some s):NS X (.Assign [tg] v pos) s:=by
 unfold LV at h
 split at h
 ·next g fp x xp es cp=>
  split at h
  ·next i hi=>
   obtain⟨h1,h2,h3⟩:=iZ o hi
   split at h
   ·next z=>
    rw[Bool.and_eq_true,Bool.and_eq_true] at z
    have ha:NA X es (IR f es):=AS hf z.1.2
    have hpl:(backTo cp (starEach es X.env)).any (·.1)=false:=jK z.1.2
    have hg:=vb 5 o tg
    have sw:swapsWithSole [tg] (.Call (.Name g fp) (.Name x xp::es) [] cp) pos.line X.env=pure false/\swappedStores [tg] (.Call (.Name g fp) (.Name x xp::es) [] cp) X.env=pure none/\(assignEach [tg] X.env).map (·.2)=[assign tg X.env]:=by
     have t:=z.2
     cases tg<;>first|exact⟨rfl,rfl,rfl⟩|(cases t)
    split at h
    ·next F hF=>
     split at h
     ·next hgl=>
      cases h
      obtain⟨hG,hd⟩:=i7 o hgl
      obtain⟨j,hj,D⟩:=o.g.lents _ F hF
      exact Ia D hj hG (bo hd).1 (fun _=>o.calm) o.r h1 h2 (bo h3).1 (bo h3).2.1 ha hpl hg sw.1 sw.2.1 sw.2.2
     ·cases h
    ·split at h
     ·next j hj=>
      obtain⟨g1,g2,g3⟩:=iZ o hj
      split at h
      ·cases h
      ·cases h
       exact EY o.g.lents (fun _=>o.calm) o.r g1 g2 (bo g3).1 (bo g3).2.1 h1 h2 (bo h3).1 (bo h3).2.1 ha hpl hg sw.1 sw.2.1 sw.2.2
     ·cases h
   ·cases h
  ·cases h
 ·cases h
theorem GI (o:Ok X k G L){rE:RE}(hE:HE k G rE)(hC:HC k G rE)(tg v:Expr):NS X (.Assign [tg] v pos) (L0 G rE L tg v):=by
 unfold L0
 split
 ·next s h=>exact HN o (hE o) h
 ·exact EQ o hE hC tg v
theorem pi {f:Stmt->FS}(h:∀s,NS X s (f s)):∀ss:List Stmt,zY X ss (vL f ss)
 |[]=>Ih
 |[s]=>H0 (h s)
 |s::t::r=>EV (h s) (pi h (t::r))
theorem Av {op:Operator}{g:Int->Int->Int}(h:sn op=some g):Ay X op g:=by
 cases op<;>first|(cases h;done)|skip
 ·cases h;exact BX
 ·cases h;exact Bx
section
variable {f:Expr->FE}(hf:∀e,NE X e (f e))
include hf
theorem Hx (o:Ok X k G L){v:Option Expr}:NS X (.Return v pos) (Nb L f v):=by
 cases v with
 |none=>exact cg
 |some e=>
  cases e<;>first|exact FD (hf _)|skip
  rename_i x p
  show NS X _ (match slot L x with
   |some i=>if L.top&&!L.lent then lZ i else bZ
   |none=>bz (f (.Name x p)))
  cases hi:slot L x with
  |none=>exact FD (hf _)
  |some i=>
   obtain⟨h1,h2,h3⟩:=iZ o hi
   show NS X _ (if L.top&&!L.lent then lZ i else bZ)
   split
   ·next ht=>
    rw[Bool.and_eq_true,Bool.not_eq_true'] at ht
    exact GF h1 h2 (bo h3).1 (bo h3).2.1 (o.h0 ht.2 ht.1)
   ·exact cg
theorem E5 (o:Ok X k G L){op:Operator}:NS X (.AugAssign tg op v pos) (JQ L f tg op v):=by
 cases tg<;>first|exact cg|skip
 ·rename_i b ix p
  cases b<;>first|exact cg|skip
  rename_i j q
  show NS X _ (match slot L j with
   |none=>bZ
   |some i=>match sn op with
    |some g=>if hK ix then mw g i (f ix) (f v) else bZ
    |none=>bZ)
  cases hi:slot L j with
  |none=>exact cg
  |some i=>
   obtain⟨h1,h2,h3⟩:=iZ o hi
   show NS X _ (match sn op with
    |some g=>if hK ix then mw g i (f ix) (f v) else bZ
    |none=>bZ)
   cases hg:sn op with
   |none=>exact cg
   |some g=>
    show NS X _ (if hK ix then mw g i (f ix) (f v) else bZ)
    split
    ·next z=>exact E7 h1 h2 (bo h3).1 (bo h3).2.1 (hf _) (hf _) (Av hg) (EW z)
    ·exact cg
 ·rename_i x p
  show NS X _ (match gB L x with
   |none=>bZ
   |some i=>match sn op with
    |some g=>nE g i (f v)
    |none=>bZ)
  cases hi:gB L x with
  |none=>exact cg
  |some i=>
   show NS X _ (match sn op with
    |some g=>nE g i (f v)
    |none=>bZ)
   cases hg:sn op with
   |none=>exact cg
   |some g=>exact JO (hX o hi) (hf _) (Av hg)
theorem DE (o:Ok X k G L){d m:Str}{q ap cp:Pos}{args:List Expr}:NS X (.Expr (.Call (.Attribute (.Name d q) m ap) args [] cp) pos) (GV L f d q m ap args cp):=by
 unfold GV
 cases hi:slot L d with
 |none=>cases args with
  |nil=>exact cg
  |cons=>exact oF (hf _) rfl
 |some i=>cases args with
  |nil=>
   show NS X _ (if ap.endLine==cp.line then (if m = "reverse" then vx Ce i ag else if m = "pop" then vx tC i ag else bZ) else bZ)
   split
   ·next z=>
    split
    ·next zz=>subst zz;exact Ix J0 (xL o hi z rfl (by decide)) tD (fun _=>rfl) rfl
    ·split
     ·next zz=>subst zz;exact Ix FP (xL o hi z rfl (by decide)) tD (fun _=>rfl) rfl
     ·exact cg
   ·exact cg
  |cons a as=>
   show NS X _ (if m = "append"&&ap.endLine==cp.line&&(a::as).all mv&&decide (as.length<20) then vx mL i (vA f (a::as)) else bZ)
   split
   ·next z=>
    rw[Bool.and_eq_true,Bool.and_eq_true,Bool.and_eq_true,decide_eq_true_eq,decide_eq_true_eq] at z
    obtain⟨⟨⟨rfl,z1⟩,z2⟩,z3⟩:=z
    exact Ix Js (xL o hi z1 z2 (by rw[List.length_cons];omega)) (nJ hf _) (fun e=>by cases e) rfl
   ·exact cg
theorem DV (o:Ok X k G L):NS X (.Expr e pos) (Hb L f e):=by
 unfold Hb
 split
 ·next z=>
  cases e<;>first|(cases z;done)|skip
  rename_i c _ _
  cases c<;>first|(cases z;done)|skip
  exact KW
 ·cases e with
  |Call fn args kws cp=>
   cases kws with
   |cons=>exact oF (hf _) rfl
   |nil=>
    cases fn with
    |Attribute b m ap=>
     cases b with
     |Name d q=>exact DE hf o
     |_=>exact oF (hf _) rfl
    |_=>exact oF (hf _) rfl
  |ListComp a b c d=>exact cg
  |SetComp a b c d=>exact cg
  |DictComp a b c d e=>exact cg
  |_=>exact oF (hf _) (E4 rfl)
end
theorem He (o:Ok X k G L){rE:RE}{rB:RB}{rS:Lc->Stmt->FS}(hE:HE k G rE)(hB:HB k G rB)(hC:HC k G rE)(hS:∀s,NS X s (rS L s))(st:Stmt):NS X st (M1 G rE rB rS L st):=by
 cases st with
 |Return v p=>exact Hx (hE o) o
 |If c a b p=>exact Mg (hB o _) (pi hS _) (pi hS _)
 |For tg it body els p=>
  cases els with
  |cons=>exact cg
  |nil=>
   show NS X _ (if GB it then jt (vI G L (rE L) false tg it) (vT 5 L tg) (vL (rS L) body) else bZ)
   split
   ·next z=>exact Jn o.calm (FN o (hE o) tg it) (vb 5 o tg) (pi hS body) (by
     intro y
     cases it<;>first|rfl|(cases z))
   ·exact cg
 |While c body els p=>
  cases els with
  |cons=>exact cg
  |nil=>exact EN (hB o _) (pi hS _)
 |Assign tgs v p=>
  cases tgs with
  |nil=>exact cg
  |cons tg r=>cases r with
   |cons=>exact cg
   |nil=>exact GI o hE hC _ _
 |AugAssign tg op v p=>exact E5 (hE o) o
 |Expr e p=>exact DV (hE o) o
 |Pass p=>exact HZ
 |Break p=>exact D2
 |Continue p=>exact wx
 |_=>exact cg
theorem yV {st:Stmt}:∀{l:List Nat} {s:FS},NS X st s->NS X st (frzs l s)
 |[],_,h=>h
 |i::r,_,h=>yV (l:=r) (J8 h i)
end
theorem y5 {k:Nat}{G:Gc}:∀(n:Nat) {X:Cx} {L:Lc},Ok X k G L->∀s,NS X s (vS G n L s)
 |0,_,_,_,_=>cg
 |n+1,_,L,o,s=>by
  unfold vS
  refine yV ?_
  split
  ·next f hf=>exact o.hk.s o.toOk0 (fun o'=>(la n).1 ⟨o',o.hk⟩) (fun o'=>(la n).2 ⟨o',o.hk⟩) (y5 n o) s f hf
  ·exact He o (la n).1 (la n).2 (JN n) (y5 n o) s
end Dp
end
section
namespace Dp
open PySem PySem.Spec L2 PyProof.Rows
section
variable {P:Program}{w:World}{K:PySem.W.Frag}{mg:Str->Option Value}{base:Heap}{k:Nat}
theorem KU {x:Str}{st:Stmt}{f:Addr}{fd:FuncData}{N ps:List Str}{s:FS}{G:Gc}(L:Lc)(F:Fun K x x st f fd)(S:FnScope N ps (ae st))(g:GOk P w K mg base k G.toGd)(hk:HkOk G.hk)(hs:vL (vS G 60 L) (ak st)=s)(h1:L.sc=ae st)(h2:L.N=N)(h3:L.top=true) :
  NF P w K mg base true (k+1) f fd ps (run ps.length N.length s):=by
 obtain⟨oc,od,kV,doc,pm,an,cdv,ct,osl,rfl,lk,hcd⟩:=F.ex
 exact KD lk hcd S fun A outer s' hc hr=>hs▸pi (y5 60 ⟨⟨g,hr,h1.symm,h2.symm,by rw[h2];exact S.nd,by rw[h1];exact S.kind,rfl,fun _ _=>rfl,fun _ _=>rfl,fun h=>by rw[h3] at h;cases h⟩,hk⟩) (ak st)
theorem bf {x:Str}{st:Stmt}{N ps:List Str}{a n:Nat}{s:FS}{G:Gc}(L:Lc)(F:ax K mg x st ps)(S:FnScope N ps (ae st))(g:GOk P w K mg base k G.toGd)(hk:HkOk G.hk)
  (hs:vL (vS G 60 L) (ak st)=s) (h1:L.sc=ae st:=by rfl) (h2:L.N=N:=by rfl) (h3:L.top=true:=by rfl) (ha:ps.length=a:=by rfl) (hn:N.length=n:=by rfl):DefN P w K mg base true (k+1) x (run a n s):=by
 obtain⟨f,fd,F,b,m⟩:=F
 subst ha hn
 exact⟨f,fd,ps,KU L F S g hk hs h1 h2 h3,.all b,F.kp,m⟩
noncomputable def oU {α:Type}(p:α->Prop):List α->Prop
 |[]=>True
 |a::r=>p a/\oU p r
theorem eT {β:Type}{p:Str×β->Prop}:∀{l:List (Str×β)},oU p l->∀x b,l.lookup x=some b->p (x,b)
 |[],_,_,_,h=>by cases h
 |(y,c)::r,⟨h1,h2⟩,x,b,h=>by
  rw[List.lookup_cons] at h
  cases hx:x==y with
  |true=>
   rw[hx] at h
   have:x=y:=by simpa using hx
   subst this
   cases h;exact h1
  |false=>rw[hx] at h;exact eT h2 x b h
theorem pH {p:Str->Prop}:∀{l:List Str},oU p l->∀x,l.contains x=true->p x
 |[],_,_,h=>by cases h
 |y::r,⟨h1,h2⟩,x,h=>by
  rw[List.contains_cons,Bool.or_eq_true] at h
  rcases h with h|h
  ·have:x=y:=by simpa using h
   subst this;exact h1
  ·exact pH h2 x h
theorem iR {G:Gd}(h1:oU (fun x=>mg x=none) G.bi)(h2:oU (fun p=>∃t,mg p.1=some (.int p.2 t)) G.nis)(h3:oU (fun p=>Fp P w mg base p.1 (.ktu p.2)) G.tups)(h4:oU (fun x=>∃a,mg x=some (.ref a)) G.vals)(h5:oU (fun p=>∃j,j≤k/\DefN P w K mg base true j p.1 p.2) G.fns)
  (h6:oU (fun p=>Fp P w mg base p.1 (.dct p.2.1 p.2.2)) G.dcts) (h7:oU (fun p=>∃j,j≤k/\DefN P w K mg base true j p.1 p.2) G.tab) (h8:oU (fun p=>∃j,j≤k/\DefL P w K mg base true j p.1 p.2) G.lents):GOk P w K mg base k G:=
 ⟨pH h1,eT h2,eT h3,pH h4,eT h5,eT h6,eT h7,eT h8⟩
theorem pX {x:Str}{st:Stmt}{N ps:List Str}{a n:Nat}{s:FS}{G:Gc}(L:Lc)(F:ax K mg x st ps)(S:FnScope N ps (ae st))(g:GOk P w K mg base k G.toGd)(hk:HkOk G.hk)
  (hs:vL (vS G 60 L) (ak st)=s) (h1:L.sc=ae st:=by rfl) (h2:L.N=N:=by rfl) (h3:L.top=true:=by rfl) (h4:L.lent=true:=by rfl) (ha:ps.length=a:=by rfl) (hn:N.length=n:=by rfl):DefL P w K mg base true (k+1) x (r6 a n s):=by
 obtain⟨f,fd,F,b,m⟩:=F
 subst ha hn
 refine⟨f,fd,ps,?_,.all b,F.kp,m⟩
 obtain⟨oc,od,kV,doc,pm,an,cdv,ct,osl,rfl,lk,hcd⟩:=F.ex
 exact GX lk hcd S fun A outer s' H hc hr=>hs▸pi (y5 60 ⟨⟨g,hr,h1.symm,h2.symm,by rw[h2];exact S.nd,by rw[h1];exact S.kind,rfl,fun _ _=>rfl,fun h=>(by rw[h4] at h;cases h),fun h=>by rw[h3] at h;cases h⟩,hk⟩) (ak st)
end
end Dp
end
section
namespace Dp
open PySem PySem.Spec L2 PyProof.Rows
theorem zp {P:Program}{w:World}{K:PySem.W.Frag}{mg mb:Str->Option Value}{k:Nat}{fa a:Addr}{fd:FuncData}{x:Str}{s₁:Shared}{vs:List Value}{ns:List Int}{Fl:Fn}
  (KX:K.In s₁.heap) (hns:s₁.heap.Ns mainGlobals mg) (hb:s₁.heap.Ns builtinsNs mb) (hbb:∀x:Str,x ≠ "__name__"->mb x=bootBuiltins x) (hlim:s₁.heap.NoLimit) (hg:s₁.gens = #[])
  (ha:s₁.heap.get? a=some { cls:=.type "list",data:=.seq vs.toArray }) (hi:IntsAre vs ns) (hl:ns.length≤sizeLine) (hr:Rm k callerA)
  (F:NF P w K mg s₁.heap true k fa fd [x] Fl) (hbind:∀(s:Shared) (u:Value),BindsTo s fd ⟨[u],[]⟩ [(x,u)]) (q:Fl [.src (ns.map .int)]=some (.v (.bl true))) :
  codeAny (model P w) callerA (.call (.ref fa) ⟨[.ref a],[]⟩) (fun r s'=>r=.ok (.ret (.bool true))/\OldK s₁.heap s'.heap/\s'.os=s₁.os/\AllBare s'.gens) s₁:=by
 have lenV:=hi.length
 have hM:Mod K mg s₁.heap:=⟨KX,hns,⟨mb,hb,hbb⟩,hlim⟩
 have e0:Env0 P w K mg s₁.heap callerA [] s₁ h0:=⟨rfl,hM,fun b o e=>⟨e,rfl⟩,Nat.le_refl _,trivial,fun b hb=>absurd (show b∈([]:List Addr) from hb) (by simp),fun b o e=>(by cases e),.of_eq hg⟩
 refine codeAny_mono (F.run callerA [] s₁ ⟨[.ref a],[]⟩ [.ref a] [.src (ns.map .int)] _ (fun _=>False) (fun _=>rfl) hr e0 (hbind s₁ (.ref a)) (fun b hb=>absurd (show b∈([]:List Addr) from hb) (by simp)) (fun b h=>h.elim) (fun b o _ h=>h)
  ⟨.ref a,[],rfl,⟨a,vs,_,rfl,⟨rfl,id⟩,ha,by omega,xP hi⟩,rfl⟩ q) fun r s' h=>?_
 obtain⟨u,rfl,os,bare,un,d⟩:=h
 obtain rfl:u=Value.bool true:=d
 exact⟨rfl,OldK.of_keep fun b o e=>un.keep b o e rfl (by intro z;exact absurd (show b∈([]:List Addr) from z) (by simp)) (by simp),os,bare⟩
theorem KQ {l:PySem.W.OpenLaw}{q:Program}{loose:List Str}{XP:(Str->Option Value)->Heap->Prop}{YP:World->Heap->Prop}{d:DefRec}{K:Params->PySem.W.Frag}{k:Nat}{Fl:Fn}(hk:k≤40)(hn:l.most=some 63)(hdf:d.params.defaults=[])
  (hY:∀(w:World) (h:Heap),YP w h->(K w.params).In h)
  (hq:∀ns:List Int,ns.length≤63->Fl [.src (ns.map .int)]=some (.v (.bl true)))
  (F:∀(w:World) (mg:Str->Option Value) (fa:Addr) (h:Heap),(K w.params).In h->h.Ns mainGlobals mg->mg d.name=some (.ref fa) →
   ∃fd:FuncData,(∀(s:Shared) (u:Value),BindsTo s fd ⟨[u],[]⟩ [("_law_script",u)])/\∀base:Heap,(K w.params).In base/\base.Ns mainGlobals mg->NF l.prog w (K w.params) mg base true k fa fd ["_law_script"] Fl) :
  PySem.W.WalkO q loose XP YP l.row.toRowW d [] (fun f vs=>PySem.call f vs):=by
 refine Att.attach_call hn hdf fun w s₀ s₁ mg mb fa o pm cd doc a vs ns G Y ho hd hcd hmg hobj hints hlen hg=>?_
 have KX:=hY w _ Y
 obtain⟨fd,hb,hF⟩:=F w mg fa _ KX G.T.g hmg
 have R:Rm 40 callerA:=⟨by decide,by decide⟩
 exact zp KX G.T.g G.T.b G.T.builtins G.T.nolimit hg hobj hints (Nat.le_trans hlen (by decide)) (R.mono hk) (hF _ ⟨KX,G.T.g⟩) hb (hq ns hlen)
theorem E6 {P:Program}{w:World}{K:PySem.W.Frag}{mg:Str->Option Value}{x y:Str}{st:Stmt}{fa:Addr}{k a n:Nat}{N:List Str}{R:Heap->Prop}{s:FS}(F:ax K mg x st [y])(hm:mg x=some (.ref fa))(S:FnScope N [y] (ae st))(ha:a=1)(hn:N.length=n)
  (h:∀base,R base->∃(L:Lc) (G:Gc),GOk P w K mg base k G.toGd/\HkOk G.hk/\vL (vS G 60 L) (ak st)=s/\L.sc=ae st/\L.N=N/\L.top=true) :
  ∃fd:FuncData,(∀(s:Shared) (u:Value),BindsTo s fd ⟨[u],[]⟩ [(y,u)])/\∀base:Heap,R base->NF P w K mg base true (k+1) fa fd [y] (run a n s):=by
 subst ha hn
 obtain⟨f,fd,F,b,m⟩:=F
 rw[hm] at m
 cases m
 exact⟨fd,fun s u=>.of_eq (b [u] rfl),fun base hb=>by
  obtain⟨L,G,g,hk,hs,h1,h2,h3⟩:=h base hb
  exact KU L F S g hk hs h1 h2 h3⟩
end Dp
end
section
namespace Dp
open PySem PySem.Spec L2 PyProof.Rows
section
variable {P:Program}{w:World}{K:PySem.W.Frag}{mg:Str->Option Value}{base:Heap}{x:Str}{a:Addr}{ps:List PV}
theorem EM {o:Option Addr}{its:List Value}{n:Nat}{sl:Array (Option Value)}(KI:K.In base)(m:mg x=some (.ref a))(l:K.lookup a=some ⟨.type "tuple",o,.seq its.toArray n,sl⟩)(hl:its.length≤sizeLine)(ds:∀(c:Cn) h,c.mg=mg->Ds c h ps its):Fp P w mg base x (.ktu ps):=
 ⟨_,m,fun h bad H hb=>⟨a,its,rfl,(hb a _ (KI a _ l)).2,⟨_,(hb a _ (KI a _ l)).1,rfl,n,rfl⟩,hl,ds _ _ rfl⟩⟩
inductive DEs (w:World) (mg:Str->Option Value):List DictEntry->List fP->List PV->Prop where
 |nil:DEs w mg [] [] []
 |cons {x:Str} {t:Tok} {u:Value} {p:PV} {es:List DictEntry} {ks:List fP} {ps:List PV}:(∀(c:Cn) h,c.mg=mg->D c h p u)->DEs w mg es ks ps->DEs w mg (⟨PyData.keyHash w.params x,.str x t,u⟩::es) (.inr x::ks) (p::ps)
theorem DEs.ok {es:List DictEntry}{ks:List fP}(d:DEs w mg es ks ps):∃kus:List (fP×Value),kus.map (·.1)=ks/\(∀(c:Cn) h,c.mg=mg->Ds c h ps (kus.map (·.2)))/\(∀e∈es,∃k,(bq P w).is k e.key=true/\e.hash=(bq P w).hash k)/\Pairs (bq P w) es kus:=by
 induction d with
 |nil=>exact⟨[],rfl,fun _ _ _=>rfl,fun _ h=>(by cases h),.nil⟩
 | @cons x t u p es ks ps h1 _ ih=>
  obtain⟨kus,e1,e2,e3,e4⟩:=ih
  refine⟨(.inr x,u)::kus,by rw[List.map_cons,e1],fun c h hm=>⟨u,_,rfl,h1 c h hm,e2 c h hm⟩,fun e he=>?_,.cons (ka P w x t) rfl e4⟩
  rcases List.mem_cons.mp he with rfl|he
  ·exact⟨.inr x,ka P w x t,rfl⟩
  ·exact e3 e he
theorem EG {es:Array DictEntry}{ep:Nat}{ks:List fP}(KI:K.In base)(m:mg x=some (.ref a))(sys:(a==sysModules)=false)(l:K.lookup a=some ⟨.type "dict",none,.dict es ep,#[]⟩)(hl:ks.length≤sizeLine)(nd:ks.Nodup)(d:DEs w mg es.toList ks ps):Fp P w mg base x (.dct ks ps):=by
 obtain⟨kus,e1,e2,e3,e4⟩:=d.ok (P:=P)
 refine⟨_,m,fun h bad H hb=>?_⟩
 obtain⟨g1,g2,g3⟩:=hb a _ (KI a _ l)
 exact⟨a,kus,rfl,⟨g2,g3⟩,sys,⟨_,es,ep,g1,⟨rfl,rfl,rfl⟩,rfl,fun e he=>e3 e (Array.mem_toList_iff.mpr he),e4,by rw[e1];exact nd⟩,by rw[←e1,List.length_map] at hl;exact hl,e1,e2 _ _ rfl⟩
end
end Dp
end
section
namespace Fo
noncomputable abbrev up (us:List Nat)(x:Nat):Nat:=us.getD x 0
theorem eL {us:List Nat}{x v t:Nat}(hx:x<us.length):up (us.set x v) t=if t=x then v else up us t:=by
 simp only[up,List.getD_eq_getElem?_getD,List.getElem?_set]
 by_cases h:x=t
 ·subst h;simp[hx]
 ·simp[h,Ne.symm h]
structure Fst (us:List Nat):Prop where
 bnd:∀x,x<us.length->up us x<us.length
 rk:∃r:Nat->Nat,(∀x,x<us.length->r x<us.length)/\∀x,x<us.length->up us x≠x->r (up us x)<r x
inductive Way (us:List Nat):Nat->List Nat->Prop where
 |head {x:Nat}:up us x=x->Way us x [x]
 |step {x:Nat} {l:List Nat}:up us x≠x->Way us (up us x) l->Way us x (x::l)
theorem Way.det {us:List Nat}{x:Nat}{l l':List Nat}(h:Way us x l)(h':Way us x l'):l=l':=by
 induction h generalizing l' with
 |head e=>cases h' with
  |head _=>rfl
  |step n _=>exact absurd e n
 |step n _ ih=>cases h' with
  |head e=>exact absurd e n
  |step _ q=>rw[ih q]
theorem Way.ne {us:List Nat}{x:Nat}{l:List Nat}(h:Way us x l):l≠[]:=by cases h<;>simp
theorem Way.pos {us:List Nat}{x:Nat}{l:List Nat}(h:Way us x l):1≤l.length:=by cases h<;>simp
theorem Way.mem_self {us:List Nat}{x:Nat}{l:List Nat}(h:Way us x l):x∈l:=by cases h<;>simp
noncomputable def gQ (l:List Nat):Nat:=l.getLastD 0
theorem cH {x:Nat}{l:List Nat}(h:l≠[]):gQ (x::l)=gQ l:=by
 cases l with
 |nil=>exact absurd rfl h
 |cons y t=>simp[gQ,List.getLastD_cons]
theorem pB {l:List Nat}(h:l≠[]):gQ l∈l:=by
 induction l with
 |nil=>exact absurd rfl h
 |cons y t ih=>
  cases t with
  |nil=>simp[gQ]
  |cons z t=>rw[cH (by simp)];exact List.mem_cons_of_mem _ (ih (by simp))
theorem Way.head_last {us:List Nat}{x:Nat}{l:List Nat}(h:Way us x l):up us (gQ l)=gQ l:=by
 induction h with
 |head e=>exact e
 |step _ w ih=>rw[cH w.ne];exact ih
theorem Way.lt {us:List Nat}{x:Nat}{l:List Nat}(h:Way us x l)(b:∀x,x<us.length->up us x<us.length)(hx:x<us.length):∀y∈l,y<us.length:=by
 induction h with
 |head e=>intro y hy;rw[List.mem_singleton] at hy;subst hy;exact hx
 |step n w ih=>
  intro y hy
  rcases List.mem_cons.mp hy with rfl|hy
  ·exact hx
  ·exact ih (b _ hx) y hy
theorem Way.rank {us:List Nat}{x:Nat}{l:List Nat}(h:Way us x l)(b:∀x,x<us.length->up us x<us.length){r:Nat->Nat}(hr:∀x,x<us.length->up us x≠x->r (up us x)<r x)(hx:x<us.length):∀y∈l,r y≤r x:=by
 induction h with
 |head e=>intro y hy;rw[List.mem_singleton] at hy;subst hy;exact Nat.le_refl _
 | @step x l n w ih=>
  intro y hy
  rcases List.mem_cons.mp hy with rfl|hy
  ·exact Nat.le_refl _
  ·exact Nat.le_trans (ih (b _ hx) y hy) (Nat.le_of_lt (hr x hx n))
theorem Way.nodup {us:List Nat}{x:Nat}{l:List Nat}(h:Way us x l)(f:Fst us)(hx:x<us.length):l.Nodup:=by
 obtain⟨b,r,hb,hr⟩:=f
 induction h with
 |head e=>simp
 | @step x l n w ih=>
  refine List.nodup_cons.mpr ⟨fun hm=>?_,ih (b _ hx)⟩
  have h1:=w.rank b hr (b _ hx) x hm
  have h2:=hr x hx n
  omega
theorem Fst.way {us:List Nat}(f:Fst us){x:Nat}(hx:x<us.length):∃l,Way us x l/\l.length≤us.length:=by
 obtain⟨b,r,hb,hr⟩:=f
 suffices h:∀k x,x<us.length->r x≤k->∃l,Way us x l/\l.length≤k+1 by
  obtain⟨l,w,hl⟩:=h (r x) x hx (Nat.le_refl _)
  exact⟨l,w,by have:=hb x hx;omega⟩
 intro k
 induction k with
 |zero=>
  intro x hx h0
  by_cases e:up us x=x
  ·exact⟨_,.head e,by simp⟩
  ·exact absurd (hr x hx e) (by omega)
 |succ k ih=>
  intro x hx h0
  by_cases e:up us x=x
  ·exact⟨_,.head e,by simp⟩
  ·obtain⟨l,w,hl⟩:=ih (up us x) (b x hx) (by have:=hr x hx e;omega)
   exact⟨_,.step e w,by simp;omega⟩
theorem Way.closed {us:List Nat}{x:Nat}{l:List Nat}(h:Way us x l):∀y∈l,up us y∈l:=by
 induction h with
 | @head x q=>intro y hy;rw[List.mem_singleton] at hy;subst hy;rw[q];simp
 | @step x l n w ih=>
  intro y hy
  rcases List.mem_cons.mp hy with rfl|hy
  ·exact List.mem_cons_of_mem _ w.mem_self
  ·exact List.mem_cons_of_mem _ (ih y hy)
theorem Way.later {us:List Nat}{x:Nat}{l:List Nat}(h:Way us x l):∀y∈l,∃l2,Way us y l2/\gQ l2=gQ l/\l2.length≤l.length/\∀z∈l2,z∈l:=by
 induction h with
 | @head x q=>intro y hy;rw[List.mem_singleton] at hy;subst hy;exact⟨_,.head q,rfl,Nat.le_refl _,fun _ h=>h⟩
 | @step x l n w ih=>
  intro y hy
  rcases List.mem_cons.mp hy with rfl|hy
  ·exact⟨_,.step n w,rfl,Nat.le_refl _,fun _ h=>h⟩
  ·obtain⟨l2,a,b,c,d⟩:=ih y hy
   exact⟨l2,a,by rw[b,cH w.ne],by simp;omega,fun z hz=>List.mem_cons_of_mem _ (d z hz)⟩
structure Shorter (us us':List Nat):Prop where
 len:us'.length=us.length
 up:∀t,t<us.length->(up us t=t/\Fo.up us' t=t)\/(Fo.up us t≠t/\∃l,Way us (Fo.up us t) l/\Fo.up us' t∈l)
theorem Shorter.refl {us:List Nat}(f:Fst us):Shorter us us:=⟨rfl,fun t ht=>by
 by_cases e:Fo.up us t=t
 ·exact .inl ⟨e,e⟩
 ·obtain⟨l,w,_⟩:=f.way (f.bnd t ht)
  exact .inr ⟨e,l,w,w.mem_self⟩⟩
theorem Shorter.fst {us us':List Nat}(s:Shorter us us')(f:Fst us):Fst us':=by
 obtain⟨b,r,hb,hr⟩:=f
 refine⟨fun x hx=>?_,r,fun x hx=>?_,fun x hx hn=>?_⟩
 ·rw[s.len] at hx ⊢
  rcases s.up x hx with ⟨_,e⟩|⟨_,l,w,m⟩
  ·rw[e];exact hx
  ·exact w.lt b (b x hx) _ m
 ·rw[s.len] at hx ⊢;exact hb x hx
 ·rw[s.len] at hx
  rcases s.up x hx with ⟨_,e⟩|⟨n,l,w,m⟩
  ·exact absurd e hn
  ·exact Nat.lt_of_le_of_lt (w.rank b hr (b x hx) _ m) (hr x hx n)
theorem Shorter.way {us us':List Nat}(s:Shorter us us')(f:Fst us){t:Nat}(ht:t<us.length){l:List Nat}(w:Way us t l):∃l',Way us' t l'/\gQ l'=gQ l/\l'.length≤l.length:=by
 obtain⟨b,r,hb,hr⟩:=f
 suffices h:∀k t,t<us.length->r t≤k->∀l,Way us t l->∃l',Way us' t l'/\gQ l'=gQ l/\l'.length≤l.length from h (r t) t ht (Nat.le_refl _) l w
 intro k
 induction k with
 |zero=>
  intro t ht h0 l w
  rcases s.up t ht with ⟨e,e'⟩|⟨n,_⟩
  ·cases w with
   |head _=>exact⟨_,.head e',rfl,Nat.le_refl _⟩
   |step n _=>exact absurd e n
  ·exact absurd (hr t ht n) (by omega)
 |succ k ih=>
  intro t ht h0 l w
  rcases s.up t ht with ⟨e,e'⟩|⟨n,l1,w1,m⟩
  ·cases w with
   |head _=>exact⟨_,.head e',rfl,Nat.le_refl _⟩
   |step n _=>exact absurd e n
  ·cases w with
   |head e=>exact absurd e n
   | @step _ l0 _ w0=>
    obtain rfl:=w0.det w1
    obtain⟨l2,w2,e2,c2,_⟩:=w0.later _ m
    have hy:Fo.up us' t<us.length:=w0.lt b (b t ht) _ m
    have hry:r (Fo.up us' t)<r t:=Nat.lt_of_le_of_lt (w0.rank b hr (b t ht) _ m) (hr t ht n)
    obtain⟨l3,w3,e3,c3⟩:=ih _ hy (by omega) l2 w2
    refine⟨t::l3,.step (fun e=>?_) w3,?_,?_⟩
    ·rw[e] at hry;omega
    ·rw[cH w3.ne,e3,e2,cH w0.ne]
    ·simp;omega
noncomputable def jS:List Nat->List Nat
 |[]=>[]
 |[x]=>[x]
 |x::_::l=>x::jS l
theorem mP:∀(l:List Nat) (x:Nat),x∈jS l->x∈l
 |[],_,h=>h
 |[_],_,h=>h
 |x::y::l,z,h=>by
  rcases List.mem_cons.mp h with rfl|h
  ·simp
  ·exact List.mem_cons_of_mem _ (List.mem_cons_of_mem _ (mP l z h))
end Fo
end
section
namespace Fo
open PySem
noncomputable def Ku (us:List Nat)(x h:Nat)(us':List Nat)(n:Nat):Prop:=us'=us/\∃l,Way us x l/\h=gQ l/\n+1=l.length
noncomputable def DW (us:List Nat)(x h:Nat)(us':List Nat)(n:Nat):Prop:=∃l,Way us x l/\h=gQ l/\n=l.length / 2/\us'.length=us.length/\∀t,up us' t=if t∈jS l then up us (up us t) else up us t
noncomputable def DA (us:List Nat)(x h:Nat)(us':List Nat)(n:Nat):Prop:=∃l,Way us x l/\h=gQ l/\n+1=l.length/\us'.length=us.length/\∀t,up us' t=if t∈l then up us (up us t) else up us t
noncomputable def MG (us:List Nat)(x h:Nat)(us':List Nat)(n:Nat):Prop:=us'=us.set x (up us (up us x))/\∃l,Way us x l/\h=gQ l/\n+1=l.length
noncomputable def GG (us:List Nat)(x h:Nat)(us':List Nat)(n:Nat):Prop:=∃l,Way us x l/\h=gQ l/\n+1=l.length/\us'.length=us.length/\∀t,up us' t=if t∈l then h else up us t
inductive RM:Str->List Nat->Nat->Nat->List Nat->Nat->Prop where
 |none {us x h us' n}:Ku us x h us' n->RM "none" us x h us' n
 |whole {us x h us' n}:GG us x h us' n->RM "whole" us x h us' n
 |halves {us x h us' n}:DW us x h us' n->RM "halves" us x h us' n
 |splits {us x h us' n}:DA us x h us' n->RM "splits" us x h us' n
 |one {us x h us' n}:MG us x h us' n->RM "one" us x h us' n
noncomputable def cj:List Str:=["none","whole","halves","splits","one"]
structure Frst (us:List Nat):Prop where
 one:1≤us.length
 most:us.length≤40
 fst:Fst us
end Fo
namespace Dp
open PySem L2 Fo
noncomputable def nI (n:Nat):PV:=.int n
noncomputable def af (us:List Nat):List PV:=us.map nI
theorem oz {i j:Int}:iJ (.int i) (.int j)=decide (i=j):=by
 simp only[iJ,jg,vt,Ff,Bool.true_and]
 rw[Bool.eq_iff_iff,beq_iff_eq,decide_eq_true_iff]
theorem si {i j:Str}:iJ (.str i) (.str j)=decide (i=j):=by
 simp only[iJ,jg,vt,Ff,Bool.true_and]
 rw[Bool.eq_iff_iff,beq_iff_eq,decide_eq_true_iff]
theorem My {i j:Bool}:iJ (.bl i) (.bl j)=(i==j):=by
 simp only[iJ,jg,vt,Ff,Bool.true_and]
theorem iX {ps qs:List PV}:iJ (.tup ps) (.tup qs)=fK ps qs:=by simp only[iJ]
theorem yM {ps qs:List PV}:iJ (.lst ps) (.lst qs)=fK ps qs:=by simp only[iJ]
theorem kJ {p q:PV}{ps qs:List PV}:fK (p::ps) (q::qs)=(iJ p q&&fK ps qs):=by simp only[fK]
theorem km:fK [] []=true:=by simp only[fK]
theorem dW (us:List Nat):(af us).length=us.length:=List.length_map ..
theorem oX:af []=[]:=rfl
theorem dZ (x:Nat)(us:List Nat):af (x::us)=nI x::af us:=rfl
theorem AK (us vs:List Nat):af (us++vs)=af us++af vs:=List.map_append
theorem A6 (us:List Nat)(i v:Nat):(af us).set i (nI v)=af (us.set i v):=by unfold af;rw[List.map_set]
theorem bc:∀us:List Nat,aq (af us)=true
 |[]=>by simp only[af,List.map_nil,aq]
 |x::us=>by rw[dZ,aq,bc us];simp only[nI,aW,Bool.and_true]
theorem cG:∀us:List Nat,cR (af us)=0
 |[]=>by simp only[af,List.map_nil,cR]
 |x::us=>by rw[dZ,cR,cG us];simp only[nI,qq,Nat.max_self]
theorem iy:∀us vs:List Nat,fK (af us) (af vs)=decide (us=vs)
 |[],[]=>by simp[af,fK]
 |[],_::_=>by simp[af,fK]
 |_::_,[]=>by simp[af,fK]
 |x::us,y::vs=>by
  rw[dZ,dZ,kJ,iy us vs,nI,nI,oz,Bool.eq_iff_iff]
  simp
  intro _
  omega
theorem fU {n x:Nat}(h:x<n):tV n (x:Int)=some x:=by
 unfold tV
 rw[if_pos (by omega),if_pos (by omega),Int.toNat_natCast]
theorem gF {ps:List PV}{x:Nat}{p:PV}(h:ps[x]?=some p):L2.eH ps (x:Int)=some p:=by
 unfold L2.eH
 have hx:x<ps.length:=(List.getElem?_eq_some_iff.mp h).1
 rw[fU hx]
 exact h
theorem Nd {a:PV}{l:List PV}:L2.eH (a::l) (0:Int)=some a:=gF (x:=0) rfl
theorem MT {a b:PV}{l:List PV}:L2.eH (a::b::l) (1:Int)=some b:=gF (x:=1) rfl
theorem Nz {a b c:PV}{l:List PV}:L2.eH (a::b::c::l) (2:Int)=some c:=gF (x:=2) rfl
theorem NC {a b c d:PV}{l:List PV}:L2.eH (a::b::c::d::l) (3:Int)=some d:=gF (x:=3) rfl
theorem BO {us:List Nat}{x:Nat}(hx:x<us.length):(af us)[x]?=some (nI (up us x)):=by
 unfold af
 rw[List.getElem?_map,List.getElem?_eq_getElem hx]
 simp[up,hx]
theorem am {us:List Nat}{x:Nat}(hx:x<us.length):L2.eH (af us) (x:Int)=some (nI (up us x)):=gF (BO hx)
theorem jo (us:List Nat)(y:Nat):af us++[PV.int y]=af (us++[y]):=(AK us [y]).symm
theorem iA (us:List Nat)(i v:Nat):(af us).set i (PV.int v)=af (us.set i v):=A6 us i v
theorem Ef (n:Nat):qd 0 n=af (List.range n):=by
 unfold qd af
 exact List.map_congr_left fun i _=>by rw[nI,Int.zero_add]
theorem LN (n:Nat):qd 1 n=af ((List.range n).map (·+1)):=by
 unfold qd af
 rw[List.map_map]
 exact List.map_congr_left fun i _=>by show PV.int (1+(i:Int))=PV.int ((i+1:Nat):Int);congr 1;omega
theorem uZ {us:List Nat}{v:PV}(h:v∈af us):∃u∈us,v=nI u:=by
 obtain⟨u,hu,e⟩:=List.mem_map.mp h
 exact⟨u,hu,e.symm⟩
noncomputable def iL (ns:List Int):List PV:=ns.map PV.int
theorem BA (ns:List Int):(iL ns).length=ns.length:=List.length_map ..
theorem HW {n:Nat}{lo:Int}{v:PV}(h:v∈qd lo n):∃i:Int,v=.int i/\lo≤i/\i<lo+n:=by
 obtain⟨k,hk,rfl⟩:=List.mem_map.mp h
 have:=List.mem_range.mp hk
 exact⟨lo+k,rfl,by omega,by omega⟩
theorem yi (lo:Int)(n:Nat):(qd lo n).length=n:=by simp[qd]
theorem K4 {i:Int}(h:0≤i):PV.int i=nI i.toNat:=by rw[nI,Int.toNat_of_nonneg h]
theorem Ie (ns:List Int)(lo hi:Option Int):nZ (iL ns) lo hi=iL (nZ ns lo hi):=by
 unfold nZ iL
 rw[List.length_map,List.map_take,List.map_drop]
theorem BZ (ns:List Nat)(lo hi:Option Int):nZ (af ns) lo hi=af (nZ ns lo hi):=by
 unfold nZ af
 rw[List.length_map,List.map_take,List.map_drop]
end Dp
namespace Fo
open PySem L2
structure Left (y:Str)(us:List Nat)(x h:Nat)(us':List Nat)(n:Nat)(l:List Nat):Prop where
 way:Way us x l
 hd:h=gQ l
 st:n+1≤l.length
 st2:y ≠ "halves"->n+1=l.length
 sh:Shorter us us'
 wg:∀t,t<us.length->t∉l->up us' t=up us t
 no:y = "none"->us'=us
theorem wC {us:List Nat}(f:Fst us){t:Nat}(ht:t<us.length):(up us t=t/\up us (up us t)=t)\/(up us t≠t/\∃l,Way us (up us t) l/\up us (up us t)∈l):=by
 by_cases e:up us t=t
 ·exact .inl ⟨e,by rw[e,e]⟩
 ·obtain⟨l,w,_⟩:=f.way (f.bnd t ht)
  exact .inr ⟨e,l,w,w.closed _ w.mem_self⟩
theorem RM.left {y:Str}{us:List Nat}{x h:Nat}{us':List Nat}{n:Nat}(f:Fst us)(hx:x<us.length)(r:RM y us x h us' n):∃l,Left y us x h us' n l:=by
 have self:=Shorter.refl f
 cases r with
 |none r=>
  obtain⟨rfl,l,w,e,hn⟩:=r
  exact⟨l,w,e,by omega,fun _=>hn,self,fun _ _ _=>rfl,fun _=>rfl⟩
 |whole r=>
  obtain⟨l,w,e,hn,len,hu⟩:=r
  refine⟨l,w,e,by omega,fun _=>hn,⟨len,fun t ht=>?_⟩,fun t ht hm=>by rw[hu,if_neg hm],fun z=>absurd z (by decide)⟩
  rw[hu]
  by_cases hm:t∈l
  ·rw[if_pos hm]
   obtain⟨l2,w2,e2,_,_⟩:=w.later t hm
   cases w2 with
   |head q=>exact .inl ⟨q,by rw[e,←e2];rfl⟩
   |step q w3=>exact .inr ⟨q,_,w3,by rw[e,←e2,cH w3.ne];exact pB w3.ne⟩
  ·rw[if_neg hm];exact self.up t ht
 |halves r=>
  obtain⟨l,w,e,hn,len,hu⟩:=r
  have pos:=w.pos
  refine⟨l,w,e,by omega,fun z=>absurd rfl z,⟨len,fun t ht=>?_⟩,fun t ht hm=>by rw[hu,if_neg fun q=>hm (mP l t q)],fun z=>absurd z (by decide)⟩
  rw[hu]
  by_cases hm:t∈jS l
  ·rw[if_pos hm];exact wC f ht
  ·rw[if_neg hm];exact self.up t ht
 |splits r=>
  obtain⟨l,w,e,hn,len,hu⟩:=r
  refine⟨l,w,e,by omega,fun _=>hn,⟨len,fun t ht=>?_⟩,fun t ht hm=>by rw[hu,if_neg hm],fun z=>absurd z (by decide)⟩
  rw[hu]
  by_cases hm:t∈l
  ·rw[if_pos hm];exact wC f ht
  ·rw[if_neg hm];exact self.up t ht
 |one r=>
  obtain⟨rfl,l,w,e,hn⟩:=r
  refine⟨l,w,e,by omega,fun _=>hn,⟨by rw[List.length_set],fun t ht=>?_⟩,fun t ht hm=>by rw[eL hx,if_neg fun q=>hm (by rw[q];exact w.mem_self)],fun z=>absurd z (by decide)⟩
  rw[eL hx]
  by_cases hm:t=x
  ·rw[if_pos hm,hm];exact wC f hx
  ·rw[if_neg hm];exact self.up t ht
theorem HS {us vs:List Nat}(h:us.length=vs.length)(e:∀t,up us t=up vs t):us=vs:=by
 apply List.ext_getElem h
 intro i h1 h2
 have:=e i
 simpa [up,h1,h2] using this
theorem RM.frst {y:Str}{us:List Nat}{x h:Nat}{us':List Nat}{n:Nat}(f:Frst us)(hx:x<us.length)(r:RM y us x h us' n):Frst us'/\us'.length=us.length:=by
 obtain⟨l,L⟩:=r.left f.fst hx
 have e:=L.sh.len
 exact⟨⟨by rw[e];exact f.one,by rw[e];exact f.most,L.sh.fst f.fst⟩,e⟩
end Fo
namespace Dp
open PySem L2 Fo
end Dp
end
section
namespace Dp
open PySem L2 Fo
noncomputable def Bn (o:Out)(u:FS):Out:=match o with
 |.nx ρ'=>u ρ'
 |o=>o
noncomputable def Bb (o:Option (List PV×PV))(i:Nat)(t:FT)(ρ:aj):Out:=match o with
 |some (ps1,p)=>FR (t p (ρ.set i (some (.own ps1))))
 |none=>.bad
noncomputable abbrev Ca:=rm
noncomputable def Kg (o:Option (List PV))(t:FT)(s:FS)(ρ:aj):Out:=match o with
 |some its=>aZ t s its ρ
 |none=>.bad
noncomputable def A8 (o:Out)(t:FT)(s:FS)(ps:List PV):Out:=match o with
 |.nx ρ2=>aZ t s ps ρ2
 |.ct ρ2=>aZ t s ps ρ2
 |.bk ρ2=>.nx ρ2
 |o=>o
noncomputable def B9 (o:Option aj)(t:FT)(s:FS)(ps:List PV):Out:=match o with
 |some ρ=>A8 (s ρ) t s ps
 |none=>.bad
theorem eV {t:FT}{s:FS}{p:PV}{ps:List PV}{ρ:aj}:aZ t s (p::ps) ρ=B9 (t p ρ) t s ps:=Eq.trans rfl rfl
noncomputable def Lq (o:Out)(c:FB)(s:FS)(n:Nat):Out:=match o with
 |.nx ρ2=>cE c s n ρ2
 |.ct ρ2=>cE c s n ρ2
 |.bk ρ2=>.nx ρ2
 |o=>o
noncomputable def Mu (o:Option Bool)(c:FB)(s:FS)(n:Nat)(ρ:aj):Out:=match o with
 |some true=>Lq (s ρ) c s n
 |some false=>.nx ρ
 |none=>.bad
theorem hU {c:FB}{s:FS}{n:Nat}{ρ:aj}:cE c s (n+1) ρ=Mu (c ρ) c s n ρ:=Eq.trans rfl rfl
theorem nA {r:RV}{rs:List RV}:(r::rs).mapM RV.fr=r.fr.bind fun p=>(rs.mapM RV.fr).bind fun ps=>some (p::ps):=by
 rw[List.mapM_cons];rfl
theorem FW {s u:FS}{ρ:aj}:ai s u ρ=Bn (s ρ) u:=Eq.trans rfl rfl
theorem sy {t:FT}{s:FS}{ps:List PV}{ρ:aj}:A8 (.nx ρ) t s ps=aZ t s ps ρ:=Eq.trans rfl rfl
theorem sX {t:FT}{s:FS}{ps:List PV}{ρ:aj}:B9 (some ρ) t s ps=A8 (s ρ) t s ps:=Eq.trans rfl rfl
theorem iY {t:FT}{s:FS}{ρ:aj}:aZ t s [] ρ=.nx ρ:=Eq.trans rfl rfl
theorem sv {c:FB}{s:FS}{n:Nat}{ρ:aj}:Lq (.nx ρ) c s n=cE c s n ρ:=Eq.trans rfl rfl
theorem Dm {c:FB}{s:FS}{n:Nat}{ρ:aj}:Mu (some true) c s n ρ=Lq (s ρ) c s n:=Eq.trans rfl rfl
theorem CS {c:FB}{s:FS}{n:Nat}{ρ:aj}:Mu (some false) c s n ρ=.nx ρ:=Eq.trans rfl rfl
theorem ra {u:FS}{ρ:aj}:Bn (.nx ρ) u=u ρ:=Eq.trans rfl rfl
theorem rf {u:FS}{p:PV}{ρ:aj}:Bn (.rt p ρ) u=.rt p ρ:=Eq.trans rfl rfl
theorem AO {ρ:aj}:bu ρ=.nx ρ:=Eq.trans rfl rfl
theorem De {f:FE}{ρ:aj}:i6 f ρ=wZ (f ρ) ρ:=Eq.trans rfl rfl
theorem rG {p:PV}{ρ:aj}:wZ (some (.fz p)) ρ=.nx ρ:=Eq.trans rfl rfl
theorem Fv {f:FE}{ρ:aj}:bz f ρ=BY (f ρ) ρ:=Eq.trans rfl rfl
theorem vn {p:PV}{ρ:aj}:BY (some (.fz p)) ρ=.rt p ρ:=Eq.trans rfl rfl
theorem um {p:List PV}{ρ:aj}:BY (some (.nw p)) ρ=.rn p ρ:=Eq.trans rfl rfl
theorem BC {i:Nat}{ρ:aj}:lZ i ρ=uO (sl ρ i) ρ:=Eq.trans rfl rfl
theorem vd {p:PV}{ρ:aj}:uO (some (.val p)) ρ=.rt p ρ:=Eq.trans rfl rfl
theorem uT {p:List PV}{ρ:aj}:uO (some (.own p)) ρ=.rn p ρ:=Eq.trans rfl rfl
theorem KJ {g:FB}{s u:FS}{ρ:aj}:jZ g s u ρ=Km (g ρ) s u ρ:=Eq.trans rfl rfl
theorem BE {s u:FS}{ρ:aj}:Km (some true) s u ρ=s ρ:=Eq.trans rfl rfl
theorem Bj {s u:FS}{ρ:aj}:Km (some false) s u ρ=u ρ:=Eq.trans rfl rfl
theorem Fj {i:Nat}{f:FE}{ρ:aj}:az i f ρ=EK ((f ρ).bind RV.fr) i ρ:=Eq.trans rfl rfl
theorem xv {i:Nat}{p:PV}{ρ:aj}:EK (some p) i ρ=.nx (ρ.set i (some (.val p))):=Eq.trans rfl rfl
theorem Fy {i:Nat}{f:FE}{ρ:aj}:kb i f ρ=D5 (f ρ) i ρ:=Eq.trans rfl rfl
theorem tK {i:Nat}{p:List PV}{ρ:aj}:D5 (some (.nw p)) i ρ=.nx (ρ.set i (some (.own p))):=Eq.trans rfl rfl
theorem F1 {f:FE}{t:FT}{ρ:aj}:iU f t ρ=Dy ((f ρ).bind RV.fr) t ρ:=Eq.trans rfl rfl
theorem yf {p:PV}{t:FT}{ρ:aj}:Dy (some p) t ρ=FR (t p ρ):=Eq.trans rfl rfl
theorem CA {ρ:aj}:FR (some ρ)=.nx ρ:=Eq.trans rfl rfl
theorem Fx {i j:Nat}{fs:FA}{ρ:aj}:qh i j fs ρ=DM ((fs ρ).bind fun rs=>rs.mapM RV.fr) i j ρ:=Eq.trans rfl rfl
theorem yy {i j:Nat}{p q:PV}{ρ:aj}:DM (some [p,q]) i j ρ=.nx ((ρ.set i (some (.val p))).set j (some (.val q))):=Eq.trans rfl rfl
theorem Gh {g:Int->Int->Int}{i:Nat}{f:FE}{ρ:aj}:nE g i f ρ=EA g (sl ρ i) ((f ρ).bind RV.fr) i ρ:=Eq.trans rfl rfl
theorem xO {g:Int->Int->Int}{i:Nat}{a b:Int}{ρ:aj}:EA g (some (.val (.int a))) (some (.int b)) i ρ=.nx (ρ.set i (some (.val (.int (g a b))))):=Eq.trans rfl rfl
theorem JM {g:GM}{i:Nat}{fs:FA}{ρ:aj}:vx g i fs ρ=Eh (Gn g (sl ρ i) ((fs ρ).bind fun rs=>rs.mapM RV.fr)) i ρ:=Eq.trans rfl rfl
theorem dP {g:GM}{j i:Nat}{fs:FA}{ρ:aj}:Dg g j i fs ρ=Ez (Gn g (sl ρ i) ((fs ρ).bind fun rs=>rs.mapM RV.fr)) j i ρ:=Eq.trans rfl rfl
theorem CP {g:GM}{t:Sl}{ps:List PV}:Gn g (some t) (some ps)=g t ps:=Eq.trans rfl rfl
theorem xl {t:Sl}{p:PV}{i:Nat}{ρ:aj}:Eh (some (t,p)) i ρ=.nx (ρ.set i (some t)):=Eq.trans rfl rfl
theorem aU {t:Sl}{p:PV}{j i:Nat}{ρ:aj}:Ez (some (t,p)) j i ρ=.nx ((ρ.set i (some t)).set j (some (.val p))):=Eq.trans rfl rfl
theorem BS {ps:List PV}{q:PV}:mL (.own ps) [q]=if ps.length≤100000 then some (.own (ps++[q]),.non) else none:=Eq.trans rfl rfl
theorem xg {tab:List (Str×oI)}{j i:Nat}{fs:FA}{t:FT}{ρ:aj}:oW tab j i fs t ρ=o6 (Lh tab (sl ρ j)) (sl ρ i) ((fs ρ).bind fun rs=>rs.mapM RV.fr) i t ρ:=Eq.trans rfl rfl
theorem Ba {tab:List (Str×oI)}{x:Str}:Lh tab (some (.val (.fn x)))=tab.lookup x:=Eq.trans rfl rfl
theorem uG {F:oI}{ps qs:List PV}{i:Nat}{t:FT}{ρ:aj}:o6 (some F) (some (.own ps)) (some qs) i t ρ=Bb (F ps qs) i t ρ:=Eq.trans rfl rfl
theorem qN {ps:List PV}{p:PV}{i:Nat}{t:FT}{ρ:aj}:Bb (some (ps,p)) i t ρ=FR (t p (ρ.set i (some (.own ps)))):=Eq.trans rfl rfl
theorem fA {g:PV->List PV->Option RV}{fo:FE}{fs:FA}{ρ:aj}:AR g fo fs ρ=(fo ρ).bind fun x=>(fs ρ).bind fun rs=>g x.pv (rs.map RV.pv):=Eq.trans rfl rfl
theorem cs {ks:List fP}{ps:List PV}{k:PV}:uA (.dct ks ps) [k]=(i8 k).map fun k=>.fz ((nu ks ps k).getD .non):=Eq.trans rfl rfl
theorem bJ {x:Str}:i8 (.str x)=some (.inr x):=Eq.trans rfl rfl
theorem bh {i:Int}:i8 (.int i)=some (.inl i):=Eq.trans rfl rfl
theorem Ai {tab:List (Str×Fn)}{j:Nat}{fs:FA}{ρ:aj}:oB tab j fs ρ=(fs ρ).bind fun rs=>sS tab (sl ρ j) (rs.mapM RV.fr) rs:=Eq.trans rfl rfl
theorem EU {tab:List (Str×Fn)}{x:Str}{o:Option (List PV)}{rs:List RV}:sS tab (some (.val (.fn x))) o rs=(tab.lookup x).bind fun F=>o9 F o rs:=Eq.trans rfl rfl
theorem Ao {ks:List fP}{ps:List PV}{x:Str}:be (.dct ks ps) (.str x)=(nu ks ps (.inr x)).map .fz:=Eq.trans rfl rfl
theorem Cm {ks:List fP}{ps:List PV}{x:Str}:zu (.str x) (.dct ks ps)=some (.fz (.bl (nu ks ps (.inr x)).isSome)):=Eq.trans rfl rfl
theorem Fg {j:Nat}{fi f:FE}{ρ:aj}:lD j fi f ρ=D7 ((f ρ).bind RV.fr) (sl ρ j) ((fi ρ).bind RV.fr) j ρ:=Eq.trans rfl rfl
theorem xb {v:PV}{ps:List PV}{k:Int}{j:Nat}{ρ:aj}:D7 (some v) (some (.own ps)) (some (.int k)) j ρ=xU (tV ps.length k) v ps j ρ:=Eq.trans rfl rfl
theorem yH {v:PV}{ps:List PV}{n j:Nat}{ρ:aj}:xU (some n) v ps j ρ=.nx (ρ.set j (some (.own (ps.set n v)))):=Eq.trans rfl rfl
theorem F4 {it:FI}{t:FT}{s:FS}{ρ:aj}:jt it t s ρ=Kg (it ρ) t s ρ:=Eq.trans rfl rfl
theorem wY {its:List PV}{t:FT}{s:FS}{ρ:aj}:Kg (some its) t s ρ=aZ t s its ρ:=Eq.trans rfl rfl
theorem xT {c:FB}{s:FS}{ρ:aj}:g6 c s ρ=cE c s 10000 ρ:=Eq.trans rfl rfl
theorem vq {ρ:aj}:Out.res (.nx ρ)=some (.v .non):=Eq.trans rfl rfl
theorem uN {p:PV}{ρ:aj}:Out.res (.rt p ρ)=some (.v p):=Eq.trans rfl rfl
theorem tZ {p:List PV}{ρ:aj}:Out.res (.rn p ρ)=some (.n p):=Eq.trans rfl rfl
theorem qY {p:PV}{ρ:aj}:Out.res2 (.rt p ρ)=some (.v p,ρ):=Eq.trans rfl rfl
theorem B7 {p:PV}{ps:List PV}{ρ:aj}:lY (some (.v p,some (.own ps)::ρ))=some (ps,p):=Eq.trans rfl rfl
theorem MR {i:Nat}{ρ:aj}:fV i ρ=(sl ρ i).map r9:=Eq.trans rfl rfl
theorem Fe {s:Option Sl}{ρ:aj}:sl (s::ρ) 0=s:=Eq.trans rfl rfl
theorem F6 {s:Option Sl}{i:Nat}{ρ:aj}:sl (s::ρ) (i+1)=sl ρ i:=Eq.trans rfl rfl
theorem uL {p:PV}:r9 (.val p)=.fz p:=Eq.trans rfl rfl
theorem uB {p:List PV}:r9 (.own p)=.ln (.lst p):=Eq.trans rfl rfl
theorem M7 {p:PV}{ρ:aj}:fC p ρ=some (.fz p):=Eq.trans rfl rfl
theorem K5 {g:PV->PV->Option RV}{a b:FE}{ρ:aj}:ah g a b ρ=(a ρ).bind fun x=>(b ρ).bind fun y=>g x.pv y.pv:=Eq.trans rfl rfl
theorem xc {p:PV}:RV.pv (.fz p)=p:=Eq.trans rfl rfl
theorem xQ {p:List PV}:RV.pv (.nw p)=.lst p:=Eq.trans rfl rfl
theorem wX {p:PV}:RV.pv (.ln p)=p:=Eq.trans rfl rfl
theorem xA {p:PV}:RV.fr (.fz p)=some p:=Eq.trans rfl rfl
theorem xD {p:List PV}:RV.fr (.nw p)=some (.lst p):=Eq.trans rfl rfl
theorem xj {p:PV}:RV.fr (.ln p)=none:=Eq.trans rfl rfl
theorem M0 {f:FE}{ρ:aj}:fT f ρ=zZ (f ρ):=Eq.trans rfl rfl
theorem Fh {b:Bool}:zZ (some (.fz (.bl b)))=some b:=Eq.trans rfl rfl
theorem Ag {g:FB}{ρ:aj}:i4 g ρ=(g ρ).map fun b=>!b:=Eq.trans rfl rfl
theorem CR {g k:FB}{ρ:aj}:jv g k ρ=(g ρ).bind fun b=>if b=true then k ρ else some false:=Eq.trans rfl rfl
theorem Fu {g k:FB}{ρ:aj}:uP g k ρ=(g ρ).bind fun b=>if b=true then some true else k ρ:=Eq.trans rfl rfl
theorem FQ {f:FE}{ρ:aj}:rj f ρ=(f ρ).bind fun r=>r.fr.map .fz:=Eq.trans rfl rfl
theorem Aj {f g:FE}{ρ:aj}:jT f g ρ=(zZ (f ρ)).bind fun b=>if b=true then rj g ρ else some (.fz (.bl false)):=Eq.trans rfl rfl
theorem Br {f:FE}{ρ:aj}:xh f ρ=(zZ (f ρ)).map fun b=>.fz (.bl (!b)):=Eq.trans rfl rfl
theorem E9 {g:FB}{f k:FE}{ρ:aj}:IW g f k ρ=(g ρ).bind fun b=>if b=true then rj f ρ else rj k ρ:=Eq.trans rfl rfl
theorem Jk {g g':PV->PV->Option RV}{a b c:FE}{ρ:aj}:FG g g' a b c ρ=(a ρ).bind fun x=>(b ρ).bind fun y=>(zZ (g x.pv y.pv)).bind fun k=>if k=true then (c ρ).bind fun z=>g' y.pv z.pv else some (.fz (.bl false)):=Eq.trans rfl rfl
theorem Fw {ρ:aj}:ag ρ=some []:=Eq.trans rfl rfl
theorem AW {f:FE}{fs:FA}{ρ:aj}:aa f fs ρ=(f ρ).bind fun r=>(fs ρ).bind fun rs=>some (r::rs):=Eq.trans rfl rfl
theorem pq  : ([]:List RV).mapM RV.fr=some []:=Eq.trans rfl rfl
theorem Fz {fs:FA}{ρ:aj}:cJ fs ρ=(fs ρ).bind fun rs=>(rs.mapM RV.fr).bind fun ps=>if ps.length≤100000 then some (.fz (.tup ps)) else none:=Eq.trans rfl rfl
theorem Fq {fs:FA}{ρ:aj}:iK fs ρ=(fs ρ).bind fun rs=>(rs.mapM RV.fr).bind fun ps=>if ps.length≤100000 then some (.nw ps) else none:=Eq.trans rfl rfl
theorem xZ {i j:Int}:de (.int i) (.int j)=some (.fz (.int (i+j))):=Eq.trans rfl rfl
theorem xC {ps qs:List PV}:de (.lst ps) (.lst qs)=if ps.length+qs.length≤100000 then some (.nw (ps++qs)) else none:=Eq.trans rfl rfl
theorem y3 {ps qs:List PV}:de (.tup ps) (.tup qs)=if ps.length+qs.length≤100000 then some (.fz (.tup (ps++qs))) else none:=Eq.trans rfl rfl
theorem xx {i j:Int}:zw (.int i) (.int j)=some (.fz (.int (i - j))):=Eq.trans rfl rfl
theorem yU {i j:Int}:iM (.int i) (.int j)=if (i.natAbs<2 ^ 64)\/(j.natAbs<2 ^ 64) then some (.fz (.int (i * j))) else none:=Eq.trans rfl rfl
theorem yn {i j:Int}:kO (.int i) (.int j)=if 0<j/\j<1073741824 then some (.fz (.int (i / j))) else none:=Eq.trans rfl rfl
theorem yL {i j:Int}:bO (.int i) (.int j)=if 0<j then some (.fz (.int (i % j))) else none:=Eq.trans rfl rfl
theorem yu {i j:Int}:HU (.int i) (.int j)=if 0≤j/\j≤1000000/\i.natAbs<2 ^ 64 then some (.fz (.int (i ^ j.toNat))) else none:=Eq.trans rfl rfl
theorem B3 {i j:Int}:Ik (.int i) (.int j)=some (.fz (.bl (decide (i<j)))):=Eq.trans rfl rfl
theorem AU {i j:Int}:Ld (.int i) (.int j)=some (.fz (.bl (decide (i≤j)))):=Eq.trans rfl rfl
theorem BG {i j:Int}:IT (.int i) (.int j)=some (.fz (.bl (decide (j<i)))):=Eq.trans rfl rfl
theorem BI {i j:Int}:J1 (.int i) (.int j)=some (.fz (.bl (decide (j≤i)))):=Eq.trans rfl rfl
theorem Ar {x y:PV}:mQ x y=if aW x&&aW y&&decide (qq x≤50) then some (.fz (.bl (iJ x y))) else none:=Eq.trans rfl rfl
theorem Cq {x y:PV}:oR x y=if aW x&&aW y&&decide (qq x≤50) then some (.fz (.bl (!iJ x y))) else none:=Eq.trans rfl rfl
theorem AI {x:PV}{ps:List PV}:zu x (.tup ps)=if aW x&&aq ps&&decide (cR ps≤50) then some (.fz (.bl (pin x ps))) else none:=Eq.trans rfl rfl
theorem y6 {x:PV}{ps:List PV}:jd x (.lst ps)=if aW x&&aq ps&&decide (cR ps≤50) then some (.fz (.bl (!pin x ps))) else none:=Eq.trans rfl rfl
theorem xX {x:PV}{ps:List PV}:jd x (.tup ps)=if aW x&&aq ps&&decide (cR ps≤50) then some (.fz (.bl (!pin x ps))) else none:=Eq.trans rfl rfl
theorem Ah {ps:List PV}{i:Int}:be (.tup ps) (.int i)=(L2.eH ps i).map .fz:=Eq.trans rfl rfl
theorem Bh {ps:List PV}{i:Int}:be (.lst ps) (.int i)=(L2.eH ps i).map .fz:=Eq.trans rfl rfl
theorem AQ {ps:List PV}{i:Int}:be (.src ps) (.int i)=(L2.eH ps i).map .fz:=Eq.trans rfl rfl
theorem Fi {g:PV->Option Int->Option Int->Option RV}{f:FE}{l h:FO}{ρ:aj}:Em g f l h ρ=(f ρ).bind fun r=>(l ρ).bind fun lo=>(h ρ).bind fun hi=>g r.pv lo hi:=Eq.trans rfl rfl
theorem J4 {ρ:aj}:zX ρ=some none:=Eq.trans rfl rfl
theorem Lj {f:FE}{ρ:aj}:zW f ρ=(f ρ).bind fun r=>Lu r.fr:=Eq.trans rfl rfl
theorem AE {i:Int}:Lu (some (.int i))=some (some i):=Eq.trans rfl rfl
theorem Co {ps:List PV}{l h:Option Int}:IQ (.lst ps) l h=some (.nw (nZ ps l h)):=Eq.trans rfl rfl
theorem A7 {ps:List PV}{l h:Option Int}:IQ (.src ps) l h=some (.nw (nZ ps l h)):=Eq.trans rfl rfl
theorem Bz {ps:List PV}{l h:Option Int}:IQ (.tup ps) l h=if HT.sIx ps.length 0 l=0/\HT.sIx ps.length ps.length h=ps.length then none else some (.fz (.tup (nZ ps l h))):=Eq.trans rfl rfl
theorem MX {g:List PV->Option RV}{fs:FA}{ρ:aj}:fB g fs ρ=(fs ρ).bind fun rs=>g (rs.map RV.pv):=Eq.trans rfl rfl
theorem xn {ps:List PV}:j8 [.lst ps]=some (.fz (.int ps.length)):=Eq.trans rfl rfl
theorem xG {ps:List PV}:j8 [.tup ps]=some (.fz (.int ps.length)):=Eq.trans rfl rfl
theorem xY {ps:List PV}:j8 [.src ps]=some (.fz (.int ps.length)):=Eq.trans rfl rfl
theorem yO {i:Int}:Bm [.int i]=some (.fz (.int (if i<0 then -i else i))):=Eq.trans rfl rfl
theorem wV {i j:Int}:uC [.int i,.int j]=some (.fz (.int (if j > i then j else i))):=Eq.trans rfl rfl
theorem yb {i j:Int}:nr [.int i,.int j]=some (.fz (.int (if j<i then j else i))):=Eq.trans rfl rfl
theorem yj {b:Bool}:wj [.bl b]=some (.fz (.int (if b then 1 else 0))):=Eq.trans rfl rfl
theorem ya {ps:List PV}:C6 [.lst ps]=(G4 ps).map fun bs=>.fz (.bl (bs.all id)):=Eq.trans rfl rfl
theorem xm {ps:List PV}:lI [.lst ps]=some (.fz (.tup ps)):=Eq.trans rfl rfl
theorem BK {lo j:Int}:jR [.rng lo j]=if lo=0/\0≤j/\j≤1000000 then some (.nw (qd 0 j.toNat)) else none:=Eq.trans rfl rfl
theorem uH {ps:List PV}:jR [.tup ps]=some (.nw ps):=Eq.trans rfl rfl
theorem D9 {j:Int}:tS [.int j]=if -(2 ^ 62)≤j/\j<2 ^ 62 then some (.fz (.rng 0 j)) else none:=Eq.trans rfl rfl
theorem lv {ps:List PV}:iu [.lst ps]=(jN ps).bind fun ks=>if ps.length<64 then some (.nw ((lW ks).map fun i=>ps.getD i .non)) else none:=Eq.trans rfl rfl
theorem CM {F:List PV->Option PR}{fs:FA}{ρ:aj}:av F fs ρ=(fs ρ).bind fun rs=>o9 F (rs.mapM RV.fr) rs:=Eq.trans rfl rfl
theorem t5 {F:List PV->Option PR}{ps:List PV}{rs:List RV}:o9 F (some ps) rs=(F ps).map sj:=Eq.trans rfl rfl
theorem vr {F:List PV->Option PR}{rs:List RV}:o9 F none rs=(F (rs.map RV.pv)).bind fun r=>if MA r=true then some (sj r) else none:=Eq.trans rfl rfl
theorem Bs {p:PV}:sj (.v p)=.fz p:=Eq.trans rfl rfl
theorem B6 {p:List PV}:sj (.n p)=.nw p:=Eq.trans rfl rfl
theorem yc {p:PV}:MA (.v p)=tf p:=Eq.trans rfl rfl
theorem KP {f:FE}{ρ:aj}:m8 f ρ=(f ρ).bind fun r=>r.fr.bind items:=Eq.trans rfl rfl
theorem rg {ps:List PV}:items (.tup ps)=some ps:=Eq.trans rfl rfl
theorem rH {ps:List PV}:items (.lst ps)=some ps:=Eq.trans rfl rfl
theorem FF {g:List PV->Option (List PV)}{fs:FA}{ρ:aj}:kN g fs ρ=(fs ρ).bind fun rs=>g (rs.map RV.pv):=Eq.trans rfl rfl
theorem Il {j:Int}:lq [.int j]=if CK j then some (qd 0 j.toNat) else none:=Eq.trans rfl rfl
theorem Hf {i j:Int}:Bp [.int i,.int j]=if CK i&&CK j then some (qd i (j - i).toNat) else none:=Eq.trans rfl rfl
theorem Ft {f:FE}{ρ:aj}:BJ f ρ=(f ρ).bind fun r=>Du r.pv:=Eq.trans rfl rfl
theorem xI {ps:List PV}:Du (.tup ps)=some (.fz (.tup ps.reverse)):=Eq.trans rfl rfl
theorem Bi {ps:List PV}:zU [.lst ps]=(dG ps).bind fun is=>some (.fz (.int is.sum)):=Eq.trans rfl rfl
theorem BT {fs:FA}{ρ:aj}:np fs ρ=(fs ρ).bind fun rs=>(rs.mapM RV.fr).bind rm:=Eq.trans rfl rfl
theorem uE {ps:List PV}:rm [.lst ps]=some (fO 0 ps):=Eq.trans rfl rfl
theorem tP {ps:List PV}:rm [.tup ps]=some (fO 0 ps):=Eq.trans rfl rfl
theorem KH {i:Nat}{p:PV}{ρ:aj}:gN i p ρ=some (ρ.set i (some (.val p))):=Eq.trans rfl rfl
theorem Jp {ρ:aj}:g0 [] ρ=some ρ:=Eq.trans rfl rfl
theorem Kr {t:FT}{ts:ze}{p:PV}{ps:List PV}{ρ:aj}:gC t ts (p::ps) ρ=(t p ρ).bind fun ρ'=>ts ps ρ':=Eq.trans rfl rfl
theorem FM {n:Nat}{ts:ze}{ps:List PV}{ρ:aj}:jm n ts (.tup ps) ρ=if ps.length=n then ts ps ρ else none:=Eq.trans rfl rfl
theorem BU {fm:List (Option Nat)}{it:FI}{t:FT}{c:FB}{f:FE}{ρ:aj}:cU fm it t c f ρ=(it ρ).bind fun its=>if its.length<1000 then (lj t c f (iW fm ρ) its).map .nw else none:=Eq.trans rfl rfl
theorem rh {ρ:aj}:iW [] ρ=[]:=Eq.trans rfl rfl
theorem pI {fm:List (Option Nat)}{ρ:aj}:iW (none::fm) ρ=none::iW fm ρ:=Eq.trans rfl rfl
theorem qa {j:Nat}{fm:List (Option Nat)}{ρ:aj}:iW (some j::fm) ρ=sl ρ j::iW fm ρ:=Eq.trans rfl rfl
theorem CH {s v:Option Sl}{ρ:aj}:List.set (s::ρ) 0 v=v::ρ:=Eq.trans rfl rfl
theorem Am {s v:Option Sl}{i:Nat}{ρ:aj}:List.set (s::ρ) (i+1) v=s::List.set ρ i v:=Eq.trans rfl rfl
theorem yC {p:PV}{n:String}{b:Bool}(hn:n = "int"\/n = "bool"\/n = "str"\/n = "tuple"\/n = "list"\/n = "dict")(h:MU n p=some b):tG [p,.ty n]=some (.fz (.bl b)):=by
 unfold tG;simp only[hn,if_true,h,Option.map_some]
theorem md {i:Int}:tG [(.int i),.ty "int"]=some (.fz (.bl true)):=yC (by decide) rfl
theorem kU {i:Int}:tG [(.int i),.ty "bool"]=some (.fz (.bl false)):=yC (by decide) rfl
theorem ki {i:List PV}:tG [(.tup i),.ty "tuple"]=some (.fz (.bl true)):=yC (by decide) rfl
theorem lK {i:Str}:tG [(.str i),.ty "str"]=some (.fz (.bl true)):=yC (by decide) rfl
theorem m9 {α β:Type}{a:α}{f:α->Option β}:((some a).bind f)=f a:=Eq.trans rfl rfl
theorem m5 {α β:Type}{f:α->Option β}:((none:Option α).bind f)=none:=Eq.trans rfl rfl
theorem pV {α β:Type}{a:α}{f:α->β}:((some a).map f)=some (f a):=Eq.trans rfl rfl
theorem HX {α β:Type}{f:α->β}:((none:Option α).map f)=none:=Eq.trans rfl rfl
theorem pW {α β:Type}{a:α}{l:List α}{f:α->β}:((a::l).map f)=f a::l.map f:=Eq.trans rfl rfl
theorem rR {α β:Type}{f:α->β}:(([]:List α).map f)=[]:=Eq.trans rfl rfl
theorem rz {α:Type}{l:List α}:([]++l)=l:=Eq.trans rfl rfl
theorem pU {α:Type}{a:α}{l m:List α}:((a::l)++m)=a::(l++m):=Eq.trans rfl rfl
theorem pL {α:Type}{a:α}{l:List α}:((a::l).length)=l.length+1:=Eq.trans rfl rfl
theorem qV {α:Type}:(([]:List α).length)=0:=Eq.trans rfl rfl
theorem BL {α:Type}{a b:α}:((if True then a else b))=a:=Eq.trans rfl rfl
theorem Al {α:Type}{a b:α}:((if False then a else b))=b:=Eq.trans rfl rfl
theorem Lr {α:Type}{a b:α}:((if true=true then a else b))=a:=Eq.trans rfl rfl
theorem xS {α:Type}{a b:α}:((if false=true then a else b))=b:=Eq.trans rfl rfl
theorem IV {α:Type}{a:α}{l:List α}:((a::l).isEmpty)=false:=Eq.trans rfl rfl
theorem qP {α:Type}:(([]:List α).isEmpty)=true:=Eq.trans rfl rfl
theorem Fk  : (aW .non)=true:=Eq.trans rfl rfl
theorem GW {b:Bool}:(aW (.bl b))=true:=Eq.trans rfl rfl
theorem nk {b:Int}:(aW (.int b))=true:=Eq.trans rfl rfl
theorem nq {b:Str}:(aW (.str b))=true:=Eq.trans rfl rfl
theorem IL  : (qq .non)=0:=Eq.trans rfl rfl
theorem JF {b:Bool}:(qq (.bl b))=0:=Eq.trans rfl rfl
theorem rq {b:Int}:(qq (.int b))=0:=Eq.trans rfl rfl
theorem rM {b:Str}:(qq (.str b))=0:=Eq.trans rfl rfl
theorem Kl {n:Nat}:(nI n)=PV.int n:=Eq.trans rfl rfl
theorem LH  : (mj .non)=true:=Eq.trans rfl rfl
theorem IJ {i:Int}:(mj (.int i))=false:=Eq.trans rfl rfl
theorem I0 {i:Bool}:(mj (.bl i))=false:=Eq.trans rfl rfl
theorem IZ {i:List PV}:(mj (.tup i))=false:=Eq.trans rfl rfl
theorem IN {i:List PV}:(mj (.lst i))=false:=Eq.trans rfl rfl
theorem IP {i:Str}:(mj (.str i))=false:=Eq.trans rfl rfl
theorem FZ {i:Int}:(CK i)=(decide (-4611686018427387904≤i)&&decide (i<4611686018427387904)):=Eq.trans rfl rfl
theorem rD {ps:List PV}:aW (.tup ps)=aq ps:=by rw[aW]
theorem rb {ps:List PV}:aW (.lst ps)=aq ps:=by rw[aW]
theorem oY:aq []=true:=by rw[aq]
theorem pO {p:PV}{ps:List PV}:aq (p::ps)=(aW p&&aq ps):=by rw[aq]
theorem yD {ps:List PV}:qq (.tup ps)=cR ps+1:=by rw[qq]
theorem x5 {ps:List PV}:qq (.lst ps)=cR ps+1:=by rw[qq]
theorem uJ:cR []=0:=by rw[cR]
theorem tN {p:PV}{ps:List PV}:cR (p::ps)=max (qq p) (cR ps):=by rw[cR]
end Dp
end
local macro_rules | `(tactic| simp! [$xs,*] $[$l:location]?) => `(tactic| simp only [$xs,*, Dp.nA, Dp.FW, Dp.sy, Dp.sX, Dp.iY, Dp.sv, Dp.Dm, Dp.CS, Dp.ra, Dp.rf, Dp.AO, Dp.De, Dp.rG, Dp.Fv, Dp.vn, Dp.um, Dp.BC, Dp.vd, Dp.uT, Dp.KJ, Dp.BE, Dp.Bj, Dp.Fj, Dp.xv, Dp.Fy, Dp.tK, Dp.F1, Dp.yf, Dp.CA, Dp.Fx, Dp.yy, Dp.Gh, Dp.xO, Dp.JM, Dp.dP, Dp.CP, Dp.xl, Dp.aU, Dp.BS, Dp.xg, Dp.Ba, Dp.uG, Dp.qN, Dp.Ao, Dp.Cm, Dp.Fg, Dp.xb, Dp.yH, Dp.F4, Dp.wY, Dp.xT, Dp.vq, Dp.uN, Dp.tZ, Dp.qY, Dp.B7, Dp.MR, Dp.Fe, Dp.F6, Dp.uL, Dp.uB, Dp.M7, Dp.K5, Dp.xc, Dp.xQ, Dp.wX, Dp.xA, Dp.xD, Dp.xj, Dp.M0, Dp.Fh, Dp.Ag, Dp.CR, Dp.Fu, Dp.FQ, Dp.Aj, Dp.Br, Dp.E9, Dp.Jk, Dp.Fw, Dp.AW, Dp.pq, Dp.Fz, Dp.Fq, Dp.xZ, Dp.xC, Dp.y3, Dp.xx, Dp.yU, Dp.yn, Dp.yL, Dp.yu, Dp.B3, Dp.AU, Dp.BG, Dp.BI, Dp.Ar, Dp.Cq, Dp.AI, Dp.y6, Dp.xX, Dp.Ah, Dp.Bh, Dp.AQ, Dp.Fi, Dp.J4, Dp.Lj, Dp.AE, Dp.Co, Dp.A7, Dp.Bz, Dp.MX, Dp.xn, Dp.xG, Dp.xY, Dp.yO, Dp.wV, Dp.yb, Dp.yj, Dp.ya, Dp.xm, Dp.uH, Dp.lv, Dp.CM, Dp.t5, Dp.vr, Dp.Bs, Dp.B6, Dp.yc, Dp.KP, Dp.rg, Dp.rH, Dp.FF, Dp.Ft, Dp.xI, Dp.Bi, Dp.BT, Dp.uE, Dp.tP, Dp.KH, Dp.Jp, Dp.Kr, Dp.FM, Dp.BU, Dp.rh, Dp.pI, Dp.qa, Dp.CH, Dp.Am, Dp.md, Dp.kU, Dp.ki, Dp.lK, Dp.m9, Dp.m5, Dp.pV, Dp.pW, Dp.rR, Dp.rz, Dp.pU, Dp.pL, Dp.qV, Dp.BL, Dp.Al, Dp.xS, Dp.qP, Dp.nk, Dp.nq, Dp.rq, Dp.rM, Dp.Kl, Dp.rD, Dp.rb, Dp.oY, Dp.pO, Dp.yD, Dp.x5, Dp.uJ, Dp.tN, Dp.Nd, Dp.MT, Dp.oz, Dp.si, Dp.iX, Dp.yM, Dp.kJ, Dp.km, and_true, true_and, false_and, Nat.zero_add, Bool.not_true, Bool.not_false, Bool.and_true, Nat.zero_le, decide_true, decide_false, Dp.dW, Dp.bc, Dp.cG, Nat.max_self, Nat.zero_max, Nat.max_zero, Nat.reduceAdd, Nat.reduceSub, Nat.reduceLeDiff, Nat.reduceLT, Nat.reduceEqDiff, Int.reduceLT, Int.reduceLE, Int.reduceAdd, Int.reduceSub, Int.reduceMul, Int.reduceMod, Int.reduceDiv, Int.reduceNeg, Int.reduceToNat, Int.reducePow, Int.reduceEq] $[$l:location]?)
local macro_rules | `(tactic| simp_all! [$xs,*]) => `(tactic| simp only [$xs,*, Dp.nA, Dp.FW, Dp.sy, Dp.sX, Dp.iY, Dp.sv, Dp.Dm, Dp.CS, Dp.ra, Dp.rf, Dp.AO, Dp.De, Dp.rG, Dp.Fv, Dp.vn, Dp.um, Dp.BC, Dp.vd, Dp.uT, Dp.KJ, Dp.BE, Dp.Bj, Dp.Fj, Dp.xv, Dp.Fy, Dp.tK, Dp.F1, Dp.yf, Dp.CA, Dp.Fx, Dp.yy, Dp.Gh, Dp.xO, Dp.JM, Dp.dP, Dp.CP, Dp.xl, Dp.aU, Dp.BS, Dp.xg, Dp.Ba, Dp.uG, Dp.qN, Dp.Ao, Dp.Cm, Dp.Fg, Dp.xb, Dp.yH, Dp.F4, Dp.wY, Dp.xT, Dp.vq, Dp.uN, Dp.tZ, Dp.qY, Dp.B7, Dp.MR, Dp.Fe, Dp.F6, Dp.uL, Dp.uB, Dp.M7, Dp.K5, Dp.xc, Dp.xQ, Dp.wX, Dp.xA, Dp.xD, Dp.xj, Dp.M0, Dp.Fh, Dp.Ag, Dp.CR, Dp.Fu, Dp.FQ, Dp.Aj, Dp.Br, Dp.E9, Dp.Jk, Dp.Fw, Dp.AW, Dp.pq, Dp.Fz, Dp.Fq, Dp.xZ, Dp.xC, Dp.y3, Dp.xx, Dp.yU, Dp.yn, Dp.yL, Dp.yu, Dp.B3, Dp.AU, Dp.BG, Dp.BI, Dp.Ar, Dp.Cq, Dp.AI, Dp.y6, Dp.xX, Dp.Ah, Dp.Bh, Dp.AQ, Dp.Fi, Dp.J4, Dp.Lj, Dp.AE, Dp.Co, Dp.A7, Dp.Bz, Dp.MX, Dp.xn, Dp.xG, Dp.xY, Dp.yO, Dp.wV, Dp.yb, Dp.yj, Dp.ya, Dp.xm, Dp.uH, Dp.lv, Dp.CM, Dp.t5, Dp.vr, Dp.Bs, Dp.B6, Dp.yc, Dp.KP, Dp.rg, Dp.rH, Dp.FF, Dp.Ft, Dp.xI, Dp.Bi, Dp.BT, Dp.uE, Dp.tP, Dp.KH, Dp.Jp, Dp.Kr, Dp.FM, Dp.BU, Dp.rh, Dp.pI, Dp.qa, Dp.CH, Dp.Am, Dp.md, Dp.kU, Dp.ki, Dp.lK, Dp.m9, Dp.m5, Dp.pV, Dp.pW, Dp.rR, Dp.rz, Dp.pU, Dp.pL, Dp.qV, Dp.BL, Dp.Al, Dp.xS, Dp.qP, Dp.nk, Dp.nq, Dp.rq, Dp.rM, Dp.Kl, Dp.rD, Dp.rb, Dp.oY, Dp.pO, Dp.yD, Dp.x5, Dp.uJ, Dp.tN, Dp.Nd, Dp.MT, Dp.oz, Dp.si, Dp.iX, Dp.yM, Dp.kJ, Dp.km, and_true, true_and, false_and, Nat.zero_add, Bool.not_true, Bool.not_false, Bool.and_true, Nat.zero_le, decide_true, decide_false, Dp.dW, Dp.bc, Dp.cG, Nat.max_self, Nat.zero_max, Nat.max_zero])
section
namespace Dp
open PySem PySem.Spec L2 PyProof.Rows
section
variable {X:Cx}{i j:Nat}{x y:Str}{pos:Pos}
theorem Z.ok.track {z:Z X}{s:Shared}(hz:z.ok s){a:Addr}(fr:jV z.bad z.H a)(h00:X.s₀.heap.get? a=none)(hp:∀p∈X.pn++z.pins,p.1≠a)(nt:∃ob,s.heap.get? a=some ob/\ob.cls≠.type "tuple")
  (sk:∀(j:Nat) t v,z.ρ[j]?=some (some t)->z.σ[j]?=some (some v)->SlOk (bg X z.bad (gf z.H a ay)) z.H s.heap t v):(z.wi z.σ (gf z.H a ay) z.ρ).ok s:=by
 obtain⟨ob,ho,hcl⟩:=nt
 have hnb:=fr.2
 have hne:∀{b},z.H b=some ay->b≠a:=fun {b} hb y=>by subst y;rw[fr.1] at hb;cases hb
 refine⟨Inv.track hz.I fr.1 ho h00 (fun q=>hnb (q▸hz.loc)) (fun y c e q=>hnb (q▸hz.cel y c e)) hp,hz.len,fun j t q=>?_,hz.dj,hz.nb,fun b o q=>?_,hz.oh0,hz.loc,hz.cel,hz.fs,hz.ex,hz.there,hz.bs,fun b o q=>?_,hz.anc⟩
 ·obtain⟨v,e1,r,_⟩:=hz.slk j t q
  refine⟨v,e1,r,?_⟩
  have d:=sk j t v q e1
  cases t with
  |val p=>exact d
  |own ps=>obtain⟨b,rfl,hb,l⟩:=d;exact⟨b,rfl,(aA (hne hb)).trans hb,l⟩
  |dic ks ps=>obtain⟨b,rfl,hb,l⟩:=d;exact⟨b,rfl,(aA (hne hb)).trans hb,l⟩
 ·by_cases hba:b=a
  ·have q:gf z.H a ay b=some o:=q
   rw[hba,bL] at q;cases q;rfl
  ·have q:gf z.H a ay b=some o:=q
   rw[aA hba] at q;exact hz.oh b o q
 ·by_cases hba:b=a
  ·rw[hba];exact⟨hnb,ob,ho,hcl⟩
  ·have q:gf z.H a ay b=some o:=q
   rw[aA hba] at q;exact hz.ot b o q
theorem A4 {z:Z X}{s1:Shared}(hz:z.ok s1){i:Nat}{x:Str}(nm:Nm X i x){t:Sl}(ht:cV t=true){a:Addr}(hH:z.H a=some ay)(no:∀j,¬bU z.σ z.ρ j a)(h00:X.s₀.heap.get? a=none\/X.H₀ a≠none)
  (d:SlOk z.cn z.H s1.heap t (.ref a)) {E:Value->Shared->Prop} :
  W X (storeName X.env x (.ref a)) (fun _ s'=>(z.wi (z.σ.set i (some (.ref a))) z.H (z.ρ.set i (some t))).ok s'/\Ext z.bad s1.heap s'.heap) E s1:=by
 refine kG hz.I nm.nd nm.ix nm.loc (v:=.ref a) rfl (fun s' I' ⟨b,sb,hb⟩=>?_) nm.fn
 have e:Ext z.bad s1.heap s'.heap:=lN (z:=z) hz I' sb hb
 have hil:i<z.σ.length:=by rw[hz.I.len];exact (List.getElem?_eq_some_iff.mp nm.ix).1
 have hil2:i<z.ρ.length:=by rw[←hz.len];exact hil
 have oset:∀{j b},bU (z.σ.set i (some (.ref a))) (z.ρ.set i (some t)) j b->(j=i/\b=a)\/(j≠i/\bU z.σ z.ρ j b):=fun {j b} o=>by
  obtain⟨⟨t',e1,ot⟩,q⟩:=o
  by_cases hj:i=j
  ·subst hj
   rw[List.getElem?_set_self hil] at q;cases q
   exact .inl ⟨rfl,rfl⟩
  ·rw[List.getElem?_set_ne hj] at e1 q
   exact .inr ⟨Ne.symm hj,⟨t',e1,ot⟩,q⟩
 refine⟨⟨I',by simp[hz.len],fun j t' q=>?_,fun j k b o1 o2=>?_,fun j b o=>?_,hz.oh,hz.oh0,hz.loc,hz.cel,hz.fs,hz.ex,fun b q=>let ⟨o,r⟩:=hz.there b q;e.th b o r,hz.bs,fun b o q=>?_,fun hf b hb=>(List.getElem?_set_ne (nm.an hf ⟨b,hb⟩)).trans (hz.anc hf b hb)⟩,e⟩
 ·by_cases hj:i=j
  ·subst hj
   have q:(z.ρ.set i (some t))[i]?=some (some t'):=q
   rw[List.getElem?_set_self hil2] at q
   cases q
   exact⟨.ref a,List.getElem?_set_self hil,⟨.ref a,rfl⟩,SlOk.mono (c:=z.cn) (c':=z.cn) e.kpD (fun b o hb w=>e.kp b o (hz.ot b _ hb).1 w) d⟩
  ·have q:(z.ρ.set i (some t))[j]?=some (some t'):=q
   rw[List.getElem?_set_ne hj] at q
   obtain⟨w,e1,r,d⟩:=hz.slk j t' q
   exact⟨w,by rw[show (z.wi (z.σ.set i (some (.ref a))) z.H (z.ρ.set i (some t))).σ=z.σ.set i (some (.ref a)) from rfl,List.getElem?_set_ne hj];exact e1,r,d.step hz e q e1⟩
 ·rcases oset o1 with ⟨e1,e2⟩|⟨e1,e2⟩<;>rcases oset o2 with ⟨f1,f2⟩|⟨f1,f2⟩
  ·rw[e1,f1]
  ·subst e2;exact absurd f2 (no k)
  ·subst f2;exact absurd e2 (no j)
  ·exact hz.dj j k b e2 f2
 ·rcases oset o with ⟨e1,e2⟩|⟨e1,e2⟩
  ·subst e2;exact⟨(hz.ot b _ hH).1,h00⟩
  ·exact hz.nb j b e2
 ·obtain⟨r0,ob',r1,r2⟩:=hz.ot b o q
  exact⟨r0,ob',e.kp b ob' r0 r1,r2⟩
theorem Z.ok.no_own {z:Z X}{s:Shared}(hz:z.ok s){a:Addr}(n:s.heap.get? a=none)(j:Nat):¬bU z.σ z.ρ j a:=fun o=>by
 obtain⟨⟨t',e1,ot⟩,q⟩:=o
 obtain⟨v,e2,_,d2⟩:=hz.slk j t' e1
 rw[q] at e2;cases e2
 have:z.H a=some ay:=by
  cases t' with
  |val p=>cases ot
  |own ps=>obtain⟨b,e3,h,_⟩:=d2;cases e3;exact h
  |dic ks ps=>obtain⟨b,e3,h,_⟩:=d2;cases e3;exact h
 obtain⟨ob,r⟩:=hz.stands this
 rw[n] at r;cases r
noncomputable def BB:RV->Option Sl
 |.fz p=>some (.val p)
 |.nw ps=>some (.own ps)
 |.ln _=>none
noncomputable def xf (o:Option Sl)(o':Option Sl)(i j:Nat)(ρ:aj):Out:=match o,o' with
 |some s,some t=>.nx ((ρ.set i (some s)).set j (some t))
 |_,_=>.bad
noncomputable abbrev FX:=aj->Option Sl
noncomputable def uw (i j:Nat)(g1 g2:FX):FS:=fun ρ=>xf (g1 ρ) (g2 ρ) i j ρ
noncomputable def xE (f:FE):FX:=fun ρ=>(f ρ).bind BB
noncomputable def yl (i:Nat)(g:FX):FS:=fun ρ=>match g ρ with
 |some t=>.nx (ρ.set i (some t))
 |none=>.bad
structure Got (z z':Z X)(s s':Shared)(t:Sl)(u:Value):Prop where
 bad:z'.bad=z.bad
 pins:z'.pins=z.pins
 σ:z'.σ=z.σ
 ρ:z'.ρ=z.ρ
 ok:z'.ok s'
 stp:Stp z.bad z.H z'.H s.heap s'.heap
 old:∀b o,z.H b=some o->z'.H b=some o
 kept:∀b o,¬z.bad b->s.heap.get? b=some o->s'.heap.get? b=some o
 sl:(cV t=false/\(∃p,t=.val p/\D z'.cn s'.heap p u))\/(cV t=true/\∃a,u=.ref a/\s.heap.get? a=none/\z'.H a=some ay/\X.s₀.heap.get? a=none/\SlOk z'.cn z'.H s'.heap t (.ref a))
noncomputable def NX (X:Cx)(e:Expr)(g:FX):Prop:=∀(z:Z X) (s:Shared) (t:Sl) (E:Value->Shared->Prop),z.ok s->g z.ρ=some t->W X (eval e X.env) (fun u s'=>∃z',Got z z' s s' t u) E s
theorem yJ {z:Z X}{s s':Shared}{t:Sl}{a:Addr}(hz:z.ok s)(g:z.go s s')(ht:cV t=true)(n:s.heap.get? a=none)(nt:∃ob,s'.heap.get? a=some ob/\ob.cls≠.type "tuple")(d:SlOk (bg X z.bad (gf z.H a ay)) (gf z.H a ay) s'.heap t (.ref a)):∃z',Got z z' s s' t (.ref a):=by
 have hn:∀b o,z.H b=some o->b≠a:=fun b o h y=>by subst y;obtain⟨ob,r⟩:=hz.stands h;rw[n] at r;cases r
 exact⟨z.wi z.σ (gf z.H a ay) z.ρ,rfl,rfl,rfl,rfl,g.1.track (hz.free n) (iB hz n) (fun p hp q=>by have:=(hz.I.pin p hp).1;rw[q,n] at this;cases this) nt (hz.sk n g.2 fun b=>.inl),Stp.new g.2 n,fun b o h=>(aA (hn b o h)).trans h,fun b o nb=>g.2.kp b o nb,.inr ⟨ht,a,rfl,n,bL,iB hz n,d⟩⟩
theorem Np {z:Z X}{s s':Shared}{r:RV}{t:Sl}{u:Value}(hz:z.ok s)(p:Z.post z s r u s')(e:BB r=some t):∃z',Got z z' s s' t u:=by
 cases r with
 |ln p=>cases e
 |fz p'=>cases e;exact⟨z,rfl,rfl,rfl,rfl,p.1.1,p.1.2.stp,fun _ _ h=>h,fun b o n=>p.1.2.kp b o n,.inl ⟨rfl,p',rfl,p.2⟩⟩
 |nw ps=>
  cases e
  obtain⟨g,a,rfl,n,o,l⟩:=p
  exact yJ hz g rfl n (lM l) ⟨a,rfl,bL,l⟩
theorem Jq {e:Expr}{f:FE}(h:NE X e f):NX X e (xE f):=fun z s t E hz q=>by
 obtain⟨r,er,q⟩:=Option.bind_eq_some_iff.mp q
 exact aB (h z s r E hz er) fun u s1 p=>Np hz p q
theorem SlOk.old {c:Cn}{H H':Hp}{h:Heap}(q:∀b o,H b=some o->H' b=some o):∀{t:Sl} {v:V},SlOk c H h t v->SlOk c H' h t v
 |.val _,_,d=>d
 |.own _,_,⟨a,e,o,d⟩=>⟨a,e,q a _ o,d⟩
 |.dic _ _,_,⟨a,e,o,d⟩=>⟨a,e,q a _ o,d⟩
noncomputable def Z.ts (z:Z X)(s:Shared)(i:Nat)(t:Sl)(s':Shared):Prop:=∃v,(cV t=false\/∃a,v=V.ref a/\z.H a=some ay)/\(z.wi (z.σ.set i (some v)) z.H (z.ρ.set i (some t))).ok s'/\Ext z.bad s.heap s'.heap
theorem za {z:Z X}{s:Shared}(hz:z.ok s){i:Nat}{x:Str}(nm:Nm X i x){p:PV}{u:Value}(d:D z.cn s.heap p u){E:Value->Shared->Prop} :
  W X (storeName X.env x u) (fun _ s'=>z.ts s i (.val p) s') E s:=by
 obtain⟨v,ru,rv⟩:=d.v
 refine kG hz.I nm.nd nm.ix nm.loc ru (fun s' I' ⟨a,sb,ha⟩=>?_) nm.fn
 have e:=lN hz I' sb ha
 have hi:i<z.σ.length:=by rw[hz.I.len];exact (List.getElem?_eq_some_iff.mp nm.ix).1
 have hi2:i<z.ρ.length:=by rw[←hz.len];exact hi
 refine⟨v,.inl rfl,⟨I',by simp[hz.len],fun j t q=>?_,fun j k a o1 o2=>hz.dj j k a (kK o1) (kK o2),fun j a o=>hz.nb j a (kK o),hz.oh,hz.oh0,hz.loc,hz.cel,hz.fs,hz.ex,fun b q=>let ⟨o,r⟩:=hz.there b q;e.th b o r,hz.bs,fun a o q=>⟨(hz.ot a o q).1,let ⟨ob,r1,r2⟩:=(hz.ot a o q).2;⟨ob,e.kp a ob (hz.ot a o q).1 r1,r2⟩⟩,fun hf a ha=>(List.getElem?_set_ne (nm.an hf ⟨a,ha⟩)).trans (hz.anc hf a ha)⟩,e⟩
 by_cases hj:i=j
 ·subst hj
  have q:(z.ρ.set i (some (.val p)))[i]?=some (some t):=q
  rw[List.getElem?_set_self hi2] at q
  cases q
  exact⟨v,List.getElem?_set_self hi,⟨u,ru⟩,fun u' r=>(rv u' r).m e.kpD⟩
 ·have q:(z.ρ.set i (some (.val p)))[j]?=some (some t):=q
  rw[List.getElem?_set_ne hj] at q
  obtain⟨w,e1,r,d⟩:=hz.slk j t q
  exact⟨w,by rw[show (z.wi (z.σ.set i (some v)) z.H (z.ρ.set i (some (.val p)))).σ=z.σ.set i (some v) from rfl,List.getElem?_set_ne hj];exact e1,r,d.step hz e q e1⟩
noncomputable def Has (z:Z X)(h:Heap)(t:Sl)(u:Value):Prop:=(cV t=false/\(∃p,t=.val p/\D z.cn h p u))\/(cV t=true/\∃a,u=.ref a/\(∀j,¬bU z.σ z.ρ j a)/\z.H a=some ay/\X.s₀.heap.get? a=none/\SlOk z.cn z.H h t (.ref a))
theorem mZ {z:Z X}{s:Shared}{i:Nat}{x:Str}{t:Sl}{u:Value}(hz:z.ok s)(nm:Nm X i x)(h:Has z s.heap t u){E:Value->Shared->Prop} :
  W X (storeName X.env x u) (fun _ s'=>z.ts s i t s'/\∀a,u=.ref a->cV t=true->∃v,v=V.ref a/\(z.wi (z.σ.set i (some v)) z.H (z.ρ.set i (some t))).ok s'/\Ext z.bad s.heap s'.heap) E s:=by
 rcases h with ⟨ho,p,rfl,d⟩|⟨ho,a,rfl,no,hH,h00,d⟩
 ·exact aB (za hz nm d) fun _ s' q=>⟨q,fun _ _ h=>(by cases h)⟩
 ·exact aB (A4 hz nm ho hH no (.inl h00) d) fun _ s' ⟨ok,e⟩=>⟨⟨.ref a,.inr ⟨a,rfl,hH⟩,ok,e⟩,fun b hb _=>by cases hb;exact⟨_,rfl,ok,e⟩⟩
theorem Has.ext {z:Z X}{s:Shared}{h':Heap}{t:Sl}{u:Value}(hz:z.ok s)(e:Ext z.bad s.heap h'):Has z s.heap t u->Has z h' t u
 |.inl ⟨ho,p,e1,d⟩=>.inl ⟨ho,p,e1,d.m e.kpD⟩
 |.inr ⟨ho,a,e1,no,hH,h00,d⟩=>.inr ⟨ho,a,e1,no,hH,h00,SlOk.mono (c:=z.cn) (c':=z.cn) e.kpD (fun b o hb w=>e.kp b o (hz.ot b _ hb).1 w) d⟩
theorem Has.over {z:Z X}{s s':Shared}{i:Nat}{t t':Sl}{u u':Value}{v:V}(hz:z.ok s)(h:Has z s.heap t u)(hv:cV t'=true->∃a,v=.ref a/\u≠.ref a)(e:Ext z.bad s.heap s'.heap):Has (z.wi (z.σ.set i (some v)) z.H (z.ρ.set i (some t'))) s'.heap t u:=by
 rcases h.ext hz e with h|⟨ho,a,rfl,no,r⟩
 ·exact .inl h
 ·refine .inr ⟨ho,a,rfl,fun j o=>?_,r⟩
  obtain⟨⟨t2,e1,ot⟩,q⟩:=o
  have e1:(z.ρ.set i (some t'))[j]?=some (some t2):=e1
  have q:(z.σ.set i (some v))[j]?=some (some (.ref a)):=q
  by_cases hj:i=j
  ·subst hj
   rw[List.getElem?_set] at e1 q
   simp only[if_true] at e1 q
   split at e1
   ·cases e1
    split at q
    ·cases q
     obtain⟨b,e3,e4⟩:=hv ot
     cases e3;exact e4 rfl
    ·cases q
   ·cases e1
  ·rw[List.getElem?_set_ne hj] at e1 q
   exact no j ⟨⟨t2,e1,ot⟩,q⟩
theorem Iy {a b:Expr}{f1 f2:FX}{px py pt:Pos}{kt k2 pt2}(hc:X.calm=true)(n1:Nm X i x)(n2:Nm X j y)(hij:i≠j)(ha:NX X a f1)(hb:NX X b f2)(hs2:starEach [a,b] X.env=[(false,eval a X.env),(false,eval b X.env)])
  (hw:swappedStores [.Tuple [.Name x px,.Name y py] kt pt] (.Tuple [a,b] k2 pt2) X.env=pure (some [x,y]))
  (hs:swapsWithSole [.Tuple [.Name x px,.Name y py] kt pt] (.Tuple [a,b] k2 pt2) pos.line X.env=pure false) :
  NS X (.Assign [.Tuple [.Name x px,.Name y py] kt pt] (.Tuple [a,b] k2 pt2) pos) (uw i j f1 f2):=fun z s E hz hb0=>by
 unfold uw xf at hb0 ⊢
 split at hb0
 ·next t1 t2 e1 e2=>
  rw[exec_Assign_arm]
  refine wpAny_bind (wpAny_standAt ?_)
  rw[hs]
  refine wpAny_bind (wpAny_pure ?_)
  rw[if_neg (by decide)]
  refine wpAny_bind (Tuple_ ?_)
  rw[hs2]
  show W X (spliced ((false,eval a X.env)::(false,eval b X.env)::[])) _ _ s
  refine Calls.spliced_cons (aB (ha z s t1 E hz e1) fun u1 s1 p1=>?_)
  obtain⟨⟨bad1,pins1,σ1,H1,ρ1⟩,G1⟩:=p1
  obtain⟨rfl,rfl,rfl,rfl,ok1,st1,old1,kp1,g1⟩:=G1
  refine Calls.spliced_cons (aB (hb ⟨z.bad,z.pins,z.σ,H1,z.ρ⟩ s1 t2 E ok1 e2) fun u2 s2 p2=>Calls.spliced_nil ?_)
  obtain⟨⟨bad2,pins2,σ2,H2,ρ2⟩,G2⟩:=p2
  obtain⟨q1,q2,q3,q4,ok2,st2,old2,kp2,g2⟩:=G2
  cases (show bad2=z.bad from q1)
  cases (show pins2=z.pins from q2)
  cases (show σ2=z.σ from q3)
  cases (show ρ2=z.ρ from q4)
  have A1:Has (X:=X) ⟨z.bad,z.pins,z.σ,H2,z.ρ⟩ s2.heap t1 u1:=by
   rcases g1 with ⟨ho,p,rfl,d⟩|⟨ho,a',rfl,n,hH,h00,d⟩
   ·exact .inl ⟨ho,p,rfl,d.m st2.kpD⟩
   ·exact .inr ⟨ho,a',rfl,hz.no_own n,old2 _ _ hH,h00,SlOk.old old2 (SlOk.mono (c:=bg X z.bad H1) (c':=bg X z.bad H2) st2.kpD (fun b o hb w=>kp2 b o (ok1.ot b _ hb).1 w) d)⟩
  have A2:Has (X:=X) ⟨z.bad,z.pins,z.σ,H2,z.ρ⟩ s2.heap t2 u2/\(cV t2=true->∃b,u2=.ref b/\u1≠.ref b\/cV t1=false):=by
   rcases g2 with ⟨ho,p,rfl,d⟩|⟨ho,a',rfl,n,hH,h00,d⟩
   ·exact⟨.inl ⟨ho,p,rfl,d⟩,fun h=>by cases h⟩
   ·refine⟨.inr ⟨ho,a',rfl,fun k=>ok1.no_own (z:=⟨z.bad,z.pins,z.σ,H1,z.ρ⟩) n k,hH,h00,d⟩,fun _=>⟨a',?_⟩⟩
    rcases g1 with ⟨ho,_⟩|⟨ho,a1,rfl,n1,hH1,_⟩
    ·exact .inr ho
    ·refine .inl ⟨rfl,fun e=>?_⟩
     cases e
     obtain⟨ob,r⟩:=ok1.stands hH1
     rw[n] at r;cases r
  refine wpAny_newObj_type ?_ (by show 2≤sizeLine;decide)
  have g3:=ok2.push { cls:=.type "tuple",data:=.seq [u1,u2].toArray } s2.toks
  rw[hw]
  refine wpAny_bind (wpAny_pure ?_)
  show W X (do rule "assign.swapped-stores";let items ←unpackItems (.ref s2.heap.objs.size) 2 none;assignInOrder [fun v=>bindName X.env y v,fun v=>bindName X.env x v] items.reverse;pure Flow.next) _ _ _
  refine wpAny_bind (wpAny_rule (wpAny_bind (unpackItems_tuple (items:=#[u1,u2]) (hz.I.ok.hd hc) (IsTup.new s2.heap _) fun h' hx'=>?_)))
  have g4:(Z.mk (X:=X) z.bad z.pins z.σ H2 z.ρ).go _ { s2 with heap:=h' }:=g3.1.kept (t:=s2.toks) fun b o e=>hx' b o (Nat.ne_of_lt (Heap.lt_size e)) e
  have ge:=g3.trans g4
  have B1:=A1.ext ok2 ge.2
  have B2:=A2.1.ext ok2 ge.2
  show wpAny _ _ (assignInOrder [fun v=>bindName X.env y v,fun v=>bindName X.env x v] [u2,u1] >>= fun _=>pure Flow.next) _ _ _
  refine wpAny_bind (assignInOrder_cons (wpAny_bindName (aB (mZ ge.1 n2 B2) fun _ s3 ⟨w,ww⟩=>?_)))
  obtain⟨v,ov,ok3,x3⟩:∃v,(cV t2=true->cV t1=true->∃a,v=V.ref a/\u1≠.ref a)/\(Z.mk (X:=X) z.bad z.pins (z.σ.set j (some v)) H2 (z.ρ.set j (some t2))).ok s3/\Ext z.bad h' s3.heap:=by
   cases ho:cV t2 with
   |false=>obtain⟨v,_,r⟩:=w;exact⟨v,(fun h=>by cases h),r⟩
   |true=>
    obtain⟨b,q⟩:=A2.2 ho
    rcases q with ⟨rfl,q⟩|q
    ·obtain⟨v,rfl,r⟩:=ww b rfl ho
     exact⟨_,fun _ _=>⟨b,rfl,q⟩,r⟩
    ·obtain⟨v,_,r⟩:=w;exact⟨v,(fun _ h=>by rw[q] at h;cases h),r⟩
  have C1:Has (X:=X) ⟨z.bad,z.pins,z.σ.set j (some v),H2,z.ρ.set j (some t2)⟩ s3.heap t1 u1:=by
   cases ho:cV t1 with
   |false=>
    rcases B1.ext ge.1 x3 with h|⟨h,_⟩
    ·exact .inl h
    ·rw[ho] at h;cases h
   |true=>exact Has.over (u':=u2) ge.1 B1 (fun h=>ov h ho) x3
  refine assignInOrder_cons (wpAny_bindName (aB (mZ ok3 n1 C1) fun _ s4 ⟨⟨v1,_,ok4,x4⟩,_⟩=>assignInOrder_nil (wpAny_pure ?_)))
  rw[List.set_comm (some t1) (some t2) hij]
  exact⟨rfl,_,H2,ok4,(st1.trans st2).trans (ge.2.trans (x3.trans x4)).stp⟩
 ·exact absurd rfl hb0
theorem GS {e:Expr}{g:FX}{p':Pos}(n:Nm X i x)(h:NX X e g)(hs:swapsWith e (some (.Name x p')) pos.line X.env=pure false):NS X (.Assign [.Name x p'] e pos) (yl i g):=fun z s E hz hb=>by
 unfold yl at hb ⊢
 split at hb
 ·next t et=>
  refine wpAny_Assign_Name (aB (h z s t E hz et) fun u s1 ⟨⟨bad1,pins1,σ1,H1,ρ1⟩,G1⟩=>?_) hs
  obtain⟨q1,q2,q3,q4,ok1,st1,old1,kp1,g1⟩:=G1
  cases (show bad1=z.bad from q1)
  cases (show pins1=z.pins from q2)
  cases (show σ1=z.σ from q3)
  cases (show ρ1=z.ρ from q4)
  have A1:Has (X:=X) ⟨z.bad,z.pins,z.σ,H1,z.ρ⟩ s1.heap t u:=by
   rcases g1 with h|⟨ho,a',rfl,n,r⟩
   ·exact .inl h
   ·exact .inr ⟨ho,a',rfl,hz.no_own n,r⟩
  exact aB (mZ ok1 n A1) fun _ s2 ⟨⟨v,_,ok2,x2⟩,_⟩=>⟨rfl,_,H1,ok2,st1.trans x2.stp⟩
 ·exact absurd rfl hb
end
end Dp
end
section
namespace Dp
open PySem PySem.Spec L2 PyProof.Rows
noncomputable abbrev Gr:=fP×List PV
noncomputable def Jh (g:List Gr)(k:fP)(v:PV):List Gr:=
 if g.any (fun t=>decide (t.1=k)) then g.map (fun t=>if t.1=k then (t.1,t.2++[v]) else t) else g++[(k,[v])]
section
variable {X:Cx}{d i:Nat}{x y:Str}{pos:Pos}
theorem Z.ok.mutf {z:Z X}{s:Shared}(hz:z.ok s){a:Addr}(hH:z.H a=some ay)(no:∀j,¬bU z.σ z.ρ j a){h':Heap}{tk:Nat}(k:∀b u,b≠a->s.heap.get? b=some u->h'.get? b=some u)(nt:∃ob,h'.get? a=some ob/\ob.cls≠.type "tuple") :
  z.ok { s with heap:=h',toks:=tk }/\Stp z.bad z.H z.H s.heap h'/\Kp z.cn z.cn s.heap h':=by
 obtain⟨ob,hob,hcl⟩:=nt
 have I':Inv X z.pins z.σ z.H { s with heap:=h',toks:=tk }:=by
  have:=hz.I.write (x:=a) (e:=a) (o:=ay) (h':=h') (t':=tk) (by rw[hH];exact trivial) (.inl rfl) k ⟨ob,hob⟩ ⟨trivial,⟨ob,hob⟩,fun _ _ _ _=>trivial⟩
  rwa [po hH] at this
 have kp:Kp z.cn z.cn s.heap h':=⟨rfl,rfl,rfl,fun b u q e=>⟨q,k b u (fun y=>by have q1:z.H b=none:=q.1;rw[y,hH] at q1;cases q1) e⟩⟩
 have th:∀b u,s.heap.get? b=some u->∃u',h'.get? b=some u':=fun b u e=>by
  by_cases hb:b=a
  ·rw[hb];exact⟨ob,hob⟩
  ·exact⟨u,k b u hb e⟩
 refine⟨⟨I',hz.len,fun j t q=>?_,hz.dj,hz.nb,hz.oh,hz.oh0,hz.loc,hz.cel,hz.fs,hz.ex,fun b q=>let ⟨u,r⟩:=hz.there b q;th b u r,hz.bs,fun b o q=>?_,hz.anc⟩,⟨fun b u n hn e=>⟨k b u (fun y=>by rw[y,hH] at hn;cases hn) e,hn⟩,th⟩,kp⟩
 ·obtain⟨w,e1,r,dd⟩:=hz.slk j t q
  refine⟨w,e1,r,?_⟩
  have ne:∀b,w=.ref b->cV t=true->b≠a:=fun b e3 ot y=>no j ⟨⟨t,q,ot⟩,by rw[e1,e3,y]⟩
  cases t with
  |val p=>exact fun u r=>(dd u r).m kp
  |own ps=>obtain⟨b,rfl,hb,l⟩:=dd;exact⟨b,rfl,hb,l.mono kp fun o w=>k b o (ne b rfl rfl) w⟩
  |dic ks ps=>obtain⟨b,rfl,hb,l⟩:=dd;exact⟨b,rfl,hb,l.mono kp fun o w=>k b o (ne b rfl rfl) w⟩
 ·obtain⟨r0,u,r1,r2⟩:=hz.ot b o q
  by_cases hb:b=a
  ·rw[hb] at r0 ⊢;exact⟨r0,ob,hob,hcl⟩
  ·exact⟨r0,u,k b u hb r1,r2⟩
noncomputable def L9 (g:List Gr):PV:=.dct (g.map (·.1)) (g.map fun t=>.lst t.2)
noncomputable def I6:List (Nat×FE)->aj->Option aj
 |[],ρ=>some ρ
 |(i,f)::r,ρ=>((f ρ).bind RV.fr).bind fun p=>I6 r (ρ.set i (some (.val p)))
noncomputable def zJ (i:Nat)(bd:List (Nat×FE))(fk fv:FE):List PV->aj->List Gr->Option (aj×List Gr)
 |[],ρ,g=>some (ρ,g)
 |p::ps,ρ,g=>(I6 bd (ρ.set i (some (.val p)))).bind fun ρ2=>(((fk ρ2).bind RV.fr).bind i8).bind fun k=>((fv ρ2).bind RV.fr).bind fun v=>zJ i bd fk fv ps ρ2 (Jh g k v)
noncomputable def Gs (o:Option (aj×List Gr))(d:Nat):Out:=match o with
 |some (ρ,g)=>.nx (ρ.set d (some (.val (L9 g))))
 |none=>.bad
noncomputable def Ad (t:Option Sl)(its:Option (List PV))(d i:Nat)(bd:List (Nat×FE))(fk fv:FE)(ρ:aj):Out:=match t,its with
 |some (.dic [] []),some its=>if its.length≤1000 then Gs (zJ i bd fk fv its (ρ.set d none) []) d else .bad
 |_,_=>.bad
noncomputable def Mq (d i:Nat)(fi:FI)(bd:List (Nat×FE))(fk fv:FE):FS:=fun ρ=>Ad (sl ρ d) (fi ρ) d i bd fk fv ρ
end
end Dp
end
section
namespace Dp
open PySem PySem.Spec L2 PyProof.Rows
section
variable {X:Cx}{i j:Nat}{x y:Str}{pos:Pos}
noncomputable def Bw:FX:=fun _=>some (.dic [] [])
theorem uf {z:Z X}{s:Shared}(hz:z.ok s):∃z',Got z z' s { s with heap:=s.heap.push { cls:=.type "dict",data:=.dict #[] } } (.dic [] []) (.ref s.heap.objs.size):=by
 refine yJ hz (hz.push _ s.toks) rfl (Heap.get?_none_of_le (Nat.le_refl _)) ⟨_,Heap.get?_push_size _ rfl,by intro w;exact absurd (Value.type.inj w) (by decide)⟩ ⟨_,rfl,bL,[],beq_eq_false_iff_ne.mpr (Ne.symm (Nat.ne_of_lt hz.I.big)),Heap.DictOf.new s.heap,Nat.zero_le _,rfl,rfl⟩
theorem HL:NX X (.Dict [] [] pos) Bw:=fun z s t E hz q=>by
 cases q;exact wpAny_Dict_empty (uf hz)
noncomputable def xR (k v:Option PV):Option Sl:=match k,v with
 |some k,some v=>(i8 k).map fun k=>.dic [k] [v]
 |_,_=>none
noncomputable def uj (f g:FE):FX:=fun ρ=>xR ((f ρ).bind RV.fr) ((g ρ).bind RV.fr)
theorem Iz {k v:Expr}{f g:FE}(hk:NE X k f)(hv:NE X v g):NX X (.Dict [some k] [v] pos) (uj f g):=fun z s t E hz q=>by
 unfold uj xR at q
 split at q
 ·next p q' ep eq=>
  obtain⟨kk,ek,rfl⟩:=Option.map_eq_some_iff.mp q
  obtain⟨r1,er1,ep⟩:=Option.bind_eq_some_iff.mp ep
  obtain⟨r2,er2,eq⟩:=Option.bind_eq_some_iff.mp eq
  obtain⟨⟨bad1,pins1,σ1,H1,ρ1⟩,G1⟩:=uf hz
  obtain⟨e1,e2,e3,e4,ok1,st1,old1,kp1,g1⟩:=G1
  cases (show bad1=z.bad from e1)
  cases (show pins1=z.pins from e2)
  cases (show σ1=z.σ from e3)
  cases (show ρ1=z.ρ from e4)
  rcases g1 with ⟨h,_⟩|⟨_,a,ea,na,hH,h00,dA⟩
  ·cases h
  cases ea
  obtain⟨b,eb,_,kus,sm,dd0,_,_,_⟩:=dA
  cases eb
  refine wpAny_Dict_walk (knd:=bq X.prog X.w) rfl rfl (by simp) (by simp) (pairTrees_cons_walk (aB (hk ⟨z.bad,z.pins,z.σ,H1,z.ρ⟩ _ r1 E ok1 er1) fun u1 s1 p1=>aB (hv ⟨z.bad,z.pins,z.σ,H1,z.ρ⟩ s1 r2 E p1.1.1 er2) fun u2 s2 p2=>pairTrees_nil_walk ?_))
  have go:=p1.1.trans p2.1
  have dk:=(p1.2.ext p2.1.2).fr ep
  have dv:=p2.2.fr eq
  have nb:¬z.bad s.heap.objs.size:=(ok1.ot _ _ hH).1
  have hd:s2.heap.DictOf (bq X.prog X.w) s.heap.objs.size []:=by
   obtain⟨o,es,ep,q,r⟩:=Heap.DictOf.new (knd:=bq X.prog X.w) s.heap
   exact⟨o,es,ep,go.2.kp _ o nb q,r⟩
  refine⟨[(kk,u2)],⟨pP (gK ek dk),rfl,trivial⟩,hd,fun h' dd' hs=>?_⟩
  have keep:∀b o,b≠s.heap.objs.size->s2.heap.get? b=some o->h'.get? b=some o:=fun b o hb e=>(hs.2 b hb).trans e
  obtain⟨q,es,ep',hq,hx,_⟩:=id dd'
  obtain⟨ok3,st3,kp3⟩:=go.1.mutf (a:=s.heap.objs.size) hH (fun j o=>hz.no_own (Heap.get?_none_of_le (Nat.le_refl _)) j o) (tk:=s2.toks+[(u1,u2)].length) keep ⟨q,hq,by rw[hx.1];intro w;exact absurd (Value.type.inj w) (by decide)⟩
  refine⟨⟨z.bad,z.pins,z.σ,H1,z.ρ⟩,rfl,rfl,rfl,rfl,ok3,(st1.trans go.2.stp).trans st3,old1,fun b o n e=>?_,.inr ⟨rfl,_,rfl,Heap.get?_none_of_le (Nat.le_refl _),hH,h00,_,rfl,hH,_,sm,dd',big (by show 1≤100000;omega),rfl,.one (dv.m kp3)⟩⟩
  exact keep b o (Nat.ne_of_lt (Heap.lt_size e)) (go.2.kp b o n (kp1 b o n e))
 ·cases q
noncomputable def ni (ks:List fP)(k:fP):List fP:=if ks.any (fun j=>decide (j=k)) then ks else ks++[k]
noncomputable def BN:List fP->List PV->fP->PV->List PV
 |j::ks,p::ps,k,v=>(if j=k then v else p)::BN ks ps k v
 |_,_,_,_=>[]
noncomputable def m7 (ks:List fP)(ps:List PV)(k:fP)(v:PV):List PV:=if ks.any (fun j=>decide (j=k)) then BN ks ps k v else ps++[v]
theorem yo {c:Cn}{h:Heap}{k:fP}{v:PV}{u:Value}(d:D c h v u):∀{kus:List (fP×Value)} {ps:List PV},Ds c h ps (kus.map (·.2))->Ds c h (BN (kus.map (·.1)) ps k v) ((kus.map fun kv=>if kv.1=k then (kv.1,u) else kv).map (·.2))
 |[],ps,_=>by simp[BN,Ds]
 |(j,w)::kus,ps,e=>by
  cases ps with
  |nil=>cases (show w::kus.map (·.2)=[] from e)
  |cons p ps=>
   obtain⟨u',r,e,d1,d2⟩:=e
   cases e
   show Ds c h ((if j=k then v else p)::BN _ ps k v) ((if j=k then (j,u) else (j,w)).2::_)
   refine .cons ?_ (yo d d2)
   split
   ·exact d
   ·exact d1
theorem Go {c:Cn}{h:Heap}{k:fP}{v:PV}{u:Value}(d:D c h v u){kus:List (fP×Value)}{ps:List PV}(e:Ds c h ps (kus.map (·.2))):(stored kus k u).map (·.1)=ni (kus.map (·.1)) k/\Ds c h (m7 (kus.map (·.1)) ps k v) ((stored kus k u).map (·.2))/\(stored kus k u).length≤kus.length+1:=by
 have ea:(kus.map (·.1)).any (fun j=>decide (j=k))=kus.any fun kv=>decide (kv.1=k):=by rw[List.any_map];rfl
 unfold stored ni m7
 rw[ea]
 split
 ·refine⟨?_,yo d e,by rw[List.length_map];omega⟩
  rw[List.map_map]
  refine List.map_congr_left fun t _=>?_
  show (if t.1=k then (t.1,u) else t).1=t.1
  split<;>rfl
 ·exact⟨by rw[List.map_append];rfl,by rw[List.map_append];exact e.app (.one d),by simp⟩
theorem BD {z:Z X}{s:Shared}(hz:z.ok s){ks:List fP}{ps:List PV}(e:sl z.ρ i=some (.dic ks ps)){a:Addr}(o:z.σ[i]?=some (some (.ref a))):bU z.σ z.ρ i a/\z.H a=some ay/\DictAt z.cn s.heap a ks ps:=by
 obtain⟨b,o1,h,_,e2,_,l⟩:=Z.ok.owned hz e rfl
 cases e2
 have:=o1.2
 rw[o] at this;cases this
 exact⟨o1,h,l⟩
theorem DY {z:Z X}{s:Shared}(hz:z.ok s){a:Addr}(o:bU z.σ z.ρ i a){ks:List fP}{ps:List PV}{k:fP}{kv:Value}{v:PV}{u:Value}(hH:z.H a=some ay)(l:DictAt z.cn s.heap a ks ps)(hl:ks.length≤100000)(rk:iQ (kV k) kv)(d:D z.cn s.heap v u){E:Value->Shared->Prop} :
  W X (setItem (.ref a) kv u) (fun _ s'=>(z.wi z.σ z.H (z.ρ.set i (some (.dic (ni ks k) (m7 ks ps k v))))).ok s'/\Stp z.bad z.H z.H s.heap s'.heap) E s:=by
 obtain⟨kus,sm,dd,zl,ek,ds⟩:=l
 have hkl:kus.length≤100000:=by rw[←ek,List.length_map] at hl;exact hl
 refine wpAny_setItem_pairs (hsz:=zl) (pP rk) dd fun h' dd' hs=>?_
 obtain⟨q,es,ep',hq,hx,_⟩:=id dd'
 refine Z.ok.mut hz o (fun b u hb hu=>(hs.2 b hb).trans hu) (t:=.dic (ni ks k) (m7 ks ps k v)) rfl ⟨q,hq,by rw[hx.1];intro w;exact absurd (Value.type.inj w) (by decide)⟩ fun c ec kp=>?_
 subst ec
 obtain⟨h1,h2,h3⟩:=Go (k:=k) d ds
 rw[ek] at h1 h2
 exact⟨a,rfl,hH,_,sm,dd',Nat.le_trans h3 (JE hkl),h1,h2.mono kp⟩
noncomputable def xV (v:Option PV)(o:Option Sl)(k:Option PV)(j:Nat)(ρ:aj):Out:=match v,o,k with
 |some v,some (.dic ks ps),some k=>match i8 k with
  |some k=>if ks.length≤100000 then .nx (ρ.set j (some (.dic (ni ks k) (m7 ks ps k v)))) else .bad
  |none=>.bad
 |_,_,_=>.bad
noncomputable def uV (j:Nat)(fi f:FE):FS:=fun ρ=>xV ((f ρ).bind RV.fr) (sl ρ j) ((fi ρ).bind RV.fr) j ρ
theorem Hl {ix o:Expr}{fi f:FE}{p:Pos}{tpos:Pos}(hN:X.N[j]?=some x)(hv:rL X.env.scope x)(hd:(x==("__debug__" : Str))=false)(hcd:(x==("__classdict__" : Str))=false)(hi:NE X ix fi)(h:NE X o f)
  (hs:swapsWithSole [.Subscript (.Name x p) ix tpos] o pos.line X.env=pure false) (hw:swappedStores [.Subscript (.Name x p) ix tpos] o X.env=pure none)
  (h1:(assignEach [.Subscript (.Name x p) ix tpos] X.env).map (·.2)=[assign (.Subscript (.Name x p) ix tpos) X.env])
  (ha:∀v,assign (.Subscript (.Name x p) ix tpos) X.env v=(do
   let ov ←holding [v] (eval (.Name x p) X.env)
   let iv ←holding [v,ov] (eval ix X.env)
   standAt tpos
   holding [v,ov,iv] (setItem ov iv v)
   release [v,ov,iv] [])):NS X (.Assign [.Subscript (.Name x p) ix tpos] o pos) (uV j fi f):=fun z s E hz hb=>by
 unfold uV xV at hb ⊢
 split at hb
 ·next v ks ps k ev es ek=>
  split at hb
  ·next kk ekk=>
   split at hb
   ·next hl=>
    rw[if_pos hl]
    obtain⟨r,er,ev⟩:=Option.bind_eq_some_iff.mp ev
    obtain⟨rk,erk,ek⟩:=Option.bind_eq_some_iff.mp ek
    refine wpAny_Assign_stores (aB (h z s r E hz er) fun u s1 q=>?_) hs hw
    rw[h1]
    show W X (assign _ X.env u) _ E s1
    rw[ha]
    obtain⟨a,o1,_,_⟩:=Z.ok.owned hz es rfl
    refine wpAny_bind (wpAny_holding (mK q.1.1 o1.2 hN hv hd hcd ?_))
    refine wpAny_bind (wpAny_holding (aB (hi z s1 rk E q.1.1 erk) fun iv s2 q2=>?_))
    have dk:=q2.2.fr ek
    obtain⟨o2,hH,l⟩:=BD q2.1.1 es o1.2
    refine wpAny_bind (wpAny_standAt (wpAny_bind (wpAny_holding (aB (DY q2.1.1 o2 hH l hl (gK ekk dk) ((q.2.fr ev).m q2.1.2.kpD)) fun _ s3 w=>?_))))
    exact wpAny_release ⟨rfl,z.σ,z.H,w.1,(q.1.2.trans q2.1.2).stp.trans w.2⟩
   ·exact absurd rfl hb
  ·exact absurd rfl hb
 ·exact absurd rfl hb
end
section
variable {P:Program}{w:World}{tg:Expr}{h h':Heap}
noncomputable def IX:fP->PV
 |.inl i=>.int i
 |.inr x=>.str x
theorem Kh {c:Cn}{k:fP}{u:Value}(e:(bq P w).is k u=true):D c h (IX k) u:=by
 cases k with
 |inl i=>
  have e:Value.isInt i u=true:=e
  cases u<;>simp[Value.isInt] at e
  subst e;exact⟨_,rfl⟩
 |inr x=>
  have e:m6 (.inr x) u=true:=e
  cases u<;>simp[m6,Value.isStrOf] at e
  subst e;exact⟨_,rfl⟩
theorem Dv {a it:Addr}{ps:List PV}{ep:Nat}{kus:List (fP×Value)}:Trn P w tg it [it] [] ps (fun i c h=>h.IsValIter it a i kus.length ep/\h.DictAt (bq P w) a kus ep/\Ds c h ps (kus.map (·.2))/\c.ok a/\c.P=P/\c.w=w) where
 obj:=fun i c h st b hb=>by
  have e:b=it:=by simpa using hb
  subst e
  obtain⟨⟨o,e,_,d⟩,_⟩:=st
  exact⟨o,e,fun v z=>by rw[d] at z;cases z⟩
 keep:=fun i c c' h h' st k kk=>by
  obtain⟨st,⟨o,es,g,r⟩,ds,ok,e1,e2⟩:=st
  exact⟨st.at fun o e=>kk it (.inl (by simp)) o e,⟨o,es,(k.kp a _ ok g).2,r⟩,ds.mono k,(k.kp a _ ok g).1,by rw[k.P,e1],by rw[k.w,e2]⟩
 item:=fun X hP hw hc z s E i p hz hf hp st hx=>by
  subst hP hw
  obtain⟨st,da,ds,ok,e1,e2⟩:=st
  obtain⟨u,hu,du⟩:=ds.get hx
  rw[List.getElem?_map] at hu
  obtain⟨⟨k,u'⟩,hku,rfl⟩:=Option.map_eq_some_iff.mp hu
  refine wpAny_pyNext_values_item st da hku fun h' st' sb=>?_
  have go:=hz.turn (t:=s.toks) (h':=h') hf (fun b o hb e=>(sb.2 b (by simpa using hb)).trans e) fun b hb=>by
   rw[show b=it by simpa using hb];exact⟨_,st'.choose_spec.1⟩
  have kp:Kp z.cn z.cn s.heap h':=go.2.kpD
  obtain⟨o,e,c,d⟩:=id st'
  obtain⟨o2,es,g2,r2⟩:=da
  exact⟨u',rfl,t8 (s:={ s with heap:=h' }) e c d (by decide) ⟨go,du.m kp,st',⟨o2,es,(kp.kp a _ ok g2).2,r2⟩,ds.mono kp,ok,e1,e2⟩⟩
 done:=fun X hP hw hc z s E i hz hf hp st hx=>by
  subst hP hw
  obtain⟨st,da,ds,ok,e1,e2⟩:=st
  have hl:=ds.length
  rw[List.length_map] at hl
  obtain⟨f,bd⟩:=hf it (by simp)
  exact wpAny_pyNext_values_end (hz.I.ok.hd hc) st da (List.getElem?_eq_none (by omega)) fun h' eb=>⟨rfl,hz.I.turned (t':=s.toks) (fun b o hb e=>eb b o hb e) f.1 f.2.1 f.2.2.2.1 f.2.2.2.2.1 f.2.2.2.2.2,fun b o hb e=>eb b o (by simpa using hb) e⟩
 self:=fun A i c s Q E st q=>wpAny_pyIter_valiter st.1 q
theorem Ev {a it:Addr}{ep:Nat}{kus:List (fP×Value)}:Trn P w tg it [it] [] (kus.map fun kv=>IX kv.1) (fun i c h=>h.IsKeyIter it a i kus.length ep/\h.DictAt (bq P w) a kus ep/\c.ok a) where
 obj:=fun i c h st b hb=>by
  have e:b=it:=by simpa using hb
  subst e
  obtain⟨⟨o,e,_,d⟩,_⟩:=st
  exact⟨o,e,fun v z=>by rw[d] at z;cases z⟩
 keep:=fun i c c' h h' st k kk=>by
  obtain⟨st,⟨o,es,g,r⟩,ok⟩:=st
  exact⟨st.at fun o e=>kk it (.inl (by simp)) o e,⟨o,es,(k.kp a _ ok g).2,r⟩,(k.kp a _ ok g).1⟩
 item:=fun X hP hw hc z s E i p hz hf hp st hx=>by
  subst hP hw
  obtain⟨st,da,ok⟩:=st
  rw[List.getElem?_map] at hx
  obtain⟨⟨k,u'⟩,hku,rfl⟩:=Option.map_eq_some_iff.mp hx
  refine wpAny_pyNext_dict_item st da hku fun key h' hk st' sb=>?_
  have go:=hz.turn (t:=s.toks) (h':=h') hf (fun b o hb e=>(sb.2 b (by simpa using hb)).trans e) fun b hb=>by
   rw[show b=it by simpa using hb];exact⟨_,st'.choose_spec.1⟩
  have kp:Kp z.cn z.cn s.heap h':=go.2.kpD
  obtain⟨o,e,c,d⟩:=id st'
  obtain⟨o2,es,g2,r2⟩:=da
  exact⟨key,rfl,t8 (s:={ s with heap:=h' }) e c d (by decide) ⟨go,Kh hk,st',⟨o2,es,(kp.kp a _ ok g2).2,r2⟩,ok⟩⟩
 done:=fun X hP hw hc z s E i hz hf hp st hx=>by
  subst hP hw
  obtain⟨st,da,ok⟩:=st
  rw[List.length_map] at hx
  obtain⟨f,bd⟩:=hf it (by simp)
  exact wpAny_pyNext_dict_end (hz.I.ok.hd hc) st da (List.getElem?_eq_none (by omega)) fun h' eb=>⟨rfl,hz.I.turned (t':=s.toks) (fun b o hb e=>eb b o hb e) f.1 f.2.1 f.2.2.2.1 f.2.2.2.2.1 f.2.2.2.2.2,fun b o hb e=>eb b o (by simpa using hb) e⟩
 self:=fun A i c s Q E st q=>wpAny_pyIter_keyiter st.1 q
end
section
variable {X:Cx}{tg o:Expr}{f:FE}{apos cpos:Pos}
noncomputable def ox:PV->Option (List PV)
 |.dct _ ps=>some ps
 |_=>none
noncomputable def oj:PV->Option (List PV)
 |.dct ks _=>some (ks.map IX)
 |_=>none
noncomputable def Cr (f:FE):FI:=fun ρ=>(f ρ).bind fun r=>r.fr.bind ox
noncomputable def C0 (f:FE):FI:=fun ρ=>(f ρ).bind fun r=>r.fr.bind oj
theorem xz {P:Program}{w:World}{h:Heap}{d:Addr}{vs:List (fP×Value)}(x:h.DictOf (bq P w) d vs):∃ep,h.DictAt (bq P w) d vs ep:=by
 obtain⟨o,es,ep,h1,h2,h3,h4⟩:=x
 exact⟨ep,o,es,h1,h2,h3,h4⟩
theorem GH (h:NE X o f):NI X true tg o (C0 f):=fun z s its E hz q=>by
 obtain⟨r,e1,q⟩:=Option.bind_eq_some_iff.mp q
 obtain⟨p,e2,q⟩:=Option.bind_eq_some_iff.mp q
 refine aB (h z s r E hz e1) fun v s1 q1=>?_
 have d:=q1.2.fr e2
 unfold oj at q
 split at q
 ·next ks ps=>
  cases q
  obtain⟨a,kus,rfl,ok,sm,dd,zl,rfl,ds⟩:=d
  obtain⟨ep,da⟩:=xz dd
  rw[List.map_map]
  have g2:∀o:Obj,z.go s { s1 with heap:=s1.heap.push o }:=fun o=>q1.1.trans (q1.1.1.push o s1.toks)
  have kk:∀o:Obj,Kp z.cn (bg X (fun b=>z.bad b\/b∈[s1.heap.objs.size]) z.H) s1.heap (s1.heap.push o):=fun o=>vg q1.1.1 (fun b o e=>Heap.get?_push_of_some _ e) (gw (P:=fun b=>s1.heap.objs.size≤b) (Nat.le_refl _))
  refine wpAny_pyIter_dict sm da ⟨s1.heap.objs.size,[s1.heap.objs.size],[],_,rfl,fun _=>rfl,fun b q=>(nomatch q),Ev (a:=a) (kus:=kus) (ep:=ep),g2 _,gw (q1.1.1.fp q1.1.2 (Nat.le_refl _)),⟨_,Heap.get?_push_size _ rfl,rfl,rfl⟩,?_,?_⟩
  ·obtain⟨o2,es,g,r⟩:=da
   exact⟨o2,es,Heap.get?_push_of_some _ g,r⟩
  ·obtain⟨o2,es,g,r⟩:=da
   exact ((kk { cls:=.type "list" }).kp a o2 ok g).1
 ·cases q
theorem Hr (h:NE X o f)(hbase:attributeBase o "values" X.env (eval o X.env)=eval o X.env:=by rfl)(hline:(apos.endLine==cpos.line)=true:=by rfl):NI X true tg (.Call (.Attribute o "values" apos) [] [] cpos) (Cr f):=fun z s its E hz q=>by
 obtain⟨r,e1,q⟩:=Option.bind_eq_some_iff.mp q
 obtain⟨p,e2,q⟩:=Option.bind_eq_some_iff.mp q
 refine wpAny_Call_method0_late hbase hline (aB (h z s r E hz e1) fun v s1 q1=>?_)
 have d:=q1.2.fr e2
 unfold ox at q
 split at q
 ·next ks ps=>
  cases q
  obtain⟨a,kus,rfl,ok,sm,dd,zl,ek,ds⟩:=d
  obtain⟨ob,_,_,hob,hx,_⟩:=id dd
  refine⟨"dict","dict.values",PySem.F.plainAttrs_dict,PySem.F.slot_dict_values,PySem.F.type_dict_values,dd.typeIs,fun b e=>by cases e;exact⟨ob,hob,hx.2.1⟩,Calls.callWith_builtin rfl (PySem.evalArgs_none (call_meetsIn PySem.F.slot_dict_values dd.typeIs PySem.F.entry_dict_values (PySem.F.args_dict_values_1 _) (meets_dict_values (bq X.prog X.w) a sm) ⟨⟨kus,dd⟩,?_⟩))⟩
  have g1:=q1.1.trans (q1.1.1.push { cls:=.type "dict_values",data:=.fields #[.ref a] } s1.toks)
  have dd1:(s1.heap.push { cls:=.type "dict_values",data:=.fields #[.ref a] }).DictOf (bq X.prog X.w) a kus:=by
   obtain⟨o2,es,ep,g,r⟩:=dd;exact⟨o2,es,ep,Heap.get?_push_of_some _ g,r⟩
  have ds1:=ds.mono (q1.1.1.push { cls:=.type "dict_values",data:=.fields #[.ref a] } s1.toks).2.kpD
  obtain⟨ep,da⟩:=xz dd1
  refine wpAny_pyIter_values (knd:=bq X.prog X.w) (d:=a) (kvs:=kus) (ep:=ep) ⟨_,Heap.get?_push_size _ rfl,rfl,rfl⟩ da ?_
  have kk:∀o:Obj,Kp z.cn (bg X (fun b=>z.bad b\/b∈[(s1.heap.push { cls:=.type "dict_values",data:=.fields #[.ref a] }).objs.size]) z.H) (s1.heap.push { cls:=.type "dict_values",data:=.fields #[.ref a] }) ((s1.heap.push { cls:=.type "dict_values",data:=.fields #[.ref a] }).push o):=
   fun o=>vg (s1:={ s1 with heap:=s1.heap.push { cls:=.type "dict_values",data:=.fields #[.ref a] } }) g1.1 (fun b o e=>Heap.get?_push_of_some _ e) (gw (P:=fun b=>_≤b) (Nat.le_refl _))
  refine⟨_,[_],[],_,rfl,fun _=>rfl,fun b q=>(nomatch q),Dv (a:=a) (kus:=kus) (ep:=ep),g1.trans (g1.1.push _ _),gw (g1.1.fp g1.2 (Nat.le_refl _)),⟨_,Heap.get?_push_size _ rfl,rfl,rfl⟩,?_,ds1.mono (kk _),?_,rfl,rfl⟩
  ·obtain⟨o2,es,g,r⟩:=da
   exact⟨o2,es,Heap.get?_push_of_some _ g,r⟩
  ·obtain⟨o2,es,g,r⟩:=da
   exact ((kk { cls:=.type "dict_values",data:=.fields #[.ref a] }).kp a o2 ok g).1
 ·cases q
end
end Dp
end
section
namespace Dp
open PySem PySem.Spec L2 PyProof.Rows
noncomputable def Hk.or (a b:Hk):Hk where
 e:=fun G rE rB L e=>(a.e G rE rB L e).orElse fun _=>b.e G rE rB L e
 i:=fun G L f tg it=>(a.i G L f tg it).orElse fun _=>b.i G L f tg it
 b:=fun G rE rB L e=>(a.b G rE rB L e).orElse fun _=>b.b G rE rB L e
 s:=fun G rE rB rS L s=>(a.s G rE rB rS L s).orElse fun _=>b.s G rE rB rS L s
theorem Lv {α:Type}{a b:Option α}{r:α}(h:(a.orElse fun _=>b)=some r):a=some r\/b=some r:=by
 cases a with
 |none=>exact .inr h
 |some=>exact .inl h
theorem FJ {a b:Hk}(ha:HkOk a)(hb:HkOk b):HkOk (a.or b):=
 ⟨fun o h1 h2 e f h=>(Lv h).elim (ha.e o h1 h2 e f) (hb.e o h1 h2 e f),fun o h1 tg it f h=>(Lv h).elim (ha.i o h1 tg it f) (hb.i o h1 tg it f),fun o h1 h2 e f h=>(Lv h).elim (ha.b o h1 h2 e f) (hb.b o h1 h2 e f),fun o h1 h2 h3 s f h=>(Lv h).elim (ha.s o h1 h2 h3 s f) (hb.s o h1 h2 h3 s f)⟩
noncomputable def vX (f:Expr->FE):Expr->FX
 |.Dict [] [] _=>Bw
 |.Dict [some k] [v] _=>uj (f k) (f v)
 |e=>xE (f e)
noncomputable def Hj:Expr->Bool
 |.Dict _ _ _=>true
 |_=>false
section
variable {X:Cx}{k:Nat}{G:Gd}{L:Lc}{x:Str}{i:Nat}{pos:Pos}
theorem Bt {f:Expr->FE}(h:∀e,NE X e (f e))(e:Expr):NX X e (vX f e):=by
 unfold vX
 split
 ·exact HL
 ·exact Iz (h _) (h _)
 ·exact Jq (h _)
end
noncomputable def Dh (G:Gd)(rE:Lc->Expr->FE)(rB:Lc->Expr->FB)(rS:Lc->Stmt->FS)(L:Lc)(st:Stmt):Option FS:=
 match st with
  |.Assign [.Tuple [.Name x px,.Name y py] kt pt] (.Tuple [a,b] k2 pt2) pos=>
   if (L.own.contains x || L.own.contains y || L.dic.contains x || L.dic.contains y)&&(KM a || KM b || Hj a || Hj b) then match I7 L [.Name x px,.Name y py] [a,b],gB L x,gB L y with
    |some (some l),some i,some j=>if l==[x,y]&&mv a&&mv b&&i != j then some (uw i j (vX (rE L) a) (vX (rE L) b)) else none
    |_,_,_=>none
   else none
  |.Assign [.Name x p] v pos=>if Hj v then match gB L x with
    |some i=>some (yl i (vX (rE L) v))
    |none=>none
   else none
  |_=>none
noncomputable def F9:Hk where
 s:=Dh
theorem AV:HkOk F9 where
 e:=fun _ _ _ _ _ h=>by cases h
 i:=fun _ _ _ _ _ h=>by cases h
 b:=fun _ _ _ _ _ h=>by cases h
 s:=fun {X k G L rE rB rS} o hE hB hS st f h=>by
  replace h:Dh G rE rB rS L st=some f:=h
  unfold Dh at h
  split at h
  ·next x px y py kt pt a b k2 pt2 pos=>
   split at h
   ·split at h
    ·next l i j hw hi hj=>
     split at h
     ·next z=>
      cases h
      rw[Bool.and_eq_true,Bool.and_eq_true,Bool.and_eq_true,beq_iff_eq,bne_iff_ne] at z
      obtain⟨⟨⟨z0,z1⟩,z2⟩,z3⟩:=z
      rw[z0] at hw
      have s2:starEach [b] X.env=[(false,eval b X.env)]:=ig z2 [] X.env
      exact Iy o.calm (kI o hi) (kI o hj) z3 (Bt (hE o) a) (Bt (hE o) b) (by rw[ig z1 [b] X.env,s2]) (xM o hw) (by cases a<;>rfl)
     ·cases h
    ·cases h
   ·cases h
  ·next x p v pos=>
   split at h
   ·next z=>
    split at h
    ·next i hi=>
     cases h
     cases v<;>first|(cases z;done)|skip
     exact GS (kI o hi) (Bt (hE o) _) rfl
    ·cases h
   ·cases h
  ·cases h
noncomputable def Cy (G:Gd)(L:Lc)(f:Expr->FE)(tg it:Expr):Option FI:=
 match it with
  |.Name x p=>if L.dic.contains x then some (C0 (f (.Name x p))) else none
  |.Call (.Attribute (.Name x p) m ap) [] [] cp=>if m = "values"&&ap.endLine==cp.line then some (Cr (f (.Name x p))) else none
  |_=>none
noncomputable def Az (G:Gd)(rE:Lc->Expr->FE)(rB:Lc->Expr->FB)(rS:Lc->Stmt->FS)(L:Lc)(st:Stmt):Option FS:=
 match st with
  |.Assign [.Subscript (.Name x p) ix tp] v pos=>if L.dic.contains x&&hK ix&&!ER v then match slot L x with
    |some i=>some (uV i (rE L ix) (rE L v))
    |none=>none
   else none
  |_=>none
noncomputable def FC:Hk where
 i:=Cy
 s:=Az
theorem Cc:HkOk FC where
 e:=fun _ _ _ _ _ h=>by cases h
 i:=fun {X k G L f} o hf tg it g h=>by
  replace h:Cy G L f tg it=some g:=h
  unfold Cy at h
  split at h
  ·split at h
   ·cases h;exact GH (hf _)
   ·cases h
  ·split at h
   ·next z=>
    cases h
    rw[Bool.and_eq_true,decide_eq_true_eq] at z
    obtain⟨rfl,z⟩:=z
    exact Hr (hf _) rfl z
   ·cases h
  ·cases h
 b:=fun _ _ _ _ _ h=>by cases h
 s:=fun {X k G L rE rB rS} o hE hB hS st f h=>by
  replace h:Az G rE rB rS L st=some f:=h
  unfold Az at h
  split at h
  ·next x p ix tp v pos=>
   split at h
   ·next z=>
    rw[Bool.and_eq_true,Bool.and_eq_true] at z
    split at h
    ·next i hi=>
     cases h
     obtain⟨h1,h2,h3⟩:=vi o hi
     exact Hl h1 h2 (bo h3).1 (bo h3).2.1 (hE o _) (hE o _) (by cases v<;>rfl) rfl rfl (yz z.1.2)
    ·cases h
   ·cases h
  ·cases h
end Dp
end
section
namespace Dp
open PySem PySem.Spec L2 PyProof.Rows
section
variable {X:Cx}{e:Expr}{f:FE}{i:Nat}{x:Str}{pos:Pos}
noncomputable def Gm:PV->Option Bool
 |.lst ps=>some (!ps.isEmpty)
 |_=>none
noncomputable def Nh (f:FE):FB:=fun ρ=>(f ρ).bind fun r=>Gm r.pv
noncomputable def CB (o:Option Sl)(v:Option PV)(i:Nat)(ρ:aj):Out:=match o,v with
 |some (.own ps),some (.lst qs)=>if ps.length+qs.length≤100000 then .nx (ρ.set i (some (.own (ps++qs)))) else .bad
 |_,_=>.bad
noncomputable def Ll (i:Nat)(f:FE):FS:=fun ρ=>CB (sl ρ i) ((f ρ).bind RV.fr) i ρ
noncomputable def Gz:List PV->Option RV
 |[.dct ks _]=>some (.nw (ks.map IX))
 |_=>none
noncomputable def Ax (o:Option (List PV))(i j k:Nat)(ρ:aj):Out:=match o with
 |some [p,q,r]=>.nx (((ρ.set k (some (.val r))).set j (some (.val q))).set i (some (.val p)))
 |_=>.bad
noncomputable def K8 (i j k:Nat)(fs:FA):FS:=fun ρ=>Ax ((fs ρ).bind fun rs=>rs.mapM RV.fr) i j k ρ
end
end Dp
end
section
namespace Dp
open PySem L2 Fo
section
variable {i j d:Nat}{ρ:aj}{g g1 g2:FX}{f f1 fk fv fi':FE}{s t:Sl}{p v k:PV}{ps its:List PV}{ks:List fP}{bd:List (Nat×FE)}{fi:FI}{gr:List Gr}
noncomputable def F7 (o:Option Sl)(i:Nat)(ρ:aj):Out:=match o with
 |some t=>.nx (ρ.set i (some t))
 |none=>.bad
theorem cq:yl i g ρ=F7 (g ρ) i ρ:=Eq.trans rfl rfl
theorem aJ:F7 (some t) i ρ=.nx (ρ.set i (some t)):=Eq.trans rfl rfl
theorem cD:uw i j g1 g2 ρ=xf (g1 ρ) (g2 ρ) i j ρ:=Eq.trans rfl rfl
theorem aK:xf (some s) (some t) i j ρ=.nx ((ρ.set i (some s)).set j (some t)):=Eq.trans rfl rfl
theorem iT:xE f ρ=(f ρ).bind BB:=Eq.trans rfl rfl
theorem aH:BB (.fz p)=some (.val p):=Eq.trans rfl rfl
theorem aQ:BB (.nw ps)=some (.own ps):=Eq.trans rfl rfl
theorem bA:Bw ρ=some (.dic [] []):=Eq.trans rfl rfl
theorem bD:uj f f1 ρ=xR ((f ρ).bind RV.fr) ((f1 ρ).bind RV.fr):=Eq.trans rfl rfl
theorem aI:xR (some k) (some v)=(i8 k).map fun k=>.dic [k] [v]:=Eq.trans rfl rfl
theorem fG:Mq d i fi bd fk fv ρ=Ad (sl ρ d) (fi ρ) d i bd fk fv ρ:=Eq.trans rfl rfl
theorem cA:Ad (some (.dic [] [])) (some its) d i bd fk fv ρ=if its.length≤1000 then Gs (zJ i bd fk fv its (ρ.set d none) []) d else .bad:=Eq.trans rfl rfl
theorem cw:Gs (some (ρ,gr)) d=.nx (ρ.set d (some (.val (L9 gr)))):=Eq.trans rfl rfl
theorem fI:I6 [] ρ=some ρ:=Eq.trans rfl rfl
theorem fE:I6 ((i,f)::bd) ρ=((f ρ).bind RV.fr).bind fun p=>I6 bd (ρ.set i (some (.val p))):=Eq.trans rfl rfl
theorem fD:zJ i bd fk fv [] ρ gr=some (ρ,gr):=Eq.trans rfl rfl
theorem fH:zJ i bd fk fv (p::ps) ρ gr=(I6 bd (ρ.set i (some (.val p)))).bind fun ρ2=>(((fk ρ2).bind RV.fr).bind i8).bind fun k=>((fv ρ2).bind RV.fr).bind fun v=>zJ i bd fk fv ps ρ2 (Jh gr k v):=Eq.trans rfl rfl
theorem cx:Cr f ρ=(f ρ).bind fun r=>r.fr.bind ox:=Eq.trans rfl rfl
theorem aN:ox (.dct ks ps)=some ps:=Eq.trans rfl rfl
theorem cy:C0 f ρ=(f ρ).bind fun r=>r.fr.bind oj:=Eq.trans rfl rfl
theorem aL:oj (.dct ks ps)=some (ks.map IX):=Eq.trans rfl rfl
theorem fJ:L9 gr=.dct (gr.map (·.1)) (gr.map fun t=>.lst t.2):=Eq.trans rfl rfl
theorem cz:uV j fi' f ρ=xV ((f ρ).bind RV.fr) (sl ρ j) ((fi' ρ).bind RV.fr) j ρ:=Eq.trans rfl rfl
theorem aO {a:Int}:xV (some v) (some (.dic ks ps)) (some (.int a)) j ρ=if ks.length≤100000 then .nx (ρ.set j (some (.dic (ni ks (.inl a)) (m7 ks ps (.inl a) v)))) else .bad:=Eq.trans rfl rfl
theorem aM:r9 (.dic ks ps)=.ln (.dct ks ps):=Eq.trans rfl rfl
theorem bE {a:Int}:be (.dct ks ps) (.int a)=(nu ks ps (.inl a)).map .fz:=Eq.trans rfl rfl
theorem bK {a:Int}:zu (.int a) (.dct ks ps)=some (.fz (.bl (nu ks ps (.inl a)).isSome)):=Eq.trans rfl rfl
theorem aF {a:Int}:jd (.int a) (.dct ks ps)=some (.fz (.bl (!(nu ks ps (.inl a)).isSome))):=Eq.trans rfl rfl
theorem iV:Nh f ρ=(f ρ).bind fun r=>Gm r.pv:=Eq.trans rfl rfl
theorem cB:Gm (.lst ps)=some (!ps.isEmpty):=Eq.trans rfl rfl
theorem bB {k:Int}:tC (.own ps) [.int k]=if 0≤k/\k<100000 then (ps[k.toNat]?).map fun p=>(.own (ps.eraseIdx k.toNat),p) else none:=Eq.trans rfl rfl
theorem bG:Gz [.dct ks ps]=some (.nw (ks.map IX)):=Eq.trans rfl rfl
theorem cv:Ll i f ρ=CB (sl ρ i) ((f ρ).bind RV.fr) i ρ:=Eq.trans rfl rfl
theorem aG {qs:List PV}:CB (some (.own ps)) (some (.lst qs)) i ρ=if ps.length+qs.length≤100000 then .nx (ρ.set i (some (.own (ps++qs)))) else .bad:=Eq.trans rfl rfl
theorem bH:frz 0 (some (.dic ks ps)::ρ)=some (.val (.dct ks ps))::ρ:=Eq.trans rfl rfl
theorem cr {k:Nat}{fs:FA}:K8 i j k fs ρ=Ax ((fs ρ).bind fun rs=>rs.mapM RV.fr) i j k ρ:=Eq.trans rfl rfl
theorem aP {p q r:PV}{k:Nat}:Ax (some [p,q,r]) i j k ρ=.nx (((ρ.set k (some (.val r))).set j (some (.val q))).set i (some (.val p))):=Eq.trans rfl rfl
end
end Dp
end
section
namespace Dp
open PySem PySem.Spec L2 PyProof.Rows
section
variable {prog:Program}{w:World}{A:Around}{R:Result->Shared->Prop}{I:Addr}{fp wr:List Addr}{n:Nat}{P:Nat->Value->Prop}{St:Nat->Heap->Prop}
theorem Ey {E:Value->Shared->Prop}{s:Shared}{a b:Addr}{oa ob:Obj}{xr yr:List Value}{na nb:Nat}{x1 x2 y1 y2:Int}{t1 t2 u1 u2:Tok}{Q:PySem.Fin->Shared->Prop}
  (ha:s.heap.get? a=some oa) (ca:oa.cls=.type "tuple") (da:oa.data=.seq (.int x1 t1::.int x2 t2::xr).toArray na) (hb:s.heap.get? b=some ob) (cb:ob.cls=.type "tuple") (db:ob.data=.seq (.int y1 u1::.int y2 u2::yr).toArray nb) (ne:x2≠y2)
  (h:Q (.done (.ret (.bool (if x1=y1 then decide (x2<y2) else decide (x1<y1))))) s):wpAny (model prog w) A (Builtin.«tuple.__lt__» ⟨[.ref a,.ref b],[]⟩) Q E s:=by
 have lt:∀{x y:Int} {t u:Tok} {Q:Value->Shared->Prop},Q (.bool (decide (x<y))) s->wpAny (model prog w) A (richCompare .Lt (.int x t) (.int y u)) Q E s:=fun {x y t u Q} h=>richCompare_gives (op:=.Lt) (typeIs_int s _ t) (typeIs_int s _ u) F.slot_int_lt F.entry_int_lt (F.args_int_lt_2 _ _) (gives_int_lt _ _ t u) (fun x=>nomatch x) h
 show wpAny _ _ (isInstance (.ref b) (.type "tuple") >>= _) _ _ s
 refine wpAny_bind (wpAny_isInstance (T:="tuple") ⟨ob,hb,cb⟩ sub_tuple_tuple ?_)
 simp only[Bool.not_true,Bool.false_eq_true,if_false]
 refine wpAny_bind (wpAny_tupleItemsOf ha da ?_)
 refine wpAny_bind (wpAny_tupleItemsOf hb db ?_)
 simp only[List.zip_cons_cons,List.forIn_cons]
 refine wpAny_bind (wpAny_bind (wpAny_bind (wpAny_eqBool_int ?_)))
 by_cases e:x1=y1
 ·rw[if_pos e] at h
  rw[show (x1==y1)=true by rw[e];exact beq_self_eq_true _]
  simp only[Bool.not_true,Bool.false_eq_true,if_false]
  refine wpAny_pure ?_
  simp only[List.zip_cons_cons,List.forIn_cons]
  refine wpAny_bind (wpAny_bind (wpAny_eqBool_int ?_))
  rw[show (x2==y2)=false from beq_eq_false_iff_ne.mpr ne]
  simp only[Bool.not_false,if_true]
  refine wpAny_bind (wpAny_rule (wpAny_bind (lt (wpAny_bind (wpAny_pure (wpAny_pure (wpAny_pure (wpAny_pure h))))))))
 ·rw[if_neg e] at h
  rw[show (x1==y1)=false from beq_eq_false_iff_ne.mpr e]
  simp only[Bool.not_false,if_true]
  refine wpAny_bind (wpAny_rule (wpAny_bind (lt (wpAny_bind (wpAny_pure (wpAny_pure (wpAny_pure (wpAny_pure h))))))))
end
end Dp
end
section
namespace Dp
open PySem PySem.Spec L2 PyProof.Rows
section
variable {X:Cx}
noncomputable def Ky:List PV->Option RV
 |[p]=>(items p).bind fun ps=>(dG ps).bind fun is=>if is.length=0 then none else some (.fz (.int (qg is)))
 |_=>none
noncomputable def L5:PV->Option (Int×Int)
 |.tup (.int a::.int b::_)=>some (a,b)
 |_=>none
noncomputable def Ap:List PV->Option (List (Int×Int))
 |[]=>some []
 |p::ps=>(L5 p).bind fun k=>(Ap ps).map fun ks=>k::ks
noncomputable def MV (ks:List (Int×Int))(i j:Nat):Bool:=if (ks.getD i (0,0)).1=(ks.getD j (0,0)).1 then decide ((ks.getD i (0,0)).2<(ks.getD j (0,0)).2) else decide ((ks.getD i (0,0)).1<(ks.getD j (0,0)).1)
noncomputable def KR:List PV->Option RV
 |[p]=>(kn p).bind fun ps=>(Ap ps).bind fun ks=>if 0<ks.length/\(ks.map (·.2)).Nodup then some (.fz (ps.getD (argBest (MV ks) (ks.length - 1)) .non)) else none
 |_=>none
noncomputable def As:List PV->Option PV->Option RV
 |[p],some d=>(items p).bind fun ps=>(dG ps).bind fun is=>some (.fz (if is.length=0 then d else .int (qg is)))
 |_,_=>none
noncomputable def Jr (fs:FA)(g:FE):FE:=fun ρ=>(fs ρ).bind fun rs=>(g ρ).bind fun r2=>As (rs.map RV.pv) r2.fr
end
end Dp
end
section
namespace Dp
open PySem L2 Fo
section
variable {ρ:aj}{g:FE}{fs:FA}{p d:PV}
theorem cu:Jr fs g ρ=(fs ρ).bind fun rs=>(g ρ).bind fun r2=>As (rs.map RV.pv) r2.fr:=Eq.trans rfl rfl
theorem bC:As [p] (some d)=(items p).bind fun ps=>(dG ps).bind fun is=>some (.fz (if is.length=0 then d else .int (qg is))):=Eq.trans rfl rfl
theorem bI:Ky [p]=(items p).bind fun ps=>(dG ps).bind fun is=>if is.length=0 then none else some (.fz (.int (qg is))):=Eq.trans rfl rfl
theorem bF:KR [p]=(kn p).bind fun ps=>(Ap ps).bind fun ks=>if 0<ks.length/\(ks.map (·.2)).Nodup then some (.fz (ps.getD (argBest (MV ks) (ks.length - 1)) .non)) else none:=Eq.trans rfl rfl
end
end Dp
end
section
namespace Dp
open PySem L2
noncomputable def jI (ρ:aj):Out:=(bz (jT (fB tG (aa (fV 0) (aa (fC (.ty "int")) ag))) (rj (xh (fB tG (aa (fV 0) (aa (fC (.ty "bool")) ag))))))) ρ
noncomputable def bX:List PV->Option PR:=run 1 1 jI
theorem tF {a0:PV}:bX [a0]=(jI [some (.val a0)]).res:=Eq.trans rfl rfl
noncomputable def ku (ρ:aj):Out:=(bz (jT (av bX (aa (fV 0) ag)) (rj (FG Ld Ld (fC (.int 1)) (fV 0) (fC (.int 40)))))) ρ
noncomputable def gX:List PV->Option PR:=run 1 1 ku
theorem uc {a0:PV}:gX [a0]=(ku [some (.val a0)]).res:=Eq.trans rfl rfl
noncomputable def jJ (ρ:aj):Out:=(bz (jT (av bX (aa (fV 1) ag)) (rj (FG Ld Ik (fC (.int 0)) (fV 1) (fV 0))))) ρ
noncomputable def fZ:List PV->Option PR:=run 2 2 jJ
theorem se {a0 a1:PV}:fZ [a0,a1]=(jJ [some (.val a0),some (.val a1)]).res:=Eq.trans rfl rfl
noncomputable def eB (ρ:aj):Out:=(ai (az 3 (ah bO (ah de (ah de (ah iM (fV 3) (ah de (ah bO (fV 3) (fC (.int 65521))) (fC (.int 40487)))) (ah iM (fC (.int 7)) (fV 5))) (fC (.int 5))) (fC (.int 1999999973))))
  (ai (vx mL 2 (aa (ah be (iK (aa (fV 3) (aa (ah bO (fV 4) (fC (.int 1000000))) ag))) (fB wj (aa (ah IT (fV 4) (fC (.int 0))) ag))) ag))
  (az 4 (ah kO (fV 4) (fC (.int 1000000)))))) ρ
noncomputable def dz (ρ:aj):Out:=(ai (kb 2 (iK ag))
  (ai (az 3 (ah bO (ah iM (ah de (ah bO (fV 0) (fC (.int 1999999973))) (fC (.int 31))) (fC (.int 765432101))) (fC (.int 1999999973))))
  (ai (az 4 (fC (.int 0)))
  (ai (jZ (uP (fT (ah Ik (fV 0) (fC (.int 0)))) (fT (ah J1 (fV 0) (ah HU (fC (.int 10)) (fC (.int 18)))))) (az 4 (fB Bm (aa (fV 0) ag))) bu)
  (ai (jt (kN lq (aa (fV 1) ag)) (gN 5) eB)
  (lZ 2)))))) ρ
noncomputable def aw:List PV->Option PR:=run 2 6 dz
theorem gH {a0 a1:PV}:aw [a0,a1]=(dz [some (.val a0),some (.val a1),none,none,none,none]).res:=Eq.trans rfl rfl
noncomputable def gt (ρ:aj):Out:=(az 2 (ah bO (ah de (ah iM (fV 2) (fC (.int 69621))) (fV 3)) (fC (.int 2147483647)))) ρ
noncomputable def hO (ρ:aj):Out:=(ai (jZ (fT (ah Ik (fV 1) (fB j8 (aa (fV 0) ag)))) (bz (ah be (fV 0) (fV 1))) bu)
  (ai (az 2 (ah bO (ah iM (fC (.int 48271)) (ah de (ah de (ah iM (fV 1) (fV 1)) (ah iM (fC (.int 7)) (fV 1))) (fC (.int 11)))) (fC (.int 2147483647))))
  (ai (jt (m8 (CY (fV 0) zX (zW (fC (.int 3))))) (gN 3) gt)
  (lZ 2)))) ρ
noncomputable def aD:List PV->Option PR:=run 2 4 hO
theorem ld {a0 a1:PV}:aD [a0,a1]=(hO [some (.val a0),some (.val a1),none,none]).res:=Eq.trans rfl rfl
noncomputable def dY (ρ:aj):Out:=(ai (az 7 (CY (av aw (aa (av aD (aa (fV 0) (aa (ah de (ah de (fV 1) (fC (.int 1))) (ah kO (fV 6) (fC (.int 5)))) ag))) (aa (fC (.int 20)) ag))) (zW (ah iM (fC (.int 4)) (ah bO (fV 6) (fC (.int 5))))) zX))
  (ai (qh 8 9 (aa (ah bO (ah be (fV 7) (fC (.int 0))) (fV 2)) (aa (ah bO (ah be (fV 7) (fC (.int 1))) (fV 2)) ag)))
  (ai (jZ (fT (ah mQ (ah bO (ah be (fV 4) (fC (.int 1))) (fC (.int 4))) (fC (.int 1)))) (qh 8 9 (aa (ah bO (fV 6) (fV 2)) (aa (ah bO (ah de (fV 6) (fC (.int 1))) (fV 2)) ag))) bu)
  (ai (jZ (jv (fT (ah mQ (ah bO (ah be (fV 4) (fC (.int 1))) (fC (.int 4))) (fC (.int 2)))) (fT (ah IT (ah bO (ah be (fV 7) (fC (.int 2))) (fC (.int 3))) (fC (.int 0))))) (ai (az 8 (ah bO (ah iM (ah kO (fV 8) (fC (.int 2))) (fC (.int 2))) (fV 2)))
  (az 9 (fB nr (aa (ah zw (fV 2) (fC (.int 1))) (aa (ah de (fV 8) (fC (.int 1))) ag))))) bu)
  (ai (jZ (jv (fT (ah oR (fV 5) (iK ag))) (fT (ah mQ (ah bO (ah be (fV 7) (fC (.int 2))) (fC (.int 7))) (fC (.int 1))))) (iU (ah be (fV 5) (ah bO (ah be (fV 7) (fC (.int 3))) (fB j8 (aa (fV 5) ag)))) (jm 2 (gC (gN 8) (gC (gN 9) g0)))) bu)
  (vx mL 5 (aa (ah be (iK (aa (cJ (aa (fV 8) (aa (fV 9) ag))) (aa (cJ (aa (fV 9) (aa (fV 8) ag))) ag))) (ah bO (ah kO (ah be (fV 7) (fC (.int 2))) (fC (.int 7))) (fC (.int 2)))) ag))))))) ρ
noncomputable def iE (ρ:aj):Out:=(ai (az 4 (av aw (aa (av aD (aa (fV 0) (aa (fV 1) ag))) (aa (fC (.int 4)) ag))))
  (ai (kb 5 (iK ag))
  (ai (jt (kN lq (aa (ah bO (ah be (fV 4) (fC (.int 0))) (ah de (fV 3) (fC (.int 1)))) ag)) (gN 6) dY)
  (bz (fB lI (aa (fV 5) ag)))))) ρ
noncomputable def fx:List PV->Option PR:=run 4 10 iE
theorem pD {a0 a1 a2 a3:PV}:fx [a0,a1,a2,a3]=(iE [some (.val a0),some (.val a1),some (.val a2),some (.val a3),none,none,none,none,none,none]).res:=Eq.trans rfl rfl
noncomputable def g9 (ρ:aj):Out:=(bz (ah be (iK (aa (ah de (fC (.int 1)) (ah bO (ah kO (fV 0) (fC (.int 8))) (fC (.int 12)))) (aa (ah de (fC (.int 1)) (ah bO (ah kO (fV 0) (fC (.int 8))) (fC (.int 40)))) ag))) (fB wj (aa (ah mQ (ah bO (fV 0) (fC (.int 8))) (fC (.int 3))) ag)))) ρ
noncomputable def ic:List PV->Option PR:=run 1 1 g9
theorem kT {a0:PV}:ic [a0]=(g9 [some (.val a0)]).res:=Eq.trans rfl rfl
noncomputable def fg (ρ:aj):Option Bool:=(fT (ah oR (ah be (fV 0) (fV 2)) (fV 2))) ρ
noncomputable def gD (ρ:aj):Out:=(ai (az 2 (ah be (fV 0) (fV 2)))
  (nE (fun a b=>a+b) 3 (fC (.int 1)))) ρ
noncomputable def je (ρ:aj):Out:=(ai (az 2 (fV 1))
  (ai (az 3 (fC (.int 0)))
  (ai (g6 fg gD)
  (bz (cJ (aa (fV 2) (aa (fV 3) ag))))))) ρ
noncomputable def aE:List PV->Option PR:=run 2 4 je
theorem qD {a0 a1:PV}:aE [a0,a1]=(je [some (.val a0),some (.val a1),none,none]).res:=Eq.trans rfl rfl
noncomputable def dX (ρ:aj):Option Bool:=(fT (ah oR (ah be (fV 0) (fV 2)) (fV 2))) ρ
noncomputable def fR (ρ:aj):Out:=(ai (az 2 (ah be (fV 0) (fV 2)))
  (nE (fun a b=>a+b) 3 (fC (.int 1)))) ρ
noncomputable def iG (ρ:aj):Out:=(ai (az 2 (fV 1))
  (ai (az 3 (fC (.int 0)))
  (ai (g6 dX fR)
  (bz (cJ (aa (fV 2) (aa (fV 3) ag))))))) ρ
noncomputable def fw:oI:=r6 2 4 iG
noncomputable def n5 (ρ:aj):Option Bool:=(fT (ah oR (fV 4) (fV 2))) ρ
noncomputable def nW (ρ:aj):Out:=(ai (az 5 (ah be (fV 0) (fV 4)))
  (ai (lD 0 (fV 4) (fV 2))
  (az 4 (fV 5)))) ρ
noncomputable def pS (ρ:aj):Out:=(ai (iU (av aE (aa (fV 0) (aa (fV 1) ag))) (jm 2 (gC (gN 2) (gC (gN 3) g0))))
  (ai (az 4 (fV 1))
  (ai (g6 n5 nW)
  (bz (cJ (aa (fV 2) (aa (fV 3) ag))))))) ρ
noncomputable def sF:List PV->Option PR:=run 2 6 pS
noncomputable def dm (ρ:aj):Option Bool:=(fT (ah oR (fV 4) (fV 2))) ρ
noncomputable def fu (ρ:aj):Out:=(ai (az 5 (ah be (fV 0) (fV 4)))
  (ai (lD 0 (fV 4) (fV 2))
  (az 4 (fV 5)))) ρ
noncomputable def ik (ρ:aj):Out:=(ai (iU (av aE (aa (fV 0) (aa (fV 1) ag))) (jm 2 (gC (gN 2) (gC (gN 3) g0))))
  (ai (az 4 (fV 1))
  (ai (g6 dm fu)
  (bz (cJ (aa (fV 2) (aa (fV 3) ag))))))) ρ
noncomputable def d0:oI:=r6 2 6 ik
noncomputable def mD (ρ:aj):Option Bool:=(fT (ah oR (ah be (fV 0) (fV 2)) (fV 2))) ρ
noncomputable def mI (ρ:aj):Out:=(ai (lD 0 (fV 2) (ah be (fV 0) (ah be (fV 0) (fV 2))))
  (ai (az 2 (ah be (fV 0) (fV 2)))
  (nE (fun a b=>a+b) 3 (fC (.int 1))))) ρ
noncomputable def nP (ρ:aj):Out:=(ai (az 2 (fV 1))
  (ai (az 3 (fC (.int 0)))
  (ai (g6 mD mI)
  (bz (cJ (aa (fV 2) (aa (fV 3) ag))))))) ρ
noncomputable def qk:List PV->Option PR:=run 2 4 nP
noncomputable def cL (ρ:aj):Option Bool:=(fT (ah oR (ah be (fV 0) (fV 2)) (fV 2))) ρ
noncomputable def eD (ρ:aj):Out:=(ai (lD 0 (fV 2) (ah be (fV 0) (ah be (fV 0) (fV 2))))
  (ai (az 2 (ah be (fV 0) (fV 2)))
  (nE (fun a b=>a+b) 3 (fC (.int 1))))) ρ
noncomputable def gY (ρ:aj):Out:=(ai (az 2 (fV 1))
  (ai (az 3 (fC (.int 0)))
  (ai (g6 cL eD)
  (bz (cJ (aa (fV 2) (aa (fV 3) ag))))))) ρ
noncomputable def dD:oI:=r6 2 4 gY
noncomputable def mx (ρ:aj):Option Bool:=(fT (ah oR (ah be (fV 0) (fV 2)) (fV 2))) ρ
noncomputable def mY (ρ:aj):Out:=(ai (az 4 (ah be (fV 0) (fV 2)))
  (ai (lD 0 (fV 2) (ah be (fV 0) (fV 4)))
  (ai (az 2 (fV 4))
  (nE (fun a b=>a+b) 3 (fC (.int 1)))))) ρ
noncomputable def nM (ρ:aj):Out:=(ai (az 2 (fV 1))
  (ai (az 3 (fC (.int 0)))
  (ai (g6 mx mY)
  (bz (cJ (aa (fV 2) (aa (fV 3) ag))))))) ρ
noncomputable def qL:List PV->Option PR:=run 2 5 nM
noncomputable def cW (ρ:aj):Option Bool:=(fT (ah oR (ah be (fV 0) (fV 2)) (fV 2))) ρ
noncomputable def eG (ρ:aj):Out:=(ai (az 4 (ah be (fV 0) (fV 2)))
  (ai (lD 0 (fV 2) (ah be (fV 0) (fV 4)))
  (ai (az 2 (fV 4))
  (nE (fun a b=>a+b) 3 (fC (.int 1)))))) ρ
noncomputable def gP (ρ:aj):Out:=(ai (az 2 (fV 1))
  (ai (az 3 (fC (.int 0)))
  (ai (g6 cW eG)
  (bz (cJ (aa (fV 2) (aa (fV 3) ag))))))) ρ
noncomputable def di:oI:=r6 2 5 gP
noncomputable def sJ (ρ:aj):Out:=(ai (iU (av aE (aa (fV 0) (aa (fV 1) ag))) (jm 2 (gC (gN 2) (gC (gN 3) g0))))
  (ai (lD 0 (fV 1) (ah be (fV 0) (ah be (fV 0) (fV 1))))
  (bz (cJ (aa (fV 2) (aa (fV 3) ag)))))) ρ
noncomputable def vY:List PV->Option PR:=run 2 4 sJ
noncomputable def jh (ρ:aj):Out:=(ai (iU (av aE (aa (fV 0) (aa (fV 1) ag))) (jm 2 (gC (gN 2) (gC (gN 3) g0))))
  (ai (lD 0 (fV 1) (ah be (fV 0) (ah be (fV 0) (fV 1))))
  (bz (cJ (aa (fV 2) (aa (fV 3) ag)))))) ρ
noncomputable def gk:oI:=r6 2 4 jh
noncomputable def j0 (ρ:aj):Out:=(ai (kb 3 (fB jR (aa (fV 0) ag)))
  (ai (az 4 (ah be (fC (.dct [.inr "none",.inr "whole",.inr "halves",.inr "splits",.inr "one"] [.fn "find_none",.fn "find_whole",.fn "find_halves",.fn "find_splits",.fn "find_one"])) (fV 1)))
  (ai (oW [("find_none",fw),("find_whole",d0),("find_halves",dD),("find_splits",di),("find_one",gk)] 4 3 (aa (fV 2) ag) (jm 2 (gC (gN 5) (gC (gN 6) g0))))
  (bz (cJ (aa (fV 5) (aa (fB lI (aa (fV 3) ag)) (aa (fV 6) ag)))))))) ρ
noncomputable def gS:List PV->Option PR:=run 3 7 j0
theorem uM {a0 a1 a2:PV}:gS [a0,a1,a2]=(j0 [some (.val a0),some (.val a1),some (.val a2),none,none,none,none]).res:=Eq.trans rfl rfl
noncomputable def lf (ρ:aj):Out:=(bz (fB lI (aa (fB jR (aa (fV 0) ag)) ag))) ρ
noncomputable def jz:List PV->Option PR:=run 1 1 lf
theorem wA {a0:PV}:jz [a0]=(lf [some (.val a0)]).res:=Eq.trans rfl rfl
noncomputable def i9 (ρ:aj):Out:=(ai (iU (fV 0) (jm 4 (gC (gN 2) (gC (gN 3) (gC (gN 4) (gC (gN 5) g0))))))
  (ai (iU (av gS (aa (fV 4) (aa (fV 3) (aa (fV 1) ag)))) (jm 3 (gC (gN 6) (gC (gN 7) (gC (gN 8) g0)))))
  (bz (cJ (aa (cJ (aa (fV 2) (aa (fV 3) (aa (fV 7) (aa (av jz (aa (fV 5) ag)) ag))))) (aa (fV 6) (aa (fV 8) ag))))))) ρ
noncomputable def eY:List PV->Option PR:=run 2 9 i9
theorem qF {a0 a1:PV}:eY [a0,a1]=(i9 [some (.val a0),some (.val a1),none,none,none,none,none,none,none]).res:=Eq.trans rfl rfl
noncomputable def cF (ρ:aj):Out:=(ai (jZ (fT (ah mQ (fV 0) (fC (.str "told")))) (bz (fC (.bl true))) bu)
  (ai (jZ (fT (ah mQ (fV 0) (fC (.str "names")))) (bz (ah Ik (fV 2) (fV 3))) bu)
  (bz (ah J1 (ah be (fV 1) (fV 2)) (ah be (fV 1) (fV 3)))))) ρ
noncomputable def d8:List PV->Option PR:=run 4 4 cF
theorem fX {a0 a1 a2 a3:PV}:d8 [a0,a1,a2,a3]=(cF [some (.val a0),some (.val a1),some (.val a2),some (.val a3)]).res:=Eq.trans rfl rfl
noncomputable def bW (ρ:aj):Out:=(ai (jZ (fT (ah mQ (fV 0) (fC (.str "size")))) (bz (ah de (fV 1) (fV 2))) bu)
  (ai (jZ (jv (fT (ah mQ (fV 0) (fC (.str "rank")))) (fT (ah mQ (fV 1) (fV 2)))) (bz (ah de (fV 1) (fC (.int 1)))) bu)
  (lZ 1))) ρ
noncomputable def d4:List PV->Option PR:=run 3 3 bW
theorem dR {a0 a1 a2:PV}:d4 [a0,a1,a2]=(bW [some (.val a0),some (.val a1),some (.val a2)]).res:=Eq.trans rfl rfl
noncomputable def ci (ρ:aj):Out:=(ai (iU (fV 0) (jm 4 (gC (gN 3) (gC (gN 4) (gC (gN 5) (gC (gN 6) g0))))))
  (ai (az 7 (av d8 (aa (fV 3) (aa (fV 6) (aa (fV 1) (aa (fV 2) ag))))))
  (ai (iU (IW (fT (fV 7)) (cJ (aa (fV 1) (aa (fV 2) ag))) (cJ (aa (fV 2) (aa (fV 1) ag)))) (jm 2 (gC (gN 8) (gC (gN 9) g0))))
  (ai (kb 10 (fB jR (aa (fV 5) ag)))
  (ai (lD 10 (fV 9) (fV 8))
  (ai (kb 11 (fB jR (aa (fV 6) ag)))
  (ai (lD 11 (fV 8) (av d4 (aa (fV 3) (aa (ah be (fV 6) (fV 8)) (aa (ah be (fV 6) (fV 9)) ag)))))
  (bz (cJ (aa (fV 3) (aa (fV 4) (aa (fB lI (aa (fV 10) ag)) (aa (fB lI (aa (fV 11) ag)) ag))))))))))))) ρ
noncomputable def bv:List PV->Option PR:=run 3 12 ci
theorem gG {a0 a1 a2:PV}:bv [a0,a1,a2]=(ci [some (.val a0),some (.val a1),some (.val a2),none,none,none,none,none,none,none,none,none]).res:=Eq.trans rfl rfl
noncomputable def g8 (ρ:aj):Out:=(ai (iU (av eY (aa (fV 0) (aa (fV 1) ag))) (jm 3 (gC (gN 3) (gC (gN 4) (gC (gN 5) g0)))))
  (ai (iU (av eY (aa (fV 3) (aa (fV 2) ag))) (jm 3 (gC (gN 6) (gC (gN 7) (gC (gN 8) g0)))))
  (ai (az 9 (ah de (fV 5) (fV 8)))
  (ai (jZ (fT (ah mQ (fV 4) (fV 7))) (bz (cJ (aa (fV 6) (aa (fC (.bl false)) (aa (fV 9) ag))))) bu)
  (bz (cJ (aa (av bv (aa (fV 6) (aa (fV 4) (aa (fV 7) ag)))) (aa (fC (.bl true)) (aa (fV 9) ag))))))))) ρ
noncomputable def e9:List PV->Option PR:=run 3 10 g8
theorem kZ {a0 a1 a2:PV}:e9 [a0,a1,a2]=(g8 [some (.val a0),some (.val a1),some (.val a2),none,none,none,none,none,none,none]).res:=Eq.trans rfl rfl
noncomputable def gv (ρ:aj):Out:=(jZ (i4 (fT (av gX (aa (fV 0) ag)))) bZ bu) ρ
noncomputable def cP:List PV->Option PR:=run 1 1 gv
theorem kj {a0:PV}:cP [a0]=(gv [some (.val a0)]).res:=Eq.trans rfl rfl
noncomputable def d9 (ρ:aj):Out:=(bz (jT (fB tG (aa (fV 0) (aa (fC (.ty "str")) ag))) (rj (ah zu (fV 0) (fC (.ktu [.str "size",.str "rank",.str "told",.str "names"])))))) ρ
noncomputable def bw:List PV->Option PR:=run 1 1 d9
theorem jW {a0:PV}:bw [a0]=(d9 [some (.val a0)]).res:=Eq.trans rfl rfl
noncomputable def iF (ρ:aj):Out:=(jZ (i4 (fT (av bw (aa (fV 0) ag)))) bZ bu) ρ
noncomputable def gE:List PV->Option PR:=run 1 1 iF
theorem pJ {a0:PV}:gE [a0]=(iF [some (.val a0)]).res:=Eq.trans rfl rfl
noncomputable def jM (ρ:aj):Out:=(bz (jT (fB tG (aa (fV 0) (aa (fC (.ty "str")) ag))) (rj (ah zu (fV 0) (fC (.dct [.inr "none",.inr "whole",.inr "halves",.inr "splits",.inr "one"] [.fn "find_none",.fn "find_whole",.fn "find_halves",.fn "find_splits",.fn "find_one"])))))) ρ
noncomputable def gL:List PV->Option PR:=run 1 1 jM
theorem sZ {a0:PV}:gL [a0]=(jM [some (.val a0)]).res:=Eq.trans rfl rfl
noncomputable def im (ρ:aj):Out:=(jZ (i4 (fT (av gL (aa (fV 0) ag)))) bZ bu) ρ
noncomputable def d6:List PV->Option PR:=run 1 1 im
theorem nR {a0:PV}:d6 [a0]=(im [some (.val a0)]).res:=Eq.trans rfl rfl
noncomputable def ji (ρ:aj):Out:=(ai (i6 (av cP (aa (fV 0) ag)))
  (ai (i6 (av gE (aa (fV 1) ag)))
  (ai (i6 (av d6 (aa (fV 2) ag)))
  (ai (az 3 (IW (fT (ah mQ (fV 1) (fC (.str "size")))) (fC (.int 1)) (fC (.int 0))))
  (bz (cJ (aa (fV 1) (aa (fV 2) (aa (fB rp (aa (fB tS (aa (fV 0) ag)) ag)) (aa (ah iM (cJ (aa (fV 3) ag)) (fV 0)) ag)))))))))) ρ
noncomputable def gn:List PV->Option PR:=run 3 4 ji
theorem qy {a0 a1 a2:PV}:gn [a0,a1,a2]=(ji [some (.val a0),some (.val a1),some (.val a2),none]).res:=Eq.trans rfl rfl
noncomputable def gA (ρ:aj):Option RV:=(cJ (aa (fV 0) ag)) ρ
noncomputable def cN (ρ:aj):Option Bool:=(fT (ah zu (fV 1) (fV 0))) ρ
noncomputable def aC (ρ:aj):Option RV:=(fV 0) ρ
noncomputable def eI (ρ:aj):Option Bool:=(fT (ah jd (fV 0) (cJ (aa (fV 1) (aa (fV 2) ag))))) ρ
noncomputable def eA (ρ:aj):Out:=(ai (az 5 (ah be (cU [none,some 3] (m8 (fV 2)) (gN 0) cN aC) (fC (.int 0))))
  (ai (az 6 (ah be (cU [none,some 4] (m8 (fV 2)) (gN 0) cN aC) (fC (.int 0))))
  (jZ (fT (ah oR (fV 5) (fV 6))) (az 2 (ah de (cU [none,some 5,some 6] (m8 (fV 2)) (gN 0) eI aC) (iK (aa (fB lI (aa (fB iq (aa (ah de (fV 5) (fV 6)) ag)) ag)) ag)))) bu))) ρ
noncomputable def gM (ρ:aj):Out:=(ai (az 2 (cU [none] (kN lq (aa (fV 0) ag)) (gN 0) gj gA))
  (ai (jt (m8 (fV 1)) (jm 2 (gC (gN 3) (gC (gN 4) g0))) eA)
  (bz (fB iu (aa (fV 2) ag))))) ρ
noncomputable def bp:List PV->Option PR:=run 2 7 gM
theorem mN {a0 a1:PV}:bp [a0,a1]=(gM [some (.val a0),some (.val a1),none,none,none,none,none]).res:=Eq.trans rfl rfl
noncomputable def kc (ρ:aj):Out:=(ai (jZ (uP (i4 (fT (fB tG (aa (fV 1) (aa (fC (.ty "tuple")) ag))))) (fT (ah oR (fB j8 (aa (fV 1) ag)) (fC (.int 2))))) (bz (fC (.bl false))) bu)
  (bz (jT (av fZ (aa (fV 0) (aa (ah be (fV 1) (fC (.int 0))) ag))) (rj (av fZ (aa (fV 0) (aa (ah be (fV 1) (fC (.int 1))) ag))))))) ρ
noncomputable def iz:List PV->Option PR:=run 2 2 kc
theorem uv {a0 a1:PV}:iz [a0,a1]=(kc [some (.val a0),some (.val a1)]).res:=Eq.trans rfl rfl
noncomputable def ck (ρ:aj):Out:=(jZ (fT (ah oR (ah be (ah be (fV 7) (fC (.int 2))) (fV 10)) (ah be (ah be (fV 2) (fC (.int 2))) (fV 10)))) (lD 3 (fV 10) (fV 4)) bu) ρ
noncomputable def ez (ρ:aj):Out:=(ai (iU (av e9 (aa (fV 2) (aa (fV 5) (aa (fV 6) ag)))) (jm 3 (gC (gN 7) (gC (gN 8) (gC (gN 9) g0)))))
  (ai (jt (kN lq (aa (fV 0) ag)) (gN 10) ck)
  (az 2 (fV 7)))) ρ
noncomputable def eP (ρ:aj):Out:=(ai (az 2 (av gn (aa (fV 0) (aa (fC (.str "size")) (aa (fC (.str "none")) ag)))))
  (ai (kb 3 (ah iM (iK (aa (fC .non) ag)) (fV 0)))
  (ai (jt (np (aa (fV 1) ag)) (jm 2 (gC (gN 4) (gC (jm 2 (gC (gN 5) (gC (gN 6) g0))) g0))) ez)
  (bz (cJ (aa (ah be (fV 2) (fC (.int 2))) (aa (fB lI (aa (fV 3) ag)) ag))))))) ρ
noncomputable def bN:List PV->Option PR:=run 2 11 eP
theorem kx {a0 a1:PV}:bN [a0,a1]=(eP [some (.val a0),some (.val a1),none,none,none,none,none,none,none,none,none]).res:=Eq.trans rfl rfl
noncomputable def eJ (ρ:aj):Option Bool:=(fT (ah zu (fV 0) (fV 1))) ρ
noncomputable def eC (ρ:aj):Option RV:=(fV 0) ρ
noncomputable def gO (ρ:aj):Out:=(ai (az 2 (ah be (av bN (aa (fV 0) (aa (fV 1) ag))) (fC (.int 1))))
  (bz (cU [none,some 2] (kN lq (aa (fB j8 (aa (fV 1) ag)) ag)) (gN 0) eJ eC))) ρ
noncomputable def dB:List PV->Option PR:=run 2 3 gO
theorem mF {a0 a1:PV}:dB [a0,a1]=(gO [some (.val a0),some (.val a1),none]).res:=Eq.trans rfl rfl
noncomputable def eZ (ρ:aj):Out:=(ai (az 9 (av aw (aa (av aD (aa (fV 0) (aa (ah de (ah de (fV 1) (fC (.int 21))) (ah kO (fV 8) (fC (.int 10)))) ag))) (aa (fC (.int 10)) ag))))
  (vx mL 7 (aa (ah de (ah be (fV 5) (fV 8)) (cJ (aa (ah bO (ah kO (ah be (fV 9) (ah bO (fV 8) (fC (.int 10)))) (fC (.int 3))) (ah be (iK (aa (fC (.int 1)) (aa (fC (.int 3)) (aa (fC (.int 12)) (aa (fV 4) ag))))) (ah bO (ah be (fV 6) (fC (.int 0))) (fC (.int 4))))) ag))) ag))) ρ
noncomputable def jf (ρ:aj):Out:=(ai (az 5 (av fx (aa (fV 0) (aa (fV 1) (aa (fV 2) (aa (fV 3) ag))))))
  (ai (az 6 (av aw (aa (av aD (aa (fV 0) (aa (ah de (fV 1) (fC (.int 20))) ag))) (aa (fC (.int 3)) ag))))
  (ai (kb 7 (iK ag))
  (ai (jt (kN lq (aa (fB j8 (aa (fV 5) ag)) ag)) (gN 8) eZ)
  (bz (fB lI (aa (fV 7) ag))))))) ρ
noncomputable def dF:List PV->Option PR:=run 5 10 jf
theorem qH {a0 a1 a2 a3 a4:PV}:dF [a0,a1,a2,a3,a4]=(jf [some (.val a0),some (.val a1),some (.val a2),some (.val a3),some (.val a4),none,none,none,none,none]).res:=Eq.trans rfl rfl
noncomputable def iH (ρ:aj):Out:=(ai (jZ (uP (i4 (fT (fB tG (aa (fV 1) (aa (fC (.ty "tuple")) ag))))) (fT (ah oR (fB j8 (aa (fV 1) ag)) (fC (.int 3))))) (bz (fC (.bl false))) bu)
  (bz (jT (av iz (aa (fV 0) (aa (CY (fV 1) zX (zW (fC (.int 2)))) ag))) (rj (av bX (aa (ah be (fV 1) (fC (.int 2))) ag)))))) ρ
noncomputable def ft:List PV->Option PR:=run 2 2 iH
theorem oK {a0 a1:PV}:ft [a0,a1]=(iH [some (.val a0),some (.val a1)]).res:=Eq.trans rfl rfl
noncomputable def lC (ρ:aj):Out:=(bz (jT (av ft (aa (fV 0) (aa (fV 1) ag))) (rj (ah J1 (ah be (fV 1) (fC (.int 2))) (fC (.int 0)))))) ρ
noncomputable def jr:List PV->Option PR:=run 2 2 lC
theorem wF {a0 a1:PV}:jr [a0,a1]=(lC [some (.val a0),some (.val a1)]).res:=Eq.trans rfl rfl
noncomputable def gq (ρ:aj):Out:=(jZ (i4 (fT (oB [("is_tie",jr)] 2 (aa (fV 0) (aa (fV 4) ag))))) bZ bu) ρ
noncomputable def gZ (ρ:aj):Out:=(ai (jZ (i4 (fT (fB tG (aa (fV 1) (aa (fC (.ty "tuple")) ag))))) bZ bu)
  (jt (np (aa (fV 1) ag)) (jm 2 (gC (gN 3) (gC (gN 4) g0))) gq)) ρ
noncomputable def dn:List PV->Option PR:=run 3 5 gZ
theorem mE {a0 a1 a2:PV}:dn [a0,a1,a2]=(gZ [some (.val a0),some (.val a1),some (.val a2),none,none]).res:=Eq.trans rfl rfl
noncomputable def jl (ρ:aj):Out:=(ai (i6 (av cP (aa (fV 0) ag)))
  (i6 (av dn (aa (fV 0) (aa (fV 1) (aa (fC (.fn "is_tie")) ag)))))) ρ
noncomputable def gm:List PV->Option PR:=run 2 2 jl
theorem qj {a0 a1:PV}:gm [a0,a1]=(jl [some (.val a0),some (.val a1)]).res:=Eq.trans rfl rfl
noncomputable def br (ρ:aj):Out:=(jZ (jv (fT (ah mQ (fV 8) (fV 6))) (fT (ah jd (fV 9) (fV 4)))) (ai (uV 4 (fV 9) (ah de (ah be (fV 4) (fV 8)) (cJ (aa (fV 7) ag))))
  (vx mL 5 (aa (fV 9) ag))) bu) ρ
noncomputable def bV (ρ:aj):Out:=(jt (m8 (iK (aa (CY (ah be (fV 0) (fV 7)) zX (zW (fC (.int 2)))) (aa (BJ (CY (ah be (fV 0) (fV 7)) zX (zW (fC (.int 2))))) ag)))) (jm 2 (gC (gN 8) (gC (gN 9) g0))) br) ρ
noncomputable def bS (ρ:aj):Option Bool:=(fT (ah oR (fV 5) (iK ag))) ρ
noncomputable def bt (ρ:aj):Out:=(ai (Dg tC 6 5 ag)
  (jt (m8 (fV 1)) (gN 7) bV)) ρ
noncomputable def gI (ρ:aj):Out:=(ai (uw 4 5 (uj (fV 2) (cJ ag)) (xE (iK (aa (fV 2) ag))))
  (ai (g6 bS bt)
  (bz (AR uA (fV 4) (aa (fV 3) (aa (fC .non) ag)))))) ρ
noncomputable def dr:List PV->Option PR:=run 4 10 gI
theorem mS {a0 a1 a2 a3:PV}:dr [a0,a1,a2,a3]=(gI [some (.val a0),some (.val a1),some (.val a2),some (.val a3),none,none,none,none,none,none]).res:=Eq.trans rfl rfl
noncomputable def bR (ρ:aj):Option RV:=(CY (fV 0) zX (zW (fC (.int 2)))) ρ
noncomputable def cI (ρ:aj):Option RV:=(ah de (fV 0) (cJ (aa (fV 1) ag))) ρ
noncomputable def cQ (ρ:aj):Out:=(az 4 (ah de (fV 4) (cU [none,some 5] (m8 (fV 4)) (gN 0) gj cI))) ρ
noncomputable def cM (ρ:aj):Option RV:=(ah be (fV 0) (fC (.int 2))) ρ
noncomputable def aY (ρ:aj):Out:=(ai (az 7 (av bp (aa (fV 0) (aa (cU [none] (m8 (fV 6)) (gN 0) gj bR) ag))))
  (jZ (jv (fT (ah mQ (fV 7) (fV 3))) (fT (ah Ik (fB zU (aa (cU [none] (m8 (fV 6)) (gN 0) gj cM) ag)) (fV 2)))) (bz (fC (.bl false))) bu)) ρ
noncomputable def fL (ρ:aj):Out:=(ai (az 3 (av bp (aa (fV 0) (aa (cU [none] (m8 (fV 1)) (gN 0) gj bR) ag))))
  (ai (az 4 (iK (aa (cJ ag) ag)))
  (ai (jt (m8 (fV 1)) (gN 5) cQ)
  (ai (jt (m8 (fV 4)) (gN 6) aY)
  (bz (fC (.bl true))))))) ρ
noncomputable def cO:List PV->Option PR:=run 3 8 fL
theorem kP {a0 a1 a2:PV}:cO [a0,a1,a2]=(fL [some (.val a0),some (.val a1),some (.val a2),none,none,none,none,none]).res:=Eq.trans rfl rfl
end Dp
end
section
namespace Dp
open PySem PySem.Spec L2 PyProof.Rows
section
variable {prog:Program}{w:World}{A:Around}{E:Value->Shared->Prop}{s:Shared}
theorem C4 {a b:Addr}{oa ob:Obj}{na nb:Nat}{x1 x2 y1 y2:Int}{t1 t2 u1 u2:Tok}{Q:PySem.Fin->Shared->Prop}
  (ha:s.heap.get? a=some oa) (ca:oa.cls=.type "tuple") (da:oa.data=.seq [.int x1 t1,.int x2 t2].toArray na) (hb:s.heap.get? b=some ob) (cb:ob.cls=.type "tuple") (db:ob.data=.seq [.int y1 u1,.int y2 u2].toArray nb)
  (h:Q (.done (.ret (.bool (if x1=y1 then decide (x2<y2) else decide (x1<y1))))) s):wpAny (model prog w) A (Builtin.«tuple.__lt__» ⟨[.ref a,.ref b],[]⟩) Q E s:=by
 by_cases ne:x2=y2
 ·have lt:∀{x y:Int} {t u:Tok} {Q:Value->Shared->Prop},Q (.bool (decide (x<y))) s->wpAny (model prog w) A (richCompare .Lt (.int x t) (.int y u)) Q E s:=fun {x y t u Q} h=>richCompare_gives (op:=.Lt) (typeIs_int s _ t) (typeIs_int s _ u) F.slot_int_lt F.entry_int_lt (F.args_int_lt_2 _ _) (gives_int_lt _ _ t u) (fun x=>nomatch x) h
  show wpAny _ _ (isInstance (.ref b) (.type "tuple") >>= _) _ _ s
  refine wpAny_bind (wpAny_isInstance (T:="tuple") ⟨ob,hb,cb⟩ sub_tuple_tuple ?_)
  simp only[Bool.not_true,Bool.false_eq_true,if_false]
  refine wpAny_bind (wpAny_tupleItemsOf ha da ?_)
  refine wpAny_bind (wpAny_tupleItemsOf hb db ?_)
  simp only[List.zip_cons_cons,List.forIn_cons]
  refine wpAny_bind (wpAny_bind (wpAny_bind (wpAny_eqBool_int ?_)))
  by_cases e:x1=y1
  ·rw[if_pos e,decide_eq_false (by omega)] at h
   rw[show (x1==y1)=true by rw[e];exact beq_self_eq_true _]
   simp only[Bool.not_true,Bool.false_eq_true,if_false]
   refine wpAny_pure ?_
   simp only[List.zip_cons_cons,List.forIn_cons]
   refine wpAny_bind (wpAny_bind (wpAny_eqBool_int ?_))
   rw[show (x2==y2)=true by rw[ne];exact beq_self_eq_true _]
   simp only[Bool.not_true,Bool.false_eq_true,if_false]
   refine wpAny_pure ?_
   simp only[List.zip_nil_left,List.forIn_nil]
   exact wpAny_pure (wpAny_pure h)
  ·rw[if_neg e] at h
   rw[show (x1==y1)=false from beq_eq_false_iff_ne.mpr e]
   simp only[Bool.not_false,if_true]
   refine wpAny_bind (wpAny_rule (wpAny_bind (lt (wpAny_bind (wpAny_pure (wpAny_pure (wpAny_pure (wpAny_pure h))))))))
 ·exact Ey ha ca da hb cb db ne h
end
noncomputable def zb:PV->PV->Option RV
 |.tup [.int a,.int b],.tup [.int c,.int d]=>some (.fz (.bl (if a=c then decide (b<d) else decide (a<c))))
 |_,_=>none
section
variable {X:Cx}
theorem xk {c:Cn}{h:Heap}{a b:Int}{v:Value}{t:Addr->Prop}(d:D1 t c h (.tup [.int a,.int b]) v):∃p ob t1 t2 n,v=.ref p/\h.get? p=some ob/\ob.cls=.type "tuple"/\ob.data=.seq [.int a t1,.int b t2].toArray n:=by
 obtain⟨p,its,rfl,_,⟨o,ho,hc,n,hd⟩,_,u1,r1,rfl,⟨t1,rfl⟩,u2,r2,rfl,⟨t2,rfl⟩,e⟩:=d
 have e:r2=[]:=e
 subst e
 exact⟨p,o,t1,t2,n,rfl,ho,hc,hd⟩
theorem I8 (hu:X.A.units+64<cLine):vE X (compareOp .Lt) zb:=fun z s p q u v r E hz dp dq e=>by
 unfold zb at e
 split at e
 ·cases e
  obtain⟨a,oa,t1,t2,na,rfl,ha,ca,da⟩:=xk dp.1
  obtain⟨b,ob,u1,u2,nb,rfl,hb,cb,db⟩:=xk dq.1
  have hT1:s.TypeIs (.ref a) "tuple":=⟨oa,ha,ca⟩
  have hT2:s.TypeIs (.ref b) "tuple":=⟨ob,hb,cb⟩
  refine PySem.W.cmp_ofLt (wpAny_richCompare_same_room (T:="tuple") hT1 hT2 F.slot_tuple_lt (wpAny_call_entry F.slot_tuple_lt hT1 F.entry_tuple_lt (C4 ha ca da hb cb db ⟨_,rfl,?_,?_⟩) (F.args_tuple_lt_2 _ _)) (by omega))
  ·intro y;cases y
  ·exact⟨hz.refl,rfl⟩
 ·cases e
end
noncomputable def JG:Expr->Bool
 |.Tuple _ _ _=>true
 |_=>false
noncomputable def BP (G:Gd)(rE:Lc->Expr->FE)(rB:Lc->Expr->FB)(L:Lc)(e:Expr):Option FE:=
 match e with
 |.Compare a [.Lt] [b] p=>if JG a&&JG b&&!behindInMarks .Lt b then some (ah zb (rE L a) (rE L b)) else none
 |_=>none
noncomputable def hkLtT:Hk where
 e:=BP
theorem Bo:HkOk hkLtT where
 e:=fun {X k G L rE rB} o hE hB e f h=>by
  replace h:BP G rE rB L e=some f:=h
  unfold BP at h
  split at h
  ·split at h
   ·next z=>
    cases h
    rw[Bool.and_eq_true,Bool.not_eq_true'] at z
    exact Fs (I8 o.r.units) (hE o _) (hE o _) z.2
   ·cases h
  ·cases h
 i:=fun _ _ _ _ _ h=>by cases h
 b:=fun _ _ _ _ _ h=>by cases h
 s:=fun _ _ _ _ _ _ h=>by cases h
end Dp
end
section
namespace Dp
open PySem L2
noncomputable def iC (ρ:aj):Option RV:=(cJ (aa (fV 3) (aa (fV 0) ag))) ρ
noncomputable def gz (ρ:aj):Option RV:=(CY (ah be (fV 2) (fV 1)) zX (zW (fC (.int 2)))) ρ
noncomputable def iP (ρ:aj):Option RV:=(ah be (ah be (fV 1) (fV 0)) (fC (.int 1))) ρ
noncomputable def ja (ρ:aj):Out:=(ai (az 2 (fB iu (aa (cU [none,none,none,none] (np (aa (fV 1) ag)) (jm 2 (gC (gN 0) (gC (jm 3 (gC (gN 1) (gC (gN 2) (gC (gN 3) g0)))) g0))) gj iC) ag)))
  (ai (az 3 (cU [none,none,some 1] (m8 (fV 2)) (jm 2 (gC (gN 0) (gC (gN 1) g0))) gj gz))
  (bz (fB lI (aa (fB iq (aa (cU [none,some 2] (m8 (av dB (aa (fV 0) (aa (fV 3) ag)))) (gN 0) gj iP) ag)) ag))))) ρ
noncomputable def gl:List PV->Option PR:=run 2 4 ja
theorem qv {a0 a1:PV}:gl [a0,a1]=(ja [some (.val a0),some (.val a1),none,none]).res:=Eq.trans rfl rfl
noncomputable def eE (ρ:aj):Option RV:=(ah be (ah be (fV 1) (fV 0)) (fC (.int 2))) ρ
noncomputable def gJ (ρ:aj):Out:=(ai (i6 (av gm (aa (fV 0) (aa (fV 1) ag))))
  (ai (az 2 (av gl (aa (fV 0) (aa (fV 1) ag))))
  (bz (cJ (aa (fB zU (aa (cU [none,some 1] (m8 (fV 2)) (gN 0) gj eE) ag)) (aa (fV 2) ag)))))) ρ
noncomputable def bn:List PV->Option PR:=run 2 3 gJ
theorem my {a0 a1:PV}:bn [a0,a1]=(gJ [some (.val a0),some (.val a1),none]).res:=Eq.trans rfl rfl
noncomputable def fM (ρ:aj):Option RV:=(cJ (aa (ah be (ah be (fV 1) (fV 0)) (fC (.int 2))) (aa (fV 0) ag))) ρ
noncomputable def dh (ρ:aj):Option RV:=(IW (fT (ah mQ (fV 0) (fV 1))) (fV 2) (fV 0)) ρ
noncomputable def bY (ρ:aj):Out:=(ai (iU (cJ (aa (ah be (fV 2) (ah be (ah be (fV 1) (fV 5)) (fC (.int 0)))) (aa (ah be (fV 2) (ah be (ah be (fV 1) (fV 5)) (fC (.int 1)))) ag))) (jm 2 (gC (gN 6) (gC (gN 7) g0))))
  (jZ (fT (ah oR (fV 6) (fV 7))) (ai (vx mL 3 (aa (fV 5) ag))
  (az 2 (cU [none,some 7,some 6] (m8 (fV 2)) (gN 0) gj dh))) bu)) ρ
noncomputable def gc (ρ:aj):Out:=(ai (az 2 (fB jR (aa (fB tS (aa (fV 0) ag)) ag)))
  (ai (kb 3 (iK ag))
  (ai (jt (m8 (fB iu (aa (cU [none,some 1] (kN lq (aa (fB j8 (aa (fV 1) ag)) ag)) (gN 0) gj fM) ag))) (jm 2 (gC (gN 4) (gC (gN 5) g0))) bY)
  (bz (fB iq (aa (fV 3) ag)))))) ρ
noncomputable def b6:List PV->Option PR:=run 2 8 gc
theorem ll {a0 a1:PV}:b6 [a0,a1]=(gc [some (.val a0),some (.val a1),none,none,none,none,none,none]).res:=Eq.trans rfl rfl
noncomputable def fS (ρ:aj):Option RV:=(ah be (ah be (fV 1) (fV 0)) (fC (.int 2))) ρ
noncomputable def ip (ρ:aj):Option RV:=(ah zb (cJ (aa (ah be (ah be (fV 1) (fV 0)) (fC (.int 2))) (aa (fV 0) ag))) (cJ (aa (ah be (ah be (fV 1) (fV 2)) (fC (.int 2))) (aa (fV 2) ag)))) ρ
noncomputable def dQ (ρ:aj):Out:=(ai (az 5 (av dr (aa (fV 1) (aa (fV 3) (aa (ah be (ah be (fV 1) (fV 4)) (fC (.int 0))) (aa (ah be (ah be (fV 1) (fV 4)) (fC (.int 1))) ag))))))
  (ai (az 6 (cU [none,some 1,some 4] (m8 (fV 5)) (gN 0) gj ip))
  (jZ (jv (fT (ah jd (fV 4) (fV 3))) (i4 (fT (fB C6 (aa (fV 6) ag))))) (bz (fC (.bl false))) bu))) ρ
noncomputable def iN (ρ:aj):Out:=(ai (az 2 (av bn (aa (fV 0) (aa (fV 1) ag))))
  (ai (az 3 (av b6 (aa (fV 0) (aa (fV 1) ag))))
  (ai (jZ (uP (i4 (fT (fB tG (aa (fV 2) (aa (fC (.ty "tuple")) ag))))) (fT (ah oR (fV 2) (cJ (aa (fB zU (aa (cU [none,some 1] (m8 (fV 3)) (gN 0) gj fS) ag)) (aa (fB lI (aa (fV 3) ag)) ag)))))) (bz (fC (.bl false))) bu)
  (ai (jZ (uP (fT (fB tG (aa (ah be (fV 2) (fC (.int 0))) (aa (fC (.ty "bool")) ag)))) (i4 (fT (fB tG (aa (ah be (fV 2) (fC (.int 1))) (aa (fC (.ty "tuple")) ag)))))) (bz (fC (.bl false))) bu)
  (ai (jt (kN lq (aa (fB j8 (aa (fV 1) ag)) ag)) (gN 4) dQ)
  (bz (ah mQ (av bn (aa (fV 0) (aa (fV 1) ag))) (fV 2)))))))) ρ
noncomputable def fy:List PV->Option PR:=run 2 7 iN
theorem oO {a0 a1:PV}:fy [a0,a1]=(iN [some (.val a0),some (.val a1),none,none,none,none,none]).res:=Eq.trans rfl rfl
noncomputable def lR (ρ:aj):Out:=(ai (az 2 (av aw (aa (av aD (aa (fV 0) (aa (ah de (fC (.int 60)) (fV 1)) ag))) (aa (fC (.int 4)) ag))))
  (ai (az 3 (av ic (aa (ah be (fV 2) (fC (.int 0))) ag)))
  (ai (az 4 (ah be (iK (aa (fC (.int 30)) (aa (fC (.int 60)) ag))) (fB wj (aa (ah mQ (ah bO (ah be (fV 2) (fC (.int 3))) (fC (.int 4))) (fC (.int 1))) ag))))
  (jZ (i4 (fT (av fy (aa (fV 3) (aa (av dF (aa (fV 0) (aa (fV 1) (aa (fV 3) (aa (fV 4) (aa (fC (.int 999999999)) ag)))))) ag))))) (bz (fC (.bl false))) bu)))) ρ
noncomputable def tm (ρ:aj):Out:=(ai (jt (kN lq (aa (fB uC (aa (fC (.int 1)) (aa (fB nr (aa (fB j8 (aa (fV 0) ag)) (aa (fC (.int 3)) ag))) ag))) ag)) (gN 1) lR)
  (ai (az 5 (ah de (fC (.int 1)) (ah bO (ah be (fV 2) (fC (.int 1))) (fC (.int 5)))))
  (ai (az 6 (av dF (aa (fV 0) (aa (fC (.int 3)) (aa (fV 5) (aa (fC (.int 7)) (aa (fC (.int 20)) ag)))))))
  (ai (az 7 (ah be (av bn (aa (fV 5) (aa (fV 6) ag))) (fC (.int 0))))
  (bz (jT (av fy (aa (fV 5) (aa (fV 6) ag))) (rj (av cO (aa (fV 5) (aa (fV 6) (aa (fV 7) ag))))))))))) ρ
noncomputable def yt:List PV->Option PR:=run 1 8 tm
theorem Er {a0:PV}:yt [a0]=(tm [some (.val a0),none,none,none,none,none,none,none]).res:=Eq.trans rfl rfl
end Dp
end
section
namespace K60
open PySem L2 Dp
noncomputable def top (i:Nat):Stmt:=(PySem.Challenge.pw_lotheads_k60_least_forests.main.body)[i]?.getD (.Pass ⟨0,0,0,0⟩)
structure Txt (P:Program)(w:World)(K:PySem.W.Frag)(mg:Str->Option Value):Prop where
 n_abs:mg "abs" = none
 n_all:mg "all" = none
 n_bool:mg "bool" = none
 n_enumerate:mg "enumerate" = none
 n_int:mg "int" = none
 n_isinstance:mg "isinstance" = none
 n_len:mg "len" = none
 n_list:mg "list" = none
 n_max:mg "max" = none
 n_min:mg "min" = none
 n_range:mg "range" = none
 n_sorted:mg "sorted" = none
 n_str:mg "str" = none
 n_sum:mg "sum" = none
 n_tuple:mg "tuple" = none
 c_MOST_THINGS:∃t,mg "MOST_THINGS" = some (.int 40 t)
 k_JOINS:∀base,K.In base->Fp P w mg base "JOINS" (.ktu [.str "size",.str "rank",.str "told",.str "names"])
 k_MANNERS:∀base,K.In base->Fp P w mg base "MANNERS" (.dct [.inr "none",.inr "whole",.inr "halves",.inr "splits",.inr "one"] [.fn "find_none",.fn "find_whole",.fn "find_halves",.fn "find_splits",.fn "find_one"])
noncomputable abbrev cc:Stmt:=top 47
theorem nL:FnScope ["_law_cell_here","_law_many_here","_law_some","_law_state","_law_digits","_law_k"] ["_law_cell_here","_law_many_here"] (ae cc):=⟨rfl,rfl,rfl,by decide +kernel,rfl,by decide +kernel,by decide +kernel⟩
noncomputable abbrev eN:Stmt:=top 46
theorem rX:FnScope ["_law_script","_law_k","_law_state","_law_cell_here"] ["_law_script","_law_k"] (ae eN):=⟨rfl,rfl,rfl,by decide +kernel,rfl,by decide +kernel,by decide +kernel⟩
noncomputable abbrev dJ:Stmt:=top 49
theorem qu:FnScope ["_law_script","_law_at","_law_many_here","_law_most","_law_head","_law_row","_law_k","_law_xs","_law_x","_law_y"] ["_law_script","_law_at","_law_many_here","_law_most"] (ae dJ):=⟨rfl,rfl,rfl,by decide +kernel,rfl,by decide +kernel,by decide +kernel⟩
noncomputable abbrev eQ:Stmt:=top 51
theorem sB:FnScope ["_law_script","_law_at","_law_many_here","_law_most","_law_heavy","_law_row","_law_head","_law_ties_here","_law_k","_law_xs"] ["_law_script","_law_at","_law_many_here","_law_most","_law_heavy"] (ae eQ):=⟨rfl,rfl,rfl,by decide +kernel,rfl,by decide +kernel,by decide +kernel⟩
noncomputable abbrev e8:Stmt:=top 48
theorem sM:FnScope ["_law_x"] ["_law_x"] (ae e8):=⟨rfl,rfl,rfl,by decide +kernel,rfl,by decide +kernel,by decide +kernel⟩
noncomputable abbrev gi:Stmt:=top 8
theorem uS:FnScope ["thing"] ["thing"] (ae gi):=⟨rfl,rfl,rfl,by decide +kernel,rfl,by decide +kernel,by decide +kernel⟩
noncomputable abbrev gR:Stmt:=top 9
theorem wf:FnScope ["thing"] ["thing"] (ae gR):=⟨rfl,rfl,rfl,by decide +kernel,rfl,by decide +kernel,by decide +kernel⟩
noncomputable abbrev dI:Stmt:=top 11
theorem qA:FnScope ["many"] ["many"] (ae dI):=⟨rfl,rfl,rfl,by decide +kernel,rfl,by decide +kernel,by decide +kernel⟩
noncomputable abbrev eR:Stmt:=top 26
theorem tB:FnScope ["many","row","is_right","number","place"] ["many","row","is_right"] (ae eR):=⟨rfl,rfl,rfl,by decide +kernel,rfl,by decide +kernel,by decide +kernel⟩
noncomputable abbrev gh:Stmt:=top 10
theorem vf:FnScope ["many","thing"] ["many","thing"] (ae gh):=⟨rfl,rfl,rfl,by decide +kernel,rfl,by decide +kernel,by decide +kernel⟩
noncomputable abbrev gW:Stmt:=top 23
theorem we:FnScope ["many","thing"] ["many","thing"] (ae gW):=⟨rfl,rfl,rfl,by decide +kernel,rfl,by decide +kernel,by decide +kernel⟩
noncomputable abbrev dH:Stmt:=top 24
theorem qo:FnScope ["many","thing"] ["many","thing"] (ae dH):=⟨rfl,rfl,rfl,by decide +kernel,rfl,by decide +kernel,by decide +kernel⟩
noncomputable abbrev iO:Stmt:=top 25
theorem zQ:FnScope ["many","thing"] ["many","thing"] (ae iO):=⟨rfl,rfl,rfl,by decide +kernel,rfl,by decide +kernel,by decide +kernel⟩
noncomputable abbrev ff:Stmt:=top 42
theorem tq:FnScope ["many","ties"] ["many","ties"] (ae ff):=⟨rfl,rfl,rfl,by decide +kernel,rfl,by decide +kernel,by decide +kernel⟩
noncomputable abbrev aS:Stmt:=top 35
theorem kg:FnScope ["thing"] ["thing"] (ae aS):=⟨rfl,rfl,rfl,by decide +kernel,rfl,by decide +kernel,by decide +kernel⟩
noncomputable abbrev dL:Stmt:=top 36
theorem qp:FnScope ["join"] ["join"] (ae dL):=⟨rfl,rfl,rfl,by decide +kernel,rfl,by decide +kernel,by decide +kernel⟩
noncomputable abbrev cX:Stmt:=top 13
theorem mi:FnScope ["ups","x","at","steps"] ["ups","x"] (ae cX):=⟨rfl,rfl,rfl,by decide +kernel,rfl,by decide +kernel,by decide +kernel⟩
noncomputable abbrev b5:Stmt:=top 14
theorem kS:FnScope ["ups","x","head","steps","at","above"] ["ups","x"] (ae b5):=⟨rfl,rfl,rfl,by decide +kernel,rfl,by decide +kernel,by decide +kernel⟩
noncomputable abbrev bP:Stmt:=top 15
theorem j5:FnScope ["ups","x","at","steps"] ["ups","x"] (ae bP):=⟨rfl,rfl,rfl,by decide +kernel,rfl,by decide +kernel,by decide +kernel⟩
noncomputable abbrev bQ:Stmt:=top 16
theorem kh:FnScope ["ups","x","at","steps","above"] ["ups","x"] (ae bQ):=⟨rfl,rfl,rfl,by decide +kernel,rfl,by decide +kernel,by decide +kernel⟩
noncomputable abbrev dN:Stmt:=top 17
theorem nj:FnScope ["ups","x","head","steps"] ["ups","x"] (ae dN):=⟨rfl,rfl,rfl,by decide +kernel,rfl,by decide +kernel,by decide +kernel⟩
noncomputable abbrev gb:Stmt:=top 19
theorem uk:FnScope ["thing"] ["thing"] (ae gb):=⟨rfl,rfl,rfl,by decide +kernel,rfl,by decide +kernel,by decide +kernel⟩
noncomputable abbrev cY:Stmt:=top 20
theorem pE:FnScope ["short"] ["short"] (ae cY):=⟨rfl,rfl,rfl,by decide +kernel,rfl,by decide +kernel,by decide +kernel⟩
noncomputable abbrev eO:Stmt:=top 37
theorem sf:FnScope ["many","join","short","mark"] ["many","join","short"] (ae eO):=⟨rfl,rfl,rfl,by decide +kernel,rfl,by decide +kernel,by decide +kernel⟩
noncomputable abbrev gU:Stmt:=top 21
theorem wa:FnScope ["ups","short","x","behind","manner","head","steps"] ["ups","short","x"] (ae gU):=⟨rfl,rfl,rfl,by decide +kernel,rfl,by decide +kernel,by decide +kernel⟩
noncomputable abbrev iD:Stmt:=top 30
theorem zm:FnScope ["numbers"] ["numbers"] (ae iD):=⟨rfl,rfl,rfl,by decide +kernel,rfl,by decide +kernel,by decide +kernel⟩
noncomputable abbrev eW:Stmt:=top 31
theorem sN:FnScope ["store","x","join","short","ups","marks","head","behind","steps"] ["store","x"] (ae eW):=⟨rfl,rfl,rfl,by decide +kernel,rfl,by decide +kernel,by decide +kernel⟩
noncomputable abbrev cZ:Stmt:=top 27
theorem p4:FnScope ["join","marks","first","second"] ["join","marks","first","second"] (ae cZ):=⟨rfl,rfl,rfl,by decide +kernel,rfl,by decide +kernel,by decide +kernel⟩
noncomputable abbrev df:Stmt:=top 28
theorem o3:FnScope ["join","top","under"] ["join","top","under"] (ae df):=⟨rfl,rfl,rfl,by decide +kernel,rfl,by decide +kernel,by decide +kernel⟩
noncomputable abbrev aR:Stmt:=top 29
theorem j6:FnScope ["store","first","second","join","short","ups","marks","stays","top","under","new_ups","new_marks"] ["store","first","second"] (ae aR):=⟨rfl,rfl,rfl,by decide +kernel,rfl,by decide +kernel,by decide +kernel⟩
noncomputable abbrev eX:Stmt:=top 32
theorem tz:FnScope ["store","x","y","after_x","first","steps_x","after_y","second","steps_y","steps"] ["store","x","y"] (ae eX):=⟨rfl,rfl,rfl,by decide +kernel,rfl,by decide +kernel,by decide +kernel⟩
noncomputable abbrev aX:Stmt:=top 39
theorem kR:FnScope ["many","row","store","times","number","x","y","behind","real","steps","thing"] ["many","row"] (ae aX):=⟨rfl,rfl,rfl,by decide +kernel,rfl,by decide +kernel,by decide +kernel⟩
noncomputable abbrev b8:Stmt:=top 40
theorem nV:FnScope ["many","row","times"] ["many","row"] (ae b8):=⟨rfl,rfl,rfl,by decide +kernel,rfl,by decide +kernel,by decide +kernel⟩
noncomputable abbrev eK:Stmt:=top 43
theorem tE:FnScope ["many","ties","order","joins"] ["many","ties"] (ae eK):=⟨rfl,rfl,rfl,by decide +kernel,rfl,by decide +kernel,by decide +kernel⟩
noncomputable abbrev b9:Stmt:=top 44
theorem nX:FnScope ["many","ties","chosen"] ["many","ties"] (ae b9):=⟨rfl,rfl,rfl,by decide +kernel,rfl,by decide +kernel,by decide +kernel⟩
noncomputable abbrev bM:Stmt:=top 52
theorem lU:FnScope ["_law_many_here","_law_ties_here","_law_lots","_law_chosen","_law_weight","_law_k","_law_x","_law_y"] ["_law_many_here","_law_ties_here"] (ae bM):=⟨rfl,rfl,rfl,by decide +kernel,rfl,by decide +kernel,by decide +kernel⟩
noncomputable abbrev cf:Stmt:=top 53
theorem nT:FnScope ["_law_ties_here","_law_numbers_here","_law_x","_law_y","_law_roads","_law_waiting","_law_here","_law_k","_law_one","_law_other"] ["_law_ties_here","_law_numbers_here","_law_x","_law_y"] (ae cf):=⟨rfl,rfl,rfl,by decide +kernel,rfl,by decide +kernel,by decide +kernel⟩
noncomputable abbrev dO:Stmt:=top 55
theorem qG:FnScope ["_law_many_here","_law_ties_here","_law_told","_law_chosen","_law_k","_law_road","_law_ahead"] ["_law_many_here","_law_ties_here"] (ae dO):=⟨rfl,rfl,rfl,by decide +kernel,rfl,by decide +kernel,by decide +kernel⟩
noncomputable abbrev ce:Stmt:=top 50
theorem nO:FnScope ["_law_many_here","_law_pairs","_law_lots","_law_x","_law_y","_law_one","_law_other"] ["_law_many_here","_law_pairs"] (ae ce):=⟨rfl,rfl,rfl,by decide +kernel,rfl,by decide +kernel,by decide +kernel⟩
noncomputable abbrev bj:Stmt:=top 54
theorem lp:FnScope ["_law_many_here","_law_ties_here","_law_worth","_law_pieces_due","_law_sets","_law_tie","_law_part","_law_lots"] ["_law_many_here","_law_ties_here","_law_worth"] (ae bj):=⟨rfl,rfl,rfl,by decide +kernel,rfl,by decide +kernel,by decide +kernel⟩
noncomputable abbrev re:Stmt:=top 56
theorem Ij:FnScope ["_law_script","_law_at","_law_head","_law_many_here","_law_most","_law_few_things","_law_ties_here","_law_worth"] ["_law_script"] (ae re):=⟨rfl,rfl,rfl,by decide +kernel,rfl,by decide +kernel,by decide +kernel⟩
noncomputable def G0:Gc:={ bi:=["abs","all","bool","enumerate","int","isinstance","len","list","max","min","range","sorted","str","sum","tuple"],nis:=[("MOST_THINGS",40)],tups:=[("JOINS",[.str "size",.str "rank",.str "told",.str "names"])],dcts:=[("MANNERS",[.inr "none",.inr "whole",.inr "halves",.inr "splits",.inr "one"],[.fn "find_none",.fn "find_whole",.fn "find_halves",.fn "find_splits",.fn "find_one"])],hk:=(hkLtT.or F9).or FC }
theorem iS:HkOk G0.hk:=(FJ (FJ Bo AV) Cc)
end K60
end
section
namespace K60
open PySem L2 Dp
section
variable {P:Program}{w:World}{K:PySem.W.Frag}{mg:Str->Option Value}{base:Heap}
theorem nY (T:Txt P w K mg)(KI:K.In base)(F:ax K mg "_law_numbers" cc ["_law_cell_here","_law_many_here"]):DefN P w K mg base true 1 "_law_numbers" aw:=
 bf (G:={ G0 with fns:=[] }) { sc:=ae cc,N:=["_law_cell_here","_law_many_here","_law_some","_law_state","_law_digits","_law_k"],own:=["_law_some"] } F nL (iR ⟨T.n_abs,⟨T.n_all,⟨T.n_bool,⟨T.n_enumerate,⟨T.n_int,⟨T.n_isinstance,⟨T.n_len,⟨T.n_list,⟨T.n_max,⟨T.n_min,⟨T.n_range,⟨T.n_sorted,⟨T.n_str,⟨T.n_sum,⟨T.n_tuple,trivial⟩⟩⟩⟩⟩⟩⟩⟩⟩⟩⟩⟩⟩⟩⟩ ⟨T.c_MOST_THINGS,trivial⟩ ⟨T.k_JOINS base KI,trivial⟩ trivial trivial ⟨T.k_MANNERS base KI,trivial⟩ trivial trivial) iS (by kernel_rfl)
theorem sg (T:Txt P w K mg)(KI:K.In base)(F:ax K mg "_law_cell" eN ["_law_script","_law_k"]):DefN P w K mg base true 1 "_law_cell" aD:=
 bf (G:={ G0 with fns:=[] }) { sc:=ae eN,N:=["_law_script","_law_k","_law_state","_law_cell_here"] } F rX (iR ⟨T.n_abs,⟨T.n_all,⟨T.n_bool,⟨T.n_enumerate,⟨T.n_int,⟨T.n_isinstance,⟨T.n_len,⟨T.n_list,⟨T.n_max,⟨T.n_min,⟨T.n_range,⟨T.n_sorted,⟨T.n_str,⟨T.n_sum,⟨T.n_tuple,trivial⟩⟩⟩⟩⟩⟩⟩⟩⟩⟩⟩⟩⟩⟩⟩ ⟨T.c_MOST_THINGS,trivial⟩ ⟨T.k_JOINS base KI,trivial⟩ trivial trivial ⟨T.k_MANNERS base KI,trivial⟩ trivial trivial) iS (by kernel_rfl)
theorem qx (T:Txt P w K mg)(KI:K.In base)(F:ax K mg "_law_joins" dJ ["_law_script","_law_at","_law_many_here","_law_most"])(d__law_numbers:DefN P w K mg base true 1 "_law_numbers" aw)(d__law_cell:DefN P w K mg base true 1 "_law_cell" aD):DefN P w K mg base true 2 "_law_joins" fx:=
 bf (G:={ G0 with fns:=[("_law_numbers",aw),("_law_cell",aD)] }) { sc:=ae dJ,N:=["_law_script","_law_at","_law_many_here","_law_most","_law_head","_law_row","_law_k","_law_xs","_law_x","_law_y"],own:=["_law_row"] } F qu (iR ⟨T.n_abs,⟨T.n_all,⟨T.n_bool,⟨T.n_enumerate,⟨T.n_int,⟨T.n_isinstance,⟨T.n_len,⟨T.n_list,⟨T.n_max,⟨T.n_min,⟨T.n_range,⟨T.n_sorted,⟨T.n_str,⟨T.n_sum,⟨T.n_tuple,trivial⟩⟩⟩⟩⟩⟩⟩⟩⟩⟩⟩⟩⟩⟩⟩ ⟨T.c_MOST_THINGS,trivial⟩ ⟨T.k_JOINS base KI,trivial⟩ trivial ⟨⟨_,by decide,d__law_numbers⟩,⟨⟨_,by decide,d__law_cell⟩,trivial⟩⟩ ⟨T.k_MANNERS base KI,trivial⟩ trivial trivial) iS (by kernel_rfl)
theorem sP (T:Txt P w K mg)(KI:K.In base)(F:ax K mg "_law_ties" eQ ["_law_script","_law_at","_law_many_here","_law_most","_law_heavy"])(d__law_joins:DefN P w K mg base true 2 "_law_joins" fx)(d__law_numbers:DefN P w K mg base true 1 "_law_numbers" aw)(d__law_cell:DefN P w K mg base true 1 "_law_cell" aD):DefN P w K mg base true 3 "_law_ties" dF:=
 bf (G:={ G0 with fns:=[("_law_joins",fx),("_law_numbers",aw),("_law_cell",aD)] }) { sc:=ae eQ,N:=["_law_script","_law_at","_law_many_here","_law_most","_law_heavy","_law_row","_law_head","_law_ties_here","_law_k","_law_xs"],own:=["_law_ties_here"] } F sB (iR ⟨T.n_abs,⟨T.n_all,⟨T.n_bool,⟨T.n_enumerate,⟨T.n_int,⟨T.n_isinstance,⟨T.n_len,⟨T.n_list,⟨T.n_max,⟨T.n_min,⟨T.n_range,⟨T.n_sorted,⟨T.n_str,⟨T.n_sum,⟨T.n_tuple,trivial⟩⟩⟩⟩⟩⟩⟩⟩⟩⟩⟩⟩⟩⟩⟩ ⟨T.c_MOST_THINGS,trivial⟩ ⟨T.k_JOINS base KI,trivial⟩ trivial ⟨⟨_,by decide,d__law_joins⟩,⟨⟨_,by decide,d__law_numbers⟩,⟨⟨_,by decide,d__law_cell⟩,trivial⟩⟩⟩ ⟨T.k_MANNERS base KI,trivial⟩ trivial trivial) iS (by kernel_rfl)
theorem r7 (T:Txt P w K mg)(KI:K.In base)(F:ax K mg "_law_many" e8 ["_law_x"]):DefN P w K mg base true 1 "_law_many" ic:=
 bf (G:={ G0 with fns:=[] }) { sc:=ae e8,N:=["_law_x"] } F sM (iR ⟨T.n_abs,⟨T.n_all,⟨T.n_bool,⟨T.n_enumerate,⟨T.n_int,⟨T.n_isinstance,⟨T.n_len,⟨T.n_list,⟨T.n_max,⟨T.n_min,⟨T.n_range,⟨T.n_sorted,⟨T.n_str,⟨T.n_sum,⟨T.n_tuple,trivial⟩⟩⟩⟩⟩⟩⟩⟩⟩⟩⟩⟩⟩⟩⟩ ⟨T.c_MOST_THINGS,trivial⟩ ⟨T.k_JOINS base KI,trivial⟩ trivial trivial ⟨T.k_MANNERS base KI,trivial⟩ trivial trivial) iS (by kernel_rfl)
theorem ug (T:Txt P w K mg)(KI:K.In base)(F:ax K mg "is_whole" gi ["thing"]):DefN P w K mg base true 1 "is_whole" bX:=
 bf (G:={ G0 with fns:=[] }) { sc:=ae gi,N:=["thing"] } F uS (iR ⟨T.n_abs,⟨T.n_all,⟨T.n_bool,⟨T.n_enumerate,⟨T.n_int,⟨T.n_isinstance,⟨T.n_len,⟨T.n_list,⟨T.n_max,⟨T.n_min,⟨T.n_range,⟨T.n_sorted,⟨T.n_str,⟨T.n_sum,⟨T.n_tuple,trivial⟩⟩⟩⟩⟩⟩⟩⟩⟩⟩⟩⟩⟩⟩⟩ ⟨T.c_MOST_THINGS,trivial⟩ ⟨T.k_JOINS base KI,trivial⟩ trivial trivial ⟨T.k_MANNERS base KI,trivial⟩ trivial trivial) iS (by kernel_rfl)
theorem wc (T:Txt P w K mg)(KI:K.In base)(F:ax K mg "is_many" gR ["thing"])(d_is_whole:DefN P w K mg base true 1 "is_whole" bX):DefN P w K mg base true 2 "is_many" gX:=
 bf (G:={ G0 with fns:=[("is_whole",bX)] }) { sc:=ae gR,N:=["thing"] } F wf (iR ⟨T.n_abs,⟨T.n_all,⟨T.n_bool,⟨T.n_enumerate,⟨T.n_int,⟨T.n_isinstance,⟨T.n_len,⟨T.n_list,⟨T.n_max,⟨T.n_min,⟨T.n_range,⟨T.n_sorted,⟨T.n_str,⟨T.n_sum,⟨T.n_tuple,trivial⟩⟩⟩⟩⟩⟩⟩⟩⟩⟩⟩⟩⟩⟩⟩ ⟨T.c_MOST_THINGS,trivial⟩ ⟨T.k_JOINS base KI,trivial⟩ trivial ⟨⟨_,by decide,d_is_whole⟩,trivial⟩ ⟨T.k_MANNERS base KI,trivial⟩ trivial trivial) iS (by kernel_rfl)
theorem qE (T:Txt P w K mg)(KI:K.In base)(F:ax K mg "check_many" dI ["many"])(d_is_many:DefN P w K mg base true 2 "is_many" gX):DefN P w K mg base true 3 "check_many" cP:=
 bf (G:={ G0 with fns:=[("is_many",gX)] }) { sc:=ae dI,N:=["many"] } F qA (iR ⟨T.n_abs,⟨T.n_all,⟨T.n_bool,⟨T.n_enumerate,⟨T.n_int,⟨T.n_isinstance,⟨T.n_len,⟨T.n_list,⟨T.n_max,⟨T.n_min,⟨T.n_range,⟨T.n_sorted,⟨T.n_str,⟨T.n_sum,⟨T.n_tuple,trivial⟩⟩⟩⟩⟩⟩⟩⟩⟩⟩⟩⟩⟩⟩⟩ ⟨T.c_MOST_THINGS,trivial⟩ ⟨T.k_JOINS base KI,trivial⟩ trivial ⟨⟨_,by decide,d_is_many⟩,trivial⟩ ⟨T.k_MANNERS base KI,trivial⟩ trivial trivial) iS (by kernel_rfl)
theorem rZ (T:Txt P w K mg)(KI:K.In base)(F:ax K mg "check_row" eR ["many","row","is_right"])(d_is_tie:DefN P w K mg base true 5 "is_tie" jr):DefN P w K mg base true 6 "check_row" dn:=
 bf (G:={ G0 with fns:=[],tab:=[("is_tie",jr)] }) { sc:=ae eR,N:=["many","row","is_right","number","place"] } F tB (iR ⟨T.n_abs,⟨T.n_all,⟨T.n_bool,⟨T.n_enumerate,⟨T.n_int,⟨T.n_isinstance,⟨T.n_len,⟨T.n_list,⟨T.n_max,⟨T.n_min,⟨T.n_range,⟨T.n_sorted,⟨T.n_str,⟨T.n_sum,⟨T.n_tuple,trivial⟩⟩⟩⟩⟩⟩⟩⟩⟩⟩⟩⟩⟩⟩⟩ ⟨T.c_MOST_THINGS,trivial⟩ ⟨T.k_JOINS base KI,trivial⟩ trivial trivial ⟨T.k_MANNERS base KI,trivial⟩ ⟨⟨_,by decide,d_is_tie⟩,trivial⟩ trivial) iS (by kernel_rfl)
theorem uo (T:Txt P w K mg)(KI:K.In base)(F:ax K mg "is_thing" gh ["many","thing"])(d_is_whole:DefN P w K mg base true 1 "is_whole" bX):DefN P w K mg base true 2 "is_thing" fZ:=
 bf (G:={ G0 with fns:=[("is_whole",bX)] }) { sc:=ae gh,N:=["many","thing"] } F vf (iR ⟨T.n_abs,⟨T.n_all,⟨T.n_bool,⟨T.n_enumerate,⟨T.n_int,⟨T.n_isinstance,⟨T.n_len,⟨T.n_list,⟨T.n_max,⟨T.n_min,⟨T.n_range,⟨T.n_sorted,⟨T.n_str,⟨T.n_sum,⟨T.n_tuple,trivial⟩⟩⟩⟩⟩⟩⟩⟩⟩⟩⟩⟩⟩⟩⟩ ⟨T.c_MOST_THINGS,trivial⟩ ⟨T.k_JOINS base KI,trivial⟩ trivial ⟨⟨_,by decide,d_is_whole⟩,trivial⟩ ⟨T.k_MANNERS base KI,trivial⟩ trivial trivial) iS (by kernel_rfl)
theorem wN (T:Txt P w K mg)(KI:K.In base)(F:ax K mg "is_pair" gW ["many","thing"])(d_is_thing:DefN P w K mg base true 2 "is_thing" fZ):DefN P w K mg base true 3 "is_pair" iz:=
 bf (G:={ G0 with fns:=[("is_thing",fZ)] }) { sc:=ae gW,N:=["many","thing"] } F we (iR ⟨T.n_abs,⟨T.n_all,⟨T.n_bool,⟨T.n_enumerate,⟨T.n_int,⟨T.n_isinstance,⟨T.n_len,⟨T.n_list,⟨T.n_max,⟨T.n_min,⟨T.n_range,⟨T.n_sorted,⟨T.n_str,⟨T.n_sum,⟨T.n_tuple,trivial⟩⟩⟩⟩⟩⟩⟩⟩⟩⟩⟩⟩⟩⟩⟩ ⟨T.c_MOST_THINGS,trivial⟩ ⟨T.k_JOINS base KI,trivial⟩ trivial ⟨⟨_,by decide,d_is_thing⟩,trivial⟩ ⟨T.k_MANNERS base KI,trivial⟩ trivial trivial) iS (by kernel_rfl)
theorem qr (T:Txt P w K mg)(KI:K.In base)(F:ax K mg "is_telling" dH ["many","thing"])(d_is_pair:DefN P w K mg base true 3 "is_pair" iz)(d_is_whole:DefN P w K mg base true 1 "is_whole" bX):DefN P w K mg base true 4 "is_telling" ft:=
 bf (G:={ G0 with fns:=[("is_pair",iz),("is_whole",bX)] }) { sc:=ae dH,N:=["many","thing"] } F qo (iR ⟨T.n_abs,⟨T.n_all,⟨T.n_bool,⟨T.n_enumerate,⟨T.n_int,⟨T.n_isinstance,⟨T.n_len,⟨T.n_list,⟨T.n_max,⟨T.n_min,⟨T.n_range,⟨T.n_sorted,⟨T.n_str,⟨T.n_sum,⟨T.n_tuple,trivial⟩⟩⟩⟩⟩⟩⟩⟩⟩⟩⟩⟩⟩⟩⟩ ⟨T.c_MOST_THINGS,trivial⟩ ⟨T.k_JOINS base KI,trivial⟩ trivial ⟨⟨_,by decide,d_is_pair⟩,⟨⟨_,by decide,d_is_whole⟩,trivial⟩⟩ ⟨T.k_MANNERS base KI,trivial⟩ trivial trivial) iS (by kernel_rfl)
theorem y8 (T:Txt P w K mg)(KI:K.In base)(F:ax K mg "is_tie" iO ["many","thing"])(d_is_telling:DefN P w K mg base true 4 "is_telling" ft):DefN P w K mg base true 5 "is_tie" jr:=
 bf (G:={ G0 with fns:=[("is_telling",ft)] }) { sc:=ae iO,N:=["many","thing"] } F zQ (iR ⟨T.n_abs,⟨T.n_all,⟨T.n_bool,⟨T.n_enumerate,⟨T.n_int,⟨T.n_isinstance,⟨T.n_len,⟨T.n_list,⟨T.n_max,⟨T.n_min,⟨T.n_range,⟨T.n_sorted,⟨T.n_str,⟨T.n_sum,⟨T.n_tuple,trivial⟩⟩⟩⟩⟩⟩⟩⟩⟩⟩⟩⟩⟩⟩⟩ ⟨T.c_MOST_THINGS,trivial⟩ ⟨T.k_JOINS base KI,trivial⟩ trivial ⟨⟨_,by decide,d_is_telling⟩,trivial⟩ ⟨T.k_MANNERS base KI,trivial⟩ trivial trivial) iS (by kernel_rfl)
theorem rY (T:Txt P w K mg)(KI:K.In base)(F:ax K mg "check_web" ff ["many","ties"])(m_is_tie:∃a,mg "is_tie" = some (.ref a))(d_check_many:DefN P w K mg base true 3 "check_many" cP)(d_check_row:DefN P w K mg base true 6 "check_row" dn):DefN P w K mg base true 7 "check_web" gm:=
 bf (G:={ G0 with fns:=[("check_many",cP),("check_row",dn)],vals:=["is_tie"] }) { sc:=ae ff,N:=["many","ties"] } F tq (iR ⟨T.n_abs,⟨T.n_all,⟨T.n_bool,⟨T.n_enumerate,⟨T.n_int,⟨T.n_isinstance,⟨T.n_len,⟨T.n_list,⟨T.n_max,⟨T.n_min,⟨T.n_range,⟨T.n_sorted,⟨T.n_str,⟨T.n_sum,⟨T.n_tuple,trivial⟩⟩⟩⟩⟩⟩⟩⟩⟩⟩⟩⟩⟩⟩⟩ ⟨T.c_MOST_THINGS,trivial⟩ ⟨T.k_JOINS base KI,trivial⟩ ⟨m_is_tie,trivial⟩ ⟨⟨_,by decide,d_check_many⟩,⟨⟨_,by decide,d_check_row⟩,trivial⟩⟩ ⟨T.k_MANNERS base KI,trivial⟩ trivial trivial) iS (by kernel_rfl)
theorem kA (T:Txt P w K mg)(KI:K.In base)(F:ax K mg "is_way_of_joining" aS ["thing"]):DefN P w K mg base true 1 "is_way_of_joining" bw:=
 bf (G:={ G0 with fns:=[] }) { sc:=ae aS,N:=["thing"] } F kg (iR ⟨T.n_abs,⟨T.n_all,⟨T.n_bool,⟨T.n_enumerate,⟨T.n_int,⟨T.n_isinstance,⟨T.n_len,⟨T.n_list,⟨T.n_max,⟨T.n_min,⟨T.n_range,⟨T.n_sorted,⟨T.n_str,⟨T.n_sum,⟨T.n_tuple,trivial⟩⟩⟩⟩⟩⟩⟩⟩⟩⟩⟩⟩⟩⟩⟩ ⟨T.c_MOST_THINGS,trivial⟩ ⟨T.k_JOINS base KI,trivial⟩ trivial trivial ⟨T.k_MANNERS base KI,trivial⟩ trivial trivial) iS (by kernel_rfl)
theorem qJ (T:Txt P w K mg)(KI:K.In base)(F:ax K mg "check_join" dL ["join"])(d_is_way_of_joining:DefN P w K mg base true 1 "is_way_of_joining" bw):DefN P w K mg base true 2 "check_join" gE:=
 bf (G:={ G0 with fns:=[("is_way_of_joining",bw)] }) { sc:=ae dL,N:=["join"] } F qp (iR ⟨T.n_abs,⟨T.n_all,⟨T.n_bool,⟨T.n_enumerate,⟨T.n_int,⟨T.n_isinstance,⟨T.n_len,⟨T.n_list,⟨T.n_max,⟨T.n_min,⟨T.n_range,⟨T.n_sorted,⟨T.n_str,⟨T.n_sum,⟨T.n_tuple,trivial⟩⟩⟩⟩⟩⟩⟩⟩⟩⟩⟩⟩⟩⟩⟩ ⟨T.c_MOST_THINGS,trivial⟩ ⟨T.k_JOINS base KI,trivial⟩ trivial ⟨⟨_,by decide,d_is_way_of_joining⟩,trivial⟩ ⟨T.k_MANNERS base KI,trivial⟩ trivial trivial) iS (by kernel_rfl)
theorem td (T:Txt P w K mg)(KI:K.In base)(F:ax K mg "find_none" cX ["ups","x"]):DefN P w K mg base true 1 "find_none" aE:=
 bf (G:={ G0 with fns:=[] }) { sc:=ae cX,N:=["ups","x","at","steps"] } F mi (iR ⟨T.n_abs,⟨T.n_all,⟨T.n_bool,⟨T.n_enumerate,⟨T.n_int,⟨T.n_isinstance,⟨T.n_len,⟨T.n_list,⟨T.n_max,⟨T.n_min,⟨T.n_range,⟨T.n_sorted,⟨T.n_str,⟨T.n_sum,⟨T.n_tuple,trivial⟩⟩⟩⟩⟩⟩⟩⟩⟩⟩⟩⟩⟩⟩⟩ ⟨T.c_MOST_THINGS,trivial⟩ ⟨T.k_JOINS base KI,trivial⟩ trivial trivial ⟨T.k_MANNERS base KI,trivial⟩ trivial trivial) iS (by kernel_rfl)
theorem qn (T:Txt P w K mg)(KI:K.In base)(F:ax K mg "find_none" cX ["ups","x"]):DefL P w K mg base true 1 "find_none" fw:=
 pX (G:={ G0 with fns:=[] }) { sc:=ae cX,N:=["ups","x","at","steps"],lent:=true } F mi (iR ⟨T.n_abs,⟨T.n_all,⟨T.n_bool,⟨T.n_enumerate,⟨T.n_int,⟨T.n_isinstance,⟨T.n_len,⟨T.n_list,⟨T.n_max,⟨T.n_min,⟨T.n_range,⟨T.n_sorted,⟨T.n_str,⟨T.n_sum,⟨T.n_tuple,trivial⟩⟩⟩⟩⟩⟩⟩⟩⟩⟩⟩⟩⟩⟩⟩ ⟨T.c_MOST_THINGS,trivial⟩ ⟨T.k_JOINS base KI,trivial⟩ trivial trivial ⟨T.k_MANNERS base KI,trivial⟩ trivial trivial) iS (by kernel_rfl)
theorem qz (T:Txt P w K mg)(KI:K.In base)(F:ax K mg "find_whole" b5 ["ups","x"])(d_find_none:DefN P w K mg base true 1 "find_none" aE):DefN P w K mg base true 2 "find_whole" sF:=
 bf (G:={ G0 with fns:=[("find_none",aE)] }) { sc:=ae b5,N:=["ups","x","head","steps","at","above"],own:=["ups"] } F kS (iR ⟨T.n_abs,⟨T.n_all,⟨T.n_bool,⟨T.n_enumerate,⟨T.n_int,⟨T.n_isinstance,⟨T.n_len,⟨T.n_list,⟨T.n_max,⟨T.n_min,⟨T.n_range,⟨T.n_sorted,⟨T.n_str,⟨T.n_sum,⟨T.n_tuple,trivial⟩⟩⟩⟩⟩⟩⟩⟩⟩⟩⟩⟩⟩⟩⟩ ⟨T.c_MOST_THINGS,trivial⟩ ⟨T.k_JOINS base KI,trivial⟩ trivial ⟨⟨_,by decide,d_find_none⟩,trivial⟩ ⟨T.k_MANNERS base KI,trivial⟩ trivial trivial) iS (by kernel_rfl)
theorem pf (T:Txt P w K mg)(KI:K.In base)(F:ax K mg "find_whole" b5 ["ups","x"])(d_find_none:DefN P w K mg base true 1 "find_none" aE):DefL P w K mg base true 2 "find_whole" d0:=
 pX (G:={ G0 with fns:=[("find_none",aE)] }) { sc:=ae b5,N:=["ups","x","head","steps","at","above"],own:=["ups"],lent:=true } F kS (iR ⟨T.n_abs,⟨T.n_all,⟨T.n_bool,⟨T.n_enumerate,⟨T.n_int,⟨T.n_isinstance,⟨T.n_len,⟨T.n_list,⟨T.n_max,⟨T.n_min,⟨T.n_range,⟨T.n_sorted,⟨T.n_str,⟨T.n_sum,⟨T.n_tuple,trivial⟩⟩⟩⟩⟩⟩⟩⟩⟩⟩⟩⟩⟩⟩⟩ ⟨T.c_MOST_THINGS,trivial⟩ ⟨T.k_JOINS base KI,trivial⟩ trivial ⟨⟨_,by decide,d_find_none⟩,trivial⟩ ⟨T.k_MANNERS base KI,trivial⟩ trivial trivial) iS (by kernel_rfl)
theorem oM (T:Txt P w K mg)(KI:K.In base)(F:ax K mg "find_halves" bP ["ups","x"]):DefN P w K mg base true 1 "find_halves" qk:=
 bf (G:={ G0 with fns:=[] }) { sc:=ae bP,N:=["ups","x","at","steps"],own:=["ups"] } F j5 (iR ⟨T.n_abs,⟨T.n_all,⟨T.n_bool,⟨T.n_enumerate,⟨T.n_int,⟨T.n_isinstance,⟨T.n_len,⟨T.n_list,⟨T.n_max,⟨T.n_min,⟨T.n_range,⟨T.n_sorted,⟨T.n_str,⟨T.n_sum,⟨T.n_tuple,trivial⟩⟩⟩⟩⟩⟩⟩⟩⟩⟩⟩⟩⟩⟩⟩ ⟨T.c_MOST_THINGS,trivial⟩ ⟨T.k_JOINS base KI,trivial⟩ trivial trivial ⟨T.k_MANNERS base KI,trivial⟩ trivial trivial) iS (by kernel_rfl)
theorem nF (T:Txt P w K mg)(KI:K.In base)(F:ax K mg "find_halves" bP ["ups","x"]):DefL P w K mg base true 1 "find_halves" dD:=
 pX (G:={ G0 with fns:=[] }) { sc:=ae bP,N:=["ups","x","at","steps"],own:=["ups"],lent:=true } F j5 (iR ⟨T.n_abs,⟨T.n_all,⟨T.n_bool,⟨T.n_enumerate,⟨T.n_int,⟨T.n_isinstance,⟨T.n_len,⟨T.n_list,⟨T.n_max,⟨T.n_min,⟨T.n_range,⟨T.n_sorted,⟨T.n_str,⟨T.n_sum,⟨T.n_tuple,trivial⟩⟩⟩⟩⟩⟩⟩⟩⟩⟩⟩⟩⟩⟩⟩ ⟨T.c_MOST_THINGS,trivial⟩ ⟨T.k_JOINS base KI,trivial⟩ trivial trivial ⟨T.k_MANNERS base KI,trivial⟩ trivial trivial) iS (by kernel_rfl)
theorem oJ (T:Txt P w K mg)(KI:K.In base)(F:ax K mg "find_splits" bQ ["ups","x"]):DefN P w K mg base true 1 "find_splits" qL:=
 bf (G:={ G0 with fns:=[] }) { sc:=ae bQ,N:=["ups","x","at","steps","above"],own:=["ups"] } F kh (iR ⟨T.n_abs,⟨T.n_all,⟨T.n_bool,⟨T.n_enumerate,⟨T.n_int,⟨T.n_isinstance,⟨T.n_len,⟨T.n_list,⟨T.n_max,⟨T.n_min,⟨T.n_range,⟨T.n_sorted,⟨T.n_str,⟨T.n_sum,⟨T.n_tuple,trivial⟩⟩⟩⟩⟩⟩⟩⟩⟩⟩⟩⟩⟩⟩⟩ ⟨T.c_MOST_THINGS,trivial⟩ ⟨T.k_JOINS base KI,trivial⟩ trivial trivial ⟨T.k_MANNERS base KI,trivial⟩ trivial trivial) iS (by kernel_rfl)
theorem nN (T:Txt P w K mg)(KI:K.In base)(F:ax K mg "find_splits" bQ ["ups","x"]):DefL P w K mg base true 1 "find_splits" di:=
 pX (G:={ G0 with fns:=[] }) { sc:=ae bQ,N:=["ups","x","at","steps","above"],own:=["ups"],lent:=true } F kh (iR ⟨T.n_abs,⟨T.n_all,⟨T.n_bool,⟨T.n_enumerate,⟨T.n_int,⟨T.n_isinstance,⟨T.n_len,⟨T.n_list,⟨T.n_max,⟨T.n_min,⟨T.n_range,⟨T.n_sorted,⟨T.n_str,⟨T.n_sum,⟨T.n_tuple,trivial⟩⟩⟩⟩⟩⟩⟩⟩⟩⟩⟩⟩⟩⟩⟩ ⟨T.c_MOST_THINGS,trivial⟩ ⟨T.k_JOINS base KI,trivial⟩ trivial trivial ⟨T.k_MANNERS base KI,trivial⟩ trivial trivial) iS (by kernel_rfl)
theorem uQ (T:Txt P w K mg)(KI:K.In base)(F:ax K mg "find_one" dN ["ups","x"])(d_find_none:DefN P w K mg base true 1 "find_none" aE):DefN P w K mg base true 2 "find_one" vY:=
 bf (G:={ G0 with fns:=[("find_none",aE)] }) { sc:=ae dN,N:=["ups","x","head","steps"],own:=["ups"] } F nj (iR ⟨T.n_abs,⟨T.n_all,⟨T.n_bool,⟨T.n_enumerate,⟨T.n_int,⟨T.n_isinstance,⟨T.n_len,⟨T.n_list,⟨T.n_max,⟨T.n_min,⟨T.n_range,⟨T.n_sorted,⟨T.n_str,⟨T.n_sum,⟨T.n_tuple,trivial⟩⟩⟩⟩⟩⟩⟩⟩⟩⟩⟩⟩⟩⟩⟩ ⟨T.c_MOST_THINGS,trivial⟩ ⟨T.k_JOINS base KI,trivial⟩ trivial ⟨⟨_,by decide,d_find_none⟩,trivial⟩ ⟨T.k_MANNERS base KI,trivial⟩ trivial trivial) iS (by kernel_rfl)
theorem sq (T:Txt P w K mg)(KI:K.In base)(F:ax K mg "find_one" dN ["ups","x"])(d_find_none:DefN P w K mg base true 1 "find_none" aE):DefL P w K mg base true 2 "find_one" gk:=
 pX (G:={ G0 with fns:=[("find_none",aE)] }) { sc:=ae dN,N:=["ups","x","head","steps"],own:=["ups"],lent:=true } F nj (iR ⟨T.n_abs,⟨T.n_all,⟨T.n_bool,⟨T.n_enumerate,⟨T.n_int,⟨T.n_isinstance,⟨T.n_len,⟨T.n_list,⟨T.n_max,⟨T.n_min,⟨T.n_range,⟨T.n_sorted,⟨T.n_str,⟨T.n_sum,⟨T.n_tuple,trivial⟩⟩⟩⟩⟩⟩⟩⟩⟩⟩⟩⟩⟩⟩⟩ ⟨T.c_MOST_THINGS,trivial⟩ ⟨T.k_JOINS base KI,trivial⟩ trivial ⟨⟨_,by decide,d_find_none⟩,trivial⟩ ⟨T.k_MANNERS base KI,trivial⟩ trivial trivial) iS (by kernel_rfl)
theorem vj (T:Txt P w K mg)(KI:K.In base)(F:ax K mg "is_short" gb ["thing"]):DefN P w K mg base true 1 "is_short" gL:=
 bf (G:={ G0 with fns:=[] }) { sc:=ae gb,N:=["thing"] } F uk (iR ⟨T.n_abs,⟨T.n_all,⟨T.n_bool,⟨T.n_enumerate,⟨T.n_int,⟨T.n_isinstance,⟨T.n_len,⟨T.n_list,⟨T.n_max,⟨T.n_min,⟨T.n_range,⟨T.n_sorted,⟨T.n_str,⟨T.n_sum,⟨T.n_tuple,trivial⟩⟩⟩⟩⟩⟩⟩⟩⟩⟩⟩⟩⟩⟩⟩ ⟨T.c_MOST_THINGS,trivial⟩ ⟨T.k_JOINS base KI,trivial⟩ trivial trivial ⟨T.k_MANNERS base KI,trivial⟩ trivial trivial) iS (by kernel_rfl)
theorem oG (T:Txt P w K mg)(KI:K.In base)(F:ax K mg "check_short" cY ["short"])(d_is_short:DefN P w K mg base true 1 "is_short" gL):DefN P w K mg base true 2 "check_short" d6:=
 bf (G:={ G0 with fns:=[("is_short",gL)] }) { sc:=ae cY,N:=["short"] } F pE (iR ⟨T.n_abs,⟨T.n_all,⟨T.n_bool,⟨T.n_enumerate,⟨T.n_int,⟨T.n_isinstance,⟨T.n_len,⟨T.n_list,⟨T.n_max,⟨T.n_min,⟨T.n_range,⟨T.n_sorted,⟨T.n_str,⟨T.n_sum,⟨T.n_tuple,trivial⟩⟩⟩⟩⟩⟩⟩⟩⟩⟩⟩⟩⟩⟩⟩ ⟨T.c_MOST_THINGS,trivial⟩ ⟨T.k_JOINS base KI,trivial⟩ trivial ⟨⟨_,by decide,d_is_short⟩,trivial⟩ ⟨T.k_MANNERS base KI,trivial⟩ trivial trivial) iS (by kernel_rfl)
theorem sA (T:Txt P w K mg)(KI:K.In base)(F:ax K mg "new_store" eO ["many","join","short"])(d_check_many:DefN P w K mg base true 3 "check_many" cP)(d_check_join:DefN P w K mg base true 2 "check_join" gE)(d_check_short:DefN P w K mg base true 2 "check_short" d6):DefN P w K mg base true 4 "new_store" gn:=
 bf (G:={ G0 with fns:=[("check_many",cP),("check_join",gE),("check_short",d6)] }) { sc:=ae eO,N:=["many","join","short","mark"],alt:=[(137,25)] } F sf (iR ⟨T.n_abs,⟨T.n_all,⟨T.n_bool,⟨T.n_enumerate,⟨T.n_int,⟨T.n_isinstance,⟨T.n_len,⟨T.n_list,⟨T.n_max,⟨T.n_min,⟨T.n_range,⟨T.n_sorted,⟨T.n_str,⟨T.n_sum,⟨T.n_tuple,trivial⟩⟩⟩⟩⟩⟩⟩⟩⟩⟩⟩⟩⟩⟩⟩ ⟨T.c_MOST_THINGS,trivial⟩ ⟨T.k_JOINS base KI,trivial⟩ trivial ⟨⟨_,by decide,d_check_many⟩,⟨⟨_,by decide,d_check_join⟩,⟨⟨_,by decide,d_check_short⟩,trivial⟩⟩⟩ ⟨T.k_MANNERS base KI,trivial⟩ trivial trivial) iS (by kernel_rfl)
theorem vR (T:Txt P w K mg)(KI:K.In base)(F:ax K mg "find_in" gU ["ups","short","x"])(l_find_none:DefL P w K mg base true 1 "find_none" fw)(l_find_whole:DefL P w K mg base true 2 "find_whole" d0)(l_find_halves:DefL P w K mg base true 1 "find_halves" dD)(l_find_splits:DefL P w K mg base true 1 "find_splits" di)(l_find_one:DefL P w K mg base true 2 "find_one" gk):DefN P w K mg base true 3 "find_in" gS:=
 bf (G:={ G0 with fns:=[],lents:=[("find_none",fw),("find_whole",d0),("find_halves",dD),("find_splits",di),("find_one",gk)] }) { sc:=ae gU,N:=["ups","short","x","behind","manner","head","steps"],own:=["behind"] } F wa (iR ⟨T.n_abs,⟨T.n_all,⟨T.n_bool,⟨T.n_enumerate,⟨T.n_int,⟨T.n_isinstance,⟨T.n_len,⟨T.n_list,⟨T.n_max,⟨T.n_min,⟨T.n_range,⟨T.n_sorted,⟨T.n_str,⟨T.n_sum,⟨T.n_tuple,trivial⟩⟩⟩⟩⟩⟩⟩⟩⟩⟩⟩⟩⟩⟩⟩ ⟨T.c_MOST_THINGS,trivial⟩ ⟨T.k_JOINS base KI,trivial⟩ trivial trivial ⟨T.k_MANNERS base KI,trivial⟩ trivial ⟨⟨_,by decide,l_find_none⟩,⟨⟨_,by decide,l_find_whole⟩,⟨⟨_,by decide,l_find_halves⟩,⟨⟨_,by decide,l_find_splits⟩,⟨⟨_,by decide,l_find_one⟩,trivial⟩⟩⟩⟩⟩) iS (by kernel_rfl)
theorem zq (T:Txt P w K mg)(KI:K.In base)(F:ax K mg "copied" iD ["numbers"]):DefN P w K mg base true 1 "copied" jz:=
 bf (G:={ G0 with fns:=[] }) { sc:=ae iD,N:=["numbers"] } F zm (iR ⟨T.n_abs,⟨T.n_all,⟨T.n_bool,⟨T.n_enumerate,⟨T.n_int,⟨T.n_isinstance,⟨T.n_len,⟨T.n_list,⟨T.n_max,⟨T.n_min,⟨T.n_range,⟨T.n_sorted,⟨T.n_str,⟨T.n_sum,⟨T.n_tuple,trivial⟩⟩⟩⟩⟩⟩⟩⟩⟩⟩⟩⟩⟩⟩⟩ ⟨T.c_MOST_THINGS,trivial⟩ ⟨T.k_JOINS base KI,trivial⟩ trivial trivial ⟨T.k_MANNERS base KI,trivial⟩ trivial trivial) iS (by kernel_rfl)
theorem tH (T:Txt P w K mg)(KI:K.In base)(F:ax K mg "find_done" eW ["store","x"])(d_find_in:DefN P w K mg base true 3 "find_in" gS)(d_copied:DefN P w K mg base true 1 "copied" jz):DefN P w K mg base true 4 "find_done" eY:=
 bf (G:={ G0 with fns:=[("find_in",gS),("copied",jz)] }) { sc:=ae eW,N:=["store","x","join","short","ups","marks","head","behind","steps"] } F sN (iR ⟨T.n_abs,⟨T.n_all,⟨T.n_bool,⟨T.n_enumerate,⟨T.n_int,⟨T.n_isinstance,⟨T.n_len,⟨T.n_list,⟨T.n_max,⟨T.n_min,⟨T.n_range,⟨T.n_sorted,⟨T.n_str,⟨T.n_sum,⟨T.n_tuple,trivial⟩⟩⟩⟩⟩⟩⟩⟩⟩⟩⟩⟩⟩⟩⟩ ⟨T.c_MOST_THINGS,trivial⟩ ⟨T.k_JOINS base KI,trivial⟩ trivial ⟨⟨_,by decide,d_find_in⟩,⟨⟨_,by decide,d_copied⟩,trivial⟩⟩ ⟨T.k_MANNERS base KI,trivial⟩ trivial trivial) iS (by kernel_rfl)
theorem pF (T:Txt P w K mg)(KI:K.In base)(F:ax K mg "first_stays" cZ ["join","marks","first","second"]):DefN P w K mg base true 1 "first_stays" d8:=
 bf (G:={ G0 with fns:=[] }) { sc:=ae cZ,N:=["join","marks","first","second"] } F p4 (iR ⟨T.n_abs,⟨T.n_all,⟨T.n_bool,⟨T.n_enumerate,⟨T.n_int,⟨T.n_isinstance,⟨T.n_len,⟨T.n_list,⟨T.n_max,⟨T.n_min,⟨T.n_range,⟨T.n_sorted,⟨T.n_str,⟨T.n_sum,⟨T.n_tuple,trivial⟩⟩⟩⟩⟩⟩⟩⟩⟩⟩⟩⟩⟩⟩⟩ ⟨T.c_MOST_THINGS,trivial⟩ ⟨T.k_JOINS base KI,trivial⟩ trivial trivial ⟨T.k_MANNERS base KI,trivial⟩ trivial trivial) iS (by kernel_rfl)
theorem oZ (T:Txt P w K mg)(KI:K.In base)(F:ax K mg "mark_behind" df ["join","top","under"]):DefN P w K mg base true 1 "mark_behind" d4:=
 bf (G:={ G0 with fns:=[] }) { sc:=ae df,N:=["join","top","under"] } F o3 (iR ⟨T.n_abs,⟨T.n_all,⟨T.n_bool,⟨T.n_enumerate,⟨T.n_int,⟨T.n_isinstance,⟨T.n_len,⟨T.n_list,⟨T.n_max,⟨T.n_min,⟨T.n_range,⟨T.n_sorted,⟨T.n_str,⟨T.n_sum,⟨T.n_tuple,trivial⟩⟩⟩⟩⟩⟩⟩⟩⟩⟩⟩⟩⟩⟩⟩ ⟨T.c_MOST_THINGS,trivial⟩ ⟨T.k_JOINS base KI,trivial⟩ trivial trivial ⟨T.k_MANNERS base KI,trivial⟩ trivial trivial) iS (by kernel_rfl)
theorem kw (T:Txt P w K mg)(KI:K.In base)(F:ax K mg "with_heads_joined" aR ["store","first","second"])(d_first_stays:DefN P w K mg base true 1 "first_stays" d8)(d_mark_behind:DefN P w K mg base true 1 "mark_behind" d4):DefN P w K mg base true 2 "with_heads_joined" bv:=
 bf (G:={ G0 with fns:=[("first_stays",d8),("mark_behind",d4)] }) { sc:=ae aR,N:=["store","first","second","join","short","ups","marks","stays","top","under","new_ups","new_marks"],own:=["new_marks","new_ups"] } F j6 (iR ⟨T.n_abs,⟨T.n_all,⟨T.n_bool,⟨T.n_enumerate,⟨T.n_int,⟨T.n_isinstance,⟨T.n_len,⟨T.n_list,⟨T.n_max,⟨T.n_min,⟨T.n_range,⟨T.n_sorted,⟨T.n_str,⟨T.n_sum,⟨T.n_tuple,trivial⟩⟩⟩⟩⟩⟩⟩⟩⟩⟩⟩⟩⟩⟩⟩ ⟨T.c_MOST_THINGS,trivial⟩ ⟨T.k_JOINS base KI,trivial⟩ trivial ⟨⟨_,by decide,d_first_stays⟩,⟨⟨_,by decide,d_mark_behind⟩,trivial⟩⟩ ⟨T.k_MANNERS base KI,trivial⟩ trivial trivial) iS (by kernel_rfl)
theorem r4 (T:Txt P w K mg)(KI:K.In base)(F:ax K mg "join_done" eX ["store","x","y"])(d_find_done:DefN P w K mg base true 4 "find_done" eY)(d_with_heads_joined:DefN P w K mg base true 2 "with_heads_joined" bv):DefN P w K mg base true 5 "join_done" e9:=
 bf (G:={ G0 with fns:=[("find_done",eY),("with_heads_joined",bv)] }) { sc:=ae eX,N:=["store","x","y","after_x","first","steps_x","after_y","second","steps_y","steps"] } F tz (iR ⟨T.n_abs,⟨T.n_all,⟨T.n_bool,⟨T.n_enumerate,⟨T.n_int,⟨T.n_isinstance,⟨T.n_len,⟨T.n_list,⟨T.n_max,⟨T.n_min,⟨T.n_range,⟨T.n_sorted,⟨T.n_str,⟨T.n_sum,⟨T.n_tuple,trivial⟩⟩⟩⟩⟩⟩⟩⟩⟩⟩⟩⟩⟩⟩⟩ ⟨T.c_MOST_THINGS,trivial⟩ ⟨T.k_JOINS base KI,trivial⟩ trivial ⟨⟨_,by decide,d_find_done⟩,⟨⟨_,by decide,d_with_heads_joined⟩,trivial⟩⟩ ⟨T.k_MANNERS base KI,trivial⟩ trivial trivial) iS (by kernel_rfl)
theorem kQ (T:Txt P w K mg)(KI:K.In base)(F:ax K mg "forest_and_times" aX ["many","row"])(d_new_store:DefN P w K mg base true 4 "new_store" gn)(d_join_done:DefN P w K mg base true 5 "join_done" e9):DefN P w K mg base true 6 "forest_and_times" bN:=
 bf (G:={ G0 with fns:=[("new_store",gn),("join_done",e9)] }) { sc:=ae aX,N:=["many","row","store","times","number","x","y","behind","real","steps","thing"],own:=["times"] } F kR (iR ⟨T.n_abs,⟨T.n_all,⟨T.n_bool,⟨T.n_enumerate,⟨T.n_int,⟨T.n_isinstance,⟨T.n_len,⟨T.n_list,⟨T.n_max,⟨T.n_min,⟨T.n_range,⟨T.n_sorted,⟨T.n_str,⟨T.n_sum,⟨T.n_tuple,trivial⟩⟩⟩⟩⟩⟩⟩⟩⟩⟩⟩⟩⟩⟩⟩ ⟨T.c_MOST_THINGS,trivial⟩ ⟨T.k_JOINS base KI,trivial⟩ trivial ⟨⟨_,by decide,d_new_store⟩,⟨⟨_,by decide,d_join_done⟩,trivial⟩⟩ ⟨T.k_MANNERS base KI,trivial⟩ trivial trivial) iS (by kernel_rfl)
theorem nQ (T:Txt P w K mg)(KI:K.In base)(F:ax K mg "real_numbers" b8 ["many","row"])(d_forest_and_times:DefN P w K mg base true 6 "forest_and_times" bN):DefN P w K mg base true 7 "real_numbers" dB:=
 bf (G:={ G0 with fns:=[("forest_and_times",bN)] }) { sc:=ae b8,N:=["many","row","times"],cmp:=[((151,11),["number","times"])] } F nV (iR ⟨T.n_abs,⟨T.n_all,⟨T.n_bool,⟨T.n_enumerate,⟨T.n_int,⟨T.n_isinstance,⟨T.n_len,⟨T.n_list,⟨T.n_max,⟨T.n_min,⟨T.n_range,⟨T.n_sorted,⟨T.n_str,⟨T.n_sum,⟨T.n_tuple,trivial⟩⟩⟩⟩⟩⟩⟩⟩⟩⟩⟩⟩⟩⟩⟩ ⟨T.c_MOST_THINGS,trivial⟩ ⟨T.k_JOINS base KI,trivial⟩ trivial ⟨⟨_,by decide,d_forest_and_times⟩,trivial⟩ ⟨T.k_MANNERS base KI,trivial⟩ trivial trivial) iS (by kernel_rfl)
theorem sa (T:Txt P w K mg)(KI:K.In base)(F:ax K mg "chosen_in" eK ["many","ties"])(d_real_numbers:DefN P w K mg base true 7 "real_numbers" dB):DefN P w K mg base true 8 "chosen_in" gl:=
 bf (G:={ G0 with fns:=[("real_numbers",dB)] }) { sc:=ae eK,N:=["many","ties","order","joins"],alt:=[(159,17)],cmp:=[((157,19),["number","x","y","weight"]),((158,12),["weight","number","ties"]),((159,24),["at","order"])] } F tE (iR ⟨T.n_abs,⟨T.n_all,⟨T.n_bool,⟨T.n_enumerate,⟨T.n_int,⟨T.n_isinstance,⟨T.n_len,⟨T.n_list,⟨T.n_max,⟨T.n_min,⟨T.n_range,⟨T.n_sorted,⟨T.n_str,⟨T.n_sum,⟨T.n_tuple,trivial⟩⟩⟩⟩⟩⟩⟩⟩⟩⟩⟩⟩⟩⟩⟩ ⟨T.c_MOST_THINGS,trivial⟩ ⟨T.k_JOINS base KI,trivial⟩ trivial ⟨⟨_,by decide,d_real_numbers⟩,trivial⟩ ⟨T.k_MANNERS base KI,trivial⟩ trivial trivial) iS (by kernel_rfl)
theorem nS (T:Txt P w K mg)(KI:K.In base)(F:ax K mg "least_forest" b9 ["many","ties"])(d_check_web:DefN P w K mg base true 7 "check_web" gm)(d_chosen_in:DefN P w K mg base true 8 "chosen_in" gl):DefN P w K mg base true 9 "least_forest" bn:=
 bf (G:={ G0 with fns:=[("check_web",gm),("chosen_in",gl)] }) { sc:=ae b9,N:=["many","ties","chosen"],cmp:=[((163,16),["number","ties"])] } F nX (iR ⟨T.n_abs,⟨T.n_all,⟨T.n_bool,⟨T.n_enumerate,⟨T.n_int,⟨T.n_isinstance,⟨T.n_len,⟨T.n_list,⟨T.n_max,⟨T.n_min,⟨T.n_range,⟨T.n_sorted,⟨T.n_str,⟨T.n_sum,⟨T.n_tuple,trivial⟩⟩⟩⟩⟩⟩⟩⟩⟩⟩⟩⟩⟩⟩⟩ ⟨T.c_MOST_THINGS,trivial⟩ ⟨T.k_JOINS base KI,trivial⟩ trivial ⟨⟨_,by decide,d_check_web⟩,⟨⟨_,by decide,d_chosen_in⟩,trivial⟩⟩ ⟨T.k_MANNERS base KI,trivial⟩ trivial trivial) iS (by kernel_rfl)
theorem lJ (T:Txt P w K mg)(KI:K.In base)(F:ax K mg "_law_forest_by" bM ["_law_many_here","_law_ties_here"]):DefN P w K mg base true 1 "_law_forest_by" b6:=
 bf (G:={ G0 with fns:=[] }) { sc:=ae bM,N:=["_law_many_here","_law_ties_here","_law_lots","_law_chosen","_law_weight","_law_k","_law_x","_law_y"],own:=["_law_chosen"],alt:=[(224,11)],cmp:=[((219,38),["_law_k","_law_ties_here"]),((223,24),["_law_name","_law_y","_law_x"])] } F lU (iR ⟨T.n_abs,⟨T.n_all,⟨T.n_bool,⟨T.n_enumerate,⟨T.n_int,⟨T.n_isinstance,⟨T.n_len,⟨T.n_list,⟨T.n_max,⟨T.n_min,⟨T.n_range,⟨T.n_sorted,⟨T.n_str,⟨T.n_sum,⟨T.n_tuple,trivial⟩⟩⟩⟩⟩⟩⟩⟩⟩⟩⟩⟩⟩⟩⟩ ⟨T.c_MOST_THINGS,trivial⟩ ⟨T.k_JOINS base KI,trivial⟩ trivial trivial ⟨T.k_MANNERS base KI,trivial⟩ trivial trivial) iS (by kernel_rfl)
theorem n4 (T:Txt P w K mg)(KI:K.In base)(F:ax K mg "_law_road_by" cf ["_law_ties_here","_law_numbers_here","_law_x","_law_y"]):DefN P w K mg base true 1 "_law_road_by" dr:=
 bf (G:={ G0 with fns:=[] }) { sc:=ae cf,N:=["_law_ties_here","_law_numbers_here","_law_x","_law_y","_law_roads","_law_waiting","_law_here","_law_k","_law_one","_law_other"],own:=["_law_waiting"],dic:=["_law_roads"] } F nT (iR ⟨T.n_abs,⟨T.n_all,⟨T.n_bool,⟨T.n_enumerate,⟨T.n_int,⟨T.n_isinstance,⟨T.n_len,⟨T.n_list,⟨T.n_max,⟨T.n_min,⟨T.n_range,⟨T.n_sorted,⟨T.n_str,⟨T.n_sum,⟨T.n_tuple,trivial⟩⟩⟩⟩⟩⟩⟩⟩⟩⟩⟩⟩⟩⟩⟩ ⟨T.c_MOST_THINGS,trivial⟩ ⟨T.k_JOINS base KI,trivial⟩ trivial trivial ⟨T.k_MANNERS base KI,trivial⟩ trivial trivial) iS (by kernel_rfl)
theorem qC (T:Txt P w K mg)(KI:K.In base)(F:ax K mg "_law_right" dO ["_law_many_here","_law_ties_here"])(d_least_forest:DefN P w K mg base true 9 "least_forest" bn)(d__law_forest_by:DefN P w K mg base true 1 "_law_forest_by" b6)(d__law_road_by:DefN P w K mg base true 1 "_law_road_by" dr):DefN P w K mg base true 10 "_law_right" fy:=
 bf (G:={ G0 with fns:=[("least_forest",bn),("_law_forest_by",b6),("_law_road_by",dr)] }) { sc:=ae dO,N:=["_law_many_here","_law_ties_here","_law_told","_law_chosen","_law_k","_law_road","_law_ahead"],cmp:=[((248,61),["_law_k","_law_ties_here"]),((254,21),["_law_j","_law_ties_here","_law_k"])] } F qG (iR ⟨T.n_abs,⟨T.n_all,⟨T.n_bool,⟨T.n_enumerate,⟨T.n_int,⟨T.n_isinstance,⟨T.n_len,⟨T.n_list,⟨T.n_max,⟨T.n_min,⟨T.n_range,⟨T.n_sorted,⟨T.n_str,⟨T.n_sum,⟨T.n_tuple,trivial⟩⟩⟩⟩⟩⟩⟩⟩⟩⟩⟩⟩⟩⟩⟩ ⟨T.c_MOST_THINGS,trivial⟩ ⟨T.k_JOINS base KI,trivial⟩ trivial ⟨⟨_,by decide,d_least_forest⟩,⟨⟨_,by decide,d__law_forest_by⟩,⟨⟨_,by decide,d__law_road_by⟩,trivial⟩⟩⟩ ⟨T.k_MANNERS base KI,trivial⟩ trivial trivial) iS (by kernel_rfl)
theorem nK (T:Txt P w K mg)(KI:K.In base)(F:ax K mg "_law_lots_by" ce ["_law_many_here","_law_pairs"]):DefN P w K mg base true 1 "_law_lots_by" bp:=
 bf (G:={ G0 with fns:=[] }) { sc:=ae ce,N:=["_law_many_here","_law_pairs","_law_lots","_law_x","_law_y","_law_one","_law_other"],alt:=[(206,112)],cmp:=[((201,16),["_law_x"]),((203,19),["_law_lot","_law_x"]),((204,21),["_law_lot","_law_y"]),((206,24),["_law_lot","_law_one","_law_other"])] } F nO (iR ⟨T.n_abs,⟨T.n_all,⟨T.n_bool,⟨T.n_enumerate,⟨T.n_int,⟨T.n_isinstance,⟨T.n_len,⟨T.n_list,⟨T.n_max,⟨T.n_min,⟨T.n_range,⟨T.n_sorted,⟨T.n_str,⟨T.n_sum,⟨T.n_tuple,trivial⟩⟩⟩⟩⟩⟩⟩⟩⟩⟩⟩⟩⟩⟩⟩ ⟨T.c_MOST_THINGS,trivial⟩ ⟨T.k_JOINS base KI,trivial⟩ trivial trivial ⟨T.k_MANNERS base KI,trivial⟩ trivial trivial) iS (by kernel_rfl)
theorem lB (T:Txt P w K mg)(KI:K.In base)(F:ax K mg "_law_sets_right" bj ["_law_many_here","_law_ties_here","_law_worth"])(d__law_lots_by:DefN P w K mg base true 1 "_law_lots_by" bp):DefN P w K mg base true 2 "_law_sets_right" cO:=
 bf (G:={ G0 with fns:=[("_law_lots_by",bp)] }) { sc:=ae bj,N:=["_law_many_here","_law_ties_here","_law_worth","_law_pieces_due","_law_sets","_law_tie","_law_part","_law_lots"],cmp:=[((236,51),["_law_tie"]),((239,32),["_law_part","_law_tie"]),((241,49),["_law_tie"]),((242,48),["_law_tie"])] } F lp (iR ⟨T.n_abs,⟨T.n_all,⟨T.n_bool,⟨T.n_enumerate,⟨T.n_int,⟨T.n_isinstance,⟨T.n_len,⟨T.n_list,⟨T.n_max,⟨T.n_min,⟨T.n_range,⟨T.n_sorted,⟨T.n_str,⟨T.n_sum,⟨T.n_tuple,trivial⟩⟩⟩⟩⟩⟩⟩⟩⟩⟩⟩⟩⟩⟩⟩ ⟨T.c_MOST_THINGS,trivial⟩ ⟨T.k_JOINS base KI,trivial⟩ trivial ⟨⟨_,by decide,d__law_lots_by⟩,trivial⟩ ⟨T.k_MANNERS base KI,trivial⟩ trivial trivial) iS (by kernel_rfl)
end
end K60
end
section
namespace Fo
open PySem
noncomputable def Bk (us:List Nat):Nat->Nat->List Nat
 |0,x=>[x]
 |n+1,x=>if up us x=x then [x] else x::Bk us n (up us x)
noncomputable def way (us:List Nat)(x:Nat):List Nat:=Bk us us.length x
theorem ES {us:List Nat}{x:Nat}{l:List Nat}(w:Way us x l):∀{n:Nat},l.length≤n+1->Bk us n x=l:=by
 induction w with
 | @head x e=>
  intro n h
  cases n with
  |zero=>rfl
  |succ n=>rw[Bk,if_pos e]
 | @step x l ne w ih=>
  intro n h
  cases n with
  |zero=>have:=w.pos;rw[List.length_cons] at h;omega
  |succ n=>rw[Bk,if_neg ne,ih (by simpa using h)]
theorem mV {us:List Nat}{x:Nat}{l:List Nat}(f:Fst us)(hx:x<us.length)(w:Way us x l):way us x=l:=by
 obtain⟨l',w',h⟩:=f.way hx
 cases w.det w'
 exact ES w (by omega)
theorem eM {us:List Nat}{x:Nat}(f:Fst us)(hx:x<us.length):Way us x (way us x):=by
 obtain⟨l,w,_⟩:=f.way hx
 rw[mV f hx w];exact w
theorem lX {us:List Nat}{x:Nat}(f:Fst us)(hx:x<us.length):(way us x).length≤us.length:=by
 obtain⟨l,w,h⟩:=f.way hx
 rw[mV f hx w];exact h
noncomputable def hd (us:List Nat)(x:Nat):Nat:=gQ (way us x)
noncomputable def dp (us:List Nat)(x:Nat):Nat:=(way us x).length - 1
noncomputable def jE (y:Str)(us:List Nat)(x t:Nat):Nat:=
 if y = "whole" then (if t∈way us x then hd us x else up us t)
 else if y = "halves" then (if t∈jS (way us x) then up us (up us t) else up us t)
 else if y = "splits" then (if t∈way us x then up us (up us t) else up us t)
 else if y = "one" then (if t=x then up us (up us t) else up us t)
 else up us t
noncomputable def hZ (y:Str)(us:List Nat)(x:Nat):List Nat:=(List.range us.length).map (jE y us x)
noncomputable def stp (y:Str)(us:List Nat)(x:Nat):Nat:=if y = "halves" then (way us x).length / 2 else dp us x
theorem og {us:List Nat}{t:Nat}(h:us.length≤t):up us t=0:=by
 unfold up;rw[List.getD_eq_getElem?_getD,List.getElem?_eq_none h];rfl
theorem fW (y:Str)(us:List Nat)(x:Nat):(hZ y us x).length=us.length:=by unfold hZ;rw[List.length_map,List.length_range]
theorem sI {y:Str}{us:List Nat}{x t:Nat}(h:t<us.length):up (hZ y us x) t=jE y us x t:=by
 unfold up hZ
 rw[List.getD_eq_getElem?_getD,List.getElem?_map,List.getElem?_range h];rfl
theorem kr {y:Str}{us us':List Nat}{x:Nat}(hl:us'.length=us.length)(h:∀t,t<us.length->up us' t=jE y us x t):us'=hZ y us x:=by
 refine HS (by rw[hl,fW]) fun t=>?_
 by_cases ht:t<us.length
 ·rw[h t ht,sI ht]
 ·rw[og (by omega),og (by rw[fW];omega)]
end Fo
namespace Dp
open PySem L2 Dp Fo
end Dp
namespace Lo
open PySem Fo Dp
end Lo
end
section
namespace Fo
open PySem L2
theorem jF {us:List Nat}{x t:Nat}(f:Fst us)(hx:x<us.length)(h:t∈way us x):t<us.length:=(eM f hx).lt f.bnd hx t h
theorem Af {us:List Nat}(f:Fst us){x:Nat}(hx:x<us.length){y:Str}(hy:y∈cj):RM y us x (hd us x) (hZ y us x) (stp y us x):=by
 have w:=eM f hx
 have pos:=w.pos
 have low:∀t,us.length≤t->up (hZ y us x) t=0/\up us t=0/\t∉way us x:=fun t ht=>⟨og (by rw[fW];omega),og ht,fun q=>by have:=jF f hx q;omega⟩
 have hdp:dp us x+1=(way us x).length:=by unfold dp;omega
 rcases (show y = "none"\/y = "whole"\/y = "halves"\/y = "splits"\/y = "one" by simpa [cj] using hy) with rfl|rfl|rfl|rfl|rfl
 ·exact .none ⟨(kr rfl fun t ht=>rfl).symm,_,w,rfl,hdp⟩
 ·refine .whole ⟨_,w,rfl,hdp,fW ..,fun t=>?_⟩
  by_cases ht:t<us.length
  ·rw[sI ht];rfl
  ·obtain⟨a,b,c⟩:=low t (by omega)
   rw[a,b,if_neg c]
 ·refine .halves ⟨_,w,rfl,rfl,fW ..,fun t=>?_⟩
  by_cases ht:t<us.length
  ·rw[sI ht];rfl
  ·obtain⟨a,b,c⟩:=low t (by omega)
   rw[a,b,if_neg fun q=>c (mP _ _ q)]
 ·refine .splits ⟨_,w,rfl,hdp,fW ..,fun t=>?_⟩
  by_cases ht:t<us.length
  ·rw[sI ht];rfl
  ·obtain⟨a,b,c⟩:=low t (by omega)
   rw[a,b,if_neg c]
 ·refine .one ⟨(kr (List.length_set) fun t ht=>?_).symm,_,w,rfl,hdp⟩
  rw[eL hx]
  show (if t=x then up us (up us x) else up us t)=if t=x then up us (up us t) else up us t
  by_cases q:t=x
  ·rw[if_pos q,if_pos q,q]
  ·rw[if_neg q,if_neg q]
theorem lV {us:List Nat}(f:Frst us){x:Nat}(hx:x<us.length){y:Str}(hy:y∈cj):Frst (hZ y us x):=((Af f.fst hx hy).frst f hx).1
theorem vm {us:List Nat}{x:Nat}(f:Fst us)(hx:x<us.length)(e:up us x=x):way us x=[x]:=mV f hx (.head e)
theorem tL {us:List Nat}{x:Nat}(f:Fst us)(hx:x<us.length)(e:up us x≠x):way us x=x::way us (up us x):=mV f hx (.step e (eM f (f.bnd x hx)))
theorem i5 {us:List Nat}{x:Nat}(f:Fst us)(hx:x<us.length)(e:up us x=x):hd us x=x:=by unfold hd;rw[vm f hx e];rfl
theorem D6 {us:List Nat}{x:Nat}(f:Fst us)(hx:x<us.length)(e:up us x≠x):hd us x=hd us (up us x):=by
 unfold hd
 rw[tL f hx e,cH (eM f (f.bnd x hx)).ne]
theorem wQ {us:List Nat}{x:Nat}(f:Fst us)(hx:x<us.length):hd us (up us x)=hd us x:=by
 by_cases e:up us x=x
 ·rw[e]
 ·exact (D6 f hx e).symm
theorem pM {us:List Nat}{x:Nat}(f:Fst us)(hx:x<us.length):up us (hd us x)=hd us x:=(eM f hx).head_last
theorem kW {us:List Nat}{x:Nat}(f:Fst us)(hx:x<us.length):hd us x<us.length:=jF f hx (pB (eM f hx).ne)
theorem Cg {us:List Nat}(f:Fst us){x:Nat}(hx:x<us.length){y:Str}(hy:y∈cj){t:Nat}(ht:t<us.length):hd (hZ y us x) t=hd us t/\dp (hZ y us x) t≤dp us t:=by
 obtain⟨l,L⟩:=(Af f hx hy).left f hx
 obtain⟨l',w',e1,e2⟩:=L.sh.way f ht (eM f ht)
 have f':=L.sh.fst f
 have:=mV f' (by rw[fW];exact ht) w'
 unfold hd dp
 rw[this]
 exact⟨e1,by omega⟩
end Fo
end
section
namespace Dp
open PySem L2 Fo
theorem jG (is:List Int):dG (is.map PV.int)=some is:=by
 induction is with
 |nil=>rfl
 |cons b bs ih=>rw[List.map_cons,dG,ih];rfl
theorem Ka {α:Type}{x:Str}{F:α}:List.lookup x [(x,F)]=some F:=by simp[List.lookup]
theorem wS {y:Str}:∀{xs:List Str} {ps:List PV},ps.length=xs.length->(nu (xs.map Sum.inr) ps (.inr y)).isSome=decide (y∈xs)
 |[],_,_=>rfl
 |x::xs,[],h=>by cases h
 |x::xs,p::ps,h=>by
  rw[List.map_cons]
  show (if (Sum.inr x:fP)=Sum.inr y then some p else nu (xs.map Sum.inr) ps (.inr y)).isSome=_
  by_cases e:x=y
  ·subst e;rw[if_pos rfl];simp
  ·rw[if_neg (fun q=>e (Sum.inr.inj q)),wS (by simpa using h)]
   have:(y∈x::xs)↔y∈xs:=by simp[Ne.symm e]
   simp only[this]
theorem vF (y:Str):gL [.str y]=some (.v (.bl (decide (y∈cj)))):=by
 have h:=wS (y:=y) (xs:=cj) (ps:=[.fn "find_none",.fn "find_whole",.fn "find_halves",.fn "find_splits",.fn "find_one"]) rfl
 have h:(nu [.inr "none",.inr "whole",.inr "halves",.inr "splits",.inr "one"] [.fn "find_none",.fn "find_whole",.fn "find_halves",.fn "find_splits",.fn "find_one"] (.inr y)).isSome=decide (y∈cj):=h
 simp_all! [sZ,jM,h]
theorem x7 {c:FB}{b:FS}(hc:c=fg\/c=dX)(hb':b=gD\/b=fR){t:Sl}{us:List Nat}(ht:t=.val (.lst (af us))\/t=.own (af us))(hb:∀x,x<us.length->up us x<us.length){s1:Option Sl}{y:Nat}{l:List Nat}(w:Way us y l):∀(k:Nat),y<us.length →
  ∀n,l.length<n->cE c b n [some t,s1,some (.val (.int y)),some (.val (.int k))]=.nx [some t,s1,some (.val (.int (gQ l))),some (.val (.int (k+l.length - 1:Nat)))]:=by
 induction w with
 | @head y e=>
  intro k hy n hn
  obtain⟨n,rfl⟩:∃k,n=k+1:=⟨n - 1,by simp at hn;omega⟩
  rw[hU]
  rcases hc with rfl|rfl<;>rcases ht with rfl|rfl <;>
   simp![fg,dX,am hy,e,gQ,List.getLastD_cons]<;>rfl
 | @step y l ne w ih=>
  intro k hy n hn
  obtain⟨n,rfl⟩:∃k,n=k+1:=⟨n - 1,by simp at hn;omega⟩
  have ih:=ih (k+1) (hb y hy) n (by simp at hn;omega)
  have hne:decide ((up us y:Int)=(y:Int))=false:=decide_eq_false (by omega)
  rw[cH w.ne,show k+(y::l).length - 1=k+1+l.length - 1 by rw[List.length_cons];omega]
  rw[hU]
  rcases hc with rfl|rfl<;>rcases hb' with rfl|rfl<;>rcases ht with rfl|rfl <;>
   (simp![fg,gD,dX,fR,am hy,hne];exact ih)
theorem wK {us:List Nat}(f:Frst us){x:Nat}(hx:x<us.length):aE [.lst (af us),.int x]=some (.v (.tup [.int (hd us x),.int (dp us x:Nat)]))/\fw (af us) [.int x]=some (af us,.tup [.int (hd us x),.int (dp us x:Nat)]):=by
 have hl:=lX f.fst hx
 have hm:=f.most
 have e1:=x7 (.inl rfl) (.inl rfl) (t:=.val (.lst (af us))) (.inl rfl) f.fst.bnd (s1:=some (.val (.int x))) (eM f.fst hx) 0 hx 10000 (by omega)
 have e2:=x7 (.inr rfl) (.inr rfl) (t:=.own (af us)) (.inr rfl) f.fst.bnd (s1:=some (.val (.int x))) (eM f.fst hx) 0 hx 10000 (by omega)
 rw[Nat.zero_add] at e1 e2
 have e1:cE fg gD 10000 [some (.val (.lst (af us))),some (.val (.int x)),some (.val (.int x)),some (.val (.int 0))]=_:=e1
 have e2:cE dX fR 10000 [some (.own (af us)),some (.val (.int x)),some (.val (.int x)),some (.val (.int 0))]=_:=e2
 refine⟨by simp![qD,je,e1];rfl,?_⟩
 show lY (iG [some (.own (af us)),some (.val (.int x)),none,none]).res2=_
 simp![iG,e2];rfl
section
variable {us:List Nat}{x t:Nat}
theorem zx:jE "halves" us x t=if t∈jS (way us x) then up us (up us t) else up us t:=by unfold jE;rw[if_neg (by decide),if_pos rfl]
theorem zk:jE "splits" us x t=if t∈way us x then up us (up us t) else up us t:=by unfold jE;rw[if_neg (by decide),if_neg (by decide),if_pos rfl]
theorem GN:jE "one" us x t=if t=x then up us (up us t) else up us t:=by unfold jE;rw[if_neg (by decide),if_neg (by decide),if_neg (by decide),if_pos rfl]
theorem nu_none:jE "none" us x t=up us t:=by unfold jE;rw[if_neg (by decide),if_neg (by decide),if_neg (by decide),if_neg (by decide)]
end
theorem Ln {us:List Nat}(f:Frst us){x:Nat}(hx:x<us.length):up us x<us.length:=f.fst.bnd x hx
theorem J3 {us:List Nat}(f:Frst us){x:Nat}(hx:x<us.length):gk (af us) [.int x]=some (af (us.set x (up us (up us x))),.tup [.int (hd us x),.int (dp us x:Nat)]):=by
 have h1:=am hx
 have h2:=am (Ln f hx)
 have h3:tV us.length (x:Int)=some x:=fU hx
 show lY (jh [some (.own (af us)),some (.val (.int x)),none,none]).res2=_
 simp![jh,(wK f hx).1,h1,h2,h3,nI,iA,tf,Dz,jg]
theorem DS {us:List Nat}(f:Fst us){s1 s3:Option Sl}{h:Nat}{y:Nat}{l:List Nat}(w:Way us y l)(hh:h=gQ l):∀(pre vs:List Nat) (z:Option Sl),(∀t∈pre,t∉l)->vs.length=us.length->(∀t,up vs t=if t∈pre then h else up us t)->y<us.length->∀n,l.length<n →
  ∃vs' z',vs'.length=us.length/\(∀t,up vs' t=if t∈pre\/t∈l then h else up us t)/\cE dm fu n [some (.own (af vs)),s1,some (.val (.int h)),s3,some (.val (.int y)),z]=.nx [some (.own (af vs')),s1,some (.val (.int h)),s3,some (.val (.int h)),z']:=by
 induction w with
 | @head y e=>
  intro pre vs z hp hl hv hy n hn
  obtain⟨n,rfl⟩:∃k,n=k+1:=⟨n - 1,by simp at hn;omega⟩
  obtain rfl:h=y:=hh
  refine⟨vs,z,hl,fun t=>?_,?_⟩
  ·rw[hv t]
   by_cases ht:t=h
   ·subst ht;rw[e];simp
   ·simp[ht]
  ·rw[hU]
   simp![dm]
 | @step y l ne w ih=>
  intro pre vs z hp hl hv hy n hn
  obtain⟨n,rfl⟩:∃k,n=k+1:=⟨n - 1,by simp at hn;omega⟩
  have nd:=(Way.step ne w).nodup f hy
  have hyl:y∉l:=(List.nodup_cons.mp nd).1
  have hyp:y∉pre:=fun q=>hp y q List.mem_cons_self
  rw[cH w.ne] at hh
  have hne:decide ((y:Int)=(h:Int))=false:=decide_eq_false (fun q=>by
   have:y=h:=by omega
   rw[this,hh] at hyl;exact hyl (pB w.ne))
  have hu:up vs y=up us y:=by rw[hv y,if_neg hyp]
  have h1:L2.eH (af vs) (y:Int)=some (nI (up us y)):=by rw[am (by rw[hl];exact hy),hu]
  have h3:tV vs.length (y:Int)=some y:=fU (by rw[hl];exact hy)
  obtain⟨vs',z',a1,a2,a3⟩:=ih hh (y::pre) (vs.set y h) (some (.val (.int (up us y)))) (fun t ht=>by
    rcases List.mem_cons.mp ht with rfl|ht
    ·exact hyl
    ·exact fun q=>hp t ht (List.mem_cons_of_mem _ q)) (by rw[List.length_set];exact hl) (fun t=>by
    rw[eL (by rw[hl];exact hy),hv t]
    by_cases q:t=y
    ·simp[q]
    ·simp[q]) (f.bnd y hy) n (by simp at hn;omega)
  refine⟨vs',z',a1,fun t=>?_,?_⟩
  ·rw[a2 t]
   by_cases q:t=y<;>simp[q]
  ·rw[hU]
   simp![dm,fu,h1,h3,hne,nI,iA]
   exact a3
theorem y9 {us:List Nat}(f:Frst us){x:Nat}(hx:x<us.length):d0 (af us) [.int x]=some (af (hZ "whole" us x),.tup [.int (hd us x),.int (dp us x:Nat)]):=by
 have hl:=lX f.fst hx
 have hm:=f.most
 obtain⟨vs,z,a1,a2,a3⟩:=DS f.fst (s1:=some (.val (.int x))) (s3:=some (.val (.int (dp us x:Nat)))) (eM f.fst hx) rfl [] us none (by simp) rfl (by simp) hx 10000 (by omega)
 have e:vs=hZ "whole" us x:=kr a1 fun t ht=>by rw[a2 t];simp[jE,hd]
 subst e
 have a3:cE dm fu 10000 [some (.own (af us)),some (.val (.int x)),some (.val (.int (hd us x))),some (.val (.int (dp us x:Nat))),some (.val (.int x)),none]=_:=a3
 show lY (ik [some (.own (af us)),some (.val (.int x)),none,none,none,none]).res2=_
 simp![ik,(wK f hx).1,a3,nI,tf,Dz,jg];rfl
theorem DQ {us:List Nat}(f:Fst us){s1:Option Sl}{y:Nat}{l:List Nat}(w:Way us y l):∀(pre vs:List Nat) (k:Nat) (z:Option Sl),(∀t∈pre,t∉l)->vs.length=us.length->(∀t,up vs t=if t∈pre then up us (up us t) else up us t)->y<us.length->∀n,l.length<n →
  ∃vs' z',vs'.length=us.length/\(∀t,up vs' t=if t∈pre\/t∈l then up us (up us t) else up us t)/\cE cW eG n [some (.own (af vs)),s1,some (.val (.int y)),some (.val (.int k)),z]=.nx [some (.own (af vs')),s1,some (.val (.int (gQ l))),some (.val (.int (k+l.length - 1:Nat))),z']:=by
 induction w with
 | @head y e=>
  intro pre vs k z hp hl hv hy n hn
  obtain⟨n,rfl⟩:∃k,n=k+1:=⟨n - 1,by simp at hn;omega⟩
  have hyp:y∉pre:=fun q=>hp y q List.mem_cons_self
  have h1:L2.eH (af vs) (y:Int)=some (nI y):=by rw[am (by rw[hl];exact hy),hv y,if_neg hyp,e]
  refine⟨vs,z,hl,fun t=>?_,?_⟩
  ·rw[hv t]
   by_cases ht:t=y
   ·subst ht;rw[e,e];simp
   ·simp[ht]
  ·rw[hU]
   simp![cW,h1];rfl
 | @step y l ne w ih=>
  intro pre vs k z hp hl hv hy n hn
  obtain⟨n,rfl⟩:∃k,n=k+1:=⟨n - 1,by simp at hn;omega⟩
  have nd:=(Way.step ne w).nodup f hy
  have hyl:y∉l:=(List.nodup_cons.mp nd).1
  have hyp:y∉pre:=fun q=>hp y q List.mem_cons_self
  have ha:=f.bnd y hy
  have hap:up us y∉pre:=fun q=>hp _ q (List.mem_cons_of_mem _ w.mem_self)
  have hne:decide ((up us y:Int)=(y:Int))=false:=decide_eq_false (by omega)
  have h1:L2.eH (af vs) (y:Int)=some (nI (up us y)):=by rw[am (by rw[hl];exact hy),hv y,if_neg hyp]
  have h2:L2.eH (af vs) (up us y:Int)=some (nI (up us (up us y))):=by rw[am (by rw[hl];exact ha),hv _,if_neg hap]
  have h3:tV vs.length (y:Int)=some y:=fU (by rw[hl];exact hy)
  obtain⟨vs',z',a1,a2,a3⟩:=ih (y::pre) (vs.set y (up us (up us y))) (k+1) (some (.val (.int (up us y)))) (fun t ht=>by
    rcases List.mem_cons.mp ht with rfl|ht
    ·exact hyl
    ·exact fun q=>hp t ht (List.mem_cons_of_mem _ q)) (by rw[List.length_set];exact hl) (fun t=>by
    rw[eL (by rw[hl];exact hy),hv t]
    by_cases q:t=y
    ·simp[q]
    ·simp[q]) ha n (by simp at hn;omega)
  refine⟨vs',z',a1,fun t=>?_,?_⟩
  ·rw[a2 t]
   by_cases q:t=y<;>simp[q]
  ·rw[cH w.ne,show k+(y::l).length - 1=k+1+l.length - 1 by rw[List.length_cons];omega]
   rw[hU]
   simp![cW,eG,h1,h2,h3,hne,nI,iA]
   exact a3
theorem vN {us:List Nat}(f:Frst us){x:Nat}(hx:x<us.length):di (af us) [.int x]=some (af (hZ "splits" us x),.tup [.int (hd us x),.int (dp us x:Nat)]):=by
 have hl:=lX f.fst hx
 have hm:=f.most
 obtain⟨vs,z,a1,a2,a3⟩:=DQ f.fst (s1:=some (.val (.int x))) (eM f.fst hx) [] us 0 none (by simp) rfl (by simp) hx 10000 (by omega)
 have e:vs=hZ "splits" us x:=kr a1 fun t ht=>by
  rw[a2 t,zk]
  simp only[List.not_mem_nil,false_or]
 subst e
 rw[Nat.zero_add] at a3
 have a3:cE cW eG 10000 [some (.own (af us)),some (.val (.int x)),some (.val (.int x)),some (.val (.int 0)),none]=_:=a3
 show lY (gP [some (.own (af us)),some (.val (.int x)),none,none,none]).res2=_
 simp![gP,a3];rfl
theorem EC {us:List Nat}(f:Fst us){s1:Option Sl}:∀(m:Nat) {y:Nat} {l:List Nat},l.length≤m->Way us y l->∀(pre vs:List Nat) (k:Nat),(∀t∈pre,t∉l)->vs.length=us.length->(∀t,up vs t=if t∈pre then up us (up us t) else up us t)->y<us.length->∀n,l.length<n →
  ∃vs',vs'.length=us.length/\(∀t,up vs' t=if t∈pre\/t∈jS l then up us (up us t) else up us t)/\cE cL eD n [some (.own (af vs)),s1,some (.val (.int y)),some (.val (.int k))]=.nx [some (.own (af vs')),s1,some (.val (.int (gQ l))),some (.val (.int (k+l.length / 2:Nat)))]:=by
 intro m
 induction m with
 |zero=>intro y l hm w;have:=w.pos;omega
 |succ m ih=>
  intro y l hm w pre vs k hp hl hv hy n hn
  obtain⟨n,rfl⟩:∃k,n=k+1:=⟨n - 1,by have:=w.pos;omega⟩
  have hyp:y∉pre:=fun q=>hp y q w.mem_self
  have h0:L2.eH (af vs) (y:Int)=some (nI (up us y)):=by rw[am (by rw[hl];exact hy),hv y,if_neg hyp]
  cases w with
  |head e=>
   refine⟨vs,hl,fun t=>?_,?_⟩
   ·rw[hv t]
    by_cases ht:t=y
    ·subst ht;rw[e,e];simp
    ·simp[ht,jS]
   ·rw[hU]
    simp![cL,h0,e];rfl
  | @step _ l ne w=>
   have nd:=(Way.step ne w).nodup f hy
   have hyl:y∉l:=(List.nodup_cons.mp nd).1
   have ha:=f.bnd y hy
   have hap:up us y∉pre:=fun q=>hp _ q (List.mem_cons_of_mem _ w.mem_self)
   have hb:=f.bnd _ ha
   have hne:decide ((up us y:Int)=(y:Int))=false:=decide_eq_false (by omega)
   have h2:L2.eH (af vs) (up us y:Int)=some (nI (up us (up us y))):=by rw[am (by rw[hl];exact ha),hv _,if_neg hap]
   have h3:tV vs.length (y:Int)=some y:=fU (by rw[hl];exact hy)
   have hs:(vs.set y (up us (up us y))).length=us.length:=by rw[List.length_set];exact hl
   have hu:∀t,up (vs.set y (up us (up us y))) t=if t∈y::pre then up us (up us t) else up us t:=fun t=>by
    rw[eL (by rw[hl];exact hy),hv t]
    by_cases q:t=y
    ·simp[q]
    ·simp[q]
   have h4:L2.eH (af (vs.set y (up us (up us y)))) (y:Int)=some (nI (up us (up us y))):=by rw[am (by rw[hs];exact hy),hu y,if_pos List.mem_cons_self]
   obtain⟨l2,w2,e2,e3,e4,e5⟩:∃l2,Way us (up us (up us y)) l2/\l2.length / 2+1=(l.length+1) / 2/\gQ l2=gQ l/\(∀t,t∈l2->t∈l)/\l2.length≤l.length/\∀t,(t∈jS (y::l)↔t=y\/t∈jS l2)\/up us (up us t)=up us t:=by
    cases w with
    |head e=>exact⟨[up us y],by rw[e];exact .head e,(by show 1 / 2+1=(1+1) / 2;decide),rfl,fun t h=>h,Nat.le_refl _,fun t=>by
      by_cases q:t=up us y
      ·subst q;exact .inr (by rw[e,e])
      ·exact .inl (by show t∈[y]↔t=y\/t∈[up us y];rw[List.mem_singleton,List.mem_singleton];exact⟨.inl,fun h=>h.resolve_right q⟩)⟩
    | @step _ l2 ne2 w2=>exact⟨l2,w2,by simp only[List.length_cons];omega,(cH w2.ne).symm,fun t h=>List.mem_cons_of_mem _ h,by simp,fun t=>.inl (by simp[jS])⟩
   obtain⟨e5,e6⟩:=e5
   obtain⟨vs',a1,a2,a3⟩:=ih (y:=up us (up us y)) (l:=l2) (by simp at hm;omega) w2 (y::pre) _ (k+1) (fun t ht=>by
    rcases List.mem_cons.mp ht with rfl|ht
    ·exact fun q=>hyl (e4 _ q)
    ·exact fun q=>hp t ht (List.mem_cons_of_mem _ (e4 _ q))) hs hu hb n (by simp at hn;omega)
   refine⟨vs',a1,fun t=>?_,?_⟩
   ·rw[a2 t]
    rcases e6 t with q|q
    ·simp only[List.mem_cons,q]
     by_cases h1:t=y<;>by_cases h2:t∈pre<;>by_cases h3:t∈jS l2<;>simp[h1,h2,h3]
    ·rw[q];simp
   ·rw[cH w.ne,←e3,show k+(y::l).length / 2=k+1+l2.length / 2 by rw[List.length_cons];omega]
    rw[hU]
    simp![cL,eD,h0,h2,h3,hne,nI,iA,h4]
    exact a3
theorem wJ {us:List Nat}(f:Frst us){x:Nat}(hx:x<us.length):dD (af us) [.int x]=some (af (hZ "halves" us x),.tup [.int (hd us x),.int ((way us x).length / 2:Nat)]):=by
 have hl:=lX f.fst hx
 have hm:=f.most
 obtain⟨vs,a1,a2,a3⟩:=EC f.fst (s1:=some (.val (.int x))) _ (Nat.le_refl _) (eM f.fst hx) [] us 0 (by simp) rfl (by simp) hx 10000 (by omega)
 have e:vs=hZ "halves" us x:=kr a1 fun t ht=>by
  rw[a2 t,zx]
  simp only[List.not_mem_nil,false_or]
 subst e
 rw[Nat.zero_add] at a3
 have a3:cE cL eD 10000 [some (.own (af us)),some (.val (.int x)),some (.val (.int x)),some (.val (.int 0))]=_:=a3
 show lY (gY [some (.own (af us)),some (.val (.int x)),none,none]).res2=_
 simp![gY,a3];rfl
theorem zK {us:List Nat}(f:Frst us){y:Str}(hy:y∈cj){x:Nat}(hx:x<us.length):gS [.tup (af us),.str y,nI x]=some (.v (.tup [nI (hd us x),.tup (af (hZ y us x)),nI (stp y us x)])):=by
 have one:us.set x (up us (up us x))=hZ "one" us x:=(kr List.length_set fun t ht=>by
  rw[eL hx,GN]
  by_cases q:t=x
  ·rw[if_pos q,if_pos q,q]
  ·rw[if_neg q,if_neg q])
 have non:us=hZ "none" us x:=kr rfl fun t ht=>nu_none.symm
 have key:∀(y:Str) (F:oI) (g:Str) (n:Nat),nu [.inr "none",.inr "whole",.inr "halves",.inr "splits",.inr "one"] [.fn "find_none",.fn "find_whole",.fn "find_halves",.fn "find_splits",.fn "find_one"] (.inr y)=some (.fn g)->List.lookup g [("find_none",fw),("find_whole",d0),("find_halves",dD),("find_splits",di),("find_one",gk)]=some F →
   F (af us) [.int x]=some (af (hZ y us x),.tup [.int (hd us x),.int (n:Nat)])->gS [.tup (af us),.str y,nI x]=some (.v (.tup [nI (hd us x),.tup (af (hZ y us x)),nI n])):=fun y F g n h1 h2 h3=>by
  simp![uM,j0,h1,h2,h3,nI]
 rcases (show y = "none"\/y = "whole"\/y = "halves"\/y = "splits"\/y = "one" by simpa [cj] using hy) with rfl|rfl|rfl|rfl|rfl
 ·exact key _ _ _ _ rfl rfl (by rw[←non];exact (wK f hx).2)
 ·exact key _ _ _ _ rfl rfl (y9 f hx)
 ·exact key _ _ _ _ rfl rfl (wJ f hx)
 ·exact key _ _ _ _ rfl rfl (vN f hx)
 ·exact key _ _ _ _ rfl rfl (by rw[←one];exact J3 f hx)
end Dp
end
section
namespace Dp
open PySem L2 Fo Dp
theorem sx {t:FT}{f:FE}{ρ:aj}(g:PV->PV):∀{its:List PV},(∀p∈its,(t p ρ).bind (fun ρ2=>(f ρ2).bind RV.fr)=some (g p))->lj t gj f ρ its=some (its.map g):=fun {its}=>by
 induction its with
 |nil=>intro _;rfl
 |cons p ps ih=>
  intro h
  have h1:=h p List.mem_cons_self
  have h2:=ih fun q hq=>h q (List.mem_cons_of_mem _ hq)
  obtain⟨ρ2,e1,h1⟩:=Option.bind_eq_some_iff.mp h1
  obtain⟨r,e2,h1⟩:=Option.bind_eq_some_iff.mp h1
  rw[lj,e1,h2]
  show (f ρ2).bind _=_
  rw[e2]
  show r.fr.bind _=_
  rw[h1];rfl
theorem kM {t:FT}{f:FE}{ρ:aj}(g:Nat->PV){us:List Nat}(h:∀u∈us,(t (.int u) ρ).bind (fun ρ2=>(f ρ2).bind RV.fr)=some (g u)):lj t gj f ρ (af us)=some (us.map g):=by
 have e:(af us).map (fun p=>match p with|.int i=>g i.toNat|_=>.non)=us.map g:=by
  unfold af;rw[List.map_map];exact List.map_congr_left fun u _=>rfl
 rw[←e]
 refine sx _ fun p hp=>?_
 obtain⟨u,hu,rfl⟩:=uZ hp
 exact h u hu
theorem mU {t:FT}{c:FB}{f:FE}{ρ:aj}(b:PV->Bool)(g:PV->PV):∀{its:List PV},(∀p∈its,∃ρ2,t p ρ=some ρ2/\c ρ2=some (b p)/\(b p=true->(f ρ2).bind RV.fr=some (g p)))->lj t c f ρ its=some ((its.filter b).map g):=fun {its}=>by
 induction its with
 |nil=>intro _;rfl
 |cons p ps ih=>
  intro h
  obtain⟨ρ2,e1,e2,h1⟩:=h p List.mem_cons_self
  have h2:=ih fun q hq=>h q (List.mem_cons_of_mem _ hq)
  rw[lj,e1]
  show (c ρ2).bind _=_
  rw[e2]
  cases hb:b p with
  |true=>
   obtain⟨r,e3,e4⟩:=Option.bind_eq_some_iff.mp (h1 hb)
   rw[List.filter_cons_of_pos hb]
   show (f ρ2).bind _=_
   rw[e3]
   show r.fr.bind _=_
   rw[e4,h2];rfl
  |false=>
   rw[List.filter_cons_of_neg (by rw[hb];exact Bool.false_ne_true)]
   exact h2
theorem K1 {n:Nat}(h:n≤100000):lq [.int n]=some (af (List.range n))/\tS [.int n]=some (.fz (.rng 0 n))/\jR [.rng 0 n]=some (.nw (af (List.range n))):=by
 refine⟨?_,?_,?_⟩
 ·rw[Il,FZ,decide_eq_true (by omega),decide_eq_true (by omega),Int.toNat_natCast,Ef];rfl
 ·rw[D9,if_pos ⟨by omega,by omega⟩]
 ·rw[BK,if_pos ⟨rfl,by omega,by omega⟩,Int.toNat_natCast,Ef]
theorem Nl {j:Int}(h0:0≤j)(h:j≤100000):lq [.int j]=some (af (List.range j.toNat))/\tS [.int j]=some (.fz (.rng 0 j))/\jR [.rng 0 j]=some (.nw (af (List.range j.toNat))):=by
 have:=K1 (n:=j.toNat) (by omega)
 rwa [Int.toNat_of_nonneg h0] at this
theorem K2 {n:Nat}(h:n≤100000):Bp [.int 1,.int n]=some (af ((List.range (n - 1)).map (·+1))):=by
 have a:CK 1=true:=by decide
 have b:CK n=true:=by rw[FZ,decide_eq_true (by omega),decide_eq_true (by omega)];rfl
 rw[Hf,a,b,show ((n:Int) - 1).toNat=n - 1 by omega,LN];rfl
theorem tx (i:Int):bX [.int i]=some (.v (.bl true)):=by
 simp_all! [tF,jI]
theorem Gp {i:Int}(h1:1≤i)(h2:i≤40):gX [.int i]=some (.v (.bl true)):=by
 simp_all! [uc,ku,tx,decide_eq_true h1,decide_eq_true h2]
theorem Ex (m x:Int):fZ [.int m,.int x]=some (.v (.bl (decide (0≤x/\x<m)))):=by
 simp_all! [se,jJ,tx]
 by_cases h:0≤x
 ·simp_all! [decide_eq_true h,h]
 ·simp_all! [decide_eq_false h,h,false_and]
theorem Cj {y:Str}(hy:y∈cj):d6 [.str y]=some (.v .non):=by
 simp_all! [nR,im,vF,decide_eq_true hy]
theorem LZ {a b:PV}{c:Bool}:L2.eH [a,b] (if c=true then 1 else 0)=some (if c=true then b else a):=by
 cases c<;>rfl
theorem sC {s0 s1:Option Sl}(vs:List PV):∀(xs:List Nat) (st dg:Int) (z:Option Sl),(∀v∈vs,∃i:Int,v=.int i)->0≤st->st<1999999973->0≤dg->xs.length+vs.length≤1000 →
  ∃(xs':List Nat) (st' dg':Int) (z':Option Sl),xs'.length=xs.length+vs.length/\aZ (gN 5) eB vs [s0,s1,some (.own (af xs)),some (.val (.int st)),some (.val (.int dg)),z]=.nx [s0,s1,some (.own (af xs')),some (.val (.int st')),some (.val (.int dg')),z']:=by
 induction vs with
 |nil=>intro xs st dg z _ _ _ _ _;exact⟨xs,st,dg,z,rfl,rfl⟩
 |cons v vs ih=>
  intro xs st dg z hv h1 h2 h3 hl
  obtain⟨i,rfl⟩:=hv v List.mem_cons_self
  have m1:=Int.emod_nonneg st (show (65521:Int)≠0 by decide)
  have cm1:(st.natAbs<2 ^ 64\/(st % 65521+40487).natAbs<2 ^ 64)=True:=eq_true (.inl (by omega))
  have cm2:((7:Int).natAbs<2 ^ 64\/i.natAbs<2 ^ 64)=True:=eq_true (.inl (by decide))
  have hlen:(af xs).length≤100000:=by rw[dW];simp at hl;omega
  have b1:0≤(st * (st % 65521+40487)+7 * i+5) % 1999999973:=Int.emod_nonneg _ (by decide)
  have b2:(st * (st % 65521+40487)+7 * i+5) % 1999999973<1999999973:=Int.emod_lt_of_pos _ (by decide)
  have d1:=Int.emod_nonneg dg (show (1000000:Int)≠0 by decide)
  have hlen':xs.length≤100000:=by rwa [dW] at hlen
  rw[eV]
  simp![eB,cm1,cm2,LZ,hlen']
  generalize (st * (st % 65521+40487)+7 * i+5) % 1999999973=st' at b1 b2
  have hv':(if decide (0<dg)=true then PV.int (dg % 1000000) else PV.int st')=nI (if decide (0<dg)=true then dg % 1000000 else st').toNat:=by
   split<;>rw[K4 (by omega)]
  rw[hv',nI,jo]
  obtain⟨xs',st2,dg2,z2,e1,e2⟩:=ih (xs++[(if decide (0<dg)=true then dg % 1000000 else st').toNat]) st' (dg / 1000000) (some (.val (.int i))) (fun u hu=>hv u (List.mem_cons_of_mem _ hu)) b1 b2 (Int.ediv_nonneg h3 (by decide)) (by simp at hl ⊢;omega)
  exact⟨xs',st2,dg2,z2,by rw[e1,List.length_append];simp;omega,e2⟩
theorem ju (c n:Int)(h0:0≤n)(hn:n≤1000):∃xs:List Nat,xs.length=n.toNat/\aw [.int c,.int n]=some (.n (af xs)):=by
 have b1:0≤(c % 1999999973+31) * 765432101 % 1999999973:=Int.emod_nonneg _ (by decide)
 have b2:(c % 1999999973+31) * 765432101 % 1999999973<1999999973:=Int.emod_lt_of_pos _ (by decide)
 have cm:((c % 1999999973+31).natAbs<2 ^ 64\/(765432101:Int).natAbs<2 ^ 64)=True:=eq_true (.inr (by decide))
 have k1:=(Nl h0 (show n≤100000 by omega)).1
 have ab:0≤(if c<0 then -c else c):=by split<;>omega
 have fin:∀dg:Int,0≤dg->∃(xs:List Nat) (st' dg':Int) (z':Option Sl),xs.length=n.toNat/\aZ (gN 5) eB (af (List.range n.toNat)) [some (.val (.int c)),some (.val (.int n)),some (.own (af [])),some (.val (.int ((c % 1999999973+31) * 765432101 % 1999999973))),some (.val (.int dg)),none]=.nx [some (.val (.int c)),some (.val (.int n)),some (.own (af xs)),some (.val (.int st')),some (.val (.int dg')),z']:=fun dg hd=>by
  obtain⟨xs,st',dg',z',e1,e2⟩:=sC (s0:=some (.val (.int c))) (s1:=some (.val (.int n))) (qd 0 n.toNat) [] _ dg none (fun v hv=>by obtain⟨i,e,_⟩:=HW hv;exact⟨i,e⟩) b1 b2 hd (by rw[yi];simp;omega)
  rw[Ef] at e2
  exact⟨xs,st',dg',z',by rw[e1,yi];simp,e2⟩
 have hp:(10:Int) ^ 18=1000000000000000000:=by decide
 by_cases hc:c<0
 ·obtain⟨xs,st',dg',z',e1,e2⟩:=fin _ ab
  rw[oX] at e2
  refine⟨xs,e1,?_⟩
  simp![gH,dz,cm,k1,decide_eq_true hc,e2]
 ·by_cases hd:1000000000000000000≤c
  ·obtain⟨xs,st',dg',z',e1,e2⟩:=fin _ ab
   rw[oX] at e2
   refine⟨xs,e1,?_⟩
   simp![gH,dz,cm,k1,decide_eq_false hc,show (0:Int)≤18/\(18:Int)≤1000000/\(10:Int).natAbs<2 ^ 64 from by decide,decide_eq_true hd,e2]
  ·obtain⟨xs,st',dg',z',e1,e2⟩:=fin 0 (by decide)
   rw[oX] at e2
   refine⟨xs,e1,?_⟩
   simp![gH,dz,cm,k1,decide_eq_false hc,show (0:Int)≤18/\(18:Int)≤1000000/\(10:Int).natAbs<2 ^ 64 from by decide,decide_eq_false hd,e2]
theorem zL {s0 s1:Option Sl}(ns:List Int):∀(st:Int) (z:Option Sl),∃(st':Int) (z':Option Sl),aZ (gN 3) gt (iL ns) [s0,s1,some (.val (.int st)),z]=.nx [s0,s1,some (.val (.int st')),z']:=by
 induction ns with
 |nil=>intro st z;exact⟨st,z,rfl⟩
 |cons n ns ih=>
  intro st z
  have cm:(st.natAbs<2 ^ 64\/(69621:Int).natAbs<2 ^ 64)=True:=eq_true (.inr (by decide))
  show ∃st' z',aZ (gN 3) gt (.int n::iL ns) _=_
  rw[eV]
  simp![gt,cm]
  exact ih _ _
theorem oE (ns:List Int)(k:Int)(h0:0≤k)(hk:k≤1000):∃i:Int,aD [.src (iL ns),.int k]=some (.v (.int i)):=by
 by_cases hl:k<ns.length
 ·have hk':k.toNat<ns.length:=by omega
  have e:L2.eH (iL ns) k=some (.int ns[k.toNat]):=by
   have:=gF (ps:=iL ns) (x:=k.toNat) (p:=.int ns[k.toNat]) (by unfold iL;rw[List.getElem?_map,List.getElem?_eq_getElem hk'];rfl)
   rwa [Int.toNat_of_nonneg h0] at this
  exact⟨ns[k.toNat],by simp![ld,hO,BA,decide_eq_true hl,e]⟩
 ·have c1:(k.natAbs<2 ^ 64)=True:=eq_true (by omega)
  have c2:((48271:Int).natAbs<2 ^ 64)=True:=eq_true (by decide)
  have c3:((7:Int).natAbs<2 ^ 64)=True:=eq_true (by decide)
  obtain⟨st',z',e⟩:=zL (s0:=some (.val (.src (iL ns)))) (s1:=some (.val (.int k))) (nZ ns none (some 3)) (48271 * (k * k+7 * k+11) % 2147483647) none
  refine⟨st',?_⟩
  simp![ld,hO,BA,decide_eq_false hl,c1,c2,c3,true_or,Ie,e]
theorem Ec (x:Nat):∃n:Nat,1≤n/\n≤40/\ic [.int x]=some (.v (.int n)):=by
 have a1:=Int.emod_nonneg ((x:Int) / 8) (show (12:Int)≠0 by decide)
 have a2:=Int.emod_lt_of_pos ((x:Int) / 8) (show (0:Int)<12 by decide)
 have a3:=Int.emod_nonneg ((x:Int) / 8) (show (40:Int)≠0 by decide)
 have a4:=Int.emod_lt_of_pos ((x:Int) / 8) (show (0:Int)<40 by decide)
 by_cases h:(x:Int) % 8=3
 ·refine⟨(1+(x:Int) / 8 % 40).toNat,by omega,by omega,?_⟩
  simp![kT,g9,LZ,decide_eq_true h]
  rw[Int.toNat_of_nonneg (by omega)]
 ·refine⟨(1+(x:Int) / 8 % 12).toNat,by omega,by omega,?_⟩
  simp![kT,g9,LZ,decide_eq_false h]
  rw[Int.toNat_of_nonneg (by omega)]
end Dp
end
section
namespace Pt
open L2 Fo
noncomputable def cl (n:Nat)(c:Nat->Nat)(x:Nat):List Nat:=(List.range n).filter fun y=>decide (c y=c x)
theorem mem_cl {n:Nat}{c:Nat->Nat}{x y:Nat}:y∈cl n c x↔y<n/\c y=c x:=by
 unfold cl;rw[List.mem_filter,List.mem_range,decide_eq_true_eq]
theorem qb {n:Nat}{c c':Nat->Nat}{x x':Nat}(h:∀y,y<n->(c y=c x↔c' y=c' x')):cl n c x=cl n c' x':=
 List.filter_congr fun y hy=>by rw[decide_eq_decide];exact h y (List.mem_range.mp hy)
theorem jU {n:Nat}{c:Nat->Nat}{x y:Nat}(hx:x<n):cl n c x=cl n c y↔c x=c y:=by
 constructor
 ·intro e
  exact (mem_cl.mp (e▸mem_cl.mpr ⟨hx,rfl⟩)).2
 ·intro e;exact qb fun z _=>by rw[e]
theorem uY (n:Nat)(c:Nat->Nat)(x:Nat):(cl n c x).Pairwise (· < ·):=(List.pairwise_lt_range).filter _
theorem wB (n:Nat)(c:Nat->Nat)(x:Nat):(cl n c x).length≤n:=by
 have:=List.length_filter_le (fun y=>decide (c y=c x)) (List.range n)
 rwa [List.length_range] at this
structure Part (n:Nat)(c:Nat->Nat)(ls:List (List Nat)):Prop where
 cls:∀l∈ls,∃x,x<n/\l=cl n c x
 all:∀x,x<n->cl n c x∈ls
 nd:ls.Nodup
 len:ls.length≤n
theorem Part.pick {n:Nat}{c:Nat->Nat}{ls:List (List Nat)}(P:Part n c ls){x:Nat}(hx:x<n):ls.filter (fun l=>decide (x∈l))=[cl n c x]:=by
 have e:ls.filter (fun l=>decide (x∈l))=ls.filter fun l=>l==cl n c x:=List.filter_congr fun l hl=>by
  obtain⟨z,hz,rfl⟩:=P.cls l hl
  rw[Bool.eq_iff_iff,decide_eq_true_eq,beq_iff_eq,mem_cl,jU hz]
  exact⟨fun h=>h.2.symm,fun h=>⟨hx,h.symm⟩⟩
 rw[e,List.filter_beq,P.nd.count,if_pos (P.all x hx)];rfl
theorem ym (n:Nat):Part n id ((List.range n).map fun x=>[x]):=by
 have e:∀x,x<n->cl n id x=[x]:=fun x hx=>by
  have:cl n id x=(List.range n).filter (·==x):=List.filter_congr fun y _=>by rw[Bool.eq_iff_iff,decide_eq_true_eq,beq_iff_eq];exact Iff.rfl
  rw[this,List.filter_beq,List.nodup_range.count,if_pos (List.mem_range.mpr hx)];rfl
 refine⟨fun l hl=>?_,fun x hx=>?_,?_,?_⟩
 ·obtain⟨x,hx,rfl⟩:=List.mem_map.mp hl
  exact⟨x,List.mem_range.mp hx,(e x (List.mem_range.mp hx)).symm⟩
 ·rw[e x hx];exact List.mem_map.mpr ⟨x,List.mem_range.mpr hx,rfl⟩
 ·refine List.nodup_range.map _ fun a b h z=>h (by simpa using z)
 ·rw[List.length_map,List.length_range];exact Nat.le_refl _
noncomputable def jn (c:Nat->Nat)(x y:Nat):Nat->Nat:=fun z=>if c z=c x then c y else c z
theorem ma {c:Nat->Nat}{x y:Nat}(h:c x=c y):jn c x y=c:=funext fun z=>by
 unfold jn;split
 ·next e=>rw[e,h]
 ·rfl
theorem Gf {n:Nat}{c:Nat->Nat}{x y:Nat}(h:c x≠c y):oH ((cl n c x++cl n c y).map Int.ofNat)=(cl n (jn c x y) x).map Int.ofNat:=by
 refine (sW (List.Perm.map _ ?_) ?_).symm
 ·refine (List.perm_ext_iff_of_nodup ((uY n _ x).imp fun h=>Nat.ne_of_lt h) ?_).mpr fun z=>?_
  ·refine List.nodup_append.mpr ⟨(uY n _ x).imp fun h=>Nat.ne_of_lt h,(uY n _ y).imp fun h=>Nat.ne_of_lt h,fun a ha b hb e=>?_⟩
   subst e
   exact h ((mem_cl.mp ha).2.symm.trans (mem_cl.mp hb).2)
  ·rw[List.mem_append,mem_cl,mem_cl,mem_cl]
   unfold jn
   rw[if_pos rfl]
   by_cases e:c z=c x
   ·rw[if_pos e];exact⟨fun q=>.inl ⟨q.1,e⟩,fun q=>⟨q.elim (·.1) (·.1),rfl⟩⟩
   ·rw[if_neg e];exact⟨fun q=>.inr q,fun q=>q.elim (fun q=>absurd q.2 e) id⟩
 ·rw[List.pairwise_map]
  exact (uY n _ x).imp fun h=>by show Int.ofNat _≤Int.ofNat _;exact Int.ofNat_le.mpr (Nat.le_of_lt h)
theorem Part.join {n:Nat}{c:Nat->Nat}{ls:List (List Nat)}(P:Part n c ls){x y:Nat}(hx:x<n)(hy:y<n)(h:c x≠c y):Part n (jn c x y) (ls.filter (fun l=>!(decide (l=cl n c x) || decide (l=cl n c y)))++[cl n (jn c x y) x]):=by
 have keep:∀z,c z≠c x->c z≠c y->cl n (jn c x y) z=cl n c z:=fun z h1 h2=>qb fun w _=>by
  unfold jn
  rw[if_neg h1]
  by_cases e:c w=c x
  ·rw[if_pos e,e];exact⟨fun q=>absurd q.symm h2,fun q=>absurd q.symm h1⟩
  ·rw[if_neg e]
 have jx:∀z,c z=c x\/c z=c y->jn c x y z=jn c x y x:=fun z hz=>by
  unfold jn
  rw[if_pos rfl]
  rcases hz with e|e
  ·rw[if_pos e]
  ·rw[e];split<;>rfl
 refine⟨fun l hl=>?_,fun z hz=>?_,?_,?_⟩
 ·rcases List.mem_append.mp hl with hl|hl
  ·obtain⟨h1,h2⟩:=List.mem_filter.mp hl
   obtain⟨z,hz,rfl⟩:=P.cls l h1
   rw[Bool.not_eq_true',Bool.or_eq_false_iff,decide_eq_false_iff_not,decide_eq_false_iff_not,jU hz,jU hz] at h2
   exact⟨z,hz,(keep z h2.1 h2.2).symm⟩
  ·exact⟨x,hx,List.mem_singleton.mp hl⟩
 ·by_cases e:c z=c x\/c z=c y
  ·exact List.mem_append_right _ (List.mem_singleton.mpr ((jU hz).mpr (jx z e)))
  ·have e1:c z≠c x:=fun q=>e (.inl q)
   have e2:c z≠c y:=fun q=>e (.inr q)
   rw[keep z e1 e2]
   refine List.mem_append_left _ (List.mem_filter.mpr ⟨P.all z hz,?_⟩)
   rw[Bool.not_eq_true',Bool.or_eq_false_iff,decide_eq_false_iff_not,decide_eq_false_iff_not,jU hz,jU hz]
   exact⟨e1,e2⟩
 ·refine List.nodup_append.mpr ⟨P.nd.filter _,(by simp),fun a ha b hb e=>?_⟩
  subst e
  obtain⟨h1,h2⟩:=List.mem_filter.mp ha
  obtain⟨z,hz,rfl⟩:=P.cls a h1
  rw[Bool.not_eq_true',Bool.or_eq_false_iff,decide_eq_false_iff_not,decide_eq_false_iff_not,jU hz,jU hz] at h2
  have hm:x∈cl n c z:=by rw[List.mem_singleton.mp hb];exact mem_cl.mpr ⟨hx,rfl⟩
  exact h2.1 (mem_cl.mp hm).2.symm
 ·rw[List.length_append,List.length_singleton]
  have:(ls.filter (fun l=>!(decide (l=cl n c x) || decide (l=cl n c y)))).length<ls.length:=List.length_filter_lt_length_iff_exists.mpr ⟨_,P.all x hx,by simp⟩
  have:=P.len
  omega
noncomputable def fj (ps:List (Nat×Nat))(c:Nat->Nat):Nat->Nat:=ps.foldl (fun c p=>jn c p.1 p.2) c
theorem mh (p:Nat×Nat)(ps:List (Nat×Nat))(c:Nat->Nat):fj (p::ps) c=fj ps (jn c p.1 p.2):=rfl
theorem pQ:∀(ps:List (Nat×Nat)) (c:Nat->Nat) (a b:Nat),c a=c b->fj ps c a=fj ps c b
 |[],_,_,_,h=>h
 |p::ps,c,a,b,h=>by
  rw[mh]
  exact pQ ps _ a b (by unfold jn;rw[h])
theorem fQ:∀(ps:List (Nat×Nat)) (c:Nat->Nat) (a b:Nat),(a,b)∈ps->fj ps c a=fj ps c b
 |p::ps,c,a,b,h=>by
  rw[mh]
  rcases List.mem_cons.mp h with e|h
  ·cases e
   refine pQ ps _ a b ?_
   unfold jn
   rw[if_pos rfl]
   split<;>rfl
  ·exact fQ ps _ a b h
theorem j9 {f:Nat->Nat}:∀(ps:List (Nat×Nat)) (c:Nat->Nat),(∀p∈ps,f p.1=f p.2)->(∀a b,c a=c b->f a=f b)->∀a b,fj ps c a=fj ps c b->f a=f b
 |[],_,_,h=>h
 |p::ps,c,hp,h=>by
  rw[mh]
  have e:=hp p List.mem_cons_self
  refine j9 ps _ (fun q hq=>hp q (List.mem_cons_of_mem _ hq)) fun a b z=>?_
  unfold jn at z
  by_cases h1:c a=c p.1
  ·rw[if_pos h1] at z
   by_cases h2:c b=c p.1
   ·exact h a b (h1.trans h2.symm)
   ·rw[if_neg h2] at z
    rw[h a p.1 h1,e];exact h _ _ z
  ·rw[if_neg h1] at z
   by_cases h2:c b=c p.1
   ·rw[if_pos h2] at z
    rw[h b p.1 h2,e];exact h _ _ z
   ·rw[if_neg h2] at z;exact h _ _ z
noncomputable def qt (c:Nat->Nat)(x:Nat):Bool:=decide (∀y,y<x->c y≠c x)
noncomputable def b7 (n:Nat)(c:Nat->Nat):List (List Nat):=((List.range n).filter (qt c)).map (cl n c)
theorem Jj {c:Nat->Nat}:∀x,∃z,z≤x/\c z=c x/\qt c z=true:=fun x=>by
 induction x using Nat.strongRecOn with
 |_ x ih=>
  by_cases h:qt c x=true
  ·exact⟨x,Nat.le_refl _,rfl,h⟩
  ·unfold qt at h
   rw[decide_eq_true_eq] at h
   have:∃y,y<x/\c y=c x:=Decidable.byContradiction fun q=>h fun y hy e=>q ⟨y,hy,e⟩
   obtain⟨y,hy,e⟩:=this
   obtain⟨z,h1,h2,h3⟩:=ih y hy
   exact⟨z,by omega,h2.trans e,h3⟩
theorem mem_lots {n:Nat}{c:Nat->Nat}{l:List Nat}:l∈b7 n c↔∃x,x<n/\l=cl n c x:=by
 unfold b7
 rw[List.mem_map]
 constructor
 ·rintro⟨x,hx,rfl⟩
  exact⟨x,List.mem_range.mp (List.mem_filter.mp hx).1,rfl⟩
 ·rintro⟨x,hx,rfl⟩
  obtain⟨z,h1,h2,h3⟩:=Jj (c:=c) x
  exact⟨z,List.mem_filter.mpr ⟨List.mem_range.mpr (by omega),h3⟩,(jU (by omega)).mpr h2⟩
theorem uW {n:Nat}{c:Nat->Nat}{x:Nat}(hx:x<n)(h:qt c x=true):∃t,cl n c x=x::t:=by
 unfold qt at h
 rw[decide_eq_true_eq] at h
 cases e:cl n c x with
 |nil=>
  have:x∈cl n c x:=mem_cl.mpr ⟨hx,rfl⟩
  rw[e] at this;cases this
 |cons a t=>
  have u:=uY n c x
  rw[e,List.pairwise_cons] at u
  have hm:x∈cl n c x:=mem_cl.mpr ⟨hx,rfl⟩
  have ha:a∈cl n c x:=by rw[e];exact List.mem_cons_self
  rw[e] at hm
  rcases List.mem_cons.mp hm with rfl|hm
  ·exact⟨t,rfl⟩
  ·exact absurd (mem_cl.mp ha).2 (h a (u.1 x hm))
theorem qS (n:Nat)(c:Nat->Nat):((b7 n c).map fun l=>l.map Int.ofNat).Pairwise fun a b=>qe a b=true:=by
 unfold b7
 rw[List.map_map,List.pairwise_map]
 refine ((List.pairwise_lt_range).filter _).imp_of_mem fun {a b} ha hb h=>?_
 obtain⟨ha1,ha2⟩:=List.mem_filter.mp ha
 obtain⟨hb1,hb2⟩:=List.mem_filter.mp hb
 obtain⟨t,e⟩:=uW (List.mem_range.mp ha1) ha2
 obtain⟨t',e'⟩:=uW (List.mem_range.mp hb1) hb2
 show qe ((cl n c a).map Int.ofNat) ((cl n c b).map Int.ofNat)=true
 rw[e,e',List.map_cons,List.map_cons,jA,if_neg (fun z=>by have:=Int.ofNat.inj z;omega)]
 exact decide_eq_true (Int.ofNat_lt.mpr h)
theorem wD {n:Nat}{c c':Nat->Nat}(h:∀x y,x<n->y<n->(c x=c y↔c' x=c' y)):b7 n c=b7 n c':=by
 unfold b7
 have e:(List.range n).filter (qt c)=(List.range n).filter (qt c'):=List.filter_congr fun x hx=>by
  have hx:=List.mem_range.mp hx
  unfold qt
  rw[decide_eq_decide]
  exact⟨fun q y hy z=>q y hy ((h y x (by omega) hx).mpr z),fun q y hy z=>q y hy ((h y x (by omega) hx).mp z)⟩
 rw[e]
 exact List.map_congr_left fun x hx=>qb fun y hy=>h y x hy (List.mem_range.mp (List.mem_filter.mp hx).1)
theorem Part.sorted {n:Nat}{c:Nat->Nat}{ls:List (List Nat)}(P:Part n c ls){ks:List (List Int)}(e:ks=ls.map fun l=>l.map Int.ofNat):(lW ks).map (fun i=>ks.getD i [])=(b7 n c).map fun l=>l.map Int.ofNat:=by
 have inj:∀a b:List Nat,a≠b->a.map Int.ofNat≠b.map Int.ofNat:=fun a b h z=>h (List.map_inj_right (fun _ _ q=>Int.ofNat.inj q) |>.mp z)
 have nd:ks.Nodup:=by rw[e];exact P.nd.map _ inj
 obtain⟨hp,hu⟩:=wT nd
 refine yB (lt:=fun a b=>qe a b=true) (fun a z=>by rw[oq] at z;cases z) (fun a b d=>vC a b d) hu (qS n c) fun a=>?_
 rw[hp.mem_iff,e,List.mem_map,List.mem_map]
 constructor
 ·rintro⟨l,hl,rfl⟩
  exact⟨l,mem_lots.mpr (P.cls l hl),rfl⟩
 ·rintro⟨l,hl,rfl⟩
  obtain⟨x,hx,rfl⟩:=mem_lots.mp hl
  exact⟨_,P.all x hx,rfl⟩
end Pt
end
section
namespace Dp
open PySem PySem.Spec L2 Fo
noncomputable abbrev Sg:=Nat×Nat×PV
inductive Trk (S:List Sg) (x:Nat):Nat->List PV->List Nat->Prop where
 |nil:Trk S x x [] [x]
 |snoc {a e:Nat} {l:PV} {r:List PV} {vs:List Nat}:Trk S x a r vs->(a,e,l)∈S->Trk S x e (r++[l]) (vs++[e])
theorem Trk.len {S:List Sg}{x e:Nat}{r:List PV}{vs:List Nat}(t:Trk S x e r vs):vs.length=r.length+1:=by
 induction t with
 |nil=>rfl
 |snoc _ _ ih=>rw[List.length_append,List.length_append,ih];rfl
noncomputable abbrev qc:=List (Nat×List PV)
noncomputable def rK (K:qc):List fP:=K.map fun t=>Sum.inl ((t.1:Nat):Int)
noncomputable def rP (K:qc):List PV:=K.map fun t=>.tup t.2
theorem yR (y:Nat):∀K:qc,nu (rK K) (rP K) (.inl ((y:Nat):Int))=(K.find? fun t=>decide (t.1=y)).map fun t=>.tup t.2
 |[]=>rfl
 |t::K=>by
  show (if (Sum.inl ((t.1:Nat):Int):fP)=.inl (y:Int) then some (PV.tup t.2) else nu (rK K) (rP K) _)=_
  rw[List.find?_cons,yR y K]
  by_cases h:t.1=y
  ·rw[if_pos (by rw[h]),decide_eq_true h];rfl
  ·rw[if_neg (fun q=>h (by have:=Sum.inl.inj q;omega)),decide_eq_false h]
theorem HR (y:Nat)(K:qc):(rK K).any (fun j=>decide (j=(Sum.inl ((y:Nat):Int):fP)))=decide (y∈K.map (·.1)):=by
 unfold rK
 rw[List.any_map,Bool.eq_iff_iff,List.any_eq_true,decide_eq_true_iff,List.mem_map]
 constructor
 ·rintro⟨t,ht,e⟩
  have:=Sum.inl.inj (of_decide_eq_true e)
  exact⟨t,ht,by omega⟩
 ·rintro⟨t,ht,rfl⟩
  exact⟨t,ht,decide_eq_true rfl⟩
theorem Jz {y:Nat}{K:qc}{r:List PV}(h:y∉K.map (·.1)):ni (rK K) (.inl ((y:Nat):Int))=rK (K++[(y,r)])/\m7 (rK K) (rP K) (.inl ((y:Nat):Int)) (.tup r)=rP (K++[(y,r)]):=by
 unfold ni m7
 rw[HR,decide_eq_false h,if_neg Bool.false_ne_true,if_neg Bool.false_ne_true]
 unfold rK rP
 rw[List.map_append,List.map_append]
 exact⟨rfl,rfl⟩
theorem Da {y:Nat}{K:qc}:(K.find? fun t=>decide (t.1=y)).isSome=decide (y∈K.map (·.1)):=by
 rw[Bool.eq_iff_iff,List.find?_isSome,decide_eq_true_iff,List.mem_map]
 constructor
 ·rintro⟨t,ht,e⟩;exact⟨t,ht,of_decide_eq_true e⟩
 ·rintro⟨t,ht,rfl⟩;exact⟨t,ht,decide_eq_true rfl⟩
theorem u4 {y:Nat}{K:qc}(h:y∈K.map (·.1)):∃r,(K.find? fun t=>decide (t.1=y))=some (y,r)/\(y,r)∈K:=by
 have:=Da (y:=y) (K:=K)
 rw[decide_eq_true h,Option.isSome_iff_exists] at this
 obtain⟨⟨a,r⟩,e⟩:=this
 have h1:=List.find?_some e
 have h2:=List.mem_of_find?_eq_some e
 have:a=y:=of_decide_eq_true h1
 subst this
 exact⟨r,e,h2⟩
structure Rds (n:Nat)(S:List Sg)(x:Nat)(K:qc):Prop where
 nd:(K.map (·.1)).Nodup
 lt:∀t∈K,t.1<n
 tr:∀t∈K,∃vs,Trk S x t.1 t.2 vs/\vs.Nodup/\∀v∈vs,v∈K.map (·.1)
 st:∃K',K=(x,[])::K'
theorem u5:∀{n:Nat} {l:List Nat},l.Nodup->(∀v∈l,v<n)->l.length≤n:=fun {n l} nd h=>by
 have:=List.Nodup.length_le_of_subset nd (l₂:=List.range n) (fun v hv=>List.mem_range.mpr (h v hv))
 rwa [List.length_range] at this
theorem Rds.len {n:Nat}{S:List Sg}{x:Nat}{K:qc}(R:Rds n S x K):K.length≤n:=by
 have:=u5 R.nd (fun v hv=>by obtain⟨t,ht,rfl⟩:=List.mem_map.mp hv;exact R.lt t ht)
 rwa [List.length_map] at this
theorem Rds.rlen {n:Nat}{S:List Sg}{x:Nat}{K:qc}(R:Rds n S x K){t:Nat×List PV}(ht:t∈K):t.2.length<n:=by
 obtain⟨vs,tr,nd,sub⟩:=R.tr t ht
 have:=u5 nd (fun v hv=>by obtain⟨u,hu,rfl⟩:=List.mem_map.mp (sub v hv);exact R.lt u hu)
 have:=tr.len
 omega
theorem Rds.add {n:Nat}{S:List Sg}{x a e:Nat}{l:PV}{r:List PV}{K:qc}(R:Rds n S x K)(ha:(a,r)∈K)(hs:(a,e,l)∈S)(he:e<n)(hn:e∉K.map (·.1)):Rds n S x (K++[(e,r++[l])]):=by
 refine⟨?_,fun t ht=>?_,fun t ht=>?_,?_⟩
 ·rw[List.map_append,List.nodup_append]
  refine⟨R.nd,by simp,fun u hu v hv=>?_⟩
  rw[show v=e by simpa using hv]
  exact fun q=>hn (q▸hu)
 ·rcases List.mem_append.mp ht with ht|ht
  ·exact R.lt t ht
  ·rw[List.mem_singleton.mp ht];exact he
 ·have sub:∀v,v∈K.map (·.1)->v∈(K++[(e,r++[l])]).map (·.1):=fun v hv=>by rw[List.map_append];exact List.mem_append_left _ hv
  rcases List.mem_append.mp ht with ht|ht
  ·obtain⟨vs,h1,h2,h3⟩:=R.tr t ht
   exact⟨vs,h1,h2,fun v hv=>sub v (h3 v hv)⟩
  ·rw[List.mem_singleton.mp ht]
   obtain⟨vs,h1,h2,h3⟩:=R.tr _ ha
   refine⟨vs++[e],.snoc h1 hs,?_,fun v hv=>?_⟩
   ·rw[List.nodup_append]
    refine⟨h2,by simp,fun u hu v hv=>?_⟩
    rw[show v=e by simpa using hv]
    exact fun q=>hn (q▸h3 u hu)
   ·rcases List.mem_append.mp hv with hv|hv
    ·exact sub v (h3 v hv)
    ·rw[List.mem_singleton.mp hv,List.map_append];exact List.mem_append_right _ (List.mem_singleton.mpr rfl)
 ·obtain⟨K',e'⟩:=R.st
  exact⟨K'++[(e,r++[l])],by rw[e'];rfl⟩
noncomputable def GO (S:List Sg)(K:qc)(a:Nat):Prop:=∀e l,(a,e,l)∈S->e∈K.map (·.1)
inductive Rch (S:List Sg) (x:Nat):Nat->Prop where
 |refl:Rch S x x
 |step {a e:Nat} {l:PV}:Rch S x a->(a,e,l)∈S->Rch S x e
theorem Trk.rch {S:List Sg}{x e:Nat}{r:List PV}{vs:List Nat}(t:Trk S x e r vs):Rch S x e:=by
 induction t with
 |nil=>exact .refl
 |snoc _ q ih=>exact .step ih q
theorem Rds.keys {n:Nat}{S:List Sg}{x:Nat}{K:qc}(R:Rds n S x K)(c:∀a∈K.map (·.1),GO S K a)(e:Nat):e∈K.map (·.1)↔Rch S x e:=by
 constructor
 ·intro h
  obtain⟨t,ht,rfl⟩:=List.mem_map.mp h
  obtain⟨vs,tr,_⟩:=R.tr t ht
  exact tr.rch
 ·intro h
  induction h with
  |refl=>obtain⟨K',e⟩:=R.st;rw[e];exact List.mem_cons_self
  |step _ q ih=>exact c _ ih _ _ q
end Dp
end
section
namespace Dp
open PySem L2 Fo Dp
noncomputable def sG (g:Nat->Int)(l:List Nat):List PV:=l.map fun k=>.tup [.int (g k),.int k]
theorem sQ (g:Nat->Int)(l:List Nat):(sG g l).length=l.length:=List.length_map ..
theorem uy (g:Nat->Int):∀l:List Nat,jN (sG g l)=some (l.map fun k=>[g k,(k:Int)])
 |[]=>rfl
 |k::l=>by
  show jN (.tup [.int (g k),.int k]::sG g l)=_
  rw[jN]
  rw[uy g l];rfl
noncomputable def zB (g:Nat->Int)(n:Nat):List Nat:=lW ((List.range n).map fun k=>[g k,(k:Int)])
theorem mJ (g:Nat->Int)(n:Nat):(zB g n).Perm (List.range n):=by
 have:=mR ((List.range n).map fun k=>[g k,(k:Int)])
 rwa [List.length_map,List.length_range] at this
theorem At (g:Nat->Int)(n:Nat):(zB g n).length=n:=by rw[(mJ g n).length_eq,List.length_range]
theorem pe (g:Nat->Int)(n:Nat)(hn:n<64):iu [.lst (sG g (List.range n))]=some (.nw (sG g (zB g n))):=by
 simp_all! [uy,sQ,List.length_range,eq_true hn]
 congr 2
 unfold sG
 refine List.map_congr_left fun i hi=>?_
 have hi':i<n:=List.mem_range.mp ((mJ g n).subset hi)
 rw[List.getD_eq_getElem?_getD,List.getElem?_map,List.getElem?_range hi'];rfl
end Dp
end
section
namespace Fo
open PySem L2
theorem s5 {y:Str}(hy:y∈cj):y = "none"\/y = "whole"\/y = "halves"\/y = "splits"\/y = "one":=by simpa [cj] using hy
theorem n1:(("halves" : Str) = "whole")=False:=eq_false (by decide)
theorem n2:(("halves" : Str) = "splits")=False:=eq_false (by decide)
theorem n3:(("splits" : Str) = "whole")=False:=eq_false (by decide)
theorem n7:(("none" : Str) = "whole")=False:=eq_false (by decide)
theorem n8:(("none" : Str) = "splits")=False:=eq_false (by decide)
theorem n9:(("none" : Str) = "halves")=False:=eq_false (by decide)
theorem Ni:(("none" : Str) = "one")=False:=eq_false (by decide)
end Fo
end
section
namespace Dp
open PySem L2 Fo Dp Lo
theorem nc:∀l:List (List Nat),aq (l.map fun u=>PV.tup (af u))=true
 |[]=>by rw[List.map_nil,aq]
 |u::l=>by rw[List.map_cons,aq,aW,bc,nc l];rfl
theorem q6:∀l:List (List Nat),cR (l.map fun u=>PV.tup (af u))≤1
 |[]=>by rw[List.map_nil,cR];omega
 |u::l=>by rw[List.map_cons,cR,qq,cG];have:=q6 l;omega
theorem mm (t:Nat):∀l:List Nat,pin (.int t) (af l)=decide (t∈l)
 |[]=>rfl
 |u::l=>by
  show (iJ (.int (u:Int)) (.int (t:Int)) || pin (.int t) (af l))=_
  rw[oz,mm t l]
  by_cases h:u=t
  ·subst h;simp
  ·have h':¬((u:Int)=(t:Int)):=by omega
   rw[decide_eq_false h',Bool.false_or]
   have:t≠u:=fun z=>h z.symm
   simp[List.mem_cons,this]
end Dp
end
section
namespace Fo
open PySem L2
theorem Aq {l:List Nat}{n:Nat}(nd:l.Nodup)(h:∀x∈l,x<n):l.length≤n:=by
 have p:l.Perm ((List.range n).filter fun x=>decide (x∈l)):=(List.perm_ext_iff_of_nodup nd (List.nodup_range.filter _)).mpr fun x=>by
  rw[List.mem_filter,List.mem_range,decide_eq_true_eq]
  exact⟨fun q=>⟨h x q,q⟩,fun q=>q.2⟩
 rw[p.length_eq]
 have:=List.length_filter_le (fun x=>decide (x∈l)) (List.range n)
 rwa [List.length_range] at this
theorem Hn {us:List Nat}(f:Fst us){x t:Nat}(hx:x<us.length)(h:t∈way us x):hd us t=hd us x:=by
 obtain⟨l2,w2,e,_,_⟩:=(eM f hx).later t h
 have:=mV f (jF f hx h) w2
 unfold hd
 rw[this,e]
end Fo
end
section
namespace Fo
open PySem L2
theorem mW {us:List Nat}(f:Frst us){u t:Nat}(hu:u<us.length)(ht:t<us.length)(eu:up us u=u)(et:up us t=t)(ne:t≠u):Frst (us.set u t):=by
 have hl:(us.set u t).length=us.length:=List.length_set
 refine⟨by rw[hl];exact f.one,by rw[hl];exact f.most,⟨fun x hx=>?_,fun x=>if hd us x=u then dp us x+1 else dp us x,fun x hx=>?_,fun x hx hn=>?_⟩⟩
 ·rw[hl] at hx ⊢
  rw[eL hu]
  split
  ·exact ht
  ·exact f.fst.bnd x hx
 ·rw[hl] at hx ⊢
  have h1:=lX f.fst hx
  have h2:=(eM f.fst hx).pos
  show (if hd us x=u then dp us x+1 else dp us x)<us.length
  unfold dp
  split
  ·next e=>
   have nm:t∉way us x:=fun q=>ne (by rw[←i5 f.fst ht et,Hn f.fst hx q,e])
   have:(t::way us x).length≤us.length:=Aq (List.nodup_cons.mpr ⟨nm,(eM f.fst hx).nodup f.fst hx⟩) fun z hz=>by
    rcases List.mem_cons.mp hz with rfl|hz
    ·exact ht
    ·exact jF f.fst hx hz
   rw[List.length_cons] at this
   omega
  ·omega
 ·rw[hl] at hx
  rw[eL hu] at hn ⊢
  show (if hd us (if x=u then t else up us x)=u then _ else _)<(if hd us x=u then dp us x+1 else dp us x)
  by_cases e:x=u
  ·subst e
   rw[if_pos rfl,i5 f.fst ht et,if_neg ne,i5 f.fst hx eu,if_pos rfl]
   have:dp us t=0:=by unfold dp;rw[vm f.fst ht et];rfl
   omega
  ·rw[if_neg e] at hn ⊢
   rw[wQ f.fst hx]
   have:dp us (up us x)+1=dp us x:=by
    have h2:=(eM f.fst (f.fst.bnd x hx)).pos
    unfold dp
    rw[tL f.fst hx hn,List.length_cons]
    omega
   split<;>omega
end Fo
namespace Dp
open PySem L2 Fo Dp
theorem II {x:PV}{ps:List PV}:zu x (.ktu ps)=if aW x&&aq ps&&decide (cR ps≤50) then some (.fz (.bl (pin x ps))) else none:=Eq.trans rfl rfl
theorem Hm {lo j:Int}:rp [.rng lo j]=if lo=0/\0≤j/\j≤1000000 then some (.fz (.tup (qd 0 j.toNat))) else none:=Eq.trans rfl rfl
noncomputable def Dx:List Str:=["size","rank","told","names"]
theorem j4 {j:Str}(h:j∈Dx):j = "size"\/j = "rank"\/j = "told"\/j = "names":=by
 simpa [Dx] using h
noncomputable def qf (j y:Str)(us ms:List Nat):PV:=.tup [.str j,.str y,.tup (af us),.tup (af ms)]
noncomputable def KY (j:Str):Nat:=if j = "size" then 1 else 0
theorem xF {n:Nat}(h1:1≤n)(h2:n≤40):gX [.int n]=some (.v (.bl true)):=Gp (by omega) (by omega)
theorem JJ:decide (("size" : Str) = "rank")=false/\decide (("size" : Str) = "told")=false/\decide (("size" : Str) = "names")=false/\decide (("rank" : Str) = "size")=false/\decide (("rank" : Str) = "told")=false/\decide (("rank" : Str) = "names")=false ∧
  decide (("told" : Str) = "size")=false/\decide (("told" : Str) = "rank")=false/\decide (("told" : Str) = "names")=false/\decide (("names" : Str) = "size")=false/\decide (("names" : Str) = "rank")=false/\decide (("names" : Str) = "told")=false:=by decide
theorem Cf {j:Str}(hj:j∈Dx):bw [.str j]=some (.v (.bl true)):=by
 have e:zu (.str j) (.ktu [.str "size",.str "rank",.str "told",.str "names"])=some (.fz (.bl true)):=by
  have h1:(aW (.str j)&&aq [.str "size",.str "rank",.str "told",.str "names"]&&decide (cR [.str "size",.str "rank",.str "told",.str "names"]≤50))=true:=by simp[aW,aq,cR,qq]
  have h2:pin (.str j) [.str "size",.str "rank",.str "told",.str "names"]=true:=by
   unfold pin
   simp only[List.any_cons,si,List.any_nil]
   rcases j4 hj with rfl|rfl|rfl|rfl<;>decide
  rw[II,h1,h2];rfl
 simp![jW,d9,e]
theorem Jf {a n:Nat}(h1:1≤n)(h2:n≤1000):iM (.tup [.int a]) (.int n)=some (.fz (.tup (af (List.replicate n a)))):=by
 have r:∀n:Nat,(List.replicate n [PV.int a]).flatten=af (List.replicate n a):=fun n=>by
  induction n with
  |zero=>rfl
  |succ n ih=>rw[List.replicate_succ,List.flatten_cons,ih];rfl
 show (if ([PV.int a].isEmpty=false/\1≤(n:Int)/\(n:Int)≤1000/\[PV.int a].length≤1000) then some (RV.fz (.tup (List.replicate (n:Int).toNat [PV.int a]).flatten)) else none)=_
 rw[if_pos ⟨rfl,by omega,by omega,by simp⟩,Int.toNat_natCast,r]
theorem K9 {n:Nat}(h1:1≤n)(h2:n≤40){j y:Str}(hj:j∈Dx)(hy:y∈cj):gn [.int n,.str j,.str y]=some (.v (qf j y (List.range n) (List.replicate n (KY j)))):=by
 have er:rp [.rng 0 n]=some (.fz (.tup (af (List.range n)))):=by rw[Hm,if_pos ⟨rfl,by omega,by omega⟩,Int.toNat_natCast,Ef]
 have ek:=(K1 (show n≤100000 by omega)).2.1
 have m0:=Jf (a:=0) h1 (show n≤1000 by omega)
 have m1:=Jf (a:=1) h1 (show n≤1000 by omega)
 have m0:iM (.tup [.int 0]) (.int n)=_:=m0
 have m1:iM (.tup [.int 1]) (.int n)=_:=m1
 unfold qf
 rcases j4 hj with rfl|rfl|rfl|rfl <;>
  simp![qy,ji,kj,gv,pJ,iF,xF h1 h2,Cf hj,Cj hy,JJ,ek,er,m0,m1,KY]<;>rfl
theorem p6 {n:Nat}(h1:1≤n)(h2:n≤40):Frst (List.range n):=by
 have u:∀x,x<n->up (List.range n) x=x:=fun x hx=>by unfold up;rw[List.getD_eq_getElem?_getD,List.getElem?_range hx];rfl
 refine⟨by rw[List.length_range];exact h1,by rw[List.length_range];exact h2,⟨fun x hx=>?_,fun _=>0,fun x hx=>?_,fun x hx hn=>?_⟩⟩
 ·rw[List.length_range] at hx ⊢;rw[u x hx];exact hx
 ·show 0<_;omega
 ·rw[List.length_range] at hx;exact absurd (u x hx) hn
theorem Cw (ms:List Nat):jz [.tup (af ms)]=some (.v (.tup (af ms))):=by
 simp![wA,lf]
theorem ye {us ms:List Nat}(f:Frst us){j y:Str}(hy:y∈cj){x:Nat}(hx:x<us.length):eY [qf j y us ms,.int x]=some (.v (.tup [qf j y (hZ y us x) ms,.int (hd us x:Nat),.int (stp y us x:Nat)])):=by
 have e:=zK f hy hx
 simp only[nI] at e
 unfold qf
 simp![qF,i9,e,Cw]
noncomputable def stay (j:Str)(ms:List Nat)(a b:Nat):Bool:=if j = "told" then true else if j = "names" then decide (a<b) else decide (up ms b≤up ms a)
noncomputable def Eb (j:Str)(p q:Nat):Nat:=if j = "size" then p+q else if j = "rank"/\p=q then p+1 else p
noncomputable def tp (j:Str)(ms:List Nat)(a b:Nat):Nat:=if stay j ms a b then a else b
noncomputable def un (j:Str)(ms:List Nat)(a b:Nat):Nat:=if stay j ms a b then b else a
noncomputable def zv (j:Str)(us ms:List Nat)(a b:Nat):List Nat:=us.set (un j ms a b) (tp j ms a b)
noncomputable def IM (j:Str)(ms:List Nat)(a b:Nat):List Nat:=ms.set (tp j ms a b) (Eb j (up ms (tp j ms a b)) (up ms (un j ms a b)))
theorem D3 {j:Str}(hj:j∈Dx){ms:List Nat}{a b:Nat}(ha:a<ms.length)(hb:b<ms.length):d8 [.str j,.tup (af ms),.int a,.int b]=some (.v (.bl (stay j ms a b))):=by
 have d1:decide ((a:Int)<(b:Int))=decide (a<b):=decide_eq_decide.mpr (by omega)
 have d2:decide ((up ms b:Int)≤(up ms a:Int))=decide (up ms b≤up ms a):=decide_eq_decide.mpr (by omega)
 rcases j4 hj with rfl|rfl|rfl|rfl
 ·rw[show stay "size" ms a b=decide (up ms b≤up ms a) from rfl];simp![fX,cF,JJ,am ha,am hb,d2]
 ·rw[show stay "rank" ms a b=decide (up ms b≤up ms a) from rfl];simp![fX,cF,JJ,am ha,am hb,d2]
 ·rw[show stay "told" ms a b=true from rfl];simp![fX,cF]
 ·rw[show stay "names" ms a b=decide (a<b) from rfl];simp![fX,cF,JJ,d1]
theorem AP {j:Str}(hj:j∈Dx)(p q:Nat):d4 [.str j,.int p,.int q]=some (.v (.int (Eb j p q:Nat))):=by
 have d:decide ((p:Int)=(q:Int))=decide (p=q):=decide_eq_decide.mpr (by omega)
 rcases j4 hj with rfl|rfl|rfl|rfl
 ·rw[show Eb "size" p q=p+q from rfl];simp![dR,bW];rfl
 ·by_cases h:p=q
  ·rw[show Eb "rank" p q=p+1 by unfold Eb;rw[if_neg (by decide),if_pos ⟨rfl,h⟩]];simp![dR,bW,JJ,d,decide_eq_true h];rfl
  ·rw[show Eb "rank" p q=p by unfold Eb;rw[if_neg (by decide),if_neg fun z=>h z.2]];simp![dR,bW,JJ,d,decide_eq_false h]
 ·rw[show Eb "told" p q=p from rfl];simp![dR,bW,JJ]
 ·rw[show Eb "names" p q=p from rfl];simp![dR,bW,JJ]
theorem Le {j y:Str}(hj:j∈Dx){us ms:List Nat}{a b:Nat}(hl:ms.length=us.length)(ha:a<us.length)(hb:b<us.length):bv [qf j y us ms,.int a,.int b]=some (.v (qf j y (zv j us ms a b) (IM j ms a b))):=by
 have st:=D3 hj (ms:=ms) (show a<ms.length by omega) (show b<ms.length by omega)
 unfold qf zv IM tp un
 cases h:stay j ms a b with
 |true=>
  rw[h] at st
  simp![gG,ci,st,fU ha,fU hb,fU (show a<ms.length by omega),iA,am (show a<ms.length by omega),am (show b<ms.length by omega),AP hj]
 |false=>
  rw[h] at st
  simp![gG,ci,st,fU ha,fU hb,fU (show b<ms.length by omega),iA,am (show a<ms.length by omega),am (show b<ms.length by omega),AP hj,Bool.false_eq_true,if_false]
theorem EI {j:Str}{ms:List Nat}{a b:Nat}:(IM j ms a b).length=ms.length:=by unfold IM;rw[List.length_set]
theorem DF {j:Str}{us ms:List Nat}{a b:Nat}:(zv j us ms a b).length=us.length:=by unfold zv;rw[List.length_set]
theorem BQ {us:List Nat}(f:Frst us){j:Str}{ms:List Nat}{a b:Nat}(ha:a<us.length)(hb:b<us.length)(ea:up us a=a)(eb:up us b=b)(ne:a≠b):Frst (zv j us ms a b):=by
 unfold zv tp un
 cases stay j ms a b with
 |true=>exact mW f hb ha eb ea ne
 |false=>exact mW f ha hb ea eb ne.symm
inductive Deed where
 |find (x:Nat)|join (x y:Nat)
noncomputable def Deed.pv:Deed->PV
 |.find x=>.tup [.str "find",.int x]
 |.join x y=>.tup [.str "join",.int x,.int y]
noncomputable def Deed.ok (n:Nat):Deed->Prop
 |.find x=>x<n
 |.join x y=>x<n/\y<n
structure Sto (n:Nat)(us ms:List Nat):Prop where
 f:Frst us
 lu:us.length=n
 lm:ms.length=n
noncomputable def dU (j y:Str)(us ms:List Nat):Deed->List Nat
 |.find x=>hZ y us x
 |.join x z=>if hd us x=hd us z then hZ y (hZ y us x) z else zv j (hZ y (hZ y us x) z) ms (hd us x) (hd us z)
noncomputable def dM (j:Str)(us ms:List Nat):Deed->List Nat
 |.find _=>ms
 |.join x z=>if hd us x=hd us z then ms else IM j ms (hd us x) (hd us z)
noncomputable def dA (us:List Nat):Deed->PV
 |.find x=>.int (hd us x:Nat)
 |.join x z=>.bl (!decide (hd us x=hd us z))
noncomputable def dS (y:Str)(us:List Nat):Deed->Nat
 |.find x=>stp y us x
 |.join x z=>stp y us x+stp y (hZ y us x) z
noncomputable def uK (j y:Str)(us ms:List Nat)(d:Deed):PV:=.tup [qf j y (dU j y us ms d) (dM j us ms d),dA us d,.int (dS y us d:Nat)]
theorem wO {us:List Nat}(f:Frst us){x:Nat}(hx:x<us.length){y:Str}(hy:y∈cj){t:Nat}(ht:t<us.length):hd (hZ y us x) t=hd us t:=(Cg f.fst hx hy ht).1
theorem Ci {n:Nat}{us ms:List Nat}(S:Sto n us ms){j y:Str}(hy:y∈cj){d:Deed}(hd':d.ok n):Sto n (dU j y us ms d) (dM j us ms d):=by
 obtain⟨f,lu,lm⟩:=S
 cases d with
 |find x=>
  have hx:x<us.length:=by rw[lu];exact hd'
  exact⟨lV f hx hy,by show (hZ y us x).length=n;rw[fW,lu],lm⟩
 |join x z=>
  have hx:x<us.length:=by rw[lu];exact hd'.1
  have hz:z<us.length:=by rw[lu];exact hd'.2
  have f1:=lV f hx hy
  have l1:=fW y us x
  have hz1:z<(hZ y us x).length:=by omega
  have f2:=lV f1 hz1 hy
  have l2:=fW y (hZ y us x) z
  show Sto n (if hd us x=hd us z then _ else _) (if hd us x=hd us z then _ else _)
  by_cases e:hd us x=hd us z
  ·rw[if_pos e,if_pos e];exact⟨f2,by omega,lm⟩
  ·rw[if_neg e,if_neg e]
   have hd2:∀t,t<us.length->hd (hZ y (hZ y us x) z) t=hd us t:=fun t ht=>by rw[wO f1 hz1 hy (by omega),wO f hx hy ht]
   have top:∀t,t<us.length->up (hZ y (hZ y us x) z) (hd us t)=hd us t:=fun t ht=>by
    have:=pM f2.fst (show t<(hZ y (hZ y us x) z).length by omega)
    rwa [hd2 t ht] at this
   have a1:=kW f.fst hx
   have a2:=kW f.fst hz
   exact⟨BQ f2 (by omega) (by omega) (top x hx) (top z hz) e,by rw[DF];omega,by rw[EI];exact lm⟩
theorem EH {n:Nat}{us ms:List Nat}(S:Sto n us ms){j y:Str}(hj:j∈Dx)(hy:y∈cj){x z:Nat}(hx':x<n)(hz':z<n):e9 [qf j y us ms,.int x,.int z]=some (.v (uK j y us ms (.join x z))):=by
 obtain⟨f,lu,lm⟩:=S
 have hx:x<us.length:=by omega
 have hz:z<us.length:=by omega
 have f1:=lV f hx hy
 have l1:=fW y us x
 have hz1:z<(hZ y us x).length:=by omega
 have l2:=fW y (hZ y us x) z
 have e1:=ye f hy hx (ms:=ms) (j:=j)
 have e2:=ye f1 hy hz1 (ms:=ms) (j:=j)
 rw[wO f hx hy hz] at e2
 have a1:=kW f.fst hx
 have a2:=kW f.fst hz
 have d:decide ((hd us x:Int)=(hd us z:Int))=decide (hd us x=hd us z):=decide_eq_decide.mpr (by omega)
 by_cases e:hd us x=hd us z
 ·have r:uK j y us ms (.join x z)=.tup [qf j y (hZ y (hZ y us x) z) ms,.bl false,.int (stp y us x+stp y (hZ y us x) z:Nat)]:=by
   unfold uK
   show PV.tup [qf j y (if hd us x=hd us z then _ else _) (if hd us x=hd us z then _ else _),.bl (!decide (hd us x=hd us z)),_]=_
   rw[if_pos e,if_pos e,decide_eq_true e];rfl
  rw[r]
  simp![kZ,g8,e1,e2,d,decide_eq_true e]
  rfl
 ·have e3:=Le (y:=y) hj (us:=hZ y (hZ y us x) z) (ms:=ms) (a:=hd us x) (b:=hd us z) (by omega) (by omega) (by omega)
  have r:uK j y us ms (.join x z)=.tup [qf j y (zv j (hZ y (hZ y us x) z) ms (hd us x) (hd us z)) (IM j ms (hd us x) (hd us z)),.bl true,.int (stp y us x+stp y (hZ y us x) z:Nat)]:=by
   unfold uK
   show PV.tup [qf j y (if hd us x=hd us z then _ else _) (if hd us x=hd us z then _ else _),.bl (!decide (hd us x=hd us z)),_]=_
   rw[if_neg e,if_neg e,decide_eq_false e];rfl
  rw[r]
  simp![kZ,g8,e1,e2,e3,d,decide_eq_false e]
  rfl
end Dp
end
section
namespace Dp
open PySem L2 Fo Dp
noncomputable def JA:FS:=(az 7 (CY (av aw (aa (av aD (aa (fV 0) (aa (ah de (ah de (fV 1) (fC (.int 1))) (ah kO (fV 6) (fC (.int 5)))) ag))) (aa (fC (.int 20)) ag))) (zW (ah iM (fC (.int 4)) (ah bO (fV 6) (fC (.int 5))))) zX))
theorem Me {ρ:aj}:JA ρ=(az 7 (CY (av aw (aa (av aD (aa (fV 0) (aa (ah de (ah de (fV 1) (fC (.int 1))) (ah kO (fV 6) (fC (.int 5)))) ag))) (aa (fC (.int 20)) ag))) (zW (ah iM (fC (.int 4)) (ah bO (fV 6) (fC (.int 5))))) zX)) ρ:=Eq.trans rfl rfl
noncomputable def JB:FS:=(qh 8 9 (aa (ah bO (ah be (fV 7) (fC (.int 0))) (fV 2)) (aa (ah bO (ah be (fV 7) (fC (.int 1))) (fV 2)) ag)))
theorem Mn {ρ:aj}:JB ρ=(qh 8 9 (aa (ah bO (ah be (fV 7) (fC (.int 0))) (fV 2)) (aa (ah bO (ah be (fV 7) (fC (.int 1))) (fV 2)) ag))) ρ:=Eq.trans rfl rfl
noncomputable def Mj:FS:=(jZ (fT (ah mQ (ah bO (ah be (fV 4) (fC (.int 1))) (fC (.int 4))) (fC (.int 1)))) (qh 8 9 (aa (ah bO (fV 6) (fV 2)) (aa (ah bO (ah de (fV 6) (fC (.int 1))) (fV 2)) ag))) bu)
theorem Fc {ρ:aj}:Mj ρ=(jZ (fT (ah mQ (ah bO (ah be (fV 4) (fC (.int 1))) (fC (.int 4))) (fC (.int 1)))) (qh 8 9 (aa (ah bO (fV 6) (fV 2)) (aa (ah bO (ah de (fV 6) (fC (.int 1))) (fV 2)) ag))) bu) ρ:=Eq.trans rfl rfl
noncomputable def L7:FS:=(jZ (jv (fT (ah mQ (ah bO (ah be (fV 4) (fC (.int 1))) (fC (.int 4))) (fC (.int 2)))) (fT (ah IT (ah bO (ah be (fV 7) (fC (.int 2))) (fC (.int 3))) (fC (.int 0))))) (ai (az 8 (ah bO (ah iM (ah kO (fV 8) (fC (.int 2))) (fC (.int 2))) (fV 2))) (az 9 (fB nr (aa (ah zw (fV 2) (fC (.int 1))) (aa (ah de (fV 8) (fC (.int 1))) ag))))) bu)
theorem Ct {ρ:aj}:L7 ρ=(jZ (jv (fT (ah mQ (ah bO (ah be (fV 4) (fC (.int 1))) (fC (.int 4))) (fC (.int 2)))) (fT (ah IT (ah bO (ah be (fV 7) (fC (.int 2))) (fC (.int 3))) (fC (.int 0))))) (ai (az 8 (ah bO (ah iM (ah kO (fV 8) (fC (.int 2))) (fC (.int 2))) (fV 2))) (az 9 (fB nr (aa (ah zw (fV 2) (fC (.int 1))) (aa (ah de (fV 8) (fC (.int 1))) ag))))) bu) ρ:=Eq.trans rfl rfl
noncomputable def Ma:FS:=(jZ (jv (fT (ah oR (fV 5) (iK ag))) (fT (ah mQ (ah bO (ah be (fV 7) (fC (.int 2))) (fC (.int 7))) (fC (.int 1))))) (iU (ah be (fV 5) (ah bO (ah be (fV 7) (fC (.int 3))) (fB j8 (aa (fV 5) ag)))) (jm 2 (gC (gN 8) (gC (gN 9) g0)))) bu)
theorem Be {ρ:aj}:Ma ρ=(jZ (jv (fT (ah oR (fV 5) (iK ag))) (fT (ah mQ (ah bO (ah be (fV 7) (fC (.int 2))) (fC (.int 7))) (fC (.int 1))))) (iU (ah be (fV 5) (ah bO (ah be (fV 7) (fC (.int 3))) (fB j8 (aa (fV 5) ag)))) (jm 2 (gC (gN 8) (gC (gN 9) g0)))) bu) ρ:=Eq.trans rfl rfl
noncomputable def JD:FS:=(vx mL 5 (aa (ah be (iK (aa (cJ (aa (fV 8) (aa (fV 9) ag))) (aa (cJ (aa (fV 9) (aa (fV 8) ag))) ag))) (ah bO (ah kO (ah be (fV 7) (fC (.int 2))) (fC (.int 7))) (fC (.int 2)))) ag))
theorem KO {ρ:aj}:JD ρ=(vx mL 5 (aa (ah be (iK (aa (cJ (aa (fV 8) (aa (fV 9) ag))) (aa (cJ (aa (fV 9) (aa (fV 8) ag))) ag))) (ah bO (ah kO (ah be (fV 7) (fC (.int 2))) (fC (.int 7))) (fC (.int 2)))) ag)) ρ:=Eq.trans rfl rfl
theorem LM {ρ:aj}:dY ρ=(ai JA (ai JB (ai Mj (ai L7 (ai Ma JD))))) ρ:=Eq.trans rfl rfl
noncomputable def jY (ps:List (Nat×Nat)):List PV:=ps.map fun p=>.tup [.int p.1,.int p.2]
theorem oi (ps:List (Nat×Nat)):(jY ps).length=ps.length:=List.length_map ..
theorem jO:∀ps:List (Nat×Nat),aq (jY ps)=true
 |[]=>by show aq []=true;rw[aq]
 |p::ps=>by
  show aq (.tup [.int p.1,.int p.2]::jY ps)=true
  rw[aq,jO ps];simp[aW,aq]
theorem u7:∀ps:List (Nat×Nat),cR (jY ps)≤1
 |[]=>by show cR []≤1;rw[cR];omega
 |p::ps=>by
  show cR (.tup [.int p.1,.int p.2]::jY ps)≤1
  have:=u7 ps
  rw[cR];simp[qq,cR];omega
theorem mH (ps:List (Nat×Nat)):fK (jY ps) []=ps.isEmpty:=by
 cases ps with
 |nil=>exact km
 |cons p ps=>exact kz (by show (jY ps).length+1≠0;omega)
theorem Di {α:Type}(l:List α)(k:Nat):nZ l (some (k:Int)) none=l.drop k:=by
 unfold nZ
 rw[HT.sIx_nat,HT.sIx_none]
 by_cases h:k≤l.length
 ·rw[Nat.min_eq_left h,List.take_of_length_le (by rw[List.length_drop];omega)]
 ·rw[Nat.min_eq_right (by omega),List.drop_eq_nil_of_le (Nat.le_refl _),List.drop_eq_nil_of_le (by omega),List.take_nil]
section
variable {ns:List Int}{n:Nat}{hs ys:List Nat}{row:List (Nat×Nat)}{s3:Option Sl}{at' k:Nat}
noncomputable def JR (ns:List Int)(at' n:Nat)(s3:Option Sl)(hs:List Nat)(row:List (Nat×Nat))(k:Nat)(ys:List Nat)(x z:Nat):aj:=[some (.val (.src (iL ns))),some (.val (.int at')),some (.val (.int n)),s3,some (.val (.lst (af hs))),some (.own (jY row)),some (.val (.int k)),some (.val (.lst (af ys))),some (.val (.int x)),some (.val (.int z))]
theorem MP (hn:1≤n)(hh:hs.length=4){x z:Nat}(hx:x<n)(hz:z<n):∃x' z',x'<n/\z'<n/\Mj (JR ns at' n s3 hs row k ys x z)=.nx (JR ns at' n s3 hs row k ys x' z'):=by
 have i1:L2.eH (af hs) 1=some (.int (up hs 1:Nat)):=am (x:=1) (by omega)
 have pn:(0:Int)<(n:Int):=by omega
 unfold JR
 by_cases q:(up hs 1:Int) % 4=1
 ·refine⟨k % n,(k+1) % n,Nat.mod_lt _ (by omega),Nat.mod_lt _ (by omega),?_⟩
  simp![Fc,i1,decide_eq_true q,pn]
  rfl
 ·exact⟨x,z,hx,hz,by simp![Fc,i1,decide_eq_false q]⟩
theorem LQ (hn:1≤n)(hn2:n≤40)(hh:hs.length=4)(hy:4≤ys.length){x z:Nat}(hx:x<n)(hz:z<n):∃x' z',x'<n/\z'<n/\L7 (JR ns at' n s3 hs row k ys x z)=.nx (JR ns at' n s3 hs row k ys x' z'):=by
 have i1:L2.eH (af hs) 1=some (.int (up hs 1:Nat)):=am (x:=1) (by omega)
 have i2:L2.eH (af ys) 2=some (.int (up ys 2:Nat)):=am (x:=2) (by omega)
 have pn:(0:Int)<(n:Int):=by omega
 unfold JR
 by_cases q:(up hs 1:Int) % 4=2
 ·by_cases q2:(0:Int)<(up ys 2:Int) % 3
  ·have e1:(x:Int) / 2 * 2 % (n:Int)=((x / 2 * 2 % n:Nat):Int):=by push_cast;rfl
   have em:(if ((x / 2 * 2 % n:Nat):Int)+1<(n:Int) - 1 then ((x / 2 * 2 % n:Nat):Int)+1 else (n:Int) - 1)=((min (n - 1) (x / 2 * 2 % n+1):Nat):Int):=by split<;>omega
   refine⟨x / 2 * 2 % n,min (n - 1) (x / 2 * 2 % n+1),Nat.mod_lt _ (by omega),by omega,?_⟩
   have ml:(((x:Int) / 2).natAbs<2 ^ 64\/(2:Int).natAbs<2 ^ 64):=.inr (by decide)
   simp![Ct,i1,i2,decide_eq_true q,decide_eq_true q2,pn,ml,e1,em]
  ·exact⟨x,z,hx,hz,by simp![Ct,i1,i2,decide_eq_true q,decide_eq_false q2]⟩
 ·exact⟨x,z,hx,hz,by simp![Ct,i1,decide_eq_false q]⟩
theorem ME (hy:4≤ys.length)(hr:∀p∈row,p.1<n/\p.2<n){x z:Nat}(hx:x<n)(hz:z<n):∃x' z',x'<n/\z'<n/\Ma (JR ns at' n s3 hs row k ys x z)=.nx (JR ns at' n s3 hs row k ys x' z'):=by
 have i2:L2.eH (af ys) 2=some (.int (up ys 2:Nat)):=am (x:=2) (by omega)
 have i3:L2.eH (af ys) 3=some (.int (up ys 3:Nat)):=am (x:=3) (by omega)
 have dd:decide (cR (jY row)≤49)=true:=decide_eq_true (by have:=u7 row;omega)
 have p0:aq []=true:=by rw[aq]
 unfold JR
 by_cases h0:row=[]
 ·subst h0;exact⟨x,z,hx,hz,by simp![Be,jO,p0,dd,mH,List.isEmpty_nil]⟩
 ·have ie:row.isEmpty=false:=by cases row with
   |nil=>exact absurd rfl h0
   |cons=>rfl
  have pos:0<row.length:=List.length_pos_iff.mpr h0
  by_cases q:(up ys 2:Int) % 7=1
  ·have hl:up ys 3 % row.length<row.length:=Nat.mod_lt _ pos
   have pl:(0:Int)<(row.length:Int):=by omega
   have ea:L2.eH (jY row) ((up ys 3:Int) % (row.length:Int))=some (.tup [.int (row[up ys 3 % row.length]).1,.int (row[up ys 3 % row.length]).2]):=by
    rw[show (up ys 3:Int) % (row.length:Int)=((up ys 3 % row.length:Nat):Int) from rfl]
    refine L2.gF ?_
    unfold jY
    rw[List.getElem?_map,List.getElem?_eq_getElem hl];rfl
   have hm:=hr _ (List.getElem_mem hl)
   refine⟨_,_,hm.1,hm.2,?_⟩
   simp![Be,jO,p0,dd,mH,ie,i2,i3,decide_eq_true q,oi,pl,ea]
  ·exact⟨x,z,hx,hz,by simp![Be,jO,p0,dd,mH,ie,i2,decide_eq_false q]⟩
theorem Nr (hy:4≤ys.length)(hl:row.length≤1000){x z:Nat}:∃p,(p=(x,z)\/p=(z,x))/\JD (JR ns at' n s3 hs row k ys x z)=.nx (JR ns at' n s3 hs (row++[p]) k ys x z):=by
 have i2:L2.eH (af ys) 2=some (.int (up ys 2:Nat)):=am (x:=2) (by omega)
 have l1:(jY row).length≤100000:=by rw[oi];omega
 have ea:∀p:Nat×Nat,jY row++[.tup [.int p.1,.int p.2]]=jY (row++[p]):=fun p=>by unfold jY;rw[List.map_append];rfl
 unfold JR
 by_cases q:(up ys 2:Int) / 7 % 2=0
 ·refine⟨(x,z),.inl rfl,?_⟩
  have e0:∀a b:PV,L2.eH [a,b] 0=some a:=fun a b=>rfl
  rw[←ea]
  simp![KO,i2,q,e0,l1]
 ·have q:(up ys 2:Int) / 7 % 2=1:=by omega
  refine⟨(z,x),.inr rfl,?_⟩
  have e0:∀a b:PV,L2.eH [a,b] 1=some b:=fun a b=>rfl
  rw[←ea]
  simp![KO,i2,q,e0,l1]
theorem Ig (hn:1≤n)(hn2:n≤40)(hh:hs.length=4)(hat:at'≤500)(hk:k≤500)(hl:row.length≤1000)(hr:∀p∈row,p.1<n/\p.2<n){z7 z8 z9:Option Sl}:∃p w7 w8 w9,(p.1<n/\p.2<n) ∧
  dY [some (.val (.src (iL ns))),some (.val (.int at')),some (.val (.int n)),s3,some (.val (.lst (af hs))),some (.own (jY row)),some (.val (.int k)),z7,z8,z9] =
   .nx [some (.val (.src (iL ns))),some (.val (.int at')),some (.val (.int n)),s3,some (.val (.lst (af hs))),some (.own (jY (row++[p]))),some (.val (.int k)),w7,w8,w9]:=by
 obtain⟨c,ec⟩:=oE ns ((at':Int)+1+(k:Int) / 5) (by omega) (by omega)
 obtain⟨xs,hx,ex⟩:=ju c 20 (by decide) (by decide)
 have hx:xs.length=20:=hx
 have e4:(4:Int) * ((k:Int) % 5)=((4 * (k % 5):Nat):Int):=by omega
 have ec':nZ (af xs) (some ((4 * (k % 5):Nat):Int)) none=af (xs.drop (4 * (k % 5))):=by rw[BZ,Di]
 generalize hys:xs.drop (4 * (k % 5))=ys at ec'
 have hy:4≤ys.length:=by rw[←hys,List.length_drop];omega
 have ml:((4:Int).natAbs<2 ^ 64\/((k:Int) % 5).natAbs<2 ^ 64):=.inl (by decide)
 have pn:(0:Int)<(n:Int):=by omega
 have i0:L2.eH (af ys) 0=some (.int (up ys 0:Nat)):=am (x:=0) (by omega)
 have i1:L2.eH (af ys) 1=some (.int (up ys 1:Nat)):=am (x:=1) (by omega)
 have m0:(up ys 0:Int) % (n:Int)=((up ys 0 % n:Nat):Int):=rfl
 have m1:(up ys 1:Int) % (n:Int)=((up ys 1 % n:Nat):Int):=rfl
 obtain⟨x1,z1,a1,b1,e1⟩:=MP (ns:=ns) (at':=at') (s3:=s3) (row:=row) (k:=k) (ys:=ys) hn hh (Nat.mod_lt (up ys 0) (by omega)) (Nat.mod_lt (up ys 1) (by omega))
 obtain⟨x2,z2,a2,b2,e2⟩:=LQ (ns:=ns) (at':=at') (s3:=s3) (row:=row) (k:=k) (ys:=ys) hn hn2 hh hy a1 b1
 obtain⟨x3,z3,a3,b3,e3⟩:=ME (ns:=ns) (at':=at') (s3:=s3) (hs:=hs) (k:=k) (ys:=ys) hy hr a2 b2
 obtain⟨p,hp,e5⟩:=Nr (ns:=ns) (n:=n) (at':=at') (s3:=s3) (hs:=hs) (row:=row) (k:=k) (ys:=ys) (x:=x3) (z:=z3) hy hl
 refine⟨p,some (.val (.lst (af ys))),some (.val (.int x3)),some (.val (.int z3)),by rcases hp with rfl|rfl<;>exact⟨by assumption,by assumption⟩,?_⟩
 unfold JR at e1 e2 e3 e5
 simp![LM,Me,Mn,ec,ex,ml,e4,ec',i0,i1,pn,m0,m1,e1,e2,e3,e5]
theorem A5 (hn:1≤n)(hn2:n≤40)(hh:hs.length=4)(hat:at'≤500):∀(ks:List Nat) (row:List (Nat×Nat)) (z6 z7 z8 z9:Option Sl),(∀k∈ks,k≤500)->row.length+ks.length≤1000->(∀p∈row,p.1<n/\p.2<n) →
  ∃row' w6 w7 w8 w9,(∀p∈row',p.1<n/\p.2<n)/\row'.length=row.length+ks.length/\aZ (gN 6) dY (af ks) [some (.val (.src (iL ns))),some (.val (.int at')),some (.val (.int n)),s3,some (.val (.lst (af hs))),some (.own (jY row)),z6,z7,z8,z9] =
   .nx [some (.val (.src (iL ns))),some (.val (.int at')),some (.val (.int n)),s3,some (.val (.lst (af hs))),some (.own (jY row')),w6,w7,w8,w9]
 |[],row,z6,z7,z8,z9,_,_,hr=>⟨row,z6,z7,z8,z9,hr,rfl,rfl⟩
 |k::ks,row,z6,z7,z8,z9,hk,hl,hr=>by
  rw[List.length_cons] at hl
  obtain⟨p,w7,w8,w9,hp,e⟩:=Ig (ns:=ns) (s3:=s3) hn hn2 hh hat (hk k List.mem_cons_self) (by omega) hr (z7:=z7) (z8:=z8) (z9:=z9)
  obtain⟨row',v6,v7,v8,v9,h1,h2,e'⟩:=A5 hn hn2 hh hat ks (row++[p]) (some (.val (.int k))) w7 w8 w9 (fun q hq=>hk q (List.mem_cons_of_mem _ hq)) (by rw[List.length_append,List.length_singleton];omega) (fun q hq=>by
   rcases List.mem_append.mp hq with hq|hq
   ·exact hr q hq
   ·rw[List.mem_singleton.mp hq];exact hp)
  refine⟨row',v6,v7,v8,v9,h1,by rw[h2,List.length_append,List.length_singleton,List.length_cons];omega,?_⟩
  rw[←e',dZ,eV]
  simp![e]
theorem B0 (ns:List Int){at' n m:Nat}(hn:1≤n)(hn2:n≤40)(hat:at'≤500)(hm:m≤60):∃row:List (Nat×Nat),(∀p∈row,p.1<n/\p.2<n)/\row.length≤m/\fx [.src (iL ns),.int at',.int n,.int m]=some (.v (.tup (jY row))):=by
 obtain⟨c,ec⟩:=oE ns (at':Int) (by omega) (by omega)
 obtain⟨hs,hh,eh⟩:=ju c 4 (by decide) (by decide)
 have hh:hs.length=4:=hh
 have i0:L2.eH (af hs) 0=some (.int (up hs 0:Nat)):=am (x:=0) (by omega)
 have pm:(0:Int)<(m:Int)+1:=by omega
 have em:(up hs 0:Int) % ((m:Int)+1)=((up hs 0 % (m+1):Nat):Int):=rfl
 have lt:up hs 0 % (m+1)<m+1:=Nat.mod_lt _ (by omega)
 generalize up hs 0 % (m+1)=q at *
 obtain⟨row,w6,w7,w8,w9,h1,h2,e⟩:=A5 (ns:=ns) (s3:=some (.val (.int m))) hn hn2 hh hat (List.range q) [] none none none none (fun k hk=>by have:=List.mem_range.mp hk;omega) (by rw[List.length_range];simp;omega) (fun p hp=>by cases hp)
 rw[List.length_range] at h2
 simp only[List.length_nil] at h2
 have e:aZ (gN 6) dY (af (List.range q)) [some (.val (.src (iL ns))),some (.val (.int at')),some (.val (.int n)),some (.val (.int m)),some (.val (.lst (af hs))),some (.own []),none,none,none,none]=_:=e
 exact⟨row,h1,by omega,by simp![pD,iE,ec,eh,i0,pm,em,K1 (show q≤100000 by omega),e]⟩
end
theorem sK {fs:FA}{ρ:aj}:np fs ρ=(fs ρ).bind fun rs=>(rs.mapM RV.fr).bind Ca:=by
 unfold np
 rfl
theorem mz {ps:List PV}:Ca [.tup ps]=some (fO 0 ps):=Eq.trans rfl rfl
end Dp
end
section
namespace Dp
open PySem PySem.Spec L2 Fo Pt
noncomputable abbrev Tl:=Nat×Nat×Int
noncomputable def ij (t:Tl):PV:=.tup [.int (t.1:Nat),.int (t.2.1:Nat),.int t.2.2]
noncomputable def dc (row:List Tl):PV:=.tup (row.map ij)
noncomputable def HG (j:Nat)(s:Int):PV:=.tup [.int (j:Nat),.int s]
noncomputable def Kf (row:List Tl)(j:Nat):List Sg:=match row[j]? with
 |some t=>[(t.1,t.2.1,HG j 1),(t.2.1,t.1,HG j (-1))]
 |none=>[]
noncomputable def gy (row:List Tl)(js:List Nat):List Sg:=js.flatMap (Kf row)
theorem BM {row:List Tl}{j:Nat}{t:Tl}(h:row[j]?=some t):Kf row j=[(t.1,t.2.1,HG j 1),(t.2.1,t.1,HG j (-1))]:=by unfold Kf;rw[h]
theorem rF {row:List Tl}{js:List Nat}{a e:Nat}{l:PV}(h:(a,e,l)∈gy row js):∃j s t,j∈js/\row[j]?=some t/\l=HG j s/\((s=1/\a=t.1/\e=t.2.1)\/(s = -1/\a=t.2.1/\e=t.1)):=by
 obtain⟨j,hj,h⟩:=List.mem_flatMap.mp h
 cases et:row[j]? with
 |none=>unfold Kf at h;rw[et] at h;cases h
 |some t=>
  rw[BM et] at h
  rcases List.mem_cons.mp h with h|h
  ·cases h;exact⟨j,1,t,hj,et,rfl,.inl ⟨rfl,rfl,rfl⟩⟩
  ·have h:=List.mem_singleton.mp h
   cases h;exact⟨j,-1,t,hj,et,rfl,.inr ⟨rfl,rfl,rfl⟩⟩
theorem ri {row:List Tl}{js:List Nat}{j:Nat}{t:Tl}(hj:j∈js)(et:row[j]?=some t):(t.1,t.2.1,HG j 1)∈gy row js/\(t.2.1,t.1,HG j (-1))∈gy row js:=by
 constructor<;>refine List.mem_flatMap.mpr ⟨j,hj,?_⟩<;>rw[BM et]
 ·exact List.mem_cons_self
 ·exact List.mem_cons_of_mem _ List.mem_cons_self
theorem DG {a b c:PV}:nZ [a,b,c] none (some 2)=[a,b]:=by unfold nZ;rfl
theorem D0:¬(HT.sIx 3 0 none=0/\HT.sIx 3 3 (some 2)=3):=by decide +kernel
theorem Rch.trans {S:List Sg}{x a e:Nat}(h1:Rch S x a)(h2:Rch S a e):Rch S x e:=by
 induction h2 with
 |refl=>exact h1
 |step _ q ih=>exact .step ih q
theorem Rch.mono {S S':List Sg}(h:∀t∈S,t∈S'){x e:Nat}(r:Rch S x e):Rch S' x e:=by
 induction r with
 |refl=>exact .refl
 |step _ q ih=>exact .step ih (h _ q)
theorem Rch.symm {row:List Tl}{js:List Nat}{x e:Nat}(r:Rch (gy row js) x e):Rch (gy row js) e x:=by
 induction r with
 |refl=>exact .refl
 |step _ q ih=>
  obtain⟨j,s,t,hj,et,_,hs⟩:=rF q
  obtain⟨m1,m2⟩:=ri hj et
  rcases hs with ⟨_,rfl,rfl⟩|⟨_,rfl,rfl⟩
  ·exact (Rch.step .refl m2).trans ih
  ·exact (Rch.step .refl m1).trans ih
noncomputable def mr (row:List Tl):List (Nat×Nat):=row.map fun t=>(t.1,t.2.1)
noncomputable def cT (row:List Tl):Nat->Nat:=fj (mr row) id
open Classical in
theorem AD {row:List Tl}{P:Nat->Prop}(hP:∀t∈row,(P t.1↔P t.2.1)){x y:Nat}(h:cT row x=cT row y):P x↔P y:=by
 have:=j9 (f:=fun v=>if P v then 1 else 0) (mr row) id (fun p hp=>by
  obtain⟨t,ht,rfl⟩:=List.mem_map.mp hp
  show (if P t.1 then 1 else 0)=(if P t.2.1 then 1 else 0)
  by_cases q:P t.1
  ·rw[if_pos q,if_pos ((hP t ht).mp q)]
  ·rw[if_neg q,if_neg fun z=>q ((hP t ht).mpr z)]) (fun a b e=>by rw[show a=b from e]) x y h
 have this:(if P x then 1 else 0)=(if P y then 1 else 0):=this
 by_cases q:P x<;>by_cases q':P y<;>simp[q,q'] at this ⊢
theorem KN {row:List Tl}{js:List Nat}(ha:∀t∈row,Rch (gy row js) t.1 t.2.1){x y:Nat}(h:cT row x=cT row y):Rch (gy row js) x y:=
 (AD (P:=fun v=>Rch (gy row js) x v) (fun t ht=>⟨fun q=>q.trans (ha t ht),fun q=>q.trans (ha t ht).symm⟩) h).mp .refl
end Dp
end
section
namespace Dp
open PySem PySem.Spec L2 Fo Pt
end Dp
end
section
namespace Dp
open PySem PySem.Spec L2 Fo Pt
theorem CN {n x y:Nat}(hx:x<n)(hy:y<n):iz [.int (n:Nat),.tup [.int (x:Nat),.int (y:Nat)]]=some (.v (.bl true)):=by
 have a0:∀a b:PV,L2.eH [a,b] 0=some a:=fun a b=>rfl
 have a1:∀a b:PV,L2.eH [a,b] 1=some b:=fun a b=>rfl
 have d1:decide ((0:Int)≤(x:Int)/\(x:Int)<(n:Int))=true:=decide_eq_true (by omega)
 have d2:decide ((0:Int)≤(y:Int)/\(y:Int)<(n:Int))=true:=decide_eq_true (by omega)
 have c2:decide (((2:Nat):Int)=2)=true:=rfl
 simp![uv,kc,c2,a0,a1,Ex,d1,d2]
theorem ve {n:Nat}{t:Tl}(hx:t.1<n)(hy:t.2.1<n):ft [.int (n:Nat),ij t]=some (.v (.bl true)):=by
 have a2:∀a b c:PV,L2.eH [a,b,c] 2=some c:=fun a b c=>rfl
 have c3:decide (((3:Nat):Int)=3)=true:=rfl
 simp![oK,iH,ij,c3,if_neg D0,DG,CN hx hy,a2,tx]
end Dp
end
section
namespace Dp
open PySem PySem.Spec L2 Fo Pt
noncomputable def bT (row:List Tl):Nat->List Nat
 |0=>[]
 |k+1=>match row[k]? with
  |some t=>if cT (row.take k) t.1=cT (row.take k) t.2.1 then bT row k else bT row k++[k]
  |none=>bT row k
theorem iw {row:List Tl}{k:Nat}{t:Tl}(et:row[k]?=some t)(h:cT (row.take k) t.1=cT (row.take k) t.2.1):bT row (k+1)=bT row k:=by
 rw[bT,et];exact if_pos h
theorem jw {row:List Tl}{k:Nat}{t:Tl}(et:row[k]?=some t)(h:cT (row.take k) t.1≠cT (row.take k) t.2.1):bT row (k+1)=bT row k++[k]:=by
 rw[bT,et];exact if_neg h
theorem jH (row:List Tl):∀k,(∀j∈bT row k,j<k)/\(bT row k).length≤k
 |0=>⟨fun _ h=>(by cases h),Nat.le_refl _⟩
 |k+1=>by
  obtain⟨h1,h2⟩:=jH row k
  have k1:∀j∈bT row k,j<k+1:=fun j hj=>Nat.lt_succ_of_lt (h1 j hj)
  cases et:row[k]? with
  |none=>rw[bT,et];exact⟨k1,by show (bT row k).length≤_;omega⟩
  |some t=>
   by_cases q:cT (row.take k) t.1=cT (row.take k) t.2.1
   ·rw[iw et q];exact⟨k1,by omega⟩
   ·rw[jw et q]
    refine⟨fun j hj=>?_,by rw[List.length_append,List.length_singleton];omega⟩
    rcases List.mem_append.mp hj with hj|hj
    ·exact k1 j hj
    ·rw[List.mem_singleton.mp hj];exact Nat.lt_succ_self k
theorem pT {row:List Tl}{k:Nat}{js:List Nat}(h:∀j∈js,j<k):gy (row.take k) js=gy row js:=by
 unfold gy
 induction js with
 |nil=>rfl
 |cons j js ih=>
  rw[List.flatMap_cons,List.flatMap_cons,ih fun i hi=>h i (List.mem_cons_of_mem _ hi)]
  unfold Kf
  rw[List.getElem?_take,if_pos (h j List.mem_cons_self)]
theorem wz {row:List Tl}{k:Nat}{t:Tl}(et:row[k]?=some t):row.take (k+1)=row.take k++[t]:=by
 rw[List.take_add_one,et];rfl
theorem uz (row:List Tl):∀k,∀t∈row.take k,Rch (gy row (bT row k)) t.1 t.2.1
 |0=>fun _ h=>by rw[List.take_zero] at h;cases h
 |k+1=>by
  have ih:=uz row k
  have hl:=(jH row k).1
  cases et:row[k]? with
  |none=>
   rw[bT,et,List.take_of_length_le (by have:=List.getElem?_eq_none_iff.mp et;omega)]
   rw[List.take_of_length_le (by have:=List.getElem?_eq_none_iff.mp et;omega)] at ih
   exact ih
  |some t=>
   intro u hu
   rw[wz et] at hu
   by_cases q:cT (row.take k) t.1=cT (row.take k) t.2.1
   ·rw[iw et q]
    rcases List.mem_append.mp hu with hu|hu
    ·exact ih u hu
    ·rw[List.mem_singleton.mp hu,←pT hl]
     exact KN (fun v hv=>by rw[pT hl];exact ih v hv) q
   ·rw[jw et q]
    rcases List.mem_append.mp hu with hu|hu
    ·exact (ih u hu).mono fun s hs=>by unfold gy at hs ⊢;rw[List.flatMap_append];exact List.mem_append_left _ hs
    ·rw[List.mem_singleton.mp hu]
     exact .step .refl (ri (List.mem_append_right _ (List.mem_singleton.mpr rfl)) et).1
end Dp
end
section
namespace Dp
open PySem PySem.Spec L2 Fo Pt
noncomputable def LW (ps:List (Nat×Nat)):List (Nat×Nat):=ps.map fun p=>(p.2,p.1)
noncomputable def cS (row:List Tl):Nat->Nat:=fj (LW (mr row)) id
theorem Hz (row:List Tl)(a b:Nat):cS row a=cS row b↔cT row a=cT row b:=by
 constructor
 ·intro h
  refine j9 (f:=cT row) (LW (mr row)) id (fun p hp=>?_) (fun x y e=>by rw[show x=y from e]) a b h
  obtain⟨q,hq,rfl⟩:=List.mem_map.mp hp
  exact (fQ _ _ _ _ hq).symm
 ·intro h
  refine j9 (f:=cS row) (mr row) id (fun p hp=>?_) (fun x y e=>by rw[show x=y from e]) a b h
  exact (fQ _ _ _ _ (List.mem_map_of_mem (f:=fun p:Nat×Nat=>(p.2,p.1)) hp)).symm
theorem DX (row:List Tl)(t:Tl):cS (row++[t])=jn (cS row) t.2.1 t.1:=by
 unfold cS fj LW mr
 rw[List.map_append,List.map_append,List.foldl_append];rfl
end Dp
end
section
namespace Dp
open PySem PySem.Spec L2 Fo Pt
noncomputable def Rl (row:List Tl)(j:Nat):Prop:=∃t,row[j]?=some t/\cT (row.take j) t.1≠cT (row.take j) t.2.1
theorem mem_real {row:List Tl}{j:Nat}:∀{k:Nat},j∈bT row k↔j<k/\Rl row j
 |0=>⟨fun h=>(by cases h),fun h=>absurd h.1 (Nat.not_lt_zero _)⟩
 |k+1=>by
  have ih:=mem_real (row:=row) (j:=j) (k:=k)
  cases et:row[k]? with
  |none=>
   rw[bT,et]
   show j∈bT row k↔_
   rw[ih]
   refine⟨fun h=>⟨by omega,h.2⟩,fun h=>⟨?_,h.2⟩⟩
   rcases Nat.lt_or_eq_of_le (Nat.le_of_lt_succ h.1) with q|q
   ·exact q
   ·obtain⟨t,e,_⟩:=h.2
    rw[q,et] at e;cases e
  |some t=>
   by_cases q:cT (row.take k) t.1=cT (row.take k) t.2.1
   ·rw[iw et q,ih]
    refine⟨fun h=>⟨by omega,h.2⟩,fun h=>⟨?_,h.2⟩⟩
    rcases Nat.lt_or_eq_of_le (Nat.le_of_lt_succ h.1) with z|z
    ·exact z
    ·obtain⟨t',e,n⟩:=h.2
     rw[z,et] at e;cases e
     rw[z] at n
     exact absurd q n
   ·rw[jw et q,List.mem_append,ih,List.mem_singleton]
    constructor
    ·rintro (h|h)
     ·exact⟨by omega,h.2⟩
     ·rw[h];exact⟨by omega,t,et,q⟩
    ·intro h
     rcases Nat.lt_or_eq_of_le (Nat.le_of_lt_succ h.1) with z|z
     ·exact .inl ⟨z,h.2⟩
     ·exact .inr z
theorem nh (row:List Tl)(p:Nat->Bool):∀k,(∀j,j<k->(p j=true↔Rl row j))->bT row k=(List.range k).filter p
 |0,_=>rfl
 |k+1,hp=>by
  have ih:=nh row p k fun j hj=>hp j (by omega)
  have hk:=hp k (Nat.lt_succ_self k)
  rw[List.range_succ,List.filter_append,←ih]
  cases et:row[k]? with
  |none=>
   have:¬p k=true:=fun z=>by obtain⟨t,e,_⟩:=hk.mp z;rw[et] at e;cases e
   rw[bT,et,List.filter_cons_of_neg (by simpa using this)]
   simp
  |some t=>
   by_cases q:cT (row.take k) t.1=cT (row.take k) t.2.1
   ·have:¬p k=true:=fun z=>by obtain⟨t',e,n⟩:=hk.mp z;rw[et] at e;cases e;exact n q
    rw[iw et q,List.filter_cons_of_neg (by simpa using this)]
    simp
   ·rw[jw et q,List.filter_cons_of_pos (hk.mpr ⟨t,et,q⟩)]
    simp
noncomputable def Ed (row:List Tl)(j a e:Nat):Prop:=∃t,row[j]?=some t/\((a=t.1/\e=t.2.1)\/(a=t.2.1/\e=t.1))
noncomputable def Rq (row:List Tl):List Nat->List Nat->Prop
 |[],[_]=>True
 |j::ns,a::e::vs=>Ed row j a e/\Rq row ns (e::vs)
 |_,_=>False
section
variable {row:List Tl}
theorem Ed.sym {j a e:Nat}(h:Ed row j a e):Ed row j e a:=by
 obtain⟨t,et,h⟩:=h
 exact⟨t,et,h.elim (fun h=>.inr ⟨h.2,h.1⟩) fun h=>.inl ⟨h.2,h.1⟩⟩
theorem Ed.two {j a e c d:Nat}(h:Ed row j a e)(h':Ed row j c d):(a=c/\e=d)\/(a=d/\e=c):=by
 obtain⟨t,et,h⟩:=h
 obtain⟨t',et',h'⟩:=h'
 rw[et] at et';cases et'
 rcases h with ⟨rfl,rfl⟩|⟨rfl,rfl⟩<;>rcases h' with ⟨rfl,rfl⟩|⟨rfl,rfl⟩
 ·exact .inl ⟨rfl,rfl⟩
 ·exact .inr ⟨rfl,rfl⟩
 ·exact .inr ⟨rfl,rfl⟩
 ·exact .inl ⟨rfl,rfl⟩
theorem Ed.c {j a e k:Nat}(h:Ed row j a e)(hj:j<k):cT (row.take k) a=cT (row.take k) e:=by
 obtain⟨t,et,h⟩:=h
 have m:t∈row.take k:=List.mem_of_getElem? (i:=j) (by rw[List.getElem?_take,if_pos hj];exact et)
 have e1:cT (row.take k) t.1=cT (row.take k) t.2.1:=fQ _ _ _ _ (List.mem_map_of_mem (f:=fun t:Tl=>(t.1,t.2.1)) m)
 rcases h with ⟨rfl,rfl⟩|⟨rfl,rfl⟩
 ·exact e1
 ·exact e1.symm
theorem Ed.r {j a e:Nat}(h:Ed row j a e)(hr:Rl row j):cT (row.take j) a≠cT (row.take j) e:=by
 obtain⟨t,et,h⟩:=h
 obtain⟨t',et',n⟩:=hr
 rw[et] at et';cases et'
 rcases h with ⟨rfl,rfl⟩|⟨rfl,rfl⟩
 ·exact n
 ·exact fun q=>n q.symm
theorem Ho {k k' a b:Nat}(h:k≤k')(e:cT (row.take k) a=cT (row.take k) b):cT (row.take k') a=cT (row.take k') b:=by
 have:row.take k'=row.take k++(row.drop k).take (k' - k):=by
  rw[show k'=k+(k' - k) by omega,List.take_add];simp
 unfold cT mr fj at e ⊢
 rw[this,List.map_append,List.foldl_append]
 exact pQ _ _ _ _ e
theorem Rq.ne {ns vs:List Nat}(h:Rq row ns vs):vs≠[]:=by
 cases vs with
 |nil=>cases ns<;>cases h
 |cons=>exact List.cons_ne_nil _ _
theorem Rq.c {k:Nat}:∀{ns vs:List Nat} {x y:Nat},Rq row ns vs->vs.head?=some x->vs.getLast?=some y->(∀j∈ns,j<k)->cT (row.take k) x=cT (row.take k) y
 |[],[v],x,y,_,h1,h2,_=>by cases h1;cases h2;rfl
 |[],[],_,_,h,_,_,_=>h.elim
 |[],_::_::_,_,_,h,_,_,_=>h.elim
 |_::_,[],_,_,h,_,_,_=>h.elim
 |_::_,[_],_,_,h,_,_,_=>h.elim
 |j::ns,a::e::vs,x,y,⟨h,t⟩,h1,h2,hk=>by
  cases h1
  rw[List.getLast?_cons_cons] at h2
  exact (h.c (hk j List.mem_cons_self)).trans (t.c rfl h2 fun i hi=>hk i (List.mem_cons_of_mem _ hi))
theorem Rq.snoc {j e:Nat}:∀{ns vs:List Nat} {a:Nat},Rq row ns vs->vs.getLast?=some a->Ed row j a e->Rq row (ns++[j]) (vs++[e])
 |[],[v],a,_,h2,h=>by cases h2;exact⟨h,trivial⟩
 |[],[],_,h,_,_=>h.elim
 |[],_::_::_,_,h,_,_=>h.elim
 |_::_,[],_,h,_,_=>h.elim
 |_::_,[_],_,h,_,_=>h.elim
 |i::ns,b::f::vs,a,⟨h,t⟩,h2,he=>by
  rw[List.getLast?_cons_cons] at h2
  exact⟨h,t.snoc h2 he⟩
theorem Rq.split {J:Nat}:∀{ns vs:List Nat},Rq row ns vs->J∈ns->∃A B VA VB a b,ns=A++J::B/\vs=VA++VB/\Rq row A VA/\Rq row B VB/\J∉A/\VA.getLast?=some a/\VB.head?=some b/\Ed row J a b
 |[],_,_,h=>by cases h
 |_::_,[],h,_=>h.elim
 |_::_,[_],h,_=>h.elim
 |j::ns,a::e::vs,⟨h,t⟩,hJ=>by
  by_cases q:j=J
  ·subst q
   exact⟨[],ns,[a],e::vs,a,e,rfl,rfl,trivial,t,List.not_mem_nil,rfl,rfl,h⟩
  ·obtain⟨A,B,VA,VB,a',b',e1,e2,r1,r2,n,l1,l2,hE⟩:=t.split ((List.mem_cons.mp hJ).resolve_left fun z=>q z.symm)
   obtain⟨w,VA',rfl⟩:∃w VA',VA=w::VA':=by
    cases VA with
    |nil=>cases l1
    |cons w VA'=>exact⟨w,VA',rfl⟩
   have:w=e:=by rw[List.cons_append] at e2;exact (List.cons.inj e2).1.symm
   subst this
   refine⟨j::A,B,a::w::VA',VB,a',b',by rw[e1];rfl,by rw[e2];rfl,⟨h,r1⟩,r2,fun z=>?_,by rw[List.getLast?_cons_cons];exact l1,l2,hE⟩
   rcases List.mem_cons.mp z with z|z
   ·exact q z.symm
   ·exact n z
theorem Rq.split1 {J:Nat}{ns vs:List Nat}(h:Rq row ns vs)(hJ:J∈ns)(nd:vs.Nodup):∃A B VA VB a b,ns=A++J::B/\vs=VA++VB/\Rq row A VA/\Rq row B VB/\J∉A/\J∉B/\VA.getLast?=some a/\VB.head?=some b/\Ed row J a b:=by
 obtain⟨A,B,VA,VB,a,b,e1,e2,r1,r2,n,l1,l2,hE⟩:=h.split hJ
 refine⟨A,B,VA,VB,a,b,e1,e2,r1,r2,n,fun z=>?_,l1,l2,hE⟩
 obtain⟨A',B',V1,V2,c,d,_,e4,_,_,_,l3,l4,hE'⟩:=r2.split z
 subst e2
 have ha:a∈VA:=List.mem_of_getLast? l1
 have hc:c∈VB:=by rw[e4];exact List.mem_append_left _ (List.mem_of_getLast? l3)
 have hd:d∈VB:=by rw[e4];exact List.mem_append_right _ (List.mem_of_head? l4)
 have dj:=(List.nodup_append.mp nd).2.2
 rcases hE.two hE' with ⟨q,_⟩|⟨q,_⟩
 ·exact dj a ha c hc q
 ·exact dj a ha d hd q
theorem Ke {ns A B:List Nat}{m:Nat}(h:∀j∈ns,j<m+1)(e:ns=A++m::B)(hA:m∉A)(hB:m∉B):(∀j∈A,j<m)/\∀j∈B,j<m:=by
 refine⟨fun j hj=>?_,fun j hj=>?_⟩
 ·have:=h j (by rw[e];exact List.mem_append_left _ hj)
  have:j≠m:=fun q=>hA (q▸hj)
  omega
 ·have:=h j (by rw[e];exact List.mem_append_right _ (List.mem_cons_of_mem _ hj))
  have:j≠m:=fun q=>hB (q▸hj)
  omega
theorem CC {VA VB:List Nat}{x:Nat}(h:(VA++VB).head?=some x)(n:VA≠[]):VA.head?=some x:=by
 cases VA with
 |nil=>exact absurd rfl n
 |cons=>exact h
theorem A3 {VA VB:List Nat}{x:Nat}(h:(VA++VB).getLast?=some x)(n:VB≠[]):VB.getLast?=some x:=by
 rw[List.getLast?_append] at h
 cases q:VB.getLast? with
 |none=>exact absurd (List.getLast?_eq_none_iff.mp q) n
 |some y=>rw[q] at h;exact h
theorem Rq.apart {m:Nat}{ns vs:List Nat}{x y:Nat}(h:Rq row ns vs)(nd:vs.Nodup)(hx:vs.head?=some x)(hy:vs.getLast?=some y)(hm:m∈ns)(hl:∀j∈ns,j<m+1)(hr:Rl row m):cT (row.take m) x≠cT (row.take m) y:=by
 obtain⟨A,B,VA,VB,a,b,e1,e2,r1,r2,n1,n2,l1,l2,hE⟩:=h.split1 hm nd
 obtain⟨b1,b2⟩:=Ke hl e1 n1 n2
 subst e2
 have k1:=r1.c (CC hx r1.ne) l1 b1
 have k2:=r2.c l2 (A3 hy r2.ne) b2
 have:=hE.r hr
 rw[k1,←k2];exact this
theorem Rq.when {ns vs:List Nat}{x y k:Nat}(h:Rq row ns vs)(nd:vs.Nodup)(hx:vs.head?=some x)(hy:vs.getLast?=some y)(hr:∀j∈ns,Rl row j):cT (row.take k) x=cT (row.take k) y↔∀j∈ns,j<k:=by
 refine⟨fun e=>?_,fun hk=>h.c hx hy hk⟩
 have main:∀(d m:Nat),m≤k+d->(∀j∈ns,j<m)->∀j∈ns,j<k:=fun d=>by
  induction d with
  |zero=>intro m hm hl j hj;have:=hl j hj;omega
  |succ d ih=>
   intro m hm hl
   rcases Nat.lt_or_ge k m with q|q
   ·obtain⟨m',rfl⟩:∃m',m=m'+1:=⟨m - 1,by omega⟩
    by_cases hm':m'∈ns
    ·exact absurd (Ho (by omega) e) (h.apart nd hx hy hm' hl (hr _ hm'))
    ·exact ih m' (by omega) fun j hj=>by
      have:=hl j hj
      have:j≠m':=fun z=>hm' (z▸hj)
      omega
   ·intro j hj;have:=hl j hj;omega
 obtain⟨m,hm⟩:∃m,∀j∈ns,j<m:=⟨row.length,fun j hj=>by obtain⟨t,e,_⟩:=hr j hj;exact (List.getElem?_eq_some_iff.mp e).1⟩
 exact main m m (by omega) hm
end
end Dp
end
section
namespace Dp
open PySem L2 Fo Dp
noncomputable def Nq (o:Option Nat):PV:=o.elim .non fun n=>.int (n:Int)
noncomputable def rO (ts:List (Option Nat)):List PV:=ts.map Nq
theorem ET (ts:List (Option Nat)):(rO ts).length=ts.length:=List.length_map ..
theorem DT (ts:List (Option Nat))(i k:Nat):(rO ts).set i (.int (k:Int))=rO (ts.set i (some k)):=by
 unfold rO;rw[List.map_set];rfl
noncomputable def zj (num:Nat)(us us':List Nat)(acc:List (Option Nat))(k:Nat):List (Option Nat):=if up us' k=up us k then acc else acc.set k (some num)
noncomputable def tJ (num:Nat)(us us':List Nat)(ks:List Nat)(acc:List (Option Nat)):List (Option Nat):=ks.foldl (zj num us us') acc
theorem so {num:Nat}{us us':List Nat}{acc:List (Option Nat)}{k:Nat}:(zj num us us' acc k).length=acc.length:=by
 unfold zj;split
 ·rfl
 ·rw[List.length_set]
theorem sE {num:Nat}{us us':List Nat}:∀(ks:List Nat) (acc:List (Option Nat)),(tJ num us us' ks acc).length=acc.length
 |[],_=>rfl
 |k::ks,acc=>by
  show (tJ num us us' ks (zj num us us' acc k)).length=_
  rw[sE ks,so]
theorem yF {n num:Nat}{us us':List Nat}{i:Nat}{b:FS}{R:List (Option Nat)->Option Sl->aj}(hset:∀p acc z,gN i p (R acc z)=some (R acc (some (.val p))))
  (hb:∀acc k,k<n->acc.length=n->b (R acc (some (.val (.int (k:Nat)))))=.nx (R (zj num us us' acc k) (some (.val (.int (k:Nat)))))):∀(ks:List Nat) (acc:List (Option Nat)) (z:Option Sl),(∀k∈ks,k<n)->acc.length=n →
  ∃z',aZ (gN i) b (af ks) (R acc z)=.nx (R (tJ num us us' ks acc) z')
 |[],acc,z,_,_=>⟨z,rfl⟩
 |k::ks,acc,z,hk,ha=>by
  obtain⟨z',e⟩:=yF hset hb ks (zj num us us' acc k) (some (.val (.int (k:Nat)))) (fun q hq=>hk q (List.mem_cons_of_mem _ hq)) (by rw[so];exact ha)
  refine⟨z',?_⟩
  show _=Out.nx (R (tJ num us us' ks (zj num us us' acc k)) z')
  rw[←e,dZ,eV]
  have h1:=hset (nI k) acc z
  have h2:=hb acc k (hk k List.mem_cons_self) ha
  rw[h1]
  have h2:b (R acc (some (.val (nI k))))=_:=h2
  simp only[sX,sy,h2]
noncomputable def tU (us ms:List Nat)(p:Nat×Nat):List Nat:=dU "size" "none" us ms (.join p.1 p.2)
noncomputable def tM (us ms:List Nat)(p:Nat×Nat):List Nat:=dM "size" us ms (.join p.1 p.2)
noncomputable def rT:List (Nat×Nat)->Nat->List Nat->List Nat->List (Option Nat)->List Nat×List Nat×List (Option Nat)
 |[],_,us,ms,ts=>(us,ms,ts)
 |p::r,k,us,ms,ts=>rT r (k+1) (tU us ms p) (tM us ms p) (tJ k us (tU us ms p) (List.range us.length) ts)
theorem sD:("none" : Str)∈cj:=by decide
theorem xa:("size" : Str)∈Dx:=by decide
theorem FL {n:Nat}{us ms:List Nat}(S:Sto n us ms){p:Nat×Nat}(h:p.1<n/\p.2<n):Sto n (tU us ms p) (tM us ms p):=Ci S sD h
theorem st2 (j y:Str)(us ms:List Nat):be (qf j y us ms) (.int 2)=some (.fz (.tup (af us))):=rfl
theorem x0 {n:Nat}(h2:n≤40){s1:Option Sl}:∀(row:List (Nat×Nat)) (k:Nat) (us ms:List Nat) (ts:List (Option Nat)) (z4 z5 z6 z7 z8 z9 z10:Option Sl),Sto n us ms->ts.length=n->(∀p∈row,p.1<n/\p.2<n) →
  ∃w4 w5 w6 w7 w8 w9 w10,aZ (jm 2 (gC (gN 4) (gC (jm 2 (gC (gN 5) (gC (gN 6) g0))) g0))) ez (fO k (jY row)) [some (.val (.int n)),s1,some (.val (qf "size" "none" us ms)),some (.own (rO ts)),z4,z5,z6,z7,z8,z9,z10] =
   .nx [some (.val (.int n)),s1,some (.val (qf "size" "none" (rT row k us ms ts).1 (rT row k us ms ts).2.1)),some (.own (rO (rT row k us ms ts).2.2)),w4,w5,w6,w7,w8,w9,w10]
 |[],k,us,ms,ts,z4,z5,z6,z7,z8,z9,z10,_,_,_=>⟨z4,z5,z6,z7,z8,z9,z10,rfl⟩
 |(x,z)::row,k,us,ms,ts,z4,z5,z6,z7,z8,z9,z10,S,ht,hr=>by
  have h:=hr (x,z) List.mem_cons_self
  have S':=FL S h
  have ej:=EH S xa sD h.1 h.2
  obtain⟨w10,el⟩:=yF (n:=n) (num:=k) (us:=us) (us':=tU us ms (x,z)) (i:=10) (b:=ck)
   (R:=fun acc q=>[some (.val (.int n)),s1,some (.val (qf "size" "none" us ms)),some (.own (rO acc)),some (.val (.int k)),some (.val (.int x)),some (.val (.int z)),some (.val (qf "size" "none" (tU us ms (x,z)) (tM us ms (x,z)))),some (.val (dA us (.join x z))),some (.val (.int (dS "none" us (.join x z):Nat))),q]) (fun p acc q=>rfl) (fun acc q hq ha=>by
    have l1:q<us.length:=by rw[S.lu];exact hq
    have l2:q<(tU us ms (x,z)).length:=by rw[S'.lu];exact hq
    have d:decide ((up (tU us ms (x,z)) q:Int)=(up us q:Int))=decide (up (tU us ms (x,z)) q=up us q):=decide_eq_decide.mpr (by omega)
    unfold zj
    by_cases e:up (tU us ms (x,z)) q=up us q
    ·rw[if_pos e]
     simp![ck,st2,am l1,am l2,d,decide_eq_true e]
    ·rw[if_neg e]
     simp![ck,st2,am l1,am l2,d,decide_eq_false e,ET,fU (show q<acc.length by omega),DT]) (List.range us.length) ts z10 (fun q hq=>by have:=List.mem_range.mp hq;rw[S.lu] at this;exact this) ht
  obtain⟨w4,w5,w6,w7,w8,w9,v10,e⟩:=x0 h2 (s1:=s1) row (k+1) (tU us ms (x,z)) (tM us ms (x,z)) (tJ k us (tU us ms (x,z)) (List.range us.length) ts) (some (.val (.int k))) (some (.val (.int x))) (some (.val (.int z))) (some (.val (qf "size" "none" (tU us ms (x,z)) (tM us ms (x,z))))) (some (.val (dA us (.join x z)))) (some (.val (.int (dS "none" us (.join x z):Nat)))) w10 S' (by rw[sE];exact ht) fun q hq=>hr q (List.mem_cons_of_mem _ hq)
  refine⟨w4,w5,w6,w7,w8,w9,v10,?_⟩
  rw[show rT ((x,z)::row) k us ms ts=rT row (k+1) (tU us ms (x,z)) (tM us ms (x,z)) (tJ k us (tU us ms (x,z)) (List.range us.length) ts) from rfl,←e,show fO k (jY ((x,z)::row))=.tup [.int k,.tup [.int x,.int z]]::fO (k+1) (jY row) from rfl,eV]
  have ej:e9 [qf "size" "none" us ms,.int x,.int z]=some (.v (.tup [qf "size" "none" (tU us ms (x,z)) (tM us ms (x,z)),dA us (.join x z),.int (dS "none" us (.join x z):Nat)])):=ej
  rw[S.lu] at el ⊢
  simp![ez,ej,K1 (show n≤100000 by omega),el]
theorem K0:∀n:Nat,(List.replicate n [PV.non]).flatten=rO (List.replicate n none)
 |0=>rfl
 |n+1=>by rw[List.replicate_succ,List.flatten_cons,K0 n];rfl
theorem Mx {n:Nat}(h:n≤1000):iM (.lst [.non]) (.int n)=some (.nw (rO (List.replicate n none))):=by
 show (if ((n:Int)≤1000/\-1000≤(n:Int)/\[PV.non].length≤100) then some (RV.nw (List.replicate (n:Int).toNat [PV.non]).flatten) else none)=_
 rw[if_pos ⟨by omega,by omega,by decide⟩,Int.toNat_natCast,K0]
noncomputable def rU (n:Nat)(row:List (Nat×Nat)):List Nat:=(rT row 0 (List.range n) (List.replicate n (KY "size")) (List.replicate n none)).1
noncomputable def rW (n:Nat)(row:List (Nat×Nat)):List (Option Nat):=(rT row 0 (List.range n) (List.replicate n (KY "size")) (List.replicate n none)).2.2
theorem JY {n:Nat}(h1:1≤n)(h2:n≤40):Sto n (List.range n) (List.replicate n (KY "size")):=⟨p6 h1 h2,List.length_range,List.length_replicate⟩
noncomputable def lH (ts:List (Option Nat))(x:Nat):Option Nat:=(ts[x]?).join
structure Tin (k:Nat)(us:List Nat)(ts:List (Option Nat)):Prop where
 hd:∀x,x<us.length->(up us x=x↔lH ts x=none)
 lt:∀x t,lH ts x=some t->t<k
 le:∀x,x<us.length->up us x≠x->∀t',lH ts (up us x)=some t'->∃t,lH ts x=some t/\t<t'
theorem EB {ts:List (Option Nat)}{u k x:Nat}(hu:u<ts.length):lH (ts.set u (some k)) x=if x=u then some k else lH ts x:=by
 unfold lH
 rw[List.getElem?_set]
 by_cases h:u=x
 ·subst h;rw[if_pos rfl,if_pos hu,if_pos rfl];rfl
 ·rw[if_neg h,if_neg fun z=>h z.symm]
theorem oV {k:Nat}{us:List Nat}:∀(ks:List Nat) (ts:List (Option Nat)),tJ k us us ks ts=ts
 |[],_=>rfl
 |q::ks,ts=>by
  show tJ k us us ks (zj k us us ts q)=ts
  rw[show zj k us us ts q=ts from if_pos rfl,oV ks]
theorem wu {k:Nat}{us us':List Nat}:∀(ks:List Nat) (ts:List (Option Nat)) (x:Nat),(∀q∈ks,q<ts.length)->lH (tJ k us us' ks ts) x=if x∈ks/\up us' x≠up us x then some k else lH ts x
 |[],ts,x,_=>by rw[if_neg fun h=>by cases h.1];rfl
 |q::ks,ts,x,h=>by
  show lH (tJ k us us' ks (zj k us us' ts q)) x=_
  rw[wu ks _ x fun r hr=>by rw[so];exact h r (List.mem_cons_of_mem _ hr)]
  have hq:=h q List.mem_cons_self
  have e1:lH (zj k us us' ts q) x=if x=q/\up us' q≠up us q then some k else lH ts x:=by
   unfold zj
   by_cases e:up us' q=up us q
   ·rw[if_pos e,if_neg fun z=>z.2 e]
   ·rw[if_neg e,EB hq]
    by_cases e2:x=q
    ·rw[if_pos e2,if_pos ⟨e2,e⟩]
    ·rw[if_neg e2,if_neg fun z=>e2 z.1]
  rw[e1]
  by_cases a:x∈ks/\up us' x≠up us x
  ·rw[if_pos a,if_pos ⟨List.mem_cons_of_mem _ a.1,a.2⟩]
  ·rw[if_neg a]
   by_cases b:x=q/\up us' q≠up us q
   ·rw[if_pos b,if_pos ⟨by rw[b.1];exact List.mem_cons_self,by rw[b.1];exact b.2⟩]
   ·rw[if_neg b,if_neg fun z=>?_]
    rcases List.mem_cons.mp z.1 with e|e
    ·exact b ⟨e,by rw[←e];exact z.2⟩
    ·exact a ⟨e,z.2⟩
theorem vo (us:List Nat)(x:Nat):hZ "none" us x=us:=(kr rfl fun t ht=>by simp only[jE,n7,n8,n9,Ni,if_false]).symm
theorem Df {us ms:List Nat}{p:Nat×Nat}:tU us ms p=if hd us p.1=hd us p.2 then us else zv "size" us ms (hd us p.1) (hd us p.2):=by
 show (if hd us p.1=hd us p.2 then hZ "none" (hZ "none" us p.1) p.2 else zv "size" (hZ "none" (hZ "none" us p.1) p.2) ms _ _)=_
 rw[vo,vo]
theorem AY {n k:Nat}{us ms:List Nat}{ts:List (Option Nat)}(S:Sto n us ms)(ht:ts.length=n){p:Nat×Nat}(h:p.1<n/\p.2<n)(T:Tin k us ts):Tin (k+1) (tU us ms p) (tJ k us (tU us ms p) (List.range us.length) ts):=by
 rw[Df]
 by_cases e:hd us p.1=hd us p.2
 ·rw[if_pos e,oV]
  exact⟨T.hd,fun x t q=>Nat.lt_succ_of_lt (T.lt x t q),T.le⟩
 ·rw[if_neg e]
  obtain⟨f,lu,lm⟩:=S
  have hx:p.1<us.length:=by omega
  have hz:p.2<us.length:=by omega
  have main:∀u v,u<us.length->v<us.length->up us u=u->up us v=v->v≠u->Tin (k+1) (us.set u v) (tJ k us (us.set u v) (List.range us.length) ts):=fun u v hu hv eu ev ne=>by
   have at':∀x,lH (tJ k us (us.set u v) (List.range us.length) ts) x=if x=u then some k else lH ts x:=fun x=>by
    rw[wu _ _ _ fun q hq=>by have:=List.mem_range.mp hq;omega,eL hu]
    by_cases q:x=u
    ·rw[if_pos q,if_pos q,if_pos ⟨by rw[q];exact List.mem_range.mpr hu,by rw[q,eu];exact ne⟩]
    ·rw[if_neg q,if_neg q,if_neg fun z=>z.2 rfl]
   refine⟨fun x hx=>?_,fun x t=>?_,fun x hx=>?_⟩
   ·rw[List.length_set] at hx
    rw[at',eL hu]
    by_cases q:x=u
    ·rw[if_pos q,if_pos q,q];exact⟨fun z=>absurd z ne,fun z=>by cases z⟩
    ·rw[if_neg q,if_neg q];exact T.hd x hx
   ·rw[at']
    split
    ·intro z;cases z;exact Nat.lt_succ_self _
    ·intro z;exact Nat.lt_succ_of_lt (T.lt x t z)
   ·rw[List.length_set] at hx
    rw[eL hu]
    by_cases q:x=u
    ·rw[if_pos q]
     intro _ t' z
     rw[at',if_neg ne,(T.hd v hv).mp ev] at z
     cases z
    ·rw[if_neg q]
     intro hn t' z
     rw[at'] at z
     rw[at',if_neg q]
     by_cases w:up us x=u
     ·rw[if_pos w] at z
      cases z
      cases c:lH ts x with
      |none=>exact absurd ((T.hd x hx).mpr c) hn
      |some t=>exact⟨t,rfl,T.lt x t c⟩
     ·rw[if_neg w] at z
      exact T.le x hx hn t' z
  have a1:=kW f.fst hx
  have a2:=kW f.fst hz
  have b1:=pM f.fst hx
  have b2:=pM f.fst hz
  unfold zv tp un
  cases stay "size" ms (hd us p.1) (hd us p.2) with
  |true=>exact main _ _ a2 a1 b2 b1 e
  |false=>exact main _ _ a1 a2 b1 b2 fun z=>e z.symm
theorem MO (n:Nat):Tin 0 (List.range n) (List.replicate n none):=by
 have t0:∀x,lH (List.replicate n none) x=none:=fun x=>by
  unfold lH
  rw[List.getElem?_replicate]
  split<;>rfl
 have u:∀x,x<n->up (List.range n) x=x:=fun x hx=>by unfold up;rw[List.getD_eq_getElem?_getD,List.getElem?_range hx];rfl
 refine⟨fun x hx=>⟨fun _=>t0 x,fun _=>u x (by rwa [List.length_range] at hx)⟩,fun x t z=>(by rw[t0] at z;cases z),fun x hx hn=>absurd (u x (by rwa [List.length_range] at hx)) hn⟩
end Dp
end
section
namespace Dp
open PySem L2 Fo Pt
theorem om {us:List Nat}(f:Frst us){u t:Nat}(hu:u<us.length)(ht:t<us.length)(eu:up us u=u)(et:up us t=t)(ne:t≠u){z:Nat}(hz:z<us.length):hd (us.set u t) z=if hd us z=u then t else hd us z:=by
 have f':=mW f hu ht eu et ne
 have l':(us.set u t).length=us.length:=List.length_set
 have ht':hd (us.set u t) t=t:=i5 f'.fst (by omega) (by rw[eL hu,if_neg ne];exact et)
 have main:∀{z:Nat} {l:List Nat},Way us z l->z<us.length->hd (us.set u t) z=if hd us z=u then t else hd us z:=fun {z l} w=>by
  induction w with
  | @head z e=>
   intro hz
   rw[i5 f.fst hz e]
   by_cases q:z=u
   ·subst q
    rw[if_pos rfl,←wQ f'.fst (by omega),eL hu,if_pos rfl,ht']
   ·rw[if_neg q]
    exact i5 f'.fst (by omega) (by rw[eL hu,if_neg q];exact e)
  | @step z l n w ih=>
   intro hz
   have q:z≠u:=fun q=>n (by rw[q];exact eu)
   have:=ih (f.fst.bnd z hz)
   rw[wQ f.fst hz] at this
   rw[←this,←wQ f'.fst (show z<(us.set u t).length by omega),eL hu,if_neg q]
 exact main (eM f.fst hz) hz
theorem LC {P Q X Y:Nat}:(if X=P then Q else X)=(if Y=P then Q else Y)↔X=Y\/(X=P\/X=Q)/\(Y=P\/Y=Q):=by
 by_cases h1:X=P
 ·rw[if_pos h1]
  by_cases h2:Y=P
  ·rw[if_pos h2];exact⟨fun _=>.inr ⟨.inl h1,.inl h2⟩,fun _=>rfl⟩
  ·rw[if_neg h2];exact⟨fun e=>.inr ⟨.inl h1,.inr e.symm⟩,fun e=>e.elim (fun e=>absurd (e.symm.trans h1) h2) fun e=>(e.2.resolve_left h2).symm⟩
 ·rw[if_neg h1]
  by_cases h2:Y=P
  ·rw[if_pos h2];exact⟨fun e=>.inr ⟨.inr e,.inl h2⟩,fun e=>e.elim (fun e=>absurd (e.trans h2) h1) fun e=>e.1.resolve_left h1⟩
  ·rw[if_neg h2];exact⟨.inl,fun e=>e.elim id fun e=>(e.1.resolve_left h1).trans (e.2.resolve_left h2).symm⟩
theorem zy {X Y A B x y a b:Nat}(ne:A≠B)(x1:X=A↔x=a)(x2:X=B↔x=b)(y1:Y=A↔y=a)(y2:Y=B↔y=b)(xy:X=Y↔x=y):((if X=B then A else X)=(if Y=B then A else Y)↔(if x=a then b else x)=(if y=a then b else y)):=by
 rw[LC,LC,x1,x2,y1,y2,xy,Or.comm (a:=x=b),Or.comm (a:=y=b)]
theorem vB {X Y A B x y a b:Nat}(ne:A≠B)(x1:X=A↔x=a)(x2:X=B↔x=b)(y1:Y=A↔y=a)(y2:Y=B↔y=b)(xy:X=Y↔x=y):((if X=A then B else X)=(if Y=A then B else Y)↔(if x=a then b else x)=(if y=a then b else y)):=by
 rw[LC,LC,x1,x2,y1,y2,xy]
noncomputable def JX (n:Nat)(us:List Nat)(c:Nat->Nat):Prop:=∀x y,x<n->y<n->(hd us x=hd us y↔c x=c y)
theorem C2 {n:Nat}{us ms:List Nat}{c:Nat->Nat}(S:Sto n us ms){p:Nat×Nat}(h:p.1<n/\p.2<n)(K:JX n us c):JX n (tU us ms p) (jn c p.1 p.2):=by
 rw[Df]
 have kp:=K p.1 p.2 h.1 h.2
 by_cases e:hd us p.1=hd us p.2
 ·rw[if_pos e,ma (kp.mp e)];exact K
 ·rw[if_neg e]
  obtain⟨f,lu,lm⟩:=S
  have hx:p.1<us.length:=by omega
  have hz:p.2<us.length:=by omega
  have a1:=kW f.fst hx
  have a2:=kW f.fst hz
  have b1:=pM f.fst hx
  have b2:=pM f.fst hz
  intro x y lx ly
  have x1:=K x p.1 lx h.1
  have x2:=K x p.2 lx h.2
  have y1:=K y p.1 ly h.1
  have y2:=K y p.2 ly h.2
  have xy:=K x y lx ly
  unfold jn
  unfold zv tp un
  cases stay "size" ms (hd us p.1) (hd us p.2) with
  |true=>
   show hd (us.set (hd us p.2) (hd us p.1)) x=hd (us.set (hd us p.2) (hd us p.1)) y↔_
   rw[om f a2 a1 b2 b1 e (by omega),om f a2 a1 b2 b1 e (by omega)]
   exact zy e x1 x2 y1 y2 xy
  |false=>
   show hd (us.set (hd us p.1) (hd us p.2)) x=hd (us.set (hd us p.1) (hd us p.2)) y↔_
   rw[om f a1 a2 b1 b2 (fun z=>e z.symm) (by omega),om f a1 a2 b1 b2 (fun z=>e z.symm) (by omega)]
   exact vB e x1 x2 y1 y2 xy
theorem LR {n:Nat}(h1:1≤n)(h2:n≤40):JX n (List.range n) id:=fun x y hx hy=>by
 have u:∀x,x<n->up (List.range n) x=x:=fun x hx=>by unfold up;rw[List.getD_eq_getElem?_getD,List.getElem?_range hx];rfl
 have f:=p6 h1 h2
 rw[i5 f.fst (by rw[List.length_range];exact hx) (u x hx),i5 f.fst (by rw[List.length_range];exact hy) (u y hy)]
 exact Iff.rfl
end Dp
end
section
namespace Dp
open PySem L2 Fo Dp
end Dp
end
section
namespace Dp
open PySem L2 Fo Dp Lo Pt
theorem zg {ps:List PV}:iq [.tup ps]=(dG ps).bind fun is=>if is.length<64 then some (.nw ((oH is).map PV.int)) else none:=Eq.trans rfl rfl
noncomputable def aV (ls:List (List Nat)):List PV:=ls.map fun l=>.tup (af l)
theorem mG (ls:List (List Nat)):(aV ls).length=ls.length:=List.length_map ..
theorem mn (l:List Nat):(l.map Int.ofNat).map PV.int=af l:=by unfold af;rw[List.map_map];rfl
theorem kB (l:List Nat):dG (af l)=some (l.map Int.ofNat):=by rw[←mn,jG]
theorem vZ {l m:List Nat}(h:oH (l.map Int.ofNat)=m.map Int.ofNat)(h64:l.length<64):iq [.tup (af l)]=some (.nw (af m)):=by
 rw[zg,kB]
 show (if (l.map Int.ofNat).length<64 then _ else _)=_
 rw[List.length_map,if_pos h64,h,mn]
theorem nz:∀{ls:List (List Nat)},(∀l∈ls,l≠[])->jN (aV ls)=some (ls.map fun l=>l.map Int.ofNat)
 |[],_=>rfl
 |l::ls,h=>by
  show (dG (af l)).bind _=_
  rw[kB]
  show (if (l.map Int.ofNat).isEmpty=true then none else (jN (aV ls)).map _)=_
  rw[nz fun m hm=>h m (List.mem_cons_of_mem _ hm),if_neg]
  ·rfl
  ·cases l with
   |nil=>exact absurd rfl (h [] List.mem_cons_self)
   |cons=>exact Bool.false_ne_true
theorem Fd {n:Nat}{c:Nat->Nat}{x:Nat}(hx:x<n):cl n c x≠[]:=fun e=>by
 have:x∈cl n c x:=mem_cl.mpr ⟨hx,rfl⟩
 rw[e] at this;cases this
theorem uh {n:Nat}{c:Nat->Nat}{ls:List (List Nat)}(P:Part n c ls)(h40:n≤40):iu [.lst (aV ls)]=some (.nw (aV (b7 n c))):=by
 have hl:=P.len
 rw[lv,nz fun l h=>by obtain⟨x,hx,rfl⟩:=P.cls l h;exact Fd hx]
 show (if (aV ls).length<64 then _ else _)=_
 rw[mG,if_pos (by omega)]
 have e:∀i∈lW (ls.map fun l=>l.map Int.ofNat),(aV ls).getD i .non=PV.tup (((ls.map fun l=>l.map Int.ofNat).getD i []).map PV.int):=fun i hi=>by
  have:=List.mem_range.mp ((mR _).subset hi)
  rw[List.length_map] at this
  unfold aV
  rw[List.getD_eq_getElem?_getD,List.getD_eq_getElem?_getD,List.getElem?_map,List.getElem?_map,List.getElem?_eq_getElem this]
  show PV.tup (af _)=PV.tup ((List.map Int.ofNat _).map PV.int)
  rw[mn]
 rw[List.map_congr_left e,show (fun i=>PV.tup (((ls.map fun l=>l.map Int.ofNat).getD i []).map PV.int))=(fun k:List Int=>PV.tup (k.map PV.int)) ∘ (fun i=>(ls.map fun l=>l.map Int.ofNat).getD i []) from rfl,←List.map_map,P.sorted rfl,List.map_map]
 unfold aV
 refine congrArg (fun z=>some (RV.nw z)) (List.map_congr_left fun l _=>?_)
 show PV.tup ((l.map Int.ofNat).map PV.int)=_
 rw[mn]
noncomputable def wH (ps:List (Nat×Nat)):List PV:=ps.map fun p=>.tup [.int p.1,.int p.2]
theorem lO {n:Nat}{c:Nat->Nat}{ls:List (List Nat)}(P:Part n c ls){x:Nat}(hx:x<n):lj (gN 0) cN aC [none,some (.val (.int x))] (aV ls)=some [.tup (af (cl n c x))]:=by
 have e:=mU (t:=gN 0) (c:=cN) (f:=aC) (ρ:=[none,some (.val (.int x))]) (fun p=>match p with|.tup q=>pin (.int x) q|_=>false) id (its:=aV ls) (fun p hp=>by
  obtain⟨l,hl,rfl⟩:=List.mem_map.mp hp
  refine⟨_,rfl,?_,fun _=>?_⟩
  ·simp![cN,bc,cG]
  ·simp![aC,id])
 rw[e]
 unfold aV
 have q:((fun p=>match p with|.tup q=>pin (.int x) q|_=>false) ∘ fun l=>PV.tup (af l))=fun l=>decide (x∈l):=funext fun l=>mm x l
 rw[List.filter_map,List.map_id,q,P.pick hx]
 rfl
theorem En (x a b:PV):pin x [a,b]=(iJ a x || iJ b x):=by unfold pin;rw[List.any_cons,List.any_cons,List.any_nil,Bool.or_false]
theorem Bl {l1 l2:List Nat}{ls:List (List Nat)}:lj (gN 0) eI aC [none,some (.val (.tup (af l1))),some (.val (.tup (af l2)))] (aV ls)=some (aV (ls.filter fun l=>!(decide (l=l1) || decide (l=l2)))):=by
 have e:=mU (t:=gN 0) (c:=eI) (f:=aC) (ρ:=[none,some (.val (.tup (af l1))),some (.val (.tup (af l2)))]) (fun p=>!(iJ (.tup (af l1)) p || iJ (.tup (af l2)) p)) id (its:=aV ls) (fun p hp=>by
  obtain⟨l,hl,rfl⟩:=List.mem_map.mp hp
  refine⟨_,rfl,?_,fun _=>?_⟩
  ·simp![eI,bc,cG,En,iX]
  ·simp![aC,id])
 rw[e]
 unfold aV
 have q:((fun p=>!(iJ (.tup (af l1)) p || iJ (.tup (af l2)) p)) ∘ fun l=>PV.tup (af l))=fun l=>!(decide (l=l1) || decide (l=l2)):=funext fun l=>by
  show (!(iJ (.tup (af l1)) (.tup (af l)) || iJ (.tup (af l2)) (.tup (af l))))=_
  rw[iX,iX,iy,iy,show decide (l1=l)=decide (l=l1) from decide_eq_decide.mpr eq_comm,show decide (l2=l)=decide (l=l2) from decide_eq_decide.mpr eq_comm]
 rw[List.filter_map,List.map_id,q]
noncomputable def Nk (acc l:List Nat):List Nat:=l.foldl (fun a t=>a.set t (up a t+1)) acc
noncomputable def sz (us:List Nat):List Nat:=(List.range us.length).foldl (fun acc x=>Nk acc (way us x)) (List.replicate us.length 0)
theorem lP (ls:List (List Nat)):aq (aV ls)=true:=nc ls
theorem wL (ls:List (List Nat)):cR (aV ls)≤1:=q6 ls
theorem zE (n:Nat)(c:Nat->Nat):(b7 n c).length≤n:=by
 unfold b7
 rw[List.length_map]
 have:=List.length_filter_le (qt c) (List.range n)
 rwa [List.length_range] at this
end Dp
end
section
namespace Dp
open PySem PySem.Spec L2 Fo Pt
noncomputable def tl (row:List (Nat×Nat)):List Tl:=row.map fun p=>(p.1,p.2,(0:Int))
theorem Gy (row:List (Nat×Nat)):mr (tl row)=row:=by
 unfold mr tl
 rw[List.map_map]
 exact (List.map_congr_left fun p _=>rfl).trans (List.map_id _)
theorem xB (row:List (Nat×Nat))(k:Nat):(tl row).take k=tl (row.take k):=by unfold tl;rw[List.map_take]
theorem Hh (row:List (Nat×Nat)):(tl row).length=row.length:=List.length_map ..
theorem u3 {row:List (Nat×Nat)}{j:Nat}{p:Nat×Nat}(h:row[j]?=some p):(tl row)[j]?=some (p.1,p.2,0):=by unfold tl;rw[List.getElem?_map,h];rfl
theorem Ga (row:List (Nat×Nat))(k:Nat):cT ((tl row).take k)=fj (row.take k) id:=by rw[xB];unfold cT;rw[Gy]
theorem tl_rl {row:List (Nat×Nat)}{j:Nat}:Rl (tl row) j↔∃p,row[j]?=some p/\fj (row.take j) id p.1≠fj (row.take j) id p.2:=by
 unfold Rl
 rw[Ga]
 constructor
 ·rintro⟨t,e,h⟩
  unfold tl at e
  rw[List.getElem?_map] at e
  obtain⟨p,e0,rfl⟩:=Option.map_eq_some_iff.mp e
  exact⟨p,e0,h⟩
 ·rintro⟨p,e,h⟩
  exact⟨_,u3 e,h⟩
theorem E0 {n k:Nat}{us ms:List Nat}{ts:List (Option Nat)}{c:Nat->Nat}(S:Sto n us ms)(ht:ts.length=n){p:Nat×Nat}(h:p.1<n/\p.2<n)(T:Tin k us ts)(K:JX n us c)(j:Nat):(∃x,lH (tJ k us (tU us ms p) (List.range us.length) ts) x=some j)↔(∃x,lH ts x=some j)\/(j=k/\c p.1≠c p.2):=by
 rw[Df]
 have kp:=K p.1 p.2 h.1 h.2
 by_cases e:hd us p.1=hd us p.2
 ·rw[if_pos e,oV]
  exact⟨.inl,fun z=>z.elim id fun z=>absurd (kp.mp e) z.2⟩
 ·rw[if_neg e]
  have ne:c p.1≠c p.2:=fun z=>e (kp.mpr z)
  obtain⟨f,lu,lm⟩:=S
  have hx:p.1<us.length:=by omega
  have hz:p.2<us.length:=by omega
  have main:∀u v,u<us.length->up us u=u->v≠u->((∃x,lH (tJ k us (us.set u v) (List.range us.length) ts) x=some j)↔(∃x,lH ts x=some j)\/(j=k/\c p.1≠c p.2)):=fun u v hu eu nv=>by
   have at':∀x,lH (tJ k us (us.set u v) (List.range us.length) ts) x=if x=u then some k else lH ts x:=fun x=>by
    rw[wu _ _ _ fun q hq=>by have:=List.mem_range.mp hq;omega,eL hu]
    by_cases q:x=u
    ·rw[if_pos q,if_pos q,if_pos ⟨by rw[q];exact List.mem_range.mpr hu,by rw[q,eu];exact nv⟩]
    ·rw[if_neg q,if_neg q,if_neg fun z=>z.2 rfl]
   have tu:=(T.hd u hu).mp eu
   constructor
   ·rintro⟨x,q⟩
    rw[at'] at q
    by_cases w:x=u
    ·rw[if_pos w] at q;cases q;exact .inr ⟨rfl,ne⟩
    ·rw[if_neg w] at q;exact .inl ⟨x,q⟩
   ·rintro (⟨x,q⟩|⟨rfl,_⟩)
    ·refine⟨x,?_⟩
     rw[at',if_neg fun w=>by rw[w,tu] at q;cases q]
     exact q
    ·exact⟨u,by rw[at',if_pos rfl]⟩
  have a1:=kW f.fst hx
  have a2:=kW f.fst hz
  have b1:=pM f.fst hx
  have b2:=pM f.fst hz
  unfold zv tp un
  cases stay "size" ms (hd us p.1) (hd us p.2) with
  |true=>exact main _ _ a2 b2 e
  |false=>exact main _ _ a1 b1 fun z=>e z.symm
theorem BW {n:Nat}(j:Nat):∀(row:List (Nat×Nat)) (k:Nat) (us ms:List Nat) (ts:List (Option Nat)) (c:Nat->Nat),Sto n us ms->ts.length=n->(∀p∈row,p.1<n/\p.2<n)->Tin k us ts->JX n us c →
  ((∃x,lH (rT row k us ms ts).2.2 x=some j)↔(∃x,lH ts x=some j)\/∃i p,row[i]?=some p/\j=k+i/\fj (row.take i) c p.1≠fj (row.take i) c p.2)
 |[],k,us,ms,ts,c,_,_,_,_,_=>⟨.inl,fun z=>z.elim id fun ⟨i,p,e,_⟩=>by simp at e⟩
 |p::r,k,us,ms,ts,c,S,ht,hr,T,K=>by
  have hp:=hr p List.mem_cons_self
  have ih:=BW j r (k+1) _ _ (tJ k us (tU us ms p) (List.range us.length) ts) (jn c p.1 p.2) (FL S hp) (by rw[sE];exact ht) (fun q hq=>hr q (List.mem_cons_of_mem _ hq)) (AY S ht hp T) (C2 S hp K)
  refine ih.trans ?_
  rw[E0 S ht hp T K]
  constructor
  ·rintro ((h|⟨rfl,h⟩)|⟨i,q,e,rfl,h⟩)
   ·exact .inl h
   ·exact .inr ⟨0,p,rfl,rfl,h⟩
   ·exact .inr ⟨i+1,q,e,by omega,h⟩
  ·rintro (h|⟨i,q,e,rfl,h⟩)
   ·exact .inl (.inl h)
   ·cases i with
    |zero=>cases e;exact .inl (.inr ⟨rfl,h⟩)
    |succ i=>exact .inr ⟨i,q,e,by omega,h⟩
theorem vM {n:Nat}(h1:1≤n)(h2:n≤40){row:List (Nat×Nat)}(hr:∀p∈row,p.1<n/\p.2<n)(j:Nat):(∃x,lH (rW n row) x=some j)↔Rl (tl row) j:=by
 refine (BW j row 0 _ _ _ id (JY h1 h2) List.length_replicate hr (MO n) (LR h1 h2)).trans ?_
 rw[tl_rl]
 constructor
 ·rintro (⟨x,q⟩|⟨i,p,e,rfl,h⟩)
  ·unfold lH at q
   rw[List.getElem?_replicate] at q
   split at q<;>cases q
  ·rw[Nat.zero_add];exact⟨p,e,h⟩
 ·rintro⟨p,e,h⟩
  exact .inr ⟨j,p,e,by omega,h⟩
theorem H4 (j:Nat)(ts:List (Option Nat)):pin (.int (j:Nat)) (rO ts)=true↔∃x,lH ts x=some j:=by
 unfold pin rO
 rw[List.any_map,List.any_eq_true]
 constructor
 ·rintro⟨o,ho,e⟩
  cases o with
  |none=>cases e
  |some i=>
   have e:decide ((i:Int)=(j:Int))=true:=e
   have:i=j:=by have:=of_decide_eq_true e;omega
   subst this
   obtain⟨x,hx,ex⟩:=List.getElem_of_mem ho
   exact⟨x,by unfold lH;rw[List.getElem?_eq_getElem hx,ex];rfl⟩
 ·rintro⟨x,e⟩
  unfold lH at e
  cases q:ts[x]? with
  |none=>rw[q] at e;cases e
  |some o=>
   rw[q] at e
   refine⟨o,List.mem_of_getElem? q,?_⟩
   rw[show o=some j from e]
   exact decide_eq_true rfl
theorem qQ:∀ts:List (Option Nat),aq (rO ts)=true/\cR (rO ts)=0
 |[]=>by unfold rO;exact⟨by rw[List.map_nil,aq],by rw[List.map_nil,cR]⟩
 |o::ts=>by
  obtain⟨h1,h2⟩:=qQ ts
  unfold rO at h1 h2 ⊢
  rw[List.map_cons,aq,cR,h1,h2]
  cases o<;>exact⟨rfl,rfl⟩
noncomputable abbrev vK (row:List (Nat×Nat)):List Nat:=bT (tl row) row.length
theorem DL {row:List (Nat×Nat)}{j:Nat}{p:Nat×Nat}(h:row[j]?=some p):L2.eH (jY row) (j:Int)=some (.tup [.int (p.1:Nat),.int (p.2:Nat)]):=gF (by unfold jY;rw[List.getElem?_map,h];rfl)
structure Road (row:List (Nat×Nat))(x y:Nat)(ns:List Nat):Prop where
 ex:∃vs,Rq (tl row) ns vs/\vs.Nodup/\vs.head?=some x/\vs.getLast?=some y
 rl:∀j∈ns,j<row.length/\Rl (tl row) j
theorem Road.when {row:List (Nat×Nat)}{x y k:Nat}{ns:List Nat}(a:Road row x y ns):fj (row.take k) id x=fj (row.take k) id y↔∀j∈ns,j<k:=by
 obtain⟨vs,h1,h2,h3,h4⟩:=a.ex
 rw[←Ga]
 exact h1.when h2 h3 h4 fun j hj=>(a.rl j hj).2
end Dp
end
section
namespace Dp
open PySem PySem.Spec L2 Fo Pt
theorem pb {n:Nat}(h40:n≤40){s0 s1:Option Sl}:∀(ps:List (Nat×Nat)) (c:Nat->Nat) (ls:List (List Nat)) (z3 z4 z5 z6:Option Sl),Part n c ls->(∀p∈ps,p.1<n/\p.2<n) →
  ∃ls' z3' z4' z5' z6',Part n (fj ps c) ls'/\aZ (jm 2 (gC (gN 3) (gC (gN 4) g0))) eA (wH ps) [s0,s1,some (.val (.lst (aV ls))),z3,z4,z5,z6]=.nx [s0,s1,some (.val (.lst (aV ls'))),z3',z4',z5',z6']
 |[],c,ls,z3,z4,z5,z6,P,_=>⟨ls,z3,z4,z5,z6,P,rfl⟩
 |(x,y)::ps,c,ls,z3,z4,z5,z6,P,hp=>by
  have hx:x<n:=(hp (x,y) List.mem_cons_self).1
  have hy:y<n:=(hp (x,y) List.mem_cons_self).2
  have hl:=P.len
  have h1:(aV ls).length<1000:=by rw[mG];omega
  have a0:∀v:PV,L2.eH [v] 0=some v:=fun v=>rfl
  by_cases h:c x=c y
  ·obtain⟨ls',z3',z4',z5',z6',P',e⟩:=pb h40 (s0:=s0) (s1:=s1) ps (jn c x y) ls (some (.val (.int x))) (some (.val (.int y))) (some (.val (.tup (af (cl n c x))))) (some (.val (.tup (af (cl n c y))))) (by rw[ma h];exact P) fun p q=>hp p (List.mem_cons_of_mem _ q)
   refine⟨ls',z3',z4',z5',z6',P',?_⟩
   rw[show wH ((x,y)::ps)=.tup [.int x,.int y]::wH ps from rfl,eV,←e]
   have d:decide (cl n c x=cl n c y)=true:=decide_eq_true ((jU hx).mpr h)
   simp![eA,h1,lO P hx,lO P hy,a0,bc,cG,iX,iy,d]
  ·obtain⟨ls',z3',z4',z5',z6',P',e⟩:=pb h40 (s0:=s0) (s1:=s1) ps (jn c x y) _ (some (.val (.int x))) (some (.val (.int y))) (some (.val (.tup (af (cl n c x))))) (some (.val (.tup (af (cl n c y))))) (P.join hx hy h) fun p q=>hp p (List.mem_cons_of_mem _ q)
   refine⟨ls',z3',z4',z5',z6',P',?_⟩
   rw[show wH ((x,y)::ps)=.tup [.int x,.int y]::wH ps from rfl,eV,←e]
   have d:decide (cl n c x=cl n c y)=false:=decide_eq_false fun q=>h ((jU hx).mp q)
   have l1:=wB n c x
   have l2:=wB n c y
   have hs:iq [.tup (af (cl n c x)++af (cl n c y))]=some (.nw (af (cl n (jn c x y) x))):=(congrArg (fun q=>iq [.tup q]) (List.map_append (f:=nI)).symm).trans (vZ (Gf h) (by
    have:=congrArg List.length (Gf (n:=n) h)
    rw[(mT _).length_eq,List.length_map,List.length_map] at this
    have:=wB n (jn c x y) x
    omega))
   have ne:(af (cl n c x)).isEmpty=false:=by
    cases q:cl n c x with
    |nil=>exact absurd q (Fd hx)
    |cons=>rfl
   have h2:(cl n c x).length+(cl n c y).length≤100000:=by omega
   have h3:(aV (ls.filter fun l=>!(decide (l=cl n c x) || decide (l=cl n c y)))).length+1≤100000:=by
    rw[mG]
    have:=List.length_filter_le (fun l=>!(decide (l=cl n c x) || decide (l=cl n c y))) ls
    omega
   have h4:aV (ls.filter fun l=>!(decide (l=cl n c x) || decide (l=cl n c y)))++[.tup (af (cl n (jn c x y) x))]=aV (ls.filter (fun l=>!(decide (l=cl n c x) || decide (l=cl n c y)))++[cl n (jn c x y) x]):=by unfold aV;rw[List.map_append];rfl
   simp![eA,h1,lO P hx,lO P hy,a0,bc,cG,iX,iy,d,Bl,ne,h2,h3,hs,h4,and_self]
theorem rA {n:Nat}(h40:n≤40){ps:List (Nat×Nat)}(hp:∀p∈ps,p.1<n/\p.2<n):bp [.int n,.lst (wH ps)]=some (.n (aV (b7 n (fj ps id)))):=by
 obtain⟨ls',z3',z4',z5',z6',P',e⟩:=pb h40 (s0:=some (.val (.int n))) (s1:=some (.val (.lst (wH ps)))) ps id _ none none none none (ym n) hp
 have e0:lj (gN 0) gj gA [none] (af (List.range n))=some (aV ((List.range n).map fun x=>[x])):=by
  rw[kM (fun u=>PV.tup [.int u]) fun u hu=>by simp![gA]]
  unfold aV;rw[List.map_map];rfl
 have h1:(List.range n).length<1000:=by rw[List.length_range];omega
 have hn:n<1000:=by omega
 simp![mN,gM,K1 (show n≤100000 by omega),h1,hn,List.length_range,e0,e,uh P' h40]
end Dp
end
section
namespace Dp
open PySem PySem.Spec L2 Fo Pt
theorem Iu {y:Nat}{K:qc}{q:List PV}(h:(K.find? fun t=>decide (t.1=y))=some (y,q)):uA (.dct (rK K) (rP K)) [.int (y:Nat),.non]=some (.fz (.tup q)):=by
 show ((i8 (.int (y:Nat))).bind fun k=>match nu (rK K) (rP K) k with|some p=>some (RV.fz p)|none=>if G6 .non=true then none else some (.fz .non))=_
 rw[bh,Option.bind_some,yR,h]
 rfl
end Dp
end
section
namespace Dp
open PySem PySem.Spec L2 Fo Pt
noncomputable def tg (row:List (Nat×Nat))(x y m:Nat):Bool:=decide (fj (row.take m) id x=fj (row.take m) id y)
theorem va {n:Nat}{c:Nat->Nat}{x y:Nat}(hx:x<n):(b7 n c).any (fun l=>decide (x∈l)&&decide (y∈l))=(decide (c x=c y)&&decide (y<n)):=by
 rw[Bool.eq_iff_iff,List.any_eq_true,Bool.and_eq_true,decide_eq_true_iff,decide_eq_true_iff]
 constructor
 ·rintro⟨l,hl,h⟩
  rw[Bool.and_eq_true,decide_eq_true_iff,decide_eq_true_iff] at h
  obtain⟨z,hz,rfl⟩:=mem_lots.mp hl
  exact⟨(mem_cl.mp h.1).2.trans (mem_cl.mp h.2).2.symm,(mem_cl.mp h.2).1⟩
 ·rintro⟨h,hy⟩
  refine⟨cl n c x,mem_lots.mpr ⟨x,hx,rfl⟩,?_⟩
  rw[Bool.and_eq_true,decide_eq_true_iff,decide_eq_true_iff]
  exact⟨mem_cl.mpr ⟨hx,rfl⟩,mem_cl.mpr ⟨hy,h.symm⟩⟩
end Dp
end
section
namespace Dp
open PySem PySem.Spec L2 Fo Pt
section
variable (ties:List Tl)
noncomputable def wt (k:Nat):Int:=(ties[k]?.map fun t=>t.2.2).getD 0
noncomputable def lG (k:Nat):Nat×Nat:=(ties[k]?.map fun t=>(t.1,t.2.1)).getD (0,0)
noncomputable def od:List Nat:=zB (wt ties) ties.length
noncomputable def sR:List (Nat×Nat):=(od ties).map (lG ties)
end
variable {ties:List Tl}
theorem p7 {k:Nat}{t:Tl}(h:ties[k]?=some t):wt ties k=t.2.2:=by unfold wt;rw[h];rfl
theorem ko {k:Nat}{t:Tl}(h:ties[k]?=some t):lG ties k=(t.1,t.2.1):=by unfold lG;rw[h];rfl
theorem od_perm:(od ties).Perm (List.range ties.length):=mJ _ _
theorem ke:(od ties).length=ties.length:=At _ _
theorem od_nodup:(od ties).Nodup:=od_perm.nodup_iff.mpr List.nodup_range
theorem od_mem {k:Nat}:k∈od ties↔k<ties.length:=by rw[od_perm.mem_iff,List.mem_range]
theorem gT:(sR ties).length=ties.length:=by unfold sR;rw[List.length_map,ke]
noncomputable def I3 (ties:List Tl)(i j:Nat):Prop:=wt ties i<wt ties j\/wt ties i=wt ties j/\i<j
theorem od_up:(od ties).Pairwise (I3 ties):=by
 have nd:((List.range ties.length).map fun k=>[wt ties k,(k:Int)]).Nodup:=List.nodup_range.map _ fun a b h e=>h (by
  have:=(List.cons.inj (List.cons.inj e).2).1
  omega)
 have u:=(wT nd).2
 rw[List.pairwise_map] at u
 refine List.Pairwise.imp_of_mem (fun {i j} hi hj h=>?_) u
 have hi':=od_mem.mp (show i∈od ties from hi)
 have hj':=od_mem.mp (show j∈od ties from hj)
 have ge:∀q,q<ties.length->((List.range ties.length).map fun k=>[wt ties k,(k:Int)]).getD q []=[wt ties q,(q:Int)]:=fun q hq=>by
  rw[List.getD_eq_getElem?_getD,List.getElem?_map,List.getElem?_range hq];rfl
 rw[ge i hi',ge j hj',jA] at h
 unfold I3
 split at h
 ·next e=>
  rw[jA] at h
  split at h
  ·rw[oq] at h;cases h
  ·exact .inr ⟨e,by have:=of_decide_eq_true h;omega⟩
 ·exact .inl (of_decide_eq_true h)
theorem kq {P:Nat}(h:P<ties.length):∃k t,(od ties)[P]?=some k/\k<ties.length/\ties[k]?=some t/\(sR ties)[P]?=some (t.1,t.2.1):=by
 have hP:P<(od ties).length:=by rw[ke];exact h
 have hk:(od ties)[P]<ties.length:=od_mem.mp (List.getElem_mem hP)
 refine⟨(od ties)[P],ties[(od ties)[P]],List.getElem?_eq_getElem hP,hk,List.getElem?_eq_getElem hk,?_⟩
 unfold sR
 rw[List.getElem?_map,List.getElem?_eq_getElem hP]
 show some (lG ties _)=_
 rw[ko (List.getElem?_eq_getElem hk)]
noncomputable def ps (ties:List Tl)(k:Nat):Nat:=(od ties).idxOf k
theorem y7 {k:Nat}(h:k<ties.length):ps ties k<ties.length:=by
 have:=List.idxOf_lt_length_of_mem (od_mem.mpr h)
 rw[ke] at this
 exact this
theorem oP {k:Nat}(h:k<ties.length):(od ties)[ps ties k]?=some k:=by
 have hl:=List.idxOf_lt_length_of_mem (od_mem.mpr h)
 have:=List.getElem_idxOf hl
 unfold ps
 rw[List.getElem?_eq_getElem hl,this]
theorem vv {P k:Nat}(h:(od ties)[P]?=some k):ps ties k=P:=by
 obtain⟨hP,e⟩:=List.getElem?_eq_some_iff.mp h
 have hk:k<ties.length:=od_mem.mp (List.mem_of_getElem? h)
 obtain⟨hl,e2⟩:=List.getElem?_eq_some_iff.mp (oP hk)
 have pw:=List.pairwise_iff_getElem.mp (List.nodup_iff_pairwise_ne.mp (od_nodup (ties:=ties)))
 rcases Nat.lt_trichotomy (ps ties k) P with w|w|w
 ·exact absurd (e2.trans e.symm) (pw _ _ hl hP w)
 ·exact w
 ·exact absurd (e.trans e2.symm) (pw _ _ hP hl w)
theorem Ht {i j:Nat}(hi:i<ties.length)(hj:j<ties.length)(h:ps ties i<ps ties j):I3 ties i j:=by
 obtain⟨h1,e1⟩:=List.getElem?_eq_some_iff.mp (oP hi)
 obtain⟨h2,e2⟩:=List.getElem?_eq_some_iff.mp (oP hj)
 have:=(List.pairwise_iff_getElem.mp od_up) _ _ h1 h2 h
 rwa [e1,e2] at this
noncomputable def jk (ties:List Tl):List Nat:=(List.range ties.length).filter fun k=>decide (ps ties k∈vK (sR ties))
noncomputable def zh (ties:List Tl):List Nat:=(vK (sR ties)).map fun P=>(od ties).getD P 0
theorem ui {P:Nat}(h:P∈vK (sR ties)):P<ties.length:=by
 have:=(jH (tl (sR ties)) (sR ties).length).1 P h
 rwa [gT] at this
theorem oN (row:List Tl):∀k,(bT row k).Nodup
 |0=>by rw[bT];simp
 |k+1=>by
  have ih:=oN row k
  cases et:row[k]? with
  |none=>rw[bT,et];exact ih
  |some t=>
   by_cases q:cT (row.take k) t.1=cT (row.take k) t.2.1
   ·rw[iw et q];exact ih
   ·rw[jw et q,List.nodup_append]
    refine⟨ih,by simp,fun a ha b hb e=>?_⟩
    have:=(jH row k).1 a ha
    have:b=k:=by simpa using hb
    omega
theorem mem_chs {k:Nat}:k∈jk ties↔k<ties.length/\ps ties k∈vK (sR ties):=by
 unfold jk;rw[List.mem_filter,List.mem_range,decide_eq_true_iff]
theorem mem_chU {k:Nat}:k∈zh ties↔k∈jk ties:=by
 rw[mem_chs]
 unfold zh
 rw[List.mem_map]
 constructor
 ·rintro⟨P,hP,rfl⟩
  obtain⟨k,t,e1,hk,_,_⟩:=kq (ui hP)
  have:(od ties).getD P 0=k:=by rw[List.getD_eq_getElem?_getD,e1];rfl
  rw[this,vv e1]
  exact⟨hk,hP⟩
 ·rintro⟨hk,hP⟩
  exact⟨_,hP,by rw[List.getD_eq_getElem?_getD,oP hk];rfl⟩
theorem zN:(zh ties).Nodup:=by
 unfold zh
 have inj:∀P∈vK (sR ties),∀Q∈vK (sR ties),(od ties).getD P 0=(od ties).getD Q 0->P=Q:=fun P hP Q hQ e=>by
  obtain⟨k,_,e1,_,_,_⟩:=kq (ui hP)
  obtain⟨k',_,e2,_,_,_⟩:=kq (ui hQ)
  have h1:(od ties).getD P 0=k:=by rw[List.getD_eq_getElem?_getD,e1];rfl
  have h2:(od ties).getD Q 0=k':=by rw[List.getD_eq_getElem?_getD,e2];rfl
  rw[h1,h2] at e
  subst e
  rw[←vv e1,←vv e2]
 have nd:=oN (tl (sR ties)) (sR ties).length
 exact (List.pairwise_map.mpr ((List.nodup_iff_pairwise_ne.mp nd).imp_of_mem fun {a b} ha hb h e=>h (inj a ha b hb e)))
theorem Bq:(jk ties).Perm (zh ties):=(List.perm_ext_iff_of_nodup (List.nodup_range.filter _) zN).mpr fun k=>mem_chU.symm
theorem xJ:(jk ties).length≤ties.length:=by
 have:=List.length_filter_le (fun k=>decide (ps ties k∈vK (sR ties))) (List.range ties.length)
 rwa [List.length_range] at this
theorem wW:oH ((zh ties).map Int.ofNat)=(jk ties).map Int.ofNat:=(sW (List.Perm.map _ Bq) (by
 rw[List.pairwise_map]
 exact (List.pairwise_lt_range.filter _).imp fun h=>by show Int.ofNat _≤Int.ofNat _;exact Int.ofNat_le.mpr (Nat.le_of_lt h))).symm
theorem Ed.pos {k a e:Nat}(h:Ed ties k a e):Ed (tl (sR ties)) (ps ties k) a e:=by
 obtain⟨t,et,hs⟩:=h
 have hk:=(List.getElem?_eq_some_iff.mp et).1
 obtain⟨k',t',e1,_,e2,e3⟩:=kq (y7 hk)
 rw[oP hk] at e1
 cases e1
 rw[et] at e2
 cases e2
 exact⟨_,u3 e3,hs⟩
theorem Rq.mapj {row row':List Tl}{f:Nat->Nat}:∀{ns vs:List Nat},(∀j∈ns,∀a e,Ed row j a e->Ed row' (f j) a e)->Rq row ns vs->Rq row' (ns.map f) vs
 |[],[v],_,_=>trivial
 |[],[],_,h=>h.elim
 |[],_::_::_,_,h=>h.elim
 |_::_,[],_,h=>h.elim
 |_::_,[_],_,h=>h.elim
 |j::ns,a::e::vs,hf,⟨h,t⟩=>⟨hf j List.mem_cons_self _ _ h,Rq.mapj (fun i hi=>hf i (List.mem_cons_of_mem _ hi)) t⟩
theorem zc {k x y:Nat}{rs vs:List Nat}{t:Tl}(et:ties[k]?=some t)(hx:x=t.1)(hy:y=t.2.1)(hk:k∉jk ties)(hr:∀j∈rs,j∈jk ties)(h:Rq ties rs vs)(nd:vs.Nodup)(h1:vs.head?=some x)(h2:vs.getLast?=some y):∀j∈rs,I3 ties j k:=by
 have hkl:=(List.getElem?_eq_some_iff.mp et).1
 have R:Road (sR ties) x y (rs.map (ps ties)):=⟨⟨vs,Rq.mapj (fun j _ _ _ hE=>hE.pos) h,nd,h1,h2⟩,fun P hP=>by
  obtain⟨j,hj,rfl⟩:=List.mem_map.mp hP
  obtain⟨hjl,hjr⟩:=mem_chs.mp (hr j hj)
  exact mem_real.mp hjr⟩
 have hn:¬Rl (tl (sR ties)) (ps ties k):=fun z=>hk (mem_chs.mpr ⟨hkl,mem_real.mpr ⟨by rw[gT];exact y7 hkl,z⟩⟩)
 have e:fj ((sR ties).take (ps ties k)) id x=fj ((sR ties).take (ps ties k)) id y:=by
  obtain⟨k',t',e1,_,e2,e3⟩:=kq (y7 hkl)
  rw[oP hkl] at e1
  cases e1
  rw[et] at e2
  cases e2
  by_cases q:fj ((sR ties).take (ps ties k)) id x=fj ((sR ties).take (ps ties k)) id y
  ·exact q
  ·exact absurd (tl_rl.mpr ⟨_,e3,by rw[←hx,←hy];exact q⟩) hn
 intro j hj
 have:=R.when.mp e (ps ties j) (List.mem_map_of_mem hj)
 exact Ht (mem_chs.mp (hr j hj)).1 hkl this
end Dp
end
section
namespace Dp
open PySem PySem.Spec L2 Fo Pt
structure Ties (n:Nat)(ties:List Tl):Prop where
 h1:1≤n
 h2:n≤40
 lt:∀t∈ties,t.1<n/\t.2.1<n
 nn:∀t∈ties,0≤t.2.2
 len:ties.length≤60
variable {n:Nat}{ties:List Tl}
theorem Jt (T:Ties n ties):∀p∈sR ties,p.1<n/\p.2<n:=fun p hp=>by
 obtain⟨P,hP,rfl⟩:=List.getElem_of_mem hp
 rw[gT] at hP
 obtain⟨k,t,e1,hk,e2,e3⟩:=kq hP
 have:(sR ties)[P]'(by rw[gT];exact hP)=(t.1,t.2.1):=by
  have:=List.getElem?_eq_some_iff.mp e3
  exact this.2
 rw[this]
 exact T.lt t (List.mem_of_getElem? e2)
theorem yG (T:Ties n ties){s1:Option Sl}:∀(ts:List Tl) (k:Nat) (z3 z4:Option Sl),(∀t∈ts,t.1<n/\t.2.1<n/\0≤t.2.2) →
  ∃w3 w4,aZ (jm 2 (gC (gN 3) (gC (gN 4) g0))) gq (fO k (ts.map ij)) [some (.val (.int n)),s1,some (.val (.fn "is_tie")),z3,z4]=.nx [some (.val (.int n)),s1,some (.val (.fn "is_tie")),w3,w4]
 |[],k,z3,z4,_=>⟨z3,z4,rfl⟩
 |t::ts,k,z3,z4,h=>by
  obtain⟨hx,hy,hw⟩:=h t List.mem_cons_self
  obtain⟨w3,w4,e⟩:=yG T (s1:=s1) ts (k+1) (some (.val (.int (k:Nat)))) (some (.val (ij t))) fun u hu=>h u (List.mem_cons_of_mem _ hu)
  refine⟨w3,w4,?_⟩
  show aZ _ _ (.tup [.int (k:Nat),ij t]::fO (k+1) (ts.map ij)) _=_
  rw[eV]
  have a2:∀a b c:PV,L2.eH [a,b,c] 2=some c:=fun a b c=>rfl
  have it:=ve (t:=t) hx hy
  have e1:jr [.int (n:Nat),ij t]=some (.v (.bl true)):=by
   simp only[ij] at it ⊢
   simp![wF,lC,it,a2,decide_eq_true hw]
  simp![gq,Ai,EU,Ka,e1]
  exact e
theorem H6 (T:Ties n ties):gm [.int (n:Nat),dc ties]=some (.v .non):=by
 obtain⟨w3,w4,e⟩:=yG T (s1:=some (.val (dc ties))) ties 0 none none fun t ht=>⟨(T.lt t ht).1,(T.lt t ht).2,T.nn t ht⟩
 have e':dn [.int n,dc ties,.fn "is_tie"]=some (.v .non):=by
  unfold dc at e ⊢
  simp![mE,gZ,sK,mz,e]
 simp![qj,jl,kj,gv,xF T.h1 T.h2,e']
theorem jL {k:Nat}{t:Tl}(h:ties[k]?=some t):L2.eH (ties.map ij) (k:Int)=some (ij t):=gF (by rw[List.getElem?_map,h];rfl)
theorem CD {P:Nat}{k:Nat}(h:(od ties)[P]?=some k):k<ties.length:=od_mem.mp (List.mem_of_getElem? h)
theorem pG (g:Nat->Int)(k:Nat)(l:List Nat):sG g (k::l)=.tup [.int (g k),.int (k:Nat)]::sG g l:=rfl
theorem y4 {t:FT}{f:FE}{ρ:aj}{p q:PV}{pl ql:List PV}(h1:(t p ρ).bind (fun ρ2=>(f ρ2).bind RV.fr)=some q)(h2:lj t gj f ρ pl=some ql):lj t gj f ρ (p::pl)=some (q::ql):=by
 obtain⟨ρ2,e1,h1⟩:=Option.bind_eq_some_iff.mp h1
 obtain⟨r,e2,h1⟩:=Option.bind_eq_some_iff.mp h1
 rw[lj,e1,h2]
 show (f ρ2).bind _=_
 rw[e2]
 show r.fr.bind _=_
 rw[h1];rfl
theorem ub:∀(ts pre:List Tl),ties=pre++ts->lj (jm 2 (gC (gN 0) (gC (jm 3 (gC (gN 1) (gC (gN 2) (gC (gN 3) g0)))) g0))) gj iC [none,none,none,none] (fO pre.length (ts.map ij))=some (sG (wt ties) (List.range' pre.length ts.length))
 |[],pre,_=>rfl
 |t::ts,pre,e=>by
  have et:ties[pre.length]?=some t:=by rw[e,List.getElem?_append_right (Nat.le_refl _),Nat.sub_self];rfl
  have ih:=ub ts (pre++[t]) (by rw[e,List.append_assoc];rfl)
  have pl:(pre++[t]).length=pre.length+1:=by rw[List.length_append];rfl
  rw[pl] at ih
  rw[List.map_cons,fO,List.length_cons,List.range'_succ,pG,p7 et]
  exact y4 (by simp![ij,iC]) ih
theorem D8:lj (jm 2 (gC (gN 0) (gC (gN 1) g0))) gj gz [none,none,some (.val (dc ties))] (sG (wt ties) (od ties))=some (jY (sR ties)):=by
 have main:∀l:List Nat,(∀k∈l,k<ties.length)->lj (jm 2 (gC (gN 0) (gC (gN 1) g0))) gj gz [none,none,some (.val (dc ties))] (sG (wt ties) l)=some (jY (l.map (lG ties))):=fun l=>by
  induction l with
  |nil=>intro _;rfl
  |cons k l ih=>
   intro h
   have et:ties[k]?=some (ties[k]'(h k List.mem_cons_self)):=List.getElem?_eq_getElem _
   rw[pG,List.map_cons,ko et]
   have ta:=jL et
   refine y4 ?_ (ih fun q hq=>h q (List.mem_cons_of_mem _ hq))
   generalize ties[k]'(h k List.mem_cons_self)=t at ta
   simp![dc,gz,ta,ij,if_neg D0,DG]
 exact main (od ties) fun k hk=>od_mem.mp hk
theorem zt {l:List PV}:iq [.lst l]=(dG l).bind fun is=>if is.length<64 then some (.nw ((oH is).map PV.int)) else none:=Eq.trans rfl rfl
theorem yS {l m:List Nat}(h:oH (l.map Int.ofNat)=m.map Int.ofNat)(h64:l.length<64):iq [.lst (af l)]=some (.nw (af m)):=by
 rw[zt,kB]
 show (if (l.map Int.ofNat).length<64 then _ else _)=_
 rw[List.length_map,if_pos h64,h,mn]
theorem Es (T:Ties n ties):dB [.int (n:Nat),.lst (jY (sR ties))]=some (.n (af (vK (sR ties)))):=by
 have h1:=T.h1
 have h2:=T.h2
 have hr:=Jt T
 have hl:=T.len
 have hs:=gT (ties:=ties)
 have a1:∀a b:PV,L2.eH [a,b] 1=some b:=fun a b=>rfl
 obtain⟨p1,p2⟩:=qQ (rW n (sR ties))
 have e:=mU (t:=gN 0) (c:=eJ) (f:=eC) (ρ:=[none,some (.val (.tup (rO (rW n (sR ties)))))]) (fun p=>pin p (rO (rW n (sR ties)))) id (its:=af (List.range (sR ties).length)) (fun p hp=>by
  obtain⟨y,hy,rfl⟩:=uZ hp
  refine⟨_,rfl,?_,fun _=>?_⟩
  ·simp![eJ,p1,p2]
  ·simp![eC,id])
 have e2:(af (List.range (sR ties).length)).filter (fun p=>pin p (rO (rW n (sR ties))))=af (vK (sR ties)):=by
  show _=af (bT (tl (sR ties)) (sR ties).length)
  rw[nh (tl (sR ties)) (fun j=>pin (.int (j:Nat)) (rO (rW n (sR ties)))) (sR ties).length fun j _=>(H4 j _).trans (vM h1 h2 hr j)]
  unfold af
  rw[List.filter_map];rfl
 rw[List.map_id,e2] at e
 obtain⟨w4,w5,w6,w7,w8,w9,w10,ef⟩:=x0 h2 (s1:=some (.val (.lst (jY (sR ties))))) (sR ties) 0 _ _ (List.replicate n none) none none none none none none none (JY h1 h2) List.length_replicate hr
 have et:bN [.int n,.lst (jY (sR ties))]=some (.v (.tup [.tup (af (rU n (sR ties))),.tup (rO (rW n (sR ties)))])):=by
  unfold rU rW
  simp![kx,eP,K9 h1 h2 xa sD,Mx (show n≤1000 by omega),sK,mz,ef,st2]
 simp![mF,gO,eJ,eC,cq,aJ,cD,aK,iT,aH,aQ,bA,bD,aI,fG,cA,cw,fI,fE,fD,fH,cx,aN,cy,aL,fJ,cz,aO,aM,bE,bK,bh,bJ,aF,iV,cB,bB,bG,cv,aG,bH,dP,aU,fA,cs,cr,aP,cu,bC,bI,bF,et,a1,oi,hs,K1 (show ties.length≤100000 by omega),List.length_range,if_pos (show ties.length<1000 by omega)]
 rw[hs] at e
 simp![e,Option.map_some,sj]
theorem Bg (T:Ties n ties):gl [.int (n:Nat),dc ties]=some (.v (.tup (af (jk ties)))):=by
 have hl:=T.len
 have e1:=ub (ties:=ties) ties [] rfl
 rw[List.length_nil,←List.range_eq_range'] at e1
 have es:=pe (wt ties) ties.length (by omega)
 have e2:=D8 (ties:=ties)
 have e3:=Es T
 have lr:=(jH (tl (sR ties)) (sR ties).length).2
 rw[gT] at lr
 have lc:(zh ties).length=(vK (sR ties)).length:=List.length_map ..
 have e4:lj (gN 0) gj iP [none,some (.val (.lst (sG (wt ties) (od ties))))] (af (vK (sR ties)))=some (af (zh ties)):=by
  rw[kM (fun P=>.int (((od ties).getD P 0:Nat):Int)) fun P hP=>?_]
  ·unfold zh af;rw[List.map_map];rfl
  ·obtain⟨k,t,f1,_,_,_⟩:=kq (ui hP)
   have ia:L2.eH (sG (wt ties) (od ties)) (P:Int)=some (.tup [.int (wt ties k),.int (k:Nat)]):=gF (by unfold sG;rw[List.getElem?_map,f1];rfl)
   have gd:(od ties).getD P 0=k:=by rw[List.getD_eq_getElem?_getD,f1];rfl
   have a1:∀a b:PV,L2.eH [a,b] 1=some b:=fun a b=>rfl
   rw[gd]
   simp![iP,ia,a1]
 have e5:=yS (wW (ties:=ties)) (by rw[lc];show (bT (tl (sR ties)) (sR ties).length).length<64;rw[gT];omega)
 have lo:(sG (wt ties) (List.range ties.length)).length=ties.length:=by rw[sQ,List.length_range]
 have lo2:(sG (wt ties) (od ties)).length<1000:=by rw[sQ,ke];omega
 have lr2:(vK (sR ties)).length<1000:=by show (bT (tl (sR ties)) (sR ties).length).length<1000;rw[gT];omega
 have le:(fO 0 (ties.map ij)).length<1000:=by rw[kD,List.length_map];omega
 have od':zB (wt ties) ties.length=od ties:=rfl
 rw[od'] at es
 unfold dc at e2 ⊢
 simp![qv,ja,cq,aJ,cD,aK,iT,aH,aQ,bA,bD,aI,fG,cA,cw,fI,fE,fD,fH,cx,aN,cy,aL,fJ,cz,aO,aM,bE,bK,bh,bJ,aF,iV,cB,bB,bG,cv,aG,bH,dP,aU,fA,cs,cr,aP,cu,bC,bI,bF,sK,mz,if_pos le,e1,es,if_pos lo2,e2,e3,if_pos lr2,e4,e5]
end Dp
end
section
namespace Dp
open PySem PySem.Spec L2 Fo Pt
variable {n:Nat}{ties:List Tl}
theorem Dc (T:Ties n ties){s0:Option Sl}:∀(ks pre:List Nat) (z4 z5 z6 z7:Option Sl),od ties=pre++ks →
  ∃z4' z5' z6' z7',aZ (jm 2 (gC (gN 4) (gC (gN 5) g0))) bY (sG (wt ties) ks) [s0,some (.val (dc ties)),some (.val (.lst (af ((List.range n).map (cS (tl (pre.map (lG ties)))))))),some (.own (af ((bT (tl (sR ties)) pre.length).map fun P=>(od ties).getD P 0))),z4,z5,z6,z7] =
   .nx [s0,some (.val (dc ties)),some (.val (.lst (af ((List.range n).map (cS (tl ((od ties).map (lG ties)))))))),some (.own (af ((bT (tl (sR ties)) (od ties).length).map fun P=>(od ties).getD P 0))),z4',z5',z6',z7']
 |[],pre,z4,z5,z6,z7,e0=>⟨z4,z5,z6,z7,by rw[e0,List.append_nil];rfl⟩
 |k::ks,pre,z4,z5,z6,z7,e0=>by
  have hl:=T.len
  have e1:od ties=(pre++[k])++ks:=by rw[e0];simp
  have ek:(od ties)[pre.length]?=some k:=by rw[e0,List.getElem?_append_right (Nat.le_refl _),Nat.sub_self];rfl
  have hk:=CD ek
  have hP:pre.length<ties.length:=by have:=(List.getElem?_eq_some_iff.mp ek).1;rwa [ke] at this
  obtain⟨k',t,f1,_,et,es⟩:=kq hP
  rw[ek] at f1;cases f1
  obtain⟨hx,hy⟩:=T.lt t (List.mem_of_getElem? et)
  have ett:=u3 es
  have etk:(tl (sR ties)).take pre.length=tl (pre.map (lG ties)):=by
   rw[xB];unfold sR
   rw[←List.map_take,e0,List.take_left]
  have pl:(pre++[k]).length=pre.length+1:=by rw[List.length_append];rfl
  have ep:tl ((pre++[k]).map (lG ties))=tl (pre.map (lG ties))++[(t.1,t.2.1,0)]:=by
   unfold tl;rw[List.map_append,List.map_append,List.map_cons,List.map_nil,List.map_cons,List.map_nil,ko et]
  generalize hc:cS (tl (pre.map (lG ties)))=c
  obtain⟨z4',z5',z6',z7',e⟩:=Dc T (s0:=s0) ks (pre++[k]) (some (.val (.int (wt ties k)))) (some (.val (.int (k:Nat)))) (some (.val (.int (c t.1:Nat)))) (some (.val (.int (c t.2.1:Nat)))) e1
  refine⟨z4',z5',z6',z7',?_⟩
  rw[ep,DX,hc,pl] at e
  rw[pG,eV]
  have ux:∀x,x<n->up ((List.range n).map c) x=c x:=fun x hx=>by
   unfold up
   rw[List.getD_eq_getElem?_getD,List.getElem?_map,List.getElem?_range hx];rfl
  have il:((List.range n).map c).length=n:=by rw[List.length_map,List.length_range]
  have i1:L2.eH (af ((List.range n).map c)) (t.1:Int)=some (.int (c t.1:Nat)):=by rw[am (by rw[il];exact hx),ux _ hx];rfl
  have i2:L2.eH (af ((List.range n).map c)) (t.2.1:Int)=some (.int (c t.2.1:Nat)):=by rw[am (by rw[il];exact hy),ux _ hy];rfl
  have ta:=jL et
  have a0:∀a b c:PV,L2.eH [a,b,c] 0=some a:=fun a b c=>rfl
  have a1:∀a b c:PV,L2.eH [a,b,c] 1=some b:=fun a b c=>rfl
  have dd:decide ((c t.1:Int)=(c t.2.1:Int))=decide (c t.1=c t.2.1):=decide_eq_decide.mpr (by omega)
  have ct:cT ((tl (sR ties)).take pre.length) t.1=cT ((tl (sR ties)).take pre.length) t.2.1↔c t.1=c t.2.1:=by rw[etk,←Hz,hc]
  by_cases q:c t.1=c t.2.1
  ·rw[iw ett (ct.mpr q),ma q.symm] at e
   simp![bY,dc,cq,aJ,cD,aK,iT,aH,aQ,bA,bD,aI,fG,cA,cw,fI,fE,fD,fH,cx,aN,cy,aL,fJ,cz,aO,aM,bE,bK,bh,bJ,aF,iV,cB,bB,bG,cv,aG,bH,dP,aU,fA,cs,cr,aP,cu,bC,bI,bF,ta,ij,a0,a1,i1,i2,dd,decide_eq_true q]
   exact e
  ·rw[jw ett (fun z=>q (ct.mp z)),List.map_append,List.map_cons,List.map_nil,show (od ties).getD pre.length 0=k by rw[List.getD_eq_getElem?_getD,ek];rfl] at e
   have hl2:(bT (tl (sR ties)) pre.length).length≤100000:=by have:=(jH (tl (sR ties)) pre.length).2;omega
   have g0:lj (gN 0) gj dh [none,some (.val (.int (c t.2.1:Nat))),some (.val (.int (c t.1:Nat)))] (af ((List.range n).map c))=some (af ((List.range n).map (jn c t.2.1 t.1))):=by
    rw[kM (fun v=>.int ((if v=c t.2.1 then c t.1 else v:Nat):Int)) fun v hv=>?_]
    ·unfold af
     rw[List.map_map,List.map_map]
     refine congrArg some (List.map_congr_left fun v _=>?_)
     rfl
    ·have d2:decide ((v:Int)=(c t.2.1:Int))=decide (v=c t.2.1):=decide_eq_decide.mpr (by omega)
     by_cases z:v=c t.2.1
     ·simp![dh,d2,decide_eq_true z,if_pos z]
     ·simp![dh,d2,decide_eq_false z,if_neg z]
   have hn:=T.h2
   simp![bY,dc,cq,aJ,cD,aK,iT,aH,aQ,bA,bD,aI,fG,cA,cw,fI,fE,fD,fH,cx,aN,cy,aL,fJ,cz,aO,aM,bE,bK,bh,bJ,aF,iV,cB,bB,bG,cv,aG,bH,dP,aU,fA,cs,cr,aP,cu,bC,bI,bF,ta,ij,a0,a1,i1,i2,dd,decide_eq_false q,dW,List.length_map,if_pos hl2,jo,List.length_range,if_pos (show n<1000 by omega),g0]
   exact e
theorem uq (T:Ties n ties):b6 [.int (n:Nat),dc ties]=some (.n (af (jk ties))):=by
 have hl:=T.len
 have hn:=T.h2
 obtain⟨z4,z5,z6,z7,e⟩:=Dc T (s0:=some (.val (.int (n:Nat)))) (od ties) [] none none none none rfl
 have e0:(List.range n).map (cS (tl ([].map (lG ties))))=List.range n:=List.map_id _
 rw[e0] at e
 have e':aZ (jm 2 (gC (gN 4) (gC (gN 5) g0))) bY (sG (wt ties) (od ties)) [some (.val (.int (n:Nat))),some (.val (.tup (ties.map ij))),some (.val (.lst (af (List.range n)))),some (.own []),none,none,none,none]=_:=e
 have eU:(bT (tl (sR ties)) (od ties).length).map (fun P=>(od ties).getD P 0)=zh ties:=by
  unfold zh vK
  rw[gT,ke]
 rw[eU] at e'
 have es:=pe (wt ties) ties.length (by omega)
 have od':zB (wt ties) ties.length=od ties:=rfl
 rw[od'] at es
 have lc:(zh ties).length≤ties.length:=by
  rw[show (zh ties).length=(vK (sR ties)).length from List.length_map ..]
  have:=(jH (tl (sR ties)) (sR ties).length).2
  rw[gT] at this
  show (bT (tl (sR ties)) (sR ties).length).length≤_
  rw[gT];exact this
 have e5:=yS (wW (ties:=ties)) (by omega)
 have g1:lj (gN 0) gj fM [none,some (.val (.tup (ties.map ij)))] (af (List.range ties.length))=some (sG (wt ties) (List.range ties.length)):=by
  refine kM (fun k=>.tup [.int (wt ties k),.int (k:Nat)]) fun k hk=>?_
  have et:ties[k]?=some (ties[k]'(List.mem_range.mp hk)):=List.getElem?_eq_getElem _
  have a2:∀a b c:PV,L2.eH [a,b,c] 2=some c:=fun a b c=>rfl
  rw[p7 et]
  have ta:=jL et
  generalize ties[k]'(List.mem_range.mp hk)=t at ta
  simp![fM,ta,ij,a2]
 unfold dc
 simp![ll,gc,cq,aJ,cD,aK,iT,aH,aQ,bA,bD,aI,fG,cA,cw,fI,fE,fD,fH,cx,aN,cy,aL,fJ,cz,aO,aM,bE,bK,bh,bJ,aF,iV,cB,bB,bG,cv,aG,bH,dP,aU,fA,cs,cr,aP,cu,bC,bI,bF,K1 (n:=n) (by omega),List.length_map,K1 (show ties.length≤100000 by omega),List.length_range,if_pos (show ties.length<1000 by omega),g1,es,e',e5]
noncomputable def DO (ties:List Tl)(j:Nat):List Sg:=match ties[j]? with
 |some t=>[(t.1,t.2.1,.int (j:Nat)),(t.2.1,t.1,.int (j:Nat))]
 |none=>[]
noncomputable def fY (ties:List Tl)(js:List Nat):List Sg:=js.flatMap (DO ties)
theorem CU {j:Nat}{t:Tl}(h:ties[j]?=some t):DO ties j=[(t.1,t.2.1,.int (j:Nat)),(t.2.1,t.1,.int (j:Nat))]:=by unfold DO;rw[h]
theorem p9 {js:List Nat}{a e:Nat}{l:PV}(h:(a,e,l)∈fY ties js):∃j,j∈js/\l=.int (j:Nat)/\Ed ties j a e:=by
 obtain⟨j,hj,h⟩:=List.mem_flatMap.mp h
 cases et:ties[j]? with
 |none=>unfold DO at h;rw[et] at h;cases h
 |some t=>
  rw[CU et] at h
  rcases List.mem_cons.mp h with h|h
  ·cases h;exact⟨j,hj,rfl,t,et,.inl ⟨rfl,rfl⟩⟩
  ·have h:=List.mem_singleton.mp h
   cases h;exact⟨j,hj,rfl,t,et,.inr ⟨rfl,rfl⟩⟩
theorem rJ {js:List Nat}{j a e:Nat}(hj:j∈js)(h:Ed ties j a e):(a,e,.int (j:Nat))∈fY ties js:=by
 obtain⟨t,et,h⟩:=h
 refine List.mem_flatMap.mpr ⟨j,hj,?_⟩
 rw[CU et]
 rcases h with ⟨rfl,rfl⟩|⟨rfl,rfl⟩
 ·exact List.mem_cons_self
 ·exact List.mem_cons_of_mem _ List.mem_cons_self
structure Kx (K:qc)(W:List Nat)(K':qc)(W':List Nat):Prop where
 sub:∀v,v∈K.map (·.1)->v∈K'.map (·.1)
 new:∀v,v∈K'.map (·.1)->v∈K.map (·.1)\/v∈W'
 ws:∀w∈W,w∈W'
 wk:(∀w∈W,w∈K.map (·.1))->∀w∈W',w∈K'.map (·.1)
 len:K'.length+W.length=K.length+W'.length
theorem Kx.refl {K:qc}{W:List Nat}:Kx K W K W:=⟨fun _ h=>h,fun _ h=>.inl h,fun _ h=>h,fun h=>h,rfl⟩
theorem Kx.trans {K K1 K2:qc}{W W1 W2:List Nat}(a:Kx K W K1 W1)(b:Kx K1 W1 K2 W2):Kx K W K2 W2:=
 ⟨fun v h=>b.sub v (a.sub v h),fun v h=>(b.new v h).elim (fun h=>(a.new v h).imp id (b.ws v)) .inr,fun w h=>b.ws w (a.ws w h),fun h=>b.wk (a.wk h),by have:=a.len;have:=b.len;omega⟩
noncomputable abbrev pY (ties:List Tl)(js:List Nat)(x y:Nat)(K:qc)(W:List Nat)(z6 z7 z8 z9:Option Sl):aj:=
 [some (.val (dc ties)),some (.val (.lst (af js))),some (.val (.int (x:Nat))),some (.val (.int (y:Nat))),some (.dic (rK K) (rP K)),some (.own (af W)),z6,z7,z8,z9]
theorem AX {x y:Nat}{js:List Nat}{K:qc}{W:List Nat}{a b e j:Nat}(hn:n≤40)(R:Rds n (fY ties js) x K)(ha:a∈K.map (·.1))(he:e<n)(hj:j∈js)(hE:Ed ties j b e)(hW:W.length≤100000) :
  ∃K' W',br (pY ties js x y K W (some (.val (.int (a:Nat)))) (some (.val (.int (j:Nat)))) (some (.val (.int (b:Nat)))) (some (.val (.int (e:Nat)))))=.nx (pY ties js x y K' W' (some (.val (.int (a:Nat)))) (some (.val (.int (j:Nat)))) (some (.val (.int (b:Nat)))) (some (.val (.int (e:Nat)))))/\Rds n (fY ties js) x K'/\Kx K W K' W'/\(b=a->e∈K'.map (·.1)):=by
 have d1:decide ((b:Int)=(a:Int))=decide (b=a):=decide_eq_decide.mpr (by omega)
 have dA:jd (.int (e:Nat)) (.dct (rK K) (rP K))=some (.fz (.bl (!decide (e∈K.map (·.1))))):=by
  rw[aF,yR,Option.isSome_map,Da]
 have hKl:=R.len
 by_cases hba:b=a
 ·subst hba
  by_cases hin:e∈K.map (·.1)
  ·refine⟨K,W,?_,R,.refl,fun _=>hin⟩
   simp![br,pY,cq,aJ,cD,aK,iT,aH,aQ,bA,bD,aI,fG,cA,cw,fI,fE,fD,fH,cx,aN,cy,aL,fJ,cz,aO,aM,bE,bK,bh,bJ,aF,iV,cB,bB,bG,cv,aG,bH,dP,aU,fA,cs,cr,aP,cu,bC,bI,bF,d1,decide_true,dA,decide_eq_true hin]
  ·obtain⟨q,fq,mq⟩:=u4 ha
   have R':=R.add mq (rJ hj hE) he hin
   have hq:q.length<n:=R.rlen mq
   obtain⟨p1,p2⟩:=Jz (r:=q++[PV.int (j:Nat)]) hin
   have hme:e∈(K++[(e,q++[PV.int (j:Nat)])]).map (·.1):=by rw[List.map_append];exact List.mem_append_right _ (List.mem_singleton.mpr rfl)
   have sub:∀v,v∈K.map (·.1)->v∈(K++[(e,q++[PV.int (j:Nat)])]).map (·.1):=fun v hv=>by rw[List.map_append];exact List.mem_append_left _ hv
   refine⟨K++[(e,q++[PV.int (j:Nat)])],W++[e],?_,R',⟨sub,fun v hv=>?_,fun w hw=>List.mem_append_left _ hw,fun hw w hw'=>?_,by simp;omega⟩,fun _=>hme⟩
   ·have i1:nu (rK K) (rP K) (.inl ((b:Nat):Int))=some (.tup q):=by rw[yR,fq];rfl
    have kl:(rK K).length≤100000:=by unfold rK;rw[List.length_map];omega
    have ql:q.length≤99999:=by omega
    simp![br,pY,cq,aJ,cD,aK,iT,aH,aQ,bA,bD,aI,fG,cA,cw,fI,fE,fD,fH,cx,aN,cy,aL,fJ,cz,aO,aM,bE,bK,bh,bJ,aF,iV,cB,bB,bG,cv,aG,bH,dP,aU,fA,cs,cr,aP,cu,bC,bI,bF,d1,decide_true,dA,decide_eq_false hin,i1,if_pos kl,if_pos ql,if_pos hW,p1,p2,dW,jo]
   ·rw[List.map_append] at hv
    rcases List.mem_append.mp hv with hv|hv
    ·exact .inl hv
    ·rw[show v=e by simpa using hv];exact .inr (List.mem_append_right _ (List.mem_singleton.mpr rfl))
   ·rcases List.mem_append.mp hw' with h|h
    ·exact sub w (hw w h)
    ·rw[List.mem_singleton.mp h];exact hme
 ·refine⟨K,W,?_,R,.refl,fun z=>absurd z hba⟩
  simp![br,pY,cq,aJ,cD,aK,iT,aH,aQ,bA,bD,aI,fG,cA,cw,fI,fE,fD,fH,cx,aN,cy,aL,fJ,cz,aO,aM,bE,bK,bh,bJ,aF,iV,cB,bB,bG,cv,aG,bH,dP,aU,fA,cs,cr,aP,cu,bC,bI,bF,d1,decide_eq_false hba]
theorem CL (T:Ties n ties){x y:Nat}{js:List Nat}(hjs:∀j∈js,j<ties.length){a:Nat}:∀(ks:List Nat) (K:qc) (W:List Nat) (z7 z8 z9:Option Sl),(∀k∈ks,k∈js)->Rds n (fY ties js) x K->a∈K.map (·.1)->W.length≤K.length →
  ∃K' W' z7' z8' z9',aZ (gN 7) bV (af ks) (pY ties js x y K W (some (.val (.int (a:Nat)))) z7 z8 z9)=.nx (pY ties js x y K' W' (some (.val (.int (a:Nat)))) z7' z8' z9')/\Rds n (fY ties js) x K'/\Kx K W K' W'/\∀k∈ks,∀e,Ed ties k a e->e∈K'.map (·.1)
 |[],K,W,z7,z8,z9,_,R,_,_=>⟨K,W,z7,z8,z9,by rw[show af []=[] from rfl,iY],R,.refl,fun _ h=>by cases h⟩
 |j::ks,K,W,z7,z8,z9,hk,R,ha,hW=>by
  have hn:=T.h2
  have hj:=hk j List.mem_cons_self
  obtain⟨t,et⟩:∃t,ties[j]?=some t:=⟨_,List.getElem?_eq_getElem (hjs j hj)⟩
  obtain⟨hp1,hp2⟩:=T.lt t (List.mem_of_getElem? et)
  have Ea:Ed ties j t.1 t.2.1:=⟨t,et,.inl ⟨rfl,rfl⟩⟩
  have l0:=R.len
  obtain⟨K1,W1,e1,R1,x1,c1⟩:=AX hn (y:=y) (W:=W) R ha hp2 hj Ea (by omega)
  have l1:=R1.len
  have n1:=x1.len
  obtain⟨K2,W2,e2,R2,x2,c2⟩:=AX hn (y:=y) (W:=W1) R1 (x1.sub a ha) hp1 hj Ea.sym (by omega)
  have n2:=x2.len
  obtain⟨K3,W3,z7',z8',z9',e3,R3,x3,c3⟩:=CL T hjs (y:=y) ks K2 W2 (some (.val (.int (j:Nat)))) (some (.val (.int (t.2.1:Nat)))) (some (.val (.int (t.1:Nat)))) (fun k h=>hk k (List.mem_cons_of_mem _ h)) R2 (x2.sub a (x1.sub a ha)) (by omega)
  refine⟨K3,W3,z7',z8',z9',?_,R3,x1.trans (x2.trans x3),fun k hk' e he=>?_⟩
  ·rw[dZ,eV]
   have b:bV (pY ties js x y K W (some (.val (.int (a:Nat)))) (some (.val (nI j))) z8 z9)=.nx (pY ties js x y K2 W2 (some (.val (.int (a:Nat)))) (some (.val (.int (j:Nat)))) (some (.val (.int (t.2.1:Nat)))) (some (.val (.int (t.1:Nat))))):=by
    have ta:=jL et
    have r2:[PV.int (t.1:Nat),PV.int (t.2.1:Nat)].reverse=[PV.int (t.2.1:Nat),PV.int (t.1:Nat)]:=rfl
    have b0:bV (pY ties js x y K W (some (.val (.int (a:Nat)))) (some (.val (nI j))) z8 z9)=aZ (jm 2 (gC (gN 8) (gC (gN 9) g0))) br [.tup [.int (t.1:Nat),.int (t.2.1:Nat)],.tup [.int (t.2.1:Nat),.int (t.1:Nat)]] (pY ties js x y K W (some (.val (.int (a:Nat)))) (some (.val (.int (j:Nat)))) z8 z9):=by
     simp![bV,pY,dc,cq,aJ,cD,aK,iT,aH,aQ,bA,bD,aI,fG,cA,cw,fI,fE,fD,fH,cx,aN,cy,aL,fJ,cz,aO,aM,bE,bK,bh,bJ,aF,iV,cB,bB,bG,cv,aG,bH,dP,aU,fA,cs,cr,aP,cu,bC,bI,bF,ta,ij,if_neg D0,DG,r2]
    rw[b0,eV]
    simp![pY] at e1 e2 ⊢
    rw[e1]
    simp![true_and]
    rw[eV]
    simp![true_and]
    rw[e2]
    simp![true_and]
   simp![pY] at b e3 ⊢
   rw[b]
   simp![true_and]
   exact e3
  ·rcases List.mem_cons.mp hk' with rfl|hk'
   ·rcases he.two Ea with ⟨q1,q2⟩|⟨q1,q2⟩
    ·subst q2;exact x3.sub _ (x2.sub _ (c1 q1.symm))
    ·subst q2;exact x3.sub _ (c2 q1.symm)
   ·exact c3 k hk' e he
theorem wv (W:List Nat)(w:Nat):af (W++[w])=af W++[PV.int (w:Nat)]:=(jo ..).symm
theorem sV (W:List Nat):fK (af W) []=W.isEmpty:=by
 cases W with
 |nil=>exact km
 |cons p W=>exact kz (by rw[dW];simp)
theorem DN (W:List Nat)(w:Nat):tC (.own (af (W++[w]))) []=some (.own (af W),.int (w:Nat)):=by
 show ((af (W++[w]))[(af (W++[w])).length - 1]?).map (fun p=>(Sl.own (af (W++[w])).dropLast,p))=_
 rw[wv,List.length_append,List.length_singleton,Nat.add_sub_cancel,List.getElem?_append_right (Nat.le_refl _),Nat.sub_self,List.dropLast_concat]
 rfl
theorem uD (T:Ties n ties){x y:Nat}{js:List Nat}(hjs:∀j∈js,j<ties.length):∀(m k:Nat) (K:qc) (W:List Nat) (z6 z7 z8 z9:Option Sl),(n - K.length)+W.length≤m->m<k->Rds n (fY ties js) x K->(∀w∈W,w∈K.map (·.1))->W.length≤K.length->(∀a∈K.map (·.1),a∉W->GO (fY ties js) K a) →
  ∃K' z6' z7' z8' z9',cE bS bt k (pY ties js x y K W z6 z7 z8 z9)=.nx (pY ties js x y K' [] z6' z7' z8' z9')/\Rds n (fY ties js) x K'/\∀a∈K'.map (·.1),GO (fY ties js) K' a
 |m,0,_,_,_,_,_,_,_,hk,_,_,_,_=>absurd hk (Nat.not_lt_zero _)
 |m,k+1,K,W,z6,z7,z8,z9,hm,hk,R,hw,hl,hc=>by
  have p0:aq []=true:=by rw[aq]
  have c0:bS (pY ties js x y K W z6 z7 z8 z9)=some (!W.isEmpty):=by
   simp![bS,pY,cq,aJ,cD,aK,iT,aH,aQ,bA,bD,aI,fG,cA,cw,fI,fE,fD,fH,cx,aN,cy,aL,fJ,cz,aO,aM,bE,bK,bh,bJ,aF,iV,cB,bB,bG,cv,aG,bH,dP,aU,fA,cs,cr,aP,cu,bC,bI,bF,bc,cG,p0,sV]
  by_cases h0:W=[]
  ·subst h0
   refine⟨K,z6,z7,z8,z9,?_,R,fun a ha=>hc a ha List.not_mem_nil⟩
   rw[hU,c0];rfl
  ·obtain⟨W0,w,rfl⟩:∃W0 w,W=W0++[w]:=⟨_,_,(List.dropLast_concat_getLast h0).symm⟩
   rw[List.length_append,List.length_singleton] at hm hl
   obtain⟨m',rfl⟩:∃m',m=m'+1:=⟨m - 1,by omega⟩
   obtain⟨K1,W1,w7,w8,w9,e1,R1,x1,c1⟩:=CL T hjs (y:=y) js K W0 z7 z8 z9 (fun _ h=>h) R (hw w (List.mem_append_right _ (List.mem_singleton.mpr rfl))) (by omega)
   have n1:=x1.len
   have l1:=R1.len
   have l0:=R.len
   obtain⟨K2,v6,v7,v8,v9,e2,R2,c2⟩:=uD T hjs (y:=y) m' k K1 W1 (some (.val (.int (w:Nat)))) w7 w8 w9 (by omega) (by omega) R1 (x1.wk fun v hv=>hw v (List.mem_append_left _ hv)) (by omega) (fun a ha hn=>by
    by_cases haw:a=w
    ·subst haw
     intro e l hs
     obtain⟨j,hj,rfl,he⟩:=p9 hs
     exact c1 j hj e he
    ·rcases x1.new a ha with h|h
     ·have:a∉W0++[w]:=fun h'=>(List.mem_append.mp h').elim (fun h'=>hn (x1.ws a h')) fun h'=>haw (List.mem_singleton.mp h')
      exact fun e l hs=>x1.sub e (hc a h this e l hs)
     ·exact absurd h hn)
   refine⟨K2,v6,v7,v8,v9,?_,R2,c2⟩
   have hne:(W0++[w]).isEmpty=false:=by simp
   rw[hU,c0,hne]
   show Lq (bt _) _ _ _=_
   have b0:bt (pY ties js x y K (W0++[w]) z6 z7 z8 z9)=.nx (pY ties js x y K1 W1 (some (.val (.int (w:Nat)))) w7 w8 w9):=by
    simp only[pY] at e1 ⊢
    simp![bt,dP,aU,DN,e1]
   rw[b0,sv]
   exact e2
end Dp
end
section
namespace Dp
open PySem PySem.Spec L2 Fo Pt
variable {n:Nat}{ties:List Tl}
theorem pK:∀j∈jk ties,j<ties.length:=fun j hj=>(mem_chs.mp hj).1
theorem EZ (T:Ties n ties){k:Nat}{t:Tl}(et:ties[k]?=some t):Rch (fY ties (jk ties)) t.1 t.2.1:=by
 have hk:=(List.getElem?_eq_some_iff.mp et).1
 obtain⟨k',t',e1,_,e2,e3⟩:=kq (y7 hk)
 rw[oP hk] at e1;cases e1
 rw[et] at e2;cases e2
 have rr:=uz (tl (sR ties)) (sR ties).length (t.1,t.2.1,0) (by
  rw[List.take_of_length_le (by rw[Hh];exact Nat.le_refl _)]
  exact List.mem_of_getElem? (u3 e3))
 have conv:∀{x e:Nat},Rch (gy (tl (sR ties)) (bT (tl (sR ties)) (sR ties).length)) x e->Rch (fY ties (jk ties)) x e:=fun {x e} r=>by
  induction r with
  |refl=>exact .refl
  | @step a e l _ q ih=>
   obtain⟨P,s,u,hP,eu,_,hs⟩:=rF q
   have hP':P∈vK (sR ties):=hP
   obtain⟨k2,t2,f1,_,f2,f3⟩:=kq (ui hP')
   have:u=(t2.1,t2.2.1,0):=by have:=u3 f3;rw[eu] at this;exact Option.some.inj this
   subst this
   have hm:k2∈jk ties:=mem_chs.mpr ⟨CD f1,by rw[vv f1];exact hP'⟩
   have hE:Ed ties k2 a e:=⟨t2,f2,by rcases hs with ⟨_,h⟩|⟨_,h⟩;exact .inl h;exact .inr h⟩
   exact .step ih (rJ hm hE)
 exact conv rr
theorem Trk.rqK {js:List Nat}{x e:Nat}{r:List PV}{vs:List Nat}(t:Trk (fY ties js) x e r vs):∃ns,r=af ns/\Rq ties ns vs/\vs.head?=some x/\vs.getLast?=some e/\∀j∈ns,j∈js:=by
 induction t with
 |nil=>exact⟨[],rfl,trivial,rfl,rfl,fun _ h=>(by cases h)⟩
 | @snoc a e l r vs t q ih=>
  obtain⟨ns,rfl,h1,h2,h3,h4⟩:=ih
  obtain⟨j,hj,rfl,ed⟩:=p9 q
  refine⟨ns++[j],jo ..,h1.snoc h3 ed,?_,by simp,fun i hi=>?_⟩
  ·cases vs with
   |nil=>cases h2
   |cons v vs=>exact h2
  ·rcases List.mem_append.mp hi with hi|hi
   ·exact h4 i hi
   ·rw[List.mem_singleton.mp hi];exact hj
theorem zT (T:Ties n ties){x y:Nat}{js:List Nat}(hjs:∀j∈js,j<ties.length)(hx:x<n)(hy:y<n)(hr:Rch (fY ties js) x y):∃rs vs,dr [dc ties,.lst (af js),.int (x:Nat),.int (y:Nat)]=some (.v (.tup (af rs)))/\Rq ties rs vs/\vs.Nodup/\vs.head?=some x/\vs.getLast?=some y/\(∀j∈rs,j∈js)/\rs.length<40:=by
 have hn:=T.h2
 have R0:Rds n (fY ties js) x [(x,[])]:=⟨by simp,fun t ht=>by rw[List.mem_singleton.mp ht];exact hx,fun t ht=>by rw[List.mem_singleton.mp ht];exact⟨[x],.nil,by simp,fun v hv=>by simpa using hv⟩,⟨[],rfl⟩⟩
 obtain⟨K,z6,z7,z8,z9,e,R,c⟩:=uD T hjs (y:=y) n 10000 [(x,[])] [x] none none none none (by simp;omega) (by omega) R0 (fun w hw=>by simpa using hw) (by simp) (fun a ha hn'=>by
  have:a=x:=by simpa using ha
  exact absurd (by rw[this];exact List.mem_singleton.mpr rfl) hn')
 have e':cE bS bt 10000 [some (.val (dc ties)),some (.val (.lst (af js))),some (.val (.int (x:Nat))),some (.val (.int (y:Nat))),some (.dic [.inl ((x:Nat):Int)] [.tup []]),some (.own [.int (x:Nat)]),none,none,none,none]=.nx (pY ties js x y K [] z6 z7 z8 z9):=e
 obtain⟨q,fq,mq⟩:=u4 ((R.keys c y).mpr hr)
 obtain⟨vs,tr,nd,_⟩:=R.tr _ mq
 have hq:q.length<n:=R.rlen mq
 obtain⟨ns,rfl,k1,k2,k3,k4⟩:=tr.rqK
 rw[dW] at hq
 have g1:=Iu fq
 refine⟨ns,vs,?_,k1,nd,k2,k3,k4,by omega⟩
 simp![mS,gI,br,bV,bS,bt,cq,aJ,cD,aK,iT,aH,aQ,bA,bD,aI,fG,cA,cw,fI,fE,fD,fH,cx,aN,cy,aL,fJ,cz,aO,aM,bE,bK,bh,bJ,aF,iV,cB,bB,bG,cv,aG,bH,dP,aU,fA,cs,cr,aP,cu,bC,bI,bF,e',pY,g1]
noncomputable def lw (ties:List Tl)(ns:List Nat):Int:=(ns.map (wt ties)).sum
theorem xw (js:List Nat)(hjs:∀j∈js,j<ties.length){f:FE}(hf:∀(k:Nat) (t:Tl),ties[k]?=some t->f [some (.val (.int (k:Nat))),some (.val (dc ties))]=some (.fz (.int t.2.2))):lj (gN 0) gj f [none,some (.val (dc ties))] (af js)=some ((js.map (wt ties)).map PV.int):=by
 rw[kM (fun k=>.int (wt ties k)) fun k hk=>?_]
 ·rw[List.map_map];rfl
 ·have et:ties[k]?=some (ties[k]'(hjs k hk)):=List.getElem?_eq_getElem _
  rw[show gN 0 (PV.int (k:Nat)) [none,some (.val (dc ties))]=some [some (.val (.int (k:Nat))),some (.val (dc ties))] from rfl,Option.bind_some,hf k _ et,p7 et]
  rfl
theorem K6 (k:Nat)(t:Tl)(et:ties[k]?=some t):eE [some (.val (.int (k:Nat))),some (.val (dc ties))]=some (.fz (.int t.2.2)):=by
 have a2:∀a b c:PV,L2.eH [a,b,c] 2=some c:=fun a b c=>rfl
 simp![eE,dc,jL et,ij,a2]
theorem GJ (k:Nat)(t:Tl)(et:ties[k]?=some t):fS [some (.val (.int (k:Nat))),some (.val (dc ties))]=some (.fz (.int t.2.2)):=by
 have a2:∀a b c:PV,L2.eH [a,b,c] 2=some c:=fun a b c=>rfl
 simp![fS,dc,jL et,ij,a2]
theorem yQ (T:Ties n ties):bn [.int (n:Nat),dc ties]=some (.v (.tup [.int (lw ties (jk ties)),.tup (af (jk ties))])):=by
 have hl:=T.len
 have hc:=xJ (ties:=ties)
 have g:=xw (jk ties) pK (f:=eE) K6
 have io:dG (((jk ties).map (wt ties)).map PV.int)=some ((jk ties).map (wt ties)):=jG _
 simp![my,gJ,cq,aJ,cD,aK,iT,aH,aQ,bA,bD,aI,fG,cA,cw,fI,fE,fD,fH,cx,aN,cy,aL,fJ,cz,aO,aM,bE,bK,bh,bJ,aF,iV,cB,bB,bG,cv,aG,bH,dP,aU,fA,cs,cr,aP,cu,bC,bI,bF,H6 T,Bg T,dW,if_pos (show (jk ties).length<1000 by omega),g,io,lw]
theorem Do (T:Ties n ties){k:Nat}{t:Tl}(et:ties[k]?=some t)(rs:List Nat)(hrs:∀j∈rs,j<ties.length):lj (gN 0) gj ip [none,some (.val (dc ties)),some (.val (.int (k:Nat)))] (af rs)=some (rs.map fun j=>.bl (if wt ties j=wt ties k then decide ((j:Int)<(k:Int)) else decide (wt ties j<wt ties k))):=by
 refine kM (fun j=>.bl (if wt ties j=wt ties k then decide ((j:Int)<(k:Int)) else decide (wt ties j<wt ties k))) fun j hj=>?_
 have ej:ties[j]?=some (ties[j]'(hrs j hj)):=List.getElem?_eq_getElem _
 rw[p7 ej,p7 et]
 have tj:=jL ej
 have tk:=jL et
 have a2:∀a b c:PV,L2.eH [a,b,c] 2=some c:=fun a b c=>rfl
 have rl:∀a b c d:Int,zb (.tup [.int a,.int b]) (.tup [.int c,.int d])=some (.fz (.bl (if a=c then decide (b<d) else decide (a<c)))):=fun a b c d=>Eq.trans rfl rfl
 generalize ties[j]'(hrs j hj)=u at tj
 simp![ip,dc,tj,tk,ij,a2,rl]
theorem Cz {α:Type}(f:α->Bool):∀l:List α,G4 (l.map fun a=>PV.bl (f a))=some (l.map f)
 |[]=>rfl
 |a::l=>by
  show (G4 (l.map fun a=>PV.bl (f a))).map _=_
  rw[Cz f l];rfl
noncomputable abbrev Fa (n:Nat)(ties:List Tl)(V:PV)(z4 z5 z6:Option Sl):aj:=[some (.val (.int (n:Nat))),some (.val (dc ties)),some (.val V),some (.val (.lst (af (jk ties)))),z4,z5,z6]
theorem zI (T:Ties n ties){k:Nat}(hk:k<ties.length){V:PV}{z5 z6:Option Sl}:∃w5 w6,dQ (Fa n ties V (some (.val (.int (k:Nat)))) z5 z6)=.nx (Fa n ties V (some (.val (.int (k:Nat)))) w5 w6):=by
 have et:ties[k]?=some ties[k]:=List.getElem?_eq_getElem _
 generalize ties[k]=t at et
 obtain⟨hx,hy⟩:=T.lt t (List.mem_of_getElem? et)
 obtain⟨rs,vs,e1,k1,nd,k2,k3,k4,kl⟩:=zT T pK hx hy (EZ T et)
 have e2:=Do T et rs fun j hj=>pK j (k4 j hj)
 have ta:=jL et
 have a0:∀a b c:PV,L2.eH [a,b,c] 0=some a:=fun a b c=>rfl
 have a1:∀a b c:PV,L2.eH [a,b,c] 1=some b:=fun a b c=>rfl
 unfold dc at e1 e2
 refine⟨some (.val (.tup (af rs))),some (.val (.lst (rs.map fun j=>.bl (if wt ties j=wt ties k then decide ((j:Int)<(k:Int)) else decide (wt ties j<wt ties k))))),?_⟩
 by_cases q:k∈jk ties
 ·simp![dQ,Fa,dc,cq,aJ,cD,aK,iT,aH,aQ,bA,bD,aI,fG,cA,cw,fI,fE,fD,fH,cx,aN,cy,aL,fJ,cz,aO,aM,bE,bK,bh,bJ,aF,iV,cB,bB,bG,cv,aG,bH,dP,aU,fA,cs,cr,aP,cu,bC,bI,bF,ta,ij,a0,a1,e1,dW,if_pos (show rs.length<1000 by omega),e2,bc,cG,mm,decide_eq_true q]
 ·have al:(rs.map fun j=>(if wt ties j=wt ties k then decide ((j:Int)<(k:Int)) else decide (wt ties j<wt ties k))).all id=true:=by
   rw[List.all_map,List.all_eq_true]
   intro j hj
   have:=zc et rfl rfl q k4 k1 nd k2 k3 j hj
   unfold I3 at this
   show (if wt ties j=wt ties k then decide ((j:Int)<(k:Int)) else decide (wt ties j<wt ties k))=true
   split
   ·exact decide_eq_true (by omega)
   ·exact decide_eq_true (by omega)
  have bm:=Cz (fun j=>(if wt ties j=wt ties k then decide ((j:Int)<(k:Int)) else decide (wt ties j<wt ties k))) rs
  simp![dQ,Fa,dc,cq,aJ,cD,aK,iT,aH,aQ,bA,bD,aI,fG,cA,cw,fI,fE,fD,fH,cx,aN,cy,aL,fJ,cz,aO,aM,bE,bK,bh,bJ,aF,iV,cB,bB,bG,cv,aG,bH,dP,aU,fA,cs,cr,aP,cu,bC,bI,bF,ta,ij,a0,a1,e1,dW,if_pos (show rs.length<1000 by omega),e2,bc,cG,mm,decide_eq_false q,bm,al]
theorem rQ (T:Ties n ties){V:PV}:∀(ks:List Nat) (z4 z5 z6:Option Sl),(∀k∈ks,k<ties.length)->∃w4 w5 w6,aZ (gN 4) dQ (af ks) (Fa n ties V z4 z5 z6)=.nx (Fa n ties V w4 w5 w6)
 |[],z4,z5,z6,_=>⟨z4,z5,z6,by rw[show af []=[] from rfl,iY]⟩
 |k::ks,z4,z5,z6,hk=>by
  obtain⟨v5,v6,e1⟩:=zI T (hk k List.mem_cons_self) (V:=V) (z5:=z5) (z6:=z6)
  obtain⟨w4,w5,w6,e⟩:=rQ T (V:=V) ks (some (.val (.int (k:Nat)))) v5 v6 fun q hq=>hk q (List.mem_cons_of_mem _ hq)
  refine⟨w4,w5,w6,?_⟩
  rw[dZ,eV,←e]
  simp![Fa] at e1 ⊢
  rw[e1]
  simp![true_and]
theorem t4 (T:Ties n ties):fy [.int (n:Nat),dc ties]=some (.v (.bl true)):=by
 have hl:=T.len
 have hc:=xJ (ties:=ties)
 have e1:=yQ T
 have e2:=uq T
 have g:=xw (jk ties) pK (f:=fS) GJ
 have io:dG (((jk ties).map (wt ties)).map PV.int)=some ((jk ties).map (wt ties)):=jG _
 obtain⟨w4,w5,w6,e3⟩:=rQ T (V:=.tup [.int (lw ties (jk ties)),.tup (af (jk ties))]) (List.range ties.length) none none none fun k hk=>List.mem_range.mp hk
 have a0:∀a b:PV,L2.eH [a,b] 0=some a:=fun a b=>rfl
 have a1:∀a b:PV,L2.eH [a,b] 1=some b:=fun a b=>rfl
 have pp:fK (af (jk ties)) (af (jk ties))=true:=kC (bc _)
 have ds:decide (lw ties (jk ties)=lw ties (jk ties))=true:=decide_eq_true rfl
 have hs:((jk ties).map (wt ties)).sum=lw ties (jk ties):=rfl
 simp only[Fa] at e3
 unfold dc at e1 e2 e3 g ⊢
 simp![oO,iN,cq,aJ,cD,aK,iT,aH,aQ,bA,bD,aI,fG,cA,cw,fI,fE,fD,fH,cx,aN,cy,aL,fJ,cz,aO,aM,bE,bK,bh,bJ,aF,iV,cB,bB,bG,cv,aG,bH,dP,aU,fA,cs,cr,aP,cu,bC,bI,bF,e1,e2,dW,if_pos (show (jk ties).length<1000 by omega),g,io,hs,bc,cG,pp,ds,a0,a1,List.length_map,K1 (show ties.length≤100000 by omega),e3]
end Dp
end
section
namespace Dp
open PySem PySem.Spec L2 Fo Pt
noncomputable def pc (n:Nat)(c:Nat->Nat):Nat:=(b7 n c).length
theorem mO (n:Nat)(c:Nat->Nat):Part n c (b7 n c):=by
 refine⟨fun l h=>mem_lots.mp h,fun x hx=>mem_lots.mpr ⟨x,hx,rfl⟩,?_,zE n c⟩
 have:=qS n c
 rw[List.pairwise_map] at this
 exact List.nodup_iff_pairwise_ne.mpr (this.imp fun {a b} h e=>by rw[e,oq] at h;cases h)
theorem u9 {n:Nat}{c:Nat->Nat}{ls ls':List (List Nat)}(P:Part n c ls)(P':Part n c ls'):ls.length=ls'.length:=by
 refine ((List.perm_ext_iff_of_nodup P.nd P'.nd).mpr fun l=>?_).length_eq
 constructor
 ·intro h;obtain⟨x,hx,rfl⟩:=P.cls l h;exact P'.all x hx
 ·intro h;obtain⟨x,hx,rfl⟩:=P'.cls l h;exact P.all x hx
theorem ur {α:Type}(p:α->Bool):∀l:List α,l.length=(l.filter p).length+(l.filter fun a=>!p a).length
 |[]=>rfl
 |a::l=>by
  have ih:=ur p l
  cases h:p a with
  |true=>rw[List.filter_cons_of_pos h,List.filter_cons_of_neg (by rw[h];exact Bool.false_ne_true),List.length_cons,List.length_cons,ih];omega
  |false=>rw[List.filter_cons_of_neg (by rw[h];exact Bool.false_ne_true),List.filter_cons_of_pos (by rw[h];rfl),List.length_cons,List.length_cons,ih];omega
theorem xq {n:Nat}{c:Nat->Nat}{x y:Nat}(hx:x<n)(hy:y<n)(h:c x≠c y):pc n (jn c x y)+1=pc n c:=by
 have P:=mO n c
 have e:=u9 (mO n (jn c x y)) (P.join hx hy h)
 unfold pc
 rw[e,List.length_append,List.length_singleton]
 have c1:cl n c x∈b7 n c:=P.all x hx
 have c2:cl n c y∈b7 n c:=P.all y hy
 have ne:cl n c x≠cl n c y:=fun z=>h ((jU hx).mp z)
 have k1:=ur (fun l=>decide (l=cl n c x) || decide (l=cl n c y)) (b7 n c)
 have k2:((b7 n c).filter (fun l=>decide (l=cl n c x) || decide (l=cl n c y))).length=2:=by
  have pm:((b7 n c).filter (fun l=>decide (l=cl n c x) || decide (l=cl n c y))).Perm [cl n c x,cl n c y]:=(List.perm_ext_iff_of_nodup (P.nd.filter _) (by simp[ne])).mpr fun l=>by
   rw[List.mem_filter,Bool.or_eq_true,decide_eq_true_iff,decide_eq_true_iff]
   simp only[List.mem_cons,List.not_mem_nil,or_false]
   exact⟨fun h=>h.2,fun h=>⟨by rcases h with rfl|rfl;exact c1;exact c2,h⟩⟩
  rw[pm.length_eq];rfl
 omega
theorem FH {n:Nat}{c:Nat->Nat}{x y:Nat}(hx:x<n)(hy:y<n):pc n c≤pc n (jn c x y)+1:=by
 by_cases h:c x=c y
 ·rw[ma h];omega
 ·rw[xq hx hy h];exact Nat.le_refl _
theorem AJ {n:Nat}:∀(L:List (Nat×Nat)) (c:Nat->Nat),(∀p∈L,p.1<n/\p.2<n)->pc n c≤pc n (fj L c)+L.length
 |[],_,_=>Nat.le_refl _
 |p::L,c,h=>by
  obtain⟨hx,hy⟩:=h p List.mem_cons_self
  have:=AJ L (jn c p.1 p.2) fun q hq=>h q (List.mem_cons_of_mem _ hq)
  have:=FH (c:=c) hx hy
  rw[mh,List.length_cons]
  omega
theorem Lp (n:Nat):pc n id=n:=by
 have:=u9 (mO n id) (ym n)
 unfold pc
 rw[this,List.length_map,List.length_range]
theorem Cp {n:Nat}{c c':Nat->Nat}(h:∀x y,x<n->y<n->(c x=c y↔c' x=c' y)):pc n c=pc n c':=by unfold pc;rw[wD h]
theorem yX (L L2:List (Nat×Nat))(c:Nat->Nat):fj (L++L2) c=fj L2 (fj L c):=List.foldl_append ..
theorem ou {L L2:List (Nat×Nat)}(h:∀p∈L,fj L2 id p.1=fj L2 id p.2){x y:Nat}(e:fj L id x=fj L id y):fj L2 id x=fj L2 id y:=
 j9 (f:=fj L2 id) L id h (fun a b e=>by rw[show a=b from e]) x y e
variable {n:Nat}{ties:List Tl}
theorem E1 {k:Nat}{t:Tl}(h:ties[k]?=some t):lG ties k∈mr ties:=by
 rw[ko h];exact List.mem_map_of_mem (f:=fun t:Tl=>(t.1,t.2.1)) (List.mem_of_getElem? h)
theorem DH {j:Nat}(hj:j<ties.length):∃k t,(od ties).take (j+1)=(od ties).take j++[k]/\(sR ties).take (j+1)=(sR ties).take j++[(t.1,t.2.1)]/\ties[k]?=some t/\(od ties)[j]?=some k/\(sR ties)[j]?=some (t.1,t.2.1):=by
 obtain⟨k,t,e1,_,e2,e3⟩:=kq hj
 exact⟨k,t,by rw[List.take_add_one,e1];rfl,by rw[List.take_add_one,e3];rfl,e2,e1,e3⟩
noncomputable def Dq (ties:List Tl)(k:Nat):Bool:=decide (k∈jk ties)
theorem sL (T:Ties n ties):∀j,j≤ties.length->pc n (fj ((sR ties).take j) id)+((od ties).take j).countP (Dq ties)=n
 |0,_=>by rw[List.take_zero,List.take_zero,List.countP_nil,Nat.add_zero];exact Lp n
 |j+1,hj=>by
  have ih:=sL T j (by omega)
  obtain⟨k,t,e1,e2,et,ek,es⟩:=DH (ties:=ties) (j:=j) (by omega)
  obtain⟨hx,hy⟩:=T.lt t (List.mem_of_getElem? et)
  rw[e1,e2,yX,List.countP_append,show fj [(t.1,t.2.1)] (fj ((sR ties).take j) id)=jn (fj ((sR ties).take j) id) t.1 t.2.1 from rfl]
  have hm:Dq ties k=true↔fj ((sR ties).take j) id t.1≠fj ((sR ties).take j) id t.2.1:=by
   unfold Dq
   rw[decide_eq_true_iff,mem_chs,vv ek]
   constructor
   ·rintro⟨_,h⟩
    obtain⟨_,h⟩:=mem_real.mp h
    obtain⟨p,ep,hne⟩:=tl_rl.mp h
    rw[es] at ep;cases ep
    exact hne
   ·intro h
    exact⟨CD ek,mem_real.mpr ⟨by rw[gT];omega,tl_rl.mpr ⟨_,es,h⟩⟩⟩
  by_cases q:fj ((sR ties).take j) id t.1=fj ((sR ties).take j) id t.2.1
  ·rw[ma q]
   have:Dq ties k=false:=Bool.eq_false_iff.mpr fun z=>hm.mp z q
   rw[List.countP_cons,this]
   simp
   exact ih
  ·have:=xq hx hy q
   rw[List.countP_cons,hm.mpr q]
   simp
   omega
theorem Au {k:Nat}(h:k∈od ties):lG ties k∈sR ties:=List.mem_map_of_mem h
theorem sR_rel {x y:Nat}:fj (sR ties) id x=fj (sR ties) id y↔fj (mr ties) id x=fj (mr ties) id y:=by
 constructor
 ·refine ou fun p hp=>?_
  obtain⟨k,hk,rfl⟩:=List.mem_map.mp hp
  have et:ties[k]?=some (ties[k]'(od_mem.mp hk)):=List.getElem?_eq_getElem _
  exact fQ _ _ _ _ (E1 et)
 ·refine ou fun p hp=>?_
  obtain⟨t,ht,rfl⟩:=List.mem_map.mp hp
  obtain⟨k,hk,rfl⟩:=List.getElem_of_mem ht
  have et:ties[k]?=some ties[k]:=List.getElem?_eq_getElem hk
  have:=Au (od_mem.mpr hk)
  rw[ko et] at this
  exact fQ _ _ _ _ this
theorem Gv (T:Ties n ties){S:List Nat}(hS:∀k∈S,k<ties.length)(hr:∀x y,x<n->y<n->(fj (S.map (lG ties)) id x=fj (S.map (lG ties)) id y↔fj (mr ties) id x=fj (mr ties) id y)){j:Nat}(hj:j≤ties.length):((od ties).drop j).countP (Dq ties)≤((od ties).drop j).countP fun k=>decide (k∈S):=by
 have h1:=sL T j hj
 have h2:=sL T ties.length (Nat.le_refl _)
 rw[List.take_of_length_le (by rw[gT];exact Nat.le_refl _),List.take_of_length_le (by rw[ke];exact Nat.le_refl _)] at h2
 have h3:(od ties).countP (Dq ties)=((od ties).take j).countP (Dq ties)+((od ties).drop j).countP (Dq ties):=by
  rw[←List.countP_append,List.take_append_drop]
 let D:=(((od ties).drop j).filter fun k=>decide (k∈S)).map (lG ties)
 have prl:∀k,k∈od ties->(lG ties k).1<n/\(lG ties k).2<n:=fun k hk=>by
  have et:ties[k]?=some (ties[k]'(od_mem.mp hk)):=List.getElem?_eq_getElem _
  rw[ko et];exact T.lt _ (List.getElem_mem _)
 have hD:∀p∈D,p.1<n/\p.2<n:=fun p hp=>by
  obtain⟨k,hk,rfl⟩:=List.mem_map.mp hp
  exact prl k (List.mem_of_mem_drop (List.mem_filter.mp hk).1)
 have h4:=AJ D (fj ((sR ties).take j) id) hD
 rw[←yX] at h4
 have h5:D.length=((od ties).drop j).countP fun k=>decide (k∈S):=by
  show ((((od ties).drop j).filter fun k=>decide (k∈S)).map (lG ties)).length=_
  rw[List.length_map,List.countP_eq_length_filter]
 have h6:pc n (fj ((sR ties).take j++D) id)=pc n (fj (sR ties) id):=Cp fun x y hx hy=>by
  constructor
  ·refine ou fun p hp=>?_
   rcases List.mem_append.mp hp with hp|hp
   ·exact fQ _ _ _ _ (List.take_subset _ _ hp)
   ·obtain⟨k,hk,rfl⟩:=List.mem_map.mp hp
    exact fQ _ _ _ _ (Au (List.mem_of_mem_drop (List.mem_filter.mp hk).1))
  ·intro h
   have h:=(hr x y hx hy).mpr (sR_rel.mp h)
   refine ou (fun p hp=>?_) h
   obtain⟨k,hk,rfl⟩:=List.mem_map.mp hp
   have hko:k∈od ties:=od_mem.mpr (hS k hk)
   rw[←List.take_append_drop j (od ties)] at hko
   rcases List.mem_append.mp hko with z|z
   ·refine fQ _ _ _ _ (List.mem_append_left _ ?_)
    show lG ties k∈((od ties).map (lG ties)).take j
    rw[←List.map_take]
    exact List.mem_map_of_mem z
   ·exact fQ _ _ _ _ (List.mem_append_right _ (List.mem_map_of_mem (List.mem_filter.mpr ⟨z,decide_eq_true hk⟩)))
 omega
theorem tR {w:Nat->Int}{a b:Nat->Bool}:∀(l:List Nat) (base:Int),0≤base->(∀k∈l,base≤w k)->l.Pairwise (fun i j=>w i≤w j)->(∀j,(l.drop j).countP a≤(l.drop j).countP b)->((l.filter a).map w).sum+base * (((l.countP b:Nat):Int) - ((l.countP a:Nat):Int))≤((l.filter b).map w).sum
 |[],base,_,_,_,_=>by simp
 |k::l,base,h0,hb,hp,hc=>by
  have hk:=hb k List.mem_cons_self
  rw[List.pairwise_cons] at hp
  have ih:=tR l (w k) (by omega) hp.1 hp.2 fun j=>hc (j+1)
  have c0:=hc 0
  rw[List.drop_zero] at c0
  have c1:=hc 1
  rw[List.drop_one,List.tail_cons] at c1
  rw[List.countP_cons,List.countP_cons] at c0
  rw[List.countP_cons,List.countP_cons]
  generalize l.countP a=A at ih c0 c1 ⊢
  generalize l.countP b=B at ih c0 c1 ⊢
  have mul:∀{d:Int},0≤d->base * d≤w k * d:=fun {d} hd=>Int.mul_le_mul_of_nonneg_right hk hd
  have e1:∀p:Nat->Bool,(((k::l).filter p).map w).sum=(if p k=true then w k else 0)+((l.filter p).map w).sum:=fun p=>by
   cases hp:p k with
   |true=>rw[List.filter_cons_of_pos hp,List.map_cons,List.sum_cons,if_pos rfl]
   |false=>rw[List.filter_cons_of_neg (by rw[hp];exact Bool.false_ne_true),if_neg Bool.false_ne_true,Int.zero_add]
  rw[e1,e1]
  have hw:∀d:Int,w k * (d+1)=w k * d+w k:=fun d=>by rw[Int.mul_add,Int.mul_one]
  cases ha:a k<;>cases hb':b k<;>rw[ha,hb'] at c0<;>simp only[Bool.false_eq_true,if_false,if_true,Nat.add_zero,Int.natCast_add,Int.natCast_one,Int.zero_add] at c0 ⊢
  ·have:=mul (d:=(B:Int) - A) (by omega);omega
  ·have:=mul (d:=(B:Int)+1 - A) (by omega)
   have:=hw ((B:Int) - A)
   rw[show (B:Int) - A+1=(B:Int)+1 - A by omega] at this
   omega
  ·have:=mul (d:=(B:Int) - (A+1)) (by omega)
   have:=hw ((B:Int) - (A+1))
   rw[show (B:Int) - (A+1)+1=(B:Int) - A by omega] at this
   omega
  ·have:=mul (d:=(B:Int)+1 - (A+1)) (by omega)
   rw[show (B:Int)+1 - (A+1)=(B:Int) - A by omega] at this ⊢
   omega
theorem vh {l m:List Nat}(w:Nat->Int)(h:l.Perm m):(l.map w).sum=(m.map w).sum:=by
 induction h with
 |nil=>rfl
 |cons x _ ih=>rw[List.map_cons,List.map_cons,List.sum_cons,List.sum_cons,ih]
 |swap x y l=>simp only[List.map_cons,List.sum_cons];omega
 |trans _ _ a b=>exact a.trans b
theorem Cl (T:Ties n ties){S:List Nat}(nd:S.Nodup)(hS:∀k∈S,k<ties.length)(hr:∀x y,x<n->y<n->(fj (S.map (lG ties)) id x=fj (S.map (lG ties)) id y↔fj (mr ties) id x=fj (mr ties) id y)):lw ties (jk ties)≤lw ties S:=by
 have wn:∀k∈od ties,0≤wt ties k:=fun k hk=>by
  have et:ties[k]?=some (ties[k]'(od_mem.mp hk)):=List.getElem?_eq_getElem _
  rw[p7 et];exact T.nn _ (List.getElem_mem _)
 have up':(od ties).Pairwise fun i j=>wt ties i≤wt ties j:=od_up.imp fun h=>by unfold I3 at h;omega
 have:=tR (w:=wt ties) (a:=Dq ties) (b:=fun k=>decide (k∈S)) (od ties) 0 (Int.le_refl _) wn up' fun j=>by
  by_cases hj:j≤ties.length
  ·exact Gv T hS hr hj
  ·rw[List.drop_eq_nil_of_le (by rw[ke];omega)];exact Nat.le_refl _
 rw[Int.zero_mul,Int.add_zero] at this
 have p1:((od ties).filter (Dq ties)).Perm (jk ties):=(List.perm_ext_iff_of_nodup (od_nodup.filter _) (List.nodup_range.filter _)).mpr fun k=>by
  rw[List.mem_filter]
  unfold Dq
  rw[decide_eq_true_iff,od_mem]
  exact⟨fun h=>h.2,fun h=>⟨pK k h,h⟩⟩
 have p2:((od ties).filter fun k=>decide (k∈S)).Perm S:=(List.perm_ext_iff_of_nodup (od_nodup.filter _) nd).mpr fun k=>by
  rw[List.mem_filter,decide_eq_true_iff,od_mem]
  exact⟨fun h=>h.2,fun h=>⟨hS k h,h⟩⟩
 rw[vh _ p1,vh _ p2] at this
 exact this
end Dp
end
section
namespace K60
open PySem PySem.Spec L2 Fo Dp Pt
variable {n:Nat}{ties:List Tl}
noncomputable def lS (ties:List Tl)(k:Nat):Tl:=(ties[k]?).getD (0,0,0)
theorem sT {k:Nat}{t:Tl}(h:ties[k]?=some t):lS ties k=t:=by unfold lS;rw[h];rfl
noncomputable def jX:Nat->List (List Nat)
 |0=>[[]]
 |i+1=>jX i++(jX i).map (·++[i])
theorem tW:∀i,(jX i).length=2 ^ i
 |0=>rfl
 |i+1=>by rw[jX,List.length_append,List.length_map,tW i,Nat.pow_succ];omega
theorem oA:∀i,∀S∈jX i,S.Nodup/\(∀k∈S,k<i)/\S.length≤i
 |0=>fun S h=>by rw[List.mem_singleton.mp h];exact⟨by simp,fun _ h=>(by cases h),Nat.le_refl _⟩
 |i+1=>fun S h=>by
  rw[jX] at h
  rcases List.mem_append.mp h with h|h
  ·obtain⟨a,b,c⟩:=oA i S h
   exact⟨a,fun k hk=>by have:=b k hk;omega,by omega⟩
  ·obtain⟨S',h',rfl⟩:=List.mem_map.mp h
   obtain⟨a,b,c⟩:=oA i S' h'
   refine⟨?_,fun k hk=>?_,by rw[List.length_append,List.length_singleton];omega⟩
   ·rw[List.nodup_append]
    refine⟨a,by simp,fun u hu v hv e=>?_⟩
    have:=b u hu
    have:v=i:=by simpa using hv
    omega
   ·rcases List.mem_append.mp hk with hk|hk
    ·have:=b k hk;omega
    ·rw[List.mem_singleton.mp hk];exact Nat.lt_succ_self i
theorem wq {i:Nat}(h:i≤7):(jX i).length≤128:=by
 rw[tW]
 exact Nat.pow_le_pow_right (by omega) h
noncomputable def kY (ties:List Tl)(S:List Nat):PV:=.tup (S.map fun k=>ij (lS ties k))
noncomputable def jQ (ties:List Tl)(i:Nat):List PV:=(jX i).map (kY ties)
theorem zi (i:Nat):(jQ ties i).length=(jX i).length:=List.length_map ..
theorem yP (l:List Tl):lj (gN 0) gj bR [none] (l.map ij)=some (jY (l.map fun t=>(t.1,t.2.1))):=by
 have:=sx (t:=gN 0) (f:=bR) (ρ:=[none]) (fun p=>match p with|.tup [a,b,_]=>.tup [a,b]|_=>.non) (its:=l.map ij) fun p hp=>by
  obtain⟨t,_,rfl⟩:=List.mem_map.mp hp
  simp![ij,bR,if_neg D0,DG]
 rw[this]
 unfold jY
 rw[List.map_map,List.map_map];rfl
theorem zO (l:List Tl):lj (gN 0) gj cM [none] (l.map ij)=some ((l.map fun t=>t.2.2).map PV.int):=by
 have a2:∀a b c:PV,L2.eH [a,b,c] 2=some c:=fun a b c=>rfl
 have:=sx (t:=gN 0) (f:=cM) (ρ:=[none]) (fun p=>match p with|.tup [_,_,c]=>c|_=>.non) (its:=l.map ij) fun p hp=>by
  obtain⟨t,_,rfl⟩:=List.mem_map.mp hp
  simp![ij,cM,a2]
 rw[this,List.map_map,List.map_map];rfl
theorem Mm (i:Nat){t:Tl}(et:ties[i]?=some t)(h7:i≤7):lj (gN 0) gj cI [none,some (.val (ij t))] (jQ ties i)=some (((jX i).map (·++[i])).map (kY ties)):=by
 have:=sx (t:=gN 0) (f:=cI) (ρ:=[none,some (.val (ij t))]) (fun p=>match p with|.tup q=>.tup (q++[ij t])|_=>.non) (its:=jQ ties i) fun p hp=>by
  obtain⟨S,hS,rfl⟩:=List.mem_map.mp hp
  have hl:=(oA i S hS).2.2
  have l1:S.length≤99999:=by omega
  simp![kY,cI,List.length_map,List.length_cons,List.length_nil,if_pos l1]
 rw[this]
 unfold jQ
 rw[List.map_map,List.map_map]
 refine congrArg some (List.map_congr_left fun S _=>?_)
 show PV.tup (S.map (fun k=>ij (lS ties k))++[ij t])=PV.tup ((S++[i]).map fun k=>ij (lS ties k))
 rw[List.map_append,List.map_cons,List.map_nil,sT et]
theorem tY {s0 s1 s2 s3 z6 z7:Option Sl}(h7:ties.length≤7):∀(ts pre:List Tl) (z5:Option Sl),ties=pre++ts->∃w5,aZ (gN 5) cQ (ts.map ij) [s0,s1,s2,s3,some (.val (.lst (jQ ties pre.length))),z5,z6,z7]=.nx [s0,s1,s2,s3,some (.val (.lst (jQ ties ties.length))),w5,z6,z7]
 |[],pre,z5,e=>⟨z5,by rw[List.map_nil,iY];rw[List.append_nil] at e;rw[←e]⟩
 |t::ts,pre,z5,e=>by
  have et:ties[pre.length]?=some t:=by rw[e,List.getElem?_append_right (Nat.le_refl _),Nat.sub_self];rfl
  have hl:=(List.getElem?_eq_some_iff.mp et).1
  have pl:(pre++[t]).length=pre.length+1:=by rw[List.length_append];rfl
  obtain⟨w5,e2⟩:=tY (s0:=s0) (s1:=s1) (s2:=s2) (s3:=s3) (z6:=z6) (z7:=z7) h7 ts (pre++[t]) (some (.val (ij t))) (by rw[e,List.append_assoc];rfl)
  rw[pl] at e2
  refine⟨w5,?_⟩
  have g:=Mm pre.length et (by omega)
  have s1':=wq (i:=pre.length) (by omega)
  have l1:(jX pre.length).length<1000:=by omega
  have l2:(jX pre.length).length+(jX pre.length).length≤100000:=by omega
  have ea:jQ ties pre.length++((jX pre.length).map (·++[pre.length])).map (kY ties)=jQ ties (pre.length+1):=by
   unfold jQ
   rw[jX,List.map_append]
  rw[List.map_cons,eV,←e2]
  simp![cQ,zi,if_pos l1,g,List.length_map,if_pos l2,ea]
theorem lA:∀a b:List (List Nat),fK (aV a) (aV b)=decide (a=b)
 |[],[]=>by show fK [] []=_;rw[km];rfl
 |[],b::bs=>by rw[kz (by simp[aV])];rfl
 |a::as,[]=>by rw[kz (by simp[aV])];rfl
 |a::as,b::bs=>by
  show fK (PV.tup (af a)::aV as) (PV.tup (af b)::aV bs)=_
  rw[kJ,iX,iy,lA as bs,Bool.eq_iff_iff,Bool.and_eq_true,decide_eq_true_iff,decide_eq_true_iff,decide_eq_true_iff,List.cons.injEq]
theorem C8 {c c':Nat->Nat}(h:b7 n c=b7 n c'){x y:Nat}(hx:x<n)(hy:y<n):c x=c y↔c' x=c' y:=by
 have h1:=va (c:=c) (y:=y) hx
 have h2:=va (c:=c') (y:=y) hx
 rw[h,h2,decide_eq_true hy,Bool.and_true,Bool.and_true] at h1
 exact (decide_eq_decide.mp h1).symm
noncomputable abbrev SS (n:Nat)(ties:List Tl)(s4 s5 z6 z7:Option Sl):aj:=[some (.val (.int (n:Nat))),some (.val (dc ties)),some (.val (.int (lw ties (jk ties)))),some (.val (.lst (aV (b7 n (fj (mr ties) id))))),s4,s5,z6,z7]
theorem CV (T:Ties n ties)(h7:ties.length≤7){S:List Nat}(hS:S∈jX ties.length){s4 s5 z7:Option Sl}:∃w7,aY (SS n ties s4 s5 (some (.val (kY ties S))) z7)=.nx (SS n ties s4 s5 (some (.val (kY ties S))) w7):=by
 obtain⟨nd,hlt,hl⟩:=oA _ S hS
 have eS:S.map (fun k=>ij (lS ties k))=(S.map (lS ties)).map ij:=by rw[List.map_map];rfl
 have e1:=yP (S.map (lS ties))
 have e4:=zO (S.map (lS ties))
 have ep:(S.map (lS ties)).map (fun t=>(t.1,t.2.1))=S.map (lG ties):=by
  rw[List.map_map]
  refine List.map_congr_left fun k hk=>?_
  have et:ties[k]?=some (ties[k]'(hlt k hk)):=List.getElem?_eq_getElem _
  show ((lS ties k).1,(lS ties k).2.1)=_
  rw[sT et,ko et]
 have ew:(S.map (lS ties)).map (fun t=>t.2.2)=S.map (wt ties):=by
  rw[List.map_map]
  refine List.map_congr_left fun k hk=>?_
  have et:ties[k]?=some (ties[k]'(hlt k hk)):=List.getElem?_eq_getElem _
  show (lS ties k).2.2=_
  rw[sT et,p7 et]
 rw[ep] at e1
 rw[ew] at e4
 have hp:∀p∈S.map (lG ties),p.1<n/\p.2<n:=fun p hp=>by
  obtain⟨k,hk,rfl⟩:=List.mem_map.mp hp
  have et:ties[k]?=some (ties[k]'(hlt k hk)):=List.getElem?_eq_getElem _
  rw[ko et];exact T.lt _ (List.getElem_mem _)
 have elb:bp [.int n,.lst (jY (S.map (lG ties)))]=some (.n (aV (b7 n (fj (S.map (lG ties)) id)))):=rA T.h2 hp
 have io:dG ((S.map (wt ties)).map PV.int)=some (S.map (wt ties)):=jG _
 have l1:S.length<1000:=by omega
 have dd:∀ls:List (List Nat),decide (cR (aV ls)≤49)=true:=fun ls=>decide_eq_true (by have:=wL ls;omega)
 refine⟨some (.val (.lst (aV (b7 n (fj (S.map (lG ties)) id))))),?_⟩
 by_cases q:b7 n (fj (S.map (lG ties)) id)=b7 n (fj (mr ties) id)
 ·have hle:=Cl T nd hlt fun x y hx hy=>C8 q hx hy
  have ds:decide ((S.map (wt ties)).sum<lw ties (jk ties))=false:=decide_eq_false (by show ¬lw ties S<_;omega)
  simp![aY,SS,kY,eS,cq,aJ,cD,aK,iT,aH,aQ,bA,bD,aI,fG,cA,cw,fI,fE,fD,fH,cx,aN,cy,aL,fJ,cz,aO,aM,bE,bK,bh,bJ,aF,iV,cB,bB,bG,cv,aG,bH,dP,aU,fA,cs,cr,aP,cu,bC,bI,bF,List.length_map,if_pos l1,e1,elb,lP,dd,lA,decide_eq_true q,e4,io,ds]
 ·simp![aY,SS,kY,eS,cq,aJ,cD,aK,iT,aH,aQ,bA,bD,aI,fG,cA,cw,fI,fE,fD,fH,cx,aN,cy,aL,fJ,cz,aO,aM,bE,bK,bh,bJ,aF,iV,cB,bB,bG,cv,aG,bH,dP,aU,fA,cs,cr,aP,cu,bC,bI,bF,List.length_map,if_pos l1,e1,elb,lP,dd,lA,decide_eq_false q]
theorem ua (T:Ties n ties)(h7:ties.length≤7){s4 s5:Option Sl}:∀(Ss:List (List Nat)) (z6 z7:Option Sl),(∀S∈Ss,S∈jX ties.length)->∃w6 w7,aZ (gN 6) aY (Ss.map (kY ties)) (SS n ties s4 s5 z6 z7)=.nx (SS n ties s4 s5 w6 w7)
 |[],z6,z7,_=>⟨z6,z7,by rw[List.map_nil,iY]⟩
 |S::Ss,z6,z7,h=>by
  obtain⟨v7,e1⟩:=CV T h7 (h S List.mem_cons_self) (s4:=s4) (s5:=s5) (z7:=z7)
  obtain⟨w6,w7,e⟩:=ua T h7 (s4:=s4) (s5:=s5) Ss (some (.val (kY ties S))) v7 fun q hq=>h q (List.mem_cons_of_mem _ hq)
  refine⟨w6,w7,?_⟩
  rw[List.map_cons,eV,←e]
  simp![SS] at e1 ⊢
  rw[e1]
  simp![true_and]
theorem GD (T:Ties n ties)(h7:ties.length≤7):cO [.int (n:Nat),dc ties,.int (lw ties (jk ties))]=some (.v (.bl true)):=by
 have hlt:=T.lt
 have e1:=yP ties
 have ep:ties.map (fun t=>(t.1,t.2.1))=mr ties:=rfl
 rw[ep] at e1
 have hp:∀p∈mr ties,p.1<n/\p.2<n:=fun p hp=>by
  obtain⟨t,ht,rfl⟩:=List.mem_map.mp hp
  exact T.lt t ht
 have elb:bp [.int n,.lst (jY (mr ties))]=some (.n (aV (b7 n (fj (mr ties) id)))):=rA T.h2 hp
 obtain⟨w5,e2⟩:=tY (s0:=some (.val (.int (n:Nat)))) (s1:=some (.val (.tup (ties.map ij)))) (s2:=some (.val (.int (lw ties (jk ties))))) (s3:=some (.val (.lst (aV (b7 n (fj (mr ties) id)))))) (z6:=none) (z7:=none) h7 ties [] none rfl
 have e2:aZ (gN 5) cQ (ties.map ij) [some (.val (.int (n:Nat))),some (.val (.tup (ties.map ij))),some (.val (.int (lw ties (jk ties)))),some (.val (.lst (aV (b7 n (fj (mr ties) id))))),some (.val (.lst [.tup []])),none,none,none]=_:=e2
 obtain⟨w6,w7,e3⟩:=ua T h7 (s4:=some (.val (.lst (jQ ties ties.length)))) (s5:=w5) (jX ties.length) none none fun _ h=>h
 simp only[SS] at e3
 have e3:aZ (gN 6) aY (jQ ties ties.length) [some (.val (.int (n:Nat))),some (.val (.tup (ties.map ij))),some (.val (.int (lw ties (jk ties)))),some (.val (.lst (aV (b7 n (fj (mr ties) id))))),some (.val (.lst (jQ ties ties.length))),w5,none,none]=_:=e3
 unfold dc
 simp![kP,fL,cq,aJ,cD,aK,iT,aH,aQ,bA,bD,aI,fG,cA,cw,fI,fE,fD,fH,cx,aN,cy,aL,fJ,cz,aO,aM,bE,bK,bh,bJ,aF,iV,cB,bB,bG,cv,aG,bH,dP,aU,fA,cs,cr,aP,cu,bC,bI,bF,List.length_map,if_pos (show ties.length<1000 by omega),e1,elb,e2,e3]
noncomputable abbrev TS (s0:Option Sl)(a n:Nat)(s3:Option Sl)(h:Nat)(row:List (Nat×Nat))(hs:List Nat)(ts:List Tl)(z8 z9:Option Sl):aj:=
 [s0,some (.val (.int (a:Nat))),some (.val (.int (n:Nat))),s3,some (.val (.int (h:Nat))),some (.val (.tup (jY row))),some (.val (.lst (af hs))),some (.own (ts.map ij)),z8,z9]
theorem DB {ns:List Int}{a h:Nat}(ha:a≤500)(hh:1≤h){row:List (Nat×Nat)}{hs:List Nat}(hhs:hs.length=3){k:Nat}(hk:k≤100){p:Nat×Nat}(ep:row[k]?=some p){ts:List Tl}(hl:ts.length≤100){s3 z9:Option Sl}:∃w z9',0≤w/\eZ (TS (some (.val (.src (iL ns)))) a n s3 h row hs ts (some (.val (.int (k:Nat)))) z9)=.nx (TS (some (.val (.src (iL ns)))) a n s3 h row hs (ts++[(p.1,p.2,w)]) (some (.val (.int (k:Nat)))) z9'):=by
 obtain⟨c,ec⟩:=oE ns ((a:Int)+21+(k:Int) / 10) (by omega) (by omega)
 obtain⟨xs,hx,ex⟩:=ju c 10 (by decide) (by decide)
 have hx:xs.length=10:=hx
 have i1:L2.eH (af xs) ((k:Int) % 10)=some (.int (up xs (k % 10):Nat)):=by
  rw[show (k:Int) % 10=((k % 10:Nat):Int) by omega];exact am (by omega)
 have i0:L2.eH (af hs) 0=some (.int (up hs 0:Nat)):=am (x:=0) (by omega)
 obtain⟨d,hd,ed⟩:∃d:Nat,1≤d/\L2.eH [PV.int 1,.int 3,.int 12,.int (h:Nat)] ((up hs 0:Int) % 4)=some (.int (d:Nat)):=by
  have:up hs 0 % 4<4:=Nat.mod_lt _ (by decide)
  rw[show (up hs 0:Int) % 4=((up hs 0 % 4:Nat):Int) by omega]
  generalize up hs 0 % 4=q at this
  rcases (by omega:q=0\/q=1\/q=2\/q=3) with rfl|rfl|rfl|rfl
  ·exact⟨1,by omega,rfl⟩
  ·exact⟨3,by omega,rfl⟩
  ·exact⟨12,by omega,rfl⟩
  ·exact⟨h,hh,rfl⟩
 have pd:(0:Int)<(d:Int):=by omega
 have l1:(ts.map ij).length≤100000:=by rw[List.length_map];omega
 refine⟨(up xs (k % 10):Int) / 3 % (d:Int),some (.val (.lst (af xs))),Int.emod_nonneg _ (by omega),?_⟩
 have ea:ts.map ij++[.tup [.int (p.1:Nat),.int (p.2:Nat),.int ((up xs (k % 10):Int) / 3 % (d:Int))]]=(ts++[(p.1,p.2,(up xs (k % 10):Int) / 3 % (d:Int))]).map ij:=by rw[List.map_append];rfl
 simp![eZ,TS,cq,aJ,cD,aK,iT,aH,aQ,bA,bD,aI,fG,cA,cw,fI,fE,fD,fH,cx,aN,cy,aL,fJ,cz,aO,aM,bE,bK,bh,bJ,aF,iV,cB,bB,bG,cv,aG,bH,dP,aU,fA,cs,cr,aP,cu,bC,bI,bF,ec,ex,DL ep,i1,i0,ed,pd,List.cons_append,List.nil_append,if_pos l1,ea]
theorem u6 {ns:List Int}{a h:Nat}(ha:a≤500)(hh:1≤h){row:List (Nat×Nat)}(hr:row.length≤60){hs:List Nat}(hhs:hs.length=3){s3:Option Sl}:∀(ps pre:List (Nat×Nat)) (ts:List Tl) (z8 z9:Option Sl),row=pre++ps->mr ts=pre->(∀t∈ts,0≤t.2.2) →
  ∃ts' w8 w9,mr ts'=row/\(∀t∈ts',0≤t.2.2)/\aZ (gN 8) eZ (af (List.range' pre.length ps.length)) (TS (some (.val (.src (iL ns)))) a n s3 h row hs ts z8 z9)=.nx (TS (some (.val (.src (iL ns)))) a n s3 h row hs ts' w8 w9)
 |[],pre,ts,z8,z9,e,et,hw=>⟨ts,z8,z9,by rw[et,e,List.append_nil],hw,by rw[List.length_nil,List.range'_zero,show af []=[] from rfl,iY]⟩
 |p::ps,pre,ts,z8,z9,e,et,hw=>by
  have ep:row[pre.length]?=some p:=by rw[e,List.getElem?_append_right (Nat.le_refl _),Nat.sub_self];rfl
  have hpl:=(List.getElem?_eq_some_iff.mp ep).1
  have htl:ts.length=pre.length:=by rw[←et];exact (List.length_map ..).symm
  obtain⟨w,v9,hw0,e1⟩:=DB (n:=n) (ns:=ns) (s3:=s3) (z9:=z9) ha hh hhs (show pre.length≤100 by omega) ep (ts:=ts) (by omega)
  have pl:(pre++[p]).length=pre.length+1:=by rw[List.length_append];rfl
  obtain⟨ts',w8,w9,f1,f2,e2⟩:=u6 ha hh hr hhs (ns:=ns) (s3:=s3) ps (pre++[p]) (ts++[(p.1,p.2,w)]) (some (.val (.int (pre.length:Nat)))) v9 (by rw[e,List.append_assoc];rfl) (by unfold mr at et ⊢;rw[List.map_append,et];rfl) (fun t ht=>by
   rcases List.mem_append.mp ht with ht|ht
   ·exact hw t ht
   ·rw[List.mem_singleton.mp ht];exact hw0)
  refine⟨ts',w8,w9,f1,f2,?_⟩
  rw[pl] at e2
  rw[List.length_cons,List.range'_succ,dZ,eV,←e2]
  simp![TS] at e1 ⊢
  rw[e1]
  simp![true_and]
theorem B8 (ns:List Int){a n m h:Nat}(h1:1≤n)(h2:n≤40)(ha:a≤400)(hm:m≤60)(hh:1≤h):∃ties:List Tl,Ties n ties/\ties.length≤m/\dF [.src (iL ns),.int (a:Nat),.int (n:Nat),.int (m:Nat),.int (h:Nat)]=some (.v (dc ties)):=by
 obtain⟨row,r1,r2,er⟩:=B0 ns (at':=a) (n:=n) (m:=m) h1 h2 (by omega) hm
 obtain⟨c,ec⟩:=oE ns ((a:Int)+20) (by omega) (by omega)
 obtain⟨hs,hhs,eh⟩:=ju c 3 (by decide) (by decide)
 have hhs:hs.length=3:=hhs
 obtain⟨ts,w8,w9,f1,f2,e⟩:=u6 (n:=n) (ns:=ns) (s3:=some (.val (.int (m:Nat)))) (show a≤500 by omega) hh (show row.length≤60 by omega) hhs row [] [] none none rfl rfl (fun _ h=>by cases h)
 rw[List.length_nil,←List.range_eq_range'] at e
 have e':aZ (gN 8) eZ (af (List.range row.length)) [some (.val (.src (iL ns))),some (.val (.int (a:Nat))),some (.val (.int (n:Nat))),some (.val (.int (m:Nat))),some (.val (.int (h:Nat))),some (.val (.tup (jY row))),some (.val (.lst (af hs))),some (.own []),none,none]=_:=e
 have hl:ts.length=row.length:=by rw[←f1];exact (List.length_map ..).symm
 refine⟨ts,⟨h1,h2,fun t ht=>?_,f2,by omega⟩,by omega,?_⟩
 ·have:(t.1,t.2.1)∈row:=by rw[←f1];exact List.mem_map_of_mem (f:=fun t:Tl=>(t.1,t.2.1)) ht
  exact r1 _ this
 ·simp![qH,jf,cq,aJ,cD,aK,iT,aH,aQ,bA,bD,aI,fG,cA,cw,fI,fE,fD,fH,cx,aN,cy,aL,fJ,cz,aO,aM,bE,bK,bh,bJ,aF,iV,cB,bB,bG,cv,aG,bH,dP,aU,fA,cs,cr,aP,cu,bC,bI,bF,er,ec,eh,oi,K1 (show row.length≤100000 by omega),e',dc]
theorem Aa {ns:List Int}{k:Nat}(hk:k≤3){z2 z3 z4 z5 z6 z7:Option Sl}:∃(hs:List Nat) (w3 w4:Option Sl),hs.length=4/\lR [some (.val (.src (iL ns))),some (.val (.int (k:Nat))),z2,z3,z4,z5,z6,z7]=.nx [some (.val (.src (iL ns))),some (.val (.int (k:Nat))),some (.val (.lst (af hs))),w3,w4,z5,z6,z7]:=by
 obtain⟨c,ec⟩:=oE ns ((60:Int)+(k:Int)) (by omega) (by omega)
 obtain⟨hs,hh,eh⟩:=ju c 4 (by decide) (by decide)
 have hh:hs.length=4:=hh
 have i0:L2.eH (af hs) 0=some (.int (up hs 0:Nat)):=am (x:=0) (by omega)
 have i3:L2.eH (af hs) 3=some (.int (up hs 3:Nat)):=am (x:=3) (by omega)
 obtain⟨n,n1,n2,en⟩:=Ec (up hs 0)
 obtain⟨m,hm,em⟩:∃m:Nat,m≤60/\L2.eH [PV.int 30,.int 60] (if decide ((up hs 3:Int) % 4=1)=true then 1 else 0)=some (.int (m:Nat)):=by
  by_cases q:(up hs 3:Int) % 4=1
  ·exact⟨60,by omega,by rw[decide_eq_true q,if_pos rfl];rfl⟩
  ·exact⟨30,by omega,by rw[decide_eq_false q,if_neg Bool.false_ne_true];rfl⟩
 obtain⟨ties,T,_,et⟩:=B8 ns (a:=k) (m:=m) (h:=999999999) n1 n2 (by omega) hm (by omega)
 have et:dF [.src (iL ns),.int (k:Nat),.int (n:Nat),.int (m:Nat),.int 999999999]=some (.v (dc ties)):=et
 refine⟨hs,some (.val (.int (n:Nat))),some (.val (.int (m:Nat))),hh,?_⟩
 simp![lR,cq,aJ,cD,aK,iT,aH,aQ,bA,bD,aI,fG,cA,cw,fI,fE,fD,fH,cx,aN,cy,aL,fJ,cz,aO,aM,bE,bK,bh,bJ,aF,iV,cB,bB,bG,cv,aG,bH,dP,aU,fA,cs,cr,aP,cu,bC,bI,bF,ec,eh,i0,i3,en,em,et,t4 T]
theorem ue {ns:List Int}:∀(ks:List Nat) (z1 z2 z3 z4 z5 z6 z7:Option Sl),(∀k∈ks,k≤3)->(ks≠[]\/∃hs:List Nat,hs.length=4/\z2=some (.val (.lst (af hs))))->∃(hs:List Nat) (w1 w3 w4:Option Sl),hs.length=4/\aZ (gN 1) lR (af ks) [some (.val (.src (iL ns))),z1,z2,z3,z4,z5,z6,z7]=.nx [some (.val (.src (iL ns))),w1,some (.val (.lst (af hs))),w3,w4,z5,z6,z7]
 |[],z1,z2,z3,z4,z5,z6,z7,_,h=>by
  obtain⟨hs,hh,rfl⟩:=h.resolve_left fun z=>z rfl
  exact⟨hs,z1,z3,z4,hh,by rw[show af []=[] from rfl,iY]⟩
 |k::ks,z1,z2,z3,z4,z5,z6,z7,hk,_=>by
  obtain⟨hs,v3,v4,hh,e1⟩:=Aa (ns:=ns) (hk k List.mem_cons_self) (z2:=z2) (z3:=z3) (z4:=z4) (z5:=z5) (z6:=z6) (z7:=z7)
  obtain⟨hs',w1,w3,w4,hh',e⟩:=ue (ns:=ns) ks (some (.val (.int (k:Nat)))) (some (.val (.lst (af hs)))) v3 v4 z5 z6 z7 (fun q hq=>hk q (List.mem_cons_of_mem _ hq)) (.inr ⟨hs,hh,rfl⟩)
  refine⟨hs',w1,w3,w4,hh',?_⟩
  rw[dZ,eV,←e]
  simp![true_and]
  rw[e1]
  simp![true_and]
theorem By:∀ns:List Int,ns.length≤63->yt [.src (ns.map PV.int)]=some (.v (.bl true)):=fun ns hn=>by
 obtain⟨j,j3,j1,ej⟩:∃j:Nat,j≤3/\1≤j/\(if (if (3:Int)<((iL ns).length:Int) then (3:Int) else ((iL ns).length:Int)) > 1 then (if (3:Int)<((iL ns).length:Int) then (3:Int) else ((iL ns).length:Int)) else 1)=(j:Int):=by
  refine⟨(if (if (3:Int)<((iL ns).length:Int) then (3:Int) else ((iL ns).length:Int)) > 1 then (if (3:Int)<((iL ns).length:Int) then (3:Int) else ((iL ns).length:Int)) else 1).toNat,?_,?_,?_⟩<;>split<;>split<;>omega
 obtain⟨hs,w1,w3,w4,hh,e⟩:=ue (ns:=ns) (List.range j) none none none none none none none (fun k hk=>by have:=List.mem_range.mp hk;omega) (.inl fun z=>by
  have:=congrArg List.length z
  rw[List.length_range] at this
  simp at this
  omega)
 have i1:L2.eH (af hs) 1=some (.int (up hs 1:Nat)):=am (x:=1) (by omega)
 have ef:(1:Int)+(up hs 1:Int) % 5=((1+up hs 1 % 5:Nat):Int):=by omega
 have hf:1+up hs 1 % 5≤40:=by omega
 obtain⟨ties,T,h7,et⟩:=B8 ns (a:=3) (n:=1+up hs 1 % 5) (m:=7) (h:=20) (by omega) hf (by omega) (by omega) (by omega)
 have et:dF [.src (iL ns),.int 3,.int ((1+up hs 1 % 5:Nat):Int),.int 7,.int 20]=some (.v (dc ties)):=et
 have a0:∀a b:PV,L2.eH [a,b] 0=some a:=fun a b=>rfl
 show yt [.src (iL ns)]=_
 simp![Er,tm,cq,aJ,cD,aK,iT,aH,aQ,bA,bD,aI,fG,cA,cw,fI,fE,fD,fH,cx,aN,cy,aL,fJ,cz,aO,aM,bE,bK,bh,bJ,aF,iV,cB,bB,bG,cv,aG,bH,dP,aU,fA,cs,cr,aP,cu,bC,bI,bF,ej,K1 (show j≤100000 by omega),e,i1,ef,et,yQ T,a0,t4 T,GD T h7]
end K60
end
section
namespace K60
open PySem L2 Dp
@[elab_as_elim] theorem nG {P:List Value->Prop}{us:List Value}(h:us.length=1)(k:∀a,P [a]):P us:=by
 obtain _|⟨_,us⟩:=us
 ·cases h
 obtain _|⟨_,us⟩:=us
 ·exact k _
 ·simp at h
@[elab_as_elim] theorem jD {P:List Value->Prop}{us:List Value}(h:us.length=2)(k:∀a b,P [a,b]):P us:=by
 obtain _|⟨_,us⟩:=us
 ·cases h
 obtain _|⟨_,us⟩:=us
 ·cases h
 obtain _|⟨_,us⟩:=us
 ·exact k _ _
 ·simp at h
@[elab_as_elim] theorem v2 {P:List Value->Prop}{us:List Value}(h:us.length=3)(k:∀a b c,P [a,b,c]):P us:=by
 obtain _|⟨_,us⟩:=us
 ·cases h
 obtain _|⟨_,us⟩:=us
 ·cases h
 obtain _|⟨_,us⟩:=us
 ·cases h
 obtain _|⟨_,us⟩:=us
 ·exact k _ _ _
 ·simp at h
@[elab_as_elim] theorem HI {P:List Value->Prop}{us:List Value}(h:us.length=4)(k:∀a b c d,P [a,b,c,d]):P us:=by
 obtain _|⟨_,us⟩:=us
 ·cases h
 obtain _|⟨_,us⟩:=us
 ·cases h
 obtain _|⟨_,us⟩:=us
 ·cases h
 obtain _|⟨_,us⟩:=us
 ·cases h
 obtain _|⟨_,us⟩:=us
 ·exact k _ _ _ _
 ·simp at h
@[elab_as_elim] theorem Mh {P:List Value->Prop}{us:List Value}(h:us.length=5)(k:∀a b c d e,P [a,b,c,d,e]):P us:=by
 obtain _|⟨_,us⟩:=us
 ·cases h
 obtain _|⟨_,us⟩:=us
 ·cases h
 obtain _|⟨_,us⟩:=us
 ·cases h
 obtain _|⟨_,us⟩:=us
 ·cases h
 obtain _|⟨_,us⟩:=us
 ·cases h
 obtain _|⟨_,us⟩:=us
 ·exact k _ _ _ _ _
 ·simp at h
theorem G9 {l:PySem.W.OpenLaw}{w:World}{K:PySem.W.Frag}{h:Heap}{mg:Str->Option Value}{fa f0 f1 f2 f3 f4 f5 f6 f7 f8 f9 f10 f11 f12 f13 f14 f15 f16 f17 f18 f19 f20 f21 f22 f23 f24 f25 f26 f27 f28 f29 f30 f31 f32 f33 f34 f35 f36 f37 f38 f39 f40:Addr}(X:K.In h)(G:h.Ns mainGlobals mg)(hfa:mg "law" = some (.ref fa))
  {od0 an0 od1 an1 od2 an2 od3 an3 od4 an4 od5 an5 od6 an6 od7 an7 od8 an8 od9 an9 od10 an10 od11 an11 od12 an12 od13 an13 od14 an14 od15 an15 od16 an16 od17 an17 od18 an18 od19 an19 od20 an20 od21 an21 od22 an22 od23 an23 od24 an24 od25 an25 od26 an26 od27 an27 od28 an28 od29 an29 od30 an30 od31 an31 od32 an32 od33 an33 od34 an34 od35 an35 od36 an36 od37 an37 od38 an38 od39 an39 od40 an40:Option Addr} {sl0 sl1 sl2 sl3 sl4 sl5 sl6 sl7 sl8 sl9 sl10 sl11 sl12 sl13 sl14 sl15 sl16 sl17 sl18 sl19 sl20 sl21 sl22 sl23 sl24 sl25 sl26 sl27 sl28 sl29 sl30 sl31 sl32 sl33 sl34 sl35 sl36 sl37 sl38 sl39 sl40:Array (Option Value)} {oc0 kV0 dc0 pm0 cd0 ct0 oc1 kV1 dc1 pm1 cd1 ct1 oc2 kV2 dc2 pm2 cd2 ct2 oc3 kV3 dc3 pm3 cd3 ct3 oc4 kV4 dc4 pm4 cd4 ct4 oc5 kV5 dc5 pm5 cd5 ct5 oc6 kV6 dc6 pm6 cd6 ct6 oc7 kV7 dc7 pm7 cd7 ct7 oc8 kV8 dc8 pm8 cd8 ct8 oc9 kV9 dc9 pm9 cd9 ct9 oc10 kV10 dc10 pm10 cd10 ct10 oc11 kV11 dc11 pm11 cd11 ct11 oc12 kV12 dc12 pm12 cd12 ct12 oc13 kV13 dc13 pm13 cd13 ct13 oc14 kV14 dc14 pm14 cd14 ct14 oc15 kV15 dc15 pm15 cd15 ct15 oc16 kV16 dc16 pm16 cd16 ct16 oc17 kV17 dc17 pm17 cd17 ct17 oc18 kV18 dc18 pm18 cd18 ct18 oc19 kV19 dc19 pm19 cd19 ct19 oc20 kV20 dc20 pm20 cd20 ct20 oc21 kV21 dc21 pm21 cd21 ct21 oc22 kV22 dc22 pm22 cd22 ct22 oc23 kV23 dc23 pm23 cd23 ct23 oc24 kV24 dc24 pm24 cd24 ct24 oc25 kV25 dc25 pm25 cd25 ct25 oc26 kV26 dc26 pm26 cd26 ct26 oc27 kV27 dc27 pm27 cd27 ct27 oc28 kV28 dc28 pm28 cd28 ct28 oc29 kV29 dc29 pm29 cd29 ct29 oc30 kV30 dc30 pm30 cd30 ct30 oc31 kV31 dc31 pm31 cd31 ct31 oc32 kV32 dc32 pm32 cd32 ct32 oc33 kV33 dc33 pm33 cd33 ct33 oc34 kV34 dc34 pm34 cd34 ct34 oc35 kV35 dc35 pm35 cd35 ct35 oc36 kV36 dc36 pm36 cd36 ct36 oc37 kV37 dc37 pm37 cd37 ct37 oc38 kV38 dc38 pm38 cd38 ct38 oc39 kV39 dc39 pm39 cd39 ct39 oc40 kV40 dc40 pm40 cd40 ct40:Value}
  (a0:PySem.W.nsIn K mainGlobals "_law_numbers" = some (some (.ref f0))) (l0:K.lookup f0=some ⟨oc0,od0,.func (PySem.W.fnOf "_law_numbers" "_law_numbers" (ao cc) (ak cc) (ae cc) .none kV0 dc0 pm0 an0 cd0 ct0),sl0⟩) (c0:PySem.W.codeIn K cd0 "_law_numbers" = true) (k0:PySem.W.keepIn K (.ref f0)=true)
  (a1:PySem.W.nsIn K mainGlobals "_law_cell" = some (some (.ref f1))) (l1:K.lookup f1=some ⟨oc1,od1,.func (PySem.W.fnOf "_law_cell" "_law_cell" (ao eN) (ak eN) (ae eN) .none kV1 dc1 pm1 an1 cd1 ct1),sl1⟩) (c1:PySem.W.codeIn K cd1 "_law_cell" = true) (k1:PySem.W.keepIn K (.ref f1)=true)
  (a2:PySem.W.nsIn K mainGlobals "_law_joins" = some (some (.ref f2))) (l2:K.lookup f2=some ⟨oc2,od2,.func (PySem.W.fnOf "_law_joins" "_law_joins" (ao dJ) (ak dJ) (ae dJ) .none kV2 dc2 pm2 an2 cd2 ct2),sl2⟩) (c2:PySem.W.codeIn K cd2 "_law_joins" = true) (k2:PySem.W.keepIn K (.ref f2)=true)
  (a3:PySem.W.nsIn K mainGlobals "_law_ties" = some (some (.ref f3))) (l3:K.lookup f3=some ⟨oc3,od3,.func (PySem.W.fnOf "_law_ties" "_law_ties" (ao eQ) (ak eQ) (ae eQ) .none kV3 dc3 pm3 an3 cd3 ct3),sl3⟩) (c3:PySem.W.codeIn K cd3 "_law_ties" = true) (k3:PySem.W.keepIn K (.ref f3)=true)
  (a4:PySem.W.nsIn K mainGlobals "_law_many" = some (some (.ref f4))) (l4:K.lookup f4=some ⟨oc4,od4,.func (PySem.W.fnOf "_law_many" "_law_many" (ao e8) (ak e8) (ae e8) .none kV4 dc4 pm4 an4 cd4 ct4),sl4⟩) (c4:PySem.W.codeIn K cd4 "_law_many" = true) (k4:PySem.W.keepIn K (.ref f4)=true)
  (a5:PySem.W.nsIn K mainGlobals "is_whole" = some (some (.ref f5))) (l5:K.lookup f5=some ⟨oc5,od5,.func (PySem.W.fnOf "is_whole" "is_whole" (ao gi) (ak gi) (ae gi) .none kV5 dc5 pm5 an5 cd5 ct5),sl5⟩) (c5:PySem.W.codeIn K cd5 "is_whole" = true) (k5:PySem.W.keepIn K (.ref f5)=true)
  (a6:PySem.W.nsIn K mainGlobals "is_many" = some (some (.ref f6))) (l6:K.lookup f6=some ⟨oc6,od6,.func (PySem.W.fnOf "is_many" "is_many" (ao gR) (ak gR) (ae gR) .none kV6 dc6 pm6 an6 cd6 ct6),sl6⟩) (c6:PySem.W.codeIn K cd6 "is_many" = true) (k6:PySem.W.keepIn K (.ref f6)=true)
  (a7:PySem.W.nsIn K mainGlobals "check_many" = some (some (.ref f7))) (l7:K.lookup f7=some ⟨oc7,od7,.func (PySem.W.fnOf "check_many" "check_many" (ao dI) (ak dI) (ae dI) .none kV7 dc7 pm7 an7 cd7 ct7),sl7⟩) (c7:PySem.W.codeIn K cd7 "check_many" = true) (k7:PySem.W.keepIn K (.ref f7)=true)
  (a8:PySem.W.nsIn K mainGlobals "check_row" = some (some (.ref f8))) (l8:K.lookup f8=some ⟨oc8,od8,.func (PySem.W.fnOf "check_row" "check_row" (ao eR) (ak eR) (ae eR) .none kV8 dc8 pm8 an8 cd8 ct8),sl8⟩) (c8:PySem.W.codeIn K cd8 "check_row" = true) (k8:PySem.W.keepIn K (.ref f8)=true)
  (a9:PySem.W.nsIn K mainGlobals "is_thing" = some (some (.ref f9))) (l9:K.lookup f9=some ⟨oc9,od9,.func (PySem.W.fnOf "is_thing" "is_thing" (ao gh) (ak gh) (ae gh) .none kV9 dc9 pm9 an9 cd9 ct9),sl9⟩) (c9:PySem.W.codeIn K cd9 "is_thing" = true) (k9:PySem.W.keepIn K (.ref f9)=true)
  (a10:PySem.W.nsIn K mainGlobals "is_pair" = some (some (.ref f10))) (l10:K.lookup f10=some ⟨oc10,od10,.func (PySem.W.fnOf "is_pair" "is_pair" (ao gW) (ak gW) (ae gW) .none kV10 dc10 pm10 an10 cd10 ct10),sl10⟩) (c10:PySem.W.codeIn K cd10 "is_pair" = true) (k10:PySem.W.keepIn K (.ref f10)=true)
  (a11:PySem.W.nsIn K mainGlobals "is_telling" = some (some (.ref f11))) (l11:K.lookup f11=some ⟨oc11,od11,.func (PySem.W.fnOf "is_telling" "is_telling" (ao dH) (ak dH) (ae dH) .none kV11 dc11 pm11 an11 cd11 ct11),sl11⟩) (c11:PySem.W.codeIn K cd11 "is_telling" = true) (k11:PySem.W.keepIn K (.ref f11)=true)
  (a12:PySem.W.nsIn K mainGlobals "is_tie" = some (some (.ref f12))) (l12:K.lookup f12=some ⟨oc12,od12,.func (PySem.W.fnOf "is_tie" "is_tie" (ao iO) (ak iO) (ae iO) .none kV12 dc12 pm12 an12 cd12 ct12),sl12⟩) (c12:PySem.W.codeIn K cd12 "is_tie" = true) (k12:PySem.W.keepIn K (.ref f12)=true)
  (a13:PySem.W.nsIn K mainGlobals "check_web" = some (some (.ref f13))) (l13:K.lookup f13=some ⟨oc13,od13,.func (PySem.W.fnOf "check_web" "check_web" (ao ff) (ak ff) (ae ff) .none kV13 dc13 pm13 an13 cd13 ct13),sl13⟩) (c13:PySem.W.codeIn K cd13 "check_web" = true) (k13:PySem.W.keepIn K (.ref f13)=true)
  (a14:PySem.W.nsIn K mainGlobals "is_way_of_joining" = some (some (.ref f14))) (l14:K.lookup f14=some ⟨oc14,od14,.func (PySem.W.fnOf "is_way_of_joining" "is_way_of_joining" (ao aS) (ak aS) (ae aS) .none kV14 dc14 pm14 an14 cd14 ct14),sl14⟩) (c14:PySem.W.codeIn K cd14 "is_way_of_joining" = true) (k14:PySem.W.keepIn K (.ref f14)=true)
  (a15:PySem.W.nsIn K mainGlobals "check_join" = some (some (.ref f15))) (l15:K.lookup f15=some ⟨oc15,od15,.func (PySem.W.fnOf "check_join" "check_join" (ao dL) (ak dL) (ae dL) .none kV15 dc15 pm15 an15 cd15 ct15),sl15⟩) (c15:PySem.W.codeIn K cd15 "check_join" = true) (k15:PySem.W.keepIn K (.ref f15)=true)
  (a16:PySem.W.nsIn K mainGlobals "find_none" = some (some (.ref f16))) (l16:K.lookup f16=some ⟨oc16,od16,.func (PySem.W.fnOf "find_none" "find_none" (ao cX) (ak cX) (ae cX) .none kV16 dc16 pm16 an16 cd16 ct16),sl16⟩) (c16:PySem.W.codeIn K cd16 "find_none" = true) (k16:PySem.W.keepIn K (.ref f16)=true)
  (a17:PySem.W.nsIn K mainGlobals "find_whole" = some (some (.ref f17))) (l17:K.lookup f17=some ⟨oc17,od17,.func (PySem.W.fnOf "find_whole" "find_whole" (ao b5) (ak b5) (ae b5) .none kV17 dc17 pm17 an17 cd17 ct17),sl17⟩) (c17:PySem.W.codeIn K cd17 "find_whole" = true) (k17:PySem.W.keepIn K (.ref f17)=true)
  (a18:PySem.W.nsIn K mainGlobals "find_halves" = some (some (.ref f18))) (l18:K.lookup f18=some ⟨oc18,od18,.func (PySem.W.fnOf "find_halves" "find_halves" (ao bP) (ak bP) (ae bP) .none kV18 dc18 pm18 an18 cd18 ct18),sl18⟩) (c18:PySem.W.codeIn K cd18 "find_halves" = true) (k18:PySem.W.keepIn K (.ref f18)=true)
  (a19:PySem.W.nsIn K mainGlobals "find_splits" = some (some (.ref f19))) (l19:K.lookup f19=some ⟨oc19,od19,.func (PySem.W.fnOf "find_splits" "find_splits" (ao bQ) (ak bQ) (ae bQ) .none kV19 dc19 pm19 an19 cd19 ct19),sl19⟩) (c19:PySem.W.codeIn K cd19 "find_splits" = true) (k19:PySem.W.keepIn K (.ref f19)=true)
  (a20:PySem.W.nsIn K mainGlobals "find_one" = some (some (.ref f20))) (l20:K.lookup f20=some ⟨oc20,od20,.func (PySem.W.fnOf "find_one" "find_one" (ao dN) (ak dN) (ae dN) .none kV20 dc20 pm20 an20 cd20 ct20),sl20⟩) (c20:PySem.W.codeIn K cd20 "find_one" = true) (k20:PySem.W.keepIn K (.ref f20)=true)
  (a21:PySem.W.nsIn K mainGlobals "is_short" = some (some (.ref f21))) (l21:K.lookup f21=some ⟨oc21,od21,.func (PySem.W.fnOf "is_short" "is_short" (ao gb) (ak gb) (ae gb) .none kV21 dc21 pm21 an21 cd21 ct21),sl21⟩) (c21:PySem.W.codeIn K cd21 "is_short" = true) (k21:PySem.W.keepIn K (.ref f21)=true)
  (a22:PySem.W.nsIn K mainGlobals "check_short" = some (some (.ref f22))) (l22:K.lookup f22=some ⟨oc22,od22,.func (PySem.W.fnOf "check_short" "check_short" (ao cY) (ak cY) (ae cY) .none kV22 dc22 pm22 an22 cd22 ct22),sl22⟩) (c22:PySem.W.codeIn K cd22 "check_short" = true) (k22:PySem.W.keepIn K (.ref f22)=true)
  (a23:PySem.W.nsIn K mainGlobals "new_store" = some (some (.ref f23))) (l23:K.lookup f23=some ⟨oc23,od23,.func (PySem.W.fnOf "new_store" "new_store" (ao eO) (ak eO) (ae eO) .none kV23 dc23 pm23 an23 cd23 ct23),sl23⟩) (c23:PySem.W.codeIn K cd23 "new_store" = true) (k23:PySem.W.keepIn K (.ref f23)=true)
  (a24:PySem.W.nsIn K mainGlobals "find_in" = some (some (.ref f24))) (l24:K.lookup f24=some ⟨oc24,od24,.func (PySem.W.fnOf "find_in" "find_in" (ao gU) (ak gU) (ae gU) .none kV24 dc24 pm24 an24 cd24 ct24),sl24⟩) (c24:PySem.W.codeIn K cd24 "find_in" = true) (k24:PySem.W.keepIn K (.ref f24)=true)
  (a25:PySem.W.nsIn K mainGlobals "copied" = some (some (.ref f25))) (l25:K.lookup f25=some ⟨oc25,od25,.func (PySem.W.fnOf "copied" "copied" (ao iD) (ak iD) (ae iD) .none kV25 dc25 pm25 an25 cd25 ct25),sl25⟩) (c25:PySem.W.codeIn K cd25 "copied" = true) (k25:PySem.W.keepIn K (.ref f25)=true)
  (a26:PySem.W.nsIn K mainGlobals "find_done" = some (some (.ref f26))) (l26:K.lookup f26=some ⟨oc26,od26,.func (PySem.W.fnOf "find_done" "find_done" (ao eW) (ak eW) (ae eW) .none kV26 dc26 pm26 an26 cd26 ct26),sl26⟩) (c26:PySem.W.codeIn K cd26 "find_done" = true) (k26:PySem.W.keepIn K (.ref f26)=true)
  (a27:PySem.W.nsIn K mainGlobals "first_stays" = some (some (.ref f27))) (l27:K.lookup f27=some ⟨oc27,od27,.func (PySem.W.fnOf "first_stays" "first_stays" (ao cZ) (ak cZ) (ae cZ) .none kV27 dc27 pm27 an27 cd27 ct27),sl27⟩) (c27:PySem.W.codeIn K cd27 "first_stays" = true) (k27:PySem.W.keepIn K (.ref f27)=true)
  (a28:PySem.W.nsIn K mainGlobals "mark_behind" = some (some (.ref f28))) (l28:K.lookup f28=some ⟨oc28,od28,.func (PySem.W.fnOf "mark_behind" "mark_behind" (ao df) (ak df) (ae df) .none kV28 dc28 pm28 an28 cd28 ct28),sl28⟩) (c28:PySem.W.codeIn K cd28 "mark_behind" = true) (k28:PySem.W.keepIn K (.ref f28)=true)
  (a29:PySem.W.nsIn K mainGlobals "with_heads_joined" = some (some (.ref f29))) (l29:K.lookup f29=some ⟨oc29,od29,.func (PySem.W.fnOf "with_heads_joined" "with_heads_joined" (ao aR) (ak aR) (ae aR) .none kV29 dc29 pm29 an29 cd29 ct29),sl29⟩) (c29:PySem.W.codeIn K cd29 "with_heads_joined" = true) (k29:PySem.W.keepIn K (.ref f29)=true)
  (a30:PySem.W.nsIn K mainGlobals "join_done" = some (some (.ref f30))) (l30:K.lookup f30=some ⟨oc30,od30,.func (PySem.W.fnOf "join_done" "join_done" (ao eX) (ak eX) (ae eX) .none kV30 dc30 pm30 an30 cd30 ct30),sl30⟩) (c30:PySem.W.codeIn K cd30 "join_done" = true) (k30:PySem.W.keepIn K (.ref f30)=true)
  (a31:PySem.W.nsIn K mainGlobals "forest_and_times" = some (some (.ref f31))) (l31:K.lookup f31=some ⟨oc31,od31,.func (PySem.W.fnOf "forest_and_times" "forest_and_times" (ao aX) (ak aX) (ae aX) .none kV31 dc31 pm31 an31 cd31 ct31),sl31⟩) (c31:PySem.W.codeIn K cd31 "forest_and_times" = true) (k31:PySem.W.keepIn K (.ref f31)=true)
  (a32:PySem.W.nsIn K mainGlobals "real_numbers" = some (some (.ref f32))) (l32:K.lookup f32=some ⟨oc32,od32,.func (PySem.W.fnOf "real_numbers" "real_numbers" (ao b8) (ak b8) (ae b8) .none kV32 dc32 pm32 an32 cd32 ct32),sl32⟩) (c32:PySem.W.codeIn K cd32 "real_numbers" = true) (k32:PySem.W.keepIn K (.ref f32)=true)
  (a33:PySem.W.nsIn K mainGlobals "chosen_in" = some (some (.ref f33))) (l33:K.lookup f33=some ⟨oc33,od33,.func (PySem.W.fnOf "chosen_in" "chosen_in" (ao eK) (ak eK) (ae eK) .none kV33 dc33 pm33 an33 cd33 ct33),sl33⟩) (c33:PySem.W.codeIn K cd33 "chosen_in" = true) (k33:PySem.W.keepIn K (.ref f33)=true)
  (a34:PySem.W.nsIn K mainGlobals "least_forest" = some (some (.ref f34))) (l34:K.lookup f34=some ⟨oc34,od34,.func (PySem.W.fnOf "least_forest" "least_forest" (ao b9) (ak b9) (ae b9) .none kV34 dc34 pm34 an34 cd34 ct34),sl34⟩) (c34:PySem.W.codeIn K cd34 "least_forest" = true) (k34:PySem.W.keepIn K (.ref f34)=true)
  (a35:PySem.W.nsIn K mainGlobals "_law_forest_by" = some (some (.ref f35))) (l35:K.lookup f35=some ⟨oc35,od35,.func (PySem.W.fnOf "_law_forest_by" "_law_forest_by" (ao bM) (ak bM) (ae bM) .none kV35 dc35 pm35 an35 cd35 ct35),sl35⟩) (c35:PySem.W.codeIn K cd35 "_law_forest_by" = true) (k35:PySem.W.keepIn K (.ref f35)=true)
  (a36:PySem.W.nsIn K mainGlobals "_law_road_by" = some (some (.ref f36))) (l36:K.lookup f36=some ⟨oc36,od36,.func (PySem.W.fnOf "_law_road_by" "_law_road_by" (ao cf) (ak cf) (ae cf) .none kV36 dc36 pm36 an36 cd36 ct36),sl36⟩) (c36:PySem.W.codeIn K cd36 "_law_road_by" = true) (k36:PySem.W.keepIn K (.ref f36)=true)
  (a37:PySem.W.nsIn K mainGlobals "_law_right" = some (some (.ref f37))) (l37:K.lookup f37=some ⟨oc37,od37,.func (PySem.W.fnOf "_law_right" "_law_right" (ao dO) (ak dO) (ae dO) .none kV37 dc37 pm37 an37 cd37 ct37),sl37⟩) (c37:PySem.W.codeIn K cd37 "_law_right" = true) (k37:PySem.W.keepIn K (.ref f37)=true)
  (a38:PySem.W.nsIn K mainGlobals "_law_lots_by" = some (some (.ref f38))) (l38:K.lookup f38=some ⟨oc38,od38,.func (PySem.W.fnOf "_law_lots_by" "_law_lots_by" (ao ce) (ak ce) (ae ce) .none kV38 dc38 pm38 an38 cd38 ct38),sl38⟩) (c38:PySem.W.codeIn K cd38 "_law_lots_by" = true) (k38:PySem.W.keepIn K (.ref f38)=true)
  (a39:PySem.W.nsIn K mainGlobals "_law_sets_right" = some (some (.ref f39))) (l39:K.lookup f39=some ⟨oc39,od39,.func (PySem.W.fnOf "_law_sets_right" "_law_sets_right" (ao bj) (ak bj) (ae bj) .none kV39 dc39 pm39 an39 cd39 ct39),sl39⟩) (c39:PySem.W.codeIn K cd39 "_law_sets_right" = true) (k39:PySem.W.keepIn K (.ref f39)=true)
  (a40:PySem.W.nsIn K mainGlobals "law" = some (some (.ref f40))) (l40:K.lookup f40=some ⟨oc40,od40,.func (PySem.W.fnOf "law" "law" (ao re) (ak re) (ae re) .none kV40 dc40 pm40 an40 cd40 ct40),sl40⟩) (c40:PySem.W.codeIn K cd40 "law" = true) (k40:PySem.W.keepIn K (.ref f40)=true)
  (z_abs:PySem.W.nsIn K mainGlobals "abs" = some none)
  (z_all:PySem.W.nsIn K mainGlobals "all" = some none)
  (z_bool:PySem.W.nsIn K mainGlobals "bool" = some none)
  (z_enumerate:PySem.W.nsIn K mainGlobals "enumerate" = some none)
  (z_int:PySem.W.nsIn K mainGlobals "int" = some none)
  (z_isinstance:PySem.W.nsIn K mainGlobals "isinstance" = some none)
  (z_len:PySem.W.nsIn K mainGlobals "len" = some none)
  (z_list:PySem.W.nsIn K mainGlobals "list" = some none)
  (z_max:PySem.W.nsIn K mainGlobals "max" = some none)
  (z_min:PySem.W.nsIn K mainGlobals "min" = some none)
  (z_range:PySem.W.nsIn K mainGlobals "range" = some none)
  (z_sorted:PySem.W.nsIn K mainGlobals "sorted" = some none)
  (z_str:PySem.W.nsIn K mainGlobals "str" = some none)
  (z_sum:PySem.W.nsIn K mainGlobals "sum" = some none)
  (z_tuple:PySem.W.nsIn K mainGlobals "tuple" = some none)
  {tk_MOST_THINGS:Tok}
  (y_MOST_THINGS:PySem.W.nsIn K mainGlobals "MOST_THINGS" = some (some (.int 40 tk_MOST_THINGS)))
  {aK0:Addr} {oK0:Option Addr} {nK0:Nat} {sK0:Array (Option Value)} {tK0_0 tK0_1 tK0_2 tK0_3:Tok} (yk0:PySem.W.nsIn K mainGlobals "JOINS" = some (some (.ref aK0)))
  (lk0:K.lookup aK0=some ⟨.type "tuple",oK0,.seq #[.str "size" tK0_0,.str "rank" tK0_1,.str "told" tK0_2,.str "names" tK0_3] nK0,sK0⟩)
  {aK1:Addr} {tK1_0 tK1_1 tK1_2 tK1_3 tK1_4:Tok} (yk1:PySem.W.nsIn K mainGlobals "MANNERS" = some (some (.ref aK1)))
  (Ka:K.lookup aK1=some ⟨.type "dict",none,.dict #[⟨PyData.keyHash w.params "none",.str "none" tK1_0,.ref f16⟩,⟨PyData.keyHash w.params "whole",.str "whole" tK1_1,.ref f17⟩,⟨PyData.keyHash w.params "halves",.str "halves" tK1_2,.ref f18⟩,⟨PyData.keyHash w.params "splits",.str "splits" tK1_3,.ref f19⟩,⟨PyData.keyHash w.params "one",.str "one" tK1_4,.ref f20⟩] 5,#[]⟩) (sk1:(aK1==sysModules)=false)
  : ∃fd:FuncData,(∀(s:Shared) (u:Value),BindsTo s fd ⟨[u],[]⟩ [("_law_script",u)])/\∀base:Heap,K.In base/\base.Ns mainGlobals mg->NF l.prog w K mg base true 11 fa fd ["_law_script"] yt:=by
 have T:Txt l.prog w K mg:=⟨PySem.W.mg_none_of X G z_abs,PySem.W.mg_none_of X G z_all,PySem.W.mg_none_of X G z_bool,PySem.W.mg_none_of X G z_enumerate,PySem.W.mg_none_of X G z_int,PySem.W.mg_none_of X G z_isinstance,PySem.W.mg_none_of X G z_len,PySem.W.mg_none_of X G z_list,PySem.W.mg_none_of X G z_max,PySem.W.mg_none_of X G z_min,PySem.W.mg_none_of X G z_range,PySem.W.mg_none_of X G z_sorted,PySem.W.mg_none_of X G z_str,PySem.W.mg_none_of X G z_sum,PySem.W.mg_none_of X G z_tuple,⟨_,PySem.W.mg_of X G y_MOST_THINGS⟩,fun base KI=>EM (its:=[.str "size" tK0_0,.str "rank" tK0_1,.str "told" tK0_2,.str "names" tK0_3]) KI (PySem.W.mg_of X G yk0) lk0 (show 4≤sizeLine by decide) fun _ _ _=>⟨_,_,rfl,⟨_,rfl⟩,⟨_,_,rfl,⟨_,rfl⟩,⟨_,_,rfl,⟨_,rfl⟩,⟨_,_,rfl,⟨_,rfl⟩,rfl⟩⟩⟩⟩,fun base KI=>EG KI (PySem.W.mg_of X G yk1) sk1 Ka (show 5≤sizeLine by decide) (by decide +kernel) (.cons (fun _ _ e=>⟨_,by rw[e];exact PySem.W.mg_of X G a16,rfl⟩) (.cons (fun _ _ e=>⟨_,by rw[e];exact PySem.W.mg_of X G a17,rfl⟩) (.cons (fun _ _ e=>⟨_,by rw[e];exact PySem.W.mg_of X G a18,rfl⟩) (.cons (fun _ _ e=>⟨_,by rw[e];exact PySem.W.mg_of X G a19,rfl⟩) (.cons (fun _ _ e=>⟨_,by rw[e];exact PySem.W.mg_of X G a20,rfl⟩) (.nil))))))⟩
 have U__law_numbers:ax K mg "_law_numbers" cc ["_law_cell_here","_law_many_here"]:=au l0 c0 k0 (PySem.W.mg_of X G a0) fun _ _ _ _ _ _ us hl=>jD hl fun _ _=>rfl
 have U__law_cell:ax K mg "_law_cell" eN ["_law_script","_law_k"]:=au l1 c1 k1 (PySem.W.mg_of X G a1) fun _ _ _ _ _ _ us hl=>jD hl fun _ _=>rfl
 have U__law_joins:ax K mg "_law_joins" dJ ["_law_script","_law_at","_law_many_here","_law_most"]:=au l2 c2 k2 (PySem.W.mg_of X G a2) fun _ _ _ _ _ _ us hl=>HI hl fun _ _ _ _=>rfl
 have U__law_ties:ax K mg "_law_ties" eQ ["_law_script","_law_at","_law_many_here","_law_most","_law_heavy"]:=au l3 c3 k3 (PySem.W.mg_of X G a3) fun _ _ _ _ _ _ us hl=>Mh hl fun _ _ _ _ _=>rfl
 have U__law_many:ax K mg "_law_many" e8 ["_law_x"]:=au l4 c4 k4 (PySem.W.mg_of X G a4) fun _ _ _ _ _ _ us hl=>nG hl fun _=>rfl
 have U_is_whole:ax K mg "is_whole" gi ["thing"]:=au l5 c5 k5 (PySem.W.mg_of X G a5) fun _ _ _ _ _ _ us hl=>nG hl fun _=>rfl
 have U_is_many:ax K mg "is_many" gR ["thing"]:=au l6 c6 k6 (PySem.W.mg_of X G a6) fun _ _ _ _ _ _ us hl=>nG hl fun _=>rfl
 have U_check_many:ax K mg "check_many" dI ["many"]:=au l7 c7 k7 (PySem.W.mg_of X G a7) fun _ _ _ _ _ _ us hl=>nG hl fun _=>rfl
 have U_check_row:ax K mg "check_row" eR ["many","row","is_right"]:=au l8 c8 k8 (PySem.W.mg_of X G a8) fun _ _ _ _ _ _ us hl=>v2 hl fun _ _ _=>rfl
 have U_is_thing:ax K mg "is_thing" gh ["many","thing"]:=au l9 c9 k9 (PySem.W.mg_of X G a9) fun _ _ _ _ _ _ us hl=>jD hl fun _ _=>rfl
 have U_is_pair:ax K mg "is_pair" gW ["many","thing"]:=au l10 c10 k10 (PySem.W.mg_of X G a10) fun _ _ _ _ _ _ us hl=>jD hl fun _ _=>rfl
 have U_is_telling:ax K mg "is_telling" dH ["many","thing"]:=au l11 c11 k11 (PySem.W.mg_of X G a11) fun _ _ _ _ _ _ us hl=>jD hl fun _ _=>rfl
 have U_is_tie:ax K mg "is_tie" iO ["many","thing"]:=au l12 c12 k12 (PySem.W.mg_of X G a12) fun _ _ _ _ _ _ us hl=>jD hl fun _ _=>rfl
 have U_check_web:ax K mg "check_web" ff ["many","ties"]:=au l13 c13 k13 (PySem.W.mg_of X G a13) fun _ _ _ _ _ _ us hl=>jD hl fun _ _=>rfl
 have U_is_way_of_joining:ax K mg "is_way_of_joining" aS ["thing"]:=au l14 c14 k14 (PySem.W.mg_of X G a14) fun _ _ _ _ _ _ us hl=>nG hl fun _=>rfl
 have U_check_join:ax K mg "check_join" dL ["join"]:=au l15 c15 k15 (PySem.W.mg_of X G a15) fun _ _ _ _ _ _ us hl=>nG hl fun _=>rfl
 have U_find_none:ax K mg "find_none" cX ["ups","x"]:=au l16 c16 k16 (PySem.W.mg_of X G a16) fun _ _ _ _ _ _ us hl=>jD hl fun _ _=>rfl
 have U_find_whole:ax K mg "find_whole" b5 ["ups","x"]:=au l17 c17 k17 (PySem.W.mg_of X G a17) fun _ _ _ _ _ _ us hl=>jD hl fun _ _=>rfl
 have U_find_halves:ax K mg "find_halves" bP ["ups","x"]:=au l18 c18 k18 (PySem.W.mg_of X G a18) fun _ _ _ _ _ _ us hl=>jD hl fun _ _=>rfl
 have U_find_splits:ax K mg "find_splits" bQ ["ups","x"]:=au l19 c19 k19 (PySem.W.mg_of X G a19) fun _ _ _ _ _ _ us hl=>jD hl fun _ _=>rfl
 have U_find_one:ax K mg "find_one" dN ["ups","x"]:=au l20 c20 k20 (PySem.W.mg_of X G a20) fun _ _ _ _ _ _ us hl=>jD hl fun _ _=>rfl
 have U_is_short:ax K mg "is_short" gb ["thing"]:=au l21 c21 k21 (PySem.W.mg_of X G a21) fun _ _ _ _ _ _ us hl=>nG hl fun _=>rfl
 have U_check_short:ax K mg "check_short" cY ["short"]:=au l22 c22 k22 (PySem.W.mg_of X G a22) fun _ _ _ _ _ _ us hl=>nG hl fun _=>rfl
 have U_new_store:ax K mg "new_store" eO ["many","join","short"]:=au l23 c23 k23 (PySem.W.mg_of X G a23) fun _ _ _ _ _ _ us hl=>v2 hl fun _ _ _=>rfl
 have U_find_in:ax K mg "find_in" gU ["ups","short","x"]:=au l24 c24 k24 (PySem.W.mg_of X G a24) fun _ _ _ _ _ _ us hl=>v2 hl fun _ _ _=>rfl
 have U_copied:ax K mg "copied" iD ["numbers"]:=au l25 c25 k25 (PySem.W.mg_of X G a25) fun _ _ _ _ _ _ us hl=>nG hl fun _=>rfl
 have U_find_done:ax K mg "find_done" eW ["store","x"]:=au l26 c26 k26 (PySem.W.mg_of X G a26) fun _ _ _ _ _ _ us hl=>jD hl fun _ _=>rfl
 have U_first_stays:ax K mg "first_stays" cZ ["join","marks","first","second"]:=au l27 c27 k27 (PySem.W.mg_of X G a27) fun _ _ _ _ _ _ us hl=>HI hl fun _ _ _ _=>rfl
 have U_mark_behind:ax K mg "mark_behind" df ["join","top","under"]:=au l28 c28 k28 (PySem.W.mg_of X G a28) fun _ _ _ _ _ _ us hl=>v2 hl fun _ _ _=>rfl
 have U_with_heads_joined:ax K mg "with_heads_joined" aR ["store","first","second"]:=au l29 c29 k29 (PySem.W.mg_of X G a29) fun _ _ _ _ _ _ us hl=>v2 hl fun _ _ _=>rfl
 have U_join_done:ax K mg "join_done" eX ["store","x","y"]:=au l30 c30 k30 (PySem.W.mg_of X G a30) fun _ _ _ _ _ _ us hl=>v2 hl fun _ _ _=>rfl
 have U_forest_and_times:ax K mg "forest_and_times" aX ["many","row"]:=au l31 c31 k31 (PySem.W.mg_of X G a31) fun _ _ _ _ _ _ us hl=>jD hl fun _ _=>rfl
 have U_real_numbers:ax K mg "real_numbers" b8 ["many","row"]:=au l32 c32 k32 (PySem.W.mg_of X G a32) fun _ _ _ _ _ _ us hl=>jD hl fun _ _=>rfl
 have U_chosen_in:ax K mg "chosen_in" eK ["many","ties"]:=au l33 c33 k33 (PySem.W.mg_of X G a33) fun _ _ _ _ _ _ us hl=>jD hl fun _ _=>rfl
 have U_least_forest:ax K mg "least_forest" b9 ["many","ties"]:=au l34 c34 k34 (PySem.W.mg_of X G a34) fun _ _ _ _ _ _ us hl=>jD hl fun _ _=>rfl
 have U__law_forest_by:ax K mg "_law_forest_by" bM ["_law_many_here","_law_ties_here"]:=au l35 c35 k35 (PySem.W.mg_of X G a35) fun _ _ _ _ _ _ us hl=>jD hl fun _ _=>rfl
 have U__law_road_by:ax K mg "_law_road_by" cf ["_law_ties_here","_law_numbers_here","_law_x","_law_y"]:=au l36 c36 k36 (PySem.W.mg_of X G a36) fun _ _ _ _ _ _ us hl=>HI hl fun _ _ _ _=>rfl
 have U__law_right:ax K mg "_law_right" dO ["_law_many_here","_law_ties_here"]:=au l37 c37 k37 (PySem.W.mg_of X G a37) fun _ _ _ _ _ _ us hl=>jD hl fun _ _=>rfl
 have U__law_lots_by:ax K mg "_law_lots_by" ce ["_law_many_here","_law_pairs"]:=au l38 c38 k38 (PySem.W.mg_of X G a38) fun _ _ _ _ _ _ us hl=>jD hl fun _ _=>rfl
 have U__law_sets_right:ax K mg "_law_sets_right" bj ["_law_many_here","_law_ties_here","_law_worth"]:=au l39 c39 k39 (PySem.W.mg_of X G a39) fun _ _ _ _ _ _ us hl=>v2 hl fun _ _ _=>rfl
 have U_law:ax K mg "law" re ["_law_script"]:=au l40 c40 k40 (PySem.W.mg_of X G a40) fun _ _ _ _ _ _ us hl=>nG hl fun _=>rfl
 have M_is_tie:=PySem.W.mg_of X G a12
 refine E6 (R:=fun base=>K.In base/\base.Ns mainGlobals mg) U_law hfa Ij rfl rfl fun base hb=>?_
 have KI:=hb.1
 have D__law_numbers:=nY T KI U__law_numbers
 have D__law_cell:=sg T KI U__law_cell
 have D__law_joins:=qx T KI U__law_joins D__law_numbers D__law_cell
 have D__law_ties:=sP T KI U__law_ties D__law_joins D__law_numbers D__law_cell
 have D__law_many:=r7 T KI U__law_many
 have D_is_whole:=ug T KI U_is_whole
 have D_is_many:=wc T KI U_is_many D_is_whole
 have D_check_many:=qE T KI U_check_many D_is_many
 have D_is_thing:=uo T KI U_is_thing D_is_whole
 have D_is_pair:=wN T KI U_is_pair D_is_thing
 have D_is_telling:=qr T KI U_is_telling D_is_pair D_is_whole
 have D_is_tie:=y8 T KI U_is_tie D_is_telling
 have D_check_row:=rZ T KI U_check_row D_is_tie
 have D_check_web:=rY T KI U_check_web ⟨_,M_is_tie⟩ D_check_many D_check_row
 have D_is_way_of_joining:=kA T KI U_is_way_of_joining
 have D_check_join:=qJ T KI U_check_join D_is_way_of_joining
 have D_find_none:=td T KI U_find_none
 have L_find_none:=qn T KI U_find_none
 have D_find_whole:=qz T KI U_find_whole D_find_none
 have L_find_whole:=pf T KI U_find_whole D_find_none
 have D_find_halves:=oM T KI U_find_halves
 have L_find_halves:=nF T KI U_find_halves
 have D_find_splits:=oJ T KI U_find_splits
 have L_find_splits:=nN T KI U_find_splits
 have D_find_one:=uQ T KI U_find_one D_find_none
 have L_find_one:=sq T KI U_find_one D_find_none
 have D_is_short:=vj T KI U_is_short
 have D_check_short:=oG T KI U_check_short D_is_short
 have D_new_store:=sA T KI U_new_store D_check_many D_check_join D_check_short
 have D_find_in:=vR T KI U_find_in L_find_none L_find_whole L_find_halves L_find_splits L_find_one
 have D_copied:=zq T KI U_copied
 have D_find_done:=tH T KI U_find_done D_find_in D_copied
 have D_first_stays:=pF T KI U_first_stays
 have D_mark_behind:=oZ T KI U_mark_behind
 have D_with_heads_joined:=kw T KI U_with_heads_joined D_first_stays D_mark_behind
 have D_join_done:=r4 T KI U_join_done D_find_done D_with_heads_joined
 have D_forest_and_times:=kQ T KI U_forest_and_times D_new_store D_join_done
 have D_real_numbers:=nQ T KI U_real_numbers D_forest_and_times
 have D_chosen_in:=sa T KI U_chosen_in D_real_numbers
 have D_least_forest:=nS T KI U_least_forest D_check_web D_chosen_in
 have D__law_forest_by:=lJ T KI U__law_forest_by
 have D__law_road_by:=n4 T KI U__law_road_by
 have D__law_right:=qC T KI U__law_right D_least_forest D__law_forest_by D__law_road_by
 have D__law_lots_by:=nK T KI U__law_lots_by
 have D__law_sets_right:=lB T KI U__law_sets_right D__law_lots_by
 exact⟨{ sc:=ae re,N:=["_law_script","_law_at","_law_head","_law_many_here","_law_most","_law_few_things","_law_ties_here","_law_worth"] },{ G0 with fns:=[("_law_ties",dF),("_law_numbers",aw),("_law_many",ic),("least_forest",bn),("_law_right",fy),("_law_sets_right",cO),("_law_cell",aD)] },(iR ⟨T.n_abs,⟨T.n_all,⟨T.n_bool,⟨T.n_enumerate,⟨T.n_int,⟨T.n_isinstance,⟨T.n_len,⟨T.n_list,⟨T.n_max,⟨T.n_min,⟨T.n_range,⟨T.n_sorted,⟨T.n_str,⟨T.n_sum,⟨T.n_tuple,trivial⟩⟩⟩⟩⟩⟩⟩⟩⟩⟩⟩⟩⟩⟩⟩ ⟨T.c_MOST_THINGS,trivial⟩ ⟨T.k_JOINS base KI,trivial⟩ trivial ⟨⟨_,by decide,D__law_ties⟩,⟨⟨_,by decide,D__law_numbers⟩,⟨⟨_,by decide,D__law_many⟩,⟨⟨_,by decide,D_least_forest⟩,⟨⟨_,by decide,D__law_right⟩,⟨⟨_,by decide,D__law_sets_right⟩,⟨⟨_,by decide,D__law_cell⟩,trivial⟩⟩⟩⟩⟩⟩⟩ ⟨T.k_MANNERS base KI,trivial⟩ trivial trivial),iS,by kernel_rfl,rfl,rfl,rfl⟩
end K60
def PySem.W.Fast.tw8469940405231559213 : Unit := ()
def PySem.W.Fast.tw7401674548540733699 : Unit := ()
def PySem.W.Fast.tw1281524327465734366 : Unit := ()
def PySem.W.Fast.tw6028044438561022590 : Unit := ()
def PySem.W.Fast.tw2087502644945570655 : Unit := ()
def PySem.W.Fast.tw14839312173542374955 : Unit := ()
def PySem.W.Fast.tw11873961342820124587 : Unit := ()
def PySem.W.Fast.tw1129050016658336178 : Unit := ()
def PySem.W.Fast.tw12407462432339254491 : Unit := ()
def PySem.W.Fast.tw13457502225406521472 : Unit := ()
def PySem.W.Fast.tw9508788260771999834 : Unit := ()
def PySem.W.Fast.tw17473885782590598148 : Unit := ()
def PySem.W.Fast.tw7521599113444664219 : Unit := ()
def PySem.W.Fast.tw12590872424302536441 : Unit := ()
def PySem.W.Fast.tw2308028382056901554 : Unit := ()
def PySem.W.Fast.tw13988292335252406498 : Unit := ()
def PySem.W.Fast.tw3444732584892275085 : Unit := ()
def PySem.W.Fast.tw14379636018521462276 : Unit := ()
def PySem.W.Fast.tw15915621092226686340 : Unit := ()
def PySem.W.Fast.tw1122608202459305207 : Unit := ()
def PySem.W.Fast.tw12358208461169901934 : Unit := ()
def PySem.W.Fast.tw1953867377330589587 : Unit := ()
def PySem.W.Fast.tw10026983678909228549 : Unit := ()
def PySem.W.Fast.tw7691573672680429614 : Unit := ()
def PySem.W.Fast.tw13745411693562910857 : Unit := ()
def PySem.W.Fast.tw8110000831820013494 : Unit := ()
def PySem.W.Fast.tw7297017779421795235 : Unit := ()
def PySem.W.Fast.tw4505397763141051438 : Unit := ()
def PySem.W.Fast.tw1713590558571985669 : Unit := ()
def PySem.W.Fast.tw7820406992141782991 : Unit := ()
def PySem.W.Fast.tw3160547315830442576 : Unit := ()
def PySem.W.Fast.tw16371613513717403474 : Unit := ()
def PySem.W.Fast.tw13185738889100984226 : Unit := ()
def PySem.W.Fast.tw10475504301126654756 : Unit := ()
def PySem.W.Fast.tw5661614114681245702 : Unit := ()
def PySem.W.Fast.tw9225377345231489362 : Unit := ()
def PySem.W.Fast.tw315335408866507895 : Unit := ()
def PySem.W.Fast.tw9635814872138618300 : Unit := ()
def PySem.W.Fast.tw12881130784363467625 : Unit := ()
def PySem.W.Fast.tw200920964395114426 : Unit := ()
def PySem.W.Fast.tw18210006380629999935 : Unit := ()
def PySem.W.Fast.tw12820351829984001521 : Unit := ()
def PySem.W.Fast.tw17677012442803968227 : Unit := ()
def PySem.W.Fast.tw8225165556881311006 : Unit := ()
def PySem.W.Fast.tw8377244489018457414 : Unit := ()
def PySem.W.Fast.tw13538417717908518015 : Unit := ()
def PySem.W.Fast.tw11258067834975389258 : Unit := ()
def PySem.W.Fast.tw4329936155531629582 : Unit := ()
def PySem.W.Fast.tw12868603657105773341 : Unit := ()
def PySem.W.Fast.tw422286347008000968 : Unit := ()
def PySem.W.Fast.tw8136739767599419036 : Unit := ()
def PySem.W.Fast.tw11051126135004852762 : Unit := ()
def PySem.W.Fast.tw3144284450099423205 : Unit := ()
def PySem.W.Fast.tw10486897861185426752 : Unit := ()
def PySem.W.Fast.tw11344829605845777884 : Unit := ()
def PySem.W.Fast.tw17725883737227791069 : Unit := ()
def PySem.W.Fast.tw3713779832981812186 : Unit := ()
def PySem.W.Fast.tw3493390693206328888 : Unit := ()
def PySem.W.Fast.tw6344424876570540531 : Unit := ()
def PySem.W.Fast.tw17271242367874116183 : Unit := ()
def PySem.W.Fast.tw575271724946464061 : Unit := ()
def PySem.W.Fast.tw17034326682886124606 : Unit := ()
def PySem.W.Fast.tw4733411979294525990 : Unit := ()
def PySem.W.Fast.tw4373249862559004051 : Unit := ()
def PySem.W.Fast.tw11534406131483051502 : Unit := ()
def PySem.W.Fast.tw13260604675726719468 : Unit := ()
def PySem.W.Fast.tw15842930064821106582 : Unit := ()
def PySem.W.Fast.tw4462404392565102004 : Unit := ()
def PySem.W.Fast.tw10590054107520999392 : Unit := ()
def PySem.W.Fast.tw5971011002721610944 : Unit := ()
def PySem.W.Fast.tw6945225475824295301 : Unit := ()
def PySem.W.Fast.tw3284864446491977157 : Unit := ()
def PySem.W.Fast.tw685961904160901281 : Unit := ()
def PySem.W.Fast.tw4981049782363862029 : Unit := ()
def PySem.W.Fast.tw14113840454788970848 : Unit := ()
def PySem.W.Fast.tw7799575799459133881 : Unit := ()
def PySem.W.Fast.tw8101620039001960045 : Unit := ()
def PySem.W.Fast.tw6081007993746735514 : Unit := ()
def PySem.W.Fast.tw6964518367140740319 : Unit := ()
def PySem.W.Fast.tw4256442096084963706 : Unit := ()
def PySem.W.Fast.tw15465578786089956680 : Unit := ()
def PySem.W.Fast.tw8636997454823397840 : Unit := ()
def PySem.W.Fast.tw6941192511246347809 : Unit := ()
def PySem.W.Fast.tw7527737598582020241 : Unit := ()
def PySem.W.Fast.tw11470322825014868937 : Unit := ()
def PySem.W.Fast.tw324453516145151698 : Unit := ()
def PySem.W.Fast.tw12556697389139699825 : Unit := ()
def PySem.W.Fast.tw17641839984180208976 : Unit := ()
def PySem.W.Fast.tw8995962966093561879 : Unit := ()
def PySem.W.Fast.tw8027154758442145590 : Unit := ()
def PySem.W.Fast.tw14134735334189553107 : Unit := ()
def PySem.W.Fast.tw2825092999393340896 : Unit := ()
def PySem.W.Fast.tw12836946221925931757 : Unit := ()
def PySem.W.Fast.tw4322745494006876871 : Unit := ()
def PySem.W.Fast.tw15695386128705818222 : Unit := ()
def PySem.W.Fast.tw3523450180873099685 : Unit := ()
def PySem.W.Fast.tw11046478698247228748 : Unit := ()
def PySem.W.Fast.tw9079838121411577970 : Unit := ()
def PySem.W.Fast.tw10875199700197314119 : Unit := ()
def PySem.W.Fast.tw14860319068834499131 : Unit := ()
def PySem.W.Fast.tw7561791268229105022 : Unit := ()
def PySem.W.Fast.tw12974521497550679456 : Unit := ()
def PySem.W.Fast.tw7824005879489824449 : Unit := ()
def PySem.W.Fast.tw1241138739667981615 : Unit := ()
def PySem.W.Fast.tw6267633550912967514 : Unit := ()
def PySem.W.Fast.tw4597035630334445095 : Unit := ()
def PySem.W.Fast.tw3045055131391738086 : Unit := ()
def PySem.W.Fast.tw6177570654283622591 : Unit := ()
def PySem.W.Fast.tw6676991776031683601 : Unit := ()
def PySem.W.Fast.tw3501072871102116521 : Unit := ()
open PySem PySem.W PyProof.Rows
set_option maxRecDepth 100000 in
set_option maxHeartbeats 0 in
theorem PySem.Challenge.cw_lotheads_k60_least_forests_holds : PySem.Challenge.rw_lotheads_k60_least_forests.Holds := by
 w_on;o_law;k_head;(case hw=>w_witness2)
 k_fill
 refine Dp.KQ (k:=11) (by decide) (l:=PySem.Challenge.rw_lotheads_k60_least_forests) rfl rfl (fun w h Y=>PySem.W.kIn_of Y) K60.By ?F
 case F=>
  intro w mg fa h KX G hmg
  refine' K60.G9 KX G hmg ?a0 ?l0 ?c0 ?k0 ?a1 ?l1 ?c1 ?k1 ?a2 ?l2 ?c2 ?k2 ?a3 ?l3 ?c3 ?k3 ?a4 ?l4 ?c4 ?k4 ?a5 ?l5 ?c5 ?k5 ?a6 ?l6 ?c6 ?k6 ?a7 ?l7 ?c7 ?k7 ?a8 ?l8 ?c8 ?k8 ?a9 ?l9 ?c9 ?k9 ?a10 ?l10 ?c10 ?k10 ?a11 ?l11 ?c11 ?k11 ?a12 ?l12 ?c12 ?k12 ?a13 ?l13 ?c13 ?k13 ?a14 ?l14 ?c14 ?k14 ?a15 ?l15 ?c15 ?k15 ?a16 ?l16 ?c16 ?k16 ?a17 ?l17 ?c17 ?k17 ?a18 ?l18 ?c18 ?k18 ?a19 ?l19 ?c19 ?k19 ?a20 ?l20 ?c20 ?k20 ?a21 ?l21 ?c21 ?k21 ?a22 ?l22 ?c22 ?k22 ?a23 ?l23 ?c23 ?k23 ?a24 ?l24 ?c24 ?k24 ?a25 ?l25 ?c25 ?k25 ?a26 ?l26 ?c26 ?k26 ?a27 ?l27 ?c27 ?k27 ?a28 ?l28 ?c28 ?k28 ?a29 ?l29 ?c29 ?k29 ?a30 ?l30 ?c30 ?k30 ?a31 ?l31 ?c31 ?k31 ?a32 ?l32 ?c32 ?k32 ?a33 ?l33 ?c33 ?k33 ?a34 ?l34 ?c34 ?k34 ?a35 ?l35 ?c35 ?k35 ?a36 ?l36 ?c36 ?k36 ?a37 ?l37 ?c37 ?k37 ?a38 ?l38 ?c38 ?k38 ?a39 ?l39 ?c39 ?k39 ?a40 ?l40 ?c40 ?k40 ?z_abs ?z_all ?z_bool ?z_enumerate ?z_int ?z_isinstance ?z_len ?z_list ?z_max ?z_min ?z_range ?z_sorted ?z_str ?z_sum ?z_tuple ?y_MOST_THINGS ?yk0 ?lk0 ?yk1 ?Ka ?sk1
  (case a0=>k_is);(case l0=>k_is);(case c0=>k_is);(case k0=>k_is)
  (case a1=>k_is);(case l1=>k_is);(case c1=>k_is);(case k1=>k_is)
  (case a2=>k_is);(case l2=>k_is);(case c2=>k_is);(case k2=>k_is)
  (case a3=>k_is);(case l3=>k_is);(case c3=>k_is);(case k3=>k_is)
  (case a4=>k_is);(case l4=>k_is);(case c4=>k_is);(case k4=>k_is)
  (case a5=>k_is);(case l5=>k_is);(case c5=>k_is);(case k5=>k_is)
  (case a6=>k_is);(case l6=>k_is);(case c6=>k_is);(case k6=>k_is)
  (case a7=>k_is);(case l7=>k_is);(case c7=>k_is);(case k7=>k_is)
  (case a8=>k_is);(case l8=>k_is);(case c8=>k_is);(case k8=>k_is)
  (case a9=>k_is);(case l9=>k_is);(case c9=>k_is);(case k9=>k_is)
  (case a10=>k_is);(case l10=>k_is);(case c10=>k_is);(case k10=>k_is)
  (case a11=>k_is);(case l11=>k_is);(case c11=>k_is);(case k11=>k_is)
  (case a12=>k_is);(case l12=>k_is);(case c12=>k_is);(case k12=>k_is)
  (case a13=>k_is);(case l13=>k_is);(case c13=>k_is);(case k13=>k_is)
  (case a14=>k_is);(case l14=>k_is);(case c14=>k_is);(case k14=>k_is)
  (case a15=>k_is);(case l15=>k_is);(case c15=>k_is);(case k15=>k_is)
  (case a16=>k_is);(case l16=>k_is);(case c16=>k_is);(case k16=>k_is)
  (case a17=>k_is);(case l17=>k_is);(case c17=>k_is);(case k17=>k_is)
  (case a18=>k_is);(case l18=>k_is);(case c18=>k_is);(case k18=>k_is)
  (case a19=>k_is);(case l19=>k_is);(case c19=>k_is);(case k19=>k_is)
  (case a20=>k_is);(case l20=>k_is);(case c20=>k_is);(case k20=>k_is)
  (case a21=>k_is);(case l21=>k_is);(case c21=>k_is);(case k21=>k_is)
  (case a22=>k_is);(case l22=>k_is);(case c22=>k_is);(case k22=>k_is)
  (case a23=>k_is);(case l23=>k_is);(case c23=>k_is);(case k23=>k_is)
  (case a24=>k_is);(case l24=>k_is);(case c24=>k_is);(case k24=>k_is)
  (case a25=>k_is);(case l25=>k_is);(case c25=>k_is);(case k25=>k_is)
  (case a26=>k_is);(case l26=>k_is);(case c26=>k_is);(case k26=>k_is)
  (case a27=>k_is);(case l27=>k_is);(case c27=>k_is);(case k27=>k_is)
  (case a28=>k_is);(case l28=>k_is);(case c28=>k_is);(case k28=>k_is)
  (case a29=>k_is);(case l29=>k_is);(case c29=>k_is);(case k29=>k_is)
  (case a30=>k_is);(case l30=>k_is);(case c30=>k_is);(case k30=>k_is)
  (case a31=>k_is);(case l31=>k_is);(case c31=>k_is);(case k31=>k_is)
  (case a32=>k_is);(case l32=>k_is);(case c32=>k_is);(case k32=>k_is)
  (case a33=>k_is);(case l33=>k_is);(case c33=>k_is);(case k33=>k_is)
  (case a34=>k_is);(case l34=>k_is);(case c34=>k_is);(case k34=>k_is)
  (case a35=>k_is);(case l35=>k_is);(case c35=>k_is);(case k35=>k_is)
  (case a36=>k_is);(case l36=>k_is);(case c36=>k_is);(case k36=>k_is)
  (case a37=>k_is);(case l37=>k_is);(case c37=>k_is);(case k37=>k_is)
  (case a38=>k_is);(case l38=>k_is);(case c38=>k_is);(case k38=>k_is)
  (case a39=>k_is);(case l39=>k_is);(case c39=>k_is);(case k39=>k_is)
  (case a40=>k_is);(case l40=>k_is);(case c40=>k_is);(case k40=>k_is)
  (case z_abs=>k_is)
  (case z_all=>k_is)
  (case z_bool=>k_is)
  (case z_enumerate=>k_is)
  (case z_int=>k_is)
  (case z_isinstance=>k_is)
  (case z_len=>k_is)
  (case z_list=>k_is)
  (case z_max=>k_is)
  (case z_min=>k_is)
  (case z_range=>k_is)
  (case z_sorted=>k_is)
  (case z_str=>k_is)
  (case z_sum=>k_is)
  (case z_tuple=>k_is)
  (case y_MOST_THINGS=>k_is)
  (case yk0=>k_is)
  (case lk0=>k_is)
  (case yk1=>k_is)
  (case Ka=>k_is)
  (case sk1=>rfl)
end
