import PyProof.Rows.All
import Wide.All
import OpenK.AllK
import Wide.FinOn
import Lean
import PyProof.EqAt
import PyProof.EqKinds
import PyProof.TupleCall
import PyProof.NeKinds
import KE.KSortTup
import PyProof.TableCode
import PyProof.EnumFor
import PyProof.EnumMake
import PyProof.EnumStmt
import PyProof.TupleOfStr
import PyProof.Draws
import PyProof.TupleIter
import PySem.Challenge.RW_lotheads_k46_tellings_that_clash
set_option Elab.async false
set_option linter.all false
set_option maxRecDepth 100000
namespace L2
open PySem PySem.Spec PyProof.Rows
noncomputable abbrev e9:=Sum Int Str
noncomputable def kQ:e9->Value->Bool
 |.inl k,v=>Value.isInt k v
 |.inr x,v=>Value.isStrOf x v
noncomputable def Gi (w:World):e9->Int
 |.inl k=>hashInt k
 |.inr x=>hashStr w x
theorem cK:∀{k:e9} {v:Value},kQ k v=true->(∃i t,k=Sum.inl i/\v=Value.int i t)\/(∃x t,k=Sum.inr x/\v=Value.str x t)
 |.inl i,v,h=>by
  obtain⟨t,e⟩:=Value.isInt_shape (k:=i) (v:=v) h
  exact .inl ⟨i,t,rfl,e⟩
 |.inr x,v,h=>by
  obtain⟨t,e⟩:=Value.isStrOf_shape (x:=x) (v:=v) h
  exact .inr ⟨x,t,rfl,e⟩
theorem vj (i:Int)(t:Tok):kQ (.inl i) (.int i t)=true:=by simp[kQ,Value.isInt]
theorem vg (x:Str)(t:Tok):kQ (.inr x) (.str x t)=true:=by simp[kQ,Value.isStrOf]
theorem Cf (a b:Int):decide ((Sum.inl a:e9)=Sum.inl b)=(a==b):=by
 by_cases e:a=b
 ·subst e;simp
 ·have h:¬(Sum.inl a:e9)=Sum.inl b:=fun q=>e (Sum.inl.inj q)
  rw[decide_eq_false h]
  exact (beq_eq_false_iff_ne.mpr e).symm
theorem BK (a b:Str):decide ((Sum.inr a:e9)=Sum.inr b)=decide (a=b):=by
 by_cases e:a=b
 ·subst e;simp
 ·have h:¬(Sum.inr a:e9)=Sum.inr b:=fun q=>e (Sum.inr.inj q)
  rw[decide_eq_false h,decide_eq_false e]
theorem Df (a:Int)(b:Str):decide ((Sum.inl a:e9)=Sum.inr b)=false:=decide_eq_false (fun q=>nomatch q)
theorem Db (a:Str)(b:Int):decide ((Sum.inr a:e9)=Sum.inl b)=false:=decide_eq_false (fun q=>nomatch q)
noncomputable def b7 (prog:Program)(w:World):PySem.KeyKind prog w e9 where
 is:=kQ
 hash:=Gi w
 inj:=fun v a b ha hb=>by
  rcases cK ha with ⟨i,t,rfl,rfl⟩|⟨x,t,rfl,rfl⟩
  ·rcases cK hb with ⟨j,u,rfl,e⟩|⟨y,u,rfl,e⟩
   ·injection e with e1 _;rw[e1]
   ·exact nomatch e
  ·rcases cK hb with ⟨j,u,rfl,e⟩|⟨y,u,rfl,e⟩
   ·exact nomatch e
   ·injection e with e1 _;rw[e1]
 byValue:=fun k v h=>by
  rcases cK h with ⟨i,t,rfl,rfl⟩|⟨x,t,rfl,rfl⟩<;>rfl
 pyHash:=fun hv h=>by
  rcases cK hv with ⟨i,t,rfl,rfl⟩|⟨x,t,rfl,rfl⟩
  ·exact wpAny_pyHash_int h
  ·exact wpAny_pyHash_str h
 eqBool:=fun hu hv h=>by
  rcases cK hu with ⟨i,t,rfl,rfl⟩|⟨x,t,rfl,rfl⟩
  ·rcases cK hv with ⟨j,u,rfl,rfl⟩|⟨y,u,rfl,rfl⟩
   ·rw[Cf] at h;exact wpAny_eqBool_int h
   ·rw[Df] at h;exact SeqAt.EqAt.int_str i t y u _ _ _ _ h
  ·rcases cK hv with ⟨j,u,rfl,rfl⟩|⟨y,u,rfl,rfl⟩
   ·rw[Db] at h;exact SeqAt.EqAt.str_int x t j u _ _ _ _ h
   ·rw[BK] at h;exact wpAny_eqBool_str h
 «strs»:=fun k x t v h=>by
  rcases cK h with ⟨i,u,rfl,e⟩|⟨y,u,rfl,e⟩
  ·exact nomatch e
  ·injection e with e1 _
   subst e1
   cases v<;>rfl
theorem qW (prog:Program)(w:World)(i:Int)(t:Tok):(b7 prog w).is (.inl i) (.int i t)=true:=vj i t
theorem qE (prog:Program)(w:World)(x:Str)(t:Tok):(b7 prog w).is (.inr x) (.str x t)=true:=vg x t
end L2
namespace L2
open PySem PySem.Spec PyProof.Rows
inductive V where
 |non|bl (b:Bool)|int (i:Int)|str (x:Str)|byt (b:Array UInt8)|flt (b:UInt64)|ref (a:Addr)|ty (n:String)
 deriving DecidableEq
noncomputable def hK:V->Value->Prop
 |.non,u=>u=Value.none
 |.bl b,u=>u=Value.bool b
 |.int i,u=>∃t,u=Value.int i t
 |.str x,u=>∃t,u=Value.str x t
 |.byt b,u=>∃t,u=Value.bytes b t
 |.flt b,u=>∃t,u=Value.float b t
 |.ref a,u=>u=Value.ref a
 |.ty n,u=>u=Value.type n
noncomputable abbrev Vals:List V->List Value->Prop:=Paired hK
theorem Vals.length {xs:List V}{us:List Value}(r:Vals xs us):xs.length=us.length:=Paired.length r
theorem Vals.get:∀{xs:List V} {us:List Value} {i:Nat} {x:V},Vals xs us->xs[i]?=some x->∃u,us[i]?=some u/\hK x u
 |_,_,_,_,.nil,e=>by simp at e
 |_,_,0,_,.cons r _,e=>by simp at e;subst e;exact⟨_,rfl,r⟩
 |_,_,i+1,x,.cons _ t,e=>by
  obtain⟨u,h1,h2⟩:=Vals.get (i:=i) (x:=x) t (by simpa using e)
  exact⟨u,by simpa using h1,h2⟩
noncomputable def EZ:Option V->Option Value->Prop
 |some v,some u=>hK v u
 |none,none=>True
 |_,_=>False
noncomputable def KV {κ:Type}:List (κ×V)->List (κ×Value)->Prop:=Paired fun (p:κ×V) (q:κ×Value)=>p.1=q.1/\hK p.2 q.2
noncomputable def kV:e9->V
 |.inl i=>.int i
 |.inr x=>.str x
inductive HO where
 |lst (xs:List V)
 |tup (xs:List V)
 |dK (kvs:List (e9×V))|dT (kvs:List (List e9×V))
 |set (S:Int->Bool) (n:Nat)
 |ins (C dx:Addr) (fs:List (Str×V))
 |own (x:Addr)
 |xd (fs:List (Str×V))
 |met (f x:Addr)
 |rng (lo hi:Int)
 |frz (o:Obj) (u:HO)
 |tbl (ps:Array Value)
 |ext (φ:Heap->Prop)
noncomputable abbrev Hp:=Addr->Option HO
noncomputable def eV (H:Hp)(a:Addr)(o:HO):Hp:=fun b=>if b=a then some o else H b
theorem cz {H:Hp}{a:Addr}{o:HO}:eV H a o a=some o:=by unfold eV;rw[if_pos rfl]
theorem bF {H:Hp}{a b:Addr}{o:HO}(h:b≠a):eV H a o b=H b:=by unfold eV;rw[if_neg h]
section
variable (P:Program)(w:World)
noncomputable def ObjOk (H:Hp)(h:Heap)(a:Addr):HO->Prop
 |.lst xs=>xs.length≤sizeLine/\∃(its:List Value) (n:Nat),Vals xs its/\h.get? a=some { cls:=.type "list",data:=.seq its.toArray n }
 |.tup xs=>xs.length≤sizeLine/\∃its:List Value,Vals xs its/\IsTup h a its.toArray
 |.dK kvs=>kvs.length≤sizeLine/\(a==sysModules)=false/\∃vs,KV kvs vs/\h.DictOf (b7 P w) a vs
 |.dT kvs=>kvs.length≤sizeLine/\(a==sysModules)=false/\∃xs:List (List e9×Addr×Value),
   Paired (fun (p:List e9×V) (q:List e9×Addr×Value)=>p.1=q.1/\H q.2.1=some (.tup (p.1.map kV))/\hK p.2 q.2.2) kvs xs ∧
   ∃o es ep,h.get? a=some o/\o.ExactDict/\o.data=.dict es ep/\es.toList=xs.map (entryOfKey (tupleKind (b7 P w)))/\(xs.map (·.1)).Nodup
 |.set S n=>h.SetOf (intKind P w) a S n
 |.ins C dx fs=>H dx=some (.own a)/\fs.length≤1000/\dx≠a/\h.get? a=some (PySem.W.instObj C dx) ∧
   ∃mA,h.Ns1 dx mA/\(∀f,EZ (fs.lookup f) (mA f))/\PySem.Within mA (fs.map (·.1))
 |.own _=>∃o,h.get? a=some o
 |.xd fs=>∃mA,h.Ns1 a mA/\∀f,EZ (fs.lookup f) (mA f)
 |.rng lo hi=>∃t u v,h.get? a=some { cls:=.type "range",data:=.fields #[.int lo t,.int hi u,.int 1 v] }
 |.frz o u=>h.get? a=some o/\ObjOk H h a u
 |.tbl ps=>h.get? a=some { cls:=.none,data:=.fields ps }
 |.met f x=>h.get? a=some (PySem.W.methodObj (.ref f) (.ref x))
 |.ext φ=>φ h/\(∃o,h.get? a=some o)/\∀h1 h2:Heap,φ h1->(∀o,h1.get? a=some o->h2.get? a=some o)->φ h2
noncomputable def HOk (H:Hp)(h:Heap):Prop:=∀a o,H a=some o->ObjOk P w H h a o
end
section
variable {P:Program}{w:World}{H H':Hp}{h h':Heap}{a:Addr}{o:HO}
theorem ObjOk.lt (x:ObjOk P w H h a o):a<h.objs.size:=by
 cases o with
 |lst xs=>obtain⟨_,_,_,_,e⟩:=x;exact Heap.lt_size e
 |tup xs=>obtain⟨_,_,_,p⟩:=x;exact p.lt
 |dK kvs=>obtain⟨_,_,_,_,o,_,_,e,_⟩:=x;exact Heap.lt_size e
 |dT kvs=>obtain⟨_,_,_,_,o,_,_,e,_⟩:=x;exact Heap.lt_size e
 |set S n=>obtain⟨o,_,_,_,e,_⟩:=x;exact Heap.lt_size e
 |ins C dx fs=>obtain⟨_,_,_,e,_⟩:=x;exact Heap.lt_size e
 |own y=>obtain⟨_,e⟩:=x;exact Heap.lt_size e
 |xd fs=>obtain⟨_,⟨_,_,_,e,_⟩,_⟩:=x;exact Heap.lt_size e
 |rng lo hi=>obtain⟨_,_,_,e⟩:=x;exact Heap.lt_size e
 |frz ob u=>obtain⟨e,_⟩:=x;exact Heap.lt_size e
 |tbl ps=>exact Heap.lt_size (show h.get? a=some _ from x)
 |met f y=>exact Heap.lt_size (show h.get? a=some _ from x)
 |ext φ=>obtain⟨_,⟨_,e⟩,_⟩:=x;exact Heap.lt_size e
theorem Paired.mapP {α β:Type}{F G:α->β->Prop}:∀{l₁:List α} {l₂:List β},Paired F l₁ l₂->(∀a b,F a b->G a b)->Paired G l₁ l₂
 |_,_,.nil,_=>.nil
 |_,_,.cons r t,f=>.cons (f _ _ r) (Paired.mapP t f)
theorem ObjOk.stay (x:ObjOk P w H h a o)(k:∀b u,(b=a\/H b=some (.own a))->h.get? b=some u->h'.get? b=some u)
  (ho:∀b,H b=some (.own a)->H' b=some (.own a)) (ht:∀b xs,H b=some (.tup xs)->H' b=some (.tup xs)):ObjOk P w H' h' a o:=by
 induction o with
 |lst xs=>obtain⟨z,its,n,r,e⟩:=x;exact⟨z,its,n,r,k _ _ (.inl rfl) e⟩
 |tup xs=>obtain⟨z,its,r,ob,e,c⟩:=x;exact⟨z,its,r,ob,k _ _ (.inl rfl) e,c⟩
 |dK kvs=>obtain⟨z,y,vs,r,ob,es,ep,e,c⟩:=x;exact⟨z,y,vs,r,ob,es,ep,k _ _ (.inl rfl) e,c⟩
 |dT kvs=>
  obtain⟨z,y,xs,r,ob,es,ep,e,c⟩:=x
  exact⟨z,y,xs,Paired.mapP r fun p q z=>⟨z.1,ht _ _ z.2.1,z.2.2⟩,ob,es,ep,k _ _ (.inl rfl) e,c⟩
 |set S n=>obtain⟨ob,es,ep,t,e,c⟩:=x;exact⟨ob,es,ep,t,k _ _ (.inl rfl) e,c⟩
 |ins C dx fs=>
  obtain⟨d,z,ne,e,mA,⟨od,es,ep,e2,c⟩,r⟩:=x
  exact⟨ho _ d,z,ne,k _ _ (.inl rfl) e,mA,⟨od,es,ep,k _ _ (.inr d) e2,c⟩,r⟩
 |own y=>obtain⟨ob,e⟩:=x;exact⟨ob,k _ _ (.inl rfl) e⟩
 |xd fs=>obtain⟨mA,⟨od,es,ep,e,c⟩,r⟩:=x;exact⟨mA,⟨od,es,ep,k _ _ (.inl rfl) e,c⟩,r⟩
 |rng lo hi=>obtain⟨t,u,v,e⟩:=x;exact⟨t,u,v,k _ _ (.inl rfl) e⟩
 |frz ob u ih=>obtain⟨e,q⟩:=x;exact⟨k _ _ (.inl rfl) e,ih q⟩
 |tbl ps=>
  have e:h.get? a=some { cls:=.none,data:=.fields ps }:=x
  show h'.get? a=some { cls:=.none,data:=.fields ps }
  exact k a _ (.inl rfl) e
 |met f y=>
  have e:h.get? a=some (PySem.W.methodObj (.ref f) (.ref y)):=x
  show h'.get? a=some (PySem.W.methodObj (.ref f) (.ref y))
  exact k a _ (.inl rfl) e
 |ext φ=>obtain⟨p,⟨o,e⟩,st⟩:=x;exact⟨st _ _ p fun o q=>k _ _ (.inl rfl) q,⟨o,k _ _ (.inl rfl) e⟩,st⟩
theorem HOk.lt (x:HOk P w H h)(e:H a=some o):a<h.objs.size:=(x a o e).lt
theorem HOk.fresh (x:HOk P w H h)(e:h.objs.size≤a):H a=none:=by
 cases q:H a with
 |none=>rfl
 |some u=>exact absurd (Nat.lt_of_lt_of_le (x.lt q) e) (Nat.lt_irrefl _)
theorem HOk.kept (x:HOk P w H h)(k:∀b u,h.get? b=some u->h'.get? b=some u):HOk P w H h':=fun a o e=>
 (x a o e).stay (fun b u _ q=>k b u q) (fun _ q=>q) fun _ _ q=>q
end
noncomputable def Rd (H:Hp)(a:Addr)(u:HO):Prop:=H a=some u\/∃o,H a=some (.frz o u)
noncomputable def FP:Option HO->Prop
 |some (.lst _)=>True
 |some (.dK _)=>True
 |some (.dT _)=>True
 |some (.set _ _)=>True
 |some (.ins _ _ _)=>True
 |some (.ext _)=>True
 |_=>False
section
variable {P:Program}{w:World}{H:Hp}{h h':Heap}{x e:Addr}{o':HO}
theorem HOk.write (ok:HOk P w H h)(mu:FP (H x))(he:e=x\/H e=some (.own x))(k:∀b u,b≠e->h.get? b=some u->h'.get? b=some u)(heo:∃u,h'.get? e=some u)
  (new:ObjOk P w (eV H x o') h' x o'):HOk P w (eV H x o') h':=fun b u q=>by
 have nown:∀c y,H c=some (.own y)->c≠x:=fun c y r z=>by subst z;rw[r] at mu;exact mu
 have ntup:∀c xs,H c=some (.tup xs)->c≠x:=fun c xs r z=>by subst z;rw[r] at mu;exact mu
 by_cases hb:b=x
 ·subst hb;rw[cz] at q;cases q;exact new
 ·rw[bF hb] at q
  by_cases hbe:b=e
  ·have q':H b=some (.own x):=by
    rcases he with z|z
    ·exact absurd (hbe.trans z) hb
    ·rw[hbe];exact z
   rw[q] at q';cases q'
   obtain⟨v,hv⟩:=heo
   exact⟨v,by rw[hbe];exact hv⟩
  ·refine (ok b u q).stay (fun c v hc r=>k c v ?_ r) (fun c r=>by rw[bF (nown c b r)];exact r) fun c xs r=>by rw[bF (ntup c xs r)];exact r
   rcases hc with rfl|hc
   ·exact hbe
   ·rintro rfl
    rcases he with z|z
    ·exact nown c b hc z
    ·rw[hc] at z;cases z;exact hb rfl
end
structure Un (fs ex:List Addr)(H H':Hp)(h h':Heap):Prop where
 keep:∀b o,h.get? b=some o->H b=none->b∉fs->b∉ex->h'.get? b=some o
 slot:∀b o,h.get? b=some o->H b=none->b∈fs->b∉ex->∃sl,h'.get? b=some { o with slots:=sl }
 free:∀b o,h.get? b=some o->H b=none->b∉ex->H' b=none
 there:∀b o,h.get? b=some o->b∉ex->∃o',h'.get? b=some o'
 tups:∀b xs,H b=some (.tup xs)->H' b=some (.tup xs)
 frzs:∀b o u,H b=some (.frz o u)->H' b=some (.frz o u)
 tbls:∀b ps,H b=some (.tbl ps)->∃more,H' b=some (.tbl (ps++more))
section
variable {fs fs' ex ex':List Addr}{H H1 H2:Hp}{h h1 h2 h':Heap}{a x e:Addr}{o:HO}
theorem Un.any (u:Un fs ex H H1 h h1){b:Addr}{ob:Obj}(q:h.get? b=some ob)(n:H b=none)(hx:b∉ex):∃sl,h1.get? b=some { ob with slots:=sl }:=by
 by_cases hb:b∈fs
 ·exact u.slot b ob q n hb hx
 ·exact⟨ob.slots,u.keep b ob q n hb hx⟩
theorem Un.kept (k:∀b u,h.get? b=some u->h'.get? b=some u):Un fs ex H H h h':=
 ⟨fun b ob q _ _ _=>k b ob q,fun b ob q _ _ _=>⟨ob.slots,k b ob q⟩,fun _ _ _ n _=>n,fun b ob q _=>⟨ob,k b ob q⟩,fun _ _ q=>q,fun _ _ _ q=>q,fun _ ps q=>⟨#[],by rw[q];simp⟩⟩
theorem Un.write (mu:FP (H x))(he:e=x\/H e=some (.own x))(k:∀b u,b≠e->h.get? b=some u->h'.get? b=some u)(heo:∃u,h'.get? e=some u):Un fs ex H (eV H x o) h h':=by
 have hx:∀b,H b=none->b≠x:=fun b n z=>by subst z;rw[n] at mu;exact mu
 have hb:∀b,H b=none->b≠e:=fun b n z=>by
  subst z
  rcases he with r|r
  ·exact hx b n r
  ·rw[n] at r;cases r
 have hm:∀b u,H b=some u->¬FP (some u)->b≠x:=fun b u q nm z=>by subst z;rw[q] at mu;exact nm mu
 refine⟨fun b u q n _ _=>k b u (hb b n) q,fun b u q n _ _=>⟨u.slots,k b u (hb b n) q⟩,fun b u q n _=>by rw[bF (hx b n)];exact n,fun b u q _=>?_,
  fun b xs q=>by rw[bF (hm b _ q fun z=>z)];exact q,fun b u xs q=>by rw[bF (hm b _ q fun z=>z)];exact q,fun b ps q=>⟨#[],by rw[bF (hm b _ q fun z=>z),q];simp⟩⟩
 by_cases hbe:b=e
 ·subst hbe;exact heo
 ·exact⟨u,k b u hbe q⟩
end
noncomputable def j6 (g h:Heap)(L:Addr):List (Addr×Obj):=(List.range h.objs.size).filterMap fun a=>if a=L\/(g.get? a).isSome=true then none else (h.get? a).map fun o=>(a,o)
theorem kP {g h:Heap}{L a:Addr}{o:Obj}(h1:a≠L)(h2:g.get? a=none)(h3:h.get? a=some o):(a,o)∈j6 g h L:=
 List.mem_filterMap.mpr ⟨a,List.mem_range.mpr (Heap.lt_size h3),by simp[h1,h2,h3]⟩
theorem mh {g h:Heap}{L:Addr}{p:Addr×Obj}(hp:p∈j6 g h L):p.1≠L/\g.get? p.1=none/\h.get? p.1=some p.2:=by
 obtain⟨b,_,e⟩:=List.mem_filterMap.mp hp
 split at e
 ·cases e
 ·rename_i hn
  cases q:h.get? b with
  |none=>rw[q] at e;simp at e
  |some u=>
   rw[q] at e
   simp only[Option.map_some,Option.some.injEq] at e
   subst e
   refine⟨fun z=>hn (.inl z),?_,q⟩
   show g.get? b=none
   cases r:g.get? b with
   |none=>rfl
   |some v=>exact (hn (.inr (by simp[r]))).elim
noncomputable def fx (g h:Heap)(L d:Addr):List (Addr×Obj):=(j6 g h L).filter fun p=>decide (p.1≠d)
theorem wD {g h:Heap}{L:Addr}:News g L h (j6 g h L):=fun p hp=>let ⟨a,b,c⟩:=mh hp;⟨c,a,b⟩
end L2
namespace L2
open PySem PySem.Spec PyProof.Rows
structure Mod (K:PySem.W.Frag)(mg:Str->Option Value)(base:Heap):Prop where
 kin:K.In base
 glob:base.Ns mainGlobals mg
 blt:∃mb,base.Ns builtinsNs mb/\∀x:Str,x ≠ "__name__"->mb x=bootBuiltins x
 nolimit:base.NoLimit
structure Cx where
 prog:Program
 w:World
 K:PySem.W.Frag
 mg:Str->Option Value
 base:Heap
 A:Around
 N:List Str
 s₀:Shared
 H₀:Hp
 env:Env
 outer:List Env
 stack:List Env
 ex:List Addr
 fn:Str->Bool
 calm:Bool
 pn:List (Addr×Obj)
 xe:Value->Shared->Prop
noncomputable def lx (l:List Env):List Addr:=l.filterMap (·.frame)
noncomputable abbrev Cx.fs (X:Cx):List Addr:=lx X.outer
noncomputable def np (sc:Scope)(x:Str):Prop:=sc.names.lookup x=some .local\/sc.names.lookup x=some .cell\/sc.names.lookup x=some .free
noncomputable def Hg (sc:Scope)(x:Str):Prop:=sc.names.lookup x=some .local\/sc.names.lookup x=some .cell
noncomputable def EU (env:Env)(h:Heap)(m:Str->Option Value)(x:Str)(u:Value):Prop:=
 (env.kindOf x=some .local/\m x=some u)\/((env.kindOf x=some .cell\/env.kindOf x=some .free)/\∃c,env.cells.lookup x=some c/\h.IsCell c (some u))
structure Cx.Ok (X:Cx):Prop where
 mod:Mod X.K X.mg X.base
 kind:X.env.scope.kind=.function
 glob:X.env.globals=mainGlobals
 blt:X.env.builtins=builtinsNs
 above:X.s₀.heap.objs.size≤X.env.locals
 inj:∀x y c,X.env.cells.lookup x=some c->X.env.cells.lookup y=some c->x=y
 has:∀x,(X.env.kindOf x=some .cell\/X.env.kindOf x=some .free)->∃c,X.env.cells.lookup x=some c
 cab:∀x c,X.fn x=true->X.env.cells.lookup x=some c->X.s₀.heap.objs.size≤c
 hd:X.calm=true->X.A.handled=none
 frames:X.A.frames=some X.stack
 stk:X.stack=X.outer\/(X.stack=X.env::X.outer/\X.env.frame=some X.env.locals)
 exf:∀b∈X.ex,b≠X.env.locals/\∀x c,X.env.cells.lookup x=some c->c≠b
 bs:∀b o,X.base.get? b=some o->X.s₀.heap.get? b=some o/\X.H₀ b=none
 bsz:X.base.objs.size≤X.s₀.heap.objs.size
 noex:∀b o,X.base.get? b=some o->b∉X.ex
 exfs:∀b∈X.ex,b∉X.fs
 funs:X.s₀.heap.FunFrames X.base X.outer
 frf:∀b∈X.fs,X.H₀ b=none
structure Inv (X:Cx)(pins:List (Addr×Obj))(σ:List (Option V))(H:Hp)(s:Shared):Prop where
 ok:X.Ok
 os:s.os=X.s₀.os
 bare:AllBare s.gens
 base:Un X.fs X.ex X.H₀ H X.s₀.heap s.heap
 loc:∃m,s.heap.Ns X.env.locals m/\∀(i:Nat) (x:Str) (v:V),X.N[i]?=some x->σ[i]?=some (some v)->np X.env.scope x->∃u,hK v u/\EU X.env s.heap m x u
 cell:∀x c,X.env.cells.lookup x=some c->∃v,s.heap.IsCell c v
 free:H X.env.locals=none
 freeC:∀x c,X.env.cells.lookup x=some c->H c=none
 pin:∀p∈X.pn++pins,s.heap.get? p.1=some p.2/\H p.1=none/\p.1≠X.env.locals/\p.1∉X.fs/\∀v,p.2.data≠.cell v
 hok:HOk X.prog X.w H s.heap
 len:σ.length=X.N.length
section
variable {X:Cx}{pins:List (Addr×Obj)}{σ:List (Option V)}{H H':Hp}{s:Shared}{h':Heap}
theorem Cx.Ok.nofr (ok:X.Ok){b:Addr}{o:Obj}(e:X.base.get? b=some o):b∉X.fs:=fun hb=>by
 have:=(ok.funs.mem hb).1
 rw[e] at this;cases this
theorem Inv.bs (I:Inv X pins σ H s):∀b o,X.base.get? b=some o->s.heap.get? b=some o/\H b=none:=fun b o e=>
 ⟨I.base.keep b o (I.ok.bs b o e).1 (I.ok.bs b o e).2 (I.ok.nofr e) (I.ok.noex b o e),I.base.free b o (I.ok.bs b o e).1 (I.ok.bs b o e).2 (I.ok.noex b o e)⟩
theorem Inv.bk (I:Inv X pins σ H s):∀b o,X.base.get? b=some o->s.heap.get? b=some o:=fun b o e=>(I.bs b o e).1
theorem Inv.mod (I:Inv X pins σ H s):Mod X.K X.mg X.base:=I.ok.mod
theorem Inv.kIn (I:Inv X pins σ H s):X.K.In s.heap:=I.ok.mod.kin.keeps I.bk
theorem Inv.fr (I:Inv X pins σ H s):∃m,Fr X.base X.env.locals s.heap m:=
 let ⟨m,hn,_⟩:=I.loc
 ⟨m,hn,I.bk,Nat.le_trans I.ok.bsz I.ok.above⟩
theorem Inv.lt (I:Inv X pins σ H s):X.env.locals<s.heap.objs.size:=let ⟨_,hn,_⟩:=I.loc;hn.lt
theorem Inv.sz (I:Inv X pins σ H s):X.s₀.heap.objs.size≤s.heap.objs.size:=Nat.le_trans I.ok.above (Nat.le_of_lt I.lt)
theorem Inv.nofs (I:Inv X pins σ H s){a:Addr}(h:s.heap.objs.size≤a):a∉X.fs:=fun hb=>by
 obtain⟨_,o,ho,_⟩:=I.ok.funs.mem hb
 exact absurd (Nat.lt_of_lt_of_le (Heap.lt_size ho) (Nat.le_trans I.sz h)) (Nat.lt_irrefl _)
theorem Inv.cne (I:Inv X pins σ H s):∀x c,X.env.cells.lookup x=some c->c≠X.env.locals:=fun x c e z=>by
 obtain⟨v,o,ho,hd⟩:=I.cell x c e
 obtain⟨m,⟨o',es,ep,ho',hd',_⟩,_⟩:=I.loc
 rw[z,ho'] at ho;cases ho;rw[hd'] at hd;cases hd
theorem Inv.funs (I:Inv X pins σ H s):s.heap.FunFrames X.base X.outer:=by
 have all:∀(l:List Env),(∀b∈lx l,b∈X.fs)->X.s₀.heap.FunFrames X.base l->s.heap.FunFrames X.base l:=by
  intro l
  induction l with
  |nil=>intro _ _;trivial
  |cons env r ih=>
   intro hs hl
   obtain⟨hk,⟨L,o,hf,hn,ho,hd⟩,hr⟩:=hl
   have hL:L∈X.fs:=hs L (by unfold lx;rw[List.filterMap_cons,hf];exact List.mem_cons_self)
   obtain⟨sl,e⟩:=I.base.slot L o ho (I.ok.frf L hL) hL fun z=>I.ok.exfs L z hL
   exact⟨hk,⟨L,_,hf,hn,e,hd⟩,ih (fun b hb=>hs b (by unfold lx;rw[List.filterMap_cons,hf];exact List.mem_cons_of_mem _ hb)) hr⟩
 exact all X.outer (fun _ hb=>hb) I.ok.funs
theorem Inv.stack (I:Inv X pins σ H s):s.heap.FunFrames X.base X.stack:=by
 rcases I.ok.stk with e|⟨e,hf⟩
 ·rw[e];exact I.funs
 ·rw[e]
  obtain⟨m,hn,_⟩:=I.loc
  refine .cons (by rw[I.ok.kind];decide) hf hn ?_ I.funs
  exact Heap.get?_none_of_le (Nat.le_trans I.ok.bsz I.ok.above)
theorem Inv.stkSub (I:Inv X pins σ H s):∀b∈lx X.stack,b∈X.env.locals::X.fs:=fun b hb=>by
 rcases I.ok.stk with e|⟨e,hf⟩
 ·rw[e] at hb;exact List.mem_cons_of_mem _ hb
 ·rw[e] at hb
  unfold lx at hb
  rw[List.filterMap_cons,hf] at hb
  exact hb
theorem Inv.stkFree (I:Inv X pins σ H s):∀b∈lx X.stack,H b=none:=fun b hb=>by
 rcases List.mem_cons.mp (I.stkSub b hb) with e|hb
 ·rw[e];exact I.free
 ·obtain⟨_,o,ho,_⟩:=I.ok.funs.mem hb
  exact I.base.free b o ho (I.ok.frf b hb) fun z=>I.ok.exfs b z hb
theorem Inv.step {g':Array GenState}{t':Nat}{d':Drawn}{ch:List Addr}(I:Inv X pins σ H s)
  (hch:∀b∈ch,(b∈X.ex\/X.s₀.heap.objs.size≤b)/\b≠X.env.locals/\(∀x c,X.env.cells.lookup x=some c->c≠b)/\∀p∈X.pn++pins,p.1≠b)
  (keep:∀b o,b≠X.env.locals->b∉X.fs->b∉ch->s.heap.get? b=some o->H b=none->h'.get? b=some o)
  (slot:∀b o,b≠X.env.locals->b∈X.fs->b∉ch->s.heap.get? b=some o->H b=none->∃sl,h'.get? b=some { o with slots:=sl }) (free:∀b o,b∉ch->s.heap.get? b=some o->H b=none->H' b=none)
  (there:∀b o,b∉ch->s.heap.get? b=some o->∃o',h'.get? b=some o')
  (tups:∀b xs,H b=some (.tup xs)->H' b=some (.tup xs)) (frzs:∀b o u,H b=some (.frz o u)->H' b=some (.frz o u)) (tbls:∀b ps,H b=some (.tbl ps)->∃more,H' b=some (.tbl (ps++more)))
  (ns:∀m,s.heap.Ns X.env.locals m->h'.Ns X.env.locals m) (hok:HOk X.prog X.w H' h') (hg:AllBare g') :
  Inv X pins σ H' { s with heap:=h',gens:=g',drawn:=d',toks:=t' }:=by
 have neL:∀b o,X.s₀.heap.get? b=some o->b≠X.env.locals:=fun b o e=>Nat.ne_of_lt (Nat.lt_of_lt_of_le (Heap.lt_size e) I.ok.above)
 have neC:∀b o,X.s₀.heap.get? b=some o->b∉X.ex->b∉ch:=fun b o e hx hb=>by
  rcases (hch b hb).1 with z|z
  ·exact hx z
  ·exact absurd (Nat.lt_of_lt_of_le (Heap.lt_size e) z) (Nat.lt_irrefl _)
 have cellK:∀x c,X.env.cells.lookup x=some c->∀v,s.heap.IsCell c v->h'.IsCell c v:=fun x c e v ⟨o,ho,hd⟩=>by
  have nch:c∉ch:=fun z=>(hch c z).2.2.1 x c e rfl
  by_cases hc:c∈X.fs
  ·obtain⟨sl,q⟩:=slot c o (I.cne x c e) hc nch ho (I.freeC x c e)
   exact⟨_,q,hd⟩
  ·exact⟨o,keep c o (I.cne x c e) hc nch ho (I.freeC x c e),hd⟩
 refine⟨I.ok,I.os,hg,⟨fun b o e n hb hx=>?_,fun b o e n hb hx=>?_,fun b o e n hx=>?_,fun b o e hx=>?_,fun b xs e=>tups b xs (I.base.tups b xs e),fun b o xs e=>frzs b o xs (I.base.frzs b o xs e),fun b ps e=>?_⟩,?_,fun x c e=>?_,?_,fun x c e=>?_,fun p hp=>?_,hok,I.len⟩
 ·exact keep b o (neL b o e) hb (neC b o e hx) (I.base.keep b o e n hb hx) (I.base.free b o e n hx)
 ·obtain⟨sl,e1⟩:=I.base.slot b o e n hb hx
  obtain⟨sl',e2⟩:=slot b _ (neL b o e) hb (neC b o e hx) e1 (I.base.free b o e n hx)
  exact⟨sl',e2⟩
 ·obtain⟨o',e1⟩:=I.base.there b o e hx
  exact free b o' (neC b o e hx) e1 (I.base.free b o e n hx)
 ·obtain⟨o',e1⟩:=I.base.there b o e hx
  exact there b o' (neC b o e hx) e1
 ·obtain⟨m1,e1⟩:=I.base.tbls b ps e
  obtain⟨m2,e2⟩:=tbls b _ e1
  exact⟨m1++m2,by rw[e2,Array.append_assoc]⟩
 ·obtain⟨m,hn,hl⟩:=I.loc
  refine⟨m,ns m hn,fun i x v e1 e2 e3=>?_⟩
  obtain⟨u,r,l⟩:=hl i x v e1 e2 e3
  refine⟨u,r,?_⟩
  rcases l with l|⟨k,c,e,z⟩
  ·exact .inl l
  ·exact .inr ⟨k,c,e,cellK x c e _ z⟩
 ·obtain⟨v,z⟩:=I.cell x c e
  exact⟨v,cellK x c e v z⟩
 ·obtain⟨m,⟨o,_,_,ho,_⟩,_⟩:=I.loc
  exact free _ o (fun z=>(hch _ z).2.1 rfl) ho I.free
 ·obtain⟨v,o,ho,hd⟩:=I.cell x c e
  exact free c o (fun z=>(hch c z).2.2.1 x c e rfl) ho (I.freeC x c e)
 ·obtain⟨e,n,ne,nf,d⟩:=I.pin p hp
  have nch:p.1∉ch:=fun z=>(hch p.1 z).2.2.2 p hp rfl
  exact⟨keep p.1 p.2 ne nf nch e n,free p.1 p.2 nch e n,ne,nf,d⟩
theorem Inv.un {t':Nat}(I:Inv X pins σ H s)(u:Un X.fs [] H H' s.heap h')(hok:HOk X.prog X.w H' h'):Inv X pins σ H' { s with heap:=h',toks:=t' }:=by
 obtain⟨m,⟨o,es,ep,ho,r⟩,_⟩:=id I.loc
 obtain⟨sl,hL⟩:=u.any ho I.free (by simp)
 exact I.step (g':=s.gens) (d':=s.drawn) (ch:=[]) (fun _ z=>nomatch z) (fun b o _ hb _ e n=>u.keep b o e n hb (by simp)) (fun b o _ hb _ e n=>u.slot b o e n hb (by simp)) (fun b o _ e n=>u.free b o e n (by simp)) (fun b o _ e=>u.there b o e (by simp)) u.tups u.frzs u.tbls (fun m' hm=>by
  obtain⟨o',es',ep',ho',r'⟩:=hm
  rw[ho] at ho';cases ho'
  exact⟨_,es',ep',hL,r'⟩) hok I.bare
theorem Inv.call {g':Array GenState}{t':Nat}{d':Drawn}{ch:List Addr}(I:Inv X pins σ H s)(u:Un (lx X.stack) ch H H' s.heap h')(hok:HOk X.prog X.w H' h')(hg:AllBare g')
  (hch:∀b∈ch,(b∈X.ex\/X.s₀.heap.objs.size≤b)/\b≠X.env.locals/\(∀x c,X.env.cells.lookup x=some c->c≠b)/\∀p∈X.pn++pins,p.1≠b) :
  Inv X pins σ H' { s with heap:=h',gens:=g',drawn:=d',toks:=t' }:=by
 obtain⟨m,⟨o,es,ep,ho,r⟩,_⟩:=id I.loc
 obtain⟨sl,hL⟩:=u.any ho I.free fun z=>(hch _ z).2.1 rfl
 exact I.step (ch:=ch) hch (fun b o hL hb hc e n=>u.keep b o e n (fun z=>(List.mem_cons.mp (I.stkSub b z)).elim hL hb) hc) (fun b o _ _ hc e n=>u.any e n hc) (fun b o hc e n=>u.free b o e n hc) (fun b o hc e=>u.there b o e hc) u.tups u.frzs u.tbls (fun m' hm=>by
  obtain⟨o',es',ep',ho',r'⟩:=hm
  rw[ho] at ho';cases ho'
  exact⟨_,es',ep',hL,r'⟩) hok hg
theorem Inv.turned {t':Nat}{it:Addr}(I:Inv X pins σ H s)(k:∀b o,b≠it->s.heap.get? b=some o->h'.get? b=some o)(hn:H it=none)(hL:it≠X.env.locals)
  (h1:it∈X.ex\/X.s₀.heap.objs.size≤it) (h2:∀x c,X.env.cells.lookup x=some c->c≠it) (h3:∀p∈X.pn++pins,p.1≠it):Inv X pins σ H { s with heap:=h',toks:=t' }:=by
 have nit:∀b u,H b=some u->b≠it:=fun b u e z=>by rw[z,hn] at e;cases e
 refine I.step (g':=s.gens) (d':=s.drawn) (ch:=[it]) (fun b hb=>?_) (fun b o _ _ hc e _=>k b o (fun z=>hc (by simp[z])) e) (fun b o _ _ hc e _=>⟨o.slots,k b o (fun z=>hc (by simp[z])) e⟩) (fun _ _ _ _ n=>n)
  (fun b o hc e=>⟨o,k b o (fun z=>hc (by simp[z])) e⟩) (fun _ _ e=>e) (fun _ _ _ e=>e) (fun b ps e=>⟨#[],by rw[e];simp⟩) (fun m hm=>?_) (fun b u e=>?_) I.bare
 ·have e:b=it:=by simpa using hb
  subst e
  exact⟨h1,hL,h2,h3⟩
 ·obtain⟨o,es,ep,ho,r⟩:=hm
  exact⟨o,es,ep,k _ o (Ne.symm hL) ho,r⟩
 ·refine (I.hok b u e).stay (fun c v hc q=>k c v ?_ q) (fun _ q=>q) fun _ _ q=>q
  rcases hc with z|z
  ·rw[z];exact nit b u e
  ·exact nit c _ z
theorem Inv.kept {t':Nat}(I:Inv X pins σ H s)(k:∀b u,s.heap.get? b=some u->h'.get? b=some u):Inv X pins σ H { s with heap:=h',toks:=t' }:=I.un (Un.kept k) (I.hok.kept k)
theorem Inv.write {x e:Addr}{o:HO}{t':Nat}(I:Inv X pins σ H s)(mu:FP (H x))(he:e=x\/H e=some (.own x))(k:∀b u,b≠e->s.heap.get? b=some u->h'.get? b=some u)(heo:∃u,h'.get? e=some u)
  (new:ObjOk X.prog X.w (eV H x o) h' x o):Inv X pins σ (eV H x o) { s with heap:=h',toks:=t' }:=I.un (Un.write mu he k heo) (I.hok.write mu he k heo new)
theorem Inv.pins_of {pins':List (Addr×Obj)}(I:Inv X pins σ H s)(h:∀p∈pins',s.heap.get? p.1=some p.2/\H p.1=none/\p.1≠X.env.locals/\p.1∉X.fs/\∀v,p.2.data≠.cell v):Inv X pins' σ H s:=
 ⟨I.ok,I.os,I.bare,I.base,I.loc,I.cell,I.free,I.freeC,fun p hp=>(List.mem_append.mp hp).elim (fun z=>I.pin p (List.mem_append_left _ z)) (h p),I.hok,I.len⟩
theorem qD {N:List Str}(hN:N.Nodup){i j:Nat}{x:Str}(a:N[i]?=some x)(b:N[j]?=some x):i=j:=by
 obtain⟨h1,e1⟩:=List.getElem?_eq_some_iff.mp a
 obtain⟨h2,e2⟩:=List.getElem?_eq_some_iff.mp b
 exact (List.getElem_inj hN).mp (e1.trans e2.symm)
theorem ij {M:Model}{A:Around}{E:Value->Shared->Prop}{i:Nat}{x:Str}{v:V}{u:Value}{Q:Unit->Shared->Prop}(I:Inv X pins σ H s)(hN:X.N.Nodup)(hi:X.N[i]?=some x)(hx:Hg X.env.scope x)(r:hK v u)
  (h:∀s',Inv X pins (σ.set i (some v)) H s'->(∃a,Heap.SameBut a s.heap s'.heap/\(a=X.env.locals\/X.env.cells.lookup x=some a))->Q () s') (hf:X.fn x=true\/X.env.scope.names.lookup x=some .local:=by first|exact .inl rfl|exact .inr rfl|assumption):wpAny M A (storeName X.env x u) Q E s:=by
 obtain⟨m,hn,hl⟩:=id I.loc
 have hcls:(X.env.scope.kind==.class || (X.env.scope.kind==.module&&X.env.locals != X.env.globals))=false:=by rw[I.ok.kind];rfl
 have hiσ:i<σ.length:=by rw[I.len];exact (List.getElem?_eq_some_iff.mp hi).1
 have cne:=I.cne
 have tracked:∀{a:Addr} {h':Heap},(∃o,s.heap.get? a=some o/\H a=none)->Heap.SameBut a s.heap h'->HOk X.prog X.w H h':=fun {a h'} ha hs b ob e=>by
  obtain⟨_,_,hfree⟩:=ha
  refine (I.hok b ob e).stay (fun c w' hc q=>(hs.2 c ?_).trans q) (fun _ q=>q) fun _ _ q=>q
  rintro rfl
  rcases hc with rfl|hc
  ·rw[hfree] at e;cases e
  ·rw[hfree] at hc;cases hc
 rcases hx with hk|hk
 ·refine wpAny_storeName_local hk hn (fun h' hn' hs=>?_) hcls
  obtain⟨oL,_,_,hoL,_⟩:=id hn
  refine h _ ⟨I.ok,I.os,I.bare,⟨fun b o e n hb hx=>?_,fun b o e n hb hx=>?_,I.base.free,fun b o e hx=>?_,I.base.tups,I.base.frzs,I.base.tbls⟩,⟨_,hn',fun j y v' e1 e2 e3=>?_⟩,fun y c e=>?_,I.free,I.freeC,fun p hp=>?_,tracked ⟨oL,hoL,I.free⟩ hs,by simpa using I.len⟩ ⟨_,hs,.inl rfl⟩
  ·exact (hs.2 b (Nat.ne_of_lt (Nat.lt_of_lt_of_le (Heap.lt_size e) I.ok.above))).trans (I.base.keep b o e n hb hx)
  ·obtain⟨sl,e1⟩:=I.base.slot b o e n hb hx
   exact⟨sl,(hs.2 b (Nat.ne_of_lt (Nat.lt_of_lt_of_le (Heap.lt_size e) I.ok.above))).trans e1⟩
  ·obtain⟨o',e1⟩:=I.base.there b o e hx
   exact⟨o',(hs.2 b (Nat.ne_of_lt (Nat.lt_of_lt_of_le (Heap.lt_size e) I.ok.above))).trans e1⟩
  ·by_cases hj:j=i
   ·subst hj
    rw[hi] at e1;cases e1
    rw[List.getElem?_set_self hiσ] at e2
    cases e2
    exact⟨u,r,.inl ⟨hk,by simp⟩⟩
   ·rw[List.getElem?_set_ne (Ne.symm hj)] at e2
    obtain⟨u',r',q⟩:=hl j y v' e1 e2 e3
    refine⟨u',r',?_⟩
    rcases q with ⟨k,e⟩|⟨k,c,e,z⟩
    ·refine .inl ⟨k,?_⟩
     have:y≠x:=fun e=>hj (qD hN e1 (e▸hi))
     simp[this,e]
    ·exact .inr ⟨k,c,e,z.sameBut hs (cne y c e)⟩
  ·obtain⟨w',z⟩:=I.cell y c e
   exact⟨w',z.sameBut hs (cne y c e)⟩
  ·obtain⟨e,n,ne,nf,d⟩:=I.pin p hp
   exact⟨(hs.2 p.1 ne).trans e,n,ne,nf,d⟩
 ·have hfn:X.fn x=true:=by
   rcases hf with z|z
   ·exact z
   ·rw[z] at hk;cases hk
  obtain⟨c,hc⟩:=I.ok.has x (.inl hk)
  obtain⟨w',z⟩:=I.cell x c hc
  refine wpAny_storeName_cell I.ok.kind hk hc z (fun h' hc' hs=>?_)
  obtain⟨oc,hoc,hocd⟩:=id z
  refine h { s with heap:=h' } ⟨I.ok,I.os,I.bare,⟨fun b o e n hb hx=>?_,fun b o e n hb hx=>?_,I.base.free,fun b o e hx=>?_,I.base.tups,I.base.frzs,I.base.tbls⟩,⟨m,hn.sameBut hs (Ne.symm (cne x c hc)),fun j y v' e1 e2 e3=>?_⟩,fun y c' e=>?_,I.free,I.freeC,fun p hp=>?_,tracked ⟨oc,hoc,I.freeC x c hc⟩ hs,by simpa using I.len⟩ ⟨c,hs,.inr hc⟩
  ·exact (hs.2 b (Nat.ne_of_lt (Nat.lt_of_lt_of_le (Heap.lt_size e) (I.ok.cab x c hfn hc)))).trans (I.base.keep b o e n hb hx)
  ·obtain⟨sl,e1⟩:=I.base.slot b o e n hb hx
   exact⟨sl,(hs.2 b (Nat.ne_of_lt (Nat.lt_of_lt_of_le (Heap.lt_size e) (I.ok.cab x c hfn hc)))).trans e1⟩
  ·obtain⟨o',e1⟩:=I.base.there b o e hx
   exact⟨o',(hs.2 b (Nat.ne_of_lt (Nat.lt_of_lt_of_le (Heap.lt_size e) (I.ok.cab x c hfn hc)))).trans e1⟩
  ·by_cases hj:j=i
   ·subst hj
    rw[hi] at e1;cases e1
    rw[List.getElem?_set_self hiσ] at e2
    cases e2
    exact⟨u,r,.inr ⟨.inl hk,c,hc,hc'⟩⟩
   ·rw[List.getElem?_set_ne (Ne.symm hj)] at e2
    obtain⟨u',r',q⟩:=hl j y v' e1 e2 e3
    refine⟨u',r',?_⟩
    rcases q with q|⟨k,c',e,z'⟩
    ·exact .inl q
    ·refine .inr ⟨k,c',e,z'.sameBut hs ?_⟩
     rintro rfl
     exact hj (qD hN e1 (I.ok.inj _ _ _ e hc▸hi))
  ·by_cases hcc:c'=c
   ·subst hcc;exact⟨_,hc'⟩
   ·obtain⟨w2,z2⟩:=I.cell y c' e
    exact⟨w2,z2.sameBut hs hcc⟩
  ·obtain⟨e,n,ne,nf,d⟩:=I.pin p hp
   refine⟨(hs.2 p.1 ?_).trans e,n,ne,nf,d⟩
   intro q
   rw[q,hoc] at e
   have q':oc=p.2:=Option.some.inj e
   exact d w' (by rw[←q'];exact hocd)
theorem Inv.call' {s':Shared}{ch:List Addr}(I:Inv X pins σ H s)(ho:s'.os=s.os)(u:Un (lx X.stack) ch H H' s.heap s'.heap)(hok:HOk X.prog X.w H' s'.heap)(hg:AllBare s'.gens)
  (hch:∀b∈ch,(b∈X.ex\/X.s₀.heap.objs.size≤b)/\b≠X.env.locals/\(∀x c,X.env.cells.lookup x=some c->c≠b)/\∀p∈X.pn++pins,p.1≠b):Inv X pins σ H' s':=by
 obtain⟨h',g',d',t',o'⟩:=s'
 have e:o'=s.os:=ho
 subst e
 exact I.call (g':=g') (t':=t') (d':=d') u hok hg hch
end
noncomputable abbrev XK:=Value->Option Addr->Hp->Prop
noncomputable abbrev St:=List (Option V)
noncomputable abbrev VK:=V->Hp->Prop
noncomputable abbrev TE:=St->Hp->VK->Prop
noncomputable abbrev TT:=St->Hp->(Bool->Hp->Prop)->Prop
noncomputable abbrev TA:=St->Hp->(List V->Hp->Prop)->Prop
structure Ends where
 nx:St->Hp->Prop
 rt:VK
 bk:St->Hp->Prop:=fun _ _=>False
 ct:St->Hp->Prop:=fun _ _=>False
noncomputable abbrev TS:=Ends->St->Hp->Prop
noncomputable def EP (X:Cx)(pins:List (Addr×Obj))(σ:St)(Q:VK)(u:Value)(s':Shared):Prop:=∃v H',Inv X pins σ H' s'/\hK v u/\Q v H'
noncomputable def PE (X:Cx)(e:Expr)(t:TE):Prop:=
 ∀(pins:List (Addr×Obj)) (s:Shared) (σ:St) (H:Hp) (Q:VK),Inv X pins σ H s->t σ H Q->wpAny (model X.prog X.w) X.A (eval e X.env) (EP X pins σ Q) X.xe s
theorem bE {α:Type}{t:Sem α}{Q Q':α->Shared->Prop}{M:Model}{A:Around}{E:Value->Shared->Prop}{s:Shared}(h:wpAny M A t Q E s)(hQ:∀a s,Q a s->Q' a s):wpAny M A t Q' E s:=wpAny_mono h hQ fun _ _ x=>x
end L2
namespace L2
open PySem PySem.Spec PyProof.Rows
section
variable {X:Cx}
noncomputable def E6 (i:Nat):TE:=fun σ H Q=>∃v,σ[i]?=some (some v)/\Q v H
theorem CU {i:Nat}{x:Str}{pos:Pos}(hN:X.N[i]?=some x)(hv:np X.env.scope x)(hd:(x==("__debug__" : Str))=false:=by decide)(hcd:(x==("__classdict__" : Str))=false:=by decide):PE X (.Name x pos) (E6 i):=by
 intro pins s σ H Q I h
 obtain⟨v,e,h⟩:=h
 obtain⟨m,hn,hl⟩:=I.loc
 obtain⟨u,r,l⟩:=hl i x v hN e hv
 have fin:EP X pins σ Q u s:=⟨v,H,I,r,h⟩
 rcases l with ⟨hk,hm⟩|⟨hk,c,hc,hcell⟩
 ·exact wpAny_Name (wpAny_loadName_local I.ok.kind hk hn hm fin) hd
 ·rcases hk with hk|hk
  ·exact wpAny_Name (wpAny_loadName_cell I.ok.kind hk hc hcell fin) hd
  ·exact wpAny_Name (wpAny_loadName_free I.ok.kind hk hc hcell fin hcd) hd
noncomputable def Gl (X:Cx)(x:Str):Prop:=X.env.kindOf x=some .globalImplicit
theorem lu {E:Value->Shared->Prop}{pins:List (Addr×Obj)}{s:Shared}{σ:St}{H:Hp}{x:Str}{u:Value}{pos:Pos}{Q:Value->Shared->Prop}(I:Inv X pins σ H s)(hg:Gl X x)(hm:X.mg x=some u)(h:Q u s)
  (hd:(x==("__debug__" : Str))=false:=by decide):wpAny (model X.prog X.w) X.A (eval (.Name x pos) X.env) Q E s:=
 Calls.Name_function_global I.ok.kind hg (Calls.loadGlobal_global (by rw[I.ok.glob];exact I.mod.glob.keeps I.bk) hm h) hd
theorem jM {E:Value->Shared->Prop}{pins:List (Addr×Obj)}{s:Shared}{σ:St}{H:Hp}{x:Str}{u:Value}{pos:Pos}{Q:Value->Shared->Prop}(I:Inv X pins σ H s)(hg:Gl X x)(hm:X.mg x=none)(hv:bootBuiltins x=some u)(h:Q u s)
  (hn:x ≠ "__name__":=by decide) (hd:(x==("__debug__" : Str))=false:=by decide):wpAny (model X.prog X.w) X.A (eval (.Name x pos) X.env) Q E s:=by
 obtain⟨mb,h1,h2⟩:=I.mod.blt
 exact Calls.Name_function_global I.ok.kind hg (Calls.loadGlobal_builtin (by rw[I.ok.glob];exact I.mod.glob.keeps I.bk) hm (by rw[I.ok.blt];exact h1.keeps I.bk) ((h2 x hn).trans hv) h) hd
variable {a b:Expr}{ta tb:TE}{pos:Pos}
variable {tA tB':TT}{fx:List Expr}
end
end L2
namespace L2
open PySem PySem.Spec PyProof.Rows
noncomputable def HD (K:PySem.W.Frag)(H:Hp)(a:Addr)(xs:List V):Prop:=
 Rd H a (.lst xs) ∨
  ∃(o:Obj) (its:Array Value) (n:Nat),K.lookup a=some o/\o.cls=.type "list"/\o.dict=none/\o.data=.seq its n/\its.size≤sizeLine/\Vals xs its.toList
noncomputable def Hu (K:PySem.W.Frag)(H:Hp)(a:Addr)(xs:List V):Prop:=
 Rd H a (.tup xs) ∨
  ∃(o:Obj) (its:Array Value) (n:Nat),K.lookup a=some o/\o.cls=.type "tuple"/\o.data=.seq its n/\its.size≤sizeLine/\Vals xs its.toList
section
variable {X:Cx}{pins:List (Addr×Obj)}{σ:St}{H:Hp}{s:Shared}{a:Addr}{xs ys:List V}
end
section
variable {X:Cx}{pins:List (Addr×Obj)}{σ:St}{H:Hp}{s:Shared}{E:Value->Shared->Prop}
end
section
variable {X:Cx}{st:Stmt}{fx:List Stmt}{t u:TS}{e:Expr}{te:TE}{pos:Pos}
theorem Inv.quiet {pins:List (Addr×Obj)}{σ:St}{H:Hp}{s:Shared}(I:Inv X pins σ H s):interactive X.env=false:=by simp[interactive,I.ok.kind]
end
noncomputable def hV (X:Cx)(pins:List (Addr×Obj))(H:Hp)(b:Addr):Prop:=
 H b=none/\b≠X.env.locals/\b∉X.fs/\(b∈X.ex\/X.s₀.heap.objs.size≤b)/\(∀x c,X.env.cells.lookup x=some c->c≠b)/\∀p∈X.pn++pins,p.1≠b
theorem Inv.fpOk {X:Cx}{pins:List (Addr×Obj)}{σ:St}{H H':Hp}{s:Shared}{b:Addr}(I:Inv X pins σ H s)(hb:s.heap.objs.size≤b)(hn:H' b=none):hV X pins H' b:=by
 refine⟨hn,Nat.ne_of_gt (Nat.lt_of_lt_of_le I.lt hb),I.nofs hb,.inr (Nat.le_trans I.sz hb),fun x c e z=>?_,fun p hp z=>?_⟩
 ·obtain⟨v,q⟩:=I.cell x c e
  exact absurd (Nat.lt_of_lt_of_le q.lt (by rw[z];exact hb)) (Nat.lt_irrefl _)
 ·exact absurd (Nat.lt_of_lt_of_le (Heap.lt_size (I.pin p hp).1) (by rw[z];exact hb)) (Nat.lt_irrefl _)
theorem qN {M:Model}{A:Around}{E:Value->Shared->Prop}{s:Shared}{tg:Expr}{it:Addr}{u:Value}{o:Obj}{n:String}{vs:Array Value}{Q:Unit->Shared->Prop}(ho:s.heap.get? it=some o)(hc:o.cls=.type n)(hd:o.data=.fields vs)
  (hn:["enumerate","zip","dict_itemiterator","dict_reverseitemiterator","odict_iterator","itertools.zip_longest","itertools.pairwise"].contains n=false) (hQ:Q () s):wpAny M A (letOwnedTupleGo tg (.ref it) u) Q E s:=by
 unfold letOwnedTupleGo
 cases tg<;>first
  |exact wpAny_pure hQ
  |(cases u<;>first
    |exact wpAny_pure hQ
    |(refine wpAny_bind (wpAny_load ho ?_)
      rw[hc,hd]
      show wpAny M A (if (["enumerate","zip","dict_itemiterator","dict_reverseitemiterator","odict_iterator","itertools.zip_longest","itertools.pairwise"].contains n&&vs[0]?==some (rawInt _))=true then _ else _) Q E s
      rw[if_neg (by intro h;rw[hn,Bool.false_and] at h;cases h)]
      exact wpAny_pure hQ))
end L2
namespace L2
open PySem PySem.Spec PyProof.Rows
section
variable {X:Cx}{tg:Expr}
noncomputable def jG (fp:List Addr)(h:Heap):List (Addr×Obj):=fp.filterMap fun b=>(h.get? b).map fun o=>(b,o)
theorem sO {fp:List Addr}{h:Heap}{b:Addr}{o:Obj}(hb:b∈fp)(e:h.get? b=some o):(b,o)∈jG fp h:=List.mem_filterMap.mpr ⟨b,hb,by rw[e];rfl⟩
theorem vt {fp:List Addr}{h:Heap}{p:Addr×Obj}(hp:p∈jG fp h):p.1∈fp/\h.get? p.1=some p.2:=by
 obtain⟨b,hb,e⟩:=List.mem_filterMap.mp hp
 cases q:h.get? b with
 |none=>rw[q] at e;cases e
 |some o=>
  rw[q] at e
  have e':(b,o)=p:=Option.some.inj e
  subst e'
  exact⟨hb,q⟩
theorem Inv.pinned {pins:List (Addr×Obj)}{σ:St}{H:Hp}{s:Shared}{fp:List Addr}(I:Inv X pins σ H s)(hf:∀b∈fp,hV X pins H b)(ho:∀b∈fp,∃o,s.heap.get? b=some o/\∀v,o.data≠.cell v):Inv X (pins++jG fp s.heap) σ H s:=
 I.pins_of fun p hp=>(List.mem_append.mp hp).elim (fun z=>I.pin p (List.mem_append_right _ z)) fun z=>by
  obtain⟨hb,e⟩:=vt z
  obtain⟨f0,f1,f2,_⟩:=hf p.1 hb
  obtain⟨o,e',d⟩:=ho p.1 hb
  rw[e] at e';cases e'
  exact⟨e,f0,f1,f2,d⟩
theorem Inv.unpinned {pins pl:List (Addr×Obj)}{σ:St}{H:Hp}{s:Shared}(I:Inv X (pins++pl) σ H s):Inv X pins σ H s:=I.pins_of fun p hp=>I.pin p (List.mem_append_right _ (List.mem_append_left _ hp))
end
end L2
namespace L2
open PySem PySem.Spec PyProof.Rows
noncomputable abbrev R2:=V->V->Hp->VK->Prop
noncomputable def rI (C:Int->Int->Prop)(g:Int->Int->V):R2:=fun x y H Q=>∃i j,x=.int i/\y=.int j/\C i j/\Q (g i j) H
section
variable {X:Cx}{a b c:Expr}{ta tb tc:TE}{pos:Pos}
noncomputable def CMul (i j:Int):Prop:=(-(2 ^ 64)<i/\i<2 ^ 64)\/(-(2 ^ 64)<j/\j<2 ^ 64)
theorem CMul.ok {i j:Int}(h:CMul i j):IntMulOk i j:=by
 rcases h with ⟨h1,h2⟩|⟨h1,h2⟩
 ·exact .of_left (intBits_le_64 h1 h2)
 ·exact .of_right (intBits_le_64 h1 h2)
theorem sF (k:Nat):(0:Int)≤2 ^ k:=by
 rw[two_pow_cast]
 exact Int.natCast_nonneg _
end
noncomputable def D4:V->V->Bool
 |.non,.non=>true|.non,.int _=>true|.int _,.non=>true|.non,.bl _=>true|.bl _,.non=>true|.non,.str _=>true|.str _,.non=>true
 |.int _,.int _=>true|.bl _,.bl _=>true|.str _,.str _=>true|.byt _,.byt _=>true
 |.int _,.str _=>true|.str _,.int _=>true|.bl _,.str _=>true|.str _,.bl _=>true
 |_,_=>false
noncomputable def jR:R2:=fun x y H Q=>D4 x y=true/\Q (.bl (decide (x=y))) H
noncomputable def oq:R2:=fun x y H Q=>D4 x y=true/\Q (.bl (!decide (x=y))) H
section
variable {X:Cx}{a b c:Expr}{ta tb tc:TE}{pos:Pos}
theorem kA:(sizeLine:Nat)<2 ^ 63:=by rw[sizeLine_eq];decide
end
end L2
namespace L2
open PySem PySem.Spec PyProof.Rows
section
variable {X:Cx}{o e value:Expr}{f:Str}{pos pos' tpos:Pos}{ta tv:TE}
noncomputable def cc:V->V->Hp->VK->Prop:=fun x y H Q=>∃i j,x=.int i/\y=.int j/\Q (.int (i+j)) H
noncomputable def iN:V->V->Hp->VK->Prop:=fun x y H Q=>∃i j,x=.int i/\y=.int j/\Q (.int (i - j)) H
end
section
variable {X:Cx}{pins:List (Addr×Obj)}{σ:St}{H:Hp}{s:Shared}{A:Around}{E:Value->Shared->Prop}{Q:Value->Shared->Prop}{c:Value}{b:Bool}
end
end L2
namespace L2
open PySem PySem.Spec PyProof.Rows
noncomputable abbrev Sp:=List V->Hp->VK->XK->Prop
noncomputable abbrev Hf:=List Env->Hp->Shared->XK->Value->Shared->Prop
structure Env0 (P:Program)(w:World)(K:PySem.W.Frag)(mg:Str->Option Value)(base:Heap)(A:Around)(outer:List Env)(s:Shared)(H:Hp):Prop where
 frames:A.frames=some outer
 mod:Mod K mg base
 bs:∀b o,base.get? b=some o->s.heap.get? b=some o/\H b=none
 bsz:base.objs.size≤s.heap.objs.size
 funs:s.heap.FunFrames base outer
 frf:∀b∈lx outer,H b=none
 hok:HOk P w H s.heap
 bare:AllBare s.gens
section
variable {X:Cx}{pins:List (Addr×Obj)}{σ:St}{H:Hp}{s s':Shared}
theorem Inv.env0 (I:Inv X pins σ H s):Env0 X.prog X.w X.K X.mg X.base X.A X.stack s H:=
 ⟨I.ok.frames,I.ok.mod,I.bs,Nat.le_trans I.ok.bsz I.sz,I.stack,I.stkFree,I.hok,I.bare⟩
end
noncomputable def Binds (K:PySem.W.Frag)(fd:FuncData)(ps:List Str)(ds:List Value):Prop:=
 ∀(s:Shared) (us:List Value),K.In s.heap->(us++ds).length=ps.length->BindsTo s fd ⟨us,[]⟩ (ps.zip (us++ds))
theorem Binds.all {K:PySem.W.Frag}{fd:FuncData}{ps:List Str}(h:∀us:List Value,us.length=ps.length->bindArgs fd ⟨us,[]⟩=pure (ps.zip us)):Binds K fd ps []:=fun s us _ hl=>by
 rw[List.append_nil] at hl ⊢
 exact .of_eq (h us hl)
section
variable {X:Cx}{CX:Hf}{k:Nat}{f C:Addr}{fd:FuncData}{ps:List Str}{sp:Sp}{dvs:List V}{ds:List Value}{E:XK}{x m:Str}{p pos apos:Pos}{e o:Expr}{es:List Expr}{ta:TE}{t:TA}
end
section
variable {X:Cx}{CX:Hf}{k:Nat}{f C:Addr}{fd:FuncData}{ps ks:List Str}{sp:Sp}{E:XK}{x m:Str}{p pos apos kpos:Pos}{e o:Expr}{es:List Expr}{kws:List Keyword}{te ta:TE}{t tk:TA}{nm:Option Str}
variable {g:List Value->List Value->List Value}{gV:List V->List V->List V}
end
structure FnScope (N P:List Str)(sc:Scope):Prop where
 kind:sc.kind=.function
 co:sc.isCoroutine=false
 gen:sc.isGenerator=false
 nd:N.Nodup
 pre:N.take P.length=P
 par:∀x∈P,sc.names.lookup x=some .local\/sc.names.lookup x=some .cell
 nofree:∀y∈sc.names,y.2≠.free
theorem nS {kindOf:Str->Option NameKind}{x:Str}:∀{binds:List (Str×Value)} {m:Str->Option Value},(∀v,(x,v)∉binds)->bindL kindOf binds m x=m x
 |[],_,_=>rfl
 |(n,v)::r,m,h=>by
  unfold bindL
  rw[nS fun w hw=>h w (List.mem_cons_of_mem _ hw)]
  split
  ·have:x≠n:=by rintro rfl;exact h v List.mem_cons_self
   simp[this]
  ·rfl
theorem nZ {kindOf:Str->Option NameKind}{x:Str}:∀{binds:List (Str×Value)} {m:Str->Option Value},(∀v,(x,v)∉binds)->bindC kindOf binds m x=m x
 |[],_,_=>rfl
 |(n,v)::r,m,h=>by
  unfold bindC
  rw[nZ fun w hw=>h w (List.mem_cons_of_mem _ hw)]
  split
  ·rfl
  ·have:x≠n:=by rintro rfl;exact h v List.mem_cons_self
   simp[this]
theorem ox {kindOf:Str->Option NameKind}{x:Str}{v:Value}:∀{P:List Str} {vs:List Value} {i:Nat} {m:Str->Option Value},P.Nodup->P[i]?=some x->vs[i]?=some v->kindOf x=some .local →
  bindL kindOf (P.zip vs) m x=some v
 |[],_,_,_,_,h,_,_=>by simp at h
 |_::_,[],_,_,_,_,h,_=>by simp at h
 |p::P,w::vs,0,m,nd,h1,h2,hk=>by
  simp at h1 h2;subst h1;subst h2
  show bindL kindOf ((p,w)::P.zip vs) m p=_
  unfold bindL
  rw[nS fun v hv=>(List.nodup_cons.mp nd).1 (List.of_mem_zip hv).1,if_pos hk]
  simp
 |p::P,w::vs,i+1,m,nd,h1,h2,hk=>by
  show bindL kindOf ((p,w)::P.zip vs) m x=_
  unfold bindL
  exact ox (i:=i) (List.nodup_cons.mp nd).2 (by simpa using h1) (by simpa using h2) hk
theorem n7 {kindOf:Str->Option NameKind}{x:Str}{v:Value}:∀{P:List Str} {vs:List Value} {i:Nat} {m:Str->Option Value},P.Nodup->P[i]?=some x->vs[i]?=some v->kindOf x≠some .local →
  bindC kindOf (P.zip vs) m x=some v
 |[],_,_,_,_,h,_,_=>by simp at h
 |_::_,[],_,_,_,_,h,_=>by simp at h
 |p::P,w::vs,0,m,nd,h1,h2,hk=>by
  simp at h1 h2;subst h1;subst h2
  show bindC kindOf ((p,w)::P.zip vs) m p=_
  unfold bindC
  rw[nZ fun v hv=>(List.nodup_cons.mp nd).1 (List.of_mem_zip hv).1,if_neg hk]
  simp
 |p::P,w::vs,i+1,m,nd,h1,h2,hk=>by
  show bindC kindOf ((p,w)::P.zip vs) m x=_
  unfold bindC
  exact n7 (i:=i) (List.nodup_cons.mp nd).2 (by simpa using h1) (by simpa using h2) hk
noncomputable def gH (N:List Str)(vs:List V):St:=vs.map some++List.replicate (N.length - vs.length) none
theorem qL {sc:Scope}{n:Nat}{x:Str}(h:sc.names.lookup x=some .cell):∃c,(cellsFrom n sc.names []).lookup x=some c:=by
 have q:=PySem.W.cellsFrom_some sc.names n [] (.inl h)
 exact Option.isSome_iff_exists.mp q
end L2
namespace L2
open PySem PySem.Spec PyProof.Rows
end L2
namespace HT
open PySem PyProof.Rows
section
variable {prog:Program}{w:World}{A:Around}{E:Value->Shared->Prop}{s:Shared}
theorem cat_tup {t b:Addr}{vs ws:List Value}{Q:Value->Shared->Prop}(ht:IsTup s.heap t vs.toArray)(hb:IsTup s.heap b ws.toArray)(hv:vs≠[])
  (h1:ws=[]->Q (.ref t) s) (h2:ws≠[]->Q (.ref s.heap.objs.size) { s with heap:=s.heap.push { cls:=.type "tuple",data:=.seq (vs++ws).toArray } })
  (hsz:vs.length+ws.length≤sizeLine):wpAny (model prog w) A (binaryOp .Add (.ref t) (.ref b)) Q E s:=by
 obtain⟨⟨cls,dd,data,sl⟩,ho,hc,n,hd⟩:=id ht
 obtain⟨⟨cls2,dd2,data2,sl2⟩,ho2,hc2,n2,hd2⟩:=id hb
 simp only at hc hd hc2 hd2
 subst hc hd hc2 hd2
 have e:vs.toArray++ws.toArray=(vs++ws).toArray:=by simp
 by_cases hw:ws=[]
 ·exact concat_meets ⟨_,ho,rfl⟩ ⟨_,ho2,rfl⟩ noFill_tuple_add seq_tuple_add PySem.F.slot_tuple_add PySem.F.entry_tuple_add (PySem.F.args_tuple_add_2 _ _)
   (tuple_addW1 t b vs.toArray ws.toArray n n2 dd dd2 sl sl2 (by simpa using hv) (by simp[hw])) ⟨ho,ho2,h1 hw⟩
 ·refine concat_meets ⟨_,ho,rfl⟩ ⟨_,ho2,rfl⟩ noFill_tuple_add seq_tuple_add PySem.F.slot_tuple_add PySem.F.entry_tuple_add (PySem.F.args_tuple_add_2 _ _)
   (tuple_addW2 t b vs.toArray ws.toArray n n2 dd dd2 sl sl2 (by simpa using hv) (by simpa using hw) (by rw[List.size_toArray,List.size_toArray];exact hsz)) ⟨ho,ho2,?_⟩
  rw[e]
  exact h2 hw
noncomputable def sIx (n d:Nat):Option Int->Nat
 |none=>d
 |some v=>if v<0 then (v+(n:Int)).toNat else min v.toNat n
theorem sIx_none (n d:Nat):sIx n d none=d:=rfl
theorem sIx_nat (n d k:Nat):sIx n d (some (k:Int))=min k n:=by
 show (if (k:Int)<0 then ((k:Int)+(n:Int)).toNat else min (k:Int).toNat n)=min k n
 rw[if_neg (by omega),Int.toNat_natCast]
theorem Cr (n d:Nat)(hd:d≤n)(o:Option Int):sIx n d o≤n:=by
 cases o with
 |none=>exact hd
 |some v=>
  show (if v<0 then (v+(n:Int)).toNat else min v.toNat n)≤n
  by_cases hv:v<0
  ·rw[if_pos hv];omega
  ·rw[if_neg hv];exact Nat.min_le_right _ _
theorem uB (v:Int)(n d:Nat):(if v<0 then max (v+(n:Int)) 0 else min v (n:Int))=((sIx n d (some v):Nat):Int):=by
 show (if v<0 then max (v+(n:Int)) 0 else min v (n:Int))=(((if v<0 then (v+(n:Int)).toNat else min v.toNat n):Nat):Int)
 by_cases hv:v<0
 ·simp only[if_pos hv];omega
 ·simp only[if_neg hv];omega
theorem rX (lo hi:Option Int)(n:Nat):Builtin.Slice.sliceAdjust lo hi 1 (n:Int)=(((sIx n 0 lo:Nat):Int),((sIx n n hi:Nat):Int)):=by
 have h1:¬((1:Int)<0):=by omega
 unfold Builtin.Slice.sliceAdjust
 simp only[h1,if_false]
 refine Prod.ext ?_ ?_
 ·cases lo with
  |none=>rfl
  |some v=>exact uB v n 0
 ·cases hi with
  |none=>rfl
  |some v=>exact uB v n n
theorem sa (i j:Nat):Builtin.Slice.slicePlaces (i:Int) (j:Int) 1=j - i:=by
 unfold Builtin.Slice.slicePlaces
 have h1:(1:Int) > 0:=by omega
 simp only[h1,if_true,Int.ediv_one]
 split<;>omega
theorem slicePart_ {v:Value}{o:Option Int}{Q:Option Int->Shared->Prop}(p:IsPart v o)(h:Q o s):wpAny (model prog w) A (Builtin.Slice.slicePartIndex v) Q E s:=by
 cases p with
 |none=>exact slicePart_none h
 |int i t=>exact slicePart_int h
theorem hO {sl:Addr}{vl vu:Value}{lo hi:Option Int}{n:Nat}{Q:Int×Int×Nat->Shared->Prop}(hs:s.heap.IsSliceOf sl vl vu .none)(pl:IsPart vl lo)(pu:IsPart vu hi)
  (h:Q (((sIx n 0 lo:Nat):Int),1,sIx n n hi - sIx n 0 lo) s):wpAny (model prog w) A (Builtin.Slice.sliceApplied (.ref sl) (pure (n:Int))) Q E s:=by
 obtain⟨os,hos,hcs,hds⟩:=id hs
 unfold Builtin.Slice.sliceApplied Builtin.Slice.sliceFields
 refine wpAny_bind (wpAny_bind (wpAny_field hos hds (x:=vl) rfl (wpAny_bind (wpAny_field hos hds (x:=vu) rfl (wpAny_bind (wpAny_field hos hds (x:=.none) rfl (wpAny_pure ?_)))))))
 refine wpAny_bind (slicePart_none ?_)
 show wpAny _ _ (if ((1:Int)==0)=true then _ else _) _ _ s
 rw[if_neg (by decide)]
 refine wpAny_bind (slicePart_ pl (wpAny_bind (slicePart_ pu (wpAny_bind (wpAny_pure ?_)))))
 show wpAny _ _ (match Builtin.Slice.sliceAdjust lo hi 1 (n:Int) with|(lo,hi)=>pure (lo,(1:Int),Builtin.Slice.slicePlaces lo hi 1)) _ _ s
 rw[rX lo hi n]
 show wpAny _ _ (pure (((sIx n 0 lo:Nat):Int),(1:Int),Builtin.Slice.slicePlaces ((sIx n 0 lo:Nat):Int) ((sIx n n hi:Nat):Int) 1)) _ _ s
 rw[sa]
 exact wpAny_pure h
theorem yL (xs:Array Value)(i k:Nat):((List.range k).filterMap fun (m:Nat)=>xs[((i:Int)+(m:Int) * 1).toNat]?).toArray=((xs.toList.drop i).take k).toArray:=by
 have e:(fun (m:Nat)=>xs[((i:Int)+(m:Int) * 1).toNat]?)=fun m=>xs[i+m]?:=by
  funext m
  have:((i:Int)+(m:Int) * 1).toNat=i+m:=by omega
  rw[this]
 rw[e]
 have:=pick_run xs i k
 rw[List.filterMap_map] at this
 have e2:((fun x=>xs[x]?) ∘ fun x=>i+x)=fun m=>xs[i+m]?:=rfl
 rw[e2] at this
 rw[this]
theorem getItem_tuple_cut {t sl:Addr}{items:Array Value}{vl vu:Value}{lo hi:Option Int}{Q:Value->Shared->Prop}(ht:IsTup s.heap t items)(hs:s.heap.IsSliceOf sl vl vu .none)(pl:IsPart vl lo)(pu:IsPart vu hi)
  (hw:¬(sIx items.size 0 lo=0/\sIx items.size items.size hi=items.size))
  (h:Q (.ref s.heap.objs.size) { s with heap:=s.heap.push { cls:=.type "tuple",data:=.seq ((items.toList.drop (sIx items.size 0 lo)).take (sIx items.size items.size hi - sIx items.size 0 lo)).toArray } })
  (hsz:items.size≤sizeLine):wpAny (model prog w) A (getItem (.ref t) (.ref sl)) Q E s:=by
 have htake:sizeOk (.seq ((items.toList.drop (sIx items.size 0 lo)).take (sIx items.size items.size hi - sIx items.size 0 lo)).toArray):=by
  show ((items.toList.drop (sIx items.size 0 lo)).take (sIx items.size items.size hi - sIx items.size 0 lo)).toArray.size≤sizeLine
  rw[List.size_toArray,List.length_take,List.length_drop,Array.length_toList]
  omega
 have hj:sIx items.size items.size hi≤items.size:=Cr _ _ (Nat.le_refl _) hi
 obtain⟨os,hos,hcs,hds⟩:=id hs
 have hTs:s.TypeIs (.ref sl) "slice":=⟨os,hos,hcs⟩
 unfold getItem
 try with_reducible refine wpAny_holding ?_
 first|refine wpAny_bind (wpAny_pure ?_)|skip
 refine wpAny_bind (wpAny_sequenceKey ht.typeIs (by decide) ?_)
 refine wpAny_bind (wpAny_callSpecial?_slot (name:=Str.ofString "__getitem__") ht.typeIs PyProof.Rows.slot_tuple_getitem
  (wpAny_call_entry PyProof.Rows.slot_tuple_getitem ht.typeIs entry_tuple_getitem ?_ (args_tuple_getitem _ _)))
 show wpAny _ _ (Builtin.Tuple.tupleItemsOf (.ref t) >>= _) _ _ s
 refine wpAny_bind (tupleItemsOf_ ht ?_)
 refine wpAny_bind (wpAny_typeOf hTs ?_)
 rw[if_pos (by decide)]
 refine wpAny_bind (hO hs pl pu ?_)
 have hno:¬((((sIx items.size 0 lo:Nat):Int)==0&&(1:Int)==1&&(sIx items.size items.size hi - sIx items.size 0 lo)==items.size)=true):=by
  intro q
  rw[Bool.and_eq_true,Bool.and_eq_true] at q
  have q1:((sIx items.size 0 lo:Nat):Int)=0:=eq_of_beq q.1.1
  have q2:sIx items.size items.size hi - sIx items.size 0 lo=items.size:=eq_of_beq q.2
  exact hw ⟨by omega,by omega⟩
 show wpAny _ _ (if (((sIx items.size 0 lo:Nat):Int)==0&&(1:Int)==1&&(sIx items.size items.size hi - sIx items.size 0 lo)==items.size)=true then _ else _) _ _ s
 rw[if_neg hno,yL]
 first
  |exact wpAny_bind (m:=Builtin.Tuple.tupleExact _) (wpAny_newObj_type (wpAny_pure ⟨_,rfl,wpAny_pure h⟩) htake)
  |exact wpAny_bind (m:=Builtin.Tuple.tupleExact _) (wpAny_newObj_type (wpAny_bind (wpAny_pure (wpAny_pure ⟨_,rfl,wpAny_pure h⟩))) htake)
  |exact wpAny_bind (wpAny_bind (m:=Builtin.Tuple.tupleExact _) (wpAny_newObj_type (wpAny_pure (wpAny_pure ⟨_,rfl,wpAny_pure h⟩)) htake))
  |exact wpAny_bind (wpAny_bind (m:=Builtin.Tuple.tupleExact _) (wpAny_newObj_type (wpAny_pure ⟨_,rfl,wpAny_pure h⟩) htake))
end
end HT
namespace L2
open PySem PySem.Spec PyProof.Rows
noncomputable abbrev TO:=St->Hp->(Option Int->Hp->Prop)->Prop
section
variable {X:Cx}{e:Expr}{te:TE}{lo hi:Option Expr}{tl th:TO}{pos p2:Pos}
end
end L2
namespace L2
open PySem PySem.Spec PyProof.Rows
noncomputable def pJ (n:Nat)(i:Int):Option Nat:=if 0≤i then (if i<n then some i.toNat else none) else if -(n:Int)≤i then some (i+n).toNat else none
noncomputable def eI {α:Type}(xs:List α)(i:Int):Option α:=(pJ xs.length i).bind fun j=>xs[j]?
theorem tL {n:Nat}{i:Int}{j:Nat}(h:pJ n i=some j):seqIndex? i n=some j/\j<n/\-(n:Int)≤i/\i<n:=by
 unfold pJ at h
 by_cases h0:0≤i
 ·rw[if_pos h0] at h
  by_cases h1:i<n
  ·rw[if_pos h1] at h
   have e:i.toNat=j:=Option.some.inj h
   exact⟨by rw[seqIndex_of h0 h1,e],by omega,by omega,h1⟩
  ·rw[if_neg h1] at h;cases h
 ·rw[if_neg h0] at h
  by_cases h1:-(n:Int)≤i
  ·rw[if_pos h1] at h
   have e:(i+n).toNat=j:=Option.some.inj h
   exact⟨by rw[seqIndex_neg (by omega) h1,e],by omega,h1,by omega⟩
  ·rw[if_neg h1] at h;cases h
theorem uE {α:Type}{xs:List α}{i:Int}{v:α}(h:eI xs i=some v):∃j,seqIndex? i xs.length=some j/\xs[j]?=some v/\j<xs.length/\-(xs.length:Int)≤i/\i<xs.length:=by
 unfold eI at h
 cases e:pJ xs.length i with
 |none=>rw[e] at h;cases h
 |some j=>
  rw[e] at h
  obtain⟨h1,h2,h3,h4⟩:=tL e
  exact⟨j,h1,h,h2,h3,h4⟩
theorem dG {α:Type}{xs:List α}{j:Nat}{v:α}(h:xs[j]?=some v):eI xs (j:Int)=some v:=by
 have hj:j<xs.length:=(List.getElem?_eq_some_iff.mp h).1
 have e:pJ xs.length (j:Int)=some j:=by
  unfold pJ
  rw[if_pos (by omega),if_pos (by omega)];simp
 unfold eI;rw[e];exact h
noncomputable def s9 (b:Expr):Prop:=∀o i,subscripted b false o i=operate [o,i] (getItem o i)
section
variable {X:Cx}{a b:Expr}{ta tb:TE}{pos:Pos}
noncomputable def G7 (K:PySem.W.Frag):R2:=fun x y H Q=>∃p xs i v,x=.ref p/\y=.int i/\HD K H p xs/\eI xs i=some v/\Q v H
noncomputable def F3 (K:PySem.W.Frag):R2:=fun x y H Q=>∃p xs i v,x=.ref p/\y=.int i/\Hu K H p xs/\eI xs i=some v/\Q v H
noncomputable def F6:R2:=fun x y H Q=>∃z i c,x=.str z/\y=.int i/\z.length≤sizeLine/\eI z.cps.toList i=some c/\Q (.str ⟨#[c]⟩) H
noncomputable def cq (K:PySem.W.Frag):R2:=fun x y H Q=>G7 K x y H Q\/F3 K x y H Q\/F6 x y H Q
theorem pA (lo hi:Option Int)(n:Nat):(sliceBounds lo hi none n).1=((HT.sIx n 0 lo:Nat):Int)/\(sliceBounds lo hi none n).2.1=((HT.sIx n n hi:Nat):Int)/\(sliceBounds lo hi none n).2.2=1:=by
 refine⟨?_,?_,rfl⟩
 ·cases lo with
  |none=>simp[sliceBounds,HT.sIx]
  |some i=>
   simp only[sliceBounds,HT.sIx,Option.getD_none,show (1:Int) > 0 by decide,if_true]
   by_cases h:i<0
   ·simp only[h,if_true]<;>omega
   ·simp only[h,if_false]<;>omega
 ·cases hi with
  |none=>simp[sliceBounds,HT.sIx]
  |some i=>
   simp only[sliceBounds,HT.sIx,Option.getD_none,show (1:Int) > 0 by decide,if_true]
   by_cases h:i<0
   ·simp only[h,if_true]<;>omega
   ·simp only[h,if_false]<;>omega
theorem mS (its:List Value)(lo hi:Option Int):slicePick its.toArray lo hi none=((its.drop (HT.sIx its.length 0 lo)).take (HT.sIx its.length its.length hi - HT.sIx its.length 0 lo)).toArray:=by
 obtain⟨h1,h2,h3⟩:=pA lo hi its.toArray.size
 unfold slicePick
 rw[h1,h2,h3]
 simp only[sliceRange_one,pick_run,List.size_toArray]<;>rfl
noncomputable def Ba:V->Bool
 |.non=>true
 |.bl _=>true
 |.int _=>true
 |.str _=>true
 |_=>false
noncomputable def Bm:V->V->Bool
 |.non,.non=>true
 |.bl a,.bl b=>a==b
 |.bl a,.int b=>(if a then 1 else 0)==b
 |.int a,.bl b=>a==(if b then 1 else 0)
 |.int a,.int b=>a==b
 |.str a,.str b=>a==b
 |_,_=>false
noncomputable def He (x:V)(xs:List V):Bool:=xs.any fun y=>Bm y x
noncomputable def Do (K:PySem.W.Frag)(neg:Bool):R2:=fun x y H Q=>∃p xs,y=.ref p/\(HD K H p xs\/Hu K H p xs)/\Ba x=true/\xs.all Ba=true/\Q (.bl (if neg then !He x xs else He x xs)) H
variable {o e:Expr}{es:List Expr}{to:TE}{t:TA}{name:Str}{apos cpos:Pos}{T id:String}{r:V->List V->Hp->VK->Prop}
end
end L2
namespace L2
open PySem PySem.Spec PyProof.Rows
theorem jN {α:Type}(l:List α):l.eraseIdx (l.length - 1)=l.dropLast:=by
 induction l with
 |nil=>rfl
 |cons a r ih=>
  cases r with
  |nil=>rfl
  |cons b r=>
   have e:(a::b::r).length - 1=((b::r).length - 1)+1:=by
    have h1:(a::b::r).length=r.length+2:=rfl
    have h2:(b::r).length=r.length+1:=rfl
    omega
   rw[e,List.eraseIdx_cons_succ,ih]
   all_goals rfl
theorem nU {α:Type}:∀(l:List α) (i:Nat),(l.eraseIdx i).length≤l.length
 |[],_=>Nat.le_refl _
 |_::_,0=>Nat.le_succ _
 |_::r,i+1=>Nat.succ_le_succ (nU r i)
theorem ou (its:List Value):∀(k:Nat) (acc:List Value),
  List.foldl (fun x1 x2=>x1++x2) acc.toArray (List.replicate k its.toArray)=(acc++(List.replicate k its).flatten).toArray
 |0,acc=>by simp
 |k+1,acc=>by
  have e:acc.toArray++its.toArray=(acc++its).toArray:=by simp
  have e2:(acc++its)++(List.replicate k its).flatten=acc++(List.replicate (k+1) its).flatten:=by
   rw[List.replicate_succ,List.flatten_cons,List.append_assoc]
  rw[←e2,←ou its k (acc++its),←e,List.replicate_succ,List.foldl_cons]
section
variable {X:Cx}{pins:List (Addr×Obj)}{σ:St}{H:Hp}{s:Shared}{l b:Addr}{xs ys zs:List V}
theorem ri {n:Nat}(h:n≤sizeLine):Builtin.List.listTooLong n=false:=by
 unfold Builtin.List.listTooLong
 exact decide_eq_false (by omega)
end
section
variable {X:Cx}
theorem pR {α:Type}(xs:List α)(k:Nat):(List.replicate k xs).flatten.length=k * xs.length:=by
 induction k with
 |zero=>simp
 |succ k ih=>rw[List.replicate_succ,List.flatten_cons,List.length_append,ih,Nat.succ_mul,Nat.add_comm]
end
section
variable {prog:Program}{w:World}{A:Around}{E:Value->Shared->Prop}{s:Shared}
set_option maxRecDepth 100000 in
end
end L2
namespace Att
open PySem PySem.W PySem.Calls PyProof.Rows
theorem lf {P:Params}{h:Heap}:∀(ns:List Int) (vs:List Value),WellAll P h vs (ns.map WData.int)->IntsAre vs ns:=by
 intro ns
 induction ns with
 |nil=>
  intro vs w
  rw[List.map_nil] at w
  cases w
  exact .nil
 |cons n ns ih=>
  intro vs w
  rw[List.map_cons] at w
  cases w with
  |cons a b=>
   cases a
   exact .cons _ _ (ih _ b)
theorem vH {l:OpenLaw}{n:Nat}(hn:l.most=some n){P:Params}{h:Heap}{args:List WData}{vals:List Value}
  (hpre:l.row.toRowW.claim.pre args=true) (hwl:WellAll P h vals args) :
  ∃a vs ns,vals=[Value.ref a]/\args=[WData.list (ns.map WData.int)]/\h.get? a=some { cls:=.type "list",data:=.seq vs.toArray }/\IntsAre vs ns/\ns.length≤n:=by
 have hsh:WShape.hasAll [] args [.list .int]=true:=(pre_splitW hpre).1
 have hc:l.pre.holds [] { args:=args }=true:=(pre_splitW hpre).2
 obtain⟨d,r,rfl,h1,h2⟩:=hasAllW_cons hsh
 obtain rfl:=hasAllW_nil h2
 obtain⟨xs,rfl,h3⟩:=hasW_list h1
 obtain⟨ns,rfl⟩:=items_int h3
 have hlen:ns.length≤n:=by
  unfold OpenLaw.pre at hc
  have h4:(WTm.not (.lt (.lit (.int (n:Int))) (.len (.arg 0)))).holds [] { args:=[.list (ns.map .int)] }=true:=by
   have h4:=(holds_andW hc).1
   rw[hn] at h4
   exact h4
  have h5:=condW_of h4 (w_not (w_lt w_lit (w_len_list (w_arg rfl))))
  rw[List.length_map] at h5
  refine Nat.le_of_not_lt fun q=>?_
  have q':(n:Int)<((ns.length:Nat):Int):=by omega
  first
   |(rw[decide_eq_true q'] at h5;exact absurd h5 (by decide))
   |(simp at h5;omega)
 cases hwl with
 |cons w1 w2=>
  cases w2
  cases w1 with
  |list ho hall=>exact⟨_,_,ns,rfl,rfl,ho,lf ns _ hall,hlen⟩
theorem vh (l:OpenLaw)(args:List WData):l.row.toRowW.claim.post args (.bool true) args=true:=
 postW_of (r:=l.row.toRowW) (X:=(true==true))
  (show WShape.has [] (.bool true) .bool=true by first|rfl|decide|simp[WShape.has,WShape.arms,WShape.armsAll])
  (show (WTm.eq .res (.lit (.bool true))).value [] { args:=args,res:=some (.bool true),after:=args }=some (.bool (true==true)) from w_eq_bool (w_res rfl) w_lit) rfl
theorem attach_call {l:OpenLaw}{n:Nat}{q:Program}{loose:List Str}{XP:(Str->Option Value)->Heap->Prop}{YP:World->Heap->Prop}{d:DefRec}
  (hn:l.most=some n) (hdf:d.params.defaults=[])
  (call:∀(w:World) (s₀ s₁:Shared) (mg mb:Str->Option Value) (fa:Addr) (o:Obj) (pm cd doc:Value) (a:Addr) (vs:List Value) (ns:List Int),
   Ground q loose [] XP w s₀ mg mb s₁.heap->YP w s₁.heap →
   s₁.heap.get? fa=some o->o.data=.func (docDef d.name d.params d.body d.scope pm cd doc)->s₁.heap.CodeRec cd d.name->mg d.name=some (.ref fa) →
   s₁.heap.get? a=some { cls:=.type "list",data:=.seq vs.toArray }->IntsAre vs ns->ns.length≤n->s₁.gens = #[] →
   codeAny (model l.prog w) callerA (.call (.ref fa) ⟨[.ref a],[]⟩) (fun r s'=>r=.ok (.ret (.bool true))/\OldK s₁.heap s'.heap/\s'.os=s₁.os/\AllBare s'.gens) s₁) :
  WalkO q loose XP YP l.row.toRowW d [] (fun f vs=>PySem.call f vs):=by
 intro w s₀ s₁ mg mb G Y fa o pm cd doc dV kV ho hd hcd hD hmg hg args vals as hpre hlay hrd hwl hlo
 obtain rfl:dV=.none:=Dflts.none hD hdf
 obtain rfl:kV=.none:=Dflts.noKw hD
 obtain⟨a,vs,ns,rfl,rfl,hobj,hints,hlen⟩:=vH hn hpre hwl
 refine enter_call (codeAny_mono (call w s₀ s₁ mg mb fa o pm cd doc a vs ns G Y ho (fd_plain hd) hcd hmg hobj hints hlen hg) fun r s' hq=>?_)
 obtain⟨rfl,h2,h3,h4⟩:=hq
 exact⟨.inl ⟨.bool true,.bool true,[],rfl,fun _=>rfl,.bool true,vh l _,fun _=>⟨List.Pairwise.nil,fun _ hm=>(nomatch hm)⟩⟩,h2,h3,h4⟩
end Att
namespace L2
open PySem PySem.Spec PyProof.Rows
end L2
namespace L2
open PySem PySem.Spec PyProof.Rows
end L2
namespace L2
open PySem PySem.Spec PyProof.Rows
noncomputable def bj (s:Stmt):Arguments:=match s with
 |.FunctionDef _ a _ _ _ _ _ _ _ _=>a
 |_=>{ posonlyargs:=[],args:=[],vararg:=none,kwonlyargs:=[],kw_defaults:=[],kwarg:=none,defaults:=[] }
noncomputable def aZ (s:Stmt):List Stmt:=match s with
 |.FunctionDef _ _ b _ _ _ _ _ _ _=>b
 |_=>[]
noncomputable def ae (s:Stmt):Scope:=match s with
 |.FunctionDef _ _ _ _ _ _ sc _ _ _=>sc
 |_=>{ kind:=.function,names:=[],isGenerator:=false,isCoroutine:=false }
structure Fun (K:PySem.W.Frag)(x qual:Str)(st:Stmt)(f:Addr)(fd:FuncData):Prop where
 ex:∃(oc:Value) (od:Option Addr) (kV doc pm:Value) (an:Option Addr) (cdv ct:Value) (osl:Array (Option Value)),
  fd=PySem.W.fnOf x qual (bj st) (aZ st) (ae st) .none kV doc pm an cdv ct/\K.lookup f=some ⟨oc,od,.func fd,osl⟩/\PySem.W.codeIn K cdv qual=true
 kp:PySem.W.keepIn K (.ref f)=true
section
variable {P:Program}{w:World}{K:PySem.W.Frag}{mg:Str->Option Value}{base:Heap}
theorem CV {x qual:Str}{st:Stmt}{f:Addr}{oc:Value}{od an:Option Addr}{osl:Array (Option Value)}{kV doc pm cdv ct:Value}(l:K.lookup f=some ⟨oc,od,.func (PySem.W.fnOf x qual (bj st) (aZ st) (ae st) .none kV doc pm an cdv ct),osl⟩)
  (c:PySem.W.codeIn K cdv qual=true) (k:PySem.W.keepIn K (.ref f)=true):Fun K x qual st f (PySem.W.fnOf x qual (bj st) (aZ st) (ae st) .none kV doc pm an cdv ct):=⟨⟨oc,od,kV,doc,pm,an,cdv,ct,osl,rfl,l,c⟩,k⟩
end
section
variable {X:Cx}
theorem pv (i:Nat){x:Str}{pos:Pos}(hN:X.N[i]?=some x:=by rfl)(hv:np X.env.scope x:=by first|exact Or.inl rfl|exact Or.inr (Or.inl rfl)|exact Or.inr (Or.inr rfl))(hd:(x==("__debug__" : Str))=false:=by decide)
  (hcd:(x==("__classdict__" : Str))=false:=by decide):PE X (.Name x pos) (E6 i):=CU hN hv hd hcd
end
end L2
set_option maxHeartbeats 4000000
section
namespace L2
open PySem PySem.Spec PyProof.Rows
noncomputable def iR (cells:List (Str×Addr)):List (Str×NameKind)->List (Str×Addr)->List (Str×Addr)
 |[],acc=>acc
 |(n,k)::r,acc=>if k==.free then iR cells r ((n,(cells.lookup n).getD 0)::acc) else iR cells r acc
theorem lX {scope:Scope}{env:Env}(h:∀y∈scope.names,y.2=.free->(env.cells.lookup y.1).isSome=true):closureFor scope env=pure (iR env.cells scope.names []):=by
 unfold closureFor
 generalize scope.names=names at h ⊢
 generalize ([]:List (Str×Addr))=acc
 dsimp only
 induction names generalizing acc with
 |nil=>rfl
 |cons x r ih=>
  obtain⟨n,k⟩:=x
  have hr:=ih (fun y hy=>h y (List.mem_cons_of_mem _ hy))
  rw[List.forIn_cons]
  unfold iR
  by_cases hk:(k==NameKind.free)=true
  ·have hs:=h (n,k) List.mem_cons_self (by simpa using hk)
   obtain⟨c,hc⟩:=Option.isSome_iff_exists.mp hs
   have hc':cellOf env n=pure c:=by unfold cellOf;rw[show env.cells.lookup n=some c from hc]
   simp only[hk,if_true]
   rw[hc',show (env.cells.lookup n).getD 0=c by rw[show env.cells.lookup n=some c from hc];rfl]
   exact hr _
  ·simp only[hk]
   exact hr _
theorem jc {cells:List (Str×Addr)}{x:Str}{c:Addr}:∀{names:List (Str×NameKind)} {acc:List (Str×Addr)},(∀y∈names,y.2=.free->(cells.lookup y.1).isSome=true)->(∀x c,acc.lookup x=some c->cells.lookup x=some c) →
  (iR cells names acc).lookup x=some c->cells.lookup x=some c
 |[],_,_,ha,h=>ha x c h
 |(n,k)::r,acc,hs,ha,h=>by
  unfold iR at h
  by_cases hk:(k==NameKind.free)=true
  ·rw[if_pos hk] at h
   refine jc (fun y hy=>hs y (List.mem_cons_of_mem _ hy)) (fun z d hz=>?_) h
   obtain⟨e,he⟩:=Option.isSome_iff_exists.mp (hs (n,k) List.mem_cons_self (by simpa using hk))
   have he':cells.lookup n=some e:=he
   rw[List.lookup_cons] at hz
   cases hzn:z==n with
   |true=>
    rw[hzn] at hz
    have:z=n:=by simpa using hzn
    subst this
    rw[he'] at hz ⊢
    exact hz
   |false=>rw[hzn] at hz;exact ha z d hz
  ·rw[if_neg hk] at h
   exact jc (fun y hy=>hs y (List.mem_cons_of_mem _ hy)) ha h
theorem lB {cells:List (Str×Addr)}{x:Str}:∀{names:List (Str×NameKind)} {acc:List (Str×Addr)},(acc.lookup x).isSome=true->((iR cells names acc).lookup x).isSome=true
 |[],_,h=>h
 |(n,k)::r,acc,h=>by
  unfold iR
  split
  ·refine lB ?_
   rw[List.lookup_cons]
   split
   ·rfl
   ·exact h
  ·exact lB h
theorem j8 {cells:List (Str×Addr)}{x:Str}:∀{names:List (Str×NameKind)} {acc:List (Str×Addr)},(x,NameKind.free)∈names->((iR cells names acc).lookup x).isSome=true
 |[],_,h=>nomatch h
 |(n,k)::r,acc,h=>by
  unfold iR
  rcases List.mem_cons.mp h with e|h
  ·cases e
   rw[if_pos (by rfl)]
   exact lB (by rw[List.lookup_cons];simp)
  ·split
   ·exact j8 h
   ·exact j8 h
noncomputable def Cx.blk (X:Cx)(scope:Scope)(N':List Str)(C:Addr)(s:Shared)(H:Hp)(ex:List Addr):Cx:=
 { X with N:=N',s₀:=s,H₀:=H,env:=compEnvC scope (iR X.env.cells scope.names []) C X.env,outer:=X.stack,ex:=ex,fn:=fun _=>false,pn:=[],xe:=fun _ _=>False }
noncomputable def kY (fm:List (Option Nat))(σ:St):St:=fm.map fun o=>o.bind fun j=>(σ[j]?).join
structure BlkOk (X:Cx)(scope:Scope)(N':List Str)(fm:List (Option Nat)):Prop where
 kind:scope.kind=.function
 nocell:∀y∈scope.names,y.2≠.cell
 names:∀y∈scope.names,y.2=.local->scope.names.lookup y.1=some .local
 free:∀y∈scope.names,y.2=.free->X.env.kindOf y.1=some .cell
 len:fm.length=N'.length
 out:∀(i j:Nat) (x:Str),fm[i]?=some (some j)->N'[i]?=some x->X.N[j]?=some x/\scope.names.lookup x=some .free/\X.env.kindOf x=some .cell
theorem BlkOk.has {X:Cx}{scope:Scope}{N':List Str}{fm:List (Option Nat)}(B:BlkOk X scope N' fm)(ok:X.Ok):∀y∈scope.names,y.2=.free->(X.env.cells.lookup y.1).isSome=true:=fun y hy e=>by
 obtain⟨c,hc⟩:=ok.has y.1 (.inl (B.free y hy e))
 rw[hc];rfl
noncomputable def oW (kind:ScopeKind)(names:List (Str×NameKind))(kindOf:Str->Option NameKind)(N N':List Str)(fm:List (Option Nat)):Bool:=
 kind==.function&&(names.all fun y=>y.2 != .cell)&&(names.all fun y=>y.2 != .local || names.lookup y.1==some .local)&&(names.all fun y=>y.2 != .free || kindOf y.1==some .cell)&&fm.length==N'.length &&
  ((fm.zip N').all fun p=>match p.1 with|none=>true|some j=>N[j]?==some p.2&&names.lookup p.2==some .free&&kindOf p.2==some .cell)
theorem Ck {X:Cx}{scope:Scope}{N':List Str}{fm:List (Option Nat)}(h:oW scope.kind scope.names X.env.kindOf X.N N' fm=true):BlkOk X scope N' fm:=by
 unfold oW at h
 simp only[Bool.and_eq_true,beq_iff_eq,List.all_eq_true,Bool.or_eq_true,bne_iff_ne,ne_eq] at h
 obtain⟨⟨⟨⟨⟨h1,h2⟩,h3⟩,h4⟩,h5⟩,h6⟩:=h
 refine⟨h1,h2,fun y hy e=>(h3 y hy).resolve_left fun z=>z e,fun y hy e=>(h4 y hy).resolve_left fun z=>z e,h5,fun i j x e1 e2=>?_⟩
 have hm:(some j,x)∈fm.zip N':=by
  refine List.mem_of_getElem? (i:=i) ?_
  rw[List.getElem?_zip_eq_some]
  exact⟨e1,e2⟩
 have z:=h6 _ hm
 simp only[Bool.and_eq_true,beq_iff_eq] at z
 exact⟨z.1.1,z.1.2,z.2⟩
theorem fj {env:Env}:∀{names:List (Str×NameKind)} {x:Str} {k:NameKind},(names.map fun (n,k)=>if (k==NameKind.free&&env.scope.kind==.function&&env.kindOf n==some .cell) then (n,NameKind.cell) else (n,k)).lookup x=some k →
  (k=.cell/\env.kindOf x=some .cell/\(x,NameKind.free)∈names)\/(x,k)∈names
 |[],_,_,h=>by simp at h
 |(n,k0)::r,x,k,h=>by
  rw[List.map_cons] at h
  by_cases hc:(k0==NameKind.free&&env.scope.kind==.function&&env.kindOf n==some .cell)=true
  ·dsimp only at h
   rw[if_pos hc,List.lookup_cons] at h
   cases hx:x==n with
   |true=>
    rw[hx] at h
    have e:x=n:=by simpa using hx
    subst e
    cases h
    simp only[Bool.and_eq_true,beq_iff_eq] at hc
    exact .inl ⟨rfl,hc.2,by rw[←hc.1.1];exact List.mem_cons_self⟩
   |false=>
    rw[hx] at h
    rcases fj h with ⟨a,b,c⟩|c
    ·exact .inl ⟨a,b,List.mem_cons_of_mem _ c⟩
    ·exact .inr (List.mem_cons_of_mem _ c)
  ·dsimp only at h
   rw[if_neg hc,List.lookup_cons] at h
   cases hx:x==n with
   |true=>
    rw[hx] at h
    have e:x=n:=by simpa using hx
    subst e
    cases h
    exact .inr List.mem_cons_self
   |false=>
    rw[hx] at h
    rcases fj h with ⟨a,b,c⟩|c
    ·exact .inl ⟨a,b,List.mem_cons_of_mem _ c⟩
    ·exact .inr (List.mem_cons_of_mem _ c)
theorem gk {env:Env}(hk:env.scope.kind=.function):∀{names:List (Str×NameKind)} {x:Str},names.lookup x=some .free->env.kindOf x=some .cell →
  (names.map fun (n,k)=>if (k==NameKind.free&&env.scope.kind==.function&&env.kindOf n==some .cell) then (n,NameKind.cell) else (n,k)).lookup x=some .cell
 |[],_,h,_=>by simp at h
 |(n,k)::r,x,h,hc=>by
  rw[List.map_cons]
  dsimp only
  cases hx:x==n with
  |true=>
   rw[List.lookup_cons,hx] at h
   cases h
   have e:x=n:=by simpa using hx
   subst e
   rw[hc,hk,if_pos (by rfl),List.lookup_cons,hx]
  |false=>
   rw[List.lookup_cons,hx] at h
   have ih:=gk hk h hc
   split
   ·rw[List.lookup_cons,hx];exact ih
   ·rw[List.lookup_cons,hx];exact ih
section
variable {X:Cx}{scope:Scope}{N':List Str}{fm:List (Option Nat)}{pins:List (Addr×Obj)}{σ:St}{H:Hp}{s:Shared}
theorem Dt (B:BlkOk X scope N' fm)(I:Inv X pins σ H s){C:Addr}{ex:List Addr}(hC:s.heap.objs.size≤C)(hex:∀b∈ex,hV X pins H b)(hlt:∀b∈ex,b<s.heap.objs.size):(X.blk scope N' C s H ex).Ok:=by
 have sub:∀x c,(iR X.env.cells scope.names []).lookup x=some c->X.env.cells.lookup x=some c:=fun x c h=>jc (B.has I.ok) (fun _ _ z=>by simp at z) h
 refine⟨I.ok.mod,?_,I.ok.glob,I.ok.blt,hC,fun x y c h1 h2=>I.ok.inj x y c (sub x c h1) (sub y c h2),fun x hx=>?_,fun x c h _=>(Bool.false_ne_true h).elim,I.ok.hd,I.ok.frames,.inl rfl,fun b hb=>⟨?_,fun x c h=>(hex b hb).2.2.2.2.1 x c (sub x c h)⟩,I.bs,?_,fun b o e hb=>?_,fun b hb hf=>?_,I.stack,I.stkFree⟩
 ·show (relabel scope X.env).kind=.function
  exact B.kind
 ·have hx':(relabel scope X.env).names.lookup x=some .cell\/(relabel scope X.env).names.lookup x=some .free:=hx
  have mem:(x,NameKind.free)∈scope.names:=by
   rcases hx' with h|h
   ·rcases fj h with ⟨_,_,z⟩|z
    ·exact z
    ·exact absurd rfl (B.nocell _ z)
   ·rcases fj h with ⟨z,_,_⟩|z
    ·cases z
    ·exact z
  exact Option.isSome_iff_exists.mp (j8 (cells:=X.env.cells) (acc:=[]) mem)
 ·exact Nat.ne_of_lt (Nat.lt_of_lt_of_le (hlt b hb) hC)
 ·exact Nat.le_trans I.ok.bsz I.sz
 ·have hb':b∈ex:=hb
  rcases (hex b hb').2.2.2.1 with z|z
  ·exact I.ok.noex b o e z
  ·exact absurd (Nat.lt_of_lt_of_le (Heap.lt_size (I.ok.bs b o e).1) z) (Nat.lt_irrefl _)
 ·have hb':b∈ex:=hb
  have hf':b∈lx X.stack:=hf
  rcases List.mem_cons.mp (I.stkSub b hf') with z|z
  ·exact (hex b hb').2.1 z
  ·exact (hex b hb').2.2.1 z
theorem qi {fm:List (Option Nat)}{σ:St}{i:Nat}{v:V}(h:(kY fm σ)[i]?=some (some v)):∃j,fm[i]?=some (some j)/\σ[j]?=some (some v):=by
 unfold kY at h
 rw[List.getElem?_map] at h
 cases e:fm[i]? with
 |none=>rw[e] at h;cases h
 |some o=>
  rw[e] at h
  cases o with
  |none=>cases h
  |some j=>
   refine⟨j,rfl,?_⟩
   have h':some ((σ[j]?).join)=some (some v):=h
   cases e2:σ[j]? with
   |none=>rw[e2] at h';cases h'
   |some w=>rw[e2] at h';exact congrArg some (Option.some.inj h')
theorem Aw (B:BlkOk X scope N' fm)(I:Inv X pins σ H s){C:Addr}{ex:List Addr}{h1:Heap}{tk:Nat}{m:Str->Option Value}(hC:s.heap.objs.size≤C)(hex:∀b∈ex,hV X pins H b)(hlt:∀b∈ex,b<s.heap.objs.size)
  (hn:h1.Ns C m) (old:∀b o,s.heap.get? b=some o->h1.get? b=some o):Inv (X.blk scope N' C s H ex) [] (kY fm σ) H { s with heap:=h1,toks:=tk }:=by
 have sub:∀x c,(iR X.env.cells scope.names []).lookup x=some c->X.env.cells.lookup x=some c:=fun x c h=>jc (B.has I.ok) (fun _ _ z=>by simp at z) h
 refine⟨Dt B I hC hex hlt,rfl,I.bare,Un.kept old,⟨m,hn,fun i x v hi hσ hv=>?_⟩,fun x c h=>?_,I.hok.fresh hC,fun x c h=>I.freeC x c (sub x c h),fun p hp=>absurd (show p∈([]:List (Addr×Obj)) from hp) (by simp),I.hok.kept old,?_⟩
 ·obtain⟨j,ej,es⟩:=qi hσ
  obtain⟨hN,hf,hk⟩:=B.out i j x ej hi
  obtain⟨m0,_,hl⟩:=I.loc
  obtain⟨u,r,l⟩:=hl j x v hN es (.inr (.inl hk))
  refine⟨u,r,.inr ⟨.inl (gk I.ok.kind hf hk),?_⟩⟩
  rcases l with ⟨z,_⟩|⟨_,c,hc,z⟩
  ·rw[hk] at z;cases z
  ·obtain⟨c',hc'⟩:=Option.isSome_iff_exists.mp (j8 (cells:=X.env.cells) (acc:=[]) (PySem.mem_of_lookup hf))
   have e:=sub x c' hc'
   rw[hc] at e
   cases e
   exact⟨c,hc',z.keeps old⟩
 ·obtain⟨v,z⟩:=I.cell x c (sub x c h)
  exact⟨v,z.keeps old⟩
 ·show (kY fm σ).length=N'.length
  unfold kY
  rw[List.length_map]
  exact B.len
end
theorem iW {prog:Program}{w:World}{A:Around}{R:Result->Shared->Prop}{s:Shared}{elt target iter:Expr}{ifs:List Expr}{scope:Scope}{pos:Pos}{it acc:Value}{env:Env}(I:Nat->Shared->Prop)
  (turn:∀n s,I n s->wpAny (model prog w) A (pyNext it) (fun r s₁=>match r with
   |none=>R (.ok .next) s₁
   |some v=>wpAny (model prog w) A (letOwnedTupleGo target it v) (fun _ s₁=>wpAny (model prog w) A (assign target env v) (fun _ s₂=>
     wpAny (model prog w) A (forIn ifs true fun c r=>if r=true then do let ok ←isTrue c env (eval c env);pure (ForInStep.yield ok) else pure (ForInStep.yield r)) (fun ok s₃=>
      if ok=true then wpAny (model prog w) A (eval elt env) (fun x s₄=>
       wpAny (model prog w) A (call (.builtin "list.append") [acc,x]) (fun _ s₅=>∃m,m<n/\I m s₅) (fun _ _=>False) s₄) (fun _ _=>False) s₃
      else ∃m,m<n/\I m s₃) (fun _ _=>False) s₂) (fun _ _=>False) s₁) (fun _ _=>False) s₁) (fun _ _=>False) s)
  (n:Nat) (h:I n s) :
  codeAny (model prog w) A (.compLoop (.ListComp elt [⟨target,iter,ifs,0⟩] scope pos) 0 it acc env) R s:=by
 refine codeAny_loop rfl I (fun n s hI=>?_) n h
 show wpAny _ A ((compTurn (.ListComp elt [⟨target,iter,ifs,0⟩] scope pos) 0 it acc env).onRaise (fun x=>do noteFrame x env;theTreesLotGoes x)) _ _ s
 refine wpAny_noted ?_
 rw[compTurn_list]
 refine wpAny_bind (wpAny_standAt (wpAny_bind (wpAny_mono (turn n s hI) (fun r s₁ h₁=>?_) fun _ _ h'=>h'.elim)))
 cases r with
 |none=>exact wpAny_pure h₁
 |some v=>
  refine wpAny_bind (wpAny_mono h₁ (fun _ s₁ h₁=>?_) fun _ _ h'=>h'.elim)
  refine wpAny_bind (wpAny_mono h₁ (fun _ s₂ h₂=>wpAny_bind (wpAny_mono h₂ (fun ok s₃ h₃=>?_) fun _ _ h'=>h'.elim)) fun _ _ h'=>h'.elim)
  cases ok with
  |false=>exact wpAny_pure ⟨rfl,h₃⟩
  |true=>
   exact wpAny_bind (wpAny_bind (wpAny_mono h₃ (fun x s₄ h₄=>wpAny_bind (wpAny_mono h₄ (fun _ s₅ h₅=>wpAny_pure (wpAny_pure ⟨rfl,h₅⟩)) fun _ _ h'=>h'.elim)) fun _ _ h'=>h'.elim))
end L2
end
section
namespace L2
open PySem PySem.Spec PyProof.Rows
end L2
end
section
namespace L2
open PySem PySem.Spec PyProof.Rows
theorem kg:fillsNumberSlot (.type "tuple") "mul" = pure false:=by first|rfl|decide +kernel|kernel_rfl
end L2
end
section
namespace L2
open PySem PySem.Spec PyProof.Rows
theorem oR:seqRepeat? (.type "tuple")=pure (some (.builtin "tuple.__mul__")):=by
 unfold seqRepeat?
 rw[PySem.seqSlot_of (T:="tuple") (name:="__mul__") (id:="tuple.__mul__") PySem.F.slot_tuple_mul.lookup (by decide +kernel),PySem.seqSlot_of (T:="tuple") (name:="__rmul__") (id:="tuple.__rmul__") PySem.F.slot_tuple_rmul.lookup (by decide +kernel)]
 rfl
theorem lM (a:Int)(t:Tok)(l:Addr)(items:Array Value)(n:Nat)(dd:Option Addr)(sl:Array (Option Value)) :
  Meets (Builtin.«int.__rmul__» ⟨[.int a t,.ref l],[]⟩) (fun _ R s=>s.heap.get? l=some { cls:=.type "tuple",dict:=dd,data:=.seq items n,slots:=sl }/\R (.ok (.ret Value.notImplemented)) s):=
 .of_wp fun prog w A R s h=>by obtain⟨hp,g,d,tk,os⟩:=s;obtain⟨hl,h⟩:=h;wp_walk;exact⟨_,rfl,h⟩
theorem lY (l:Addr)(items:Array Value)(n:Nat)(dd:Option Addr)(sl:Array (Option Value))(t:Tok) :
  Meets (Builtin.«tuple.__mul__» ⟨[.ref l,.int 1 t],[]⟩) (fun _ R s=>s.heap.get? l=some { cls:=.type "tuple",dict:=dd,data:=.seq items n,slots:=sl }/\R (.ok (.ret (Value.ref l))) s):=
 .of_wp fun prog w A R s h=>by obtain⟨hp,g,d,tk,os⟩:=s;obtain⟨hl,h⟩:=h;have f1:=AutoSeq1.idx_int;have f2:=AutoSeq1.sub_tuple_tuple;have hc:(items.isEmpty || (1:Int)==1)=true:=(by simp);wp_walk using wpAny_loadPart' hl;exact⟨_,rfl,h⟩
theorem mX (l:Addr)(items:Array Value)(n:Nat)(dd:Option Addr)(sl:Array (Option Value))(k:Int)(t:Tok)(h1:¬(decide (k < -(2 ^ 63)) || decide (k ≥ 2 ^ 63))=true)(h2:¬(items.isEmpty || k==1)=true)(h3:¬(decide (k≤0) || items.isEmpty)=true)
  (h4:¬(items.size * k > (2 ^ 63 - 1) / 8)) (h5:¬Builtin.Tuple.tupleTooMany (items.size * k)=true) (h6:((List.replicate k.toNat items).foldl (·++·) #[]).size≤sizeLine) :
  Meets (Builtin.«tuple.__mul__» ⟨[.ref l,.int k t],[]⟩) (fun _ R s=>s.heap.get? l=some { cls:=.type "tuple",dict:=dd,data:=.seq items n,slots:=sl }/\R (.ok (.ret (Value.ref s.heap.objs.size))) { s with heap:=s.heap.push { cls:=Value.type "tuple",data:=Data.seq ((List.replicate k.toNat items).foldl (·++·) #[]) },toks:=s.toks }):=
 .of_wp fun prog w A R s h=>by obtain⟨hp,g,d,tk,os⟩:=s;obtain⟨hl,h⟩:=h;have f1:=AutoSeq1.idx_int;have f2:=AutoSeq1.sub_tuple_tuple;wp_walk using wpAny_loadPart' hl;rw[if_neg h1];wp_walk using wpAny_loadPart' hl;rw[if_neg h4];(try dsimp only);rw[if_neg h5];wp_walk using wpAny_loadPart' hl;exact⟨_,rfl,h⟩
theorem jJ (its:List Value)(m:Nat):List.foldl (fun x1 x2=>x1++x2) #[] (List.replicate m its.toArray)=(List.replicate m its).flatten.toArray:=by
 have:=ou its m []
 rw[List.nil_append] at this
 exact this
end L2
end
section
namespace L2
open PySem PySem.Spec PyProof.Rows
namespace HT
section
variable {prog:Program}{w:World}{A:Around}{E:Value->Shared->Prop}{s:Shared}
theorem kw {sl:Addr}{vst:Value}{n:Nat}{Q:Int×Int×Nat->Shared->Prop}(hs:s.heap.IsSliceOf sl .none .none vst)(C4:IsPart vst (some (-1)))
  (h:Q ((n:Int) - 1,-1,n) s):wpAny (model prog w) A (Builtin.Slice.sliceApplied (.ref sl) (pure (n:Int))) Q E s:=by
 obtain⟨os,hos,hcs,hds⟩:=id hs
 unfold Builtin.Slice.sliceApplied Builtin.Slice.sliceFields
 refine wpAny_bind (wpAny_bind (wpAny_field hos hds (x:=.none) rfl (wpAny_bind (wpAny_field hos hds (x:=.none) rfl (wpAny_bind (wpAny_field hos hds (x:=vst) rfl (wpAny_pure ?_)))))))
 refine wpAny_bind (_root_.HT.slicePart_ C4 ?_)
 show wpAny _ _ (if ((-1:Int)==0)=true then _ else _) _ _ s
 rw[if_neg (by decide)]
 refine wpAny_bind (slicePart_none (wpAny_bind (slicePart_none (wpAny_bind (wpAny_pure ?_)))))
 have e1:Builtin.Slice.sliceAdjust none none (-1) (n:Int)=((n:Int) - 1,-1):=rfl
 have e2:Builtin.Slice.slicePlaces ((n:Int) - 1) (-1) (-1)=n:=by
  unfold Builtin.Slice.slicePlaces
  rw[if_neg (by decide)]
  by_cases hn:(n:Int) - 1 > -1
  ·rw[if_pos hn]
   have:((n:Int) - 1 - -1 - 1) / (- -1)=(n:Int) - 1:=by rw[show (- -1:Int)=1 by decide,Int.ediv_one];omega
   rw[this];omega
  ·rw[if_neg hn];omega
 show wpAny _ _ (match Builtin.Slice.sliceAdjust none none (-1) (n:Int) with|(lo,hi)=>pure (lo,(-1:Int),Builtin.Slice.slicePlaces lo hi (-1))) _ _ s
 rw[e1]
 show wpAny _ _ (pure ((n:Int) - 1,(-1:Int),Builtin.Slice.slicePlaces ((n:Int) - 1) (-1) (-1))) _ _ s
 rw[e2]
 exact wpAny_pure h
theorem xz {α β:Type}{f:α->Option β}{g:α->β}:∀{l:List α},(∀k∈l,f k=some (g k))->l.filterMap f=l.map g
 |[],_=>rfl
 |a::r,h=>by
  rw[List.filterMap_cons,h a List.mem_cons_self,List.map_cons,xz fun k hk=>h k (List.mem_cons_of_mem _ hk)]
theorem pick_rev (xs:List Value):(List.range xs.length).filterMap (fun (k:Nat)=>xs.toArray[(((xs.length:Nat):Int) - 1+(k:Int) * (-1)).toNat]?)=xs.reverse:=by
 rw[xz (g:=fun k=>xs.getD (xs.length - 1 - k) .none)]
 ·apply List.ext_getElem
  ·simp
  ·intro i h1 h2
   have h3:i<xs.length:=by simpa using h2
   have h4:xs.length - 1 - i<xs.length:=by omega
   rw[List.getElem_map,List.getElem_range,List.getElem_reverse]
   simp[h4]
 ·intro k hk
  have hk':k<xs.length:=List.mem_range.mp hk
  have e1:(((xs.length:Nat):Int) - 1+(k:Int) * (-1)).toNat=xs.length - 1 - k:=by omega
  have h2:xs.length - 1 - k<xs.length:=by omega
  rw[e1]
  simp[h2]
theorem getItem_tuple_rev {t sl:Addr}{vs:List Value}{vst:Value}{Q:Value->Shared->Prop}(ht:IsTup s.heap t vs.toArray)(hs:s.heap.IsSliceOf sl .none .none vst)(C4:IsPart vst (some (-1)))
  (h:Q (.ref s.heap.objs.size) { s with heap:=s.heap.push { cls:=.type "tuple",data:=.seq vs.reverse.toArray } })
  (hsz:vs.length≤sizeLine):wpAny (model prog w) A (getItem (.ref t) (.ref sl)) Q E s:=by
 have htake:sizeOk (.seq vs.reverse.toArray):=by
  show vs.reverse.toArray.size≤sizeLine
  rw[List.size_toArray,List.length_reverse]
  exact hsz
 obtain⟨os,hos,hcs,hds⟩:=id hs
 have hTs:s.TypeIs (.ref sl) "slice":=⟨os,hos,hcs⟩
 unfold getItem
 try with_reducible refine wpAny_holding ?_
 first|refine wpAny_bind (wpAny_pure ?_)|skip
 refine wpAny_bind (wpAny_sequenceKey ht.typeIs (by decide) ?_)
 refine wpAny_bind (wpAny_callSpecial?_slot (name:=Str.ofString "__getitem__") ht.typeIs PyProof.Rows.slot_tuple_getitem
  (wpAny_call_entry PyProof.Rows.slot_tuple_getitem ht.typeIs entry_tuple_getitem ?_ (args_tuple_getitem _ _)))
 show wpAny _ _ (Builtin.Tuple.tupleItemsOf (.ref t) >>= _) _ _ s
 refine wpAny_bind (tupleItemsOf_ ht ?_)
 refine wpAny_bind (wpAny_typeOf hTs ?_)
 rw[if_pos (by decide)]
 have e0:(vs.toArray.size:Nat)=vs.length:=List.size_toArray
 rw[e0]
 refine wpAny_bind (kw hs C4 ?_)
 show wpAny _ _ (if ((((vs.length:Nat):Int) - 1)==0&&(-1:Int)==1&&vs.length==vs.length)=true then _ else _) _ _ s
 have hno:¬(((((vs.length:Nat):Int) - 1)==0&&(-1:Int)==1&&vs.length==vs.length)=true):=by
  rw[show ((-1:Int)==1)=false by decide,Bool.and_false,Bool.false_and]
  exact Bool.false_ne_true
 rw[if_neg hno,pick_rev]
 first
  |exact wpAny_bind (m:=Builtin.Tuple.tupleExact _) (wpAny_newObj_type (wpAny_pure ⟨_,rfl,wpAny_pure h⟩) htake)
  |exact wpAny_bind (m:=Builtin.Tuple.tupleExact _) (wpAny_newObj_type (wpAny_bind (wpAny_pure (wpAny_pure ⟨_,rfl,wpAny_pure h⟩))) htake)
  |exact wpAny_bind (wpAny_bind (m:=Builtin.Tuple.tupleExact _) (wpAny_newObj_type (wpAny_pure (wpAny_pure ⟨_,rfl,wpAny_pure h⟩)) htake))
end
end HT
end L2
end
section
namespace L2
open PySem PySem.Spec PyProof.Rows PySem.W
noncomputable def Leaf {α:Type}(n:Nat)(P:α->Prop):KasT α->Prop
 |.ret a=>P a
 |.ask i j k=>i<n/\j<n/\∀b,Leaf n P (k b)
theorem Leaf.bind {α β:Type}{n:Nat}{P:α->Prop}{R:β->Prop}{f:α->KasT β}(hf:∀a,P a->Leaf n R (f a)):∀{t:KasT α},Leaf n P t->Leaf n R (t.bind f)
 |.ret a,h=>hf a h
 |.ask i j k,h=>⟨h.1,h.2.1,fun b=>Leaf.bind hf (h.2.2 b)⟩
noncomputable abbrev OfN (n:Nat)(p:Array Nat):Prop:=p.toList.Perm (List.range n)
theorem OfN.lt {n:Nat}{p:Array Nat}(h:OfN n p)(hn:0<n)(k:Nat):p.getD k 0<n:=by
 by_cases hk:k<p.size
 ·have e:p.getD k 0=p[k]:=by simp[Array.getD,hk]
  rw[e]
  exact List.mem_range.mp (h.subset (by simp))
 ·have e:p.getD k 0=0:=by simp[Array.getD,hk]
  rw[e];exact hn
theorem OfN.rev {n:Nat}{p:Array Nat}(h:OfN n p)(i j:Nat):OfN n (kas_rev p i j):=(mirror_perm p i j _).toList.trans h
theorem OfN.bub {n:Nat}{p:Array Nat}(h:OfN n p)(i j:Nat):OfN n (bubble p i j):=(bubble_perm p i j).toList.trans h
theorem mP {n:Nat}{p:Array Nat}(hp:OfN n p)(hn:0<n):∀f k,Leaf n (fun _=>True) (kas_asc p f k)
 |0,_=>True.intro
 |f+1,k=>⟨hp.lt hn _,hp.lt hn _,fun b=>by
  cases b with
  |true=>exact True.intro
  |false=>exact mP hp hn f (k+1)⟩
theorem jg {n:Nat}(hn:0<n):∀f (p:Array Nat) k q,OfN n p->Leaf n (fun r=>OfN n r.1) (kas_desc f p k q)
 |0,_,_,_,hp=>hp
 |f+1,p,k,q,hp=>⟨hp.lt hn _,hp.lt hn _,fun b=>by
  cases b with
  |true=>
   show Leaf n _ (if q > 0 then kas_desc f (kas_rev p (k - (q+1)) k) (k+1) 0 else kas_desc f p (k+1) 0)
   split
   ·exact jg hn f _ _ _ (hp.rev _ _)
   ·exact jg hn f _ _ _ hp
  |false=>
   refine⟨hp.lt hn _,hp.lt hn _,fun c=>?_⟩
   cases c with
   |true=>exact hp
   |false=>exact jg hn f _ _ _ hp⟩
theorem mf {n:Nat}(hn:0<n){p:Array Nat}(hp:OfN n p)(a b:Nat):Leaf n (fun r=>OfN n r.2) (kas_tail3 a b p):=by
 unfold kas_tail3
 exact Leaf.bind (P:=fun _=>True) (R:=fun r:Nat×Array Nat=>OfN n r.2) (f:=fun m=>KasT.ret (m,kas_rev p 0 a)) (fun m _=>(show OfN n (kas_rev p 0 a) from hp.rev 0 a)) (mP (hp.rev 0 a) hn _ _)
theorem ju {n:Nat}(hn:0<n){p:Array Nat}(hp:OfN n p)(a b:Nat):Leaf n (fun r=>OfN n r.2) (kas_descPart a b p):=by
 refine Leaf.bind (fun r hr=>?_) (jg hn _ _ _ _ hp)
 split
 ·exact mf hn (OfN.rev hr _ _) _ _
 ·exact mf hn hr _ _
theorem rW {n:Nat}(hn:0<n){p:Array Nat}(hp:OfN n p)(b:Nat):Leaf n (fun r=>OfN n r.2) (kas_count b p):=by
 refine Leaf.bind (fun r _=>?_) (mP hp hn _ _)
 split
 ·exact hp
 ·split
  ·refine⟨hp.lt hn _,hp.lt hn _,fun c=>?_⟩
   cases c with
   |true=>exact hp
   |false=>exact ju hn (hp.rev _ _) _ _
  ·exact ju hn hp _ _
theorem jA {n:Nat}(hn:0<n){p:Array Nat}(hp:OfN n p)(k:Nat):∀f l r,Leaf n (fun _=>True) (kas_place p k f l r)
 |0,_,_=>True.intro
 |f+1,l,r=>by
  show Leaf n _ (if l ≥ r then .ret l else .ask (p.getD k 0) (p.getD ((l+r) / 2) 0) fun c=>if c=true then kas_place p k f l ((l+r) / 2) else kas_place p k f ((l+r) / 2+1) r)
  split
  ·exact True.intro
  ·refine⟨hp.lt hn _,hp.lt hn _,fun c=>?_⟩
   cases c with
   |true=>exact jA hn hp k f _ _
   |false=>exact jA hn hp k f _ _
theorem qU {n:Nat}(hn:0<n):∀f (p:Array Nat) k,OfN n p->Leaf n (OfN n) (kas_bin f p k)
 |0,_,_,hp=>hp
 |f+1,p,k,hp=>Leaf.bind (fun l _=>qU hn f _ _ (hp.bub _ _)) (jA hn hp k _ _ _)
theorem vK {n:Nat}(hn:0<n):Leaf n (OfN n) (kas_sort n):=by
 refine Leaf.bind (fun r hr=>?_) (rW hn (show OfN n (List.toArray (List.range n)) from .refl _) n)
 split
 ·exact qU hn _ _ _ hr
 ·exact hr
theorem HOk.stands {P:Program}{w:World}{H:Hp}{h:Heap}{a:Addr}{o:HO}(x:HOk P w H h)(e:H a=some o):∃ob,h.get? a=some ob:=by
 have y:=x a o e
 cases o with
 |lst xs=>obtain⟨_,_,_,_,z⟩:=y;exact⟨_,z⟩
 |tup xs=>obtain⟨_,_,_,ob,z,_⟩:=y;exact⟨_,z⟩
 |dK kvs=>obtain⟨_,_,_,_,ob,_,_,z,_⟩:=y;exact⟨_,z⟩
 |dT kvs=>obtain⟨_,_,_,_,ob,_,_,z,_⟩:=y;exact⟨_,z⟩
 |set S n=>obtain⟨ob,_,_,_,z,_⟩:=y;exact⟨_,z⟩
 |ins C dx fs=>obtain⟨_,_,_,z,_⟩:=y;exact⟨_,z⟩
 |own y'=>exact y
 |xd fs=>obtain⟨_,⟨ob,_,_,z,_⟩,_⟩:=y;exact⟨_,z⟩
 |rng lo hi=>obtain⟨_,_,_,z⟩:=y;exact⟨_,z⟩
 |frz ob u=>exact⟨_,y.1⟩
 |tbl ps=>exact⟨_,(show h.get? a=some { cls:=.none,data:=.fields ps } from y)⟩
 |met f y'=>exact⟨_,(show h.get? a=some (PySem.W.methodObj (.ref f) (.ref y')) from y)⟩
 |ext φ=>exact y.2.1
theorem Dc {h:Heap}{L:Addr}{m m':Str->Option Value}(a:h.Ns L m)(b:h.Ns L m'):m=m':=by
 obtain⟨o,es,ep,h1,h2,h3,h4⟩:=a
 obtain⟨o',es',ep',h1',h2',h3',h4'⟩:=b
 rw[h1] at h1'
 cases h1'
 rw[h2] at h2'
 cases h2'
 funext x
 rw[←h4 x,←h4' x]
section
variable {prog:Program}{w:World}{A:Around}{E:Value->Shared->Prop}{s:Shared}
theorem sL {a:Addr}{vs:List Value}{n:Nat}{P:PySem.Fin->Shared->Prop}(ho:s.heap.get? a=some (seqObj "list" vs.toArray n))(h2:vs.length<2)
  (h:P (.done (.ret .none)) { s with heap:=sortedHeap s.heap a vs vs.toArray }):wpAny (model prog w) A (Builtin.«list.sort» ⟨[.ref a],[]⟩) P E s:=by
 rw[list_sort_plain]
 have ha:=Heap.lt_size ho
 refine wpAny_bind (listItems_at ho rfl (wpAny_bind (listUpdate_at ho rfl ?_ (by rw[List.size_toArray,sizeLine_eq];omega) (Nat.zero_le _))))
 obtain⟨e1,ho1⟩:∃e1,(s.heap.update a (Obj.mapSeq fun _=>(#[]:Array Value))).get? a=some (seqObj "list" #[] e1):=⟨_,get?_update_seq ho fun _=>#[]⟩
 refine wpAny_bind (seqEpoch_at ho1 rfl (wpAny_bind (wpAny_newTuple (wpAny_bind (wpAny_newList (wpAny_holding ?_) (Nat.zero_le _))) (by show vs.length≤_;rw[sizeLine_eq];omega))))
 have ho6:(((s.heap.update a (Obj.mapSeq fun _=>(#[]:Array Value))).push (seqObj "tuple" vs.toArray 0)).push (seqObj "list" #[] 0)).get? a=some (seqObj "list" #[] e1):=Heap.get?_push_of_some _ (Heap.get?_push_of_some _ ho1)
 show wpAny (model prog w) A _ P E { s with heap:=((s.heap.update a (Obj.mapSeq fun _=>(#[]:Array Value))).push (seqObj "tuple" vs.toArray 0)).push (seqObj "list" #[] 0) }
 dsimp only
 have hlt:vs.toArray.size<2:=by rw[List.size_toArray];exact h2
 rw[if_pos hlt,if_pos hlt]
 refine wpAny_bind (wpAny_pure ?_)
 rw[StateT.run_pure]
 have hsn:(arrOf (SortSt.mk' general' (vs.toArray.zip vs.toArray) #[] 7 none)).map (·.2)=vs.toArray:=by
  show (vs.toArray.zip vs.toArray).map (·.2)=vs.toArray
  apply Array.toList_inj.mp
  simp
  exact List.map_snd_zip (by simp)
 refine wpAny_bind (wpAny_pure ?_)
 dsimp only
 refine wpAny_bind (seqEpoch_at ho6 rfl ?_)
 refine wpAny_bind (listUpdate_at ho6 rfl ?_ (Nat.zero_le _) (by rw[hsn,List.size_toArray,sizeLine_eq];omega))
 simp only[bne_self_eq_false,Bool.false_eq_true,if_false]
 rw[hsn]
 exact wpAny_pure h
theorem oO {l:Addr}{vs:List Value}{Q:Value->Shared->Prop}(hl:s.heap.IsList l vs.toArray)(h2:vs.length<2)(h:Q (.ref (s.heap.objs.size+1)) { s with heap:=sortedAll s.heap vs vs.toArray }) :
  wpAny (model prog w) A (call (.builtin "sorted") [.ref l]) Q E s:=by
 refine Calls.call_function_entry kind_sorted plain_sorted entry_sorted (args_sorted1 _) ?_
 unfold Builtin.«sorted»
 refine wpAny_bind (m:=checkCount "sorted" 1 1 _) (wpAny_pure (wpAny_bind (collect_list hl (wpAny_bind (wpAny_newList ?_ (by rw[sizeLine_eq];omega))) (by rw[sizeLine_eq];omega))))
 have hsz:((s.heap.push (seqObj "list" #[] 0)).update s.heap.objs.size (Obj.mapSeq (·++vs.toArray))).objs.size=s.heap.objs.size+1:=(Heap.size_update ..).trans (size_push' ..)
 have hoL:(((s.heap.push (seqObj "list" #[] 0)).update s.heap.objs.size (Obj.mapSeq (·++vs.toArray))).push (seqObj "list" vs.toArray 0)).get? (s.heap.objs.size+1)=some (seqObj "list" vs.toArray 0):=hsz▸Heap.get?_push_size _ rfl
 show wpAny _ _ _ _ _ { s with heap:=((s.heap.push (seqObj "list" #[] 0)).update s.heap.objs.size (Obj.mapSeq (·++vs.toArray))).push (seqObj "list" vs.toArray 0) }
 rw[hsz]
 refine wpAny_bind (wpAny_holding (wpAny_call_entry slot_list_sort ⟨_,hoL,rfl⟩ entry_list_sort (sL hoL h2 ⟨_,rfl,?_⟩) (args_list_sort _)))
 exact wpAny_pure ⟨_,rfl,h⟩
end
end L2
end
section
namespace Dp
open PySem PySem.Spec L2 PyProof.Rows
inductive PV where
 |non|bl (b:Bool)|int (i:Int)|str (x:Str)|ty (n:String)|fn (x:Str)
 |tup (ps:List PV)|lst (ps:List PV)|dct (ks:List e9) (ps:List PV)
 |src (ps:List PV)|ktu (ps:List PV)
 |rng (lo hi:Int)
 |exn (C:Addr)
 |set (ps:List PV)
noncomputable def iX:PV->Bool
 |.non=>true
 |.bl _=>true
 |.int _=>true
 |.str _=>true
 |.ty _=>true
 |_=>false
structure Cn where
 ok:Addr->Prop
 P:Program
 w:World
 mg:Str->Option Value
noncomputable def eS (its:List Value)(n:Nat):Obj:={ cls:=.type "list",data:=.seq its.toArray n }
mutual
noncomputable def D1 (top:Addr->Prop)(c:Cn)(h:Heap):PV->Value->Prop
 |.non,u=>u=.none
 |.bl b,u=>u=.bool b
 |.int i,u=>∃t,u=.int i t
 |.str x,u=>∃t,u=.str x t
 |.ty n,u=>u=.type n
 |.fn x,u=>∃a,c.mg x=some (.ref a)/\u=.ref a
 |.tup ps,u=>∃a its,u=.ref a/\top a/\IsTup h a its.toArray/\its.length≤sizeLine/\Ds c h ps its
 |.lst ps,u=>∃a its n,u=.ref a/\top a/\h.get? a=some (eS its n)/\its.length≤sizeLine/\Ds c h ps its
 |.ktu ps,u=>∃a its,u=.ref a/\top a/\IsTup h a its.toArray/\its.length≤sizeLine/\Ds c h ps its
 |.src ps,u=>∃a its n,u=.ref a/\top a/\h.get? a=some (eS its n)/\its.length≤sizeLine/\Ds c h ps its
 |.dct ks ps,u=>∃a kus,u=.ref a/\top a/\(a==sysModules)=false/\h.DictOf (b7 c.P c.w) a kus/\kus.length≤sizeLine/\kus.map (·.1)=ks/\Ds c h ps (kus.map (·.2))
 |.rng lo hi,u=>∃a t1 t2 t3,u=.ref a/\top a/\h.get? a=some { cls:=.type "range",data:=.fields #[.int lo t1,.int hi t2,.int 1 t3] }
 |.exn C,u=>∃a o,u=.ref a/\top a/\h.get? a=some o/\o.cls=.ref C
 |.set ps,u=>False
noncomputable def Ds (c:Cn)(h:Heap):List PV->List Value->Prop
 |[],us=>us=[]
 |p::ps,us=>∃u r,us=u::r/\D1 c.ok c h p u/\Ds c h ps r
end
noncomputable abbrev D (c:Cn)(h:Heap):PV->Value->Prop:=D1 c.ok c h
noncomputable abbrev Rd (c:Cn)(h:Heap):PV->Value->Prop:=D1 (fun _=>True) c h
section
variable {c c':Cn}{h h':Heap}
theorem Ds.length:∀{ps:List PV} {us:List Value},Ds c h ps us->us.length=ps.length
 |[],_,e=>by rw[show _=[] from e];rfl
 |_::_,_,⟨u,r,e,_,t⟩=>by rw[e,List.length_cons,List.length_cons,t.length]
structure Kp (c c':Cn)(h h':Heap):Prop where
 P:c'.P=c.P
 w:c'.w=c.w
 mg:c'.mg=c.mg
 kp:∀a o,c.ok a->h.get? a=some o->c'.ok a/\h'.get? a=some o
mutual
theorem D1.mono {top top':Addr->Prop}(k:Kp c c' h h')(kt:∀a o,top a->h.get? a=some o->top' a/\h'.get? a=some o):∀{p:PV} {u:Value},D1 top c h p u->D1 top' c' h' p u
 |.non,_,e=>e
 |.bl _,_,e=>e
 |.int _,_,e=>e
 |.str _,_,e=>e
 |.ty _,_,e=>e
 |.fn _,_,⟨a,m,e⟩=>⟨a,by rw[k.mg];exact m,e⟩
 |.tup ps,_,⟨a,its,e,q,⟨o,ho,r⟩,z,t⟩=>⟨a,its,e,(kt _ _ q ho).1,⟨o,(kt _ _ q ho).2,r⟩,z,Ds.mono k t⟩
 |.ktu ps,_,⟨a,its,e,q,⟨o,ho,r⟩,z,t⟩=>⟨a,its,e,(kt _ _ q ho).1,⟨o,(kt _ _ q ho).2,r⟩,z,Ds.mono k t⟩
 |.lst ps,_,⟨a,its,n,e,q,ho,z,t⟩=>⟨a,its,n,e,(kt _ _ q ho).1,(kt _ _ q ho).2,z,Ds.mono k t⟩
 |.src ps,_,⟨a,its,n,e,q,ho,z,t⟩=>⟨a,its,n,e,(kt _ _ q ho).1,(kt _ _ q ho).2,z,Ds.mono k t⟩
 |.dct ks ps,_,⟨a,kus,e,q,y,⟨o,es,ep,ho,r⟩,z,m,t⟩=>⟨a,kus,e,(kt _ _ q ho).1,y,by rw[k.P,k.w];exact⟨o,es,ep,(kt _ _ q ho).2,r⟩,z,m,Ds.mono k t⟩
 |.rng _ _,_,⟨a,t1,t2,t3,e,q,ho⟩=>⟨a,t1,t2,t3,e,kt _ _ q ho⟩
 |.exn C,_,⟨a,o,e,q,ho,r⟩=>⟨a,o,e,(kt _ _ q ho).1,(kt _ _ q ho).2,r⟩
 |.set _,_,e=>e
theorem Ds.mono (k:Kp c c' h h'):∀{ps:List PV} {us:List Value},Ds c h ps us->Ds c' h' ps us
 |[],_,e=>e
 |_::_,_,⟨u,r,e,d,t⟩=>⟨u,r,e,D1.mono k k.kp d,Ds.mono k t⟩
end
theorem D1.m {p:PV}{u:Value}(d:D c h p u)(k:Kp c c' h h'):D c' h' p u:=D1.mono k k.kp d
theorem D1.rd {p:PV}{u:Value}{top:Addr->Prop}(d:D1 top c h p u):Rd c h p u:=D1.mono ⟨rfl,rfl,rfl,fun _ _ q e=>⟨q,e⟩⟩ (fun _ _ _ e=>⟨trivial,e⟩) d
theorem Kp.refl:Kp c c h h:=⟨rfl,rfl,rfl,fun _ _ q e=>⟨q,e⟩⟩
theorem Ds.get:∀{ps:List PV} {us:List Value} {i:Nat} {p:PV},Ds c h ps us->ps[i]?=some p->∃u,us[i]?=some u/\D c h p u
 |[],_,i,p,_,e=>by simp at e
 |_::_,_,0,_,⟨u,r,e,d,t⟩,q=>by simp at q;subst q;exact⟨u,by rw[e];rfl,d⟩
 |_::ps,_,i+1,p,⟨u,r,e,d,t⟩,q=>by
  obtain⟨v,h1,h2⟩:=t.get (i:=i) (p:=p) (by simpa using q)
  exact⟨v,by rw[e];simpa using h1,h2⟩
theorem Ds.app:∀{ps qs:List PV} {us vs:List Value},Ds c h ps us->Ds c h qs vs->Ds c h (ps++qs) (us++vs)
 |[],_,_,_,e,q=>by rw[show _=[] from e];exact q
 |_::_,_,_,_,⟨u,r,e,d,t⟩,q=>⟨u,_,by rw[e];rfl,d,t.app q⟩
theorem Ds.one {p:PV}{u:Value}(d:D c h p u):Ds c h [p] [u]:=⟨u,[],rfl,d,rfl⟩
theorem Ds.cons {p:PV}{u:Value}{ps:List PV}{us:List Value}(d:D c h p u)(t:Ds c h ps us):Ds c h (p::ps) (u::us):=⟨u,us,rfl,d,t⟩
theorem Ds.set {p:PV}{u:Value}(d:D c h p u):∀{ps:List PV} {us:List Value} (i:Nat),Ds c h ps us->Ds c h (ps.set i p) (us.set i u)
 |[],_,_,q=>by rw[show _=[] from q];rfl
 |_::_,_,0,⟨v',r,e,_,t⟩=>by rw[e];exact⟨u,r,rfl,d,t⟩
 |_::_,_,i+1,⟨v',r,e,h',t⟩=>by rw[e];exact⟨v',_,rfl,h',Ds.set d i t⟩
theorem Ds.take:∀{ps:List PV} {us:List Value} (n:Nat),Ds c h ps us->Ds c h (ps.take n) (us.take n)
 |_,_,0,_=>by simp[Ds]
 |[],_,_+1,q=>by rw[show _=[] from q];rfl
 |_::_,_,n+1,⟨v,r,e,d,t⟩=>by rw[e];exact⟨v,_,rfl,d,t.take n⟩
theorem Ds.drop:∀{ps:List PV} {us:List Value} (n:Nat),Ds c h ps us->Ds c h (ps.drop n) (us.drop n)
 |_,_,0,q=>q
 |[],_,_+1,q=>by rw[show _=[] from q];rfl
 |_::_,_,n+1,⟨v,r,e,d,t⟩=>by rw[e];exact t.drop n
theorem Ds.rev:∀{ps:List PV} {us:List Value},Ds c h ps us->Ds c h ps.reverse us.reverse
 |[],_,q=>by rw[show _=[] from q];rfl
 |_::_,_,⟨v,r,e,d,t⟩=>by rw[e,List.reverse_cons,List.reverse_cons];exact t.rev.app (.one d)
theorem Ds.rep {ps:List PV}{us:List Value}(d:Ds c h ps us):∀n,Ds c h (List.replicate n ps).flatten (List.replicate n us).flatten
 |0=>rfl
 |n+1=>d.app (Ds.rep d n)
theorem Ds.of:∀{ps:List PV} {us:List Value},us.length=ps.length->(∀(i:Nat) p u,ps[i]?=some p->us[i]?=some u->D c h p u)->Ds c h ps us
 |[],[],_,_=>rfl
 |p::ps,u::us,hl,hd=>⟨u,us,rfl,hd 0 p u rfl rfl,Ds.of (by simpa using hl) fun i p u h1 h2=>hd (i+1) p u (by simpa using h1) (by simpa using h2)⟩
 |[],_::_,hl,_=>by cases hl
 |_::_,[],hl,_=>by cases hl
theorem D1.v {top:Addr->Prop}{p:PV}{u:Value}(d:D1 top c h p u):∃v,hK v u/\∀u',hK v u'->D1 top c h p u':=by
 cases p with
 |non=>exact⟨.non,d,fun _ r=>r⟩
 |bl b=>exact⟨.bl b,d,fun _ r=>r⟩
 |int i=>exact⟨.int i,d,fun _ r=>r⟩
 |str i=>exact⟨.str i,d,fun _ r=>r⟩
 |ty i=>exact⟨.ty i,d,fun _ r=>r⟩
 |fn i=>obtain⟨a,m,e⟩:=d;exact⟨.ref a,e,fun _ r=>⟨a,m,r⟩⟩
 |set i=>exact (show False from d).elim
 |tup|lst|ktu|src|dct|rng|exn=>
  obtain⟨a,r,x⟩:=id d
  first
   |exact⟨.ref a,x.1,fun u' q=>by rw[show u'=.ref a from q];exact⟨a,r,rfl,x.2⟩⟩
   |(obtain⟨n,x⟩:=x;exact⟨.ref a,x.1,fun u' q=>by rw[show u'=.ref a from q];exact⟨a,r,n,rfl,x.2⟩⟩)
   |(obtain⟨n,m,x⟩:=x;exact⟨.ref a,x.1,fun u' q=>by rw[show u'=.ref a from q];exact⟨a,r,n,m,rfl,x.2⟩⟩)
end
end Dp
end
section
namespace Dp
open PySem PySem.Spec L2 PyProof.Rows
inductive Sl where
 |val (p:PV)|own (ps:List PV)|dic (ks:List e9) (ps:List PV)
noncomputable abbrev aK:=List (Option Sl)
noncomputable abbrev bz:HO:=.ext fun _=>True
noncomputable def iY (bad:Addr->Prop)(H:Hp)(a:Addr):Prop:=H a=none/\¬bad a
structure Z (X:Cx) where
 bad:Addr->Prop
 pins:List (Addr×Obj)
 σ:L2.St
 H:Hp
 ρ:aK
noncomputable abbrev bV (X:Cx)(bad:Addr->Prop)(H:Hp):Cn:=⟨iY bad H,X.prog,X.w,X.mg⟩
noncomputable abbrev Z.cn {X:Cx}(z:Z X):Cn:=bV X z.bad z.H
noncomputable def DictAt (c:Cn)(h:Heap)(a:Addr)(ks:List e9)(ps:List PV):Prop:=∃kus,(a==sysModules)=false/\h.DictOf (b7 c.P c.w) a kus/\kus.length≤sizeLine/\kus.map (·.1)=ks/\Ds c h ps (kus.map (·.2))
noncomputable def ListAt (c:Cn)(h:Heap)(a:Addr)(ps:List PV):Prop:=∃its n,h.get? a=some (eS its n)/\its.length≤sizeLine/\Ds c h ps its
noncomputable def SlOk (c:Cn)(H:Hp)(h:Heap):Sl->V->Prop
 |.val p,v=>∀u,hK v u->D c h p u
 |.own ps,v=>∃a,v=.ref a/\H a=some bz/\ListAt c h a ps
 |.dic ks ps,v=>∃a,v=.ref a/\H a=some bz/\DictAt c h a ks ps
noncomputable def cI:Sl->Bool
 |.val _=>false
 |_=>true
noncomputable def ci (σ:L2.St)(ρ:aK)(i:Nat)(a:Addr):Prop:=(∃s,ρ[i]?=some (some s)/\cI s=true)/\σ[i]?=some (some (.ref a))
structure Z.ok {X:Cx}(z:Z X)(s:Shared):Prop where
 I:Inv X z.pins z.σ z.H s
 len:z.σ.length=z.ρ.length
 slk:∀(i:Nat) t,z.ρ[i]?=some (some t)->∃v,z.σ[i]?=some (some v)/\(∃u,hK v u)/\SlOk z.cn z.H s.heap t v
 dj:∀i j a,ci z.σ z.ρ i a->ci z.σ z.ρ j a->i=j
 nb:∀i a,ci z.σ z.ρ i a->¬z.bad a/\(X.s₀.heap.get? a=none\/X.H₀ a≠none)
 oh:∀b o,z.H b=some o->o=bz
 oh0:∀b o,X.H₀ b=some o->o=bz
 loc:z.bad X.env.locals
 cel:∀x c,X.env.cells.lookup x=some c->z.bad c
 fs:∀b∈X.fs,z.bad b
 ex:∀b∈X.ex,z.bad b
 there:∀b,z.bad b->∃o,s.heap.get? b=some o
 bs:∀b o,X.base.get? b=some o->¬z.bad b
 ot:∀a o,z.H a=some o->¬z.bad a/\∃ob,s.heap.get? a=some ob/\ob.cls≠.type "tuple"
 anc:X.fn "" = true->∀a,X.H₀ a≠none->z.σ[0]?=some (some (.ref a))
structure Ext (bad:Addr->Prop)(h h':Heap):Prop where
 kp:∀a o,¬bad a->h.get? a=some o->h'.get? a=some o
 th:∀a o,h.get? a=some o->∃o',h'.get? a=some o'
theorem Ext.refl {bad:Addr->Prop}{h:Heap}:Ext bad h h:=⟨fun _ _ _ e=>e,fun _ o e=>⟨o,e⟩⟩
theorem Ext.trans {bad:Addr->Prop}{h h1 h2:Heap}(a:Ext bad h h1)(b:Ext bad h1 h2):Ext bad h h2:=
 ⟨fun x o n e=>b.kp x o n (a.kp x o n e),fun x o e=>let ⟨o',q⟩:=a.th x o e;b.th x o' q⟩
theorem Ext.kept {bad:Addr->Prop}{h h':Heap}(k:∀b u,h.get? b=some u->h'.get? b=some u):Ext bad h h':=⟨fun a o _ e=>k a o e,fun a o e=>⟨o,k a o e⟩⟩
section
variable {X:Cx}{z:Z X}{s s' s1 s2:Shared}{h h':Heap}
theorem Ext.kpD {bad:Addr->Prop}{H:Hp}(e:Ext bad h h'):Kp (bV X bad H) (bV X bad H) h h':=⟨rfl,rfl,rfl,fun a o q g=>⟨q,e.kp a o q.2 g⟩⟩
theorem ListAt.mono {c c':Cn}{a:Addr}{ps:List PV}(k:Kp c c' h h')(q:∀o,h.get? a=some o->h'.get? a=some o):ListAt c h a ps->ListAt c' h' a ps
 |⟨its,n,e,z,t⟩=>⟨its,n,q _ e,z,t.mono k⟩
theorem DictAt.mono {c c':Cn}{a:Addr}{ks:List e9}{ps:List PV}(k:Kp c c' h h')(q:∀o,h.get? a=some o->h'.get? a=some o):DictAt c h a ks ps->DictAt c' h' a ks ps
 |⟨kus,y,⟨o,es,ep,e,r⟩,z,m,t⟩=>⟨kus,y,by rw[k.P,k.w];exact⟨o,es,ep,q _ e,r⟩,z,m,t.mono k⟩
theorem SlOk.mono {c c':Cn}{H:Hp}(k:Kp c c' h h')(q:∀a o,H a=some bz->h.get? a=some o->h'.get? a=some o):∀{t:Sl} {v:V},SlOk c H h t v->SlOk c' H h' t v
 |.val p,_,d=>fun u r=>(d u r).m k
 |.own ps,_,⟨a,e,o,d⟩=>⟨a,e,o,d.mono k (q a · o)⟩
 |.dic ks ps,_,⟨a,e,o,d⟩=>⟨a,e,o,d.mono k (q a · o)⟩
noncomputable def Z.go (z:Z X)(s s':Shared):Prop:=z.ok s'/\Ext z.bad s.heap s'.heap
theorem Z.ok.stands (h:z.ok s){a:Addr}{o:HO}(e:z.H a=some o):∃ob,s.heap.get? a=some ob:=h.I.hok.stands e
theorem Z.ok.free (h:z.ok s){a:Addr}(e:s.heap.get? a=none):iY z.bad z.H a:=by
 refine⟨?_,fun b=>?_⟩
 ·cases q:z.H a with
  |none=>rfl
  |some o=>obtain⟨ob,r⟩:=h.stands q;rw[e] at r;cases r
 ·obtain⟨o,r⟩:=h.there a b;rw[e] at r;cases r
theorem Z.ok.own_nb (h:z.ok s){i:Nat}{t:Sl}{a:Addr}(e:z.ρ[i]?=some (some t))(o:cI t=true)(q:z.σ[i]?=some (some (.ref a))):¬z.bad a:=(h.nb i a ⟨⟨t,e,o⟩,q⟩).1
theorem SlOk.step {z:Z X}(hz:z.ok s)(e:Ext z.bad s.heap h'){i:Nat}{t:Sl}{v:V}(e1:z.ρ[i]?=some (some t))(e2:z.σ[i]?=some (some v)):SlOk z.cn z.H s.heap t v->SlOk z.cn z.H h' t v:=fun q=>by
 cases t with
 |val p=>exact fun u r=>(q u r).m e.kpD
 |own ps=>obtain⟨a,rfl,o,d⟩:=q;exact⟨a,rfl,o,d.mono e.kpD fun o'=>e.kp a o' (hz.own_nb e1 rfl e2)⟩
 |dic ks ps=>obtain⟨a,rfl,o,d⟩:=q;exact⟨a,rfl,o,d.mono e.kpD fun o'=>e.kp a o' (hz.own_nb e1 rfl e2)⟩
theorem Z.ok.ext (hz:z.ok s)(I:Inv X z.pins z.σ z.H s')(e:Ext z.bad s.heap s'.heap):z.go s s':=
 ⟨⟨I,hz.len,fun i t q=>by
  obtain⟨v,e1,r,d⟩:=hz.slk i t q
  exact⟨v,e1,r,d.step hz e q e1⟩,hz.dj,hz.nb,hz.oh,hz.oh0,hz.loc,hz.cel,hz.fs,hz.ex,fun b q=>let ⟨o,r⟩:=hz.there b q;e.th b o r,hz.bs,fun a o q=>⟨(hz.ot a o q).1,let ⟨ob,r1,r2⟩:=(hz.ot a o q).2;⟨ob,e.kp a ob (hz.ot a o q).1 r1,r2⟩⟩,hz.anc⟩,e⟩
theorem Z.ok.kept (hz:z.ok s){t:Nat}(k:∀b u,s.heap.get? b=some u->h'.get? b=some u):z.go s { s with heap:=h',toks:=t }:=hz.ext (hz.I.kept (t':=t) k) (.kept k)
theorem Z.ok.tok (hz:z.ok s)(t:Nat):z.go s { s with toks:=t }:=hz.kept (h':=s.heap) fun _ _ e=>e
theorem Z.ok.push (hz:z.ok s)(o:Obj)(t:Nat):z.go s { s with heap:=s.heap.push o,toks:=t }:=hz.kept fun _ _ e=>Heap.get?_push_of_some _ e
theorem Z.ok.refl (hz:z.ok s):z.go s s:=⟨hz,.refl⟩
theorem Z.go.trans (a:z.go s s1)(b:z.go s1 s2):z.go s s2:=⟨b.1,a.2.trans b.2⟩
end
inductive RV where
 |fz (p:PV)|nw (ps:List PV)|ln (p:PV)
noncomputable def RV.pv:RV->PV
 |.fz p=>p
 |.nw ps=>.lst ps
 |.ln p=>p
noncomputable def RV.fr:RV->Option PV
 |.fz p=>some p
 |.nw ps=>some (.lst ps)
 |.ln _=>none
noncomputable abbrev FE:=aK->Option RV
noncomputable abbrev FB:=aK->Option Bool
noncomputable abbrev FA:=aK->Option (List RV)
noncomputable abbrev FI:=aK->Option (List PV)
section
variable {X:Cx}{z:Z X}{s s' s1 s2:Shared}{h0 h h':Heap}
noncomputable def DO:PV->Bool
 |.lst _=>true
 |.dct _ _=>true
 |_=>false
noncomputable def RvOk (z:Z X)(h0 h:Heap):RV->Value->Prop
 |.fz p,u=>D z.cn h p u
 |.nw ps,u=>∃a,u=.ref a/\h0.get? a=none/\iY z.bad z.H a/\ListAt (bV X z.bad (eV z.H a bz)) h a ps
 |.ln p,u=>Rd z.cn h p u/\DO p=true/\∀a,u=.ref a->¬z.bad a
theorem yj {bad:Addr->Prop}{H:Hp}{a:Addr}{h:Heap}:Kp (bV X bad (eV H a bz)) (bV X bad H) h h:=⟨rfl,rfl,rfl,fun b o q e=>⟨⟨by
 have:=q.1
 by_cases hb:b=a
 ·subst hb;rw[cz] at this;cases this
 ·rwa [bF hb] at this,q.2⟩,e⟩⟩
theorem rV {bad:Addr->Prop}{H:Hp}{a:Addr}{h:Heap}(n:h.get? a=none):Kp (bV X bad H) (bV X bad (eV H a bz)) h h:=⟨rfl,rfl,rfl,fun b o q e=>⟨⟨by
 rw[bF (fun z=>by subst z;rw[n] at e;cases e)];exact q.1,q.2⟩,e⟩⟩
theorem RvOk.fr {r:RV}{p:PV}{u:Value}(d:RvOk z h0 h r u)(e:r.fr=some p):D z.cn h p u:=by
 cases r with
 |fz q=>cases e;exact d
 |nw ps=>cases e;obtain⟨a,e,_,o,its,n,g,l,t⟩:=d;exact⟨a,its,n,e,o,g,l,t.mono yj⟩
 |ln q=>cases e
theorem RvOk.rd {r:RV}{u:Value}(d:RvOk z h0 h r u):Rd z.cn h r.pv u:=by
 cases r with
 |fz q=>exact D1.rd d
 |nw ps=>exact D1.rd (RvOk.fr d rfl)
 |ln q=>exact d.1
theorem RvOk.ext {r:RV}{u:Value}(d:RvOk z h0 h r u)(e:Ext z.bad h h'):RvOk z h0 h' r u:=by
 cases r with
 |fz q=>exact D1.m d e.kpD
 |nw ps=>obtain⟨a,e1,n,o,l⟩:=d;exact⟨a,e1,n,o,l.mono e.kpD fun o' q=>e.kp a o' o.2 q⟩
 |ln q=>
  refine⟨?_,d.2⟩
  obtain⟨d,lb,nb⟩:=d
  have k:∀a,u=.ref a->∀o,h.get? a=some o->h'.get? a=some o:=fun a ea o q=>e.kp a o (nb a ea) q
  cases q with
  |lst ps=>obtain⟨a,its,n,e1,q,ho,l,t⟩:=d;exact⟨a,its,n,e1,q,k a e1 _ ho,l,t.mono e.kpD⟩
  |dct ks ps=>obtain⟨a,kus,e1,q,y,⟨o,es,ep,ho,r⟩,l,m,t⟩:=d;exact⟨a,kus,e1,q,y,⟨o,es,ep,k a e1 _ ho,r⟩,l,m,t.mono e.kpD⟩
  |_=>cases lb
structure Rv (z:Z X)(h:Heap)(p:PV)(u:Value):Prop where
 rd:Rd z.cn h p u
 fz:DO p=false->D z.cn h p u
 nb:DO p=true->∀a,u=.ref a->¬z.bad a
theorem D1.rv_nb {p:PV}{u:Value}(d:D z.cn h p u)(e:DO p=true){a:Addr}(ea:u=.ref a):¬z.bad a:=by
 cases p with
 |lst ps=>obtain⟨b,its,n,e1,q,_⟩:=d;rw[e1] at ea;cases ea;exact q.2
 |dct ks ps=>obtain⟨b,its,e1,q,_⟩:=d;rw[e1] at ea;cases ea;exact q.2
 |_=>cases e
theorem RvOk.rv {r:RV}{u:Value}(d:RvOk z h0 h r u):Rv z h r.pv u:=by
 refine⟨d.rd,fun e=>?_,fun e a ea=>?_⟩
 ·cases r with
  |fz q=>exact d
  |nw ps=>cases e
  |ln q=>rw[show RV.pv (.ln q)=q from rfl,d.2.1] at e;cases e
 ·cases r with
  |fz q=>exact D1.rv_nb d e ea
  |nw ps=>obtain⟨b,rfl,_,o,_⟩:=d;cases ea;exact o.2
  |ln q=>exact d.2.2 a ea
noncomputable def Z.post (z:Z X)(s:Shared)(r:RV)(u:Value)(s':Shared):Prop:=z.go s s'/\RvOk z s.heap s'.heap r u
theorem RvOk.old {r:RV}{u:Value}(d:RvOk z h0 h r u)(e:∀a,h0.get? a=none->h'.get? a=none):RvOk z h' h r u:=by
 cases r with
 |fz q=>exact d
 |nw ps=>obtain⟨a,e1,n,o,l⟩:=d;exact⟨a,e1,e a n,o,l⟩
 |ln q=>exact d
theorem Ext.back {bad:Addr->Prop}(e:Ext bad h h'){a:Addr}(n:h'.get? a=none):h.get? a=none:=by
 cases q:h.get? a with
 |none=>rfl
 |some o=>obtain⟨o',r⟩:=e.th a o q;rw[n] at r;cases r
theorem Z.go.post {r:RV}{u:Value}(a:z.go s s1)(b:Z.post z s1 r u s2):Z.post z s r u s2:=⟨a.trans b.1,b.2.old fun _=>Ext.back a.2⟩
end
noncomputable abbrev W (X:Cx){α:Type}(t:Sem α)(Q:α->Shared->Prop)(E:Value->Shared->Prop)(s:Shared):Prop:=wpAny (model X.prog X.w) X.A t Q E s
noncomputable def NE (X:Cx)(e:Expr)(f:FE):Prop:=∀(z:Z X) s r E,z.ok s->f z.ρ=some r->W X (eval e X.env) (Z.post z s r) E s
noncomputable def NB (X:Cx)(e:Expr)(f:FB):Prop:=∀(z:Z X) s b E,z.ok s->f z.ρ=some b->W X (isTrue e X.env (eval e X.env)) (fun c s'=>c=b/\z.go s s') E s
noncomputable def NW (X:Cx)(e:Expr)(f:FB):Prop:=∀(z:Z X) whole s b E,z.ok s->f z.ρ=some b->W X (isTrue e X.env whole) (fun c s'=>c=b/\z.go s s') E s
inductive RvsOk {X:Cx} (z:Z X) (h0 h:Heap):List RV->List Value->Prop where
 |nil:RvsOk z h0 h [] []
 |cons {r:RV} {u:Value} {rs:List RV} {us:List Value}:RvOk z h0 h r u->RvsOk z h0 h rs us->RvsOk z h0 h (r::rs) (u::us)
noncomputable def NA (X:Cx)(es:List Expr)(f:FA):Prop:=∀(z:Z X) (pos:Pos) s rs E,z.ok s->f z.ρ=some rs->W X (spliced (backTo pos (starEach es X.env))) (fun us s'=>z.go s s'/\RvsOk z s.heap s'.heap rs us) E s
end Dp
end
section
namespace L2
open PySem PySem.Spec PyProof.Rows
section
variable {κ:Type}[DecidableEq κ]
end
theorem lD {P:Program}{w:World}{k:e9}{u:Value}(r:hK (kV k) u):(b7 P w).is k u=true:=by
 cases k with
 |inl i=>obtain⟨t,e⟩:=(show ∃t,u=Value.int i t from r);subst e;exact qW P w i t
 |inr x=>obtain⟨t,e⟩:=(show ∃t,u=Value.str x t from r);subst e;exact qE P w x t
section
variable {X:Cx}{pins:List (Addr×Obj)}{σ:St}{H:Hp}{s:Shared}{a:Addr}{y v:V}{u r:Value}{o:Option V}{A:Around}{E:Value->Shared->Prop}
theorem Inv.big (I:Inv X pins σ H s):sysModules<s.heap.objs.size:=by
 have h:mainGlobals<s.heap.objs.size:=(I.mod.glob.keeps I.bk).lt
 exact Nat.lt_trans (by decide) h
end
end L2
end
section
namespace Dp
open PySem PySem.Spec L2 PySem.SeqAt
noncomputable def qn:PV->V
 |.non=>.non
 |.bl b=>.bl b
 |.int i=>.int i
 |.str x=>.str x
 |.ty n=>.ty n
 |_=>.non
mutual
noncomputable def bL:PV->Bool
 |.non=>true
 |.bl _=>true
 |.int _=>true
 |.str _=>true
 |.tup ps=>aW ps
 |.lst ps=>aW ps
 |_=>false
noncomputable def aW:List PV->Bool
 |[]=>true
 |p::ps=>bL p&&aW ps
end
mutual
noncomputable def lr:PV->Nat
 |.tup ps=>cJ ps+1
 |.lst ps=>cJ ps+1
 |_=>0
noncomputable def cJ:List PV->Nat
 |[]=>0
 |p::ps=>max (lr p) (cJ ps)
end
mutual
noncomputable def iy:PV->PV->Bool
 |.tup ps,q=>match q with
  |.tup qs=>gd ps qs
  |_=>false
 |.lst ps,q=>match q with
  |.lst qs=>gd ps qs
  |_=>false
 |p,q=>iX q&&Bm (qn p) (qn q)
noncomputable def gd:List PV->List PV->Bool
 |[],qs=>match qs with
  |[]=>true
  |_::_=>false
 |p::ps,qs=>match qs with
  |[]=>false
  |q::qs=>iy p q&&gd ps qs
end
theorem iD:∀(ps qs:List PV),((List.range (min ps.length qs.length)).all (fun j=>iy (ps.getD j .non) (qs.getD j .non))&&ps.length==qs.length)=gd ps qs
 |[],[]=>by simp[gd]
 |[],_::_=>by simp[gd]
 |_::_,[]=>by simp[gd]
 |p::ps,q::qs=>by
  have ih:=iD ps qs
  rw[gd,←ih,show min (p::ps).length (q::qs).length=min ps.length qs.length+1 by simp only[List.length_cons];omega,List.range_succ_eq_map,List.all_cons,List.all_map]
  simp[Bool.and_assoc,Function.comp_def]
theorem p5 {ps qs:List PV}(h:ps.length=qs.length):(List.range ps.length).all (fun j=>iy (ps.getD j .non) (qs.getD j .non))=gd ps qs:=by
 rw[←iD,←h,Nat.min_self];simp
theorem qg {ps qs:List PV}(h:ps.length≠qs.length):gd ps qs=false:=by
 rw[←iD,(show (ps.length==qs.length)=false by simpa using h),Bool.and_false]
mutual
theorem p6:∀{p:PV},bL p=true->iy p p=true
 |.non,_=>rfl
 |.bl b,_=>by simp[iy,iX,qn,Bm]
 |.int b,_=>by simp[iy,iX,qn,Bm]
 |.str b,_=>by simp[iy,iX,qn,Bm]
 |.tup ps,h=>ji (ps:=ps) h
 |.lst ps,h=>ji (ps:=ps) h
 |.ty _,h|.fn _,h|.dct _ _,h|.src _,h|.ktu _,h|.rng _ _,h|.exn _,h|.set _,h=>absurd h Bool.false_ne_true
theorem ji:∀{ps:List PV},aW ps=true->gd ps ps=true
 |[],_=>rfl
 |p::ps,h=>by
  rw[aW,Bool.and_eq_true] at h
  rw[gd,p6 h.1,ji h.2];rfl
end
inductive Vw (c:Cn) (h:Heap):PV->Value->Prop where
 |non:Vw c h .non .none
 |bl {b:Bool}:Vw c h (.bl b) (.bool b)
 |int {i:Int} {t:Tok}:Vw c h (.int i) (.int i t)
 |str {i:Str} {t:Tok}:Vw c h (.str i) (.str i t)
 |tup {ps:List PV} {a:Addr} {its:List Value}:aW ps=true->h.IsTuple a its.toArray->Ds c h ps its->Vw c h (.tup ps) (.ref a)
 |lst {ps:List PV} {a:Addr} {its:List Value}:aW ps=true->h.IsList a its.toArray->Ds c h ps its->Vw c h (.lst ps) (.ref a)
theorem D1.vw {top:Addr->Prop}{c:Cn}{h:Heap}{p:PV}{u:Value}(hp:bL p=true)(d:D1 top c h p u):Vw c h p u:=by
 cases p with
 |non=>cases (show u=_ from d);exact .non
 |bl b=>cases (show u=_ from d);exact .bl
 |int b=>obtain⟨t,rfl⟩:=d;exact .int
 |str b=>obtain⟨t,rfl⟩:=d;exact .str
 |tup ps=>obtain⟨a,its,rfl,_,q,_,t⟩:=d;exact .tup hp q t
 |lst ps=>obtain⟨a,its,n,rfl,_,q,_,t⟩:=d;exact .lst hp ⟨_,q,rfl,n,rfl⟩ t
 |_=>exact absurd hp Bool.false_ne_true
theorem Av {h:Heap}{a:Addr}{x y:List Value}(h1:h.IsTuple a x.toArray)(h2:h.IsTuple a y.toArray):x=y:=by
 obtain⟨o,e,_,n,d⟩:=h1
 obtain⟨o',e',_,n',d'⟩:=h2
 rw[e] at e';cases e'
 rw[d] at d'
 injection d' with d1 _
 simpa using congrArg Array.toList d1
theorem Ak {h:Heap}{a:Addr}{x y:List Value}(h1:h.IsList a x.toArray)(h2:h.IsList a y.toArray):x=y:=by
 obtain⟨o,e,_,n,d⟩:=h1
 obtain⟨o',e',_,n',d'⟩:=h2
 rw[e] at e';cases e'
 rw[d] at d'
 injection d' with d1 _
 simpa using congrArg Array.toList d1
theorem A7 {h:Heap}{a:Addr}{x y:Array Value}(h1:h.IsList a x)(h2:h.IsTuple a y):False:=by
 obtain⟨o,e,c,_⟩:=h1
 obtain⟨o',e',c',_⟩:=h2
 rw[e] at e';cases e';rw[c] at c';exact absurd (Value.type.inj c') (by decide)
mutual
theorem D1.inj {c c':Cn}{h:Heap}{t t':Addr->Prop}:∀{p q:PV} {u:Value},bL p=true->bL q=true->D1 t c h p u->D1 t' c' h q u->p=q:=fun {p q u} hp hq d d'=>by
 cases p with
 |tup ps=>
  obtain⟨a,its,rfl,_,h1,_,h2⟩:=d
  cases d'.vw hq with
  |tup _ h1' h2'=>cases Av h1 h1';rw[Ds.inj hp hq h2 h2']
  |lst _ h1' _=>exact (A7 h1' h1).elim
 |lst ps=>
  obtain⟨a,its,n,rfl,_,h1,_,h2⟩:=d
  have h1:h.IsList a its.toArray:=⟨_,h1,rfl,n,rfl⟩
  cases d'.vw hq with
  |lst _ h1' h2'=>cases Ak h1 h1';rw[Ds.inj hp hq h2 h2']
  |tup _ h1' _=>exact (A7 h1 h1').elim
 |non=>cases (show u=_ from d);cases d'.vw hq;rfl
 |bl b=>cases (show u=_ from d);cases d'.vw hq;rfl
 |int b=>obtain⟨t,rfl⟩:=d;cases d'.vw hq;rfl
 |str b=>obtain⟨t,rfl⟩:=d;cases d'.vw hq;rfl
 |_=>exact absurd hp Bool.false_ne_true
theorem Ds.inj {c c':Cn}{h:Heap}:∀{ps qs:List PV} {us:List Value},aW ps=true->aW qs=true->Ds c h ps us->Ds c' h qs us->ps=qs
 |[],qs,_,_,_,e,h'=>by
  cases (show _=[] from e)
  cases qs with
  |nil=>rfl
  |cons q qs=>obtain⟨u,r,e,_⟩:=h';cases e
 |p::ps,qs,_,hp,hq,⟨u,r,e,d1,d2⟩,h'=>by
  subst e
  cases qs with
  |nil=>cases (show _=[] from h')
  |cons q qs=>
   obtain⟨u',r',e',d1',d2'⟩:=h'
   cases e'
   rw[aW,Bool.and_eq_true] at hp hq
   rw[D1.inj hp.1 hq.1 d1 d1',Ds.inj hp.2 hq.2 d2 d2']
end
variable {c c':Cn}{s:Shared}
theorem qj {t t':Addr->Prop}{p q:PV}{A:Around}{u v:Value}(hp:bL p=true)(hq:bL q=true)(d:D1 t c s.heap p u)(d':D1 t' c' s.heap q v)(rc:RcAt A s u v (iy p q)):EqAt A s u v (iy p q):=by
 by_cases h:u=v
 ·subst h
  obtain rfl:=D1.inj hp hq d d'
  rw[p6 hp]
  exact EqAt.same _
 ·intro prog w E Q hQ
  unfold eqBool
  refine wpAny_holding ?_
  refine wpAny_ite_split (fun hab=>absurd (eq_of_beq hab) h) (fun _=>?_)
  cases d.vw hp<;>exact wpAny_bind (rc prog w E _ (wpAny_truthy_bool hQ))
theorem vJ {p q:PV}{A:Around}{u v:Value}(hd:A.units<cLine)(d:Vw c s.heap p u)(d':Vw c' s.heap q v)(nt:∀ps qs,p=.tup ps->q≠.tup qs)(nl:∀ps qs,p=.lst ps->q≠.lst qs):RcAt A s u v (iy p q)/\RcNeAt A s u v (!iy p q):=by
 cases d with
 |non=>cases d' with
  |non=>exact⟨RcAt.none_none,RcNeAt.none_none⟩
  |bl=>exact⟨RcAt.none_bool _,RcNeAt.none_bool _⟩
  |int=>exact⟨RcAt.none_int _ _,RcNeAt.none_int _ _⟩
  |str=>exact⟨RcAt.none_str _ _,RcNeAt.none_str _ _⟩
  |tup _ h _=>exact⟨RcAt.none_tuple h hd,RcNeAt.none_tuple h hd⟩
  |lst _ h _=>exact⟨RcAt.none_list h hd,RcNeAt.none_list h hd⟩
 |bl=>cases d' with
  |non=>exact⟨RcAt.bool_none _,RcNeAt.bool_none _⟩
  |bl=>exact⟨RcAt.bool_bool _ _,RcNeAt.bool_bool _ _⟩
  |int=>exact⟨RcAt.bool_int _ _ _,RcNeAt.bool_int _ _ _⟩
  |str=>exact⟨RcAt.bool_str _ _ _,RcNeAt.bool_str _ _ _⟩
  |tup _ h _=>exact⟨RcAt.bool_tuple _ h hd,RcNeAt.bool_tuple _ h hd⟩
  |lst _ h _=>exact⟨RcAt.bool_list _ h hd,RcNeAt.bool_list _ h hd⟩
 |int=>cases d' with
  |non=>exact⟨RcAt.int_none _ _,RcNeAt.int_none _ _⟩
  |bl=>exact⟨RcAt.int_bool _ _ _,RcNeAt.int_bool _ _ _⟩
  |int=>exact⟨RcAt.int_int _ _ _ _,RcNeAt.int_int _ _ _ _⟩
  |str=>exact⟨RcAt.int_str _ _ _ _,RcNeAt.int_str _ _ _ _⟩
  |tup _ h _=>exact⟨RcAt.int_tuple _ _ h hd,RcNeAt.int_tuple _ _ h hd⟩
  |lst _ h _=>exact⟨RcAt.int_list _ _ h hd,RcNeAt.int_list _ _ h hd⟩
 |str=>cases d' with
  |non=>exact⟨RcAt.str_none _ _,RcNeAt.str_none _ _⟩
  |bl=>exact⟨RcAt.str_bool _ _ _,RcNeAt.str_bool _ _ _⟩
  |int=>exact⟨RcAt.str_int _ _ _ _,RcNeAt.str_int _ _ _ _⟩
  |str=>exact⟨RcAt.str_str _ _ _ _,RcNeAt.str_str _ _ _ _⟩
  |tup _ h _=>exact⟨RcAt.str_tuple _ _ h hd,RcNeAt.str_tuple _ _ h hd⟩
  |lst _ h _=>exact⟨RcAt.str_list _ _ h hd,RcNeAt.str_list _ _ h hd⟩
 |tup _ h _=>cases d' with
  |non=>exact⟨RcAt.tuple_none h hd,RcNeAt.tuple_none h hd⟩
  |bl=>exact⟨RcAt.tuple_bool _ h hd,RcNeAt.tuple_bool _ h hd⟩
  |int=>exact⟨RcAt.tuple_int _ _ h hd,RcNeAt.tuple_int _ _ h hd⟩
  |str=>exact⟨RcAt.tuple_str _ _ h hd,RcNeAt.tuple_str _ _ h hd⟩
  |tup=>exact absurd rfl (nt _ _ rfl)
  |lst _ h' _=>exact⟨RcAt.tuple_list h h' hd,RcNeAt.tuple_list h h' hd⟩
 |lst _ h _=>cases d' with
  |non=>exact⟨RcAt.list_none h hd,RcNeAt.list_none h hd⟩
  |bl=>exact⟨RcAt.list_bool _ h hd,RcNeAt.list_bool _ h hd⟩
  |int=>exact⟨RcAt.list_int _ _ h hd,RcNeAt.list_int _ _ h hd⟩
  |str=>exact⟨RcAt.list_str _ _ h hd,RcNeAt.list_str _ _ h hd⟩
  |tup _ h' _=>exact⟨RcAt.list_tuple h h' hd,RcNeAt.list_tuple h h' hd⟩
  |lst=>exact absurd rfl (nl _ _ rfl)
theorem t9 {ps qs:List PV}{A:Around}{a b:Addr}{its its2:List Value}(hu:A.units<cLine)(l1:its.length=ps.length)(l2:its2.length=qs.length)(es:∀j (h1:j<its.toArray.size) (h2:j<its2.toArray.size),EqAt A.in1 s its.toArray[j] its2.toArray[j] (iy (ps.getD j .non) (qs.getD j .non))) :
  (s.heap.IsTuple a its.toArray->s.heap.IsTuple b its2.toArray->RcAt A s (.ref a) (.ref b) (gd ps qs)/\RcNeAt A s (.ref a) (.ref b) (!gd ps qs))/\(s.heap.IsList a its.toArray->s.heap.IsList b its2.toArray->RcAt A s (.ref a) (.ref b) (gd ps qs)/\RcNeAt A s (.ref a) (.ref b) (!gd ps qs)):=by
 refine⟨fun h1 h2=>?_,fun h1 h2=>?_⟩
 ·have x:=RcAt.tuples (A:=A) (s:=s) (e:=fun j=>iy (ps.getD j .non) (qs.getD j .non)) h1 h2 hu es
  have y:=RcNeAt.tuples (A:=A) (s:=s) (e:=fun j=>iy (ps.getD j .non) (qs.getD j .non)) h1 h2 hu es
  rw[List.size_toArray,List.size_toArray,l1,l2,iD] at x y
  exact⟨x,y⟩
 ·by_cases hl:ps.length=qs.length
  ·have x:=RcAt.lists (A:=A) (s:=s) (e:=fun j=>iy (ps.getD j .non) (qs.getD j .non)) h1 h2 (by simp;omega) hu es
   have y:=RcNeAt.lists (A:=A) (s:=s) (e:=fun j=>iy (ps.getD j .non) (qs.getD j .non)) h1 h2 (by simp;omega) hu es
   rw[List.size_toArray,l1,p5 hl] at x y
   exact⟨x,y⟩
  ·have x:=RcAt.lists_lengths (A:=A) (s:=s) h1 h2 (by simp;omega) hu
   have y:=RcNeAt.lists_lengths (A:=A) (s:=s) h1 h2 (by simp;omega) hu
   rw[qg hl]
   exact⟨x,y⟩
mutual
theorem AJ:∀{p q:PV} {A:Around} {u v:Value} {t t':Addr->Prop},bL p=true->bL q=true->A.units+lr p+1<cLine->D1 t c s.heap p u->D1 t' c' s.heap q v->RcAt A s u v (iy p q)/\RcNeAt A s u v (!iy p q)
 |.tup ps,q,A,_,v,t,t',hp,hq,hd,⟨a,its,e,o,h1,z,h2⟩,d=>by
  subst e
  cases d.vw hq with
  |tup _ h1' h2'=>exact (t9 (by omega) h2.length h2'.length fun j k1 k2=>yV (ps:=ps) hp hq (by rw[lr] at hd;show A.units+1+cJ ps+1<cLine;omega) h2 h2' j (by simpa using k1) (by simpa using k2) k1 k2).1 h1 h1'
  |_=>exact vJ (by omega) (D1.vw (p:=.tup ps) hp ⟨a,its,rfl,o,h1,z,h2⟩) (d.vw hq) (fun _ _ _ e=>(by cases e)) fun _ _ e=>(by cases e)
 |.lst ps,q,A,_,v,t,t',hp,hq,hd,⟨a,its,n,e,o,h1,z,h2⟩,d=>by
  subst e
  cases d.vw hq with
  |lst _ h1' h2'=>exact (t9 (by omega) h2.length h2'.length fun j k1 k2=>yV (ps:=ps) hp hq (by rw[lr] at hd;show A.units+1+cJ ps+1<cLine;omega) h2 h2' j (by simpa using k1) (by simpa using k2) k1 k2).2 ⟨_,h1,rfl,n,rfl⟩ h1'
  |_=>exact vJ (by omega) (D1.vw (p:=.lst ps) hp ⟨a,its,n,rfl,o,h1,z,h2⟩) (d.vw hq) (fun _ _ e=>(by cases e)) fun _ _ _ e=>(by cases e)
 |.non,q,A,u,v,_,_,hp,hq,hd,d,d'=>vJ (by omega) (d.vw hp) (d'.vw hq) (fun _ _ e=>by cases e) fun _ _ e=>by cases e
 |.bl _,q,A,u,v,_,_,hp,hq,hd,d,d'=>vJ (by omega) (d.vw hp) (d'.vw hq) (fun _ _ e=>by cases e) fun _ _ e=>by cases e
 |.int _,q,A,u,v,_,_,hp,hq,hd,d,d'=>vJ (by omega) (d.vw hp) (d'.vw hq) (fun _ _ e=>by cases e) fun _ _ e=>by cases e
 |.str _,q,A,u,v,_,_,hp,hq,hd,d,d'=>vJ (by omega) (d.vw hp) (d'.vw hq) (fun _ _ e=>by cases e) fun _ _ e=>by cases e
 |.ty _,_,_,_,_,_,_,h,_,_,_,_|.fn _,_,_,_,_,_,_,h,_,_,_,_|.dct _ _,_,_,_,_,_,_,h,_,_,_,_|.src _,_,_,_,_,_,_,h,_,_,_,_|.ktu _,_,_,_,_,_,_,h,_,_,_,_|.rng _ _,_,_,_,_,_,_,h,_,_,_,_|.exn _,_,_,_,_,_,_,h,_,_,_,_|.set _,_,_,_,_,_,_,h,_,_,_,_=>absurd h Bool.false_ne_true
theorem yV:∀{ps qs:List PV} {A:Around} {us vs:List Value},aW ps=true->aW qs=true->A.units+cJ ps+1<cLine->Ds c s.heap ps us->Ds c' s.heap qs vs->∀j (_:j<us.length) (_:j<vs.length) (h1:j<us.toArray.size) (h2:j<vs.toArray.size),EqAt A s us.toArray[j] vs.toArray[j] (iy (ps.getD j .non) (qs.getD j .non))
 |[],qs,A,us,vs,_,_,_,e,_=>fun j h1 _ _ _=>absurd h1 (by rw[show us=[] from e];exact Nat.not_lt_zero _)
 |p::ps,qs,A,us,vs,hp,hq,hd,⟨u,r,e,d1,d2⟩,d'=>fun j h1 h2 k1 k2=>by
  cases qs with
  |nil=>exact absurd h2 (by rw[show vs=[] from d'];exact Nat.not_lt_zero _)
  |cons q qs=>
   obtain⟨v,r',e',d1',d2'⟩:=d'
   subst e e'
   rw[aW,Bool.and_eq_true] at hp hq
   rw[cJ] at hd
   cases j with
   |zero=>
    have:=qj hp.1 hq.1 d1 d1' (AJ (A:=A) hp.1 hq.1 (by omega) d1 d1').1
    simpa using this
   |succ j=>
    have:=yV (A:=A) hp.2 hq.2 (by omega) d2 d2' j (by simpa using h1) (by simpa using h2) (by simpa using h1) (by simpa using h2)
    simpa using this
end
open Classical in
noncomputable def zg (c:Cn)(h:Heap)(q:PV)(u:Value):Bool:=if h:∃p,bL p=true/\D c h p u then iy h.choose q else false
theorem yG {q p:PV}{u:Value}(hp:bL p=true)(d:D c s.heap p u):zg c s.heap q u=iy p q:=by
 have h:∃p,bL p=true/\D c s.heap p u:=⟨p,hp,d⟩
 unfold zg
 rw[dif_pos h,D1.inj h.choose_spec.1 hp h.choose_spec.2 d]
theorem tX {q:PV}:∀{ps:List PV} {us:List Value},aW ps=true->Ds c s.heap ps us->us.any (zg c s.heap q)=ps.any fun p=>iy p q
 |[],_,_,h=>by rw[show _=[] from h];rfl
 |p::ps,_,hp,⟨u,r,e,d1,d2⟩=>by
  subst e
  rw[aW,Bool.and_eq_true] at hp
  rw[List.any_cons,List.any_cons,yG hp.1 d1,tX hp.2 d2]
theorem tK {A:Around}{q:PV}{v:Value}{t:Addr->Prop}(hq:bL q=true)(dq:D1 t c' s.heap q v):∀{ps:List PV} {us:List Value},aW ps=true->A.units+cJ ps+1<cLine->Ds c s.heap ps us->∀u∈us,EqAt A s u v (zg c s.heap q u)
 |[],_,_,_,h,u,hu=>by rw[show _=[] from h] at hu;cases hu
 |p::ps,_,hp,hd,⟨u',r,e,d1,d2⟩,u,hu=>by
  subst e
  rw[aW,Bool.and_eq_true] at hp
  rw[cJ] at hd
  rcases List.mem_cons.mp hu with rfl|hu
  ·rw[yG hp.1 d1]
   exact qj hp.1 hq d1 dq (AJ hp.1 hq (by omega) d1 dq).1
  ·exact tK hq dq hp.2 (by omega) d2 u hu
noncomputable def pin (x:PV)(ps:List PV):Bool:=ps.any fun p=>iy p x
noncomputable def items:PV->Option (List PV)
 |.tup ps=>some ps
 |.lst ps=>some ps
 |.src ps=>some ps
 |.ktu ps=>some ps
 |_=>none
theorem D1.items {t:Addr->Prop}{h:Heap}{p:PV}{u:Value}{ps:List PV}(d:D1 t c h p u)(e:items p=some ps):∃a its,u=.ref a/\t a/\its.length≤sizeLine/\Ds c h ps its/\(PyProof.Rows.IsTup h a its.toArray\/∃n,h.get? a=some (eS its n)):=by
 cases p with
 |tup qs=>cases e;obtain⟨a,its,e,o,q,z,t⟩:=d;exact⟨a,its,e,o,z,t,.inl q⟩
 |ktu qs=>cases e;obtain⟨a,its,e,o,q,z,t⟩:=d;exact⟨a,its,e,o,z,t,.inl q⟩
 |lst qs=>cases e;obtain⟨a,its,n,e,o,q,z,t⟩:=d;exact⟨a,its,e,o,z,t,.inr ⟨n,q⟩⟩
 |src qs=>cases e;obtain⟨a,its,n,e,o,q,z,t⟩:=d;exact⟨a,its,e,o,z,t,.inr ⟨n,q⟩⟩
 |_=>cases e
theorem bJ {h:Heap}{a:Addr}{its:List Value}{n:Nat}(e:h.get? a=some (eS its n)):h.IsList a its.toArray:=⟨_,e,rfl,n,rfl⟩
section
variable {prog:Program}{w:World}{A:Around}{E:Value->Shared->Prop}{Q:Value->Shared->Prop}
theorem Bg {x y:PV}{u v:Value}{ps:List PV}{t t':Addr->Prop}(ng:Bool)(hu:A.units+64<cLine)(hx:bL x=true)(dx:D1 t c' s.heap x u)(dy:D1 t' c s.heap y v)(e:items y=some ps)(hp:aW ps=true)(hd:cJ ps≤50)(q:Q (.bool (if ng=true then !pin x ps else pin x ps)) s) :
  wpAny (model prog w) A (compareOp (if ng=true then .NotIn else .In) u v) Q E s:=by
 obtain⟨a,its,rfl,_,_,ds,h⟩:=dy.items e
 have m:∀y∈its.toArray,EqAt A.in1 s y u (zg c s.heap x y):=fun y hy=>tK hx dx hp (by show A.units+1+cJ ps+1<cLine;omega) ds y (by simpa using hy)
 have e2:its.toArray.any (zg c s.heap x)=pin x ps:=by rw[List.any_toArray,tX hp ds];rfl
 cases ng<;>rcases h with h|⟨n,h⟩
 ·exact in_tupleAt (zg c s.heap x) h m (by rw[e2];exact q)
 ·exact in_listAt (zg c s.heap x) (bJ h) m (by rw[e2];exact q)
 ·exact notIn_tupleAt (zg c s.heap x) h m (by rw[e2];exact q)
 ·exact notIn_listAt (zg c s.heap x) (bJ h) m (by rw[e2];exact q)
end
noncomputable def ia:PV->Option e9
 |.int i=>some (.inl i)
 |.str x=>some (.inr x)
 |_=>none
theorem fG {t:Addr->Prop}{c:Cn}{h:Heap}{p:PV}{u:Value}{k:e9}(e:ia p=some k)(d:D1 t c h p u):hK (kV k) u:=by
 cases p with
 |int i=>cases e;exact d
 |str x=>cases e;exact d
 |_=>cases e
noncomputable def nF:List e9->List PV->e9->Option PV
 |k::ks,p::ps,y=>if k=y then some p else nF ks ps y
 |_,_,_=>none
theorem jV {c:Cn}{h:Heap}{y:e9}:∀{kus:List (e9×Value)} {ks:List e9} {ps:List PV},kus.map (·.1)=ks->Ds c h ps (kus.map (·.2))->(∀p,nF ks ps y=some p->∃u,valueAt kus y=some u/\D c h p u)/\(nF ks ps y=none->valueAt kus y=none)
 |[],ks,ps,e,d=>by
  subst e
  cases ps with
  |nil=>exact⟨fun p e=>(by cases e),fun _=>rfl⟩
  |cons p ps=>obtain⟨u,r,e,_⟩:=d;cases e
 |(k,v)::kus,ks,ps,e,d=>by
  subst e
  cases ps with
  |nil=>cases (show v::kus.map (·.2)=[] from d)
  |cons p ps=>
   obtain⟨u,r,e,d1,d2⟩:=d
   cases e
   obtain⟨h1,h2⟩:=jV (y:=y) rfl d2
   show (∀q,(if k=y then some p else nF (kus.map (·.1)) ps y)=some q->_)/\((if k=y then some p else nF (kus.map (·.1)) ps y)=none->_)
   by_cases hk:k=y
   ·rw[if_pos hk]
    exact⟨fun q e=>(by cases e;exact⟨v,by simp[valueAt,hk],d1⟩),fun e=>by cases e⟩
   ·rw[if_neg hk]
    have ev:valueAt ((k,v)::kus) y=valueAt kus y:=by simp[valueAt,hk]
    rw[ev]
    exact⟨h1,h2⟩
noncomputable def FN (x y:PV):Option Bool:=match y with
 |.dct ks ps=>(ia x).map fun k=>(nF ks ps k).isSome
 |_=>none
theorem yn {P:Program}{w:World}{mg:Str->Option Value}{A:Around}{s:Shared}{ok ok':Addr->Prop}{t t':Addr->Prop}{x y:PV}{u v:Value}{b ng:Bool}{Q:Value->Shared->Prop}{E:Value->Shared->Prop}(dx:D1 t ⟨ok',P,w,mg⟩ s.heap x u)(dy:D1 t' ⟨ok,P,w,mg⟩ s.heap y v)(e:FN x y=some b)(q:∀tk,Q (.bool (if ng then !b else b)) { s with toks:=tk }) :
  wpAny (model P w) A (compareOp (if ng then .NotIn else .In) u v) Q E s:=by
 unfold FN at e
 split at e
 ·next ks ps=>
  obtain⟨k,ek,rfl⟩:=Option.map_eq_some_iff.mp e
  obtain⟨a,kus,rfl,_,y,dd,zl,hk,ds⟩:=dy
  obtain⟨h1,h2⟩:=jV (y:=k) hk ds
  have ev:(valueAt kus k).isSome=(nF ks ps k).isSome:=by
   cases hd:nF ks ps k with
   |none=>rw[h2 hd];rfl
   |some p=>obtain⟨w',e1,_⟩:=h1 p hd;rw[e1];rfl
  cases ng with
  |false=>exact wpAny_in_of (lD (fG ek dx)) y dd.mapOf (by rw[ev];exact q _)
  |true=>exact wpAny_notIn_of (lD (fG ek dx)) y dd.mapOf (by rw[ev];exact q _)
 ·cases e
end Dp
end
section
namespace Dp
open PySem PySem.Spec L2 PyProof.Rows
theorem big {n:Nat}(h:n≤100000):n≤sizeLine:=Nat.le_trans h (by decide)
theorem DW {n:Nat}(h:n≤100000):n<sizeLine:=Nat.lt_of_le_of_lt h (by decide)
section
variable {X:Cx}{e a b c:Expr}{es fx:List Expr}{pos:Pos}{f fa fb fc:FE}{fs:FA}{i:Nat}{ba bb:FB}
noncomputable def sl (ρ:aK)(i:Nat):Option Sl:=(ρ[i]?).join
noncomputable def oY:Sl->RV
 |.val p=>.fz p
 |.own ps=>.ln (.lst ps)
 |.dic ks ps=>.ln (.dct ks ps)
noncomputable def fV (i:Nat):FE:=fun ρ=>(sl ρ i).map oY
theorem fS {ρ:aK}{s:Sl}(h:sl ρ i=some s):ρ[i]?=some (some s):=by
 unfold sl at h
 cases q:ρ[i]? with
 |none=>rw[q] at h;cases h
 |some o=>rw[q] at h;rw[show o=some s from h]
theorem ListAt.rd {c:Cn}{h:Heap}{a:Addr}{ps:List PV}:ListAt c h a ps->Rd c h (.lst ps) (.ref a)
 |⟨its,n,e,z,t⟩=>⟨a,its,n,rfl,trivial,e,z,t⟩
theorem DictAt.rd {c:Cn}{h:Heap}{a:Addr}{ks:List e9}{ps:List PV}:DictAt c h a ks ps->Rd c h (.dct ks ps) (.ref a)
 |⟨kus,y,d,z,m,t⟩=>⟨a,kus,rfl,trivial,y,d,z,m,t⟩
theorem Z.ok.get {z:Z X}{s:Shared}(hz:z.ok s){t:Sl}{x:Str}(e:sl z.ρ i=some t)(hN:X.N[i]?=some x)(hv:np X.env.scope x):∃v u m,s.heap.Ns X.env.locals m/\hK v u/\EU X.env s.heap m x u/\z.σ[i]?=some (some v)/\SlOk z.cn z.H s.heap t v/\RvOk z s.heap s.heap (oY t) u:=by
 obtain⟨v,e1,_,d⟩:=hz.slk i t (fS e)
 obtain⟨m,hn,hl⟩:=hz.I.loc
 obtain⟨u,r,l⟩:=hl i x v hN e1 hv
 refine⟨v,u,m,hn,r,l,e1,d,?_⟩
 cases t with
 |val p=>exact d u r
 |own ps=>obtain⟨a,rfl,o,d⟩:=d;rw[show u=.ref a from r];exact⟨ListAt.rd d,rfl,fun b q=>by cases q;exact hz.own_nb (fS e) rfl e1⟩
 |dic ks ps=>obtain⟨a,rfl,o,d⟩:=d;rw[show u=.ref a from r];exact⟨DictAt.rd d,rfl,fun b q=>by cases q;exact hz.own_nb (fS e) rfl e1⟩
theorem EJ {x:Str}(hN:X.N[i]?=some x)(hv:np X.env.scope x)(hd:(x==("__debug__" : Str))=false)(hcd:(x==("__classdict__" : Str))=false):NE X (.Name x pos) (fV i):=by
 intro z s r E hz h
 obtain⟨t,et,rfl⟩:=Option.map_eq_some_iff.mp h
 obtain⟨v,u,m,hn,rr,l,e1,d,q⟩:=Z.ok.get hz et hN hv
 have fin:Z.post z s (oY t) u s:=⟨hz.refl,q⟩
 rcases l with ⟨hk,hm⟩|⟨hk,c,hc,hcell⟩
 ·exact wpAny_Name (wpAny_loadName_local hz.I.ok.kind hk hn hm fin) hd
 ·rcases hk with hk|hk
  ·exact wpAny_Name (wpAny_loadName_cell hz.I.ok.kind hk hc hcell fin) hd
  ·exact wpAny_Name (wpAny_loadName_free hz.I.ok.kind hk hc hcell fin hcd) hd
noncomputable def fC (p:PV):FE:=fun _=>some (.fz p)
theorem n_int {i:Int}{j}:NE X (.Constant (.int i) j pos) (fC (.int i)):=fun z s r E hz h=>by cases h;exact wpAny_Constant_int ⟨hz.tok _,_,rfl⟩
theorem F8 {i:Bool}{j}:NE X (.Constant (.bool i) j pos) (fC (.bl i)):=fun z s r E hz h=>by cases h;exact Constant_bool ⟨hz.refl,rfl⟩
theorem Fg {j}:NE X (.Constant .none j pos) (fC .non):=fun z s r E hz h=>by cases h;exact Constant_none ⟨hz.refl,rfl⟩
theorem Fy {x:Str}{j}:NE X (.Constant (.str x) j pos) (fC (.str x)):=fun z s r E hz h=>by cases h;exact Calls.Constant_str ⟨hz.tok _,_,rfl⟩
noncomputable def HH (X:Cx)(x:Str)(p:PV):Prop:=∃u,X.mg x=some u/\∀(h:Heap) (bad:Addr->Prop) (H:Hp),(∀b o,X.base.get? b=some o->h.get? b=some o/\H b=none/\¬bad b)->D (bV X bad H) h p u
theorem pI {x:Str}{p:PV}(hg:Gl X x)(hp:HH X x p)(hd:(x==("__debug__" : Str))=false):NE X (.Name x pos) (fC p):=fun z s r E hz h=>by
 cases h
 obtain⟨u,m,d⟩:=hp
 exact lu hz.I hg m ⟨hz.refl,d _ _ _ fun b o q=>⟨hz.I.bk b o q,(hz.I.bs b o q).2,hz.bs b o q⟩⟩ hd
theorem EH {x:Str}{n:String}(hg:Gl X x)(hm:X.mg x=none)(hv:bootBuiltins x=some (.type n))(hn:x ≠ "__name__")(hd:(x==("__debug__" : Str))=false):NE X (.Name x pos) (fC (.ty n)):=fun z s r E hz h=>by
 cases h;exact jM hz.I hg hm hv ⟨hz.refl,rfl⟩ hn hd
noncomputable def ax (g:PV->PV->Option RV)(a b:FE):FE:=fun ρ=>(a ρ).bind fun x=>(b ρ).bind fun y=>g x.pv y.pv
theorem ua {α β γ:Type}{a:Option α}{b:Option β}{g:α->β->Option γ}{r:γ}(h:(a.bind fun x=>b.bind fun y=>g x y)=some r):∃x y,a=some x/\b=some y/\g x y=some r:=by
 obtain⟨x,e1,h⟩:=Option.bind_eq_some_iff.mp h
 obtain⟨y,e2,h⟩:=Option.bind_eq_some_iff.mp h
 exact⟨x,y,e1,e2,h⟩
noncomputable def uR (X:Cx)(F:Value->Value->Sem Value)(g:PV->PV->Option RV):Prop:=∀(z:Z X) s p q u v r E,z.ok s->Rv z s.heap p u->Rv z s.heap q v->g p q=some r->W X (F u v) (Z.post z s r) E s
theorem two (ha:NE X a fa)(hb:NE X b fb){z:Z X}{s:Shared}(hz:z.ok s){x y:RV}(ex:fa z.ρ=some x)(ey:fb z.ρ=some y){α:Type}{Q:α->Shared->Prop}{E:Value->Shared->Prop}{F:Value->Value->Sem α}
  (k:∀u v s2,z.go s s2->RvOk z s.heap s2.heap x u->RvOk z s.heap s2.heap y v->W X (F u v) Q E s2):W X (eval a X.env) (fun u s1=>W X (eval b X.env) (fun v s2=>W X (F u v) Q E s2) E s1) E s:=
 bE (ha z s x E hz ex) fun u s1 ⟨g1,d1⟩=>bE (hb z s1 y E g1.1 ey) fun v s2 ⟨g2,d2⟩=>k u v s2 (g1.trans g2) (d1.ext g2.2) (d2.old fun _=>Ext.back g1.2)
theorem F7 {op:Operator}{g:PV->PV->Option RV}(h:uR X (binaryOp op) g)(ha:NE X a fa)(hb:NE X b fb):NE X (.BinOp a op b pos) (ax g fa fb):=fun z s r E hz q=>by
 obtain⟨x,y,ex,ey,eg⟩:=ua q
 exact wpAny_BinOp (two ha hb hz ex ey fun u v s2 g2 d1 d2=>bE (h z s2 _ _ u v r E g2.1 d1.rv d2.rv eg) fun w s3 q3=>g2.post q3)
noncomputable def rI (f:Int->Int->PV):PV->PV->Option RV
 |.int i,.int j=>some (.fz (f i j))
 |_,_=>none
noncomputable def Dk (C:Int->Int->Prop)[∀i j,Decidable (C i j)](f:Int->Int->PV):PV->PV->Option RV
 |.int i,.int j=>if C i j then some (.fz (f i j)) else none
 |_,_=>none
theorem qe {F:Value->Value->Sem Value}{C:Int->Int->Prop}[∀i j,Decidable (C i j)]{g:Int->Int->Int}
  (rule:∀(i j:Int) (t u:Tok) (s:Shared) (Q:Value->Shared->Prop) (E:Value->Shared->Prop),C i j->Q (.int (g i j) s.toks) { s with toks:=s.toks+1 }->W X (F (.int i t) (.int j u)) Q E s):uR X F (Dk C fun i j=>.int (g i j)):=by
 intro z s p q u v r E hz dp dq e
 unfold Dk at e
 split at e
 ·split at e
  ·next hc=>cases e;obtain⟨⟨t,rfl⟩,_⟩:=dp;obtain⟨⟨t',rfl⟩,_⟩:=dq;exact rule _ _ _ _ _ _ _ hc ⟨hz.tok _,_,rfl⟩
  ·cases e
 ·cases e
theorem yr {F:Value->Value->Sem Value}{g:Int->Int->Int}
  (rule:∀(i j:Int) (t u:Tok) (s:Shared) (Q:Value->Shared->Prop) (E:Value->Shared->Prop),Q (.int (g i j) s.toks) { s with toks:=s.toks+1 }->W X (F (.int i t) (.int j u)) Q E s):uR X F (rI fun i j=>.int (g i j)):=by
 intro z s p q u v r E hz dp dq e
 unfold rI at e
 split at e
 ·cases e;obtain⟨⟨t,rfl⟩,_⟩:=dp;obtain⟨⟨t',rfl⟩,_⟩:=dq;exact rule _ _ _ _ _ _ _ ⟨hz.tok _,_,rfl⟩
 ·cases e
noncomputable def DD (f:Int->Int->Bool):PV->PV->Option RV
 |.int i,.int j=>some (.fz (.bl (f i j)))
 |_,_=>none
theorem zm {F:Value->Value->Sem Value}{g:Int->Int->Bool}
  (rule:∀(i j:Int) (t u:Tok) (s:Shared) (Q:Value->Shared->Prop) (E:Value->Shared->Prop),Q (.bool (g i j)) s->W X (F (.int i t) (.int j u)) Q E s):uR X F (DD g):=by
 intro z s p q u v r E hz dp dq e
 unfold DD at e
 split at e
 ·cases e;obtain⟨⟨t,rfl⟩,_⟩:=dp;obtain⟨⟨t',rfl⟩,_⟩:=dq;exact rule _ _ _ _ _ _ _ ⟨hz.refl,rfl⟩
 ·cases e
theorem Z.ok.newT {z:Z X}{s:Shared}(hz:z.ok s){ps:List PV}{its:List Value}(d:Ds z.cn s.heap ps its)(l:its.length≤sizeLine)(t:Nat):Z.post z s (.fz (.tup ps)) (.ref s.heap.objs.size) { s with heap:=s.heap.push { cls:=.type "tuple",data:=.seq its.toArray },toks:=t }:=
 ⟨hz.push _ t,_,its,rfl,hz.free (Heap.get?_none_of_le (Nat.le_refl _)),⟨_,Heap.get?_push_size _ rfl,rfl,_,rfl⟩,l,d.mono (hz.push _ t).2.kpD⟩
theorem Z.ok.newL {z:Z X}{s:Shared}(hz:z.ok s){ps:List PV}{its:List Value}(d:Ds z.cn s.heap ps its)(l:its.length≤sizeLine){h':Heap}{t n:Nat}(k:∀b u,s.heap.get? b=some u->h'.get? b=some u)(e:h'.get? s.heap.objs.size=some (eS its n)):Z.post z s (.nw ps) (.ref s.heap.objs.size) { s with heap:=h',toks:=t }:=by
 have n:=Heap.get?_none_of_le (h:=s.heap) (Nat.le_refl _)
 refine⟨hz.kept k,_,rfl,n,hz.free n,its,_,e,l,(d.mono (rV n)).mono ⟨rfl,rfl,rfl,fun b o q e=>⟨q,k b o e⟩⟩⟩
theorem Z.ok.newL0 {z:Z X}{s:Shared}(hz:z.ok s){ps:List PV}{its:List Value}(d:Ds z.cn s.heap ps its)(l:its.length≤sizeLine){t n:Nat}:Z.post z s (.nw ps) (.ref s.heap.objs.size) { s with heap:=s.heap.push (eS its n),toks:=t }:=
 Z.ok.newL hz d l (fun _ _ e=>Heap.get?_push_of_some _ e) (Heap.get?_push_size _ rfl)
noncomputable def cc:PV->PV->Option RV
 |.int i,.int j=>some (.fz (.int (i+j)))
 |.lst ps,.lst qs=>if ps.length+qs.length≤100000 then some (.nw (ps++qs)) else none
 |.tup ps,.tup qs=>if ps.length+qs.length≤100000 then some (.fz (.tup (ps++qs))) else none
 |.str x,.str y=>if x.length+y.length≤100000 then some (.fz (.str (x++y))) else none
 |_,_=>none
end
end Dp
end
section
namespace Dp
open PySem PySem.Spec L2 PyProof.Rows
section
variable {X:Cx}{e a b c:Expr}{es fx:List Expr}{pos:Pos}{f fa fb fc:FE}{fs:FA}{i:Nat}{ba bb:FB}
theorem Ed:uR X (binaryOp .Add) cc:=by
 intro z s p q u v r E hz dp dq e
 unfold cc at e
 split at e
 ·cases e;obtain⟨⟨t,rfl⟩,_⟩:=dp;obtain⟨⟨t',rfl⟩,_⟩:=dq;exact add_int ⟨hz.tok _,_,rfl⟩
 ·split at e
  ·next h=>
   cases e
   obtain⟨⟨l,its,n,rfl,_,e1,z1,d1⟩,_⟩:=dp
   obtain⟨⟨l2,its2,n2,rfl,_,e2,z2,d2⟩,_⟩:=dq
   have l1:=d1.length
   have l2:=d2.length
   have hb:=big h
   refine PySem.P.add_list e1 e2 ?_ (by rw[List.size_toArray,List.size_toArray];omega)
   rw[List.append_toArray]
   exact Z.ok.newL0 (n:=0) hz (d1.app d2) (by rw[List.length_append];omega)
  ·cases e
 ·split at e
  ·next h=>
   cases e
   have hb:=big h
   obtain⟨l,its,rfl,o1,e1,z1,d1⟩:=dp.2 rfl
   obtain⟨l2,its2,rfl,o2,e2,z2,d2⟩:=dq.2 rfl
   have l1:=d1.length
   have l2:=d2.length
   by_cases hx:its=[]
   ·subst hx
    rw[List.length_nil] at l1
    cases List.length_eq_zero_iff.mp l1.symm
    obtain⟨⟨cls,dd,data,sl⟩,ho,hc,n,hd⟩:=id e1
    obtain⟨⟨cls2,dd2,data2,sl2⟩,ho2,hc2,n2,hd2⟩:=id e2
    simp only at hc hd hc2 hd2
    subst hc hd hc2 hd2
    exact concat_meets ⟨_,ho,rfl⟩ ⟨_,ho2,rfl⟩ noFill_tuple_add seq_tuple_add PySem.F.slot_tuple_add PySem.F.entry_tuple_add (PySem.F.args_tuple_add_2 _ _) (tuple_addW0 _ _ _ _ n n2 dd dd2 sl sl2 (by rfl)) ⟨ho,ho2,hz.refl,dq.2 rfl⟩
   ·refine HT.cat_tup e1 e2 hx (fun hw=>?_) (fun hw=>?_) (by omega)
    ·subst hw
     rw[List.length_nil] at l2
     cases List.length_eq_zero_iff.mp l2.symm
     rw[List.append_nil]
     exact⟨hz.refl,dp.2 rfl⟩
    ·exact Z.ok.newT hz (d1.app d2) (by rw[List.length_append];omega) s.toks
  ·cases e
 ·split at e
  ·next h=>cases e;obtain⟨⟨t,rfl⟩,_⟩:=dp;obtain⟨⟨t',rfl⟩,_⟩:=dq;exact PyProof.Rows.add_str (fun t tk=>⟨hz.tok _,_,rfl⟩) (big h)
  ·cases e
 ·cases e
noncomputable def iN:PV->PV->Option RV:=rI fun i j=>.int (i - j)
noncomputable def gn:PV->PV->Option RV
 |.int i,.int j=>if (i.natAbs<2 ^ 64)\/(j.natAbs<2 ^ 64) then some (.fz (.int (i * j))) else none
 |.lst ps,.int j=>if j≤1000/\-1000≤j/\ps.length≤100 then some (.nw (List.replicate j.toNat ps).flatten) else none
 |.tup ps,.int j=>if ps.isEmpty=false/\1≤j/\j≤1000/\ps.length≤1000 then some (.fz (.tup (List.replicate j.toNat ps).flatten)) else none
 |_,_=>none
theorem qw:sizeLine ≥ 1000000:=by decide
theorem Ew:uR X (binaryOp .Mult) gn:=by
 intro z s p q u v r E hz dp dq e
 have z1:=qw
 unfold gn at e
 split at e
 ·next i j=>
  split at e
  ·next h=>
   cases e;obtain⟨⟨t,rfl⟩,_⟩:=dp;obtain⟨⟨t',rfl⟩,_⟩:=dq
   refine mul_int ⟨hz.tok _,_,rfl⟩ (CMul.ok ?_)
   rcases h with h|h
   ·exact .inl (by omega)
   ·exact .inr (by omega)
  ·cases e
 ·next ps k=>
  split at e
  ·next h=>
   cases e
   obtain⟨h1,h2,h3⟩:=h
   obtain⟨⟨l,its,n,rfl,_,e,_,d⟩,_⟩:=dp;obtain⟨⟨t,rfl⟩,_⟩:=dq
   have hl:=d.length
   have nB:its.length * k.toNat≤100 * 1000:=Nat.mul_le_mul (by omega) (by omega)
   have hlen:its.toArray.size * k.toNat≤sizeLine:=by rw[List.size_toArray];omega
   have hcap:¬its.toArray.size * k.toNat > (2 ^ 63 - 1) / 8:=by rw[List.size_toArray];omega
   have hfit:¬(!Builtin.List.listFitsIndex k)=true:=by
    rw[fitsIndex_both (by omega) (by omega)]
    exact Bool.false_ne_true
   have hlong:¬Builtin.List.listTooLong (its.toArray.size * k.toNat)=true:=by
    rw[ri hlen]
    exact Bool.false_ne_true
   have hnew:List.foldl (fun x1 x2=>x1++x2) #[] (List.replicate (if its.toArray.isEmpty=true then 0 else k.toNat) its.toArray)=(List.replicate k.toNat its).flatten.toArray:=by
    rw[jJ]
    cases its with
    |nil=>simp
    |cons a r'=>rw[if_neg (by simp)]
   refine wpAny_binaryOp_repeat_ref (T:="list") (U:="int") (by decide) ⟨_,e,rfl⟩ (fun s'=>typeIs_int s' k t) noFill_list_mul PySem.F.fills_int_mul PySem.F.slot_int_rmul repeat_list PySem.F.slot_int_index.lookup
    (call_meets PySem.F.slot_int_rmul (typeIs_int s k t) PySem.F.entry_int_rmul (PySem.F.args_int_rmul_2 _ _) (int___rmul___int_list k t l its.toArray n)
     ⟨e,rfl,⟨_,e,rfl⟩,call_meets PySem.F.slot_list_mul ⟨_,e,rfl⟩ PySem.F.entry_list_mul (PySem.F.args_list_mul_2 _ _) (AutoListH.list___mul___list_int_3 l its.toArray n k t hfit hcap hlong) ⟨e,?_⟩⟩)
   rw[hnew]
   exact Z.ok.newL0 (n:=0) hz (d.rep k.toNat) (by rw[pR,Nat.mul_comm];omega)
  ·cases e
 ·next ps k=>
  split at e
  ·next h=>
   cases e
   obtain⟨h0,h1,h2,h3⟩:=h
   obtain⟨l,its,rfl,o1,p1,_,d⟩:=dp.2 rfl;obtain⟨⟨t,rfl⟩,_⟩:=dq
   obtain⟨⟨cls,dd,data,sl⟩,e,hc,n,hd⟩:=id p1
   simp only at hc hd
   subst hc hd
   have hl:=d.length
   have hne:its≠[]:=fun w=>by subst w;cases List.length_eq_zero_iff.mp hl.symm;cases h0
   have nB:its.length * k.toNat≤1000 * 1000:=Nat.mul_le_mul (by omega) (by omega)
   refine wpAny_binaryOp_repeat_ref (T:="tuple") (U:="int") (by decide) ⟨_,e,rfl⟩ (fun s'=>typeIs_int s' k t) kg PySem.F.fills_int_mul PySem.F.slot_int_rmul oR PySem.F.slot_int_index.lookup
    (call_meets PySem.F.slot_int_rmul (typeIs_int s k t) PySem.F.entry_int_rmul (PySem.F.args_int_rmul_2 _ _) (lM k t l its.toArray n dd sl) ⟨e,rfl,⟨_,e,rfl⟩,?_⟩)
   by_cases hk:k=1
   ·subst hk
    refine call_meets PySem.F.slot_tuple_mul ⟨_,e,rfl⟩ PySem.F.entry_tuple_mul (PySem.F.args_tuple_mul_2 _ _) (lY l its.toArray n dd sl t) ⟨e,hz.refl,?_⟩
    rw[show (List.replicate (1:Int).toNat ps).flatten=ps by simp]
    exact dp.2 rfl
   ·have hsz:((its.toArray.size:Nat):Int) * k=((its.length * k.toNat:Nat):Int):=by
     rw[List.size_toArray,Int.natCast_mul,Int.toNat_of_nonneg (by omega)]
    refine call_meets PySem.F.slot_tuple_mul ⟨_,e,rfl⟩ PySem.F.entry_tuple_mul (PySem.F.args_tuple_mul_2 _ _) (mX l its.toArray n dd sl k t ?a1 ?a2 ?a3 ?a4 ?a5 ?a6) ⟨e,?_⟩
    case a1=>simp;omega
    case a2=>simp[hne];exact hk
    case a3=>simp[hne];omega
    case a4=>rw[hsz];omega
    case a5=>
     rw[hsz]
     intro hh
     have h2:=of_decide_eq_true hh
     omega
    case a6=>
     rw[jJ,List.size_toArray,pR,Nat.mul_comm]
     omega
    rw[jJ]
    exact Z.ok.newT hz (d.rep k.toNat) (by rw[pR,Nat.mul_comm];omega) s.toks
  ·cases e
 ·cases e
noncomputable def iF:PV->PV->Option RV:=Dk (fun _ j=>0<j/\j<1073741824) fun i j=>.int (i / j)
noncomputable def bO:PV->PV->Option RV:=Dk (fun _ j=>0<j) fun i j=>.int (i % j)
noncomputable def Cd:PV->PV->Option RV:=Dk (fun i j=>0≤j/\j≤1000000/\i.natAbs<2 ^ 64) fun i j=>.int (i ^ j.toNat)
noncomputable def GU:PV->PV->Option RV:=Dk (fun _ j=>0≤j) fun i j=>.int (i / 2 ^ j.toNat)
noncomputable def Gs:PV->PV->Option RV:=Dk (fun i j=>0≤j/\j≤1000000/\i.natAbs<2 ^ 64) fun i j=>.int (i * 2 ^ j.toNat)
noncomputable def D7:PV->PV->Option RV:=rI fun i j=>.int (Builtin.bitAnd i j)
noncomputable def Hy:Operator->PV->PV->Option RV
 |.Add=>cc
 |.Sub=>iN
 |.Mult=>gn
 |.FloorDiv=>iF
 |.Mod=>bO
 |.Pow=>Cd
 |.RShift=>GU
 |.LShift=>Gs
 |.BitAnd=>D7
 |_=>fun _ _=>none
theorem G5:∀op,uR X (binaryOp op) (Hy op)
 |.Add=>Ed
 |.Sub=>yr fun _ _ _ _ _ _ _ q=>sub_int q
 |.Mult=>Ew
 |.FloorDiv=>qe fun i j _ _ _ _ _ hc q=>floordiv_int (by omega) (by rw[Int.fdiv_eq_ediv_of_nonneg i (by omega)];exact q) (.inl (PyProof.noPylong_small (by omega)))
 |.Mod=>qe fun i j _ _ _ _ _ hc q=>mod_int' (by omega) (by rw[Int.fmod_eq_emod_of_nonneg i (by omega)];exact q)
 |.Pow=>qe fun _ _ _ _ _ _ _ hc q=>pow_int_small hc.1 hc.2.1 hc.2.2 q
 |.RShift=>qe fun i j _ _ _ _ _ hc q=>rshift_int hc (by rw[Int.fdiv_eq_ediv_of_nonneg i (sF _)];exact q)
 |.LShift=>qe fun _ _ _ _ _ _ _ hc q=>lshift_int_small hc.1 hc.2.1 hc.2.2 q
 |.BitAnd=>yr fun _ _ _ _ _ _ _ q=>and_int q
 |.BitOr|.BitXor|.Div|.MatMult=>fun _ _ _ _ _ _ _ _ _ _ _ e=>by cases e
noncomputable def fY:PV->Bool
 |.non=>true
 |_=>false
noncomputable def DN:PV->PV->Option RV:=DD fun i j=>decide (i<j)
noncomputable def Dv:PV->PV->Option RV:=DD fun i j=>decide (i≤j)
noncomputable def DA:PV->PV->Option RV:=DD fun i j=>decide (j<i)
noncomputable def Gx:PV->PV->Option RV:=DD fun i j=>decide (j≤i)
noncomputable def jR (x y:PV):Option RV:=if bL x&&bL y&&decide (lr x≤50) then some (.fz (.bl (iy x y))) else none
noncomputable def oq (x y:PV):Option RV:=if bL x&&bL y&&decide (lr x≤50) then some (.fz (.bl (!iy x y))) else none
noncomputable def Do (x y:PV):Option RV:=match items y with
 |some ps=>if bL x&&aW ps&&decide (cJ ps≤50) then some (.fz (.bl (pin x ps))) else none
 |none=>(FN x y).map fun b=>.fz (.bl b)
noncomputable def ir (x y:PV):Option RV:=match items y with
 |some ps=>if bL x&&aW ps&&decide (cJ ps≤50) then some (.fz (.bl (!pin x ps))) else none
 |none=>(FN x y).map fun b=>.fz (.bl (!b))
noncomputable def uq (x y:PV):Option RV:=match y with
 |.non=>some (.fz (.bl (fY x)))
 |_=>none
noncomputable def mj (x y:PV):Option RV:=match y with
 |.non=>some (.fz (.bl (!fY x)))
 |_=>none
noncomputable def nA:CmpOp->PV->PV->Option RV
 |.Lt=>DN
 |.LtE=>Dv
 |.Gt=>DA
 |.GtE=>Gx
 |.Eq=>jR
 |.NotEq=>oq
 |.In=>Do
 |.NotIn=>ir
 |.Is=>uq
 |.IsNot=>mj
theorem uG {z:Z X}{h:Heap}{p:PV}{u:Value}(d:Rd z.cn h p u):(u==Value.none)=fY p:=by
 cases p with
 |non=>cases (show u=_ from d);rfl
 |bl=>cases (show u=_ from d);rfl
 |ty=>cases (show u=_ from d);rfl
 |fn=>obtain⟨_,_,rfl⟩:=d;rfl
 |int=>obtain⟨t,rfl⟩:=d;rfl
 |str=>obtain⟨t,rfl⟩:=d;rfl
 |set=>exact (show False from d).elim
 |rng=>obtain⟨_,_,_,_,rfl,_⟩:=d;rfl
 |lst=>obtain⟨_,_,_,rfl,_⟩:=d;rfl
 |src=>obtain⟨_,_,_,rfl,_⟩:=d;rfl
 |_=>obtain⟨_,_,rfl,_⟩:=d;rfl
theorem nY (hu:X.A.units+64<cLine):∀op,uR X (compareOp op) (nA op)
 |.Lt=>zm fun _ _ _ _ _ _ _ h=>lt_int h
 |.LtE=>zm fun _ _ _ _ _ _ _ h=>le_int h
 |.Gt=>zm fun _ _ _ _ _ _ _ h=>gt_int h
 |.GtE=>zm fun _ _ _ _ _ _ _ h=>ge_int h
 |.Eq=>fun z s p q u v r E hz dp dq e=>by
  change jR p q=some r at e
  unfold jR at e
  split at e
  ·next h=>
   cases e
   simp only[Bool.and_eq_true,decide_eq_true_eq] at h
   exact (AJ (A:=X.A) h.1.1 h.1.2 (by omega) dp.1 dq.1).1 _ _ _ _ ⟨hz.refl,rfl⟩
  ·cases e
 |.NotEq=>fun z s p q u v r E hz dp dq e=>by
  change oq p q=some r at e
  unfold oq at e
  split at e
  ·next h=>
   cases e
   simp only[Bool.and_eq_true,decide_eq_true_eq] at h
   exact (AJ (A:=X.A) h.1.1 h.1.2 (by omega) dp.1 dq.1).2 _ _ _ _ ⟨hz.refl,rfl⟩
  ·cases e
 |.In=>fun z s p q u v r E hz dp dq e=>by
  change Do p q=some r at e
  unfold Do at e
  split at e
  ·next ps h1=>
   split at e
   ·next h=>
    cases e
    simp only[Bool.and_eq_true,decide_eq_true_eq] at h
    exact Bg false hu h.1.1 dp.1 dq.1 h1 h.1.2 h.2 ⟨hz.refl,rfl⟩
   ·cases e
  ·obtain⟨b,e1,rfl⟩:=Option.map_eq_some_iff.mp e
   exact yn (A:=X.A) (ng:=false) dp.1 dq.1 e1 fun tk=>⟨hz.tok tk,rfl⟩
 |.NotIn=>fun z s p q u v r E hz dp dq e=>by
  change ir p q=some r at e
  unfold ir at e
  split at e
  ·next ps h1=>
   split at e
   ·next h=>
    cases e
    simp only[Bool.and_eq_true,decide_eq_true_eq] at h
    exact Bg true hu h.1.1 dp.1 dq.1 h1 h.1.2 h.2 ⟨hz.refl,rfl⟩
   ·cases e
  ·obtain⟨b,e1,rfl⟩:=Option.map_eq_some_iff.mp e
   exact yn (A:=X.A) (ng:=true) dp.1 dq.1 e1 fun tk=>⟨hz.tok tk,rfl⟩
 |.Is=>fun z s p q u v r E hz dp dq e=>by
  change uq p q=some r at e
  unfold uq at e
  split at e
  ·cases e
   cases (show v=Value.none from dq.1)
   exact is_none_gen ⟨hz.refl,by rw[uG dp.1];rfl⟩
  ·cases e
 |.IsNot=>fun z s p q u v r E hz dp dq e=>by
  change mj p q=some r at e
  unfold mj at e
  split at e
  ·cases e
   cases (show v=Value.none from dq.1)
   exact isnot_none_gen ⟨hz.refl,by rw[uG dp.1];rfl⟩
  ·cases e
theorem Fx {op:CmpOp}{g:PV->PV->Option RV}(h:uR X (compareOp op) g)(ha:NE X a fa)(hb:NE X b fb)(hm:behindInMarks op b=false):NE X (.Compare a [op] [b] pos) (ax g fa fb):=fun z s r E hz q=>by
 obtain⟨x,y,ex,ey,eg⟩:=ua q
 exact wpAny_Compare1 (two ha hb hz ex ey fun u v s2 g2 d1 d2=>bE (h z s2 _ _ u v r E g2.1 d1.rv d2.rv eg) fun w s3 q3=>g2.post q3) hm
noncomputable def vy:Option RV->Option Bool
 |some (.fz (.bl b))=>some b
 |_=>none
noncomputable def fT (f:FE):FB:=fun ρ=>vy (f ρ)
theorem fX {o:Option RV}{b:Bool}(h:vy o=some b):o=some (.fz (.bl b)):=by
 unfold vy at h
 split at h
 ·cases h;rfl
 ·cases h
theorem ER {op:CmpOp}{g:PV->PV->Option RV}(h:uR X (compareOp op) g)(ha:NE X a fa)(hb:NE X b fb)(hm:behindInMarks op b=false):NB X (.Compare a [op] [b] pos) (fT (ax g fa fb)):=fun z s k E hz q=>by
 obtain⟨x,y,ex,ey,eg⟩:=ua (fX q)
 exact wpAny_isTrue_Compare1 (two ha hb hz ex ey fun u v s2 g2 d1 d2=>bE (h z s2 _ _ u v _ E g2.1 d1.rv d2.rv eg) fun w s3 q3=>by
  cases (show w=Value.bool k from q3.2)
  exact wpAny_truthy_bool ⟨rfl,g2.trans q3.1⟩) hm
theorem D2 (h:NE X e f)(hv:∀whole,isTrue e X.env whole=(do let v ←whole;standAt e.pos;holding [v] (truthy v))):NB X e (fT f):=fun z s k E hz q=>
 isTrue_plain (bE (h z s _ E hz (fX q)) fun v s1 q1=>by
  cases (show v=Value.bool k from q1.2)
  exact wpAny_truthy_bool ⟨rfl,q1.1⟩) (hv _)
noncomputable def gM (g:FB):FB:=fun ρ=>(g ρ).map fun b=>!b
noncomputable def gm (g k:FB):FB:=fun ρ=>(g ρ).bind fun b=>if b=true then k ρ else some false
noncomputable def jS (g k:FB):FB:=fun ρ=>(g ρ).bind fun b=>if b=true then some true else k ρ
theorem Ct (ha:NB X a ba):NW X (.BoolOp .And [a] pos) ba:=fun z wh s k E hz q=>by
 refine isTrue_and (bE (ha z s k E hz q) fun c s1 e=>?_)
 cases c with
 |true=>exact isTrue_and_nil e
 |false=>exact e
theorem ES (ha:NB X a ba):NW X (.BoolOp .Or [a] pos) ba:=fun z wh s k E hz q=>by
 refine isTrue_or (bE (ha z s k E hz q) fun c s1 e=>?_)
 cases c with
 |false=>exact isTrue_or_nil e
 |true=>exact e
theorem Ev (ha:NB X a ba)(hb:NW X (.BoolOp .And (b::fx) pos) bb):NW X (.BoolOp .And (a::b::fx) pos) (gm ba bb):=fun z wh s k E hz q=>by
 obtain⟨c0,e0,q⟩:=Option.bind_eq_some_iff.mp q
 refine isTrue_and (bE (ha z s c0 E hz e0) fun c s1 ⟨e,g1⟩=>?_)
 subst e
 cases c with
 |true=>exact bE (hb z wh s1 k E g1.1 q) fun d s2 ⟨e2,g2⟩=>⟨e2,g1.trans g2⟩
 |false=>cases q;exact⟨rfl,g1⟩
theorem Gp (ha:NB X a ba)(hb:NW X (.BoolOp .Or (b::fx) pos) bb):NW X (.BoolOp .Or (a::b::fx) pos) (jS ba bb):=fun z wh s k E hz q=>by
 obtain⟨c0,e0,q⟩:=Option.bind_eq_some_iff.mp q
 refine isTrue_or (bE (ha z s c0 E hz e0) fun c s1 ⟨e,g1⟩=>?_)
 subst e
 cases c with
 |false=>exact bE (hb z wh s1 k E g1.1 q) fun d s2 ⟨e2,g2⟩=>⟨e2,g1.trans g2⟩
 |true=>cases q;exact⟨rfl,g1⟩
theorem E5 (ha:NB X a ba):NB X (.UnaryOp .Not a pos) (gM ba):=fun z s k E hz q=>by
 obtain⟨c,e,rfl⟩:=Option.map_eq_some_iff.mp q
 exact isTrue_not (bE (ha z s c E hz e) fun d s1 ⟨e1,g1⟩=>⟨by rw[e1],g1⟩)
noncomputable def m7 (f:FE):FE:=fun ρ=>(f ρ).bind fun r=>r.fr.map .fz
theorem yU (h:NE X e f):NE X e (m7 f):=fun z s r E hz q=>by
 obtain⟨x,ex,q⟩:=Option.bind_eq_some_iff.mp q
 obtain⟨p,ep,rfl⟩:=Option.map_eq_some_iff.mp q
 exact bE (h z s x E hz ex) fun u s1 q1=>⟨q1.1,q1.2.fr ep⟩
noncomputable def iJ (f g:FE):FE:=fun ρ=>(vy (f ρ)).bind fun b=>if b=true then m7 g ρ else some (.fz (.bl false))
noncomputable def Ae (f g:FE):FE:=fun ρ=>(vy (f ρ)).bind fun b=>if b=true then some (.fz (.bl true)) else m7 g ρ
noncomputable def qt (f:FE):FE:=fun ρ=>(vy (f ρ)).map fun b=>.fz (.bl (!b))
theorem Fv {op}(h:NE X a fa):NE X (.BoolOp op [a] pos) (m7 fa):=fun z s r E hz q=>BoolOp_one (yU h z s r E hz q)
theorem Et (ha:NE X a fa)(hb:NE X (.BoolOp .And (b::fx) pos) fb):NE X (.BoolOp .And (a::b::fx) pos) (iJ fa fb):=fun z s r E hz q=>by
 obtain⟨k,ek,q⟩:=Option.bind_eq_some_iff.mp q
 refine BoolOp_and (bE (ha z s _ E hz (fX ek)) fun v s1 q1=>?_)
 cases (show v=Value.bool k from q1.2)
 refine wpAny_truthy_bool ?_
 cases k with
 |true=>exact bE (yU hb z s1 r E q1.1.1 q) fun w s2 q2=>q1.1.post q2
 |false=>cases q;exact⟨q1.1,rfl⟩
theorem Gb (ha:NE X a fa)(hb:NE X (.BoolOp .Or (b::fx) pos) fb):NE X (.BoolOp .Or (a::b::fx) pos) (Ae fa fb):=fun z s r E hz q=>by
 obtain⟨k,ek,q⟩:=Option.bind_eq_some_iff.mp q
 refine BoolOp_or (bE (ha z s _ E hz (fX ek)) fun v s1 q1=>?_)
 cases (show v=Value.bool k from q1.2)
 refine wpAny_truthy_bool ?_
 cases k with
 |false=>exact bE (yU hb z s1 r E q1.1.1 q) fun w s2 q2=>q1.1.post q2
 |true=>cases q;exact⟨q1.1,rfl⟩
theorem E0 (ha:NE X a fa):NE X (.UnaryOp .Not a pos) (qt fa):=fun z s r E hz q=>by
 obtain⟨k,ek,rfl⟩:=Option.map_eq_some_iff.mp q
 refine UnaryOp_ (bE (ha z s _ E hz (fX ek)) fun v s1 q1=>?_)
 cases (show v=Value.bool k from q1.2)
 exact not_of (wpAny_truthy_bool ⟨q1.1,rfl⟩)
noncomputable def zu (o:Option PV):Option RV:=match o with
 |some (.int i)=>some (.fz (.int (-i)))
 |_=>none
noncomputable def qO (f:FE):FE:=fun ρ=>(f ρ).bind fun r=>zu r.fr
theorem AW (ha:NE X a fa):NE X (.UnaryOp .USub a pos) (qO fa):=fun z s r E hz q=>by
 obtain⟨x,ex,q⟩:=Option.bind_eq_some_iff.mp q
 unfold zu at q
 split at q
 ·next i h=>
  cases q
  refine UnaryOp_ (bE (ha z s _ E hz ex) fun v s1 q1=>?_)
  obtain⟨t,rfl⟩:=q1.2.fr h
  exact neg_int (q1.1.post ⟨q1.1.1.tok _,_,rfl⟩)
 ·cases q
noncomputable def FC (g:FB)(f k:FE):FE:=fun ρ=>(g ρ).bind fun b=>if b=true then m7 f ρ else m7 k ρ
theorem GH {t:Expr}(hc:NB X t ba)(ha:NE X a fa)(hb:NE X b fb):NE X (.IfExp t a b pos) (FC ba fa fb):=fun z s r E hz q=>by
 obtain⟨k,ek,q⟩:=Option.bind_eq_some_iff.mp q
 refine wpAny_IfExp (bE (hc z s k E hz ek) fun d s1 ⟨e,g1⟩=>?_)
 subst e
 cases d with
 |true=>exact bE (yU ha z s1 r E g1.1 q) fun w s2 q2=>g1.post q2
 |false=>exact bE (yU hb z s1 r E g1.1 q) fun w s2 q2=>g1.post q2
noncomputable def zE (g g':PV->PV->Option RV)(a b c:FE):FE:=fun ρ=>(a ρ).bind fun x=>(b ρ).bind fun y=>(vy (g x.pv y.pv)).bind fun k=>if k=true then (c ρ).bind fun z=>g' y.pv z.pv else some (.fz (.bl false))
noncomputable def af:FA:=fun _=>some []
noncomputable def aa (f:FE)(fs:FA):FA:=fun ρ=>(f ρ).bind fun r=>(fs ρ).bind fun rs=>some (r::rs)
theorem RvsOk.old {z:Z X}{h0 h h':Heap}{rs:List RV}{us:List Value}(d:RvsOk z h0 h rs us)(e:∀a,h0.get? a=none->h'.get? a=none):RvsOk z h' h rs us:=by
 induction d with
 |nil=>exact .nil
 |cons a _ ih=>exact .cons (a.old e) ih
theorem lG:NA X [] af:=fun z pos s rs E hz q=>by cases q;exact Calls.spliced_nil ⟨hz.refl,.nil⟩
theorem tF (ha:NE X e f)(hr:NA X es fs)(hs:starEach (e::es) X.env=(false,eval e X.env)::starEach es X.env):NA X (e::es) (aa f fs):=fun z pos s rs E hz q=>by
 obtain⟨r,er,q⟩:=Option.bind_eq_some_iff.mp q
 obtain⟨rs',ers,q⟩:=Option.bind_eq_some_iff.mp q
 cases q
 rw[hs]
 show W X (spliced ((false,eval e X.env)::backTo pos (starEach es X.env))) _ _ s
 refine Calls.spliced_cons (bE (ha z s r E hz er) fun u s1 q1=>?_)
 exact bE (hr z pos s1 rs' E q1.1.1 ers) fun us s2 q2=>⟨q1.1.trans q2.1,.cons (q1.2.ext q2.1.2) (q2.2.old fun _=>Ext.back q1.1.2)⟩
theorem RvsOk.fr {z:Z X}{h0 h:Heap}{rs:List RV}{us:List Value}(d:RvsOk z h0 h rs us):∀{ps:List PV},rs.mapM RV.fr=some ps->Ds z.cn h ps us:=by
 induction d with
 |nil=>intro ps e;cases e;rfl
 |cons a _ ih=>
  intro ps e
  rw[List.mapM_cons] at e
  obtain⟨p,e1,e⟩:=Option.bind_eq_some_iff.mp e
  obtain⟨qs,e2,e⟩:=Option.bind_eq_some_iff.mp e
  cases e
  exact .cons (a.fr e1) (ih e2)
inductive Rvs (z:Z X) (h:Heap):List PV->List Value->Prop where
 |nil:Rvs z h [] []
 |cons {p:PV} {u:Value} {ps:List PV} {us:List Value}:Rv z h p u->Rvs z h ps us->Rvs z h (p::ps) (u::us)
theorem RvsOk.rv {z:Z X}{h0 h:Heap}{rs:List RV}{us:List Value}(d:RvsOk z h0 h rs us):Rvs z h (rs.map RV.pv) us:=by
 induction d with
 |nil=>exact .nil
 |cons a _ ih=>exact .cons a.rv ih
noncomputable def gh (fs:FA):FE:=fun ρ=>(fs ρ).bind fun rs=>(rs.mapM RV.fr).bind fun ps=>if ps.length≤100000 then some (.fz (.tup ps)) else none
noncomputable def ft (fs:FA):FE:=fun ρ=>(fs ρ).bind fun rs=>(rs.mapM RV.fr).bind fun ps=>if ps.length≤100000 then some (.nw ps) else none
theorem DY {k}(h:NA X es fs):NE X (.Tuple es k pos) (gh fs):=fun z s r E hz q=>by
 obtain⟨rs,e1,q⟩:=Option.bind_eq_some_iff.mp q
 obtain⟨ps,e2,q⟩:=Option.bind_eq_some_iff.mp q
 split at q
 ·next hl=>
  cases q
  refine wpAny_Tuple_spliced (bE (h z pos s rs E hz e1) fun us s1 ⟨g1,d1⟩=>?_)
  have d:=d1.fr e2
  have l:=d.length
  have lb:us.length≤sizeLine:=by rw[l];exact big hl
  exact⟨lb,g1.post (Z.ok.newT g1.1 d lb s1.toks)⟩
 ·cases q
theorem Ej (h:NA X es fs):NE X (.List es pos) (ft fs):=fun z s r E hz q=>by
 obtain⟨rs,e1,q⟩:=Option.bind_eq_some_iff.mp q
 obtain⟨ps,e2,q⟩:=Option.bind_eq_some_iff.mp q
 split at q
 ·next hl=>
  cases q
  refine wpAny_List_spliced (bE (h z pos s rs E hz e1) fun us s1 ⟨g1,d1⟩=>?_)
  have d:=d1.fr e2
  have l:=d.length
  have lb:us.length≤sizeLine:=by rw[l];exact big hl
  exact⟨lb,g1.post (Z.ok.newL0 (n:=0) g1.1 d lb)⟩
 ·cases q
end
end Dp
end
section
namespace L2
open PySem PySem.Spec PyProof.Rows PySem.W
theorem mL {α:Type}(d:α):∀(xs:List α),(List.range xs.length).map (fun i=>xs.getD i d)=xs:=fun xs=>by
 apply List.ext_getElem
 ·simp
 ·intro i h1 h2
  rw[List.getElem_map,List.getElem_range]
  simp[h2]
end L2
end
section
namespace L2
open PySem PySem.Spec PyProof.Rows
noncomputable def bQ (K:PySem.W.Frag)(mg:Str->Option Value)(x:Str)(st:Stmt)(ps:List Str):Prop:=∃f fd,Fun K x x st f fd/\(∀us:List Value,us.length=ps.length->bindArgs fd ⟨us,[]⟩=pure (ps.zip us))/\mg x=some (.ref f)
section
variable {P:Program}{w:World}{K:PySem.W.Frag}{mg:Str->Option Value}{base:Heap}
end
theorem bD {K:PySem.W.Frag}{mg:Str->Option Value}{x:Str}{st:Stmt}{f:Addr}{oc:Value}{od an:Option Addr}{osl:Array (Option Value)}{kV doc pm cdv ct:Value}{ps:List Str}(l:K.lookup f=some ⟨oc,od,.func (PySem.W.fnOf x x (bj st) (aZ st) (ae st) .none kV doc pm an cdv ct),osl⟩)
  (c:PySem.W.codeIn K cdv x=true) (k:PySem.W.keepIn K (.ref f)=true) (m:mg x=some (.ref f))
  (h:∀(kV doc pm:Value) (an:Option Addr) (cdv ct:Value) (us:List Value),us.length=ps.length->bindArgs (PySem.W.fnOf x x (bj st) (aZ st) (ae st) .none kV doc pm an cdv ct) ⟨us,[]⟩=pure (ps.zip us)):bQ K mg x st ps:=
 ⟨f,_,CV l c k,h kV doc pm an cdv ct,m⟩
noncomputable def ka (H:Hp):V->Option (List V)
 |.ref a=>match H a with
  |some (.lst xs)=>some xs
  |_=>none
 |_=>none
theorem BJ:bootBuiltins "len" = some (.builtin "len"):=by decide +kernel
theorem Cz:bootBuiltins "abs" = some (.builtin "abs"):=by decide +kernel
theorem we:bootBuiltins "max" = some (.builtin "max"):=by decide +kernel
theorem xZ:bootBuiltins "min" = some (.builtin "min"):=by decide +kernel
theorem Dn:bootBuiltins "all" = some (.builtin "all"):=by decide +kernel
theorem BY:bootBuiltins "any" = some (.builtin "any"):=by decide +kernel
theorem m8:bootBuiltins "isinstance" = some (.builtin "isinstance"):=by decide +kernel
theorem n4:bootBuiltins "sorted" = some (.builtin "sorted"):=by decide +kernel
theorem Dm:bootBuiltins "sum" = some (.builtin "sum"):=by decide +kernel
theorem ya:bootBuiltins "int" = some (.type "int"):=by decide +kernel
theorem As:bootBuiltins "bool" = some (.type "bool"):=by decide +kernel
theorem yE:bootBuiltins "str" = some (.type "str"):=by decide +kernel
theorem o6:bootBuiltins "list" = some (.type "list"):=by decide +kernel
theorem mE:bootBuiltins "tuple" = some (.type "tuple"):=by decide +kernel
theorem zp:bootBuiltins "dict" = some (.type "dict"):=by decide +kernel
theorem xN:bootBuiltins "range" = some (.type "range"):=by decide +kernel
end L2
end
section
namespace L2
open PySem PySem.Spec PyProof.Rows
section
variable {X:Cx}{K:PySem.W.Frag}(h:X.K=K)
include h
end
noncomputable def NS (e:Expr):Prop:=∀(es:List Expr) (env:Env),starEach (e::es) env=(false,eval e env)::starEach es env
end L2
end
section
namespace L2
open PySem PySem.Spec PyProof.Rows
end L2
end
section
namespace L2
open PySem PySem.Spec PyProof.Rows
theorem o8:bootBuiltins "enumerate" = some (.type "enumerate"):=by decide +kernel
end L2
end
section
namespace L2
open PySem PySem.Spec PyProof.Rows PySem.SeqAt
end L2
end
section
namespace L2
open PySem PySem.Spec PyProof.Rows PySem.W
noncomputable def vz {α:Type}(c:Nat->Nat->Bool):KasT α->α
 |.ret a=>a
 |.ask i j k=>vz c (k (c i j))
theorem yA {α:Type}{n:Nat}{P:α->Prop}{cmp:Nat->Nat->(Bool->Shared->Prop)->Shared->Prop}{Q:α->Shared->Prop}{s:Shared}(lt:Nat->Nat->Bool)(hc:∀i j C,i<n->j<n->C (lt i j) s->cmp i j C s) :
  ∀{t:KasT α},Leaf n P t->(P (vz lt t)->Q (vz lt t) s)->t.kasWp cmp Q s
 |.ret a,h,hq=>hq h
 |.ask i j k,h,hq=>hc i j _ h.1 h.2.1 (yA lt hc (h.2.2 (lt i j)) hq)
noncomputable def yX (fin:Bool):List (Int×Int)->Bool
 |[]=>fin
 |(x,y)::r=>if x=y then yX fin r else decide (x<y)
noncomputable def FH (xs ys:List Int):Bool:=yX (decide (xs.length<ys.length)) (xs.zip ys)
noncomputable def wM (ks:List (List Int)):List Nat:=if ks.length<2 then List.range ks.length else (vz (fun i j=>FH (ks.getD i []) (ks.getD j [])) (kas_sort ks.length)).toList
section
variable {X:Cx}{pins:List (Addr×Obj)}{σ:St}{H:Hp}{s:Shared}
theorem wn {prog:Program}{w:World}{A:Around}{fin:Bool}{C:Bool->Shared->Prop}{s':Shared}:∀{xs ys:List Int} {us vs:List Value} {k:Nat},Vals (xs.map V.int) us->Vals (ys.map V.int) vs->C (yX fin (xs.zip ys)) s'->KatLex prog w A true fin C (us.zip vs) k s'
 |[],ys,us,vs,k,r1,r2,h=>by cases r1;exact kat_nil h
 |x::xs,[],us,vs,k,r1,r2,h=>by cases r2;cases us<;>exact kat_nil h
 |x::xs,y::ys,us,vs,k,r1,r2,h=>by
  cases r1 with
  |cons a1 r1=>
   cases r2 with
   |cons a2 r2=>
    obtain⟨t,rfl⟩:=a1
    obtain⟨u,rfl⟩:=a2
    rw[List.zip_cons_cons] at h ⊢
    rw[yX] at h
    refine kat_cons (wpAny_eqBool_int ?_)
    by_cases e:x=y
    ·rw[if_pos e] at h
     rw[show (x==y)=true by rw[e];exact beq_self_eq_true _]
     exact kat_yes (wn r1 r2 h)
    ·rw[if_neg e] at h
     rw[show (x==y)=false from beq_eq_false_iff_ne.mpr e]
     refine kat_no ?_
     by_cases hk:k=0
     ·subst hk;exact oneLt_int h
     ·rw[show (true&&k==0)=false by simp[hk]]
      exact kat_one _ _ (lt_int h)
end
end L2
end
section
namespace L2
open PySem PySem.Spec PyProof.Rows
noncomputable def DP (b:Bool):Nat:=if b then 1 else 0
theorem rU:typeLookup (.type "bool") "__index__" = pure (some (.builtin "int.__index__")):=by
 rw[typeLookup_type,builtinLookup_eq_fast]
 kernel_rfl
section
variable {P:Program}{w:World}{A:Around}{E:Value->Shared->Prop}{s:Shared}{b:Bool}
theorem xP {Q:Option Int->Shared->Prop}(h:Q (some (DP b:Int)) s):wpAny (model P w) A (Builtin.List.listSubscript? (.bool b)) Q E s:=by
 have e:=PySem.typeIs_bool s b
 unfold Builtin.List.listSubscript?
 refine wpAny_bind (wpAny_specialOf (T:="bool") e rU ?_)
 refine (?_:wpAny _ _ (asIndex (.bool b) >>= _) _ _ _)
 refine wpAny_bind (wpAny_of_eq (a:=(DP b:Int)) (by cases b<;>rfl) ?_)
 cases b<;>exact wpAny_pure h
theorem vU {l:Addr}{xs:Array Value}{x:Value}{Q:Value->Shared->Prop}(hl:s.heap.IsList l xs)(hx:xs[DP b]?=some x)(h:Q x s):wpAny (model P w) A (getItem (.ref l) (.bool b)) Q E s:=by
 have ty:=hl.typeIs
 obtain⟨o,ho,hc,ne,hd⟩:=hl
 unfold getItem
 try with_reducible refine wpAny_holding ?_
 first|refine wpAny_bind (wpAny_pure ?_)|skip
 refine wpAny_bind (wpAny_sequenceKey ty (by decide) ?_)
 have ar:=args_list_getitem (.ref l) (.bool b)
 refine wpAny_bind (wpAny_callSpecial?_slot (name:=Str.ofString "__getitem__") ty slot_list_getitem (wpAny_call_entry slot_list_getitem ty entry_list_getitem ?_ ar))
 refine (?_:wpAny _ _ (Builtin.List.listSubscript? (.bool b) >>= _) _ _ s)
 refine wpAny_bind (xP ?_)
 refine (?_:wpAny _ _ ((seqItemAt l (DP b) >>= fun r=>pure (r.map (DP b,·))) >>= _) _ _ s)
 refine wpAny_bind (wpAny_bind (wpAny_seqItemAt ho hd (wpAny_pure ?_)))
 rw[hx]
 first
  |exact wpAny_pure ⟨x,rfl,wpAny_pure h⟩
  |exact wpAny_bind (wpAny_pure (wpAny_pure ⟨x,rfl,wpAny_pure h⟩))
end
end L2
end
section
namespace L2
open PySem PySem.Spec PyProof.Rows
theorem nu (its:List Value):slicePick its.toArray none none (some (-1))=its.reverse.toArray:=by
 have e:sliceBounds none none (some (-1)) its.toArray.size=((its.length:Int) - 1,-1,-1):=by simp[sliceBounds]
 have r:sliceRange ((its.length:Int) - 1) (-1) (-1)=(List.range its.length).map fun (k:Nat)=>(((its.length:Nat):Int) - 1+(-1) * (k:Int)).toNat:=by
  unfold sliceRange
  have c:(if (-1:Int) > 0 then (if (its.length:Int) - 1 < -1 then (-1 - ((its.length:Int) - 1) + -1 - 1) / -1 else 0) else (if (its.length:Int) - 1 > -1 then ((its.length:Int) - 1 - -1 - -1 - 1) / (- -1) else 0)).toNat=its.length:=by
   rw[if_neg (by decide)]
   by_cases h:(its.length:Int) - 1 > -1
   ·rw[if_pos h,show (- -1:Int)=1 by decide,Int.ediv_one];omega
   ·rw[if_neg h];omega
  simp only[c]
 unfold slicePick
 rw[e]
 show (List.filterMap _ (sliceRange ((its.length:Int) - 1) (-1) (-1))).toArray=_
 rw[r,List.filterMap_map,←HT.pick_rev]
 congr 2
 funext k
 show its.toArray[(((its.length:Nat):Int) - 1+(-1) * (k:Int)).toNat]?=_
 rw[Int.mul_comm]
end L2
end
section
namespace L2
open PySem PyProof.Rows PySem.W
noncomputable abbrev gp (p:Array Nat)(k:Nat):Nat:=p.getD k 0
section
variable {n:Nat}{lt:Nat->Nat->Bool}{p:Array Nat}
end
end L2
end
section
namespace L2
open PySem PySem.Spec PyProof.Rows PySem.W
noncomputable def yN (is:List Int):List Int:=is.mergeSort fun a b=>decide (a≤b)
theorem n5 (is:List Int):(yN is).Perm is:=List.mergeSort_perm ..
theorem zt (is:List Int):(yN is).Pairwise (·≤·):=by
 have:=List.pairwise_mergeSort (le:=fun a b:Int=>decide (a≤b)) (fun a b c h1 h2=>by simp only[decide_eq_true_eq] at *;omega) (fun a b=>by simp only[Bool.or_eq_true,decide_eq_true_eq];omega) is
 exact this.imp fun h=>by simpa using h
theorem zL {is js:List Int}(p:js.Perm is)(u:js.Pairwise (·≤·)):js=yN is:=
 List.Perm.eq_of_pairwise (fun a b _ _ h1 h2=>Int.le_antisymm h1 h2) u (zt is) (p.trans (n5 is).symm)
theorem j0 {is:List Int}{vs:List Value}(h:IntsAre vs is):Vals (is.map V.int) vs:=by
 induction h with
 |nil=>exact .nil
 |cons n t _ ih=>exact .cons ⟨t,rfl⟩ ih
theorem sA {prog:Program}{w:World}{A:Around}{E:Value->Shared->Prop}{s:Shared}{p:Addr}{T:String}{o:Obj}{vs:List Value}{n:Nat}{is:List Int}{Q:Value->Shared->Prop}(hT:T = "list"\/T = "tuple")
  (ho:s.heap.get? p=some o) (hc:o.cls=.type T) (hd:o.data=.seq vs.toArray n) (hi:IntsAre vs is) (h64:vs.length<64)
  (h:∀(h1 h':Heap) (D:Addr) (out:List Value) (js:List Int) (e:Nat),(∀b u,s.heap.get? b=some u->h1.get? b=some u)->(∀b u,h1.get? b=some u->h'.get? b=some u)->h1.objs.size≤D->h'.get? D=some (seqObj "list" out.toArray e)->IntsAre out js->js.Perm is->js.Pairwise (·≤·)->Q (.ref D) { s with heap:=h' }) :
  wpAny (model prog w) A (call (.builtin "sorted") [.ref p]) Q E s:=by
 refine Calls.call_function_entry kind_sorted plain_sorted entry_sorted (args_sorted1 _) ?_
 unfold Builtin.«sorted»
 refine wpAny_bind (m:=checkCount "sorted" 1 1 _) (wpAny_pure (wpAny_bind (wpAny_collect_seq p hT ho hc hd (fun h' keep=>wpAny_bind (wpAny_newList ?_ (by show vs.length≤_;rw[sizeLine_eq];omega))) (by rw[List.size_toArray,sizeLine_eq];omega))))
 have hoL:(h'.push (seqObj "list" vs.toArray 0)).get? h'.objs.size=some (seqObj "list" vs.toArray 0):=Heap.get?_push_size _ rfl
 show wpAny _ _ _ _ _ { s with heap:=h'.push (seqObj "list" vs.toArray 0) }
 refine wpAny_bind (wpAny_holding (wpAny_call_entry slot_list_sort ⟨_,hoL,rfl⟩ entry_list_sort (list_sort_tree hoL hi h64 fun out ns h1 h2 h3=>⟨_,rfl,?_⟩) (args_list_sort _)))
 obtain⟨e,he⟩:=sortedHeap_at (vs:=vs) (out:=out) hoL
 exact wpAny_pure ⟨_,rfl,h h' _ _ out.toList ns e keep (fun b u z1=>by
  have z2:=Heap.get?_push_of_some (seqObj "list" vs.toArray 0) z1
  rw[sortedHeap_old (Nat.ne_of_lt (Heap.lt_size z1)) (Heap.lt_size z2)];exact z2) (Nat.le_refl _) (by rw[he]) h1 h2 h3⟩
end L2
end
section
namespace L2
open PySem PySem.Spec PyProof.Rows PySem.W
section
variable {prog:Program}{w:World}{A:Around}{E:Value->Shared->Prop}{s:Shared}
noncomputable abbrev yi (a c:Int):Nat->Value->Prop:=fun i v=>∃t,v=.int (a+i * c) t
theorem ra {Q:List Value->Shared->Prop}{r:Addr}{a b c:Int}{t u v:Tok}{n:Nat}(hh:A.handled=none)(hr:IsRange s.heap r a b c t u v)(h1:Builtin.Range.small a b c=true)(h2:Builtin.Range.rangeSize a b c=n)(h3:n≤2 ^ 24)
  (hQ:∀h' tk acc,(∀x o,s.heap.get? x=some o->h'.get? x=some o)->ItemsOf (yi a c) acc n->Q acc.toList { s with heap:=h',toks:=tk }):wpAny (model prog w) A (collect (.ref r)) Q E s:=by
 unfold collect;refine wpAny_bind (wpAny_runValue (codeAny_builtin F.entry_proto_collect ?_));rw[Around.under_plainId F.plain_proto_collect _]
 show wpAny _ A.in1 (newList [] >>= fun z=>again (.builtin "list.__iadd__" ⟨[z,.ref r],[]⟩)) _ _ s
 refine wpAny_bind (wpAny_newObj_type (wpAny_pure ⟨plainId_quiet F.plain_list_iadd _,codeAny_builtin F.entry_list_iadd ?_⟩))
 rw[Around.under_plainId F.plain_list_iadd _];show wpAny _ A.in1 (Builtin.List.listExtendWith (.ref s.heap.objs.size) (.ref r) (.ref s.heap.objs.size)) _ _ _
 have hS0:(s.heap.push { cls:=.type "list",data:=.seq ([]:List Value).toArray }).get? s.heap.objs.size=some { cls:=.type "list",data:=.seq #[] }:=Heap.get?_push_size _ rfl
 have hr0:=Heap.get?_push_of_some { cls:=.type "list",data:=.seq ([]:List Value).toArray } hr
 refine wpAny_extend_range (R:=fun z s'=>match z with
  |.ok (.ret v)=>wpAny (model prog w) A (match v with
   |.ref a=>do
    let o ←load a
    match o.data with
     |.seq xs _=>pure xs.toList
     |_=>unsupported "internal:collect"
   |_=>unsupported "internal:collect") Q E s'
  |.ok _=>False
  |.error e=>E e s') (s:={ s with heap:=s.heap.push { cls:=.type "list",data:=.seq ([]:List Value).toArray } }) hh hr0 h1 h2 h3 s.heap.objs.size _ 0 hS0 fun h' tk acc c' hk hS hacc=>?_
 show wpAny _ A (load s.heap.objs.size >>= fun _=>_) _ _ _
 refine wpAny_bind (wpAny_load hS (wpAny_pure (hQ h' tk acc (fun x o e=>?_) hacc)))
 exact hk x o (Nat.ne_of_lt (Heap.lt_size e)) (Heap.get?_push_of_some _ e)
end
theorem nh (r:Addr){a b c:Int}{t u v:Tok}{n:Nat}(h1:Builtin.Range.small a b c=true)(h2:Builtin.Range.rangeSize a b c=n)(h3:n≤2 ^ 24) :
  Meets (Builtin.«tuple.__new__» ⟨[.type "tuple",.ref r],[]⟩) (fun A R s=>(A.handled=none/\IsRange s.heap r a b c t u v)/\∀(h':Heap) (tk:Nat) (acc:Array Value),(∀x o,s.heap.get? x=some o->h'.get? x=some o)->ItemsOf (yi a c) acc n →
   R (.ok (.ret (.ref h'.objs.size))) { s with heap:=h'.push { cls:=.type "tuple",data:=.seq acc },toks:=tk }):=
 .of_wp fun prog w A R s h=>by
  obtain⟨⟨hh,hr⟩,h⟩:=h
  have hsub:=sub_tuple_self
  have hinit:=init_tuple_lookup
  have hmh:=madeHere_tuple
  have hT:s.TypeIs (.ref r) "range":=⟨_,hr,rfl⟩
  have hh1:A.in1.handled=none:=hh
  wp_walk using wpAny_typeOf hT,ra hh1 hr h1 h2 h3
  intro h' tk acc hk hacc
  show wpAny _ _ (Builtin.Tuple.tupleExact acc.toList.toArray >>= fun z=>ret z) _ _ _
  unfold Builtin.Tuple.tupleExact
  have e:acc.toList.toArray=acc:=by simp
  have hz:acc.toList.toArray.size≤sizeLine:=by rw[e,hacc.1,sizeLine_eq];omega
  refine wpAny_bind (wpAny_newObj_type (wpAny_pure ⟨_,rfl,?_⟩) hz)
  rw[e]
  exact h h' tk acc hk hacc
end L2
end
section
namespace L2
open PySem PySem.Spec PyProof.Rows _root_.HT
theorem mZ {prog:Program}{w:World}{A:Around}{E:Value->Shared->Prop}{s:Shared}{t z:Addr}{items:Array Value}{vl vu:Value}{lo hi:Option Int}{Q:Value->Shared->Prop}(ht:IsTup s.heap t items)(hs:s.heap.IsSliceOf z vl vu .none)(pl:IsPart vl lo)(pu:IsPart vu hi)
  (hw:_root_.HT.sIx items.size 0 lo=0/\_root_.HT.sIx items.size items.size hi=items.size) (h:Q (.ref t) s):wpAny (model prog w) A (getItem (.ref t) (.ref z)) Q E s:=by
 obtain⟨os,hos,hcs,hds⟩:=id hs
 have hTs:s.TypeIs (.ref z) "slice":=⟨os,hos,hcs⟩
 unfold getItem;try with_reducible refine wpAny_holding ?_
 first|(refine wpAny_bind (wpAny_pure ?_);skip)|skip
 refine wpAny_bind (wpAny_sequenceKey ht.typeIs (by decide) (wpAny_bind (wpAny_callSpecial?_slot (name:=Str.ofString "__getitem__") ht.typeIs PyProof.Rows.slot_tuple_getitem (wpAny_call_entry PyProof.Rows.slot_tuple_getitem ht.typeIs entry_tuple_getitem ?_ (args_tuple_getitem _ _)))))
 show wpAny _ _ (Builtin.Tuple.tupleItemsOf (.ref t) >>= fun _=>_) _ _ s
 refine wpAny_bind (tupleItemsOf_ ht (wpAny_bind (wpAny_typeOf hTs ?_)))
 rw[if_pos (by decide)];refine wpAny_bind (hO hs pl pu ?_)
 rw[hw.1,hw.2]
 have yes:(((0:Nat):Int)==0&&(1:Int)==1&&(items.size - 0)==items.size)=true:=by simp
 show wpAny _ _ (if (((0:Nat):Int)==0&&(1:Int)==1&&(items.size - 0)==items.size)=true then _ else _) _ _ s
 rw[if_pos yes]
 refine wpAny_bind ?_
 unfold Builtin.Tuple.tupleIsExact
 refine wpAny_bind (wpAny_typeOf ht.typeIs (wpAny_pure ?_))
 rw[if_pos (by decide)]
 exact wpAny_bind (wpAny_rule (wpAny_pure ⟨_,rfl,wpAny_pure h⟩))
end L2
end
section
namespace Dp
open PySem PySem.Spec L2 PyProof.Rows
section
variable {X:Cx}{e a b c:Expr}{es fx:List Expr}{pos:Pos}{f fa fb fc:FE}{fs:FA}{i:Nat}{ba bb:FB}
noncomputable def F4 (X:Cx)(g:PV->PV->Option RV):Prop:=∀(value slice:Expr) (z:Z X) s p q u v r E,z.ok s->Rv z s.heap p u->Rv z s.heap q v->g p q=some r->subscripted slice false u v=operate [u,v] (getItem u v)->W X (subscriptTail value slice u v) (Z.post z s r) E s
theorem E9 {g:PV->PV->Option RV}(h:F4 X g)(ha:NE X a fa)(hb:NE X b fb)(hs:s9 b):NE X (.Subscript a b pos) (ax g fa fb):=fun z s r E hz q=>by
 obtain⟨x,y,ex,ey,eg⟩:=ua q
 exact Subscript_ (two ha hb hz ex ey fun u v s2 g2 d1 d2=>bE (h a b z s2 _ _ u v r E g2.1 d1.rv d2.rv eg (hs _ _)) fun w s3 q3=>g2.post q3)
noncomputable def cq:PV->PV->Option RV
 |.str z,.int i=>if z.length≤100000 then (L2.eI z.cps.toList i).map fun c=>.fz (.str ⟨#[c]⟩) else none
 |.dct ks ps,q=>(ia q).bind fun k=>(nF ks ps k).map .fz
 |p,.int i=>(items p).bind fun ps=>(L2.eI ps i).map .fz
 |_,_=>none
theorem uZ {z:Z X}{s:Shared}{value slice:Expr}{p:PV}{u:Value}{i:Int}{t:Tok}{ps:List PV}{q:PV}{E:Value->Shared->Prop}(hz:z.ok s)(d:Rd z.cn s.heap p u)(e1:items p=some ps)(e2:L2.eI ps i=some q)(hs:subscripted slice false u (.int i t)=operate [u,.int i t] (getItem u (.int i t))) :
  W X (subscriptTail value slice u (.int i t)) (Z.post z s (.fz q)) E s:=by
 obtain⟨a,its,rfl,_,zl,ds,h⟩:=D1.items d e1
 obtain⟨j,h1,h2,h3,h4,h5⟩:=uE e2
 obtain⟨w,ew,dw⟩:=ds.get h2
 have hl:=ds.length
 have hn:=kA
 have fin:Z.post z s (.fz q) w s:=⟨hz.refl,dw⟩
 rcases h with pl|⟨n,e⟩
 ·exact subscriptTail_builtinR (x:=w) pl.typeIs slot_tuple_getitem.lookup
   (getItem_tuple (j:=j) (Q:=fun r s'=>r=w/\Z.post z s (.fz q) r s') pl (by omega) (by omega) (by rw[List.size_toArray,hl];exact h1) (by simpa using ew) ⟨rfl,fin⟩) hs
 ·have pl:=bJ e
  by_cases h0:0≤i
  ·have hj:i.toNat=j:=by
    rw[seqIndex_of h0 h5] at h1
    exact Option.some.inj h1
   exact item_listR pl h0 (by omega) (by rw[hj];simpa using ew) fin hs
  ·have hj:(i+(its.toArray.size:Int)).toNat=j:=by
    rw[seqIndex_neg (by omega) h4] at h1
    rw[List.size_toArray,hl]
    exact Option.some.inj h1
   exact subscriptTail_builtinR (x:=w) pl.typeIs slot_list_getitem.lookup
    (wpAny_getItem_list_neg (Q:=fun r s'=>r=w/\Z.post z s (.fz q) r s') pl (by omega) (by rw[List.size_toArray]<;>omega) (by omega) (by rw[hj];simpa using ew) ⟨rfl,fin⟩) hs
theorem CD:F4 X cq:=by
 intro value slice z s p q u v r E hz dp dq e hs
 have seq:∀{i:Int},q=.int i →  ((items p).bind fun ps=>(L2.eI ps i).map .fz)=some r->W X (subscriptTail value slice u v) (Z.post z s r) E s:=fun {i} eq e'=>by
  subst eq
  obtain⟨⟨t,rfl⟩,_⟩:=dq
  obtain⟨ps,e1,e3⟩:=Option.bind_eq_some_iff.mp e'
  obtain⟨w,e2,rfl⟩:=Option.map_eq_some_iff.mp e3
  exact uZ hz dp.1 e1 e2 hs
 unfold cq at e
 split at e
 ·next x i=>
  split at e
  ·next hl=>
   obtain⟨c,e2,rfl⟩:=Option.map_eq_some_iff.mp e
   obtain⟨⟨t,rfl⟩,_⟩:=dp
   obtain⟨⟨t',rfl⟩,_⟩:=dq
   obtain⟨j,h1,h2,h3,h4,h5⟩:=uE e2
   have hl':x.cps.toList.length=x.length:=by simp[Str.length]
   rw[hl'] at h1 h4 h5
   have hn:=kA
   have hb:=big hl
   exact tail_any (typeIs_str s x t) slot_str_getitem.lookup (getItem_str (c:=c) (by
    have e1:decide (i < -(2 ^ 63:Int))=false:=decide_eq_false (by omega)
    have e2:decide (i ≥ 2 ^ 63)=false:=decide_eq_false (by omega)
    rw[e1,e2,Bool.or_false]) (by rw[h1];simpa using h2) ⟨hz.tok _,_,rfl⟩) hs
  ·cases e
 ·next ks ps=>
  obtain⟨k,ek,e⟩:=Option.bind_eq_some_iff.mp e
  obtain⟨w,e2,rfl⟩:=Option.map_eq_some_iff.mp e
  obtain⟨a,kus,rfl,_,y,dd,zl,hk,ds⟩:=dp.1
  obtain⟨x,ex,dx⟩:=(jV (y:=k) hk ds).1 w e2
  exact tail_any dd.typeIs PySem.F.slot_dict_getitem.lookup (wpAny_getItem_of (lD (fG ek dq.1)) dd.mapOf ex ⟨hz.tok _,dx⟩) hs
 ·exact seq rfl e
 ·cases e
noncomputable def At:PV->PV->Option RV
 |.lst ps,.int i=>(L2.eI ps i).map .fz
 |.lst ps,.bl b=>(ps[DP b]?).map .fz
 |_,_=>none
theorem xr:F4 X At:=by
 intro value slice z s p q u v r E hz dp dq e hs
 unfold At at e
 split at e
 ·obtain⟨⟨t,rfl⟩,_⟩:=dq
  obtain⟨w,e2,rfl⟩:=Option.map_eq_some_iff.mp e
  exact uZ hz dp.1 rfl e2 hs
 ·next ps b=>
  cases (show v=Value.bool b from dq.1)
  obtain⟨w,e2,rfl⟩:=Option.map_eq_some_iff.mp e
  obtain⟨a,its,n,rfl,_,e1,zl,ds⟩:=dp.1
  obtain⟨x,ex,dx⟩:=ds.get e2
  exact subscriptTail_builtinR (x:=x) (bJ e1).typeIs slot_list_getitem.lookup (vU (Q:=fun r s'=>r=x/\Z.post z s (.fz w) r s') (bJ e1) (by simpa using ex) ⟨rfl,hz.refl,dx⟩) hs
 ·cases e
noncomputable def jv {α:Type}(xs:List α)(lo hi:Option Int):List α:=(xs.drop (HT.sIx xs.length 0 lo)).take (HT.sIx xs.length xs.length hi - HT.sIx xs.length 0 lo)
noncomputable abbrev FO:=aK->Option (Option Int)
noncomputable def NO (X:Cx)(e:Option Expr)(f:FO):Prop:=∀(z:Z X) s o E,z.ok s->f z.ρ=some o->W X (evalPart e X.env) (fun u s'=>z.go s s'/\IsPart u o) E s
noncomputable def qc:FO:=fun _=>some none
noncomputable def FG (o:Option PV):Option (Option Int):=match o with
 |some (.int i)=>some (some i)
 |_=>none
noncomputable def qh (f:FE):FO:=fun ρ=>(f ρ).bind fun r=>FG r.fr
theorem Ai:NO X none qc:=fun z s o E hz q=>by cases q;rw[evalPart_none];exact wpAny_pure ⟨hz.refl,.none⟩
theorem zk (h:NE X e f):NO X (some e) (qh f):=fun z s o E hz q=>by
 obtain⟨r,er,q⟩:=Option.bind_eq_some_iff.mp q
 unfold FG at q
 split at q
 ·next i hi=>
  cases q
  rw[evalPart_some]
  refine bE (h z s r E hz er) fun u s1 q1=>?_
  obtain⟨t,rfl⟩:=q1.2.fr hi
  exact⟨q1.1,.int i t⟩
 ·cases q
noncomputable def DQ (p:PV)(l h:Option Int):Option RV:=match p with
 |.lst ps=>some (.nw (jv ps l h))
 |.src ps=>some (.nw (jv ps l h))
 |.tup ps=>if HT.sIx ps.length 0 l=0/\HT.sIx ps.length ps.length h=ps.length then none else some (.fz (.tup (jv ps l h)))
 |_=>none
noncomputable def u8:PV->Option Int->Option Int->Option RV
 |.tup ps,l,h=>some (.fz (.tup (jv ps l h)))
 |_,_,_=>none
noncomputable def zS (g:PV->Option Int->Option Int->Option RV)(f:FE)(l h:FO):FE:=fun ρ=>(f ρ).bind fun r=>(l ρ).bind fun lo=>(h ρ).bind fun hi=>g r.pv lo hi
noncomputable abbrev sy:FE->FO->FO->FE:=zS DQ
noncomputable abbrev Du:FE->FO->FO->FE:=zS u8
noncomputable def GV (X:Cx)(g:PV->Option Int->Option Int->Option RV):Prop:=∀(z:Z X) s p v vl vu lo hi t r E,z.ok s->Rv z s.heap p v->s.heap.IsSliceOf t vl vu .none->IsPart vl lo->IsPart vu hi->g p lo hi=some r →
 ∃T id,typeLookup (.type T) "__getitem__" = pure (some (.builtin id))/\s.TypeIs v T/\W X (getItem v (.ref t)) (Z.post z s r) E s
theorem Fb {g:PV->Option Int->Option Int->Option RV}{lo hi:Option Expr}{fl fh:FO}{p2:Pos}(hr:GV X g)(he:NE X e f)(hl:NO X lo fl)(hu:NO X hi fh):NE X (.Subscript e (.Slice lo hi none p2) pos) (zS g f fl fh):=fun z s r E hz q=>by
 obtain⟨x,ex,q⟩:=Option.bind_eq_some_iff.mp q
 obtain⟨ol,el,q⟩:=Option.bind_eq_some_iff.mp q
 obtain⟨oh,eh,q⟩:=Option.bind_eq_some_iff.mp q
 refine Subscript_ (bE (he z s x E hz ex) fun v s1 q1=>?_)
 refine wpAny_Slice (bE (hl z s1 ol E q1.1.1 el) fun vl s2 ⟨g2,pl⟩=>bE (hu z s2 oh E g2.1 eh) fun vu s3 ⟨g3,pu⟩=>?_)
 rw[evalPart_none]
 refine wpAny_pure ?_
 have g4:=g3.1.push { cls:=.type "slice",data:=.fields #[vl,vu,.none] } s3.toks
 have ga:=q1.1.trans (g2.trans (g3.trans g4))
 obtain⟨T,id,hT,ht,hg⟩:=hr z _ x.pv v vl vu ol oh s3.heap.objs.size r E g4.1 ((q1.2.ext (g2.2.trans (g3.2.trans g4.2))).rv) (Heap.IsSliceOf.new ..) pl pu q
 exact tail_any (ops:=[.ref s3.heap.objs.size,v]) ht hT (bE hg fun w s5 q5=>ga.post q5) (by with_unfolding_all rfl)
theorem x5 {c:Cn}{h:Heap}{ps:List PV}{its:List Value}(d:Ds c h ps its)(lo hi:Option Int):Ds c h (jv ps lo hi) ((its.drop (HT.sIx its.length 0 lo)).take (HT.sIx its.length its.length hi - HT.sIx its.length 0 lo)):=by
 unfold jv;rw[d.length];exact (d.drop _).take _
theorem Ey {z:Z X}{s:Shared}{ps:List PV}{v vl vu:Value}{lo hi:Option Int}{t:Addr}{E:Value->Shared->Prop}(hz:z.ok s)(d:Rd z.cn s.heap (.lst ps) v)(hs:s.heap.IsSliceOf t vl vu .none)(pl:IsPart vl lo)(pu:IsPart vu hi) :
  ∃T id,typeLookup (.type T) "__getitem__" = pure (some (.builtin id))/\s.TypeIs v T/\W X (getItem v (.ref t)) (Z.post z s (.nw (jv ps lo hi))) E s:=by
 obtain⟨a,its,n,rfl,_,e1,zl,ds⟩:=d
 have ht:=bJ e1
 refine⟨"list",_,slot_list_getitem.lookup,ht.typeIs,?_⟩
 refine wpAny_getItem_list_slice ht hs pl pu .none (by simp) ?_ (by rw[List.size_toArray]<;>omega)
 rw[mS]
 exact Z.ok.newL0 (n:=0) hz (x5 ds lo hi) (by rw[List.length_take,List.length_drop];omega)
theorem EM {z:Z X}{s:Shared}{ps:List PV}{v vl vu:Value}{lo hi:Option Int}{t:Addr}{E:Value->Shared->Prop}(hz:z.ok s)(d:D z.cn s.heap (.tup ps) v)(hs:s.heap.IsSliceOf t vl vu .none)(pl:IsPart vl lo)(pu:IsPart vu hi) :
  ∃T id,typeLookup (.type T) "__getitem__" = pure (some (.builtin id))/\s.TypeIs v T/\W X (getItem v (.ref t)) (Z.post z s (.fz (.tup (jv ps lo hi)))) E s:=by
 have d':=d
 obtain⟨a,its,rfl,o,ht,zl,ds⟩:=d
 have hn:its.toArray.size=its.length:=List.size_toArray
 refine⟨"tuple",_,PyProof.Rows.slot_tuple_getitem.lookup,ht.typeIs,?_⟩
 by_cases hw:HT.sIx its.length 0 lo=0/\HT.sIx its.length its.length hi=its.length
 ·refine mZ ht hs pl pu (by rw[hn];exact hw) ⟨hz.refl,?_⟩
  have:jv ps lo hi=ps:=by
   have hl:=ds.length
   unfold jv
   rw[←hl,hw.1,hw.2,List.drop_zero,Nat.sub_zero,List.take_of_length_le (by omega)]
  rw[this];exact d'
 ·refine HT.getItem_tuple_cut ht hs pl pu (by rw[hn];exact hw) ?_ (by rw[hn];exact zl)
  rw[hn]
  exact Z.ok.newT hz (x5 ds lo hi) (by rw[List.length_take,List.length_drop];omega) s.toks
theorem GX:GV X DQ:=fun z s p v vl vu lo hi t r E hz d hs pl pu q=>by
 unfold DQ at q
 split at q
 ·cases q;exact Ey hz d.1 hs pl pu
 ·cases q;exact Ey hz d.1 hs pl pu
 ·split at q
  ·cases q
  ·cases q;exact EM hz (d.2 rfl) hs pl pu
 ·cases q
theorem Fi:GV X u8:=fun z s p v vl vu lo hi t r E hz d hs pl pu q=>by
 unfold u8 at q
 split at q
 ·cases q;exact EM hz (d.2 rfl) hs pl pu
 ·cases q
noncomputable def ka:PV->Option (List PV)
 |.lst ps=>some ps
 |.src ps=>some ps
 |_=>none
theorem D1.lst {t:Addr->Prop}{c:Cn}{h:Heap}{p:PV}{u:Value}{ps:List PV}(d:D1 t c h p u)(e:ka p=some ps):D1 t c h (.lst ps) u:=by
 cases p with
 |lst qs=>cases e;exact d
 |src qs=>cases e;exact d
 |_=>cases e
noncomputable def ET (p:PV):Option RV:=match p with
 |.tup ps=>some (.fz (.tup ps.reverse))
 |p=>(ka p).map fun ps=>.nw ps.reverse
noncomputable def C9 (f:FE):FE:=fun ρ=>(f ρ).bind fun r=>ET r.pv
theorem DV {st:Expr}{p2:Pos}(he:NE X e f)(hst:NE X st (fC (.int (-1)))\/NE X st (qO (fC (.int 1)))):NE X (.Subscript e (.Slice none none (some st) p2) pos) (C9 f):=fun z s r E hz q=>by
 obtain⟨x,ex,q⟩:=Option.bind_eq_some_iff.mp q
 refine Subscript_ (bE (he z s x E hz ex) fun v s1 q1=>?_)
 refine wpAny_Slice ?_
 rw[evalPart_none]
 refine wpAny_pure (wpAny_pure ?_)
 rw[evalPart_some]
 have hst':W X (eval st X.env) (Z.post z s1 (.fz (.int (-1)))) E s1:=hst.elim (fun h=>h z s1 _ E q1.1.1 rfl) fun h=>h z s1 _ E q1.1.1 rfl
 refine bE hst' fun vst s3 q3=>?_
 obtain⟨t,rfl⟩:=q3.2
 have g4:=q3.1.1.push { cls:=.type "slice",data:=.fields #[.none,.none,.int (-1) t] } s3.toks
 have ga:=q1.1.trans (q3.1.trans g4)
 have dx:=(q1.2.ext (q3.1.2.trans g4.2)).rv
 have lstCase:∀ps,ka x.pv=some ps->r=.nw ps.reverse->W X (subscriptTail e (.Slice none none (some st) p2) v (.ref s3.heap.objs.size)) (Z.post z s r) E { s3 with heap:=s3.heap.push { cls:=.type "slice",data:=.fields #[.none,.none,.int (-1) t] } }:=fun ps e1 er=>by
  subst er
  obtain⟨a,its,n,rfl,_,e1,zl,ds⟩:=D1.lst dx.1 e1
  have ht:=bJ e1
  refine tail_any (ops:=[.ref a,.ref s3.heap.objs.size]) ht.typeIs slot_list_getitem.lookup (wpAny_getItem_list_slice ht (Heap.IsSliceOf.new ..) .none .none (.int _ _) (by simp) ?_ (by rw[List.size_toArray];omega)) (by with_unfolding_all rfl)
  rw[nu]
  exact ga.post (Z.ok.newL0 (n:=0) (t:=s3.toks) g4.1 ds.rev (by rw[List.length_reverse];exact zl))
 unfold ET at q
 split at q
 ·next ps ep=>
  cases q
  rw[ep] at dx
  obtain⟨a,its,rfl,o,ht,zl,ds⟩:=dx.2 rfl
  refine tail_any (ops:=[.ref a,.ref s3.heap.objs.size]) ht.typeIs PyProof.Rows.slot_tuple_getitem.lookup (L2.HT.getItem_tuple_rev ht (Heap.IsSliceOf.new ..) (.int _ _) ?_ zl) (by with_unfolding_all rfl)
  exact ga.post (Z.ok.newT g4.1 ds.rev (by rw[List.length_reverse];exact zl) s3.toks)
 ·obtain⟨ps,e1,e2⟩:=Option.map_eq_some_iff.mp q
  exact lstCase ps e1 e2.symm
noncomputable def dQ (X:Cx)(fv:Value)(g:List PV->Option RV):Prop:=∀(z:Z X) s ps us r E,z.ok s->Rvs z s.heap ps us->g ps=some r->W X (call fv us) (Z.post z s r) E s
noncomputable def fB (g:List PV->Option RV)(fs:FA):FE:=fun ρ=>(fs ρ).bind fun rs=>g (rs.map RV.pv)
theorem GZ {x:Str}{p:Pos}{id:String}{g:List PV->Option RV}(hc:dQ X (.builtin id) g)(hg:Gl X x)(hm:X.mg x=none)(hv:bootBuiltins x=some (.builtin id))(ha:NA X (e::es) fs)(hn:x ≠ "__name__")(hdb:(x==("__debug__" : Str))=false)
  (he:starEach (e::es) X.env=(false,eval e X.env)::starEach es X.env) (hpl:(backTo pos (starEach es X.env)).any (·.1)=false):NE X (.Call (.Name x p) (e::es) [] pos) (fB g fs):=fun z s r E hz q=>by
 obtain⟨rs,er,q⟩:=Option.bind_eq_some_iff.mp q
 refine wpAny_Call_Name_kw (jM hz.I hg hm hv ?_ hn hdb)
 exact PyProof.Rows.callWith_builtin1 (bE (ha z pos s rs E hz er) fun us s1 ⟨g1,d1⟩=>bE (hc z s1 _ us r E g1.1 d1.rv q) fun w s2 q2=>g1.post q2) he hpl
theorem EY {x:Str}{p:Pos}{T:String}{g:List PV->Option RV}(hc:dQ X (.type T) g)(hg:Gl X x)(hm:X.mg x=none)(hv:bootBuiltins x=some (.type T))(ha:NA X (e::es) fs)(hn:x ≠ "__name__")(hdb:(x==("__debug__" : Str))=false)
  (he:starEach (e::es) X.env=(false,eval e X.env)::starEach es X.env) (hpl:(backTo pos (starEach es X.env)).any (·.1)=false):NE X (.Call (.Name x p) (e::es) [] pos) (fB g fs):=fun z s r E hz q=>by
 obtain⟨rs,er,q⟩:=Option.bind_eq_some_iff.mp q
 refine wpAny_Call_Name_kw (jM hz.I hg hm hv ?_ hn hdb)
 exact PyProof.Rows.callWith_type1 (bE (ha z pos s rs E hz er) fun us s1 ⟨g1,d1⟩=>bE (hc z s1 _ us r E g1.1 d1.rv q) fun w s2 q2=>g1.post q2) he hpl
theorem Rvs.one {z:Z X}{h:Heap}{p:PV}{us:List Value}(d:Rvs z h [p] us):∃u,us=[u]/\Rv z h p u:=by
 cases d with
 |cons a b=>cases b;exact⟨_,rfl,a⟩
theorem Rvs.two {z:Z X}{h:Heap}{p q:PV}{us:List Value}(d:Rvs z h [p,q] us):∃u v,us=[u,v]/\Rv z h p u/\Rv z h q v:=by
 cases d with
 |cons a b=>cases b with
  |cons b c=>cases c;exact⟨_,_,rfl,a,b⟩
noncomputable def iH:List PV->Option RV
 |[.str z]=>if z.length≤100000 then some (.fz (.int z.length)) else none
 |[p]=>(items p).map fun ps=>.fz (.int ps.length)
 |_=>none
theorem D8:dQ X (.builtin "len") iH:=fun z s ps us r E hz d q=>by
 have hn:=kA
 unfold iH at q
 split at q
 ·split at q
  ·next hl=>
   cases q
   obtain⟨u,rfl,⟨t,rfl⟩,_⟩:=d.one
   have hb:=big hl
   exact len_str (by omega) ⟨hz.tok _,_,rfl⟩
  ·cases q
 ·obtain⟨ps,e1,rfl⟩:=Option.map_eq_some_iff.mp q
  obtain⟨u,rfl,du⟩:=d.one
  obtain⟨a,its,rfl,_,zl,ds,h⟩:=D1.items du.1 e1
  have hl:=ds.length
  have fin:∀t tk,Z.post z s (.fz (.int ps.length)) (.int its.toArray.size t) { s with toks:=tk }:=fun t tk=>⟨hz.tok _,t,by rw[List.size_toArray,hl]⟩
  rcases h with pl|⟨n,e⟩
  ·exact len_tuple pl (by rw[List.size_toArray];omega) (fin _ _)
  ·exact Calls.call_len_list (bJ e) (by rw[List.size_toArray];omega) (fin _ _)
 ·cases q
noncomputable def yc:List PV->Option RV
 |[.int i]=>some (.fz (.int (if i<0 then -i else i)))
 |_=>none
noncomputable def n6:List PV->Option RV
 |[.int i,.int j]=>some (.fz (.int (if j > i then j else i)))
 |_=>none
noncomputable def kK:List PV->Option RV
 |[.int i,.int j]=>some (.fz (.int (if j<i then j else i)))
 |_=>none
noncomputable def p8:List PV->Option RV
 |[.int i]=>some (.fz (.int i))
 |[.bl b]=>some (.fz (.int (if b then 1 else 0)))
 |_=>none
end
end Dp
end
section
namespace Dp
open PySem PySem.Spec L2 PyProof.Rows
section
variable {X:Cx}
theorem Ec:dQ X (.builtin "abs") yc:=fun z s ps us r E hz d q=>by
 unfold yc at q
 split at q
 ·cases q;obtain⟨u,rfl,⟨t,rfl⟩,_⟩:=d.one;exact call_abs_int fun u tk=>⟨hz.tok _,_,rfl⟩
 ·cases q
theorem C3 (hc:X.calm=true):dQ X (.builtin "max") n6:=fun z s ps us r E hz d q=>by
 unfold n6 at q
 split at q
 ·next i j=>
  cases q;obtain⟨u,v,rfl,⟨⟨t,rfl⟩,_⟩,⟨t',rfl⟩,_⟩:=d.two
  refine max_two_ints (hz.I.ok.hd hc) fun h' tk k=>⟨hz.kept k,?_⟩
  by_cases hj:j > i
  ·rw[if_pos hj,if_pos hj];exact⟨_,rfl⟩
  ·rw[if_neg hj,if_neg hj];exact⟨_,rfl⟩
 ·cases q
theorem CY (hc:X.calm=true):dQ X (.builtin "min") kK:=fun z s ps us r E hz d q=>by
 unfold kK at q
 split at q
 ·next i j=>
  cases q;obtain⟨u,v,rfl,⟨⟨t,rfl⟩,_⟩,⟨t',rfl⟩,_⟩:=d.two
  refine min_two_ints (hz.I.ok.hd hc) fun h' tk k=>⟨hz.kept k,?_⟩
  by_cases hj:j<i
  ·rw[if_pos hj,if_pos hj];exact⟨_,rfl⟩
  ·rw[if_neg hj,if_neg hj];exact⟨_,rfl⟩
 ·cases q
theorem DT:dQ X (.type "int") p8:=fun z s ps us r E hz d q=>by
 unfold p8 at q
 split at q
 ·cases q;obtain⟨u,rfl,⟨t,rfl⟩,_⟩:=d.one;exact call_int_int ⟨hz.refl,_,rfl⟩
 ·next k=>cases q;obtain⟨u,rfl,du⟩:=d.one;cases (show u=Value.bool k from du.1);exact call_int_bool ⟨hz.tok _,_,rfl⟩
 ·cases q
noncomputable def BH:List PV->Option RV
 |[.int i]=>if i.natAbs.log2<1920 then some (.fz (.str (toString i))) else none
 |_=>none
theorem Ep:dQ X (.type "str") BH:=fun z s ps us r E hz d q=>by
 unfold BH at q
 split at q
 ·split at q
  ·next h=>cases q;obtain⟨u,rfl,⟨t,rfl⟩,_⟩:=d.one;exact PySem.P.str_of_int h ⟨hz.tok _,_,rfl⟩
  ·cases q
 ·cases q
noncomputable def DE:List PV->Option (List Bool)
 |[]=>some []
 |.bl b::ps=>(DE ps).map fun bs=>b::bs
 |_=>none
theorem wA {c:Cn}{h:Heap}{ps:List PV}:∀{us:List Value} {bs:List Bool},Ds c h ps us->DE ps=some bs->us=bs.map Value.bool:=by
 induction ps with
 |nil=>intro us bs d e;cases e;exact d
 |cons p ps ih=>
  intro us bs d q
  obtain⟨u,r,e,d,t⟩:=d
  cases p with
  |bl b=>
   obtain⟨bs',e',rfl⟩:=Option.map_eq_some_iff.mp q
   rw[e,show u=Value.bool b from d,ih t e',List.map_cons]
  |_=>cases q
noncomputable def wf:List PV->Option RV
 |[p]=>(ka p).bind fun ps=>(DE ps).map fun bs=>.fz (.bl (bs.all id))
 |_=>none
noncomputable def BT:List PV->Option RV
 |[p]=>(ka p).bind fun ps=>(DE ps).map fun bs=>.fz (.bl (bs.any id))
 |_=>none
theorem BV (bs:List Bool):(List.range bs.length).all (fun i=>bs.getD i false)=bs.all id:=by
 induction bs with
 |nil=>rfl
 |cons b r ih=>rw[List.length_cons,List.range_succ_eq_map,List.all_cons,List.all_map,List.all_cons,←ih]<;>rfl
theorem Cs (bs:List Bool):(List.range bs.length).any (fun i=>bs.getD i false)=bs.any id:=by
 induction bs with
 |nil=>rfl
 |cons b r ih=>rw[List.length_cons,List.range_succ_eq_map,List.any_cons,List.any_map,List.any_cons,←ih]<;>rfl
theorem i6 {h:Heap}{a:Addr}{o:Obj}(e:h.get? a=some o):a≠h.objs.size:=Nat.ne_of_lt (Heap.lt_size e)
theorem BA {bs:List Bool}{i:Nat}{v:Value}(h:(bs.map Value.bool).toArray[i]?=some v):v=Value.bool (bs.getD i false):=by
 rw[List.getElem?_toArray,List.getElem?_map] at h
 obtain⟨b,e,rfl⟩:=Option.map_eq_some_iff.mp h
 rw[List.getD_eq_getElem?_getD,e];rfl
theorem EV (hc:X.calm=true):dQ X (.builtin "all") wf:=fun z s ps us r E hz d q=>by
 unfold wf at q
 split at q
 ·obtain⟨ps,e1,q⟩:=Option.bind_eq_some_iff.mp q
  obtain⟨bs,e2,rfl⟩:=Option.map_eq_some_iff.mp q
  obtain⟨u,rfl,du⟩:=d.one
  obtain⟨p,its,n,rfl,_,e1,zl,ds⟩:=D1.lst du.1 e1
  have ei:=wA ds e2
  subst ei
  have pl:=bJ e1
  refine call_all_walk (wpAny_pyIter_list pl ?_)
  refine⟨s.heap.objs.size,_,_,_,_,_,fun i=>bs.getD i false,rfl,Walks.list (A:=X.A.in1) (hz.I.ok.hd hc) s.heap.objs.size p (i6 e1) (bs.map Value.bool).toArray,⟨⟨_,Heap.get?_push_size _ rfl,rfl,rfl⟩,⟨_,Heap.get?_push_of_some _ e1,rfl,n,rfl⟩⟩,fun i v s' Q' E' hP hQ=>?_,fun h' tk hk=>?_⟩
  ·rw[BA hP];exact wpAny_truthy_bool hQ
  ·rw[List.size_toArray,List.length_map,BV]
   exact⟨hz.kept fun b o' e=>hk b o' (fun z=>i6 e (List.mem_singleton.mp z)) (Heap.get?_push_of_some _ e),rfl⟩
 ·cases q
theorem E3 (hc:X.calm=true):dQ X (.builtin "any") BT:=fun z s ps us r E hz d q=>by
 unfold BT at q
 split at q
 ·obtain⟨ps,e1,q⟩:=Option.bind_eq_some_iff.mp q
  obtain⟨bs,e2,rfl⟩:=Option.map_eq_some_iff.mp q
  obtain⟨u,rfl,du⟩:=d.one
  obtain⟨p,its,n,rfl,_,e1,zl,ds⟩:=D1.lst du.1 e1
  have ei:=wA ds e2
  subst ei
  have pl:=bJ e1
  refine call_any_walk (wpAny_pyIter_list pl ?_)
  refine⟨s.heap.objs.size,_,_,_,_,_,fun i=>bs.getD i false,rfl,Walks.list (A:=X.A.in1) (hz.I.ok.hd hc) s.heap.objs.size p (i6 e1) (bs.map Value.bool).toArray,⟨⟨_,Heap.get?_push_size _ rfl,rfl,rfl⟩,⟨_,Heap.get?_push_of_some _ e1,rfl,n,rfl⟩⟩,fun i v s' Q' E' hP hQ=>?_,fun h' tk hk=>?_⟩
  ·rw[BA hP];exact wpAny_truthy_bool hQ
  ·rw[List.size_toArray,List.length_map,Cs]
   exact⟨hz.kept fun b o' e=>hk b o' (fun z=>i6 e (List.mem_singleton.mp z)) (Heap.get?_push_of_some _ e),rfl⟩
 ·cases q
noncomputable def Hq (n:String):PV->Option Bool
 |.non=>some false
 |.bl _=>some (n == "bool" || n == "int")
 |.int _=>some (n == "int")
 |.str _=>some (n == "str")
 |.tup _=>some (n == "tuple")
 |.lst _=>some (n == "list")
 |.dct _ _=>some (n == "dict")
 |_=>none
noncomputable def pV:List PV->Option RV
 |[p,.ty n]=>if n = "int"\/n = "bool"\/n = "str"\/n = "tuple"\/n = "list"\/n = "dict" then (Hq n p).map fun b=>.fz (.bl b) else none
 |_=>none
theorem GN:dQ X (.builtin "isinstance") pV:=fun z s ps us r E hz d q=>by
 unfold pV at q
 split at q
 ·next p n=>
  split at q
  ·next hn=>
   obtain⟨b,e,rfl⟩:=Option.map_eq_some_iff.mp q
   obtain⟨u,v,rfl,du,dv⟩:=d.two
   cases (show v=Value.type n from dv.1)
   have kin:=hz.I.kIn
   have fin:∀tk,Z.post z s (.fz (.bl b)) (.bool b) { s with toks:=tk }:=fun tk=>⟨hz.tok _,rfl⟩
   cases p with
   |non=>cases (show u=_ from du.1);exact PySem.W.kia_one (K:=X.K) PySem.W.kitx_none kin True.intro (by rcases hn with rfl|rfl|rfl|rfl|rfl|rfl<;>exact e) (fun z=>nomatch z) fin
   |bl x=>cases (show u=_ from du.1);exact PySem.W.kia_one (K:=X.K) PySem.W.kitx_bool kin True.intro (by rcases hn with rfl|rfl|rfl|rfl|rfl|rfl<;>exact e) (fun z=>nomatch z) fin
   |int x=>obtain⟨⟨t,rfl⟩,_⟩:=du;exact PySem.W.kia_one (K:=X.K) PySem.W.kitx_int kin True.intro (by rcases hn with rfl|rfl|rfl|rfl|rfl|rfl<;>exact e) (fun z=>nomatch z) fin
   |str x=>obtain⟨⟨t,rfl⟩,_⟩:=du;exact PySem.W.kia_one (K:=X.K) PySem.W.kitx_str kin True.intro (by rcases hn with rfl|rfl|rfl|rfl|rfl|rfl<;>exact e) (fun z=>nomatch z) fin
   |lst x=>obtain⟨⟨a,its,m,rfl,_,h1,_⟩,_⟩:=du;exact PySem.W.kia_one (K:=X.K) PySem.W.kitx_list kin ⟨_,h1,rfl⟩ (by rcases hn with rfl|rfl|rfl|rfl|rfl|rfl<;>exact e) (fun z=>nomatch z) fin
   |tup x=>obtain⟨⟨a,its,rfl,_,⟨o,h1,h2,_⟩,_⟩,_⟩:=du;exact PySem.W.kia_one (K:=X.K) PySem.W.kitx_tuple kin ⟨o,h1,h2⟩ (by rcases hn with rfl|rfl|rfl|rfl|rfl|rfl<;>exact e) (fun z=>nomatch z) fin
   |dct x y=>obtain⟨⟨a,kus,rfl,_,_,⟨o,es,ep,h1,h2,_⟩,_⟩,_⟩:=du;exact PySem.W.kia_one (K:=X.K) PySem.W.kitx_dict kin ⟨o,h1,h2.1⟩ (by rcases hn with rfl|rfl|rfl|rfl|rfl|rfl<;>exact e) (fun z=>nomatch z) fin
   |_=>cases e
  ·cases q
 ·cases q
noncomputable def ni (lo:Int)(n:Nat):List PV:=(List.range n).map fun i:Nat=>PV.int (lo+i)
theorem jP (lo:Int)(n:Nat):(ni lo n).length=n:=by unfold ni;simp
noncomputable def se:List PV->Option RV
 |[.int j]=>if -(2 ^ 62)≤j/\j<2 ^ 62 then some (.fz (.rng 0 j)) else none
 |_=>none
theorem Ft:dQ X (.type "range") se:=fun z s ps us r E hz d q=>by
 unfold se at q
 split at q
 ·split at q
  ·next h=>
   cases q
   obtain⟨u,rfl,⟨t,rfl⟩,_⟩:=d.one
   exact call_range_1 ⟨hz.push _ _,_,_,_,_,rfl,hz.free (Heap.get?_none_of_le (Nat.le_refl _)),Heap.get?_push_size _ rfl⟩
  ·cases q
 ·cases q
theorem yB {c:Cn}{h:Heap}{n:Nat}{acc:Array Value}(hi:ItemsOf (fun i v=>∃t,v=.int ((0:Int)+i * 1) t) acc n):Ds c h (ni 0 n) acc.toList:=by
 obtain⟨hs,hi⟩:=hi
 refine Ds.of (by rw[jP];simpa using hs) fun i p u h1 h2=>?_
 unfold ni at h1
 rw[List.getElem?_map] at h1
 obtain⟨k,e,rfl⟩:=Option.map_eq_some_iff.mp h1
 obtain⟨hk,e⟩:=List.getElem?_eq_some_iff.mp e
 rw[List.getElem_range] at e
 subst e
 obtain⟨t,e⟩:=hi i u (by simpa using h2)
 exact⟨t,by rw[e,Int.mul_one]⟩
noncomputable def qC:List PV->Option RV
 |[.lst ps]=>some (.fz (.tup ps))
 |[.tup ps]=>some (.fz (.tup ps))
 |[.src ps]=>some (.fz (.tup ps))
 |_=>none
theorem xj {z:Z X}{s:Shared}{ps:List PV}{u:Value}{E:Value->Shared->Prop}(hz:z.ok s)(d:Rd z.cn s.heap (.lst ps) u):W X (call (.type "tuple") [u]) (Z.post z s (.fz (.tup ps))) E s:=by
 obtain⟨p,its,n,rfl,_,e1,zl,ds⟩:=d
 refine call_tuple_list (bJ e1) (fun h' kp=>?_) (by simp only[List.size_toArray];omega)
 have g:=hz.kept (t:=s.toks) kp
 exact g.post (Z.ok.newT g.1 (ds.mono g.2.kpD) zl s.toks)
theorem Fq:dQ X (.type "tuple") qC:=fun z s ps us r E hz d q=>by
 unfold qC at q
 split at q
 ·cases q;obtain⟨u,rfl,du⟩:=d.one;exact xj hz du.1
 ·cases q;obtain⟨u,rfl,du⟩:=d.one
  have d':=du.2 rfl
  obtain⟨a,its,rfl,o,pl,_⟩:=du.2 rfl
  exact call_tuple_same pl ⟨hz.refl,d'⟩
 ·cases q;obtain⟨u,rfl,du⟩:=d.one;exact xj hz du.1
 ·cases q
noncomputable def mi:List PV->Option RV
 |[.rng lo j]=>if lo=0/\0≤j/\j≤1000000 then some (.nw (ni 0 j.toNat)) else none
 |[p]=>(items p).map .nw
 |_=>none
theorem CI (hc:X.calm=true):dQ X (.type "list") mi:=fun z s ps us r E hz d q=>by
 have zl:=qw
 unfold mi at q
 split at q
 ·next lo j=>
  split at q
  ·next h=>
   cases q
   obtain⟨rfl,h1,h2⟩:=h
   obtain⟨u,rfl,⟨a,t1,t2,t3,rfl,_,e⟩,_⟩:=d.one
   refine call_list_range (hz.I.ok.hd hc) (r:=a) (a:=0) (b:=j) (c:=1) (n:=j.toNat) e (small_one (by omega) (by omega) (by omega) (by omega)) (by rw[rangeSize_one];split<;>omega) (by omega) fun h' tk acc' c' hk hS hacc=>?_
   have dd:=yB (c:=z.cn) (h:=s.heap) hacc
   refine Z.ok.newL hz dd (by rw[dd.length,jP];omega) hk (n:=c') ?_
   simpa [eS] using hS
  ·cases q
 ·obtain⟨ps,e1,rfl⟩:=Option.map_eq_some_iff.mp q
  obtain⟨u,rfl,du⟩:=d.one
  obtain⟨a,its,rfl,_,zl,ds,h⟩:=D1.items du.1 e1
  have fin:∀(h':Heap) (c':Nat),(∀b o',s.heap.get? b=some o'->h'.get? b=some o')->h'.get? s.heap.objs.size=some { cls:=.type "list",dict:=none,data:=.seq its.toArray c',slots:=#[] }->Z.post z s (.nw ps) (.ref s.heap.objs.size) { s with heap:=h' }:=fun h' c' kp e=>
   Z.ok.newL hz ds zl kp (t:=s.toks) (n:=c') e
  rcases h with ⟨o,ho,hc,n,hd⟩|⟨n,e⟩
  ·exact call_list_seq a (.inr rfl) ho hc hd fin (by simp only[List.size_toArray]<;>omega)
  ·exact call_list_seq a (.inl rfl) e rfl rfl fin (by simp only[List.size_toArray]<;>omega)
 ·cases q
noncomputable def yF:List PV->Option RV
 |[.rng lo j]=>if lo=0/\0≤j/\j≤1000000 then some (.fz (.tup (ni 0 j.toNat))) else none
 |_=>none
theorem Da (hc:X.calm=true):dQ X (.type "tuple") yF:=fun z s ps us r E hz d q=>by
 have zl:=qw
 unfold yF at q
 split at q
 ·next lo j=>
  split at q
  ·next h=>
   cases q
   obtain⟨rfl,h1,h2⟩:=h
   obtain⟨u,rfl,⟨a,t1,t2,t3,rfl,_,e⟩,_⟩:=d.one
   refine callType_new F.called_tuple (by decide) (F.typeCall_tuple_1 _) (F.newCall_tuple_1 _) (fun obj=>F.args_object_init_2 obj _) F.entry_tuple_new
    (nh a (a:=0) (b:=j) (c:=1) (n:=j.toNat) (small_one (by omega) (by omega) (by omega) (by omega)) (by rw[rangeSize_one];split<;>omega) (by omega)) ⟨⟨hz.I.ok.hd hc,e⟩,fun h' tk acc hk hacc=>⟨⟨_,Heap.get?_push_size _ rfl,rfl⟩,?_⟩⟩
   have g:=hz.kept (t:=tk) hk
   have dd:=yB (c:=z.cn) (h:=h') hacc
   have:=Z.ok.newT g.1 dd (by rw[dd.length,jP];omega) tk
   exact g.post (by simpa using this)
  ·cases q
 ·cases q
noncomputable def gD:List PV->Option (List Int)
 |[]=>some []
 |.int i::ps=>(gD ps).map fun is=>i::is
 |_=>none
theorem o9 {c:Cn}{h:Heap}{ps:List PV}:∀{us:List Value} {is:List Int},Ds c h ps us->gD ps=some is->IntsAre us is:=by
 induction ps with
 |nil=>intro us bs d e;cases e;rw[show us=[] from d];exact .nil
 |cons p ps ih=>
  intro us bs d q
  obtain⟨u,r,e,d,t⟩:=d
  cases p with
  |int b=>
   obtain⟨bs',e',rfl⟩:=Option.map_eq_some_iff.mp q
   obtain⟨k,rfl⟩:=d
   subst e
   exact .cons b k (ih t e')
  |_=>cases q
theorem uM {c:Cn}{h:Heap}{us:List Value}{is:List Int}(d:IntsAre us is):Ds c h (is.map PV.int) us:=by
 induction d with
 |nil=>rfl
 |cons n t _ ih=>exact .cons ⟨t,rfl⟩ ih
noncomputable def vY:List Int->Int
 |[]=>0
 |[i]=>i
 |i::j::l=>max i (vY (j::l))
noncomputable def nj:List Int->Int
 |[]=>0
 |[i]=>i
 |i::j::l=>min i (nj (j::l))
theorem tW:∀{is:List Int},0<is.length->vY is∈is/\∀a∈is,a≤vY is
 |[i],_=>⟨List.mem_singleton.mpr rfl,fun a h=>by rw[List.mem_singleton.mp h];exact Int.le_refl _⟩
 |i::j::l,_=>by
  obtain⟨h1,h2⟩:=tW (is:=j::l) (by simp)
  rw[vY]
  refine⟨?_,fun a ha=>?_⟩
  ·by_cases hm:i≤vY (j::l)
   ·rw[Int.max_eq_right hm];exact List.mem_cons_of_mem _ h1
   ·rw[Int.max_eq_left (by omega)];exact List.mem_cons_self
  ·rcases List.mem_cons.mp ha with rfl|ha
   ·exact Int.le_max_left _ _
   ·exact Int.le_trans (h2 a ha) (Int.le_max_right _ _)
theorem pL:∀{is:List Int},0<is.length->nj is∈is/\∀a∈is,nj is≤a
 |[i],_=>⟨List.mem_singleton.mpr rfl,fun a h=>by rw[List.mem_singleton.mp h];exact Int.le_refl _⟩
 |i::j::l,_=>by
  obtain⟨h1,h2⟩:=pL (is:=j::l) (by simp)
  rw[nj]
  refine⟨?_,fun a ha=>?_⟩
  ·by_cases hm:nj (j::l)≤i
   ·rw[Int.min_eq_right hm];exact List.mem_cons_of_mem _ h1
   ·rw[Int.min_eq_left (by omega)];exact List.mem_cons_self
  ·rcases List.mem_cons.mp ha with rfl|ha
   ·exact Int.min_le_left _ _
   ·exact Int.le_trans (Int.min_le_right _ _) (h2 a ha)
noncomputable def pN {α:Type}(g:List Int->Option α):List PV->Option α
 |[p]=>(ka p).bind fun ps=>(gD ps).bind g
 |_=>none
noncomputable def kL (g:List Int->Int):List PV->Option RV:=pN fun is=>if is.length=0 then none else some (.fz (.int (g is)))
noncomputable def AO:=kL vY
noncomputable def u7:=kL nj
theorem Rvs.ints {z:Z X}{h:Heap}{ps:List PV}{us:List Value}(d:Rvs z h ps us){α:Type}{g:List Int->Option α}{r:α}(q:pN g ps=some r):∃p ys is,us=[.ref p]/\h.IsList p (intItems ys)/\is=ys.toList.map (·.1)/\g is=some r:=by
 unfold pN at q
 split at q
 ·obtain⟨ps,e1,q⟩:=Option.bind_eq_some_iff.mp q
  obtain⟨is,e2,q⟩:=Option.bind_eq_some_iff.mp q
  obtain⟨u,rfl,du⟩:=d.one
  obtain⟨p,its,n,rfl,_,e1,zl,ds⟩:=D1.lst du.1 e1
  have hi:=o9 ds e2
  obtain⟨ys,e⟩:=hi.allInts.items
  have hl:=bJ e1
  rw[e] at hl
  exact⟨p,ys,is,rfl,hl,by rw[←hi.numsOf,←nums_intItems,←e],q⟩
 ·cases q
theorem EB (hc:X.calm=true):dQ X (.builtin "max") AO:=fun z s ps us r E hz d q=>by
 obtain⟨p,ys,is,rfl,hl,hns,q⟩:=d.ints q
 split at q
 ·cases q
 ·next hne=>
  cases q
  have hsz:0<ys.size:=by rw[hns,List.length_map,Array.length_toList] at hne;omega
  refine max_intList (hz.I.ok.hd hc) hl hsz fun v h' tk hv hk=>?_
  obtain⟨t,rfl⟩:=intItems_at hv
  obtain⟨h1,h2⟩:=argBest_gt (numAt ys) (ys.size - 1)
  refine⟨hz.kept hk,t,?_⟩
  congr 1
  obtain⟨m1,m2⟩:=tW (is:=is) (by omega)
  refine Int.le_antisymm (m2 _ ?_) ?_
  ·rw[hns,numAt_eq];exact getD_mem (by rw[List.length_map,Array.length_toList];omega)
  ·have m3:=m1
   rw[hns] at m3
   obtain⟨j,hj,e⟩:=mem_getD m3
   rw[List.length_map,Array.length_toList] at hj
   rw[hns,←e,←numAt_eq];exact h2 j (by omega)
theorem EN (hc:X.calm=true):dQ X (.builtin "min") u7:=fun z s ps us r E hz d q=>by
 obtain⟨p,ys,is,rfl,hl,hns,q⟩:=d.ints q
 split at q
 ·cases q
 ·next hne=>
  cases q
  have hsz:0<ys.size:=by rw[hns,List.length_map,Array.length_toList] at hne;omega
  refine min_intList (hz.I.ok.hd hc) hl hsz fun v h' tk hv hk=>?_
  obtain⟨t,rfl⟩:=intItems_at hv
  obtain⟨h1,h2⟩:=argBest_lt (numAt ys) (ys.size - 1)
  refine⟨hz.kept hk,t,?_⟩
  congr 1
  obtain⟨m1,m2⟩:=pL (is:=is) (by omega)
  refine Int.le_antisymm ?_ (m2 _ ?_)
  ·have m3:=m1
   rw[hns] at m3
   obtain⟨j,hj,e⟩:=mem_getD m3
   rw[List.length_map,Array.length_toList] at hj
   rw[hns,←e,←numAt_eq];exact h2 j (by omega)
  ·rw[hns,numAt_eq];exact getD_mem (by rw[List.length_map,Array.length_toList];omega)
noncomputable def Aq:List PV->Option RV:=pN fun is=>some (.fz (.int is.sum))
theorem Fh (hc:X.calm=true):dQ X (.builtin "sum") Aq:=fun z s ps us r E hz d q=>by
 obtain⟨p,ys,is,rfl,hl,hns,q⟩:=d.ints q
 cases q
 refine sum_intListG (hz.I.ok.hd hc) hl fun h' tk t' hk=>⟨hz.kept hk,t',?_⟩
 rw[preSum_eq,List.take_of_length_le (by simp),hns]
end
end Dp
end
section
namespace Dp
open PySem PySem.Spec L2 PyProof.Rows PySem.W
section
variable {X:Cx}
theorem Inv.led {pins:List (Addr×Obj)}{σ:L2.St}{H:Hp}{s:Shared}{h':Heap}{m:Str->Option Value}(I:Inv X pins σ H s)(F0:Fr X.base X.env.locals s.heap m)(F:Fr X.base X.env.locals h' m)
  (kept:∀b o,b≠X.env.locals->s.heap.get? b=some o->h'.get? b=some o):Inv X pins σ H { s with heap:=h' }:=by
 have neL:∀b o,H b=some o->b≠X.env.locals:=fun b o e z=>by subst z;rw[I.free] at e;cases e
 refine I.step (g':=s.gens) (t':=s.toks) (d':=s.drawn) (ch:=[]) (fun _ z=>nomatch z) (fun b o hL _ _ e _=>kept b o hL e) (fun b o hL _ _ e _=>⟨o.slots,kept b o hL e⟩) (fun b o _ e n=>n) (fun b o _ e=>?_)
  (fun b xs e=>e) (fun b o u e=>e) (fun b ps e=>⟨#[],by rw[e];simp⟩) (fun m1 hm=>?_) (fun b o e=>?_) I.bare
 ·by_cases hb:b=X.env.locals
  ·subst hb
   obtain⟨o',_,_,z,_⟩:=F.ns
   exact⟨o',z⟩
  ·exact⟨o,kept b o hb e⟩
 ·rw[Dc hm F0.ns];exact F.ns
 ·refine (I.hok b o e).stay (fun d u hc q=>kept d u ?_ q) (fun d z=>z) fun d xs z=>z
  rcases hc with z|z
  ·rw[z];exact neL b _ e
  ·exact neL d _ z
theorem Z.ok.led {z:Z X}{s:Shared}{h':Heap}{m:Str->Option Value}(hz:z.ok s)(F0:Fr X.base X.env.locals s.heap m)(F:Fr X.base X.env.locals h' m)(kept:∀b o,b≠X.env.locals->s.heap.get? b=some o->h'.get? b=some o):z.go s { s with heap:=h' }:=
 Z.ok.ext hz (Inv.led hz.I F0 F kept) ⟨fun a o n e=>kept a o (fun q=>n (q▸hz.loc)) e,fun a o e=>by
  by_cases hb:a=X.env.locals
  ·subst hb
   obtain⟨o',_,_,z,_⟩:=F.ns
   exact⟨o',z⟩
  ·exact⟨o,kept a o hb e⟩⟩
noncomputable def su:List PV->Option (List (List Int))
 |[]=>some []
 |.tup qs::ps=>(gD qs).bind fun is=>if is.isEmpty then none else (su ps).map fun ks=>is::ks
 |_=>none
inductive Kys (h:Heap):List (List Int)->List Value->Prop where
 |nil:Kys h [] []
 |cons {a:Addr} {is:List Int} {vs us:List Value} {ks:List (List Int)}:IsTup h a vs.toArray->IntsAre vs is->is≠[]->Kys h ks us->Kys h (is::ks) (.ref a::us)
theorem zR {c:Cn}{h:Heap}{ps:List PV}:∀{us:List Value} {ks:List (List Int)},Ds c h ps us->su ps=some ks->Kys h ks us:=by
 induction ps with
 |nil=>intro us ks d e;cases e;rw[show us=[] from d];exact .nil
 |cons p ps ih=>
  intro us ks d q
  obtain⟨u,r,e,d,t⟩:=d
  cases p with
  |tup qs=>
   obtain⟨is,e1,q⟩:=Option.bind_eq_some_iff.mp q
   split at q
   ·cases q
   ·next hne=>
    obtain⟨ks',e2,rfl⟩:=Option.map_eq_some_iff.mp q
    obtain⟨a,its,rfl,_,pl,_,ds⟩:=d
    subst e
    exact .cons pl (o9 ds e1) (fun z=>hne (by rw[z];rfl)) (ih t e2)
  |_=>cases q
theorem Kys.length {h:Heap}{ks:List (List Int)}{us:List Value}(k:Kys h ks us):ks.length=us.length:=by
 induction k with
 |nil=>rfl
 |cons _ _ _ _ ih=>rw[List.length_cons,List.length_cons,ih]
theorem Kys.get {h:Heap}{ks:List (List Int)}{us:List Value}(k:Kys h ks us):∀{i:Nat},i<us.length->∃a vs,us.getD i Value.none=.ref a/\IsTup h a vs.toArray/\IntsAre vs (ks.getD i []):=by
 induction k with
 |nil=>intro i hi;exact absurd hi (Nat.not_lt_zero _)
 | @cons a is vs us ks h1 h2 h3 h4 ih=>
  intro i hi
  cases i with
  |zero=>exact⟨a,vs,rfl,h1,h2⟩
  |succ i=>exact ih (by simpa using hi)
theorem Kys.tups {h h':Heap}{L:Addr}{ks:List (List Int)}{us:List Value}(k:Kys h ks us)(nl:∀a items,IsTup h a items->a≠L)(kept:∀b o,b≠L->h.get? b=some o->h'.get? b=some o):∃fs:List Value,KatTups h' us fs/\fs.length=us.length/\∀v∈fs,∃i t,v=Value.int i t:=by
 induction k with
 |nil=>exact⟨[],KatTups.nil,rfl,fun _ z=>nomatch z⟩
 | @cons a is vs us ks h1 h2 h3 h4 ih=>
  obtain⟨fs,f1,f2,f3⟩:=ih
  have hl:=nl _ _ h1
  obtain⟨o,eo,ec,n,ed⟩:=h1
  cases h2 with
  |nil=>exact absurd rfl h3
  |cons i tk q=>
   refine⟨.int i tk::fs,KatTups.cons (kept a o hl eo) ec ed rfl f1,by rw[List.length_cons,List.length_cons,f2],fun v hv=>?_⟩
   rcases List.mem_cons.mp hv with rfl|hv
   ·exact⟨i,tk,rfl⟩
   ·exact f3 v hv
theorem yT {prog:Program}{w:World}{A:Around}{fin:Bool}{C:Bool->Shared->Prop}{s':Shared}{xs ys:List Int}{us vs:List Value}{k:Nat}(r1:IntsAre us xs)(r2:IntsAre vs ys)(h:C (yX fin (xs.zip ys)) s'):KatLex prog w A true fin C (us.zip vs) k s':=
 wn (j0 r1) (j0 r2) h
theorem yS {c:Cn}{h:Heap}{ps:List PV}{us:List Value}(d:Ds c h ps us):∀{q:List Nat},(∀i∈q,i<us.length)->Ds c h (q.map fun i=>ps.getD i .non) (q.map fun i=>us.getD i Value.none)
 |[],_=>rfl
 |i::q,hq=>by
  have hi:=hq i List.mem_cons_self
  have hl:=d.length
  obtain⟨u,e1,e2⟩:=d.get (i:=i) (p:=ps.getD i .non) (by rw[List.getD_eq_getElem?_getD,List.getElem?_eq_getElem (by omega)];rfl)
  refine .cons ?_ (yS d fun j hj=>hq j (List.mem_cons_of_mem _ hj))
  show D c h (ps.getD i .non) (us.getD i Value.none)
  rw[List.getD_eq_getElem?_getD (l:=us),e1]
  exact e2
noncomputable def o3:List PV->Option RV
 |[p]=>(ka p).bind fun ps=>(su ps).bind fun ks=>if ps.length<64 then some (.nw ((wM ks).map fun i=>ps.getD i .non)) else none
 |_=>none
theorem sr {z:Z X}{s:Shared}(hz:z.ok s){a:Addr}{items:Array Value}(h:IsTup s.heap a items):a≠X.env.locals:=fun q=>by
 obtain⟨o,e,_,n,d⟩:=h
 obtain⟨m,⟨o',es,ep,e',d',_⟩,_⟩:=hz.I.loc
 rw[q,e'] at e;cases e;rw[d'] at d;cases d
theorem yK:dQ X (.builtin "sorted") o3:=fun z s ps us r E hz d q=>by
 unfold o3 at q
 split at q
 ·obtain⟨ts,e1,q⟩:=Option.bind_eq_some_iff.mp q
  obtain⟨ks,e2,q⟩:=Option.bind_eq_some_iff.mp q
  split at q
  ·next h64=>
   cases q
   obtain⟨u,rfl,du⟩:=d.one
   obtain⟨p,its,n,rfl,_,e1,zl,ds⟩:=D1.lst du.1 e1
   have pl:=bJ e1
   have ky:=zR ds e2
   have hk:=ky.length
   have hl:=ds.length
   by_cases h2:its.length<2
   ·refine oO pl h2 ?_
    obtain⟨e,he⟩:=sortedAll_at s.heap its its.toArray
    have es:(wM ks).map (fun i=>ts.getD i .non)=ts:=by
     unfold wM
     rw[if_pos (by omega),hk,hl]
     exact mL _ _
    rw[es]
    have g:=hz.kept (h':=sortedAll s.heap its its.toArray) (t:=s.toks) fun b o z=>sortedAll_old z
    have nn:=Heap.get?_none_of_le (h:=s.heap) (a:=s.heap.objs.size+1) (Nat.le_succ _)
    exact⟨g,_,rfl,nn,hz.free nn,its,e,he,zl,(ds.mono (rV nn)).mono ⟨rfl,rfl,rfl,fun b o q e=>⟨q,sortedAll_old e⟩⟩⟩
   ·obtain⟨m,F0⟩:=hz.I.fr
    refine kat_sorted F0 wD pl (by omega) (by omega) fun D e1 h' F' N' hlt=>?_
    have nD:=N' (D,seqObj "list" #[] e1) List.mem_cons_self
    have hD:s.heap.get? D=none:=by
     cases e:s.heap.get? D with
     |none=>rfl
     |some o=>exact absurd (hlt (D,o) (kP nD.2.1 nD.2.2 e)) (Nat.lt_irrefl _)
    have kp:∀(h'':Heap) (x:Addr×Obj) (F:Fr X.base X.env.locals h'' m) (N:News X.base X.env.locals h'' (x::j6 X.base s.heap X.env.locals)),∀b o,b≠X.env.locals->s.heap.get? b=some o->h''.get? b=some o:=fun h'' x F N b o hb e=>by
     cases z:X.base.get? b with
     |some v=>
      have y:=hz.I.bk b v z
      rw[e] at y;cases y
      exact F.keep b _ z
     |none=>exact (N (b,o) (List.mem_cons_of_mem _ (kP hb z e))).1
    have kept:=kp h' _ F' N'
    obtain⟨fs,k1,k2,k3⟩:=ky.tups (fun a items h=>sr hz h) kept
    refine kat_kind (s:={ s with heap:=h' }) k1 (by omega) (T:=.type "int") (fun v hv=>?_) (by decide) ?_
    ·obtain⟨i,t,rfl⟩:=k3 v hv
     exact Looks.of_pure rfl
    ·refine yA (n:=its.length) (P:=OfN its.length) (fun i j=>FH (ks.getD i []) (ks.getD j [])) (fun i j C hi hj hC=>?_) (vK (by omega)) (fun hpm=>?_)
     ·obtain⟨a,vs,g1,g2,r1⟩:=ky.get hi
      obtain⟨a',vs',g1',g2',r1'⟩:=ky.get hj
      have nl1:=sr hz g2
      have nl2:=sr hz g2'
      obtain⟨o,eo,ec,n1,ed⟩:=g2
      obtain⟨o',eo',ec',n1',ed'⟩:=g2'
      show wpAny (model X.prog X.w) X.A.in1.in1 (keyLt' (tuples' (Value.type "int" != Value.type "tuple")) (its.getD i Value.none) (its.getD j Value.none)) C (fun _ _=>False) _
      rw[g1,g1',show (Value.type "int" != Value.type "tuple")=true by decide]
      refine kat_lt (kept _ _ nl1 eo) ed (kept _ _ nl2 eo') ed' (yT r1 r1' ?_)
      rw[List.size_toArray,List.size_toArray,r1.length,r1'.length]
      exact hC
     ·have eo:wM ks=(vz (fun i j=>FH (ks.getD i []) (ks.getD j [])) (kas_sort its.length)).toList:=by
       unfold wM
       rw[if_neg (by omega),hk]
      generalize hpme:vz (fun i j=>FH (ks.getD i []) (ks.getD j [])) (kas_sort its.length)=pm at hpm eo ⊢
      have hmem:∀i∈pm.toList,i<its.length:=fun i hi=>List.mem_range.mp (hpm.subset hi)
      refine KasFin.intro F' N' (.head fun _ z=>?_) fun h'' c F'' N''=>?_
      ·exact Nat.ne_of_lt (hlt _ z)
      ·have kept2:=kp h'' _ F'' N''
       have g:=Z.ok.led hz F0 F'' kept2
       rw[eo]
       refine⟨g,D,rfl,hD,hz.free hD,_,c,(N'' (D,_) List.mem_cons_self).1,?_,((yS ds hmem).mono (rV hD)).mono g.2.kpD⟩
       have:=hpm.length_eq
       rw[List.length_map,this,List.length_range]
       exact zl
  ·cases q
 ·cases q
noncomputable def rY:List PV->Option RV
 |[p]=>(items p).bind fun ps=>(gD ps).bind fun is=>if is.length<64 then some (.nw ((yN is).map PV.int)) else none
 |_=>none
theorem Aa:dQ X (.builtin "sorted") rY:=fun z s ps us r E hz d q=>by
 unfold rY at q
 split at q
 ·obtain⟨ts,e1,q⟩:=Option.bind_eq_some_iff.mp q
  obtain⟨is,e2,q⟩:=Option.bind_eq_some_iff.mp q
  split at q
  ·next h64=>
   cases q
   obtain⟨u,rfl,du⟩:=d.one
   obtain⟨a,its,rfl,_,zl,ds,h⟩:=D1.items du.1 e1
   have hi:=o9 ds e2
   have hl:=hi.length
   have main:∀(T:String) (o:Obj) (n:Nat),(T = "list"\/T = "tuple")->s.heap.get? a=some o->o.cls=.type T->o.data=.seq its.toArray n->W X (call (.builtin "sorted") [.ref a]) (Z.post z s (.nw ((yN is).map PV.int))) E s:=fun T o n hT ho hc hd=>by
    refine sA hT ho hc hd hi (by omega) fun h1 h' D out js e k1 k2 hD hh hi hp hu=>?_
    rw[zL hp hu] at hi
    have g:=hz.kept (t:=s.toks) fun b u e=>k2 b u (k1 b u e)
    have nn:s.heap.get? D=none:=by
     cases q:s.heap.get? D with
     |none=>rfl
     |some o=>exact absurd (Heap.lt_size (k1 _ _ q)) (Nat.not_lt.mpr hD)
    refine⟨g,D,rfl,nn,hz.free nn,out,e,hh,?_,uM hi⟩
    rw[hi.length,(n5 is).length_eq,sizeLine_eq];omega
   rcases h with ⟨o,ho,hc,n,hd⟩|⟨n,e⟩
   ·exact main "tuple" o n (.inr rfl) ho hc hd
   ·exact main "list" _ n (.inl rfl) e rfl rfl
  ·cases q
 ·cases q
end
end Dp
end
section
namespace Dp
open PySem PySem.Spec L2 PyProof.Rows
inductive Out where
 |nx (ρ:aK)|bk (ρ:aK)|ct (ρ:aK)|rt (p:PV) (ρ:aK)|rn (ps:List PV) (ρ:aK)|bad
noncomputable abbrev FS:=aK->Out
structure Stp (bad:Addr->Prop)(H H':Hp)(h h':Heap):Prop where
 kp:∀a o,¬bad a->H a=none->h.get? a=some o->h'.get? a=some o/\H' a=none
 th:∀a o,h.get? a=some o->∃o',h'.get? a=some o'
section
variable {X:Cx}{z:Z X}{s s' s1 s2:Shared}{h h' h1 h2:Heap}{bad:Addr->Prop}{H H1 H2:Hp}
theorem Ext.stp (e:Ext bad h h'):Stp bad H H h h':=⟨fun a o n q g=>⟨e.kp a o n g,q⟩,e.th⟩
theorem Stp.trans (a:Stp bad H H1 h h1)(b:Stp bad H1 H2 h1 h2):Stp bad H H2 h h2:=
 ⟨fun x o n q g=>b.kp x o n (a.kp x o n q g).2 (a.kp x o n q g).1,fun x o g=>let ⟨o',q⟩:=a.th x o g;b.th x o' q⟩
theorem Stp.kpD (e:Stp bad H H1 h h'):Kp (bV X bad H) (bV X bad H1) h h':=⟨rfl,rfl,rfl,fun a o q g=>⟨⟨(e.kp a o q.2 q.1 g).2,q.2⟩,(e.kp a o q.2 q.1 g).1⟩⟩
noncomputable abbrev Z.wi (z:Z X)(σ:L2.St)(H:Hp)(ρ:aK):Z X:=⟨z.bad,z.pins,σ,H,ρ⟩
noncomputable def Z.to (z:Z X)(s:Shared)(ρ:aK)(s':Shared):Prop:=∃σ' H',(z.wi σ' H' ρ).ok s'/\Stp z.bad z.H H' s.heap s'.heap
theorem Z.go.to (g:z.go s s'):z.to s z.ρ s':=⟨z.σ,z.H,g.1,g.2.stp⟩
noncomputable def Z.sp (z:Z X)(s:Shared)(o:Out)(fl:Flow)(s':Shared):Prop:=match o with
 |.nx ρ=>fl=.next/\z.to s ρ s'
 |.bk ρ=>fl=.brk/\z.to s ρ s'
 |.ct ρ=>fl=.cont/\z.to s ρ s'
 |.rt p ρ=>∃u σ' H',fl=.ret u/\(z.wi σ' H' ρ).ok s'/\Stp z.bad z.H H' s.heap s'.heap/\D (bV X z.bad H') s'.heap p u
 |.rn ps ρ=>∃a σ' H',fl=.ret (.ref a)/\(z.wi σ' H' ρ).ok s'/\Stp z.bad z.H H' s.heap s'.heap/\X.s₀.heap.get? a=none/\¬z.bad a/\ListAt (bV X z.bad (eV H' a bz)) s'.heap a ps
 |.bad=>False
noncomputable def NS (X:Cx)(st:Stmt)(f:FS):Prop:=∀(z:Z X) s E,z.ok s->f z.ρ≠.bad->W X (exec st X.env) (Z.sp z s (f z.ρ)) E s
noncomputable def wY (X:Cx)(st:List Stmt)(f:FS):Prop:=∀(z:Z X) s E,z.ok s->f z.ρ≠.bad->W X (execs st X.env) (Z.sp z s (f z.ρ)) E s
theorem Z.sp.back {o:Out}{fl:Flow}{σ1:L2.St}{H1:Hp}{ρ1:aK}(t:Stp z.bad z.H H1 s.heap s1.heap)(h:(z.wi σ1 H1 ρ1).sp s1 o fl s'):z.sp s o fl s':=by
 cases o with
 |nx ρ=>obtain⟨e,σ',H',a,b⟩:=h;exact⟨e,σ',H',a,t.trans b⟩
 |bk ρ=>obtain⟨e,σ',H',a,b⟩:=h;exact⟨e,σ',H',a,t.trans b⟩
 |ct ρ=>obtain⟨e,σ',H',a,b⟩:=h;exact⟨e,σ',H',a,t.trans b⟩
 |rt p ρ=>obtain⟨u,σ',H',e,a,b,c⟩:=h;exact⟨u,σ',H',e,a,t.trans b,c⟩
 |rn p ρ=>obtain⟨u,σ',H',e,a,b,c⟩:=h;exact⟨u,σ',H',e,a,t.trans b,c⟩
 |bad=>exact h
theorem Z.sp.back0 {o:Out}{fl:Flow}(g:z.go s s1)(h:Z.sp z s1 o fl s'):z.sp s o fl s':=Z.sp.back (σ1:=z.σ) (H1:=z.H) (ρ1:=z.ρ) g.2.stp h
end
section
variable {X:Cx}{st:Stmt}{fx:List Stmt}{f g:FS}{e:Expr}{fe:FE}{pos:Pos}
noncomputable def bG:FS:=fun ρ=>.nx ρ
noncomputable def cu:FS:=fun _=>.bad
noncomputable def Hj:FS:=fun ρ=>.bk ρ
noncomputable def FQ:FS:=fun ρ=>.ct ρ
noncomputable def aY (s u:FS):FS:=fun ρ=>match s ρ with
 |.nx ρ'=>u ρ'
 |o=>o
theorem cA:NS X st cu:=fun z s E _ h=>absurd rfl h
theorem C6:wY X [] bG:=fun z s E hz _=>wpAny_execs_nil ⟨rfl,hz.refl.to⟩
theorem BL (h1:NS X st f):wY X [st] f:=fun z s E hz hb=>by
 refine wpAny_execs_cons (bE (h1 z s E hz hb) fun fl s1 q=>?_)
 generalize f z.ρ=o at hb q
 cases o with
 |nx ρ=>obtain⟨e,q⟩:=q;subst e;exact wpAny_execs_nil ⟨rfl,q⟩
 |bk ρ=>obtain⟨e,q⟩:=q;subst e;exact⟨rfl,q⟩
 |ct ρ=>obtain⟨e,q⟩:=q;subst e;exact⟨rfl,q⟩
 |rt p ρ=>obtain⟨u,σ',H',e,q⟩:=q;subst e;exact⟨u,σ',H',rfl,q⟩
 |rn p ρ=>obtain⟨u,σ',H',e,q⟩:=q;subst e;exact⟨u,σ',H',rfl,q⟩
 |bad=>exact absurd rfl hb
theorem Al (h1:NS X st f)(h2:wY X fx g):wY X (st::fx) (aY f g):=fun z s E hz hb=>by
 unfold aY at hb ⊢
 have hb1:f z.ρ≠.bad:=fun q=>by rw[q] at hb;exact hb rfl
 refine wpAny_execs_cons (bE (h1 z s E hz hb1) fun fl s1 q=>?_)
 generalize f z.ρ=o at hb q hb1
 cases o with
 |nx ρ=>
  obtain⟨e,σ',H',ok,t⟩:=q
  subst e
  exact bE (h2 (z.wi σ' H' ρ) s1 E ok hb) fun fl s2 q2=>q2.back t
 |bk ρ=>obtain⟨e,q⟩:=q;subst e;exact⟨rfl,q⟩
 |ct ρ=>obtain⟨e,q⟩:=q;subst e;exact⟨rfl,q⟩
 |rt p ρ=>obtain⟨u,σ',H',e,q⟩:=q;subst e;exact⟨u,σ',H',rfl,q⟩
 |rn p ρ=>obtain⟨u,σ',H',e,q⟩:=q;subst e;exact⟨u,σ',H',rfl,q⟩
 |bad=>exact absurd rfl hb1
theorem Ci:NS X (.Pass pos) bG:=fun z s E hz _=>wpAny_Pass ⟨rfl,hz.refl.to⟩
theorem Ay:NS X (.Break pos) Hj:=fun z s E hz _=>wpAny_Break ⟨rfl,hz.refl.to⟩
theorem rZ:NS X (.Continue pos) FQ:=fun z s E hz _=>wpAny_Continue ⟨rfl,hz.refl.to⟩
theorem Ex {x j pos'}:NS X (.Expr (.Constant (.str x) j pos) pos') bG:=fun z s E hz _=>wpAny_Expr (Calls.Constant_str (show Z.sp z s _ .next { s with toks:=s.toks+1 } from⟨rfl,(hz.tok _).to⟩)) hz.I.quiet
noncomputable def sZ (o:Option RV)(ρ:aK):Out:=match o with
 |some (.fz _)=>.nx ρ
 |_=>.bad
noncomputable def iP (f:FE):FS:=fun ρ=>sZ (f ρ) ρ
theorem lZ (h:NE X e fe)(hs:swapsWith e none pos.line X.env=pure false):NS X (.Expr e pos) (iP fe):=fun z s E hz hb=>by
 unfold iP sZ at hb ⊢
 split at hb
 ·next p er=>exact wpAny_Expr_any (bE (h z s _ E hz er) fun v s1 q=>⟨rfl,q.1.to⟩) hz.I.quiet hs
 ·exact absurd rfl hb
noncomputable def xl (o:Option RV)(ρ:aK):Out:=match o with
 |some (.fz p)=>.rt p ρ
 |some (.nw ps)=>.rn ps ρ
 |_=>.bad
noncomputable def dc (f:FE):FS:=fun ρ=>xl (f ρ) ρ
theorem gJ {z:Z X}{s:Shared}(hz:z.ok s){a:Addr}(n:s.heap.get? a=none):X.s₀.heap.get? a=none:=by
 cases q:X.s₀.heap.get? a with
 |none=>rfl
 |some o=>
  by_cases hx:a∈X.ex
  ·obtain⟨o',r⟩:=hz.there a (hz.ex a hx);rw[n] at r;cases r
  ·obtain⟨o',r⟩:=hz.I.base.there a o q hx;rw[n] at r;cases r
theorem A0 (h:NE X e fe):NS X (.Return (some e) pos) (dc fe):=fun z s E hz hb=>by
 unfold dc xl at hb ⊢
 split at hb
 ·next p er=>exact wpAny_Return_some (bE (h z s _ E hz er) fun v s1 q=>⟨v,z.σ,z.H,rfl,q.1.1,q.1.2.stp,q.2⟩)
 ·next ps er=>exact wpAny_Return_some (bE (h z s _ E hz er) fun v s1 q=>by
   obtain⟨g,a,rfl,n,o,l⟩:=q
   exact⟨a,z.σ,z.H,rfl,g.1,g.2.stp,gJ hz n,o.2,l⟩)
 ·exact absurd rfl hb
noncomputable def pZ (o:Option Sl)(ρ:aK):Out:=match o with
 |some (.val p)=>.rt p ρ
 |some (.own ps)=>.rn ps ρ
 |_=>.bad
noncomputable def gl (i:Nat):FS:=fun ρ=>pZ (sl ρ i) ρ
theorem mx {H:Hp}{a:Addr}{o:HO}(h:H a=some o):eV H a o=H:=by
 funext b;unfold eV;split
 ·next e=>rw[e,h]
 ·rfl
theorem CT {i:Nat}{x:Str}{p:Pos}(hN:X.N[i]?=some x)(hv:np X.env.scope x)(hd:(x==("__debug__" : Str))=false)(hcd:(x==("__classdict__" : Str))=false)(hl:X.H₀=fun _=>none):NS X (.Return (some (.Name x p)) pos) (gl i):=fun z s E hz hb=>by
 unfold gl pZ at hb ⊢
 split at hb
 ·next q eq=>exact wpAny_Return_some (bE (EJ hN hv hd hcd z s _ E hz (show fV i z.ρ=some (.fz q) by unfold fV;rw[eq];rfl)) fun v s1 w=>⟨v,z.σ,z.H,rfl,w.1.1,w.1.2.stp,w.2⟩)
 ·next ps eq=>
  have:=EJ (pos:=p) hN hv hd hcd z s (.ln (.lst ps)) (fun _ _=>True) hz (show fV i z.ρ=_ by unfold fV;rw[eq];rfl)
  obtain⟨v,e1,⟨u0,r0⟩,d⟩:=hz.slk i _ (fS eq)
  obtain⟨a,rfl,ha,l⟩:=d
  obtain⟨m,hn,hlk⟩:=hz.I.loc
  obtain⟨u,r,lk⟩:=hlk i x (.ref a) hN e1 hv
  cases (show u=Value.ref a from r)
  have nb:=hz.nb i a ⟨⟨_,fS eq,rfl⟩,e1⟩
  have fin:Z.sp z s (.rn ps z.ρ) (.ret (.ref a)) s:=⟨a,z.σ,z.H,rfl,hz,Ext.refl.stp,(nb.2.resolve_right fun q=>q (by rw[hl])),nb.1,(by rw[mx ha];exact l)⟩
  refine wpAny_Return_some (wpAny_Name ?_ hd)
  rcases lk with ⟨hk,hm⟩|⟨hk,c,hc,hcell⟩
  ·exact wpAny_loadName_local hz.I.ok.kind hk hn hm fin
  ·rcases hk with hk|hk
   ·exact wpAny_loadName_cell hz.I.ok.kind hk hc hcell fin
   ·exact wpAny_loadName_free hz.I.ok.kind hk hc hcell fin hcd
 ·exact absurd rfl hb
noncomputable def Fd (o:Option Bool)(s u:FS)(ρ:aK):Out:=match o with
 |some true=>s ρ
 |some false=>u ρ
 |none=>.bad
noncomputable def gO (g:FB)(s u:FS):FS:=fun ρ=>Fd (g ρ) s u ρ
theorem GP {c:Expr}{a b:List Stmt}{fc:FB}(hc:NB X c fc)(ha:wY X a f)(hb:wY X b g):NS X (.If c a b pos) (gO fc f g):=fun z s E hz hn=>by
 unfold gO Fd at hn ⊢
 split at hn
 ·next ek=>
  refine wpAny_If (bE (hc z s _ E hz ek) fun d s1 ⟨e,g1⟩=>?_)
  subst e
  exact bE (ha z s1 E g1.1 hn) fun fl s2 q=>q.back0 g1
 ·next ek=>
  refine wpAny_If (bE (hc z s _ E hz ek) fun d s1 ⟨e,g1⟩=>?_)
  subst e
  exact bE (hb z s1 E g1.1 hn) fun fl s2 q=>q.back0 g1
 ·exact absurd rfl hn
end
inductive PR where
 |v (p:PV)|n (ps:List PV)
noncomputable abbrev Fn:=List PV->Option PR
noncomputable def C4 (n:Nat)(ps:List PV):aK:=ps.map (fun p=>some (Sl.val p))++List.replicate (n - ps.length) none
noncomputable def Out.res:Out->Option PR
 |.nx _=>some (.v .non)
 |.rt p _=>some (.v p)
 |.rn ps _=>some (.n ps)
 |_=>none
noncomputable def run (a n:Nat)(s:FS)(qs:List PV):Option PR:=if qs.length=a then (s (C4 n qs)).res else none
structure Rm (k:Nat)(A:Around):Prop where
 dp:A.depth+3 * k+5<recursionLimit
 un:A.units+16 * k+200<cLine
theorem Rm.mono {j k:Nat}{A:Around}(r:Rm k A)(h:j≤k):Rm j A:=⟨by have:=r.dp;omega,by have:=r.un;omega⟩
theorem Rm.deeper {k:Nat}{A:Around}(r:Rm (k+1) A)(env:Env):Rm k (A.deeper env):=
 ⟨by have:=r.dp;show A.depth+1+3 * k+5<_;omega,by have:=r.un;show A.units+3+16 * k+200<_;omega⟩
theorem Rm.depth {k:Nat}{A:Around}(r:Rm k A):A.depth<recursionLimit:=by have:=r.dp;omega
theorem Rm.units {k:Nat}{A:Around}(r:Rm k A):A.units+64<cLine:=by have:=r.un;omega
noncomputable abbrev h0:Hp:=fun _=>none
noncomputable def Fin (P:Program)(w:World)(mg:Str->Option Value)(outer:List Env)(bad:Addr->Prop)(s:Shared)(r:PR)(res:Result)(s':Shared):Prop:=
 ∃u,res=.ok (.ret u)/\s'.os=s.os/\AllBare s'.gens/\Un (lx outer) [] h0 h0 s.heap s'.heap/\match r with
  |.v p=>D ⟨iY bad h0,P,w,mg⟩ s'.heap p u
  |.n ps=>∃a,u=.ref a/\s.heap.get? a=none/\ListAt ⟨iY bad (eV h0 a bz),P,w,mg⟩ s'.heap a ps
structure NF (P:Program)(w:World)(K:PySem.W.Frag)(mg:Str->Option Value)(base:Heap)(cm:Bool)(k:Nat)(f:Addr)(fd:FuncData)(ps:List Str)(F:Fn):Prop where
 len:∀qs r,F qs=some r->qs.length=ps.length
 run:∀(A:Around) (outer:List Env) (s:Shared) (args:Args) (us:List Value) (qs:List PV) (r:PR) (bad:Addr->Prop),(cm=true->A.handled=none)->Rm k A->Env0 P w K mg base A outer s h0->BindsTo s fd args (ps.zip us) →
  (∀b∈lx outer,bad b)->(∀b,bad b->∃o,s.heap.get? b=some o)->(∀b o,base.get? b=some o->¬bad b)->Ds ⟨iY bad h0,P,w,mg⟩ s.heap qs us->F qs=some r->codeAny (model P w) A (.call (.ref f) args) (Fin P w mg outer bad s r) s
theorem NF.mono {P:Program}{w:World}{K:PySem.W.Frag}{mg:Str->Option Value}{base:Heap}{cm:Bool}{j k:Nat}{f:Addr}{fd:FuncData}{ps:List Str}{F:Fn}(n:NF P w K mg base cm j f fd ps F)(h:j≤k):NF P w K mg base cm k f fd ps F:=
 ⟨n.len,fun A outer s args us qs r bad hc hr=>n.run A outer s args us qs r bad hc (hr.mono h)⟩
noncomputable def DL (P:Program)(w:World)(K:PySem.W.Frag)(mg:Str->Option Value)(base:Heap)(cm:Bool)(N:List Str)(qual:Str)(scope:Scope)(f:Addr)(cd:Value)(A:Around)(outer:List Env)(s:Shared)(H:Hp):Cx where
 prog:=P
 w:=w
 K:=K
 mg:=mg
 base:=base
 A:=A.deeper (envOfC qual scope s.heap.objs.size f cd)
 N:=N
 s₀:=s
 H₀:=H
 env:=envOfC qual scope s.heap.objs.size f cd
 outer:=outer
 stack:=envOfC qual scope s.heap.objs.size f cd::outer
 ex:=[]
 calm:=cm
 fn:=fun _=>true
 pn:=[]
 xe:=fun _ _=>False
theorem sh {P:Program}{w:World}{K:PySem.W.Frag}{mg:Str->Option Value}{base:Heap}{cm:Bool}{N ps:List Str}{qual:Str}{scope:Scope}{f:Addr}{cd:Value}{A:Around}{outer:List Env}{s s1:Shared}{H:Hp}{us:List Value}{vs:List V}
  (S:FnScope N ps scope) (hd:cm=true->A.handled=none) (e0:Env0 P w K mg base A outer s H) (hl:vs.length=ps.length) (r:Vals vs us)
  (x:InCallC s s.heap.objs.size (bindL (envOfC qual scope s.heap.objs.size f cd).kindOf (ps.zip us) fun _=>none) (cellsFrom (s.heap.objs.size+1) scope.names []) (bindC (envOfC qual scope s.heap.objs.size f cd).kindOf (ps.zip us) fun _=>none) s1) :
  Inv (DL P w K mg base cm N qual scope f cd A outer s H) [] (L2.gH N vs) H s1:=by
 have hpl:ps.length≤N.length:=by have:=congrArg List.length S.pre;rw[List.length_take] at this;omega
 obtain⟨h1,tk,rfl,hk⟩:=x.done
 have noA:∀b:Addr,b∉(DL P w K mg base cm N qual scope f cd A outer s H).ex:=fun b z=>absurd (show b∈([]:List Addr) from z) (by simp)
 refine⟨⟨e0.mod,S.kind,rfl,rfl,Nat.le_refl _,fun y z c h1 h2=>?_,fun y hy=>?_,fun y c _ h=>?_,hd,Around.frames_deeper e0.frames,.inr ⟨rfl,rfl⟩,fun b z=>absurd z (noA b),e0.bs,e0.bsz,fun b _ _=>noA b,fun b z=>absurd z (noA b),e0.funs,e0.frf⟩,
  rfl,e0.bare,Un.kept hk,⟨_,x.toInCall.ns,fun i y v h1 h2 h3=>?_⟩,fun y c h=>⟨_,x.cell y c h⟩,e0.hok.fresh (Nat.le_refl _),fun y c h=>?_,fun p hp=>absurd (show p∈([]:List (Addr×Obj)) from hp) (by simp),e0.hok.kept hk,?_⟩
 ·exact name_of_addr x.apart (PySem.mem_of_lookup h1) (PySem.mem_of_lookup h2)
 ·have hy:scope.names.lookup y=some .cell\/scope.names.lookup y=some .free:=hy
  rcases hy with hy|hy
  ·exact qL hy
  ·exact absurd rfl (S.nofree _ (PySem.mem_of_lookup hy))
 ·exact Nat.le_of_lt (x.above y c (PySem.mem_of_lookup h))
 ·have hi:i<vs.length:=by
   unfold L2.gH at h2
   by_cases hi:i<vs.length
   ·exact hi
   ·rw[List.getElem?_append_right (by simpa using hi)] at h2
    rw[List.getElem?_replicate] at h2
    split at h2<;>cases h2
  have ha:vs[i]?=some v:=by
   unfold L2.gH at h2
   rw[List.getElem?_append_left (by simpa using hi),List.getElem?_map] at h2
   cases e:vs[i]? with
   |none=>rw[e] at h2;cases h2
   |some a=>rw[e] at h2;cases h2;rfl
  obtain⟨u,hu,rv⟩:=r.get ha
  have hp:ps[i]?=some y:=by
   rw[←S.pre,List.getElem?_take_of_lt (by omega)];exact h1
  have ndP:ps.Nodup:=by rw[←S.pre];exact S.nd.sublist (List.take_sublist _ _)
  refine⟨u,rv,?_⟩
  rcases S.par y (List.mem_of_getElem? hp) with k|k
  ·exact .inl ⟨k,ox ndP hp hu k⟩
  ·obtain⟨c,e⟩:=qL (n:=s.heap.objs.size+1) k
   refine .inr ⟨.inl k,c,e,?_⟩
   have q:=x.cell y c e
   rw[n7 ndP hp hu (by show scope.names.lookup y≠_;rw[k];decide)] at q
   exact q
 ·exact e0.hok.fresh (Nat.le_of_lt (x.above y c (PySem.mem_of_lookup h)))
 ·unfold L2.gH
  show _=N.length
  rw[List.length_append,List.length_map,List.length_replicate]
  omega
theorem yI {v:V}{a:Addr}(r:hK v (.ref a)):v=.ref a:=by
 cases v with
 |ref b=>cases (show Value.ref a=Value.ref b from r);rfl
 |non=>cases (show Value.ref a=Value.none from r)
 |bl b=>cases (show Value.ref a=Value.bool b from r)
 |ty b=>cases (show Value.ref a=Value.type b from r)
 |_=>obtain⟨_,e⟩:=r;cases e
noncomputable def Out.res2:Out->Option (PR×aK)
 |.nx ρ=>some (.v .non,ρ)
 |.rt p ρ=>some (.v p,ρ)
 |.rn ps ρ=>some (.n ps,ρ)
 |_=>none
noncomputable def wa (n:Nat)(ts:List Sl):aK:=ts.map some++List.replicate (n - ts.length) none
noncomputable def Ent (c:Cn)(H:Hp)(h:Heap):List Sl->List Value->Prop
 |[],us=>us=[]
 |t::ts,us=>∃u r,us=u::r/\(match t with
  |.val p=>D c h p u
  |t=>∃a,u=.ref a/\SlOk c H h t (.ref a))/\Ent c H h ts r
theorem Ent.vs {c:Cn}{H:Hp}{h:Heap}:∀{ts:List Sl} {us:List Value},Ent c H h ts us->∃vs,Vals vs us/\vs.length=ts.length/\∀(i:Nat) t v,ts[i]?=some t->vs[i]?=some v->(∃u,hK v u)/\SlOk c H h t v
 |[],us,e=>⟨[],by rw[show us=[] from e];exact .nil,rfl,fun i t v e=>by simp at e⟩
 |t::ts,us,⟨u,r,e,d,en⟩=>by
  obtain⟨vs,rv,hl,hd⟩:=Ent.vs en
  have one:∃v,hK v u/\SlOk c H h t v:=by
   cases t with
   |val p=>obtain⟨v,ru,k⟩:=D1.v d;exact⟨v,ru,k⟩
   |own ps=>obtain⟨a,rfl,k⟩:=d;exact⟨.ref a,rfl,k⟩
   |dic ks ps=>obtain⟨a,rfl,k⟩:=d;exact⟨.ref a,rfl,k⟩
  obtain⟨v,ru,k⟩:=one
  subst e
  refine⟨v::vs,.cons ru rv,by simp[hl],fun i t' v' e1 e2=>?_⟩
  cases i with
  |zero=>cases e1;cases e2;exact⟨⟨u,ru⟩,k⟩
  |succ i=>exact hd i t' v' (by simpa using e1) (by simpa using e2)
theorem sR {n:Nat}{ts:List Sl}{i:Nat}{t:Sl}(e:(wa n ts)[i]?=some (some t)):ts[i]?=some t:=by
 unfold wa at e
 by_cases hi:i<ts.length
 ·rw[List.getElem?_append_left (by simpa using hi),List.getElem?_map] at e
  cases w:ts[i]? with
  |none=>rw[w] at e;cases e
  |some p=>rw[w] at e;cases e;rfl
 ·rw[List.getElem?_append_right (by simpa using hi),List.getElem?_replicate] at e
  split at e<;>cases e
theorem zx {P:Program}{w:World}{K:PySem.W.Frag}{mg:Str->Option Value}{base:Heap}{cm:Bool}{f:Addr}{name qual:Str}{params:Arguments}{body:List Stmt}{scope:Scope}{dV kV doc pm cdv ct oc:Value}{an od:Option Addr}
  {osl:Array (Option Value)} {N ps:List Str} {g:FS} (lk:K.lookup f=some ⟨oc,od,.func (PySem.W.fnOf name qual params body scope dV kV doc pm an cdv ct),osl⟩) (hcd:PySem.W.codeIn K cdv qual=true) (S:FnScope N ps scope)
  {A:Around} {outer:List Env} {s:Shared} {args:Args} {us:List Value} {ts:List Sl} {bad:Addr->Prop} {H:Hp} (hc:cm=true->A.handled=none) (hr:A.depth<recursionLimit) (e0:Env0 P w K mg base A outer s H) (hb:BindsTo s (PySem.W.fnOf name qual params body scope dV kV doc pm an cdv ct) args (ps.zip us))
  (hfr:∀b∈lx outer,bad b) (hth:∀b,bad b->∃o,s.heap.get? b=some o) (hbs:∀b o,base.get? b=some o->¬bad b) (hl:ts.length=ps.length) (en:Ent ⟨iY bad H,P,w,mg⟩ H s.heap ts us)
  (ho:∀(i:Nat) t,ts[i]?=some t->cI t=true->i=0) (hH:∀b o,H b=some o->o=bz/\¬bad b/\us[0]?=some (.ref b)/\∃ob,s.heap.get? b=some ob/\ob.cls≠.type "tuple")
  (hbody:wY (DL P w K mg base cm N qual scope f cdv A outer s H) body g) {pr:PR} {ρ':aK} (hres:(g (wa N.length ts)).res2=some (pr,ρ')) {R:Result->Shared->Prop}
  (hR:∀(bad':Addr->Prop) σ' H' u s',(∀b,bad b->bad' b)->(⟨bad',[],σ',H',ρ'⟩:Z (DL P w K mg base cm N qual scope f cdv A outer s H)).ok s'->(match pr with
   |.v p=>D ⟨iY bad' H',P,w,mg⟩ s'.heap p u
   |.n ps=>∃a,u=.ref a/\s.heap.get? a=none/\ListAt ⟨iY bad' (eV H' a bz),P,w,mg⟩ s'.heap a ps)->R (.ok (.ret u)) s'):codeAny (model P w) A (.call (.ref f) args) R s:=by
 obtain⟨vs,rv,hv,dv⟩:=en.vs
 have KX:K.In s.heap:=e0.mod.kin.keeps fun b o e=>(e0.bs b o e).1
 have lim:s.heap.NoLimit:=e0.mod.nolimit.keeps fun b o e=>(e0.bs b o e).1
 have hkind:∀y∈ps.zip us,scope.names.lookup y.1=some .local\/(scope.names.lookup y.1=some .cell/\((cellsFrom (s.heap.objs.size+1) scope.names []).lookup y.1).isSome=true):=fun ⟨n,v⟩ hy=>by
  rcases S.par n (List.of_mem_zip hy).1 with q|q
  ·exact .inl q
  ·exact .inr ⟨q,PySem.W.cellsFrom_some _ _ _ (.inl q)⟩
 refine codeAny_call_function hr (KX _ _ lk) rfl S.co S.gen rfl (PySem.W.codeRec_of KX hcd) (hb _ _ _ _ ?_)
 refine wpAny_newFunctionEnv_cells S.kind hkind fun env he s1 x=>?_
 subst he
 refine⟨lim.keeps x.toInCall.keep,codeAny_func ?_⟩
 have I:=sh (cm:=cm) (f:=f) (cd:=cdv) (qual:=qual) S hc e0 (by rw[hv,hl]) rv x
 let X:=DL P w K mg base cm N qual scope f cdv A outer s H
 obtain⟨h1,tk,es1,hk⟩:=x.done
 let bad':Addr->Prop:=fun a=>bad a\/s.heap.get? a=none/\∃o,s1.heap.get? a=some o
 have npl:ps.length≤N.length:=by have:=congrArg List.length S.pre;rw[List.length_take] at this;omega
 let z:Z X:=⟨bad',[],L2.gH N vs,H,wa N.length ts⟩
 have own0':∀{i a},ci (L2.gH N vs) (wa N.length ts) i a->i=0/\H a=some bz:=fun {i a} ⟨⟨t,e,o⟩,q⟩=>by
  have e1:=sR e
  have h0:=ho i t e1 o
  have hi:i<vs.length:=by rw[hv];exact (List.getElem?_eq_some_iff.mp e1).1
  obtain⟨_,d⟩:=dv i t vs[i] e1 (List.getElem?_eq_getElem hi)
  unfold L2.gH at q
  rw[List.getElem?_append_left (by simpa using hi),List.getElem?_map,List.getElem?_eq_getElem hi] at q
  have q':vs[i]=.ref a:=Option.some.inj (Option.some.inj q)
  rw[q'] at d
  cases t with
  |val p=>cases o
  |own ps=>obtain⟨b,e,r,_⟩:=d;cases e;exact⟨h0,r⟩
  |dic ks ps=>obtain⟨b,e,r,_⟩:=d;cases e;exact⟨h0,r⟩
 have nH:∀b o,H b=some o->¬bad' b:=fun b o e y=>y.elim (hH b o e).2.1 fun y=>by
  obtain⟨_,_,_,ob,q,_⟩:=hH b o e
  rw[y.1] at q;cases q
 have kp:Kp ⟨iY bad H,P,w,mg⟩ (bV X bad' H) s.heap s1.heap:=⟨rfl,rfl,rfl,fun a o q e=>by
  rw[es1]
  exact⟨⟨q.1,fun w=>w.elim q.2 fun w=>by rw[w.1] at e;cases e⟩,hk a o e⟩⟩
 have hz:z.ok s1:=by
  refine⟨I,?_,fun i t e=>?_,fun i j a o1 o2=>(own0' o1).1.trans (own0' o2).1.symm,fun i a o=>⟨nH a _ (own0' o).2,.inr fun y=>?_⟩,fun b o e=>(hH b o e).1,fun b o e=>(hH b o e).1,?_,fun y c e=>?_,fun b hb=>(Or.inl (hfr b hb):bad b\/_),fun b hb=>absurd (show b∈([]:List Addr) from hb) (by simp),fun b hb=>?_,fun b o e hb=>?_,fun a o e=>⟨nH a o e,?_⟩,fun _ a e=>?_⟩
  ·show (L2.gH N vs).length=(wa N.length ts).length
   unfold L2.gH wa;simp only[List.length_append,List.length_map,List.length_replicate];omega
  ·have ep:=sR e
   have hiv:i<vs.length:=by rw[hv];exact (List.getElem?_eq_some_iff.mp ep).1
   obtain⟨r1,r2⟩:=dv i t vs[i] ep (List.getElem?_eq_getElem hiv)
   refine⟨vs[i],?_,r1,SlOk.mono (c:=⟨iY bad H,P,w,mg⟩) (c':=bV X bad' H) kp (fun a o _ e=>by rw[es1];exact hk a o e) r2⟩
   show (L2.gH N vs)[i]?=_
   unfold L2.gH
   rw[List.getElem?_append_left (by simpa using hiv),List.getElem?_map,List.getElem?_eq_getElem hiv];rfl
  ·have y':H a=none:=y
   rw[(own0' o).2] at y';cases y'
  ·refine Or.inr ⟨Heap.get?_none_of_le (Nat.le_refl _),?_⟩
   obtain⟨o,_,_,e,_⟩:=x.toInCall.ns
   exact⟨o,e⟩
  ·refine Or.inr ⟨Heap.get?_none_of_le (Nat.le_of_lt (x.above y c (PySem.mem_of_lookup e))),?_⟩
   obtain⟨o,e,_⟩:=x.cell y c e
   exact⟨o,e⟩
  ·rcases hb with hb|hb
   ·obtain⟨o,e⟩:=hth b hb
    exact⟨o,by rw[es1];exact hk b o e⟩
   ·exact hb.2
  ·rcases hb with hb|hb
   ·exact hbs b o e hb
   ·have e':base.get? b=some o:=e
    rw[(e0.bs b o e').1] at hb;cases hb.1
  ·obtain⟨_,_,_,ob,q1,q2⟩:=hH a o e
   exact⟨ob,by rw[es1];exact hk a ob q1,q2⟩
  ·have e':H a≠none:=e
   cases q:H a with
   |none=>exact absurd q e'
   |some o=>
    obtain⟨_,_,q0,_⟩:=hH a o q
    obtain⟨u,ru,hu⟩:∃v,vs[0]?=some v/\v=.ref a:=by
     have:=rv.length
     cases rv with
     |nil=>simp at q0
     |cons r rr=>
      simp at q0;subst q0
      refine⟨_,rfl,?_⟩
      exact yI r
    subst hu
    show (L2.gH N vs)[0]?=_
    have hi:0<vs.length:=(List.getElem?_eq_some_iff.mp ru).1
    unfold L2.gH
    rw[List.getElem?_append_left (by simpa using hi),List.getElem?_map,ru];rfl
 have hnb:g z.ρ≠.bad:=fun q'=>by
  rw[show g (wa N.length ts)=.bad from q'] at hres;cases hres
 refine wpAny_mono (hbody z s1 (fun _ _=>False) hz hnb) (fun fl s' hs=>?_) fun e s' hs=>hs.elim
 have hs:z.sp s1 (g (wa N.length ts)) fl s':=hs
 generalize g (wa N.length ts)=o at hs hres
 cases o with
 |nx ρ=>cases hres;obtain⟨e,σ',H',ok,t⟩:=hs;subst e;exact hR bad' σ' H' .none s' (fun b=>.inl) ok rfl
 |rt p ρ=>cases hres;obtain⟨u,σ',H',e,ok,t,d⟩:=hs;subst e;exact hR bad' σ' H' u s' (fun b=>.inl) ok d
 |rn ps' ρ=>cases hres;obtain⟨a,σ',H',e,ok,t,n,nb,l⟩:=hs;subst e;exact hR bad' σ' H' _ s' (fun b=>.inl) ok ⟨a,rfl,n,l⟩
 |bk ρ=>cases hres
 |ct ρ=>cases hres
 |bad=>cases hres
theorem p9 {c:Cn}{H:Hp}{h:Heap}:∀{qs:List PV} {us:List Value},Ds c h qs us->Ent c H h (qs.map Sl.val) us
 |[],_,e=>e
 |_::_,_,⟨u,r,e,d,t⟩=>⟨u,r,e,d,p9 t⟩
theorem AA {n:Nat}{qs:List PV}:C4 n qs=wa n (qs.map Sl.val):=by unfold C4 wa;rw[List.map_map,List.length_map];rfl
theorem x0 {o:Out}{r:PR}(h:o.res=some r):∃ρ,o.res2=some (r,ρ):=by
 cases o<;>cases h<;>exact⟨_,rfl⟩
theorem Fm {P:Program}{w:World}{K:PySem.W.Frag}{mg:Str->Option Value}{base:Heap}{cm:Bool}{k:Nat}{f:Addr}{name qual:Str}{params:Arguments}{body:List Stmt}{scope:Scope}{dV kV doc pm cdv ct oc:Value}{an od:Option Addr}
  {osl:Array (Option Value)} {N ps:List Str} {g:FS} (lk:K.lookup f=some ⟨oc,od,.func (PySem.W.fnOf name qual params body scope dV kV doc pm an cdv ct),osl⟩) (hcd:PySem.W.codeIn K cdv qual=true) (S:FnScope N ps scope)
  (hbody:∀(A:Around) (outer:List Env) (s:Shared),(cm=true->A.handled=none)->Rm k (A.deeper (envOfC qual scope s.heap.objs.size f cdv))->wY (DL P w K mg base cm N qual scope f cdv A outer s h0) body g) :
  NF P w K mg base cm (k+1) f (PySem.W.fnOf name qual params body scope dV kV doc pm an cdv ct) ps (run ps.length N.length g):=by
 refine⟨fun qs r q=>?_,fun A outer s args us qs r bad hc hr e0 hb hfr hth hbs ds q=>?_⟩
 ·unfold run at q;split at q
  ·assumption
  ·cases q
 ·unfold run at q
  split at q
  ·next hl=>
   obtain⟨ρ',q2⟩:=x0 q
   rw[AA] at q2
   refine zx (H:=h0) (ts:=qs.map .val) lk hcd S hc hr.depth e0 hb hfr hth hbs (by rw[List.length_map];exact hl) (p9 ds) (fun i t e o=>?_) (fun b o e=>by cases e) (hbody A outer s hc (hr.deeper _)) q2 fun bad' σ' H' u s' hb' ok d=>?_
   ·rw[List.getElem?_map] at e
    obtain⟨p,_,rfl⟩:=Option.map_eq_some_iff.mp e
    cases o
   ·have b:=ok.I.base
    refine⟨u,rfl,ok.I.os,ok.I.bare,⟨b.keep,b.slot,fun b o _ n _=>rfl,b.there,fun b xs e=>(by cases e),fun b o u e=>(by cases e),fun b ps e=>(by cases e)⟩,?_⟩
    cases r with
    |v p=>exact D1.m (c:=⟨iY bad' H',P,w,mg⟩) (c':=⟨iY bad h0,P,w,mg⟩) d ⟨rfl,rfl,rfl,fun a o q e=>⟨⟨rfl,fun w=>q.2 (hb' a w)⟩,e⟩⟩
    |n ps'=>
     obtain⟨a,rfl,n,l⟩:=d
     refine⟨a,rfl,n,ListAt.mono (c:=⟨iY bad' (eV H' a bz),P,w,mg⟩) (c':=⟨iY bad (eV h0 a bz),P,w,mg⟩) ⟨rfl,rfl,rfl,fun b o q e=>⟨⟨?_,fun w=>q.2 (hb' b w)⟩,e⟩⟩ (fun _ e=>e) l⟩
     have q1:=q.1
     by_cases hb:b=a
     ·subst hb;rw[cz] at q1;cases q1
     ·rw[bF hb]
  ·cases q
end Dp
end
section
namespace Dp
open PySem PySem.Spec L2 PyProof.Rows
section
variable {X:Cx}{e:Expr}{es:List Expr}{fs:FA}{pos:Pos}
mutual
noncomputable def tf:PV->Bool
 |.tup ps=>uQ ps
 |p=>iX p
noncomputable def uQ:List PV->Bool
 |[]=>true
 |p::ps=>tf p&&uQ ps
end
noncomputable def G4:PR->Bool
 |.v p=>tf p
 |.n ps=>uQ ps
noncomputable def qb:PR->RV
 |.v p=>.fz p
 |.n ps=>.nw ps
noncomputable def lQ (F:Fn)(o:Option (List PV))(rs:List RV):Option RV:=match o with
 |some ps=>(F ps).map qb
 |none=>(F (rs.map RV.pv)).bind fun r=>if G4 r=true then some (qb r) else none
noncomputable def aX (F:Fn)(fs:FA):FE:=fun ρ=>(fs ρ).bind fun rs=>lQ F (rs.mapM RV.fr) rs
noncomputable def wI (F:Fn):FE:=fun _=>(F []).map qb
theorem GD {H:Hp}{fs:List Addr}{h h':Heap}(u:Un fs [] h0 h0 h h')(ho:∀b o,H b=some o->o=bz):Un fs [] H H h h':=
 ⟨fun b o e _ f x=>u.keep b o e rfl f x,fun b o e _ f x=>u.slot b o e rfl f x,fun _ _ _ n _=>n,u.there,fun _ _ e=>e,fun _ _ _ e=>e,fun b ps e=>⟨#[],by rw[e];simp⟩⟩
theorem Bc {P:Program}{w:World}{mg:Str->Option Value}{ok:Addr->Prop}{ok':Addr->Prop}{h:Heap}(k:∀a o,ok a->h.get? a=some o->o.cls=.type "tuple"->ok' a):(∀{p:PV} {u:Value},tf p=true->D ⟨ok,P,w,mg⟩ h p u->D ⟨ok',P,w,mg⟩ h p u)/\∀{ps:List PV} {us:List Value},uQ ps=true->Ds ⟨ok,P,w,mg⟩ h ps us->Ds ⟨ok',P,w,mg⟩ h ps us:=by
 have a:(∀(p:PV),∀{u:Value},tf p=true->D ⟨ok,P,w,mg⟩ h p u->D ⟨ok',P,w,mg⟩ h p u):=fun p=>by
  induction p using PV.rec (motive_2:=fun ps=>∀{us:List Value},uQ ps=true->Ds ⟨ok,P,w,mg⟩ h ps us->Ds ⟨ok',P,w,mg⟩ h ps us) with
  |tup ps ih=>
   intro u t d
   obtain⟨a,its,rfl,o,⟨ob,e,c,r⟩,l,ds⟩:=d
   exact⟨a,its,rfl,k a ob o e c,⟨ob,e,c,r⟩,l,ih t ds⟩
  |nil=>assumption
  |cons p ps ihp ihs=>
   rename_i us t d
   obtain⟨u,r,e,d1,d2⟩:=d
   rw[uQ,Bool.and_eq_true] at t
   exact⟨u,r,e,ihp t.1 d1,ihs t.2 d2⟩
  |non=>intro u _ d;exact d
  |bl=>intro u _ d;exact d
  |int=>intro u _ d;exact d
  |str=>intro u _ d;exact d
  |ty=>intro u _ d;exact d
  |fn=>intro u _ d;exact d
  |_=>intro u t;cases t
 refine⟨fun {p u} t d=>a p t d,fun {ps}=>?_⟩
 induction ps with
 |nil=>intro us _ d;exact d
 |cons p ps ih=>
  intro us t d
  obtain⟨u,r,e,d1,d2⟩:=d
  rw[uQ,Bool.and_eq_true] at t
  exact⟨u,r,e,a p t.1 d1,ih t.2 d2⟩
theorem Z.ok.after {z:Z X}{s s':Shared}(hz:z.ok s)(os:s'.os=s.os)(g:AllBare s'.gens)(u:Un (lx X.stack) [] h0 h0 s.heap s'.heap):z.go s s':=by
 have hfr:∀b∈lx X.stack,z.bad b:=fun b hb=>by
  rcases List.mem_cons.mp (hz.I.stkSub b hb) with e|e
  ·rw[e];exact hz.loc
  ·exact hz.fs b e
 have hok:HOk X.prog X.w z.H s'.heap:=fun b o e=>by
  have e2:=hz.oh b o e
  subst e2
  obtain⟨ob,q⟩:=hz.stands e
  obtain⟨o',q'⟩:=u.there b ob q (by simp)
  exact⟨trivial,⟨o',q'⟩,fun _ _ _ _=>trivial⟩
 exact Z.ok.ext hz (hz.I.call' os (GD u hz.oh) hok g (fun b z=>absurd z (by simp))) ⟨fun a o n e=>u.keep a o e rfl (fun q=>n (hfr a q)) (by simp),fun a o e=>u.there a o e (by simp)⟩
theorem xt {cm:Bool}{k:Nat}{f:Addr}{fd:FuncData}{ps:List Str}{F:Fn}(n:NF X.prog X.w X.K X.mg X.base cm k f fd ps F)(hc:cm=true->X.calm=true)(hr:Rm k X.A)(hb:Binds X.K fd ps []){z:Z X}{s:Shared}(hz:z.ok s){bad:Addr->Prop}(hbd:∀a,z.bad a->bad a)(hbd2:∀a,bad a->z.bad a\/z.H a≠none){us:List Value}{qs:List PV}{r:PR}
  (ds:Ds ⟨iY bad h0,X.prog,X.w,X.mg⟩ s.heap qs us) (q:F qs=some r) {Q:Value->Shared->Prop} {E:Value->Shared->Prop} (h:∀u s',z.go s s'->(match r with
  |.v p=>D ⟨iY bad h0,X.prog,X.w,X.mg⟩ s'.heap p u
  |.n ps=>∃a,u=.ref a/\s.heap.get? a=none/\ListAt ⟨iY bad (eV h0 a bz),X.prog,X.w,X.mg⟩ s'.heap a ps)->Q u s'):W X (call (.ref f) us) Q E s:=by
 have e0:=hz.I.env0
 have e1:Env0 X.prog X.w X.K X.mg X.base X.A X.stack s h0:=⟨e0.frames,e0.mod,fun b o e=>⟨(e0.bs b o e).1,rfl⟩,e0.bsz,e0.funs,fun _ _=>rfl,(fun b o e=>by cases e),e0.bare⟩
 have hl:(us++[]).length=ps.length:=by rw[List.append_nil,ds.length];exact n.len _ _ q
 have hfr:∀b∈lx X.stack,z.bad b:=fun b hb=>by
  rcases List.mem_cons.mp (hz.I.stkSub b hb) with e|e
  ·rw[e];exact hz.loc
  ·exact hz.fs b e
 refine wpAny_call (codeAny_mono (n.run X.A X.stack s ⟨us,[]⟩ us qs r bad (fun c=>hz.I.ok.hd (hc c)) hr e1 (by have:=hb s us hz.I.kIn hl;rwa [List.append_nil] at this) (fun b q=>hbd b (hfr b q)) (fun b q=>?_) (fun b o e q=>?_) ds q) fun res s' hq=>?_)
 ·rcases hbd2 b q with w|w
  ·exact hz.there b w
  ·cases e:z.H b with
   |none=>exact absurd e w
   |some o=>exact hz.stands e
 ·rcases hbd2 b q with w|w
  ·exact hz.bs b o e w
  ·exact w (hz.I.bs b o e).2
 ·obtain⟨u,rfl,os,bare,un,w⟩:=hq
  exact h u s' (Z.ok.after hz os bare un) w
theorem r9 {cm:Bool}{k:Nat}{f:Addr}{fd:FuncData}{ps:List Str}{F:Fn}(n:NF X.prog X.w X.K X.mg X.base cm k f fd ps F)(hc:cm=true->X.calm=true)(hr:Rm k X.A)(hb:Binds X.K fd ps []){z:Z X}{s:Shared}{h00:Heap}(hz:z.ok s){us:List Value}{rs:List RV}{r:RV}{E:Value->Shared->Prop}(ds:RvsOk z h00 s.heap rs us)(q:lQ F (rs.mapM RV.fr) rs=some r):W X (call (.ref f) us) (Z.post z s r) E s:=by
 cases em:rs.mapM RV.fr with
 |some qs=>
  rw[em] at q
  obtain⟨pr,e,rfl⟩:=Option.map_eq_some_iff.mp q
  refine xt n hc hr hb hz (bad:=fun a=>z.bad a\/z.H a≠none) (fun a h=>.inl h) (fun a h=>h) (Ds.mono (c:=z.cn) (c':=⟨iY (fun a=>z.bad a\/z.H a≠none) h0,X.prog,X.w,X.mg⟩) ⟨rfl,rfl,rfl,fun a o q e=>⟨⟨rfl,fun w=>w.elim q.2 fun w=>w q.1⟩,e⟩⟩ (ds.fr em)) e fun u s' g d=>⟨g,?_⟩
  have ok:∀{a:Addr},¬(z.bad a\/z.H a≠none)->iY z.bad z.H a:=fun {a} w=>⟨by
   cases e:z.H a with
   |none=>rfl
   |some o=>exact absurd (.inr (by rw[e];simp)) w,fun b=>w (.inl b)⟩
  cases pr with
  |v p=>exact D1.m (c:=⟨iY (fun a=>z.bad a\/z.H a≠none) h0,X.prog,X.w,X.mg⟩) (c':=z.cn) d ⟨rfl,rfl,rfl,fun a o q e=>⟨ok q.2,e⟩⟩
  |n ps=>
   obtain⟨a,rfl,n,l⟩:=d
   refine⟨a,rfl,n,hz.free n,ListAt.mono (c:=⟨iY (fun a=>z.bad a\/z.H a≠none) (eV h0 a bz),X.prog,X.w,X.mg⟩) (c':=bV X z.bad (eV z.H a bz)) ⟨rfl,rfl,rfl,fun b o q e=>⟨⟨?_,(ok q.2).2⟩,e⟩⟩ (fun _ e=>e) l⟩
   have q1:=q.1
   by_cases hb:b=a
   ·subst hb;rw[cz] at q1;cases q1
   ·rw[bF hb];exact (ok q.2).1
 |none=>
  rw[em] at q
  obtain⟨pr,e,q⟩:=Option.bind_eq_some_iff.mp q
  split at q
  ·next ht=>
   cases q
   have dd:Ds ⟨iY z.bad h0,X.prog,X.w,X.mg⟩ s.heap (rs.map RV.pv) us:=by
    clear em e q
    induction ds with
    |nil=>rfl
    |cons d _ ih=>
     refine .cons ?_ ih
     have v:=d.rv
     cases hl:DO (RV.pv _) with
     |false=>exact D1.m (c:=z.cn) (c':=⟨iY z.bad h0,X.prog,X.w,X.mg⟩) (v.fz hl) ⟨rfl,rfl,rfl,fun a o q e=>⟨⟨rfl,q.2⟩,e⟩⟩
     |true=>
      refine D1.mono (top:=fun a=>¬z.bad a) (c:=z.cn) (c':=⟨iY z.bad h0,X.prog,X.w,X.mg⟩) ⟨rfl,rfl,rfl,fun a o q e=>⟨⟨rfl,q.2⟩,e⟩⟩ (fun a o q e=>⟨⟨rfl,q⟩,e⟩) ?_
      generalize RV.pv _=p at v hl
      cases p with
      |lst ps=>obtain⟨a,its,n,e1,_,r⟩:=v.rd;exact⟨a,its,n,e1,v.nb rfl a e1,r⟩
      |dct ks ps=>obtain⟨a,its,e1,_,r⟩:=v.rd;exact⟨a,its,e1,v.nb rfl a e1,r⟩
      |_=>cases hl
   refine xt n hc hr hb hz (bad:=z.bad) (fun a h=>h) (fun a h=>.inl h) dd e fun u s' g d=>⟨g,?_⟩
   have ok:∀a o,¬z.bad a->s'.heap.get? a=some o->o.cls=.type "tuple"->z.H a=none:=fun a o w e c=>by
    cases q:z.H a with
    |none=>rfl
    |some o'=>
     obtain⟨ob,r1,r2⟩:=(g.1.ot a o' q).2
     rw[e] at r1;cases r1
     exact absurd c r2
   cases pr with
   |v p=>exact (Bc fun a o q e c=>⟨ok a o q.2 e c,q.2⟩).1 ht d
   |n ps=>
    obtain⟨a,rfl,n,its,m,e1,l,t⟩:=d
    refine⟨a,rfl,n,hz.free n,its,m,e1,l,(Bc fun b o q e c=>⟨?_,q.2⟩).2 ht t⟩
    have q1:=q.1
    by_cases hb:b=a
    ·subst hb;rw[cz] at q1;cases q1
    ·rw[bF hb];exact ok b o q.2 e c
  ·cases q
structure DefN (P:Program)(w:World)(K:PySem.W.Frag)(mg:Str->Option Value)(base:Heap)(cm:Bool)(k:Nat)(x:Str)(F:Fn):Prop where
 ex:∃f fd ps,NF P w K mg base cm k f fd ps F/\Binds K fd ps []/\PySem.W.keepIn K (.ref f)=true/\mg x=some (.ref f)
theorem CB {cm:Bool}{k j:Nat}{x:Str}{p:Pos}{F:Fn}(n:DefN X.prog X.w X.K X.mg X.base cm j x F)(hj:j≤k)(hc:cm=true->X.calm=true)(hr:Rm k X.A)(hg:Gl X x)(ha:NA X (e::es) fs)(hdb:(x==("__debug__" : Str))=false)
  (he:starEach (e::es) X.env=(false,eval e X.env)::starEach es X.env) (hpl:(backTo pos (starEach es X.env)).any (·.1)=false):NE X (.Call (.Name x p) (e::es) [] pos) (aX F fs):=fun z s r E hz q=>by
 obtain⟨f,fd,ps,n,hb,hk,hm⟩:=n.ex
 obtain⟨rs,er,q⟩:=Option.bind_eq_some_iff.mp q
 refine wpAny_Call_Name_kw (lu hz.I hg hm ?_ hdb)
 refine PySem.W.callWith_K (h₀:=X.base) hz.I.ok.mod.kin hk (bE (ha z pos s rs E hz er) fun us s1 ⟨g1,d1⟩=>⟨g1.1.I.kIn,?_⟩) he hpl
 exact bE (r9 (n.mono hj) hc hr hb g1.1 d1 q) fun u s2 q2=>g1.post q2
theorem Ac {cm:Bool}{k j:Nat}{x:Str}{p:Pos}{F:Fn}(n:DefN X.prog X.w X.K X.mg X.base cm j x F)(hj:j≤k)(hc:cm=true->X.calm=true)(hr:Rm k X.A)(hg:Gl X x)(hdb:(x==("__debug__" : Str))=false):NE X (.Call (.Name x p) [] [] pos) (wI F):=fun z s r E hz q=>by
 obtain⟨f,fd,ps,n,hb,hk,hm⟩:=n.ex
 obtain⟨pr,er,rfl⟩:=Option.map_eq_some_iff.mp q
 refine wpAny_Call_Name_kw (lu hz.I hg hm ?_ hdb)
 exact PySem.W.callWith_K0 hz.I.kIn hk (r9 (rs:=[]) (h00:=s.heap) (us:=[]) (n.mono hj) hc hr hb hz .nil (show (F []).map qb=_ by rw[er];rfl))
structure Nm (X:Cx)(i:Nat)(x:Str):Prop where
 nd:X.N.Nodup
 ix:X.N[i]?=some x
 loc:Hg X.env.scope x
 fn:X.fn x=true\/X.env.scope.names.lookup x=some .local
 an:X.fn "" = true->(∃a,X.H₀ a≠none)->i≠0
theorem je {σ:L2.St}{ρ:aK}{i j:Nat}{a:Addr}{v:V}{p:PV}(o:ci (σ.set i (some v)) (ρ.set i (some (.val p))) j a):ci σ ρ j a:=by
 obtain⟨⟨t,e,ot⟩,q⟩:=o
 by_cases hj:i=j
 ·subst hj
  rw[List.getElem?_set] at e
  simp only[if_true] at e
  split at e
  ·cases e;cases ot
  ·cases e
 ·rw[List.getElem?_set_ne hj] at e q
  exact⟨⟨t,e,ot⟩,q⟩
noncomputable def Z.tv (z:Z X)(s:Shared)(ρ:aK)(s':Shared):Prop:=∃σ',(z.wi σ' z.H ρ).ok s'/\Ext z.bad s.heap s'.heap
theorem Z.tv.to {z:Z X}{s s':Shared}{ρ:aK}:z.tv s ρ s'->z.to s ρ s'
 |⟨σ',ok,e⟩=>⟨σ',z.H,ok,e.stp⟩
theorem Z.ok.stored {z:Z X}{s s':Shared}(hz:z.ok s){i:Nat}(an:X.fn "" = true->(∃a,X.H₀ a≠none)->i≠0){p:PV}{u:Value}{v:V}(hi:i<z.σ.length)(d:D z.cn s.heap p u)(ru:hK v u)(rv:∀u',hK v u'->D z.cn s.heap p u')(I':Inv X z.pins (z.σ.set i (some v)) z.H s')(e:Ext z.bad s.heap s'.heap):z.tv s (z.ρ.set i (some (.val p))) s':=by
 have hi2:i<z.ρ.length:=by rw[←hz.len];exact hi
 refine⟨z.σ.set i (some v),⟨I',by simp[hz.len],fun j t q=>?_,fun j k a o1 o2=>hz.dj j k a (je o1) (je o2),fun j a o=>hz.nb j a (je o),hz.oh,hz.oh0,hz.loc,hz.cel,hz.fs,hz.ex,fun b q=>let ⟨o,r⟩:=hz.there b q;e.th b o r,hz.bs,fun a o q=>⟨(hz.ot a o q).1,let ⟨ob,r1,r2⟩:=(hz.ot a o q).2;⟨ob,e.kp a ob (hz.ot a o q).1 r1,r2⟩⟩,fun hf a ha=>(List.getElem?_set_ne (an hf ⟨a,ha⟩)).trans (hz.anc hf a ha)⟩,e⟩
 by_cases hj:i=j
 ·subst hj
  have q:(z.ρ.set i (some (.val p)))[i]?=some (some t):=q
  rw[List.getElem?_set_self hi2] at q
  cases q
  exact⟨v,List.getElem?_set_self hi,⟨u,ru⟩,fun u' r=>(rv u' r).m e.kpD⟩
 ·have q:(z.ρ.set i (some (.val p)))[j]?=some (some t):=q
  rw[List.getElem?_set_ne hj] at q
  obtain⟨w,e1,r,d⟩:=hz.slk j t q
  exact⟨w,by rw[show (z.wi (z.σ.set i (some v)) z.H (z.ρ.set i (some (.val p)))).σ=z.σ.set i (some v) from rfl,List.getElem?_set_ne hj];exact e1,r,d.step hz e q e1⟩
theorem iK {z:Z X}{s s':Shared}{x:Str}{a:Addr}(hz:z.ok s){σ':L2.St}{H':Hp}(I':Inv X z.pins σ' H' s')(sb:Heap.SameBut a s.heap s'.heap)(ha:a=X.env.locals\/X.env.cells.lookup x=some a):Ext z.bad s.heap s'.heap:=by
 have hb:z.bad a:=by
  rcases ha with e|e
  ·rw[e];exact hz.loc
  ·exact hz.cel x a e
 refine⟨fun b o n e=>(sb.2 b (fun q=>n (q▸hb))).trans e,fun b o e=>?_⟩
 by_cases hba:b=a
 ·subst hba
  rcases ha with q|q
  ·obtain⟨m,⟨o',_,_,e',_⟩,_⟩:=I'.loc;exact⟨o',by rw[q];exact e'⟩
  ·obtain⟨v,o',e',_⟩:=I'.cell x b q;exact⟨o',e'⟩
 ·exact⟨o,(sb.2 b hba).trans e⟩
theorem dR {z:Z X}{s:Shared}(hz:z.ok s){i:Nat}{x:Str}(nm:Nm X i x){p:PV}{u:Value}(d:D z.cn s.heap p u){E:Value->Shared->Prop} :
  W X (storeName X.env x u) (fun _ s'=>z.tv s (z.ρ.set i (some (.val p))) s') E s:=by
 obtain⟨v,ru,rv⟩:=d.v
 refine ij hz.I nm.nd nm.ix nm.loc ru (fun s' I' ⟨a,sb,ha⟩=>?_) nm.fn
 exact Z.ok.stored hz nm.an (by rw[hz.I.len];exact (List.getElem?_eq_some_iff.mp nm.ix).1) d ru rv I' (iK hz I' sb ha)
theorem Inv.track {pins:List (Addr×Obj)}{σ:L2.St}{H:Hp}{s:Shared}{a:Addr}{ob:Obj}(I:Inv X pins σ H s)(hn:H a=none)(ho:s.heap.get? a=some ob)(h00:X.s₀.heap.get? a=none)(hL:a≠X.env.locals)(hC:∀x c,X.env.cells.lookup x=some c->c≠a)(hp:∀p∈X.pn++pins,p.1≠a):Inv X pins σ (eV H a bz) s:=by
 have ne:∀b o,H b=some o->b≠a:=fun b o e z=>by subst z;rw[hn] at e;cases e
 refine⟨I.ok,I.os,I.bare,⟨I.base.keep,I.base.slot,fun b o e n hx=>?_,I.base.there,fun b xs e=>?_,fun b o u e=>?_,fun b ps e=>?_⟩,I.loc,I.cell,?_,fun x c e=>?_,fun p q=>?_,fun b o e=>?_,I.len⟩
 ·rw[bF (fun z=>by subst z;rw[h00] at e;cases e)];exact I.base.free b o e n hx
 ·have:=I.base.tups b xs e;rw[bF (ne b _ this)];exact this
 ·have:=I.base.frzs b o u e;rw[bF (ne b _ this)];exact this
 ·obtain⟨m,this⟩:=I.base.tbls b ps e;exact⟨m,by rw[bF (ne b _ this)];exact this⟩
 ·rw[bF (Ne.symm hL)];exact I.free
 ·rw[bF (hC x c e)];exact I.freeC x c e
 ·obtain⟨q1,q2,q3⟩:=I.pin p q;exact⟨q1,by rw[bF (hp p q)];exact q2,q3⟩
 ·by_cases hb:b=a
  ·subst hb;rw[cz] at e;cases e;exact⟨trivial,⟨ob,ho⟩,fun _ _ _ _=>trivial⟩
  ·rw[bF hb] at e
   exact (I.hok b o e).stay (fun _ _ _ q=>q) (fun c q=>by rw[bF (ne c _ q)];exact q) fun c xs q=>by rw[bF (ne c _ q)];exact q
noncomputable def uP (H:Hp)(a:Addr):Hp:=fun b=>if b=a then none else H b
theorem j1 {H:Hp}{a:Addr}:uP H a a=none:=by unfold uP;rw[if_pos rfl]
theorem gZ {H:Hp}{a b:Addr}(h:b≠a):uP H a b=H b:=by unfold uP;rw[if_neg h]
theorem im {H:Hp}{a b:Addr}(h:H b=none):uP H a b=none:=by unfold uP;split<;>trivial
theorem Inv.untrack {pins:List (Addr×Obj)}{σ:L2.St}{H:Hp}{s:Shared}{a:Addr}(I:Inv X pins σ H s)(ha:H a=some bz):Inv X pins σ (uP H a) s:=by
 have ne:∀b o,H b=some o->o≠bz->b≠a:=fun b o e n z=>by subst z;rw[ha] at e;cases e;exact n rfl
 refine⟨I.ok,I.os,I.bare,⟨I.base.keep,I.base.slot,fun b o e n hx=>im (I.base.free b o e n hx),I.base.there,fun b xs e=>?_,fun b o u e=>?_,fun b ps e=>?_⟩,I.loc,I.cell,im I.free,fun x c e=>im (I.freeC x c e),fun p q=>?_,fun b o e=>?_,I.len⟩
 ·have:=I.base.tups b xs e;rw[gZ (ne b _ this fun q=>nomatch q)];exact this
 ·have:=I.base.frzs b o u e;rw[gZ (ne b _ this fun q=>nomatch q)];exact this
 ·obtain⟨m,this⟩:=I.base.tbls b ps e;exact⟨m,by rw[gZ (ne b _ this fun q=>nomatch q)];exact this⟩
 ·obtain⟨q1,q2,q3⟩:=I.pin p q;exact⟨q1,im q2,q3⟩
 ·by_cases hb:b=a
  ·subst hb;rw[j1] at e;cases e
  ·rw[gZ hb] at e
   exact (I.hok b o e).stay (fun _ _ _ q=>q) (fun c q=>by rw[gZ (ne c _ q fun q=>nomatch q)];exact q) fun c xs q=>by rw[gZ (ne c _ q fun q=>nomatch q)];exact q
theorem nK {z:Z X}{s1:Shared}(hz:z.ok s1){i:Nat}{x:Str}(nm:Nm X i x){t:Sl}(ht:cI t=true){a:Addr}(fr:iY z.bad z.H a)(h00:X.s₀.heap.get? a=none)(hp:∀p∈X.pn++z.pins,p.1≠a)
  (nt:∃ob,s1.heap.get? a=some ob/\ob.cls≠.type "tuple") (d:SlOk (bV X z.bad (eV z.H a bz)) (eV z.H a bz) s1.heap t (.ref a)) (sk:∀(j:Nat) t v,z.ρ[j]?=some (some t)->z.σ[j]?=some (some v)->SlOk (bV X z.bad (eV z.H a bz)) z.H s1.heap t v) {E:Value->Shared->Prop} :
  W X (storeName X.env x (.ref a)) (fun _ s'=>∃σ',(z.wi σ' (eV z.H a bz) (z.ρ.set i (some t))).ok s'/\Ext z.bad s1.heap s'.heap) E s1:=by
 obtain⟨ob,ho,hcl⟩:=nt
 have hnb:=fr.2
 have I1:Inv X z.pins z.σ (eV z.H a bz) s1:=Inv.track hz.I fr.1 ho h00 (fun q=>hnb (q▸hz.loc)) (fun y c e q=>hnb (q▸hz.cel y c e)) hp
 refine ij I1 nm.nd nm.ix nm.loc (v:=.ref a) rfl (fun s' I' ⟨b,sb,hb⟩=>?_) nm.fn
 have e:Ext z.bad s1.heap s'.heap:=iK (z:=z) hz I' sb hb
 have hil:i<z.σ.length:=by rw[hz.I.len];exact (List.getElem?_eq_some_iff.mp nm.ix).1
 have hil2:i<z.ρ.length:=by rw[←hz.len];exact hil
 have hnf:∀j,¬ci z.σ z.ρ j a:=fun j o=>by
  obtain⟨⟨t',e1,ot⟩,q⟩:=o
  obtain⟨v,e2,_,d2⟩:=hz.slk j t' e1
  rw[q] at e2;cases e2
  have:z.H a=some bz:=by
   cases t' with
   |val p=>cases ot
   |own ps=>obtain⟨b,e3,h,_⟩:=d2;cases e3;exact h
   |dic ks ps=>obtain⟨b,e3,h,_⟩:=d2;cases e3;exact h
  rw[fr.1] at this;cases this
 have oset:∀{j b},ci (z.σ.set i (some (.ref a))) (z.ρ.set i (some t)) j b->(j=i/\b=a)\/(j≠i/\ci z.σ z.ρ j b):=fun {j b} o=>by
  obtain⟨⟨t',e1,ot⟩,q⟩:=o
  by_cases hj:i=j
  ·subst hj
   rw[List.getElem?_set_self hil] at q;cases q
   exact .inl ⟨rfl,rfl⟩
  ·rw[List.getElem?_set_ne hj] at e1 q
   exact .inr ⟨Ne.symm hj,⟨t',e1,ot⟩,q⟩
 have hne:∀{b},z.H b=some bz->b≠a:=fun {b} hb y=>by subst y;rw[fr.1] at hb;cases hb
 refine⟨z.σ.set i (some (.ref a)),⟨I',by simp[hz.len],fun j t' q=>?_,fun j k b o1 o2=>?_,fun j b o=>?_,fun b o q=>?_,hz.oh0,hz.loc,hz.cel,hz.fs,hz.ex,fun b q=>let ⟨o,r⟩:=hz.there b q;e.th b o r,hz.bs,fun b o q=>?_,fun hf b hb=>(List.getElem?_set_ne (nm.an hf ⟨b,hb⟩)).trans (hz.anc hf b hb)⟩,e⟩
 ·by_cases hj:i=j
  ·subst hj
   have q:(z.ρ.set i (some t))[i]?=some (some t'):=q
   rw[List.getElem?_set_self hil2] at q
   cases q
   refine⟨.ref a,List.getElem?_set_self hil,⟨.ref a,rfl⟩,?_⟩
   refine SlOk.mono (c:=bV X z.bad (eV z.H a bz)) (c':=bV X z.bad (eV z.H a bz)) e.kpD (fun b o hb w=>?_) d
   by_cases hba:b=a
   ·subst hba;exact e.kp b o hnb w
   ·have hb:eV z.H a bz b=some bz:=hb
    rw[bF hba] at hb;exact e.kp b o (hz.ot b _ hb).1 w
  ·have q:(z.ρ.set i (some t))[j]?=some (some t'):=q
   rw[List.getElem?_set_ne hj] at q
   obtain⟨w,e1,r,_⟩:=hz.slk j t' q
   refine⟨w,by rw[show (z.wi (z.σ.set i (some (.ref a))) (eV z.H a bz) (z.ρ.set i (some t))).σ=z.σ.set i (some (.ref a)) from rfl,List.getElem?_set_ne hj];exact e1,r,?_⟩
   have d:=SlOk.mono (c':=bV X z.bad (eV z.H a bz)) e.kpD (fun b o hb w=>e.kp b o (hz.ot b _ hb).1 w) (sk j t' w q e1)
   cases t' with
   |val p=>exact d
   |own ps=>obtain⟨b,rfl,hb,l⟩:=d;exact⟨b,rfl,(bF (hne hb)).trans hb,l⟩
   |dic ks ps=>obtain⟨b,rfl,hb,l⟩:=d;exact⟨b,rfl,(bF (hne hb)).trans hb,l⟩
 ·rcases oset o1 with ⟨e1,e2⟩|⟨e1,e2⟩<;>rcases oset o2 with ⟨f1,f2⟩|⟨f1,f2⟩
  ·rw[e1,f1]
  ·subst e2;exact absurd f2 (hnf k)
  ·subst f2;exact absurd e2 (hnf j)
  ·exact hz.dj j k b e2 f2
 ·rcases oset o with ⟨e1,e2⟩|⟨e1,e2⟩
  ·subst e2;exact⟨hnb,.inl h00⟩
  ·exact hz.nb j b e2
 ·by_cases hba:b=a
  ·subst hba
   have q:eV z.H b bz b=some o:=q
   rw[cz] at q;cases q;rfl
  ·have q:eV z.H a bz b=some o:=q
   rw[bF hba] at q;exact hz.oh b o q
 ·by_cases hba:b=a
  ·subst hba;exact⟨hnb,ob,e.kp b ob hnb ho,hcl⟩
  ·have q:eV z.H a bz b=some o:=q
   rw[bF hba] at q
   obtain⟨r0,ob',r1,r2⟩:=hz.ot b o q
   exact⟨r0,ob',e.kp b ob' r0 r1,r2⟩
theorem Z.ok.sk {z:Z X}{s:Shared}(hz:z.ok s){bad':Addr->Prop}{h':Heap}{a:Addr}(n:s.heap.get? a=none)(e:Ext z.bad s.heap h')(nb:∀b,bad' b->z.bad b\/s.heap.get? b=none)(j:Nat)(t:Sl)(v:V)(e1:z.ρ[j]?=some (some t))(e2:z.σ[j]?=some (some v)):SlOk (bV X bad' (eV z.H a bz)) z.H h' t v:=by
 obtain⟨w,e3,_,d⟩:=hz.slk j t e1
 rw[e2] at e3;cases e3
 exact SlOk.mono (c:=z.cn) (c':=bV X bad' (eV z.H a bz)) ⟨rfl,rfl,rfl,fun b o q g=>⟨⟨by rw[bF (fun y=>by subst y;rw[n] at g;cases g)];exact q.1,fun y=>(nb b y).elim q.2 fun y=>by rw[y] at g;cases g⟩,e.kp b o q.2 g⟩⟩ (fun b o hb w=>e.kp b o (hz.ot b _ hb).1 w) d
theorem Stp.new {bad:Addr->Prop}{H:Hp}{h h':Heap}{a:Addr}(e:Ext bad h h')(n:h.get? a=none):Stp bad H (eV H a bz) h h':=
 ⟨fun b o nb hn hb=>⟨e.kp b o nb hb,by rw[bF (fun y=>by subst y;rw[n] at hb;cases hb)];exact hn⟩,e.th⟩
theorem xy {z:Z X}{s s1:Shared}(hz:z.ok s)(g:z.go s s1){i:Nat}{x:Str}(nm:Nm X i x){t:Sl}(ht:cI t=true){a:Addr}(n:s.heap.get? a=none)(nt:∃ob,s1.heap.get? a=some ob/\ob.cls≠.type "tuple")(d:SlOk (bV X z.bad (eV z.H a bz)) (eV z.H a bz) s1.heap t (.ref a)){E:Value->Shared->Prop} :
  W X (storeName X.env x (.ref a)) (fun _ s'=>z.to s (z.ρ.set i (some t)) s') E s1:=
 bE (nK g.1 nm ht (hz.free n) (gJ hz n) (fun p hp q=>by have:=(hz.I.pin p hp).1;rw[q,n] at this;cases this) nt d (hz.sk n g.2 fun b=>.inl)) fun _ s' ⟨σ',ok,e⟩=>⟨σ',_,ok,Stp.new (g.2.trans e) n⟩
end
end Dp
end
section
namespace Dp
open PySem PySem.Spec L2 PyProof.Rows
section
variable {X:Cx}{e:Expr}{f:FE}{es:List Expr}{fs:FA}{pos:Pos}{i:Nat}{x:Str}
noncomputable def Af (o:Option PV)(i:Nat)(ρ:aK):Out:=match o with
 |some p=>.nx (ρ.set i (some (.val p)))
 |none=>.bad
noncomputable def cH (i:Nat)(f:FE):FS:=fun ρ=>Af ((f ρ).bind RV.fr) i ρ
theorem Z.go.tv {z:Z X}{s s1 s2:Shared}{ρ:aK}(g:z.go s s1)(h:z.tv s1 ρ s2):z.tv s ρ s2:=let ⟨σ',ok,e⟩:=h;⟨σ',ok,g.2.trans e⟩
theorem Eo {p':Pos}(n:Nm X i x)(h:NE X e f)(hs:swapsWith e (some (.Name x p')) pos.line X.env=pure false):NS X (.Assign [.Name x p'] e pos) (cH i f):=fun z s E hz hb=>by
 unfold cH Af at hb ⊢
 split at hb
 ·next p ep=>
  obtain⟨r,er,ep⟩:=Option.bind_eq_some_iff.mp ep
  exact wpAny_Assign_Name (bE (h z s r E hz er) fun u s1 q=>bE (dR q.1.1 n (q.2.fr ep)) fun _ s2 w=>⟨rfl,(q.1.tv w).to⟩) hs
 ·exact absurd rfl hb
noncomputable def zF (o:Option RV)(i:Nat)(ρ:aK):Out:=match o with
 |some (.fz p)=>.nx (ρ.set i (some (.val p)))
 |some (.nw ps)=>.nx (ρ.set i (some (.own ps)))
 |_=>.bad
noncomputable def iG (i:Nat)(f:FE):FS:=fun ρ=>zF (f ρ) i ρ
theorem jY {h:Heap}{a:Addr}{c:Cn}{ps:List PV}:ListAt c h a ps->∃ob,h.get? a=some ob/\ob.cls≠.type "tuple"
 |⟨its,n,e,_⟩=>⟨_,e,by intro q;exact absurd (Value.type.inj q) (by decide)⟩
theorem EA {p':Pos}(n:Nm X i x)(h:NE X e f)(hs:swapsWith e (some (.Name x p')) pos.line X.env=pure false):NS X (.Assign [.Name x p'] e pos) (iG i f):=fun z s E hz hb=>by
 unfold iG zF at hb ⊢
 split at hb
 ·next p er=>exact wpAny_Assign_Name (bE (h z s _ E hz er) fun u s1 q=>bE (dR q.1.1 n q.2) fun _ s2 w=>⟨rfl,(q.1.tv w).to⟩) hs
 ·next ps er=>exact wpAny_Assign_Name (bE (h z s _ E hz er) fun u s1 q=>by
   obtain⟨g,a,rfl,nn,o,l⟩:=q
   exact bE (xy hz g n (t:=.own ps) rfl nn (jY l) ⟨a,rfl,cz,l⟩) fun _ s2 w=>⟨rfl,w⟩) hs
 ·exact absurd rfl hb
noncomputable abbrev FT:=PV->aK->Option aK
noncomputable abbrev vF:=List PV->aK->Option aK
noncomputable def NG (X:Cx)(tg:Expr)(t:FT):Prop:=∀(z:Z X) s p u ρ E,z.ok s->D z.cn s.heap p u->t p z.ρ=some ρ->W X (assign tg X.env u) (fun _ s'=>z.tv s ρ s') E s
noncomputable def Fp (X:Cx)(tgs:List Expr)(t:vF):Prop:=∀(z:Z X) s ps us ρ E,z.ok s->Ds z.cn s.heap ps us->t ps z.ρ=some ρ->W X (assignInOrder ((assignEach tgs X.env).map (·.2)) us) (fun _ s'=>z.tv s ρ s') E s
noncomputable def gN (i:Nat):FT:=fun p ρ=>some (ρ.set i (some (.val p)))
noncomputable def g0:vF:=fun ps ρ=>match ps with
 |[]=>some ρ
 |_=>none
noncomputable def gC (t:FT)(ts:vF):vF:=fun ps ρ=>match ps with
 |p::ps=>(t p ρ).bind fun ρ'=>ts ps ρ'
 |[]=>none
noncomputable def gw (n:Nat)(ts:vF):FT:=fun p ρ=>match p with
 |.tup ps=>if ps.length=n then ts ps ρ else none
 |_=>none
theorem Gh (n:Nm X i x):NG X (.Name x pos) (gN i):=fun z s p u ρ E hz d q=>by
 cases q;exact wpAny_assign_Name (dR hz n d)
theorem Z.tv.trans {z:Z X}{s s1 s2:Shared}{ρ1 ρ2:aK}{σ1:L2.St}(e:Ext z.bad s.heap s1.heap)(h:(z.wi σ1 z.H ρ1).tv s1 ρ2 s2):z.tv s ρ2 s2:=let ⟨σ',ok,e'⟩:=h;⟨σ',ok,e.trans e'⟩
theorem HP:Fp X [] g0:=fun z s ps us ρ E hz d q=>by
 cases ps with
 |nil=>cases q;rw[show us=[] from d];exact assignInOrder_nil ⟨z.σ,hz,.refl⟩
 |cons=>cases q
theorem HL {t:FT}{ts:vF}(h1:NG X e t)(h2:Fp X es ts)(hs:(assignEach (e::es) X.env).map (·.2)=assign e X.env::(assignEach es X.env).map (·.2)):Fp X (e::es) (gC t ts):=fun z s ps us ρ E hz d q=>by
 cases ps with
 |nil=>cases q
 |cons p ps=>
  obtain⟨u,r,rfl,d1,d2⟩:=d
  obtain⟨ρ1,e1,e2⟩:=Option.bind_eq_some_iff.mp q
  rw[hs]
  refine assignInOrder_cons (bE (h1 z s p u ρ1 E hz d1 e1) fun _ s1 ⟨σ1,ok,x1⟩=>?_)
  exact bE (h2 (z.wi σ1 z.H ρ1) s1 ps r ρ E ok (d2.mono x1.kpD) e2) fun _ s2 w=>Z.tv.trans x1 w
theorem HK {k n:Nat}{ts:vF}(hc:X.calm=true)(h:Fp X es ts)(hn:(assignEach es X.env).length=n)(hst:(assignEach es X.env).findIdx? (·.1)=none):NG X (.Tuple es k pos) (gw n ts):=fun z s p u ρ E hz d q=>by
 unfold gw at q
 split at q
 ·next ps=>
  split at q
  ·next hl=>
   obtain⟨a,its,rfl,o,ht,zl,ds⟩:=d
   refine assign_Tuple_tuple (hz.I.ok.hd hc) ht (by simp[hn,←hl,ds.length]) hst fun h' hx=>?_
   have g:z.go s { s with heap:=h' }:=hz.kept (t:=s.toks) fun b o e=>hx b o (Nat.ne_of_lt (Heap.lt_size e)) e
   exact bE (h z _ ps its ρ E g.1 (ds.mono g.2.kpD) q) fun _ s2 w=>g.tv w
  ·cases q
 ·cases q
noncomputable def DK (o:Option aK):Out:=match o with
 |some ρ=>.nx ρ
 |none=>.bad
noncomputable def zD (o:Option PV)(t:FT)(ρ:aK):Out:=match o with
 |some p=>DK (t p ρ)
 |none=>.bad
noncomputable def jL (f:FE)(t:FT):FS:=fun ρ=>zD ((f ρ).bind RV.fr) t ρ
theorem EI {tg:Expr}{t:FT}(h:NE X e f)(hg:NG X tg t)(hs:swapsWithSole [tg] e pos.line X.env=pure false)(hw:swappedStores [tg] e X.env=pure none)
  (h1:(assignEach [tg] X.env).map (·.2)=[assign tg X.env]):NS X (.Assign [tg] e pos) (jL f t):=fun z s E hz hb=>by
 unfold jL zD DK at hb ⊢
 split at hb
 ·next p ep=>
  split at hb
  ·next ρ et=>
   obtain⟨r,er,ep⟩:=Option.bind_eq_some_iff.mp ep
   refine wpAny_Assign_stores (bE (h z s r E hz er) fun u s1 q=>?_) hs hw
   rw[h1]
   exact bE (hg z s1 p u ρ E q.1.1 (q.2.fr ep) et) fun _ s2 w=>⟨rfl,(q.1.tv w).to⟩
  ·exact absurd rfl hb
 ·exact absurd rfl hb
noncomputable def AK (o:Option (List PV))(i j:Nat)(ρ:aK):Out:=match o with
 |some [p,q]=>.nx ((ρ.set i (some (.val p))).set j (some (.val q)))
 |_=>.bad
noncomputable def mQ (i j:Nat)(fs:FA):FS:=fun ρ=>AK ((fs ρ).bind fun rs=>rs.mapM RV.fr) i j ρ
theorem Es {j:Nat}{y:Str}{a b:Expr}{px py pt:Pos}{kt k2 pt2}(hc:X.calm=true)(n1:Nm X i x)(n2:Nm X j y)(hij:i≠j)(hx:X.env.scope.names.lookup x=some .local)(hy:X.env.scope.names.lookup y=some .local)(ha:NA X [a,b] fs)
  (hw:swappedStores [.Tuple [.Name x px,.Name y py] kt pt] (.Tuple [a,b] k2 pt2) X.env=pure (some [x,y]))
  (hs:swapsWithSole [.Tuple [.Name x px,.Name y py] kt pt] (.Tuple [a,b] k2 pt2) pos.line X.env=pure false) :
  NS X (.Assign [.Tuple [.Name x px,.Name y py] kt pt] (.Tuple [a,b] k2 pt2) pos) (mQ i j fs):=fun z s E hz hb=>by
 unfold mQ AK at hb ⊢
 split at hb
 ·next p q epq=>
  obtain⟨rs,er,epq⟩:=Option.bind_eq_some_iff.mp epq
  rw[exec_Assign_arm]
  refine wpAny_bind (wpAny_standAt ?_)
  rw[hs]
  refine wpAny_bind (wpAny_pure ?_)
  rw[if_neg (by decide)]
  refine wpAny_bind (Tuple_ (bE (ha z _ s rs E hz er) fun us s1 ⟨g1,d1⟩=>?_))
  obtain⟨u1,r1,rfl,dp,u2,r2,rfl,dq,e3⟩:=d1.fr epq
  cases (show r2=[] from e3)
  refine wpAny_newObj_type ?_ (by show 2≤sizeLine;decide)
  have g2:=g1.1.push { cls:=.type "tuple",data:=.seq [u1,u2].toArray } s1.toks
  rw[hw]
  refine wpAny_bind (wpAny_pure ?_)
  show W X (do rule "assign.swapped-stores";let items ←unpackItems (.ref s1.heap.objs.size) 2 none;assignInOrder [fun v=>bindName X.env y v,fun v=>bindName X.env x v] items.reverse;pure Flow.next) _ _ _
  refine wpAny_bind (wpAny_rule (wpAny_bind (unpackItems_tuple (items:=#[u1,u2]) (hz.I.ok.hd hc) (IsTup.new s1.heap _) fun h' hx'=>?_)))
  have g3:z.go _ { s1 with heap:=h' }:=g2.1.kept (t:=s1.toks) fun b o e=>hx' b o (Nat.ne_of_lt (Heap.lt_size e)) e
  have ge:=g2.2.trans g3.2
  show wpAny _ _ (assignInOrder [fun v=>bindName X.env y v,fun v=>bindName X.env x v] [u2,u1] >>= fun _=>pure Flow.next) _ _ _
  refine wpAny_bind (assignInOrder_cons (wpAny_bindName (bE (dR (p:=q) g3.1 n2 (dq.m ge.kpD)) fun _ s2 ⟨σ1,ok1,x1⟩=>?_)))
  refine assignInOrder_cons (wpAny_bindName (bE (dR (p:=p) ok1 n1 (dp.m (ge.trans x1).kpD)) fun _ s3 ⟨σ2,ok2,x2⟩=>assignInOrder_nil (wpAny_pure ?_)))
  refine⟨rfl,σ2,z.H,?_,(g1.2.trans (ge.trans (x1.trans x2))).stp⟩
  have ec:(z.ρ.set i (some (Sl.val p))).set j (some (Sl.val q))=(z.ρ.set j (some (Sl.val q))).set i (some (Sl.val p)):=List.set_comm _ _ hij
  rw[ec]
  exact ok2
 ·exact absurd rfl hb
theorem Z.ok.mut0 {z:Z X}{s s':Shared}(hz:z.ok s){a:Addr}(o:ci z.σ z.ρ i a)(I':Inv X z.pins z.σ z.H s')(k:∀b u,¬z.bad b->b≠a->s.heap.get? b=some u->s'.heap.get? b=some u)(th:∀b u,s.heap.get? b=some u->∃u',s'.heap.get? b=some u'){t:Sl}(ht:cI t=true)(nt:∃ob,s'.heap.get? a=some ob/\ob.cls≠.type "tuple")
  (d:Kp z.cn z.cn s.heap s'.heap->SlOk z.cn z.H s'.heap t (.ref a)):(z.wi z.σ z.H (z.ρ.set i (some t))).ok s'/\Stp z.bad z.H z.H s.heap s'.heap:=by
 obtain⟨⟨t0,e0,o0⟩,q0⟩:=id o
 obtain⟨v,e2,_,d2⟩:=hz.slk i t0 e0
 rw[q0] at e2;cases e2
 have hH:z.H a=some bz:=by
  cases t0 with
  |val p=>cases o0
  |own ps=>obtain⟨b,e3,h,_⟩:=d2;cases e3;exact h
  |dic ks ps=>obtain⟨b,e3,h,_⟩:=d2;cases e3;exact h
 obtain⟨ob,hob,hcl⟩:=nt
 have hil:i<z.ρ.length:=(List.getElem?_eq_some_iff.mp e0).1
 have kp:Kp z.cn z.cn s.heap s'.heap:=⟨rfl,rfl,rfl,fun b u q e=>⟨q,k b u q.2 (fun y=>by have q1:z.H b=none:=q.1;rw[y,hH] at q1;cases q1) e⟩⟩
 have own:∀{j b},ci z.σ (z.ρ.set i (some t)) j b->ci z.σ z.ρ j b:=fun {j b} ⟨⟨t',e1,ot⟩,q⟩=>by
  by_cases hj:i=j
  ·subst hj;exact⟨⟨t0,e0,o0⟩,q⟩
  ·rw[List.getElem?_set_ne hj] at e1;exact⟨⟨t',e1,ot⟩,q⟩
 refine⟨⟨I',by simp[hz.len],fun j t' q=>?_,fun j k b o1 o2=>hz.dj j k b (own o1) (own o2),fun j b o=>hz.nb j b (own o),hz.oh,hz.oh0,hz.loc,hz.cel,hz.fs,hz.ex,fun b q=>let ⟨u,r⟩:=hz.there b q;th b u r,hz.bs,fun b o q=>?_,hz.anc⟩,⟨fun b u n hn e=>⟨k b u n (fun y=>by rw[y,hH] at hn;cases hn) e,hn⟩,th⟩⟩
 ·by_cases hj:i=j
  ·subst hj
   have q:(z.ρ.set i (some t))[i]?=some (some t'):=q
   rw[List.getElem?_set_self hil] at q
   cases q
   exact⟨.ref a,q0,⟨.ref a,rfl⟩,d kp⟩
  ·have q:(z.ρ.set i (some t))[j]?=some (some t'):=q
   rw[List.getElem?_set_ne hj] at q
   obtain⟨w,e1,r,dd⟩:=hz.slk j t' q
   refine⟨w,e1,r,?_⟩
   have ne:∀b,w=.ref b->cI t'=true->b≠a:=fun b e3 ot y=>by
    subst y e3
    exact hj (hz.dj i j b o ⟨⟨t',q,ot⟩,e1⟩)
   cases t' with
   |val p=>exact fun u r=>(dd u r).m kp
   |own ps=>obtain⟨b,rfl,hb,l⟩:=dd;exact⟨b,rfl,hb,l.mono kp fun o w=>k b o (hz.ot b _ hb).1 (ne b rfl rfl) w⟩
   |dic ks ps=>obtain⟨b,rfl,hb,l⟩:=dd;exact⟨b,rfl,hb,l.mono kp fun o w=>k b o (hz.ot b _ hb).1 (ne b rfl rfl) w⟩
 ·obtain⟨r0,u,r1,r2⟩:=hz.ot b o q
  by_cases hb:b=a
  ·subst hb;exact⟨r0,ob,hob,hcl⟩
  ·exact⟨r0,u,k b u r0 hb r1,r2⟩
theorem Z.ok.mut {z:Z X}{s:Shared}(hz:z.ok s){a:Addr}(o:ci z.σ z.ρ i a){h':Heap}{tk:Nat}(k:∀b u,b≠a->s.heap.get? b=some u->h'.get? b=some u){t:Sl}(ht:cI t=true)(nt:∃ob,h'.get? a=some ob/\ob.cls≠.type "tuple")
  (d:∀(c:Cn),c=z.cn->Kp c c s.heap h'->SlOk c z.H h' t (.ref a)):(z.wi z.σ z.H (z.ρ.set i (some t))).ok { s with heap:=h',toks:=tk }/\Stp z.bad z.H z.H s.heap h':=by
 obtain⟨⟨t0,e0,o0⟩,q0⟩:=id o
 obtain⟨v,e2,_,d2⟩:=hz.slk i t0 e0
 rw[q0] at e2;cases e2
 have hH:z.H a=some bz:=by
  cases t0 with
  |val p=>cases o0
  |own ps=>obtain⟨b,e3,h,_⟩:=d2;cases e3;exact h
  |dic ks ps=>obtain⟨b,e3,h,_⟩:=d2;cases e3;exact h
 have I':Inv X z.pins z.σ z.H { s with heap:=h',toks:=tk }:=by
  obtain⟨ob,hob,hcl⟩:=nt
  have:=hz.I.write (x:=a) (e:=a) (o:=bz) (h':=h') (t':=tk) (by rw[hH];exact trivial) (.inl rfl) k ⟨ob,hob⟩ ⟨trivial,⟨ob,hob⟩,fun _ _ _ _=>trivial⟩
  rwa [mx hH] at this
 exact Z.ok.mut0 hz o I' (fun b u _=>k b u) (fun b u e=>by
  by_cases hb:b=a
  ·subst hb;obtain⟨ob,hob,_⟩:=nt;exact⟨ob,hob⟩
  ·exact⟨u,k b u hb e⟩) ht nt (d _ rfl)
theorem Z.ok.owned {z:Z X}{s:Shared}(hz:z.ok s){t:Sl}(e:sl z.ρ i=some t)(ho:cI t=true):∃a,ci z.σ z.ρ i a/\z.H a=some bz/\SlOk z.cn z.H s.heap t (.ref a):=by
 obtain⟨v,e2,_,d2⟩:=hz.slk i t (fS e)
 cases t with
 |val p=>cases ho
 |own ps=>obtain⟨b,rfl,h,l⟩:=d2;exact⟨b,⟨⟨_,fS e,rfl⟩,e2⟩,h,b,rfl,h,l⟩
 |dic ks ps=>obtain⟨b,rfl,h,l⟩:=d2;exact⟨b,⟨⟨_,fS e,rfl⟩,e2⟩,h,b,rfl,h,l⟩
theorem ke {z:Z X}{s:Shared}(hz:z.ok s){a:Addr}(o:z.σ[i]?=some (some (.ref a))){p:Pos}(hN:X.N[i]?=some x)(hv:np X.env.scope x)(hd:(x==("__debug__" : Str))=false)(hcd:(x==("__classdict__" : Str))=false){Q:Value->Shared->Prop}{E:Value->Shared->Prop}(h:Q (.ref a) s):W X (eval (.Name x p) X.env) Q E s:=by
 obtain⟨m,hn,hl⟩:=hz.I.loc
 obtain⟨u,r,l⟩:=hl i x _ hN o hv
 cases (show u=Value.ref a from r)
 rcases l with ⟨hk,hm⟩|⟨hk,c,hc,hcell⟩
 ·exact wpAny_Name (wpAny_loadName_local hz.I.ok.kind hk hn hm h) hd
 ·rcases hk with hk|hk
  ·exact wpAny_Name (wpAny_loadName_cell hz.I.ok.kind hk hc hcell h) hd
  ·exact wpAny_Name (wpAny_loadName_free hz.I.ok.kind hk hc hcell h hcd) hd
noncomputable abbrev GM:=Sl->List PV->Option (Sl×PV)
structure MtN (X:Cx)(T:String)(name:Str)(id:String)(g:GM):Prop where
 pa:PlainAttrs T
 slot:Slot T name id
 hty:typeOf (.builtin id)=pure (.type "method_descriptor")
 ty:∀t ps r,g t ps=some r->cI t=true/\∀(c:Cn) H h a,SlOk c H h t (.ref a)->∃ob,h.get? a=some ob/\ob.cls=.type T/\ob.dict=none
 call:∀(z:Z X) s i t a ps us t' p E,z.ok s->sl z.ρ i=some t->ci z.σ z.ρ i a->SlOk z.cn z.H s.heap t (.ref a)->Ds z.cn s.heap ps us->g t ps=some (t',p) →
  W X (call (.builtin id) (.ref a::us)) (fun v s'=>(z.wi z.σ z.H (z.ρ.set i (some t'))).ok s'/\Stp z.bad z.H z.H s.heap s'.heap/\D z.cn s'.heap p v) E s
noncomputable def CH (g:GM)(o:Option Sl)(ps:Option (List PV)):Option (Sl×PV):=match o,ps with
 |some t,some ps=>g t ps
 |_,_=>none
structure McN (X:Cx)(i:Nat)(x:Str)(name:Str)(p apos cpos:Pos)(es:List Expr):Prop where
 hN:X.N[i]?=some x
 hv:np X.env.scope x
 hd:(x==("__debug__" : Str))=false
 hcd:(x==("__classdict__" : Str))=false
 base:attributeBase (.Name x p) name X.env (eval (.Name x p) X.env)=eval (.Name x p) X.env
 line:(apos.endLine==cpos.line)=true
 few:((backTo cpos (starEach es X.env)).all (fun x=>!x.1)&&(backToKw cpos (keywordEach [] X.env)).all (fun x=>x.1.isSome)&&decide (es.length+([]:List Keyword).length+(if ([]:List Keyword).isEmpty then 0 else 1)<30))=true
 ns:∀e r,es=e::r->starEach (e::r) X.env=(false,eval e X.env)::starEach r X.env/\(backTo cpos (starEach r X.env)).any (·.1)=false
theorem tJ {T:String}{name:Str}{id:String}{g:GM}(m:MtN X T name id g){p apos cpos:Pos}(c:McN X i x name p apos cpos es)(ha:NA X es fs)(h0:es=[]->fs=af){z:Z X}{s:Shared}(hz:z.ok s){t':Sl}{q:PV}(e:CH g (sl z.ρ i) ((fs z.ρ).bind fun rs=>rs.mapM RV.fr)=some (t',q)){E:Value->Shared->Prop} :
  W X (eval (.Call (.Attribute (.Name x p) name apos) es [] cpos) X.env) (fun v s'=>(z.wi z.σ z.H (z.ρ.set i (some t'))).ok s'/\Stp z.bad z.H z.H s.heap s'.heap/\D z.cn s'.heap q v) E s:=by
 unfold CH at e
 split at e
 ·next t ps et eps=>
  obtain⟨rs,er,eps⟩:=Option.bind_eq_some_iff.mp eps
  obtain⟨ho,hT⟩:=m.ty t ps _ e
  obtain⟨a,oa,hH,d⟩:=Z.ok.owned hz et ho
  obtain⟨ob,e1,e2,e3⟩:=hT _ _ _ _ d
  have fin:∀us s1,z.go s s1->RvsOk z s.heap s1.heap rs us->W X (call (.builtin id) (.ref a::us)) (fun v s'=>(z.wi z.σ z.H (z.ρ.set i (some t'))).ok s'/\Stp z.bad z.H z.H s.heap s'.heap/\D z.cn s'.heap q v) E s1:=fun us s1 g1 d1=>by
   obtain⟨a',oa',_,d'⟩:=Z.ok.owned g1.1 et ho
   have:a'=a:=by have h1:=oa.2;have h2:=oa'.2;rw[h1] at h2;cases h2;rfl
   subst this
   exact bE (m.call z s1 i t a' ps us t' q E g1.1 et oa' d' (d1.fr eps) e) fun v s2 w=>⟨w.1,g1.2.stp.trans w.2.1,w.2.2⟩
  cases es with
  |nil=>
   refine wpAny_Call_method0_late c.base c.line (ke hz oa.2 c.hN c.hv c.hd c.hcd ⟨T,id,m.pa,m.slot,m.hty,⟨ob,e1,e2⟩,fun b q=>by cases q;exact⟨ob,e1,e3⟩,Calls.callWith_builtin rfl (PySem.evalArgs_none ?_)⟩)
   rw[h0 rfl] at er;cases er
   exact fin [] s hz.refl .nil
  |cons e0 es0=>
   refine wpAny_Call_method_late c.base c.few c.line rfl (ke hz oa.2 c.hN c.hv c.hd c.hcd ⟨T,id,m.pa,m.slot,m.hty,⟨ob,e1,e2⟩,fun b q=>by cases q;exact⟨ob,e1,e3⟩,?_⟩)
   obtain⟨hs,hp⟩:=c.ns e0 es0 rfl
   have hA:=ha z cpos s rs E hz er
   rw[hs] at hA ⊢
   refine Calls.callWith_builtin (by show (false || (backTo cpos (starEach es0 X.env)).any (·.1))=false;rw[hp]<;>rfl) (Calls.evalArgs_plain ?_)
   exact bE hA fun us s1 ⟨g1,d1⟩=>fin us s1 g1 d1
 ·cases e
end
end Dp
end
section
namespace Dp
open PySem PySem.Spec L2 PyProof.Rows
section
variable {X:Cx}{e:Expr}{f fi:FE}{es:List Expr}{fs:FA}{pos:Pos}{i j:Nat}{x:Str}
noncomputable def zI (o:Option (Sl×PV))(i:Nat)(ρ:aK):Out:=match o with
 |some (t,_)=>.nx (ρ.set i (some t))
 |none=>.bad
noncomputable def lK (g:GM)(i:Nat)(fs:FA):FS:=fun ρ=>zI (CH g (sl ρ i) ((fs ρ).bind fun rs=>rs.mapM RV.fr)) i ρ
theorem BZ {T:String}{name:Str}{id:String}{g:GM}(m:MtN X T name id g){p apos cpos:Pos}(c:McN X i x name p apos cpos es)(ha:NA X es fs)(h0:es=[]->fs=af)(hs:swapsWith (.Call (.Attribute (.Name x p) name apos) es [] cpos) none pos.line X.env=pure false) :
  NS X (.Expr (.Call (.Attribute (.Name x p) name apos) es [] cpos) pos) (lK g i fs):=fun z s E hz hb=>by
 unfold lK zI at hb ⊢
 split at hb
 ·next t q e=>exact wpAny_Expr_any (bE (tJ m c ha h0 hz e) fun v s1 w=>⟨rfl,z.σ,z.H,w.1,w.2.1⟩) hz.I.quiet hs
 ·exact absurd rfl hb
noncomputable def AI (o:Option (Sl×PV))(j i:Nat)(ρ:aK):Out:=match o with
 |some (t,p)=>.nx ((ρ.set i (some t)).set j (some (.val p)))
 |none=>.bad
noncomputable def vq (g:GM)(j i:Nat)(fs:FA):FS:=fun ρ=>AI (CH g (sl ρ i) ((fs ρ).bind fun rs=>rs.mapM RV.fr)) j i ρ
theorem Bp {T:String}{name y:Str}{id:String}{g:GM}(m:MtN X T name id g){p p' apos cpos:Pos}(c:McN X i x name p apos cpos es)(n:Nm X j y)(ha:NA X es fs)(h0:es=[]->fs=af)(hs:swapsWith (.Call (.Attribute (.Name x p) name apos) es [] cpos) (some (.Name y p')) pos.line X.env=pure false) :
  NS X (.Assign [.Name y p'] (.Call (.Attribute (.Name x p) name apos) es [] cpos) pos) (vq g j i fs):=fun z s E hz hb=>by
 unfold vq AI at hb ⊢
 split at hb
 ·next t q e=>
  refine wpAny_Assign_Name (bE (tJ m c ha h0 hz e) fun v s1 w=>?_) hs
  exact bE (dR (p:=q) w.1 n w.2.2) fun _ s2 ⟨σ',ok,x⟩=>⟨rfl,σ',z.H,ok,w.2.1.trans x.stp⟩
 ·exact absurd rfl hb
theorem lp {t:Sl}{ps:List PV}(e:t=.own ps):cI t=true/\∀(c:Cn) H h a,SlOk c H h t (.ref a)->∃ob,h.get? a=some ob/\ob.cls=.type "list"/\ob.dict=none:=by
 subst e
 exact⟨rfl,fun c H h a ⟨b,e1,_,its,n,e2,_⟩=>by cases e1;exact⟨_,e2,rfl,rfl⟩⟩
theorem ii {z:Z X}{s:Shared}(hz:z.ok s){a:Addr}(o:ci z.σ z.ρ i a){its its':List Value}{n:Nat}{g:Array Value->Array Value}{ps':List PV}(e:s.heap.get? a=some (eS its n))(hg:g its.toArray=its'.toArray)(d:Ds z.cn s.heap ps' its')(l:its'.length≤sizeLine)(hH:z.H a=some bz)(tk:Nat) :
  (z.wi z.σ z.H (z.ρ.set i (some (.own ps')))).ok { s with heap:=s.heap.update a (Obj.mapSeq g),toks:=tk }/\Stp z.bad z.H z.H s.heap (s.heap.update a (Obj.mapSeq g)):=by
 have q:=PySem.IsL.update e g
 rw[hg] at q
 exact Z.ok.mut hz o (fun b u hb hu=>(Heap.get?_update_other s.heap (Obj.mapSeq g) (Ne.symm hb)).trans hu) (t:=.own ps') rfl ⟨_,q,by intro w;exact absurd (Value.type.inj w) (by decide)⟩ fun c ec k=>by
  subst ec;exact⟨a,rfl,hH,its',_,q,l,d.mono k⟩
noncomputable def hZ:GM:=fun t ps=>match t,ps with
 |.own ps,[q]=>if ps.length≤100000 then some (.own (ps++[q]),.non) else none
 |_,_=>none
theorem Eb:MtN X "list" "append" "list.append" hZ where
 pa:=PySem.F.plainAttrs_list
 slot:=PySem.F.slot_list_append
 hty:=PySem.F.type_list_append
 ty:=fun t ps r e=>by
  unfold hZ at e
  split at e
  ·exact lp rfl
  ·cases e
 call:=fun z s i t a ps us t' p E hz et oa d du e=>by
  unfold hZ at e
  split at e
  ·next ps q=>
   split at e
   ·next hl=>
    cases e
    obtain⟨b,e1,hH,its,n,e2,zl,ds⟩:=d
    cases e1
    obtain⟨u,r,rfl,dq,er⟩:=du
    cases (show r=[] from er)
    have l:=ds.length
    have hb:=DW hl
    refine call_meets F.slot_list_append ⟨_,e2,rfl⟩ F.entry_list_append (F.args_list_append_2 _ _) (PySem.list_append a its.toArray n u (by rw[List.size_toArray];omega)) ⟨e2,?_⟩
    have m:=ii hz oa e2 (g:=(·.push u)) (its':=its++[u]) (by simp) (ds.app (.one dq)) (by rw[List.length_append,List.length_singleton];omega) hH s.toks
    exact⟨m.1,m.2,rfl⟩
   ·cases e
  ·cases e
noncomputable def yb:GM:=fun t ps=>match t,ps with
 |.own ps,[]=>some (.own ps.reverse,.non)
 |_,_=>none
theorem D5:MtN X "list" "reverse" "list.reverse" yb where
 pa:=PySem.F.plainAttrs_list
 slot:=PySem.F.slot_list_reverse
 hty:=PySem.F.type_list_reverse
 ty:=fun t ps r e=>by
  unfold yb at e
  split at e
  ·exact lp rfl
  ·cases e
 call:=fun z s i t a ps us t' p E hz et oa d du e=>by
  unfold yb at e
  split at e
  ·next ps=>
   cases e
   obtain⟨b,e1,hH,its,n,e2,zl,ds⟩:=d
   cases e1
   cases (show us=[] from du)
   refine call_meets F.slot_list_reverse ⟨_,e2,rfl⟩ F.entry_list_reverse (F.args_list_reverse_1 _) (AutoSeq1.list_reverse_list_0 a its.toArray n (by rw[List.size_toArray];omega)) ⟨e2,?_⟩
   have m:=ii hz oa e2 (g:=(·.reverse)) (its':=its.reverse) (by simp) ds.rev (by rw[List.length_reverse];exact zl) hH s.toks
   exact⟨m.1,m.2,rfl⟩
  ·cases e
noncomputable def nz:GM:=fun t ps=>match t,ps with
 |.own ps,[.int k]=>if 0≤k/\k<100000 then (ps[k.toNat]?).map fun p=>(.own (ps.eraseIdx k.toNat),p) else none
 |.own ps,[]=>(ps[ps.length - 1]?).map fun p=>(.own ps.dropLast,p)
 |_,_=>none
theorem Ds.erase {c:Cn}{h:Heap}:∀{ps:List PV} {us:List Value} (k:Nat),Ds c h ps us->Ds c h (ps.eraseIdx k) (us.eraseIdx k)
 |[],_,_,d=>by rw[show _=[] from d];rfl
 |_::_,_,0,⟨u,r,e,d,t⟩=>by rw[e];exact t
 |_::_,_,k+1,⟨u,r,e,d,t⟩=>by rw[e];exact⟨u,_,rfl,d,Ds.erase k t⟩
theorem wt:MtN X "list" "pop" "list.pop" nz where
 pa:=PySem.F.plainAttrs_list
 slot:=PySem.F.slot_list_pop
 hty:=PySem.F.type_list_pop
 ty:=fun t ps r e=>by
  unfold nz at e
  split at e
  ·exact lp rfl
  ·exact lp rfl
  ·cases e
 call:=fun z s i t a ps us t' p E hz et oa d du e=>by
  unfold nz at e
  split at e
  ·next ps k=>
   split at e
   ·next hk=>
    obtain⟨q,e3,e4⟩:=Option.map_eq_some_iff.mp e
    cases e4
    obtain⟨b,e1,hH,its,n,e2,zl,ds⟩:=d
    cases e1
    obtain⟨u,r,rfl,⟨tt,rfl⟩,er⟩:=du
    cases (show r=[] from er)
    have l:=ds.length
    have hlt:k.toNat<ps.length:=(List.getElem?_eq_some_iff.mp e3).1
    obtain⟨w,hw,dw⟩:=ds.get e3
    refine call_meets F.slot_list_pop ⟨_,e2,rfl⟩ F.entry_list_pop (F.args_list_pop_2 _ _)
     (MeetsSeq.list_pop_at a its.toArray n k tt k.toNat w (fitsIndex_both (by omega) (by omega)) (by rw[List.size_toArray,seqIndex_of hk.1 (by omega)]) (by rw[←Array.getElem?_toList];exact hw) (by rw[List.size_toArray];omega)) ⟨e2,?_⟩
    have m:=ii hz oa e2 (g:=(·.eraseIdxIfInBounds k.toNat)) (its':=its.eraseIdx k.toNat) (by rw[List.eraseIdxIfInBounds_toArray]) (Ds.erase _ ds) (by have:=nU its k.toNat;omega) hH s.toks
    exact⟨m.1,m.2,dw.m m.2.kpD⟩
   ·cases e
  ·next ps=>
   obtain⟨q,e3,e4⟩:=Option.map_eq_some_iff.mp e
   cases e4
   obtain⟨b,e1,hH,its,n,e2,zl,ds⟩:=d
   cases e1
   cases (show us=[] from du)
   have l:=ds.length
   obtain⟨w,hw,dw⟩:=ds.get e3
   rw[←l] at hw
   refine call_meets F.slot_list_pop ⟨_,e2,rfl⟩ F.entry_list_pop (F.args_list_pop_1 _) (MeetsSeq.list_pop_last a its.toArray n w (by simpa using hw) (by rw[List.size_toArray];omega)) ⟨e2,?_⟩
   have dd:=Ds.erase (its.length - 1) ds
   rw[jN] at dd
   rw[l,jN] at dd
   have m:=ii hz oa e2 (g:=(·.eraseIdxIfInBounds (its.toArray.size - 1))) (its':=its.dropLast) (by rw[List.size_toArray,List.eraseIdxIfInBounds_toArray,jN]) dd (by rw[List.length_dropLast];omega) hH s.toks
   exact⟨m.1,m.2,dw.m m.2.kpD⟩
  ·cases e
noncomputable def u5 (o:Option Nat)(v:PV)(ps:List PV)(j:Nat)(ρ:aK):Out:=match o with
 |some n=>.nx (ρ.set j (some (.own (ps.set n v))))
 |none=>.bad
noncomputable def Am (v:Option PV)(o:Option Sl)(k:Option PV)(j:Nat)(ρ:aK):Out:=match v,o,k with
 |some v,some (.own ps),some (.int k)=>u5 (pJ ps.length k) v ps j ρ
 |_,_,_=>.bad
noncomputable def mJ (j:Nat)(fi f:FE):FS:=fun ρ=>Am ((f ρ).bind RV.fr) (sl ρ j) ((fi ρ).bind RV.fr) j ρ
theorem uI {z:Z X}{s:Shared}(hz:z.ok s){a:Addr}(o:ci z.σ z.ρ i a){ps:List PV}{k:Int}{t:Tok}{n:Nat}{v:PV}{u:Value}(hH:z.H a=some bz)(l:ListAt z.cn s.heap a ps)(hn:pJ ps.length k=some n)(d:D z.cn s.heap v u){E:Value->Shared->Prop} :
  W X (setItem (.ref a) (.int k t) u) (fun _ s'=>(z.wi z.σ z.H (z.ρ.set i (some (.own (ps.set n v))))).ok s'/\Stp z.bad z.H z.H s.heap s'.heap) E s:=by
 obtain⟨its,m,e,zl,ds⟩:=l
 obtain⟨h1,h2,h3,h4⟩:=tL hn
 have hl:=ds.length
 have hlb:=kA
 have fin:=ii hz o e (g:=(·.setIfInBounds n u)) (its':=its.set n u) (by simp) (ds.set d n) (by rw[List.length_set];exact zl) hH s.toks
 by_cases h0:0≤k
 ·have hk:k.toNat=n:=by
   rw[seqIndex_of h0 h4] at h1
   exact Option.some.inj h1
  exact PySem.W.ki_setAt e h0 (by omega) (by rw[List.size_toArray,hl];exact h4) (by rw[hk];exact fin)
 ·have hk:(k+(its.toArray.size:Int)).toNat=n:=by
   rw[seqIndex_neg (by omega) h3] at h1
   rw[List.size_toArray,hl]
   exact Option.some.inj h1
  exact PySem.W.ki_setBack e (by omega) (by rw[List.size_toArray,hl];exact h3) (by omega) (by rw[hk];exact fin)
theorem j7 {z:Z X}{s:Shared}(hz:z.ok s){ps:List PV}(e:sl z.ρ i=some (.own ps)){a:Addr}(o:z.σ[i]?=some (some (.ref a))):ci z.σ z.ρ i a/\z.H a=some bz/\ListAt z.cn s.heap a ps:=by
 obtain⟨b,o1,h,_,e2,_,l⟩:=Z.ok.owned hz e rfl
 cases e2
 have:=o1.2
 rw[o] at this;cases this
 exact⟨o1,h,l⟩
theorem E8 {ix o:Expr}{p:Pos}{tpos:Pos}(hN:X.N[j]?=some x)(hv:np X.env.scope x)(hd:(x==("__debug__" : Str))=false)(hcd:(x==("__classdict__" : Str))=false)(hi:NE X ix fi)(h:NE X e f)
  (hs:swapsWithSole [.Subscript (.Name x p) ix tpos] e pos.line X.env=pure false) (hw:swappedStores [.Subscript (.Name x p) ix tpos] e X.env=pure none)
  (h1:(assignEach [.Subscript (.Name x p) ix tpos] X.env).map (·.2)=[assign (.Subscript (.Name x p) ix tpos) X.env])
  (ha:∀v,assign (.Subscript (.Name x p) ix tpos) X.env v=(do
   let ov ←holding [v] (eval (.Name x p) X.env)
   let iv ←holding [v,ov] (eval ix X.env)
   standAt tpos
   holding [v,ov,iv] (setItem ov iv v)
   release [v,ov,iv] [])):NS X (.Assign [.Subscript (.Name x p) ix tpos] e pos) (mJ j fi f):=fun z s E hz hb=>by
 unfold mJ Am at hb ⊢
 split at hb
 ·next v ps k ev es ek=>
  unfold u5 at hb ⊢
  split at hb
  ·next n en=>
   obtain⟨r,er,ev⟩:=Option.bind_eq_some_iff.mp ev
   obtain⟨rk,erk,ek⟩:=Option.bind_eq_some_iff.mp ek
   refine wpAny_Assign_stores (bE (h z s r E hz er) fun u s1 q=>?_) hs hw
   rw[h1]
   show W X (assign _ X.env u) _ E s1
   rw[ha]
   obtain⟨a,o1,_,_⟩:=Z.ok.owned hz es rfl
   refine wpAny_bind (wpAny_holding (ke q.1.1 o1.2 hN hv hd hcd ?_))
   refine wpAny_bind (wpAny_holding (bE (hi z s1 rk E q.1.1 erk) fun iv s2 q2=>?_))
   obtain⟨t,rfl⟩:=q2.2.fr ek
   obtain⟨o2,hH,l⟩:=j7 q2.1.1 es o1.2
   refine wpAny_bind (wpAny_standAt (wpAny_bind (wpAny_holding (bE (uI q2.1.1 o2 hH l en ((q.2.fr ev).m q2.1.2.kpD)) fun _ s3 w=>?_))))
   exact wpAny_release ⟨rfl,z.σ,z.H,w.1,(q.1.2.trans q2.1.2).stp.trans w.2⟩
  ·exact absurd rfl hb
 ·exact absurd rfl hb
noncomputable def Fs (g:Int->Int->Int)(o:Option Sl)(v:Option PV)(i:Nat)(ρ:aK):Out:=match o,v with
 |some (.val (.int a)),some (.int b)=>.nx (ρ.set i (some (.val (.int (g a b)))))
 |_,_=>.bad
noncomputable def wC (g:Int->Int->Int)(i:Nat)(f:FE):FS:=fun ρ=>Fs g (sl ρ i) ((f ρ).bind RV.fr) i ρ
noncomputable def yp (X:Cx)(op:Operator)(g:Int->Int->Int):Prop:=∀(a b:Int) (t u:Tok) (s:Shared) (Q:Value->Shared->Prop) E,(∀tk n,Q (.int (g a b) tk) { s with toks:=n })->W X (inplaceOp op (.int a t) (.int b u)) Q E s
theorem wO:yp X .Add fun a b=>a+b:=fun a b t u s Q E h=>iadd_int (h _ _)
theorem wc:yp X .Sub fun a b=>a - b:=fun a b t u s Q E h=>isub_int (h _ _)
theorem Ee {op:Operator}{g:Int->Int->Int}{p':Pos}(n:Nm X i x)(h:NE X e f)(ho:yp X op g):NS X (.AugAssign (.Name x p') op e pos) (wC g i f):=fun z s E hz hb=>by
 unfold wC Fs at hb ⊢
 split at hb
 ·next a b es ev=>
  obtain⟨r,er,ev⟩:=Option.bind_eq_some_iff.mp ev
  have vis:np X.env.scope x:=by rcases n.loc with k|k;exact .inl k;exact .inr (.inl k)
  obtain⟨v,u,m,hn,rr,lk,e1,d,_⟩:=Z.ok.get hz es n.ix vis
  obtain⟨t,rfl⟩:=d u rr
  refine wpAny_AugAssign_Name ?_
  have go:W X (eval e X.env) (fun w s₂=>W X (inplaceOp op (.int a t) w) (fun r s₃=>W X (storeName X.env x r) (fun _=>Z.sp z s (.nx (z.ρ.set i (some (.val (.int (g a b)))))) .next) E s₃) E s₂) E s:=
   bE (h z s r E hz er) fun w s1 q=>by
    obtain⟨t',rfl⟩:=q.2.fr ev
    refine ho a b t t' s1 _ _ fun tk nn=>?_
    have g2:=q.1.trans (q.1.1.tok nn)
    exact bE (dR (p:=.int (g a b)) g2.1 n ⟨tk,rfl⟩) fun _ s2 w=>⟨rfl,(g2.tv w).to⟩
  rcases lk with ⟨hk,hm⟩|⟨hk,c,hc,hcell⟩
  ·exact wpAny_loadName_local hz.I.ok.kind hk hn hm go
  ·rcases hk with hk|hk
   ·exact wpAny_loadName_cell hz.I.ok.kind hk hc hcell go
   ·rcases n.loc with k|k
    ·have:X.env.scope.names.lookup x=some .free:=hk
     rw[k] at this;cases this
    ·have:X.env.scope.names.lookup x=some .free:=hk
     rw[k] at this;cases this
 ·exact absurd rfl hb
noncomputable def sT (g:Int->Int->Int)(o:Option PV)(ps:List PV)(k b:Int)(j:Nat)(ρ:aK):Out:=match o with
 |some (.int a)=>.nx (ρ.set j (some (.own (ps.set k.toNat (.int (g a b))))))
 |_=>.bad
noncomputable def wJ (g:Int->Int->Int)(o:Option Sl)(k v:Option PV)(j:Nat)(ρ:aK):Out:=match o,k,v with
 |some (.own ps),some (.int k),some (.int b)=>if 0≤k then sT g ps[k.toNat]? ps k b j ρ else .bad
 |_,_,_=>.bad
noncomputable def ki (g:Int->Int->Int)(j:Nat)(fi f:FE):FS:=fun ρ=>wJ g (sl ρ j) ((fi ρ).bind RV.fr) ((f ρ).bind RV.fr) j ρ
theorem zq {op:Operator}{g:Int->Int->Int}{ix:Expr}{p tpos:Pos}(hN:X.N[j]?=some x)(hv:np X.env.scope x)(hd:(x==("__debug__" : Str))=false)(hcd:(x==("__classdict__" : Str))=false)(hi:NE X ix fi)(h:NE X e f)(ho:yp X op g)
  (ha:∀ov iv new,augStore ix ov iv new=(do holding [new,ov,iv] (setItem ov iv new);release [new,ov,iv] [];pure .next)):NS X (.AugAssign (.Subscript (.Name x p) ix tpos) op e pos) (ki g j fi f):=fun z s E hz hb=>by
 unfold ki wJ at hb ⊢
 split at hb
 ·next ps k b es ek ev=>
  split at hb
  ·next h0=>
   rw[if_pos h0]
   unfold sT at hb ⊢
   split at hb
   ·next a ea=>
    obtain⟨r,er,ev⟩:=Option.bind_eq_some_iff.mp ev
    obtain⟨rk,erk,ek⟩:=Option.bind_eq_some_iff.mp ek
    obtain⟨ad,o1,_,_⟩:=Z.ok.owned hz es rfl
    have hlt:k.toNat<ps.length:=(List.getElem?_eq_some_iff.mp ea).1
    have hlb:=kA
    refine wpAny_AugAssign_SubscriptAny (ke hz o1.2 hN hv hd hcd ?_) ha
    refine bE (hi z s rk E hz erk) fun iv s2 q2=>?_
    obtain⟨t,rfl⟩:=q2.2.fr ek
    obtain⟨o2,hH,l⟩:=j7 q2.1.1 es o1.2
    obtain⟨its,m,e1,zl,ds⟩:=l
    have hl:=ds.length
    obtain⟨w,ew,tw,rfl⟩:=ds.get ea
    refine wpAny_getItem_list (bJ e1) h0 (by omega) (by simpa using ew) ?_
    refine bE (h z s2 r E q2.1.1 er) fun v s4 q4=>?_
    obtain⟨t',rfl⟩:=q4.2.fr ev
    refine ho a b tw t' s4 _ _ fun tk nn=>?_
    have g5:=q4.1.trans (q4.1.1.tok nn)
    obtain⟨o5,hH5,l5⟩:=j7 g5.1 es o1.2
    have hn:pJ ps.length k=some k.toNat:=by unfold pJ;rw[if_pos h0,if_pos (by omega)]
    exact bE (uI (v:=.int (g a b)) g5.1 o5 hH5 l5 hn ⟨tk,rfl⟩) fun _ s6 w=>⟨rfl,z.σ,z.H,w.1,(q2.1.2.trans g5.2).stp.trans w.2⟩
   ·exact absurd rfl hb
  ·exact absurd rfl hb
 ·exact absurd rfl hb
noncomputable def frz (i:Nat)(ρ:aK):aK:=match ρ[i]? with
 |some (some (.own ps))=>ρ.set i (some (.val (.lst ps)))
 |some (some (.dic ks ps))=>ρ.set i (some (.val (.dct ks ps)))
 |_=>ρ
noncomputable def vM (i:Nat)(s:FS):FS:=fun ρ=>s (frz i ρ)
theorem Z.ok.frz {z:Z X}{s:Shared}(hz:z.ok s)(i:Nat):∃H',(z.wi z.σ H' (Dp.frz i z.ρ)).ok s/\Stp z.bad z.H H' s.heap s.heap:=by
 have main:∀(t:Sl) (p:PV),z.ρ[i]?=some (some t)->cI t=true->(∀(c:Cn) H a,c.ok a->SlOk c H s.heap t (.ref a)->D c s.heap p (.ref a))->∃H',(z.wi z.σ H' (z.ρ.set i (some (.val p)))).ok s/\Stp z.bad z.H H' s.heap s.heap:=fun t p et ho hp=>by
  have hil:i<z.ρ.length:=(List.getElem?_eq_some_iff.mp et).1
  obtain⟨a,oa,hH,d⟩:=Z.ok.owned hz (show sl z.ρ i=some t by unfold sl;rw[et];rfl) ho
  have own:∀{j b},ci z.σ (z.ρ.set i (some (.val p))) j b->j≠i/\ci z.σ z.ρ j b:=fun {j b} ⟨⟨t',e1,ot⟩,q⟩=>by
   by_cases hj:i=j
   ·subst hj;rw[List.getElem?_set_self hil] at e1;cases e1;cases ot
   ·rw[List.getElem?_set_ne hj] at e1;exact⟨Ne.symm hj,⟨t',e1,ot⟩,q⟩
  have kp:Kp z.cn (bV X z.bad (uP z.H a)) s.heap s.heap:=⟨rfl,rfl,rfl,fun b o q e=>⟨⟨im q.1,q.2⟩,e⟩⟩
  refine⟨uP z.H a,⟨Inv.untrack hz.I hH,by simp[hz.len],fun j t' q=>?_,fun j k b o1 o2=>hz.dj j k b (own o1).2 (own o2).2,fun j b o=>hz.nb j b (own o).2,fun b o q=>?_,hz.oh0,hz.loc,hz.cel,hz.fs,hz.ex,hz.there,hz.bs,fun b o q=>?_,hz.anc⟩,⟨fun b o n hn e=>⟨e,im hn⟩,fun b o e=>⟨o,e⟩⟩⟩
  ·by_cases hj:i=j
   ·subst hj
    have q:(z.ρ.set i (some (.val p)))[i]?=some (some t'):=q
    rw[List.getElem?_set_self hil] at q
    cases q
    refine⟨.ref a,oa.2,⟨.ref a,rfl⟩,fun u r=>?_⟩
    rw[show u=.ref a from r]
    exact hp (bV X z.bad (uP z.H a)) z.H a ⟨j1,(hz.ot a _ hH).1⟩ (d.mono kp fun _ _ _ e=>e)
   ·have q2:(z.ρ.set i (some (.val p)))[j]?=some (some t'):=q
    rw[List.getElem?_set_ne hj] at q2
    obtain⟨w,e1,r,dd⟩:=hz.slk j t' q2
    refine⟨w,e1,r,?_⟩
    have ne:∀b,w=.ref b->cI t'=true->b≠a:=fun b e3 ot y=>by
     subst y e3
     exact hj (hz.dj i j b oa ⟨⟨t',q2,ot⟩,e1⟩)
    cases t' with
    |val p=>exact fun u r=>(dd u r).m kp
    |own ps=>obtain⟨b,rfl,hb,l⟩:=dd;exact⟨b,rfl,(gZ (ne b rfl rfl)).trans hb,l.mono kp fun _ e=>e⟩
    |dic ks ps=>obtain⟨b,rfl,hb,l⟩:=dd;exact⟨b,rfl,(gZ (ne b rfl rfl)).trans hb,l.mono kp fun _ e=>e⟩
  ·by_cases hb:b=a
   ·have q:uP z.H a b=some o:=q
    rw[hb,j1] at q;cases q
   ·have q:uP z.H a b=some o:=q
    rw[gZ hb] at q;exact hz.oh b o q
  ·by_cases hb:b=a
   ·have q:uP z.H a b=some o:=q
    rw[hb,j1] at q;cases q
   ·have q:uP z.H a b=some o:=q
    rw[gZ hb] at q;exact hz.ot b o q
 unfold Dp.frz
 split
 ·next ps e=>exact main _ _ e rfl fun c H a o d=>by obtain⟨b,e1,_,its,n,r⟩:=d;cases e1;exact⟨a,its,n,rfl,o,r⟩
 ·next ks ps e=>exact main _ _ e rfl fun c H a o d=>by obtain⟨b,e1,_,kus,r⟩:=d;cases e1;exact⟨a,kus,rfl,o,r⟩
 ·exact⟨z.H,hz,Ext.refl.stp⟩
theorem EG {st:Stmt}{g:FS}(h:NS X st g)(i:Nat):NS X st (vM i g):=fun z s E hz hb=>by
 obtain⟨H',ok,t⟩:=Z.ok.frz hz i
 exact bE (h (z.wi z.σ H' (frz i z.ρ)) s E ok hb) fun fl s' q=>q.back t
end
end Dp
end
section
namespace Dp
open PySem PySem.Spec L2 PyProof.Rows
section
variable {X:Cx}{z:Z X}{s s' s1 s2:Shared}{h h':Heap}{fp:List Addr}
theorem Inv.turnedL {pins:List (Addr×Obj)}{σ:L2.St}{H:Hp}{t':Nat}(I:Inv X pins σ H s)(k:∀b o,b∉fp->s.heap.get? b=some o->h'.get? b=some o)(th:∀b∈fp,∃o,h'.get? b=some o)(f:∀b∈fp,hV X pins H b):Inv X pins σ H { s with heap:=h',toks:=t' }:=by
 have ne:∀b u,H b=some u->b∉fp:=fun b u q y=>by rw[(f b y).1] at q;cases q
 have hl:X.env.locals∉fp:=fun y=>(f _ y).2.1 rfl
 refine I.step (g':=s.gens) (d':=s.drawn) (ch:=fp) (fun b hb=>?_) (fun b o _ _ hc q _=>k b o hc q) (fun b o _ _ hc q _=>⟨o.slots,k b o hc q⟩) (fun _ _ _ _ n=>n)
  (fun b o hc q=>⟨o,k b o hc q⟩) (fun _ _ q=>q) (fun _ _ _ q=>q) (fun b ps q=>⟨#[],by rw[q];simp⟩) (fun m hm=>?_) (fun b u q=>?_) I.bare
 ·obtain⟨f0,f1,f2,f3,f4,f5⟩:=f b hb
  exact⟨f3,f1,f4,f5⟩
 ·obtain⟨o,es,ep,ho,r⟩:=hm
  exact⟨o,es,ep,k _ o hl ho,r⟩
 ·refine (I.hok b u q).stay (fun c v hc g=>?_) (fun _ g=>g) fun _ _ g=>g
  rcases hc with y|y
  ·subst y;exact k _ v (ne _ u q) g
  ·exact k c v (ne c _ y) g
theorem Z.ok.turn {t:Nat}(hz:z.ok s)(f:∀b∈fp,hV X z.pins z.H b/\z.bad b)(k:∀b o,b∉fp->s.heap.get? b=some o->h'.get? b=some o)(th:∀b∈fp,∃o,h'.get? b=some o):z.go s { s with heap:=h',toks:=t }:=
 hz.ext (Inv.turnedL hz.I k th fun b hb=>(f b hb).1) ⟨fun a o n e=>k a o (fun y=>n (f a y).2) e,fun a o e=>by
  by_cases y:a∈fp
  ·exact th a y
  ·exact⟨o,k a o y e⟩⟩
noncomputable abbrev Z.wb (z:Z X)(fp:List Addr):Z X:=⟨fun b=>z.bad b\/b∈fp,z.pins,z.σ,z.H,z.ρ⟩
noncomputable abbrev Z.wp (z:Z X)(pl:List (Addr×Obj)):Z X:=⟨z.bad,z.pins++pl,z.σ,z.H,z.ρ⟩
theorem lv {bad bad':Addr->Prop}{H:Hp}(e:Ext bad h h')(n:∀b,bad' b->bad b\/h.get? b=none):Kp (bV X bad H) (bV X bad' H) h h':=
 ⟨rfl,rfl,rfl,fun a o q g=>⟨⟨q.1,fun y=>(n a y).elim q.2 fun y=>by rw[y] at g;cases g⟩,e.kp a o q.2 g⟩⟩
theorem tH {bad bad':Addr->Prop}{H:Hp}(n:∀b,bad b->bad' b):Kp (bV X bad' H) (bV X bad H) h h:=⟨rfl,rfl,rfl,fun a o q g=>⟨⟨q.1,fun y=>q.2 (n a y)⟩,g⟩⟩
theorem Z.ok.more (hz:z.ok s)(g:z.go s s2)(n:∀b∈fp,s.heap.get? b=none/\∃o,s2.heap.get? b=some o):(z.wb fp).ok s2:=by
 have k:=lv (X:=X) (H:=z.H) (bad':=fun b=>z.bad b\/b∈fp) g.2 fun b y=>y.imp id fun y=>(n b y).1
 have own:∀a o,z.H a=some o->a∉fp:=fun a o q y=>by obtain⟨ob,r⟩:=hz.stands q;rw[(n a y).1] at r;cases r
 have ot:=g.1.ot
 refine⟨g.1.I,hz.len,fun i t q=>?_,hz.dj,fun i a q=>?_,hz.oh,hz.oh0,.inl hz.loc,fun x c e=>.inl (hz.cel x c e),fun b q=>.inl (hz.fs b q),fun b q=>.inl (hz.ex b q),fun b q=>q.elim (g.1.there b) fun q=>(n b q).2,fun b o e q=>?_,fun a o q=>⟨fun y=>y.elim (ot a o q).1 (own a o q),(ot a o q).2⟩,hz.anc⟩
 ·obtain⟨v,e1,r,d⟩:=hz.slk i t q
  refine⟨v,e1,r,d.mono k fun a o ha e=>g.2.kp a o (hz.ot a _ ha).1 e⟩
 ·have e:∃ob,s.heap.get? a=some ob:=by
   obtain⟨⟨t,e1,ot⟩,e2⟩:=q
   obtain⟨v,e3,_,d⟩:=hz.slk i t e1
   rw[e2] at e3;cases e3
   cases t with
   |val p=>cases ot
   |own ps=>obtain⟨b,eb,ho,_⟩:=d;cases eb;exact hz.stands ho
   |dic ks ps=>obtain⟨b,eb,ho,_⟩:=d;cases eb;exact hz.stands ho
  exact⟨fun y=>y.elim (hz.nb i a q).1 fun y=>(by obtain⟨o,e⟩:=e;rw[(n a y).1] at e;cases e),(hz.nb i a q).2⟩
 ·rcases q with q|q
  ·exact hz.bs b o e q
  ·have:=(hz.I.bs b o e).1
   rw[(n b q).1] at this;cases this
theorem Z.ok.less {s3:Shared}{σ:L2.St}{H:Hp}{ρ:aK}(hz:z.ok s)(n:∀b∈fp,s.heap.get? b=none)(ok:((z.wb fp).wi σ H ρ).ok s3)(I:Inv X z.pins σ H s')(k:∀b o,b∉fp->s3.heap.get? b=some o->s'.heap.get? b=some o):(z.wi σ H ρ).ok s':=by
 have kp:Kp (bV X (z.wb fp).bad H) (bV X z.bad H) s3.heap s'.heap:=⟨rfl,rfl,rfl,fun a o q g=>⟨⟨q.1,fun y=>q.2 (.inl y)⟩,k a o (fun y=>q.2 (.inr y)) g⟩⟩
 have no:∀a o,H a=some o->a∉fp:=fun a o q y=>(ok.ot a o q).1 (.inr y)
 refine⟨I,ok.len,fun i t q=>?_,ok.dj,fun i a o=>⟨fun y=>(ok.nb i a o).1 (.inl y),(ok.nb i a o).2⟩,ok.oh,ok.oh0,hz.loc,hz.cel,hz.fs,hz.ex,fun b q=>?_,hz.bs,fun a o q=>⟨fun y=>(ok.ot a o q).1 (.inl y),let ⟨ob,e1,e2⟩:=(ok.ot a o q).2;⟨ob,k a ob (no a o q) e1,e2⟩⟩,ok.anc⟩
 ·obtain⟨v,e1,r,d⟩:=ok.slk i t q
  exact⟨v,e1,r,d.mono kp fun a o h e=>k a o (no a _ h) e⟩
 ·obtain⟨o,e⟩:=ok.there b (.inl q)
  exact⟨o,k b o (fun y=>by obtain⟨o',e'⟩:=hz.there b q;rw[n b y] at e';cases e') e⟩
theorem Stp.less {h3:Heap}{bad:Addr->Prop}{H H':Hp}(e:Ext bad h h1)(n:∀b∈fp,h.get? b=none)(t:Stp (fun b=>bad b\/b∈fp) H H' h1 h3)(k:∀b o,b∉fp->h3.get? b=some o->h'.get? b=some o):Stp bad H H' h h':=by
 have no:∀a o,h.get? a=some o->a∉fp:=fun a o g y=>by rw[n a y] at g;cases g
 refine⟨fun a o nb q g=>?_,fun a o g=>?_⟩
 ·obtain⟨r1,r2⟩:=t.kp a o (fun y=>y.elim nb (no a o g)) q (e.kp a o nb g)
  exact⟨k a o (no a o g) r1,r2⟩
 ·obtain⟨o',q⟩:=e.th a o g
  obtain⟨o2,q⟩:=t.th a o' q
  exact⟨o2,k a o2 (no a o g) q⟩
theorem Z.sp.less {o:Out}{fl:Flow}(hz:z.ok s)(g:Ext z.bad s.heap s2.heap)(n:∀b∈fp,s.heap.get? b=none)(h:(z.wb fp).sp s2 o fl s'):z.sp s o fl s':=by
 have id':∀b o,b∉fp->s'.heap.get? b=some o->s'.heap.get? b=some o:=fun _ _ _ e=>e
 cases o with
 |nx ρ=>obtain⟨e,σ',H',a,b⟩:=h;exact⟨e,σ',H',hz.less n a a.I id',b.less g n id'⟩
 |bk ρ=>obtain⟨e,σ',H',a,b⟩:=h;exact⟨e,σ',H',hz.less n a a.I id',b.less g n id'⟩
 |ct ρ=>obtain⟨e,σ',H',a,b⟩:=h;exact⟨e,σ',H',hz.less n a a.I id',b.less g n id'⟩
 |rt p ρ=>obtain⟨u,σ',H',e,a,b,c⟩:=h;exact⟨u,σ',H',e,hz.less n a a.I id',b.less g n id',c.m (tH fun _=>.inl)⟩
 |rn p ρ=>obtain⟨u,σ',H',e,a,b,c,d,l⟩:=h;exact⟨u,σ',H',e,hz.less n a a.I id',b.less g n id',c,fun y=>d (.inl y),l.mono (tH fun _=>.inl) fun _ e=>e⟩
 |bad=>exact h
end
structure Trn (P:Program)(w:World)(tg:Expr)(it:Addr)(fp pl:List Addr)(its:List PV)(tn:Nat->Cn->Heap->Prop):Prop where
 obj:∀i c h,tn i c h->∀b∈fp,∃o,h.get? b=some o/\∀v,o.data≠.cell v
 keep:∀i c c' h h',tn i c h->Kp c c' h h'->(∀b,b∈fp\/b∈pl->∀o,h.get? b=some o->h'.get? b=some o)->tn i c' h'
 item:∀(X:Cx),X.prog=P->X.w=w->X.calm=true->∀(z:Z X) (s:Shared) (E:Value->Shared->Prop) (i:Nat) (p:PV),z.ok s->(∀b∈fp,hV X z.pins z.H b/\z.bad b)->(∀b∈pl,¬z.bad b)->tn i z.cn s.heap->its[i]?=some p →
  W X (pyNext (.ref it)) (fun r s1=>∃u,r=some u/\W X (letOwnedTupleGo tg (.ref it) u) (fun _ s2=>z.go s s2/\D z.cn s2.heap p u/\tn (i+1) z.cn s2.heap) E s1) E s
 done:∀(X:Cx),X.prog=P->X.w=w->X.calm=true->∀(z:Z X) (s:Shared) (E:Value->Shared->Prop) (i:Nat),z.ok s->(∀b∈fp,hV X z.pins z.H b/\z.bad b)->(∀b∈pl,¬z.bad b)->tn i z.cn s.heap->its.length≤i →
  W X (pyNext (.ref it)) (fun r s1=>r=none/\Inv X z.pins z.σ z.H s1/\∀b o,b∉fp->s.heap.get? b=some o->s1.heap.get? b=some o) E s
 self:∀(A:Around) (i:Nat) (c:Cn) (s:Shared) (Q:Value->Shared->Prop) (E:Value->Shared->Prop),tn i c s.heap->Q (.ref it) s->wpAny (model P w) A (pyIter (.ref it)) Q E s
noncomputable def Fz {X:Cx}(z:Z X)(tg:Expr)(still:Bool)(its:List PV)(s:Shared)(itv:Value)(s2:Shared):Prop:=
 ∃it fp pl tn,itv=.ref it/\(still=true->pl=[])/\(∀b∈pl,¬z.bad b/\b∉fp/\∃o,s2.heap.get? b=some o)/\Trn X.prog X.w tg it fp pl its tn/\z.go s s2/\(∀b∈fp,hV X z.pins z.H b/\s.heap.get? b=none)/\tn 0 (bV X (fun b=>z.bad b\/b∈fp) z.H) s2.heap
noncomputable def NI (X:Cx)(still:Bool)(tg iter:Expr)(f:FI):Prop:=∀(z:Z X) s its E,z.ok s->f z.ρ=some its->W X (eval iter X.env) (fun v s1=>W X (pyIter v) (Fz z tg still its s) E s1) E s
theorem NI.any {X:Cx}{st:Bool}{tg iter:Expr}{f:FI}(h:NI X true tg iter f):NI X st tg iter f:=fun z s its E hz e=>bE (h z s its E hz e) fun v s1 q=>bE q fun itv s2 ⟨it,fp,pl,tn,a,b,r⟩=>⟨it,fp,pl,tn,a,fun _=>b rfl,r⟩
noncomputable def bA (t:FT)(s:FS):List PV->aK->Out
 |[],ρ=>.nx ρ
 |p::ps,ρ=>match t p ρ with
  |some ρ1=>match s ρ1 with
   |.nx ρ2=>bA t s ps ρ2
   |.ct ρ2=>bA t s ps ρ2
   |.bk ρ2=>.nx ρ2
   |o=>o
  |none=>.bad
noncomputable def g8 (it:FI)(t:FT)(s:FS):FS:=fun ρ=>match it ρ with
 |some its=>bA t s its ρ
 |none=>.bad
noncomputable def dM (c:FB)(s:FS):Nat->aK->Out
 |0,_=>.bad
 |n+1,ρ=>match c ρ with
  |some true=>match s ρ with
   |.nx ρ2=>dM c s n ρ2
   |.ct ρ2=>dM c s n ρ2
   |.bk ρ2=>.nx ρ2
   |o=>o
  |some false=>.nx ρ
  |none=>.bad
noncomputable def kx (c:FB)(s:FS):FS:=fun ρ=>dM c s 10000 ρ
section
variable {X:Cx}{tg iter:Expr}{body:List Stmt}{fi:FI}{t:FT}{g:FS}{pos:Pos}
theorem pinned {z:Z X}{s:Shared}{fp:List Addr}(hz:z.ok s)(f:∀b∈fp,hV X z.pins z.H b)(o:∀b∈fp,∃o,s.heap.get? b=some o/\∀v,o.data≠.cell v):(z.wp (jG fp s.heap)).ok s:=
 ⟨hz.I.pinned f o,hz.len,hz.slk,hz.dj,hz.nb,hz.oh,hz.oh0,hz.loc,hz.cel,hz.fs,hz.ex,hz.there,hz.bs,hz.ot,hz.anc⟩
theorem unpinned {z:Z X}{pl:List (Addr×Obj)}{s:Shared}{σ:L2.St}{H:Hp}{ρ:aK}(hz:((z.wp pl).wi σ H ρ).ok s):(z.wi σ H ρ).ok s:=
 ⟨hz.I.unpinned,hz.len,hz.slk,hz.dj,hz.nb,hz.oh,hz.oh0,hz.loc,hz.cel,hz.fs,hz.ex,hz.there,hz.bs,hz.ot,hz.anc⟩
theorem rp {z:Z X}{fp:List Addr}{h:Heap}{s:Shared}{σ:L2.St}{H:Hp}{ρ:aK}(hz:((z.wp (jG fp h)).wi σ H ρ).ok s)(b:Addr)(hb:b∈fp)(o:Obj)(e:h.get? b=some o):s.heap.get? b=some o:=
 (hz.I.pin (b,o) (List.mem_append_right _ (List.mem_append_right _ (sO hb e)))).1
theorem EL (hc:X.calm=true)(hi:NI X true tg iter fi)(hg:NG X tg t)(hb:wY X body g)(hs:∀x,foldedSetIterable iter X.env x=pure x:=by intro _;rfl):NS X (.For tg iter body [] pos) (g8 fi t g):=fun z s E hz hn=>by
 unfold g8 at hn ⊢
 split at hn
 ·next its ei=>
  refine wpAny_For (bE (hi z s its E hz ei) fun v s1 h1=>bE h1 fun itv s2 h2=>?_) hs
  obtain⟨it,fp,pl,tn,e,hpl,_,T,g2,f2,st2⟩:=h2
  cases hpl rfl
  subst e
  have z2:(z.wb fp).ok s2:=hz.more g2 fun b hb=>⟨(f2 b hb).2,let ⟨o,e,_⟩:=T.obj _ _ _ st2 b hb;⟨o,e⟩⟩
  have stat:∀{σ H ρ s'},((z.wb fp).wi σ H ρ).ok s'->∀b∈fp,hV X z.pins H b/\(z.wb fp).bad b:=fun {σ H ρ s'} ok b hb=>⟨⟨by
   cases q:H b with
   |none=>rfl
   |some o=>exact absurd (Or.inr hb) (ok.ot b o q).1,(f2 b hb).1.2⟩,.inr hb⟩
  have fin:∀{fl s'},(z.wb fp).sp s2 (bA t g its z.ρ) fl s'->z.sp s (bA t g its z.ρ) fl s':=fun h=>h.less hz g2.2 fun b hb=>(f2 b hb).2
  generalize ho:bA t g its z.ρ=o at hn fin ⊢
  refine codeAny_forLoop_any (fun n s'=>∃i σ' H' ρ',n=its.length - i/\i≤its.length/\((z.wb fp).wi σ' H' ρ').ok s'/\Stp (z.wb fp).bad z.H H' s2.heap s'.heap/\tn i (bV X (z.wb fp).bad H') s'.heap/\bA t g (its.drop i) ρ'=o) ?_ its.length ⟨0,z.σ,z.H,z.ρ,rfl,Nat.zero_le _,z2,Ext.refl.stp,st2,ho⟩
  rintro n s3 ⟨i,σ3,H3,ρ3,rfl,hi3,ok3,t3,st3,eo⟩
  by_cases hlt:i<its.length
  ·rw[List.drop_eq_getElem_cons hlt,bA] at eo
   cases e1:t its[i] ρ3 with
   |none=>rw[e1] at eo;exact absurd eo.symm hn
   |some ρ4=>
   rw[e1] at eo
   simp only[] at eo
   refine bE (T.item X rfl rfl hc ((z.wb fp).wi σ3 H3 ρ3) s3 _ i its[i] ok3 (stat ok3) (fun b q=>nomatch q) st3 (List.getElem?_eq_getElem hlt)) fun r s4 ⟨u,hr,h4⟩=>?_
   subst hr
   refine bE h4 fun _ s5 ⟨g5,d5,st5⟩=>?_
   have ok5:=pinned g5.1 (fun b hb=>(stat g5.1 b hb).1) (T.obj _ _ _ st5)
   refine bE (hg _ s5 its[i] u ρ4 _ ok5 d5 e1) fun _ s6 ⟨σ6,ok6,x6⟩=>?_
   have hnb:g ρ4≠.bad:=fun q=>by rw[q] at eo;exact hn eo.symm
   refine bE (hb _ s6 _ ok6 hnb) fun f s7 q7=>?_
   have t6:Stp (z.wb fp).bad z.H H3 s2.heap s6.heap:=t3.trans (g5.2.trans x6).stp
   have again:∀{ρ7 σ7 H7},((((z.wb fp).wi σ3 H3 ρ3).wp (jG fp s5.heap)).wi σ7 H7 ρ7).ok s7->Stp (z.wb fp).bad H3 H7 s6.heap s7.heap->bA t g (its.drop (i+1)) ρ7=o →
     ∃m,m<its.length - i/\∃i σ' H' ρ',m=its.length - i/\i≤its.length/\((z.wb fp).wi σ' H' ρ').ok s7/\Stp (z.wb fp).bad z.H H' s2.heap s7.heap/\tn i (bV X (z.wb fp).bad H') s7.heap/\bA t g (its.drop i) ρ'=o:=fun {ρ7 σ7 H7} ok7 t7 e7=>by
    refine⟨its.length - (i+1),by omega,i+1,σ7,H7,ρ7,rfl,hlt,unpinned (z:=(z.wb fp).wi σ3 H3 ρ3) ok7,t6.trans t7,?_,e7⟩
    exact T.keep _ _ _ _ _ st5 (x6.stp.trans t7).kpD fun b hb=>hb.elim (fun hb=>rp (z:=(z.wb fp).wi σ3 H3 ρ3) ok7 b hb) fun q=>nomatch q
   generalize g ρ4=o4 at eo q7 hnb
   cases o4 with
   |nx ρ7=>obtain⟨e,σ7,H7,ok7,t7⟩:=q7;subst e;exact again ok7 t7 eo
   |ct ρ7=>obtain⟨e,σ7,H7,ok7,t7⟩:=q7;subst e;exact again ok7 t7 eo
   |bk ρ7=>obtain⟨e,σ7,H7,ok7,t7⟩:=q7;subst e;refine fin ?_;rw[←eo];exact⟨rfl,σ7,H7,unpinned (z:=(z.wb fp).wi σ3 H3 ρ3) ok7,t6.trans t7⟩
   |rt p ρ7=>obtain⟨u,σ7,H7,e,ok7,t7,d7⟩:=q7;subst e;refine fin ?_;rw[←eo];exact⟨u,σ7,H7,rfl,unpinned (z:=(z.wb fp).wi σ3 H3 ρ3) ok7,t6.trans t7,d7⟩
   |rn p ρ7=>obtain⟨u,σ7,H7,e,ok7,t7,d7⟩:=q7;subst e;refine fin ?_;rw[←eo];exact⟨u,σ7,H7,rfl,unpinned (z:=(z.wb fp).wi σ3 H3 ρ3) ok7,t6.trans t7,d7⟩
   |bad=>exact absurd rfl hnb
  ·rw[List.drop_eq_nil_of_le (by omega),bA] at eo
   refine bE (T.done X rfl rfl hc ((z.wb fp).wi σ3 H3 ρ3) s3 _ i ok3 (stat ok3) (fun b q=>nomatch q) st3 (by omega)) fun r s4 ⟨hr,I4,k4⟩=>?_
   subst hr
   refine wpAny_execs_nil ?_
   show Z.sp z s o .next _
   rw[←eo]
   exact⟨rfl,σ3,H3,hz.less (fun b hb=>(f2 b hb).2) ok3 I4 k4,t3.less g2.2 (fun b hb=>(f2 b hb).2) k4⟩
 ·exact absurd rfl hn
theorem zV {c:Expr}{fc:FB}(hc:NB X c fc)(hb:wY X body g):NS X (.While c body [] pos) (kx fc g):=fun z s E hz hn=>by
 unfold kx at hn ⊢
 generalize ho:dM fc g 10000 z.ρ=o at hn ⊢
 refine wpAny_While (codeAny_whileLoop (fun n s'=>∃σ' H' ρ',(z.wi σ' H' ρ').ok s'/\Stp z.bad z.H H' s.heap s'.heap/\dM fc g n ρ'=o) ?_ 10000 ⟨z.σ,z.H,z.ρ,hz,Ext.refl.stp,ho⟩)
 rintro n s1 ⟨σ1,H1,ρ1,ok1,t1,eo⟩
 cases n with
 |zero=>exact absurd eo.symm hn
 |succ n=>
  rw[dM] at eo
  cases ec:fc ρ1 with
  |none=>rw[ec] at eo;exact absurd eo.symm hn
  |some b=>
  rw[ec] at eo
  refine bE (hc (z.wi σ1 H1 ρ1) s1 b _ ok1 ec) fun b' s2 ⟨e,g2⟩=>?_
  subst e
  cases b' with
  |true=>
   rw[if_pos rfl]
   have hnb:g ρ1≠.bad:=fun q=>by rw[q] at eo;exact hn eo.symm
   refine bE (hb (z.wi σ1 H1 ρ1) s2 _ g2.1 hnb) fun f s3 q3=>?_
   have t2:Stp z.bad z.H H1 s.heap s2.heap:=t1.trans g2.2.stp
   simp only[] at eo
   generalize g ρ1=o4 at eo q3 hnb
   cases o4 with
   |nx ρ7=>obtain⟨e,σ7,H7,ok7,t7⟩:=q3;subst e;exact⟨n,Nat.lt_succ_self _,σ7,H7,ρ7,ok7,t2.trans t7,eo⟩
   |ct ρ7=>obtain⟨e,σ7,H7,ok7,t7⟩:=q3;subst e;exact⟨n,Nat.lt_succ_self _,σ7,H7,ρ7,ok7,t2.trans t7,eo⟩
   |bk ρ7=>obtain⟨e,σ7,H7,ok7,t7⟩:=q3;subst e;show Z.sp z s o .next _;rw[←eo];exact⟨rfl,σ7,H7,ok7,t2.trans t7⟩
   |rt p ρ7=>obtain⟨u,σ7,H7,e,ok7,t7,d7⟩:=q3;subst e;show Z.sp z s o (.ret u) _;rw[←eo];exact⟨u,σ7,H7,rfl,ok7,t2.trans t7,d7⟩
   |rn p ρ7=>obtain⟨u,σ7,H7,e,ok7,t7,d7⟩:=q3;subst e;show Z.sp z s o (.ret (.ref u)) _;rw[←eo];exact⟨u,σ7,H7,rfl,ok7,t2.trans t7,d7⟩
   |bad=>exact absurd rfl hnb
  |false=>
   rw[if_neg Bool.false_ne_true]
   refine wpAny_execs_nil ?_
   show Z.sp z s o .next _
   rw[←eo]
   exact⟨rfl,σ1,H1,g2.1,t1.trans g2.2.stp⟩
end
end Dp
end
section
namespace L2
open PySem PySem.Spec PyProof.Rows
section
variable {prog:Program}{w:World}{A:Around}{E:Value->Shared->Prop}{s:Shared}
theorem B8 {it t:Addr}{i:Nat}{items:Array Value}{x:Value}{Q:Value->Shared->Prop}(hit:s.heap.IsTupleIter it t i)(ht:s.heap.IsTuple t items)(hx:items[i]?=some x)
  (hQ:∀h',h'.IsTupleIter it t (i+1)->Heap.SameBut it s.heap h'->Q x { s with heap:=h' }):wpAny (model prog w) A (Builtin.SmallTypes.nextOf (.ref it)) Q E s:=by
 have hT:=hit.typeIs
 obtain⟨o,ho,hc,hd⟩:=hit;obtain⟨ol,hol,_,nl,hdl⟩:=ht
 unfold Builtin.SmallTypes.nextOf
 refine wpAny_bind (wpAny_callSpecial?_slot (name:=Str.ofString "__next__") hT F.slot_tuple_iterator_next (wpAny_call_entry F.slot_tuple_iterator_next hT F.entry_tuple_iterator_next ?_ (F.args_tuple_iterator_next_1 _)))
 refine (?_:wpAny _ _ (field (.ref it) 0 >>= _) _ _ s);refine wpAny_bind (wpAny_field ho hd (x:=.ref t) rfl (?_:wpAny _ _ (if (Value.ref t==Value.none)=true then _ else _) _ _ s))
 rw[if_neg (show ¬((Value.ref t==Value.none)=true) from Bool.false_ne_true)];refine (?_:wpAny _ _ (field (.ref it) 1 >>= _) _ _ s);refine wpAny_bind (wpAny_field ho hd (x:=.int i 0) rfl (?_:wpAny _ _ (seqItems? (.ref t) >>= _) _ _ s));refine wpAny_bind (m:=seqItems? (.ref t)) (wpAny_seqItems hol hdl ?_);simp only[Int.toNat_natCast,hx]
 refine wpAny_bind (wpAny_setField ho hd (by simp) (wpAny_pure ⟨x,rfl,wpAny_pure (hQ _ ⟨_,Heap.get?_update_self _ ho (Obj.isFreed_of_fields (Obj.data_mapFields hd _)),(Obj.cls_mapFields ..).trans hc,by rw[Obj.data_mapFields hd];simp[rawInt]⟩ (Heap.SameBut.update ..))⟩))
theorem tx {it t:Addr}{i:Nat}{items:Array Value}{Q:Value->Shared->Prop}(hh:A.handled=none)(hit:s.heap.IsTupleIter it t i)(ht:s.heap.IsTuple t items)(hx:items[i]?=none)
  (hE:∀h' e,Heap.ExtBut it s.heap h'->(∃o,h'.get? e=some o/\o.cls=.type "StopIteration")->E (.ref e) { s with heap:=h' }):wpAny (model prog w) A (Builtin.SmallTypes.nextOf (.ref it)) Q E s:=by
 have hT:=hit.typeIs
 obtain⟨o,ho,hc,hd⟩:=hit;obtain⟨ol,hol,_,nl,hdl⟩:=ht
 unfold Builtin.SmallTypes.nextOf
 refine wpAny_bind (wpAny_callSpecial?_slot (name:=Str.ofString "__next__") hT F.slot_tuple_iterator_next (wpAny_call_entry F.slot_tuple_iterator_next hT F.entry_tuple_iterator_next ?_ (F.args_tuple_iterator_next_1 _)))
 refine (?_:wpAny _ _ (field (.ref it) 0 >>= _) _ _ s);refine wpAny_bind (wpAny_field ho hd (x:=.ref t) rfl (?_:wpAny _ _ (if (Value.ref t==Value.none)=true then _ else _) _ _ s))
 rw[if_neg (show ¬((Value.ref t==Value.none)=true) from Bool.false_ne_true)];refine (?_:wpAny _ _ (field (.ref it) 1 >>= _) _ _ s);refine wpAny_bind (wpAny_field ho hd (x:=.int i 0) rfl (?_:wpAny _ _ (seqItems? (.ref t) >>= _) _ _ s));refine wpAny_bind (m:=seqItems? (.ref t)) (wpAny_seqItems hol hdl ?_);simp only[Int.toNat_natCast,hx]
 refine wpAny_bind (wpAny_rule (wpAny_bind (wpAny_setField ho hd (by simp) (?_:wpAny _ _ (newExc (.type "StopIteration") [] >>= _) _ _ _))))
 refine wpAny_bind ?_;simp only[newExc,newTuple];refine wpAny_bind (wpAny_newObj_type ?_ (by size_fits))
 refine wpAny_bind (m:=firstArgMember _ _) (wpAny_of_eq (a:=Value.none) (by first|rfl|(simp only[firstArgMember];rfl)) (wpAny_newObj_type ?_ (by size_fits)))
 simp only[raiseNew];refine wpAny_bind (wpAny_handled ?_);first|rw[show A.in1.handled=none from hh]|rw[hh]
 exact wpAny_bind (wpAny_pure (wpAny_throw (hE _ _ (((Heap.SameBut.update ..).extBut.push _).push _) ⟨_,Heap.get?_push_size _ rfl,rfl⟩)))
end
theorem ls {h h':Heap}{a t:Addr}{i:Nat}(x:h.IsTupleIter a t i)(k:∀o,h.get? a=some o->h'.get? a=some o):h'.IsTupleIter a t i:=let ⟨o,ho,r⟩:=x;⟨o,k o ho,r⟩
theorem zA {h h':Heap}{a:Addr}{its:Array Value}(x:h.IsTuple a its)(k:∀o,h.get? a=some o->h'.get? a=some o):h'.IsTuple a its:=let ⟨o,ho,r⟩:=x;⟨o,k o ho,r⟩
theorem C7 {prog:Program}{w:World}{A:Around}(hh:A.handled=none)(it l:Addr)(hne:l≠it)(items:Array Value):Draws prog w A it [it,l] items.size (fun i v=>items[i]?=some v) (fun i h=>h.IsTupleIter it l i/\h.IsTuple l items) where
 live:=fun _ _ ⟨⟨o,ho,_⟩,_⟩=>⟨o,ho⟩
 frame:=fun _ _ _ ⟨a,b⟩ hk=>⟨ls a fun o e=>hk it (by simp) o e,zA b fun o e=>hk l (by simp) o e⟩
 item:=fun i s Q E hi ⟨a,b⟩ hQ=>B8 a b (x:=items[i]) (by simp[hi]) fun h' hit' hs'=>hQ _ h' s.toks (by simp[hi]) ⟨hit',b.extBut hs'.extBut hne⟩ hs'
 done:=fun s Q E ⟨a,b⟩ hE=>tx hh a b (by simp) hE
open AutoSeq1 (wpAny_loadPart') in
theorem Ap (l:Addr)(items:Array Value)(n:Nat)(dct:Option Addr)(sl:Array (Option Value)):Meets (Builtin.«enumerate.__new__» ⟨[.type "enumerate",.ref l],[]⟩) (fun _ R s=>s.heap.get? l=some { cls:=.type "tuple",dict:=dct,data:=.seq items n,slots:=sl }/\R (.ok (.ret (.ref (s.heap.push { cls:=.type "tuple_iterator",data:=.fields #[.ref l,.int 0 0] }).objs.size))) { s with heap:=(s.heap.push { cls:=.type "tuple_iterator",data:=.fields #[.ref l,.int 0 0] }).push { cls:=.type "enumerate",data:=.fields #[.none,.bool false,.ref s.heap.objs.size,rawInt 0,.none,.none] } }):=
 .of_wp fun prog w A R s h=>by
  obtain⟨hp,g,d,tk,os⟩:=s;obtain⟨hl,h⟩:=h
  have hsub:=sub_enumerate;have hL:Heap.IsTuple (Shared.heap ⟨hp,g,d,tk,os⟩) l items:=⟨_,hl,rfl,n,rfl⟩
  wp_walk using wpAny_loadPart' hl;refine wpAny_stack_any fun st=>wpAny_pure ?_
  split
  ·rename_i c _ _ _ _ _;cases (c==Value.type "enumerate")<;>(wp_walk using wpAny_loadPart' hl,wpAny_pyIter_tuple hL;exact⟨_,rfl,h⟩)
  ·wp_walk using wpAny_loadPart' hl,wpAny_pyIter_tuple hL;exact⟨_,rfl,h⟩
section
variable {prog:Program}{w:World}{A:Around}{E:Value->Shared->Prop}{s:Shared}
theorem xR {l:Addr}{items:Array Value}{Q:Value->Shared->Prop}(hL:s.heap.IsTuple l items)
  (h:∀h',IsEnum h' (s.heap.objs.size+1) s.heap.objs.size 0 .none->h'.IsTupleIter s.heap.objs.size l 0->h'.objs.size=s.heap.objs.size+2->(∀b o,s.heap.get? b=some o->h'.get? b=some o)->Q (.ref (s.heap.objs.size+1)) { s with heap:=h' }):wpAny (model prog w) A (call (.type "enumerate") [.ref l]) Q E s:=by
 obtain⟨⟨c,dct,dt,sl⟩,hl,hc,n,hd⟩:=hL;replace hc:c=.type "tuple":=hc;replace hd:dt=.seq items n:=hd;subst hc hd
 refine callType_new F.called_enumerate (by decide) (F.typeCall_enumerate_1 _) (F.newCall_enumerate_1 _) (fun obj=>F.args_object_init_2 obj _) F.entry_enumerate_new (Ap l items n dct sl) ⟨hl,?_⟩
 have hz:(s.heap.push { cls:=.type "tuple_iterator",data:=.fields #[.ref l,.int 0 0] }).objs.size=s.heap.objs.size+1:=Heap.size_push ..
 refine (?_:_/\_);rw[hz]
 have he:IsEnum ((s.heap.push { cls:=.type "tuple_iterator",data:=.fields #[.ref l,.int 0 0] }).push { cls:=.type "enumerate",data:=.fields #[.none,.bool false,.ref s.heap.objs.size,rawInt 0,.none,.none] }) (s.heap.objs.size+1) s.heap.objs.size 0 .none:=by
  have:=Heap.get?_push_size (s.heap.push { cls:=.type "tuple_iterator",data:=.fields #[.ref l,.int 0 0] }) (o:={ cls:=.type "enumerate",data:=.fields #[.none,.bool false,.ref s.heap.objs.size,rawInt 0,.none,.none] }) rfl
  rw[hz] at this;exact this
 exact⟨⟨_,he,rfl⟩,h _ he ⟨_,Heap.get?_push_of_some _ (Heap.get?_push_size _ rfl),rfl,rfl⟩ (by rw[Heap.size_push,hz]) fun b o x=>Heap.get?_push_of_some _ (Heap.get?_push_of_some _ x)⟩
end
end L2
end
section
namespace Dp
open PySem PySem.Spec L2 PyProof.Rows
section
variable {P:Program}{w:World}{tg:Expr}{h h':Heap}
theorem tD {a it:Addr}{ps:List PV}{ow:Bool}:Trn P w tg it [it] (if ow then [a] else []) ps (fun i c h=>h.IsListIter it a i/\ListAt c h a ps/\(ow=false->c.ok a)) where
 obj:=fun i c h st b hb=>by
  have e:b=it:=by simpa using hb
  subst e
  obtain⟨⟨o,e,_,d⟩,_⟩:=st
  exact⟨o,e,fun v z=>by rw[d] at z;cases z⟩
 keep:=fun i c c' h h' st k kk=>by
  obtain⟨st,l,ok⟩:=st
  refine⟨st.at fun o e=>kk it (.inl (by simp)) o e,l.mono k fun o e=>?_,fun e=>?_⟩
  ·cases ow with
   |true=>exact kk a (.inr (by simp)) o e
   |false=>exact (k.kp a o (ok rfl) e).2
  ·obtain⟨its,n,g,_⟩:=l
   exact (k.kp a _ (ok e) g).1
 item:=fun X hP hw hc z s E i p hz hf hp st hx=>by
  subst hP hw
  obtain⟨st,l,ok⟩:=st
  obtain⟨its,n,g,zl,ds⟩:=id l
  obtain⟨u,hu,du⟩:=ds.get hx
  refine wpAny_pyNext_list_item st (bJ g) (x:=u) (by simpa using hu) fun h' st' sb=>?_
  have nb:a≠it:=fun e=>by
   obtain⟨o,e1,c1,_⟩:=st
   rw[←e,g] at e1;cases e1;exact absurd (Value.type.inj c1) (by decide)
  have go:=hz.turn (t:=s.toks) (h':=h') hf (fun b o hb e=>(sb.2 b (by simpa using hb)).trans e) fun b hb=>by
   rw[show b=it by simpa using hb];exact⟨_,st'.choose_spec.1⟩
  have kp:Kp z.cn z.cn s.heap h':=go.2.kpD
  obtain⟨o,e,c,d⟩:=id st'
  exact⟨u,rfl,qN (s:={ s with heap:=h' }) e c d (by decide) ⟨go,du.m kp,st',l.mono kp fun o e=>(sb.2 a nb).trans e,ok⟩⟩
 done:=fun X hP hw hc z s E i hz hf hp st hx=>by
  subst hP hw
  obtain⟨st,l,ok⟩:=st
  obtain⟨its,n,g,zl,ds⟩:=l
  have hl:=ds.length
  obtain⟨f,bd⟩:=hf it (by simp)
  exact wpAny_pyNext_list_end (hz.I.ok.hd hc) st (bJ g) (by simp;omega) fun h' eb=>⟨rfl,hz.I.turned (t':=s.toks) (fun b o hb e=>eb b o hb e) f.1 f.2.1 f.2.2.2.1 f.2.2.2.2.1 f.2.2.2.2.2,fun b o hb e=>eb b o (by simpa using hb) e⟩
 self:=fun A i c s Q E st q=>wpAny_pyIter_listiter st.1 q
theorem B4 {a it:Addr}{ps:List PV}:Trn P w tg it [it] [] ps (fun i c h=>h.IsTupleIter it a i/\∃its,IsTup h a its.toArray/\its.length≤sizeLine/\Ds c h ps its/\c.ok a) where
 obj:=fun i c h st b hb=>by
  have e:b=it:=by simpa using hb
  subst e
  obtain⟨⟨o,e,_,d⟩,_⟩:=st
  exact⟨o,e,fun v z=>by rw[d] at z;cases z⟩
 keep:=fun i c c' h h' st k kk=>by
  obtain⟨st,its,⟨o,g,r⟩,zl,ds,ok⟩:=st
  exact⟨ls st fun o e=>kk it (.inl (by simp)) o e,its,⟨o,(k.kp a _ ok g).2,r⟩,zl,ds.mono k,(k.kp a _ ok g).1⟩
 item:=fun X hP hw hc z s E i p hz hf hp st hx=>by
  subst hP hw
  obtain⟨st,its,g,zl,ds,ok⟩:=st
  obtain⟨u,hu,du⟩:=ds.get hx
  refine wpAny_pyNext_tuple_item st (show s.heap.IsTuple a its.toArray from g) (x:=u) (by simpa using hu) fun h' st' sb=>?_
  have go:=hz.turn (t:=s.toks) (h':=h') hf (fun b o hb e=>(sb.2 b (by simpa using hb)).trans e) fun b hb=>by
   rw[show b=it by simpa using hb];exact⟨_,st'.choose_spec.1⟩
  have kp:Kp z.cn z.cn s.heap h':=go.2.kpD
  obtain⟨o,e,c,d⟩:=id st'
  obtain⟨o2,g2,r2⟩:=g
  exact⟨u,rfl,qN (s:={ s with heap:=h' }) e c d (by decide) ⟨go,du.m kp,st',its,⟨o2,(kp.kp a _ ok g2).2,r2⟩,zl,ds.mono kp,ok⟩⟩
 done:=fun X hP hw hc z s E i hz hf hp st hx=>by
  subst hP hw
  obtain⟨st,its,g,zl,ds,ok⟩:=st
  have hl:=ds.length
  obtain⟨f,bd⟩:=hf it (by simp)
  exact wpAny_pyNext_tuple_end (hz.I.ok.hd hc) st (show s.heap.IsTuple a its.toArray from g) (by simp;omega) fun h' eb=>⟨rfl,hz.I.turned (t':=s.toks) (fun b o hb e=>eb b o hb e) f.1 f.2.1 f.2.2.2.1 f.2.2.2.2.1 f.2.2.2.2.2,fun b o hb e=>eb b o (by simpa using hb) e⟩
 self:=fun A i c s Q E st q=>wpAny_pyIter_tupleiter st.1 q
noncomputable def q9 (lo:Int)(n:Nat)(c:Int):List PV:=(List.range n).map fun k:Nat=>.int (lo+k * c)
theorem wP {lo c:Int}{n i:Nat}{p:PV}(e:(q9 lo n c)[i]?=some p):i<n/\p=.int (lo+i * c):=by
 unfold q9 at e
 rw[List.getElem?_map] at e
 obtain⟨k,ek,rfl⟩:=Option.map_eq_some_iff.mp e
 obtain⟨hk,rfl⟩:=List.getElem?_eq_some_iff.mp ek
 exact⟨by simpa using hk,by rw[List.getElem_range]⟩
theorem qR {lo:Int}{n:Nat}:q9 lo n 1=ni lo n:=by unfold q9 ni;simp only[Int.mul_one]
theorem CJ {it:Addr}{lo c0:Int}{n:Nat}:Trn P w tg it [it] [] (q9 lo n c0) (fun i c h=>IsRangeIter h it (lo+(i:Nat) * c0) ((n:Int) - (i:Nat)) c0) where
 obj:=fun i c h st b hb=>by
  have e:b=it:=by simpa using hb
  subst e
  exact⟨_,st,fun v z=>by
   have z':Data.fields _=Data.cell v:=z
   cases z'⟩
 keep:=fun i c c' h h' st k kk=>kk it (.inl (by simp)) _ st
 item:=fun X hP hw hc z s E i p hz hf hp st hx=>by
  subst hP hw
  obtain⟨hi,rfl⟩:=wP hx
  have W:=Walks.range (prog:=X.prog) (w:=X.w) (hz.I.ok.hd hc) it lo c0 n
  refine W.item i s _ _ hi st fun v h' tk hv st' kk=>?_
  obtain⟨t,rfl⟩:=hv
  have go:=hz.turn (t:=tk) (h':=h') hf (fun b o hb e=>kk b o hb e) fun b hb=>by
   rw[show b=it by simpa using hb];exact⟨_,st'⟩
  exact⟨_,rfl,qN (s:={ s with heap:=h',toks:=tk }) (n:="range_iterator") st' rfl rfl (by decide) ⟨go,⟨t,rfl⟩,st'⟩⟩
 done:=fun X hP hw hc z s E i hz hf hp st hx=>by
  subst hP hw
  obtain⟨f,bd⟩:=hf it (by simp)
  exact wpAny_pyNext_range_end (hz.I.ok.hd hc) st (by have:n≤i:=(by simpa [q9] using hx);omega) fun h' eb=>⟨rfl,hz.I.turned (t':=s.toks) (fun b o hb e=>eb b o hb e) f.1 f.2.1 f.2.2.2.1 f.2.2.2.2.1 f.2.2.2.2.2,fun b o hb e=>eb b o (by simpa using hb) e⟩
 self:=fun A i c s Q E st q=>wpAny_pyIter_rangeiter st q
end
section
variable {X:Cx}{tg iter:Expr}{f:FE}{fs:FA}{st:Bool}{z:Z X}{s s1:Shared}
noncomputable def rM (f:FE):FI:=fun ρ=>(f ρ).bind fun r=>r.fr.bind items
noncomputable def Ei (f:FE):FI:=fun ρ=>(f ρ).bind fun r=>ka r.pv
theorem Z.ok.fp (hz:z.ok s1)(g:Ext z.bad s.heap s1.heap){b:Addr}(hb:s1.heap.objs.size≤b):hV X z.pins z.H b/\s.heap.get? b=none:=
 ⟨hz.I.fpOk hb (hz.I.hok.fresh hb),Ext.back g (Heap.get?_none_of_le hb)⟩
theorem fg {P:Addr->Prop}{a:Addr}(h:P a):∀b∈[a],P b:=fun b hb=>by rw[show b=a by simpa using hb];exact h
theorem qH (hz:z.ok s1){h2:Heap}{fp:List Addr}(k:∀b o,s1.heap.get? b=some o->h2.get? b=some o)(n:∀b∈fp,s1.heap.objs.size≤b):Kp z.cn (bV X (fun b=>z.bad b\/b∈fp) z.H) s1.heap h2:=
 lv (.kept k) fun b y=>y.imp id fun y=>Heap.get?_none_of_le (n b y)
theorem wN {p:PV}{its:List PV}{v:Value}{E:Value->Shared->Prop}(g:z.go s s1)(d:D z.cn s1.heap p v)(e:items p=some its):W X (pyIter v) (Fz z tg true its s) E s1:=by
 obtain⟨a,us,rfl,ok,zl,ds,h⟩:=D1.items d e
 have g2:∀o:Obj,z.go s { s1 with heap:=s1.heap.push o }:=fun o=>g.trans (g.1.push o s1.toks)
 have kk:∀o:Obj,Kp z.cn (bV X (fun b=>z.bad b\/b∈[s1.heap.objs.size]) z.H) s1.heap (s1.heap.push o):=fun o=>qH g.1 (fun b o e=>Heap.get?_push_of_some _ e) (fg (P:=fun b=>s1.heap.objs.size≤b) (Nat.le_refl _))
 rcases h with ⟨o,ho,r⟩|⟨n,ho⟩
 ·have ht:s1.heap.IsTuple a us.toArray:=⟨o,ho,r⟩
  refine wpAny_pyIter_tuple ht ⟨s1.heap.objs.size,[s1.heap.objs.size],[],_,rfl,fun _=>rfl,fun b q=>(nomatch q),B4 (a:=a),g2 _,fg (g.1.fp g.2 (Nat.le_refl _)),⟨_,Heap.get?_push_size _ rfl,rfl,rfl⟩,us,⟨o,Heap.get?_push_of_some _ ho,r⟩,zl,ds.mono (kk _),((kk (eS [] 0)).kp a o ok ho).1⟩
 ·refine wpAny_pyIter_list (bJ ho) ⟨s1.heap.objs.size,[s1.heap.objs.size],[],_,rfl,fun _=>rfl,fun b q=>(nomatch q),tD (a:=a) (ow:=false),g2 _,fg (g.1.fp g.2 (Nat.le_refl _)),⟨_,Heap.get?_push_size _ rfl,rfl,rfl⟩,⟨us,n,Heap.get?_push_of_some _ ho,zl,ds.mono (kk _)⟩,fun _=>((kk (eS [] 0)).kp a _ ok ho).1⟩
theorem ut (h:NE X iter f):NI X true tg iter (rM f):=fun z s its E hz q=>by
 obtain⟨r,e1,q⟩:=Option.bind_eq_some_iff.mp q
 obtain⟨p,e2,q⟩:=Option.bind_eq_some_iff.mp q
 exact bE (h z s r E hz e1) fun v s1 q1=>wN q1.1 (q1.2.fr e2) q
theorem B3 (h:NE X iter f):NI X false tg iter (Ei f):=fun z s its E hz q=>by
 obtain⟨r,e1,q⟩:=Option.bind_eq_some_iff.mp q
 refine bE (h z s r E hz e1) fun v s1 q1=>?_
 cases hr:r.fr with
 |some p=>
  have:r.pv=p:=by cases r<;>cases hr<;>rfl
  subst this
  exact bE (wN q1.1 (q1.2.fr hr) (by cases hp:r.pv<;>rw[hp] at q<;>first|exact q|cases q)) fun itv s2 ⟨it,fp,pl,tn,a,b,r⟩=>⟨it,fp,pl,tn,a,fun _=>b rfl,r⟩
 |none=>
  cases r with
  |ln p=>
   obtain⟨g,⟨d,lb,nb⟩⟩:=q1
   have d:=D1.lst d q
   obtain⟨a,us,n,rfl,_,ho,zl,ds⟩:=d
   have kk:=qH (fp:=[s1.heap.objs.size]) g.1 (fun b o e=>Heap.get?_push_of_some (h:=s1.heap) { cls:=.type "list_iterator",data:=.fields #[.ref a,.int 0 0] } e) (fg (P:=fun b=>s1.heap.objs.size≤b) (Nat.le_refl _))
   refine wpAny_pyIter_list (bJ ho) ⟨s1.heap.objs.size,[s1.heap.objs.size],[a],_,rfl,fun e=>(nomatch e),fun b hb=>(by rw[show b=a by simpa using hb];exact⟨nb a rfl,fun y=>(by rw[show a=s1.heap.objs.size by simpa using y] at ho;exact absurd (Heap.lt_size ho) (Nat.lt_irrefl _)),_,Heap.get?_push_of_some _ ho⟩),tD (a:=a) (ow:=true),g.trans (g.1.push _ s1.toks),fg (g.1.fp g.2 (Nat.le_refl _)),⟨_,Heap.get?_push_size _ rfl,rfl,rfl⟩,⟨us,n,Heap.get?_push_of_some _ ho,zl,ds.mono kk⟩,fun e=>(nomatch e)⟩
  |_=>cases hr
noncomputable def vk (i:Int):Bool:=decide (-(2 ^ 62)≤i)&&decide (i<2 ^ 62)
theorem r8 {i:Int}(h:vk i=true):-(2 ^ 62)≤i/\i<2 ^ 62:=by
 unfold vk at h
 rw[Bool.and_eq_true,decide_eq_true_eq,decide_eq_true_eq] at h
 exact h
noncomputable def ok3 (i j c:Int):Bool:=decide (c≠0)&&Builtin.Range.small i j c&&decide (0≤Builtin.Range.rangeSize i j c)&&!Builtin.divisionGoesByPylong (j - i) c
noncomputable def kf:List PV->Option (List PV)
 |[.int j]=>if vk j then some (ni 0 j.toNat) else none
 |_=>none
noncomputable def sK:List PV->Option (List PV)
 |[.int i,.int j]=>if vk i&&vk j then some (ni i (j - i).toNat) else none
 |_=>none
noncomputable def C2:List PV->Option (List PV)
 |[.int i,.int j,.int c]=>if ok3 i j c then some (q9 i (Builtin.Range.rangeSize i j c).toNat c) else none
 |_=>none
noncomputable def jC (g:List PV->Option (List PV))(fs:FA):FI:=fun ρ=>(fs ρ).bind fun rs=>g (rs.map RV.pv)
theorem sG {its:List PV}{lo hi c:Int}{t u v:Tok}{tk:Nat}{E:Value->Shared->Prop}(g:z.go s s1)(h1:Builtin.Range.small lo hi c=true)(h2:0≤Builtin.Range.rangeSize lo hi c)(e:its=q9 lo (Builtin.Range.rangeSize lo hi c).toNat c) :
  W X (pyIter (.ref s1.heap.objs.size)) (Fz z tg true its s) E { s1 with heap:=s1.heap.push { cls:=.type "range",data:=.fields #[.int lo t,.int hi u,.int c v] },toks:=tk }:=by
 subst e
 generalize ho:({ cls:=.type "range",data:=.fields #[.int lo t,.int hi u,.int c v] }:Obj)=o
 have g2:=g.trans (g.1.push o tk)
 refine wpAny_pyIter_range (by subst ho;exact IsRange.new ..) h1 ⟨(s1.heap.push o).objs.size,[(s1.heap.push o).objs.size],[],_,rfl,fun _=>rfl,fun b q=>(nomatch q),CJ,g2.trans (g2.1.push _ tk),fg (g2.1.fp g2.2 (Nat.le_refl _)),?_⟩
 have e1:lo+((0:Nat):Int) * c=lo:=by simp
 have e2:(((Builtin.Range.rangeSize lo hi c).toNat:Nat):Int) - ((0:Nat):Int)=Builtin.Range.rangeSize lo hi c:=by omega
 show IsRangeIter _ _ (lo+((0:Nat):Int) * c) ((((Builtin.Range.rangeSize lo hi c).toNat:Nat):Int) - ((0:Nat):Int)) c
 rw[e1,e2]
 exact Heap.get?_push_size _ rfl
variable {a b d:Expr}{p pos:Pos}
theorem FF {i j:Int}:0≤Builtin.Range.rangeSize i j 1/\(Builtin.Range.rangeSize i j 1).toNat=(j - i).toNat:=by
 rw[rangeSize_one];split<;>constructor<;>omega
theorem Cb (hg:Gl X "range")(hm:X.mg "range" = none)(ha:NA X [a] fs)(hs:starEach [a] X.env=[(false,eval a X.env)]):NI X true tg (.Call (.Name "range" p) [a] [] pos) (jC kf fs):=fun z s its E hz q=>by
 obtain⟨rs,er,q⟩:=Option.bind_eq_some_iff.mp q
 refine Call_ (jM hz.I hg hm boot_range (PyProof.Rows.callWith_type1 (bE (ha z pos s rs E hz er) fun us s1 ⟨g1,d1⟩=>?_) hs rfl))
 have d:=d1.rv
 unfold kf at q
 split at q
 ·next j ej=>
  split at q
  ·next h=>
   cases q
   rw[ej] at d
   obtain⟨u,rfl,⟨t,rfl⟩,_⟩:=d.one
   obtain⟨h1,h2⟩:=r8 h
   exact call_range_1 (sG g1 (small_one (by omega) (by omega) h1 h2) FF.1 (by rw[FF.2,qR,Int.sub_zero]))
  ·cases q
 ·cases q
theorem C0 (hg:Gl X "range")(hm:X.mg "range" = none)(ha:NA X [a,b] fs)(hs:starEach [a,b] X.env=[(false,eval a X.env),(false,eval b X.env)])(hs2:starEach [b] X.env=[(false,eval b X.env)]):NI X true tg (.Call (.Name "range" p) [a,b] [] pos) (jC sK fs):=fun z s its E hz q=>by
 obtain⟨rs,er,q⟩:=Option.bind_eq_some_iff.mp q
 refine Call_ (jM hz.I hg hm boot_range (PyProof.Rows.callWith_type1 (bE (ha z pos s rs E hz er) fun us s1 ⟨g1,d1⟩=>?_) (by rw[hs,hs2]) (by rw[hs2];rfl)))
 have d:=d1.rv
 unfold sK at q
 split at q
 ·next i j ej=>
  split at q
  ·next h=>
   cases q
   rw[ej] at d
   obtain⟨u,v,rfl,⟨⟨t,rfl⟩,_⟩,⟨t',rfl⟩,_⟩:=d.two
   rw[Bool.and_eq_true] at h
   obtain⟨h1,h2⟩:=r8 h.1
   obtain⟨h3,h4⟩:=r8 h.2
   exact call_range_2 (sG g1 (small_one h1 h2 h3 h4) FF.1 (by rw[FF.2,qR]))
  ·cases q
 ·cases q
theorem BP (hg:Gl X "range")(hm:X.mg "range" = none)(ha:NA X [a,b,d] fs)(hs:starEach [a,b,d] X.env=[(false,eval a X.env),(false,eval b X.env),(false,eval d X.env)])(hs2:starEach [b,d] X.env=[(false,eval b X.env),(false,eval d X.env)]) :
  NI X true tg (.Call (.Name "range" p) [a,b,d] [] pos) (jC C2 fs):=fun z s its E hz q=>by
 obtain⟨rs,er,q⟩:=Option.bind_eq_some_iff.mp q
 refine Call_ (jM hz.I hg hm boot_range (PyProof.Rows.callWith_type1 (bE (ha z pos s rs E hz er) fun us s1 ⟨g1,d1⟩=>?_) (by rw[hs,hs2]) (by rw[hs2];rfl)))
 have d:=d1.rv
 unfold C2 at q
 split at q
 ·next i j c ej=>
  split at q
  ·next h=>
   cases q
   rw[ej] at d
   cases d with
   |cons r rr=>cases rr with
    |cons r' rr=>cases rr with
     |cons r'' rr=>
      cases rr
      obtain⟨t,rfl⟩:=r.rd
      obtain⟨t',rfl⟩:=r'.rd
      obtain⟨t'',rfl⟩:=r''.rd
      unfold ok3 at h
      rw[Bool.and_eq_true,Bool.and_eq_true,Bool.and_eq_true,decide_eq_true_eq,decide_eq_true_eq,Bool.not_eq_true'] at h
      exact call_range_3 h.1.1.1 (sG g1 h.1.1.2 h.1.2 rfl) (.inl h.2)
  ·cases q
 ·cases q
end
noncomputable def cV:Nat->List PV->List PV
 |_,[]=>[]
 |k,p::ps=>.tup [.int k,p]::cV (k+1) ps
theorem kq:∀(k:Nat) (ps:List PV),(cV k ps).length=ps.length
 |_,[]=>rfl
 |k,_::ps=>by rw[cV,List.length_cons,List.length_cons,kq]
theorem ko:∀{ps:List PV} {k i:Nat} {q:PV},(cV k ps)[i]?=some q->∃p,ps[i]?=some p/\q=.tup [.int (k+i:Nat),p]
 |[],_,_,_,e=>by simp[cV] at e
 |p::ps,k,0,q,e=>by simp[cV] at e;exact⟨p,rfl,by rw[←e];rfl⟩
 |p::ps,k,i+1,q,e=>by
  obtain⟨p',h1,h2⟩:=ko (ps:=ps) (k:=k+1) (i:=i) (by simpa [cV] using e)
  exact⟨p',by simpa using h1,by rw[h2,Nat.add_right_comm];rfl⟩
section
variable {P:Program}{w:World}{h h':Heap}{elts:List Expr}{x1:Nat}{tpos:Pos}
theorem sP {X:Cx}{z:Z X}{s:Shared}{e it:Addr}{h1 h2:Heap}{tk tk2:Nat}{p:PV}{u:Value}{i:Nat}(hz:z.ok s)(hf:∀b∈[e,it],hV X z.pins z.H b/\z.bad b)(du:D z.cn s.heap p u)(tup:h1.get? s.heap.objs.size=some { cls:=.type "tuple",data:=.seq #[.int i tk,u] })
  (kp:∀b o,b≠e->b≠it->s.heap.get? b=some o->h1.get? b=some o) (ee:∃o,h2.get? e=some o) (ei:∃o,h2.get? it=some o) (sb:Heap.SameBut e h1 h2) (le:∀b∈[e,it],∃o,s.heap.get? b=some o) :
  z.go s { s with heap:=h2,toks:=tk2 }/\D z.cn h2 (.tup [.int i,p]) (.ref s.heap.objs.size):=by
 have go:=hz.turn (t:=tk2) (h':=h2) hf (fun b o hb q=>by
  have n1:b≠e:=fun y=>hb (by simp[y])
  exact (sb.2 b n1).trans (kp b o n1 (fun y=>hb (by simp[y])) q)) fun b hb=>by
   rcases List.mem_cons.mp hb with y|y
   ·rw[y];exact ee
   ·rw[show b=it by simpa using y];exact ei
 have ne:s.heap.objs.size≠e:=fun y=>by obtain⟨o,q⟩:=le e (by simp);rw[←y] at q;exact absurd (Heap.lt_size q) (Nat.lt_irrefl _)
 refine⟨go,s.heap.objs.size,[.int i tk,u],rfl,hz.free (Heap.get?_none_of_le (Nat.le_refl _)),⟨_,(sb.2 _ ne).trans tup,rfl,_,rfl⟩,(by show 2≤sizeLine;decide),_,_,rfl,⟨tk,rfl⟩,u,[],rfl,du.m go.2.kpD,rfl⟩
theorem pE {a e it:Addr}{i:Nat}{h:Heap}(he:∃old,IsEnum h e it i old)(hi:∃o,h.get? it=some o/\∀v,o.data≠.cell v):∀b∈[e,it],∃o,h.get? b=some o/\∀v,o.data≠.cell v:=fun b hb=>by
 rcases List.mem_cons.mp hb with y|y
 ·rw[y]
  obtain⟨old,he⟩:=he
  exact⟨_,he,fun v q=>by
   have q':Data.fields _=Data.cell v:=q
   cases q'⟩
 ·rw[show b=it by simpa using y];exact hi
theorem D9 {a e it:Addr}(hne:e≠it){ps:List PV}:Trn P w (.Tuple elts x1 tpos) e [e,it] [] (cV 0 ps) (fun i c h=>(∃old,IsEnum h e it i old)/\h.IsListIter it a i/\ListAt c h a ps/\c.ok a) where
 obj:=fun i c h st=>pE (a:=a) st.1 (by obtain⟨_,⟨o,e,_,d⟩,_⟩:=st;exact⟨o,e,fun v y=>by rw[d] at y;cases y⟩)
 keep:=fun i c c' h h' st k kk=>by
  obtain⟨⟨old,he⟩,st,l,ok⟩:=st
  obtain⟨its,n,g,r⟩:=id l
  exact⟨⟨old,kk e (.inl (by simp)) _ he⟩,st.at fun o q=>kk it (.inl (by simp)) o q,l.mono k fun o q=>(k.kp a o ok q).2,(k.kp a _ ok g).1⟩
 item:=fun X hP hw hc z s E i p hz hf hp st hx=>by
  subst hP hw
  obtain⟨⟨old,he⟩,st,l,ok⟩:=st
  obtain⟨its,n,g,zl,ds⟩:=id l
  obtain⟨p',hx2,rfl⟩:=ko hx
  rw[Nat.zero_add]
  obtain⟨u,hu,du⟩:=ds.get hx2
  refine wpAny_pyNext_enum_item he st (bJ g) (x:=u) (by simpa using hu) hne fun h' out lit tup sz kp=>⟨_,rfl,?_⟩
  refine wpAny_letOwnedTupleGo_enum out fun h2 he2 sb=>?_
  have lit2:h2.IsListIter it a (i+1):=lit.at fun o q=>(sb.2 it (Ne.symm hne)).trans q
  obtain⟨go,dd⟩:=sP (tk2:=s.toks+1) hz hf du tup kp ⟨_,he2⟩ ⟨_,lit2.choose_spec.1⟩ sb (fun b hb=>let ⟨o,e,_⟩:=pE (a:=a) ⟨_,he⟩ (by obtain⟨o,e,_,d⟩:=st;exact⟨o,e,fun v y=>by rw[d] at y;cases y⟩) b hb;⟨o,e⟩)
  have kp2:Kp z.cn z.cn s.heap h2:=go.2.kpD
  exact⟨go,dd,⟨_,he2⟩,lit2,l.mono kp2 fun o q=>(kp2.kp a o ok q).2,ok⟩
 done:=fun X hP hw hc z s E i hz hf hp st hx=>by
  subst hP hw
  obtain⟨⟨old,he⟩,st,⟨its,n,g,zl,ds⟩,ok⟩:=st
  have hl:=ds.length
  rw[kq] at hx
  obtain⟨f,bd⟩:=hf it (by simp)
  exact wpAny_pyNext_enum_end (hz.I.ok.hd hc) he st (bJ g) (by simp;omega) fun h' eb=>⟨rfl,hz.I.turned (t':=s.toks) (fun b o hb e=>eb b o hb e) f.1 f.2.1 f.2.2.2.1 f.2.2.2.2.1 f.2.2.2.2.2,fun b o hb e=>eb b o (fun y=>hb (by simp[y])) e⟩
 self:=fun A i c s Q E st q=>wpAny_pyIter_enum st.1.choose_spec q
theorem Dq {a e it:Addr}(hne:e≠it){ps:List PV}:Trn P w (.Tuple elts x1 tpos) e [e,it] [] (cV 0 ps) (fun i c h=>(∃old,IsEnum h e it i old)/\h.IsTupleIter it a i/\∃its,IsTup h a its.toArray/\its.length≤sizeLine/\Ds c h ps its/\c.ok a) where
 obj:=fun i c h st=>pE (a:=a) st.1 (by obtain⟨_,⟨o,e,_,d⟩,_⟩:=st;exact⟨o,e,fun v y=>by rw[d] at y;cases y⟩)
 keep:=fun i c c' h h' st k kk=>by
  obtain⟨⟨old,he⟩,st,its,⟨o,g,r⟩,zl,ds,ok⟩:=st
  exact⟨⟨old,kk e (.inl (by simp)) _ he⟩,ls st fun o q=>kk it (.inl (by simp)) o q,its,⟨o,(k.kp a _ ok g).2,r⟩,zl,ds.mono k,(k.kp a _ ok g).1⟩
 item:=fun X hP hw hc z s E i p hz hf hp st hx=>by
  subst hP hw
  obtain⟨⟨old,he⟩,st,its,g,zl,ds,ok⟩:=st
  obtain⟨p',hx2,rfl⟩:=ko hx
  rw[Nat.zero_add]
  obtain⟨u,hu,du⟩:=ds.get hx2
  have pt:s.heap.IsTuple a its.toArray:=g
  have nai:a≠it:=fun q=>by
   obtain⟨o1,h1,c1,_⟩:=pt
   obtain⟨o2,h2,c2,_⟩:=st
   rw[q,h2] at h1;cases h1;rw[c2] at c1;exact absurd (Value.type.inj c1) (by decide)
  have nae:e≠a:=fun q=>by
   obtain⟨o1,h1,c1,_⟩:=pt
   rw[←q,he] at h1;cases h1;exact absurd (Value.type.inj c1) (by decide)
  have hlt:i<its.toArray.size:=by
   have:=(List.getElem?_eq_some_iff.mp hu).1
   simpa using this
  refine wpAny_pyNext_enum_itemD (C7 (A:=X.A.in1) (hz.I.ok.hd hc) it a nai its.toArray) he ⟨st,pt⟩ hlt hne (by simp[hne,nae]) fun u' h' tk hu' out lit tup sz kp=>⟨_,rfl,?_⟩
  obtain rfl:u'=u:=by
   have h1:its[i]?=some u':=by simpa using hu'
   rw[hu] at h1;exact (Option.some.inj h1).symm
  refine wpAny_letOwnedTupleGo_enum out fun h2 he2 sb=>?_
  have lit2:h2.IsTupleIter it a (i+1):=ls lit.1 fun o q=>(sb.2 it (Ne.symm hne)).trans q
  obtain⟨go,dd⟩:=sP (tk2:=tk+1) hz hf du tup kp ⟨_,he2⟩ ⟨_,lit2.choose_spec.1⟩ sb (fun b hb=>let ⟨o,e,_⟩:=pE (a:=a) ⟨_,he⟩ (by obtain⟨o,e,_,d⟩:=st;exact⟨o,e,fun v y=>by rw[d] at y;cases y⟩) b hb;⟨o,e⟩)
  have kp2:Kp z.cn z.cn s.heap h2:=go.2.kpD
  obtain⟨o,g,r⟩:=g
  exact⟨go,dd,⟨_,he2⟩,lit2,its,⟨o,(kp2.kp a _ ok g).2,r⟩,zl,ds.mono kp2,ok⟩
 done:=fun X hP hw hc z s E i hz hf hp st hx=>by
  subst hP hw
  obtain⟨⟨old,he⟩,st,its,g,zl,ds,ok⟩:=st
  have hl:=ds.length
  rw[kq] at hx
  obtain⟨f,bd⟩:=hf it (by simp)
  have hT:s.TypeIs (.ref e) "enumerate":=⟨_,he,rfl⟩
  unfold pyNext
  refine wpAny_bind (wpAny_attempt (wpAny_callSpecial?_slot (name:=Str.ofString "__next__") hT F.slot_enumerate_next (wpAny_call_entry F.slot_enumerate_next hT F.entry_enumerate_next ?_ (F.args_enumerate_next_1 _))))
  refine (?_:wpAny _ _ (field (.ref e) 2 >>= _) _ _ _);refine wpAny_bind (wpAny_field he rfl (x:=.ref it) rfl ?_)
  refine wpAny_bind (tx (hz.I.ok.hd hc) st (items:=its.toArray) g (by simp;omega) fun h' x he' hx'=>?_)
  obtain⟨o,ho,hc⟩:=hx'
  exact wpAny_bind (wpAny_isInstance (T:="StopIteration") (b:=true) ⟨o,ho,hc⟩ isSubtype_stop (wpAny_pure ⟨rfl,hz.I.turned (t':=s.toks) (fun b o hb e=>he' b o hb e) f.1 f.2.1 f.2.2.2.1 f.2.2.2.2.1 f.2.2.2.2.2,fun b o hb e=>he' b o (fun y=>hb (by simp[y])) e⟩))
 self:=fun A i c s Q E st q=>wpAny_pyIter_enum st.1.choose_spec q
end
section
variable {X:Cx}{fs:FA}{elts:List Expr}{x1:Nat}{tpos:Pos}{a:Expr}{p pos:Pos}
noncomputable def qo:List PV->Option (List PV)
 |[p]=>(items p).map (cV 0)
 |_=>none
noncomputable def mv (fs:FA):FI:=fun ρ=>(fs ρ).bind fun rs=>(rs.mapM RV.fr).bind qo
theorem Cm (hg:Gl X "enumerate")(hm:X.mg "enumerate" = none)(ha:NA X [a] fs)(hs:starEach [a] X.env=[(false,eval a X.env)]):NI X true (.Tuple elts x1 tpos) (.Call (.Name "enumerate" p) [a] [] pos) (mv fs):=fun z s its E hz q=>by
 obtain⟨rs,er,q⟩:=Option.bind_eq_some_iff.mp q
 obtain⟨ps,ep,q⟩:=Option.bind_eq_some_iff.mp q
 refine Call_ (jM hz.I hg hm o8 (PyProof.Rows.callWith_type1 (bE (ha z pos s rs E hz er) fun us s1 ⟨g,d1⟩=>?_) hs rfl))
 have d:=d1.fr ep
 unfold qo at q
 split at q
 ·next p'=>
  obtain⟨qs,e3,rfl⟩:=Option.map_eq_some_iff.mp q
  obtain⟨u,r,rfl,d,e4⟩:=d
  cases (show r=[] from e4)
  obtain⟨l,vs,rfl,ok,zl,ds,h⟩:=D1.items d e3
  have fin:∀(h' h2:Heap),h'.objs.size=s1.heap.objs.size+2->(∀b o,s1.heap.get? b=some o->h'.get? b=some o)->z.go s { s1 with heap:=h' }/\(∀b∈[s1.heap.objs.size+1,s1.heap.objs.size],hV X z.pins z.H b/\s.heap.get? b=none)/\Kp z.cn (bV X (fun b=>z.bad b\/b∈[s1.heap.objs.size+1,s1.heap.objs.size]) z.H) s1.heap h':=fun h' h2 sz kp=>by
   have le:∀b∈[s1.heap.objs.size+1,s1.heap.objs.size],s1.heap.objs.size≤b:=fun b hb=>by
    rcases List.mem_cons.mp hb with y|y
    ·rw[y];exact Nat.le_succ _
    ·rw[show b=s1.heap.objs.size by simpa using y];exact Nat.le_refl _
   exact⟨g.trans (g.1.kept (t:=s1.toks) kp),fun b hb=>g.1.fp g.2 (le b hb),qH g.1 kp le⟩
  rcases h with ⟨o,ho,r⟩|⟨n,ho⟩
  ·refine xR (items:=vs.toArray) ⟨o,ho,r⟩ fun h' he hit sz kp=>wpAny_pyIter_enum he ?_
   obtain⟨f1,f2,f3⟩:=fin h' h' sz kp
   exact⟨_,_,[],_,rfl,fun _=>rfl,fun b q=>(nomatch q),Dq (a:=l) (Nat.succ_ne_self _),f1,f2,⟨_,he⟩,hit,vs,⟨o,kp _ _ ho,r⟩,zl,ds.mono f3,(f3.kp l _ ok ho).1⟩
  ·refine call_enumerate_list (bJ ho) fun h' he hit sz kp=>wpAny_pyIter_enum he ?_
   obtain⟨f1,f2,f3⟩:=fin h' h' sz kp
   exact⟨_,_,[],_,rfl,fun _=>rfl,fun b q=>(nomatch q),D9 (a:=l) (Nat.succ_ne_self _),f1,f2,⟨_,he⟩,hit,⟨vs,n,kp _ _ ho,zl,ds.mono f3⟩,(f3.kp l _ ok ho).1⟩
 ·cases q
end
end Dp
end
section
namespace Dp
open PySem PySem.Spec L2 PyProof.Rows
noncomputable def DR (X:Cx)(ifs:List Expr)(f:FB):Prop:=∀(z:Z X) s b E,z.ok s->f z.ρ=some b →
 W X (forIn ifs true fun c r=>if r=true then do let ok ←isTrue c X.env (eval c X.env);pure (ForInStep.yield ok) else pure (ForInStep.yield r)) (fun c s'=>c=b/\z.go s s') E s
noncomputable def jk:FB:=fun _=>some true
theorem Cq {X:Cx}:DR X [] jk:=fun z s b E hz q=>by cases q;exact wpAny_tests_nil ⟨rfl,hz.refl⟩
theorem CP {X:Cx}{c:Expr}{f:FB}(h:NB X c f):DR X [c] f:=fun z s b E hz q=>wpAny_tests_one (h z s b E hz q)
noncomputable def gP (fm:List (Option Nat))(ρ:aK):aK:=fm.map fun o=>o.bind fun j=>(ρ[j]?).join
noncomputable def pT (t:FT)(c:FB)(f:FE)(ρ:aK):List PV->Option (List PV)
 |[]=>some []
 |p::ps=>(t p ρ).bind fun ρ2=>(c ρ2).bind fun b=>if b=true then (f ρ2).bind fun r=>r.fr.bind fun q=>(pT t c f ρ ps).map fun qs=>q::qs else pT t c f ρ ps
noncomputable def fy (fm:List (Option Nat))(it:FI)(t:FT)(c:FB)(f:FE):FE:=fun ρ=>(it ρ).bind fun its=>if its.length<1000 then (pT t c f (gP fm ρ) its).map .nw else none
noncomputable def FK (fm:List (Option Nat))(t:FT):Prop:=∀p ρ ρ',t p ρ=some ρ'->ρ'.length=ρ.length/\∀(i j:Nat),fm[i]?=some (some j)->ρ'[i]?=ρ[i]?
noncomputable def DZ (fm:List (Option Nat))(t:vF):Prop:=∀p ρ ρ',t p ρ=some ρ'->ρ'.length=ρ.length/\∀(i j:Nat),fm[i]?=some (some j)->ρ'[i]?=ρ[i]?
theorem F5 {fm:List (Option Nat)}{k:Nat}(h:fm[k]?=some none):FK fm (gN k):=fun p ρ ρ' e=>by
 cases e
 refine⟨List.length_set ..,fun i j q=>List.getElem?_set_ne fun y=>?_⟩
 subst y;rw[h] at q;cases q
theorem F2 {fm:List (Option Nat)}:DZ fm g0:=fun p ρ ρ' e=>by
 cases p with
 |nil=>cases e;exact⟨rfl,fun _ _ _=>rfl⟩
 |cons=>cases e
theorem Gf {fm:List (Option Nat)}{t:FT}{ts:vF}(h1:FK fm t)(h2:DZ fm ts):DZ fm (gC t ts):=fun p ρ ρ' e=>by
 cases p with
 |nil=>cases e
 |cons p ps=>
  obtain⟨ρ1,e1,e2⟩:=Option.bind_eq_some_iff.mp e
  exact⟨(h2 ps ρ1 ρ' e2).1.trans (h1 p ρ ρ1 e1).1,fun i j q=>((h2 ps ρ1 ρ' e2).2 i j q).trans ((h1 p ρ ρ1 e1).2 i j q)⟩
theorem GL {fm:List (Option Nat)}{n:Nat}{ts:vF}(h:DZ fm ts):FK fm (gw n ts):=fun p ρ ρ' e=>by
 unfold gw at e
 split at e
 ·split at e
  ·exact h _ ρ ρ' e
  ·cases e
 ·cases e
theorem lE {fm:List (Option Nat)}{ρ:aK}{i:Nat}{t:Sl}(h:(gP fm ρ)[i]?=some (some t)):∃j,fm[i]?=some (some j)/\ρ[j]?=some (some t):=by
 unfold gP at h
 rw[List.getElem?_map] at h
 obtain⟨o,e1,h⟩:=Option.map_eq_some_iff.mp h
 obtain⟨j,rfl,h⟩:=Option.bind_eq_some_iff.mp h
 refine⟨j,e1,?_⟩
 replace h:(ρ[j]?).join=some t:=h
 cases e2:ρ[j]? with
 |none=>rw[e2] at h;cases h
 |some w=>rw[e2] at h;exact congrArg some h
theorem zv {fm:List (Option Nat)}{σ:L2.St}{i j:Nat}{v:V}(h1:fm[i]?=some (some j))(h2:σ[j]?=some (some v)):(kY fm σ)[i]?=some (some v):=by
 unfold kY
 rw[List.getElem?_map,h1]
 show some ((σ[j]?).join)=_
 rw[h2];rfl
section
variable {X:Cx}{z:Z X}{s:Shared}
theorem Z.ok.pinsOf (hz:z.ok s)(pl:List (Addr×Obj))(h:∀p∈pl,s.heap.get? p.1=some p.2/\z.H p.1=none/\p.1≠X.env.locals/\p.1∉X.fs/\∀v,p.2.data≠.cell v):(⟨z.bad,pl,z.σ,z.H,z.ρ⟩:Z X).ok s:=
 ⟨hz.I.pins_of h,hz.len,hz.slk,hz.dj,hz.nb,hz.oh,hz.oh0,hz.loc,hz.cel,hz.fs,hz.ex,hz.there,hz.bs,hz.ot,hz.anc⟩
theorem Z.ok.weak (hz:z.ok s){ρ':aK}(hl:ρ'.length=z.ρ.length)(h:∀(i:Nat) t,ρ'[i]?=some (some t)->z.ρ[i]?=some (some t)):(z.wi z.σ z.H ρ').ok s:=by
 have ow:∀{i a},ci z.σ ρ' i a->ci z.σ z.ρ i a:=fun {i a} ⟨⟨t,e,o⟩,q⟩=>⟨⟨t,h i t e,o⟩,q⟩
 exact⟨hz.I,hz.len.trans hl.symm,fun i t q=>hz.slk i t (h i t q),fun i j a o1 o2=>hz.dj i j a (ow o1) (ow o2),fun i a o=>hz.nb i a (ow o),hz.oh,hz.oh0,hz.loc,hz.cel,hz.fs,hz.ex,hz.there,hz.bs,hz.ot,hz.anc⟩
end
section
variable {X:Cx}{scope:Scope}{N':List Str}{fm:List (Option Nat)}{tg iter elt:Expr}{ifs:List Expr}{pos:Pos}{t:FT}{fc:FB}{f:FE}
structure Blk (X:Cx)(scope:Scope)(N':List Str)(fm:List (Option Nat)):Prop where
 ok:BlkOk X scope N' fm
 nd:N'.Nodup
theorem vR (B:Blk X scope N' fm){z:Z X}{s0 s:Shared}(hz:z.ok s0)(g:z.go s0 s){fp:List Addr}(hf:∀b∈fp,hV X z.pins z.H b/\s0.heap.get? b=none)(ho:∀b∈fp,∃o,s.heap.get? b=some o){C Dd:Addr}(hC:s.heap.objs.size≤C)(hD:s.heap.objs.size≤Dd)
  {h1:Heap} {tk:Nat} {m:Str->Option Value} (hn:h1.Ns C m) (hd:∃o,h1.get? Dd=some o) (old:∀b o,s.heap.get? b=some o->h1.get? b=some o) :
  (⟨fun b=>z.bad b\/b∈fp\/b=C\/b=Dd,[],kY fm z.σ,z.H,gP fm z.ρ⟩:Z (X.blk scope N' C s z.H fp)).ok { s with heap:=h1,toks:=tk }:=by
 have n0:∀b,b∈fp\/b=C\/b=Dd->s0.heap.get? b=none:=fun b y=>by
  rcases y with y|y|y
  ·exact (hf b y).2
  ·subst y;exact Ext.back g.2 (Heap.get?_none_of_le hC)
  ·subst y;exact Ext.back g.2 (Heap.get?_none_of_le hD)
 have hlt:∀b∈fp,b<s.heap.objs.size:=fun b hb=>let ⟨o,e⟩:=ho b hb;Heap.lt_size e
 have e1:Ext z.bad s0.heap h1:=g.2.trans (.kept old)
 have I:=Aw (tk:=tk) B.ok g.1.I hC (fun b hb=>(hf b hb).1) hlt hn old
 have k:Kp z.cn (bV (X.blk scope N' C s z.H fp) (fun b=>z.bad b\/b∈fp\/b=C\/b=Dd) z.H) s0.heap h1:=lv (X:=X) e1 fun b y=>y.imp id (n0 b)
 have sub:∀x c,(iR X.env.cells scope.names []).lookup x=some c->X.env.cells.lookup x=some c:=fun x c h=>jc (B.ok.has hz.I.ok) (fun _ _ y=>by simp at y) h
 have own:∀{i a},ci (kY fm z.σ) (gP fm z.ρ) i a->∃j x,fm[i]?=some (some j)/\N'[i]?=some x/\X.N[j]?=some x/\ci z.σ z.ρ j a:=fun {i a} ⟨⟨t,e,o⟩,q⟩=>by
  obtain⟨j,e1,e2⟩:=lE e
  obtain⟨j',e3,e4⟩:=qi q
  rw[e1] at e3;cases e3
  have hi:i<N'.length:=by rw[←B.ok.len];exact (List.getElem?_eq_some_iff.mp e1).1
  exact⟨j,N'[i],e1,List.getElem?_eq_getElem hi,(B.ok.out i j _ e1 (List.getElem?_eq_getElem hi)).1,⟨⟨t,e2,o⟩,e4⟩⟩
 have stands:∀a o,z.H a=some o->¬(z.bad a\/a∈fp\/a=C\/a=Dd):=fun a o q y=>by
  obtain⟨ob,e⟩:=hz.stands q
  exact y.elim (hz.ot a o q).1 fun y=>by rw[n0 a y] at e;cases e
 refine⟨I,by show (kY fm z.σ).length=(gP fm z.ρ).length;unfold kY gP;rw[List.length_map,List.length_map],fun i t q=>?_,fun i j a o1 o2=>?_,fun i a o=>?_,hz.oh,hz.oh,.inr (.inr (.inl rfl)),fun x c e=>.inl (hz.cel x c (sub x c e)),fun b q=>.inl ?_,fun b q=>.inr (.inl q),fun b q=>?_,fun b o e q=>?_,fun a o q=>⟨stands a o q,let ⟨ob,r1,r2⟩:=(hz.ot a o q).2;⟨ob,e1.kp a ob (hz.ot a o q).1 r1,r2⟩⟩,fun hf=>by cases hf⟩
 ·obtain⟨j,q1,q2⟩:=lE q
  obtain⟨v,e2,r,d⟩:=hz.slk j t q2
  exact⟨v,zv q1 e2,r,d.mono k fun a o h w=>e1.kp a o (hz.ot a _ h).1 w⟩
 ·obtain⟨k1,x,a1,a2,a3,a4⟩:=own o1
  obtain⟨k2,y,b1,b2,b3,b4⟩:=own o2
  have:=hz.dj k1 k2 a a4 b4
  subst this
  rw[a3] at b3;cases b3
  exact (List.getElem?_inj (List.getElem?_eq_some_iff.mp a2).1 B.nd).mp (a2.trans b2.symm)
 ·obtain⟨k1,x,a1,a2,a3,a4⟩:=own o
  have hH:z.H a=some bz:=by
   obtain⟨⟨t,e,ot⟩,q⟩:=a4
   obtain⟨v,e2,_,d2⟩:=hz.slk k1 t e
   rw[q] at e2;cases e2
   cases t with
   |val p=>cases ot
   |own ps=>obtain⟨b,e3,h,_⟩:=d2;cases e3;exact h
   |dic ks ps=>obtain⟨b,e3,h,_⟩:=d2;cases e3;exact h
  exact⟨stands a _ hH,.inr fun y=>by
   have y':z.H a=none:=y
   rw[hH] at y';cases y'⟩
 ·rcases List.mem_cons.mp (g.1.I.stkSub b q) with y|y
  ·rw[y];exact hz.loc
  ·exact hz.fs b y
 ·rcases q with q|q|q|q
  ·obtain⟨o,e⟩:=hz.there b q;exact e1.th b o e
  ·obtain⟨o,e⟩:=ho b q;exact⟨o,old b o e⟩
  ·subst q;obtain⟨o,es,ep,e,_⟩:=hn;exact⟨o,e⟩
  ·subst q;exact hd
 ·rcases q with q|q
  ·exact hz.bs b o e q
  ·have:=(hz.I.bs b o e).1
   rw[n0 b q] at this;cases this
theorem nN (B:Blk X scope N' fm)(hc:X.calm=true)(hg:∀C s H ex,NG (X.blk scope N' C s H ex) tg t)(hk:FK fm t)(ht:∀C s H ex,DR (X.blk scope N' C s H ex) ifs fc)(he:∀C s H ex,NE (X.blk scope N' C s H ex) elt f)
  {z:Z X} {s0 s:Shared} (hz:z.ok s0) {its ps:List PV} {itv:Value} (hi:Fz z tg false its s0 itv s) (hl:its.length<1000) (q:pT t fc f (gP fm z.ρ) its=some ps) {RR:Value->Addr->Result->Shared->Prop} {E:Value->Shared->Prop}
  (hRR:∀Dd C s',(z.wb [C]).ok s'->Ext z.bad s0.heap s'.heap->s0.heap.get? Dd=none->Dd≠C->ListAt (bV X (z.wb [C]).bad (eV z.H Dd bz)) s'.heap Dd ps->hV X z.pins z.H C->s0.heap.get? C=none->(∃m,s'.heap.Ns C m)->RR (.ref Dd) C (.ok .next) s') :
  W X (newList []) (fun acc s₃=>W X (newFunctionEnv scope X.env.globals (iR X.env.cells scope.names []) [] X.env.qual none .none (some X.env)) (fun cenv s₄=>
   codeAny (model X.prog X.w) X.A (.compStart (.ListComp elt [⟨tg,iter,ifs,0⟩] scope pos) 0 itv acc { cenv with scope:=relabel scope X.env }) (RR acc cenv.locals) s₄) E s₃) E s:=by
 obtain⟨it,fp,pl,tn,rfl,_,hpl,T,g,hf,st⟩:=hi
 refine wpAny_newObj_type (wpAny_newFunctionEnv B.ok.nocell (by intro y hy;simp at hy) (fun h₁ hns₁ hsb₁=>?_) B.ok.kind)
 dsimp only at hns₁ hsb₁ ⊢
 generalize hH2:s.heap.push { cls:=.type "list",dict:=none,data:=.seq ([]:List Value).toArray }=H2 at hns₁ hsb₁ ⊢
 have hC:H2.objs.size=s.heap.objs.size+1:=by rw[←hH2,Heap.size_push]
 generalize hCC:H2.objs.size=C at hns₁ hsb₁ hC ⊢
 generalize hDD:s.heap.objs.size=Dd at hC ⊢
 have hDC:Dd≠C:=by omega
 have hCle:s.heap.objs.size≤C:=by omega
 have hDle:s.heap.objs.size≤Dd:=by omega
 have lt:∀(b:Nat) (o:Obj),s.heap.get? b=some o->b<Dd:=fun b o e=>by rw[←hDD];exact Heap.lt_size e
 have old:∀b o,s.heap.get? b=some o->h₁.get? b=some o:=fun b o e=>hsb₁.extBut b o (Nat.ne_of_lt (Nat.lt_trans (lt b o e) (by rw[hC];exact Nat.lt_succ_self _))) (Heap.get?_push_of_some _ (hH2▸Heap.get?_push_of_some _ e))
 have hacc:h₁.get? Dd=some (eS [] 0):=hsb₁.extBut _ _ hDC (Heap.get?_push_of_some _ (by rw[←hH2,←hDD];exact Heap.get?_push_size _ rfl))
 have there:∀b∈fp,∃o,s.heap.get? b=some o:=fun b hb=>let ⟨o,e,_⟩:=T.obj _ _ _ st b hb;⟨o,e⟩
 have n0:∀b,b∈fp\/b=C\/b=Dd->s0.heap.get? b=none:=fun b y=>by
  rcases y with y|y|y
  ·exact (hf b y).2
  ·subst y;exact Ext.back g.2 (Heap.get?_none_of_le hCle)
  ·subst y;exact Ext.back g.2 (Heap.get?_none_of_le hDle)
 have hDf:Dd∉fp:=fun hm=>by obtain⟨o,e⟩:=there _ hm;exact Nat.lt_irrefl _ (lt _ _ e)
 have hCf:C∉fp:=fun hm=>by obtain⟨o,e⟩:=there _ hm;exact absurd (lt _ _ e) (by omega)
 have hDfs:Dd∉lx X.stack:=fun hm=>by
  obtain⟨_,o,e,_⟩:=g.1.I.stack.mem hm
  exact Nat.lt_irrefl Dd (lt Dd o e)
 have fHD:z.H Dd=none:=g.1.I.hok.fresh hDle
 have fHC:z.H C=none:=g.1.I.hok.fresh hCle
 have fC:hV X z.pins z.H C:=g.1.I.fpOk hCle fHC
 let Y:Cx:=X.blk scope N' C s z.H fp
 let bad':Addr->Prop:=fun b=>z.bad b\/b∈fp\/b=C\/b=Dd
 have gH:∀tk,(⟨bad',[],kY fm z.σ,z.H,gP fm z.ρ⟩:Z Y).ok { s with heap:=h₁,toks:=tk }:=fun tk=>vR B hz g hf there hCle hDle hns₁ ⟨_,hacc⟩ old
 have st1:tn 0 (bV Y bad' z.H) h₁:=T.keep 0 _ _ _ _ st (lv (X:=X) (bad:=fun b=>z.bad b\/b∈fp) (bad':=bad') (.kept old) fun b y=>by
  rcases y with y|y|y|y
  ·exact .inl (.inl y)
  ·exact .inl (.inr y)
  ·subst y;exact .inr (Heap.get?_none_of_le hCle)
  ·subst y;exact .inr (Heap.get?_none_of_le hDle)) fun b _=>old b
 have hpl2:∀b∈pl,¬bad' b:=fun b hb y=>by
  obtain⟨p1,p2,o,p3⟩:=hpl b hb
  rcases y with y|y|y|y
  ·exact p1 y
  ·exact p2 y
  ·subst y;exact absurd (lt _ _ p3) (by omega)
  ·subst y;exact absurd (lt _ _ p3) (by omega)
 have sub:∀x c,(iR X.env.cells scope.names []).lookup x=some c->X.env.cells.lookup x=some c:=fun x c h=>jc (B.ok.has hz.I.ok) (fun _ _ y=>by simp at y) h
 have stat:∀{oD:Obj},∀b∈fp,hV Y [(Dd,oD)] z.H b/\bad' b:=fun {oD} b hb=>by
  obtain⟨⟨f0,f1,f2,f3,f4,f5⟩,_⟩:=hf b hb
  refine⟨⟨f0,fun y=>hCf ((show b=C from y)▸hb),fun y=>?_,.inl hb,fun x c h=>f4 x c (sub x c h),fun p hp y=>?_⟩,.inr (.inl hb)⟩
  ·rcases List.mem_cons.mp (g.1.I.stkSub b y) with y|y
   ·exact f1 y
   ·exact f2 y
  ·have e:p=(Dd,oD):=by simpa [Y,Cx.blk] using hp
   subst e
   exact hDf ((show Dd=b from y)▸hb)
 have loop:∀tk,codeAny (model X.prog X.w) X.A (.compLoop (.ListComp elt [⟨tg,iter,ifs,0⟩] scope pos) 0 (.ref it) (.ref Dd) (compEnvC scope (iR X.env.cells scope.names []) C X.env)) (RR (.ref Dd) C) { s with heap:=h₁,toks:=tk }:=by
  intro tk
  refine iW (fun n s'=>∃i σ' acc us n' fx,n=its.length+1 - i/\i≤its.length/\(⟨bad',[],σ',z.H,gP fm z.ρ⟩:Z Y).ok s'/\Ext bad' h₁ s'.heap/\tn i (bV Y bad' z.H) s'.heap/\s'.heap.get? Dd=some (eS us n')/\Ds (bV Y bad' z.H) s'.heap acc us/\acc.length≤i/\pT t fc f (gP fm z.ρ) (its.drop i)=some fx/\acc++fx=ps) ?_ (its.length+1)
   ⟨0,_,[],[],0,ps,rfl,Nat.zero_le _,gH tk,.refl,st1,hacc,rfl,Nat.le_refl _,q,rfl⟩
  rintro n s3 ⟨i,σ3,acc,us,n3,fx,rfl,hi3,ok3,x3,st3,hd3,ds3,ha3,go3,e3⟩
  have l3:=ds3.length
  have okp:(⟨bad',[(Dd,eS us n3)],σ3,z.H,gP fm z.ρ⟩:Z Y).ok s3:=ok3.pinsOf _ fun p hp=>by
   have e:p=(Dd,eS us n3):=by simpa using hp
   subst e
   exact⟨hd3,fHD,hDC,hDfs,fun v y=>by cases y⟩
  by_cases hlt:i<its.length
  ·rw[List.drop_eq_getElem_cons hlt,pT] at go3
   obtain⟨ρ4,e1,go3⟩:=Option.bind_eq_some_iff.mp go3
   obtain⟨b,e2,go3⟩:=Option.bind_eq_some_iff.mp go3
   refine bE (T.item Y rfl rfl hc _ s3 _ i its[i] okp stat hpl2 st3 (List.getElem?_eq_getElem hlt)) fun r s4 ⟨u,hr,h4⟩=>?_
   subst hr
   refine bE h4 fun _ s5 ⟨g5,d5,st5⟩=>?_
   have ok5:=pinned g5.1 (fun b hb=>(stat b hb).1) (T.obj _ _ _ st5)
   refine bE (hg C s z.H fp _ s5 its[i] u ρ4 _ ok5 d5 e1) fun _ s6 ⟨σ6,ok6,x6⟩=>?_
   obtain⟨kl,kk⟩:=hk _ _ _ e1
   refine bE (ht C s z.H fp _ s6 b _ ok6 e2) fun c s7 ⟨ec,g7⟩=>?_
   subst ec
   have still:∀{s8:Shared},((((⟨bad',[(Dd,eS us n3)],σ3,z.H,gP fm z.ρ⟩:Z Y).wp (jG fp s5.heap)).wi σ6 z.H ρ4)).ok s8->Ext bad' s5.heap s8.heap->(⟨bad',[],σ6,z.H,gP fm z.ρ⟩:Z Y).ok s8/\Ext bad' h₁ s8.heap/\tn (i+1) (bV Y bad' z.H) s8.heap/\s8.heap.get? Dd=some (eS us n3)/\Ds (bV Y bad' z.H) s8.heap acc us:=fun {s8} ok8 x8=>by
    have x9:Ext bad' s3.heap s8.heap:=g5.2.trans x8
    refine⟨(Z.ok.weak (ok8.pinsOf [] fun p hp=>nomatch hp) kl.symm fun i t e=>?_ :),x3.trans x9,T.keep _ _ _ _ _ st5 (Ext.kpD x8) fun b hb o e=>?_,?_,ds3.mono x9.kpD⟩
    ·obtain⟨j,q1,q2⟩:=lE e
     show ρ4[i]?=_
     rw[kk i j q1];exact e
    ·rcases hb with hb|hb
     ·exact rp (z:=⟨bad',[(Dd,eS us n3)],σ3,z.H,gP fm z.ρ⟩) ok8 b hb o e
     ·exact x8.kp b o (hpl2 b hb) e
    ·exact (ok8.I.pin (Dd,_) (List.mem_append_right _ (List.mem_append_left _ (List.mem_singleton.mpr rfl)))).1
   cases c with
   |false=>
    rw[if_neg Bool.false_ne_true] at go3 ⊢
    obtain⟨a1,a2,a3,a4,a5⟩:=still g7.1 (x6.trans g7.2)
    exact⟨its.length+1 - (i+1),by omega,i+1,σ6,acc,us,n3,fx,rfl,hlt,a1,a2,a3,a4,a5,by omega,go3,e3⟩
   |true=>
    rw[if_pos rfl] at go3 ⊢
    obtain⟨r,e4,go3⟩:=Option.bind_eq_some_iff.mp go3
    obtain⟨y,e5,go3⟩:=Option.bind_eq_some_iff.mp go3
    obtain⟨rest',e6,rfl⟩:=Option.map_eq_some_iff.mp go3
    refine bE (he C s z.H fp _ s7 r _ g7.1 e4) fun v s8 q8=>?_
    obtain⟨a1,a2,a3,a4,a5⟩:=still q8.1.1 (x6.trans (g7.2.trans q8.1.2))
    have dv:D (bV Y bad' z.H) s8.heap y v:=q8.2.fr e5
    refine wpAny_list_append_plain (hsz:=by rw[List.size_toArray];have:=qw;omega) (show s8.heap.PlainList Dd us.toArray from⟨n3,a4⟩) fun h9 hl9 sb9=>?_
    have kp9:∀b o,b∉[Dd]->s8.heap.get? b=some o->h9.get? b=some o:=fun b o hb e=>(sb9.2 b (by simpa using hb)).trans e
    obtain⟨n9,hl9⟩:=hl9
    have go9:=a1.turn (t:=s8.toks) (h':=h9) (fp:=[Dd]) (fg (P:=fun b=>hV Y [] z.H b/\bad' b) ⟨⟨fHD,hDC,hDfs,.inr (by show s.heap.objs.size≤Dd;omega),fun x c h y=>?_,fun p hp=>(nomatch hp)⟩,.inr (.inr (.inr rfl))⟩) kp9 (fg (P:=fun b=>∃o,h9.get? b=some o) ⟨_,hl9⟩)
    ·have k9:Kp (bV Y bad' z.H) (bV Y bad' z.H) s8.heap h9:=go9.2.kpD
     refine⟨its.length+1 - (i+1),by omega,i+1,σ6,acc++[y],us++[v],n9,rest',rfl,hlt,go9.1,a2.trans go9.2,T.keep _ _ _ _ _ a3 k9 fun b hb o e=>kp9 b o (fun w=>?_) e,?_,(a5.mono k9).app (.one (dv.m k9)),by rw[List.length_append];simp;omega,e6,by rw[List.append_assoc];exact e3⟩
     ·have w:b=Dd:=by simpa using w
      subst w
      rcases hb with hb|hb
      ·exact hDf hb
      ·exact hpl2 b hb (.inr (.inr (.inr rfl)))
     ·have e:us.toArray.push v=(us++[v]).toArray:=by simp
      rw[hl9,e];rfl
    ·obtain⟨v,o,ho,hdd⟩:=a1.I.cell x c h
     rw[y,a4] at ho
     cases ho
     cases hdd
  ·have hnil:its.drop i=[]:=List.drop_eq_nil_of_le (by omega)
   rw[hnil,pT] at go3
   cases go3
   rw[List.append_nil] at e3
   subst e3
   refine bE (T.done Y rfl rfl hc _ s3 _ i okp stat hpl2 st3 (by omega)) fun r s4 ⟨hr,I4,k4⟩=>?_
   subst hr
   have hd4:s4.heap.get? Dd=some (eS us n3):=k4 Dd _ hDf hd3
   have U:Un (lx X.stack) fp z.H z.H s.heap s4.heap:=I4.base
   have I5:Inv X z.pins z.σ z.H s4:=g.1.I.call' I4.os U I4.hok I4.bare fun b hb=>by
    obtain⟨⟨f0,f1,f2,f3,f4,f5⟩,_⟩:=hf b hb
    exact⟨f3,f1,f4,f5⟩
   obtain⟨m4,hn4,_⟩:=I4.loc
   have x4:∀a o,¬bad' a->h₁.get? a=some o->s4.heap.get? a=some o:=fun a o nb e=>k4 a o (fun y=>nb (.inr (.inl y))) (x3.kp a o nb e)
   have e04:Ext z.bad s0.heap s4.heap:=⟨fun a o nb e=>x4 a o (fun y=>y.elim nb fun y=>by rw[n0 a y] at e;cases e) (old a o (g.2.kp a o nb e)),fun a o e=>by
    obtain⟨o1,e1⟩:=g.2.th a o e
    obtain⟨o2,e2⟩:=x3.th a o1 (old a o1 e1)
    exact⟨o2,k4 a o2 (fun y=>by rw[n0 a (.inl y)] at e;cases e) e2⟩⟩
   have gg:=hz.ext I5 e04
   have zC:(z.wb [C]).ok s4:=hz.more gg (fg (P:=fun b=>s0.heap.get? b=none/\∃o,s4.heap.get? b=some o) ⟨n0 C (.inr (.inl rfl)),let ⟨o,_,_,e,_⟩:=hn4;⟨o,e⟩⟩)
   refine hRR Dd C s4 zC e04 (n0 Dd (.inr (.inr rfl))) hDC ⟨us,n3,hd4,by have:=qw;omega,Ds.mono (c:=bV Y bad' z.H) (c':=bV X (z.wb [C]).bad (eV z.H Dd bz)) (h:=s3.heap) ⟨rfl,rfl,rfl,fun a o q e=>⟨⟨?_,fun y=>?_⟩,k4 a o (fun y=>q.2 (.inr (.inl y))) e⟩⟩ ds3⟩ fC (n0 C (.inr (.inl rfl))) ⟨m4,hn4⟩
   ·show eV z.H Dd bz a=none
    rw[bF fun y=>q.2 (.inr (.inr (.inr y)))];exact q.1
   ·rcases y with y|y
    ·exact q.2 (.inl y)
    ·exact q.2 (.inr (.inr (.inl (by simpa using y))))
 refine codeAny_compStart_list (loop _) (T.self _ 0 _ _ _ _ st1 (loop _))
theorem wz {z:Z X}{s0 s1:Shared}{h':Heap}{C:Addr}{σ:L2.St}{H:Hp}{ρ:aK}(hz:z.ok s0)(ok:((z.wb [C]).wi σ H ρ).ok s1)(fC:hV X z.pins H C)(n:s0.heap.get? C=none)(sb:Heap.SameBut C s1.heap h'):(z.wi σ H ρ).ok { s1 with heap:=h' }/\∀b o,b∉[C]->s1.heap.get? b=some o->h'.get? b=some o:=by
 obtain⟨f0,f1,f2,f3,f4,f5⟩:=fC
 have k:∀b o,b∉[C]->s1.heap.get? b=some o->h'.get? b=some o:=fun b o hb e=>sb.extBut b o (fun y=>hb (by simp[y])) e
 exact⟨hz.less (fp:=[C]) (fg n) ok (ok.I.turned (t':=s1.toks) (fun b o hb e=>sb.extBut b o hb e) f0 f1 f3 f4 f5) k,k⟩
theorem BU (B:Blk X scope N' fm)(hc:X.calm=true){fi:FI}(hi:NI X false tg iter fi)(hg:∀C s H ex,NG (X.blk scope N' C s H ex) tg t)(hk:FK fm t)(ht:∀C s H ex,DR (X.blk scope N' C s H ex) ifs fc)(he:∀C s H ex,NE (X.blk scope N' C s H ex) elt f)
  (hs:∀x,foldedSetIterable iter X.env x=pure x:=by intro _;rfl):NE X (.ListComp elt [⟨tg,iter,ifs,0⟩] scope pos) (fy fm fi t fc f):=fun z s0 r E hz q=>by
 obtain⟨its,ei,q⟩:=Option.bind_eq_some_iff.mp q
 split at q
 ·next hl=>
  obtain⟨ps,eg,rfl⟩:=Option.map_eq_some_iff.mp q
  rw[eval_ListComp]
  refine wpAny_comprehension_free (use:=none) rfl hs (lX (B.ok.has hz.I.ok)) B.ok.kind B.ok.names (bE (hi z s0 its E hz ei) fun v s1 h1=>bE h1 fun itv s2 h2=>?_)
  refine nN B hc hg hk ht he hz h2 hl eg (RR:=fun acc C=>compPost (model X.prog X.w) X.A E none (Z.post z s0 (.nw ps)) acc C) fun Dd C s' zC e04 nD hDC l fC nC ⟨m,hn⟩=>⟨m,hn,fun h' sb=>?_⟩
  obtain⟨ok,k⟩:=wz (σ:=z.σ) (H:=z.H) (ρ:=z.ρ) hz zC fC nC sb
  have e0:Ext z.bad s0.heap h':=⟨fun a o nb e=>k a o (fun y=>by rw[show a=C by simpa using y,nC] at e;cases e) (e04.kp a o nb e),fun a o e=>let ⟨o1,e1⟩:=e04.th a o e;⟨o1,k a o1 (fun y=>by rw[show a=C by simpa using y,nC] at e;cases e) e1⟩⟩
  refine⟨⟨ok,e0⟩,Dd,rfl,nD,hz.free nD,ListAt.mono (c:=bV X (z.wb [C]).bad (eV z.H Dd bz)) (c':=bV X z.bad (eV z.H Dd bz)) ⟨rfl,rfl,rfl,fun a o q e=>⟨⟨q.1,fun y=>q.2 (.inl y)⟩,k a o (fun y=>q.2 (.inr y)) e⟩⟩ (fun o e=>k Dd o (fun y=>hDC (by simpa using y)) e) l⟩
 ·cases q
noncomputable def GO (X:Cx)(x:Str)(g:List PV->aK->Out):Prop:=∀(y:Z X) (ps:List PV) (Dd:Addr) (s1:Shared) (E:Value->Shared->Prop),y.ok s1->iY y.bad y.H Dd->X.s₀.heap.get? Dd=none->(∀p∈X.pn++y.pins,p.1≠Dd)->ListAt (bV X y.bad (eV y.H Dd bz)) s1.heap Dd ps →
 (∀(j:Nat) t v,y.ρ[j]?=some (some t)->y.σ[j]?=some (some v)->SlOk (bV X y.bad (eV y.H Dd bz)) y.H s1.heap t v)->W X (storeName X.env x (.ref Dd)) (fun _ s2=>∃σ' H' ρ',g ps y.ρ=.nx ρ'/\(y.wi σ' H' ρ').ok s2/\Ext y.bad s1.heap s2.heap/\(H'=y.H\/H'=eV y.H Dd bz)) E s1
noncomputable def Ek (i:Nat)(ps:List PV)(ρ:aK):Out:=.nx (ρ.set i (some (.own ps)))
noncomputable def EC (i:Nat)(ps:List PV)(ρ:aK):Out:=.nx (ρ.set i (some (.val (.lst ps))))
theorem Ce {i:Nat}{x:Str}(n:Nm X i x):GO X x (Ek i):=fun y ps Dd s1 E ok fr h00 hp l sk=>
 bE (nK (t:=.own ps) ok n rfl fr h00 hp (jY l) ⟨Dd,rfl,cz,l⟩ sk) fun _ s2 ⟨σ',ok',e⟩=>⟨σ',_,_,rfl,ok',e,.inr rfl⟩
theorem CM {i:Nat}{x:Str}(n:Nm X i x):GO X x (EC i):=fun y ps Dd s1 E ok fr h00 hp l sk=>
 bE (dR (p:=.lst ps) ok n (by obtain⟨its,m,g,zl,ds⟩:=l;exact⟨Dd,its,m,rfl,fr,g,zl,ds.mono yj⟩)) fun _ s2 ⟨σ',ok',e⟩=>⟨σ',_,_,rfl,ok',e,.inl rfl⟩
noncomputable def Em (o:Option RV)(g:List PV->aK->Out)(ρ:aK):Out:=match o with
 |some (.nw ps)=>g ps ρ
 |_=>.bad
noncomputable def vo (f:FE)(g:List PV->aK->Out):FS:=fun ρ=>Em (f ρ) g ρ
theorem xQ (B:Blk X scope N' fm)(hc:X.calm=true){fi:FI}(hi:NI X false tg iter fi)(hg:∀C s H ex,NG (X.blk scope N' C s H ex) tg t)(hk:FK fm t)(ht:∀C s H ex,DR (X.blk scope N' C s H ex) ifs fc)(he:∀C s H ex,NE (X.blk scope N' C s H ex) elt f)
  {x:Str} {px spos:Pos} {g:List PV->aK->Out} (hst:GO X x g) (hsw:swapsWith (.ListComp elt [⟨tg,iter,ifs,0⟩] scope pos) (some (.Name x px)) spos.line X.env=pure true) (hs:∀x,foldedSetIterable iter X.env x=pure x:=by intro _;rfl) :
  NS X (.Assign [.Name x px] (.ListComp elt [⟨tg,iter,ifs,0⟩] scope pos) spos) (vo (fy fm fi t fc f) g):=fun z s0 E hz hb=>by
 unfold vo Em at hb ⊢
 split at hb
 ·next ps er=>
  obtain⟨its,ei,q⟩:=Option.bind_eq_some_iff.mp er
  split at q
  ·next hl=>
   obtain⟨ps',eg,e⟩:=Option.map_eq_some_iff.mp q
   cases e
   rw[exec_Assign_Name_used _ _ _ _ hsw]
   refine wpAny_bind (wpAny_standAt (wpAny_bind ?_))
   show wpAny _ X.A (do let _ ←comprehension (.ListComp elt [⟨tg,iter,ifs,0⟩] scope pos) scope X.env _ (newList []) false (eval iter X.env) (some (assign (.Name x px) X.env))) _ _ s0
   refine wpAny_bind (bE (wpAny_comprehension_free (use:=some (assign (.Name x px) X.env)) (Q:=fun _ s'=>Z.sp z s0 (g ps z.ρ) .next s') rfl hs (lX (B.ok.has hz.I.ok)) B.ok.kind B.ok.names (bE (hi z s0 its E hz ei) fun v s1 h1=>bE h1 fun itv s2 h2=>?_)) fun _ s' q=>wpAny_pure (wpAny_pure q))
   refine nN B hc hg hk ht he hz h2 hl eg (RR:=fun acc C=>compPost (model X.prog X.w) X.A E (some (assign (.Name x px) X.env)) (fun _ s'=>Z.sp z s0 (g ps z.ρ) .next s') acc C) fun Dd C s' zC e04 nD hDC l fC nC ⟨m,hn⟩=>?_
   have hn':=hn
   obtain⟨oC,es,ep,gC,cC,dC,rC⟩:=hn'
   have fC':=fC
   obtain⟨f0,f1,f2,f3,f4,f5⟩:=fC'
   have pC:((z.wb [C]).wp [(C,oC)]).ok s':=by
    refine⟨zC.I.pins_of fun p hp=>(List.mem_append.mp hp).elim (fun q=>zC.I.pin p (List.mem_append_right _ q)) fun q=>?_,zC.len,zC.slk,zC.dj,zC.nb,zC.oh,zC.oh0,zC.loc,zC.cel,zC.fs,zC.ex,zC.there,zC.bs,zC.ot,zC.anc⟩
    rw[show p=(C,oC) by simpa using q]
    exact⟨gC,f0,f1,f2,fun v y=>by
     have y:oC.data=.cell v:=y
     first
      |(rw[dC] at y;cases y)
      |(rw[cC] at y;cases y)⟩
   show W X (assign (.Name x px) X.env (.ref Dd)) _ E s'
   refine wpAny_assign_Name (bE (hst ((z.wb [C]).wp [(C,oC)]) ps Dd s' E pC ⟨(hz.free nD).1,fun y=>y.elim (hz.free nD).2 fun y=>hDC (by simpa using y)⟩ (gJ hz nD) (fun p hp y=>?_) l (hz.sk nD e04 fun b y=>y.imp id fun y=>by rw[show b=C by simpa using y];exact nC)) fun _ s'' ⟨σ',H',ρ',eg,ok,e5,hH⟩=>?_)
   ·rcases List.mem_append.mp hp with q|q
    ·have:=(hz.I.pin p (List.mem_append_left _ q)).1
     rw[y,nD] at this;cases this
    ·rcases List.mem_append.mp q with q|q
     ·have:=(hz.I.pin p (List.mem_append_right _ q)).1
      rw[y,nD] at this;cases this
     ·rw[show p=(C,oC) by simpa using q] at y;exact hDC y.symm
   ·have gC2:s''.heap.get? C=some oC:=(ok.I.pin (C,oC) (List.mem_append_right _ (List.mem_append_right _ (List.mem_singleton.mpr rfl)))).1
    refine⟨m,⟨oC,es,ep,gC2,cC,dC,rC⟩,fun h' sb=>?_⟩
    have hC:H' C=none:=(ok.I.pin (C,oC) (List.mem_append_right _ (List.mem_append_right _ (List.mem_singleton.mpr rfl)))).2.1
    obtain⟨ok2,k⟩:=wz (σ:=σ') (H:=H') (ρ:=ρ') hz (unpinned (z:=z.wb [C]) ok) ⟨hC,f1,f2,f3,f4,f5⟩ nC sb
    show Z.sp z s0 (g ps z.ρ) .next _
    rw[show g ps z.ρ=.nx ρ' from eg]
    have e0:Ext z.bad s0.heap h':=⟨fun a o nb e=>?_,fun a o e=>?_⟩
    ·refine⟨rfl,σ',H',ok2,?_⟩
     rcases hH with y|y
     ·rw[y];exact e0.stp
     ·rw[y];exact Stp.new e0 nD
    ·have ne:a≠C:=fun y=>by rw[y,nC] at e;cases e
     exact k a o (by simpa using ne) (e5.kp a o (fun y=>y.elim nb fun y=>ne (by simpa using y)) (e04.kp a o nb e))
    ·have ne:a≠C:=fun y=>by rw[y,nC] at e;cases e
     obtain⟨o1,e1⟩:=e04.th a o e
     obtain⟨o2,e2⟩:=e5.th a o1 e1
     exact⟨o2,k a o2 (by simpa using ne) e2⟩
  ·cases q
 ·exact absurd rfl hb
end
end Dp
end
section
namespace Dp
open PySem PySem.Spec L2 PyProof.Rows
section
variable {X:Cx}{a b c:Expr}{fa fb fc:FE}{op op':CmpOp}{g g':PV->PV->Option RV}{pos:Pos}
theorem Gy (h:uR X (compareOp op) g)(h':uR X (compareOp op') g')(ha:NE X a fa)(hb:NE X b fb)(hc:NE X c fc)(hm:lastMarks [op,op'] [b,c]=false):NE X (.Compare a [op,op'] [b,c] pos) (zE g g' fa fb fc):=fun z s r E hz q=>by
 obtain⟨x,ex,q⟩:=Option.bind_eq_some_iff.mp q
 obtain⟨y,ey,q⟩:=Option.bind_eq_some_iff.mp q
 obtain⟨k,ek,q⟩:=Option.bind_eq_some_iff.mp q
 refine Compare_chain (bE (ha z s x E hz ex) fun v s1 q1=>chain_link (bE (hb z s1 y E q1.1.1 ey) fun u s2 q2=>
  bE (h z s2 _ _ v u _ E q2.1.1 (q1.2.ext q2.1.2).rv q2.2.rv (fX ek)) fun d s3 q3=>?_)) hm
 cases (show d=Value.bool k from q3.2)
 have g3:=(q1.1.trans q2.1).trans q3.1
 refine wpAny_truthy_bool ?_
 cases k with
 |false=>cases q;exact ite_ff ⟨g3,rfl⟩
 |true=>
  rw[if_pos rfl] at q
  obtain⟨w,ew,q⟩:=Option.bind_eq_some_iff.mp q
  exact ite_tt (chain_last (bE (hc z s3 w E q3.1.1 ew) fun w' s4 q4=>bE (h' z s4 _ _ u w' r E q4.1.1 ((q2.2.ext q3.1.2).ext q4.1.2).rv q4.2.rv q) fun d' s5 q5=>(g3.trans q4.1).post q5))
theorem GW (h:uR X (compareOp op) g)(h':uR X (compareOp op') g')(ha:NE X a fa)(hb:NE X b fb)(hc:NE X c fc)(hm:lastMarks [op,op'] [b,c]=false):NB X (.Compare a [op,op'] [b,c] pos) (fT (zE g g' fa fb fc)):=fun z s r E hz q=>by
 obtain⟨x,ex,q⟩:=Option.bind_eq_some_iff.mp (fX q)
 obtain⟨y,ey,q⟩:=Option.bind_eq_some_iff.mp q
 obtain⟨k,ek,q⟩:=Option.bind_eq_some_iff.mp q
 refine isTrue_chain (bE (ha z s x E hz ex) fun v s1 q1=>test_link (bE (hb z s1 y E q1.1.1 ey) fun u s2 q2=>
  bE (h z s2 _ _ v u _ E q2.1.1 (q1.2.ext q2.1.2).rv q2.2.rv (fX ek)) fun d s3 q3=>?_)) hm
 cases (show d=Value.bool k from q3.2)
 have g3:=(q1.1.trans q2.1).trans q3.1
 refine wpAny_truthy_bool ?_
 cases k with
 |false=>cases q;exact ite_ff ⟨rfl,g3⟩
 |true=>
  rw[if_pos rfl] at q
  obtain⟨w,ew,q⟩:=Option.bind_eq_some_iff.mp q
  refine ite_tt (test_last (bE (hc z s3 w E q3.1.1 ew) fun w' s4 q4=>bE (h' z s4 _ _ u w' _ E q4.1.1 ((q2.2.ext q3.1.2).ext q4.1.2).rv q4.2.rv q) fun d' s5 q5=>?_))
  cases (show d'=Value.bool r from q5.2)
  exact wpAny_truthy_bool ⟨rfl,(g3.trans q4.1).trans q5.1⟩
noncomputable def BD:Option PV->Option RV
 |some (.int i)=>some (.fz (.int (Builtin.Int.intBits i:Nat)))
 |_=>none
noncomputable def wg (f:FE):FE:=fun ρ=>(f ρ).bind fun r=>BD r.fr
theorem B5 {x:Str}{p apos cpos:Pos}{f:FE}(ha:NE X (.Name x p) f)(hline:(apos.endLine==cpos.line)=true):NE X (.Call (.Attribute (.Name x p) "bit_length" apos) [] [] cpos) (wg f):=fun z s r E hz q=>by
 obtain⟨y,ey,q⟩:=Option.bind_eq_some_iff.mp q
 unfold BD at q
 split at q
 ·next i ei=>
  cases q
  refine wpAny_Call_method0_late rfl hline (bE (ha z s y E hz ey) fun v s1 q1=>?_)
  obtain⟨t,rfl⟩:=q1.2.fr ei
  refine⟨"int","int.bit_length",F.plainAttrs_int,F.slot_int_bit_length,F.type_int_bit_length,typeIs_int s1 i t,?_,Calls.callWith_builtin rfl (PySem.evalArgs_none ?_)⟩
  ·exact fun a e=>nomatch e
  ·refine call_gives F.slot_int_bit_length (typeIs_int s1 i t) F.entry_int_bit_length (F.args_int_bit_length_1 _) (AutoIntG2.int_bit_length_int_0 i t) ?_
   exact⟨q1.1.trans (q1.1.1.tok _),_,rfl⟩
 ·cases q
end
end Dp
end
section
namespace Dp
open PySem PySem.Spec L2 PyProof.Rows
noncomputable abbrev vE:=List PV->List PV->Option (List PV×PV)
noncomputable abbrev hL (a:Addr):Hp:=eV h0 a bz
structure NFL (P:Program)(w:World)(K:PySem.W.Frag)(mg:Str->Option Value)(base:Heap)(cm:Bool)(k:Nat)(f:Addr)(fd:FuncData)(ps:List Str)(F:vE):Prop where
 len:∀ps0 qs r,F ps0 qs=some r->qs.length+1=ps.length
 run:∀(A:Around) (outer:List Env) (s:Shared) (args:Args) (a:Addr) (us:List Value) (ps0 qs ps1:List PV) (p:PV) (bad:Addr->Prop),(cm=true->A.handled=none)->Rm k A->Env0 P w K mg base A outer s (hL a)->BindsTo s fd args (ps.zip (.ref a::us)) →
  (∀b∈lx outer,bad b)->(∀b,bad b->∃o,s.heap.get? b=some o)->(∀b o,base.get? b=some o->¬bad b)->¬bad a->ListAt ⟨iY bad (hL a),P,w,mg⟩ s.heap a ps0->Ds ⟨iY bad (hL a),P,w,mg⟩ s.heap qs us->F ps0 qs=some (ps1,p) →
  codeAny (model P w) A (.call (.ref f) args) (fun r s'=>∃u,r=.ok (.ret u)/\s'.os=s.os/\AllBare s'.gens/\Un (lx outer) [] (hL a) (hL a) s.heap s'.heap/\D ⟨iY bad (hL a),P,w,mg⟩ s'.heap p u/\ListAt ⟨iY bad (hL a),P,w,mg⟩ s'.heap a ps1) s
theorem NFL.mono {P:Program}{w:World}{K:PySem.W.Frag}{mg:Str->Option Value}{base:Heap}{cm:Bool}{j k:Nat}{f:Addr}{fd:FuncData}{ps:List Str}{F:vE}(n:NFL P w K mg base cm j f fd ps F)(h:j≤k):NFL P w K mg base cm k f fd ps F:=
 ⟨n.len,fun A outer s args a us ps0 qs ps1 p bad hc hr=>n.run A outer s args a us ps0 qs ps1 p bad hc (hr.mono h)⟩
noncomputable def Hi:Option (PR×aK)->Option (List PV×PV)
 |some (.v p,some (.own ps1)::_)=>some (ps1,p)
 |_=>none
section
variable {X:Cx}{i:Nat}{x:Str}{es:List Expr}{fs:FA}{pos:Pos}
theorem zr {cm:Bool}{k:Nat}{f:Addr}{fd:FuncData}{ps:List Str}{F:vE}(n:NFL X.prog X.w X.K X.mg X.base cm k f fd ps F)(hc:cm=true->X.calm=true)(hr:Rm k X.A)(hb:Binds X.K fd ps []){z:Z X}{s:Shared}(hz:z.ok s){a:Addr}(o:ci z.σ z.ρ i a){ps0 ps1 qs:List PV}{us:List Value}{p:PV}
  (hH:z.H a=some bz) (l:ListAt z.cn s.heap a ps0) (ds:Ds z.cn s.heap qs us) (q:F ps0 qs=some (ps1,p)) {E:Value->Shared->Prop} :
  W X (call (.ref f) (.ref a::us)) (fun v s'=>(z.wi z.σ z.H (z.ρ.set i (some (.own ps1)))).ok s'/\Stp z.bad z.H z.H s.heap s'.heap/\D z.cn s'.heap p v) E s:=by
 have e0:=hz.I.env0
 have ne:∀b,z.H b=none->b≠a:=fun b e y=>by subst y;rw[hH] at e;cases e
 have hLn:∀b,z.H b=none->hL a b=none:=fun b e=>bF (ne b e)
 have e1:Env0 X.prog X.w X.K X.mg X.base X.A X.stack s (hL a):=⟨e0.frames,e0.mod,fun b o e=>⟨(e0.bs b o e).1,hLn b (e0.bs b o e).2⟩,e0.bsz,e0.funs,fun b hb=>hLn b (e0.frf b hb),fun b u e=>(by
  by_cases hb:b=a
  ·subst hb
   have e:eV h0 b bz b=some u:=e
   rw[cz] at e;cases e
   exact⟨trivial,hz.stands hH,fun _ _ _ _=>trivial⟩
  ·have e:eV h0 a bz b=some u:=e
   rw[bF hb] at e;cases e),e0.bare⟩
 have hl:((Value.ref a::us)++[]).length=ps.length:=by rw[List.append_nil,List.length_cons,ds.length];exact n.len _ _ _ q
 have hfr:∀b∈lx X.stack,z.bad b:=fun b hb=>by
  rcases List.mem_cons.mp (hz.I.stkSub b hb) with e|e
  ·rw[e];exact hz.loc
  ·exact hz.fs b e
 let bad:Addr->Prop:=fun b=>(z.bad b\/z.H b≠none)/\b≠a
 have kp:Kp z.cn ⟨iY bad (hL a),X.prog,X.w,X.mg⟩ s.heap s.heap:=⟨rfl,rfl,rfl,fun b o q e=>⟨⟨hLn b q.1,fun y=>y.1.elim q.2 fun y=>y q.1⟩,e⟩⟩
 refine wpAny_call (codeAny_mono (n.run X.A X.stack s ⟨.ref a::us,[]⟩ a us ps0 qs ps1 p bad (fun c=>hz.I.ok.hd (hc c)) hr e1 (by have:=hb s (.ref a::us) hz.I.kIn hl;rwa [List.append_nil] at this) (fun b q=>⟨.inl (hfr b q),fun y=>(hz.ot a _ hH).1 (y▸hfr b q)⟩) (fun b q=>?_) (fun b o e q=>?_) (fun y=>y.2 rfl) (l.mono kp fun _ e=>e) (ds.mono kp) q) fun res s' hq=>?_)
 ·rcases q.1 with w|w
  ·exact hz.there b w
  ·cases e:z.H b with
   |none=>exact absurd e w
   |some o=>exact hz.stands e
 ·rcases q.1 with w|w
  ·exact hz.bs b o e w
  ·exact w (hz.I.bs b o e).2
 ·obtain⟨u,rfl,os,bare,un,d,l'⟩:=hq
  have kp2:Kp ⟨iY bad (hL a),X.prog,X.w,X.mg⟩ z.cn s'.heap s'.heap:=⟨rfl,rfl,rfl,fun b o q e=>by
   have nb:b≠a:=fun y=>by subst y;have:=q.1;rw[show hL b b=some bz from cz] at this;cases this
   refine⟨⟨?_,fun y=>q.2 ⟨.inl y,nb⟩⟩,e⟩
   cases w:z.H b with
   |none=>rfl
   |some o=>exact absurd ⟨.inr (by rw[w];simp),nb⟩ q.2⟩
  have hok:HOk X.prog X.w z.H s'.heap:=fun b o e=>by
   have e2:=hz.oh b o e
   subst e2
   obtain⟨ob,q⟩:=hz.stands e
   obtain⟨o',q'⟩:=un.there b ob q (by simp)
   exact⟨trivial,⟨o',q'⟩,fun _ _ _ _=>trivial⟩
  have U:Un (lx X.stack) [] z.H z.H s.heap s'.heap:=⟨fun b o e n f x=>un.keep b o e (hLn b n) f x,fun b o e n f x=>un.slot b o e (hLn b n) f x,fun _ _ _ n _=>n,un.there,fun _ _ e=>e,fun _ _ _ e=>e,fun b ps e=>⟨#[],by rw[e];simp⟩⟩
  have I':=hz.I.call' os U hok bare (fun b z=>absurd z (by simp))
  obtain⟨h1,h2⟩:=Z.ok.mut0 hz o I' (fun b u nb ne e=>un.keep b u e (bF ne) (fun q=>nb (hfr b q)) (by simp)) (fun b u e=>un.there b u e (by simp)) (t:=.own ps1) rfl (jY l') fun _=>⟨a,rfl,hH,l'.mono kp2 fun _ e=>e⟩
  exact⟨h1,h2,d.m kp2⟩
structure DefL (P:Program)(w:World)(K:PySem.W.Frag)(mg:Str->Option Value)(base:Heap)(cm:Bool)(k:Nat)(x:Str)(F:vE):Prop where
 ex:∃f fd ps,NFL P w K mg base cm k f fd ps F/\Binds K fd ps []/\PySem.W.keepIn K (.ref f)=true/\mg x=some (.ref f)
noncomputable def pB (tab:List (Str×Fn))(o:Option Sl)(qs:Option (List PV))(rs:List RV):Option RV:=match o with
 |some (.val (.fn x))=>(tab.lookup x).bind fun F=>lQ F qs rs
 |_=>none
noncomputable def lO (tab:List (Str×Fn))(j:Nat)(fs:FA):FE:=fun ρ=>(fs ρ).bind fun rs=>pB tab (sl ρ j) (rs.mapM RV.fr) rs
theorem Ax {cm:Bool}{k:Nat}{j:Nat}{y:Str}{p:Pos}{e:Expr}{tab:List (Str×Fn)}(ht:∀x F,tab.lookup x=some F->∃j,j≤k/\DefN X.prog X.w X.K X.mg X.base cm j x F)(hc:cm=true->X.calm=true)(hr:Rm k X.A)
  (hN:X.N[j]?=some y) (hv:np X.env.scope y) (hd:(y==("__debug__" : Str))=false) (hcd:(y==("__classdict__" : Str))=false) (ha:NA X (e::es) fs)
  (he:starEach (e::es) X.env=(false,eval e X.env)::starEach es X.env) (hpl:(backTo pos (starEach es X.env)).any (·.1)=false):NE X (.Call (.Name y p) (e::es) [] pos) (lO tab j fs):=fun z s r E hz q=>by
 obtain⟨rs,er,q⟩:=Option.bind_eq_some_iff.mp q
 unfold pB at q
 split at q
 ·next x ef=>
  obtain⟨F,eF,q⟩:=Option.bind_eq_some_iff.mp q
  obtain⟨jj,hj,d⟩:=ht x F eF
  obtain⟨f,fd,ps,n,hb,hk,hm⟩:=d.ex
  refine wpAny_Call_Name_kw (bE (EJ hN hv hd hcd z s (.fz (.fn x)) E hz (show (sl z.ρ j).map oY=_ by rw[ef];rfl)) fun v s0 q0=>?_)
  obtain⟨a,m,rfl⟩:=q0.2
  have m:X.mg x=some (.ref a):=m
  rw[hm] at m;cases m
  refine PySem.W.callWith_K (h₀:=X.base) hz.I.ok.mod.kin hk (bE (ha z pos s0 rs E q0.1.1 er) fun us s1 ⟨g1,d1⟩=>⟨g1.1.I.kIn,?_⟩) he hpl
  exact bE (r9 (n.mono hj) hc hr hb g1.1 d1 q) fun u s2 q2=>(q0.1.trans g1).post q2
 ·cases q
noncomputable def rx (F:Option vE)(o:Option Sl)(qs:Option (List PV))(i:Nat)(t:FT)(ρ:aK):Out:=match F,o,qs with
 |some F,some (.own ps),some qs=>match F ps qs with
  |some (ps1,p)=>DK (t p (ρ.set i (some (.own ps1))))
  |none=>.bad
 |_,_,_=>.bad
noncomputable def AQ (F:vE)(i:Nat)(fs:FA)(t:FT):FS:=fun ρ=>rx (some F) (sl ρ i) ((fs ρ).bind fun rs=>rs.mapM RV.fr) i t ρ
noncomputable def Gj (tab:List (Str×vE))(o:Option Sl):Option vE:=match o with
 |some (.val (.fn x))=>tab.lookup x
 |_=>none
noncomputable def sE (tab:List (Str×vE))(j i:Nat)(fs:FA)(t:FT):FS:=fun ρ=>rx (Gj tab (sl ρ j)) (sl ρ i) ((fs ρ).bind fun rs=>rs.mapM RV.fr) i t ρ
theorem qY {cm:Bool}{k:Nat}{f:Addr}{fd:FuncData}{ps:List Str}{F:vE}{tg:Expr}{t:FT}{xp fp cpos:Pos}{g:Str}(n:NFL X.prog X.w X.K X.mg X.base cm k f fd ps F)(hbi:Binds X.K fd ps [])(hk:PySem.W.keepIn X.K (.ref f)=true)(hc:cm=true->X.calm=true)(hr:Rm k X.A)
  (hN:X.N[i]?=some x) (hv:np X.env.scope x) (hd:(x==("__debug__" : Str))=false) (hcd:(x==("__classdict__" : Str))=false) (ha:NA X es fs) (hpl:(backTo cpos (starEach es X.env)).any (·.1)=false) (hg:NG X tg t)
  (hs:swapsWithSole [tg] (.Call (.Name g fp) (.Name x xp::es) [] cpos) pos.line X.env=pure false) (hw:swappedStores [tg] (.Call (.Name g fp) (.Name x xp::es) [] cpos) X.env=pure none) (h1:(assignEach [tg] X.env).map (·.2)=[assign tg X.env])
  {z:Z X} {s:Shared} {E:Value->Shared->Prop} (hz:z.ok s) (hload:∀(s:Shared) Q,z.ok s->(∀s',z.go s s'->Q (.ref f) s')->W X (eval (.Name g fp) X.env) Q E s) (hb:rx (some F) (sl z.ρ i) ((fs z.ρ).bind fun rs=>rs.mapM RV.fr) i t z.ρ≠.bad) :
  W X (exec (.Assign [tg] (.Call (.Name g fp) (.Name x xp::es) [] cpos) pos) X.env) (Z.sp z s (rx (some F) (sl z.ρ i) ((fs z.ρ).bind fun rs=>rs.mapM RV.fr) i t z.ρ)) E s:=by
 unfold rx DK at hb ⊢
 split at hb
 ·next F' ps0 qs hF ho hq=>
  cases hF
  split at hb
  ·next ps1 p hr'=>
   split at hb
   ·next ρ' et=>
    obtain⟨rs,er,eq⟩:=Option.bind_eq_some_iff.mp hq
    refine wpAny_Assign_stores (wpAny_Call_Name_kw (hload s _ hz fun s0 g0=>?_)) hs hw
    refine PySem.W.callWith_K (h₀:=X.base) hz.I.ok.mod.kin hk ?_ rfl hpl
    refine Calls.spliced_cons ?_
    obtain⟨v,e2,_,a,rfl,hH,l⟩:=g0.1.slk i _ (fS ho)
    refine ke g0.1 e2 hN hv hd hcd (bE (ha z cpos s0 rs _ g0.1 er) fun us s1 ⟨g1,d1⟩=>⟨g1.1.I.kIn,?_⟩)
    have oa:ci z.σ z.ρ i a:=⟨⟨_,fS ho,rfl⟩,e2⟩
    have l1:ListAt z.cn s1.heap a ps0:=l.mono g1.2.kpD fun o e=>g1.2.kp a o (hz.ot a _ hH).1 e
    refine bE (zr n hc hr hbi g1.1 oa hH l1 (d1.fr eq) hr') fun v s2 ⟨ok2,t2,d2⟩=>?_
    rw[h1]
    exact bE (hg (z.wi z.σ z.H (z.ρ.set i (some (.own ps1)))) s2 p v ρ' E ok2 d2 et) fun _ s3 ⟨σ3,ok3,x3⟩=>⟨rfl,σ3,z.H,ok3,((g0.2.trans g1.2).stp.trans t2).trans x3.stp⟩
   ·exact absurd rfl hb
  ·exact absurd rfl hb
 ·exact absurd rfl hb
theorem CG {cm:Bool}{k j:Nat}{F:vE}{tg:Expr}{t:FT}{xp fp cpos:Pos}{g:Str}(d:DefL X.prog X.w X.K X.mg X.base cm j g F)(hj:j≤k)(hgl:Gl X g)(hgd:(g==("__debug__" : Str))=false)(hc:cm=true->X.calm=true)(hr:Rm k X.A)
  (hN:X.N[i]?=some x) (hv:np X.env.scope x) (hd:(x==("__debug__" : Str))=false) (hcd:(x==("__classdict__" : Str))=false) (ha:NA X es fs) (hpl:(backTo cpos (starEach es X.env)).any (·.1)=false) (hg:NG X tg t)
  (hs:swapsWithSole [tg] (.Call (.Name g fp) (.Name x xp::es) [] cpos) pos.line X.env=pure false) (hw:swappedStores [tg] (.Call (.Name g fp) (.Name x xp::es) [] cpos) X.env=pure none) (h1:(assignEach [tg] X.env).map (·.2)=[assign tg X.env]) :
  NS X (.Assign [tg] (.Call (.Name g fp) (.Name x xp::es) [] cpos) pos) (AQ F i fs t):=fun z s E hz hb=>by
 obtain⟨f,fd,ps,n,hbi,hk,hm⟩:=d.ex
 exact qY (n.mono hj) hbi hk hc hr hN hv hd hcd ha hpl hg hs hw h1 hz (fun s Q hz h=>lu hz.I hgl hm (h s hz.refl) hgd) hb
theorem AF {cm:Bool}{k j:Nat}{y:Str}{tab:List (Str×vE)}{tg:Expr}{t:FT}{xp fp cpos:Pos}(ht:∀x F,tab.lookup x=some F->∃j,j≤k/\DefL X.prog X.w X.K X.mg X.base cm j x F)(hc:cm=true->X.calm=true)(hr:Rm k X.A)
  (hN':X.N[j]?=some y) (hv':np X.env.scope y) (hd':(y==("__debug__" : Str))=false) (hcd':(y==("__classdict__" : Str))=false)
  (hN:X.N[i]?=some x) (hv:np X.env.scope x) (hd:(x==("__debug__" : Str))=false) (hcd:(x==("__classdict__" : Str))=false) (ha:NA X es fs) (hpl:(backTo cpos (starEach es X.env)).any (·.1)=false) (hg:NG X tg t)
  (hs:swapsWithSole [tg] (.Call (.Name y fp) (.Name x xp::es) [] cpos) pos.line X.env=pure false) (hw:swappedStores [tg] (.Call (.Name y fp) (.Name x xp::es) [] cpos) X.env=pure none) (h1:(assignEach [tg] X.env).map (·.2)=[assign tg X.env]) :
  NS X (.Assign [tg] (.Call (.Name y fp) (.Name x xp::es) [] cpos) pos) (sE tab j i fs t):=fun z s E hz hb=>by
 unfold sE at hb ⊢
 cases ho:Gj tab (sl z.ρ j) with
 |none=>rw[ho] at hb;exact absurd rfl hb
 |some F=>
  rw[ho] at hb
  have ho':=ho
  unfold Gj at ho'
  split at ho'
  ·next g ef=>
   obtain⟨jj,hj,d⟩:=ht g F ho'
   obtain⟨f,fd,ps,n,hbi,hk,hm⟩:=d.ex
   refine qY (n.mono hj) hbi hk hc hr hN hv hd hcd ha hpl hg hs hw h1 hz (fun s Q hz' h=>?_) hb
   have:=EJ (pos:=fp) hN' hv' hd' hcd' z s (.fz (.fn g)) E hz' (show (sl z.ρ j).map oY=_ by rw[ef];rfl)
   exact bE this fun v s1 q=>by
    obtain⟨a,m,rfl⟩:=q.2
    have m:X.mg g=some (.ref a):=m
    rw[hm] at m;cases m
    exact h s1 q.1
  ·cases ho'
end
end Dp
end
section
namespace Dp
open PySem PySem.Spec L2 PyProof.Rows
section
variable {X:Cx}{o:Expr}{es:List Expr}{fo:FE}{fs:FA}{pos:Pos}
structure MthN (X:Cx)(T:String)(name:Str)(id:String)(g:PV->List PV->Option RV):Prop where
 pa:PlainAttrs T
 slot:Slot T name id
 hty:typeOf (.builtin id)=pure (.type "method_descriptor")
 ty:∀(z:Z X) (s:Shared) p qs r u,g p qs=some r->Rv z s.heap p u->s.TypeIs u T/\∀b,u=.ref b->∃ob,s.heap.get? b=some ob/\ob.dict=none
 call:∀(z:Z X) (s:Shared) p u qs us r E,z.ok s->Rv z s.heap p u->Rvs z s.heap qs us->g p qs=some r->W X (call (.builtin id) (u::us)) (Z.post z s r) E s
structure Mc (X:Cx)(o:Expr)(name:Str)(apos cpos:Pos)(es:List Expr):Prop where
 base:attributeBase o name X.env (eval o X.env)=eval o X.env
 line:(apos.endLine==cpos.line)=true
 few:((backTo cpos (starEach es X.env)).all (fun x=>!x.1)&&(backToKw cpos (keywordEach [] X.env)).all (fun x=>x.1.isSome)&&decide (es.length+([]:List Keyword).length+(if ([]:List Keyword).isEmpty then 0 else 1)<30))=true
 ns:∀e r,es=e::r->starEach (e::r) X.env=(false,eval e X.env)::starEach r X.env/\(backTo cpos (starEach r X.env)).any (·.1)=false
noncomputable def vD (g:PV->List PV->Option RV)(fo:FE)(fs:FA):FE:=fun ρ=>(fo ρ).bind fun x=>(fs ρ).bind fun rs=>g x.pv (rs.map RV.pv)
theorem Bx {T:String}{name:Str}{id:String}{g:PV->List PV->Option RV}(m:MthN X T name id g){apos cpos:Pos}(c:Mc X o name apos cpos es)(ho:NE X o fo)(ha:NA X es fs)(h0:es=[]->fs=af):NE X (.Call (.Attribute o name apos) es [] cpos) (vD g fo fs):=fun z s r E hz q=>by
 obtain⟨x,ex,q⟩:=Option.bind_eq_some_iff.mp q
 obtain⟨rs,er,q⟩:=Option.bind_eq_some_iff.mp q
 cases es with
 |nil=>
  refine wpAny_Call_method0_late c.base c.line (bE (ho z s x E hz ex) fun u s1 q1=>?_)
  obtain⟨t1,t2⟩:=m.ty z s1 _ _ r u q q1.2.rv
  rw[h0 rfl] at er;cases er
  exact⟨T,id,m.pa,m.slot,m.hty,t1,t2,Calls.callWith_builtin rfl (PySem.evalArgs_none (bE (m.call z s1 _ u _ [] r E q1.1.1 q1.2.rv .nil q) fun v s2 q2=>q1.1.post q2))⟩
 |cons e0 es0=>
  refine wpAny_Call_method_late c.base c.few c.line rfl (bE (ho z s x E hz ex) fun u s1 q1=>?_)
  obtain⟨t1,t2⟩:=m.ty z s1 _ _ r u q q1.2.rv
  refine⟨T,id,m.pa,m.slot,m.hty,t1,t2,?_⟩
  obtain⟨hs,hp⟩:=c.ns e0 es0 rfl
  have hA:=ha z cpos s1 rs E q1.1.1 er
  rw[hs] at hA ⊢
  refine Calls.callWith_builtin (by show (false || (backTo cpos (starEach es0 X.env)).any (·.1))=false;rw[hp]<;>rfl) (Calls.evalArgs_plain ?_)
  exact bE hA fun us s2 ⟨g2,d2⟩=>bE (m.call z s2 _ u _ us r E g2.1 (q1.2.ext g2.2).rv d2.rv q) fun v s3 q3=>(q1.1.trans g2).post q3
noncomputable def kh:PV->List PV->Option RV
 |.dct ks ps,[k]=>(ia k).map fun k=>.fz ((nF ks ps k).getD .non)
 |.dct ks ps,[k,x]=>(ia k).bind fun k=>match nF ks ps k with
  |some p=>some (.fz p)
  |none=>if DO x=true then none else some (.fz x)
 |_,_=>none
theorem wK {z:Z X}{s:Shared}{ks:List e9}{ps:List PV}{u:Value}(d:Rv z s.heap (.dct ks ps) u):s.TypeIs u "dict"/\∀b,u=.ref b->∃ob,s.heap.get? b=some ob/\ob.dict=none:=by
 obtain⟨a,kus,rfl,_,y,dd,_⟩:=d.rd
 refine⟨dd.typeIs,fun b e=>?_⟩
 cases e
 obtain⟨ob,_,_,h1,h2,_⟩:=dd
 exact⟨ob,h1,h2.2.1⟩
theorem A6:MthN X "dict" "get" "dict.get" kh where
 pa:=PySem.F.plainAttrs_dict
 slot:=PySem.F.slot_dict_get
 hty:=PySem.F.type_dict_get
 ty:=fun z s p qs r u e d=>by
  unfold kh at e
  split at e
  ·exact wK d
  ·exact wK d
  ·cases e
 call:=fun z s p u qs us r E hz d ds e=>by
  unfold kh at e
  split at e
  ·next ks ps k0=>
   obtain⟨k,ek,rfl⟩:=Option.map_eq_some_iff.mp e
   obtain⟨v,rfl,dv⟩:=ds.one
   obtain⟨a,kus,rfl,_,y,dd,zl,hk,dps⟩:=d.rd
   obtain⟨h1,h2⟩:=jV (y:=k) hk dps
   refine call_meetsIn PySem.F.slot_dict_get dd.typeIs PySem.F.entry_dict_get (PySem.F.args_dict_get_2 _ _) (meets_dict_get (b7 X.prog X.w) a (lD (fG ek dv.rd)) y) ⟨_,dd.mapOf,hz.tok _,?_⟩
   cases hd:nF ks ps k with
   |none=>rw[h2 hd];exact rfl
   |some p=>obtain⟨w,e1,dw⟩:=h1 p hd;rw[e1];exact dw
  ·next ks ps k0 x=>
   obtain⟨k,ek,e⟩:=Option.bind_eq_some_iff.mp e
   obtain⟨v,w0,rfl,dv,dx⟩:=ds.two
   obtain⟨a,kus,rfl,_,y,dd,zl,hk,dps⟩:=d.rd
   obtain⟨h1,h2⟩:=jV (y:=k) hk dps
   refine call_meetsIn PySem.F.slot_dict_get dd.typeIs PySem.F.entry_dict_get (PySem.F.args_dict_get_3 _ _ _) (meets_dict_get_default (b7 X.prog X.w) a (lD (fG ek dv.rd)) y w0) ⟨_,dd.mapOf,?_⟩
   split at e
   ·next p hd=>
    cases e
    obtain⟨w,e1,dw⟩:=h1 p hd
    rw[e1];exact⟨hz.tok _,dw⟩
   ·next hd=>
    split at e
    ·cases e
    ·next hn=>
     cases e
     rw[h2 hd]
     exact⟨hz.tok _,D1.m (dx.fz (by simpa using hn)) .refl⟩
  ·cases e
end
end Dp
end
section
namespace Dp
open PySem PySem.Spec L2 PyProof.Rows
structure Gd where
 bi:List Str:=[]
 nis:List (Str×Int):=[]
 tups:List (Str×List PV):=[]
 vals:List Str:=[]
 fns:List (Str×Fn):=[]
 dcts:List (Str×List e9×List PV):=[]
 tab:List (Str×Fn):=[]
 lents:List (Str×vE):=[]
structure Lc where
 sc:Scope
 N:List Str
 top:Bool:=true
 lent:Bool:=false
 own:List Str:=[]
 frz:List (Nat×List Nat):=[]
 alt:List (Nat×Nat):=[]
 cmp:List ((Nat×Nat)×List Str):=[]
 dic:List Str:=[]
structure Hk where
 e:Gd->(Lc->Expr->FE)->(Lc->Expr->FB)->Lc->Expr->Option FE:=fun _ _ _ _ _=>none
 i:Gd->Lc->(Expr->FE)->Expr->Expr->Option FI:=fun _ _ _ _ _=>none
 b:Gd->(Lc->Expr->FE)->(Lc->Expr->FB)->Lc->Expr->Option FB:=fun _ _ _ _ _=>none
 s:Gd->(Lc->Expr->FE)->(Lc->Expr->FB)->(Lc->Stmt->FS)->Lc->Stmt->Option FS:=fun _ _ _ _ _ _=>none
structure Gc extends Gd where
 hk:Hk:={}
noncomputable def DI (x:Str):List Str->Option Nat
 |[]=>none
 |y::r=>if x=y then some 0 else (DI x r).map (·+1)
theorem sn {x:Str}:∀{l:List Str} {i:Nat},DI x l=some i->l[i]?=some x
 |[],_,h=>by cases h
 |y::r,i,h=>by
  unfold DI at h
  split at h
  ·next e=>cases h;rw[e];rfl
  ·obtain⟨j,e,rfl⟩:=Option.map_eq_some_iff.mp h
   rw[List.getElem?_cons_succ];exact sn e
noncomputable def zf (x:Str):Bool:=x == "__debug__" || x == "__classdict__" || x == "__name__"
noncomputable def bZ:FE:=fun _=>none
noncomputable def i7:Expr->Bool
 |.Starred _ _=>false
 |_=>true
theorem eT {e:Expr}(h:i7 e=true)(es:List Expr)(env:Env):starEach (e::es) env=(false,eval e env)::starEach es env:=by
 cases e<;>first|rfl|(cases h)
theorem gX {pos:Pos}{env:Env}:∀{es:List Expr},es.all i7=true->(backTo pos (starEach es env)).any (·.1)=false
 |[],_=>rfl
 |e::es,h=>by
  rw[List.all_cons,Bool.and_eq_true] at h
  rw[eT h.1]
  exact gX (es:=es) h.2
noncomputable def Hz (L:Lc)(x:Str):Bool:=match L.sc.names.lookup x with
 |some .local=>true
 |some .cell=>true
 |some .free=>true
 |_=>false
noncomputable def glob (L:Lc)(x:Str):Bool:=L.sc.names.lookup x==some .globalImplicit&&!zf x
noncomputable def slot (L:Lc)(x:Str):Option Nat:=if Hz L x&&!zf x then DI x L.N else none
noncomputable def dI (L:Lc)(x:Str):Option Nat:=if L.sc.names.lookup x==some .local || L.top&&L.sc.names.lookup x==some .cell then (DI x L.N).bind (fun i=>if L.lent&&i==0 then none else some i) else none
noncomputable def G8 (x:Str):FE:=if x = "int" then fC (.ty "int") else if x = "bool" then fC (.ty "bool") else if x = "str" then fC (.ty "str") else if x = "list" then fC (.ty "list") else if x = "tuple" then fC (.ty "tuple") else if x = "dict" then fC (.ty "dict") else bZ
noncomputable def wl (G:Gc)(L:Lc)(x:Str):FE:=
 match slot L x with
 |some i=>fV i
 |none=>if glob L x then (match G.nis.lookup x with
  |some i=>fC (.int i)
  |none=>match G.tups.lookup x with
   |some ps=>fC (.ktu ps)
   |none=>if G.vals.contains x then fC (.fn x)
    else match G.dcts.lookup x with
     |some kp=>fC (.dct kp.1 kp.2)
     |none=>if G.bi.contains x then G8 x else bZ) else bZ
noncomputable def DM (f:Expr->FE):List Expr->FA
 |[]=>af
 |e::es=>aa (f e) (DM f es)
noncomputable def vA (f:Expr->FE)(es:List Expr):FA:=if es.all i7 then DM f es else fun _=>none
noncomputable def vZ (L:Lc)(p:Pos):Bool:=L.alt.contains (p.line,p.col)
noncomputable def FU (x:Str)(alt:Bool)(n:Nat)(fs:FA):FE:=
 if x = "len" then fB iH fs else if x = "abs" then fB yc fs else if x = "all" then fB wf fs else if x = "any" then fB BT fs
 else if x = "isinstance" then fB pV fs else if x = "sorted" then (if alt then fB rY fs else fB o3 fs)
 else if x = "max" then (if n=2 then fB n6 fs else fB AO fs) else if x = "min" then (if n=2 then fB kK fs else fB u7 fs)
 else if x = "sum" then fB Aq fs else if x = "int" then fB p8 fs else if x = "tuple" then (if alt then fB yF fs else fB qC fs)
 else if x = "list" then fB mi fs else if x = "range" then fB se fs else if x = "str" then fB BH fs else bZ
noncomputable def yD (G:Gc)(L:Lc)(f:Expr->FE)(x:Str)(args:List Expr)(pos:Pos):FE:=
 match slot L x with
 |some i=>if args.isEmpty then bZ else lO G.tab i (vA f args)
 |none=>if glob L x then (match G.fns.lookup x with
  |some F=>if args.isEmpty then wI F else aX F (vA f args)
  |none=>if G.bi.contains x&&!args.isEmpty then FU x (vZ L pos) args.length (vA f args) else bZ) else bZ
noncomputable def Gw:Nat->Expr->List Str
 |_+1,.Name x _=>[x]
 |n+1,.Tuple es _ _=>es.flatMap (Gw n)
 |_,_=>[]
noncomputable def FJ (f:Expr->FT):List Expr->vF
 |[]=>g0
 |e::es=>gC (f e) (FJ f es)
noncomputable def vT:Nat->Lc->Expr->FT
 |_+1,L,.Name x _=>match dI L x with
  |some i=>gN i
  |none=>fun _ _=>none
 |n+1,L,.Tuple es _ _=>if es.all i7 then gw es.length (FJ (vT n L) es) else fun _ _=>none
 |_,_,_=>fun _ _=>none
noncomputable def EO:Nat->Lc->Expr->List Nat
 |_+1,L,.Name x _=>(dI L x).toList
 |n+1,L,.Tuple es _ _=>es.flatMap (EO n L)
 |_,_,_=>[]
noncomputable def BQ:Expr->Bool
 |.Set _ _ _=>false
 |_=>true
noncomputable def t8:Expr->Bool
 |.Tuple _ _ _=>true
 |_=>false
noncomputable def A8 (L:Lc):Expr->Bool
 |.Name x _=>L.own.contains x
 |_=>false
noncomputable def vI (G:Gc)(L:Lc)(f:Expr->FE)(own:Bool)(tg it:Expr):FI:=
 if own then Ei (f it) else match G.hk.i G.toGd L f tg it with
 |some g=>g
 |none=>match it with
 |.Call (.Name x _) [a] [] p=>
  if x = "range"&&glob L "range"&&G.bi.contains "range" then jC kf (vA f [a])
  else if x = "enumerate"&&glob L "enumerate"&&G.bi.contains "enumerate"&&t8 tg then mv (vA f [a]) else rM (f it)
 |.Call (.Name x _) [a,b] [] _=>if x = "range"&&glob L "range"&&G.bi.contains "range" then jC sK (vA f [a,b]) else rM (f it)
 |.Call (.Name x _) [a,b,d] [] _=>if x = "range"&&glob L "range"&&G.bi.contains "range" then jC C2 (vA f [a,b,d]) else rM (f it)
 |_=>rM (f it)
noncomputable def yq (sc o:Scope):Scope:={ sc with names:=sc.names.map fun (n,k)=>if k==.free&&o.kind==.function&&o.names.lookup n==some .cell then (n,.cell) else (n,k) }
noncomputable def vO (f:Expr->FE):Option Expr->FO
 |none=>qc
 |some e=>qh (f e)
noncomputable abbrev RE:=Lc->Expr->FE
noncomputable abbrev RB:=Lc->Expr->FB
noncomputable def FR (L:Lc)(tg:Expr)(N2:List Str):List (Option Nat):=N2.map fun x=>if (Gw 5 tg).contains x then none else DI x L.N
noncomputable def E7 (L:Lc)(sc:Scope)(tg:Expr)(N2:List Str):Lc:={ L with sc:=yq sc L.sc,N:=N2,top:=false,own:=L.own.filter fun x=>!(Gw 5 tg).contains x }
noncomputable def Hn (L:Lc)(sc:Scope)(tg it:Expr)(N2:List Str):Bool:=
 oW sc.kind sc.names (fun x=>L.sc.names.lookup x) L.N N2 (FR L tg N2)&&decide N2.Nodup&&(EO 5 (E7 L sc tg N2) tg).all (fun i=>(FR L tg N2)[i]?==some none)&&BQ it
noncomputable def HJ (rB:RB)(L:Lc):List Expr->FB
 |[]=>jk
 |[c]=>rB L c
 |_=>fun _=>none
noncomputable def FD (G:Gc)(rE:RE)(rB:RB)(L:Lc)(elt tg it:Expr)(ifs:List Expr)(sc:Scope)(p:Pos):FE:=
 match L.cmp.lookup (p.line,p.col) with
 |none=>bZ
 |some N2=>if Hn L sc tg it N2 then fy (FR L tg N2) (vI G L (rE L) (A8 L it) tg it) (vT 5 (E7 L sc tg N2) tg) (HJ rB (E7 L sc tg N2) ifs) (rE (E7 L sc tg N2) elt) else bZ
noncomputable def fQ:Expr->Bool
 |.Slice _ _ none _=>false
 |_=>true
noncomputable def Hw:Const->FE
 |.int i=>fC (.int i)
 |.bool b=>fC (.bl b)
 |.none=>fC .non
 |.str x=>fC (.str x)
 |_=>bZ
noncomputable def Ht (op:UnaryOp)(f:FE):FE:=match op with
 |.USub=>qO f
 |.Not=>qt f
 |_=>bZ
noncomputable def Hh (f:Expr->FE)(a:Expr)(ops:List CmpOp)(bs:List Expr):FE:=match ops with
 |[]=>bZ
 |o1::ops=>match bs with
  |[]=>bZ
  |b::bs=>match ops with
   |[]=>match bs with
    |[]=>if behindInMarks o1 b then bZ else ax (nA o1) (f a) (f b)
    |_::_=>bZ
   |o2::ops=>match ops with
    |_::_=>bZ
    |[]=>match bs with
     |[]=>bZ
     |c::bs=>match bs with
      |_::_=>bZ
      |[]=>if lastMarks [o1,o2] [b,c] then bZ else zE (nA o1) (nA o2) (f a) (f b) (f c)
noncomputable def Hl (f:Expr->FE)(op:BoolOp)(vs:List Expr)(p:Pos):FE:=match vs with
 |[]=>bZ
 |a::r=>match r with
  |[]=>m7 (f a)
  |b::r=>match op with
   |.And=>iJ (f a) (f (.BoolOp .And (b::r) p))
   |.Or=>Ae (f a) (f (.BoolOp .Or (b::r) p))
noncomputable def HQ (G:Gc)(rE:RE)(rB:RB)(L:Lc)(elt:Expr)(gs:List Comprehension)(sc:Scope)(p:Pos):FE:=match gs with
 |[]=>bZ
 |g::gs=>match gs with
  |_::_=>bZ
  |[]=>match g with
   |⟨tg,it,ifs,n⟩=>if n=0 then FD G rE rB L elt tg it ifs sc p else bZ
noncomputable def BM:Expr->Bool
 |.UnaryOp op a _=>match op with
  |.USub=>match a with
   |.Constant c _ _=>match c with
    |.int i=>decide (i=1)
    |_=>false
   |_=>false
  |_=>false
 |_=>false
noncomputable def Hx (L:Lc)(f:Expr->FE)(a ix:Expr)(p:Pos):FE:=match ix with
 |.Slice lo hi st _=>match st with
  |none=>if vZ L p then Du (f a) (vO f lo) (vO f hi) else sy (f a) (vO f lo) (vO f hi)
  |some s=>if BM s&&lo.isNone&&hi.isNone then C9 (f a) else bZ
 |b=>if vZ L p then ax At (f a) (f b) else ax cq (f a) (f b)
noncomputable def Hm (G:Gc)(L:Lc)(f:Expr->FE)(d:Str)(q:Pos)(m:Str)(ap:Pos)(args:List Expr)(p:Pos):FE:=match args with
 |[]=>if m = "bit_length"&&ap.endLine==p.line then wg (f (.Name d q)) else bZ
 |a::r=>if m = "get"&&ap.endLine==p.line&&(a::r).all i7&&decide (r.length<20) then vD kh (f (.Name d q)) (vA f (a::r)) else bZ
noncomputable def Ez (G:Gc)(L:Lc)(f:Expr->FE)(fn:Expr)(args:List Expr)(kws:List Keyword)(p:Pos):FE:=match kws with
 |_::_=>bZ
 |[]=>match fn with
  |.Name x _=>yD G L f x args p
  |.Attribute o m ap=>match o with
   |.Name d q=>Hm G L f d q m ap args p
   |_=>bZ
  |_=>bZ
noncomputable def GA (G:Gc)(rE:RE)(rB:RB)(L:Lc):Expr->FE
 |.Constant c _ _=>Hw c
 |.Name x _=>wl G L x
 |.BinOp a op b _=>ax (Hy op) (rE L a) (rE L b)
 |.UnaryOp op a _=>Ht op (rE L a)
 |.Compare a ops bs _=>Hh (rE L) a ops bs
 |.BoolOp op vs p=>Hl (rE L) op vs p
 |.IfExp c a b _=>FC (rB L c) (rE L a) (rE L b)
 |.Tuple es _ _=>gh (vA (rE L) es)
 |.List es _=>ft (vA (rE L) es)
 |.ListComp elt gs sc p=>HQ G rE rB L elt gs sc p
 |.Subscript a ix p=>Hx L (rE L) a ix p
 |.Call fn args kws p=>Ez G L (rE L) fn args kws p
 |_=>bZ
noncomputable def xK:Expr->Bool
 |.UnaryOp .Not _ _=>false
 |.BoolOp _ _ _=>false
 |.IfExp _ _ _ _=>false
 |.Compare _ _ _ _=>false
 |_=>true
noncomputable def vW (f:Expr->FB)(op:BoolOp):List Expr->FB
 |[]=>fun _=>none
 |[a]=>f a
 |a::r=>match op with
  |.And=>gm (f a) (vW f op r)
  |.Or=>jS (f a) (vW f op r)
noncomputable def FY (rE:RE)(rB:RB)(L:Lc):Expr->FB
 |.Compare a [op] [b] _=>if behindInMarks op b then fun _=>none else fT (ax (nA op) (rE L a) (rE L b))
 |.Compare a [o1,o2] [b,c] _=>if lastMarks [o1,o2] [b,c] then fun _=>none else fT (zE (nA o1) (nA o2) (rE L a) (rE L b) (rE L c))
 |.BoolOp op vs _=>vW (rB L) op vs
 |.UnaryOp .Not a _=>gM (rB L a)
 |e=>if xK e then fT (rE L e) else fun _=>none
noncomputable def Gn (G:Gc)(rE:RE)(rB:RB)(L:Lc):Expr->FE
 |.ListComp elt [g] sc p=>GA G rE rB L (.ListComp elt [g] sc p)
 |e=>match G.hk.e G.toGd rE rB L e with
  |some f=>f
  |none=>GA G rE rB L e
noncomputable def vv (G:Gc):Nat->RE×RB
 |0=>(fun _ _=>bZ,fun _ _ _=>none)
 |n+1=>(Gn G (vv G n).1 (vv G n).2,fun L e=>match G.hk.b G.toGd (vv G n).1 (vv G n).2 L e with
  |some f=>f
  |none=>FY (vv G n).1 (vv G n).2 L e)
noncomputable def BX (L:Lc)(v:Expr)(t:Str)(tp:Pos):Bool:=match v with
 |.ListComp _ _ s p|.SetComp _ _ s p|.DictComp _ _ _ s p=>L.sc.kind==.function&&L.sc.names.lookup t==some .local&&tp.line==p.line&&!(s.names.any fun (n,k)=>n==t&&(k==.local || k==.cell))
 |_=>false
noncomputable def zB:Expr->Bool
 |.ListComp _ _ _ _|.SetComp _ _ _ _|.DictComp _ _ _ _ _=>true
 |_=>false
noncomputable def Fk:Expr->Bool
 |.List _ _=>true
 |.Call (.Name x _) _ _ _=>x == "list"
 |_=>false
noncomputable def Dy (L:Lc)(ts vs:List Expr):Option (Option (List Str)):=
 if (!(ts.length==2 || ts.length==3) || vs.length != ts.length || L.sc.kind != .function)=true then some none
 else if (vs.any fun|.Starred ..=>true|_=>false)=true then some none
 else
  let line:=(ts.head?.map (·.pos.line)).getD 0
  let names:=ts.filterMap fun
   |.Name id pos=>if L.sc.names.lookup id==some .local&&pos.line==line then some id else none
   |_=>none
  if (names.length != ts.length || names.eraseDups.length != names.length)=true then some none
  else if vs.all (foldedForSure 8)=true then some none
  else if vs.all (constantsAlone 8)=true then none
  else some (some names)
noncomputable def EX (L:Lc)(tg v:Expr):Bool:=match tg,v with
 |.Tuple ts _ _,.Tuple vs _ _=>match Dy L ts vs with
  |some none=>true
  |_=>false
 |.Tuple _ _ _,_=>true
 |_,_=>false
noncomputable def frzs:List Nat->FS->FS
 |[],s=>s
 |i::r,s=>frzs r (vM i s)
noncomputable def vL (f:Stmt->FS):List Stmt->FS
 |[]=>bG
 |[s]=>f s
 |s::r=>aY (f s) (vL f r)
noncomputable def pQ:Operator->Option (Int->Int->Int)
 |.Add=>some fun a b=>a+b
 |.Sub=>some fun a b=>a - b
 |_=>none
noncomputable def Co:Expr->Bool
 |.ListComp _ [⟨_,_,_,0⟩] _ _=>true
 |_=>false
noncomputable def GS (L:Lc)(y:Nat)(v:Expr):Option FS:=match v with
 |.Call (.Attribute (.Name o _) m ap) [] [] cp=>match slot L o with
  |some i=>if m = "pop"&&ap.endLine==cp.line then some (vq nz y i af) else none
  |none=>none
 |_=>none
noncomputable def FZ:Expr->Bool
 |.Name _ _=>true
 |_=>false
noncomputable def G9 (G:Gc)(f:Expr->FE)(L:Lc)(tg v:Expr):Option FS:=match v with
 |.Call (.Name g _) (.Name x _::es) [] _=>match slot L x with
  |some i=>if (L.own.contains x || L.lent&&i==0)&&es.all i7&&(FZ tg || t8 tg) then
    (match G.lents.lookup g with
     |some F=>if glob L g then some (AQ F i (DM f es) (vT 5 L tg)) else none
     |none=>match slot L g with
      |some j=>if G.lents.isEmpty then none else some (sE G.lents j i (DM f es) (vT 5 L tg))
      |none=>none)
   else none
  |none=>none
 |_=>none
noncomputable def Cj (G:Gc)(rE:RE)(L:Lc)(tg v:Expr):FS:=
 match tg with
 |.Name x p=>match dI L x with
  |some i=>if BX L v x p&&!Co v then cu else match GS L i v with
   |some s=>s
   |none=>if L.own.contains x then iG i (rE L v) else cH i (rE L v)
  |none=>cu
 |.Subscript (.Name j _) ix _=>match slot L j with
  |some i=>if fQ ix&&!zB v then mJ i (rE L ix) (rE L v) else cu
  |none=>cu
 |.Tuple [.Name x px,.Name y py] k pt=>match v with
  |.Tuple [a,b] _ _=>match Dy L [.Name x px,.Name y py] [a,b],dI L x,dI L y with
   |some (some l),some i,some j=>if l==[x,y]&&i7 a&&i7 b&&i != j&&L.sc.names.lookup x==some .local&&L.sc.names.lookup y==some .local then
     mQ i j (vA (rE L) [a,b]) else cu
   |some none,_,_=>jL (rE L v) (vT 5 L tg)
   |_,_,_=>cu
  |_=>if t8 v then cu else jL (rE L v) (vT 5 L tg)
 |_=>if EX L tg v then jL (rE L v) (vT 5 L tg) else cu
noncomputable def G3 (G:Gc)(rE:RE)(L:Lc)(tg v:Expr):FS:=match G9 G (rE L) L tg v with
 |some s=>s
 |none=>Cj G rE L tg v
noncomputable def Hr (L:Lc)(f:Expr->FE)(v:Option Expr):FS:=match v with
 |none=>cu
 |some e=>match e with
  |.Name x p=>match slot L x with
   |some i=>if L.top&&!L.lent then gl i else cu
   |none=>dc (f (.Name x p))
  |e=>dc (f e)
noncomputable def Eh (L:Lc)(f:Expr->FE)(tg:Expr)(op:Operator)(v:Expr):FS:=match tg with
 |.Name x _=>match dI L x with
  |none=>cu
  |some i=>match pQ op with
   |some g=>wC g i (f v)
   |none=>cu
 |.Subscript b ix _=>match b with
  |.Name j _=>match slot L j with
   |none=>cu
   |some i=>match pQ op with
    |some g=>if fQ ix then ki g i (f ix) (f v) else cu
    |none=>cu
  |_=>cu
 |_=>cu
noncomputable def Dj (L:Lc)(f:Expr->FE)(o:Str)(q:Pos)(m:Str)(ap:Pos)(args:List Expr)(cp:Pos):FS:=match slot L o with
 |some i=>match args with
  |[]=>if ap.endLine==cp.line then (if m = "reverse" then lK yb i af else if m = "pop" then lK nz i af else cu) else cu
  |a::as=>if m = "append"&&ap.endLine==cp.line&&(a::as).all i7&&decide (as.length<20) then lK hZ i (vA f (a::as)) else cu
 |none=>match args with
  |[]=>cu
  |a::as=>iP (f (.Call (.Attribute (.Name o q) m ap) (a::as) [] cp))
noncomputable def GI (L:Lc)(f:Expr->FE)(fn:Expr)(args:List Expr)(kws:List Keyword)(cp:Pos):FS:=match kws with
 |_::_=>iP (f (.Call fn args kws cp))
 |[]=>match fn with
  |.Attribute b m ap=>match b with
   |.Name o q=>Dj L f o q m ap args cp
   |b=>iP (f (.Call (.Attribute b m ap) args [] cp))
  |fn=>iP (f (.Call fn args [] cp))
noncomputable def GC:Expr->Bool
 |.Constant c _ _=>match c with
  |.str _=>true
  |_=>false
 |_=>false
noncomputable def CR (L:Lc)(f:Expr->FE)(e:Expr):FS:=if GC e then bG else match e with
 |.Call fn args kws cp=>GI L f fn args kws cp
 |e=>if zB e then cu else iP (f e)
noncomputable def Ha (G:Gc)(rE:RE)(rB:RB)(rS:Lc->Stmt->FS)(L:Lc):Stmt->FS
 |.Return v _=>Hr L (rE L) v
 |.If c a b _=>gO (rB L c) (vL (rS L) a) (vL (rS L) b)
 |.For tg it body els _=>match els with
  |[]=>if BQ it then g8 (vI G L (rE L) false tg it) (vT 5 L tg) (vL (rS L) body) else cu
  |_::_=>cu
 |.While c body els _=>match els with
  |[]=>kx (rB L c) (vL (rS L) body)
  |_::_=>cu
 |.Assign tgs v _=>match tgs with
  |[]=>cu
  |tg::r=>match r with
   |[]=>G3 G rE L tg v
   |_::_=>cu
 |.AugAssign tg op v _=>Eh L (rE L) tg op v
 |.Expr e _=>CR L (rE L) e
 |.Pass _=>bG
 |.Break _=>Hj
 |.Continue _=>FQ
 |_=>cu
noncomputable def vS (G:Gc):Nat->Lc->Stmt->FS
 |0=>fun _ _=>cu
 |n+1=>fun L s=>frzs ((L.frz.lookup s.pos.line).getD []) (match G.hk.s G.toGd (vv G n).1 (vv G n).2 (vS G n) L s with
  |some f=>f
  |none=>Ha G (vv G n).1 (vv G n).2 (vS G n) L s)
end Dp
end
section
namespace Dp
open PySem PySem.Spec L2 PyProof.Rows
noncomputable def FV (P:Program)(w:World)(mg:Str->Option Value)(base:Heap)(x:Str)(p:PV):Prop:=∃u,mg x=some u/\∀(h:Heap) (bad:Addr->Prop) (H:Hp),(∀b o,base.get? b=some o->h.get? b=some o/\H b=none/\¬bad b)->D ⟨iY bad H,P,w,mg⟩ h p u
structure GOk (P:Program)(w:World)(K:PySem.W.Frag)(mg:Str->Option Value)(base:Heap)(k:Nat)(G:Gd):Prop where
 bi:∀x,G.bi.contains x=true->mg x=none
 nis:∀x i,G.nis.lookup x=some i->∃t,mg x=some (.int i t)
 tups:∀x ps,G.tups.lookup x=some ps->FV P w mg base x (.ktu ps)
 vals:∀x,G.vals.contains x=true->∃a,mg x=some (.ref a)
 fns:∀x F,G.fns.lookup x=some F->∃j,j≤k/\DefN P w K mg base true j x F
 dcts:∀x kp,G.dcts.lookup x=some kp->FV P w mg base x (.dct kp.1 kp.2)
 tab:∀x F,G.tab.lookup x=some F->∃j,j≤k/\DefN P w K mg base true j x F
 lents:∀x F,G.lents.lookup x=some F->∃j,j≤k/\DefL P w K mg base true j x F
structure Ok0 (X:Cx)(k:Nat)(G:Gd)(L:Lc):Prop where
 g:GOk X.prog X.w X.K X.mg X.base k G
 r:Rm k X.A
 sc:X.env.scope=L.sc
 N:X.N=L.N
 nd:L.N.Nodup
 fk:L.sc.kind=.function
 calm:X.calm=true
 top:L.top=true->∀x,X.fn x=true
 h0:L.lent=false->L.top=true->X.H₀=fun _=>none
 blk:L.top=false->X.fn "" = false
noncomputable abbrev GF (k:Nat)(G:Gd)(rE:RE):Prop:=∀{X:Cx} {L:Lc},Ok0 X k G L->∀e,NE X e (rE L e)
noncomputable abbrev Gm (k:Nat)(G:Gd)(rB:RB):Prop:=∀{X:Cx} {L:Lc},Ok0 X k G L->∀e,NB X e (rB L e)
structure HkOk (hk:Hk):Prop where
 e:∀{X:Cx} {k:Nat} {G:Gd} {L:Lc} {rE:RE} {rB:RB},Ok0 X k G L->GF k G rE->Gm k G rB->∀e f,hk.e G rE rB L e=some f->NE X e f
 i:∀{X:Cx} {k:Nat} {G:Gd} {L:Lc} {f:Expr->FE},Ok0 X k G L->(∀e,NE X e (f e))->∀tg it g,hk.i G L f tg it=some g->NI X true tg it g
 b:∀{X:Cx} {k:Nat} {G:Gd} {L:Lc} {rE:RE} {rB:RB},Ok0 X k G L->GF k G rE->Gm k G rB->∀e f,hk.b G rE rB L e=some f->NB X e f
 s:∀{X:Cx} {k:Nat} {G:Gd} {L:Lc} {rE:RE} {rB:RB} {rS:Lc->Stmt->FS},Ok0 X k G L->GF k G rE->Gm k G rB->(∀s,NS X s (rS L s))->∀st f,hk.s G rE rB rS L st=some f->NS X st f
structure Ok (X:Cx)(k:Nat)(G:Gc)(L:Lc):Prop extends Ok0 X k G.toGd L where
 hk:HkOk G.hk
theorem eE {X:Cx}{e:Expr}{f:FE}(h:∀ρ,f ρ=none):NE X e f:=fun z s r E hz q=>by rw[h] at q;cases q
theorem wW {X:Cx}{e:Expr}{f:FB}(h:∀ρ,f ρ=none):NB X e f:=fun z s r E hz q=>by rw[h] at q;cases q
theorem AL {X:Cx}{st:Bool}{e tg:Expr}{f:FI}(h:∀ρ,f ρ=none):NI X st tg e f:=fun z s r E hz q=>by rw[h] at q;cases q
theorem DU {X:Cx}{es:List Expr}:NA X es (fun _=>none):=fun z pos s r E hz q=>by cases q
theorem zO {X:Cx}{tg:Expr}:NG X tg (fun _ _=>none):=fun z s p u ρ E hz d q=>by cases q
section
variable {X:Cx}{k:Nat}{G:Gc}{L:Lc}{x:Str}{i:Nat}{pos:Pos}{e:Expr}
theorem bK (h:zf x=false):(x==("__debug__" : Str))=false/\(x==("__classdict__" : Str))=false/\x≠("__name__" : Str):=by
 unfold zf at h
 simp only[Bool.or_eq_false_iff] at h
 exact⟨h.1.1,h.1.2,fun z=>by have:=h.2;rw[z] at this;simp at this⟩
theorem mB {G:Gd}(o:Ok0 X k G L)(h:slot L x=some i):X.N[i]?=some x/\np X.env.scope x/\zf x=false:=by
 unfold slot at h
 split at h
 ·next z=>
  rw[Bool.and_eq_true,Bool.not_eq_true'] at z
  refine⟨by rw[o.N];exact sn h,?_,z.2⟩
  have z1:=z.1
  unfold Hz at z1
  unfold np
  rw[o.sc]
  split at z1<;>first|(next q=>simp[q])|cases z1
 ·cases h
theorem gW (o:Ok X k G L)(h:slot L x=some i):X.N[i]?=some x/\np X.env.scope x/\zf x=false:=mB o.toOk0 h
theorem qx {G:Gd}(o:Ok0 X k G L)(h:glob L x=true):Gl X x/\zf x=false:=by
 unfold glob at h
 rw[Bool.and_eq_true,Bool.not_eq_true',beq_iff_eq] at h
 exact⟨by show X.env.scope.names.lookup x=_;rw[o.sc];exact h.1,h.2⟩
theorem gU (o:Ok X k G L)(h:glob L x=true):Gl X x/\zf x=false:=qx o.toOk0 h
theorem dZ {G:Gd}(o:Ok0 X k G L)(h:dI L x=some i):Nm X i x:=by
 unfold dI at h
 split at h
 ·next z=>
  rw[Bool.or_eq_true,Bool.and_eq_true,beq_iff_eq,beq_iff_eq] at z
  obtain⟨i',h,h'⟩:=Option.bind_eq_some_iff.mp h
  split at h'
  ·cases h'
  next hl=>
  cases h'
  refine⟨by rw[o.N];exact o.nd,by rw[o.N];exact sn h,?_,?_,fun hf ⟨a,ha⟩ e=>?_⟩
  ·show X.env.scope.names.lookup x=_\/X.env.scope.names.lookup x=_
   rw[o.sc];exact z.elim .inl fun z=>.inr z.2
  ·rw[o.sc];exact z.elim .inr fun z=>.inl (o.top z.1 x)
  ·cases ht:L.top with
   |false=>rw[o.blk ht] at hf;cases hf
   |true=>
    cases hle:L.lent with
    |false=>exact ha (by rw[o.h0 hle ht])
    |true=>subst e;rw[hle] at hl;simp at hl
 ·cases h
theorem fZ (o:Ok X k G L)(h:dI L x=some i):Nm X i x:=dZ o.toOk0 h
theorem EQ (hm:X.mg x=none)(hg:Gl X x)(hd:zf x=false):NE X (.Name x pos) (G8 x):=by
 unfold G8
 have key:∀n,bootBuiltins x=some (.type n)->NE X (.Name x pos) (fC (.ty n)):=fun n h=>EH hg hm h (bK hd).2.2 (bK hd).1
 repeat' split
 ·next z=>exact key _ (by rw[z];exact ya)
 ·next z=>exact key _ (by rw[z];exact As)
 ·next z=>exact key _ (by rw[z];exact yE)
 ·next z=>exact key _ (by rw[z];exact o6)
 ·next z=>exact key _ (by rw[z];exact mE)
 ·next z=>exact key _ (by rw[z];exact zp)
 ·exact eE fun _=>rfl
theorem zY (o:Ok X k G L):NE X (.Name x pos) (wl G L x):=by
 unfold wl
 split
 ·next i h=>
  obtain⟨h1,h2,h3⟩:=gW o h
  exact EJ h1 h2 (bK h3).1 (bK h3).2.1
 ·split
  ·next hg=>
   obtain⟨hg,hd⟩:=gU o hg
   split
   ·next i h=>
    obtain⟨t,m⟩:=o.g.nis x i h
    exact pI hg ⟨_,m,fun _ _ _ _=>⟨t,rfl⟩⟩ (bK hd).1
   ·split
    ·next ps h=>exact pI hg (o.g.tups x ps h) (bK hd).1
    ·split
     ·next h=>
      obtain⟨a,m⟩:=o.g.vals x h
      exact pI hg ⟨_,m,fun _ _ _ _=>⟨a,m,rfl⟩⟩ (bK hd).1
     ·split
      ·next kp h=>exact pI hg (o.g.dcts x kp h) (bK hd).1
      ·split
       ·next h=>exact EQ (o.g.bi x h) hg hd
       ·exact eE fun _=>rfl
  ·exact eE fun _=>rfl
theorem xB {f:Expr->FE}(h:∀e,NE X e (f e)):∀{es:List Expr},es.all i7=true->NA X es (DM f es)
 |[],_=>lG
 |e::es,z=>by
  rw[List.all_cons,Bool.and_eq_true] at z
  exact tF (h e) (xB h z.2) (eT z.1 es X.env)
theorem jK {f:Expr->FE}(h:∀e,NE X e (f e))(es:List Expr):NA X es (vA f es):=by
 unfold vA
 split
 ·next z=>exact xB h z
 ·exact DU
theorem Ff (o:Ok X k G L)(hx:G.bi.contains x=true)(hgl:glob L x=true){es:List Expr}{fs:FA}{p:Pos}{alt:Bool}{n:Nat}(ha:NA X (e::es) fs)(hs:(e::es).all i7=true):NE X (.Call (.Name x p) (e::es) [] pos) (FU x alt n fs):=by
 obtain⟨hg,hd⟩:=gU o hgl
 have hm:=o.g.bi x hx
 rw[List.all_cons,Bool.and_eq_true] at hs
 have he:=eT hs.1 es X.env
 have hp:(backTo pos (starEach es X.env)).any (·.1)=false:=gX hs.2
 obtain⟨d1,d2,d3⟩:=bK hd
 have hc:=o.calm
 have B:∀{id g},dQ X (.builtin id) g->bootBuiltins x=some (.builtin id)->NE X (.Call (.Name x p) (e::es) [] pos) (fB g fs):=fun c b=>GZ c hg hm b ha d3 d1 he hp
 have T:∀{id g},dQ X (.type id) g->bootBuiltins x=some (.type id)->NE X (.Call (.Name x p) (e::es) [] pos) (fB g fs):=fun c b=>EY c hg hm b ha d3 d1 he hp
 unfold FU
 by_cases z:x = "len"
 ·rw[if_pos z]
  exact B D8 (by rw[z];exact BJ)
 rw[if_neg z];clear z
 by_cases z:x = "abs"
 ·rw[if_pos z]
  exact B Ec (by rw[z];exact Cz)
 rw[if_neg z];clear z
 by_cases z:x = "all"
 ·rw[if_pos z]
  exact B (EV hc) (by rw[z];exact Dn)
 rw[if_neg z];clear z
 by_cases z:x = "any"
 ·rw[if_pos z]
  exact B (E3 hc) (by rw[z];exact BY)
 rw[if_neg z];clear z
 by_cases z:x = "isinstance"
 ·rw[if_pos z]
  exact B GN (by rw[z];exact m8)
 rw[if_neg z];clear z
 by_cases z:x = "sorted"
 ·rw[if_pos z]
  split
  ·exact B Aa (by rw[z];exact n4)
  ·exact B yK (by rw[z];exact n4)
 rw[if_neg z];clear z
 by_cases z:x = "max"
 ·rw[if_pos z]
  split
  ·exact B (C3 hc) (by rw[z];exact we)
  ·exact B (EB hc) (by rw[z];exact we)
 rw[if_neg z];clear z
 by_cases z:x = "min"
 ·rw[if_pos z]
  split
  ·exact B (CY hc) (by rw[z];exact xZ)
  ·exact B (EN hc) (by rw[z];exact xZ)
 rw[if_neg z];clear z
 by_cases z:x = "sum"
 ·rw[if_pos z]
  exact B (Fh hc) (by rw[z];exact Dm)
 rw[if_neg z];clear z
 by_cases z:x = "int"
 ·rw[if_pos z]
  exact T DT (by rw[z];exact ya)
 rw[if_neg z];clear z
 by_cases z:x = "tuple"
 ·rw[if_pos z]
  split
  ·exact T (Da hc) (by rw[z];exact mE)
  ·exact T Fq (by rw[z];exact mE)
 rw[if_neg z];clear z
 by_cases z:x = "list"
 ·rw[if_pos z]
  exact T (CI hc) (by rw[z];exact o6)
 rw[if_neg z];clear z
 by_cases z:x = "range"
 ·rw[if_pos z]
  exact T Ft (by rw[z];exact xN)
 rw[if_neg z];clear z
 by_cases z:x = "str"
 ·rw[if_pos z]
  exact T Ep (by rw[z];exact yE)
 rw[if_neg z];clear z
 exact eE fun _=>rfl
theorem zw (o:Ok X k G L){f:Expr->FE}(h:∀e,NE X e (f e)){p:Pos}(args:List Expr):NE X (.Call (.Name x p) args [] pos) (yD G L f x args pos):=by
 unfold yD
 split
 ·next i hi=>
  obtain⟨h1,h2,h3⟩:=gW o hi
  cases args with
  |nil=>exact eE fun _=>rfl
  |cons e es=>
   show NE X _ (lO G.tab i (vA f (e::es)))
   by_cases hs:(e::es).all i7=true
   ·have ha:=jK h (e::es)
    rw[List.all_cons,Bool.and_eq_true] at hs
    exact Ax o.g.tab (fun _=>o.calm) o.r h1 h2 (bK h3).1 (bK h3).2.1 ha (eT hs.1 es X.env) (gX hs.2)
   ·have:vA f (e::es)=fun _=>none:=by unfold vA;rw[if_neg hs]
    rw[this];exact eE fun _=>rfl
 ·split
  ·next hgl=>
   obtain⟨hg,hd⟩:=gU o hgl
   obtain⟨d1,d2,d3⟩:=bK hd
   split
   ·next F hF=>
    obtain⟨j,hj,D⟩:=o.g.fns x F hF
    cases args with
    |nil=>exact Ac D hj (fun _=>o.calm) o.r hg d1
    |cons e es=>
     show NE X _ (aX F (vA f (e::es)))
     by_cases hs:(e::es).all i7=true
     ·have ha:=jK h (e::es)
      rw[List.all_cons,Bool.and_eq_true] at hs
      exact CB D hj (fun _=>o.calm) o.r hg ha d1 (eT hs.1 es X.env) (gX hs.2)
     ·have:vA f (e::es)=fun _=>none:=by unfold vA;rw[if_neg hs]
      rw[this];exact eE fun _=>rfl
   ·split
    ·next hb=>
     rw[Bool.and_eq_true] at hb
     cases args with
     |nil=>cases hb.2
     |cons e es=>
      by_cases hs:(e::es).all i7=true
      ·exact Ff o hb.1 hgl (jK h (e::es)) hs
      ·have:vA f (e::es)=fun _=>none:=by unfold vA;rw[if_neg hs]
       rw[this]
       have nn:∀g,fB g (fun _=>none)=bZ:=fun _=>rfl
       simp only[FU,nn,ite_self]
       exact eE fun _=>rfl
    ·exact eE fun _=>rfl
  ·exact eE fun _=>rfl
theorem pk {env:Env}:∀{es:List Expr},es.all i7=true->(assignEach es env).length=es.length/\(assignEach es env).findIdx? (·.1)=none/\∀e r,es=e::r->(assignEach es env).map (·.2)=assign e env::(assignEach r env).map (·.2)
 |[],_=>⟨rfl,rfl,fun _ _ h=>by cases h⟩
 |e::r,h=>by
  rw[List.all_cons,Bool.and_eq_true] at h
  have he:assignEach (e::r) env=(false,assign e env)::assignEach r env:=by
   have:=h.1
   cases e<;>first|rfl|(cases this)
  obtain⟨h1,h2,_⟩:=pk (env:=env) h.2
  rw[he]
  refine⟨by rw[List.length_cons,List.length_cons,h1],?_,fun _ _ q=>by cases q;rfl⟩
  rw[List.findIdx?_cons,h2];rfl
theorem xh {f:Expr->FT}(h:∀e,NG X e (f e)):∀{es:List Expr},es.all i7=true->Fp X es (FJ f es)
 |[],_=>HP
 |e::r,z=>by
  have:=(pk (env:=X.env) z).2.2 e r rfl
  rw[List.all_cons,Bool.and_eq_true] at z
  exact HL (h e) (xh h z.2) this
theorem qA:∀(n:Nat) {L:Lc} {X:Cx},Ok X k G L->∀e,NG X e (vT n L e)
 |0,_,_,_,e=>by cases e<;>exact zO
 |n+1,L,X,o,e=>by
  cases e<;>first|exact zO|skip
  ·rename_i x p
   unfold vT
   cases h:dI L x with
   |some i=>exact Gh (fZ o h)
   |none=>exact zO
  ·rename_i es kk p
   unfold vT
   split
   ·next z=>
    obtain⟨h1,h2,_⟩:=pk (env:=X.env) z
    exact HK o.calm (xh (qA n o) z) h1 h2
   ·exact zO
theorem sU {fm:List (Option Nat)}:FK fm (fun _ _=>none):=fun _ _ _ e=>by cases e
theorem xg {fm:List (Option Nat)}{f:Expr->FT}:∀{es:List Expr},(∀e∈es,FK fm (f e))->DZ fm (FJ f es)
 |[],_=>F2
 |e::r,h=>Gf (h e List.mem_cons_self) (xg fun e he=>h e (List.mem_cons_of_mem _ he))
theorem Bs {fm:List (Option Nat)}:∀(n:Nat) (L:Lc) (e:Expr),(∀i∈EO n L e,fm[i]?=some none)->FK fm (vT n L e)
 |0,L,e,_=>by cases e<;>exact sU
 |n+1,L,e,h=>by
  cases e<;>first|exact sU|skip
  ·unfold vT
   unfold EO at h
   cases hs:dI L _ with
   |some i=>exact F5 (h i (by rw[hs];simp))
   |none=>exact sU
  ·rename_i es kk p
   unfold vT
   split
   ·refine GL (xg fun e he=>Bs n L e fun i hi=>h i ?_)
    unfold EO
    exact List.mem_flatMap.mpr ⟨e,he,hi⟩
   ·exact sU
theorem Bl (o:Ok X k G L){f:Expr->FE}(h:∀e,NE X e (f e))(tg it:Expr):NI X true tg it (vI G L f false tg it):=by
 have no:∀{es:List Expr},¬es.all i7=true->vA f es=fun _=>none:=fun {es} hs=>by unfold vA;rw[if_neg hs]
 unfold vI
 rw[if_neg Bool.false_ne_true]
 split
 ·next g hg=>exact o.hk.i o.toOk0 h tg it g hg
 rename_i hno
 clear hno
 split
 ·next y p a p'=>
  split
  ·next z=>
   rw[Bool.and_eq_true,Bool.and_eq_true,decide_eq_true_eq] at z
   obtain⟨⟨rfl,z2⟩,z3⟩:=z
   obtain⟨hg,hd⟩:=gU o z2
   by_cases hs:[a].all i7=true
   ·exact Cb hg (o.g.bi _ z3) (jK h [a]) (by
     rw[List.all_cons,Bool.and_eq_true] at hs
     exact eT hs.1 [] X.env)
   ·rw[no hs];exact AL fun _=>rfl
  ·split
   ·next z=>
    rw[Bool.and_eq_true,Bool.and_eq_true,Bool.and_eq_true,decide_eq_true_eq] at z
    obtain⟨⟨⟨rfl,z2⟩,z3⟩,z4⟩:=z
    obtain⟨hg,hd⟩:=gU o z2
    obtain⟨elts,kk,tp,rfl⟩:∃elts kk tp,tg=.Tuple elts kk tp:=by
     cases tg<;>first|exact⟨_,_,_,rfl⟩|(cases z4)
    by_cases hs:[a].all i7=true
    ·exact Cm hg (o.g.bi _ z3) (jK h [a]) (by
      rw[List.all_cons,Bool.and_eq_true] at hs
      exact eT hs.1 [] X.env)
    ·rw[no hs];exact AL fun _=>rfl
   ·exact ut (h _)
 ·next y p a b p'=>
  split
  ·next z=>
   rw[Bool.and_eq_true,Bool.and_eq_true,decide_eq_true_eq] at z
   obtain⟨⟨rfl,z2⟩,z3⟩:=z
   obtain⟨hg,hd⟩:=gU o z2
   by_cases hs:[a,b].all i7=true
   ·have hs':=hs
    rw[List.all_cons,List.all_cons,Bool.and_eq_true,Bool.and_eq_true] at hs'
    have e1:starEach [b] X.env=[(false,eval b X.env)]:=eT hs'.2.1 [] X.env
    exact C0 hg (o.g.bi _ z3) (jK h [a,b]) (by rw[eT hs'.1 [b] X.env,e1]) e1
   ·rw[no hs];exact AL fun _=>rfl
  ·exact ut (h _)
 ·next y p a b d p'=>
  split
  ·next z=>
   rw[Bool.and_eq_true,Bool.and_eq_true,decide_eq_true_eq] at z
   obtain⟨⟨rfl,z2⟩,z3⟩:=z
   obtain⟨hg,hd⟩:=gU o z2
   by_cases hs:[a,b,d].all i7=true
   ·have hs':=hs
    rw[List.all_cons,List.all_cons,List.all_cons,Bool.and_eq_true,Bool.and_eq_true,Bool.and_eq_true] at hs'
    have e2:starEach [d] X.env=[(false,eval d X.env)]:=eT hs'.2.2.1 [] X.env
    have e1:starEach [b,d] X.env=[(false,eval b X.env),(false,eval d X.env)]:=by rw[eT hs'.2.1 [d] X.env,e2]
    exact BP hg (o.g.bi _ z3) (jK h [a,b,d]) (by rw[eT hs'.1 [b,d] X.env,e1]) e1
   ·rw[no hs];exact AL fun _=>rfl
  ·exact ut (h _)
 ·exact ut (h _)
theorem sD (o:Ok X k G L){sc:Scope}{tg:Expr}{N2:List Str}(hk:sc.kind=.function)(hn:N2.Nodup){C:Addr}{s:Shared}{H:Hp}{ex:List Addr}:Ok (X.blk sc N2 C s H ex) k G (E7 L sc tg N2) where
 hk:=o.hk
 g:=o.g
 r:=o.r
 sc:=by
  show relabel sc X.env=yq sc L.sc
  unfold relabel yq
  rw[show X.env.kindOf=fun x=>L.sc.names.lookup x by funext x;show X.env.scope.names.lookup x=_;rw[o.sc],o.sc]
 N:=rfl
 nd:=hn
 fk:=hk
 calm:=o.calm
 top:=fun h=>by cases h
 h0:=fun _ h=>by cases h
 blk:=fun _=>rfl
structure CpOk (X:Cx)(elt tg it:Expr)(ifs:List Expr)(sc:Scope)(f:FE):Prop where
 ex:(∀ρ,f ρ=none)\/∃(N2:List Str) (fm:List (Option Nat)) (fi:FI) (t:FT) (c:FB) (fe:FE),f=fy fm fi t c fe/\Blk X sc N2 fm/\NI X false tg it fi ∧
  (∀C s H ex,NG (X.blk sc N2 C s H ex) tg t)/\FK fm t/\(∀C s H ex,DR (X.blk sc N2 C s H ex) ifs c)/\(∀C s H ex,NE (X.blk sc N2 C s H ex) elt fe)/\∀x,foldedSetIterable it X.env x=pure x
theorem Bn (o:Ok X k G L){rE:RE}{rB:RB}(hE:∀{X:Cx} {L:Lc},Ok X k G L->∀e,NE X e (rE L e))(hB:∀{X:Cx} {L:Lc},Ok X k G L->∀e,NB X e (rB L e))(elt tg it:Expr)(ifs:List Expr)(sc:Scope)(p:Pos) :
  CpOk X elt tg it ifs sc (FD G rE rB L elt tg it ifs sc p):=by
 unfold FD
 split
 ·exact⟨.inl fun _=>rfl⟩
 ·next N2 _=>
  split
  ·next z=>
   unfold Hn at z
   rw[Bool.and_eq_true,Bool.and_eq_true,Bool.and_eq_true,decide_eq_true_eq] at z
   obtain⟨⟨⟨z1,z2⟩,z3⟩,z4⟩:=z
   have hk:sc.kind=.function:=by
    unfold oW at z1
    simp only[Bool.and_eq_true,beq_iff_eq] at z1
    exact z1.1.1.1.1.1
   refine⟨.inr ⟨N2,FR L tg N2,_,_,_,_,rfl,⟨Ck ?_,z2⟩,?_,fun C s H ex=>qA 5 (sD o hk z2) tg,Bs 5 _ tg fun i hi=>?_,fun C s H ex=>?_,fun C s H ex=>hE (sD o hk z2) elt,fun x=>?_⟩⟩
   ·rw[show X.env.kindOf=fun x=>L.sc.names.lookup x by funext x;show X.env.scope.names.lookup x=_;rw[o.sc],o.N]
    exact z1
   ·cases ho:A8 L it with
    |true=>unfold vI;rw[if_pos rfl];exact B3 (hE o it)
    |false=>exact (Bl o (hE o) tg it).any
   ·exact by simpa using List.all_eq_true.mp z3 i hi
   ·have ob:=sD o (tg:=tg) hk z2 (C:=C) (s:=s) (H:=H) (ex:=ex)
    cases ifs with
    |nil=>exact Cq
    |cons c r=>cases r with
     |nil=>exact CP (hB ob c)
     |cons=>exact fun z s b E hz q=>by cases q
   ·cases it<;>first|rfl|(cases z4)
  ·exact⟨.inl fun _=>rfl⟩
theorem CpOk.ne {elt tg it:Expr}{ifs:List Expr}{sc:Scope}{p:Pos}{f:FE}(o:Ok X k G L)(h:CpOk X elt tg it ifs sc f):NE X (.ListComp elt [⟨tg,it,ifs,0⟩] sc p) f:=by
 rcases h.ex with h|⟨N2,fm,fi,t,c,fe,rfl,h1,h2,h3,h4,h5,h6,h7⟩
 ·exact eE h
 ·exact BU h1 o.calm h2 h3 h4 h5 h6 h7
end
end Dp
end
section
namespace Dp
open PySem PySem.Spec L2 PyProof.Rows
section
variable {X:Cx}{k:Nat}{G:Gc}{L:Lc}{x:Str}{i:Nat}{pos:Pos}{e:Expr}
theorem lV {cp:Pos}{env:Env}:∀{es:List Expr},es.all i7=true->((backTo cp (starEach es env)).all fun x=>!x.fst)=true
 |[],_=>rfl
 |e::es,h=>by
  rw[List.all_cons,Bool.and_eq_true] at h
  rw[eT h.1]
  exact lV (es:=es) h.2
theorem B0 {d m:Str}{q ap cp:Pos}{es:List Expr}(hl:(ap.endLine==cp.line)=true)(hs:es.all i7=true)(hn:es.length<21):Mc X (.Name d q) m ap cp es:=by
 refine⟨rfl,hl,?_,fun e r he=>?_⟩
 ·rw[lV hs]
  show (true&&true&&decide _)=true
  rw[Bool.and_self,Bool.true_and,decide_eq_true_eq]
  simp only[List.length_nil,List.isEmpty_nil,if_true]
  omega
 ·subst he
  rw[List.all_cons,Bool.and_eq_true] at hs
  exact⟨eT hs.1 r X.env,gX hs.2⟩
theorem lW {b:Expr}(h:fQ b=true):s9 b:=by
 cases b<;>first|(exact fun _ _=>rfl)|skip
 rename_i lo hi st p
 cases st with
 |none=>cases h
 |some s=>exact fun _ _=>rfl
theorem vC {env:Env}(h:xK e=true):∀whole,PySem.isTrue e env whole=(do let v ←whole;standAt e.pos;holding [v] (truthy v)):=by
 cases e<;>first|(exact fun _=>rfl)|(cases h;done)|skip
 rename_i op a p
 cases op<;>first|(exact fun _=>rfl)|(cases h;done)
theorem uO {f:Expr->FE}(h:∀e,NE X e (f e)):∀o,NO X o (vO f o)
 |none=>Ai
 |some e=>zk (h e)
theorem ED {f:Expr->FB}(h:∀e,NB X e (f e))(op:BoolOp):∀(vs:List Expr),vs≠[]->NW X (.BoolOp op vs pos) (vW f op vs)
 |[],z=>(z rfl).elim
 |[a],_=>by cases op;exact Ct (h a);exact ES (h a)
 |a::b::r,_=>by
  have ih:=ED h op (b::r) (by simp)
  cases op
  ·exact Ev (h a) ih
  ·exact Gp (h a) ih
theorem HR {op:BoolOp}{vs:List Expr}{f:FB}(h:NW X (.BoolOp op vs pos) f):NB X (.BoolOp op vs pos) f:=fun z s b E hz q=>h z _ s b E hz q
theorem BI {c:Const}{kd:Nat}:NE X (.Constant c kd pos) (Hw c):=by
 cases c<;>first|exact n_int|exact F8|exact Fg|exact Fy|exact eE fun _=>rfl
theorem zj {s:Expr}(h:BM s=true):∃p1 k p2,s=.UnaryOp .USub (.Constant (.int 1) k p1) p2:=by
 cases s<;>first|(cases h;done)|skip
 rename_i op a p
 cases op<;>first|(cases h;done)|skip
 cases a<;>first|(cases h;done)|skip
 rename_i c k p1
 cases c<;>first|(cases h;done)|skip
 rename_i i
 have:i=1:=of_decide_eq_true h
 subst this
 exact⟨_,_,_,rfl⟩
section
variable {f:Expr->FE}(hf:∀e,NE X e (f e))
include hf
theorem BF {op:UnaryOp}{a:Expr}:NE X (.UnaryOp op a pos) (Ht op (f a)):=by
 cases op<;>first|exact AW (hf _)|exact E0 (hf _)|exact eE fun _=>rfl
theorem B9 (o:Ok X k G L){a:Expr}{ops:List CmpOp}{bs:List Expr}:NE X (.Compare a ops bs pos) (Hh f a ops bs):=by
 have hu:=o.r.units
 cases ops with
 |nil=>exact eE fun _=>rfl
 |cons o1 ops=>cases bs with
  |nil=>exact eE fun _=>rfl
  |cons b bs=>cases ops with
   |nil=>cases bs with
    |nil=>
     show NE X _ (if behindInMarks o1 b then bZ else ax (nA o1) (f a) (f b))
     split
     ·exact eE fun _=>rfl
     ·next z=>exact Fx (nY hu _) (hf _) (hf _) (by simpa using z)
    |cons=>exact eE fun _=>rfl
   |cons o2 ops=>cases ops with
    |cons=>exact eE fun _=>rfl
    |nil=>cases bs with
     |nil=>exact eE fun _=>rfl
     |cons c bs=>cases bs with
      |cons=>exact eE fun _=>rfl
      |nil=>
       show NE X _ (if lastMarks [o1,o2] [b,c] then bZ else zE (nA o1) (nA o2) (f a) (f b) (f c))
       split
       ·exact eE fun _=>rfl
       ·next z=>exact Gy (nY hu _) (nY hu _) (hf _) (hf _) (hf _) (by simpa using z)
theorem Dh {op:BoolOp}{vs:List Expr}:NE X (.BoolOp op vs pos) (Hl f op vs pos):=by
 cases vs with
 |nil=>exact eE fun _=>rfl
 |cons a r=>cases r with
  |nil=>exact Fv (hf _)
  |cons b r=>cases op with
   |And=>exact Et (hf _) (hf _)
   |Or=>exact Gb (hf _) (hf _)
theorem Cw {a ix:Expr}:NE X (.Subscript a ix pos) (Hx L f a ix pos):=by
 have other:∀b:Expr,fQ b=true->NE X (.Subscript a b pos) (if vZ L pos then ax At (f a) (f b) else ax cq (f a) (f b)):=fun b z=>by
  split
  ·exact E9 xr (hf _) (hf _) (lW z)
  ·exact E9 CD (hf _) (hf _) (lW z)
 cases ix<;>first|exact other _ rfl|skip
 rename_i lo hi st p
 cases st with
 |none=>
  show NE X _ (if vZ L pos then Du (f a) (vO f lo) (vO f hi) else sy (f a) (vO f lo) (vO f hi))
  split
  ·exact Fb Fi (hf _) (uO hf _) (uO hf _)
  ·exact Fb GX (hf _) (uO hf _) (uO hf _)
 |some s=>
  show NE X _ (if BM s&&lo.isNone&&hi.isNone then C9 (f a) else bZ)
  split
  ·next z=>
   rw[Bool.and_eq_true,Bool.and_eq_true] at z
   obtain⟨⟨z1,z2⟩,z3⟩:=z
   obtain⟨p1,kk,p2,rfl⟩:=zj z1
   cases lo with
   |some=>cases z2
   |none=>cases hi with
    |some=>cases z3
    |none=>exact DV (hf _) (.inr (AW n_int))
  ·exact eE fun _=>rfl
theorem Dx {d m:Str}{q ap:Pos}{args:List Expr}:NE X (.Call (.Attribute (.Name d q) m ap) args [] pos) (Hm G L f d q m ap args pos):=by
 cases args with
 |nil=>
  show NE X _ (if m = "bit_length"&&ap.endLine==pos.line then wg (f (.Name d q)) else bZ)
  split
  ·next z=>
   rw[Bool.and_eq_true,decide_eq_true_eq] at z
   obtain⟨rfl,z2⟩:=z
   exact B5 (hf _) z2
  ·exact eE fun _=>rfl
 |cons a r=>
  show NE X _ (if m = "get"&&ap.endLine==pos.line&&(a::r).all i7&&decide (r.length<20) then vD kh (f (.Name d q)) (vA f (a::r)) else bZ)
  split
  ·next z=>
   rw[Bool.and_eq_true,Bool.and_eq_true,Bool.and_eq_true,decide_eq_true_eq,decide_eq_true_eq] at z
   obtain⟨⟨⟨rfl,z1⟩,z2⟩,z3⟩:=z
   exact Bx A6 (B0 z1 z2 (by rw[List.length_cons];omega)) (hf _) (jK hf _) (fun e=>by cases e)
  ·exact eE fun _=>rfl
theorem AE (o:Ok X k G L){fn:Expr}{args:List Expr}{kws:List Keyword}:NE X (.Call fn args kws pos) (Ez G L f fn args kws pos):=by
 cases kws with
 |cons=>exact eE fun _=>rfl
 |nil=>
  cases fn<;>first|exact eE fun _=>rfl|exact zw o hf _|skip
  rename_i ob m ap
  cases ob<;>first|exact eE fun _=>rfl|exact Dx (G:=G) (L:=L) hf
end
theorem yC (o:Ok X k G L){rE:RE}{rB:RB}(hE:∀{X:Cx} {L:Lc},Ok X k G L->∀e,NE X e (rE L e))(hB:∀{X:Cx} {L:Lc},Ok X k G L->∀e,NB X e (rB L e))(e:Expr):NE X e (GA G rE rB L e):=by
 cases e with
 |Constant c kd p=>exact BI
 |Name x p=>exact zY o
 |BinOp a op b p=>exact F7 (G5 op) (hE o _) (hE o _)
 |UnaryOp op a p=>exact BF (hE o)
 |Compare a ops bs p=>exact B9 (hE o) o
 |BoolOp op vs p=>exact Dh (hE o)
 |IfExp c a b p=>exact GH (hB o _) (hE o _) (hE o _)
 |Tuple es kk p=>exact DY (jK (hE o) _)
 |List es p=>exact Ej (jK (hE o) _)
 |ListComp elt gs sc p=>
  cases gs with
  |nil=>exact eE fun _=>rfl
  |cons g gs=>cases gs with
   |cons=>exact eE fun _=>rfl
   |nil=>
    obtain⟨tg,it,ifs,n⟩:=g
    show NE X _ (if n=0 then FD G rE rB L elt tg it ifs sc p else bZ)
    split
    ·next z=>subst z;exact (Bn o hE hB _ _ _ _ _ _).ne o
    ·exact eE fun _=>rfl
 |Subscript a ix p=>exact Cw (hE o)
 |Call fn args kws p=>exact AE (hE o) o
 |_=>exact eE fun _=>rfl
theorem BR (o:Ok X k G L){rE:RE}{rB:RB}(hE:∀{X:Cx} {L:Lc},Ok X k G L->∀e,NE X e (rE L e))(hB:∀{X:Cx} {L:Lc},Ok X k G L->∀e,NB X e (rB L e))(e:Expr):NB X e (FY rE rB L e):=by
 have hu:=o.r.units
 unfold FY
 split
 ·split
  ·exact wW fun _=>rfl
  ·next z=>exact ER (nY hu _) (hE o _) (hE o _) (by simpa using z)
 ·split
  ·exact wW fun _=>rfl
  ·next z=>exact GW (nY hu _) (nY hu _) (hE o _) (hE o _) (hE o _) (by simpa using z)
 ·next op vs p=>
  cases vs with
  |nil=>exact wW fun _=>rfl
  |cons a r=>exact HR (ED (hB o) op (a::r) (by simp))
 ·exact E5 (hB o _)
 ·split
  ·next z=>exact D2 (hE o _) (vC z)
  ·exact wW fun _=>rfl
end
theorem CF {X:Cx}{k:Nat}{G:Gc}{L:Lc}(o:Ok X k G L){rE:RE}{rB:RB}(hE:∀{X:Cx} {L:Lc},Ok X k G L->∀e,NE X e (rE L e))(hB:∀{X:Cx} {L:Lc},Ok X k G L->∀e,NB X e (rB L e))(e:Expr):NE X e (Gn G rE rB L e):=by
 unfold Gn
 split
 ·exact yC o hE hB _
 ·split
  ·next f hf=>exact o.hk.e o.toOk0 (fun o'=>hE ⟨o',o.hk⟩) (fun o'=>hB ⟨o',o.hk⟩) _ f hf
  ·exact yC o hE hB _
theorem zW {X:Cx}{k:Nat}{G:Gc}{L:Lc}(o:Ok X k G L){rE:RE}{rB:RB}(hE:∀{X:Cx} {L:Lc},Ok X k G L->∀e,NE X e (rE L e))(hB:∀{X:Cx} {L:Lc},Ok X k G L->∀e,NB X e (rB L e))(e:Expr):NB X e (match G.hk.b G.toGd rE rB L e with
  |some f=>f
  |none=>FY rE rB L e):=by
 split
 ·next f hf=>exact o.hk.b o.toOk0 (fun o'=>hE ⟨o',o.hk⟩) (fun o'=>hB ⟨o',o.hk⟩) _ f hf
 ·exact BR o hE hB _
theorem jw {k:Nat}{G:Gc}:∀n:Nat,(∀{X:Cx} {L:Lc},Ok X k G L->∀e,NE X e ((vv G n).1 L e))/\∀{X:Cx} {L:Lc},Ok X k G L->∀e,NB X e ((vv G n).2 L e)
 |0=>⟨fun _ _=>eE fun _=>rfl,fun _ _=>wW fun _=>rfl⟩
 |n+1=>⟨fun o e=>CF o (jw n).1 (jw n).2 e,fun o e=>zW o (jw n).1 (jw n).2 e⟩
noncomputable abbrev HE (k:Nat)(G:Gc)(rE:RE):Prop:=∀{X:Cx} {L:Lc},Ok X k G L->∀e,NE X e (rE L e)
noncomputable abbrev HB (k:Nat)(G:Gc)(rB:RB):Prop:=∀{X:Cx} {L:Lc},Ok X k G L->∀e,NB X e (rB L e)
noncomputable abbrev HC (k:Nat)(G:Gc)(rE:RE):Prop:=∀{X:Cx} {L:Lc},Ok X k G L->∀elt tg it ifs sc p,CpOk X elt tg it ifs sc (rE L (.ListComp elt [⟨tg,it,ifs,0⟩] sc p))
theorem EF {k:Nat}{G:Gc}:∀n,HC k G (vv G n).1
 |0=>fun _ _ _ _ _ _ _=>⟨.inl fun _=>rfl⟩
 |n+1=>fun o _ _ _ _ _ _=>Bn o (jw n).1 (jw n).2 _ _ _ _ _ _
end Dp
end
section
namespace Dp
open PySem PySem.Spec L2 PyProof.Rows
section
variable {X:Cx}{k:Nat}{G:Gc}{L:Lc}{x:Str}{i:Nat}{pos:Pos}{e v tg:Expr}
theorem xD {st:Stmt}{s:FS}(h:∀ρ,s ρ=.bad):NS X st s:=fun z s' E hz hb=>absurd (h _) hb
theorem Ok0.bk {G:Gd}(o:Ok0 X k G L):X.env.blockKind=.function:=by
 unfold Env.blockKind
 rw[o.sc,o.fk];rfl
theorem Dw {G:Gd}(o:Ok0 X k G L){t:Str}{p:Pos}{ln:Nat}:swapsWith v (some (.Name t p)) ln X.env=pure (BX L v t p):=by
 have hk:X.env.kindOf t=L.sc.names.lookup t:=by show X.env.scope.names.lookup t=_;rw[o.sc]
 cases v<;>first|rfl|skip
 all_goals
  simp only[swapsWith,BX,o.bk,hk,o.fk]
  rfl
theorem AU (o:Ok X k G L){t:Str}{p:Pos}{ln:Nat}:swapsWith v (some (.Name t p)) ln X.env=pure (BX L v t p):=Dw o.toOk0
theorem wF {ts:List Expr}{kk:Nat}{p:Pos}{ln:Nat}:swapsWithSole [.Tuple ts kk p] v ln X.env=pure false:=by cases v<;>rfl
theorem Di {a b:Expr}{p:Pos}{ln:Nat}:swapsWithSole [.Subscript a b p] v ln X.env=pure false:=by cases v<;>rfl
theorem Ag {ln:Nat}(h:zB v=false):swapsWith v none ln X.env=pure false:=by
 cases v<;>first|rfl|(cases h)
theorem o7 {G:Gd}(o:Ok0 X k G L){ts vs:List Expr}{k1 k2:Nat}{p1 p2:Pos}{r:Option (List Str)}(h:Dy L ts vs=some r):swappedStores [.Tuple ts k1 p1] (.Tuple vs k2 p2) X.env=pure r:=by
 have hk:X.env.kindOf=fun x=>L.sc.names.lookup x:=by funext t;show X.env.scope.names.lookup t=_;rw[o.sc]
 unfold Dy at h
 unfold swappedStores
 dsimp only
 rw[o.bk,hk]
 rw[o.fk] at h
 split at h
 ·next z=>cases h;exact if_pos z
 ·next z=>
  refine (if_neg z).trans ?_
  split at h
  ·next z=>cases h;exact if_pos z
  ·next z=>
   refine (if_neg z).trans ?_
   dsimp only at h
   split at h
   ·next z=>cases h;exact if_pos z
   ·next z=>
    refine (if_neg z).trans ?_
    split at h
    ·next z=>cases h;exact if_pos z
    ·next z=>
     refine (if_neg z).trans ?_
     split at h
     ·cases h
     ·next z=>cases h;exact (if_neg z).trans rfl
theorem si (o:Ok X k G L){ts vs:List Expr}{k1 k2:Nat}{p1 p2:Pos}{r:Option (List Str)}(h:Dy L ts vs=some r):swappedStores [.Tuple ts k1 p1] (.Tuple vs k2 p2) X.env=pure r:=o7 o.toOk0 h
theorem um {ts:List Expr}{k1:Nat}{p1:Pos}(h:t8 v=false):swappedStores [.Tuple ts k1 p1] v X.env=pure none:=by
 cases v<;>first|rfl|(cases h)
theorem uK {a ix:Expr}{p:Pos}(h:fQ ix=true):∀v,assign (.Subscript a ix p) X.env v=(do
  let ov ←holding [v] (eval a X.env)
  let iv ←holding [v,ov] (eval ix X.env)
  standAt p
  holding [v,ov,iv] (setItem ov iv v)
  release [v,ov,iv] []):=by
 cases ix<;>first|(exact fun _=>rfl)|skip
 rename_i lo hi st p
 cases st with
 |none=>cases h
 |some s=>exact fun _=>rfl
theorem zH {ix:Expr}(h:fQ ix=true):∀ov iv new,augStore ix ov iv new=(do holding [new,ov,iv] (setItem ov iv new);release [new,ov,iv] [];pure .next):=by
 cases ix<;>first|(exact fun _ _ _=>rfl)|skip
 rename_i lo hi st p
 cases st with
 |none=>cases h
 |some s=>exact fun _ _ _=>rfl
theorem GB (o:Ok X k G L){f:FE}{p:Pos}{own:Bool}(hi:dI L x=some i)(h:NE X v f)(hs:BX L v x p=false):NS X (.Assign [.Name x p] v pos) (if own=true then iG i f else cH i f):=by
 have hs:=(AU (v:=v) o (t:=x) (p:=p) (ln:=pos.line)).trans (by rw[hs])
 split
 ·exact EA (fZ o hi) h hs
 ·exact Eo (fZ o hi) h hs
theorem uh {fm:List (Option Nat)}{fi:FI}{t:FT}{c:FB}{fe:FE}{ρ:aK}:fy fm fi t c fe ρ=none\/∃ps,fy fm fi t c fe ρ=some (.nw ps):=by
 unfold fy
 cases fi ρ with
 |none=>exact .inl rfl
 |some its=>
  show (if its.length<1000 then _ else _)=none\/∃ps,(if its.length<1000 then _ else _)=_
  split
  ·cases pT t c fe (gP fm ρ) its with
   |none=>exact .inl rfl
   |some ps=>exact .inr ⟨ps,rfl⟩
  ·exact .inl rfl
theorem Gq (o:Ok X k G L){f:FE}{p:Pos}{own:Bool}{elt t it:Expr}{ifs:List Expr}{sc:Scope}{vp:Pos}(hi:dI L x=some i)(hc:CpOk X elt t it ifs sc f)(hs:BX L (.ListComp elt [⟨t,it,ifs,0⟩] sc vp) x p=true) :
  NS X (.Assign [.Name x p] (.ListComp elt [⟨t,it,ifs,0⟩] sc vp) pos) (if own=true then iG i f else cH i f):=by
 have n:=fZ o hi
 have hsw:=(AU (v:=.ListComp elt [⟨t,it,ifs,0⟩] sc vp) o (t:=x) (p:=p) (ln:=pos.line)).trans (by rw[hs])
 rcases hc.ex with h|⟨N2,fm,fi,t',c,fe,rfl,h1,h2,h3,h4,h5,h6,h7⟩
 ·split
  ·exact xD fun ρ=>by unfold iG;rw[h];rfl
  ·exact xD fun ρ=>by unfold cH;rw[h];rfl
 ·split
  ·have:=xQ (px:=p) h1 o.calm h2 h3 h4 h5 h6 (Ce n) hsw h7
   rw[show iG i (fy fm fi t' c fe)=vo (fy fm fi t' c fe) (Ek i) by
    funext ρ;unfold iG vo
    rcases uh (fm:=fm) (fi:=fi) (t:=t') (c:=c) (fe:=fe) (ρ:=ρ) with e|⟨ps,e⟩<;>rw[e]<;>rfl]
   exact this
  ·have:=xQ (px:=p) h1 o.calm h2 h3 h4 h5 h6 (CM n) hsw h7
   rw[show cH i (fy fm fi t' c fe)=vo (fy fm fi t' c fe) (EC i) by
    funext ρ;unfold cH vo
    rcases uh (fm:=fm) (fi:=fi) (t:=t') (c:=c) (fe:=fe) (ρ:=ρ) with e|⟨ps,e⟩<;>rw[e]<;>rfl]
   exact this
theorem tB (o:Ok X k G L){d m:Str}{q ap cp:Pos}{es:List Expr}(hi:slot L d=some i)(hl:(ap.endLine==cp.line)=true)(hs:es.all i7=true)(hn:es.length<21):McN X i d m q ap cp es:=by
 obtain⟨h1,h2,h3⟩:=gW o hi
 refine⟨h1,h2,(bK h3).1,(bK h3).2.1,rfl,hl,?_,fun e r he=>?_⟩
 ·rw[lV hs]
  show (true&&true&&decide _)=true
  rw[Bool.and_self,Bool.true_and,decide_eq_true_eq]
  simp only[List.length_nil,List.isEmpty_nil,if_true]
  omega
 ·subst he
  rw[List.all_cons,Bool.and_eq_true] at hs
  exact⟨eT hs.1 r X.env,gX hs.2⟩
theorem CE (o:Ok X k G L){y:Nat}{p:Pos}{s:FS}(hi:dI L x=some y)(h:GS L y v=some s):NS X (.Assign [.Name x p] v pos) s:=by
 unfold GS at h
 split at h
 ·next d q m ap cp=>
  split at h
  ·next i hd=>
   split at h
   ·next z=>
    rw[Bool.and_eq_true,decide_eq_true_eq] at z
    obtain⟨rfl,z⟩:=z
    cases h
    exact Bp wt (tB o hd z rfl (by decide)) (fZ o hi) lG (fun _=>rfl) rfl
   ·cases h
  ·cases h
 ·cases h
theorem Au (o:Ok X k G L){f:FE}{ts:List Expr}{kk:Nat}{p:Pos}(h:NE X v f)(hw:swappedStores [.Tuple ts kk p] v X.env=pure none):NS X (.Assign [.Tuple ts kk p] v pos) (jL f (vT 5 L (.Tuple ts kk p))):=
 EI h (qA 5 o (.Tuple ts kk p)) wF hw rfl
theorem zG (h:Co v=true):∃elt t it ifs sc p,v=.ListComp elt [⟨t,it,ifs,0⟩] sc p:=by
 unfold Co at h
 split at h
 ·exact⟨_,_,_,_,_,_,rfl⟩
 ·cases h
theorem zJ (o:Ok X k G L){rE:RE}(hE:HE k G rE)(hC:HC k G rE)(tg v:Expr):NS X (.Assign [tg] v pos) (Cj G rE L tg v):=by
 unfold Cj
 split
 ·next y p=>
  split
  ·next i hi=>
   split
   ·exact cA
   ·next z=>
    split
    ·next s hs=>exact CE o hi hs
    ·by_cases hs:BX L v y p=true
     ·rw[hs,Bool.true_and,Bool.not_eq_true'] at z
      obtain⟨elt,t,it,ifs,sc,vp,rfl⟩:=zG (v:=v) (by simpa using z)
      exact Gq o hi (hC o elt t it ifs sc vp) hs
     ·exact GB o hi (hE o v) (by simpa using hs)
  ·exact cA
 ·next j jp ix p=>
  split
  ·next i hi=>
   obtain⟨h1,h2,h3⟩:=gW o hi
   split
   ·next z=>
    rw[Bool.and_eq_true] at z
    exact E8 (o:=v) h1 h2 (bK h3).1 (bK h3).2.1 (hE o ix) (hE o v) Di rfl rfl (uK z.1)
   ·exact cA
  ·exact cA
 ·next x px y py kk pt=>
  split
  ·next a b k2 p2=>
   split
   ·next l i j hw hi hj=>
    split
    ·next z=>
     simp only[Bool.and_eq_true,beq_iff_eq,bne_iff_ne,ne_eq] at z
     obtain⟨⟨⟨⟨⟨z0,z1⟩,z2⟩,z3⟩,z4⟩,z5⟩:=z
     have hx:X.env.scope.names.lookup x=some .local:=by rw[o.sc];exact z4
     have hy:X.env.scope.names.lookup y=some .local:=by rw[o.sc];exact z5
     rw[z0] at hw
     exact Es o.calm (fZ o hi) (fZ o hj) z3 hx hy (jK (hE o) [a,b]) (si o hw) wF
    ·exact cA
   ·next hw=>exact Au o (hE o _) (si o hw)
   ·exact cA
  ·split
   ·exact cA
   ·next z=>exact Au o (hE o v) (um (by simpa using z))
 ·split
  ·next z=>
   unfold EX at z
   split at z
   ·next ts _ _ vs _ _=>
    split at z
    ·next hw=>exact Au o (hE o _) (si o hw)
    ·cases z
   ·next ts _ _ hv=>exact Au o (hE o v) (um (by cases v<;>first|rfl|exact (hv _ _ _ rfl).elim))
   ·cases z
  ·exact cA
theorem De (o:Ok X k G L){f:Expr->FE}(hf:∀e,NE X e (f e)){s:FS}(h:G9 G f L tg v=some s):NS X (.Assign [tg] v pos) s:=by
 unfold G9 at h
 split at h
 ·next g fp x xp es cp=>
  split at h
  ·next i hi=>
   obtain⟨h1,h2,h3⟩:=gW o hi
   split at h
   ·next z=>
    rw[Bool.and_eq_true,Bool.and_eq_true] at z
    have ha:NA X es (DM f es):=xB hf z.1.2
    have hpl:(backTo cp (starEach es X.env)).any (·.1)=false:=gX z.1.2
    have hg:=qA 5 o tg
    have sw:swapsWithSole [tg] (.Call (.Name g fp) (.Name x xp::es) [] cp) pos.line X.env=pure false/\swappedStores [tg] (.Call (.Name g fp) (.Name x xp::es) [] cp) X.env=pure none/\(assignEach [tg] X.env).map (·.2)=[assign tg X.env]:=by
     have t:=z.2
     cases tg<;>first|exact⟨rfl,rfl,rfl⟩|(cases t)
    split at h
    ·next F hF=>
     split at h
     ·next hgl=>
      cases h
      obtain⟨hG,hd⟩:=gU o hgl
      obtain⟨j,hj,D⟩:=o.g.lents _ F hF
      exact CG D hj hG (bK hd).1 (fun _=>o.calm) o.r h1 h2 (bK h3).1 (bK h3).2.1 ha hpl hg sw.1 sw.2.1 sw.2.2
     ·cases h
    ·split at h
     ·next j hj=>
      obtain⟨g1,g2,g3⟩:=gW o hj
      split at h
      ·cases h
      ·cases h
       exact AF o.g.lents (fun _=>o.calm) o.r g1 g2 (bK g3).1 (bK g3).2.1 h1 h2 (bK h3).1 (bK h3).2.1 ha hpl hg sw.1 sw.2.1 sw.2.2
     ·cases h
   ·cases h
  ·cases h
 ·cases h
theorem BG (o:Ok X k G L){rE:RE}(hE:HE k G rE)(hC:HC k G rE)(tg v:Expr):NS X (.Assign [tg] v pos) (G3 G rE L tg v):=by
 unfold G3
 split
 ·next s h=>exact De o (hE o) h
 ·exact zJ o hE hC tg v
theorem nL {f:Stmt->FS}(h:∀s,NS X s (f s)):∀ss:List Stmt,wY X ss (vL f ss)
 |[]=>C6
 |[s]=>BL (h s)
 |s::t::r=>Al (h s) (nL h (t::r))
theorem xw {op:Operator}{g:Int->Int->Int}(h:pQ op=some g):yp X op g:=by
 cases op<;>first|(cases h;done)|skip
 ·cases h;exact wO
 ·cases h;exact wc
section
variable {f:Expr->FE}(hf:∀e,NE X e (f e))
include hf
theorem CL (o:Ok X k G L){v:Option Expr}:NS X (.Return v pos) (Hr L f v):=by
 cases v with
 |none=>exact cA
 |some e=>
  cases e<;>first|exact A0 (hf _)|skip
  rename_i x p
  show NS X _ (match slot L x with
   |some i=>if L.top&&!L.lent then gl i else cu
   |none=>dc (f (.Name x p)))
  cases hi:slot L x with
  |none=>exact A0 (hf _)
  |some i=>
   obtain⟨h1,h2,h3⟩:=gW o hi
   show NS X _ (if L.top&&!L.lent then gl i else cu)
   split
   ·next ht=>
    rw[Bool.and_eq_true,Bool.not_eq_true'] at ht
    exact CT h1 h2 (bK h3).1 (bK h3).2.1 (o.h0 ht.2 ht.1)
   ·exact cA
theorem zi (o:Ok X k G L){op:Operator}:NS X (.AugAssign tg op v pos) (Eh L f tg op v):=by
 cases tg<;>first|exact cA|skip
 ·rename_i b ix p
  cases b<;>first|exact cA|skip
  rename_i j q
  show NS X _ (match slot L j with
   |none=>cu
   |some i=>match pQ op with
    |some g=>if fQ ix then ki g i (f ix) (f v) else cu
    |none=>cu)
  cases hi:slot L j with
  |none=>exact cA
  |some i=>
   obtain⟨h1,h2,h3⟩:=gW o hi
   show NS X _ (match pQ op with
    |some g=>if fQ ix then ki g i (f ix) (f v) else cu
    |none=>cu)
   cases hg:pQ op with
   |none=>exact cA
   |some g=>
    show NS X _ (if fQ ix then ki g i (f ix) (f v) else cu)
    split
    ·next z=>exact zq h1 h2 (bK h3).1 (bK h3).2.1 (hf _) (hf _) (xw hg) (zH z)
    ·exact cA
 ·rename_i x p
  show NS X _ (match dI L x with
   |none=>cu
   |some i=>match pQ op with
    |some g=>wC g i (f v)
    |none=>cu)
  cases hi:dI L x with
  |none=>exact cA
  |some i=>
   show NS X _ (match pQ op with
    |some g=>wC g i (f v)
    |none=>cu)
   cases hg:pQ op with
   |none=>exact cA
   |some g=>exact Ee (fZ o hi) (hf _) (xw hg)
theorem zT (o:Ok X k G L){d m:Str}{q ap cp:Pos}{args:List Expr}:NS X (.Expr (.Call (.Attribute (.Name d q) m ap) args [] cp) pos) (Dj L f d q m ap args cp):=by
 unfold Dj
 cases hi:slot L d with
 |none=>cases args with
  |nil=>exact cA
  |cons=>exact lZ (hf _) rfl
 |some i=>cases args with
  |nil=>
   show NS X _ (if ap.endLine==cp.line then (if m = "reverse" then lK yb i af else if m = "pop" then lK nz i af else cu) else cu)
   split
   ·next z=>
    split
    ·next zz=>subst zz;exact BZ D5 (tB o hi z rfl (by decide)) lG (fun _=>rfl) rfl
    ·split
     ·next zz=>subst zz;exact BZ wt (tB o hi z rfl (by decide)) lG (fun _=>rfl) rfl
     ·exact cA
   ·exact cA
  |cons a as=>
   show NS X _ (if m = "append"&&ap.endLine==cp.line&&(a::as).all i7&&decide (as.length<20) then lK hZ i (vA f (a::as)) else cu)
   split
   ·next z=>
    rw[Bool.and_eq_true,Bool.and_eq_true,Bool.and_eq_true,decide_eq_true_eq,decide_eq_true_eq] at z
    obtain⟨⟨⟨rfl,z1⟩,z2⟩,z3⟩:=z
    exact BZ Eb (tB o hi z1 z2 (by rw[List.length_cons];omega)) (jK hf _) (fun e=>by cases e) rfl
   ·exact cA
theorem zN (o:Ok X k G L):NS X (.Expr e pos) (CR L f e):=by
 unfold CR
 split
 ·next z=>
  cases e<;>first|(cases z;done)|skip
  rename_i c _ _
  cases c<;>first|(cases z;done)|skip
  exact Ex
 ·cases e with
  |Call fn args kws cp=>
   cases kws with
   |cons=>exact lZ (hf _) rfl
   |nil=>
    cases fn with
    |Attribute b m ap=>
     cases b with
     |Name d q=>exact zT hf o
     |_=>exact lZ (hf _) rfl
    |_=>exact lZ (hf _) rfl
  |ListComp a b c d=>exact cA
  |SetComp a b c d=>exact cA
  |DictComp a b c d e=>exact cA
  |_=>exact lZ (hf _) (Ag rfl)
end
theorem CZ (o:Ok X k G L){rE:RE}{rB:RB}{rS:Lc->Stmt->FS}(hE:HE k G rE)(hB:HB k G rB)(hC:HC k G rE)(hS:∀s,NS X s (rS L s))(st:Stmt):NS X st (Ha G rE rB rS L st):=by
 cases st with
 |Return v p=>exact CL (hE o) o
 |If c a b p=>exact GP (hB o _) (nL hS _) (nL hS _)
 |For tg it body els p=>
  cases els with
  |cons=>exact cA
  |nil=>
   show NS X _ (if BQ it then g8 (vI G L (rE L) false tg it) (vT 5 L tg) (vL (rS L) body) else cu)
   split
   ·next z=>exact EL o.calm (Bl o (hE o) tg it) (qA 5 o tg) (nL hS body) (by
     intro y
     cases it<;>first|rfl|(cases z))
   ·exact cA
 |While c body els p=>
  cases els with
  |cons=>exact cA
  |nil=>exact zV (hB o _) (nL hS _)
 |Assign tgs v p=>
  cases tgs with
  |nil=>exact cA
  |cons tg r=>cases r with
   |cons=>exact cA
   |nil=>exact BG o hE hC _ _
 |AugAssign tg op v p=>exact zi (hE o) o
 |Expr e p=>exact zN (hE o) o
 |Pass p=>exact Ci
 |Break p=>exact Ay
 |Continue p=>exact rZ
 |_=>exact cA
theorem tm {st:Stmt}:∀{l:List Nat} {s:FS},NS X st s->NS X st (frzs l s)
 |[],_,h=>h
 |i::r,_,h=>tm (l:=r) (EG h i)
end
theorem xX {k:Nat}{G:Gc}:∀(n:Nat) {X:Cx} {L:Lc},Ok X k G L->∀s,NS X s (vS G n L s)
 |0,_,_,_,_=>cA
 |n+1,_,L,o,s=>by
  unfold vS
  refine tm ?_
  split
  ·next f hf=>exact o.hk.s o.toOk0 (fun o'=>(jw n).1 ⟨o',o.hk⟩) (fun o'=>(jw n).2 ⟨o',o.hk⟩) (xX n o) s f hf
  ·exact CZ o (jw n).1 (jw n).2 (EF n) (xX n o) s
end Dp
end
section
namespace Dp
open PySem PySem.Spec L2 PyProof.Rows
section
variable {P:Program}{w:World}{K:PySem.W.Frag}{mg:Str->Option Value}{base:Heap}{k:Nat}
theorem EE {x:Str}{st:Stmt}{f:Addr}{fd:FuncData}{N ps:List Str}{s:FS}{G:Gc}(L:Lc)(F:Fun K x x st f fd)(S:FnScope N ps (ae st))(g:GOk P w K mg base k G.toGd)(hk:HkOk G.hk)(hs:vL (vS G 60 L) (aZ st)=s)(h1:L.sc=ae st)(h2:L.N=N)(h3:L.top=true) :
  NF P w K mg base true (k+1) f fd ps (run ps.length N.length s):=by
 obtain⟨oc,od,kV,doc,pm,an,cdv,ct,osl,rfl,lk,hcd⟩:=F.ex
 exact Fm lk hcd S fun A outer s' hc hr=>hs▸nL (xX 60 ⟨⟨g,hr,h1.symm,h2.symm,by rw[h2];exact S.nd,by rw[h1];exact S.kind,rfl,fun _ _=>rfl,fun _ _=>rfl,fun h=>by rw[h3] at h;cases h⟩,hk⟩) (aZ st)
theorem cE {x:Str}{st:Stmt}{N ps:List Str}{a n:Nat}{s:FS}{G:Gc}(L:Lc)(F:bQ K mg x st ps)(S:FnScope N ps (ae st))(g:GOk P w K mg base k G.toGd)(hk:HkOk G.hk)
  (hs:vL (vS G 60 L) (aZ st)=s) (h1:L.sc=ae st:=by rfl) (h2:L.N=N:=by rfl) (h3:L.top=true:=by rfl) (ha:ps.length=a:=by rfl) (hn:N.length=n:=by rfl):DefN P w K mg base true (k+1) x (run a n s):=by
 obtain⟨f,fd,F,b,m⟩:=F
 subst ha hn
 exact⟨f,fd,ps,EE L F S g hk hs h1 h2 h3,.all b,F.kp,m⟩
noncomputable def lT {α:Type}(p:α->Prop):List α->Prop
 |[]=>True
 |a::r=>p a/\lT p r
theorem dO {β:Type}{p:Str×β->Prop}:∀{l:List (Str×β)},lT p l->∀x b,l.lookup x=some b->p (x,b)
 |[],_,_,_,h=>by cases h
 |(y,c)::r,⟨h1,h2⟩,x,b,h=>by
  rw[List.lookup_cons] at h
  cases hx:x==y with
  |true=>
   rw[hx] at h
   have:x=y:=by simpa using hx
   subst this
   cases h;exact h1
  |false=>rw[hx] at h;exact dO h2 x b h
theorem mF {p:Str->Prop}:∀{l:List Str},lT p l->∀x,l.contains x=true->p x
 |[],_,_,h=>by cases h
 |y::r,⟨h1,h2⟩,x,h=>by
  rw[List.contains_cons,Bool.or_eq_true] at h
  rcases h with h|h
  ·have:x=y:=by simpa using h
   subst this;exact h1
  ·exact mF h2 x h
theorem jE {G:Gd}(h1:lT (fun x=>mg x=none) G.bi)(h2:lT (fun p=>∃t,mg p.1=some (.int p.2 t)) G.nis)(h3:lT (fun p=>FV P w mg base p.1 (.ktu p.2)) G.tups)(h4:lT (fun x=>∃a,mg x=some (.ref a)) G.vals)(h5:lT (fun p=>∃j,j≤k/\DefN P w K mg base true j p.1 p.2) G.fns)
  (h6:lT (fun p=>FV P w mg base p.1 (.dct p.2.1 p.2.2)) G.dcts) (h7:lT (fun p=>∃j,j≤k/\DefN P w K mg base true j p.1 p.2) G.tab) (h8:lT (fun p=>∃j,j≤k/\DefL P w K mg base true j p.1 p.2) G.lents):GOk P w K mg base k G:=
 ⟨mF h1,dO h2,dO h3,mF h4,dO h5,dO h6,dO h7,dO h8⟩
end
end Dp
end
section
namespace Dp
open PySem PySem.Spec L2 PyProof.Rows
theorem vP {P:Program}{w:World}{K:PySem.W.Frag}{mg mb:Str->Option Value}{k:Nat}{fa a:Addr}{fd:FuncData}{x:Str}{s₁:Shared}{vs:List Value}{ns:List Int}{Fl:Fn}
  (KX:K.In s₁.heap) (hns:s₁.heap.Ns mainGlobals mg) (hb:s₁.heap.Ns builtinsNs mb) (hbb:∀x:Str,x ≠ "__name__"->mb x=bootBuiltins x) (hlim:s₁.heap.NoLimit) (hg:s₁.gens = #[])
  (ha:s₁.heap.get? a=some { cls:=.type "list",data:=.seq vs.toArray }) (hi:IntsAre vs ns) (hl:ns.length≤sizeLine) (hr:Rm k callerA)
  (F:NF P w K mg s₁.heap true k fa fd [x] Fl) (hbind:∀(s:Shared) (u:Value),BindsTo s fd ⟨[u],[]⟩ [(x,u)]) (q:Fl [.src (ns.map .int)]=some (.v (.bl true))) :
  codeAny (model P w) callerA (.call (.ref fa) ⟨[.ref a],[]⟩) (fun r s'=>r=.ok (.ret (.bool true))/\OldK s₁.heap s'.heap/\s'.os=s₁.os/\AllBare s'.gens) s₁:=by
 have lenV:=hi.length
 have hM:Mod K mg s₁.heap:=⟨KX,hns,⟨mb,hb,hbb⟩,hlim⟩
 have e0:Env0 P w K mg s₁.heap callerA [] s₁ h0:=⟨rfl,hM,fun b o e=>⟨e,rfl⟩,Nat.le_refl _,trivial,fun b hb=>absurd (show b∈([]:List Addr) from hb) (by simp),fun b o e=>(by cases e),.of_eq hg⟩
 refine codeAny_mono (F.run callerA [] s₁ ⟨[.ref a],[]⟩ [.ref a] [.src (ns.map .int)] _ (fun _=>False) (fun _=>rfl) hr e0 (hbind s₁ (.ref a)) (fun b hb=>absurd (show b∈([]:List Addr) from hb) (by simp)) (fun b h=>h.elim) (fun b o _ h=>h)
  ⟨.ref a,[],rfl,⟨a,vs,_,rfl,⟨rfl,id⟩,ha,by omega,uM hi⟩,rfl⟩ q) fun r s' h=>?_
 obtain⟨u,rfl,os,bare,un,d⟩:=h
 obtain rfl:u=Value.bool true:=d
 exact⟨rfl,OldK.of_keep fun b o e=>un.keep b o e rfl (by intro z;exact absurd (show b∈([]:List Addr) from z) (by simp)) (by simp),os,bare⟩
theorem E1 {l:PySem.W.OpenLaw}{q:Program}{loose:List Str}{XP:(Str->Option Value)->Heap->Prop}{YP:World->Heap->Prop}{d:DefRec}{K:Params->PySem.W.Frag}{k:Nat}{Fl:Fn}(hk:k≤40)(hn:l.most=some 63)(hdf:d.params.defaults=[])
  (hY:∀(w:World) (h:Heap),YP w h->(K w.params).In h)
  (hq:∀ns:List Int,ns.length≤63->Fl [.src (ns.map .int)]=some (.v (.bl true)))
  (F:∀(w:World) (mg:Str->Option Value) (fa:Addr) (h:Heap),(K w.params).In h->h.Ns mainGlobals mg->mg d.name=some (.ref fa) →
   ∃fd:FuncData,(∀(s:Shared) (u:Value),BindsTo s fd ⟨[u],[]⟩ [("_law_script",u)])/\∀base:Heap,(K w.params).In base/\base.Ns mainGlobals mg->NF l.prog w (K w.params) mg base true k fa fd ["_law_script"] Fl) :
  PySem.W.WalkO q loose XP YP l.row.toRowW d [] (fun f vs=>PySem.call f vs):=by
 refine Att.attach_call hn hdf fun w s₀ s₁ mg mb fa o pm cd doc a vs ns G Y ho hd hcd hmg hobj hints hlen hg=>?_
 have KX:=hY w _ Y
 obtain⟨fd,hb,hF⟩:=F w mg fa _ KX G.T.g hmg
 have R:Rm 40 callerA:=⟨by decide,by decide⟩
 exact vP KX G.T.g G.T.b G.T.builtins G.T.nolimit hg hobj hints (Nat.le_trans hlen (by decide)) (R.mono hk) (hF _ ⟨KX,G.T.g⟩) hb (hq ns hlen)
theorem Ah {P:Program}{w:World}{K:PySem.W.Frag}{mg:Str->Option Value}{x y:Str}{st:Stmt}{fa:Addr}{k a n:Nat}{N:List Str}{R:Heap->Prop}{s:FS}(F:bQ K mg x st [y])(hm:mg x=some (.ref fa))(S:FnScope N [y] (ae st))(ha:a=1)(hn:N.length=n)
  (h:∀base,R base->∃(L:Lc) (G:Gc),GOk P w K mg base k G.toGd/\HkOk G.hk/\vL (vS G 60 L) (aZ st)=s/\L.sc=ae st/\L.N=N/\L.top=true) :
  ∃fd:FuncData,(∀(s:Shared) (u:Value),BindsTo s fd ⟨[u],[]⟩ [(y,u)])/\∀base:Heap,R base->NF P w K mg base true (k+1) fa fd [y] (run a n s):=by
 subst ha hn
 obtain⟨f,fd,F,b,m⟩:=F
 rw[hm] at m
 cases m
 exact⟨fd,fun s u=>.of_eq (b [u] rfl),fun base hb=>by
  obtain⟨L,G,g,hk,hs,h1,h2,h3⟩:=h base hb
  exact EE L F S g hk hs h1 h2 h3⟩
end Dp
end
section
namespace Dp
open PySem PySem.Spec L2 PyProof.Rows
section
variable {P:Program}{w:World}{K:PySem.W.Frag}{mg:Str->Option Value}{base:Heap}{x:Str}{a:Addr}{ps:List PV}
end
end Dp
end
section
namespace Fo
noncomputable abbrev up (us:List Nat)(x:Nat):Nat:=us.getD x 0
noncomputable def Gv (l:List Nat):Nat:=l.getLastD 0
end Fo
end
section
namespace Fo
open PySem
noncomputable def vf:List Str:=["none","whole","halves","splits","one"]
end Fo
namespace Dp
open PySem L2 Fo
noncomputable def nI (n:Nat):PV:=.int n
noncomputable def ag (us:List Nat):List PV:=us.map nI
theorem jT {i j:Int}:iy (.int i) (.int j)=decide (i=j):=by
 simp only[iy,iX,qn,Bm,Bool.true_and]
 rw[Bool.eq_iff_iff,beq_iff_eq,decide_eq_true_iff]
theorem u4 {i j:Str}:iy (.str i) (.str j)=decide (i=j):=by
 simp only[iy,iX,qn,Bm,Bool.true_and]
 rw[Bool.eq_iff_iff,beq_iff_eq,decide_eq_true_iff]
theorem GK {i j:Bool}:iy (.bl i) (.bl j)=(i==j):=by
 simp only[iy,iX,qn,Bm,Bool.true_and]
theorem u6 {ps qs:List PV}:iy (.tup ps) (.tup qs)=gd ps qs:=by simp only[iy]
theorem uk {ps qs:List PV}:iy (.lst ps) (.lst qs)=gd ps qs:=by simp only[iy]
theorem nQ {p q:PV}{ps qs:List PV}:gd (p::ps) (q::qs)=(iy p q&&gd ps qs):=by simp only[gd]
theorem lI:gd [] []=true:=by simp only[gd]
theorem b9 (us:List Nat):(ag us).length=us.length:=List.length_map ..
theorem mI:ag []=[]:=rfl
theorem eA (x:Nat)(us:List Nat):ag (x::us)=nI x::ag us:=rfl
theorem xL (us vs:List Nat):ag (us++vs)=ag us++ag vs:=List.map_append
theorem gf:∀us:List Nat,aW (ag us)=true
 |[]=>by simp only[ag,List.map_nil,aW]
 |x::us=>by rw[eA,aW,gf us];simp only[nI,bL,Bool.and_true]
theorem ic:∀us:List Nat,cJ (ag us)=0
 |[]=>by simp only[ag,List.map_nil,cJ]
 |x::us=>by rw[eA,cJ,ic us];simp only[nI,lr,Nat.max_self]
theorem iB {n x:Nat}(h:x<n):pJ n (x:Int)=some x:=by
 unfold pJ
 rw[if_pos (by omega),if_pos (by omega),Int.toNat_natCast]
theorem dG {ps:List PV}{x:Nat}{p:PV}(h:ps[x]?=some p):L2.eI ps (x:Int)=some p:=by
 unfold L2.eI
 have hx:x<ps.length:=(List.getElem?_eq_some_iff.mp h).1
 rw[iB hx]
 exact h
theorem Hv {a:PV}{l:List PV}:L2.eI (a::l) (0:Int)=some a:=dG (x:=0) rfl
theorem Ho {a b:PV}{l:List PV}:L2.eI (a::b::l) (1:Int)=some b:=dG (x:=1) rfl
theorem uc {a b c:PV}{l:List PV}:L2.eI (a::b::c::l) (2:Int)=some c:=dG (x:=2) rfl
theorem HS {a b c d:PV}{l:List PV}:L2.eI (a::b::c::d::l) (3:Int)=some d:=dG (x:=3) rfl
theorem yR {us:List Nat}{x:Nat}(hx:x<us.length):(ag us)[x]?=some (nI (up us x)):=by
 unfold ag
 rw[List.getElem?_map,List.getElem?_eq_getElem hx]
 simp[up,hx]
theorem bM {us:List Nat}{x:Nat}(hx:x<us.length):L2.eI (ag us) (x:Int)=some (nI (up us x)):=dG (yR hx)
theorem dE (us:List Nat)(y:Nat):ag us++[PV.int y]=ag (us++[y]):=(xL us [y]).symm
theorem AH (n:Nat):ni 0 n=ag (List.range n):=by
 unfold ni ag
 exact List.map_congr_left fun i _=>by rw[nI,Int.zero_add]
theorem F1 (n:Nat):ni 1 n=ag ((List.range n).map (·+1)):=by
 unfold ni ag
 rw[List.map_map]
 exact List.map_congr_left fun i _=>by show PV.int (1+(i:Int))=PV.int ((i+1:Nat):Int);congr 1;omega
theorem xi {us:List Nat}{v:PV}(h:v∈ag us):∃u∈us,v=nI u:=by
 obtain⟨u,hu,e⟩:=List.mem_map.mp h
 exact⟨u,hu,e.symm⟩
noncomputable def iL (ns:List Int):List PV:=ns.map PV.int
theorem xv (ns:List Int):(iL ns).length=ns.length:=List.length_map ..
theorem Cu {n:Nat}{lo:Int}{v:PV}(h:v∈ni lo n):∃i:Int,v=.int i/\lo≤i/\i<lo+n:=by
 obtain⟨k,hk,rfl⟩:=List.mem_map.mp h
 have:=List.mem_range.mp hk
 exact⟨lo+k,rfl,by omega,by omega⟩
theorem tG (lo:Int)(n:Nat):(ni lo n).length=n:=by simp[ni]
theorem Fj {i:Int}(h:0≤i):PV.int i=nI i.toNat:=by rw[nI,Int.toNat_of_nonneg h]
theorem CN (ns:List Int)(lo hi:Option Int):jv (iL ns) lo hi=iL (jv ns lo hi):=by
 unfold jv iL
 rw[List.length_map,List.map_take,List.map_drop]
theorem yH (ns:List Nat)(lo hi:Option Int):jv (ag ns) lo hi=ag (jv ns lo hi):=by
 unfold jv ag
 rw[List.length_map,List.map_take,List.map_drop]
end Dp
namespace Fo
open PySem L2
end Fo
namespace Dp
open PySem L2 Fo
end Dp
end
section
namespace Dp
open PySem L2 Fo
noncomputable def uV (o:Out)(u:FS):Out:=match o with
 |.nx ρ'=>u ρ'
 |o=>o
noncomputable def Eg (o:Option (List PV))(t:FT)(s:FS)(ρ:aK):Out:=match o with
 |some its=>bA t s its ρ
 |none=>.bad
noncomputable def jW (o:Out)(t:FT)(s:FS)(ps:List PV):Out:=match o with
 |.nx ρ2=>bA t s ps ρ2
 |.ct ρ2=>bA t s ps ρ2
 |.bk ρ2=>.nx ρ2
 |o=>o
noncomputable def lS (o:Option aK)(t:FT)(s:FS)(ps:List PV):Out:=match o with
 |some ρ=>jW (s ρ) t s ps
 |none=>.bad
theorem cr {t:FT}{s:FS}{p:PV}{ps:List PV}{ρ:aK}:bA t s (p::ps) ρ=lS (t p ρ) t s ps:=Eq.trans rfl rfl
noncomputable def En (o:Out)(c:FB)(s:FS)(n:Nat):Out:=match o with
 |.nx ρ2=>dM c s n ρ2
 |.ct ρ2=>dM c s n ρ2
 |.bk ρ2=>.nx ρ2
 |o=>o
noncomputable def HF (o:Option Bool)(c:FB)(s:FS)(n:Nat)(ρ:aK):Out:=match o with
 |some true=>En (s ρ) c s n
 |some false=>.nx ρ
 |none=>.bad
theorem i5 {c:FB}{s:FS}{n:Nat}{ρ:aK}:dM c s (n+1) ρ=HF (c ρ) c s n ρ:=Eq.trans rfl rfl
theorem wT {s:Option Sl}{i:Nat}{ρ:aK}:frz (i+1) (s::ρ)=s::frz i ρ:=by
 unfold frz
 rw[List.getElem?_cons_succ]
 split<;>simp_all
theorem kH {r:RV}{rs:List RV}:(r::rs).mapM RV.fr=r.fr.bind fun p=>(rs.mapM RV.fr).bind fun ps=>some (p::ps):=by
 rw[List.mapM_cons];rfl
theorem tq {s u:FS}{ρ:aK}:aY s u ρ=uV (s ρ) u:=Eq.trans rfl rfl
theorem ja {t:FT}{s:FS}{ps:List PV}{ρ:aK}:jW (.nx ρ) t s ps=bA t s ps ρ:=Eq.trans rfl rfl
theorem tQ {t:FT}{s:FS}{ps:List PV}{ρ:aK}:jW (.ct ρ) t s ps=bA t s ps ρ:=Eq.trans rfl rfl
theorem tu {t:FT}{s:FS}{ps:List PV}{p:PV}{ρ:aK}:jW (.rt p ρ) t s ps=.rt p ρ:=Eq.trans rfl rfl
theorem lm {t:FT}{s:FS}{ps:List PV}{ρ:aK}:lS (some ρ) t s ps=jW (s ρ) t s ps:=Eq.trans rfl rfl
theorem e8 {t:FT}{s:FS}{ρ:aK}:bA t s [] ρ=.nx ρ:=Eq.trans rfl rfl
theorem oV {c:FB}{s:FS}{n:Nat}{ρ:aK}:En (.nx ρ) c s n=dM c s n ρ:=Eq.trans rfl rfl
theorem y3 {c:FB}{s:FS}{n:Nat}{ρ:aK}:HF (some false) c s n ρ=.nx ρ:=Eq.trans rfl rfl
theorem jd {u:FS}{ρ:aK}:uV (.nx ρ) u=u ρ:=Eq.trans rfl rfl
theorem oz {u:FS}{p:PV}{ρ:aK}:uV (.rt p ρ) u=.rt p ρ:=Eq.trans rfl rfl
theorem nO {u:FS}{ρ:aK}:uV (.ct ρ) u=.ct ρ:=Eq.trans rfl rfl
theorem yM {ρ:aK}:bG ρ=.nx ρ:=Eq.trans rfl rfl
theorem D0 {ρ:aK}:FQ ρ=.ct ρ:=Eq.trans rfl rfl
theorem wR {f:FE}{ρ:aK}:iP f ρ=sZ (f ρ) ρ:=Eq.trans rfl rfl
theorem nX {p:PV}{ρ:aK}:sZ (some (.fz p)) ρ=.nx ρ:=Eq.trans rfl rfl
theorem Bz {f:FE}{ρ:aK}:dc f ρ=xl (f ρ) ρ:=Eq.trans rfl rfl
theorem qZ {p:PV}{ρ:aK}:xl (some (.fz p)) ρ=.rt p ρ:=Eq.trans rfl rfl
theorem pW {p:List PV}{ρ:aK}:xl (some (.nw p)) ρ=.rn p ρ:=Eq.trans rfl rfl
theorem rN {i:Nat}{ρ:aK}:gl i ρ=pZ (sl ρ i) ρ:=Eq.trans rfl rfl
theorem mz {p:PV}{ρ:aK}:pZ (some (.val p)) ρ=.rt p ρ:=Eq.trans rfl rfl
theorem qV {p:List PV}{ρ:aK}:pZ (some (.own p)) ρ=.rn p ρ:=Eq.trans rfl rfl
theorem E2 {g:FB}{s u:FS}{ρ:aK}:gO g s u ρ=Fd (g ρ) s u ρ:=Eq.trans rfl rfl
theorem xo {s u:FS}{ρ:aK}:Fd (some true) s u ρ=s ρ:=Eq.trans rfl rfl
theorem wk {s u:FS}{ρ:aK}:Fd (some false) s u ρ=u ρ:=Eq.trans rfl rfl
theorem Bo {i:Nat}{f:FE}{ρ:aK}:cH i f ρ=Af ((f ρ).bind RV.fr) i ρ:=Eq.trans rfl rfl
theorem tZ {i:Nat}{p:PV}{ρ:aK}:Af (some p) i ρ=.nx (ρ.set i (some (.val p))):=Eq.trans rfl rfl
theorem Bv {i:Nat}{f:FE}{ρ:aK}:iG i f ρ=zF (f ρ) i ρ:=Eq.trans rfl rfl
theorem ry {i:Nat}{p:List PV}{ρ:aK}:zF (some (.nw p)) i ρ=.nx (ρ.set i (some (.own p))):=Eq.trans rfl rfl
theorem BC {f:FE}{t:FT}{ρ:aK}:jL f t ρ=zD ((f ρ).bind RV.fr) t ρ:=Eq.trans rfl rfl
theorem uN {p:PV}{t:FT}{ρ:aK}:zD (some p) t ρ=DK (t p ρ):=Eq.trans rfl rfl
theorem y0 {ρ:aK}:DK (some ρ)=.nx ρ:=Eq.trans rfl rfl
theorem Br {i j:Nat}{fs:FA}{ρ:aK}:mQ i j fs ρ=AK ((fs ρ).bind fun rs=>rs.mapM RV.fr) i j ρ:=Eq.trans rfl rfl
theorem t5 {i j:Nat}{p q:PV}{ρ:aK}:AK (some [p,q]) i j ρ=.nx ((ρ.set i (some (.val p))).set j (some (.val q))):=Eq.trans rfl rfl
theorem AV {i:Nat}{s:FS}{ρ:aK}:vM i s ρ=s (frz i ρ):=Eq.trans rfl rfl
theorem u9 {ps:List PV}{ρ:aK}:frz 0 (some (.own ps)::ρ)=some (.val (.lst ps))::ρ:=Eq.trans rfl rfl
theorem Ea {g:GM}{i:Nat}{fs:FA}{ρ:aK}:lK g i fs ρ=zI (CH g (sl ρ i) ((fs ρ).bind fun rs=>rs.mapM RV.fr)) i ρ:=Eq.trans rfl rfl
theorem bn {g:GM}{j i:Nat}{fs:FA}{ρ:aK}:vq g j i fs ρ=AI (CH g (sl ρ i) ((fs ρ).bind fun rs=>rs.mapM RV.fr)) j i ρ:=Eq.trans rfl rfl
theorem xS {g:GM}{t:Sl}{ps:List PV}:CH g (some t) (some ps)=g t ps:=Eq.trans rfl rfl
theorem uf {t:Sl}{p:PV}{i:Nat}{ρ:aK}:zI (some (t,p)) i ρ=.nx (ρ.set i (some t)):=Eq.trans rfl rfl
theorem ay {t:Sl}{p:PV}{j i:Nat}{ρ:aK}:AI (some (t,p)) j i ρ=.nx ((ρ.set i (some t)).set j (some (.val p))):=Eq.trans rfl rfl
theorem yt {ps:List PV}{q:PV}:hZ (.own ps) [q]=if ps.length≤100000 then some (.own (ps++[q]),.non) else none:=Eq.trans rfl rfl
theorem bo {g:PV->List PV->Option RV}{fo:FE}{fs:FA}{ρ:aK}:vD g fo fs ρ=(fo ρ).bind fun x=>(fs ρ).bind fun rs=>g x.pv (rs.map RV.pv):=Eq.trans rfl rfl
theorem aL {ks:List e9}{ps:List PV}{k:PV}:kh (.dct ks ps) [k]=(ia k).map fun k=>.fz ((nF ks ps k).getD .non):=Eq.trans rfl rfl
theorem aH {x:Str}:ia (.str x)=some (.inr x):=Eq.trans rfl rfl
theorem az {i:Int}:ia (.int i)=some (.inl i):=Eq.trans rfl rfl
theorem xq {tab:List (Str×Fn)}{j:Nat}{fs:FA}{ρ:aK}:lO tab j fs ρ=(fs ρ).bind fun rs=>pB tab (sl ρ j) (rs.mapM RV.fr) rs:=Eq.trans rfl rfl
theorem zZ {tab:List (Str×Fn)}{x:Str}{o:Option (List PV)}{rs:List RV}:pB tab (some (.val (.fn x))) o rs=(tab.lookup x).bind fun F=>lQ F o rs:=Eq.trans rfl rfl
theorem AS {j:Nat}{fi f:FE}{ρ:aK}:mJ j fi f ρ=Am ((f ρ).bind RV.fr) (sl ρ j) ((fi ρ).bind RV.fr) j ρ:=Eq.trans rfl rfl
theorem tM {v:PV}{ps:List PV}{k:Int}{j:Nat}{ρ:aK}:Am (some v) (some (.own ps)) (some (.int k)) j ρ=u5 (pJ ps.length k) v ps j ρ:=Eq.trans rfl rfl
theorem vd {v:PV}{ps:List PV}{n j:Nat}{ρ:aK}:u5 (some n) v ps j ρ=.nx (ρ.set j (some (.own (ps.set n v)))):=Eq.trans rfl rfl
theorem A3 {it:FI}{t:FT}{s:FS}{ρ:aK}:g8 it t s ρ=Eg (it ρ) t s ρ:=Eq.trans rfl rfl
theorem ul {its:List PV}{t:FT}{s:FS}{ρ:aK}:Eg (some its) t s ρ=bA t s its ρ:=Eq.trans rfl rfl
theorem uF {c:FB}{s:FS}{ρ:aK}:kx c s ρ=dM c s 10000 ρ:=Eq.trans rfl rfl
theorem qp {ρ:aK}:Out.res (.nx ρ)=some (.v .non):=Eq.trans rfl rfl
theorem rH {p:PV}{ρ:aK}:Out.res (.rt p ρ)=some (.v p):=Eq.trans rfl rfl
theorem rm {p:List PV}{ρ:aK}:Out.res (.rn p ρ)=some (.n p):=Eq.trans rfl rfl
theorem HA {i:Nat}{ρ:aK}:fV i ρ=(sl ρ i).map oY:=Eq.trans rfl rfl
theorem Bf {s:Option Sl}{ρ:aK}:sl (s::ρ) 0=s:=Eq.trans rfl rfl
theorem Bj {s:Option Sl}{i:Nat}{ρ:aK}:sl (s::ρ) (i+1)=sl ρ i:=Eq.trans rfl rfl
theorem qu {p:PV}:oY (.val p)=.fz p:=Eq.trans rfl rfl
theorem ro {p:List PV}:oY (.own p)=.ln (.lst p):=Eq.trans rfl rfl
theorem Hd {p:PV}{ρ:aK}:fC p ρ=some (.fz p):=Eq.trans rfl rfl
theorem EW {g:PV->PV->Option RV}{a b:FE}{ρ:aK}:ax g a b ρ=(a ρ).bind fun x=>(b ρ).bind fun y=>g x.pv y.pv:=Eq.trans rfl rfl
theorem ui {p:PV}:RV.pv (.fz p)=p:=Eq.trans rfl rfl
theorem uS {p:List PV}:RV.pv (.nw p)=.lst p:=Eq.trans rfl rfl
theorem uL {p:PV}:RV.pv (.ln p)=p:=Eq.trans rfl rfl
theorem tj {p:PV}:RV.fr (.fz p)=some p:=Eq.trans rfl rfl
theorem ue {p:List PV}:RV.fr (.nw p)=some (.lst p):=Eq.trans rfl rfl
theorem tC {p:PV}:RV.fr (.ln p)=none:=Eq.trans rfl rfl
theorem Hs {f:FE}{ρ:aK}:fT f ρ=vy (f ρ):=Eq.trans rfl rfl
theorem A9 {b:Bool}:vy (some (.fz (.bl b)))=some b:=Eq.trans rfl rfl
theorem xV {g:FB}{ρ:aK}:gM g ρ=(g ρ).map fun b=>!b:=Eq.trans rfl rfl
theorem xO {g k:FB}{ρ:aK}:gm g k ρ=(g ρ).bind fun b=>if b=true then k ρ else some false:=Eq.trans rfl rfl
theorem AZ {g k:FB}{ρ:aK}:jS g k ρ=(g ρ).bind fun b=>if b=true then some true else k ρ:=Eq.trans rfl rfl
theorem Bd {f:FE}{ρ:aK}:m7 f ρ=(f ρ).bind fun r=>r.fr.map .fz:=Eq.trans rfl rfl
theorem yy {f g:FE}{ρ:aK}:iJ f g ρ=(vy (f ρ)).bind fun b=>if b=true then m7 g ρ else some (.fz (.bl false)):=Eq.trans rfl rfl
theorem By {f g:FE}{ρ:aK}:Ae f g ρ=(vy (f ρ)).bind fun b=>if b=true then some (.fz (.bl true)) else m7 g ρ:=Eq.trans rfl rfl
theorem xf {f:FE}{ρ:aK}:qt f ρ=(vy (f ρ)).map fun b=>.fz (.bl (!b)):=Eq.trans rfl rfl
theorem AR {f:FE}{ρ:aK}:qO f ρ=(f ρ).bind fun r=>zu r.fr:=Eq.trans rfl rfl
theorem ug {i:Int}:zu (some (.int i))=some (.fz (.int (-i))):=Eq.trans rfl rfl
theorem AT {g:FB}{f k:FE}{ρ:aK}:FC g f k ρ=(g ρ).bind fun b=>if b=true then m7 f ρ else m7 k ρ:=Eq.trans rfl rfl
theorem EK {g g':PV->PV->Option RV}{a b c:FE}{ρ:aK}:zE g g' a b c ρ=(a ρ).bind fun x=>(b ρ).bind fun y=>(vy (g x.pv y.pv)).bind fun k=>if k=true then (c ρ).bind fun z=>g' y.pv z.pv else some (.fz (.bl false)):=Eq.trans rfl rfl
theorem AY {ρ:aK}:af ρ=some []:=Eq.trans rfl rfl
theorem xH {f:FE}{fs:FA}{ρ:aK}:aa f fs ρ=(f ρ).bind fun r=>(fs ρ).bind fun rs=>some (r::rs):=Eq.trans rfl rfl
theorem lC  : ([]:List RV).mapM RV.fr=some []:=Eq.trans rfl rfl
theorem A5 {fs:FA}{ρ:aK}:gh fs ρ=(fs ρ).bind fun rs=>(rs.mapM RV.fr).bind fun ps=>if ps.length≤100000 then some (.fz (.tup ps)) else none:=Eq.trans rfl rfl
theorem AP {fs:FA}{ρ:aK}:ft fs ρ=(fs ρ).bind fun rs=>(rs.mapM RV.fr).bind fun ps=>if ps.length≤100000 then some (.nw ps) else none:=Eq.trans rfl rfl
theorem ve {i j:Int}:cc (.int i) (.int j)=some (.fz (.int (i+j))):=Eq.trans rfl rfl
theorem sW {ps qs:List PV}:cc (.lst ps) (.lst qs)=if ps.length+qs.length≤100000 then some (.nw (ps++qs)) else none:=Eq.trans rfl rfl
theorem uD {ps qs:List PV}:cc (.tup ps) (.tup qs)=if ps.length+qs.length≤100000 then some (.fz (.tup (ps++qs))) else none:=Eq.trans rfl rfl
theorem uo {i j:Int}:iN (.int i) (.int j)=some (.fz (.int (i - j))):=Eq.trans rfl rfl
theorem sV {i j:Int}:gn (.int i) (.int j)=if (i.natAbs<2 ^ 64)\/(j.natAbs<2 ^ 64) then some (.fz (.int (i * j))) else none:=Eq.trans rfl rfl
theorem ur {ps:List PV}{j:Int}:gn (.lst ps) (.int j)=if j≤1000/\-1000≤j/\ps.length≤100 then some (.nw (List.replicate j.toNat ps).flatten) else none:=Eq.trans rfl rfl
theorem tY {i j:Int}:iF (.int i) (.int j)=if 0<j/\j<1073741824 then some (.fz (.int (i / j))) else none:=Eq.trans rfl rfl
theorem tz {i j:Int}:bO (.int i) (.int j)=if 0<j then some (.fz (.int (i % j))) else none:=Eq.trans rfl rfl
theorem uj {i j:Int}:Cd (.int i) (.int j)=if 0≤j/\j≤1000000/\i.natAbs<2 ^ 64 then some (.fz (.int (i ^ j.toNat))) else none:=Eq.trans rfl rfl
theorem yP {i j:Int}:DN (.int i) (.int j)=some (.fz (.bl (decide (i<j)))):=Eq.trans rfl rfl
theorem ye {i j:Int}:Dv (.int i) (.int j)=some (.fz (.bl (decide (i≤j)))):=Eq.trans rfl rfl
theorem wr {i j:Int}:DA (.int i) (.int j)=some (.fz (.bl (decide (j<i)))):=Eq.trans rfl rfl
theorem wV {i j:Int}:Gx (.int i) (.int j)=some (.fz (.bl (decide (j≤i)))):=Eq.trans rfl rfl
theorem yh {x y:PV}:jR x y=if bL x&&bL y&&decide (lr x≤50) then some (.fz (.bl (iy x y))) else none:=Eq.trans rfl rfl
theorem xn {x y:PV}:oq x y=if bL x&&bL y&&decide (lr x≤50) then some (.fz (.bl (!iy x y))) else none:=Eq.trans rfl rfl
theorem wU {x:PV}{ps:List PV}:Do x (.lst ps)=if bL x&&aW ps&&decide (cJ ps≤50) then some (.fz (.bl (pin x ps))) else none:=Eq.trans rfl rfl
theorem tO {x:PV}{ps:List PV}:ir x (.lst ps)=if bL x&&aW ps&&decide (cJ ps≤50) then some (.fz (.bl (!pin x ps))) else none:=Eq.trans rfl rfl
theorem yl {x:PV}:uq x .non=some (.fz (.bl (fY x))):=Eq.trans rfl rfl
theorem oe {x:PV}:mj x .non=some (.fz (.bl (!fY x))):=Eq.trans rfl rfl
theorem xU {ps:List PV}{i:Int}:cq (.tup ps) (.int i)=(L2.eI ps i).map .fz:=Eq.trans rfl rfl
theorem xG {ps:List PV}{i:Int}:cq (.lst ps) (.int i)=(L2.eI ps i).map .fz:=Eq.trans rfl rfl
theorem xJ {ps:List PV}{i:Int}:cq (.src ps) (.int i)=(L2.eI ps i).map .fz:=Eq.trans rfl rfl
theorem Bt {g:PV->Option Int->Option Int->Option RV}{f:FE}{l h:FO}{ρ:aK}:zS g f l h ρ=(f ρ).bind fun r=>(l ρ).bind fun lo=>(h ρ).bind fun hi=>g r.pv lo hi:=Eq.trans rfl rfl
theorem qK {ps:List PV}{l h:Option Int}:u8 (.tup ps) l h=some (.fz (.tup (jv ps l h))):=Eq.trans rfl rfl
theorem DX {ρ:aK}:qc ρ=some none:=Eq.trans rfl rfl
theorem D6 {f:FE}{ρ:aK}:qh f ρ=(f ρ).bind fun r=>FG r.fr:=Eq.trans rfl rfl
theorem yZ {i:Int}:FG (some (.int i))=some (some i):=Eq.trans rfl rfl
theorem xI {ps:List PV}{l h:Option Int}:DQ (.lst ps) l h=some (.nw (jv ps l h)):=Eq.trans rfl rfl
theorem wH {ps:List PV}{l h:Option Int}:DQ (.src ps) l h=some (.nw (jv ps l h)):=Eq.trans rfl rfl
theorem zb {ps:List PV}{l h:Option Int}:DQ (.tup ps) l h=if HT.sIx ps.length 0 l=0/\HT.sIx ps.length ps.length h=ps.length then none else some (.fz (.tup (jv ps l h))):=Eq.trans rfl rfl
theorem Hc {g:List PV->Option RV}{fs:FA}{ρ:aK}:fB g fs ρ=(fs ρ).bind fun rs=>g (rs.map RV.pv):=Eq.trans rfl rfl
theorem uU {ps:List PV}:iH [.lst ps]=some (.fz (.int ps.length)):=Eq.trans rfl rfl
theorem tN {ps:List PV}:iH [.tup ps]=some (.fz (.int ps.length)):=Eq.trans rfl rfl
theorem tV {ps:List PV}:iH [.src ps]=some (.fz (.int ps.length)):=Eq.trans rfl rfl
theorem uv {i:Int}:yc [.int i]=some (.fz (.int (if i<0 then -i else i))):=Eq.trans rfl rfl
theorem sY {i j:Int}:n6 [.int i,.int j]=some (.fz (.int (if j > i then j else i))):=Eq.trans rfl rfl
theorem ud {i j:Int}:kK [.int i,.int j]=some (.fz (.int (if j<i then j else i))):=Eq.trans rfl rfl
theorem uz {b:Bool}:p8 [.bl b]=some (.fz (.int (if b then 1 else 0))):=Eq.trans rfl rfl
theorem uJ {ps:List PV}:wf [.lst ps]=(DE ps).map fun bs=>.fz (.bl (bs.all id)):=Eq.trans rfl rfl
theorem uu {ps:List PV}:qC [.lst ps]=some (.fz (.tup ps)):=Eq.trans rfl rfl
theorem yJ {lo j:Int}:mi [.rng lo j]=if lo=0/\0≤j/\j≤1000000 then some (.nw (ni 0 j.toNat)) else none:=Eq.trans rfl rfl
theorem zo {j:Int}:se [.int j]=if -(2 ^ 62)≤j/\j<2 ^ 62 then some (.fz (.rng 0 j)) else none:=Eq.trans rfl rfl
theorem yx {F:List PV->Option PR}{fs:FA}{ρ:aK}:aX F fs ρ=(fs ρ).bind fun rs=>lQ F (rs.mapM RV.fr) rs:=Eq.trans rfl rfl
theorem rz {F:List PV->Option PR}{ps:List PV}{rs:List RV}:lQ F (some ps) rs=(F ps).map qb:=Eq.trans rfl rfl
theorem gL {F:List PV->Option PR}{rs:List RV}:lQ F none rs=(F (rs.map RV.pv)).bind fun r=>if G4 r=true then some (qb r) else none:=Eq.trans rfl rfl
theorem xc {p:PV}:qb (.v p)=.fz p:=Eq.trans rfl rfl
theorem wx {p:List PV}:qb (.n p)=.nw p:=Eq.trans rfl rfl
theorem iA {p:List PV}:G4 (.n p)=uQ p:=Eq.trans rfl rfl
theorem Er {f:FE}{ρ:aK}:rM f ρ=(f ρ).bind fun r=>r.fr.bind items:=Eq.trans rfl rfl
theorem nR {ps:List PV}:items (.tup ps)=some ps:=Eq.trans rfl rfl
theorem nM {ps:List PV}:items (.lst ps)=some ps:=Eq.trans rfl rfl
theorem Bu {g:List PV->Option (List PV)}{fs:FA}{ρ:aK}:jC g fs ρ=(fs ρ).bind fun rs=>g (rs.map RV.pv):=Eq.trans rfl rfl
theorem Cc {j:Int}:kf [.int j]=if vk j then some (ni 0 j.toNat) else none:=Eq.trans rfl rfl
theorem yW {i j:Int}:sK [.int i,.int j]=if vk i&&vk j then some (ni i (j - i).toNat) else none:=Eq.trans rfl rfl
theorem xC {ps:List PV}:u7 [.lst ps]=(gD ps).bind fun is=>if is.length=0 then none else some (.fz (.int (nj is))):=Eq.trans rfl rfl
theorem zc {ps:List PV}:Aq [.lst ps]=(gD ps).bind fun is=>some (.fz (.int is.sum)):=Eq.trans rfl rfl
theorem x7 {fs:FA}{ρ:aK}:mv fs ρ=(fs ρ).bind fun rs=>(rs.mapM RV.fr).bind qo:=Eq.trans rfl rfl
theorem qM {ps:List PV}:qo [.lst ps]=some (cV 0 ps):=Eq.trans rfl rfl
theorem rJ {ps:List PV}:qo [.tup ps]=some (cV 0 ps):=Eq.trans rfl rfl
theorem AM {i:Nat}{p:PV}{ρ:aK}:gN i p ρ=some (ρ.set i (some (.val p))):=Eq.trans rfl rfl
theorem zK {ρ:aK}:g0 [] ρ=some ρ:=Eq.trans rfl rfl
theorem zh {t:FT}{ts:vF}{p:PV}{ps:List PV}{ρ:aK}:gC t ts (p::ps) ρ=(t p ρ).bind fun ρ'=>ts ps ρ':=Eq.trans rfl rfl
theorem uw {n:Nat}{ts:vF}{ps:List PV}{ρ:aK}:gw n ts (.tup ps) ρ=if ps.length=n then ts ps ρ else none:=Eq.trans rfl rfl
theorem xY {fm:List (Option Nat)}{it:FI}{t:FT}{c:FB}{f:FE}{ρ:aK}:fy fm it t c f ρ=(it ρ).bind fun its=>if its.length<1000 then (pT t c f (gP fm ρ) its).map .nw else none:=Eq.trans rfl rfl
theorem nW {ρ:aK}:gP [] ρ=[]:=Eq.trans rfl rfl
theorem mt {fm:List (Option Nat)}{ρ:aK}:gP (none::fm) ρ=none::gP fm ρ:=Eq.trans rfl rfl
theorem mG {j:Nat}{fm:List (Option Nat)}{ρ:aK}:gP (some j::fm) ρ=sl ρ j::gP fm ρ:=Eq.trans rfl rfl
theorem pf {s v:Option Sl}{ρ:aK}:List.set (s::ρ) 0 v=v::ρ:=Eq.trans rfl rfl
theorem oU {s v:Option Sl}{i:Nat}{ρ:aK}:List.set (s::ρ) (i+1) v=s::List.set ρ i v:=Eq.trans rfl rfl
theorem xx {p:PV}{n:String}{b:Bool}(hn:n = "int"\/n = "bool"\/n = "str"\/n = "tuple"\/n = "list"\/n = "dict")(h:Hq n p=some b):pV [p,.ty n]=some (.fz (.bl b)):=by
 unfold pV;simp only[hn,if_true,h,Option.map_some]
theorem j4 {i:Int}:pV [(.int i),.ty "int"]=some (.fz (.bl true)):=xx (by decide) rfl
theorem jx {i:Int}:pV [(.int i),.ty "bool"]=some (.fz (.bl false)):=xx (by decide) rfl
theorem iO {i:List PV}:pV [(.tup i),.ty "tuple"]=some (.fz (.bl true)):=xx (by decide) rfl
theorem gS {α β:Type}{a:α}{f:α->Option β}:((some a).bind f)=f a:=Eq.trans rfl rfl
theorem kJ {α β:Type}{f:α->Option β}:((none:Option α).bind f)=none:=Eq.trans rfl rfl
theorem my {α β:Type}{a:α}{f:α->β}:((some a).map f)=some (f a):=Eq.trans rfl rfl
theorem BO {α β:Type}{f:α->β}:((none:Option α).map f)=none:=Eq.trans rfl rfl
theorem lH {α β:Type}{a:α}{l:List α}{f:α->β}:((a::l).map f)=f a::l.map f:=Eq.trans rfl rfl
theorem oA {α β:Type}{f:α->β}:(([]:List α).map f)=[]:=Eq.trans rfl rfl
theorem oI {α:Type}{l:List α}:([]++l)=l:=Eq.trans rfl rfl
theorem C5 {α:Type}{a:α}{l m:List α}:((a::l)++m)=a::(l++m):=Eq.trans rfl rfl
theorem iC {α:Type}{a:α}{l:List α}:((a::l).length)=l.length+1:=Eq.trans rfl rfl
theorem jb {α:Type}:(([]:List α).length)=0:=Eq.trans rfl rfl
theorem wv {α:Type}{a b:α}:((if True then a else b))=a:=Eq.trans rfl rfl
theorem yk {α:Type}{a b:α}:((if False then a else b))=b:=Eq.trans rfl rfl
theorem FM {α:Type}{a b:α}:((if true=true then a else b))=a:=Eq.trans rfl rfl
theorem t4 {α:Type}{a b:α}:((if false=true then a else b))=b:=Eq.trans rfl rfl
theorem oy {α:Type}{a:α}{l:List α}:((a::l).isEmpty)=false:=Eq.trans rfl rfl
theorem oJ {α:Type}:(([]:List α).isEmpty)=true:=Eq.trans rfl rfl
theorem Bb  : (bL .non)=true:=Eq.trans rfl rfl
theorem Dl {b:Bool}:(bL (.bl b))=true:=Eq.trans rfl rfl
theorem kE {b:Int}:(bL (.int b))=true:=Eq.trans rfl rfl
theorem kO {b:Str}:(bL (.str b))=true:=Eq.trans rfl rfl
theorem DJ  : (lr .non)=0:=Eq.trans rfl rfl
theorem Fe {b:Bool}:(lr (.bl b))=0:=Eq.trans rfl rfl
theorem nT {b:Int}:(lr (.int b))=0:=Eq.trans rfl rfl
theorem oo {b:Str}:(lr (.str b))=0:=Eq.trans rfl rfl
theorem El {n:Nat}:(nI n)=PV.int n:=Eq.trans rfl rfl
theorem va  : (fY .non)=true:=Eq.trans rfl rfl
theorem nJ {i:Int}:(fY (.int i))=false:=Eq.trans rfl rfl
theorem DH {i:Bool}:(fY (.bl i))=false:=Eq.trans rfl rfl
theorem oF {i:List PV}:(fY (.tup i))=false:=Eq.trans rfl rfl
theorem DF {i:List PV}:(fY (.lst i))=false:=Eq.trans rfl rfl
theorem DC {i:Str}:(fY (.str i))=false:=Eq.trans rfl rfl
theorem yo {i:Int}:(vk i)=(decide (-4611686018427387904≤i)&&decide (i<4611686018427387904)):=Eq.trans rfl rfl
theorem oB {ps:List PV}:bL (.tup ps)=aW ps:=by rw[bL]
theorem nG {ps:List PV}:bL (.lst ps)=aW ps:=by rw[bL]
theorem lN:aW []=true:=by rw[aW]
theorem mw {p:PV}{ps:List PV}:aW (p::ps)=(bL p&&aW ps):=by rw[aW]
theorem tE {ps:List PV}:lr (.tup ps)=cJ ps+1:=by rw[lr]
theorem uA {ps:List PV}:lr (.lst ps)=cJ ps+1:=by rw[lr]
theorem rf:cJ []=0:=by rw[cJ]
theorem qS {p:PV}{ps:List PV}:cJ (p::ps)=max (lr p) (cJ ps):=by rw[cJ]
end Dp
end
local macro_rules | `(tactic| simp! [$xs,*] $[$l:location]?) => `(tactic| simp only [$xs,*, Dp.wT, Dp.kH, Dp.tq, Dp.ja, Dp.tQ, Dp.tu, Dp.lm, Dp.y3, Dp.jd, Dp.oz, Dp.nO, Dp.yM, Dp.D0, Dp.wR, Dp.nX, Dp.Bz, Dp.qZ, Dp.pW, Dp.rN, Dp.mz, Dp.qV, Dp.E2, Dp.xo, Dp.wk, Dp.Bo, Dp.tZ, Dp.Bv, Dp.ry, Dp.BC, Dp.uN, Dp.y0, Dp.Br, Dp.t5, Dp.AV, Dp.u9, Dp.Ea, Dp.bn, Dp.xS, Dp.uf, Dp.ay, Dp.yt, Dp.AS, Dp.tM, Dp.vd, Dp.A3, Dp.ul, Dp.uF, Dp.qp, Dp.rH, Dp.rm, Dp.HA, Dp.Bf, Dp.Bj, Dp.qu, Dp.ro, Dp.Hd, Dp.EW, Dp.ui, Dp.uS, Dp.uL, Dp.tj, Dp.ue, Dp.tC, Dp.Hs, Dp.A9, Dp.xV, Dp.xO, Dp.AZ, Dp.Bd, Dp.yy, Dp.By, Dp.xf, Dp.AR, Dp.ug, Dp.AT, Dp.EK, Dp.AY, Dp.xH, Dp.lC, Dp.A5, Dp.AP, Dp.ve, Dp.sW, Dp.uD, Dp.uo, Dp.sV, Dp.ur, Dp.tY, Dp.tz, Dp.uj, Dp.yP, Dp.ye, Dp.wr, Dp.wV, Dp.yh, Dp.xn, Dp.wU, Dp.tO, Dp.yl, Dp.oe, Dp.xU, Dp.xG, Dp.xJ, Dp.Bt, Dp.DX, Dp.D6, Dp.yZ, Dp.xI, Dp.wH, Dp.zb, Dp.Hc, Dp.uU, Dp.tN, Dp.tV, Dp.uv, Dp.sY, Dp.ud, Dp.uz, Dp.uJ, Dp.uu, Dp.yx, Dp.rz, Dp.gL, Dp.xc, Dp.wx, Dp.iA, Dp.Er, Dp.nR, Dp.nM, Dp.Bu, Dp.xC, Dp.zc, Dp.x7, Dp.qM, Dp.rJ, Dp.AM, Dp.zK, Dp.zh, Dp.uw, Dp.xY, Dp.nW, Dp.mt, Dp.mG, Dp.pf, Dp.oU, Dp.j4, Dp.jx, Dp.iO, Dp.gS, Dp.kJ, Dp.my, Dp.lH, Dp.oA, Dp.oI, Dp.iC, Dp.jb, Dp.wv, Dp.yk, Dp.t4, Dp.oy, Dp.oJ, Dp.kE, Dp.kO, Dp.nT, Dp.oo, Dp.El, Dp.va, Dp.nJ, Dp.oF, Dp.oB, Dp.nG, Dp.lN, Dp.mw, Dp.tE, Dp.uA, Dp.rf, Dp.qS, Dp.Hv, Dp.Ho, Dp.uc, Dp.jT, Dp.u4, Dp.u6, Dp.uk, Dp.nQ, Dp.lI, and_true, true_and, false_and, Nat.zero_add, Int.toNat_natCast, Bool.not_true, Bool.not_false, Bool.and_true, Nat.zero_le, decide_true, decide_false, Dp.b9, Dp.gf, Dp.ic, Nat.max_self, Nat.zero_max, Nat.max_zero, Nat.reduceAdd, Nat.reduceSub, Nat.reduceLeDiff, Nat.reduceLT, Nat.reduceEqDiff, Int.reduceLT, Int.reduceLE, Int.reduceAdd, Int.reduceSub, Int.reduceMul, Int.reduceMod, Int.reduceDiv, Int.reduceNeg, Int.reduceToNat, Int.reducePow, Int.reduceEq] $[$l:location]?)
local macro_rules | `(tactic| simp_all! [$xs,*]) => `(tactic| simp only [$xs,*, Dp.wT, Dp.kH, Dp.tq, Dp.ja, Dp.tQ, Dp.tu, Dp.lm, Dp.y3, Dp.jd, Dp.oz, Dp.nO, Dp.yM, Dp.D0, Dp.wR, Dp.nX, Dp.Bz, Dp.qZ, Dp.pW, Dp.rN, Dp.mz, Dp.qV, Dp.E2, Dp.xo, Dp.wk, Dp.Bo, Dp.tZ, Dp.Bv, Dp.ry, Dp.BC, Dp.uN, Dp.y0, Dp.Br, Dp.t5, Dp.AV, Dp.u9, Dp.Ea, Dp.bn, Dp.xS, Dp.uf, Dp.ay, Dp.yt, Dp.AS, Dp.tM, Dp.vd, Dp.A3, Dp.ul, Dp.uF, Dp.qp, Dp.rH, Dp.rm, Dp.HA, Dp.Bf, Dp.Bj, Dp.qu, Dp.ro, Dp.Hd, Dp.EW, Dp.ui, Dp.uS, Dp.uL, Dp.tj, Dp.ue, Dp.tC, Dp.Hs, Dp.A9, Dp.xV, Dp.xO, Dp.AZ, Dp.Bd, Dp.yy, Dp.By, Dp.xf, Dp.AR, Dp.ug, Dp.AT, Dp.EK, Dp.AY, Dp.xH, Dp.lC, Dp.A5, Dp.AP, Dp.ve, Dp.sW, Dp.uD, Dp.uo, Dp.sV, Dp.ur, Dp.tY, Dp.tz, Dp.uj, Dp.yP, Dp.ye, Dp.wr, Dp.wV, Dp.yh, Dp.xn, Dp.wU, Dp.tO, Dp.yl, Dp.oe, Dp.xU, Dp.xG, Dp.xJ, Dp.Bt, Dp.DX, Dp.D6, Dp.yZ, Dp.xI, Dp.wH, Dp.zb, Dp.Hc, Dp.uU, Dp.tN, Dp.tV, Dp.uv, Dp.sY, Dp.ud, Dp.uz, Dp.uJ, Dp.uu, Dp.yx, Dp.rz, Dp.gL, Dp.xc, Dp.wx, Dp.iA, Dp.Er, Dp.nR, Dp.nM, Dp.Bu, Dp.xC, Dp.zc, Dp.x7, Dp.qM, Dp.rJ, Dp.AM, Dp.zK, Dp.zh, Dp.uw, Dp.xY, Dp.nW, Dp.mt, Dp.mG, Dp.pf, Dp.oU, Dp.j4, Dp.jx, Dp.iO, Dp.gS, Dp.kJ, Dp.my, Dp.lH, Dp.oA, Dp.oI, Dp.iC, Dp.jb, Dp.wv, Dp.yk, Dp.t4, Dp.oy, Dp.oJ, Dp.kE, Dp.kO, Dp.nT, Dp.oo, Dp.El, Dp.va, Dp.nJ, Dp.oF, Dp.oB, Dp.nG, Dp.lN, Dp.mw, Dp.tE, Dp.uA, Dp.rf, Dp.qS, Dp.Hv, Dp.Ho, Dp.uc, Dp.jT, Dp.u4, Dp.u6, Dp.uk, Dp.nQ, Dp.lI, and_true, true_and, false_and, Nat.zero_add, Int.toNat_natCast, Bool.not_true, Bool.not_false, Bool.and_true, Nat.zero_le, decide_true, decide_false, Dp.b9, Dp.gf, Dp.ic, Nat.max_self, Nat.zero_max, Nat.max_zero])
section
namespace Dp
open PySem PySem.Spec L2 PyProof.Rows
section
variable {X:Cx}{i j:Nat}{x y:Str}{pos:Pos}
theorem Z.ok.track {z:Z X}{s:Shared}(hz:z.ok s){a:Addr}(fr:iY z.bad z.H a)(h00:X.s₀.heap.get? a=none)(hp:∀p∈X.pn++z.pins,p.1≠a)(nt:∃ob,s.heap.get? a=some ob/\ob.cls≠.type "tuple")
  (sk:∀(j:Nat) t v,z.ρ[j]?=some (some t)->z.σ[j]?=some (some v)->SlOk (bV X z.bad (eV z.H a bz)) z.H s.heap t v):(z.wi z.σ (eV z.H a bz) z.ρ).ok s:=by
 obtain⟨ob,ho,hcl⟩:=nt
 have hnb:=fr.2
 have hne:∀{b},z.H b=some bz->b≠a:=fun {b} hb y=>by subst y;rw[fr.1] at hb;cases hb
 refine⟨Inv.track hz.I fr.1 ho h00 (fun q=>hnb (q▸hz.loc)) (fun y c e q=>hnb (q▸hz.cel y c e)) hp,hz.len,fun j t q=>?_,hz.dj,hz.nb,fun b o q=>?_,hz.oh0,hz.loc,hz.cel,hz.fs,hz.ex,hz.there,hz.bs,fun b o q=>?_,hz.anc⟩
 ·obtain⟨v,e1,r,_⟩:=hz.slk j t q
  refine⟨v,e1,r,?_⟩
  have d:=sk j t v q e1
  cases t with
  |val p=>exact d
  |own ps=>obtain⟨b,rfl,hb,l⟩:=d;exact⟨b,rfl,(bF (hne hb)).trans hb,l⟩
  |dic ks ps=>obtain⟨b,rfl,hb,l⟩:=d;exact⟨b,rfl,(bF (hne hb)).trans hb,l⟩
 ·by_cases hba:b=a
  ·have q:eV z.H a bz b=some o:=q
   rw[hba,cz] at q;cases q;rfl
  ·have q:eV z.H a bz b=some o:=q
   rw[bF hba] at q;exact hz.oh b o q
 ·by_cases hba:b=a
  ·rw[hba];exact⟨hnb,ob,ho,hcl⟩
  ·have q:eV z.H a bz b=some o:=q
   rw[bF hba] at q;exact hz.ot b o q
theorem wX {z:Z X}{s1:Shared}(hz:z.ok s1){i:Nat}{x:Str}(nm:Nm X i x){t:Sl}(ht:cI t=true){a:Addr}(hH:z.H a=some bz)(no:∀j,¬ci z.σ z.ρ j a)(h00:X.s₀.heap.get? a=none\/X.H₀ a≠none)
  (d:SlOk z.cn z.H s1.heap t (.ref a)) {E:Value->Shared->Prop} :
  W X (storeName X.env x (.ref a)) (fun _ s'=>(z.wi (z.σ.set i (some (.ref a))) z.H (z.ρ.set i (some t))).ok s'/\Ext z.bad s1.heap s'.heap) E s1:=by
 refine ij hz.I nm.nd nm.ix nm.loc (v:=.ref a) rfl (fun s' I' ⟨b,sb,hb⟩=>?_) nm.fn
 have e:Ext z.bad s1.heap s'.heap:=iK (z:=z) hz I' sb hb
 have hil:i<z.σ.length:=by rw[hz.I.len];exact (List.getElem?_eq_some_iff.mp nm.ix).1
 have hil2:i<z.ρ.length:=by rw[←hz.len];exact hil
 have oset:∀{j b},ci (z.σ.set i (some (.ref a))) (z.ρ.set i (some t)) j b->(j=i/\b=a)\/(j≠i/\ci z.σ z.ρ j b):=fun {j b} o=>by
  obtain⟨⟨t',e1,ot⟩,q⟩:=o
  by_cases hj:i=j
  ·subst hj
   rw[List.getElem?_set_self hil] at q;cases q
   exact .inl ⟨rfl,rfl⟩
  ·rw[List.getElem?_set_ne hj] at e1 q
   exact .inr ⟨Ne.symm hj,⟨t',e1,ot⟩,q⟩
 refine⟨⟨I',by simp[hz.len],fun j t' q=>?_,fun j k b o1 o2=>?_,fun j b o=>?_,hz.oh,hz.oh0,hz.loc,hz.cel,hz.fs,hz.ex,fun b q=>let ⟨o,r⟩:=hz.there b q;e.th b o r,hz.bs,fun b o q=>?_,fun hf b hb=>(List.getElem?_set_ne (nm.an hf ⟨b,hb⟩)).trans (hz.anc hf b hb)⟩,e⟩
 ·by_cases hj:i=j
  ·subst hj
   have q:(z.ρ.set i (some t))[i]?=some (some t'):=q
   rw[List.getElem?_set_self hil2] at q
   cases q
   exact⟨.ref a,List.getElem?_set_self hil,⟨.ref a,rfl⟩,SlOk.mono (c:=z.cn) (c':=z.cn) e.kpD (fun b o hb w=>e.kp b o (hz.ot b _ hb).1 w) d⟩
  ·have q:(z.ρ.set i (some t))[j]?=some (some t'):=q
   rw[List.getElem?_set_ne hj] at q
   obtain⟨w,e1,r,d⟩:=hz.slk j t' q
   exact⟨w,by rw[show (z.wi (z.σ.set i (some (.ref a))) z.H (z.ρ.set i (some t))).σ=z.σ.set i (some (.ref a)) from rfl,List.getElem?_set_ne hj];exact e1,r,d.step hz e q e1⟩
 ·rcases oset o1 with ⟨e1,e2⟩|⟨e1,e2⟩<;>rcases oset o2 with ⟨f1,f2⟩|⟨f1,f2⟩
  ·rw[e1,f1]
  ·subst e2;exact absurd f2 (no k)
  ·subst f2;exact absurd e2 (no j)
  ·exact hz.dj j k b e2 f2
 ·rcases oset o with ⟨e1,e2⟩|⟨e1,e2⟩
  ·subst e2;exact⟨(hz.ot b _ hH).1,h00⟩
  ·exact hz.nb j b e2
 ·obtain⟨r0,ob',r1,r2⟩:=hz.ot b o q
  exact⟨r0,ob',e.kp b ob' r0 r1,r2⟩
theorem Z.ok.no_own {z:Z X}{s:Shared}(hz:z.ok s){a:Addr}(n:s.heap.get? a=none)(j:Nat):¬ci z.σ z.ρ j a:=fun o=>by
 obtain⟨⟨t',e1,ot⟩,q⟩:=o
 obtain⟨v,e2,_,d2⟩:=hz.slk j t' e1
 rw[q] at e2;cases e2
 have:z.H a=some bz:=by
  cases t' with
  |val p=>cases ot
  |own ps=>obtain⟨b,e3,h,_⟩:=d2;cases e3;exact h
  |dic ks ps=>obtain⟨b,e3,h,_⟩:=d2;cases e3;exact h
 obtain⟨ob,r⟩:=hz.stands this
 rw[n] at r;cases r
noncomputable def yY:RV->Option Sl
 |.fz p=>some (.val p)
 |.nw ps=>some (.own ps)
 |.ln _=>none
noncomputable def tP (o:Option Sl)(o':Option Sl)(i j:Nat)(ρ:aK):Out:=match o,o' with
 |some s,some t=>.nx ((ρ.set i (some s)).set j (some t))
 |_,_=>.bad
noncomputable abbrev FX:=aK->Option Sl
noncomputable def tU (i j:Nat)(g1 g2:FX):FS:=fun ρ=>tP (g1 ρ) (g2 ρ) i j ρ
noncomputable def xE (f:FE):FX:=fun ρ=>(f ρ).bind yY
noncomputable def qd (i:Nat)(g:FX):FS:=fun ρ=>match g ρ with
 |some t=>.nx (ρ.set i (some t))
 |none=>.bad
structure Got (z z':Z X)(s s':Shared)(t:Sl)(u:Value):Prop where
 bad:z'.bad=z.bad
 pins:z'.pins=z.pins
 σ:z'.σ=z.σ
 ρ:z'.ρ=z.ρ
 ok:z'.ok s'
 stp:Stp z.bad z.H z'.H s.heap s'.heap
 old:∀b o,z.H b=some o->z'.H b=some o
 kept:∀b o,¬z.bad b->s.heap.get? b=some o->s'.heap.get? b=some o
 sl:(cI t=false/\(∃p,t=.val p/\D z'.cn s'.heap p u))\/(cI t=true/\∃a,u=.ref a/\s.heap.get? a=none/\z'.H a=some bz/\X.s₀.heap.get? a=none/\SlOk z'.cn z'.H s'.heap t (.ref a))
noncomputable def NX (X:Cx)(e:Expr)(g:FX):Prop:=∀(z:Z X) (s:Shared) (t:Sl) (E:Value->Shared->Prop),z.ok s->g z.ρ=some t->W X (eval e X.env) (fun u s'=>∃z',Got z z' s s' t u) E s
theorem tT {z:Z X}{s s':Shared}{t:Sl}{a:Addr}(hz:z.ok s)(g:z.go s s')(ht:cI t=true)(n:s.heap.get? a=none)(nt:∃ob,s'.heap.get? a=some ob/\ob.cls≠.type "tuple")(d:SlOk (bV X z.bad (eV z.H a bz)) (eV z.H a bz) s'.heap t (.ref a)):∃z',Got z z' s s' t (.ref a):=by
 have hn:∀b o,z.H b=some o->b≠a:=fun b o h y=>by subst y;obtain⟨ob,r⟩:=hz.stands h;rw[n] at r;cases r
 exact⟨z.wi z.σ (eV z.H a bz) z.ρ,rfl,rfl,rfl,rfl,g.1.track (hz.free n) (gJ hz n) (fun p hp q=>by have:=(hz.I.pin p hp).1;rw[q,n] at this;cases this) nt (hz.sk n g.2 fun b=>.inl),Stp.new g.2 n,fun b o h=>(bF (hn b o h)).trans h,fun b o nb=>g.2.kp b o nb,.inr ⟨ht,a,rfl,n,cz,gJ hz n,d⟩⟩
theorem HG {z:Z X}{s s':Shared}{r:RV}{t:Sl}{u:Value}(hz:z.ok s)(p:Z.post z s r u s')(e:yY r=some t):∃z',Got z z' s s' t u:=by
 cases r with
 |ln p=>cases e
 |fz p'=>cases e;exact⟨z,rfl,rfl,rfl,rfl,p.1.1,p.1.2.stp,fun _ _ h=>h,fun b o n=>p.1.2.kp b o n,.inl ⟨rfl,p',rfl,p.2⟩⟩
 |nw ps=>
  cases e
  obtain⟨g,a,rfl,n,o,l⟩:=p
  exact tT hz g rfl n (jY l) ⟨a,rfl,cz,l⟩
theorem Fu {e:Expr}{f:FE}(h:NE X e f):NX X e (xE f):=fun z s t E hz q=>by
 obtain⟨r,er,q⟩:=Option.bind_eq_some_iff.mp q
 exact bE (h z s r E hz er) fun u s1 p=>HG hz p q
theorem SlOk.old {c:Cn}{H H':Hp}{h:Heap}(q:∀b o,H b=some o->H' b=some o):∀{t:Sl} {v:V},SlOk c H h t v->SlOk c H' h t v
 |.val _,_,d=>d
 |.own _,_,⟨a,e,o,d⟩=>⟨a,e,q a _ o,d⟩
 |.dic _ _,_,⟨a,e,o,d⟩=>⟨a,e,q a _ o,d⟩
noncomputable def Z.ts (z:Z X)(s:Shared)(i:Nat)(t:Sl)(s':Shared):Prop:=∃v,(cI t=false\/∃a,v=V.ref a/\z.H a=some bz)/\(z.wi (z.σ.set i (some v)) z.H (z.ρ.set i (some t))).ok s'/\Ext z.bad s.heap s'.heap
theorem vN {z:Z X}{s:Shared}(hz:z.ok s){i:Nat}{x:Str}(nm:Nm X i x){p:PV}{u:Value}(d:D z.cn s.heap p u){E:Value->Shared->Prop} :
  W X (storeName X.env x u) (fun _ s'=>z.ts s i (.val p) s') E s:=by
 obtain⟨v,ru,rv⟩:=d.v
 refine ij hz.I nm.nd nm.ix nm.loc ru (fun s' I' ⟨a,sb,ha⟩=>?_) nm.fn
 have e:=iK hz I' sb ha
 have hi:i<z.σ.length:=by rw[hz.I.len];exact (List.getElem?_eq_some_iff.mp nm.ix).1
 have hi2:i<z.ρ.length:=by rw[←hz.len];exact hi
 refine⟨v,.inl rfl,⟨I',by simp[hz.len],fun j t q=>?_,fun j k a o1 o2=>hz.dj j k a (je o1) (je o2),fun j a o=>hz.nb j a (je o),hz.oh,hz.oh0,hz.loc,hz.cel,hz.fs,hz.ex,fun b q=>let ⟨o,r⟩:=hz.there b q;e.th b o r,hz.bs,fun a o q=>⟨(hz.ot a o q).1,let ⟨ob,r1,r2⟩:=(hz.ot a o q).2;⟨ob,e.kp a ob (hz.ot a o q).1 r1,r2⟩⟩,fun hf a ha=>(List.getElem?_set_ne (nm.an hf ⟨a,ha⟩)).trans (hz.anc hf a ha)⟩,e⟩
 by_cases hj:i=j
 ·subst hj
  have q:(z.ρ.set i (some (.val p)))[i]?=some (some t):=q
  rw[List.getElem?_set_self hi2] at q
  cases q
  exact⟨v,List.getElem?_set_self hi,⟨u,ru⟩,fun u' r=>(rv u' r).m e.kpD⟩
 ·have q:(z.ρ.set i (some (.val p)))[j]?=some (some t):=q
  rw[List.getElem?_set_ne hj] at q
  obtain⟨w,e1,r,d⟩:=hz.slk j t q
  exact⟨w,by rw[show (z.wi (z.σ.set i (some v)) z.H (z.ρ.set i (some (.val p)))).σ=z.σ.set i (some v) from rfl,List.getElem?_set_ne hj];exact e1,r,d.step hz e q e1⟩
noncomputable def Has (z:Z X)(h:Heap)(t:Sl)(u:Value):Prop:=(cI t=false/\(∃p,t=.val p/\D z.cn h p u))\/(cI t=true/\∃a,u=.ref a/\(∀j,¬ci z.σ z.ρ j a)/\z.H a=some bz/\X.s₀.heap.get? a=none/\SlOk z.cn z.H h t (.ref a))
theorem kC {z:Z X}{s:Shared}{i:Nat}{x:Str}{t:Sl}{u:Value}(hz:z.ok s)(nm:Nm X i x)(h:Has z s.heap t u){E:Value->Shared->Prop} :
  W X (storeName X.env x u) (fun _ s'=>z.ts s i t s'/\∀a,u=.ref a->cI t=true->∃v,v=V.ref a/\(z.wi (z.σ.set i (some v)) z.H (z.ρ.set i (some t))).ok s'/\Ext z.bad s.heap s'.heap) E s:=by
 rcases h with ⟨ho,p,rfl,d⟩|⟨ho,a,rfl,no,hH,h00,d⟩
 ·exact bE (vN hz nm d) fun _ s' q=>⟨q,fun _ _ h=>(by cases h)⟩
 ·exact bE (wX hz nm ho hH no (.inl h00) d) fun _ s' ⟨ok,e⟩=>⟨⟨.ref a,.inr ⟨a,rfl,hH⟩,ok,e⟩,fun b hb _=>by cases hb;exact⟨_,rfl,ok,e⟩⟩
theorem Has.ext {z:Z X}{s:Shared}{h':Heap}{t:Sl}{u:Value}(hz:z.ok s)(e:Ext z.bad s.heap h'):Has z s.heap t u->Has z h' t u
 |.inl ⟨ho,p,e1,d⟩=>.inl ⟨ho,p,e1,d.m e.kpD⟩
 |.inr ⟨ho,a,e1,no,hH,h00,d⟩=>.inr ⟨ho,a,e1,no,hH,h00,SlOk.mono (c:=z.cn) (c':=z.cn) e.kpD (fun b o hb w=>e.kp b o (hz.ot b _ hb).1 w) d⟩
theorem Has.over {z:Z X}{s s':Shared}{i:Nat}{t t':Sl}{u u':Value}{v:V}(hz:z.ok s)(h:Has z s.heap t u)(hv:cI t'=true->∃a,v=.ref a/\u≠.ref a)(e:Ext z.bad s.heap s'.heap):Has (z.wi (z.σ.set i (some v)) z.H (z.ρ.set i (some t'))) s'.heap t u:=by
 rcases h.ext hz e with h|⟨ho,a,rfl,no,r⟩
 ·exact .inl h
 ·refine .inr ⟨ho,a,rfl,fun j o=>?_,r⟩
  obtain⟨⟨t2,e1,ot⟩,q⟩:=o
  have e1:(z.ρ.set i (some t'))[j]?=some (some t2):=e1
  have q:(z.σ.set i (some v))[j]?=some (some (.ref a)):=q
  by_cases hj:i=j
  ·subst hj
   rw[List.getElem?_set] at e1 q
   simp only[if_true] at e1 q
   split at e1
   ·cases e1
    split at q
    ·cases q
     obtain⟨b,e3,e4⟩:=hv ot
     cases e3;exact e4 rfl
    ·cases q
   ·cases e1
  ·rw[List.getElem?_set_ne hj] at e1 q
   exact no j ⟨⟨t2,e1,ot⟩,q⟩
theorem B7 {a b:Expr}{f1 f2:FX}{px py pt:Pos}{kt k2 pt2}(hc:X.calm=true)(n1:Nm X i x)(n2:Nm X j y)(hij:i≠j)(ha:NX X a f1)(hb:NX X b f2)(hs2:starEach [a,b] X.env=[(false,eval a X.env),(false,eval b X.env)])
  (hw:swappedStores [.Tuple [.Name x px,.Name y py] kt pt] (.Tuple [a,b] k2 pt2) X.env=pure (some [x,y]))
  (hs:swapsWithSole [.Tuple [.Name x px,.Name y py] kt pt] (.Tuple [a,b] k2 pt2) pos.line X.env=pure false) :
  NS X (.Assign [.Tuple [.Name x px,.Name y py] kt pt] (.Tuple [a,b] k2 pt2) pos) (tU i j f1 f2):=fun z s E hz hb0=>by
 unfold tU tP at hb0 ⊢
 split at hb0
 ·next t1 t2 e1 e2=>
  rw[exec_Assign_arm]
  refine wpAny_bind (wpAny_standAt ?_)
  rw[hs]
  refine wpAny_bind (wpAny_pure ?_)
  rw[if_neg (by decide)]
  refine wpAny_bind (Tuple_ ?_)
  rw[hs2]
  show W X (spliced ((false,eval a X.env)::(false,eval b X.env)::[])) _ _ s
  refine Calls.spliced_cons (bE (ha z s t1 E hz e1) fun u1 s1 p1=>?_)
  obtain⟨⟨bad1,pins1,σ1,H1,ρ1⟩,G1⟩:=p1
  obtain⟨rfl,rfl,rfl,rfl,ok1,st1,old1,kp1,g1⟩:=G1
  refine Calls.spliced_cons (bE (hb ⟨z.bad,z.pins,z.σ,H1,z.ρ⟩ s1 t2 E ok1 e2) fun u2 s2 p2=>Calls.spliced_nil ?_)
  obtain⟨⟨bad2,pins2,σ2,H2,ρ2⟩,G2⟩:=p2
  obtain⟨q1,q2,q3,q4,ok2,st2,old2,kp2,g2⟩:=G2
  cases (show bad2=z.bad from q1)
  cases (show pins2=z.pins from q2)
  cases (show σ2=z.σ from q3)
  cases (show ρ2=z.ρ from q4)
  have A1:Has (X:=X) ⟨z.bad,z.pins,z.σ,H2,z.ρ⟩ s2.heap t1 u1:=by
   rcases g1 with ⟨ho,p,rfl,d⟩|⟨ho,a',rfl,n,hH,h00,d⟩
   ·exact .inl ⟨ho,p,rfl,d.m st2.kpD⟩
   ·exact .inr ⟨ho,a',rfl,hz.no_own n,old2 _ _ hH,h00,SlOk.old old2 (SlOk.mono (c:=bV X z.bad H1) (c':=bV X z.bad H2) st2.kpD (fun b o hb w=>kp2 b o (ok1.ot b _ hb).1 w) d)⟩
  have A2:Has (X:=X) ⟨z.bad,z.pins,z.σ,H2,z.ρ⟩ s2.heap t2 u2/\(cI t2=true->∃b,u2=.ref b/\u1≠.ref b\/cI t1=false):=by
   rcases g2 with ⟨ho,p,rfl,d⟩|⟨ho,a',rfl,n,hH,h00,d⟩
   ·exact⟨.inl ⟨ho,p,rfl,d⟩,fun h=>by cases h⟩
   ·refine⟨.inr ⟨ho,a',rfl,fun k=>ok1.no_own (z:=⟨z.bad,z.pins,z.σ,H1,z.ρ⟩) n k,hH,h00,d⟩,fun _=>⟨a',?_⟩⟩
    rcases g1 with ⟨ho,_⟩|⟨ho,a1,rfl,n1,hH1,_⟩
    ·exact .inr ho
    ·refine .inl ⟨rfl,fun e=>?_⟩
     cases e
     obtain⟨ob,r⟩:=ok1.stands hH1
     rw[n] at r;cases r
  refine wpAny_newObj_type ?_ (by show 2≤sizeLine;decide)
  have g3:=ok2.push { cls:=.type "tuple",data:=.seq [u1,u2].toArray } s2.toks
  rw[hw]
  refine wpAny_bind (wpAny_pure ?_)
  show W X (do rule "assign.swapped-stores";let items ←unpackItems (.ref s2.heap.objs.size) 2 none;assignInOrder [fun v=>bindName X.env y v,fun v=>bindName X.env x v] items.reverse;pure Flow.next) _ _ _
  refine wpAny_bind (wpAny_rule (wpAny_bind (unpackItems_tuple (items:=#[u1,u2]) (hz.I.ok.hd hc) (IsTup.new s2.heap _) fun h' hx'=>?_)))
  have g4:(Z.mk (X:=X) z.bad z.pins z.σ H2 z.ρ).go _ { s2 with heap:=h' }:=g3.1.kept (t:=s2.toks) fun b o e=>hx' b o (Nat.ne_of_lt (Heap.lt_size e)) e
  have ge:=g3.trans g4
  have B1:=A1.ext ok2 ge.2
  have B2:=A2.1.ext ok2 ge.2
  show wpAny _ _ (assignInOrder [fun v=>bindName X.env y v,fun v=>bindName X.env x v] [u2,u1] >>= fun _=>pure Flow.next) _ _ _
  refine wpAny_bind (assignInOrder_cons (wpAny_bindName (bE (kC ge.1 n2 B2) fun _ s3 ⟨w,ww⟩=>?_)))
  obtain⟨v,ov,ok3,x3⟩:∃v,(cI t2=true->cI t1=true->∃a,v=V.ref a/\u1≠.ref a)/\(Z.mk (X:=X) z.bad z.pins (z.σ.set j (some v)) H2 (z.ρ.set j (some t2))).ok s3/\Ext z.bad h' s3.heap:=by
   cases ho:cI t2 with
   |false=>obtain⟨v,_,r⟩:=w;exact⟨v,(fun h=>by cases h),r⟩
   |true=>
    obtain⟨b,q⟩:=A2.2 ho
    rcases q with ⟨rfl,q⟩|q
    ·obtain⟨v,rfl,r⟩:=ww b rfl ho
     exact⟨_,fun _ _=>⟨b,rfl,q⟩,r⟩
    ·obtain⟨v,_,r⟩:=w;exact⟨v,(fun _ h=>by rw[q] at h;cases h),r⟩
  have C1:Has (X:=X) ⟨z.bad,z.pins,z.σ.set j (some v),H2,z.ρ.set j (some t2)⟩ s3.heap t1 u1:=by
   cases ho:cI t1 with
   |false=>
    rcases B1.ext ge.1 x3 with h|⟨h,_⟩
    ·exact .inl h
    ·rw[ho] at h;cases h
   |true=>exact Has.over (u':=u2) ge.1 B1 (fun h=>ov h ho) x3
  refine assignInOrder_cons (wpAny_bindName (bE (kC ok3 n1 C1) fun _ s4 ⟨⟨v1,_,ok4,x4⟩,_⟩=>assignInOrder_nil (wpAny_pure ?_)))
  rw[List.set_comm (some t1) (some t2) hij]
  exact⟨rfl,_,H2,ok4,(st1.trans st2).trans (ge.2.trans (x3.trans x4)).stp⟩
 ·exact absurd rfl hb0
theorem B6 {e:Expr}{g:FX}{p':Pos}(n:Nm X i x)(h:NX X e g)(hs:swapsWith e (some (.Name x p')) pos.line X.env=pure false):NS X (.Assign [.Name x p'] e pos) (qd i g):=fun z s E hz hb=>by
 unfold qd at hb ⊢
 split at hb
 ·next t et=>
  refine wpAny_Assign_Name (bE (h z s t E hz et) fun u s1 ⟨⟨bad1,pins1,σ1,H1,ρ1⟩,G1⟩=>?_) hs
  obtain⟨q1,q2,q3,q4,ok1,st1,old1,kp1,g1⟩:=G1
  cases (show bad1=z.bad from q1)
  cases (show pins1=z.pins from q2)
  cases (show σ1=z.σ from q3)
  cases (show ρ1=z.ρ from q4)
  have A1:Has (X:=X) ⟨z.bad,z.pins,z.σ,H1,z.ρ⟩ s1.heap t u:=by
   rcases g1 with h|⟨ho,a',rfl,n,r⟩
   ·exact .inl h
   ·exact .inr ⟨ho,a',rfl,hz.no_own n,r⟩
  exact bE (kC ok1 n A1) fun _ s2 ⟨⟨v,_,ok2,x2⟩,_⟩=>⟨rfl,_,H1,ok2,st1.trans x2.stp⟩
 ·exact absurd rfl hb
end
end Dp
end
section
namespace Dp
open PySem PySem.Spec L2 PyProof.Rows
noncomputable abbrev Gr:=e9×List PV
noncomputable def Fc (g:List Gr)(k:e9)(v:PV):List Gr:=
 if g.any (fun t=>decide (t.1=k)) then g.map (fun t=>if t.1=k then (t.1,t.2++[v]) else t) else g++[(k,[v])]
section
variable {X:Cx}{d i:Nat}{x y:Str}{pos:Pos}
theorem Z.ok.mutf {z:Z X}{s:Shared}(hz:z.ok s){a:Addr}(hH:z.H a=some bz)(no:∀j,¬ci z.σ z.ρ j a){h':Heap}{tk:Nat}(k:∀b u,b≠a->s.heap.get? b=some u->h'.get? b=some u)(nt:∃ob,h'.get? a=some ob/\ob.cls≠.type "tuple") :
  z.ok { s with heap:=h',toks:=tk }/\Stp z.bad z.H z.H s.heap h'/\Kp z.cn z.cn s.heap h':=by
 obtain⟨ob,hob,hcl⟩:=nt
 have I':Inv X z.pins z.σ z.H { s with heap:=h',toks:=tk }:=by
  have:=hz.I.write (x:=a) (e:=a) (o:=bz) (h':=h') (t':=tk) (by rw[hH];exact trivial) (.inl rfl) k ⟨ob,hob⟩ ⟨trivial,⟨ob,hob⟩,fun _ _ _ _=>trivial⟩
  rwa [mx hH] at this
 have kp:Kp z.cn z.cn s.heap h':=⟨rfl,rfl,rfl,fun b u q e=>⟨q,k b u (fun y=>by have q1:z.H b=none:=q.1;rw[y,hH] at q1;cases q1) e⟩⟩
 have th:∀b u,s.heap.get? b=some u->∃u',h'.get? b=some u':=fun b u e=>by
  by_cases hb:b=a
  ·rw[hb];exact⟨ob,hob⟩
  ·exact⟨u,k b u hb e⟩
 refine⟨⟨I',hz.len,fun j t q=>?_,hz.dj,hz.nb,hz.oh,hz.oh0,hz.loc,hz.cel,hz.fs,hz.ex,fun b q=>let ⟨u,r⟩:=hz.there b q;th b u r,hz.bs,fun b o q=>?_,hz.anc⟩,⟨fun b u n hn e=>⟨k b u (fun y=>by rw[y,hH] at hn;cases hn) e,hn⟩,th⟩,kp⟩
 ·obtain⟨w,e1,r,dd⟩:=hz.slk j t q
  refine⟨w,e1,r,?_⟩
  have ne:∀b,w=.ref b->cI t=true->b≠a:=fun b e3 ot y=>no j ⟨⟨t,q,ot⟩,by rw[e1,e3,y]⟩
  cases t with
  |val p=>exact fun u r=>(dd u r).m kp
  |own ps=>obtain⟨b,rfl,hb,l⟩:=dd;exact⟨b,rfl,hb,l.mono kp fun o w=>k b o (ne b rfl rfl) w⟩
  |dic ks ps=>obtain⟨b,rfl,hb,l⟩:=dd;exact⟨b,rfl,hb,l.mono kp fun o w=>k b o (ne b rfl rfl) w⟩
 ·obtain⟨r0,u,r1,r2⟩:=hz.ot b o q
  by_cases hb:b=a
  ·rw[hb] at r0 ⊢;exact⟨r0,ob,hob,hcl⟩
  ·exact⟨r0,u,k b u hb r1,r2⟩
noncomputable def F9 (g:List Gr):PV:=.dct (g.map (·.1)) (g.map fun t=>.lst t.2)
noncomputable def DB:List (Nat×FE)->aK->Option aK
 |[],ρ=>some ρ
 |(i,f)::r,ρ=>((f ρ).bind RV.fr).bind fun p=>DB r (ρ.set i (some (.val p)))
noncomputable def v0 (i:Nat)(bd:List (Nat×FE))(fk fv:FE):List PV->aK->List Gr->Option (aK×List Gr)
 |[],ρ,g=>some (ρ,g)
 |p::ps,ρ,g=>(DB bd (ρ.set i (some (.val p)))).bind fun ρ2=>(((fk ρ2).bind RV.fr).bind ia).bind fun k=>((fv ρ2).bind RV.fr).bind fun v=>v0 i bd fk fv ps ρ2 (Fc g k v)
noncomputable def CO (o:Option (aK×List Gr))(d:Nat):Out:=match o with
 |some (ρ,g)=>.nx (ρ.set d (some (.val (F9 g))))
 |none=>.bad
noncomputable def wj (t:Option Sl)(its:Option (List PV))(d i:Nat)(bd:List (Nat×FE))(fk fv:FE)(ρ:aK):Out:=match t,its with
 |some (.dic [] []),some its=>if its.length≤1000 then CO (v0 i bd fk fv its (ρ.set d none) []) d else .bad
 |_,_=>.bad
noncomputable def Gg (d i:Nat)(fi:FI)(bd:List (Nat×FE))(fk fv:FE):FS:=fun ρ=>wj (sl ρ d) (fi ρ) d i bd fk fv ρ
end
end Dp
end
section
namespace Dp
open PySem PySem.Spec L2 PyProof.Rows
section
variable {X:Cx}{i j:Nat}{x y:Str}{pos:Pos}
noncomputable def wm:FX:=fun _=>some (.dic [] [])
theorem qX {z:Z X}{s:Shared}(hz:z.ok s):∃z',Got z z' s { s with heap:=s.heap.push { cls:=.type "dict",data:=.dict #[] } } (.dic [] []) (.ref s.heap.objs.size):=by
 refine tT hz (hz.push _ s.toks) rfl (Heap.get?_none_of_le (Nat.le_refl _)) ⟨_,Heap.get?_push_size _ rfl,by intro w;exact absurd (Value.type.inj w) (by decide)⟩ ⟨_,rfl,cz,[],beq_eq_false_iff_ne.mpr (Ne.symm (Nat.ne_of_lt hz.I.big)),Heap.DictOf.new s.heap,Nat.zero_le _,rfl,rfl⟩
theorem Ca:NX X (.Dict [] [] pos) wm:=fun z s t E hz q=>by
 cases q;exact wpAny_Dict_empty (qX hz)
noncomputable def uW (k v:Option PV):Option Sl:=match k,v with
 |some k,some v=>(ia k).map fun k=>.dic [k] [v]
 |_,_=>none
noncomputable def rA (f g:FE):FX:=fun ρ=>uW ((f ρ).bind RV.fr) ((g ρ).bind RV.fr)
theorem Dg {k v:Expr}{f g:FE}(hk:NE X k f)(hv:NE X v g):NX X (.Dict [some k] [v] pos) (rA f g):=fun z s t E hz q=>by
 unfold rA uW at q
 split at q
 ·next p q' ep eq=>
  obtain⟨kk,ek,rfl⟩:=Option.map_eq_some_iff.mp q
  obtain⟨r1,er1,ep⟩:=Option.bind_eq_some_iff.mp ep
  obtain⟨r2,er2,eq⟩:=Option.bind_eq_some_iff.mp eq
  obtain⟨⟨bad1,pins1,σ1,H1,ρ1⟩,G1⟩:=qX hz
  obtain⟨e1,e2,e3,e4,ok1,st1,old1,kp1,g1⟩:=G1
  cases (show bad1=z.bad from e1)
  cases (show pins1=z.pins from e2)
  cases (show σ1=z.σ from e3)
  cases (show ρ1=z.ρ from e4)
  rcases g1 with ⟨h,_⟩|⟨_,a,ea,na,hH,h00,dA⟩
  ·cases h
  cases ea
  obtain⟨b,eb,_,kus,sm,dd0,_,_,_⟩:=dA
  cases eb
  refine wpAny_Dict_walk (knd:=b7 X.prog X.w) rfl rfl (by simp) (by simp) (pairTrees_cons_walk (bE (hk ⟨z.bad,z.pins,z.σ,H1,z.ρ⟩ _ r1 E ok1 er1) fun u1 s1 p1=>bE (hv ⟨z.bad,z.pins,z.σ,H1,z.ρ⟩ s1 r2 E p1.1.1 er2) fun u2 s2 p2=>pairTrees_nil_walk ?_))
  have go:=p1.1.trans p2.1
  have dk:=(p1.2.ext p2.1.2).fr ep
  have dv:=p2.2.fr eq
  have nb:¬z.bad s.heap.objs.size:=(ok1.ot _ _ hH).1
  have hd:s2.heap.DictOf (b7 X.prog X.w) s.heap.objs.size []:=by
   obtain⟨o,es,ep,q,r⟩:=Heap.DictOf.new (knd:=b7 X.prog X.w) s.heap
   exact⟨o,es,ep,go.2.kp _ o nb q,r⟩
  refine⟨[(kk,u2)],⟨lD (fG ek dk),rfl,trivial⟩,hd,fun h' dd' hs=>?_⟩
  have keep:∀b o,b≠s.heap.objs.size->s2.heap.get? b=some o->h'.get? b=some o:=fun b o hb e=>(hs.2 b hb).trans e
  obtain⟨q,es,ep',hq,hx,_⟩:=id dd'
  obtain⟨ok3,st3,kp3⟩:=go.1.mutf (a:=s.heap.objs.size) hH (fun j o=>hz.no_own (Heap.get?_none_of_le (Nat.le_refl _)) j o) (tk:=s2.toks+[(u1,u2)].length) keep ⟨q,hq,by rw[hx.1];intro w;exact absurd (Value.type.inj w) (by decide)⟩
  refine⟨⟨z.bad,z.pins,z.σ,H1,z.ρ⟩,rfl,rfl,rfl,rfl,ok3,(st1.trans go.2.stp).trans st3,old1,fun b o n e=>?_,.inr ⟨rfl,_,rfl,Heap.get?_none_of_le (Nat.le_refl _),hH,h00,_,rfl,hH,_,sm,dd',big (by show 1≤100000;omega),rfl,.one (dv.m kp3)⟩⟩
  exact keep b o (Nat.ne_of_lt (Heap.lt_size e)) (go.2.kp b o n (kp1 b o n e))
 ·cases q
noncomputable def kM (ks:List e9)(k:e9):List e9:=if ks.any (fun j=>decide (j=k)) then ks else ks++[k]
noncomputable def xa:List e9->List PV->e9->PV->List PV
 |j::ks,p::ps,k,v=>(if j=k then v else p)::xa ks ps k v
 |_,_,_,_=>[]
noncomputable def kI (ks:List e9)(ps:List PV)(k:e9)(v:PV):List PV:=if ks.any (fun j=>decide (j=k)) then xa ks ps k v else ps++[v]
theorem ub {c:Cn}{h:Heap}{k:e9}{v:PV}{u:Value}(d:D c h v u):∀{kus:List (e9×Value)} {ps:List PV},Ds c h ps (kus.map (·.2))->Ds c h (xa (kus.map (·.1)) ps k v) ((kus.map fun kv=>if kv.1=k then (kv.1,u) else kv).map (·.2))
 |[],ps,_=>by simp[xa,Ds]
 |(j,w)::kus,ps,e=>by
  cases ps with
  |nil=>cases (show w::kus.map (·.2)=[] from e)
  |cons p ps=>
   obtain⟨u',r,e,d1,d2⟩:=e
   cases e
   show Ds c h ((if j=k then v else p)::xa _ ps k v) ((if j=k then (j,u) else (j,w)).2::_)
   refine .cons ?_ (ub d d2)
   split
   ·exact d
   ·exact d1
theorem BW {c:Cn}{h:Heap}{k:e9}{v:PV}{u:Value}(d:D c h v u){kus:List (e9×Value)}{ps:List PV}(e:Ds c h ps (kus.map (·.2))):(stored kus k u).map (·.1)=kM (kus.map (·.1)) k/\Ds c h (kI (kus.map (·.1)) ps k v) ((stored kus k u).map (·.2))/\(stored kus k u).length≤kus.length+1:=by
 have ea:(kus.map (·.1)).any (fun j=>decide (j=k))=kus.any fun kv=>decide (kv.1=k):=by rw[List.any_map];rfl
 unfold stored kM kI
 rw[ea]
 split
 ·refine⟨?_,ub d e,by rw[List.length_map];omega⟩
  rw[List.map_map]
  refine List.map_congr_left fun t _=>?_
  show (if t.1=k then (t.1,u) else t).1=t.1
  split<;>rfl
 ·exact⟨by rw[List.map_append];rfl,by rw[List.map_append];exact e.app (.one d),by simp⟩
theorem wu {z:Z X}{s:Shared}(hz:z.ok s){ks:List e9}{ps:List PV}(e:sl z.ρ i=some (.dic ks ps)){a:Addr}(o:z.σ[i]?=some (some (.ref a))):ci z.σ z.ρ i a/\z.H a=some bz/\DictAt z.cn s.heap a ks ps:=by
 obtain⟨b,o1,h,_,e2,_,l⟩:=Z.ok.owned hz e rfl
 cases e2
 have:=o1.2
 rw[o] at this;cases this
 exact⟨o1,h,l⟩
theorem zM {z:Z X}{s:Shared}(hz:z.ok s){a:Addr}(o:ci z.σ z.ρ i a){ks:List e9}{ps:List PV}{k:e9}{kv:Value}{v:PV}{u:Value}(hH:z.H a=some bz)(l:DictAt z.cn s.heap a ks ps)(hl:ks.length≤100000)(rk:hK (kV k) kv)(d:D z.cn s.heap v u){E:Value->Shared->Prop} :
  W X (setItem (.ref a) kv u) (fun _ s'=>(z.wi z.σ z.H (z.ρ.set i (some (.dic (kM ks k) (kI ks ps k v))))).ok s'/\Stp z.bad z.H z.H s.heap s'.heap) E s:=by
 obtain⟨kus,sm,dd,zl,ek,ds⟩:=l
 have hkl:kus.length≤100000:=by rw[←ek,List.length_map] at hl;exact hl
 refine wpAny_setItem_pairs (hsz:=zl) (lD rk) dd fun h' dd' hs=>?_
 obtain⟨q,es,ep',hq,hx,_⟩:=id dd'
 refine Z.ok.mut hz o (fun b u hb hu=>(hs.2 b hb).trans hu) (t:=.dic (kM ks k) (kI ks ps k v)) rfl ⟨q,hq,by rw[hx.1];intro w;exact absurd (Value.type.inj w) (by decide)⟩ fun c ec kp=>?_
 subst ec
 obtain⟨h1,h2,h3⟩:=BW (k:=k) d ds
 rw[ek] at h1 h2
 exact⟨a,rfl,hH,_,sm,dd',Nat.le_trans h3 (DW hkl),h1,h2.mono kp⟩
noncomputable def tS (v:Option PV)(o:Option Sl)(k:Option PV)(j:Nat)(ρ:aK):Out:=match v,o,k with
 |some v,some (.dic ks ps),some k=>match ia k with
  |some k=>if ks.length≤100000 then .nx (ρ.set j (some (.dic (kM ks k) (kI ks ps k v)))) else .bad
  |none=>.bad
 |_,_,_=>.bad
noncomputable def p4 (j:Nat)(fi f:FE):FS:=fun ρ=>tS ((f ρ).bind RV.fr) (sl ρ j) ((fi ρ).bind RV.fr) j ρ
theorem Cy {ix o:Expr}{fi f:FE}{p:Pos}{tpos:Pos}(hN:X.N[j]?=some x)(hv:np X.env.scope x)(hd:(x==("__debug__" : Str))=false)(hcd:(x==("__classdict__" : Str))=false)(hi:NE X ix fi)(h:NE X o f)
  (hs:swapsWithSole [.Subscript (.Name x p) ix tpos] o pos.line X.env=pure false) (hw:swappedStores [.Subscript (.Name x p) ix tpos] o X.env=pure none)
  (h1:(assignEach [.Subscript (.Name x p) ix tpos] X.env).map (·.2)=[assign (.Subscript (.Name x p) ix tpos) X.env])
  (ha:∀v,assign (.Subscript (.Name x p) ix tpos) X.env v=(do
   let ov ←holding [v] (eval (.Name x p) X.env)
   let iv ←holding [v,ov] (eval ix X.env)
   standAt tpos
   holding [v,ov,iv] (setItem ov iv v)
   release [v,ov,iv] [])):NS X (.Assign [.Subscript (.Name x p) ix tpos] o pos) (p4 j fi f):=fun z s E hz hb=>by
 unfold p4 tS at hb ⊢
 split at hb
 ·next v ks ps k ev es ek=>
  split at hb
  ·next kk ekk=>
   split at hb
   ·next hl=>
    rw[if_pos hl]
    obtain⟨r,er,ev⟩:=Option.bind_eq_some_iff.mp ev
    obtain⟨rk,erk,ek⟩:=Option.bind_eq_some_iff.mp ek
    refine wpAny_Assign_stores (bE (h z s r E hz er) fun u s1 q=>?_) hs hw
    rw[h1]
    show W X (assign _ X.env u) _ E s1
    rw[ha]
    obtain⟨a,o1,_,_⟩:=Z.ok.owned hz es rfl
    refine wpAny_bind (wpAny_holding (ke q.1.1 o1.2 hN hv hd hcd ?_))
    refine wpAny_bind (wpAny_holding (bE (hi z s1 rk E q.1.1 erk) fun iv s2 q2=>?_))
    have dk:=q2.2.fr ek
    obtain⟨o2,hH,l⟩:=wu q2.1.1 es o1.2
    refine wpAny_bind (wpAny_standAt (wpAny_bind (wpAny_holding (bE (zM q2.1.1 o2 hH l hl (fG ekk dk) ((q.2.fr ev).m q2.1.2.kpD)) fun _ s3 w=>?_))))
    exact wpAny_release ⟨rfl,z.σ,z.H,w.1,(q.1.2.trans q2.1.2).stp.trans w.2⟩
   ·exact absurd rfl hb
  ·exact absurd rfl hb
 ·exact absurd rfl hb
end
section
variable {P:Program}{w:World}{tg:Expr}{h h':Heap}
noncomputable def Bh:e9->PV
 |.inl i=>.int i
 |.inr x=>.str x
theorem Bk {c:Cn}{k:e9}{u:Value}(e:(b7 P w).is k u=true):D c h (Bh k) u:=by
 cases k with
 |inl i=>
  have e:Value.isInt i u=true:=e
  cases u<;>simp[Value.isInt] at e
  subst e;exact⟨_,rfl⟩
 |inr x=>
  have e:kQ (.inr x) u=true:=e
  cases u<;>simp[kQ,Value.isStrOf] at e
  subst e;exact⟨_,rfl⟩
theorem An {a it:Addr}{ps:List PV}{ep:Nat}{kus:List (e9×Value)}:Trn P w tg it [it] [] ps (fun i c h=>h.IsValIter it a i kus.length ep/\h.DictAt (b7 P w) a kus ep/\Ds c h ps (kus.map (·.2))/\c.ok a/\c.P=P/\c.w=w) where
 obj:=fun i c h st b hb=>by
  have e:b=it:=by simpa using hb
  subst e
  obtain⟨⟨o,e,_,d⟩,_⟩:=st
  exact⟨o,e,fun v z=>by rw[d] at z;cases z⟩
 keep:=fun i c c' h h' st k kk=>by
  obtain⟨st,⟨o,es,g,r⟩,ds,ok,e1,e2⟩:=st
  exact⟨st.at fun o e=>kk it (.inl (by simp)) o e,⟨o,es,(k.kp a _ ok g).2,r⟩,ds.mono k,(k.kp a _ ok g).1,by rw[k.P,e1],by rw[k.w,e2]⟩
 item:=fun X hP hw hc z s E i p hz hf hp st hx=>by
  subst hP hw
  obtain⟨st,da,ds,ok,e1,e2⟩:=st
  obtain⟨u,hu,du⟩:=ds.get hx
  rw[List.getElem?_map] at hu
  obtain⟨⟨k,u'⟩,hku,rfl⟩:=Option.map_eq_some_iff.mp hu
  refine wpAny_pyNext_values_item st da hku fun h' st' sb=>?_
  have go:=hz.turn (t:=s.toks) (h':=h') hf (fun b o hb e=>(sb.2 b (by simpa using hb)).trans e) fun b hb=>by
   rw[show b=it by simpa using hb];exact⟨_,st'.choose_spec.1⟩
  have kp:Kp z.cn z.cn s.heap h':=go.2.kpD
  obtain⟨o,e,c,d⟩:=id st'
  obtain⟨o2,es,g2,r2⟩:=da
  exact⟨u',rfl,qN (s:={ s with heap:=h' }) e c d (by decide) ⟨go,du.m kp,st',⟨o2,es,(kp.kp a _ ok g2).2,r2⟩,ds.mono kp,ok,e1,e2⟩⟩
 done:=fun X hP hw hc z s E i hz hf hp st hx=>by
  subst hP hw
  obtain⟨st,da,ds,ok,e1,e2⟩:=st
  have hl:=ds.length
  rw[List.length_map] at hl
  obtain⟨f,bd⟩:=hf it (by simp)
  exact wpAny_pyNext_values_end (hz.I.ok.hd hc) st da (List.getElem?_eq_none (by omega)) fun h' eb=>⟨rfl,hz.I.turned (t':=s.toks) (fun b o hb e=>eb b o hb e) f.1 f.2.1 f.2.2.2.1 f.2.2.2.2.1 f.2.2.2.2.2,fun b o hb e=>eb b o (by simpa using hb) e⟩
 self:=fun A i c s Q E st q=>wpAny_pyIter_valiter st.1 q
theorem zX {a it:Addr}{ep:Nat}{kus:List (e9×Value)}:Trn P w tg it [it] [] (kus.map fun kv=>Bh kv.1) (fun i c h=>h.IsKeyIter it a i kus.length ep/\h.DictAt (b7 P w) a kus ep/\c.ok a) where
 obj:=fun i c h st b hb=>by
  have e:b=it:=by simpa using hb
  subst e
  obtain⟨⟨o,e,_,d⟩,_⟩:=st
  exact⟨o,e,fun v z=>by rw[d] at z;cases z⟩
 keep:=fun i c c' h h' st k kk=>by
  obtain⟨st,⟨o,es,g,r⟩,ok⟩:=st
  exact⟨st.at fun o e=>kk it (.inl (by simp)) o e,⟨o,es,(k.kp a _ ok g).2,r⟩,(k.kp a _ ok g).1⟩
 item:=fun X hP hw hc z s E i p hz hf hp st hx=>by
  subst hP hw
  obtain⟨st,da,ok⟩:=st
  rw[List.getElem?_map] at hx
  obtain⟨⟨k,u'⟩,hku,rfl⟩:=Option.map_eq_some_iff.mp hx
  refine wpAny_pyNext_dict_item st da hku fun key h' hk st' sb=>?_
  have go:=hz.turn (t:=s.toks) (h':=h') hf (fun b o hb e=>(sb.2 b (by simpa using hb)).trans e) fun b hb=>by
   rw[show b=it by simpa using hb];exact⟨_,st'.choose_spec.1⟩
  have kp:Kp z.cn z.cn s.heap h':=go.2.kpD
  obtain⟨o,e,c,d⟩:=id st'
  obtain⟨o2,es,g2,r2⟩:=da
  exact⟨key,rfl,qN (s:={ s with heap:=h' }) e c d (by decide) ⟨go,Bk hk,st',⟨o2,es,(kp.kp a _ ok g2).2,r2⟩,ok⟩⟩
 done:=fun X hP hw hc z s E i hz hf hp st hx=>by
  subst hP hw
  obtain⟨st,da,ok⟩:=st
  rw[List.length_map] at hx
  obtain⟨f,bd⟩:=hf it (by simp)
  exact wpAny_pyNext_dict_end (hz.I.ok.hd hc) st da (List.getElem?_eq_none (by omega)) fun h' eb=>⟨rfl,hz.I.turned (t':=s.toks) (fun b o hb e=>eb b o hb e) f.1 f.2.1 f.2.2.2.1 f.2.2.2.2.1 f.2.2.2.2.2,fun b o hb e=>eb b o (by simpa using hb) e⟩
 self:=fun A i c s Q E st q=>wpAny_pyIter_keyiter st.1 q
end
section
variable {X:Cx}{tg o:Expr}{f:FE}{apos cpos:Pos}
noncomputable def ll:PV->Option (List PV)
 |.dct _ ps=>some ps
 |_=>none
noncomputable def lj:PV->Option (List PV)
 |.dct ks _=>some (ks.map Bh)
 |_=>none
noncomputable def wy (f:FE):FI:=fun ρ=>(f ρ).bind fun r=>r.fr.bind ll
noncomputable def wS (f:FE):FI:=fun ρ=>(f ρ).bind fun r=>r.fr.bind lj
theorem oT {P:Program}{w:World}{h:Heap}{d:Addr}{vs:List (e9×Value)}(x:h.DictOf (b7 P w) d vs):∃ep,h.DictAt (b7 P w) d vs ep:=by
 obtain⟨o,es,ep,h1,h2,h3,h4⟩:=x
 exact⟨ep,o,es,h1,h2,h3,h4⟩
theorem CW (h:NE X o f):NI X true tg o (wS f):=fun z s its E hz q=>by
 obtain⟨r,e1,q⟩:=Option.bind_eq_some_iff.mp q
 obtain⟨p,e2,q⟩:=Option.bind_eq_some_iff.mp q
 refine bE (h z s r E hz e1) fun v s1 q1=>?_
 have d:=q1.2.fr e2
 unfold lj at q
 split at q
 ·next ks ps=>
  cases q
  obtain⟨a,kus,rfl,ok,sm,dd,zl,rfl,ds⟩:=d
  obtain⟨ep,da⟩:=oT dd
  rw[List.map_map]
  have g2:∀o:Obj,z.go s { s1 with heap:=s1.heap.push o }:=fun o=>q1.1.trans (q1.1.1.push o s1.toks)
  have kk:∀o:Obj,Kp z.cn (bV X (fun b=>z.bad b\/b∈[s1.heap.objs.size]) z.H) s1.heap (s1.heap.push o):=fun o=>qH q1.1.1 (fun b o e=>Heap.get?_push_of_some _ e) (fg (P:=fun b=>s1.heap.objs.size≤b) (Nat.le_refl _))
  refine wpAny_pyIter_dict sm da ⟨s1.heap.objs.size,[s1.heap.objs.size],[],_,rfl,fun _=>rfl,fun b q=>(nomatch q),zX (a:=a) (kus:=kus) (ep:=ep),g2 _,fg (q1.1.1.fp q1.1.2 (Nat.le_refl _)),⟨_,Heap.get?_push_size _ rfl,rfl,rfl⟩,?_,?_⟩
  ·obtain⟨o2,es,g,r⟩:=da
   exact⟨o2,es,Heap.get?_push_of_some _ g,r⟩
  ·obtain⟨o2,es,g,r⟩:=da
   exact ((kk { cls:=.type "list" }).kp a o2 ok g).1
 ·cases q
theorem CC (h:NE X o f)(hbase:attributeBase o "values" X.env (eval o X.env)=eval o X.env:=by rfl)(hline:(apos.endLine==cpos.line)=true:=by rfl):NI X true tg (.Call (.Attribute o "values" apos) [] [] cpos) (wy f):=fun z s its E hz q=>by
 obtain⟨r,e1,q⟩:=Option.bind_eq_some_iff.mp q
 obtain⟨p,e2,q⟩:=Option.bind_eq_some_iff.mp q
 refine wpAny_Call_method0_late hbase hline (bE (h z s r E hz e1) fun v s1 q1=>?_)
 have d:=q1.2.fr e2
 unfold ll at q
 split at q
 ·next ks ps=>
  cases q
  obtain⟨a,kus,rfl,ok,sm,dd,zl,ek,ds⟩:=d
  obtain⟨ob,_,_,hob,hx,_⟩:=id dd
  refine⟨"dict","dict.values",PySem.F.plainAttrs_dict,PySem.F.slot_dict_values,PySem.F.type_dict_values,dd.typeIs,fun b e=>by cases e;exact⟨ob,hob,hx.2.1⟩,Calls.callWith_builtin rfl (PySem.evalArgs_none (call_meetsIn PySem.F.slot_dict_values dd.typeIs PySem.F.entry_dict_values (PySem.F.args_dict_values_1 _) (meets_dict_values (b7 X.prog X.w) a sm) ⟨⟨kus,dd⟩,?_⟩))⟩
  have g1:=q1.1.trans (q1.1.1.push { cls:=.type "dict_values",data:=.fields #[.ref a] } s1.toks)
  have dd1:(s1.heap.push { cls:=.type "dict_values",data:=.fields #[.ref a] }).DictOf (b7 X.prog X.w) a kus:=by
   obtain⟨o2,es,ep,g,r⟩:=dd;exact⟨o2,es,ep,Heap.get?_push_of_some _ g,r⟩
  have ds1:=ds.mono (q1.1.1.push { cls:=.type "dict_values",data:=.fields #[.ref a] } s1.toks).2.kpD
  obtain⟨ep,da⟩:=oT dd1
  refine wpAny_pyIter_values (knd:=b7 X.prog X.w) (d:=a) (kvs:=kus) (ep:=ep) ⟨_,Heap.get?_push_size _ rfl,rfl,rfl⟩ da ?_
  have kk:∀o:Obj,Kp z.cn (bV X (fun b=>z.bad b\/b∈[(s1.heap.push { cls:=.type "dict_values",data:=.fields #[.ref a] }).objs.size]) z.H) (s1.heap.push { cls:=.type "dict_values",data:=.fields #[.ref a] }) ((s1.heap.push { cls:=.type "dict_values",data:=.fields #[.ref a] }).push o):=
   fun o=>qH (s1:={ s1 with heap:=s1.heap.push { cls:=.type "dict_values",data:=.fields #[.ref a] } }) g1.1 (fun b o e=>Heap.get?_push_of_some _ e) (fg (P:=fun b=>_≤b) (Nat.le_refl _))
  refine⟨_,[_],[],_,rfl,fun _=>rfl,fun b q=>(nomatch q),An (a:=a) (kus:=kus) (ep:=ep),g1.trans (g1.1.push _ _),fg (g1.1.fp g1.2 (Nat.le_refl _)),⟨_,Heap.get?_push_size _ rfl,rfl,rfl⟩,?_,ds1.mono (kk _),?_,rfl,rfl⟩
  ·obtain⟨o2,es,g,r⟩:=da
   exact⟨o2,es,Heap.get?_push_of_some _ g,r⟩
  ·obtain⟨o2,es,g,r⟩:=da
   exact ((kk { cls:=.type "dict_values",data:=.fields #[.ref a] }).kp a o2 ok g).1
 ·cases q
end
end Dp
end
section
namespace Dp
open PySem PySem.Spec L2 PyProof.Rows
noncomputable def Hk.or (a b:Hk):Hk where
 e:=fun G rE rB L e=>(a.e G rE rB L e).orElse fun _=>b.e G rE rB L e
 i:=fun G L f tg it=>(a.i G L f tg it).orElse fun _=>b.i G L f tg it
 b:=fun G rE rB L e=>(a.b G rE rB L e).orElse fun _=>b.b G rE rB L e
 s:=fun G rE rB rS L s=>(a.s G rE rB rS L s).orElse fun _=>b.s G rE rB rS L s
theorem FL {α:Type}{a b:Option α}{r:α}(h:(a.orElse fun _=>b)=some r):a=some r\/b=some r:=by
 cases a with
 |none=>exact .inr h
 |some=>exact .inl h
theorem ti {a b:Hk}(ha:HkOk a)(hb:HkOk b):HkOk (a.or b):=
 ⟨fun o h1 h2 e f h=>(FL h).elim (ha.e o h1 h2 e f) (hb.e o h1 h2 e f),fun o h1 tg it f h=>(FL h).elim (ha.i o h1 tg it f) (hb.i o h1 tg it f),fun o h1 h2 e f h=>(FL h).elim (ha.b o h1 h2 e f) (hb.b o h1 h2 e f),fun o h1 h2 h3 s f h=>(FL h).elim (ha.s o h1 h2 h3 s f) (hb.s o h1 h2 h3 s f)⟩
noncomputable def vX (f:Expr->FE):Expr->FX
 |.Dict [] [] _=>wm
 |.Dict [some k] [v] _=>rA (f k) (f v)
 |e=>xE (f e)
noncomputable def BN:Expr->Bool
 |.Dict _ _ _=>true
 |_=>false
section
variable {X:Cx}{k:Nat}{G:Gd}{L:Lc}{x:Str}{i:Nat}{pos:Pos}
theorem wB {f:Expr->FE}(h:∀e,NE X e (f e))(e:Expr):NX X e (vX f e):=by
 unfold vX
 split
 ·exact Ca
 ·exact Dg (h _) (h _)
 ·exact Fu (h _)
end
noncomputable def yQ (G:Gd)(rE:Lc->Expr->FE)(rB:Lc->Expr->FB)(rS:Lc->Stmt->FS)(L:Lc)(st:Stmt):Option FS:=
 match st with
  |.Assign [.Tuple [.Name x px,.Name y py] kt pt] (.Tuple [a,b] k2 pt2) pos=>
   if (L.own.contains x || L.own.contains y || L.dic.contains x || L.dic.contains y)&&(Fk a || Fk b || BN a || BN b) then match Dy L [.Name x px,.Name y py] [a,b],dI L x,dI L y with
    |some (some l),some i,some j=>if l==[x,y]&&i7 a&&i7 b&&i != j then some (tU i j (vX (rE L) a) (vX (rE L) b)) else none
    |_,_,_=>none
   else none
  |.Assign [.Name x p] v pos=>if BN v then match dI L x with
    |some i=>some (qd i (vX (rE L) v))
    |none=>none
   else none
  |_=>none
noncomputable def Bi:Hk where
 s:=yQ
theorem yw:HkOk Bi where
 e:=fun _ _ _ _ _ h=>by cases h
 i:=fun _ _ _ _ _ h=>by cases h
 b:=fun _ _ _ _ _ h=>by cases h
 s:=fun {X k G L rE rB rS} o hE hB hS st f h=>by
  replace h:yQ G rE rB rS L st=some f:=h
  unfold yQ at h
  split at h
  ·next x px y py kt pt a b k2 pt2 pos=>
   split at h
   ·split at h
    ·next l i j hw hi hj=>
     split at h
     ·next z=>
      cases h
      rw[Bool.and_eq_true,Bool.and_eq_true,Bool.and_eq_true,beq_iff_eq,bne_iff_ne] at z
      obtain⟨⟨⟨z0,z1⟩,z2⟩,z3⟩:=z
      rw[z0] at hw
      have s2:starEach [b] X.env=[(false,eval b X.env)]:=eT z2 [] X.env
      exact B7 o.calm (dZ o hi) (dZ o hj) z3 (wB (hE o) a) (wB (hE o) b) (by rw[eT z1 [b] X.env,s2]) (o7 o hw) (by cases a<;>rfl)
     ·cases h
    ·cases h
   ·cases h
  ·next x p v pos=>
   split at h
   ·next z=>
    split at h
    ·next i hi=>
     cases h
     cases v<;>first|(cases z;done)|skip
     exact B6 (dZ o hi) (wB (hE o) _) rfl
    ·cases h
   ·cases h
  ·cases h
noncomputable def wq (G:Gd)(L:Lc)(f:Expr->FE)(tg it:Expr):Option FI:=
 match it with
  |.Name x p=>if L.dic.contains x then some (wS (f (.Name x p))) else none
  |.Call (.Attribute (.Name x p) m ap) [] [] cp=>if m = "values"&&ap.endLine==cp.line then some (wy (f (.Name x p))) else none
  |_=>none
noncomputable def xb (G:Gd)(rE:Lc->Expr->FE)(rB:Lc->Expr->FB)(rS:Lc->Stmt->FS)(L:Lc)(st:Stmt):Option FS:=
 match st with
  |.Assign [.Subscript (.Name x p) ix tp] v pos=>if L.dic.contains x&&fQ ix&&!zB v then match slot L x with
    |some i=>some (p4 i (rE L ix) (rE L v))
    |none=>none
   else none
  |_=>none
noncomputable def Bq:Hk where
 i:=wq
 s:=xb
theorem wQ:HkOk Bq where
 e:=fun _ _ _ _ _ h=>by cases h
 i:=fun {X k G L f} o hf tg it g h=>by
  replace h:wq G L f tg it=some g:=h
  unfold wq at h
  split at h
  ·split at h
   ·cases h;exact CW (hf _)
   ·cases h
  ·split at h
   ·next z=>
    cases h
    rw[Bool.and_eq_true,decide_eq_true_eq] at z
    obtain⟨rfl,z⟩:=z
    exact CC (hf _) rfl z
   ·cases h
  ·cases h
 b:=fun _ _ _ _ _ h=>by cases h
 s:=fun {X k G L rE rB rS} o hE hB hS st f h=>by
  replace h:xb G rE rB rS L st=some f:=h
  unfold xb at h
  split at h
  ·next x p ix tp v pos=>
   split at h
   ·next z=>
    rw[Bool.and_eq_true,Bool.and_eq_true] at z
    split at h
    ·next i hi=>
     cases h
     obtain⟨h1,h2,h3⟩:=mB o hi
     exact Cy h1 h2 (bK h3).1 (bK h3).2.1 (hE o _) (hE o _) (by cases v<;>rfl) rfl rfl (uK z.1.2)
    ·cases h
   ·cases h
  ·cases h
end Dp
end
section
namespace Dp
open PySem PySem.Spec L2 PyProof.Rows
section
variable {X:Cx}{e:Expr}{f:FE}{i:Nat}{x:Str}{pos:Pos}
noncomputable def AD:PV->Option Bool
 |.lst ps=>some (!ps.isEmpty)
 |_=>none
noncomputable def FW (f:FE):FB:=fun ρ=>(f ρ).bind fun r=>AD r.pv
theorem Ef (h:NE X e f)(hv:∀whole,isTrue e X.env whole=(do let v ←whole;standAt e.pos;holding [v] (truthy v))):NB X e (FW f):=fun z s k E hz q=>by
 obtain⟨r,er,q⟩:=Option.bind_eq_some_iff.mp q
 refine isTrue_plain (bE (h z s _ E hz er) fun v s1 q1=>?_) (hv _)
 have d:=q1.2.rd
 unfold AD at q
 split at q
 ·next ps ep=>
  cases q
  rw[ep] at d
  obtain⟨a,its,n,rfl,_,ho,zl,ds⟩:=d
  have l:=ds.length
  have hlb:=kA
  refine wpAny_truthy_list (bJ ho) (by simp;omega) ⟨?_,q1.1.trans (q1.1.1.tok _)⟩
  rw[List.isEmpty_toArray]
  cases its<;>cases ps<;>simp at l ⊢
 ·cases q
theorem vr:fillsNumberSlot (.type "list") "add" = pure false:=by kernel_rfl
theorem mT:seqSlot? (.type "list") (dunderI "add")=pure (some (.builtin "list.__iadd__")):=by kernel_rfl
theorem sq {M:Model}{A:Around}{E:Value->Shared->Prop}{s:Shared}{a b:Value}{Q:Value->Shared->Prop}(ha:s.TypeIs a "list")(hb:s.TypeIs b "list")(h:wpAny M A (call (.builtin "list.__iadd__") [a,b]) Q E s):wpAny M A (inplaceOp .Add a b) Q E s:=by
 unfold inplaceOp
 refine wpAny_holding (wpAny_bind (wpAny_typeOf ha ?_))
 have ef:fillsInplaceSlot (.type "list") "add" (Operator.Add==Operator.Add)=pure false:=by kernel_rfl
 refine wpAny_bind (wpAny_of_eq ef ?_)
 refine (?_:wpAny M A (binaryOp1 "add" a b >>= _) Q E s)
 refine wpAny_bind (wpAny_binaryOp1_none ha hb vr ?_)
 refine wpAny_bind (wpAny_of_eq mT ?_)
 exact wpAny_bind (wpAny_rule h)
noncomputable def sX (o:Option Sl)(v:Option PV)(i:Nat)(ρ:aK):Out:=match o,v with
 |some (.own ps),some (.lst qs)=>if ps.length+qs.length≤100000 then .nx (ρ.set i (some (.own (ps++qs)))) else .bad
 |_,_=>.bad
noncomputable def qJ (i:Nat)(f:FE):FS:=fun ρ=>sX (sl ρ i) ((f ρ).bind RV.fr) i ρ
theorem Ch {p':Pos}(n:Nm X i x)(h:NE X e f)(hd:(x==("__debug__" : Str))=false):NS X (.AugAssign (.Name x p') .Add e pos) (qJ i f):=fun z s E hz hb=>by
 unfold qJ sX at hb ⊢
 split at hb
 ·next ps qs es ev=>
  split at hb
  ·next hl=>
   rw[if_pos hl]
   obtain⟨r,er,ev⟩:=Option.bind_eq_some_iff.mp ev
   have vis:np X.env.scope x:=by rcases n.loc with k|k;exact .inl k;exact .inr (.inl k)
   obtain⟨a,oa,hH,d0⟩:=Z.ok.owned hz es rfl
   obtain⟨v,u,m,hn,rr,lk,e1,d,_⟩:=Z.ok.get hz es n.ix vis
   have:v=.ref a:=by have:=oa.2;rw[this] at e1;cases e1;rfl
   subst this
   cases (show u=Value.ref a from rr)
   refine wpAny_AugAssign_Name ?_
   have go:W X (eval e X.env) (fun w s₂=>W X (inplaceOp .Add (.ref a) w) (fun r s₃=>W X (storeName X.env x r) (fun _=>Z.sp z s (.nx (z.ρ.set i (some (.own (ps++qs))))) .next) E s₃) E s₂) E s:=
    bE (h z s r E hz er) fun w s1 q=>by
     obtain⟨b,its2,n2,rfl,okb',hb2,zl2,ds2⟩:=q.2.fr ev
     obtain⟨o1,hH1,its,nn,hg,zl,ds⟩:=j7 q.1.1 es oa.2
     have l1:=ds.length
     have l2:=ds2.length
     have hbb:=big hl
     have hsz:its.toArray.size+its2.toArray.size≤sizeLine:=by rw[List.size_toArray,List.size_toArray];omega
     have hlong:¬(!its.toArray.isEmpty&&Builtin.List.listTooLong (its.toArray.size+its2.toArray.size))=true:=by
      rw[ri hsz,Bool.and_false];exact Bool.false_ne_true
     refine sq ⟨_,hg,rfl⟩ ⟨_,hb2,rfl⟩ (call_meets F.slot_list_iadd ⟨_,hg,rfl⟩ F.entry_list_iadd (F.args_list_iadd_2 _ _) (AutoSeq1.list___iadd___list_list_0 a its.toArray nn b its2.toArray n2 hlong (by rw[List.size_toArray];omega) (by omega)) ⟨hg,hb2,?_⟩)
     have mm:=ii (z:=z) q.1.1 o1 hg (g:=fun x=>x++its2.toArray) (its':=its++its2) (by simp) (ds.app ds2) (by rw[List.length_append];omega) hH1 s1.toks
     refine ij mm.1.I n.nd n.ix n.loc (v:=.ref a) rfl (fun s' I' ⟨c,sb,hc⟩=>?_) n.fn
     have ex:=iK (z:=z.wi z.σ z.H (z.ρ.set i (some (.own (ps++qs))))) mm.1 I' sb hc
     have es':z.σ.set i (some (.ref a))=z.σ:=by
      obtain⟨hi,e⟩:=List.getElem?_eq_some_iff.mp oa.2
      rw[←e];exact List.set_getElem_self hi
     rw[es'] at I'
     have g3:=Z.ok.ext mm.1 I' ex
     exact⟨rfl,z.σ,z.H,g3.1,q.1.2.stp.trans (mm.2.trans ex.stp)⟩
   rcases lk with ⟨hk,hm⟩|⟨hk,c,hc,hcell⟩
   ·exact wpAny_loadName_local hz.I.ok.kind hk hn hm go
   ·rcases hk with hk|hk
    ·exact wpAny_loadName_cell hz.I.ok.kind hk hc hcell go
    ·rcases n.loc with k|k
     ·have:X.env.scope.names.lookup x=some .free:=hk
      rw[k] at this;cases this
     ·have:X.env.scope.names.lookup x=some .free:=hk
      rw[k] at this;cases this
  ·exact absurd rfl hb
 ·exact absurd rfl hb
noncomputable def lU:List PV->Option RV
 |[.dct ks _]=>some (.nw (ks.map Bh))
 |_=>none
theorem qk {c:Cn}{h:Heap}:∀{kus:List (e9×Value)} {its:List Value},its.length=kus.length->(∀(i:Nat) (v:Value),its[i]?=some v->∃(k:e9) (x:Value),kus[i]?=some (k,x)/\(b7 c.P c.w).is k v=true)->Ds c h ((kus.map (·.1)).map Bh) its
 |[],its,hl,_=>by
  cases its with
  |nil=>rfl
  |cons=>cases hl
 |(k,x)::kus,its,hl,hi=>by
  cases its with
  |nil=>cases hl
  |cons v its=>
   obtain⟨k',x',e,hk⟩:=hi 0 v rfl
   cases e
   exact .cons (Bk hk) (qk (by simpa using hl) fun i v e=>by simpa using hi (i+1) v (by simpa using e))
theorem zn (hc:X.calm=true):dQ X (.type "list") lU:=fun z s ps us r E hz d q=>by
 unfold lU at q
 split at q
 ·next ks qs=>
  cases q
  obtain⟨u,rfl,du⟩:=d.one
  obtain⟨a,kus,rfl,_,sm,dd,zl,rfl,ds⟩:=du.rd
  obtain⟨ep,da⟩:=oT dd
  refine PySem.W.kdl_call (PySem.W.kdl_dict (knd:=b7 X.prog X.w) sm) (hz.I.ok.hd hc) da zl fun h' tk acc' c' kp e hI=>?_
  have hlen:acc'.toList.length=kus.length:=by rw[Array.length_toList];exact hI.1
  refine Z.ok.newL hz (its:=acc'.toList) (n:=c') (qk (c:=z.cn) hlen fun i v ev=>hI.2 i v (by rw[←Array.getElem?_toList];exact ev)) (by rw[hlen];exact zl) kp (by simpa [eS] using e)
 ·cases q
noncomputable def tR (o:Option (List PV))(i j k:Nat)(ρ:aK):Out:=match o with
 |some [p,q,r]=>.nx (((ρ.set k (some (.val r))).set j (some (.val q))).set i (some (.val p)))
 |_=>.bad
noncomputable def mH (i j k:Nat)(fs:FA):FS:=fun ρ=>tR ((fs ρ).bind fun rs=>rs.mapM RV.fr) i j k ρ
theorem Cv {j k:Nat}{y w:Str}{a b c:Expr}{fs:FA}{px py pw pt:Pos}{kt k2 pt2}(hc:X.calm=true)(n1:Nm X i x)(n2:Nm X j y)(n3:Nm X k w)(ha:NA X [a,b,c] fs)
  (hw:swappedStores [.Tuple [.Name x px,.Name y py,.Name w pw] kt pt] (.Tuple [a,b,c] k2 pt2) X.env=pure (some [x,y,w]))
  (hs:swapsWithSole [.Tuple [.Name x px,.Name y py,.Name w pw] kt pt] (.Tuple [a,b,c] k2 pt2) pos.line X.env=pure false) :
  NS X (.Assign [.Tuple [.Name x px,.Name y py,.Name w pw] kt pt] (.Tuple [a,b,c] k2 pt2) pos) (mH i j k fs):=fun z s E hz hb=>by
 unfold mH tR at hb ⊢
 split at hb
 ·next p q r epq=>
  obtain⟨rs,er,epq⟩:=Option.bind_eq_some_iff.mp epq
  rw[exec_Assign_arm]
  refine wpAny_bind (wpAny_standAt ?_)
  rw[hs]
  refine wpAny_bind (wpAny_pure ?_)
  rw[if_neg (by decide)]
  refine wpAny_bind (Tuple_ (bE (ha z _ s rs E hz er) fun us s1 ⟨g1,d1⟩=>?_))
  obtain⟨u1,r1,rfl,dp,u2,r2,rfl,dq,u3,r3,rfl,dr,e3⟩:=d1.fr epq
  cases (show r3=[] from e3)
  refine wpAny_newObj_type ?_ (by show 3≤sizeLine;decide)
  have g2:=g1.1.push { cls:=.type "tuple",data:=.seq [u1,u2,u3].toArray } s1.toks
  rw[hw]
  refine wpAny_bind (wpAny_pure ?_)
  show W X (do rule "assign.swapped-stores";let items ←unpackItems (.ref s1.heap.objs.size) 3 none;assignInOrder [fun v=>bindName X.env w v,fun v=>bindName X.env y v,fun v=>bindName X.env x v] items.reverse;pure Flow.next) _ _ _
  refine wpAny_bind (wpAny_rule (wpAny_bind (unpackItems_tuple (items:=#[u1,u2,u3]) (hz.I.ok.hd hc) (IsTup.new s1.heap _) fun h' hx'=>?_)))
  have g3:z.go _ { s1 with heap:=h' }:=g2.1.kept (t:=s1.toks) fun b o e=>hx' b o (Nat.ne_of_lt (Heap.lt_size e)) e
  have ge:=g2.2.trans g3.2
  show wpAny _ _ (assignInOrder [fun v=>bindName X.env w v,fun v=>bindName X.env y v,fun v=>bindName X.env x v] [u3,u2,u1] >>= fun _=>pure Flow.next) _ _ _
  refine wpAny_bind (assignInOrder_cons (wpAny_bindName (bE (dR (p:=r) g3.1 n3 (dr.m ge.kpD)) fun _ s2 ⟨σ1,ok1,x1⟩=>?_)))
  refine assignInOrder_cons (wpAny_bindName (bE (dR (p:=q) ok1 n2 (dq.m (ge.trans x1).kpD)) fun _ s3 ⟨σ2,ok2,x2⟩=>?_))
  refine assignInOrder_cons (wpAny_bindName (bE (dR (p:=p) ok2 n1 (dp.m (ge.trans (x1.trans x2)).kpD)) fun _ s4 ⟨σ3,ok3,x3⟩=>assignInOrder_nil (wpAny_pure ?_)))
  exact⟨rfl,σ3,z.H,ok3,(g1.2.trans (ge.trans (x1.trans (x2.trans x3)))).stp⟩
 ·exact absurd rfl hb
end
end Dp
end
section
namespace Dp
open PySem PySem.Spec L2 PyProof.Rows
noncomputable def ze (G:Gd)(rE:Lc->Expr->FE)(rB:Lc->Expr->FB)(rS:Lc->Stmt->FS)(L:Lc)(st:Stmt):Option FS:=
 match st with
 |.Assign [.Name y p] (.Call (.Attribute (.Name x q) m ap) [e] [] cp) pos=>if m = "pop"&&ap.endLine==cp.line&&i7 e then match slot L x,dI L y with
   |some i,some j=>some (vq nz j i (aa (rE L e) af))
   |_,_=>none
  else none
 |.AugAssign (.Name x p) .Add e pos=>if L.own.contains x&&!zf x then match dI L x with
   |some i=>some (qJ i (rE L e))
   |none=>none
  else none
 |_=>none
noncomputable def wZ (G:Gd)(rE:Lc->Expr->FE)(rB:Lc->Expr->FB)(L:Lc)(e:Expr):Option FB:=
 match e with
 |.Name x p=>if L.own.contains x then some (FW (rE L (.Name x p))) else none
 |_=>none
noncomputable def BB:Hk where
 b:=wZ
 s:=ze
theorem yd:HkOk BB where
 e:=fun _ _ _ _ _ h=>by cases h
 i:=fun _ _ _ _ _ h=>by cases h
 b:=fun {X k G L rE rB} o hE hB e f h=>by
  replace h:wZ G rE rB L e=some f:=h
  unfold wZ at h
  split at h
  ·split at h
   ·cases h;exact Ef (hE o _) fun _=>rfl
   ·cases h
  ·cases h
 s:=fun {X k G L rE rB rS} o hE hB hS st f h=>by
  replace h:ze G rE rB rS L st=some f:=h
  unfold ze at h
  split at h
  ·next y p x q m ap e cp pos=>
   split at h
   ·next z=>
    rw[Bool.and_eq_true,Bool.and_eq_true,decide_eq_true_eq] at z
    obtain⟨⟨rfl,z1⟩,z2⟩:=z
    split at h
    ·next i j hi hj=>
     cases h
     have he:starEach [e] X.env=(false,eval e X.env)::starEach [] X.env:=eT z2 [] X.env
     obtain⟨h1,h2,h3⟩:=mB o hi
     exact Bp wt ⟨h1,h2,(bK h3).1,(bK h3).2.1,rfl,z1,by rw[lV (by rw[List.all_cons,z2];rfl)];rfl,fun e' r' q=>by cases q;exact⟨he,rfl⟩⟩ (dZ o hj) (tF (hE o e) lG he) (fun q=>by cases q) rfl
    ·cases h
   ·cases h
  ·next x p e pos=>
   split at h
   ·next z=>
    rw[Bool.and_eq_true,Bool.not_eq_true'] at z
    split at h
    ·next i hi=>
     cases h
     exact Ch (dZ o hi) (hE o e) (bK z.2).1
    ·cases h
   ·cases h
  ·cases h
noncomputable def rT (G:Gd)(rE:Lc->Expr->FE)(rB:Lc->Expr->FB)(rS:Lc->Stmt->FS)(L:Lc)(st:Stmt):Option FS:=
 match st with
 |.Assign [.Tuple [.Name x px,.Name y py,.Name w pw] kt pt] (.Tuple [a,b,c] k2 pt2) pos=>match Dy L [.Name x px,.Name y py,.Name w pw] [a,b,c],dI L x,dI L y,dI L w with
  |some (some l),some i,some j,some k=>if l==[x,y,w]&&i7 a&&i7 b&&i7 c then some (mH i j k (vA (rE L) [a,b,c])) else none
  |_,_,_,_=>none
 |_=>none
noncomputable def xT:Hk where
 s:=rT
theorem vG:HkOk xT where
 e:=fun _ _ _ _ _ h=>by cases h
 i:=fun _ _ _ _ _ h=>by cases h
 b:=fun _ _ _ _ _ h=>by cases h
 s:=fun {X k G L rE rB rS} o hE hB hS st f h=>by
  replace h:rT G rE rB rS L st=some f:=h
  unfold rT at h
  split at h
  ·next x px y py w pw kt pt a b c k2 pt2 pos=>
   split at h
   ·next l i j k' hw hi hj hk=>
    split at h
    ·next z=>
     cases h
     rw[Bool.and_eq_true,Bool.and_eq_true,Bool.and_eq_true,beq_iff_eq] at z
     obtain⟨⟨⟨z0,z1⟩,z2⟩,z3⟩:=z
     rw[z0] at hw
     exact Cv o.calm (dZ o hi) (dZ o hj) (dZ o hk) (jK (hE o) [a,b,c]) (o7 o hw) rfl
    ·cases h
   ·cases h
  ·cases h
noncomputable def zd (G:Gd)(rE:Lc->Expr->FE)(rB:Lc->Expr->FB)(L:Lc)(e:Expr):Option FE:=
 match e with
 |.Call (.Attribute (.Call (.Name g gp) (a0::as0) [] fp) m ap) (a::r) [] p=>if m = "get"&&ap.endLine==p.line&&(a::r).all i7&&decide (r.length<20) then some (vD kh (rE L (.Call (.Name g gp) (a0::as0) [] fp)) (vA (rE L) (a::r))) else none
 |.Call (.Name x q) [a] [] p=>if x = "list"&&glob L x&&G.bi.contains x&&vZ L p&&i7 a then some (fB lU (vA (rE L) [a])) else none
 |_=>none
noncomputable def hkExp:Hk where
 e:=zd
theorem yv:HkOk hkExp where
 e:=fun {X k G L rE rB} o hE hB e f h=>by
  replace h:zd G rE rB L e=some f:=h
  unfold zd at h
  split at h
  ·next g gp a0 as0 fp m ap a r p=>
   split at h
   ·next z=>
    cases h
    rw[Bool.and_eq_true,Bool.and_eq_true,Bool.and_eq_true,decide_eq_true_eq,decide_eq_true_eq] at z
    obtain⟨⟨⟨rfl,z1⟩,z2⟩,z3⟩:=z
    refine Bx A6 ⟨rfl,z1,?_,fun e' r' he=>?_⟩ (hE o _) (jK (hE o) _) (fun e=>by cases e)
    ·rw[lV z2]
     show (true&&true&&decide _)=true
     rw[Bool.and_self,Bool.true_and,decide_eq_true_eq]
     simp only[List.length_nil,List.isEmpty_nil,if_true,List.length_cons]
     omega
    ·cases he
     rw[List.all_cons,Bool.and_eq_true] at z2
     exact⟨eT z2.1 r X.env,gX z2.2⟩
   ·cases h
  ·next x q a p=>
   split at h
   ·next z=>
    cases h
    rw[Bool.and_eq_true,Bool.and_eq_true,Bool.and_eq_true,Bool.and_eq_true,decide_eq_true_eq] at z
    obtain⟨⟨⟨⟨rfl,z1⟩,z2⟩,z3⟩,z4⟩:=z
    obtain⟨hg,hd⟩:=qx o z1
    obtain⟨d1,d2,d3⟩:=bK hd
    exact EY (zn o.calm) hg (o.g.bi _ z2) o6 (jK (hE o) [a]) d3 d1 (eT z4 [] X.env) rfl
   ·cases h
  ·cases h
 i:=fun _ _ _ _ _ h=>by cases h
 b:=fun _ _ _ _ _ h=>by cases h
 s:=fun _ _ _ _ _ _ h=>by cases h
end Dp
end
section
namespace Dp
open PySem L2 Fo
section
variable {i j d:Nat}{ρ:aK}{g g1 g2:FX}{f f1 fk fv fi':FE}{s t:Sl}{p v k:PV}{ps its:List PV}{ks:List e9}{bd:List (Nat×FE)}{fi:FI}{gr:List Gr}
noncomputable def Bw (o:Option Sl)(i:Nat)(ρ:aK):Out:=match o with
 |some t=>.nx (ρ.set i (some t))
 |none=>.bad
theorem aT:qd i g ρ=Bw (g ρ) i ρ:=Eq.trans rfl rfl
theorem ak:Bw (some t) i ρ=.nx (ρ.set i (some t)):=Eq.trans rfl rfl
theorem aS:tU i j g1 g2 ρ=tP (g1 ρ) (g2 ρ) i j ρ:=Eq.trans rfl rfl
theorem av:tP (some s) (some t) i j ρ=.nx ((ρ.set i (some s)).set j (some t)):=Eq.trans rfl rfl
theorem b5:xE f ρ=(f ρ).bind yY:=Eq.trans rfl rfl
theorem al:yY (.fz p)=some (.val p):=Eq.trans rfl rfl
theorem aw:yY (.nw ps)=some (.own ps):=Eq.trans rfl rfl
theorem aE:wm ρ=some (.dic [] []):=Eq.trans rfl rfl
theorem aB:rA f f1 ρ=uW ((f ρ).bind RV.fr) ((f1 ρ).bind RV.fr):=Eq.trans rfl rfl
theorem ai:uW (some k) (some v)=(ia k).map fun k=>.dic [k] [v]:=Eq.trans rfl rfl
theorem bu:Gg d i fi bd fk fv ρ=wj (sl ρ d) (fi ρ) d i bd fk fv ρ:=Eq.trans rfl rfl
theorem aQ:wj (some (.dic [] [])) (some its) d i bd fk fv ρ=if its.length≤1000 then CO (v0 i bd fk fv its (ρ.set d none) []) d else .bad:=Eq.trans rfl rfl
theorem aN:CO (some (ρ,gr)) d=.nx (ρ.set d (some (.val (F9 gr)))):=Eq.trans rfl rfl
theorem br:DB [] ρ=some ρ:=Eq.trans rfl rfl
theorem bw:DB ((i,f)::bd) ρ=((f ρ).bind RV.fr).bind fun p=>DB bd (ρ.set i (some (.val p))):=Eq.trans rfl rfl
theorem bv:v0 i bd fk fv [] ρ gr=some (ρ,gr):=Eq.trans rfl rfl
theorem bp:v0 i bd fk fv (p::ps) ρ gr=(DB bd (ρ.set i (some (.val p)))).bind fun ρ2=>(((fk ρ2).bind RV.fr).bind ia).bind fun k=>((fv ρ2).bind RV.fr).bind fun v=>v0 i bd fk fv ps ρ2 (Fc gr k v):=Eq.trans rfl rfl
theorem aP:wy f ρ=(f ρ).bind fun r=>r.fr.bind ll:=Eq.trans rfl rfl
theorem aq:ll (.dct ks ps)=some ps:=Eq.trans rfl rfl
theorem aM:wS f ρ=(f ρ).bind fun r=>r.fr.bind lj:=Eq.trans rfl rfl
theorem ao:lj (.dct ks ps)=some (ks.map Bh):=Eq.trans rfl rfl
theorem bq:F9 gr=.dct (gr.map (·.1)) (gr.map fun t=>.lst t.2):=Eq.trans rfl rfl
theorem aO:p4 j fi' f ρ=tS ((f ρ).bind RV.fr) (sl ρ j) ((fi' ρ).bind RV.fr) j ρ:=Eq.trans rfl rfl
theorem am {a:Int}:tS (some v) (some (.dic ks ps)) (some (.int a)) j ρ=if ks.length≤100000 then .nx (ρ.set j (some (.dic (kM ks (.inl a)) (kI ks ps (.inl a) v)))) else .bad:=Eq.trans rfl rfl
theorem aj:oY (.dic ks ps)=.ln (.dct ks ps):=Eq.trans rfl rfl
theorem aC {a:Int}:cq (.dct ks ps) (.int a)=(nF ks ps (.inl a)).map .fz:=Eq.trans rfl rfl
theorem aA {a:Int}:Do (.int a) (.dct ks ps)=some (.fz (.bl (nF ks ps (.inl a)).isSome)):=Eq.trans rfl rfl
theorem ah {a:Int}:ir (.int a) (.dct ks ps)=some (.fz (.bl (!(nF ks ps (.inl a)).isSome))):=Eq.trans rfl rfl
theorem b6:FW f ρ=(f ρ).bind fun r=>AD r.pv:=Eq.trans rfl rfl
theorem aR:AD (.lst ps)=some (!ps.isEmpty):=Eq.trans rfl rfl
theorem aD {k:Int}:nz (.own ps) [.int k]=if 0≤k/\k<100000 then (ps[k.toNat]?).map fun p=>(.own (ps.eraseIdx k.toNat),p) else none:=Eq.trans rfl rfl
theorem aG:lU [.dct ks ps]=some (.nw (ks.map Bh)):=Eq.trans rfl rfl
theorem aU:qJ i f ρ=sX (sl ρ i) ((f ρ).bind RV.fr) i ρ:=Eq.trans rfl rfl
theorem au {qs:List PV}:sX (some (.own ps)) (some (.lst qs)) i ρ=if ps.length+qs.length≤100000 then .nx (ρ.set i (some (.own (ps++qs)))) else .bad:=Eq.trans rfl rfl
theorem aF:frz 0 (some (.dic ks ps)::ρ)=some (.val (.dct ks ps))::ρ:=Eq.trans rfl rfl
theorem bN {k:Nat}{fs:FA}:mH i j k fs ρ=tR ((fs ρ).bind fun rs=>rs.mapM RV.fr) i j k ρ:=Eq.trans rfl rfl
theorem be {p q r:PV}{k:Nat}:tR (some [p,q,r]) i j k ρ=.nx (((ρ.set k (some (.val r))).set j (some (.val q))).set i (some (.val p))):=Eq.trans rfl rfl
end
end Dp
end
section
namespace Dp
open PySem L2
noncomputable def iq (ρ:aK):Out:=(dc (iJ (fB pV (aa (fV 0) (aa (fC (.ty "int")) af))) (m7 (qt (fB pV (aa (fV 0) (aa (fC (.ty "bool")) af))))))) ρ
noncomputable def bR:List PV->Option PR:=run 1 1 iq
theorem pM {a0:PV}:bR [a0]=(iq [some (.val a0)]).res:=Eq.trans rfl rfl
noncomputable def iS (ρ:aK):Out:=(dc (iJ (aX bR (aa (fV 0) af)) (m7 (zE Dv Dv (fC (.int 1)) (fV 0) (fC (.int 40)))))) ρ
noncomputable def gu:List PV->Option PR:=run 1 1 iS
theorem pY {a0:PV}:gu [a0]=(iS [some (.val a0)]).res:=Eq.trans rfl rfl
noncomputable def iu (ρ:aK):Out:=(dc (iJ (aX bR (aa (fV 1) af)) (m7 (zE Dv DN (fC (.int 0)) (fV 1) (fV 0))))) ρ
noncomputable def eO:List PV->Option PR:=run 2 2 iu
theorem pG {a0 a1:PV}:eO [a0,a1]=(iu [some (.val a0),some (.val a1)]).res:=Eq.trans rfl rfl
noncomputable def dH (ρ:aK):Out:=(aY (cH 3 (ax bO (ax cc (ax cc (ax gn (fV 3) (ax cc (ax bO (fV 3) (fC (.int 65521))) (fC (.int 40487)))) (ax gn (fC (.int 7)) (fV 5))) (fC (.int 5))) (fC (.int 1999999973))))
  (aY (lK hZ 2 (aa (ax cq (ft (aa (fV 3) (aa (ax bO (fV 4) (fC (.int 1000000))) af))) (fB p8 (aa (ax DA (fV 4) (fC (.int 0))) af))) af))
  (cH 4 (ax iF (fV 4) (fC (.int 1000000)))))) ρ
noncomputable def cY (ρ:aK):Out:=(aY (iG 2 (ft af))
  (aY (cH 3 (ax bO (ax gn (ax cc (ax bO (fV 0) (fC (.int 1999999973))) (fC (.int 31))) (fC (.int 765432101))) (fC (.int 1999999973))))
  (aY (cH 4 (fC (.int 0)))
  (aY (gO (jS (fT (ax DN (fV 0) (fC (.int 0)))) (fT (ax Gx (fV 0) (ax Cd (fC (.int 10)) (fC (.int 18)))))) (cH 4 (fB yc (aa (fV 0) af))) bG)
  (aY (g8 (jC kf (aa (fV 1) af)) (gN 5) dH)
  (gl 2)))))) ρ
noncomputable def aV:List PV->Option PR:=run 2 6 cY
theorem fO {a0 a1:PV}:aV [a0,a1]=(cY [some (.val a0),some (.val a1),none,none,none,none]).res:=Eq.trans rfl rfl
noncomputable def eZ (ρ:aK):Out:=(cH 2 (ax bO (ax cc (ax gn (fV 2) (fC (.int 69621))) (fV 3)) (fC (.int 2147483647)))) ρ
noncomputable def fU (ρ:aK):Out:=(aY (gO (fT (ax DN (fV 1) (fB iH (aa (fV 0) af)))) (dc (ax cq (fV 0) (fV 1))) bG)
  (aY (cH 2 (ax bO (ax gn (fC (.int 48271)) (ax cc (ax cc (ax gn (fV 1) (fV 1)) (ax gn (fC (.int 7)) (fV 1))) (fC (.int 11)))) (fC (.int 2147483647))))
  (aY (g8 (rM (sy (fV 0) qc (qh (fC (.int 3))))) (gN 3) eZ)
  (gl 2)))) ρ
noncomputable def bB:List PV->Option PR:=run 2 4 fU
theorem jt {a0 a1:PV}:bB [a0,a1]=(fU [some (.val a0),some (.val a1),none,none]).res:=Eq.trans rfl rfl
noncomputable def dB (ρ:aK):Out:=(aY (cH 7 (sy (aX aV (aa (aX bB (aa (fV 0) (aa (ax cc (ax cc (fV 1) (fC (.int 1))) (ax iF (fV 6) (fC (.int 5)))) af))) (aa (fC (.int 20)) af))) (qh (ax gn (fC (.int 4)) (ax bO (fV 6) (fC (.int 5))))) qc))
  (aY (mQ 8 9 (aa (ax bO (ax cq (fV 7) (fC (.int 0))) (fV 2)) (aa (ax bO (ax cq (fV 7) (fC (.int 1))) (fV 2)) af)))
  (aY (gO (fT (ax jR (ax bO (ax cq (fV 4) (fC (.int 1))) (fC (.int 4))) (fC (.int 1)))) (mQ 8 9 (aa (ax bO (fV 6) (fV 2)) (aa (ax bO (ax cc (fV 6) (fC (.int 1))) (fV 2)) af))) bG)
  (aY (gO (gm (fT (ax jR (ax bO (ax cq (fV 4) (fC (.int 1))) (fC (.int 4))) (fC (.int 2)))) (fT (ax DA (ax bO (ax cq (fV 7) (fC (.int 2))) (fC (.int 3))) (fC (.int 0))))) (aY (cH 8 (ax bO (ax gn (ax iF (fV 8) (fC (.int 2))) (fC (.int 2))) (fV 2)))
  (cH 9 (fB kK (aa (ax iN (fV 2) (fC (.int 1))) (aa (ax cc (fV 8) (fC (.int 1))) af))))) bG)
  (aY (gO (gm (fT (ax oq (fV 5) (ft af))) (fT (ax jR (ax bO (ax cq (fV 7) (fC (.int 2))) (fC (.int 7))) (fC (.int 1))))) (jL (ax cq (fV 5) (ax bO (ax cq (fV 7) (fC (.int 3))) (fB iH (aa (fV 5) af)))) (gw 2 (gC (gN 8) (gC (gN 9) g0)))) bG)
  (lK hZ 5 (aa (ax cq (ft (aa (gh (aa (fV 8) (aa (fV 9) af))) (aa (gh (aa (fV 9) (aa (fV 8) af))) af))) (ax bO (ax iF (ax cq (fV 7) (fC (.int 2))) (fC (.int 7))) (fC (.int 2)))) af))))))) ρ
noncomputable def gG (ρ:aK):Out:=(aY (cH 4 (aX aV (aa (aX bB (aa (fV 0) (aa (fV 1) af))) (aa (fC (.int 4)) af))))
  (aY (iG 5 (ft af))
  (aY (g8 (jC kf (aa (ax bO (ax cq (fV 4) (fC (.int 0))) (ax cc (fV 3) (fC (.int 1)))) af)) (gN 6) dB)
  (dc (fB qC (aa (fV 5) af)))))) ρ
noncomputable def dY:List PV->Option PR:=run 4 10 gG
theorem lP {a0 a1 a2 a3:PV}:dY [a0,a1,a2,a3]=(gG [some (.val a0),some (.val a1),some (.val a2),some (.val a3),none,none,none,none,none,none]).res:=Eq.trans rfl rfl
noncomputable def fW (ρ:aK):Out:=(dc (ax cq (ft (aa (ax cc (fC (.int 1)) (ax bO (ax iF (fV 0) (fC (.int 8))) (fC (.int 12)))) (aa (ax cc (fC (.int 1)) (ax bO (ax iF (fV 0) (fC (.int 8))) (fC (.int 40)))) af))) (fB p8 (aa (ax jR (ax bO (fV 0) (fC (.int 8))) (fC (.int 3))) af)))) ρ
noncomputable def gc:List PV->Option PR:=run 1 1 fW
theorem jy {a0:PV}:gc [a0]=(fW [some (.val a0)]).res:=Eq.trans rfl rfl
noncomputable def gK (ρ:aK):Out:=(gO (gM (fT (aX gu (aa (fV 0) af)))) cu bG) ρ
noncomputable def eB:List PV->Option PR:=run 1 1 gK
theorem lz {a0:PV}:eB [a0]=(gK [some (.val a0)]).res:=Eq.trans rfl rfl
noncomputable def eW (ρ:aK):Out:=(dc (iJ (fB pV (aa (fV 0) (aa (fC (.ty "int")) af))) (m7 (qt (fB pV (aa (fV 0) (aa (fC (.ty "bool")) af))))))) ρ
noncomputable def cs:List PV->Option PR:=run 1 1 eW
theorem iT {a0:PV}:cs [a0]=(eW [some (.val a0)]).res:=Eq.trans rfl rfl
noncomputable def iU (ρ:aK):Out:=(aY (gO (jS (gM (fT (fB pV (aa (fV 1) (aa (fC (.ty "tuple")) af))))) (fT (ax oq (fB iH (aa (fV 1) af)) (fC (.int 2))))) (dc (fC (.bl false))) bG)
  (dc (iJ (aX eO (aa (fV 0) (aa (ax cq (fV 1) (fC (.int 0))) af))) (m7 (aX eO (aa (fV 0) (aa (ax cq (fV 1) (fC (.int 1))) af))))))) ρ
noncomputable def gq:List PV->Option PR:=run 2 2 iU
theorem qQ {a0 a1:PV}:gq [a0,a1]=(iU [some (.val a0),some (.val a1)]).res:=Eq.trans rfl rfl
noncomputable def dX (ρ:aK):Option RV:=(ax cq (ft (aa (fV 0) (aa (ax cq (fV 1) (fV 2)) af))) (fB p8 (aa (ax jR (fV 0) (ax cq (fV 1) (fV 3))) af))) ρ
noncomputable def cZ (ρ:aK):Out:=(gO (fT (ax oq (ax cq (fV 2) (fV 5)) (ax cq (fV 2) (fV 6)))) (aY (lK hZ 3 (aa (fV 4) af))
  (cH 2 (fy [none,some 2,some 5,some 6] (rM (fV 2)) (gN 0) jk dX))) bG) ρ
noncomputable def g9 (ρ:aK):Out:=(aY (cH 2 (fB mi (aa (fB se (aa (fV 0) af)) af)))
  (aY (iG 3 (ft af))
  (aY (g8 (mv (aa (fV 1) af)) (gw 2 (gC (gN 4) (gC (gw 2 (gC (gN 5) (gC (gN 6) g0))) g0))) cZ)
  (gl 3)))) ρ
noncomputable def eQ:List PV->Option PR:=run 2 7 g9
theorem m9 {a0 a1:PV}:eQ [a0,a1]=(g9 [some (.val a0),some (.val a1),none,none,none,none,none]).res:=Eq.trans rfl rfl
noncomputable def dD (ρ:aK):Out:=(gO (gm (fT (ax jR (fV 5) (fV 4))) (fT (ax ir (fV 6) (fV 2)))) (aY (p4 2 (fV 6) (ax cc (ax cq (fV 2) (fV 4)) (gh (aa (fV 7) af))))
  (lK hZ 3 (aa (fV 6) af))) bG) ρ
noncomputable def cU (ρ:aK):Option Bool:=(FW (fV 3)) ρ
noncomputable def cQ (ρ:aK):Out:=(aY (vq nz 4 3 (aa (fC (.int 0)) af))
  (g8 (rM (fV 0)) (gw 3 (gC (gN 5) (gC (gN 6) (gC (gN 7) g0)))) dD)) ρ
noncomputable def ip (ρ:aK):Out:=(aY (qd 2 (rA (fV 1) (gh af)))
  (aY (iG 3 (ft (aa (fV 1) af)))
  (aY (kx cU cQ)
  (vM 2 (gl 2))))) ρ
noncomputable def cR:List PV->Option PR:=run 2 8 ip
theorem pF {a0 a1:PV}:cR [a0,a1]=(ip [some (.val a0),some (.val a1),none,none,none,none,none,none]).res:=Eq.trans rfl rfl
noncomputable def cX (ρ:aK):Out:=(aY (jL (sy (ax cq (fV 0) (fV 3)) qc (qh (fC (.int 2)))) (gw 2 (gC (gN 4) (gC (gN 5) g0))))
  (qJ 2 (ft (aa (gh (aa (fV 4) (aa (fV 5) (aa (gh (aa (fV 3) (aa (fC (.int 1)) af))) af)))) (aa (gh (aa (fV 5) (aa (fV 4) (aa (gh (aa (fV 3) (aa (qO (fC (.int 1))) af))) af)))) af))))) ρ
noncomputable def gi (ρ:aK):Out:=(aY (iG 2 (ft af))
  (aY (g8 (rM (fV 1)) (gN 3) cX)
  (gl 2))) ρ
noncomputable def cb:List PV->Option PR:=run 2 6 gi
theorem kW {a0 a1:PV}:cb [a0,a1]=(gi [some (.val a0),some (.val a1),none,none,none,none]).res:=Eq.trans rfl rfl
noncomputable def gz (ρ:aK):Out:=(aY (gO (jS (gM (fT (fB pV (aa (fV 1) (aa (fC (.ty "tuple")) af))))) (fT (ax oq (fB iH (aa (fV 1) af)) (fC (.int 3))))) (dc (fC (.bl false))) bG)
  (dc (iJ (aX gq (aa (fV 0) (aa (sy (fV 1) qc (qh (fC (.int 2)))) af))) (m7 (aX bR (aa (ax cq (fV 1) (fC (.int 2))) af)))))) ρ
noncomputable def d4:List PV->Option PR:=run 2 2 gz
theorem ly {a0 a1:PV}:d4 [a0,a1]=(gz [some (.val a0),some (.val a1)]).res:=Eq.trans rfl rfl
noncomputable def cN (ρ:aK):Option RV:=(ax iN (ax bO (ax cq (fV 1) (fV 0)) (ax cq (ft (aa (fC (.int 9)) (aa (fC (.int 1000)) (aa (fC (.int 400000000)) af)))) (ax bO (fV 2) (fC (.int 3))))) (ax bO (ax cq (fV 1) (ax cc (fV 3) (ax bO (fV 0) (fC (.int 4))))) (fC (.int 7)))) ρ
noncomputable def eD (ρ:aK):Out:=(dc (fy [none,some 0,some 2,some 1] (jC kf (aa (fV 1) af)) (gN 0) jk cN)) ρ
noncomputable def cg:List PV->Option PR:=run 3 3 eD
theorem jo {a0 a1 a2:PV}:cg [a0,a1,a2]=(eD [some (.val a0),some (.val a1),some (.val a2)]).res:=Eq.trans rfl rfl
noncomputable def cF (ρ:aK):Out:=(aY (cH 10 (aX aV (aa (aX bB (aa (fV 0) (aa (ax cc (ax cc (fV 1) (fC (.int 41))) (ax iF (fV 7) (fC (.int 20)))) af))) (aa (fC (.int 20)) af))))
  (lK hZ 6 (aa (gh (aa (fV 8) (aa (fV 9) (aa (ax cc (ax iN (ax cq (fV 5) (fV 9)) (ax cq (fV 5) (fV 8))) (ax gn (fV 3) (ax iN (ax bO (ax cq (fV 10) (ax bO (fV 7) (fC (.int 20)))) (fC (.int 7))) (fC (.int 3))))) af)))) af))) ρ
noncomputable def fD (ρ:aK):Out:=(aY (cH 4 (aX aV (aa (aX bB (aa (fV 0) (aa (fV 1) af))) (aa (fC (.int 3)) af))))
  (aY (cH 5 (aX cg (aa (aX aV (aa (aX bB (aa (fV 0) (aa (ax cc (fV 1) (fC (.int 40))) af))) (aa (ax cc (fV 2) (fC (.int 4))) af))) (aa (fV 2) (aa (ax cq (fV 4) (fC (.int 1))) af)))))
  (aY (iG 6 (ft af))
  (aY (g8 (mv (aa (aX dY (aa (fV 0) (aa (fV 1) (aa (fV 2) (aa (ax cq (ft (aa (fC (.int 12)) (aa (fC (.int 60)) af))) (fB p8 (aa (ax jR (ax bO (ax cq (fV 4) (fC (.int 2))) (fC (.int 8))) (fC (.int 1))) af))) af))))) af)) (gw 2 (gC (gN 7) (gC (gw 2 (gC (gN 8) (gC (gN 9) g0))) g0))) cF)
  (dc (fB qC (aa (fV 6) af))))))) ρ
noncomputable def dW:List PV->Option PR:=run 4 11 fD
theorem km {a0 a1 a2 a3:PV}:dW [a0,a1,a2,a3]=(fD [some (.val a0),some (.val a1),some (.val a2),some (.val a3),none,none,none,none,none,none,none]).res:=Eq.trans rfl rfl
noncomputable def gQ (ρ:aK):Out:=(dc (iJ (aX bR (aa (fV 0) af)) (m7 (Ae (ax jR (fV 0) (fC (.int 0))) (m7 (zE Dv Dv (fC (.int 2)) (fV 0) (fC (.int 1000)))))))) ρ
noncomputable def gv:List PV->Option PR:=run 1 1 gQ
theorem kN {a0:PV}:gv [a0]=(gQ [some (.val a0)]).res:=Eq.trans rfl rfl
noncomputable def gR (ρ:aK):Out:=(dc (FC (fT (ax jR (fV 0) (fC (.int 0)))) (fV 1) (ax bO (fV 1) (fV 0)))) ρ
noncomputable def d9:List PV->Option PR:=run 2 2 gR
theorem kG {a0 a1:PV}:d9 [a0,a1]=(gR [some (.val a0),some (.val a1)]).res:=Eq.trans rfl rfl
noncomputable def fR (ρ:aK):Option RV:=(ax gn (ax cq (ax cq (fV 2) (fV 0)) (fC (.int 2))) (fV 1)) ρ
noncomputable def iw (ρ:aK):Out:=(dc (aX d9 (aa (fV 0) (aa (fB Aq (aa (fy [none,none,some 1] (rM (fV 2)) (gw 2 (gC (gN 0) (gC (gN 1) g0))) jk fR) af)) af)))) ρ
noncomputable def dm:List PV->Option PR:=run 3 3 iw
theorem pH {a0 a1 a2:PV}:dm [a0,a1,a2]=(iw [some (.val a0),some (.val a1),some (.val a2)]).res:=Eq.trans rfl rfl
noncomputable def bf (ρ:aK):Out:=(aY (cH 7 (vD kh (aX cR (aa (aX cb (aa (fV 1) (aa (fV 2) af))) (aa (fV 4) af))) (aa (fV 5) af)))
  (gO (fT (ax uq (fV 7) (fC .non))) (lK hZ 2 (aa (fV 3) af)) (gO (fT (ax oq (aX dm (aa (fV 0) (aa (fV 1) (aa (fV 7) af)))) (aX d9 (aa (fV 0) (aa (fV 6) af))))) (vM 2 (dc (gh (aa (fV 2) (aa (gh (aa (fC (.str "clash")) (aa (fV 3) (aa (fV 7) af)))) af))))) bG))) ρ
noncomputable def d6 (ρ:aK):Out:=(aY (iG 2 (ft af))
  (aY (g8 (mv (aa (fV 1) af)) (gw 2 (gC (gN 3) (gC (gw 3 (gC (gN 4) (gC (gN 5) (gC (gN 6) g0)))) g0))) bf)
  (vM 2 (dc (gh (aa (fV 2) (aa (fC .non) af))))))) ρ
noncomputable def cf:List PV->Option PR:=run 2 8 d6
theorem ig {a0 a1:PV}:cf [a0,a1]=(d6 [some (.val a0),some (.val a1),none,none,none,none,none,none]).res:=Eq.trans rfl rfl
noncomputable def hJ (ρ:aK):Out:=(aY (cH 4 (fB u7 (aa (fB lU (aa (aX cR (aa (fV 2) (aa (fV 3) af))) af)) af)))
  (dc (aX dm (aa (fV 0) (aa (fV 1) (aa (ax cq (aX cR (aa (fV 2) (aa (fV 4) af))) (fV 3)) af)))))) ρ
noncomputable def eR:List PV->Option PR:=run 4 5 hJ
theorem ny {a0 a1 a2 a3:PV}:eR [a0,a1,a2,a3]=(hJ [some (.val a0),some (.val a1),some (.val a2),some (.val a3),none]).res:=Eq.trans rfl rfl
noncomputable def fH (ρ:aK):Out:=(dc (ax cq (ft (aa (fC (.int 0)) (aa (fC (.int 2)) (aa (fC (.int 3)) (aa (ax cc (fC (.int 2)) (ax bO (ax iF (fV 0) (fC (.int 8))) (fC (.int 11)))) (aa (ax cc (fC (.int 2)) (ax bO (ax iF (fV 0) (fC (.int 8))) (fC (.int 999)))) (aa (fC (.int 0)) (aa (fC (.int 1000)) (aa (fC (.int 2)) af))))))))) (ax bO (fV 0) (fC (.int 8))))) ρ
noncomputable def db:List PV->Option PR:=run 1 1 fH
theorem kz {a0:PV}:db [a0]=(fH [some (.val a0)]).res:=Eq.trans rfl rfl
noncomputable def gT (ρ:aK):Out:=(aY (gO (fT (ax jR (fV 1) (fC (.int 0)))) (gl 0) bG)
  (dc (ax bO (fV 0) (fV 1)))) ρ
noncomputable def ca:List PV->Option PR:=run 2 2 gT
theorem kF {a0 a1:PV}:ca [a0,a1]=(gT [some (.val a0),some (.val a1)]).res:=Eq.trans rfl rfl
noncomputable def b8 (ρ:aK):Out:=(aY (gO (gm (fT (ax jR (fV 7) (ax cq (fV 5) (fV 6)))) (fT (ax uq (ax cq (fV 3) (fV 8)) (fC .non)))) (aY (mJ 3 (fV 8) (aX ca (aa (ax cc (ax cq (fV 3) (fV 7)) (fV 9)) (aa (fV 1) af))))
  (lK hZ 5 (aa (fV 8) af))) bG)
  (gO (gm (fT (ax jR (fV 8) (ax cq (fV 5) (fV 6)))) (fT (ax uq (ax cq (fV 3) (fV 7)) (fC .non)))) (aY (mJ 3 (fV 7) (aX ca (aa (ax iN (ax cq (fV 3) (fV 8)) (fV 9)) (aa (fV 1) af))))
  (lK hZ 5 (aa (fV 7) af))) bG)) ρ
noncomputable def aJ (ρ:aK):Option Bool:=(fT (ax DN (fV 6) (fB iH (aa (fV 5) af)))) ρ
noncomputable def aI (ρ:aK):Out:=(aY (g8 (rM (fV 2)) (gw 3 (gC (gN 7) (gC (gN 8) (gC (gN 9) g0)))) b8)
  (cH 6 (ax cc (fV 6) (fC (.int 1))))) ρ
noncomputable def bh (ρ:aK):Out:=(gO (fT (ax uq (ax cq (fV 3) (fV 4)) (fC .non))) (aY (mJ 3 (fV 4) (fC (.int 0)))
  (aY (iG 5 (ft (aa (fV 4) af)))
  (aY (cH 6 (fC (.int 0)))
  (kx aJ aI)))) bG) ρ
noncomputable def bx (ρ:aK):Out:=(gO (fT (ax oq (aX ca (aa (ax iN (ax iN (ax cq (fV 3) (fV 8)) (ax cq (fV 3) (fV 7))) (fV 9)) (aa (fV 1) af))) (fC (.int 0)))) (dc (fC .non)) bG) ρ
noncomputable def cM (ρ:aK):Out:=(aY (iG 3 (ax gn (ft (aa (fC .non) af)) (fV 0)))
  (aY (g8 (jC kf (aa (fV 0) af)) (gN 4) bh)
  (aY (g8 (rM (fV 2)) (gw 3 (gC (gN 7) (gC (gN 8) (gC (gN 9) g0)))) bx)
  (dc (fB qC (aa (fV 3) af)))))) ρ
noncomputable def bC:List PV->Option PR:=run 3 10 cM
theorem gb {a0 a1 a2:PV}:bC [a0,a1,a2]=(cM [some (.val a0),some (.val a1),some (.val a2),none,none,none,none,none,none,none]).res:=Eq.trans rfl rfl
noncomputable def bH (ρ:aK):Out:=(aY (gO (fT (ax jR (fV 0) (gh af))) (gl 0) bG)
  (aY (cH 4 (ax bO (ax cq (fV 2) (ax cc (fC (.int 1)) (ax gn (fC (.int 2)) (fV 3)))) (fB iH (aa (fV 0) af))))
  (aY (jL (ax cq (fV 0) (fV 4)) (gw 3 (gC (gN 5) (gC (gN 6) (gC (gN 7) g0)))))
  (aY (cH 8 (ax cq (ft (aa (fC (.int 1)) (aa (qO (fC (.int 1))) (aa (ax cc (fC (.int 1)) (ax bO (ax cq (fV 2) (ax cc (fC (.int 2)) (ax gn (fC (.int 2)) (fV 3)))) (fC (.int 1000)))) (aa (fB n6 (aa (fC (.int 1)) (aa (fV 1) af))) (aa (ax iN (fC (.int 0)) (fV 7)) af)))))) (ax bO (ax iF (ax cq (fV 2) (ax cc (fC (.int 2)) (ax gn (fC (.int 2)) (fV 3)))) (fC (.int 1000))) (fC (.int 5)))))
  (cH 0 (ax cc (ax cc (sy (fV 0) qc (qh (fV 4))) (gh (aa (gh (aa (fV 5) (aa (fV 6) (aa (ax cc (fV 7) (fV 8)) af)))) af))) (sy (fV 0) (qh (ax cc (fV 4) (fC (.int 1)))) qc))))))) ρ
noncomputable def gj (ρ:aK):Out:=(aY (g8 (jC kf (aa (ax bO (ax cq (fV 2) (fC (.int 0))) (fC (.int 5))) af)) (gN 3) bH)
  (gl 0)) ρ
noncomputable def eJ:List PV->Option PR:=run 3 9 gj
theorem kU {a0 a1 a2:PV}:eJ [a0,a1,a2]=(gj [some (.val a0),some (.val a1),some (.val a2),none,none,none,none,none,none]).res:=Eq.trans rfl rfl
noncomputable def cL (ρ:aK):Option RV:=(sy (fV 0) qc (qh (fC (.int 2)))) ρ
noncomputable def ce (ρ:aK):Option RV:=(aX cs (aa (fV 0) af)) ρ
noncomputable def bT (ρ:aK):Out:=(aY (gO (jS (gM (fT (fB pV (aa (fV 12) (aa (fC (.ty "tuple")) af))))) (jS (fT (ax oq (fB iH (aa (fV 12) af)) (fC (.int 2)))) (gM (fT (fB wf (aa (fy [none] (rM (fV 12)) (gN 0) jk ce) af)))))) (dc (fC (.bl false))) bG)
  (aY (gO (jS (fT (ax ir (ax cq (fV 12) (fC (.int 0))) (fV 8))) (fT (ax ir (ax cq (fV 12) (fC (.int 1))) (ft (aa (fC (.int 1)) (aa (qO (fC (.int 1))) af)))))) (dc (fC (.bl false))) bG)
  (aY (jL (ax cq (fV 2) (ax cq (fV 12) (fC (.int 0)))) (gw 3 (gC (gN 13) (gC (gN 14) (gC (gN 15) g0)))))
  (aY (gO (fT (ax jR (ax cq (fV 12) (fC (.int 1))) (qO (fC (.int 1))))) (mH 13 14 15 (aa (fV 14) (aa (fV 13) (aa (ax iN (fC (.int 0)) (fV 15)) af)))) bG)
  (aY (gO (jS (fT (ax oq (fV 13) (fV 9))) (fT (ax Do (fV 14) (fV 10)))) (dc (fC (.bl false))) bG)
  (mH 9 10 11 (aa (fV 14) (aa (ax cc (fV 10) (ft (aa (fV 14) af))) (aa (ax cc (fV 11) (fV 15)) af))))))))) ρ
noncomputable def eC (ρ:aK):Out:=(aY (jL (ax cq (fV 2) (fV 3)) (gw 3 (gC (gN 5) (gC (gN 6) (gC (gN 7) g0)))))
  (aY (cH 8 (aX eQ (aa (fV 0) (aa (fy [none] (rM (sy (fV 2) qc (qh (fV 3)))) (gN 0) jk cL) af))))
  (aY (mH 9 10 11 (aa (fV 5) (aa (ft (aa (fV 5) af)) (aa (fC (.int 0)) af))))
  (aY (gO (gM (fT (fB pV (aa (fV 4) (aa (fC (.ty "tuple")) af))))) (dc (fC (.bl false))) bG)
  (aY (g8 (rM (fV 4)) (gN 12) bT)
  (dc (iJ (ax jR (fV 9) (fV 6)) (m7 (ax oq (aX ca (aa (ax iN (fV 11) (fV 7)) (aa (fV 1) af))) (fC (.int 0))))))))))) ρ
noncomputable def cG:List PV->Option PR:=run 5 16 eC
theorem jr {a0 a1 a2 a3 a4:PV}:cG [a0,a1,a2,a3,a4]=(eC [some (.val a0),some (.val a1),some (.val a2),some (.val a3),some (.val a4),none,none,none,none,none,none,none,none,none,none,none]).res:=Eq.trans rfl rfl
end Dp
end
section
namespace Dp
open PySem L2
noncomputable def bP (ρ:aK):Out:=(gO (fT (ax uq (aX bC (aa (fV 0) (aa (fV 1) (aa (Du (fV 2) qc (qh (ax cc (fV 3) (fC (.int 1))))) af)))) (fC .non))) (gl 3) bG) ρ
noncomputable def eY (ρ:aK):Out:=(aY (g8 (jC kf (aa (fB iH (aa (fV 2) af)) af)) (gN 3) bP)
  (dc (fC .non))) ρ
noncomputable def d8:List PV->Option PR:=run 3 4 eY
theorem iQ {a0 a1 a2:PV}:d8 [a0,a1,a2]=(eY [some (.val a0),some (.val a1),some (.val a2),none]).res:=Eq.trans rfl rfl
noncomputable def eX (ρ:aK):Out:=(gO (gM (fT (lO [("is_telling",d4)] 2 (aa (fV 0) (aa (fV 4) af))))) cu bG) ρ
noncomputable def g6 (ρ:aK):Out:=(aY (gO (gM (fT (fB pV (aa (fV 1) (aa (fC (.ty "tuple")) af))))) cu bG)
  (g8 (mv (aa (fV 1) af)) (gw 2 (gC (gN 3) (gC (gN 4) g0))) eX)) ρ
noncomputable def eU:List PV->Option PR:=run 3 5 g6
theorem nq {a0 a1 a2:PV}:eU [a0,a1,a2]=(g6 [some (.val a0),some (.val a1),some (.val a2),none,none]).res:=Eq.trans rfl rfl
noncomputable def bU (ρ:aK):Out:=(aY (iP (aX eB (aa (fV 0) af)))
  (aY (gO (gM (fT (aX gv (aa (fV 1) af)))) cu bG)
  (iP (aX eU (aa (fV 0) (aa (fV 2) (aa (fC (.fn "is_telling")) af))))))) ρ
noncomputable def bI:List PV->Option PR:=run 3 3 bU
theorem dJ {a0 a1 a2:PV}:bI [a0,a1,a2]=(bU [some (.val a0),some (.val a1),some (.val a2)]).res:=Eq.trans rfl rfl
noncomputable def ff (ρ:aK):Option RV:=(aX eR (aa (fV 1) (aa (fV 2) (aa (fV 3) (aa (fV 0) af))))) ρ
noncomputable def gY (ρ:aK):Out:=(aY (iP (aX bI (aa (fV 0) (aa (fV 1) (aa (fV 2) af)))))
  (aY (jL (aX cf (aa (fV 1) (aa (fV 2) af))) (gw 2 (gC (gN 3) (gC (gN 4) g0))))
  (aY (gO (fT (ax mj (fV 4) (fC .non))) (gl 4) bG)
  (aY (cH 5 (aX cb (aa (fV 2) (aa (fV 3) af))))
  (dc (gh (aa (fC (.str "fits")) (aa (fB qC (aa (fy [none,some 1,some 2,some 5] (jC kf (aa (fV 0) af)) (gN 0) jk ff) af)) af)))))))) ρ
noncomputable def fL:List PV->Option PR:=run 3 6 gY
theorem kT {a0 a1 a2:PV}:fL [a0,a1,a2]=(gY [some (.val a0),some (.val a1),some (.val a2),none,none,none]).res:=Eq.trans rfl rfl
noncomputable def ib (ρ:aK):Out:=(aY (cH 2 (aX aV (aa (aX bB (aa (fV 0) (aa (fV 1) af))) (aa (fC (.int 5)) af))))
  (aY (mQ 3 4 (aa (aX gc (aa (ax cq (fV 2) (fC (.int 3))) af)) (aa (aX db (aa (ax cq (fV 2) (fC (.int 4))) af)) af)))
  (aY (cH 5 (aX eJ (aa (aX dW (aa (fV 0) (aa (fV 1) (aa (fV 3) (aa (fV 4) af))))) (aa (fV 4) (aa (aX aV (aa (aX bB (aa (fV 0) (aa (ax cc (fV 1) (fC (.int 50))) af))) (aa (fC (.int 9)) af))) af)))))
  (aY (cH 6 (aX d8 (aa (fV 3) (aa (fV 4) (aa (fV 5) af)))))
  (aY (cH 7 (aX fL (aa (fV 3) (aa (fV 4) (aa (fV 5) af)))))
  (aY (gO (fT (ax uq (fV 6) (fC .non))) (aY (gO (fT (ax oq (fV 7) (gh (aa (fC (.str "fits")) (aa (aX bC (aa (fV 3) (aa (fV 4) (aa (fV 5) af)))) af))))) (dc (fC (.bl false))) bG)
  FQ) bG)
  (aY (gO (jS (gM (fT (fB pV (aa (fV 7) (aa (fC (.ty "tuple")) af))))) (jS (fT (ax oq (fB iH (aa (fV 7) af)) (fC (.int 3)))) (jS (fT (ax oq (sy (fV 7) qc (qh (fC (.int 2)))) (gh (aa (fC (.str "clash")) (aa (fV 6) af))))) (gM (fT (aX cs (aa (ax cq (fV 7) (fC (.int 1))) af))))))) (dc (fC (.bl false))) bG)
  (gO (jS (gM (fT (aX cG (aa (fV 3) (aa (fV 4) (aa (fV 5) (aa (fV 6) (aa (ax cq (fV 7) (fC (.int 2))) af)))))))) (fT (ax oq (sy (aX fL (aa (fV 3) (aa (fV 4) (aa (fV 5) af)))) qc (qh (fC (.int 2)))) (sy (fV 7) qc (qh (fC (.int 2))))))) (dc (fC (.bl false))) bG)))))))) ρ
noncomputable def pp (ρ:aK):Out:=(aY (g8 (jC sK (aa (fC (.int 0)) (aa (fB n6 (aa (fC (.int 1)) (aa (fB kK (aa (fB iH (aa (fV 0) af)) (aa (fC (.int 3)) af))) af))) af))) (gN 1) ib)
  (dc (fC (.bl true)))) ρ
noncomputable def uy:List PV->Option PR:=run 1 8 pp
theorem Aj {a0:PV}:uy [a0]=(pp [some (.val a0),none,none,none,none,none,none,none]).res:=Eq.trans rfl rfl
end Dp
end
section
namespace K46
open PySem L2 Dp
noncomputable def top (i:Nat):Stmt:=(PySem.Challenge.pw_lotheads_k46_tellings_that_clash.main.body)[i]?.getD (.Pass ⟨0,0,0,0⟩)
structure Txt (P:Program)(w:World)(K:PySem.W.Frag)(mg:Str->Option Value):Prop where
 n_abs:mg "abs" = none
 n_all:mg "all" = none
 n_bool:mg "bool" = none
 n_enumerate:mg "enumerate" = none
 n_int:mg "int" = none
 n_isinstance:mg "isinstance" = none
 n_len:mg "len" = none
 n_list:mg "list" = none
 n_max:mg "max" = none
 n_min:mg "min" = none
 n_range:mg "range" = none
 n_sum:mg "sum" = none
 n_tuple:mg "tuple" = none
 c_MOST_THINGS:∃t,mg "MOST_THINGS" = some (.int 40 t)
noncomputable abbrev cB:Stmt:=top 28
theorem la:FnScope ["_law_cell_here","_law_many_here","_law_some","_law_state","_law_digits","_law_k"] ["_law_cell_here","_law_many_here"] (ae cB):=⟨rfl,rfl,rfl,by decide +kernel,rfl,by decide +kernel,by decide +kernel⟩
noncomputable abbrev cO:Stmt:=top 38
theorem mN:FnScope ["_law_row","_law_rest","_law_xs","_law_k","_law_at","_law_x","_law_y","_law_by_here","_law_more"] ["_law_row","_law_rest","_law_xs"] (ae cO):=⟨rfl,rfl,rfl,by decide +kernel,rfl,by decide +kernel,by decide +kernel⟩
noncomputable abbrev fM:Stmt:=top 36
theorem sC:FnScope ["_law_number","_law_rest"] ["_law_number","_law_rest"] (ae fM):=⟨rfl,rfl,rfl,by decide +kernel,rfl,by decide +kernel,by decide +kernel⟩
noncomputable abbrev bS:Stmt:=top 37
theorem jq:FnScope ["_law_many_here","_law_rest","_law_row","_law_known","_law_start","_law_waiting","_law_at","_law_x","_law_y","_law_by_here"] ["_law_many_here","_law_rest","_law_row"] (ae bS):=⟨rfl,rfl,rfl,by decide +kernel,rfl,by decide +kernel,by decide +kernel⟩
noncomputable abbrev de:Stmt:=top 39
theorem mV:FnScope ["_law_many_here","_law_rest","_law_row","_law_number"] ["_law_many_here","_law_rest","_law_row"] (ae de):=⟨rfl,rfl,rfl,by decide +kernel,rfl,by decide +kernel,by decide +kernel⟩
noncomputable abbrev eK:Stmt:=top 7
theorem qB:FnScope ["thing"] ["thing"] (ae eK):=⟨rfl,rfl,rfl,by decide +kernel,rfl,by decide +kernel,by decide +kernel⟩
noncomputable abbrev fI:Stmt:=top 8
theorem sM:FnScope ["thing"] ["thing"] (ae fI):=⟨rfl,rfl,rfl,by decide +kernel,rfl,by decide +kernel,by decide +kernel⟩
noncomputable abbrev dz:Stmt:=top 10
theorem mU:FnScope ["many"] ["many"] (ae dz):=⟨rfl,rfl,rfl,by decide +kernel,rfl,by decide +kernel,by decide +kernel⟩
noncomputable abbrev dN:Stmt:=top 17
theorem pb:FnScope ["many","row","is_right","number","place"] ["many","row","is_right"] (ae dN):=⟨rfl,rfl,rfl,by decide +kernel,rfl,by decide +kernel,by decide +kernel⟩
noncomputable abbrev eP:Stmt:=top 9
theorem qF:FnScope ["many","thing"] ["many","thing"] (ae eP):=⟨rfl,rfl,rfl,by decide +kernel,rfl,by decide +kernel,by decide +kernel⟩
noncomputable abbrev fA:Stmt:=top 12
theorem sI:FnScope ["many","thing"] ["many","thing"] (ae fA):=⟨rfl,rfl,rfl,by decide +kernel,rfl,by decide +kernel,by decide +kernel⟩
noncomputable abbrev df:Stmt:=top 13
theorem m6:FnScope ["many","thing"] ["many","thing"] (ae df):=⟨rfl,rfl,rfl,by decide +kernel,rfl,by decide +kernel,by decide +kernel⟩
noncomputable abbrev fK:Stmt:=top 14
theorem sJ:FnScope ["thing"] ["thing"] (ae fK):=⟨rfl,rfl,rfl,by decide +kernel,rfl,by decide +kernel,by decide +kernel⟩
noncomputable abbrev bm:Stmt:=top 22
theorem gI:FnScope ["many","rest","tellings"] ["many","rest","tellings"] (ae bm):=⟨rfl,rfl,rfl,by decide +kernel,rfl,by decide +kernel,by decide +kernel⟩
noncomputable abbrev eN:Stmt:=top 20
theorem qG:FnScope ["steps","x","roads","waiting","at","start","end","label"] ["steps","x"] (ae eN):=⟨rfl,rfl,rfl,by decide +kernel,rfl,by decide +kernel,by decide +kernel⟩
noncomputable abbrev fE:Stmt:=top 15
theorem sf:FnScope ["rest","number"] ["rest","number"] (ae fE):=⟨rfl,rfl,rfl,by decide +kernel,rfl,by decide +kernel,by decide +kernel⟩
noncomputable abbrev eL:Stmt:=top 16
theorem qT:FnScope ["rest","tellings","road"] ["rest","tellings","road"] (ae eL):=⟨rfl,rfl,rfl,by decide +kernel,rfl,by decide +kernel,by decide +kernel⟩
noncomputable abbrev cP:Stmt:=top 19
theorem lF:FnScope ["row","numbers","steps","number","first","second"] ["row","numbers"] (ae cP):=⟨rfl,rfl,rfl,by decide +kernel,rfl,by decide +kernel,by decide +kernel⟩
noncomputable abbrev cx:Stmt:=top 23
theorem kX:FnScope ["rest","tellings","joining","number","x","y","more","road"] ["rest","tellings"] (ae cx):=⟨rfl,rfl,rfl,by decide +kernel,rfl,by decide +kernel,by decide +kernel⟩
noncomputable abbrev dL:Stmt:=top 24
theorem oS:FnScope ["rest","tellings","steps","x","least"] ["rest","tellings","steps","x"] (ae dL):=⟨rfl,rfl,rfl,by decide +kernel,rfl,by decide +kernel,by decide +kernel⟩
noncomputable abbrev fF:Stmt:=top 25
theorem rQ:FnScope ["many","rest","tellings","joining","clash","steps"] ["many","rest","tellings"] (ae fF):=⟨rfl,rfl,rfl,by decide +kernel,rfl,by decide +kernel,by decide +kernel⟩
noncomputable abbrev dP:Stmt:=top 27
theorem pK:FnScope ["_law_script","_law_k","_law_state","_law_cell_here"] ["_law_script","_law_k"] (ae dP):=⟨rfl,rfl,rfl,by decide +kernel,rfl,by decide +kernel,by decide +kernel⟩
noncomputable abbrev dS:Stmt:=top 29
theorem pP:FnScope ["_law_x"] ["_law_x"] (ae dS):=⟨rfl,rfl,rfl,by decide +kernel,rfl,by decide +kernel,by decide +kernel⟩
noncomputable abbrev cy:Stmt:=top 33
theorem lg:FnScope ["_law_x"] ["_law_x"] (ae cy):=⟨rfl,rfl,rfl,by decide +kernel,rfl,by decide +kernel,by decide +kernel⟩
noncomputable abbrev bW:Stmt:=top 34
theorem jF:FnScope ["_law_xs","_law_many_here","_law_wide"] ["_law_xs","_law_many_here","_law_wide"] (ae bW):=⟨rfl,rfl,rfl,by decide +kernel,rfl,by decide +kernel,by decide +kernel⟩
noncomputable abbrev di:Stmt:=top 30
theorem nv:FnScope ["_law_script","_law_at","_law_many_here","_law_most","_law_head","_law_row","_law_k","_law_xs","_law_x","_law_y"] ["_law_script","_law_at","_law_many_here","_law_most"] (ae di):=⟨rfl,rfl,rfl,by decide +kernel,rfl,by decide +kernel,by decide +kernel⟩
noncomputable abbrev cw:Stmt:=top 35
theorem kZ:FnScope ["_law_script","_law_at","_law_many_here","_law_rest","_law_head","_law_heights_own","_law_row","_law_number","_law_x","_law_y","_law_xs"] ["_law_script","_law_at","_law_many_here","_law_rest"] (ae cw):=⟨rfl,rfl,rfl,by decide +kernel,rfl,by decide +kernel,by decide +kernel⟩
noncomputable abbrev dh:Stmt:=top 32
theorem m5:FnScope ["_law_thing"] ["_law_thing"] (ae dh):=⟨rfl,rfl,rfl,by decide +kernel,rfl,by decide +kernel,by decide +kernel⟩
noncomputable abbrev dU:Stmt:=top 31
theorem pS:FnScope ["_law_many_here","_law_row","_law_lots","_law_real_here","_law_number","_law_x","_law_y"] ["_law_many_here","_law_row"] (ae dU):=⟨rfl,rfl,rfl,by decide +kernel,rfl,by decide +kernel,by decide +kernel⟩
noncomputable abbrev bY:Stmt:=top 40
theorem jH:FnScope ["_law_many_here","_law_rest","_law_row","_law_number","_law_ring","_law_x","_law_y","_law_by_here","_law_real_here","_law_here","_law_gone","_law_comes","_law_part","_law_one","_law_other","_law_more"] ["_law_many_here","_law_rest","_law_row","_law_number","_law_ring"] (ae bY):=⟨rfl,rfl,rfl,by decide +kernel,rfl,by decide +kernel,by decide +kernel⟩
noncomputable abbrev oH:Stmt:=top 41
theorem Dr:FnScope ["_law_script","_law_at","_law_xs","_law_many_here","_law_rest","_law_row","_law_number","_law_told"] ["_law_script"] (ae oH):=⟨rfl,rfl,rfl,by decide +kernel,rfl,by decide +kernel,by decide +kernel⟩
noncomputable def G0:Gc:={ bi:=["abs","all","bool","enumerate","int","isinstance","len","list","max","min","range","sum","tuple"],nis:=[("MOST_THINGS",40)],tups:=[],dcts:=[],hk:=(((hkExp.or Bi).or Bq).or BB).or xT }
theorem jI:HkOk G0.hk:=(ti (ti (ti (ti yv yw) wQ) yd) vG)
end K46
end
section
namespace K46
open PySem L2 Dp
section
variable {P:Program}{w:World}{K:PySem.W.Frag}{mg:Str->Option Value}{base:Heap}
theorem ld (T:Txt P w K mg)(KI:K.In base)(F:bQ K mg "_law_numbers" cB ["_law_cell_here","_law_many_here"]):DefN P w K mg base true 1 "_law_numbers" aV:=
 cE (G:={ G0 with fns:=[] }) { sc:=ae cB,N:=["_law_cell_here","_law_many_here","_law_some","_law_state","_law_digits","_law_k"],own:=["_law_some"] } F la (jE ⟨T.n_abs,⟨T.n_all,⟨T.n_bool,⟨T.n_enumerate,⟨T.n_int,⟨T.n_isinstance,⟨T.n_len,⟨T.n_list,⟨T.n_max,⟨T.n_min,⟨T.n_range,⟨T.n_sum,⟨T.n_tuple,trivial⟩⟩⟩⟩⟩⟩⟩⟩⟩⟩⟩⟩⟩ ⟨T.c_MOST_THINGS,trivial⟩ trivial trivial trivial trivial trivial trivial) jI (by kernel_rfl)
theorem mC (T:Txt P w K mg)(KI:K.In base)(F:bQ K mg "_law_spoilt" cO ["_law_row","_law_rest","_law_xs"]):DefN P w K mg base true 1 "_law_spoilt" eJ:=
 cE (G:={ G0 with fns:=[] }) { sc:=ae cO,N:=["_law_row","_law_rest","_law_xs","_law_k","_law_at","_law_x","_law_y","_law_by_here","_law_more"] } F mN (jE ⟨T.n_abs,⟨T.n_all,⟨T.n_bool,⟨T.n_enumerate,⟨T.n_int,⟨T.n_isinstance,⟨T.n_len,⟨T.n_list,⟨T.n_max,⟨T.n_min,⟨T.n_range,⟨T.n_sum,⟨T.n_tuple,trivial⟩⟩⟩⟩⟩⟩⟩⟩⟩⟩⟩⟩⟩ ⟨T.c_MOST_THINGS,trivial⟩ trivial trivial trivial trivial trivial trivial) jI (by kernel_rfl)
theorem sv (T:Txt P w K mg)(KI:K.In base)(F:bQ K mg "_law_by" fM ["_law_number","_law_rest"]):DefN P w K mg base true 1 "_law_by" ca:=
 cE (G:={ G0 with fns:=[] }) { sc:=ae fM,N:=["_law_number","_law_rest"] } F sC (jE ⟨T.n_abs,⟨T.n_all,⟨T.n_bool,⟨T.n_enumerate,⟨T.n_int,⟨T.n_isinstance,⟨T.n_len,⟨T.n_list,⟨T.n_max,⟨T.n_min,⟨T.n_range,⟨T.n_sum,⟨T.n_tuple,trivial⟩⟩⟩⟩⟩⟩⟩⟩⟩⟩⟩⟩⟩ ⟨T.c_MOST_THINGS,trivial⟩ trivial trivial trivial trivial trivial trivial) jI (by kernel_rfl)
theorem jm (T:Txt P w K mg)(KI:K.In base)(F:bQ K mg "_law_due_heights" bS ["_law_many_here","_law_rest","_law_row"])(d__law_by:DefN P w K mg base true 1 "_law_by" ca):DefN P w K mg base true 2 "_law_due_heights" bC:=
 cE (G:={ G0 with fns:=[("_law_by",ca)] }) { sc:=ae bS,N:=["_law_many_here","_law_rest","_law_row","_law_known","_law_start","_law_waiting","_law_at","_law_x","_law_y","_law_by_here"],own:=["_law_known","_law_waiting"] } F jq (jE ⟨T.n_abs,⟨T.n_all,⟨T.n_bool,⟨T.n_enumerate,⟨T.n_int,⟨T.n_isinstance,⟨T.n_len,⟨T.n_list,⟨T.n_max,⟨T.n_min,⟨T.n_range,⟨T.n_sum,⟨T.n_tuple,trivial⟩⟩⟩⟩⟩⟩⟩⟩⟩⟩⟩⟩⟩ ⟨T.c_MOST_THINGS,trivial⟩ trivial trivial ⟨⟨_,by decide,d__law_by⟩,trivial⟩ trivial trivial trivial) jI (by kernel_rfl)
theorem mY (T:Txt P w K mg)(KI:K.In base)(F:bQ K mg "_law_first" de ["_law_many_here","_law_rest","_law_row"])(d__law_due_heights:DefN P w K mg base true 2 "_law_due_heights" bC):DefN P w K mg base true 3 "_law_first" d8:=
 cE (G:={ G0 with fns:=[("_law_due_heights",bC)] }) { sc:=ae de,N:=["_law_many_here","_law_rest","_law_row","_law_number"],alt:=[(180,55)] } F mV (jE ⟨T.n_abs,⟨T.n_all,⟨T.n_bool,⟨T.n_enumerate,⟨T.n_int,⟨T.n_isinstance,⟨T.n_len,⟨T.n_list,⟨T.n_max,⟨T.n_min,⟨T.n_range,⟨T.n_sum,⟨T.n_tuple,trivial⟩⟩⟩⟩⟩⟩⟩⟩⟩⟩⟩⟩⟩ ⟨T.c_MOST_THINGS,trivial⟩ trivial trivial ⟨⟨_,by decide,d__law_due_heights⟩,trivial⟩ trivial trivial trivial) jI (by kernel_rfl)
theorem p7 (T:Txt P w K mg)(KI:K.In base)(F:bQ K mg "is_whole" eK ["thing"]):DefN P w K mg base true 1 "is_whole" bR:=
 cE (G:={ G0 with fns:=[] }) { sc:=ae eK,N:=["thing"] } F qB (jE ⟨T.n_abs,⟨T.n_all,⟨T.n_bool,⟨T.n_enumerate,⟨T.n_int,⟨T.n_isinstance,⟨T.n_len,⟨T.n_list,⟨T.n_max,⟨T.n_min,⟨T.n_range,⟨T.n_sum,⟨T.n_tuple,trivial⟩⟩⟩⟩⟩⟩⟩⟩⟩⟩⟩⟩⟩ ⟨T.c_MOST_THINGS,trivial⟩ trivial trivial trivial trivial trivial trivial) jI (by kernel_rfl)
theorem sd (T:Txt P w K mg)(KI:K.In base)(F:bQ K mg "is_many" fI ["thing"])(d_is_whole:DefN P w K mg base true 1 "is_whole" bR):DefN P w K mg base true 2 "is_many" gu:=
 cE (G:={ G0 with fns:=[("is_whole",bR)] }) { sc:=ae fI,N:=["thing"] } F sM (jE ⟨T.n_abs,⟨T.n_all,⟨T.n_bool,⟨T.n_enumerate,⟨T.n_int,⟨T.n_isinstance,⟨T.n_len,⟨T.n_list,⟨T.n_max,⟨T.n_min,⟨T.n_range,⟨T.n_sum,⟨T.n_tuple,trivial⟩⟩⟩⟩⟩⟩⟩⟩⟩⟩⟩⟩⟩ ⟨T.c_MOST_THINGS,trivial⟩ trivial trivial ⟨⟨_,by decide,d_is_whole⟩,trivial⟩ trivial trivial trivial) jI (by kernel_rfl)
theorem nk (T:Txt P w K mg)(KI:K.In base)(F:bQ K mg "check_many" dz ["many"])(d_is_many:DefN P w K mg base true 2 "is_many" gu):DefN P w K mg base true 3 "check_many" eB:=
 cE (G:={ G0 with fns:=[("is_many",gu)] }) { sc:=ae dz,N:=["many"] } F mU (jE ⟨T.n_abs,⟨T.n_all,⟨T.n_bool,⟨T.n_enumerate,⟨T.n_int,⟨T.n_isinstance,⟨T.n_len,⟨T.n_list,⟨T.n_max,⟨T.n_min,⟨T.n_range,⟨T.n_sum,⟨T.n_tuple,trivial⟩⟩⟩⟩⟩⟩⟩⟩⟩⟩⟩⟩⟩ ⟨T.c_MOST_THINGS,trivial⟩ trivial trivial ⟨⟨_,by decide,d_is_many⟩,trivial⟩ trivial trivial trivial) jI (by kernel_rfl)
theorem pc (T:Txt P w K mg)(KI:K.In base)(F:bQ K mg "check_row" dN ["many","row","is_right"])(d_is_telling:DefN P w K mg base true 4 "is_telling" d4):DefN P w K mg base true 5 "check_row" eU:=
 cE (G:={ G0 with fns:=[],tab:=[("is_telling",d4)] }) { sc:=ae dN,N:=["many","row","is_right","number","place"] } F pb (jE ⟨T.n_abs,⟨T.n_all,⟨T.n_bool,⟨T.n_enumerate,⟨T.n_int,⟨T.n_isinstance,⟨T.n_len,⟨T.n_list,⟨T.n_max,⟨T.n_min,⟨T.n_range,⟨T.n_sum,⟨T.n_tuple,trivial⟩⟩⟩⟩⟩⟩⟩⟩⟩⟩⟩⟩⟩ ⟨T.c_MOST_THINGS,trivial⟩ trivial trivial trivial trivial ⟨⟨_,by decide,d_is_telling⟩,trivial⟩ trivial) jI (by kernel_rfl)
theorem qr (T:Txt P w K mg)(KI:K.In base)(F:bQ K mg "is_thing" eP ["many","thing"])(d_is_whole:DefN P w K mg base true 1 "is_whole" bR):DefN P w K mg base true 2 "is_thing" eO:=
 cE (G:={ G0 with fns:=[("is_whole",bR)] }) { sc:=ae eP,N:=["many","thing"] } F qF (jE ⟨T.n_abs,⟨T.n_all,⟨T.n_bool,⟨T.n_enumerate,⟨T.n_int,⟨T.n_isinstance,⟨T.n_len,⟨T.n_list,⟨T.n_max,⟨T.n_min,⟨T.n_range,⟨T.n_sum,⟨T.n_tuple,trivial⟩⟩⟩⟩⟩⟩⟩⟩⟩⟩⟩⟩⟩ ⟨T.c_MOST_THINGS,trivial⟩ trivial trivial ⟨⟨_,by decide,d_is_whole⟩,trivial⟩ trivial trivial trivial) jI (by kernel_rfl)
theorem sB (T:Txt P w K mg)(KI:K.In base)(F:bQ K mg "is_pair" fA ["many","thing"])(d_is_thing:DefN P w K mg base true 2 "is_thing" eO):DefN P w K mg base true 3 "is_pair" gq:=
 cE (G:={ G0 with fns:=[("is_thing",eO)] }) { sc:=ae fA,N:=["many","thing"] } F sI (jE ⟨T.n_abs,⟨T.n_all,⟨T.n_bool,⟨T.n_enumerate,⟨T.n_int,⟨T.n_isinstance,⟨T.n_len,⟨T.n_list,⟨T.n_max,⟨T.n_min,⟨T.n_range,⟨T.n_sum,⟨T.n_tuple,trivial⟩⟩⟩⟩⟩⟩⟩⟩⟩⟩⟩⟩⟩ ⟨T.c_MOST_THINGS,trivial⟩ trivial trivial ⟨⟨_,by decide,d_is_thing⟩,trivial⟩ trivial trivial trivial) jI (by kernel_rfl)
theorem mW (T:Txt P w K mg)(KI:K.In base)(F:bQ K mg "is_telling" df ["many","thing"])(d_is_pair:DefN P w K mg base true 3 "is_pair" gq)(d_is_whole:DefN P w K mg base true 1 "is_whole" bR):DefN P w K mg base true 4 "is_telling" d4:=
 cE (G:={ G0 with fns:=[("is_pair",gq),("is_whole",bR)] }) { sc:=ae df,N:=["many","thing"] } F m6 (jE ⟨T.n_abs,⟨T.n_all,⟨T.n_bool,⟨T.n_enumerate,⟨T.n_int,⟨T.n_isinstance,⟨T.n_len,⟨T.n_list,⟨T.n_max,⟨T.n_min,⟨T.n_range,⟨T.n_sum,⟨T.n_tuple,trivial⟩⟩⟩⟩⟩⟩⟩⟩⟩⟩⟩⟩⟩ ⟨T.c_MOST_THINGS,trivial⟩ trivial trivial ⟨⟨_,by decide,d_is_pair⟩,⟨⟨_,by decide,d_is_whole⟩,trivial⟩⟩ trivial trivial trivial) jI (by kernel_rfl)
theorem sj (T:Txt P w K mg)(KI:K.In base)(F:bQ K mg "is_rest" fK ["thing"])(d_is_whole:DefN P w K mg base true 1 "is_whole" bR):DefN P w K mg base true 2 "is_rest" gv:=
 cE (G:={ G0 with fns:=[("is_whole",bR)] }) { sc:=ae fK,N:=["thing"] } F sJ (jE ⟨T.n_abs,⟨T.n_all,⟨T.n_bool,⟨T.n_enumerate,⟨T.n_int,⟨T.n_isinstance,⟨T.n_len,⟨T.n_list,⟨T.n_max,⟨T.n_min,⟨T.n_range,⟨T.n_sum,⟨T.n_tuple,trivial⟩⟩⟩⟩⟩⟩⟩⟩⟩⟩⟩⟩⟩ ⟨T.c_MOST_THINGS,trivial⟩ trivial trivial ⟨⟨_,by decide,d_is_whole⟩,trivial⟩ trivial trivial trivial) jI (by kernel_rfl)
theorem gx (T:Txt P w K mg)(KI:K.In base)(F:bQ K mg "check_rest_and_tellings" bm ["many","rest","tellings"])(m_is_telling:∃a,mg "is_telling" = some (.ref a))(d_check_many:DefN P w K mg base true 3 "check_many" eB)(d_check_row:DefN P w K mg base true 5 "check_row" eU)(d_is_rest:DefN P w K mg base true 2 "is_rest" gv):DefN P w K mg base true 6 "check_rest_and_tellings" bI:=
 cE (G:={ G0 with fns:=[("check_many",eB),("check_row",eU),("is_rest",gv)],vals:=["is_telling"] }) { sc:=ae bm,N:=["many","rest","tellings"] } F gI (jE ⟨T.n_abs,⟨T.n_all,⟨T.n_bool,⟨T.n_enumerate,⟨T.n_int,⟨T.n_isinstance,⟨T.n_len,⟨T.n_list,⟨T.n_max,⟨T.n_min,⟨T.n_range,⟨T.n_sum,⟨T.n_tuple,trivial⟩⟩⟩⟩⟩⟩⟩⟩⟩⟩⟩⟩⟩ ⟨T.c_MOST_THINGS,trivial⟩ trivial ⟨m_is_telling,trivial⟩ ⟨⟨_,by decide,d_check_many⟩,⟨⟨_,by decide,d_check_row⟩,⟨⟨_,by decide,d_is_rest⟩,trivial⟩⟩⟩ trivial trivial trivial) jI (by kernel_rfl)
theorem rG (T:Txt P w K mg)(KI:K.In base)(F:bQ K mg "roads_by" eN ["steps","x"]):DefN P w K mg base true 1 "roads_by" cR:=
 cE (G:={ G0 with fns:=[] }) { sc:=ae eN,N:=["steps","x","roads","waiting","at","start","end","label"],frz:=[(61,[2])],own:=["waiting"],dic:=["roads"] } F qG (jE ⟨T.n_abs,⟨T.n_all,⟨T.n_bool,⟨T.n_enumerate,⟨T.n_int,⟨T.n_isinstance,⟨T.n_len,⟨T.n_list,⟨T.n_max,⟨T.n_min,⟨T.n_range,⟨T.n_sum,⟨T.n_tuple,trivial⟩⟩⟩⟩⟩⟩⟩⟩⟩⟩⟩⟩⟩ ⟨T.c_MOST_THINGS,trivial⟩ trivial trivial trivial trivial trivial trivial) jI (by kernel_rfl)
theorem so (T:Txt P w K mg)(KI:K.In base)(F:bQ K mg "by_rest" fE ["rest","number"]):DefN P w K mg base true 1 "by_rest" d9:=
 cE (G:={ G0 with fns:=[] }) { sc:=ae fE,N:=["rest","number"] } F sf (jE ⟨T.n_abs,⟨T.n_all,⟨T.n_bool,⟨T.n_enumerate,⟨T.n_int,⟨T.n_isinstance,⟨T.n_len,⟨T.n_list,⟨T.n_max,⟨T.n_min,⟨T.n_range,⟨T.n_sum,⟨T.n_tuple,trivial⟩⟩⟩⟩⟩⟩⟩⟩⟩⟩⟩⟩⟩ ⟨T.c_MOST_THINGS,trivial⟩ trivial trivial trivial trivial trivial trivial) jI (by kernel_rfl)
theorem qm (T:Txt P w K mg)(KI:K.In base)(F:bQ K mg "comes_to" eL ["rest","tellings","road"])(d_by_rest:DefN P w K mg base true 1 "by_rest" d9):DefN P w K mg base true 2 "comes_to" dm:=
 cE (G:={ G0 with fns:=[("by_rest",d9)] }) { sc:=ae eL,N:=["rest","tellings","road"],cmp:=[((38,29),["number","sign","tellings"])] } F qT (jE ⟨T.n_abs,⟨T.n_all,⟨T.n_bool,⟨T.n_enumerate,⟨T.n_int,⟨T.n_isinstance,⟨T.n_len,⟨T.n_list,⟨T.n_max,⟨T.n_min,⟨T.n_range,⟨T.n_sum,⟨T.n_tuple,trivial⟩⟩⟩⟩⟩⟩⟩⟩⟩⟩⟩⟩⟩ ⟨T.c_MOST_THINGS,trivial⟩ trivial trivial ⟨⟨_,by decide,d_by_rest⟩,trivial⟩ trivial trivial trivial) jI (by kernel_rfl)
theorem lR (T:Txt P w K mg)(KI:K.In base)(F:bQ K mg "steps_along" cP ["row","numbers"]):DefN P w K mg base true 1 "steps_along" cb:=
 cE (G:={ G0 with fns:=[] }) { sc:=ae cP,N:=["row","numbers","steps","number","first","second"],own:=["steps"] } F lF (jE ⟨T.n_abs,⟨T.n_all,⟨T.n_bool,⟨T.n_enumerate,⟨T.n_int,⟨T.n_isinstance,⟨T.n_len,⟨T.n_list,⟨T.n_max,⟨T.n_min,⟨T.n_range,⟨T.n_sum,⟨T.n_tuple,trivial⟩⟩⟩⟩⟩⟩⟩⟩⟩⟩⟩⟩⟩ ⟨T.c_MOST_THINGS,trivial⟩ trivial trivial trivial trivial trivial trivial) jI (by kernel_rfl)
theorem lh (T:Txt P w K mg)(KI:K.In base)(F:bQ K mg "gone_through" cx ["rest","tellings"])(d_roads_by:DefN P w K mg base true 1 "roads_by" cR)(d_comes_to:DefN P w K mg base true 2 "comes_to" dm)(d_by_rest:DefN P w K mg base true 1 "by_rest" d9)(d_steps_along:DefN P w K mg base true 1 "steps_along" cb):DefN P w K mg base true 3 "gone_through" cf:=
 cE (G:={ G0 with fns:=[("roads_by",cR),("comes_to",dm),("by_rest",d9),("steps_along",cb)] }) { sc:=ae cx,N:=["rest","tellings","joining","number","x","y","more","road"],own:=["joining"],frz:=[(75,[2]),(76,[2])] } F kX (jE ⟨T.n_abs,⟨T.n_all,⟨T.n_bool,⟨T.n_enumerate,⟨T.n_int,⟨T.n_isinstance,⟨T.n_len,⟨T.n_list,⟨T.n_max,⟨T.n_min,⟨T.n_range,⟨T.n_sum,⟨T.n_tuple,trivial⟩⟩⟩⟩⟩⟩⟩⟩⟩⟩⟩⟩⟩ ⟨T.c_MOST_THINGS,trivial⟩ trivial trivial ⟨⟨_,by decide,d_roads_by⟩,⟨⟨_,by decide,d_comes_to⟩,⟨⟨_,by decide,d_by_rest⟩,⟨⟨_,by decide,d_steps_along⟩,trivial⟩⟩⟩⟩ trivial trivial trivial) jI (by kernel_rfl)
theorem pz (T:Txt P w K mg)(KI:K.In base)(F:bQ K mg "height_by" dL ["rest","tellings","steps","x"])(d_comes_to:DefN P w K mg base true 2 "comes_to" dm)(d_roads_by:DefN P w K mg base true 1 "roads_by" cR):DefN P w K mg base true 3 "height_by" eR:=
 cE (G:={ G0 with fns:=[("comes_to",dm),("roads_by",cR)] }) { sc:=ae dL,N:=["rest","tellings","steps","x","least"],alt:=[(78,16)] } F oS (jE ⟨T.n_abs,⟨T.n_all,⟨T.n_bool,⟨T.n_enumerate,⟨T.n_int,⟨T.n_isinstance,⟨T.n_len,⟨T.n_list,⟨T.n_max,⟨T.n_min,⟨T.n_range,⟨T.n_sum,⟨T.n_tuple,trivial⟩⟩⟩⟩⟩⟩⟩⟩⟩⟩⟩⟩⟩ ⟨T.c_MOST_THINGS,trivial⟩ trivial trivial ⟨⟨_,by decide,d_comes_to⟩,⟨⟨_,by decide,d_roads_by⟩,trivial⟩⟩ trivial trivial trivial) jI (by kernel_rfl)
theorem rO (T:Txt P w K mg)(KI:K.In base)(F:bQ K mg "heights" fF ["many","rest","tellings"])(d_check_rest_and_tellings:DefN P w K mg base true 6 "check_rest_and_tellings" bI)(d_gone_through:DefN P w K mg base true 3 "gone_through" cf)(d_steps_along:DefN P w K mg base true 1 "steps_along" cb)(d_height_by:DefN P w K mg base true 3 "height_by" eR):DefN P w K mg base true 7 "heights" fL:=
 cE (G:={ G0 with fns:=[("check_rest_and_tellings",bI),("gone_through",cf),("steps_along",cb),("height_by",eR)] }) { sc:=ae fF,N:=["many","rest","tellings","joining","clash","steps"],cmp:=[((86,26),["x","rest","tellings","steps"])] } F rQ (jE ⟨T.n_abs,⟨T.n_all,⟨T.n_bool,⟨T.n_enumerate,⟨T.n_int,⟨T.n_isinstance,⟨T.n_len,⟨T.n_list,⟨T.n_max,⟨T.n_min,⟨T.n_range,⟨T.n_sum,⟨T.n_tuple,trivial⟩⟩⟩⟩⟩⟩⟩⟩⟩⟩⟩⟩⟩ ⟨T.c_MOST_THINGS,trivial⟩ trivial trivial ⟨⟨_,by decide,d_check_rest_and_tellings⟩,⟨⟨_,by decide,d_gone_through⟩,⟨⟨_,by decide,d_steps_along⟩,⟨⟨_,by decide,d_height_by⟩,trivial⟩⟩⟩⟩ trivial trivial trivial) jI (by kernel_rfl)
theorem pi (T:Txt P w K mg)(KI:K.In base)(F:bQ K mg "_law_cell" dP ["_law_script","_law_k"]):DefN P w K mg base true 1 "_law_cell" bB:=
 cE (G:={ G0 with fns:=[] }) { sc:=ae dP,N:=["_law_script","_law_k","_law_state","_law_cell_here"] } F pK (jE ⟨T.n_abs,⟨T.n_all,⟨T.n_bool,⟨T.n_enumerate,⟨T.n_int,⟨T.n_isinstance,⟨T.n_len,⟨T.n_list,⟨T.n_max,⟨T.n_min,⟨T.n_range,⟨T.n_sum,⟨T.n_tuple,trivial⟩⟩⟩⟩⟩⟩⟩⟩⟩⟩⟩⟩⟩ ⟨T.c_MOST_THINGS,trivial⟩ trivial trivial trivial trivial trivial trivial) jI (by kernel_rfl)
theorem oQ (T:Txt P w K mg)(KI:K.In base)(F:bQ K mg "_law_many" dS ["_law_x"]):DefN P w K mg base true 1 "_law_many" gc:=
 cE (G:={ G0 with fns:=[] }) { sc:=ae dS,N:=["_law_x"] } F pP (jE ⟨T.n_abs,⟨T.n_all,⟨T.n_bool,⟨T.n_enumerate,⟨T.n_int,⟨T.n_isinstance,⟨T.n_len,⟨T.n_list,⟨T.n_max,⟨T.n_min,⟨T.n_range,⟨T.n_sum,⟨T.n_tuple,trivial⟩⟩⟩⟩⟩⟩⟩⟩⟩⟩⟩⟩⟩ ⟨T.c_MOST_THINGS,trivial⟩ trivial trivial trivial trivial trivial trivial) jI (by kernel_rfl)
theorem li (T:Txt P w K mg)(KI:K.In base)(F:bQ K mg "_law_rest_of" cy ["_law_x"]):DefN P w K mg base true 1 "_law_rest_of" db:=
 cE (G:={ G0 with fns:=[] }) { sc:=ae cy,N:=["_law_x"] } F lg (jE ⟨T.n_abs,⟨T.n_all,⟨T.n_bool,⟨T.n_enumerate,⟨T.n_int,⟨T.n_isinstance,⟨T.n_len,⟨T.n_list,⟨T.n_max,⟨T.n_min,⟨T.n_range,⟨T.n_sum,⟨T.n_tuple,trivial⟩⟩⟩⟩⟩⟩⟩⟩⟩⟩⟩⟩⟩ ⟨T.c_MOST_THINGS,trivial⟩ trivial trivial trivial trivial trivial trivial) jI (by kernel_rfl)
theorem jO (T:Txt P w K mg)(KI:K.In base)(F:bQ K mg "_law_heights_of" bW ["_law_xs","_law_many_here","_law_wide"]):DefN P w K mg base true 1 "_law_heights_of" cg:=
 cE (G:={ G0 with fns:=[] }) { sc:=ae bW,N:=["_law_xs","_law_many_here","_law_wide"],cmp:=[((136,11),["_law_k","_law_xs","_law_wide","_law_many_here"])] } F jF (jE ⟨T.n_abs,⟨T.n_all,⟨T.n_bool,⟨T.n_enumerate,⟨T.n_int,⟨T.n_isinstance,⟨T.n_len,⟨T.n_list,⟨T.n_max,⟨T.n_min,⟨T.n_range,⟨T.n_sum,⟨T.n_tuple,trivial⟩⟩⟩⟩⟩⟩⟩⟩⟩⟩⟩⟩⟩ ⟨T.c_MOST_THINGS,trivial⟩ trivial trivial trivial trivial trivial trivial) jI (by kernel_rfl)
theorem mR (T:Txt P w K mg)(KI:K.In base)(F:bQ K mg "_law_joins" di ["_law_script","_law_at","_law_many_here","_law_most"])(d__law_numbers:DefN P w K mg base true 1 "_law_numbers" aV)(d__law_cell:DefN P w K mg base true 1 "_law_cell" bB):DefN P w K mg base true 2 "_law_joins" dY:=
 cE (G:={ G0 with fns:=[("_law_numbers",aV),("_law_cell",bB)] }) { sc:=ae di,N:=["_law_script","_law_at","_law_many_here","_law_most","_law_head","_law_row","_law_k","_law_xs","_law_x","_law_y"],own:=["_law_row"] } F nv (jE ⟨T.n_abs,⟨T.n_all,⟨T.n_bool,⟨T.n_enumerate,⟨T.n_int,⟨T.n_isinstance,⟨T.n_len,⟨T.n_list,⟨T.n_max,⟨T.n_min,⟨T.n_range,⟨T.n_sum,⟨T.n_tuple,trivial⟩⟩⟩⟩⟩⟩⟩⟩⟩⟩⟩⟩⟩ ⟨T.c_MOST_THINGS,trivial⟩ trivial trivial ⟨⟨_,by decide,d__law_numbers⟩,⟨⟨_,by decide,d__law_cell⟩,trivial⟩⟩ trivial trivial trivial) jI (by kernel_rfl)
theorem lc (T:Txt P w K mg)(KI:K.In base)(F:bQ K mg "_law_planted" cw ["_law_script","_law_at","_law_many_here","_law_rest"])(d__law_numbers:DefN P w K mg base true 1 "_law_numbers" aV)(d__law_heights_of:DefN P w K mg base true 1 "_law_heights_of" cg)(d__law_cell:DefN P w K mg base true 1 "_law_cell" bB)(d__law_joins:DefN P w K mg base true 2 "_law_joins" dY):DefN P w K mg base true 3 "_law_planted" dW:=
 cE (G:={ G0 with fns:=[("_law_numbers",aV),("_law_heights_of",cg),("_law_cell",bB),("_law_joins",dY)] }) { sc:=ae cw,N:=["_law_script","_law_at","_law_many_here","_law_rest","_law_head","_law_heights_own","_law_row","_law_number","_law_x","_law_y","_law_xs"],own:=["_law_row"] } F kZ (jE ⟨T.n_abs,⟨T.n_all,⟨T.n_bool,⟨T.n_enumerate,⟨T.n_int,⟨T.n_isinstance,⟨T.n_len,⟨T.n_list,⟨T.n_max,⟨T.n_min,⟨T.n_range,⟨T.n_sum,⟨T.n_tuple,trivial⟩⟩⟩⟩⟩⟩⟩⟩⟩⟩⟩⟩⟩ ⟨T.c_MOST_THINGS,trivial⟩ trivial trivial ⟨⟨_,by decide,d__law_numbers⟩,⟨⟨_,by decide,d__law_heights_of⟩,⟨⟨_,by decide,d__law_cell⟩,⟨⟨_,by decide,d__law_joins⟩,trivial⟩⟩⟩⟩ trivial trivial trivial) jI (by kernel_rfl)
theorem nE (T:Txt P w K mg)(KI:K.In base)(F:bQ K mg "_law_whole" dh ["_law_thing"]):DefN P w K mg base true 1 "_law_whole" cs:=
 cE (G:={ G0 with fns:=[] }) { sc:=ae dh,N:=["_law_thing"] } F m5 (jE ⟨T.n_abs,⟨T.n_all,⟨T.n_bool,⟨T.n_enumerate,⟨T.n_int,⟨T.n_isinstance,⟨T.n_len,⟨T.n_list,⟨T.n_max,⟨T.n_min,⟨T.n_range,⟨T.n_sum,⟨T.n_tuple,trivial⟩⟩⟩⟩⟩⟩⟩⟩⟩⟩⟩⟩⟩ ⟨T.c_MOST_THINGS,trivial⟩ trivial trivial trivial trivial trivial trivial) jI (by kernel_rfl)
theorem pd (T:Txt P w K mg)(KI:K.In base)(F:bQ K mg "_law_real" dU ["_law_many_here","_law_row"]):DefN P w K mg base true 1 "_law_real" eQ:=
 cE (G:={ G0 with fns:=[] }) { sc:=ae dU,N:=["_law_many_here","_law_row","_law_lots","_law_real_here","_law_number","_law_x","_law_y"],own:=["_law_real_here"],cmp:=[((129,24),["_law_name","_law_lots","_law_x","_law_y"])] } F pS (jE ⟨T.n_abs,⟨T.n_all,⟨T.n_bool,⟨T.n_enumerate,⟨T.n_int,⟨T.n_isinstance,⟨T.n_len,⟨T.n_list,⟨T.n_max,⟨T.n_min,⟨T.n_range,⟨T.n_sum,⟨T.n_tuple,trivial⟩⟩⟩⟩⟩⟩⟩⟩⟩⟩⟩⟩⟩ ⟨T.c_MOST_THINGS,trivial⟩ trivial trivial trivial trivial trivial trivial) jI (by kernel_rfl)
theorem jz (T:Txt P w K mg)(KI:K.In base)(F:bQ K mg "_law_ring_right" bY ["_law_many_here","_law_rest","_law_row","_law_number","_law_ring"])(d__law_real:DefN P w K mg base true 1 "_law_real" eQ)(d__law_by:DefN P w K mg base true 1 "_law_by" ca)(d__law_whole:DefN P w K mg base true 1 "_law_whole" cs):DefN P w K mg base true 2 "_law_ring_right" cG:=
 cE (G:={ G0 with fns:=[("_law_real",eQ),("_law_by",ca),("_law_whole",cs)] }) { sc:=ae bY,N:=["_law_many_here","_law_rest","_law_row","_law_number","_law_ring","_law_x","_law_y","_law_by_here","_law_real_here","_law_here","_law_gone","_law_comes","_law_part","_law_one","_law_other","_law_more"],cmp:=[((185,47),["_law_telling"]),((190,79),["_law_thing"])] } F jH (jE ⟨T.n_abs,⟨T.n_all,⟨T.n_bool,⟨T.n_enumerate,⟨T.n_int,⟨T.n_isinstance,⟨T.n_len,⟨T.n_list,⟨T.n_max,⟨T.n_min,⟨T.n_range,⟨T.n_sum,⟨T.n_tuple,trivial⟩⟩⟩⟩⟩⟩⟩⟩⟩⟩⟩⟩⟩ ⟨T.c_MOST_THINGS,trivial⟩ trivial trivial ⟨⟨_,by decide,d__law_real⟩,⟨⟨_,by decide,d__law_by⟩,⟨⟨_,by decide,d__law_whole⟩,trivial⟩⟩⟩ trivial trivial trivial) jI (by kernel_rfl)
end
end K46
end
section
namespace Fo
open PySem
noncomputable def D3 (us:List Nat):Nat->Nat->List Nat
 |0,x=>[x]
 |n+1,x=>if up us x=x then [x] else x::D3 us n (up us x)
noncomputable def G6 (us:List Nat)(x:Nat):List Nat:=D3 us us.length x
noncomputable def hd (us:List Nat)(x:Nat):Nat:=Gv (G6 us x)
noncomputable def dp (us:List Nat)(x:Nat):Nat:=(G6 us x).length - 1
noncomputable def stp (y:Str)(us:List Nat)(x:Nat):Nat:=if y = "halves" then (G6 us x).length / 2 else dp us x
end Fo
namespace Dp
open PySem L2 Dp Fo
end Dp
namespace Lo
open PySem Fo Dp
end Lo
end
section
namespace Dp
open PySem L2 Fo
theorem ma (is:List Int):gD (is.map PV.int)=some is:=by
 induction is with
 |nil=>rfl
 |cons b bs ih=>rw[List.map_cons,gD,ih];rfl
theorem HM {α:Type}{x:Str}{F:α}:List.lookup x [(x,F)]=some F:=by simp[List.lookup]
end Dp
end
section
namespace Dp
open PySem L2 Fo Dp
theorem pg {t:FT}{f:FE}{ρ:aK}(g:PV->PV):∀{its:List PV},(∀p∈its,(t p ρ).bind (fun ρ2=>(f ρ2).bind RV.fr)=some (g p))->pT t jk f ρ its=some (its.map g):=fun {its}=>by
 induction its with
 |nil=>intro _;rfl
 |cons p ps ih=>
  intro h
  have h1:=h p List.mem_cons_self
  have h2:=ih fun q hq=>h q (List.mem_cons_of_mem _ hq)
  obtain⟨ρ2,e1,h1⟩:=Option.bind_eq_some_iff.mp h1
  obtain⟨r,e2,h1⟩:=Option.bind_eq_some_iff.mp h1
  rw[pT,e1,h2]
  show (f ρ2).bind _=_
  rw[e2]
  show r.fr.bind _=_
  rw[h1];rfl
theorem po {t:FT}{f:FE}{ρ:aK}(g:Nat->PV){us:List Nat}(h:∀u∈us,(t (.int u) ρ).bind (fun ρ2=>(f ρ2).bind RV.fr)=some (g u)):pT t jk f ρ (ag us)=some (us.map g):=by
 have e:(ag us).map (fun p=>match p with|.int i=>g i.toNat|_=>.non)=us.map g:=by
  unfold ag;rw[List.map_map];exact List.map_congr_left fun u _=>rfl
 rw[←e]
 refine pg _ fun p hp=>?_
 obtain⟨u,hu,rfl⟩:=xi hp
 exact h u hu
theorem K1 {n:Nat}(h:n≤100000):kf [.int n]=some (ag (List.range n))/\se [.int n]=some (.fz (.rng 0 n))/\mi [.rng 0 n]=some (.nw (ag (List.range n))):=by
 refine⟨?_,?_,?_⟩
 ·rw[Cc,yo,decide_eq_true (by omega),decide_eq_true (by omega),Int.toNat_natCast,AH];rfl
 ·rw[zo,if_pos ⟨by omega,by omega⟩]
 ·rw[yJ,if_pos ⟨rfl,by omega,by omega⟩,Int.toNat_natCast,AH]
theorem HI {j:Int}(h0:0≤j)(h:j≤100000):kf [.int j]=some (ag (List.range j.toNat))/\se [.int j]=some (.fz (.rng 0 j))/\mi [.rng 0 j]=some (.nw (ag (List.range j.toNat))):=by
 have:=K1 (n:=j.toNat) (by omega)
 rwa [Int.toNat_of_nonneg h0] at this
theorem K2 {n:Nat}(h:n≤100000):sK [.int 1,.int n]=some (ag ((List.range (n - 1)).map (·+1))):=by
 have a:vk 1=true:=by decide
 have b:vk n=true:=by rw[yo,decide_eq_true (by omega),decide_eq_true (by omega)];rfl
 rw[yW,a,b,show ((n:Int) - 1).toNat=n - 1 by omega,F1];rfl
theorem jU (i:Int):bR [.int i]=some (.v (.bl true)):=by
 simp_all! [pM,iq]
theorem CK {i:Int}(h1:1≤i)(h2:i≤40):gu [.int i]=some (.v (.bl true)):=by
 simp_all! [pY,iS,jU,decide_eq_true h1,decide_eq_true h2]
theorem AG (m x:Int):eO [.int m,.int x]=some (.v (.bl (decide (0≤x/\x<m)))):=by
 simp_all! [pG,iu,jU]
 by_cases h:0≤x
 ·simp_all! [decide_eq_true h,h]
 ·simp_all! [decide_eq_false h,h,false_and]
theorem DS {a b:PV}{c:Bool}:L2.eI [a,b] (if c=true then 1 else 0)=some (if c=true then b else a):=by
 cases c<;>rfl
theorem ph {s0 s1:Option Sl}(vs:List PV):∀(xs:List Nat) (st dg:Int) (z:Option Sl),(∀v∈vs,∃i:Int,v=.int i)->0≤st->st<1999999973->0≤dg->xs.length+vs.length≤1000 →
  ∃(xs':List Nat) (st' dg':Int) (z':Option Sl),xs'.length=xs.length+vs.length/\bA (gN 5) dH vs [s0,s1,some (.own (ag xs)),some (.val (.int st)),some (.val (.int dg)),z]=.nx [s0,s1,some (.own (ag xs')),some (.val (.int st')),some (.val (.int dg')),z']:=by
 induction vs with
 |nil=>intro xs st dg z _ _ _ _ _;exact⟨xs,st,dg,z,rfl,rfl⟩
 |cons v vs ih=>
  intro xs st dg z hv h1 h2 h3 hl
  obtain⟨i,rfl⟩:=hv v List.mem_cons_self
  have m1:=Int.emod_nonneg st (show (65521:Int)≠0 by decide)
  have cm1:(st.natAbs<2 ^ 64\/(st % 65521+40487).natAbs<2 ^ 64)=True:=eq_true (.inl (by omega))
  have cm2:((7:Int).natAbs<2 ^ 64\/i.natAbs<2 ^ 64)=True:=eq_true (.inl (by decide))
  have hlen:(ag xs).length≤100000:=by rw[b9];simp at hl;omega
  have b1:0≤(st * (st % 65521+40487)+7 * i+5) % 1999999973:=Int.emod_nonneg _ (by decide)
  have b2:(st * (st % 65521+40487)+7 * i+5) % 1999999973<1999999973:=Int.emod_lt_of_pos _ (by decide)
  have d1:=Int.emod_nonneg dg (show (1000000:Int)≠0 by decide)
  have hlen':xs.length≤100000:=by rwa [b9] at hlen
  rw[cr]
  simp![dH,cm1,cm2,DS,hlen']
  generalize (st * (st % 65521+40487)+7 * i+5) % 1999999973=st' at b1 b2
  have hv':(if decide (0<dg)=true then PV.int (dg % 1000000) else PV.int st')=nI (if decide (0<dg)=true then dg % 1000000 else st').toNat:=by
   split<;>rw[Fj (by omega)]
  rw[hv',nI,dE]
  obtain⟨xs',st2,dg2,z2,e1,e2⟩:=ih (xs++[(if decide (0<dg)=true then dg % 1000000 else st').toNat]) st' (dg / 1000000) (some (.val (.int i))) (fun u hu=>hv u (List.mem_cons_of_mem _ hu)) b1 b2 (Int.ediv_nonneg h3 (by decide)) (by simp at hl ⊢;omega)
  exact⟨xs',st2,dg2,z2,by rw[e1,List.length_append];simp;omega,e2⟩
theorem fP (c n:Int)(h0:0≤n)(hn:n≤1000):∃xs:List Nat,xs.length=n.toNat/\aV [.int c,.int n]=some (.n (ag xs)):=by
 have b1:0≤(c % 1999999973+31) * 765432101 % 1999999973:=Int.emod_nonneg _ (by decide)
 have b2:(c % 1999999973+31) * 765432101 % 1999999973<1999999973:=Int.emod_lt_of_pos _ (by decide)
 have cm:((c % 1999999973+31).natAbs<2 ^ 64\/(765432101:Int).natAbs<2 ^ 64)=True:=eq_true (.inr (by decide))
 have k1:=(HI h0 (show n≤100000 by omega)).1
 have ab:0≤(if c<0 then -c else c):=by split<;>omega
 have fin:∀dg:Int,0≤dg->∃(xs:List Nat) (st' dg':Int) (z':Option Sl),xs.length=n.toNat/\bA (gN 5) dH (ag (List.range n.toNat)) [some (.val (.int c)),some (.val (.int n)),some (.own (ag [])),some (.val (.int ((c % 1999999973+31) * 765432101 % 1999999973))),some (.val (.int dg)),none]=.nx [some (.val (.int c)),some (.val (.int n)),some (.own (ag xs)),some (.val (.int st')),some (.val (.int dg')),z']:=fun dg hd=>by
  obtain⟨xs,st',dg',z',e1,e2⟩:=ph (s0:=some (.val (.int c))) (s1:=some (.val (.int n))) (ni 0 n.toNat) [] _ dg none (fun v hv=>by obtain⟨i,e,_⟩:=Cu hv;exact⟨i,e⟩) b1 b2 hd (by rw[tG];simp;omega)
  rw[AH] at e2
  exact⟨xs,st',dg',z',by rw[e1,tG];simp,e2⟩
 have hp:(10:Int) ^ 18=1000000000000000000:=by decide
 by_cases hc:c<0
 ·obtain⟨xs,st',dg',z',e1,e2⟩:=fin _ ab
  rw[mI] at e2
  refine⟨xs,e1,?_⟩
  simp![fO,cY,cm,k1,decide_eq_true hc,e2]
 ·by_cases hd:1000000000000000000≤c
  ·obtain⟨xs,st',dg',z',e1,e2⟩:=fin _ ab
   rw[mI] at e2
   refine⟨xs,e1,?_⟩
   simp![fO,cY,cm,k1,decide_eq_false hc,show (0:Int)≤18/\(18:Int)≤1000000/\(10:Int).natAbs<2 ^ 64 from by decide,decide_eq_true hd,e2]
  ·obtain⟨xs,st',dg',z',e1,e2⟩:=fin 0 (by decide)
   rw[mI] at e2
   refine⟨xs,e1,?_⟩
   simp![fO,cY,cm,k1,decide_eq_false hc,show (0:Int)≤18/\(18:Int)≤1000000/\(10:Int).natAbs<2 ^ 64 from by decide,decide_eq_false hd,e2]
theorem vm {s0 s1:Option Sl}(ns:List Int):∀(st:Int) (z:Option Sl),∃(st':Int) (z':Option Sl),bA (gN 3) eZ (iL ns) [s0,s1,some (.val (.int st)),z]=.nx [s0,s1,some (.val (.int st')),z']:=by
 induction ns with
 |nil=>intro st z;exact⟨st,z,rfl⟩
 |cons n ns ih=>
  intro st z
  have cm:(st.natAbs<2 ^ 64\/(69621:Int).natAbs<2 ^ 64)=True:=eq_true (.inr (by decide))
  show ∃st' z',bA (gN 3) eZ (.int n::iL ns) _=_
  rw[cr]
  simp![eZ,cm]
  exact ih _ _
theorem jB (ns:List Int)(k:Int)(h0:0≤k)(hk:k≤1000):∃i:Int,bB [.src (iL ns),.int k]=some (.v (.int i)):=by
 by_cases hl:k<ns.length
 ·have hk':k.toNat<ns.length:=by omega
  have e:L2.eI (iL ns) k=some (.int ns[k.toNat]):=by
   have:=dG (ps:=iL ns) (x:=k.toNat) (p:=.int ns[k.toNat]) (by unfold iL;rw[List.getElem?_map,List.getElem?_eq_getElem hk'];rfl)
   rwa [Int.toNat_of_nonneg h0] at this
  exact⟨ns[k.toNat],by simp![jt,fU,xv,decide_eq_true hl,e]⟩
 ·have c1:(k.natAbs<2 ^ 64)=True:=eq_true (by omega)
  have c2:((48271:Int).natAbs<2 ^ 64)=True:=eq_true (by decide)
  have c3:((7:Int).natAbs<2 ^ 64)=True:=eq_true (by decide)
  obtain⟨st',z',e⟩:=vm (s0:=some (.val (.src (iL ns)))) (s1:=some (.val (.int k))) (jv ns none (some 3)) (48271 * (k * k+7 * k+11) % 2147483647) none
  refine⟨st',?_⟩
  simp![jt,fU,xv,decide_eq_false hl,c1,c2,c3,true_or,CN,e]
theorem Ad (x:Nat):∃n:Nat,1≤n/\n≤40/\gc [.int x]=some (.v (.int n)):=by
 have a1:=Int.emod_nonneg ((x:Int) / 8) (show (12:Int)≠0 by decide)
 have a2:=Int.emod_lt_of_pos ((x:Int) / 8) (show (0:Int)<12 by decide)
 have a3:=Int.emod_nonneg ((x:Int) / 8) (show (40:Int)≠0 by decide)
 have a4:=Int.emod_lt_of_pos ((x:Int) / 8) (show (0:Int)<40 by decide)
 by_cases h:(x:Int) % 8=3
 ·refine⟨(1+(x:Int) / 8 % 40).toNat,by omega,by omega,?_⟩
  simp![jy,fW,DS,decide_eq_true h]
  rw[Int.toNat_of_nonneg (by omega)]
 ·refine⟨(1+(x:Int) / 8 % 12).toNat,by omega,by omega,?_⟩
  simp![jy,fW,DS,decide_eq_false h]
  rw[Int.toNat_of_nonneg (by omega)]
end Dp
end
section
namespace Pt
open L2 Fo
noncomputable def cl (n:Nat)(c:Nat->Nat)(x:Nat):List Nat:=(List.range n).filter fun y=>decide (c y=c x)
noncomputable def jn (c:Nat->Nat)(x y:Nat):Nat->Nat:=fun z=>if c z=c x then c y else c z
theorem zU {c:Nat->Nat}{x y:Nat}(h:c x=c y):jn c x y=c:=funext fun z=>by
 unfold jn;split
 ·next e=>rw[e,h]
 ·rfl
noncomputable def wG (ps:List (Nat×Nat))(c:Nat->Nat):Nat->Nat:=ps.foldl (fun c p=>jn c p.1 p.2) c
theorem lJ (p:Nat×Nat)(ps:List (Nat×Nat))(c:Nat->Nat):wG (p::ps) c=wG ps (jn c p.1 p.2):=rfl
theorem rh:∀(ps:List (Nat×Nat)) (c:Nat->Nat) (a b:Nat),c a=c b->wG ps c a=wG ps c b
 |[],_,_,_,h=>h
 |p::ps,c,a,b,h=>by
  rw[lJ]
  exact rh ps _ a b (by unfold jn;rw[h])
theorem gy:∀(ps:List (Nat×Nat)) (c:Nat->Nat) (a b:Nat),(a,b)∈ps->wG ps c a=wG ps c b
 |p::ps,c,a,b,h=>by
  rw[lJ]
  rcases List.mem_cons.mp h with e|h
  ·cases e
   refine rh ps _ a b ?_
   unfold jn
   rw[if_pos rfl]
   split<;>rfl
  ·exact gy ps _ a b h
theorem j5 {f:Nat->Nat}:∀(ps:List (Nat×Nat)) (c:Nat->Nat),(∀p∈ps,f p.1=f p.2)->(∀a b,c a=c b->f a=f b)->∀a b,wG ps c a=wG ps c b->f a=f b
 |[],_,_,h=>h
 |p::ps,c,hp,h=>by
  rw[lJ]
  have e:=hp p List.mem_cons_self
  refine j5 ps _ (fun q hq=>hp q (List.mem_cons_of_mem _ hq)) fun a b z=>?_
  unfold jn at z
  by_cases h1:c a=c p.1
  ·rw[if_pos h1] at z
   by_cases h2:c b=c p.1
   ·exact h a b (h1.trans h2.symm)
   ·rw[if_neg h2] at z
    rw[h a p.1 h1,e];exact h _ _ z
  ·rw[if_neg h1] at z
   by_cases h2:c b=c p.1
   ·rw[if_pos h2] at z
    rw[h b p.1 h2,e];exact h _ _ z
   ·rw[if_neg h2] at z;exact h _ _ z
noncomputable def CS (c:Nat->Nat)(x:Nat):Bool:=decide (∀y,y<x->c y≠c x)
theorem Hb {c:Nat->Nat}:∀x,∃z,z≤x/\c z=c x/\CS c z=true:=fun x=>by
 induction x using Nat.strongRecOn with
 |_ x ih=>
  by_cases h:CS c x=true
  ·exact⟨x,Nat.le_refl _,rfl,h⟩
  ·unfold CS at h
   rw[decide_eq_true_eq] at h
   have:∃y,y<x/\c y=c x:=Decidable.byContradiction fun q=>h fun y hy e=>q ⟨y,hy,e⟩
   obtain⟨y,hy,e⟩:=this
   obtain⟨z,h1,h2,h3⟩:=ih y hy
   exact⟨z,by omega,h2.trans e,h3⟩
end Pt
end
section
namespace Dp
open PySem PySem.Spec L2 Fo
noncomputable abbrev Sg:=Nat×Nat×PV
noncomputable def mo (t:Sg):PV:=.tup [.int (t.1:Nat),.int (t.2.1:Nat),t.2.2]
inductive Trk (S:List Sg) (x:Nat):Nat->List PV->List Nat->Prop where
 |nil:Trk S x x [] [x]
 |snoc {a e:Nat} {l:PV} {r:List PV} {vs:List Nat}:Trk S x a r vs->(a,e,l)∈S->Trk S x e (r++[l]) (vs++[e])
theorem Trk.len {S:List Sg}{x e:Nat}{r:List PV}{vs:List Nat}(t:Trk S x e r vs):vs.length=r.length+1:=by
 induction t with
 |nil=>rfl
 |snoc _ _ ih=>rw[List.length_append,List.length_append,ih];rfl
noncomputable abbrev pU:=List (Nat×List PV)
noncomputable def rK (K:pU):List e9:=K.map fun t=>Sum.inl ((t.1:Nat):Int)
noncomputable def rP (K:pU):List PV:=K.map fun t=>.tup t.2
noncomputable def rD (K:pU):PV:=.dct (rK K) (rP K)
theorem rg (y:Nat):∀K:pU,nF (rK K) (rP K) (.inl ((y:Nat):Int))=(K.find? fun t=>decide (t.1=y)).map fun t=>.tup t.2
 |[]=>rfl
 |t::K=>by
  show (if (Sum.inl ((t.1:Nat):Int):e9)=.inl (y:Int) then some (PV.tup t.2) else nF (rK K) (rP K) _)=_
  rw[List.find?_cons,rg y K]
  by_cases h:t.1=y
  ·rw[if_pos (by rw[h]),decide_eq_true h];rfl
  ·rw[if_neg (fun q=>h (by have:=Sum.inl.inj q;omega)),decide_eq_false h]
theorem Cl (y:Nat)(K:pU):(rK K).any (fun j=>decide (j=(Sum.inl ((y:Nat):Int):e9)))=decide (y∈K.map (·.1)):=by
 unfold rK
 rw[List.any_map,Bool.eq_iff_iff,List.any_eq_true,decide_eq_true_iff,List.mem_map]
 constructor
 ·rintro⟨t,ht,e⟩
  have:=Sum.inl.inj (of_decide_eq_true e)
  exact⟨t,ht,by omega⟩
 ·rintro⟨t,ht,rfl⟩
  exact⟨t,ht,decide_eq_true rfl⟩
theorem Eu {y:Nat}{K:pU}{r:List PV}(h:y∉K.map (·.1)):kM (rK K) (.inl ((y:Nat):Int))=rK (K++[(y,r)])/\kI (rK K) (rP K) (.inl ((y:Nat):Int)) (.tup r)=rP (K++[(y,r)]):=by
 unfold kM kI
 rw[Cl,decide_eq_false h,if_neg Bool.false_ne_true,if_neg Bool.false_ne_true]
 unfold rK rP
 rw[List.map_append,List.map_append]
 exact⟨rfl,rfl⟩
theorem pD {y:Nat}{K:pU}:(K.find? fun t=>decide (t.1=y)).isSome=decide (y∈K.map (·.1)):=by
 rw[Bool.eq_iff_iff,List.find?_isSome,decide_eq_true_iff,List.mem_map]
 constructor
 ·rintro⟨t,ht,e⟩;exact⟨t,ht,of_decide_eq_true e⟩
 ·rintro⟨t,ht,rfl⟩;exact⟨t,ht,decide_eq_true rfl⟩
theorem jX {y:Nat}{K:pU}(h:y∈K.map (·.1)):∃r,(K.find? fun t=>decide (t.1=y))=some (y,r)/\(y,r)∈K:=by
 have:=pD (y:=y) (K:=K)
 rw[decide_eq_true h,Option.isSome_iff_exists] at this
 obtain⟨⟨a,r⟩,e⟩:=this
 have h1:=List.find?_some e
 have h2:=List.mem_of_find?_eq_some e
 have:a=y:=of_decide_eq_true h1
 subst this
 exact⟨r,e,h2⟩
structure Rds (n:Nat)(S:List Sg)(x:Nat)(K:pU):Prop where
 nd:(K.map (·.1)).Nodup
 lt:∀t∈K,t.1<n
 tr:∀t∈K,∃vs,Trk S x t.1 t.2 vs/\vs.Nodup/\∀v∈vs,v∈K.map (·.1)
 st:∃K',K=(x,[])::K'
theorem md:∀{n:Nat} {l:List Nat},l.Nodup->(∀v∈l,v<n)->l.length≤n:=fun {n l} nd h=>by
 have:=List.Nodup.length_le_of_subset nd (l₂:=List.range n) (fun v hv=>List.mem_range.mpr (h v hv))
 rwa [List.length_range] at this
theorem Rds.len {n:Nat}{S:List Sg}{x:Nat}{K:pU}(R:Rds n S x K):K.length≤n:=by
 have:=md R.nd (fun v hv=>by obtain⟨t,ht,rfl⟩:=List.mem_map.mp hv;exact R.lt t ht)
 rwa [List.length_map] at this
theorem Rds.rlen {n:Nat}{S:List Sg}{x:Nat}{K:pU}(R:Rds n S x K){t:Nat×List PV}(ht:t∈K):t.2.length<n:=by
 obtain⟨vs,tr,nd,sub⟩:=R.tr t ht
 have:=md nd (fun v hv=>by obtain⟨u,hu,rfl⟩:=List.mem_map.mp (sub v hv);exact R.lt u hu)
 have:=tr.len
 omega
theorem Rds.add {n:Nat}{S:List Sg}{x a e:Nat}{l:PV}{r:List PV}{K:pU}(R:Rds n S x K)(ha:(a,r)∈K)(hs:(a,e,l)∈S)(he:e<n)(hn:e∉K.map (·.1)):Rds n S x (K++[(e,r++[l])]):=by
 refine⟨?_,fun t ht=>?_,fun t ht=>?_,?_⟩
 ·rw[List.map_append,List.nodup_append]
  refine⟨R.nd,by simp,fun u hu v hv=>?_⟩
  rw[show v=e by simpa using hv]
  exact fun q=>hn (q▸hu)
 ·rcases List.mem_append.mp ht with ht|ht
  ·exact R.lt t ht
  ·rw[List.mem_singleton.mp ht];exact he
 ·have sub:∀v,v∈K.map (·.1)->v∈(K++[(e,r++[l])]).map (·.1):=fun v hv=>by rw[List.map_append];exact List.mem_append_left _ hv
  rcases List.mem_append.mp ht with ht|ht
  ·obtain⟨vs,h1,h2,h3⟩:=R.tr t ht
   exact⟨vs,h1,h2,fun v hv=>sub v (h3 v hv)⟩
  ·rw[List.mem_singleton.mp ht]
   obtain⟨vs,h1,h2,h3⟩:=R.tr _ ha
   refine⟨vs++[e],.snoc h1 hs,?_,fun v hv=>?_⟩
   ·rw[List.nodup_append]
    refine⟨h2,by simp,fun u hu v hv=>?_⟩
    rw[show v=e by simpa using hv]
    exact fun q=>hn (q▸h3 u hu)
   ·rcases List.mem_append.mp hv with hv|hv
    ·exact sub v (h3 v hv)
    ·rw[List.mem_singleton.mp hv,List.map_append];exact List.mem_append_right _ (List.mem_singleton.mpr rfl)
 ·obtain⟨K',e'⟩:=R.st
  exact⟨K'++[(e,r++[l])],by rw[e'];rfl⟩
noncomputable def xm (S:List Sg)(K:pU)(a:Nat):Prop:=∀e l,(a,e,l)∈S->e∈K.map (·.1)
theorem i8 {n:Nat}(hn:n≤40){S0:List Sg}{x:Nat}{s1:Option Sl}{a:Nat}(hS:∀t∈S0,t.1<n/\t.2.1<n):∀(S pre:List Sg) (K:pU) (W:List Nat) (z5 z6 z7:Option Sl),S0=pre++S->Rds n S0 x K->a∈K.map (·.1)->(∀w∈W,w∈K.map (·.1))->W.length≤K.length →
  (∀e l,(a,e,l)∈pre->e∈K.map (·.1)) →
  ∃K' W' z5' z6' z7',bA (gw 3 (gC (gN 5) (gC (gN 6) (gC (gN 7) g0)))) dD (S.map mo) [some (.val (.lst (S0.map mo))),s1,some (.dic (rK K) (rP K)),some (.own (ag W)),some (.val (.int (a:Nat))),z5,z6,z7] =
   .nx [some (.val (.lst (S0.map mo))),s1,some (.dic (rK K') (rP K')),some (.own (ag W')),some (.val (.int (a:Nat))),z5',z6',z7']/\Rds n S0 x K'/\(∀v,v∈K.map (·.1)->v∈K'.map (·.1))/\(∀w∈W',w∈K'.map (·.1))/\xm S0 K' a/\K'.length+W.length=K.length+W'.length/\(∀v,v∈K'.map (·.1)->v∈K.map (·.1)\/v∈W')/\(∀w∈W,w∈W')
 |[],pre,K,W,z5,z6,z7,e0,R,ha,hw,hl,hp=>⟨K,W,z5,z6,z7,by rw[List.map_nil,e8],R,fun _ h=>h,hw,(fun e l h=>hp e l (by rw[e0,List.append_nil] at h;exact h)),rfl,fun _ h=>.inl h,fun _ h=>h⟩
 |(b,e,l)::S,pre,K,W,z5,z6,z7,e0,R,ha,hw,hl,hp=>by
  have hm:(b,e,l)∈S0:=by rw[e0];exact List.mem_append_right _ List.mem_cons_self
  obtain⟨hb,he⟩:=hS _ hm
  have e1:S0=(pre++[(b,e,l)])++S:=by rw[e0,List.append_assoc];rfl
  have d1:decide ((b:Int)=(a:Int))=decide (b=a):=decide_eq_decide.mpr (by omega)
  have dA:ir (.int (e:Nat)) (.dct (rK K) (rP K))=some (.fz (.bl (!decide (e∈K.map (·.1))))):=by
   rw[ah,rg,Option.isSome_map,pD]
  have hKl:=R.len
  by_cases hba:b=a
  ·by_cases hin:e∈K.map (·.1)
   ·obtain⟨K',W',z5',z6',z7',eq,r⟩:=i8 hn hS S (pre++[(b,e,l)]) K W (some (.val (.int (b:Nat)))) (some (.val (.int (e:Nat)))) (some (.val l)) e1 R ha hw hl (fun e' l' h=>by
     rcases List.mem_append.mp h with h|h
     ·exact hp e' l' h
     ·have:=List.mem_singleton.mp h;cases this;exact hin)
    refine⟨K',W',z5',z6',z7',?_,r⟩
    rw[List.map_cons,cr]
    simp![mo,dD,aT,ak,aS,av,b5,al,aw,aE,aB,ai,bu,aQ,aN,br,bw,bv,bp,aP,aq,aM,ao,bq,aO,am,aj,aC,aA,az,aH,ah,b6,aR,aD,aG,aU,au,aF,bn,ay,bo,aL,d1,decide_eq_true hba,dA,decide_eq_true hin]
    exact eq
   ·obtain⟨q,fq,mq⟩:=jX ha
    have R':=R.add mq (hba▸hm) he hin
    have hq:q.length<n:=R.rlen mq
    obtain⟨p1,p2⟩:=Eu (r:=q++[l]) hin
    have sub:∀v,v∈K.map (·.1)->v∈(K++[(e,q++[l])]).map (·.1):=fun v hv=>by rw[List.map_append];exact List.mem_append_left _ hv
    have hme:e∈(K++[(e,q++[l])]).map (·.1):=by rw[List.map_append];exact List.mem_append_right _ (List.mem_singleton.mpr rfl)
    obtain⟨K',W',z5',z6',z7',eq,r1,r2,r3,r4,r5,r6,r7⟩:=i8 hn hS S (pre++[(b,e,l)]) (K++[(e,q++[l])]) (W++[e]) (some (.val (.int (b:Nat)))) (some (.val (.int (e:Nat)))) (some (.val l)) e1 R' (sub a ha) (fun w hw'=>by
     rcases List.mem_append.mp hw' with h|h
     ·exact sub w (hw w h)
     ·rw[List.mem_singleton.mp h];exact hme) (by rw[List.length_append,List.length_append];simp only[List.length_singleton];omega) (fun e' l' h=>by
     rcases List.mem_append.mp h with h|h
     ·exact sub _ (hp e' l' h)
     ·have:=List.mem_singleton.mp h;cases this;exact hme)
    refine⟨K',W',z5',z6',z7',?_,r1,fun v hv=>r2 v (sub v hv),r3,r4,?_,fun v hv=>?_,fun w hw'=>r7 w (List.mem_append_left _ hw')⟩
    ·rw[List.map_cons,cr]
     have i1:nF (rK K) (rP K) (.inl ((a:Nat):Int))=some (.tup q):=by rw[rg,fq];rfl
     have kl:(rK K).length≤100000:=by unfold rK;rw[List.length_map];omega
     have ql:q.length≤99999:=by omega
     have nl:W.length≤100000:=by omega
     simp![mo,dD,aT,ak,aS,av,b5,al,aw,aE,aB,ai,bu,aQ,aN,br,bw,bv,bp,aP,aq,aM,ao,bq,aO,am,aj,aC,aA,az,aH,ah,b6,aR,aD,aG,aU,au,aF,bn,ay,bo,aL,d1,decide_eq_true hba,dA,decide_eq_false hin,i1,if_pos kl,if_pos ql,if_pos nl,p1,p2,dE]
     exact eq
    ·rw[List.length_append,List.length_append] at r5
     simp only[List.length_singleton] at r5
     omega
    ·rcases r6 v hv with h|h
     ·rw[List.map_append] at h
      rcases List.mem_append.mp h with h|h
      ·exact .inl h
      ·rw[show v=e by simpa using h];exact .inr (r7 e (List.mem_append_right _ (List.mem_singleton.mpr rfl)))
     ·exact .inr h
  ·obtain⟨K',W',z5',z6',z7',eq,r⟩:=i8 hn hS S (pre++[(b,e,l)]) K W (some (.val (.int (b:Nat)))) (some (.val (.int (e:Nat)))) (some (.val l)) e1 R ha hw hl (fun e' l' h=>by
    rcases List.mem_append.mp h with h|h
    ·exact hp e' l' h
    ·have:=List.mem_singleton.mp h;cases this;exact absurd rfl hba)
   refine⟨K',W',z5',z6',z7',?_,r⟩
   rw[List.map_cons,cr]
   simp![mo,dD,aT,ak,aS,av,b5,al,aw,aE,aB,ai,bu,aQ,aN,br,bw,bv,bp,aP,aq,aM,ao,bq,aO,am,aj,aC,aA,az,aH,ah,b6,aR,aD,aG,aU,au,aF,bn,ay,bo,aL,d1,decide_eq_false hba]
   exact eq
theorem E4 {w:Nat}{W:List Nat}{ρ1:aK}:nz (.own (ag (w::W))) [.int 0]=some (.own (ag W),.int (w:Nat)):=Eq.trans rfl rfl
theorem kR {n:Nat}(hn:n≤40){S:List Sg}{x:Nat}{s1:Option Sl}(hS:∀t∈S,t.1<n/\t.2.1<n):∀(m k:Nat) (K:pU) (W:List Nat) (z4 z5 z6 z7:Option Sl),(n - K.length)+W.length≤m->m<k->Rds n S x K->(∀w∈W,w∈K.map (·.1))->W.length≤K.length->(∀a∈K.map (·.1),a∉W->xm S K a) →
  ∃K' z4' z5' z6' z7',dM cU cQ k [some (.val (.lst (S.map mo))),s1,some (.dic (rK K) (rP K)),some (.own (ag W)),z4,z5,z6,z7] =
   .nx [some (.val (.lst (S.map mo))),s1,some (.dic (rK K') (rP K')),some (.own []),z4',z5',z6',z7']/\Rds n S x K'/\∀a∈K'.map (·.1),xm S K' a
 |m,0,K,W,_,_,_,_,_,hk,_,_,_,_=>absurd hk (Nat.not_lt_zero _)
 |m,k+1,K,[],z4,z5,z6,z7,hm,hk,R,hw,hl,hc=>⟨K,z4,z5,z6,z7,by
   rw[i5]
   simp![cU,aT,ak,aS,av,b5,al,aw,aE,aB,ai,bu,aQ,aN,br,bw,bv,bp,aP,aq,aM,ao,bq,aO,am,aj,aC,aA,az,aH,ah,b6,aR,aD,aG,aU,au,aF,bn,ay,bo,aL,ag,List.map_nil],R,fun a ha=>hc a ha (List.not_mem_nil)⟩
 |0,k+1,K,w::W,_,_,_,_,hm,_,_,_,_,_=>by rw[List.length_cons] at hm;omega
 |m+1,k+1,K,w::W,z4,z5,z6,z7,hm,hk,R,hw,hl,hc=>by
  have hl':W.length≤K.length:=by rw[List.length_cons] at hl;omega
  obtain⟨K',W',z5',z6',z7',eq,r1,r2,r3,r4,r5,r6,r7⟩:=i8 hn (s1:=s1) hS S [] K W z5 z6 z7 rfl R (hw w List.mem_cons_self) (fun v hv=>hw v (List.mem_cons_of_mem _ hv)) hl' (fun _ _ h=>by cases h)
  have hK':=r1.len
  obtain⟨K2,y4,y5,y6,y7,e2,q1,q2⟩:=kR hn (s1:=s1) hS m k K' W' (some (.val (.int (w:Nat)))) z5' z6' z7' (by have:=R.len;rw[List.length_cons] at hm;omega) (by omega) r1 r3 (by omega) (fun a ha hn'=>by
   by_cases haw:a=w
   ·subst haw;exact r4
   ·rcases r6 a ha with h|h
    ·have:a∉w::W:=fun h'=>(List.mem_cons.mp h').elim haw fun h'=>hn' (r7 a h')
     exact fun e l he=>r2 e (hc a h this e l he)
    ·exact absurd h hn')
  refine⟨K2,y4,y5,y6,y7,?_,q1,q2⟩
  rw[i5]
  have c0:cU [some (.val (.lst (S.map mo))),s1,some (.dic (rK K) (rP K)),some (.own (ag (w::W))),z4,z5,z6,z7]=some true:=by
   simp![cU,aT,ak,aS,av,b5,al,aw,aE,aB,ai,bu,aQ,aN,br,bw,bv,bp,aP,aq,aM,ao,bq,aO,am,aj,aC,aA,az,aH,ah,b6,aR,aD,aG,aU,au,aF,bn,ay,bo,aL,ag,List.map_cons]
  rw[c0]
  show En (cQ _) _ _ _=_
  have b0:cQ [some (.val (.lst (S.map mo))),s1,some (.dic (rK K) (rP K)),some (.own (ag (w::W))),z4,z5,z6,z7]=.nx [some (.val (.lst (S.map mo))),s1,some (.dic (rK K') (rP K')),some (.own (ag W')),some (.val (.int (w:Nat))),z5',z6',z7']:=by
   simp![cQ,bn,ay,E4 (ρ1:=[]),eq]
  rw[b0,oV]
  exact e2
theorem lq {n:Nat}(hn:n≤40){S:List Sg}{x:Nat}(hx:x<n)(hS:∀t∈S,t.1<n/\t.2.1<n):∃K,cR [.lst (S.map mo),.int (x:Nat)]=some (.v (rD K))/\Rds n S x K/\∀a∈K.map (·.1),xm S K a:=by
 have R0:Rds n S x [(x,[])]:=⟨by simp,fun t ht=>by rw[List.mem_singleton.mp ht];exact hx,fun t ht=>by rw[List.mem_singleton.mp ht];exact⟨[x],.nil,by simp,fun v hv=>by simpa using hv⟩,⟨[],rfl⟩⟩
 obtain⟨K,z4,z5,z6,z7,e,R,c⟩:=kR hn (s1:=some (.val (.int (x:Nat)))) hS n 10000 [(x,[])] [x] none none none none (by simp;omega) (by omega) R0 (fun w hw=>by simpa using hw) (by simp) (fun a ha hn'=>by
  have:a=x:=by simpa using ha
  exact absurd (by rw[this];exact List.mem_singleton.mpr rfl) hn')
 refine⟨K,?_,R,c⟩
 have e':dM cU cQ 10000 [some (.val (.lst (S.map mo))),some (.val (.int (x:Nat))),some (.dic [.inl ((x:Nat):Int)] [.tup []]),some (.own [.int (x:Nat)]),none,none,none,none]=_:=e
 simp![pF,ip,dD,cU,cQ,aT,ak,aS,av,b5,al,aw,aE,aB,ai,bu,aQ,aN,br,bw,bv,bp,aP,aq,aM,ao,bq,aO,am,aj,aC,aA,az,aH,ah,b6,aR,aD,aG,aU,au,aF,bn,ay,bo,aL,e',rD,rN,mz]
inductive Rch (S:List Sg) (x:Nat):Nat->Prop where
 |refl:Rch S x x
 |step {a e:Nat} {l:PV}:Rch S x a->(a,e,l)∈S->Rch S x e
theorem Trk.rch {S:List Sg}{x e:Nat}{r:List PV}{vs:List Nat}(t:Trk S x e r vs):Rch S x e:=by
 induction t with
 |nil=>exact .refl
 |snoc _ q ih=>exact .step ih q
theorem Rds.keys {n:Nat}{S:List Sg}{x:Nat}{K:pU}(R:Rds n S x K)(c:∀a∈K.map (·.1),xm S K a)(e:Nat):e∈K.map (·.1)↔Rch S x e:=by
 constructor
 ·intro h
  obtain⟨t,ht,rfl⟩:=List.mem_map.mp h
  obtain⟨vs,tr,_⟩:=R.tr t ht
  exact tr.rch
 ·intro h
  induction h with
  |refl=>obtain⟨K',e⟩:=R.st;rw[e];exact List.mem_cons_self
  |step _ q ih=>exact c _ ih _ _ q
theorem uH {y:Nat}{K:pU}:kh (rD K) [.int (y:Nat)]=some (.fz (((K.find? fun t=>decide (t.1=y)).map fun t=>PV.tup t.2).getD .non)):=by
 rw[rD,aL,az,Option.map_some,rg]
end Dp
end
section
namespace Fo
open PySem L2
theorem s5 {y:Str}(hy:y∈vf):y = "none"\/y = "whole"\/y = "halves"\/y = "splits"\/y = "one":=by simpa [vf] using hy
theorem n1:(("halves" : Str) = "whole")=False:=eq_false (by decide)
theorem n2:(("halves" : Str) = "splits")=False:=eq_false (by decide)
theorem n3:(("splits" : Str) = "whole")=False:=eq_false (by decide)
theorem n9:(("none" : Str) = "halves")=False:=eq_false (by decide)
end Fo
end
section
namespace Dp
open PySem L2 Fo Dp Lo
theorem qz (t:Nat):∀l:List Nat,pin (.int t) (ag l)=decide (t∈l)
 |[]=>rfl
 |u::l=>by
  show (iy (.int (u:Int)) (.int (t:Int)) || pin (.int t) (ag l))=_
  rw[jT,qz t l]
  by_cases h:u=t
  ·subst h;simp
  ·have h':¬((u:Int)=(t:Int)):=by omega
   rw[decide_eq_false h',Bool.false_or]
   have:t≠u:=fun z=>h z.symm
   simp[List.mem_cons,this]
end Dp
end
section
namespace Fo
open PySem L2
end Fo
namespace Dp
open PySem L2 Fo Dp
noncomputable def stay (j:Str)(ms:List Nat)(a b:Nat):Bool:=if j = "told" then true else if j = "names" then decide (a<b) else decide (up ms b≤up ms a)
noncomputable def tp (j:Str)(ms:List Nat)(a b:Nat):Nat:=if stay j ms a b then a else b
noncomputable def un (j:Str)(ms:List Nat)(a b:Nat):Nat:=if stay j ms a b then b else a
inductive Deed where
 |find (x:Nat)|join (x y:Nat)
noncomputable def dA (us:List Nat):Deed->PV
 |.find x=>.int (hd us x:Nat)
 |.join x z=>.bl (!decide (hd us x=hd us z))
end Dp
end
section
namespace Dp
open PySem L2 Fo Dp
noncomputable def JA:FS:=(cH 7 (sy (aX aV (aa (aX bB (aa (fV 0) (aa (ax cc (ax cc (fV 1) (fC (.int 1))) (ax iF (fV 6) (fC (.int 5)))) af))) (aa (fC (.int 20)) af))) (qh (ax gn (fC (.int 4)) (ax bO (fV 6) (fC (.int 5))))) qc))
theorem Gz {ρ:aK}:JA ρ=(cH 7 (sy (aX aV (aa (aX bB (aa (fV 0) (aa (ax cc (ax cc (fV 1) (fC (.int 1))) (ax iF (fV 6) (fC (.int 5)))) af))) (aa (fC (.int 20)) af))) (qh (ax gn (fC (.int 4)) (ax bO (fV 6) (fC (.int 5))))) qc)) ρ:=Eq.trans rfl rfl
noncomputable def JB:FS:=(mQ 8 9 (aa (ax bO (ax cq (fV 7) (fC (.int 0))) (fV 2)) (aa (ax bO (ax cq (fV 7) (fC (.int 1))) (fV 2)) af)))
theorem Gu {ρ:aK}:JB ρ=(mQ 8 9 (aa (ax bO (ax cq (fV 7) (fC (.int 0))) (fV 2)) (aa (ax bO (ax cq (fV 7) (fC (.int 1))) (fV 2)) af))) ρ:=Eq.trans rfl rfl
noncomputable def Go:FS:=(gO (fT (ax jR (ax bO (ax cq (fV 4) (fC (.int 1))) (fC (.int 4))) (fC (.int 1)))) (mQ 8 9 (aa (ax bO (fV 6) (fV 2)) (aa (ax bO (ax cc (fV 6) (fC (.int 1))) (fV 2)) af))) bG)
theorem Be {ρ:aK}:Go ρ=(gO (fT (ax jR (ax bO (ax cq (fV 4) (fC (.int 1))) (fC (.int 4))) (fC (.int 1)))) (mQ 8 9 (aa (ax bO (fV 6) (fV 2)) (aa (ax bO (ax cc (fV 6) (fC (.int 1))) (fV 2)) af))) bG) ρ:=Eq.trans rfl rfl
noncomputable def GR:FS:=(gO (gm (fT (ax jR (ax bO (ax cq (fV 4) (fC (.int 1))) (fC (.int 4))) (fC (.int 2)))) (fT (ax DA (ax bO (ax cq (fV 7) (fC (.int 2))) (fC (.int 3))) (fC (.int 0))))) (aY (cH 8 (ax bO (ax gn (ax iF (fV 8) (fC (.int 2))) (fC (.int 2))) (fV 2))) (cH 9 (fB kK (aa (ax iN (fV 2) (fC (.int 1))) (aa (ax cc (fV 8) (fC (.int 1))) af))))) bG)
theorem xu {ρ:aK}:GR ρ=(gO (gm (fT (ax jR (ax bO (ax cq (fV 4) (fC (.int 1))) (fC (.int 4))) (fC (.int 2)))) (fT (ax DA (ax bO (ax cq (fV 7) (fC (.int 2))) (fC (.int 3))) (fC (.int 0))))) (aY (cH 8 (ax bO (ax gn (ax iF (fV 8) (fC (.int 2))) (fC (.int 2))) (fV 2))) (cH 9 (fB kK (aa (ax iN (fV 2) (fC (.int 1))) (aa (ax cc (fV 8) (fC (.int 1))) af))))) bG) ρ:=Eq.trans rfl rfl
noncomputable def Ge:FS:=(gO (gm (fT (ax oq (fV 5) (ft af))) (fT (ax jR (ax bO (ax cq (fV 7) (fC (.int 2))) (fC (.int 7))) (fC (.int 1))))) (jL (ax cq (fV 5) (ax bO (ax cq (fV 7) (fC (.int 3))) (fB iH (aa (fV 5) af)))) (gw 2 (gC (gN 8) (gC (gN 9) g0)))) bG)
theorem za {ρ:aK}:Ge ρ=(gO (gm (fT (ax oq (fV 5) (ft af))) (fT (ax jR (ax bO (ax cq (fV 7) (fC (.int 2))) (fC (.int 7))) (fC (.int 1))))) (jL (ax cq (fV 5) (ax bO (ax cq (fV 7) (fC (.int 3))) (fB iH (aa (fV 5) af)))) (gw 2 (gC (gN 8) (gC (gN 9) g0)))) bG) ρ:=Eq.trans rfl rfl
noncomputable def JD:FS:=(lK hZ 5 (aa (ax cq (ft (aa (gh (aa (fV 8) (aa (fV 9) af))) (aa (gh (aa (fV 9) (aa (fV 8) af))) af))) (ax bO (ax iF (ax cq (fV 7) (fC (.int 2))) (fC (.int 7))) (fC (.int 2)))) af))
theorem Fa {ρ:aK}:JD ρ=(lK hZ 5 (aa (ax cq (ft (aa (gh (aa (fV 8) (aa (fV 9) af))) (aa (gh (aa (fV 9) (aa (fV 8) af))) af))) (ax bO (ax iF (ax cq (fV 7) (fC (.int 2))) (fC (.int 7))) (fC (.int 2)))) af)) ρ:=Eq.trans rfl rfl
theorem Ga {ρ:aK}:dB ρ=(aY JA (aY JB (aY Go (aY GR (aY Ge JD))))) ρ:=Eq.trans rfl rfl
noncomputable def jD (ps:List (Nat×Nat)):List PV:=ps.map fun p=>.tup [.int p.1,.int p.2]
theorem vb (ps:List (Nat×Nat)):(jD ps).length=ps.length:=List.length_map ..
theorem io:∀ps:List (Nat×Nat),aW (jD ps)=true
 |[]=>by show aW []=true;rw[aW]
 |p::ps=>by
  show aW (.tup [.int p.1,.int p.2]::jD ps)=true
  rw[aW,io ps];simp[bL,aW]
theorem qf:∀ps:List (Nat×Nat),cJ (jD ps)≤1
 |[]=>by show cJ []≤1;rw[cJ];omega
 |p::ps=>by
  show cJ (.tup [.int p.1,.int p.2]::jD ps)≤1
  have:=qf ps
  rw[cJ];simp[lr,cJ];omega
theorem ku (ps:List (Nat×Nat)):gd (jD ps) []=ps.isEmpty:=by
 cases ps with
 |nil=>exact lI
 |cons p ps=>exact qg (by show (jD ps).length+1≠0;omega)
theorem qq {α:Type}(l:List α)(k:Nat):jv l (some (k:Int)) none=l.drop k:=by
 unfold jv
 rw[HT.sIx_nat,HT.sIx_none]
 by_cases h:k≤l.length
 ·rw[Nat.min_eq_left h,List.take_of_length_le (by rw[List.length_drop];omega)]
 ·rw[Nat.min_eq_right (by omega),List.drop_eq_nil_of_le (Nat.le_refl _),List.drop_eq_nil_of_le (by omega),List.take_nil]
section
variable {ns:List Int}{n:Nat}{hs ys:List Nat}{row:List (Nat×Nat)}{s3:Option Sl}{at' k:Nat}
noncomputable def JR (ns:List Int)(at' n:Nat)(s3:Option Sl)(hs:List Nat)(row:List (Nat×Nat))(k:Nat)(ys:List Nat)(x z:Nat):aK:=[some (.val (.src (iL ns))),some (.val (.int at')),some (.val (.int n)),s3,some (.val (.lst (ag hs))),some (.own (jD row)),some (.val (.int k)),some (.val (.lst (ag ys))),some (.val (.int x)),some (.val (.int z))]
theorem GJ (hn:1≤n)(hh:hs.length=4){x z:Nat}(hx:x<n)(hz:z<n):∃x' z',x'<n/\z'<n/\Go (JR ns at' n s3 hs row k ys x z)=.nx (JR ns at' n s3 hs row k ys x' z'):=by
 have i1:L2.eI (ag hs) 1=some (.int (up hs 1:Nat)):=bM (x:=1) (by omega)
 have pn:(0:Int)<(n:Int):=by omega
 unfold JR
 by_cases q:(up hs 1:Int) % 4=1
 ·refine⟨k % n,(k+1) % n,Nat.mod_lt _ (by omega),Nat.mod_lt _ (by omega),?_⟩
  simp![Be,i1,decide_eq_true q,pn]
  rfl
 ·exact⟨x,z,hx,hz,by simp![Be,i1,decide_eq_false q]⟩
theorem GQ (hn:1≤n)(hn2:n≤40)(hh:hs.length=4)(hy:4≤ys.length){x z:Nat}(hx:x<n)(hz:z<n):∃x' z',x'<n/\z'<n/\GR (JR ns at' n s3 hs row k ys x z)=.nx (JR ns at' n s3 hs row k ys x' z'):=by
 have i1:L2.eI (ag hs) 1=some (.int (up hs 1:Nat)):=bM (x:=1) (by omega)
 have i2:L2.eI (ag ys) 2=some (.int (up ys 2:Nat)):=bM (x:=2) (by omega)
 have pn:(0:Int)<(n:Int):=by omega
 unfold JR
 by_cases q:(up hs 1:Int) % 4=2
 ·by_cases q2:(0:Int)<(up ys 2:Int) % 3
  ·have e1:(x:Int) / 2 * 2 % (n:Int)=((x / 2 * 2 % n:Nat):Int):=by push_cast;rfl
   have em:(if ((x / 2 * 2 % n:Nat):Int)+1<(n:Int) - 1 then ((x / 2 * 2 % n:Nat):Int)+1 else (n:Int) - 1)=((min (n - 1) (x / 2 * 2 % n+1):Nat):Int):=by split<;>omega
   refine⟨x / 2 * 2 % n,min (n - 1) (x / 2 * 2 % n+1),Nat.mod_lt _ (by omega),by omega,?_⟩
   have ml:(((x:Int) / 2).natAbs<2 ^ 64\/(2:Int).natAbs<2 ^ 64):=.inr (by decide)
   simp![xu,i1,i2,decide_eq_true q,decide_eq_true q2,pn,ml,e1,em]
  ·exact⟨x,z,hx,hz,by simp![xu,i1,i2,decide_eq_true q,decide_eq_false q2]⟩
 ·exact⟨x,z,hx,hz,by simp![xu,i1,decide_eq_false q]⟩
theorem Gk (hy:4≤ys.length)(hr:∀p∈row,p.1<n/\p.2<n){x z:Nat}(hx:x<n)(hz:z<n):∃x' z',x'<n/\z'<n/\Ge (JR ns at' n s3 hs row k ys x z)=.nx (JR ns at' n s3 hs row k ys x' z'):=by
 have i2:L2.eI (ag ys) 2=some (.int (up ys 2:Nat)):=bM (x:=2) (by omega)
 have i3:L2.eI (ag ys) 3=some (.int (up ys 3:Nat)):=bM (x:=3) (by omega)
 have dd:decide (cJ (jD row)≤49)=true:=decide_eq_true (by have:=qf row;omega)
 have p0:aW []=true:=by rw[aW]
 unfold JR
 by_cases h0:row=[]
 ·subst h0;exact⟨x,z,hx,hz,by simp![za,io,p0,dd,ku,List.isEmpty_nil]⟩
 ·have ie:row.isEmpty=false:=by cases row with
   |nil=>exact absurd rfl h0
   |cons=>rfl
  have pos:0<row.length:=List.length_pos_iff.mpr h0
  by_cases q:(up ys 2:Int) % 7=1
  ·have hl:up ys 3 % row.length<row.length:=Nat.mod_lt _ pos
   have pl:(0:Int)<(row.length:Int):=by omega
   have ea:L2.eI (jD row) ((up ys 3:Int) % (row.length:Int))=some (.tup [.int (row[up ys 3 % row.length]).1,.int (row[up ys 3 % row.length]).2]):=by
    rw[show (up ys 3:Int) % (row.length:Int)=((up ys 3 % row.length:Nat):Int) from rfl]
    refine L2.dG ?_
    unfold jD
    rw[List.getElem?_map,List.getElem?_eq_getElem hl];rfl
   have hm:=hr _ (List.getElem_mem hl)
   refine⟨_,_,hm.1,hm.2,?_⟩
   simp![za,io,p0,dd,ku,ie,i2,i3,decide_eq_true q,vb,pl,ea]
  ·exact⟨x,z,hx,hz,by simp![za,io,p0,dd,ku,ie,i2,decide_eq_false q]⟩
theorem HN (hy:4≤ys.length)(hl:row.length≤1000){x z:Nat}:∃p,(p=(x,z)\/p=(z,x))/\JD (JR ns at' n s3 hs row k ys x z)=.nx (JR ns at' n s3 hs (row++[p]) k ys x z):=by
 have i2:L2.eI (ag ys) 2=some (.int (up ys 2:Nat)):=bM (x:=2) (by omega)
 have l1:(jD row).length≤100000:=by rw[vb];omega
 have ea:∀p:Nat×Nat,jD row++[.tup [.int p.1,.int p.2]]=jD (row++[p]):=fun p=>by unfold jD;rw[List.map_append];rfl
 unfold JR
 by_cases q:(up ys 2:Int) / 7 % 2=0
 ·refine⟨(x,z),.inl rfl,?_⟩
  have e0:∀a b:PV,L2.eI [a,b] 0=some a:=fun a b=>rfl
  rw[←ea]
  simp![Fa,i2,q,e0,l1]
 ·have q:(up ys 2:Int) / 7 % 2=1:=by omega
  refine⟨(z,x),.inr rfl,?_⟩
  have e0:∀a b:PV,L2.eI [a,b] 1=some b:=fun a b=>rfl
  rw[←ea]
  simp![Fa,i2,q,e0,l1]
theorem BS (hn:1≤n)(hn2:n≤40)(hh:hs.length=4)(hat:at'≤500)(hk:k≤500)(hl:row.length≤1000)(hr:∀p∈row,p.1<n/\p.2<n){z7 z8 z9:Option Sl}:∃p w7 w8 w9,(p.1<n/\p.2<n) ∧
  dB [some (.val (.src (iL ns))),some (.val (.int at')),some (.val (.int n)),s3,some (.val (.lst (ag hs))),some (.own (jD row)),some (.val (.int k)),z7,z8,z9] =
   .nx [some (.val (.src (iL ns))),some (.val (.int at')),some (.val (.int n)),s3,some (.val (.lst (ag hs))),some (.own (jD (row++[p]))),some (.val (.int k)),w7,w8,w9]:=by
 obtain⟨c,ec⟩:=jB ns ((at':Int)+1+(k:Int) / 5) (by omega) (by omega)
 obtain⟨xs,hx,ex⟩:=fP c 20 (by decide) (by decide)
 have hx:xs.length=20:=hx
 have e4:(4:Int) * ((k:Int) % 5)=((4 * (k % 5):Nat):Int):=by omega
 have ec':jv (ag xs) (some ((4 * (k % 5):Nat):Int)) none=ag (xs.drop (4 * (k % 5))):=by rw[yH,qq]
 generalize hys:xs.drop (4 * (k % 5))=ys at ec'
 have hy:4≤ys.length:=by rw[←hys,List.length_drop];omega
 have ml:((4:Int).natAbs<2 ^ 64\/((k:Int) % 5).natAbs<2 ^ 64):=.inl (by decide)
 have pn:(0:Int)<(n:Int):=by omega
 have i0:L2.eI (ag ys) 0=some (.int (up ys 0:Nat)):=bM (x:=0) (by omega)
 have i1:L2.eI (ag ys) 1=some (.int (up ys 1:Nat)):=bM (x:=1) (by omega)
 have m0:(up ys 0:Int) % (n:Int)=((up ys 0 % n:Nat):Int):=rfl
 have m1:(up ys 1:Int) % (n:Int)=((up ys 1 % n:Nat):Int):=rfl
 obtain⟨x1,z1,a1,b1,e1⟩:=GJ (ns:=ns) (at':=at') (s3:=s3) (row:=row) (k:=k) (ys:=ys) hn hh (Nat.mod_lt (up ys 0) (by omega)) (Nat.mod_lt (up ys 1) (by omega))
 obtain⟨x2,z2,a2,b2,e2⟩:=GQ (ns:=ns) (at':=at') (s3:=s3) (row:=row) (k:=k) (ys:=ys) hn hn2 hh hy a1 b1
 obtain⟨x3,z3,a3,b3,e3⟩:=Gk (ns:=ns) (at':=at') (s3:=s3) (hs:=hs) (k:=k) (ys:=ys) hy hr a2 b2
 obtain⟨p,hp,e5⟩:=HN (ns:=ns) (n:=n) (at':=at') (s3:=s3) (hs:=hs) (row:=row) (k:=k) (ys:=ys) (x:=x3) (z:=z3) hy hl
 refine⟨p,some (.val (.lst (ag ys))),some (.val (.int x3)),some (.val (.int z3)),by rcases hp with rfl|rfl<;>exact⟨by assumption,by assumption⟩,?_⟩
 unfold JR at e1 e2 e3 e5
 simp![Ga,Gz,Gu,ec,ex,ml,e4,ec',i0,i1,pn,m0,m1,e1,e2,e3,e5]
theorem wo (hn:1≤n)(hn2:n≤40)(hh:hs.length=4)(hat:at'≤500):∀(ks:List Nat) (row:List (Nat×Nat)) (z6 z7 z8 z9:Option Sl),(∀k∈ks,k≤500)->row.length+ks.length≤1000->(∀p∈row,p.1<n/\p.2<n) →
  ∃row' w6 w7 w8 w9,(∀p∈row',p.1<n/\p.2<n)/\row'.length=row.length+ks.length/\bA (gN 6) dB (ag ks) [some (.val (.src (iL ns))),some (.val (.int at')),some (.val (.int n)),s3,some (.val (.lst (ag hs))),some (.own (jD row)),z6,z7,z8,z9] =
   .nx [some (.val (.src (iL ns))),some (.val (.int at')),some (.val (.int n)),s3,some (.val (.lst (ag hs))),some (.own (jD row')),w6,w7,w8,w9]
 |[],row,z6,z7,z8,z9,_,_,hr=>⟨row,z6,z7,z8,z9,hr,rfl,rfl⟩
 |k::ks,row,z6,z7,z8,z9,hk,hl,hr=>by
  rw[List.length_cons] at hl
  obtain⟨p,w7,w8,w9,hp,e⟩:=BS (ns:=ns) (s3:=s3) hn hn2 hh hat (hk k List.mem_cons_self) (by omega) hr (z7:=z7) (z8:=z8) (z9:=z9)
  obtain⟨row',v6,v7,v8,v9,h1,h2,e'⟩:=wo hn hn2 hh hat ks (row++[p]) (some (.val (.int k))) w7 w8 w9 (fun q hq=>hk q (List.mem_cons_of_mem _ hq)) (by rw[List.length_append,List.length_singleton];omega) (fun q hq=>by
   rcases List.mem_append.mp hq with hq|hq
   ·exact hr q hq
   ·rw[List.mem_singleton.mp hq];exact hp)
  refine⟨row',v6,v7,v8,v9,h1,by rw[h2,List.length_append,List.length_singleton,List.length_cons];omega,?_⟩
  rw[←e',eA,cr]
  simp![e]
theorem xW (ns:List Int){at' n m:Nat}(hn:1≤n)(hn2:n≤40)(hat:at'≤500)(hm:m≤60):∃row:List (Nat×Nat),(∀p∈row,p.1<n/\p.2<n)/\row.length≤m/\dY [.src (iL ns),.int at',.int n,.int m]=some (.v (.tup (jD row))):=by
 obtain⟨c,ec⟩:=jB ns (at':Int) (by omega) (by omega)
 obtain⟨hs,hh,eh⟩:=fP c 4 (by decide) (by decide)
 have hh:hs.length=4:=hh
 have i0:L2.eI (ag hs) 0=some (.int (up hs 0:Nat)):=bM (x:=0) (by omega)
 have pm:(0:Int)<(m:Int)+1:=by omega
 have em:(up hs 0:Int) % ((m:Int)+1)=((up hs 0 % (m+1):Nat):Int):=rfl
 have lt:up hs 0 % (m+1)<m+1:=Nat.mod_lt _ (by omega)
 generalize up hs 0 % (m+1)=q at *
 obtain⟨row,w6,w7,w8,w9,h1,h2,e⟩:=wo (ns:=ns) (s3:=some (.val (.int m))) hn hn2 hh hat (List.range q) [] none none none none (fun k hk=>by have:=List.mem_range.mp hk;omega) (by rw[List.length_range];simp;omega) (fun p hp=>by cases hp)
 rw[List.length_range] at h2
 simp only[List.length_nil] at h2
 have e:bA (gN 6) dB (ag (List.range q)) [some (.val (.src (iL ns))),some (.val (.int at')),some (.val (.int n)),some (.val (.int m)),some (.val (.lst (ag hs))),some (.own []),none,none,none,none]=_:=e
 exact⟨row,h1,by omega,by simp![lP,gG,ec,eh,i0,pm,em,K1 (show q≤100000 by omega),e]⟩
end
end Dp
end
section
namespace Dp
open PySem PySem.Spec L2 Fo Pt
noncomputable abbrev Tl:=Nat×Nat×Int
noncomputable def eM (t:Tl):PV:=.tup [.int (t.1:Nat),.int (t.2.1:Nat),.int t.2.2]
noncomputable def bg (row:List Tl):PV:=.tup (row.map eM)
noncomputable def sQ (j:Nat)(s:Int):PV:=.tup [.int (j:Nat),.int s]
noncomputable def Ao (row:List Tl)(j:Nat):List Sg:=match row[j]? with
 |some t=>[(t.1,t.2.1,sQ j 1),(t.2.1,t.1,sQ j (-1))]
 |none=>[]
noncomputable def bc (row:List Tl)(js:List Nat):List Sg:=js.flatMap (Ao row)
theorem pO {row:List Tl}{j:Nat}{t:Tl}(h:row[j]?=some t):Ao row j=[(t.1,t.2.1,sQ j 1),(t.2.1,t.1,sQ j (-1))]:=by unfold Ao;rw[h]
theorem fN {row:List Tl}{js:List Nat}{a e:Nat}{l:PV}(h:(a,e,l)∈bc row js):∃j s t,j∈js/\row[j]?=some t/\l=sQ j s/\((s=1/\a=t.1/\e=t.2.1)\/(s = -1/\a=t.2.1/\e=t.1)):=by
 obtain⟨j,hj,h⟩:=List.mem_flatMap.mp h
 cases et:row[j]? with
 |none=>unfold Ao at h;rw[et] at h;cases h
 |some t=>
  rw[pO et] at h
  rcases List.mem_cons.mp h with h|h
  ·cases h;exact⟨j,1,t,hj,et,rfl,.inl ⟨rfl,rfl,rfl⟩⟩
  ·have h:=List.mem_singleton.mp h
   cases h;exact⟨j,-1,t,hj,et,rfl,.inr ⟨rfl,rfl,rfl⟩⟩
theorem kD {row:List Tl}{js:List Nat}{j:Nat}{t:Tl}(hj:j∈js)(et:row[j]?=some t):(t.1,t.2.1,sQ j 1)∈bc row js/\(t.2.1,t.1,sQ j (-1))∈bc row js:=by
 constructor<;>refine List.mem_flatMap.mpr ⟨j,hj,?_⟩<;>rw[pO et]
 ·exact List.mem_cons_self
 ·exact List.mem_cons_of_mem _ List.mem_cons_self
theorem Az {a b c:PV}:jv [a,b,c] none (some 2)=[a,b]:=by unfold jv;rfl
theorem kB {row:List Tl}{j:Nat}{t:Tl}(h:row[j]?=some t):L2.eI (row.map eM) (j:Int)=some (eM t):=dG (by rw[List.getElem?_map,h];rfl)
theorem AB:¬(HT.sIx 3 0 none=0/\HT.sIx 3 3 (some 2)=3):=by decide +kernel
theorem nP {row:List Tl}{s1:Option Sl}:∀(js:List Nat) (S:List Sg) (z3 z4 z5:Option Sl),(∀j∈js,j<row.length)->S.length+2 * js.length≤1000->∃z3' z4' z5',bA (gN 3) cX (ag js) [some (.val (bg row)),s1,some (.own (S.map mo)),z3,z4,z5]=.nx [some (.val (bg row)),s1,some (.own ((S++bc row js).map mo)),z3',z4',z5']
 |[],S,z3,z4,z5,_,_=>⟨z3,z4,z5,by rw[show ag []=[] from rfl,e8];simp[bc]⟩
 |j::js,S,z3,z4,z5,hj,hl=>by
  obtain⟨t,et⟩:∃t,row[j]?=some t:=⟨_,List.getElem?_eq_getElem (hj j List.mem_cons_self)⟩
  rw[List.length_cons] at hl
  have es:(S++Ao row j)++bc row js=S++bc row (j::js):=by unfold bc;rw[List.flatMap_cons,List.append_assoc]
  have el:(S++Ao row j).length=S.length+2:=by rw[pO et,List.length_append];rfl
  obtain⟨z3',z4',z5',e⟩:=nP (s1:=s1) js (S++Ao row j) (some (.val (.int (j:Nat)))) (some (.val (.int (t.1:Nat)))) (some (.val (.int (t.2.1:Nat)))) (fun i hi=>hj i (List.mem_cons_of_mem _ hi)) (by rw[el];omega)
  rw[es] at e
  refine⟨z3',z4',z5',?_⟩
  rw[eA,cr]
  have e2:S.map mo++[.tup [.int (t.1:Nat),.int (t.2.1:Nat),.tup [.int (j:Nat),.int 1]],.tup [.int (t.2.1:Nat),.int (t.1:Nat),.tup [.int (j:Nat),.int (-1)]]]=(S++Ao row j).map mo:=by rw[pO et,List.map_append];rfl
  have hl2:S.length≤99998:=by omega
  simp![cX,bg,aT,ak,aS,av,b5,al,aw,aE,aB,ai,bu,aQ,aN,br,bw,bv,bp,aP,aq,aM,ao,bq,aO,am,aj,aC,aA,az,aH,ah,b6,aR,aD,aG,aU,au,aF,bn,ay,bo,aL,kB et,eM,if_neg AB,Az,List.length_map,if_pos hl2,e2]
  exact e
theorem oP {row:List Tl}{js:List Nat}(hj:∀j∈js,j<row.length)(hl:js.length≤400):cb [bg row,.lst (ag js)]=some (.n ((bc row js).map mo)):=by
 obtain⟨z3,z4,z5,e⟩:=nP (row:=row) (s1:=some (.val (.lst (ag js)))) js [] none none none hj (by simp;omega)
 have e':bA (gN 3) cX (ag js) [some (.val (bg row)),some (.val (.lst (ag js))),some (.own []),none,none,none]=_:=e
 simp![kW,gi,cX,aT,ak,aS,av,b5,al,aw,aE,aB,ai,bu,aQ,aN,br,bw,bv,bp,aP,aq,aM,ao,bq,aO,am,aj,aC,aA,az,aH,ah,b6,aR,aD,aG,aU,au,aF,bn,ay,bo,aL,e',List.nil_append]
theorem hW {row:List Tl}{js:List Nat}:uQ ((bc row js).map mo)=true:=by
 have:∀S:List Sg,(∀t∈S,tf t.2.2=true)->uQ (S.map mo)=true:=fun S=>by
  induction S with
  |nil=>intro _;rfl
  |cons t S ih=>
   intro h
   rw[List.map_cons,uQ,ih fun u hu=>h u (List.mem_cons_of_mem _ hu),Bool.and_true]
   unfold mo
   rw[tf,uQ,uQ,uQ,h t List.mem_cons_self];rfl
 refine this _ fun t ht=>?_
 obtain⟨j,s,u,_,_,e,_⟩:=fN (a:=t.1) (e:=t.2.1) (l:=t.2.2) ht
 rw[e];rfl
noncomputable def eH (R:Nat)(v:Int):Int:=if R=0 then v else v % R
theorem gt {R:Nat}{a b:Int}(h:(R:Int) ∣ a - b):eH R a=eH R b:=by
 unfold eH
 split
 ·next e=>subst e;rw[Int.natCast_zero,Int.zero_dvd] at h;omega
 ·exact Int.emod_eq_emod_iff_emod_sub_eq_zero.mpr (Int.emod_eq_zero_of_dvd h)
theorem gF {R:Nat}{a:Int}:(R:Int) ∣ eH R a - a:=by
 unfold eH
 split
 ·rw[Int.sub_self];exact Int.dvd_zero _
 ·have:=Int.emod_add_mul_ediv a R
  exact⟨-(a / R),by rw[Int.mul_neg];omega⟩
noncomputable def jQ (row:List Tl):PV->Int
 |.tup [.int j,.int s]=>((row[j.toNat]?.map fun t=>t.2.2).getD 0) * s
 |_=>0
theorem wE {row:List Tl}{j:Nat}{t:Tl}{s:Int}(et:row[j]?=some t):jQ row (sQ j s)=t.2.2 * s:=by
 show ((row[((j:Nat):Int).toNat]?.map fun t=>t.2.2).getD 0) * s=_
 rw[Int.toNat_natCast,et];rfl
noncomputable def dF (R:Nat)(h:Nat->Int)(t:Tl):Prop:=(R:Int) ∣ t.2.2 - (h t.2.1 - h t.1)
theorem Trk.sum {row:List Tl}{js:List Nat}{R:Nat}{h:Nat->Int}(hc:∀j∈js,∀t,row[j]?=some t->dF R h t){x e:Nat}{r:List PV}{vs:List Nat}(t:Trk (bc row js) x e r vs):(R:Int) ∣ (r.map (jQ row)).sum - (h e - h x):=by
 induction t with
 |nil=>rw[List.map_nil,List.sum_nil];exact⟨0,by omega⟩
 | @snoc a e l r vs t q ih=>
  obtain⟨j,s,u,hj,et,rfl,hs⟩:=fN q
  have k:=hc j hj u et
  unfold dF at k
  rw[List.map_append,List.sum_append,List.map_cons,List.map_nil,List.sum_cons,List.sum_nil,wE et]
  rcases hs with ⟨rfl,rfl,rfl⟩|⟨rfl,rfl,rfl⟩
  ·have:=Int.dvd_add ih k
   rwa [show (r.map (jQ row)).sum+(u.2.2 * 1+0) - (h u.2.1 - h x)=(r.map (jQ row)).sum - (h u.1 - h x)+(u.2.2 - (h u.2.1 - h u.1)) by omega]
  ·have:=Int.dvd_sub ih k
   rwa [show (r.map (jQ row)).sum+(u.2.2 * -1+0) - (h u.1 - h x)=(r.map (jQ row)).sum - (h u.2.1 - h x) - (u.2.2 - (h u.2.1 - h u.1)) by omega]
theorem Trk.labels {row:List Tl}{js:List Nat}{x e:Nat}{r:List PV}{vs:List Nat}(t:Trk (bc row js) x e r vs):∀l∈r,∃j s u,l=sQ j s/\j∈js/\row[j]?=some u/\(s=1\/s = -1):=by
 induction t with
 |nil=>intro l hl;cases hl
 |snoc _ q ih=>
  intro l hl
  rcases List.mem_append.mp hl with hl|hl
  ·exact ih l hl
  ·obtain⟨j,s,u,hj,et,e,hs⟩:=fN q
   rw[List.mem_singleton.mp hl]
   exact⟨j,s,u,e,hj,et,hs.elim (fun h=>.inl h.1) fun h=>.inr h.1⟩
theorem j2 {R:Nat}{v:Int}:d9 [.int (R:Nat),.int v]=some (.v (.int (eH R v))):=by
 by_cases h:R=0
 ·subst h
  simp![kG,gR,eH,if_true]
  rfl
 ·have h1:decide ((R:Int)=0)=false:=decide_eq_false (by omega)
  have h2:(0:Int)<(R:Int):=by omega
  simp![kG,gR,h1,if_pos h2,eH,if_neg h]
theorem kS {R:Nat}{v:Int}:ca [.int v,.int (R:Nat)]=some (.v (.int (eH R v))):=by
 by_cases h:R=0
 ·subst h
  simp![kF,gT,eH,if_true]
  rfl
 ·have h1:decide ((R:Int)=0)=false:=decide_eq_false (by omega)
  have h2:(0:Int)<(R:Int):=by omega
  simp![kF,gT,h1,if_pos h2,eH,if_neg h]
theorem oN {row:List Tl}{R:Nat}{r:List PV}(hl:∀l∈r,∃j s u,l=sQ j s/\row[j]?=some u/\(s=1\/s = -1))(hr:r.length<1000):dm [.int (R:Nat),bg row,.tup r]=some (.v (.int (eH R (r.map (jQ row)).sum))):=by
 have g0:pT (gw 2 (gC (gN 0) (gC (gN 1) g0))) jk fR [none,none,some (.val (bg row))] r=some (r.map fun l=>.int (jQ row l)):=by
  refine pg (fun l=>.int (jQ row l)) fun l h=>?_
  obtain⟨j,s,u,rfl,et,hs⟩:=hl l h
  have hb:(u.2.2.natAbs<2 ^ 64\/s.natAbs<2 ^ 64):=.inr (by rcases hs with rfl|rfl<;>decide)
  rw[wE et]
  simp![sQ,fR,bg,kB et,eM,if_pos hb]
 have e1:gD (r.map fun l=>PV.int (jQ row l))=some (r.map (jQ row)):=by
  have:=ma (r.map (jQ row))
  rwa [List.map_map] at this
 simp![pH,iw,fR,if_pos hr,g0,e1,j2]
theorem Rch.trans {S:List Sg}{x a e:Nat}(h1:Rch S x a)(h2:Rch S a e):Rch S x e:=by
 induction h2 with
 |refl=>exact h1
 |step _ q ih=>exact .step ih q
theorem Rch.mono {S S':List Sg}(h:∀t∈S,t∈S'){x e:Nat}(r:Rch S x e):Rch S' x e:=by
 induction r with
 |refl=>exact .refl
 |step _ q ih=>exact .step ih (h _ q)
theorem Rch.symm {row:List Tl}{js:List Nat}{x e:Nat}(r:Rch (bc row js) x e):Rch (bc row js) e x:=by
 induction r with
 |refl=>exact .refl
 |step _ q ih=>
  obtain⟨j,s,t,hj,et,_,hs⟩:=fN q
  obtain⟨m1,m2⟩:=kD hj et
  rcases hs with ⟨_,rfl,rfl⟩|⟨_,rfl,rfl⟩
  ·exact (Rch.step .refl m2).trans ih
  ·exact (Rch.step .refl m1).trans ih
theorem jZ {n:Nat}{row:List Tl}(hr:∀t∈row,t.1<n/\t.2.1<n){js:List Nat}:∀t∈bc row js,t.1<n/\t.2.1<n:=fun t ht=>by
 obtain⟨j,s,u,_,et,_,hs⟩:=fN (a:=t.1) (e:=t.2.1) (l:=t.2.2) ht
 have:=hr u (List.mem_of_getElem? et)
 rcases hs with ⟨_,h1,h2⟩|⟨_,h1,h2⟩<;>rw[h1,h2]
 ·exact this
 ·exact⟨this.2,this.1⟩
theorem mM {n:Nat}(hn:n≤40){R:Nat}{h:Nat->Int}{row:List Tl}(hr:∀t∈row,t.1<n/\t.2.1<n)(hc:∀t∈row,dF R h t)(h60:row.length≤60):∀(ts pre:List Tl) (js:List Nat) (z3 z4 z5 z6 z7:Option Sl),row=pre++ts->(∀j∈js,j<pre.length)->js.length≤pre.length->(∀t∈pre,Rch (bc row js) t.1 t.2.1) →
  ∃js' z3' z4' z5' z6' z7',bA (gw 2 (gC (gN 3) (gC (gw 3 (gC (gN 4) (gC (gN 5) (gC (gN 6) g0)))) g0))) bf (cV pre.length (ts.map eM)) [some (.val (.int (R:Nat))),some (.val (bg row)),some (.own (ag js)),z3,z4,z5,z6,z7] =
   .nx [some (.val (.int (R:Nat))),some (.val (bg row)),some (.own (ag js')),z3',z4',z5',z6',z7']/\(∀j∈js',j<row.length)/\js'.length≤row.length/\∀t∈row,Rch (bc row js') t.1 t.2.1
 |[],pre,js,z3,z4,z5,z6,z7,e0,hj,hl,hp=>by
  rw[List.append_nil] at e0
  subst e0
  exact⟨js,z3,z4,z5,z6,z7,by rw[List.map_nil,cV,e8],hj,hl,hp⟩
 |t::ts,pre,js,z3,z4,z5,z6,z7,e0,hj,hl,hp=>by
  have e1:row=(pre++[t])++ts:=by rw[e0,List.append_assoc];rfl
  have hm:t∈row:=by rw[e0];exact List.mem_append_right _ List.mem_cons_self
  have et:row[pre.length]?=some t:=by rw[e0,List.getElem?_append_right (Nat.le_refl _),Nat.sub_self];rfl
  have hpl:pre.length<row.length:=(List.getElem?_eq_some_iff.mp et).1
  have hjr:∀j∈js,j<row.length:=fun j h=>by have:=hj j h;omega
  obtain⟨hx,hy⟩:=hr t hm
  have hcs:∀j∈js,∀u,row[j]?=some u->dF R h u:=fun j _ u eu=>hc u (List.mem_of_getElem? eu)
  have s1:=oP (row:=row) (js:=js) hjr (by omega)
  obtain⟨K,k1,RK,kc⟩:=lq hn hx (jZ hr (js:=js))
  have pl:(pre++[t]).length=pre.length+1:=by rw[List.length_append];rfl
  by_cases hin:t.2.1∈K.map (·.1)
  ·obtain⟨q,fq,mq⟩:=jX hin
   obtain⟨vs,tr,_⟩:=RK.tr _ mq
   have hq:q.length<n:=RK.rlen mq
   have g1:kh (rD K) [.int (t.2.1:Nat)]=some (.fz (.tup q)):=by rw[uH,fq];rfl
   have g2:=oN (R:=R) (row:=row) (r:=q) (fun l hl=>by obtain⟨j,s,u,a,_,b⟩:=tr.labels l hl;exact⟨j,s,u,a,b⟩) (by omega)
   have g3:eH R (q.map (jQ row)).sum=eH R t.2.2:=gt (by
    have a:=tr.sum hcs
    have b:=hc t hm
    unfold dF at b
    have:=Int.dvd_sub a b
    rwa [show (q.map (jQ row)).sum - (h t.2.1 - h t.1) - (t.2.2 - (h t.2.1 - h t.1))=(q.map (jQ row)).sum - t.2.2 by omega] at this)
   obtain⟨js',z3',z4',z5',z6',z7',e,r⟩:=mM hn hr hc h60 ts (pre++[t]) js (some (.val (.int (pre.length:Nat)))) (some (.val (.int (t.1:Nat)))) (some (.val (.int (t.2.1:Nat)))) (some (.val (.int t.2.2))) (some (.val (.tup q))) e1 (fun j hj'=>by have:=hj j hj';omega) (by omega) (fun u hu=>by
    rcases List.mem_append.mp hu with hu|hu
    ·exact hp u hu
    ·rw[List.mem_singleton.mp hu];exact tr.rch)
   refine⟨js',z3',z4',z5',z6',z7',?_,r⟩
   rw[List.map_cons,cV,cr]
   rw[pl] at e
   simp![eM,bf,aT,ak,aS,av,b5,al,aw,aE,aB,ai,bu,aQ,aN,br,bw,bv,bp,aP,aq,aM,ao,bq,aO,am,aj,aC,aA,az,aH,ah,b6,aR,aD,aG,aU,au,aF,bn,ay,bo,aL,gL,s1,iA,hW,k1,g1,g2,j2,g3,decide_true]
   exact e
  ·have g1:kh (rD K) [.int (t.2.1:Nat)]=some (.fz .non):=by
    rw[uH]
    cases ef:K.find? fun u=>decide (u.1=t.2.1) with
    |none=>rfl
    |some u=>exact absurd (by have:=pD (y:=t.2.1) (K:=K);rw[ef] at this;exact of_decide_eq_true this.symm) hin
   have sub:∀u∈bc row js,u∈bc row (js++[pre.length]):=fun u hu=>by
    unfold bc at hu ⊢
    rw[List.flatMap_append];exact List.mem_append_left _ hu
   obtain⟨js',z3',z4',z5',z6',z7',e,r⟩:=mM hn hr hc h60 ts (pre++[t]) (js++[pre.length]) (some (.val (.int (pre.length:Nat)))) (some (.val (.int (t.1:Nat)))) (some (.val (.int (t.2.1:Nat)))) (some (.val (.int t.2.2))) (some (.val .non)) e1 (fun j hj'=>by
    rw[pl]
    rcases List.mem_append.mp hj' with hj'|hj'
    ·have:=hj j hj';omega
    ·rw[List.mem_singleton.mp hj'];omega) (by rw[List.length_append,pl];simp only[List.length_singleton];omega) (fun u hu=>by
    rcases List.mem_append.mp hu with hu|hu
    ·exact (hp u hu).mono sub
    ·rw[List.mem_singleton.mp hu]
     exact .step .refl (kD (List.mem_append_right _ (List.mem_singleton.mpr rfl)) et).1)
   refine⟨js',z3',z4',z5',z6',z7',?_,r⟩
   rw[List.map_cons,cV,cr]
   rw[pl] at e
   have hl2:js.length≤100000:=by omega
   simp![eM,bf,aT,ak,aS,av,b5,al,aw,aE,aB,ai,bu,aQ,aN,br,bw,bv,bp,aP,aq,aM,ao,bq,aO,am,aj,aC,aA,az,aH,ah,b6,aR,aD,aG,aU,au,aF,bn,ay,bo,aL,gL,s1,iA,hW,k1,g1,b9,if_pos hl2,dE]
   exact e
theorem Cg {n:Nat}(hn:n≤40){R:Nat}{h:Nat->Int}{row:List Tl}(hr:∀t∈row,t.1<n/\t.2.1<n)(hc:∀t∈row,dF R h t)(h60:row.length≤60):∃js,cf [.int (R:Nat),bg row]=some (.v (.tup [.lst (ag js),.non]))/\(∀j∈js,j<row.length)/\js.length≤60/\∀t∈row,Rch (bc row js) t.1 t.2.1:=by
 obtain⟨js,z3,z4,z5,z6,z7,e,h1,h2,h3⟩:=mM hn hr hc h60 row [] [] none none none none none rfl (fun _ h=>by cases h) (Nat.le_refl _) (fun _ h=>by cases h)
 refine⟨js,?_,h1,by omega,h3⟩
 have e':bA (gw 2 (gC (gN 3) (gC (gw 3 (gC (gN 4) (gC (gN 5) (gC (gN 6) g0)))) g0))) bf (cV 0 (row.map eM)) [some (.val (.int (R:Nat))),some (.val (.tup (row.map eM))),some (.own []),none,none,none,none,none]=_:=e
 simp![ig,d6,bf,bg,aT,ak,aS,av,b5,al,aw,aE,aB,ai,bu,aQ,aN,br,bw,bv,bp,aP,aq,aM,ao,bq,aO,am,aj,aC,aA,az,aH,ah,b6,aR,aD,aG,aU,au,aF,bn,ay,bo,aL,e']
noncomputable def uT (row:List Tl):List (Nat×Nat):=row.map fun t=>(t.1,t.2.1)
noncomputable def cT (row:List Tl):Nat->Nat:=wG (uT row) id
theorem BE {row:List Tl}{js:List Nat}{x e:Nat}(r:Rch (bc row js) x e):cT row e=cT row x:=by
 induction r with
 |refl=>rfl
 |step _ q ih=>
  obtain⟨j,s,t,hj,et,_,hs⟩:=fN q
  have k:cT row t.1=cT row t.2.1:=gy _ _ _ _ (List.mem_map_of_mem (f:=fun t:Tl=>(t.1,t.2.1)) (List.mem_of_getElem? et))
  rcases hs with ⟨_,rfl,rfl⟩|⟨_,rfl,rfl⟩
  ·rw[←k];exact ih
  ·rw[k];exact ih
open Classical in
theorem mO {row:List Tl}{P:Nat->Prop}(hP:∀t∈row,(P t.1↔P t.2.1)){x y:Nat}(h:cT row x=cT row y):P x↔P y:=by
 have:=j5 (f:=fun v=>if P v then 1 else 0) (uT row) id (fun p hp=>by
  obtain⟨t,ht,rfl⟩:=List.mem_map.mp hp
  show (if P t.1 then 1 else 0)=(if P t.2.1 then 1 else 0)
  by_cases q:P t.1
  ·rw[if_pos q,if_pos ((hP t ht).mp q)]
  ·rw[if_neg q,if_neg fun z=>q ((hP t ht).mpr z)]) (fun a b e=>by rw[show a=b from e]) x y h
 have this:(if P x then 1 else 0)=(if P y then 1 else 0):=this
 by_cases q:P x<;>by_cases q':P y<;>simp[q,q'] at this ⊢
theorem sS {row:List Tl}{js:List Nat}(ha:∀t∈row,Rch (bc row js) t.1 t.2.1){x y:Nat}(h:cT row x=cT row y):Rch (bc row js) x y:=
 (mO (P:=fun v=>Rch (bc row js) x v) (fun t ht=>⟨fun q=>q.trans (ha t ht),fun q=>q.trans (ha t ht).symm⟩) h).mp .refl
noncomputable def cW (row:List Tl)(x:Nat):Nat:=((List.range (x+1)).find? fun z=>decide (cT row z=cT row x)).getD x
theorem iV (row:List Tl)(x:Nat):cW row x≤x/\cT row (cW row x)=cT row x/\∀z,cT row z=cT row x->cW row x≤z:=by
 have hs:((List.range (x+1)).find? fun z=>decide (cT row z=cT row x)).isSome:=by
  rw[List.find?_isSome];exact⟨x,List.mem_range.mpr (Nat.lt_succ_self x),decide_eq_true rfl⟩
 obtain⟨z,ez⟩:=Option.isSome_iff_exists.mp hs
 have e:cW row x=z:=by unfold cW;rw[ez];rfl
 rw[e]
 have h1:cT row z=cT row x:=by simpa using List.find?_some ez
 have h2:=List.mem_range.mp (List.mem_of_find?_eq_some ez)
 refine⟨by omega,h1,fun w hw=>?_⟩
 refine Decidable.byContradiction fun hlt=>?_
 have hlt:w<z:=by omega
 rw[List.find?_eq_some_iff_getElem] at ez
 obtain⟨_,i,hi,ei,hb⟩:=ez
 rw[List.getElem_range] at ei
 subst ei
 have:=hb w hlt
 rw[List.getElem_range] at this
 simp[hw] at this
theorem yg {row:List Tl}{x y:Nat}(h:cT row x=cT row y):cW row x=cW row y:=by
 obtain⟨_,h2,h3⟩:=iV row x
 obtain⟨_,k2,k3⟩:=iV row y
 exact Nat.le_antisymm (h3 _ (k2.trans h.symm)) (k3 _ (h2.trans h))
theorem vV (K:pU):(rK K).map Bh=ag (K.map (·.1)):=by unfold rK ag;rw[List.map_map,List.map_map];rfl
theorem oM (l:List Nat):gD (ag l)=some (l.map Int.ofNat):=by
 have:=ma (l.map Int.ofNat)
 rw[List.map_map] at this
 exact this
theorem sg {n:Nat}(hn:n≤40){R:Nat}{h:Nat->Int}{row:List Tl}{js:List Nat}(hr:∀t∈row,t.1<n/\t.2.1<n)(hc:∀t∈row,dF R h t)(ha:∀t∈row,Rch (bc row js) t.1 t.2.1){x:Nat}(hx:x<n) :
  eR [.int (R:Nat),bg row,.lst ((bc row js).map mo),.int (x:Nat)]=some (.v (.int (eH R (h x - h (cW row x))))):=by
 obtain⟨K,k1,RK,kc⟩:=lq hn hx (jZ hr (js:=js))
 obtain⟨l1,l2,l3⟩:=iV row x
 have hlo:cW row x<n:=by omega
 obtain⟨K2,m1,RK2,mc⟩:=lq hn hlo (jZ hr (js:=js))
 have hlen:0<((K.map (·.1)).map Int.ofNat).length:=by
  obtain⟨K',e⟩:=RK.st
  rw[e];simp
 have hne:((K.map (·.1)).map Int.ofNat).length≠0:=by omega
 obtain⟨i1,i2⟩:=pL hlen
 have emin:nj ((K.map (·.1)).map Int.ofNat)=((cW row x:Nat):Int):=by
  obtain⟨w,hw,ew⟩:=List.mem_map.mp i1
  have a:=l3 w (BE ((RK.keys kc w).mp hw))
  have hk:cW row x∈K.map (·.1):=(RK.keys kc _).mpr (sS ha l2.symm)
  have b:=i2 _ (List.mem_map_of_mem (f:=Int.ofNat) hk)
  have b:nj ((K.map (·.1)).map Int.ofNat)≤((cW row x:Nat):Int):=b
  have ew:((w:Nat):Int)=nj ((K.map (·.1)).map Int.ofNat):=ew
  omega
 have hk2:x∈K2.map (·.1):=(RK2.keys mc _).mpr (sS ha l2)
 obtain⟨q,fq,mq⟩:=jX hk2
 obtain⟨vs,tr,_⟩:=RK2.tr _ mq
 have hq:q.length<n:=RK2.rlen mq
 have d2:nF (rK K2) (rP K2) (.inl ((x:Nat):Int))=some (.tup q):=by rw[rg,fq];rfl
 have g2:=oN (R:=R) (row:=row) (r:=q) (fun l hl=>by obtain⟨j,s,u,a,_,b⟩:=tr.labels l hl;exact⟨j,s,u,a,b⟩) (by omega)
 have g3:eH R (q.map (jQ row)).sum=eH R (h x - h (cW row x)):=gt (tr.sum fun j _ u eu=>hc u (List.mem_of_getElem? eu))
 simp![ny,hJ,aT,ak,aS,av,b5,al,aw,aE,aB,ai,bu,aQ,aN,br,bw,bv,bp,aP,aq,aM,ao,bq,aO,am,aj,aC,aA,az,aH,ah,b6,aR,aD,aG,aU,au,aF,bn,ay,bo,aL,k1,rD,vV,oM,if_neg hne,emin,m1,d2,g2,g3]
end Dp
end
section
namespace Dp
open PySem PySem.Spec L2 Fo Pt
noncomputable def fu (n:Nat)(f:Nat->PV):List PV:=(List.range n).map f
theorem jf {n:Nat}{f:Nat->PV}:(fu n f).length=n:=by unfold fu;rw[List.length_map,List.length_range]
theorem cD {n:Nat}{f:Nat->PV}{y:Nat}(hy:y<n):L2.eI (fu n f) (y:Int)=some (f y):=dG (by unfold fu;rw[List.getElem?_map,List.getElem?_range hy];rfl)
theorem i9 {n:Nat}{f:Nat->PV}{y:Nat}{p:PV}:(fu n f).set y p=fu n fun v=>if v=y then p else f v:=by
 unfold fu
 refine List.ext_getElem? fun i=>?_
 rw[List.getElem?_set,List.getElem?_map,List.getElem?_map,List.length_map,List.length_range]
 by_cases hi:i<n
 ·rw[List.getElem?_range hi]
  by_cases e:y=i
  ·subst e;rw[if_pos rfl,if_pos hi];simp
  ·rw[if_neg e];show some (f i)=some (if i=y then p else f i);rw[if_neg (Ne.symm e)]
 ·rw[List.getElem?_eq_none (by rw[List.length_range];omega)]
  by_cases e:y=i
  ·rw[if_pos e,if_neg (by omega)];rfl
  ·rw[if_neg e];rfl
noncomputable def iz (row:List Tl)(h:Nat->Int)(R s:Nat)(W:List Nat)(v:Nat):PV:=if cW row v<s\/v∈W then .int (eH R (h v - h (cW row v))) else .non
theorem oX {row:List Tl}{h:Nat->Int}{R s:Nat}{W:List Nat}{y:Nat}:(fun v=>if v=y then PV.int (eH R (h y - h (cW row y))) else iz row h R s W v)=iz row h R s (W++[y]):=by
 funext v
 unfold iz
 by_cases e:v=y
 ·subst e;rw[if_pos rfl,if_pos (.inr (List.mem_append_right _ (List.mem_singleton.mpr rfl)))]
 ·rw[if_neg e]
  by_cases q:cW row v<s\/v∈W
  ·rw[if_pos q,if_pos (q.imp id fun q=>List.mem_append_left _ q)]
  ·rw[if_neg q,if_neg fun z=>q (z.imp id fun z=>(List.mem_append.mp z).elim id fun z=>absurd (List.mem_singleton.mp z) e)]
structure Wok (n:Nat)(row:List Tl)(s:Nat)(W:List Nat):Prop where
 nd:W.Nodup
 lo:∀v∈W,v<n/\cW row v=s
theorem Wok.len {n s:Nat}{row:List Tl}{W:List Nat}(w:Wok n row s W):W.length≤n:=md w.nd fun v hv=>(w.lo v hv).1
theorem Wok.add {n s:Nat}{row:List Tl}{W:List Nat}(w:Wok n row s W){y:Nat}(hy:y<n)(hl:cW row y=s)(hn:y∉W):Wok n row s (W++[y]):=by
 refine⟨?_,fun v hv=>?_⟩
 ·rw[List.nodup_append]
  refine⟨w.nd,by simp,fun u hu v hv=>?_⟩
  rw[show v=y by simpa using hv]
  exact fun q=>hn (q▸hu)
 ·rcases List.mem_append.mp hv with hv|hv
  ·exact w.lo v hv
  ·rw[List.mem_singleton.mp hv];exact⟨hy,hl⟩
theorem hX {row:List Tl}{h:Nat->Int}{R s:Nat}{W:List Nat}{y:Nat}(hl:cW row y=s):fY (iz row h R s W y)=!decide (y∈W):=by
 unfold iz
 by_cases q:y∈W
 ·rw[if_pos (.inr q),decide_eq_true q];rfl
 ·rw[if_neg (fun z=>z.elim (fun z=>by omega) q),decide_eq_false q];rfl
theorem xA {row:List Tl}{h:Nat->Int}{R s:Nat}{W:List Nat}{y:Nat}(hy:y∈W):iz row h R s W y=.int (eH R (h y - h (cW row y))):=if_pos (.inr hy)
theorem qP {n:Nat}(hn:n≤40){R:Nat}{h:Nat->Int}{row:List Tl}{s at':Nat}{W:List Nat}(w:Wok n row s W){a:Nat}(ha:W[at']?=some a){x y:Nat}(hx:x<n)(hy:y<n)(hxy:cW row x=cW row y){b:Int}(hb:(R:Int) ∣ b - (h y - h x)) :
  ∃W',Wok n row s W'/\(∃E,W'=W++E)/\(x=a->y∈W')/\((x=a/\y∉W/\W'=W++[y]/\x∈W/\cW row y=s/\eH R (eH R (h x - h (cW row x))+b)=eH R (h y - h (cW row y)))\/((x≠a\/y∈W)/\W'=W)):=by
 by_cases e:x=a
 ·have hin:x∈W:=by rw[e];exact List.mem_of_getElem? ha
  have hl:cW row x=s:=(w.lo x hin).2
  by_cases q:y∈W
  ·exact⟨W,w,⟨[],by simp⟩,fun _=>q,.inr ⟨.inr q,rfl⟩⟩
  ·refine⟨W++[y],w.add hy (hxy▸hl) q,⟨[y],rfl⟩,fun _=>List.mem_append_right _ (List.mem_singleton.mpr rfl),.inl ⟨e,q,rfl,hin,hxy▸hl,gt ?_⟩⟩
   have k:=gF (R:=R) (a:=h x - h (cW row x))
   rw[←hxy]
   have:=Int.dvd_add k hb
   rwa [show eH R (h x - h (cW row x)) - (h x - h (cW row x))+(b - (h y - h x))=eH R (h x - h (cW row x))+b - (h y - h (cW row x)) by omega] at this
 ·exact⟨W,w,⟨[],by simp⟩,fun z=>absurd z e,.inr ⟨.inl e,rfl⟩⟩
theorem uY {n:Nat}(hn:n≤40){R:Nat}{h:Nat->Int}{row:List Tl}(hr:∀t∈row,t.1<n/\t.2.1<n)(hc:∀t∈row,dF R h t){s at' a:Nat}{s0 s2 s4:Option Sl}:∀(ts:List Tl) (W:List Nat) (z7 z8 z9:Option Sl),(∀t∈ts,t∈row)->Wok n row s W->W[at']?=some a →
  ∃W' z7' z8' z9',bA (gw 3 (gC (gN 7) (gC (gN 8) (gC (gN 9) g0)))) b8 (ts.map eM) [s0,some (.val (.int (R:Nat))),s2,some (.own (fu n (iz row h R s W))),s4,some (.own (ag W)),some (.val (.int (at':Nat))),z7,z8,z9] =
   .nx [s0,some (.val (.int (R:Nat))),s2,some (.own (fu n (iz row h R s W'))),s4,some (.own (ag W')),some (.val (.int (at':Nat))),z7',z8',z9']/\Wok n row s W'/\(∃E,W'=W++E)/\∀t∈ts,(t.1=a->t.2.1∈W')/\(t.2.1=a->t.1∈W')
 |[],W,z7,z8,z9,_,w,_=>⟨W,z7,z8,z9,by rw[List.map_nil,e8],w,⟨[],by simp⟩,fun _ h=>by cases h⟩
 |t::ts,W,z7,z8,z9,hm,w,ha=>by
  obtain⟨hx,hy⟩:=hr t (hm t List.mem_cons_self)
  have ct:=hc t (hm t List.mem_cons_self)
  unfold dF at ct
  have hlo:cW row t.1=cW row t.2.1:=yg (gy _ _ _ _ (List.mem_map_of_mem (f:=fun t:Tl=>(t.1,t.2.1)) (hm t List.mem_cons_self)))
  obtain⟨W1,w1,⟨Xa,e1⟩,k1,c1⟩:=qP hn (R:=R) (h:=h) w ha hx hy hlo (b:=t.2.2) ct
  have ha1:W1[at']?=some a:=by rw[e1,List.getElem?_append_left (List.getElem?_eq_some_iff.mp ha).1];exact ha
  obtain⟨W2,w2,⟨Xb,e2⟩,k2,c2⟩:=qP hn (R:=R) (h:=h) w1 ha1 hy hx hlo.symm (b:=-t.2.2) (by
   have:=Int.dvd_neg.mpr ct
   rwa [show -(t.2.2 - (h t.2.1 - h t.1)) = -t.2.2 - (h t.1 - h t.2.1) by omega] at this)
  have ha2:W2[at']?=some a:=by rw[e2,List.getElem?_append_left (List.getElem?_eq_some_iff.mp ha1).1];exact ha1
  obtain⟨W',z7',z8',z9',e,w',⟨E,e3⟩,r⟩:=uY hn hr hc (s0:=s0) (s2:=s2) (s4:=s4) ts W2 (some (.val (.int (t.1:Nat)))) (some (.val (.int (t.2.1:Nat)))) (some (.val (.int t.2.2))) (fun u hu=>hm u (List.mem_cons_of_mem _ hu)) w2 ha2
  refine⟨W',z7',z8',z9',?_,w',⟨Xa++(Xb++E),by rw[e3,e2,e1,List.append_assoc,List.append_assoc]⟩,fun u hu=>?_⟩
  ·rw[List.map_cons,cr]
   have i1:L2.eI (ag W) (at':Int)=some (.int (a:Nat)):=dG (by unfold ag;rw[List.getElem?_map,ha];rfl)
   have i2:L2.eI (ag W1) (at':Int)=some (.int (a:Nat)):=dG (by unfold ag;rw[List.getElem?_map,ha1];rfl)
   have d1:decide ((t.1:Int)=(a:Int))=decide (t.1=a):=decide_eq_decide.mpr (by omega)
   have d2:decide ((t.2.1:Int)=(a:Int))=decide (t.2.1=a):=decide_eq_decide.mpr (by omega)
   have l0:=w.len
   have l1:=w1.len
   have n0:W.length≤100000:=by omega
   have n1:W1.length≤100000:=by omega
   have u0:pJ (fu n (iz row h R s W)).length (t.2.1:Int)=some t.2.1:=iB (by rw[jf];exact hy)
   have u1:pJ (fu n (iz row h R s W1)).length (t.1:Int)=some t.1:=iB (by rw[jf];exact hx)
   have st1:(gO (gm (fT (ax jR (fV 7) (ax cq (fV 5) (fV 6)))) (fT (ax uq (ax cq (fV 3) (fV 8)) (fC .non)))) (aY (mJ 3 (fV 8) (aX ca (aa (ax cc (ax cq (fV 3) (fV 7)) (fV 9)) (aa (fV 1) af))))
     (lK hZ 5 (aa (fV 8) af))) bG) [s0,some (.val (.int (R:Nat))),s2,some (.own (fu n (iz row h R s W))),s4,some (.own (ag W)),some (.val (.int (at':Nat))),some (.val (.int (t.1:Nat))),some (.val (.int (t.2.1:Nat))),some (.val (.int t.2.2))] =
     .nx [s0,some (.val (.int (R:Nat))),s2,some (.own (fu n (iz row h R s W1))),s4,some (.own (ag W1)),some (.val (.int (at':Nat))),some (.val (.int (t.1:Nat))),some (.val (.int (t.2.1:Nat))),some (.val (.int t.2.2))]:=by
    rcases c1 with ⟨q1,q2,rfl,q4,q5,q6⟩|⟨q,rfl⟩
    ·simp![aT,ak,aS,av,b5,al,aw,aE,aB,ai,bu,aQ,aN,br,bw,bv,bp,aP,aq,aM,ao,bq,aO,am,aj,aC,aA,az,aH,ah,b6,aR,aD,aG,aU,au,aF,bn,ay,bo,aL,i1,d1,decide_eq_true q1,cD hy,cD hx,hX q5,decide_eq_false q2,xA q4,kS,q6,u0,i9,oX,b9,if_pos n0,dE]
    ·by_cases qa:t.1=a
     ·have hin:t.1∈W1:=by rw[qa];exact List.mem_of_getElem? ha
      have hs:cW row t.2.1=s:=by rw[←hlo];exact (w.lo _ hin).2
      have qy:t.2.1∈W1:=q.elim (fun z=>absurd qa z) id
      simp![aT,ak,aS,av,b5,al,aw,aE,aB,ai,bu,aQ,aN,br,bw,bv,bp,aP,aq,aM,ao,bq,aO,am,aj,aC,aA,az,aH,ah,b6,aR,aD,aG,aU,au,aF,bn,ay,bo,aL,i1,d1,decide_eq_true qa,cD hy,hX hs,decide_eq_true qy]
     ·simp![aT,ak,aS,av,b5,al,aw,aE,aB,ai,bu,aQ,aN,br,bw,bv,bp,aP,aq,aM,ao,bq,aO,am,aj,aC,aA,az,aH,ah,b6,aR,aD,aG,aU,au,aF,bn,ay,bo,aL,i1,d1,decide_eq_false qa]
   have st2:(gO (gm (fT (ax jR (fV 8) (ax cq (fV 5) (fV 6)))) (fT (ax uq (ax cq (fV 3) (fV 7)) (fC .non)))) (aY (mJ 3 (fV 7) (aX ca (aa (ax iN (ax cq (fV 3) (fV 8)) (fV 9)) (aa (fV 1) af))))
     (lK hZ 5 (aa (fV 7) af))) bG) [s0,some (.val (.int (R:Nat))),s2,some (.own (fu n (iz row h R s W1))),s4,some (.own (ag W1)),some (.val (.int (at':Nat))),some (.val (.int (t.1:Nat))),some (.val (.int (t.2.1:Nat))),some (.val (.int t.2.2))] =
     .nx [s0,some (.val (.int (R:Nat))),s2,some (.own (fu n (iz row h R s W2))),s4,some (.own (ag W2)),some (.val (.int (at':Nat))),some (.val (.int (t.1:Nat))),some (.val (.int (t.2.1:Nat))),some (.val (.int t.2.2))]:=by
    rcases c2 with ⟨q1,q2,rfl,q4,q5,q6⟩|⟨q,rfl⟩
    ·have q6':eH R (eH R (h t.2.1 - h (cW row t.2.1)) - t.2.2)=eH R (h t.1 - h (cW row t.1)):=by rw[←q6,Int.sub_eq_add_neg]
     simp![aT,ak,aS,av,b5,al,aw,aE,aB,ai,bu,aQ,aN,br,bw,bv,bp,aP,aq,aM,ao,bq,aO,am,aj,aC,aA,az,aH,ah,b6,aR,aD,aG,aU,au,aF,bn,ay,bo,aL,i2,d2,decide_eq_true q1,cD hy,cD hx,hX q5,decide_eq_false q2,xA q4,kS,q6',u1,i9,oX,b9,if_pos n1,dE]
    ·by_cases qa:t.2.1=a
     ·have hin:t.2.1∈W2:=by rw[qa];exact List.mem_of_getElem? ha1
      have hs:cW row t.1=s:=by rw[hlo];exact (w1.lo _ hin).2
      have qy:t.1∈W2:=q.elim (fun z=>absurd qa z) id
      simp![aT,ak,aS,av,b5,al,aw,aE,aB,ai,bu,aQ,aN,br,bw,bv,bp,aP,aq,aM,ao,bq,aO,am,aj,aC,aA,az,aH,ah,b6,aR,aD,aG,aU,au,aF,bn,ay,bo,aL,i2,d2,decide_eq_true qa,cD hx,hX hs,decide_eq_true qy]
     ·simp![aT,ak,aS,av,b5,al,aw,aE,aB,ai,bu,aQ,aN,br,bw,bv,bp,aP,aq,aM,ao,bq,aO,am,aj,aC,aA,az,aH,ah,b6,aR,aD,aG,aU,au,aF,bn,ay,bo,aL,i2,d2,decide_eq_false qa]
   simp only[eM,uw,zh,AM,zK,iC,jb,if_true,gS,oU,pf]
   show lS (some _) _ _ _=_
   rw[lm]
   show jW (aY _ _ _) _ _ _=_
   rw[tq,st1,jd,st2,ja]
   exact e
  ·rcases List.mem_cons.mp hu with rfl|hu
   ·have s1:∀v,v∈W1->v∈W':=fun v hv=>by rw[e3,e2];exact List.mem_append_left _ (List.mem_append_left _ hv)
    have s2:∀v,v∈W2->v∈W':=fun v hv=>by rw[e3];exact List.mem_append_left _ hv
    exact⟨fun q=>s1 _ (k1 q),fun q=>s2 _ (k2 q)⟩
   ·exact r u hu
noncomputable def DG (row:List Tl)(W:List Nat)(a:Nat):Prop:=∀t∈row,(t.1=a->t.2.1∈W)/\(t.2.1=a->t.1∈W)
theorem oG {n:Nat}(hn:n≤40){R:Nat}{h:Nat->Int}{row:List Tl}(hr:∀t∈row,t.1<n/\t.2.1<n)(hc:∀t∈row,dF R h t){s:Nat}{s0 s4:Option Sl}:∀(m k at':Nat) (W:List Nat) (z7 z8 z9:Option Sl),n - at'≤m->m<k->at'≤W.length->Wok n row s W->(∀i a,i<at'->W[i]?=some a->DG row W a) →
  ∃W' uc z7' z8' z9',dM aJ aI k [s0,some (.val (.int (R:Nat))),some (.val (bg row)),some (.own (fu n (iz row h R s W))),s4,some (.own (ag W)),some (.val (.int (at':Nat))),z7,z8,z9] =
   .nx [s0,some (.val (.int (R:Nat))),some (.val (bg row)),some (.own (fu n (iz row h R s W'))),s4,some (.own (ag W')),some (.val (.int (uc:Nat))),z7',z8',z9']/\Wok n row s W'/\(∃Y,W'=W++Y)/\∀a∈W',DG row W' a
 |m,0,at',W,_,_,_,_,hk,_,_,_=>absurd hk (Nat.not_lt_zero _)
 |m,k+1,at',W,z7,z8,z9,hm,hk,hl,w,hp=>by
  have lw:=w.len
  have dl:decide ((at':Int)<(W.length:Int))=decide (at'<W.length):=decide_eq_decide.mpr (by omega)
  by_cases hlt:at'<W.length
  ·have ha:W[at']?=some W[at']:=List.getElem?_eq_getElem hlt
   obtain⟨W1,z7',z8',z9',e1,w1,⟨Y1,y1⟩,r1⟩:=uY hn hr hc (s0:=s0) (s2:=some (.val (bg row))) (s4:=s4) (h:=h) (R:=R) row W z7 z8 z9 (fun _ h=>h) w ha
   have hl1:at'+1≤W1.length:=by rw[y1,List.length_append];omega
   have keep:∀i a,i<at'+1->W1[i]?=some a->DG row W1 a:=fun i a hi ea=>by
    rw[y1,List.getElem?_append_left (by omega)] at ea
    by_cases hi':i<at'
    ·have:=hp i a hi' ea
     intro t ht
     obtain⟨q1,q2⟩:=this t ht
     exact⟨fun q=>by rw[y1];exact List.mem_append_left _ (q1 q),fun q=>by rw[y1];exact List.mem_append_left _ (q2 q)⟩
    ·have:i=at':=by omega
     subst this
     rw[ha] at ea
     cases ea
     exact fun t ht=>r1 t ht
   obtain⟨W2,uc,y7,y8,y9,e2,w2,⟨Y2,y2⟩,r2⟩:=oG hn hr hc (s0:=s0) (s4:=s4) (h:=h) (R:=R) (m - 1) k (at'+1) W1 z7' z8' z9' (by omega) (by omega) hl1 w1 keep
   refine⟨W2,uc,y7,y8,y9,?_,w2,⟨Y1++Y2,by rw[y2,y1,List.append_assoc]⟩,r2⟩
   rw[i5]
   have c0:aJ [s0,some (.val (.int (R:Nat))),some (.val (bg row)),some (.own (fu n (iz row h R s W))),s4,some (.own (ag W)),some (.val (.int (at':Nat))),z7,z8,z9]=some true:=by
    simp![aJ,aT,ak,aS,av,b5,al,aw,aE,aB,ai,bu,aQ,aN,br,bw,bv,bp,aP,aq,aM,ao,bq,aO,am,aj,aC,aA,az,aH,ah,b6,aR,aD,aG,aU,au,aF,bn,ay,bo,aL,b9,dl,decide_eq_true hlt]
   rw[c0]
   show En (aI _) _ _ _=_
   have b0:aI [s0,some (.val (.int (R:Nat))),some (.val (bg row)),some (.own (fu n (iz row h R s W))),s4,some (.own (ag W)),some (.val (.int (at':Nat))),z7,z8,z9]=.nx [s0,some (.val (.int (R:Nat))),some (.val (bg row)),some (.own (fu n (iz row h R s W1))),s4,some (.own (ag W1)),some (.val (.int ((at'+1:Nat):Int))),z7',z8',z9']:=by
    unfold bg at e1 ⊢
    simp![aI,aT,ak,aS,av,b5,al,aw,aE,aB,ai,bu,aQ,aN,br,bw,bv,bp,aP,aq,aM,ao,bq,aO,am,aj,aC,aA,az,aH,ah,b6,aR,aD,aG,aU,au,aF,bn,ay,bo,aL,e1]
    rfl
   rw[b0,oV]
   exact e2
  ·refine⟨W,at',z7,z8,z9,?_,w,⟨[],by simp⟩,fun a ha=>?_⟩
   ·rw[i5]
    simp![aJ,aT,ak,aS,av,b5,al,aw,aE,aB,ai,bu,aQ,aN,br,bw,bv,bp,aP,aq,aM,ao,bq,aO,am,aj,aC,aA,az,aH,ah,b6,aR,aD,aG,aU,au,aF,bn,ay,bo,aL,b9,dl,decide_eq_false hlt]
   ·obtain⟨i,hi,rfl⟩:=List.mem_iff_getElem.mp ha
    exact hp i _ (by omega) (List.getElem?_eq_getElem hi)
theorem fJ {n:Nat}{f g:Nat->PV}(h:∀v,v<n->f v=g v):fu n f=fu n g:=List.map_congr_left fun v hv=>h v (List.mem_range.mp hv)
theorem kb {n:Nat}(hn:n≤40){R:Nat}{h:Nat->Int}{row:List Tl}(hr:∀t∈row,t.1<n/\t.2.1<n)(hc:∀t∈row,dF R h t){s0:Option Sl}:∀(k s:Nat) (z4 z5 z6 z7 z8 z9:Option Sl),s+k=n →
  ∃z4' z5' z6' z7' z8' z9',bA (gN 4) bh (ag ((List.range k).map (s + ·))) [s0,some (.val (.int (R:Nat))),some (.val (bg row)),some (.own (fu n (iz row h R s []))),z4,z5,z6,z7,z8,z9] =
   .nx [s0,some (.val (.int (R:Nat))),some (.val (bg row)),some (.own (fu n (iz row h R n []))),z4',z5',z6',z7',z8',z9']
 |0,s,z4,z5,z6,z7,z8,z9,e=>by
  have:s=n:=by omega
  subst this
  exact⟨z4,z5,z6,z7,z8,z9,by rw[List.range_zero,List.map_nil,show ag []=[] from rfl,e8]⟩
 |k+1,s,z4,z5,z6,z7,z8,z9,e=>by
  have hs:s<n:=by omega
  obtain⟨l1,l2,l3⟩:=iV row s
  have elist:(List.range (k+1)).map (s + ·)=s::(List.range k).map (s+1 + ·):=by
   rw[List.range_succ_eq_map,List.map_cons,List.map_map]
   show (s+0)::_=_
   rw[Nat.add_zero]
   exact congrArg (List.cons s) (List.map_congr_left fun m _=>by show s+(m+1)=s+1+m;omega)
  rw[elist,eA,cr]
  by_cases hlo:cW row s=s
  ·have w0:Wok n row s [s]:=⟨by simp,fun v hv=>by rw[List.mem_singleton.mp hv];exact⟨hs,hlo⟩⟩
   obtain⟨W',uc,z7',z8',z9',ew,w',⟨Y,y⟩,cl⟩:=oG hn hr hc (s0:=s0) (s4:=some (.val (.int (s:Nat)))) (h:=h) (R:=R) n 10000 0 [s] z7 z8 z9 (by omega) (by omega) (by omega) w0 (fun i a hi=>absurd hi (Nat.not_lt_zero _))
   have full:fu n (iz row h R s W')=fu n (iz row h R (s+1) []):=fJ fun v hv=>by
    have:(cW row v<s\/v∈W')↔(cW row v<s+1\/v∈([]:List Nat)):=by
     constructor
     ·rintro (q|q)
      ·exact .inl (by omega)
      ·have:=(w'.lo v q).2;exact .inl (by omega)
     ·rintro (q|q)
      ·by_cases q':cW row v<s
       ·exact .inl q'
       ·have ev:cW row v=s:=by omega
        have cv:cT row v=cT row s:=by have:=(iV row v).2.1;rw[ev] at this;exact this.symm
        refine .inr ((mO (P:=fun v=>v∈W') (fun t ht=>?_) cv).mpr (by rw[y];exact List.mem_append_left _ (List.mem_singleton.mpr rfl)))
        exact⟨fun q=>(cl _ q t ht).1 rfl,fun q=>(cl _ q t ht).2 rfl⟩
      ·cases q
    unfold iz
    by_cases q:cW row v<s\/v∈W'
    ·rw[if_pos q,if_pos (this.mp q)]
    ·rw[if_neg q,if_neg fun z=>q (this.mpr z)]
   obtain⟨y4,y5,y6,y7,y8,y9,e2⟩:=kb hn hr hc (s0:=s0) (h:=h) (R:=R) k (s+1) (some (.val (.int (s:Nat)))) (some (.own (ag W'))) (some (.val (.int (uc:Nat)))) z7' z8' z9' (by omega)
   refine⟨y4,y5,y6,y7,y8,y9,?_⟩
   have kn:fY (iz row h R s [] s)=true:=by rw[hX hlo];rfl
   have u0:pJ (fu n (iz row h R s [])).length (s:Int)=some s:=iB (by rw[jf];exact hs)
   have z0:(fun v=>if v=s then PV.int 0 else iz row h R s [] v)=iz row h R s [s]:=by
    have:=oX (row:=row) (h:=h) (R:=R) (s:=s) (W:=[]) (y:=s)
    rw[hlo,Int.sub_self,show eH R 0=0 by unfold eH;split<;>simp] at this
    exact this
   have ew':dM aJ aI 10000 [s0,some (.val (.int (R:Nat))),some (.val (bg row)),some (.own (fu n (iz row h R s [s]))),some (.val (.int (s:Nat))),some (.own [.int (s:Nat)]),some (.val (.int 0)),z7,z8,z9]=_:=ew
   simp![bh,aT,ak,aS,av,b5,al,aw,aE,aB,ai,bu,aQ,aN,br,bw,bv,bp,aP,aq,aM,ao,bq,aO,am,aj,aC,aA,az,aH,ah,b6,aR,aD,aG,aU,au,aF,bn,ay,bo,aL,cD hs,kn,u0,i9,z0,ew']
   rw[full]
   exact e2
  ·have same:fu n (iz row h R s [])=fu n (iz row h R (s+1) []):=fJ fun v hv=>by
    have hv':cW row v≠s:=fun q=>by
     have cv:cT row v=cT row s:=by have:=(iV row v).2.1;rw[q] at this;exact this.symm
     exact hlo ((yg cv).symm.trans q)
    unfold iz
    by_cases q:cW row v<s\/v∈([]:List Nat)
    ·rw[if_pos q,if_pos (q.imp (fun q=>by omega) id)]
    ·rw[if_neg q,if_neg fun z=>q (z.imp (fun z=>by omega) id)]
   obtain⟨y4,y5,y6,y7,y8,y9,e2⟩:=kb hn hr hc (s0:=s0) (h:=h) (R:=R) k (s+1) (some (.val (.int (s:Nat)))) z5 z6 z7 z8 z9 (by omega)
   refine⟨y4,y5,y6,y7,y8,y9,?_⟩
   have kn:fY (iz row h R s [] s)=false:=by
    unfold iz;rw[if_pos (.inl (by omega))];rfl
   simp![bh,aT,ak,aS,av,b5,al,aw,aE,aB,ai,bu,aQ,aN,br,bw,bv,bp,aP,aq,aM,ao,bq,aO,am,aj,aC,aA,az,aH,ah,b6,aR,aD,aG,aU,au,aF,bn,ay,bo,aL,cD hs,kn]
   rw[same]
   exact e2
theorem oj {n:Nat}{R:Nat}{h:Nat->Int}{row:List Tl}(hr:∀t∈row,t.1<n/\t.2.1<n)(hc:∀t∈row,dF R h t){f:Nat->PV}(hf:∀v,v<n->f v=.int (eH R (h v - h (cW row v)))){s0 s2 s4 s5 s6:Option Sl}:∀(ts:List Tl) (z7 z8 z9:Option Sl),(∀t∈ts,t∈row) →
  ∃z7' z8' z9',bA (gw 3 (gC (gN 7) (gC (gN 8) (gC (gN 9) g0)))) bx (ts.map eM) [s0,some (.val (.int (R:Nat))),s2,some (.own (fu n f)),s4,s5,s6,z7,z8,z9]=.nx [s0,some (.val (.int (R:Nat))),s2,some (.own (fu n f)),s4,s5,s6,z7',z8',z9']
 |[],z7,z8,z9,_=>⟨z7,z8,z9,by rw[List.map_nil,e8]⟩
 |t::ts,z7,z8,z9,hm=>by
  obtain⟨hx,hy⟩:=hr t (hm t List.mem_cons_self)
  have ct:=hc t (hm t List.mem_cons_self)
  unfold dF at ct
  have hlo:cW row t.1=cW row t.2.1:=yg (gy _ _ _ _ (List.mem_map_of_mem (f:=fun t:Tl=>(t.1,t.2.1)) (hm t List.mem_cons_self)))
  obtain⟨z7',z8',z9',e⟩:=oj hr hc hf (s0:=s0) (s2:=s2) (s4:=s4) (s5:=s5) (s6:=s6) ts (some (.val (.int (t.1:Nat)))) (some (.val (.int (t.2.1:Nat)))) (some (.val (.int t.2.2))) (fun u hu=>hm u (List.mem_cons_of_mem _ hu))
  refine⟨z7',z8',z9',?_⟩
  rw[List.map_cons,cr]
  have z:eH R (eH R (h t.2.1 - h (cW row t.2.1)) - eH R (h t.1 - h (cW row t.1)) - t.2.2)=0:=by
   have k1:=gF (R:=R) (a:=h t.2.1 - h (cW row t.2.1))
   have k2:=gF (R:=R) (a:=h t.1 - h (cW row t.1))
   rw[show (0:Int)=eH R 0 by unfold eH;split<;>simp]
   refine gt ?_
   rw[hlo] at k2 ⊢
   have:=Int.dvd_sub (Int.dvd_sub k1 k2) ct
   rwa [show eH R (h t.2.1 - h (cW row t.2.1)) - (h t.2.1 - h (cW row t.2.1)) - (eH R (h t.1 - h (cW row t.2.1)) - (h t.1 - h (cW row t.2.1))) - (t.2.2 - (h t.2.1 - h t.1))=eH R (h t.2.1 - h (cW row t.2.1)) - eH R (h t.1 - h (cW row t.2.1)) - t.2.2 - 0 by omega] at this
  simp![eM,bx,aT,ak,aS,av,b5,al,aw,aE,aB,ai,bu,aQ,aN,br,bw,bv,bp,aP,aq,aM,ao,bq,aO,am,aj,aC,aA,az,aH,ah,b6,aR,aD,aG,aU,au,aF,bn,ay,bo,aL,cD hx,cD hy,hf _ hx,hf _ hy,kS,z,decide_true]
  exact e
noncomputable def sN (n R:Nat)(h:Nat->Int)(row:List Tl):PV:=.tup ((List.range n).map fun v=>.int (eH R (h v - h (cW row v))))
theorem tI (n:Nat)(a:PV):(List.replicate n [a]).flatten=(List.range n).map fun _=>a:=by
 induction n with
 |zero=>rfl
 |succ n ih=>rw[List.replicate_succ,List.flatten_cons,ih,List.range_succ_eq_map,List.map_cons,List.map_map];rfl
theorem AX {n:Nat}(h1:1≤n)(hn:n≤40){R:Nat}{h:Nat->Int}{row:List Tl}(hr:∀t∈row,t.1<n/\t.2.1<n)(hc:∀t∈row,dF R h t):bC [.int (n:Nat),.int (R:Nat),bg row]=some (.v (sN n R h row)):=by
 obtain⟨z4,z5,z6,z7,z8,z9,e⟩:=kb hn hr hc (s0:=some (.val (.int (n:Nat)))) (h:=h) (R:=R) n 0 none none none none none none (by omega)
 rw[show ((List.range n).map fun m=>0+m)=List.range n by rw[List.map_congr_left fun x _=>Nat.zero_add x];exact List.map_id _] at e
 have t0:fu n (iz row h R 0 [])=(List.replicate n [PV.non]).flatten:=by
  rw[tI]
  exact fJ fun v _=>by unfold iz;rw[if_neg (fun z=>z.elim (fun z=>by omega) fun z=>by cases z)]
 rw[t0] at e
 have hf:∀v,v<n->iz row h R n [] v=.int (eH R (h v - h (cW row v))):=fun v hv=>by
  unfold iz;rw[if_pos (.inl (by have:=(iV row v).1;omega))]
 obtain⟨y7,y8,y9,e2⟩:=oj hr hc hf (s0:=some (.val (.int (n:Nat)))) (s2:=some (.val (bg row))) (s4:=z4) (s5:=z5) (s6:=z6) row z7 z8 z9 (fun _ h=>h)
 have c1:((n:Int)≤1000/\(-1000:Int)≤(n:Int)):=⟨by omega,by omega⟩
 have fin:fu n (iz row h R n [])=(List.range n).map fun v=>.int (eH R (h v - h (cW row v))):=fJ hf
 rw[fin] at e e2
 unfold bg at e e2
 simp![gb,cM,b8,aJ,aI,bh,bx,bg,sN,aT,ak,aS,av,b5,al,aw,aE,aB,ai,bu,aQ,aN,br,bw,bv,bp,aP,aq,aM,ao,bq,aO,am,aj,aC,aA,az,aH,ah,b6,aR,aD,aG,aU,au,aF,bn,ay,bo,aL,if_pos c1,(K1 (n:=n) (by omega)).1,e,e2]
end Dp
end
section
namespace Dp
open PySem PySem.Spec L2 Fo Pt
theorem rF {xs:List Nat}{n:Nat}(hn:n≤40)(hx:xs.length=n+4)(w:Nat):∃h:Nat->Int,cg [.lst (ag xs),.int (n:Nat),.int (w:Nat)]=some (.n ((List.range n).map fun k=>.int (h k))):=by
 obtain⟨m,hm,e3⟩:∃m:Int,0<m/\L2.eI [PV.int 9,.int 1000,.int 400000000] ((w:Int) % 3)=some (.int m):=by
  have e:(w:Int) % 3=((w % 3:Nat):Int):=rfl
  rw[e]
  have:w % 3<3:=Nat.mod_lt _ (by decide)
  generalize w % 3=q at this
  have:q=0\/q=1\/q=2:=by omega
  rcases this with rfl|rfl|rfl
  ·exact⟨9,by decide,rfl⟩
  ·exact⟨1000,by decide,rfl⟩
  ·exact⟨400000000,by decide,rfl⟩
 refine⟨fun k=>(up xs k:Int) % m - (up xs (n+k % 4):Int) % 7,?_⟩
 have g0:pT (gN 0) jk cN [none,some (.val (.lst (ag xs))),some (.val (.int (w:Nat))),some (.val (.int (n:Nat)))] (ag (List.range n))=some ((List.range n).map fun k=>.int ((up xs k:Int) % m - (up xs (n+k % 4):Int) % 7)):=by
  refine po (fun k=>.int ((up xs k:Int) % m - (up xs (n+k % 4):Int) % 7)) fun k hk=>?_
  have hk:=List.mem_range.mp hk
  have i1:L2.eI (ag xs) (k:Int)=some (.int (up xs k:Nat)):=bM (by omega)
  have i2:L2.eI (ag xs) ((n:Int)+(k:Int) % 4)=some (.int (up xs (n+k % 4):Nat)):=bM (x:=n+k % 4) (by omega)
  simp![cN,i1,i2,e3,if_pos hm]
 simp![jo,eD,cN,(K1 (n:=n) (by omega)).1,List.length_range,if_pos (show n<1000 by omega),g0]
theorem xk (x:Nat):∃R:Nat,(R=0\/2≤R/\R≤1000)/\db [.int (x:Nat)]=some (.v (.int (R:Nat))):=by
 have e:(x:Int) % 8=((x % 8:Nat):Int):=rfl
 have h8:x % 8<8:=Nat.mod_lt _ (by decide)
 have a1:(2:Int)+(x:Int) / 8 % 11=((2+x / 8 % 11:Nat):Int):=rfl
 have a2:(2:Int)+(x:Int) / 8 % 999=((2+x / 8 % 999:Nat):Int):=rfl
 have key:∀a b:PV,∃q:Nat,q<8/\x % 8=q:=fun _ _=>⟨_,h8,rfl⟩
 have fin:∀p:PV,L2.eI [PV.int 0,.int 2,.int 3,.int ((2+x / 8 % 11:Nat):Int),.int ((2+x / 8 % 999:Nat):Int),.int 0,.int 1000,.int 2] ((x % 8:Nat):Int)=some p->db [.int (x:Nat)]=some (.v p):=fun p h=>by
  simp![kz,fH,e,a1,a2,h]
 generalize x % 8=q at *
 have:q=0\/q=1\/q=2\/q=3\/q=4\/q=5\/q=6\/q=7:=by omega
 rcases this with rfl|rfl|rfl|rfl|rfl|rfl|rfl|rfl
 ·exact⟨0,.inl rfl,fin _ rfl⟩
 ·exact⟨2,.inr (by omega),fin _ rfl⟩
 ·exact⟨3,.inr (by omega),fin _ rfl⟩
 ·exact⟨2+x / 8 % 11,.inr (by omega),fin _ rfl⟩
 ·exact⟨2+x / 8 % 999,.inr (by omega),fin _ rfl⟩
 ·exact⟨0,.inl rfl,fin _ rfl⟩
 ·exact⟨1000,.inr (by omega),fin _ rfl⟩
 ·exact⟨2,.inr (by omega),fin _ rfl⟩
theorem A4 {n:Nat}{h:Nat->Int}{y:Nat}(hy:y<n):L2.eI ((List.range n).map fun k=>PV.int (h k)) (y:Int)=some (.int (h y)):=cD (n:=n) (f:=fun k=>.int (h k)) hy
theorem nV {ns:List Int}{at' n R:Nat}{h:Nat->Int}(hR:R≤1000)(hat:at'≤400){s2 s4:Option Sl}:∀(ps:List (Nat×Nat)) (k:Nat) (row:List Tl) (z7 z8 z9 z10:Option Sl),(∀p∈ps,p.1<n/\p.2<n)->k+ps.length≤60->row.length+ps.length≤60->(∀t∈row,t.1<n/\t.2.1<n)->(∀t∈row,dF R h t) →
  ∃(row':List Tl) (z7' z8' z9' z10':Option Sl),bA (gw 2 (gC (gN 7) (gC (gw 2 (gC (gN 8) (gC (gN 9) g0))) g0))) cF (cV k (jD ps)) [some (.val (.src (iL ns))),some (.val (.int (at':Nat))),s2,some (.val (.int (R:Nat))),s4,some (.val (.lst ((List.range n).map fun k=>.int (h k)))),some (.own (row.map eM)),z7,z8,z9,z10] =
   .nx [some (.val (.src (iL ns))),some (.val (.int (at':Nat))),s2,some (.val (.int (R:Nat))),s4,some (.val (.lst ((List.range n).map fun k=>.int (h k)))),some (.own (row'.map eM)),z7',z8',z9',z10']/\(∀t∈row',t.1<n/\t.2.1<n)/\(∀t∈row',dF R h t)/\row'.length=row.length+ps.length
 |[],k,row,z7,z8,z9,z10,_,_,_,h1,h2=>⟨row,z7,z8,z9,z10,rfl,h1,h2,rfl⟩
 |(x,y)::ps,k,row,z7,z8,z9,z10,hp,hk,hl,h1,h2=>by
  rw[List.length_cons] at hk hl
  obtain⟨hx,hy⟩:x<n/\y<n:=hp (x,y) List.mem_cons_self
  obtain⟨c,ec⟩:=jB ns ((at':Int)+41+(k:Int) / 20) (by omega) (by omega)
  obtain⟨xs,hxs,ex⟩:=fP c 20 (by decide) (by decide)
  have hxs:xs.length=20:=hxs
  have ik:L2.eI (ag xs) ((k:Int) % 20)=some (.int (up xs (k % 20):Nat)):=bM (x:=k % 20) (by omega)
  have l1:row.length≤100000:=by omega
  obtain⟨row',z7',z8',z9',z10',e,q1,q2,q3⟩:=nV (ns:=ns) (h:=h) hR hat (s2:=s2) (s4:=s4) (R:=R) ps (k+1) (row++[(x,y,h y - h x+(R:Int) * ((up xs (k % 20):Int) % 7 - 3))]) (some (.val (.int (k:Nat)))) (some (.val (.int (x:Nat)))) (some (.val (.int (y:Nat)))) (some (.val (.lst (ag xs)))) (fun p h=>hp p (List.mem_cons_of_mem _ h)) (by omega) (by rw[List.length_append,List.length_singleton];omega) (fun t ht=>by
   rcases List.mem_append.mp ht with ht|ht
   ·exact h1 t ht
   ·rw[List.mem_singleton.mp ht];exact⟨hx,hy⟩) (fun t ht=>by
   rcases List.mem_append.mp ht with ht|ht
   ·exact h2 t ht
   ·rw[List.mem_singleton.mp ht]
    exact⟨(up xs (k % 20):Int) % 7 - 3,by show h y - h x+(R:Int) * ((up xs (k % 20):Int) % 7 - 3) - (h y - h x)=_;omega⟩)
  refine⟨row',z7',z8',z9',z10',?_,q1,q2,by rw[q3,List.length_append,List.length_singleton,List.length_cons];omega⟩
  show bA _ _ (.tup [.int (k:Nat),.tup [.int (x:Nat),.int (y:Nat)]]::cV (k+1) (jD ps)) _=_
  rw[cr]
  have ea:row.map eM++[.tup [.int (x:Nat),.int (y:Nat),.int (h y - h x+(R:Int) * ((up xs (k % 20):Int) % 7 - 3))]]=(row++[(x,y,h y - h x+(R:Int) * ((up xs (k % 20):Int) % 7 - 3))]).map eM:=by rw[List.map_append];rfl
  have mr:∀j:Int,((R:Int).natAbs<2 ^ 64\/j.natAbs<2 ^ 64):=fun j=>.inl (by rw[Int.natAbs_natCast];omega)
  simp![cF,ec,ex,ik,A4 hx,A4 hy,if_pos (mr _),List.length_map,if_pos l1,ea]
  exact e
theorem vQ (ns:List Int){at' n R:Nat}(h1:1≤n)(hn:n≤40)(hR:R≤1000)(hat:at'≤400):∃(h:Nat->Int) (row:List Tl),(∀t∈row,t.1<n/\t.2.1<n)/\(∀t∈row,dF R h t)/\row.length≤60/\dW [.src (iL ns),.int (at':Nat),.int (n:Nat),.int (R:Nat)]=some (.v (bg row)):=by
 obtain⟨c,ec⟩:=jB ns (at':Int) (by omega) (by omega)
 obtain⟨hs,hh,eh⟩:=fP c 3 (by decide) (by decide)
 have hh:hs.length=3:=hh
 have i1:L2.eI (ag hs) 1=some (.int (up hs 1:Nat)):=bM (x:=1) (by omega)
 have i2:L2.eI (ag hs) 2=some (.int (up hs 2:Nat)):=bM (x:=2) (by omega)
 obtain⟨c2,ec2⟩:=jB ns ((at':Int)+40) (by omega) (by omega)
 obtain⟨xs,hx,ex⟩:=fP c2 ((n:Int)+4) (by omega) (by omega)
 have hx:xs.length=n+4:=by rw[hx];omega
 obtain⟨h,eh'⟩:=rF hn hx (up hs 1)
 obtain⟨m,hm,em⟩:∃m:Nat,m≤60/\L2.eI [PV.int 12,.int 60] (if decide ((up hs 2:Int) % 8=1)=true then 1 else 0)=some (.int (m:Nat)):=by
  rw[DS]
  by_cases q:(up hs 2:Int) % 8=1
  ·exact⟨60,by omega,by rw[if_pos (decide_eq_true q)];rfl⟩
  ·exact⟨12,by omega,by rw[if_neg (by simpa using q)];rfl⟩
 obtain⟨ps,p1,p2,ep⟩:=xW ns h1 hn (at':=at') (m:=m) (by omega) hm
 obtain⟨row,z7,z8,z9,z10,e,q1,q2,q3⟩:=nV (ns:=ns) (h:=h) hR hat (s2:=some (.val (.int (n:Nat)))) (s4:=some (.val (.lst (ag hs)))) ps 0 [] none none none none p1 (by omega) (by simp;omega) (fun _ h=>by cases h) (fun _ h=>by cases h)
 refine⟨h,row,q1,q2,by rw[q3];simp;omega,?_⟩
 have e':bA (gw 2 (gC (gN 7) (gC (gw 2 (gC (gN 8) (gC (gN 9) g0))) g0))) cF (cV 0 (jD ps)) [some (.val (.src (iL ns))),some (.val (.int (at':Nat))),some (.val (.int (n:Nat))),some (.val (.int (R:Nat))),some (.val (.lst (ag hs))),some (.val (.lst ((List.range n).map fun k=>.int (h k)))),some (.own []),none,none,none,none]=_:=e
 simp![km,fD,cF,bg,ec,eh,i1,i2,ec2,ex,eh',em,ep,e']
theorem yO {n x y:Nat}(hx:x<n)(hy:y<n):gq [.int (n:Nat),.tup [.int (x:Nat),.int (y:Nat)]]=some (.v (.bl true)):=by
 have a0:∀a b:PV,L2.eI [a,b] 0=some a:=fun a b=>rfl
 have a1:∀a b:PV,L2.eI [a,b] 1=some b:=fun a b=>rfl
 have d1:decide ((0:Int)≤(x:Int)/\(x:Int)<(n:Int))=true:=decide_eq_true (by omega)
 have d2:decide ((0:Int)≤(y:Int)/\(y:Int)<(n:Int))=true:=decide_eq_true (by omega)
 have c2:decide (((2:Nat):Int)=2)=true:=rfl
 simp![qQ,iU,c2,a0,a1,AG,d1,d2]
theorem rj {n:Nat}{t:Tl}(hx:t.1<n)(hy:t.2.1<n):d4 [.int (n:Nat),eM t]=some (.v (.bl true)):=by
 have a2:∀a b c:PV,L2.eI [a,b,c] 2=some c:=fun a b c=>rfl
 have c3:decide (((3:Nat):Int)=3)=true:=rfl
 simp![ly,gz,eM,c3,if_neg AB,Az,yO hx hy,a2,jU]
theorem pX {R:Nat}(h:R=0\/2≤R/\R≤1000):gv [.int (R:Nat)]=some (.v (.bl true)):=by
 rcases h with rfl|⟨h1,h2⟩
 ·simp![kN,gQ,jU];rfl
 ·have d0:decide ((R:Int)=0)=false:=decide_eq_false (by omega)
  have d1:decide ((2:Int)≤(R:Int))=true:=decide_eq_true (by omega)
  have d2:decide ((R:Int)≤1000)=true:=decide_eq_true (by omega)
  simp![kN,gQ,jU,d0,d1,d2]
theorem uC {n:Nat}(h1:1≤n)(hn:n≤40):eB [.int (n:Nat)]=some (.v .non):=by
 simp![lz,gK,CK (show (1:Int)≤(n:Int) by omega) (show (n:Int)≤40 by omega)]
end Dp
end
section
namespace Dp
open PySem PySem.Spec L2 Fo Pt
noncomputable def gE (R:Nat)(row:List Tl):Prop:=∃h:Nat->Int,∀t∈row,dF R h t
noncomputable def iI (row:List Tl)(s:Nat)(W:List Nat)(g:Nat->Int)(v:Nat):PV:=if cW row v<s\/v∈W then .int (g v) else .non
noncomputable def CA (g:Nat->Int)(y:Nat)(a:Int):Nat->Int:=fun v=>if v=y then a else g v
theorem oZ {row:List Tl}{s:Nat}{W:List Nat}{g:Nat->Int}{y:Nat}{a:Int}:(fun v=>if v=y then PV.int a else iI row s W g v)=iI row s (W++[y]) (CA g y a):=by
 funext v
 unfold iI CA
 by_cases e:v=y
 ·subst e;rw[if_pos rfl,if_pos (.inr (List.mem_append_right _ (List.mem_singleton.mpr rfl))),if_pos rfl]
 ·rw[if_neg e,if_neg e]
  by_cases q:cW row v<s\/v∈W
  ·rw[if_pos q,if_pos (q.imp id fun q=>List.mem_append_left _ q)]
  ·rw[if_neg q,if_neg fun z=>q (z.imp id fun z=>(List.mem_append.mp z).elim id fun z=>absurd (List.mem_singleton.mp z) e)]
theorem hU {row:List Tl}{s:Nat}{W:List Nat}{g:Nat->Int}{y:Nat}(hl:cW row y=s):fY (iI row s W g y)=!decide (y∈W):=by
 unfold iI
 by_cases q:y∈W
 ·rw[if_pos (.inr q),decide_eq_true q];rfl
 ·rw[if_neg (fun z=>z.elim (fun z=>by omega) q),decide_eq_false q];rfl
theorem wL {row:List Tl}{s:Nat}{W:List Nat}{g:Nat->Int}{y:Nat}(hy:y∈W):iI row s W g y=.int (g y):=if_pos (.inr hy)
theorem rq {n:Nat}{row:List Tl}{s at':Nat}{W:List Nat}(w:Wok n row s W){a:Nat}(ha:W[at']?=some a){x y:Nat}(hy:y<n)(hxy:cW row x=cW row y) :
  ∃W',Wok n row s W'/\(∃Y,W'=W++Y)/\(x=a->y∈W')/\((x=a/\y∉W/\W'=W++[y]/\x∈W/\cW row y=s)\/((x≠a\/y∈W)/\W'=W)):=by
 by_cases e:x=a
 ·have hin:x∈W:=by rw[e];exact List.mem_of_getElem? ha
  have hl:cW row x=s:=(w.lo x hin).2
  by_cases q:y∈W
  ·exact⟨W,w,⟨[],by simp⟩,fun _=>q,.inr ⟨.inr q,rfl⟩⟩
  ·exact⟨W++[y],w.add hy (hxy▸hl) q,⟨[y],rfl⟩,fun _=>List.mem_append_right _ (List.mem_singleton.mpr rfl),.inl ⟨e,q,rfl,hin,hxy▸hl⟩⟩
 ·exact⟨W,w,⟨[],by simp⟩,fun z=>absurd z e,.inr ⟨.inl e,rfl⟩⟩
theorem vc {n:Nat}(hn:n≤40){R:Nat}{row:List Tl}(hr:∀t∈row,t.1<n/\t.2.1<n){s at' a:Nat}{s0 s2 s4:Option Sl}:∀(ts:List Tl) (W:List Nat) (g:Nat->Int) (z7 z8 z9:Option Sl),(∀t∈ts,t∈row)->Wok n row s W->W[at']?=some a →
  ∃W' g' z7' z8' z9',bA (gw 3 (gC (gN 7) (gC (gN 8) (gC (gN 9) g0)))) b8 (ts.map eM) [s0,some (.val (.int (R:Nat))),s2,some (.own (fu n (iI row s W g))),s4,some (.own (ag W)),some (.val (.int (at':Nat))),z7,z8,z9] =
   .nx [s0,some (.val (.int (R:Nat))),s2,some (.own (fu n (iI row s W' g'))),s4,some (.own (ag W')),some (.val (.int (at':Nat))),z7',z8',z9']/\Wok n row s W'/\(∃Y,W'=W++Y)/\∀t∈ts,(t.1=a->t.2.1∈W')/\(t.2.1=a->t.1∈W')
 |[],W,g,z7,z8,z9,_,w,_=>⟨W,g,z7,z8,z9,by rw[List.map_nil,e8],w,⟨[],by simp⟩,fun _ h=>by cases h⟩
 |t::ts,W,g,z7,z8,z9,hm,w,ha=>by
  obtain⟨hx,hy⟩:=hr t (hm t List.mem_cons_self)
  have hlo:cW row t.1=cW row t.2.1:=yg (gy _ _ _ _ (List.mem_map_of_mem (f:=fun t:Tl=>(t.1,t.2.1)) (hm t List.mem_cons_self)))
  have d1:decide ((t.1:Int)=(a:Int))=decide (t.1=a):=decide_eq_decide.mpr (by omega)
  have d2:decide ((t.2.1:Int)=(a:Int))=decide (t.2.1=a):=decide_eq_decide.mpr (by omega)
  obtain⟨W1,w1,⟨Xa,e1⟩,k1,c1⟩:=rq w ha hy hlo
  have ha1:W1[at']?=some a:=by rw[e1,List.getElem?_append_left (List.getElem?_eq_some_iff.mp ha).1];exact ha
  have l0:=w.len
  have l1:=w1.len
  have n0:W.length≤100000:=by omega
  have n1:W1.length≤100000:=by omega
  have i1:L2.eI (ag W) (at':Int)=some (.int (a:Nat)):=dG (by unfold ag;rw[List.getElem?_map,ha];rfl)
  have i2:L2.eI (ag W1) (at':Int)=some (.int (a:Nat)):=dG (by unfold ag;rw[List.getElem?_map,ha1];rfl)
  have u0:∀f,pJ (fu n f).length (t.2.1:Int)=some t.2.1:=fun f=>iB (by rw[jf];exact hy)
  have u1:∀f,pJ (fu n f).length (t.1:Int)=some t.1:=fun f=>iB (by rw[jf];exact hx)
  obtain⟨gA,st1⟩:∃gA,(gO (gm (fT (ax jR (fV 7) (ax cq (fV 5) (fV 6)))) (fT (ax uq (ax cq (fV 3) (fV 8)) (fC .non)))) (aY (mJ 3 (fV 8) (aX ca (aa (ax cc (ax cq (fV 3) (fV 7)) (fV 9)) (aa (fV 1) af))))
     (lK hZ 5 (aa (fV 8) af))) bG) [s0,some (.val (.int (R:Nat))),s2,some (.own (fu n (iI row s W g))),s4,some (.own (ag W)),some (.val (.int (at':Nat))),some (.val (.int (t.1:Nat))),some (.val (.int (t.2.1:Nat))),some (.val (.int t.2.2))] =
     .nx [s0,some (.val (.int (R:Nat))),s2,some (.own (fu n (iI row s W1 gA))),s4,some (.own (ag W1)),some (.val (.int (at':Nat))),some (.val (.int (t.1:Nat))),some (.val (.int (t.2.1:Nat))),some (.val (.int t.2.2))]:=by
   rcases c1 with ⟨q1,q2,rfl,q4,q5⟩|⟨q,rfl⟩
   ·refine⟨CA g t.2.1 (eH R (g t.1+t.2.2)),?_⟩
    simp![aT,ak,aS,av,b5,al,aw,aE,aB,ai,bu,aQ,aN,br,bw,bv,bp,aP,aq,aM,ao,bq,aO,am,aj,aC,aA,az,aH,ah,b6,aR,aD,aG,aU,au,aF,bn,ay,bo,aL,bN,be,i1,d1,decide_eq_true q1,cD hy,cD hx,hU q5,decide_eq_false q2,wL q4,kS,u0,i9,oZ,b9,if_pos n0,dE]
   ·refine⟨g,?_⟩
    by_cases qa:t.1=a
    ·have hin:t.1∈W1:=by rw[qa];exact List.mem_of_getElem? ha
     have hs:cW row t.2.1=s:=by rw[←hlo];exact (w.lo _ hin).2
     have qy:t.2.1∈W1:=q.elim (fun z=>absurd qa z) id
     simp![aT,ak,aS,av,b5,al,aw,aE,aB,ai,bu,aQ,aN,br,bw,bv,bp,aP,aq,aM,ao,bq,aO,am,aj,aC,aA,az,aH,ah,b6,aR,aD,aG,aU,au,aF,bn,ay,bo,aL,bN,be,i1,d1,decide_eq_true qa,cD hy,hU hs,decide_eq_true qy]
    ·simp![aT,ak,aS,av,b5,al,aw,aE,aB,ai,bu,aQ,aN,br,bw,bv,bp,aP,aq,aM,ao,bq,aO,am,aj,aC,aA,az,aH,ah,b6,aR,aD,aG,aU,au,aF,bn,ay,bo,aL,bN,be,i1,d1,decide_eq_false qa]
  obtain⟨W2,w2,⟨Xb,e2⟩,k2,c2⟩:=rq w1 ha1 hx hlo.symm
  have ha2:W2[at']?=some a:=by rw[e2,List.getElem?_append_left (List.getElem?_eq_some_iff.mp ha1).1];exact ha1
  obtain⟨gB,st2⟩:∃gB,(gO (gm (fT (ax jR (fV 8) (ax cq (fV 5) (fV 6)))) (fT (ax uq (ax cq (fV 3) (fV 7)) (fC .non)))) (aY (mJ 3 (fV 7) (aX ca (aa (ax iN (ax cq (fV 3) (fV 8)) (fV 9)) (aa (fV 1) af))))
     (lK hZ 5 (aa (fV 7) af))) bG) [s0,some (.val (.int (R:Nat))),s2,some (.own (fu n (iI row s W1 gA))),s4,some (.own (ag W1)),some (.val (.int (at':Nat))),some (.val (.int (t.1:Nat))),some (.val (.int (t.2.1:Nat))),some (.val (.int t.2.2))] =
     .nx [s0,some (.val (.int (R:Nat))),s2,some (.own (fu n (iI row s W2 gB))),s4,some (.own (ag W2)),some (.val (.int (at':Nat))),some (.val (.int (t.1:Nat))),some (.val (.int (t.2.1:Nat))),some (.val (.int t.2.2))]:=by
   rcases c2 with ⟨q1,q2,rfl,q4,q5⟩|⟨q,rfl⟩
   ·refine⟨CA gA t.1 (eH R (gA t.2.1 - t.2.2)),?_⟩
    simp![aT,ak,aS,av,b5,al,aw,aE,aB,ai,bu,aQ,aN,br,bw,bv,bp,aP,aq,aM,ao,bq,aO,am,aj,aC,aA,az,aH,ah,b6,aR,aD,aG,aU,au,aF,bn,ay,bo,aL,bN,be,i2,d2,decide_eq_true q1,cD hy,cD hx,hU q5,decide_eq_false q2,wL q4,kS,u1,i9,oZ,b9,if_pos n1,dE]
   ·refine⟨gA,?_⟩
    by_cases qa:t.2.1=a
    ·have hin:t.2.1∈W2:=by rw[qa];exact List.mem_of_getElem? ha1
     have hs:cW row t.1=s:=by rw[hlo];exact (w1.lo _ hin).2
     have qy:t.1∈W2:=q.elim (fun z=>absurd qa z) id
     simp![aT,ak,aS,av,b5,al,aw,aE,aB,ai,bu,aQ,aN,br,bw,bv,bp,aP,aq,aM,ao,bq,aO,am,aj,aC,aA,az,aH,ah,b6,aR,aD,aG,aU,au,aF,bn,ay,bo,aL,bN,be,i2,d2,decide_eq_true qa,cD hx,hU hs,decide_eq_true qy]
    ·simp![aT,ak,aS,av,b5,al,aw,aE,aB,ai,bu,aQ,aN,br,bw,bv,bp,aP,aq,aM,ao,bq,aO,am,aj,aC,aA,az,aH,ah,b6,aR,aD,aG,aU,au,aF,bn,ay,bo,aL,bN,be,i2,d2,decide_eq_false qa]
  obtain⟨W',g',z7',z8',z9',e,w',⟨Y,e3⟩,r⟩:=vc hn hr (s0:=s0) (s2:=s2) (s4:=s4) (R:=R) ts W2 gB (some (.val (.int (t.1:Nat)))) (some (.val (.int (t.2.1:Nat)))) (some (.val (.int t.2.2))) (fun u hu=>hm u (List.mem_cons_of_mem _ hu)) w2 ha2
  refine⟨W',g',z7',z8',z9',?_,w',⟨Xa++(Xb++Y),by rw[e3,e2,e1,List.append_assoc,List.append_assoc]⟩,fun u hu=>?_⟩
  ·rw[List.map_cons,cr]
   simp only[eM,uw,zh,AM,zK,iC,jb,if_true,gS,oU,pf]
   show lS (some _) _ _ _=_
   rw[lm]
   show jW (aY _ _ _) _ _ _=_
   rw[tq,st1,jd,st2,ja]
   exact e
  ·rcases List.mem_cons.mp hu with rfl|hu
   ·have s1:∀v,v∈W1->v∈W':=fun v hv=>by rw[e3,e2];exact List.mem_append_left _ (List.mem_append_left _ hv)
    have s2:∀v,v∈W2->v∈W':=fun v hv=>by rw[e3];exact List.mem_append_left _ hv
    exact⟨fun q=>s1 _ (k1 q),fun q=>s2 _ (k2 q)⟩
   ·exact r u hu
theorem oE {n:Nat}(hn:n≤40){R:Nat}{row:List Tl}(hr:∀t∈row,t.1<n/\t.2.1<n){s:Nat}{s0 s4:Option Sl}:∀(m k at':Nat) (W:List Nat) (g:Nat->Int) (z7 z8 z9:Option Sl),n - at'≤m->m<k->at'≤W.length->Wok n row s W->(∀i a,i<at'->W[i]?=some a->DG row W a) →
  ∃W' g' uc z7' z8' z9',dM aJ aI k [s0,some (.val (.int (R:Nat))),some (.val (bg row)),some (.own (fu n (iI row s W g))),s4,some (.own (ag W)),some (.val (.int (at':Nat))),z7,z8,z9] =
   .nx [s0,some (.val (.int (R:Nat))),some (.val (bg row)),some (.own (fu n (iI row s W' g'))),s4,some (.own (ag W')),some (.val (.int (uc:Nat))),z7',z8',z9']/\Wok n row s W'/\(∃Y,W'=W++Y)/\∀a∈W',DG row W' a
 |m,0,at',W,_,_,_,_,_,hk,_,_,_=>absurd hk (Nat.not_lt_zero _)
 |m,k+1,at',W,g,z7,z8,z9,hm,hk,hl,w,hp=>by
  have lw:=w.len
  have dl:decide ((at':Int)<(W.length:Int))=decide (at'<W.length):=decide_eq_decide.mpr (by omega)
  by_cases hlt:at'<W.length
  ·have ha:W[at']?=some W[at']:=List.getElem?_eq_getElem hlt
   obtain⟨W1,g1,z7',z8',z9',e1,w1,⟨Y1,y1⟩,r1⟩:=vc hn hr (s0:=s0) (s2:=some (.val (bg row))) (s4:=s4) (R:=R) row W g z7 z8 z9 (fun _ h=>h) w ha
   have hl1:at'+1≤W1.length:=by rw[y1,List.length_append];omega
   have keep:∀i a,i<at'+1->W1[i]?=some a->DG row W1 a:=fun i a hi ea=>by
    rw[y1,List.getElem?_append_left (by omega)] at ea
    by_cases hi':i<at'
    ·have:=hp i a hi' ea
     intro t ht
     obtain⟨q1,q2⟩:=this t ht
     exact⟨fun q=>by rw[y1];exact List.mem_append_left _ (q1 q),fun q=>by rw[y1];exact List.mem_append_left _ (q2 q)⟩
    ·have:i=at':=by omega
     subst this
     rw[ha] at ea
     cases ea
     exact fun t ht=>r1 t ht
   obtain⟨W2,g2,uc,y7,y8,y9,e2,w2,⟨Y2,y2⟩,r2⟩:=oE hn hr (s0:=s0) (s4:=s4) (R:=R) (m - 1) k (at'+1) W1 g1 z7' z8' z9' (by omega) (by omega) hl1 w1 keep
   refine⟨W2,g2,uc,y7,y8,y9,?_,w2,⟨Y1++Y2,by rw[y2,y1,List.append_assoc]⟩,r2⟩
   rw[i5]
   have c0:aJ [s0,some (.val (.int (R:Nat))),some (.val (bg row)),some (.own (fu n (iI row s W g))),s4,some (.own (ag W)),some (.val (.int (at':Nat))),z7,z8,z9]=some true:=by
    simp![aJ,aT,ak,aS,av,b5,al,aw,aE,aB,ai,bu,aQ,aN,br,bw,bv,bp,aP,aq,aM,ao,bq,aO,am,aj,aC,aA,az,aH,ah,b6,aR,aD,aG,aU,au,aF,bn,ay,bo,aL,bN,be,b9,dl,decide_eq_true hlt]
   rw[c0]
   show En (aI _) _ _ _=_
   have b0:aI [s0,some (.val (.int (R:Nat))),some (.val (bg row)),some (.own (fu n (iI row s W g))),s4,some (.own (ag W)),some (.val (.int (at':Nat))),z7,z8,z9]=.nx [s0,some (.val (.int (R:Nat))),some (.val (bg row)),some (.own (fu n (iI row s W1 g1))),s4,some (.own (ag W1)),some (.val (.int ((at'+1:Nat):Int))),z7',z8',z9']:=by
    unfold bg at e1 ⊢
    simp![aI,aT,ak,aS,av,b5,al,aw,aE,aB,ai,bu,aQ,aN,br,bw,bv,bp,aP,aq,aM,ao,bq,aO,am,aj,aC,aA,az,aH,ah,b6,aR,aD,aG,aU,au,aF,bn,ay,bo,aL,bN,be,e1]
    rfl
   rw[b0,oV]
   exact e2
  ·refine⟨W,g,at',z7,z8,z9,?_,w,⟨[],by simp⟩,fun a ha=>?_⟩
   ·rw[i5]
    simp![aJ,aT,ak,aS,av,b5,al,aw,aE,aB,ai,bu,aQ,aN,br,bw,bv,bp,aP,aq,aM,ao,bq,aO,am,aj,aC,aA,az,aH,ah,b6,aR,aD,aG,aU,au,aF,bn,ay,bo,aL,bN,be,b9,dl,decide_eq_false hlt]
   ·obtain⟨i,hi,rfl⟩:=List.mem_iff_getElem.mp ha
    exact hp i _ (by omega) (List.getElem?_eq_getElem hi)
theorem kr {n:Nat}(hn:n≤40){R:Nat}{row:List Tl}(hr:∀t∈row,t.1<n/\t.2.1<n){s0:Option Sl}:∀(k s:Nat) (g:Nat->Int) (z4 z5 z6 z7 z8 z9:Option Sl),s+k=n →
  ∃g' z4' z5' z6' z7' z8' z9',bA (gN 4) bh (ag ((List.range k).map (s + ·))) [s0,some (.val (.int (R:Nat))),some (.val (bg row)),some (.own (fu n (iI row s [] g))),z4,z5,z6,z7,z8,z9] =
   .nx [s0,some (.val (.int (R:Nat))),some (.val (bg row)),some (.own (fu n (iI row n [] g'))),z4',z5',z6',z7',z8',z9']
 |0,s,g,z4,z5,z6,z7,z8,z9,e=>by
  have:s=n:=by omega
  subst this
  exact⟨g,z4,z5,z6,z7,z8,z9,by rw[List.range_zero,List.map_nil,show ag []=[] from rfl,e8]⟩
 |k+1,s,g,z4,z5,z6,z7,z8,z9,e=>by
  have hs:s<n:=by omega
  obtain⟨l1,l2,l3⟩:=iV row s
  have elist:(List.range (k+1)).map (s + ·)=s::(List.range k).map (s+1 + ·):=by
   rw[List.range_succ_eq_map,List.map_cons,List.map_map]
   show (s+0)::_=_
   rw[Nat.add_zero]
   exact congrArg (List.cons s) (List.map_congr_left fun m _=>by show s+(m+1)=s+1+m;omega)
  rw[elist,eA,cr]
  by_cases hlo:cW row s=s
  ·have w0:Wok n row s [s]:=⟨by simp,fun v hv=>by rw[List.mem_singleton.mp hv];exact⟨hs,hlo⟩⟩
   obtain⟨W',g1,uc,z7',z8',z9',ew,w',⟨Y,y⟩,cl⟩:=oE hn hr (s0:=s0) (s4:=some (.val (.int (s:Nat)))) (R:=R) n 10000 0 [s] (CA g s 0) z7 z8 z9 (by omega) (by omega) (by omega) w0 (fun i a hi=>absurd hi (Nat.not_lt_zero _))
   have full:fu n (iI row s W' g1)=fu n (iI row (s+1) [] g1):=fJ fun v hv=>by
    have:(cW row v<s\/v∈W')↔(cW row v<s+1\/v∈([]:List Nat)):=by
     constructor
     ·rintro (q|q)
      ·exact .inl (by omega)
      ·have:=(w'.lo v q).2;exact .inl (by omega)
     ·rintro (q|q)
      ·by_cases q':cW row v<s
       ·exact .inl q'
       ·have ev:cW row v=s:=by omega
        have cv:cT row v=cT row s:=by have:=(iV row v).2.1;rw[ev] at this;exact this.symm
        refine .inr ((mO (P:=fun v=>v∈W') (fun t ht=>?_) cv).mpr (by rw[y];exact List.mem_append_left _ (List.mem_singleton.mpr rfl)))
        exact⟨fun q=>(cl _ q t ht).1 rfl,fun q=>(cl _ q t ht).2 rfl⟩
      ·cases q
    unfold iI
    by_cases q:cW row v<s\/v∈W'
    ·rw[if_pos q,if_pos (this.mp q)]
    ·rw[if_neg q,if_neg fun z=>q (this.mpr z)]
   obtain⟨g2,y4,y5,y6,y7,y8,y9,e2⟩:=kr hn hr (s0:=s0) (R:=R) k (s+1) g1 (some (.val (.int (s:Nat)))) (some (.own (ag W'))) (some (.val (.int (uc:Nat)))) z7' z8' z9' (by omega)
   refine⟨g2,y4,y5,y6,y7,y8,y9,?_⟩
   have kn:fY (iI row s [] g s)=true:=by rw[hU hlo];rfl
   have u0:pJ (fu n (iI row s [] g)).length (s:Int)=some s:=iB (by rw[jf];exact hs)
   have z0:(fun v=>if v=s then PV.int 0 else iI row s [] g v)=iI row s [s] (CA g s 0):=oZ
   have ew':dM aJ aI 10000 [s0,some (.val (.int (R:Nat))),some (.val (bg row)),some (.own (fu n (iI row s [s] (CA g s 0)))),some (.val (.int (s:Nat))),some (.own [.int (s:Nat)]),some (.val (.int 0)),z7,z8,z9]=_:=ew
   simp![bh,aT,ak,aS,av,b5,al,aw,aE,aB,ai,bu,aQ,aN,br,bw,bv,bp,aP,aq,aM,ao,bq,aO,am,aj,aC,aA,az,aH,ah,b6,aR,aD,aG,aU,au,aF,bn,ay,bo,aL,bN,be,cD hs,kn,u0,i9,z0,ew']
   rw[full]
   exact e2
  ·have same:fu n (iI row s [] g)=fu n (iI row (s+1) [] g):=fJ fun v hv=>by
    have hv':cW row v≠s:=fun q=>by
     have cv:cT row v=cT row s:=by have:=(iV row v).2.1;rw[q] at this;exact this.symm
     exact hlo ((yg cv).symm.trans q)
    unfold iI
    by_cases q:cW row v<s\/v∈([]:List Nat)
    ·rw[if_pos q,if_pos (q.imp (fun q=>by omega) id)]
    ·rw[if_neg q,if_neg fun z=>q (z.imp (fun z=>by omega) id)]
   obtain⟨g2,y4,y5,y6,y7,y8,y9,e2⟩:=kr hn hr (s0:=s0) (R:=R) k (s+1) g (some (.val (.int (s:Nat)))) z5 z6 z7 z8 z9 (by omega)
   refine⟨g2,y4,y5,y6,y7,y8,y9,?_⟩
   have kn:fY (iI row s [] g s)=false:=by
    unfold iI;rw[if_pos (.inl (by omega))];rfl
   simp![bh,aT,ak,aS,av,b5,al,aw,aE,aB,ai,bu,aQ,aN,br,bw,bv,bp,aP,aq,aM,ao,bq,aO,am,aj,aC,aA,az,aH,ah,b6,aR,aD,aG,aU,au,aF,bn,ay,bo,aL,bN,be,cD hs,kn]
   rw[same]
   exact e2
theorem oK {n:Nat}{R:Nat}{row:List Tl}(hr:∀t∈row,t.1<n/\t.2.1<n){f:Nat->PV}{g:Nat->Int}(hf:∀v,v<n->f v=.int (g v)){s0 s2 s4 s5 s6:Option Sl}:∀(ts:List Tl) (z7 z8 z9:Option Sl),(∀t∈ts,t∈row)->(∃t∈ts,eH R (g t.2.1 - g t.1 - t.2.2)≠0) →
  ∃ρ',bA (gw 3 (gC (gN 7) (gC (gN 8) (gC (gN 9) g0)))) bx (ts.map eM) [s0,some (.val (.int (R:Nat))),s2,some (.own (fu n f)),s4,s5,s6,z7,z8,z9]=.rt .non ρ'
 |[],_,_,_,_,⟨_,h,_⟩=>nomatch h
 |t::ts,z7,z8,z9,hm,⟨u,hu,hb⟩=>by
  obtain⟨hx,hy⟩:=hr t (hm t List.mem_cons_self)
  rw[List.map_cons,cr]
  by_cases z:eH R (g t.2.1 - g t.1 - t.2.2)=0
  ·have hu':u∈ts:=(List.mem_cons.mp hu).elim (fun e=>absurd (by rw[e];exact z) hb) id
   obtain⟨ρ',e⟩:=oK hr hf (s0:=s0) (s2:=s2) (s4:=s4) (s5:=s5) (s6:=s6) ts (some (.val (.int (t.1:Nat)))) (some (.val (.int (t.2.1:Nat)))) (some (.val (.int t.2.2))) (fun u hu=>hm u (List.mem_cons_of_mem _ hu)) ⟨u,hu',hb⟩
   refine⟨ρ',?_⟩
   simp![eM,bx,aT,ak,aS,av,b5,al,aw,aE,aB,ai,bu,aQ,aN,br,bw,bv,bp,aP,aq,aM,ao,bq,aO,am,aj,aC,aA,az,aH,ah,b6,aR,aD,aG,aU,au,aF,bn,ay,bo,aL,bN,be,cD hx,cD hy,hf _ hx,hf _ hy,kS,z,decide_true]
   exact e
  ·refine⟨[s0,some (.val (.int (R:Nat))),s2,some (.own (fu n f)),s4,s5,s6,some (.val (.int (t.1:Nat))),some (.val (.int (t.2.1:Nat))),some (.val (.int t.2.2))],?_⟩
   simp![eM,bx,aT,ak,aS,av,b5,al,aw,aE,aB,ai,bu,aQ,aN,br,bw,bv,bp,aP,aq,aM,ao,bq,aO,am,aj,aC,aA,az,aH,ah,b6,aR,aD,aG,aU,au,aF,bn,ay,bo,aL,bN,be,cD hx,cD hy,hf _ hx,hf _ hy,kS,decide_eq_false z]
theorem vi {n:Nat}(h1:1≤n)(hn:n≤40){R:Nat}{row:List Tl}(hr:∀t∈row,t.1<n/\t.2.1<n)(hc:¬gE R row):bC [.int (n:Nat),.int (R:Nat),bg row]=some (.v .non):=by
 obtain⟨g,z4,z5,z6,z7,z8,z9,e⟩:=kr hn hr (s0:=some (.val (.int (n:Nat)))) (R:=R) n 0 (fun _=>0) none none none none none none (by omega)
 rw[show ((List.range n).map fun m=>0+m)=List.range n by rw[List.map_congr_left fun x _=>Nat.zero_add x];exact List.map_id _] at e
 have t0:fu n (iI row 0 [] fun _=>0)=(List.replicate n [PV.non]).flatten:=by
  rw[tI]
  exact fJ fun v _=>by unfold iI;rw[if_neg (fun z=>z.elim (fun z=>by omega) fun z=>by cases z)]
 rw[t0] at e
 have hf:∀v,v<n->iI row n [] g v=.int (g v):=fun v hv=>by
  unfold iI;rw[if_pos (.inl (by have:=(iV row v).1;omega))]
 have bad:∃t∈row,eH R (g t.2.1 - g t.1 - t.2.2)≠0:=Classical.byContradiction fun q=>hc ⟨g,fun t ht=>by
  have z:eH R (g t.2.1 - g t.1 - t.2.2)=0:=Classical.byContradiction fun z=>q ⟨t,ht,z⟩
  have:=gF (R:=R) (a:=g t.2.1 - g t.1 - t.2.2)
  rw[z] at this
  unfold dF
  rwa [show (0:Int) - (g t.2.1 - g t.1 - t.2.2)=t.2.2 - (g t.2.1 - g t.1) by omega] at this⟩
 obtain⟨ρ',e2⟩:=oK hr hf (s0:=some (.val (.int (n:Nat)))) (s2:=some (.val (bg row))) (s4:=z4) (s5:=z5) (s6:=z6) row z7 z8 z9 (fun _ h=>h) bad
 have c1:((n:Int)≤1000/\(-1000:Int)≤(n:Int)):=⟨by omega,by omega⟩
 unfold bg at e e2
 simp![gb,cM,b8,aJ,aI,bh,bx,bg,aT,ak,aS,av,b5,al,aw,aE,aB,ai,bu,aQ,aN,br,bw,bv,bp,aP,aq,aM,ao,bq,aO,am,aj,aC,aA,az,aH,ah,b6,aR,aD,aG,aU,au,aF,bn,ay,bo,aL,bN,be,if_pos c1,(K1 (n:=n) (by omega)).1,e,e2]
end Dp
end
section
namespace Dp
open PySem PySem.Spec L2 Fo Pt
theorem Dz {R:Nat}{a b:Int}(h:eH R a=eH R b):(R:Int) ∣ a - b:=by
 have k1:=@gF R a
 have k2:=@gF R b
 rw[h] at k1
 have:=Int.dvd_sub k2 k1
 rwa [show eH R b - b - (eH R b - a)=a - b by omega] at this
noncomputable def bX (row:List Tl):Nat->List Nat
 |0=>[]
 |k+1=>match row[k]? with
  |some t=>if cT (row.take k) t.1=cT (row.take k) t.2.1 then bX row k else bX row k++[k]
  |none=>bX row k
theorem jh {row:List Tl}{k:Nat}{t:Tl}(et:row[k]?=some t)(h:cT (row.take k) t.1=cT (row.take k) t.2.1):bX row (k+1)=bX row k:=by
 rw[bX,et];exact if_pos h
theorem j9 {row:List Tl}{k:Nat}{t:Tl}(et:row[k]?=some t)(h:cT (row.take k) t.1≠cT (row.take k) t.2.1):bX row (k+1)=bX row k++[k]:=by
 rw[bX,et];exact if_neg h
theorem iZ (row:List Tl):∀k,(∀j∈bX row k,j<k)/\(bX row k).length≤k
 |0=>⟨fun _ h=>(by cases h),Nat.le_refl _⟩
 |k+1=>by
  obtain⟨h1,h2⟩:=iZ row k
  have k1:∀j∈bX row k,j<k+1:=fun j hj=>Nat.lt_succ_of_lt (h1 j hj)
  cases et:row[k]? with
  |none=>rw[bX,et];exact⟨k1,by show (bX row k).length≤_;omega⟩
  |some t=>
   by_cases q:cT (row.take k) t.1=cT (row.take k) t.2.1
   ·rw[jh et q];exact⟨k1,by omega⟩
   ·rw[j9 et q]
    refine⟨fun j hj=>?_,by rw[List.length_append,List.length_singleton];omega⟩
    rcases List.mem_append.mp hj with hj|hj
    ·exact k1 j hj
    ·rw[List.mem_singleton.mp hj];exact Nat.lt_succ_self k
theorem iE {row:List Tl}{k:Nat}{js:List Nat}(h:∀j∈js,j<k):bc (row.take k) js=bc row js:=by
 unfold bc
 induction js with
 |nil=>rfl
 |cons j js ih=>
  rw[List.flatMap_cons,List.flatMap_cons,ih fun i hi=>h i (List.mem_cons_of_mem _ hi)]
  unfold Ao
  rw[List.getElem?_take,if_pos (h j List.mem_cons_self)]
theorem lL {row:List Tl}{k:Nat}{t:Tl}(et:row[k]?=some t):row.take (k+1)=row.take k++[t]:=by
 rw[List.take_add_one,et];rfl
theorem mD (row:List Tl):∀k,∀t∈row.take k,Rch (bc row (bX row k)) t.1 t.2.1
 |0=>fun _ h=>by rw[List.take_zero] at h;cases h
 |k+1=>by
  have ih:=mD row k
  have hl:=(iZ row k).1
  cases et:row[k]? with
  |none=>
   rw[bX,et,List.take_of_length_le (by have:=List.getElem?_eq_none_iff.mp et;omega)]
   rw[List.take_of_length_le (by have:=List.getElem?_eq_none_iff.mp et;omega)] at ih
   exact ih
  |some t=>
   intro u hu
   rw[lL et] at hu
   by_cases q:cT (row.take k) t.1=cT (row.take k) t.2.1
   ·rw[jh et q]
    rcases List.mem_append.mp hu with hu|hu
    ·exact ih u hu
    ·rw[List.mem_singleton.mp hu,←iE hl]
     exact sS (fun v hv=>by rw[iE hl];exact ih v hv) q
   ·rw[j9 et q]
    rcases List.mem_append.mp hu with hu|hu
    ·exact (ih u hu).mono fun s hs=>by unfold bc at hs ⊢;rw[List.flatMap_append];exact List.mem_append_left _ hs
    ·rw[List.mem_singleton.mp hu]
     exact .step .refl (kD (List.mem_append_right _ (List.mem_singleton.mpr rfl)) et).1
theorem qI (row:List Tl)(k:Nat){a e:Nat}:Rch (bc row (bX row k)) a e↔cT (row.take k) a=cT (row.take k) e:=by
 have hl:=(iZ row k).1
 rw[←iE hl]
 exact⟨fun r=>(BE r).symm,fun h=>sS (fun v hv=>by rw[iE hl];exact mD row k v hv) h⟩
theorem sH {R:Nat}{row pre:List Tl}{js:List Nat}(hp:∀t∈pre,Rch (bc row js) t.1 t.2.1)(c:gE R pre){t:Tl}(hn:¬Rch (bc row js) t.1 t.2.1):gE R (pre++[t]):=by
 classical
 obtain⟨h,hc⟩:=c
 refine⟨fun v=>if Rch (bc row js) t.2.1 v then h v+(t.2.2 - (h t.2.1 - h t.1)) else h v,fun u hu=>?_⟩
 rcases List.mem_append.mp hu with hu|hu
 ·have k:=hc u hu
  unfold dF at k
  show (R:Int) ∣ u.2.2 - ((if Rch (bc row js) t.2.1 u.2.1 then h u.2.1+(t.2.2 - (h t.2.1 - h t.1)) else h u.2.1) - (if Rch (bc row js) t.2.1 u.1 then h u.1+(t.2.2 - (h t.2.1 - h t.1)) else h u.1))
  by_cases q:Rch (bc row js) t.2.1 u.1
  ·have q2:Rch (bc row js) t.2.1 u.2.1:=q.trans (hp u hu)
   rw[if_pos q,if_pos q2]
   rwa [show u.2.2 - (h u.2.1+(t.2.2 - (h t.2.1 - h t.1)) - (h u.1+(t.2.2 - (h t.2.1 - h t.1))))=u.2.2 - (h u.2.1 - h u.1) by omega]
  ·have q2:¬Rch (bc row js) t.2.1 u.2.1:=fun z=>q (z.trans (hp u hu).symm)
   rw[if_neg q,if_neg q2];exact k
 ·rw[List.mem_singleton.mp hu]
  show (R:Int) ∣ t.2.2 - ((if Rch (bc row js) t.2.1 t.2.1 then h t.2.1+(t.2.2 - (h t.2.1 - h t.1)) else h t.2.1) - (if Rch (bc row js) t.2.1 t.1 then h t.1+(t.2.2 - (h t.2.1 - h t.1)) else h t.1))
  rw[if_pos .refl,if_neg fun z=>hn z.symm]
  exact⟨0,by omega⟩
theorem kj {n:Nat}(hn:n≤40){R:Nat}{row:List Tl}(hr:∀t∈row,t.1<n/\t.2.1<n)(h60:row.length≤60):∀(ts pre:List Tl) (z3 z4 z5 z6 z7:Option Sl),row=pre++ts->gE R pre->¬gE R row →
  ∃(k:Nat) (t:Tl) (r:List PV) (vs:List Nat) (ρ':aK),bA (gw 2 (gC (gN 3) (gC (gw 3 (gC (gN 4) (gC (gN 5) (gC (gN 6) g0)))) g0))) bf (cV pre.length (ts.map eM)) [some (.val (.int (R:Nat))),some (.val (bg row)),some (.own (ag (bX row pre.length))),z3,z4,z5,z6,z7] =
   .rt (.tup [.lst (ag (bX row k)),.tup [.str "clash",.int (k:Nat),.tup r]]) ρ'/\row[k]?=some t/\gE R (row.take k)/\¬gE R (row.take (k+1))/\Trk (bc row (bX row k)) t.1 t.2.1 r vs/\vs.Nodup/\eH R (r.map (jQ row)).sum≠eH R t.2.2/\r.length<n
 |[],pre,z3,z4,z5,z6,z7,e0,c,nc=>by rw[List.append_nil] at e0;rw[e0] at nc;exact absurd c nc
 |t::ts,pre,z3,z4,z5,z6,z7,e0,c,nc=>by
  have e1:row=(pre++[t])++ts:=by rw[e0,List.append_assoc];rfl
  have hm:t∈row:=by rw[e0];exact List.mem_append_right _ List.mem_cons_self
  have et:row[pre.length]?=some t:=by rw[e0,List.getElem?_append_right (Nat.le_refl _),Nat.sub_self];rfl
  have etk:row.take pre.length=pre:=by rw[e0,List.take_left]
  have hpl:pre.length<row.length:=(List.getElem?_eq_some_iff.mp et).1
  obtain⟨rl,rn⟩:=iZ row pre.length
  obtain⟨hx,hy⟩:=hr t hm
  have s1:=oP (row:=row) (js:=bX row pre.length) (fun j hj=>by have:=rl j hj;omega) (by omega)
  obtain⟨K,k1,RK,kc⟩:=lq hn hx (jZ hr (js:=bX row pre.length))
  have pl:(pre++[t]).length=pre.length+1:=by rw[List.length_append];rfl
  have hpr:∀u∈pre,Rch (bc row (bX row pre.length)) u.1 u.2.1:=fun u hu=>mD row pre.length u (by rw[etk];exact hu)
  rw[List.map_cons,cV,cr]
  by_cases hin:t.2.1∈K.map (·.1)
  ·obtain⟨q,fq,mq⟩:=jX hin
   obtain⟨vs,tr,vn,_⟩:=RK.tr _ mq
   have hq:q.length<n:=RK.rlen mq
   have g1:kh (rD K) [.int (t.2.1:Nat)]=some (.fz (.tup q)):=by rw[uH,fq];rfl
   have g2:=oN (R:=R) (row:=row) (r:=q) (fun l hl=>by obtain⟨j,s,u,a,_,b⟩:=tr.labels l hl;exact⟨j,s,u,a,b⟩) (by omega)
   have sumk:∀h:Nat->Int,(∀u∈pre,dF R h u)->(R:Int) ∣ (q.map (jQ row)).sum - (h t.2.1 - h t.1):=fun h hh=>tr.sum fun j hj u eu=>hh u (by
    have:(row.take pre.length)[j]?=some u:=by rw[List.getElem?_take,if_pos (rl j hj)];exact eu
    rw[etk] at this;exact List.mem_of_getElem? this)
   by_cases eqv:eH R (q.map (jQ row)).sum=eH R t.2.2
   ·have c':gE R (pre++[t]):=by
     obtain⟨h,hh⟩:=c
     refine⟨h,fun u hu=>?_⟩
     rcases List.mem_append.mp hu with hu|hu
     ·exact hh u hu
     ·rw[List.mem_singleton.mp hu]
      have a:=sumk h hh
      have b:=Dz eqv
      have:=Int.dvd_sub a b
      unfold dF
      rwa [show (q.map (jQ row)).sum - (h t.2.1 - h t.1) - ((q.map (jQ row)).sum - t.2.2)=t.2.2 - (h t.2.1 - h t.1) by omega] at this
    have rs:bX row (pre.length+1)=bX row pre.length:=jh et ((qI row _).mp tr.rch)
    obtain⟨k,t',r,vs',ρ',e,w⟩:=kj hn (R:=R) hr h60 ts (pre++[t]) (some (.val (.int (pre.length:Nat)))) (some (.val (.int (t.1:Nat)))) (some (.val (.int (t.2.1:Nat)))) (some (.val (.int t.2.2))) (some (.val (.tup q))) e1 c' nc
    refine⟨k,t',r,vs',ρ',?_,w⟩
    rw[pl,rs] at e
    simp![eM,bf,aT,ak,aS,av,b5,al,aw,aE,aB,ai,bu,aQ,aN,br,bw,bv,bp,aP,aq,aM,ao,bq,aO,am,aj,aC,aA,az,aH,ah,b6,aR,aD,aG,aU,au,aF,bn,ay,bo,aL,bN,be,gL,s1,iA,hW,k1,g1,g2,j2,eqv,decide_true]
    exact e
   ·refine⟨pre.length,t,q,vs,[some (.val (.int (R:Nat))),some (.val (bg row)),some (.val (.lst (ag (bX row pre.length)))),some (.val (.int (pre.length:Nat))),some (.val (.int (t.1:Nat))),some (.val (.int (t.2.1:Nat))),some (.val (.int t.2.2)),some (.val (.tup q))],?_,et,by rw[etk];exact c,?_,tr,vn,eqv,hq⟩
    ·simp![eM,bf,aT,ak,aS,av,b5,al,aw,aE,aB,ai,bu,aQ,aN,br,bw,bv,bp,aP,aq,aM,ao,bq,aO,am,aj,aC,aA,az,aH,ah,b6,aR,aD,aG,aU,au,aF,bn,ay,bo,aL,bN,be,gL,s1,iA,hW,k1,g1,g2,j2,decide_eq_false eqv]
    ·rw[lL et,etk]
     rintro⟨h,hh⟩
     have a:=sumk h fun u hu=>hh u (List.mem_append_left _ hu)
     have b:=hh t (List.mem_append_right _ (List.mem_singleton.mpr rfl))
     unfold dF at b
     have:=Int.dvd_sub a b
     rw[show (q.map (jQ row)).sum - (h t.2.1 - h t.1) - (t.2.2 - (h t.2.1 - h t.1))=(q.map (jQ row)).sum - t.2.2 by omega] at this
     exact eqv (gt this)
  ·have g1:kh (rD K) [.int (t.2.1:Nat)]=some (.fz .non):=by
    rw[uH]
    cases ef:K.find? fun u=>decide (u.1=t.2.1) with
    |none=>rfl
    |some u=>exact absurd (by have:=pD (y:=t.2.1) (K:=K);rw[ef] at this;exact of_decide_eq_true this.symm) hin
   have nr:¬Rch (bc row (bX row pre.length)) t.1 t.2.1:=fun z=>hin ((RK.keys kc _).mpr z)
   have c':=sH hpr c nr
   have rs:bX row (pre.length+1)=bX row pre.length++[pre.length]:=j9 et fun z=>nr ((qI row _).mpr z)
   obtain⟨k,t',r,vs',ρ',e,w⟩:=kj hn (R:=R) hr h60 ts (pre++[t]) (some (.val (.int (pre.length:Nat)))) (some (.val (.int (t.1:Nat)))) (some (.val (.int (t.2.1:Nat)))) (some (.val (.int t.2.2))) (some (.val .non)) e1 c' nc
   refine⟨k,t',r,vs',ρ',?_,w⟩
   rw[pl,rs] at e
   have hl2:(bX row pre.length).length≤100000:=by omega
   simp![eM,bf,aT,ak,aS,av,b5,al,aw,aE,aB,ai,bu,aQ,aN,br,bw,bv,bp,aP,aq,aM,ao,bq,aO,am,aj,aC,aA,az,aH,ah,b6,aR,aD,aG,aU,au,aF,bn,ay,bo,aL,bN,be,gL,s1,iA,hW,k1,g1,b9,if_pos hl2,dE]
   exact e
theorem zy {n:Nat}(hn:n≤40){R:Nat}{row:List Tl}(hr:∀t∈row,t.1<n/\t.2.1<n)(h60:row.length≤60)(nc:¬gE R row):∃(k:Nat) (t:Tl) (r:List PV) (vs:List Nat),cf [.int (R:Nat),bg row]=some (.v (.tup [.lst (ag (bX row k)),.tup [.str "clash",.int (k:Nat),.tup r]])) ∧
  row[k]?=some t/\gE R (row.take k)/\¬gE R (row.take (k+1))/\Trk (bc row (bX row k)) t.1 t.2.1 r vs/\vs.Nodup/\eH R (r.map (jQ row)).sum≠eH R t.2.2/\r.length<n:=by
 obtain⟨k,t,r,vs,ρ',e,w⟩:=kj hn (R:=R) hr h60 row [] none none none none none rfl ⟨fun _=>0,fun _ h=>by cases h⟩ nc
 refine⟨k,t,r,vs,?_,w⟩
 have e':bA (gw 2 (gC (gN 3) (gC (gw 3 (gC (gN 4) (gC (gN 5) (gC (gN 6) g0)))) g0))) bf (cV 0 (row.map eM)) [some (.val (.int (R:Nat))),some (.val (.tup (row.map eM))),some (.own []),none,none,none,none,none]=_:=e
 simp![ig,d6,bf,bg,aT,ak,aS,av,b5,al,aw,aE,aB,ai,bu,aQ,aN,br,bw,bv,bp,aP,aq,aM,ao,bq,aO,am,aj,aC,aA,az,aH,ah,b6,aR,aD,aG,aU,au,aF,bn,ay,bo,aL,bN,be,e']
end Dp
end
section
namespace Dp
open PySem PySem.Spec L2 Fo Pt
noncomputable def GG (ps:List (Nat×Nat)):List (Nat×Nat):=ps.map fun p=>(p.2,p.1)
noncomputable def cS (row:List Tl):Nat->Nat:=wG (GG (uT row)) id
theorem yf (row:List Tl)(a b:Nat):cS row a=cS row b↔cT row a=cT row b:=by
 constructor
 ·intro h
  refine j5 (f:=cT row) (GG (uT row)) id (fun p hp=>?_) (fun x y e=>by rw[show x=y from e]) a b h
  obtain⟨q,hq,rfl⟩:=List.mem_map.mp hp
  exact (gy _ _ _ _ hq).symm
 ·intro h
  refine j5 (f:=cS row) (uT row) id (fun p hp=>?_) (fun x y e=>by rw[show x=y from e]) a b h
  exact (gy _ _ _ _ (List.mem_map_of_mem (f:=fun p:Nat×Nat=>(p.2,p.1)) hp)).symm
theorem Ab (row:List Tl)(t:Tl):cS (row++[t])=jn (cS row) t.2.1 t.1:=by
 unfold cS wG GG uT
 rw[List.map_append,List.map_append,List.foldl_append];rfl
theorem re {n:Nat}(hn:n≤40){row:List Tl}(hr:∀t∈row,t.1<n/\t.2.1<n)(h60:row.length≤60){s0 s1:Option Sl}:∀(ts pre fx:List Tl) (z4 z5 z6:Option Sl),row=pre++ts++fx →
  ∃z4' z5' z6',bA (gw 2 (gC (gN 4) (gC (gw 2 (gC (gN 5) (gC (gN 6) g0))) g0))) cZ (cV pre.length (jD (uT ts))) [s0,s1,some (.val (.lst (ag ((List.range n).map (cS pre))))),some (.own (ag (bX row pre.length))),z4,z5,z6] =
   .nx [s0,s1,some (.val (.lst (ag ((List.range n).map (cS (pre++ts)))))),some (.own (ag (bX row (pre++ts).length))),z4',z5',z6']
 |[],pre,fx,z4,z5,z6,e0=>⟨z4,z5,z6,by rw[List.append_nil];rfl⟩
 |t::ts,pre,fx,z4,z5,z6,e0=>by
  have e1:row=(pre++[t])++ts++fx:=by rw[e0];simp
  have hm:t∈row:=by rw[e0];simp
  have e2:row=pre++(t::(ts++fx)):=by rw[e0];simp
  have et:row[pre.length]?=some t:=by rw[e2,List.getElem?_append_right (Nat.le_refl _),Nat.sub_self];rfl
  have etk:row.take pre.length=pre:=by rw[e2,List.take_left]
  have hpl:pre.length<row.length:=(List.getElem?_eq_some_iff.mp et).1
  obtain⟨rl,rn⟩:=iZ row pre.length
  obtain⟨hx,hy⟩:=hr t hm
  have pl:(pre++[t]).length=pre.length+1:=by rw[List.length_append];rfl
  have ea:pre++[t]++ts=pre++t::ts:=by simp
  obtain⟨z4',z5',z6',e⟩:=re hn hr h60 (s0:=s0) (s1:=s1) ts (pre++[t]) fx (some (.val (.int (pre.length:Nat)))) (some (.val (.int (t.1:Nat)))) (some (.val (.int (t.2.1:Nat)))) e1
  refine⟨z4',z5',z6',?_⟩
  rw[ea,pl,Ab] at e
  show bA _ _ (.tup [.int (pre.length:Nat),.tup [.int (t.1:Nat),.int (t.2.1:Nat)]]::cV (pre.length+1) (jD (uT ts))) _=_
  rw[cr]
  have ux:∀x,x<n->up ((List.range n).map (cS pre)) x=cS pre x:=fun x hx=>by
   unfold up
   rw[List.getD_eq_getElem?_getD,List.getElem?_map,List.getElem?_range hx];rfl
  have il:((List.range n).map (cS pre)).length=n:=by rw[List.length_map,List.length_range]
  have i1:L2.eI (ag ((List.range n).map (cS pre))) (t.1:Int)=some (.int (cS pre t.1:Nat)):=by rw[bM (by rw[il];exact hx),ux _ hx];rfl
  have i2:L2.eI (ag ((List.range n).map (cS pre))) (t.2.1:Int)=some (.int (cS pre t.2.1:Nat)):=by rw[bM (by rw[il];exact hy),ux _ hy];rfl
  have dd:decide ((cS pre t.1:Int)=(cS pre t.2.1:Int))=decide (cS pre t.1=cS pre t.2.1):=decide_eq_decide.mpr (by omega)
  by_cases q:cS pre t.1=cS pre t.2.1
  ·rw[jh et (by rw[etk];exact (yf pre _ _).mp q),zU q.symm] at e
   simp![cZ,aT,ak,aS,av,b5,al,aw,aE,aB,ai,bu,aQ,aN,br,bw,bv,bp,aP,aq,aM,ao,bq,aO,am,aj,aC,aA,az,aH,ah,b6,aR,aD,aG,aU,au,aF,bn,ay,bo,aL,bN,be,i1,i2,dd,decide_eq_true q]
   exact e
  ·rw[j9 et (by rw[etk];exact fun z=>q ((yf pre _ _).mpr z))] at e
   have hl2:(bX row pre.length).length≤100000:=by omega
   have g0:pT (gN 0) jk dX [none,some (.val (.lst (ag ((List.range n).map (cS pre))))),some (.val (.int (t.1:Nat))),some (.val (.int (t.2.1:Nat)))] (ag ((List.range n).map (cS pre)))=some (ag ((List.range n).map (jn (cS pre) t.2.1 t.1))):=by
    rw[po (fun c=>.int ((if c=cS pre t.2.1 then cS pre t.1 else c:Nat):Int)) fun c hc=>?_]
    ·unfold ag
     rw[List.map_map,List.map_map]
     refine congrArg some (List.map_congr_left fun v _=>?_)
     show PV.int ((if cS pre v=cS pre t.2.1 then cS pre t.1 else cS pre v:Nat):Int)=PV.int ((jn (cS pre) t.2.1 t.1 v:Nat):Int)
     rfl
    ·have d2:decide ((c:Int)=(cS pre t.2.1:Int))=decide (c=cS pre t.2.1):=decide_eq_decide.mpr (by omega)
     by_cases z:c=cS pre t.2.1
     ·simp![dX,i1,i2,d2,decide_eq_true z,DS,if_pos z]
     ·simp![dX,i1,i2,d2,decide_eq_false z,DS,if_neg z,Bool.false_eq_true,if_false]
   have nl:(ag ((List.range n).map (cS pre))).length<1000:=by rw[b9,il];omega
   simp![cZ,aT,ak,aS,av,b5,al,aw,aE,aB,ai,bu,aQ,aN,br,bw,bv,bp,aP,aq,aM,ao,bq,aO,am,aj,aC,aA,az,aH,ah,b6,aR,aD,aG,aU,au,aF,bn,ay,bo,aL,bN,be,i1,i2,dd,decide_eq_false q,b9,if_pos hl2,dE,List.length_map,List.length_range,if_pos (show n<1000 by omega),g0]
   exact e
theorem zP {n:Nat}(hn:n≤40){row:List Tl}(hr:∀t∈row,t.1<n/\t.2.1<n)(h60:row.length≤60){k:Nat}(hk:k≤row.length):eQ [.int (n:Nat),.lst (jD (uT (row.take k)))]=some (.n (ag (bX row k))):=by
 obtain⟨z4,z5,z6,e⟩:=re hn hr h60 (s0:=some (.val (.int (n:Nat)))) (s1:=some (.val (.lst (jD (uT (row.take k)))))) (row.take k) [] (row.drop k) none none none (by simp)
 rw[List.nil_append,List.length_take,Nat.min_eq_left hk] at e
 have e0:(List.range n).map (cS [])=List.range n:=List.map_id _
 rw[e0] at e
 have e':bA (gw 2 (gC (gN 4) (gC (gw 2 (gC (gN 5) (gC (gN 6) g0))) g0))) cZ (cV 0 (jD (uT (row.take k)))) [some (.val (.int (n:Nat))),some (.val (.lst (jD (uT (row.take k))))),some (.val (.lst (ag (List.range n)))),some (.own []),none,none,none]=_:=e
 simp![m9,g9,dX,cZ,aT,ak,aS,av,b5,al,aw,aE,aB,ai,bu,aQ,aN,br,bw,bv,bp,aP,aq,aM,ao,bq,aO,am,aj,aC,aA,az,aH,ah,b6,aR,aD,aG,aU,au,aF,bn,ay,bo,aL,bN,be,K1 (n:=n) (by omega),e']
noncomputable def Fw (S:List Sg):Nat->List (PV×Nat)->Prop
 |_,[]=>True
 |a,(l,e)::ps=>(a,e,l)∈S/\Fw S e ps
noncomputable def mK:Nat->List (PV×Nat)->Nat
 |a,[]=>a
 |_,(_,e)::ps=>mK e ps
theorem Fw.snoc {S:List Sg}{l:PV}{e:Nat}:∀{ps:List (PV×Nat)} {a:Nat},Fw S a ps->(mK a ps,e,l)∈S->Fw S a (ps++[(l,e)])
 |[],_,_,h=>⟨h,trivial⟩
 |(_,_)::_,_,⟨h1,h2⟩,h=>⟨h1,Fw.snoc h2 h⟩
theorem mn {l:PV}{e:Nat}:∀{ps:List (PV×Nat)} {a:Nat},mK a (ps++[(l,e)])=e
 |[],_=>rfl
 |(_,_)::ps,_=>mn (ps:=ps)
theorem Trk.fw {S:List Sg}{x e:Nat}{r:List PV}{vs:List Nat}(t:Trk S x e r vs):∃ps:List (PV×Nat),r=ps.map (·.1)/\vs=x::ps.map (·.2)/\Fw S x ps/\mK x ps=e:=by
 induction t with
 |nil=>exact⟨[],rfl,rfl,trivial,rfl⟩
 | @snoc a e l r vs t q ih=>
  obtain⟨ps,h1,h2,h3,h4⟩:=ih
  refine⟨ps++[(l,e)],by rw[h1,List.map_append];rfl,by rw[h2,List.map_append];rfl,h3.snoc (by rw[h4];exact q),mn⟩
theorem uX (j:Nat)(l:List Nat):pin (.int (j:Int)) (ag l)=decide (j∈l):=qz j l
theorem qv {n:Nat}{row:List Tl}{js:List Nat}(hj:∀j∈js,j<row.length){s0 s1 s3 s4 s5 s6 s7:Option Sl}:∀(ps:List (PV×Nat)) (a:Nat) (G:List Nat) (c:Int) (z12 z13 z14 z15:Option Sl),Fw (bc row js) a ps->G.length+ps.length≤1000->(∀v∈ps.map (·.2),v∉G)->(ps.map (·.2)).Nodup →
  ∃G' z12' z13' z14' z15',bA (gN 12) bT (ps.map (·.1)) [s0,s1,some (.val (bg row)),s3,s4,s5,s6,s7,some (.val (.lst (ag js))),some (.val (.int (a:Nat))),some (.val (.lst (ag G))),some (.val (.int c)),z12,z13,z14,z15] =
   .nx [s0,s1,some (.val (bg row)),s3,s4,s5,s6,s7,some (.val (.lst (ag js))),some (.val (.int (mK a ps:Nat))),some (.val (.lst (ag G'))),some (.val (.int (c+((ps.map (·.1)).map (jQ row)).sum))),z12',z13',z14',z15']
 |[],a,G,c,z12,z13,z14,z15,_,_,_,_=>⟨G,z12,z13,z14,z15,by rw[List.map_nil,e8,List.map_nil,List.sum_nil,Int.add_zero];rfl⟩
 |(l,e)::ps,a,G,c,z12,z13,z14,z15,⟨hs,hf⟩,hl,hg,hn=>by
  rw[List.length_cons] at hl
  obtain⟨j,s,t,hjm,et,rfl,hd⟩:=fN hs
  have hn:=List.nodup_cons.mp hn
  have ng:e∉G:=hg e List.mem_cons_self
  have i0:∀a b:PV,L2.eI [a,b] 0=some a:=fun a b=>rfl
  have i1:∀a b:PV,L2.eI [a,b] 1=some b:=fun a b=>rfl
  have c2:decide (((2:Nat):Int)=2)=true:=rfl
  have w0:∀i:Int,cs [.int i]=some (.v (.bl true)):=fun i=>by simp![iT,eW]
  have g0:pT (gN 0) jk ce [none] [.int (j:Nat),.int s]=some ([PV.int (j:Nat),.int s].map fun _=>.bl true):=by
   refine pg (fun _=>.bl true) fun p hp=>?_
   rcases List.mem_cons.mp hp with rfl|hp
   ·simp![ce,w0]
   ·rw[List.mem_singleton.mp hp];simp![ce,w0]
  have bt:DE [PV.bl true,.bl true]=some [true,true]:=rfl
  have at':[true,true].all id=true:=rfl
  have p1:pin (.int s) [.int 1,.int (-1)]=true:=by
   unfold pin
   rw[List.any_cons,List.any_cons,List.any_nil,jT,jT]
   rcases hd with ⟨rfl,_⟩|⟨rfl,_⟩<;>rfl
  have pj:=uX j js
  rw[decide_eq_true hjm] at pj
  have pe:=uX e G
  rw[decide_eq_false ng] at pe
  have Gl:G.length≤99999:=by omega
  have eG:ag G++[.int (e:Nat)]=ag (G++[e]):=dE G e
  obtain⟨G',z12',z13',z14',z15',eq⟩:=qv (n:=n) hj (s0:=s0) (s1:=s1) (s3:=s3) (s4:=s4) (s5:=s5) (s6:=s6) (s7:=s7) ps e (G++[e]) (c+t.2.2 * s) (some (.val (sQ j s))) (some (.val (.int (a:Nat)))) (some (.val (.int (e:Nat)))) (some (.val (.int (t.2.2 * s)))) hf (by rw[List.length_append,List.length_singleton];omega) (fun v hv hv'=>by
   rcases List.mem_append.mp hv' with h|h
   ·exact hg v (List.mem_cons_of_mem _ hv) h
   ·rw[List.mem_singleton.mp h] at hv;exact hn.1 hv) hn.2
  refine⟨G',z12',z13',z14',z15',?_⟩
  rw[List.map_cons,cr,List.map_cons,List.sum_cons,wE et,←Int.add_assoc]
  show _=Out.nx [s0,s1,some (.val (bg row)),s3,s4,s5,s6,s7,some (.val (.lst (ag js))),some (.val (.int (mK e ps:Nat))),_,_,_,_,_,_]
  rcases hd with ⟨rfl,rfl,rfl⟩|⟨rfl,rfl,rfl⟩
  ·rw[Int.mul_one] at eq
   have dn:decide ((1:Int) = -1)=false:=rfl
   have dt:decide ((t.1:Int)=(t.1:Int))=true:=decide_eq_true rfl
   rw[Int.mul_one]
   simp![sQ,bg,bT,aT,ak,aS,av,b5,al,aw,aE,aB,ai,bu,aQ,aN,br,bw,bv,bp,aP,aq,aM,ao,bq,aO,am,aj,aC,aA,az,aH,ah,b6,aR,aD,aG,aU,au,aF,bn,ay,bo,aL,bN,be,i0,i1,c2,g0,bt,at',pj,p1,pe,gf,ic,kB et,eM,dn,dt,eG,b9,if_pos Gl,List.length_map]
   exact eq
  ·have dn:decide ((-1:Int) = -1)=true:=rfl
   have dt:decide ((t.2.1:Int)=(t.2.1:Int))=true:=decide_eq_true rfl
   have zz:(0:Int) - t.2.2=t.2.2 * -1:=by omega
   simp![sQ,bg,bT,aT,ak,aS,av,b5,al,aw,aE,aB,ai,bu,aQ,aN,br,bw,bv,bp,aP,aq,aM,ao,bq,aO,am,aj,aC,aA,az,aH,ah,b6,aR,aD,aG,aU,au,aF,bn,ay,bo,aL,bN,be,i0,i1,c2,g0,bt,at',pj,p1,pe,gf,ic,kB et,eM,dn,dt,eG,b9,if_pos Gl,List.length_map,zz]
   exact eq
theorem rR {α:Type}(l:List α){k:Nat}(hk:k≤l.length):jv l none (some (k:Int))=l.take k:=by
 unfold jv
 have e1:HT.sIx l.length 0 none=0:=rfl
 have e2:HT.sIx l.length l.length (some (k:Int))=k:=by unfold HT.sIx;simp only[];split<;>omega
 rw[e1,e2,List.drop_zero,Nat.sub_zero]
theorem yu {m k:Nat}(hk:k<m):¬(HT.sIx m 0 none=0/\HT.sIx m m (some (k:Int))=m):=by
 rintro⟨_,h⟩
 have e2:HT.sIx m m (some (k:Int))=k:=by unfold HT.sIx;simp only[];split<;>omega
 omega
theorem Cp {n:Nat}(hn:n≤40){R:Nat}{row:List Tl}(hr:∀t∈row,t.1<n/\t.2.1<n)(h60:row.length≤60){k:Nat}{t:Tl}(et:row[k]?=some t){r:List PV}{vs:List Nat}(tr:Trk (bc row (bX row k)) t.1 t.2.1 r vs)(vn:vs.Nodup)(nb:eH R (r.map (jQ row)).sum≠eH R t.2.2)(hrl:r.length<n) :
  cG [.int (n:Nat),.int (R:Nat),bg row,.int (k:Nat),.tup r]=some (.v (.bl true)):=by
 have hk:k<row.length:=(List.getElem?_eq_some_iff.mp et).1
 obtain⟨rl,rn⟩:=iZ row k
 obtain⟨ps,h1,h2,h3,h4⟩:=tr.fw
 subst h1 h2
 have vn:=List.nodup_cons.mp vn
 rw[List.length_map] at hrl
 obtain⟨G',z12,z13,z14,z15,e⟩:=qv (n:=n) (row:=row) (js:=bX row k) (fun j hj=>by have:=rl j hj;omega) (s0:=some (.val (.int (n:Nat)))) (s1:=some (.val (.int (R:Nat)))) (s3:=some (.val (.int (k:Nat)))) (s4:=some (.val (.tup (ps.map (·.1))))) (s5:=some (.val (.int (t.1:Nat)))) (s6:=some (.val (.int (t.2.1:Nat)))) (s7:=some (.val (.int t.2.2))) ps t.1 [t.1] 0 none none none none h3 (by simp;omega) (fun v hv=>by
  intro q
  rw[List.mem_singleton.mp q] at hv
  exact vn.1 hv) vn.2
 have g0:pT (gN 0) jk cL [none] ((row.take k).map eM)=some (jD (uT (row.take k))):=by
  rw[pg (fun p=>match p with|.tup [a,b,_]=>.tup [a,b]|p=>p) fun p hp=>?_]
  ·unfold jD uT;rw[List.map_map,List.map_map];rfl
  ·obtain⟨u,hu,rfl⟩:=List.mem_map.mp hp
   simp![eM,cL,if_neg AB,Az]
 have ec:jv (row.map eM) none (some (k:Int))=(row.take k).map eM:=by rw[rR _ (by rw[List.length_map];omega),List.map_take]
 have tl:((row.take k).map eM).length<1000:=by rw[List.length_map,List.length_take];omega
 have tl2:min k row.length<1000:=by omega
 have er:=zP hn hr h60 (Nat.le_of_lt hk)
 have nb2:decide (eH R (((ps.map (·.1)).map (jQ row)).sum - t.2.2)=0)=false:=decide_eq_false fun z=>by
  have k1:=@gF R (((ps.map (·.1)).map (jQ row)).sum - t.2.2)
  rw[z] at k1
  refine nb (gt ?_)
  have:=Int.dvd_neg.mpr k1
  rwa [show -(0 - (((ps.map (·.1)).map (jQ row)).sum - t.2.2))=((ps.map (·.1)).map (jQ row)).sum - t.2.2 by omega] at this
 have dl:decide (((mK t.1 ps:Nat):Int)=(t.2.1:Int))=true:=decide_eq_true (by rw[h4])
 unfold bg at e
 rw[Int.zero_add] at e
 have e':bA (gN 12) bT (ps.map (·.1)) [some (.val (.int (n:Nat))),some (.val (.int (R:Nat))),some (.val (.tup (row.map eM))),some (.val (.int (k:Nat))),some (.val (.tup (ps.map (·.1)))),some (.val (.int (t.1:Nat))),some (.val (.int (t.2.1:Nat))),some (.val (.int t.2.2)),some (.val (.lst (ag (bX row k)))),some (.val (.int (t.1:Nat))),some (.val (.lst [.int (t.1:Nat)])),some (.val (.int 0)),none,none,none,none]=_:=e
 simp![jr,eC,cL,ce,bT,bg,aT,ak,aS,av,b5,al,aw,aE,aB,ai,bu,aQ,aN,br,bw,bv,bp,aP,aq,aM,ao,bq,aO,am,aj,aC,aA,az,aH,ah,b6,aR,aD,aG,aU,au,aF,bn,ay,bo,aL,bN,be,kB et,eM,List.length_map,if_neg (yu hk),ec,List.length_take,if_pos tl2,g0,er,e',dl,kS,nb2]
theorem zQ {row:List Tl}{k:Nat}(hk:k<row.length){t:Tl}:row.take k++[t]++row.drop (k+1)=row.set k t:=by
 rw[List.set_eq_take_append_cons_drop,if_pos hk,List.append_assoc];rfl
theorem n8:∀row:List Tl,aW (row.map eM)=true/\cJ (row.map eM)≤1
 |[]=>⟨by rw[List.map_nil,aW],by rw[List.map_nil,cJ];omega⟩
 |t::row=>by
  obtain⟨h1,h2⟩:=n8 row
  have d:lr (eM t)=1:=by unfold eM;rw[lr,cJ,cJ,cJ,cJ,lr,lr,lr]<;>simp
  have p:bL (eM t)=true:=by unfold eM;rw[bL,aW,aW,aW,aW,bL,bL,bL];rfl
  exact⟨by rw[List.map_cons,aW,h1,p];rfl,by rw[List.map_cons,cJ,d];omega⟩
theorem om {n R:Nat}{xs:List Nat}(hx:xs.length=9):∀(m k:Nat) (row:List Tl) (z3 z4 z5 z6 z7 z8:Option Sl),k+m≤4->row.length≤60->(∀t∈row,t.1<n/\t.2.1<n) →
  ∃row':List Tl,row'.length≤60/\(∀t∈row',t.1<n/\t.2.1<n)/\((∃w3 w4 w5 w6 w7 w8,bA (gN 3) bH (ag ((List.range m).map (k + ·))) [some (.val (bg row)),some (.val (.int (R:Nat))),some (.val (.lst (ag xs))),z3,z4,z5,z6,z7,z8]=.nx [some (.val (bg row')),some (.val (.int (R:Nat))),some (.val (.lst (ag xs))),w3,w4,w5,w6,w7,w8]) ∨
   (∃ρ',bA (gN 3) bH (ag ((List.range m).map (k + ·))) [some (.val (bg row)),some (.val (.int (R:Nat))),some (.val (.lst (ag xs))),z3,z4,z5,z6,z7,z8]=.rt (bg row') ρ'))
 |0,k,row,z3,z4,z5,z6,z7,z8,_,hl,hr=>⟨row,hl,hr,.inl ⟨z3,z4,z5,z6,z7,z8,by rw[List.range_zero,List.map_nil,show ag []=[] from rfl,e8]⟩⟩
 |m+1,k,row,z3,z4,z5,z6,z7,z8,hm,hl,hr=>by
  have elist:(List.range (m+1)).map (k + ·)=k::(List.range m).map (k+1 + ·):=by
   rw[List.range_succ_eq_map,List.map_cons,List.map_map]
   show (k+0)::_=_
   rw[Nat.add_zero]
   exact congrArg (List.cons k) (List.map_congr_left fun m _=>by show k+(m+1)=k+1+m;omega)
  rw[elist,eA]
  cases row with
  |nil=>
   refine⟨[],by simp,fun _ h=>(by cases h),.inr ⟨[some (.val (bg [])),some (.val (.int (R:Nat))),some (.val (.lst (ag xs))),some (.val (.int (k:Nat))),z4,z5,z6,z7,z8],?_⟩⟩
   rw[cr]
   have p0:bL (.tup [])=true:=rfl
   simp![bH,bg,aT,ak,aS,av,b5,al,aw,aE,aB,ai,bu,aQ,aN,br,bw,bv,bp,aP,aq,aM,ao,bq,aO,am,aj,aC,aA,az,aH,ah,b6,aR,aD,aG,aU,au,aF,bn,ay,bo,aL,bN,be,List.map_nil]
  |cons t0 row0=>
   generalize hrow:t0::row0=row at *
   have h0:0<row.length:=by rw[←hrow];simp
   have ne:∃p ps,row.map eM=p::ps:=by rw[←hrow];exact⟨_,_,rfl⟩
   have i1:L2.eI (ag xs) (1+2 * (k:Int))=some (.int (up xs (1+2 * k):Nat)):=bM (x:=1+2 * k) (by omega)
   have i2:L2.eI (ag xs) (2+2 * (k:Int))=some (.int (up xs (2+2 * k):Nat)):=bM (x:=2+2 * k) (by omega)
   have pm:(0:Int)<(row.length:Int):=by omega
   have em:(up xs (1+2 * k):Int) % (row.length:Int)=((up xs (1+2 * k) % row.length:Nat):Int):=rfl
   have lt:up xs (1+2 * k) % row.length<row.length:=Nat.mod_lt _ h0
   generalize up xs (1+2 * k) % row.length=at' at em lt
   obtain⟨t,et⟩:∃t,row[at']?=some t:=⟨_,List.getElem?_eq_getElem lt⟩
   obtain⟨d,ed⟩:∃d:Int,L2.eI [PV.int 1,.int (-1),.int (1+(up xs (2+2 * k):Int) % 1000),.int (if (R:Int) > 1 then (R:Int) else 1),.int (0 - t.2.2)] ((up xs (2+2 * k):Int) / 1000 % 5)=some (.int d):=by
    have e5:(up xs (2+2 * k):Int) / 1000 % 5=((up xs (2+2 * k) / 1000 % 5:Nat):Int):=rfl
    rw[e5]
    have:up xs (2+2 * k) / 1000 % 5<5:=Nat.mod_lt _ (by decide)
    generalize up xs (2+2 * k) / 1000 % 5=q at this
    have:q=0\/q=1\/q=2\/q=3\/q=4:=by omega
    rcases this with rfl|rfl|rfl|rfl|rfl<;>exact⟨_,rfl⟩
   obtain⟨row',a1,a2,a3⟩:=om (n:=n) (R:=R) hx m (k+1) (row.set at' (t.1,t.2.1,t.2.2+d)) (some (.val (.int (k:Nat)))) (some (.val (.int (at':Nat)))) (some (.val (.int (t.1:Nat)))) (some (.val (.int (t.2.1:Nat)))) (some (.val (.int t.2.2))) (some (.val (.int d))) (by omega) (by rw[List.length_set];exact hl) (fun u hu=>by
    rcases List.mem_or_eq_of_mem_set hu with hu|hu
    ·exact hr u hu
    ·rw[hu];exact hr t (List.mem_of_getElem? et))
   refine⟨row',a1,a2,?_⟩
   have ec1:jv (row.map eM) none (some (at':Int))=(row.take at').map eM:=by rw[rR _ (by rw[List.length_map];omega),List.map_take]
   have ec2:jv (row.map eM) (some ((at':Int)+1)) none=(row.drop (at'+1)).map eM:=by
    rw[show (at':Int)+1=((at'+1:Nat):Int) from rfl,qq,List.map_drop]
   have sx:¬(HT.sIx row.length 0 (some ((at':Int)+1))=0/\HT.sIx row.length row.length none=row.length):=by
    rintro⟨h,_⟩
    have:HT.sIx row.length 0 (some ((at':Int)+1))=at'+1:=by unfold HT.sIx;simp only[];split<;>omega
    omega
   have ers:(row.take at').map eM++[.tup [.int (t.1:Nat),.int (t.2.1:Nat),.int (t.2.2+d)]]++(row.drop (at'+1)).map eM=(row.set at' (t.1,t.2.1,t.2.2+d)).map eM:=by
    rw[←zQ lt,List.map_append,List.map_append];rfl
   have n1:(List.take at' row).length+1≤100000:=by rw[List.length_take];omega
   have n1':min at' row.length≤99999:=by omega
   have n2:min at' row.length+1+(row.length - (at'+1))≤100000:=by omega
   have m2:((2:Int).natAbs<2 ^ 64\/(k:Int).natAbs<2 ^ 64):=.inl (by decide)
   obtain⟨pl,dl'⟩:=n8 row
   have dl:decide (cJ (row.map eM)≤49)=true:=decide_eq_true (by omega)
   have body:bH [some (.val (bg row)),some (.val (.int (R:Nat))),some (.val (.lst (ag xs))),some (.val (.int (k:Nat))),z4,z5,z6,z7,z8]=.nx [some (.val (bg (row.set at' (t.1,t.2.1,t.2.2+d)))),some (.val (.int (R:Nat))),some (.val (.lst (ag xs))),some (.val (.int (k:Nat))),some (.val (.int (at':Nat))),some (.val (.int (t.1:Nat))),some (.val (.int (t.2.1:Nat))),some (.val (.int t.2.2)),some (.val (.int d))]:=by
    have pq:gd (row.map eM) []=false:=by obtain⟨p,ps,e⟩:=ne;rw[e];rfl
    simp![bg,bH,aT,ak,aS,av,b5,al,aw,aE,aB,ai,bu,aQ,aN,br,bw,bv,bp,aP,aq,aM,ao,bq,aO,am,aj,aC,aA,az,aH,ah,b6,aR,aD,aG,aU,au,aF,bn,ay,bo,aL,bN,be,pl,dl,pq,if_pos m2,i1,i2,if_pos pm,em,kB et,eM,ed,List.length_map,if_neg (yu lt),if_neg sx,ec1,ec2,List.length_append,List.length_take,List.length_drop,if_pos n1',if_pos n2,ers]
   rcases a3 with ⟨w3,w4,w5,w6,w7,w8,e⟩|⟨ρ',e⟩
   ·refine .inl ⟨w3,w4,w5,w6,w7,w8,?_⟩
    rw[cr]
    show jW (bH [some (.val (bg row)),some (.val (.int (R:Nat))),some (.val (.lst (ag xs))),some (.val (.int (k:Nat))),z4,z5,z6,z7,z8]) _ _ _=_
    rw[body,ja];exact e
   ·refine .inr ⟨ρ',?_⟩
    rw[cr]
    show jW (bH [some (.val (bg row)),some (.val (.int (R:Nat))),some (.val (.lst (ag xs))),some (.val (.int (k:Nat))),z4,z5,z6,z7,z8]) _ _ _=_
    rw[body,ja];exact e
theorem ym {n R:Nat}{xs:List Nat}(hx:xs.length=9){row:List Tl}(hl:row.length≤60)(hr:∀t∈row,t.1<n/\t.2.1<n):∃row':List Tl,row'.length≤60/\(∀t∈row',t.1<n/\t.2.1<n)/\eJ [bg row,.int (R:Nat),.lst (ag xs)]=some (.v (bg row')):=by
 have i0:L2.eI (ag xs) 0=some (.int (up xs 0:Nat)):=bM (x:=0) (by omega)
 have em:(up xs 0:Int) % 5=((up xs 0 % 5:Nat):Int):=rfl
 have lt:up xs 0 % 5<5:=Nat.mod_lt _ (by decide)
 generalize up xs 0 % 5=q at em lt
 obtain⟨row',a1,a2,a3⟩:=om (n:=n) (R:=R) hx q 0 row none none none none none none (by omega) hl hr
 rw[show ((List.range q).map fun m=>0+m)=List.range q by rw[List.map_congr_left fun x _=>Nat.zero_add x];exact List.map_id _] at a3
 refine⟨row',a1,a2,?_⟩
 unfold bg at a3
 rcases a3 with ⟨w3,w4,w5,w6,w7,w8,e⟩|⟨ρ',e⟩<;>simp![kU,gj,bH,bg,i0,em,(K1 (n:=q) (by omega)).1,e]
end Dp
end
section
namespace K46
open PySem PySem.Spec L2 Fo Dp Pt
theorem td {n:Nat}{s0 s1 s2:Option Sl}(e0:s0=some (.val (.int (n:Nat))))(e2:s2=some (.val (.fn "is_telling"))):∀(ts:List Tl) (k:Nat) (z3 z4:Option Sl),(∀t∈ts,t.1<n/\t.2.1<n) →
  ∃z3' z4',bA (gw 2 (gC (gN 3) (gC (gN 4) g0))) eX (cV k (ts.map eM)) [s0,s1,s2,z3,z4]=.nx [s0,s1,s2,z3',z4']
 |[],k,z3,z4,_=>⟨z3,z4,rfl⟩
 |t::ts,k,z3,z4,h=>by
  obtain⟨hx,hy⟩:=h t List.mem_cons_self
  obtain⟨z3',z4',e⟩:=td (s1:=s1) e0 e2 ts (k+1) (some (.val (.int (k:Nat)))) (some (.val (eM t))) fun u hu=>h u (List.mem_cons_of_mem _ hu)
  refine⟨z3',z4',?_⟩
  show bA _ _ (.tup [.int (k:Nat),eM t]::cV (k+1) (ts.map eM)) _=_
  rw[cr]
  subst e0 e2
  simp![eX,xq,zZ,HM,rj hx hy]
  exact e
theorem AN {n:Nat}{row:List Tl}(hr:∀t∈row,t.1<n/\t.2.1<n):eU [.int (n:Nat),bg row,.fn "is_telling"]=some (.v .non):=by
 obtain⟨z3,z4,e⟩:=td (s1:=some (.val (bg row))) rfl rfl row 0 none none hr
 unfold bg at e
 simp![nq,g6,eX,bg,e]
theorem vx {n:Nat}(h1:1≤n)(hn:n≤40){R:Nat}(hR:R=0\/2≤R/\R≤1000){h:Nat->Int}{row:List Tl}(hr:∀t∈row,t.1<n/\t.2.1<n)(hc:∀t∈row,dF R h t)(h60:row.length≤60):fL [.int (n:Nat),.int (R:Nat),bg row]=some (.v (.tup [.str "fits",sN n R h row])):=by
 obtain⟨js,eg,hj,jl,ha⟩:=Cg hn hr hc h60
 have es:=oP (row:=row) (js:=js) hj (by omega)
 have g0:pT (gN 0) jk ff [none,some (.val (.int (R:Nat))),some (.val (bg row)),some (.val (.lst ((bc row js).map mo)))] (ag (List.range n))=some ((List.range n).map fun v=>.int (eH R (h v - h (cW row v)))):=by
  refine po (fun v=>.int (eH R (h v - h (cW row v)))) fun v hv=>?_
  simp![ff,sg hn hr hc ha (List.mem_range.mp hv)]
 simp![kT,gY,ff,dJ,bU,uC h1 hn,pX hR,AN hr,eg,es,(K1 (n:=n) (by omega)).1,List.length_range,if_pos (show n<1000 by omega),g0,sN]
theorem AC {n:Nat}(h1:1≤n)(hn:n≤40){R:Nat}(hR:R=0\/2≤R/\R≤1000){row:List Tl}(hr:∀t∈row,t.1<n/\t.2.1<n){js:List Nat}{k:Nat}{r:List PV}(eg:cf [.int (R:Nat),bg row]=some (.v (.tup [.lst (ag js),.tup [.str "clash",.int (k:Nat),.tup r]]))):fL [.int (n:Nat),.int (R:Nat),bg row]=some (.v (.tup [.str "clash",.int (k:Nat),.tup r])):=by
 simp![kT,gY,ff,dJ,bU,uC h1 hn,pX hR,AN hr,eg]
theorem iM (l:List Int):aW (l.map PV.int)=true/\cJ (l.map PV.int)=0:=by
 induction l with
 |nil=>exact⟨by rw[List.map_nil,aW],by rw[List.map_nil,cJ]⟩
 |cons i l ih=>rw[List.map_cons];exact⟨by rw[aW,ih.1];rfl,by rw[cJ,ih.2];rfl⟩
theorem yz {n R:Nat}{h:Nat->Int}{row:List Tl}:sN n R h row=.tup (((List.range n).map fun v=>eH R (h v - h (cW row v))).map PV.int):=by
 unfold sN;rw[List.map_map];rfl
theorem vB (l:List Int):aW (l.map PV.int)=true/\cJ (l.map PV.int)=0/\gd (l.map PV.int) (l.map PV.int)=true:=⟨(iM l).1,(iM l).2,ji (iM l).1⟩
theorem wd (i:Int):cs [.int i]=some (.v (.bl true)):=by
 simp![iT,eW]
theorem og {R:Nat}{row:List Tl}{k j:Nat}(h:j≤k):gE R (row.take k)->gE R (row.take j):=fun ⟨h',hh⟩=>⟨h',fun t ht=>hh t (List.take_subset_take_left _ h ht)⟩
theorem oi {n:Nat}(h1:1≤n)(hn:n≤40){R:Nat}{row:List Tl}(hr:∀t∈row,t.1<n/\t.2.1<n):∀(m k:Nat) (z3:Option Sl),k+m=row.length->gE R (row.take k) →
  (gE R row/\∃w3,bA (gN 3) bP (ag ((List.range m).map (k + ·))) [some (.val (.int (n:Nat))),some (.val (.int (R:Nat))),some (.val (bg row)),z3]=.nx [some (.val (.int (n:Nat))),some (.val (.int (R:Nat))),some (.val (bg row)),w3]) ∨
  (∃j ρ',¬gE R (row.take (j+1))/\gE R (row.take j)/\bA (gN 3) bP (ag ((List.range m).map (k + ·))) [some (.val (.int (n:Nat))),some (.val (.int (R:Nat))),some (.val (bg row)),z3]=.rt (.int (j:Nat)) ρ')
 |0,k,z3,e,c=>.inl ⟨by rw[List.take_of_length_le (by omega)] at c;exact c,z3,by rw[List.range_zero,List.map_nil,show ag []=[] from rfl,e8]⟩
 |m+1,k,z3,e,c=>by
  have elist:(List.range (m+1)).map (k + ·)=k::(List.range m).map (k+1 + ·):=by
   rw[List.range_succ_eq_map,List.map_cons,List.map_map]
   show (k+0)::_=_
   rw[Nat.add_zero]
   exact congrArg (List.cons k) (List.map_congr_left fun m _=>by show k+(m+1)=k+1+m;omega)
  rw[elist,eA,cr]
  have hk:k<row.length:=by omega
  have hrt:∀t∈row.take (k+1),t.1<n/\t.2.1<n:=fun t ht=>hr t (List.mem_of_mem_take ht)
  have ec:jv (row.map eM) none (some ((k:Int)+1))=(row.take (k+1)).map eM:=by
   rw[show (k:Int)+1=((k+1:Nat):Int) from rfl,rR _ (by rw[List.length_map];omega),List.map_take]
  by_cases q:gE R (row.take (k+1))
  ·obtain⟨h,hc⟩:=id q
   have ed:=AX h1 hn hrt hc
   unfold bg sN at ed
   have body:lS (gN 3 (nI k) [some (.val (.int (n:Nat))),some (.val (.int (R:Nat))),some (.val (bg row)),z3]) (gN 3) bP (ag ((List.range m).map (k+1 + ·)))=bA (gN 3) bP (ag ((List.range m).map (k+1 + ·))) [some (.val (.int (n:Nat))),some (.val (.int (R:Nat))),some (.val (bg row)),some (.val (.int (k:Nat)))]:=by
    simp![bP,bg,aT,ak,aS,av,b5,al,aw,aE,aB,ai,bu,aQ,aN,br,bw,bv,bp,aP,aq,aM,ao,bq,aO,am,aj,aC,aA,az,aH,ah,b6,aR,aD,aG,aU,au,aF,bn,ay,bo,aL,bN,be,qK,ec,ed]
   rw[body]
   exact oi h1 hn hr m (k+1) (some (.val (.int (k:Nat)))) (by omega) q
  ·have ed:=vi h1 hn hrt q
   unfold bg at ed
   refine .inr ⟨k,[some (.val (.int (n:Nat))),some (.val (.int (R:Nat))),some (.val (bg row)),some (.val (.int (k:Nat)))],q,c,?_⟩
   simp![bP,bg,aT,ak,aS,av,b5,al,aw,aE,aB,ai,bu,aQ,aN,br,bw,bv,bp,aP,aq,aM,ao,bq,aO,am,aj,aC,aA,az,aH,ah,b6,aR,aD,aG,aU,au,aF,bn,ay,bo,aL,bN,be,qK,ec,ed]
theorem Ar {n:Nat}(h1:1≤n)(hn:n≤40){R:Nat}{row:List Tl}(hr:∀t∈row,t.1<n/\t.2.1<n)(h60:row.length≤60):(gE R row/\d8 [.int (n:Nat),.int (R:Nat),bg row]=some (.v .non))\/∃j,¬gE R (row.take (j+1))/\gE R (row.take j)/\d8 [.int (n:Nat),.int (R:Nat),bg row]=some (.v (.int (j:Nat))):=by
 have:=oi h1 hn (R:=R) hr row.length 0 none (by omega) ⟨fun _=>0,fun _ h=>by rw[List.take_zero] at h;cases h⟩
 rw[show ((List.range row.length).map fun m=>0+m)=List.range row.length by rw[List.map_congr_left fun x _=>Nat.zero_add x];exact List.map_id _] at this
 have kk:=(K1 (n:=row.length) (by omega)).1
 unfold bg at this
 rcases this with ⟨c,w3,e⟩|⟨j,ρ',a,b,e⟩
 ·refine .inl ⟨c,?_⟩
  simp![iQ,eY,bP,bg,aT,ak,aS,av,b5,al,aw,aE,aB,ai,bu,aQ,aN,br,bw,bv,bp,aP,aq,aM,ao,bq,aO,am,aj,aC,aA,az,aH,ah,b6,aR,aD,aG,aU,au,aF,bn,ay,bo,aL,bN,be,List.length_map,kk,e]
 ·refine .inr ⟨j,a,b,?_⟩
  simp![iQ,eY,bP,bg,aT,ak,aS,av,b5,al,aw,aE,aB,ai,bu,aQ,aN,br,bw,bv,bp,aP,aq,aM,ao,bq,aO,am,aj,aC,aA,az,aH,ah,b6,aR,aD,aG,aU,au,aF,bn,ay,bo,aL,bN,be,List.length_map,kk,e]
theorem xM {ns:List Int}{k:Nat}(hk:k≤3){z2 z3 z4 z5 z6 z7:Option Sl}:∃w2 w3 w4 w5 w6 w7,ib [some (.val (.src (iL ns))),some (.val (.int (k:Nat))),z2,z3,z4,z5,z6,z7]=.nx [some (.val (.src (iL ns))),some (.val (.int (k:Nat))),w2,w3,w4,w5,w6,w7]\/ib [some (.val (.src (iL ns))),some (.val (.int (k:Nat))),z2,z3,z4,z5,z6,z7]=.ct [some (.val (.src (iL ns))),some (.val (.int (k:Nat))),w2,w3,w4,w5,w6,w7]:=by
 obtain⟨c,ec⟩:=jB ns (k:Int) (by omega) (by omega)
 obtain⟨xs,hx,ex⟩:=fP c 5 (by decide) (by decide)
 have hx:xs.length=5:=hx
 have i3:L2.eI (ag xs) 3=some (.int (up xs 3:Nat)):=bM (x:=3) (by omega)
 have i4:L2.eI (ag xs) 4=some (.int (up xs 4:Nat)):=bM (x:=4) (by omega)
 obtain⟨n,h1,hn,em⟩:=Ad (up xs 3)
 obtain⟨R,hR,er⟩:=xk (up xs 4)
 obtain⟨h0,row0,hr0,hc0,h600,ep⟩:=vQ ns (at':=k) h1 hn (R:=R) (by omega) (by omega)
 obtain⟨c2,ec2⟩:=jB ns ((k:Int)+50) (by omega) (by omega)
 obtain⟨ys,hy,ey⟩:=fP c2 9 (by decide) (by decide)
 obtain⟨row,h60,hr,esp⟩:=ym (n:=n) (R:=R) (xs:=ys) hy h600 hr0
 rcases Ar h1 hn (R:=R) hr h60 with ⟨⟨h,hc⟩,ef⟩|⟨j,nc,cj,ef⟩
 ·have ed:=AX h1 hn hr hc
  have eh:=vx h1 hn hR hr hc h60
  rw[yz] at ed eh
  generalize ((List.range n).map fun v=>eH R (h v - h (cW row v)))=l at ed eh
  obtain⟨p1,p2,p3⟩:=vB l
  have s0:decide (("fits" : Str) = "fits")=true:=decide_eq_true rfl
  refine⟨some (.val (.lst (ag xs))),some (.val (.int (n:Nat))),some (.val (.int (R:Nat))),some (.val (bg row)),some (.val .non),some (.val (.tup [.str "fits",.tup (l.map .int)])),.inr ?_⟩
  simp![ib,aT,ak,aS,av,b5,al,aw,aE,aB,ai,bu,aQ,aN,br,bw,bv,bp,aP,aq,aM,ao,bq,aO,am,aj,aC,aA,az,aH,ah,b6,aR,aD,aG,aU,au,aF,bn,ay,bo,aL,bN,be,ec,ex,i3,i4,em,er,ep,ec2,ey,esp,ef,ed,eh,p1,p2,p3,s0]
 ·obtain⟨k',t,r,vs,eg,et,ck,nck,tr,vn,nb,hrl⟩:=zy hn hr h60 (R:=R) fun c=>nc ((fun ⟨h',hh⟩=>⟨h',fun t ht=>hh t (List.mem_of_mem_take ht)⟩:gE R row->gE R (row.take (j+1))) c)
  have:j=k':=by
   rcases Nat.lt_trichotomy j k' with q|q|q
   ·exact absurd (og (by omega) ck) nc
   ·exact q
   ·exact absurd (og (by omega) cj) nck
  subst this
  have eh:=AC h1 hn hR hr eg
  have ering:=Cp hn hr h60 et tr vn nb hrl
  have a1:∀a b c:PV,L2.eI [a,b,c] 1=some b:=fun a b c=>rfl
  have a2:∀a b c:PV,L2.eI [a,b,c] 2=some c:=fun a b c=>rfl
  have c3:decide (((3:Nat):Int)=3)=true:=rfl
  have s0:decide (("clash" : Str) = "clash")=true:=decide_eq_true rfl
  have dj:decide ((j:Int)=(j:Int))=true:=decide_eq_true rfl
  refine⟨some (.val (.lst (ag xs))),some (.val (.int (n:Nat))),some (.val (.int (R:Nat))),some (.val (bg row)),some (.val (.int (j:Nat))),some (.val (.tup [.str "clash",.int (j:Nat),.tup r])),.inl ?_⟩
  simp![ib,aT,ak,aS,av,b5,al,aw,aE,aB,ai,bu,aQ,aN,br,bw,bv,bp,aP,aq,aM,ao,bq,aO,am,aj,aC,aA,az,aH,ah,b6,aR,aD,aG,aU,au,aF,bn,ay,bo,aL,bN,be,ec,ex,i3,i4,em,er,ep,ec2,ey,esp,ef,eh,c3,if_neg AB,Az,s0,dj,a1,a2,wd,ering]
theorem rb {ns:List Int}:∀(ks:List Nat) (z1 z2 z3 z4 z5 z6 z7:Option Sl),(∀k∈ks,k≤3)->∃w1 w2 w3 w4 w5 w6 w7,bA (gN 1) ib (ag ks) [some (.val (.src (iL ns))),z1,z2,z3,z4,z5,z6,z7]=.nx [some (.val (.src (iL ns))),w1,w2,w3,w4,w5,w6,w7]
 |[],z1,z2,z3,z4,z5,z6,z7,_=>⟨z1,z2,z3,z4,z5,z6,z7,rfl⟩
 |k::ks,z1,z2,z3,z4,z5,z6,z7,h=>by
  obtain⟨v2,v3,v4,v5,v6,v7,e1⟩:=xM (ns:=ns) (h k List.mem_cons_self) (z2:=z2) (z3:=z3) (z4:=z4) (z5:=z5) (z6:=z6) (z7:=z7)
  obtain⟨w1,w2,w3,w4,w5,w6,w7,e2⟩:=rb (ns:=ns) ks (some (.val (.int (k:Nat)))) v2 v3 v4 v5 v6 v7 fun u hu=>h u (List.mem_cons_of_mem _ hu)
  refine⟨w1,w2,w3,w4,w5,w6,w7,?_⟩
  rw[eA,cr,←e2]
  rcases e1 with e1|e1<;>simp![e1]
theorem xF:∀ns:List Int,ns.length≤63->uy [.src (ns.map PV.int)]=some (.v (.bl true)):=fun ns hn=>by
 obtain⟨j,j3,ej⟩:∃j:Nat,j≤3/\(if (if (3:Int)<((iL ns).length:Int) then (3:Int) else ((iL ns).length:Int)) > 1 then (if (3:Int)<((iL ns).length:Int) then (3:Int) else ((iL ns).length:Int)) else 1)=(j:Int):=by
  refine⟨(if (if (3:Int)<((iL ns).length:Int) then (3:Int) else ((iL ns).length:Int)) > 1 then (if (3:Int)<((iL ns).length:Int) then (3:Int) else ((iL ns).length:Int)) else 1).toNat,?_,?_⟩<;>split<;>split<;>omega
 obtain⟨w1,w2,w3,w4,w5,w6,w7,e⟩:=rb (ns:=ns) (List.range j) none none none none none none none (fun k hk=>by have:=List.mem_range.mp hk;omega)
 have r:sK [.int 0,.int (j:Nat)]=some (ag (List.range j)):=by
  have a:vk 0=true:=by decide
  have b:vk j=true:=by rw[yo,decide_eq_true (by omega),decide_eq_true (by omega)];rfl
  rw[yW,a,b,Int.sub_zero,Int.toNat_natCast,AH];rfl
 show uy [.src (iL ns)]=_
 simp![Aj,pp,ej,r,e]
end K46
end
section
namespace K46
open PySem L2 Dp
@[elab_as_elim] theorem nB {P:List Value->Prop}{us:List Value}(h:us.length=1)(k:∀a,P [a]):P us:=by
 obtain _|⟨_,us⟩:=us
 ·cases h
 obtain _|⟨_,us⟩:=us
 ·exact k _
 ·simp at h
@[elab_as_elim] theorem lA {P:List Value->Prop}{us:List Value}(h:us.length=2)(k:∀a b,P [a,b]):P us:=by
 obtain _|⟨_,us⟩:=us
 ·cases h
 obtain _|⟨_,us⟩:=us
 ·cases h
 obtain _|⟨_,us⟩:=us
 ·exact k _ _
 ·simp at h
@[elab_as_elim] theorem rL {P:List Value->Prop}{us:List Value}(h:us.length=3)(k:∀a b c,P [a,b,c]):P us:=by
 obtain _|⟨_,us⟩:=us
 ·cases h
 obtain _|⟨_,us⟩:=us
 ·cases h
 obtain _|⟨_,us⟩:=us
 ·cases h
 obtain _|⟨_,us⟩:=us
 ·exact k _ _ _
 ·simp at h
@[elab_as_elim] theorem CQ {P:List Value->Prop}{us:List Value}(h:us.length=4)(k:∀a b c d,P [a,b,c,d]):P us:=by
 obtain _|⟨_,us⟩:=us
 ·cases h
 obtain _|⟨_,us⟩:=us
 ·cases h
 obtain _|⟨_,us⟩:=us
 ·cases h
 obtain _|⟨_,us⟩:=us
 ·cases h
 obtain _|⟨_,us⟩:=us
 ·exact k _ _ _ _
 ·simp at h
@[elab_as_elim] theorem GY {P:List Value->Prop}{us:List Value}(h:us.length=5)(k:∀a b c d e,P [a,b,c,d,e]):P us:=by
 obtain _|⟨_,us⟩:=us
 ·cases h
 obtain _|⟨_,us⟩:=us
 ·cases h
 obtain _|⟨_,us⟩:=us
 ·cases h
 obtain _|⟨_,us⟩:=us
 ·cases h
 obtain _|⟨_,us⟩:=us
 ·cases h
 obtain _|⟨_,us⟩:=us
 ·exact k _ _ _ _ _
 ·simp at h
theorem C8 {l:PySem.W.OpenLaw}{w:World}{K:PySem.W.Frag}{h:Heap}{mg:Str->Option Value}{fa f0 f1 f2 f3 f4 f5 f6 f7 f8 f9 f10 f11 f12 f13 f14 f15 f16 f17 f18 f19 f20 f21 f22 f23 f24 f25 f26 f27 f28 f29 f30:Addr}(X:K.In h)(G:h.Ns mainGlobals mg)(hfa:mg "law" = some (.ref fa))
  {od0 an0 od1 an1 od2 an2 od3 an3 od4 an4 od5 an5 od6 an6 od7 an7 od8 an8 od9 an9 od10 an10 od11 an11 od12 an12 od13 an13 od14 an14 od15 an15 od16 an16 od17 an17 od18 an18 od19 an19 od20 an20 od21 an21 od22 an22 od23 an23 od24 an24 od25 an25 od26 an26 od27 an27 od28 an28 od29 an29 od30 an30:Option Addr} {sl0 sl1 sl2 sl3 sl4 sl5 sl6 sl7 sl8 sl9 sl10 sl11 sl12 sl13 sl14 sl15 sl16 sl17 sl18 sl19 sl20 sl21 sl22 sl23 sl24 sl25 sl26 sl27 sl28 sl29 sl30:Array (Option Value)} {oc0 kV0 dc0 pm0 cd0 ct0 oc1 kV1 dc1 pm1 cd1 ct1 oc2 kV2 dc2 pm2 cd2 ct2 oc3 kV3 dc3 pm3 cd3 ct3 oc4 kV4 dc4 pm4 cd4 ct4 oc5 kV5 dc5 pm5 cd5 ct5 oc6 kV6 dc6 pm6 cd6 ct6 oc7 kV7 dc7 pm7 cd7 ct7 oc8 kV8 dc8 pm8 cd8 ct8 oc9 kV9 dc9 pm9 cd9 ct9 oc10 kV10 dc10 pm10 cd10 ct10 oc11 kV11 dc11 pm11 cd11 ct11 oc12 kV12 dc12 pm12 cd12 ct12 oc13 kV13 dc13 pm13 cd13 ct13 oc14 kV14 dc14 pm14 cd14 ct14 oc15 kV15 dc15 pm15 cd15 ct15 oc16 kV16 dc16 pm16 cd16 ct16 oc17 kV17 dc17 pm17 cd17 ct17 oc18 kV18 dc18 pm18 cd18 ct18 oc19 kV19 dc19 pm19 cd19 ct19 oc20 kV20 dc20 pm20 cd20 ct20 oc21 kV21 dc21 pm21 cd21 ct21 oc22 kV22 dc22 pm22 cd22 ct22 oc23 kV23 dc23 pm23 cd23 ct23 oc24 kV24 dc24 pm24 cd24 ct24 oc25 kV25 dc25 pm25 cd25 ct25 oc26 kV26 dc26 pm26 cd26 ct26 oc27 kV27 dc27 pm27 cd27 ct27 oc28 kV28 dc28 pm28 cd28 ct28 oc29 kV29 dc29 pm29 cd29 ct29 oc30 kV30 dc30 pm30 cd30 ct30:Value}
  (a0:PySem.W.nsIn K mainGlobals "_law_numbers" = some (some (.ref f0))) (l0:K.lookup f0=some ⟨oc0,od0,.func (PySem.W.fnOf "_law_numbers" "_law_numbers" (bj cB) (aZ cB) (ae cB) .none kV0 dc0 pm0 an0 cd0 ct0),sl0⟩) (c0:PySem.W.codeIn K cd0 "_law_numbers" = true) (k0:PySem.W.keepIn K (.ref f0)=true)
  (a1:PySem.W.nsIn K mainGlobals "_law_spoilt" = some (some (.ref f1))) (l1:K.lookup f1=some ⟨oc1,od1,.func (PySem.W.fnOf "_law_spoilt" "_law_spoilt" (bj cO) (aZ cO) (ae cO) .none kV1 dc1 pm1 an1 cd1 ct1),sl1⟩) (c1:PySem.W.codeIn K cd1 "_law_spoilt" = true) (k1:PySem.W.keepIn K (.ref f1)=true)
  (a2:PySem.W.nsIn K mainGlobals "_law_by" = some (some (.ref f2))) (l2:K.lookup f2=some ⟨oc2,od2,.func (PySem.W.fnOf "_law_by" "_law_by" (bj fM) (aZ fM) (ae fM) .none kV2 dc2 pm2 an2 cd2 ct2),sl2⟩) (c2:PySem.W.codeIn K cd2 "_law_by" = true) (k2:PySem.W.keepIn K (.ref f2)=true)
  (a3:PySem.W.nsIn K mainGlobals "_law_due_heights" = some (some (.ref f3))) (l3:K.lookup f3=some ⟨oc3,od3,.func (PySem.W.fnOf "_law_due_heights" "_law_due_heights" (bj bS) (aZ bS) (ae bS) .none kV3 dc3 pm3 an3 cd3 ct3),sl3⟩) (c3:PySem.W.codeIn K cd3 "_law_due_heights" = true) (k3:PySem.W.keepIn K (.ref f3)=true)
  (a4:PySem.W.nsIn K mainGlobals "_law_first" = some (some (.ref f4))) (l4:K.lookup f4=some ⟨oc4,od4,.func (PySem.W.fnOf "_law_first" "_law_first" (bj de) (aZ de) (ae de) .none kV4 dc4 pm4 an4 cd4 ct4),sl4⟩) (c4:PySem.W.codeIn K cd4 "_law_first" = true) (k4:PySem.W.keepIn K (.ref f4)=true)
  (a5:PySem.W.nsIn K mainGlobals "is_whole" = some (some (.ref f5))) (l5:K.lookup f5=some ⟨oc5,od5,.func (PySem.W.fnOf "is_whole" "is_whole" (bj eK) (aZ eK) (ae eK) .none kV5 dc5 pm5 an5 cd5 ct5),sl5⟩) (c5:PySem.W.codeIn K cd5 "is_whole" = true) (k5:PySem.W.keepIn K (.ref f5)=true)
  (a6:PySem.W.nsIn K mainGlobals "is_many" = some (some (.ref f6))) (l6:K.lookup f6=some ⟨oc6,od6,.func (PySem.W.fnOf "is_many" "is_many" (bj fI) (aZ fI) (ae fI) .none kV6 dc6 pm6 an6 cd6 ct6),sl6⟩) (c6:PySem.W.codeIn K cd6 "is_many" = true) (k6:PySem.W.keepIn K (.ref f6)=true)
  (a7:PySem.W.nsIn K mainGlobals "check_many" = some (some (.ref f7))) (l7:K.lookup f7=some ⟨oc7,od7,.func (PySem.W.fnOf "check_many" "check_many" (bj dz) (aZ dz) (ae dz) .none kV7 dc7 pm7 an7 cd7 ct7),sl7⟩) (c7:PySem.W.codeIn K cd7 "check_many" = true) (k7:PySem.W.keepIn K (.ref f7)=true)
  (a8:PySem.W.nsIn K mainGlobals "check_row" = some (some (.ref f8))) (l8:K.lookup f8=some ⟨oc8,od8,.func (PySem.W.fnOf "check_row" "check_row" (bj dN) (aZ dN) (ae dN) .none kV8 dc8 pm8 an8 cd8 ct8),sl8⟩) (c8:PySem.W.codeIn K cd8 "check_row" = true) (k8:PySem.W.keepIn K (.ref f8)=true)
  (a9:PySem.W.nsIn K mainGlobals "is_thing" = some (some (.ref f9))) (l9:K.lookup f9=some ⟨oc9,od9,.func (PySem.W.fnOf "is_thing" "is_thing" (bj eP) (aZ eP) (ae eP) .none kV9 dc9 pm9 an9 cd9 ct9),sl9⟩) (c9:PySem.W.codeIn K cd9 "is_thing" = true) (k9:PySem.W.keepIn K (.ref f9)=true)
  (a10:PySem.W.nsIn K mainGlobals "is_pair" = some (some (.ref f10))) (l10:K.lookup f10=some ⟨oc10,od10,.func (PySem.W.fnOf "is_pair" "is_pair" (bj fA) (aZ fA) (ae fA) .none kV10 dc10 pm10 an10 cd10 ct10),sl10⟩) (c10:PySem.W.codeIn K cd10 "is_pair" = true) (k10:PySem.W.keepIn K (.ref f10)=true)
  (a11:PySem.W.nsIn K mainGlobals "is_telling" = some (some (.ref f11))) (l11:K.lookup f11=some ⟨oc11,od11,.func (PySem.W.fnOf "is_telling" "is_telling" (bj df) (aZ df) (ae df) .none kV11 dc11 pm11 an11 cd11 ct11),sl11⟩) (c11:PySem.W.codeIn K cd11 "is_telling" = true) (k11:PySem.W.keepIn K (.ref f11)=true)
  (a12:PySem.W.nsIn K mainGlobals "is_rest" = some (some (.ref f12))) (l12:K.lookup f12=some ⟨oc12,od12,.func (PySem.W.fnOf "is_rest" "is_rest" (bj fK) (aZ fK) (ae fK) .none kV12 dc12 pm12 an12 cd12 ct12),sl12⟩) (c12:PySem.W.codeIn K cd12 "is_rest" = true) (k12:PySem.W.keepIn K (.ref f12)=true)
  (a13:PySem.W.nsIn K mainGlobals "check_rest_and_tellings" = some (some (.ref f13))) (l13:K.lookup f13=some ⟨oc13,od13,.func (PySem.W.fnOf "check_rest_and_tellings" "check_rest_and_tellings" (bj bm) (aZ bm) (ae bm) .none kV13 dc13 pm13 an13 cd13 ct13),sl13⟩) (c13:PySem.W.codeIn K cd13 "check_rest_and_tellings" = true) (k13:PySem.W.keepIn K (.ref f13)=true)
  (a14:PySem.W.nsIn K mainGlobals "roads_by" = some (some (.ref f14))) (l14:K.lookup f14=some ⟨oc14,od14,.func (PySem.W.fnOf "roads_by" "roads_by" (bj eN) (aZ eN) (ae eN) .none kV14 dc14 pm14 an14 cd14 ct14),sl14⟩) (c14:PySem.W.codeIn K cd14 "roads_by" = true) (k14:PySem.W.keepIn K (.ref f14)=true)
  (a15:PySem.W.nsIn K mainGlobals "by_rest" = some (some (.ref f15))) (l15:K.lookup f15=some ⟨oc15,od15,.func (PySem.W.fnOf "by_rest" "by_rest" (bj fE) (aZ fE) (ae fE) .none kV15 dc15 pm15 an15 cd15 ct15),sl15⟩) (c15:PySem.W.codeIn K cd15 "by_rest" = true) (k15:PySem.W.keepIn K (.ref f15)=true)
  (a16:PySem.W.nsIn K mainGlobals "comes_to" = some (some (.ref f16))) (l16:K.lookup f16=some ⟨oc16,od16,.func (PySem.W.fnOf "comes_to" "comes_to" (bj eL) (aZ eL) (ae eL) .none kV16 dc16 pm16 an16 cd16 ct16),sl16⟩) (c16:PySem.W.codeIn K cd16 "comes_to" = true) (k16:PySem.W.keepIn K (.ref f16)=true)
  (a17:PySem.W.nsIn K mainGlobals "steps_along" = some (some (.ref f17))) (l17:K.lookup f17=some ⟨oc17,od17,.func (PySem.W.fnOf "steps_along" "steps_along" (bj cP) (aZ cP) (ae cP) .none kV17 dc17 pm17 an17 cd17 ct17),sl17⟩) (c17:PySem.W.codeIn K cd17 "steps_along" = true) (k17:PySem.W.keepIn K (.ref f17)=true)
  (a18:PySem.W.nsIn K mainGlobals "gone_through" = some (some (.ref f18))) (l18:K.lookup f18=some ⟨oc18,od18,.func (PySem.W.fnOf "gone_through" "gone_through" (bj cx) (aZ cx) (ae cx) .none kV18 dc18 pm18 an18 cd18 ct18),sl18⟩) (c18:PySem.W.codeIn K cd18 "gone_through" = true) (k18:PySem.W.keepIn K (.ref f18)=true)
  (a19:PySem.W.nsIn K mainGlobals "height_by" = some (some (.ref f19))) (l19:K.lookup f19=some ⟨oc19,od19,.func (PySem.W.fnOf "height_by" "height_by" (bj dL) (aZ dL) (ae dL) .none kV19 dc19 pm19 an19 cd19 ct19),sl19⟩) (c19:PySem.W.codeIn K cd19 "height_by" = true) (k19:PySem.W.keepIn K (.ref f19)=true)
  (a20:PySem.W.nsIn K mainGlobals "heights" = some (some (.ref f20))) (l20:K.lookup f20=some ⟨oc20,od20,.func (PySem.W.fnOf "heights" "heights" (bj fF) (aZ fF) (ae fF) .none kV20 dc20 pm20 an20 cd20 ct20),sl20⟩) (c20:PySem.W.codeIn K cd20 "heights" = true) (k20:PySem.W.keepIn K (.ref f20)=true)
  (a21:PySem.W.nsIn K mainGlobals "_law_cell" = some (some (.ref f21))) (l21:K.lookup f21=some ⟨oc21,od21,.func (PySem.W.fnOf "_law_cell" "_law_cell" (bj dP) (aZ dP) (ae dP) .none kV21 dc21 pm21 an21 cd21 ct21),sl21⟩) (c21:PySem.W.codeIn K cd21 "_law_cell" = true) (k21:PySem.W.keepIn K (.ref f21)=true)
  (a22:PySem.W.nsIn K mainGlobals "_law_many" = some (some (.ref f22))) (l22:K.lookup f22=some ⟨oc22,od22,.func (PySem.W.fnOf "_law_many" "_law_many" (bj dS) (aZ dS) (ae dS) .none kV22 dc22 pm22 an22 cd22 ct22),sl22⟩) (c22:PySem.W.codeIn K cd22 "_law_many" = true) (k22:PySem.W.keepIn K (.ref f22)=true)
  (a23:PySem.W.nsIn K mainGlobals "_law_rest_of" = some (some (.ref f23))) (l23:K.lookup f23=some ⟨oc23,od23,.func (PySem.W.fnOf "_law_rest_of" "_law_rest_of" (bj cy) (aZ cy) (ae cy) .none kV23 dc23 pm23 an23 cd23 ct23),sl23⟩) (c23:PySem.W.codeIn K cd23 "_law_rest_of" = true) (k23:PySem.W.keepIn K (.ref f23)=true)
  (a24:PySem.W.nsIn K mainGlobals "_law_heights_of" = some (some (.ref f24))) (l24:K.lookup f24=some ⟨oc24,od24,.func (PySem.W.fnOf "_law_heights_of" "_law_heights_of" (bj bW) (aZ bW) (ae bW) .none kV24 dc24 pm24 an24 cd24 ct24),sl24⟩) (c24:PySem.W.codeIn K cd24 "_law_heights_of" = true) (k24:PySem.W.keepIn K (.ref f24)=true)
  (a25:PySem.W.nsIn K mainGlobals "_law_joins" = some (some (.ref f25))) (l25:K.lookup f25=some ⟨oc25,od25,.func (PySem.W.fnOf "_law_joins" "_law_joins" (bj di) (aZ di) (ae di) .none kV25 dc25 pm25 an25 cd25 ct25),sl25⟩) (c25:PySem.W.codeIn K cd25 "_law_joins" = true) (k25:PySem.W.keepIn K (.ref f25)=true)
  (a26:PySem.W.nsIn K mainGlobals "_law_planted" = some (some (.ref f26))) (l26:K.lookup f26=some ⟨oc26,od26,.func (PySem.W.fnOf "_law_planted" "_law_planted" (bj cw) (aZ cw) (ae cw) .none kV26 dc26 pm26 an26 cd26 ct26),sl26⟩) (c26:PySem.W.codeIn K cd26 "_law_planted" = true) (k26:PySem.W.keepIn K (.ref f26)=true)
  (a27:PySem.W.nsIn K mainGlobals "_law_whole" = some (some (.ref f27))) (l27:K.lookup f27=some ⟨oc27,od27,.func (PySem.W.fnOf "_law_whole" "_law_whole" (bj dh) (aZ dh) (ae dh) .none kV27 dc27 pm27 an27 cd27 ct27),sl27⟩) (c27:PySem.W.codeIn K cd27 "_law_whole" = true) (k27:PySem.W.keepIn K (.ref f27)=true)
  (a28:PySem.W.nsIn K mainGlobals "_law_real" = some (some (.ref f28))) (l28:K.lookup f28=some ⟨oc28,od28,.func (PySem.W.fnOf "_law_real" "_law_real" (bj dU) (aZ dU) (ae dU) .none kV28 dc28 pm28 an28 cd28 ct28),sl28⟩) (c28:PySem.W.codeIn K cd28 "_law_real" = true) (k28:PySem.W.keepIn K (.ref f28)=true)
  (a29:PySem.W.nsIn K mainGlobals "_law_ring_right" = some (some (.ref f29))) (l29:K.lookup f29=some ⟨oc29,od29,.func (PySem.W.fnOf "_law_ring_right" "_law_ring_right" (bj bY) (aZ bY) (ae bY) .none kV29 dc29 pm29 an29 cd29 ct29),sl29⟩) (c29:PySem.W.codeIn K cd29 "_law_ring_right" = true) (k29:PySem.W.keepIn K (.ref f29)=true)
  (a30:PySem.W.nsIn K mainGlobals "law" = some (some (.ref f30))) (l30:K.lookup f30=some ⟨oc30,od30,.func (PySem.W.fnOf "law" "law" (bj oH) (aZ oH) (ae oH) .none kV30 dc30 pm30 an30 cd30 ct30),sl30⟩) (c30:PySem.W.codeIn K cd30 "law" = true) (k30:PySem.W.keepIn K (.ref f30)=true)
  (z_abs:PySem.W.nsIn K mainGlobals "abs" = some none)
  (z_all:PySem.W.nsIn K mainGlobals "all" = some none)
  (z_bool:PySem.W.nsIn K mainGlobals "bool" = some none)
  (z_enumerate:PySem.W.nsIn K mainGlobals "enumerate" = some none)
  (z_int:PySem.W.nsIn K mainGlobals "int" = some none)
  (z_isinstance:PySem.W.nsIn K mainGlobals "isinstance" = some none)
  (z_len:PySem.W.nsIn K mainGlobals "len" = some none)
  (z_list:PySem.W.nsIn K mainGlobals "list" = some none)
  (z_max:PySem.W.nsIn K mainGlobals "max" = some none)
  (z_min:PySem.W.nsIn K mainGlobals "min" = some none)
  (z_range:PySem.W.nsIn K mainGlobals "range" = some none)
  (z_sum:PySem.W.nsIn K mainGlobals "sum" = some none)
  (z_tuple:PySem.W.nsIn K mainGlobals "tuple" = some none)
  {tk_MOST_THINGS:Tok}
  (y_MOST_THINGS:PySem.W.nsIn K mainGlobals "MOST_THINGS" = some (some (.int 40 tk_MOST_THINGS)))
  : ∃fd:FuncData,(∀(s:Shared) (u:Value),BindsTo s fd ⟨[u],[]⟩ [("_law_script",u)])/\∀base:Heap,K.In base/\base.Ns mainGlobals mg->NF l.prog w K mg base true 8 fa fd ["_law_script"] uy:=by
 have T:Txt l.prog w K mg:=⟨PySem.W.mg_none_of X G z_abs,PySem.W.mg_none_of X G z_all,PySem.W.mg_none_of X G z_bool,PySem.W.mg_none_of X G z_enumerate,PySem.W.mg_none_of X G z_int,PySem.W.mg_none_of X G z_isinstance,PySem.W.mg_none_of X G z_len,PySem.W.mg_none_of X G z_list,PySem.W.mg_none_of X G z_max,PySem.W.mg_none_of X G z_min,PySem.W.mg_none_of X G z_range,PySem.W.mg_none_of X G z_sum,PySem.W.mg_none_of X G z_tuple,⟨_,PySem.W.mg_of X G y_MOST_THINGS⟩⟩
 have U__law_numbers:bQ K mg "_law_numbers" cB ["_law_cell_here","_law_many_here"]:=bD l0 c0 k0 (PySem.W.mg_of X G a0) fun _ _ _ _ _ _ us hl=>lA hl fun _ _=>rfl
 have U__law_spoilt:bQ K mg "_law_spoilt" cO ["_law_row","_law_rest","_law_xs"]:=bD l1 c1 k1 (PySem.W.mg_of X G a1) fun _ _ _ _ _ _ us hl=>rL hl fun _ _ _=>rfl
 have U__law_by:bQ K mg "_law_by" fM ["_law_number","_law_rest"]:=bD l2 c2 k2 (PySem.W.mg_of X G a2) fun _ _ _ _ _ _ us hl=>lA hl fun _ _=>rfl
 have U__law_due_heights:bQ K mg "_law_due_heights" bS ["_law_many_here","_law_rest","_law_row"]:=bD l3 c3 k3 (PySem.W.mg_of X G a3) fun _ _ _ _ _ _ us hl=>rL hl fun _ _ _=>rfl
 have U__law_first:bQ K mg "_law_first" de ["_law_many_here","_law_rest","_law_row"]:=bD l4 c4 k4 (PySem.W.mg_of X G a4) fun _ _ _ _ _ _ us hl=>rL hl fun _ _ _=>rfl
 have U_is_whole:bQ K mg "is_whole" eK ["thing"]:=bD l5 c5 k5 (PySem.W.mg_of X G a5) fun _ _ _ _ _ _ us hl=>nB hl fun _=>rfl
 have U_is_many:bQ K mg "is_many" fI ["thing"]:=bD l6 c6 k6 (PySem.W.mg_of X G a6) fun _ _ _ _ _ _ us hl=>nB hl fun _=>rfl
 have U_check_many:bQ K mg "check_many" dz ["many"]:=bD l7 c7 k7 (PySem.W.mg_of X G a7) fun _ _ _ _ _ _ us hl=>nB hl fun _=>rfl
 have U_check_row:bQ K mg "check_row" dN ["many","row","is_right"]:=bD l8 c8 k8 (PySem.W.mg_of X G a8) fun _ _ _ _ _ _ us hl=>rL hl fun _ _ _=>rfl
 have U_is_thing:bQ K mg "is_thing" eP ["many","thing"]:=bD l9 c9 k9 (PySem.W.mg_of X G a9) fun _ _ _ _ _ _ us hl=>lA hl fun _ _=>rfl
 have U_is_pair:bQ K mg "is_pair" fA ["many","thing"]:=bD l10 c10 k10 (PySem.W.mg_of X G a10) fun _ _ _ _ _ _ us hl=>lA hl fun _ _=>rfl
 have U_is_telling:bQ K mg "is_telling" df ["many","thing"]:=bD l11 c11 k11 (PySem.W.mg_of X G a11) fun _ _ _ _ _ _ us hl=>lA hl fun _ _=>rfl
 have U_is_rest:bQ K mg "is_rest" fK ["thing"]:=bD l12 c12 k12 (PySem.W.mg_of X G a12) fun _ _ _ _ _ _ us hl=>nB hl fun _=>rfl
 have U_check_rest_and_tellings:bQ K mg "check_rest_and_tellings" bm ["many","rest","tellings"]:=bD l13 c13 k13 (PySem.W.mg_of X G a13) fun _ _ _ _ _ _ us hl=>rL hl fun _ _ _=>rfl
 have U_roads_by:bQ K mg "roads_by" eN ["steps","x"]:=bD l14 c14 k14 (PySem.W.mg_of X G a14) fun _ _ _ _ _ _ us hl=>lA hl fun _ _=>rfl
 have U_by_rest:bQ K mg "by_rest" fE ["rest","number"]:=bD l15 c15 k15 (PySem.W.mg_of X G a15) fun _ _ _ _ _ _ us hl=>lA hl fun _ _=>rfl
 have U_comes_to:bQ K mg "comes_to" eL ["rest","tellings","road"]:=bD l16 c16 k16 (PySem.W.mg_of X G a16) fun _ _ _ _ _ _ us hl=>rL hl fun _ _ _=>rfl
 have U_steps_along:bQ K mg "steps_along" cP ["row","numbers"]:=bD l17 c17 k17 (PySem.W.mg_of X G a17) fun _ _ _ _ _ _ us hl=>lA hl fun _ _=>rfl
 have U_gone_through:bQ K mg "gone_through" cx ["rest","tellings"]:=bD l18 c18 k18 (PySem.W.mg_of X G a18) fun _ _ _ _ _ _ us hl=>lA hl fun _ _=>rfl
 have U_height_by:bQ K mg "height_by" dL ["rest","tellings","steps","x"]:=bD l19 c19 k19 (PySem.W.mg_of X G a19) fun _ _ _ _ _ _ us hl=>CQ hl fun _ _ _ _=>rfl
 have U_heights:bQ K mg "heights" fF ["many","rest","tellings"]:=bD l20 c20 k20 (PySem.W.mg_of X G a20) fun _ _ _ _ _ _ us hl=>rL hl fun _ _ _=>rfl
 have U__law_cell:bQ K mg "_law_cell" dP ["_law_script","_law_k"]:=bD l21 c21 k21 (PySem.W.mg_of X G a21) fun _ _ _ _ _ _ us hl=>lA hl fun _ _=>rfl
 have U__law_many:bQ K mg "_law_many" dS ["_law_x"]:=bD l22 c22 k22 (PySem.W.mg_of X G a22) fun _ _ _ _ _ _ us hl=>nB hl fun _=>rfl
 have U__law_rest_of:bQ K mg "_law_rest_of" cy ["_law_x"]:=bD l23 c23 k23 (PySem.W.mg_of X G a23) fun _ _ _ _ _ _ us hl=>nB hl fun _=>rfl
 have U__law_heights_of:bQ K mg "_law_heights_of" bW ["_law_xs","_law_many_here","_law_wide"]:=bD l24 c24 k24 (PySem.W.mg_of X G a24) fun _ _ _ _ _ _ us hl=>rL hl fun _ _ _=>rfl
 have U__law_joins:bQ K mg "_law_joins" di ["_law_script","_law_at","_law_many_here","_law_most"]:=bD l25 c25 k25 (PySem.W.mg_of X G a25) fun _ _ _ _ _ _ us hl=>CQ hl fun _ _ _ _=>rfl
 have U__law_planted:bQ K mg "_law_planted" cw ["_law_script","_law_at","_law_many_here","_law_rest"]:=bD l26 c26 k26 (PySem.W.mg_of X G a26) fun _ _ _ _ _ _ us hl=>CQ hl fun _ _ _ _=>rfl
 have U__law_whole:bQ K mg "_law_whole" dh ["_law_thing"]:=bD l27 c27 k27 (PySem.W.mg_of X G a27) fun _ _ _ _ _ _ us hl=>nB hl fun _=>rfl
 have U__law_real:bQ K mg "_law_real" dU ["_law_many_here","_law_row"]:=bD l28 c28 k28 (PySem.W.mg_of X G a28) fun _ _ _ _ _ _ us hl=>lA hl fun _ _=>rfl
 have U__law_ring_right:bQ K mg "_law_ring_right" bY ["_law_many_here","_law_rest","_law_row","_law_number","_law_ring"]:=bD l29 c29 k29 (PySem.W.mg_of X G a29) fun _ _ _ _ _ _ us hl=>GY hl fun _ _ _ _ _=>rfl
 have U_law:bQ K mg "law" oH ["_law_script"]:=bD l30 c30 k30 (PySem.W.mg_of X G a30) fun _ _ _ _ _ _ us hl=>nB hl fun _=>rfl
 have M_is_telling:=PySem.W.mg_of X G a11
 refine Ah (R:=fun base=>K.In base/\base.Ns mainGlobals mg) U_law hfa Dr rfl rfl fun base hb=>?_
 have KI:=hb.1
 have D__law_numbers:=ld T KI U__law_numbers
 have D__law_spoilt:=mC T KI U__law_spoilt
 have D__law_by:=sv T KI U__law_by
 have D__law_due_heights:=jm T KI U__law_due_heights D__law_by
 have D__law_first:=mY T KI U__law_first D__law_due_heights
 have D_is_whole:=p7 T KI U_is_whole
 have D_is_many:=sd T KI U_is_many D_is_whole
 have D_check_many:=nk T KI U_check_many D_is_many
 have D_is_thing:=qr T KI U_is_thing D_is_whole
 have D_is_pair:=sB T KI U_is_pair D_is_thing
 have D_is_telling:=mW T KI U_is_telling D_is_pair D_is_whole
 have D_check_row:=pc T KI U_check_row D_is_telling
 have D_is_rest:=sj T KI U_is_rest D_is_whole
 have D_check_rest_and_tellings:=gx T KI U_check_rest_and_tellings ⟨_,M_is_telling⟩ D_check_many D_check_row D_is_rest
 have D_roads_by:=rG T KI U_roads_by
 have D_by_rest:=so T KI U_by_rest
 have D_comes_to:=qm T KI U_comes_to D_by_rest
 have D_steps_along:=lR T KI U_steps_along
 have D_gone_through:=lh T KI U_gone_through D_roads_by D_comes_to D_by_rest D_steps_along
 have D_height_by:=pz T KI U_height_by D_comes_to D_roads_by
 have D_heights:=rO T KI U_heights D_check_rest_and_tellings D_gone_through D_steps_along D_height_by
 have D__law_cell:=pi T KI U__law_cell
 have D__law_many:=oQ T KI U__law_many
 have D__law_rest_of:=li T KI U__law_rest_of
 have D__law_heights_of:=jO T KI U__law_heights_of
 have D__law_joins:=mR T KI U__law_joins D__law_numbers D__law_cell
 have D__law_planted:=lc T KI U__law_planted D__law_numbers D__law_heights_of D__law_cell D__law_joins
 have D__law_whole:=nE T KI U__law_whole
 have D__law_real:=pd T KI U__law_real
 have D__law_ring_right:=jz T KI U__law_ring_right D__law_real D__law_by D__law_whole
 exact⟨{ sc:=ae oH,N:=["_law_script","_law_at","_law_xs","_law_many_here","_law_rest","_law_row","_law_number","_law_told"] },{ G0 with fns:=[("_law_numbers",aV),("_law_spoilt",eJ),("_law_first",d8),("heights",fL),("_law_cell",bB),("_law_many",gc),("_law_rest_of",db),("_law_planted",dW),("_law_whole",cs),("_law_ring_right",cG),("_law_due_heights",bC)] },(jE ⟨T.n_abs,⟨T.n_all,⟨T.n_bool,⟨T.n_enumerate,⟨T.n_int,⟨T.n_isinstance,⟨T.n_len,⟨T.n_list,⟨T.n_max,⟨T.n_min,⟨T.n_range,⟨T.n_sum,⟨T.n_tuple,trivial⟩⟩⟩⟩⟩⟩⟩⟩⟩⟩⟩⟩⟩ ⟨T.c_MOST_THINGS,trivial⟩ trivial trivial ⟨⟨_,by decide,D__law_numbers⟩,⟨⟨_,by decide,D__law_spoilt⟩,⟨⟨_,by decide,D__law_first⟩,⟨⟨_,by decide,D_heights⟩,⟨⟨_,by decide,D__law_cell⟩,⟨⟨_,by decide,D__law_many⟩,⟨⟨_,by decide,D__law_rest_of⟩,⟨⟨_,by decide,D__law_planted⟩,⟨⟨_,by decide,D__law_whole⟩,⟨⟨_,by decide,D__law_ring_right⟩,⟨⟨_,by decide,D__law_due_heights⟩,trivial⟩⟩⟩⟩⟩⟩⟩⟩⟩⟩⟩ trivial trivial trivial),jI,by kernel_rfl,rfl,rfl,rfl⟩
end K46
def PySem.W.Fast.tw11841690628858230664 : Unit := ()
def PySem.W.Fast.tw4073083314622801590 : Unit := ()
def PySem.W.Fast.tw11251571209195820237 : Unit := ()
def PySem.W.Fast.tw15055023089525418946 : Unit := ()
def PySem.W.Fast.tw16685527925419175668 : Unit := ()
def PySem.W.Fast.tw11252523608042197578 : Unit := ()
def PySem.W.Fast.tw4637995848596087590 : Unit := ()
def PySem.W.Fast.tw4585879323491278844 : Unit := ()
def PySem.W.Fast.tw13110746677041962033 : Unit := ()
def PySem.W.Fast.tw84863340199057799 : Unit := ()
def PySem.W.Fast.tw5756825132790352112 : Unit := ()
def PySem.W.Fast.tw2754646829429561682 : Unit := ()
def PySem.W.Fast.tw14980130041446620141 : Unit := ()
def PySem.W.Fast.tw16683363076329423045 : Unit := ()
def PySem.W.Fast.tw17241653494684630379 : Unit := ()
def PySem.W.Fast.tw4934956939177672023 : Unit := ()
def PySem.W.Fast.tw9601194558317114475 : Unit := ()
def PySem.W.Fast.tw2452449238367313713 : Unit := ()
def PySem.W.Fast.tw8384557115022785707 : Unit := ()
def PySem.W.Fast.tw8387933774018940247 : Unit := ()
def PySem.W.Fast.tw6853102557463247662 : Unit := ()
def PySem.W.Fast.tw6559625888239056280 : Unit := ()
def PySem.W.Fast.tw18270651686563962653 : Unit := ()
def PySem.W.Fast.tw14712179896865590824 : Unit := ()
def PySem.W.Fast.tw4308096292468064817 : Unit := ()
def PySem.W.Fast.tw144102941736898699 : Unit := ()
def PySem.W.Fast.tw16203468728213842359 : Unit := ()
def PySem.W.Fast.tw17240230068245675633 : Unit := ()
def PySem.W.Fast.tw17045006908881237450 : Unit := ()
def PySem.W.Fast.tw1271398533605108484 : Unit := ()
def PySem.W.Fast.tw438201920545675762 : Unit := ()
def PySem.W.Fast.tw11788491188590884242 : Unit := ()
def PySem.W.Fast.tw6503034198920227613 : Unit := ()
def PySem.W.Fast.tw11416985577358516911 : Unit := ()
def PySem.W.Fast.tw1764781874669802683 : Unit := ()
def PySem.W.Fast.tw15721289942986856241 : Unit := ()
def PySem.W.Fast.tw8576271851814895869 : Unit := ()
def PySem.W.Fast.tw7510335148690868277 : Unit := ()
def PySem.W.Fast.tw2041774035162971580 : Unit := ()
def PySem.W.Fast.tw13561412842332463663 : Unit := ()
def PySem.W.Fast.tw9217051643298402746 : Unit := ()
def PySem.W.Fast.tw16693467686353366033 : Unit := ()
def PySem.W.Fast.tw14204023081833495825 : Unit := ()
def PySem.W.Fast.tw1683361534285834388 : Unit := ()
def PySem.W.Fast.tw17762259499220194818 : Unit := ()
def PySem.W.Fast.tw16260654827149156894 : Unit := ()
def PySem.W.Fast.tw2355174811704525233 : Unit := ()
def PySem.W.Fast.tw11836282773810898860 : Unit := ()
def PySem.W.Fast.tw13013334915054094052 : Unit := ()
def PySem.W.Fast.tw13814452830422956786 : Unit := ()
def PySem.W.Fast.tw4954292308963853265 : Unit := ()
def PySem.W.Fast.tw15409737601409460450 : Unit := ()
def PySem.W.Fast.tw9542314973744836727 : Unit := ()
def PySem.W.Fast.tw855879722544875700 : Unit := ()
def PySem.W.Fast.tw2853672478719177702 : Unit := ()
def PySem.W.Fast.tw8319729610265853179 : Unit := ()
def PySem.W.Fast.tw12902107988329288385 : Unit := ()
def PySem.W.Fast.tw11758747436896509621 : Unit := ()
def PySem.W.Fast.tw7559029760733912264 : Unit := ()
def PySem.W.Fast.tw5505385831020432555 : Unit := ()
open PySem PySem.W PyProof.Rows
set_option maxRecDepth 100000 in
set_option maxHeartbeats 0 in
theorem PySem.Challenge.cw_lotheads_k46_tellings_that_clash_holds : PySem.Challenge.rw_lotheads_k46_tellings_that_clash.Holds := by
 w_on;o_law;k_head;(case hw=>w_witness2)
 k_fill
 refine Dp.E1 (k:=8) (by decide) (l:=PySem.Challenge.rw_lotheads_k46_tellings_that_clash) rfl rfl (fun w h Y=>PySem.W.kIn_of Y) K46.xF ?F
 case F=>
  intro w mg fa h KX G hmg
  refine' K46.C8 KX G hmg ?a0 ?l0 ?c0 ?k0 ?a1 ?l1 ?c1 ?k1 ?a2 ?l2 ?c2 ?k2 ?a3 ?l3 ?c3 ?k3 ?a4 ?l4 ?c4 ?k4 ?a5 ?l5 ?c5 ?k5 ?a6 ?l6 ?c6 ?k6 ?a7 ?l7 ?c7 ?k7 ?a8 ?l8 ?c8 ?k8 ?a9 ?l9 ?c9 ?k9 ?a10 ?l10 ?c10 ?k10 ?a11 ?l11 ?c11 ?k11 ?a12 ?l12 ?c12 ?k12 ?a13 ?l13 ?c13 ?k13 ?a14 ?l14 ?c14 ?k14 ?a15 ?l15 ?c15 ?k15 ?a16 ?l16 ?c16 ?k16 ?a17 ?l17 ?c17 ?k17 ?a18 ?l18 ?c18 ?k18 ?a19 ?l19 ?c19 ?k19 ?a20 ?l20 ?c20 ?k20 ?a21 ?l21 ?c21 ?k21 ?a22 ?l22 ?c22 ?k22 ?a23 ?l23 ?c23 ?k23 ?a24 ?l24 ?c24 ?k24 ?a25 ?l25 ?c25 ?k25 ?a26 ?l26 ?c26 ?k26 ?a27 ?l27 ?c27 ?k27 ?a28 ?l28 ?c28 ?k28 ?a29 ?l29 ?c29 ?k29 ?a30 ?l30 ?c30 ?k30 ?z_abs ?z_all ?z_bool ?z_enumerate ?z_int ?z_isinstance ?z_len ?z_list ?z_max ?z_min ?z_range ?z_sum ?z_tuple ?y_MOST_THINGS
  (case a0=>k_is);(case l0=>k_is);(case c0=>k_is);(case k0=>k_is)
  (case a1=>k_is);(case l1=>k_is);(case c1=>k_is);(case k1=>k_is)
  (case a2=>k_is);(case l2=>k_is);(case c2=>k_is);(case k2=>k_is)
  (case a3=>k_is);(case l3=>k_is);(case c3=>k_is);(case k3=>k_is)
  (case a4=>k_is);(case l4=>k_is);(case c4=>k_is);(case k4=>k_is)
  (case a5=>k_is);(case l5=>k_is);(case c5=>k_is);(case k5=>k_is)
  (case a6=>k_is);(case l6=>k_is);(case c6=>k_is);(case k6=>k_is)
  (case a7=>k_is);(case l7=>k_is);(case c7=>k_is);(case k7=>k_is)
  (case a8=>k_is);(case l8=>k_is);(case c8=>k_is);(case k8=>k_is)
  (case a9=>k_is);(case l9=>k_is);(case c9=>k_is);(case k9=>k_is)
  (case a10=>k_is);(case l10=>k_is);(case c10=>k_is);(case k10=>k_is)
  (case a11=>k_is);(case l11=>k_is);(case c11=>k_is);(case k11=>k_is)
  (case a12=>k_is);(case l12=>k_is);(case c12=>k_is);(case k12=>k_is)
  (case a13=>k_is);(case l13=>k_is);(case c13=>k_is);(case k13=>k_is)
  (case a14=>k_is);(case l14=>k_is);(case c14=>k_is);(case k14=>k_is)
  (case a15=>k_is);(case l15=>k_is);(case c15=>k_is);(case k15=>k_is)
  (case a16=>k_is);(case l16=>k_is);(case c16=>k_is);(case k16=>k_is)
  (case a17=>k_is);(case l17=>k_is);(case c17=>k_is);(case k17=>k_is)
  (case a18=>k_is);(case l18=>k_is);(case c18=>k_is);(case k18=>k_is)
  (case a19=>k_is);(case l19=>k_is);(case c19=>k_is);(case k19=>k_is)
  (case a20=>k_is);(case l20=>k_is);(case c20=>k_is);(case k20=>k_is)
  (case a21=>k_is);(case l21=>k_is);(case c21=>k_is);(case k21=>k_is)
  (case a22=>k_is);(case l22=>k_is);(case c22=>k_is);(case k22=>k_is)
  (case a23=>k_is);(case l23=>k_is);(case c23=>k_is);(case k23=>k_is)
  (case a24=>k_is);(case l24=>k_is);(case c24=>k_is);(case k24=>k_is)
  (case a25=>k_is);(case l25=>k_is);(case c25=>k_is);(case k25=>k_is)
  (case a26=>k_is);(case l26=>k_is);(case c26=>k_is);(case k26=>k_is)
  (case a27=>k_is);(case l27=>k_is);(case c27=>k_is);(case k27=>k_is)
  (case a28=>k_is);(case l28=>k_is);(case c28=>k_is);(case k28=>k_is)
  (case a29=>k_is);(case l29=>k_is);(case c29=>k_is);(case k29=>k_is)
  (case a30=>k_is);(case l30=>k_is);(case c30=>k_is);(case k30=>k_is)
  (case z_abs=>k_is)
  (case z_all=>k_is)
  (case z_bool=>k_is)
  (case z_enumerate=>k_is)
  (case z_int=>k_is)
  (case z_isinstance=>k_is)
  (case z_len=>k_is)
  (case z_list=>k_is)
  (case z_max=>k_is)
  (case z_min=>k_is)
  (case z_range=>k_is)
  (case z_sum=>k_is)
  (case z_tuple=>k_is)
  (case y_MOST_THINGS=>k_is)
end
