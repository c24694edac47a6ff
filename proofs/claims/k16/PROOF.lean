import PyProof.Rows.All
import Wide.All
import OpenK.AllK
import Wide.FinOn
import Lean
import PyProof.EqAt
import PyProof.EqKinds
import PyProof.TupleCall
import PyProof.NeKinds
import KE.KSortTup
import PyProof.TableCode
import PyProof.EnumFor
import PyProof.EnumMake
import PyProof.EnumStmt
import PyProof.TupleOfStr
import PyProof.Draws
import PyProof.TupleIter
import KE.KMinKey
import OpenK.KLine
import PySem.Challenge.RW_lotheads_k16_whole_heads_and_lots
set_option Elab.async false
set_option linter.all false
set_option maxRecDepth 100000
namespace L2
open PySem PySem.Spec PyProof.Rows
noncomputable abbrev bP:=Sum Int Str
noncomputable def k5:bP->Value->Bool
 |.inl k,v=>Value.isInt k v
 |.inr x,v=>Value.isStrOf x v
noncomputable def JK (w:World):bP->Int
 |.inl k=>hashInt k
 |.inr x=>hashStr w x
theorem bv:∀{k:bP} {v:Value},k5 k v=true->(∃i t,k=Sum.inl i/\v=Value.int i t)\/(∃x t,k=Sum.inr x/\v=Value.str x t)
 |.inl i,v,h=>by
  obtain⟨t,e⟩:=Value.isInt_shape (k:=i) (v:=v) h
  exact .inl ⟨i,t,rfl,e⟩
 |.inr x,v,h=>by
  obtain⟨t,e⟩:=Value.isStrOf_shape (x:=x) (v:=v) h
  exact .inr ⟨x,t,rfl,e⟩
theorem wK (i:Int)(t:Tok):k5 (.inl i) (.int i t)=true:=by simp[k5,Value.isInt]
theorem xo (x:Str)(t:Tok):k5 (.inr x) (.str x t)=true:=by simp[k5,Value.isStrOf]
theorem FN (a b:Int):decide ((Sum.inl a:bP)=Sum.inl b)=(a==b):=by
 by_cases e:a=b
 ·subst e;simp
 ·have h:¬(Sum.inl a:bP)=Sum.inl b:=fun q=>e (Sum.inl.inj q)
  rw[decide_eq_false h]
  exact (beq_eq_false_iff_ne.mpr e).symm
theorem EY (a b:Str):decide ((Sum.inr a:bP)=Sum.inr b)=decide (a=b):=by
 by_cases e:a=b
 ·subst e;simp
 ·have h:¬(Sum.inr a:bP)=Sum.inr b:=fun q=>e (Sum.inr.inj q)
  rw[decide_eq_false h,decide_eq_false e]
theorem Em (a:Int)(b:Str):decide ((Sum.inl a:bP)=Sum.inr b)=false:=decide_eq_false (fun q=>nomatch q)
theorem EX (a:Str)(b:Int):decide ((Sum.inr a:bP)=Sum.inl b)=false:=decide_eq_false (fun q=>nomatch q)
noncomputable def aJ (prog:Program)(w:World):PySem.KeyKind prog w bP where
 is:=k5
 hash:=JK w
 inj:=fun v a b ha hb=>by
  rcases bv ha with ⟨i,t,rfl,rfl⟩|⟨x,t,rfl,rfl⟩
  ·rcases bv hb with ⟨j,u,rfl,e⟩|⟨y,u,rfl,e⟩
   ·injection e with e1 _;rw[e1]
   ·exact nomatch e
  ·rcases bv hb with ⟨j,u,rfl,e⟩|⟨y,u,rfl,e⟩
   ·exact nomatch e
   ·injection e with e1 _;rw[e1]
 byValue:=fun k v h=>by
  rcases bv h with ⟨i,t,rfl,rfl⟩|⟨x,t,rfl,rfl⟩<;>rfl
 pyHash:=fun hv h=>by
  rcases bv hv with ⟨i,t,rfl,rfl⟩|⟨x,t,rfl,rfl⟩
  ·exact wpAny_pyHash_int h
  ·exact wpAny_pyHash_str h
 eqBool:=fun hu hv h=>by
  rcases bv hu with ⟨i,t,rfl,rfl⟩|⟨x,t,rfl,rfl⟩
  ·rcases bv hv with ⟨j,u,rfl,rfl⟩|⟨y,u,rfl,rfl⟩
   ·rw[FN] at h;exact wpAny_eqBool_int h
   ·rw[Em] at h;exact SeqAt.EqAt.int_str i t y u _ _ _ _ h
  ·rcases bv hv with ⟨j,u,rfl,rfl⟩|⟨y,u,rfl,rfl⟩
   ·rw[EX] at h;exact SeqAt.EqAt.str_int x t j u _ _ _ _ h
   ·rw[EY] at h;exact wpAny_eqBool_str h
 «strs»:=fun k x t v h=>by
  rcases bv h with ⟨i,u,rfl,e⟩|⟨y,u,rfl,e⟩
  ·exact nomatch e
  ·injection e with e1 _
   subst e1
   cases v<;>rfl
theorem qU (prog:Program)(w:World)(i:Int)(t:Tok):(aJ prog w).is (.inl i) (.int i t)=true:=wK i t
theorem hZ (prog:Program)(w:World)(x:Str)(t:Tok):(aJ prog w).is (.inr x) (.str x t)=true:=xo x t
end L2
namespace L2
open PySem PySem.Spec PyProof.Rows
inductive V where
 |non|bl (b:Bool)|int (i:Int)|str (x:Str)|byt (b:Array UInt8)|flt (b:UInt64)|ref (a:Addr)|ty (n:String)
 deriving DecidableEq
noncomputable def e9:V->Value->Prop
 |.non,u=>u=Value.none
 |.bl b,u=>u=Value.bool b
 |.int i,u=>∃t,u=Value.int i t
 |.str x,u=>∃t,u=Value.str x t
 |.byt b,u=>∃t,u=Value.bytes b t
 |.flt b,u=>∃t,u=Value.float b t
 |.ref a,u=>u=Value.ref a
 |.ty n,u=>u=Value.type n
noncomputable abbrev Vals:List V->List Value->Prop:=Paired e9
theorem Vals.length {xs:List V}{us:List Value}(r:Vals xs us):xs.length=us.length:=Paired.length r
theorem Vals.get:∀{xs:List V} {us:List Value} {i:Nat} {x:V},Vals xs us->xs[i]?=some x->∃u,us[i]?=some u/\e9 x u
 |_,_,_,_,.nil,e=>by simp at e
 |_,_,0,_,.cons r _,e=>by simp at e;subst e;exact⟨_,rfl,r⟩
 |_,_,i+1,x,.cons _ t,e=>by
  obtain⟨u,h1,h2⟩:=Vals.get (i:=i) (x:=x) t (by simpa using e)
  exact⟨u,by simpa using h1,h2⟩
noncomputable def Gw:Option V->Option Value->Prop
 |some v,some u=>e9 v u
 |none,none=>True
 |_,_=>False
noncomputable def KV {κ:Type}:List (κ×V)->List (κ×Value)->Prop:=Paired fun (p:κ×V) (q:κ×Value)=>p.1=q.1/\e9 p.2 q.2
noncomputable def kV:bP->V
 |.inl i=>.int i
 |.inr x=>.str x
inductive HO where
 |lst (xs:List V)
 |tup (xs:List V)
 |dK (kvs:List (bP×V))|dT (kvs:List (List bP×V))
 |set (S:Int->Bool) (n:Nat)
 |ins (C dx:Addr) (fs:List (Str×V))
 |own (x:Addr)
 |xd (fs:List (Str×V))
 |met (f x:Addr)
 |rng (lo hi:Int)
 |frz (o:Obj) (u:HO)
 |tbl (ps:Array Value)
 |ext (φ:Heap->Prop)
noncomputable abbrev Hp:=Addr->Option HO
noncomputable def cg (H:Hp)(a:Addr)(o:HO):Hp:=fun b=>if b=a then some o else H b
theorem aS {H:Hp}{a:Addr}{o:HO}:cg H a o a=some o:=by unfold cg;rw[if_pos rfl]
theorem ax {H:Hp}{a b:Addr}{o:HO}(h:b≠a):cg H a o b=H b:=by unfold cg;rw[if_neg h]
section
variable (P:Program)(w:World)
noncomputable def ObjOk (H:Hp)(h:Heap)(a:Addr):HO->Prop
 |.lst xs=>xs.length≤sizeLine/\∃(its:List Value) (n:Nat),Vals xs its/\h.get? a=some { cls:=.type "list",data:=.seq its.toArray n }
 |.tup xs=>xs.length≤sizeLine/\∃its:List Value,Vals xs its/\IsTup h a its.toArray
 |.dK kvs=>kvs.length≤sizeLine/\(a==sysModules)=false/\∃vs,KV kvs vs/\h.DictOf (aJ P w) a vs
 |.dT kvs=>kvs.length≤sizeLine/\(a==sysModules)=false/\∃xs:List (List bP×Addr×Value),
   Paired (fun (p:List bP×V) (q:List bP×Addr×Value)=>p.1=q.1/\H q.2.1=some (.tup (p.1.map kV))/\e9 p.2 q.2.2) kvs xs ∧
   ∃o es ep,h.get? a=some o/\o.ExactDict/\o.data=.dict es ep/\es.toList=xs.map (entryOfKey (tupleKind (aJ P w)))/\(xs.map (·.1)).Nodup
 |.set S n=>h.SetOf (intKind P w) a S n
 |.ins C dx fs=>H dx=some (.own a)/\fs.length≤1000/\dx≠a/\h.get? a=some (PySem.W.instObj C dx) ∧
   ∃mA,h.Ns1 dx mA/\(∀f,Gw (fs.lookup f) (mA f))/\PySem.Within mA (fs.map (·.1))
 |.own _=>∃o,h.get? a=some o
 |.xd fs=>∃mA,h.Ns1 a mA/\∀f,Gw (fs.lookup f) (mA f)
 |.rng lo hi=>∃t u v,h.get? a=some { cls:=.type "range",data:=.fields #[.int lo t,.int hi u,.int 1 v] }
 |.frz o u=>h.get? a=some o/\ObjOk H h a u
 |.tbl ps=>h.get? a=some { cls:=.none,data:=.fields ps }
 |.met f x=>h.get? a=some (PySem.W.methodObj (.ref f) (.ref x))
 |.ext φ=>φ h/\(∃o,h.get? a=some o)/\∀h1 h2:Heap,φ h1->(∀o,h1.get? a=some o->h2.get? a=some o)->φ h2
noncomputable def HOk (H:Hp)(h:Heap):Prop:=∀a o,H a=some o->ObjOk P w H h a o
end
section
variable {P:Program}{w:World}{H H':Hp}{h h':Heap}{a:Addr}{o:HO}
theorem ObjOk.lt (x:ObjOk P w H h a o):a<h.objs.size:=by
 cases o with
 |lst xs=>obtain⟨_,_,_,_,e⟩:=x;exact Heap.lt_size e
 |tup xs=>obtain⟨_,_,_,p⟩:=x;exact p.lt
 |dK kvs=>obtain⟨_,_,_,_,o,_,_,e,_⟩:=x;exact Heap.lt_size e
 |dT kvs=>obtain⟨_,_,_,_,o,_,_,e,_⟩:=x;exact Heap.lt_size e
 |set S n=>obtain⟨o,_,_,_,e,_⟩:=x;exact Heap.lt_size e
 |ins C dx fs=>obtain⟨_,_,_,e,_⟩:=x;exact Heap.lt_size e
 |own y=>obtain⟨_,e⟩:=x;exact Heap.lt_size e
 |xd fs=>obtain⟨_,⟨_,_,_,e,_⟩,_⟩:=x;exact Heap.lt_size e
 |rng lo hi=>obtain⟨_,_,_,e⟩:=x;exact Heap.lt_size e
 |frz ob u=>obtain⟨e,_⟩:=x;exact Heap.lt_size e
 |tbl ps=>exact Heap.lt_size (show h.get? a=some _ from x)
 |met f y=>exact Heap.lt_size (show h.get? a=some _ from x)
 |ext φ=>obtain⟨_,⟨_,e⟩,_⟩:=x;exact Heap.lt_size e
theorem Paired.mapP {α β:Type}{F G:α->β->Prop}:∀{l₁:List α} {l₂:List β},Paired F l₁ l₂->(∀a b,F a b->G a b)->Paired G l₁ l₂
 |_,_,.nil,_=>.nil
 |_,_,.cons r t,f=>.cons (f _ _ r) (Paired.mapP t f)
theorem ObjOk.stay (x:ObjOk P w H h a o)(k:∀b u,(b=a\/H b=some (.own a))->h.get? b=some u->h'.get? b=some u)
  (ho:∀b,H b=some (.own a)->H' b=some (.own a)) (ht:∀b xs,H b=some (.tup xs)->H' b=some (.tup xs)):ObjOk P w H' h' a o:=by
 induction o with
 |lst xs=>obtain⟨z,its,n,r,e⟩:=x;exact⟨z,its,n,r,k _ _ (.inl rfl) e⟩
 |tup xs=>obtain⟨z,its,r,ob,e,c⟩:=x;exact⟨z,its,r,ob,k _ _ (.inl rfl) e,c⟩
 |dK kvs=>obtain⟨z,y,vs,r,ob,es,ep,e,c⟩:=x;exact⟨z,y,vs,r,ob,es,ep,k _ _ (.inl rfl) e,c⟩
 |dT kvs=>
  obtain⟨z,y,xs,r,ob,es,ep,e,c⟩:=x
  exact⟨z,y,xs,Paired.mapP r fun p q z=>⟨z.1,ht _ _ z.2.1,z.2.2⟩,ob,es,ep,k _ _ (.inl rfl) e,c⟩
 |set S n=>obtain⟨ob,es,ep,t,e,c⟩:=x;exact⟨ob,es,ep,t,k _ _ (.inl rfl) e,c⟩
 |ins C dx fs=>
  obtain⟨d,z,ne,e,mA,⟨od,es,ep,e2,c⟩,r⟩:=x
  exact⟨ho _ d,z,ne,k _ _ (.inl rfl) e,mA,⟨od,es,ep,k _ _ (.inr d) e2,c⟩,r⟩
 |own y=>obtain⟨ob,e⟩:=x;exact⟨ob,k _ _ (.inl rfl) e⟩
 |xd fs=>obtain⟨mA,⟨od,es,ep,e,c⟩,r⟩:=x;exact⟨mA,⟨od,es,ep,k _ _ (.inl rfl) e,c⟩,r⟩
 |rng lo hi=>obtain⟨t,u,v,e⟩:=x;exact⟨t,u,v,k _ _ (.inl rfl) e⟩
 |frz ob u ih=>obtain⟨e,q⟩:=x;exact⟨k _ _ (.inl rfl) e,ih q⟩
 |tbl ps=>
  have e:h.get? a=some { cls:=.none,data:=.fields ps }:=x
  show h'.get? a=some { cls:=.none,data:=.fields ps }
  exact k a _ (.inl rfl) e
 |met f y=>
  have e:h.get? a=some (PySem.W.methodObj (.ref f) (.ref y)):=x
  show h'.get? a=some (PySem.W.methodObj (.ref f) (.ref y))
  exact k a _ (.inl rfl) e
 |ext φ=>obtain⟨p,⟨o,e⟩,st⟩:=x;exact⟨st _ _ p fun o q=>k _ _ (.inl rfl) q,⟨o,k _ _ (.inl rfl) e⟩,st⟩
theorem HOk.lt (x:HOk P w H h)(e:H a=some o):a<h.objs.size:=(x a o e).lt
theorem HOk.fresh (x:HOk P w H h)(e:h.objs.size≤a):H a=none:=by
 cases q:H a with
 |none=>rfl
 |some u=>exact absurd (Nat.lt_of_lt_of_le (x.lt q) e) (Nat.lt_irrefl _)
theorem HOk.kept (x:HOk P w H h)(k:∀b u,h.get? b=some u->h'.get? b=some u):HOk P w H h':=fun a o e=>
 (x a o e).stay (fun b u _ q=>k b u q) (fun _ q=>q) fun _ _ q=>q
end
noncomputable def Rd (H:Hp)(a:Addr)(u:HO):Prop:=H a=some u\/∃o,H a=some (.frz o u)
noncomputable def Jb:Option HO->Prop
 |some (.lst _)=>True
 |some (.dK _)=>True
 |some (.dT _)=>True
 |some (.set _ _)=>True
 |some (.ins _ _ _)=>True
 |some (.ext _)=>True
 |_=>False
section
variable {P:Program}{w:World}{H:Hp}{h h':Heap}{x e:Addr}{o':HO}
theorem HOk.write (ok:HOk P w H h)(mu:Jb (H x))(he:e=x\/H e=some (.own x))(k:∀b u,b≠e->h.get? b=some u->h'.get? b=some u)(heo:∃u,h'.get? e=some u)
  (new:ObjOk P w (cg H x o') h' x o'):HOk P w (cg H x o') h':=fun b u q=>by
 have nown:∀c y,H c=some (.own y)->c≠x:=fun c y r z=>by subst z;rw[r] at mu;exact mu
 have ntup:∀c xs,H c=some (.tup xs)->c≠x:=fun c xs r z=>by subst z;rw[r] at mu;exact mu
 by_cases hb:b=x
 ·subst hb;rw[aS] at q;cases q;exact new
 ·rw[ax hb] at q
  by_cases hbe:b=e
  ·have q':H b=some (.own x):=by
    rcases he with z|z
    ·exact absurd (hbe.trans z) hb
    ·rw[hbe];exact z
   rw[q] at q';cases q'
   obtain⟨v,hv⟩:=heo
   exact⟨v,by rw[hbe];exact hv⟩
  ·refine (ok b u q).stay (fun c v hc r=>k c v ?_ r) (fun c r=>by rw[ax (nown c b r)];exact r) fun c xs r=>by rw[ax (ntup c xs r)];exact r
   rcases hc with rfl|hc
   ·exact hbe
   ·rintro rfl
    rcases he with z|z
    ·exact nown c b hc z
    ·rw[hc] at z;cases z;exact hb rfl
end
structure Un (fs ex:List Addr)(H H':Hp)(h h':Heap):Prop where
 keep:∀b o,h.get? b=some o->H b=none->b∉fs->b∉ex->h'.get? b=some o
 slot:∀b o,h.get? b=some o->H b=none->b∈fs->b∉ex->∃sl,h'.get? b=some { o with slots:=sl }
 free:∀b o,h.get? b=some o->H b=none->b∉ex->H' b=none
 there:∀b o,h.get? b=some o->b∉ex->∃o',h'.get? b=some o'
 tups:∀b xs,H b=some (.tup xs)->H' b=some (.tup xs)
 frzs:∀b o u,H b=some (.frz o u)->H' b=some (.frz o u)
 tbls:∀b ps,H b=some (.tbl ps)->∃more,H' b=some (.tbl (ps++more))
section
variable {fs fs' ex ex':List Addr}{H H1 H2:Hp}{h h1 h2 h':Heap}{a x e:Addr}{o:HO}
theorem Un.any (u:Un fs ex H H1 h h1){b:Addr}{ob:Obj}(q:h.get? b=some ob)(n:H b=none)(hx:b∉ex):∃sl,h1.get? b=some { ob with slots:=sl }:=by
 by_cases hb:b∈fs
 ·exact u.slot b ob q n hb hx
 ·exact⟨ob.slots,u.keep b ob q n hb hx⟩
theorem Un.kept (k:∀b u,h.get? b=some u->h'.get? b=some u):Un fs ex H H h h':=
 ⟨fun b ob q _ _ _=>k b ob q,fun b ob q _ _ _=>⟨ob.slots,k b ob q⟩,fun _ _ _ n _=>n,fun b ob q _=>⟨ob,k b ob q⟩,fun _ _ q=>q,fun _ _ _ q=>q,fun _ ps q=>⟨#[],by rw[q];simp⟩⟩
theorem Un.write (mu:Jb (H x))(he:e=x\/H e=some (.own x))(k:∀b u,b≠e->h.get? b=some u->h'.get? b=some u)(heo:∃u,h'.get? e=some u):Un fs ex H (cg H x o) h h':=by
 have hx:∀b,H b=none->b≠x:=fun b n z=>by subst z;rw[n] at mu;exact mu
 have hb:∀b,H b=none->b≠e:=fun b n z=>by
  subst z
  rcases he with r|r
  ·exact hx b n r
  ·rw[n] at r;cases r
 have hm:∀b u,H b=some u->¬Jb (some u)->b≠x:=fun b u q nm z=>by subst z;rw[q] at mu;exact nm mu
 refine⟨fun b u q n _ _=>k b u (hb b n) q,fun b u q n _ _=>⟨u.slots,k b u (hb b n) q⟩,fun b u q n _=>by rw[ax (hx b n)];exact n,fun b u q _=>?_,
  fun b xs q=>by rw[ax (hm b _ q fun z=>z)];exact q,fun b u xs q=>by rw[ax (hm b _ q fun z=>z)];exact q,fun b ps q=>⟨#[],by rw[ax (hm b _ q fun z=>z),q];simp⟩⟩
 by_cases hbe:b=e
 ·subst hbe;exact heo
 ·exact⟨u,k b u hbe q⟩
end
noncomputable def jK (g h:Heap)(L:Addr):List (Addr×Obj):=(List.range h.objs.size).filterMap fun a=>if a=L\/(g.get? a).isSome=true then none else (h.get? a).map fun o=>(a,o)
theorem lA {g h:Heap}{L a:Addr}{o:Obj}(h1:a≠L)(h2:g.get? a=none)(h3:h.get? a=some o):(a,o)∈jK g h L:=
 List.mem_filterMap.mpr ⟨a,List.mem_range.mpr (Heap.lt_size h3),by simp[h1,h2,h3]⟩
theorem mS {g h:Heap}{L:Addr}{p:Addr×Obj}(hp:p∈jK g h L):p.1≠L/\g.get? p.1=none/\h.get? p.1=some p.2:=by
 obtain⟨b,_,e⟩:=List.mem_filterMap.mp hp
 split at e
 ·cases e
 ·rename_i hn
  cases q:h.get? b with
  |none=>rw[q] at e;simp at e
  |some u=>
   rw[q] at e
   simp only[Option.map_some,Option.some.injEq] at e
   subst e
   refine⟨fun z=>hn (.inl z),?_,q⟩
   show g.get? b=none
   cases r:g.get? b with
   |none=>rfl
   |some v=>exact (hn (.inr (by simp[r]))).elim
noncomputable def eM (g h:Heap)(L d:Addr):List (Addr×Obj):=(jK g h L).filter fun p=>decide (p.1≠d)
theorem AW {g h:Heap}{L:Addr}:News g L h (jK g h L):=fun p hp=>let ⟨a,b,c⟩:=mS hp;⟨c,a,b⟩
end L2
namespace L2
open PySem PySem.Spec PyProof.Rows
structure Mod (K:PySem.W.Frag)(mg:Str->Option Value)(base:Heap):Prop where
 kin:K.In base
 glob:base.Ns mainGlobals mg
 blt:∃mb,base.Ns builtinsNs mb/\∀x:Str,x ≠ "__name__"->mb x=bootBuiltins x
 nolimit:base.NoLimit
structure Cx where
 prog:Program
 w:World
 K:PySem.W.Frag
 mg:Str->Option Value
 base:Heap
 A:Around
 N:List Str
 s₀:Shared
 H₀:Hp
 env:Env
 outer:List Env
 stack:List Env
 ex:List Addr
 fn:Str->Bool
 calm:Bool
 pn:List (Addr×Obj)
 xe:Value->Shared->Prop
noncomputable def mv (l:List Env):List Addr:=l.filterMap (·.frame)
noncomputable abbrev Cx.fs (X:Cx):List Addr:=mv X.outer
noncomputable def oo (sc:Scope)(x:Str):Prop:=sc.names.lookup x=some .local\/sc.names.lookup x=some .cell\/sc.names.lookup x=some .free
noncomputable def Ky (sc:Scope)(x:Str):Prop:=sc.names.lookup x=some .local\/sc.names.lookup x=some .cell
noncomputable def HJ (env:Env)(h:Heap)(m:Str->Option Value)(x:Str)(u:Value):Prop:=
 (env.kindOf x=some .local/\m x=some u)\/((env.kindOf x=some .cell\/env.kindOf x=some .free)/\∃c,env.cells.lookup x=some c/\h.IsCell c (some u))
structure Cx.Ok (X:Cx):Prop where
 mod:Mod X.K X.mg X.base
 kind:X.env.scope.kind=.function
 glob:X.env.globals=mainGlobals
 blt:X.env.builtins=builtinsNs
 above:X.s₀.heap.objs.size≤X.env.locals
 inj:∀x y c,X.env.cells.lookup x=some c->X.env.cells.lookup y=some c->x=y
 has:∀x,(X.env.kindOf x=some .cell\/X.env.kindOf x=some .free)->∃c,X.env.cells.lookup x=some c
 cab:∀x c,X.fn x=true->X.env.cells.lookup x=some c->X.s₀.heap.objs.size≤c
 hd:X.calm=true->X.A.handled=none
 frames:X.A.frames=some X.stack
 stk:X.stack=X.outer\/(X.stack=X.env::X.outer/\X.env.frame=some X.env.locals)
 exf:∀b∈X.ex,b≠X.env.locals/\∀x c,X.env.cells.lookup x=some c->c≠b
 bs:∀b o,X.base.get? b=some o->X.s₀.heap.get? b=some o/\X.H₀ b=none
 bsz:X.base.objs.size≤X.s₀.heap.objs.size
 noex:∀b o,X.base.get? b=some o->b∉X.ex
 exfs:∀b∈X.ex,b∉X.fs
 funs:X.s₀.heap.FunFrames X.base X.outer
 frf:∀b∈X.fs,X.H₀ b=none
structure Inv (X:Cx)(pins:List (Addr×Obj))(σ:List (Option V))(H:Hp)(s:Shared):Prop where
 ok:X.Ok
 os:s.os=X.s₀.os
 bare:AllBare s.gens
 base:Un X.fs X.ex X.H₀ H X.s₀.heap s.heap
 loc:∃m,s.heap.Ns X.env.locals m/\∀(i:Nat) (x:Str) (v:V),X.N[i]?=some x->σ[i]?=some (some v)->oo X.env.scope x->∃u,e9 v u/\HJ X.env s.heap m x u
 cell:∀x c,X.env.cells.lookup x=some c->∃v,s.heap.IsCell c v
 free:H X.env.locals=none
 freeC:∀x c,X.env.cells.lookup x=some c->H c=none
 pin:∀p∈X.pn++pins,s.heap.get? p.1=some p.2/\H p.1=none/\p.1≠X.env.locals/\p.1∉X.fs/\∀v,p.2.data≠.cell v
 hok:HOk X.prog X.w H s.heap
 len:σ.length=X.N.length
section
variable {X:Cx}{pins:List (Addr×Obj)}{σ:List (Option V)}{H H':Hp}{s:Shared}{h':Heap}
theorem Cx.Ok.nofr (ok:X.Ok){b:Addr}{o:Obj}(e:X.base.get? b=some o):b∉X.fs:=fun hb=>by
 have:=(ok.funs.mem hb).1
 rw[e] at this;cases this
theorem Inv.bs (I:Inv X pins σ H s):∀b o,X.base.get? b=some o->s.heap.get? b=some o/\H b=none:=fun b o e=>
 ⟨I.base.keep b o (I.ok.bs b o e).1 (I.ok.bs b o e).2 (I.ok.nofr e) (I.ok.noex b o e),I.base.free b o (I.ok.bs b o e).1 (I.ok.bs b o e).2 (I.ok.noex b o e)⟩
theorem Inv.bk (I:Inv X pins σ H s):∀b o,X.base.get? b=some o->s.heap.get? b=some o:=fun b o e=>(I.bs b o e).1
theorem Inv.mod (I:Inv X pins σ H s):Mod X.K X.mg X.base:=I.ok.mod
theorem Inv.kIn (I:Inv X pins σ H s):X.K.In s.heap:=I.ok.mod.kin.keeps I.bk
theorem Inv.fr (I:Inv X pins σ H s):∃m,Fr X.base X.env.locals s.heap m:=
 let ⟨m,hn,_⟩:=I.loc
 ⟨m,hn,I.bk,Nat.le_trans I.ok.bsz I.ok.above⟩
theorem Inv.lt (I:Inv X pins σ H s):X.env.locals<s.heap.objs.size:=let ⟨_,hn,_⟩:=I.loc;hn.lt
theorem Inv.sz (I:Inv X pins σ H s):X.s₀.heap.objs.size≤s.heap.objs.size:=Nat.le_trans I.ok.above (Nat.le_of_lt I.lt)
theorem Inv.nofs (I:Inv X pins σ H s){a:Addr}(h:s.heap.objs.size≤a):a∉X.fs:=fun hb=>by
 obtain⟨_,o,ho,_⟩:=I.ok.funs.mem hb
 exact absurd (Nat.lt_of_lt_of_le (Heap.lt_size ho) (Nat.le_trans I.sz h)) (Nat.lt_irrefl _)
theorem Inv.cne (I:Inv X pins σ H s):∀x c,X.env.cells.lookup x=some c->c≠X.env.locals:=fun x c e z=>by
 obtain⟨v,o,ho,hd⟩:=I.cell x c e
 obtain⟨m,⟨o',es,ep,ho',hd',_⟩,_⟩:=I.loc
 rw[z,ho'] at ho;cases ho;rw[hd'] at hd;cases hd
theorem Inv.funs (I:Inv X pins σ H s):s.heap.FunFrames X.base X.outer:=by
 have all:∀(l:List Env),(∀b∈mv l,b∈X.fs)->X.s₀.heap.FunFrames X.base l->s.heap.FunFrames X.base l:=by
  intro l
  induction l with
  |nil=>intro _ _;trivial
  |cons env r ih=>
   intro hs hl
   obtain⟨hk,⟨L,o,hf,hn,ho,hd⟩,hr⟩:=hl
   have hL:L∈X.fs:=hs L (by unfold mv;rw[List.filterMap_cons,hf];exact List.mem_cons_self)
   obtain⟨sl,e⟩:=I.base.slot L o ho (I.ok.frf L hL) hL fun z=>I.ok.exfs L z hL
   exact⟨hk,⟨L,_,hf,hn,e,hd⟩,ih (fun b hb=>hs b (by unfold mv;rw[List.filterMap_cons,hf];exact List.mem_cons_of_mem _ hb)) hr⟩
 exact all X.outer (fun _ hb=>hb) I.ok.funs
theorem Inv.stack (I:Inv X pins σ H s):s.heap.FunFrames X.base X.stack:=by
 rcases I.ok.stk with e|⟨e,hf⟩
 ·rw[e];exact I.funs
 ·rw[e]
  obtain⟨m,hn,_⟩:=I.loc
  refine .cons (by rw[I.ok.kind];decide) hf hn ?_ I.funs
  exact Heap.get?_none_of_le (Nat.le_trans I.ok.bsz I.ok.above)
theorem Inv.stkSub (I:Inv X pins σ H s):∀b∈mv X.stack,b∈X.env.locals::X.fs:=fun b hb=>by
 rcases I.ok.stk with e|⟨e,hf⟩
 ·rw[e] at hb;exact List.mem_cons_of_mem _ hb
 ·rw[e] at hb
  unfold mv at hb
  rw[List.filterMap_cons,hf] at hb
  exact hb
theorem Inv.stkFree (I:Inv X pins σ H s):∀b∈mv X.stack,H b=none:=fun b hb=>by
 rcases List.mem_cons.mp (I.stkSub b hb) with e|hb
 ·rw[e];exact I.free
 ·obtain⟨_,o,ho,_⟩:=I.ok.funs.mem hb
  exact I.base.free b o ho (I.ok.frf b hb) fun z=>I.ok.exfs b z hb
theorem Inv.step {g':Array GenState}{t':Nat}{d':Drawn}{ch:List Addr}(I:Inv X pins σ H s)
  (hch:∀b∈ch,(b∈X.ex\/X.s₀.heap.objs.size≤b)/\b≠X.env.locals/\(∀x c,X.env.cells.lookup x=some c->c≠b)/\∀p∈X.pn++pins,p.1≠b)
  (keep:∀b o,b≠X.env.locals->b∉X.fs->b∉ch->s.heap.get? b=some o->H b=none->h'.get? b=some o)
  (slot:∀b o,b≠X.env.locals->b∈X.fs->b∉ch->s.heap.get? b=some o->H b=none->∃sl,h'.get? b=some { o with slots:=sl }) (free:∀b o,b∉ch->s.heap.get? b=some o->H b=none->H' b=none)
  (there:∀b o,b∉ch->s.heap.get? b=some o->∃o',h'.get? b=some o')
  (tups:∀b xs,H b=some (.tup xs)->H' b=some (.tup xs)) (frzs:∀b o u,H b=some (.frz o u)->H' b=some (.frz o u)) (tbls:∀b ps,H b=some (.tbl ps)->∃more,H' b=some (.tbl (ps++more)))
  (ns:∀m,s.heap.Ns X.env.locals m->h'.Ns X.env.locals m) (hok:HOk X.prog X.w H' h') (hg:AllBare g') :
  Inv X pins σ H' { s with heap:=h',gens:=g',drawn:=d',toks:=t' }:=by
 have neL:∀b o,X.s₀.heap.get? b=some o->b≠X.env.locals:=fun b o e=>Nat.ne_of_lt (Nat.lt_of_lt_of_le (Heap.lt_size e) I.ok.above)
 have neC:∀b o,X.s₀.heap.get? b=some o->b∉X.ex->b∉ch:=fun b o e hx hb=>by
  rcases (hch b hb).1 with z|z
  ·exact hx z
  ·exact absurd (Nat.lt_of_lt_of_le (Heap.lt_size e) z) (Nat.lt_irrefl _)
 have cellK:∀x c,X.env.cells.lookup x=some c->∀v,s.heap.IsCell c v->h'.IsCell c v:=fun x c e v ⟨o,ho,hd⟩=>by
  have nch:c∉ch:=fun z=>(hch c z).2.2.1 x c e rfl
  by_cases hc:c∈X.fs
  ·obtain⟨sl,q⟩:=slot c o (I.cne x c e) hc nch ho (I.freeC x c e)
   exact⟨_,q,hd⟩
  ·exact⟨o,keep c o (I.cne x c e) hc nch ho (I.freeC x c e),hd⟩
 refine⟨I.ok,I.os,hg,⟨fun b o e n hb hx=>?_,fun b o e n hb hx=>?_,fun b o e n hx=>?_,fun b o e hx=>?_,fun b xs e=>tups b xs (I.base.tups b xs e),fun b o xs e=>frzs b o xs (I.base.frzs b o xs e),fun b ps e=>?_⟩,?_,fun x c e=>?_,?_,fun x c e=>?_,fun p hp=>?_,hok,I.len⟩
 ·exact keep b o (neL b o e) hb (neC b o e hx) (I.base.keep b o e n hb hx) (I.base.free b o e n hx)
 ·obtain⟨sl,e1⟩:=I.base.slot b o e n hb hx
  obtain⟨sl',e2⟩:=slot b _ (neL b o e) hb (neC b o e hx) e1 (I.base.free b o e n hx)
  exact⟨sl',e2⟩
 ·obtain⟨o',e1⟩:=I.base.there b o e hx
  exact free b o' (neC b o e hx) e1 (I.base.free b o e n hx)
 ·obtain⟨o',e1⟩:=I.base.there b o e hx
  exact there b o' (neC b o e hx) e1
 ·obtain⟨m1,e1⟩:=I.base.tbls b ps e
  obtain⟨m2,e2⟩:=tbls b _ e1
  exact⟨m1++m2,by rw[e2,Array.append_assoc]⟩
 ·obtain⟨m,hn,hl⟩:=I.loc
  refine⟨m,ns m hn,fun i x v e1 e2 e3=>?_⟩
  obtain⟨u,r,l⟩:=hl i x v e1 e2 e3
  refine⟨u,r,?_⟩
  rcases l with l|⟨k,c,e,z⟩
  ·exact .inl l
  ·exact .inr ⟨k,c,e,cellK x c e _ z⟩
 ·obtain⟨v,z⟩:=I.cell x c e
  exact⟨v,cellK x c e v z⟩
 ·obtain⟨m,⟨o,_,_,ho,_⟩,_⟩:=I.loc
  exact free _ o (fun z=>(hch _ z).2.1 rfl) ho I.free
 ·obtain⟨v,o,ho,hd⟩:=I.cell x c e
  exact free c o (fun z=>(hch c z).2.2.1 x c e rfl) ho (I.freeC x c e)
 ·obtain⟨e,n,ne,nf,d⟩:=I.pin p hp
  have nch:p.1∉ch:=fun z=>(hch p.1 z).2.2.2 p hp rfl
  exact⟨keep p.1 p.2 ne nf nch e n,free p.1 p.2 nch e n,ne,nf,d⟩
theorem Inv.un {t':Nat}(I:Inv X pins σ H s)(u:Un X.fs [] H H' s.heap h')(hok:HOk X.prog X.w H' h'):Inv X pins σ H' { s with heap:=h',toks:=t' }:=by
 obtain⟨m,⟨o,es,ep,ho,r⟩,_⟩:=id I.loc
 obtain⟨sl,hL⟩:=u.any ho I.free (by simp)
 exact I.step (g':=s.gens) (d':=s.drawn) (ch:=[]) (fun _ z=>nomatch z) (fun b o _ hb _ e n=>u.keep b o e n hb (by simp)) (fun b o _ hb _ e n=>u.slot b o e n hb (by simp)) (fun b o _ e n=>u.free b o e n (by simp)) (fun b o _ e=>u.there b o e (by simp)) u.tups u.frzs u.tbls (fun m' hm=>by
  obtain⟨o',es',ep',ho',r'⟩:=hm
  rw[ho] at ho';cases ho'
  exact⟨_,es',ep',hL,r'⟩) hok I.bare
theorem Inv.call {g':Array GenState}{t':Nat}{d':Drawn}{ch:List Addr}(I:Inv X pins σ H s)(u:Un (mv X.stack) ch H H' s.heap h')(hok:HOk X.prog X.w H' h')(hg:AllBare g')
  (hch:∀b∈ch,(b∈X.ex\/X.s₀.heap.objs.size≤b)/\b≠X.env.locals/\(∀x c,X.env.cells.lookup x=some c->c≠b)/\∀p∈X.pn++pins,p.1≠b) :
  Inv X pins σ H' { s with heap:=h',gens:=g',drawn:=d',toks:=t' }:=by
 obtain⟨m,⟨o,es,ep,ho,r⟩,_⟩:=id I.loc
 obtain⟨sl,hL⟩:=u.any ho I.free fun z=>(hch _ z).2.1 rfl
 exact I.step (ch:=ch) hch (fun b o hL hb hc e n=>u.keep b o e n (fun z=>(List.mem_cons.mp (I.stkSub b z)).elim hL hb) hc) (fun b o _ _ hc e n=>u.any e n hc) (fun b o hc e n=>u.free b o e n hc) (fun b o hc e=>u.there b o e hc) u.tups u.frzs u.tbls (fun m' hm=>by
  obtain⟨o',es',ep',ho',r'⟩:=hm
  rw[ho] at ho';cases ho'
  exact⟨_,es',ep',hL,r'⟩) hok hg
theorem Inv.turned {t':Nat}{it:Addr}(I:Inv X pins σ H s)(k:∀b o,b≠it->s.heap.get? b=some o->h'.get? b=some o)(hn:H it=none)(hL:it≠X.env.locals)
  (h1:it∈X.ex\/X.s₀.heap.objs.size≤it) (h2:∀x c,X.env.cells.lookup x=some c->c≠it) (h3:∀p∈X.pn++pins,p.1≠it):Inv X pins σ H { s with heap:=h',toks:=t' }:=by
 have nit:∀b u,H b=some u->b≠it:=fun b u e z=>by rw[z,hn] at e;cases e
 refine I.step (g':=s.gens) (d':=s.drawn) (ch:=[it]) (fun b hb=>?_) (fun b o _ _ hc e _=>k b o (fun z=>hc (by simp[z])) e) (fun b o _ _ hc e _=>⟨o.slots,k b o (fun z=>hc (by simp[z])) e⟩) (fun _ _ _ _ n=>n)
  (fun b o hc e=>⟨o,k b o (fun z=>hc (by simp[z])) e⟩) (fun _ _ e=>e) (fun _ _ _ e=>e) (fun b ps e=>⟨#[],by rw[e];simp⟩) (fun m hm=>?_) (fun b u e=>?_) I.bare
 ·have e:b=it:=by simpa using hb
  subst e
  exact⟨h1,hL,h2,h3⟩
 ·obtain⟨o,es,ep,ho,r⟩:=hm
  exact⟨o,es,ep,k _ o (Ne.symm hL) ho,r⟩
 ·refine (I.hok b u e).stay (fun c v hc q=>k c v ?_ q) (fun _ q=>q) fun _ _ q=>q
  rcases hc with z|z
  ·rw[z];exact nit b u e
  ·exact nit c _ z
theorem Inv.kept {t':Nat}(I:Inv X pins σ H s)(k:∀b u,s.heap.get? b=some u->h'.get? b=some u):Inv X pins σ H { s with heap:=h',toks:=t' }:=I.un (Un.kept k) (I.hok.kept k)
theorem Inv.write {x e:Addr}{o:HO}{t':Nat}(I:Inv X pins σ H s)(mu:Jb (H x))(he:e=x\/H e=some (.own x))(k:∀b u,b≠e->s.heap.get? b=some u->h'.get? b=some u)(heo:∃u,h'.get? e=some u)
  (new:ObjOk X.prog X.w (cg H x o) h' x o):Inv X pins σ (cg H x o) { s with heap:=h',toks:=t' }:=I.un (Un.write mu he k heo) (I.hok.write mu he k heo new)
theorem Inv.pins_of {pins':List (Addr×Obj)}(I:Inv X pins σ H s)(h:∀p∈pins',s.heap.get? p.1=some p.2/\H p.1=none/\p.1≠X.env.locals/\p.1∉X.fs/\∀v,p.2.data≠.cell v):Inv X pins' σ H s:=
 ⟨I.ok,I.os,I.bare,I.base,I.loc,I.cell,I.free,I.freeC,fun p hp=>(List.mem_append.mp hp).elim (fun z=>I.pin p (List.mem_append_left _ z)) (h p),I.hok,I.len⟩
theorem sn {N:List Str}(hN:N.Nodup){i j:Nat}{x:Str}(a:N[i]?=some x)(b:N[j]?=some x):i=j:=by
 obtain⟨h1,e1⟩:=List.getElem?_eq_some_iff.mp a
 obtain⟨h2,e2⟩:=List.getElem?_eq_some_iff.mp b
 exact (List.getElem_inj hN).mp (e1.trans e2.symm)
theorem iR {M:Model}{A:Around}{E:Value->Shared->Prop}{i:Nat}{x:Str}{v:V}{u:Value}{Q:Unit->Shared->Prop}(I:Inv X pins σ H s)(hN:X.N.Nodup)(hi:X.N[i]?=some x)(hx:Ky X.env.scope x)(r:e9 v u)
  (h:∀s',Inv X pins (σ.set i (some v)) H s'->(∃a,Heap.SameBut a s.heap s'.heap/\(a=X.env.locals\/X.env.cells.lookup x=some a))->Q () s') (hf:X.fn x=true\/X.env.scope.names.lookup x=some .local:=by first|exact .inl rfl|exact .inr rfl|assumption):wpAny M A (storeName X.env x u) Q E s:=by
 obtain⟨m,hn,hl⟩:=id I.loc
 have hcls:(X.env.scope.kind==.class || (X.env.scope.kind==.module&&X.env.locals != X.env.globals))=false:=by rw[I.ok.kind];rfl
 have hiσ:i<σ.length:=by rw[I.len];exact (List.getElem?_eq_some_iff.mp hi).1
 have cne:=I.cne
 have tracked:∀{a:Addr} {h':Heap},(∃o,s.heap.get? a=some o/\H a=none)->Heap.SameBut a s.heap h'->HOk X.prog X.w H h':=fun {a h'} ha hs b ob e=>by
  obtain⟨_,_,hfree⟩:=ha
  refine (I.hok b ob e).stay (fun c w' hc q=>(hs.2 c ?_).trans q) (fun _ q=>q) fun _ _ q=>q
  rintro rfl
  rcases hc with rfl|hc
  ·rw[hfree] at e;cases e
  ·rw[hfree] at hc;cases hc
 rcases hx with hk|hk
 ·refine wpAny_storeName_local hk hn (fun h' hn' hs=>?_) hcls
  obtain⟨oL,_,_,hoL,_⟩:=id hn
  refine h _ ⟨I.ok,I.os,I.bare,⟨fun b o e n hb hx=>?_,fun b o e n hb hx=>?_,I.base.free,fun b o e hx=>?_,I.base.tups,I.base.frzs,I.base.tbls⟩,⟨_,hn',fun j y v' e1 e2 e3=>?_⟩,fun y c e=>?_,I.free,I.freeC,fun p hp=>?_,tracked ⟨oL,hoL,I.free⟩ hs,by simpa using I.len⟩ ⟨_,hs,.inl rfl⟩
  ·exact (hs.2 b (Nat.ne_of_lt (Nat.lt_of_lt_of_le (Heap.lt_size e) I.ok.above))).trans (I.base.keep b o e n hb hx)
  ·obtain⟨sl,e1⟩:=I.base.slot b o e n hb hx
   exact⟨sl,(hs.2 b (Nat.ne_of_lt (Nat.lt_of_lt_of_le (Heap.lt_size e) I.ok.above))).trans e1⟩
  ·obtain⟨o',e1⟩:=I.base.there b o e hx
   exact⟨o',(hs.2 b (Nat.ne_of_lt (Nat.lt_of_lt_of_le (Heap.lt_size e) I.ok.above))).trans e1⟩
  ·by_cases hj:j=i
   ·subst hj
    rw[hi] at e1;cases e1
    rw[List.getElem?_set_self hiσ] at e2
    cases e2
    exact⟨u,r,.inl ⟨hk,by simp⟩⟩
   ·rw[List.getElem?_set_ne (Ne.symm hj)] at e2
    obtain⟨u',r',q⟩:=hl j y v' e1 e2 e3
    refine⟨u',r',?_⟩
    rcases q with ⟨k,e⟩|⟨k,c,e,z⟩
    ·refine .inl ⟨k,?_⟩
     have:y≠x:=fun e=>hj (sn hN e1 (e▸hi))
     simp[this,e]
    ·exact .inr ⟨k,c,e,z.sameBut hs (cne y c e)⟩
  ·obtain⟨w',z⟩:=I.cell y c e
   exact⟨w',z.sameBut hs (cne y c e)⟩
  ·obtain⟨e,n,ne,nf,d⟩:=I.pin p hp
   exact⟨(hs.2 p.1 ne).trans e,n,ne,nf,d⟩
 ·have hfn:X.fn x=true:=by
   rcases hf with z|z
   ·exact z
   ·rw[z] at hk;cases hk
  obtain⟨c,hc⟩:=I.ok.has x (.inl hk)
  obtain⟨w',z⟩:=I.cell x c hc
  refine wpAny_storeName_cell I.ok.kind hk hc z (fun h' hc' hs=>?_)
  obtain⟨oc,hoc,hocd⟩:=id z
  refine h { s with heap:=h' } ⟨I.ok,I.os,I.bare,⟨fun b o e n hb hx=>?_,fun b o e n hb hx=>?_,I.base.free,fun b o e hx=>?_,I.base.tups,I.base.frzs,I.base.tbls⟩,⟨m,hn.sameBut hs (Ne.symm (cne x c hc)),fun j y v' e1 e2 e3=>?_⟩,fun y c' e=>?_,I.free,I.freeC,fun p hp=>?_,tracked ⟨oc,hoc,I.freeC x c hc⟩ hs,by simpa using I.len⟩ ⟨c,hs,.inr hc⟩
  ·exact (hs.2 b (Nat.ne_of_lt (Nat.lt_of_lt_of_le (Heap.lt_size e) (I.ok.cab x c hfn hc)))).trans (I.base.keep b o e n hb hx)
  ·obtain⟨sl,e1⟩:=I.base.slot b o e n hb hx
   exact⟨sl,(hs.2 b (Nat.ne_of_lt (Nat.lt_of_lt_of_le (Heap.lt_size e) (I.ok.cab x c hfn hc)))).trans e1⟩
  ·obtain⟨o',e1⟩:=I.base.there b o e hx
   exact⟨o',(hs.2 b (Nat.ne_of_lt (Nat.lt_of_lt_of_le (Heap.lt_size e) (I.ok.cab x c hfn hc)))).trans e1⟩
  ·by_cases hj:j=i
   ·subst hj
    rw[hi] at e1;cases e1
    rw[List.getElem?_set_self hiσ] at e2
    cases e2
    exact⟨u,r,.inr ⟨.inl hk,c,hc,hc'⟩⟩
   ·rw[List.getElem?_set_ne (Ne.symm hj)] at e2
    obtain⟨u',r',q⟩:=hl j y v' e1 e2 e3
    refine⟨u',r',?_⟩
    rcases q with q|⟨k,c',e,z'⟩
    ·exact .inl q
    ·refine .inr ⟨k,c',e,z'.sameBut hs ?_⟩
     rintro rfl
     exact hj (sn hN e1 (I.ok.inj _ _ _ e hc▸hi))
  ·by_cases hcc:c'=c
   ·subst hcc;exact⟨_,hc'⟩
   ·obtain⟨w2,z2⟩:=I.cell y c' e
    exact⟨w2,z2.sameBut hs hcc⟩
  ·obtain⟨e,n,ne,nf,d⟩:=I.pin p hp
   refine⟨(hs.2 p.1 ?_).trans e,n,ne,nf,d⟩
   intro q
   rw[q,hoc] at e
   have q':oc=p.2:=Option.some.inj e
   exact d w' (by rw[←q'];exact hocd)
theorem Inv.call' {s':Shared}{ch:List Addr}(I:Inv X pins σ H s)(ho:s'.os=s.os)(u:Un (mv X.stack) ch H H' s.heap s'.heap)(hok:HOk X.prog X.w H' s'.heap)(hg:AllBare s'.gens)
  (hch:∀b∈ch,(b∈X.ex\/X.s₀.heap.objs.size≤b)/\b≠X.env.locals/\(∀x c,X.env.cells.lookup x=some c->c≠b)/\∀p∈X.pn++pins,p.1≠b):Inv X pins σ H' s':=by
 obtain⟨h',g',d',t',o'⟩:=s'
 have e:o'=s.os:=ho
 subst e
 exact I.call (g':=g') (t':=t') (d':=d') u hok hg hch
end
noncomputable abbrev XK:=Value->Option Addr->Hp->Prop
noncomputable abbrev St:=List (Option V)
noncomputable abbrev VK:=V->Hp->Prop
noncomputable abbrev TE:=St->Hp->VK->Prop
noncomputable abbrev TT:=St->Hp->(Bool->Hp->Prop)->Prop
noncomputable abbrev TA:=St->Hp->(List V->Hp->Prop)->Prop
structure Ends where
 nx:St->Hp->Prop
 rt:VK
 bk:St->Hp->Prop:=fun _ _=>False
 ct:St->Hp->Prop:=fun _ _=>False
noncomputable abbrev TS:=Ends->St->Hp->Prop
noncomputable def EP (X:Cx)(pins:List (Addr×Obj))(σ:St)(Q:VK)(u:Value)(s':Shared):Prop:=∃v H',Inv X pins σ H' s'/\e9 v u/\Q v H'
noncomputable def PE (X:Cx)(e:Expr)(t:TE):Prop:=
 ∀(pins:List (Addr×Obj)) (s:Shared) (σ:St) (H:Hp) (Q:VK),Inv X pins σ H s->t σ H Q->wpAny (model X.prog X.w) X.A (eval e X.env) (EP X pins σ Q) X.xe s
theorem az {α:Type}{t:Sem α}{Q Q':α->Shared->Prop}{M:Model}{A:Around}{E:Value->Shared->Prop}{s:Shared}(h:wpAny M A t Q E s)(hQ:∀a s,Q a s->Q' a s):wpAny M A t Q' E s:=wpAny_mono h hQ fun _ _ x=>x
end L2
namespace L2
open PySem PySem.Spec PyProof.Rows
section
variable {X:Cx}
noncomputable def HK (i:Nat):TE:=fun σ H Q=>∃v,σ[i]?=some (some v)/\Q v H
theorem FM {i:Nat}{x:Str}{pos:Pos}(hN:X.N[i]?=some x)(hv:oo X.env.scope x)(hd:(x==("__debug__" : Str))=false:=by decide)(hcd:(x==("__classdict__" : Str))=false:=by decide):PE X (.Name x pos) (HK i):=by
 intro pins s σ H Q I h
 obtain⟨v,e,h⟩:=h
 obtain⟨m,hn,hl⟩:=I.loc
 obtain⟨u,r,l⟩:=hl i x v hN e hv
 have fin:EP X pins σ Q u s:=⟨v,H,I,r,h⟩
 rcases l with ⟨hk,hm⟩|⟨hk,c,hc,hcell⟩
 ·exact wpAny_Name (wpAny_loadName_local I.ok.kind hk hn hm fin) hd
 ·rcases hk with hk|hk
  ·exact wpAny_Name (wpAny_loadName_cell I.ok.kind hk hc hcell fin) hd
  ·exact wpAny_Name (wpAny_loadName_free I.ok.kind hk hc hcell fin hcd) hd
noncomputable def Gl (X:Cx)(x:Str):Prop:=X.env.kindOf x=some .globalImplicit
theorem l4 {E:Value->Shared->Prop}{pins:List (Addr×Obj)}{s:Shared}{σ:St}{H:Hp}{x:Str}{u:Value}{pos:Pos}{Q:Value->Shared->Prop}(I:Inv X pins σ H s)(hg:Gl X x)(hm:X.mg x=some u)(h:Q u s)
  (hd:(x==("__debug__" : Str))=false:=by decide):wpAny (model X.prog X.w) X.A (eval (.Name x pos) X.env) Q E s:=
 Calls.Name_function_global I.ok.kind hg (Calls.loadGlobal_global (by rw[I.ok.glob];exact I.mod.glob.keeps I.bk) hm h) hd
theorem jl {E:Value->Shared->Prop}{pins:List (Addr×Obj)}{s:Shared}{σ:St}{H:Hp}{x:Str}{u:Value}{pos:Pos}{Q:Value->Shared->Prop}(I:Inv X pins σ H s)(hg:Gl X x)(hm:X.mg x=none)(hv:bootBuiltins x=some u)(h:Q u s)
  (hn:x ≠ "__name__":=by decide) (hd:(x==("__debug__" : Str))=false:=by decide):wpAny (model X.prog X.w) X.A (eval (.Name x pos) X.env) Q E s:=by
 obtain⟨mb,h1,h2⟩:=I.mod.blt
 exact Calls.Name_function_global I.ok.kind hg (Calls.loadGlobal_builtin (by rw[I.ok.glob];exact I.mod.glob.keeps I.bk) hm (by rw[I.ok.blt];exact h1.keeps I.bk) ((h2 x hn).trans hv) h) hd
variable {a b:Expr}{ta tb:TE}{pos:Pos}
variable {tA tB':TT}{eM:List Expr}
end
end L2
namespace L2
open PySem PySem.Spec PyProof.Rows
noncomputable def KB (K:PySem.W.Frag)(H:Hp)(a:Addr)(xs:List V):Prop:=
 Rd H a (.lst xs) ∨
  ∃(o:Obj) (its:Array Value) (n:Nat),K.lookup a=some o/\o.cls=.type "list"/\o.dict=none/\o.data=.seq its n/\its.size≤sizeLine/\Vals xs its.toList
noncomputable def Kx (K:PySem.W.Frag)(H:Hp)(a:Addr)(xs:List V):Prop:=
 Rd H a (.tup xs) ∨
  ∃(o:Obj) (its:Array Value) (n:Nat),K.lookup a=some o/\o.cls=.type "tuple"/\o.data=.seq its n/\its.size≤sizeLine/\Vals xs its.toList
section
variable {X:Cx}{pins:List (Addr×Obj)}{σ:St}{H:Hp}{s:Shared}{a:Addr}{xs ys:List V}
end
section
variable {X:Cx}{pins:List (Addr×Obj)}{σ:St}{H:Hp}{s:Shared}{E:Value->Shared->Prop}
end
section
variable {X:Cx}{st:Stmt}{eM:List Stmt}{t u:TS}{e:Expr}{te:TE}{pos:Pos}
theorem Inv.quiet {pins:List (Addr×Obj)}{σ:St}{H:Hp}{s:Shared}(I:Inv X pins σ H s):interactive X.env=false:=by simp[interactive,I.ok.kind]
end
noncomputable def fU (X:Cx)(pins:List (Addr×Obj))(H:Hp)(b:Addr):Prop:=
 H b=none/\b≠X.env.locals/\b∉X.fs/\(b∈X.ex\/X.s₀.heap.objs.size≤b)/\(∀x c,X.env.cells.lookup x=some c->c≠b)/\∀p∈X.pn++pins,p.1≠b
theorem Inv.fpOk {X:Cx}{pins:List (Addr×Obj)}{σ:St}{H H':Hp}{s:Shared}{b:Addr}(I:Inv X pins σ H s)(hb:s.heap.objs.size≤b)(hn:H' b=none):fU X pins H' b:=by
 refine⟨hn,Nat.ne_of_gt (Nat.lt_of_lt_of_le I.lt hb),I.nofs hb,.inr (Nat.le_trans I.sz hb),fun x c e z=>?_,fun p hp z=>?_⟩
 ·obtain⟨v,q⟩:=I.cell x c e
  exact absurd (Nat.lt_of_lt_of_le q.lt (by rw[z];exact hb)) (Nat.lt_irrefl _)
 ·exact absurd (Nat.lt_of_lt_of_le (Heap.lt_size (I.pin p hp).1) (by rw[z];exact hb)) (Nat.lt_irrefl _)
theorem lg {M:Model}{A:Around}{E:Value->Shared->Prop}{s:Shared}{tg:Expr}{it:Addr}{u:Value}{o:Obj}{n:String}{vs:Array Value}{Q:Unit->Shared->Prop}(ho:s.heap.get? it=some o)(hc:o.cls=.type n)(hd:o.data=.fields vs)
  (hn:["enumerate","zip","dict_itemiterator","dict_reverseitemiterator","odict_iterator","itertools.zip_longest","itertools.pairwise"].contains n=false) (hQ:Q () s):wpAny M A (letOwnedTupleGo tg (.ref it) u) Q E s:=by
 unfold letOwnedTupleGo
 cases tg<;>first
  |exact wpAny_pure hQ
  |(cases u<;>first
    |exact wpAny_pure hQ
    |(refine wpAny_bind (wpAny_load ho ?_)
      rw[hc,hd]
      show wpAny M A (if (["enumerate","zip","dict_itemiterator","dict_reverseitemiterator","odict_iterator","itertools.zip_longest","itertools.pairwise"].contains n&&vs[0]?==some (rawInt _))=true then _ else _) Q E s
      rw[if_neg (by intro h;rw[hn,Bool.false_and] at h;cases h)]
      exact wpAny_pure hQ))
end L2
namespace L2
open PySem PySem.Spec PyProof.Rows
section
variable {X:Cx}{tg:Expr}
noncomputable def iE (fp:List Addr)(h:Heap):List (Addr×Obj):=fp.filterMap fun b=>(h.get? b).map fun o=>(b,o)
theorem tH {fp:List Addr}{h:Heap}{b:Addr}{o:Obj}(hb:b∈fp)(e:h.get? b=some o):(b,o)∈iE fp h:=List.mem_filterMap.mpr ⟨b,hb,by rw[e];rfl⟩
theorem wU {fp:List Addr}{h:Heap}{p:Addr×Obj}(hp:p∈iE fp h):p.1∈fp/\h.get? p.1=some p.2:=by
 obtain⟨b,hb,e⟩:=List.mem_filterMap.mp hp
 cases q:h.get? b with
 |none=>rw[q] at e;cases e
 |some o=>
  rw[q] at e
  have e':(b,o)=p:=Option.some.inj e
  subst e'
  exact⟨hb,q⟩
theorem Inv.pinned {pins:List (Addr×Obj)}{σ:St}{H:Hp}{s:Shared}{fp:List Addr}(I:Inv X pins σ H s)(hf:∀b∈fp,fU X pins H b)(ho:∀b∈fp,∃o,s.heap.get? b=some o/\∀v,o.data≠.cell v):Inv X (pins++iE fp s.heap) σ H s:=
 I.pins_of fun p hp=>(List.mem_append.mp hp).elim (fun z=>I.pin p (List.mem_append_right _ z)) fun z=>by
  obtain⟨hb,e⟩:=wU z
  obtain⟨f0,f1,f2,_⟩:=hf p.1 hb
  obtain⟨o,e',d⟩:=ho p.1 hb
  rw[e] at e';cases e'
  exact⟨e,f0,f1,f2,d⟩
theorem Inv.unpinned {pins pl:List (Addr×Obj)}{σ:St}{H:Hp}{s:Shared}(I:Inv X (pins++pl) σ H s):Inv X pins σ H s:=I.pins_of fun p hp=>I.pin p (List.mem_append_right _ (List.mem_append_left _ hp))
end
end L2
namespace L2
open PySem PySem.Spec PyProof.Rows
noncomputable abbrev R2:=V->V->Hp->VK->Prop
noncomputable def rI (C:Int->Int->Prop)(g:Int->Int->V):R2:=fun x y H Q=>∃i j,x=.int i/\y=.int j/\C i j/\Q (g i j) H
section
variable {X:Cx}{a b c:Expr}{ta tb tc:TE}{pos:Pos}
noncomputable def CMul (i j:Int):Prop:=(-(2 ^ 64)<i/\i<2 ^ 64)\/(-(2 ^ 64)<j/\j<2 ^ 64)
theorem CMul.ok {i j:Int}(h:CMul i j):IntMulOk i j:=by
 rcases h with ⟨h1,h2⟩|⟨h1,h2⟩
 ·exact .of_left (intBits_le_64 h1 h2)
 ·exact .of_right (intBits_le_64 h1 h2)
theorem tF (k:Nat):(0:Int)≤2 ^ k:=by
 rw[two_pow_cast]
 exact Int.natCast_nonneg _
end
noncomputable def Gq:V->V->Bool
 |.non,.non=>true|.non,.int _=>true|.int _,.non=>true|.non,.bl _=>true|.bl _,.non=>true|.non,.str _=>true|.str _,.non=>true
 |.int _,.int _=>true|.bl _,.bl _=>true|.str _,.str _=>true|.byt _,.byt _=>true
 |.int _,.str _=>true|.str _,.int _=>true|.bl _,.str _=>true|.str _,.bl _=>true
 |_,_=>false
noncomputable def i4:R2:=fun x y H Q=>Gq x y=true/\Q (.bl (decide (x=y))) H
noncomputable def i6:R2:=fun x y H Q=>Gq x y=true/\Q (.bl (!decide (x=y))) H
section
variable {X:Cx}{a b c:Expr}{ta tb tc:TE}{pos:Pos}
theorem kP:(sizeLine:Nat)<2 ^ 63:=by rw[sizeLine_eq];decide
end
end L2
namespace L2
open PySem PySem.Spec PyProof.Rows
section
variable {X:Cx}{o e value:Expr}{f:Str}{pos pos' tpos:Pos}{ta tv:TE}
noncomputable def bO:V->V->Hp->VK->Prop:=fun x y H Q=>∃i j,x=.int i/\y=.int j/\Q (.int (i+j)) H
noncomputable def rT:V->V->Hp->VK->Prop:=fun x y H Q=>∃i j,x=.int i/\y=.int j/\Q (.int (i - j)) H
end
section
variable {X:Cx}{pins:List (Addr×Obj)}{σ:St}{H:Hp}{s:Shared}{A:Around}{E:Value->Shared->Prop}{Q:Value->Shared->Prop}{c:Value}{b:Bool}
end
end L2
namespace L2
open PySem PySem.Spec PyProof.Rows
noncomputable abbrev Sp:=List V->Hp->VK->XK->Prop
noncomputable abbrev KD:=List Env->Hp->Shared->XK->Value->Shared->Prop
structure Env0 (P:Program)(w:World)(K:PySem.W.Frag)(mg:Str->Option Value)(base:Heap)(A:Around)(outer:List Env)(s:Shared)(H:Hp):Prop where
 frames:A.frames=some outer
 mod:Mod K mg base
 bs:∀b o,base.get? b=some o->s.heap.get? b=some o/\H b=none
 bsz:base.objs.size≤s.heap.objs.size
 funs:s.heap.FunFrames base outer
 frf:∀b∈mv outer,H b=none
 hok:HOk P w H s.heap
 bare:AllBare s.gens
section
variable {X:Cx}{pins:List (Addr×Obj)}{σ:St}{H:Hp}{s s':Shared}
theorem Inv.env0 (I:Inv X pins σ H s):Env0 X.prog X.w X.K X.mg X.base X.A X.stack s H:=
 ⟨I.ok.frames,I.ok.mod,I.bs,Nat.le_trans I.ok.bsz I.sz,I.stack,I.stkFree,I.hok,I.bare⟩
end
noncomputable def Binds (K:PySem.W.Frag)(fd:FuncData)(ps:List Str)(ds:List Value):Prop:=
 ∀(s:Shared) (us:List Value),K.In s.heap->(us++ds).length=ps.length->BindsTo s fd ⟨us,[]⟩ (ps.zip (us++ds))
theorem Binds.all {K:PySem.W.Frag}{fd:FuncData}{ps:List Str}(h:∀us:List Value,us.length=ps.length->bindArgs fd ⟨us,[]⟩=pure (ps.zip us)):Binds K fd ps []:=fun s us _ hl=>by
 rw[List.append_nil] at hl ⊢
 exact .of_eq (h us hl)
section
variable {X:Cx}{CX:KD}{k:Nat}{f C:Addr}{fd:FuncData}{ps:List Str}{sp:Sp}{dvs:List V}{ds:List Value}{E:XK}{x m:Str}{p pos apos:Pos}{e o:Expr}{es:List Expr}{ta:TE}{t:TA}
end
section
variable {X:Cx}{CX:KD}{k:Nat}{f C:Addr}{fd:FuncData}{ps ks:List Str}{sp:Sp}{E:XK}{x m:Str}{p pos apos kpos:Pos}{e o:Expr}{es:List Expr}{kws:List Keyword}{te ta:TE}{t tk:TA}{nm:Option Str}
variable {g:List Value->List Value->List Value}{gV:List V->List V->List V}
end
structure FnScope (N P:List Str)(sc:Scope):Prop where
 kind:sc.kind=.function
 co:sc.isCoroutine=false
 gen:sc.isGenerator=false
 nd:N.Nodup
 pre:N.take P.length=P
 par:∀x∈P,sc.names.lookup x=some .local\/sc.names.lookup x=some .cell
 nofree:∀y∈sc.names,y.2≠.free
theorem pI {kindOf:Str->Option NameKind}{x:Str}:∀{binds:List (Str×Value)} {m:Str->Option Value},(∀v,(x,v)∉binds)->bindL kindOf binds m x=m x
 |[],_,_=>rfl
 |(n,v)::r,m,h=>by
  unfold bindL
  rw[pI fun w hw=>h w (List.mem_cons_of_mem _ hw)]
  split
  ·have:x≠n:=by rintro rfl;exact h v List.mem_cons_self
   simp[this]
  ·rfl
theorem oU {kindOf:Str->Option NameKind}{x:Str}:∀{binds:List (Str×Value)} {m:Str->Option Value},(∀v,(x,v)∉binds)->bindC kindOf binds m x=m x
 |[],_,_=>rfl
 |(n,v)::r,m,h=>by
  unfold bindC
  rw[oU fun w hw=>h w (List.mem_cons_of_mem _ hw)]
  split
  ·rfl
  ·have:x≠n:=by rintro rfl;exact h v List.mem_cons_self
   simp[this]
theorem pg {kindOf:Str->Option NameKind}{x:Str}{v:Value}:∀{P:List Str} {vs:List Value} {i:Nat} {m:Str->Option Value},P.Nodup->P[i]?=some x->vs[i]?=some v->kindOf x=some .local →
  bindL kindOf (P.zip vs) m x=some v
 |[],_,_,_,_,h,_,_=>by simp at h
 |_::_,[],_,_,_,_,h,_=>by simp at h
 |p::P,w::vs,0,m,nd,h1,h2,hk=>by
  simp at h1 h2;subst h1;subst h2
  show bindL kindOf ((p,w)::P.zip vs) m p=_
  unfold bindL
  rw[pI fun v hv=>(List.nodup_cons.mp nd).1 (List.of_mem_zip hv).1,if_pos hk]
  simp
 |p::P,w::vs,i+1,m,nd,h1,h2,hk=>by
  show bindL kindOf ((p,w)::P.zip vs) m x=_
  unfold bindL
  exact pg (i:=i) (List.nodup_cons.mp nd).2 (by simpa using h1) (by simpa using h2) hk
theorem pE {kindOf:Str->Option NameKind}{x:Str}{v:Value}:∀{P:List Str} {vs:List Value} {i:Nat} {m:Str->Option Value},P.Nodup->P[i]?=some x->vs[i]?=some v->kindOf x≠some .local →
  bindC kindOf (P.zip vs) m x=some v
 |[],_,_,_,_,h,_,_=>by simp at h
 |_::_,[],_,_,_,_,h,_=>by simp at h
 |p::P,w::vs,0,m,nd,h1,h2,hk=>by
  simp at h1 h2;subst h1;subst h2
  show bindC kindOf ((p,w)::P.zip vs) m p=_
  unfold bindC
  rw[oU fun v hv=>(List.nodup_cons.mp nd).1 (List.of_mem_zip hv).1,if_neg hk]
  simp
 |p::P,w::vs,i+1,m,nd,h1,h2,hk=>by
  show bindC kindOf ((p,w)::P.zip vs) m x=_
  unfold bindC
  exact pE (i:=i) (List.nodup_cons.mp nd).2 (by simpa using h1) (by simpa using h2) hk
noncomputable def eW (N:List Str)(vs:List V):St:=vs.map some++List.replicate (N.length - vs.length) none
theorem rG {sc:Scope}{n:Nat}{x:Str}(h:sc.names.lookup x=some .cell):∃c,(cellsFrom n sc.names []).lookup x=some c:=by
 have q:=PySem.W.cellsFrom_some sc.names n [] (.inl h)
 exact Option.isSome_iff_exists.mp q
end L2
namespace L2
open PySem PySem.Spec PyProof.Rows
end L2
namespace HT
open PySem PyProof.Rows
section
variable {prog:Program}{w:World}{A:Around}{E:Value->Shared->Prop}{s:Shared}
theorem cat_tup {t b:Addr}{vs ws:List Value}{Q:Value->Shared->Prop}(ht:IsTup s.heap t vs.toArray)(hb:IsTup s.heap b ws.toArray)(hv:vs≠[])
  (h1:ws=[]->Q (.ref t) s) (h2:ws≠[]->Q (.ref s.heap.objs.size) { s with heap:=s.heap.push { cls:=.type "tuple",data:=.seq (vs++ws).toArray } })
  (hsz:vs.length+ws.length≤sizeLine):wpAny (model prog w) A (binaryOp .Add (.ref t) (.ref b)) Q E s:=by
 obtain⟨⟨cls,dd,data,sl⟩,ho,hc,n,hd⟩:=id ht
 obtain⟨⟨cls2,dd2,data2,sl2⟩,ho2,hc2,n2,hd2⟩:=id hb
 simp only at hc hd hc2 hd2
 subst hc hd hc2 hd2
 have e:vs.toArray++ws.toArray=(vs++ws).toArray:=by simp
 by_cases hw:ws=[]
 ·exact concat_meets ⟨_,ho,rfl⟩ ⟨_,ho2,rfl⟩ noFill_tuple_add seq_tuple_add PySem.F.slot_tuple_add PySem.F.entry_tuple_add (PySem.F.args_tuple_add_2 _ _)
   (tuple_addW1 t b vs.toArray ws.toArray n n2 dd dd2 sl sl2 (by simpa using hv) (by simp[hw])) ⟨ho,ho2,h1 hw⟩
 ·refine concat_meets ⟨_,ho,rfl⟩ ⟨_,ho2,rfl⟩ noFill_tuple_add seq_tuple_add PySem.F.slot_tuple_add PySem.F.entry_tuple_add (PySem.F.args_tuple_add_2 _ _)
   (tuple_addW2 t b vs.toArray ws.toArray n n2 dd dd2 sl sl2 (by simpa using hv) (by simpa using hw) (by rw[List.size_toArray,List.size_toArray];exact hsz)) ⟨ho,ho2,?_⟩
  rw[e]
  exact h2 hw
noncomputable def sIx (n d:Nat):Option Int->Nat
 |none=>d
 |some v=>if v<0 then (v+(n:Int)).toNat else min v.toNat n
theorem sIx_none (n d:Nat):sIx n d none=d:=rfl
theorem sIx_nat (n d k:Nat):sIx n d (some (k:Int))=min k n:=by
 show (if (k:Int)<0 then ((k:Int)+(n:Int)).toNat else min (k:Int).toNat n)=min k n
 rw[if_neg (by omega),Int.toNat_natCast]
theorem DX (n d:Nat)(hd:d≤n)(o:Option Int):sIx n d o≤n:=by
 cases o with
 |none=>exact hd
 |some v=>
  show (if v<0 then (v+(n:Int)).toNat else min v.toNat n)≤n
  by_cases hv:v<0
  ·rw[if_pos hv];omega
  ·rw[if_neg hv];exact Nat.min_le_right _ _
theorem uf (v:Int)(n d:Nat):(if v<0 then max (v+(n:Int)) 0 else min v (n:Int))=((sIx n d (some v):Nat):Int):=by
 show (if v<0 then max (v+(n:Int)) 0 else min v (n:Int))=(((if v<0 then (v+(n:Int)).toNat else min v.toNat n):Nat):Int)
 by_cases hv:v<0
 ·simp only[if_pos hv];omega
 ·simp only[if_neg hv];omega
theorem tj (lo hi:Option Int)(n:Nat):Builtin.Slice.sliceAdjust lo hi 1 (n:Int)=(((sIx n 0 lo:Nat):Int),((sIx n n hi:Nat):Int)):=by
 have h1:¬((1:Int)<0):=by omega
 unfold Builtin.Slice.sliceAdjust
 simp only[h1,if_false]
 refine Prod.ext ?_ ?_
 ·cases lo with
  |none=>rfl
  |some v=>exact uf v n 0
 ·cases hi with
  |none=>rfl
  |some v=>exact uf v n n
theorem tT (i j:Nat):Builtin.Slice.slicePlaces (i:Int) (j:Int) 1=j - i:=by
 unfold Builtin.Slice.slicePlaces
 have h1:(1:Int) > 0:=by omega
 simp only[h1,if_true,Int.ediv_one]
 split<;>omega
theorem slicePart_ {v:Value}{o:Option Int}{Q:Option Int->Shared->Prop}(p:IsPart v o)(h:Q o s):wpAny (model prog w) A (Builtin.Slice.slicePartIndex v) Q E s:=by
 cases p with
 |none=>exact slicePart_none h
 |int i t=>exact slicePart_int h
theorem gl {sl:Addr}{vl vu:Value}{lo hi:Option Int}{n:Nat}{Q:Int×Int×Nat->Shared->Prop}(hs:s.heap.IsSliceOf sl vl vu .none)(pl:IsPart vl lo)(pu:IsPart vu hi)
  (h:Q (((sIx n 0 lo:Nat):Int),1,sIx n n hi - sIx n 0 lo) s):wpAny (model prog w) A (Builtin.Slice.sliceApplied (.ref sl) (pure (n:Int))) Q E s:=by
 obtain⟨os,hos,hcs,Aj⟩:=id hs
 unfold Builtin.Slice.sliceApplied Builtin.Slice.sliceFields
 refine wpAny_bind (wpAny_bind (wpAny_field hos Aj (x:=vl) rfl (wpAny_bind (wpAny_field hos Aj (x:=vu) rfl (wpAny_bind (wpAny_field hos Aj (x:=.none) rfl (wpAny_pure ?_)))))))
 refine wpAny_bind (slicePart_none ?_)
 show wpAny _ _ (if ((1:Int)==0)=true then _ else _) _ _ s
 rw[if_neg (by decide)]
 refine wpAny_bind (slicePart_ pl (wpAny_bind (slicePart_ pu (wpAny_bind (wpAny_pure ?_)))))
 show wpAny _ _ (match Builtin.Slice.sliceAdjust lo hi 1 (n:Int) with|(lo,hi)=>pure (lo,(1:Int),Builtin.Slice.slicePlaces lo hi 1)) _ _ s
 rw[tj lo hi n]
 show wpAny _ _ (pure (((sIx n 0 lo:Nat):Int),(1:Int),Builtin.Slice.slicePlaces ((sIx n 0 lo:Nat):Int) ((sIx n n hi:Nat):Int) 1)) _ _ s
 rw[tT]
 exact wpAny_pure h
theorem yA (xs:Array Value)(i k:Nat):((List.range k).filterMap fun (m:Nat)=>xs[((i:Int)+(m:Int) * 1).toNat]?).toArray=((xs.toList.drop i).take k).toArray:=by
 have e:(fun (m:Nat)=>xs[((i:Int)+(m:Int) * 1).toNat]?)=fun m=>xs[i+m]?:=by
  funext m
  have:((i:Int)+(m:Int) * 1).toNat=i+m:=by omega
  rw[this]
 rw[e]
 have:=pick_run xs i k
 rw[List.filterMap_map] at this
 have e2:((fun x=>xs[x]?) ∘ fun x=>i+x)=fun m=>xs[i+m]?:=rfl
 rw[e2] at this
 rw[this]
theorem getItem_tuple_cut {t sl:Addr}{items:Array Value}{vl vu:Value}{lo hi:Option Int}{Q:Value->Shared->Prop}(ht:IsTup s.heap t items)(hs:s.heap.IsSliceOf sl vl vu .none)(pl:IsPart vl lo)(pu:IsPart vu hi)
  (hw:¬(sIx items.size 0 lo=0/\sIx items.size items.size hi=items.size))
  (h:Q (.ref s.heap.objs.size) { s with heap:=s.heap.push { cls:=.type "tuple",data:=.seq ((items.toList.drop (sIx items.size 0 lo)).take (sIx items.size items.size hi - sIx items.size 0 lo)).toArray } })
  (hsz:items.size≤sizeLine):wpAny (model prog w) A (getItem (.ref t) (.ref sl)) Q E s:=by
 have htake:sizeOk (.seq ((items.toList.drop (sIx items.size 0 lo)).take (sIx items.size items.size hi - sIx items.size 0 lo)).toArray):=by
  show ((items.toList.drop (sIx items.size 0 lo)).take (sIx items.size items.size hi - sIx items.size 0 lo)).toArray.size≤sizeLine
  rw[List.size_toArray,List.length_take,List.length_drop,Array.length_toList]
  omega
 have hj:sIx items.size items.size hi≤items.size:=DX _ _ (Nat.le_refl _) hi
 obtain⟨os,hos,hcs,Aj⟩:=id hs
 have hTs:s.TypeIs (.ref sl) "slice":=⟨os,hos,hcs⟩
 unfold getItem
 try with_reducible refine wpAny_holding ?_
 first|refine wpAny_bind (wpAny_pure ?_)|skip
 refine wpAny_bind (wpAny_sequenceKey ht.typeIs (by decide) ?_)
 refine wpAny_bind (wpAny_callSpecial?_slot (name:=Str.ofString "__getitem__") ht.typeIs PyProof.Rows.slot_tuple_getitem
  (wpAny_call_entry PyProof.Rows.slot_tuple_getitem ht.typeIs entry_tuple_getitem ?_ (args_tuple_getitem _ _)))
 show wpAny _ _ (Builtin.Tuple.tupleItemsOf (.ref t) >>= _) _ _ s
 refine wpAny_bind (tupleItemsOf_ ht ?_)
 refine wpAny_bind (wpAny_typeOf hTs ?_)
 rw[if_pos (by decide)]
 refine wpAny_bind (gl hs pl pu ?_)
 have hno:¬((((sIx items.size 0 lo:Nat):Int)==0&&(1:Int)==1&&(sIx items.size items.size hi - sIx items.size 0 lo)==items.size)=true):=by
  intro q
  rw[Bool.and_eq_true,Bool.and_eq_true] at q
  have q1:((sIx items.size 0 lo:Nat):Int)=0:=eq_of_beq q.1.1
  have q2:sIx items.size items.size hi - sIx items.size 0 lo=items.size:=eq_of_beq q.2
  exact hw ⟨by omega,by omega⟩
 show wpAny _ _ (if (((sIx items.size 0 lo:Nat):Int)==0&&(1:Int)==1&&(sIx items.size items.size hi - sIx items.size 0 lo)==items.size)=true then _ else _) _ _ s
 rw[if_neg hno,yA]
 first
  |exact wpAny_bind (m:=Builtin.Tuple.tupleExact _) (wpAny_newObj_type (wpAny_pure ⟨_,rfl,wpAny_pure h⟩) htake)
  |exact wpAny_bind (m:=Builtin.Tuple.tupleExact _) (wpAny_newObj_type (wpAny_bind (wpAny_pure (wpAny_pure ⟨_,rfl,wpAny_pure h⟩))) htake)
  |exact wpAny_bind (wpAny_bind (m:=Builtin.Tuple.tupleExact _) (wpAny_newObj_type (wpAny_pure (wpAny_pure ⟨_,rfl,wpAny_pure h⟩)) htake))
  |exact wpAny_bind (wpAny_bind (m:=Builtin.Tuple.tupleExact _) (wpAny_newObj_type (wpAny_pure ⟨_,rfl,wpAny_pure h⟩) htake))
end
end HT
namespace L2
open PySem PySem.Spec PyProof.Rows
noncomputable abbrev TO:=St->Hp->(Option Int->Hp->Prop)->Prop
section
variable {X:Cx}{e:Expr}{te:TE}{lo hi:Option Expr}{tl th:TO}{pos p2:Pos}
end
end L2
namespace L2
open PySem PySem.Spec PyProof.Rows
noncomputable def pb (n:Nat)(i:Int):Option Nat:=if 0≤i then (if i<n then some i.toNat else none) else if -(n:Int)≤i then some (i+n).toNat else none
noncomputable def bQ {α:Type}(xs:List α)(i:Int):Option α:=(pb xs.length i).bind fun j=>xs[j]?
theorem wz {n:Nat}{i:Int}{j:Nat}(h:pb n i=some j):seqIndex? i n=some j/\j<n/\-(n:Int)≤i/\i<n:=by
 unfold pb at h
 by_cases h0:0≤i
 ·rw[if_pos h0] at h
  by_cases h1:i<n
  ·rw[if_pos h1] at h
   have e:i.toNat=j:=Option.some.inj h
   exact⟨by rw[seqIndex_of h0 h1,e],by omega,by omega,h1⟩
  ·rw[if_neg h1] at h;cases h
 ·rw[if_neg h0] at h
  by_cases h1:-(n:Int)≤i
  ·rw[if_pos h1] at h
   have e:(i+n).toNat=j:=Option.some.inj h
   exact⟨by rw[seqIndex_neg (by omega) h1,e],by omega,h1,by omega⟩
  ·rw[if_neg h1] at h;cases h
theorem vm {α:Type}{xs:List α}{i:Int}{v:α}(h:bQ xs i=some v):∃j,seqIndex? i xs.length=some j/\xs[j]?=some v/\j<xs.length/\-(xs.length:Int)≤i/\i<xs.length:=by
 unfold bQ at h
 cases e:pb xs.length i with
 |none=>rw[e] at h;cases h
 |some j=>
  rw[e] at h
  obtain⟨h1,h2,h3,h4⟩:=wz e
  exact⟨j,h1,h,h2,h3,h4⟩
theorem cX {α:Type}{xs:List α}{j:Nat}{v:α}(h:xs[j]?=some v):bQ xs (j:Int)=some v:=by
 have hj:j<xs.length:=(List.getElem?_eq_some_iff.mp h).1
 have e:pb xs.length (j:Int)=some j:=by
  unfold pb
  rw[if_pos (by omega),if_pos (by omega)];simp
 unfold bQ;rw[e];exact h
theorem kf {α:Type}(xs:List α)(v:α):bQ (xs++[v]) (-1)=some v:=by
 have hl:(xs++[v]).length=xs.length+1:=by simp
 have e:pb (xs++[v]).length (-1)=some xs.length:=by
  unfold pb
  rw[hl,if_neg (by decide),if_pos (by omega)]
  congr 1
  omega
 unfold bQ
 rw[e]
 show (xs++[v])[xs.length]?=some v
 simp
noncomputable def ux (b:Expr):Prop:=∀o i,subscripted b false o i=operate [o,i] (getItem o i)
section
variable {X:Cx}{a b:Expr}{ta tb:TE}{pos:Pos}
noncomputable def Ju (K:PySem.W.Frag):R2:=fun x y H Q=>∃p xs i v,x=.ref p/\y=.int i/\KB K H p xs/\bQ xs i=some v/\Q v H
noncomputable def Jt (K:PySem.W.Frag):R2:=fun x y H Q=>∃p xs i v,x=.ref p/\y=.int i/\Kx K H p xs/\bQ xs i=some v/\Q v H
noncomputable def J5:R2:=fun x y H Q=>∃z i c,x=.str z/\y=.int i/\z.length≤sizeLine/\bQ z.cps.toList i=some c/\Q (.str ⟨#[c]⟩) H
noncomputable def aM (K:PySem.W.Frag):R2:=fun x y H Q=>Ju K x y H Q\/Jt K x y H Q\/J5 x y H Q
theorem pU (lo hi:Option Int)(n:Nat):(sliceBounds lo hi none n).1=((HT.sIx n 0 lo:Nat):Int)/\(sliceBounds lo hi none n).2.1=((HT.sIx n n hi:Nat):Int)/\(sliceBounds lo hi none n).2.2=1:=by
 refine⟨?_,?_,rfl⟩
 ·cases lo with
  |none=>simp[sliceBounds,HT.sIx]
  |some i=>
   simp only[sliceBounds,HT.sIx,Option.getD_none,show (1:Int) > 0 by decide,if_true]
   by_cases h:i<0
   ·simp only[h,if_true]<;>omega
   ·simp only[h,if_false]<;>omega
 ·cases hi with
  |none=>simp[sliceBounds,HT.sIx]
  |some i=>
   simp only[sliceBounds,HT.sIx,Option.getD_none,show (1:Int) > 0 by decide,if_true]
   by_cases h:i<0
   ·simp only[h,if_true]<;>omega
   ·simp only[h,if_false]<;>omega
theorem oK (its:List Value)(lo hi:Option Int):slicePick its.toArray lo hi none=((its.drop (HT.sIx its.length 0 lo)).take (HT.sIx its.length its.length hi - HT.sIx its.length 0 lo)).toArray:=by
 obtain⟨h1,h2,h3⟩:=pU lo hi its.toArray.size
 unfold slicePick
 rw[h1,h2,h3]
 simp only[sliceRange_one,pick_run,List.size_toArray]<;>rfl
noncomputable def DA:V->Bool
 |.non=>true
 |.bl _=>true
 |.int _=>true
 |.str _=>true
 |_=>false
noncomputable def Du:V->V->Bool
 |.non,.non=>true
 |.bl a,.bl b=>a==b
 |.bl a,.int b=>(if a then 1 else 0)==b
 |.int a,.bl b=>a==(if b then 1 else 0)
 |.int a,.int b=>a==b
 |.str a,.str b=>a==b
 |_,_=>false
noncomputable def KA (x:V)(xs:List V):Bool:=xs.any fun y=>Du y x
noncomputable def sX (K:PySem.W.Frag)(neg:Bool):R2:=fun x y H Q=>∃p xs,y=.ref p/\(KB K H p xs\/Kx K H p xs)/\DA x=true/\xs.all DA=true/\Q (.bl (if neg then !KA x xs else KA x xs)) H
variable {o e:Expr}{es:List Expr}{to:TE}{t:TA}{name:Str}{apos cpos:Pos}{T id:String}{r:V->List V->Hp->VK->Prop}
end
end L2
namespace L2
open PySem PySem.Spec PyProof.Rows
theorem jo {α:Type}(l:List α):l.eraseIdx (l.length - 1)=l.dropLast:=by
 induction l with
 |nil=>rfl
 |cons a r ih=>
  cases r with
  |nil=>rfl
  |cons b r=>
   have e:(a::b::r).length - 1=((b::r).length - 1)+1:=by
    have h1:(a::b::r).length=r.length+2:=rfl
    have h2:(b::r).length=r.length+1:=rfl
    omega
   rw[e,List.eraseIdx_cons_succ,ih]
   all_goals rfl
theorem oV {α:Type}:∀(l:List α) (i:Nat),(l.eraseIdx i).length≤l.length
 |[],_=>Nat.le_refl _
 |_::_,0=>Nat.le_succ _
 |_::r,i+1=>Nat.succ_le_succ (oV r i)
theorem pL (its:List Value):∀(k:Nat) (acc:List Value),
  List.foldl (fun x1 x2=>x1++x2) acc.toArray (List.replicate k its.toArray)=(acc++(List.replicate k its).flatten).toArray
 |0,acc=>by simp
 |k+1,acc=>by
  have e:acc.toArray++its.toArray=(acc++its).toArray:=by simp
  have e2:(acc++its)++(List.replicate k its).flatten=acc++(List.replicate (k+1) its).flatten:=by
   rw[List.replicate_succ,List.flatten_cons,List.append_assoc]
  rw[←e2,←pL its k (acc++its),←e,List.replicate_succ,List.foldl_cons]
section
variable {X:Cx}{pins:List (Addr×Obj)}{σ:St}{H:Hp}{s:Shared}{l b:Addr}{xs ys zs:List V}
theorem xY {n:Nat}(h:n≤sizeLine):Builtin.List.listTooLong n=false:=by
 unfold Builtin.List.listTooLong
 exact decide_eq_false (by omega)
end
section
variable {X:Cx}
theorem qm {α:Type}(xs:List α)(k:Nat):(List.replicate k xs).flatten.length=k * xs.length:=by
 induction k with
 |zero=>simp
 |succ k ih=>rw[List.replicate_succ,List.flatten_cons,List.length_append,ih,Nat.succ_mul,Nat.add_comm]
end
section
variable {prog:Program}{w:World}{A:Around}{E:Value->Shared->Prop}{s:Shared}
set_option maxRecDepth 100000 in
end
end L2
namespace Att
open PySem PySem.W PySem.Calls PyProof.Rows
theorem lO {P:Params}{h:Heap}:∀(ns:List Int) (vs:List Value),WellAll P h vs (ns.map WData.int)->IntsAre vs ns:=by
 intro ns
 induction ns with
 |nil=>
  intro vs w
  rw[List.map_nil] at w
  cases w
  exact .nil
 |cons n ns ih=>
  intro vs w
  rw[List.map_cons] at w
  cases w with
  |cons a b=>
   cases a
   exact .cons _ _ (ih _ b)
theorem xk {l:OpenLaw}{n:Nat}(hn:l.most=some n){P:Params}{h:Heap}{args:List WData}{vals:List Value}
  (hpre:l.row.toRowW.claim.pre args=true) (hwl:WellAll P h vals args) :
  ∃a vs ns,vals=[Value.ref a]/\args=[WData.list (ns.map WData.int)]/\h.get? a=some { cls:=.type "list",data:=.seq vs.toArray }/\IntsAre vs ns/\ns.length≤n:=by
 have hsh:WShape.hasAll [] args [.list .int]=true:=(pre_splitW hpre).1
 have hc:l.pre.holds [] { args:=args }=true:=(pre_splitW hpre).2
 obtain⟨d,r,rfl,h1,h2⟩:=hasAllW_cons hsh
 obtain rfl:=hasAllW_nil h2
 obtain⟨xs,rfl,h3⟩:=hasW_list h1
 obtain⟨ns,rfl⟩:=items_int h3
 have hlen:ns.length≤n:=by
  unfold OpenLaw.pre at hc
  have h4:(WTm.not (.lt (.lit (.int (n:Int))) (.len (.arg 0)))).holds [] { args:=[.list (ns.map .int)] }=true:=by
   have h4:=(holds_andW hc).1
   rw[hn] at h4
   exact h4
  have h5:=condW_of h4 (w_not (w_lt w_lit (w_len_list (w_arg rfl))))
  rw[List.length_map] at h5
  refine Nat.le_of_not_lt fun q=>?_
  have q':(n:Int)<((ns.length:Nat):Int):=by omega
  first
   |(rw[decide_eq_true q'] at h5;exact absurd h5 (by decide))
   |(simp at h5;omega)
 cases hwl with
 |cons w1 w2=>
  cases w2
  cases w1 with
  |list ho hall=>exact⟨_,_,ns,rfl,rfl,ho,lO ns _ hall,hlen⟩
theorem wZ (l:OpenLaw)(args:List WData):l.row.toRowW.claim.post args (.bool true) args=true:=
 postW_of (r:=l.row.toRowW) (X:=(true==true))
  (show WShape.has [] (.bool true) .bool=true by first|rfl|decide|simp[WShape.has,WShape.arms,WShape.armsAll])
  (show (WTm.eq .res (.lit (.bool true))).value [] { args:=args,res:=some (.bool true),after:=args }=some (.bool (true==true)) from w_eq_bool (w_res rfl) w_lit) rfl
theorem attach_call {l:OpenLaw}{n:Nat}{q:Program}{loose:List Str}{XP:(Str->Option Value)->Heap->Prop}{YP:World->Heap->Prop}{d:DefRec}
  (hn:l.most=some n) (hdf:d.params.defaults=[])
  (call:∀(w:World) (s₀ s₁:Shared) (mg mb:Str->Option Value) (fa:Addr) (o:Obj) (pm cd doc:Value) (a:Addr) (vs:List Value) (ns:List Int),
   Ground q loose [] XP w s₀ mg mb s₁.heap->YP w s₁.heap →
   s₁.heap.get? fa=some o->o.data=.func (docDef d.name d.params d.body d.scope pm cd doc)->s₁.heap.CodeRec cd d.name->mg d.name=some (.ref fa) →
   s₁.heap.get? a=some { cls:=.type "list",data:=.seq vs.toArray }->IntsAre vs ns->ns.length≤n->s₁.gens = #[] →
   codeAny (model l.prog w) callerA (.call (.ref fa) ⟨[.ref a],[]⟩) (fun r s'=>r=.ok (.ret (.bool true))/\OldK s₁.heap s'.heap/\s'.os=s₁.os/\AllBare s'.gens) s₁) :
  WalkO q loose XP YP l.row.toRowW d [] (fun f vs=>PySem.call f vs):=by
 intro w s₀ s₁ mg mb G Y fa o pm cd doc dV kV ho hd hcd hD hmg hg args vals as hpre hlay hrd hwl hlo
 obtain rfl:dV=.none:=Dflts.none hD hdf
 obtain rfl:kV=.none:=Dflts.noKw hD
 obtain⟨a,vs,ns,rfl,rfl,hobj,hints,hlen⟩:=xk hn hpre hwl
 refine enter_call (codeAny_mono (call w s₀ s₁ mg mb fa o pm cd doc a vs ns G Y ho (fd_plain hd) hcd hmg hobj hints hlen hg) fun r s' hq=>?_)
 obtain⟨rfl,h2,h3,h4⟩:=hq
 exact⟨.inl ⟨.bool true,.bool true,[],rfl,fun _=>rfl,.bool true,wZ l _,fun _=>⟨List.Pairwise.nil,fun _ hm=>(nomatch hm)⟩⟩,h2,h3,h4⟩
end Att
namespace L2
open PySem PySem.Spec PyProof.Rows
end L2
namespace L2
open PySem PySem.Spec PyProof.Rows
end L2
namespace L2
open PySem PySem.Spec PyProof.Rows
noncomputable def dI (s:Stmt):Arguments:=match s with
 |.FunctionDef _ a _ _ _ _ _ _ _ _=>a
 |_=>{ posonlyargs:=[],args:=[],vararg:=none,kwonlyargs:=[],kw_defaults:=[],kwarg:=none,defaults:=[] }
noncomputable def bq (s:Stmt):List Stmt:=match s with
 |.FunctionDef _ _ b _ _ _ _ _ _ _=>b
 |_=>[]
noncomputable def ah (s:Stmt):Scope:=match s with
 |.FunctionDef _ _ _ _ _ _ sc _ _ _=>sc
 |_=>{ kind:=.function,names:=[],isGenerator:=false,isCoroutine:=false }
structure Fun (K:PySem.W.Frag)(x qual:Str)(st:Stmt)(f:Addr)(fd:FuncData):Prop where
 ex:∃(oc:Value) (od:Option Addr) (kV doc pm:Value) (an:Option Addr) (cdv ct:Value) (osl:Array (Option Value)),
  fd=PySem.W.fnOf x qual (dI st) (bq st) (ah st) .none kV doc pm an cdv ct/\K.lookup f=some ⟨oc,od,.func fd,osl⟩/\PySem.W.codeIn K cdv qual=true
 kp:PySem.W.keepIn K (.ref f)=true
section
variable {P:Program}{w:World}{K:PySem.W.Frag}{mg:Str->Option Value}{base:Heap}
theorem DR {x qual:Str}{st:Stmt}{f:Addr}{oc:Value}{od an:Option Addr}{osl:Array (Option Value)}{kV doc pm cdv ct:Value}(l:K.lookup f=some ⟨oc,od,.func (PySem.W.fnOf x qual (dI st) (bq st) (ah st) .none kV doc pm an cdv ct),osl⟩)
  (c:PySem.W.codeIn K cdv qual=true) (k:PySem.W.keepIn K (.ref f)=true):Fun K x qual st f (PySem.W.fnOf x qual (dI st) (bq st) (ah st) .none kV doc pm an cdv ct):=⟨⟨oc,od,kV,doc,pm,an,cdv,ct,osl,rfl,l,c⟩,k⟩
end
section
variable {X:Cx}
theorem pv (i:Nat){x:Str}{pos:Pos}(hN:X.N[i]?=some x:=by rfl)(hv:oo X.env.scope x:=by first|exact Or.inl rfl|exact Or.inr (Or.inl rfl)|exact Or.inr (Or.inr rfl))(hd:(x==("__debug__" : Str))=false:=by decide)
  (hcd:(x==("__classdict__" : Str))=false:=by decide):PE X (.Name x pos) (HK i):=FM hN hv hd hcd
end
end L2
set_option maxHeartbeats 4000000
section
namespace L2
open PySem PySem.Spec PyProof.Rows
noncomputable def io (cells:List (Str×Addr)):List (Str×NameKind)->List (Str×Addr)->List (Str×Addr)
 |[],acc=>acc
 |(n,k)::r,acc=>if k==.free then io cells r ((n,(cells.lookup n).getD 0)::acc) else io cells r acc
theorem mz {scope:Scope}{env:Env}(h:∀y∈scope.names,y.2=.free->(env.cells.lookup y.1).isSome=true):closureFor scope env=pure (io env.cells scope.names []):=by
 unfold closureFor
 generalize scope.names=names at h ⊢
 generalize ([]:List (Str×Addr))=acc
 dsimp only
 induction names generalizing acc with
 |nil=>rfl
 |cons x r ih=>
  obtain⟨n,k⟩:=x
  have hr:=ih (fun y hy=>h y (List.mem_cons_of_mem _ hy))
  rw[List.forIn_cons]
  unfold io
  by_cases hk:(k==NameKind.free)=true
  ·have hs:=h (n,k) List.mem_cons_self (by simpa using hk)
   obtain⟨c,hc⟩:=Option.isSome_iff_exists.mp hs
   have hc':cellOf env n=pure c:=by unfold cellOf;rw[show env.cells.lookup n=some c from hc]
   simp only[hk,if_true]
   rw[hc',show (env.cells.lookup n).getD 0=c by rw[show env.cells.lookup n=some c from hc];rfl]
   exact hr _
  ·simp only[hk]
   exact hr _
theorem iX {cells:List (Str×Addr)}{x:Str}{c:Addr}:∀{names:List (Str×NameKind)} {acc:List (Str×Addr)},(∀y∈names,y.2=.free->(cells.lookup y.1).isSome=true)->(∀x c,acc.lookup x=some c->cells.lookup x=some c) →
  (io cells names acc).lookup x=some c->cells.lookup x=some c
 |[],_,_,ha,h=>ha x c h
 |(n,k)::r,acc,hs,ha,h=>by
  unfold io at h
  by_cases hk:(k==NameKind.free)=true
  ·rw[if_pos hk] at h
   refine iX (fun y hy=>hs y (List.mem_cons_of_mem _ hy)) (fun z d hz=>?_) h
   obtain⟨e,he⟩:=Option.isSome_iff_exists.mp (hs (n,k) List.mem_cons_self (by simpa using hk))
   have he':cells.lookup n=some e:=he
   rw[List.lookup_cons] at hz
   cases hzn:z==n with
   |true=>
    rw[hzn] at hz
    have:z=n:=by simpa using hzn
    subst this
    rw[he'] at hz ⊢
    exact hz
   |false=>rw[hzn] at hz;exact ha z d hz
  ·rw[if_neg hk] at h
   exact iX (fun y hy=>hs y (List.mem_cons_of_mem _ hy)) ha h
theorem mG {cells:List (Str×Addr)}{x:Str}:∀{names:List (Str×NameKind)} {acc:List (Str×Addr)},(acc.lookup x).isSome=true->((io cells names acc).lookup x).isSome=true
 |[],_,h=>h
 |(n,k)::r,acc,h=>by
  unfold io
  split
  ·refine mG ?_
   rw[List.lookup_cons]
   split
   ·rfl
   ·exact h
  ·exact mG h
theorem ki {cells:List (Str×Addr)}{x:Str}:∀{names:List (Str×NameKind)} {acc:List (Str×Addr)},(x,NameKind.free)∈names->((io cells names acc).lookup x).isSome=true
 |[],_,h=>nomatch h
 |(n,k)::r,acc,h=>by
  unfold io
  rcases List.mem_cons.mp h with e|h
  ·cases e
   rw[if_pos (by rfl)]
   exact mG (by rw[List.lookup_cons];simp)
  ·split
   ·exact ki h
   ·exact ki h
noncomputable def Cx.blk (X:Cx)(scope:Scope)(N':List Str)(C:Addr)(s:Shared)(H:Hp)(ex:List Addr):Cx:=
 { X with N:=N',s₀:=s,H₀:=H,env:=compEnvC scope (io X.env.cells scope.names []) C X.env,outer:=X.stack,ex:=ex,fn:=fun _=>false,pn:=[],xe:=fun _ _=>False }
noncomputable def lP (fm:List (Option Nat))(σ:St):St:=fm.map fun o=>o.bind fun j=>(σ[j]?).join
structure BlkOk (X:Cx)(scope:Scope)(N':List Str)(fm:List (Option Nat)):Prop where
 kind:scope.kind=.function
 nocell:∀y∈scope.names,y.2≠.cell
 names:∀y∈scope.names,y.2=.local->scope.names.lookup y.1=some .local
 free:∀y∈scope.names,y.2=.free->X.env.kindOf y.1=some .cell
 len:fm.length=N'.length
 out:∀(i j:Nat) (x:Str),fm[i]?=some (some j)->N'[i]?=some x->X.N[j]?=some x/\scope.names.lookup x=some .free/\X.env.kindOf x=some .cell
theorem BlkOk.has {X:Cx}{scope:Scope}{N':List Str}{fm:List (Option Nat)}(B:BlkOk X scope N' fm)(ok:X.Ok):∀y∈scope.names,y.2=.free->(X.env.cells.lookup y.1).isSome=true:=fun y hy e=>by
 obtain⟨c,hc⟩:=ok.has y.1 (.inl (B.free y hy e))
 rw[hc];rfl
noncomputable def qI (kind:ScopeKind)(names:List (Str×NameKind))(kindOf:Str->Option NameKind)(N N':List Str)(fm:List (Option Nat)):Bool:=
 kind==.function&&(names.all fun y=>y.2 != .cell)&&(names.all fun y=>y.2 != .local || names.lookup y.1==some .local)&&(names.all fun y=>y.2 != .free || kindOf y.1==some .cell)&&fm.length==N'.length &&
  ((fm.zip N').all fun p=>match p.1 with|none=>true|some j=>N[j]?==some p.2&&names.lookup p.2==some .free&&kindOf p.2==some .cell)
theorem EO {X:Cx}{scope:Scope}{N':List Str}{fm:List (Option Nat)}(h:qI scope.kind scope.names X.env.kindOf X.N N' fm=true):BlkOk X scope N' fm:=by
 unfold qI at h
 simp only[Bool.and_eq_true,beq_iff_eq,List.all_eq_true,Bool.or_eq_true,bne_iff_ne,ne_eq] at h
 obtain⟨⟨⟨⟨⟨h1,h2⟩,h3⟩,h4⟩,h5⟩,h6⟩:=h
 refine⟨h1,h2,fun y hy e=>(h3 y hy).resolve_left fun z=>z e,fun y hy e=>(h4 y hy).resolve_left fun z=>z e,h5,fun i j x e1 e2=>?_⟩
 have hm:(some j,x)∈fm.zip N':=by
  refine List.mem_of_getElem? (i:=i) ?_
  rw[List.getElem?_zip_eq_some]
  exact⟨e1,e2⟩
 have z:=h6 _ hm
 simp only[Bool.and_eq_true,beq_iff_eq] at z
 exact⟨z.1.1,z.1.2,z.2⟩
theorem cN {env:Env}:∀{names:List (Str×NameKind)} {x:Str} {k:NameKind},(names.map fun (n,k)=>if (k==NameKind.free&&env.scope.kind==.function&&env.kindOf n==some .cell) then (n,NameKind.cell) else (n,k)).lookup x=some k →
  (k=.cell/\env.kindOf x=some .cell/\(x,NameKind.free)∈names)\/(x,k)∈names
 |[],_,_,h=>by simp at h
 |(n,k0)::r,x,k,h=>by
  rw[List.map_cons] at h
  by_cases hc:(k0==NameKind.free&&env.scope.kind==.function&&env.kindOf n==some .cell)=true
  ·dsimp only at h
   rw[if_pos hc,List.lookup_cons] at h
   cases hx:x==n with
   |true=>
    rw[hx] at h
    have e:x=n:=by simpa using hx
    subst e
    cases h
    simp only[Bool.and_eq_true,beq_iff_eq] at hc
    exact .inl ⟨rfl,hc.2,by rw[←hc.1.1];exact List.mem_cons_self⟩
   |false=>
    rw[hx] at h
    rcases cN h with ⟨a,b,c⟩|c
    ·exact .inl ⟨a,b,List.mem_cons_of_mem _ c⟩
    ·exact .inr (List.mem_cons_of_mem _ c)
  ·dsimp only at h
   rw[if_neg hc,List.lookup_cons] at h
   cases hx:x==n with
   |true=>
    rw[hx] at h
    have e:x=n:=by simpa using hx
    subst e
    cases h
    exact .inr List.mem_cons_self
   |false=>
    rw[hx] at h
    rcases cN h with ⟨a,b,c⟩|c
    ·exact .inl ⟨a,b,List.mem_cons_of_mem _ c⟩
    ·exact .inr (List.mem_cons_of_mem _ c)
theorem eG {env:Env}(hk:env.scope.kind=.function):∀{names:List (Str×NameKind)} {x:Str},names.lookup x=some .free->env.kindOf x=some .cell →
  (names.map fun (n,k)=>if (k==NameKind.free&&env.scope.kind==.function&&env.kindOf n==some .cell) then (n,NameKind.cell) else (n,k)).lookup x=some .cell
 |[],_,h,_=>by simp at h
 |(n,k)::r,x,h,hc=>by
  rw[List.map_cons]
  dsimp only
  cases hx:x==n with
  |true=>
   rw[List.lookup_cons,hx] at h
   cases h
   have e:x=n:=by simpa using hx
   subst e
   rw[hc,hk,if_pos (by rfl),List.lookup_cons,hx]
  |false=>
   rw[List.lookup_cons,hx] at h
   have ih:=eG hk h hc
   split
   ·rw[List.lookup_cons,hx];exact ih
   ·rw[List.lookup_cons,hx];exact ih
section
variable {X:Cx}{scope:Scope}{N':List Str}{fm:List (Option Nat)}{pins:List (Addr×Obj)}{σ:St}{H:Hp}{s:Shared}
theorem Es (B:BlkOk X scope N' fm)(I:Inv X pins σ H s){C:Addr}{ex:List Addr}(hC:s.heap.objs.size≤C)(hex:∀b∈ex,fU X pins H b)(hlt:∀b∈ex,b<s.heap.objs.size):(X.blk scope N' C s H ex).Ok:=by
 have sub:∀x c,(io X.env.cells scope.names []).lookup x=some c->X.env.cells.lookup x=some c:=fun x c h=>iX (B.has I.ok) (fun _ _ z=>by simp at z) h
 refine⟨I.ok.mod,?_,I.ok.glob,I.ok.blt,hC,fun x y c h1 h2=>I.ok.inj x y c (sub x c h1) (sub y c h2),fun x hx=>?_,fun x c h _=>(Bool.false_ne_true h).elim,I.ok.hd,I.ok.frames,.inl rfl,fun b hb=>⟨?_,fun x c h=>(hex b hb).2.2.2.2.1 x c (sub x c h)⟩,I.bs,?_,fun b o e hb=>?_,fun b hb hf=>?_,I.stack,I.stkFree⟩
 ·show (relabel scope X.env).kind=.function
  exact B.kind
 ·have hx':(relabel scope X.env).names.lookup x=some .cell\/(relabel scope X.env).names.lookup x=some .free:=hx
  have mem:(x,NameKind.free)∈scope.names:=by
   rcases hx' with h|h
   ·rcases cN h with ⟨_,_,z⟩|z
    ·exact z
    ·exact absurd rfl (B.nocell _ z)
   ·rcases cN h with ⟨z,_,_⟩|z
    ·cases z
    ·exact z
  exact Option.isSome_iff_exists.mp (ki (cells:=X.env.cells) (acc:=[]) mem)
 ·exact Nat.ne_of_lt (Nat.lt_of_lt_of_le (hlt b hb) hC)
 ·exact Nat.le_trans I.ok.bsz I.sz
 ·have hb':b∈ex:=hb
  rcases (hex b hb').2.2.2.1 with z|z
  ·exact I.ok.noex b o e z
  ·exact absurd (Nat.lt_of_lt_of_le (Heap.lt_size (I.ok.bs b o e).1) z) (Nat.lt_irrefl _)
 ·have hb':b∈ex:=hb
  have hf':b∈mv X.stack:=hf
  rcases List.mem_cons.mp (I.stkSub b hf') with z|z
  ·exact (hex b hb').2.1 z
  ·exact (hex b hb').2.2.1 z
theorem rK {fm:List (Option Nat)}{σ:St}{i:Nat}{v:V}(h:(lP fm σ)[i]?=some (some v)):∃j,fm[i]?=some (some j)/\σ[j]?=some (some v):=by
 unfold lP at h
 rw[List.getElem?_map] at h
 cases e:fm[i]? with
 |none=>rw[e] at h;cases h
 |some o=>
  rw[e] at h
  cases o with
  |none=>cases h
  |some j=>
   refine⟨j,rfl,?_⟩
   have h':some ((σ[j]?).join)=some (some v):=h
   cases e2:σ[j]? with
   |none=>rw[e2] at h';cases h'
   |some w=>rw[e2] at h';exact congrArg some (Option.some.inj h')
theorem CF (B:BlkOk X scope N' fm)(I:Inv X pins σ H s){C:Addr}{ex:List Addr}{h1:Heap}{tk:Nat}{m:Str->Option Value}(hC:s.heap.objs.size≤C)(hex:∀b∈ex,fU X pins H b)(hlt:∀b∈ex,b<s.heap.objs.size)
  (hn:h1.Ns C m) (old:∀b o,s.heap.get? b=some o->h1.get? b=some o):Inv (X.blk scope N' C s H ex) [] (lP fm σ) H { s with heap:=h1,toks:=tk }:=by
 have sub:∀x c,(io X.env.cells scope.names []).lookup x=some c->X.env.cells.lookup x=some c:=fun x c h=>iX (B.has I.ok) (fun _ _ z=>by simp at z) h
 refine⟨Es B I hC hex hlt,rfl,I.bare,Un.kept old,⟨m,hn,fun i x v hi hσ hv=>?_⟩,fun x c h=>?_,I.hok.fresh hC,fun x c h=>I.freeC x c (sub x c h),fun p hp=>absurd (show p∈([]:List (Addr×Obj)) from hp) (by simp),I.hok.kept old,?_⟩
 ·obtain⟨j,ej,es⟩:=rK hσ
  obtain⟨hN,hf,hk⟩:=B.out i j x ej hi
  obtain⟨m0,_,hl⟩:=I.loc
  obtain⟨u,r,l⟩:=hl j x v hN es (.inr (.inl hk))
  refine⟨u,r,.inr ⟨.inl (eG I.ok.kind hf hk),?_⟩⟩
  rcases l with ⟨z,_⟩|⟨_,c,hc,z⟩
  ·rw[hk] at z;cases z
  ·obtain⟨c',hc'⟩:=Option.isSome_iff_exists.mp (ki (cells:=X.env.cells) (acc:=[]) (PySem.mem_of_lookup hf))
   have e:=sub x c' hc'
   rw[hc] at e
   cases e
   exact⟨c,hc',z.keeps old⟩
 ·obtain⟨v,z⟩:=I.cell x c (sub x c h)
  exact⟨v,z.keeps old⟩
 ·show (lP fm σ).length=N'.length
  unfold lP
  rw[List.length_map]
  exact B.len
end
theorem iy {prog:Program}{w:World}{A:Around}{R:Result->Shared->Prop}{s:Shared}{elt target iter:Expr}{ifs:List Expr}{scope:Scope}{pos:Pos}{it acc:Value}{env:Env}(I:Nat->Shared->Prop)
  (turn:∀n s,I n s->wpAny (model prog w) A (pyNext it) (fun r s₁=>match r with
   |none=>R (.ok .next) s₁
   |some v=>wpAny (model prog w) A (letOwnedTupleGo target it v) (fun _ s₁=>wpAny (model prog w) A (assign target env v) (fun _ s₂=>
     wpAny (model prog w) A (forIn ifs true fun c r=>if r=true then do let ok ←isTrue c env (eval c env);pure (ForInStep.yield ok) else pure (ForInStep.yield r)) (fun ok s₃=>
      if ok=true then wpAny (model prog w) A (eval elt env) (fun x s₄=>
       wpAny (model prog w) A (call (.builtin "list.append") [acc,x]) (fun _ s₅=>∃m,m<n/\I m s₅) (fun _ _=>False) s₄) (fun _ _=>False) s₃
      else ∃m,m<n/\I m s₃) (fun _ _=>False) s₂) (fun _ _=>False) s₁) (fun _ _=>False) s₁) (fun _ _=>False) s)
  (n:Nat) (h:I n s) :
  codeAny (model prog w) A (.compLoop (.ListComp elt [⟨target,iter,ifs,0⟩] scope pos) 0 it acc env) R s:=by
 refine codeAny_loop rfl I (fun n s hI=>?_) n h
 show wpAny _ A ((compTurn (.ListComp elt [⟨target,iter,ifs,0⟩] scope pos) 0 it acc env).onRaise (fun x=>do noteFrame x env;theTreesLotGoes x)) _ _ s
 refine wpAny_noted ?_
 rw[compTurn_list]
 refine wpAny_bind (wpAny_standAt (wpAny_bind (wpAny_mono (turn n s hI) (fun r s₁ h₁=>?_) fun _ _ h'=>h'.elim)))
 cases r with
 |none=>exact wpAny_pure h₁
 |some v=>
  refine wpAny_bind (wpAny_mono h₁ (fun _ s₁ h₁=>?_) fun _ _ h'=>h'.elim)
  refine wpAny_bind (wpAny_mono h₁ (fun _ s₂ h₂=>wpAny_bind (wpAny_mono h₂ (fun ok s₃ h₃=>?_) fun _ _ h'=>h'.elim)) fun _ _ h'=>h'.elim)
  cases ok with
  |false=>exact wpAny_pure ⟨rfl,h₃⟩
  |true=>
   exact wpAny_bind (wpAny_bind (wpAny_mono h₃ (fun x s₄ h₄=>wpAny_bind (wpAny_mono h₄ (fun _ s₅ h₅=>wpAny_pure (wpAny_pure ⟨rfl,h₅⟩)) fun _ _ h'=>h'.elim)) fun _ _ h'=>h'.elim))
end L2
end
section
namespace L2
open PySem PySem.Spec PyProof.Rows
end L2
end
section
namespace L2
open PySem PySem.Spec PyProof.Rows
theorem kW:fillsNumberSlot (.type "tuple") "mul" = pure false:=by first|rfl|decide +kernel|kernel_rfl
end L2
end
section
namespace L2
open PySem PySem.Spec PyProof.Rows
theorem qu:seqRepeat? (.type "tuple")=pure (some (.builtin "tuple.__mul__")):=by
 unfold seqRepeat?
 rw[PySem.seqSlot_of (T:="tuple") (name:="__mul__") (id:="tuple.__mul__") PySem.F.slot_tuple_mul.lookup (by decide +kernel),PySem.seqSlot_of (T:="tuple") (name:="__rmul__") (id:="tuple.__rmul__") PySem.F.slot_tuple_rmul.lookup (by decide +kernel)]
 rfl
theorem m8 (a:Int)(t:Tok)(l:Addr)(items:Array Value)(n:Nat)(dd:Option Addr)(sl:Array (Option Value)) :
  Meets (Builtin.«int.__rmul__» ⟨[.int a t,.ref l],[]⟩) (fun _ R s=>s.heap.get? l=some { cls:=.type "tuple",dict:=dd,data:=.seq items n,slots:=sl }/\R (.ok (.ret Value.notImplemented)) s):=
 .of_wp fun prog w A R s h=>by obtain⟨hp,g,d,tk,os⟩:=s;obtain⟨hl,h⟩:=h;wp_walk;exact⟨_,rfl,h⟩
theorem mj (l:Addr)(items:Array Value)(n:Nat)(dd:Option Addr)(sl:Array (Option Value))(t:Tok) :
  Meets (Builtin.«tuple.__mul__» ⟨[.ref l,.int 1 t],[]⟩) (fun _ R s=>s.heap.get? l=some { cls:=.type "tuple",dict:=dd,data:=.seq items n,slots:=sl }/\R (.ok (.ret (Value.ref l))) s):=
 .of_wp fun prog w A R s h=>by obtain⟨hp,g,d,tk,os⟩:=s;obtain⟨hl,h⟩:=h;have f1:=AutoSeq1.idx_int;have f2:=AutoSeq1.sub_tuple_tuple;have hc:(items.isEmpty || (1:Int)==1)=true:=(by simp);wp_walk using wpAny_loadPart' hl;exact⟨_,rfl,h⟩
theorem oy (l:Addr)(items:Array Value)(n:Nat)(dd:Option Addr)(sl:Array (Option Value))(k:Int)(t:Tok)(h1:¬(decide (k < -(2 ^ 63)) || decide (k ≥ 2 ^ 63))=true)(h2:¬(items.isEmpty || k==1)=true)(h3:¬(decide (k≤0) || items.isEmpty)=true)
  (h4:¬(items.size * k > (2 ^ 63 - 1) / 8)) (h5:¬Builtin.Tuple.tupleTooMany (items.size * k)=true) (h6:((List.replicate k.toNat items).foldl (·++·) #[]).size≤sizeLine) :
  Meets (Builtin.«tuple.__mul__» ⟨[.ref l,.int k t],[]⟩) (fun _ R s=>s.heap.get? l=some { cls:=.type "tuple",dict:=dd,data:=.seq items n,slots:=sl }/\R (.ok (.ret (Value.ref s.heap.objs.size))) { s with heap:=s.heap.push { cls:=Value.type "tuple",data:=Data.seq ((List.replicate k.toNat items).foldl (·++·) #[]) },toks:=s.toks }):=
 .of_wp fun prog w A R s h=>by obtain⟨hp,g,d,tk,os⟩:=s;obtain⟨hl,h⟩:=h;have f1:=AutoSeq1.idx_int;have f2:=AutoSeq1.sub_tuple_tuple;wp_walk using wpAny_loadPart' hl;rw[if_neg h1];wp_walk using wpAny_loadPart' hl;rw[if_neg h4];(try dsimp only);rw[if_neg h5];wp_walk using wpAny_loadPart' hl;exact⟨_,rfl,h⟩
theorem jt (its:List Value)(m:Nat):List.foldl (fun x1 x2=>x1++x2) #[] (List.replicate m its.toArray)=(List.replicate m its).flatten.toArray:=by
 have:=pL its m []
 rw[List.nil_append] at this
 exact this
end L2
end
section
namespace L2
open PySem PySem.Spec PyProof.Rows
namespace HT
section
variable {prog:Program}{w:World}{A:Around}{E:Value->Shared->Prop}{s:Shared}
theorem kq {sl:Addr}{vst:Value}{n:Nat}{Q:Int×Int×Nat->Shared->Prop}(hs:s.heap.IsSliceOf sl .none .none vst)(D0:IsPart vst (some (-1)))
  (h:Q ((n:Int) - 1,-1,n) s):wpAny (model prog w) A (Builtin.Slice.sliceApplied (.ref sl) (pure (n:Int))) Q E s:=by
 obtain⟨os,hos,hcs,Aj⟩:=id hs
 unfold Builtin.Slice.sliceApplied Builtin.Slice.sliceFields
 refine wpAny_bind (wpAny_bind (wpAny_field hos Aj (x:=.none) rfl (wpAny_bind (wpAny_field hos Aj (x:=.none) rfl (wpAny_bind (wpAny_field hos Aj (x:=vst) rfl (wpAny_pure ?_)))))))
 refine wpAny_bind (_root_.HT.slicePart_ D0 ?_)
 show wpAny _ _ (if ((-1:Int)==0)=true then _ else _) _ _ s
 rw[if_neg (by decide)]
 refine wpAny_bind (slicePart_none (wpAny_bind (slicePart_none (wpAny_bind (wpAny_pure ?_)))))
 have e1:Builtin.Slice.sliceAdjust none none (-1) (n:Int)=((n:Int) - 1,-1):=rfl
 have e2:Builtin.Slice.slicePlaces ((n:Int) - 1) (-1) (-1)=n:=by
  unfold Builtin.Slice.slicePlaces
  rw[if_neg (by decide)]
  by_cases hn:(n:Int) - 1 > -1
  ·rw[if_pos hn]
   have:((n:Int) - 1 - -1 - 1) / (- -1)=(n:Int) - 1:=by rw[show (- -1:Int)=1 by decide,Int.ediv_one];omega
   rw[this];omega
  ·rw[if_neg hn];omega
 show wpAny _ _ (match Builtin.Slice.sliceAdjust none none (-1) (n:Int) with|(lo,hi)=>pure (lo,(-1:Int),Builtin.Slice.slicePlaces lo hi (-1))) _ _ s
 rw[e1]
 show wpAny _ _ (pure ((n:Int) - 1,(-1:Int),Builtin.Slice.slicePlaces ((n:Int) - 1) (-1) (-1))) _ _ s
 rw[e2]
 exact wpAny_pure h
theorem xV {α β:Type}{f:α->Option β}{g:α->β}:∀{l:List α},(∀k∈l,f k=some (g k))->l.filterMap f=l.map g
 |[],_=>rfl
 |a::r,h=>by
  rw[List.filterMap_cons,h a List.mem_cons_self,List.map_cons,xV fun k hk=>h k (List.mem_cons_of_mem _ hk)]
theorem pick_rev (xs:List Value):(List.range xs.length).filterMap (fun (k:Nat)=>xs.toArray[(((xs.length:Nat):Int) - 1+(k:Int) * (-1)).toNat]?)=xs.reverse:=by
 rw[xV (g:=fun k=>xs.getD (xs.length - 1 - k) .none)]
 ·apply List.ext_getElem
  ·simp
  ·intro i h1 h2
   have h3:i<xs.length:=by simpa using h2
   have h4:xs.length - 1 - i<xs.length:=by omega
   rw[List.getElem_map,List.getElem_range,List.getElem_reverse]
   simp[h4]
 ·intro k hk
  have hk':k<xs.length:=List.mem_range.mp hk
  have e1:(((xs.length:Nat):Int) - 1+(k:Int) * (-1)).toNat=xs.length - 1 - k:=by omega
  have h2:xs.length - 1 - k<xs.length:=by omega
  rw[e1]
  simp[h2]
theorem getItem_tuple_rev {t sl:Addr}{vs:List Value}{vst:Value}{Q:Value->Shared->Prop}(ht:IsTup s.heap t vs.toArray)(hs:s.heap.IsSliceOf sl .none .none vst)(D0:IsPart vst (some (-1)))
  (h:Q (.ref s.heap.objs.size) { s with heap:=s.heap.push { cls:=.type "tuple",data:=.seq vs.reverse.toArray } })
  (hsz:vs.length≤sizeLine):wpAny (model prog w) A (getItem (.ref t) (.ref sl)) Q E s:=by
 have htake:sizeOk (.seq vs.reverse.toArray):=by
  show vs.reverse.toArray.size≤sizeLine
  rw[List.size_toArray,List.length_reverse]
  exact hsz
 obtain⟨os,hos,hcs,Aj⟩:=id hs
 have hTs:s.TypeIs (.ref sl) "slice":=⟨os,hos,hcs⟩
 unfold getItem
 try with_reducible refine wpAny_holding ?_
 first|refine wpAny_bind (wpAny_pure ?_)|skip
 refine wpAny_bind (wpAny_sequenceKey ht.typeIs (by decide) ?_)
 refine wpAny_bind (wpAny_callSpecial?_slot (name:=Str.ofString "__getitem__") ht.typeIs PyProof.Rows.slot_tuple_getitem
  (wpAny_call_entry PyProof.Rows.slot_tuple_getitem ht.typeIs entry_tuple_getitem ?_ (args_tuple_getitem _ _)))
 show wpAny _ _ (Builtin.Tuple.tupleItemsOf (.ref t) >>= _) _ _ s
 refine wpAny_bind (tupleItemsOf_ ht ?_)
 refine wpAny_bind (wpAny_typeOf hTs ?_)
 rw[if_pos (by decide)]
 have e0:(vs.toArray.size:Nat)=vs.length:=List.size_toArray
 rw[e0]
 refine wpAny_bind (kq hs D0 ?_)
 show wpAny _ _ (if ((((vs.length:Nat):Int) - 1)==0&&(-1:Int)==1&&vs.length==vs.length)=true then _ else _) _ _ s
 have hno:¬(((((vs.length:Nat):Int) - 1)==0&&(-1:Int)==1&&vs.length==vs.length)=true):=by
  rw[show ((-1:Int)==1)=false by decide,Bool.and_false,Bool.false_and]
  exact Bool.false_ne_true
 rw[if_neg hno,pick_rev]
 first
  |exact wpAny_bind (m:=Builtin.Tuple.tupleExact _) (wpAny_newObj_type (wpAny_pure ⟨_,rfl,wpAny_pure h⟩) htake)
  |exact wpAny_bind (m:=Builtin.Tuple.tupleExact _) (wpAny_newObj_type (wpAny_bind (wpAny_pure (wpAny_pure ⟨_,rfl,wpAny_pure h⟩))) htake)
  |exact wpAny_bind (wpAny_bind (m:=Builtin.Tuple.tupleExact _) (wpAny_newObj_type (wpAny_pure (wpAny_pure ⟨_,rfl,wpAny_pure h⟩)) htake))
end
end HT
end L2
end
section
namespace L2
open PySem PySem.Spec PyProof.Rows PySem.W
noncomputable def Leaf {α:Type}(n:Nat)(P:α->Prop):KasT α->Prop
 |.ret a=>P a
 |.ask i j k=>i<n/\j<n/\∀b,Leaf n P (k b)
theorem Leaf.bind {α β:Type}{n:Nat}{P:α->Prop}{R:β->Prop}{f:α->KasT β}(hf:∀a,P a->Leaf n R (f a)):∀{t:KasT α},Leaf n P t->Leaf n R (t.bind f)
 |.ret a,h=>hf a h
 |.ask i j k,h=>⟨h.1,h.2.1,fun b=>Leaf.bind hf (h.2.2 b)⟩
noncomputable abbrev OfN (n:Nat)(p:Array Nat):Prop:=p.toList.Perm (List.range n)
theorem OfN.lt {n:Nat}{p:Array Nat}(h:OfN n p)(hn:0<n)(k:Nat):p.getD k 0<n:=by
 by_cases hk:k<p.size
 ·have e:p.getD k 0=p[k]:=by simp[Array.getD,hk]
  rw[e]
  exact List.mem_range.mp (h.subset (by simp))
 ·have e:p.getD k 0=0:=by simp[Array.getD,hk]
  rw[e];exact hn
theorem OfN.rev {n:Nat}{p:Array Nat}(h:OfN n p)(i j:Nat):OfN n (kas_rev p i j):=(mirror_perm p i j _).toList.trans h
theorem OfN.bub {n:Nat}{p:Array Nat}(h:OfN n p)(i j:Nat):OfN n (bubble p i j):=(bubble_perm p i j).toList.trans h
theorem nK {n:Nat}{p:Array Nat}(hp:OfN n p)(hn:0<n):∀f k,Leaf n (fun _=>True) (kas_asc p f k)
 |0,_=>True.intro
 |f+1,k=>⟨hp.lt hn _,hp.lt hn _,fun b=>by
  cases b with
  |true=>exact True.intro
  |false=>exact nK hp hn f (k+1)⟩
theorem iV {n:Nat}(hn:0<n):∀f (p:Array Nat) k q,OfN n p->Leaf n (fun r=>OfN n r.1) (kas_desc f p k q)
 |0,_,_,_,hp=>hp
 |f+1,p,k,q,hp=>⟨hp.lt hn _,hp.lt hn _,fun b=>by
  cases b with
  |true=>
   show Leaf n _ (if q > 0 then kas_desc f (kas_rev p (k - (q+1)) k) (k+1) 0 else kas_desc f p (k+1) 0)
   split
   ·exact iV hn f _ _ _ (hp.rev _ _)
   ·exact iV hn f _ _ _ hp
  |false=>
   refine⟨hp.lt hn _,hp.lt hn _,fun c=>?_⟩
   cases c with
   |true=>exact hp
   |false=>exact iV hn f _ _ _ hp⟩
theorem nY {n:Nat}(hn:0<n){p:Array Nat}(hp:OfN n p)(a b:Nat):Leaf n (fun r=>OfN n r.2) (kas_tail3 a b p):=by
 unfold kas_tail3
 exact Leaf.bind (P:=fun _=>True) (R:=fun r:Nat×Array Nat=>OfN n r.2) (f:=fun m=>KasT.ret (m,kas_rev p 0 a)) (fun m _=>(show OfN n (kas_rev p 0 a) from hp.rev 0 a)) (nK (hp.rev 0 a) hn _ _)
theorem ja {n:Nat}(hn:0<n){p:Array Nat}(hp:OfN n p)(a b:Nat):Leaf n (fun r=>OfN n r.2) (kas_descPart a b p):=by
 refine Leaf.bind (fun r hr=>?_) (iV hn _ _ _ _ hp)
 split
 ·exact nY hn (OfN.rev hr _ _) _ _
 ·exact nY hn hr _ _
theorem sQ {n:Nat}(hn:0<n){p:Array Nat}(hp:OfN n p)(b:Nat):Leaf n (fun r=>OfN n r.2) (kas_count b p):=by
 refine Leaf.bind (fun r _=>?_) (nK hp hn _ _)
 split
 ·exact hp
 ·split
  ·refine⟨hp.lt hn _,hp.lt hn _,fun c=>?_⟩
   cases c with
   |true=>exact hp
   |false=>exact ja hn (hp.rev _ _) _ _
  ·exact ja hn hp _ _
theorem jq {n:Nat}(hn:0<n){p:Array Nat}(hp:OfN n p)(k:Nat):∀f l r,Leaf n (fun _=>True) (kas_place p k f l r)
 |0,_,_=>True.intro
 |f+1,l,r=>by
  show Leaf n _ (if l ≥ r then .ret l else .ask (p.getD k 0) (p.getD ((l+r) / 2) 0) fun c=>if c=true then kas_place p k f l ((l+r) / 2) else kas_place p k f ((l+r) / 2+1) r)
  split
  ·exact True.intro
  ·refine⟨hp.lt hn _,hp.lt hn _,fun c=>?_⟩
   cases c with
   |true=>exact jq hn hp k f _ _
   |false=>exact jq hn hp k f _ _
theorem rZ {n:Nat}(hn:0<n):∀f (p:Array Nat) k,OfN n p->Leaf n (OfN n) (kas_bin f p k)
 |0,_,_,hp=>hp
 |f+1,p,k,hp=>Leaf.bind (fun l _=>rZ hn f _ _ (hp.bub _ _)) (jq hn hp k _ _ _)
theorem oT {n:Nat}(hn:0<n):Leaf n (OfN n) (kas_sort n):=by
 refine Leaf.bind (fun r hr=>?_) (sQ hn (show OfN n (List.toArray (List.range n)) from .refl _) n)
 split
 ·exact rZ hn _ _ _ hr
 ·exact hr
theorem HOk.stands {P:Program}{w:World}{H:Hp}{h:Heap}{a:Addr}{o:HO}(x:HOk P w H h)(e:H a=some o):∃ob,h.get? a=some ob:=by
 have y:=x a o e
 cases o with
 |lst xs=>obtain⟨_,_,_,_,z⟩:=y;exact⟨_,z⟩
 |tup xs=>obtain⟨_,_,_,ob,z,_⟩:=y;exact⟨_,z⟩
 |dK kvs=>obtain⟨_,_,_,_,ob,_,_,z,_⟩:=y;exact⟨_,z⟩
 |dT kvs=>obtain⟨_,_,_,_,ob,_,_,z,_⟩:=y;exact⟨_,z⟩
 |set S n=>obtain⟨ob,_,_,_,z,_⟩:=y;exact⟨_,z⟩
 |ins C dx fs=>obtain⟨_,_,_,z,_⟩:=y;exact⟨_,z⟩
 |own y'=>exact y
 |xd fs=>obtain⟨_,⟨ob,_,_,z,_⟩,_⟩:=y;exact⟨_,z⟩
 |rng lo hi=>obtain⟨_,_,_,z⟩:=y;exact⟨_,z⟩
 |frz ob u=>exact⟨_,y.1⟩
 |tbl ps=>exact⟨_,(show h.get? a=some { cls:=.none,data:=.fields ps } from y)⟩
 |met f y'=>exact⟨_,(show h.get? a=some (PySem.W.methodObj (.ref f) (.ref y')) from y)⟩
 |ext φ=>exact y.2.1
theorem Ec {h:Heap}{L:Addr}{m m':Str->Option Value}(a:h.Ns L m)(b:h.Ns L m'):m=m':=by
 obtain⟨o,es,ep,h1,h2,h3,h4⟩:=a
 obtain⟨o',es',ep',h1',h2',h3',h4'⟩:=b
 rw[h1] at h1'
 cases h1'
 rw[h2] at h2'
 cases h2'
 funext x
 rw[←h4 x,←h4' x]
section
variable {prog:Program}{w:World}{A:Around}{E:Value->Shared->Prop}{s:Shared}
theorem sU {a:Addr}{vs:List Value}{n:Nat}{P:PySem.Fin->Shared->Prop}(ho:s.heap.get? a=some (seqObj "list" vs.toArray n))(h2:vs.length<2)
  (h:P (.done (.ret .none)) { s with heap:=sortedHeap s.heap a vs vs.toArray }):wpAny (model prog w) A (Builtin.«list.sort» ⟨[.ref a],[]⟩) P E s:=by
 rw[list_sort_plain]
 have ha:=Heap.lt_size ho
 refine wpAny_bind (listItems_at ho rfl (wpAny_bind (listUpdate_at ho rfl ?_ (by rw[List.size_toArray,sizeLine_eq];omega) (Nat.zero_le _))))
 obtain⟨e1,ho1⟩:∃e1,(s.heap.update a (Obj.mapSeq fun _=>(#[]:Array Value))).get? a=some (seqObj "list" #[] e1):=⟨_,get?_update_seq ho fun _=>#[]⟩
 refine wpAny_bind (seqEpoch_at ho1 rfl (wpAny_bind (wpAny_newTuple (wpAny_bind (wpAny_newList (wpAny_holding ?_) (Nat.zero_le _))) (by show vs.length≤_;rw[sizeLine_eq];omega))))
 have ho6:(((s.heap.update a (Obj.mapSeq fun _=>(#[]:Array Value))).push (seqObj "tuple" vs.toArray 0)).push (seqObj "list" #[] 0)).get? a=some (seqObj "list" #[] e1):=Heap.get?_push_of_some _ (Heap.get?_push_of_some _ ho1)
 show wpAny (model prog w) A _ P E { s with heap:=((s.heap.update a (Obj.mapSeq fun _=>(#[]:Array Value))).push (seqObj "tuple" vs.toArray 0)).push (seqObj "list" #[] 0) }
 dsimp only
 have hlt:vs.toArray.size<2:=by rw[List.size_toArray];exact h2
 rw[if_pos hlt,if_pos hlt]
 refine wpAny_bind (wpAny_pure ?_)
 rw[StateT.run_pure]
 have hsn:(arrOf (SortSt.mk' general' (vs.toArray.zip vs.toArray) #[] 7 none)).map (·.2)=vs.toArray:=by
  show (vs.toArray.zip vs.toArray).map (·.2)=vs.toArray
  apply Array.toList_inj.mp
  simp
  exact List.map_snd_zip (by simp)
 refine wpAny_bind (wpAny_pure ?_)
 dsimp only
 refine wpAny_bind (seqEpoch_at ho6 rfl ?_)
 refine wpAny_bind (listUpdate_at ho6 rfl ?_ (Nat.zero_le _) (by rw[hsn,List.size_toArray,sizeLine_eq];omega))
 simp only[bne_self_eq_false,Bool.false_eq_true,if_false]
 rw[hsn]
 exact wpAny_pure h
theorem qn {l:Addr}{vs:List Value}{Q:Value->Shared->Prop}(hl:s.heap.IsList l vs.toArray)(h2:vs.length<2)(h:Q (.ref (s.heap.objs.size+1)) { s with heap:=sortedAll s.heap vs vs.toArray }) :
  wpAny (model prog w) A (call (.builtin "sorted") [.ref l]) Q E s:=by
 refine Calls.call_function_entry kind_sorted plain_sorted entry_sorted (args_sorted1 _) ?_
 unfold Builtin.«sorted»
 refine wpAny_bind (m:=checkCount "sorted" 1 1 _) (wpAny_pure (wpAny_bind (collect_list hl (wpAny_bind (wpAny_newList ?_ (by rw[sizeLine_eq];omega))) (by rw[sizeLine_eq];omega))))
 have hsz:((s.heap.push (seqObj "list" #[] 0)).update s.heap.objs.size (Obj.mapSeq (·++vs.toArray))).objs.size=s.heap.objs.size+1:=(Heap.size_update ..).trans (size_push' ..)
 have hoL:(((s.heap.push (seqObj "list" #[] 0)).update s.heap.objs.size (Obj.mapSeq (·++vs.toArray))).push (seqObj "list" vs.toArray 0)).get? (s.heap.objs.size+1)=some (seqObj "list" vs.toArray 0):=hsz▸Heap.get?_push_size _ rfl
 show wpAny _ _ _ _ _ { s with heap:=((s.heap.push (seqObj "list" #[] 0)).update s.heap.objs.size (Obj.mapSeq (·++vs.toArray))).push (seqObj "list" vs.toArray 0) }
 rw[hsz]
 refine wpAny_bind (wpAny_holding (wpAny_call_entry slot_list_sort ⟨_,hoL,rfl⟩ entry_list_sort (sU hoL h2 ⟨_,rfl,?_⟩) (args_list_sort _)))
 exact wpAny_pure ⟨_,rfl,h⟩
end
end L2
end
section
namespace Dp
open PySem PySem.Spec L2 PyProof.Rows
inductive PV where
 |non|bl (b:Bool)|int (i:Int)|str (x:Str)|ty (n:String)|fn (x:Str)
 |tup (ps:List PV)|lst (ps:List PV)|dct (ks:List bP) (ps:List PV)
 |src (ps:List PV)|ktu (ps:List PV)
 |rng (lo hi:Int)
 |exn (C:Addr)
 |set (ps:List PV)
noncomputable def fZ:PV->Bool
 |.non=>true
 |.bl _=>true
 |.int _=>true
 |.str _=>true
 |.ty _=>true
 |_=>false
structure Cn where
 ok:Addr->Prop
 P:Program
 w:World
 mg:Str->Option Value
noncomputable def cx (its:List Value)(n:Nat):Obj:={ cls:=.type "list",data:=.seq its.toArray n }
mutual
noncomputable def D1 (top:Addr->Prop)(c:Cn)(h:Heap):PV->Value->Prop
 |.non,u=>u=.none
 |.bl b,u=>u=.bool b
 |.int i,u=>∃t,u=.int i t
 |.str x,u=>∃t,u=.str x t
 |.ty n,u=>u=.type n
 |.fn x,u=>∃a,c.mg x=some (.ref a)/\u=.ref a
 |.tup ps,u=>∃a its,u=.ref a/\top a/\IsTup h a its.toArray/\its.length≤sizeLine/\Ds c h ps its
 |.lst ps,u=>∃a its n,u=.ref a/\top a/\h.get? a=some (cx its n)/\its.length≤sizeLine/\Ds c h ps its
 |.ktu ps,u=>∃a its,u=.ref a/\top a/\IsTup h a its.toArray/\its.length≤sizeLine/\Ds c h ps its
 |.src ps,u=>∃a its n,u=.ref a/\top a/\h.get? a=some (cx its n)/\its.length≤sizeLine/\Ds c h ps its
 |.dct ks ps,u=>∃a kus,u=.ref a/\top a/\(a==sysModules)=false/\h.DictOf (aJ c.P c.w) a kus/\kus.length≤sizeLine/\kus.map (·.1)=ks/\Ds c h ps (kus.map (·.2))
 |.rng lo hi,u=>∃a t1 t2 t3,u=.ref a/\top a/\h.get? a=some { cls:=.type "range",data:=.fields #[.int lo t1,.int hi t2,.int 1 t3] }
 |.exn C,u=>∃a o,u=.ref a/\top a/\h.get? a=some o/\o.cls=.ref C
 |.set ps,u=>False
noncomputable def Ds (c:Cn)(h:Heap):List PV->List Value->Prop
 |[],us=>us=[]
 |p::ps,us=>∃u r,us=u::r/\D1 c.ok c h p u/\Ds c h ps r
end
noncomputable abbrev D (c:Cn)(h:Heap):PV->Value->Prop:=D1 c.ok c h
noncomputable abbrev Rd (c:Cn)(h:Heap):PV->Value->Prop:=D1 (fun _=>True) c h
section
variable {c c':Cn}{h h':Heap}
theorem Ds.length:∀{ps:List PV} {us:List Value},Ds c h ps us->us.length=ps.length
 |[],_,e=>by rw[show _=[] from e];rfl
 |_::_,_,⟨u,r,e,_,t⟩=>by rw[e,List.length_cons,List.length_cons,t.length]
structure Kp (c c':Cn)(h h':Heap):Prop where
 P:c'.P=c.P
 w:c'.w=c.w
 mg:c'.mg=c.mg
 kp:∀a o,c.ok a->h.get? a=some o->c'.ok a/\h'.get? a=some o
mutual
theorem D1.mono {top top':Addr->Prop}(k:Kp c c' h h')(kt:∀a o,top a->h.get? a=some o->top' a/\h'.get? a=some o):∀{p:PV} {u:Value},D1 top c h p u->D1 top' c' h' p u
 |.non,_,e=>e
 |.bl _,_,e=>e
 |.int _,_,e=>e
 |.str _,_,e=>e
 |.ty _,_,e=>e
 |.fn _,_,⟨a,m,e⟩=>⟨a,by rw[k.mg];exact m,e⟩
 |.tup ps,_,⟨a,its,e,q,⟨o,ho,r⟩,z,t⟩=>⟨a,its,e,(kt _ _ q ho).1,⟨o,(kt _ _ q ho).2,r⟩,z,Ds.mono k t⟩
 |.ktu ps,_,⟨a,its,e,q,⟨o,ho,r⟩,z,t⟩=>⟨a,its,e,(kt _ _ q ho).1,⟨o,(kt _ _ q ho).2,r⟩,z,Ds.mono k t⟩
 |.lst ps,_,⟨a,its,n,e,q,ho,z,t⟩=>⟨a,its,n,e,(kt _ _ q ho).1,(kt _ _ q ho).2,z,Ds.mono k t⟩
 |.src ps,_,⟨a,its,n,e,q,ho,z,t⟩=>⟨a,its,n,e,(kt _ _ q ho).1,(kt _ _ q ho).2,z,Ds.mono k t⟩
 |.dct ks ps,_,⟨a,kus,e,q,y,⟨o,es,ep,ho,r⟩,z,m,t⟩=>⟨a,kus,e,(kt _ _ q ho).1,y,by rw[k.P,k.w];exact⟨o,es,ep,(kt _ _ q ho).2,r⟩,z,m,Ds.mono k t⟩
 |.rng _ _,_,⟨a,t1,t2,t3,e,q,ho⟩=>⟨a,t1,t2,t3,e,kt _ _ q ho⟩
 |.exn C,_,⟨a,o,e,q,ho,r⟩=>⟨a,o,e,(kt _ _ q ho).1,(kt _ _ q ho).2,r⟩
 |.set _,_,e=>e
theorem Ds.mono (k:Kp c c' h h'):∀{ps:List PV} {us:List Value},Ds c h ps us->Ds c' h' ps us
 |[],_,e=>e
 |_::_,_,⟨u,r,e,d,t⟩=>⟨u,r,e,D1.mono k k.kp d,Ds.mono k t⟩
end
theorem D1.m {p:PV}{u:Value}(d:D c h p u)(k:Kp c c' h h'):D c' h' p u:=D1.mono k k.kp d
theorem D1.rd {p:PV}{u:Value}{top:Addr->Prop}(d:D1 top c h p u):Rd c h p u:=D1.mono ⟨rfl,rfl,rfl,fun _ _ q e=>⟨q,e⟩⟩ (fun _ _ _ e=>⟨trivial,e⟩) d
theorem Kp.refl:Kp c c h h:=⟨rfl,rfl,rfl,fun _ _ q e=>⟨q,e⟩⟩
theorem Ds.get:∀{ps:List PV} {us:List Value} {i:Nat} {p:PV},Ds c h ps us->ps[i]?=some p->∃u,us[i]?=some u/\D c h p u
 |[],_,i,p,_,e=>by simp at e
 |_::_,_,0,_,⟨u,r,e,d,t⟩,q=>by simp at q;subst q;exact⟨u,by rw[e];rfl,d⟩
 |_::ps,_,i+1,p,⟨u,r,e,d,t⟩,q=>by
  obtain⟨v,h1,h2⟩:=t.get (i:=i) (p:=p) (by simpa using q)
  exact⟨v,by rw[e];simpa using h1,h2⟩
theorem Ds.app:∀{ps qs:List PV} {us vs:List Value},Ds c h ps us->Ds c h qs vs->Ds c h (ps++qs) (us++vs)
 |[],_,_,_,e,q=>by rw[show _=[] from e];exact q
 |_::_,_,_,_,⟨u,r,e,d,t⟩,q=>⟨u,_,by rw[e];rfl,d,t.app q⟩
theorem Ds.one {p:PV}{u:Value}(d:D c h p u):Ds c h [p] [u]:=⟨u,[],rfl,d,rfl⟩
theorem Ds.cons {p:PV}{u:Value}{ps:List PV}{us:List Value}(d:D c h p u)(t:Ds c h ps us):Ds c h (p::ps) (u::us):=⟨u,us,rfl,d,t⟩
theorem Ds.set {p:PV}{u:Value}(d:D c h p u):∀{ps:List PV} {us:List Value} (i:Nat),Ds c h ps us->Ds c h (ps.set i p) (us.set i u)
 |[],_,_,q=>by rw[show _=[] from q];rfl
 |_::_,_,0,⟨v',r,e,_,t⟩=>by rw[e];exact⟨u,r,rfl,d,t⟩
 |_::_,_,i+1,⟨v',r,e,h',t⟩=>by rw[e];exact⟨v',_,rfl,h',Ds.set d i t⟩
theorem Ds.take:∀{ps:List PV} {us:List Value} (n:Nat),Ds c h ps us->Ds c h (ps.take n) (us.take n)
 |_,_,0,_=>by simp[Ds]
 |[],_,_+1,q=>by rw[show _=[] from q];rfl
 |_::_,_,n+1,⟨v,r,e,d,t⟩=>by rw[e];exact⟨v,_,rfl,d,t.take n⟩
theorem Ds.drop:∀{ps:List PV} {us:List Value} (n:Nat),Ds c h ps us->Ds c h (ps.drop n) (us.drop n)
 |_,_,0,q=>q
 |[],_,_+1,q=>by rw[show _=[] from q];rfl
 |_::_,_,n+1,⟨v,r,e,d,t⟩=>by rw[e];exact t.drop n
theorem Ds.rev:∀{ps:List PV} {us:List Value},Ds c h ps us->Ds c h ps.reverse us.reverse
 |[],_,q=>by rw[show _=[] from q];rfl
 |_::_,_,⟨v,r,e,d,t⟩=>by rw[e,List.reverse_cons,List.reverse_cons];exact t.rev.app (.one d)
theorem Ds.rep {ps:List PV}{us:List Value}(d:Ds c h ps us):∀n,Ds c h (List.replicate n ps).flatten (List.replicate n us).flatten
 |0=>rfl
 |n+1=>d.app (Ds.rep d n)
theorem Ds.of:∀{ps:List PV} {us:List Value},us.length=ps.length->(∀(i:Nat) p u,ps[i]?=some p->us[i]?=some u->D c h p u)->Ds c h ps us
 |[],[],_,_=>rfl
 |p::ps,u::us,hl,hd=>⟨u,us,rfl,hd 0 p u rfl rfl,Ds.of (by simpa using hl) fun i p u h1 h2=>hd (i+1) p u (by simpa using h1) (by simpa using h2)⟩
 |[],_::_,hl,_=>by cases hl
 |_::_,[],hl,_=>by cases hl
theorem D1.v {top:Addr->Prop}{p:PV}{u:Value}(d:D1 top c h p u):∃v,e9 v u/\∀u',e9 v u'->D1 top c h p u':=by
 cases p with
 |non=>exact⟨.non,d,fun _ r=>r⟩
 |bl b=>exact⟨.bl b,d,fun _ r=>r⟩
 |int i=>exact⟨.int i,d,fun _ r=>r⟩
 |str i=>exact⟨.str i,d,fun _ r=>r⟩
 |ty i=>exact⟨.ty i,d,fun _ r=>r⟩
 |fn i=>obtain⟨a,m,e⟩:=d;exact⟨.ref a,e,fun _ r=>⟨a,m,r⟩⟩
 |set i=>exact (show False from d).elim
 |tup|lst|ktu|src|dct|rng|exn=>
  obtain⟨a,r,x⟩:=id d
  first
   |exact⟨.ref a,x.1,fun u' q=>by rw[show u'=.ref a from q];exact⟨a,r,rfl,x.2⟩⟩
   |(obtain⟨n,x⟩:=x;exact⟨.ref a,x.1,fun u' q=>by rw[show u'=.ref a from q];exact⟨a,r,n,rfl,x.2⟩⟩)
   |(obtain⟨n,m,x⟩:=x;exact⟨.ref a,x.1,fun u' q=>by rw[show u'=.ref a from q];exact⟨a,r,n,m,rfl,x.2⟩⟩)
end
end Dp
end
section
namespace Dp
open PySem PySem.Spec L2 PyProof.Rows
inductive Sl where
 |val (p:PV)|own (ps:List PV)|dic (ks:List bP) (ps:List PV)
noncomputable abbrev ak:=List (Option Sl)
noncomputable abbrev au:HO:=.ext fun _=>True
noncomputable def hU (bad:Addr->Prop)(H:Hp)(a:Addr):Prop:=H a=none/\¬bad a
structure Z (X:Cx) where
 bad:Addr->Prop
 pins:List (Addr×Obj)
 σ:L2.St
 H:Hp
 ρ:ak
noncomputable abbrev aF (X:Cx)(bad:Addr->Prop)(H:Hp):Cn:=⟨hU bad H,X.prog,X.w,X.mg⟩
noncomputable abbrev Z.cn {X:Cx}(z:Z X):Cn:=aF X z.bad z.H
noncomputable def DictAt (c:Cn)(h:Heap)(a:Addr)(ks:List bP)(ps:List PV):Prop:=∃kus,(a==sysModules)=false/\h.DictOf (aJ c.P c.w) a kus/\kus.length≤sizeLine/\kus.map (·.1)=ks/\Ds c h ps (kus.map (·.2))
noncomputable def ListAt (c:Cn)(h:Heap)(a:Addr)(ps:List PV):Prop:=∃its n,h.get? a=some (cx its n)/\its.length≤sizeLine/\Ds c h ps its
noncomputable def SlOk (c:Cn)(H:Hp)(h:Heap):Sl->V->Prop
 |.val p,v=>∀u,e9 v u->D c h p u
 |.own ps,v=>∃a,v=.ref a/\H a=some au/\ListAt c h a ps
 |.dic ks ps,v=>∃a,v=.ref a/\H a=some au/\DictAt c h a ks ps
noncomputable def bt:Sl->Bool
 |.val _=>false
 |_=>true
noncomputable def aD (σ:L2.St)(ρ:ak)(i:Nat)(a:Addr):Prop:=(∃s,ρ[i]?=some (some s)/\bt s=true)/\σ[i]?=some (some (.ref a))
structure Z.ok {X:Cx}(z:Z X)(s:Shared):Prop where
 I:Inv X z.pins z.σ z.H s
 len:z.σ.length=z.ρ.length
 slk:∀(i:Nat) t,z.ρ[i]?=some (some t)->∃v,z.σ[i]?=some (some v)/\(∃u,e9 v u)/\SlOk z.cn z.H s.heap t v
 dj:∀i j a,aD z.σ z.ρ i a->aD z.σ z.ρ j a->i=j
 nb:∀i a,aD z.σ z.ρ i a->¬z.bad a/\(X.s₀.heap.get? a=none\/X.H₀ a≠none)
 oh:∀b o,z.H b=some o->o=au
 oh0:∀b o,X.H₀ b=some o->o=au
 loc:z.bad X.env.locals
 cel:∀x c,X.env.cells.lookup x=some c->z.bad c
 fs:∀b∈X.fs,z.bad b
 ex:∀b∈X.ex,z.bad b
 there:∀b,z.bad b->∃o,s.heap.get? b=some o
 bs:∀b o,X.base.get? b=some o->¬z.bad b
 ot:∀a o,z.H a=some o->¬z.bad a/\∃ob,s.heap.get? a=some ob/\ob.cls≠.type "tuple"
 anc:X.fn "" = true->∀a,X.H₀ a≠none->z.σ[0]?=some (some (.ref a))
structure Ext (bad:Addr->Prop)(h h':Heap):Prop where
 kp:∀a o,¬bad a->h.get? a=some o->h'.get? a=some o
 th:∀a o,h.get? a=some o->∃o',h'.get? a=some o'
theorem Ext.refl {bad:Addr->Prop}{h:Heap}:Ext bad h h:=⟨fun _ _ _ e=>e,fun _ o e=>⟨o,e⟩⟩
theorem Ext.trans {bad:Addr->Prop}{h h1 h2:Heap}(a:Ext bad h h1)(b:Ext bad h1 h2):Ext bad h h2:=
 ⟨fun x o n e=>b.kp x o n (a.kp x o n e),fun x o e=>let ⟨o',q⟩:=a.th x o e;b.th x o' q⟩
theorem Ext.kept {bad:Addr->Prop}{h h':Heap}(k:∀b u,h.get? b=some u->h'.get? b=some u):Ext bad h h':=⟨fun a o _ e=>k a o e,fun a o e=>⟨o,k a o e⟩⟩
section
variable {X:Cx}{z:Z X}{s s' s1 s2:Shared}{h h':Heap}
theorem Ext.kpD {bad:Addr->Prop}{H:Hp}(e:Ext bad h h'):Kp (aF X bad H) (aF X bad H) h h':=⟨rfl,rfl,rfl,fun a o q g=>⟨q,e.kp a o q.2 g⟩⟩
theorem ListAt.mono {c c':Cn}{a:Addr}{ps:List PV}(k:Kp c c' h h')(q:∀o,h.get? a=some o->h'.get? a=some o):ListAt c h a ps->ListAt c' h' a ps
 |⟨its,n,e,z,t⟩=>⟨its,n,q _ e,z,t.mono k⟩
theorem DictAt.mono {c c':Cn}{a:Addr}{ks:List bP}{ps:List PV}(k:Kp c c' h h')(q:∀o,h.get? a=some o->h'.get? a=some o):DictAt c h a ks ps->DictAt c' h' a ks ps
 |⟨kus,y,⟨o,es,ep,e,r⟩,z,m,t⟩=>⟨kus,y,by rw[k.P,k.w];exact⟨o,es,ep,q _ e,r⟩,z,m,t.mono k⟩
theorem SlOk.mono {c c':Cn}{H:Hp}(k:Kp c c' h h')(q:∀a o,H a=some au->h.get? a=some o->h'.get? a=some o):∀{t:Sl} {v:V},SlOk c H h t v->SlOk c' H h' t v
 |.val p,_,d=>fun u r=>(d u r).m k
 |.own ps,_,⟨a,e,o,d⟩=>⟨a,e,o,d.mono k (q a · o)⟩
 |.dic ks ps,_,⟨a,e,o,d⟩=>⟨a,e,o,d.mono k (q a · o)⟩
noncomputable def Z.go (z:Z X)(s s':Shared):Prop:=z.ok s'/\Ext z.bad s.heap s'.heap
theorem Z.ok.stands (h:z.ok s){a:Addr}{o:HO}(e:z.H a=some o):∃ob,s.heap.get? a=some ob:=h.I.hok.stands e
theorem Z.ok.free (h:z.ok s){a:Addr}(e:s.heap.get? a=none):hU z.bad z.H a:=by
 refine⟨?_,fun b=>?_⟩
 ·cases q:z.H a with
  |none=>rfl
  |some o=>obtain⟨ob,r⟩:=h.stands q;rw[e] at r;cases r
 ·obtain⟨o,r⟩:=h.there a b;rw[e] at r;cases r
theorem Z.ok.own_nb (h:z.ok s){i:Nat}{t:Sl}{a:Addr}(e:z.ρ[i]?=some (some t))(o:bt t=true)(q:z.σ[i]?=some (some (.ref a))):¬z.bad a:=(h.nb i a ⟨⟨t,e,o⟩,q⟩).1
theorem SlOk.step {z:Z X}(hz:z.ok s)(e:Ext z.bad s.heap h'){i:Nat}{t:Sl}{v:V}(e1:z.ρ[i]?=some (some t))(e2:z.σ[i]?=some (some v)):SlOk z.cn z.H s.heap t v->SlOk z.cn z.H h' t v:=fun q=>by
 cases t with
 |val p=>exact fun u r=>(q u r).m e.kpD
 |own ps=>obtain⟨a,rfl,o,d⟩:=q;exact⟨a,rfl,o,d.mono e.kpD fun o'=>e.kp a o' (hz.own_nb e1 rfl e2)⟩
 |dic ks ps=>obtain⟨a,rfl,o,d⟩:=q;exact⟨a,rfl,o,d.mono e.kpD fun o'=>e.kp a o' (hz.own_nb e1 rfl e2)⟩
theorem Z.ok.ext (hz:z.ok s)(I:Inv X z.pins z.σ z.H s')(e:Ext z.bad s.heap s'.heap):z.go s s':=
 ⟨⟨I,hz.len,fun i t q=>by
  obtain⟨v,e1,r,d⟩:=hz.slk i t q
  exact⟨v,e1,r,d.step hz e q e1⟩,hz.dj,hz.nb,hz.oh,hz.oh0,hz.loc,hz.cel,hz.fs,hz.ex,fun b q=>let ⟨o,r⟩:=hz.there b q;e.th b o r,hz.bs,fun a o q=>⟨(hz.ot a o q).1,let ⟨ob,r1,r2⟩:=(hz.ot a o q).2;⟨ob,e.kp a ob (hz.ot a o q).1 r1,r2⟩⟩,hz.anc⟩,e⟩
theorem Z.ok.kept (hz:z.ok s){t:Nat}(k:∀b u,s.heap.get? b=some u->h'.get? b=some u):z.go s { s with heap:=h',toks:=t }:=hz.ext (hz.I.kept (t':=t) k) (.kept k)
theorem Z.ok.tok (hz:z.ok s)(t:Nat):z.go s { s with toks:=t }:=hz.kept (h':=s.heap) fun _ _ e=>e
theorem Z.ok.push (hz:z.ok s)(o:Obj)(t:Nat):z.go s { s with heap:=s.heap.push o,toks:=t }:=hz.kept fun _ _ e=>Heap.get?_push_of_some _ e
theorem Z.ok.refl (hz:z.ok s):z.go s s:=⟨hz,.refl⟩
theorem Z.go.trans (a:z.go s s1)(b:z.go s1 s2):z.go s s2:=⟨b.1,a.2.trans b.2⟩
end
inductive RV where
 |fz (p:PV)|nw (ps:List PV)|ln (p:PV)
noncomputable def RV.pv:RV->PV
 |.fz p=>p
 |.nw ps=>.lst ps
 |.ln p=>p
noncomputable def RV.fr:RV->Option PV
 |.fz p=>some p
 |.nw ps=>some (.lst ps)
 |.ln _=>none
noncomputable abbrev FE:=ak->Option RV
noncomputable abbrev FB:=ak->Option Bool
noncomputable abbrev FA:=ak->Option (List RV)
noncomputable abbrev FI:=ak->Option (List PV)
section
variable {X:Cx}{z:Z X}{s s' s1 s2:Shared}{h0 h h':Heap}
noncomputable def Gb:PV->Bool
 |.lst _=>true
 |.dct _ _=>true
 |_=>false
noncomputable def RvOk (z:Z X)(h0 h:Heap):RV->Value->Prop
 |.fz p,u=>D z.cn h p u
 |.nw ps,u=>∃a,u=.ref a/\h0.get? a=none/\hU z.bad z.H a/\ListAt (aF X z.bad (cg z.H a au)) h a ps
 |.ln p,u=>Rd z.cn h p u/\Gb p=true/\∀a,u=.ref a->¬z.bad a
theorem zS {bad:Addr->Prop}{H:Hp}{a:Addr}{h:Heap}:Kp (aF X bad (cg H a au)) (aF X bad H) h h:=⟨rfl,rfl,rfl,fun b o q e=>⟨⟨by
 have:=q.1
 by_cases hb:b=a
 ·subst hb;rw[aS] at this;cases this
 ·rwa [ax hb] at this,q.2⟩,e⟩⟩
theorem td {bad:Addr->Prop}{H:Hp}{a:Addr}{h:Heap}(n:h.get? a=none):Kp (aF X bad H) (aF X bad (cg H a au)) h h:=⟨rfl,rfl,rfl,fun b o q e=>⟨⟨by
 rw[ax (fun z=>by subst z;rw[n] at e;cases e)];exact q.1,q.2⟩,e⟩⟩
theorem RvOk.fr {r:RV}{p:PV}{u:Value}(d:RvOk z h0 h r u)(e:r.fr=some p):D z.cn h p u:=by
 cases r with
 |fz q=>cases e;exact d
 |nw ps=>cases e;obtain⟨a,e,_,o,its,n,g,l,t⟩:=d;exact⟨a,its,n,e,o,g,l,t.mono zS⟩
 |ln q=>cases e
theorem RvOk.rd {r:RV}{u:Value}(d:RvOk z h0 h r u):Rd z.cn h r.pv u:=by
 cases r with
 |fz q=>exact D1.rd d
 |nw ps=>exact D1.rd (RvOk.fr d rfl)
 |ln q=>exact d.1
theorem RvOk.ext {r:RV}{u:Value}(d:RvOk z h0 h r u)(e:Ext z.bad h h'):RvOk z h0 h' r u:=by
 cases r with
 |fz q=>exact D1.m d e.kpD
 |nw ps=>obtain⟨a,e1,n,o,l⟩:=d;exact⟨a,e1,n,o,l.mono e.kpD fun o' q=>e.kp a o' o.2 q⟩
 |ln q=>
  refine⟨?_,d.2⟩
  obtain⟨d,lb,nb⟩:=d
  have k:∀a,u=.ref a->∀o,h.get? a=some o->h'.get? a=some o:=fun a ea o q=>e.kp a o (nb a ea) q
  cases q with
  |lst ps=>obtain⟨a,its,n,e1,q,ho,l,t⟩:=d;exact⟨a,its,n,e1,q,k a e1 _ ho,l,t.mono e.kpD⟩
  |dct ks ps=>obtain⟨a,kus,e1,q,y,⟨o,es,ep,ho,r⟩,l,m,t⟩:=d;exact⟨a,kus,e1,q,y,⟨o,es,ep,k a e1 _ ho,r⟩,l,m,t.mono e.kpD⟩
  |_=>cases lb
structure Rv (z:Z X)(h:Heap)(p:PV)(u:Value):Prop where
 rd:Rd z.cn h p u
 fz:Gb p=false->D z.cn h p u
 nb:Gb p=true->∀a,u=.ref a->¬z.bad a
theorem D1.rv_nb {p:PV}{u:Value}(d:D z.cn h p u)(e:Gb p=true){a:Addr}(ea:u=.ref a):¬z.bad a:=by
 cases p with
 |lst ps=>obtain⟨b,its,n,e1,q,_⟩:=d;rw[e1] at ea;cases ea;exact q.2
 |dct ks ps=>obtain⟨b,its,e1,q,_⟩:=d;rw[e1] at ea;cases ea;exact q.2
 |_=>cases e
theorem RvOk.rv {r:RV}{u:Value}(d:RvOk z h0 h r u):Rv z h r.pv u:=by
 refine⟨d.rd,fun e=>?_,fun e a ea=>?_⟩
 ·cases r with
  |fz q=>exact d
  |nw ps=>cases e
  |ln q=>rw[show RV.pv (.ln q)=q from rfl,d.2.1] at e;cases e
 ·cases r with
  |fz q=>exact D1.rv_nb d e ea
  |nw ps=>obtain⟨b,rfl,_,o,_⟩:=d;cases ea;exact o.2
  |ln q=>exact d.2.2 a ea
noncomputable def Z.post (z:Z X)(s:Shared)(r:RV)(u:Value)(s':Shared):Prop:=z.go s s'/\RvOk z s.heap s'.heap r u
theorem RvOk.old {r:RV}{u:Value}(d:RvOk z h0 h r u)(e:∀a,h0.get? a=none->h'.get? a=none):RvOk z h' h r u:=by
 cases r with
 |fz q=>exact d
 |nw ps=>obtain⟨a,e1,n,o,l⟩:=d;exact⟨a,e1,e a n,o,l⟩
 |ln q=>exact d
theorem Ext.back {bad:Addr->Prop}(e:Ext bad h h'){a:Addr}(n:h'.get? a=none):h.get? a=none:=by
 cases q:h.get? a with
 |none=>rfl
 |some o=>obtain⟨o',r⟩:=e.th a o q;rw[n] at r;cases r
theorem Z.go.post {r:RV}{u:Value}(a:z.go s s1)(b:Z.post z s1 r u s2):Z.post z s r u s2:=⟨a.trans b.1,b.2.old fun _=>Ext.back a.2⟩
end
noncomputable abbrev W (X:Cx){α:Type}(t:Sem α)(Q:α->Shared->Prop)(E:Value->Shared->Prop)(s:Shared):Prop:=wpAny (model X.prog X.w) X.A t Q E s
noncomputable def NE (X:Cx)(e:Expr)(f:FE):Prop:=∀(z:Z X) s r E,z.ok s->f z.ρ=some r->W X (eval e X.env) (Z.post z s r) E s
noncomputable def NB (X:Cx)(e:Expr)(f:FB):Prop:=∀(z:Z X) s b E,z.ok s->f z.ρ=some b->W X (isTrue e X.env (eval e X.env)) (fun c s'=>c=b/\z.go s s') E s
noncomputable def NW (X:Cx)(e:Expr)(f:FB):Prop:=∀(z:Z X) whole s b E,z.ok s->f z.ρ=some b->W X (isTrue e X.env whole) (fun c s'=>c=b/\z.go s s') E s
inductive RvsOk {X:Cx} (z:Z X) (h0 h:Heap):List RV->List Value->Prop where
 |nil:RvsOk z h0 h [] []
 |cons {r:RV} {u:Value} {rs:List RV} {us:List Value}:RvOk z h0 h r u->RvsOk z h0 h rs us->RvsOk z h0 h (r::rs) (u::us)
noncomputable def NA (X:Cx)(es:List Expr)(f:FA):Prop:=∀(z:Z X) (pos:Pos) s rs E,z.ok s->f z.ρ=some rs->W X (spliced (backTo pos (starEach es X.env))) (fun us s'=>z.go s s'/\RvsOk z s.heap s'.heap rs us) E s
end Dp
end
section
namespace L2
open PySem PySem.Spec PyProof.Rows
section
variable {κ:Type}[DecidableEq κ]
end
theorem lw {P:Program}{w:World}{k:bP}{u:Value}(r:e9 (kV k) u):(aJ P w).is k u=true:=by
 cases k with
 |inl i=>obtain⟨t,e⟩:=(show ∃t,u=Value.int i t from r);subst e;exact qU P w i t
 |inr x=>obtain⟨t,e⟩:=(show ∃t,u=Value.str x t from r);subst e;exact hZ P w x t
section
variable {X:Cx}{pins:List (Addr×Obj)}{σ:St}{H:Hp}{s:Shared}{a:Addr}{y v:V}{u r:Value}{o:Option V}{A:Around}{E:Value->Shared->Prop}
theorem Inv.big (I:Inv X pins σ H s):sysModules<s.heap.objs.size:=by
 have h:mainGlobals<s.heap.objs.size:=(I.mod.glob.keeps I.bk).lt
 exact Nat.lt_trans (by decide) h
end
end L2
end
section
namespace Dp
open PySem PySem.Spec L2 PySem.SeqAt
noncomputable def r4:PV->V
 |.non=>.non
 |.bl b=>.bl b
 |.int i=>.int i
 |.str x=>.str x
 |.ty n=>.ty n
 |_=>.non
mutual
noncomputable def aK:PV->Bool
 |.non=>true
 |.bl _=>true
 |.int _=>true
 |.str _=>true
 |.tup ps=>aq ps
 |.lst ps=>aq ps
 |_=>false
noncomputable def aq:List PV->Bool
 |[]=>true
 |p::ps=>aK p&&aq ps
end
mutual
noncomputable def dep:PV->Nat
 |.tup ps=>bp ps+1
 |.lst ps=>bp ps+1
 |_=>0
noncomputable def bp:List PV->Nat
 |[]=>0
 |p::ps=>max (dep p) (bp ps)
end
mutual
noncomputable def eR:PV->PV->Bool
 |.tup ps,q=>match q with
  |.tup qs=>c6 ps qs
  |_=>false
 |.lst ps,q=>match q with
  |.lst qs=>c6 ps qs
  |_=>false
 |p,q=>fZ q&&Du (r4 p) (r4 q)
noncomputable def c6:List PV->List PV->Bool
 |[],qs=>match qs with
  |[]=>true
  |_::_=>false
 |p::ps,qs=>match qs with
  |[]=>false
  |q::qs=>eR p q&&c6 ps qs
end
theorem gU:∀(ps qs:List PV),((List.range (min ps.length qs.length)).all (fun j=>eR (ps.getD j .non) (qs.getD j .non))&&ps.length==qs.length)=c6 ps qs
 |[],[]=>by simp[c6]
 |[],_::_=>by simp[c6]
 |_::_,[]=>by simp[c6]
 |p::ps,q::qs=>by
  have ih:=gU ps qs
  rw[c6,←ih,show min (p::ps).length (q::qs).length=min ps.length qs.length+1 by simp only[List.length_cons];omega,List.range_succ_eq_map,List.all_cons,List.all_map]
  simp[Bool.and_assoc,Function.comp_def]
theorem rV {ps qs:List PV}(h:ps.length=qs.length):(List.range ps.length).all (fun j=>eR (ps.getD j .non) (qs.getD j .non))=c6 ps qs:=by
 rw[←gU,←h,Nat.min_self];simp
theorem sE {ps qs:List PV}(h:ps.length≠qs.length):c6 ps qs=false:=by
 rw[←gU,(show (ps.length==qs.length)=false by simpa using h),Bool.and_false]
mutual
theorem mR:∀{p:PV},aK p=true->eR p p=true
 |.non,_=>rfl
 |.bl b,_=>by simp[eR,fZ,r4,Du]
 |.int b,_=>by simp[eR,fZ,r4,Du]
 |.str b,_=>by simp[eR,fZ,r4,Du]
 |.tup ps,h=>cK (ps:=ps) h
 |.lst ps,h=>cK (ps:=ps) h
 |.ty _,h|.fn _,h|.dct _ _,h|.src _,h|.ktu _,h|.rng _ _,h|.exn _,h|.set _,h=>absurd h Bool.false_ne_true
theorem cK:∀{ps:List PV},aq ps=true->c6 ps ps=true
 |[],_=>rfl
 |p::ps,h=>by
  rw[aq,Bool.and_eq_true] at h
  rw[c6,mR h.1,cK h.2];rfl
end
inductive Vw (c:Cn) (h:Heap):PV->Value->Prop where
 |non:Vw c h .non .none
 |bl {b:Bool}:Vw c h (.bl b) (.bool b)
 |int {i:Int} {t:Tok}:Vw c h (.int i) (.int i t)
 |str {i:Str} {t:Tok}:Vw c h (.str i) (.str i t)
 |tup {ps:List PV} {a:Addr} {its:List Value}:aq ps=true->h.IsTuple a its.toArray->Ds c h ps its->Vw c h (.tup ps) (.ref a)
 |lst {ps:List PV} {a:Addr} {its:List Value}:aq ps=true->h.IsList a its.toArray->Ds c h ps its->Vw c h (.lst ps) (.ref a)
theorem D1.vw {top:Addr->Prop}{c:Cn}{h:Heap}{p:PV}{u:Value}(hp:aK p=true)(d:D1 top c h p u):Vw c h p u:=by
 cases p with
 |non=>cases (show u=_ from d);exact .non
 |bl b=>cases (show u=_ from d);exact .bl
 |int b=>obtain⟨t,rfl⟩:=d;exact .int
 |str b=>obtain⟨t,rfl⟩:=d;exact .str
 |tup ps=>obtain⟨a,its,rfl,_,q,_,t⟩:=d;exact .tup hp q t
 |lst ps=>obtain⟨a,its,n,rfl,_,q,_,t⟩:=d;exact .lst hp ⟨_,q,rfl,n,rfl⟩ t
 |_=>exact absurd hp Bool.false_ne_true
theorem BQ {h:Heap}{a:Addr}{x y:List Value}(h1:h.IsTuple a x.toArray)(h2:h.IsTuple a y.toArray):x=y:=by
 obtain⟨o,e,_,n,d⟩:=h1
 obtain⟨o',e',_,n',d'⟩:=h2
 rw[e] at e';cases e'
 rw[d] at d'
 injection d' with d1 _
 simpa using congrArg Array.toList d1
theorem Cc {h:Heap}{a:Addr}{x y:List Value}(h1:h.IsList a x.toArray)(h2:h.IsList a y.toArray):x=y:=by
 obtain⟨o,e,_,n,d⟩:=h1
 obtain⟨o',e',_,n',d'⟩:=h2
 rw[e] at e';cases e'
 rw[d] at d'
 injection d' with d1 _
 simpa using congrArg Array.toList d1
theorem DI {h:Heap}{a:Addr}{x y:Array Value}(h1:h.IsList a x)(h2:h.IsTuple a y):False:=by
 obtain⟨o,e,c,_⟩:=h1
 obtain⟨o',e',c',_⟩:=h2
 rw[e] at e';cases e';rw[c] at c';exact absurd (Value.type.inj c') (by decide)
mutual
theorem D1.inj {c c':Cn}{h:Heap}{t t':Addr->Prop}:∀{p q:PV} {u:Value},aK p=true->aK q=true->D1 t c h p u->D1 t' c' h q u->p=q:=fun {p q u} hp hq d d'=>by
 cases p with
 |tup ps=>
  obtain⟨a,its,rfl,_,h1,_,h2⟩:=d
  cases d'.vw hq with
  |tup _ h1' h2'=>cases BQ h1 h1';rw[Ds.inj hp hq h2 h2']
  |lst _ h1' _=>exact (DI h1' h1).elim
 |lst ps=>
  obtain⟨a,its,n,rfl,_,h1,_,h2⟩:=d
  have h1:h.IsList a its.toArray:=⟨_,h1,rfl,n,rfl⟩
  cases d'.vw hq with
  |lst _ h1' h2'=>cases Cc h1 h1';rw[Ds.inj hp hq h2 h2']
  |tup _ h1' _=>exact (DI h1 h1').elim
 |non=>cases (show u=_ from d);cases d'.vw hq;rfl
 |bl b=>cases (show u=_ from d);cases d'.vw hq;rfl
 |int b=>obtain⟨t,rfl⟩:=d;cases d'.vw hq;rfl
 |str b=>obtain⟨t,rfl⟩:=d;cases d'.vw hq;rfl
 |_=>exact absurd hp Bool.false_ne_true
theorem Ds.inj {c c':Cn}{h:Heap}:∀{ps qs:List PV} {us:List Value},aq ps=true->aq qs=true->Ds c h ps us->Ds c' h qs us->ps=qs
 |[],qs,_,_,_,e,h'=>by
  cases (show _=[] from e)
  cases qs with
  |nil=>rfl
  |cons q qs=>obtain⟨u,r,e,_⟩:=h';cases e
 |p::ps,qs,_,hp,hq,⟨u,r,e,d1,d2⟩,h'=>by
  subst e
  cases qs with
  |nil=>cases (show _=[] from h')
  |cons q qs=>
   obtain⟨u',r',e',d1',d2'⟩:=h'
   cases e'
   rw[aq,Bool.and_eq_true] at hp hq
   rw[D1.inj hp.1 hq.1 d1 d1',Ds.inj hp.2 hq.2 d2 d2']
end
variable {c c':Cn}{s:Shared}
theorem rh {t t':Addr->Prop}{p q:PV}{A:Around}{u v:Value}(hp:aK p=true)(hq:aK q=true)(d:D1 t c s.heap p u)(d':D1 t' c' s.heap q v)(rc:RcAt A s u v (eR p q)):EqAt A s u v (eR p q):=by
 by_cases h:u=v
 ·subst h
  obtain rfl:=D1.inj hp hq d d'
  rw[mR hp]
  exact EqAt.same _
 ·intro prog w E Q hQ
  unfold eqBool
  refine wpAny_holding ?_
  refine wpAny_ite_split (fun hab=>absurd (eq_of_beq hab) h) (fun _=>?_)
  cases d.vw hp<;>exact wpAny_bind (rc prog w E _ (wpAny_truthy_bool hQ))
theorem wC {p q:PV}{A:Around}{u v:Value}(hd:A.units<cLine)(d:Vw c s.heap p u)(d':Vw c' s.heap q v)(nt:∀ps qs,p=.tup ps->q≠.tup qs)(nl:∀ps qs,p=.lst ps->q≠.lst qs):RcAt A s u v (eR p q)/\RcNeAt A s u v (!eR p q):=by
 cases d with
 |non=>cases d' with
  |non=>exact⟨RcAt.none_none,RcNeAt.none_none⟩
  |bl=>exact⟨RcAt.none_bool _,RcNeAt.none_bool _⟩
  |int=>exact⟨RcAt.none_int _ _,RcNeAt.none_int _ _⟩
  |str=>exact⟨RcAt.none_str _ _,RcNeAt.none_str _ _⟩
  |tup _ h _=>exact⟨RcAt.none_tuple h hd,RcNeAt.none_tuple h hd⟩
  |lst _ h _=>exact⟨RcAt.none_list h hd,RcNeAt.none_list h hd⟩
 |bl=>cases d' with
  |non=>exact⟨RcAt.bool_none _,RcNeAt.bool_none _⟩
  |bl=>exact⟨RcAt.bool_bool _ _,RcNeAt.bool_bool _ _⟩
  |int=>exact⟨RcAt.bool_int _ _ _,RcNeAt.bool_int _ _ _⟩
  |str=>exact⟨RcAt.bool_str _ _ _,RcNeAt.bool_str _ _ _⟩
  |tup _ h _=>exact⟨RcAt.bool_tuple _ h hd,RcNeAt.bool_tuple _ h hd⟩
  |lst _ h _=>exact⟨RcAt.bool_list _ h hd,RcNeAt.bool_list _ h hd⟩
 |int=>cases d' with
  |non=>exact⟨RcAt.int_none _ _,RcNeAt.int_none _ _⟩
  |bl=>exact⟨RcAt.int_bool _ _ _,RcNeAt.int_bool _ _ _⟩
  |int=>exact⟨RcAt.int_int _ _ _ _,RcNeAt.int_int _ _ _ _⟩
  |str=>exact⟨RcAt.int_str _ _ _ _,RcNeAt.int_str _ _ _ _⟩
  |tup _ h _=>exact⟨RcAt.int_tuple _ _ h hd,RcNeAt.int_tuple _ _ h hd⟩
  |lst _ h _=>exact⟨RcAt.int_list _ _ h hd,RcNeAt.int_list _ _ h hd⟩
 |str=>cases d' with
  |non=>exact⟨RcAt.str_none _ _,RcNeAt.str_none _ _⟩
  |bl=>exact⟨RcAt.str_bool _ _ _,RcNeAt.str_bool _ _ _⟩
  |int=>exact⟨RcAt.str_int _ _ _ _,RcNeAt.str_int _ _ _ _⟩
  |str=>exact⟨RcAt.str_str _ _ _ _,RcNeAt.str_str _ _ _ _⟩
  |tup _ h _=>exact⟨RcAt.str_tuple _ _ h hd,RcNeAt.str_tuple _ _ h hd⟩
  |lst _ h _=>exact⟨RcAt.str_list _ _ h hd,RcNeAt.str_list _ _ h hd⟩
 |tup _ h _=>cases d' with
  |non=>exact⟨RcAt.tuple_none h hd,RcNeAt.tuple_none h hd⟩
  |bl=>exact⟨RcAt.tuple_bool _ h hd,RcNeAt.tuple_bool _ h hd⟩
  |int=>exact⟨RcAt.tuple_int _ _ h hd,RcNeAt.tuple_int _ _ h hd⟩
  |str=>exact⟨RcAt.tuple_str _ _ h hd,RcNeAt.tuple_str _ _ h hd⟩
  |tup=>exact absurd rfl (nt _ _ rfl)
  |lst _ h' _=>exact⟨RcAt.tuple_list h h' hd,RcNeAt.tuple_list h h' hd⟩
 |lst _ h _=>cases d' with
  |non=>exact⟨RcAt.list_none h hd,RcNeAt.list_none h hd⟩
  |bl=>exact⟨RcAt.list_bool _ h hd,RcNeAt.list_bool _ h hd⟩
  |int=>exact⟨RcAt.list_int _ _ h hd,RcNeAt.list_int _ _ h hd⟩
  |str=>exact⟨RcAt.list_str _ _ h hd,RcNeAt.list_str _ _ h hd⟩
  |tup _ h' _=>exact⟨RcAt.list_tuple h h' hd,RcNeAt.list_tuple h h' hd⟩
  |lst=>exact absurd rfl (nl _ _ rfl)
theorem uM {ps qs:List PV}{A:Around}{a b:Addr}{its its2:List Value}(hu:A.units<cLine)(l1:its.length=ps.length)(l2:its2.length=qs.length)(es:∀j (h1:j<its.toArray.size) (h2:j<its2.toArray.size),EqAt A.in1 s its.toArray[j] its2.toArray[j] (eR (ps.getD j .non) (qs.getD j .non))) :
  (s.heap.IsTuple a its.toArray->s.heap.IsTuple b its2.toArray->RcAt A s (.ref a) (.ref b) (c6 ps qs)/\RcNeAt A s (.ref a) (.ref b) (!c6 ps qs))/\(s.heap.IsList a its.toArray->s.heap.IsList b its2.toArray->RcAt A s (.ref a) (.ref b) (c6 ps qs)/\RcNeAt A s (.ref a) (.ref b) (!c6 ps qs)):=by
 refine⟨fun h1 h2=>?_,fun h1 h2=>?_⟩
 ·have x:=RcAt.tuples (A:=A) (s:=s) (e:=fun j=>eR (ps.getD j .non) (qs.getD j .non)) h1 h2 hu es
  have y:=RcNeAt.tuples (A:=A) (s:=s) (e:=fun j=>eR (ps.getD j .non) (qs.getD j .non)) h1 h2 hu es
  rw[List.size_toArray,List.size_toArray,l1,l2,gU] at x y
  exact⟨x,y⟩
 ·by_cases hl:ps.length=qs.length
  ·have x:=RcAt.lists (A:=A) (s:=s) (e:=fun j=>eR (ps.getD j .non) (qs.getD j .non)) h1 h2 (by simp;omega) hu es
   have y:=RcNeAt.lists (A:=A) (s:=s) (e:=fun j=>eR (ps.getD j .non) (qs.getD j .non)) h1 h2 (by simp;omega) hu es
   rw[List.size_toArray,l1,rV hl] at x y
   exact⟨x,y⟩
  ·have x:=RcAt.lists_lengths (A:=A) (s:=s) h1 h2 (by simp;omega) hu
   have y:=RcNeAt.lists_lengths (A:=A) (s:=s) h1 h2 (by simp;omega) hu
   rw[sE hl]
   exact⟨x,y⟩
mutual
theorem Bj:∀{p q:PV} {A:Around} {u v:Value} {t t':Addr->Prop},aK p=true->aK q=true->A.units+dep p+1<cLine->D1 t c s.heap p u->D1 t' c' s.heap q v->RcAt A s u v (eR p q)/\RcNeAt A s u v (!eR p q)
 |.tup ps,q,A,_,v,t,t',hp,hq,hd,⟨a,its,e,o,h1,z,h2⟩,d=>by
  subst e
  cases d.vw hq with
  |tup _ h1' h2'=>exact (uM (by omega) h2.length h2'.length fun j k1 k2=>zw (ps:=ps) hp hq (by rw[dep] at hd;show A.units+1+bp ps+1<cLine;omega) h2 h2' j (by simpa using k1) (by simpa using k2) k1 k2).1 h1 h1'
  |_=>exact wC (by omega) (D1.vw (p:=.tup ps) hp ⟨a,its,rfl,o,h1,z,h2⟩) (d.vw hq) (fun _ _ _ e=>(by cases e)) fun _ _ e=>(by cases e)
 |.lst ps,q,A,_,v,t,t',hp,hq,hd,⟨a,its,n,e,o,h1,z,h2⟩,d=>by
  subst e
  cases d.vw hq with
  |lst _ h1' h2'=>exact (uM (by omega) h2.length h2'.length fun j k1 k2=>zw (ps:=ps) hp hq (by rw[dep] at hd;show A.units+1+bp ps+1<cLine;omega) h2 h2' j (by simpa using k1) (by simpa using k2) k1 k2).2 ⟨_,h1,rfl,n,rfl⟩ h1'
  |_=>exact wC (by omega) (D1.vw (p:=.lst ps) hp ⟨a,its,n,rfl,o,h1,z,h2⟩) (d.vw hq) (fun _ _ e=>(by cases e)) fun _ _ _ e=>(by cases e)
 |.non,q,A,u,v,_,_,hp,hq,hd,d,d'=>wC (by omega) (d.vw hp) (d'.vw hq) (fun _ _ e=>by cases e) fun _ _ e=>by cases e
 |.bl _,q,A,u,v,_,_,hp,hq,hd,d,d'=>wC (by omega) (d.vw hp) (d'.vw hq) (fun _ _ e=>by cases e) fun _ _ e=>by cases e
 |.int _,q,A,u,v,_,_,hp,hq,hd,d,d'=>wC (by omega) (d.vw hp) (d'.vw hq) (fun _ _ e=>by cases e) fun _ _ e=>by cases e
 |.str _,q,A,u,v,_,_,hp,hq,hd,d,d'=>wC (by omega) (d.vw hp) (d'.vw hq) (fun _ _ e=>by cases e) fun _ _ e=>by cases e
 |.ty _,_,_,_,_,_,_,h,_,_,_,_|.fn _,_,_,_,_,_,_,h,_,_,_,_|.dct _ _,_,_,_,_,_,_,h,_,_,_,_|.src _,_,_,_,_,_,_,h,_,_,_,_|.ktu _,_,_,_,_,_,_,h,_,_,_,_|.rng _ _,_,_,_,_,_,_,h,_,_,_,_|.exn _,_,_,_,_,_,_,h,_,_,_,_|.set _,_,_,_,_,_,_,h,_,_,_,_=>absurd h Bool.false_ne_true
theorem zw:∀{ps qs:List PV} {A:Around} {us vs:List Value},aq ps=true->aq qs=true->A.units+bp ps+1<cLine->Ds c s.heap ps us->Ds c' s.heap qs vs->∀j (_:j<us.length) (_:j<vs.length) (h1:j<us.toArray.size) (h2:j<vs.toArray.size),EqAt A s us.toArray[j] vs.toArray[j] (eR (ps.getD j .non) (qs.getD j .non))
 |[],qs,A,us,vs,_,_,_,e,_=>fun j h1 _ _ _=>absurd h1 (by rw[show us=[] from e];exact Nat.not_lt_zero _)
 |p::ps,qs,A,us,vs,hp,hq,hd,⟨u,r,e,d1,d2⟩,d'=>fun j h1 h2 k1 k2=>by
  cases qs with
  |nil=>exact absurd h2 (by rw[show vs=[] from d'];exact Nat.not_lt_zero _)
  |cons q qs=>
   obtain⟨v,r',e',d1',d2'⟩:=d'
   subst e e'
   rw[aq,Bool.and_eq_true] at hp hq
   rw[bp] at hd
   cases j with
   |zero=>
    have:=rh hp.1 hq.1 d1 d1' (Bj (A:=A) hp.1 hq.1 (by omega) d1 d1').1
    simpa using this
   |succ j=>
    have:=zw (A:=A) hp.2 hq.2 (by omega) d2 d2' j (by simpa using h1) (by simpa using h2) (by simpa using h1) (by simpa using h2)
    simpa using this
end
open Classical in
noncomputable def A7 (c:Cn)(h:Heap)(q:PV)(u:Value):Bool:=if h:∃p,aK p=true/\D c h p u then eR h.choose q else false
theorem zq {q p:PV}{u:Value}(hp:aK p=true)(d:D c s.heap p u):A7 c s.heap q u=eR p q:=by
 have h:∃p,aK p=true/\D c s.heap p u:=⟨p,hp,d⟩
 unfold A7
 rw[dif_pos h,D1.inj h.choose_spec.1 hp h.choose_spec.2 d]
theorem wc {q:PV}:∀{ps:List PV} {us:List Value},aq ps=true->Ds c s.heap ps us->us.any (A7 c s.heap q)=ps.any fun p=>eR p q
 |[],_,_,h=>by rw[show _=[] from h];rfl
 |p::ps,_,hp,⟨u,r,e,d1,d2⟩=>by
  subst e
  rw[aq,Bool.and_eq_true] at hp
  rw[List.any_cons,List.any_cons,zq hp.1 d1,wc hp.2 d2]
theorem uW {A:Around}{q:PV}{v:Value}{t:Addr->Prop}(hq:aK q=true)(dq:D1 t c' s.heap q v):∀{ps:List PV} {us:List Value},aq ps=true->A.units+bp ps+1<cLine->Ds c s.heap ps us->∀u∈us,EqAt A s u v (A7 c s.heap q u)
 |[],_,_,_,h,u,hu=>by rw[show _=[] from h] at hu;cases hu
 |p::ps,_,hp,hd,⟨u',r,e,d1,d2⟩,u,hu=>by
  subst e
  rw[aq,Bool.and_eq_true] at hp
  rw[bp] at hd
  rcases List.mem_cons.mp hu with rfl|hu
  ·rw[zq hp.1 d1]
   exact rh hp.1 hq d1 dq (Bj hp.1 hq (by omega) d1 dq).1
  ·exact uW hq dq hp.2 (by omega) d2 u hu
noncomputable def pin (x:PV)(ps:List PV):Bool:=ps.any fun p=>eR p x
noncomputable def items:PV->Option (List PV)
 |.tup ps=>some ps
 |.lst ps=>some ps
 |.src ps=>some ps
 |.ktu ps=>some ps
 |_=>none
theorem D1.items {t:Addr->Prop}{h:Heap}{p:PV}{u:Value}{ps:List PV}(d:D1 t c h p u)(e:items p=some ps):∃a its,u=.ref a/\t a/\its.length≤sizeLine/\Ds c h ps its/\(PyProof.Rows.IsTup h a its.toArray\/∃n,h.get? a=some (cx its n)):=by
 cases p with
 |tup qs=>cases e;obtain⟨a,its,e,o,q,z,t⟩:=d;exact⟨a,its,e,o,z,t,.inl q⟩
 |ktu qs=>cases e;obtain⟨a,its,e,o,q,z,t⟩:=d;exact⟨a,its,e,o,z,t,.inl q⟩
 |lst qs=>cases e;obtain⟨a,its,n,e,o,q,z,t⟩:=d;exact⟨a,its,e,o,z,t,.inr ⟨n,q⟩⟩
 |src qs=>cases e;obtain⟨a,its,n,e,o,q,z,t⟩:=d;exact⟨a,its,e,o,z,t,.inr ⟨n,q⟩⟩
 |_=>cases e
theorem aL {h:Heap}{a:Addr}{its:List Value}{n:Nat}(e:h.get? a=some (cx its n)):h.IsList a its.toArray:=⟨_,e,rfl,n,rfl⟩
section
variable {prog:Program}{w:World}{A:Around}{E:Value->Shared->Prop}{Q:Value->Shared->Prop}
theorem CV {x y:PV}{u v:Value}{ps:List PV}{t t':Addr->Prop}(ng:Bool)(hu:A.units+64<cLine)(hx:aK x=true)(dx:D1 t c' s.heap x u)(dy:D1 t' c s.heap y v)(e:items y=some ps)(hp:aq ps=true)(hd:bp ps≤50)(q:Q (.bool (if ng=true then !pin x ps else pin x ps)) s) :
  wpAny (model prog w) A (compareOp (if ng=true then .NotIn else .In) u v) Q E s:=by
 obtain⟨a,its,rfl,_,_,ds,h⟩:=dy.items e
 have m:∀y∈its.toArray,EqAt A.in1 s y u (A7 c s.heap x y):=fun y hy=>uW hx dx hp (by show A.units+1+bp ps+1<cLine;omega) ds y (by simpa using hy)
 have e2:its.toArray.any (A7 c s.heap x)=pin x ps:=by rw[List.any_toArray,wc hp ds];rfl
 cases ng<;>rcases h with h|⟨n,h⟩
 ·exact in_tupleAt (A7 c s.heap x) h m (by rw[e2];exact q)
 ·exact in_listAt (A7 c s.heap x) (aL h) m (by rw[e2];exact q)
 ·exact notIn_tupleAt (A7 c s.heap x) h m (by rw[e2];exact q)
 ·exact notIn_listAt (A7 c s.heap x) (aL h) m (by rw[e2];exact q)
end
noncomputable def eV:PV->Option bP
 |.int i=>some (.inl i)
 |.str x=>some (.inr x)
 |_=>none
theorem cI {t:Addr->Prop}{c:Cn}{h:Heap}{p:PV}{u:Value}{k:bP}(e:eV p=some k)(d:D1 t c h p u):e9 (kV k) u:=by
 cases p with
 |int i=>cases e;exact d
 |str x=>cases e;exact d
 |_=>cases e
noncomputable def lM:List bP->List PV->bP->Option PV
 |k::ks,p::ps,y=>if k=y then some p else lM ks ps y
 |_,_,_=>none
theorem j3 {c:Cn}{h:Heap}{y:bP}:∀{kus:List (bP×Value)} {ks:List bP} {ps:List PV},kus.map (·.1)=ks->Ds c h ps (kus.map (·.2))->(∀p,lM ks ps y=some p->∃u,valueAt kus y=some u/\D c h p u)/\(lM ks ps y=none->valueAt kus y=none)
 |[],ks,ps,e,d=>by
  subst e
  cases ps with
  |nil=>exact⟨fun p e=>(by cases e),fun _=>rfl⟩
  |cons p ps=>obtain⟨u,r,e,_⟩:=d;cases e
 |(k,v)::kus,ks,ps,e,d=>by
  subst e
  cases ps with
  |nil=>cases (show v::kus.map (·.2)=[] from d)
  |cons p ps=>
   obtain⟨u,r,e,d1,d2⟩:=d
   cases e
   obtain⟨h1,h2⟩:=j3 (y:=y) rfl d2
   show (∀q,(if k=y then some p else lM (kus.map (·.1)) ps y)=some q->_)/\((if k=y then some p else lM (kus.map (·.1)) ps y)=none->_)
   by_cases hk:k=y
   ·rw[if_pos hk]
    exact⟨fun q e=>(by cases e;exact⟨v,by simp[valueAt,hk],d1⟩),fun e=>by cases e⟩
   ·rw[if_neg hk]
    have ev:valueAt ((k,v)::kus) y=valueAt kus y:=by simp[valueAt,hk]
    rw[ev]
    exact⟨h1,h2⟩
noncomputable def I9 (x y:PV):Option Bool:=match y with
 |.dct ks ps=>(eV x).map fun k=>(lM ks ps k).isSome
 |_=>none
theorem yW {P:Program}{w:World}{mg:Str->Option Value}{A:Around}{s:Shared}{ok ok':Addr->Prop}{t t':Addr->Prop}{x y:PV}{u v:Value}{b ng:Bool}{Q:Value->Shared->Prop}{E:Value->Shared->Prop}(dx:D1 t ⟨ok',P,w,mg⟩ s.heap x u)(dy:D1 t' ⟨ok,P,w,mg⟩ s.heap y v)(e:I9 x y=some b)(q:∀tk,Q (.bool (if ng then !b else b)) { s with toks:=tk }) :
  wpAny (model P w) A (compareOp (if ng then .NotIn else .In) u v) Q E s:=by
 unfold I9 at e
 split at e
 ·next ks ps=>
  obtain⟨k,ek,rfl⟩:=Option.map_eq_some_iff.mp e
  obtain⟨a,kus,rfl,_,y,dd,zl,hk,ds⟩:=dy
  obtain⟨h1,h2⟩:=j3 (y:=k) hk ds
  have ev:(valueAt kus k).isSome=(lM ks ps k).isSome:=by
   cases hd:lM ks ps k with
   |none=>rw[h2 hd];rfl
   |some p=>obtain⟨w',e1,_⟩:=h1 p hd;rw[e1];rfl
  cases ng with
  |false=>exact wpAny_in_of (lw (cI ek dx)) y dd.mapOf (by rw[ev];exact q _)
  |true=>exact wpAny_notIn_of (lw (cI ek dx)) y dd.mapOf (by rw[ev];exact q _)
 ·cases e
end Dp
end
section
namespace Dp
open PySem PySem.Spec L2 PyProof.Rows
theorem big {n:Nat}(h:n≤100000):n≤sizeLine:=Nat.le_trans h (by decide)
theorem F3 {n:Nat}(h:n≤100000):n<sizeLine:=Nat.lt_of_le_of_lt h (by decide)
section
variable {X:Cx}{e a b c:Expr}{es eM:List Expr}{pos:Pos}{f fa fb fc:FE}{fs:FA}{i:Nat}{ba bb:FB}
noncomputable def sl (ρ:ak)(i:Nat):Option Sl:=(ρ[i]?).join
noncomputable def qx:Sl->RV
 |.val p=>.fz p
 |.own ps=>.ln (.lst ps)
 |.dic ks ps=>.ln (.dct ks ps)
noncomputable def fV (i:Nat):FE:=fun ρ=>(sl ρ i).map qx
theorem dG {ρ:ak}{s:Sl}(h:sl ρ i=some s):ρ[i]?=some (some s):=by
 unfold sl at h
 cases q:ρ[i]? with
 |none=>rw[q] at h;cases h
 |some o=>rw[q] at h;rw[show o=some s from h]
theorem ListAt.rd {c:Cn}{h:Heap}{a:Addr}{ps:List PV}:ListAt c h a ps->Rd c h (.lst ps) (.ref a)
 |⟨its,n,e,z,t⟩=>⟨a,its,n,rfl,trivial,e,z,t⟩
theorem DictAt.rd {c:Cn}{h:Heap}{a:Addr}{ks:List bP}{ps:List PV}:DictAt c h a ks ps->Rd c h (.dct ks ps) (.ref a)
 |⟨kus,y,d,z,m,t⟩=>⟨a,kus,rfl,trivial,y,d,z,m,t⟩
theorem Z.ok.get {z:Z X}{s:Shared}(hz:z.ok s){t:Sl}{x:Str}(e:sl z.ρ i=some t)(hN:X.N[i]?=some x)(hv:oo X.env.scope x):∃v u m,s.heap.Ns X.env.locals m/\e9 v u/\HJ X.env s.heap m x u/\z.σ[i]?=some (some v)/\SlOk z.cn z.H s.heap t v/\RvOk z s.heap s.heap (qx t) u:=by
 obtain⟨v,e1,_,d⟩:=hz.slk i t (dG e)
 obtain⟨m,hn,hl⟩:=hz.I.loc
 obtain⟨u,r,l⟩:=hl i x v hN e1 hv
 refine⟨v,u,m,hn,r,l,e1,d,?_⟩
 cases t with
 |val p=>exact d u r
 |own ps=>obtain⟨a,rfl,o,d⟩:=d;rw[show u=.ref a from r];exact⟨ListAt.rd d,rfl,fun b q=>by cases q;exact hz.own_nb (dG e) rfl e1⟩
 |dic ks ps=>obtain⟨a,rfl,o,d⟩:=d;rw[show u=.ref a from r];exact⟨DictAt.rd d,rfl,fun b q=>by cases q;exact hz.own_nb (dG e) rfl e1⟩
theorem GX {x:Str}(hN:X.N[i]?=some x)(hv:oo X.env.scope x)(hd:(x==("__debug__" : Str))=false)(hcd:(x==("__classdict__" : Str))=false):NE X (.Name x pos) (fV i):=by
 intro z s r E hz h
 obtain⟨t,et,rfl⟩:=Option.map_eq_some_iff.mp h
 obtain⟨v,u,m,hn,rr,l,e1,d,q⟩:=Z.ok.get hz et hN hv
 have fin:Z.post z s (qx t) u s:=⟨hz.refl,q⟩
 rcases l with ⟨hk,hm⟩|⟨hk,c,hc,hcell⟩
 ·exact wpAny_Name (wpAny_loadName_local hz.I.ok.kind hk hn hm fin) hd
 ·rcases hk with hk|hk
  ·exact wpAny_Name (wpAny_loadName_cell hz.I.ok.kind hk hc hcell fin) hd
  ·exact wpAny_Name (wpAny_loadName_free hz.I.ok.kind hk hc hcell fin hcd) hd
noncomputable def fC (p:PV):FE:=fun _=>some (.fz p)
theorem n_int {i:Int}{j}:NE X (.Constant (.int i) j pos) (fC (.int i)):=fun z s r E hz h=>by cases h;exact wpAny_Constant_int ⟨hz.tok _,_,rfl⟩
theorem JW {i:Bool}{j}:NE X (.Constant (.bool i) j pos) (fC (.bl i)):=fun z s r E hz h=>by cases h;exact Constant_bool ⟨hz.refl,rfl⟩
theorem Hq {j}:NE X (.Constant .none j pos) (fC .non):=fun z s r E hz h=>by cases h;exact Constant_none ⟨hz.refl,rfl⟩
theorem n_str {x:Str}{j}:NE X (.Constant (.str x) j pos) (fC (.str x)):=fun z s r E hz h=>by cases h;exact Calls.Constant_str ⟨hz.tok _,_,rfl⟩
noncomputable def KN (X:Cx)(x:Str)(p:PV):Prop:=∃u,X.mg x=some u/\∀(h:Heap) (bad:Addr->Prop) (H:Hp),(∀b o,X.base.get? b=some o->h.get? b=some o/\H b=none/\¬bad b)->D (aF X bad H) h p u
theorem qr {x:Str}{p:PV}(hg:Gl X x)(hp:KN X x p)(hd:(x==("__debug__" : Str))=false):NE X (.Name x pos) (fC p):=fun z s r E hz h=>by
 cases h
 obtain⟨u,m,d⟩:=hp
 exact l4 hz.I hg m ⟨hz.refl,d _ _ _ fun b o q=>⟨hz.I.bk b o q,(hz.I.bs b o q).2,hz.bs b o q⟩⟩ hd
theorem HV {x:Str}{n:String}(hg:Gl X x)(hm:X.mg x=none)(hv:bootBuiltins x=some (.type n))(hn:x ≠ "__name__")(hd:(x==("__debug__" : Str))=false):NE X (.Name x pos) (fC (.ty n)):=fun z s r E hz h=>by
 cases h;exact jl hz.I hg hm hv ⟨hz.refl,rfl⟩ hn hd
noncomputable def ai (g:PV->PV->Option RV)(a b:FE):FE:=fun ρ=>(a ρ).bind fun x=>(b ρ).bind fun y=>g x.pv y.pv
theorem wm {α β γ:Type}{a:Option α}{b:Option β}{g:α->β->Option γ}{r:γ}(h:(a.bind fun x=>b.bind fun y=>g x y)=some r):∃x y,a=some x/\b=some y/\g x y=some r:=by
 obtain⟨x,e1,h⟩:=Option.bind_eq_some_iff.mp h
 obtain⟨y,e2,h⟩:=Option.bind_eq_some_iff.mp h
 exact⟨x,y,e1,e2,h⟩
noncomputable def wf (X:Cx)(F:Value->Value->Sem Value)(g:PV->PV->Option RV):Prop:=∀(z:Z X) s p q u v r E,z.ok s->Rv z s.heap p u->Rv z s.heap q v->g p q=some r->W X (F u v) (Z.post z s r) E s
theorem two (ha:NE X a fa)(hb:NE X b fb){z:Z X}{s:Shared}(hz:z.ok s){x y:RV}(ex:fa z.ρ=some x)(ey:fb z.ρ=some y){α:Type}{Q:α->Shared->Prop}{E:Value->Shared->Prop}{F:Value->Value->Sem α}
  (k:∀u v s2,z.go s s2->RvOk z s.heap s2.heap x u->RvOk z s.heap s2.heap y v->W X (F u v) Q E s2):W X (eval a X.env) (fun u s1=>W X (eval b X.env) (fun v s2=>W X (F u v) Q E s2) E s1) E s:=
 az (ha z s x E hz ex) fun u s1 ⟨g1,d1⟩=>az (hb z s1 y E g1.1 ey) fun v s2 ⟨g2,d2⟩=>k u v s2 (g1.trans g2) (d1.ext g2.2) (d2.old fun _=>Ext.back g1.2)
theorem JT {op:Operator}{g:PV->PV->Option RV}(h:wf X (binaryOp op) g)(ha:NE X a fa)(hb:NE X b fb):NE X (.BinOp a op b pos) (ai g fa fb):=fun z s r E hz q=>by
 obtain⟨x,y,ex,ey,eg⟩:=wm q
 exact wpAny_BinOp (two ha hb hz ex ey fun u v s2 g2 d1 d2=>az (h z s2 _ _ u v r E g2.1 d1.rv d2.rv eg) fun w s3 q3=>g2.post q3)
noncomputable def rI (f:Int->Int->PV):PV->PV->Option RV
 |.int i,.int j=>some (.fz (f i j))
 |_,_=>none
noncomputable def EF (C:Int->Int->Prop)[∀i j,Decidable (C i j)](f:Int->Int->PV):PV->PV->Option RV
 |.int i,.int j=>if C i j then some (.fz (f i j)) else none
 |_,_=>none
theorem rq {F:Value->Value->Sem Value}{C:Int->Int->Prop}[∀i j,Decidable (C i j)]{g:Int->Int->Int}
  (rule:∀(i j:Int) (t u:Tok) (s:Shared) (Q:Value->Shared->Prop) (E:Value->Shared->Prop),C i j->Q (.int (g i j) s.toks) { s with toks:=s.toks+1 }->W X (F (.int i t) (.int j u)) Q E s):wf X F (EF C fun i j=>.int (g i j)):=by
 intro z s p q u v r E hz dp dq e
 unfold EF at e
 split at e
 ·split at e
  ·next hc=>cases e;obtain⟨⟨t,rfl⟩,_⟩:=dp;obtain⟨⟨t',rfl⟩,_⟩:=dq;exact rule _ _ _ _ _ _ _ hc ⟨hz.tok _,_,rfl⟩
  ·cases e
 ·cases e
theorem zg {F:Value->Value->Sem Value}{g:Int->Int->Int}
  (rule:∀(i j:Int) (t u:Tok) (s:Shared) (Q:Value->Shared->Prop) (E:Value->Shared->Prop),Q (.int (g i j) s.toks) { s with toks:=s.toks+1 }->W X (F (.int i t) (.int j u)) Q E s):wf X F (rI fun i j=>.int (g i j)):=by
 intro z s p q u v r E hz dp dq e
 unfold rI at e
 split at e
 ·cases e;obtain⟨⟨t,rfl⟩,_⟩:=dp;obtain⟨⟨t',rfl⟩,_⟩:=dq;exact rule _ _ _ _ _ _ _ ⟨hz.tok _,_,rfl⟩
 ·cases e
noncomputable def Gk (f:Int->Int->Bool):PV->PV->Option RV
 |.int i,.int j=>some (.fz (.bl (f i j)))
 |_,_=>none
theorem BA {F:Value->Value->Sem Value}{g:Int->Int->Bool}
  (rule:∀(i j:Int) (t u:Tok) (s:Shared) (Q:Value->Shared->Prop) (E:Value->Shared->Prop),Q (.bool (g i j)) s->W X (F (.int i t) (.int j u)) Q E s):wf X F (Gk g):=by
 intro z s p q u v r E hz dp dq e
 unfold Gk at e
 split at e
 ·cases e;obtain⟨⟨t,rfl⟩,_⟩:=dp;obtain⟨⟨t',rfl⟩,_⟩:=dq;exact rule _ _ _ _ _ _ _ ⟨hz.refl,rfl⟩
 ·cases e
theorem Z.ok.newT {z:Z X}{s:Shared}(hz:z.ok s){ps:List PV}{its:List Value}(d:Ds z.cn s.heap ps its)(l:its.length≤sizeLine)(t:Nat):Z.post z s (.fz (.tup ps)) (.ref s.heap.objs.size) { s with heap:=s.heap.push { cls:=.type "tuple",data:=.seq its.toArray },toks:=t }:=
 ⟨hz.push _ t,_,its,rfl,hz.free (Heap.get?_none_of_le (Nat.le_refl _)),⟨_,Heap.get?_push_size _ rfl,rfl,_,rfl⟩,l,d.mono (hz.push _ t).2.kpD⟩
theorem Z.ok.newL {z:Z X}{s:Shared}(hz:z.ok s){ps:List PV}{its:List Value}(d:Ds z.cn s.heap ps its)(l:its.length≤sizeLine){h':Heap}{t n:Nat}(k:∀b u,s.heap.get? b=some u->h'.get? b=some u)(e:h'.get? s.heap.objs.size=some (cx its n)):Z.post z s (.nw ps) (.ref s.heap.objs.size) { s with heap:=h',toks:=t }:=by
 have n:=Heap.get?_none_of_le (h:=s.heap) (Nat.le_refl _)
 refine⟨hz.kept k,_,rfl,n,hz.free n,its,_,e,l,(d.mono (td n)).mono ⟨rfl,rfl,rfl,fun b o q e=>⟨q,k b o e⟩⟩⟩
theorem Z.ok.newL0 {z:Z X}{s:Shared}(hz:z.ok s){ps:List PV}{its:List Value}(d:Ds z.cn s.heap ps its)(l:its.length≤sizeLine){t n:Nat}:Z.post z s (.nw ps) (.ref s.heap.objs.size) { s with heap:=s.heap.push (cx its n),toks:=t }:=
 Z.ok.newL hz d l (fun _ _ e=>Heap.get?_push_of_some _ e) (Heap.get?_push_size _ rfl)
noncomputable def bO:PV->PV->Option RV
 |.int i,.int j=>some (.fz (.int (i+j)))
 |.lst ps,.lst qs=>if ps.length+qs.length≤100000 then some (.nw (ps++qs)) else none
 |.tup ps,.tup qs=>if ps.length+qs.length≤100000 then some (.fz (.tup (ps++qs))) else none
 |.str x,.str y=>if x.length+y.length≤100000 then some (.fz (.str (x++y))) else none
 |_,_=>none
end
end Dp
end
section
namespace Dp
open PySem PySem.Spec L2 PyProof.Rows
section
variable {X:Cx}{e a b c:Expr}{es eM:List Expr}{pos:Pos}{f fa fb fc:FE}{fs:FA}{i:Nat}{ba bb:FB}
theorem GD:wf X (binaryOp .Add) bO:=by
 intro z s p q u v r E hz dp dq e
 unfold bO at e
 split at e
 ·cases e;obtain⟨⟨t,rfl⟩,_⟩:=dp;obtain⟨⟨t',rfl⟩,_⟩:=dq;exact add_int ⟨hz.tok _,_,rfl⟩
 ·split at e
  ·next h=>
   cases e
   obtain⟨⟨l,its,n,rfl,_,e1,z1,d1⟩,_⟩:=dp
   obtain⟨⟨l2,its2,n2,rfl,_,e2,z2,d2⟩,_⟩:=dq
   have l1:=d1.length
   have l2:=d2.length
   have hb:=big h
   refine PySem.P.add_list e1 e2 ?_ (by rw[List.size_toArray,List.size_toArray];omega)
   rw[List.append_toArray]
   exact Z.ok.newL0 (n:=0) hz (d1.app d2) (by rw[List.length_append];omega)
  ·cases e
 ·split at e
  ·next h=>
   cases e
   have hb:=big h
   obtain⟨l,its,rfl,o1,e1,z1,d1⟩:=dp.2 rfl
   obtain⟨l2,its2,rfl,o2,e2,z2,d2⟩:=dq.2 rfl
   have l1:=d1.length
   have l2:=d2.length
   by_cases hx:its=[]
   ·subst hx
    rw[List.length_nil] at l1
    cases List.length_eq_zero_iff.mp l1.symm
    obtain⟨⟨cls,dd,data,sl⟩,ho,hc,n,hd⟩:=id e1
    obtain⟨⟨cls2,dd2,data2,sl2⟩,ho2,hc2,n2,hd2⟩:=id e2
    simp only at hc hd hc2 hd2
    subst hc hd hc2 hd2
    exact concat_meets ⟨_,ho,rfl⟩ ⟨_,ho2,rfl⟩ noFill_tuple_add seq_tuple_add PySem.F.slot_tuple_add PySem.F.entry_tuple_add (PySem.F.args_tuple_add_2 _ _) (tuple_addW0 _ _ _ _ n n2 dd dd2 sl sl2 (by rfl)) ⟨ho,ho2,hz.refl,dq.2 rfl⟩
   ·refine HT.cat_tup e1 e2 hx (fun hw=>?_) (fun hw=>?_) (by omega)
    ·subst hw
     rw[List.length_nil] at l2
     cases List.length_eq_zero_iff.mp l2.symm
     rw[List.append_nil]
     exact⟨hz.refl,dp.2 rfl⟩
    ·exact Z.ok.newT hz (d1.app d2) (by rw[List.length_append];omega) s.toks
  ·cases e
 ·split at e
  ·next h=>cases e;obtain⟨⟨t,rfl⟩,_⟩:=dp;obtain⟨⟨t',rfl⟩,_⟩:=dq;exact PyProof.Rows.add_str (fun t tk=>⟨hz.tok _,_,rfl⟩) (big h)
  ·cases e
 ·cases e
noncomputable def rT:PV->PV->Option RV:=rI fun i j=>.int (i - j)
noncomputable def fy:PV->PV->Option RV
 |.int i,.int j=>if (i.natAbs<2 ^ 64)\/(j.natAbs<2 ^ 64) then some (.fz (.int (i * j))) else none
 |.lst ps,.int j=>if j≤1000/\-1000≤j/\ps.length≤100 then some (.nw (List.replicate j.toNat ps).flatten) else none
 |.tup ps,.int j=>if ps.isEmpty=false/\1≤j/\j≤1000/\ps.length≤1000 then some (.fz (.tup (List.replicate j.toNat ps).flatten)) else none
 |_,_=>none
theorem sA:sizeLine ≥ 1000000:=by decide
theorem GU:wf X (binaryOp .Mult) fy:=by
 intro z s p q u v r E hz dp dq e
 have z1:=sA
 unfold fy at e
 split at e
 ·next i j=>
  split at e
  ·next h=>
   cases e;obtain⟨⟨t,rfl⟩,_⟩:=dp;obtain⟨⟨t',rfl⟩,_⟩:=dq
   refine mul_int ⟨hz.tok _,_,rfl⟩ (CMul.ok ?_)
   rcases h with h|h
   ·exact .inl (by omega)
   ·exact .inr (by omega)
  ·cases e
 ·next ps k=>
  split at e
  ·next h=>
   cases e
   obtain⟨h1,h2,h3⟩:=h
   obtain⟨⟨l,its,n,rfl,_,e,_,d⟩,_⟩:=dp;obtain⟨⟨t,rfl⟩,_⟩:=dq
   have hl:=d.length
   have jR:its.length * k.toNat≤100 * 1000:=Nat.mul_le_mul (by omega) (by omega)
   have hlen:its.toArray.size * k.toNat≤sizeLine:=by rw[List.size_toArray];omega
   have hcap:¬its.toArray.size * k.toNat > (2 ^ 63 - 1) / 8:=by rw[List.size_toArray];omega
   have hfit:¬(!Builtin.List.listFitsIndex k)=true:=by
    rw[fitsIndex_both (by omega) (by omega)]
    exact Bool.false_ne_true
   have hlong:¬Builtin.List.listTooLong (its.toArray.size * k.toNat)=true:=by
    rw[xY hlen]
    exact Bool.false_ne_true
   have hnew:List.foldl (fun x1 x2=>x1++x2) #[] (List.replicate (if its.toArray.isEmpty=true then 0 else k.toNat) its.toArray)=(List.replicate k.toNat its).flatten.toArray:=by
    rw[jt]
    cases its with
    |nil=>simp
    |cons a r'=>rw[if_neg (by simp)]
   refine wpAny_binaryOp_repeat_ref (T:="list") (U:="int") (by decide) ⟨_,e,rfl⟩ (fun s'=>typeIs_int s' k t) noFill_list_mul PySem.F.fills_int_mul PySem.F.slot_int_rmul repeat_list PySem.F.slot_int_index.lookup
    (call_meets PySem.F.slot_int_rmul (typeIs_int s k t) PySem.F.entry_int_rmul (PySem.F.args_int_rmul_2 _ _) (int___rmul___int_list k t l its.toArray n)
     ⟨e,rfl,⟨_,e,rfl⟩,call_meets PySem.F.slot_list_mul ⟨_,e,rfl⟩ PySem.F.entry_list_mul (PySem.F.args_list_mul_2 _ _) (AutoListH.list___mul___list_int_3 l its.toArray n k t hfit hcap hlong) ⟨e,?_⟩⟩)
   rw[hnew]
   exact Z.ok.newL0 (n:=0) hz (d.rep k.toNat) (by rw[qm,Nat.mul_comm];omega)
  ·cases e
 ·next ps k=>
  split at e
  ·next h=>
   cases e
   obtain⟨h0,h1,h2,h3⟩:=h
   obtain⟨l,its,rfl,o1,p1,_,d⟩:=dp.2 rfl;obtain⟨⟨t,rfl⟩,_⟩:=dq
   obtain⟨⟨cls,dd,data,sl⟩,e,hc,n,hd⟩:=id p1
   simp only at hc hd
   subst hc hd
   have hl:=d.length
   have hne:its≠[]:=fun w=>by subst w;cases List.length_eq_zero_iff.mp hl.symm;cases h0
   have jR:its.length * k.toNat≤1000 * 1000:=Nat.mul_le_mul (by omega) (by omega)
   refine wpAny_binaryOp_repeat_ref (T:="tuple") (U:="int") (by decide) ⟨_,e,rfl⟩ (fun s'=>typeIs_int s' k t) kW PySem.F.fills_int_mul PySem.F.slot_int_rmul qu PySem.F.slot_int_index.lookup
    (call_meets PySem.F.slot_int_rmul (typeIs_int s k t) PySem.F.entry_int_rmul (PySem.F.args_int_rmul_2 _ _) (m8 k t l its.toArray n dd sl) ⟨e,rfl,⟨_,e,rfl⟩,?_⟩)
   by_cases hk:k=1
   ·subst hk
    refine call_meets PySem.F.slot_tuple_mul ⟨_,e,rfl⟩ PySem.F.entry_tuple_mul (PySem.F.args_tuple_mul_2 _ _) (mj l its.toArray n dd sl t) ⟨e,hz.refl,?_⟩
    rw[show (List.replicate (1:Int).toNat ps).flatten=ps by simp]
    exact dp.2 rfl
   ·have hsz:((its.toArray.size:Nat):Int) * k=((its.length * k.toNat:Nat):Int):=by
     rw[List.size_toArray,Int.natCast_mul,Int.toNat_of_nonneg (by omega)]
    refine call_meets PySem.F.slot_tuple_mul ⟨_,e,rfl⟩ PySem.F.entry_tuple_mul (PySem.F.args_tuple_mul_2 _ _) (oy l its.toArray n dd sl k t ?a1 ?a2 ?a3 ?a4 ?a5 ?a6) ⟨e,?_⟩
    case a1=>simp;omega
    case a2=>simp[hne];exact hk
    case a3=>simp[hne];omega
    case a4=>rw[hsz];omega
    case a5=>
     rw[hsz]
     intro hh
     have h2:=of_decide_eq_true hh
     omega
    case a6=>
     rw[jt,List.size_toArray,qm,Nat.mul_comm]
     omega
    rw[jt]
    exact Z.ok.newT hz (d.rep k.toNat) (by rw[qm,Nat.mul_comm];omega) s.toks
  ·cases e
 ·cases e
noncomputable def iG:PV->PV->Option RV:=EF (fun _ j=>0<j/\j<1073741824) fun i j=>.int (i / j)
noncomputable def aY:PV->PV->Option RV:=EF (fun _ j=>0<j) fun i j=>.int (i % j)
noncomputable def D7:PV->PV->Option RV:=EF (fun i j=>0≤j/\j≤1000000/\i.natAbs<2 ^ 64) fun i j=>.int (i ^ j.toNat)
noncomputable def Kd:PV->PV->Option RV:=EF (fun _ j=>0≤j) fun i j=>.int (i / 2 ^ j.toNat)
noncomputable def Jm:PV->PV->Option RV:=EF (fun i j=>0≤j/\j≤1000000/\i.natAbs<2 ^ 64) fun i j=>.int (i * 2 ^ j.toNat)
noncomputable def Ic:PV->PV->Option RV:=rI fun i j=>.int (Builtin.bitAnd i j)
noncomputable def KC:Operator->PV->PV->Option RV
 |.Add=>bO
 |.Sub=>rT
 |.Mult=>fy
 |.FloorDiv=>iG
 |.Mod=>aY
 |.Pow=>D7
 |.RShift=>Kd
 |.LShift=>Jm
 |.BitAnd=>Ic
 |_=>fun _ _=>none
theorem Jn:∀op,wf X (binaryOp op) (KC op)
 |.Add=>GD
 |.Sub=>zg fun _ _ _ _ _ _ _ q=>sub_int q
 |.Mult=>GU
 |.FloorDiv=>rq fun i j _ _ _ _ _ hc q=>floordiv_int (by omega) (by rw[Int.fdiv_eq_ediv_of_nonneg i (by omega)];exact q) (.inl (PyProof.noPylong_small (by omega)))
 |.Mod=>rq fun i j _ _ _ _ _ hc q=>mod_int' (by omega) (by rw[Int.fmod_eq_emod_of_nonneg i (by omega)];exact q)
 |.Pow=>rq fun _ _ _ _ _ _ _ hc q=>pow_int_small hc.1 hc.2.1 hc.2.2 q
 |.RShift=>rq fun i j _ _ _ _ _ hc q=>rshift_int hc (by rw[Int.fdiv_eq_ediv_of_nonneg i (tF _)];exact q)
 |.LShift=>rq fun _ _ _ _ _ _ _ hc q=>lshift_int_small hc.1 hc.2.1 hc.2.2 q
 |.BitAnd=>zg fun _ _ _ _ _ _ _ q=>and_int q
 |.BitOr|.BitXor|.Div|.MatMult=>fun _ _ _ _ _ _ _ _ _ _ _ e=>by cases e
noncomputable def j8:PV->Bool
 |.non=>true
 |_=>false
noncomputable def Gp:PV->PV->Option RV:=Gk fun i j=>decide (i<j)
noncomputable def F5:PV->PV->Option RV:=Gk fun i j=>decide (i≤j)
noncomputable def Bz:PV->PV->Option RV:=Gk fun i j=>decide (j<i)
noncomputable def IR:PV->PV->Option RV:=Gk fun i j=>decide (j≤i)
noncomputable def i4 (x y:PV):Option RV:=if aK x&&aK y&&decide (dep x≤50) then some (.fz (.bl (eR x y))) else none
noncomputable def i6 (x y:PV):Option RV:=if aK x&&aK y&&decide (dep x≤50) then some (.fz (.bl (!eR x y))) else none
noncomputable def sX (x y:PV):Option RV:=match items y with
 |some ps=>if aK x&&aq ps&&decide (bp ps≤50) then some (.fz (.bl (pin x ps))) else none
 |none=>(I9 x y).map fun b=>.fz (.bl b)
noncomputable def kE (x y:PV):Option RV:=match items y with
 |some ps=>if aK x&&aq ps&&decide (bp ps≤50) then some (.fz (.bl (!pin x ps))) else none
 |none=>(I9 x y).map fun b=>.fz (.bl (!b))
noncomputable def Jw (x y:PV):Option RV:=match y with
 |.non=>some (.fz (.bl (j8 x)))
 |_=>none
noncomputable def sY (x y:PV):Option RV:=match y with
 |.non=>some (.fz (.bl (!j8 x)))
 |_=>none
noncomputable def oE:CmpOp->PV->PV->Option RV
 |.Lt=>Gp
 |.LtE=>F5
 |.Gt=>Bz
 |.GtE=>IR
 |.Eq=>i4
 |.NotEq=>i6
 |.In=>sX
 |.NotIn=>kE
 |.Is=>Jw
 |.IsNot=>sY
theorem uO {z:Z X}{h:Heap}{p:PV}{u:Value}(d:Rd z.cn h p u):(u==Value.none)=j8 p:=by
 cases p with
 |non=>cases (show u=_ from d);rfl
 |bl=>cases (show u=_ from d);rfl
 |ty=>cases (show u=_ from d);rfl
 |fn=>obtain⟨_,_,rfl⟩:=d;rfl
 |int=>obtain⟨t,rfl⟩:=d;rfl
 |str=>obtain⟨t,rfl⟩:=d;rfl
 |set=>exact (show False from d).elim
 |rng=>obtain⟨_,_,_,_,rfl,_⟩:=d;rfl
 |lst=>obtain⟨_,_,_,rfl,_⟩:=d;rfl
 |src=>obtain⟨_,_,_,rfl,_⟩:=d;rfl
 |_=>obtain⟨_,_,rfl,_⟩:=d;rfl
theorem o9 (hu:X.A.units+64<cLine):∀op,wf X (compareOp op) (oE op)
 |.Lt=>BA fun _ _ _ _ _ _ _ h=>lt_int h
 |.LtE=>BA fun _ _ _ _ _ _ _ h=>le_int h
 |.Gt=>BA fun _ _ _ _ _ _ _ h=>gt_int h
 |.GtE=>BA fun _ _ _ _ _ _ _ h=>ge_int h
 |.Eq=>fun z s p q u v r E hz dp dq e=>by
  change i4 p q=some r at e
  unfold i4 at e
  split at e
  ·next h=>
   cases e
   simp only[Bool.and_eq_true,decide_eq_true_eq] at h
   exact (Bj (A:=X.A) h.1.1 h.1.2 (by omega) dp.1 dq.1).1 _ _ _ _ ⟨hz.refl,rfl⟩
  ·cases e
 |.NotEq=>fun z s p q u v r E hz dp dq e=>by
  change i6 p q=some r at e
  unfold i6 at e
  split at e
  ·next h=>
   cases e
   simp only[Bool.and_eq_true,decide_eq_true_eq] at h
   exact (Bj (A:=X.A) h.1.1 h.1.2 (by omega) dp.1 dq.1).2 _ _ _ _ ⟨hz.refl,rfl⟩
  ·cases e
 |.In=>fun z s p q u v r E hz dp dq e=>by
  change sX p q=some r at e
  unfold sX at e
  split at e
  ·next ps h1=>
   split at e
   ·next h=>
    cases e
    simp only[Bool.and_eq_true,decide_eq_true_eq] at h
    exact CV false hu h.1.1 dp.1 dq.1 h1 h.1.2 h.2 ⟨hz.refl,rfl⟩
   ·cases e
  ·obtain⟨b,e1,rfl⟩:=Option.map_eq_some_iff.mp e
   exact yW (A:=X.A) (ng:=false) dp.1 dq.1 e1 fun tk=>⟨hz.tok tk,rfl⟩
 |.NotIn=>fun z s p q u v r E hz dp dq e=>by
  change kE p q=some r at e
  unfold kE at e
  split at e
  ·next ps h1=>
   split at e
   ·next h=>
    cases e
    simp only[Bool.and_eq_true,decide_eq_true_eq] at h
    exact CV true hu h.1.1 dp.1 dq.1 h1 h.1.2 h.2 ⟨hz.refl,rfl⟩
   ·cases e
  ·obtain⟨b,e1,rfl⟩:=Option.map_eq_some_iff.mp e
   exact yW (A:=X.A) (ng:=true) dp.1 dq.1 e1 fun tk=>⟨hz.tok tk,rfl⟩
 |.Is=>fun z s p q u v r E hz dp dq e=>by
  change Jw p q=some r at e
  unfold Jw at e
  split at e
  ·cases e
   cases (show v=Value.none from dq.1)
   exact is_none_gen ⟨hz.refl,by rw[uO dp.1];rfl⟩
  ·cases e
 |.IsNot=>fun z s p q u v r E hz dp dq e=>by
  change sY p q=some r at e
  unfold sY at e
  split at e
  ·cases e
   cases (show v=Value.none from dq.1)
   exact isnot_none_gen ⟨hz.refl,by rw[uO dp.1];rfl⟩
  ·cases e
theorem H0 {op:CmpOp}{g:PV->PV->Option RV}(h:wf X (compareOp op) g)(ha:NE X a fa)(hb:NE X b fb)(hm:behindInMarks op b=false):NE X (.Compare a [op] [b] pos) (ai g fa fb):=fun z s r E hz q=>by
 obtain⟨x,y,ex,ey,eg⟩:=wm q
 exact wpAny_Compare1 (two ha hb hz ex ey fun u v s2 g2 d1 d2=>az (h z s2 _ _ u v r E g2.1 d1.rv d2.rv eg) fun w s3 q3=>g2.post q3) hm
noncomputable def xv:Option RV->Option Bool
 |some (.fz (.bl b))=>some b
 |_=>none
noncomputable def fT (f:FE):FB:=fun ρ=>xv (f ρ)
theorem d6 {o:Option RV}{b:Bool}(h:xv o=some b):o=some (.fz (.bl b)):=by
 unfold xv at h
 split at h
 ·cases h;rfl
 ·cases h
theorem Hj {op:CmpOp}{g:PV->PV->Option RV}(h:wf X (compareOp op) g)(ha:NE X a fa)(hb:NE X b fb)(hm:behindInMarks op b=false):NB X (.Compare a [op] [b] pos) (fT (ai g fa fb)):=fun z s k E hz q=>by
 obtain⟨x,y,ex,ey,eg⟩:=wm (d6 q)
 exact wpAny_isTrue_Compare1 (two ha hb hz ex ey fun u v s2 g2 d1 d2=>az (h z s2 _ _ u v _ E g2.1 d1.rv d2.rv eg) fun w s3 q3=>by
  cases (show w=Value.bool k from q3.2)
  exact wpAny_truthy_bool ⟨rfl,g2.trans q3.1⟩) hm
theorem GN (h:NE X e f)(hv:∀whole,isTrue e X.env whole=(do let v ←whole;standAt e.pos;holding [v] (truthy v))):NB X e (fT f):=fun z s k E hz q=>
 isTrue_plain (az (h z s _ E hz (d6 q)) fun v s1 q1=>by
  cases (show v=Value.bool k from q1.2)
  exact wpAny_truthy_bool ⟨rfl,q1.1⟩) (hv _)
noncomputable def fg (g:FB):FB:=fun ρ=>(g ρ).map fun b=>!b
noncomputable def eI (g k:FB):FB:=fun ρ=>(g ρ).bind fun b=>if b=true then k ρ else some false
noncomputable def lK (g k:FB):FB:=fun ρ=>(g ρ).bind fun b=>if b=true then some true else k ρ
theorem EA (ha:NB X a ba):NW X (.BoolOp .And [a] pos) ba:=fun z wh s k E hz q=>by
 refine isTrue_and (az (ha z s k E hz q) fun c s1 e=>?_)
 cases c with
 |true=>exact isTrue_and_nil e
 |false=>exact e
theorem Ho (ha:NB X a ba):NW X (.BoolOp .Or [a] pos) ba:=fun z wh s k E hz q=>by
 refine isTrue_or (az (ha z s k E hz q) fun c s1 e=>?_)
 cases c with
 |false=>exact isTrue_or_nil e
 |true=>exact e
theorem Ir (ha:NB X a ba)(hb:NW X (.BoolOp .And (b::eM) pos) bb):NW X (.BoolOp .And (a::b::eM) pos) (eI ba bb):=fun z wh s k E hz q=>by
 obtain⟨c0,e0,q⟩:=Option.bind_eq_some_iff.mp q
 refine isTrue_and (az (ha z s c0 E hz e0) fun c s1 ⟨e,g1⟩=>?_)
 subst e
 cases c with
 |true=>exact az (hb z wh s1 k E g1.1 q) fun d s2 ⟨e2,g2⟩=>⟨e2,g1.trans g2⟩
 |false=>cases q;exact⟨rfl,g1⟩
theorem Kc (ha:NB X a ba)(hb:NW X (.BoolOp .Or (b::eM) pos) bb):NW X (.BoolOp .Or (a::b::eM) pos) (lK ba bb):=fun z wh s k E hz q=>by
 obtain⟨c0,e0,q⟩:=Option.bind_eq_some_iff.mp q
 refine isTrue_or (az (ha z s c0 E hz e0) fun c s1 ⟨e,g1⟩=>?_)
 subst e
 cases c with
 |false=>exact az (hb z wh s1 k E g1.1 q) fun d s2 ⟨e2,g2⟩=>⟨e2,g1.trans g2⟩
 |true=>cases q;exact⟨rfl,g1⟩
theorem Hx (ha:NB X a ba):NB X (.UnaryOp .Not a pos) (fg ba):=fun z s k E hz q=>by
 obtain⟨c,e,rfl⟩:=Option.map_eq_some_iff.mp q
 exact isTrue_not (az (ha z s c E hz e) fun d s1 ⟨e1,g1⟩=>⟨by rw[e1],g1⟩)
noncomputable def pX (f:FE):FE:=fun ρ=>(f ρ).bind fun r=>r.fr.map .fz
theorem Af (h:NE X e f):NE X e (pX f):=fun z s r E hz q=>by
 obtain⟨x,ex,q⟩:=Option.bind_eq_some_iff.mp q
 obtain⟨p,ep,rfl⟩:=Option.map_eq_some_iff.mp q
 exact az (h z s x E hz ex) fun u s1 q1=>⟨q1.1,q1.2.fr ep⟩
noncomputable def ig (f g:FE):FE:=fun ρ=>(xv (f ρ)).bind fun b=>if b=true then pX g ρ else some (.fz (.bl false))
noncomputable def H4 (f g:FE):FE:=fun ρ=>(xv (f ρ)).bind fun b=>if b=true then some (.fz (.bl true)) else pX g ρ
noncomputable def v0 (f:FE):FE:=fun ρ=>(xv (f ρ)).map fun b=>.fz (.bl (!b))
theorem Ip {op}(h:NE X a fa):NE X (.BoolOp op [a] pos) (pX fa):=fun z s r E hz q=>BoolOp_one (Af h z s r E hz q)
theorem HZ (ha:NE X a fa)(hb:NE X (.BoolOp .And (b::eM) pos) fb):NE X (.BoolOp .And (a::b::eM) pos) (ig fa fb):=fun z s r E hz q=>by
 obtain⟨k,ek,q⟩:=Option.bind_eq_some_iff.mp q
 refine BoolOp_and (az (ha z s _ E hz (d6 ek)) fun v s1 q1=>?_)
 cases (show v=Value.bool k from q1.2)
 refine wpAny_truthy_bool ?_
 cases k with
 |true=>exact az (Af hb z s1 r E q1.1.1 q) fun w s2 q2=>q1.1.post q2
 |false=>cases q;exact⟨q1.1,rfl⟩
theorem JY (ha:NE X a fa)(hb:NE X (.BoolOp .Or (b::eM) pos) fb):NE X (.BoolOp .Or (a::b::eM) pos) (H4 fa fb):=fun z s r E hz q=>by
 obtain⟨k,ek,q⟩:=Option.bind_eq_some_iff.mp q
 refine BoolOp_or (az (ha z s _ E hz (d6 ek)) fun v s1 q1=>?_)
 cases (show v=Value.bool k from q1.2)
 refine wpAny_truthy_bool ?_
 cases k with
 |false=>exact az (Af hb z s1 r E q1.1.1 q) fun w s2 q2=>q1.1.post q2
 |true=>cases q;exact⟨q1.1,rfl⟩
theorem GQ (ha:NE X a fa):NE X (.UnaryOp .Not a pos) (v0 fa):=fun z s r E hz q=>by
 obtain⟨k,ek,rfl⟩:=Option.map_eq_some_iff.mp q
 refine UnaryOp_ (az (ha z s _ E hz (d6 ek)) fun v s1 q1=>?_)
 cases (show v=Value.bool k from q1.2)
 exact not_of (wpAny_truthy_bool ⟨q1.1,rfl⟩)
noncomputable def BG (o:Option PV):Option RV:=match o with
 |some (.int i)=>some (.fz (.int (-i)))
 |_=>none
noncomputable def r8 (f:FE):FE:=fun ρ=>(f ρ).bind fun r=>BG r.fr
theorem CU (ha:NE X a fa):NE X (.UnaryOp .USub a pos) (r8 fa):=fun z s r E hz q=>by
 obtain⟨x,ex,q⟩:=Option.bind_eq_some_iff.mp q
 unfold BG at q
 split at q
 ·next i h=>
  cases q
  refine UnaryOp_ (az (ha z s _ E hz ex) fun v s1 q1=>?_)
  obtain⟨t,rfl⟩:=q1.2.fr h
  exact neg_int (q1.1.post ⟨q1.1.1.tok _,_,rfl⟩)
 ·cases q
noncomputable def Il (g:FB)(f k:FE):FE:=fun ρ=>(g ρ).bind fun b=>if b=true then pX f ρ else pX k ρ
theorem Jv {t:Expr}(hc:NB X t ba)(ha:NE X a fa)(hb:NE X b fb):NE X (.IfExp t a b pos) (Il ba fa fb):=fun z s r E hz q=>by
 obtain⟨k,ek,q⟩:=Option.bind_eq_some_iff.mp q
 refine wpAny_IfExp (az (hc z s k E hz ek) fun d s1 ⟨e,g1⟩=>?_)
 subst e
 cases d with
 |true=>exact az (Af ha z s1 r E g1.1 q) fun w s2 q2=>g1.post q2
 |false=>exact az (Af hb z s1 r E g1.1 q) fun w s2 q2=>g1.post q2
noncomputable def C4 (g g':PV->PV->Option RV)(a b c:FE):FE:=fun ρ=>(a ρ).bind fun x=>(b ρ).bind fun y=>(xv (g x.pv y.pv)).bind fun k=>if k=true then (c ρ).bind fun z=>g' y.pv z.pv else some (.fz (.bl false))
noncomputable def ag:FA:=fun _=>some []
noncomputable def aa (f:FE)(fs:FA):FA:=fun ρ=>(f ρ).bind fun r=>(fs ρ).bind fun rs=>some (r::rs)
theorem RvsOk.old {z:Z X}{h0 h h':Heap}{rs:List RV}{us:List Value}(d:RvsOk z h0 h rs us)(e:∀a,h0.get? a=none->h'.get? a=none):RvsOk z h' h rs us:=by
 induction d with
 |nil=>exact .nil
 |cons a _ ih=>exact .cons (a.old e) ih
theorem kG:NA X [] ag:=fun z pos s rs E hz q=>by cases q;exact Calls.spliced_nil ⟨hz.refl,.nil⟩
theorem qk (ha:NE X e f)(hr:NA X es fs)(hs:starEach (e::es) X.env=(false,eval e X.env)::starEach es X.env):NA X (e::es) (aa f fs):=fun z pos s rs E hz q=>by
 obtain⟨r,er,q⟩:=Option.bind_eq_some_iff.mp q
 obtain⟨rs',ers,q⟩:=Option.bind_eq_some_iff.mp q
 cases q
 rw[hs]
 show W X (spliced ((false,eval e X.env)::backTo pos (starEach es X.env))) _ _ s
 refine Calls.spliced_cons (az (ha z s r E hz er) fun u s1 q1=>?_)
 exact az (hr z pos s1 rs' E q1.1.1 ers) fun us s2 q2=>⟨q1.1.trans q2.1,.cons (q1.2.ext q2.1.2) (q2.2.old fun _=>Ext.back q1.1.2)⟩
theorem RvsOk.fr {z:Z X}{h0 h:Heap}{rs:List RV}{us:List Value}(d:RvsOk z h0 h rs us):∀{ps:List PV},rs.mapM RV.fr=some ps->Ds z.cn h ps us:=by
 induction d with
 |nil=>intro ps e;cases e;rfl
 |cons a _ ih=>
  intro ps e
  rw[List.mapM_cons] at e
  obtain⟨p,e1,e⟩:=Option.bind_eq_some_iff.mp e
  obtain⟨qs,e2,e⟩:=Option.bind_eq_some_iff.mp e
  cases e
  exact .cons (a.fr e1) (ih e2)
inductive Rvs (z:Z X) (h:Heap):List PV->List Value->Prop where
 |nil:Rvs z h [] []
 |cons {p:PV} {u:Value} {ps:List PV} {us:List Value}:Rv z h p u->Rvs z h ps us->Rvs z h (p::ps) (u::us)
theorem RvsOk.rv {z:Z X}{h0 h:Heap}{rs:List RV}{us:List Value}(d:RvsOk z h0 h rs us):Rvs z h (rs.map RV.pv) us:=by
 induction d with
 |nil=>exact .nil
 |cons a _ ih=>exact .cons a.rv ih
noncomputable def bE (fs:FA):FE:=fun ρ=>(fs ρ).bind fun rs=>(rs.mapM RV.fr).bind fun ps=>if ps.length≤100000 then some (.fz (.tup ps)) else none
noncomputable def e8 (fs:FA):FE:=fun ρ=>(fs ρ).bind fun rs=>(rs.mapM RV.fr).bind fun ps=>if ps.length≤100000 then some (.nw ps) else none
theorem Hd {k}(h:NA X es fs):NE X (.Tuple es k pos) (bE fs):=fun z s r E hz q=>by
 obtain⟨rs,e1,q⟩:=Option.bind_eq_some_iff.mp q
 obtain⟨ps,e2,q⟩:=Option.bind_eq_some_iff.mp q
 split at q
 ·next hl=>
  cases q
  refine wpAny_Tuple_spliced (az (h z pos s rs E hz e1) fun us s1 ⟨g1,d1⟩=>?_)
  have d:=d1.fr e2
  have l:=d.length
  have lb:us.length≤sizeLine:=by rw[l];exact big hl
  exact⟨lb,g1.post (Z.ok.newT g1.1 d lb s1.toks)⟩
 ·cases q
theorem CN (h:NA X es fs):NE X (.List es pos) (e8 fs):=fun z s r E hz q=>by
 obtain⟨rs,e1,q⟩:=Option.bind_eq_some_iff.mp q
 obtain⟨ps,e2,q⟩:=Option.bind_eq_some_iff.mp q
 split at q
 ·next hl=>
  cases q
  refine wpAny_List_spliced (az (h z pos s rs E hz e1) fun us s1 ⟨g1,d1⟩=>?_)
  have d:=d1.fr e2
  have l:=d.length
  have lb:us.length≤sizeLine:=by rw[l];exact big hl
  exact⟨lb,g1.post (Z.ok.newL0 (n:=0) g1.1 d lb)⟩
 ·cases q
end
end Dp
end
section
namespace L2
open PySem PySem.Spec PyProof.Rows PySem.W
theorem mX {α:Type}(d:α):∀(xs:List α),(List.range xs.length).map (fun i=>xs.getD i d)=xs:=fun xs=>by
 apply List.ext_getElem
 ·simp
 ·intro i h1 h2
  rw[List.getElem_map,List.getElem_range]
  simp[h2]
end L2
end
section
namespace L2
open PySem PySem.Spec PyProof.Rows
noncomputable def zU (K:PySem.W.Frag)(mg:Str->Option Value)(x:Str)(st:Stmt)(ps:List Str):Prop:=∃f fd,Fun K x x st f fd/\(∀us:List Value,us.length=ps.length->bindArgs fd ⟨us,[]⟩=pure (ps.zip us))/\mg x=some (.ref f)
section
variable {P:Program}{w:World}{K:PySem.W.Frag}{mg:Str->Option Value}{base:Heap}
end
theorem BW {K:PySem.W.Frag}{mg:Str->Option Value}{x:Str}{st:Stmt}{f:Addr}{oc:Value}{od an:Option Addr}{osl:Array (Option Value)}{kV doc pm cdv ct:Value}{ps:List Str}(l:K.lookup f=some ⟨oc,od,.func (PySem.W.fnOf x x (dI st) (bq st) (ah st) .none kV doc pm an cdv ct),osl⟩)
  (c:PySem.W.codeIn K cdv x=true) (k:PySem.W.keepIn K (.ref f)=true) (m:mg x=some (.ref f))
  (h:∀(kV doc pm:Value) (an:Option Addr) (cdv ct:Value) (us:List Value),us.length=ps.length->bindArgs (PySem.W.fnOf x x (dI st) (bq st) (ah st) .none kV doc pm an cdv ct) ⟨us,[]⟩=pure (ps.zip us)):zU K mg x st ps:=
 ⟨f,_,DR l c k,h kV doc pm an cdv ct,m⟩
noncomputable def hW (H:Hp):V->Option (List V)
 |.ref a=>match H a with
  |some (.lst xs)=>some xs
  |_=>none
 |_=>none
theorem ES:bootBuiltins "len" = some (.builtin "len"):=by decide +kernel
theorem D3:bootBuiltins "abs" = some (.builtin "abs"):=by decide +kernel
theorem AE:bootBuiltins "max" = some (.builtin "max"):=by decide +kernel
theorem AC:bootBuiltins "min" = some (.builtin "min"):=by decide +kernel
theorem DS:bootBuiltins "all" = some (.builtin "all"):=by decide +kernel
theorem FD:bootBuiltins "any" = some (.builtin "any"):=by decide +kernel
theorem oH:bootBuiltins "isinstance" = some (.builtin "isinstance"):=by decide +kernel
theorem pz:bootBuiltins "sorted" = some (.builtin "sorted"):=by decide +kernel
theorem D9:bootBuiltins "sum" = some (.builtin "sum"):=by decide +kernel
theorem zP:bootBuiltins "int" = some (.type "int"):=by decide +kernel
theorem Cy:bootBuiltins "bool" = some (.type "bool"):=by decide +kernel
theorem yx:bootBuiltins "str" = some (.type "str"):=by decide +kernel
theorem vj:bootBuiltins "list" = some (.type "list"):=by decide +kernel
theorem nr:bootBuiltins "tuple" = some (.type "tuple"):=by decide +kernel
theorem BD:bootBuiltins "dict" = some (.type "dict"):=by decide +kernel
theorem zm:bootBuiltins "range" = some (.type "range"):=by decide +kernel
end L2
end
section
namespace L2
open PySem PySem.Spec PyProof.Rows
section
variable {X:Cx}{K:PySem.W.Frag}(h:X.K=K)
include h
end
noncomputable def NS (e:Expr):Prop:=∀(es:List Expr) (env:Env),starEach (e::es) env=(false,eval e env)::starEach es env
end L2
end
section
namespace L2
open PySem PySem.Spec PyProof.Rows
end L2
end
section
namespace L2
open PySem PySem.Spec PyProof.Rows
theorem qh:bootBuiltins "enumerate" = some (.type "enumerate"):=by decide +kernel
end L2
end
section
namespace L2
open PySem PySem.Spec PyProof.Rows PySem.SeqAt
end L2
end
section
namespace L2
open PySem PySem.Spec PyProof.Rows PySem.W
noncomputable def bR {α:Type}(c:Nat->Nat->Bool):KasT α->α
 |.ret a=>a
 |.ask i j k=>bR c (k (c i j))
theorem AX {α:Type}{n:Nat}{P:α->Prop}{cmp:Nat->Nat->(Bool->Shared->Prop)->Shared->Prop}{Q:α->Shared->Prop}{s:Shared}(lt:Nat->Nat->Bool)(hc:∀i j C,i<n->j<n->C (lt i j) s->cmp i j C s) :
  ∀{t:KasT α},Leaf n P t->(P (bR lt t)->Q (bR lt t) s)->t.kasWp cmp Q s
 |.ret a,h,hq=>hq h
 |.ask i j k,h,hq=>hc i j _ h.1 h.2.1 (AX lt hc (h.2.2 (lt i j)) hq)
theorem rH {α:Type}{n:Nat}{P:α->Prop}(lt:Nat->Nat->Bool):∀{t:KasT α},Leaf n P t->P (bR lt t)
 |.ret a,h=>h
 |.ask i j k,h=>rH (t:=k (lt i j)) lt (h.2.2 (lt i j))
noncomputable def ra (fin:Bool):List (Int×Int)->Bool
 |[]=>fin
 |(x,y)::r=>if x=y then ra fin r else decide (x<y)
noncomputable def lU (xs ys:List Int):Bool:=ra (decide (xs.length<ys.length)) (xs.zip ys)
noncomputable def ka (ks:List (List Int)):List Nat:=if ks.length<2 then List.range ks.length else (bR (fun i j=>lU (ks.getD i []) (ks.getD j [])) (kas_sort ks.length)).toList
theorem kQ (ks:List (List Int)):(ka ks).Perm (List.range ks.length):=by
 unfold ka
 split
 ·exact .refl _
 ·exact rH _ (oT (by omega))
section
variable {X:Cx}{pins:List (Addr×Obj)}{σ:St}{H:Hp}{s:Shared}
theorem xD {prog:Program}{w:World}{A:Around}{fin:Bool}{C:Bool->Shared->Prop}{s':Shared}:∀{xs ys:List Int} {us vs:List Value} {k:Nat},Vals (xs.map V.int) us->Vals (ys.map V.int) vs->C (ra fin (xs.zip ys)) s'->KatLex prog w A true fin C (us.zip vs) k s'
 |[],ys,us,vs,k,r1,r2,h=>by cases r1;exact kat_nil h
 |x::xs,[],us,vs,k,r1,r2,h=>by cases r2;cases us<;>exact kat_nil h
 |x::xs,y::ys,us,vs,k,r1,r2,h=>by
  cases r1 with
  |cons a1 r1=>
   cases r2 with
   |cons a2 r2=>
    obtain⟨t,rfl⟩:=a1
    obtain⟨u,rfl⟩:=a2
    rw[List.zip_cons_cons] at h ⊢
    rw[ra] at h
    refine kat_cons (wpAny_eqBool_int ?_)
    by_cases e:x=y
    ·rw[if_pos e] at h
     rw[show (x==y)=true by rw[e];exact beq_self_eq_true _]
     exact kat_yes (xD r1 r2 h)
    ·rw[if_neg e] at h
     rw[show (x==y)=false from beq_eq_false_iff_ne.mpr e]
     refine kat_no ?_
     by_cases hk:k=0
     ·subst hk;exact oneLt_int h
     ·rw[show (true&&k==0)=false by simp[hk]]
      exact kat_one _ _ (lt_int h)
end
end L2
end
section
namespace L2
open PySem PySem.Spec PyProof.Rows
noncomputable def Gf (b:Bool):Nat:=if b then 1 else 0
theorem tx:typeLookup (.type "bool") "__index__" = pure (some (.builtin "int.__index__")):=by
 rw[typeLookup_type,builtinLookup_eq_fast]
 kernel_rfl
section
variable {P:Program}{w:World}{A:Around}{E:Value->Shared->Prop}{s:Shared}{b:Bool}
theorem zk {Q:Option Int->Shared->Prop}(h:Q (some (Gf b:Int)) s):wpAny (model P w) A (Builtin.List.listSubscript? (.bool b)) Q E s:=by
 have e:=PySem.typeIs_bool s b
 unfold Builtin.List.listSubscript?
 refine wpAny_bind (wpAny_specialOf (T:="bool") e tx ?_)
 refine (?_:wpAny _ _ (asIndex (.bool b) >>= _) _ _ _)
 refine wpAny_bind (wpAny_of_eq (a:=(Gf b:Int)) (by cases b<;>rfl) ?_)
 cases b<;>exact wpAny_pure h
theorem xh {l:Addr}{xs:Array Value}{x:Value}{Q:Value->Shared->Prop}(hl:s.heap.IsList l xs)(hx:xs[Gf b]?=some x)(h:Q x s):wpAny (model P w) A (getItem (.ref l) (.bool b)) Q E s:=by
 have ty:=hl.typeIs
 obtain⟨o,ho,hc,ne,hd⟩:=hl
 unfold getItem
 try with_reducible refine wpAny_holding ?_
 first|refine wpAny_bind (wpAny_pure ?_)|skip
 refine wpAny_bind (wpAny_sequenceKey ty (by decide) ?_)
 have ar:=args_list_getitem (.ref l) (.bool b)
 refine wpAny_bind (wpAny_callSpecial?_slot (name:=Str.ofString "__getitem__") ty slot_list_getitem (wpAny_call_entry slot_list_getitem ty entry_list_getitem ?_ ar))
 refine (?_:wpAny _ _ (Builtin.List.listSubscript? (.bool b) >>= _) _ _ s)
 refine wpAny_bind (zk ?_)
 refine (?_:wpAny _ _ ((seqItemAt l (Gf b) >>= fun r=>pure (r.map (Gf b,·))) >>= _) _ _ s)
 refine wpAny_bind (wpAny_bind (wpAny_seqItemAt ho hd (wpAny_pure ?_)))
 rw[hx]
 first
  |exact wpAny_pure ⟨x,rfl,wpAny_pure h⟩
  |exact wpAny_bind (wpAny_pure (wpAny_pure ⟨x,rfl,wpAny_pure h⟩))
end
end L2
end
section
namespace L2
open PySem PySem.Spec PyProof.Rows
theorem oA (its:List Value):slicePick its.toArray none none (some (-1))=its.reverse.toArray:=by
 have e:sliceBounds none none (some (-1)) its.toArray.size=((its.length:Int) - 1,-1,-1):=by simp[sliceBounds]
 have r:sliceRange ((its.length:Int) - 1) (-1) (-1)=(List.range its.length).map fun (k:Nat)=>(((its.length:Nat):Int) - 1+(-1) * (k:Int)).toNat:=by
  unfold sliceRange
  have c:(if (-1:Int) > 0 then (if (its.length:Int) - 1 < -1 then (-1 - ((its.length:Int) - 1) + -1 - 1) / -1 else 0) else (if (its.length:Int) - 1 > -1 then ((its.length:Int) - 1 - -1 - -1 - 1) / (- -1) else 0)).toNat=its.length:=by
   rw[if_neg (by decide)]
   by_cases h:(its.length:Int) - 1 > -1
   ·rw[if_pos h,show (- -1:Int)=1 by decide,Int.ediv_one];omega
   ·rw[if_neg h];omega
  simp only[c]
 unfold slicePick
 rw[e]
 show (List.filterMap _ (sliceRange ((its.length:Int) - 1) (-1) (-1))).toArray=_
 rw[r,List.filterMap_map,←HT.pick_rev]
 congr 2
 funext k
 show its.toArray[(((its.length:Nat):Int) - 1+(-1) * (k:Int)).toNat]?=_
 rw[Int.mul_comm]
end L2
end
section
namespace L2
open PySem PyProof.Rows PySem.W
theorem gq {α β:Type}{c:Nat->Nat->Bool}{f:α->KasT β}:∀{t:KasT α},bR c (t.bind f)=bR c (f (bR c t))
 |.ret a=>rfl
 |.ask i j k=>gq (t:=k (c i j))
structure LtOk (n:Nat)(lt:Nat->Nat->Bool):Prop where
 tot:∀i j,i<n->j<n->i≠j->lt i j=false->lt j i=true
 tr:∀i j k,i<n->j<n->k<n->lt i j=true->lt j k=true->lt i k=true
noncomputable abbrev gp (p:Array Nat)(k:Nat):Nat:=p.getD k 0
noncomputable def Up (lt:Nat->Nat->Bool)(p:Array Nat)(m:Nat):Prop:=∀i j,i<j->j<m->lt (gp p i) (gp p j)=true
noncomputable def Dn (lt:Nat->Nat->Bool)(p:Array Nat)(m:Nat):Prop:=∀i j,i<j->j<m->lt (gp p j) (gp p i)=true
section
variable {n:Nat}{lt:Nat->Nat->Bool}{p:Array Nat}
theorem ko (p:Array Nat)(k:Nat):gp p k=(p[k]?).getD 0:=by
 unfold gp;rw[Array.getD_eq_getD_getElem?]
theorem OfN.size (h:OfN n p):p.size=n:=by have:=h.length_eq;simpa using this
theorem OfN.lt' (h:OfN n p){k:Nat}(hk:k<n):gp p k<n:=h.lt (by omega) k
theorem OfN.inj (h:OfN n p){i j:Nat}(hi:i<n)(hj:j<n)(e:gp p i=gp p j):i=j:=by
 have nd:p.toList.Nodup:=h.nodup_iff.mpr List.nodup_range
 have hs:=h.size
 have a:∀{k:Nat} (hk:k<n),gp p k=p.toList[k]'(by rw[Array.length_toList];omega):=fun {k} hk=>by
  rw[ko,Array.getElem?_eq_getElem (by omega)];simp
 rw[a hi,a hj] at e
 exact (List.getElem_inj nd).mp e
theorem Up.snoc (L:LtOk n lt)(hp:OfN n p){k:Nat}(h1:1≤k)(hk:k<n)(u:Up lt p k)(h:lt (gp p (k - 1)) (gp p k)=true):Up lt p (k+1):=fun i j hij hj=>by
 by_cases e:j=k
 ·subst e
  by_cases e2:i=j - 1
  ·subst e2;exact h
  ·exact L.tr _ _ _ (hp.lt' (by omega)) (hp.lt' (by omega)) (hp.lt' (by omega)) (u i (j - 1) (by omega) (by omega)) h
 ·exact u i j hij (by omega)
theorem Dn.snoc (L:LtOk n lt)(hp:OfN n p){k:Nat}(h1:1≤k)(hk:k<n)(u:Dn lt p k)(h:lt (gp p k) (gp p (k - 1))=true):Dn lt p (k+1):=fun i j hij hj=>by
 by_cases e:j=k
 ·subst e
  by_cases e2:i=j - 1
  ·subst e2;exact h
  ·exact L.tr _ _ _ (hp.lt' (by omega)) (hp.lt' (by omega)) (hp.lt' (by omega)) h (u i (j - 1) (by omega) (by omega))
 ·exact u i j hij (by omega)
theorem qK (L:LtOk n lt)(hp:OfN n p):∀f k,1≤k->k+f≤n->Up lt p k->k≤bR lt (kas_asc p f k)/\bR lt (kas_asc p f k)≤k+f/\Up lt p (bR lt (kas_asc p f k))/\(bR lt (kas_asc p f k)<k+f->lt (gp p (bR lt (kas_asc p f k))) (gp p (bR lt (kas_asc p f k) - 1))=true)
 |0,k,_,_,u=>⟨Nat.le_refl _,Nat.le_refl _,u,fun h=>absurd h (Nat.lt_irrefl _)⟩
 |f+1,k,h1,hn,u=>by
  rw[show bR lt (kas_asc p (f+1) k)=bR lt (if lt (gp p k) (gp p (k - 1))=true then .ret k else kas_asc p f (k+1)) from rfl]
  cases c:lt (gp p k) (gp p (k - 1)) with
  |true=>exact⟨Nat.le_refl _,Nat.le_add_right _ _,u,fun _=>c⟩
  |false=>
   have:=L.tot _ _ (hp.lt' (k:=k) (by omega)) (hp.lt' (k:=k - 1) (by omega)) (fun e=>by have:=hp.inj (by omega) (by omega) e;omega) c
   obtain⟨a,b,d,e⟩:=qK L hp f (k+1) (by omega) (by omega) (u.snoc L hp h1 (by omega) this)
   rw[if_neg Bool.false_ne_true]
   exact⟨by omega,by omega,d,fun h=>e (by omega)⟩
theorem rM (L:LtOk n lt)(hp:OfN n p):∀f k,1≤k->k+f≤n->Dn lt p k->∃m,bR lt (kas_desc f p k 0)=(p,m,0)/\k≤m/\m≤k+f/\Dn lt p m
 |0,k,_,_,u=>⟨k,rfl,Nat.le_refl _,Nat.le_refl _,u⟩
 |f+1,k,h1,hn,u=>by
  rw[show bR lt (kas_desc (f+1) p k 0)=bR lt (if lt (gp p k) (gp p (k - 1))=true then kas_desc f p (k+1) 0 else .ask (gp p (k - 1)) (gp p k) fun d=>if d=true then .ret (p,k,0) else kas_desc f p (k+1) 1) from rfl]
  cases c:lt (gp p k) (gp p (k - 1)) with
  |true=>
   obtain⟨m,a,b,d,e⟩:=rM L hp f (k+1) (by omega) (by omega) (u.snoc L hp h1 (by omega) c)
   exact⟨m,a,by omega,by omega,e⟩
  |false=>
   have:=L.tot _ _ (hp.lt' (k:=k) (by omega)) (hp.lt' (k:=k - 1) (by omega)) (fun e=>by have:=hp.inj (by omega) (by omega) e;omega) c
   refine⟨k,?_,Nat.le_refl _,by omega,u⟩
   rw[if_neg Bool.false_ne_true]
   show bR lt (if lt (gp p (k - 1)) (gp p k)=true then _ else _)=_
   rw[this];rfl
theorem AY {m k:Nat}(hm:m≤p.size):gp (kas_rev p 0 m) k=if k<m then gp p (m - 1 - k) else gp p k:=by
 rw[ko,ko,ko]
 unfold kas_rev
 rw[getElem?_mirror_all hm]
 by_cases h:k<m
 ·rw[if_pos ⟨Nat.zero_le _,h⟩,if_pos h,Nat.zero_add]
 ·rw[if_neg fun z=>h z.2,if_neg h]
structure Run (n:Nat)(lt:Nat->Nat->Bool)(r:Nat×Array Nat):Prop where
 pos:1≤r.1
 le:r.1≤n
 of:OfN n r.2
 up:Up lt r.2 r.1
theorem yS (L:LtOk n lt)(hp:OfN n p){m:Nat}(h1:1≤m)(hm:m≤n)(u:Dn lt p m):Run n lt (bR lt (kas_tail3 m n p)):=by
 have hr:=OfN.rev hp 0 m
 have hs:=hp.size
 obtain⟨a,b,c,_⟩:=qK L hr (n - m) m h1 (by omega) (fun i j hij hj=>by
  rw[AY (by omega),AY (by omega),if_pos (by omega),if_pos hj]
  exact u _ _ (by omega) (by omega))
 unfold kas_tail3
 rw[gq]
 exact⟨Nat.le_trans h1 a,by show bR lt (kas_asc (kas_rev p 0 m) (n - m) m)≤n;omega,hr,c⟩
theorem wY (L:LtOk n lt)(hp:OfN n p)(hn:1≤n):Run n lt (bR lt (kas_count n p)):=by
 unfold kas_count
 rw[gq]
 obtain⟨a,b,c,d⟩:=qK L hp (n - 1) 1 (Nat.le_refl _) (by omega) (fun i j hij hj=>by omega)
 generalize bR lt (kas_asc p (n - 1) 1)=m at *
 split
 ·exact⟨a,by show m≤n;omega,hp,c⟩
 ·next ne=>
  have ne:m≠n:=fun e=>ne (by subst e;exact beq_self_eq_true _)
  split
  ·next h=>
   rw[show bR lt (KasT.ask (p.getD 0 0) (p.getD (m - 1) 0) fun c=>if c=true then KasT.ret (m,p) else kas_descPart m n (kas_rev p 0 m))=bR lt (if lt (gp p 0) (gp p (m - 1))=true then KasT.ret (m,p) else kas_descPart m n (kas_rev p 0 m)) from rfl,if_pos (c 0 (m - 1) (by omega) (by omega))]
   exact⟨a,by show m≤n;omega,hp,c⟩
  ·have e:m=1:=by omega
   subst e
   have d:=d (by omega)
   unfold kas_descPart
   rw[gq]
   obtain⟨m,e1,e2,e3,e4⟩:=rM L hp (n - (1+1)) (1+1) (by omega) (by omega) (fun i j hij hj=>by
    obtain⟨rfl,rfl⟩:i=0/\j=1:=by omega
    exact d)
   rw[e1,if_neg (Nat.lt_irrefl 0)]
   have ne2:2≤n:=by omega
   exact yS (m:=m) L hp (by omega) (by omega) e4
theorem ku (L:LtOk n lt)(hp:OfN n p){k:Nat}(hk:k<n)(u:Up lt p k):∀f l r,r - l≤f->l≤r->r≤k->(∀i,i<l->lt (gp p i) (gp p k)=true)->(∀i,r≤i->i<k->lt (gp p k) (gp p i)=true) →
  ∃m,bR lt (kas_place p k f l r)=m/\m≤k/\(∀i,i<m->lt (gp p i) (gp p k)=true)/\∀i,m≤i->i<k->lt (gp p k) (gp p i)=true
 |0,l,r,hf,hl,hr,a,b=>⟨l,rfl,by omega,a,fun i hi hik=>b i (by omega) hik⟩
 |f+1,l,r,hf,hl,hr,a,b=>by
  rw[show bR lt (kas_place p k (f+1) l r)=bR lt (if l ≥ r then .ret l else .ask (gp p k) (gp p ((l+r) / 2)) fun c=>if c=true then kas_place p k f l ((l+r) / 2) else kas_place p k f ((l+r) / 2+1) r) from rfl]
  by_cases h:l ≥ r
  ·rw[if_pos h];exact⟨l,rfl,by omega,a,fun i hi hik=>b i (by omega) hik⟩
  ·rw[if_neg h]
   show ∃m,bR lt (if lt (gp p k) (gp p ((l+r) / 2))=true then _ else _)=m/\_
   cases c:lt (gp p k) (gp p ((l+r) / 2)) with
   |true=>
    rw[if_pos rfl]
    refine ku L hp hk u f l ((l+r) / 2) (by omega) (by omega) (by omega) a fun i hi hik=>?_
    by_cases e:i=(l+r) / 2
    ·subst e;exact c
    ·exact L.tr _ _ _ (hp.lt' hk) (hp.lt' (by omega)) (hp.lt' (by omega)) c (u _ i (by omega) hik)
   |false=>
    rw[if_neg Bool.false_ne_true]
    have:=L.tot _ _ (hp.lt' hk) (hp.lt' (k:=(l+r) / 2) (by omega)) (fun e=>by have:=hp.inj hk (by omega) e;omega) c
    refine ku L hp hk u f ((l+r) / 2+1) r (by omega) (by omega) (by omega) (fun i hi=>?_) b
    by_cases e:i=(l+r) / 2
    ·subst e;exact this
    ·exact L.tr _ _ _ (hp.lt' (by omega)) (hp.lt' (by omega)) (hp.lt' hk) (u i _ (by omega) (by omega)) this
theorem wx (L:LtOk n lt):∀f (p:Array Nat) k,OfN n p->1≤k->k+f=n->Up lt p k->OfN n (bR lt (kas_bin f p k))/\Up lt (bR lt (kas_bin f p k)) n
 |0,p,k,hp,_,hk,u=>⟨hp,by obtain rfl:k=n:=(by omega);exact u⟩
 |f+1,p,k,hp,h1,hk,u=>by
  rw[show bR lt (kas_bin (f+1) p k)=bR lt ((kas_place p k k 0 k).bind fun l=>kas_bin f (bubble p k (k - l)) (k+1)) from rfl,gq]
  obtain⟨m,e,hm,a,b⟩:=ku L hp (by omega) u k 0 k (by omega) (by omega) (Nat.le_refl _) (fun i hi=>by omega) (fun i hi hik=>by omega)
  rw[e]
  have hs:=hp.size
  have g:∀i,gp (bubble p k (k - m)) i=if i=m then gp p k else if m<i/\i≤k then gp p (i - 1) else gp p i:=fun i=>by
   rw[ko,getElem?_bubble (by omega) (k - m) (by omega),show k - (k - m)=m by omega]
   split
   ·rw[ko]
   ·split<;>rw[ko]
  refine wx L f _ (k+1) (hp.bub _ _) (by omega) (by omega) fun i j hij hj=>?_
  rw[g,g]
  by_cases e1:i=m
  ·rw[if_pos e1,if_neg (by omega),if_pos (by omega)];exact b _ (by omega) (by omega)
  ·rw[if_neg e1]
   by_cases e2:j=m
   ·rw[if_pos e2,if_neg (by omega)];exact a i (by omega)
   ·rw[if_neg e2]
    by_cases e3:i<m
    ·rw[if_neg (by omega)]
     by_cases e4:m<j/\j≤k
     ·rw[if_pos e4];exact u i (j - 1) (by omega) (by omega)
     ·rw[if_neg e4];exact u i j hij (by omega)
    ·rw[if_pos (by omega),if_pos (by omega)];exact u _ _ (by omega) (by omega)
theorem AV (L:LtOk n lt)(hn:1≤n):OfN n (bR lt (kas_sort n))/\Up lt (bR lt (kas_sort n)) n:=by
 unfold kas_sort
 rw[gq]
 have R:=wY L (show OfN n (List.toArray (List.range n)) from .refl _) hn
 generalize bR lt (kas_count n (List.range n).toArray)=r at *
 have h1:=R.pos
 have h2:=R.le
 split
 ·next h=>
  rw[show max r.1 1=r.1 by omega]
  exact wx L (n - r.1) r.2 r.1 R.of h1 (by omega) R.up
 ·next h=>
  have:r.1=n:=by omega
  exact⟨R.of,this▸R.up⟩
end
theorem qd (y:Int)(ys:List Int):lU [] (y::ys)=true:=by unfold lU;rw[List.zip_nil_left];exact decide_eq_true (by simp)
theorem n5 (xs:List Int):lU xs []=false:=by unfold lU;rw[List.zip_nil_right];exact decide_eq_false (by simp)
theorem ke (x y:Int)(xs ys:List Int):lU (x::xs) (y::ys)=if x=y then lU xs ys else decide (x<y):=by
 unfold lU
 rw[List.zip_cons_cons,ra]
 simp only[List.length_cons,Nat.add_lt_add_iff_right]
theorem uy:∀xs ys:List Int,xs≠ys->lU xs ys=false->lU ys xs=true
 |[],[],h,_=>absurd rfl h
 |[],y::ys,_,h=>by rw[qd] at h;cases h
 |x::xs,[],_,_=>qd x xs
 |x::xs,y::ys,h,e=>by
  rw[ke] at e ⊢
  by_cases q:x=y
  ·subst q
   rw[if_pos rfl] at e ⊢
   exact uy xs ys (fun z=>h (by rw[z])) e
  ·rw[if_neg q] at e
   rw[if_neg fun z=>q z.symm]
   have:=of_decide_eq_false e
   exact decide_eq_true (by omega)
theorem sS:∀xs ys zs:List Int,lU xs ys=true->lU ys zs=true->lU xs zs=true
 |_,_,[],_,h=>by rw[n5] at h;cases h
 |_,[],_::_,h,_=>by rw[n5] at h;cases h
 |[],_,z::zs,_,_=>qd z zs
 |x::xs,y::ys,z::zs,h,h'=>by
  rw[ke] at h h' ⊢
  by_cases q:x=y
  ·subst q
   rw[if_pos rfl] at h
   by_cases r:x=z
   ·rw[if_pos r] at h' ⊢;exact sS xs ys zs h h'
   ·rw[if_neg r] at h' ⊢;exact h'
  ·rw[if_neg q] at h
   have h:=of_decide_eq_true h
   by_cases r:y=z
   ·subst r;rw[if_neg q];exact decide_eq_true h
   ·rw[if_neg r] at h'
    have h':=of_decide_eq_true h'
    rw[if_neg (by omega)]
    exact decide_eq_true (by omega)
theorem l9:∀xs:List Int,lU xs xs=false
 |[]=>n5 []
 |x::xs=>by rw[ke,if_pos rfl];exact l9 xs
theorem Cg {ks:List (List Int)}(nd:ks.Nodup):((ka ks).map fun i=>ks.getD i []).Perm ks/\((ka ks).map fun i=>ks.getD i []).Pairwise fun a b=>lU a b=true:=by
 have at':∀{i:Nat} (hi:i<ks.length),ks.getD i []=ks[i]:=fun {i} hi=>by simp[hi]
 constructor
 ·refine ((kQ ks).map _).trans (List.Perm.of_eq ?_)
  refine List.ext_getElem (by simp) fun i h1 h2=>?_
  simp[h2]
 ·unfold ka
  split
  ·next h=>
   match ks,h with
   |[],_=>exact .nil
   |[a],_=>exact List.pairwise_singleton ..
  ·next h=>
   have L:LtOk ks.length fun i j=>lU (ks.getD i []) (ks.getD j []):=⟨fun i j hi hj ne e=>uy _ _ (fun z=>by
    rw[at' hi,at' hj] at z;exact ne ((List.getElem_inj nd).mp z)) e,fun i j k _ _ _ a b=>sS _ _ _ a b⟩
   obtain⟨hp,u⟩:=AV L (by omega)
   generalize bR _ (kas_sort ks.length)=p at *
   rw[List.pairwise_map,List.pairwise_iff_getElem]
   intro i j hi hj hij
   have hs:=hp.size
   have:=u i j hij (by simpa [hs] using hj)
   rw[ko,ko,Array.getElem?_eq_getElem (by simpa using hi),Array.getElem?_eq_getElem (by simpa using hj)] at this
   simpa using this
theorem uT {α:Type}{lt:α->α->Prop}(irr:∀a,¬lt a a)(tr:∀a b c,lt a b->lt b c->lt a c):∀{l l':List α},l.Pairwise lt->l'.Pairwise lt->(∀a,a∈l↔a∈l')->l=l'
 |[],[],_,_,_=>rfl
 |[],b::l',_,_,h=>absurd ((h b).mpr List.mem_cons_self) List.not_mem_nil
 |a::l,[],_,_,h=>absurd ((h a).mp List.mem_cons_self) List.not_mem_nil
 |a::l,b::l',p,p',h=>by
  have q:=List.pairwise_cons.mp p
  have q':=List.pairwise_cons.mp p'
  have e:a=b:=by
   rcases List.mem_cons.mp ((h a).mp List.mem_cons_self) with e|m
   ·exact e
   ·rcases List.mem_cons.mp ((h b).mpr List.mem_cons_self) with e|m'
    ·exact e.symm
    ·exact absurd (tr _ _ _ (q.1 b m') (q'.1 a m)) (irr a)
  subst e
  refine congrArg (a::·) (uT irr tr q.2 q'.2 fun c=>⟨fun hc=>?_,fun hc=>?_⟩)
  ·rcases List.mem_cons.mp ((h c).mp (List.mem_cons_of_mem _ hc)) with e|m
   ·subst e;exact absurd (q.1 c hc) (irr c)
   ·exact m
  ·rcases List.mem_cons.mp ((h c).mpr (List.mem_cons_of_mem _ hc)) with e|m
   ·subst e;exact absurd (q'.1 c hc) (irr c)
   ·exact m
end L2
end
section
namespace L2
open PySem PySem.Spec PyProof.Rows PySem.W
noncomputable def p8 (is:List Int):List Int:=is.mergeSort fun a b=>decide (a≤b)
theorem gh (is:List Int):(p8 is).Perm is:=List.mergeSort_perm ..
theorem B6 (is:List Int):(p8 is).Pairwise (·≤·):=by
 have:=List.pairwise_mergeSort (le:=fun a b:Int=>decide (a≤b)) (fun a b c h1 h2=>by simp only[decide_eq_true_eq] at *;omega) (fun a b=>by simp only[Bool.or_eq_true,decide_eq_true_eq];omega) is
 exact this.imp fun h=>by simpa using h
theorem ui {is js:List Int}(p:js.Perm is)(u:js.Pairwise (·≤·)):js=p8 is:=
 List.Perm.eq_of_pairwise (fun a b _ _ h1 h2=>Int.le_antisymm h1 h2) u (B6 is) (p.trans (gh is).symm)
theorem kh {is:List Int}{vs:List Value}(h:IntsAre vs is):Vals (is.map V.int) vs:=by
 induction h with
 |nil=>exact .nil
 |cons n t _ ih=>exact .cons ⟨t,rfl⟩ ih
theorem tB {prog:Program}{w:World}{A:Around}{E:Value->Shared->Prop}{s:Shared}{p:Addr}{T:String}{o:Obj}{vs:List Value}{n:Nat}{is:List Int}{Q:Value->Shared->Prop}(hT:T = "list"\/T = "tuple")
  (ho:s.heap.get? p=some o) (hc:o.cls=.type T) (hd:o.data=.seq vs.toArray n) (hi:IntsAre vs is) (h64:vs.length<64)
  (h:∀(h1 h':Heap) (D:Addr) (out:List Value) (js:List Int) (e:Nat),(∀b u,s.heap.get? b=some u->h1.get? b=some u)->(∀b u,h1.get? b=some u->h'.get? b=some u)->h1.objs.size≤D->h'.get? D=some (seqObj "list" out.toArray e)->IntsAre out js->js.Perm is->js.Pairwise (·≤·)->Q (.ref D) { s with heap:=h' }) :
  wpAny (model prog w) A (call (.builtin "sorted") [.ref p]) Q E s:=by
 refine Calls.call_function_entry kind_sorted plain_sorted entry_sorted (args_sorted1 _) ?_
 unfold Builtin.«sorted»
 refine wpAny_bind (m:=checkCount "sorted" 1 1 _) (wpAny_pure (wpAny_bind (wpAny_collect_seq p hT ho hc hd (fun h' keep=>wpAny_bind (wpAny_newList ?_ (by show vs.length≤_;rw[sizeLine_eq];omega))) (by rw[List.size_toArray,sizeLine_eq];omega))))
 have hoL:(h'.push (seqObj "list" vs.toArray 0)).get? h'.objs.size=some (seqObj "list" vs.toArray 0):=Heap.get?_push_size _ rfl
 show wpAny _ _ _ _ _ { s with heap:=h'.push (seqObj "list" vs.toArray 0) }
 refine wpAny_bind (wpAny_holding (wpAny_call_entry slot_list_sort ⟨_,hoL,rfl⟩ entry_list_sort (list_sort_tree hoL hi h64 fun out ns h1 h2 h3=>⟨_,rfl,?_⟩) (args_list_sort _)))
 obtain⟨e,he⟩:=sortedHeap_at (vs:=vs) (out:=out) hoL
 exact wpAny_pure ⟨_,rfl,h h' _ _ out.toList ns e keep (fun b u z1=>by
  have z2:=Heap.get?_push_of_some (seqObj "list" vs.toArray 0) z1
  rw[sortedHeap_old (Nat.ne_of_lt (Heap.lt_size z1)) (Heap.lt_size z2)];exact z2) (Nat.le_refl _) (by rw[he]) h1 h2 h3⟩
end L2
end
section
namespace L2
open PySem PySem.Spec PyProof.Rows PySem.W
section
variable {prog:Program}{w:World}{A:Around}{E:Value->Shared->Prop}{s:Shared}
noncomputable abbrev yE (a c:Int):Nat->Value->Prop:=fun i v=>∃t,v=.int (a+i * c) t
theorem sg {Q:List Value->Shared->Prop}{r:Addr}{a b c:Int}{t u v:Tok}{n:Nat}(hh:A.handled=none)(hr:IsRange s.heap r a b c t u v)(h1:Builtin.Range.small a b c=true)(h2:Builtin.Range.rangeSize a b c=n)(h3:n≤2 ^ 24)
  (hQ:∀h' tk acc,(∀x o,s.heap.get? x=some o->h'.get? x=some o)->ItemsOf (yE a c) acc n->Q acc.toList { s with heap:=h',toks:=tk }):wpAny (model prog w) A (collect (.ref r)) Q E s:=by
 unfold collect;refine wpAny_bind (wpAny_runValue (codeAny_builtin F.entry_proto_collect ?_));rw[Around.under_plainId F.plain_proto_collect _]
 show wpAny _ A.in1 (newList [] >>= fun z=>again (.builtin "list.__iadd__" ⟨[z,.ref r],[]⟩)) _ _ s
 refine wpAny_bind (wpAny_newObj_type (wpAny_pure ⟨plainId_quiet F.plain_list_iadd _,codeAny_builtin F.entry_list_iadd ?_⟩))
 rw[Around.under_plainId F.plain_list_iadd _];show wpAny _ A.in1 (Builtin.List.listExtendWith (.ref s.heap.objs.size) (.ref r) (.ref s.heap.objs.size)) _ _ _
 have hS0:(s.heap.push { cls:=.type "list",data:=.seq ([]:List Value).toArray }).get? s.heap.objs.size=some { cls:=.type "list",data:=.seq #[] }:=Heap.get?_push_size _ rfl
 have hr0:=Heap.get?_push_of_some { cls:=.type "list",data:=.seq ([]:List Value).toArray } hr
 refine wpAny_extend_range (R:=fun z s'=>match z with
  |.ok (.ret v)=>wpAny (model prog w) A (match v with
   |.ref a=>do
    let o ←load a
    match o.data with
     |.seq xs _=>pure xs.toList
     |_=>unsupported "internal:collect"
   |_=>unsupported "internal:collect") Q E s'
  |.ok _=>False
  |.error e=>E e s') (s:={ s with heap:=s.heap.push { cls:=.type "list",data:=.seq ([]:List Value).toArray } }) hh hr0 h1 h2 h3 s.heap.objs.size _ 0 hS0 fun h' tk acc c' hk hS hacc=>?_
 show wpAny _ A (load s.heap.objs.size >>= fun _=>_) _ _ _
 refine wpAny_bind (wpAny_load hS (wpAny_pure (hQ h' tk acc (fun x o e=>?_) hacc)))
 exact hk x o (Nat.ne_of_lt (Heap.lt_size e)) (Heap.get?_push_of_some _ e)
end
theorem oO (r:Addr){a b c:Int}{t u v:Tok}{n:Nat}(h1:Builtin.Range.small a b c=true)(h2:Builtin.Range.rangeSize a b c=n)(h3:n≤2 ^ 24) :
  Meets (Builtin.«tuple.__new__» ⟨[.type "tuple",.ref r],[]⟩) (fun A R s=>(A.handled=none/\IsRange s.heap r a b c t u v)/\∀(h':Heap) (tk:Nat) (acc:Array Value),(∀x o,s.heap.get? x=some o->h'.get? x=some o)->ItemsOf (yE a c) acc n →
   R (.ok (.ret (.ref h'.objs.size))) { s with heap:=h'.push { cls:=.type "tuple",data:=.seq acc },toks:=tk }):=
 .of_wp fun prog w A R s h=>by
  obtain⟨⟨hh,hr⟩,h⟩:=h
  have hsub:=sub_tuple_self
  have hinit:=init_tuple_lookup
  have hmh:=madeHere_tuple
  have hT:s.TypeIs (.ref r) "range":=⟨_,hr,rfl⟩
  have hh1:A.in1.handled=none:=hh
  wp_walk using wpAny_typeOf hT,sg hh1 hr h1 h2 h3
  intro h' tk acc hk hacc
  show wpAny _ _ (Builtin.Tuple.tupleExact acc.toList.toArray >>= fun z=>ret z) _ _ _
  unfold Builtin.Tuple.tupleExact
  have e:acc.toList.toArray=acc:=by simp
  have hz:acc.toList.toArray.size≤sizeLine:=by rw[e,hacc.1,sizeLine_eq];omega
  refine wpAny_bind (wpAny_newObj_type (wpAny_pure ⟨_,rfl,?_⟩) hz)
  rw[e]
  exact h h' tk acc hk hacc
end L2
end
section
namespace L2
open PySem PySem.Spec PyProof.Rows _root_.HT
theorem oM {prog:Program}{w:World}{A:Around}{E:Value->Shared->Prop}{s:Shared}{t z:Addr}{items:Array Value}{vl vu:Value}{lo hi:Option Int}{Q:Value->Shared->Prop}(ht:IsTup s.heap t items)(hs:s.heap.IsSliceOf z vl vu .none)(pl:IsPart vl lo)(pu:IsPart vu hi)
  (hw:_root_.HT.sIx items.size 0 lo=0/\_root_.HT.sIx items.size items.size hi=items.size) (h:Q (.ref t) s):wpAny (model prog w) A (getItem (.ref t) (.ref z)) Q E s:=by
 obtain⟨os,hos,hcs,Aj⟩:=id hs
 have hTs:s.TypeIs (.ref z) "slice":=⟨os,hos,hcs⟩
 unfold getItem;try with_reducible refine wpAny_holding ?_
 first|(refine wpAny_bind (wpAny_pure ?_);skip)|skip
 refine wpAny_bind (wpAny_sequenceKey ht.typeIs (by decide) (wpAny_bind (wpAny_callSpecial?_slot (name:=Str.ofString "__getitem__") ht.typeIs PyProof.Rows.slot_tuple_getitem (wpAny_call_entry PyProof.Rows.slot_tuple_getitem ht.typeIs entry_tuple_getitem ?_ (args_tuple_getitem _ _)))))
 show wpAny _ _ (Builtin.Tuple.tupleItemsOf (.ref t) >>= fun _=>_) _ _ s
 refine wpAny_bind (tupleItemsOf_ ht (wpAny_bind (wpAny_typeOf hTs ?_)))
 rw[if_pos (by decide)];refine wpAny_bind (gl hs pl pu ?_)
 rw[hw.1,hw.2]
 have yes:(((0:Nat):Int)==0&&(1:Int)==1&&(items.size - 0)==items.size)=true:=by simp
 show wpAny _ _ (if (((0:Nat):Int)==0&&(1:Int)==1&&(items.size - 0)==items.size)=true then _ else _) _ _ s
 rw[if_pos yes]
 refine wpAny_bind ?_
 unfold Builtin.Tuple.tupleIsExact
 refine wpAny_bind (wpAny_typeOf ht.typeIs (wpAny_pure ?_))
 rw[if_pos (by decide)]
 exact wpAny_bind (wpAny_rule (wpAny_pure ⟨_,rfl,wpAny_pure h⟩))
end L2
end
section
namespace Dp
open PySem PySem.Spec L2 PyProof.Rows
section
variable {X:Cx}{e a b c:Expr}{es eM:List Expr}{pos:Pos}{f fa fb fc:FE}{fs:FA}{i:Nat}{ba bb:FB}
noncomputable def Kf (X:Cx)(g:PV->PV->Option RV):Prop:=∀(value slice:Expr) (z:Z X) s p q u v r E,z.ok s->Rv z s.heap p u->Rv z s.heap q v->g p q=some r->subscripted slice false u v=operate [u,v] (getItem u v)->W X (subscriptTail value slice u v) (Z.post z s r) E s
theorem IG {g:PV->PV->Option RV}(h:Kf X g)(ha:NE X a fa)(hb:NE X b fb)(hs:ux b):NE X (.Subscript a b pos) (ai g fa fb):=fun z s r E hz q=>by
 obtain⟨x,y,ex,ey,eg⟩:=wm q
 exact Subscript_ (two ha hb hz ex ey fun u v s2 g2 d1 d2=>az (h a b z s2 _ _ u v r E g2.1 d1.rv d2.rv eg (hs _ _)) fun w s3 q3=>g2.post q3)
noncomputable def aM:PV->PV->Option RV
 |.str z,.int i=>if z.length≤100000 then (L2.bQ z.cps.toList i).map fun c=>.fz (.str ⟨#[c]⟩) else none
 |.dct ks ps,q=>(eV q).bind fun k=>(lM ks ps k).map .fz
 |p,.int i=>(items p).bind fun ps=>(L2.bQ ps i).map .fz
 |_,_=>none
theorem uk {z:Z X}{s:Shared}{value slice:Expr}{p:PV}{u:Value}{i:Int}{t:Tok}{ps:List PV}{q:PV}{E:Value->Shared->Prop}(hz:z.ok s)(d:Rd z.cn s.heap p u)(e1:items p=some ps)(e2:L2.bQ ps i=some q)(hs:subscripted slice false u (.int i t)=operate [u,.int i t] (getItem u (.int i t))) :
  W X (subscriptTail value slice u (.int i t)) (Z.post z s (.fz q)) E s:=by
 obtain⟨a,its,rfl,_,zl,ds,h⟩:=D1.items d e1
 obtain⟨j,h1,h2,h3,h4,h5⟩:=vm e2
 obtain⟨w,ew,dw⟩:=ds.get h2
 have hl:=ds.length
 have hn:=kP
 have fin:Z.post z s (.fz q) w s:=⟨hz.refl,dw⟩
 rcases h with pl|⟨n,e⟩
 ·exact subscriptTail_builtinR (x:=w) pl.typeIs slot_tuple_getitem.lookup
   (getItem_tuple (j:=j) (Q:=fun r s'=>r=w/\Z.post z s (.fz q) r s') pl (by omega) (by omega) (by rw[List.size_toArray,hl];exact h1) (by simpa using ew) ⟨rfl,fin⟩) hs
 ·have pl:=aL e
  by_cases h0:0≤i
  ·have hj:i.toNat=j:=by
    rw[seqIndex_of h0 h5] at h1
    exact Option.some.inj h1
   exact item_listR pl h0 (by omega) (by rw[hj];simpa using ew) fin hs
  ·have hj:(i+(its.toArray.size:Int)).toNat=j:=by
    rw[seqIndex_neg (by omega) h4] at h1
    rw[List.size_toArray,hl]
    exact Option.some.inj h1
   exact subscriptTail_builtinR (x:=w) pl.typeIs slot_list_getitem.lookup
    (wpAny_getItem_list_neg (Q:=fun r s'=>r=w/\Z.post z s (.fz q) r s') pl (by omega) (by rw[List.size_toArray]<;>omega) (by omega) (by rw[hj];simpa using ew) ⟨rfl,fin⟩) hs
theorem DP:Kf X aM:=by
 intro value slice z s p q u v r E hz dp dq e hs
 have seq:∀{i:Int},q=.int i →  ((items p).bind fun ps=>(L2.bQ ps i).map .fz)=some r->W X (subscriptTail value slice u v) (Z.post z s r) E s:=fun {i} eq e'=>by
  subst eq
  obtain⟨⟨t,rfl⟩,_⟩:=dq
  obtain⟨ps,e1,e3⟩:=Option.bind_eq_some_iff.mp e'
  obtain⟨w,e2,rfl⟩:=Option.map_eq_some_iff.mp e3
  exact uk hz dp.1 e1 e2 hs
 unfold aM at e
 split at e
 ·next x i=>
  split at e
  ·next hl=>
   obtain⟨c,e2,rfl⟩:=Option.map_eq_some_iff.mp e
   obtain⟨⟨t,rfl⟩,_⟩:=dp
   obtain⟨⟨t',rfl⟩,_⟩:=dq
   obtain⟨j,h1,h2,h3,h4,h5⟩:=vm e2
   have hl':x.cps.toList.length=x.length:=by simp[Str.length]
   rw[hl'] at h1 h4 h5
   have hn:=kP
   have hb:=big hl
   exact tail_any (typeIs_str s x t) slot_str_getitem.lookup (getItem_str (c:=c) (by
    have e1:decide (i < -(2 ^ 63:Int))=false:=decide_eq_false (by omega)
    have e2:decide (i ≥ 2 ^ 63)=false:=decide_eq_false (by omega)
    rw[e1,e2,Bool.or_false]) (by rw[h1];simpa using h2) ⟨hz.tok _,_,rfl⟩) hs
  ·cases e
 ·next ks ps=>
  obtain⟨k,ek,e⟩:=Option.bind_eq_some_iff.mp e
  obtain⟨w,e2,rfl⟩:=Option.map_eq_some_iff.mp e
  obtain⟨a,kus,rfl,_,y,dd,zl,hk,ds⟩:=dp.1
  obtain⟨x,ex,dx⟩:=(j3 (y:=k) hk ds).1 w e2
  exact tail_any dd.typeIs PySem.F.slot_dict_getitem.lookup (wpAny_getItem_of (lw (cI ek dq.1)) dd.mapOf ex ⟨hz.tok _,dx⟩) hs
 ·exact seq rfl e
 ·cases e
noncomputable def A9:PV->PV->Option RV
 |.lst ps,.int i=>(L2.bQ ps i).map .fz
 |.lst ps,.bl b=>(ps[Gf b]?).map .fz
 |_,_=>none
theorem yL:Kf X A9:=by
 intro value slice z s p q u v r E hz dp dq e hs
 unfold A9 at e
 split at e
 ·obtain⟨⟨t,rfl⟩,_⟩:=dq
  obtain⟨w,e2,rfl⟩:=Option.map_eq_some_iff.mp e
  exact uk hz dp.1 rfl e2 hs
 ·next ps b=>
  cases (show v=Value.bool b from dq.1)
  obtain⟨w,e2,rfl⟩:=Option.map_eq_some_iff.mp e
  obtain⟨a,its,n,rfl,_,e1,zl,ds⟩:=dp.1
  obtain⟨x,ex,dx⟩:=ds.get e2
  exact subscriptTail_builtinR (x:=x) (aL e1).typeIs slot_list_getitem.lookup (xh (Q:=fun r s'=>r=x/\Z.post z s (.fz w) r s') (aL e1) (by simpa using ex) ⟨rfl,hz.refl,dx⟩) hs
 ·cases e
noncomputable def lN {α:Type}(xs:List α)(lo hi:Option Int):List α:=(xs.drop (HT.sIx xs.length 0 lo)).take (HT.sIx xs.length xs.length hi - HT.sIx xs.length 0 lo)
noncomputable abbrev FO:=ak->Option (Option Int)
noncomputable def NO (X:Cx)(e:Option Expr)(f:FO):Prop:=∀(z:Z X) s o E,z.ok s->f z.ρ=some o->W X (evalPart e X.env) (fun u s'=>z.go s s'/\IsPart u o) E s
noncomputable def xU:FO:=fun _=>some none
noncomputable def I0 (o:Option PV):Option (Option Int):=match o with
 |some (.int i)=>some (some i)
 |_=>none
noncomputable def yw (f:FE):FO:=fun ρ=>(f ρ).bind fun r=>I0 r.fr
theorem B5:NO X none xU:=fun z s o E hz q=>by cases q;rw[evalPart_none];exact wpAny_pure ⟨hz.refl,.none⟩
theorem Br (h:NE X e f):NO X (some e) (yw f):=fun z s o E hz q=>by
 obtain⟨r,er,q⟩:=Option.bind_eq_some_iff.mp q
 unfold I0 at q
 split at q
 ·next i hi=>
  cases q
  rw[evalPart_some]
  refine az (h z s r E hz er) fun u s1 q1=>?_
  obtain⟨t,rfl⟩:=q1.2.fr hi
  exact⟨q1.1,.int i t⟩
 ·cases q
noncomputable def E0 (p:PV)(l h:Option Int):Option RV:=match p with
 |.lst ps=>some (.nw (lN ps l h))
 |.src ps=>some (.nw (lN ps l h))
 |.tup ps=>if HT.sIx ps.length 0 l=0/\HT.sIx ps.length ps.length h=ps.length then none else some (.fz (.tup (lN ps l h)))
 |_=>none
noncomputable def yQ:PV->Option Int->Option Int->Option RV
 |.tup ps,l,h=>some (.fz (.tup (lN ps l h)))
 |_,_,_=>none
noncomputable def BV (g:PV->Option Int->Option Int->Option RV)(f:FE)(l h:FO):FE:=fun ρ=>(f ρ).bind fun r=>(l ρ).bind fun lo=>(h ρ).bind fun hi=>g r.pv lo hi
noncomputable abbrev A5:FE->FO->FO->FE:=BV E0
noncomputable abbrev IU:FE->FO->FO->FE:=BV yQ
noncomputable def Jr (X:Cx)(g:PV->Option Int->Option Int->Option RV):Prop:=∀(z:Z X) s p v vl vu lo hi t r E,z.ok s->Rv z s.heap p v->s.heap.IsSliceOf t vl vu .none->IsPart vl lo->IsPart vu hi->g p lo hi=some r →
 ∃T id,typeLookup (.type T) "__getitem__" = pure (some (.builtin id))/\s.TypeIs v T/\W X (getItem v (.ref t)) (Z.post z s r) E s
theorem HR {g:PV->Option Int->Option Int->Option RV}{lo hi:Option Expr}{fl fh:FO}{p2:Pos}(hr:Jr X g)(he:NE X e f)(hl:NO X lo fl)(hu:NO X hi fh):NE X (.Subscript e (.Slice lo hi none p2) pos) (BV g f fl fh):=fun z s r E hz q=>by
 obtain⟨x,ex,q⟩:=Option.bind_eq_some_iff.mp q
 obtain⟨ol,el,q⟩:=Option.bind_eq_some_iff.mp q
 obtain⟨oh,eh,q⟩:=Option.bind_eq_some_iff.mp q
 refine Subscript_ (az (he z s x E hz ex) fun v s1 q1=>?_)
 refine wpAny_Slice (az (hl z s1 ol E q1.1.1 el) fun vl s2 ⟨g2,pl⟩=>az (hu z s2 oh E g2.1 eh) fun vu s3 ⟨g3,pu⟩=>?_)
 rw[evalPart_none]
 refine wpAny_pure ?_
 have g4:=g3.1.push { cls:=.type "slice",data:=.fields #[vl,vu,.none] } s3.toks
 have ga:=q1.1.trans (g2.trans (g3.trans g4))
 obtain⟨T,id,hT,ht,hg⟩:=hr z _ x.pv v vl vu ol oh s3.heap.objs.size r E g4.1 ((q1.2.ext (g2.2.trans (g3.2.trans g4.2))).rv) (Heap.IsSliceOf.new ..) pl pu q
 exact tail_any (ops:=[.ref s3.heap.objs.size,v]) ht hT (az hg fun w s5 q5=>ga.post q5) (by with_unfolding_all rfl)
theorem Ao {c:Cn}{h:Heap}{ps:List PV}{its:List Value}(d:Ds c h ps its)(lo hi:Option Int):Ds c h (lN ps lo hi) ((its.drop (HT.sIx its.length 0 lo)).take (HT.sIx its.length its.length hi - HT.sIx its.length 0 lo)):=by
 unfold lN;rw[d.length];exact (d.drop _).take _
theorem Hm {z:Z X}{s:Shared}{ps:List PV}{v vl vu:Value}{lo hi:Option Int}{t:Addr}{E:Value->Shared->Prop}(hz:z.ok s)(d:Rd z.cn s.heap (.lst ps) v)(hs:s.heap.IsSliceOf t vl vu .none)(pl:IsPart vl lo)(pu:IsPart vu hi) :
  ∃T id,typeLookup (.type T) "__getitem__" = pure (some (.builtin id))/\s.TypeIs v T/\W X (getItem v (.ref t)) (Z.post z s (.nw (lN ps lo hi))) E s:=by
 obtain⟨a,its,n,rfl,_,e1,zl,ds⟩:=d
 have ht:=aL e1
 refine⟨"list",_,slot_list_getitem.lookup,ht.typeIs,?_⟩
 refine wpAny_getItem_list_slice ht hs pl pu .none (by simp) ?_ (by rw[List.size_toArray]<;>omega)
 rw[oK]
 exact Z.ok.newL0 (n:=0) hz (Ao ds lo hi) (by rw[List.length_take,List.length_drop];omega)
theorem Gs {z:Z X}{s:Shared}{ps:List PV}{v vl vu:Value}{lo hi:Option Int}{t:Addr}{E:Value->Shared->Prop}(hz:z.ok s)(d:D z.cn s.heap (.tup ps) v)(hs:s.heap.IsSliceOf t vl vu .none)(pl:IsPart vl lo)(pu:IsPart vu hi) :
  ∃T id,typeLookup (.type T) "__getitem__" = pure (some (.builtin id))/\s.TypeIs v T/\W X (getItem v (.ref t)) (Z.post z s (.fz (.tup (lN ps lo hi)))) E s:=by
 have d':=d
 obtain⟨a,its,rfl,o,ht,zl,ds⟩:=d
 have hn:its.toArray.size=its.length:=List.size_toArray
 refine⟨"tuple",_,PyProof.Rows.slot_tuple_getitem.lookup,ht.typeIs,?_⟩
 by_cases hw:HT.sIx its.length 0 lo=0/\HT.sIx its.length its.length hi=its.length
 ·refine oM ht hs pl pu (by rw[hn];exact hw) ⟨hz.refl,?_⟩
  have:lN ps lo hi=ps:=by
   have hl:=ds.length
   unfold lN
   rw[←hl,hw.1,hw.2,List.drop_zero,Nat.sub_zero,List.take_of_length_le (by omega)]
  rw[this];exact d'
 ·refine HT.getItem_tuple_cut ht hs pl pu (by rw[hn];exact hw) ?_ (by rw[hn];exact zl)
  rw[hn]
  exact Z.ok.newT hz (Ao ds lo hi) (by rw[List.length_take,List.length_drop];omega) s.toks
theorem Kb:Jr X E0:=fun z s p v vl vu lo hi t r E hz d hs pl pu q=>by
 unfold E0 at q
 split at q
 ·cases q;exact Hm hz d.1 hs pl pu
 ·cases q;exact Hm hz d.1 hs pl pu
 ·split at q
  ·cases q
  ·cases q;exact Gs hz (d.2 rfl) hs pl pu
 ·cases q
theorem IJ:Jr X yQ:=fun z s p v vl vu lo hi t r E hz d hs pl pu q=>by
 unfold yQ at q
 split at q
 ·cases q;exact Gs hz (d.2 rfl) hs pl pu
 ·cases q
noncomputable def hW:PV->Option (List PV)
 |.lst ps=>some ps
 |.src ps=>some ps
 |_=>none
theorem D1.lst {t:Addr->Prop}{c:Cn}{h:Heap}{p:PV}{u:Value}{ps:List PV}(d:D1 t c h p u)(e:hW p=some ps):D1 t c h (.lst ps) u:=by
 cases p with
 |lst qs=>cases e;exact d
 |src qs=>cases e;exact d
 |_=>cases e
noncomputable def GO (p:PV):Option RV:=match p with
 |.tup ps=>some (.fz (.tup ps.reverse))
 |p=>(hW p).map fun ps=>.nw ps.reverse
noncomputable def Fj (f:FE):FE:=fun ρ=>(f ρ).bind fun r=>GO r.pv
theorem HS {st:Expr}{p2:Pos}(he:NE X e f)(hst:NE X st (fC (.int (-1)))\/NE X st (r8 (fC (.int 1)))):NE X (.Subscript e (.Slice none none (some st) p2) pos) (Fj f):=fun z s r E hz q=>by
 obtain⟨x,ex,q⟩:=Option.bind_eq_some_iff.mp q
 refine Subscript_ (az (he z s x E hz ex) fun v s1 q1=>?_)
 refine wpAny_Slice ?_
 rw[evalPart_none]
 refine wpAny_pure (wpAny_pure ?_)
 rw[evalPart_some]
 have hst':W X (eval st X.env) (Z.post z s1 (.fz (.int (-1)))) E s1:=hst.elim (fun h=>h z s1 _ E q1.1.1 rfl) fun h=>h z s1 _ E q1.1.1 rfl
 refine az hst' fun vst s3 q3=>?_
 obtain⟨t,rfl⟩:=q3.2
 have g4:=q3.1.1.push { cls:=.type "slice",data:=.fields #[.none,.none,.int (-1) t] } s3.toks
 have ga:=q1.1.trans (q3.1.trans g4)
 have dx:=(q1.2.ext (q3.1.2.trans g4.2)).rv
 have lstCase:∀ps,hW x.pv=some ps->r=.nw ps.reverse->W X (subscriptTail e (.Slice none none (some st) p2) v (.ref s3.heap.objs.size)) (Z.post z s r) E { s3 with heap:=s3.heap.push { cls:=.type "slice",data:=.fields #[.none,.none,.int (-1) t] } }:=fun ps e1 er=>by
  subst er
  obtain⟨a,its,n,rfl,_,e1,zl,ds⟩:=D1.lst dx.1 e1
  have ht:=aL e1
  refine tail_any (ops:=[.ref a,.ref s3.heap.objs.size]) ht.typeIs slot_list_getitem.lookup (wpAny_getItem_list_slice ht (Heap.IsSliceOf.new ..) .none .none (.int _ _) (by simp) ?_ (by rw[List.size_toArray];omega)) (by with_unfolding_all rfl)
  rw[oA]
  exact ga.post (Z.ok.newL0 (n:=0) (t:=s3.toks) g4.1 ds.rev (by rw[List.length_reverse];exact zl))
 unfold GO at q
 split at q
 ·next ps ep=>
  cases q
  rw[ep] at dx
  obtain⟨a,its,rfl,o,ht,zl,ds⟩:=dx.2 rfl
  refine tail_any (ops:=[.ref a,.ref s3.heap.objs.size]) ht.typeIs PyProof.Rows.slot_tuple_getitem.lookup (L2.HT.getItem_tuple_rev ht (Heap.IsSliceOf.new ..) (.int _ _) ?_ zl) (by with_unfolding_all rfl)
  exact ga.post (Z.ok.newT g4.1 ds.rev (by rw[List.length_reverse];exact zl) s3.toks)
 ·obtain⟨ps,e1,e2⟩:=Option.map_eq_some_iff.mp q
  exact lstCase ps e1 e2.symm
noncomputable def cq (X:Cx)(fv:Value)(g:List PV->Option RV):Prop:=∀(z:Z X) s ps us r E,z.ok s->Rvs z s.heap ps us->g ps=some r->W X (call fv us) (Z.post z s r) E s
noncomputable def fB (g:List PV->Option RV)(fs:FA):FE:=fun ρ=>(fs ρ).bind fun rs=>g (rs.map RV.pv)
theorem Kh {x:Str}{p:Pos}{id:String}{g:List PV->Option RV}(hc:cq X (.builtin id) g)(hg:Gl X x)(hm:X.mg x=none)(hv:bootBuiltins x=some (.builtin id))(ha:NA X (e::es) fs)(hn:x ≠ "__name__")(hdb:(x==("__debug__" : Str))=false)
  (he:starEach (e::es) X.env=(false,eval e X.env)::starEach es X.env) (hpl:(backTo pos (starEach es X.env)).any (·.1)=false):NE X (.Call (.Name x p) (e::es) [] pos) (fB g fs):=fun z s r E hz q=>by
 obtain⟨rs,er,q⟩:=Option.bind_eq_some_iff.mp q
 refine wpAny_Call_Name_kw (jl hz.I hg hm hv ?_ hn hdb)
 exact PyProof.Rows.callWith_builtin1 (az (ha z pos s rs E hz er) fun us s1 ⟨g1,d1⟩=>az (hc z s1 _ us r E g1.1 d1.rv q) fun w s2 q2=>g1.post q2) he hpl
theorem Jo {x:Str}{p:Pos}{T:String}{g:List PV->Option RV}(hc:cq X (.type T) g)(hg:Gl X x)(hm:X.mg x=none)(hv:bootBuiltins x=some (.type T))(ha:NA X (e::es) fs)(hn:x ≠ "__name__")(hdb:(x==("__debug__" : Str))=false)
  (he:starEach (e::es) X.env=(false,eval e X.env)::starEach es X.env) (hpl:(backTo pos (starEach es X.env)).any (·.1)=false):NE X (.Call (.Name x p) (e::es) [] pos) (fB g fs):=fun z s r E hz q=>by
 obtain⟨rs,er,q⟩:=Option.bind_eq_some_iff.mp q
 refine wpAny_Call_Name_kw (jl hz.I hg hm hv ?_ hn hdb)
 exact PyProof.Rows.callWith_type1 (az (ha z pos s rs E hz er) fun us s1 ⟨g1,d1⟩=>az (hc z s1 _ us r E g1.1 d1.rv q) fun w s2 q2=>g1.post q2) he hpl
theorem Rvs.one {z:Z X}{h:Heap}{p:PV}{us:List Value}(d:Rvs z h [p] us):∃u,us=[u]/\Rv z h p u:=by
 cases d with
 |cons a b=>cases b;exact⟨_,rfl,a⟩
theorem Rvs.two {z:Z X}{h:Heap}{p q:PV}{us:List Value}(d:Rvs z h [p,q] us):∃u v,us=[u,v]/\Rv z h p u/\Rv z h q v:=by
 cases d with
 |cons a b=>cases b with
  |cons b c=>cases c;exact⟨_,_,rfl,a,b⟩
noncomputable def dW:List PV->Option RV
 |[.str z]=>if z.length≤100000 then some (.fz (.int z.length)) else none
 |[p]=>(items p).map fun ps=>.fz (.int ps.length)
 |_=>none
theorem HL:cq X (.builtin "len") dW:=fun z s ps us r E hz d q=>by
 have hn:=kP
 unfold dW at q
 split at q
 ·split at q
  ·next hl=>
   cases q
   obtain⟨u,rfl,⟨t,rfl⟩,_⟩:=d.one
   have hb:=big hl
   exact len_str (by omega) ⟨hz.tok _,_,rfl⟩
  ·cases q
 ·obtain⟨ps,e1,rfl⟩:=Option.map_eq_some_iff.mp q
  obtain⟨u,rfl,du⟩:=d.one
  obtain⟨a,its,rfl,_,zl,ds,h⟩:=D1.items du.1 e1
  have hl:=ds.length
  have fin:∀t tk,Z.post z s (.fz (.int ps.length)) (.int its.toArray.size t) { s with toks:=tk }:=fun t tk=>⟨hz.tok _,t,by rw[List.size_toArray,hl]⟩
  rcases h with pl|⟨n,e⟩
  ·exact len_tuple pl (by rw[List.size_toArray];omega) (fin _ _)
  ·exact Calls.call_len_list (aL e) (by rw[List.size_toArray];omega) (fin _ _)
 ·cases q
noncomputable def xH:List PV->Option RV
 |[.int i]=>some (.fz (.int (if i<0 then -i else i)))
 |_=>none
noncomputable def Aw:List PV->Option RV
 |[.int i,.int j]=>some (.fz (.int (if j > i then j else i)))
 |_=>none
noncomputable def nP:List PV->Option RV
 |[.int i,.int j]=>some (.fz (.int (if j<i then j else i)))
 |_=>none
noncomputable def sI:List PV->Option RV
 |[.int i]=>some (.fz (.int i))
 |[.bl b]=>some (.fz (.int (if b then 1 else 0)))
 |_=>none
end
end Dp
end
section
namespace Dp
open PySem PySem.Spec L2 PyProof.Rows
section
variable {X:Cx}
theorem Io:cq X (.builtin "abs") xH:=fun z s ps us r E hz d q=>by
 unfold xH at q
 split at q
 ·cases q;obtain⟨u,rfl,⟨t,rfl⟩,_⟩:=d.one;exact call_abs_int fun u tk=>⟨hz.tok _,_,rfl⟩
 ·cases q
theorem Fk (hc:X.calm=true):cq X (.builtin "max") Aw:=fun z s ps us r E hz d q=>by
 unfold Aw at q
 split at q
 ·next i j=>
  cases q;obtain⟨u,v,rfl,⟨⟨t,rfl⟩,_⟩,⟨t',rfl⟩,_⟩:=d.two
  refine max_two_ints (hz.I.ok.hd hc) fun h' tk k=>⟨hz.kept k,?_⟩
  by_cases hj:j > i
  ·rw[if_pos hj,if_pos hj];exact⟨_,rfl⟩
  ·rw[if_neg hj,if_neg hj];exact⟨_,rfl⟩
 ·cases q
theorem FR (hc:X.calm=true):cq X (.builtin "min") nP:=fun z s ps us r E hz d q=>by
 unfold nP at q
 split at q
 ·next i j=>
  cases q;obtain⟨u,v,rfl,⟨⟨t,rfl⟩,_⟩,⟨t',rfl⟩,_⟩:=d.two
  refine min_two_ints (hz.I.ok.hd hc) fun h' tk k=>⟨hz.kept k,?_⟩
  by_cases hj:j<i
  ·rw[if_pos hj,if_pos hj];exact⟨_,rfl⟩
  ·rw[if_neg hj,if_neg hj];exact⟨_,rfl⟩
 ·cases q
theorem GS:cq X (.type "int") sI:=fun z s ps us r E hz d q=>by
 unfold sI at q
 split at q
 ·cases q;obtain⟨u,rfl,⟨t,rfl⟩,_⟩:=d.one;exact call_int_int ⟨hz.refl,_,rfl⟩
 ·next k=>cases q;obtain⟨u,rfl,du⟩:=d.one;cases (show u=Value.bool k from du.1);exact call_int_bool ⟨hz.tok _,_,rfl⟩
 ·cases q
noncomputable def D4:List PV->Option RV
 |[.int i]=>if i.natAbs.log2<1920 then some (.fz (.str (toString i))) else none
 |_=>none
theorem G6:cq X (.type "str") D4:=fun z s ps us r E hz d q=>by
 unfold D4 at q
 split at q
 ·split at q
  ·next h=>cases q;obtain⟨u,rfl,⟨t,rfl⟩,_⟩:=d.one;exact PySem.P.str_of_int h ⟨hz.tok _,_,rfl⟩
  ·cases q
 ·cases q
noncomputable def A6:List PV->Option (List Bool)
 |[]=>some []
 |.bl b::ps=>(A6 ps).map fun bs=>b::bs
 |_=>none
theorem Aa {c:Cn}{h:Heap}{ps:List PV}:∀{us:List Value} {bs:List Bool},Ds c h ps us->A6 ps=some bs->us=bs.map Value.bool:=by
 induction ps with
 |nil=>intro us bs d e;cases e;exact d
 |cons p ps ih=>
  intro us bs d q
  obtain⟨u,r,e,d,t⟩:=d
  cases p with
  |bl b=>
   obtain⟨bs',e',rfl⟩:=Option.map_eq_some_iff.mp q
   rw[e,show u=Value.bool b from d,ih t e',List.map_cons]
  |_=>cases q
noncomputable def xm:List PV->Option RV
 |[p]=>(hW p).bind fun ps=>(A6 ps).map fun bs=>.fz (.bl (bs.all id))
 |_=>none
noncomputable def FJ:List PV->Option RV
 |[p]=>(hW p).bind fun ps=>(A6 ps).map fun bs=>.fz (.bl (bs.any id))
 |_=>none
theorem DW (bs:List Bool):(List.range bs.length).all (fun i=>bs.getD i false)=bs.all id:=by
 induction bs with
 |nil=>rfl
 |cons b r ih=>rw[List.length_cons,List.range_succ_eq_map,List.all_cons,List.all_map,List.all_cons,←ih]<;>rfl
theorem ER (bs:List Bool):(List.range bs.length).any (fun i=>bs.getD i false)=bs.any id:=by
 induction bs with
 |nil=>rfl
 |cons b r ih=>rw[List.length_cons,List.range_succ_eq_map,List.any_cons,List.any_map,List.any_cons,←ih]<;>rfl
theorem iW {h:Heap}{a:Addr}{o:Obj}(e:h.get? a=some o):a≠h.objs.size:=Nat.ne_of_lt (Heap.lt_size e)
theorem CO {bs:List Bool}{i:Nat}{v:Value}(h:(bs.map Value.bool).toArray[i]?=some v):v=Value.bool (bs.getD i false):=by
 rw[List.getElem?_toArray,List.getElem?_map] at h
 obtain⟨b,e,rfl⟩:=Option.map_eq_some_iff.mp h
 rw[List.getD_eq_getElem?_getD,e];rfl
theorem Iv (hc:X.calm=true):cq X (.builtin "all") xm:=fun z s ps us r E hz d q=>by
 unfold xm at q
 split at q
 ·obtain⟨ps,e1,q⟩:=Option.bind_eq_some_iff.mp q
  obtain⟨bs,e2,rfl⟩:=Option.map_eq_some_iff.mp q
  obtain⟨u,rfl,du⟩:=d.one
  obtain⟨p,its,n,rfl,_,e1,zl,ds⟩:=D1.lst du.1 e1
  have ei:=Aa ds e2
  subst ei
  have pl:=aL e1
  refine call_all_walk (wpAny_pyIter_list pl ?_)
  refine⟨s.heap.objs.size,_,_,_,_,_,fun i=>bs.getD i false,rfl,Walks.list (A:=X.A.in1) (hz.I.ok.hd hc) s.heap.objs.size p (iW e1) (bs.map Value.bool).toArray,⟨⟨_,Heap.get?_push_size _ rfl,rfl,rfl⟩,⟨_,Heap.get?_push_of_some _ e1,rfl,n,rfl⟩⟩,fun i v s' Q' E' hP hQ=>?_,fun h' tk hk=>?_⟩
  ·rw[CO hP];exact wpAny_truthy_bool hQ
  ·rw[List.size_toArray,List.length_map,DW]
   exact⟨hz.kept fun b o' e=>hk b o' (fun z=>iW e (List.mem_singleton.mp z)) (Heap.get?_push_of_some _ e),rfl⟩
 ·cases q
theorem GB (hc:X.calm=true):cq X (.builtin "any") FJ:=fun z s ps us r E hz d q=>by
 unfold FJ at q
 split at q
 ·obtain⟨ps,e1,q⟩:=Option.bind_eq_some_iff.mp q
  obtain⟨bs,e2,rfl⟩:=Option.map_eq_some_iff.mp q
  obtain⟨u,rfl,du⟩:=d.one
  obtain⟨p,its,n,rfl,_,e1,zl,ds⟩:=D1.lst du.1 e1
  have ei:=Aa ds e2
  subst ei
  have pl:=aL e1
  refine call_any_walk (wpAny_pyIter_list pl ?_)
  refine⟨s.heap.objs.size,_,_,_,_,_,fun i=>bs.getD i false,rfl,Walks.list (A:=X.A.in1) (hz.I.ok.hd hc) s.heap.objs.size p (iW e1) (bs.map Value.bool).toArray,⟨⟨_,Heap.get?_push_size _ rfl,rfl,rfl⟩,⟨_,Heap.get?_push_of_some _ e1,rfl,n,rfl⟩⟩,fun i v s' Q' E' hP hQ=>?_,fun h' tk hk=>?_⟩
  ·rw[CO hP];exact wpAny_truthy_bool hQ
  ·rw[List.size_toArray,List.length_map,ER]
   exact⟨hz.kept fun b o' e=>hk b o' (fun z=>iW e (List.mem_singleton.mp z)) (Heap.get?_push_of_some _ e),rfl⟩
 ·cases q
noncomputable def Kl (n:String):PV->Option Bool
 |.non=>some false
 |.bl _=>some (n == "bool" || n == "int")
 |.int _=>some (n == "int")
 |.str _=>some (n == "str")
 |.tup _=>some (n == "tuple")
 |.lst _=>some (n == "list")
 |.dct _ _=>some (n == "dict")
 |_=>none
noncomputable def qO:List PV->Option RV
 |[p,.ty n]=>if n = "int"\/n = "bool"\/n = "str"\/n = "tuple"\/n = "list"\/n = "dict" then (Kl n p).map fun b=>.fz (.bl b) else none
 |_=>none
theorem JM:cq X (.builtin "isinstance") qO:=fun z s ps us r E hz d q=>by
 unfold qO at q
 split at q
 ·next p n=>
  split at q
  ·next hn=>
   obtain⟨b,e,rfl⟩:=Option.map_eq_some_iff.mp q
   obtain⟨u,v,rfl,du,dv⟩:=d.two
   cases (show v=Value.type n from dv.1)
   have kin:=hz.I.kIn
   have fin:∀tk,Z.post z s (.fz (.bl b)) (.bool b) { s with toks:=tk }:=fun tk=>⟨hz.tok _,rfl⟩
   cases p with
   |non=>cases (show u=_ from du.1);exact PySem.W.kia_one (K:=X.K) PySem.W.kitx_none kin True.intro (by rcases hn with rfl|rfl|rfl|rfl|rfl|rfl<;>exact e) (fun z=>nomatch z) fin
   |bl x=>cases (show u=_ from du.1);exact PySem.W.kia_one (K:=X.K) PySem.W.kitx_bool kin True.intro (by rcases hn with rfl|rfl|rfl|rfl|rfl|rfl<;>exact e) (fun z=>nomatch z) fin
   |int x=>obtain⟨⟨t,rfl⟩,_⟩:=du;exact PySem.W.kia_one (K:=X.K) PySem.W.kitx_int kin True.intro (by rcases hn with rfl|rfl|rfl|rfl|rfl|rfl<;>exact e) (fun z=>nomatch z) fin
   |str x=>obtain⟨⟨t,rfl⟩,_⟩:=du;exact PySem.W.kia_one (K:=X.K) PySem.W.kitx_str kin True.intro (by rcases hn with rfl|rfl|rfl|rfl|rfl|rfl<;>exact e) (fun z=>nomatch z) fin
   |lst x=>obtain⟨⟨a,its,m,rfl,_,h1,_⟩,_⟩:=du;exact PySem.W.kia_one (K:=X.K) PySem.W.kitx_list kin ⟨_,h1,rfl⟩ (by rcases hn with rfl|rfl|rfl|rfl|rfl|rfl<;>exact e) (fun z=>nomatch z) fin
   |tup x=>obtain⟨⟨a,its,rfl,_,⟨o,h1,h2,_⟩,_⟩,_⟩:=du;exact PySem.W.kia_one (K:=X.K) PySem.W.kitx_tuple kin ⟨o,h1,h2⟩ (by rcases hn with rfl|rfl|rfl|rfl|rfl|rfl<;>exact e) (fun z=>nomatch z) fin
   |dct x y=>obtain⟨⟨a,kus,rfl,_,_,⟨o,es,ep,h1,h2,_⟩,_⟩,_⟩:=du;exact PySem.W.kia_one (K:=X.K) PySem.W.kitx_dict kin ⟨o,h1,h2.1⟩ (by rcases hn with rfl|rfl|rfl|rfl|rfl|rfl<;>exact e) (fun z=>nomatch z) fin
   |_=>cases e
  ·cases q
 ·cases q
noncomputable def qc (lo:Int)(n:Nat):List PV:=(List.range n).map fun i:Nat=>PV.int (lo+i)
theorem jm (lo:Int)(n:Nat):(qc lo n).length=n:=by unfold qc;simp
noncomputable def r9:List PV->Option RV
 |[.int j]=>if -(2 ^ 62)≤j/\j<2 ^ 62 then some (.fz (.rng 0 j)) else none
 |_=>none
theorem Hs:cq X (.type "range") r9:=fun z s ps us r E hz d q=>by
 unfold r9 at q
 split at q
 ·split at q
  ·next h=>
   cases q
   obtain⟨u,rfl,⟨t,rfl⟩,_⟩:=d.one
   exact call_range_1 ⟨hz.push _ _,_,_,_,_,rfl,hz.free (Heap.get?_none_of_le (Nat.le_refl _)),Heap.get?_push_size _ rfl⟩
  ·cases q
 ·cases q
theorem yy {c:Cn}{h:Heap}{n:Nat}{acc:Array Value}(hi:ItemsOf (fun i v=>∃t,v=.int ((0:Int)+i * 1) t) acc n):Ds c h (qc 0 n) acc.toList:=by
 obtain⟨hs,hi⟩:=hi
 refine Ds.of (by rw[jm];simpa using hs) fun i p u h1 h2=>?_
 unfold qc at h1
 rw[List.getElem?_map] at h1
 obtain⟨k,e,rfl⟩:=Option.map_eq_some_iff.mp h1
 obtain⟨hk,e⟩:=List.getElem?_eq_some_iff.mp e
 rw[List.getElem_range] at e
 subst e
 obtain⟨t,e⟩:=hi i u (by simpa using h2)
 exact⟨t,by rw[e,Int.mul_one]⟩
noncomputable def kA:List PV->Option RV
 |[.lst ps]=>some (.fz (.tup ps))
 |[.tup ps]=>some (.fz (.tup ps))
 |[.src ps]=>some (.fz (.tup ps))
 |_=>none
theorem zM {z:Z X}{s:Shared}{ps:List PV}{u:Value}{E:Value->Shared->Prop}(hz:z.ok s)(d:Rd z.cn s.heap (.lst ps) u):W X (call (.type "tuple") [u]) (Z.post z s (.fz (.tup ps))) E s:=by
 obtain⟨p,its,n,rfl,_,e1,zl,ds⟩:=d
 refine call_tuple_list (aL e1) (fun h' kp=>?_) (by simp only[List.size_toArray];omega)
 have g:=hz.kept (t:=s.toks) kp
 exact g.post (Z.ok.newT g.1 (ds.mono g.2.kpD) zl s.toks)
theorem Ii:cq X (.type "tuple") kA:=fun z s ps us r E hz d q=>by
 unfold kA at q
 split at q
 ·cases q;obtain⟨u,rfl,du⟩:=d.one;exact zM hz du.1
 ·cases q;obtain⟨u,rfl,du⟩:=d.one
  have d':=du.2 rfl
  obtain⟨a,its,rfl,o,pl,_⟩:=du.2 rfl
  exact call_tuple_same pl ⟨hz.refl,d'⟩
 ·cases q;obtain⟨u,rfl,du⟩:=d.one;exact zM hz du.1
 ·cases q
noncomputable def hJ:List PV->Option RV
 |[.rng lo j]=>if lo=0/\0≤j/\j≤1000000 then some (.nw (qc 0 j.toNat)) else none
 |[p]=>(items p).map .nw
 |_=>none
theorem DO (hc:X.calm=true):cq X (.type "list") hJ:=fun z s ps us r E hz d q=>by
 have zl:=sA
 unfold hJ at q
 split at q
 ·next lo j=>
  split at q
  ·next h=>
   cases q
   obtain⟨rfl,h1,h2⟩:=h
   obtain⟨u,rfl,⟨a,t1,t2,t3,rfl,_,e⟩,_⟩:=d.one
   refine call_list_range (hz.I.ok.hd hc) (r:=a) (a:=0) (b:=j) (c:=1) (n:=j.toNat) e (small_one (by omega) (by omega) (by omega) (by omega)) (by rw[rangeSize_one];split<;>omega) (by omega) fun h' tk acc' c' hk hS hacc=>?_
   have dd:=yy (c:=z.cn) (h:=s.heap) hacc
   refine Z.ok.newL hz dd (by rw[dd.length,jm];omega) hk (n:=c') ?_
   simpa [cx] using hS
  ·cases q
 ·obtain⟨ps,e1,rfl⟩:=Option.map_eq_some_iff.mp q
  obtain⟨u,rfl,du⟩:=d.one
  obtain⟨a,its,rfl,_,zl,ds,h⟩:=D1.items du.1 e1
  have fin:∀(h':Heap) (c':Nat),(∀b o',s.heap.get? b=some o'->h'.get? b=some o')->h'.get? s.heap.objs.size=some { cls:=.type "list",dict:=none,data:=.seq its.toArray c',slots:=#[] }->Z.post z s (.nw ps) (.ref s.heap.objs.size) { s with heap:=h' }:=fun h' c' kp e=>
   Z.ok.newL hz ds zl kp (t:=s.toks) (n:=c') e
  rcases h with ⟨o,ho,hc,n,hd⟩|⟨n,e⟩
  ·exact call_list_seq a (.inr rfl) ho hc hd fin (by simp only[List.size_toArray]<;>omega)
  ·exact call_list_seq a (.inl rfl) e rfl rfl fin (by simp only[List.size_toArray]<;>omega)
 ·cases q
noncomputable def pD:List PV->Option RV
 |[.rng lo j]=>if lo=0/\0≤j/\j≤1000000 then some (.fz (.tup (qc 0 j.toNat))) else none
 |_=>none
theorem E9 (hc:X.calm=true):cq X (.type "tuple") pD:=fun z s ps us r E hz d q=>by
 have zl:=sA
 unfold pD at q
 split at q
 ·next lo j=>
  split at q
  ·next h=>
   cases q
   obtain⟨rfl,h1,h2⟩:=h
   obtain⟨u,rfl,⟨a,t1,t2,t3,rfl,_,e⟩,_⟩:=d.one
   refine callType_new F.called_tuple (by decide) (F.typeCall_tuple_1 _) (F.newCall_tuple_1 _) (fun obj=>F.args_object_init_2 obj _) F.entry_tuple_new
    (oO a (a:=0) (b:=j) (c:=1) (n:=j.toNat) (small_one (by omega) (by omega) (by omega) (by omega)) (by rw[rangeSize_one];split<;>omega) (by omega)) ⟨⟨hz.I.ok.hd hc,e⟩,fun h' tk acc hk hacc=>⟨⟨_,Heap.get?_push_size _ rfl,rfl⟩,?_⟩⟩
   have g:=hz.kept (t:=tk) hk
   have dd:=yy (c:=z.cn) (h:=h') hacc
   have:=Z.ok.newT g.1 dd (by rw[dd.length,jm];omega) tk
   exact g.post (by simpa using this)
  ·cases q
 ·cases q
noncomputable def cu:List PV->Option (List Int)
 |[]=>some []
 |.int i::ps=>(cu ps).map fun is=>i::is
 |_=>none
theorem qb {c:Cn}{h:Heap}{ps:List PV}:∀{us:List Value} {is:List Int},Ds c h ps us->cu ps=some is->IntsAre us is:=by
 induction ps with
 |nil=>intro us bs d e;cases e;rw[show us=[] from d];exact .nil
 |cons p ps ih=>
  intro us bs d q
  obtain⟨u,r,e,d,t⟩:=d
  cases p with
  |int b=>
   obtain⟨bs',e',rfl⟩:=Option.map_eq_some_iff.mp q
   obtain⟨k,rfl⟩:=d
   subst e
   exact .cons b k (ih t e')
  |_=>cases q
theorem vU {c:Cn}{h:Heap}{us:List Value}{is:List Int}(d:IntsAre us is):Ds c h (is.map PV.int) us:=by
 induction d with
 |nil=>rfl
 |cons n t _ ih=>exact .cons ⟨t,rfl⟩ ih
noncomputable def lL:List Int->Int
 |[]=>0
 |[i]=>i
 |i::j::l=>max i (lL (j::l))
noncomputable def xb:List Int->Int
 |[]=>0
 |[i]=>i
 |i::j::l=>min i (xb (j::l))
theorem qL:∀{is:List Int},0<is.length->lL is∈is/\∀a∈is,a≤lL is
 |[i],_=>⟨List.mem_singleton.mpr rfl,fun a h=>by rw[List.mem_singleton.mp h];exact Int.le_refl _⟩
 |i::j::l,_=>by
  obtain⟨h1,h2⟩:=qL (is:=j::l) (by simp)
  rw[lL]
  refine⟨?_,fun a ha=>?_⟩
  ·by_cases hm:i≤lL (j::l)
   ·rw[Int.max_eq_right hm];exact List.mem_cons_of_mem _ h1
   ·rw[Int.max_eq_left (by omega)];exact List.mem_cons_self
  ·rcases List.mem_cons.mp ha with rfl|ha
   ·exact Int.le_max_left _ _
   ·exact Int.le_trans (h2 a ha) (Int.le_max_right _ _)
theorem uB:∀{is:List Int},0<is.length->xb is∈is/\∀a∈is,xb is≤a
 |[i],_=>⟨List.mem_singleton.mpr rfl,fun a h=>by rw[List.mem_singleton.mp h];exact Int.le_refl _⟩
 |i::j::l,_=>by
  obtain⟨h1,h2⟩:=uB (is:=j::l) (by simp)
  rw[xb]
  refine⟨?_,fun a ha=>?_⟩
  ·by_cases hm:xb (j::l)≤i
   ·rw[Int.min_eq_right hm];exact List.mem_cons_of_mem _ h1
   ·rw[Int.min_eq_left (by omega)];exact List.mem_cons_self
  ·rcases List.mem_cons.mp ha with rfl|ha
   ·exact Int.min_le_left _ _
   ·exact Int.le_trans (Int.min_le_right _ _) (h2 a ha)
noncomputable def qM {α:Type}(g:List Int->Option α):List PV->Option α
 |[p]=>(hW p).bind fun ps=>(cu ps).bind g
 |_=>none
noncomputable def kL (g:List Int->Int):List PV->Option RV:=qM fun is=>if is.length=0 then none else some (.fz (.int (g is)))
noncomputable def qR:=kL lL
noncomputable def C3:=kL xb
theorem Rvs.ints {z:Z X}{h:Heap}{ps:List PV}{us:List Value}(d:Rvs z h ps us){α:Type}{g:List Int->Option α}{r:α}(q:qM g ps=some r):∃p ys is,us=[.ref p]/\h.IsList p (intItems ys)/\is=ys.toList.map (·.1)/\g is=some r:=by
 unfold qM at q
 split at q
 ·obtain⟨ps,e1,q⟩:=Option.bind_eq_some_iff.mp q
  obtain⟨is,e2,q⟩:=Option.bind_eq_some_iff.mp q
  obtain⟨u,rfl,du⟩:=d.one
  obtain⟨p,its,n,rfl,_,e1,zl,ds⟩:=D1.lst du.1 e1
  have hi:=qb ds e2
  obtain⟨ys,e⟩:=hi.allInts.items
  have hl:=aL e1
  rw[e] at hl
  exact⟨p,ys,is,rfl,hl,by rw[←hi.numsOf,←nums_intItems,←e],q⟩
 ·cases q
theorem IM (hc:X.calm=true):cq X (.builtin "max") qR:=fun z s ps us r E hz d q=>by
 obtain⟨p,ys,is,rfl,hl,hns,q⟩:=d.ints q
 split at q
 ·cases q
 ·next hne=>
  cases q
  have hsz:0<ys.size:=by rw[hns,List.length_map,Array.length_toList] at hne;omega
  refine max_intList (hz.I.ok.hd hc) hl hsz fun v h' tk hv hk=>?_
  obtain⟨t,rfl⟩:=intItems_at hv
  obtain⟨h1,h2⟩:=argBest_gt (numAt ys) (ys.size - 1)
  refine⟨hz.kept hk,t,?_⟩
  congr 1
  obtain⟨m1,m2⟩:=qL (is:=is) (by omega)
  refine Int.le_antisymm (m2 _ ?_) ?_
  ·rw[hns,numAt_eq];exact getD_mem (by rw[List.length_map,Array.length_toList];omega)
  ·have m3:=m1
   rw[hns] at m3
   obtain⟨j,hj,e⟩:=mem_getD m3
   rw[List.length_map,Array.length_toList] at hj
   rw[hns,←e,←numAt_eq];exact h2 j (by omega)
theorem Hi (hc:X.calm=true):cq X (.builtin "min") C3:=fun z s ps us r E hz d q=>by
 obtain⟨p,ys,is,rfl,hl,hns,q⟩:=d.ints q
 split at q
 ·cases q
 ·next hne=>
  cases q
  have hsz:0<ys.size:=by rw[hns,List.length_map,Array.length_toList] at hne;omega
  refine min_intList (hz.I.ok.hd hc) hl hsz fun v h' tk hv hk=>?_
  obtain⟨t,rfl⟩:=intItems_at hv
  obtain⟨h1,h2⟩:=argBest_lt (numAt ys) (ys.size - 1)
  refine⟨hz.kept hk,t,?_⟩
  congr 1
  obtain⟨m1,m2⟩:=uB (is:=is) (by omega)
  refine Int.le_antisymm ?_ (m2 _ ?_)
  ·have m3:=m1
   rw[hns] at m3
   obtain⟨j,hj,e⟩:=mem_getD m3
   rw[List.length_map,Array.length_toList] at hj
   rw[hns,←e,←numAt_eq];exact h2 j (by omega)
  ·rw[hns,numAt_eq];exact getD_mem (by rw[List.length_map,Array.length_toList];omega)
noncomputable def G9:List PV->Option RV:=qM fun is=>some (.fz (.int is.sum))
theorem IA (hc:X.calm=true):cq X (.builtin "sum") G9:=fun z s ps us r E hz d q=>by
 obtain⟨p,ys,is,rfl,hl,hns,q⟩:=d.ints q
 cases q
 refine sum_intListG (hz.I.ok.hd hc) hl fun h' tk t' hk=>⟨hz.kept hk,t',?_⟩
 rw[preSum_eq,List.take_of_length_le (by simp),hns]
end
end Dp
end
section
namespace Dp
open PySem PySem.Spec L2 PyProof.Rows PySem.W
section
variable {X:Cx}
theorem Inv.led {pins:List (Addr×Obj)}{σ:L2.St}{H:Hp}{s:Shared}{h':Heap}{m:Str->Option Value}(I:Inv X pins σ H s)(F0:Fr X.base X.env.locals s.heap m)(F:Fr X.base X.env.locals h' m)
  (kept:∀b o,b≠X.env.locals->s.heap.get? b=some o->h'.get? b=some o):Inv X pins σ H { s with heap:=h' }:=by
 have neL:∀b o,H b=some o->b≠X.env.locals:=fun b o e z=>by subst z;rw[I.free] at e;cases e
 refine I.step (g':=s.gens) (t':=s.toks) (d':=s.drawn) (ch:=[]) (fun _ z=>nomatch z) (fun b o hL _ _ e _=>kept b o hL e) (fun b o hL _ _ e _=>⟨o.slots,kept b o hL e⟩) (fun b o _ e n=>n) (fun b o _ e=>?_)
  (fun b xs e=>e) (fun b o u e=>e) (fun b ps e=>⟨#[],by rw[e];simp⟩) (fun m1 hm=>?_) (fun b o e=>?_) I.bare
 ·by_cases hb:b=X.env.locals
  ·subst hb
   obtain⟨o',_,_,z,_⟩:=F.ns
   exact⟨o',z⟩
  ·exact⟨o,kept b o hb e⟩
 ·rw[Ec hm F0.ns];exact F.ns
 ·refine (I.hok b o e).stay (fun d u hc q=>kept d u ?_ q) (fun d z=>z) fun d xs z=>z
  rcases hc with z|z
  ·rw[z];exact neL b _ e
  ·exact neL d _ z
theorem Z.ok.led {z:Z X}{s:Shared}{h':Heap}{m:Str->Option Value}(hz:z.ok s)(F0:Fr X.base X.env.locals s.heap m)(F:Fr X.base X.env.locals h' m)(kept:∀b o,b≠X.env.locals->s.heap.get? b=some o->h'.get? b=some o):z.go s { s with heap:=h' }:=
 Z.ok.ext hz (Inv.led hz.I F0 F kept) ⟨fun a o n e=>kept a o (fun q=>n (q▸hz.loc)) e,fun a o e=>by
  by_cases hb:a=X.env.locals
  ·subst hb
   obtain⟨o',_,_,z,_⟩:=F.ns
   exact⟨o',z⟩
  ·exact⟨o,kept a o hb e⟩⟩
noncomputable def gW:List PV->Option (List (List Int))
 |[]=>some []
 |.tup qs::ps=>(cu qs).bind fun is=>if is.isEmpty then none else (gW ps).map fun ks=>is::ks
 |_=>none
inductive Kys (h:Heap):List (List Int)->List Value->Prop where
 |nil:Kys h [] []
 |cons {a:Addr} {is:List Int} {vs us:List Value} {ks:List (List Int)}:IsTup h a vs.toArray->IntsAre vs is->is≠[]->Kys h ks us->Kys h (is::ks) (.ref a::us)
theorem BL {c:Cn}{h:Heap}{ps:List PV}:∀{us:List Value} {ks:List (List Int)},Ds c h ps us->gW ps=some ks->Kys h ks us:=by
 induction ps with
 |nil=>intro us ks d e;cases e;rw[show us=[] from d];exact .nil
 |cons p ps ih=>
  intro us ks d q
  obtain⟨u,r,e,d,t⟩:=d
  cases p with
  |tup qs=>
   obtain⟨is,e1,q⟩:=Option.bind_eq_some_iff.mp q
   split at q
   ·cases q
   ·next hne=>
    obtain⟨ks',e2,rfl⟩:=Option.map_eq_some_iff.mp q
    obtain⟨a,its,rfl,_,pl,_,ds⟩:=d
    subst e
    exact .cons pl (qb ds e1) (fun z=>hne (by rw[z];rfl)) (ih t e2)
  |_=>cases q
theorem Kys.length {h:Heap}{ks:List (List Int)}{us:List Value}(k:Kys h ks us):ks.length=us.length:=by
 induction k with
 |nil=>rfl
 |cons _ _ _ _ ih=>rw[List.length_cons,List.length_cons,ih]
theorem Kys.get {h:Heap}{ks:List (List Int)}{us:List Value}(k:Kys h ks us):∀{i:Nat},i<us.length->∃a vs,us.getD i Value.none=.ref a/\IsTup h a vs.toArray/\IntsAre vs (ks.getD i []):=by
 induction k with
 |nil=>intro i hi;exact absurd hi (Nat.not_lt_zero _)
 | @cons a is vs us ks h1 h2 h3 h4 ih=>
  intro i hi
  cases i with
  |zero=>exact⟨a,vs,rfl,h1,h2⟩
  |succ i=>exact ih (by simpa using hi)
theorem Kys.tups {h h':Heap}{L:Addr}{ks:List (List Int)}{us:List Value}(k:Kys h ks us)(nl:∀a items,IsTup h a items->a≠L)(kept:∀b o,b≠L->h.get? b=some o->h'.get? b=some o):∃fs:List Value,KatTups h' us fs/\fs.length=us.length/\∀v∈fs,∃i t,v=Value.int i t:=by
 induction k with
 |nil=>exact⟨[],KatTups.nil,rfl,fun _ z=>nomatch z⟩
 | @cons a is vs us ks h1 h2 h3 h4 ih=>
  obtain⟨fs,f1,f2,f3⟩:=ih
  have hl:=nl _ _ h1
  obtain⟨o,eo,ec,n,ed⟩:=h1
  cases h2 with
  |nil=>exact absurd rfl h3
  |cons i tk q=>
   refine⟨.int i tk::fs,KatTups.cons (kept a o hl eo) ec ed rfl f1,by rw[List.length_cons,List.length_cons,f2],fun v hv=>?_⟩
   rcases List.mem_cons.mp hv with rfl|hv
   ·exact⟨i,tk,rfl⟩
   ·exact f3 v hv
theorem yB {prog:Program}{w:World}{A:Around}{fin:Bool}{C:Bool->Shared->Prop}{s':Shared}{xs ys:List Int}{us vs:List Value}{k:Nat}(r1:IntsAre us xs)(r2:IntsAre vs ys)(h:C (ra fin (xs.zip ys)) s'):KatLex prog w A true fin C (us.zip vs) k s':=
 xD (kh r1) (kh r2) h
theorem Ax {c:Cn}{h:Heap}{ps:List PV}{us:List Value}(d:Ds c h ps us):∀{q:List Nat},(∀i∈q,i<us.length)->Ds c h (q.map fun i=>ps.getD i .non) (q.map fun i=>us.getD i Value.none)
 |[],_=>rfl
 |i::q,hq=>by
  have hi:=hq i List.mem_cons_self
  have hl:=d.length
  obtain⟨u,e1,e2⟩:=d.get (i:=i) (p:=ps.getD i .non) (by rw[List.getD_eq_getElem?_getD,List.getElem?_eq_getElem (by omega)];rfl)
  refine .cons ?_ (Ax d fun j hj=>hq j (List.mem_cons_of_mem _ hj))
  show D c h (ps.getD i .non) (us.getD i Value.none)
  rw[List.getD_eq_getElem?_getD (l:=us),e1]
  exact e2
noncomputable def eK:List PV->Option RV
 |[p]=>(hW p).bind fun ps=>(gW ps).bind fun ks=>if ps.length<64 then some (.nw ((ka ks).map fun i=>ps.getD i .non)) else none
 |_=>none
theorem tK {z:Z X}{s:Shared}(hz:z.ok s){a:Addr}{items:Array Value}(h:IsTup s.heap a items):a≠X.env.locals:=fun q=>by
 obtain⟨o,e,_,n,d⟩:=h
 obtain⟨m,⟨o',es,ep,e',d',_⟩,_⟩:=hz.I.loc
 rw[q,e'] at e;cases e;rw[d'] at d;cases d
theorem xL:cq X (.builtin "sorted") eK:=fun z s ps us r E hz d q=>by
 unfold eK at q
 split at q
 ·obtain⟨ts,e1,q⟩:=Option.bind_eq_some_iff.mp q
  obtain⟨ks,e2,q⟩:=Option.bind_eq_some_iff.mp q
  split at q
  ·next h64=>
   cases q
   obtain⟨u,rfl,du⟩:=d.one
   obtain⟨p,its,n,rfl,_,e1,zl,ds⟩:=D1.lst du.1 e1
   have pl:=aL e1
   have ky:=BL ds e2
   have hk:=ky.length
   have hl:=ds.length
   by_cases h2:its.length<2
   ·refine qn pl h2 ?_
    obtain⟨e,he⟩:=sortedAll_at s.heap its its.toArray
    have es:(ka ks).map (fun i=>ts.getD i .non)=ts:=by
     unfold ka
     rw[if_pos (by omega),hk,hl]
     exact mX _ _
    rw[es]
    have g:=hz.kept (h':=sortedAll s.heap its its.toArray) (t:=s.toks) fun b o z=>sortedAll_old z
    have nn:=Heap.get?_none_of_le (h:=s.heap) (a:=s.heap.objs.size+1) (Nat.le_succ _)
    exact⟨g,_,rfl,nn,hz.free nn,its,e,he,zl,(ds.mono (td nn)).mono ⟨rfl,rfl,rfl,fun b o q e=>⟨q,sortedAll_old e⟩⟩⟩
   ·obtain⟨m,F0⟩:=hz.I.fr
    refine kat_sorted F0 AW pl (by omega) (by omega) fun D e1 h' F' N' hlt=>?_
    have nD:=N' (D,seqObj "list" #[] e1) List.mem_cons_self
    have hD:s.heap.get? D=none:=by
     cases e:s.heap.get? D with
     |none=>rfl
     |some o=>exact absurd (hlt (D,o) (lA nD.2.1 nD.2.2 e)) (Nat.lt_irrefl _)
    have kp:∀(h'':Heap) (x:Addr×Obj) (F:Fr X.base X.env.locals h'' m) (N:News X.base X.env.locals h'' (x::jK X.base s.heap X.env.locals)),∀b o,b≠X.env.locals->s.heap.get? b=some o->h''.get? b=some o:=fun h'' x F N b o hb e=>by
     cases z:X.base.get? b with
     |some v=>
      have y:=hz.I.bk b v z
      rw[e] at y;cases y
      exact F.keep b _ z
     |none=>exact (N (b,o) (List.mem_cons_of_mem _ (lA hb z e))).1
    have kept:=kp h' _ F' N'
    obtain⟨fs,k1,k2,k3⟩:=ky.tups (fun a items h=>tK hz h) kept
    refine kat_kind (s:={ s with heap:=h' }) k1 (by omega) (T:=.type "int") (fun v hv=>?_) (by decide) ?_
    ·obtain⟨i,t,rfl⟩:=k3 v hv
     exact Looks.of_pure rfl
    ·refine AX (n:=its.length) (P:=OfN its.length) (fun i j=>lU (ks.getD i []) (ks.getD j [])) (fun i j C hi hj hC=>?_) (oT (by omega)) (fun hpm=>?_)
     ·obtain⟨a,vs,g1,g2,r1⟩:=ky.get hi
      obtain⟨a',vs',g1',g2',r1'⟩:=ky.get hj
      have nl1:=tK hz g2
      have nl2:=tK hz g2'
      obtain⟨o,eo,ec,n1,ed⟩:=g2
      obtain⟨o',eo',ec',n1',ed'⟩:=g2'
      show wpAny (model X.prog X.w) X.A.in1.in1 (keyLt' (tuples' (Value.type "int" != Value.type "tuple")) (its.getD i Value.none) (its.getD j Value.none)) C (fun _ _=>False) _
      rw[g1,g1',show (Value.type "int" != Value.type "tuple")=true by decide]
      refine kat_lt (kept _ _ nl1 eo) ed (kept _ _ nl2 eo') ed' (yB r1 r1' ?_)
      rw[List.size_toArray,List.size_toArray,r1.length,r1'.length]
      exact hC
     ·have eo:ka ks=(bR (fun i j=>lU (ks.getD i []) (ks.getD j [])) (kas_sort its.length)).toList:=by
       unfold ka
       rw[if_neg (by omega),hk]
      generalize hpme:bR (fun i j=>lU (ks.getD i []) (ks.getD j [])) (kas_sort its.length)=pm at hpm eo ⊢
      have hmem:∀i∈pm.toList,i<its.length:=fun i hi=>List.mem_range.mp (hpm.subset hi)
      refine KasFin.intro F' N' (.head fun _ z=>?_) fun h'' c F'' N''=>?_
      ·exact Nat.ne_of_lt (hlt _ z)
      ·have kept2:=kp h'' _ F'' N''
       have g:=Z.ok.led hz F0 F'' kept2
       rw[eo]
       refine⟨g,D,rfl,hD,hz.free hD,_,c,(N'' (D,_) List.mem_cons_self).1,?_,((Ax ds hmem).mono (td hD)).mono g.2.kpD⟩
       have:=hpm.length_eq
       rw[List.length_map,this,List.length_range]
       exact zl
  ·cases q
 ·cases q
noncomputable def jB:List PV->Option RV
 |[p]=>(items p).bind fun ps=>(cu ps).bind fun is=>if is.length<64 then some (.nw ((p8 is).map PV.int)) else none
 |_=>none
theorem Bo:cq X (.builtin "sorted") jB:=fun z s ps us r E hz d q=>by
 unfold jB at q
 split at q
 ·obtain⟨ts,e1,q⟩:=Option.bind_eq_some_iff.mp q
  obtain⟨is,e2,q⟩:=Option.bind_eq_some_iff.mp q
  split at q
  ·next h64=>
   cases q
   obtain⟨u,rfl,du⟩:=d.one
   obtain⟨a,its,rfl,_,zl,ds,h⟩:=D1.items du.1 e1
   have hi:=qb ds e2
   have hl:=hi.length
   have main:∀(T:String) (o:Obj) (n:Nat),(T = "list"\/T = "tuple")->s.heap.get? a=some o->o.cls=.type T->o.data=.seq its.toArray n->W X (call (.builtin "sorted") [.ref a]) (Z.post z s (.nw ((p8 is).map PV.int))) E s:=fun T o n hT ho hc hd=>by
    refine tB hT ho hc hd hi (by omega) fun h1 h' D out js e k1 k2 hD hh hi hp hu=>?_
    rw[ui hp hu] at hi
    have g:=hz.kept (t:=s.toks) fun b u e=>k2 b u (k1 b u e)
    have nn:s.heap.get? D=none:=by
     cases q:s.heap.get? D with
     |none=>rfl
     |some o=>exact absurd (Heap.lt_size (k1 _ _ q)) (Nat.not_lt.mpr hD)
    refine⟨g,D,rfl,nn,hz.free nn,out,e,hh,?_,vU hi⟩
    rw[hi.length,(gh is).length_eq,sizeLine_eq];omega
   rcases h with ⟨o,ho,hc,n,hd⟩|⟨n,e⟩
   ·exact main "tuple" o n (.inr rfl) ho hc hd
   ·exact main "list" _ n (.inl rfl) e rfl rfl
  ·cases q
 ·cases q
end
end Dp
end
section
namespace Dp
open PySem PySem.Spec L2 PyProof.Rows
inductive Out where
 |nx (ρ:ak)|bk (ρ:ak)|ct (ρ:ak)|rt (p:PV) (ρ:ak)|rn (ps:List PV) (ρ:ak)|bad
noncomputable abbrev FS:=ak->Out
structure Stp (bad:Addr->Prop)(H H':Hp)(h h':Heap):Prop where
 kp:∀a o,¬bad a->H a=none->h.get? a=some o->h'.get? a=some o/\H' a=none
 th:∀a o,h.get? a=some o->∃o',h'.get? a=some o'
section
variable {X:Cx}{z:Z X}{s s' s1 s2:Shared}{h h' h1 h2:Heap}{bad:Addr->Prop}{H H1 H2:Hp}
theorem Ext.stp (e:Ext bad h h'):Stp bad H H h h':=⟨fun a o n q g=>⟨e.kp a o n g,q⟩,e.th⟩
theorem Stp.trans (a:Stp bad H H1 h h1)(b:Stp bad H1 H2 h1 h2):Stp bad H H2 h h2:=
 ⟨fun x o n q g=>b.kp x o n (a.kp x o n q g).2 (a.kp x o n q g).1,fun x o g=>let ⟨o',q⟩:=a.th x o g;b.th x o' q⟩
theorem Stp.kpD (e:Stp bad H H1 h h'):Kp (aF X bad H) (aF X bad H1) h h':=⟨rfl,rfl,rfl,fun a o q g=>⟨⟨(e.kp a o q.2 q.1 g).2,q.2⟩,(e.kp a o q.2 q.1 g).1⟩⟩
noncomputable abbrev Z.wi (z:Z X)(σ:L2.St)(H:Hp)(ρ:ak):Z X:=⟨z.bad,z.pins,σ,H,ρ⟩
noncomputable def Z.to (z:Z X)(s:Shared)(ρ:ak)(s':Shared):Prop:=∃σ' H',(z.wi σ' H' ρ).ok s'/\Stp z.bad z.H H' s.heap s'.heap
theorem Z.go.to (g:z.go s s'):z.to s z.ρ s':=⟨z.σ,z.H,g.1,g.2.stp⟩
noncomputable def Z.sp (z:Z X)(s:Shared)(o:Out)(fl:Flow)(s':Shared):Prop:=match o with
 |.nx ρ=>fl=.next/\z.to s ρ s'
 |.bk ρ=>fl=.brk/\z.to s ρ s'
 |.ct ρ=>fl=.cont/\z.to s ρ s'
 |.rt p ρ=>∃u σ' H',fl=.ret u/\(z.wi σ' H' ρ).ok s'/\Stp z.bad z.H H' s.heap s'.heap/\D (aF X z.bad H') s'.heap p u
 |.rn ps ρ=>∃a σ' H',fl=.ret (.ref a)/\(z.wi σ' H' ρ).ok s'/\Stp z.bad z.H H' s.heap s'.heap/\X.s₀.heap.get? a=none/\¬z.bad a/\ListAt (aF X z.bad (cg H' a au)) s'.heap a ps
 |.bad=>False
noncomputable def NS (X:Cx)(st:Stmt)(f:FS):Prop:=∀(z:Z X) s E,z.ok s->f z.ρ≠.bad->W X (exec st X.env) (Z.sp z s (f z.ρ)) E s
noncomputable def xt (X:Cx)(st:List Stmt)(f:FS):Prop:=∀(z:Z X) s E,z.ok s->f z.ρ≠.bad->W X (execs st X.env) (Z.sp z s (f z.ρ)) E s
theorem Z.sp.back {o:Out}{fl:Flow}{σ1:L2.St}{H1:Hp}{ρ1:ak}(t:Stp z.bad z.H H1 s.heap s1.heap)(h:(z.wi σ1 H1 ρ1).sp s1 o fl s'):z.sp s o fl s':=by
 cases o with
 |nx ρ=>obtain⟨e,σ',H',a,b⟩:=h;exact⟨e,σ',H',a,t.trans b⟩
 |bk ρ=>obtain⟨e,σ',H',a,b⟩:=h;exact⟨e,σ',H',a,t.trans b⟩
 |ct ρ=>obtain⟨e,σ',H',a,b⟩:=h;exact⟨e,σ',H',a,t.trans b⟩
 |rt p ρ=>obtain⟨u,σ',H',e,a,b,c⟩:=h;exact⟨u,σ',H',e,a,t.trans b,c⟩
 |rn p ρ=>obtain⟨u,σ',H',e,a,b,c⟩:=h;exact⟨u,σ',H',e,a,t.trans b,c⟩
 |bad=>exact h
theorem Z.sp.back0 {o:Out}{fl:Flow}(g:z.go s s1)(h:Z.sp z s1 o fl s'):z.sp s o fl s':=Z.sp.back (σ1:=z.σ) (H1:=z.H) (ρ1:=z.ρ) g.2.stp h
end
section
variable {X:Cx}{st:Stmt}{eM:List Stmt}{f g:FS}{e:Expr}{fe:FE}{pos:Pos}
noncomputable def aH:FS:=fun ρ=>.nx ρ
noncomputable def be:FS:=fun _=>.bad
noncomputable def Ks:FS:=fun ρ=>.bk ρ
noncomputable def Kn:FS:=fun ρ=>.ct ρ
noncomputable def aj (s u:FS):FS:=fun ρ=>match s ρ with
 |.nx ρ'=>u ρ'
 |o=>o
theorem bo:NS X st be:=fun z s E _ h=>absurd rfl h
theorem FV:xt X [] aH:=fun z s E hz _=>wpAny_execs_nil ⟨rfl,hz.refl.to⟩
theorem EM (h1:NS X st f):xt X [st] f:=fun z s E hz hb=>by
 refine wpAny_execs_cons (az (h1 z s E hz hb) fun fl s1 q=>?_)
 generalize f z.ρ=o at hb q
 cases o with
 |nx ρ=>obtain⟨e,q⟩:=q;subst e;exact wpAny_execs_nil ⟨rfl,q⟩
 |bk ρ=>obtain⟨e,q⟩:=q;subst e;exact⟨rfl,q⟩
 |ct ρ=>obtain⟨e,q⟩:=q;subst e;exact⟨rfl,q⟩
 |rt p ρ=>obtain⟨u,σ',H',e,q⟩:=q;subst e;exact⟨u,σ',H',rfl,q⟩
 |rn p ρ=>obtain⟨u,σ',H',e,q⟩:=q;subst e;exact⟨u,σ',H',rfl,q⟩
 |bad=>exact absurd rfl hb
theorem B4 (h1:NS X st f)(h2:xt X eM g):xt X (st::eM) (aj f g):=fun z s E hz hb=>by
 unfold aj at hb ⊢
 have hb1:f z.ρ≠.bad:=fun q=>by rw[q] at hb;exact hb rfl
 refine wpAny_execs_cons (az (h1 z s E hz hb1) fun fl s1 q=>?_)
 generalize f z.ρ=o at hb q hb1
 cases o with
 |nx ρ=>
  obtain⟨e,σ',H',ok,t⟩:=q
  subst e
  exact az (h2 (z.wi σ' H' ρ) s1 E ok hb) fun fl s2 q2=>q2.back t
 |bk ρ=>obtain⟨e,q⟩:=q;subst e;exact⟨rfl,q⟩
 |ct ρ=>obtain⟨e,q⟩:=q;subst e;exact⟨rfl,q⟩
 |rt p ρ=>obtain⟨u,σ',H',e,q⟩:=q;subst e;exact⟨u,σ',H',rfl,q⟩
 |rn p ρ=>obtain⟨u,σ',H',e,q⟩:=q;subst e;exact⟨u,σ',H',rfl,q⟩
 |bad=>exact absurd rfl hb1
theorem Ej:NS X (.Pass pos) aH:=fun z s E hz _=>wpAny_Pass ⟨rfl,hz.refl.to⟩
theorem CE:NS X (.Break pos) Ks:=fun z s E hz _=>wpAny_Break ⟨rfl,hz.refl.to⟩
theorem sW:NS X (.Continue pos) Kn:=fun z s E hz _=>wpAny_Continue ⟨rfl,hz.refl.to⟩
theorem It {x j pos'}:NS X (.Expr (.Constant (.str x) j pos) pos') aH:=fun z s E hz _=>wpAny_Expr (Calls.Constant_str (show Z.sp z s _ .next { s with toks:=s.toks+1 } from⟨rfl,(hz.tok _).to⟩)) hz.I.quiet
noncomputable def vK (o:Option RV)(ρ:ak):Out:=match o with
 |some (.fz _)=>.nx ρ
 |_=>.bad
noncomputable def hK (f:FE):FS:=fun ρ=>vK (f ρ) ρ
theorem ny (h:NE X e fe)(hs:swapsWith e none pos.line X.env=pure false):NS X (.Expr e pos) (hK fe):=fun z s E hz hb=>by
 unfold hK vK at hb ⊢
 split at hb
 ·next p er=>exact wpAny_Expr_any (az (h z s _ E hz er) fun v s1 q=>⟨rfl,q.1.to⟩) hz.I.quiet hs
 ·exact absurd rfl hb
noncomputable def yV (o:Option RV)(ρ:ak):Out:=match o with
 |some (.fz p)=>.rt p ρ
 |some (.nw ps)=>.rn ps ρ
 |_=>.bad
noncomputable def aO (f:FE):FS:=fun ρ=>yV (f ρ) ρ
theorem df {z:Z X}{s:Shared}(hz:z.ok s){a:Addr}(n:s.heap.get? a=none):X.s₀.heap.get? a=none:=by
 cases q:X.s₀.heap.get? a with
 |none=>rfl
 |some o=>
  by_cases hx:a∈X.ex
  ·obtain⟨o',r⟩:=hz.there a (hz.ex a hx);rw[n] at r;cases r
  ·obtain⟨o',r⟩:=hz.I.base.there a o q hx;rw[n] at r;cases r
theorem De (h:NE X e fe):NS X (.Return (some e) pos) (aO fe):=fun z s E hz hb=>by
 unfold aO yV at hb ⊢
 split at hb
 ·next p er=>exact wpAny_Return_some (az (h z s _ E hz er) fun v s1 q=>⟨v,z.σ,z.H,rfl,q.1.1,q.1.2.stp,q.2⟩)
 ·next ps er=>exact wpAny_Return_some (az (h z s _ E hz er) fun v s1 q=>by
   obtain⟨g,a,rfl,n,o,l⟩:=q
   exact⟨a,z.σ,z.H,rfl,g.1,g.2.stp,df hz n,o.2,l⟩)
 ·exact absurd rfl hb
noncomputable def rP (o:Option Sl)(ρ:ak):Out:=match o with
 |some (.val p)=>.rt p ρ
 |some (.own ps)=>.rn ps ρ
 |_=>.bad
noncomputable def g8 (i:Nat):FS:=fun ρ=>rP (sl ρ i) ρ
theorem nU {H:Hp}{a:Addr}{o:HO}(h:H a=some o):cg H a o=H:=by
 funext b;unfold cg;split
 ·next e=>rw[e,h]
 ·rfl
theorem E5 {i:Nat}{x:Str}{p:Pos}(hN:X.N[i]?=some x)(hv:oo X.env.scope x)(hd:(x==("__debug__" : Str))=false)(hcd:(x==("__classdict__" : Str))=false)(hl:X.H₀=fun _=>none):NS X (.Return (some (.Name x p)) pos) (g8 i):=fun z s E hz hb=>by
 unfold g8 rP at hb ⊢
 split at hb
 ·next q eq=>exact wpAny_Return_some (az (GX hN hv hd hcd z s _ E hz (show fV i z.ρ=some (.fz q) by unfold fV;rw[eq];rfl)) fun v s1 w=>⟨v,z.σ,z.H,rfl,w.1.1,w.1.2.stp,w.2⟩)
 ·next ps eq=>
  have:=GX (pos:=p) hN hv hd hcd z s (.ln (.lst ps)) (fun _ _=>True) hz (show fV i z.ρ=_ by unfold fV;rw[eq];rfl)
  obtain⟨v,e1,⟨u0,r0⟩,d⟩:=hz.slk i _ (dG eq)
  obtain⟨a,rfl,ha,l⟩:=d
  obtain⟨m,hn,hlk⟩:=hz.I.loc
  obtain⟨u,r,lk⟩:=hlk i x (.ref a) hN e1 hv
  cases (show u=Value.ref a from r)
  have nb:=hz.nb i a ⟨⟨_,dG eq,rfl⟩,e1⟩
  have fin:Z.sp z s (.rn ps z.ρ) (.ret (.ref a)) s:=⟨a,z.σ,z.H,rfl,hz,Ext.refl.stp,(nb.2.resolve_right fun q=>q (by rw[hl])),nb.1,(by rw[nU ha];exact l)⟩
  refine wpAny_Return_some (wpAny_Name ?_ hd)
  rcases lk with ⟨hk,hm⟩|⟨hk,c,hc,hcell⟩
  ·exact wpAny_loadName_local hz.I.ok.kind hk hn hm fin
  ·rcases hk with hk|hk
   ·exact wpAny_loadName_cell hz.I.ok.kind hk hc hcell fin
   ·exact wpAny_loadName_free hz.I.ok.kind hk hc hcell fin hcd
 ·exact absurd rfl hb
noncomputable def Ht (o:Option Bool)(s u:FS)(ρ:ak):Out:=match o with
 |some true=>s ρ
 |some false=>u ρ
 |none=>.bad
noncomputable def gc (g:FB)(s u:FS):FS:=fun ρ=>Ht (g ρ) s u ρ
theorem Jh {c:Expr}{a b:List Stmt}{fc:FB}(hc:NB X c fc)(ha:xt X a f)(hb:xt X b g):NS X (.If c a b pos) (gc fc f g):=fun z s E hz hn=>by
 unfold gc Ht at hn ⊢
 split at hn
 ·next ek=>
  refine wpAny_If (az (hc z s _ E hz ek) fun d s1 ⟨e,g1⟩=>?_)
  subst e
  exact az (ha z s1 E g1.1 hn) fun fl s2 q=>q.back0 g1
 ·next ek=>
  refine wpAny_If (az (hc z s _ E hz ek) fun d s1 ⟨e,g1⟩=>?_)
  subst e
  exact az (hb z s1 E g1.1 hn) fun fl s2 q=>q.back0 g1
 ·exact absurd rfl hn
end
inductive PR where
 |v (p:PV)|n (ps:List PV)
noncomputable abbrev Fn:=List PV->Option PR
noncomputable def D0 (n:Nat)(ps:List PV):ak:=ps.map (fun p=>some (Sl.val p))++List.replicate (n - ps.length) none
noncomputable def Out.res:Out->Option PR
 |.nx _=>some (.v .non)
 |.rt p _=>some (.v p)
 |.rn ps _=>some (.n ps)
 |_=>none
noncomputable def run (a n:Nat)(s:FS)(qs:List PV):Option PR:=if qs.length=a then (s (D0 n qs)).res else none
structure Rm (k:Nat)(A:Around):Prop where
 dp:A.depth+3 * k+5<recursionLimit
 un:A.units+16 * k+200<cLine
theorem Rm.mono {j k:Nat}{A:Around}(r:Rm k A)(h:j≤k):Rm j A:=⟨by have:=r.dp;omega,by have:=r.un;omega⟩
theorem Rm.deeper {k:Nat}{A:Around}(r:Rm (k+1) A)(env:Env):Rm k (A.deeper env):=
 ⟨by have:=r.dp;show A.depth+1+3 * k+5<_;omega,by have:=r.un;show A.units+3+16 * k+200<_;omega⟩
theorem Rm.depth {k:Nat}{A:Around}(r:Rm k A):A.depth<recursionLimit:=by have:=r.dp;omega
theorem Rm.units {k:Nat}{A:Around}(r:Rm k A):A.units+64<cLine:=by have:=r.un;omega
noncomputable abbrev h0:Hp:=fun _=>none
noncomputable def Fin (P:Program)(w:World)(mg:Str->Option Value)(outer:List Env)(bad:Addr->Prop)(s:Shared)(r:PR)(res:Result)(s':Shared):Prop:=
 ∃u,res=.ok (.ret u)/\s'.os=s.os/\AllBare s'.gens/\Un (mv outer) [] h0 h0 s.heap s'.heap/\match r with
  |.v p=>D ⟨hU bad h0,P,w,mg⟩ s'.heap p u
  |.n ps=>∃a,u=.ref a/\s.heap.get? a=none/\ListAt ⟨hU bad (cg h0 a au),P,w,mg⟩ s'.heap a ps
structure NF (P:Program)(w:World)(K:PySem.W.Frag)(mg:Str->Option Value)(base:Heap)(cm:Bool)(k:Nat)(f:Addr)(fd:FuncData)(ps:List Str)(F:Fn):Prop where
 len:∀qs r,F qs=some r->qs.length=ps.length
 run:∀(A:Around) (outer:List Env) (s:Shared) (args:Args) (us:List Value) (qs:List PV) (r:PR) (bad:Addr->Prop),(cm=true->A.handled=none)->Rm k A->Env0 P w K mg base A outer s h0->BindsTo s fd args (ps.zip us) →
  (∀b∈mv outer,bad b)->(∀b,bad b->∃o,s.heap.get? b=some o)->(∀b o,base.get? b=some o->¬bad b)->Ds ⟨hU bad h0,P,w,mg⟩ s.heap qs us->F qs=some r->codeAny (model P w) A (.call (.ref f) args) (Fin P w mg outer bad s r) s
theorem NF.mono {P:Program}{w:World}{K:PySem.W.Frag}{mg:Str->Option Value}{base:Heap}{cm:Bool}{j k:Nat}{f:Addr}{fd:FuncData}{ps:List Str}{F:Fn}(n:NF P w K mg base cm j f fd ps F)(h:j≤k):NF P w K mg base cm k f fd ps F:=
 ⟨n.len,fun A outer s args us qs r bad hc hr=>n.run A outer s args us qs r bad hc (hr.mono h)⟩
noncomputable def Ee (P:Program)(w:World)(K:PySem.W.Frag)(mg:Str->Option Value)(base:Heap)(cm:Bool)(N:List Str)(qual:Str)(scope:Scope)(f:Addr)(cd:Value)(A:Around)(outer:List Env)(s:Shared)(H:Hp):Cx where
 prog:=P
 w:=w
 K:=K
 mg:=mg
 base:=base
 A:=A.deeper (envOfC qual scope s.heap.objs.size f cd)
 N:=N
 s₀:=s
 H₀:=H
 env:=envOfC qual scope s.heap.objs.size f cd
 outer:=outer
 stack:=envOfC qual scope s.heap.objs.size f cd::outer
 ex:=[]
 calm:=cm
 fn:=fun _=>true
 pn:=[]
 xe:=fun _ _=>False
theorem sO {P:Program}{w:World}{K:PySem.W.Frag}{mg:Str->Option Value}{base:Heap}{cm:Bool}{N ps:List Str}{qual:Str}{scope:Scope}{f:Addr}{cd:Value}{A:Around}{outer:List Env}{s s1:Shared}{H:Hp}{us:List Value}{vs:List V}
  (S:FnScope N ps scope) (hd:cm=true->A.handled=none) (e0:Env0 P w K mg base A outer s H) (hl:vs.length=ps.length) (r:Vals vs us)
  (x:InCallC s s.heap.objs.size (bindL (envOfC qual scope s.heap.objs.size f cd).kindOf (ps.zip us) fun _=>none) (cellsFrom (s.heap.objs.size+1) scope.names []) (bindC (envOfC qual scope s.heap.objs.size f cd).kindOf (ps.zip us) fun _=>none) s1) :
  Inv (Ee P w K mg base cm N qual scope f cd A outer s H) [] (L2.eW N vs) H s1:=by
 have hpl:ps.length≤N.length:=by have:=congrArg List.length S.pre;rw[List.length_take] at this;omega
 obtain⟨h1,tk,rfl,hk⟩:=x.done
 have noA:∀b:Addr,b∉(Ee P w K mg base cm N qual scope f cd A outer s H).ex:=fun b z=>absurd (show b∈([]:List Addr) from z) (by simp)
 refine⟨⟨e0.mod,S.kind,rfl,rfl,Nat.le_refl _,fun y z c h1 h2=>?_,fun y hy=>?_,fun y c _ h=>?_,hd,Around.frames_deeper e0.frames,.inr ⟨rfl,rfl⟩,fun b z=>absurd z (noA b),e0.bs,e0.bsz,fun b _ _=>noA b,fun b z=>absurd z (noA b),e0.funs,e0.frf⟩,
  rfl,e0.bare,Un.kept hk,⟨_,x.toInCall.ns,fun i y v h1 h2 h3=>?_⟩,fun y c h=>⟨_,x.cell y c h⟩,e0.hok.fresh (Nat.le_refl _),fun y c h=>?_,fun p hp=>absurd (show p∈([]:List (Addr×Obj)) from hp) (by simp),e0.hok.kept hk,?_⟩
 ·exact name_of_addr x.apart (PySem.mem_of_lookup h1) (PySem.mem_of_lookup h2)
 ·have hy:scope.names.lookup y=some .cell\/scope.names.lookup y=some .free:=hy
  rcases hy with hy|hy
  ·exact rG hy
  ·exact absurd rfl (S.nofree _ (PySem.mem_of_lookup hy))
 ·exact Nat.le_of_lt (x.above y c (PySem.mem_of_lookup h))
 ·have hi:i<vs.length:=by
   unfold L2.eW at h2
   by_cases hi:i<vs.length
   ·exact hi
   ·rw[List.getElem?_append_right (by simpa using hi)] at h2
    rw[List.getElem?_replicate] at h2
    split at h2<;>cases h2
  have ha:vs[i]?=some v:=by
   unfold L2.eW at h2
   rw[List.getElem?_append_left (by simpa using hi),List.getElem?_map] at h2
   cases e:vs[i]? with
   |none=>rw[e] at h2;cases h2
   |some a=>rw[e] at h2;cases h2;rfl
  obtain⟨u,hu,rv⟩:=r.get ha
  have hp:ps[i]?=some y:=by
   rw[←S.pre,List.getElem?_take_of_lt (by omega)];exact h1
  have ndP:ps.Nodup:=by rw[←S.pre];exact S.nd.sublist (List.take_sublist _ _)
  refine⟨u,rv,?_⟩
  rcases S.par y (List.mem_of_getElem? hp) with k|k
  ·exact .inl ⟨k,pg ndP hp hu k⟩
  ·obtain⟨c,e⟩:=rG (n:=s.heap.objs.size+1) k
   refine .inr ⟨.inl k,c,e,?_⟩
   have q:=x.cell y c e
   rw[pE ndP hp hu (by show scope.names.lookup y≠_;rw[k];decide)] at q
   exact q
 ·exact e0.hok.fresh (Nat.le_of_lt (x.above y c (PySem.mem_of_lookup h)))
 ·unfold L2.eW
  show _=N.length
  rw[List.length_append,List.length_map,List.length_replicate]
  omega
theorem zi {v:V}{a:Addr}(r:e9 v (.ref a)):v=.ref a:=by
 cases v with
 |ref b=>cases (show Value.ref a=Value.ref b from r);rfl
 |non=>cases (show Value.ref a=Value.none from r)
 |bl b=>cases (show Value.ref a=Value.bool b from r)
 |ty b=>cases (show Value.ref a=Value.type b from r)
 |_=>obtain⟨_,e⟩:=r;cases e
noncomputable def Out.res2:Out->Option (PR×ak)
 |.nx ρ=>some (.v .non,ρ)
 |.rt p ρ=>some (.v p,ρ)
 |.rn ps ρ=>some (.n ps,ρ)
 |_=>none
noncomputable def xc (n:Nat)(ts:List Sl):ak:=ts.map some++List.replicate (n - ts.length) none
noncomputable def Ent (c:Cn)(H:Hp)(h:Heap):List Sl->List Value->Prop
 |[],us=>us=[]
 |t::ts,us=>∃u r,us=u::r/\(match t with
  |.val p=>D c h p u
  |t=>∃a,u=.ref a/\SlOk c H h t (.ref a))/\Ent c H h ts r
theorem Ent.vs {c:Cn}{H:Hp}{h:Heap}:∀{ts:List Sl} {us:List Value},Ent c H h ts us->∃vs,Vals vs us/\vs.length=ts.length/\∀(i:Nat) t v,ts[i]?=some t->vs[i]?=some v->(∃u,e9 v u)/\SlOk c H h t v
 |[],us,e=>⟨[],by rw[show us=[] from e];exact .nil,rfl,fun i t v e=>by simp at e⟩
 |t::ts,us,⟨u,r,e,d,en⟩=>by
  obtain⟨vs,rv,hl,hd⟩:=Ent.vs en
  have one:∃v,e9 v u/\SlOk c H h t v:=by
   cases t with
   |val p=>obtain⟨v,ru,k⟩:=D1.v d;exact⟨v,ru,k⟩
   |own ps=>obtain⟨a,rfl,k⟩:=d;exact⟨.ref a,rfl,k⟩
   |dic ks ps=>obtain⟨a,rfl,k⟩:=d;exact⟨.ref a,rfl,k⟩
  obtain⟨v,ru,k⟩:=one
  subst e
  refine⟨v::vs,.cons ru rv,by simp[hl],fun i t' v' e1 e2=>?_⟩
  cases i with
  |zero=>cases e1;cases e2;exact⟨⟨u,ru⟩,k⟩
  |succ i=>exact hd i t' v' (by simpa using e1) (by simpa using e2)
theorem uE {n:Nat}{ts:List Sl}{i:Nat}{t:Sl}(e:(xc n ts)[i]?=some (some t)):ts[i]?=some t:=by
 unfold xc at e
 by_cases hi:i<ts.length
 ·rw[List.getElem?_append_left (by simpa using hi),List.getElem?_map] at e
  cases w:ts[i]? with
  |none=>rw[w] at e;cases e
  |some p=>rw[w] at e;cases e;rfl
 ·rw[List.getElem?_append_right (by simpa using hi),List.getElem?_replicate] at e
  split at e<;>cases e
theorem uS {P:Program}{w:World}{K:PySem.W.Frag}{mg:Str->Option Value}{base:Heap}{cm:Bool}{f:Addr}{name qual:Str}{params:Arguments}{body:List Stmt}{scope:Scope}{dV kV doc pm cdv ct oc:Value}{an od:Option Addr}
  {osl:Array (Option Value)} {N ps:List Str} {g:FS} (lk:K.lookup f=some ⟨oc,od,.func (PySem.W.fnOf name qual params body scope dV kV doc pm an cdv ct),osl⟩) (hcd:PySem.W.codeIn K cdv qual=true) (S:FnScope N ps scope)
  {A:Around} {outer:List Env} {s:Shared} {args:Args} {us:List Value} {ts:List Sl} {bad:Addr->Prop} {H:Hp} (hc:cm=true->A.handled=none) (hr:A.depth<recursionLimit) (e0:Env0 P w K mg base A outer s H) (hb:BindsTo s (PySem.W.fnOf name qual params body scope dV kV doc pm an cdv ct) args (ps.zip us))
  (hfr:∀b∈mv outer,bad b) (hth:∀b,bad b->∃o,s.heap.get? b=some o) (hbs:∀b o,base.get? b=some o->¬bad b) (hl:ts.length=ps.length) (en:Ent ⟨hU bad H,P,w,mg⟩ H s.heap ts us)
  (ho:∀(i:Nat) t,ts[i]?=some t->bt t=true->i=0) (hH:∀b o,H b=some o->o=au/\¬bad b/\us[0]?=some (.ref b)/\∃ob,s.heap.get? b=some ob/\ob.cls≠.type "tuple")
  (hbody:xt (Ee P w K mg base cm N qual scope f cdv A outer s H) body g) {pr:PR} {ρ':ak} (hres:(g (xc N.length ts)).res2=some (pr,ρ')) {R:Result->Shared->Prop}
  (hR:∀(bad':Addr->Prop) σ' H' u s',(∀b,bad b->bad' b)->(⟨bad',[],σ',H',ρ'⟩:Z (Ee P w K mg base cm N qual scope f cdv A outer s H)).ok s'->(match pr with
   |.v p=>D ⟨hU bad' H',P,w,mg⟩ s'.heap p u
   |.n ps=>∃a,u=.ref a/\s.heap.get? a=none/\ListAt ⟨hU bad' (cg H' a au),P,w,mg⟩ s'.heap a ps)->R (.ok (.ret u)) s'):codeAny (model P w) A (.call (.ref f) args) R s:=by
 obtain⟨vs,rv,hv,dv⟩:=en.vs
 have KX:K.In s.heap:=e0.mod.kin.keeps fun b o e=>(e0.bs b o e).1
 have lim:s.heap.NoLimit:=e0.mod.nolimit.keeps fun b o e=>(e0.bs b o e).1
 have hkind:∀y∈ps.zip us,scope.names.lookup y.1=some .local\/(scope.names.lookup y.1=some .cell/\((cellsFrom (s.heap.objs.size+1) scope.names []).lookup y.1).isSome=true):=fun ⟨n,v⟩ hy=>by
  rcases S.par n (List.of_mem_zip hy).1 with q|q
  ·exact .inl q
  ·exact .inr ⟨q,PySem.W.cellsFrom_some _ _ _ (.inl q)⟩
 refine codeAny_call_function hr (KX _ _ lk) rfl S.co S.gen rfl (PySem.W.codeRec_of KX hcd) (hb _ _ _ _ ?_)
 refine wpAny_newFunctionEnv_cells S.kind hkind fun env he s1 x=>?_
 subst he
 refine⟨lim.keeps x.toInCall.keep,codeAny_func ?_⟩
 have I:=sO (cm:=cm) (f:=f) (cd:=cdv) (qual:=qual) S hc e0 (by rw[hv,hl]) rv x
 let X:=Ee P w K mg base cm N qual scope f cdv A outer s H
 obtain⟨h1,tk,es1,hk⟩:=x.done
 let bad':Addr->Prop:=fun a=>bad a\/s.heap.get? a=none/\∃o,s1.heap.get? a=some o
 have npl:ps.length≤N.length:=by have:=congrArg List.length S.pre;rw[List.length_take] at this;omega
 let z:Z X:=⟨bad',[],L2.eW N vs,H,xc N.length ts⟩
 have own0':∀{i a},aD (L2.eW N vs) (xc N.length ts) i a->i=0/\H a=some au:=fun {i a} ⟨⟨t,e,o⟩,q⟩=>by
  have e1:=uE e
  have h0:=ho i t e1 o
  have hi:i<vs.length:=by rw[hv];exact (List.getElem?_eq_some_iff.mp e1).1
  obtain⟨_,d⟩:=dv i t vs[i] e1 (List.getElem?_eq_getElem hi)
  unfold L2.eW at q
  rw[List.getElem?_append_left (by simpa using hi),List.getElem?_map,List.getElem?_eq_getElem hi] at q
  have q':vs[i]=.ref a:=Option.some.inj (Option.some.inj q)
  rw[q'] at d
  cases t with
  |val p=>cases o
  |own ps=>obtain⟨b,e,r,_⟩:=d;cases e;exact⟨h0,r⟩
  |dic ks ps=>obtain⟨b,e,r,_⟩:=d;cases e;exact⟨h0,r⟩
 have nH:∀b o,H b=some o->¬bad' b:=fun b o e y=>y.elim (hH b o e).2.1 fun y=>by
  obtain⟨_,_,_,ob,q,_⟩:=hH b o e
  rw[y.1] at q;cases q
 have kp:Kp ⟨hU bad H,P,w,mg⟩ (aF X bad' H) s.heap s1.heap:=⟨rfl,rfl,rfl,fun a o q e=>by
  rw[es1]
  exact⟨⟨q.1,fun w=>w.elim q.2 fun w=>by rw[w.1] at e;cases e⟩,hk a o e⟩⟩
 have hz:z.ok s1:=by
  refine⟨I,?_,fun i t e=>?_,fun i j a o1 o2=>(own0' o1).1.trans (own0' o2).1.symm,fun i a o=>⟨nH a _ (own0' o).2,.inr fun y=>?_⟩,fun b o e=>(hH b o e).1,fun b o e=>(hH b o e).1,?_,fun y c e=>?_,fun b hb=>(Or.inl (hfr b hb):bad b\/_),fun b hb=>absurd (show b∈([]:List Addr) from hb) (by simp),fun b hb=>?_,fun b o e hb=>?_,fun a o e=>⟨nH a o e,?_⟩,fun _ a e=>?_⟩
  ·show (L2.eW N vs).length=(xc N.length ts).length
   unfold L2.eW xc;simp only[List.length_append,List.length_map,List.length_replicate];omega
  ·have ep:=uE e
   have hiv:i<vs.length:=by rw[hv];exact (List.getElem?_eq_some_iff.mp ep).1
   obtain⟨r1,r2⟩:=dv i t vs[i] ep (List.getElem?_eq_getElem hiv)
   refine⟨vs[i],?_,r1,SlOk.mono (c:=⟨hU bad H,P,w,mg⟩) (c':=aF X bad' H) kp (fun a o _ e=>by rw[es1];exact hk a o e) r2⟩
   show (L2.eW N vs)[i]?=_
   unfold L2.eW
   rw[List.getElem?_append_left (by simpa using hiv),List.getElem?_map,List.getElem?_eq_getElem hiv];rfl
  ·have y':H a=none:=y
   rw[(own0' o).2] at y';cases y'
  ·refine Or.inr ⟨Heap.get?_none_of_le (Nat.le_refl _),?_⟩
   obtain⟨o,_,_,e,_⟩:=x.toInCall.ns
   exact⟨o,e⟩
  ·refine Or.inr ⟨Heap.get?_none_of_le (Nat.le_of_lt (x.above y c (PySem.mem_of_lookup e))),?_⟩
   obtain⟨o,e,_⟩:=x.cell y c e
   exact⟨o,e⟩
  ·rcases hb with hb|hb
   ·obtain⟨o,e⟩:=hth b hb
    exact⟨o,by rw[es1];exact hk b o e⟩
   ·exact hb.2
  ·rcases hb with hb|hb
   ·exact hbs b o e hb
   ·have e':base.get? b=some o:=e
    rw[(e0.bs b o e').1] at hb;cases hb.1
  ·obtain⟨_,_,_,ob,q1,q2⟩:=hH a o e
   exact⟨ob,by rw[es1];exact hk a ob q1,q2⟩
  ·have e':H a≠none:=e
   cases q:H a with
   |none=>exact absurd q e'
   |some o=>
    obtain⟨_,_,q0,_⟩:=hH a o q
    obtain⟨u,ru,hu⟩:∃v,vs[0]?=some v/\v=.ref a:=by
     have:=rv.length
     cases rv with
     |nil=>simp at q0
     |cons r rr=>
      simp at q0;subst q0
      refine⟨_,rfl,?_⟩
      exact zi r
    subst hu
    show (L2.eW N vs)[0]?=_
    have hi:0<vs.length:=(List.getElem?_eq_some_iff.mp ru).1
    unfold L2.eW
    rw[List.getElem?_append_left (by simpa using hi),List.getElem?_map,ru];rfl
 have hnb:g z.ρ≠.bad:=fun q'=>by
  rw[show g (xc N.length ts)=.bad from q'] at hres;cases hres
 refine wpAny_mono (hbody z s1 (fun _ _=>False) hz hnb) (fun fl s' hs=>?_) fun e s' hs=>hs.elim
 have hs:z.sp s1 (g (xc N.length ts)) fl s':=hs
 generalize g (xc N.length ts)=o at hs hres
 cases o with
 |nx ρ=>cases hres;obtain⟨e,σ',H',ok,t⟩:=hs;subst e;exact hR bad' σ' H' .none s' (fun b=>.inl) ok rfl
 |rt p ρ=>cases hres;obtain⟨u,σ',H',e,ok,t,d⟩:=hs;subst e;exact hR bad' σ' H' u s' (fun b=>.inl) ok d
 |rn ps' ρ=>cases hres;obtain⟨a,σ',H',e,ok,t,n,nb,l⟩:=hs;subst e;exact hR bad' σ' H' _ s' (fun b=>.inl) ok ⟨a,rfl,n,l⟩
 |bk ρ=>cases hres
 |ct ρ=>cases hres
 |bad=>cases hres
theorem nN {c:Cn}{H:Hp}{h:Heap}:∀{qs:List PV} {us:List Value},Ds c h qs us->Ent c H h (qs.map Sl.val) us
 |[],_,e=>e
 |_::_,_,⟨u,r,e,d,t⟩=>⟨u,r,e,d,nN t⟩
theorem BR {n:Nat}{qs:List PV}:D0 n qs=xc n (qs.map Sl.val):=by unfold D0 xc;rw[List.map_map,List.length_map];rfl
theorem xO {o:Out}{r:PR}(h:o.res=some r):∃ρ,o.res2=some (r,ρ):=by
 cases o<;>cases h<;>exact⟨_,rfl⟩
theorem Hb {P:Program}{w:World}{K:PySem.W.Frag}{mg:Str->Option Value}{base:Heap}{cm:Bool}{k:Nat}{f:Addr}{name qual:Str}{params:Arguments}{body:List Stmt}{scope:Scope}{dV kV doc pm cdv ct oc:Value}{an od:Option Addr}
  {osl:Array (Option Value)} {N ps:List Str} {g:FS} (lk:K.lookup f=some ⟨oc,od,.func (PySem.W.fnOf name qual params body scope dV kV doc pm an cdv ct),osl⟩) (hcd:PySem.W.codeIn K cdv qual=true) (S:FnScope N ps scope)
  (hbody:∀(A:Around) (outer:List Env) (s:Shared),(cm=true->A.handled=none)->Rm k (A.deeper (envOfC qual scope s.heap.objs.size f cdv))->xt (Ee P w K mg base cm N qual scope f cdv A outer s h0) body g) :
  NF P w K mg base cm (k+1) f (PySem.W.fnOf name qual params body scope dV kV doc pm an cdv ct) ps (run ps.length N.length g):=by
 refine⟨fun qs r q=>?_,fun A outer s args us qs r bad hc hr e0 hb hfr hth hbs ds q=>?_⟩
 ·unfold run at q;split at q
  ·assumption
  ·cases q
 ·unfold run at q
  split at q
  ·next hl=>
   obtain⟨ρ',q2⟩:=xO q
   rw[BR] at q2
   refine uS (H:=h0) (ts:=qs.map .val) lk hcd S hc hr.depth e0 hb hfr hth hbs (by rw[List.length_map];exact hl) (nN ds) (fun i t e o=>?_) (fun b o e=>by cases e) (hbody A outer s hc (hr.deeper _)) q2 fun bad' σ' H' u s' hb' ok d=>?_
   ·rw[List.getElem?_map] at e
    obtain⟨p,_,rfl⟩:=Option.map_eq_some_iff.mp e
    cases o
   ·have b:=ok.I.base
    refine⟨u,rfl,ok.I.os,ok.I.bare,⟨b.keep,b.slot,fun b o _ n _=>rfl,b.there,fun b xs e=>(by cases e),fun b o u e=>(by cases e),fun b ps e=>(by cases e)⟩,?_⟩
    cases r with
    |v p=>exact D1.m (c:=⟨hU bad' H',P,w,mg⟩) (c':=⟨hU bad h0,P,w,mg⟩) d ⟨rfl,rfl,rfl,fun a o q e=>⟨⟨rfl,fun w=>q.2 (hb' a w)⟩,e⟩⟩
    |n ps'=>
     obtain⟨a,rfl,n,l⟩:=d
     refine⟨a,rfl,n,ListAt.mono (c:=⟨hU bad' (cg H' a au),P,w,mg⟩) (c':=⟨hU bad (cg h0 a au),P,w,mg⟩) ⟨rfl,rfl,rfl,fun b o q e=>⟨⟨?_,fun w=>q.2 (hb' b w)⟩,e⟩⟩ (fun _ e=>e) l⟩
     have q1:=q.1
     by_cases hb:b=a
     ·subst hb;rw[aS] at q1;cases q1
     ·rw[ax hb]
  ·cases q
end Dp
end
section
namespace Dp
open PySem PySem.Spec L2 PyProof.Rows
section
variable {X:Cx}{e:Expr}{es:List Expr}{fs:FA}{pos:Pos}
mutual
noncomputable def tf:PV->Bool
 |.tup ps=>Cp ps
 |p=>fZ p
noncomputable def Cp:List PV->Bool
 |[]=>true
 |p::ps=>tf p&&Cp ps
end
noncomputable def Jg:PR->Bool
 |.v p=>tf p
 |.n ps=>Cp ps
noncomputable def rm:PR->RV
 |.v p=>.fz p
 |.n ps=>.nw ps
noncomputable def nE (F:Fn)(o:Option (List PV))(rs:List RV):Option RV:=match o with
 |some ps=>(F ps).map rm
 |none=>(F (rs.map RV.pv)).bind fun r=>if Jg r=true then some (rm r) else none
noncomputable def ao (F:Fn)(fs:FA):FE:=fun ρ=>(fs ρ).bind fun rs=>nE F (rs.mapM RV.fr) rs
noncomputable def ze (F:Fn):FE:=fun _=>(F []).map rm
theorem JN {H:Hp}{fs:List Addr}{h h':Heap}(u:Un fs [] h0 h0 h h')(ho:∀b o,H b=some o->o=au):Un fs [] H H h h':=
 ⟨fun b o e _ f x=>u.keep b o e rfl f x,fun b o e _ f x=>u.slot b o e rfl f x,fun _ _ _ n _=>n,u.there,fun _ _ e=>e,fun _ _ _ e=>e,fun b ps e=>⟨#[],by rw[e];simp⟩⟩
theorem Dv {P:Program}{w:World}{mg:Str->Option Value}{ok:Addr->Prop}{ok':Addr->Prop}{h:Heap}(k:∀a o,ok a->h.get? a=some o->o.cls=.type "tuple"->ok' a):(∀{p:PV} {u:Value},tf p=true->D ⟨ok,P,w,mg⟩ h p u->D ⟨ok',P,w,mg⟩ h p u)/\∀{ps:List PV} {us:List Value},Cp ps=true->Ds ⟨ok,P,w,mg⟩ h ps us->Ds ⟨ok',P,w,mg⟩ h ps us:=by
 have a:(∀(p:PV),∀{u:Value},tf p=true->D ⟨ok,P,w,mg⟩ h p u->D ⟨ok',P,w,mg⟩ h p u):=fun p=>by
  induction p using PV.rec (motive_2:=fun ps=>∀{us:List Value},Cp ps=true->Ds ⟨ok,P,w,mg⟩ h ps us->Ds ⟨ok',P,w,mg⟩ h ps us) with
  |tup ps ih=>
   intro u t d
   obtain⟨a,its,rfl,o,⟨ob,e,c,r⟩,l,ds⟩:=d
   exact⟨a,its,rfl,k a ob o e c,⟨ob,e,c,r⟩,l,ih t ds⟩
  |nil=>assumption
  |cons p ps ihp ihs=>
   rename_i us t d
   obtain⟨u,r,e,d1,d2⟩:=d
   rw[Cp,Bool.and_eq_true] at t
   exact⟨u,r,e,ihp t.1 d1,ihs t.2 d2⟩
  |non=>intro u _ d;exact d
  |bl=>intro u _ d;exact d
  |int=>intro u _ d;exact d
  |str=>intro u _ d;exact d
  |ty=>intro u _ d;exact d
  |fn=>intro u _ d;exact d
  |_=>intro u t;cases t
 refine⟨fun {p u} t d=>a p t d,fun {ps}=>?_⟩
 induction ps with
 |nil=>intro us _ d;exact d
 |cons p ps ih=>
  intro us t d
  obtain⟨u,r,e,d1,d2⟩:=d
  rw[Cp,Bool.and_eq_true] at t
  exact⟨u,r,e,a p t.1 d1,ih t.2 d2⟩
theorem Z.ok.after {z:Z X}{s s':Shared}(hz:z.ok s)(os:s'.os=s.os)(g:AllBare s'.gens)(u:Un (mv X.stack) [] h0 h0 s.heap s'.heap):z.go s s':=by
 have hfr:∀b∈mv X.stack,z.bad b:=fun b hb=>by
  rcases List.mem_cons.mp (hz.I.stkSub b hb) with e|e
  ·rw[e];exact hz.loc
  ·exact hz.fs b e
 have hok:HOk X.prog X.w z.H s'.heap:=fun b o e=>by
  have e2:=hz.oh b o e
  subst e2
  obtain⟨ob,q⟩:=hz.stands e
  obtain⟨o',q'⟩:=u.there b ob q (by simp)
  exact⟨trivial,⟨o',q'⟩,fun _ _ _ _=>trivial⟩
 exact Z.ok.ext hz (hz.I.call' os (JN u hz.oh) hok g (fun b z=>absurd z (by simp))) ⟨fun a o n e=>u.keep a o e rfl (fun q=>n (hfr a q)) (by simp),fun a o e=>u.there a o e (by simp)⟩
theorem AD {cm:Bool}{k:Nat}{f:Addr}{fd:FuncData}{ps:List Str}{F:Fn}(n:NF X.prog X.w X.K X.mg X.base cm k f fd ps F)(hc:cm=true->X.calm=true)(hr:Rm k X.A)(hb:Binds X.K fd ps []){z:Z X}{s:Shared}(hz:z.ok s){bad:Addr->Prop}(hbd:∀a,z.bad a->bad a)(hbd2:∀a,bad a->z.bad a\/z.H a≠none){us:List Value}{qs:List PV}{r:PR}
  (ds:Ds ⟨hU bad h0,X.prog,X.w,X.mg⟩ s.heap qs us) (q:F qs=some r) {Q:Value->Shared->Prop} {E:Value->Shared->Prop} (h:∀u s',z.go s s'->(match r with
  |.v p=>D ⟨hU bad h0,X.prog,X.w,X.mg⟩ s'.heap p u
  |.n ps=>∃a,u=.ref a/\s.heap.get? a=none/\ListAt ⟨hU bad (cg h0 a au),X.prog,X.w,X.mg⟩ s'.heap a ps)->Q u s'):W X (call (.ref f) us) Q E s:=by
 have e0:=hz.I.env0
 have e1:Env0 X.prog X.w X.K X.mg X.base X.A X.stack s h0:=⟨e0.frames,e0.mod,fun b o e=>⟨(e0.bs b o e).1,rfl⟩,e0.bsz,e0.funs,fun _ _=>rfl,(fun b o e=>by cases e),e0.bare⟩
 have hl:(us++[]).length=ps.length:=by rw[List.append_nil,ds.length];exact n.len _ _ q
 have hfr:∀b∈mv X.stack,z.bad b:=fun b hb=>by
  rcases List.mem_cons.mp (hz.I.stkSub b hb) with e|e
  ·rw[e];exact hz.loc
  ·exact hz.fs b e
 refine wpAny_call (codeAny_mono (n.run X.A X.stack s ⟨us,[]⟩ us qs r bad (fun c=>hz.I.ok.hd (hc c)) hr e1 (by have:=hb s us hz.I.kIn hl;rwa [List.append_nil] at this) (fun b q=>hbd b (hfr b q)) (fun b q=>?_) (fun b o e q=>?_) ds q) fun res s' hq=>?_)
 ·rcases hbd2 b q with w|w
  ·exact hz.there b w
  ·cases e:z.H b with
   |none=>exact absurd e w
   |some o=>exact hz.stands e
 ·rcases hbd2 b q with w|w
  ·exact hz.bs b o e w
  ·exact w (hz.I.bs b o e).2
 ·obtain⟨u,rfl,os,bare,un,w⟩:=hq
  exact h u s' (Z.ok.after hz os bare un) w
theorem tM {cm:Bool}{k:Nat}{f:Addr}{fd:FuncData}{ps:List Str}{F:Fn}(n:NF X.prog X.w X.K X.mg X.base cm k f fd ps F)(hc:cm=true->X.calm=true)(hr:Rm k X.A)(hb:Binds X.K fd ps []){z:Z X}{s:Shared}{h00:Heap}(hz:z.ok s){us:List Value}{rs:List RV}{r:RV}{E:Value->Shared->Prop}(ds:RvsOk z h00 s.heap rs us)(q:nE F (rs.mapM RV.fr) rs=some r):W X (call (.ref f) us) (Z.post z s r) E s:=by
 cases em:rs.mapM RV.fr with
 |some qs=>
  rw[em] at q
  obtain⟨pr,e,rfl⟩:=Option.map_eq_some_iff.mp q
  refine AD n hc hr hb hz (bad:=fun a=>z.bad a\/z.H a≠none) (fun a h=>.inl h) (fun a h=>h) (Ds.mono (c:=z.cn) (c':=⟨hU (fun a=>z.bad a\/z.H a≠none) h0,X.prog,X.w,X.mg⟩) ⟨rfl,rfl,rfl,fun a o q e=>⟨⟨rfl,fun w=>w.elim q.2 fun w=>w q.1⟩,e⟩⟩ (ds.fr em)) e fun u s' g d=>⟨g,?_⟩
  have ok:∀{a:Addr},¬(z.bad a\/z.H a≠none)->hU z.bad z.H a:=fun {a} w=>⟨by
   cases e:z.H a with
   |none=>rfl
   |some o=>exact absurd (.inr (by rw[e];simp)) w,fun b=>w (.inl b)⟩
  cases pr with
  |v p=>exact D1.m (c:=⟨hU (fun a=>z.bad a\/z.H a≠none) h0,X.prog,X.w,X.mg⟩) (c':=z.cn) d ⟨rfl,rfl,rfl,fun a o q e=>⟨ok q.2,e⟩⟩
  |n ps=>
   obtain⟨a,rfl,n,l⟩:=d
   refine⟨a,rfl,n,hz.free n,ListAt.mono (c:=⟨hU (fun a=>z.bad a\/z.H a≠none) (cg h0 a au),X.prog,X.w,X.mg⟩) (c':=aF X z.bad (cg z.H a au)) ⟨rfl,rfl,rfl,fun b o q e=>⟨⟨?_,(ok q.2).2⟩,e⟩⟩ (fun _ e=>e) l⟩
   have q1:=q.1
   by_cases hb:b=a
   ·subst hb;rw[aS] at q1;cases q1
   ·rw[ax hb];exact (ok q.2).1
 |none=>
  rw[em] at q
  obtain⟨pr,e,q⟩:=Option.bind_eq_some_iff.mp q
  split at q
  ·next ht=>
   cases q
   have dd:Ds ⟨hU z.bad h0,X.prog,X.w,X.mg⟩ s.heap (rs.map RV.pv) us:=by
    clear em e q
    induction ds with
    |nil=>rfl
    |cons d _ ih=>
     refine .cons ?_ ih
     have v:=d.rv
     cases hl:Gb (RV.pv _) with
     |false=>exact D1.m (c:=z.cn) (c':=⟨hU z.bad h0,X.prog,X.w,X.mg⟩) (v.fz hl) ⟨rfl,rfl,rfl,fun a o q e=>⟨⟨rfl,q.2⟩,e⟩⟩
     |true=>
      refine D1.mono (top:=fun a=>¬z.bad a) (c:=z.cn) (c':=⟨hU z.bad h0,X.prog,X.w,X.mg⟩) ⟨rfl,rfl,rfl,fun a o q e=>⟨⟨rfl,q.2⟩,e⟩⟩ (fun a o q e=>⟨⟨rfl,q⟩,e⟩) ?_
      generalize RV.pv _=p at v hl
      cases p with
      |lst ps=>obtain⟨a,its,n,e1,_,r⟩:=v.rd;exact⟨a,its,n,e1,v.nb rfl a e1,r⟩
      |dct ks ps=>obtain⟨a,its,e1,_,r⟩:=v.rd;exact⟨a,its,e1,v.nb rfl a e1,r⟩
      |_=>cases hl
   refine AD n hc hr hb hz (bad:=z.bad) (fun a h=>h) (fun a h=>.inl h) dd e fun u s' g d=>⟨g,?_⟩
   have ok:∀a o,¬z.bad a->s'.heap.get? a=some o->o.cls=.type "tuple"->z.H a=none:=fun a o w e c=>by
    cases q:z.H a with
    |none=>rfl
    |some o'=>
     obtain⟨ob,r1,r2⟩:=(g.1.ot a o' q).2
     rw[e] at r1;cases r1
     exact absurd c r2
   cases pr with
   |v p=>exact (Dv fun a o q e c=>⟨ok a o q.2 e c,q.2⟩).1 ht d
   |n ps=>
    obtain⟨a,rfl,n,its,m,e1,l,t⟩:=d
    refine⟨a,rfl,n,hz.free n,its,m,e1,l,(Dv fun b o q e c=>⟨?_,q.2⟩).2 ht t⟩
    have q1:=q.1
    by_cases hb:b=a
    ·subst hb;rw[aS] at q1;cases q1
    ·rw[ax hb];exact ok b o q.2 e c
  ·cases q
structure DefN (P:Program)(w:World)(K:PySem.W.Frag)(mg:Str->Option Value)(base:Heap)(cm:Bool)(k:Nat)(x:Str)(F:Fn):Prop where
 ex:∃f fd ps,NF P w K mg base cm k f fd ps F/\Binds K fd ps []/\PySem.W.keepIn K (.ref f)=true/\mg x=some (.ref f)
theorem En {cm:Bool}{k j:Nat}{x:Str}{p:Pos}{F:Fn}(n:DefN X.prog X.w X.K X.mg X.base cm j x F)(hj:j≤k)(hc:cm=true->X.calm=true)(hr:Rm k X.A)(hg:Gl X x)(ha:NA X (e::es) fs)(hdb:(x==("__debug__" : Str))=false)
  (he:starEach (e::es) X.env=(false,eval e X.env)::starEach es X.env) (hpl:(backTo pos (starEach es X.env)).any (·.1)=false):NE X (.Call (.Name x p) (e::es) [] pos) (ao F fs):=fun z s r E hz q=>by
 obtain⟨f,fd,ps,n,hb,hk,hm⟩:=n.ex
 obtain⟨rs,er,q⟩:=Option.bind_eq_some_iff.mp q
 refine wpAny_Call_Name_kw (l4 hz.I hg hm ?_ hdb)
 refine PySem.W.callWith_K (h₀:=X.base) hz.I.ok.mod.kin hk (az (ha z pos s rs E hz er) fun us s1 ⟨g1,d1⟩=>⟨g1.1.I.kIn,?_⟩) he hpl
 exact az (tM (n.mono hj) hc hr hb g1.1 d1 q) fun u s2 q2=>g1.post q2
theorem B9 {cm:Bool}{k j:Nat}{x:Str}{p:Pos}{F:Fn}(n:DefN X.prog X.w X.K X.mg X.base cm j x F)(hj:j≤k)(hc:cm=true->X.calm=true)(hr:Rm k X.A)(hg:Gl X x)(hdb:(x==("__debug__" : Str))=false):NE X (.Call (.Name x p) [] [] pos) (ze F):=fun z s r E hz q=>by
 obtain⟨f,fd,ps,n,hb,hk,hm⟩:=n.ex
 obtain⟨pr,er,rfl⟩:=Option.map_eq_some_iff.mp q
 refine wpAny_Call_Name_kw (l4 hz.I hg hm ?_ hdb)
 exact PySem.W.callWith_K0 hz.I.kIn hk (tM (rs:=[]) (h00:=s.heap) (us:=[]) (n.mono hj) hc hr hb hz .nil (show (F []).map rm=_ by rw[er];rfl))
structure Nm (X:Cx)(i:Nat)(x:Str):Prop where
 nd:X.N.Nodup
 ix:X.N[i]?=some x
 loc:Ky X.env.scope x
 fn:X.fn x=true\/X.env.scope.names.lookup x=some .local
 an:X.fn "" = true->(∃a,X.H₀ a≠none)->i≠0
theorem fG {σ:L2.St}{ρ:ak}{i j:Nat}{a:Addr}{v:V}{p:PV}(o:aD (σ.set i (some v)) (ρ.set i (some (.val p))) j a):aD σ ρ j a:=by
 obtain⟨⟨t,e,ot⟩,q⟩:=o
 by_cases hj:i=j
 ·subst hj
  rw[List.getElem?_set] at e
  simp only[if_true] at e
  split at e
  ·cases e;cases ot
  ·cases e
 ·rw[List.getElem?_set_ne hj] at e q
  exact⟨⟨t,e,ot⟩,q⟩
noncomputable def Z.tv (z:Z X)(s:Shared)(ρ:ak)(s':Shared):Prop:=∃σ',(z.wi σ' z.H ρ).ok s'/\Ext z.bad s.heap s'.heap
theorem Z.tv.to {z:Z X}{s s':Shared}{ρ:ak}:z.tv s ρ s'->z.to s ρ s'
 |⟨σ',ok,e⟩=>⟨σ',z.H,ok,e.stp⟩
theorem Z.ok.stored {z:Z X}{s s':Shared}(hz:z.ok s){i:Nat}(an:X.fn "" = true->(∃a,X.H₀ a≠none)->i≠0){p:PV}{u:Value}{v:V}(hi:i<z.σ.length)(d:D z.cn s.heap p u)(ru:e9 v u)(rv:∀u',e9 v u'->D z.cn s.heap p u')(I':Inv X z.pins (z.σ.set i (some v)) z.H s')(e:Ext z.bad s.heap s'.heap):z.tv s (z.ρ.set i (some (.val p))) s':=by
 have hi2:i<z.ρ.length:=by rw[←hz.len];exact hi
 refine⟨z.σ.set i (some v),⟨I',by simp[hz.len],fun j t q=>?_,fun j k a o1 o2=>hz.dj j k a (fG o1) (fG o2),fun j a o=>hz.nb j a (fG o),hz.oh,hz.oh0,hz.loc,hz.cel,hz.fs,hz.ex,fun b q=>let ⟨o,r⟩:=hz.there b q;e.th b o r,hz.bs,fun a o q=>⟨(hz.ot a o q).1,let ⟨ob,r1,r2⟩:=(hz.ot a o q).2;⟨ob,e.kp a ob (hz.ot a o q).1 r1,r2⟩⟩,fun hf a ha=>(List.getElem?_set_ne (an hf ⟨a,ha⟩)).trans (hz.anc hf a ha)⟩,e⟩
 by_cases hj:i=j
 ·subst hj
  have q:(z.ρ.set i (some (.val p)))[i]?=some (some t):=q
  rw[List.getElem?_set_self hi2] at q
  cases q
  exact⟨v,List.getElem?_set_self hi,⟨u,ru⟩,fun u' r=>(rv u' r).m e.kpD⟩
 ·have q:(z.ρ.set i (some (.val p)))[j]?=some (some t):=q
  rw[List.getElem?_set_ne hj] at q
  obtain⟨w,e1,r,d⟩:=hz.slk j t q
  exact⟨w,by rw[show (z.wi (z.σ.set i (some v)) z.H (z.ρ.set i (some (.val p)))).σ=z.σ.set i (some v) from rfl,List.getElem?_set_ne hj];exact e1,r,d.step hz e q e1⟩
theorem jL {z:Z X}{s s':Shared}{x:Str}{a:Addr}(hz:z.ok s){σ':L2.St}{H':Hp}(I':Inv X z.pins σ' H' s')(sb:Heap.SameBut a s.heap s'.heap)(ha:a=X.env.locals\/X.env.cells.lookup x=some a):Ext z.bad s.heap s'.heap:=by
 have hb:z.bad a:=by
  rcases ha with e|e
  ·rw[e];exact hz.loc
  ·exact hz.cel x a e
 refine⟨fun b o n e=>(sb.2 b (fun q=>n (q▸hb))).trans e,fun b o e=>?_⟩
 by_cases hba:b=a
 ·subst hba
  rcases ha with q|q
  ·obtain⟨m,⟨o',_,_,e',_⟩,_⟩:=I'.loc;exact⟨o',by rw[q];exact e'⟩
  ·obtain⟨v,o',e',_⟩:=I'.cell x b q;exact⟨o',e'⟩
 ·exact⟨o,(sb.2 b hba).trans e⟩
theorem d9 {z:Z X}{s:Shared}(hz:z.ok s){i:Nat}{x:Str}(nm:Nm X i x){p:PV}{u:Value}(d:D z.cn s.heap p u){E:Value->Shared->Prop} :
  W X (storeName X.env x u) (fun _ s'=>z.tv s (z.ρ.set i (some (.val p))) s') E s:=by
 obtain⟨v,ru,rv⟩:=d.v
 refine iR hz.I nm.nd nm.ix nm.loc ru (fun s' I' ⟨a,sb,ha⟩=>?_) nm.fn
 exact Z.ok.stored hz nm.an (by rw[hz.I.len];exact (List.getElem?_eq_some_iff.mp nm.ix).1) d ru rv I' (jL hz I' sb ha)
theorem Inv.track {pins:List (Addr×Obj)}{σ:L2.St}{H:Hp}{s:Shared}{a:Addr}{ob:Obj}(I:Inv X pins σ H s)(hn:H a=none)(ho:s.heap.get? a=some ob)(h00:X.s₀.heap.get? a=none)(hL:a≠X.env.locals)(hC:∀x c,X.env.cells.lookup x=some c->c≠a)(hp:∀p∈X.pn++pins,p.1≠a):Inv X pins σ (cg H a au) s:=by
 have ne:∀b o,H b=some o->b≠a:=fun b o e z=>by subst z;rw[hn] at e;cases e
 refine⟨I.ok,I.os,I.bare,⟨I.base.keep,I.base.slot,fun b o e n hx=>?_,I.base.there,fun b xs e=>?_,fun b o u e=>?_,fun b ps e=>?_⟩,I.loc,I.cell,?_,fun x c e=>?_,fun p q=>?_,fun b o e=>?_,I.len⟩
 ·rw[ax (fun z=>by subst z;rw[h00] at e;cases e)];exact I.base.free b o e n hx
 ·have:=I.base.tups b xs e;rw[ax (ne b _ this)];exact this
 ·have:=I.base.frzs b o u e;rw[ax (ne b _ this)];exact this
 ·obtain⟨m,this⟩:=I.base.tbls b ps e;exact⟨m,by rw[ax (ne b _ this)];exact this⟩
 ·rw[ax (Ne.symm hL)];exact I.free
 ·rw[ax (hC x c e)];exact I.freeC x c e
 ·obtain⟨q1,q2,q3⟩:=I.pin p q;exact⟨q1,by rw[ax (hp p q)];exact q2,q3⟩
 ·by_cases hb:b=a
  ·subst hb;rw[aS] at e;cases e;exact⟨trivial,⟨ob,ho⟩,fun _ _ _ _=>trivial⟩
  ·rw[ax hb] at e
   exact (I.hok b o e).stay (fun _ _ _ q=>q) (fun c q=>by rw[ax (ne c _ q)];exact q) fun c xs q=>by rw[ax (ne c _ q)];exact q
noncomputable def om (H:Hp)(a:Addr):Hp:=fun b=>if b=a then none else H b
theorem eU {H:Hp}{a:Addr}:om H a a=none:=by unfold om;rw[if_pos rfl]
theorem cD {H:Hp}{a b:Addr}(h:b≠a):om H a b=H b:=by unfold om;rw[if_neg h]
theorem dR {H:Hp}{a b:Addr}(h:H b=none):om H a b=none:=by unfold om;split<;>trivial
theorem Inv.untrack {pins:List (Addr×Obj)}{σ:L2.St}{H:Hp}{s:Shared}{a:Addr}(I:Inv X pins σ H s)(ha:H a=some au):Inv X pins σ (om H a) s:=by
 have ne:∀b o,H b=some o->o≠au->b≠a:=fun b o e n z=>by subst z;rw[ha] at e;cases e;exact n rfl
 refine⟨I.ok,I.os,I.bare,⟨I.base.keep,I.base.slot,fun b o e n hx=>dR (I.base.free b o e n hx),I.base.there,fun b xs e=>?_,fun b o u e=>?_,fun b ps e=>?_⟩,I.loc,I.cell,dR I.free,fun x c e=>dR (I.freeC x c e),fun p q=>?_,fun b o e=>?_,I.len⟩
 ·have:=I.base.tups b xs e;rw[cD (ne b _ this fun q=>nomatch q)];exact this
 ·have:=I.base.frzs b o u e;rw[cD (ne b _ this fun q=>nomatch q)];exact this
 ·obtain⟨m,this⟩:=I.base.tbls b ps e;exact⟨m,by rw[cD (ne b _ this fun q=>nomatch q)];exact this⟩
 ·obtain⟨q1,q2,q3⟩:=I.pin p q;exact⟨q1,dR q2,q3⟩
 ·by_cases hb:b=a
  ·subst hb;rw[eU] at e;cases e
  ·rw[cD hb] at e
   exact (I.hok b o e).stay (fun _ _ _ q=>q) (fun c q=>by rw[cD (ne c _ q fun q=>nomatch q)];exact q) fun c xs q=>by rw[cD (ne c _ q fun q=>nomatch q)];exact q
theorem pB {z:Z X}{s1:Shared}(hz:z.ok s1){i:Nat}{x:Str}(nm:Nm X i x){t:Sl}(ht:bt t=true){a:Addr}(fr:hU z.bad z.H a)(h00:X.s₀.heap.get? a=none)(hp:∀p∈X.pn++z.pins,p.1≠a)
  (nt:∃ob,s1.heap.get? a=some ob/\ob.cls≠.type "tuple") (d:SlOk (aF X z.bad (cg z.H a au)) (cg z.H a au) s1.heap t (.ref a)) (sk:∀(j:Nat) t v,z.ρ[j]?=some (some t)->z.σ[j]?=some (some v)->SlOk (aF X z.bad (cg z.H a au)) z.H s1.heap t v) {E:Value->Shared->Prop} :
  W X (storeName X.env x (.ref a)) (fun _ s'=>∃σ',(z.wi σ' (cg z.H a au) (z.ρ.set i (some t))).ok s'/\Ext z.bad s1.heap s'.heap) E s1:=by
 obtain⟨ob,ho,hcl⟩:=nt
 have hnb:=fr.2
 have I1:Inv X z.pins z.σ (cg z.H a au) s1:=Inv.track hz.I fr.1 ho h00 (fun q=>hnb (q▸hz.loc)) (fun y c e q=>hnb (q▸hz.cel y c e)) hp
 refine iR I1 nm.nd nm.ix nm.loc (v:=.ref a) rfl (fun s' I' ⟨b,sb,hb⟩=>?_) nm.fn
 have e:Ext z.bad s1.heap s'.heap:=jL (z:=z) hz I' sb hb
 have hil:i<z.σ.length:=by rw[hz.I.len];exact (List.getElem?_eq_some_iff.mp nm.ix).1
 have hil2:i<z.ρ.length:=by rw[←hz.len];exact hil
 have hnf:∀j,¬aD z.σ z.ρ j a:=fun j o=>by
  obtain⟨⟨t',e1,ot⟩,q⟩:=o
  obtain⟨v,e2,_,d2⟩:=hz.slk j t' e1
  rw[q] at e2;cases e2
  have:z.H a=some au:=by
   cases t' with
   |val p=>cases ot
   |own ps=>obtain⟨b,e3,h,_⟩:=d2;cases e3;exact h
   |dic ks ps=>obtain⟨b,e3,h,_⟩:=d2;cases e3;exact h
  rw[fr.1] at this;cases this
 have oset:∀{j b},aD (z.σ.set i (some (.ref a))) (z.ρ.set i (some t)) j b->(j=i/\b=a)\/(j≠i/\aD z.σ z.ρ j b):=fun {j b} o=>by
  obtain⟨⟨t',e1,ot⟩,q⟩:=o
  by_cases hj:i=j
  ·subst hj
   rw[List.getElem?_set_self hil] at q;cases q
   exact .inl ⟨rfl,rfl⟩
  ·rw[List.getElem?_set_ne hj] at e1 q
   exact .inr ⟨Ne.symm hj,⟨t',e1,ot⟩,q⟩
 have hne:∀{b},z.H b=some au->b≠a:=fun {b} hb y=>by subst y;rw[fr.1] at hb;cases hb
 refine⟨z.σ.set i (some (.ref a)),⟨I',by simp[hz.len],fun j t' q=>?_,fun j k b o1 o2=>?_,fun j b o=>?_,fun b o q=>?_,hz.oh0,hz.loc,hz.cel,hz.fs,hz.ex,fun b q=>let ⟨o,r⟩:=hz.there b q;e.th b o r,hz.bs,fun b o q=>?_,fun hf b hb=>(List.getElem?_set_ne (nm.an hf ⟨b,hb⟩)).trans (hz.anc hf b hb)⟩,e⟩
 ·by_cases hj:i=j
  ·subst hj
   have q:(z.ρ.set i (some t))[i]?=some (some t'):=q
   rw[List.getElem?_set_self hil2] at q
   cases q
   refine⟨.ref a,List.getElem?_set_self hil,⟨.ref a,rfl⟩,?_⟩
   refine SlOk.mono (c:=aF X z.bad (cg z.H a au)) (c':=aF X z.bad (cg z.H a au)) e.kpD (fun b o hb w=>?_) d
   by_cases hba:b=a
   ·subst hba;exact e.kp b o hnb w
   ·have hb:cg z.H a au b=some au:=hb
    rw[ax hba] at hb;exact e.kp b o (hz.ot b _ hb).1 w
  ·have q:(z.ρ.set i (some t))[j]?=some (some t'):=q
   rw[List.getElem?_set_ne hj] at q
   obtain⟨w,e1,r,_⟩:=hz.slk j t' q
   refine⟨w,by rw[show (z.wi (z.σ.set i (some (.ref a))) (cg z.H a au) (z.ρ.set i (some t))).σ=z.σ.set i (some (.ref a)) from rfl,List.getElem?_set_ne hj];exact e1,r,?_⟩
   have d:=SlOk.mono (c':=aF X z.bad (cg z.H a au)) e.kpD (fun b o hb w=>e.kp b o (hz.ot b _ hb).1 w) (sk j t' w q e1)
   cases t' with
   |val p=>exact d
   |own ps=>obtain⟨b,rfl,hb,l⟩:=d;exact⟨b,rfl,(ax (hne hb)).trans hb,l⟩
   |dic ks ps=>obtain⟨b,rfl,hb,l⟩:=d;exact⟨b,rfl,(ax (hne hb)).trans hb,l⟩
 ·rcases oset o1 with ⟨e1,e2⟩|⟨e1,e2⟩<;>rcases oset o2 with ⟨f1,f2⟩|⟨f1,f2⟩
  ·rw[e1,f1]
  ·subst e2;exact absurd f2 (hnf k)
  ·subst f2;exact absurd e2 (hnf j)
  ·exact hz.dj j k b e2 f2
 ·rcases oset o with ⟨e1,e2⟩|⟨e1,e2⟩
  ·subst e2;exact⟨hnb,.inl h00⟩
  ·exact hz.nb j b e2
 ·by_cases hba:b=a
  ·subst hba
   have q:cg z.H b au b=some o:=q
   rw[aS] at q;cases q;rfl
  ·have q:cg z.H a au b=some o:=q
   rw[ax hba] at q;exact hz.oh b o q
 ·by_cases hba:b=a
  ·subst hba;exact⟨hnb,ob,e.kp b ob hnb ho,hcl⟩
  ·have q:cg z.H a au b=some o:=q
   rw[ax hba] at q
   obtain⟨r0,ob',r1,r2⟩:=hz.ot b o q
   exact⟨r0,ob',e.kp b ob' r0 r1,r2⟩
theorem Z.ok.sk {z:Z X}{s:Shared}(hz:z.ok s){bad':Addr->Prop}{h':Heap}{a:Addr}(n:s.heap.get? a=none)(e:Ext z.bad s.heap h')(nb:∀b,bad' b->z.bad b\/s.heap.get? b=none)(j:Nat)(t:Sl)(v:V)(e1:z.ρ[j]?=some (some t))(e2:z.σ[j]?=some (some v)):SlOk (aF X bad' (cg z.H a au)) z.H h' t v:=by
 obtain⟨w,e3,_,d⟩:=hz.slk j t e1
 rw[e2] at e3;cases e3
 exact SlOk.mono (c:=z.cn) (c':=aF X bad' (cg z.H a au)) ⟨rfl,rfl,rfl,fun b o q g=>⟨⟨by rw[ax (fun y=>by subst y;rw[n] at g;cases g)];exact q.1,fun y=>(nb b y).elim q.2 fun y=>by rw[y] at g;cases g⟩,e.kp b o q.2 g⟩⟩ (fun b o hb w=>e.kp b o (hz.ot b _ hb).1 w) d
theorem Stp.new {bad:Addr->Prop}{H:Hp}{h h':Heap}{a:Addr}(e:Ext bad h h')(n:h.get? a=none):Stp bad H (cg H a au) h h':=
 ⟨fun b o nb hn hb=>⟨e.kp b o nb hb,by rw[ax (fun y=>by subst y;rw[n] at hb;cases hb)];exact hn⟩,e.th⟩
theorem zu {z:Z X}{s s1:Shared}(hz:z.ok s)(g:z.go s s1){i:Nat}{x:Str}(nm:Nm X i x){t:Sl}(ht:bt t=true){a:Addr}(n:s.heap.get? a=none)(nt:∃ob,s1.heap.get? a=some ob/\ob.cls≠.type "tuple")(d:SlOk (aF X z.bad (cg z.H a au)) (cg z.H a au) s1.heap t (.ref a)){E:Value->Shared->Prop} :
  W X (storeName X.env x (.ref a)) (fun _ s'=>z.to s (z.ρ.set i (some t)) s') E s1:=
 az (pB g.1 nm ht (hz.free n) (df hz n) (fun p hp q=>by have:=(hz.I.pin p hp).1;rw[q,n] at this;cases this) nt d (hz.sk n g.2 fun b=>.inl)) fun _ s' ⟨σ',ok,e⟩=>⟨σ',_,ok,Stp.new (g.2.trans e) n⟩
end
end Dp
end
section
namespace Dp
open PySem PySem.Spec L2 PyProof.Rows
section
variable {X:Cx}{e:Expr}{f:FE}{es:List Expr}{fs:FA}{pos:Pos}{i:Nat}{x:Str}
noncomputable def Bu (o:Option PV)(i:Nat)(ρ:ak):Out:=match o with
 |some p=>.nx (ρ.set i (some (.val p)))
 |none=>.bad
noncomputable def aA (i:Nat)(f:FE):FS:=fun ρ=>Bu ((f ρ).bind RV.fr) i ρ
theorem Z.go.tv {z:Z X}{s s1 s2:Shared}{ρ:ak}(g:z.go s s1)(h:z.tv s1 ρ s2):z.tv s ρ s2:=let ⟨σ',ok,e⟩:=h;⟨σ',ok,g.2.trans e⟩
theorem Ie {p':Pos}(n:Nm X i x)(h:NE X e f)(hs:swapsWith e (some (.Name x p')) pos.line X.env=pure false):NS X (.Assign [.Name x p'] e pos) (aA i f):=fun z s E hz hb=>by
 unfold aA Bu at hb ⊢
 split at hb
 ·next p ep=>
  obtain⟨r,er,ep⟩:=Option.bind_eq_some_iff.mp ep
  exact wpAny_Assign_Name (az (h z s r E hz er) fun u s1 q=>az (d9 q.1.1 n (q.2.fr ep)) fun _ s2 w=>⟨rfl,(q.1.tv w).to⟩) hs
 ·exact absurd rfl hb
noncomputable def Cf (o:Option RV)(i:Nat)(ρ:ak):Out:=match o with
 |some (.fz p)=>.nx (ρ.set i (some (.val p)))
 |some (.nw ps)=>.nx (ρ.set i (some (.own ps)))
 |_=>.bad
noncomputable def gK (i:Nat)(f:FE):FS:=fun ρ=>Cf (f ρ) i ρ
theorem jU {h:Heap}{a:Addr}{c:Cn}{ps:List PV}:ListAt c h a ps->∃ob,h.get? a=some ob/\ob.cls≠.type "tuple"
 |⟨its,n,e,_⟩=>⟨_,e,by intro q;exact absurd (Value.type.inj q) (by decide)⟩
theorem IE {p':Pos}(n:Nm X i x)(h:NE X e f)(hs:swapsWith e (some (.Name x p')) pos.line X.env=pure false):NS X (.Assign [.Name x p'] e pos) (gK i f):=fun z s E hz hb=>by
 unfold gK Cf at hb ⊢
 split at hb
 ·next p er=>exact wpAny_Assign_Name (az (h z s _ E hz er) fun u s1 q=>az (d9 q.1.1 n q.2) fun _ s2 w=>⟨rfl,(q.1.tv w).to⟩) hs
 ·next ps er=>exact wpAny_Assign_Name (az (h z s _ E hz er) fun u s1 q=>by
   obtain⟨g,a,rfl,nn,o,l⟩:=q
   exact az (zu hz g n (t:=.own ps) rfl nn (jU l) ⟨a,rfl,aS,l⟩) fun _ s2 w=>⟨rfl,w⟩) hs
 ·exact absurd rfl hb
noncomputable abbrev FT:=PV->ak->Option ak
noncomputable abbrev xr:=List PV->ak->Option ak
noncomputable def NG (X:Cx)(tg:Expr)(t:FT):Prop:=∀(z:Z X) s p u ρ E,z.ok s->D z.cn s.heap p u->t p z.ρ=some ρ->W X (assign tg X.env u) (fun _ s'=>z.tv s ρ s') E s
noncomputable def Ia (X:Cx)(tgs:List Expr)(t:xr):Prop:=∀(z:Z X) s ps us ρ E,z.ok s->Ds z.cn s.heap ps us->t ps z.ρ=some ρ->W X (assignInOrder ((assignEach tgs X.env).map (·.2)) us) (fun _ s'=>z.tv s ρ s') E s
noncomputable def gN (i:Nat):FT:=fun p ρ=>some (ρ.set i (some (.val p)))
noncomputable def g0:xr:=fun ps ρ=>match ps with
 |[]=>some ρ
 |_=>none
noncomputable def gC (t:FT)(ts:xr):xr:=fun ps ρ=>match ps with
 |p::ps=>(t p ρ).bind fun ρ'=>ts ps ρ'
 |[]=>none
noncomputable def hV (n:Nat)(ts:xr):FT:=fun p ρ=>match p with
 |.tup ps=>if ps.length=n then ts ps ρ else none
 |_=>none
theorem Jp (n:Nm X i x):NG X (.Name x pos) (gN i):=fun z s p u ρ E hz d q=>by
 cases q;exact wpAny_assign_Name (d9 hz n d)
theorem Z.tv.trans {z:Z X}{s s1 s2:Shared}{ρ1 ρ2:ak}{σ1:L2.St}(e:Ext z.bad s.heap s1.heap)(h:(z.wi σ1 z.H ρ1).tv s1 ρ2 s2):z.tv s ρ2 s2:=let ⟨σ',ok,e'⟩:=h;⟨σ',ok,e.trans e'⟩
theorem KL:Ia X [] g0:=fun z s ps us ρ E hz d q=>by
 cases ps with
 |nil=>cases q;rw[show us=[] from d];exact assignInOrder_nil ⟨z.σ,hz,.refl⟩
 |cons=>cases q
theorem KO {t:FT}{ts:xr}(h1:NG X e t)(h2:Ia X es ts)(hs:(assignEach (e::es) X.env).map (·.2)=assign e X.env::(assignEach es X.env).map (·.2)):Ia X (e::es) (gC t ts):=fun z s ps us ρ E hz d q=>by
 cases ps with
 |nil=>cases q
 |cons p ps=>
  obtain⟨u,r,rfl,d1,d2⟩:=d
  obtain⟨ρ1,e1,e2⟩:=Option.bind_eq_some_iff.mp q
  rw[hs]
  refine assignInOrder_cons (az (h1 z s p u ρ1 E hz d1 e1) fun _ s1 ⟨σ1,ok,x1⟩=>?_)
  exact az (h2 (z.wi σ1 z.H ρ1) s1 ps r ρ E ok (d2.mono x1.kpD) e2) fun _ s2 w=>Z.tv.trans x1 w
theorem KY {k n:Nat}{ts:xr}(hc:X.calm=true)(h:Ia X es ts)(hn:(assignEach es X.env).length=n)(hst:(assignEach es X.env).findIdx? (·.1)=none):NG X (.Tuple es k pos) (hV n ts):=fun z s p u ρ E hz d q=>by
 unfold hV at q
 split at q
 ·next ps=>
  split at q
  ·next hl=>
   obtain⟨a,its,rfl,o,ht,zl,ds⟩:=d
   refine assign_Tuple_tuple (hz.I.ok.hd hc) ht (by simp[hn,←hl,ds.length]) hst fun h' hx=>?_
   have g:z.go s { s with heap:=h' }:=hz.kept (t:=s.toks) fun b o e=>hx b o (Nat.ne_of_lt (Heap.lt_size e)) e
   exact az (h z _ ps its ρ E g.1 (ds.mono g.2.kpD) q) fun _ s2 w=>g.tv w
  ·cases q
 ·cases q
noncomputable def C0 (o:Option ak):Out:=match o with
 |some ρ=>.nx ρ
 |none=>.bad
noncomputable def Ba (o:Option PV)(t:FT)(ρ:ak):Out:=match o with
 |some p=>C0 (t p ρ)
 |none=>.bad
noncomputable def dQ (f:FE)(t:FT):FS:=fun ρ=>Ba ((f ρ).bind RV.fr) t ρ
theorem IS {tg:Expr}{t:FT}(h:NE X e f)(hg:NG X tg t)(hs:swapsWithSole [tg] e pos.line X.env=pure false)(hw:swappedStores [tg] e X.env=pure none)
  (h1:(assignEach [tg] X.env).map (·.2)=[assign tg X.env]):NS X (.Assign [tg] e pos) (dQ f t):=fun z s E hz hb=>by
 unfold dQ Ba C0 at hb ⊢
 split at hb
 ·next p ep=>
  split at hb
  ·next ρ et=>
   obtain⟨r,er,ep⟩:=Option.bind_eq_some_iff.mp ep
   refine wpAny_Assign_stores (az (h z s r E hz er) fun u s1 q=>?_) hs hw
   rw[h1]
   exact az (hg z s1 p u ρ E q.1.1 (q.2.fr ep) et) fun _ s2 w=>⟨rfl,(q.1.tv w).to⟩
  ·exact absurd rfl hb
 ·exact absurd rfl hb
noncomputable def BH (o:Option (List PV))(i j:Nat)(ρ:ak):Out:=match o with
 |some [p,q]=>.nx ((ρ.set i (some (.val p))).set j (some (.val q)))
 |_=>.bad
noncomputable def oF (i j:Nat)(fs:FA):FS:=fun ρ=>BH ((fs ρ).bind fun rs=>rs.mapM RV.fr) i j ρ
theorem GG {j:Nat}{y:Str}{a b:Expr}{px py pt:Pos}{kt k2 pt2}(hc:X.calm=true)(n1:Nm X i x)(n2:Nm X j y)(hij:i≠j)(hx:X.env.scope.names.lookup x=some .local)(hy:X.env.scope.names.lookup y=some .local)(ha:NA X [a,b] fs)
  (hw:swappedStores [.Tuple [.Name x px,.Name y py] kt pt] (.Tuple [a,b] k2 pt2) X.env=pure (some [x,y]))
  (hs:swapsWithSole [.Tuple [.Name x px,.Name y py] kt pt] (.Tuple [a,b] k2 pt2) pos.line X.env=pure false) :
  NS X (.Assign [.Tuple [.Name x px,.Name y py] kt pt] (.Tuple [a,b] k2 pt2) pos) (oF i j fs):=fun z s E hz hb=>by
 unfold oF BH at hb ⊢
 split at hb
 ·next p q epq=>
  obtain⟨rs,er,epq⟩:=Option.bind_eq_some_iff.mp epq
  rw[exec_Assign_arm]
  refine wpAny_bind (wpAny_standAt ?_)
  rw[hs]
  refine wpAny_bind (wpAny_pure ?_)
  rw[if_neg (by decide)]
  refine wpAny_bind (Tuple_ (az (ha z _ s rs E hz er) fun us s1 ⟨g1,d1⟩=>?_))
  obtain⟨u1,r1,rfl,dp,u2,r2,rfl,dq,e3⟩:=d1.fr epq
  cases (show r2=[] from e3)
  refine wpAny_newObj_type ?_ (by show 2≤sizeLine;decide)
  have g2:=g1.1.push { cls:=.type "tuple",data:=.seq [u1,u2].toArray } s1.toks
  rw[hw]
  refine wpAny_bind (wpAny_pure ?_)
  show W X (do rule "assign.swapped-stores";let items ←unpackItems (.ref s1.heap.objs.size) 2 none;assignInOrder [fun v=>bindName X.env y v,fun v=>bindName X.env x v] items.reverse;pure Flow.next) _ _ _
  refine wpAny_bind (wpAny_rule (wpAny_bind (unpackItems_tuple (items:=#[u1,u2]) (hz.I.ok.hd hc) (IsTup.new s1.heap _) fun h' hx'=>?_)))
  have g3:z.go _ { s1 with heap:=h' }:=g2.1.kept (t:=s1.toks) fun b o e=>hx' b o (Nat.ne_of_lt (Heap.lt_size e)) e
  have ge:=g2.2.trans g3.2
  show wpAny _ _ (assignInOrder [fun v=>bindName X.env y v,fun v=>bindName X.env x v] [u2,u1] >>= fun _=>pure Flow.next) _ _ _
  refine wpAny_bind (assignInOrder_cons (wpAny_bindName (az (d9 (p:=q) g3.1 n2 (dq.m ge.kpD)) fun _ s2 ⟨σ1,ok1,x1⟩=>?_)))
  refine assignInOrder_cons (wpAny_bindName (az (d9 (p:=p) ok1 n1 (dp.m (ge.trans x1).kpD)) fun _ s3 ⟨σ2,ok2,x2⟩=>assignInOrder_nil (wpAny_pure ?_)))
  refine⟨rfl,σ2,z.H,?_,(g1.2.trans (ge.trans (x1.trans x2))).stp⟩
  have ec:(z.ρ.set i (some (Sl.val p))).set j (some (Sl.val q))=(z.ρ.set j (some (Sl.val q))).set i (some (Sl.val p)):=List.set_comm _ _ hij
  rw[ec]
  exact ok2
 ·exact absurd rfl hb
theorem Z.ok.mut0 {z:Z X}{s s':Shared}(hz:z.ok s){a:Addr}(o:aD z.σ z.ρ i a)(I':Inv X z.pins z.σ z.H s')(k:∀b u,¬z.bad b->b≠a->s.heap.get? b=some u->s'.heap.get? b=some u)(th:∀b u,s.heap.get? b=some u->∃u',s'.heap.get? b=some u'){t:Sl}(ht:bt t=true)(nt:∃ob,s'.heap.get? a=some ob/\ob.cls≠.type "tuple")
  (d:Kp z.cn z.cn s.heap s'.heap->SlOk z.cn z.H s'.heap t (.ref a)):(z.wi z.σ z.H (z.ρ.set i (some t))).ok s'/\Stp z.bad z.H z.H s.heap s'.heap:=by
 obtain⟨⟨t0,e0,o0⟩,q0⟩:=id o
 obtain⟨v,e2,_,d2⟩:=hz.slk i t0 e0
 rw[q0] at e2;cases e2
 have hH:z.H a=some au:=by
  cases t0 with
  |val p=>cases o0
  |own ps=>obtain⟨b,e3,h,_⟩:=d2;cases e3;exact h
  |dic ks ps=>obtain⟨b,e3,h,_⟩:=d2;cases e3;exact h
 obtain⟨ob,hob,hcl⟩:=nt
 have hil:i<z.ρ.length:=(List.getElem?_eq_some_iff.mp e0).1
 have kp:Kp z.cn z.cn s.heap s'.heap:=⟨rfl,rfl,rfl,fun b u q e=>⟨q,k b u q.2 (fun y=>by have q1:z.H b=none:=q.1;rw[y,hH] at q1;cases q1) e⟩⟩
 have own:∀{j b},aD z.σ (z.ρ.set i (some t)) j b->aD z.σ z.ρ j b:=fun {j b} ⟨⟨t',e1,ot⟩,q⟩=>by
  by_cases hj:i=j
  ·subst hj;exact⟨⟨t0,e0,o0⟩,q⟩
  ·rw[List.getElem?_set_ne hj] at e1;exact⟨⟨t',e1,ot⟩,q⟩
 refine⟨⟨I',by simp[hz.len],fun j t' q=>?_,fun j k b o1 o2=>hz.dj j k b (own o1) (own o2),fun j b o=>hz.nb j b (own o),hz.oh,hz.oh0,hz.loc,hz.cel,hz.fs,hz.ex,fun b q=>let ⟨u,r⟩:=hz.there b q;th b u r,hz.bs,fun b o q=>?_,hz.anc⟩,⟨fun b u n hn e=>⟨k b u n (fun y=>by rw[y,hH] at hn;cases hn) e,hn⟩,th⟩⟩
 ·by_cases hj:i=j
  ·subst hj
   have q:(z.ρ.set i (some t))[i]?=some (some t'):=q
   rw[List.getElem?_set_self hil] at q
   cases q
   exact⟨.ref a,q0,⟨.ref a,rfl⟩,d kp⟩
  ·have q:(z.ρ.set i (some t))[j]?=some (some t'):=q
   rw[List.getElem?_set_ne hj] at q
   obtain⟨w,e1,r,dd⟩:=hz.slk j t' q
   refine⟨w,e1,r,?_⟩
   have ne:∀b,w=.ref b->bt t'=true->b≠a:=fun b e3 ot y=>by
    subst y e3
    exact hj (hz.dj i j b o ⟨⟨t',q,ot⟩,e1⟩)
   cases t' with
   |val p=>exact fun u r=>(dd u r).m kp
   |own ps=>obtain⟨b,rfl,hb,l⟩:=dd;exact⟨b,rfl,hb,l.mono kp fun o w=>k b o (hz.ot b _ hb).1 (ne b rfl rfl) w⟩
   |dic ks ps=>obtain⟨b,rfl,hb,l⟩:=dd;exact⟨b,rfl,hb,l.mono kp fun o w=>k b o (hz.ot b _ hb).1 (ne b rfl rfl) w⟩
 ·obtain⟨r0,u,r1,r2⟩:=hz.ot b o q
  by_cases hb:b=a
  ·subst hb;exact⟨r0,ob,hob,hcl⟩
  ·exact⟨r0,u,k b u r0 hb r1,r2⟩
theorem Z.ok.mut {z:Z X}{s:Shared}(hz:z.ok s){a:Addr}(o:aD z.σ z.ρ i a){h':Heap}{tk:Nat}(k:∀b u,b≠a->s.heap.get? b=some u->h'.get? b=some u){t:Sl}(ht:bt t=true)(nt:∃ob,h'.get? a=some ob/\ob.cls≠.type "tuple")
  (d:∀(c:Cn),c=z.cn->Kp c c s.heap h'->SlOk c z.H h' t (.ref a)):(z.wi z.σ z.H (z.ρ.set i (some t))).ok { s with heap:=h',toks:=tk }/\Stp z.bad z.H z.H s.heap h':=by
 obtain⟨⟨t0,e0,o0⟩,q0⟩:=id o
 obtain⟨v,e2,_,d2⟩:=hz.slk i t0 e0
 rw[q0] at e2;cases e2
 have hH:z.H a=some au:=by
  cases t0 with
  |val p=>cases o0
  |own ps=>obtain⟨b,e3,h,_⟩:=d2;cases e3;exact h
  |dic ks ps=>obtain⟨b,e3,h,_⟩:=d2;cases e3;exact h
 have I':Inv X z.pins z.σ z.H { s with heap:=h',toks:=tk }:=by
  obtain⟨ob,hob,hcl⟩:=nt
  have:=hz.I.write (x:=a) (e:=a) (o:=au) (h':=h') (t':=tk) (by rw[hH];exact trivial) (.inl rfl) k ⟨ob,hob⟩ ⟨trivial,⟨ob,hob⟩,fun _ _ _ _=>trivial⟩
  rwa [nU hH] at this
 exact Z.ok.mut0 hz o I' (fun b u _=>k b u) (fun b u e=>by
  by_cases hb:b=a
  ·subst hb;obtain⟨ob,hob,_⟩:=nt;exact⟨ob,hob⟩
  ·exact⟨u,k b u hb e⟩) ht nt (d _ rfl)
theorem Z.ok.owned {z:Z X}{s:Shared}(hz:z.ok s){t:Sl}(e:sl z.ρ i=some t)(ho:bt t=true):∃a,aD z.σ z.ρ i a/\z.H a=some au/\SlOk z.cn z.H s.heap t (.ref a):=by
 obtain⟨v,e2,_,d2⟩:=hz.slk i t (dG e)
 cases t with
 |val p=>cases ho
 |own ps=>obtain⟨b,rfl,h,l⟩:=d2;exact⟨b,⟨⟨_,dG e,rfl⟩,e2⟩,h,b,rfl,h,l⟩
 |dic ks ps=>obtain⟨b,rfl,h,l⟩:=d2;exact⟨b,⟨⟨_,dG e,rfl⟩,e2⟩,h,b,rfl,h,l⟩
theorem ju {z:Z X}{s:Shared}(hz:z.ok s){a:Addr}(o:z.σ[i]?=some (some (.ref a))){p:Pos}(hN:X.N[i]?=some x)(hv:oo X.env.scope x)(hd:(x==("__debug__" : Str))=false)(hcd:(x==("__classdict__" : Str))=false){Q:Value->Shared->Prop}{E:Value->Shared->Prop}(h:Q (.ref a) s):W X (eval (.Name x p) X.env) Q E s:=by
 obtain⟨m,hn,hl⟩:=hz.I.loc
 obtain⟨u,r,l⟩:=hl i x _ hN o hv
 cases (show u=Value.ref a from r)
 rcases l with ⟨hk,hm⟩|⟨hk,c,hc,hcell⟩
 ·exact wpAny_Name (wpAny_loadName_local hz.I.ok.kind hk hn hm h) hd
 ·rcases hk with hk|hk
  ·exact wpAny_Name (wpAny_loadName_cell hz.I.ok.kind hk hc hcell h) hd
  ·exact wpAny_Name (wpAny_loadName_free hz.I.ok.kind hk hc hcell h hcd) hd
noncomputable abbrev GM:=Sl->List PV->Option (Sl×PV)
structure MtN (X:Cx)(T:String)(name:Str)(id:String)(g:GM):Prop where
 pa:PlainAttrs T
 slot:Slot T name id
 hty:typeOf (.builtin id)=pure (.type "method_descriptor")
 ty:∀t ps r,g t ps=some r->bt t=true/\∀(c:Cn) H h a,SlOk c H h t (.ref a)->∃ob,h.get? a=some ob/\ob.cls=.type T/\ob.dict=none
 call:∀(z:Z X) s i t a ps us t' p E,z.ok s->sl z.ρ i=some t->aD z.σ z.ρ i a->SlOk z.cn z.H s.heap t (.ref a)->Ds z.cn s.heap ps us->g t ps=some (t',p) →
  W X (call (.builtin id) (.ref a::us)) (fun v s'=>(z.wi z.σ z.H (z.ρ.set i (some t'))).ok s'/\Stp z.bad z.H z.H s.heap s'.heap/\D z.cn s'.heap p v) E s
noncomputable def Fh (g:GM)(o:Option Sl)(ps:Option (List PV)):Option (Sl×PV):=match o,ps with
 |some t,some ps=>g t ps
 |_,_=>none
structure McN (X:Cx)(i:Nat)(x:Str)(name:Str)(p apos cpos:Pos)(es:List Expr):Prop where
 hN:X.N[i]?=some x
 hv:oo X.env.scope x
 hd:(x==("__debug__" : Str))=false
 hcd:(x==("__classdict__" : Str))=false
 base:attributeBase (.Name x p) name X.env (eval (.Name x p) X.env)=eval (.Name x p) X.env
 line:(apos.endLine==cpos.line)=true
 few:((backTo cpos (starEach es X.env)).all (fun x=>!x.1)&&(backToKw cpos (keywordEach [] X.env)).all (fun x=>x.1.isSome)&&decide (es.length+([]:List Keyword).length+(if ([]:List Keyword).isEmpty then 0 else 1)<30))=true
 ns:∀e r,es=e::r->starEach (e::r) X.env=(false,eval e X.env)::starEach r X.env/\(backTo cpos (starEach r X.env)).any (·.1)=false
theorem wg {T:String}{name:Str}{id:String}{g:GM}(m:MtN X T name id g){p apos cpos:Pos}(c:McN X i x name p apos cpos es)(ha:NA X es fs)(h0:es=[]->fs=ag){z:Z X}{s:Shared}(hz:z.ok s){t':Sl}{q:PV}(e:Fh g (sl z.ρ i) ((fs z.ρ).bind fun rs=>rs.mapM RV.fr)=some (t',q)){E:Value->Shared->Prop} :
  W X (eval (.Call (.Attribute (.Name x p) name apos) es [] cpos) X.env) (fun v s'=>(z.wi z.σ z.H (z.ρ.set i (some t'))).ok s'/\Stp z.bad z.H z.H s.heap s'.heap/\D z.cn s'.heap q v) E s:=by
 unfold Fh at e
 split at e
 ·next t ps et eps=>
  obtain⟨rs,er,eps⟩:=Option.bind_eq_some_iff.mp eps
  obtain⟨ho,hT⟩:=m.ty t ps _ e
  obtain⟨a,oa,hH,d⟩:=Z.ok.owned hz et ho
  obtain⟨ob,e1,e2,e3⟩:=hT _ _ _ _ d
  have fin:∀us s1,z.go s s1->RvsOk z s.heap s1.heap rs us->W X (call (.builtin id) (.ref a::us)) (fun v s'=>(z.wi z.σ z.H (z.ρ.set i (some t'))).ok s'/\Stp z.bad z.H z.H s.heap s'.heap/\D z.cn s'.heap q v) E s1:=fun us s1 g1 d1=>by
   obtain⟨a',oa',_,d'⟩:=Z.ok.owned g1.1 et ho
   have:a'=a:=by have h1:=oa.2;have h2:=oa'.2;rw[h1] at h2;cases h2;rfl
   subst this
   exact az (m.call z s1 i t a' ps us t' q E g1.1 et oa' d' (d1.fr eps) e) fun v s2 w=>⟨w.1,g1.2.stp.trans w.2.1,w.2.2⟩
  cases es with
  |nil=>
   refine wpAny_Call_method0_late c.base c.line (ju hz oa.2 c.hN c.hv c.hd c.hcd ⟨T,id,m.pa,m.slot,m.hty,⟨ob,e1,e2⟩,fun b q=>by cases q;exact⟨ob,e1,e3⟩,Calls.callWith_builtin rfl (PySem.evalArgs_none ?_)⟩)
   rw[h0 rfl] at er;cases er
   exact fin [] s hz.refl .nil
  |cons e0 es0=>
   refine wpAny_Call_method_late c.base c.few c.line rfl (ju hz oa.2 c.hN c.hv c.hd c.hcd ⟨T,id,m.pa,m.slot,m.hty,⟨ob,e1,e2⟩,fun b q=>by cases q;exact⟨ob,e1,e3⟩,?_⟩)
   obtain⟨hs,hp⟩:=c.ns e0 es0 rfl
   have hA:=ha z cpos s rs E hz er
   rw[hs] at hA ⊢
   refine Calls.callWith_builtin (by show (false || (backTo cpos (starEach es0 X.env)).any (·.1))=false;rw[hp]<;>rfl) (Calls.evalArgs_plain ?_)
   exact az hA fun us s1 ⟨g1,d1⟩=>fin us s1 g1 d1
 ·cases e
end
end Dp
end
section
namespace Dp
open PySem PySem.Spec L2 PyProof.Rows
section
variable {X:Cx}{e:Expr}{f fi:FE}{es:List Expr}{fs:FA}{pos:Pos}{i j:Nat}{x:Str}
noncomputable def BU (o:Option (Sl×PV))(i:Nat)(ρ:ak):Out:=match o with
 |some (t,_)=>.nx (ρ.set i (some t))
 |none=>.bad
noncomputable def qN (g:GM)(i:Nat)(fs:FA):FS:=fun ρ=>BU (Fh g (sl ρ i) ((fs ρ).bind fun rs=>rs.mapM RV.fr)) i ρ
theorem Eo {T:String}{name:Str}{id:String}{g:GM}(m:MtN X T name id g){p apos cpos:Pos}(c:McN X i x name p apos cpos es)(ha:NA X es fs)(h0:es=[]->fs=ag)(hs:swapsWith (.Call (.Attribute (.Name x p) name apos) es [] cpos) none pos.line X.env=pure false) :
  NS X (.Expr (.Call (.Attribute (.Name x p) name apos) es [] cpos) pos) (qN g i fs):=fun z s E hz hb=>by
 unfold qN BU at hb ⊢
 split at hb
 ·next t q e=>exact wpAny_Expr_any (az (wg m c ha h0 hz e) fun v s1 w=>⟨rfl,z.σ,z.H,w.1,w.2.1⟩) hz.I.quiet hs
 ·exact absurd rfl hb
noncomputable def Co (o:Option (Sl×PV))(j i:Nat)(ρ:ak):Out:=match o with
 |some (t,p)=>.nx ((ρ.set i (some t)).set j (some (.val p)))
 |none=>.bad
noncomputable def BN (g:GM)(j i:Nat)(fs:FA):FS:=fun ρ=>Co (Fh g (sl ρ i) ((fs ρ).bind fun rs=>rs.mapM RV.fr)) j i ρ
theorem GJ {T:String}{name y:Str}{id:String}{g:GM}(m:MtN X T name id g){p p' apos cpos:Pos}(c:McN X i x name p apos cpos es)(n:Nm X j y)(ha:NA X es fs)(h0:es=[]->fs=ag)(hs:swapsWith (.Call (.Attribute (.Name x p) name apos) es [] cpos) (some (.Name y p')) pos.line X.env=pure false) :
  NS X (.Assign [.Name y p'] (.Call (.Attribute (.Name x p) name apos) es [] cpos) pos) (BN g j i fs):=fun z s E hz hb=>by
 unfold BN Co at hb ⊢
 split at hb
 ·next t q e=>
  refine wpAny_Assign_Name (az (wg m c ha h0 hz e) fun v s1 w=>?_) hs
  exact az (d9 (p:=q) w.1 n w.2.2) fun _ s2 ⟨σ',ok,x⟩=>⟨rfl,σ',z.H,ok,w.2.1.trans x.stp⟩
 ·exact absurd rfl hb
theorem lS {t:Sl}{ps:List PV}(e:t=.own ps):bt t=true/\∀(c:Cn) H h a,SlOk c H h t (.ref a)->∃ob,h.get? a=some ob/\ob.cls=.type "list"/\ob.dict=none:=by
 subst e
 exact⟨rfl,fun c H h a ⟨b,e1,_,its,n,e2,_⟩=>by cases e1;exact⟨_,e2,rfl,rfl⟩⟩
theorem iK {z:Z X}{s:Shared}(hz:z.ok s){a:Addr}(o:aD z.σ z.ρ i a){its its':List Value}{n:Nat}{g:Array Value->Array Value}{ps':List PV}(e:s.heap.get? a=some (cx its n))(hg:g its.toArray=its'.toArray)(d:Ds z.cn s.heap ps' its')(l:its'.length≤sizeLine)(hH:z.H a=some au)(tk:Nat) :
  (z.wi z.σ z.H (z.ρ.set i (some (.own ps')))).ok { s with heap:=s.heap.update a (Obj.mapSeq g),toks:=tk }/\Stp z.bad z.H z.H s.heap (s.heap.update a (Obj.mapSeq g)):=by
 have q:=PySem.IsL.update e g
 rw[hg] at q
 exact Z.ok.mut hz o (fun b u hb hu=>(Heap.get?_update_other s.heap (Obj.mapSeq g) (Ne.symm hb)).trans hu) (t:=.own ps') rfl ⟨_,q,by intro w;exact absurd (Value.type.inj w) (by decide)⟩ fun c ec k=>by
  subst ec;exact⟨a,rfl,hH,its',_,q,l,d.mono k⟩
noncomputable def jC:GM:=fun t ps=>match t,ps with
 |.own ps,[q]=>if ps.length≤100000 then some (.own (ps++[q]),.non) else none
 |_,_=>none
theorem Ih:MtN X "list" "append" "list.append" jC where
 pa:=PySem.F.plainAttrs_list
 slot:=PySem.F.slot_list_append
 hty:=PySem.F.type_list_append
 ty:=fun t ps r e=>by
  unfold jC at e
  split at e
  ·exact lS rfl
  ·cases e
 call:=fun z s i t a ps us t' p E hz et oa d du e=>by
  unfold jC at e
  split at e
  ·next ps q=>
   split at e
   ·next hl=>
    cases e
    obtain⟨b,e1,hH,its,n,e2,zl,ds⟩:=d
    cases e1
    obtain⟨u,r,rfl,dq,er⟩:=du
    cases (show r=[] from er)
    have l:=ds.length
    have hb:=F3 hl
    refine call_meets F.slot_list_append ⟨_,e2,rfl⟩ F.entry_list_append (F.args_list_append_2 _ _) (PySem.list_append a its.toArray n u (by rw[List.size_toArray];omega)) ⟨e2,?_⟩
    have m:=iK hz oa e2 (g:=(·.push u)) (its':=its++[u]) (by simp) (ds.app (.one dq)) (by rw[List.length_append,List.length_singleton];omega) hH s.toks
    exact⟨m.1,m.2,rfl⟩
   ·cases e
  ·cases e
noncomputable def Ah:GM:=fun t ps=>match t,ps with
 |.own ps,[]=>some (.own ps.reverse,.non)
 |_,_=>none
theorem HN:MtN X "list" "reverse" "list.reverse" Ah where
 pa:=PySem.F.plainAttrs_list
 slot:=PySem.F.slot_list_reverse
 hty:=PySem.F.type_list_reverse
 ty:=fun t ps r e=>by
  unfold Ah at e
  split at e
  ·exact lS rfl
  ·cases e
 call:=fun z s i t a ps us t' p E hz et oa d du e=>by
  unfold Ah at e
  split at e
  ·next ps=>
   cases e
   obtain⟨b,e1,hH,its,n,e2,zl,ds⟩:=d
   cases e1
   cases (show us=[] from du)
   refine call_meets F.slot_list_reverse ⟨_,e2,rfl⟩ F.entry_list_reverse (F.args_list_reverse_1 _) (AutoSeq1.list_reverse_list_0 a its.toArray n (by rw[List.size_toArray];omega)) ⟨e2,?_⟩
   have m:=iK hz oa e2 (g:=(·.reverse)) (its':=its.reverse) (by simp) ds.rev (by rw[List.length_reverse];exact zl) hH s.toks
   exact⟨m.1,m.2,rfl⟩
  ·cases e
noncomputable def sK:GM:=fun t ps=>match t,ps with
 |.own ps,[.int k]=>if 0≤k/\k<100000 then (ps[k.toNat]?).map fun p=>(.own (ps.eraseIdx k.toNat),p) else none
 |.own ps,[]=>(ps[ps.length - 1]?).map fun p=>(.own ps.dropLast,p)
 |_,_=>none
theorem Ds.erase {c:Cn}{h:Heap}:∀{ps:List PV} {us:List Value} (k:Nat),Ds c h ps us->Ds c h (ps.eraseIdx k) (us.eraseIdx k)
 |[],_,_,d=>by rw[show _=[] from d];rfl
 |_::_,_,0,⟨u,r,e,d,t⟩=>by rw[e];exact t
 |_::_,_,k+1,⟨u,r,e,d,t⟩=>by rw[e];exact⟨u,_,rfl,d,Ds.erase k t⟩
theorem Dz:MtN X "list" "pop" "list.pop" sK where
 pa:=PySem.F.plainAttrs_list
 slot:=PySem.F.slot_list_pop
 hty:=PySem.F.type_list_pop
 ty:=fun t ps r e=>by
  unfold sK at e
  split at e
  ·exact lS rfl
  ·exact lS rfl
  ·cases e
 call:=fun z s i t a ps us t' p E hz et oa d du e=>by
  unfold sK at e
  split at e
  ·next ps k=>
   split at e
   ·next hk=>
    obtain⟨q,e3,e4⟩:=Option.map_eq_some_iff.mp e
    cases e4
    obtain⟨b,e1,hH,its,n,e2,zl,ds⟩:=d
    cases e1
    obtain⟨u,r,rfl,⟨tt,rfl⟩,er⟩:=du
    cases (show r=[] from er)
    have l:=ds.length
    have hlt:k.toNat<ps.length:=(List.getElem?_eq_some_iff.mp e3).1
    obtain⟨w,hw,dw⟩:=ds.get e3
    refine call_meets F.slot_list_pop ⟨_,e2,rfl⟩ F.entry_list_pop (F.args_list_pop_2 _ _)
     (MeetsSeq.list_pop_at a its.toArray n k tt k.toNat w (fitsIndex_both (by omega) (by omega)) (by rw[List.size_toArray,seqIndex_of hk.1 (by omega)]) (by rw[←Array.getElem?_toList];exact hw) (by rw[List.size_toArray];omega)) ⟨e2,?_⟩
    have m:=iK hz oa e2 (g:=(·.eraseIdxIfInBounds k.toNat)) (its':=its.eraseIdx k.toNat) (by rw[List.eraseIdxIfInBounds_toArray]) (Ds.erase _ ds) (by have:=oV its k.toNat;omega) hH s.toks
    exact⟨m.1,m.2,dw.m m.2.kpD⟩
   ·cases e
  ·next ps=>
   obtain⟨q,e3,e4⟩:=Option.map_eq_some_iff.mp e
   cases e4
   obtain⟨b,e1,hH,its,n,e2,zl,ds⟩:=d
   cases e1
   cases (show us=[] from du)
   have l:=ds.length
   obtain⟨w,hw,dw⟩:=ds.get e3
   rw[←l] at hw
   refine call_meets F.slot_list_pop ⟨_,e2,rfl⟩ F.entry_list_pop (F.args_list_pop_1 _) (MeetsSeq.list_pop_last a its.toArray n w (by simpa using hw) (by rw[List.size_toArray];omega)) ⟨e2,?_⟩
   have dd:=Ds.erase (its.length - 1) ds
   rw[jo] at dd
   rw[l,jo] at dd
   have m:=iK hz oa e2 (g:=(·.eraseIdxIfInBounds (its.toArray.size - 1))) (its':=its.dropLast) (by rw[List.size_toArray,List.eraseIdxIfInBounds_toArray,jo]) dd (by rw[List.length_dropLast];omega) hH s.toks
   exact⟨m.1,m.2,dw.m m.2.kpD⟩
  ·cases e
noncomputable def vR (o:Option Nat)(v:PV)(ps:List PV)(j:Nat)(ρ:ak):Out:=match o with
 |some n=>.nx (ρ.set j (some (.own (ps.set n v))))
 |none=>.bad
noncomputable def BO (v:Option PV)(o:Option Sl)(k:Option PV)(j:Nat)(ρ:ak):Out:=match v,o,k with
 |some v,some (.own ps),some (.int k)=>vR (pb ps.length k) v ps j ρ
 |_,_,_=>.bad
noncomputable def j7 (j:Nat)(fi f:FE):FS:=fun ρ=>BO ((f ρ).bind RV.fr) (sl ρ j) ((fi ρ).bind RV.fr) j ρ
theorem uG {z:Z X}{s:Shared}(hz:z.ok s){a:Addr}(o:aD z.σ z.ρ i a){ps:List PV}{k:Int}{t:Tok}{n:Nat}{v:PV}{u:Value}(hH:z.H a=some au)(l:ListAt z.cn s.heap a ps)(hn:pb ps.length k=some n)(d:D z.cn s.heap v u){E:Value->Shared->Prop} :
  W X (setItem (.ref a) (.int k t) u) (fun _ s'=>(z.wi z.σ z.H (z.ρ.set i (some (.own (ps.set n v))))).ok s'/\Stp z.bad z.H z.H s.heap s'.heap) E s:=by
 obtain⟨its,m,e,zl,ds⟩:=l
 obtain⟨h1,h2,h3,h4⟩:=wz hn
 have hl:=ds.length
 have hlb:=kP
 have fin:=iK hz o e (g:=(·.setIfInBounds n u)) (its':=its.set n u) (by simp) (ds.set d n) (by rw[List.length_set];exact zl) hH s.toks
 by_cases h0:0≤k
 ·have hk:k.toNat=n:=by
   rw[seqIndex_of h0 h4] at h1
   exact Option.some.inj h1
  exact PySem.W.ki_setAt e h0 (by omega) (by rw[List.size_toArray,hl];exact h4) (by rw[hk];exact fin)
 ·have hk:(k+(its.toArray.size:Int)).toNat=n:=by
   rw[seqIndex_neg (by omega) h3] at h1
   rw[List.size_toArray,hl]
   exact Option.some.inj h1
  exact PySem.W.ki_setBack e (by omega) (by rw[List.size_toArray,hl];exact h3) (by omega) (by rw[hk];exact fin)
theorem mL {z:Z X}{s:Shared}(hz:z.ok s){ps:List PV}(e:sl z.ρ i=some (.own ps)){a:Addr}(o:z.σ[i]?=some (some (.ref a))):aD z.σ z.ρ i a/\z.H a=some au/\ListAt z.cn s.heap a ps:=by
 obtain⟨b,o1,h,_,e2,_,l⟩:=Z.ok.owned hz e rfl
 cases e2
 have:=o1.2
 rw[o] at this;cases this
 exact⟨o1,h,l⟩
theorem IP {ix o:Expr}{p:Pos}{tpos:Pos}(hN:X.N[j]?=some x)(hv:oo X.env.scope x)(hd:(x==("__debug__" : Str))=false)(hcd:(x==("__classdict__" : Str))=false)(hi:NE X ix fi)(h:NE X e f)
  (hs:swapsWithSole [.Subscript (.Name x p) ix tpos] e pos.line X.env=pure false) (hw:swappedStores [.Subscript (.Name x p) ix tpos] e X.env=pure none)
  (h1:(assignEach [.Subscript (.Name x p) ix tpos] X.env).map (·.2)=[assign (.Subscript (.Name x p) ix tpos) X.env])
  (ha:∀v,assign (.Subscript (.Name x p) ix tpos) X.env v=(do
   let ov ←holding [v] (eval (.Name x p) X.env)
   let iv ←holding [v,ov] (eval ix X.env)
   standAt tpos
   holding [v,ov,iv] (setItem ov iv v)
   release [v,ov,iv] [])):NS X (.Assign [.Subscript (.Name x p) ix tpos] e pos) (j7 j fi f):=fun z s E hz hb=>by
 unfold j7 BO at hb ⊢
 split at hb
 ·next v ps k ev es ek=>
  unfold vR at hb ⊢
  split at hb
  ·next n en=>
   obtain⟨r,er,ev⟩:=Option.bind_eq_some_iff.mp ev
   obtain⟨rk,erk,ek⟩:=Option.bind_eq_some_iff.mp ek
   refine wpAny_Assign_stores (az (h z s r E hz er) fun u s1 q=>?_) hs hw
   rw[h1]
   show W X (assign _ X.env u) _ E s1
   rw[ha]
   obtain⟨a,o1,_,_⟩:=Z.ok.owned hz es rfl
   refine wpAny_bind (wpAny_holding (ju q.1.1 o1.2 hN hv hd hcd ?_))
   refine wpAny_bind (wpAny_holding (az (hi z s1 rk E q.1.1 erk) fun iv s2 q2=>?_))
   obtain⟨t,rfl⟩:=q2.2.fr ek
   obtain⟨o2,hH,l⟩:=mL q2.1.1 es o1.2
   refine wpAny_bind (wpAny_standAt (wpAny_bind (wpAny_holding (az (uG q2.1.1 o2 hH l en ((q.2.fr ev).m q2.1.2.kpD)) fun _ s3 w=>?_))))
   exact wpAny_release ⟨rfl,z.σ,z.H,w.1,(q.1.2.trans q2.1.2).stp.trans w.2⟩
  ·exact absurd rfl hb
 ·exact absurd rfl hb
noncomputable def Bp (g:Int->Int->Int)(o:Option Sl)(v:Option PV)(i:Nat)(ρ:ak):Out:=match o,v with
 |some (.val (.int a)),some (.int b)=>.nx (ρ.set i (some (.val (.int (g a b)))))
 |_,_=>.bad
noncomputable def lR (g:Int->Int->Int)(i:Nat)(f:FE):FS:=fun ρ=>Bp g (sl ρ i) ((f ρ).bind RV.fr) i ρ
noncomputable def zv (X:Cx)(op:Operator)(g:Int->Int->Int):Prop:=∀(a b:Int) (t u:Tok) (s:Shared) (Q:Value->Shared->Prop) E,(∀tk n,Q (.int (g a b) tk) { s with toks:=n })->W X (inplaceOp op (.int a t) (.int b u)) Q E s
theorem x0:zv X .Add fun a b=>a+b:=fun a b t u s Q E h=>iadd_int (h _ _)
theorem yJ:zv X .Sub fun a b=>a - b:=fun a b t u s Q E h=>isub_int (h _ _)
theorem Iw {op:Operator}{g:Int->Int->Int}{p':Pos}(n:Nm X i x)(h:NE X e f)(ho:zv X op g):NS X (.AugAssign (.Name x p') op e pos) (lR g i f):=fun z s E hz hb=>by
 unfold lR Bp at hb ⊢
 split at hb
 ·next a b es ev=>
  obtain⟨r,er,ev⟩:=Option.bind_eq_some_iff.mp ev
  have vis:oo X.env.scope x:=by rcases n.loc with k|k;exact .inl k;exact .inr (.inl k)
  obtain⟨v,u,m,hn,rr,lk,e1,d,_⟩:=Z.ok.get hz es n.ix vis
  obtain⟨t,rfl⟩:=d u rr
  refine wpAny_AugAssign_Name ?_
  have go:W X (eval e X.env) (fun w s₂=>W X (inplaceOp op (.int a t) w) (fun r s₃=>W X (storeName X.env x r) (fun _=>Z.sp z s (.nx (z.ρ.set i (some (.val (.int (g a b)))))) .next) E s₃) E s₂) E s:=
   az (h z s r E hz er) fun w s1 q=>by
    obtain⟨t',rfl⟩:=q.2.fr ev
    refine ho a b t t' s1 _ _ fun tk nn=>?_
    have g2:=q.1.trans (q.1.1.tok nn)
    exact az (d9 (p:=.int (g a b)) g2.1 n ⟨tk,rfl⟩) fun _ s2 w=>⟨rfl,(g2.tv w).to⟩
  rcases lk with ⟨hk,hm⟩|⟨hk,c,hc,hcell⟩
  ·exact wpAny_loadName_local hz.I.ok.kind hk hn hm go
  ·rcases hk with hk|hk
   ·exact wpAny_loadName_cell hz.I.ok.kind hk hc hcell go
   ·rcases n.loc with k|k
    ·have:X.env.scope.names.lookup x=some .free:=hk
     rw[k] at this;cases this
    ·have:X.env.scope.names.lookup x=some .free:=hk
     rw[k] at this;cases this
 ·exact absurd rfl hb
noncomputable def vo (g:Int->Int->Int)(o:Option PV)(ps:List PV)(k b:Int)(j:Nat)(ρ:ak):Out:=match o with
 |some (.int a)=>.nx (ρ.set j (some (.own (ps.set k.toNat (.int (g a b))))))
 |_=>.bad
noncomputable def yj (g:Int->Int->Int)(o:Option Sl)(k v:Option PV)(j:Nat)(ρ:ak):Out:=match o,k,v with
 |some (.own ps),some (.int k),some (.int b)=>if 0≤k then vo g ps[k.toNat]? ps k b j ρ else .bad
 |_,_,_=>.bad
noncomputable def kF (g:Int->Int->Int)(j:Nat)(fi f:FE):FS:=fun ρ=>yj g (sl ρ j) ((fi ρ).bind RV.fr) ((f ρ).bind RV.fr) j ρ
theorem Cj {op:Operator}{g:Int->Int->Int}{ix:Expr}{p tpos:Pos}(hN:X.N[j]?=some x)(hv:oo X.env.scope x)(hd:(x==("__debug__" : Str))=false)(hcd:(x==("__classdict__" : Str))=false)(hi:NE X ix fi)(h:NE X e f)(ho:zv X op g)
  (ha:∀ov iv new,augStore ix ov iv new=(do holding [new,ov,iv] (setItem ov iv new);release [new,ov,iv] [];pure .next)):NS X (.AugAssign (.Subscript (.Name x p) ix tpos) op e pos) (kF g j fi f):=fun z s E hz hb=>by
 unfold kF yj at hb ⊢
 split at hb
 ·next ps k b es ek ev=>
  split at hb
  ·next h0=>
   rw[if_pos h0]
   unfold vo at hb ⊢
   split at hb
   ·next a ea=>
    obtain⟨r,er,ev⟩:=Option.bind_eq_some_iff.mp ev
    obtain⟨rk,erk,ek⟩:=Option.bind_eq_some_iff.mp ek
    obtain⟨ad,o1,_,_⟩:=Z.ok.owned hz es rfl
    have hlt:k.toNat<ps.length:=(List.getElem?_eq_some_iff.mp ea).1
    have hlb:=kP
    refine wpAny_AugAssign_SubscriptAny (ju hz o1.2 hN hv hd hcd ?_) ha
    refine az (hi z s rk E hz erk) fun iv s2 q2=>?_
    obtain⟨t,rfl⟩:=q2.2.fr ek
    obtain⟨o2,hH,l⟩:=mL q2.1.1 es o1.2
    obtain⟨its,m,e1,zl,ds⟩:=l
    have hl:=ds.length
    obtain⟨w,ew,tw,rfl⟩:=ds.get ea
    refine wpAny_getItem_list (aL e1) h0 (by omega) (by simpa using ew) ?_
    refine az (h z s2 r E q2.1.1 er) fun v s4 q4=>?_
    obtain⟨t',rfl⟩:=q4.2.fr ev
    refine ho a b tw t' s4 _ _ fun tk nn=>?_
    have g5:=q4.1.trans (q4.1.1.tok nn)
    obtain⟨o5,hH5,l5⟩:=mL g5.1 es o1.2
    have hn:pb ps.length k=some k.toNat:=by unfold pb;rw[if_pos h0,if_pos (by omega)]
    exact az (uG (v:=.int (g a b)) g5.1 o5 hH5 l5 hn ⟨tk,rfl⟩) fun _ s6 w=>⟨rfl,z.σ,z.H,w.1,(q2.1.2.trans g5.2).stp.trans w.2⟩
   ·exact absurd rfl hb
  ·exact absurd rfl hb
 ·exact absurd rfl hb
noncomputable def frz (i:Nat)(ρ:ak):ak:=match ρ[i]? with
 |some (some (.own ps))=>ρ.set i (some (.val (.lst ps)))
 |some (some (.dic ks ps))=>ρ.set i (some (.val (.dct ks ps)))
 |_=>ρ
noncomputable def wV (i:Nat)(s:FS):FS:=fun ρ=>s (frz i ρ)
theorem Z.ok.frz {z:Z X}{s:Shared}(hz:z.ok s)(i:Nat):∃H',(z.wi z.σ H' (Dp.frz i z.ρ)).ok s/\Stp z.bad z.H H' s.heap s.heap:=by
 have main:∀(t:Sl) (p:PV),z.ρ[i]?=some (some t)->bt t=true->(∀(c:Cn) H a,c.ok a->SlOk c H s.heap t (.ref a)->D c s.heap p (.ref a))->∃H',(z.wi z.σ H' (z.ρ.set i (some (.val p)))).ok s/\Stp z.bad z.H H' s.heap s.heap:=fun t p et ho hp=>by
  have hil:i<z.ρ.length:=(List.getElem?_eq_some_iff.mp et).1
  obtain⟨a,oa,hH,d⟩:=Z.ok.owned hz (show sl z.ρ i=some t by unfold sl;rw[et];rfl) ho
  have own:∀{j b},aD z.σ (z.ρ.set i (some (.val p))) j b->j≠i/\aD z.σ z.ρ j b:=fun {j b} ⟨⟨t',e1,ot⟩,q⟩=>by
   by_cases hj:i=j
   ·subst hj;rw[List.getElem?_set_self hil] at e1;cases e1;cases ot
   ·rw[List.getElem?_set_ne hj] at e1;exact⟨Ne.symm hj,⟨t',e1,ot⟩,q⟩
  have kp:Kp z.cn (aF X z.bad (om z.H a)) s.heap s.heap:=⟨rfl,rfl,rfl,fun b o q e=>⟨⟨dR q.1,q.2⟩,e⟩⟩
  refine⟨om z.H a,⟨Inv.untrack hz.I hH,by simp[hz.len],fun j t' q=>?_,fun j k b o1 o2=>hz.dj j k b (own o1).2 (own o2).2,fun j b o=>hz.nb j b (own o).2,fun b o q=>?_,hz.oh0,hz.loc,hz.cel,hz.fs,hz.ex,hz.there,hz.bs,fun b o q=>?_,hz.anc⟩,⟨fun b o n hn e=>⟨e,dR hn⟩,fun b o e=>⟨o,e⟩⟩⟩
  ·by_cases hj:i=j
   ·subst hj
    have q:(z.ρ.set i (some (.val p)))[i]?=some (some t'):=q
    rw[List.getElem?_set_self hil] at q
    cases q
    refine⟨.ref a,oa.2,⟨.ref a,rfl⟩,fun u r=>?_⟩
    rw[show u=.ref a from r]
    exact hp (aF X z.bad (om z.H a)) z.H a ⟨eU,(hz.ot a _ hH).1⟩ (d.mono kp fun _ _ _ e=>e)
   ·have q2:(z.ρ.set i (some (.val p)))[j]?=some (some t'):=q
    rw[List.getElem?_set_ne hj] at q2
    obtain⟨w,e1,r,dd⟩:=hz.slk j t' q2
    refine⟨w,e1,r,?_⟩
    have ne:∀b,w=.ref b->bt t'=true->b≠a:=fun b e3 ot y=>by
     subst y e3
     exact hj (hz.dj i j b oa ⟨⟨t',q2,ot⟩,e1⟩)
    cases t' with
    |val p=>exact fun u r=>(dd u r).m kp
    |own ps=>obtain⟨b,rfl,hb,l⟩:=dd;exact⟨b,rfl,(cD (ne b rfl rfl)).trans hb,l.mono kp fun _ e=>e⟩
    |dic ks ps=>obtain⟨b,rfl,hb,l⟩:=dd;exact⟨b,rfl,(cD (ne b rfl rfl)).trans hb,l.mono kp fun _ e=>e⟩
  ·by_cases hb:b=a
   ·have q:om z.H a b=some o:=q
    rw[hb,eU] at q;cases q
   ·have q:om z.H a b=some o:=q
    rw[cD hb] at q;exact hz.oh b o q
  ·by_cases hb:b=a
   ·have q:om z.H a b=some o:=q
    rw[hb,eU] at q;cases q
   ·have q:om z.H a b=some o:=q
    rw[cD hb] at q;exact hz.ot b o q
 unfold Dp.frz
 split
 ·next ps e=>exact main _ _ e rfl fun c H a o d=>by obtain⟨b,e1,_,its,n,r⟩:=d;cases e1;exact⟨a,its,n,rfl,o,r⟩
 ·next ks ps e=>exact main _ _ e rfl fun c H a o d=>by obtain⟨b,e1,_,kus,r⟩:=d;cases e1;exact⟨a,kus,rfl,o,r⟩
 ·exact⟨z.H,hz,Ext.refl.stp⟩
theorem Im {st:Stmt}{g:FS}(h:NS X st g)(i:Nat):NS X st (wV i g):=fun z s E hz hb=>by
 obtain⟨H',ok,t⟩:=Z.ok.frz hz i
 exact az (h (z.wi z.σ H' (frz i z.ρ)) s E ok hb) fun fl s' q=>q.back t
end
end Dp
end
section
namespace Dp
open PySem PySem.Spec L2 PyProof.Rows
section
variable {X:Cx}{z:Z X}{s s' s1 s2:Shared}{h h':Heap}{fp:List Addr}
theorem Inv.turnedL {pins:List (Addr×Obj)}{σ:L2.St}{H:Hp}{t':Nat}(I:Inv X pins σ H s)(k:∀b o,b∉fp->s.heap.get? b=some o->h'.get? b=some o)(th:∀b∈fp,∃o,h'.get? b=some o)(f:∀b∈fp,fU X pins H b):Inv X pins σ H { s with heap:=h',toks:=t' }:=by
 have ne:∀b u,H b=some u->b∉fp:=fun b u q y=>by rw[(f b y).1] at q;cases q
 have hl:X.env.locals∉fp:=fun y=>(f _ y).2.1 rfl
 refine I.step (g':=s.gens) (d':=s.drawn) (ch:=fp) (fun b hb=>?_) (fun b o _ _ hc q _=>k b o hc q) (fun b o _ _ hc q _=>⟨o.slots,k b o hc q⟩) (fun _ _ _ _ n=>n)
  (fun b o hc q=>⟨o,k b o hc q⟩) (fun _ _ q=>q) (fun _ _ _ q=>q) (fun b ps q=>⟨#[],by rw[q];simp⟩) (fun m hm=>?_) (fun b u q=>?_) I.bare
 ·obtain⟨f0,f1,f2,f3,f4,f5⟩:=f b hb
  exact⟨f3,f1,f4,f5⟩
 ·obtain⟨o,es,ep,ho,r⟩:=hm
  exact⟨o,es,ep,k _ o hl ho,r⟩
 ·refine (I.hok b u q).stay (fun c v hc g=>?_) (fun _ g=>g) fun _ _ g=>g
  rcases hc with y|y
  ·subst y;exact k _ v (ne _ u q) g
  ·exact k c v (ne c _ y) g
theorem Z.ok.turn {t:Nat}(hz:z.ok s)(f:∀b∈fp,fU X z.pins z.H b/\z.bad b)(k:∀b o,b∉fp->s.heap.get? b=some o->h'.get? b=some o)(th:∀b∈fp,∃o,h'.get? b=some o):z.go s { s with heap:=h',toks:=t }:=
 hz.ext (Inv.turnedL hz.I k th fun b hb=>(f b hb).1) ⟨fun a o n e=>k a o (fun y=>n (f a y).2) e,fun a o e=>by
  by_cases y:a∈fp
  ·exact th a y
  ·exact⟨o,k a o y e⟩⟩
noncomputable abbrev Z.wb (z:Z X)(fp:List Addr):Z X:=⟨fun b=>z.bad b\/b∈fp,z.pins,z.σ,z.H,z.ρ⟩
noncomputable abbrev Z.wp (z:Z X)(pl:List (Addr×Obj)):Z X:=⟨z.bad,z.pins++pl,z.σ,z.H,z.ρ⟩
theorem lY {bad bad':Addr->Prop}{H:Hp}(e:Ext bad h h')(n:∀b,bad' b->bad b\/h.get? b=none):Kp (aF X bad H) (aF X bad' H) h h':=
 ⟨rfl,rfl,rfl,fun a o q g=>⟨⟨q.1,fun y=>(n a y).elim q.2 fun y=>by rw[y] at g;cases g⟩,e.kp a o q.2 g⟩⟩
theorem uz {bad bad':Addr->Prop}{H:Hp}(n:∀b,bad b->bad' b):Kp (aF X bad' H) (aF X bad H) h h:=⟨rfl,rfl,rfl,fun a o q g=>⟨⟨q.1,fun y=>q.2 (n a y)⟩,g⟩⟩
theorem Z.ok.more (hz:z.ok s)(g:z.go s s2)(n:∀b∈fp,s.heap.get? b=none/\∃o,s2.heap.get? b=some o):(z.wb fp).ok s2:=by
 have k:=lY (X:=X) (H:=z.H) (bad':=fun b=>z.bad b\/b∈fp) g.2 fun b y=>y.imp id fun y=>(n b y).1
 have own:∀a o,z.H a=some o->a∉fp:=fun a o q y=>by obtain⟨ob,r⟩:=hz.stands q;rw[(n a y).1] at r;cases r
 have ot:=g.1.ot
 refine⟨g.1.I,hz.len,fun i t q=>?_,hz.dj,fun i a q=>?_,hz.oh,hz.oh0,.inl hz.loc,fun x c e=>.inl (hz.cel x c e),fun b q=>.inl (hz.fs b q),fun b q=>.inl (hz.ex b q),fun b q=>q.elim (g.1.there b) fun q=>(n b q).2,fun b o e q=>?_,fun a o q=>⟨fun y=>y.elim (ot a o q).1 (own a o q),(ot a o q).2⟩,hz.anc⟩
 ·obtain⟨v,e1,r,d⟩:=hz.slk i t q
  refine⟨v,e1,r,d.mono k fun a o ha e=>g.2.kp a o (hz.ot a _ ha).1 e⟩
 ·have e:∃ob,s.heap.get? a=some ob:=by
   obtain⟨⟨t,e1,ot⟩,e2⟩:=q
   obtain⟨v,e3,_,d⟩:=hz.slk i t e1
   rw[e2] at e3;cases e3
   cases t with
   |val p=>cases ot
   |own ps=>obtain⟨b,eb,ho,_⟩:=d;cases eb;exact hz.stands ho
   |dic ks ps=>obtain⟨b,eb,ho,_⟩:=d;cases eb;exact hz.stands ho
  exact⟨fun y=>y.elim (hz.nb i a q).1 fun y=>(by obtain⟨o,e⟩:=e;rw[(n a y).1] at e;cases e),(hz.nb i a q).2⟩
 ·rcases q with q|q
  ·exact hz.bs b o e q
  ·have:=(hz.I.bs b o e).1
   rw[(n b q).1] at this;cases this
theorem Z.ok.less {s3:Shared}{σ:L2.St}{H:Hp}{ρ:ak}(hz:z.ok s)(n:∀b∈fp,s.heap.get? b=none)(ok:((z.wb fp).wi σ H ρ).ok s3)(I:Inv X z.pins σ H s')(k:∀b o,b∉fp->s3.heap.get? b=some o->s'.heap.get? b=some o):(z.wi σ H ρ).ok s':=by
 have kp:Kp (aF X (z.wb fp).bad H) (aF X z.bad H) s3.heap s'.heap:=⟨rfl,rfl,rfl,fun a o q g=>⟨⟨q.1,fun y=>q.2 (.inl y)⟩,k a o (fun y=>q.2 (.inr y)) g⟩⟩
 have no:∀a o,H a=some o->a∉fp:=fun a o q y=>(ok.ot a o q).1 (.inr y)
 refine⟨I,ok.len,fun i t q=>?_,ok.dj,fun i a o=>⟨fun y=>(ok.nb i a o).1 (.inl y),(ok.nb i a o).2⟩,ok.oh,ok.oh0,hz.loc,hz.cel,hz.fs,hz.ex,fun b q=>?_,hz.bs,fun a o q=>⟨fun y=>(ok.ot a o q).1 (.inl y),let ⟨ob,e1,e2⟩:=(ok.ot a o q).2;⟨ob,k a ob (no a o q) e1,e2⟩⟩,ok.anc⟩
 ·obtain⟨v,e1,r,d⟩:=ok.slk i t q
  exact⟨v,e1,r,d.mono kp fun a o h e=>k a o (no a _ h) e⟩
 ·obtain⟨o,e⟩:=ok.there b (.inl q)
  exact⟨o,k b o (fun y=>by obtain⟨o',e'⟩:=hz.there b q;rw[n b y] at e';cases e') e⟩
theorem Stp.less {h3:Heap}{bad:Addr->Prop}{H H':Hp}(e:Ext bad h h1)(n:∀b∈fp,h.get? b=none)(t:Stp (fun b=>bad b\/b∈fp) H H' h1 h3)(k:∀b o,b∉fp->h3.get? b=some o->h'.get? b=some o):Stp bad H H' h h':=by
 have no:∀a o,h.get? a=some o->a∉fp:=fun a o g y=>by rw[n a y] at g;cases g
 refine⟨fun a o nb q g=>?_,fun a o g=>?_⟩
 ·obtain⟨r1,r2⟩:=t.kp a o (fun y=>y.elim nb (no a o g)) q (e.kp a o nb g)
  exact⟨k a o (no a o g) r1,r2⟩
 ·obtain⟨o',q⟩:=e.th a o g
  obtain⟨o2,q⟩:=t.th a o' q
  exact⟨o2,k a o2 (no a o g) q⟩
theorem Z.sp.less {o:Out}{fl:Flow}(hz:z.ok s)(g:Ext z.bad s.heap s2.heap)(n:∀b∈fp,s.heap.get? b=none)(h:(z.wb fp).sp s2 o fl s'):z.sp s o fl s':=by
 have id':∀b o,b∉fp->s'.heap.get? b=some o->s'.heap.get? b=some o:=fun _ _ _ e=>e
 cases o with
 |nx ρ=>obtain⟨e,σ',H',a,b⟩:=h;exact⟨e,σ',H',hz.less n a a.I id',b.less g n id'⟩
 |bk ρ=>obtain⟨e,σ',H',a,b⟩:=h;exact⟨e,σ',H',hz.less n a a.I id',b.less g n id'⟩
 |ct ρ=>obtain⟨e,σ',H',a,b⟩:=h;exact⟨e,σ',H',hz.less n a a.I id',b.less g n id'⟩
 |rt p ρ=>obtain⟨u,σ',H',e,a,b,c⟩:=h;exact⟨u,σ',H',e,hz.less n a a.I id',b.less g n id',c.m (uz fun _=>.inl)⟩
 |rn p ρ=>obtain⟨u,σ',H',e,a,b,c,d,l⟩:=h;exact⟨u,σ',H',e,hz.less n a a.I id',b.less g n id',c,fun y=>d (.inl y),l.mono (uz fun _=>.inl) fun _ e=>e⟩
 |bad=>exact h
end
structure Trn (P:Program)(w:World)(tg:Expr)(it:Addr)(fp pl:List Addr)(its:List PV)(tn:Nat->Cn->Heap->Prop):Prop where
 obj:∀i c h,tn i c h->∀b∈fp,∃o,h.get? b=some o/\∀v,o.data≠.cell v
 keep:∀i c c' h h',tn i c h->Kp c c' h h'->(∀b,b∈fp\/b∈pl->∀o,h.get? b=some o->h'.get? b=some o)->tn i c' h'
 item:∀(X:Cx),X.prog=P->X.w=w->X.calm=true->∀(z:Z X) (s:Shared) (E:Value->Shared->Prop) (i:Nat) (p:PV),z.ok s->(∀b∈fp,fU X z.pins z.H b/\z.bad b)->(∀b∈pl,¬z.bad b)->tn i z.cn s.heap->its[i]?=some p →
  W X (pyNext (.ref it)) (fun r s1=>∃u,r=some u/\W X (letOwnedTupleGo tg (.ref it) u) (fun _ s2=>z.go s s2/\D z.cn s2.heap p u/\tn (i+1) z.cn s2.heap) E s1) E s
 done:∀(X:Cx),X.prog=P->X.w=w->X.calm=true->∀(z:Z X) (s:Shared) (E:Value->Shared->Prop) (i:Nat),z.ok s->(∀b∈fp,fU X z.pins z.H b/\z.bad b)->(∀b∈pl,¬z.bad b)->tn i z.cn s.heap->its.length≤i →
  W X (pyNext (.ref it)) (fun r s1=>r=none/\Inv X z.pins z.σ z.H s1/\∀b o,b∉fp->s.heap.get? b=some o->s1.heap.get? b=some o) E s
 self:∀(A:Around) (i:Nat) (c:Cn) (s:Shared) (Q:Value->Shared->Prop) (E:Value->Shared->Prop),tn i c s.heap->Q (.ref it) s->wpAny (model P w) A (pyIter (.ref it)) Q E s
noncomputable def Jc {X:Cx}(z:Z X)(tg:Expr)(still:Bool)(its:List PV)(s:Shared)(itv:Value)(s2:Shared):Prop:=
 ∃it fp pl tn,itv=.ref it/\(still=true->pl=[])/\(∀b∈pl,¬z.bad b/\b∉fp/\∃o,s2.heap.get? b=some o)/\Trn X.prog X.w tg it fp pl its tn/\z.go s s2/\(∀b∈fp,fU X z.pins z.H b/\s.heap.get? b=none)/\tn 0 (aF X (fun b=>z.bad b\/b∈fp) z.H) s2.heap
noncomputable def NI (X:Cx)(still:Bool)(tg iter:Expr)(f:FI):Prop:=∀(z:Z X) s its E,z.ok s->f z.ρ=some its->W X (eval iter X.env) (fun v s1=>W X (pyIter v) (Jc z tg still its s) E s1) E s
theorem NI.any {X:Cx}{st:Bool}{tg iter:Expr}{f:FI}(h:NI X true tg iter f):NI X st tg iter f:=fun z s its E hz e=>az (h z s its E hz e) fun v s1 q=>az q fun itv s2 ⟨it,fp,pl,tn,a,b,r⟩=>⟨it,fp,pl,tn,a,fun _=>b rfl,r⟩
noncomputable def aQ (t:FT)(s:FS):List PV->ak->Out
 |[],ρ=>.nx ρ
 |p::ps,ρ=>match t p ρ with
  |some ρ1=>match s ρ1 with
   |.nx ρ2=>aQ t s ps ρ2
   |.ct ρ2=>aQ t s ps ρ2
   |.bk ρ2=>.nx ρ2
   |o=>o
  |none=>.bad
noncomputable def iz (it:FI)(t:FT)(s:FS):FS:=fun ρ=>match it ρ with
 |some its=>aQ t s its ρ
 |none=>.bad
noncomputable def bj (c:FB)(s:FS):Nat->ak->Out
 |0,_=>.bad
 |n+1,ρ=>match c ρ with
  |some true=>match s ρ with
   |.nx ρ2=>bj c s n ρ2
   |.ct ρ2=>bj c s n ρ2
   |.bk ρ2=>.nx ρ2
   |o=>o
  |some false=>.nx ρ
  |none=>.bad
noncomputable def cR (c:FB)(s:FS):FS:=fun ρ=>bj c s 10000 ρ
section
variable {X:Cx}{tg iter:Expr}{body:List Stmt}{fi:FI}{t:FT}{g:FS}{pos:Pos}
theorem pinned {z:Z X}{s:Shared}{fp:List Addr}(hz:z.ok s)(f:∀b∈fp,fU X z.pins z.H b)(o:∀b∈fp,∃o,s.heap.get? b=some o/\∀v,o.data≠.cell v):(z.wp (iE fp s.heap)).ok s:=
 ⟨hz.I.pinned f o,hz.len,hz.slk,hz.dj,hz.nb,hz.oh,hz.oh0,hz.loc,hz.cel,hz.fs,hz.ex,hz.there,hz.bs,hz.ot,hz.anc⟩
theorem unpinned {z:Z X}{pl:List (Addr×Obj)}{s:Shared}{σ:L2.St}{H:Hp}{ρ:ak}(hz:((z.wp pl).wi σ H ρ).ok s):(z.wi σ H ρ).ok s:=
 ⟨hz.I.unpinned,hz.len,hz.slk,hz.dj,hz.nb,hz.oh,hz.oh0,hz.loc,hz.cel,hz.fs,hz.ex,hz.there,hz.bs,hz.ot,hz.anc⟩
theorem mI {z:Z X}{fp:List Addr}{h:Heap}{s:Shared}{σ:L2.St}{H:Hp}{ρ:ak}(hz:((z.wp (iE fp h)).wi σ H ρ).ok s)(b:Addr)(hb:b∈fp)(o:Obj)(e:h.get? b=some o):s.heap.get? b=some o:=
 (hz.I.pin (b,o) (List.mem_append_right _ (List.mem_append_right _ (tH hb e)))).1
theorem IL (hc:X.calm=true)(hi:NI X true tg iter fi)(hg:NG X tg t)(hb:xt X body g)(hs:∀x,foldedSetIterable iter X.env x=pure x:=by intro _;rfl):NS X (.For tg iter body [] pos) (iz fi t g):=fun z s E hz hn=>by
 unfold iz at hn ⊢
 split at hn
 ·next its ei=>
  refine wpAny_For (az (hi z s its E hz ei) fun v s1 h1=>az h1 fun itv s2 h2=>?_) hs
  obtain⟨it,fp,pl,tn,e,hpl,_,T,g2,f2,st2⟩:=h2
  cases hpl rfl
  subst e
  have z2:(z.wb fp).ok s2:=hz.more g2 fun b hb=>⟨(f2 b hb).2,let ⟨o,e,_⟩:=T.obj _ _ _ st2 b hb;⟨o,e⟩⟩
  have stat:∀{σ H ρ s'},((z.wb fp).wi σ H ρ).ok s'->∀b∈fp,fU X z.pins H b/\(z.wb fp).bad b:=fun {σ H ρ s'} ok b hb=>⟨⟨by
   cases q:H b with
   |none=>rfl
   |some o=>exact absurd (Or.inr hb) (ok.ot b o q).1,(f2 b hb).1.2⟩,.inr hb⟩
  have fin:∀{fl s'},(z.wb fp).sp s2 (aQ t g its z.ρ) fl s'->z.sp s (aQ t g its z.ρ) fl s':=fun h=>h.less hz g2.2 fun b hb=>(f2 b hb).2
  generalize ho:aQ t g its z.ρ=o at hn fin ⊢
  refine codeAny_forLoop_any (fun n s'=>∃i σ' H' ρ',n=its.length - i/\i≤its.length/\((z.wb fp).wi σ' H' ρ').ok s'/\Stp (z.wb fp).bad z.H H' s2.heap s'.heap/\tn i (aF X (z.wb fp).bad H') s'.heap/\aQ t g (its.drop i) ρ'=o) ?_ its.length ⟨0,z.σ,z.H,z.ρ,rfl,Nat.zero_le _,z2,Ext.refl.stp,st2,ho⟩
  rintro n s3 ⟨i,σ3,H3,ρ3,rfl,hi3,ok3,t3,st3,eo⟩
  by_cases hlt:i<its.length
  ·rw[List.drop_eq_getElem_cons hlt,aQ] at eo
   cases e1:t its[i] ρ3 with
   |none=>rw[e1] at eo;exact absurd eo.symm hn
   |some ρ4=>
   rw[e1] at eo
   simp only[] at eo
   refine az (T.item X rfl rfl hc ((z.wb fp).wi σ3 H3 ρ3) s3 _ i its[i] ok3 (stat ok3) (fun b q=>nomatch q) st3 (List.getElem?_eq_getElem hlt)) fun r s4 ⟨u,hr,h4⟩=>?_
   subst hr
   refine az h4 fun _ s5 ⟨g5,d5,st5⟩=>?_
   have ok5:=pinned g5.1 (fun b hb=>(stat g5.1 b hb).1) (T.obj _ _ _ st5)
   refine az (hg _ s5 its[i] u ρ4 _ ok5 d5 e1) fun _ s6 ⟨σ6,ok6,x6⟩=>?_
   have hnb:g ρ4≠.bad:=fun q=>by rw[q] at eo;exact hn eo.symm
   refine az (hb _ s6 _ ok6 hnb) fun f s7 q7=>?_
   have t6:Stp (z.wb fp).bad z.H H3 s2.heap s6.heap:=t3.trans (g5.2.trans x6).stp
   have again:∀{ρ7 σ7 H7},((((z.wb fp).wi σ3 H3 ρ3).wp (iE fp s5.heap)).wi σ7 H7 ρ7).ok s7->Stp (z.wb fp).bad H3 H7 s6.heap s7.heap->aQ t g (its.drop (i+1)) ρ7=o →
     ∃m,m<its.length - i/\∃i σ' H' ρ',m=its.length - i/\i≤its.length/\((z.wb fp).wi σ' H' ρ').ok s7/\Stp (z.wb fp).bad z.H H' s2.heap s7.heap/\tn i (aF X (z.wb fp).bad H') s7.heap/\aQ t g (its.drop i) ρ'=o:=fun {ρ7 σ7 H7} ok7 t7 e7=>by
    refine⟨its.length - (i+1),by omega,i+1,σ7,H7,ρ7,rfl,hlt,unpinned (z:=(z.wb fp).wi σ3 H3 ρ3) ok7,t6.trans t7,?_,e7⟩
    exact T.keep _ _ _ _ _ st5 (x6.stp.trans t7).kpD fun b hb=>hb.elim (fun hb=>mI (z:=(z.wb fp).wi σ3 H3 ρ3) ok7 b hb) fun q=>nomatch q
   generalize g ρ4=o4 at eo q7 hnb
   cases o4 with
   |nx ρ7=>obtain⟨e,σ7,H7,ok7,t7⟩:=q7;subst e;exact again ok7 t7 eo
   |ct ρ7=>obtain⟨e,σ7,H7,ok7,t7⟩:=q7;subst e;exact again ok7 t7 eo
   |bk ρ7=>obtain⟨e,σ7,H7,ok7,t7⟩:=q7;subst e;refine fin ?_;rw[←eo];exact⟨rfl,σ7,H7,unpinned (z:=(z.wb fp).wi σ3 H3 ρ3) ok7,t6.trans t7⟩
   |rt p ρ7=>obtain⟨u,σ7,H7,e,ok7,t7,d7⟩:=q7;subst e;refine fin ?_;rw[←eo];exact⟨u,σ7,H7,rfl,unpinned (z:=(z.wb fp).wi σ3 H3 ρ3) ok7,t6.trans t7,d7⟩
   |rn p ρ7=>obtain⟨u,σ7,H7,e,ok7,t7,d7⟩:=q7;subst e;refine fin ?_;rw[←eo];exact⟨u,σ7,H7,rfl,unpinned (z:=(z.wb fp).wi σ3 H3 ρ3) ok7,t6.trans t7,d7⟩
   |bad=>exact absurd rfl hnb
  ·rw[List.drop_eq_nil_of_le (by omega),aQ] at eo
   refine az (T.done X rfl rfl hc ((z.wb fp).wi σ3 H3 ρ3) s3 _ i ok3 (stat ok3) (fun b q=>nomatch q) st3 (by omega)) fun r s4 ⟨hr,I4,k4⟩=>?_
   subst hr
   refine wpAny_execs_nil ?_
   show Z.sp z s o .next _
   rw[←eo]
   exact⟨rfl,σ3,H3,hz.less (fun b hb=>(f2 b hb).2) ok3 I4 k4,t3.less g2.2 (fun b hb=>(f2 b hb).2) k4⟩
 ·exact absurd rfl hn
theorem BX {c:Expr}{fc:FB}(hc:NB X c fc)(hb:xt X body g):NS X (.While c body [] pos) (cR fc g):=fun z s E hz hn=>by
 unfold cR at hn ⊢
 generalize ho:bj fc g 10000 z.ρ=o at hn ⊢
 refine wpAny_While (codeAny_whileLoop (fun n s'=>∃σ' H' ρ',(z.wi σ' H' ρ').ok s'/\Stp z.bad z.H H' s.heap s'.heap/\bj fc g n ρ'=o) ?_ 10000 ⟨z.σ,z.H,z.ρ,hz,Ext.refl.stp,ho⟩)
 rintro n s1 ⟨σ1,H1,ρ1,ok1,t1,eo⟩
 cases n with
 |zero=>exact absurd eo.symm hn
 |succ n=>
  rw[bj] at eo
  cases ec:fc ρ1 with
  |none=>rw[ec] at eo;exact absurd eo.symm hn
  |some b=>
  rw[ec] at eo
  refine az (hc (z.wi σ1 H1 ρ1) s1 b _ ok1 ec) fun b' s2 ⟨e,g2⟩=>?_
  subst e
  cases b' with
  |true=>
   rw[if_pos rfl]
   have hnb:g ρ1≠.bad:=fun q=>by rw[q] at eo;exact hn eo.symm
   refine az (hb (z.wi σ1 H1 ρ1) s2 _ g2.1 hnb) fun f s3 q3=>?_
   have t2:Stp z.bad z.H H1 s.heap s2.heap:=t1.trans g2.2.stp
   simp only[] at eo
   generalize g ρ1=o4 at eo q3 hnb
   cases o4 with
   |nx ρ7=>obtain⟨e,σ7,H7,ok7,t7⟩:=q3;subst e;exact⟨n,Nat.lt_succ_self _,σ7,H7,ρ7,ok7,t2.trans t7,eo⟩
   |ct ρ7=>obtain⟨e,σ7,H7,ok7,t7⟩:=q3;subst e;exact⟨n,Nat.lt_succ_self _,σ7,H7,ρ7,ok7,t2.trans t7,eo⟩
   |bk ρ7=>obtain⟨e,σ7,H7,ok7,t7⟩:=q3;subst e;show Z.sp z s o .next _;rw[←eo];exact⟨rfl,σ7,H7,ok7,t2.trans t7⟩
   |rt p ρ7=>obtain⟨u,σ7,H7,e,ok7,t7,d7⟩:=q3;subst e;show Z.sp z s o (.ret u) _;rw[←eo];exact⟨u,σ7,H7,rfl,ok7,t2.trans t7,d7⟩
   |rn p ρ7=>obtain⟨u,σ7,H7,e,ok7,t7,d7⟩:=q3;subst e;show Z.sp z s o (.ret (.ref u)) _;rw[←eo];exact⟨u,σ7,H7,rfl,ok7,t2.trans t7,d7⟩
   |bad=>exact absurd rfl hnb
  |false=>
   rw[if_neg Bool.false_ne_true]
   refine wpAny_execs_nil ?_
   show Z.sp z s o .next _
   rw[←eo]
   exact⟨rfl,σ1,H1,g2.1,t1.trans g2.2.stp⟩
end
end Dp
end
section
namespace L2
open PySem PySem.Spec PyProof.Rows
section
variable {prog:Program}{w:World}{A:Around}{E:Value->Shared->Prop}{s:Shared}
theorem D2 {it t:Addr}{i:Nat}{items:Array Value}{x:Value}{Q:Value->Shared->Prop}(hit:s.heap.IsTupleIter it t i)(ht:s.heap.IsTuple t items)(hx:items[i]?=some x)
  (hQ:∀h',h'.IsTupleIter it t (i+1)->Heap.SameBut it s.heap h'->Q x { s with heap:=h' }):wpAny (model prog w) A (Builtin.SmallTypes.nextOf (.ref it)) Q E s:=by
 have hT:=hit.typeIs
 obtain⟨o,ho,hc,hd⟩:=hit;obtain⟨ol,hol,_,nl,hdl⟩:=ht
 unfold Builtin.SmallTypes.nextOf
 refine wpAny_bind (wpAny_callSpecial?_slot (name:=Str.ofString "__next__") hT F.slot_tuple_iterator_next (wpAny_call_entry F.slot_tuple_iterator_next hT F.entry_tuple_iterator_next ?_ (F.args_tuple_iterator_next_1 _)))
 refine (?_:wpAny _ _ (field (.ref it) 0 >>= _) _ _ s);refine wpAny_bind (wpAny_field ho hd (x:=.ref t) rfl (?_:wpAny _ _ (if (Value.ref t==Value.none)=true then _ else _) _ _ s))
 rw[if_neg (show ¬((Value.ref t==Value.none)=true) from Bool.false_ne_true)];refine (?_:wpAny _ _ (field (.ref it) 1 >>= _) _ _ s);refine wpAny_bind (wpAny_field ho hd (x:=.int i 0) rfl (?_:wpAny _ _ (seqItems? (.ref t) >>= _) _ _ s));refine wpAny_bind (m:=seqItems? (.ref t)) (wpAny_seqItems hol hdl ?_);simp only[Int.toNat_natCast,hx]
 refine wpAny_bind (wpAny_setField ho hd (by simp) (wpAny_pure ⟨x,rfl,wpAny_pure (hQ _ ⟨_,Heap.get?_update_self _ ho (Obj.isFreed_of_fields (Obj.data_mapFields hd _)),(Obj.cls_mapFields ..).trans hc,by rw[Obj.data_mapFields hd];simp[rawInt]⟩ (Heap.SameBut.update ..))⟩))
theorem t4 {it t:Addr}{i:Nat}{items:Array Value}{Q:Value->Shared->Prop}(hh:A.handled=none)(hit:s.heap.IsTupleIter it t i)(ht:s.heap.IsTuple t items)(hx:items[i]?=none)
  (hE:∀h' e,Heap.ExtBut it s.heap h'->(∃o,h'.get? e=some o/\o.cls=.type "StopIteration")->E (.ref e) { s with heap:=h' }):wpAny (model prog w) A (Builtin.SmallTypes.nextOf (.ref it)) Q E s:=by
 have hT:=hit.typeIs
 obtain⟨o,ho,hc,hd⟩:=hit;obtain⟨ol,hol,_,nl,hdl⟩:=ht
 unfold Builtin.SmallTypes.nextOf
 refine wpAny_bind (wpAny_callSpecial?_slot (name:=Str.ofString "__next__") hT F.slot_tuple_iterator_next (wpAny_call_entry F.slot_tuple_iterator_next hT F.entry_tuple_iterator_next ?_ (F.args_tuple_iterator_next_1 _)))
 refine (?_:wpAny _ _ (field (.ref it) 0 >>= _) _ _ s);refine wpAny_bind (wpAny_field ho hd (x:=.ref t) rfl (?_:wpAny _ _ (if (Value.ref t==Value.none)=true then _ else _) _ _ s))
 rw[if_neg (show ¬((Value.ref t==Value.none)=true) from Bool.false_ne_true)];refine (?_:wpAny _ _ (field (.ref it) 1 >>= _) _ _ s);refine wpAny_bind (wpAny_field ho hd (x:=.int i 0) rfl (?_:wpAny _ _ (seqItems? (.ref t) >>= _) _ _ s));refine wpAny_bind (m:=seqItems? (.ref t)) (wpAny_seqItems hol hdl ?_);simp only[Int.toNat_natCast,hx]
 refine wpAny_bind (wpAny_rule (wpAny_bind (wpAny_setField ho hd (by simp) (?_:wpAny _ _ (newExc (.type "StopIteration") [] >>= _) _ _ _))))
 refine wpAny_bind ?_;simp only[newExc,newTuple];refine wpAny_bind (wpAny_newObj_type ?_ (by size_fits))
 refine wpAny_bind (m:=firstArgMember _ _) (wpAny_of_eq (a:=Value.none) (by first|rfl|(simp only[firstArgMember];rfl)) (wpAny_newObj_type ?_ (by size_fits)))
 simp only[raiseNew];refine wpAny_bind (wpAny_handled ?_);first|rw[show A.in1.handled=none from hh]|rw[hh]
 exact wpAny_bind (wpAny_pure (wpAny_throw (hE _ _ (((Heap.SameBut.update ..).extBut.push _).push _) ⟨_,Heap.get?_push_size _ rfl,rfl⟩)))
end
theorem lZ {h h':Heap}{a t:Addr}{i:Nat}(x:h.IsTupleIter a t i)(k:∀o,h.get? a=some o->h'.get? a=some o):h'.IsTupleIter a t i:=let ⟨o,ho,r⟩:=x;⟨o,k o ho,r⟩
theorem CB {h h':Heap}{a:Addr}{its:Array Value}(x:h.IsTuple a its)(k:∀o,h.get? a=some o->h'.get? a=some o):h'.IsTuple a its:=let ⟨o,ho,r⟩:=x;⟨o,k o ho,r⟩
theorem Ei {prog:Program}{w:World}{A:Around}(hh:A.handled=none)(it l:Addr)(hne:l≠it)(items:Array Value):Draws prog w A it [it,l] items.size (fun i v=>items[i]?=some v) (fun i h=>h.IsTupleIter it l i/\h.IsTuple l items) where
 live:=fun _ _ ⟨⟨o,ho,_⟩,_⟩=>⟨o,ho⟩
 frame:=fun _ _ _ ⟨a,b⟩ hk=>⟨lZ a fun o e=>hk it (by simp) o e,CB b fun o e=>hk l (by simp) o e⟩
 item:=fun i s Q E hi ⟨a,b⟩ hQ=>D2 a b (x:=items[i]) (by simp[hi]) fun h' hit' hs'=>hQ _ h' s.toks (by simp[hi]) ⟨hit',b.extBut hs'.extBut hne⟩ hs'
 done:=fun s Q E ⟨a,b⟩ hE=>t4 hh a b (by simp) hE
open AutoSeq1 (wpAny_loadPart') in
theorem BY (l:Addr)(items:Array Value)(n:Nat)(dct:Option Addr)(sl:Array (Option Value)):Meets (Builtin.«enumerate.__new__» ⟨[.type "enumerate",.ref l],[]⟩) (fun _ R s=>s.heap.get? l=some { cls:=.type "tuple",dict:=dct,data:=.seq items n,slots:=sl }/\R (.ok (.ret (.ref (s.heap.push { cls:=.type "tuple_iterator",data:=.fields #[.ref l,.int 0 0] }).objs.size))) { s with heap:=(s.heap.push { cls:=.type "tuple_iterator",data:=.fields #[.ref l,.int 0 0] }).push { cls:=.type "enumerate",data:=.fields #[.none,.bool false,.ref s.heap.objs.size,rawInt 0,.none,.none] } }):=
 .of_wp fun prog w A R s h=>by
  obtain⟨hp,g,d,tk,os⟩:=s;obtain⟨hl,h⟩:=h
  have hsub:=sub_enumerate;have hL:Heap.IsTuple (Shared.heap ⟨hp,g,d,tk,os⟩) l items:=⟨_,hl,rfl,n,rfl⟩
  wp_walk using wpAny_loadPart' hl;refine wpAny_stack_any fun st=>wpAny_pure ?_
  split
  ·rename_i c _ _ _ _ _;cases (c==Value.type "enumerate")<;>(wp_walk using wpAny_loadPart' hl,wpAny_pyIter_tuple hL;exact⟨_,rfl,h⟩)
  ·wp_walk using wpAny_loadPart' hl,wpAny_pyIter_tuple hL;exact⟨_,rfl,h⟩
section
variable {prog:Program}{w:World}{A:Around}{E:Value->Shared->Prop}{s:Shared}
theorem yl {l:Addr}{items:Array Value}{Q:Value->Shared->Prop}(hL:s.heap.IsTuple l items)
  (h:∀h',IsEnum h' (s.heap.objs.size+1) s.heap.objs.size 0 .none->h'.IsTupleIter s.heap.objs.size l 0->h'.objs.size=s.heap.objs.size+2->(∀b o,s.heap.get? b=some o->h'.get? b=some o)->Q (.ref (s.heap.objs.size+1)) { s with heap:=h' }):wpAny (model prog w) A (call (.type "enumerate") [.ref l]) Q E s:=by
 obtain⟨⟨c,dct,dt,sl⟩,hl,hc,n,hd⟩:=hL;replace hc:c=.type "tuple":=hc;replace hd:dt=.seq items n:=hd;subst hc hd
 refine callType_new F.called_enumerate (by decide) (F.typeCall_enumerate_1 _) (F.newCall_enumerate_1 _) (fun obj=>F.args_object_init_2 obj _) F.entry_enumerate_new (BY l items n dct sl) ⟨hl,?_⟩
 have hz:(s.heap.push { cls:=.type "tuple_iterator",data:=.fields #[.ref l,.int 0 0] }).objs.size=s.heap.objs.size+1:=Heap.size_push ..
 refine (?_:_/\_);rw[hz]
 have he:IsEnum ((s.heap.push { cls:=.type "tuple_iterator",data:=.fields #[.ref l,.int 0 0] }).push { cls:=.type "enumerate",data:=.fields #[.none,.bool false,.ref s.heap.objs.size,rawInt 0,.none,.none] }) (s.heap.objs.size+1) s.heap.objs.size 0 .none:=by
  have:=Heap.get?_push_size (s.heap.push { cls:=.type "tuple_iterator",data:=.fields #[.ref l,.int 0 0] }) (o:={ cls:=.type "enumerate",data:=.fields #[.none,.bool false,.ref s.heap.objs.size,rawInt 0,.none,.none] }) rfl
  rw[hz] at this;exact this
 exact⟨⟨_,he,rfl⟩,h _ he ⟨_,Heap.get?_push_of_some _ (Heap.get?_push_size _ rfl),rfl,rfl⟩ (by rw[Heap.size_push,hz]) fun b o x=>Heap.get?_push_of_some _ (Heap.get?_push_of_some _ x)⟩
end
end L2
end
section
namespace Dp
open PySem PySem.Spec L2 PyProof.Rows
section
variable {P:Program}{w:World}{tg:Expr}{h h':Heap}
theorem u7 {a it:Addr}{ps:List PV}{ow:Bool}:Trn P w tg it [it] (if ow then [a] else []) ps (fun i c h=>h.IsListIter it a i/\ListAt c h a ps/\(ow=false->c.ok a)) where
 obj:=fun i c h st b hb=>by
  have e:b=it:=by simpa using hb
  subst e
  obtain⟨⟨o,e,_,d⟩,_⟩:=st
  exact⟨o,e,fun v z=>by rw[d] at z;cases z⟩
 keep:=fun i c c' h h' st k kk=>by
  obtain⟨st,l,ok⟩:=st
  refine⟨st.at fun o e=>kk it (.inl (by simp)) o e,l.mono k fun o e=>?_,fun e=>?_⟩
  ·cases ow with
   |true=>exact kk a (.inr (by simp)) o e
   |false=>exact (k.kp a o (ok rfl) e).2
  ·obtain⟨its,n,g,_⟩:=l
   exact (k.kp a _ (ok e) g).1
 item:=fun X hP hw hc z s E i p hz hf hp st hx=>by
  subst hP hw
  obtain⟨st,l,ok⟩:=st
  obtain⟨its,n,g,zl,ds⟩:=id l
  obtain⟨u,hu,du⟩:=ds.get hx
  refine wpAny_pyNext_list_item st (aL g) (x:=u) (by simpa using hu) fun h' st' sb=>?_
  have nb:a≠it:=fun e=>by
   obtain⟨o,e1,c1,_⟩:=st
   rw[←e,g] at e1;cases e1;exact absurd (Value.type.inj c1) (by decide)
  have go:=hz.turn (t:=s.toks) (h':=h') hf (fun b o hb e=>(sb.2 b (by simpa using hb)).trans e) fun b hb=>by
   rw[show b=it by simpa using hb];exact⟨_,st'.choose_spec.1⟩
  have kp:Kp z.cn z.cn s.heap h':=go.2.kpD
  obtain⟨o,e,c,d⟩:=id st'
  exact⟨u,rfl,lg (s:={ s with heap:=h' }) e c d (by decide) ⟨go,du.m kp,st',l.mono kp fun o e=>(sb.2 a nb).trans e,ok⟩⟩
 done:=fun X hP hw hc z s E i hz hf hp st hx=>by
  subst hP hw
  obtain⟨st,l,ok⟩:=st
  obtain⟨its,n,g,zl,ds⟩:=l
  have hl:=ds.length
  obtain⟨f,bd⟩:=hf it (by simp)
  exact wpAny_pyNext_list_end (hz.I.ok.hd hc) st (aL g) (by simp;omega) fun h' eb=>⟨rfl,hz.I.turned (t':=s.toks) (fun b o hb e=>eb b o hb e) f.1 f.2.1 f.2.2.2.1 f.2.2.2.2.1 f.2.2.2.2.2,fun b o hb e=>eb b o (by simpa using hb) e⟩
 self:=fun A i c s Q E st q=>wpAny_pyIter_listiter st.1 q
theorem Ff {a it:Addr}{ps:List PV}:Trn P w tg it [it] [] ps (fun i c h=>h.IsTupleIter it a i/\∃its,IsTup h a its.toArray/\its.length≤sizeLine/\Ds c h ps its/\c.ok a) where
 obj:=fun i c h st b hb=>by
  have e:b=it:=by simpa using hb
  subst e
  obtain⟨⟨o,e,_,d⟩,_⟩:=st
  exact⟨o,e,fun v z=>by rw[d] at z;cases z⟩
 keep:=fun i c c' h h' st k kk=>by
  obtain⟨st,its,⟨o,g,r⟩,zl,ds,ok⟩:=st
  exact⟨lZ st fun o e=>kk it (.inl (by simp)) o e,its,⟨o,(k.kp a _ ok g).2,r⟩,zl,ds.mono k,(k.kp a _ ok g).1⟩
 item:=fun X hP hw hc z s E i p hz hf hp st hx=>by
  subst hP hw
  obtain⟨st,its,g,zl,ds,ok⟩:=st
  obtain⟨u,hu,du⟩:=ds.get hx
  refine wpAny_pyNext_tuple_item st (show s.heap.IsTuple a its.toArray from g) (x:=u) (by simpa using hu) fun h' st' sb=>?_
  have go:=hz.turn (t:=s.toks) (h':=h') hf (fun b o hb e=>(sb.2 b (by simpa using hb)).trans e) fun b hb=>by
   rw[show b=it by simpa using hb];exact⟨_,st'.choose_spec.1⟩
  have kp:Kp z.cn z.cn s.heap h':=go.2.kpD
  obtain⟨o,e,c,d⟩:=id st'
  obtain⟨o2,g2,r2⟩:=g
  exact⟨u,rfl,lg (s:={ s with heap:=h' }) e c d (by decide) ⟨go,du.m kp,st',its,⟨o2,(kp.kp a _ ok g2).2,r2⟩,zl,ds.mono kp,ok⟩⟩
 done:=fun X hP hw hc z s E i hz hf hp st hx=>by
  subst hP hw
  obtain⟨st,its,g,zl,ds,ok⟩:=st
  have hl:=ds.length
  obtain⟨f,bd⟩:=hf it (by simp)
  exact wpAny_pyNext_tuple_end (hz.I.ok.hd hc) st (show s.heap.IsTuple a its.toArray from g) (by simp;omega) fun h' eb=>⟨rfl,hz.I.turned (t':=s.toks) (fun b o hb e=>eb b o hb e) f.1 f.2.1 f.2.2.2.1 f.2.2.2.2.1 f.2.2.2.2.2,fun b o hb e=>eb b o (by simpa using hb) e⟩
 self:=fun A i c s Q E st q=>wpAny_pyIter_tupleiter st.1 q
noncomputable def oI (lo:Int)(n:Nat)(c:Int):List PV:=(List.range n).map fun k:Nat=>.int (lo+k * c)
theorem AK {lo c:Int}{n i:Nat}{p:PV}(e:(oI lo n c)[i]?=some p):i<n/\p=.int (lo+i * c):=by
 unfold oI at e
 rw[List.getElem?_map] at e
 obtain⟨k,ek,rfl⟩:=Option.map_eq_some_iff.mp e
 obtain⟨hk,rfl⟩:=List.getElem?_eq_some_iff.mp ek
 exact⟨by simpa using hk,by rw[List.getElem_range]⟩
theorem su {lo:Int}{n:Nat}:oI lo n 1=qc lo n:=by unfold oI qc;simp only[Int.mul_one]
theorem Ed {it:Addr}{lo c0:Int}{n:Nat}:Trn P w tg it [it] [] (oI lo n c0) (fun i c h=>IsRangeIter h it (lo+(i:Nat) * c0) ((n:Int) - (i:Nat)) c0) where
 obj:=fun i c h st b hb=>by
  have e:b=it:=by simpa using hb
  subst e
  exact⟨_,st,fun v z=>by
   have z':Data.fields _=Data.cell v:=z
   cases z'⟩
 keep:=fun i c c' h h' st k kk=>kk it (.inl (by simp)) _ st
 item:=fun X hP hw hc z s E i p hz hf hp st hx=>by
  subst hP hw
  obtain⟨hi,rfl⟩:=AK hx
  have W:=Walks.range (prog:=X.prog) (w:=X.w) (hz.I.ok.hd hc) it lo c0 n
  refine W.item i s _ _ hi st fun v h' tk hv st' kk=>?_
  obtain⟨t,rfl⟩:=hv
  have go:=hz.turn (t:=tk) (h':=h') hf (fun b o hb e=>kk b o hb e) fun b hb=>by
   rw[show b=it by simpa using hb];exact⟨_,st'⟩
  exact⟨_,rfl,lg (s:={ s with heap:=h',toks:=tk }) (n:="range_iterator") st' rfl rfl (by decide) ⟨go,⟨t,rfl⟩,st'⟩⟩
 done:=fun X hP hw hc z s E i hz hf hp st hx=>by
  subst hP hw
  obtain⟨f,bd⟩:=hf it (by simp)
  exact wpAny_pyNext_range_end (hz.I.ok.hd hc) st (by have:n≤i:=(by simpa [oI] using hx);omega) fun h' eb=>⟨rfl,hz.I.turned (t':=s.toks) (fun b o hb e=>eb b o hb e) f.1 f.2.1 f.2.2.2.1 f.2.2.2.2.1 f.2.2.2.2.2,fun b o hb e=>eb b o (by simpa using hb) e⟩
 self:=fun A i c s Q E st q=>wpAny_pyIter_rangeiter st q
end
section
variable {X:Cx}{tg iter:Expr}{f:FE}{fs:FA}{st:Bool}{z:Z X}{s s1:Shared}
noncomputable def lF (f:FE):FI:=fun ρ=>(f ρ).bind fun r=>r.fr.bind items
noncomputable def IK (f:FE):FI:=fun ρ=>(f ρ).bind fun r=>hW r.pv
theorem Z.ok.fp (hz:z.ok s1)(g:Ext z.bad s.heap s1.heap){b:Addr}(hb:s1.heap.objs.size≤b):fU X z.pins z.H b/\s.heap.get? b=none:=
 ⟨hz.I.fpOk hb (hz.I.hok.fresh hb),Ext.back g (Heap.get?_none_of_le hb)⟩
theorem cT {P:Addr->Prop}{a:Addr}(h:P a):∀b∈[a],P b:=fun b hb=>by rw[show b=a by simpa using hb];exact h
theorem rj (hz:z.ok s1){h2:Heap}{fp:List Addr}(k:∀b o,s1.heap.get? b=some o->h2.get? b=some o)(n:∀b∈fp,s1.heap.objs.size≤b):Kp z.cn (aF X (fun b=>z.bad b\/b∈fp) z.H) s1.heap h2:=
 lY (.kept k) fun b y=>y.imp id fun y=>Heap.get?_none_of_le (n b y)
theorem yF {p:PV}{its:List PV}{v:Value}{E:Value->Shared->Prop}(g:z.go s s1)(d:D z.cn s1.heap p v)(e:items p=some its):W X (pyIter v) (Jc z tg true its s) E s1:=by
 obtain⟨a,us,rfl,ok,zl,ds,h⟩:=D1.items d e
 have g2:∀o:Obj,z.go s { s1 with heap:=s1.heap.push o }:=fun o=>g.trans (g.1.push o s1.toks)
 have kk:∀o:Obj,Kp z.cn (aF X (fun b=>z.bad b\/b∈[s1.heap.objs.size]) z.H) s1.heap (s1.heap.push o):=fun o=>rj g.1 (fun b o e=>Heap.get?_push_of_some _ e) (cT (P:=fun b=>s1.heap.objs.size≤b) (Nat.le_refl _))
 rcases h with ⟨o,ho,r⟩|⟨n,ho⟩
 ·have ht:s1.heap.IsTuple a us.toArray:=⟨o,ho,r⟩
  refine wpAny_pyIter_tuple ht ⟨s1.heap.objs.size,[s1.heap.objs.size],[],_,rfl,fun _=>rfl,fun b q=>(nomatch q),Ff (a:=a),g2 _,cT (g.1.fp g.2 (Nat.le_refl _)),⟨_,Heap.get?_push_size _ rfl,rfl,rfl⟩,us,⟨o,Heap.get?_push_of_some _ ho,r⟩,zl,ds.mono (kk _),((kk (cx [] 0)).kp a o ok ho).1⟩
 ·refine wpAny_pyIter_list (aL ho) ⟨s1.heap.objs.size,[s1.heap.objs.size],[],_,rfl,fun _=>rfl,fun b q=>(nomatch q),u7 (a:=a) (ow:=false),g2 _,cT (g.1.fp g.2 (Nat.le_refl _)),⟨_,Heap.get?_push_size _ rfl,rfl,rfl⟩,⟨us,n,Heap.get?_push_of_some _ ho,zl,ds.mono (kk _)⟩,fun _=>((kk (cx [] 0)).kp a _ ok ho).1⟩
theorem q9 (h:NE X iter f):NI X true tg iter (lF f):=fun z s its E hz q=>by
 obtain⟨r,e1,q⟩:=Option.bind_eq_some_iff.mp q
 obtain⟨p,e2,q⟩:=Option.bind_eq_some_iff.mp q
 exact az (h z s r E hz e1) fun v s1 q1=>yF q1.1 (q1.2.fr e2) q
theorem F2 (h:NE X iter f):NI X false tg iter (IK f):=fun z s its E hz q=>by
 obtain⟨r,e1,q⟩:=Option.bind_eq_some_iff.mp q
 refine az (h z s r E hz e1) fun v s1 q1=>?_
 cases hr:r.fr with
 |some p=>
  have:r.pv=p:=by cases r<;>cases hr<;>rfl
  subst this
  exact az (yF q1.1 (q1.2.fr hr) (by cases hp:r.pv<;>rw[hp] at q<;>first|exact q|cases q)) fun itv s2 ⟨it,fp,pl,tn,a,b,r⟩=>⟨it,fp,pl,tn,a,fun _=>b rfl,r⟩
 |none=>
  cases r with
  |ln p=>
   obtain⟨g,⟨d,lb,nb⟩⟩:=q1
   have d:=D1.lst d q
   obtain⟨a,us,n,rfl,_,ho,zl,ds⟩:=d
   have kk:=rj (fp:=[s1.heap.objs.size]) g.1 (fun b o e=>Heap.get?_push_of_some (h:=s1.heap) { cls:=.type "list_iterator",data:=.fields #[.ref a,.int 0 0] } e) (cT (P:=fun b=>s1.heap.objs.size≤b) (Nat.le_refl _))
   refine wpAny_pyIter_list (aL ho) ⟨s1.heap.objs.size,[s1.heap.objs.size],[a],_,rfl,fun e=>(nomatch e),fun b hb=>(by rw[show b=a by simpa using hb];exact⟨nb a rfl,fun y=>(by rw[show a=s1.heap.objs.size by simpa using y] at ho;exact absurd (Heap.lt_size ho) (Nat.lt_irrefl _)),_,Heap.get?_push_of_some _ ho⟩),u7 (a:=a) (ow:=true),g.trans (g.1.push _ s1.toks),cT (g.1.fp g.2 (Nat.le_refl _)),⟨_,Heap.get?_push_size _ rfl,rfl,rfl⟩,⟨us,n,Heap.get?_push_of_some _ ho,zl,ds.mono kk⟩,fun e=>(nomatch e)⟩
  |_=>cases hr
noncomputable def EV (i:Int):Bool:=decide (-(2 ^ 62)≤i)&&decide (i<2 ^ 62)
theorem tY {i:Int}(h:EV i=true):-(2 ^ 62)≤i/\i<2 ^ 62:=by
 unfold EV at h
 rw[Bool.and_eq_true,decide_eq_true_eq,decide_eq_true_eq] at h
 exact h
noncomputable def ok3 (i j c:Int):Bool:=decide (c≠0)&&Builtin.Range.small i j c&&decide (0≤Builtin.Range.rangeSize i j c)&&!Builtin.divisionGoesByPylong (j - i) c
noncomputable def kr:List PV->Option (List PV)
 |[.int j]=>if EV j then some (qc 0 j.toNat) else none
 |_=>none
noncomputable def Ey:List PV->Option (List PV)
 |[.int i,.int j]=>if EV i&&EV j then some (qc i (j - i).toNat) else none
 |_=>none
noncomputable def xi:List PV->Option (List PV)
 |[.int i,.int j,.int c]=>if ok3 i j c then some (oI i (Builtin.Range.rangeSize i j c).toNat c) else none
 |_=>none
noncomputable def jD (g:List PV->Option (List PV))(fs:FA):FI:=fun ρ=>(fs ρ).bind fun rs=>g (rs.map RV.pv)
theorem tR {its:List PV}{lo hi c:Int}{t u v:Tok}{tk:Nat}{E:Value->Shared->Prop}(g:z.go s s1)(h1:Builtin.Range.small lo hi c=true)(h2:0≤Builtin.Range.rangeSize lo hi c)(e:its=oI lo (Builtin.Range.rangeSize lo hi c).toNat c) :
  W X (pyIter (.ref s1.heap.objs.size)) (Jc z tg true its s) E { s1 with heap:=s1.heap.push { cls:=.type "range",data:=.fields #[.int lo t,.int hi u,.int c v] },toks:=tk }:=by
 subst e
 generalize ho:({ cls:=.type "range",data:=.fields #[.int lo t,.int hi u,.int c v] }:Obj)=o
 have g2:=g.trans (g.1.push o tk)
 refine wpAny_pyIter_range (by subst ho;exact IsRange.new ..) h1 ⟨(s1.heap.push o).objs.size,[(s1.heap.push o).objs.size],[],_,rfl,fun _=>rfl,fun b q=>(nomatch q),Ed,g2.trans (g2.1.push _ tk),cT (g2.1.fp g2.2 (Nat.le_refl _)),?_⟩
 have e1:lo+((0:Nat):Int) * c=lo:=by simp
 have e2:(((Builtin.Range.rangeSize lo hi c).toNat:Nat):Int) - ((0:Nat):Int)=Builtin.Range.rangeSize lo hi c:=by omega
 show IsRangeIter _ _ (lo+((0:Nat):Int) * c) ((((Builtin.Range.rangeSize lo hi c).toNat:Nat):Int) - ((0:Nat):Int)) c
 rw[e1,e2]
 exact Heap.get?_push_size _ rfl
variable {a b d:Expr}{p pos:Pos}
theorem Ja {i j:Int}:0≤Builtin.Range.rangeSize i j 1/\(Builtin.Range.rangeSize i j 1).toNat=(j - i).toNat:=by
 rw[rangeSize_one];split<;>constructor<;>omega
theorem yR (hg:Gl X "range")(hm:X.mg "range" = none)(ha:NA X [a] fs)(hs:starEach [a] X.env=[(false,eval a X.env)]):NI X true tg (.Call (.Name "range" p) [a] [] pos) (jD kr fs):=fun z s its E hz q=>by
 obtain⟨rs,er,q⟩:=Option.bind_eq_some_iff.mp q
 refine Call_ (jl hz.I hg hm boot_range (PyProof.Rows.callWith_type1 (az (ha z pos s rs E hz er) fun us s1 ⟨g1,d1⟩=>?_) hs rfl))
 have d:=d1.rv
 unfold kr at q
 split at q
 ·next j ej=>
  split at q
  ·next h=>
   cases q
   rw[ej] at d
   obtain⟨u,rfl,⟨t,rfl⟩,_⟩:=d.one
   obtain⟨h1,h2⟩:=tY h
   exact call_range_1 (tR g1 (small_one (by omega) (by omega) h1 h2) Ja.1 (by rw[Ja.2,su,Int.sub_zero]))
  ·cases q
 ·cases q
theorem Ek (hg:Gl X "range")(hm:X.mg "range" = none)(ha:NA X [a,b] fs)(hs:starEach [a,b] X.env=[(false,eval a X.env),(false,eval b X.env)])(hs2:starEach [b] X.env=[(false,eval b X.env)]):NI X true tg (.Call (.Name "range" p) [a,b] [] pos) (jD Ey fs):=fun z s its E hz q=>by
 obtain⟨rs,er,q⟩:=Option.bind_eq_some_iff.mp q
 refine Call_ (jl hz.I hg hm boot_range (PyProof.Rows.callWith_type1 (az (ha z pos s rs E hz er) fun us s1 ⟨g1,d1⟩=>?_) (by rw[hs,hs2]) (by rw[hs2];rfl)))
 have d:=d1.rv
 unfold Ey at q
 split at q
 ·next i j ej=>
  split at q
  ·next h=>
   cases q
   rw[ej] at d
   obtain⟨u,v,rfl,⟨⟨t,rfl⟩,_⟩,⟨t',rfl⟩,_⟩:=d.two
   rw[Bool.and_eq_true] at h
   obtain⟨h1,h2⟩:=tY h.1
   obtain⟨h3,h4⟩:=tY h.2
   exact call_range_2 (tR g1 (small_one h1 h2 h3 h4) Ja.1 (by rw[Ja.2,su]))
  ·cases q
 ·cases q
theorem Eg (hg:Gl X "range")(hm:X.mg "range" = none)(ha:NA X [a,b,d] fs)(hs:starEach [a,b,d] X.env=[(false,eval a X.env),(false,eval b X.env),(false,eval d X.env)])(hs2:starEach [b,d] X.env=[(false,eval b X.env),(false,eval d X.env)]) :
  NI X true tg (.Call (.Name "range" p) [a,b,d] [] pos) (jD xi fs):=fun z s its E hz q=>by
 obtain⟨rs,er,q⟩:=Option.bind_eq_some_iff.mp q
 refine Call_ (jl hz.I hg hm boot_range (PyProof.Rows.callWith_type1 (az (ha z pos s rs E hz er) fun us s1 ⟨g1,d1⟩=>?_) (by rw[hs,hs2]) (by rw[hs2];rfl)))
 have d:=d1.rv
 unfold xi at q
 split at q
 ·next i j c ej=>
  split at q
  ·next h=>
   cases q
   rw[ej] at d
   cases d with
   |cons r rr=>cases rr with
    |cons r' rr=>cases rr with
     |cons r'' rr=>
      cases rr
      obtain⟨t,rfl⟩:=r.rd
      obtain⟨t',rfl⟩:=r'.rd
      obtain⟨t'',rfl⟩:=r''.rd
      unfold ok3 at h
      rw[Bool.and_eq_true,Bool.and_eq_true,Bool.and_eq_true,decide_eq_true_eq,decide_eq_true_eq,Bool.not_eq_true'] at h
      exact call_range_3 h.1.1.1 (tR g1 h.1.1.2 h.1.2 rfl) (.inl h.2)
  ·cases q
 ·cases q
end
noncomputable def cO:Nat->List PV->List PV
 |_,[]=>[]
 |k,p::ps=>.tup [.int k,p]::cO (k+1) ps
theorem kX:∀(k:Nat) (ps:List PV),(cO k ps).length=ps.length
 |_,[]=>rfl
 |k,_::ps=>by rw[cO,List.length_cons,List.length_cons,kX]
theorem kC:∀{ps:List PV} {k i:Nat} {q:PV},(cO k ps)[i]?=some q->∃p,ps[i]?=some p/\q=.tup [.int (k+i:Nat),p]
 |[],_,_,_,e=>by simp[cO] at e
 |p::ps,k,0,q,e=>by simp[cO] at e;exact⟨p,rfl,by rw[←e];rfl⟩
 |p::ps,k,i+1,q,e=>by
  obtain⟨p',h1,h2⟩:=kC (ps:=ps) (k:=k+1) (i:=i) (by simpa [cO] using e)
  exact⟨p',by simpa using h1,by rw[h2,Nat.add_right_comm];rfl⟩
section
variable {P:Program}{w:World}{h h':Heap}{elts:List Expr}{x1:Nat}{tpos:Pos}
theorem wo {X:Cx}{z:Z X}{s:Shared}{e it:Addr}{h1 h2:Heap}{tk tk2:Nat}{p:PV}{u:Value}{i:Nat}(hz:z.ok s)(hf:∀b∈[e,it],fU X z.pins z.H b/\z.bad b)(du:D z.cn s.heap p u)(tup:h1.get? s.heap.objs.size=some { cls:=.type "tuple",data:=.seq #[.int i tk,u] })
  (kp:∀b o,b≠e->b≠it->s.heap.get? b=some o->h1.get? b=some o) (ee:∃o,h2.get? e=some o) (ei:∃o,h2.get? it=some o) (sb:Heap.SameBut e h1 h2) (le:∀b∈[e,it],∃o,s.heap.get? b=some o) :
  z.go s { s with heap:=h2,toks:=tk2 }/\D z.cn h2 (.tup [.int i,p]) (.ref s.heap.objs.size):=by
 have go:=hz.turn (t:=tk2) (h':=h2) hf (fun b o hb q=>by
  have n1:b≠e:=fun y=>hb (by simp[y])
  exact (sb.2 b n1).trans (kp b o n1 (fun y=>hb (by simp[y])) q)) fun b hb=>by
   rcases List.mem_cons.mp hb with y|y
   ·rw[y];exact ee
   ·rw[show b=it by simpa using y];exact ei
 have ne:s.heap.objs.size≠e:=fun y=>by obtain⟨o,q⟩:=le e (by simp);rw[←y] at q;exact absurd (Heap.lt_size q) (Nat.lt_irrefl _)
 refine⟨go,s.heap.objs.size,[.int i tk,u],rfl,hz.free (Heap.get?_none_of_le (Nat.le_refl _)),⟨_,(sb.2 _ ne).trans tup,rfl,_,rfl⟩,(by show 2≤sizeLine;decide),_,_,rfl,⟨tk,rfl⟩,u,[],rfl,du.m go.2.kpD,rfl⟩
theorem qv {a e it:Addr}{i:Nat}{h:Heap}(he:∃old,IsEnum h e it i old)(hi:∃o,h.get? it=some o/\∀v,o.data≠.cell v):∀b∈[e,it],∃o,h.get? b=some o/\∀v,o.data≠.cell v:=fun b hb=>by
 rcases List.mem_cons.mp hb with y|y
 ·rw[y]
  obtain⟨old,he⟩:=he
  exact⟨_,he,fun v q=>by
   have q':Data.fields _=Data.cell v:=q
   cases q'⟩
 ·rw[show b=it by simpa using y];exact hi
theorem IB {a e it:Addr}(hne:e≠it){ps:List PV}:Trn P w (.Tuple elts x1 tpos) e [e,it] [] (cO 0 ps) (fun i c h=>(∃old,IsEnum h e it i old)/\h.IsListIter it a i/\ListAt c h a ps/\c.ok a) where
 obj:=fun i c h st=>qv (a:=a) st.1 (by obtain⟨_,⟨o,e,_,d⟩,_⟩:=st;exact⟨o,e,fun v y=>by rw[d] at y;cases y⟩)
 keep:=fun i c c' h h' st k kk=>by
  obtain⟨⟨old,he⟩,st,l,ok⟩:=st
  obtain⟨its,n,g,r⟩:=id l
  exact⟨⟨old,kk e (.inl (by simp)) _ he⟩,st.at fun o q=>kk it (.inl (by simp)) o q,l.mono k fun o q=>(k.kp a o ok q).2,(k.kp a _ ok g).1⟩
 item:=fun X hP hw hc z s E i p hz hf hp st hx=>by
  subst hP hw
  obtain⟨⟨old,he⟩,st,l,ok⟩:=st
  obtain⟨its,n,g,zl,ds⟩:=id l
  obtain⟨p',hx2,rfl⟩:=kC hx
  rw[Nat.zero_add]
  obtain⟨u,hu,du⟩:=ds.get hx2
  refine wpAny_pyNext_enum_item he st (aL g) (x:=u) (by simpa using hu) hne fun h' out lit tup sz kp=>⟨_,rfl,?_⟩
  refine wpAny_letOwnedTupleGo_enum out fun h2 he2 sb=>?_
  have lit2:h2.IsListIter it a (i+1):=lit.at fun o q=>(sb.2 it (Ne.symm hne)).trans q
  obtain⟨go,dd⟩:=wo (tk2:=s.toks+1) hz hf du tup kp ⟨_,he2⟩ ⟨_,lit2.choose_spec.1⟩ sb (fun b hb=>let ⟨o,e,_⟩:=qv (a:=a) ⟨_,he⟩ (by obtain⟨o,e,_,d⟩:=st;exact⟨o,e,fun v y=>by rw[d] at y;cases y⟩) b hb;⟨o,e⟩)
  have kp2:Kp z.cn z.cn s.heap h2:=go.2.kpD
  exact⟨go,dd,⟨_,he2⟩,lit2,l.mono kp2 fun o q=>(kp2.kp a o ok q).2,ok⟩
 done:=fun X hP hw hc z s E i hz hf hp st hx=>by
  subst hP hw
  obtain⟨⟨old,he⟩,st,⟨its,n,g,zl,ds⟩,ok⟩:=st
  have hl:=ds.length
  rw[kX] at hx
  obtain⟨f,bd⟩:=hf it (by simp)
  exact wpAny_pyNext_enum_end (hz.I.ok.hd hc) he st (aL g) (by simp;omega) fun h' eb=>⟨rfl,hz.I.turned (t':=s.toks) (fun b o hb e=>eb b o hb e) f.1 f.2.1 f.2.2.2.1 f.2.2.2.2.1 f.2.2.2.2.2,fun b o hb e=>eb b o (fun y=>hb (by simp[y])) e⟩
 self:=fun A i c s Q E st q=>wpAny_pyIter_enum st.1.choose_spec q
theorem D5 {a e it:Addr}(hne:e≠it){ps:List PV}:Trn P w (.Tuple elts x1 tpos) e [e,it] [] (cO 0 ps) (fun i c h=>(∃old,IsEnum h e it i old)/\h.IsTupleIter it a i/\∃its,IsTup h a its.toArray/\its.length≤sizeLine/\Ds c h ps its/\c.ok a) where
 obj:=fun i c h st=>qv (a:=a) st.1 (by obtain⟨_,⟨o,e,_,d⟩,_⟩:=st;exact⟨o,e,fun v y=>by rw[d] at y;cases y⟩)
 keep:=fun i c c' h h' st k kk=>by
  obtain⟨⟨old,he⟩,st,its,⟨o,g,r⟩,zl,ds,ok⟩:=st
  exact⟨⟨old,kk e (.inl (by simp)) _ he⟩,lZ st fun o q=>kk it (.inl (by simp)) o q,its,⟨o,(k.kp a _ ok g).2,r⟩,zl,ds.mono k,(k.kp a _ ok g).1⟩
 item:=fun X hP hw hc z s E i p hz hf hp st hx=>by
  subst hP hw
  obtain⟨⟨old,he⟩,st,its,g,zl,ds,ok⟩:=st
  obtain⟨p',hx2,rfl⟩:=kC hx
  rw[Nat.zero_add]
  obtain⟨u,hu,du⟩:=ds.get hx2
  have pt:s.heap.IsTuple a its.toArray:=g
  have nai:a≠it:=fun q=>by
   obtain⟨o1,h1,c1,_⟩:=pt
   obtain⟨o2,h2,c2,_⟩:=st
   rw[q,h2] at h1;cases h1;rw[c2] at c1;exact absurd (Value.type.inj c1) (by decide)
  have nae:e≠a:=fun q=>by
   obtain⟨o1,h1,c1,_⟩:=pt
   rw[←q,he] at h1;cases h1;exact absurd (Value.type.inj c1) (by decide)
  have hlt:i<its.toArray.size:=by
   have:=(List.getElem?_eq_some_iff.mp hu).1
   simpa using this
  refine wpAny_pyNext_enum_itemD (Ei (A:=X.A.in1) (hz.I.ok.hd hc) it a nai its.toArray) he ⟨st,pt⟩ hlt hne (by simp[hne,nae]) fun u' h' tk hu' out lit tup sz kp=>⟨_,rfl,?_⟩
  obtain rfl:u'=u:=by
   have h1:its[i]?=some u':=by simpa using hu'
   rw[hu] at h1;exact (Option.some.inj h1).symm
  refine wpAny_letOwnedTupleGo_enum out fun h2 he2 sb=>?_
  have lit2:h2.IsTupleIter it a (i+1):=lZ lit.1 fun o q=>(sb.2 it (Ne.symm hne)).trans q
  obtain⟨go,dd⟩:=wo (tk2:=tk+1) hz hf du tup kp ⟨_,he2⟩ ⟨_,lit2.choose_spec.1⟩ sb (fun b hb=>let ⟨o,e,_⟩:=qv (a:=a) ⟨_,he⟩ (by obtain⟨o,e,_,d⟩:=st;exact⟨o,e,fun v y=>by rw[d] at y;cases y⟩) b hb;⟨o,e⟩)
  have kp2:Kp z.cn z.cn s.heap h2:=go.2.kpD
  obtain⟨o,g,r⟩:=g
  exact⟨go,dd,⟨_,he2⟩,lit2,its,⟨o,(kp2.kp a _ ok g).2,r⟩,zl,ds.mono kp2,ok⟩
 done:=fun X hP hw hc z s E i hz hf hp st hx=>by
  subst hP hw
  obtain⟨⟨old,he⟩,st,its,g,zl,ds,ok⟩:=st
  have hl:=ds.length
  rw[kX] at hx
  obtain⟨f,bd⟩:=hf it (by simp)
  have hT:s.TypeIs (.ref e) "enumerate":=⟨_,he,rfl⟩
  unfold pyNext
  refine wpAny_bind (wpAny_attempt (wpAny_callSpecial?_slot (name:=Str.ofString "__next__") hT F.slot_enumerate_next (wpAny_call_entry F.slot_enumerate_next hT F.entry_enumerate_next ?_ (F.args_enumerate_next_1 _))))
  refine (?_:wpAny _ _ (field (.ref e) 2 >>= _) _ _ _);refine wpAny_bind (wpAny_field he rfl (x:=.ref it) rfl ?_)
  refine wpAny_bind (t4 (hz.I.ok.hd hc) st (items:=its.toArray) g (by simp;omega) fun h' x he' hx'=>?_)
  obtain⟨o,ho,hc⟩:=hx'
  exact wpAny_bind (wpAny_isInstance (T:="StopIteration") (b:=true) ⟨o,ho,hc⟩ isSubtype_stop (wpAny_pure ⟨rfl,hz.I.turned (t':=s.toks) (fun b o hb e=>he' b o hb e) f.1 f.2.1 f.2.2.2.1 f.2.2.2.2.1 f.2.2.2.2.2,fun b o hb e=>he' b o (fun y=>hb (by simp[y])) e⟩))
 self:=fun A i c s Q E st q=>wpAny_pyIter_enum st.1.choose_spec q
end
section
variable {X:Cx}{fs:FA}{elts:List Expr}{x1:Nat}{tpos:Pos}{a:Expr}{p pos:Pos}
noncomputable def rA:List PV->Option (List PV)
 |[p]=>(items p).map (cO 0)
 |_=>none
noncomputable def mJ (fs:FA):FI:=fun ρ=>(fs ρ).bind fun rs=>(rs.mapM RV.fr).bind rA
theorem Ef (hg:Gl X "enumerate")(hm:X.mg "enumerate" = none)(ha:NA X [a] fs)(hs:starEach [a] X.env=[(false,eval a X.env)]):NI X true (.Tuple elts x1 tpos) (.Call (.Name "enumerate" p) [a] [] pos) (mJ fs):=fun z s its E hz q=>by
 obtain⟨rs,er,q⟩:=Option.bind_eq_some_iff.mp q
 obtain⟨ps,ep,q⟩:=Option.bind_eq_some_iff.mp q
 refine Call_ (jl hz.I hg hm qh (PyProof.Rows.callWith_type1 (az (ha z pos s rs E hz er) fun us s1 ⟨g,d1⟩=>?_) hs rfl))
 have d:=d1.fr ep
 unfold rA at q
 split at q
 ·next p'=>
  obtain⟨qs,e3,rfl⟩:=Option.map_eq_some_iff.mp q
  obtain⟨u,r,rfl,d,e4⟩:=d
  cases (show r=[] from e4)
  obtain⟨l,vs,rfl,ok,zl,ds,h⟩:=D1.items d e3
  have fin:∀(h' h2:Heap),h'.objs.size=s1.heap.objs.size+2->(∀b o,s1.heap.get? b=some o->h'.get? b=some o)->z.go s { s1 with heap:=h' }/\(∀b∈[s1.heap.objs.size+1,s1.heap.objs.size],fU X z.pins z.H b/\s.heap.get? b=none)/\Kp z.cn (aF X (fun b=>z.bad b\/b∈[s1.heap.objs.size+1,s1.heap.objs.size]) z.H) s1.heap h':=fun h' h2 sz kp=>by
   have le:∀b∈[s1.heap.objs.size+1,s1.heap.objs.size],s1.heap.objs.size≤b:=fun b hb=>by
    rcases List.mem_cons.mp hb with y|y
    ·rw[y];exact Nat.le_succ _
    ·rw[show b=s1.heap.objs.size by simpa using y];exact Nat.le_refl _
   exact⟨g.trans (g.1.kept (t:=s1.toks) kp),fun b hb=>g.1.fp g.2 (le b hb),rj g.1 kp le⟩
  rcases h with ⟨o,ho,r⟩|⟨n,ho⟩
  ·refine yl (items:=vs.toArray) ⟨o,ho,r⟩ fun h' he hit sz kp=>wpAny_pyIter_enum he ?_
   obtain⟨f1,f2,f3⟩:=fin h' h' sz kp
   exact⟨_,_,[],_,rfl,fun _=>rfl,fun b q=>(nomatch q),D5 (a:=l) (Nat.succ_ne_self _),f1,f2,⟨_,he⟩,hit,vs,⟨o,kp _ _ ho,r⟩,zl,ds.mono f3,(f3.kp l _ ok ho).1⟩
  ·refine call_enumerate_list (aL ho) fun h' he hit sz kp=>wpAny_pyIter_enum he ?_
   obtain⟨f1,f2,f3⟩:=fin h' h' sz kp
   exact⟨_,_,[],_,rfl,fun _=>rfl,fun b q=>(nomatch q),IB (a:=l) (Nat.succ_ne_self _),f1,f2,⟨_,he⟩,hit,⟨vs,n,kp _ _ ho,zl,ds.mono f3⟩,(f3.kp l _ ok ho).1⟩
 ·cases q
end
end Dp
end
section
namespace Dp
open PySem PySem.Spec L2 PyProof.Rows
noncomputable def Gg (X:Cx)(ifs:List Expr)(f:FB):Prop:=∀(z:Z X) s b E,z.ok s->f z.ρ=some b →
 W X (forIn ifs true fun c r=>if r=true then do let ok ←isTrue c X.env (eval c X.env);pure (ForInStep.yield ok) else pure (ForInStep.yield r)) (fun c s'=>c=b/\z.go s s') E s
noncomputable def eD:FB:=fun _=>some true
theorem Fa {X:Cx}:Gg X [] eD:=fun z s b E hz q=>by cases q;exact wpAny_tests_nil ⟨rfl,hz.refl⟩
theorem Fg {X:Cx}{c:Expr}{f:FB}(h:NB X c f):Gg X [c] f:=fun z s b E hz q=>wpAny_tests_one (h z s b E hz q)
noncomputable def fw (fm:List (Option Nat))(ρ:ak):ak:=fm.map fun o=>o.bind fun j=>(ρ[j]?).join
noncomputable def i9 (t:FT)(c:FB)(f:FE)(ρ:ak):List PV->Option (List PV)
 |[]=>some []
 |p::ps=>(t p ρ).bind fun ρ2=>(c ρ2).bind fun b=>if b=true then (f ρ2).bind fun r=>r.fr.bind fun q=>(i9 t c f ρ ps).map fun qs=>q::qs else i9 t c f ρ ps
noncomputable def bM (fm:List (Option Nat))(it:FI)(t:FT)(c:FB)(f:FE):FE:=fun ρ=>(it ρ).bind fun its=>if its.length<1000 then (i9 t c f (fw fm ρ) its).map .nw else none
noncomputable def FK (fm:List (Option Nat))(t:FT):Prop:=∀p ρ ρ',t p ρ=some ρ'->ρ'.length=ρ.length/\∀(i j:Nat),fm[i]?=some (some j)->ρ'[i]?=ρ[i]?
noncomputable def IH (fm:List (Option Nat))(t:xr):Prop:=∀p ρ ρ',t p ρ=some ρ'->ρ'.length=ρ.length/\∀(i j:Nat),fm[i]?=some (some j)->ρ'[i]?=ρ[i]?
theorem JC {fm:List (Option Nat)}{k:Nat}(h:fm[k]?=some none):FK fm (gN k):=fun p ρ ρ' e=>by
 cases e
 refine⟨List.length_set ..,fun i j q=>List.getElem?_set_ne fun y=>?_⟩
 subst y;rw[h] at q;cases q
theorem JE {fm:List (Option Nat)}:IH fm g0:=fun p ρ ρ' e=>by
 cases p with
 |nil=>cases e;exact⟨rfl,fun _ _ _=>rfl⟩
 |cons=>cases e
theorem J4 {fm:List (Option Nat)}{t:FT}{ts:xr}(h1:FK fm t)(h2:IH fm ts):IH fm (gC t ts):=fun p ρ ρ' e=>by
 cases p with
 |nil=>cases e
 |cons p ps=>
  obtain⟨ρ1,e1,e2⟩:=Option.bind_eq_some_iff.mp e
  exact⟨(h2 ps ρ1 ρ' e2).1.trans (h1 p ρ ρ1 e1).1,fun i j q=>((h2 ps ρ1 ρ' e2).2 i j q).trans ((h1 p ρ ρ1 e1).2 i j q)⟩
theorem JX {fm:List (Option Nat)}{n:Nat}{ts:xr}(h:IH fm ts):FK fm (hV n ts):=fun p ρ ρ' e=>by
 unfold hV at e
 split at e
 ·split at e
  ·exact h _ ρ ρ' e
  ·cases e
 ·cases e
theorem nM {fm:List (Option Nat)}{ρ:ak}{i:Nat}{t:Sl}(h:(fw fm ρ)[i]?=some (some t)):∃j,fm[i]?=some (some j)/\ρ[j]?=some (some t):=by
 unfold fw at h
 rw[List.getElem?_map] at h
 obtain⟨o,e1,h⟩:=Option.map_eq_some_iff.mp h
 obtain⟨j,rfl,h⟩:=Option.bind_eq_some_iff.mp h
 refine⟨j,e1,?_⟩
 replace h:(ρ[j]?).join=some t:=h
 cases e2:ρ[j]? with
 |none=>rw[e2] at h;cases h
 |some w=>rw[e2] at h;exact congrArg some h
theorem Bf {fm:List (Option Nat)}{σ:L2.St}{i j:Nat}{v:V}(h1:fm[i]?=some (some j))(h2:σ[j]?=some (some v)):(lP fm σ)[i]?=some (some v):=by
 unfold lP
 rw[List.getElem?_map,h1]
 show some ((σ[j]?).join)=_
 rw[h2];rfl
section
variable {X:Cx}{z:Z X}{s:Shared}
theorem Z.ok.pinsOf (hz:z.ok s)(pl:List (Addr×Obj))(h:∀p∈pl,s.heap.get? p.1=some p.2/\z.H p.1=none/\p.1≠X.env.locals/\p.1∉X.fs/\∀v,p.2.data≠.cell v):(⟨z.bad,pl,z.σ,z.H,z.ρ⟩:Z X).ok s:=
 ⟨hz.I.pins_of h,hz.len,hz.slk,hz.dj,hz.nb,hz.oh,hz.oh0,hz.loc,hz.cel,hz.fs,hz.ex,hz.there,hz.bs,hz.ot,hz.anc⟩
theorem Z.ok.weak (hz:z.ok s){ρ':ak}(hl:ρ'.length=z.ρ.length)(h:∀(i:Nat) t,ρ'[i]?=some (some t)->z.ρ[i]?=some (some t)):(z.wi z.σ z.H ρ').ok s:=by
 have ow:∀{i a},aD z.σ ρ' i a->aD z.σ z.ρ i a:=fun {i a} ⟨⟨t,e,o⟩,q⟩=>⟨⟨t,h i t e,o⟩,q⟩
 exact⟨hz.I,hz.len.trans hl.symm,fun i t q=>hz.slk i t (h i t q),fun i j a o1 o2=>hz.dj i j a (ow o1) (ow o2),fun i a o=>hz.nb i a (ow o),hz.oh,hz.oh0,hz.loc,hz.cel,hz.fs,hz.ex,hz.there,hz.bs,hz.ot,hz.anc⟩
end
section
variable {X:Cx}{scope:Scope}{N':List Str}{fm:List (Option Nat)}{tg iter elt:Expr}{ifs:List Expr}{pos:Pos}{t:FT}{fc:FB}{f:FE}
structure Blk (X:Cx)(scope:Scope)(N':List Str)(fm:List (Option Nat)):Prop where
 ok:BlkOk X scope N' fm
 nd:N'.Nodup
theorem xq (B:Blk X scope N' fm){z:Z X}{s0 s:Shared}(hz:z.ok s0)(g:z.go s0 s){fp:List Addr}(hf:∀b∈fp,fU X z.pins z.H b/\s0.heap.get? b=none)(ho:∀b∈fp,∃o,s.heap.get? b=some o){C Dd:Addr}(hC:s.heap.objs.size≤C)(hD:s.heap.objs.size≤Dd)
  {h1:Heap} {tk:Nat} {m:Str->Option Value} (hn:h1.Ns C m) (hd:∃o,h1.get? Dd=some o) (old:∀b o,s.heap.get? b=some o->h1.get? b=some o) :
  (⟨fun b=>z.bad b\/b∈fp\/b=C\/b=Dd,[],lP fm z.σ,z.H,fw fm z.ρ⟩:Z (X.blk scope N' C s z.H fp)).ok { s with heap:=h1,toks:=tk }:=by
 have n0:∀b,b∈fp\/b=C\/b=Dd->s0.heap.get? b=none:=fun b y=>by
  rcases y with y|y|y
  ·exact (hf b y).2
  ·subst y;exact Ext.back g.2 (Heap.get?_none_of_le hC)
  ·subst y;exact Ext.back g.2 (Heap.get?_none_of_le hD)
 have hlt:∀b∈fp,b<s.heap.objs.size:=fun b hb=>let ⟨o,e⟩:=ho b hb;Heap.lt_size e
 have e1:Ext z.bad s0.heap h1:=g.2.trans (.kept old)
 have I:=CF (tk:=tk) B.ok g.1.I hC (fun b hb=>(hf b hb).1) hlt hn old
 have k:Kp z.cn (aF (X.blk scope N' C s z.H fp) (fun b=>z.bad b\/b∈fp\/b=C\/b=Dd) z.H) s0.heap h1:=lY (X:=X) e1 fun b y=>y.imp id (n0 b)
 have sub:∀x c,(io X.env.cells scope.names []).lookup x=some c->X.env.cells.lookup x=some c:=fun x c h=>iX (B.ok.has hz.I.ok) (fun _ _ y=>by simp at y) h
 have own:∀{i a},aD (lP fm z.σ) (fw fm z.ρ) i a->∃j x,fm[i]?=some (some j)/\N'[i]?=some x/\X.N[j]?=some x/\aD z.σ z.ρ j a:=fun {i a} ⟨⟨t,e,o⟩,q⟩=>by
  obtain⟨j,e1,e2⟩:=nM e
  obtain⟨j',e3,e4⟩:=rK q
  rw[e1] at e3;cases e3
  have hi:i<N'.length:=by rw[←B.ok.len];exact (List.getElem?_eq_some_iff.mp e1).1
  exact⟨j,N'[i],e1,List.getElem?_eq_getElem hi,(B.ok.out i j _ e1 (List.getElem?_eq_getElem hi)).1,⟨⟨t,e2,o⟩,e4⟩⟩
 have stands:∀a o,z.H a=some o->¬(z.bad a\/a∈fp\/a=C\/a=Dd):=fun a o q y=>by
  obtain⟨ob,e⟩:=hz.stands q
  exact y.elim (hz.ot a o q).1 fun y=>by rw[n0 a y] at e;cases e
 refine⟨I,by show (lP fm z.σ).length=(fw fm z.ρ).length;unfold lP fw;rw[List.length_map,List.length_map],fun i t q=>?_,fun i j a o1 o2=>?_,fun i a o=>?_,hz.oh,hz.oh,.inr (.inr (.inl rfl)),fun x c e=>.inl (hz.cel x c (sub x c e)),fun b q=>.inl ?_,fun b q=>.inr (.inl q),fun b q=>?_,fun b o e q=>?_,fun a o q=>⟨stands a o q,let ⟨ob,r1,r2⟩:=(hz.ot a o q).2;⟨ob,e1.kp a ob (hz.ot a o q).1 r1,r2⟩⟩,fun hf=>by cases hf⟩
 ·obtain⟨j,q1,q2⟩:=nM q
  obtain⟨v,e2,r,d⟩:=hz.slk j t q2
  exact⟨v,Bf q1 e2,r,d.mono k fun a o h w=>e1.kp a o (hz.ot a _ h).1 w⟩
 ·obtain⟨k1,x,a1,a2,a3,a4⟩:=own o1
  obtain⟨k2,y,b1,b2,b3,b4⟩:=own o2
  have:=hz.dj k1 k2 a a4 b4
  subst this
  rw[a3] at b3;cases b3
  exact (List.getElem?_inj (List.getElem?_eq_some_iff.mp a2).1 B.nd).mp (a2.trans b2.symm)
 ·obtain⟨k1,x,a1,a2,a3,a4⟩:=own o
  have hH:z.H a=some au:=by
   obtain⟨⟨t,e,ot⟩,q⟩:=a4
   obtain⟨v,e2,_,d2⟩:=hz.slk k1 t e
   rw[q] at e2;cases e2
   cases t with
   |val p=>cases ot
   |own ps=>obtain⟨b,e3,h,_⟩:=d2;cases e3;exact h
   |dic ks ps=>obtain⟨b,e3,h,_⟩:=d2;cases e3;exact h
  exact⟨stands a _ hH,.inr fun y=>by
   have y':z.H a=none:=y
   rw[hH] at y';cases y'⟩
 ·rcases List.mem_cons.mp (g.1.I.stkSub b q) with y|y
  ·rw[y];exact hz.loc
  ·exact hz.fs b y
 ·rcases q with q|q|q|q
  ·obtain⟨o,e⟩:=hz.there b q;exact e1.th b o e
  ·obtain⟨o,e⟩:=ho b q;exact⟨o,old b o e⟩
  ·subst q;obtain⟨o,es,ep,e,_⟩:=hn;exact⟨o,e⟩
  ·subst q;exact hd
 ·rcases q with q|q
  ·exact hz.bs b o e q
  ·have:=(hz.I.bs b o e).1
   rw[n0 b q] at this;cases this
theorem pp (B:Blk X scope N' fm)(hc:X.calm=true)(hg:∀C s H ex,NG (X.blk scope N' C s H ex) tg t)(hk:FK fm t)(ht:∀C s H ex,Gg (X.blk scope N' C s H ex) ifs fc)(he:∀C s H ex,NE (X.blk scope N' C s H ex) elt f)
  {z:Z X} {s0 s:Shared} (hz:z.ok s0) {its ps:List PV} {itv:Value} (hi:Jc z tg false its s0 itv s) (hl:its.length<1000) (q:i9 t fc f (fw fm z.ρ) its=some ps) {RR:Value->Addr->Result->Shared->Prop} {E:Value->Shared->Prop}
  (hRR:∀Dd C s',(z.wb [C]).ok s'->Ext z.bad s0.heap s'.heap->s0.heap.get? Dd=none->Dd≠C->ListAt (aF X (z.wb [C]).bad (cg z.H Dd au)) s'.heap Dd ps->fU X z.pins z.H C->s0.heap.get? C=none->(∃m,s'.heap.Ns C m)->RR (.ref Dd) C (.ok .next) s') :
  W X (newList []) (fun acc s₃=>W X (newFunctionEnv scope X.env.globals (io X.env.cells scope.names []) [] X.env.qual none .none (some X.env)) (fun cenv s₄=>
   codeAny (model X.prog X.w) X.A (.compStart (.ListComp elt [⟨tg,iter,ifs,0⟩] scope pos) 0 itv acc { cenv with scope:=relabel scope X.env }) (RR acc cenv.locals) s₄) E s₃) E s:=by
 obtain⟨it,fp,pl,tn,rfl,_,hpl,T,g,hf,st⟩:=hi
 refine wpAny_newObj_type (wpAny_newFunctionEnv B.ok.nocell (by intro y hy;simp at hy) (fun h₁ hns₁ hsb₁=>?_) B.ok.kind)
 dsimp only at hns₁ hsb₁ ⊢
 generalize hH2:s.heap.push { cls:=.type "list",dict:=none,data:=.seq ([]:List Value).toArray }=H2 at hns₁ hsb₁ ⊢
 have hC:H2.objs.size=s.heap.objs.size+1:=by rw[←hH2,Heap.size_push]
 generalize hCC:H2.objs.size=C at hns₁ hsb₁ hC ⊢
 generalize hDD:s.heap.objs.size=Dd at hC ⊢
 have hDC:Dd≠C:=by omega
 have hCle:s.heap.objs.size≤C:=by omega
 have hDle:s.heap.objs.size≤Dd:=by omega
 have lt:∀(b:Nat) (o:Obj),s.heap.get? b=some o->b<Dd:=fun b o e=>by rw[←hDD];exact Heap.lt_size e
 have old:∀b o,s.heap.get? b=some o->h₁.get? b=some o:=fun b o e=>hsb₁.extBut b o (Nat.ne_of_lt (Nat.lt_trans (lt b o e) (by rw[hC];exact Nat.lt_succ_self _))) (Heap.get?_push_of_some _ (hH2▸Heap.get?_push_of_some _ e))
 have hacc:h₁.get? Dd=some (cx [] 0):=hsb₁.extBut _ _ hDC (Heap.get?_push_of_some _ (by rw[←hH2,←hDD];exact Heap.get?_push_size _ rfl))
 have there:∀b∈fp,∃o,s.heap.get? b=some o:=fun b hb=>let ⟨o,e,_⟩:=T.obj _ _ _ st b hb;⟨o,e⟩
 have n0:∀b,b∈fp\/b=C\/b=Dd->s0.heap.get? b=none:=fun b y=>by
  rcases y with y|y|y
  ·exact (hf b y).2
  ·subst y;exact Ext.back g.2 (Heap.get?_none_of_le hCle)
  ·subst y;exact Ext.back g.2 (Heap.get?_none_of_le hDle)
 have hDf:Dd∉fp:=fun hm=>by obtain⟨o,e⟩:=there _ hm;exact Nat.lt_irrefl _ (lt _ _ e)
 have hCf:C∉fp:=fun hm=>by obtain⟨o,e⟩:=there _ hm;exact absurd (lt _ _ e) (by omega)
 have hDfs:Dd∉mv X.stack:=fun hm=>by
  obtain⟨_,o,e,_⟩:=g.1.I.stack.mem hm
  exact Nat.lt_irrefl Dd (lt Dd o e)
 have fHD:z.H Dd=none:=g.1.I.hok.fresh hDle
 have fHC:z.H C=none:=g.1.I.hok.fresh hCle
 have fC:fU X z.pins z.H C:=g.1.I.fpOk hCle fHC
 let Y:Cx:=X.blk scope N' C s z.H fp
 let bad':Addr->Prop:=fun b=>z.bad b\/b∈fp\/b=C\/b=Dd
 have eW:∀tk,(⟨bad',[],lP fm z.σ,z.H,fw fm z.ρ⟩:Z Y).ok { s with heap:=h₁,toks:=tk }:=fun tk=>xq B hz g hf there hCle hDle hns₁ ⟨_,hacc⟩ old
 have st1:tn 0 (aF Y bad' z.H) h₁:=T.keep 0 _ _ _ _ st (lY (X:=X) (bad:=fun b=>z.bad b\/b∈fp) (bad':=bad') (.kept old) fun b y=>by
  rcases y with y|y|y|y
  ·exact .inl (.inl y)
  ·exact .inl (.inr y)
  ·subst y;exact .inr (Heap.get?_none_of_le hCle)
  ·subst y;exact .inr (Heap.get?_none_of_le hDle)) fun b _=>old b
 have hpl2:∀b∈pl,¬bad' b:=fun b hb y=>by
  obtain⟨p1,p2,o,p3⟩:=hpl b hb
  rcases y with y|y|y|y
  ·exact p1 y
  ·exact p2 y
  ·subst y;exact absurd (lt _ _ p3) (by omega)
  ·subst y;exact absurd (lt _ _ p3) (by omega)
 have sub:∀x c,(io X.env.cells scope.names []).lookup x=some c->X.env.cells.lookup x=some c:=fun x c h=>iX (B.ok.has hz.I.ok) (fun _ _ y=>by simp at y) h
 have stat:∀{oD:Obj},∀b∈fp,fU Y [(Dd,oD)] z.H b/\bad' b:=fun {oD} b hb=>by
  obtain⟨⟨f0,f1,f2,f3,f4,f5⟩,_⟩:=hf b hb
  refine⟨⟨f0,fun y=>hCf ((show b=C from y)▸hb),fun y=>?_,.inl hb,fun x c h=>f4 x c (sub x c h),fun p hp y=>?_⟩,.inr (.inl hb)⟩
  ·rcases List.mem_cons.mp (g.1.I.stkSub b y) with y|y
   ·exact f1 y
   ·exact f2 y
  ·have e:p=(Dd,oD):=by simpa [Y,Cx.blk] using hp
   subst e
   exact hDf ((show Dd=b from y)▸hb)
 have loop:∀tk,codeAny (model X.prog X.w) X.A (.compLoop (.ListComp elt [⟨tg,iter,ifs,0⟩] scope pos) 0 (.ref it) (.ref Dd) (compEnvC scope (io X.env.cells scope.names []) C X.env)) (RR (.ref Dd) C) { s with heap:=h₁,toks:=tk }:=by
  intro tk
  refine iy (fun n s'=>∃i σ' acc us n' eM,n=its.length+1 - i/\i≤its.length/\(⟨bad',[],σ',z.H,fw fm z.ρ⟩:Z Y).ok s'/\Ext bad' h₁ s'.heap/\tn i (aF Y bad' z.H) s'.heap/\s'.heap.get? Dd=some (cx us n')/\Ds (aF Y bad' z.H) s'.heap acc us/\acc.length≤i/\i9 t fc f (fw fm z.ρ) (its.drop i)=some eM/\acc++eM=ps) ?_ (its.length+1)
   ⟨0,_,[],[],0,ps,rfl,Nat.zero_le _,eW tk,.refl,st1,hacc,rfl,Nat.le_refl _,q,rfl⟩
  rintro n s3 ⟨i,σ3,acc,us,n3,eM,rfl,hi3,ok3,x3,st3,hd3,ds3,ha3,go3,e3⟩
  have l3:=ds3.length
  have okp:(⟨bad',[(Dd,cx us n3)],σ3,z.H,fw fm z.ρ⟩:Z Y).ok s3:=ok3.pinsOf _ fun p hp=>by
   have e:p=(Dd,cx us n3):=by simpa using hp
   subst e
   exact⟨hd3,fHD,hDC,hDfs,fun v y=>by cases y⟩
  by_cases hlt:i<its.length
  ·rw[List.drop_eq_getElem_cons hlt,i9] at go3
   obtain⟨ρ4,e1,go3⟩:=Option.bind_eq_some_iff.mp go3
   obtain⟨b,e2,go3⟩:=Option.bind_eq_some_iff.mp go3
   refine az (T.item Y rfl rfl hc _ s3 _ i its[i] okp stat hpl2 st3 (List.getElem?_eq_getElem hlt)) fun r s4 ⟨u,hr,h4⟩=>?_
   subst hr
   refine az h4 fun _ s5 ⟨g5,d5,st5⟩=>?_
   have ok5:=pinned g5.1 (fun b hb=>(stat b hb).1) (T.obj _ _ _ st5)
   refine az (hg C s z.H fp _ s5 its[i] u ρ4 _ ok5 d5 e1) fun _ s6 ⟨σ6,ok6,x6⟩=>?_
   obtain⟨kl,kk⟩:=hk _ _ _ e1
   refine az (ht C s z.H fp _ s6 b _ ok6 e2) fun c s7 ⟨ec,g7⟩=>?_
   subst ec
   have still:∀{s8:Shared},((((⟨bad',[(Dd,cx us n3)],σ3,z.H,fw fm z.ρ⟩:Z Y).wp (iE fp s5.heap)).wi σ6 z.H ρ4)).ok s8->Ext bad' s5.heap s8.heap->(⟨bad',[],σ6,z.H,fw fm z.ρ⟩:Z Y).ok s8/\Ext bad' h₁ s8.heap/\tn (i+1) (aF Y bad' z.H) s8.heap/\s8.heap.get? Dd=some (cx us n3)/\Ds (aF Y bad' z.H) s8.heap acc us:=fun {s8} ok8 x8=>by
    have x9:Ext bad' s3.heap s8.heap:=g5.2.trans x8
    refine⟨(Z.ok.weak (ok8.pinsOf [] fun p hp=>nomatch hp) kl.symm fun i t e=>?_ :),x3.trans x9,T.keep _ _ _ _ _ st5 (Ext.kpD x8) fun b hb o e=>?_,?_,ds3.mono x9.kpD⟩
    ·obtain⟨j,q1,q2⟩:=nM e
     show ρ4[i]?=_
     rw[kk i j q1];exact e
    ·rcases hb with hb|hb
     ·exact mI (z:=⟨bad',[(Dd,cx us n3)],σ3,z.H,fw fm z.ρ⟩) ok8 b hb o e
     ·exact x8.kp b o (hpl2 b hb) e
    ·exact (ok8.I.pin (Dd,_) (List.mem_append_right _ (List.mem_append_left _ (List.mem_singleton.mpr rfl)))).1
   cases c with
   |false=>
    rw[if_neg Bool.false_ne_true] at go3 ⊢
    obtain⟨a1,a2,a3,a4,a5⟩:=still g7.1 (x6.trans g7.2)
    exact⟨its.length+1 - (i+1),by omega,i+1,σ6,acc,us,n3,eM,rfl,hlt,a1,a2,a3,a4,a5,by omega,go3,e3⟩
   |true=>
    rw[if_pos rfl] at go3 ⊢
    obtain⟨r,e4,go3⟩:=Option.bind_eq_some_iff.mp go3
    obtain⟨y,e5,go3⟩:=Option.bind_eq_some_iff.mp go3
    obtain⟨rest',e6,rfl⟩:=Option.map_eq_some_iff.mp go3
    refine az (he C s z.H fp _ s7 r _ g7.1 e4) fun v s8 q8=>?_
    obtain⟨a1,a2,a3,a4,a5⟩:=still q8.1.1 (x6.trans (g7.2.trans q8.1.2))
    have dv:D (aF Y bad' z.H) s8.heap y v:=q8.2.fr e5
    refine wpAny_list_append_plain (hsz:=by rw[List.size_toArray];have:=sA;omega) (show s8.heap.PlainList Dd us.toArray from⟨n3,a4⟩) fun h9 hl9 sb9=>?_
    have kp9:∀b o,b∉[Dd]->s8.heap.get? b=some o->h9.get? b=some o:=fun b o hb e=>(sb9.2 b (by simpa using hb)).trans e
    obtain⟨n9,hl9⟩:=hl9
    have go9:=a1.turn (t:=s8.toks) (h':=h9) (fp:=[Dd]) (cT (P:=fun b=>fU Y [] z.H b/\bad' b) ⟨⟨fHD,hDC,hDfs,.inr (by show s.heap.objs.size≤Dd;omega),fun x c h y=>?_,fun p hp=>(nomatch hp)⟩,.inr (.inr (.inr rfl))⟩) kp9 (cT (P:=fun b=>∃o,h9.get? b=some o) ⟨_,hl9⟩)
    ·have k9:Kp (aF Y bad' z.H) (aF Y bad' z.H) s8.heap h9:=go9.2.kpD
     refine⟨its.length+1 - (i+1),by omega,i+1,σ6,acc++[y],us++[v],n9,rest',rfl,hlt,go9.1,a2.trans go9.2,T.keep _ _ _ _ _ a3 k9 fun b hb o e=>kp9 b o (fun w=>?_) e,?_,(a5.mono k9).app (.one (dv.m k9)),by rw[List.length_append];simp;omega,e6,by rw[List.append_assoc];exact e3⟩
     ·have w:b=Dd:=by simpa using w
      subst w
      rcases hb with hb|hb
      ·exact hDf hb
      ·exact hpl2 b hb (.inr (.inr (.inr rfl)))
     ·have e:us.toArray.push v=(us++[v]).toArray:=by simp
      rw[hl9,e];rfl
    ·obtain⟨v,o,ho,hdd⟩:=a1.I.cell x c h
     rw[y,a4] at ho
     cases ho
     cases hdd
  ·have hnil:its.drop i=[]:=List.drop_eq_nil_of_le (by omega)
   rw[hnil,i9] at go3
   cases go3
   rw[List.append_nil] at e3
   subst e3
   refine az (T.done Y rfl rfl hc _ s3 _ i okp stat hpl2 st3 (by omega)) fun r s4 ⟨hr,I4,k4⟩=>?_
   subst hr
   have hd4:s4.heap.get? Dd=some (cx us n3):=k4 Dd _ hDf hd3
   have U:Un (mv X.stack) fp z.H z.H s.heap s4.heap:=I4.base
   have I5:Inv X z.pins z.σ z.H s4:=g.1.I.call' I4.os U I4.hok I4.bare fun b hb=>by
    obtain⟨⟨f0,f1,f2,f3,f4,f5⟩,_⟩:=hf b hb
    exact⟨f3,f1,f4,f5⟩
   obtain⟨m4,hn4,_⟩:=I4.loc
   have x4:∀a o,¬bad' a->h₁.get? a=some o->s4.heap.get? a=some o:=fun a o nb e=>k4 a o (fun y=>nb (.inr (.inl y))) (x3.kp a o nb e)
   have e04:Ext z.bad s0.heap s4.heap:=⟨fun a o nb e=>x4 a o (fun y=>y.elim nb fun y=>by rw[n0 a y] at e;cases e) (old a o (g.2.kp a o nb e)),fun a o e=>by
    obtain⟨o1,e1⟩:=g.2.th a o e
    obtain⟨o2,e2⟩:=x3.th a o1 (old a o1 e1)
    exact⟨o2,k4 a o2 (fun y=>by rw[n0 a (.inl y)] at e;cases e) e2⟩⟩
   have gg:=hz.ext I5 e04
   have zC:(z.wb [C]).ok s4:=hz.more gg (cT (P:=fun b=>s0.heap.get? b=none/\∃o,s4.heap.get? b=some o) ⟨n0 C (.inr (.inl rfl)),let ⟨o,_,_,e,_⟩:=hn4;⟨o,e⟩⟩)
   refine hRR Dd C s4 zC e04 (n0 Dd (.inr (.inr rfl))) hDC ⟨us,n3,hd4,by have:=sA;omega,Ds.mono (c:=aF Y bad' z.H) (c':=aF X (z.wb [C]).bad (cg z.H Dd au)) (h:=s3.heap) ⟨rfl,rfl,rfl,fun a o q e=>⟨⟨?_,fun y=>?_⟩,k4 a o (fun y=>q.2 (.inr (.inl y))) e⟩⟩ ds3⟩ fC (n0 C (.inr (.inl rfl))) ⟨m4,hn4⟩
   ·show cg z.H Dd au a=none
    rw[ax fun y=>q.2 (.inr (.inr (.inr y)))];exact q.1
   ·rcases y with y|y
    ·exact q.2 (.inl y)
    ·exact q.2 (.inr (.inr (.inl (by simpa using y))))
 refine codeAny_compStart_list (loop _) (T.self _ 0 _ _ _ _ st1 (loop _))
theorem zK {z:Z X}{s0 s1:Shared}{h':Heap}{C:Addr}{σ:L2.St}{H:Hp}{ρ:ak}(hz:z.ok s0)(ok:((z.wb [C]).wi σ H ρ).ok s1)(fC:fU X z.pins H C)(n:s0.heap.get? C=none)(sb:Heap.SameBut C s1.heap h'):(z.wi σ H ρ).ok { s1 with heap:=h' }/\∀b o,b∉[C]->s1.heap.get? b=some o->h'.get? b=some o:=by
 obtain⟨f0,f1,f2,f3,f4,f5⟩:=fC
 have k:∀b o,b∉[C]->s1.heap.get? b=some o->h'.get? b=some o:=fun b o hb e=>sb.extBut b o (fun y=>hb (by simp[y])) e
 exact⟨hz.less (fp:=[C]) (cT n) ok (ok.I.turned (t':=s1.toks) (fun b o hb e=>sb.extBut b o hb e) f0 f1 f3 f4 f5) k,k⟩
theorem El (B:Blk X scope N' fm)(hc:X.calm=true){fi:FI}(hi:NI X false tg iter fi)(hg:∀C s H ex,NG (X.blk scope N' C s H ex) tg t)(hk:FK fm t)(ht:∀C s H ex,Gg (X.blk scope N' C s H ex) ifs fc)(he:∀C s H ex,NE (X.blk scope N' C s H ex) elt f)
  (hs:∀x,foldedSetIterable iter X.env x=pure x:=by intro _;rfl):NE X (.ListComp elt [⟨tg,iter,ifs,0⟩] scope pos) (bM fm fi t fc f):=fun z s0 r E hz q=>by
 obtain⟨its,ei,q⟩:=Option.bind_eq_some_iff.mp q
 split at q
 ·next hl=>
  obtain⟨ps,eg,rfl⟩:=Option.map_eq_some_iff.mp q
  rw[eval_ListComp]
  refine wpAny_comprehension_free (use:=none) rfl hs (mz (B.ok.has hz.I.ok)) B.ok.kind B.ok.names (az (hi z s0 its E hz ei) fun v s1 h1=>az h1 fun itv s2 h2=>?_)
  refine pp B hc hg hk ht he hz h2 hl eg (RR:=fun acc C=>compPost (model X.prog X.w) X.A E none (Z.post z s0 (.nw ps)) acc C) fun Dd C s' zC e04 nD hDC l fC nC ⟨m,hn⟩=>⟨m,hn,fun h' sb=>?_⟩
  obtain⟨ok,k⟩:=zK (σ:=z.σ) (H:=z.H) (ρ:=z.ρ) hz zC fC nC sb
  have e0:Ext z.bad s0.heap h':=⟨fun a o nb e=>k a o (fun y=>by rw[show a=C by simpa using y,nC] at e;cases e) (e04.kp a o nb e),fun a o e=>let ⟨o1,e1⟩:=e04.th a o e;⟨o1,k a o1 (fun y=>by rw[show a=C by simpa using y,nC] at e;cases e) e1⟩⟩
  refine⟨⟨ok,e0⟩,Dd,rfl,nD,hz.free nD,ListAt.mono (c:=aF X (z.wb [C]).bad (cg z.H Dd au)) (c':=aF X z.bad (cg z.H Dd au)) ⟨rfl,rfl,rfl,fun a o q e=>⟨⟨q.1,fun y=>q.2 (.inl y)⟩,k a o (fun y=>q.2 (.inr y)) e⟩⟩ (fun o e=>k Dd o (fun y=>hDC (by simpa using y)) e) l⟩
 ·cases q
noncomputable def Jx (X:Cx)(x:Str)(g:List PV->ak->Out):Prop:=∀(y:Z X) (ps:List PV) (Dd:Addr) (s1:Shared) (E:Value->Shared->Prop),y.ok s1->hU y.bad y.H Dd->X.s₀.heap.get? Dd=none->(∀p∈X.pn++y.pins,p.1≠Dd)->ListAt (aF X y.bad (cg y.H Dd au)) s1.heap Dd ps →
 (∀(j:Nat) t v,y.ρ[j]?=some (some t)->y.σ[j]?=some (some v)->SlOk (aF X y.bad (cg y.H Dd au)) y.H s1.heap t v)->W X (storeName X.env x (.ref Dd)) (fun _ s2=>∃σ' H' ρ',g ps y.ρ=.nx ρ'/\(y.wi σ' H' ρ').ok s2/\Ext y.bad s1.heap s2.heap/\(H'=y.H\/H'=cg y.H Dd au)) E s1
noncomputable def GF (i:Nat)(ps:List PV)(ρ:ak):Out:=.nx (ρ.set i (some (.own ps)))
noncomputable def Hl (i:Nat)(ps:List PV)(ρ:ak):Out:=.nx (ρ.set i (some (.val (.lst ps))))
theorem E2 {i:Nat}{x:Str}(n:Nm X i x):Jx X x (GF i):=fun y ps Dd s1 E ok fr h00 hp l sk=>
 az (pB (t:=.own ps) ok n rfl fr h00 hp (jU l) ⟨Dd,rfl,aS,l⟩ sk) fun _ s2 ⟨σ',ok',e⟩=>⟨σ',_,_,rfl,ok',e,.inr rfl⟩
theorem FU {i:Nat}{x:Str}(n:Nm X i x):Jx X x (Hl i):=fun y ps Dd s1 E ok fr h00 hp l sk=>
 az (d9 (p:=.lst ps) ok n (by obtain⟨its,m,g,zl,ds⟩:=l;exact⟨Dd,its,m,rfl,fr,g,zl,ds.mono zS⟩)) fun _ s2 ⟨σ',ok',e⟩=>⟨σ',_,_,rfl,ok',e,.inl rfl⟩
noncomputable def HF (o:Option RV)(g:List PV->ak->Out)(ρ:ak):Out:=match o with
 |some (.nw ps)=>g ps ρ
 |_=>.bad
noncomputable def wP (f:FE)(g:List PV->ak->Out):FS:=fun ρ=>HF (f ρ) g ρ
theorem yT (B:Blk X scope N' fm)(hc:X.calm=true){fi:FI}(hi:NI X false tg iter fi)(hg:∀C s H ex,NG (X.blk scope N' C s H ex) tg t)(hk:FK fm t)(ht:∀C s H ex,Gg (X.blk scope N' C s H ex) ifs fc)(he:∀C s H ex,NE (X.blk scope N' C s H ex) elt f)
  {x:Str} {px spos:Pos} {g:List PV->ak->Out} (hst:Jx X x g) (hsw:swapsWith (.ListComp elt [⟨tg,iter,ifs,0⟩] scope pos) (some (.Name x px)) spos.line X.env=pure true) (hs:∀x,foldedSetIterable iter X.env x=pure x:=by intro _;rfl) :
  NS X (.Assign [.Name x px] (.ListComp elt [⟨tg,iter,ifs,0⟩] scope pos) spos) (wP (bM fm fi t fc f) g):=fun z s0 E hz hb=>by
 unfold wP HF at hb ⊢
 split at hb
 ·next ps er=>
  obtain⟨its,ei,q⟩:=Option.bind_eq_some_iff.mp er
  split at q
  ·next hl=>
   obtain⟨ps',eg,e⟩:=Option.map_eq_some_iff.mp q
   cases e
   rw[exec_Assign_Name_used _ _ _ _ hsw]
   refine wpAny_bind (wpAny_standAt (wpAny_bind ?_))
   show wpAny _ X.A (do let _ ←comprehension (.ListComp elt [⟨tg,iter,ifs,0⟩] scope pos) scope X.env _ (newList []) false (eval iter X.env) (some (assign (.Name x px) X.env))) _ _ s0
   refine wpAny_bind (az (wpAny_comprehension_free (use:=some (assign (.Name x px) X.env)) (Q:=fun _ s'=>Z.sp z s0 (g ps z.ρ) .next s') rfl hs (mz (B.ok.has hz.I.ok)) B.ok.kind B.ok.names (az (hi z s0 its E hz ei) fun v s1 h1=>az h1 fun itv s2 h2=>?_)) fun _ s' q=>wpAny_pure (wpAny_pure q))
   refine pp B hc hg hk ht he hz h2 hl eg (RR:=fun acc C=>compPost (model X.prog X.w) X.A E (some (assign (.Name x px) X.env)) (fun _ s'=>Z.sp z s0 (g ps z.ρ) .next s') acc C) fun Dd C s' zC e04 nD hDC l fC nC ⟨m,hn⟩=>?_
   have hn':=hn
   obtain⟨oC,es,ep,gC,cC,dC,rC⟩:=hn'
   have fC':=fC
   obtain⟨f0,f1,f2,f3,f4,f5⟩:=fC'
   have pC:((z.wb [C]).wp [(C,oC)]).ok s':=by
    refine⟨zC.I.pins_of fun p hp=>(List.mem_append.mp hp).elim (fun q=>zC.I.pin p (List.mem_append_right _ q)) fun q=>?_,zC.len,zC.slk,zC.dj,zC.nb,zC.oh,zC.oh0,zC.loc,zC.cel,zC.fs,zC.ex,zC.there,zC.bs,zC.ot,zC.anc⟩
    rw[show p=(C,oC) by simpa using q]
    exact⟨gC,f0,f1,f2,fun v y=>by
     have y:oC.data=.cell v:=y
     first
      |(rw[dC] at y;cases y)
      |(rw[cC] at y;cases y)⟩
   show W X (assign (.Name x px) X.env (.ref Dd)) _ E s'
   refine wpAny_assign_Name (az (hst ((z.wb [C]).wp [(C,oC)]) ps Dd s' E pC ⟨(hz.free nD).1,fun y=>y.elim (hz.free nD).2 fun y=>hDC (by simpa using y)⟩ (df hz nD) (fun p hp y=>?_) l (hz.sk nD e04 fun b y=>y.imp id fun y=>by rw[show b=C by simpa using y];exact nC)) fun _ s'' ⟨σ',H',ρ',eg,ok,e5,hH⟩=>?_)
   ·rcases List.mem_append.mp hp with q|q
    ·have:=(hz.I.pin p (List.mem_append_left _ q)).1
     rw[y,nD] at this;cases this
    ·rcases List.mem_append.mp q with q|q
     ·have:=(hz.I.pin p (List.mem_append_right _ q)).1
      rw[y,nD] at this;cases this
     ·rw[show p=(C,oC) by simpa using q] at y;exact hDC y.symm
   ·have gC2:s''.heap.get? C=some oC:=(ok.I.pin (C,oC) (List.mem_append_right _ (List.mem_append_right _ (List.mem_singleton.mpr rfl)))).1
    refine⟨m,⟨oC,es,ep,gC2,cC,dC,rC⟩,fun h' sb=>?_⟩
    have hC:H' C=none:=(ok.I.pin (C,oC) (List.mem_append_right _ (List.mem_append_right _ (List.mem_singleton.mpr rfl)))).2.1
    obtain⟨ok2,k⟩:=zK (σ:=σ') (H:=H') (ρ:=ρ') hz (unpinned (z:=z.wb [C]) ok) ⟨hC,f1,f2,f3,f4,f5⟩ nC sb
    show Z.sp z s0 (g ps z.ρ) .next _
    rw[show g ps z.ρ=.nx ρ' from eg]
    have e0:Ext z.bad s0.heap h':=⟨fun a o nb e=>?_,fun a o e=>?_⟩
    ·refine⟨rfl,σ',H',ok2,?_⟩
     rcases hH with y|y
     ·rw[y];exact e0.stp
     ·rw[y];exact Stp.new e0 nD
    ·have ne:a≠C:=fun y=>by rw[y,nC] at e;cases e
     exact k a o (by simpa using ne) (e5.kp a o (fun y=>y.elim nb fun y=>ne (by simpa using y)) (e04.kp a o nb e))
    ·have ne:a≠C:=fun y=>by rw[y,nC] at e;cases e
     obtain⟨o1,e1⟩:=e04.th a o e
     obtain⟨o2,e2⟩:=e5.th a o1 e1
     exact⟨o2,k a o2 (by simpa using ne) e2⟩
  ·cases q
 ·exact absurd rfl hb
end
end Dp
end
section
namespace Dp
open PySem PySem.Spec L2 PyProof.Rows
section
variable {X:Cx}{a b c:Expr}{fa fb fc:FE}{op op':CmpOp}{g g':PV->PV->Option RV}{pos:Pos}
theorem Ji (h:wf X (compareOp op) g)(h':wf X (compareOp op') g')(ha:NE X a fa)(hb:NE X b fb)(hc:NE X c fc)(hm:lastMarks [op,op'] [b,c]=false):NE X (.Compare a [op,op'] [b,c] pos) (C4 g g' fa fb fc):=fun z s r E hz q=>by
 obtain⟨x,ex,q⟩:=Option.bind_eq_some_iff.mp q
 obtain⟨y,ey,q⟩:=Option.bind_eq_some_iff.mp q
 obtain⟨k,ek,q⟩:=Option.bind_eq_some_iff.mp q
 refine Compare_chain (az (ha z s x E hz ex) fun v s1 q1=>chain_link (az (hb z s1 y E q1.1.1 ey) fun u s2 q2=>
  az (h z s2 _ _ v u _ E q2.1.1 (q1.2.ext q2.1.2).rv q2.2.rv (d6 ek)) fun d s3 q3=>?_)) hm
 cases (show d=Value.bool k from q3.2)
 have g3:=(q1.1.trans q2.1).trans q3.1
 refine wpAny_truthy_bool ?_
 cases k with
 |false=>cases q;exact ite_ff ⟨g3,rfl⟩
 |true=>
  rw[if_pos rfl] at q
  obtain⟨w,ew,q⟩:=Option.bind_eq_some_iff.mp q
  exact ite_tt (chain_last (az (hc z s3 w E q3.1.1 ew) fun w' s4 q4=>az (h' z s4 _ _ u w' r E q4.1.1 ((q2.2.ext q3.1.2).ext q4.1.2).rv q4.2.rv q) fun d' s5 q5=>(g3.trans q4.1).post q5))
theorem Js (h:wf X (compareOp op) g)(h':wf X (compareOp op') g')(ha:NE X a fa)(hb:NE X b fb)(hc:NE X c fc)(hm:lastMarks [op,op'] [b,c]=false):NB X (.Compare a [op,op'] [b,c] pos) (fT (C4 g g' fa fb fc)):=fun z s r E hz q=>by
 obtain⟨x,ex,q⟩:=Option.bind_eq_some_iff.mp (d6 q)
 obtain⟨y,ey,q⟩:=Option.bind_eq_some_iff.mp q
 obtain⟨k,ek,q⟩:=Option.bind_eq_some_iff.mp q
 refine isTrue_chain (az (ha z s x E hz ex) fun v s1 q1=>test_link (az (hb z s1 y E q1.1.1 ey) fun u s2 q2=>
  az (h z s2 _ _ v u _ E q2.1.1 (q1.2.ext q2.1.2).rv q2.2.rv (d6 ek)) fun d s3 q3=>?_)) hm
 cases (show d=Value.bool k from q3.2)
 have g3:=(q1.1.trans q2.1).trans q3.1
 refine wpAny_truthy_bool ?_
 cases k with
 |false=>cases q;exact ite_ff ⟨rfl,g3⟩
 |true=>
  rw[if_pos rfl] at q
  obtain⟨w,ew,q⟩:=Option.bind_eq_some_iff.mp q
  refine ite_tt (test_last (az (hc z s3 w E q3.1.1 ew) fun w' s4 q4=>az (h' z s4 _ _ u w' _ E q4.1.1 ((q2.2.ext q3.1.2).ext q4.1.2).rv q4.2.rv q) fun d' s5 q5=>?_))
  cases (show d'=Value.bool r from q5.2)
  exact wpAny_truthy_bool ⟨rfl,(g3.trans q4.1).trans q5.1⟩
noncomputable def Dy:Option PV->Option RV
 |some (.int i)=>some (.fz (.int (Builtin.Int.intBits i:Nat)))
 |_=>none
noncomputable def AB (f:FE):FE:=fun ρ=>(f ρ).bind fun r=>Dy r.fr
theorem DY {x:Str}{p apos cpos:Pos}{f:FE}(ha:NE X (.Name x p) f)(hline:(apos.endLine==cpos.line)=true):NE X (.Call (.Attribute (.Name x p) "bit_length" apos) [] [] cpos) (AB f):=fun z s r E hz q=>by
 obtain⟨y,ey,q⟩:=Option.bind_eq_some_iff.mp q
 unfold Dy at q
 split at q
 ·next i ei=>
  cases q
  refine wpAny_Call_method0_late rfl hline (az (ha z s y E hz ey) fun v s1 q1=>?_)
  obtain⟨t,rfl⟩:=q1.2.fr ei
  refine⟨"int","int.bit_length",F.plainAttrs_int,F.slot_int_bit_length,F.type_int_bit_length,typeIs_int s1 i t,?_,Calls.callWith_builtin rfl (PySem.evalArgs_none ?_)⟩
  ·exact fun a e=>nomatch e
  ·refine call_gives F.slot_int_bit_length (typeIs_int s1 i t) F.entry_int_bit_length (F.args_int_bit_length_1 _) (AutoIntG2.int_bit_length_int_0 i t) ?_
   exact⟨q1.1.trans (q1.1.1.tok _),_,rfl⟩
 ·cases q
end
end Dp
end
section
namespace Dp
open PySem PySem.Spec L2 PyProof.Rows
noncomputable abbrev j9:=List PV->List PV->Option (List PV×PV)
noncomputable abbrev hL (a:Addr):Hp:=cg h0 a au
structure NFL (P:Program)(w:World)(K:PySem.W.Frag)(mg:Str->Option Value)(base:Heap)(cm:Bool)(k:Nat)(f:Addr)(fd:FuncData)(ps:List Str)(F:j9):Prop where
 len:∀ps0 qs r,F ps0 qs=some r->qs.length+1=ps.length
 run:∀(A:Around) (outer:List Env) (s:Shared) (args:Args) (a:Addr) (us:List Value) (ps0 qs ps1:List PV) (p:PV) (bad:Addr->Prop),(cm=true->A.handled=none)->Rm k A->Env0 P w K mg base A outer s (hL a)->BindsTo s fd args (ps.zip (.ref a::us)) →
  (∀b∈mv outer,bad b)->(∀b,bad b->∃o,s.heap.get? b=some o)->(∀b o,base.get? b=some o->¬bad b)->¬bad a->ListAt ⟨hU bad (hL a),P,w,mg⟩ s.heap a ps0->Ds ⟨hU bad (hL a),P,w,mg⟩ s.heap qs us->F ps0 qs=some (ps1,p) →
  codeAny (model P w) A (.call (.ref f) args) (fun r s'=>∃u,r=.ok (.ret u)/\s'.os=s.os/\AllBare s'.gens/\Un (mv outer) [] (hL a) (hL a) s.heap s'.heap/\D ⟨hU bad (hL a),P,w,mg⟩ s'.heap p u/\ListAt ⟨hU bad (hL a),P,w,mg⟩ s'.heap a ps1) s
theorem NFL.mono {P:Program}{w:World}{K:PySem.W.Frag}{mg:Str->Option Value}{base:Heap}{cm:Bool}{j k:Nat}{f:Addr}{fd:FuncData}{ps:List Str}{F:j9}(n:NFL P w K mg base cm j f fd ps F)(h:j≤k):NFL P w K mg base cm k f fd ps F:=
 ⟨n.len,fun A outer s args a us ps0 qs ps1 p bad hc hr=>n.run A outer s args a us ps0 qs ps1 p bad hc (hr.mono h)⟩
noncomputable def jV:Option (PR×ak)->Option (List PV×PV)
 |some (.v p,some (.own ps1)::_)=>some (ps1,p)
 |_=>none
noncomputable def oB (a n:Nat)(g:FS):j9:=fun ps0 qs=>if qs.length+1=a then jV (g (xc n (.own ps0::qs.map .val))).res2 else none
theorem tQ {o:Option (PR×ak)}{ps1:List PV}{p:PV}(h:jV o=some (ps1,p)):∃ρ,o=some (.v p,some (.own ps1)::ρ):=by
 unfold jV at h
 split at h
 ·cases h;exact⟨_,rfl⟩
 ·cases h
theorem E8 {P:Program}{w:World}{K:PySem.W.Frag}{mg:Str->Option Value}{base:Heap}{cm:Bool}{k:Nat}{f:Addr}{name qual:Str}{params:Arguments}{body:List Stmt}{scope:Scope}{dV kV doc pm cdv ct oc:Value}{an od:Option Addr}
  {osl:Array (Option Value)} {N ps:List Str} {g:FS} (lk:K.lookup f=some ⟨oc,od,.func (PySem.W.fnOf name qual params body scope dV kV doc pm an cdv ct),osl⟩) (hcd:PySem.W.codeIn K cdv qual=true) (S:FnScope N ps scope)
  (hbody:∀(A:Around) (outer:List Env) (s:Shared) (H:Hp),(cm=true->A.handled=none)->Rm k (A.deeper (envOfC qual scope s.heap.objs.size f cdv))->xt (Ee P w K mg base cm N qual scope f cdv A outer s H) body g) :
  NFL P w K mg base cm (k+1) f (PySem.W.fnOf name qual params body scope dV kV doc pm an cdv ct) ps (oB ps.length N.length g):=by
 refine⟨fun ps0 qs r q=>?_,fun A outer s args a us ps0 qs ps1 p bad hc hr e0 hb hfr hth hbs na l ds q=>?_⟩
 ·unfold oB at q;split at q
  ·assumption
  ·cases q
 ·unfold oB at q
  split at q
  ·next hl=>
   obtain⟨ρ,q2⟩:=tQ q
   have oL:∀b o,hL a b=some o->b=a/\o=au:=fun b o e=>by
    by_cases hb:b=a
    ·subst hb;have e:cg h0 b au b=some o:=e;rw[aS] at e;cases e;exact⟨rfl,rfl⟩
    ·have e:cg h0 a au b=some o:=e;rw[ax hb] at e;cases e
   obtain⟨its,n,g1,zl,dl⟩:=id l
   refine uS (H:=hL a) (ts:=.own ps0::qs.map .val) lk hcd S hc hr.depth e0 hb hfr hth hbs (by simpa using hl) ⟨.ref a,us,rfl,⟨a,rfl,a,rfl,aS,l⟩,nN ds⟩ (fun i t e o=>?_) (fun b o e=>?_) (hbody A outer s _ hc (hr.deeper _)) q2 fun bad' σ' H' u s' hb' ok d=>?_
   ·cases i with
    |zero=>rfl
    |succ i=>
     rw[List.getElem?_cons_succ,List.getElem?_map] at e
     obtain⟨p,_,rfl⟩:=Option.map_eq_some_iff.mp e
     cases o
   ·obtain⟨rfl,rfl⟩:=oL b o e
    exact⟨rfl,na,rfl,_,g1,by intro q;exact absurd (Value.type.inj q) (by decide)⟩
   ·have b:=ok.I.base
    have an:=ok.anc rfl a (show cg h0 a au a≠none by rw[aS];simp)
    obtain⟨v,e2,_,a',ea,hH,l'⟩:=ok.slk 0 (.own ps1) rfl
    rw[an] at e2;cases e2;cases ea
    have kp:Kp ⟨hU bad' H',P,w,mg⟩ ⟨hU bad (hL a),P,w,mg⟩ s'.heap s'.heap:=⟨rfl,rfl,rfl,fun b o q e=>⟨⟨ax (fun y=>by rw[y] at q;have q1:H' a=none:=q.1;rw[show H' a=some au from hH] at q1;cases q1),fun w=>q.2 (hb' b w)⟩,e⟩⟩
    refine⟨u,rfl,ok.I.os,ok.I.bare,⟨b.keep,b.slot,fun b o _ n _=>n,b.there,fun b xs e=>?_,fun b o u e=>?_,fun b ps e=>?_⟩,D1.m d kp,l'.mono kp fun _ e=>e⟩
    ·cases (oL b _ e).2
    ·cases (oL b _ e).2
    ·cases (oL b _ e).2
  ·cases q
section
variable {X:Cx}{i:Nat}{x:Str}{es:List Expr}{fs:FA}{pos:Pos}
theorem Ca {cm:Bool}{k:Nat}{f:Addr}{fd:FuncData}{ps:List Str}{F:j9}(n:NFL X.prog X.w X.K X.mg X.base cm k f fd ps F)(hc:cm=true->X.calm=true)(hr:Rm k X.A)(hb:Binds X.K fd ps []){z:Z X}{s:Shared}(hz:z.ok s){a:Addr}(o:aD z.σ z.ρ i a){ps0 ps1 qs:List PV}{us:List Value}{p:PV}
  (hH:z.H a=some au) (l:ListAt z.cn s.heap a ps0) (ds:Ds z.cn s.heap qs us) (q:F ps0 qs=some (ps1,p)) {E:Value->Shared->Prop} :
  W X (call (.ref f) (.ref a::us)) (fun v s'=>(z.wi z.σ z.H (z.ρ.set i (some (.own ps1)))).ok s'/\Stp z.bad z.H z.H s.heap s'.heap/\D z.cn s'.heap p v) E s:=by
 have e0:=hz.I.env0
 have ne:∀b,z.H b=none->b≠a:=fun b e y=>by subst y;rw[hH] at e;cases e
 have hLn:∀b,z.H b=none->hL a b=none:=fun b e=>ax (ne b e)
 have e1:Env0 X.prog X.w X.K X.mg X.base X.A X.stack s (hL a):=⟨e0.frames,e0.mod,fun b o e=>⟨(e0.bs b o e).1,hLn b (e0.bs b o e).2⟩,e0.bsz,e0.funs,fun b hb=>hLn b (e0.frf b hb),fun b u e=>(by
  by_cases hb:b=a
  ·subst hb
   have e:cg h0 b au b=some u:=e
   rw[aS] at e;cases e
   exact⟨trivial,hz.stands hH,fun _ _ _ _=>trivial⟩
  ·have e:cg h0 a au b=some u:=e
   rw[ax hb] at e;cases e),e0.bare⟩
 have hl:((Value.ref a::us)++[]).length=ps.length:=by rw[List.append_nil,List.length_cons,ds.length];exact n.len _ _ _ q
 have hfr:∀b∈mv X.stack,z.bad b:=fun b hb=>by
  rcases List.mem_cons.mp (hz.I.stkSub b hb) with e|e
  ·rw[e];exact hz.loc
  ·exact hz.fs b e
 let bad:Addr->Prop:=fun b=>(z.bad b\/z.H b≠none)/\b≠a
 have kp:Kp z.cn ⟨hU bad (hL a),X.prog,X.w,X.mg⟩ s.heap s.heap:=⟨rfl,rfl,rfl,fun b o q e=>⟨⟨hLn b q.1,fun y=>y.1.elim q.2 fun y=>y q.1⟩,e⟩⟩
 refine wpAny_call (codeAny_mono (n.run X.A X.stack s ⟨.ref a::us,[]⟩ a us ps0 qs ps1 p bad (fun c=>hz.I.ok.hd (hc c)) hr e1 (by have:=hb s (.ref a::us) hz.I.kIn hl;rwa [List.append_nil] at this) (fun b q=>⟨.inl (hfr b q),fun y=>(hz.ot a _ hH).1 (y▸hfr b q)⟩) (fun b q=>?_) (fun b o e q=>?_) (fun y=>y.2 rfl) (l.mono kp fun _ e=>e) (ds.mono kp) q) fun res s' hq=>?_)
 ·rcases q.1 with w|w
  ·exact hz.there b w
  ·cases e:z.H b with
   |none=>exact absurd e w
   |some o=>exact hz.stands e
 ·rcases q.1 with w|w
  ·exact hz.bs b o e w
  ·exact w (hz.I.bs b o e).2
 ·obtain⟨u,rfl,os,bare,un,d,l'⟩:=hq
  have kp2:Kp ⟨hU bad (hL a),X.prog,X.w,X.mg⟩ z.cn s'.heap s'.heap:=⟨rfl,rfl,rfl,fun b o q e=>by
   have nb:b≠a:=fun y=>by subst y;have:=q.1;rw[show hL b b=some au from aS] at this;cases this
   refine⟨⟨?_,fun y=>q.2 ⟨.inl y,nb⟩⟩,e⟩
   cases w:z.H b with
   |none=>rfl
   |some o=>exact absurd ⟨.inr (by rw[w];simp),nb⟩ q.2⟩
  have hok:HOk X.prog X.w z.H s'.heap:=fun b o e=>by
   have e2:=hz.oh b o e
   subst e2
   obtain⟨ob,q⟩:=hz.stands e
   obtain⟨o',q'⟩:=un.there b ob q (by simp)
   exact⟨trivial,⟨o',q'⟩,fun _ _ _ _=>trivial⟩
  have U:Un (mv X.stack) [] z.H z.H s.heap s'.heap:=⟨fun b o e n f x=>un.keep b o e (hLn b n) f x,fun b o e n f x=>un.slot b o e (hLn b n) f x,fun _ _ _ n _=>n,un.there,fun _ _ e=>e,fun _ _ _ e=>e,fun b ps e=>⟨#[],by rw[e];simp⟩⟩
  have I':=hz.I.call' os U hok bare (fun b z=>absurd z (by simp))
  obtain⟨h1,h2⟩:=Z.ok.mut0 hz o I' (fun b u nb ne e=>un.keep b u e (ax ne) (fun q=>nb (hfr b q)) (by simp)) (fun b u e=>un.there b u e (by simp)) (t:=.own ps1) rfl (jU l') fun _=>⟨a,rfl,hH,l'.mono kp2 fun _ e=>e⟩
  exact⟨h1,h2,d.m kp2⟩
structure DefL (P:Program)(w:World)(K:PySem.W.Frag)(mg:Str->Option Value)(base:Heap)(cm:Bool)(k:Nat)(x:Str)(F:j9):Prop where
 ex:∃f fd ps,NFL P w K mg base cm k f fd ps F/\Binds K fd ps []/\PySem.W.keepIn K (.ref f)=true/\mg x=some (.ref f)
noncomputable def qD (tab:List (Str×Fn))(o:Option Sl)(qs:Option (List PV))(rs:List RV):Option RV:=match o with
 |some (.val (.fn x))=>(tab.lookup x).bind fun F=>nE F qs rs
 |_=>none
noncomputable def mN (tab:List (Str×Fn))(j:Nat)(fs:FA):FE:=fun ρ=>(fs ρ).bind fun rs=>qD tab (sl ρ j) (rs.mapM RV.fr) rs
theorem Ce {cm:Bool}{k:Nat}{j:Nat}{y:Str}{p:Pos}{e:Expr}{tab:List (Str×Fn)}(ht:∀x F,tab.lookup x=some F->(∃j,j≤k/\DefN X.prog X.w X.K X.mg X.base cm j x F)\/X.mg x=none)(hc:cm=true->X.calm=true)(hr:Rm k X.A)
  (hN:X.N[j]?=some y) (hv:oo X.env.scope y) (hd:(y==("__debug__" : Str))=false) (hcd:(y==("__classdict__" : Str))=false) (ha:NA X (e::es) fs)
  (he:starEach (e::es) X.env=(false,eval e X.env)::starEach es X.env) (hpl:(backTo pos (starEach es X.env)).any (·.1)=false):NE X (.Call (.Name y p) (e::es) [] pos) (mN tab j fs):=fun z s r E hz q=>by
 obtain⟨rs,er,q⟩:=Option.bind_eq_some_iff.mp q
 unfold qD at q
 split at q
 ·next x ef=>
  obtain⟨F,eF,q⟩:=Option.bind_eq_some_iff.mp q
  refine wpAny_Call_Name_kw (az (GX hN hv hd hcd z s (.fz (.fn x)) E hz (show (sl z.ρ j).map qx=_ by rw[ef];rfl)) fun v s0 q0=>?_)
  obtain⟨a,m,rfl⟩:=q0.2
  have m:X.mg x=some (.ref a):=m
  obtain⟨jj,hj,d⟩:∃j,j≤k/\DefN X.prog X.w X.K X.mg X.base cm j x F:=(ht x F eF).elim id fun hn=>by rw[hn] at m;cases m
  obtain⟨f,fd,ps,n,hb,hk,hm⟩:=d.ex
  rw[hm] at m;cases m
  refine PySem.W.callWith_K (h₀:=X.base) hz.I.ok.mod.kin hk (az (ha z pos s0 rs E q0.1.1 er) fun us s1 ⟨g1,d1⟩=>⟨g1.1.I.kIn,?_⟩) he hpl
  exact az (tM (n.mono hj) hc hr hb g1.1 d1 q) fun u s2 q2=>(q0.1.trans g1).post q2
 ·cases q
noncomputable def nB (F:Option j9)(o:Option Sl)(qs:Option (List PV))(i:Nat)(t:FT)(ρ:ak):Out:=match F,o,qs with
 |some F,some (.own ps),some qs=>match F ps qs with
  |some (ps1,p)=>C0 (t p (ρ.set i (some (.own ps1))))
  |none=>.bad
 |_,_,_=>.bad
noncomputable def CQ (F:j9)(i:Nat)(fs:FA)(t:FT):FS:=fun ρ=>nB (some F) (sl ρ i) ((fs ρ).bind fun rs=>rs.mapM RV.fr) i t ρ
noncomputable def HY (tab:List (Str×j9))(o:Option Sl):Option j9:=match o with
 |some (.val (.fn x))=>tab.lookup x
 |_=>none
noncomputable def nZ (tab:List (Str×j9))(j i:Nat)(fs:FA)(t:FT):FS:=fun ρ=>nB (HY tab (sl ρ j)) (sl ρ i) ((fs ρ).bind fun rs=>rs.mapM RV.fr) i t ρ
theorem qT {cm:Bool}{k:Nat}{f:Addr}{fd:FuncData}{ps:List Str}{F:j9}{tg:Expr}{t:FT}{xp fp cpos:Pos}{g:Str}(n:NFL X.prog X.w X.K X.mg X.base cm k f fd ps F)(hbi:Binds X.K fd ps [])(hk:PySem.W.keepIn X.K (.ref f)=true)(hc:cm=true->X.calm=true)(hr:Rm k X.A)
  (hN:X.N[i]?=some x) (hv:oo X.env.scope x) (hd:(x==("__debug__" : Str))=false) (hcd:(x==("__classdict__" : Str))=false) (ha:NA X es fs) (hpl:(backTo cpos (starEach es X.env)).any (·.1)=false) (hg:NG X tg t)
  (hs:swapsWithSole [tg] (.Call (.Name g fp) (.Name x xp::es) [] cpos) pos.line X.env=pure false) (hw:swappedStores [tg] (.Call (.Name g fp) (.Name x xp::es) [] cpos) X.env=pure none) (h1:(assignEach [tg] X.env).map (·.2)=[assign tg X.env])
  {z:Z X} {s:Shared} {E:Value->Shared->Prop} (hz:z.ok s) (hload:∀(s:Shared) Q,z.ok s->(∀s',z.go s s'->Q (.ref f) s')->W X (eval (.Name g fp) X.env) Q E s) (hb:nB (some F) (sl z.ρ i) ((fs z.ρ).bind fun rs=>rs.mapM RV.fr) i t z.ρ≠.bad) :
  W X (exec (.Assign [tg] (.Call (.Name g fp) (.Name x xp::es) [] cpos) pos) X.env) (Z.sp z s (nB (some F) (sl z.ρ i) ((fs z.ρ).bind fun rs=>rs.mapM RV.fr) i t z.ρ)) E s:=by
 unfold nB C0 at hb ⊢
 split at hb
 ·next F' ps0 qs hF ho hq=>
  cases hF
  split at hb
  ·next ps1 p hr'=>
   split at hb
   ·next ρ' et=>
    obtain⟨rs,er,eq⟩:=Option.bind_eq_some_iff.mp hq
    refine wpAny_Assign_stores (wpAny_Call_Name_kw (hload s _ hz fun s0 g0=>?_)) hs hw
    refine PySem.W.callWith_K (h₀:=X.base) hz.I.ok.mod.kin hk ?_ rfl hpl
    refine Calls.spliced_cons ?_
    obtain⟨v,e2,_,a,rfl,hH,l⟩:=g0.1.slk i _ (dG ho)
    refine ju g0.1 e2 hN hv hd hcd (az (ha z cpos s0 rs _ g0.1 er) fun us s1 ⟨g1,d1⟩=>⟨g1.1.I.kIn,?_⟩)
    have oa:aD z.σ z.ρ i a:=⟨⟨_,dG ho,rfl⟩,e2⟩
    have l1:ListAt z.cn s1.heap a ps0:=l.mono g1.2.kpD fun o e=>g1.2.kp a o (hz.ot a _ hH).1 e
    refine az (Ca n hc hr hbi g1.1 oa hH l1 (d1.fr eq) hr') fun v s2 ⟨ok2,t2,d2⟩=>?_
    rw[h1]
    exact az (hg (z.wi z.σ z.H (z.ρ.set i (some (.own ps1)))) s2 p v ρ' E ok2 d2 et) fun _ s3 ⟨σ3,ok3,x3⟩=>⟨rfl,σ3,z.H,ok3,((g0.2.trans g1.2).stp.trans t2).trans x3.stp⟩
   ·exact absurd rfl hb
  ·exact absurd rfl hb
 ·exact absurd rfl hb
theorem ED {cm:Bool}{k j:Nat}{F:j9}{tg:Expr}{t:FT}{xp fp cpos:Pos}{g:Str}(d:DefL X.prog X.w X.K X.mg X.base cm j g F)(hj:j≤k)(hgl:Gl X g)(hgd:(g==("__debug__" : Str))=false)(hc:cm=true->X.calm=true)(hr:Rm k X.A)
  (hN:X.N[i]?=some x) (hv:oo X.env.scope x) (hd:(x==("__debug__" : Str))=false) (hcd:(x==("__classdict__" : Str))=false) (ha:NA X es fs) (hpl:(backTo cpos (starEach es X.env)).any (·.1)=false) (hg:NG X tg t)
  (hs:swapsWithSole [tg] (.Call (.Name g fp) (.Name x xp::es) [] cpos) pos.line X.env=pure false) (hw:swappedStores [tg] (.Call (.Name g fp) (.Name x xp::es) [] cpos) X.env=pure none) (h1:(assignEach [tg] X.env).map (·.2)=[assign tg X.env]) :
  NS X (.Assign [tg] (.Call (.Name g fp) (.Name x xp::es) [] cpos) pos) (CQ F i fs t):=fun z s E hz hb=>by
 obtain⟨f,fd,ps,n,hbi,hk,hm⟩:=d.ex
 exact qT (n.mono hj) hbi hk hc hr hN hv hd hcd ha hpl hg hs hw h1 hz (fun s Q hz h=>l4 hz.I hgl hm (h s hz.refl) hgd) hb
theorem Ch {cm:Bool}{k j:Nat}{y:Str}{tab:List (Str×j9)}{tg:Expr}{t:FT}{xp fp cpos:Pos}(ht:∀x F,tab.lookup x=some F->∃j,j≤k/\DefL X.prog X.w X.K X.mg X.base cm j x F)(hc:cm=true->X.calm=true)(hr:Rm k X.A)
  (hN':X.N[j]?=some y) (hv':oo X.env.scope y) (hd':(y==("__debug__" : Str))=false) (hcd':(y==("__classdict__" : Str))=false)
  (hN:X.N[i]?=some x) (hv:oo X.env.scope x) (hd:(x==("__debug__" : Str))=false) (hcd:(x==("__classdict__" : Str))=false) (ha:NA X es fs) (hpl:(backTo cpos (starEach es X.env)).any (·.1)=false) (hg:NG X tg t)
  (hs:swapsWithSole [tg] (.Call (.Name y fp) (.Name x xp::es) [] cpos) pos.line X.env=pure false) (hw:swappedStores [tg] (.Call (.Name y fp) (.Name x xp::es) [] cpos) X.env=pure none) (h1:(assignEach [tg] X.env).map (·.2)=[assign tg X.env]) :
  NS X (.Assign [tg] (.Call (.Name y fp) (.Name x xp::es) [] cpos) pos) (nZ tab j i fs t):=fun z s E hz hb=>by
 unfold nZ at hb ⊢
 cases ho:HY tab (sl z.ρ j) with
 |none=>rw[ho] at hb;exact absurd rfl hb
 |some F=>
  rw[ho] at hb
  have ho':=ho
  unfold HY at ho'
  split at ho'
  ·next g ef=>
   obtain⟨jj,hj,d⟩:=ht g F ho'
   obtain⟨f,fd,ps,n,hbi,hk,hm⟩:=d.ex
   refine qT (n.mono hj) hbi hk hc hr hN hv hd hcd ha hpl hg hs hw h1 hz (fun s Q hz' h=>?_) hb
   have:=GX (pos:=fp) hN' hv' hd' hcd' z s (.fz (.fn g)) E hz' (show (sl z.ρ j).map qx=_ by rw[ef];rfl)
   exact az this fun v s1 q=>by
    obtain⟨a,m,rfl⟩:=q.2
    have m:X.mg g=some (.ref a):=m
    rw[hm] at m;cases m
    exact h s1 q.1
  ·cases ho'
end
end Dp
end
section
namespace Dp
open PySem PySem.Spec L2 PyProof.Rows
section
variable {X:Cx}{o:Expr}{es:List Expr}{fo:FE}{fs:FA}{pos:Pos}
structure MthN (X:Cx)(T:String)(name:Str)(id:String)(g:PV->List PV->Option RV):Prop where
 pa:PlainAttrs T
 slot:Slot T name id
 hty:typeOf (.builtin id)=pure (.type "method_descriptor")
 ty:∀(z:Z X) (s:Shared) p qs r u,g p qs=some r->Rv z s.heap p u->s.TypeIs u T/\∀b,u=.ref b->∃ob,s.heap.get? b=some ob/\ob.dict=none
 call:∀(z:Z X) (s:Shared) p u qs us r E,z.ok s->Rv z s.heap p u->Rvs z s.heap qs us->g p qs=some r->W X (call (.builtin id) (u::us)) (Z.post z s r) E s
structure Mc (X:Cx)(o:Expr)(name:Str)(apos cpos:Pos)(es:List Expr):Prop where
 base:attributeBase o name X.env (eval o X.env)=eval o X.env
 line:(apos.endLine==cpos.line)=true
 few:((backTo cpos (starEach es X.env)).all (fun x=>!x.1)&&(backToKw cpos (keywordEach [] X.env)).all (fun x=>x.1.isSome)&&decide (es.length+([]:List Keyword).length+(if ([]:List Keyword).isEmpty then 0 else 1)<30))=true
 ns:∀e r,es=e::r->starEach (e::r) X.env=(false,eval e X.env)::starEach r X.env/\(backTo cpos (starEach r X.env)).any (·.1)=false
noncomputable def zT (g:PV->List PV->Option RV)(fo:FE)(fs:FA):FE:=fun ρ=>(fo ρ).bind fun x=>(fs ρ).bind fun rs=>g x.pv (rs.map RV.pv)
theorem HU {T:String}{name:Str}{id:String}{g:PV->List PV->Option RV}(m:MthN X T name id g){apos cpos:Pos}(c:Mc X o name apos cpos es)(ho:NE X o fo)(ha:NA X es fs)(h0:es=[]->fs=ag):NE X (.Call (.Attribute o name apos) es [] cpos) (zT g fo fs):=fun z s r E hz q=>by
 obtain⟨x,ex,q⟩:=Option.bind_eq_some_iff.mp q
 obtain⟨rs,er,q⟩:=Option.bind_eq_some_iff.mp q
 cases es with
 |nil=>
  refine wpAny_Call_method0_late c.base c.line (az (ho z s x E hz ex) fun u s1 q1=>?_)
  obtain⟨t1,t2⟩:=m.ty z s1 _ _ r u q q1.2.rv
  rw[h0 rfl] at er;cases er
  exact⟨T,id,m.pa,m.slot,m.hty,t1,t2,Calls.callWith_builtin rfl (PySem.evalArgs_none (az (m.call z s1 _ u _ [] r E q1.1.1 q1.2.rv .nil q) fun v s2 q2=>q1.1.post q2))⟩
 |cons e0 es0=>
  refine wpAny_Call_method_late c.base c.few c.line rfl (az (ho z s x E hz ex) fun u s1 q1=>?_)
  obtain⟨t1,t2⟩:=m.ty z s1 _ _ r u q q1.2.rv
  refine⟨T,id,m.pa,m.slot,m.hty,t1,t2,?_⟩
  obtain⟨hs,hp⟩:=c.ns e0 es0 rfl
  have hA:=ha z cpos s1 rs E q1.1.1 er
  rw[hs] at hA ⊢
  refine Calls.callWith_builtin (by show (false || (backTo cpos (starEach es0 X.env)).any (·.1))=false;rw[hp]<;>rfl) (Calls.evalArgs_plain ?_)
  exact az hA fun us s2 ⟨g2,d2⟩=>az (m.call z s2 _ u _ us r E g2.1 (q1.2.ext g2.2).rv d2.rv q) fun v s3 q3=>(q1.1.trans g2).post q3
noncomputable def tC:PV->List PV->Option RV
 |.dct ks ps,[k]=>(eV k).map fun k=>.fz ((lM ks ps k).getD .non)
 |.dct ks ps,[k,x]=>(eV k).bind fun k=>match lM ks ps k with
  |some p=>some (.fz p)
  |none=>if Gb x=true then none else some (.fz x)
 |_,_=>none
theorem AM {z:Z X}{s:Shared}{ks:List bP}{ps:List PV}{u:Value}(d:Rv z s.heap (.dct ks ps) u):s.TypeIs u "dict"/\∀b,u=.ref b->∃ob,s.heap.get? b=some ob/\ob.dict=none:=by
 obtain⟨a,kus,rfl,_,y,dd,_⟩:=d.rd
 refine⟨dd.typeIs,fun b e=>?_⟩
 cases e
 obtain⟨ob,_,_,h1,h2,_⟩:=dd
 exact⟨ob,h1,h2.2.1⟩
theorem GP:MthN X "dict" "get" "dict.get" tC where
 pa:=PySem.F.plainAttrs_dict
 slot:=PySem.F.slot_dict_get
 hty:=PySem.F.type_dict_get
 ty:=fun z s p qs r u e d=>by
  unfold tC at e
  split at e
  ·exact AM d
  ·exact AM d
  ·cases e
 call:=fun z s p u qs us r E hz d ds e=>by
  unfold tC at e
  split at e
  ·next ks ps k0=>
   obtain⟨k,ek,rfl⟩:=Option.map_eq_some_iff.mp e
   obtain⟨v,rfl,dv⟩:=ds.one
   obtain⟨a,kus,rfl,_,y,dd,zl,hk,dps⟩:=d.rd
   obtain⟨h1,h2⟩:=j3 (y:=k) hk dps
   refine call_meetsIn PySem.F.slot_dict_get dd.typeIs PySem.F.entry_dict_get (PySem.F.args_dict_get_2 _ _) (meets_dict_get (aJ X.prog X.w) a (lw (cI ek dv.rd)) y) ⟨_,dd.mapOf,hz.tok _,?_⟩
   cases hd:lM ks ps k with
   |none=>rw[h2 hd];exact rfl
   |some p=>obtain⟨w,e1,dw⟩:=h1 p hd;rw[e1];exact dw
  ·next ks ps k0 x=>
   obtain⟨k,ek,e⟩:=Option.bind_eq_some_iff.mp e
   obtain⟨v,w0,rfl,dv,dx⟩:=ds.two
   obtain⟨a,kus,rfl,_,y,dd,zl,hk,dps⟩:=d.rd
   obtain⟨h1,h2⟩:=j3 (y:=k) hk dps
   refine call_meetsIn PySem.F.slot_dict_get dd.typeIs PySem.F.entry_dict_get (PySem.F.args_dict_get_3 _ _ _) (meets_dict_get_default (aJ X.prog X.w) a (lw (cI ek dv.rd)) y w0) ⟨_,dd.mapOf,?_⟩
   split at e
   ·next p hd=>
    cases e
    obtain⟨w,e1,dw⟩:=h1 p hd
    rw[e1];exact⟨hz.tok _,dw⟩
   ·next hd=>
    split at e
    ·cases e
    ·next hn=>
     cases e
     rw[h2 hd]
     exact⟨hz.tok _,D1.m (dx.fz (by simpa using hn)) .refl⟩
  ·cases e
end
end Dp
end
section
namespace Dp
open PySem PySem.Spec L2 PyProof.Rows
structure Gd where
 bi:List Str:=[]
 nis:List (Str×Int):=[]
 tups:List (Str×List PV):=[]
 vals:List Str:=[]
 fns:List (Str×Fn):=[]
 dcts:List (Str×List bP×List PV):=[]
 tab:List (Str×Fn):=[]
 lents:List (Str×j9):=[]
structure Lc where
 sc:Scope
 N:List Str
 top:Bool:=true
 lent:Bool:=false
 own:List Str:=[]
 frz:List (Nat×List Nat):=[]
 alt:List (Nat×Nat):=[]
 cmp:List ((Nat×Nat)×List Str):=[]
 dic:List Str:=[]
structure Hk where
 e:Gd->(Lc->Expr->FE)->(Lc->Expr->FB)->Lc->Expr->Option FE:=fun _ _ _ _ _=>none
 i:Gd->Lc->(Expr->FE)->Expr->Expr->Option FI:=fun _ _ _ _ _=>none
 b:Gd->(Lc->Expr->FE)->(Lc->Expr->FB)->Lc->Expr->Option FB:=fun _ _ _ _ _=>none
 s:Gd->(Lc->Expr->FE)->(Lc->Expr->FB)->(Lc->Stmt->FS)->Lc->Stmt->Option FS:=fun _ _ _ _ _ _=>none
structure Gc extends Gd where
 hk:Hk:={}
noncomputable def Gh (x:Str):List Str->Option Nat
 |[]=>none
 |y::r=>if x=y then some 0 else (Gh x r).map (·+1)
theorem sT {x:Str}:∀{l:List Str} {i:Nat},Gh x l=some i->l[i]?=some x
 |[],_,h=>by cases h
 |y::r,i,h=>by
  unfold Gh at h
  split at h
  ·next e=>cases h;rw[e];rfl
  ·obtain⟨j,e,rfl⟩:=Option.map_eq_some_iff.mp h
   rw[List.getElem?_cons_succ];exact sT e
noncomputable def CG (x:Str):Bool:=x == "__debug__" || x == "__classdict__" || x == "__name__"
noncomputable def aT:FE:=fun _=>none
noncomputable def jr:Expr->Bool
 |.Starred _ _=>false
 |_=>true
theorem cG {e:Expr}(h:jr e=true)(es:List Expr)(env:Env):starEach (e::es) env=(false,eval e env)::starEach es env:=by
 cases e<;>first|rfl|(cases h)
theorem gM {pos:Pos}{env:Env}:∀{es:List Expr},es.all jr=true->(backTo pos (starEach es env)).any (·.1)=false
 |[],_=>rfl
 |e::es,h=>by
  rw[List.all_cons,Bool.and_eq_true] at h
  rw[cG h.1]
  exact gM (es:=es) h.2
noncomputable def KJ (L:Lc)(x:Str):Bool:=match L.sc.names.lookup x with
 |some .local=>true
 |some .cell=>true
 |some .free=>true
 |_=>false
noncomputable def glob (L:Lc)(x:Str):Bool:=L.sc.names.lookup x==some .globalImplicit&&!CG x
noncomputable def slot (L:Lc)(x:Str):Option Nat:=if KJ L x&&!CG x then Gh x L.N else none
noncomputable def ck (L:Lc)(x:Str):Option Nat:=if L.sc.names.lookup x==some .local || L.top&&L.sc.names.lookup x==some .cell then (Gh x L.N).bind (fun i=>if L.lent&&i==0 then none else some i) else none
noncomputable def Jj (x:Str):FE:=if x = "int" then fC (.ty "int") else if x = "bool" then fC (.ty "bool") else if x = "str" then fC (.ty "str") else if x = "list" then fC (.ty "list") else if x = "tuple" then fC (.ty "tuple") else if x = "dict" then fC (.ty "dict") else aT
noncomputable def yf (G:Gc)(L:Lc)(x:Str):FE:=
 match slot L x with
 |some i=>fV i
 |none=>if glob L x then (match G.nis.lookup x with
  |some i=>fC (.int i)
  |none=>match G.tups.lookup x with
   |some ps=>fC (.ktu ps)
   |none=>if G.vals.contains x then fC (.fn x)
    else match G.dcts.lookup x with
     |some kp=>fC (.dct kp.1 kp.2)
     |none=>if G.bi.contains x then Jj x else aT) else aT
noncomputable def Gi (f:Expr->FE):List Expr->FA
 |[]=>ag
 |e::es=>aa (f e) (Gi f es)
noncomputable def vA (f:Expr->FE)(es:List Expr):FA:=if es.all jr then Gi f es else fun _=>none
noncomputable def AT (L:Lc)(p:Pos):Bool:=L.alt.contains (p.line,p.col)
noncomputable def IX (x:Str)(alt:Bool)(n:Nat)(fs:FA):FE:=
 if x = "len" then fB dW fs else if x = "abs" then fB xH fs else if x = "all" then fB xm fs else if x = "any" then fB FJ fs
 else if x = "isinstance" then fB qO fs else if x = "sorted" then (if alt then fB jB fs else fB eK fs)
 else if x = "max" then (if n=2 then fB Aw fs else fB qR fs) else if x = "min" then (if n=2 then fB nP fs else fB C3 fs)
 else if x = "sum" then fB G9 fs else if x = "int" then fB sI fs else if x = "tuple" then (if alt then fB pD fs else fB kA fs)
 else if x = "list" then fB hJ fs else if x = "range" then fB r9 fs else if x = "str" then fB D4 fs else aT
noncomputable def xJ (G:Gc)(L:Lc)(f:Expr->FE)(x:Str)(args:List Expr)(pos:Pos):FE:=
 match slot L x with
 |some i=>if args.isEmpty then aT else mN G.tab i (vA f args)
 |none=>if glob L x then (match G.fns.lookup x with
  |some F=>if args.isEmpty then ze F else ao F (vA f args)
  |none=>if G.bi.contains x&&!args.isEmpty then IX x (AT L pos) args.length (vA f args) else aT) else aT
noncomputable def J2:Nat->Expr->List Str
 |_+1,.Name x _=>[x]
 |n+1,.Tuple es _ _=>es.flatMap (J2 n)
 |_,_=>[]
noncomputable def I7 (f:Expr->FT):List Expr->xr
 |[]=>g0
 |e::es=>gC (f e) (I7 f es)
noncomputable def vT:Nat->Lc->Expr->FT
 |_+1,L,.Name x _=>match ck L x with
  |some i=>gN i
  |none=>fun _ _=>none
 |n+1,L,.Tuple es _ _=>if es.all jr then hV es.length (I7 (vT n L) es) else fun _ _=>none
 |_,_,_=>fun _ _=>none
noncomputable def HD:Nat->Lc->Expr->List Nat
 |_+1,L,.Name x _=>(ck L x).toList
 |n+1,L,.Tuple es _ _=>es.flatMap (HD n L)
 |_,_,_=>[]
noncomputable def AJ:Expr->Bool
 |.Set _ _ _=>false
 |_=>true
noncomputable def uU:Expr->Bool
 |.Tuple _ _ _=>true
 |_=>false
noncomputable def Dq (L:Lc):Expr->Bool
 |.Name x _=>L.own.contains x
 |_=>false
noncomputable def vI (G:Gc)(L:Lc)(f:Expr->FE)(own:Bool)(tg it:Expr):FI:=
 if own then IK (f it) else match G.hk.i G.toGd L f tg it with
 |some g=>g
 |none=>match it with
 |.Call (.Name x _) [a] [] p=>
  if x = "range"&&glob L "range"&&G.bi.contains "range" then jD kr (vA f [a])
  else if x = "enumerate"&&glob L "enumerate"&&G.bi.contains "enumerate"&&uU tg then mJ (vA f [a]) else lF (f it)
 |.Call (.Name x _) [a,b] [] _=>if x = "range"&&glob L "range"&&G.bi.contains "range" then jD Ey (vA f [a,b]) else lF (f it)
 |.Call (.Name x _) [a,b,d] [] _=>if x = "range"&&glob L "range"&&G.bi.contains "range" then jD xi (vA f [a,b,d]) else lF (f it)
 |_=>lF (f it)
noncomputable def sr (sc o:Scope):Scope:={ sc with names:=sc.names.map fun (n,k)=>if k==.free&&o.kind==.function&&o.names.lookup n==some .cell then (n,.cell) else (n,k) }
noncomputable def vO (f:Expr->FE):Option Expr->FO
 |none=>xU
 |some e=>yw (f e)
noncomputable abbrev RE:=Lc->Expr->FE
noncomputable abbrev RB:=Lc->Expr->FB
noncomputable def I2 (L:Lc)(tg:Expr)(N2:List Str):List (Option Nat):=N2.map fun x=>if (J2 5 tg).contains x then none else Gh x L.N
noncomputable def HQ (L:Lc)(sc:Scope)(tg:Expr)(N2:List Str):Lc:={ L with sc:=sr sc L.sc,N:=N2,top:=false,own:=L.own.filter fun x=>!(J2 5 tg).contains x }
noncomputable def Kt (L:Lc)(sc:Scope)(tg it:Expr)(N2:List Str):Bool:=
 qI sc.kind sc.names (fun x=>L.sc.names.lookup x) L.N N2 (I2 L tg N2)&&decide N2.Nodup&&(HD 5 (HQ L sc tg N2) tg).all (fun i=>(I2 L tg N2)[i]?==some none)&&AJ it
noncomputable def KU (rB:RB)(L:Lc):List Expr->FB
 |[]=>eD
 |[c]=>rB L c
 |_=>fun _=>none
noncomputable def I6 (G:Gc)(rE:RE)(rB:RB)(L:Lc)(elt tg it:Expr)(ifs:List Expr)(sc:Scope)(p:Pos):FE:=
 match L.cmp.lookup (p.line,p.col) with
 |none=>aT
 |some N2=>if Kt L sc tg it N2 then bM (I2 L tg N2) (vI G L (rE L) (Dq L it) tg it) (vT 5 (HQ L sc tg N2) tg) (KU rB (HQ L sc tg N2) ifs) (rE (HQ L sc tg N2) elt) else aT
noncomputable def dL:Expr->Bool
 |.Slice _ _ none _=>false
 |_=>true
noncomputable def KF:Const->FE
 |.int i=>fC (.int i)
 |.bool b=>fC (.bl b)
 |.none=>fC .non
 |.str x=>fC (.str x)
 |_=>aT
noncomputable def Kw (op:UnaryOp)(f:FE):FE:=match op with
 |.USub=>r8 f
 |.Not=>v0 f
 |_=>aT
noncomputable def Kv (f:Expr->FE)(a:Expr)(ops:List CmpOp)(bs:List Expr):FE:=match ops with
 |[]=>aT
 |o1::ops=>match bs with
  |[]=>aT
  |b::bs=>match ops with
   |[]=>match bs with
    |[]=>if behindInMarks o1 b then aT else ai (oE o1) (f a) (f b)
    |_::_=>aT
   |o2::ops=>match ops with
    |_::_=>aT
    |[]=>match bs with
     |[]=>aT
     |c::bs=>match bs with
      |_::_=>aT
      |[]=>if lastMarks [o1,o2] [b,c] then aT else C4 (oE o1) (oE o2) (f a) (f b) (f c)
noncomputable def Kr (f:Expr->FE)(op:BoolOp)(vs:List Expr)(p:Pos):FE:=match vs with
 |[]=>aT
 |a::r=>match r with
  |[]=>pX (f a)
  |b::r=>match op with
   |.And=>ig (f a) (f (.BoolOp .And (b::r) p))
   |.Or=>H4 (f a) (f (.BoolOp .Or (b::r) p))
noncomputable def KP (G:Gc)(rE:RE)(rB:RB)(L:Lc)(elt:Expr)(gs:List Comprehension)(sc:Scope)(p:Pos):FE:=match gs with
 |[]=>aT
 |g::gs=>match gs with
  |_::_=>aT
  |[]=>match g with
   |⟨tg,it,ifs,n⟩=>if n=0 then I6 G rE rB L elt tg it ifs sc p else aT
noncomputable def Fu:Expr->Bool
 |.UnaryOp op a _=>match op with
  |.USub=>match a with
   |.Constant c _ _=>match c with
    |.int i=>decide (i=1)
    |_=>false
   |_=>false
  |_=>false
 |_=>false
noncomputable def Ko (L:Lc)(f:Expr->FE)(a ix:Expr)(p:Pos):FE:=match ix with
 |.Slice lo hi st _=>match st with
  |none=>if AT L p then IU (f a) (vO f lo) (vO f hi) else A5 (f a) (vO f lo) (vO f hi)
  |some s=>if Fu s&&lo.isNone&&hi.isNone then Fj (f a) else aT
 |b=>if AT L p then ai A9 (f a) (f b) else ai aM (f a) (f b)
noncomputable def Km (G:Gc)(L:Lc)(f:Expr->FE)(d:Str)(q:Pos)(m:Str)(ap:Pos)(args:List Expr)(p:Pos):FE:=match args with
 |[]=>if m = "bit_length"&&ap.endLine==p.line then AB (f (.Name d q)) else aT
 |a::r=>if m = "get"&&ap.endLine==p.line&&(a::r).all jr&&decide (r.length<20) then zT tC (f (.Name d q)) (vA f (a::r)) else aT
noncomputable def Hw (G:Gc)(L:Lc)(f:Expr->FE)(fn:Expr)(args:List Expr)(kws:List Keyword)(p:Pos):FE:=match kws with
 |_::_=>aT
 |[]=>match fn with
  |.Name x _=>xJ G L f x args p
  |.Attribute o m ap=>match o with
   |.Name d q=>Km G L f d q m ap args p
   |_=>aT
  |_=>aT
noncomputable def Ka (G:Gc)(rE:RE)(rB:RB)(L:Lc):Expr->FE
 |.Constant c _ _=>KF c
 |.Name x _=>yf G L x
 |.BinOp a op b _=>ai (KC op) (rE L a) (rE L b)
 |.UnaryOp op a _=>Kw op (rE L a)
 |.Compare a ops bs _=>Kv (rE L) a ops bs
 |.BoolOp op vs p=>Kr (rE L) op vs p
 |.IfExp c a b _=>Il (rB L c) (rE L a) (rE L b)
 |.Tuple es _ _=>bE (vA (rE L) es)
 |.List es _=>e8 (vA (rE L) es)
 |.ListComp elt gs sc p=>KP G rE rB L elt gs sc p
 |.Subscript a ix p=>Ko L (rE L) a ix p
 |.Call fn args kws p=>Hw G L (rE L) fn args kws p
 |_=>aT
noncomputable def yK:Expr->Bool
 |.UnaryOp .Not _ _=>false
 |.BoolOp _ _ _=>false
 |.IfExp _ _ _ _=>false
 |.Compare _ _ _ _=>false
 |_=>true
noncomputable def vW (f:Expr->FB)(op:BoolOp):List Expr->FB
 |[]=>fun _=>none
 |[a]=>f a
 |a::r=>match op with
  |.And=>eI (f a) (vW f op r)
  |.Or=>lK (f a) (vW f op r)
noncomputable def IW (rE:RE)(rB:RB)(L:Lc):Expr->FB
 |.Compare a [op] [b] _=>if behindInMarks op b then fun _=>none else fT (ai (oE op) (rE L a) (rE L b))
 |.Compare a [o1,o2] [b,c] _=>if lastMarks [o1,o2] [b,c] then fun _=>none else fT (C4 (oE o1) (oE o2) (rE L a) (rE L b) (rE L c))
 |.BoolOp op vs _=>vW (rB L) op vs
 |.UnaryOp .Not a _=>fg (rB L a)
 |e=>if yK e then fT (rE L e) else fun _=>none
noncomputable def Kg (G:Gc)(rE:RE)(rB:RB)(L:Lc):Expr->FE
 |.ListComp elt [g] sc p=>Ka G rE rB L (.ListComp elt [g] sc p)
 |e=>match G.hk.e G.toGd rE rB L e with
  |some f=>f
  |none=>Ka G rE rB L e
noncomputable def wQ (G:Gc):Nat->RE×RB
 |0=>(fun _ _=>aT,fun _ _ _=>none)
 |n+1=>(Kg G (wQ G n).1 (wQ G n).2,fun L e=>match G.hk.b G.toGd (wQ G n).1 (wQ G n).2 L e with
  |some f=>f
  |none=>IW (wQ G n).1 (wQ G n).2 L e)
noncomputable def Cr (L:Lc)(v:Expr)(t:Str)(tp:Pos):Bool:=match v with
 |.ListComp _ _ s p|.SetComp _ _ s p|.DictComp _ _ _ s p=>L.sc.kind==.function&&L.sc.names.lookup t==some .local&&tp.line==p.line&&!(s.names.any fun (n,k)=>n==t&&(k==.local || k==.cell))
 |_=>false
noncomputable def Cv:Expr->Bool
 |.ListComp _ _ _ _|.SetComp _ _ _ _|.DictComp _ _ _ _ _=>true
 |_=>false
noncomputable def Ha:Expr->Bool
 |.List _ _=>true
 |.Call (.Name x _) _ _ _=>x == "list"
 |_=>false
noncomputable def Gm (L:Lc)(ts vs:List Expr):Option (Option (List Str)):=
 if (!(ts.length==2 || ts.length==3) || vs.length != ts.length || L.sc.kind != .function)=true then some none
 else if (vs.any fun|.Starred ..=>true|_=>false)=true then some none
 else
  let line:=(ts.head?.map (·.pos.line)).getD 0
  let names:=ts.filterMap fun
   |.Name id pos=>if L.sc.names.lookup id==some .local&&pos.line==line then some id else none
   |_=>none
  if (names.length != ts.length || names.eraseDups.length != names.length)=true then some none
  else if vs.all (foldedForSure 8)=true then some none
  else if vs.all (constantsAlone 8)=true then none
  else some (some names)
noncomputable def H9 (L:Lc)(tg v:Expr):Bool:=match tg,v with
 |.Tuple ts _ _,.Tuple vs _ _=>match Gm L ts vs with
  |some none=>true
  |_=>false
 |.Tuple _ _ _,_=>true
 |_,_=>false
noncomputable def frzs:List Nat->FS->FS
 |[],s=>s
 |i::r,s=>frzs r (wV i s)
noncomputable def vL (f:Stmt->FS):List Stmt->FS
 |[]=>aH
 |[s]=>f s
 |s::r=>aj (f s) (vL f r)
noncomputable def qA:Operator->Option (Int->Int->Int)
 |.Add=>some fun a b=>a+b
 |.Sub=>some fun a b=>a - b
 |_=>none
noncomputable def FG:Expr->Bool
 |.ListComp _ [⟨_,_,_,0⟩] _ _=>true
 |_=>false
noncomputable def J0 (L:Lc)(y:Nat)(v:Expr):Option FS:=match v with
 |.Call (.Attribute (.Name o _) m ap) [] [] cp=>match slot L o with
  |some i=>if m = "pop"&&ap.endLine==cp.line then some (BN sK y i ag) else none
  |none=>none
 |_=>none
noncomputable def Jq:Expr->Bool
 |.Name _ _=>true
 |_=>false
noncomputable def JU (G:Gc)(f:Expr->FE)(L:Lc)(tg v:Expr):Option FS:=match v with
 |.Call (.Name g _) (.Name x _::es) [] _=>match slot L x with
  |some i=>if (L.own.contains x || L.lent&&i==0)&&es.all jr&&(Jq tg || uU tg) then
    (match G.lents.lookup g with
     |some F=>if glob L g then some (CQ F i (Gi f es) (vT 5 L tg)) else none
     |none=>match slot L g with
      |some j=>if G.lents.isEmpty then none else some (nZ G.lents j i (Gi f es) (vT 5 L tg))
      |none=>none)
   else none
  |none=>none
 |_=>none
noncomputable def EH (G:Gc)(rE:RE)(L:Lc)(tg v:Expr):FS:=
 match tg with
 |.Name x p=>match ck L x with
  |some i=>if Cr L v x p&&!FG v then be else match J0 L i v with
   |some s=>s
   |none=>if L.own.contains x then gK i (rE L v) else aA i (rE L v)
  |none=>be
 |.Subscript (.Name j _) ix _=>match slot L j with
  |some i=>if dL ix&&!Cv v then j7 i (rE L ix) (rE L v) else be
  |none=>be
 |.Tuple [.Name x px,.Name y py] k pt=>match v with
  |.Tuple [a,b] _ _=>match Gm L [.Name x px,.Name y py] [a,b],ck L x,ck L y with
   |some (some l),some i,some j=>if l==[x,y]&&jr a&&jr b&&i != j&&L.sc.names.lookup x==some .local&&L.sc.names.lookup y==some .local then
     oF i j (vA (rE L) [a,b]) else be
   |some none,_,_=>dQ (rE L v) (vT 5 L tg)
   |_,_,_=>be
  |_=>if uU v then be else dQ (rE L v) (vT 5 L tg)
 |_=>if H9 L tg v then dQ (rE L v) (vT 5 L tg) else be
noncomputable def J7 (G:Gc)(rE:RE)(L:Lc)(tg v:Expr):FS:=match JU G (rE L) L tg v with
 |some s=>s
 |none=>EH G rE L tg v
noncomputable def KH (L:Lc)(f:Expr->FE)(v:Option Expr):FS:=match v with
 |none=>be
 |some e=>match e with
  |.Name x p=>match slot L x with
   |some i=>if L.top&&!L.lent then g8 i else be
   |none=>aO (f (.Name x p))
  |e=>aO (f e)
noncomputable def II (L:Lc)(f:Expr->FE)(tg:Expr)(op:Operator)(v:Expr):FS:=match tg with
 |.Name x _=>match ck L x with
  |none=>be
  |some i=>match qA op with
   |some g=>lR g i (f v)
   |none=>be
 |.Subscript b ix _=>match b with
  |.Name j _=>match slot L j with
   |none=>be
   |some i=>match qA op with
    |some g=>if dL ix then kF g i (f ix) (f v) else be
    |none=>be
  |_=>be
 |_=>be
noncomputable def FY (L:Lc)(f:Expr->FE)(o:Str)(q:Pos)(m:Str)(ap:Pos)(args:List Expr)(cp:Pos):FS:=match slot L o with
 |some i=>match args with
  |[]=>if ap.endLine==cp.line then (if m = "reverse" then qN Ah i ag else if m = "pop" then qN sK i ag else be) else be
  |a::as=>if m = "append"&&ap.endLine==cp.line&&(a::as).all jr&&decide (as.length<20) then qN jC i (vA f (a::as)) else be
 |none=>match args with
  |[]=>be
  |a::as=>hK (f (.Call (.Attribute (.Name o q) m ap) (a::as) [] cp))
noncomputable def JV (L:Lc)(f:Expr->FE)(fn:Expr)(args:List Expr)(kws:List Keyword)(cp:Pos):FS:=match kws with
 |_::_=>hK (f (.Call fn args kws cp))
 |[]=>match fn with
  |.Attribute b m ap=>match b with
   |.Name o q=>FY L f o q m ap args cp
   |b=>hK (f (.Call (.Attribute b m ap) args [] cp))
  |fn=>hK (f (.Call fn args [] cp))
noncomputable def J9:Expr->Bool
 |.Constant c _ _=>match c with
  |.str _=>true
  |_=>false
 |_=>false
noncomputable def DZ (L:Lc)(f:Expr->FE)(e:Expr):FS:=if J9 e then aH else match e with
 |.Call fn args kws cp=>JV L f fn args kws cp
 |e=>if Cv e then be else hK (f e)
noncomputable def Kj (G:Gc)(rE:RE)(rB:RB)(rS:Lc->Stmt->FS)(L:Lc):Stmt->FS
 |.Return v _=>KH L (rE L) v
 |.If c a b _=>gc (rB L c) (vL (rS L) a) (vL (rS L) b)
 |.For tg it body els _=>match els with
  |[]=>if AJ it then iz (vI G L (rE L) false tg it) (vT 5 L tg) (vL (rS L) body) else be
  |_::_=>be
 |.While c body els _=>match els with
  |[]=>cR (rB L c) (vL (rS L) body)
  |_::_=>be
 |.Assign tgs v _=>match tgs with
  |[]=>be
  |tg::r=>match r with
   |[]=>J7 G rE L tg v
   |_::_=>be
 |.AugAssign tg op v _=>II L (rE L) tg op v
 |.Expr e _=>DZ L (rE L) e
 |.Pass _=>aH
 |.Break _=>Ks
 |.Continue _=>Kn
 |_=>be
noncomputable def vS (G:Gc):Nat->Lc->Stmt->FS
 |0=>fun _ _=>be
 |n+1=>fun L s=>frzs ((L.frz.lookup s.pos.line).getD []) (match G.hk.s G.toGd (wQ G n).1 (wQ G n).2 (vS G n) L s with
  |some f=>f
  |none=>Kj G (wQ G n).1 (wQ G n).2 (vS G n) L s)
end Dp
end
section
namespace Dp
open PySem PySem.Spec L2 PyProof.Rows
noncomputable def BP (P:Program)(w:World)(mg:Str->Option Value)(base:Heap)(x:Str)(p:PV):Prop:=∃u,mg x=some u/\∀(h:Heap) (bad:Addr->Prop) (H:Hp),(∀b o,base.get? b=some o->h.get? b=some o/\H b=none/\¬bad b)->D ⟨hU bad H,P,w,mg⟩ h p u
structure GOk (P:Program)(w:World)(K:PySem.W.Frag)(mg:Str->Option Value)(base:Heap)(k:Nat)(G:Gd):Prop where
 bi:∀x,G.bi.contains x=true->mg x=none
 nis:∀x i,G.nis.lookup x=some i->∃t,mg x=some (.int i t)
 tups:∀x ps,G.tups.lookup x=some ps->BP P w mg base x (.ktu ps)
 vals:∀x,G.vals.contains x=true->∃a,mg x=some (.ref a)
 fns:∀x F,G.fns.lookup x=some F->∃j,j≤k/\DefN P w K mg base true j x F
 dcts:∀x kp,G.dcts.lookup x=some kp->BP P w mg base x (.dct kp.1 kp.2)
 tab:∀x F,G.tab.lookup x=some F->(∃j,j≤k/\DefN P w K mg base true j x F)\/mg x=none
 lents:∀x F,G.lents.lookup x=some F->∃j,j≤k/\DefL P w K mg base true j x F
structure Ok0 (X:Cx)(k:Nat)(G:Gd)(L:Lc):Prop where
 g:GOk X.prog X.w X.K X.mg X.base k G
 r:Rm k X.A
 sc:X.env.scope=L.sc
 N:X.N=L.N
 nd:L.N.Nodup
 fk:L.sc.kind=.function
 calm:X.calm=true
 top:L.top=true->∀x,X.fn x=true
 h0:L.lent=false->L.top=true->X.H₀=fun _=>none
 blk:L.top=false->X.fn "" = false
noncomputable abbrev Je (k:Nat)(G:Gd)(rE:RE):Prop:=∀{X:Cx} {L:Lc},Ok0 X k G L->∀e,NE X e (rE L e)
noncomputable abbrev Jy (k:Nat)(G:Gd)(rB:RB):Prop:=∀{X:Cx} {L:Lc},Ok0 X k G L->∀e,NB X e (rB L e)
structure HkOk (hk:Hk):Prop where
 e:∀{X:Cx} {k:Nat} {G:Gd} {L:Lc} {rE:RE} {rB:RB},Ok0 X k G L->Je k G rE->Jy k G rB->∀e f,hk.e G rE rB L e=some f->NE X e f
 i:∀{X:Cx} {k:Nat} {G:Gd} {L:Lc} {f:Expr->FE},Ok0 X k G L->(∀e,NE X e (f e))->∀tg it g,hk.i G L f tg it=some g->NI X true tg it g
 b:∀{X:Cx} {k:Nat} {G:Gd} {L:Lc} {rE:RE} {rB:RB},Ok0 X k G L->Je k G rE->Jy k G rB->∀e f,hk.b G rE rB L e=some f->NB X e f
 s:∀{X:Cx} {k:Nat} {G:Gd} {L:Lc} {rE:RE} {rB:RB} {rS:Lc->Stmt->FS},Ok0 X k G L->Je k G rE->Jy k G rB->(∀s,NS X s (rS L s))->∀st f,hk.s G rE rB rS L st=some f->NS X st f
structure Ok (X:Cx)(k:Nat)(G:Gc)(L:Lc):Prop extends Ok0 X k G.toGd L where
 hk:HkOk G.hk
theorem cr {X:Cx}{e:Expr}{f:FE}(h:∀ρ,f ρ=none):NE X e f:=fun z s r E hz q=>by rw[h] at q;cases q
theorem zd {X:Cx}{e:Expr}{f:FB}(h:∀ρ,f ρ=none):NB X e f:=fun z s r E hz q=>by rw[h] at q;cases q
theorem CI {X:Cx}{st:Bool}{e tg:Expr}{f:FI}(h:∀ρ,f ρ=none):NI X st tg e f:=fun z s r E hz q=>by rw[h] at q;cases q
theorem HG {X:Cx}{es:List Expr}:NA X es (fun _=>none):=fun z pos s r E hz q=>by cases q
theorem CA {X:Cx}{tg:Expr}:NG X tg (fun _ _=>none):=fun z s p u ρ E hz d q=>by cases q
section
variable {X:Cx}{k:Nat}{G:Gc}{L:Lc}{x:Str}{i:Nat}{pos:Pos}{e:Expr}
theorem aN (h:CG x=false):(x==("__debug__" : Str))=false/\(x==("__classdict__" : Str))=false/\x≠("__name__" : Str):=by
 unfold CG at h
 simp only[Bool.or_eq_false_iff] at h
 exact⟨h.1.1,h.1.2,fun z=>by have:=h.2;rw[z] at this;simp at this⟩
theorem mM {G:Gd}(o:Ok0 X k G L)(h:slot L x=some i):X.N[i]?=some x/\oo X.env.scope x/\CG x=false:=by
 unfold slot at h
 split at h
 ·next z=>
  rw[Bool.and_eq_true,Bool.not_eq_true'] at z
  refine⟨by rw[o.N];exact sT h,?_,z.2⟩
  have z1:=z.1
  unfold KJ at z1
  unfold oo
  rw[o.sc]
  split at z1<;>first|(next q=>simp[q])|cases z1
 ·cases h
theorem fM (o:Ok X k G L)(h:slot L x=some i):X.N[i]?=some x/\oo X.env.scope x/\CG x=false:=mM o.toOk0 h
theorem sd {G:Gd}(o:Ok0 X k G L)(h:glob L x=true):Gl X x/\CG x=false:=by
 unfold glob at h
 rw[Bool.and_eq_true,Bool.not_eq_true',beq_iff_eq] at h
 exact⟨by show X.env.scope.names.lookup x=_;rw[o.sc];exact h.1,h.2⟩
theorem fK (o:Ok X k G L)(h:glob L x=true):Gl X x/\CG x=false:=sd o.toOk0 h
theorem eP {G:Gd}(o:Ok0 X k G L)(h:ck L x=some i):Nm X i x:=by
 unfold ck at h
 split at h
 ·next z=>
  rw[Bool.or_eq_true,Bool.and_eq_true,beq_iff_eq,beq_iff_eq] at z
  obtain⟨i',h,h'⟩:=Option.bind_eq_some_iff.mp h
  split at h'
  ·cases h'
  next hl=>
  cases h'
  refine⟨by rw[o.N];exact o.nd,by rw[o.N];exact sT h,?_,?_,fun hf ⟨a,ha⟩ e=>?_⟩
  ·show X.env.scope.names.lookup x=_\/X.env.scope.names.lookup x=_
   rw[o.sc];exact z.elim .inl fun z=>.inr z.2
  ·rw[o.sc];exact z.elim .inr fun z=>.inl (o.top z.1 x)
  ·cases ht:L.top with
   |false=>rw[o.blk ht] at hf;cases hf
   |true=>
    cases hle:L.lent with
    |false=>exact ha (by rw[o.h0 hle ht])
    |true=>subst e;rw[hle] at hl;simp at hl
 ·cases h
theorem ez (o:Ok X k G L)(h:ck L x=some i):Nm X i x:=eP o.toOk0 h
theorem Gy (hm:X.mg x=none)(hg:Gl X x)(hd:CG x=false):NE X (.Name x pos) (Jj x):=by
 unfold Jj
 have key:∀n,bootBuiltins x=some (.type n)->NE X (.Name x pos) (fC (.ty n)):=fun n h=>HV hg hm h (aN hd).2.2 (aN hd).1
 repeat' split
 ·next z=>exact key _ (by rw[z];exact zP)
 ·next z=>exact key _ (by rw[z];exact Cy)
 ·next z=>exact key _ (by rw[z];exact yx)
 ·next z=>exact key _ (by rw[z];exact vj)
 ·next z=>exact key _ (by rw[z];exact nr)
 ·next z=>exact key _ (by rw[z];exact BD)
 ·exact cr fun _=>rfl
theorem Bn (o:Ok X k G L):NE X (.Name x pos) (yf G L x):=by
 unfold yf
 split
 ·next i h=>
  obtain⟨h1,h2,h3⟩:=fM o h
  exact GX h1 h2 (aN h3).1 (aN h3).2.1
 ·split
  ·next hg=>
   obtain⟨hg,hd⟩:=fK o hg
   split
   ·next i h=>
    obtain⟨t,m⟩:=o.g.nis x i h
    exact qr hg ⟨_,m,fun _ _ _ _=>⟨t,rfl⟩⟩ (aN hd).1
   ·split
    ·next ps h=>exact qr hg (o.g.tups x ps h) (aN hd).1
    ·split
     ·next h=>
      obtain⟨a,m⟩:=o.g.vals x h
      exact qr hg ⟨_,m,fun _ _ _ _=>⟨a,m,rfl⟩⟩ (aN hd).1
     ·split
      ·next kp h=>exact qr hg (o.g.dcts x kp h) (aN hd).1
      ·split
       ·next h=>exact Gy (o.g.bi x h) hg hd
       ·exact cr fun _=>rfl
  ·exact cr fun _=>rfl
theorem Ab {f:Expr->FE}(h:∀e,NE X e (f e)):∀{es:List Expr},es.all jr=true->NA X es (Gi f es)
 |[],_=>kG
 |e::es,z=>by
  rw[List.all_cons,Bool.and_eq_true] at z
  exact qk (h e) (Ab h z.2) (cG z.1 es X.env)
theorem kM {f:Expr->FE}(h:∀e,NE X e (f e))(es:List Expr):NA X es (vA f es):=by
 unfold vA
 split
 ·next z=>exact Ab h z
 ·exact HG
theorem IT (o:Ok X k G L)(hx:G.bi.contains x=true)(hgl:glob L x=true){es:List Expr}{fs:FA}{p:Pos}{alt:Bool}{n:Nat}(ha:NA X (e::es) fs)(hs:(e::es).all jr=true):NE X (.Call (.Name x p) (e::es) [] pos) (IX x alt n fs):=by
 obtain⟨hg,hd⟩:=fK o hgl
 have hm:=o.g.bi x hx
 rw[List.all_cons,Bool.and_eq_true] at hs
 have he:=cG hs.1 es X.env
 have hp:(backTo pos (starEach es X.env)).any (·.1)=false:=gM hs.2
 obtain⟨d1,d2,d3⟩:=aN hd
 have hc:=o.calm
 have B:∀{id g},cq X (.builtin id) g->bootBuiltins x=some (.builtin id)->NE X (.Call (.Name x p) (e::es) [] pos) (fB g fs):=fun c b=>Kh c hg hm b ha d3 d1 he hp
 have T:∀{id g},cq X (.type id) g->bootBuiltins x=some (.type id)->NE X (.Call (.Name x p) (e::es) [] pos) (fB g fs):=fun c b=>Jo c hg hm b ha d3 d1 he hp
 unfold IX
 by_cases z:x = "len"
 ·rw[if_pos z]
  exact B HL (by rw[z];exact ES)
 rw[if_neg z];clear z
 by_cases z:x = "abs"
 ·rw[if_pos z]
  exact B Io (by rw[z];exact D3)
 rw[if_neg z];clear z
 by_cases z:x = "all"
 ·rw[if_pos z]
  exact B (Iv hc) (by rw[z];exact DS)
 rw[if_neg z];clear z
 by_cases z:x = "any"
 ·rw[if_pos z]
  exact B (GB hc) (by rw[z];exact FD)
 rw[if_neg z];clear z
 by_cases z:x = "isinstance"
 ·rw[if_pos z]
  exact B JM (by rw[z];exact oH)
 rw[if_neg z];clear z
 by_cases z:x = "sorted"
 ·rw[if_pos z]
  split
  ·exact B Bo (by rw[z];exact pz)
  ·exact B xL (by rw[z];exact pz)
 rw[if_neg z];clear z
 by_cases z:x = "max"
 ·rw[if_pos z]
  split
  ·exact B (Fk hc) (by rw[z];exact AE)
  ·exact B (IM hc) (by rw[z];exact AE)
 rw[if_neg z];clear z
 by_cases z:x = "min"
 ·rw[if_pos z]
  split
  ·exact B (FR hc) (by rw[z];exact AC)
  ·exact B (Hi hc) (by rw[z];exact AC)
 rw[if_neg z];clear z
 by_cases z:x = "sum"
 ·rw[if_pos z]
  exact B (IA hc) (by rw[z];exact D9)
 rw[if_neg z];clear z
 by_cases z:x = "int"
 ·rw[if_pos z]
  exact T GS (by rw[z];exact zP)
 rw[if_neg z];clear z
 by_cases z:x = "tuple"
 ·rw[if_pos z]
  split
  ·exact T (E9 hc) (by rw[z];exact nr)
  ·exact T Ii (by rw[z];exact nr)
 rw[if_neg z];clear z
 by_cases z:x = "list"
 ·rw[if_pos z]
  exact T (DO hc) (by rw[z];exact vj)
 rw[if_neg z];clear z
 by_cases z:x = "range"
 ·rw[if_pos z]
  exact T Hs (by rw[z];exact zm)
 rw[if_neg z];clear z
 by_cases z:x = "str"
 ·rw[if_pos z]
  exact T G6 (by rw[z];exact yx)
 rw[if_neg z];clear z
 exact cr fun _=>rfl
theorem Cq (o:Ok X k G L){f:Expr->FE}(h:∀e,NE X e (f e)){p:Pos}(args:List Expr):NE X (.Call (.Name x p) args [] pos) (xJ G L f x args pos):=by
 unfold xJ
 split
 ·next i hi=>
  obtain⟨h1,h2,h3⟩:=fM o hi
  cases args with
  |nil=>exact cr fun _=>rfl
  |cons e es=>
   show NE X _ (mN G.tab i (vA f (e::es)))
   by_cases hs:(e::es).all jr=true
   ·have ha:=kM h (e::es)
    rw[List.all_cons,Bool.and_eq_true] at hs
    exact Ce o.g.tab (fun _=>o.calm) o.r h1 h2 (aN h3).1 (aN h3).2.1 ha (cG hs.1 es X.env) (gM hs.2)
   ·have:vA f (e::es)=fun _=>none:=by unfold vA;rw[if_neg hs]
    rw[this];exact cr fun _=>rfl
 ·split
  ·next hgl=>
   obtain⟨hg,hd⟩:=fK o hgl
   obtain⟨d1,d2,d3⟩:=aN hd
   split
   ·next F hF=>
    obtain⟨j,hj,D⟩:=o.g.fns x F hF
    cases args with
    |nil=>exact B9 D hj (fun _=>o.calm) o.r hg d1
    |cons e es=>
     show NE X _ (ao F (vA f (e::es)))
     by_cases hs:(e::es).all jr=true
     ·have ha:=kM h (e::es)
      rw[List.all_cons,Bool.and_eq_true] at hs
      exact En D hj (fun _=>o.calm) o.r hg ha d1 (cG hs.1 es X.env) (gM hs.2)
     ·have:vA f (e::es)=fun _=>none:=by unfold vA;rw[if_neg hs]
      rw[this];exact cr fun _=>rfl
   ·split
    ·next hb=>
     rw[Bool.and_eq_true] at hb
     cases args with
     |nil=>cases hb.2
     |cons e es=>
      by_cases hs:(e::es).all jr=true
      ·exact IT o hb.1 hgl (kM h (e::es)) hs
      ·have:vA f (e::es)=fun _=>none:=by unfold vA;rw[if_neg hs]
       rw[this]
       have nn:∀g,fB g (fun _=>none)=aT:=fun _=>rfl
       simp only[IX,nn,ite_self]
       exact cr fun _=>rfl
    ·exact cr fun _=>rfl
  ·exact cr fun _=>rfl
theorem qq {env:Env}:∀{es:List Expr},es.all jr=true->(assignEach es env).length=es.length/\(assignEach es env).findIdx? (·.1)=none/\∀e r,es=e::r->(assignEach es env).map (·.2)=assign e env::(assignEach r env).map (·.2)
 |[],_=>⟨rfl,rfl,fun _ _ h=>by cases h⟩
 |e::r,h=>by
  rw[List.all_cons,Bool.and_eq_true] at h
  have he:assignEach (e::r) env=(false,assign e env)::assignEach r env:=by
   have:=h.1
   cases e<;>first|rfl|(cases this)
  obtain⟨h1,h2,_⟩:=qq (env:=env) h.2
  rw[he]
  refine⟨by rw[List.length_cons,List.length_cons,h1],?_,fun _ _ q=>by cases q;rfl⟩
  rw[List.findIdx?_cons,h2];rfl
theorem xF {f:Expr->FT}(h:∀e,NG X e (f e)):∀{es:List Expr},es.all jr=true->Ia X es (I7 f es)
 |[],_=>KL
 |e::r,z=>by
  have:=(qq (env:=X.env) z).2.2 e r rfl
  rw[List.all_cons,Bool.and_eq_true] at z
  exact KO (h e) (xF h z.2) this
theorem qW:∀(n:Nat) {L:Lc} {X:Cx},Ok X k G L->∀e,NG X e (vT n L e)
 |0,_,_,_,e=>by cases e<;>exact CA
 |n+1,L,X,o,e=>by
  cases e<;>first|exact CA|skip
  ·rename_i x p
   unfold vT
   cases h:ck L x with
   |some i=>exact Jp (ez o h)
   |none=>exact CA
  ·rename_i es kk p
   unfold vT
   split
   ·next z=>
    obtain⟨h1,h2,_⟩:=qq (env:=X.env) z
    exact KY o.calm (xF (qW n o) z) h1 h2
   ·exact CA
theorem uC {fm:List (Option Nat)}:FK fm (fun _ _=>none):=fun _ _ _ e=>by cases e
theorem As {fm:List (Option Nat)}{f:Expr->FT}:∀{es:List Expr},(∀e∈es,FK fm (f e))->IH fm (I7 f es)
 |[],_=>JE
 |e::r,h=>J4 (h e List.mem_cons_self) (As fun e he=>h e (List.mem_cons_of_mem _ he))
theorem CK {fm:List (Option Nat)}:∀(n:Nat) (L:Lc) (e:Expr),(∀i∈HD n L e,fm[i]?=some none)->FK fm (vT n L e)
 |0,L,e,_=>by cases e<;>exact uC
 |n+1,L,e,h=>by
  cases e<;>first|exact uC|skip
  ·unfold vT
   unfold HD at h
   cases hs:ck L _ with
   |some i=>exact JC (h i (by rw[hs];simp))
   |none=>exact uC
  ·rename_i es kk p
   unfold vT
   split
   ·refine JX (As fun e he=>CK n L e fun i hi=>h i ?_)
    unfold HD
    exact List.mem_flatMap.mpr ⟨e,he,hi⟩
   ·exact uC
theorem C5 (o:Ok X k G L){f:Expr->FE}(h:∀e,NE X e (f e))(tg it:Expr):NI X true tg it (vI G L f false tg it):=by
 have no:∀{es:List Expr},¬es.all jr=true->vA f es=fun _=>none:=fun {es} hs=>by unfold vA;rw[if_neg hs]
 unfold vI
 rw[if_neg Bool.false_ne_true]
 split
 ·next g hg=>exact o.hk.i o.toOk0 h tg it g hg
 rename_i hno
 clear hno
 split
 ·next y p a p'=>
  split
  ·next z=>
   rw[Bool.and_eq_true,Bool.and_eq_true,decide_eq_true_eq] at z
   obtain⟨⟨rfl,z2⟩,z3⟩:=z
   obtain⟨hg,hd⟩:=fK o z2
   by_cases hs:[a].all jr=true
   ·exact yR hg (o.g.bi _ z3) (kM h [a]) (by
     rw[List.all_cons,Bool.and_eq_true] at hs
     exact cG hs.1 [] X.env)
   ·rw[no hs];exact CI fun _=>rfl
  ·split
   ·next z=>
    rw[Bool.and_eq_true,Bool.and_eq_true,Bool.and_eq_true,decide_eq_true_eq] at z
    obtain⟨⟨⟨rfl,z2⟩,z3⟩,z4⟩:=z
    obtain⟨hg,hd⟩:=fK o z2
    obtain⟨elts,kk,tp,rfl⟩:∃elts kk tp,tg=.Tuple elts kk tp:=by
     cases tg<;>first|exact⟨_,_,_,rfl⟩|(cases z4)
    by_cases hs:[a].all jr=true
    ·exact Ef hg (o.g.bi _ z3) (kM h [a]) (by
      rw[List.all_cons,Bool.and_eq_true] at hs
      exact cG hs.1 [] X.env)
    ·rw[no hs];exact CI fun _=>rfl
   ·exact q9 (h _)
 ·next y p a b p'=>
  split
  ·next z=>
   rw[Bool.and_eq_true,Bool.and_eq_true,decide_eq_true_eq] at z
   obtain⟨⟨rfl,z2⟩,z3⟩:=z
   obtain⟨hg,hd⟩:=fK o z2
   by_cases hs:[a,b].all jr=true
   ·have hs':=hs
    rw[List.all_cons,List.all_cons,Bool.and_eq_true,Bool.and_eq_true] at hs'
    have e1:starEach [b] X.env=[(false,eval b X.env)]:=cG hs'.2.1 [] X.env
    exact Ek hg (o.g.bi _ z3) (kM h [a,b]) (by rw[cG hs'.1 [b] X.env,e1]) e1
   ·rw[no hs];exact CI fun _=>rfl
  ·exact q9 (h _)
 ·next y p a b d p'=>
  split
  ·next z=>
   rw[Bool.and_eq_true,Bool.and_eq_true,decide_eq_true_eq] at z
   obtain⟨⟨rfl,z2⟩,z3⟩:=z
   obtain⟨hg,hd⟩:=fK o z2
   by_cases hs:[a,b,d].all jr=true
   ·have hs':=hs
    rw[List.all_cons,List.all_cons,List.all_cons,Bool.and_eq_true,Bool.and_eq_true,Bool.and_eq_true] at hs'
    have e2:starEach [d] X.env=[(false,eval d X.env)]:=cG hs'.2.2.1 [] X.env
    have e1:starEach [b,d] X.env=[(false,eval b X.env),(false,eval d X.env)]:=by rw[cG hs'.2.1 [d] X.env,e2]
    exact Eg hg (o.g.bi _ z3) (kM h [a,b,d]) (by rw[cG hs'.1 [b,d] X.env,e1]) e1
   ·rw[no hs];exact CI fun _=>rfl
  ·exact q9 (h _)
 ·exact q9 (h _)
theorem s9 (o:Ok X k G L){sc:Scope}{tg:Expr}{N2:List Str}(hk:sc.kind=.function)(hn:N2.Nodup){C:Addr}{s:Shared}{H:Hp}{ex:List Addr}:Ok (X.blk sc N2 C s H ex) k G (HQ L sc tg N2) where
 hk:=o.hk
 g:=o.g
 r:=o.r
 sc:=by
  show relabel sc X.env=sr sc L.sc
  unfold relabel sr
  rw[show X.env.kindOf=fun x=>L.sc.names.lookup x by funext x;show X.env.scope.names.lookup x=_;rw[o.sc],o.sc]
 N:=rfl
 nd:=hn
 fk:=hk
 calm:=o.calm
 top:=fun h=>by cases h
 h0:=fun _ h=>by cases h
 blk:=fun _=>rfl
structure CpOk (X:Cx)(elt tg it:Expr)(ifs:List Expr)(sc:Scope)(f:FE):Prop where
 ex:(∀ρ,f ρ=none)\/∃(N2:List Str) (fm:List (Option Nat)) (fi:FI) (t:FT) (c:FB) (fe:FE),f=bM fm fi t c fe/\Blk X sc N2 fm/\NI X false tg it fi ∧
  (∀C s H ex,NG (X.blk sc N2 C s H ex) tg t)/\FK fm t/\(∀C s H ex,Gg (X.blk sc N2 C s H ex) ifs c)/\(∀C s H ex,NE (X.blk sc N2 C s H ex) elt fe)/\∀x,foldedSetIterable it X.env x=pure x
theorem Dm (o:Ok X k G L){rE:RE}{rB:RB}(hE:∀{X:Cx} {L:Lc},Ok X k G L->∀e,NE X e (rE L e))(hB:∀{X:Cx} {L:Lc},Ok X k G L->∀e,NB X e (rB L e))(elt tg it:Expr)(ifs:List Expr)(sc:Scope)(p:Pos) :
  CpOk X elt tg it ifs sc (I6 G rE rB L elt tg it ifs sc p):=by
 unfold I6
 split
 ·exact⟨.inl fun _=>rfl⟩
 ·next N2 _=>
  split
  ·next z=>
   unfold Kt at z
   rw[Bool.and_eq_true,Bool.and_eq_true,Bool.and_eq_true,decide_eq_true_eq] at z
   obtain⟨⟨⟨z1,z2⟩,z3⟩,z4⟩:=z
   have hk:sc.kind=.function:=by
    unfold qI at z1
    simp only[Bool.and_eq_true,beq_iff_eq] at z1
    exact z1.1.1.1.1.1
   refine⟨.inr ⟨N2,I2 L tg N2,_,_,_,_,rfl,⟨EO ?_,z2⟩,?_,fun C s H ex=>qW 5 (s9 o hk z2) tg,CK 5 _ tg fun i hi=>?_,fun C s H ex=>?_,fun C s H ex=>hE (s9 o hk z2) elt,fun x=>?_⟩⟩
   ·rw[show X.env.kindOf=fun x=>L.sc.names.lookup x by funext x;show X.env.scope.names.lookup x=_;rw[o.sc],o.N]
    exact z1
   ·cases ho:Dq L it with
    |true=>unfold vI;rw[if_pos rfl];exact F2 (hE o it)
    |false=>exact (C5 o (hE o) tg it).any
   ·exact by simpa using List.all_eq_true.mp z3 i hi
   ·have ob:=s9 o (tg:=tg) hk z2 (C:=C) (s:=s) (H:=H) (ex:=ex)
    cases ifs with
    |nil=>exact Fa
    |cons c r=>cases r with
     |nil=>exact Fg (hB ob c)
     |cons=>exact fun z s b E hz q=>by cases q
   ·cases it<;>first|rfl|(cases z4)
  ·exact⟨.inl fun _=>rfl⟩
theorem CpOk.ne {elt tg it:Expr}{ifs:List Expr}{sc:Scope}{p:Pos}{f:FE}(o:Ok X k G L)(h:CpOk X elt tg it ifs sc f):NE X (.ListComp elt [⟨tg,it,ifs,0⟩] sc p) f:=by
 rcases h.ex with h|⟨N2,fm,fi,t,c,fe,rfl,h1,h2,h3,h4,h5,h6,h7⟩
 ·exact cr h
 ·exact El h1 o.calm h2 h3 h4 h5 h6 h7
end
end Dp
end
section
namespace Dp
open PySem PySem.Spec L2 PyProof.Rows
section
variable {X:Cx}{k:Nat}{G:Gc}{L:Lc}{x:Str}{i:Nat}{pos:Pos}{e:Expr}
theorem qE {cp:Pos}{env:Env}:∀{es:List Expr},es.all jr=true->((backTo cp (starEach es env)).all fun x=>!x.fst)=true
 |[],_=>rfl
 |e::es,h=>by
  rw[List.all_cons,Bool.and_eq_true] at h
  rw[cG h.1]
  exact qE (es:=es) h.2
theorem zJ {d m:Str}{q ap cp:Pos}{es:List Expr}(hl:(ap.endLine==cp.line)=true)(hs:es.all jr=true)(hn:es.length<21):Mc X (.Name d q) m ap cp es:=by
 refine⟨rfl,hl,?_,fun e r he=>?_⟩
 ·rw[qE hs]
  show (true&&true&&decide _)=true
  rw[Bool.and_self,Bool.true_and,decide_eq_true_eq]
  simp only[List.length_nil,List.isEmpty_nil,if_true]
  omega
 ·subst he
  rw[List.all_cons,Bool.and_eq_true] at hs
  exact⟨cG hs.1 r X.env,gM hs.2⟩
theorem nS {b:Expr}(h:dL b=true):ux b:=by
 cases b<;>first|(exact fun _ _=>rfl)|skip
 rename_i lo hi st p
 cases st with
 |none=>cases h
 |some s=>exact fun _ _=>rfl
theorem xn {env:Env}(h:yK e=true):∀whole,PySem.isTrue e env whole=(do let v ←whole;standAt e.pos;holding [v] (truthy v)):=by
 cases e<;>first|(exact fun _=>rfl)|(cases h;done)|skip
 rename_i op a p
 cases op<;>first|(exact fun _=>rfl)|(cases h;done)
theorem vq {f:Expr->FE}(h:∀e,NE X e (f e)):∀o,NO X o (vO f o)
 |none=>B5
 |some e=>Br (h e)
theorem GR {f:Expr->FB}(h:∀e,NB X e (f e))(op:BoolOp):∀(vs:List Expr),vs≠[]->NW X (.BoolOp op vs pos) (vW f op vs)
 |[],z=>(z rfl).elim
 |[a],_=>by cases op;exact EA (h a);exact Ho (h a)
 |a::b::r,_=>by
  have ih:=GR h op (b::r) (by simp)
  cases op
  ·exact Ir (h a) ih
  ·exact Kc (h a) ih
theorem KK {op:BoolOp}{vs:List Expr}{f:FB}(h:NW X (.BoolOp op vs pos) f):NB X (.BoolOp op vs pos) f:=fun z s b E hz q=>h z _ s b E hz q
theorem FL {c:Const}{kd:Nat}:NE X (.Constant c kd pos) (KF c):=by
 cases c<;>first|exact n_int|exact JW|exact Hq|exact n_str|exact cr fun _=>rfl
theorem Cl {s:Expr}(h:Fu s=true):∃p1 k p2,s=.UnaryOp .USub (.Constant (.int 1) k p1) p2:=by
 cases s<;>first|(cases h;done)|skip
 rename_i op a p
 cases op<;>first|(cases h;done)|skip
 cases a<;>first|(cases h;done)|skip
 rename_i c k p1
 cases c<;>first|(cases h;done)|skip
 rename_i i
 have:i=1:=of_decide_eq_true h
 subst this
 exact⟨_,_,_,rfl⟩
section
variable {f:Expr->FE}(hf:∀e,NE X e (f e))
include hf
theorem Fb {op:UnaryOp}{a:Expr}:NE X (.UnaryOp op a pos) (Kw op (f a)):=by
 cases op<;>first|exact CU (hf _)|exact GQ (hf _)|exact cr fun _=>rfl
theorem E7 (o:Ok X k G L){a:Expr}{ops:List CmpOp}{bs:List Expr}:NE X (.Compare a ops bs pos) (Kv f a ops bs):=by
 have hu:=o.r.units
 cases ops with
 |nil=>exact cr fun _=>rfl
 |cons o1 ops=>cases bs with
  |nil=>exact cr fun _=>rfl
  |cons b bs=>cases ops with
   |nil=>cases bs with
    |nil=>
     show NE X _ (if behindInMarks o1 b then aT else ai (oE o1) (f a) (f b))
     split
     ·exact cr fun _=>rfl
     ·next z=>exact H0 (o9 hu _) (hf _) (hf _) (by simpa using z)
    |cons=>exact cr fun _=>rfl
   |cons o2 ops=>cases ops with
    |cons=>exact cr fun _=>rfl
    |nil=>cases bs with
     |nil=>exact cr fun _=>rfl
     |cons c bs=>cases bs with
      |cons=>exact cr fun _=>rfl
      |nil=>
       show NE X _ (if lastMarks [o1,o2] [b,c] then aT else C4 (oE o1) (oE o2) (f a) (f b) (f c))
       split
       ·exact cr fun _=>rfl
       ·next z=>exact Ji (o9 hu _) (o9 hu _) (hf _) (hf _) (hf _) (by simpa using z)
theorem Eh {op:BoolOp}{vs:List Expr}:NE X (.BoolOp op vs pos) (Kr f op vs pos):=by
 cases vs with
 |nil=>exact cr fun _=>rfl
 |cons a r=>cases r with
  |nil=>exact Ip (hf _)
  |cons b r=>cases op with
   |And=>exact HZ (hf _) (hf _)
   |Or=>exact JY (hf _) (hf _)
theorem Fs {a ix:Expr}:NE X (.Subscript a ix pos) (Ko L f a ix pos):=by
 have other:∀b:Expr,dL b=true->NE X (.Subscript a b pos) (if AT L pos then ai A9 (f a) (f b) else ai aM (f a) (f b)):=fun b z=>by
  split
  ·exact IG yL (hf _) (hf _) (nS z)
  ·exact IG DP (hf _) (hf _) (nS z)
 cases ix<;>first|exact other _ rfl|skip
 rename_i lo hi st p
 cases st with
 |none=>
  show NE X _ (if AT L pos then IU (f a) (vO f lo) (vO f hi) else A5 (f a) (vO f lo) (vO f hi))
  split
  ·exact HR IJ (hf _) (vq hf _) (vq hf _)
  ·exact HR Kb (hf _) (vq hf _) (vq hf _)
 |some s=>
  show NE X _ (if Fu s&&lo.isNone&&hi.isNone then Fj (f a) else aT)
  split
  ·next z=>
   rw[Bool.and_eq_true,Bool.and_eq_true] at z
   obtain⟨⟨z1,z2⟩,z3⟩:=z
   obtain⟨p1,kk,p2,rfl⟩:=Cl z1
   cases lo with
   |some=>cases z2
   |none=>cases hi with
    |some=>cases z3
    |none=>exact HS (hf _) (.inr (CU n_int))
  ·exact cr fun _=>rfl
theorem DN {d m:Str}{q ap:Pos}{args:List Expr}:NE X (.Call (.Attribute (.Name d q) m ap) args [] pos) (Km G L f d q m ap args pos):=by
 cases args with
 |nil=>
  show NE X _ (if m = "bit_length"&&ap.endLine==pos.line then AB (f (.Name d q)) else aT)
  split
  ·next z=>
   rw[Bool.and_eq_true,decide_eq_true_eq] at z
   obtain⟨rfl,z2⟩:=z
   exact DY (hf _) z2
  ·exact cr fun _=>rfl
 |cons a r=>
  show NE X _ (if m = "get"&&ap.endLine==pos.line&&(a::r).all jr&&decide (r.length<20) then zT tC (f (.Name d q)) (vA f (a::r)) else aT)
  split
  ·next z=>
   rw[Bool.and_eq_true,Bool.and_eq_true,Bool.and_eq_true,decide_eq_true_eq,decide_eq_true_eq] at z
   obtain⟨⟨⟨rfl,z1⟩,z2⟩,z3⟩:=z
   exact HU GP (zJ z1 z2 (by rw[List.length_cons];omega)) (hf _) (kM hf _) (fun e=>by cases e)
  ·exact cr fun _=>rfl
theorem BE (o:Ok X k G L){fn:Expr}{args:List Expr}{kws:List Keyword}:NE X (.Call fn args kws pos) (Hw G L f fn args kws pos):=by
 cases kws with
 |cons=>exact cr fun _=>rfl
 |nil=>
  cases fn<;>first|exact cr fun _=>rfl|exact Cq o hf _|skip
  rename_i ob m ap
  cases ob<;>first|exact cr fun _=>rfl|exact DN (G:=G) (L:=L) hf
end
theorem zo (o:Ok X k G L){rE:RE}{rB:RB}(hE:∀{X:Cx} {L:Lc},Ok X k G L->∀e,NE X e (rE L e))(hB:∀{X:Cx} {L:Lc},Ok X k G L->∀e,NB X e (rB L e))(e:Expr):NE X e (Ka G rE rB L e):=by
 cases e with
 |Constant c kd p=>exact FL
 |Name x p=>exact Bn o
 |BinOp a op b p=>exact JT (Jn op) (hE o _) (hE o _)
 |UnaryOp op a p=>exact Fb (hE o)
 |Compare a ops bs p=>exact E7 (hE o) o
 |BoolOp op vs p=>exact Eh (hE o)
 |IfExp c a b p=>exact Jv (hB o _) (hE o _) (hE o _)
 |Tuple es kk p=>exact Hd (kM (hE o) _)
 |List es p=>exact CN (kM (hE o) _)
 |ListComp elt gs sc p=>
  cases gs with
  |nil=>exact cr fun _=>rfl
  |cons g gs=>cases gs with
   |cons=>exact cr fun _=>rfl
   |nil=>
    obtain⟨tg,it,ifs,n⟩:=g
    show NE X _ (if n=0 then I6 G rE rB L elt tg it ifs sc p else aT)
    split
    ·next z=>subst z;exact (Dm o hE hB _ _ _ _ _ _).ne o
    ·exact cr fun _=>rfl
 |Subscript a ix p=>exact Fs (hE o)
 |Call fn args kws p=>exact BE (hE o) o
 |_=>exact cr fun _=>rfl
theorem F1 (o:Ok X k G L){rE:RE}{rB:RB}(hE:∀{X:Cx} {L:Lc},Ok X k G L->∀e,NE X e (rE L e))(hB:∀{X:Cx} {L:Lc},Ok X k G L->∀e,NB X e (rB L e))(e:Expr):NB X e (IW rE rB L e):=by
 have hu:=o.r.units
 unfold IW
 split
 ·split
  ·exact zd fun _=>rfl
  ·next z=>exact Hj (o9 hu _) (hE o _) (hE o _) (by simpa using z)
 ·split
  ·exact zd fun _=>rfl
  ·next z=>exact Js (o9 hu _) (o9 hu _) (hE o _) (hE o _) (hE o _) (by simpa using z)
 ·next op vs p=>
  cases vs with
  |nil=>exact zd fun _=>rfl
  |cons a r=>exact KK (GR (hB o) op (a::r) (by simp))
 ·exact Hx (hB o _)
 ·split
  ·next z=>exact GN (hE o _) (xn z)
  ·exact zd fun _=>rfl
end
theorem E1 {X:Cx}{k:Nat}{G:Gc}{L:Lc}(o:Ok X k G L){rE:RE}{rB:RB}(hE:∀{X:Cx} {L:Lc},Ok X k G L->∀e,NE X e (rE L e))(hB:∀{X:Cx} {L:Lc},Ok X k G L->∀e,NB X e (rB L e))(e:Expr):NE X e (Kg G rE rB L e):=by
 unfold Kg
 split
 ·exact zo o hE hB _
 ·split
  ·next f hf=>exact o.hk.e o.toOk0 (fun o'=>hE ⟨o',o.hk⟩) (fun o'=>hB ⟨o',o.hk⟩) _ f hf
  ·exact zo o hE hB _
theorem Bv {X:Cx}{k:Nat}{G:Gc}{L:Lc}(o:Ok X k G L){rE:RE}{rB:RB}(hE:∀{X:Cx} {L:Lc},Ok X k G L->∀e,NE X e (rE L e))(hB:∀{X:Cx} {L:Lc},Ok X k G L->∀e,NB X e (rB L e))(e:Expr):NB X e (match G.hk.b G.toGd rE rB L e with
  |some f=>f
  |none=>IW rE rB L e):=by
 split
 ·next f hf=>exact o.hk.b o.toOk0 (fun o'=>hE ⟨o',o.hk⟩) (fun o'=>hB ⟨o',o.hk⟩) _ f hf
 ·exact F1 o hE hB _
theorem je {k:Nat}{G:Gc}:∀n:Nat,(∀{X:Cx} {L:Lc},Ok X k G L->∀e,NE X e ((wQ G n).1 L e))/\∀{X:Cx} {L:Lc},Ok X k G L->∀e,NB X e ((wQ G n).2 L e)
 |0=>⟨fun _ _=>cr fun _=>rfl,fun _ _=>zd fun _=>rfl⟩
 |n+1=>⟨fun o e=>E1 o (je n).1 (je n).2 e,fun o e=>Bv o (je n).1 (je n).2 e⟩
noncomputable abbrev HE (k:Nat)(G:Gc)(rE:RE):Prop:=∀{X:Cx} {L:Lc},Ok X k G L->∀e,NE X e (rE L e)
noncomputable abbrev HB (k:Nat)(G:Gc)(rB:RB):Prop:=∀{X:Cx} {L:Lc},Ok X k G L->∀e,NB X e (rB L e)
noncomputable abbrev HC (k:Nat)(G:Gc)(rE:RE):Prop:=∀{X:Cx} {L:Lc},Ok X k G L->∀elt tg it ifs sc p,CpOk X elt tg it ifs sc (rE L (.ListComp elt [⟨tg,it,ifs,0⟩] sc p))
theorem GY {k:Nat}{G:Gc}:∀n,HC k G (wQ G n).1
 |0=>fun _ _ _ _ _ _ _=>⟨.inl fun _=>rfl⟩
 |n+1=>fun o _ _ _ _ _ _=>Dm o (je n).1 (je n).2 _ _ _ _ _ _
end Dp
end
section
namespace Dp
open PySem PySem.Spec L2 PyProof.Rows
section
variable {X:Cx}{k:Nat}{G:Gc}{L:Lc}{x:Str}{i:Nat}{pos:Pos}{e v tg:Expr}
theorem yM {st:Stmt}{s:FS}(h:∀ρ,s ρ=.bad):NS X st s:=fun z s' E hz hb=>absurd (h _) hb
theorem Ok0.bk {G:Gd}(o:Ok0 X k G L):X.env.blockKind=.function:=by
 unfold Env.blockKind
 rw[o.sc,o.fk];rfl
theorem xB {G:Gd}(o:Ok0 X k G L){t:Str}{p:Pos}{ln:Nat}:swapsWith v (some (.Name t p)) ln X.env=pure (Cr L v t p):=by
 have hk:X.env.kindOf t=L.sc.names.lookup t:=by show X.env.scope.names.lookup t=_;rw[o.sc]
 cases v<;>first|rfl|skip
 all_goals
  simp only[swapsWith,Cr,o.bk,hk,o.fk]
  rfl
theorem Df (o:Ok X k G L){t:Str}{p:Pos}{ln:Nat}:swapsWith v (some (.Name t p)) ln X.env=pure (Cr L v t p):=xB o.toOk0
theorem zI {ts:List Expr}{kk:Nat}{p:Pos}{ln:Nat}:swapsWithSole [.Tuple ts kk p] v ln X.env=pure false:=by cases v<;>rfl
theorem Ep {a b:Expr}{p:Pos}{ln:Nat}:swapsWithSole [.Subscript a b p] v ln X.env=pure false:=by cases v<;>rfl
theorem A8 {ln:Nat}(h:Cv v=false):swapsWith v none ln X.env=pure false:=by
 cases v<;>first|rfl|(cases h)
theorem ue {G:Gd}(o:Ok0 X k G L){ts vs:List Expr}{k1 k2:Nat}{p1 p2:Pos}{r:Option (List Str)}(h:Gm L ts vs=some r):swappedStores [.Tuple ts k1 p1] (.Tuple vs k2 p2) X.env=pure r:=by
 have hk:X.env.kindOf=fun x=>L.sc.names.lookup x:=by funext t;show X.env.scope.names.lookup t=_;rw[o.sc]
 unfold Gm at h
 unfold swappedStores
 dsimp only
 rw[o.bk,hk]
 rw[o.fk] at h
 split at h
 ·next z=>cases h;exact if_pos z
 ·next z=>
  refine (if_neg z).trans ?_
  split at h
  ·next z=>cases h;exact if_pos z
  ·next z=>
   refine (if_neg z).trans ?_
   dsimp only at h
   split at h
   ·next z=>cases h;exact if_pos z
   ·next z=>
    refine (if_neg z).trans ?_
    split at h
    ·next z=>cases h;exact if_pos z
    ·next z=>
     refine (if_neg z).trans ?_
     split at h
     ·cases h
     ·next z=>cases h;exact (if_neg z).trans rfl
theorem tS (o:Ok X k G L){ts vs:List Expr}{k1 k2:Nat}{p1 p2:Pos}{r:Option (List Str)}(h:Gm L ts vs=some r):swappedStores [.Tuple ts k1 p1] (.Tuple vs k2 p2) X.env=pure r:=ue o.toOk0 h
theorem uY {ts:List Expr}{k1:Nat}{p1:Pos}(h:uU v=false):swappedStores [.Tuple ts k1 p1] v X.env=pure none:=by
 cases v<;>first|rfl|(cases h)
theorem wB {a ix:Expr}{p:Pos}(h:dL ix=true):∀v,assign (.Subscript a ix p) X.env v=(do
  let ov ←holding [v] (eval a X.env)
  let iv ←holding [v,ov] (eval ix X.env)
  standAt p
  holding [v,ov,iv] (setItem ov iv v)
  release [v,ov,iv] []):=by
 cases ix<;>first|(exact fun _=>rfl)|skip
 rename_i lo hi st p
 cases st with
 |none=>cases h
 |some s=>exact fun _=>rfl
theorem BZ {ix:Expr}(h:dL ix=true):∀ov iv new,augStore ix ov iv new=(do holding [new,ov,iv] (setItem ov iv new);release [new,ov,iv] [];pure .next):=by
 cases ix<;>first|(exact fun _ _ _=>rfl)|skip
 rename_i lo hi st p
 cases st with
 |none=>cases h
 |some s=>exact fun _ _ _=>rfl
theorem Jl (o:Ok X k G L){f:FE}{p:Pos}{own:Bool}(hi:ck L x=some i)(h:NE X v f)(hs:Cr L v x p=false):NS X (.Assign [.Name x p] v pos) (if own=true then gK i f else aA i f):=by
 have hs:=(Df (v:=v) o (t:=x) (p:=p) (ln:=pos.line)).trans (by rw[hs])
 split
 ·exact IE (ez o hi) h hs
 ·exact Ie (ez o hi) h hs
theorem u8 {fm:List (Option Nat)}{fi:FI}{t:FT}{c:FB}{fe:FE}{ρ:ak}:bM fm fi t c fe ρ=none\/∃ps,bM fm fi t c fe ρ=some (.nw ps):=by
 unfold bM
 cases fi ρ with
 |none=>exact .inl rfl
 |some its=>
  show (if its.length<1000 then _ else _)=none\/∃ps,(if its.length<1000 then _ else _)=_
  split
  ·cases i9 t c fe (fw fm ρ) its with
   |none=>exact .inl rfl
   |some ps=>exact .inr ⟨ps,rfl⟩
  ·exact .inl rfl
theorem JO (o:Ok X k G L){f:FE}{p:Pos}{own:Bool}{elt t it:Expr}{ifs:List Expr}{sc:Scope}{vp:Pos}(hi:ck L x=some i)(hc:CpOk X elt t it ifs sc f)(hs:Cr L (.ListComp elt [⟨t,it,ifs,0⟩] sc vp) x p=true) :
  NS X (.Assign [.Name x p] (.ListComp elt [⟨t,it,ifs,0⟩] sc vp) pos) (if own=true then gK i f else aA i f):=by
 have n:=ez o hi
 have hsw:=(Df (v:=.ListComp elt [⟨t,it,ifs,0⟩] sc vp) o (t:=x) (p:=p) (ln:=pos.line)).trans (by rw[hs])
 rcases hc.ex with h|⟨N2,fm,fi,t',c,fe,rfl,h1,h2,h3,h4,h5,h6,h7⟩
 ·split
  ·exact yM fun ρ=>by unfold gK;rw[h];rfl
  ·exact yM fun ρ=>by unfold aA;rw[h];rfl
 ·split
  ·have:=yT (px:=p) h1 o.calm h2 h3 h4 h5 h6 (E2 n) hsw h7
   rw[show gK i (bM fm fi t' c fe)=wP (bM fm fi t' c fe) (GF i) by
    funext ρ;unfold gK wP
    rcases u8 (fm:=fm) (fi:=fi) (t:=t') (c:=c) (fe:=fe) (ρ:=ρ) with e|⟨ps,e⟩<;>rw[e]<;>rfl]
   exact this
  ·have:=yT (px:=p) h1 o.calm h2 h3 h4 h5 h6 (FU n) hsw h7
   rw[show aA i (bM fm fi t' c fe)=wP (bM fm fi t' c fe) (Hl i) by
    funext ρ;unfold aA wP
    rcases u8 (fm:=fm) (fi:=fi) (t:=t') (c:=c) (fe:=fe) (ρ:=ρ) with e|⟨ps,e⟩<;>rw[e]<;>rfl]
   exact this
theorem uR (o:Ok X k G L){d m:Str}{q ap cp:Pos}{es:List Expr}(hi:slot L d=some i)(hl:(ap.endLine==cp.line)=true)(hs:es.all jr=true)(hn:es.length<21):McN X i d m q ap cp es:=by
 obtain⟨h1,h2,h3⟩:=fM o hi
 refine⟨h1,h2,(aN h3).1,(aN h3).2.1,rfl,hl,?_,fun e r he=>?_⟩
 ·rw[qE hs]
  show (true&&true&&decide _)=true
  rw[Bool.and_self,Bool.true_and,decide_eq_true_eq]
  simp only[List.length_nil,List.isEmpty_nil,if_true]
  omega
 ·subst he
  rw[List.all_cons,Bool.and_eq_true] at hs
  exact⟨cG hs.1 r X.env,gM hs.2⟩
theorem FP (o:Ok X k G L){y:Nat}{p:Pos}{s:FS}(hi:ck L x=some y)(h:J0 L y v=some s):NS X (.Assign [.Name x p] v pos) s:=by
 unfold J0 at h
 split at h
 ·next d q m ap cp=>
  split at h
  ·next i hd=>
   split at h
   ·next z=>
    rw[Bool.and_eq_true,decide_eq_true_eq] at z
    obtain⟨rfl,z⟩:=z
    cases h
    exact GJ Dz (uR o hd z rfl (by decide)) (ez o hi) kG (fun _=>rfl) rfl
   ·cases h
  ·cases h
 ·cases h
theorem By (o:Ok X k G L){f:FE}{ts:List Expr}{kk:Nat}{p:Pos}(h:NE X v f)(hw:swappedStores [.Tuple ts kk p] v X.env=pure none):NS X (.Assign [.Tuple ts kk p] v pos) (dQ f (vT 5 L (.Tuple ts kk p))):=
 IS h (qW 5 o (.Tuple ts kk p)) zI hw rfl
theorem Cm (h:FG v=true):∃elt t it ifs sc p,v=.ListComp elt [⟨t,it,ifs,0⟩] sc p:=by
 unfold FG at h
 split at h
 ·exact⟨_,_,_,_,_,_,rfl⟩
 ·cases h
theorem Cz (o:Ok X k G L){rE:RE}(hE:HE k G rE)(hC:HC k G rE)(tg v:Expr):NS X (.Assign [tg] v pos) (EH G rE L tg v):=by
 unfold EH
 split
 ·next y p=>
  split
  ·next i hi=>
   split
   ·exact bo
   ·next z=>
    split
    ·next s hs=>exact FP o hi hs
    ·by_cases hs:Cr L v y p=true
     ·rw[hs,Bool.true_and,Bool.not_eq_true'] at z
      obtain⟨elt,t,it,ifs,sc,vp,rfl⟩:=Cm (v:=v) (by simpa using z)
      exact JO o hi (hC o elt t it ifs sc vp) hs
     ·exact Jl o hi (hE o v) (by simpa using hs)
  ·exact bo
 ·next j jp ix p=>
  split
  ·next i hi=>
   obtain⟨h1,h2,h3⟩:=fM o hi
   split
   ·next z=>
    rw[Bool.and_eq_true] at z
    exact IP (o:=v) h1 h2 (aN h3).1 (aN h3).2.1 (hE o ix) (hE o v) Ep rfl rfl (wB z.1)
   ·exact bo
  ·exact bo
 ·next x px y py kk pt=>
  split
  ·next a b k2 p2=>
   split
   ·next l i j hw hi hj=>
    split
    ·next z=>
     simp only[Bool.and_eq_true,beq_iff_eq,bne_iff_ne,ne_eq] at z
     obtain⟨⟨⟨⟨⟨z0,z1⟩,z2⟩,z3⟩,z4⟩,z5⟩:=z
     have hx:X.env.scope.names.lookup x=some .local:=by rw[o.sc];exact z4
     have hy:X.env.scope.names.lookup y=some .local:=by rw[o.sc];exact z5
     rw[z0] at hw
     exact GG o.calm (ez o hi) (ez o hj) z3 hx hy (kM (hE o) [a,b]) (tS o hw) zI
    ·exact bo
   ·next hw=>exact By o (hE o _) (tS o hw)
   ·exact bo
  ·split
   ·exact bo
   ·next z=>exact By o (hE o v) (uY (by simpa using z))
 ·split
  ·next z=>
   unfold H9 at z
   split at z
   ·next ts _ _ vs _ _=>
    split at z
    ·next hw=>exact By o (hE o _) (tS o hw)
    ·cases z
   ·next ts _ _ hv=>exact By o (hE o v) (uY (by cases v<;>first|rfl|exact (hv _ _ _ rfl).elim))
   ·cases z
  ·exact bo
theorem DT (o:Ok X k G L){f:Expr->FE}(hf:∀e,NE X e (f e)){s:FS}(h:JU G f L tg v=some s):NS X (.Assign [tg] v pos) s:=by
 unfold JU at h
 split at h
 ·next g fp x xp es cp=>
  split at h
  ·next i hi=>
   obtain⟨h1,h2,h3⟩:=fM o hi
   split at h
   ·next z=>
    rw[Bool.and_eq_true,Bool.and_eq_true] at z
    have ha:NA X es (Gi f es):=Ab hf z.1.2
    have hpl:(backTo cp (starEach es X.env)).any (·.1)=false:=gM z.1.2
    have hg:=qW 5 o tg
    have sw:swapsWithSole [tg] (.Call (.Name g fp) (.Name x xp::es) [] cp) pos.line X.env=pure false/\swappedStores [tg] (.Call (.Name g fp) (.Name x xp::es) [] cp) X.env=pure none/\(assignEach [tg] X.env).map (·.2)=[assign tg X.env]:=by
     have t:=z.2
     cases tg<;>first|exact⟨rfl,rfl,rfl⟩|(cases t)
    split at h
    ·next F hF=>
     split at h
     ·next hgl=>
      cases h
      obtain⟨hG,hd⟩:=fK o hgl
      obtain⟨j,hj,D⟩:=o.g.lents _ F hF
      exact ED D hj hG (aN hd).1 (fun _=>o.calm) o.r h1 h2 (aN h3).1 (aN h3).2.1 ha hpl hg sw.1 sw.2.1 sw.2.2
     ·cases h
    ·split at h
     ·next j hj=>
      obtain⟨g1,g2,g3⟩:=fM o hj
      split at h
      ·cases h
      ·cases h
       exact Ch o.g.lents (fun _=>o.calm) o.r g1 g2 (aN g3).1 (aN g3).2.1 h1 h2 (aN h3).1 (aN h3).2.1 ha hpl hg sw.1 sw.2.1 sw.2.2
     ·cases h
   ·cases h
  ·cases h
 ·cases h
theorem Ev (o:Ok X k G L){rE:RE}(hE:HE k G rE)(hC:HC k G rE)(tg v:Expr):NS X (.Assign [tg] v pos) (J7 G rE L tg v):=by
 unfold J7
 split
 ·next s h=>exact DT o (hE o) h
 ·exact Cz o hE hC tg v
theorem n6 {f:Stmt->FS}(h:∀s,NS X s (f s)):∀ss:List Stmt,xt X ss (vL f ss)
 |[]=>FV
 |[s]=>EM (h s)
 |s::t::r=>B4 (h s) (n6 h (t::r))
theorem yZ {op:Operator}{g:Int->Int->Int}(h:qA op=some g):zv X op g:=by
 cases op<;>first|(cases h;done)|skip
 ·cases h;exact x0
 ·cases h;exact yJ
section
variable {f:Expr->FE}(hf:∀e,NE X e (f e))
include hf
theorem Ew (o:Ok X k G L){v:Option Expr}:NS X (.Return v pos) (KH L f v):=by
 cases v with
 |none=>exact bo
 |some e=>
  cases e<;>first|exact De (hf _)|skip
  rename_i x p
  show NS X _ (match slot L x with
   |some i=>if L.top&&!L.lent then g8 i else be
   |none=>aO (f (.Name x p)))
  cases hi:slot L x with
  |none=>exact De (hf _)
  |some i=>
   obtain⟨h1,h2,h3⟩:=fM o hi
   show NS X _ (if L.top&&!L.lent then g8 i else be)
   split
   ·next ht=>
    rw[Bool.and_eq_true,Bool.not_eq_true'] at ht
    exact E5 h1 h2 (aN h3).1 (aN h3).2.1 (o.h0 ht.2 ht.1)
   ·exact bo
theorem Cw (o:Ok X k G L){op:Operator}:NS X (.AugAssign tg op v pos) (II L f tg op v):=by
 cases tg<;>first|exact bo|skip
 ·rename_i b ix p
  cases b<;>first|exact bo|skip
  rename_i j q
  show NS X _ (match slot L j with
   |none=>be
   |some i=>match qA op with
    |some g=>if dL ix then kF g i (f ix) (f v) else be
    |none=>be)
  cases hi:slot L j with
  |none=>exact bo
  |some i=>
   obtain⟨h1,h2,h3⟩:=fM o hi
   show NS X _ (match qA op with
    |some g=>if dL ix then kF g i (f ix) (f v) else be
    |none=>be)
   cases hg:qA op with
   |none=>exact bo
   |some g=>
    show NS X _ (if dL ix then kF g i (f ix) (f v) else be)
    split
    ·next z=>exact Cj h1 h2 (aN h3).1 (aN h3).2.1 (hf _) (hf _) (yZ hg) (BZ z)
    ·exact bo
 ·rename_i x p
  show NS X _ (match ck L x with
   |none=>be
   |some i=>match qA op with
    |some g=>lR g i (f v)
    |none=>be)
  cases hi:ck L x with
  |none=>exact bo
  |some i=>
   show NS X _ (match qA op with
    |some g=>lR g i (f v)
    |none=>be)
   cases hg:qA op with
   |none=>exact bo
   |some g=>exact Iw (ez o hi) (hf _) (yZ hg)
theorem Bm (o:Ok X k G L){d m:Str}{q ap cp:Pos}{args:List Expr}:NS X (.Expr (.Call (.Attribute (.Name d q) m ap) args [] cp) pos) (FY L f d q m ap args cp):=by
 unfold FY
 cases hi:slot L d with
 |none=>cases args with
  |nil=>exact bo
  |cons=>exact ny (hf _) rfl
 |some i=>cases args with
  |nil=>
   show NS X _ (if ap.endLine==cp.line then (if m = "reverse" then qN Ah i ag else if m = "pop" then qN sK i ag else be) else be)
   split
   ·next z=>
    split
    ·next zz=>subst zz;exact Eo HN (uR o hi z rfl (by decide)) kG (fun _=>rfl) rfl
    ·split
     ·next zz=>subst zz;exact Eo Dz (uR o hi z rfl (by decide)) kG (fun _=>rfl) rfl
     ·exact bo
   ·exact bo
  |cons a as=>
   show NS X _ (if m = "append"&&ap.endLine==cp.line&&(a::as).all jr&&decide (as.length<20) then qN jC i (vA f (a::as)) else be)
   split
   ·next z=>
    rw[Bool.and_eq_true,Bool.and_eq_true,Bool.and_eq_true,decide_eq_true_eq,decide_eq_true_eq] at z
    obtain⟨⟨⟨rfl,z1⟩,z2⟩,z3⟩:=z
    exact Eo Ih (uR o hi z1 z2 (by rw[List.length_cons];omega)) (kM hf _) (fun e=>by cases e) rfl
   ·exact bo
theorem BF (o:Ok X k G L):NS X (.Expr e pos) (DZ L f e):=by
 unfold DZ
 split
 ·next z=>
  cases e<;>first|(cases z;done)|skip
  rename_i c _ _
  cases c<;>first|(cases z;done)|skip
  exact It
 ·cases e with
  |Call fn args kws cp=>
   cases kws with
   |cons=>exact ny (hf _) rfl
   |nil=>
    cases fn with
    |Attribute b m ap=>
     cases b with
     |Name d q=>exact Bm hf o
     |_=>exact ny (hf _) rfl
    |_=>exact ny (hf _) rfl
  |ListComp a b c d=>exact bo
  |SetComp a b c d=>exact bo
  |DictComp a b c d e=>exact bo
  |_=>exact ny (hf _) (A8 rfl)
end
theorem FZ (o:Ok X k G L){rE:RE}{rB:RB}{rS:Lc->Stmt->FS}(hE:HE k G rE)(hB:HB k G rB)(hC:HC k G rE)(hS:∀s,NS X s (rS L s))(st:Stmt):NS X st (Kj G rE rB rS L st):=by
 cases st with
 |Return v p=>exact Ew (hE o) o
 |If c a b p=>exact Jh (hB o _) (n6 hS _) (n6 hS _)
 |For tg it body els p=>
  cases els with
  |cons=>exact bo
  |nil=>
   show NS X _ (if AJ it then iz (vI G L (rE L) false tg it) (vT 5 L tg) (vL (rS L) body) else be)
   split
   ·next z=>exact IL o.calm (C5 o (hE o) tg it) (qW 5 o tg) (n6 hS body) (by
     intro y
     cases it<;>first|rfl|(cases z))
   ·exact bo
 |While c body els p=>
  cases els with
  |cons=>exact bo
  |nil=>exact BX (hB o _) (n6 hS _)
 |Assign tgs v p=>
  cases tgs with
  |nil=>exact bo
  |cons tg r=>cases r with
   |cons=>exact bo
   |nil=>exact Ev o hE hC _ _
 |AugAssign tg op v p=>exact Cw (hE o) o
 |Expr e p=>exact BF (hE o) o
 |Pass p=>exact Ej
 |Break p=>exact CE
 |Continue p=>exact sW
 |_=>exact bo
theorem vv {st:Stmt}:∀{l:List Nat} {s:FS},NS X st s->NS X st (frzs l s)
 |[],_,h=>h
 |i::r,_,h=>vv (l:=r) (Im h i)
end
theorem vh {k:Nat}{G:Gc}:∀(n:Nat) {X:Cx} {L:Lc},Ok X k G L->∀s,NS X s (vS G n L s)
 |0,_,_,_,_=>bo
 |n+1,_,L,o,s=>by
  unfold vS
  refine vv ?_
  split
  ·next f hf=>exact o.hk.s o.toOk0 (fun o'=>(je n).1 ⟨o',o.hk⟩) (fun o'=>(je n).2 ⟨o',o.hk⟩) (vh n o) s f hf
  ·exact FZ o (je n).1 (je n).2 (GY n) (vh n o) s
end Dp
end
section
namespace Dp
open PySem PySem.Spec L2 PyProof.Rows
section
variable {P:Program}{w:World}{K:PySem.W.Frag}{mg:Str->Option Value}{base:Heap}{k:Nat}
theorem Ix {x:Str}{st:Stmt}{f:Addr}{fd:FuncData}{N ps:List Str}{s:FS}{G:Gc}(L:Lc)(F:Fun K x x st f fd)(S:FnScope N ps (ah st))(g:GOk P w K mg base k G.toGd)(hk:HkOk G.hk)(hs:vL (vS G 60 L) (bq st)=s)(h1:L.sc=ah st)(h2:L.N=N)(h3:L.top=true) :
  NF P w K mg base true (k+1) f fd ps (run ps.length N.length s):=by
 obtain⟨oc,od,kV,doc,pm,an,cdv,ct,osl,rfl,lk,hcd⟩:=F.ex
 exact Hb lk hcd S fun A outer s' hc hr=>hs▸n6 (vh 60 ⟨⟨g,hr,h1.symm,h2.symm,by rw[h2];exact S.nd,by rw[h1];exact S.kind,rfl,fun _ _=>rfl,fun _ _=>rfl,fun h=>by rw[h3] at h;cases h⟩,hk⟩) (bq st)
theorem HX {x:Str}{st:Stmt}{N ps:List Str}{a n:Nat}{s:FS}{G:Gc}(L:Lc)(F:zU K mg x st ps)(S:FnScope N ps (ah st))(g:GOk P w K mg base k G.toGd)(hk:HkOk G.hk)
  (hs:vL (vS G 60 L) (bq st)=s) (h1:L.sc=ah st:=by rfl) (h2:L.N=N:=by rfl) (h3:L.top=true:=by rfl) (ha:ps.length=a:=by rfl) (hn:N.length=n:=by rfl):DefN P w K mg base true (k+1) x (run a n s):=by
 obtain⟨f,fd,F,b,m⟩:=F
 subst ha hn
 exact⟨f,fd,ps,Ix L F S g hk hs h1 h2 h3,.all b,F.kp,m⟩
noncomputable def dZ {α:Type}(p:α->Prop):List α->Prop
 |[]=>True
 |a::r=>p a/\dZ p r
theorem cc {β:Type}{p:Str×β->Prop}:∀{l:List (Str×β)},dZ p l->∀x b,l.lookup x=some b->p (x,b)
 |[],_,_,_,h=>by cases h
 |(y,c)::r,⟨h1,h2⟩,x,b,h=>by
  rw[List.lookup_cons] at h
  cases hx:x==y with
  |true=>
   rw[hx] at h
   have:x=y:=by simpa using hx
   subst this
   cases h;exact h1
  |false=>rw[hx] at h;exact cc h2 x b h
theorem mf {p:Str->Prop}:∀{l:List Str},dZ p l->∀x,l.contains x=true->p x
 |[],_,_,h=>by cases h
 |y::r,⟨h1,h2⟩,x,h=>by
  rw[List.contains_cons,Bool.or_eq_true] at h
  rcases h with h|h
  ·have:x=y:=by simpa using h
   subst this;exact h1
  ·exact mf h2 x h
theorem KR {G:Gd}(h1:dZ (fun x=>mg x=none) G.bi)(h2:dZ (fun p=>∃t,mg p.1=some (.int p.2 t)) G.nis)(h3:dZ (fun p=>BP P w mg base p.1 (.ktu p.2)) G.tups)(h4:dZ (fun x=>∃a,mg x=some (.ref a)) G.vals)(h5:dZ (fun p=>∃j,j≤k/\DefN P w K mg base true j p.1 p.2) G.fns)
  (h6:dZ (fun p=>BP P w mg base p.1 (.dct p.2.1 p.2.2)) G.dcts) (h7:dZ (fun p=>(∃j,j≤k/\DefN P w K mg base true j p.1 p.2)\/mg p.1=none) G.tab) (h8:dZ (fun p=>∃j,j≤k/\DefL P w K mg base true j p.1 p.2) G.lents):GOk P w K mg base k G:=
 ⟨mf h1,cc h2,cc h3,mf h4,cc h5,cc h6,cc h7,cc h8⟩
theorem Fc {x:Str}{st:Stmt}{N ps:List Str}{a n:Nat}{s:FS}{G:Gc}(L:Lc)(F:zU K mg x st ps)(S:FnScope N ps (ah st))(g:GOk P w K mg base k G.toGd)(hk:HkOk G.hk)
  (hs:vL (vS G 60 L) (bq st)=s) (h1:L.sc=ah st:=by rfl) (h2:L.N=N:=by rfl) (h3:L.top=true:=by rfl) (h4:L.lent=true:=by rfl) (ha:ps.length=a:=by rfl) (hn:N.length=n:=by rfl):DefL P w K mg base true (k+1) x (oB a n s):=by
 obtain⟨f,fd,F,b,m⟩:=F
 subst ha hn
 refine⟨f,fd,ps,?_,.all b,F.kp,m⟩
 obtain⟨oc,od,kV,doc,pm,an,cdv,ct,osl,rfl,lk,hcd⟩:=F.ex
 exact E8 lk hcd S fun A outer s' H hc hr=>hs▸n6 (vh 60 ⟨⟨g,hr,h1.symm,h2.symm,by rw[h2];exact S.nd,by rw[h1];exact S.kind,rfl,fun _ _=>rfl,fun h=>(by rw[h4] at h;cases h),fun h=>by rw[h3] at h;cases h⟩,hk⟩) (bq st)
end
end Dp
end
section
namespace Dp
open PySem PySem.Spec L2 PyProof.Rows
theorem wW {P:Program}{w:World}{K:PySem.W.Frag}{mg mb:Str->Option Value}{k:Nat}{fa a:Addr}{fd:FuncData}{x:Str}{s₁:Shared}{vs:List Value}{ns:List Int}{Fl:Fn}
  (KX:K.In s₁.heap) (hns:s₁.heap.Ns mainGlobals mg) (hb:s₁.heap.Ns builtinsNs mb) (hbb:∀x:Str,x ≠ "__name__"->mb x=bootBuiltins x) (hlim:s₁.heap.NoLimit) (hg:s₁.gens = #[])
  (ha:s₁.heap.get? a=some { cls:=.type "list",data:=.seq vs.toArray }) (hi:IntsAre vs ns) (hl:ns.length≤sizeLine) (hr:Rm k callerA)
  (F:NF P w K mg s₁.heap true k fa fd [x] Fl) (hbind:∀(s:Shared) (u:Value),BindsTo s fd ⟨[u],[]⟩ [(x,u)]) (q:Fl [.src (ns.map .int)]=some (.v (.bl true))) :
  codeAny (model P w) callerA (.call (.ref fa) ⟨[.ref a],[]⟩) (fun r s'=>r=.ok (.ret (.bool true))/\OldK s₁.heap s'.heap/\s'.os=s₁.os/\AllBare s'.gens) s₁:=by
 have lenV:=hi.length
 have hM:Mod K mg s₁.heap:=⟨KX,hns,⟨mb,hb,hbb⟩,hlim⟩
 have e0:Env0 P w K mg s₁.heap callerA [] s₁ h0:=⟨rfl,hM,fun b o e=>⟨e,rfl⟩,Nat.le_refl _,trivial,fun b hb=>absurd (show b∈([]:List Addr) from hb) (by simp),fun b o e=>(by cases e),.of_eq hg⟩
 refine codeAny_mono (F.run callerA [] s₁ ⟨[.ref a],[]⟩ [.ref a] [.src (ns.map .int)] _ (fun _=>False) (fun _=>rfl) hr e0 (hbind s₁ (.ref a)) (fun b hb=>absurd (show b∈([]:List Addr) from hb) (by simp)) (fun b h=>h.elim) (fun b o _ h=>h)
  ⟨.ref a,[],rfl,⟨a,vs,_,rfl,⟨rfl,id⟩,ha,by omega,vU hi⟩,rfl⟩ q) fun r s' h=>?_
 obtain⟨u,rfl,os,bare,un,d⟩:=h
 obtain rfl:u=Value.bool true:=d
 exact⟨rfl,OldK.of_keep fun b o e=>un.keep b o e rfl (by intro z;exact absurd (show b∈([]:List Addr) from z) (by simp)) (by simp),os,bare⟩
theorem HM {l:PySem.W.OpenLaw}{q:Program}{loose:List Str}{XP:(Str->Option Value)->Heap->Prop}{YP:World->Heap->Prop}{d:DefRec}{K:Params->PySem.W.Frag}{k:Nat}{Fl:Fn}(hk:k≤40)(hn:l.most=some 63)(hdf:d.params.defaults=[])
  (hY:∀(w:World) (h:Heap),YP w h->(K w.params).In h)
  (hq:∀ns:List Int,ns.length≤63->Fl [.src (ns.map .int)]=some (.v (.bl true)))
  (F:∀(w:World) (mg:Str->Option Value) (fa:Addr) (h:Heap),(K w.params).In h->h.Ns mainGlobals mg->mg d.name=some (.ref fa) →
   ∃fd:FuncData,(∀(s:Shared) (u:Value),BindsTo s fd ⟨[u],[]⟩ [("_law_script",u)])/\∀base:Heap,(K w.params).In base/\base.Ns mainGlobals mg->NF l.prog w (K w.params) mg base true k fa fd ["_law_script"] Fl) :
  PySem.W.WalkO q loose XP YP l.row.toRowW d [] (fun f vs=>PySem.call f vs):=by
 refine Att.attach_call hn hdf fun w s₀ s₁ mg mb fa o pm cd doc a vs ns G Y ho hd hcd hmg hobj hints hlen hg=>?_
 have KX:=hY w _ Y
 obtain⟨fd,hb,hF⟩:=F w mg fa _ KX G.T.g hmg
 have R:Rm 40 callerA:=⟨by decide,by decide⟩
 exact wW KX G.T.g G.T.b G.T.builtins G.T.nolimit hg hobj hints (Nat.le_trans hlen (by decide)) (R.mono hk) (hF _ ⟨KX,G.T.g⟩) hb (hq ns hlen)
theorem Cb {P:Program}{w:World}{K:PySem.W.Frag}{mg:Str->Option Value}{x y:Str}{st:Stmt}{fa:Addr}{k a n:Nat}{N:List Str}{R:Heap->Prop}{s:FS}(F:zU K mg x st [y])(hm:mg x=some (.ref fa))(S:FnScope N [y] (ah st))(ha:a=1)(hn:N.length=n)
  (h:∀base,R base->∃(L:Lc) (G:Gc),GOk P w K mg base k G.toGd/\HkOk G.hk/\vL (vS G 60 L) (bq st)=s/\L.sc=ah st/\L.N=N/\L.top=true) :
  ∃fd:FuncData,(∀(s:Shared) (u:Value),BindsTo s fd ⟨[u],[]⟩ [(y,u)])/\∀base:Heap,R base->NF P w K mg base true (k+1) fa fd [y] (run a n s):=by
 subst ha hn
 obtain⟨f,fd,F,b,m⟩:=F
 rw[hm] at m
 cases m
 exact⟨fd,fun s u=>.of_eq (b [u] rfl),fun base hb=>by
  obtain⟨L,G,g,hk,hs,h1,h2,h3⟩:=h base hb
  exact Ix L F S g hk hs h1 h2 h3⟩
end Dp
end
section
namespace Dp
open PySem PySem.Spec L2 PyProof.Rows
section
variable {P:Program}{w:World}{K:PySem.W.Frag}{mg:Str->Option Value}{base:Heap}{x:Str}{a:Addr}{ps:List PV}
theorem BK {o:Option Addr}{its:List Value}{n:Nat}{sl:Array (Option Value)}(KI:K.In base)(m:mg x=some (.ref a))(l:K.lookup a=some ⟨.type "tuple",o,.seq its.toArray n,sl⟩)(hl:its.length≤sizeLine)(ds:∀(c:Cn) h,c.mg=mg->Ds c h ps its):BP P w mg base x (.ktu ps):=
 ⟨_,m,fun h bad H hb=>⟨a,its,rfl,(hb a _ (KI a _ l)).2,⟨_,(hb a _ (KI a _ l)).1,rfl,n,rfl⟩,hl,ds _ _ rfl⟩⟩
inductive DEs (w:World) (mg:Str->Option Value):List DictEntry->List bP->List PV->Prop where
 |nil:DEs w mg [] [] []
 |cons {x:Str} {t:Tok} {u:Value} {p:PV} {es:List DictEntry} {ks:List bP} {ps:List PV}:(∀(c:Cn) h,c.mg=mg->D c h p u)->DEs w mg es ks ps->DEs w mg (⟨PyData.keyHash w.params x,.str x t,u⟩::es) (.inr x::ks) (p::ps)
theorem DEs.ok {es:List DictEntry}{ks:List bP}(d:DEs w mg es ks ps):∃kus:List (bP×Value),kus.map (·.1)=ks/\(∀(c:Cn) h,c.mg=mg->Ds c h ps (kus.map (·.2)))/\(∀e∈es,∃k,(aJ P w).is k e.key=true/\e.hash=(aJ P w).hash k)/\Pairs (aJ P w) es kus:=by
 induction d with
 |nil=>exact⟨[],rfl,fun _ _ _=>rfl,fun _ h=>(by cases h),.nil⟩
 | @cons x t u p es ks ps h1 _ ih=>
  obtain⟨kus,e1,e2,e3,e4⟩:=ih
  refine⟨(.inr x,u)::kus,by rw[List.map_cons,e1],fun c h hm=>⟨u,_,rfl,h1 c h hm,e2 c h hm⟩,fun e he=>?_,.cons (hZ P w x t) rfl e4⟩
  rcases List.mem_cons.mp he with rfl|he
  ·exact⟨.inr x,hZ P w x t,rfl⟩
  ·exact e3 e he
theorem uX {es:Array DictEntry}{ep:Nat}{ks:List bP}(KI:K.In base)(m:mg x=some (.ref a))(sys:(a==sysModules)=false)(l:K.lookup a=some ⟨.type "dict",none,.dict es ep,#[]⟩)(hl:ks.length≤sizeLine)(nd:ks.Nodup)(d:DEs w mg es.toList ks ps):BP P w mg base x (.dct ks ps):=by
 obtain⟨kus,e1,e2,e3,e4⟩:=d.ok (P:=P)
 refine⟨_,m,fun h bad H hb=>?_⟩
 obtain⟨g1,g2,g3⟩:=hb a _ (KI a _ l)
 exact⟨a,kus,rfl,⟨g2,g3⟩,sys,⟨_,es,ep,g1,⟨rfl,rfl,rfl⟩,rfl,fun e he=>e3 e (Array.mem_toList_iff.mpr he),e4,by rw[e1];exact nd⟩,by rw[←e1,List.length_map] at hl;exact hl,e1,e2 _ _ rfl⟩
end
end Dp
end
section
namespace Fo
noncomputable abbrev up (us:List Nat)(x:Nat):Nat:=us.getD x 0
theorem aI {us:List Nat}{x v t:Nat}(hx:x<us.length):up (us.set x v) t=if t=x then v else up us t:=by
 simp only[up,List.getD_eq_getElem?_getD,List.getElem?_set]
 by_cases h:x=t
 ·subst h;simp[hx]
 ·simp[h,Ne.symm h]
structure Fst (us:List Nat):Prop where
 bnd:∀x,x<us.length->up us x<us.length
 rk:∃r:Nat->Nat,(∀x,x<us.length->r x<us.length)/\∀x,x<us.length->up us x≠x->r (up us x)<r x
inductive Way (us:List Nat):Nat->List Nat->Prop where
 |head {x:Nat}:up us x=x->Way us x [x]
 |step {x:Nat} {l:List Nat}:up us x≠x->Way us (up us x) l->Way us x (x::l)
theorem Way.det {us:List Nat}{x:Nat}{l l':List Nat}(h:Way us x l)(h':Way us x l'):l=l':=by
 induction h generalizing l' with
 |head e=>cases h' with
  |head _=>rfl
  |step n _=>exact absurd e n
 |step n _ ih=>cases h' with
  |head e=>exact absurd e n
  |step _ q=>rw[ih q]
theorem Way.ne {us:List Nat}{x:Nat}{l:List Nat}(h:Way us x l):l≠[]:=by cases h<;>simp
theorem Way.pos {us:List Nat}{x:Nat}{l:List Nat}(h:Way us x l):1≤l.length:=by cases h<;>simp
theorem Way.mem_self {us:List Nat}{x:Nat}{l:List Nat}(h:Way us x l):x∈l:=by cases h<;>simp
noncomputable def bn (l:List Nat):Nat:=l.getLastD 0
theorem aZ {x:Nat}{l:List Nat}(h:l≠[]):bn (x::l)=bn l:=by
 cases l with
 |nil=>exact absurd rfl h
 |cons y t=>simp[bn,List.getLastD_cons]
theorem mE {l:List Nat}(h:l≠[]):bn l∈l:=by
 induction l with
 |nil=>exact absurd rfl h
 |cons y t ih=>
  cases t with
  |nil=>simp[bn]
  |cons z t=>rw[aZ (by simp)];exact List.mem_cons_of_mem _ (ih (by simp))
theorem Way.head_last {us:List Nat}{x:Nat}{l:List Nat}(h:Way us x l):up us (bn l)=bn l:=by
 induction h with
 |head e=>exact e
 |step _ w ih=>rw[aZ w.ne];exact ih
theorem Way.lt {us:List Nat}{x:Nat}{l:List Nat}(h:Way us x l)(b:∀x,x<us.length->up us x<us.length)(hx:x<us.length):∀y∈l,y<us.length:=by
 induction h with
 |head e=>intro y hy;rw[List.mem_singleton] at hy;subst hy;exact hx
 |step n w ih=>
  intro y hy
  rcases List.mem_cons.mp hy with rfl|hy
  ·exact hx
  ·exact ih (b _ hx) y hy
theorem Way.rank {us:List Nat}{x:Nat}{l:List Nat}(h:Way us x l)(b:∀x,x<us.length->up us x<us.length){r:Nat->Nat}(hr:∀x,x<us.length->up us x≠x->r (up us x)<r x)(hx:x<us.length):∀y∈l,r y≤r x:=by
 induction h with
 |head e=>intro y hy;rw[List.mem_singleton] at hy;subst hy;exact Nat.le_refl _
 | @step x l n w ih=>
  intro y hy
  rcases List.mem_cons.mp hy with rfl|hy
  ·exact Nat.le_refl _
  ·exact Nat.le_trans (ih (b _ hx) y hy) (Nat.le_of_lt (hr x hx n))
theorem Way.nodup {us:List Nat}{x:Nat}{l:List Nat}(h:Way us x l)(f:Fst us)(hx:x<us.length):l.Nodup:=by
 obtain⟨b,r,hb,hr⟩:=f
 induction h with
 |head e=>simp
 | @step x l n w ih=>
  refine List.nodup_cons.mpr ⟨fun hm=>?_,ih (b _ hx)⟩
  have h1:=w.rank b hr (b _ hx) x hm
  have h2:=hr x hx n
  omega
theorem Fst.way {us:List Nat}(f:Fst us){x:Nat}(hx:x<us.length):∃l,Way us x l/\l.length≤us.length:=by
 obtain⟨b,r,hb,hr⟩:=f
 suffices h:∀k x,x<us.length->r x≤k->∃l,Way us x l/\l.length≤k+1 by
  obtain⟨l,w,hl⟩:=h (r x) x hx (Nat.le_refl _)
  exact⟨l,w,by have:=hb x hx;omega⟩
 intro k
 induction k with
 |zero=>
  intro x hx h0
  by_cases e:up us x=x
  ·exact⟨_,.head e,by simp⟩
  ·exact absurd (hr x hx e) (by omega)
 |succ k ih=>
  intro x hx h0
  by_cases e:up us x=x
  ·exact⟨_,.head e,by simp⟩
  ·obtain⟨l,w,hl⟩:=ih (up us x) (b x hx) (by have:=hr x hx e;omega)
   exact⟨_,.step e w,by simp;omega⟩
theorem Way.congr {us us':List Nat}{x:Nat}{l:List Nat}(h:Way us x l)(e:∀y∈l,up us' y=up us y):Way us' x l:=by
 induction h with
 | @head x q=>exact .head (by rw[e x (by simp),q])
 | @step x l n w ih=>
  have q:up us' x=up us x:=e x (by simp)
  exact .step (by rw[q];exact n) (by rw[q];exact ih fun y hy=>e y (List.mem_cons_of_mem _ hy))
theorem Way.closed {us:List Nat}{x:Nat}{l:List Nat}(h:Way us x l):∀y∈l,up us y∈l:=by
 induction h with
 | @head x q=>intro y hy;rw[List.mem_singleton] at hy;subst hy;rw[q];simp
 | @step x l n w ih=>
  intro y hy
  rcases List.mem_cons.mp hy with rfl|hy
  ·exact List.mem_cons_of_mem _ w.mem_self
  ·exact List.mem_cons_of_mem _ (ih y hy)
theorem Way.later {us:List Nat}{x:Nat}{l:List Nat}(h:Way us x l):∀y∈l,∃l2,Way us y l2/\bn l2=bn l/\l2.length≤l.length/\∀z∈l2,z∈l:=by
 induction h with
 | @head x q=>intro y hy;rw[List.mem_singleton] at hy;subst hy;exact⟨_,.head q,rfl,Nat.le_refl _,fun _ h=>h⟩
 | @step x l n w ih=>
  intro y hy
  rcases List.mem_cons.mp hy with rfl|hy
  ·exact⟨_,.step n w,rfl,Nat.le_refl _,fun _ h=>h⟩
  ·obtain⟨l2,a,b,c,d⟩:=ih y hy
   exact⟨l2,a,by rw[b,aZ w.ne],by simp;omega,fun z hz=>List.mem_cons_of_mem _ (d z hz)⟩
structure Shorter (us us':List Nat):Prop where
 len:us'.length=us.length
 up:∀t,t<us.length->(up us t=t/\Fo.up us' t=t)\/(Fo.up us t≠t/\∃l,Way us (Fo.up us t) l/\Fo.up us' t∈l)
theorem Shorter.refl {us:List Nat}(f:Fst us):Shorter us us:=⟨rfl,fun t ht=>by
 by_cases e:Fo.up us t=t
 ·exact .inl ⟨e,e⟩
 ·obtain⟨l,w,_⟩:=f.way (f.bnd t ht)
  exact .inr ⟨e,l,w,w.mem_self⟩⟩
theorem Shorter.fst {us us':List Nat}(s:Shorter us us')(f:Fst us):Fst us':=by
 obtain⟨b,r,hb,hr⟩:=f
 refine⟨fun x hx=>?_,r,fun x hx=>?_,fun x hx hn=>?_⟩
 ·rw[s.len] at hx ⊢
  rcases s.up x hx with ⟨_,e⟩|⟨_,l,w,m⟩
  ·rw[e];exact hx
  ·exact w.lt b (b x hx) _ m
 ·rw[s.len] at hx ⊢;exact hb x hx
 ·rw[s.len] at hx
  rcases s.up x hx with ⟨_,e⟩|⟨n,l,w,m⟩
  ·exact absurd e hn
  ·exact Nat.lt_of_le_of_lt (w.rank b hr (b x hx) _ m) (hr x hx n)
theorem Shorter.way {us us':List Nat}(s:Shorter us us')(f:Fst us){t:Nat}(ht:t<us.length){l:List Nat}(w:Way us t l):∃l',Way us' t l'/\bn l'=bn l/\l'.length≤l.length:=by
 obtain⟨b,r,hb,hr⟩:=f
 suffices h:∀k t,t<us.length->r t≤k->∀l,Way us t l->∃l',Way us' t l'/\bn l'=bn l/\l'.length≤l.length from h (r t) t ht (Nat.le_refl _) l w
 intro k
 induction k with
 |zero=>
  intro t ht h0 l w
  rcases s.up t ht with ⟨e,e'⟩|⟨n,_⟩
  ·cases w with
   |head _=>exact⟨_,.head e',rfl,Nat.le_refl _⟩
   |step n _=>exact absurd e n
  ·exact absurd (hr t ht n) (by omega)
 |succ k ih=>
  intro t ht h0 l w
  rcases s.up t ht with ⟨e,e'⟩|⟨n,l1,w1,m⟩
  ·cases w with
   |head _=>exact⟨_,.head e',rfl,Nat.le_refl _⟩
   |step n _=>exact absurd e n
  ·cases w with
   |head e=>exact absurd e n
   | @step _ l0 _ w0=>
    obtain rfl:=w0.det w1
    obtain⟨l2,w2,e2,c2,_⟩:=w0.later _ m
    have hy:Fo.up us' t<us.length:=w0.lt b (b t ht) _ m
    have hry:r (Fo.up us' t)<r t:=Nat.lt_of_le_of_lt (w0.rank b hr (b t ht) _ m) (hr t ht n)
    obtain⟨l3,w3,e3,c3⟩:=ih _ hy (by omega) l2 w2
    refine⟨t::l3,.step (fun e=>?_) w3,?_,?_⟩
    ·rw[e] at hry;omega
    ·rw[aZ w3.ne,e3,e2,aZ w0.ne]
    ·simp;omega
theorem Way.set {us:List Nat}{x y v:Nat}{l:List Nat}(w:Way us y l)(hx:x<us.length)(h:x∉l):Way (us.set x v) y l:=
 w.congr fun z hz=>by rw[aI hx,if_neg (fun e:z=x=>h (e▸hz))]
noncomputable def g9:List Nat->List Nat
 |[]=>[]
 |[x]=>[x]
 |x::_::l=>x::g9 l
theorem kR:∀(l:List Nat) (x:Nat),x∈g9 l->x∈l
 |[],_,h=>h
 |[_],_,h=>h
 |x::y::l,z,h=>by
  rcases List.mem_cons.mp h with rfl|h
  ·simp
  ·exact List.mem_cons_of_mem _ (List.mem_cons_of_mem _ (kR l z h))
end Fo
end
section
namespace Fo
open PySem
noncomputable def Ij (us:List Nat)(x h:Nat)(us':List Nat)(n:Nat):Prop:=us'=us/\∃l,Way us x l/\h=bn l/\n+1=l.length
noncomputable def Cd (us:List Nat)(x h:Nat)(us':List Nat)(n:Nat):Prop:=∃l,Way us x l/\h=bn l/\n=l.length / 2/\us'.length=us.length/\∀t,up us' t=if t∈g9 l then up us (up us t) else up us t
noncomputable def BJ (us:List Nat)(x h:Nat)(us':List Nat)(n:Nat):Prop:=∃l,Way us x l/\h=bn l/\n+1=l.length/\us'.length=us.length/\∀t,up us' t=if t∈l then up us (up us t) else up us t
noncomputable def JZ (us:List Nat)(x h:Nat)(us':List Nat)(n:Nat):Prop:=us'=us.set x (up us (up us x))/\∃l,Way us x l/\h=bn l/\n+1=l.length
noncomputable def Fx (us:List Nat)(x h:Nat)(us':List Nat)(n:Nat):Prop:=∃l,Way us x l/\h=bn l/\n+1=l.length/\us'.length=us.length/\∀t,up us' t=if t∈l then h else up us t
inductive RM:Str->List Nat->Nat->Nat->List Nat->Nat->Prop where
 |none {us x h us' n}:Ij us x h us' n->RM "none" us x h us' n
 |whole {us x h us' n}:Fx us x h us' n->RM "whole" us x h us' n
 |halves {us x h us' n}:Cd us x h us' n->RM "halves" us x h us' n
 |splits {us x h us' n}:BJ us x h us' n->RM "splits" us x h us' n
 |one {us x h us' n}:JZ us x h us' n->RM "one" us x h us' n
noncomputable def ay:List Str:=["none","whole","halves","splits","one"]
structure Frst (us:List Nat):Prop where
 one:1≤us.length
 most:us.length≤40
 fst:Fst us
end Fo
namespace Dp
open PySem L2 Fo
noncomputable def nI (n:Nat):PV:=.int n
noncomputable def af (us:List Nat):List PV:=us.map nI
theorem lW {i j:Int}:eR (.int i) (.int j)=decide (i=j):=by
 simp only[eR,fZ,r4,Du,Bool.true_and]
 rw[Bool.eq_iff_iff,beq_iff_eq,decide_eq_true_iff]
theorem fL {i j:Str}:eR (.str i) (.str j)=decide (i=j):=by
 simp only[eR,fZ,r4,Du,Bool.true_and]
 rw[Bool.eq_iff_iff,beq_iff_eq,decide_eq_true_iff]
theorem JL {i j:Bool}:eR (.bl i) (.bl j)=(i==j):=by
 simp only[eR,fZ,r4,Du,Bool.true_and]
theorem gL {ps qs:List PV}:eR (.tup ps) (.tup qs)=c6 ps qs:=by simp only[eR]
theorem vz {ps qs:List PV}:eR (.lst ps) (.lst qs)=c6 ps qs:=by simp only[eR]
theorem wN {p q:PV}{ps qs:List PV}:c6 (p::ps) (q::qs)=(eR p q&&c6 ps qs):=by simp only[c6]
theorem xT:c6 [] []=true:=by simp only[c6]
theorem cZ (us:List Nat):(af us).length=us.length:=List.length_map ..
theorem oe:af []=[]:=rfl
theorem gn (x:Nat)(us:List Nat):af (x::us)=nI x::af us:=rfl
theorem AR (us vs:List Nat):af (us++vs)=af us++af vs:=List.map_append
theorem zO (us:List Nat)(i v:Nat):(af us).set i (nI v)=af (us.set i v):=by unfold af;rw[List.map_set]
theorem bS:∀us:List Nat,aq (af us)=true
 |[]=>by simp only[af,List.map_nil,aq]
 |x::us=>by rw[gn,aq,bS us];simp only[nI,aK,Bool.and_true]
theorem cH:∀us:List Nat,bp (af us)=0
 |[]=>by simp only[af,List.map_nil,bp]
 |x::us=>by rw[gn,bp,cH us];simp only[nI,dep,Nat.max_self]
theorem gy:∀us vs:List Nat,c6 (af us) (af vs)=decide (us=vs)
 |[],[]=>by simp[af,c6]
 |[],_::_=>by simp[af,c6]
 |_::_,[]=>by simp[af,c6]
 |x::us,y::vs=>by
  rw[gn,gn,wN,gy us vs,nI,nI,lW,Bool.eq_iff_iff]
  simp
  intro _
  omega
theorem cL {n x:Nat}(h:x<n):pb n (x:Int)=some x:=by
 unfold pb
 rw[if_pos (by omega),if_pos (by omega),Int.toNat_natCast]
theorem cX {ps:List PV}{x:Nat}{p:PV}(h:ps[x]?=some p):L2.bQ ps (x:Int)=some p:=by
 unfold L2.bQ
 have hx:x<ps.length:=(List.getElem?_eq_some_iff.mp h).1
 rw[cL hx]
 exact h
theorem Kq {a:PV}{l:List PV}:L2.bQ (a::l) (0:Int)=some a:=cX (x:=0) rfl
theorem Ki {a b:PV}{l:List PV}:L2.bQ (a::b::l) (1:Int)=some b:=cX (x:=1) rfl
theorem K4 {a b c:PV}{l:List PV}:L2.bQ (a::b::c::l) (2:Int)=some c:=cX (x:=2) rfl
theorem K5 {a b c d:PV}{l:List PV}:L2.bQ (a::b::c::d::l) (3:Int)=some d:=cX (x:=3) rfl
theorem rJ {us:List Nat}{x:Nat}(hx:x<us.length):(af us)[x]?=some (nI (up us x)):=by
 unfold af
 rw[List.getElem?_map,List.getElem?_eq_getElem hx]
 simp[up,hx]
theorem am {us:List Nat}{x:Nat}(hx:x<us.length):L2.bQ (af us) (x:Int)=some (nI (up us x)):=cX (rJ hx)
theorem kf (us:List Nat)(y:Nat):L2.bQ (af (us++[y])) (-1)=some (nI y):=by
 unfold L2.bQ pb
 rw[cZ,List.length_append,if_neg (by decide),if_pos (by simp;omega)]
 have:(-1+((us.length+[y].length:Nat):Int)).toNat=us.length:=by simp;omega
 rw[this]
 show (af (us++[y]))[us.length]?=_
 rw[rJ (by simp)]
 simp[up]
theorem wL {l:List Nat}(h:l≠[]):L2.bQ (af l) (-1)=some (nI (bn l)):=by
 obtain⟨us,y,rfl⟩:∃us y,l=us++[y]:=⟨l.dropLast,l.getLast h,(List.dropLast_concat_getLast h).symm⟩
 rw[kf]
 simp[bn]
theorem kI (us:List Nat)(y:Nat):af us++[PV.int y]=af (us++[y]):=(AR us [y]).symm
theorem eQ (us:List Nat)(i v:Nat):(af us).set i (PV.int v)=af (us.set i v):=zO us i v
theorem Bt (n:Nat):qc 0 n=af (List.range n):=by
 unfold qc af
 exact List.map_congr_left fun i _=>by rw[nI,Int.zero_add]
theorem xI {us:List Nat}{v:PV}(h:v∈af us):∃u∈us,v=nI u:=by
 obtain⟨u,hu,e⟩:=List.mem_map.mp h
 exact⟨u,hu,e.symm⟩
noncomputable def iL (ns:List Int):List PV:=ns.map PV.int
theorem zf (ns:List Int):(iL ns).length=ns.length:=List.length_map ..
theorem FF {n:Nat}{lo:Int}{v:PV}(h:v∈qc lo n):∃i:Int,v=.int i/\lo≤i/\i<lo+n:=by
 obtain⟨k,hk,rfl⟩:=List.mem_map.mp h
 have:=List.mem_range.mp hk
 exact⟨lo+k,rfl,by omega,by omega⟩
theorem vV (lo:Int)(n:Nat):(qc lo n).length=n:=by simp[qc]
theorem Gv {i:Int}(h:0≤i):PV.int i=nI i.toNat:=by rw[nI,Int.toNat_of_nonneg h]
theorem EU (ns:List Int)(lo hi:Option Int):lN (iL ns) lo hi=iL (lN ns lo hi):=by
 unfold lN iL
 rw[List.length_map,List.map_take,List.map_drop]
theorem zV (ns:List Nat)(lo hi:Option Int):lN (af ns) lo hi=af (lN ns lo hi):=by
 unfold lN af
 rw[List.length_map,List.map_take,List.map_drop]
end Dp
namespace Fo
open PySem L2
structure Left (y:Str)(us:List Nat)(x h:Nat)(us':List Nat)(n:Nat)(l:List Nat):Prop where
 way:Way us x l
 hd:h=bn l
 st:n+1≤l.length
 st2:y ≠ "halves"->n+1=l.length
 sh:Shorter us us'
 om:∀t,t<us.length->t∉l->up us' t=up us t
 no:y = "none"->us'=us
theorem sL {us:List Nat}(f:Fst us){t:Nat}(ht:t<us.length):(up us t=t/\up us (up us t)=t)\/(up us t≠t/\∃l,Way us (up us t) l/\up us (up us t)∈l):=by
 by_cases e:up us t=t
 ·exact .inl ⟨e,by rw[e,e]⟩
 ·obtain⟨l,w,_⟩:=f.way (f.bnd t ht)
  exact .inr ⟨e,l,w,w.closed _ w.mem_self⟩
theorem RM.left {y:Str}{us:List Nat}{x h:Nat}{us':List Nat}{n:Nat}(f:Fst us)(hx:x<us.length)(r:RM y us x h us' n):∃l,Left y us x h us' n l:=by
 have self:=Shorter.refl f
 cases r with
 |none r=>
  obtain⟨rfl,l,w,e,hn⟩:=r
  exact⟨l,w,e,by omega,fun _=>hn,self,fun _ _ _=>rfl,fun _=>rfl⟩
 |whole r=>
  obtain⟨l,w,e,hn,len,hu⟩:=r
  refine⟨l,w,e,by omega,fun _=>hn,⟨len,fun t ht=>?_⟩,fun t ht hm=>by rw[hu,if_neg hm],fun z=>absurd z (by decide)⟩
  rw[hu]
  by_cases hm:t∈l
  ·rw[if_pos hm]
   obtain⟨l2,w2,e2,_,_⟩:=w.later t hm
   cases w2 with
   |head q=>exact .inl ⟨q,by rw[e,←e2];rfl⟩
   |step q w3=>exact .inr ⟨q,_,w3,by rw[e,←e2,aZ w3.ne];exact mE w3.ne⟩
  ·rw[if_neg hm];exact self.up t ht
 |halves r=>
  obtain⟨l,w,e,hn,len,hu⟩:=r
  have pos:=w.pos
  refine⟨l,w,e,by omega,fun z=>absurd rfl z,⟨len,fun t ht=>?_⟩,fun t ht hm=>by rw[hu,if_neg fun q=>hm (kR l t q)],fun z=>absurd z (by decide)⟩
  rw[hu]
  by_cases hm:t∈g9 l
  ·rw[if_pos hm];exact sL f ht
  ·rw[if_neg hm];exact self.up t ht
 |splits r=>
  obtain⟨l,w,e,hn,len,hu⟩:=r
  refine⟨l,w,e,by omega,fun _=>hn,⟨len,fun t ht=>?_⟩,fun t ht hm=>by rw[hu,if_neg hm],fun z=>absurd z (by decide)⟩
  rw[hu]
  by_cases hm:t∈l
  ·rw[if_pos hm];exact sL f ht
  ·rw[if_neg hm];exact self.up t ht
 |one r=>
  obtain⟨rfl,l,w,e,hn⟩:=r
  refine⟨l,w,e,by omega,fun _=>hn,⟨by rw[List.length_set],fun t ht=>?_⟩,fun t ht hm=>by rw[aI hx,if_neg fun q=>hm (by rw[q];exact w.mem_self)],fun z=>absurd z (by decide)⟩
  rw[aI hx]
  by_cases hm:t=x
  ·rw[if_pos hm,hm];exact sL f hx
  ·rw[if_neg hm];exact self.up t ht
theorem FC {us vs:List Nat}(h:us.length=vs.length)(e:∀t,up us t=up vs t):us=vs:=by
 apply List.ext_getElem h
 intro i h1 h2
 have:=e i
 simpa [up,h1,h2] using this
theorem RM.frst {y:Str}{us:List Nat}{x h:Nat}{us':List Nat}{n:Nat}(f:Frst us)(hx:x<us.length)(r:RM y us x h us' n):Frst us'/\us'.length=us.length:=by
 obtain⟨l,L⟩:=r.left f.fst hx
 have e:=L.sh.len
 exact⟨⟨by rw[e];exact f.one,by rw[e];exact f.most,L.sh.fst f.fst⟩,e⟩
end Fo
namespace Dp
open PySem L2 Fo
end Dp
end
section
namespace Dp
open PySem L2 Fo
noncomputable def yO (o:Out)(u:FS):Out:=match o with
 |.nx ρ'=>u ρ'
 |o=>o
noncomputable def yD (o:Option (List PV×PV))(i:Nat)(t:FT)(ρ:ak):Out:=match o with
 |some (ps1,p)=>C0 (t p (ρ.set i (some (.own ps1))))
 |none=>.bad
noncomputable abbrev xN:=rA
noncomputable def pZ (kvs:List (Str×Int))(x:Str):Option Int:=(kvs.find? fun p=>decide (p.1=x)).map (·.2)
theorem pP {w:Str}:(lM [.inr "find",.inr "join"] [.int 2,.int 3] (.inr w)).getD .non=(pZ [("find",2),("join",3)] w).elim .non .int:=by
 show (if (Sum.inr "find" : bP)=.inr w then some (PV.int 2) else if (Sum.inr "join" : bP)=.inr w then some (PV.int 3) else none).getD .non=_
 by_cases h1:(Str.ofString "find")=w
 ·subst h1;rfl
 ·by_cases h2:(Str.ofString "join")=w
  ·subst h2;rfl
  ·rw[if_neg fun q=>h1 (Sum.inr.inj q),if_neg fun q=>h2 (Sum.inr.inj q)]
   simp[pZ,List.find?,h1,h2]
noncomputable def GZ (o:Option (List PV))(t:FT)(s:FS)(ρ:ak):Out:=match o with
 |some its=>aQ t s its ρ
 |none=>.bad
noncomputable def zE (o:Out)(t:FT)(s:FS)(ps:List PV):Out:=match o with
 |.nx ρ2=>aQ t s ps ρ2
 |.ct ρ2=>aQ t s ps ρ2
 |.bk ρ2=>.nx ρ2
 |o=>o
noncomputable def y7 (o:Option ak)(t:FT)(s:FS)(ps:List PV):Out:=match o with
 |some ρ=>zE (s ρ) t s ps
 |none=>.bad
theorem cV {t:FT}{s:FS}{p:PV}{ps:List PV}{ρ:ak}:aQ t s (p::ps) ρ=y7 (t p ρ) t s ps:=Eq.trans rfl rfl
noncomputable def J8 (o:Out)(c:FB)(s:FS)(n:Nat):Out:=match o with
 |.nx ρ2=>bj c s n ρ2
 |.ct ρ2=>bj c s n ρ2
 |.bk ρ2=>.nx ρ2
 |o=>o
noncomputable def J1 (o:Option Bool)(c:FB)(s:FS)(n:Nat)(ρ:ak):Out:=match o with
 |some true=>J8 (s ρ) c s n
 |some false=>.nx ρ
 |none=>.bad
theorem cM {c:FB}{s:FS}{n:Nat}{ρ:ak}:bj c s (n+1) ρ=J1 (c ρ) c s n ρ:=Eq.trans rfl rfl
theorem zR {s:Option Sl}{i:Nat}{ρ:ak}:frz (i+1) (s::ρ)=s::frz i ρ:=by
 unfold frz
 rw[List.getElem?_cons_succ]
 split<;>simp_all
theorem k7 {r:RV}{rs:List RV}:(r::rs).mapM RV.fr=r.fr.bind fun p=>(rs.mapM RV.fr).bind fun ps=>some (p::ps):=by
 rw[List.mapM_cons];rfl
theorem CY {s u:FS}{ρ:ak}:aj s u ρ=yO (s ρ) u:=Eq.trans rfl rfl
theorem uQ {t:FT}{s:FS}{ps:List PV}{ρ:ak}:zE (.nx ρ) t s ps=aQ t s ps ρ:=Eq.trans rfl rfl
theorem vP {t:FT}{s:FS}{ps:List PV}{ρ:ak}:y7 (some ρ) t s ps=zE (s ρ) t s ps:=Eq.trans rfl rfl
theorem uL {c:FB}{s:FS}{n:Nat}{ρ:ak}:J8 (.nx ρ) c s n=bj c s n ρ:=Eq.trans rfl rfl
theorem yz {c:FB}{s:FS}{n:Nat}{ρ:ak}:J1 (some true) c s n ρ=J8 (s ρ) c s n:=Eq.trans rfl rfl
theorem zN {c:FB}{s:FS}{n:Nat}{ρ:ak}:J1 (some false) c s n ρ=.nx ρ:=Eq.trans rfl rfl
theorem pd {u:FS}{ρ:ak}:yO (.nx ρ) u=u ρ:=Eq.trans rfl rfl
theorem oZ {u:FS}{p:PV}{ρ:ak}:yO (.rt p ρ) u=.rt p ρ:=Eq.trans rfl rfl
theorem xZ {ρ:ak}:aH ρ=.nx ρ:=Eq.trans rfl rfl
theorem y5 {f:FE}{ρ:ak}:hK f ρ=vK (f ρ) ρ:=Eq.trans rfl rfl
theorem o3 {p:PV}{ρ:ak}:vK (some (.fz p)) ρ=.nx ρ:=Eq.trans rfl rfl
theorem C7 {f:FE}{ρ:ak}:aO f ρ=yV (f ρ) ρ:=Eq.trans rfl rfl
theorem sx {p:PV}{ρ:ak}:yV (some (.fz p)) ρ=.rt p ρ:=Eq.trans rfl rfl
theorem rY {p:List PV}{ρ:ak}:yV (some (.nw p)) ρ=.rn p ρ:=Eq.trans rfl rfl
theorem Ak {i:Nat}{ρ:ak}:g8 i ρ=rP (sl ρ i) ρ:=Eq.trans rfl rfl
theorem qX {p:PV}{ρ:ak}:rP (some (.val p)) ρ=.rt p ρ:=Eq.trans rfl rfl
theorem sv {p:List PV}{ρ:ak}:rP (some (.own p)) ρ=.rn p ρ:=Eq.trans rfl rfl
theorem IN {g:FB}{s u:FS}{ρ:ak}:gc g s u ρ=Ht (g ρ) s u ρ:=Eq.trans rfl rfl
theorem ya {s u:FS}{ρ:ak}:Ht (some true) s u ρ=s ρ:=Eq.trans rfl rfl
theorem zn {s u:FS}{ρ:ak}:Ht (some false) s u ρ=u ρ:=Eq.trans rfl rfl
theorem Dl {i:Nat}{f:FE}{ρ:ak}:aA i f ρ=Bu ((f ρ).bind RV.fr) i ρ:=Eq.trans rfl rfl
theorem ub {i:Nat}{p:PV}{ρ:ak}:Bu (some p) i ρ=.nx (ρ.set i (some (.val p))):=Eq.trans rfl rfl
theorem DL {i:Nat}{f:FE}{ρ:ak}:gK i f ρ=Cf (f ρ) i ρ:=Eq.trans rfl rfl
theorem rb {i:Nat}{p:List PV}{ρ:ak}:Cf (some (.nw p)) i ρ=.nx (ρ.set i (some (.own p))):=Eq.trans rfl rfl
theorem CM {f:FE}{t:FT}{ρ:ak}:dQ f t ρ=Ba ((f ρ).bind RV.fr) t ρ:=Eq.trans rfl rfl
theorem vF {p:PV}{t:FT}{ρ:ak}:Ba (some p) t ρ=C0 (t p ρ):=Eq.trans rfl rfl
theorem zW {ρ:ak}:C0 (some ρ)=.nx ρ:=Eq.trans rfl rfl
theorem DH {i j:Nat}{fs:FA}{ρ:ak}:oF i j fs ρ=BH ((fs ρ).bind fun rs=>rs.mapM RV.fr) i j ρ:=Eq.trans rfl rfl
theorem vk {i j:Nat}{p q:PV}{ρ:ak}:BH (some [p,q]) i j ρ=.nx ((ρ.set i (some (.val p))).set j (some (.val q))):=Eq.trans rfl rfl
theorem Da {i:Nat}{s:FS}{ρ:ak}:wV i s ρ=s (frz i ρ):=Eq.trans rfl rfl
theorem uD {ps:List PV}{ρ:ak}:frz 0 (some (.own ps)::ρ)=some (.val (.lst ps))::ρ:=Eq.trans rfl rfl
theorem ud {p:PV}{ρ:ak}:frz 0 (some (.val p)::ρ)=some (.val p)::ρ:=Eq.trans rfl rfl
theorem Dc {g:Int->Int->Int}{i:Nat}{f:FE}{ρ:ak}:lR g i f ρ=Bp g (sl ρ i) ((f ρ).bind RV.fr) i ρ:=Eq.trans rfl rfl
theorem ur {g:Int->Int->Int}{i:Nat}{a b:Int}{ρ:ak}:Bp g (some (.val (.int a))) (some (.int b)) i ρ=.nx (ρ.set i (some (.val (.int (g a b))))):=Eq.trans rfl rfl
theorem GL {g:GM}{i:Nat}{fs:FA}{ρ:ak}:qN g i fs ρ=BU (Fh g (sl ρ i) ((fs ρ).bind fun rs=>rs.mapM RV.fr)) i ρ:=Eq.trans rfl rfl
theorem sF {g:GM}{j i:Nat}{fs:FA}{ρ:ak}:BN g j i fs ρ=Co (Fh g (sl ρ i) ((fs ρ).bind fun rs=>rs.mapM RV.fr)) j i ρ:=Eq.trans rfl rfl
theorem Aq {g:GM}{t:Sl}{ps:List PV}:Fh g (some t) (some ps)=g t ps:=Eq.trans rfl rfl
theorem uN {t:Sl}{p:PV}{i:Nat}{ρ:ak}:BU (some (t,p)) i ρ=.nx (ρ.set i (some t)):=Eq.trans rfl rfl
theorem jO {t:Sl}{p:PV}{j i:Nat}{ρ:ak}:Co (some (t,p)) j i ρ=.nx ((ρ.set i (some t)).set j (some (.val p))):=Eq.trans rfl rfl
theorem Am {ps:List PV}{q:PV}:jC (.own ps) [q]=if ps.length≤100000 then some (.own (ps++[q]),.non) else none:=Eq.trans rfl rfl
theorem uF {tab:List (Str×j9)}{j i:Nat}{fs:FA}{t:FT}{ρ:ak}:nZ tab j i fs t ρ=nB (HY tab (sl ρ j)) (sl ρ i) ((fs ρ).bind fun rs=>rs.mapM RV.fr) i t ρ:=Eq.trans rfl rfl
theorem za {tab:List (Str×j9)}{x:Str}:HY tab (some (.val (.fn x)))=tab.lookup x:=Eq.trans rfl rfl
theorem rf {F:j9}{ps qs:List PV}{i:Nat}{t:FT}{ρ:ak}:nB (some F) (some (.own ps)) (some qs) i t ρ=yD (F ps qs) i t ρ:=Eq.trans rfl rfl
theorem pS {ps:List PV}{p:PV}{i:Nat}{t:FT}{ρ:ak}:yD (some (ps,p)) i t ρ=C0 (t p (ρ.set i (some (.own ps)))):=Eq.trans rfl rfl
theorem mD {g:PV->List PV->Option RV}{fo:FE}{fs:FA}{ρ:ak}:zT g fo fs ρ=(fo ρ).bind fun x=>(fs ρ).bind fun rs=>g x.pv (rs.map RV.pv):=Eq.trans rfl rfl
theorem jF {ks:List bP}{ps:List PV}{k:PV}:tC (.dct ks ps) [k]=(eV k).map fun k=>.fz ((lM ks ps k).getD .non):=Eq.trans rfl rfl
theorem gS {x:Str}:eV (.str x)=some (.inr x):=Eq.trans rfl rfl
theorem kg {i:Int}:eV (.int i)=some (.inl i):=Eq.trans rfl rfl
theorem Ag {tab:List (Str×Fn)}{j:Nat}{fs:FA}{ρ:ak}:mN tab j fs ρ=(fs ρ).bind fun rs=>qD tab (sl ρ j) (rs.mapM RV.fr) rs:=Eq.trans rfl rfl
theorem Bs {tab:List (Str×Fn)}{x:Str}{o:Option (List PV)}{rs:List RV}:qD tab (some (.val (.fn x))) o rs=(tab.lookup x).bind fun F=>nE F o rs:=Eq.trans rfl rfl
theorem AP {ks:List bP}{ps:List PV}{x:Str}:aM (.dct ks ps) (.str x)=(lM ks ps (.inr x)).map .fz:=Eq.trans rfl rfl
theorem xR {ks:List bP}{ps:List PV}{x:Str}:sX (.str x) (.dct ks ps)=some (.fz (.bl (lM ks ps (.inr x)).isSome)):=Eq.trans rfl rfl
theorem C9 {j:Nat}{fi f:FE}{ρ:ak}:j7 j fi f ρ=BO ((f ρ).bind RV.fr) (sl ρ j) ((fi ρ).bind RV.fr) j ρ:=Eq.trans rfl rfl
theorem uI {v:PV}{ps:List PV}{k:Int}{j:Nat}{ρ:ak}:BO (some v) (some (.own ps)) (some (.int k)) j ρ=vR (pb ps.length k) v ps j ρ:=Eq.trans rfl rfl
theorem vJ {v:PV}{ps:List PV}{n j:Nat}{ρ:ak}:vR (some n) v ps j ρ=.nx (ρ.set j (some (.own (ps.set n v)))):=Eq.trans rfl rfl
theorem CP {it:FI}{t:FT}{s:FS}{ρ:ak}:iz it t s ρ=GZ (it ρ) t s ρ:=Eq.trans rfl rfl
theorem wv {its:List PV}{t:FT}{s:FS}{ρ:ak}:GZ (some its) t s ρ=aQ t s its ρ:=Eq.trans rfl rfl
theorem ua {c:FB}{s:FS}{ρ:ak}:cR c s ρ=bj c s 10000 ρ:=Eq.trans rfl rfl
theorem rx {ρ:ak}:Out.res (.nx ρ)=some (.v .non):=Eq.trans rfl rfl
theorem rU {p:PV}{ρ:ak}:Out.res (.rt p ρ)=some (.v p):=Eq.trans rfl rfl
theorem rL {p:List PV}{ρ:ak}:Out.res (.rn p ρ)=some (.n p):=Eq.trans rfl rfl
theorem pw {p:PV}{ρ:ak}:Out.res2 (.rt p ρ)=some (.v p,ρ):=Eq.trans rfl rfl
theorem yp {p:PV}{ps:List PV}{ρ:ak}:jV (some (.v p,some (.own ps)::ρ))=some (ps,p):=Eq.trans rfl rfl
theorem JQ {i:Nat}{ρ:ak}:fV i ρ=(sl ρ i).map qx:=Eq.trans rfl rfl
theorem CZ {s:Option Sl}{ρ:ak}:sl (s::ρ) 0=s:=Eq.trans rfl rfl
theorem DG {s:Option Sl}{i:Nat}{ρ:ak}:sl (s::ρ) (i+1)=sl ρ i:=Eq.trans rfl rfl
theorem rN {p:PV}:qx (.val p)=.fz p:=Eq.trans rfl rfl
theorem qV {p:List PV}:qx (.own p)=.ln (.lst p):=Eq.trans rfl rfl
theorem Ku {p:PV}{ρ:ak}:fC p ρ=some (.fz p):=Eq.trans rfl rfl
theorem He {g:PV->PV->Option RV}{a b:FE}{ρ:ak}:ai g a b ρ=(a ρ).bind fun x=>(b ρ).bind fun y=>g x.pv y.pv:=Eq.trans rfl rfl
theorem uH {p:PV}:RV.pv (.fz p)=p:=Eq.trans rfl rfl
theorem v3 {p:List PV}:RV.pv (.nw p)=.lst p:=Eq.trans rfl rfl
theorem uv {p:PV}:RV.pv (.ln p)=p:=Eq.trans rfl rfl
theorem vN {p:PV}:RV.fr (.fz p)=some p:=Eq.trans rfl rfl
theorem vt {p:List PV}:RV.fr (.nw p)=some (.lst p):=Eq.trans rfl rfl
theorem ug {p:PV}:RV.fr (.ln p)=none:=Eq.trans rfl rfl
theorem KG {f:FE}{ρ:ak}:fT f ρ=xv (f ρ):=Eq.trans rfl rfl
theorem C8 {b:Bool}:xv (some (.fz (.bl b)))=some b:=Eq.trans rfl rfl
theorem zG {g:FB}{ρ:ak}:fg g ρ=(g ρ).map fun b=>!b:=Eq.trans rfl rfl
theorem ye {g k:FB}{ρ:ak}:eI g k ρ=(g ρ).bind fun b=>if b=true then k ρ else some false:=Eq.trans rfl rfl
theorem CL {g k:FB}{ρ:ak}:lK g k ρ=(g ρ).bind fun b=>if b=true then some true else k ρ:=Eq.trans rfl rfl
theorem DC {f:FE}{ρ:ak}:pX f ρ=(f ρ).bind fun r=>r.fr.map .fz:=Eq.trans rfl rfl
theorem Ai {f g:FE}{ρ:ak}:ig f g ρ=(xv (f ρ)).bind fun b=>if b=true then pX g ρ else some (.fz (.bl false)):=Eq.trans rfl rfl
theorem y9 {f:FE}{ρ:ak}:v0 f ρ=(xv (f ρ)).map fun b=>.fz (.bl (!b)):=Eq.trans rfl rfl
theorem Dr {f:FE}{ρ:ak}:r8 f ρ=(f ρ).bind fun r=>BG r.fr:=Eq.trans rfl rfl
theorem vg {i:Int}:BG (some (.int i))=some (.fz (.int (-i))):=Eq.trans rfl rfl
theorem Dt {g:FB}{f k:FE}{ρ:ak}:Il g f k ρ=(g ρ).bind fun b=>if b=true then pX f ρ else pX k ρ:=Eq.trans rfl rfl
theorem ID {g g':PV->PV->Option RV}{a b c:FE}{ρ:ak}:C4 g g' a b c ρ=(a ρ).bind fun x=>(b ρ).bind fun y=>(xv (g x.pv y.pv)).bind fun k=>if k=true then (c ρ).bind fun z=>g' y.pv z.pv else some (.fz (.bl false)):=Eq.trans rfl rfl
theorem DJ {ρ:ak}:ag ρ=some []:=Eq.trans rfl rfl
theorem yC {f:FE}{fs:FA}{ρ:ak}:aa f fs ρ=(f ρ).bind fun r=>(fs ρ).bind fun rs=>some (r::rs):=Eq.trans rfl rfl
theorem mo  : ([]:List RV).mapM RV.fr=some []:=Eq.trans rfl rfl
theorem DK {fs:FA}{ρ:ak}:bE fs ρ=(fs ρ).bind fun rs=>(rs.mapM RV.fr).bind fun ps=>if ps.length≤100000 then some (.fz (.tup ps)) else none:=Eq.trans rfl rfl
theorem DE {fs:FA}{ρ:ak}:e8 fs ρ=(fs ρ).bind fun rs=>(rs.mapM RV.fr).bind fun ps=>if ps.length≤100000 then some (.nw ps) else none:=Eq.trans rfl rfl
theorem vG {i j:Int}:bO (.int i) (.int j)=some (.fz (.int (i+j))):=Eq.trans rfl rfl
theorem vD {ps qs:List PV}:bO (.lst ps) (.lst qs)=if ps.length+qs.length≤100000 then some (.nw (ps++qs)) else none:=Eq.trans rfl rfl
theorem uJ {ps qs:List PV}:bO (.tup ps) (.tup qs)=if ps.length+qs.length≤100000 then some (.fz (.tup (ps++qs))) else none:=Eq.trans rfl rfl
theorem vr {i j:Int}:rT (.int i) (.int j)=some (.fz (.int (i - j))):=Eq.trans rfl rfl
theorem ul {i j:Int}:fy (.int i) (.int j)=if (i.natAbs<2 ^ 64)\/(j.natAbs<2 ^ 64) then some (.fz (.int (i * j))) else none:=Eq.trans rfl rfl
theorem uu {i j:Int}:iG (.int i) (.int j)=if 0<j/\j<1073741824 then some (.fz (.int (i / j))) else none:=Eq.trans rfl rfl
theorem vM {i j:Int}:aY (.int i) (.int j)=if 0<j then some (.fz (.int (i % j))) else none:=Eq.trans rfl rfl
theorem uh {i j:Int}:D7 (.int i) (.int j)=if 0≤j/\j≤1000000/\i.natAbs<2 ^ 64 then some (.fz (.int (i ^ j.toNat))) else none:=Eq.trans rfl rfl
theorem AZ {i j:Int}:Gp (.int i) (.int j)=some (.fz (.bl (decide (i<j)))):=Eq.trans rfl rfl
theorem zh {i j:Int}:F5 (.int i) (.int j)=some (.fz (.bl (decide (i≤j)))):=Eq.trans rfl rfl
theorem Av {i j:Int}:Bz (.int i) (.int j)=some (.fz (.bl (decide (j<i)))):=Eq.trans rfl rfl
theorem AA {i j:Int}:IR (.int i) (.int j)=some (.fz (.bl (decide (j≤i)))):=Eq.trans rfl rfl
theorem sP {x y:PV}:i4 x y=if aK x&&aK y&&decide (dep x≤50) then some (.fz (.bl (eR x y))) else none:=Eq.trans rfl rfl
theorem tq {x y:PV}:i6 x y=if aK x&&aK y&&decide (dep x≤50) then some (.fz (.bl (!eR x y))) else none:=Eq.trans rfl rfl
theorem y8 {x:PV}{ps:List PV}:sX x (.tup ps)=if aK x&&aq ps&&decide (bp ps≤50) then some (.fz (.bl (pin x ps))) else none:=Eq.trans rfl rfl
theorem uq {x:PV}{ps:List PV}:kE x (.tup ps)=if aK x&&aq ps&&decide (bp ps≤50) then some (.fz (.bl (!pin x ps))) else none:=Eq.trans rfl rfl
theorem tO {ps:List PV}{i:Int}:aM (.tup ps) (.int i)=(L2.bQ ps i).map .fz:=Eq.trans rfl rfl
theorem xS {ps:List PV}{i:Int}:aM (.lst ps) (.int i)=(L2.bQ ps i).map .fz:=Eq.trans rfl rfl
theorem zj {ps:List PV}{i:Int}:aM (.src ps) (.int i)=(L2.bQ ps i).map .fz:=Eq.trans rfl rfl
theorem CT {g:PV->Option Int->Option Int->Option RV}{f:FE}{l h:FO}{ρ:ak}:BV g f l h ρ=(f ρ).bind fun r=>(l ρ).bind fun lo=>(h ρ).bind fun hi=>g r.pv lo hi:=Eq.trans rfl rfl
theorem Gu {ρ:ak}:xU ρ=some none:=Eq.trans rfl rfl
theorem GV {f:FE}{ρ:ak}:yw f ρ=(f ρ).bind fun r=>I0 r.fr:=Eq.trans rfl rfl
theorem yI {i:Int}:I0 (some (.int i))=some (some i):=Eq.trans rfl rfl
theorem zH {ps:List PV}{l h:Option Int}:E0 (.lst ps) l h=some (.nw (lN ps l h)):=Eq.trans rfl rfl
theorem AQ {ps:List PV}{l h:Option Int}:E0 (.src ps) l h=some (.nw (lN ps l h)):=Eq.trans rfl rfl
theorem xQ {ps:List PV}{l h:Option Int}:E0 (.tup ps) l h=if HT.sIx ps.length 0 l=0/\HT.sIx ps.length ps.length h=ps.length then none else some (.fz (.tup (lN ps l h))):=Eq.trans rfl rfl
theorem Kz {g:List PV->Option RV}{fs:FA}{ρ:ak}:fB g fs ρ=(fs ρ).bind fun rs=>g (rs.map RV.pv):=Eq.trans rfl rfl
theorem wn {ps:List PV}:dW [.lst ps]=some (.fz (.int ps.length)):=Eq.trans rfl rfl
theorem vH {ps:List PV}:dW [.tup ps]=some (.fz (.int ps.length)):=Eq.trans rfl rfl
theorem wA {ps:List PV}:dW [.src ps]=some (.fz (.int ps.length)):=Eq.trans rfl rfl
theorem u5 {i:Int}:xH [.int i]=some (.fz (.int (if i<0 then -i else i))):=Eq.trans rfl rfl
theorem vx {i j:Int}:nP [.int i,.int j]=some (.fz (.int (if j<i then j else i))):=Eq.trans rfl rfl
theorem tZ {b:Bool}:sI [.bl b]=some (.fz (.int (if b then 1 else 0))):=Eq.trans rfl rfl
theorem vQ {ps:List PV}:xm [.lst ps]=(A6 ps).map fun bs=>.fz (.bl (bs.all id)):=Eq.trans rfl rfl
theorem uA {ps:List PV}:kA [.lst ps]=some (.fz (.tup ps)):=Eq.trans rfl rfl
theorem yr {lo j:Int}:hJ [.rng lo j]=if lo=0/\0≤j/\j≤1000000 then some (.nw (qc 0 j.toNat)) else none:=Eq.trans rfl rfl
theorem rQ {ps:List PV}:hJ [.tup ps]=some (.nw ps):=Eq.trans rfl rfl
theorem BT {j:Int}:r9 [.int j]=if -(2 ^ 62)≤j/\j<2 ^ 62 then some (.fz (.rng 0 j)) else none:=Eq.trans rfl rfl
theorem jv {ps:List PV}:eK [.lst ps]=(gW ps).bind fun ks=>if ps.length<64 then some (.nw ((ka ks).map fun i=>ps.getD i .non)) else none:=Eq.trans rfl rfl
theorem AH {F:List PV->Option PR}{fs:FA}{ρ:ak}:ao F fs ρ=(fs ρ).bind fun rs=>nE F (rs.mapM RV.fr) rs:=Eq.trans rfl rfl
theorem qY {F:List PV->Option PR}{ps:List PV}{rs:List RV}:nE F (some ps) rs=(F ps).map rm:=Eq.trans rfl rfl
theorem ry {F:List PV->Option PR}{rs:List RV}:nE F none rs=(F (rs.map RV.pv)).bind fun r=>if Jg r=true then some (rm r) else none:=Eq.trans rfl rfl
theorem y0 {p:PV}:rm (.v p)=.fz p:=Eq.trans rfl rfl
theorem zQ {p:List PV}:rm (.n p)=.nw p:=Eq.trans rfl rfl
theorem wj {p:PV}:Jg (.v p)=tf p:=Eq.trans rfl rfl
theorem Ib {f:FE}{ρ:ak}:lF f ρ=(f ρ).bind fun r=>r.fr.bind items:=Eq.trans rfl rfl
theorem oS {ps:List PV}:items (.tup ps)=some ps:=Eq.trans rfl rfl
theorem o6 {ps:List PV}:items (.lst ps)=some ps:=Eq.trans rfl rfl
theorem CS {g:List PV->Option (List PV)}{fs:FA}{ρ:ak}:jD g fs ρ=(fs ρ).bind fun rs=>g (rs.map RV.pv):=Eq.trans rfl rfl
theorem DQ {j:Int}:kr [.int j]=if EV j then some (qc 0 j.toNat) else none:=Eq.trans rfl rfl
theorem F4 {ps:List PV}:qR [.lst ps]=(cu ps).bind fun is=>if is.length=0 then none else some (.fz (.int (lL is))):=Eq.trans rfl rfl
theorem ym {fs:FA}{ρ:ak}:mJ fs ρ=(fs ρ).bind fun rs=>(rs.mapM RV.fr).bind rA:=Eq.trans rfl rfl
theorem qS {ps:List PV}:rA [.tup ps]=some (cO 0 ps):=Eq.trans rfl rfl
theorem HW {i:Nat}{p:PV}{ρ:ak}:gN i p ρ=some (ρ.set i (some (.val p))):=Eq.trans rfl rfl
theorem IC {ρ:ak}:g0 [] ρ=some ρ:=Eq.trans rfl rfl
theorem GA {t:FT}{ts:xr}{p:PV}{ps:List PV}{ρ:ak}:gC t ts (p::ps) ρ=(t p ρ).bind fun ρ'=>ts ps ρ':=Eq.trans rfl rfl
theorem Dg {n:Nat}{ts:xr}{ps:List PV}{ρ:ak}:hV n ts (.tup ps) ρ=if ps.length=n then ts ps ρ else none:=Eq.trans rfl rfl
theorem xP {fm:List (Option Nat)}{it:FI}{t:FT}{c:FB}{f:FE}{ρ:ak}:bM fm it t c f ρ=(it ρ).bind fun its=>if its.length<1000 then (i9 t c f (fw fm ρ) its).map .nw else none:=Eq.trans rfl rfl
theorem po {ρ:ak}:fw [] ρ=[]:=Eq.trans rfl rfl
theorem nX {fm:List (Option Nat)}{ρ:ak}:fw (none::fm) ρ=none::fw fm ρ:=Eq.trans rfl rfl
theorem mr {j:Nat}{fm:List (Option Nat)}{ρ:ak}:fw (some j::fm) ρ=sl ρ j::fw fm ρ:=Eq.trans rfl rfl
theorem yb {s v:Option Sl}{ρ:ak}:List.set (s::ρ) 0 v=v::ρ:=Eq.trans rfl rfl
theorem yu {s v:Option Sl}{i:Nat}{ρ:ak}:List.set (s::ρ) (i+1) v=s::List.set ρ i v:=Eq.trans rfl rfl
theorem v2 {p:PV}{n:String}{b:Bool}(hn:n = "int"\/n = "bool"\/n = "str"\/n = "tuple"\/n = "list"\/n = "dict")(h:Kl n p=some b):qO [p,.ty n]=some (.fz (.bl b)):=by
 unfold qO;simp only[hn,if_true,h,Option.map_some]
theorem jX {i:Int}:qO [(.int i),.ty "int"]=some (.fz (.bl true)):=v2 (by decide) rfl
theorem ji {i:Int}:qO [(.int i),.ty "bool"]=some (.fz (.bl false)):=v2 (by decide) rfl
theorem im {i:List PV}:qO [(.tup i),.ty "tuple"]=some (.fz (.bl true)):=v2 (by decide) rfl
theorem j0 {i:Str}:qO [(.str i),.ty "str"]=some (.fz (.bl true)):=v2 (by decide) rfl
theorem lh {α β:Type}{a:α}{f:α->Option β}:((some a).bind f)=f a:=Eq.trans rfl rfl
theorem lq {α β:Type}{f:α->Option β}:((none:Option α).bind f)=none:=Eq.trans rfl rfl
theorem mC {α β:Type}{a:α}{f:α->β}:((some a).map f)=some (f a):=Eq.trans rfl rfl
theorem ET {α β:Type}{f:α->β}:((none:Option α).map f)=none:=Eq.trans rfl rfl
theorem ma {α β:Type}{a:α}{l:List α}{f:α->β}:((a::l).map f)=f a::l.map f:=Eq.trans rfl rfl
theorem pQ {α β:Type}{f:α->β}:(([]:List α).map f)=[]:=Eq.trans rfl rfl
theorem ph {α:Type}{l:List α}:([]++l)=l:=Eq.trans rfl rfl
theorem np {α:Type}{a:α}{l m:List α}:((a::l)++m)=a::(l++m):=Eq.trans rfl rfl
theorem oi {α:Type}{a:α}{l:List α}:((a::l).length)=l.length+1:=Eq.trans rfl rfl
theorem pc {α:Type}:(([]:List α).length)=0:=Eq.trans rfl rfl
theorem xG {α:Type}{a b:α}:((if True then a else b))=a:=Eq.trans rfl rfl
theorem AI {α:Type}{a b:α}:((if False then a else b))=b:=Eq.trans rfl rfl
theorem I3 {α:Type}{a b:α}:((if true=true then a else b))=a:=Eq.trans rfl rfl
theorem vE {α:Type}{a b:α}:((if false=true then a else b))=b:=Eq.trans rfl rfl
theorem Ga {α:Type}{a:α}{l:List α}:((a::l).isEmpty)=false:=Eq.trans rfl rfl
theorem oY {α:Type}:(([]:List α).isEmpty)=true:=Eq.trans rfl rfl
theorem Dh  : (aK .non)=true:=Eq.trans rfl rfl
theorem E3 {b:Bool}:(aK (.bl b))=true:=Eq.trans rfl rfl
theorem kY {b:Int}:(aK (.int b))=true:=Eq.trans rfl rfl
theorem k6 {b:Str}:(aK (.str b))=true:=Eq.trans rfl rfl
theorem Gj  : (dep .non)=0:=Eq.trans rfl rfl
theorem HI {b:Bool}:(dep (.bl b))=0:=Eq.trans rfl rfl
theorem pJ {b:Int}:(dep (.int b))=0:=Eq.trans rfl rfl
theorem pR {b:Str}:(dep (.str b))=0:=Eq.trans rfl rfl
theorem Iq {n:Nat}:(nI n)=PV.int n:=Eq.trans rfl rfl
theorem Jd  : (j8 .non)=true:=Eq.trans rfl rfl
theorem Ge {i:Int}:(j8 (.int i))=false:=Eq.trans rfl rfl
theorem F7 {i:Bool}:(j8 (.bl i))=false:=Eq.trans rfl rfl
theorem Go {i:List PV}:(j8 (.tup i))=false:=Eq.trans rfl rfl
theorem F8 {i:List PV}:(j8 (.lst i))=false:=Eq.trans rfl rfl
theorem F9 {i:Str}:(j8 (.str i))=false:=Eq.trans rfl rfl
theorem GK {i:Int}:(EV i)=(decide (-4611686018427387904≤i)&&decide (i<4611686018427387904)):=Eq.trans rfl rfl
theorem pN {ps:List PV}:aK (.tup ps)=aq ps:=by rw[aK]
theorem pK {ps:List PV}:aK (.lst ps)=aq ps:=by rw[aK]
theorem mZ:aq []=true:=by rw[aq]
theorem nQ {p:PV}{ps:List PV}:aq (p::ps)=(aK p&&aq ps):=by rw[aq]
theorem vZ {ps:List PV}:dep (.tup ps)=bp ps+1:=by rw[dep]
theorem uw {ps:List PV}:dep (.lst ps)=bp ps+1:=by rw[dep]
theorem rp:bp []=0:=by rw[bp]
theorem rX {p:PV}{ps:List PV}:bp (p::ps)=max (dep p) (bp ps):=by rw[bp]
end Dp
end
local macro_rules | `(tactic| simp! [$xs,*] $[$l:location]?) => `(tactic| simp only [$xs,*, Dp.zR, Dp.k7, Dp.CY, Dp.uQ, Dp.vP, Dp.uL, Dp.yz, Dp.zN, Dp.pd, Dp.oZ, Dp.xZ, Dp.y5, Dp.o3, Dp.C7, Dp.sx, Dp.rY, Dp.Ak, Dp.qX, Dp.sv, Dp.IN, Dp.ya, Dp.zn, Dp.Dl, Dp.ub, Dp.DL, Dp.rb, Dp.CM, Dp.vF, Dp.zW, Dp.DH, Dp.vk, Dp.Da, Dp.uD, Dp.ud, Dp.Dc, Dp.ur, Dp.GL, Dp.Aq, Dp.uN, Dp.Am, Dp.uF, Dp.za, Dp.rf, Dp.pS, Dp.AP, Dp.xR, Dp.C9, Dp.uI, Dp.vJ, Dp.CP, Dp.wv, Dp.ua, Dp.rx, Dp.rU, Dp.rL, Dp.pw, Dp.yp, Dp.JQ, Dp.CZ, Dp.DG, Dp.rN, Dp.qV, Dp.Ku, Dp.He, Dp.uH, Dp.v3, Dp.uv, Dp.vN, Dp.vt, Dp.ug, Dp.KG, Dp.C8, Dp.zG, Dp.ye, Dp.CL, Dp.DC, Dp.Ai, Dp.y9, Dp.Dr, Dp.vg, Dp.Dt, Dp.ID, Dp.DJ, Dp.yC, Dp.mo, Dp.DK, Dp.DE, Dp.vG, Dp.vD, Dp.uJ, Dp.vr, Dp.ul, Dp.uu, Dp.vM, Dp.uh, Dp.AZ, Dp.zh, Dp.Av, Dp.AA, Dp.sP, Dp.tq, Dp.y8, Dp.uq, Dp.tO, Dp.xS, Dp.zj, Dp.CT, Dp.Gu, Dp.GV, Dp.yI, Dp.zH, Dp.AQ, Dp.xQ, Dp.Kz, Dp.wn, Dp.vH, Dp.wA, Dp.u5, Dp.vx, Dp.tZ, Dp.vQ, Dp.uA, Dp.rQ, Dp.jv, Dp.AH, Dp.qY, Dp.ry, Dp.y0, Dp.zQ, Dp.wj, Dp.Ib, Dp.oS, Dp.o6, Dp.CS, Dp.ym, Dp.qS, Dp.HW, Dp.IC, Dp.GA, Dp.Dg, Dp.xP, Dp.po, Dp.nX, Dp.mr, Dp.yb, Dp.yu, Dp.jX, Dp.ji, Dp.im, Dp.j0, Dp.lh, Dp.lq, Dp.mC, Dp.ma, Dp.pQ, Dp.ph, Dp.np, Dp.oi, Dp.pc, Dp.xG, Dp.AI, Dp.vE, Dp.oY, Dp.kY, Dp.k6, Dp.pJ, Dp.pR, Dp.Iq, Dp.pN, Dp.pK, Dp.mZ, Dp.nQ, Dp.vZ, Dp.uw, Dp.rp, Dp.rX, Dp.Kq, Dp.Ki, Dp.lW, Dp.fL, Dp.gL, Dp.vz, and_true, true_and, false_and, Nat.zero_add, Int.toNat_natCast, Bool.not_true, Bool.not_false, Bool.true_and, Bool.and_true, Nat.zero_le, decide_true, decide_false, Dp.cZ, Dp.bS, Dp.cH, Nat.max_self, Nat.max_zero, Nat.reduceAdd, Nat.reduceSub, Nat.reduceLeDiff, Nat.reduceLT, Nat.reduceEqDiff, Int.reduceLT, Int.reduceLE, Int.reduceAdd, Int.reduceSub, Int.reduceMul, Int.reduceMod, Int.reduceDiv, Int.reduceNeg, Int.reduceToNat, Int.reducePow, Int.reduceEq] $[$l:location]?)
local macro_rules | `(tactic| simp_all! [$xs,*]) => `(tactic| simp only [$xs,*, Dp.zR, Dp.k7, Dp.CY, Dp.uQ, Dp.vP, Dp.uL, Dp.yz, Dp.zN, Dp.pd, Dp.oZ, Dp.xZ, Dp.y5, Dp.o3, Dp.C7, Dp.sx, Dp.rY, Dp.Ak, Dp.qX, Dp.sv, Dp.IN, Dp.ya, Dp.zn, Dp.Dl, Dp.ub, Dp.DL, Dp.rb, Dp.CM, Dp.vF, Dp.zW, Dp.DH, Dp.vk, Dp.Da, Dp.uD, Dp.ud, Dp.Dc, Dp.ur, Dp.GL, Dp.Aq, Dp.uN, Dp.Am, Dp.uF, Dp.za, Dp.rf, Dp.pS, Dp.AP, Dp.xR, Dp.C9, Dp.uI, Dp.vJ, Dp.CP, Dp.wv, Dp.ua, Dp.rx, Dp.rU, Dp.rL, Dp.pw, Dp.yp, Dp.JQ, Dp.CZ, Dp.DG, Dp.rN, Dp.qV, Dp.Ku, Dp.He, Dp.uH, Dp.v3, Dp.uv, Dp.vN, Dp.vt, Dp.ug, Dp.KG, Dp.C8, Dp.zG, Dp.ye, Dp.CL, Dp.DC, Dp.Ai, Dp.y9, Dp.Dr, Dp.vg, Dp.Dt, Dp.ID, Dp.DJ, Dp.yC, Dp.mo, Dp.DK, Dp.DE, Dp.vG, Dp.vD, Dp.uJ, Dp.vr, Dp.ul, Dp.uu, Dp.vM, Dp.uh, Dp.AZ, Dp.zh, Dp.Av, Dp.AA, Dp.sP, Dp.tq, Dp.y8, Dp.uq, Dp.tO, Dp.xS, Dp.zj, Dp.CT, Dp.Gu, Dp.GV, Dp.yI, Dp.zH, Dp.AQ, Dp.xQ, Dp.Kz, Dp.wn, Dp.vH, Dp.wA, Dp.u5, Dp.vx, Dp.tZ, Dp.vQ, Dp.uA, Dp.rQ, Dp.jv, Dp.AH, Dp.qY, Dp.ry, Dp.y0, Dp.zQ, Dp.wj, Dp.Ib, Dp.oS, Dp.o6, Dp.CS, Dp.ym, Dp.qS, Dp.HW, Dp.IC, Dp.GA, Dp.Dg, Dp.xP, Dp.po, Dp.nX, Dp.mr, Dp.yb, Dp.yu, Dp.jX, Dp.ji, Dp.im, Dp.j0, Dp.lh, Dp.lq, Dp.mC, Dp.ma, Dp.pQ, Dp.ph, Dp.np, Dp.oi, Dp.pc, Dp.xG, Dp.AI, Dp.vE, Dp.oY, Dp.kY, Dp.k6, Dp.pJ, Dp.pR, Dp.Iq, Dp.pN, Dp.pK, Dp.mZ, Dp.nQ, Dp.vZ, Dp.uw, Dp.rp, Dp.rX, Dp.Kq, Dp.Ki, Dp.lW, Dp.fL, Dp.gL, Dp.vz, and_true, true_and, false_and, Nat.zero_add, Int.toNat_natCast, Bool.not_true, Bool.not_false, Bool.true_and, Bool.and_true, Nat.zero_le, decide_true, decide_false, Dp.cZ, Dp.bS, Dp.cH, Nat.max_self, Nat.max_zero])
section
namespace Dp
open PySem PySem.Spec L2 PyProof.Rows
section
variable {X:Cx}{i j:Nat}{x y:Str}{pos:Pos}
theorem Z.ok.track {z:Z X}{s:Shared}(hz:z.ok s){a:Addr}(fr:hU z.bad z.H a)(h00:X.s₀.heap.get? a=none)(hp:∀p∈X.pn++z.pins,p.1≠a)(nt:∃ob,s.heap.get? a=some ob/\ob.cls≠.type "tuple")
  (sk:∀(j:Nat) t v,z.ρ[j]?=some (some t)->z.σ[j]?=some (some v)->SlOk (aF X z.bad (cg z.H a au)) z.H s.heap t v):(z.wi z.σ (cg z.H a au) z.ρ).ok s:=by
 obtain⟨ob,ho,hcl⟩:=nt
 have hnb:=fr.2
 have hne:∀{b},z.H b=some au->b≠a:=fun {b} hb y=>by subst y;rw[fr.1] at hb;cases hb
 refine⟨Inv.track hz.I fr.1 ho h00 (fun q=>hnb (q▸hz.loc)) (fun y c e q=>hnb (q▸hz.cel y c e)) hp,hz.len,fun j t q=>?_,hz.dj,hz.nb,fun b o q=>?_,hz.oh0,hz.loc,hz.cel,hz.fs,hz.ex,hz.there,hz.bs,fun b o q=>?_,hz.anc⟩
 ·obtain⟨v,e1,r,_⟩:=hz.slk j t q
  refine⟨v,e1,r,?_⟩
  have d:=sk j t v q e1
  cases t with
  |val p=>exact d
  |own ps=>obtain⟨b,rfl,hb,l⟩:=d;exact⟨b,rfl,(ax (hne hb)).trans hb,l⟩
  |dic ks ps=>obtain⟨b,rfl,hb,l⟩:=d;exact⟨b,rfl,(ax (hne hb)).trans hb,l⟩
 ·by_cases hba:b=a
  ·have q:cg z.H a au b=some o:=q
   rw[hba,aS] at q;cases q;rfl
  ·have q:cg z.H a au b=some o:=q
   rw[ax hba] at q;exact hz.oh b o q
 ·by_cases hba:b=a
  ·rw[hba];exact⟨hnb,ob,ho,hcl⟩
  ·have q:cg z.H a au b=some o:=q
   rw[ax hba] at q;exact hz.ot b o q
theorem zZ {z:Z X}{s1:Shared}(hz:z.ok s1){i:Nat}{x:Str}(nm:Nm X i x){t:Sl}(ht:bt t=true){a:Addr}(hH:z.H a=some au)(no:∀j,¬aD z.σ z.ρ j a)(h00:X.s₀.heap.get? a=none\/X.H₀ a≠none)
  (d:SlOk z.cn z.H s1.heap t (.ref a)) {E:Value->Shared->Prop} :
  W X (storeName X.env x (.ref a)) (fun _ s'=>(z.wi (z.σ.set i (some (.ref a))) z.H (z.ρ.set i (some t))).ok s'/\Ext z.bad s1.heap s'.heap) E s1:=by
 refine iR hz.I nm.nd nm.ix nm.loc (v:=.ref a) rfl (fun s' I' ⟨b,sb,hb⟩=>?_) nm.fn
 have e:Ext z.bad s1.heap s'.heap:=jL (z:=z) hz I' sb hb
 have hil:i<z.σ.length:=by rw[hz.I.len];exact (List.getElem?_eq_some_iff.mp nm.ix).1
 have hil2:i<z.ρ.length:=by rw[←hz.len];exact hil
 have oset:∀{j b},aD (z.σ.set i (some (.ref a))) (z.ρ.set i (some t)) j b->(j=i/\b=a)\/(j≠i/\aD z.σ z.ρ j b):=fun {j b} o=>by
  obtain⟨⟨t',e1,ot⟩,q⟩:=o
  by_cases hj:i=j
  ·subst hj
   rw[List.getElem?_set_self hil] at q;cases q
   exact .inl ⟨rfl,rfl⟩
  ·rw[List.getElem?_set_ne hj] at e1 q
   exact .inr ⟨Ne.symm hj,⟨t',e1,ot⟩,q⟩
 refine⟨⟨I',by simp[hz.len],fun j t' q=>?_,fun j k b o1 o2=>?_,fun j b o=>?_,hz.oh,hz.oh0,hz.loc,hz.cel,hz.fs,hz.ex,fun b q=>let ⟨o,r⟩:=hz.there b q;e.th b o r,hz.bs,fun b o q=>?_,fun hf b hb=>(List.getElem?_set_ne (nm.an hf ⟨b,hb⟩)).trans (hz.anc hf b hb)⟩,e⟩
 ·by_cases hj:i=j
  ·subst hj
   have q:(z.ρ.set i (some t))[i]?=some (some t'):=q
   rw[List.getElem?_set_self hil2] at q
   cases q
   exact⟨.ref a,List.getElem?_set_self hil,⟨.ref a,rfl⟩,SlOk.mono (c:=z.cn) (c':=z.cn) e.kpD (fun b o hb w=>e.kp b o (hz.ot b _ hb).1 w) d⟩
  ·have q:(z.ρ.set i (some t))[j]?=some (some t'):=q
   rw[List.getElem?_set_ne hj] at q
   obtain⟨w,e1,r,d⟩:=hz.slk j t' q
   exact⟨w,by rw[show (z.wi (z.σ.set i (some (.ref a))) z.H (z.ρ.set i (some t))).σ=z.σ.set i (some (.ref a)) from rfl,List.getElem?_set_ne hj];exact e1,r,d.step hz e q e1⟩
 ·rcases oset o1 with ⟨e1,e2⟩|⟨e1,e2⟩<;>rcases oset o2 with ⟨f1,f2⟩|⟨f1,f2⟩
  ·rw[e1,f1]
  ·subst e2;exact absurd f2 (no k)
  ·subst f2;exact absurd e2 (no j)
  ·exact hz.dj j k b e2 f2
 ·rcases oset o with ⟨e1,e2⟩|⟨e1,e2⟩
  ·subst e2;exact⟨(hz.ot b _ hH).1,h00⟩
  ·exact hz.nb j b e2
 ·obtain⟨r0,ob',r1,r2⟩:=hz.ot b o q
  exact⟨r0,ob',e.kp b ob' r0 r1,r2⟩
theorem Z.ok.no_own {z:Z X}{s:Shared}(hz:z.ok s){a:Addr}(n:s.heap.get? a=none)(j:Nat):¬aD z.σ z.ρ j a:=fun o=>by
 obtain⟨⟨t',e1,ot⟩,q⟩:=o
 obtain⟨v,e2,_,d2⟩:=hz.slk j t' e1
 rw[q] at e2;cases e2
 have:z.H a=some au:=by
  cases t' with
  |val p=>cases ot
  |own ps=>obtain⟨b,e3,h,_⟩:=d2;cases e3;exact h
  |dic ks ps=>obtain⟨b,e3,h,_⟩:=d2;cases e3;exact h
 obtain⟨ob,r⟩:=hz.stands this
 rw[n] at r;cases r
noncomputable def yc:RV->Option Sl
 |.fz p=>some (.val p)
 |.nw ps=>some (.own ps)
 |.ln _=>none
noncomputable def uj (o:Option Sl)(o':Option Sl)(i j:Nat)(ρ:ak):Out:=match o,o' with
 |some s,some t=>.nx ((ρ.set i (some s)).set j (some t))
 |_,_=>.bad
noncomputable abbrev FX:=ak->Option Sl
noncomputable def va (i j:Nat)(g1 g2:FX):FS:=fun ρ=>uj (g1 ρ) (g2 ρ) i j ρ
noncomputable def xE (f:FE):FX:=fun ρ=>(f ρ).bind yc
noncomputable def ri (i:Nat)(g:FX):FS:=fun ρ=>match g ρ with
 |some t=>.nx (ρ.set i (some t))
 |none=>.bad
structure Got (z z':Z X)(s s':Shared)(t:Sl)(u:Value):Prop where
 bad:z'.bad=z.bad
 pins:z'.pins=z.pins
 σ:z'.σ=z.σ
 ρ:z'.ρ=z.ρ
 ok:z'.ok s'
 stp:Stp z.bad z.H z'.H s.heap s'.heap
 old:∀b o,z.H b=some o->z'.H b=some o
 kept:∀b o,¬z.bad b->s.heap.get? b=some o->s'.heap.get? b=some o
 sl:(bt t=false/\(∃p,t=.val p/\D z'.cn s'.heap p u))\/(bt t=true/\∃a,u=.ref a/\s.heap.get? a=none/\z'.H a=some au/\X.s₀.heap.get? a=none/\SlOk z'.cn z'.H s'.heap t (.ref a))
noncomputable def NX (X:Cx)(e:Expr)(g:FX):Prop:=∀(z:Z X) (s:Shared) (t:Sl) (E:Value->Shared->Prop),z.ok s->g z.ρ=some t->W X (eval e X.env) (fun u s'=>∃z',Got z z' s s' t u) E s
theorem vY {z:Z X}{s s':Shared}{t:Sl}{a:Addr}(hz:z.ok s)(g:z.go s s')(ht:bt t=true)(n:s.heap.get? a=none)(nt:∃ob,s'.heap.get? a=some ob/\ob.cls≠.type "tuple")(d:SlOk (aF X z.bad (cg z.H a au)) (cg z.H a au) s'.heap t (.ref a)):∃z',Got z z' s s' t (.ref a):=by
 have hn:∀b o,z.H b=some o->b≠a:=fun b o h y=>by subst y;obtain⟨ob,r⟩:=hz.stands h;rw[n] at r;cases r
 exact⟨z.wi z.σ (cg z.H a au) z.ρ,rfl,rfl,rfl,rfl,g.1.track (hz.free n) (df hz n) (fun p hp q=>by have:=(hz.I.pin p hp).1;rw[q,n] at this;cases this) nt (hz.sk n g.2 fun b=>.inl),Stp.new g.2 n,fun b o h=>(ax (hn b o h)).trans h,fun b o nb=>g.2.kp b o nb,.inr ⟨ht,a,rfl,n,aS,df hz n,d⟩⟩
theorem KQ {z:Z X}{s s':Shared}{r:RV}{t:Sl}{u:Value}(hz:z.ok s)(p:Z.post z s r u s')(e:yc r=some t):∃z',Got z z' s s' t u:=by
 cases r with
 |ln p=>cases e
 |fz p'=>cases e;exact⟨z,rfl,rfl,rfl,rfl,p.1.1,p.1.2.stp,fun _ _ h=>h,fun b o n=>p.1.2.kp b o n,.inl ⟨rfl,p',rfl,p.2⟩⟩
 |nw ps=>
  cases e
  obtain⟨g,a,rfl,n,o,l⟩:=p
  exact vY hz g rfl n (jU l) ⟨a,rfl,aS,l⟩
theorem IF {e:Expr}{f:FE}(h:NE X e f):NX X e (xE f):=fun z s t E hz q=>by
 obtain⟨r,er,q⟩:=Option.bind_eq_some_iff.mp q
 exact az (h z s r E hz er) fun u s1 p=>KQ hz p q
theorem SlOk.old {c:Cn}{H H':Hp}{h:Heap}(q:∀b o,H b=some o->H' b=some o):∀{t:Sl} {v:V},SlOk c H h t v->SlOk c H' h t v
 |.val _,_,d=>d
 |.own _,_,⟨a,e,o,d⟩=>⟨a,e,q a _ o,d⟩
 |.dic _ _,_,⟨a,e,o,d⟩=>⟨a,e,q a _ o,d⟩
noncomputable def Z.ts (z:Z X)(s:Shared)(i:Nat)(t:Sl)(s':Shared):Prop:=∃v,(bt t=false\/∃a,v=V.ref a/\z.H a=some au)/\(z.wi (z.σ.set i (some v)) z.H (z.ρ.set i (some t))).ok s'/\Ext z.bad s.heap s'.heap
theorem kD {z:Z X}{s:Shared}(hz:z.ok s){i:Nat}{x:Str}(nm:Nm X i x){p:PV}{u:Value}(d:D z.cn s.heap p u){E:Value->Shared->Prop} :
  W X (storeName X.env x u) (fun _ s'=>z.ts s i (.val p) s') E s:=by
 obtain⟨v,ru,rv⟩:=d.v
 refine iR hz.I nm.nd nm.ix nm.loc ru (fun s' I' ⟨a,sb,ha⟩=>?_) nm.fn
 have e:=jL hz I' sb ha
 have hi:i<z.σ.length:=by rw[hz.I.len];exact (List.getElem?_eq_some_iff.mp nm.ix).1
 have hi2:i<z.ρ.length:=by rw[←hz.len];exact hi
 refine⟨v,.inl rfl,⟨I',by simp[hz.len],fun j t q=>?_,fun j k a o1 o2=>hz.dj j k a (fG o1) (fG o2),fun j a o=>hz.nb j a (fG o),hz.oh,hz.oh0,hz.loc,hz.cel,hz.fs,hz.ex,fun b q=>let ⟨o,r⟩:=hz.there b q;e.th b o r,hz.bs,fun a o q=>⟨(hz.ot a o q).1,let ⟨ob,r1,r2⟩:=(hz.ot a o q).2;⟨ob,e.kp a ob (hz.ot a o q).1 r1,r2⟩⟩,fun hf a ha=>(List.getElem?_set_ne (nm.an hf ⟨a,ha⟩)).trans (hz.anc hf a ha)⟩,e⟩
 by_cases hj:i=j
 ·subst hj
  have q:(z.ρ.set i (some (.val p)))[i]?=some (some t):=q
  rw[List.getElem?_set_self hi2] at q
  cases q
  exact⟨v,List.getElem?_set_self hi,⟨u,ru⟩,fun u' r=>(rv u' r).m e.kpD⟩
 ·have q:(z.ρ.set i (some (.val p)))[j]?=some (some t):=q
  rw[List.getElem?_set_ne hj] at q
  obtain⟨w,e1,r,d⟩:=hz.slk j t q
  exact⟨w,by rw[show (z.wi (z.σ.set i (some v)) z.H (z.ρ.set i (some (.val p)))).σ=z.σ.set i (some v) from rfl,List.getElem?_set_ne hj];exact e1,r,d.step hz e q e1⟩
noncomputable def Has (z:Z X)(h:Heap)(t:Sl)(u:Value):Prop:=(bt t=false/\(∃p,t=.val p/\D z.cn h p u))\/(bt t=true/\∃a,u=.ref a/\(∀j,¬aD z.σ z.ρ j a)/\z.H a=some au/\X.s₀.heap.get? a=none/\SlOk z.cn z.H h t (.ref a))
theorem kU {z:Z X}{s:Shared}{i:Nat}{x:Str}{t:Sl}{u:Value}(hz:z.ok s)(nm:Nm X i x)(h:Has z s.heap t u){E:Value->Shared->Prop} :
  W X (storeName X.env x u) (fun _ s'=>z.ts s i t s'/\∀a,u=.ref a->bt t=true->∃v,v=V.ref a/\(z.wi (z.σ.set i (some v)) z.H (z.ρ.set i (some t))).ok s'/\Ext z.bad s.heap s'.heap) E s:=by
 rcases h with ⟨ho,p,rfl,d⟩|⟨ho,a,rfl,no,hH,h00,d⟩
 ·exact az (kD hz nm d) fun _ s' q=>⟨q,fun _ _ h=>(by cases h)⟩
 ·exact az (zZ hz nm ho hH no (.inl h00) d) fun _ s' ⟨ok,e⟩=>⟨⟨.ref a,.inr ⟨a,rfl,hH⟩,ok,e⟩,fun b hb _=>by cases hb;exact⟨_,rfl,ok,e⟩⟩
theorem Has.ext {z:Z X}{s:Shared}{h':Heap}{t:Sl}{u:Value}(hz:z.ok s)(e:Ext z.bad s.heap h'):Has z s.heap t u->Has z h' t u
 |.inl ⟨ho,p,e1,d⟩=>.inl ⟨ho,p,e1,d.m e.kpD⟩
 |.inr ⟨ho,a,e1,no,hH,h00,d⟩=>.inr ⟨ho,a,e1,no,hH,h00,SlOk.mono (c:=z.cn) (c':=z.cn) e.kpD (fun b o hb w=>e.kp b o (hz.ot b _ hb).1 w) d⟩
theorem Has.over {z:Z X}{s s':Shared}{i:Nat}{t t':Sl}{u u':Value}{v:V}(hz:z.ok s)(h:Has z s.heap t u)(hv:bt t'=true->∃a,v=.ref a/\u≠.ref a)(e:Ext z.bad s.heap s'.heap):Has (z.wi (z.σ.set i (some v)) z.H (z.ρ.set i (some t'))) s'.heap t u:=by
 rcases h.ext hz e with h|⟨ho,a,rfl,no,r⟩
 ·exact .inl h
 ·refine .inr ⟨ho,a,rfl,fun j o=>?_,r⟩
  obtain⟨⟨t2,e1,ot⟩,q⟩:=o
  have e1:(z.ρ.set i (some t'))[j]?=some (some t2):=e1
  have q:(z.σ.set i (some v))[j]?=some (some (.ref a)):=q
  by_cases hj:i=j
  ·subst hj
   rw[List.getElem?_set] at e1 q
   simp only[if_true] at e1 q
   split at e1
   ·cases e1
    split at q
    ·cases q
     obtain⟨b,e3,e4⟩:=hv ot
     cases e3;exact e4 rfl
    ·cases q
   ·cases e1
  ·rw[List.getElem?_set_ne hj] at e1 q
   exact no j ⟨⟨t2,e1,ot⟩,q⟩
theorem Fm {a b:Expr}{f1 f2:FX}{px py pt:Pos}{kt k2 pt2}(hc:X.calm=true)(n1:Nm X i x)(n2:Nm X j y)(hij:i≠j)(ha:NX X a f1)(hb:NX X b f2)(hs2:starEach [a,b] X.env=[(false,eval a X.env),(false,eval b X.env)])
  (hw:swappedStores [.Tuple [.Name x px,.Name y py] kt pt] (.Tuple [a,b] k2 pt2) X.env=pure (some [x,y]))
  (hs:swapsWithSole [.Tuple [.Name x px,.Name y py] kt pt] (.Tuple [a,b] k2 pt2) pos.line X.env=pure false) :
  NS X (.Assign [.Tuple [.Name x px,.Name y py] kt pt] (.Tuple [a,b] k2 pt2) pos) (va i j f1 f2):=fun z s E hz hb0=>by
 unfold va uj at hb0 ⊢
 split at hb0
 ·next t1 t2 e1 e2=>
  rw[exec_Assign_arm]
  refine wpAny_bind (wpAny_standAt ?_)
  rw[hs]
  refine wpAny_bind (wpAny_pure ?_)
  rw[if_neg (by decide)]
  refine wpAny_bind (Tuple_ ?_)
  rw[hs2]
  show W X (spliced ((false,eval a X.env)::(false,eval b X.env)::[])) _ _ s
  refine Calls.spliced_cons (az (ha z s t1 E hz e1) fun u1 s1 p1=>?_)
  obtain⟨⟨bad1,pins1,σ1,H1,ρ1⟩,G1⟩:=p1
  obtain⟨rfl,rfl,rfl,rfl,ok1,st1,old1,kp1,g1⟩:=G1
  refine Calls.spliced_cons (az (hb ⟨z.bad,z.pins,z.σ,H1,z.ρ⟩ s1 t2 E ok1 e2) fun u2 s2 p2=>Calls.spliced_nil ?_)
  obtain⟨⟨bad2,pins2,σ2,H2,ρ2⟩,G2⟩:=p2
  obtain⟨q1,q2,q3,q4,ok2,st2,old2,kp2,g2⟩:=G2
  cases (show bad2=z.bad from q1)
  cases (show pins2=z.pins from q2)
  cases (show σ2=z.σ from q3)
  cases (show ρ2=z.ρ from q4)
  have A1:Has (X:=X) ⟨z.bad,z.pins,z.σ,H2,z.ρ⟩ s2.heap t1 u1:=by
   rcases g1 with ⟨ho,p,rfl,d⟩|⟨ho,a',rfl,n,hH,h00,d⟩
   ·exact .inl ⟨ho,p,rfl,d.m st2.kpD⟩
   ·exact .inr ⟨ho,a',rfl,hz.no_own n,old2 _ _ hH,h00,SlOk.old old2 (SlOk.mono (c:=aF X z.bad H1) (c':=aF X z.bad H2) st2.kpD (fun b o hb w=>kp2 b o (ok1.ot b _ hb).1 w) d)⟩
  have A2:Has (X:=X) ⟨z.bad,z.pins,z.σ,H2,z.ρ⟩ s2.heap t2 u2/\(bt t2=true->∃b,u2=.ref b/\u1≠.ref b\/bt t1=false):=by
   rcases g2 with ⟨ho,p,rfl,d⟩|⟨ho,a',rfl,n,hH,h00,d⟩
   ·exact⟨.inl ⟨ho,p,rfl,d⟩,fun h=>by cases h⟩
   ·refine⟨.inr ⟨ho,a',rfl,fun k=>ok1.no_own (z:=⟨z.bad,z.pins,z.σ,H1,z.ρ⟩) n k,hH,h00,d⟩,fun _=>⟨a',?_⟩⟩
    rcases g1 with ⟨ho,_⟩|⟨ho,a1,rfl,n1,hH1,_⟩
    ·exact .inr ho
    ·refine .inl ⟨rfl,fun e=>?_⟩
     cases e
     obtain⟨ob,r⟩:=ok1.stands hH1
     rw[n] at r;cases r
  refine wpAny_newObj_type ?_ (by show 2≤sizeLine;decide)
  have g3:=ok2.push { cls:=.type "tuple",data:=.seq [u1,u2].toArray } s2.toks
  rw[hw]
  refine wpAny_bind (wpAny_pure ?_)
  show W X (do rule "assign.swapped-stores";let items ←unpackItems (.ref s2.heap.objs.size) 2 none;assignInOrder [fun v=>bindName X.env y v,fun v=>bindName X.env x v] items.reverse;pure Flow.next) _ _ _
  refine wpAny_bind (wpAny_rule (wpAny_bind (unpackItems_tuple (items:=#[u1,u2]) (hz.I.ok.hd hc) (IsTup.new s2.heap _) fun h' hx'=>?_)))
  have g4:(Z.mk (X:=X) z.bad z.pins z.σ H2 z.ρ).go _ { s2 with heap:=h' }:=g3.1.kept (t:=s2.toks) fun b o e=>hx' b o (Nat.ne_of_lt (Heap.lt_size e)) e
  have ge:=g3.trans g4
  have B1:=A1.ext ok2 ge.2
  have B2:=A2.1.ext ok2 ge.2
  show wpAny _ _ (assignInOrder [fun v=>bindName X.env y v,fun v=>bindName X.env x v] [u2,u1] >>= fun _=>pure Flow.next) _ _ _
  refine wpAny_bind (assignInOrder_cons (wpAny_bindName (az (kU ge.1 n2 B2) fun _ s3 ⟨w,ww⟩=>?_)))
  obtain⟨v,ov,ok3,x3⟩:∃v,(bt t2=true->bt t1=true->∃a,v=V.ref a/\u1≠.ref a)/\(Z.mk (X:=X) z.bad z.pins (z.σ.set j (some v)) H2 (z.ρ.set j (some t2))).ok s3/\Ext z.bad h' s3.heap:=by
   cases ho:bt t2 with
   |false=>obtain⟨v,_,r⟩:=w;exact⟨v,(fun h=>by cases h),r⟩
   |true=>
    obtain⟨b,q⟩:=A2.2 ho
    rcases q with ⟨rfl,q⟩|q
    ·obtain⟨v,rfl,r⟩:=ww b rfl ho
     exact⟨_,fun _ _=>⟨b,rfl,q⟩,r⟩
    ·obtain⟨v,_,r⟩:=w;exact⟨v,(fun _ h=>by rw[q] at h;cases h),r⟩
  have C1:Has (X:=X) ⟨z.bad,z.pins,z.σ.set j (some v),H2,z.ρ.set j (some t2)⟩ s3.heap t1 u1:=by
   cases ho:bt t1 with
   |false=>
    rcases B1.ext ge.1 x3 with h|⟨h,_⟩
    ·exact .inl h
    ·rw[ho] at h;cases h
   |true=>exact Has.over (u':=u2) ge.1 B1 (fun h=>ov h ho) x3
  refine assignInOrder_cons (wpAny_bindName (az (kU ok3 n1 C1) fun _ s4 ⟨⟨v1,_,ok4,x4⟩,_⟩=>assignInOrder_nil (wpAny_pure ?_)))
  rw[List.set_comm (some t1) (some t2) hij]
  exact⟨rfl,_,H2,ok4,(st1.trans st2).trans (ge.2.trans (x3.trans x4)).stp⟩
 ·exact absurd rfl hb0
theorem FQ {e:Expr}{g:FX}{p':Pos}(n:Nm X i x)(h:NX X e g)(hs:swapsWith e (some (.Name x p')) pos.line X.env=pure false):NS X (.Assign [.Name x p'] e pos) (ri i g):=fun z s E hz hb=>by
 unfold ri at hb ⊢
 split at hb
 ·next t et=>
  refine wpAny_Assign_Name (az (h z s t E hz et) fun u s1 ⟨⟨bad1,pins1,σ1,H1,ρ1⟩,G1⟩=>?_) hs
  obtain⟨q1,q2,q3,q4,ok1,st1,old1,kp1,g1⟩:=G1
  cases (show bad1=z.bad from q1)
  cases (show pins1=z.pins from q2)
  cases (show σ1=z.σ from q3)
  cases (show ρ1=z.ρ from q4)
  have A1:Has (X:=X) ⟨z.bad,z.pins,z.σ,H1,z.ρ⟩ s1.heap t u:=by
   rcases g1 with h|⟨ho,a',rfl,n,r⟩
   ·exact .inl h
   ·exact .inr ⟨ho,a',rfl,hz.no_own n,r⟩
  exact az (kU ok1 n A1) fun _ s2 ⟨⟨v,_,ok2,x2⟩,_⟩=>⟨rfl,_,H1,ok2,st1.trans x2.stp⟩
 ·exact absurd rfl hb
end
end Dp
end
section
namespace Dp
open PySem PySem.Spec L2 PyProof.Rows
noncomputable abbrev At:=bP×List PV×Addr
noncomputable def xw (t:At):bP×Value:=(t.1,.ref t.2.2)
noncomputable def tJ (g:List At)(k:bP)(v:PV)(b:Addr):List At:=
 if g.any (fun t=>decide (t.1=k)) then g.map (fun t=>if t.1=k then (t.1,t.2.1++[v],t.2.2) else t) else g++[(k,[v],b)]
noncomputable abbrev Gr:=bP×List PV
noncomputable def mT (g:List Gr)(k:bP)(v:PV):List Gr:=
 if g.any (fun t=>decide (t.1=k)) then g.map (fun t=>if t.1=k then (t.1,t.2++[v]) else t) else g++[(k,[v])]
noncomputable def zt (t:At):Gr:=(t.1,t.2.1)
theorem Bi (g:List At)(k:bP):(g.map zt).any (fun t=>decide (t.1=k))=g.any (fun t=>decide (t.1=k)):=by rw[List.any_map];rfl
theorem tE (g:List At)(k:bP)(v:PV)(b:Addr):(tJ g k v b).map zt=mT (g.map zt) k v:=by
 unfold tJ mT
 rw[Bi]
 split
 ·rw[List.map_map,List.map_map]
  refine List.map_congr_left fun t _=>?_
  show zt (if t.1=k then _ else _)=if t.1=k then _ else _
  split<;>rfl
 ·rw[List.map_append];rfl
theorem A3 (g:List Gr)(k:bP)(v:PV):(mT g k v).length≤g.length+1:=by
 unfold mT;split
 ·rw[List.length_map];omega
 ·rw[List.length_append];simp
theorem wO {g:List Gr}{k:bP}{v:PV}{m:Nat}(ha:∀t∈g,t.2.length≤m):∀t∈mT g k v,t.2.length≤m+1:=by
 unfold mT
 intro t ht
 split at ht
 ·obtain⟨u,hu,rfl⟩:=List.mem_map.mp ht
  have:=ha u hu
  split
  ·simp;omega
  ·omega
 ·rcases List.mem_append.mp ht with ht|ht
  ·have:=ha t ht;omega
  ·rw[List.mem_singleton] at ht;subst ht;simp
section
variable {X:Cx}{d i:Nat}{x y:Str}{pos:Pos}
theorem Z.ok.mutf {z:Z X}{s:Shared}(hz:z.ok s){a:Addr}(hH:z.H a=some au)(no:∀j,¬aD z.σ z.ρ j a){h':Heap}{tk:Nat}(k:∀b u,b≠a->s.heap.get? b=some u->h'.get? b=some u)(nt:∃ob,h'.get? a=some ob/\ob.cls≠.type "tuple") :
  z.ok { s with heap:=h',toks:=tk }/\Stp z.bad z.H z.H s.heap h'/\Kp z.cn z.cn s.heap h':=by
 obtain⟨ob,hob,hcl⟩:=nt
 have I':Inv X z.pins z.σ z.H { s with heap:=h',toks:=tk }:=by
  have:=hz.I.write (x:=a) (e:=a) (o:=au) (h':=h') (t':=tk) (by rw[hH];exact trivial) (.inl rfl) k ⟨ob,hob⟩ ⟨trivial,⟨ob,hob⟩,fun _ _ _ _=>trivial⟩
  rwa [nU hH] at this
 have kp:Kp z.cn z.cn s.heap h':=⟨rfl,rfl,rfl,fun b u q e=>⟨q,k b u (fun y=>by have q1:z.H b=none:=q.1;rw[y,hH] at q1;cases q1) e⟩⟩
 have th:∀b u,s.heap.get? b=some u->∃u',h'.get? b=some u':=fun b u e=>by
  by_cases hb:b=a
  ·rw[hb];exact⟨ob,hob⟩
  ·exact⟨u,k b u hb e⟩
 refine⟨⟨I',hz.len,fun j t q=>?_,hz.dj,hz.nb,hz.oh,hz.oh0,hz.loc,hz.cel,hz.fs,hz.ex,fun b q=>let ⟨u,r⟩:=hz.there b q;th b u r,hz.bs,fun b o q=>?_,hz.anc⟩,⟨fun b u n hn e=>⟨k b u (fun y=>by rw[y,hH] at hn;cases hn) e,hn⟩,th⟩,kp⟩
 ·obtain⟨w,e1,r,dd⟩:=hz.slk j t q
  refine⟨w,e1,r,?_⟩
  have ne:∀b,w=.ref b->bt t=true->b≠a:=fun b e3 ot y=>no j ⟨⟨t,q,ot⟩,by rw[e1,e3,y]⟩
  cases t with
  |val p=>exact fun u r=>(dd u r).m kp
  |own ps=>obtain⟨b,rfl,hb,l⟩:=dd;exact⟨b,rfl,hb,l.mono kp fun o w=>k b o (ne b rfl rfl) w⟩
  |dic ks ps=>obtain⟨b,rfl,hb,l⟩:=dd;exact⟨b,rfl,hb,l.mono kp fun o w=>k b o (ne b rfl rfl) w⟩
 ·obtain⟨r0,u,r1,r2⟩:=hz.ot b o q
  by_cases hb:b=a
  ·rw[hb] at r0 ⊢;exact⟨r0,ob,hob,hcl⟩
  ·exact⟨r0,u,k b u hb r1,r2⟩
theorem Z.ok.letgo {z:Z X}{s:Shared}(hz:z.ok s){a:Addr}(hH:z.H a=some au)(no:∀j,¬aD z.σ z.ρ j a):(z.wi z.σ (om z.H a) z.ρ).ok s/\Kp z.cn (aF X z.bad (om z.H a)) s.heap s.heap:=by
 have kp:Kp z.cn (aF X z.bad (om z.H a)) s.heap s.heap:=⟨rfl,rfl,rfl,fun b o q e=>⟨⟨dR q.1,q.2⟩,e⟩⟩
 refine⟨⟨Inv.untrack hz.I hH,hz.len,fun j t q=>?_,hz.dj,hz.nb,fun b o q=>?_,hz.oh0,hz.loc,hz.cel,hz.fs,hz.ex,hz.there,hz.bs,fun b o q=>?_,hz.anc⟩,kp⟩
 ·obtain⟨w,e1,r,dd⟩:=hz.slk j t q
  refine⟨w,e1,r,?_⟩
  have ne:∀b,w=.ref b->bt t=true->b≠a:=fun b e3 ot y=>no j ⟨⟨t,q,ot⟩,by rw[e1,e3,y]⟩
  cases t with
  |val p=>exact fun u r=>(dd u r).m kp
  |own ps=>obtain⟨b,rfl,hb,l⟩:=dd;exact⟨b,rfl,(cD (ne b rfl rfl)).trans hb,l.mono kp fun _ e=>e⟩
  |dic ks ps=>obtain⟨b,rfl,hb,l⟩:=dd;exact⟨b,rfl,(cD (ne b rfl rfl)).trans hb,l.mono kp fun _ e=>e⟩
 ·by_cases hb:b=a
  ·have q:om z.H a b=some o:=q
   rw[hb,eU] at q;cases q
  ·have q:om z.H a b=some o:=q
   rw[cD hb] at q;exact hz.oh b o q
 ·by_cases hb:b=a
  ·have q:om z.H a b=some o:=q
   rw[hb,eU] at q;cases q
  ·have q:om z.H a b=some o:=q
   rw[cD hb] at q;exact hz.ot b o q
theorem Z.ok.hide {z:Z X}{s:Shared}(hz:z.ok s){a:Addr}(o:aD z.σ z.ρ d a):(z.wi z.σ z.H (z.ρ.set d none)).ok s/\∀j,¬aD z.σ (z.ρ.set d none) j a:=by
 have own:∀{j b},aD z.σ (z.ρ.set d none) j b->j≠d/\aD z.σ z.ρ j b:=fun {j b} ⟨⟨t',e1,ot⟩,q⟩=>by
  by_cases hj:d=j
  ·subst hj
   rw[List.getElem?_set] at e1
   simp only[if_true] at e1
   split at e1<;>cases e1
  ·rw[List.getElem?_set_ne hj] at e1;exact⟨Ne.symm hj,⟨t',e1,ot⟩,q⟩
 refine⟨⟨hz.I,by simp[hz.len],fun j t q=>?_,fun j k b o1 o2=>hz.dj j k b (own o1).2 (own o2).2,fun j b o=>hz.nb j b (own o).2,hz.oh,hz.oh0,hz.loc,hz.cel,hz.fs,hz.ex,hz.there,hz.bs,hz.ot,hz.anc⟩,fun j o'=>(own o').1 (hz.dj j d a (own o').2 o)⟩
 have q:(z.ρ.set d none)[j]?=some (some t):=q
 by_cases hj:d=j
 ·subst hj
  rw[List.getElem?_set] at q
  simp only[if_true] at q
  split at q<;>cases q
 ·rw[List.getElem?_set_ne hj] at q;exact hz.slk j t q
theorem Z.ok.tell {z:Z X}{s:Shared}(hz:z.ok s){v:V}{p:PV}(e:z.σ[d]?=some (some v))(r:∃u,e9 v u)(h:∀u,e9 v u->D z.cn s.heap p u):(z.wi z.σ z.H (z.ρ.set d (some (.val p)))).ok s:=by
 have own:∀{j b},aD z.σ (z.ρ.set d (some (.val p))) j b->aD z.σ z.ρ j b:=fun {j b} ⟨⟨t',e1,ot⟩,q⟩=>by
  by_cases hj:d=j
  ·subst hj
   rw[List.getElem?_set] at e1
   simp only[if_true] at e1
   split at e1<;>cases e1
   cases ot
  ·rw[List.getElem?_set_ne hj] at e1;exact⟨⟨t',e1,ot⟩,q⟩
 refine⟨hz.I,by simp[hz.len],fun j t q=>?_,fun j k b o1 o2=>hz.dj j k b (own o1) (own o2),fun j b o=>hz.nb j b (own o),hz.oh,hz.oh0,hz.loc,hz.cel,hz.fs,hz.ex,hz.there,hz.bs,hz.ot,hz.anc⟩
 have q:(z.ρ.set d (some (.val p)))[j]?=some (some t):=q
 by_cases hj:d=j
 ·subst hj
  rw[List.getElem?_set] at q
  simp only[if_true] at q
  split at q<;>cases q
  exact⟨v,e,r,h⟩
 ·rw[List.getElem?_set_ne hj] at q;exact hz.slk j t q
structure Grp (z:Z X)(h:Heap)(a:Addr)(g:List At):Prop where
 sm:(a==sysModules)=false
 ha:z.H a=some au
 na:∀j,¬aD z.σ z.ρ j a
 dd:h.DictOf (aJ X.prog X.w) a (g.map xw)
 nk:(g.map (·.1)).Nodup
 nd:(a::g.map (·.2.2)).Nodup
 ls:∀t∈g,z.H t.2.2=some au/\(∀j,¬aD z.σ z.ρ j t.2.2)/\ListAt z.cn h t.2.2 t.2.1
theorem Grp.ext {z:Z X}{s:Shared}{h':Heap}{a:Addr}{g:List At}(hz:z.ok s)(G:Grp z s.heap a g)(e:Ext z.bad s.heap h'){σ':L2.St}{ρ':ak}(ho:∀j b,aD σ' ρ' j b->aD z.σ z.ρ j b):Grp (z.wi σ' z.H ρ') h' a g:=
 ⟨G.sm,G.ha,fun j o=>G.na j (ho j a o),by obtain⟨o,es,ep,q,r⟩:=G.dd;exact⟨o,es,ep,e.kp a o (hz.ot a _ G.ha).1 q,r⟩,G.nk,G.nd,fun t ht=>let ⟨h1,h2,h3⟩:=G.ls t ht;⟨h1,fun j o=>h2 j (ho j _ o),ListAt.mono (c:=z.cn) (c':=aF X z.bad z.H) e.kpD (fun o q=>e.kp _ o (hz.ot _ _ h1).1 q) h3⟩⟩
theorem EN (k:bP):∀g:List At,valueAt (g.map xw) k=(g.find? fun t=>decide (t.1=k)).map fun t=>.ref t.2.2
 |[]=>rfl
 |t::g=>by
  have ih:=EN k g
  unfold valueAt at ih ⊢
  rw[List.map_cons,List.find?_cons,List.find?_cons]
  by_cases e:t.1=k
  ·rw[show decide ((xw t).1=k)=true from decide_eq_true e,show decide (t.1=k)=true from decide_eq_true e];rfl
  ·rw[show decide ((xw t).1=k)=false from decide_eq_false e,show decide (t.1=k)=false from decide_eq_false e];exact ih
noncomputable def oR (g:List At)(k:bP)(v:PV):List At:=g.map fun t=>if t.1=k then (t.1,t.2.1++[v],t.2.2) else t
theorem Bl (g:List At)(k:bP)(v:PV):(oR g k v).map xw=g.map xw/\(oR g k v).map (·.1)=g.map (·.1)/\(oR g k v).map (·.2.2)=g.map (·.2.2):=by
 unfold oR
 refine⟨?_,?_,?_⟩<;>rw[List.map_map]<;>refine List.map_congr_left fun t _=>?_
 ·show xw (if t.1=k then _ else _)=_
  split<;>rfl
 ·show (if t.1=k then (t.1,t.2.1++[v],t.2.2) else t).1=_
  split<;>rfl
 ·show (if t.1=k then (t.1,t.2.1++[v],t.2.2) else t).2.2=_
  split<;>rfl
theorem EW {α β:Type}{f:α->β}:∀{l:List α},(l.map f).Nodup->∀{a b},a∈l->b∈l->f a=f b->a=b
 |[],_,_,_,h,_,_=>nomatch h
 |x::l,n,a,b,ha,hb,e=>by
  rw[List.map_cons,List.nodup_cons] at n
  rcases List.mem_cons.mp ha with ea|ha<;>rcases List.mem_cons.mp hb with eb|hb
  ·rw[ea,eb]
  ·exact absurd (by rw[←ea,e];exact List.mem_map_of_mem hb) n.1
  ·exact absurd (by rw[←eb,←e];exact List.mem_map_of_mem ha) n.1
  ·exact EW n.2 ha hb e
theorem ve {z:Z X}{s:Shared}(hz:z.ok s){a:Addr}{g:List At}(G:Grp z s.heap a g){k:bP}{t:At}(ht:t∈g)(hk:t.1=k)(hl:t.2.1.length≤100000){v:PV}{u:Value}(dv:D z.cn s.heap v u){E:Value->Shared->Prop} :
  W X (call (.builtin "list.append") [.ref t.2.2,u]) (fun _ s'=>z.ok s'/\Stp z.bad z.H z.H s.heap s'.heap/\Grp z s'.heap a (oR g k v)) E s:=by
 obtain⟨hH,no,its,n,e2,zl,ds⟩:=G.ls t ht
 have l:=ds.length
 have hb:=F3 hl
 refine call_meets F.slot_list_append ⟨_,e2,rfl⟩ F.entry_list_append (F.args_list_append_2 _ _) (PySem.list_append t.2.2 its.toArray n u (by rw[List.size_toArray];omega)) ⟨e2,?_⟩
 obtain⟨n',q⟩:∃n',(s.heap.update t.2.2 (Obj.mapSeq (·.push u))).get? t.2.2=some (cx (its++[u]) n'):=by
  have q:=PySem.IsL.update e2 (·.push u)
  rw[show its.toArray.push u=(its++[u]).toArray by simp] at q
  exact⟨_,q⟩
 have keep:∀b o,b≠t.2.2->s.heap.get? b=some o->(s.heap.update t.2.2 (Obj.mapSeq (·.push u))).get? b=some o:=fun b o hb hu=>(Heap.get?_update_other s.heap (Obj.mapSeq (·.push u)) (Ne.symm hb)).trans hu
 obtain⟨ok,st,kp⟩:=hz.mutf hH no (tk:=s.toks) keep ⟨_,q,by intro w;exact absurd (Value.type.inj w) (by decide)⟩
 refine⟨ok,st,?_⟩
 obtain⟨a1,a2,a3⟩:=Bl g k v
 have hnd:=G.nd
 rw[List.nodup_cons] at hnd
 have hne:a≠t.2.2:=fun e=>hnd.1 (by rw[e];exact List.mem_map_of_mem (f:=fun t:At=>t.2.2) ht)
 refine⟨G.sm,G.ha,G.na,?_,by rw[a2];exact G.nk,by rw[a3];exact G.nd,fun r hr=>?_⟩
 ·rw[a1]
  obtain⟨o,es,ep,q1,r⟩:=G.dd
  exact⟨o,es,ep,keep a o hne q1,r⟩
 ·unfold oR at hr
  obtain⟨r,hr',rfl⟩:=List.mem_map.mp hr
  obtain⟨h1,h2,h3⟩:=G.ls r hr'
  split
  ·next e=>
   have:r=t:=EW G.nk hr' ht (by show r.1=t.1;rw[hk];exact e)
   subst this
   exact⟨h1,h2,its++[u],n',q,by rw[List.length_append,List.length_singleton];omega,(ds.app (.one dv)).mono kp⟩
  ·next e=>
   refine⟨h1,h2,h3.mono kp fun o=>keep _ o fun e2=>?_⟩
   have:r=t:=EW hnd.2 hr' ht e2
   exact e (by rw[this];exact hk)
theorem Ac {e1 e2:Expr}{fk fv:FE}{p1 p2 p3 p4 p5 p6:Pos}(hN:X.N[d]?=some x)(hvis:oo X.env.scope x)(hdd:(x==("__debug__" : Str))=false)(hcd:(x==("__classdict__" : Str))=false)(c1:Mc X (.Name x p1) "setdefault" p2 p4 [e1,.List [] p3])
  (c2:Mc X (.Call (.Attribute (.Name x p1) "setdefault" p2) [e1,.List [] p3] [] p4) "append" p5 p6 [e2]) (hs1:starEach [e1,.List [] p3] X.env=(false,eval e1 X.env)::starEach [.List [] p3] X.env) (hk:NE X e1 fk) (hv:NE X e2 fv) {z:Z X} {s:Shared} (hz:z.ok s) {a:Addr} {g:List At} (G:Grp z s.heap a g)
  (hd:z.σ[d]?=some (some (.ref a))) (hgl:g.length≤1000) (hls:∀t∈g,t.2.1.length≤1000) {k:bP} {v:PV} (ek:((fk z.ρ).bind RV.fr).bind eV=some k) (ev:(fv z.ρ).bind RV.fr=some v) {E:Value->Shared->Prop} :
  W X (exec (.Expr (.Call (.Attribute (.Call (.Attribute (.Name x p1) "setdefault" p2) [e1,.List [] p3] [] p4) "append" p5) [e2] [] p6) pos) X.env)
   (fun fl s'=>fl=.next/\∃H' b,(z.wi z.σ H' z.ρ).ok s'/\Stp z.bad z.H H' s.heap s'.heap/\Grp (z.wi z.σ H' z.ρ) s'.heap a (tJ g k v b)) E s:=by
 obtain⟨k0,ek0,ek⟩:=Option.bind_eq_some_iff.mp ek
 obtain⟨r1,er1,ek0⟩:=Option.bind_eq_some_iff.mp ek0
 obtain⟨r2,er2,ev⟩:=Option.bind_eq_some_iff.mp ev
 have nod:∀{h:Heap},h.DictOf (aJ X.prog X.w) a (g.map xw)->∀b,Value.ref a=.ref b->∃ob,h.get? b=some ob/\ob.dict=none:=fun dd b e=>by
  cases e;obtain⟨ob,_,_,h1,h2,_⟩:=dd;exact⟨ob,h1,h2.2.1⟩
 refine wpAny_Expr_any ?_ hz.I.quiet rfl
 refine wpAny_Call_method_late c2.base c2.few c2.line rfl ?_
 refine wpAny_Call_method_late c1.base c1.few c1.line rfl (ju hz hd hN hvis hdd hcd ⟨"dict","dict.setdefault",PySem.F.plainAttrs_dict,PySem.F.slot_dict_setdefault,PySem.F.type_dict_setdefault,G.dd.typeIs,nod G.dd,?_⟩)
 have hA:=(qk hk (qk (CN (pos:=p3) kG) kG rfl) hs1) z p4 s [r1,.nw []] E hz (by show (fk z.ρ).bind _=_;rw[er1];rfl)
 rw[hs1] at hA ⊢
 refine Calls.callWith_builtin (by show (false || (false || false))=false;rfl) (Calls.evalArgs_plain (az hA fun us s1 ⟨g1,d1⟩=>?_))
 cases d1 with|cons d1 d2=>
 rename_i u1 _
 cases d2 with|cons d2 d3=>
 rename_i u2 _
 cases d3
 obtain⟨b,rfl,nb,okb',lb⟩:=d2
 have G1:Grp z s1.heap a g:=G.ext hz g1.2 fun _ _ o=>o
 have nk:=G1.nk
 have dk:=d1.fr ek0
 have hlb:=kP
 refine call_meetsIn PySem.F.slot_dict_setdefault G1.dd.typeIs PySem.F.entry_dict_setdefault (PySem.F.args_dict_setdefault_3 _ _ _) (PySem.kt_meets_setdefault (aJ X.prog X.w) a (lw (cI ek dk)) G1.sm (.ref b)) ⟨_,G1.dd,by rw[List.length_map];exact big (by omega),fun w' hw=>?_,fun hn h' dd' hsb=>?_⟩
 ·-- the key stands
  rw[EN] at hw
  obtain⟨t,et,rfl⟩:=Option.map_eq_some_iff.mp hw
  have ht:=List.mem_of_find?_eq_some et
  have hk1:t.1=k:=by simpa using List.find?_some et
  have any:g.any (fun t=>decide (t.1=k))=true:=List.any_eq_true.mpr ⟨t,ht,decide_eq_true hk1⟩
  have gt:=g1.1.tok (s1.toks+1)
  have G2:Grp z s1.heap a g:=G1
  obtain⟨hH,no,lt⟩:=G2.ls t ht
  obtain⟨its,n,e3,_⟩:=id lt
  refine⟨"list","list.append",PySem.F.plainAttrs_list,PySem.F.slot_list_append,PySem.F.type_list_append,⟨_,e3,rfl⟩,fun b' q=>by cases q;exact⟨_,e3,rfl⟩,?_⟩
  obtain⟨hs2,hp2⟩:=c2.ns e2 [] rfl
  rw[hs2]
  refine Calls.callWith_builtin (by show (false || false)=false;rfl) (Calls.evalArgs_plain (Calls.spliced_cons (az (hv z _ r2 E gt.1 er2) fun u3 s3 q3=>Calls.spliced_nil ?_)))
  have G3:Grp z s3.heap a g:=G2.ext gt.1 q3.1.2 fun _ _ o=>o
  refine az (ve q3.1.1 G3 ht hk1 (by have:=hls t ht;omega) (q3.2.fr ev)) fun v4 s4 ⟨ok4,st4,G4⟩=>⟨rfl,z.H,b,ok4,(g1.2.stp.trans q3.1.2.stp).trans st4,?_⟩
  rw[show tJ g k v b=oR g k v by unfold tJ oR;rw[if_pos any]]
  exact G4
 ·-- a new key
  rw[EN,Option.map_eq_none_iff] at hn
  have hnk:∀t∈g,t.1≠k:=fun t ht e=>by
   have:=List.find?_eq_none.mp hn t ht
   exact this (decide_eq_true e)
  have any:g.any (fun t=>decide (t.1=k))=false:=by
   rw[List.any_eq_false];intro t ht;simpa using hnk t ht
  have est:stored (g.map xw) k (.ref b)=(g++[(k,([]:List PV),b)]).map xw:=by
   unfold stored
   rw[if_neg (by rw[List.any_map,show ((fun kv:bP×Value=>decide (kv.1=k)) ∘ xw)=(fun t:At=>decide (t.1=k)) from rfl,any];exact Bool.false_ne_true),List.map_append];rfl
  rw[est] at dd'
  have he:∃q,h'.get? a=some q/\q.cls≠.type "tuple":=by
   obtain⟨q,es,ep,hq,hx,_⟩:=dd'
   exact⟨q,hq,by rw[hx.1];intro w;exact absurd (Value.type.inj w) (by decide)⟩
  have keep:∀c o,c≠a->s1.heap.get? c=some o->h'.get? c=some o:=fun c o hc e=>(hsb.2 c hc).trans e
  obtain⟨ok2,st2,kp2⟩:=g1.1.mutf G1.ha G1.na (tk:=s1.toks+1) keep he
  have hba:b≠a:=fun e=>by
   obtain⟨o,_,_,q,_⟩:=G.dd
   rw[←e,nb] at q;cases q
  obtain⟨itb,nbb,eb,zb,db⟩:=lb
  have eb':h'.get? b=some (cx itb nbb):=keep b _ hba eb
  have hHb:z.H b=none:=okb'.1
  have hHn:∀{c o},z.H c=some o->c≠b:=fun {c o} h e=>by rw[e,hHb] at h;cases h
  have noB:∀j,¬aD z.σ z.ρ j b:=hz.no_own nb
  have kp3:Kp z.cn (aF X z.bad (cg z.H b au)) s.heap h':=⟨rfl,rfl,rfl,fun c o q e=>⟨⟨by rw[ax (fun y=>by subst y;rw[nb] at e;cases e)];exact q.1,q.2⟩,keep c o (fun y=>by have q1:z.H c=none:=q.1;rw[y,G.ha] at q1;cases q1) (g1.2.kp c o q.2 e)⟩⟩
  have skk:∀(j:Nat) t v,z.ρ[j]?=some (some t)->z.σ[j]?=some (some v)->SlOk (aF X z.bad (cg z.H b au)) z.H h' t v:=fun j t v e1 e2=>by
   obtain⟨w,e3,_,d⟩:=hz.slk j t e1
   rw[e2] at e3;cases e3
   have na:=G.na j
   cases t with
   |val p=>exact fun u r=>(d u r).m kp3
   |own ps=>obtain⟨c,rfl,hc,l⟩:=d;exact⟨c,rfl,hc,l.mono kp3 fun o w=>keep c o (fun y=>na ⟨⟨_,e1,rfl⟩,by rw[e2,y]⟩) (g1.2.kp c o (hz.ot c _ hc).1 w)⟩
   |dic ks ps=>obtain⟨c,rfl,hc,l⟩:=d;exact⟨c,rfl,hc,l.mono kp3 fun o w=>keep c o (fun y=>na ⟨⟨_,e1,rfl⟩,by rw[e2,y]⟩) (g1.2.kp c o (hz.ot c _ hc).1 w)⟩
  have ok3:=ok2.track (a:=b) okb' (df hz nb) (fun p hp q=>by have:=(hz.I.pin p hp).1;rw[q,nb] at this;cases this) ⟨_,eb',by intro w;exact absurd (Value.type.inj w) (by decide)⟩ skk
  have G3:Grp (z.wi z.σ (cg z.H b au) z.ρ) h' a (g++[(k,[],b)]):=by
   refine⟨G.sm,(ax (hHn G.ha)).trans G.ha,G.na,dd',?_,?_,fun t ht=>?_⟩
   ·rw[List.map_append,List.nodup_append]
    refine⟨nk,by simp,fun x hx y hy=>?_⟩
    obtain⟨t,ht,rfl⟩:=List.mem_map.mp hx
    rw[show y=k by simpa using hy]
    exact hnk t ht
   ·have hnd:=G.nd
    rw[List.nodup_cons] at hnd ⊢
    rw[List.map_append]
    refine⟨fun h=>(List.mem_append.mp h).elim hnd.1 fun h=>hba (by have h:a∈[b]:=h;exact (List.mem_singleton.mp h).symm),?_⟩
    rw[List.nodup_append]
    refine⟨hnd.2,by simp,fun x hx y hy=>?_⟩
    obtain⟨t,ht,rfl⟩:=List.mem_map.mp hx
    rw[show y=b by simpa using hy]
    exact hHn (G.ls t ht).1
   ·rcases List.mem_append.mp ht with ht|ht
    ·obtain⟨h1,h2,h3⟩:=G.ls t ht
     refine⟨(ax (hHn h1)).trans h1,h2,h3.mono kp3 fun o w=>keep _ o (fun y=>?_) (g1.2.kp _ o (hz.ot _ _ h1).1 w)⟩
     have hnd:=G.nd
     rw[List.nodup_cons] at hnd
     exact hnd.1 (by rw[←y];exact List.mem_map_of_mem (f:=fun t:At=>t.2.2) ht)
    ·rw[List.mem_singleton] at ht
     subst ht
     have:itb=[]:=db
     subst this
     exact⟨aS,noB,[],nbb,eb',Nat.zero_le _,rfl⟩
  have st3:Stp z.bad z.H (cg z.H b au) s.heap h':=⟨fun c o n1 n2 e=>⟨keep c o (fun y=>by rw[y,G.ha] at n2;cases n2) (g1.2.kp c o n1 e),by rw[ax (fun y=>by subst y;rw[nb] at e;cases e)];exact n2⟩,fun c o e=>by
   obtain⟨o',e'⟩:=g1.2.th c o e
   exact st2.th c o' e'⟩
  have ht:(k,([]:List PV),b)∈g++[(k,[],b)]:=List.mem_append_right _ (List.mem_singleton.mpr rfl)
  refine⟨"list","list.append",PySem.F.plainAttrs_list,PySem.F.slot_list_append,PySem.F.type_list_append,⟨_,eb',rfl⟩,fun b' q=>by cases q;exact⟨_,eb',rfl⟩,?_⟩
  obtain⟨hs2,hp2⟩:=c2.ns e2 [] rfl
  rw[hs2]
  refine Calls.callWith_builtin (by show (false || false)=false;rfl) (Calls.evalArgs_plain (Calls.spliced_cons (az (hv (z.wi z.σ (cg z.H b au) z.ρ) _ r2 E ok3 er2) fun u3 s3 q3=>Calls.spliced_nil ?_)))
  have G4:Grp (z.wi z.σ (cg z.H b au) z.ρ) s3.heap a (g++[(k,[],b)]):=G3.ext ok3 q3.1.2 fun _ _ o=>o
  refine az (ve q3.1.1 G4 ht rfl (by show 0≤100000;omega) (q3.2.fr ev)) fun v4 s4 ⟨ok4,st4,G5⟩=>⟨rfl,cg z.H b au,b,ok4,(st3.trans q3.1.2.stp).trans st4,?_⟩
  rw[show tJ g k v b=oR (g++[(k,[],b)]) k v by
   unfold tJ oR
   rw[if_neg (by rw[any];exact Bool.false_ne_true),List.map_append]
   rw[show (g.map fun t=>if t.1=k then (t.1,t.2.1++[v],t.2.2) else t)=g from (List.map_congr_left fun t ht=>if_neg (hnk t ht)).trans (List.map_id g)]
   simp]
  exact G5
theorem sD {z:Z X}{s:Shared}(hz:z.ok s):∀l:List Addr,l.Nodup->(∀b∈l,z.H b=some au/\∀j,¬aD z.σ z.ρ j b)->∃H',(z.wi z.σ H' z.ρ).ok s/\Kp z.cn (aF X z.bad H') s.heap s.heap/\(∀b∈l,H' b=none)/\∀b,z.H b=none->H' b=none
 |[],_,_=>⟨z.H,hz,.refl,fun _ h=>(by cases h),fun _ h=>h⟩
 |a::l,n,h=>by
  rw[List.nodup_cons] at n
  obtain⟨h1,h2⟩:=h a List.mem_cons_self
  obtain⟨ok,kp⟩:=hz.letgo h1 h2
  obtain⟨H',ok',kp',f1,f2⟩:=sD ok l n.2 fun b hb=>by
   obtain⟨q1,q2⟩:=h b (List.mem_cons_of_mem _ hb)
   exact⟨(cD (fun e=>n.1 (by rw[←e];exact hb))).trans q1,q2⟩
  refine⟨H',ok',⟨rfl,rfl,rfl,fun b o q e=>kp'.kp b o (kp.kp b o q e).1 e⟩,fun b hb=>?_,fun b hb=>f2 b (dR hb)⟩
  rcases List.mem_cons.mp hb with rfl|hb
  ·exact f2 _ eU
  ·exact f1 b hb
noncomputable def HH (g:List Gr):PV:=.dct (g.map (·.1)) (g.map fun t=>.lst t.2)
theorem yP {z:Z X}{s:Shared}(hz:z.ok s){a:Addr}{g:List At}(G:Grp z s.heap a g)(hl:g.length≤1000):∃H',(z.wi z.σ H' z.ρ).ok s/\Stp z.bad z.H H' s.heap s.heap/\D (aF X z.bad H') s.heap (HH (g.map zt)) (.ref a):=by
 obtain⟨H',ok,kp,f1,f2⟩:=sD hz (a::g.map (·.2.2)) G.nd fun b hb=>by
  rcases List.mem_cons.mp hb with rfl|hb
  ·exact⟨G.ha,G.na⟩
  ·obtain⟨t,ht,rfl⟩:=List.mem_map.mp hb
   exact⟨(G.ls t ht).1,(G.ls t ht).2.1⟩
 refine⟨H',ok,⟨fun b o _ n e=>⟨e,f2 b n⟩,fun b o e=>⟨o,e⟩⟩,a,g.map xw,rfl,⟨f1 a List.mem_cons_self,(hz.ot a _ G.ha).1⟩,G.sm,G.dd,by rw[List.length_map];exact big (by omega),by rw[List.map_map,List.map_map];rfl,?_⟩
 have f3:∀t∈g,H' t.2.2=none:=fun t ht=>f1 _ (List.mem_cons_of_mem _ (List.mem_map_of_mem (f:=fun t:At=>t.2.2) ht))
 have ls:=G.ls
 clear G f1 hl
 induction g with
 |nil=>rfl
 |cons t g ih=>
  obtain⟨h1,h2,its,n,e,zl,ds⟩:=ls t List.mem_cons_self
  exact .cons ⟨t.2.2,its,n,rfl,⟨f3 t List.mem_cons_self,(hz.ot _ _ h1).1⟩,e,zl,ds.mono kp⟩ (ih (fun r hr=>f3 r (List.mem_cons_of_mem _ hr)) fun r hr=>ls r (List.mem_cons_of_mem _ hr))
noncomputable def C6:List (Nat×FE)->ak->Option ak
 |[],ρ=>some ρ
 |(i,f)::r,ρ=>((f ρ).bind RV.fr).bind fun p=>C6 r (ρ.set i (some (.val p)))
inductive Vs (X:Cx):List Stmt->List (Nat×FE)->Prop where
 |nil:Vs X [] []
 |cons {i:Nat} {x:Str} {e:Expr} {f:FE} {p pos:Pos} {r:List Stmt} {bd:List (Nat×FE)}:Nm X i x->NE X e f->swapsWith e (some (.Name x p)) pos.line X.env=pure false->Vs X r bd->Vs X (.Assign [.Name x p] e pos::r) ((i,f)::bd)
theorem DU {body eM:List Stmt}{bd:List (Nat×FE)}(h:Vs X body bd)(hd:bd.all (fun t=>t.1 != d)=true):∀{z:Z X} {s:Shared} {ρ':ak} {Q:Flow->Shared->Prop} {E:Value->Shared->Prop},z.ok s->C6 bd z.ρ=some ρ' →
  (∀σ' s',(z.wi σ' z.H ρ').ok s'->Ext z.bad s.heap s'.heap->σ'[d]?=z.σ[d]?->(∀j b,aD σ' ρ' j b->aD z.σ z.ρ j b)->W X (execs eM X.env) Q E s')->W X (execs (body++eM) X.env) Q E s:=by
 induction h with
 |nil=>intro z s ρ' Q E hz e k;cases e;exact k z.σ s hz .refl rfl fun _ _ o=>o
 | @cons i x e f p pos r bd nm he hs hr ih=>
  intro z s ρ' Q E hz eb k
  rw[List.all_cons,Bool.and_eq_true,bne_iff_ne] at hd
  obtain⟨q,eq,eb⟩:=Option.bind_eq_some_iff.mp eb
  obtain⟨r0,er,eq⟩:=Option.bind_eq_some_iff.mp eq
  refine wpAny_execs_cons (wpAny_Assign_Name (az (he z s r0 E hz er) fun u s1 q1=>az (kD q1.1.1 nm (q1.2.fr eq)) fun _ s2 ⟨v,_,ok2,x2⟩=>?_) hs)
  refine ih hd.2 ok2 eb fun σ' s' ok' x' hσ ho=>k σ' s' ok' (q1.1.2.trans (x2.trans x')) ?_ fun j b o=>fG (ho j b o)
  rw[hσ]
  exact List.getElem?_set_ne hd.1
noncomputable def kH (i:Nat)(bd:List (Nat×FE))(fk fv:FE):List PV->ak->List Gr->Option (ak×List Gr)
 |[],ρ,g=>some (ρ,g)
 |p::ps,ρ,g=>(C6 bd (ρ.set i (some (.val p)))).bind fun ρ2=>(((fk ρ2).bind RV.fr).bind eV).bind fun k=>((fv ρ2).bind RV.fr).bind fun v=>kH i bd fk fv ps ρ2 (mT g k v)
noncomputable def Bc (o:Option (ak×List Gr))(d:Nat):Out:=match o with
 |some (ρ,g)=>.nx (ρ.set d (some (.val (HH g))))
 |none=>.bad
noncomputable def wq (t:Option Sl)(its:Option (List PV))(d i:Nat)(bd:List (Nat×FE))(fk fv:FE)(ρ:ak):Out:=match t,its with
 |some (.dic [] []),some its=>if its.length≤1000 then Bc (kH i bd fk fv its (ρ.set d none) []) d else .bad
 |_,_=>.bad
noncomputable def xX (d i:Nat)(fi:FI)(bd:List (Nat×FE))(fk fv:FE):FS:=fun ρ=>wq (sl ρ d) (fi ρ) d i bd fk fv ρ
theorem Hh {iter e1 e2:Expr}{fi:FI}{body:List Stmt}{bd:List (Nat×FE)}{fk fv:FE}{py p1 p2 p3 p4 p5 p6 p7:Pos}(hc:X.calm=true)(hi:NI X true (.Name y py) iter fi)(nm:Nm X i y)(hid:i≠d)(hv0:Vs X body bd)(hbd:bd.all (fun t=>t.1 != d)=true)
  (hN:X.N[d]?=some x) (hvis:oo X.env.scope x) (hdd:(x==("__debug__" : Str))=false) (hcd:(x==("__classdict__" : Str))=false) (c1:Mc X (.Name x p1) "setdefault" p2 p4 [e1,.List [] p3])
  (c2:Mc X (.Call (.Attribute (.Name x p1) "setdefault" p2) [e1,.List [] p3] [] p4) "append" p5 p6 [e2]) (hs1:starEach [e1,.List [] p3] X.env=(false,eval e1 X.env)::starEach [.List [] p3] X.env) (hk:NE X e1 fk) (hv:NE X e2 fv)
  (hs:∀x,foldedSetIterable iter X.env x=pure x) :
  NS X (.For (.Name y py) iter (body++[.Expr (.Call (.Attribute (.Call (.Attribute (.Name x p1) "setdefault" p2) [e1,.List [] p3] [] p4) "append" p5) [e2] [] p6) p7]) [] pos) (xX d i fi bd fk fv):=fun z s E hz hn=>by
 unfold xX wq at hn ⊢
 split at hn
 ·next its ed ei=>
  split at hn
  ·next hlen=>
   rw[if_pos hlen]
   unfold Bc at hn ⊢
   split at hn
   ·next res ρF gF eF=>
    refine wpAny_For (az (hi z s its E hz ei) fun v s1 h1=>az h1 fun itv s2 h2=>?_) hs
    obtain⟨it,fp,pl,tn,e,hpl,_,T,g2,f2,st2⟩:=h2
    cases hpl rfl
    subst e
    have z2:(z.wb fp).ok s2:=hz.more g2 fun b hb=>⟨(f2 b hb).2,let ⟨o,e,_⟩:=T.obj _ _ _ st2 b hb;⟨o,e⟩⟩
    have stat:∀{σ H ρ s'},((z.wb fp).wi σ H ρ).ok s'->∀b∈fp,fU X z.pins H b/\(z.wb fp).bad b:=fun {σ H ρ s'} ok b hb=>⟨⟨by
     cases q:H b with
     |none=>rfl
     |some o=>exact absurd (Or.inr hb) (ok.ot b o q).1,(f2 b hb).1.2⟩,.inr hb⟩
    obtain⟨a,oa,hH,b',e1',_,kus,sm,dd,kl,kk,dps⟩:=Z.ok.owned z2 ed rfl
    cases e1'
    have:kus=[]:=List.map_eq_nil_iff.mp kk
    subst this
    obtain⟨ok2,no2⟩:=z2.hide oa
    have G2:Grp ((z.wb fp).wi z.σ z.H (z.ρ.set d none)) s2.heap a []:=⟨sm,hH,no2,dd,List.nodup_nil,by simp,fun _ h=>(by cases h)⟩
    refine codeAny_forLoop_any (fun n s'=>∃m σ' H' ρ' g,n=its.length - m/\m≤its.length/\((z.wb fp).wi σ' H' ρ').ok s'/\Stp (z.wb fp).bad z.H H' s2.heap s'.heap/\tn m (aF X (z.wb fp).bad H') s'.heap/\Grp ((z.wb fp).wi σ' H' ρ') s'.heap a g/\σ'[d]?=some (some (.ref a))/\g.length≤m/\(∀t∈g,t.2.1.length≤m)/\kH i bd fk fv (its.drop m) ρ' (g.map zt)=some (ρF,gF)) ?_ its.length ⟨0,z.σ,z.H,z.ρ.set d none,[],rfl,Nat.zero_le _,ok2,Ext.refl.stp,st2,G2,oa.2,Nat.le_refl _,fun _ h=>(by cases h),eF⟩
    rintro n s3 ⟨m,σ3,H3,ρ3,g,rfl,hi3,ok3,t3,st3,G3,hd3,hg3,hl3,eo⟩
    by_cases hlt:m<its.length
    ·rw[List.drop_eq_getElem_cons hlt,kH] at eo
     obtain⟨ρ4,e4,eo⟩:=Option.bind_eq_some_iff.mp eo
     obtain⟨k,ek,eo⟩:=Option.bind_eq_some_iff.mp eo
     obtain⟨w,ew,eo⟩:=Option.bind_eq_some_iff.mp eo
     refine az (T.item X rfl rfl hc ((z.wb fp).wi σ3 H3 ρ3) s3 _ m its[m] ok3 (stat ok3) (fun b q=>nomatch q) st3 (List.getElem?_eq_getElem hlt)) fun r s4 ⟨u,hr,h4⟩=>?_
     subst hr
     refine az h4 fun _ s5 ⟨g5,d5,st5⟩=>?_
     have ok5:=pinned g5.1 (fun b hb=>(stat g5.1 b hb).1) (T.obj _ _ _ st5)
     refine wpAny_assign_Name (az (kD ok5 nm d5) fun _ s6 ⟨v6,_,ok6,x6⟩=>?_)
     refine DU hv0 hbd ok6 e4 fun σ7 s7 ok7 x7 hσ7 ho7=>?_
     have hσ:σ7[d]?=some (some (.ref a)):=by
      rw[hσ7]
      exact (List.getElem?_set_ne hid).trans hd3
     have hext:Ext (z.wb fp).bad s3.heap s7.heap:=g5.2.trans (x6.trans x7)
     have G7:Grp ((((z.wb fp).wi σ3 H3 ρ3).wp (iE fp s5.heap)).wi σ7 H3 ρ4) s7.heap a g:=by
      have q:=G3.ext ok3 (σ':=σ7) (ρ':=ρ4) hext fun j b o=>fG (ho7 j b o)
      exact⟨q.sm,q.ha,q.na,q.dd,q.nk,q.nd,q.ls⟩
     refine wpAny_execs_cons (az (Ac hN hvis hdd hcd c1 c2 hs1 hk hv ok7 G7 hσ (by omega) (fun t ht=>by have:=hl3 t ht;omega) ek ew) fun fl s8 ⟨efl,H8,b8,ok8,t8,G8⟩=>?_)
     subst efl
     refine wpAny_execs_nil ?_
     refine⟨its.length - (m+1),by omega,m+1,σ7,H8,ρ4,_,rfl,hlt,unpinned (z:=(z.wb fp).wi σ3 H3 ρ3) ok8,t3.trans (hext.stp.trans t8),?_,⟨G8.sm,G8.ha,G8.na,G8.dd,G8.nk,G8.nd,G8.ls⟩,hσ,?_,?_,?_⟩
     ·exact T.keep _ _ _ _ _ st5 ((x6.trans x7).stp.trans t8).kpD fun b hb=>hb.elim (fun hb=>mI (z:=(z.wb fp).wi σ3 H3 ρ3) ok8 b hb) fun q=>nomatch q
     ·have:=A3 (g.map zt) k w
      rw[←tE (b:=b8),List.length_map,List.length_map] at this
      omega
     ·intro t ht
      have:=wO (g:=g.map zt) (k:=k) (v:=w) (m:=m) (fun t ht=>by obtain⟨r,hr,rfl⟩:=List.mem_map.mp ht;exact hl3 r hr)
      rw[←tE (b:=b8)] at this
      exact this (zt t) (List.mem_map_of_mem ht)
     ·rw[tE];exact eo
    ·rw[List.drop_eq_nil_of_le (by omega),kH] at eo
     refine az (T.done X rfl rfl hc ((z.wb fp).wi σ3 H3 ρ3) s3 _ m ok3 (stat ok3) (fun b q=>nomatch q) st3 (by omega)) fun r s4 ⟨hr,I4,k4⟩=>?_
     subst hr
     refine wpAny_execs_nil ?_
     have ok4:(z.wi σ3 H3 ρ3).ok s4:=hz.less (fun b hb=>(f2 b hb).2) ok3 I4 k4
     have kp4:Kp (aF X (z.wb fp).bad H3) (aF X z.bad H3) s3.heap s4.heap:=⟨rfl,rfl,rfl,fun a o q g=>⟨⟨q.1,fun y=>q.2 (.inl y)⟩,k4 a o (fun y=>q.2 (.inr y)) g⟩⟩
     have G4:Grp (z.wi σ3 H3 ρ3) s4.heap a g:=⟨G3.sm,G3.ha,G3.na,(by obtain⟨o,es,ep,q,r⟩:=G3.dd;exact⟨o,es,ep,k4 a o (fun y=>(ok3.ot a _ G3.ha).1 (.inr y)) q,r⟩),G3.nk,G3.nd,fun t ht=>let ⟨h1,h2,h3⟩:=G3.ls t ht;⟨h1,h2,h3.mono kp4 fun o=>k4 _ o fun y=>(ok3.ot _ _ h1).1 (.inr y)⟩⟩
     obtain⟨H5,ok5,t5,d5⟩:=yP ok4 G4 (by omega)
     have ok6:=Z.ok.tell ok5 (v:=.ref a) (p:=HH (g.map zt)) hd3 ⟨.ref a,rfl⟩ fun u r=>by rw[show u=.ref a from r];exact d5
     obtain⟨rfl,rfl⟩:ρ3=ρF/\g.map zt=gF:=by have:=Option.some.inj eo;exact⟨congrArg Prod.fst this,congrArg Prod.snd this⟩
     exact⟨rfl,σ3,H5,ok6,(t3.less g2.2 (fun b hb=>(f2 b hb).2) k4).trans t5⟩
   ·exact absurd rfl hn
  ·exact absurd rfl hn
 ·exact absurd rfl hn
end
end Dp
end
section
namespace Dp
open PySem PySem.Spec L2 PyProof.Rows
section
variable {X:Cx}{i j:Nat}{x y:Str}{pos:Pos}
noncomputable def u4:FX:=fun _=>some (.dic [] [])
theorem qZ {z:Z X}{s:Shared}(hz:z.ok s):∃z',Got z z' s { s with heap:=s.heap.push { cls:=.type "dict",data:=.dict #[] } } (.dic [] []) (.ref s.heap.objs.size):=by
 refine vY hz (hz.push _ s.toks) rfl (Heap.get?_none_of_le (Nat.le_refl _)) ⟨_,Heap.get?_push_size _ rfl,by intro w;exact absurd (Value.type.inj w) (by decide)⟩ ⟨_,rfl,aS,[],beq_eq_false_iff_ne.mpr (Ne.symm (Nat.ne_of_lt hz.I.big)),Heap.DictOf.new s.heap,Nat.zero_le _,rfl,rfl⟩
theorem Fz:NX X (.Dict [] [] pos) u4:=fun z s t E hz q=>by
 cases q;exact wpAny_Dict_empty (qZ hz)
noncomputable def wr (k v:Option PV):Option Sl:=match k,v with
 |some k,some v=>(eV k).map fun k=>.dic [k] [v]
 |_,_=>none
noncomputable def vB (f g:FE):FX:=fun ρ=>wr ((f ρ).bind RV.fr) ((g ρ).bind RV.fr)
theorem Fd {k v:Expr}{f g:FE}(hk:NE X k f)(hv:NE X v g):NX X (.Dict [some k] [v] pos) (vB f g):=fun z s t E hz q=>by
 unfold vB wr at q
 split at q
 ·next p q' ep eq=>
  obtain⟨kk,ek,rfl⟩:=Option.map_eq_some_iff.mp q
  obtain⟨r1,er1,ep⟩:=Option.bind_eq_some_iff.mp ep
  obtain⟨r2,er2,eq⟩:=Option.bind_eq_some_iff.mp eq
  obtain⟨⟨bad1,pins1,σ1,H1,ρ1⟩,G1⟩:=qZ hz
  obtain⟨e1,e2,e3,e4,ok1,st1,old1,kp1,g1⟩:=G1
  cases (show bad1=z.bad from e1)
  cases (show pins1=z.pins from e2)
  cases (show σ1=z.σ from e3)
  cases (show ρ1=z.ρ from e4)
  rcases g1 with ⟨h,_⟩|⟨_,a,ea,na,hH,h00,dA⟩
  ·cases h
  cases ea
  obtain⟨b,eb,_,kus,sm,dd0,_,_,_⟩:=dA
  cases eb
  refine wpAny_Dict_walk (knd:=aJ X.prog X.w) rfl rfl (by simp) (by simp) (pairTrees_cons_walk (az (hk ⟨z.bad,z.pins,z.σ,H1,z.ρ⟩ _ r1 E ok1 er1) fun u1 s1 p1=>az (hv ⟨z.bad,z.pins,z.σ,H1,z.ρ⟩ s1 r2 E p1.1.1 er2) fun u2 s2 p2=>pairTrees_nil_walk ?_))
  have go:=p1.1.trans p2.1
  have dk:=(p1.2.ext p2.1.2).fr ep
  have dv:=p2.2.fr eq
  have nb:¬z.bad s.heap.objs.size:=(ok1.ot _ _ hH).1
  have hd:s2.heap.DictOf (aJ X.prog X.w) s.heap.objs.size []:=by
   obtain⟨o,es,ep,q,r⟩:=Heap.DictOf.new (knd:=aJ X.prog X.w) s.heap
   exact⟨o,es,ep,go.2.kp _ o nb q,r⟩
  refine⟨[(kk,u2)],⟨lw (cI ek dk),rfl,trivial⟩,hd,fun h' dd' hs=>?_⟩
  have keep:∀b o,b≠s.heap.objs.size->s2.heap.get? b=some o->h'.get? b=some o:=fun b o hb e=>(hs.2 b hb).trans e
  obtain⟨q,es,ep',hq,hx,_⟩:=id dd'
  obtain⟨ok3,st3,kp3⟩:=go.1.mutf (a:=s.heap.objs.size) hH (fun j o=>hz.no_own (Heap.get?_none_of_le (Nat.le_refl _)) j o) (tk:=s2.toks+[(u1,u2)].length) keep ⟨q,hq,by rw[hx.1];intro w;exact absurd (Value.type.inj w) (by decide)⟩
  refine⟨⟨z.bad,z.pins,z.σ,H1,z.ρ⟩,rfl,rfl,rfl,rfl,ok3,(st1.trans go.2.stp).trans st3,old1,fun b o n e=>?_,.inr ⟨rfl,_,rfl,Heap.get?_none_of_le (Nat.le_refl _),hH,h00,_,rfl,hH,_,sm,dd',big (by show 1≤100000;omega),rfl,.one (dv.m kp3)⟩⟩
  exact keep b o (Nat.ne_of_lt (Heap.lt_size e)) (go.2.kp b o n (kp1 b o n e))
 ·cases q
noncomputable def pF (ks:List bP)(k:bP):List bP:=if ks.any (fun j=>decide (j=k)) then ks else ks++[k]
noncomputable def zy:List bP->List PV->bP->PV->List PV
 |j::ks,p::ps,k,v=>(if j=k then v else p)::zy ks ps k v
 |_,_,_,_=>[]
noncomputable def pH (ks:List bP)(ps:List PV)(k:bP)(v:PV):List PV:=if ks.any (fun j=>decide (j=k)) then zy ks ps k v else ps++[v]
theorem u6 {c:Cn}{h:Heap}{k:bP}{v:PV}{u:Value}(d:D c h v u):∀{kus:List (bP×Value)} {ps:List PV},Ds c h ps (kus.map (·.2))->Ds c h (zy (kus.map (·.1)) ps k v) ((kus.map fun kv=>if kv.1=k then (kv.1,u) else kv).map (·.2))
 |[],ps,_=>by simp[zy,Ds]
 |(j,w)::kus,ps,e=>by
  cases ps with
  |nil=>cases (show w::kus.map (·.2)=[] from e)
  |cons p ps=>
   obtain⟨u',r,e,d1,d2⟩:=e
   cases e
   show Ds c h ((if j=k then v else p)::zy _ ps k v) ((if j=k then (j,u) else (j,w)).2::_)
   refine .cons ?_ (u6 d d2)
   split
   ·exact d
   ·exact d1
theorem Eb {c:Cn}{h:Heap}{k:bP}{v:PV}{u:Value}(d:D c h v u){kus:List (bP×Value)}{ps:List PV}(e:Ds c h ps (kus.map (·.2))):(stored kus k u).map (·.1)=pF (kus.map (·.1)) k/\Ds c h (pH (kus.map (·.1)) ps k v) ((stored kus k u).map (·.2))/\(stored kus k u).length≤kus.length+1:=by
 have ea:(kus.map (·.1)).any (fun j=>decide (j=k))=kus.any fun kv=>decide (kv.1=k):=by rw[List.any_map];rfl
 unfold stored pF pH
 rw[ea]
 split
 ·refine⟨?_,u6 d e,by rw[List.length_map];omega⟩
  rw[List.map_map]
  refine List.map_congr_left fun t _=>?_
  show (if t.1=k then (t.1,u) else t).1=t.1
  split<;>rfl
 ·exact⟨by rw[List.map_append];rfl,by rw[List.map_append];exact e.app (.one d),by simp⟩
theorem yn {z:Z X}{s:Shared}(hz:z.ok s){ks:List bP}{ps:List PV}(e:sl z.ρ i=some (.dic ks ps)){a:Addr}(o:z.σ[i]?=some (some (.ref a))):aD z.σ z.ρ i a/\z.H a=some au/\DictAt z.cn s.heap a ks ps:=by
 obtain⟨b,o1,h,_,e2,_,l⟩:=Z.ok.owned hz e rfl
 cases e2
 have:=o1.2
 rw[o] at this;cases this
 exact⟨o1,h,l⟩
theorem Bg {z:Z X}{s:Shared}(hz:z.ok s){a:Addr}(o:aD z.σ z.ρ i a){ks:List bP}{ps:List PV}{k:bP}{kv:Value}{v:PV}{u:Value}(hH:z.H a=some au)(l:DictAt z.cn s.heap a ks ps)(hl:ks.length≤100000)(rk:e9 (kV k) kv)(d:D z.cn s.heap v u){E:Value->Shared->Prop} :
  W X (setItem (.ref a) kv u) (fun _ s'=>(z.wi z.σ z.H (z.ρ.set i (some (.dic (pF ks k) (pH ks ps k v))))).ok s'/\Stp z.bad z.H z.H s.heap s'.heap) E s:=by
 obtain⟨kus,sm,dd,zl,ek,ds⟩:=l
 have hkl:kus.length≤100000:=by rw[←ek,List.length_map] at hl;exact hl
 refine wpAny_setItem_pairs (hsz:=zl) (lw rk) dd fun h' dd' hs=>?_
 obtain⟨q,es,ep',hq,hx,_⟩:=id dd'
 refine Z.ok.mut hz o (fun b u hb hu=>(hs.2 b hb).trans hu) (t:=.dic (pF ks k) (pH ks ps k v)) rfl ⟨q,hq,by rw[hx.1];intro w;exact absurd (Value.type.inj w) (by decide)⟩ fun c ec kp=>?_
 subst ec
 obtain⟨h1,h2,h3⟩:=Eb (k:=k) d ds
 rw[ek] at h1 h2
 exact⟨a,rfl,hH,_,sm,dd',Nat.le_trans h3 (F3 hkl),h1,h2.mono kp⟩
noncomputable def vb (v:Option PV)(o:Option Sl)(k:Option PV)(j:Nat)(ρ:ak):Out:=match v,o,k with
 |some v,some (.dic ks ps),some k=>match eV k with
  |some k=>if ks.length≤100000 then .nx (ρ.set j (some (.dic (pF ks k) (pH ks ps k v)))) else .bad
  |none=>.bad
 |_,_,_=>.bad
noncomputable def ut (j:Nat)(fi f:FE):FS:=fun ρ=>vb ((f ρ).bind RV.fr) (sl ρ j) ((fi ρ).bind RV.fr) j ρ
theorem Fp {ix o:Expr}{fi f:FE}{p:Pos}{tpos:Pos}(hN:X.N[j]?=some x)(hv:oo X.env.scope x)(hd:(x==("__debug__" : Str))=false)(hcd:(x==("__classdict__" : Str))=false)(hi:NE X ix fi)(h:NE X o f)
  (hs:swapsWithSole [.Subscript (.Name x p) ix tpos] o pos.line X.env=pure false) (hw:swappedStores [.Subscript (.Name x p) ix tpos] o X.env=pure none)
  (h1:(assignEach [.Subscript (.Name x p) ix tpos] X.env).map (·.2)=[assign (.Subscript (.Name x p) ix tpos) X.env])
  (ha:∀v,assign (.Subscript (.Name x p) ix tpos) X.env v=(do
   let ov ←holding [v] (eval (.Name x p) X.env)
   let iv ←holding [v,ov] (eval ix X.env)
   standAt tpos
   holding [v,ov,iv] (setItem ov iv v)
   release [v,ov,iv] [])):NS X (.Assign [.Subscript (.Name x p) ix tpos] o pos) (ut j fi f):=fun z s E hz hb=>by
 unfold ut vb at hb ⊢
 split at hb
 ·next v ks ps k ev es ek=>
  split at hb
  ·next kk ekk=>
   split at hb
   ·next hl=>
    rw[if_pos hl]
    obtain⟨r,er,ev⟩:=Option.bind_eq_some_iff.mp ev
    obtain⟨rk,erk,ek⟩:=Option.bind_eq_some_iff.mp ek
    refine wpAny_Assign_stores (az (h z s r E hz er) fun u s1 q=>?_) hs hw
    rw[h1]
    show W X (assign _ X.env u) _ E s1
    rw[ha]
    obtain⟨a,o1,_,_⟩:=Z.ok.owned hz es rfl
    refine wpAny_bind (wpAny_holding (ju q.1.1 o1.2 hN hv hd hcd ?_))
    refine wpAny_bind (wpAny_holding (az (hi z s1 rk E q.1.1 erk) fun iv s2 q2=>?_))
    have dk:=q2.2.fr ek
    obtain⟨o2,hH,l⟩:=yn q2.1.1 es o1.2
    refine wpAny_bind (wpAny_standAt (wpAny_bind (wpAny_holding (az (Bg q2.1.1 o2 hH l hl (cI ekk dk) ((q.2.fr ev).m q2.1.2.kpD)) fun _ s3 w=>?_))))
    exact wpAny_release ⟨rfl,z.σ,z.H,w.1,(q.1.2.trans q2.1.2).stp.trans w.2⟩
   ·exact absurd rfl hb
  ·exact absurd rfl hb
 ·exact absurd rfl hb
end
section
variable {P:Program}{w:World}{tg:Expr}{h h':Heap}
noncomputable def DF:bP->PV
 |.inl i=>.int i
 |.inr x=>.str x
theorem Iu {c:Cn}{k:bP}{u:Value}(e:(aJ P w).is k u=true):D c h (DF k) u:=by
 cases k with
 |inl i=>
  have e:Value.isInt i u=true:=e
  cases u<;>simp[Value.isInt] at e
  subst e;exact⟨_,rfl⟩
 |inr x=>
  have e:k5 (.inr x) u=true:=e
  cases u<;>simp[k5,Value.isStrOf] at e
  subst e;exact⟨_,rfl⟩
theorem CD {a it:Addr}{ps:List PV}{ep:Nat}{kus:List (bP×Value)}:Trn P w tg it [it] [] ps (fun i c h=>h.IsValIter it a i kus.length ep/\h.DictAt (aJ P w) a kus ep/\Ds c h ps (kus.map (·.2))/\c.ok a/\c.P=P/\c.w=w) where
 obj:=fun i c h st b hb=>by
  have e:b=it:=by simpa using hb
  subst e
  obtain⟨⟨o,e,_,d⟩,_⟩:=st
  exact⟨o,e,fun v z=>by rw[d] at z;cases z⟩
 keep:=fun i c c' h h' st k kk=>by
  obtain⟨st,⟨o,es,g,r⟩,ds,ok,e1,e2⟩:=st
  exact⟨st.at fun o e=>kk it (.inl (by simp)) o e,⟨o,es,(k.kp a _ ok g).2,r⟩,ds.mono k,(k.kp a _ ok g).1,by rw[k.P,e1],by rw[k.w,e2]⟩
 item:=fun X hP hw hc z s E i p hz hf hp st hx=>by
  subst hP hw
  obtain⟨st,da,ds,ok,e1,e2⟩:=st
  obtain⟨u,hu,du⟩:=ds.get hx
  rw[List.getElem?_map] at hu
  obtain⟨⟨k,u'⟩,hku,rfl⟩:=Option.map_eq_some_iff.mp hu
  refine wpAny_pyNext_values_item st da hku fun h' st' sb=>?_
  have go:=hz.turn (t:=s.toks) (h':=h') hf (fun b o hb e=>(sb.2 b (by simpa using hb)).trans e) fun b hb=>by
   rw[show b=it by simpa using hb];exact⟨_,st'.choose_spec.1⟩
  have kp:Kp z.cn z.cn s.heap h':=go.2.kpD
  obtain⟨o,e,c,d⟩:=id st'
  obtain⟨o2,es,g2,r2⟩:=da
  exact⟨u',rfl,lg (s:={ s with heap:=h' }) e c d (by decide) ⟨go,du.m kp,st',⟨o2,es,(kp.kp a _ ok g2).2,r2⟩,ds.mono kp,ok,e1,e2⟩⟩
 done:=fun X hP hw hc z s E i hz hf hp st hx=>by
  subst hP hw
  obtain⟨st,da,ds,ok,e1,e2⟩:=st
  have hl:=ds.length
  rw[List.length_map] at hl
  obtain⟨f,bd⟩:=hf it (by simp)
  exact wpAny_pyNext_values_end (hz.I.ok.hd hc) st da (List.getElem?_eq_none (by omega)) fun h' eb=>⟨rfl,hz.I.turned (t':=s.toks) (fun b o hb e=>eb b o hb e) f.1 f.2.1 f.2.2.2.1 f.2.2.2.2.1 f.2.2.2.2.2,fun b o hb e=>eb b o (by simpa using hb) e⟩
 self:=fun A i c s Q E st q=>wpAny_pyIter_valiter st.1 q
theorem Bx {a it:Addr}{ep:Nat}{kus:List (bP×Value)}:Trn P w tg it [it] [] (kus.map fun kv=>DF kv.1) (fun i c h=>h.IsKeyIter it a i kus.length ep/\h.DictAt (aJ P w) a kus ep/\c.ok a) where
 obj:=fun i c h st b hb=>by
  have e:b=it:=by simpa using hb
  subst e
  obtain⟨⟨o,e,_,d⟩,_⟩:=st
  exact⟨o,e,fun v z=>by rw[d] at z;cases z⟩
 keep:=fun i c c' h h' st k kk=>by
  obtain⟨st,⟨o,es,g,r⟩,ok⟩:=st
  exact⟨st.at fun o e=>kk it (.inl (by simp)) o e,⟨o,es,(k.kp a _ ok g).2,r⟩,(k.kp a _ ok g).1⟩
 item:=fun X hP hw hc z s E i p hz hf hp st hx=>by
  subst hP hw
  obtain⟨st,da,ok⟩:=st
  rw[List.getElem?_map] at hx
  obtain⟨⟨k,u'⟩,hku,rfl⟩:=Option.map_eq_some_iff.mp hx
  refine wpAny_pyNext_dict_item st da hku fun key h' hk st' sb=>?_
  have go:=hz.turn (t:=s.toks) (h':=h') hf (fun b o hb e=>(sb.2 b (by simpa using hb)).trans e) fun b hb=>by
   rw[show b=it by simpa using hb];exact⟨_,st'.choose_spec.1⟩
  have kp:Kp z.cn z.cn s.heap h':=go.2.kpD
  obtain⟨o,e,c,d⟩:=id st'
  obtain⟨o2,es,g2,r2⟩:=da
  exact⟨key,rfl,lg (s:={ s with heap:=h' }) e c d (by decide) ⟨go,Iu hk,st',⟨o2,es,(kp.kp a _ ok g2).2,r2⟩,ok⟩⟩
 done:=fun X hP hw hc z s E i hz hf hp st hx=>by
  subst hP hw
  obtain⟨st,da,ok⟩:=st
  rw[List.length_map] at hx
  obtain⟨f,bd⟩:=hf it (by simp)
  exact wpAny_pyNext_dict_end (hz.I.ok.hd hc) st da (List.getElem?_eq_none (by omega)) fun h' eb=>⟨rfl,hz.I.turned (t':=s.toks) (fun b o hb e=>eb b o hb e) f.1 f.2.1 f.2.2.2.1 f.2.2.2.2.1 f.2.2.2.2.2,fun b o hb e=>eb b o (by simpa using hb) e⟩
 self:=fun A i c s Q E st q=>wpAny_pyIter_keyiter st.1 q
end
section
variable {X:Cx}{tg o:Expr}{f:FE}{apos cpos:Pos}
noncomputable def l7:PV->Option (List PV)
 |.dct _ ps=>some ps
 |_=>none
noncomputable def l6:PV->Option (List PV)
 |.dct ks _=>some (ks.map DF)
 |_=>none
noncomputable def yH (f:FE):FI:=fun ρ=>(f ρ).bind fun r=>r.fr.bind l7
noncomputable def vy (f:FE):FI:=fun ρ=>(f ρ).bind fun r=>r.fr.bind l6
theorem vC {P:Program}{w:World}{h:Heap}{d:Addr}{vs:List (bP×Value)}(x:h.DictOf (aJ P w) d vs):∃ep,h.DictAt (aJ P w) d vs ep:=by
 obtain⟨o,es,ep,h1,h2,h3,h4⟩:=x
 exact⟨ep,o,es,h1,h2,h3,h4⟩
theorem Ea (h:NE X o f):NI X true tg o (vy f):=fun z s its E hz q=>by
 obtain⟨r,e1,q⟩:=Option.bind_eq_some_iff.mp q
 obtain⟨p,e2,q⟩:=Option.bind_eq_some_iff.mp q
 refine az (h z s r E hz e1) fun v s1 q1=>?_
 have d:=q1.2.fr e2
 unfold l6 at q
 split at q
 ·next ks ps=>
  cases q
  obtain⟨a,kus,rfl,ok,sm,dd,zl,rfl,ds⟩:=d
  obtain⟨ep,da⟩:=vC dd
  rw[List.map_map]
  have g2:∀o:Obj,z.go s { s1 with heap:=s1.heap.push o }:=fun o=>q1.1.trans (q1.1.1.push o s1.toks)
  have kk:∀o:Obj,Kp z.cn (aF X (fun b=>z.bad b\/b∈[s1.heap.objs.size]) z.H) s1.heap (s1.heap.push o):=fun o=>rj q1.1.1 (fun b o e=>Heap.get?_push_of_some _ e) (cT (P:=fun b=>s1.heap.objs.size≤b) (Nat.le_refl _))
  refine wpAny_pyIter_dict sm da ⟨s1.heap.objs.size,[s1.heap.objs.size],[],_,rfl,fun _=>rfl,fun b q=>(nomatch q),Bx (a:=a) (kus:=kus) (ep:=ep),g2 _,cT (q1.1.1.fp q1.1.2 (Nat.le_refl _)),⟨_,Heap.get?_push_size _ rfl,rfl,rfl⟩,?_,?_⟩
  ·obtain⟨o2,es,g,r⟩:=da
   exact⟨o2,es,Heap.get?_push_of_some _ g,r⟩
  ·obtain⟨o2,es,g,r⟩:=da
   exact ((kk { cls:=.type "list" }).kp a o2 ok g).1
 ·cases q
theorem Fy (h:NE X o f)(hbase:attributeBase o "values" X.env (eval o X.env)=eval o X.env:=by rfl)(hline:(apos.endLine==cpos.line)=true:=by rfl):NI X true tg (.Call (.Attribute o "values" apos) [] [] cpos) (yH f):=fun z s its E hz q=>by
 obtain⟨r,e1,q⟩:=Option.bind_eq_some_iff.mp q
 obtain⟨p,e2,q⟩:=Option.bind_eq_some_iff.mp q
 refine wpAny_Call_method0_late hbase hline (az (h z s r E hz e1) fun v s1 q1=>?_)
 have d:=q1.2.fr e2
 unfold l7 at q
 split at q
 ·next ks ps=>
  cases q
  obtain⟨a,kus,rfl,ok,sm,dd,zl,ek,ds⟩:=d
  obtain⟨ob,_,_,hob,hx,_⟩:=id dd
  refine⟨"dict","dict.values",PySem.F.plainAttrs_dict,PySem.F.slot_dict_values,PySem.F.type_dict_values,dd.typeIs,fun b e=>by cases e;exact⟨ob,hob,hx.2.1⟩,Calls.callWith_builtin rfl (PySem.evalArgs_none (call_meetsIn PySem.F.slot_dict_values dd.typeIs PySem.F.entry_dict_values (PySem.F.args_dict_values_1 _) (meets_dict_values (aJ X.prog X.w) a sm) ⟨⟨kus,dd⟩,?_⟩))⟩
  have g1:=q1.1.trans (q1.1.1.push { cls:=.type "dict_values",data:=.fields #[.ref a] } s1.toks)
  have dd1:(s1.heap.push { cls:=.type "dict_values",data:=.fields #[.ref a] }).DictOf (aJ X.prog X.w) a kus:=by
   obtain⟨o2,es,ep,g,r⟩:=dd;exact⟨o2,es,ep,Heap.get?_push_of_some _ g,r⟩
  have ds1:=ds.mono (q1.1.1.push { cls:=.type "dict_values",data:=.fields #[.ref a] } s1.toks).2.kpD
  obtain⟨ep,da⟩:=vC dd1
  refine wpAny_pyIter_values (knd:=aJ X.prog X.w) (d:=a) (kvs:=kus) (ep:=ep) ⟨_,Heap.get?_push_size _ rfl,rfl,rfl⟩ da ?_
  have kk:∀o:Obj,Kp z.cn (aF X (fun b=>z.bad b\/b∈[(s1.heap.push { cls:=.type "dict_values",data:=.fields #[.ref a] }).objs.size]) z.H) (s1.heap.push { cls:=.type "dict_values",data:=.fields #[.ref a] }) ((s1.heap.push { cls:=.type "dict_values",data:=.fields #[.ref a] }).push o):=
   fun o=>rj (s1:={ s1 with heap:=s1.heap.push { cls:=.type "dict_values",data:=.fields #[.ref a] } }) g1.1 (fun b o e=>Heap.get?_push_of_some _ e) (cT (P:=fun b=>_≤b) (Nat.le_refl _))
  refine⟨_,[_],[],_,rfl,fun _=>rfl,fun b q=>(nomatch q),CD (a:=a) (kus:=kus) (ep:=ep),g1.trans (g1.1.push _ _),cT (g1.1.fp g1.2 (Nat.le_refl _)),⟨_,Heap.get?_push_size _ rfl,rfl,rfl⟩,?_,ds1.mono (kk _),?_,rfl,rfl⟩
  ·obtain⟨o2,es,g,r⟩:=da
   exact⟨o2,es,Heap.get?_push_of_some _ g,r⟩
  ·obtain⟨o2,es,g,r⟩:=da
   exact ((kk { cls:=.type "dict_values",data:=.fields #[.ref a] }).kp a o2 ok g).1
 ·cases q
end
end Dp
end
section
namespace Dp
open PySem PySem.Spec L2 PyProof.Rows
noncomputable def Hk.or (a b:Hk):Hk where
 e:=fun G rE rB L e=>(a.e G rE rB L e).orElse fun _=>b.e G rE rB L e
 i:=fun G L f tg it=>(a.i G L f tg it).orElse fun _=>b.i G L f tg it
 b:=fun G rE rB L e=>(a.b G rE rB L e).orElse fun _=>b.b G rE rB L e
 s:=fun G rE rB rS L s=>(a.s G rE rB rS L s).orElse fun _=>b.s G rE rB rS L s
theorem IV {α:Type}{a b:Option α}{r:α}(h:(a.orElse fun _=>b)=some r):a=some r\/b=some r:=by
 cases a with
 |none=>exact .inr h
 |some=>exact .inl h
theorem Dx {a b:Hk}(ha:HkOk a)(hb:HkOk b):HkOk (a.or b):=
 ⟨fun o h1 h2 e f h=>(IV h).elim (ha.e o h1 h2 e f) (hb.e o h1 h2 e f),fun o h1 tg it f h=>(IV h).elim (ha.i o h1 tg it f) (hb.i o h1 tg it f),fun o h1 h2 e f h=>(IV h).elim (ha.b o h1 h2 e f) (hb.b o h1 h2 e f),fun o h1 h2 h3 s f h=>(IV h).elim (ha.s o h1 h2 h3 s f) (hb.s o h1 h2 h3 s f)⟩
noncomputable def vX (f:Expr->FE):Expr->FX
 |.Dict [] [] _=>u4
 |.Dict [some k] [v] _=>vB (f k) (f v)
 |e=>xE (f e)
noncomputable def EZ:Expr->Bool
 |.Dict _ _ _=>true
 |_=>false
section
variable {X:Cx}{k:Nat}{G:Gd}{L:Lc}{x:Str}{i:Nat}{pos:Pos}
theorem zD {f:Expr->FE}(h:∀e,NE X e (f e))(e:Expr):NX X e (vX f e):=by
 unfold vX
 split
 ·exact Fz
 ·exact Fd (h _) (h _)
 ·exact IF (h _)
end
noncomputable def yd (G:Gd)(rE:Lc->Expr->FE)(rB:Lc->Expr->FB)(rS:Lc->Stmt->FS)(L:Lc)(st:Stmt):Option FS:=
 match st with
  |.Assign [.Tuple [.Name x px,.Name y py] kt pt] (.Tuple [a,b] k2 pt2) pos=>
   if (L.own.contains x || L.own.contains y || L.dic.contains x || L.dic.contains y)&&(Ha a || Ha b || EZ a || EZ b) then match Gm L [.Name x px,.Name y py] [a,b],ck L x,ck L y with
    |some (some l),some i,some j=>if l==[x,y]&&jr a&&jr b&&i != j then some (va i j (vX (rE L) a) (vX (rE L) b)) else none
    |_,_,_=>none
   else none
  |.Assign [.Name x p] v pos=>if EZ v then match ck L x with
    |some i=>some (ri i (vX (rE L) v))
    |none=>none
   else none
  |_=>none
noncomputable def hkNew:Hk where
 s:=yd
theorem yG:HkOk hkNew where
 e:=fun _ _ _ _ _ h=>by cases h
 i:=fun _ _ _ _ _ h=>by cases h
 b:=fun _ _ _ _ _ h=>by cases h
 s:=fun {X k G L rE rB rS} o hE hB hS st f h=>by
  replace h:yd G rE rB rS L st=some f:=h
  unfold yd at h
  split at h
  ·next x px y py kt pt a b k2 pt2 pos=>
   split at h
   ·split at h
    ·next l i j hw hi hj=>
     split at h
     ·next z=>
      cases h
      rw[Bool.and_eq_true,Bool.and_eq_true,Bool.and_eq_true,beq_iff_eq,bne_iff_ne] at z
      obtain⟨⟨⟨z0,z1⟩,z2⟩,z3⟩:=z
      rw[z0] at hw
      have s2:starEach [b] X.env=[(false,eval b X.env)]:=cG z2 [] X.env
      exact Fm o.calm (eP o hi) (eP o hj) z3 (zD (hE o) a) (zD (hE o) b) (by rw[cG z1 [b] X.env,s2]) (ue o hw) (by cases a<;>rfl)
     ·cases h
    ·cases h
   ·cases h
  ·next x p v pos=>
   split at h
   ·next z=>
    split at h
    ·next i hi=>
     cases h
     cases v<;>first|(cases z;done)|skip
     exact FQ (eP o hi) (zD (hE o) _) rfl
    ·cases h
   ·cases h
  ·cases h
noncomputable def yv (G:Gd)(L:Lc)(f:Expr->FE)(tg it:Expr):Option FI:=
 match it with
  |.Name x p=>if L.dic.contains x then some (vy (f (.Name x p))) else none
  |.Call (.Attribute (.Name x p) m ap) [] [] cp=>if m = "values"&&ap.endLine==cp.line then some (yH (f (.Name x p))) else none
  |_=>none
noncomputable def A0 (G:Gd)(rE:Lc->Expr->FE)(rB:Lc->Expr->FB)(rS:Lc->Stmt->FS)(L:Lc)(st:Stmt):Option FS:=
 match st with
  |.Assign [.Subscript (.Name x p) ix tp] v pos=>if L.dic.contains x&&dL ix&&!Cv v then match slot L x with
    |some i=>some (ut i (rE L ix) (rE L v))
    |none=>none
   else none
  |_=>none
noncomputable def Dk:Hk where
 i:=yv
 s:=A0
theorem AS:HkOk Dk where
 e:=fun _ _ _ _ _ h=>by cases h
 i:=fun {X k G L f} o hf tg it g h=>by
  replace h:yv G L f tg it=some g:=h
  unfold yv at h
  split at h
  ·split at h
   ·cases h;exact Ea (hf _)
   ·cases h
  ·split at h
   ·next z=>
    cases h
    rw[Bool.and_eq_true,decide_eq_true_eq] at z
    obtain⟨rfl,z⟩:=z
    exact Fy (hf _) rfl z
   ·cases h
  ·cases h
 b:=fun _ _ _ _ _ h=>by cases h
 s:=fun {X k G L rE rB rS} o hE hB hS st f h=>by
  replace h:A0 G rE rB rS L st=some f:=h
  unfold A0 at h
  split at h
  ·next x p ix tp v pos=>
   split at h
   ·next z=>
    rw[Bool.and_eq_true,Bool.and_eq_true] at z
    split at h
    ·next i hi=>
     cases h
     obtain⟨h1,h2,h3⟩:=mM o hi
     exact Fp h1 h2 (aN h3).1 (aN h3).2.1 (hE o _) (hE o _) (by cases v<;>rfl) rfl rfl (wB z.1.2)
    ·cases h
   ·cases h
  ·cases h
noncomputable def I8 (L:Lc)(f:Expr->FE):List Stmt->Option (List (Nat×FE))
 |[]=>some []
 |.Assign [.Name x p] e pos::r=>match ck L x with
  |some i=>if Cr L e x p then none else (I8 L f r).map ((i,f e)::·)
  |none=>none
 |_=>none
noncomputable def IZ (L:Lc)(f:Expr->FE)(it:FI)(i:Nat)(init:List Stmt)(bn:Stmt):Option FS:=match bn with
 |.Expr (.Call (.Attribute (.Call (.Attribute (.Name d p1) m1 p2) [e1,.List [] p3] [] p4) m2 p5) [e2] [] p6) p7=>
  if m1 = "setdefault"&&m2 = "append"&&p2.endLine==p4.line&&p5.endLine==p6.line&&jr e1&&jr e2 then match slot L d with
   |some j=>match I8 L f init with
    |some bd=>if i != j&&bd.all (fun t=>t.1 != j) then some (xX j i it bd (f e1) (f e2)) else none
    |none=>none
   |none=>none
  else none
 |_=>none
noncomputable def yt (G:Gd)(rE:Lc->Expr->FE)(rB:Lc->Expr->FB)(rS:Lc->Stmt->FS)(L:Lc)(st:Stmt):Option FS:=
 match st with
  |.For (.Name y py) it body [] pos=>match body.getLast? with
   |some bn=>match ck L y with
    |some i=>if AJ it then match it with
     |.Call (.Name r p) [a] [] p'=>if r = "range"&&glob L "range"&&G.bi.contains "range"&&jr a then IZ L (rE L) (jD kr (vA (rE L) [a])) i body.dropLast bn else none
     |it=>IZ L (rE L) (lF (rE L it)) i body.dropLast bn
     else none
    |none=>none
   |none=>none
  |_=>none
section
variable {X:Cx}{k:Nat}{G:Gd}{L:Lc}{x:Str}{i:Nat}{pos:Pos}
theorem Al (o:Ok0 X k G L){f:Expr->FE}(hf:∀e,NE X e (f e)):∀{body:List Stmt} {bd:List (Nat×FE)},I8 L f body=some bd->Vs X body bd
 |[],bd,h=>by cases h;exact .nil
 |s::r,bd,h=>by
  unfold I8 at h
  split at h
  ·next h'=>cases h'
  ·next x p e pos r' h'=>
   cases h'
   split at h
   ·next i hi=>
    split at h
    ·cases h
    ·next hs=>
     obtain⟨b,eb,rfl⟩:=Option.map_eq_some_iff.mp h
     exact .cons (eP o hi) (hf _) ((xB o (v:=e) (t:=x) (p:=p) (ln:=pos.line)).trans (by rw[show Cr L e x p=false by simpa using hs])) (Al o hf eb)
   ·cases h
  ·cases h
theorem An (o:Ok0 X k G L){f:Expr->FE}(hf:∀e,NE X e (f e)){y:Str}{py:Pos}{it:Expr}{fi:FI}{init:List Stmt}{bn:Stmt}{g:FS}(hy:ck L y=some i)(hi:NI X true (.Name y py) it fi)(hs:AJ it=true)(h:IZ L f fi i init bn=some g):NS X (.For (.Name y py) it (init++[bn]) [] pos) g:=by
 unfold IZ at h
 split at h
 ·next d p1 m1 p2 e1 p3 p4 m2 p5 e2 p6 p7=>
  split at h
  ·next z=>
   rw[Bool.and_eq_true,Bool.and_eq_true,Bool.and_eq_true,Bool.and_eq_true,Bool.and_eq_true,decide_eq_true_eq,decide_eq_true_eq] at z
   obtain⟨⟨⟨⟨⟨rfl,rfl⟩,z1⟩,z2⟩,z3⟩,z4⟩:=z
   split at h
   ·next j hj=>
    split at h
    ·next bd hb=>
     split at h
     ·next zz=>
      cases h
      rw[Bool.and_eq_true,bne_iff_ne] at zz
      obtain⟨h1,h2,h3⟩:=mM o hj
      exact Hh o.calm hi (eP o hy) zz.1 (Al o hf hb) zz.2 h1 h2 (aN h3).1 (aN h3).2.1
       (zJ z1 (by rw[List.all_cons,z3];rfl) (by show 2<21;decide)) ⟨rfl,z2,by rw[qE (by rw[List.all_cons,z4];rfl)];rfl,fun e r he=>by
        cases he;exact⟨cG z4 [] X.env,rfl⟩⟩ (cG z3 _ X.env) (hf _) (hf _) (by intro y;cases it<;>first|rfl|(cases hs))
     ·cases h
    ·cases h
   ·cases h
  ·cases h
 ·cases h
end
noncomputable def CW:Hk where
 s:=yt
theorem Ae:HkOk CW where
 e:=fun _ _ _ _ _ h=>by cases h
 i:=fun _ _ _ _ _ h=>by cases h
 b:=fun _ _ _ _ _ h=>by cases h
 s:=fun {X k G L rE rB rS} o hE hB hS st f h=>by
  replace h:yt G rE rB rS L st=some f:=h
  unfold yt at h
  split at h
  ·next y py it body pos=>
   split at h
   ·next bn hl=>
    have eb:body=body.dropLast++[bn]:=by
     obtain⟨r,e⟩:=List.getLast?_eq_some_iff.mp hl
     rw[e,List.dropLast_concat]
    rw[eb]
    split at h
    ·next i hi=>
     split at h
     ·next hs=>
      split at h
      ·next r p a p'=>
       split at h
       ·next z=>
        rw[Bool.and_eq_true,Bool.and_eq_true,Bool.and_eq_true,decide_eq_true_eq] at z
        obtain⟨⟨⟨rfl,z2⟩,z3⟩,z4⟩:=z
        obtain⟨hg,hd⟩:=sd o z2
        exact An o (hE o) hi (yR hg (o.g.bi _ z3) (kM (hE o) [a]) (cG z4 [] X.env)) hs h
       ·cases h
      ·exact An o (hE o) hi (q9 (hE o _)) hs h
     ·cases h
    ·cases h
   ·cases h
  ·cases h
end Dp
end
section
namespace Dp
open PySem PySem.Spec L2 PyProof.Rows
section
variable {X:Cx}{e:Expr}{f:FE}{i:Nat}{x:Str}{pos:Pos}
noncomputable def EI:PV->Option Bool
 |.lst ps=>some (!ps.isEmpty)
 |_=>none
noncomputable def K3 (f:FE):FB:=fun ρ=>(f ρ).bind fun r=>EI r.pv
noncomputable def zc (o:Option Sl)(v:Option PV)(i:Nat)(ρ:ak):Out:=match o,v with
 |some (.own ps),some (.lst qs)=>if ps.length+qs.length≤100000 then .nx (ρ.set i (some (.own (ps++qs)))) else .bad
 |_,_=>.bad
noncomputable def GW (i:Nat)(f:FE):FS:=fun ρ=>zc (sl ρ i) ((f ρ).bind RV.fr) i ρ
noncomputable def Ex:List PV->Option RV
 |[.dct ks _]=>some (.nw (ks.map DF))
 |_=>none
noncomputable def Ap (o:Option (List PV))(i j k:Nat)(ρ:ak):Out:=match o with
 |some [p,q,r]=>.nx (((ρ.set k (some (.val r))).set j (some (.val q))).set i (some (.val p)))
 |_=>.bad
noncomputable def HP (i j k:Nat)(fs:FA):FS:=fun ρ=>Ap ((fs ρ).bind fun rs=>rs.mapM RV.fr) i j k ρ
end
end Dp
end
section
namespace Dp
open PySem L2 Fo
section
variable {i j d:Nat}{ρ:ak}{g g1 g2:FX}{f f1 fk fv fi':FE}{s t:Sl}{p v k:PV}{ps its:List PV}{ks:List bP}{bd:List (Nat×FE)}{fi:FI}{gr:List Gr}
noncomputable def Db (o:Option Sl)(i:Nat)(ρ:ak):Out:=match o with
 |some t=>.nx (ρ.set i (some t))
 |none=>.bad
theorem nW:ri i g ρ=Db (g ρ) i ρ:=Eq.trans rfl rfl
theorem ip:Db (some t) i ρ=.nx (ρ.set i (some t)):=Eq.trans rfl rfl
theorem mx:va i j g1 g2 ρ=uj (g1 ρ) (g2 ρ) i j ρ:=Eq.trans rfl rfl
theorem iH:uj (some s) (some t) i j ρ=.nx ((ρ.set i (some s)).set j (some t)):=Eq.trans rfl rfl
theorem yh:xE f ρ=(f ρ).bind yc:=Eq.trans rfl rfl
theorem iD:yc (.fz p)=some (.val p):=Eq.trans rfl rfl
theorem iu:yc (.nw ps)=some (.own ps):=Eq.trans rfl rfl
theorem j6:u4 ρ=some (.dic [] []):=Eq.trans rfl rfl
theorem jS:vB f f1 ρ=wr ((f ρ).bind RV.fr) ((f1 ρ).bind RV.fr):=Eq.trans rfl rfl
theorem iN:wr (some k) (some v)=(eV k).map fun k=>.dic [k] [v]:=Eq.trans rfl rfl
theorem rR:xX d i fi bd fk fv ρ=wq (sl ρ d) (fi ρ) d i bd fk fv ρ:=Eq.trans rfl rfl
theorem nG:wq (some (.dic [] [])) (some its) d i bd fk fv ρ=if its.length≤1000 then Bc (kH i bd fk fv its (ρ.set d none) []) d else .bad:=Eq.trans rfl rfl
theorem nq:Bc (some (ρ,gr)) d=.nx (ρ.set d (some (.val (HH gr)))):=Eq.trans rfl rfl
theorem rD:C6 [] ρ=some ρ:=Eq.trans rfl rfl
theorem si:C6 ((i,f)::bd) ρ=((f ρ).bind RV.fr).bind fun p=>C6 bd (ρ.set i (some (.val p))):=Eq.trans rfl rfl
theorem sH:kH i bd fk fv [] ρ gr=some (ρ,gr):=Eq.trans rfl rfl
theorem o8:kH i bd fk fv (p::ps) ρ gr=(C6 bd (ρ.set i (some (.val p)))).bind fun ρ2=>(((fk ρ2).bind RV.fr).bind eV).bind fun k=>((fv ρ2).bind RV.fr).bind fun v=>kH i bd fk fv ps ρ2 (mT gr k v):=Eq.trans rfl rfl
theorem oj:yH f ρ=(f ρ).bind fun r=>r.fr.bind l7:=Eq.trans rfl rfl
theorem ia:l7 (.dct ks ps)=some ps:=Eq.trans rfl rfl
theorem nV:vy f ρ=(f ρ).bind fun r=>r.fr.bind l6:=Eq.trans rfl rfl
theorem ir:l6 (.dct ks ps)=some (ks.map DF):=Eq.trans rfl rfl
theorem qQ:HH gr=.dct (gr.map (·.1)) (gr.map fun t=>.lst t.2):=Eq.trans rfl rfl
theorem m7:ut j fi' f ρ=vb ((f ρ).bind RV.fr) (sl ρ j) ((fi' ρ).bind RV.fr) j ρ:=Eq.trans rfl rfl
theorem ii {a:Int}:vb (some v) (some (.dic ks ps)) (some (.int a)) j ρ=if ks.length≤100000 then .nx (ρ.set j (some (.dic (pF ks (.inl a)) (pH ks ps (.inl a) v)))) else .bad:=Eq.trans rfl rfl
theorem iJ:qx (.dic ks ps)=.ln (.dct ks ps):=Eq.trans rfl rfl
theorem jI {a:Int}:aM (.dct ks ps) (.int a)=(lM ks ps (.inl a)).map .fz:=Eq.trans rfl rfl
theorem kn {a:Int}:sX (.int a) (.dct ks ps)=some (.fz (.bl (lM ks ps (.inl a)).isSome)):=Eq.trans rfl rfl
theorem iw {a:Int}:kE (.int a) (.dct ks ps)=some (.fz (.bl (!(lM ks ps (.inl a)).isSome))):=Eq.trans rfl rfl
theorem Au:K3 f ρ=(f ρ).bind fun r=>EI r.pv:=Eq.trans rfl rfl
theorem mh:EI (.lst ps)=some (!ps.isEmpty):=Eq.trans rfl rfl
theorem j2 {k:Int}:sK (.own ps) [.int k]=if 0≤k/\k<100000 then (ps[k.toNat]?).map fun p=>(.own (ps.eraseIdx k.toNat),p) else none:=Eq.trans rfl rfl
theorem jJ:Ex [.dct ks ps]=some (.nw (ks.map DF)):=Eq.trans rfl rfl
theorem mF:GW i f ρ=zc (sl ρ i) ((f ρ).bind RV.fr) i ρ:=Eq.trans rfl rfl
theorem iO {qs:List PV}:zc (some (.own ps)) (some (.lst qs)) i ρ=if ps.length+qs.length≤100000 then .nx (ρ.set i (some (.own (ps++qs)))) else .bad:=Eq.trans rfl rfl
theorem jT:frz 0 (some (.dic ks ps)::ρ)=some (.val (.dct ks ps))::ρ:=Eq.trans rfl rfl
theorem mW {k:Nat}{fs:FA}:HP i j k fs ρ=Ap ((fs ρ).bind fun rs=>rs.mapM RV.fr) i j k ρ:=Eq.trans rfl rfl
theorem iq {p q r:PV}{k:Nat}:Ap (some [p,q,r]) i j k ρ=.nx (((ρ.set k (some (.val r))).set j (some (.val q))).set i (some (.val p))):=Eq.trans rfl rfl
end
end Dp
end
section
namespace Dp
open PySem PySem.Spec L2 PyProof.Rows
section
variable {X:Cx}
noncomputable def Hv:List PV->Option RV
 |[p]=>(items p).bind fun ps=>(cu ps).bind fun is=>if is.length=0 then none else some (.fz (.int (lL is)))
 |_=>none
noncomputable def Jf:PV->Option (Int×Int)
 |.tup (.int a::.int b::_)=>some (a,b)
 |_=>none
noncomputable def yX:List PV->Option (List (Int×Int))
 |[]=>some []
 |p::ps=>(Jf p).bind fun k=>(yX ps).map fun ks=>k::ks
noncomputable def Kk (ks:List (Int×Int))(i j:Nat):Bool:=if (ks.getD i (0,0)).1=(ks.getD j (0,0)).1 then decide ((ks.getD i (0,0)).2<(ks.getD j (0,0)).2) else decide ((ks.getD i (0,0)).1<(ks.getD j (0,0)).1)
noncomputable def GH:List PV->Option RV
 |[p]=>(hW p).bind fun ps=>(yX ps).bind fun ks=>if 0<ks.length/\(ks.map (·.2)).Nodup then some (.fz (ps.getD (argBest (Kk ks) (ks.length - 1)) .non)) else none
 |_=>none
noncomputable def yi:List PV->Option PV->Option RV
 |[p],some d=>(items p).bind fun ps=>(cu ps).bind fun is=>some (.fz (if is.length=0 then d else .int (lL is)))
 |_,_=>none
noncomputable def GC (fs:FA)(g:FE):FE:=fun ρ=>(fs ρ).bind fun rs=>(g ρ).bind fun r2=>yi (rs.map RV.pv) r2.fr
end
end Dp
end
section
namespace Dp
open PySem L2 Fo
section
variable {ρ:ak}{g:FE}{fs:FA}{p d:PV}
theorem nA:GC fs g ρ=(fs ρ).bind fun rs=>(g ρ).bind fun r2=>yi (rs.map RV.pv) r2.fr:=Eq.trans rfl rfl
theorem jP:yi [p] (some d)=(items p).bind fun ps=>(cu ps).bind fun is=>some (.fz (if is.length=0 then d else .int (lL is))):=Eq.trans rfl rfl
theorem jN:Hv [p]=(items p).bind fun ps=>(cu ps).bind fun is=>if is.length=0 then none else some (.fz (.int (lL is))):=Eq.trans rfl rfl
theorem jH:GH [p]=(hW p).bind fun ps=>(yX ps).bind fun ks=>if 0<ks.length/\(ks.map (·.2)).Nodup then some (.fz (ps.getD (argBest (Kk ks) (ks.length - 1)) .non)) else none:=Eq.trans rfl rfl
end
end Dp
end
section
namespace Dp
open PySem L2
noncomputable def gD (ρ:ak):Out:=(aO (ig (fB qO (aa (fV 0) (aa (fC (.ty "int")) ag))) (pX (v0 (fB qO (aa (fV 0) (aa (fC (.ty "bool")) ag))))))) ρ
noncomputable def di:List PV->Option PR:=run 1 1 gD
theorem qf {a0:PV}:di [a0]=(gD [some (.val a0)]).res:=Eq.trans rfl rfl
noncomputable def ij (ρ:ak):Out:=(aO (ig (ao di (aa (fV 0) ag)) (pX (C4 F5 F5 (fC (.int 1)) (fV 0) (fC (.int 40)))))) ρ
noncomputable def gm:List PV->Option PR:=run 1 1 ij
theorem sy {a0:PV}:gm [a0]=(ij [some (.val a0)]).res:=Eq.trans rfl rfl
noncomputable def gZ (ρ:ak):Out:=(aO (ig (ao di (aa (fV 1) ag)) (pX (C4 F5 Gp (fC (.int 0)) (fV 1) (fV 0))))) ρ
noncomputable def aU:List PV->Option PR:=run 2 2 gZ
theorem qj {a0 a1:PV}:aU [a0,a1]=(gZ [some (.val a0),some (.val a1)]).res:=Eq.trans rfl rfl
noncomputable def b5 (ρ:ak):Out:=(aj (aA 3 (ai aY (ai bO (ai bO (ai fy (fV 3) (ai bO (ai aY (fV 3) (fC (.int 65521))) (fC (.int 40487)))) (ai fy (fC (.int 7)) (fV 5))) (fC (.int 5))) (fC (.int 1999999973))))
  (aj (qN jC 2 (aa (ai aM (e8 (aa (fV 3) (aa (ai aY (fV 4) (fC (.int 1000000))) ag))) (fB sI (aa (ai Bz (fV 4) (fC (.int 0))) ag))) ag))
  (aA 4 (ai iG (fV 4) (fC (.int 1000000)))))) ρ
noncomputable def bI (ρ:ak):Out:=(aj (gK 2 (e8 ag))
  (aj (aA 3 (ai aY (ai fy (ai bO (ai aY (fV 0) (fC (.int 1999999973))) (fC (.int 31))) (fC (.int 765432101))) (fC (.int 1999999973))))
  (aj (aA 4 (fC (.int 0)))
  (aj (gc (lK (fT (ai Gp (fV 0) (fC (.int 0)))) (fT (ai IR (fV 0) (ai D7 (fC (.int 10)) (fC (.int 18)))))) (aA 4 (fB xH (aa (fV 0) ag))) aH)
  (aj (iz (jD kr (aa (fV 1) ag)) (gN 5) b5)
  (g8 2)))))) ρ
noncomputable def aR:List PV->Option PR:=run 2 6 bI
theorem dr {a0 a1:PV}:aR [a0,a1]=(bI [some (.val a0),some (.val a1),none,none,none,none]).res:=Eq.trans rfl rfl
noncomputable def c4 (ρ:ak):Out:=(aA 2 (ai aY (ai bO (ai fy (fV 2) (fC (.int 69621))) (fV 3)) (fC (.int 2147483647)))) ρ
noncomputable def dO (ρ:ak):Out:=(aj (gc (fT (ai Gp (fV 1) (fB dW (aa (fV 0) ag)))) (aO (ai aM (fV 0) (fV 1))) aH)
  (aj (aA 2 (ai aY (ai fy (fC (.int 48271)) (ai bO (ai bO (ai fy (fV 1) (fV 1)) (ai fy (fC (.int 7)) (fV 1))) (fC (.int 11)))) (fC (.int 2147483647))))
  (aj (iz (lF (A5 (fV 0) xU (yw (fC (.int 3))))) (gN 3) c4)
  (g8 2)))) ρ
noncomputable def bC:List PV->Option PR:=run 2 4 dO
theorem jb {a0 a1:PV}:bC [a0,a1]=(dO [some (.val a0),some (.val a1),none,none]).res:=Eq.trans rfl rfl
noncomputable def bV (ρ:ak):Out:=(aj (aA 7 (A5 (ao aR (aa (ao bC (aa (fV 0) (aa (ai bO (ai bO (fV 1) (fC (.int 1))) (ai iG (fV 6) (fC (.int 5)))) ag))) (aa (fC (.int 20)) ag))) (yw (ai fy (fC (.int 4)) (ai aY (fV 6) (fC (.int 5))))) xU))
  (aj (oF 8 9 (aa (ai aY (ai aM (fV 7) (fC (.int 0))) (fV 2)) (aa (ai aY (ai aM (fV 7) (fC (.int 1))) (fV 2)) ag)))
  (aj (gc (fT (ai i4 (ai aY (ai aM (fV 4) (fC (.int 1))) (fC (.int 4))) (fC (.int 1)))) (oF 8 9 (aa (ai aY (fV 6) (fV 2)) (aa (ai aY (ai bO (fV 6) (fC (.int 1))) (fV 2)) ag))) aH)
  (aj (gc (eI (fT (ai i4 (ai aY (ai aM (fV 4) (fC (.int 1))) (fC (.int 4))) (fC (.int 2)))) (fT (ai Bz (ai aY (ai aM (fV 7) (fC (.int 2))) (fC (.int 3))) (fC (.int 0))))) (aj (aA 8 (ai aY (ai fy (ai iG (fV 8) (fC (.int 2))) (fC (.int 2))) (fV 2)))
  (aA 9 (fB nP (aa (ai rT (fV 2) (fC (.int 1))) (aa (ai bO (fV 8) (fC (.int 1))) ag))))) aH)
  (aj (gc (eI (fT (ai i6 (fV 5) (e8 ag))) (fT (ai i4 (ai aY (ai aM (fV 7) (fC (.int 2))) (fC (.int 7))) (fC (.int 1))))) (dQ (ai aM (fV 5) (ai aY (ai aM (fV 7) (fC (.int 3))) (fB dW (aa (fV 5) ag)))) (hV 2 (gC (gN 8) (gC (gN 9) g0)))) aH)
  (qN jC 5 (aa (ai aM (e8 (aa (bE (aa (fV 8) (aa (fV 9) ag))) (aa (bE (aa (fV 9) (aa (fV 8) ag))) ag))) (ai aY (ai iG (ai aM (fV 7) (fC (.int 2))) (fC (.int 7))) (fC (.int 2)))) ag))))))) ρ
noncomputable def eX (ρ:ak):Out:=(aj (aA 4 (ao aR (aa (ao bC (aa (fV 0) (aa (fV 1) ag))) (aa (fC (.int 4)) ag))))
  (aj (gK 5 (e8 ag))
  (aj (iz (jD kr (aa (ai aY (ai aM (fV 4) (fC (.int 0))) (ai bO (fV 3) (fC (.int 1)))) ag)) (gN 6) bV)
  (aO (fB kA (aa (fV 5) ag)))))) ρ
noncomputable def eO:List PV->Option PR:=run 4 10 eX
theorem mK {a0 a1 a2 a3:PV}:eO [a0,a1,a2,a3]=(eX [some (.val a0),some (.val a1),some (.val a2),some (.val a3),none,none,none,none,none,none]).res:=Eq.trans rfl rfl
noncomputable def bc (ρ:ak):Out:=(aj (aA 8 (ao aR (aa (ao bC (aa (fV 0) (aa (ai bO (ai bO (fV 1) (fC (.int 20))) (ai iG (fV 5) (fC (.int 10)))) ag))) (aa (fC (.int 10)) ag))))
  (qN jC 4 (aa (ai aM (e8 (aa (bE (aa (fC (.str "join")) (aa (fV 6) (aa (fV 7) ag)))) (aa (bE (aa (fC (.str "join")) (aa (fV 6) (aa (fV 7) ag)))) (aa (bE (aa (fC (.str "find")) (aa (fV 6) ag))) ag)))) (ai aY (ai aM (fV 8) (ai aY (fV 5) (fC (.int 10)))) (fC (.int 3)))) ag))) ρ
noncomputable def fq (ρ:ak):Out:=(aj (gK 4 (e8 ag))
  (aj (iz (mJ (aa (ao eO (aa (fV 0) (aa (fV 1) (aa (fV 2) (aa (fV 3) ag))))) ag)) (hV 2 (gC (gN 5) (gC (hV 2 (gC (gN 6) (gC (gN 7) g0))) g0))) bc)
  (aO (fB kA (aa (fV 4) ag))))) ρ
noncomputable def cQ:List PV->Option PR:=run 4 9 fq
theorem og {a0 a1 a2 a3:PV}:cQ [a0,a1,a2,a3]=(fq [some (.val a0),some (.val a1),some (.val a2),some (.val a3),none,none,none,none,none]).res:=Eq.trans rfl rfl
noncomputable def dE (ρ:ak):Out:=(aO (ai aM (e8 (aa (ai bO (fC (.int 1)) (ai aY (ai iG (fV 0) (fC (.int 8))) (fC (.int 12)))) (aa (ai bO (fC (.int 1)) (ai aY (ai iG (fV 0) (fC (.int 8))) (fC (.int 40)))) ag))) (fB sI (aa (ai i4 (ai aY (fV 0) (fC (.int 8))) (fC (.int 3))) ag)))) ρ
noncomputable def fN:List PV->Option PR:=run 1 1 dE
theorem i8 {a0:PV}:fN [a0]=(dE [some (.val a0)]).res:=Eq.trans rfl rfl
noncomputable def ce (ρ:ak):Option Bool:=(fT (ai i6 (ai aM (fV 0) (fV 2)) (fV 2))) ρ
noncomputable def c5 (ρ:ak):Out:=(aj (aA 2 (ai aM (fV 0) (fV 2)))
  (lR (fun a b=>a+b) 3 (fC (.int 1)))) ρ
noncomputable def fO (ρ:ak):Out:=(aj (aA 2 (fV 1))
  (aj (aA 3 (fC (.int 0)))
  (aj (cR ce c5)
  (aO (bE (aa (fV 2) (aa (fV 3) ag))))))) ρ
noncomputable def cb:List PV->Option PR:=run 2 4 fO
theorem oz {a0 a1:PV}:cb [a0,a1]=(fO [some (.val a0),some (.val a1),none,none]).res:=Eq.trans rfl rfl
noncomputable def bU (ρ:ak):Option Bool:=(fT (ai i6 (ai aM (fV 0) (fV 2)) (fV 2))) ρ
noncomputable def cB (ρ:ak):Out:=(aj (aA 2 (ai aM (fV 0) (fV 2)))
  (lR (fun a b=>a+b) 3 (fC (.int 1)))) ρ
noncomputable def ft (ρ:ak):Out:=(aj (aA 2 (fV 1))
  (aj (aA 3 (fC (.int 0)))
  (aj (cR bU cB)
  (aO (bE (aa (fV 2) (aa (fV 3) ag))))))) ρ
noncomputable def eJ:j9:=oB 2 4 ft
noncomputable def lI (ρ:ak):Option Bool:=(fT (ai i6 (fV 4) (fV 2))) ρ
noncomputable def lJ (ρ:ak):Out:=(aj (aA 5 (ai aM (fV 0) (fV 4)))
  (aj (j7 0 (fV 4) (fV 2))
  (aA 4 (fV 5)))) ρ
noncomputable def mB (ρ:ak):Out:=(aj (dQ (ao cb (aa (fV 0) (aa (fV 1) ag))) (hV 2 (gC (gN 2) (gC (gN 3) g0))))
  (aj (aA 4 (fV 1))
  (aj (cR lI lJ)
  (aO (bE (aa (fV 2) (aa (fV 3) ag))))))) ρ
noncomputable def qC:List PV->Option PR:=run 2 6 mB
noncomputable def bL (ρ:ak):Option Bool:=(fT (ai i6 (fV 4) (fV 2))) ρ
noncomputable def ci (ρ:ak):Out:=(aj (aA 5 (ai aM (fV 0) (fV 4)))
  (aj (j7 0 (fV 4) (fV 2))
  (aA 4 (fV 5)))) ρ
noncomputable def eA (ρ:ak):Out:=(aj (dQ (ao cb (aa (fV 0) (aa (fV 1) ag))) (hV 2 (gC (gN 2) (gC (gN 3) g0))))
  (aj (aA 4 (fV 1))
  (aj (cR bL ci)
  (aO (bE (aa (fV 2) (aa (fV 3) ag))))))) ρ
noncomputable def dD:j9:=oB 2 6 eA
noncomputable def kN (ρ:ak):Option Bool:=(fT (ai i6 (ai aM (fV 0) (fV 2)) (fV 2))) ρ
noncomputable def kS (ρ:ak):Out:=(aj (j7 0 (fV 2) (ai aM (fV 0) (ai aM (fV 0) (fV 2))))
  (aj (aA 2 (ai aM (fV 0) (fV 2)))
  (lR (fun a b=>a+b) 3 (fC (.int 1))))) ρ
noncomputable def lQ (ρ:ak):Out:=(aj (aA 2 (fV 1))
  (aj (aA 3 (fC (.int 0)))
  (aj (cR kN kS)
  (aO (bE (aa (fV 2) (aa (fV 3) ag))))))) ρ
noncomputable def oq:List PV->Option PR:=run 2 4 lQ
noncomputable def bz (ρ:ak):Option Bool:=(fT (ai i6 (ai aM (fV 0) (fV 2)) (fV 2))) ρ
noncomputable def bY (ρ:ak):Out:=(aj (j7 0 (fV 2) (ai aM (fV 0) (ai aM (fV 0) (fV 2))))
  (aj (aA 2 (ai aM (fV 0) (fV 2)))
  (lR (fun a b=>a+b) 3 (fC (.int 1))))) ρ
noncomputable def dz (ρ:ak):Out:=(aj (aA 2 (fV 1))
  (aj (aA 3 (fC (.int 0)))
  (aj (cR bz bY)
  (aO (bE (aa (fV 2) (aa (fV 3) ag))))))) ρ
noncomputable def cP:j9:=oB 2 4 dz
noncomputable def kw (ρ:ak):Option Bool:=(fT (ai i6 (ai aM (fV 0) (fV 2)) (fV 2))) ρ
noncomputable def kB (ρ:ak):Out:=(aj (aA 4 (ai aM (fV 0) (fV 2)))
  (aj (j7 0 (fV 2) (ai aM (fV 0) (fV 4)))
  (aj (aA 2 (fV 4))
  (lR (fun a b=>a+b) 3 (fC (.int 1)))))) ρ
noncomputable def lG (ρ:ak):Out:=(aj (aA 2 (fV 1))
  (aj (aA 3 (fC (.int 0)))
  (aj (cR kw kB)
  (aO (bE (aa (fV 2) (aa (fV 3) ag))))))) ρ
noncomputable def ox:List PV->Option PR:=run 2 5 lG
noncomputable def bw (ρ:ak):Option Bool:=(fT (ai i6 (ai aM (fV 0) (fV 2)) (fV 2))) ρ
noncomputable def bZ (ρ:ak):Out:=(aj (aA 4 (ai aM (fV 0) (fV 2)))
  (aj (j7 0 (fV 2) (ai aM (fV 0) (fV 4)))
  (aj (aA 2 (fV 4))
  (lR (fun a b=>a+b) 3 (fC (.int 1)))))) ρ
noncomputable def dh (ρ:ak):Out:=(aj (aA 2 (fV 1))
  (aj (aA 3 (fC (.int 0)))
  (aj (cR bw bZ)
  (aO (bE (aa (fV 2) (aa (fV 3) ag))))))) ρ
noncomputable def cY:j9:=oB 2 5 dh
noncomputable def pY (ρ:ak):Out:=(aj (dQ (ao cb (aa (fV 0) (aa (fV 1) ag))) (hV 2 (gC (gN 2) (gC (gN 3) g0))))
  (aj (j7 0 (fV 1) (ai aM (fV 0) (ai aM (fV 0) (fV 1))))
  (aO (bE (aa (fV 2) (aa (fV 3) ag)))))) ρ
noncomputable def tU:List PV->Option PR:=run 2 4 pY
noncomputable def fR (ρ:ak):Out:=(aj (dQ (ao cb (aa (fV 0) (aa (fV 1) ag))) (hV 2 (gC (gN 2) (gC (gN 3) g0))))
  (aj (j7 0 (fV 1) (ai aM (fV 0) (ai aM (fV 0) (fV 1))))
  (aO (bE (aa (fV 2) (aa (fV 3) ag)))))) ρ
noncomputable def fF:j9:=oB 2 4 fR
noncomputable def iB (ρ:ak):Out:=(aj (gK 3 (fB hJ (aa (fV 0) ag)))
  (aj (aA 4 (ai aM (fC (.dct [.inr "none",.inr "whole",.inr "halves",.inr "splits",.inr "one"] [.fn "find_none",.fn "find_whole",.fn "find_halves",.fn "find_splits",.fn "find_one"])) (fV 1)))
  (aj (nZ [("find_none",eJ),("find_whole",dD),("find_halves",cP),("find_splits",cY),("find_one",fF)] 4 3 (aa (fV 2) ag) (hV 2 (gC (gN 5) (gC (gN 6) g0))))
  (aO (bE (aa (fV 5) (aa (fB kA (aa (fV 3) ag)) (aa (fV 6) ag)))))))) ρ
noncomputable def gv:List PV->Option PR:=run 3 7 iB
theorem rW {a0 a1 a2:PV}:gv [a0,a1,a2]=(iB [some (.val a0),some (.val a1),some (.val a2),none,none,none,none]).res:=Eq.trans rfl rfl
noncomputable def jy (ρ:ak):Out:=(aO (fB kA (aa (fB hJ (aa (fV 0) ag)) ag))) ρ
noncomputable def gi:List PV->Option PR:=run 1 1 jy
theorem tI {a0:PV}:gi [a0]=(jy [some (.val a0)]).res:=Eq.trans rfl rfl
noncomputable def fQ (ρ:ak):Out:=(aj (dQ (fV 0) (hV 4 (gC (gN 2) (gC (gN 3) (gC (gN 4) (gC (gN 5) g0))))))
  (aj (dQ (ao gv (aa (fV 4) (aa (fV 3) (aa (fV 1) ag)))) (hV 3 (gC (gN 6) (gC (gN 7) (gC (gN 8) g0)))))
  (aO (bE (aa (bE (aa (fV 2) (aa (fV 3) (aa (fV 7) (aa (ao gi (aa (fV 5) ag)) ag))))) (aa (fV 6) (aa (fV 8) ag))))))) ρ
noncomputable def cJ:List PV->Option PR:=run 2 9 fQ
theorem oQ {a0 a1:PV}:cJ [a0,a1]=(fQ [some (.val a0),some (.val a1),none,none,none,none,none,none,none]).res:=Eq.trans rfl rfl
noncomputable def bu (ρ:ak):Out:=(aj (gc (fT (ai i4 (fV 0) (fC (.str "told")))) (aO (fC (.bl true))) aH)
  (aj (gc (fT (ai i4 (fV 0) (fC (.str "names")))) (aO (ai Gp (fV 2) (fV 3))) aH)
  (aO (ai IR (ai aM (fV 1) (fV 2)) (ai aM (fV 1) (fV 3)))))) ρ
noncomputable def dJ:List PV->Option PR:=run 4 4 bu
theorem cA {a0 a1 a2 a3:PV}:dJ [a0,a1,a2,a3]=(bu [some (.val a0),some (.val a1),some (.val a2),some (.val a3)]).res:=Eq.trans rfl rfl
noncomputable def bf (ρ:ak):Out:=(aj (gc (fT (ai i4 (fV 0) (fC (.str "size")))) (aO (ai bO (fV 1) (fV 2))) aH)
  (aj (gc (eI (fT (ai i4 (fV 0) (fC (.str "rank")))) (fT (ai i4 (fV 1) (fV 2)))) (aO (ai bO (fV 1) (fC (.int 1)))) aH)
  (g8 1))) ρ
noncomputable def dP:List PV->Option PR:=run 3 3 bf
theorem bW {a0 a1 a2:PV}:dP [a0,a1,a2]=(bf [some (.val a0),some (.val a1),some (.val a2)]).res:=Eq.trans rfl rfl
noncomputable def br (ρ:ak):Out:=(aj (dQ (fV 0) (hV 4 (gC (gN 3) (gC (gN 4) (gC (gN 5) (gC (gN 6) g0))))))
  (aj (aA 7 (ao dJ (aa (fV 3) (aa (fV 6) (aa (fV 1) (aa (fV 2) ag))))))
  (aj (dQ (Il (fT (fV 7)) (bE (aa (fV 1) (aa (fV 2) ag))) (bE (aa (fV 2) (aa (fV 1) ag)))) (hV 2 (gC (gN 8) (gC (gN 9) g0))))
  (aj (gK 10 (fB hJ (aa (fV 5) ag)))
  (aj (j7 10 (fV 9) (fV 8))
  (aj (gK 11 (fB hJ (aa (fV 6) ag)))
  (aj (j7 11 (fV 8) (ao dP (aa (fV 3) (aa (ai aM (fV 6) (fV 8)) (aa (ai aM (fV 6) (fV 9)) ag)))))
  (aO (bE (aa (fV 3) (aa (fV 4) (aa (fB kA (aa (fV 10) ag)) (aa (fB kA (aa (fV 11) ag)) ag))))))))))))) ρ
noncomputable def bF:List PV->Option PR:=run 3 12 br
theorem c9 {a0 a1 a2:PV}:bF [a0,a1,a2]=(br [some (.val a0),some (.val a1),some (.val a2),none,none,none,none,none,none,none,none,none]).res:=Eq.trans rfl rfl
noncomputable def dB (ρ:ak):Out:=(aj (dQ (ao cJ (aa (fV 0) (aa (fV 1) ag))) (hV 3 (gC (gN 3) (gC (gN 4) (gC (gN 5) g0)))))
  (aj (dQ (ao cJ (aa (fV 3) (aa (fV 2) ag))) (hV 3 (gC (gN 6) (gC (gN 7) (gC (gN 8) g0)))))
  (aj (aA 9 (ai bO (fV 5) (fV 8)))
  (aj (gc (fT (ai i4 (fV 4) (fV 7))) (aO (bE (aa (fV 6) (aa (fC (.bl false)) (aa (fV 9) ag))))) aH)
  (aO (bE (aa (ao bF (aa (fV 6) (aa (fV 4) (aa (fV 7) ag)))) (aa (fC (.bl true)) (aa (fV 9) ag))))))))) ρ
noncomputable def fA:List PV->Option PR:=run 3 10 dB
theorem jf {a0 a1 a2:PV}:fA [a0,a1,a2]=(dB [some (.val a0),some (.val a1),some (.val a2),none,none,none,none,none,none,none]).res:=Eq.trans rfl rfl
noncomputable def dN (ρ:ak):Out:=(aj (gc (fT (ai i4 (ai aM (fV 1) (fC (.int 0))) (fC (.str "find")))) (aO (ao cJ (aa (fV 0) (aa (ai aM (fV 1) (fC (.int 1))) ag)))) aH)
  (aO (ao fA (aa (fV 0) (aa (ai aM (fV 1) (fC (.int 1))) (aa (ai aM (fV 1) (fC (.int 2))) ag)))))) ρ
noncomputable def d4:List PV->Option PR:=run 2 2 dN
theorem jc {a0 a1:PV}:d4 [a0,a1]=(dN [some (.val a0),some (.val a1)]).res:=Eq.trans rfl rfl
noncomputable def bT (ρ:ak):Option RV:=(ao aU (aa (fV 1) (aa (fV 0) ag))) ρ
noncomputable def fD (ρ:ak):Out:=(aj (gc (lK (fg (fT (fB qO (aa (fV 1) (aa (fC (.ty "tuple")) ag))))) (fT (ai i4 (fB dW (aa (fV 1) ag)) (fC (.int 0))))) (aO (fC (.bl false))) aH)
  (aj (aA 2 (ai aM (fV 1) (fC (.int 0))))
  (aj (gc (lK (fg (fT (fB qO (aa (fV 2) (aa (fC (.ty "str")) ag))))) (fT (ai i6 (zT tC (fC (.dct [.inr "find",.inr "join"] [.int 2,.int 3])) (aa (fV 2) ag)) (fB dW (aa (fV 1) ag))))) (aO (fC (.bl false))) aH)
  (aO (fB xm (aa (bM [none,some 0] (lF (A5 (fV 1) (yw (fC (.int 1))) xU)) (gN 0) eD bT) ag)))))) ρ
noncomputable def bK:List PV->Option PR:=run 2 3 fD
theorem lr {a0 a1:PV}:bK [a0,a1]=(fD [some (.val a0),some (.val a1),none]).res:=Eq.trans rfl rfl
noncomputable def mP (ρ:ak):Out:=(aj (gc (fg (fT (ao bK (aa (fB dW (aa (ai aM (fV 0) (fC (.int 2))) ag)) (aa (fV 1) ag))))) be aH)
  (aO (ao d4 (aa (fV 0) (aa (fV 1) ag))))) ρ
noncomputable def my:List PV->Option PR:=run 2 2 mP
theorem zB {a0 a1:PV}:my [a0,a1]=(mP [some (.val a0),some (.val a1)]).res:=Eq.trans rfl rfl
noncomputable def sG (ρ:ak):Out:=(aj (gc (lK (fg (fT (fB qO (aa (fV 1) (aa (fC (.ty "tuple")) ag))))) (fT (ai i6 (fB dW (aa (fV 1) ag)) (fC (.int 2))))) (aO (fC (.bl false))) aH)
  (aO (ig (ao aU (aa (fV 0) (aa (ai aM (fV 1) (fC (.int 0))) ag))) (pX (ao aU (aa (fV 0) (aa (ai aM (fV 1) (fC (.int 1))) ag))))))) ρ
noncomputable def cj:List PV->Option PR:=run 2 2 sG
noncomputable def mY (ρ:ak):Out:=(aj (gc (lK (fg (fT (fB qO (aa (fV 1) (aa (fC (.ty "tuple")) ag))))) (fT (ai i6 (fB dW (aa (fV 1) ag)) (fC (.int 3))))) (aO (fC (.bl false))) aH)
  (aO (ig (ao cj (aa (fV 0) (aa (A5 (fV 1) xU (yw (fC (.int 2)))) ag))) (pX (ao di (aa (ai aM (fV 1) (fC (.int 2))) ag)))))) ρ
noncomputable def bh:List PV->Option PR:=run 2 2 mY
noncomputable def tX (ρ:ak):Out:=(aO (ig (ao bh (aa (fV 0) (aa (fV 1) ag))) (pX (ai IR (ai aM (fV 1) (fC (.int 2))) (fC (.int 0)))))) ρ
noncomputable def d8:List PV->Option PR:=run 2 2 tX
noncomputable def eY (ρ:ak):Out:=(gc (fg (fT (mN [("is_deed",bK),("is_pair",cj),("is_telling",bh),("is_thing",aU),("is_tie",d8)] 2 (aa (fV 0) (aa (fV 4) ag))))) be aH) ρ
noncomputable def gb (ρ:ak):Out:=(aj (gc (fg (fT (fB qO (aa (fV 1) (aa (fC (.ty "tuple")) ag))))) be aH)
  (iz (mJ (aa (fV 1) ag)) (hV 2 (gC (gN 3) (gC (gN 4) g0))) eY)) ρ
noncomputable def fI:List PV->Option PR:=run 3 5 gb
theorem oJ {a0 a1 a2:PV}:fI [a0,a1,a2]=(gb [some (.val a0),some (.val a1),some (.val a2),none,none]).res:=Eq.trans rfl rfl
noncomputable def nR (ρ:ak):Out:=(aj (dQ (ao d4 (aa (fV 6) (aa (fV 9) ag))) (hV 3 (gC (gN 6) (gC (gN 10) (gC (gN 11) g0)))))
  (aj (qN jC 7 (aa (fV 10) ag))
  (qN jC 8 (aa (fV 11) ag)))) ρ
noncomputable def qa (ρ:ak):Out:=(aj (hK (ao fI (aa (fB dW (aa (ai aM (fV 0) (fC (.int 2))) ag)) (aa (fV 1) (aa (fC (.fn "is_deed")) ag)))))
  (aj (dQ (fV 0) (hV 4 (gC (gN 2) (gC (gN 3) (gC (gN 4) (gC (gN 5) g0))))))
  (aj (aA 6 (bE (aa (fV 2) (aa (fV 3) (aa (ao gi (aa (fV 4) ag)) (aa (ao gi (aa (fV 5) ag)) ag))))))
  (aj (gK 7 (e8 ag))
  (aj (gK 8 (e8 ag))
  (aj (iz (lF (fV 1)) (gN 9) nR)
  (wV 8 (wV 7 (aO (bE (aa (fV 6) (aa (fV 7) (aa (fV 8) ag))))))))))))) ρ
noncomputable def q6:List PV->Option PR:=run 2 12 qa
theorem BC {a0 a1:PV}:q6 [a0,a1]=(qa [some (.val a0),some (.val a1),none,none,none,none,none,none,none,none,none,none]).res:=Eq.trans rfl rfl
noncomputable def ff (ρ:ak):Out:=(gc (fg (fT (ao gm (aa (fV 0) ag)))) be aH) ρ
noncomputable def gB:List PV->Option PR:=run 1 1 ff
theorem mq {a0:PV}:gB [a0]=(ff [some (.val a0)]).res:=Eq.trans rfl rfl
noncomputable def bX (ρ:ak):Out:=(aO (ig (fB qO (aa (fV 0) (aa (fC (.ty "str")) ag))) (pX (ai sX (fV 0) (fC (.ktu [.str "size",.str "rank",.str "told",.str "names"])))))) ρ
noncomputable def bH:List PV->Option PR:=run 1 1 bX
theorem hO {a0:PV}:bH [a0]=(bX [some (.val a0)]).res:=Eq.trans rfl rfl
noncomputable def eS (ρ:ak):Out:=(gc (fg (fT (ao bH (aa (fV 0) ag)))) be aH) ρ
noncomputable def gY:List PV->Option PR:=run 1 1 eS
theorem mm {a0:PV}:gY [a0]=(eS [some (.val a0)]).res:=Eq.trans rfl rfl
noncomputable def gA (ρ:ak):Out:=(aO (ig (fB qO (aa (fV 0) (aa (fC (.ty "str")) ag))) (pX (ai sX (fV 0) (fC (.dct [.inr "none",.inr "whole",.inr "halves",.inr "splits",.inr "one"] [.fn "find_none",.fn "find_whole",.fn "find_halves",.fn "find_splits",.fn "find_one"])))))) ρ
noncomputable def gX:List PV->Option PR:=run 1 1 gA
theorem qB {a0:PV}:gX [a0]=(gA [some (.val a0)]).res:=Eq.trans rfl rfl
noncomputable def eC (ρ:ak):Out:=(gc (fg (fT (ao gX (aa (fV 0) ag)))) be aH) ρ
noncomputable def dH:List PV->Option PR:=run 1 1 eC
theorem lH {a0:PV}:dH [a0]=(eC [some (.val a0)]).res:=Eq.trans rfl rfl
noncomputable def fS (ρ:ak):Out:=(aj (hK (ao gB (aa (fV 0) ag)))
  (aj (hK (ao gY (aa (fV 1) ag)))
  (aj (hK (ao dH (aa (fV 2) ag)))
  (aj (aA 3 (Il (fT (ai i4 (fV 1) (fC (.str "size")))) (fC (.int 1)) (fC (.int 0))))
  (aO (bE (aa (fV 1) (aa (fV 2) (aa (fB pD (aa (fB r9 (aa (fV 0) ag)) ag)) (aa (ai fy (bE (aa (fV 3) ag)) (fV 0)) ag)))))))))) ρ
noncomputable def dX:List PV->Option PR:=run 3 4 fS
theorem oP {a0 a1 a2:PV}:dX [a0,a1,a2]=(fS [some (.val a0),some (.val a1),some (.val a2),none]).res:=Eq.trans rfl rfl
noncomputable def bg (ρ:ak):Option Bool:=(fT (ai Bz (fV 0) (fC (.int 1)))) ρ
noncomputable def bG (ρ:ak):Out:=(aj (aA 0 (ai iG (fV 0) (fC (.int 2))))
  (aA 1 (ai bO (fV 1) (fC (.int 1))))) ρ
noncomputable def cE (ρ:ak):Out:=(aj (aA 1 (fC (.int 0)))
  (aj (cR bg bG)
  (g8 1))) ρ
noncomputable def bN:List PV->Option PR:=run 1 2 cE
theorem jA {a0:PV}:bN [a0]=(cE [some (.val a0),none]).res:=Eq.trans rfl rfl
noncomputable def cy (ρ:ak):Option Bool:=(eI (fT (ai i6 (ai aM (fV 0) (ai aM (fV 2) (r8 (fC (.int 1))))) (ai aM (fV 2) (r8 (fC (.int 1)))))) (fT (ai F5 (fB dW (aa (fV 2) ag)) (fB dW (aa (fV 0) ag))))) ρ
noncomputable def dF (ρ:ak):Out:=(qN jC 2 (aa (ai aM (fV 0) (ai aM (fV 2) (r8 (fC (.int 1))))) ag)) ρ
noncomputable def gQ (ρ:ak):Out:=(aj (gK 2 (e8 (aa (fV 1) ag)))
  (aj (cR cy dF)
  (g8 2))) ρ
noncomputable def de:List PV->Option PR:=run 2 3 gQ
theorem qo {a0 a1:PV}:de [a0,a1]=(gQ [some (.val a0),some (.val a1),none]).res:=Eq.trans rfl rfl
noncomputable def fP (ρ:ak):Out:=(aO (ai aM (ao de (aa (fV 0) (aa (fV 1) ag))) (r8 (fC (.int 1))))) ρ
noncomputable def cf:List PV->Option PR:=run 2 2 fP
theorem ou {a0 a1:PV}:cf [a0,a1]=(fP [some (.val a0),some (.val a1)]).res:=Eq.trans rfl rfl
noncomputable def cW (ρ:ak):Option RV:=(bE (aa (fV 0) ag)) ρ
noncomputable def bA (ρ:ak):Option Bool:=(fT (ai sX (fV 1) (fV 0))) ρ
noncomputable def aE (ρ:ak):Option RV:=(fV 0) ρ
noncomputable def b6 (ρ:ak):Option Bool:=(fT (ai kE (fV 0) (bE (aa (fV 1) (aa (fV 2) ag))))) ρ
noncomputable def ca (ρ:ak):Out:=(aj (aA 5 (ai aM (bM [none,some 3] (lF (fV 2)) (gN 0) bA aE) (fC (.int 0))))
  (aj (aA 6 (ai aM (bM [none,some 4] (lF (fV 2)) (gN 0) bA aE) (fC (.int 0))))
  (gc (fT (ai i6 (fV 5) (fV 6))) (aA 2 (ai bO (bM [none,some 5,some 6] (lF (fV 2)) (gN 0) b6 aE) (e8 (aa (fB kA (aa (fB jB (aa (ai bO (fV 5) (fV 6)) ag)) ag)) ag)))) aH))) ρ
noncomputable def dm (ρ:ak):Out:=(aj (aA 2 (bM [none] (jD kr (aa (fV 0) ag)) (gN 0) eD cW))
  (aj (iz (lF (fV 1)) (hV 2 (gC (gN 3) (gC (gN 4) g0))) ca)
  (aO (fB eK (aa (fV 2) ag))))) ρ
noncomputable def cS:List PV->Option PR:=run 2 7 dm
theorem kz {a0 a1:PV}:cS [a0,a1]=(dm [some (.val a0),some (.val a1),none,none,none,none,none]).res:=Eq.trans rfl rfl
noncomputable def cz (ρ:ak):Option RV:=(ai aM (e8 (aa (fV 0) (aa (fV 1) ag))) (fB sI (aa (ai i4 (fV 0) (fV 2)) ag))) ρ
noncomputable def bm (ρ:ak):Out:=(gc (fT (ai i4 (ai aM (fV 4) (fC (.int 0))) (fC (.str "join")))) (aj (dQ (bE (aa (ai aM (fV 2) (ai aM (fV 4) (fC (.int 1)))) (aa (ai aM (fV 2) (ai aM (fV 4) (fC (.int 2)))) ag))) (hV 2 (gC (gN 5) (gC (gN 6) g0))))
  (aj (qN jC 3 (aa (ai i6 (fV 5) (fV 6)) ag))
  (aA 2 (bM [none,some 5,some 6] (lF (fV 2)) (gN 0) eD cz)))) aH) ρ
noncomputable def gP (ρ:ak):Out:=(aj (aA 2 (fB hJ (aa (fB r9 (aa (fV 0) ag)) ag)))
  (aj (gK 3 (e8 ag))
  (aj (iz (lF (fV 1)) (gN 4) bm)
  (g8 3)))) ρ
noncomputable def gE:List PV->Option PR:=run 2 7 gP
theorem qJ {a0 a1:PV}:gE [a0,a1]=(gP [some (.val a0),some (.val a1),none,none,none,none,none]).res:=Eq.trans rfl rfl
noncomputable def b7 (ρ:ak):Option RV:=(fB kA (aa (ai aM (fV 1) (fV 0)) ag)) ρ
noncomputable def dn (ρ:ak):Out:=(aj (ri 1 u4)
  (aj (xX 1 2 (jD kr (aa (fB dW (aa (fV 0) ag)) ag)) [] (ao cf (aa (fV 0) (aa (fV 2) ag))) (fV 2))
  (wV 1 (aO (fB eK (aa (bM [none,some 1] (vy (fV 1)) (gN 0) eD b7) ag)))))) ρ
noncomputable def aX:List PV->Option PR:=run 1 3 dn
theorem kT {a0:PV}:aX [a0]=(dn [some (.val a0),none,none]).res:=Eq.trans rfl rfl
noncomputable def aV (ρ:ak):Option Bool:=(fT (ai i4 (ai aM (fV 1) (fV 0)) (fV 0))) ρ
noncomputable def aW (ρ:ak):Option RV:=(fV 0) ρ
noncomputable def bx (ρ:ak):Option RV:=(ai sX (ai aM (fV 1) (fV 0)) (fV 2)) ρ
noncomputable def bB (ρ:ak):Option RV:=(fB dW (aa (ao de (aa (fV 1) (aa (fV 0) ag))) ag)) ρ
noncomputable def aw (ρ:ak):Out:=(aj (aA 6 (bM [none,some 3] (lF (fV 5)) (gN 0) aV aW))
  (aj (gc (lK (fT (ai i6 (fB dW (aa (fV 6) ag)) (fC (.int 1)))) (fg (fT (fB xm (aa (bM [none,some 3,some 5] (lF (fV 5)) (gN 0) eD bx) ag))))) (aO (fC (.bl false))) aH)
  (aj (aA 7 (ao bN (aa (fB dW (aa (fV 5) ag)) ag)))
  (aj (gc (eI (fT (ai sX (fV 0) (bE (aa (fC (.str "size")) (aa (fC (.str "rank")) ag))))) (fT (ai Bz (ai rT (fB qR (aa (bM [none,some 3] (lF (fV 5)) (gN 0) eD bB) ag)) (fC (.int 1))) (fV 7)))) (aO (fC (.bl false))) aH)
  (aj (gc (lK (eI (fT (ai i4 (fV 0) (fC (.str "size")))) (fT (ai i6 (ai aM (fV 4) (ai aM (fV 6) (fC (.int 0)))) (fB dW (aa (fV 5) ag))))) (eI (fT (ai i4 (fV 0) (fC (.str "rank")))) (fT (ai Bz (ai aM (fV 4) (ai aM (fV 6) (fC (.int 0)))) (fV 7))))) (aO (fC (.bl false))) aH)
  (gc (eI (fT (ai i4 (fV 0) (fC (.str "names")))) (fT (ai i6 (ai aM (fV 6) (fC (.int 0))) (ai aM (fV 5) (fC (.int 0)))))) (aO (fC (.bl false))) aH)))))) ρ
noncomputable def cv (ρ:ak):Out:=(aj (dQ (A5 (fV 1) (yw (fC (.int 2))) xU) (hV 2 (gC (gN 3) (gC (gN 4) g0))))
  (aj (gc (fT (ai i6 (ao aX (aa (fV 3) ag)) (fV 2))) (aO (fC (.bl false))) aH)
  (aj (iz (lF (fV 2)) (gN 5) aw)
  (aO (fC (.bl true)))))) ρ
noncomputable def b9:List PV->Option PR:=run 3 8 cv
theorem i7 {a0 a1 a2:PV}:b9 [a0,a1,a2]=(cv [some (.val a0),some (.val a1),some (.val a2),none,none,none,none,none]).res:=Eq.trans rfl rfl
end Dp
end
section
namespace Dp
open PySem L2
noncomputable def jQ (ρ:ak):Option Bool:=(fT (ai i4 (ai aM (fV 0) (fC (.int 0))) (fC (.str "join")))) ρ
noncomputable def mH (ρ:ak):Option RV:=(A5 (fV 0) (yw (fC (.int 1))) xU) ρ
noncomputable def jY (ρ:ak):Option RV:=(bE (aa (ai aY (ai fy (ai bO (fV 0) (fC (.int 1))) (ai bO (ai aM (fV 1) (fC (.int 1))) (fV 0))) (fC (.int 7919))) (aa (fV 0) ag))) ρ
noncomputable def jM (ρ:ak):Option RV:=(ai aM (fV 0) (fC (.int 1))) ρ
noncomputable def j5 (ρ:ak):Option RV:=(ai bO (bE (aa (fC (.str "join")) ag)) (ai aM (fV 1) (fV 0))) ρ
noncomputable def hX (ρ:ak):Option Bool:=(fT (ai i4 (ai aM (ai aM (fV 2) (fV 0)) (fC (.int 0))) (fC (.str "join")))) ρ
noncomputable def ic (ρ:ak):Option RV:=(ai aM (fV 1) (fV 0)) ρ
noncomputable def fj (ρ:ak):Out:=(aj (dQ (ao my (aa (fV 11) (aa (bE (aa (fC (.str "find")) (aa (fV 15) ag))) ag))) (hV 3 (gC (gN 16) (gC (gN 17) (gC (gN 18) g0)))))
  (aj (gc (lK (fT (ai i6 (fV 17) (ao cf (aa (ai aM (fV 11) (fC (.int 2))) (aa (fV 15) ag))))) (fT (ai i6 (ao aX (aa (ai aM (fV 16) (fC (.int 2))) ag)) (fV 5)))) (aO (fC (.bl false))) aH)
  (gc (eI (fT (ai sX (fV 10) (bE (aa (fC (.str "none")) (aa (fC (.str "whole")) (aa (fC (.str "one")) ag)))))) (fT (ai i6 (fV 18) (ai rT (fB dW (aa (ao de (aa (ai aM (fV 11) (fC (.int 2))) (aa (fV 15) ag))) ag)) (fC (.int 1)))))) (aO (fC (.bl false))) aH))) ρ
noncomputable def gj (ρ:ak):Out:=(aj (dQ (ao q6 (aa (ao dX (aa (fV 2) (aa (fV 9) (aa (fV 10) ag)))) (aa (fV 3) ag))) (hV 3 (gC (gN 11) (gC (gN 12) (gC (gN 13) g0)))))
  (aj (aA 14 (bM [none,some 12,some 3] (jD kr (aa (fB dW (aa (fV 3) ag)) ag)) (gN 0) hX ic))
  (aj (gc (lK (fT (ai i6 (fV 14) (fV 6))) (fg (fT (ao b9 (aa (fV 9) (aa (fV 11) (aa (fV 5) ag))))))) (aO (fC (.bl false))) aH)
  (aj (gc (fT (ai i6 (ao aX (aa (ai aM (ai aM (ao q6 (aa (ao dX (aa (fV 2) (aa (fV 9) (aa (fV 10) ag)))) (aa (fV 8) ag))) (fC (.int 0))) (fC (.int 2))) ag)) (fV 5))) (aO (fC (.bl false))) aH)
  (iz (jD xi (aa (fC (.int 0)) (aa (fV 2) (aa (ai bO (fC (.int 1)) (ai iG (fV 2) (fC (.int 13)))) ag)))) (gN 15) fj))))) ρ
noncomputable def gw (ρ:ak):Out:=(iz (lF (e8 (aa (fC (.str "none")) (aa (fC (.str "whole")) (aa (fC (.str "halves")) (aa (fC (.str "splits")) (aa (fC (.str "one")) ag))))))) (gN 10) gj) ρ
noncomputable def qy (ρ:ak):Out:=(aj (aA 1 (ao aR (aa (ao bC (aa (fV 0) (aa (fC (.int 0)) ag))) (aa (fC (.int 4)) ag))))
  (aj (aA 2 (ao fN (aa (ai aM (fV 1) (fC (.int 0))) ag)))
  (aj (aA 3 (ao cQ (aa (fV 0) (aa (fC (.int 2)) (aa (fV 2) (aa (fC (.int 60)) ag))))))
  (aj (aA 4 (bM [none] (lF (fV 3)) (gN 0) jQ mH))
  (aj (aA 5 (ao cS (aa (fV 2) (aa (fV 4) ag))))
  (aj (aA 6 (ao gE (aa (fV 2) (aa (fV 3) ag))))
  (aj (aA 7 (bM [none] (lF (fB eK (aa (bM [none,some 1] (jD kr (aa (fB dW (aa (fV 4) ag)) ag)) (gN 0) eD jY) ag))) (gN 0) eD jM))
  (aj (aA 8 (fB kA (aa (bM [none,some 4] (lF (fV 7)) (gN 0) eD j5) ag)))
  (aj (iz (lF (e8 (aa (fC (.str "size")) (aa (fC (.str "rank")) (aa (fC (.str "told")) (aa (fC (.str "names")) ag)))))) (gN 9) gw)
  (aO (fC (.bl true)))))))))))) ρ
noncomputable def uP:List PV->Option PR:=run 1 19 qy
theorem B3 {a0:PV}:uP [a0]=(qy [some (.val a0),none,none,none,none,none,none,none,none,none,none,none,none,none,none,none,none,none,none]).res:=Eq.trans rfl rfl
end Dp
end
section
namespace Dp
open PySem PySem.Spec L2 PyProof.Rows
section
variable {P:Program}{w:World}{K:PySem.W.Frag}{mg:Str->Option Value}{base:Heap}{k j:Nat}{x:Str}
theorem an {α:Type}{p:α->Prop}:dZ p []:=trivial
theorem ac {F:Fn}{l:List (Str×Fn)}(d:DefN P w K mg base true j x F)(r:dZ (fun p:Str×Fn=>∃j,j≤k/\DefN P w K mg base true j p.1 p.2) l)(h:j≤k:=by decide):dZ (fun p:Str×Fn=>∃j,j≤k/\DefN P w K mg base true j p.1 p.2) ((x,F)::l):=⟨⟨j,h,d⟩,r⟩
theorem ad {F:Fn}{l:List (Str×Fn)}(d:DefN P w K mg base true j x F)(r:dZ (fun p:Str×Fn=>(∃j,j≤k/\DefN P w K mg base true j p.1 p.2)\/mg p.1=none) l)(h:j≤k:=by decide):dZ (fun p:Str×Fn=>(∃j,j≤k/\DefN P w K mg base true j p.1 p.2)\/mg p.1=none) ((x,F)::l):=⟨.inl ⟨j,h,d⟩,r⟩
theorem ae (F:Fn){l:List (Str×Fn)}(e:mg x=none)(r:dZ (fun p:Str×Fn=>(∃j,j≤k/\DefN P w K mg base true j p.1 p.2)\/mg p.1=none) l):dZ (fun p:Str×Fn=>(∃j,j≤k/\DefN P w K mg base true j p.1 p.2)\/mg p.1=none) ((x,F)::l):=⟨.inr e,r⟩
theorem al {F:j9}{l:List (Str×j9)}(d:DefL P w K mg base true j x F)(r:dZ (fun p:Str×j9=>∃j,j≤k/\DefL P w K mg base true j p.1 p.2) l)(h:j≤k:=by decide):dZ (fun p:Str×j9=>∃j,j≤k/\DefL P w K mg base true j p.1 p.2) ((x,F)::l):=⟨⟨j,h,d⟩,r⟩
theorem av {l:List Str}(m:∃a,mg x=some (.ref a))(r:dZ (fun x=>∃a,mg x=some (.ref a)) l):dZ (fun x=>∃a,mg x=some (.ref a)) (x::l):=⟨m,r⟩
noncomputable def fX (K:PySem.W.Frag)(x:Str)(f:Addr)(st:Stmt):Prop:=PySem.W.nsIn K mainGlobals x=some (some (.ref f))/\∃(oc:Value) (od:Option Addr) (kV dc pm:Value) (an:Option Addr) (cd ct:Value) (sl:Array (Option Value)),K.lookup f=some ⟨oc,od,.func (PySem.W.fnOf x x (dI st) (bq st) (ah st) .none kV dc pm an cd ct),sl⟩/\PySem.W.codeIn K cd x=true/\PySem.W.keepIn K (.ref f)=true
theorem gR {f:Addr}{st:Stmt}{oc:Value}{od:Option Addr}{kV dc pm:Value}{an:Option Addr}{cd ct:Value}{sl:Array (Option Value)}(a:PySem.W.nsIn K mainGlobals x=some (some (.ref f)))(l:K.lookup f=some ⟨oc,od,.func (PySem.W.fnOf x x (dI st) (bq st) (ah st) .none kV dc pm an cd ct),sl⟩)(c:PySem.W.codeIn K cd x=true)(k:PySem.W.keepIn K (.ref f)=true):fX K x f st:=
 ⟨a,_,_,_,_,_,_,_,_,_,l,c,k⟩
theorem qp {h:Heap}{f:Addr}{st:Stmt}{ps:List Str}(X:K.In h)(G:h.Ns mainGlobals mg)(a:fX K x f st)
  (hb:∀(kV doc pm:Value) (an:Option Addr) (cdv ct:Value) (us:List Value),us.length=ps.length->bindArgs (PySem.W.fnOf x x (dI st) (bq st) (ah st) .none kV doc pm an cdv ct) ⟨us,[]⟩=pure (ps.zip us)):zU K mg x st ps:=by
 obtain⟨a,oc,od,kV,dc,pm,an,cd,ct,sl,l,c,k⟩:=a
 exact BW l c k (PySem.W.mg_of X G a) hb
end
end Dp
namespace Dp
open PySem PySem.Spec L2 PyProof.Rows
noncomputable def IY (N:List Str)(a:Nat)(sc:Scope):Bool:=
 (match sc.kind with|.function=>true|_=>false)&&!sc.isCoroutine&&!sc.isGenerator&&decide N.Nodup&&(N.take a).all (fun x=>match sc.names.lookup x with|some .local=>true|some .cell=>true|_=>false)&&sc.names.all (fun y=>match y.2 with|.free=>false|_=>true)
theorem J6 {N:List Str}{a:Nat}{sc:Scope}(h:IY N a sc=true):FnScope N (N.take a) sc:=by
 unfold IY at h
 simp only[Bool.and_eq_true,Bool.not_eq_true'] at h
 obtain⟨⟨⟨⟨⟨h1,h2⟩,h3⟩,h4⟩,h5⟩,h6⟩:=h
 refine⟨?_,h2,h3,of_decide_eq_true h4,?_,fun x hx=>?_,fun y hy e=>?_⟩
 ·split at h1
  ·assumption
  ·cases h1
 ·rw[List.length_take]
  by_cases q:a≤N.length
  ·rw[Nat.min_eq_left q]
  ·rw[Nat.min_eq_right (by omega),List.take_length,List.take_of_length_le (by omega)]
 ·have:=List.all_eq_true.mp h5 x hx
  split at this
  ·next e=>exact .inl e
  ·next e=>exact .inr e
  ·cases this
 ·have:=List.all_eq_true.mp h6 y hy
  rw[e] at this;cases this
section
variable {P:Program}{w:World}{K:PySem.W.Frag}{mg:Str->Option Value}{base:Heap}{k:Nat}{x:Str}
theorem vd {h:Heap}{f:Addr}{st:Stmt}{a n:Nat}{s:FS}{G:Gc}(L:Lc)(X:K.In h)(Gn:h.Ns mainGlobals mg)(fk:fX K x f st)(sq:IY L.N a (ah st)=true)
  (hb:∀(kV doc pm:Value) (an:Option Addr) (cdv ct:Value) (us:List Value),us.length=(L.N.take a).length->bindArgs (PySem.W.fnOf x x (dI st) (bq st) (ah st) .none kV doc pm an cdv ct) ⟨us,[]⟩=pure ((L.N.take a).zip us))
  (g:GOk P w K mg base k G.toGd) (hk:HkOk G.hk) (hs:vL (vS G 60 L) (bq st)=s) (h1:L.sc=ah st:=by rfl) (h3:L.top=true:=by rfl) (ha:(L.N.take a).length=a:=by rfl) (hn:L.N.length=n:=by rfl):DefN P w K mg base true (k+1) x (run a n s):=
 HX L (qp X Gn fk hb) (J6 sq) g hk hs h1 rfl h3 ha hn
theorem Hu {h:Heap}{f:Addr}{st:Stmt}{a n:Nat}{s:FS}{G:Gc}(L:Lc)(X:K.In h)(Gn:h.Ns mainGlobals mg)(fk:fX K x f st)(sq:IY L.N a (ah st)=true)
  (hb:∀(kV doc pm:Value) (an:Option Addr) (cdv ct:Value) (us:List Value),us.length=(L.N.take a).length->bindArgs (PySem.W.fnOf x x (dI st) (bq st) (ah st) .none kV doc pm an cdv ct) ⟨us,[]⟩=pure ((L.N.take a).zip us))
  (g:GOk P w K mg base k G.toGd) (hk:HkOk G.hk) (hs:vL (vS G 60 L) (bq st)=s) (h1:L.sc=ah st:=by rfl) (h3:L.top=true:=by rfl) (h4:L.lent=true:=by rfl) (ha:(L.N.take a).length=a:=by rfl) (hn:L.N.length=n:=by rfl):DefL P w K mg base true (k+1) x (oB a n s):=
 Fc L (qp X Gn fk hb) (J6 sq) g hk hs h1 rfl h3 h4 ha hn
end
end Dp
end
section
namespace K16
open PySem L2 Dp
noncomputable def top (i:Nat):Stmt:=(PySem.Challenge.pw_lotheads_k16_whole_heads_and_lots.main.body)[i]?.getD (.Pass ⟨0,0,0,0⟩)
structure Txt (P:Program)(w:World)(K:PySem.W.Frag)(mg:Str->Option Value):Prop where
 n_abs:mg "abs" = none
 n_all:mg "all" = none
 n_bool:mg "bool" = none
 n_enumerate:mg "enumerate" = none
 n_int:mg "int" = none
 n_isinstance:mg "isinstance" = none
 n_len:mg "len" = none
 n_list:mg "list" = none
 n_max:mg "max" = none
 n_min:mg "min" = none
 n_range:mg "range" = none
 n_sorted:mg "sorted" = none
 n_str:mg "str" = none
 n_tuple:mg "tuple" = none
 n_is_pair:mg "is_pair" = none
 n_is_telling:mg "is_telling" = none
 n_is_tie:mg "is_tie" = none
 c_MOST_THINGS:∃t,mg "MOST_THINGS" = some (.int 40 t)
 k_JOINS:∀base,K.In base->BP P w mg base "JOINS" (.ktu [.str "size",.str "rank",.str "told",.str "names"])
 k_LENGTHS:∀base,K.In base->BP P w mg base "LENGTHS" (.dct [.inr "find",.inr "join"] [.int 2,.int 3])
 k_MANNERS:∀base,K.In base->BP P w mg base "MANNERS" (.dct [.inr "none",.inr "whole",.inr "halves",.inr "splits",.inr "one"] [.fn "find_none",.fn "find_whole",.fn "find_halves",.fn "find_splits",.fn "find_one"])
noncomputable abbrev il:Stmt:=top 42
noncomputable abbrev lz:Stmt:=top 43
noncomputable abbrev ld:Stmt:=top 41
noncomputable abbrev jW:Stmt:=top 44
noncomputable abbrev j1:Stmt:=top 45
noncomputable abbrev ib:Stmt:=top 49
noncomputable abbrev mO:Stmt:=top 52
noncomputable abbrev ll:Stmt:=top 25
noncomputable abbrev m5:Stmt:=top 8
noncomputable abbrev nc:Stmt:=top 10
noncomputable abbrev o7:Stmt:=top 24
noncomputable abbrev ro:Stmt:=top 29
noncomputable abbrev iC:Stmt:=top 13
noncomputable abbrev gI:Stmt:=top 14
noncomputable abbrev fY:Stmt:=top 15
noncomputable abbrev fW:Stmt:=top 16
noncomputable abbrev jE:Stmt:=top 17
noncomputable abbrev oW:Stmt:=top 21
noncomputable abbrev kZ:Stmt:=top 30
noncomputable abbrev jd:Stmt:=top 26
noncomputable abbrev jg:Stmt:=top 27
noncomputable abbrev eE:Stmt:=top 28
noncomputable abbrev lC:Stmt:=top 31
noncomputable abbrev lv:Stmt:=top 32
noncomputable abbrev Di:Stmt:=top 34
noncomputable abbrev pf:Stmt:=top 9
noncomputable abbrev km:Stmt:=top 11
noncomputable abbrev eH:Stmt:=top 37
noncomputable abbrev jZ:Stmt:=top 38
noncomputable abbrev nv:Stmt:=top 19
noncomputable abbrev jh:Stmt:=top 20
noncomputable abbrev lD:Stmt:=top 39
noncomputable abbrev md:Stmt:=top 46
noncomputable abbrev k8:Stmt:=top 47
noncomputable abbrev iA:Stmt:=top 48
noncomputable abbrev y4:Stmt:=top 33
noncomputable abbrev gd:Stmt:=top 50
noncomputable abbrev fJ:Stmt:=top 51
noncomputable abbrev C2:Stmt:=top 53
noncomputable def G0:Gc:={ bi:=["abs","all","bool","enumerate","int","isinstance","len","list","max","min","range","sorted","str","tuple","is_pair","is_telling","is_tie"],nis:=[("MOST_THINGS",40)],tups:=[("JOINS",[.str "size",.str "rank",.str "told",.str "names"])],dcts:=[("LENGTHS",[.inr "find",.inr "join"],[.int 2,.int 3]),("MANNERS",[.inr "none",.inr "whole",.inr "halves",.inr "splits",.inr "one"],[.fn "find_none",.fn "find_whole",.fn "find_halves",.fn "find_splits",.fn "find_one"])],hk:=(hkNew.or Dk).or CW }
theorem fH:HkOk G0.hk:=(Dx (Dx yG AS) Ae)
section
variable {P:Program}{w:World}{K:PySem.W.Frag}{mg:Str->Option Value}{base:Heap}{k:Nat}
theorem gk {vals:List Str}{fns tab:List (Str×Fn)}{lents:List (Str×j9)}(T:Txt P w K mg)(KI:K.In base)(h4:dZ (fun x=>∃a,mg x=some (.ref a)) vals)(h5:dZ (fun p:Str×Fn=>∃j,j≤k/\DefN P w K mg base true j p.1 p.2) fns)(h7:dZ (fun p:Str×Fn=>(∃j,j≤k/\DefN P w K mg base true j p.1 p.2)\/mg p.1=none) tab)(h8:dZ (fun p:Str×j9=>∃j,j≤k/\DefL P w K mg base true j p.1 p.2) lents):GOk P w K mg base k ({ G0 with fns:=fns,tab:=tab,lents:=lents,vals:=vals }:Gc).toGd:=
 KR ⟨T.n_abs,⟨T.n_all,⟨T.n_bool,⟨T.n_enumerate,⟨T.n_int,⟨T.n_isinstance,⟨T.n_len,⟨T.n_list,⟨T.n_max,⟨T.n_min,⟨T.n_range,⟨T.n_sorted,⟨T.n_str,⟨T.n_tuple,⟨T.n_is_pair,⟨T.n_is_telling,⟨T.n_is_tie,trivial⟩⟩⟩⟩⟩⟩⟩⟩⟩⟩⟩⟩⟩⟩⟩⟩⟩ ⟨T.c_MOST_THINGS,trivial⟩ ⟨T.k_JOINS base KI,trivial⟩ h4 h5 ⟨T.k_LENGTHS base KI,⟨T.k_MANNERS base KI,trivial⟩⟩ h7 h8
end
end K16
end
section
namespace K16
open PySem L2 Dp
@[elab_as_elim] theorem jR {P:List Value->Prop}{us:List Value}(h:us.length=1)(k:∀a,P [a]):P us:=by
 obtain _|⟨_,us⟩:=us
 ·cases h
 obtain _|⟨_,us⟩:=us
 ·exact k _
 ·simp at h
@[elab_as_elim] theorem fx {P:List Value->Prop}{us:List Value}(h:us.length=2)(k:∀a b,P [a,b]):P us:=by
 obtain _|⟨_,us⟩:=us
 ·cases h
 obtain _|⟨_,us⟩:=us
 ·cases h
 obtain _|⟨_,us⟩:=us
 ·exact k _ _
 ·simp at h
@[elab_as_elim] theorem tP {P:List Value->Prop}{us:List Value}(h:us.length=3)(k:∀a b c,P [a,b,c]):P us:=by
 obtain _|⟨_,us⟩:=us
 ·cases h
 obtain _|⟨_,us⟩:=us
 ·cases h
 obtain _|⟨_,us⟩:=us
 ·cases h
 obtain _|⟨_,us⟩:=us
 ·exact k _ _ _
 ·simp at h
@[elab_as_elim] theorem Fe {P:List Value->Prop}{us:List Value}(h:us.length=4)(k:∀a b c d,P [a,b,c,d]):P us:=by
 obtain _|⟨_,us⟩:=us
 ·cases h
 obtain _|⟨_,us⟩:=us
 ·cases h
 obtain _|⟨_,us⟩:=us
 ·cases h
 obtain _|⟨_,us⟩:=us
 ·cases h
 obtain _|⟨_,us⟩:=us
 ·exact k _ _ _ _
 ·simp at h
theorem EG {l:PySem.W.OpenLaw}{w:World}{K:PySem.W.Frag}{h:Heap}{mg:Str->Option Value}{fa f0 f1 f2 f3 f4 f5 f6 f7 f8 f9 f10 f11 f12 f13 f14 f15 f16 f17 f18 f19 f20 f21 f22 f23 f24 f25 f26 f27 f28 f29 f30 f31 f32 f33 f34 f35 f36 f37 f38:Addr}(X:K.In h)(G:h.Ns mainGlobals mg)(hfa:mg "law" = some (.ref fa))
  (a0:fX K "_law_numbers" f0 il)
  (a1:fX K "_law_many" f1 lz)
  (a2:fX K "_law_cell" f2 ld)
  (a3:fX K "_law_joins" f3 jW)
  (a4:fX K "_law_deeds" f4 j1)
  (a5:fX K "_law_lots_by" f5 ib)
  (a6:fX K "_law_due" f6 mO)
  (a7:fX K "check_row" f7 ll)
  (a8:fX K "is_whole" f8 m5)
  (a9:fX K "is_thing" f9 nc)
  (a10:fX K "is_deed" f10 o7)
  (a11:fX K "copied" f11 ro)
  (a12:fX K "find_none" f12 iC)
  (a13:fX K "find_whole" f13 gI)
  (a14:fX K "find_halves" f14 fY)
  (a15:fX K "find_splits" f15 fW)
  (a16:fX K "find_one" f16 jE)
  (a17:fX K "find_in" f17 oW)
  (a18:fX K "find_done" f18 kZ)
  (a19:fX K "first_stays" f19 jd)
  (a20:fX K "mark_behind" f20 jg)
  (a21:fX K "with_heads_joined" f21 eE)
  (a22:fX K "join_done" f22 lC)
  (a23:fX K "deed_done" f23 lv)
  (a24:fX K "run" f24 Di)
  (a25:fX K "is_many" f25 pf)
  (a26:fX K "check_many" f26 km)
  (a27:fX K "is_way_of_joining" f27 eH)
  (a28:fX K "check_join" f28 jZ)
  (a29:fX K "is_short" f29 nv)
  (a30:fX K "check_short" f30 jh)
  (a31:fX K "new_store" f31 lD)
  (a32:fX K "_law_way" f32 md)
  (a33:fX K "_law_head" f33 k8)
  (a34:fX K "_law_lots_of" f34 iA)
  (a35:fX K "done" f35 y4)
  (a36:fX K "_law_doublings" f36 gd)
  (a37:fX K "_law_lots_right" f37 fJ)
  (a38:fX K "law" f38 C2)
  (z_abs:PySem.W.nsIn K mainGlobals "abs" = some none)
  (z_all:PySem.W.nsIn K mainGlobals "all" = some none)
  (z_bool:PySem.W.nsIn K mainGlobals "bool" = some none)
  (z_enumerate:PySem.W.nsIn K mainGlobals "enumerate" = some none)
  (z_int:PySem.W.nsIn K mainGlobals "int" = some none)
  (z_isinstance:PySem.W.nsIn K mainGlobals "isinstance" = some none)
  (z_len:PySem.W.nsIn K mainGlobals "len" = some none)
  (z_list:PySem.W.nsIn K mainGlobals "list" = some none)
  (z_max:PySem.W.nsIn K mainGlobals "max" = some none)
  (z_min:PySem.W.nsIn K mainGlobals "min" = some none)
  (z_range:PySem.W.nsIn K mainGlobals "range" = some none)
  (z_sorted:PySem.W.nsIn K mainGlobals "sorted" = some none)
  (z_str:PySem.W.nsIn K mainGlobals "str" = some none)
  (z_tuple:PySem.W.nsIn K mainGlobals "tuple" = some none)
  (z_is_pair:PySem.W.nsIn K mainGlobals "is_pair" = some none)
  (z_is_telling:PySem.W.nsIn K mainGlobals "is_telling" = some none)
  (z_is_tie:PySem.W.nsIn K mainGlobals "is_tie" = some none)
  {tk_MOST_THINGS:Tok}
  (y_MOST_THINGS:PySem.W.nsIn K mainGlobals "MOST_THINGS" = some (some (.int 40 tk_MOST_THINGS)))
  {aK0:Addr} {oK0:Option Addr} {nK0:Nat} {sK0:Array (Option Value)} {tK0_0 tK0_1 tK0_2 tK0_3:Tok} (yk0:PySem.W.nsIn K mainGlobals "JOINS" = some (some (.ref aK0)))
  (lk0:K.lookup aK0=some ⟨.type "tuple",oK0,.seq #[.str "size" tK0_0,.str "rank" tK0_1,.str "told" tK0_2,.str "names" tK0_3] nK0,sK0⟩)
  {aK1:Addr} {tK1_0 tK1_1 vK1_0 vK1_1:Tok} (yk1:PySem.W.nsIn K mainGlobals "LENGTHS" = some (some (.ref aK1)))
  (Hn:K.lookup aK1=some ⟨.type "dict",none,.dict #[⟨PyData.keyHash w.params "find",.str "find" tK1_0,.int 2 vK1_0⟩,⟨PyData.keyHash w.params "join",.str "join" tK1_1,.int 3 vK1_1⟩] 2,#[]⟩) (sk1:(aK1==sysModules)=false)
  {aK2:Addr} {tK2_0 tK2_1 tK2_2 tK2_3 tK2_4:Tok} (yk2:PySem.W.nsIn K mainGlobals "MANNERS" = some (some (.ref aK2)))
  (HA:K.lookup aK2=some ⟨.type "dict",none,.dict #[⟨PyData.keyHash w.params "none",.str "none" tK2_0,.ref f12⟩,⟨PyData.keyHash w.params "whole",.str "whole" tK2_1,.ref f13⟩,⟨PyData.keyHash w.params "halves",.str "halves" tK2_2,.ref f14⟩,⟨PyData.keyHash w.params "splits",.str "splits" tK2_3,.ref f15⟩,⟨PyData.keyHash w.params "one",.str "one" tK2_4,.ref f16⟩] 5,#[]⟩) (sk2:(aK2==sysModules)=false)
  : ∃fd:FuncData,(∀(s:Shared) (u:Value),BindsTo s fd ⟨[u],[]⟩ [("_law_script",u)])/\∀base:Heap,K.In base/\base.Ns mainGlobals mg->NF l.prog w K mg base true 8 fa fd ["_law_script"] uP:=by
 have T:Txt l.prog w K mg:=⟨PySem.W.mg_none_of X G z_abs,PySem.W.mg_none_of X G z_all,PySem.W.mg_none_of X G z_bool,PySem.W.mg_none_of X G z_enumerate,PySem.W.mg_none_of X G z_int,PySem.W.mg_none_of X G z_isinstance,PySem.W.mg_none_of X G z_len,PySem.W.mg_none_of X G z_list,PySem.W.mg_none_of X G z_max,PySem.W.mg_none_of X G z_min,PySem.W.mg_none_of X G z_range,PySem.W.mg_none_of X G z_sorted,PySem.W.mg_none_of X G z_str,PySem.W.mg_none_of X G z_tuple,PySem.W.mg_none_of X G z_is_pair,PySem.W.mg_none_of X G z_is_telling,PySem.W.mg_none_of X G z_is_tie,⟨_,PySem.W.mg_of X G y_MOST_THINGS⟩,fun base KI=>BK (its:=[.str "size" tK0_0,.str "rank" tK0_1,.str "told" tK0_2,.str "names" tK0_3]) KI (PySem.W.mg_of X G yk0) lk0 (show 4≤sizeLine by decide) fun _ _ _=>⟨_,_,rfl,⟨_,rfl⟩,⟨_,_,rfl,⟨_,rfl⟩,⟨_,_,rfl,⟨_,rfl⟩,⟨_,_,rfl,⟨_,rfl⟩,rfl⟩⟩⟩⟩,fun base KI=>uX KI (PySem.W.mg_of X G yk1) sk1 Hn (show 2≤sizeLine by decide) (by decide +kernel) (.cons (fun _ _ e=>⟨_,rfl⟩) (.cons (fun _ _ e=>⟨_,rfl⟩) (.nil))),fun base KI=>uX KI (PySem.W.mg_of X G yk2) sk2 HA (show 5≤sizeLine by decide) (by decide +kernel) (.cons (fun _ _ e=>⟨_,by rw[e];exact PySem.W.mg_of X G a12.1,rfl⟩) (.cons (fun _ _ e=>⟨_,by rw[e];exact PySem.W.mg_of X G a13.1,rfl⟩) (.cons (fun _ _ e=>⟨_,by rw[e];exact PySem.W.mg_of X G a14.1,rfl⟩) (.cons (fun _ _ e=>⟨_,by rw[e];exact PySem.W.mg_of X G a15.1,rfl⟩) (.cons (fun _ _ e=>⟨_,by rw[e];exact PySem.W.mg_of X G a16.1,rfl⟩) (.nil))))))⟩
 have M_is_deed:=PySem.W.mg_of X G a10.1
 refine Cb (R:=fun base=>K.In base/\base.Ns mainGlobals mg) (qp X G a38 fun _ _ _ _ _ _ us hl=>jR hl fun _=>rfl) hfa (J6 (N:=["_law_script","_law_xs","_law_many_here","_law_row","_law_pairs","_law_lots","_law_answers","_law_order","_law_other","_law_join","_law_short","_law_store","_law_told","_law_steps","_law_now_one","_law_x","_law_behind","_law_head_here","_law_count"]) (a:=1) (by decide +kernel)) rfl rfl fun base hb=>?_
 have KI:=hb.1
 have D__law_numbers:DefN l.prog w K mg base true 1 "_law_numbers" aR:=vd { sc:=ah il,N:=["_law_cell_here","_law_many_here","_law_some","_law_state","_law_digits","_law_k"],own:=["_law_some"] } X G a0 (by decide +kernel) (fun _ _ _ _ _ _ us hl=>fx hl fun _ _=>rfl) (gk T KI an an an an) fH (by kernel_rfl)
 have D__law_many:DefN l.prog w K mg base true 1 "_law_many" fN:=vd { sc:=ah lz,N:=["_law_x"] } X G a1 (by decide +kernel) (fun _ _ _ _ _ _ us hl=>jR hl fun _=>rfl) (gk T KI an an an an) fH (by kernel_rfl)
 have D__law_cell:DefN l.prog w K mg base true 1 "_law_cell" bC:=vd { sc:=ah ld,N:=["_law_script","_law_k","_law_state","_law_cell_here"] } X G a2 (by decide +kernel) (fun _ _ _ _ _ _ us hl=>fx hl fun _ _=>rfl) (gk T KI an an an an) fH (by kernel_rfl)
 have D__law_joins:DefN l.prog w K mg base true 2 "_law_joins" eO:=vd { sc:=ah jW,N:=["_law_script","_law_at","_law_many_here","_law_most","_law_head_here","_law_row","_law_k","_law_xs","_law_x","_law_y"],own:=["_law_row"] } X G a3 (by decide +kernel) (fun _ _ _ _ _ _ us hl=>Fe hl fun _ _ _ _=>rfl) (gk T KI an (ac D__law_numbers (ac D__law_cell an)) an an) fH (by kernel_rfl)
 have D__law_deeds:DefN l.prog w K mg base true 3 "_law_deeds" cQ:=vd { sc:=ah j1,N:=["_law_script","_law_at","_law_many_here","_law_most","_law_row","_law_k","_law_x","_law_y","_law_xs"],own:=["_law_row"] } X G a4 (by decide +kernel) (fun _ _ _ _ _ _ us hl=>Fe hl fun _ _ _ _=>rfl) (gk T KI an (ac D__law_joins (ac D__law_numbers (ac D__law_cell an))) an an) fH (by kernel_rfl)
 have D__law_lots_by:DefN l.prog w K mg base true 1 "_law_lots_by" cS:=vd { sc:=ah ib,N:=["_law_many_here","_law_pairs","_law_lots","_law_x","_law_y","_law_one","_law_other"],alt:=[(215,112)],cmp:=[((210,16),["_law_x"]),((212,19),["_law_lot","_law_x"]),((213,21),["_law_lot","_law_y"]),((215,24),["_law_lot","_law_one","_law_other"])] } X G a5 (by decide +kernel) (fun _ _ _ _ _ _ us hl=>fx hl fun _ _=>rfl) (gk T KI an an an an) fH (by kernel_rfl)
 have D__law_due:DefN l.prog w K mg base true 1 "_law_due" gE:=vd { sc:=ah mO,N:=["_law_many_here","_law_row","_law_lots","_law_answers","_law_deed","_law_one","_law_other"],own:=["_law_answers"],cmp:=[((246,24),["_law_name","_law_one","_law_other"])] } X G a6 (by decide +kernel) (fun _ _ _ _ _ _ us hl=>fx hl fun _ _=>rfl) (gk T KI an an an an) fH (by kernel_rfl)
 have D_is_whole:DefN l.prog w K mg base true 1 "is_whole" di:=vd { sc:=ah m5,N:=["thing"] } X G a8 (by decide +kernel) (fun _ _ _ _ _ _ us hl=>jR hl fun _=>rfl) (gk T KI an an an an) fH (by kernel_rfl)
 have D_is_thing:DefN l.prog w K mg base true 2 "is_thing" aU:=vd { sc:=ah nc,N:=["many","thing"] } X G a9 (by decide +kernel) (fun _ _ _ _ _ _ us hl=>fx hl fun _ _=>rfl) (gk T KI an (ac D_is_whole an) an an) fH (by kernel_rfl)
 have D_is_deed:DefN l.prog w K mg base true 3 "is_deed" bK:=vd { sc:=ah o7,N:=["many","thing","word"],cmp:=[((82,15),["x","many"])] } X G a10 (by decide +kernel) (fun _ _ _ _ _ _ us hl=>fx hl fun _ _=>rfl) (gk T KI an (ac D_is_thing an) an an) fH (by kernel_rfl)
 have D_check_row:DefN l.prog w K mg base true 4 "check_row" fI:=vd { sc:=ah ll,N:=["many","row","is_right","number","place"] } X G a7 (by decide +kernel) (fun _ _ _ _ _ _ us hl=>tP hl fun _ _ _=>rfl) (gk T KI an an (ad D_is_deed (ae cj T.n_is_pair (ae bh T.n_is_telling (ad D_is_thing (ae d8 T.n_is_tie an))))) an) fH (by kernel_rfl)
 have D_copied:DefN l.prog w K mg base true 1 "copied" gi:=vd { sc:=ah ro,N:=["numbers"] } X G a11 (by decide +kernel) (fun _ _ _ _ _ _ us hl=>jR hl fun _=>rfl) (gk T KI an an an an) fH (by kernel_rfl)
 have D_find_none:DefN l.prog w K mg base true 1 "find_none" cb:=vd { sc:=ah iC,N:=["ups","x","at","steps"] } X G a12 (by decide +kernel) (fun _ _ _ _ _ _ us hl=>fx hl fun _ _=>rfl) (gk T KI an an an an) fH (by kernel_rfl)
 have L_find_none:DefL l.prog w K mg base true 1 "find_none" eJ:=Hu { sc:=ah iC,N:=["ups","x","at","steps"],lent:=true } X G a12 (by decide +kernel) (fun _ _ _ _ _ _ us hl=>fx hl fun _ _=>rfl) (gk T KI an an an an) fH (by kernel_rfl)
 have D_find_whole:DefN l.prog w K mg base true 2 "find_whole" qC:=vd { sc:=ah gI,N:=["ups","x","head","steps","at","above"],own:=["ups"] } X G a13 (by decide +kernel) (fun _ _ _ _ _ _ us hl=>fx hl fun _ _=>rfl) (gk T KI an (ac D_find_none an) an an) fH (by kernel_rfl)
 have L_find_whole:DefL l.prog w K mg base true 2 "find_whole" dD:=Hu { sc:=ah gI,N:=["ups","x","head","steps","at","above"],own:=["ups"],lent:=true } X G a13 (by decide +kernel) (fun _ _ _ _ _ _ us hl=>fx hl fun _ _=>rfl) (gk T KI an (ac D_find_none an) an an) fH (by kernel_rfl)
 have D_find_halves:DefN l.prog w K mg base true 1 "find_halves" oq:=vd { sc:=ah fY,N:=["ups","x","at","steps"],own:=["ups"] } X G a14 (by decide +kernel) (fun _ _ _ _ _ _ us hl=>fx hl fun _ _=>rfl) (gk T KI an an an an) fH (by kernel_rfl)
 have L_find_halves:DefL l.prog w K mg base true 1 "find_halves" cP:=Hu { sc:=ah fY,N:=["ups","x","at","steps"],own:=["ups"],lent:=true } X G a14 (by decide +kernel) (fun _ _ _ _ _ _ us hl=>fx hl fun _ _=>rfl) (gk T KI an an an an) fH (by kernel_rfl)
 have D_find_splits:DefN l.prog w K mg base true 1 "find_splits" ox:=vd { sc:=ah fW,N:=["ups","x","at","steps","above"],own:=["ups"] } X G a15 (by decide +kernel) (fun _ _ _ _ _ _ us hl=>fx hl fun _ _=>rfl) (gk T KI an an an an) fH (by kernel_rfl)
 have L_find_splits:DefL l.prog w K mg base true 1 "find_splits" cY:=Hu { sc:=ah fW,N:=["ups","x","at","steps","above"],own:=["ups"],lent:=true } X G a15 (by decide +kernel) (fun _ _ _ _ _ _ us hl=>fx hl fun _ _=>rfl) (gk T KI an an an an) fH (by kernel_rfl)
 have D_find_one:DefN l.prog w K mg base true 2 "find_one" tU:=vd { sc:=ah jE,N:=["ups","x","head","steps"],own:=["ups"] } X G a16 (by decide +kernel) (fun _ _ _ _ _ _ us hl=>fx hl fun _ _=>rfl) (gk T KI an (ac D_find_none an) an an) fH (by kernel_rfl)
 have L_find_one:DefL l.prog w K mg base true 2 "find_one" fF:=Hu { sc:=ah jE,N:=["ups","x","head","steps"],own:=["ups"],lent:=true } X G a16 (by decide +kernel) (fun _ _ _ _ _ _ us hl=>fx hl fun _ _=>rfl) (gk T KI an (ac D_find_none an) an an) fH (by kernel_rfl)
 have D_find_in:DefN l.prog w K mg base true 3 "find_in" gv:=vd { sc:=ah oW,N:=["ups","short","x","behind","manner","head","steps"],own:=["behind"] } X G a17 (by decide +kernel) (fun _ _ _ _ _ _ us hl=>tP hl fun _ _ _=>rfl) (gk T KI an an an (al L_find_none (al L_find_whole (al L_find_halves (al L_find_splits (al L_find_one an)))))) fH (by kernel_rfl)
 have D_find_done:DefN l.prog w K mg base true 4 "find_done" cJ:=vd { sc:=ah kZ,N:=["store","x","join","short","ups","marks","head","behind","steps"] } X G a18 (by decide +kernel) (fun _ _ _ _ _ _ us hl=>fx hl fun _ _=>rfl) (gk T KI an (ac D_find_in (ac D_copied an)) an an) fH (by kernel_rfl)
 have D_first_stays:DefN l.prog w K mg base true 1 "first_stays" dJ:=vd { sc:=ah jd,N:=["join","marks","first","second"] } X G a19 (by decide +kernel) (fun _ _ _ _ _ _ us hl=>Fe hl fun _ _ _ _=>rfl) (gk T KI an an an an) fH (by kernel_rfl)
 have D_mark_behind:DefN l.prog w K mg base true 1 "mark_behind" dP:=vd { sc:=ah jg,N:=["join","top","under"] } X G a20 (by decide +kernel) (fun _ _ _ _ _ _ us hl=>tP hl fun _ _ _=>rfl) (gk T KI an an an an) fH (by kernel_rfl)
 have D_with_heads_joined:DefN l.prog w K mg base true 2 "with_heads_joined" bF:=vd { sc:=ah eE,N:=["store","first","second","join","short","ups","marks","stays","top","under","new_ups","new_marks"],own:=["new_marks","new_ups"] } X G a21 (by decide +kernel) (fun _ _ _ _ _ _ us hl=>tP hl fun _ _ _=>rfl) (gk T KI an (ac D_first_stays (ac D_mark_behind an)) an an) fH (by kernel_rfl)
 have D_join_done:DefN l.prog w K mg base true 5 "join_done" fA:=vd { sc:=ah lC,N:=["store","x","y","after_x","first","steps_x","after_y","second","steps_y","steps"] } X G a22 (by decide +kernel) (fun _ _ _ _ _ _ us hl=>tP hl fun _ _ _=>rfl) (gk T KI an (ac D_find_done (ac D_with_heads_joined an)) an an) fH (by kernel_rfl)
 have D_deed_done:DefN l.prog w K mg base true 6 "deed_done" d4:=vd { sc:=ah lv,N:=["store","deed"] } X G a23 (by decide +kernel) (fun _ _ _ _ _ _ us hl=>fx hl fun _ _=>rfl) (gk T KI an (ac D_join_done (ac D_find_done an)) an an) fH (by kernel_rfl)
 have D_run:DefN l.prog w K mg base true 7 "run" q6:=vd { sc:=ah Di,N:=["store","row","join","short","ups","marks","behind","answers","steps","deed","answer","count"],own:=["answers","steps"],frz:=[(141,[7,8])] } X G a24 (by decide +kernel) (fun _ _ _ _ _ _ us hl=>fx hl fun _ _=>rfl) (gk T KI (av ⟨_,M_is_deed⟩ an) (ac D_check_row (ac D_copied (ac D_deed_done an))) an an) fH (by kernel_rfl)
 have D_is_many:DefN l.prog w K mg base true 2 "is_many" gm:=vd { sc:=ah pf,N:=["thing"] } X G a25 (by decide +kernel) (fun _ _ _ _ _ _ us hl=>jR hl fun _=>rfl) (gk T KI an (ac D_is_whole an) an an) fH (by kernel_rfl)
 have D_check_many:DefN l.prog w K mg base true 3 "check_many" gB:=vd { sc:=ah km,N:=["many"] } X G a26 (by decide +kernel) (fun _ _ _ _ _ _ us hl=>jR hl fun _=>rfl) (gk T KI an (ac D_is_many an) an an) fH (by kernel_rfl)
 have D_is_way_of_joining:DefN l.prog w K mg base true 1 "is_way_of_joining" bH:=vd { sc:=ah eH,N:=["thing"] } X G a27 (by decide +kernel) (fun _ _ _ _ _ _ us hl=>jR hl fun _=>rfl) (gk T KI an an an an) fH (by kernel_rfl)
 have D_check_join:DefN l.prog w K mg base true 2 "check_join" gY:=vd { sc:=ah jZ,N:=["join"] } X G a28 (by decide +kernel) (fun _ _ _ _ _ _ us hl=>jR hl fun _=>rfl) (gk T KI an (ac D_is_way_of_joining an) an an) fH (by kernel_rfl)
 have D_is_short:DefN l.prog w K mg base true 1 "is_short" gX:=vd { sc:=ah nv,N:=["thing"] } X G a29 (by decide +kernel) (fun _ _ _ _ _ _ us hl=>jR hl fun _=>rfl) (gk T KI an an an an) fH (by kernel_rfl)
 have D_check_short:DefN l.prog w K mg base true 2 "check_short" dH:=vd { sc:=ah jh,N:=["short"] } X G a30 (by decide +kernel) (fun _ _ _ _ _ _ us hl=>jR hl fun _=>rfl) (gk T KI an (ac D_is_short an) an an) fH (by kernel_rfl)
 have D_new_store:DefN l.prog w K mg base true 4 "new_store" dX:=vd { sc:=ah lD,N:=["many","join","short","mark"],alt:=[(154,25)] } X G a31 (by decide +kernel) (fun _ _ _ _ _ _ us hl=>tP hl fun _ _ _=>rfl) (gk T KI an (ac D_check_many (ac D_check_join (ac D_check_short an))) an an) fH (by kernel_rfl)
 have D__law_way:DefN l.prog w K mg base true 1 "_law_way" de:=vd { sc:=ah md,N:=["_law_ups","_law_x","_law_way_here"],own:=["_law_way_here"] } X G a32 (by decide +kernel) (fun _ _ _ _ _ _ us hl=>fx hl fun _ _=>rfl) (gk T KI an an an an) fH (by kernel_rfl)
 have D__law_head:DefN l.prog w K mg base true 2 "_law_head" cf:=vd { sc:=ah k8,N:=["_law_ups","_law_x"] } X G a33 (by decide +kernel) (fun _ _ _ _ _ _ us hl=>fx hl fun _ _=>rfl) (gk T KI an (ac D__law_way an) an an) fH (by kernel_rfl)
 have D__law_lots_of:DefN l.prog w K mg base true 3 "_law_lots_of" aX:=vd { sc:=ah iA,N:=["_law_ups","_law_lots","_law_x"],frz:=[(208,[1])],cmp:=[((208,18),["_law_head_here","_law_lots"])],dic:=["_law_lots"] } X G a34 (by decide +kernel) (fun _ _ _ _ _ _ us hl=>jR hl fun _=>rfl) (gk T KI an (ac D__law_head an) an an) fH (by kernel_rfl)
 have D_done:DefN l.prog w K mg base true 7 "done" my:=vd { sc:=ah y4,N:=["store","deed"] } X G a35 (by decide +kernel) (fun _ _ _ _ _ _ us hl=>fx hl fun _ _=>rfl) (gk T KI an (ac D_deed_done (ac D_is_deed an)) an an) fH (by kernel_rfl)
 have D__law_doublings:DefN l.prog w K mg base true 1 "_law_doublings" bN:=vd { sc:=ah gd,N:=["_law_number","_law_times"] } X G a36 (by decide +kernel) (fun _ _ _ _ _ _ us hl=>jR hl fun _=>rfl) (gk T KI an an an an) fH (by kernel_rfl)
 have D__law_lots_right:DefN l.prog w K mg base true 4 "_law_lots_right" b9:=vd { sc:=ah fJ,N:=["_law_join","_law_store","_law_lots","_law_ups","_law_marks","_law_lot","_law_heads","_law_most"],cmp:=[((228,21),["_law_x","_law_ups"]),((229,43),["_law_x","_law_ups","_law_lot"]),((232,49),["_law_x","_law_ups"])] } X G a37 (by decide +kernel) (fun _ _ _ _ _ _ us hl=>tP hl fun _ _ _=>rfl) (gk T KI an (ac D__law_lots_of (ac D__law_doublings (ac D__law_way an))) an an) fH (by kernel_rfl)
 exact⟨{ sc:=ah C2,N:=["_law_script","_law_xs","_law_many_here","_law_row","_law_pairs","_law_lots","_law_answers","_law_order","_law_other","_law_join","_law_short","_law_store","_law_told","_law_steps","_law_now_one","_law_x","_law_behind","_law_head_here","_law_count"],cmp:=[((252,17),["_law_deed"]),((255,17),["_law_pair"]),((255,55),["_law_k","_law_xs"]),((256,23),["_law_k","_law_pairs"]),((260,27),["_law_k","_law_told","_law_row"])] },_,(gk T KI an (ac D__law_numbers (ac D__law_many (ac D__law_deeds (ac D__law_lots_by (ac D__law_due (ac D__law_cell (ac D_run (ac D_new_store (ac D__law_lots_of (ac D_done (ac D__law_lots_right (ac D__law_head (ac D__law_way an))))))))))))) an an),fH,by kernel_rfl,rfl,rfl,rfl⟩
end K16
end
section
namespace Fo
open PySem
noncomputable def zX (us:List Nat):Nat->Nat->List Nat
 |0,x=>[x]
 |n+1,x=>if up us x=x then [x] else x::zX us n (up us x)
noncomputable def way (us:List Nat)(x:Nat):List Nat:=zX us us.length x
theorem Ck {us:List Nat}{x:Nat}{l:List Nat}(w:Way us x l):∀{n:Nat},l.length≤n+1->zX us n x=l:=by
 induction w with
 | @head x e=>
  intro n h
  cases n with
  |zero=>rfl
  |succ n=>rw[zX,if_pos e]
 | @step x l ne w ih=>
  intro n h
  cases n with
  |zero=>have:=w.pos;rw[List.length_cons] at h;omega
  |succ n=>rw[zX,if_neg ne,ih (by simpa using h)]
theorem eB {us:List Nat}{x:Nat}{l:List Nat}(f:Fst us)(hx:x<us.length)(w:Way us x l):way us x=l:=by
 obtain⟨l',w',h⟩:=f.way hx
 cases w.det w'
 exact Ck w (by omega)
theorem aC {us:List Nat}{x:Nat}(f:Fst us)(hx:x<us.length):Way us x (way us x):=by
 obtain⟨l,w,_⟩:=f.way hx
 rw[eB f hx w];exact w
theorem iU {us:List Nat}{x:Nat}(f:Fst us)(hx:x<us.length):(way us x).length≤us.length:=by
 obtain⟨l,w,h⟩:=f.way hx
 rw[eB f hx w];exact h
noncomputable def hd (us:List Nat)(x:Nat):Nat:=bn (way us x)
noncomputable def dp (us:List Nat)(x:Nat):Nat:=(way us x).length - 1
noncomputable def gu (y:Str)(us:List Nat)(x t:Nat):Nat:=
 if y = "whole" then (if t∈way us x then hd us x else up us t)
 else if y = "halves" then (if t∈g9 (way us x) then up us (up us t) else up us t)
 else if y = "splits" then (if t∈way us x then up us (up us t) else up us t)
 else if y = "one" then (if t=x then up us (up us t) else up us t)
 else up us t
noncomputable def cw (y:Str)(us:List Nat)(x:Nat):List Nat:=(List.range us.length).map (gu y us x)
noncomputable def stp (y:Str)(us:List Nat)(x:Nat):Nat:=if y = "halves" then (way us x).length / 2 else dp us x
theorem lX {us:List Nat}{t:Nat}(h:us.length≤t):up us t=0:=by
 unfold up;rw[List.getD_eq_getElem?_getD,List.getElem?_eq_none h];rfl
theorem b0 (y:Str)(us:List Nat)(x:Nat):(cw y us x).length=us.length:=by unfold cw;rw[List.length_map,List.length_range]
theorem qz {y:Str}{us:List Nat}{x t:Nat}(h:t<us.length):up (cw y us x) t=gu y us x t:=by
 unfold up cw
 rw[List.getD_eq_getElem?_getD,List.getElem?_map,List.getElem?_range h];rfl
theorem iM {y:Str}{us us':List Nat}{x:Nat}(hl:us'.length=us.length)(h:∀t,t<us.length->up us' t=gu y us x t):us'=cw y us x:=by
 refine FC (by rw[hl,b0]) fun t=>?_
 by_cases ht:t<us.length
 ·rw[h t ht,qz ht]
 ·rw[lX (by omega),lX (by rw[b0];omega)]
end Fo
namespace Dp
open PySem L2 Dp Fo
end Dp
namespace Lo
open PySem Fo Dp
noncomputable def tL (acc:List (Nat×List Nat))(h x:Nat):List (Nat×List Nat):=
 if acc.any (fun t=>decide (t.1=h)) then acc.map (fun t=>if t.1=h then (t.1,t.2++[x]) else t) else acc++[(h,[x])]
noncomputable def c7 (us:List Nat)(n:Nat):List (Nat×List Nat):=(List.range n).foldl (fun acc x=>tL acc (hd us x) x) []
noncomputable def Er (us:List Nat):List (List Nat):=(c7 us us.length).map (·.2)
end Lo
end
section
namespace Fo
open PySem L2
theorem cF {us:List Nat}{x t:Nat}(f:Fst us)(hx:x<us.length)(h:t∈way us x):t<us.length:=(aC f hx).lt f.bnd hx t h
theorem ti {us:List Nat}(f:Fst us){x:Nat}(hx:x<us.length){y:Str}(hy:y∈ay):RM y us x (hd us x) (cw y us x) (stp y us x):=by
 have w:=aC f hx
 have pos:=w.pos
 have low:∀t,us.length≤t->up (cw y us x) t=0/\up us t=0/\t∉way us x:=fun t ht=>⟨lX (by rw[b0];omega),lX ht,fun q=>by have:=cF f hx q;omega⟩
 have hdp:dp us x+1=(way us x).length:=by unfold dp;omega
 rcases (show y = "none"\/y = "whole"\/y = "halves"\/y = "splits"\/y = "one" by simpa [ay] using hy) with rfl|rfl|rfl|rfl|rfl
 ·exact .none ⟨(iM rfl fun t ht=>rfl).symm,_,w,rfl,hdp⟩
 ·refine .whole ⟨_,w,rfl,hdp,b0 ..,fun t=>?_⟩
  by_cases ht:t<us.length
  ·rw[qz ht];rfl
  ·obtain⟨a,b,c⟩:=low t (by omega)
   rw[a,b,if_neg c]
 ·refine .halves ⟨_,w,rfl,rfl,b0 ..,fun t=>?_⟩
  by_cases ht:t<us.length
  ·rw[qz ht];rfl
  ·obtain⟨a,b,c⟩:=low t (by omega)
   rw[a,b,if_neg fun q=>c (kR _ _ q)]
 ·refine .splits ⟨_,w,rfl,hdp,b0 ..,fun t=>?_⟩
  by_cases ht:t<us.length
  ·rw[qz ht];rfl
  ·obtain⟨a,b,c⟩:=low t (by omega)
   rw[a,b,if_neg c]
 ·refine .one ⟨(iM (List.length_set) fun t ht=>?_).symm,_,w,rfl,hdp⟩
  rw[aI hx]
  show (if t=x then up us (up us x) else up us t)=if t=x then up us (up us t) else up us t
  by_cases q:t=x
  ·rw[if_pos q,if_pos q,q]
  ·rw[if_neg q,if_neg q]
theorem gf {us:List Nat}(f:Frst us){x:Nat}(hx:x<us.length){y:Str}(hy:y∈ay):Frst (cw y us x):=((ti f.fst hx hy).frst f hx).1
theorem nF {us:List Nat}{x:Nat}(f:Fst us)(hx:x<us.length)(e:up us x=x):way us x=[x]:=eB f hx (.head e)
theorem jG {us:List Nat}{x:Nat}(f:Fst us)(hx:x<us.length)(e:up us x≠x):way us x=x::way us (up us x):=eB f hx (.step e (aC f (f.bnd x hx)))
theorem aG {us:List Nat}{x:Nat}(f:Fst us)(hx:x<us.length)(e:up us x=x):hd us x=x:=by unfold hd;rw[nF f hx e];rfl
theorem Be {us:List Nat}{x:Nat}(f:Fst us)(hx:x<us.length)(e:up us x≠x):hd us x=hd us (up us x):=by
 unfold hd
 rw[jG f hx e,aZ (aC f (f.bnd x hx)).ne]
theorem re {us:List Nat}{x:Nat}(f:Fst us)(hx:x<us.length):hd us (up us x)=hd us x:=by
 by_cases e:up us x=x
 ·rw[e]
 ·exact (Be f hx e).symm
theorem fE {us:List Nat}{x:Nat}(f:Fst us)(hx:x<us.length):up us (hd us x)=hd us x:=(aC f hx).head_last
theorem c8 {us:List Nat}{x:Nat}(f:Fst us)(hx:x<us.length):hd us x<us.length:=cF f hx (mE (aC f hx).ne)
theorem yU {us:List Nat}(f:Fst us){x:Nat}(hx:x<us.length){y:Str}(hy:y∈ay){t:Nat}(ht:t<us.length):hd (cw y us x) t=hd us t/\dp (cw y us x) t≤dp us t:=by
 obtain⟨l,L⟩:=(ti f hx hy).left f hx
 obtain⟨l',w',e1,e2⟩:=L.sh.way f ht (aC f ht)
 have f':=L.sh.fst f
 have:=eB f' (by rw[b0];exact ht) w'
 unfold hd dp
 rw[this]
 exact⟨e1,by omega⟩
end Fo
end
section
namespace Dp
open PySem L2 Fo
theorem sR (is:List Int):cu (is.map PV.int)=some is:=by
 induction is with
 |nil=>rfl
 |cons b bs ih=>rw[List.map_cons,cu,ih];rfl
theorem Hn:List.lookup ("is_deed" : Str) [("is_deed",bK),("is_pair",cj),("is_telling",bh),("is_thing",aU),("is_tie",d8)]=some bK:=rfl
theorem HA:List.lookup ("is_pair" : Str) [("is_deed",bK),("is_pair",cj),("is_telling",bh),("is_thing",aU),("is_tie",d8)]=some cj:=rfl
theorem K2:List.lookup ("is_telling" : Str) [("is_deed",bK),("is_pair",cj),("is_telling",bh),("is_thing",aU),("is_tie",d8)]=some bh:=rfl
theorem KT:List.lookup ("is_thing" : Str) [("is_deed",bK),("is_pair",cj),("is_telling",bh),("is_thing",aU),("is_tie",d8)]=some aU:=rfl
theorem KW:List.lookup ("is_tie" : Str) [("is_deed",bK),("is_pair",cj),("is_telling",bh),("is_thing",aU),("is_tie",d8)]=some d8:=rfl
theorem vn {y:Str}:∀{xs:List Str} {ps:List PV},ps.length=xs.length->(lM (xs.map Sum.inr) ps (.inr y)).isSome=decide (y∈xs)
 |[],_,_=>rfl
 |x::xs,[],h=>by cases h
 |x::xs,p::ps,h=>by
  rw[List.map_cons]
  show (if (Sum.inr x:bP)=Sum.inr y then some p else lM (xs.map Sum.inr) ps (.inr y)).isSome=_
  by_cases e:x=y
  ·subst e;rw[if_pos rfl];simp
  ·rw[if_neg (fun q=>e (Sum.inr.inj q)),vn (by simpa using h)]
   have:(y∈x::xs)↔y∈xs:=by simp[Ne.symm e]
   simp only[this]
theorem sJ (y:Str):gX [.str y]=some (.v (.bl (decide (y∈ay)))):=by
 have h:=vn (y:=y) (xs:=ay) (ps:=[.fn "find_none",.fn "find_whole",.fn "find_halves",.fn "find_splits",.fn "find_one"]) rfl
 have h:(lM [.inr "none",.inr "whole",.inr "halves",.inr "splits",.inr "one"] [.fn "find_none",.fn "find_whole",.fn "find_halves",.fn "find_splits",.fn "find_one"] (.inr y)).isSome=decide (y∈ay):=h
 simp_all! [qB,gA,h]
theorem uZ {c:FB}{b:FS}(hc:c=ce\/c=bU)(hb':b=c5\/b=cB){t:Sl}{us:List Nat}(ht:t=.val (.lst (af us))\/t=.own (af us))(hb:∀x,x<us.length->up us x<us.length){s1:Option Sl}{y:Nat}{l:List Nat}(w:Way us y l):∀(k:Nat),y<us.length →
  ∀n,l.length<n->bj c b n [some t,s1,some (.val (.int y)),some (.val (.int k))]=.nx [some t,s1,some (.val (.int (bn l))),some (.val (.int (k+l.length - 1:Nat)))]:=by
 induction w with
 | @head y e=>
  intro k hy n hn
  obtain⟨n,rfl⟩:∃k,n=k+1:=⟨n - 1,by simp at hn;omega⟩
  rw[cM]
  rcases hc with rfl|rfl<;>rcases ht with rfl|rfl <;>
   simp![ce,bU,am hy,e,bn,List.getLastD_cons]<;>rfl
 | @step y l ne w ih=>
  intro k hy n hn
  obtain⟨n,rfl⟩:∃k,n=k+1:=⟨n - 1,by simp at hn;omega⟩
  have ih:=ih (k+1) (hb y hy) n (by simp at hn;omega)
  have hne:decide ((up us y:Int)=(y:Int))=false:=decide_eq_false (by omega)
  rw[aZ w.ne,show k+(y::l).length - 1=k+1+l.length - 1 by rw[List.length_cons];omega]
  rw[cM]
  rcases hc with rfl|rfl<;>rcases hb' with rfl|rfl<;>rcases ht with rfl|rfl <;>
   (simp![ce,c5,bU,cB,am hy,hne];exact ih)
theorem sV {us:List Nat}(f:Frst us){x:Nat}(hx:x<us.length):cb [.lst (af us),.int x]=some (.v (.tup [.int (hd us x),.int (dp us x:Nat)]))/\eJ (af us) [.int x]=some (af us,.tup [.int (hd us x),.int (dp us x:Nat)]):=by
 have hl:=iU f.fst hx
 have hm:=f.most
 have e1:=uZ (.inl rfl) (.inl rfl) (t:=.val (.lst (af us))) (.inl rfl) f.fst.bnd (s1:=some (.val (.int x))) (aC f.fst hx) 0 hx 10000 (by omega)
 have e2:=uZ (.inr rfl) (.inr rfl) (t:=.own (af us)) (.inr rfl) f.fst.bnd (s1:=some (.val (.int x))) (aC f.fst hx) 0 hx 10000 (by omega)
 rw[Nat.zero_add] at e1 e2
 have e1:bj ce c5 10000 [some (.val (.lst (af us))),some (.val (.int x)),some (.val (.int x)),some (.val (.int 0))]=_:=e1
 have e2:bj bU cB 10000 [some (.own (af us)),some (.val (.int x)),some (.val (.int x)),some (.val (.int 0))]=_:=e2
 refine⟨by simp![oz,fO,e1];rfl,?_⟩
 show jV (ft [some (.own (af us)),some (.val (.int x)),none,none]).res2=_
 simp![ft,e2];rfl
section
variable {us:List Nat}{x t:Nat}
theorem xa:gu "halves" us x t=if t∈g9 (way us x) then up us (up us t) else up us t:=by unfold gu;rw[if_neg (by decide),if_pos rfl]
theorem wF:gu "splits" us x t=if t∈way us x then up us (up us t) else up us t:=by unfold gu;rw[if_neg (by decide),if_neg (by decide),if_pos rfl]
theorem Eu:gu "one" us x t=if t=x then up us (up us t) else up us t:=by unfold gu;rw[if_neg (by decide),if_neg (by decide),if_neg (by decide),if_pos rfl]
theorem nu_none:gu "none" us x t=up us t:=by unfold gu;rw[if_neg (by decide),if_neg (by decide),if_neg (by decide),if_neg (by decide)]
end
theorem Hy {us:List Nat}(f:Frst us){x:Nat}(hx:x<us.length):up us x<us.length:=f.fst.bnd x hx
theorem Iz {us:List Nat}(f:Frst us){x:Nat}(hx:x<us.length):fF (af us) [.int x]=some (af (us.set x (up us (up us x))),.tup [.int (hd us x),.int (dp us x:Nat)]):=by
 have h1:=am hx
 have h2:=am (Hy f hx)
 have h3:pb us.length (x:Int)=some x:=cL hx
 show jV (fR [some (.own (af us)),some (.val (.int x)),none,none]).res2=_
 simp![fR,(sV f hx).1,h1,h2,h3,nI,eQ,tf,Cp,fZ]
theorem Ct {us:List Nat}(f:Fst us){s1 s3:Option Sl}{h:Nat}{y:Nat}{l:List Nat}(w:Way us y l)(hh:h=bn l):∀(pre vs:List Nat) (z:Option Sl),(∀t∈pre,t∉l)->vs.length=us.length->(∀t,up vs t=if t∈pre then h else up us t)->y<us.length->∀n,l.length<n →
  ∃vs' z',vs'.length=us.length/\(∀t,up vs' t=if t∈pre\/t∈l then h else up us t)/\bj bL ci n [some (.own (af vs)),s1,some (.val (.int h)),s3,some (.val (.int y)),z]=.nx [some (.own (af vs')),s1,some (.val (.int h)),s3,some (.val (.int h)),z']:=by
 induction w with
 | @head y e=>
  intro pre vs z hp hl hv hy n hn
  obtain⟨n,rfl⟩:∃k,n=k+1:=⟨n - 1,by simp at hn;omega⟩
  obtain rfl:h=y:=hh
  refine⟨vs,z,hl,fun t=>?_,?_⟩
  ·rw[hv t]
   by_cases ht:t=h
   ·subst ht;rw[e];simp
   ·simp[ht]
  ·rw[cM]
   simp![bL]
 | @step y l ne w ih=>
  intro pre vs z hp hl hv hy n hn
  obtain⟨n,rfl⟩:∃k,n=k+1:=⟨n - 1,by simp at hn;omega⟩
  have nd:=(Way.step ne w).nodup f hy
  have hyl:y∉l:=(List.nodup_cons.mp nd).1
  have hyp:y∉pre:=fun q=>hp y q List.mem_cons_self
  rw[aZ w.ne] at hh
  have hne:decide ((y:Int)=(h:Int))=false:=decide_eq_false (fun q=>by
   have:y=h:=by omega
   rw[this,hh] at hyl;exact hyl (mE w.ne))
  have hu:up vs y=up us y:=by rw[hv y,if_neg hyp]
  have h1:L2.bQ (af vs) (y:Int)=some (nI (up us y)):=by rw[am (by rw[hl];exact hy),hu]
  have h3:pb vs.length (y:Int)=some y:=cL (by rw[hl];exact hy)
  obtain⟨vs',z',a1,a2,a3⟩:=ih hh (y::pre) (vs.set y h) (some (.val (.int (up us y)))) (fun t ht=>by
    rcases List.mem_cons.mp ht with rfl|ht
    ·exact hyl
    ·exact fun q=>hp t ht (List.mem_cons_of_mem _ q)) (by rw[List.length_set];exact hl) (fun t=>by
    rw[aI (by rw[hl];exact hy),hv t]
    by_cases q:t=y
    ·simp[q]
    ·simp[q]) (f.bnd y hy) n (by simp at hn;omega)
  refine⟨vs',z',a1,fun t=>?_,?_⟩
  ·rw[a2 t]
   by_cases q:t=y<;>simp[q]
  ·rw[cM]
   simp![bL,ci,h1,h3,hne,nI,eQ]
   exact a3
theorem xl {us:List Nat}(f:Frst us){x:Nat}(hx:x<us.length):dD (af us) [.int x]=some (af (cw "whole" us x),.tup [.int (hd us x),.int (dp us x:Nat)]):=by
 have hl:=iU f.fst hx
 have hm:=f.most
 obtain⟨vs,z,a1,a2,a3⟩:=Ct f.fst (s1:=some (.val (.int x))) (s3:=some (.val (.int (dp us x:Nat)))) (aC f.fst hx) rfl [] us none (by simp) rfl (by simp) hx 10000 (by omega)
 have e:vs=cw "whole" us x:=iM a1 fun t ht=>by rw[a2 t];simp[gu,hd]
 subst e
 have a3:bj bL ci 10000 [some (.own (af us)),some (.val (.int x)),some (.val (.int (hd us x))),some (.val (.int (dp us x:Nat))),some (.val (.int x)),none]=_:=a3
 show jV (eA [some (.own (af us)),some (.val (.int x)),none,none,none,none]).res2=_
 simp![eA,(sV f hx).1,a3,nI,tf,Cp,fZ];rfl
theorem Bh {us:List Nat}(f:Fst us){s1:Option Sl}{y:Nat}{l:List Nat}(w:Way us y l):∀(pre vs:List Nat) (k:Nat) (z:Option Sl),(∀t∈pre,t∉l)->vs.length=us.length->(∀t,up vs t=if t∈pre then up us (up us t) else up us t)->y<us.length->∀n,l.length<n →
  ∃vs' z',vs'.length=us.length/\(∀t,up vs' t=if t∈pre\/t∈l then up us (up us t) else up us t)/\bj bw bZ n [some (.own (af vs)),s1,some (.val (.int y)),some (.val (.int k)),z]=.nx [some (.own (af vs')),s1,some (.val (.int (bn l))),some (.val (.int (k+l.length - 1:Nat))),z']:=by
 induction w with
 | @head y e=>
  intro pre vs k z hp hl hv hy n hn
  obtain⟨n,rfl⟩:∃k,n=k+1:=⟨n - 1,by simp at hn;omega⟩
  have hyp:y∉pre:=fun q=>hp y q List.mem_cons_self
  have h1:L2.bQ (af vs) (y:Int)=some (nI y):=by rw[am (by rw[hl];exact hy),hv y,if_neg hyp,e]
  refine⟨vs,z,hl,fun t=>?_,?_⟩
  ·rw[hv t]
   by_cases ht:t=y
   ·subst ht;rw[e,e];simp
   ·simp[ht]
  ·rw[cM]
   simp![bw,h1];rfl
 | @step y l ne w ih=>
  intro pre vs k z hp hl hv hy n hn
  obtain⟨n,rfl⟩:∃k,n=k+1:=⟨n - 1,by simp at hn;omega⟩
  have nd:=(Way.step ne w).nodup f hy
  have hyl:y∉l:=(List.nodup_cons.mp nd).1
  have hyp:y∉pre:=fun q=>hp y q List.mem_cons_self
  have ha:=f.bnd y hy
  have hap:up us y∉pre:=fun q=>hp _ q (List.mem_cons_of_mem _ w.mem_self)
  have hne:decide ((up us y:Int)=(y:Int))=false:=decide_eq_false (by omega)
  have h1:L2.bQ (af vs) (y:Int)=some (nI (up us y)):=by rw[am (by rw[hl];exact hy),hv y,if_neg hyp]
  have h2:L2.bQ (af vs) (up us y:Int)=some (nI (up us (up us y))):=by rw[am (by rw[hl];exact ha),hv _,if_neg hap]
  have h3:pb vs.length (y:Int)=some y:=cL (by rw[hl];exact hy)
  obtain⟨vs',z',a1,a2,a3⟩:=ih (y::pre) (vs.set y (up us (up us y))) (k+1) (some (.val (.int (up us y)))) (fun t ht=>by
    rcases List.mem_cons.mp ht with rfl|ht
    ·exact hyl
    ·exact fun q=>hp t ht (List.mem_cons_of_mem _ q)) (by rw[List.length_set];exact hl) (fun t=>by
    rw[aI (by rw[hl];exact hy),hv t]
    by_cases q:t=y
    ·simp[q]
    ·simp[q]) ha n (by simp at hn;omega)
  refine⟨vs',z',a1,fun t=>?_,?_⟩
  ·rw[a2 t]
   by_cases q:t=y<;>simp[q]
  ·rw[aZ w.ne,show k+(y::l).length - 1=k+1+l.length - 1 by rw[List.length_cons];omega]
   rw[cM]
   simp![bw,bZ,h1,h2,h3,hne,nI,eQ]
   exact a3
theorem tG {us:List Nat}(f:Frst us){x:Nat}(hx:x<us.length):cY (af us) [.int x]=some (af (cw "splits" us x),.tup [.int (hd us x),.int (dp us x:Nat)]):=by
 have hl:=iU f.fst hx
 have hm:=f.most
 obtain⟨vs,z,a1,a2,a3⟩:=Bh f.fst (s1:=some (.val (.int x))) (aC f.fst hx) [] us 0 none (by simp) rfl (by simp) hx 10000 (by omega)
 have e:vs=cw "splits" us x:=iM a1 fun t ht=>by
  rw[a2 t,wF]
  simp only[List.not_mem_nil,false_or]
 subst e
 rw[Nat.zero_add] at a3
 have a3:bj bw bZ 10000 [some (.own (af us)),some (.val (.int x)),some (.val (.int x)),some (.val (.int 0)),none]=_:=a3
 show jV (dh [some (.own (af us)),some (.val (.int x)),none,none,none]).res2=_
 simp![dh,a3];rfl
theorem B0 {us:List Nat}(f:Fst us){s1:Option Sl}:∀(m:Nat) {y:Nat} {l:List Nat},l.length≤m->Way us y l->∀(pre vs:List Nat) (k:Nat),(∀t∈pre,t∉l)->vs.length=us.length->(∀t,up vs t=if t∈pre then up us (up us t) else up us t)->y<us.length->∀n,l.length<n →
  ∃vs',vs'.length=us.length/\(∀t,up vs' t=if t∈pre\/t∈g9 l then up us (up us t) else up us t)/\bj bz bY n [some (.own (af vs)),s1,some (.val (.int y)),some (.val (.int k))]=.nx [some (.own (af vs')),s1,some (.val (.int (bn l))),some (.val (.int (k+l.length / 2:Nat)))]:=by
 intro m
 induction m with
 |zero=>intro y l hm w;have:=w.pos;omega
 |succ m ih=>
  intro y l hm w pre vs k hp hl hv hy n hn
  obtain⟨n,rfl⟩:∃k,n=k+1:=⟨n - 1,by have:=w.pos;omega⟩
  have hyp:y∉pre:=fun q=>hp y q w.mem_self
  have h0:L2.bQ (af vs) (y:Int)=some (nI (up us y)):=by rw[am (by rw[hl];exact hy),hv y,if_neg hyp]
  cases w with
  |head e=>
   refine⟨vs,hl,fun t=>?_,?_⟩
   ·rw[hv t]
    by_cases ht:t=y
    ·subst ht;rw[e,e];simp
    ·simp[ht,g9]
   ·rw[cM]
    simp![bz,h0,e];rfl
  | @step _ l ne w=>
   have nd:=(Way.step ne w).nodup f hy
   have hyl:y∉l:=(List.nodup_cons.mp nd).1
   have ha:=f.bnd y hy
   have hap:up us y∉pre:=fun q=>hp _ q (List.mem_cons_of_mem _ w.mem_self)
   have hb:=f.bnd _ ha
   have hne:decide ((up us y:Int)=(y:Int))=false:=decide_eq_false (by omega)
   have h2:L2.bQ (af vs) (up us y:Int)=some (nI (up us (up us y))):=by rw[am (by rw[hl];exact ha),hv _,if_neg hap]
   have h3:pb vs.length (y:Int)=some y:=cL (by rw[hl];exact hy)
   have hs:(vs.set y (up us (up us y))).length=us.length:=by rw[List.length_set];exact hl
   have hu:∀t,up (vs.set y (up us (up us y))) t=if t∈y::pre then up us (up us t) else up us t:=fun t=>by
    rw[aI (by rw[hl];exact hy),hv t]
    by_cases q:t=y
    ·simp[q]
    ·simp[q]
   have h4:L2.bQ (af (vs.set y (up us (up us y)))) (y:Int)=some (nI (up us (up us y))):=by rw[am (by rw[hs];exact hy),hu y,if_pos List.mem_cons_self]
   obtain⟨l2,w2,e2,e3,e4,e5⟩:∃l2,Way us (up us (up us y)) l2/\l2.length / 2+1=(l.length+1) / 2/\bn l2=bn l/\(∀t,t∈l2->t∈l)/\l2.length≤l.length/\∀t,(t∈g9 (y::l)↔t=y\/t∈g9 l2)\/up us (up us t)=up us t:=by
    cases w with
    |head e=>exact⟨[up us y],by rw[e];exact .head e,(by show 1 / 2+1=(1+1) / 2;decide),rfl,fun t h=>h,Nat.le_refl _,fun t=>by
      by_cases q:t=up us y
      ·subst q;exact .inr (by rw[e,e])
      ·exact .inl (by show t∈[y]↔t=y\/t∈[up us y];rw[List.mem_singleton,List.mem_singleton];exact⟨.inl,fun h=>h.resolve_right q⟩)⟩
    | @step _ l2 ne2 w2=>exact⟨l2,w2,by simp only[List.length_cons];omega,(aZ w2.ne).symm,fun t h=>List.mem_cons_of_mem _ h,by simp,fun t=>.inl (by simp[g9])⟩
   obtain⟨e5,e6⟩:=e5
   obtain⟨vs',a1,a2,a3⟩:=ih (y:=up us (up us y)) (l:=l2) (by simp at hm;omega) w2 (y::pre) _ (k+1) (fun t ht=>by
    rcases List.mem_cons.mp ht with rfl|ht
    ·exact fun q=>hyl (e4 _ q)
    ·exact fun q=>hp t ht (List.mem_cons_of_mem _ (e4 _ q))) hs hu hb n (by simp at hn;omega)
   refine⟨vs',a1,fun t=>?_,?_⟩
   ·rw[a2 t]
    rcases e6 t with q|q
    ·simp only[List.mem_cons,q]
     by_cases h1:t=y<;>by_cases h2:t∈pre<;>by_cases h3:t∈g9 l2<;>simp[h1,h2,h3]
    ·rw[q];simp
   ·rw[aZ w.ne,←e3,show k+(y::l).length / 2=k+1+l2.length / 2 by rw[List.length_cons];omega]
    rw[cM]
    simp![bz,bY,h0,h2,h3,hne,nI,eQ,h4]
    exact a3
theorem tV {us:List Nat}(f:Frst us){x:Nat}(hx:x<us.length):cP (af us) [.int x]=some (af (cw "halves" us x),.tup [.int (hd us x),.int ((way us x).length / 2:Nat)]):=by
 have hl:=iU f.fst hx
 have hm:=f.most
 obtain⟨vs,a1,a2,a3⟩:=B0 f.fst (s1:=some (.val (.int x))) _ (Nat.le_refl _) (aC f.fst hx) [] us 0 (by simp) rfl (by simp) hx 10000 (by omega)
 have e:vs=cw "halves" us x:=iM a1 fun t ht=>by
  rw[a2 t,xa]
  simp only[List.not_mem_nil,false_or]
 subst e
 rw[Nat.zero_add] at a3
 have a3:bj bz bY 10000 [some (.own (af us)),some (.val (.int x)),some (.val (.int x)),some (.val (.int 0))]=_:=a3
 show jV (dz [some (.own (af us)),some (.val (.int x)),none,none]).res2=_
 simp![dz,a3];rfl
theorem xg {us:List Nat}(f:Frst us){y:Str}(hy:y∈ay){x:Nat}(hx:x<us.length):gv [.tup (af us),.str y,nI x]=some (.v (.tup [nI (hd us x),.tup (af (cw y us x)),nI (stp y us x)])):=by
 have one:us.set x (up us (up us x))=cw "one" us x:=(iM List.length_set fun t ht=>by
  rw[aI hx,Eu]
  by_cases q:t=x
  ·rw[if_pos q,if_pos q,q]
  ·rw[if_neg q,if_neg q])
 have non:us=cw "none" us x:=iM rfl fun t ht=>nu_none.symm
 have key:∀(y:Str) (F:j9) (g:Str) (n:Nat),lM [.inr "none",.inr "whole",.inr "halves",.inr "splits",.inr "one"] [.fn "find_none",.fn "find_whole",.fn "find_halves",.fn "find_splits",.fn "find_one"] (.inr y)=some (.fn g)->List.lookup g [("find_none",eJ),("find_whole",dD),("find_halves",cP),("find_splits",cY),("find_one",fF)]=some F →
   F (af us) [.int x]=some (af (cw y us x),.tup [.int (hd us x),.int (n:Nat)])->gv [.tup (af us),.str y,nI x]=some (.v (.tup [nI (hd us x),.tup (af (cw y us x)),nI n])):=fun y F g n h1 h2 h3=>by
  simp![rW,iB,h1,h2,h3,nI]
 rcases (show y = "none"\/y = "whole"\/y = "halves"\/y = "splits"\/y = "one" by simpa [ay] using hy) with rfl|rfl|rfl|rfl|rfl
 ·exact key _ _ _ _ rfl rfl (by rw[←non];exact (sV f hx).2)
 ·exact key _ _ _ _ rfl rfl (xl f hx)
 ·exact key _ _ _ _ rfl rfl (tV f hx)
 ·exact key _ _ _ _ rfl rfl (tG f hx)
 ·exact key _ _ _ _ rfl rfl (by rw[←one];exact Iz f hx)
end Dp
end
section
namespace Dp
open PySem L2 Fo Dp
theorem pV {t:FT}{f:FE}{ρ:ak}(g:PV->PV):∀{its:List PV},(∀p∈its,(t p ρ).bind (fun ρ2=>(f ρ2).bind RV.fr)=some (g p))->i9 t eD f ρ its=some (its.map g):=fun {its}=>by
 induction its with
 |nil=>intro _;rfl
 |cons p ps ih=>
  intro h
  have h1:=h p List.mem_cons_self
  have h2:=ih fun q hq=>h q (List.mem_cons_of_mem _ hq)
  obtain⟨ρ2,e1,h1⟩:=Option.bind_eq_some_iff.mp h1
  obtain⟨r,e2,h1⟩:=Option.bind_eq_some_iff.mp h1
  rw[i9,e1,h2]
  show (f ρ2).bind _=_
  rw[e2]
  show r.fr.bind _=_
  rw[h1];rfl
theorem iS {t:FT}{f:FE}{ρ:ak}(g:Nat->PV){us:List Nat}(h:∀u∈us,(t (.int u) ρ).bind (fun ρ2=>(f ρ2).bind RV.fr)=some (g u)):i9 t eD f ρ (af us)=some (us.map g):=by
 have e:(af us).map (fun p=>match p with|.int i=>g i.toNat|_=>.non)=us.map g:=by
  unfold af;rw[List.map_map];exact List.map_congr_left fun u _=>rfl
 rw[←e]
 refine pV _ fun p hp=>?_
 obtain⟨u,hu,rfl⟩:=xI hp
 exact h u hu
theorem gx {t:FT}{c:FB}{f:FE}{ρ:ak}(b:PV->Bool)(g:PV->PV):∀{its:List PV},(∀p∈its,∃ρ2,t p ρ=some ρ2/\c ρ2=some (b p)/\(b p=true->(f ρ2).bind RV.fr=some (g p)))->i9 t c f ρ its=some ((its.filter b).map g):=fun {its}=>by
 induction its with
 |nil=>intro _;rfl
 |cons p ps ih=>
  intro h
  obtain⟨ρ2,e1,e2,h1⟩:=h p List.mem_cons_self
  have h2:=ih fun q hq=>h q (List.mem_cons_of_mem _ hq)
  rw[i9,e1]
  show (c ρ2).bind _=_
  rw[e2]
  cases hb:b p with
  |true=>
   obtain⟨r,e3,e4⟩:=Option.bind_eq_some_iff.mp (h1 hb)
   rw[List.filter_cons_of_pos hb]
   show (f ρ2).bind _=_
   rw[e3]
   show r.fr.bind _=_
   rw[e4,h2];rfl
  |false=>
   rw[List.filter_cons_of_neg (by rw[hb];exact Bool.false_ne_true)]
   exact h2
theorem Ik {α:Type}(l:List α):A6 (l.map fun _=>PV.bl true)=some (l.map fun _=>true):=by
 induction l with
 |nil=>rfl
 |cons a l ih=>rw[List.map_cons,A6,ih];rfl
theorem GI {α:Type}(l:List α):(l.map fun _=>true).all id=true:=by induction l<;>simp_all
theorem K1 {n:Nat}(h:n≤100000):kr [.int n]=some (af (List.range n))/\r9 [.int n]=some (.fz (.rng 0 n))/\hJ [.rng 0 n]=some (.nw (af (List.range n))):=by
 refine⟨?_,?_,?_⟩
 ·rw[DQ,GK,decide_eq_true (by omega),decide_eq_true (by omega),Int.toNat_natCast,Bt];rfl
 ·rw[BT,if_pos ⟨by omega,by omega⟩]
 ·rw[yr,if_pos ⟨rfl,by omega,by omega⟩,Int.toNat_natCast,Bt]
theorem KS {j:Int}(h0:0≤j)(h:j≤100000):kr [.int j]=some (af (List.range j.toNat))/\r9 [.int j]=some (.fz (.rng 0 j))/\hJ [.rng 0 j]=some (.nw (af (List.range j.toNat))):=by
 have:=K1 (n:=j.toNat) (by omega)
 rwa [Int.toNat_of_nonneg h0] at this
theorem uo (i:Int):di [.int i]=some (.v (.bl true)):=by
 simp_all! [qf,gD]
theorem Fq {i:Int}(h1:1≤i)(h2:i≤40):gm [.int i]=some (.v (.bl true)):=by
 simp_all! [sy,ij,uo,decide_eq_true h1,decide_eq_true h2]
theorem wa (m x:Int):aU [.int m,.int x]=some (.v (.bl (decide (0≤x/\x<m)))):=by
 simp_all! [qj,gZ,uo]
 by_cases h:0≤x
 ·simp_all! [decide_eq_true h,h]
 ·simp_all! [decide_eq_false h,h,false_and]
theorem y3 {y:Str}(hy:y∈ay):dH [.str y]=some (.v .non):=by
 simp_all! [lH,eC,sJ,decide_eq_true hy]
theorem Hf {a b:PV}{c:Bool}:L2.bQ [a,b] (if c=true then 1 else 0)=some (if c=true then b else a):=by
 cases c<;>rfl
theorem qH {s0 s1:Option Sl}(vs:List PV):∀(xs:List Nat) (st dg:Int) (z:Option Sl),(∀v∈vs,∃i:Int,v=.int i)->0≤st->st<1999999973->0≤dg->xs.length+vs.length≤1000 →
  ∃(xs':List Nat) (st' dg':Int) (z':Option Sl),xs'.length=xs.length+vs.length/\aQ (gN 5) b5 vs [s0,s1,some (.own (af xs)),some (.val (.int st)),some (.val (.int dg)),z]=.nx [s0,s1,some (.own (af xs')),some (.val (.int st')),some (.val (.int dg')),z']:=by
 induction vs with
 |nil=>intro xs st dg z _ _ _ _ _;exact⟨xs,st,dg,z,rfl,rfl⟩
 |cons v vs ih=>
  intro xs st dg z hv h1 h2 h3 hl
  obtain⟨i,rfl⟩:=hv v List.mem_cons_self
  have m1:=Int.emod_nonneg st (show (65521:Int)≠0 by decide)
  have cm1:(st.natAbs<2 ^ 64\/(st % 65521+40487).natAbs<2 ^ 64)=True:=eq_true (.inl (by omega))
  have cm2:((7:Int).natAbs<2 ^ 64\/i.natAbs<2 ^ 64)=True:=eq_true (.inl (by decide))
  have hlen:(af xs).length≤100000:=by rw[cZ];simp at hl;omega
  have b1:0≤(st * (st % 65521+40487)+7 * i+5) % 1999999973:=Int.emod_nonneg _ (by decide)
  have b2:(st * (st % 65521+40487)+7 * i+5) % 1999999973<1999999973:=Int.emod_lt_of_pos _ (by decide)
  have d1:=Int.emod_nonneg dg (show (1000000:Int)≠0 by decide)
  have hlen':xs.length≤100000:=by rwa [cZ] at hlen
  rw[cV]
  simp![b5,cm1,cm2,Hf,hlen']
  generalize (st * (st % 65521+40487)+7 * i+5) % 1999999973=st' at b1 b2
  have hv':(if decide (0<dg)=true then PV.int (dg % 1000000) else PV.int st')=nI (if decide (0<dg)=true then dg % 1000000 else st').toNat:=by
   split<;>rw[Gv (by omega)]
  rw[hv',nI,kI]
  obtain⟨xs',st2,dg2,z2,e1,e2⟩:=ih (xs++[(if decide (0<dg)=true then dg % 1000000 else st').toNat]) st' (dg / 1000000) (some (.val (.int i))) (fun u hu=>hv u (List.mem_cons_of_mem _ hu)) b1 b2 (Int.ediv_nonneg h3 (by decide)) (by simp at hl ⊢;omega)
  exact⟨xs',st2,dg2,z2,by rw[e1,List.length_append];simp;omega,e2⟩
theorem iY (c n:Int)(h0:0≤n)(hn:n≤1000):∃xs:List Nat,xs.length=n.toNat/\aR [.int c,.int n]=some (.n (af xs)):=by
 have b1:0≤(c % 1999999973+31) * 765432101 % 1999999973:=Int.emod_nonneg _ (by decide)
 have b2:(c % 1999999973+31) * 765432101 % 1999999973<1999999973:=Int.emod_lt_of_pos _ (by decide)
 have cm:((c % 1999999973+31).natAbs<2 ^ 64\/(765432101:Int).natAbs<2 ^ 64)=True:=eq_true (.inr (by decide))
 have k1:=(KS h0 (show n≤100000 by omega)).1
 have ab:0≤(if c<0 then -c else c):=by split<;>omega
 have fin:∀dg:Int,0≤dg->∃(xs:List Nat) (st' dg':Int) (z':Option Sl),xs.length=n.toNat/\aQ (gN 5) b5 (af (List.range n.toNat)) [some (.val (.int c)),some (.val (.int n)),some (.own (af [])),some (.val (.int ((c % 1999999973+31) * 765432101 % 1999999973))),some (.val (.int dg)),none]=.nx [some (.val (.int c)),some (.val (.int n)),some (.own (af xs)),some (.val (.int st')),some (.val (.int dg')),z']:=fun dg hd=>by
  obtain⟨xs,st',dg',z',e1,e2⟩:=qH (s0:=some (.val (.int c))) (s1:=some (.val (.int n))) (qc 0 n.toNat) [] _ dg none (fun v hv=>by obtain⟨i,e,_⟩:=FF hv;exact⟨i,e⟩) b1 b2 hd (by rw[vV];simp;omega)
  rw[Bt] at e2
  exact⟨xs,st',dg',z',by rw[e1,vV];simp,e2⟩
 have hp:(10:Int) ^ 18=1000000000000000000:=by decide
 by_cases hc:c<0
 ·obtain⟨xs,st',dg',z',e1,e2⟩:=fin _ ab
  rw[oe] at e2
  refine⟨xs,e1,?_⟩
  simp![dr,bI,cm,k1,decide_eq_true hc,e2]
 ·by_cases hd:1000000000000000000≤c
  ·obtain⟨xs,st',dg',z',e1,e2⟩:=fin _ ab
   rw[oe] at e2
   refine⟨xs,e1,?_⟩
   simp![dr,bI,cm,k1,decide_eq_false hc,show (0:Int)≤18/\(18:Int)≤1000000/\(10:Int).natAbs<2 ^ 64 from by decide,decide_eq_true hd,e2]
  ·obtain⟨xs,st',dg',z',e1,e2⟩:=fin 0 (by decide)
   rw[oe] at e2
   refine⟨xs,e1,?_⟩
   simp![dr,bI,cm,k1,decide_eq_false hc,show (0:Int)≤18/\(18:Int)≤1000000/\(10:Int).natAbs<2 ^ 64 from by decide,decide_eq_false hd,e2]
theorem wM {s0 s1:Option Sl}(ns:List Int):∀(st:Int) (z:Option Sl),∃(st':Int) (z':Option Sl),aQ (gN 3) c4 (iL ns) [s0,s1,some (.val (.int st)),z]=.nx [s0,s1,some (.val (.int st')),z']:=by
 induction ns with
 |nil=>intro st z;exact⟨st,z,rfl⟩
 |cons n ns ih=>
  intro st z
  have cm:(st.natAbs<2 ^ 64\/(69621:Int).natAbs<2 ^ 64)=True:=eq_true (.inr (by decide))
  show ∃st' z',aQ (gN 3) c4 (.int n::iL ns) _=_
  rw[cV]
  simp![c4,cm]
  exact ih _ _
theorem qi (ns:List Int)(k:Int)(h0:0≤k)(hk:k≤1000):∃i:Int,bC [.src (iL ns),.int k]=some (.v (.int i)):=by
 by_cases hl:k<ns.length
 ·have hk':k.toNat<ns.length:=by omega
  have e:L2.bQ (iL ns) k=some (.int ns[k.toNat]):=by
   have:=cX (ps:=iL ns) (x:=k.toNat) (p:=.int ns[k.toNat]) (by unfold iL;rw[List.getElem?_map,List.getElem?_eq_getElem hk'];rfl)
   rwa [Int.toNat_of_nonneg h0] at this
  exact⟨ns[k.toNat],by simp![jb,dO,zf,decide_eq_true hl,e]⟩
 ·have c1:(k.natAbs<2 ^ 64)=True:=eq_true (by omega)
  have c2:((48271:Int).natAbs<2 ^ 64)=True:=eq_true (by decide)
  have c3:((7:Int).natAbs<2 ^ 64)=True:=eq_true (by decide)
  obtain⟨st',z',e⟩:=wM (s0:=some (.val (.src (iL ns)))) (s1:=some (.val (.int k))) (lN ns none (some 3)) (48271 * (k * k+7 * k+11) % 2147483647) none
  refine⟨st',?_⟩
  simp![jb,dO,zf,decide_eq_false hl,c1,c2,c3,true_or,EU,e]
theorem Cu (x:Nat):∃n:Nat,1≤n/\n≤40/\fN [.int x]=some (.v (.int n)):=by
 have a1:=Int.emod_nonneg ((x:Int) / 8) (show (12:Int)≠0 by decide)
 have a2:=Int.emod_lt_of_pos ((x:Int) / 8) (show (0:Int)<12 by decide)
 have a3:=Int.emod_nonneg ((x:Int) / 8) (show (40:Int)≠0 by decide)
 have a4:=Int.emod_lt_of_pos ((x:Int) / 8) (show (0:Int)<40 by decide)
 by_cases h:(x:Int) % 8=3
 ·refine⟨(1+(x:Int) / 8 % 40).toNat,by omega,by omega,?_⟩
  simp![i8,dE,Hf,decide_eq_true h]
  rw[Int.toNat_of_nonneg (by omega)]
 ·refine⟨(1+(x:Int) / 8 % 12).toNat,by omega,by omega,?_⟩
  simp![i8,dE,Hf,decide_eq_false h]
  rw[Int.toNat_of_nonneg (by omega)]
end Dp
end
section
namespace Lo
open L2 Fo Dp
theorem jw (us:List Nat)(n:Nat):c7 us (n+1)=tL (c7 us n) (hd us n) n:=by
 unfold c7;rw[List.range_succ,List.foldl_append];rfl
theorem xM (acc:List (Nat×List Nat))(h x:Nat):(tL acc h x).length≤acc.length+1:=by
 unfold tL;split
 ·rw[List.length_map];omega
 ·rw[List.length_append];simp
theorem pi (us:List Nat):∀n,(c7 us n).length≤n
 |0=>Nat.le_refl _
 |n+1=>by rw[jw];have:=xM (c7 us n) (hd us n) n;have:=pi us n;omega
end Lo
namespace Dp
open PySem PySem.Spec L2 Fo Lo
noncomputable def oN (l:List (Nat×List Nat)):List Gr:=l.map fun t=>(Sum.inl ((t.1:Nat):Int),af t.2)
theorem BB (a b:Nat):decide ((Sum.inl (a:Int):bP)=Sum.inl (b:Int))=decide (a=b):=by
 rw[Bool.eq_iff_iff,decide_eq_true_iff,decide_eq_true_iff]
 constructor
 ·intro e;have:=Sum.inl.inj e;omega
 ·intro e;rw[e]
theorem Fw (l:List (Nat×List Nat))(h x:Nat):mT (oN l) (.inl (h:Int)) (.int (x:Int))=oN (tL l h x):=by
 have ea:(oN l).any (fun t=>decide (t.1=(Sum.inl (h:Int):bP)))=l.any fun t=>decide (t.1=h):=by
  unfold oN;rw[List.any_map];congr 1;funext t;exact BB t.1 h
 unfold mT tL
 rw[ea]
 split
 ·unfold oN
  rw[List.map_map,List.map_map]
  refine List.map_congr_left fun t _=>?_
  show (if (Sum.inl ((t.1:Nat):Int):bP)=Sum.inl (h:Int) then _ else _)=_
  by_cases e:t.1=h
  ·rw[if_pos (by rw[e])]
   show _=(Sum.inl (((if t.1=h then (t.1,t.2++[x]) else t).1:Nat):Int),af (if t.1=h then (t.1,t.2++[x]) else t).2)
   rw[if_pos e]
   exact congrArg (Prod.mk _) (kI t.2 x)
  ·rw[if_neg (fun q=>e (by have:=Sum.inl.inj q;omega))]
   show _=(Sum.inl (((if t.1=h then (t.1,t.2++[x]) else t).1:Nat):Int),af (if t.1=h then (t.1,t.2++[x]) else t).2)
   rw[if_neg e]
 ·unfold oN;rw[List.map_append];rfl
theorem rz {us:List Nat}(f:Frst us){bd:List (Nat×FE)}{fk:FE}{ρs:Nat->ak->Prop}(hst:∀n ρ,n<us.length->ρs n ρ->∃ρ2,C6 bd (ρ.set 2 (some (.val (.int (n:Int)))))=some ρ2/\((fk ρ2).bind RV.fr).bind eV=some (.inl ((hd us n:Nat):Int))/\sl ρ2 2=some (.val (.int (n:Int)))/\ρs (n+1) ρ2) :
  ∀(k n:Nat) (ρ:ak),n+k=us.length->ρs n ρ->∃ρ2,kH 2 bd fk (fV 2) (af ((List.range k).map (n + ·))) ρ (oN (c7 us n))=some (ρ2,oN (c7 us us.length))/\ρs us.length ρ2
 |0,n,ρ,e,h=>by
  have:n=us.length:=by omega
  subst this
  exact⟨ρ,rfl,h⟩
 |k+1,n,ρ,e,h=>by
  obtain⟨ρ2,e1,e2,e3,h2⟩:=hst n ρ (by omega) h
  obtain⟨ρ3,e4,h3⟩:=rz f hst k (n+1) ρ2 (by omega) h2
  refine⟨ρ3,?_,h3⟩
  rw[List.range_succ_eq_map,List.map_cons,List.map_map]
  show kH 2 bd fk (fV 2) (PV.int ((n+0:Nat):Int)::af ((List.range k).map ((n + ·) ∘ Nat.succ))) ρ _=_
  rw[o8,show n+0=n from rfl,e1,Option.bind_some,e2,Option.bind_some]
  show (((fV 2) ρ2).bind RV.fr).bind _=_
  rw[JQ,e3]
  show kH 2 bd fk (fV 2) _ ρ2 (mT (oN (c7 us n)) (.inl ((hd us n:Nat):Int)) (.int (n:Int)))=_
  rw[Fw,←jw,show ((n + ·) ∘ Nat.succ)=(n+1 + ·) by funext m;show n+(m+1)=n+1+m;omega]
  exact e4
end Dp
end
section
namespace Pt
open L2 Fo
noncomputable def cl (n:Nat)(c:Nat->Nat)(x:Nat):List Nat:=(List.range n).filter fun y=>decide (c y=c x)
theorem mem_cl {n:Nat}{c:Nat->Nat}{x y:Nat}:y∈cl n c x↔y<n/\c y=c x:=by
 unfold cl;rw[List.mem_filter,List.mem_range,decide_eq_true_eq]
theorem eZ {n:Nat}{c c':Nat->Nat}{x x':Nat}(h:∀y,y<n->(c y=c x↔c' y=c' x')):cl n c x=cl n c' x':=
 List.filter_congr fun y hy=>by rw[decide_eq_decide];exact h y (List.mem_range.mp hy)
theorem cU {n:Nat}{c:Nat->Nat}{x y:Nat}(hx:x<n):cl n c x=cl n c y↔c x=c y:=by
 constructor
 ·intro e
  exact (mem_cl.mp (e▸mem_cl.mpr ⟨hx,rfl⟩)).2
 ·intro e;exact eZ fun z _=>by rw[e]
theorem pG (n:Nat)(c:Nat->Nat)(x:Nat):(cl n c x).Pairwise (· < ·):=(List.pairwise_lt_range).filter _
theorem qg (n:Nat)(c:Nat->Nat)(x:Nat):(cl n c x).length≤n:=by
 have:=List.length_filter_le (fun y=>decide (c y=c x)) (List.range n)
 rwa [List.length_range] at this
structure Part (n:Nat)(c:Nat->Nat)(ls:List (List Nat)):Prop where
 cls:∀l∈ls,∃x,x<n/\l=cl n c x
 all:∀x,x<n->cl n c x∈ls
 nd:ls.Nodup
 len:ls.length≤n
theorem Part.pick {n:Nat}{c:Nat->Nat}{ls:List (List Nat)}(P:Part n c ls){x:Nat}(hx:x<n):ls.filter (fun l=>decide (x∈l))=[cl n c x]:=by
 have e:ls.filter (fun l=>decide (x∈l))=ls.filter fun l=>l==cl n c x:=List.filter_congr fun l hl=>by
  obtain⟨z,hz,rfl⟩:=P.cls l hl
  rw[Bool.eq_iff_iff,decide_eq_true_eq,beq_iff_eq,mem_cl,cU hz]
  exact⟨fun h=>h.2.symm,fun h=>⟨hx,h.symm⟩⟩
 rw[e,List.filter_beq,P.nd.count,if_pos (P.all x hx)];rfl
theorem Cs (n:Nat):Part n id ((List.range n).map fun x=>[x]):=by
 have e:∀x,x<n->cl n id x=[x]:=fun x hx=>by
  have:cl n id x=(List.range n).filter (·==x):=List.filter_congr fun y _=>by rw[Bool.eq_iff_iff,decide_eq_true_eq,beq_iff_eq];exact Iff.rfl
  rw[this,List.filter_beq,List.nodup_range.count,if_pos (List.mem_range.mpr hx)];rfl
 refine⟨fun l hl=>?_,fun x hx=>?_,?_,?_⟩
 ·obtain⟨x,hx,rfl⟩:=List.mem_map.mp hl
  exact⟨x,List.mem_range.mp hx,(e x (List.mem_range.mp hx)).symm⟩
 ·rw[e x hx];exact List.mem_map.mpr ⟨x,List.mem_range.mpr hx,rfl⟩
 ·refine List.nodup_range.map _ fun a b h z=>h (by simpa using z)
 ·rw[List.length_map,List.length_range];exact Nat.le_refl _
noncomputable def jn (c:Nat->Nat)(x y:Nat):Nat->Nat:=fun z=>if c z=c x then c y else c z
theorem uc {c:Nat->Nat}{x y:Nat}(h:c x=c y):jn c x y=c:=funext fun z=>by
 unfold jn;split
 ·next e=>rw[e,h]
 ·rfl
theorem AU {n:Nat}{c:Nat->Nat}{x y:Nat}(h:c x≠c y):p8 ((cl n c x++cl n c y).map Int.ofNat)=(cl n (jn c x y) x).map Int.ofNat:=by
 refine (ui (List.Perm.map _ ?_) ?_).symm
 ·refine (List.perm_ext_iff_of_nodup ((pG n _ x).imp fun h=>Nat.ne_of_lt h) ?_).mpr fun z=>?_
  ·refine List.nodup_append.mpr ⟨(pG n _ x).imp fun h=>Nat.ne_of_lt h,(pG n _ y).imp fun h=>Nat.ne_of_lt h,fun a ha b hb e=>?_⟩
   subst e
   exact h ((mem_cl.mp ha).2.symm.trans (mem_cl.mp hb).2)
  ·rw[List.mem_append,mem_cl,mem_cl,mem_cl]
   unfold jn
   rw[if_pos rfl]
   by_cases e:c z=c x
   ·rw[if_pos e];exact⟨fun q=>.inl ⟨q.1,e⟩,fun q=>⟨q.elim (·.1) (·.1),rfl⟩⟩
   ·rw[if_neg e];exact⟨fun q=>.inr q,fun q=>q.elim (fun q=>absurd q.2 e) id⟩
 ·rw[List.pairwise_map]
  exact (pG n _ x).imp fun h=>by show Int.ofNat _≤Int.ofNat _;exact Int.ofNat_le.mpr (Nat.le_of_lt h)
theorem Part.join {n:Nat}{c:Nat->Nat}{ls:List (List Nat)}(P:Part n c ls){x y:Nat}(hx:x<n)(hy:y<n)(h:c x≠c y):Part n (jn c x y) (ls.filter (fun l=>!(decide (l=cl n c x) || decide (l=cl n c y)))++[cl n (jn c x y) x]):=by
 have keep:∀z,c z≠c x->c z≠c y->cl n (jn c x y) z=cl n c z:=fun z h1 h2=>eZ fun w _=>by
  unfold jn
  rw[if_neg h1]
  by_cases e:c w=c x
  ·rw[if_pos e,e];exact⟨fun q=>absurd q.symm h2,fun q=>absurd q.symm h1⟩
  ·rw[if_neg e]
 have jx:∀z,c z=c x\/c z=c y->jn c x y z=jn c x y x:=fun z hz=>by
  unfold jn
  rw[if_pos rfl]
  rcases hz with e|e
  ·rw[if_pos e]
  ·rw[e];split<;>rfl
 refine⟨fun l hl=>?_,fun z hz=>?_,?_,?_⟩
 ·rcases List.mem_append.mp hl with hl|hl
  ·obtain⟨h1,h2⟩:=List.mem_filter.mp hl
   obtain⟨z,hz,rfl⟩:=P.cls l h1
   rw[Bool.not_eq_true',Bool.or_eq_false_iff,decide_eq_false_iff_not,decide_eq_false_iff_not,cU hz,cU hz] at h2
   exact⟨z,hz,(keep z h2.1 h2.2).symm⟩
  ·exact⟨x,hx,List.mem_singleton.mp hl⟩
 ·by_cases e:c z=c x\/c z=c y
  ·exact List.mem_append_right _ (List.mem_singleton.mpr ((cU hz).mpr (jx z e)))
  ·have e1:c z≠c x:=fun q=>e (.inl q)
   have e2:c z≠c y:=fun q=>e (.inr q)
   rw[keep z e1 e2]
   refine List.mem_append_left _ (List.mem_filter.mpr ⟨P.all z hz,?_⟩)
   rw[Bool.not_eq_true',Bool.or_eq_false_iff,decide_eq_false_iff_not,decide_eq_false_iff_not,cU hz,cU hz]
   exact⟨e1,e2⟩
 ·refine List.nodup_append.mpr ⟨P.nd.filter _,(by simp),fun a ha b hb e=>?_⟩
  subst e
  obtain⟨h1,h2⟩:=List.mem_filter.mp ha
  obtain⟨z,hz,rfl⟩:=P.cls a h1
  rw[Bool.not_eq_true',Bool.or_eq_false_iff,decide_eq_false_iff_not,decide_eq_false_iff_not,cU hz,cU hz] at h2
  have hm:x∈cl n c z:=by rw[List.mem_singleton.mp hb];exact mem_cl.mpr ⟨hx,rfl⟩
  exact h2.1 (mem_cl.mp hm).2.symm
 ·rw[List.length_append,List.length_singleton]
  have:(ls.filter (fun l=>!(decide (l=cl n c x) || decide (l=cl n c y)))).length<ls.length:=List.length_filter_lt_length_iff_exists.mpr ⟨_,P.all x hx,by simp⟩
  have:=P.len
  omega
noncomputable def lB (ps:List (Nat×Nat))(c:Nat->Nat):Nat->Nat:=ps.foldl (fun c p=>jn c p.1 p.2) c
theorem nJ (p:Nat×Nat)(ps:List (Nat×Nat))(c:Nat->Nat):lB (p::ps) c=lB ps (jn c p.1 p.2):=rfl
theorem rl:∀(ps:List (Nat×Nat)) (c:Nat->Nat) (a b:Nat),c a=c b->lB ps c a=lB ps c b
 |[],_,_,_,h=>h
 |p::ps,c,a,b,h=>by
  rw[nJ]
  exact rl ps _ a b (by unfold jn;rw[h])
theorem n4:∀(ps:List (Nat×Nat)) (c:Nat->Nat) (a b:Nat),(a,b)∈ps->lB ps c a=lB ps c b
 |p::ps,c,a,b,h=>by
  rw[nJ]
  rcases List.mem_cons.mp h with e|h
  ·cases e
   refine rl ps _ a b ?_
   unfold jn
   rw[if_pos rfl]
   split<;>rfl
  ·exact n4 ps _ a b h
theorem mn {f:Nat->Nat}:∀(ps:List (Nat×Nat)) (c:Nat->Nat),(∀p∈ps,f p.1=f p.2)->(∀a b,c a=c b->f a=f b)->∀a b,lB ps c a=lB ps c b->f a=f b
 |[],_,_,h=>h
 |p::ps,c,hp,h=>by
  rw[nJ]
  have e:=hp p List.mem_cons_self
  refine mn ps _ (fun q hq=>hp q (List.mem_cons_of_mem _ hq)) fun a b z=>?_
  unfold jn at z
  by_cases h1:c a=c p.1
  ·rw[if_pos h1] at z
   by_cases h2:c b=c p.1
   ·exact h a b (h1.trans h2.symm)
   ·rw[if_neg h2] at z
    rw[h a p.1 h1,e];exact h _ _ z
  ·rw[if_neg h1] at z
   by_cases h2:c b=c p.1
   ·rw[if_pos h2] at z
    rw[h b p.1 h2,e];exact h _ _ z
   ·rw[if_neg h2] at z;exact h _ _ z
noncomputable def iI (c:Nat->Nat)(x:Nat):Bool:=decide (∀y,y<x->c y≠c x)
noncomputable def aP (n:Nat)(c:Nat->Nat):List (List Nat):=((List.range n).filter (iI c)).map (cl n c)
theorem Do {c:Nat->Nat}:∀x,∃z,z≤x/\c z=c x/\iI c z=true:=fun x=>by
 induction x using Nat.strongRecOn with
 |_ x ih=>
  by_cases h:iI c x=true
  ·exact⟨x,Nat.le_refl _,rfl,h⟩
  ·unfold iI at h
   rw[decide_eq_true_eq] at h
   have:∃y,y<x/\c y=c x:=Decidable.byContradiction fun q=>h fun y hy e=>q ⟨y,hy,e⟩
   obtain⟨y,hy,e⟩:=this
   obtain⟨z,h1,h2,h3⟩:=ih y hy
   exact⟨z,by omega,h2.trans e,h3⟩
theorem mem_lots {n:Nat}{c:Nat->Nat}{l:List Nat}:l∈aP n c↔∃x,x<n/\l=cl n c x:=by
 unfold aP
 rw[List.mem_map]
 constructor
 ·rintro⟨x,hx,rfl⟩
  exact⟨x,List.mem_range.mp (List.mem_filter.mp hx).1,rfl⟩
 ·rintro⟨x,hx,rfl⟩
  obtain⟨z,h1,h2,h3⟩:=Do (c:=c) x
  exact⟨z,List.mem_filter.mpr ⟨List.mem_range.mpr (by omega),h3⟩,(cU (by omega)).mpr h2⟩
theorem m6 {n:Nat}{c:Nat->Nat}{x:Nat}(hx:x<n)(h:iI c x=true):∃t,cl n c x=x::t:=by
 unfold iI at h
 rw[decide_eq_true_eq] at h
 cases e:cl n c x with
 |nil=>
  have:x∈cl n c x:=mem_cl.mpr ⟨hx,rfl⟩
  rw[e] at this;cases this
 |cons a t=>
  have u:=pG n c x
  rw[e,List.pairwise_cons] at u
  have hm:x∈cl n c x:=mem_cl.mpr ⟨hx,rfl⟩
  have ha:a∈cl n c x:=by rw[e];exact List.mem_cons_self
  rw[e] at hm
  rcases List.mem_cons.mp hm with rfl|hm
  ·exact⟨t,rfl⟩
  ·exact absurd (mem_cl.mp ha).2 (h a (u.1 x hm))
theorem pj (n:Nat)(c:Nat->Nat):((aP n c).map fun l=>l.map Int.ofNat).Pairwise fun a b=>lU a b=true:=by
 unfold aP
 rw[List.map_map,List.pairwise_map]
 refine ((List.pairwise_lt_range).filter _).imp_of_mem fun {a b} ha hb h=>?_
 obtain⟨ha1,ha2⟩:=List.mem_filter.mp ha
 obtain⟨hb1,hb2⟩:=List.mem_filter.mp hb
 obtain⟨t,e⟩:=m6 (List.mem_range.mp ha1) ha2
 obtain⟨t',e'⟩:=m6 (List.mem_range.mp hb1) hb2
 show lU ((cl n c a).map Int.ofNat) ((cl n c b).map Int.ofNat)=true
 rw[e,e',List.map_cons,List.map_cons,ke,if_neg (fun z=>by have:=Int.ofNat.inj z;omega)]
 exact decide_eq_true (Int.ofNat_lt.mpr h)
theorem nT {n:Nat}{c c':Nat->Nat}(h:∀x y,x<n->y<n->(c x=c y↔c' x=c' y)):aP n c=aP n c':=by
 unfold aP
 have e:(List.range n).filter (iI c)=(List.range n).filter (iI c'):=List.filter_congr fun x hx=>by
  have hx:=List.mem_range.mp hx
  unfold iI
  rw[decide_eq_decide]
  exact⟨fun q y hy z=>q y hy ((h y x (by omega) hx).mpr z),fun q y hy z=>q y hy ((h y x (by omega) hx).mp z)⟩
 rw[e]
 exact List.map_congr_left fun x hx=>eZ fun y hy=>h y x hy (List.mem_range.mp (List.mem_filter.mp hx).1)
theorem Part.sorted {n:Nat}{c:Nat->Nat}{ls:List (List Nat)}(P:Part n c ls){ks:List (List Int)}(e:ks=ls.map fun l=>l.map Int.ofNat):(ka ks).map (fun i=>ks.getD i [])=(aP n c).map fun l=>l.map Int.ofNat:=by
 have inj:∀a b:List Nat,a≠b->a.map Int.ofNat≠b.map Int.ofNat:=fun a b h z=>h (List.map_inj_right (fun _ _ q=>Int.ofNat.inj q) |>.mp z)
 have nd:ks.Nodup:=by rw[e];exact P.nd.map _ inj
 obtain⟨hp,hu⟩:=Cg nd
 refine uT (lt:=fun a b=>lU a b=true) (fun a z=>by rw[l9] at z;cases z) (fun a b d=>sS a b d) hu (pj n c) fun a=>?_
 rw[hp.mem_iff,e,List.mem_map,List.mem_map]
 constructor
 ·rintro⟨l,hl,rfl⟩
  exact⟨l,mem_lots.mpr (P.cls l hl),rfl⟩
 ·rintro⟨l,hl,rfl⟩
  obtain⟨x,hx,rfl⟩:=mem_lots.mp hl
  exact⟨_,P.all x hx,rfl⟩
end Pt
end
section
namespace Pt
open L2 Fo Lo
theorem qw (m:Nat)(c:Nat->Nat)(x:Nat):cl (m+1) c x=cl m c x++if c m=c x then [m] else []:=by
 unfold cl
 rw[List.range_succ,List.filter_append]
 congr 1
 rw[List.filter_cons]
 by_cases h:c m=c x
 ·rw[if_pos (decide_eq_true h),if_pos h];rfl
 ·rw[if_neg (by rw[decide_eq_true_eq];exact h),if_neg h];rfl
end Pt
end
section
namespace Pt
open L2 Fo Lo Dp
theorem nO (us:List Nat):∀m,c7 us m=((List.range m).filter (iI (hd us))).map fun x=>(hd us x,cl m (hd us) x)
 |0=>rfl
 |m+1=>by
  rw[jw,nO us m]
  generalize hd us=c
  have anyE:(((List.range m).filter (iI c)).map fun x=>(c x,cl m c x)).any (fun t=>decide (t.1=c m))=!iI c m:=by
   rw[List.any_map]
   rw[Bool.eq_iff_iff,List.any_eq_true,Bool.not_eq_true']
   constructor
   ·rintro⟨x,hx,e⟩
    have e:c x=c m:=of_decide_eq_true e
    refine decide_eq_false fun q=>?_
    exact q x (List.mem_range.mp (List.mem_filter.mp hx).1) e
   ·intro q
    unfold iI at q
    rw[decide_eq_false_iff_not] at q
    have:∃y,y<m/\c y=c m:=Decidable.byContradiction fun z=>q fun y hy e=>z ⟨y,hy,e⟩
    obtain⟨y,hy,e⟩:=this
    obtain⟨z,h1,h2,h3⟩:=Do (c:=c) y
    exact⟨z,List.mem_filter.mpr ⟨List.mem_range.mpr (by omega),h3⟩,decide_eq_true (h2.trans e)⟩
  unfold tL
  rw[anyE,List.range_succ,List.filter_append,List.map_append]
  cases h:iI c m with
  |true=>
   have h':=h
   unfold iI at h'
   rw[decide_eq_true_eq] at h'
   rw[Bool.not_true,if_neg Bool.false_ne_true,List.filter_cons,if_pos h]
   congr 1
   ·refine List.map_congr_left fun x hx=>?_
    rw[qw,if_neg fun z=>h' x (List.mem_range.mp (List.mem_filter.mp hx).1) z.symm,List.append_nil]
   ·have:cl m c m=[]:=List.filter_eq_nil_iff.mpr fun y hy=>by rw[decide_eq_true_eq];exact h' y (List.mem_range.mp hy)
    rw[List.filter_nil,List.map_cons,List.map_nil,qw,if_pos rfl,this];rfl
  |false=>
   rw[Bool.not_false,if_pos rfl,List.filter_cons,if_neg (by rw[h];exact Bool.false_ne_true),List.filter_nil,List.map_nil,List.append_nil,List.map_map]
   refine List.map_congr_left fun x hx=>?_
   show (if c x=c m then (c x,cl m c x++[m]) else (c x,cl m c x))=_
   rw[qw]
   by_cases e:c x=c m
   ·rw[if_pos e,if_pos e.symm]
   ·rw[if_neg e,if_neg fun z=>e z.symm,List.append_nil]
theorem Ci (us:List Nat):Er us=aP us.length (hd us):=by
 unfold Er aP
 rw[nO,List.map_map];rfl
end Pt
end
section
namespace Dp
open PySem L2 Fo Dp
noncomputable def xu (g:Nat->Int)(l:List Nat):List PV:=l.map fun k=>.tup [.int (g k),.int k]
theorem vc (g:Nat->Int)(l:List Nat):(xu g l).length=l.length:=List.length_map ..
theorem rF (g:Nat->Int):∀l:List Nat,gW (xu g l)=some (l.map fun k=>[g k,(k:Int)])
 |[]=>rfl
 |k::l=>by
  show gW (.tup [.int (g k),.int k]::xu g l)=_
  rw[gW]
  rw[rF g l];rfl
noncomputable def qG (g:Nat->Int)(n:Nat):List Nat:=ka ((List.range n).map fun k=>[g k,(k:Int)])
theorem kx (g:Nat->Int)(n:Nat):(qG g n).Perm (List.range n):=by
 have:=kQ ((List.range n).map fun k=>[g k,(k:Int)])
 rwa [List.length_map,List.length_range] at this
theorem AN (g:Nat->Int)(n:Nat):(qG g n).length=n:=by rw[(kx g n).length_eq,List.length_range]
theorem tN (g:Nat->Int)(n:Nat)(hn:n<64):eK [.lst (xu g (List.range n))]=some (.nw (xu g (qG g n))):=by
 simp_all! [rF,vc,List.length_range,eq_true hn]
 congr 2
 unfold xu
 refine List.map_congr_left fun i hi=>?_
 have hi':i<n:=List.mem_range.mp ((kx g n).subset hi)
 rw[List.getD_eq_getElem?_getD,List.getElem?_map,List.getElem?_range hi'];rfl
theorem wX {t:FT}{f:FE}{ρ:ak}(g:Nat->Int)(l:List Nat)(h:∀a b:Int,(t (.tup [.int a,.int b]) ρ).bind (fun ρ2=>(f ρ2).bind RV.fr)=some (.int b)):i9 t eD f ρ (xu g l)=some (af l):=by
 have e:(xu g l).map (fun p=>match p with|.tup [_,b]=>b|_=>.non)=af l:=by
  unfold xu af;rw[List.map_map];exact List.map_congr_left fun u _=>rfl
 rw[←e]
 refine pV _ fun p hp=>?_
 obtain⟨u,_,rfl⟩:=List.mem_map.mp hp
 exact h _ _
end Dp
end
section
namespace Fo
open PySem L2
theorem s5 {y:Str}(hy:y∈ay):y = "none"\/y = "whole"\/y = "halves"\/y = "splits"\/y = "one":=by simpa [ay] using hy
theorem n1:(("halves" : Str) = "whole")=False:=eq_false (by decide)
theorem n2:(("halves" : Str) = "splits")=False:=eq_false (by decide)
theorem n3:(("splits" : Str) = "whole")=False:=eq_false (by decide)
theorem n7:(("none" : Str) = "whole")=False:=eq_false (by decide)
theorem n8:(("none" : Str) = "splits")=False:=eq_false (by decide)
theorem n9:(("none" : Str) = "halves")=False:=eq_false (by decide)
theorem K0:(("none" : Str) = "one")=False:=eq_false (by decide)
end Fo
end
section
namespace Dp
open PySem L2 Fo Dp Lo
theorem xj {p:PV}{us:List Nat}(hp:p=.tup (af us)\/p=.lst (af us))(hm:us.length≤40)(hb:∀x,x<us.length->up us x<us.length){s1:Option Sl}{y:Nat}{l2:List Nat}(w:Way us y l2):∀(pre:List Nat),pre.length+l2.length≤us.length->y<us.length →
  ∀n,l2.length<n->bj cy dF n [some (.val p),s1,some (.own (af (pre++[y])))]=.nx [some (.val p),s1,some (.own (af (pre++l2)))]:=by
 induction w with
 | @head y e=>
  intro pre hl hy n hn
  obtain⟨n,rfl⟩:∃k,n=k+1:=⟨n - 1,by simp at hn;omega⟩
  rw[cM]
  rcases hp with rfl|rfl <;>
   simp![cy,kf,am hy,e]
 | @step y l ne w ih=>
  intro pre hl hy n hn
  obtain⟨n,rfl⟩:∃k,n=k+1:=⟨n - 1,by simp at hn;omega⟩
  have ih:=ih (pre++[y]) (by simp at hl ⊢;omega) (hb y hy) n (by simp at hn;omega)
  rw[List.append_assoc,List.append_assoc] at ih
  have pos:=w.pos
  have hne:decide ((up us y:Int)=(y:Int))=false:=decide_eq_false (by omega)
  have hpl:(pre++[y]).length≤100000:=by simp at hl ⊢;omega
  have hle:decide (((pre++[y]).length:Int)≤(us.length:Int))=true:=decide_eq_true (by simp at hl ⊢;omega)
  rw[cM]
  rcases hp with rfl|rfl <;>
   (simp![cy,dF,kf,am hy,hne,hle,hpl,kI,List.append_assoc];exact ih)
theorem tm {p:PV}{us:List Nat}(hp:p=.tup (af us)\/p=.lst (af us))(f:Frst us){x:Nat}(hx:x<us.length):de [p,.int x]=some (.n (af (way us x))):=by
 have hl:=iU f.fst hx
 have hm:=f.most
 have e:=xj hp f.most f.fst.bnd (s1:=some (.val (.int x))) (aC f.fst hx) [] (by simpa using hl) hx 10000 (by omega)
 rw[List.nil_append,List.nil_append] at e
 have e':bj cy dF 10000 [some (.val p),some (.val (.int x)),some (.own [.int x])]=_:=e
 simp![qo,gQ,e']
theorem EC {us:List Nat}(f:Frst us){x:Nat}(hx:x<us.length):L2.bQ (af (way us x)) (-1)=some (.int (hd us x:Nat)):=wL (aC f.fst hx).ne
theorem li:∀l:List (List Nat),aq (l.map fun u=>PV.tup (af u))=true
 |[]=>by rw[List.map_nil,aq]
 |u::l=>by rw[List.map_cons,aq,aK,bS,li l];rfl
theorem oX:∀l:List (List Nat),bp (l.map fun u=>PV.tup (af u))≤1
 |[]=>by rw[List.map_nil,bp];omega
 |u::l=>by rw[List.map_cons,bp,dep,cH];have:=oX l;omega
theorem mV (t:Nat):∀l:List Nat,pin (.int t) (af l)=decide (t∈l)
 |[]=>rfl
 |u::l=>by
  show (eR (.int (u:Int)) (.int (t:Int)) || pin (.int t) (af l))=_
  rw[lW,mV t l]
  by_cases h:u=t
  ·subst h;simp
  ·have h':¬((u:Int)=(t:Int)):=by omega
   rw[decide_eq_false h',Bool.false_or]
   have:t≠u:=fun z=>h z.symm
   simp[List.mem_cons,this]
end Dp
end
section
namespace Fo
open PySem L2
theorem r7 {l:List Nat}{n:Nat}(nd:l.Nodup)(h:∀x∈l,x<n):l.length≤n:=by
 have p:l.Perm ((List.range n).filter fun x=>decide (x∈l)):=(List.perm_ext_iff_of_nodup nd (List.nodup_range.filter _)).mpr fun x=>by
  rw[List.mem_filter,List.mem_range,decide_eq_true_eq]
  exact⟨fun q=>⟨h x q,q⟩,fun q=>q.2⟩
 rw[p.length_eq]
 have:=List.length_filter_le (fun x=>decide (x∈l)) (List.range n)
 rwa [List.length_range] at this
theorem zr {us:List Nat}(f:Fst us){x t:Nat}(hx:x<us.length)(h:t∈way us x):hd us t=hd us x:=by
 obtain⟨l2,w2,e,_,_⟩:=(aC f hx).later t h
 have:=eB f (cF f hx h) w2
 unfold hd
 rw[this,e]
end Fo
end
section
namespace Fo
open PySem L2
theorem iQ {us:List Nat}(f:Frst us){u t:Nat}(hu:u<us.length)(ht:t<us.length)(eu:up us u=u)(et:up us t=t)(ne:t≠u):Frst (us.set u t):=by
 have hl:(us.set u t).length=us.length:=List.length_set
 refine⟨by rw[hl];exact f.one,by rw[hl];exact f.most,⟨fun x hx=>?_,fun x=>if hd us x=u then dp us x+1 else dp us x,fun x hx=>?_,fun x hx hn=>?_⟩⟩
 ·rw[hl] at hx ⊢
  rw[aI hu]
  split
  ·exact ht
  ·exact f.fst.bnd x hx
 ·rw[hl] at hx ⊢
  have h1:=iU f.fst hx
  have h2:=(aC f.fst hx).pos
  show (if hd us x=u then dp us x+1 else dp us x)<us.length
  unfold dp
  split
  ·next e=>
   have nm:t∉way us x:=fun q=>ne (by rw[←aG f.fst ht et,zr f.fst hx q,e])
   have:(t::way us x).length≤us.length:=r7 (List.nodup_cons.mpr ⟨nm,(aC f.fst hx).nodup f.fst hx⟩) fun z hz=>by
    rcases List.mem_cons.mp hz with rfl|hz
    ·exact ht
    ·exact cF f.fst hx hz
   rw[List.length_cons] at this
   omega
  ·omega
 ·rw[hl] at hx
  rw[aI hu] at hn ⊢
  show (if hd us (if x=u then t else up us x)=u then _ else _)<(if hd us x=u then dp us x+1 else dp us x)
  by_cases e:x=u
  ·subst e
   rw[if_pos rfl,aG f.fst ht et,if_neg ne,aG f.fst hx eu,if_pos rfl]
   have:dp us t=0:=by unfold dp;rw[nF f.fst ht et];rfl
   omega
  ·rw[if_neg e] at hn ⊢
   rw[re f.fst hx]
   have:dp us (up us x)+1=dp us x:=by
    have h2:=(aC f.fst (f.fst.bnd x hx)).pos
    unfold dp
    rw[jG f.fst hx hn,List.length_cons]
    omega
   split<;>omega
end Fo
namespace Dp
open PySem L2 Fo Dp
theorem D8 {x:PV}{ps:List PV}:sX x (.ktu ps)=if aK x&&aq ps&&decide (bp ps≤50) then some (.fz (.bl (pin x ps))) else none:=Eq.trans rfl rfl
theorem Fi {lo j:Int}:pD [.rng lo j]=if lo=0/\0≤j/\j≤1000000 then some (.fz (.tup (qc 0 j.toNat))) else none:=Eq.trans rfl rfl
noncomputable def lE:List Str:=["size","rank","told","names"]
theorem j4 {j:Str}(h:j∈lE):j = "size"\/j = "rank"\/j = "told"\/j = "names":=by
 simpa [lE] using h
noncomputable def gz (j y:Str)(us ms:List Nat):PV:=.tup [.str j,.str y,.tup (af us),.tup (af ms)]
noncomputable def g6 (j:Str):Nat:=if j = "size" then 1 else 0
theorem CJ {n:Nat}(h1:1≤n)(h2:n≤40):gm [.int n]=some (.v (.bl true)):=Fq (by omega) (by omega)
theorem JJ:decide (("size" : Str) = "rank")=false/\decide (("size" : Str) = "told")=false/\decide (("size" : Str) = "names")=false/\decide (("rank" : Str) = "size")=false/\decide (("rank" : Str) = "told")=false/\decide (("rank" : Str) = "names")=false ∧
  decide (("told" : Str) = "size")=false/\decide (("told" : Str) = "rank")=false/\decide (("told" : Str) = "names")=false/\decide (("names" : Str) = "size")=false/\decide (("names" : Str) = "rank")=false/\decide (("names" : Str) = "told")=false:=by decide
theorem AG {j:Str}(hj:j∈lE):bH [.str j]=some (.v (.bl true)):=by
 have e:sX (.str j) (.ktu [.str "size",.str "rank",.str "told",.str "names"])=some (.fz (.bl true)):=by
  have h1:(aK (.str j)&&aq [.str "size",.str "rank",.str "told",.str "names"]&&decide (bp [.str "size",.str "rank",.str "told",.str "names"]≤50))=true:=by simp[aK,aq,bp,dep]
  have h2:pin (.str j) [.str "size",.str "rank",.str "told",.str "names"]=true:=by
   unfold pin
   simp only[List.any_cons,fL,List.any_nil]
   rcases j4 hj with rfl|rfl|rfl|rfl<;>decide
  rw[D8,h1,h2];rfl
 simp![hO,bX,e]
theorem Ig {a n:Nat}(h1:1≤n)(h2:n≤1000):fy (.tup [.int a]) (.int n)=some (.fz (.tup (af (List.replicate n a)))):=by
 have r:∀n:Nat,(List.replicate n [PV.int a]).flatten=af (List.replicate n a):=fun n=>by
  induction n with
  |zero=>rfl
  |succ n ih=>rw[List.replicate_succ,List.flatten_cons,ih];rfl
 show (if ([PV.int a].isEmpty=false/\1≤(n:Int)/\(n:Int)≤1000/\[PV.int a].length≤1000) then some (RV.fz (.tup (List.replicate (n:Int).toNat [PV.int a]).flatten)) else none)=_
 rw[if_pos ⟨rfl,by omega,by omega,by simp⟩,Int.toNat_natCast,r]
theorem Hr {n:Nat}(h1:1≤n)(h2:n≤40){j y:Str}(hj:j∈lE)(hy:y∈ay):dX [.int n,.str j,.str y]=some (.v (gz j y (List.range n) (List.replicate n (g6 j)))):=by
 have er:pD [.rng 0 n]=some (.fz (.tup (af (List.range n)))):=by rw[Fi,if_pos ⟨rfl,by omega,by omega⟩,Int.toNat_natCast,Bt]
 have ek:=(K1 (show n≤100000 by omega)).2.1
 have m0:=Ig (a:=0) h1 (show n≤1000 by omega)
 have m1:=Ig (a:=1) h1 (show n≤1000 by omega)
 have m0:fy (.tup [.int 0]) (.int n)=_:=m0
 have m1:fy (.tup [.int 1]) (.int n)=_:=m1
 unfold gz
 rcases j4 hj with rfl|rfl|rfl|rfl <;>
  simp![oP,fS,mq,ff,mm,eS,CJ h1 h2,AG hj,y3 hy,JJ,ek,er,m0,m1,g6]<;>rfl
theorem bD {n:Nat}(h1:1≤n)(h2:n≤40):Frst (List.range n):=by
 have u:∀x,x<n->up (List.range n) x=x:=fun x hx=>by unfold up;rw[List.getD_eq_getElem?_getD,List.getElem?_range hx];rfl
 refine⟨by rw[List.length_range];exact h1,by rw[List.length_range];exact h2,⟨fun x hx=>?_,fun _=>0,fun x hx=>?_,fun x hx hn=>?_⟩⟩
 ·rw[List.length_range] at hx ⊢;rw[u x hx];exact hx
 ·show 0<_;omega
 ·rw[List.length_range] at hx;exact absurd (u x hx) hn
theorem r6 (ms:List Nat):gi [.tup (af ms)]=some (.v (.tup (af ms))):=by
 simp![tI,jy]
theorem pW {us ms:List Nat}(f:Frst us){j y:Str}(hy:y∈ay){x:Nat}(hx:x<us.length):cJ [gz j y us ms,.int x]=some (.v (.tup [gz j y (cw y us x) ms,.int (hd us x:Nat),.int (stp y us x:Nat)])):=by
 have e:=xg f hy hx
 simp only[nI] at e
 unfold gz
 simp![oQ,fQ,e,r6]
noncomputable def stay (j:Str)(ms:List Nat)(a b:Nat):Bool:=if j = "told" then true else if j = "names" then decide (a<b) else decide (up ms b≤up ms a)
noncomputable def wI (j:Str)(p q:Nat):Nat:=if j = "size" then p+q else if j = "rank"/\p=q then p+1 else p
noncomputable def tp (j:Str)(ms:List Nat)(a b:Nat):Nat:=if stay j ms a b then a else b
noncomputable def un (j:Str)(ms:List Nat)(a b:Nat):Nat:=if stay j ms a b then b else a
noncomputable def pT (j:Str)(us ms:List Nat)(a b:Nat):List Nat:=us.set (un j ms a b) (tp j ms a b)
noncomputable def xz (j:Str)(ms:List Nat)(a b:Nat):List Nat:=ms.set (tp j ms a b) (wI j (up ms (tp j ms a b)) (up ms (un j ms a b)))
theorem B7 {j:Str}(hj:j∈lE){ms:List Nat}{a b:Nat}(ha:a<ms.length)(hb:b<ms.length):dJ [.str j,.tup (af ms),.int a,.int b]=some (.v (.bl (stay j ms a b))):=by
 have d1:decide ((a:Int)<(b:Int))=decide (a<b):=decide_eq_decide.mpr (by omega)
 have d2:decide ((up ms b:Int)≤(up ms a:Int))=decide (up ms b≤up ms a):=decide_eq_decide.mpr (by omega)
 rcases j4 hj with rfl|rfl|rfl|rfl
 ·rw[show stay "size" ms a b=decide (up ms b≤up ms a) from rfl];simp![cA,bu,JJ,am ha,am hb,d2]
 ·rw[show stay "rank" ms a b=decide (up ms b≤up ms a) from rfl];simp![cA,bu,JJ,am ha,am hb,d2]
 ·rw[show stay "told" ms a b=true from rfl];simp![cA,bu]
 ·rw[show stay "names" ms a b=decide (a<b) from rfl];simp![cA,bu,JJ,d1]
theorem zF {j:Str}(hj:j∈lE)(p q:Nat):dP [.str j,.int p,.int q]=some (.v (.int (wI j p q:Nat))):=by
 have d:decide ((p:Int)=(q:Int))=decide (p=q):=decide_eq_decide.mpr (by omega)
 rcases j4 hj with rfl|rfl|rfl|rfl
 ·rw[show wI "size" p q=p+q from rfl];simp![bW,bf];rfl
 ·by_cases h:p=q
  ·rw[show wI "rank" p q=p+1 by unfold wI;rw[if_neg (by decide),if_pos ⟨rfl,h⟩]];simp![bW,bf,JJ,d,decide_eq_true h];rfl
  ·rw[show wI "rank" p q=p by unfold wI;rw[if_neg (by decide),if_neg fun z=>h z.2]];simp![bW,bf,JJ,d,decide_eq_false h]
 ·rw[show wI "told" p q=p from rfl];simp![bW,bf,JJ]
 ·rw[show wI "names" p q=p from rfl];simp![bW,bf,JJ]
theorem H6 {j y:Str}(hj:j∈lE){us ms:List Nat}{a b:Nat}(hl:ms.length=us.length)(ha:a<us.length)(hb:b<us.length):bF [gz j y us ms,.int a,.int b]=some (.v (gz j y (pT j us ms a b) (xz j ms a b))):=by
 have st:=B7 hj (ms:=ms) (show a<ms.length by omega) (show b<ms.length by omega)
 unfold gz pT xz tp un
 cases h:stay j ms a b with
 |true=>
  rw[h] at st
  simp![c9,br,st,cL ha,cL hb,cL (show a<ms.length by omega),eQ,am (show a<ms.length by omega),am (show b<ms.length by omega),zF hj]
 |false=>
  rw[h] at st
  simp![c9,br,st,cL ha,cL hb,cL (show b<ms.length by omega),eQ,am (show a<ms.length by omega),am (show b<ms.length by omega),zF hj,Bool.false_eq_true,if_false]
theorem B8 {j:Str}{ms:List Nat}{a b:Nat}:(xz j ms a b).length=ms.length:=by unfold xz;rw[List.length_set]
theorem BM {j:Str}{us ms:List Nat}{a b:Nat}:(pT j us ms a b).length=us.length:=by unfold pT;rw[List.length_set]
theorem yY {us:List Nat}(f:Frst us){j:Str}{ms:List Nat}{a b:Nat}(ha:a<us.length)(hb:b<us.length)(ea:up us a=a)(eb:up us b=b)(ne:a≠b):Frst (pT j us ms a b):=by
 unfold pT tp un
 cases stay j ms a b with
 |true=>exact iQ f hb ha eb ea ne
 |false=>exact iQ f ha hb ea eb ne.symm
inductive Deed where
 |find (x:Nat)|join (x y:Nat)
noncomputable def Deed.pv:Deed->PV
 |.find x=>.tup [.str "find",.int x]
 |.join x y=>.tup [.str "join",.int x,.int y]
noncomputable def Deed.ok (n:Nat):Deed->Prop
 |.find x=>x<n
 |.join x y=>x<n/\y<n
structure Sto (n:Nat)(us ms:List Nat):Prop where
 f:Frst us
 lu:us.length=n
 lm:ms.length=n
noncomputable def dU (j y:Str)(us ms:List Nat):Deed->List Nat
 |.find x=>cw y us x
 |.join x z=>if hd us x=hd us z then cw y (cw y us x) z else pT j (cw y (cw y us x) z) ms (hd us x) (hd us z)
noncomputable def dM (j:Str)(us ms:List Nat):Deed->List Nat
 |.find _=>ms
 |.join x z=>if hd us x=hd us z then ms else xz j ms (hd us x) (hd us z)
noncomputable def dA (us:List Nat):Deed->PV
 |.find x=>.int (hd us x:Nat)
 |.join x z=>.bl (!decide (hd us x=hd us z))
noncomputable def dS (y:Str)(us:List Nat):Deed->Nat
 |.find x=>stp y us x
 |.join x z=>stp y us x+stp y (cw y us x) z
noncomputable def iP (j y:Str)(us ms:List Nat)(d:Deed):PV:=.tup [gz j y (dU j y us ms d) (dM j us ms d),dA us d,.int (dS y us d:Nat)]
theorem ni {us:List Nat}(f:Frst us){x:Nat}(hx:x<us.length){y:Str}(hy:y∈ay){t:Nat}(ht:t<us.length):hd (cw y us x) t=hd us t:=(yU f.fst hx hy ht).1
theorem eT {n:Nat}{us ms:List Nat}(S:Sto n us ms){j y:Str}(hy:y∈ay){d:Deed}(hd':d.ok n):Sto n (dU j y us ms d) (dM j us ms d):=by
 obtain⟨f,lu,lm⟩:=S
 cases d with
 |find x=>
  have hx:x<us.length:=by rw[lu];exact hd'
  exact⟨gf f hx hy,by show (cw y us x).length=n;rw[b0,lu],lm⟩
 |join x z=>
  have hx:x<us.length:=by rw[lu];exact hd'.1
  have hz:z<us.length:=by rw[lu];exact hd'.2
  have f1:=gf f hx hy
  have l1:=b0 y us x
  have hz1:z<(cw y us x).length:=by omega
  have f2:=gf f1 hz1 hy
  have l2:=b0 y (cw y us x) z
  show Sto n (if hd us x=hd us z then _ else _) (if hd us x=hd us z then _ else _)
  by_cases e:hd us x=hd us z
  ·rw[if_pos e,if_pos e];exact⟨f2,by omega,lm⟩
  ·rw[if_neg e,if_neg e]
   have hd2:∀t,t<us.length->hd (cw y (cw y us x) z) t=hd us t:=fun t ht=>by rw[ni f1 hz1 hy (by omega),ni f hx hy ht]
   have top:∀t,t<us.length->up (cw y (cw y us x) z) (hd us t)=hd us t:=fun t ht=>by
    have:=fE f2.fst (show t<(cw y (cw y us x) z).length by omega)
    rwa [hd2 t ht] at this
   have a1:=c8 f.fst hx
   have a2:=c8 f.fst hz
   exact⟨yY f2 (by omega) (by omega) (top x hx) (top z hz) e,by rw[BM];omega,by rw[B8];exact lm⟩
theorem Bb {n:Nat}{us ms:List Nat}(S:Sto n us ms){j y:Str}(hj:j∈lE)(hy:y∈ay){x z:Nat}(hx':x<n)(hz':z<n):fA [gz j y us ms,.int x,.int z]=some (.v (iP j y us ms (.join x z))):=by
 obtain⟨f,lu,lm⟩:=S
 have hx:x<us.length:=by omega
 have hz:z<us.length:=by omega
 have f1:=gf f hx hy
 have l1:=b0 y us x
 have hz1:z<(cw y us x).length:=by omega
 have l2:=b0 y (cw y us x) z
 have e1:=pW f hy hx (ms:=ms) (j:=j)
 have e2:=pW f1 hy hz1 (ms:=ms) (j:=j)
 rw[ni f hx hy hz] at e2
 have a1:=c8 f.fst hx
 have a2:=c8 f.fst hz
 have d:decide ((hd us x:Int)=(hd us z:Int))=decide (hd us x=hd us z):=decide_eq_decide.mpr (by omega)
 by_cases e:hd us x=hd us z
 ·have r:iP j y us ms (.join x z)=.tup [gz j y (cw y (cw y us x) z) ms,.bl false,.int (stp y us x+stp y (cw y us x) z:Nat)]:=by
   unfold iP
   show PV.tup [gz j y (if hd us x=hd us z then _ else _) (if hd us x=hd us z then _ else _),.bl (!decide (hd us x=hd us z)),_]=_
   rw[if_pos e,if_pos e,decide_eq_true e];rfl
  rw[r]
  simp![jf,dB,e1,e2,d,decide_eq_true e]
  rfl
 ·have e3:=H6 (y:=y) hj (us:=cw y (cw y us x) z) (ms:=ms) (a:=hd us x) (b:=hd us z) (by omega) (by omega) (by omega)
  have r:iP j y us ms (.join x z)=.tup [gz j y (pT j (cw y (cw y us x) z) ms (hd us x) (hd us z)) (xz j ms (hd us x) (hd us z)),.bl true,.int (stp y us x+stp y (cw y us x) z:Nat)]:=by
   unfold iP
   show PV.tup [gz j y (if hd us x=hd us z then _ else _) (if hd us x=hd us z then _ else _),.bl (!decide (hd us x=hd us z)),_]=_
   rw[if_neg e,if_neg e,decide_eq_false e];rfl
  rw[r]
  simp![jf,dB,e1,e2,e3,d,decide_eq_false e]
  rfl
theorem DD:decide (("find" : Str) = "join")=false/\decide (("join" : Str) = "find")=false:=by decide
theorem vf {n:Nat}{us ms:List Nat}(S:Sto n us ms){j y:Str}(hj:j∈lE)(hy:y∈ay){d:Deed}(h:d.ok n):d4 [gz j y us ms,d.pv]=some (.v (iP j y us ms d)):=by
 cases d with
 |find x=>
  have e:=pW S.f hy (show x<us.length by rw[S.lu];exact h) (ms:=ms) (j:=j)
  simp only[Deed.pv,iP,dU,dM,dA,dS]
  have a0:L2.bQ [PV.str "find",.int (x:Int)] 0=some (.str "find"):=rfl
  have a1:L2.bQ [PV.str "find",.int (x:Int)] 1=some (.int x):=rfl
  simp![jc,dN,DD,a0,a1,e]
 |join x z=>
  have e:=Bb S hj hy h.1 h.2
  simp only[Deed.pv]
  have a0:L2.bQ [PV.str "join",.int (x:Int),.int (z:Int)] 0=some (.str "join"):=rfl
  have a1:L2.bQ [PV.str "join",.int (x:Int),.int (z:Int)] 1=some (.int x):=rfl
  have a2:L2.bQ [PV.str "join",.int (x:Int),.int (z:Int)] 2=some (.int z):=rfl
  simp![jc,dN,DD,a0,a1,a2,e]
theorem sB {n:Nat}{d:Deed}(h:d.ok n):bK [.int n,d.pv]=some (.v (.bl true)):=by
 have tt:∀x:Nat,x<n->decide ((0:Int)≤(x:Int)/\(x:Int)<(n:Int))=true:=fun x hx=>decide_eq_true ⟨by omega,by omega⟩
 cases d with
 |find x=>
  have a0:L2.bQ [PV.str "find",.int (x:Int)] 0=some (.str "find"):=rfl
  have c1:lN [PV.str "find",.int (x:Int)] (some 1) none=[.int (x:Int)]:=rfl
  have g1:pZ [("find",2),("join",3)] "find" = some 2:=by decide +kernel
  have k2:((2:Nat):Int)=2:=rfl
  have k3:(HT.sIx 2 0 (some 1)=0/\HT.sIx 2 2 none=2)=False:=eq_false (by decide)
  have e:i9 (gN 0) eD bT [none,some (.val (.int n))] [.int (x:Int)]=some [.bl true]:=pV (fun _=>.bl true) (its:=[.int (x:Int)]) fun p hp=>by
   rw[List.mem_singleton.mp hp]
   simp![bT,wa,tt x h]
  have b1:A6 [PV.bl true]=some [true]:=rfl
  have b2:[true].all id=true:=rfl
  simp only[Deed.pv]
  simp![lr,fD,bT,a0,mD,jF,gS,pP,g1,Option.elim_some,k2,k3,c1,e,b1,b2]
 |join x z=>
  have a0:L2.bQ [PV.str "join",.int (x:Int),.int (z:Int)] 0=some (.str "join"):=rfl
  have c1:lN [PV.str "join",.int (x:Int),.int (z:Int)] (some 1) none=[.int (x:Int),.int (z:Int)]:=rfl
  have g1:pZ [("find",2),("join",3)] "join" = some 3:=by decide +kernel
  have k2:((3:Nat):Int)=3:=rfl
  have k3:(HT.sIx 3 0 (some 1)=0/\HT.sIx 3 3 none=3)=False:=eq_false (by decide)
  have e:i9 (gN 0) eD bT [none,some (.val (.int n))] [.int (x:Int),.int (z:Int)]=some [.bl true,.bl true]:=pV (fun _=>.bl true) (its:=[.int (x:Int),.int (z:Int)]) fun p hp=>by
   obtain⟨t,ht,rfl⟩:∃t:Nat,t<n/\p=.int (t:Int):=by
    rcases List.mem_cons.mp hp with rfl|hp
    ·exact⟨x,h.1,rfl⟩
    ·rw[List.mem_singleton.mp hp];exact⟨z,h.2,rfl⟩
   simp![bT,wa,tt t ht]
  have b1:A6 [PV.bl true,.bl true]=some [true,true]:=rfl
  have b2:[true,true].all id=true:=rfl
  simp only[Deed.pv]
  simp![lr,fD,bT,a0,mD,jF,gS,pP,g1,Option.elim_some,k2,k3,c1,e,b1,b2]
theorem Fv {n:Nat}{us ms:List Nat}(S:Sto n us ms){j y:Str}(hj:j∈lE)(hy:y∈ay){d:Deed}(h:d.ok n):my [gz j y us ms,d.pv]=some (.v (iP j y us ms d)):=by
 have e1:=sB h
 rw[←S.lu] at e1
 have e2:=vf S hj hy h
 have a2:L2.bQ [PV.str j,.str y,.tup (af us),.tup (af ms)] 2=some (.tup (af us)):=rfl
 have e0:aM (gz j y us ms) (.int 2)=some (.fz (.tup (af us))):=by unfold gz;rw[tO,a2];rfl
 simp![zB,mP,e0,e1,e2]
end Dp
end
section
namespace Dp
open PySem L2 Fo Dp
noncomputable def JA:FS:=(aA 7 (A5 (ao aR (aa (ao bC (aa (fV 0) (aa (ai bO (ai bO (fV 1) (fC (.int 1))) (ai iG (fV 6) (fC (.int 5)))) ag))) (aa (fC (.int 20)) ag))) (yw (ai fy (fC (.int 4)) (ai aY (fV 6) (fC (.int 5))))) xU))
theorem JF {ρ:ak}:JA ρ=(aA 7 (A5 (ao aR (aa (ao bC (aa (fV 0) (aa (ai bO (ai bO (fV 1) (fC (.int 1))) (ai iG (fV 6) (fC (.int 5)))) ag))) (aa (fC (.int 20)) ag))) (yw (ai fy (fC (.int 4)) (ai aY (fV 6) (fC (.int 5))))) xU)) ρ:=Eq.trans rfl rfl
noncomputable def JB:FS:=(oF 8 9 (aa (ai aY (ai aM (fV 7) (fC (.int 0))) (fV 2)) (aa (ai aY (ai aM (fV 7) (fC (.int 1))) (fV 2)) ag)))
theorem Ke {ρ:ak}:JB ρ=(oF 8 9 (aa (ai aY (ai aM (fV 7) (fC (.int 0))) (fV 2)) (aa (ai aY (ai aM (fV 7) (fC (.int 1))) (fV 2)) ag))) ρ:=Eq.trans rfl rfl
noncomputable def JP:FS:=(gc (fT (ai i4 (ai aY (ai aM (fV 4) (fC (.int 1))) (fC (.int 4))) (fC (.int 1)))) (oF 8 9 (aa (ai aY (fV 6) (fV 2)) (aa (ai aY (ai bO (fV 6) (fC (.int 1))) (fV 2)) ag))) aH)
theorem CR {ρ:ak}:JP ρ=(gc (fT (ai i4 (ai aY (ai aM (fV 4) (fC (.int 1))) (fC (.int 4))) (fC (.int 1)))) (oF 8 9 (aa (ai aY (fV 6) (fV 2)) (aa (ai aY (ai bO (fV 6) (fC (.int 1))) (fV 2)) ag))) aH) ρ:=Eq.trans rfl rfl
noncomputable def Jz:FS:=(gc (eI (fT (ai i4 (ai aY (ai aM (fV 4) (fC (.int 1))) (fC (.int 4))) (fC (.int 2)))) (fT (ai Bz (ai aY (ai aM (fV 7) (fC (.int 2))) (fC (.int 3))) (fC (.int 0))))) (aj (aA 8 (ai aY (ai fy (ai iG (fV 8) (fC (.int 2))) (fC (.int 2))) (fV 2))) (aA 9 (fB nP (aa (ai rT (fV 2) (fC (.int 1))) (aa (ai bO (fV 8) (fC (.int 1))) ag))))) aH)
theorem xK {ρ:ak}:Jz ρ=(gc (eI (fT (ai i4 (ai aY (ai aM (fV 4) (fC (.int 1))) (fC (.int 4))) (fC (.int 2)))) (fT (ai Bz (ai aY (ai aM (fV 7) (fC (.int 2))) (fC (.int 3))) (fC (.int 0))))) (aj (aA 8 (ai aY (ai fy (ai iG (fV 8) (fC (.int 2))) (fC (.int 2))) (fV 2))) (aA 9 (fB nP (aa (ai rT (fV 2) (fC (.int 1))) (aa (ai bO (fV 8) (fC (.int 1))) ag))))) aH) ρ:=Eq.trans rfl rfl
noncomputable def J3:FS:=(gc (eI (fT (ai i6 (fV 5) (e8 ag))) (fT (ai i4 (ai aY (ai aM (fV 7) (fC (.int 2))) (fC (.int 7))) (fC (.int 1))))) (dQ (ai aM (fV 5) (ai aY (ai aM (fV 7) (fC (.int 3))) (fB dW (aa (fV 5) ag)))) (hV 2 (gC (gN 8) (gC (gN 9) g0)))) aH)
theorem Ay {ρ:ak}:J3 ρ=(gc (eI (fT (ai i6 (fV 5) (e8 ag))) (fT (ai i4 (ai aY (ai aM (fV 7) (fC (.int 2))) (fC (.int 7))) (fC (.int 1))))) (dQ (ai aM (fV 5) (ai aY (ai aM (fV 7) (fC (.int 3))) (fB dW (aa (fV 5) ag)))) (hV 2 (gC (gN 8) (gC (gN 9) g0)))) aH) ρ:=Eq.trans rfl rfl
noncomputable def JD:FS:=(qN jC 5 (aa (ai aM (e8 (aa (bE (aa (fV 8) (aa (fV 9) ag))) (aa (bE (aa (fV 9) (aa (fV 8) ag))) ag))) (ai aY (ai iG (ai aM (fV 7) (fC (.int 2))) (fC (.int 7))) (fC (.int 2)))) ag))
theorem Gx {ρ:ak}:JD ρ=(qN jC 5 (aa (ai aM (e8 (aa (bE (aa (fV 8) (aa (fV 9) ag))) (aa (bE (aa (fV 9) (aa (fV 8) ag))) ag))) (ai aY (ai iG (ai aM (fV 7) (fC (.int 2))) (fC (.int 7))) (fC (.int 2)))) ag)) ρ:=Eq.trans rfl rfl
theorem JI {ρ:ak}:bV ρ=(aj JA (aj JB (aj JP (aj Jz (aj J3 JD))))) ρ:=Eq.trans rfl rfl
noncomputable def l8 (ps:List (Nat×Nat)):List PV:=ps.map fun p=>.tup [.int p.1,.int p.2]
theorem uV (ps:List (Nat×Nat)):(l8 ps).length=ps.length:=List.length_map ..
theorem gT:∀ps:List (Nat×Nat),aq (l8 ps)=true
 |[]=>by show aq []=true;rw[aq]
 |p::ps=>by
  show aq (.tup [.int p.1,.int p.2]::l8 ps)=true
  rw[aq,gT ps];simp[aK,aq]
theorem r5:∀ps:List (Nat×Nat),bp (l8 ps)≤1
 |[]=>by show bp []≤1;rw[bp];omega
 |p::ps=>by
  show bp (.tup [.int p.1,.int p.2]::l8 ps)≤1
  have:=r5 ps
  rw[bp];simp[dep,bp];omega
theorem kK (ps:List (Nat×Nat)):c6 (l8 ps) []=ps.isEmpty:=by
 cases ps with
 |nil=>exact xT
 |cons p ps=>exact sE (by show (l8 ps).length+1≠0;omega)
theorem AL {α:Type}(l:List α)(k:Nat):lN l (some (k:Int)) none=l.drop k:=by
 unfold lN
 rw[HT.sIx_nat,HT.sIx_none]
 by_cases h:k≤l.length
 ·rw[Nat.min_eq_left h,List.take_of_length_le (by rw[List.length_drop];omega)]
 ·rw[Nat.min_eq_right (by omega),List.drop_eq_nil_of_le (Nat.le_refl _),List.drop_eq_nil_of_le (by omega),List.take_nil]
section
variable {ns:List Int}{n:Nat}{hs ys:List Nat}{row:List (Nat×Nat)}{s3:Option Sl}{at' k:Nat}
noncomputable def JR (ns:List Int)(at' n:Nat)(s3:Option Sl)(hs:List Nat)(row:List (Nat×Nat))(k:Nat)(ys:List Nat)(x z:Nat):ak:=[some (.val (.src (iL ns))),some (.val (.int at')),some (.val (.int n)),s3,some (.val (.lst (af hs))),some (.own (l8 row)),some (.val (.int k)),some (.val (.lst (af ys))),some (.val (.int x)),some (.val (.int z))]
theorem JG (hn:1≤n)(hh:hs.length=4){x z:Nat}(hx:x<n)(hz:z<n):∃x' z',x'<n/\z'<n/\JP (JR ns at' n s3 hs row k ys x z)=.nx (JR ns at' n s3 hs row k ys x' z'):=by
 have i1:L2.bQ (af hs) 1=some (.int (up hs 1:Nat)):=am (x:=1) (by omega)
 have pn:(0:Int)<(n:Int):=by omega
 unfold JR
 by_cases q:(up hs 1:Int) % 4=1
 ·refine⟨k % n,(k+1) % n,Nat.mod_lt _ (by omega),Nat.mod_lt _ (by omega),?_⟩
  simp![CR,i1,decide_eq_true q,pn]
  rfl
 ·exact⟨x,z,hx,hz,by simp![CR,i1,decide_eq_false q]⟩
theorem JH (hn:1≤n)(hn2:n≤40)(hh:hs.length=4)(hy:4≤ys.length){x z:Nat}(hx:x<n)(hz:z<n):∃x' z',x'<n/\z'<n/\Jz (JR ns at' n s3 hs row k ys x z)=.nx (JR ns at' n s3 hs row k ys x' z'):=by
 have i1:L2.bQ (af hs) 1=some (.int (up hs 1:Nat)):=am (x:=1) (by omega)
 have i2:L2.bQ (af ys) 2=some (.int (up ys 2:Nat)):=am (x:=2) (by omega)
 have pn:(0:Int)<(n:Int):=by omega
 unfold JR
 by_cases q:(up hs 1:Int) % 4=2
 ·by_cases q2:(0:Int)<(up ys 2:Int) % 3
  ·have e1:(x:Int) / 2 * 2 % (n:Int)=((x / 2 * 2 % n:Nat):Int):=by push_cast;rfl
   have em:(if ((x / 2 * 2 % n:Nat):Int)+1<(n:Int) - 1 then ((x / 2 * 2 % n:Nat):Int)+1 else (n:Int) - 1)=((min (n - 1) (x / 2 * 2 % n+1):Nat):Int):=by split<;>omega
   refine⟨x / 2 * 2 % n,min (n - 1) (x / 2 * 2 % n+1),Nat.mod_lt _ (by omega),by omega,?_⟩
   have ml:(((x:Int) / 2).natAbs<2 ^ 64\/(2:Int).natAbs<2 ^ 64):=.inr (by decide)
   simp![xK,i1,i2,decide_eq_true q,decide_eq_true q2,pn,ml,e1,em]
  ·exact⟨x,z,hx,hz,by simp![xK,i1,i2,decide_eq_true q,decide_eq_false q2]⟩
 ·exact⟨x,z,hx,hz,by simp![xK,i1,decide_eq_false q]⟩
theorem JS (hy:4≤ys.length)(hr:∀p∈row,p.1<n/\p.2<n){x z:Nat}(hx:x<n)(hz:z<n):∃x' z',x'<n/\z'<n/\J3 (JR ns at' n s3 hs row k ys x z)=.nx (JR ns at' n s3 hs row k ys x' z'):=by
 have i2:L2.bQ (af ys) 2=some (.int (up ys 2:Nat)):=am (x:=2) (by omega)
 have i3:L2.bQ (af ys) 3=some (.int (up ys 3:Nat)):=am (x:=3) (by omega)
 have dd:decide (bp (l8 row)≤49)=true:=decide_eq_true (by have:=r5 row;omega)
 have p0:aq []=true:=by rw[aq]
 unfold JR
 by_cases h0:row=[]
 ·subst h0;exact⟨x,z,hx,hz,by simp![Ay,gT,p0,dd,kK,List.isEmpty_nil]⟩
 ·have ie:row.isEmpty=false:=by cases row with
   |nil=>exact absurd rfl h0
   |cons=>rfl
  have pos:0<row.length:=List.length_pos_iff.mpr h0
  by_cases q:(up ys 2:Int) % 7=1
  ·have hl:up ys 3 % row.length<row.length:=Nat.mod_lt _ pos
   have pl:(0:Int)<(row.length:Int):=by omega
   have ea:L2.bQ (l8 row) ((up ys 3:Int) % (row.length:Int))=some (.tup [.int (row[up ys 3 % row.length]).1,.int (row[up ys 3 % row.length]).2]):=by
    rw[show (up ys 3:Int) % (row.length:Int)=((up ys 3 % row.length:Nat):Int) from rfl]
    refine L2.cX ?_
    unfold l8
    rw[List.getElem?_map,List.getElem?_eq_getElem hl];rfl
   have hm:=hr _ (List.getElem_mem hl)
   refine⟨_,_,hm.1,hm.2,?_⟩
   simp![Ay,gT,p0,dd,kK,ie,i2,i3,decide_eq_true q,uV,pl,ea]
  ·exact⟨x,z,hx,hz,by simp![Ay,gT,p0,dd,kK,ie,i2,decide_eq_false q]⟩
theorem KM (hy:4≤ys.length)(hl:row.length≤1000){x z:Nat}:∃p,(p=(x,z)\/p=(z,x))/\JD (JR ns at' n s3 hs row k ys x z)=.nx (JR ns at' n s3 hs (row++[p]) k ys x z):=by
 have i2:L2.bQ (af ys) 2=some (.int (up ys 2:Nat)):=am (x:=2) (by omega)
 have l1:(l8 row).length≤100000:=by rw[uV];omega
 have ea:∀p:Nat×Nat,l8 row++[.tup [.int p.1,.int p.2]]=l8 (row++[p]):=fun p=>by unfold l8;rw[List.map_append];rfl
 unfold JR
 by_cases q:(up ys 2:Int) / 7 % 2=0
 ·refine⟨(x,z),.inl rfl,?_⟩
  have e0:∀a b:PV,L2.bQ [a,b] 0=some a:=fun a b=>rfl
  rw[←ea]
  simp![Gx,i2,q,e0,l1]
 ·have q:(up ys 2:Int) / 7 % 2=1:=by omega
  refine⟨(z,x),.inr rfl,?_⟩
  have e0:∀a b:PV,L2.bQ [a,b] 1=some b:=fun a b=>rfl
  rw[←ea]
  simp![Gx,i2,q,e0,l1]
theorem E6 (hn:1≤n)(hn2:n≤40)(hh:hs.length=4)(hat:at'≤500)(hk:k≤500)(hl:row.length≤1000)(hr:∀p∈row,p.1<n/\p.2<n){z7 z8 z9:Option Sl}:∃p w7 w8 w9,(p.1<n/\p.2<n) ∧
  bV [some (.val (.src (iL ns))),some (.val (.int at')),some (.val (.int n)),s3,some (.val (.lst (af hs))),some (.own (l8 row)),some (.val (.int k)),z7,z8,z9] =
   .nx [some (.val (.src (iL ns))),some (.val (.int at')),some (.val (.int n)),s3,some (.val (.lst (af hs))),some (.own (l8 (row++[p]))),some (.val (.int k)),w7,w8,w9]:=by
 obtain⟨c,ec⟩:=qi ns ((at':Int)+1+(k:Int) / 5) (by omega) (by omega)
 obtain⟨xs,hx,ex⟩:=iY c 20 (by decide) (by decide)
 have hx:xs.length=20:=hx
 have e4:(4:Int) * ((k:Int) % 5)=((4 * (k % 5):Nat):Int):=by omega
 have ec':lN (af xs) (some ((4 * (k % 5):Nat):Int)) none=af (xs.drop (4 * (k % 5))):=by rw[zV,AL]
 generalize hys:xs.drop (4 * (k % 5))=ys at ec'
 have hy:4≤ys.length:=by rw[←hys,List.length_drop];omega
 have ml:((4:Int).natAbs<2 ^ 64\/((k:Int) % 5).natAbs<2 ^ 64):=.inl (by decide)
 have pn:(0:Int)<(n:Int):=by omega
 have i0:L2.bQ (af ys) 0=some (.int (up ys 0:Nat)):=am (x:=0) (by omega)
 have i1:L2.bQ (af ys) 1=some (.int (up ys 1:Nat)):=am (x:=1) (by omega)
 have m0:(up ys 0:Int) % (n:Int)=((up ys 0 % n:Nat):Int):=rfl
 have m1:(up ys 1:Int) % (n:Int)=((up ys 1 % n:Nat):Int):=rfl
 obtain⟨x1,z1,a1,b1,e1⟩:=JG (ns:=ns) (at':=at') (s3:=s3) (row:=row) (k:=k) (ys:=ys) hn hh (Nat.mod_lt (up ys 0) (by omega)) (Nat.mod_lt (up ys 1) (by omega))
 obtain⟨x2,z2,a2,b2,e2⟩:=JH (ns:=ns) (at':=at') (s3:=s3) (row:=row) (k:=k) (ys:=ys) hn hn2 hh hy a1 b1
 obtain⟨x3,z3,a3,b3,e3⟩:=JS (ns:=ns) (at':=at') (s3:=s3) (hs:=hs) (k:=k) (ys:=ys) hy hr a2 b2
 obtain⟨p,hp,e5⟩:=KM (ns:=ns) (n:=n) (at':=at') (s3:=s3) (hs:=hs) (row:=row) (k:=k) (ys:=ys) (x:=x3) (z:=z3) hy hl
 refine⟨p,some (.val (.lst (af ys))),some (.val (.int x3)),some (.val (.int z3)),by rcases hp with rfl|rfl<;>exact⟨by assumption,by assumption⟩,?_⟩
 unfold JR at e1 e2 e3 e5
 simp![JI,JF,Ke,ec,ex,ml,e4,ec',i0,i1,pn,m0,m1,e1,e2,e3,e5]
theorem mi (hn:1≤n)(hn2:n≤40)(hh:hs.length=4)(hat:at'≤500):∀(ks:List Nat) (row:List (Nat×Nat)) (z6 z7 z8 z9:Option Sl),(∀k∈ks,k≤500)->row.length+ks.length≤1000->(∀p∈row,p.1<n/\p.2<n) →
  ∃row' w6 w7 w8 w9,(∀p∈row',p.1<n/\p.2<n)/\row'.length=row.length+ks.length/\aQ (gN 6) bV (af ks) [some (.val (.src (iL ns))),some (.val (.int at')),some (.val (.int n)),s3,some (.val (.lst (af hs))),some (.own (l8 row)),z6,z7,z8,z9] =
   .nx [some (.val (.src (iL ns))),some (.val (.int at')),some (.val (.int n)),s3,some (.val (.lst (af hs))),some (.own (l8 row')),w6,w7,w8,w9]
 |[],row,z6,z7,z8,z9,_,_,hr=>⟨row,z6,z7,z8,z9,hr,rfl,rfl⟩
 |k::ks,row,z6,z7,z8,z9,hk,hl,hr=>by
  rw[List.length_cons] at hl
  obtain⟨p,w7,w8,w9,hp,e⟩:=E6 (ns:=ns) (s3:=s3) hn hn2 hh hat (hk k List.mem_cons_self) (by omega) hr (z7:=z7) (z8:=z8) (z9:=z9)
  obtain⟨row',v6,v7,v8,v9,h1,h2,e'⟩:=mi hn hn2 hh hat ks (row++[p]) (some (.val (.int k))) w7 w8 w9 (fun q hq=>hk q (List.mem_cons_of_mem _ hq)) (by rw[List.length_append,List.length_singleton];omega) (fun q hq=>by
   rcases List.mem_append.mp hq with hq|hq
   ·exact hr q hq
   ·rw[List.mem_singleton.mp hq];exact hp)
  refine⟨row',v6,v7,v8,v9,h1,by rw[h2,List.length_append,List.length_singleton,List.length_cons];omega,?_⟩
  rw[←e',gn,cV]
  simp![e]
theorem xA (ns:List Int){at' n m:Nat}(hn:1≤n)(hn2:n≤40)(hat:at'≤500)(hm:m≤60):∃row:List (Nat×Nat),(∀p∈row,p.1<n/\p.2<n)/\row.length≤m/\eO [.src (iL ns),.int at',.int n,.int m]=some (.v (.tup (l8 row))):=by
 obtain⟨c,ec⟩:=qi ns (at':Int) (by omega) (by omega)
 obtain⟨hs,hh,eh⟩:=iY c 4 (by decide) (by decide)
 have hh:hs.length=4:=hh
 have i0:L2.bQ (af hs) 0=some (.int (up hs 0:Nat)):=am (x:=0) (by omega)
 have pm:(0:Int)<(m:Int)+1:=by omega
 have em:(up hs 0:Int) % ((m:Int)+1)=((up hs 0 % (m+1):Nat):Int):=rfl
 have lt:up hs 0 % (m+1)<m+1:=Nat.mod_lt _ (by omega)
 generalize up hs 0 % (m+1)=q at *
 obtain⟨row,w6,w7,w8,w9,h1,h2,e⟩:=mi (ns:=ns) (s3:=some (.val (.int m))) hn hn2 hh hat (List.range q) [] none none none none (fun k hk=>by have:=List.mem_range.mp hk;omega) (by rw[List.length_range];simp;omega) (fun p hp=>by cases hp)
 rw[List.length_range] at h2
 simp only[List.length_nil] at h2
 have e:aQ (gN 6) bV (af (List.range q)) [some (.val (.src (iL ns))),some (.val (.int at')),some (.val (.int n)),some (.val (.int m)),some (.val (.lst (af hs))),some (.own []),none,none,none,none]=_:=e
 exact⟨row,h1,by omega,by simp![mK,eX,ec,eh,i0,pm,em,K1 (show q≤100000 by omega),e]⟩
end
theorem u9 {fs:FA}{ρ:ak}:mJ fs ρ=(fs ρ).bind fun rs=>(rs.mapM RV.fr).bind xN:=by
 unfold mJ
 rfl
theorem pq {ps:List PV}:xN [.tup ps]=some (cO 0 ps):=Eq.trans rfl rfl
theorem E4 {ns:List Int}{at' n k:Nat}{s3:Option Sl}{ds:List Deed}{x z:Nat}(hx:x<n)(hz:z<n)(hat:at'≤500)(hk:k≤500)(hl:ds.length≤1000){z8:Option Sl}:∃d w8,Deed.ok n d ∧
  bc [some (.val (.src (iL ns))),some (.val (.int at')),some (.val (.int n)),s3,some (.own (ds.map Deed.pv)),some (.val (.int k)),some (.val (.int x)),some (.val (.int z)),z8] =
   .nx [some (.val (.src (iL ns))),some (.val (.int at')),some (.val (.int n)),s3,some (.own ((ds++[d]).map Deed.pv)),some (.val (.int k)),some (.val (.int x)),some (.val (.int z)),w8]:=by
 obtain⟨c,ec⟩:=qi ns ((at':Int)+20+(k:Int) / 10) (by omega) (by omega)
 obtain⟨xs,hxs,ex⟩:=iY c 10 (by decide) (by decide)
 have hxs:xs.length=10:=hxs
 have ik:L2.bQ (af xs) ((k:Int) % 10)=some (.int (up xs (k % 10):Nat)):=am (x:=k % 10) (by omega)
 have l1:(ds.map Deed.pv).length≤100000:=by rw[List.length_map];omega
 have ea:∀d,ds.map Deed.pv++[d.pv]=(ds++[d]).map Deed.pv:=fun d=>by rw[List.map_append];rfl
 have h3:up xs (k % 10) % 3<3:=Nat.mod_lt _ (by decide)
 have e3:(up xs (k % 10):Int) % 3=((up xs (k % 10) % 3:Nat):Int):=rfl
 generalize up xs (k % 10) % 3=q at *
 have c3:q=0\/q=1\/q=2:=by omega
 have f0:∀a b c:PV,L2.bQ [a,b,c] ((0:Nat):Int)=some a:=fun a b c=>rfl
 have f1:∀a b c:PV,L2.bQ [a,b,c] ((1:Nat):Int)=some b:=fun a b c=>rfl
 have f2:∀a b c:PV,L2.bQ [a,b,c] ((2:Nat):Int)=some c:=fun a b c=>rfl
 have l1:ds.length≤100000:=by omega
 rcases c3 with rfl|rfl|rfl
 ·refine⟨.join x z,some (.val (.lst (af xs))),⟨hx,hz⟩,?_⟩
  rw[←ea]
  simp![bc,ec,ex,ik,e3,f0,List.length_map,l1,Deed.pv]
 ·refine⟨.join x z,some (.val (.lst (af xs))),⟨hx,hz⟩,?_⟩
  rw[←ea]
  simp![bc,ec,ex,ik,e3,f1,List.length_map,l1,Deed.pv]
 ·refine⟨.find x,some (.val (.lst (af xs))),hx,?_⟩
  rw[←ea]
  simp![bc,ec,ex,ik,e3,f2,List.length_map,l1,Deed.pv]
theorem zY {ns:List Int}{at' n:Nat}{s3:Option Sl}(hat:at'≤500):∀(row:List (Nat×Nat)) (k:Nat) (ds:List Deed) (z5 z6 z7 z8:Option Sl),(∀p∈row,p.1<n/\p.2<n)->k+row.length≤500->ds.length+row.length≤1000->(∀d∈ds,Deed.ok n d) →
  ∃(ds':List Deed) (w5 w6 w7 w8:Option Sl),(∀d∈ds',Deed.ok n d)/\ds'.length=ds.length+row.length/\aQ (hV 2 (gC (gN 5) (gC (hV 2 (gC (gN 6) (gC (gN 7) g0))) g0))) bc (cO k (l8 row)) [some (.val (.src (iL ns))),some (.val (.int at')),some (.val (.int n)),s3,some (.own (ds.map Deed.pv)),z5,z6,z7,z8] =
   .nx [some (.val (.src (iL ns))),some (.val (.int at')),some (.val (.int n)),s3,some (.own (ds'.map Deed.pv)),w5,w6,w7,w8]
 |[],k,ds,z5,z6,z7,z8,_,_,_,hd=>⟨ds,z5,z6,z7,z8,hd,rfl,rfl⟩
 |(x,z)::row,k,ds,z5,z6,z7,z8,hr,hk,hl,hd=>by
  rw[List.length_cons] at hk hl
  have hx:x<n:=(hr (x,z) List.mem_cons_self).1
  have hz:z<n:=(hr (x,z) List.mem_cons_self).2
  obtain⟨d,w8,hd1,e⟩:=E4 (ns:=ns) (at':=at') (s3:=s3) (ds:=ds) (k:=k) hx hz hat (by omega) (by omega) (z8:=z8)
  obtain⟨ds',v5,v6,v7,v8,h1,h2,e'⟩:=zY (ns:=ns) (s3:=s3) hat row (k+1) (ds++[d]) (some (.val (.int k))) (some (.val (.int x))) (some (.val (.int z))) w8 (fun p hp=>hr p (List.mem_cons_of_mem _ hp)) (by omega) (by rw[List.length_append,List.length_singleton];omega) (fun q hq=>by
   rcases List.mem_append.mp hq with hq|hq
   ·exact hd q hq
   ·rw[List.mem_singleton.mp hq];exact hd1)
  refine⟨ds',v5,v6,v7,v8,h1,by rw[h2,List.length_append,List.length_singleton,List.length_cons];omega,?_⟩
  rw[←e',show cO k (l8 ((x,z)::row))=.tup [.int k,.tup [.int x,.int z]]::cO (k+1) (l8 row) from rfl,cV]
  simp![e]
theorem AF (ns:List Int){at' n m:Nat}(hn:1≤n)(hn2:n≤40)(hat:at'≤500)(hm:m≤60):∃ds:List Deed,(∀d∈ds,Deed.ok n d)/\ds.length≤m/\cQ [.src (iL ns),.int at',.int n,.int m]=some (.v (.tup (ds.map Deed.pv))):=by
 obtain⟨row,h1,h2,e⟩:=xA ns hn hn2 hat hm
 obtain⟨ds,w5,w6,w7,w8,h3,h4,e'⟩:=zY (ns:=ns) (s3:=some (.val (.int m))) hat row 0 [] none none none none h1 (by omega) (by simp;omega) (fun d hd=>by cases hd)
 simp only[List.length_nil] at h4
 have e':aQ (hV 2 (gC (gN 5) (gC (hV 2 (gC (gN 6) (gC (gN 7) g0))) g0))) bc (cO 0 (l8 row)) [some (.val (.src (iL ns))),some (.val (.int at')),some (.val (.int n)),some (.val (.int m)),some (.own []),none,none,none,none]=_:=e'
 exact⟨ds,h3,by omega,by simp![og,fq,e,u9,pq,e']⟩
end Dp
end
section
namespace Dp
open PySem L2 Fo Dp
theorem iZ:("none" : Str)∈ay:=by decide
theorem st2 (j y:Str)(us ms:List Nat):aM (gz j y us ms) (.int 2)=some (.fz (.tup (af us))):=rfl
end Dp
end
section
namespace Dp
open PySem L2 Fo Pt
theorem iT {us:List Nat}(f:Frst us){u t:Nat}(hu:u<us.length)(ht:t<us.length)(eu:up us u=u)(et:up us t=t)(ne:t≠u){z:Nat}(hz:z<us.length):hd (us.set u t) z=if hd us z=u then t else hd us z:=by
 have f':=iQ f hu ht eu et ne
 have l':(us.set u t).length=us.length:=List.length_set
 have ht':hd (us.set u t) t=t:=aG f'.fst (by omega) (by rw[aI hu,if_neg ne];exact et)
 have main:∀{z:Nat} {l:List Nat},Way us z l->z<us.length->hd (us.set u t) z=if hd us z=u then t else hd us z:=fun {z l} w=>by
  induction w with
  | @head z e=>
   intro hz
   rw[aG f.fst hz e]
   by_cases q:z=u
   ·subst q
    rw[if_pos rfl,←re f'.fst (by omega),aI hu,if_pos rfl,ht']
   ·rw[if_neg q]
    exact aG f'.fst (by omega) (by rw[aI hu,if_neg q];exact e)
  | @step z l n w ih=>
   intro hz
   have q:z≠u:=fun q=>n (by rw[q];exact eu)
   have:=ih (f.fst.bnd z hz)
   rw[re f.fst hz] at this
   rw[←this,←re f'.fst (show z<(us.set u t).length by omega),aI hu,if_neg q]
 exact main (aC f.fst hz) hz
theorem F6 {P Q X Y:Nat}:(if X=P then Q else X)=(if Y=P then Q else Y)↔X=Y\/(X=P\/X=Q)/\(Y=P\/Y=Q):=by
 by_cases h1:X=P
 ·rw[if_pos h1]
  by_cases h2:Y=P
  ·rw[if_pos h2];exact⟨fun _=>.inr ⟨.inl h1,.inl h2⟩,fun _=>rfl⟩
  ·rw[if_neg h2];exact⟨fun e=>.inr ⟨.inl h1,.inr e.symm⟩,fun e=>e.elim (fun e=>absurd (e.symm.trans h1) h2) fun e=>(e.2.resolve_left h2).symm⟩
 ·rw[if_neg h1]
  by_cases h2:Y=P
  ·rw[if_pos h2];exact⟨fun e=>.inr ⟨.inr e,.inl h2⟩,fun e=>e.elim (fun e=>absurd (e.trans h2) h1) fun e=>e.1.resolve_left h1⟩
  ·rw[if_neg h2];exact⟨.inl,fun e=>e.elim id fun e=>(e.1.resolve_left h1).trans (e.2.resolve_left h2).symm⟩
theorem wD {X Y A B x y a b:Nat}(ne:A≠B)(x1:X=A↔x=a)(x2:X=B↔x=b)(y1:Y=A↔y=a)(y2:Y=B↔y=b)(xy:X=Y↔x=y):((if X=B then A else X)=(if Y=B then A else Y)↔(if x=a then b else x)=(if y=a then b else y)):=by
 rw[F6,F6,x1,x2,y1,y2,xy,Or.comm (a:=x=b),Or.comm (a:=y=b)]
theorem tW {X Y A B x y a b:Nat}(ne:A≠B)(x1:X=A↔x=a)(x2:X=B↔x=b)(y1:Y=A↔y=a)(y2:Y=B↔y=b)(xy:X=Y↔x=y):((if X=A then B else X)=(if Y=A then B else Y)↔(if x=a then b else x)=(if y=a then b else y)):=by
 rw[F6,F6,x1,x2,y1,y2,xy]
noncomputable def xx (n:Nat)(us:List Nat)(c:Nat->Nat):Prop:=∀x y,x<n->y<n->(hd us x=hd us y↔c x=c y)
theorem Hz {n:Nat}(h1:1≤n)(h2:n≤40):xx n (List.range n) id:=fun x y hx hy=>by
 have u:∀x,x<n->up (List.range n) x=x:=fun x hx=>by unfold up;rw[List.getD_eq_getElem?_getD,List.getElem?_range hx];rfl
 have f:=bD h1 h2
 rw[aG f.fst (by rw[List.length_range];exact hx) (u x hx),aG f.fst (by rw[List.length_range];exact hy) (u y hy)]
 exact Iff.rfl
end Dp
end
section
namespace Fo
open PySem L2 Pt
theorem Way.nd {us:List Nat}{x:Nat}{l:List Nat}(w:Way us x l):l.Nodup:=by
 induction w with
 |head e=>simp
 | @step x l n w ih=>
  refine List.nodup_cons.mpr ⟨fun h=>?_,ih⟩
  obtain⟨l2,w2,_,hl,_⟩:=w.later x h
  have:=w2.det (.step n w)
  rw[this,List.length_cons] at hl
  omega
theorem yN {us:List Nat}(b:∀x,x<us.length->up us x<us.length)(w:∀x,x<us.length->∃l,Way us x l):Fst us:=by
 refine⟨b,fun x=>if h:x<us.length then (Classical.choose (w x h)).length - 1 else 0,fun x hx=>?_,fun x hx ne=>?_⟩
 ·show (if h:x<us.length then _ else 0)<us.length
  rw[dif_pos hx]
  have h1:=Classical.choose_spec (w x hx)
  have h2:=r7 h1.nd (h1.lt b hx)
  have h3:=h1.pos
  omega
 ·have hu:=b x hx
  show (if h:up us x<us.length then _ else 0)<(if h:x<us.length then _ else 0)
  rw[dif_pos hx,dif_pos hu]
  have h1:=Classical.choose_spec (w x hx)
  have h2:=Classical.choose_spec (w _ hu)
  have h3:=h1.det (.step ne h2)
  have h4:=h2.pos
  rw[h3,List.length_cons]
  omega
noncomputable def cn (n:Nat)(p:Nat->Bool):Nat:=(List.range n).countP p
end Fo
end
section
namespace Fo
open PySem L2 Pt
theorem yo {l m:List Nat}(h:m≠[]):bn (l++m)=bn m:=by
 induction l with
 |nil=>rfl
 |cons x l ih=>rw[List.cons_append,aZ (by simp[h]),ih]
noncomputable def Aj (us:List Nat):List Nat:=(List.range us.length).map (hd us)
section
variable {P us vs:List Nat}
end
end Fo
end
section
namespace Dp
open PySem L2 Fo Dp
end Dp
end
section
namespace Dp
open PySem L2 Fo Dp Lo Pt
theorem wE {ps:List PV}:jB [.tup ps]=(cu ps).bind fun is=>if is.length<64 then some (.nw ((p8 is).map PV.int)) else none:=Eq.trans rfl rfl
noncomputable def aB (ls:List (List Nat)):List PV:=ls.map fun l=>.tup (af l)
theorem kO (ls:List (List Nat)):(aB ls).length=ls.length:=List.length_map ..
theorem lT (l:List Nat):(l.map Int.ofNat).map PV.int=af l:=by unfold af;rw[List.map_map];rfl
theorem xf (l m:List Nat):af l++af m=af (l++m):=by unfold af;rw[List.map_append]
theorem iF (l:List Nat):cu (af l)=some (l.map Int.ofNat):=by rw[←lT,sR]
theorem sM {l m:List Nat}(h:p8 (l.map Int.ofNat)=m.map Int.ofNat)(h64:l.length<64):jB [.tup (af l)]=some (.nw (af m)):=by
 rw[wE,iF]
 show (if (l.map Int.ofNat).length<64 then _ else _)=_
 rw[List.length_map,if_pos h64,h,lT]
theorem lj:∀{ls:List (List Nat)},(∀l∈ls,l≠[])->gW (aB ls)=some (ls.map fun l=>l.map Int.ofNat)
 |[],_=>rfl
 |l::ls,h=>by
  show (cu (af l)).bind _=_
  rw[iF]
  show (if (l.map Int.ofNat).isEmpty=true then none else (gW (aB ls)).map _)=_
  rw[lj fun m hm=>h m (List.mem_cons_of_mem _ hm),if_neg]
  ·rfl
  ·cases l with
   |nil=>exact absurd rfl (h [] List.mem_cons_self)
   |cons=>exact Bool.false_ne_true
theorem DB {n:Nat}{c:Nat->Nat}{x:Nat}(hx:x<n):cl n c x≠[]:=fun e=>by
 have:x∈cl n c x:=mem_cl.mpr ⟨hx,rfl⟩
 rw[e] at this;cases this
theorem lf {n:Nat}{c:Nat->Nat}{ls:List (List Nat)}(P:Part n c ls)(h40:n≤40):eK [.lst (aB ls)]=some (.nw (aB (aP n c))):=by
 have hl:=P.len
 rw[jv,lj fun l h=>by obtain⟨x,hx,rfl⟩:=P.cls l h;exact DB hx]
 show (if (aB ls).length<64 then _ else _)=_
 rw[kO,if_pos (by omega)]
 have e:∀i∈ka (ls.map fun l=>l.map Int.ofNat),(aB ls).getD i .non=PV.tup (((ls.map fun l=>l.map Int.ofNat).getD i []).map PV.int):=fun i hi=>by
  have:=List.mem_range.mp ((kQ _).subset hi)
  rw[List.length_map] at this
  unfold aB
  rw[List.getD_eq_getElem?_getD,List.getD_eq_getElem?_getD,List.getElem?_map,List.getElem?_map,List.getElem?_eq_getElem this]
  show PV.tup (af _)=PV.tup ((List.map Int.ofNat _).map PV.int)
  rw[lT]
 rw[List.map_congr_left e,show (fun i=>PV.tup (((ls.map fun l=>l.map Int.ofNat).getD i []).map PV.int))=(fun k:List Int=>PV.tup (k.map PV.int)) ∘ (fun i=>(ls.map fun l=>l.map Int.ofNat).getD i []) from rfl,←List.map_map,P.sorted rfl,List.map_map]
 unfold aB
 refine congrArg (fun z=>some (RV.nw z)) (List.map_congr_left fun l _=>?_)
 show PV.tup ((l.map Int.ofNat).map PV.int)=_
 rw[lT]
noncomputable def kJ (ps:List (Nat×Nat)):List PV:=ps.map fun p=>.tup [.int p.1,.int p.2]
theorem kb {n:Nat}{c:Nat->Nat}{ls:List (List Nat)}(P:Part n c ls){x:Nat}(hx:x<n):i9 (gN 0) bA aE [none,some (.val (.int x))] (aB ls)=some [.tup (af (cl n c x))]:=by
 have e:=gx (t:=gN 0) (c:=bA) (f:=aE) (ρ:=[none,some (.val (.int x))]) (fun p=>match p with|.tup q=>pin (.int x) q|_=>false) id (its:=aB ls) (fun p hp=>by
  obtain⟨l,hl,rfl⟩:=List.mem_map.mp hp
  refine⟨_,rfl,?_,fun _=>?_⟩
  ·simp![bA,bS,cH]
  ·simp![aE,id])
 rw[e]
 unfold aB
 have q:((fun p=>match p with|.tup q=>pin (.int x) q|_=>false) ∘ fun l=>PV.tup (af l))=fun l=>decide (x∈l):=funext fun l=>mV x l
 rw[List.filter_map,List.map_id,q,P.pick hx]
 rfl
theorem Bw (x a b:PV):pin x [a,b]=(eR a x || eR b x):=by unfold pin;rw[List.any_cons,List.any_cons,List.any_nil,Bool.or_false]
theorem xW {l1 l2:List Nat}{ls:List (List Nat)}:i9 (gN 0) b6 aE [none,some (.val (.tup (af l1))),some (.val (.tup (af l2)))] (aB ls)=some (aB (ls.filter fun l=>!(decide (l=l1) || decide (l=l2)))):=by
 have e:=gx (t:=gN 0) (c:=b6) (f:=aE) (ρ:=[none,some (.val (.tup (af l1))),some (.val (.tup (af l2)))]) (fun p=>!(eR (.tup (af l1)) p || eR (.tup (af l2)) p)) id (its:=aB ls) (fun p hp=>by
  obtain⟨l,hl,rfl⟩:=List.mem_map.mp hp
  refine⟨_,rfl,?_,fun _=>?_⟩
  ·simp![b6,bS,cH,Bw,gL]
  ·simp![aE,id])
 rw[e]
 unfold aB
 have q:((fun p=>!(eR (.tup (af l1)) p || eR (.tup (af l2)) p)) ∘ fun l=>PV.tup (af l))=fun l=>!(decide (l=l1) || decide (l=l2)):=funext fun l=>by
  show (!(eR (.tup (af l1)) (.tup (af l)) || eR (.tup (af l2)) (.tup (af l))))=_
  rw[gL,gL,gy,gy,show decide (l1=l)=decide (l=l1) from decide_eq_decide.mpr eq_comm,show decide (l2=l)=decide (l=l2) from decide_eq_decide.mpr eq_comm]
 rw[List.filter_map,List.map_id,q]
theorem mU {n:Nat}(h40:n≤40){s0 s1:Option Sl}:∀(ps:List (Nat×Nat)) (c:Nat->Nat) (ls:List (List Nat)) (z3 z4 z5 z6:Option Sl),Part n c ls->(∀p∈ps,p.1<n/\p.2<n) →
  ∃ls' z3' z4' z5' z6',Part n (lB ps c) ls'/\aQ (hV 2 (gC (gN 3) (gC (gN 4) g0))) ca (kJ ps) [s0,s1,some (.val (.lst (aB ls))),z3,z4,z5,z6]=.nx [s0,s1,some (.val (.lst (aB ls'))),z3',z4',z5',z6']
 |[],c,ls,z3,z4,z5,z6,P,_=>⟨ls,z3,z4,z5,z6,P,rfl⟩
 |(x,y)::ps,c,ls,z3,z4,z5,z6,P,hp=>by
  have hx:x<n:=(hp (x,y) List.mem_cons_self).1
  have hy:y<n:=(hp (x,y) List.mem_cons_self).2
  have hl:=P.len
  have h1:(aB ls).length<1000:=by rw[kO];omega
  have a0:∀v:PV,L2.bQ [v] 0=some v:=fun v=>rfl
  by_cases h:c x=c y
  ·obtain⟨ls',z3',z4',z5',z6',P',e⟩:=mU h40 (s0:=s0) (s1:=s1) ps (jn c x y) ls (some (.val (.int x))) (some (.val (.int y))) (some (.val (.tup (af (cl n c x))))) (some (.val (.tup (af (cl n c y))))) (by rw[uc h];exact P) fun p q=>hp p (List.mem_cons_of_mem _ q)
   refine⟨ls',z3',z4',z5',z6',P',?_⟩
   rw[show kJ ((x,y)::ps)=.tup [.int x,.int y]::kJ ps from rfl,cV,←e]
   have d:decide (cl n c x=cl n c y)=true:=decide_eq_true ((cU hx).mpr h)
   simp![ca,h1,kb P hx,kb P hy,a0,bS,cH,gL,gy,d]
  ·obtain⟨ls',z3',z4',z5',z6',P',e⟩:=mU h40 (s0:=s0) (s1:=s1) ps (jn c x y) _ (some (.val (.int x))) (some (.val (.int y))) (some (.val (.tup (af (cl n c x))))) (some (.val (.tup (af (cl n c y))))) (P.join hx hy h) fun p q=>hp p (List.mem_cons_of_mem _ q)
   refine⟨ls',z3',z4',z5',z6',P',?_⟩
   rw[show kJ ((x,y)::ps)=.tup [.int x,.int y]::kJ ps from rfl,cV,←e]
   have d:decide (cl n c x=cl n c y)=false:=decide_eq_false fun q=>h ((cU hx).mp q)
   have l1:=qg n c x
   have l2:=qg n c y
   have hs:jB [.tup (af (cl n c x++cl n c y))]=some (.nw (af (cl n (jn c x y) x))):=sM (AU h) (by
    have:=congrArg List.length (AU (n:=n) h)
    rw[(gh _).length_eq,List.length_map,List.length_map] at this
    have:=qg n (jn c x y) x
    omega)
   have ne:(af (cl n c x)).isEmpty=false:=by
    cases q:cl n c x with
    |nil=>exact absurd q (DB hx)
    |cons=>rfl
   have h2:(cl n c x).length+(cl n c y).length≤100000:=by omega
   have h3:(aB (ls.filter fun l=>!(decide (l=cl n c x) || decide (l=cl n c y)))).length+1≤100000:=by
    rw[kO]
    have:=List.length_filter_le (fun l=>!(decide (l=cl n c x) || decide (l=cl n c y))) ls
    omega
   have h4:aB (ls.filter fun l=>!(decide (l=cl n c x) || decide (l=cl n c y)))++[.tup (af (cl n (jn c x y) x))]=aB (ls.filter (fun l=>!(decide (l=cl n c x) || decide (l=cl n c y)))++[cl n (jn c x y) x]):=by unfold aB;rw[List.map_append];rfl
   simp![ca,h1,kb P hx,kb P hy,a0,bS,cH,gL,gy,d,xW,ne,h2,h3,xf,hs,h4,and_self]
theorem wS {n:Nat}(h40:n≤40){ps:List (Nat×Nat)}(hp:∀p∈ps,p.1<n/\p.2<n):cS [.int n,.lst (kJ ps)]=some (.n (aB (aP n (lB ps id)))):=by
 obtain⟨ls',z3',z4',z5',z6',P',e⟩:=mU h40 (s0:=some (.val (.int n))) (s1:=some (.val (.lst (kJ ps)))) ps id _ none none none none (Cs n) hp
 have e0:i9 (gN 0) eD cW [none] (af (List.range n))=some (aB ((List.range n).map fun x=>[x])):=by
  rw[iS (fun u=>PV.tup [.int u]) fun u hu=>by simp![cW]]
  unfold aB;rw[List.map_map];rfl
 have h1:(List.range n).length<1000:=by rw[List.length_range];omega
 have hn:n<1000:=by omega
 simp![kz,dm,K1 (show n≤100000 by omega),h1,hn,List.length_range,e0,e,lf P' h40]
noncomputable def KZ (acc l:List Nat):List Nat:=l.foldl (fun a t=>a.set t (up a t+1)) acc
noncomputable def sz (us:List Nat):List Nat:=(List.range us.length).foldl (fun acc x=>KZ acc (way us x)) (List.replicate us.length 0)
theorem eN (ls:List (List Nat)):aq (aB ls)=true:=li ls
theorem gG (ls:List (List Nat)):bp (aB ls)≤1:=oX ls
theorem DV {ps:List PV}(h:aq ps=true)(hd:bp ps≤40):i4 (.lst ps) (.lst ps)=some (.fz (.bl true))/\i6 (.lst ps) (.lst ps)=some (.fz (.bl false)):=by
 have h1:aK (.lst ps)=true:=by rw[aK];exact h
 have h2:decide (dep (.lst ps)≤50)=true:=decide_eq_true (by rw[dep];omega)
 rw[sP,tq,h1,h2,mR h1];exact⟨rfl,rfl⟩
theorem zL (ls:List (List Nat)):i4 (.lst (aB ls)) (.lst (aB ls))=some (.fz (.bl true))/\i6 (.lst (aB ls)) (.lst (aB ls))=some (.fz (.bl false)):=DV (eN ls) (by have:=gG ls;omega)
theorem wR (n:Nat)(c:Nat->Nat):(aP n c).length≤n:=by
 unfold aP
 rw[List.length_map]
 have:=List.length_filter_le (iI c) (List.range n)
 rwa [List.length_range] at this
end Dp
end
section
namespace Fo
open PySem L2 Pt Dp
section
variable {us vs:List Nat}
section
variable (f:Frst us)(g:Frst vs)(h:us.length+vs.length≤40)
include f g h
end
end
section
variable {us:List Nat}{h u:Nat}
theorem wd (f:Fst us)(hh:h<us.length)(eh:up us h=h)(hu:u<us.length)(ne:hd us u≠h){z:Nat}{l:List Nat}(w:Way us z l):z<us.length->Way (us.set h u) z (if bn l=h then l++way us u else l):=by
 have nu:h∉way us u:=fun q=>ne (by rw[←zr f hu q,aG f hh eh])
 have wu:Way (us.set h u) u (way us u):=(aC f hu).set hh nu
 induction w with
 | @head z e=>
  intro hz
  by_cases q:z=h
  ·subst q
   rw[if_pos (show bn [z]=z from rfl)]
   refine .step ?_ ?_
   ·rw[aI hh,if_pos rfl];intro e;exact nu (e▸(aC f hu).mem_self)
   ·rw[aI hh,if_pos rfl];exact wu
  ·rw[if_neg (show ¬bn [z]=h from q)]
   exact .head (by rw[aI hh,if_neg q,e])
 | @step z l n w ih=>
  intro hz
  have q:z≠h:=fun e=>n (by rw[e,eh])
  have ih:=ih (f.bnd z hz)
  rw[aZ w.ne]
  have e:up (us.set h u) z=up us z:=by rw[aI hh,if_neg q]
  split
  ·next p=>rw[if_pos p] at ih;exact .step (by rw[e];exact n) (by rw[e];exact ih)
  ·next p=>rw[if_neg p] at ih;exact .step (by rw[e];exact n) (by rw[e];exact ih)
variable (f:Frst us)(hh:h<us.length)(eh:up us h=h)(hu:u<us.length)(ne:hd us u≠h)
include f hh eh hu ne
theorem mc:Frst (us.set h u):=by
 refine⟨by rw[List.length_set];exact f.one,by rw[List.length_set];exact f.most,yN (fun x hx=>?_) fun x hx=>?_⟩<;>rw[List.length_set] at hx
 ·rw[List.length_set,aI hh]
  split
  ·exact hu
  ·exact f.fst.bnd x hx
 ·exact⟨_,wd f.fst hh eh hu ne (aC f.fst hx) hx⟩
theorem rO {z:Nat}(hz:z<us.length):way (us.set h u) z=if hd us z=h then way us z++way us u else way us z:=
 eB (mc f hh eh hu ne).fst (by rw[List.length_set];exact hz) (wd f.fst hh eh hu ne (aC f.fst hz) hz)
theorem ql {z:Nat}(hz:z<us.length):hd (us.set h u) z=jn (hd us) h u z:=by
 have e:hd us h=h:=aG f.fst hh eh
 show bn (way (us.set h u) z)=if hd us z=hd us h then hd us u else hd us z
 rw[rO f hh eh hu ne hz,e]
 split
 ·exact yo (aC f.fst hu).ne
 ·rfl
theorem EK {z:Nat}(hz:z<us.length):dp (us.set h u) z=dp us z+if hd us z=h then dp us u+1 else 0:=by
 have h1:=(aC f.fst hz).pos
 have h2:=(aC f.fst hu).pos
 unfold dp
 rw[rO f hh eh hu ne hz]
 split
 ·rw[List.length_append];omega
 ·rfl
theorem y6:p8 ((cl us.length (hd us) h++cl us.length (hd us) u).map Int.ofNat)=(cl us.length (hd (us.set h u)) h).map Int.ofNat:=by
 rw[AU fun e=>ne (by rw[←e];exact aG f.fst hh eh)]
 congr 1
 refine eZ fun y hy=>?_
 rw[ql f hh eh hu ne hy,ql f hh eh hu ne hh]
end
end Fo
end
section
namespace Fo
open PySem L2 Pt Dp
section
variable {us us' W:List Nat}{S:Nat->Bool}
end
end Fo
end
section
namespace Dp
open PySem L2 Fo Dp Pt
section
variable {m a:Nat}(h1:1≤m)(h2:m<a)(h3:a≤5)
include h1 h2 h3
end
structure Rk (n:Nat)(us ms:List Nat):Prop where
 sto:Sto n us ms
 rise:∀x,x<n->up us x≠x->up ms x<up ms (up us x)
 big:∀h,h<n->up us h=h->2 ^ (up ms h)≤(cl n (hd us) h).length
section
variable {n:Nat}{us ms:List Nat}(R:Rk n us ms)
include R
end
theorem Rk.link {n:Nat}{us ms:List Nat}(R:Rk n us ms){a b:Nat}(ha:a<n)(hb:b<n)(ea:up us a=a)(eb:up us b=b)(ne:a≠b):Rk n (pT "rank" us ms a b) (xz "rank" ms a b):=by
 have f:=R.sto.f
 have lu:=R.sto.lu
 have lm:=R.sto.lm
 have key:∀u t:Nat,u<n->t<n->up us u=u->up us t=t->u≠t->up ms u≤up ms t->Rk n (us.set u t) (ms.set t (wI "rank" (up ms t) (up ms u))):=fun u t hu ht eu et ne le=>by
  have hu':u<us.length:=by omega
  have ht':t<us.length:=by omega
  have htm:t<ms.length:=by omega
  have nh:hd us t≠u:=by rw[aG f.fst ht' et];exact fun e=>ne e.symm
  have mk:wI "rank" (up ms t) (up ms u)=if up ms t=up ms u then up ms t+1 else up ms t:=by
   show (if ("rank" : Str) = "size" then _ else if ("rank" : Str) = "rank"/\up ms t=up ms u then up ms t+1 else up ms t)=_
   rw[if_neg (by decide)]
   by_cases e:up ms t=up ms u
   ·rw[if_pos ⟨rfl,e⟩,if_pos e]
   ·rw[if_neg (fun z=>e z.2),if_neg e]
  rw[mk]
  have fp:=mc f hu' eu ht' nh
  refine⟨⟨fp,by rw[List.length_set];exact lu,by rw[List.length_set];exact lm⟩,fun z hz nz=>?_,fun h hh e=>?_⟩
  ·rw[aI hu'] at nz ⊢
   rw[aI htm,aI htm]
   by_cases q:z=u
   ·subst q
    rw[if_pos rfl] at nz ⊢
    rw[if_neg ne,if_pos rfl]
    split<;>omega
   ·rw[if_neg q] at nz ⊢
    have r:=R.rise z hz nz
    rw[if_neg (fun e=>nz (by rw[e,et]))]
    split
    ·next e=>rw[e] at r;split<;>omega
    ·exact r
  ·rw[aI hu'] at e
   have q:h≠u:=fun z=>by rw[if_pos z] at e;exact ne (by rw[←z];exact e.symm)
   rw[if_neg q] at e
   have hjn:∀z,z<n->hd (us.set u t) z=if hd us z=u then t else hd us z:=fun z hz=>by
    rw[ql f hu' eu ht' nh (by omega)]
    show (if hd us z=hd us u then hd us t else hd us z)=_
    rw[aG f.fst hu' eu,aG f.fst ht' et]
   have hh1:=aG f.fst (show h<us.length by omega) e
   rw[aI htm]
   by_cases p:h=t
   ·subst p
    rw[if_pos rfl]
    have c:=y6 f hu' eu ht' nh
    have c:=congrArg List.length c
    rw[(gh _).length_eq,List.length_map,List.length_map,List.length_append,lu] at c
    have c2:cl n (hd (us.set u h)) u=cl n (hd (us.set u h)) h:=(cU hu).mpr (by rw[hjn u hu,hjn h hh,aG f.fst hu' eu,if_pos rfl,hh1,if_neg q])
    rw[c2] at c
    have b1:=R.big u hu eu
    have b2:=R.big h hh e
    split
    ·next z=>rw[Nat.pow_succ];rw[←z] at b1;omega
    ·omega
   ·rw[if_neg p]
    rw[eZ (c:=hd (us.set u t)) (c':=hd us) (x:=h) (x':=h) fun y hy=>by
     rw[hjn y hy,hjn h hh,hh1,if_neg q]
     by_cases z:hd us y=u
     ·rw[if_pos z,z];exact⟨fun e=>absurd e.symm p,fun e=>absurd e.symm q⟩
     ·rw[if_neg z]]
    exact R.big h hh e
 have st:stay "rank" ms a b=decide (up ms b≤up ms a):=by
  show (if ("rank" : Str) = "told" then true else if ("rank" : Str) = "names" then decide (a<b) else decide (up ms b≤up ms a))=_
  rw[if_neg (by decide),if_neg (by decide)]
 unfold pT xz
 by_cases q:up ms b≤up ms a
 ·have e1:tp "rank" ms a b=a:=by unfold tp;rw[st,decide_eq_true q];rfl
  have e2:un "rank" ms a b=b:=by unfold un;rw[st,decide_eq_true q];rfl
  rw[e1,e2]
  exact key b a hb ha eb ea (fun e=>ne e.symm) q
 ·have e1:tp "rank" ms a b=b:=by unfold tp;rw[st,decide_eq_false q];rfl
  have e2:un "rank" ms a b=a:=by unfold un;rw[st,decide_eq_false q];rfl
  rw[e1,e2]
  exact key a b ha hb ea eb ne (by omega)
theorem Ez {n:Nat}(h1:1≤n)(h2:n≤40):Rk n (List.range n) (List.replicate n 0):=by
 have f:=bD h1 h2
 have z:∀x,x<n->up (List.replicate n 0) x=0:=fun x hx=>by
  unfold up;rw[List.getD_eq_getElem?_getD,List.getElem?_replicate,if_pos hx];rfl
 have e:∀x,x<n->up (List.range n) x=x:=fun x hx=>by
  unfold up;rw[List.getD_eq_getElem?_getD,List.getElem?_range hx];rfl
 refine⟨⟨f,List.length_range ..,List.length_replicate ..⟩,fun x hx ne=>absurd (e x hx) ne,fun h hh _=>?_⟩
 rw[z h hh]
 exact List.length_pos_of_mem (mem_cl.mpr ⟨hh,rfl⟩)
theorem FH {i j c:Int}:xi [.int i,.int j,.int c]=if ok3 i j c then some (oI i (Builtin.Range.rangeSize i j c).toNat c) else none:=Eq.trans rfl rfl
end Dp
end
section
namespace Dp
open PySem L2 Fo Dp Pt
section
variable {n:Nat}{us ms:List Nat}(R:Rk n us ms)
include R
end
end Dp
end
section
namespace Fo
open PySem L2 Pt Dp
section
variable {us us' W:List Nat}{S:Nat->Bool}
end
end Fo
end
section
namespace Dp
open PySem L2 Fo Dp Pt
theorem wJ {n:Nat}(h:2≤n):n.log2=(n / 2).log2+1:=by rw[Nat.log2_def,if_pos h]
theorem yq {n:Nat}(h:n<2):n.log2=0:=by rw[Nat.log2_def,if_neg (by omega)]
theorem Gz:∀(fuel n t:Nat),n<fuel->∃m:Int,bj bg bG fuel [some (.val (.int n)),some (.val (.int t))]=.nx [some (.val (.int m)),some (.val (.int (t+n.log2:Nat)))]
 |0,n,t,h=>absurd h (Nat.not_lt_zero _)
 |fuel+1,n,t,h=>by
  rw[cM]
  by_cases q:2≤n
  ·obtain⟨m,e⟩:=Gz fuel (n / 2) (t+1) (by omega)
   refine⟨m,?_⟩
   have d:decide ((1:Int)<(n:Int))=true:=decide_eq_true (by omega)
   have e2:(n:Int) / 2=((n / 2:Nat):Int):=by omega
   have e3:(t:Int)+1=((t+1:Nat):Int):=by omega
   rw[wJ q,show t+((n / 2).log2+1)=t+1+(n / 2).log2 by omega,←e]
   simp![bg,bG,d,e2,e3]
  ·have d:decide ((1:Int)<(n:Int))=false:=decide_eq_false (by omega)
   refine⟨n,?_⟩
   rw[yq (by omega),Nat.add_zero]
   simp![bg,d]
theorem EQ {n:Nat}(hn:n≤1000):bN [.int n]=some (.v (.int (n.log2:Nat))):=by
 obtain⟨m,e⟩:=Gz 10000 n 0 (by omega)
 rw[Nat.zero_add] at e
 have e:bj bg bG 10000 [some (.val (.int n)),some (.val (.int 0))]=_:=e
 simp![jA,cE,e]
section
variable {n:Nat}{us ms:List Nat}{j y:Str}(S:Sto n us ms)(hj:j∈lE)(hy:y = "whole"\/y = "halves"){d:Deed}(h:d.ok n)
include S hj hy h
end
end Dp
end
section
namespace Dp
open PySem L2 Fo Dp
theorem zA {us:List Nat}(f:Fst us){x t:Nat}(hx:x<us.length)(h:t∈way us x):∀z∈way us t,z∈way us x:=fun z hz=>by
 obtain⟨l2,w2,_,_,h2⟩:=(aC f hx).later t h
 rw[eB f (cF f hx h) w2] at hz
 exact h2 z hz
theorem IQ {us us':List Nat}(s:Shorter us us')(f:Fst us){x:Nat}(hx:x<us.length):up us' x∈way us x:=by
 rcases s.up x hx with ⟨_,e2⟩|⟨n,l,w,h⟩
 ·rw[e2];exact (aC f hx).mem_self
 ·rw[jG f hx n,eB f (f.bnd x hx) w];exact List.mem_cons_of_mem _ h
theorem Et {us us':List Nat}(s:Shorter us us')(f:Fst us){x:Nat}(hx:x<us.length):∀t∈way us' x,t∈way us x:=by
 have f':=s.fst f
 have main:∀{x:Nat} {l:List Nat},Way us' x l->x<us.length->∀t∈l,t∈way us x:=fun {x l} w=>by
  induction w with
  | @head x e=>intro hx t ht;rw[List.mem_singleton] at ht;subst ht;exact (aC f hx).mem_self
  | @step x l n w ih=>
   intro hx t ht
   rcases List.mem_cons.mp ht with rfl|ht
   ·exact (aC f hx).mem_self
   ·have m:=IQ s f hx
    exact zA f hx m t (ih (cF f hx m) t ht)
 exact main (aC f' (by rw[s.len];exact hx)) hx
theorem nj {us us' us'':List Nat}(s:Shorter us us')(s':Shorter us' us'')(f:Fst us):Shorter us us'':=by
 have f':=s.fst f
 refine⟨by rw[s'.len,s.len],fun t ht=>?_⟩
 have ht':t<us'.length:=by rw[s.len];exact ht
 rcases s.up t ht with ⟨e1,e2⟩|⟨n,l,w,h⟩
 ·rcases s'.up t ht' with ⟨_,e3⟩|⟨n',_⟩
  ·exact .inl ⟨e1,e3⟩
  ·exact absurd e2 n'
 ·refine .inr ⟨n,l,w,?_⟩
  have el:=eB f (f.bnd t ht) w
  rcases s'.up t ht' with ⟨e2,_⟩|⟨n',l',w',h'⟩
  ·rw[e2] at h
   have nd:=(Way.step n w).nodup f ht
   exact absurd h (List.nodup_cons.mp nd).1
  ·rw[←el] at h ⊢
   have b:=cF f (f.bnd t ht) h
   rw[←eB f' (f'.bnd t ht') w'] at h'
   exact zA f (f.bnd t ht) h _ (Et s f b _ h')
theorem tD {us:List Nat}(f:Frst us){x:Nat}(hx:x<us.length){y:Str}(hy:y∈ay):Shorter us (cw y us x):=by
 obtain⟨l,L⟩:=(ti f.fst hx hy).left f.fst hx
 exact L.sh
theorem wy {us us':List Nat}(s:Shorter us us')(f:Frst us){u t:Nat}(hu:u<us.length)(ht:t<us.length)(eu:up us u=u)(et:up us t=t)(ne:t≠u):Shorter (us.set u t) (us'.set u t):=by
 have F:=iQ f hu ht eu et ne
 have ls:(us.set u t).length=us.length:=List.length_set
 have hu':u<us'.length:=by rw[s.len];exact hu
 refine⟨by rw[List.length_set,List.length_set,s.len],fun x hx=>?_⟩
 rw[ls] at hx
 by_cases q:x=u
 ·subst q
  refine .inr ⟨by rw[aI hu,if_pos rfl];exact ne,[t],?_,?_⟩
  ·rw[aI hu,if_pos rfl];exact .head (by rw[aI hu,if_neg ne];exact et)
  ·rw[aI hu',if_pos rfl];exact List.mem_singleton.mpr rfl
 ·rw[aI hu,if_neg q,aI hu',if_neg q]
  rcases s.up x hx with ⟨e1,e2⟩|⟨n,l,w,h⟩
  ·exact .inl ⟨e1,e2⟩
  ·have sub:∀{x:Nat} {l:List Nat},Way us x l->x<us.length->∀z∈l,z∈way (us.set u t) x:=fun {x l} w=>by
    induction w with
    | @head x e=>intro hx z hz;rw[List.mem_singleton] at hz;subst hz;exact (aC F.fst (by omega)).mem_self
    | @step x l n w ih=>
     intro hx z hz
     have q:x≠u:=fun q=>n (by rw[q];exact eu)
     have e:up (us.set u t) x=up us x:=by rw[aI hu,if_neg q]
     rw[jG F.fst (by omega) (by rw[e];exact n),e]
     rcases List.mem_cons.mp hz with rfl|hz
     ·exact List.mem_cons_self
     ·exact List.mem_cons_of_mem _ (ih (f.fst.bnd x hx) z hz)
   have hb:=f.fst.bnd x hx
   exact .inr ⟨n,_,aC F.fst (by omega),sub w hb _ h⟩
theorem sj {us us':List Nat}(s:Shorter us us')(f:Fst us){x:Nat}(hx:x<us.length):hd us' x=hd us x/\dp us' x≤dp us x/\(way us' x).length≤(way us x).length:=by
 obtain⟨l,w,e1,e2⟩:=s.way f hx (aC f hx)
 have:=eB (s.fst f) (by rw[s.len];exact hx) w
 unfold hd dp
 rw[this]
 exact⟨e1,by omega,e2⟩
theorem tz (us:List Nat)(x:Nat):cw "none" us x=us:=(iM rfl fun t ht=>by simp only[gu,n7,n8,n9,K0,if_false]).symm
theorem D6 (us:List Nat)(x:Nat):stp "none" us x=dp us x:=by unfold stp;rw[if_neg (by decide)]
theorem sN {us:List Nat}(f:Fst us){x:Nat}(hx:x<us.length)(y:Str):stp y us x≤dp us x:=by
 have:=(aC f hx).pos
 unfold stp dp
 split<;>omega
theorem Hg (j:Str)(ms:List Nat)(a b:Nat):(tp j ms a b=a/\un j ms a b=b)\/(tp j ms a b=b/\un j ms a b=a):=by
 unfold tp un
 cases stay j ms a b
 ·exact .inr ⟨rfl,rfl⟩
 ·exact .inl ⟨rfl,rfl⟩
theorem xC {n:Nat}{us ms us':List Nat}(S:Sto n us ms)(S':Sto n us' ms)(s:Shorter us us'){j y:Str}(hy:y∈ay){d:Deed}(h:d.ok n) :
  Shorter (dU j "none" us ms d) (dU j y us' ms d)/\dM j us' ms d=dM j us ms d/\dA us' d=dA us d/\dS y us' d≤dS "none" us d:=by
 obtain⟨f,lu,lm⟩:=S
 obtain⟨f',lu',_⟩:=S'
 cases d with
 |find x=>
  have hx:x<us.length:=by rw[lu];exact h
  have hx':x<us'.length:=by rw[lu'];exact h
  obtain⟨h1,h2,_⟩:=sj s f.fst hx
  have h3:=sN f'.fst hx' y
  refine⟨?_,rfl,?_,?_⟩
  ·show Shorter (cw "none" us x) (cw y us' x)
   rw[tz]
   exact nj s (tD f' hx' hy) f.fst
  ·show PV.int (hd us' x:Nat)=PV.int (hd us x:Nat)
   rw[h1]
  ·show stp y us' x≤stp "none" us x
   rw[D6];omega
 |join x z=>
  have hx:x<us.length:=by rw[lu];exact h.1
  have hx':x<us'.length:=by rw[lu'];exact h.1
  have hz:z<us.length:=by rw[lu];exact h.2
  have f1:=gf f' hx' hy
  have l1:=b0 y us' x
  have hz1:z<(cw y us' x).length:=by rw[l1,lu'];exact h.2
  have s1:=nj s (tD f' hx' hy) f.fst
  have s2:=nj s1 (tD f1 hz1 hy) f.fst
  obtain⟨a1,a2,_⟩:=sj s f.fst hx
  obtain⟨b1,b2,_⟩:=sj s f.fst hz
  obtain⟨_,c2,_⟩:=sj s1 f.fst hz
  have ta:=fE f.fst hx
  have tb:=fE f.fst hz
  have la:=c8 f.fst hx
  have lb:=c8 f.fst hz
  refine⟨?_,?_,?_,?_⟩
  ·show Shorter (if hd us x=hd us z then _ else _) (if hd us' x=hd us' z then _ else _)
   rw[a1,b1,tz,tz]
   by_cases e:hd us x=hd us z
   ·rw[if_pos e,if_pos e];exact s2
   ·rw[if_neg e,if_neg e]
    unfold pT
    rcases Hg j ms (hd us x) (hd us z) with ⟨e1,e2⟩|⟨e1,e2⟩
    ·rw[e1,e2];exact wy s2 f lb la tb ta e
    ·rw[e1,e2];exact wy s2 f la lb ta tb (Ne.symm e)
  ·show (if hd us' x=hd us' z then _ else _)=if hd us x=hd us z then _ else _
   rw[a1,b1]
  ·show PV.bl (!decide (hd us' x=hd us' z))=PV.bl (!decide (hd us x=hd us z))
   rw[a1,b1]
  ·show stp y us' x+stp y (cw y us' x) z≤stp "none" us x+stp "none" (cw "none" us x) z
   rw[D6,D6,tz]
   have:=sN f'.fst hx' y
   have:=sN f1.fst hz1 y
   omega
theorem EL {n:Nat}(h1:1≤n)(h2:n≤40):Shorter (List.range n) (List.range n):=.refl (bD h1 h2).fst
section
variable {n:Nat}{p us us' ms ms':List Nat}
end
end Dp
end
section
namespace Dp
open PySem L2 Fo Dp
theorem pO {n:Nat}{s1:Option Sl}:∀(ds:List Deed) (k:Nat) (z3 z4:Option Sl),(∀d∈ds,Deed.ok n d) →
  ∃w3 w4,aQ (hV 2 (gC (gN 3) (gC (gN 4) g0))) eY (cO k (ds.map Deed.pv)) [some (.val (.int n)),s1,some (.val (.fn "is_deed")),z3,z4]=.nx [some (.val (.int n)),s1,some (.val (.fn "is_deed")),w3,w4]
 |[],k,z3,z4,_=>⟨z3,z4,rfl⟩
 |d::ds,k,z3,z4,hr=>by
  obtain⟨w3,w4,e⟩:=pO ds (k+1) (some (.val (.int k))) (some (.val d.pv)) fun p hp=>hr p (List.mem_cons_of_mem _ hp)
  refine⟨w3,w4,?_⟩
  rw[←e,show cO k ((d::ds).map Deed.pv)=.tup [.int k,d.pv]::cO (k+1) (ds.map Deed.pv) from rfl,cV]
  simp![eY,Ag,Bs,Hn,HA,K2,KT,KW,sB (hr d List.mem_cons_self)]
theorem Ft {n:Nat}{ds:List Deed}(hr:∀d∈ds,Deed.ok n d):fI [.int n,.tup (ds.map Deed.pv),.fn "is_deed"]=some (.v .non):=by
 obtain⟨w3,w4,e⟩:=pO (n:=n) (s1:=some (.val (.tup (ds.map Deed.pv)))) ds 0 none none hr
 simp![oJ,gb,u9,pq,e]
noncomputable def fu (j y:Str):List Deed->List Nat->List Nat->List Nat×List Nat
 |[],us,ms=>(us,ms)
 |d::ds,us,ms=>fu j y ds (dU j y us ms d) (dM j us ms d)
noncomputable def oG (j y:Str):List Deed->List Nat->List Nat->List PV
 |[],_,_=>[]
 |d::ds,us,ms=>dA us d::oG j y ds (dU j y us ms d) (dM j us ms d)
noncomputable def Dw (j y:Str):List Deed->List Nat->List Nat->List Nat
 |[],_,_=>[]
 |d::ds,us,ms=>dS y us d::Dw j y ds (dU j y us ms d) (dM j us ms d)
theorem wk {j y:Str}:∀(ds:List Deed) (us ms:List Nat),(oG j y ds us ms).length=ds.length
 |[],_,_=>rfl
 |d::ds,us,ms=>by show (oG j y ds _ _).length+1=ds.length+1;rw[wk ds]
theorem sa {n:Nat}{j y:Str}(hj:j∈lE)(hy:y∈ay){s0 s1 s2 s3 s4 s5:Option Sl}:∀(ds:List Deed) (us ms:List Nat) (as:List PV) (cs:List Nat) (z9 z10 z11:Option Sl),Sto n us ms->(∀d∈ds,Deed.ok n d)->as.length+ds.length≤1000->cs.length+ds.length≤1000 →
  ∃w9 w10 w11,aQ (gN 9) nR (ds.map Deed.pv) [s0,s1,s2,s3,s4,s5,some (.val (gz j y us ms)),some (.own as),some (.own (af cs)),z9,z10,z11] =
   .nx [s0,s1,s2,s3,s4,s5,some (.val (gz j y (fu j y ds us ms).1 (fu j y ds us ms).2)),some (.own (as++oG j y ds us ms)),some (.own (af (cs++Dw j y ds us ms))),w9,w10,w11]
 |[],us,ms,as,cs,z9,z10,z11,_,_,_,_=>⟨z9,z10,z11,by
   show Out.nx _=_
   simp only[fu,oG,Dw,List.append_nil]⟩
 |d::ds,us,ms,as,cs,z9,z10,z11,S,hd,h1,h2=>by
  rw[List.length_cons] at h1 h2
  have hok:=hd d List.mem_cons_self
  obtain⟨w9,w10,w11,e⟩:=sa hj hy (s0:=s0) (s1:=s1) (s2:=s2) (s3:=s3) (s4:=s4) (s5:=s5) ds (dU j y us ms d) (dM j us ms d) (as++[dA us d]) (cs++[dS y us d]) (some (.val d.pv)) (some (.val (dA us d))) (some (.val (.int (dS y us d:Nat)))) (eT S hy hok) (fun q hq=>hd q (List.mem_cons_of_mem _ hq)) (by rw[List.length_append,List.length_singleton];omega) (by rw[List.length_append,List.length_singleton];omega)
  refine⟨w9,w10,w11,?_⟩
  have e1:=vf S hj hy hok
  have l1:as.length≤100000:=by omega
  have l2:cs.length≤100000:=by omega
  have en:af cs++[PV.int (dS y us d:Nat)]=af (cs++[dS y us d]):=by unfold af;rw[List.map_append];rfl
  have ea:as++oG j y (d::ds) us ms=as++[dA us d]++oG j y ds (dU j y us ms d) (dM j us ms d):=by rw[List.append_assoc];rfl
  have ec:cs++Dw j y (d::ds) us ms=cs++[dS y us d]++Dw j y ds (dU j y us ms d) (dM j us ms d):=by rw[List.append_assoc];rfl
  rw[ea,ec,show fu j y (d::ds) us ms=fu j y ds (dU j y us ms d) (dM j us ms d) from rfl,←e,List.map_cons,cV]
  simp![nR,e1,iP,l1,l2,en]
noncomputable def BI (j y:Str)(ds:List Deed)(us ms:List Nat):PV:=.tup [gz j y (fu j y ds us ms).1 (fu j y ds us ms).2,.lst (oG j y ds us ms),.lst (af (Dw j y ds us ms))]
theorem Dj {n:Nat}{j y:Str}(hj:j∈lE)(hy:y∈ay){us ms:List Nat}(S:Sto n us ms){ds:List Deed}(hd:∀d∈ds,Deed.ok n d)(hl:ds.length≤500):q6 [gz j y us ms,.tup (ds.map Deed.pv)]=some (.v (BI j y ds us ms)):=by
 have e0:=Ft hd
 rw[←S.lu] at e0
 obtain⟨w9,w10,w11,e⟩:=sa hj hy (s0:=some (.val (gz j y us ms))) (s1:=some (.val (.tup (ds.map Deed.pv)))) (s2:=some (.val (.str j))) (s3:=some (.val (.str y))) (s4:=some (.val (.tup (af us)))) (s5:=some (.val (.tup (af ms)))) ds us ms [] [] none none none S hd (by simp;omega) (by simp;omega)
 have a2:L2.bQ [PV.str j,.str y,.tup (af us),.tup (af ms)] 2=some (.tup (af us)):=rfl
 have n0:af []=[]:=rfl
 unfold BI
 unfold gz at e ⊢
 rw[n0] at e
 simp![BC,qa,a2,e0,r6,e,List.nil_append]
theorem lg {α:Type}{t:FT}{f:FE}{ρ:ak}(v g:α->PV):∀{l:List α},(∀a∈l,(t (v a) ρ).bind (fun ρ2=>(f ρ2).bind RV.fr)=some (g a))->i9 t eD f ρ (l.map v)=some (l.map g)
 |[],_=>rfl
 |a::l,h=>by
  have h1:=h a List.mem_cons_self
  have h2:=lg v g (l:=l) fun q hq=>h q (List.mem_cons_of_mem _ hq)
  obtain⟨ρ2,e1,h1⟩:=Option.bind_eq_some_iff.mp h1
  obtain⟨r,e2,h1⟩:=Option.bind_eq_some_iff.mp h1
  rw[List.map_cons,i9,e1,h2]
  show (f ρ2).bind _=_
  rw[e2]
  show r.fr.bind _=_
  rw[h1];rfl
theorem kj {n:Nat}{j y:Str}(hy:y∈ay):∀(ds:List Deed) (us ms:List Nat),Sto n us ms->(∀d∈ds,Deed.ok n d)->Sto n (fu j y ds us ms).1 (fu j y ds us ms).2
 |[],_,_,S,_=>S
 |d::ds,us,ms,S,h=>kj hy ds _ _ (eT S hy (h d List.mem_cons_self)) fun q hq=>h q (List.mem_cons_of_mem _ hq)
end Dp
end
section
namespace Dp
open PySem L2 Fo Lo Pt
theorem vi {us:List Nat}(f:Frst us){x:Nat}(hx:x<us.length):cf [.tup (af us),.int x]=some (.v (.int (hd us x:Nat))):=by
 simp![ou,fP,tm (.inl rfl) f hx,EC f hx]
theorem qP (b:Bool):∀l:List Int,ra b (l.zip l)=b
 |[]=>rfl
 |a::l=>by
  show (if a=a then ra b (l.zip l) else _)=_
  rw[if_pos rfl,qP b l]
theorem l9 (l:List Int):lU l l=false:=by
 unfold lU
 rw[qP]
 exact decide_eq_false (by omega)
theorem wH (n:Nat)(c:Nat->Nat):Part n c (aP n c) where
 cls:=fun l h=>mem_lots.mp h
 all:=fun x hx=>mem_lots.mpr ⟨x,hx,rfl⟩
 nd:=by
  have h:=List.pairwise_map.mp (pj n c)
  refine List.Pairwise.imp (fun {a b} q e=>?_) h
  subst e
  rw[l9] at q;cases q
 len:=wR n c
theorem zx (us:List Nat)(m:Nat):((c7 us m).map (·.1)).Nodup:=by
 rw[nO,List.map_map]
 refine List.pairwise_map.mpr (List.Pairwise.imp_of_mem (fun {a b} ha hb (q:a<b) e=>?_) ((List.pairwise_lt_range).filter _))
 have h:=of_decide_eq_true (List.mem_filter.mp hb).2
 exact h a q e
theorem wt:∀{g:List (Nat×List Nat)},(g.map (·.1)).Nodup->∀t∈g,lM ((oN g).map (·.1)) ((oN g).map fun t=>.lst t.2) (.inl ((t.1:Nat):Int))=some (.lst (af t.2))
 |s::g,nd,t,ht=>by
  rw[List.map_cons,List.nodup_cons] at nd
  show (if (Sum.inl ((s.1:Nat):Int):bP)=.inl ((t.1:Nat):Int) then _ else lM ((oN g).map (·.1)) ((oN g).map fun t=>.lst t.2) _)=_
  rcases List.mem_cons.mp ht with rfl|ht
  ·rw[if_pos rfl]
  ·have ne:(Sum.inl ((s.1:Nat):Int):bP)≠.inl ((t.1:Nat):Int):=fun e=>by
    have:s.1=t.1:=by have:=Sum.inl.inj e;omega
    exact nd.1 (this▸List.mem_map_of_mem ht)
   rw[if_neg ne];exact wt nd.2 t ht
theorem jz {us:List Nat}(f:Frst us):aX [.tup (af us)]=some (.n (aB (aP us.length (hd us)))):=by
 have hm:us.length≤40:=f.most
 obtain⟨ρ2,e,z2,h2⟩:=rz f (bd:=[]) (fk:=ao cf (aa (fV 0) (aa (fV 2) ag))) (ρs:=fun _ ρ=>∃z2,ρ=[some (.val (.tup (af us))),none,z2]) (fun n ρ hn ⟨z2,e⟩=>by
  subst e
  refine⟨[some (.val (.tup (af us))),none,some (.val (.int (n:Int)))],?_,?_,?_,⟨_,rfl⟩⟩
  ·simp![nW,ip,mx,iH,yh,iD,iu,j6,jS,iN,rR,nG,nq,rD,si,sH,o8,oj,ia,nV,ir,qQ,m7,ii,iJ,jI,kn,kg,gS,iw,Au,mh,j2,jJ,mF,iO,jT,sF,jO,mD,jF,mW,iq,nA,jP,jN,jH]
  ·simp![nW,ip,mx,iH,yh,iD,iu,j6,jS,iN,rR,nG,nq,rD,si,sH,o8,oj,ia,nV,ir,qQ,m7,ii,iJ,jI,kn,kg,gS,iw,Au,mh,j2,jJ,mF,iO,jT,sF,jO,mD,jF,mW,iq,nA,jP,jN,jH,vi f hn]
  ·simp![nW,ip,mx,iH,yh,iD,iu,j6,jS,iN,rR,nG,nq,rD,si,sH,o8,oj,ia,nV,ir,qQ,m7,ii,iJ,jI,kn,kg,gS,iw,Au,mh,j2,jJ,mF,iO,jT,sF,jO,mD,jF,mW,iq,nA,jP,jN,jH]) us.length 0 [some (.val (.tup (af us))),none,none] (by omega) ⟨none,rfl⟩
 subst h2
 rw[show ((List.range us.length).map fun m=>0+m)=List.range us.length by rw[List.map_congr_left fun x _=>Nat.zero_add x];exact List.map_id _] at e
 have e':kH 2 [] (ao cf (aa (fV 0) (aa (fV 2) ag))) (fV 2) (af (List.range us.length)) [some (.val (.tup (af us))),none,none] []=_:=e
 have hl:(oN (c7 us us.length)).length≤40:=by unfold oN;rw[List.length_map];exact Nat.le_trans (pi us us.length) hm
 have g0:i9 (gN 0) eD b7 [none,some (.val (.dct ((oN (c7 us us.length)).map (·.1)) ((oN (c7 us us.length)).map fun t=>.lst t.2)))] (((oN (c7 us us.length)).map (·.1)).map DF)=some (aB (aP us.length (hd us))):=by
  have ek:((oN (c7 us us.length)).map (·.1)).map DF=(c7 us us.length).map fun t=>PV.int ((t.1:Nat):Int):=by unfold oN;rw[List.map_map,List.map_map];rfl
  rw[ek,lg (fun t:Nat×List Nat=>PV.int ((t.1:Nat):Int)) (fun t=>PV.tup (af t.2)) fun t ht=>by
   simp![b7,nW,ip,mx,iH,yh,iD,iu,j6,jS,iN,rR,nG,nq,rD,si,sH,o8,oj,ia,nV,ir,qQ,m7,ii,iJ,jI,kn,kg,gS,iw,Au,mh,j2,jJ,mF,iO,jT,sF,jO,mD,jF,mW,iq,nA,jP,jN,jH,wt (zx us us.length) t ht]]
  rw[←Ci]
  unfold aB Er
  rw[List.map_map];rfl
 have h3:(oN (c7 us us.length)).length<1000:=by omega
 simp![kT,dn,b7,nW,ip,mx,iH,yh,iD,iu,j6,jS,iN,rR,nG,nq,rD,si,sH,o8,oj,ia,nV,ir,qQ,m7,ii,iJ,jI,kn,kg,gS,iw,Au,mh,j2,jJ,mF,iO,jT,sF,jO,mD,jF,mW,iq,nA,jP,jN,jH,(K1 (n:=us.length) (by omega)).1,List.length_range,List.length_map,if_pos (show us.length≤1000 by omega),e',if_pos h3,h3,g0,lf (wH us.length (hd us)) hm]
end Dp
end
section
namespace Dp
open PySem L2 Fo Lo Pt
noncomputable def dY:List Deed->List (Nat×Nat)
 |[]=>[]
 |.find _::r=>dY r
 |.join x z::r=>(x,z)::dY r
theorem uK {j:Str}{us ms:List Nat}{x z:Nat}:dU j "none" us ms (.join x z)=if hd us x=hd us z then us else pT j us ms (hd us x) (hd us z):=by
 show (if hd us x=hd us z then cw "none" (cw "none" us x) z else pT j (cw "none" (cw "none" us x) z) ms (hd us x) (hd us z))=_
 rw[tz,tz]
theorem mQ {j:Str}{us ms:List Nat}{x:Nat}:dU j "none" us ms (.find x)=us:=tz us x
theorem um {n:Nat}{j y:Str}(hy:y∈ay):∀(ds:List Deed) (us ms us':List Nat),Sto n us ms->Sto n us' ms->Shorter us us'->(∀d∈ds,Deed.ok n d) →
  Shorter (fu j "none" ds us ms).1 (fu j y ds us' ms).1/\(fu j y ds us' ms).2=(fu j "none" ds us ms).2/\oG j y ds us' ms=oG j "none" ds us ms
 |[],_,_,_,_,_,s,_=>⟨s,rfl,rfl⟩
 |d::ds,us,ms,us',S,S',s,hd'=>by
  have h:=hd' d List.mem_cons_self
  obtain⟨h1,h2,h3,_⟩:=xC S S' s (j:=j) hy h
  have S1:=eT S iZ (j:=j) h
  have S2:=eT S' hy (j:=j) h
  rw[h2] at S2
  obtain⟨r1,r2,r3⟩:=um hy ds (dU j "none" us ms d) (dM j us ms d) (dU j y us' ms d) S1 S2 h1 fun q hq=>hd' q (List.mem_cons_of_mem _ hq)
  refine⟨?_,?_,?_⟩
  ·show Shorter (fu j "none" ds (dU j "none" us ms d) (dM j us ms d)).1 (fu j y ds (dU j y us' ms d) (dM j us' ms d)).1
   rw[h2];exact r1
  ·show (fu j y ds (dU j y us' ms d) (dM j us' ms d)).2=(fu j "none" ds (dU j "none" us ms d) (dM j us ms d)).2
   rw[h2];exact r2
  ·show dA us' d::oG j y ds (dU j y us' ms d) (dM j us' ms d)=dA us d::oG j "none" ds (dU j "none" us ms d) (dM j us ms d)
   rw[h2,h3,r3]
theorem we {n:Nat}{j:Str}{us ms:List Nat}{c:Nat->Nat}(S:Sto n us ms){p:Nat×Nat}(h:p.1<n/\p.2<n)(K:xx n us c):xx n (dU j "none" us ms (.join p.1 p.2)) (jn c p.1 p.2):=by
 rw[uK]
 have kp:=K p.1 p.2 h.1 h.2
 by_cases e:hd us p.1=hd us p.2
 ·rw[if_pos e,uc (kp.mp e)];exact K
 ·rw[if_neg e]
  obtain⟨f,lu,lm⟩:=S
  have hx:p.1<us.length:=by omega
  have hz:p.2<us.length:=by omega
  have a1:=c8 f.fst hx
  have a2:=c8 f.fst hz
  have b1:=fE f.fst hx
  have b2:=fE f.fst hz
  intro x y lx ly
  have x1:=K x p.1 lx h.1
  have x2:=K x p.2 lx h.2
  have y1:=K y p.1 ly h.1
  have y2:=K y p.2 ly h.2
  have xy:=K x y lx ly
  unfold jn
  unfold pT tp un
  cases stay j ms (hd us p.1) (hd us p.2) with
  |true=>
   show hd (us.set (hd us p.2) (hd us p.1)) x=hd (us.set (hd us p.2) (hd us p.1)) y↔_
   rw[iT f a2 a1 b2 b1 e (by omega),iT f a2 a1 b2 b1 e (by omega)]
   exact wD e x1 x2 y1 y2 xy
  |false=>
   show hd (us.set (hd us p.1) (hd us p.2)) x=hd (us.set (hd us p.1) (hd us p.2)) y↔_
   rw[iT f a1 a2 b1 b2 (fun z=>e z.symm) (by omega),iT f a1 a2 b1 b2 (fun z=>e z.symm) (by omega)]
   exact tW e x1 x2 y1 y2 xy
theorem qt {n:Nat}{j:Str}:∀(ds:List Deed) (us ms:List Nat) (c:Nat->Nat),Sto n us ms->(∀d∈ds,Deed.ok n d)->xx n us c->xx n (fu j "none" ds us ms).1 (lB (dY ds) c)
 |[],_,_,_,_,_,K=>K
 |.find x::ds,us,ms,c,S,hd',K=>by
  show xx n (fu j "none" ds (dU j "none" us ms (.find x)) ms).1 (lB (dY ds) c)
  rw[mQ]
  exact qt ds us ms c S (fun q hq=>hd' q (List.mem_cons_of_mem _ hq)) K
 |.join x z::ds,us,ms,c,S,hd',K=>by
  have h:=hd' _ List.mem_cons_self
  exact qt ds _ _ (jn c x z) (eT S iZ (j:=j) h) (fun q hq=>hd' q (List.mem_cons_of_mem _ hq)) (we S (p:=(x,z)) h K)
theorem kc {n:Nat}{j:Str}{I:List Nat->List Nat->Prop}(step:∀us ms a b,Sto n us ms->I us ms->a<n->b<n->up us a=a->up us b=b->a≠b->I (pT j us ms a b) (xz j ms a b)) :
  ∀(ds:List Deed) (us ms:List Nat),Sto n us ms->(∀d∈ds,Deed.ok n d)->I us ms->I (fu j "none" ds us ms).1 (fu j "none" ds us ms).2
 |[],_,_,_,_,i=>i
 |.find x::ds,us,ms,S,hd',i=>by
  show I (fu j "none" ds (dU j "none" us ms (.find x)) ms).1 (fu j "none" ds (dU j "none" us ms (.find x)) ms).2
  rw[mQ]
  exact kc step ds us ms S (fun q hq=>hd' q (List.mem_cons_of_mem _ hq)) i
 |.join x z::ds,us,ms,S,hd',i=>by
  have h:=hd' _ List.mem_cons_self
  have hx:x<us.length:=by rw[S.lu];exact h.1
  have hz:z<us.length:=by rw[S.lu];exact h.2
  refine kc step ds _ _ (eT S iZ (j:=j) h) (fun q hq=>hd' q (List.mem_cons_of_mem _ hq)) ?_
  rw[uK]
  show I _ (if hd us x=hd us z then ms else xz j ms (hd us x) (hd us z))
  by_cases e:hd us x=hd us z
  ·rw[if_pos e,if_pos e];exact i
  ·rw[if_neg e,if_neg e]
   have a1:=c8 S.f.fst hx
   have a2:=c8 S.f.fst hz
   rw[S.lu] at a1 a2
   exact step us ms _ _ S i a1 a2 (fE S.f.fst hx) (fE S.f.fst hz) e
structure Sk (n:Nat)(us ms:List Nat):Prop where
 sto:Sto n us ms
 top:∀h,h<n->up us h=h->up ms h=(cl n (hd us) h).length
 dep:∀x,x<n->2 ^ dp us x≤(cl n (hd us) x).length
theorem zp {us:List Nat}(f:Fst us){h:Nat}(hh:h<us.length)(e:up us h=h):dp us h=0:=by
 unfold dp;rw[nF f hh e];rfl
theorem pk {n:Nat}{us:List Nat}(f:Frst us)(lu:us.length=n){u t:Nat}(hu:u<n)(ht:t<n)(eu:up us u=u)(et:up us t=t)(ne:u≠t){x:Nat}(hx:x<n) :
  (cl n (hd (us.set u t)) x).length=if hd us x=u\/hd us x=t then (cl n (hd us) u).length+(cl n (hd us) t).length else (cl n (hd us) x).length:=by
 have hu':u<us.length:=by omega
 have ht':t<us.length:=by omega
 have hut:=aG f.fst hu' eu
 have htt:=aG f.fst ht' et
 have nh:hd us t≠u:=by rw[htt];exact fun e=>ne e.symm
 have hjn:∀z,z<n->hd (us.set u t) z=if hd us z=u then t else hd us z:=fun z hz=>by
  rw[ql f hu' eu ht' nh (by omega)]
  show (if hd us z=hd us u then hd us t else hd us z)=_
  rw[hut,htt]
 by_cases q:hd us x=u\/hd us x=t
 ·rw[if_pos q]
  have c:=congrArg List.length (y6 f hu' eu ht' nh)
  rw[(gh _).length_eq,List.length_map,List.length_map,List.length_append,lu] at c
  rw[c]
  refine congrArg List.length ((cU hx).mpr ?_)
  rw[hjn x hx,hjn u hu,hut,if_pos rfl]
  rcases q with q|q
  ·rw[if_pos q]
  ·rw[q,if_neg fun e=>ne e.symm]
 ·rw[if_neg q]
  refine congrArg List.length (eZ fun y hy=>?_)
  rw[hjn y hy,hjn x hx,if_neg fun e=>q (.inl e)]
  by_cases z:hd us y=u
  ·rw[if_pos z,z];exact⟨fun e=>absurd (.inr e.symm) q,fun e=>absurd (.inl e.symm) q⟩
  ·rw[if_neg z]
theorem Sk.link {n:Nat}{us ms:List Nat}(R:Sk n us ms){a b:Nat}(ha:a<n)(hb:b<n)(ea:up us a=a)(eb:up us b=b)(ne:a≠b):Sk n (pT "size" us ms a b) (xz "size" ms a b):=by
 have f:=R.sto.f
 have lu:=R.sto.lu
 have lm:=R.sto.lm
 have key:∀u t:Nat,u<n->t<n->up us u=u->up us t=t->u≠t->up ms u≤up ms t->Sk n (us.set u t) (ms.set t (wI "size" (up ms t) (up ms u))):=fun u t hu ht eu et ne le=>by
  have hu':u<us.length:=by omega
  have ht':t<us.length:=by omega
  have htm:t<ms.length:=by omega
  have hut:=aG f.fst hu' eu
  have htt:=aG f.fst ht' et
  have nh:hd us t≠u:=by rw[htt];exact fun e=>ne e.symm
  have mk:wI "size" (up ms t) (up ms u)=up ms t+up ms u:=rfl
  have tu:=R.top u hu eu
  have tt:=R.top t ht et
  rw[mk]
  have fp:=mc f hu' eu ht' nh
  refine⟨⟨fp,by rw[List.length_set];exact lu,by rw[List.length_set];exact lm⟩,fun h hh e=>?_,fun x hx=>?_⟩
  ·rw[aI hu'] at e
   have q:h≠u:=fun z=>by rw[if_pos z] at e;exact ne (by rw[←z];exact e.symm)
   rw[if_neg q] at e
   rw[pk f lu hu ht eu et ne hh,aI htm,aG f.fst (by omega) e]
   by_cases p:h=t
   ·rw[if_pos p,if_pos (.inr p)];omega
   ·rw[if_neg p,if_neg (fun z=>z.elim q p)];exact R.top h hh e
  ·rw[pk f lu hu ht eu et ne hx,EK f hu' eu ht' nh (by omega),zp f.fst ht' et]
   have dx:=R.dep x hx
   by_cases q:hd us x=u
   ·rw[if_pos q,if_pos (.inl q),Nat.zero_add,Nat.pow_succ]
    have:(cl n (hd us) x).length=(cl n (hd us) u).length:=congrArg List.length ((cU hx).mpr (by rw[q,hut]))
    omega
   ·rw[if_neg q,Nat.add_zero]
    by_cases p:hd us x=t
    ·rw[if_pos (.inr p)]
     have:(cl n (hd us) x).length=(cl n (hd us) t).length:=congrArg List.length ((cU hx).mpr (by rw[p,htt]))
     omega
    ·rw[if_neg (fun z=>z.elim q p)];exact dx
 have st:stay "size" ms a b=decide (up ms b≤up ms a):=by
  show (if ("size" : Str) = "told" then true else if ("size" : Str) = "names" then decide (a<b) else decide (up ms b≤up ms a))=_
  rw[if_neg (by decide),if_neg (by decide)]
 unfold pT xz
 by_cases q:up ms b≤up ms a
 ·have e1:tp "size" ms a b=a:=by unfold tp;rw[st,decide_eq_true q];rfl
  have e2:un "size" ms a b=b:=by unfold un;rw[st,decide_eq_true q];rfl
  rw[e1,e2]
  exact key b a hb ha eb ea (fun e=>ne e.symm) q
 ·have e1:tp "size" ms a b=b:=by unfold tp;rw[st,decide_eq_false q];rfl
  have e2:un "size" ms a b=a:=by unfold un;rw[st,decide_eq_false q];rfl
  rw[e1,e2]
  exact key a b ha hb ea eb ne (by omega)
theorem sf {n x:Nat}(hx:x<n):up (List.range n) x=x:=by
 unfold up;rw[List.getD_eq_getElem?_getD,List.getElem?_range hx];rfl
theorem Bk {n x v:Nat}(hx:x<n):up (List.replicate n v) x=v:=by
 unfold up;rw[List.getD_eq_getElem?_getD,List.getElem?_replicate,if_pos hx];rfl
theorem nL {n x:Nat}(h1:1≤n)(h2:n≤40)(hx:x<n):hd (List.range n) x=x:=aG (bD h1 h2).fst (by rw[List.length_range];exact hx) (sf hx)
theorem EJ {n:Nat}(h1:1≤n)(h2:n≤40):Sk n (List.range n) (List.replicate n 1):=by
 have one:∀x,x<n->(cl n (hd (List.range n)) x).length=1:=fun x hx=>by
  have:cl n (hd (List.range n)) x=(List.range n).filter (·==x):=List.filter_congr fun y hy=>by
   rw[nL h1 h2 (List.mem_range.mp hy),nL h1 h2 hx]
   rw[Bool.eq_iff_iff,decide_eq_true_eq,beq_iff_eq]
  rw[this,List.filter_beq,List.nodup_range.count,if_pos (List.mem_range.mpr hx)];rfl
 refine⟨⟨bD h1 h2,List.length_range ..,List.length_replicate ..⟩,fun h hh _=>?_,fun x hx=>?_⟩
 ·rw[one h hh,Bk hh]
 ·rw[one x hx,zp (bD h1 h2).fst (by rw[List.length_range];exact hx) (sf hx)];exact Nat.le_refl _
theorem Rk.dep {n:Nat}{us ms:List Nat}(R:Rk n us ms){x:Nat}{l:List Nat}(w:Way us x l):x<n->up ms x+(l.length - 1)≤up ms (bn l):=by
 induction w with
 |head e=>intro hx;exact Nat.le_refl _
 | @step x l ne w ih=>
  intro hx
  have f:=R.sto.f
  have lu:=R.sto.lu
  have b:=f.fst.bnd x (by omega)
  have i:=ih (by omega)
  have r:=R.rise x hx ne
  have hl:1≤l.length:=by cases w<;>simp
  have el:bn (x::l)=bn l:=by cases w<;>rfl
  rw[el,List.length_cons]
  omega
theorem t9 {a n:Nat}(h:2 ^ a≤n):a≤n.log2:=by
 have hn:n≠0:=by have:=Nat.two_pow_pos a;omega
 exact (Nat.le_log2 hn).mpr h
theorem Rk.deep {n:Nat}{us ms:List Nat}(R:Rk n us ms){x:Nat}(hx:x<n):dp us x≤(cl n (hd us) x).length.log2/\up ms (hd us x)≤(cl n (hd us) x).length.log2:=by
 have f:=R.sto.f
 have lu:=R.sto.lu
 have hx':x<us.length:=by omega
 have d:=R.dep (aC f.fst hx') hx
 have b:=R.big (hd us x) (by have:=c8 f.fst hx';omega) (fE f.fst hx')
 have e:cl n (hd us) (hd us x)=cl n (hd us) x:=(cU (by have:=c8 f.fst hx';omega)).mpr (aG f.fst (c8 f.fst hx') (fE f.fst hx'))
 rw[e] at b
 have g:=t9 b
 have d:up ms x+dp us x≤up ms (hd us x):=d
 exact⟨by omega,g⟩
theorem Bq {n:Nat}{us ms:List Nat}(S:Sto n us ms)(R:∀x,x<n->hd us x≤x){a b:Nat}(ha:a<n)(hb:b<n)(ea:up us a=a)(eb:up us b=b)(ne:a≠b):∀x,x<n->hd (pT "names" us ms a b) x≤x:=fun x hx=>by
 have f:=S.f
 have lu:=S.lu
 have st:stay "names" ms a b=decide (a<b):=by
  show (if ("names" : Str) = "told" then true else if ("names" : Str) = "names" then decide (a<b) else _)=_
  rw[if_neg (by decide),if_pos rfl]
 have r:=R x hx
 unfold pT
 by_cases q:a<b
 ·have e1:tp "names" ms a b=a:=by unfold tp;rw[st,decide_eq_true q];rfl
  have e2:un "names" ms a b=b:=by unfold un;rw[st,decide_eq_true q];rfl
  rw[e1,e2,iT f (by omega) (by omega) eb ea ne (by omega)]
  split<;>omega
 ·have e1:tp "names" ms a b=b:=by unfold tp;rw[st,decide_eq_false q];rfl
  have e2:un "names" ms a b=a:=by unfold un;rw[st,decide_eq_false q];rfl
  rw[e1,e2,iT f (by omega) (by omega) ea eb (fun e=>ne e.symm) (by omega)]
  split<;>omega
structure Jk (n:Nat)(j:Str)(us ms:List Nat):Prop where
 size:j = "size"->∀x,x<n->dp us x≤(cl n (hd us) x).length.log2/\up ms (hd us x)=(cl n (hd us) x).length
 rank:j = "rank"->∀x,x<n->dp us x≤(cl n (hd us) x).length.log2/\up ms (hd us x)≤(cl n (hd us) x).length.log2
 names:j = "names"->∀x,x<n->hd us x≤x
theorem CH {n:Nat}{j:Str}(hj:j∈lE)(h1:1≤n)(h2:n≤40){ds:List Deed}(hd':∀d∈ds,Deed.ok n d):Jk n j (fu j "none" ds (List.range n) (List.replicate n (g6 j))).1 (fu j "none" ds (List.range n) (List.replicate n (g6 j))).2:=by
 have S:Sto n (List.range n) (List.replicate n (g6 j)):=⟨bD h1 h2,List.length_range ..,List.length_replicate ..⟩
 have SR:=kj (j:=j) iZ ds _ _ S hd'
 refine⟨fun e=>?_,fun e=>?_,fun e=>?_⟩
 ·subst e
  have R:=kc (n:=n) (j:="size") (I:=Sk n) (fun us ms a b _ R=>R.link) ds _ _ S hd' (EJ h1 h2)
  intro x hx
  have hx':=hx
  rw[←SR.lu] at hx'
  have e:cl n (hd (fu "size" "none" ds (List.range n) (List.replicate n (g6 "size"))).1) (hd (fu "size" "none" ds (List.range n) (List.replicate n (g6 "size"))).1 x)=cl n (hd (fu "size" "none" ds (List.range n) (List.replicate n (g6 "size"))).1) x:=(cU (by have:=c8 SR.f.fst hx';rw[SR.lu] at this;exact this)).mpr (aG SR.f.fst (c8 SR.f.fst hx') (fE SR.f.fst hx'))
  exact⟨t9 (R.dep x hx),by rw[R.top _ (by have:=c8 SR.f.fst hx';rw[SR.lu] at this;exact this) (fE SR.f.fst hx'),e]⟩
 ·subst e
  have R:=kc (n:=n) (j:="rank") (I:=Rk n) (fun us ms a b _ R=>R.link) ds _ _ S hd' (Ez h1 h2)
  exact fun x hx=>R.deep hx
 ·subst e
  exact kc (n:=n) (j:="names") (I:=fun us _=>∀x,x<n->hd us x≤x) (fun us ms a b S R=>Bq S R) ds _ _ S hd' fun x hx=>by rw[nL h1 h2 hx];exact Nat.le_refl _
theorem qF {n:Nat}{j y:Str}(hj:j∈lE)(hy:y∈ay)(h1:1≤n)(h2:n≤40){ds:List Deed}(hd':∀d∈ds,Deed.ok n d):Jk n j (fu j y ds (List.range n) (List.replicate n (g6 j))).1 (fu j y ds (List.range n) (List.replicate n (g6 j))).2/\xx n (fu j y ds (List.range n) (List.replicate n (g6 j))).1 (lB (dY ds) id)/\oG j y ds (List.range n) (List.replicate n (g6 j))=oG j "none" ds (List.range n) (List.replicate n (g6 j)):=by
 have S:Sto n (List.range n) (List.replicate n (g6 j)):=⟨bD h1 h2,List.length_range ..,List.length_replicate ..⟩
 have J:=CH hj h1 h2 hd'
 have K:=qt (j:=j) ds _ _ id S hd' (Hz h1 h2)
 obtain⟨b1,b2,b3⟩:=um (j:=j) hy ds _ _ _ S S (EL h1 h2) hd'
 have SR:=kj (j:=j) iZ ds _ _ S hd'
 have hs:∀x,x<n->hd (fu j y ds (List.range n) (List.replicate n (g6 j))).1 x=hd (fu j "none" ds (List.range n) (List.replicate n (g6 j))).1 x/\dp (fu j y ds (List.range n) (List.replicate n (g6 j))).1 x≤dp (fu j "none" ds (List.range n) (List.replicate n (g6 j))).1 x:=fun x hx=>by
  have:=sj b1 SR.f.fst (x:=x) (by rw[SR.lu];exact hx)
  exact⟨this.1,this.2.1⟩
 have ec:∀x,x<n->cl n (hd (fu j y ds (List.range n) (List.replicate n (g6 j))).1) x=cl n (hd (fu j "none" ds (List.range n) (List.replicate n (g6 j))).1) x:=fun x hx=>eZ fun y hy=>by rw[(hs y hy).1,(hs x hx).1]
 refine⟨⟨fun e x hx=>?_,fun e x hx=>?_,fun e x hx=>?_⟩,fun x z hx hz=>?_,b3⟩
 ·have:=J.size e x hx
  rw[ec x hx,(hs x hx).1,b2]
  exact⟨Nat.le_trans (hs x hx).2 this.1,this.2⟩
 ·have:=J.rank e x hx
  rw[ec x hx,(hs x hx).1,b2]
  exact⟨Nat.le_trans (hs x hx).2 this.1,this.2⟩
 ·rw[(hs x hx).1];exact J.names e x hx
 ·rw[(hs x hx).1,(hs z hz).1];exact K x z hx hz
end Dp
end
section
set_option maxHeartbeats 2000000
namespace K16
open PySem L2 Fo Dp Lo Pt
noncomputable def i5:List Deed->(Nat->Nat)->List Bool
 |[],_=>[]
 |.find _::r,c=>i5 r c
 |.join x z::r,c=>(!decide (c x=c z))::i5 r (jn c z x)
theorem EB {n:Nat}{us:List Nat}{c c':Nat->Nat}(K:xx n us c)(K':xx n us c'){x z:Nat}(hx:x<n)(hz:z<n):∀a b,a<n->b<n->(jn c x z a=jn c x z b↔jn c' z x a=jn c' z x b):=fun a b ha hb=>by
 have e:∀s t,s<n->t<n->(c s=c t↔c' s=c' t):=fun s t hs ht=>(K s t hs ht).symm.trans (K' s t hs ht)
 unfold jn
 rw[show (if c a=c x then c z else c a)=(if c a=c x then c z else c a) from rfl,F6,F6,e a b ha hb,e a x ha hx,e a z ha hz,e b x hb hx,e b z hb hz]
 constructor<;>rintro (h|⟨h1,h2⟩)<;>first|exact .inl h|exact .inr ⟨h1.symm,h2.symm⟩
theorem Bd {n:Nat}{j:Str}{us ms:List Nat}{c:Nat->Nat}(S:Sto n us ms){x z:Nat}(hx:x<n)(hz:z<n)(K:xx n us c):xx n (dU j "none" us ms (.join x z)) (jn c z x):=fun a b ha hb=>
 (we S (j:=j) (p:=(x,z)) ⟨hx,hz⟩ K a b ha hb).trans (EB K K hx hz a b ha hb)
noncomputable def FW:Deed->Bool
 |.find _=>false
 |.join _ _=>true
theorem sZ {n:Nat}{j:Str}:∀(ds:List Deed) (us ms:List Nat) (c:Nat->Nat),Sto n us ms->(∀d∈ds,Deed.ok n d)->xx n us c->((ds.zip (oG j "none" ds us ms)).filter (fun p=>FW p.1)).map (·.2)=(i5 ds c).map PV.bl
 |[],_,_,_,_,_,_=>rfl
 |.find x::ds,us,ms,c,S,hd',K=>by
  show ((ds.zip (oG j "none" ds (dU j "none" us ms (.find x)) ms)).filter (fun p=>FW p.1)).map (·.2)=_
  rw[mQ]
  exact sZ ds us ms c S (fun q hq=>hd' q (List.mem_cons_of_mem _ hq)) K
 |.join x z::ds,us,ms,c,S,hd',K=>by
  have h:=hd' _ List.mem_cons_self
  have i:=sZ (j:=j) ds _ _ (jn c z x) (eT S iZ (j:=j) h) (fun q hq=>hd' q (List.mem_cons_of_mem _ hq)) (Bd S h.1 h.2 K)
  show PV.bl (!decide (hd us x=hd us z))::((ds.zip (oG j "none" ds (dU j "none" us ms (.join x z)) (dM j us ms (.join x z)))).filter (fun p=>FW p.1)).map (·.2)=PV.bl (!decide (c x=c z))::_
  rw[i,decide_eq_decide.mpr (K x z h.1 h.2)]
theorem x5 {n:Nat}(c:Nat->Nat){x:Nat}(hx:x<n):L2.bQ (af ((List.range n).map c)) (x:Int)=some (.int (c x:Nat)):=by
 rw[am (by rw[List.length_map,List.length_range];exact hx)]
 unfold up
 rw[List.getD_eq_getElem?_getD,List.getElem?_map,List.getElem?_range hx];rfl
theorem sr (n:Nat)(c:Nat->Nat)(x z:Nat){z0:Option Sl}:i9 (gN 0) eD cz [z0,some (.val (.int (c x:Nat))),some (.val (.int (c z:Nat)))] (af ((List.range n).map c))=some (af ((List.range n).map (jn c z x))):=by
 rw[iS (fun t=>PV.int ((if t=c z then c x else t:Nat):Nat)) fun t ht=>by
  have hd:decide ((t:Int)=(c z:Int))=decide (t=c z):=decide_eq_decide.mpr (by omega)
  by_cases q:t=c z
  ·simp![cz,hd,decide_eq_true q,Hf,if_pos q]
  ·simp![cz,hd,decide_eq_false q,Hf,if_neg q]]
 unfold af
 rw[List.map_map,List.map_map]
 exact congrArg some (List.map_congr_left fun t _=>rfl)
theorem mw {n:Nat}{s0 s1:Option Sl}:∀(ds:List Deed) (c:Nat->Nat) (as:List Bool) (z4 z5 z6:Option Sl),(∀d∈ds,Deed.ok n d)->n≤40->as.length+ds.length≤1000 →
  ∃c' w4 w5 w6,aQ (gN 4) bm (ds.map Deed.pv) [s0,s1,some (.val (.lst (af ((List.range n).map c)))),some (.own (as.map PV.bl)),z4,z5,z6]=.nx [s0,s1,some (.val (.lst (af ((List.range n).map c')))),some (.own ((as++i5 ds c).map PV.bl)),w4,w5,w6]
 |[],c,as,z4,z5,z6,_,_,_=>⟨c,z4,z5,z6,by show Out.nx _=_;simp only[i5,List.append_nil]⟩
 |.find x::ds,c,as,z4,z5,z6,hd',hn,hl=>by
  rw[List.length_cons] at hl
  obtain⟨c',w4,w5,w6,e⟩:=mw (s0:=s0) (s1:=s1) ds c as (some (.val (.tup [.str "find",.int (x:Nat)]))) z5 z6 (fun q hq=>hd' q (List.mem_cons_of_mem _ hq)) hn (by omega)
  refine⟨c',w4,w5,w6,?_⟩
  show aQ (gN 4) bm (.tup [.str "find",.int (x:Nat)]::ds.map Deed.pv) _=_
  have a0:∀a b:PV,L2.bQ [a,b] 0=some a:=fun _ _=>rfl
  have d0:decide (("find" : Str) = "join")=false:=by decide
  rw[cV]
  simp![bm,a0,d0]
  exact e
 |.join x z::ds,c,as,z4,z5,z6,hd',hn,hl=>by
  rw[List.length_cons] at hl
  have h:x<n/\z<n:=hd' _ List.mem_cons_self
  obtain⟨c',w4,w5,w6,e⟩:=mw (s0:=s0) (s1:=s1) ds (jn c z x) (as++[!decide (c x=c z)]) (some (.val (.tup [.str "join",.int (x:Nat),.int (z:Nat)]))) (some (.val (.int (c x:Nat)))) (some (.val (.int (c z:Nat)))) (fun q hq=>hd' q (List.mem_cons_of_mem _ hq)) hn (by rw[List.length_append,List.length_singleton];omega)
  refine⟨c',w4,w5,w6,?_⟩
  show aQ (gN 4) bm (.tup [.str "join",.int (x:Nat),.int (z:Nat)]::ds.map Deed.pv) _=_
  have a0:∀a b c:PV,L2.bQ [a,b,c] 0=some a:=fun _ _ _=>rfl
  have a1:∀a b c:PV,L2.bQ [a,b,c] 1=some b:=fun _ _ _=>rfl
  have a2:∀a b c:PV,L2.bQ [a,b,c] 2=some c:=fun _ _ _=>rfl
  have d0:decide (("join" : Str) = "join")=true:=by decide
  have dd:decide ((c x:Int)=(c z:Int))=decide (c x=c z):=decide_eq_decide.mpr (by omega)
  have l1:as.length≤100000:=by omega
  have l3:n<1000:=by omega
  have ea:(as.map PV.bl)++[PV.bl (!decide (c x=c z))]=(as++[!decide (c x=c z)]).map PV.bl:=by rw[List.map_append];rfl
  have e2:as++i5 (.join x z::ds) c=as++[!decide (c x=c z)]++i5 ds (jn c z x):=by rw[List.append_assoc];rfl
  rw[e2,←e,cV]
  simp![bm,a0,a1,a2,d0,x5 c h.1,x5 c h.2,dd,List.length_map,l1,if_true,ea,sr,cZ,List.length_range,l3]
theorem Iy {n:Nat}(hn:n≤40){ds:List Deed}(hd':∀d∈ds,Deed.ok n d)(hl:ds.length≤500):gE [.int n,.tup (ds.map Deed.pv)]=some (.n ((i5 ds id).map PV.bl)):=by
 obtain⟨c',w4,w5,w6,e⟩:=mw (s0:=some (.val (.int (n:Nat)))) (s1:=some (.val (.tup (ds.map Deed.pv)))) ds id [] none none none hd' hn (by simp;omega)
 rw[List.map_id] at e
 have e:aQ (gN 4) bm (ds.map Deed.pv) [some (.val (.int (n:Nat))),some (.val (.tup (ds.map Deed.pv))),some (.val (.lst (af (List.range n)))),some (.own []),none,none,none]=_:=e
 simp![qJ,gP,cz,bm,(K1 (n:=n) (by omega)).2,e,List.nil_append]
theorem yg {n:Nat}{us:List Nat}(f:Frst us)(lu:us.length=n){x:Nat}(hx:x<n):(cl n (hd us) x).filter (fun t=>decide (up us t=t))=[hd us x]:=by
 have hx':x<us.length:=by omega
 have hl:=c8 f.fst hx'
 have e:(cl n (hd us) x).filter (fun t=>decide (up us t=t))=(cl n (hd us) x).filter (fun t=>t==hd us x):=List.filter_congr fun t ht=>by
  obtain⟨h1,h2⟩:=mem_cl.mp ht
  rw[Bool.eq_iff_iff,decide_eq_true_eq,beq_iff_eq]
  constructor
  ·intro e;rw[←h2,aG f.fst (by omega) e]
  ·intro e;rw[e];exact fE f.fst hx'
 rw[e,List.filter_beq,(show (cl n (hd us) x).Nodup from (pG n (hd us) x).imp (fun h=>Nat.ne_of_lt h)).count,if_pos (mem_cl.mpr ⟨by omega,aG f.fst hl (fE f.fst hx')⟩)];rfl
theorem se {n:Nat}{c:Nat->Nat}{x:Nat}(hx:x<n)(h:∀t,t<n->c t=c x->c x≤t)(hm:c x<n)(hc:c (c x)=c x):∃r,cl n c x=c x::r:=by
 have:=m6 (n:=n) (c:=c) (x:=c x) hm (by
  unfold iI
  refine decide_eq_true fun y hy e=>?_
  have:=h y (by omega) (by rw[e,hc]);omega)
 obtain⟨r,e⟩:=this
 exact⟨r,by rw[←(cU hm).mpr hc];exact e⟩
theorem yk {l:List Nat}{m:Nat}(h1:0<l.length)(h:∀a∈l,a≤m):∃k:Nat,k≤m/\qR [.lst (af l)]=some (.fz (.int (k:Nat))):=by
 have hi:cu (af l)=some (l.map Int.ofNat):=iF l
 have hl:0<(l.map Int.ofNat).length:=by rw[List.length_map];exact h1
 obtain⟨q1,q2⟩:=qL hl
 obtain⟨k,hk,ek⟩:=List.mem_map.mp q1
 refine⟨k,h k hk,?_⟩
 rw[F4,hi]
 show (if (l.map Int.ofNat).length=0 then none else some (RV.fz (PV.int (lL (l.map Int.ofNat)))))=_
 rw[if_neg (by omega),←ek];rfl
structure Shp (n:Nat)(j:Str)(us ms:List Nat):Prop where
 sto:Sto n us ms
 jk:Jk n j us ms
theorem wT {n:Nat}{j:Str}(hj:j∈lE)(hn:n≤40){us ms:List Nat}(S:Shp n j us ms){x:Nat}(hx:x<n){s1 s2 z5 z6 z7:Option Sl} :
  ∃w5 w6 w7,aw [some (.val (.str j)),s1,s2,some (.val (.tup (af us))),some (.val (.tup (af ms))),some (.val (.tup (af (cl n (hd us) x)))),z6,z7]=.nx [some (.val (.str j)),s1,s2,some (.val (.tup (af us))),some (.val (.tup (af ms))),w5,w6,w7]:=by
 have f:=S.sto.f
 have lu:=S.sto.lu
 have lm:=S.sto.lm
 have hx':x<us.length:=by omega
 have hm:hd us x<n:=by have:=c8 f.fst hx';omega
 have hmem:∀t∈cl n (hd us) x,t<us.length:=fun t ht=>by have:=(mem_cl.mp ht).1;omega
 have lc:=qg n (hd us) x
 have g1:i9 (gN 0) aV aW [none,some (.val (.tup (af us)))] (af (cl n (hd us) x))=some (af [hd us x]):=by
  have:=gx (t:=gN 0) (c:=aV) (f:=aW) (ρ:=[none,some (.val (.tup (af us)))]) (fun p=>match p with|.int i=>decide (up us i.toNat=i.toNat)|_=>false) (fun p=>p) (its:=af (cl n (hd us) x)) (fun p hp=>by
   obtain⟨t,ht,rfl⟩:=List.mem_map.mp hp
   refine⟨[some (.val (.int (t:Nat))),some (.val (.tup (af us)))],rfl,?_,fun _=>?_⟩
   ·have d:decide (((up us t:Nat):Int)=((t:Nat):Int))=decide (up us t=t):=decide_eq_decide.mpr (by omega)
    simp![aV,am (hmem t ht),d]
   ·simp![aW])
  rw[this,←yg f lu hx]
  refine congrArg some ?_
  unfold af
  rw[List.map_id',List.filter_map]
  rfl
 have g2:i9 (gN 0) eD bx [none,some (.val (.tup (af us))),some (.val (.tup (af (cl n (hd us) x))))] (af (cl n (hd us) x))=some ((cl n (hd us) x).map fun _=>PV.bl true):=by
  rw[iS (fun _=>PV.bl true) fun t ht=>by
   have ht':=hmem t ht
   have b:=f.fst.bnd t ht'
   have d:decide (up us t∈cl n (hd us) x)=true:=decide_eq_true (mem_cl.mpr ⟨by omega,by rw[re f.fst ht'];exact (mem_cl.mp ht).2⟩)
   simp![bx,am ht',mV,d]]
 have g4:i9 (gN 0) eD bB [none,some (.val (.tup (af us)))] (af (cl n (hd us) x))=some (af ((cl n (hd us) x).map fun t=>(way us t).length)):=by
  rw[iS (fun t=>PV.int ((way us t).length:Nat)) fun t ht=>by
   simp![bB,tm (.inl rfl) f (hmem t ht),cZ]]
  unfold af;rw[List.map_map];rfl
 have b1:A6 ((cl n (hd us) x).map fun _=>PV.bl true)=some ((cl n (hd us) x).map fun _=>true):=Ik _
 have b2:=GI (cl n (hd us) x)
 have hp:1≤(cl n (hd us) x).length:=List.length_pos_of_mem (mem_cl.mpr ⟨hx,rfl⟩)
 have hdb:bN [.int ((cl n (hd us) x).length:Nat)]=some (.v (.int ((cl n (hd us) x).length.log2:Nat))):=EQ (by omega)
 have l1:(cl n (hd us) x).length<1000:=by omega
 have a0:∀a:PV,L2.bQ [a] 0=some a:=fun _=>rfl
 have eh:af [hd us x]=[.int (hd us x:Nat)]:=rfl
 have hmm:hd us x<ms.length:=by omega
 have h11:decide (((1:Nat):Int)=1)=true:=rfl
 have e0':∀r:List Nat,L2.bQ (af (hd us x::r)) 0=some (.int (hd us x:Nat)):=fun r=>am (us:=hd us x::r) (x:=0) (by simp)
 have same:hd us (hd us x)=hd us x:=aG f.fst (by omega) (fE f.fst hx')
 have dps:∀t∈cl n (hd us) x,(cl n (hd us) t).length=(cl n (hd us) x).length:=fun t ht=>congrArg List.length ((cU (mem_cl.mp ht).1).mpr (mem_cl.mp ht).2)
 have wl:∀t∈cl n (hd us) x,(way us t).length=dp us t+1:=fun t ht=>by
  unfold dp
  have:=List.length_pos_iff.mpr (aC f.fst (hmem t ht)).ne
  omega
 rcases j4 hj with rfl|rfl|rfl|rfl
 ·have J:=S.jk.size rfl
  obtain⟨k,hk,em⟩:=yk (l:=(cl n (hd us) x).map fun t=>(way us t).length) (m:=(cl n (hd us) x).length.log2+1) (by rw[List.length_map];omega) (fun a ha=>by
   obtain⟨t,ht,rfl⟩:=List.mem_map.mp ha
   have:=(J t (mem_cl.mp ht).1).1
   rw[dps t ht] at this
   rw[wl t ht];omega)
  have d1:decide (((k:Nat):Int) - 1 > ((cl n (hd us) x).length.log2:Nat))=false:=decide_eq_false (by omega)
  have d2:decide (((up ms (hd us x):Nat):Int)=((cl n (hd us) x).length:Nat))=true:=decide_eq_true (by rw[(J x hx).2])
  have p1:pin (.str "size") [.str "size",.str "rank"]=true:=by unfold pin;simp only[List.any_cons,fL,List.any_nil];decide
  have q2:decide (("size" : Str) = "size")=true:=by decide
  have q3:decide (("size" : Str) = "rank")=false:=by decide
  have q4:decide (("size" : Str) = "names")=false:=by decide
  refine⟨some (.val (.tup (af (cl n (hd us) x)))),some (.val (.lst (af [hd us x]))),some (.val (.int ((cl n (hd us) x).length.log2:Nat))),?_⟩
  simp![aw,g1,g2,g4,l1,b1,b2,List.length_map,h11,hdb,p1,q2,q3,q4,em,d1,eh,a0,am hmm,d2]
 ·have J:=S.jk.rank rfl
  obtain⟨k,hk,em⟩:=yk (l:=(cl n (hd us) x).map fun t=>(way us t).length) (m:=(cl n (hd us) x).length.log2+1) (by rw[List.length_map];omega) (fun a ha=>by
   obtain⟨t,ht,rfl⟩:=List.mem_map.mp ha
   have:=(J t (mem_cl.mp ht).1).1
   rw[dps t ht] at this
   rw[wl t ht];omega)
  have d1:decide (((k:Nat):Int) - 1 > ((cl n (hd us) x).length.log2:Nat))=false:=decide_eq_false (by omega)
  have d2:decide (((up ms (hd us x):Nat):Int) > ((cl n (hd us) x).length.log2:Nat))=false:=decide_eq_false (by have:=(J x hx).2;omega)
  have p1:pin (.str "rank") [.str "size",.str "rank"]=true:=by unfold pin;simp only[List.any_cons,fL,List.any_nil];decide
  have q2:decide (("rank" : Str) = "size")=false:=by decide
  have q3:decide (("rank" : Str) = "rank")=true:=by decide
  have q4:decide (("rank" : Str) = "names")=false:=by decide
  refine⟨some (.val (.tup (af (cl n (hd us) x)))),some (.val (.lst (af [hd us x]))),some (.val (.int ((cl n (hd us) x).length.log2:Nat))),?_⟩
  simp![aw,g1,g2,g4,l1,b1,b2,List.length_map,h11,hdb,p1,q2,q3,q4,em,d1,eh,a0,am hmm,d2]
 ·have p1:pin (.str "told") [.str "size",.str "rank"]=false:=by unfold pin;simp only[List.any_cons,fL,List.any_nil];decide
  have q2:decide (("told" : Str) = "size")=false:=by decide
  have q3:decide (("told" : Str) = "rank")=false:=by decide
  have q4:decide (("told" : Str) = "names")=false:=by decide
  refine⟨some (.val (.tup (af (cl n (hd us) x)))),some (.val (.lst (af [hd us x]))),some (.val (.int ((cl n (hd us) x).length.log2:Nat))),?_⟩
  simp![aw,g1,g2,l1,b1,b2,List.length_map,h11,hdb,p1,q2,q3,q4]
 ·have J:=S.jk.names rfl
  obtain⟨r,er⟩:=se hx (c:=hd us) (fun t ht e=>by rw[←e];exact J t ht) hm same
  have p1:pin (.str "names") [.str "size",.str "rank"]=false:=by unfold pin;simp only[List.any_cons,fL,List.any_nil];decide
  have q2:decide (("names" : Str) = "size")=false:=by decide
  have q3:decide (("names" : Str) = "rank")=false:=by decide
  have q4:decide (("names" : Str) = "names")=true:=by decide
  have e0:L2.bQ (af (cl n (hd us) x)) 0=some (.int (hd us x:Nat)):=by rw[er];exact e0' r
  have d2:decide (((hd us x:Nat):Int)=((hd us x:Nat):Int))=true:=decide_eq_true rfl
  refine⟨some (.val (.tup (af (cl n (hd us) x)))),some (.val (.lst (af [hd us x]))),some (.val (.int ((cl n (hd us) x).length.log2:Nat))),?_⟩
  simp![aw,g1,g2,l1,b1,b2,List.length_map,h11,hdb,p1,q2,q3,q4,eh,a0,e0,d2]
theorem pA {n:Nat}{j:Str}(hj:j∈lE)(hn:n≤40){us ms:List Nat}(S:Shp n j us ms){s1 s2:Option Sl}:∀(ls:List (List Nat)) (z5 z6 z7:Option Sl),(∀l∈ls,∃x,x<n/\l=cl n (hd us) x) →
  ∃w5 w6 w7,aQ (gN 5) aw (aB ls) [some (.val (.str j)),s1,s2,some (.val (.tup (af us))),some (.val (.tup (af ms))),z5,z6,z7]=.nx [some (.val (.str j)),s1,s2,some (.val (.tup (af us))),some (.val (.tup (af ms))),w5,w6,w7]
 |[],z5,z6,z7,_=>⟨z5,z6,z7,rfl⟩
 |l::ls,z5,z6,z7,h=>by
  obtain⟨x,hx,rfl⟩:=h l List.mem_cons_self
  obtain⟨a5,a6,a7,e1⟩:=wT hj hn S hx (s1:=s1) (s2:=s2) (z5:=z5) (z6:=z6) (z7:=z7)
  obtain⟨w5,w6,w7,e2⟩:=pA hj hn S (s1:=s1) (s2:=s2) ls a5 a6 a7 fun q hq=>h q (List.mem_cons_of_mem _ hq)
  refine⟨w5,w6,w7,?_⟩
  show aQ (gN 5) aw (.tup (af (cl n (hd us) x))::aB ls) _=_
  rw[cV]
  simp![e1]
  exact e2
theorem qe {n:Nat}{j y:Str}(hj:j∈lE)(hn:n≤40){us ms:List Nat}(S:Shp n j us ms):b9 [.str j,gz j y us ms,.lst (aB (aP n (hd us)))]=some (.v (.bl true)):=by
 have lu:=S.sto.lu
 obtain⟨w5,w6,w7,e⟩:=pA hj hn S (s1:=some (.val (gz j y us ms))) (s2:=some (.val (.lst (aB (aP n (hd us)))))) (aP n (hd us)) none none none fun l hl=>mem_lots.mp hl
 have h2:=(zL (aP n (hd us))).2
 have e1:aX [.tup (af us)]=some (.n (aB (aP n (hd us)))):=by rw[jz S.sto.f,lu]
 have e2:E0 (gz j y us ms) (some 2) none=some (.fz (.tup [.tup (af us),.tup (af ms)])):=rfl
 have p1:=eN (aP n (hd us))
 have p2:decide (bp (aB (aP n (hd us)))≤49)=true:=decide_eq_true (by have:=gG (aP n (hd us));omega)
 simp![i7,cv,aV,aW,bx,bB,aw,e2,e1,p1,p2,cK p1,e]
theorem sC {α β:Type}(p:α->Bool)(d:α)(e:β):∀(l:List α) (m:List β),m.length=l.length->((List.range l.length).filter (fun k=>p (l.getD k d))).map (fun k=>m.getD k e)=((l.zip m).filter (fun q=>p q.1)).map (·.2)
 |[],[],_=>rfl
 |a::l,b::m,h=>by
  have i:=sC p d e l m (by simpa using h)
  rw[List.length_cons,List.range_succ_eq_map,List.filter_cons,List.zip_cons_cons,List.filter_cons]
  have t:(((List.range l.length).map Nat.succ).filter (fun k=>p ((a::l).getD k d))).map (fun k=>(b::m).getD k e)=((List.range l.length).filter (fun k=>p (l.getD k d))).map (fun k=>m.getD k e):=by
   rw[List.filter_map,List.map_map];rfl
  by_cases q:p a=true
  ·rw[if_pos (show p ((a::l).getD 0 d)=true from q),if_pos (show p (a,b).1=true from q),List.map_cons,List.map_cons,t,i];rfl
  ·rw[if_neg (show ¬p ((a::l).getD 0 d)=true from q),if_neg (show ¬p (a,b).1=true from q),t,i]
 |[],_::_,h=>by cases h
 |_::_,[],h=>by cases h
noncomputable def A4 (n:Nat):Nat:=1+n / 13
theorem Hc:∀n:Nat,n<41->ok3 0 (n:Int) (A4 n:Nat)=true/\(Builtin.Range.rangeSize 0 (n:Int) (A4 n:Nat)).toNat≤40/\∀k:Nat,k<41->k<(Builtin.Range.rangeSize 0 (n:Int) (A4 n:Nat)).toNat->k * A4 n<n:=by decide +kernel
theorem DM {n:Nat}(h2:n≤40):∃ks:List Nat,(∀k∈ks,k<n)/\xi [.int 0,.int n,.int (1+(n:Int) / 13)]=some (af ks):=by
 obtain⟨a,b,c⟩:=Hc n (by omega)
 refine⟨(List.range (Builtin.Range.rangeSize 0 (n:Int) (A4 n:Nat)).toNat).map (· * A4 n),fun k hk=>?_,?_⟩
 ·obtain⟨j,hj,rfl⟩:=List.mem_map.mp hk
  have hj:=List.mem_range.mp hj
  exact c j (by omega) hj
 ·rw[show (1+(n:Int) / 13)=(A4 n:Nat) by unfold A4;omega,FH,a,if_pos rfl]
  unfold oI af
  rw[List.map_map]
  refine congrArg some (List.map_congr_left fun k _=>?_)
  show PV.int (0+(k:Int) * (A4 n:Nat))=PV.int ((k * A4 n:Nat):Int)
  rw[Int.natCast_mul];congr 1;omega
theorem p9 {n:Nat}:∀{ds:List Deed},(∀d∈ds,Deed.ok n d)->∀p∈dY ds,p.1<n/\p.2<n
 |[],_,p,h=>by cases h
 |.find x::ds,h,p,hp=>p9 (fun q hq=>h q (List.mem_cons_of_mem _ hq)) p hp
 |.join x z::ds,h,p,hp=>by
  rcases List.mem_cons.mp hp with rfl|hp
  ·exact h _ List.mem_cons_self
  ·exact p9 (fun q hq=>h q (List.mem_cons_of_mem _ hq)) p hp
theorem lV:∀ds:List Deed,(dY ds).length≤ds.length
 |[]=>Nat.le_refl _
 |.find x::ds=>Nat.le_succ_of_le (lV ds)
 |.join x z::ds=>Nat.succ_le_succ (lV ds)
noncomputable def bJ:PV->Bool
 |.tup (.str x::_)=>decide (x = "join")
 |_=>false
noncomputable def gJ:PV->PV
 |.tup (_::r)=>.tup r
 |p=>p
theorem EE {ds:List Deed}:i9 (gN 0) jQ mH [none] (ds.map Deed.pv)=some (kJ (dY ds)):=by
 have d0:decide (("find" : Str) = "join")=false:=by decide
 have d1:decide (("join" : Str) = "join")=true:=by decide
 rw[gx bJ gJ fun p hp=>by
  obtain⟨d,hd,rfl⟩:=List.mem_map.mp hp
  refine⟨[some (.val d.pv)],rfl,?_,fun hb=>?_⟩
  ·have a0:∀a b:PV,L2.bQ [a,b] 0=some a:=fun _ _=>rfl
   have a1:∀a b c:PV,L2.bQ [a,b,c] 0=some a:=fun _ _ _=>rfl
   cases d<;>simp![jQ,Deed.pv,bJ,a0,a1]
  ·cases d with
   |find x=>exact absurd (show decide (("find" : Str) = "join")=true from hb) (by decide)
   |join x z=>rfl]
 refine congrArg some ?_
 induction ds with
 |nil=>rfl
 |cons d ds ih=>
  cases d with
  |find x=>
   rw[List.map_cons,List.filter_cons,show bJ (Deed.find x).pv=false from d0,if_neg Bool.false_ne_true]
   exact ih
  |join x z=>
   rw[List.map_cons,List.filter_cons,show bJ (Deed.join x z).pv=true from d1,if_pos rfl,List.map_cons,ih]
   rfl
noncomputable def gH (ds:List Deed)(os:List Nat):List Deed:=os.map fun k=>.join ((dY ds).getD k (0,0)).1 ((dY ds).getD k (0,0)).2
theorem so (ds:List Deed):∀os:List Nat,dY (gH ds os)=os.map fun k=>(dY ds).getD k (0,0)
 |[]=>rfl
 |k::os=>by
  show (_,_)::dY (gH ds os)=_
  rw[so ds os];rfl
theorem Az {ds:List Deed}{os:List Nat}(hp:os.Perm (List.range (dY ds).length))(p:Nat×Nat):p∈dY (gH ds os)↔p∈dY ds:=by
 rw[so]
 constructor
 ·intro h
  obtain⟨k,hk,rfl⟩:=List.mem_map.mp h
  have hk:=List.mem_range.mp (hp.subset hk)
  rw[List.getD_eq_getElem?_getD,List.getElem?_eq_getElem hk]
  exact List.getElem_mem hk
 ·intro h
  obtain⟨k,hk,e⟩:=List.getElem_of_mem h
  refine List.mem_map.mpr ⟨k,hp.symm.subset (List.mem_range.mpr hk),?_⟩
  rw[List.getD_eq_getElem?_getD,List.getElem?_eq_getElem hk];exact e
theorem BS {n:Nat}{ds:List Deed}(h:∀d∈ds,Deed.ok n d){os:List Nat}(hp:os.Perm (List.range (dY ds).length)):∀d∈gH ds os,Deed.ok n d:=fun d hd=>by
 obtain⟨k,hk,rfl⟩:=List.mem_map.mp hd
 have hk:=List.mem_range.mp (hp.subset hk)
 have:=p9 h ((dY ds).getD k (0,0)) (by rw[List.getD_eq_getElem?_getD,List.getElem?_eq_getElem hk];exact List.getElem_mem hk)
 exact this
theorem AO {ps qs:List (Nat×Nat)}(h:∀p,p∈ps↔p∈qs)(a b:Nat):lB ps id a=lB ps id b↔lB qs id a=lB qs id b:=
 ⟨fun e=>mn (f:=lB qs id) ps id (fun p hp=>n4 qs id p.1 p.2 ((h p).mp hp)) (fun a b e=>congrArg _ e) a b e,fun e=>mn (f:=lB ps id) qs id (fun p hp=>n4 ps id p.1 p.2 ((h p).mpr hp)) (fun a b e=>congrArg _ e) a b e⟩
theorem pM {n:Nat}{j y:Str}(hj:j∈lE)(hy:y∈ay)(h1:1≤n)(h2:n≤40){ds ds':List Deed}(h:∀d∈ds',Deed.ok n d)(hp:∀p,p∈dY ds'↔p∈dY ds):aP n (hd (fu j y ds' (List.range n) (List.replicate n (g6 j))).1)=aP n (lB (dY ds) id):=
 nT fun a b ha hb=>((qF hj hy h1 h2 h).2.1 a b ha hb).trans (AO hp a b)
theorem wG {n:Nat}{j y:Str}(hj:j∈lE)(hy:y∈ay){us ms:List Nat}(S:Sto n us ms){x:Nat}(hx:x<n){s0 s1 s2 s3 s4 s6 s7 s8 s12 s13 s14 z15 z16 z17 z18:Option Sl} :
  ∃w16 w17 w18,fj [s0,s1,s2,s3,s4,some (.val (.lst (aB (aP n (hd us))))),s6,s7,s8,some (.val (.str j)),some (.val (.str y)),some (.val (gz j y us ms)),s12,s13,s14,some (.val (.int (x:Nat))),z16,z17,z18] =
   .nx [s0,s1,s2,s3,s4,some (.val (.lst (aB (aP n (hd us))))),s6,s7,s8,some (.val (.str j)),some (.val (.str y)),some (.val (gz j y us ms)),s12,s13,s14,some (.val (.int (x:Nat))),w16,w17,w18]:=by
 have f:=S.f
 have lu:=S.lu
 have hx':x<us.length:=by omega
 have e1:my [gz j y us ms,.tup [.str "find",.int (x:Nat)]]=some (.v (iP j y us ms (.find x))):=Fv S hj hy (d:=.find x) hx
 have bl:(cw y us x).length=n:=by rw[b0];exact lu
 have e2:aX [.tup (af (cw y us x))]=some (.n (aB (aP n (hd us)))):=by
  rw[jz (gf f hx' hy),bl]
  rw[nT (c:=hd (cw y us x)) (c':=hd us) fun a b ha hb=>by rw[ni f hx' hy (by omega),ni f hx' hy (by omega)]]
 have r1:aM (gz j y us ms) (.int 2)=some (.fz (.tup (af us))):=rfl
 have r2:aM (gz j y (cw y us x) ms) (.int 2)=some (.fz (.tup (af (cw y us x)))):=rfl
 have eh:=vi f hx'
 have ew:=tm (p:=.tup (af us)) (.inl rfl) f hx'
 have d1:decide (((hd us x:Nat):Int)=((hd us x:Nat):Int))=true:=decide_eq_true rfl
 have p1:=eN (aP n (hd us))
 have p2:decide (bp (aB (aP n (hd us)))≤49)=true:=decide_eq_true (by have:=gG (aP n (hd us));omega)
 have hw:1≤(way us x).length:=List.length_pos_iff.mpr (aC f.fst hx').ne
 have dd:decide (((stp y us x:Nat):Int)=((way us x).length:Nat) - 1)=decide (stp y us x=dp us x):=decide_eq_decide.mpr (by unfold dp;omega)
 obtain⟨b,eb,hb⟩:∃b,pin (.str y) [.str "none",.str "whole",.str "one"]=b/\(b=true->stp y us x=dp us x):=by
  refine⟨_,rfl,fun h=>?_⟩
  unfold pin at h
  simp only[List.any_cons,fL,List.any_nil,Bool.or_false,Bool.or_eq_true,decide_eq_true_eq] at h
  unfold stp
  rcases h with h|h|h<;>subst h<;>rw[if_neg (by decide)]
 refine⟨some (.val (gz j y (cw y us x) ms)),some (.val (.int (hd us x:Nat))),some (.val (.int (stp y us x:Nat))),?_⟩
 have tv:iP j y us ms (.find x)=.tup [gz j y (cw y us x) ms,.int (hd us x:Nat),.int (stp y us x:Nat)]:=rfl
 cases b with
 |true=>
  have d2:=dd.trans (decide_eq_true (hb rfl))
  simp![fj,e1,tv,r1,r2,eh,d1,e2,p1,p2,cK p1,eb,ew,d2]
 |false=>
  simp![fj,e1,tv,r1,r2,eh,d1,e2,p1,p2,cK p1,eb]
theorem pe {n:Nat}{j y:Str}(hj:j∈lE)(hy:y∈ay){us ms:List Nat}(S:Sto n us ms){s0 s1 s2 s3 s4 s6 s7 s8 s12 s13 s14:Option Sl}:∀(ks:List Nat) (z15 z16 z17 z18:Option Sl),(∀k∈ks,k<n) →
  ∃w15 w16 w17 w18,aQ (gN 15) fj (af ks) [s0,s1,s2,s3,s4,some (.val (.lst (aB (aP n (hd us))))),s6,s7,s8,some (.val (.str j)),some (.val (.str y)),some (.val (gz j y us ms)),s12,s13,s14,z15,z16,z17,z18] =
   .nx [s0,s1,s2,s3,s4,some (.val (.lst (aB (aP n (hd us))))),s6,s7,s8,some (.val (.str j)),some (.val (.str y)),some (.val (gz j y us ms)),s12,s13,s14,w15,w16,w17,w18]
 |[],z15,z16,z17,z18,_=>⟨z15,z16,z17,z18,rfl⟩
 |k::ks,z15,z16,z17,z18,h=>by
  obtain⟨a16,a17,a18,e1⟩:=wG hj hy S (h k List.mem_cons_self) (s0:=s0) (s1:=s1) (s2:=s2) (s3:=s3) (s4:=s4) (s6:=s6) (s7:=s7) (s8:=s8) (s12:=s12) (s13:=s13) (s14:=s14) (z15:=z15) (z16:=z16) (z17:=z17) (z18:=z18)
  obtain⟨w15,w16,w17,w18,e2⟩:=pe hj hy S (s0:=s0) (s1:=s1) (s2:=s2) (s3:=s3) (s4:=s4) (s6:=s6) (s7:=s7) (s8:=s8) (s12:=s12) (s13:=s13) (s14:=s14) ks (some (.val (.int (k:Nat)))) a16 a17 a18 fun q hq=>h q (List.mem_cons_of_mem _ hq)
  refine⟨w15,w16,w17,w18,?_⟩
  show aQ (gN 15) fj (.int (k:Nat)::af ks) _=_
  rw[cV]
  simp![e1]
  exact e2
theorem m9:∀l:List Bool,aq (l.map PV.bl)=true
 |[]=>by simp only[List.map_nil,aq]
 |a::l=>by rw[List.map_cons,aq,m9 l,Bool.and_true];exact Eq.trans rfl rfl
theorem rg:∀l:List Bool,bp (l.map PV.bl)=0
 |[]=>by simp only[List.map_nil,bp]
 |a::l=>by rw[List.map_cons,bp,rg l,show dep (PV.bl a)=0 from Eq.trans rfl rfl];rfl
theorem CC {n:Nat}{j y:Str}(hj:j∈lE)(hy:y∈ay)(h1:1≤n)(h2:n≤40){ds:List Deed}(hd':∀d∈ds,Deed.ok n d):i9 (gN 0) hX ic [none,some (.val (.lst (oG j y ds (List.range n) (List.replicate n (g6 j))))),some (.val (.tup (ds.map Deed.pv)))] (af (List.range ds.length))=some ((i5 ds id).map PV.bl):=by
 have S:Sto n (List.range n) (List.replicate n (g6 j)):=⟨bD h1 h2,List.length_range ..,List.length_replicate ..⟩
 have hl:=wk (j:=j) (y:=y) ds (List.range n) (List.replicate n (g6 j))
 generalize hA:oG j y ds (List.range n) (List.replicate n (g6 j))=as at hl
 rw[gx (fun p=>match p with|.int k=>FW (ds.getD k.toNat (.find 0))|_=>false) (fun p=>match p with|.int k=>as.getD k.toNat .non|p=>p) fun p hp=>by
  obtain⟨k,hk,rfl⟩:=List.mem_map.mp hp
  have hk:=List.mem_range.mp hk
  refine⟨[some (.val (.int (k:Nat))),some (.val (.lst as)),some (.val (.tup (ds.map Deed.pv)))],rfl,?_,fun _=>?_⟩
  ·have e1:L2.bQ (ds.map Deed.pv) ((k:Nat):Int)=some (ds[k]).pv:=Dp.cX (by rw[List.getElem?_map,List.getElem?_eq_getElem hk];rfl)
   have a0:∀a b:PV,L2.bQ [a,b] 0=some a:=fun _ _=>rfl
   have a1:∀a b c:PV,L2.bQ [a,b,c] 0=some a:=fun _ _ _=>rfl
   have eg:ds.getD k (.find 0)=ds[k]:=by rw[List.getD_eq_getElem?_getD,List.getElem?_eq_getElem hk];rfl
   show hX _=some (FW (ds.getD k (.find 0)))
   rw[eg]
   have d0:decide (("find" : Str) = "join")=false:=by decide
   have d1:decide (("join" : Str) = "join")=true:=by decide
   generalize ds[k]=d at e1
   cases d<;>simp![hX,Deed.pv,FW,e1,a0,a1,d0,d1]
  ·have hk':k<as.length:=by omega
   have e1:L2.bQ as ((k:Nat):Int)=some as[k]:=Dp.cX (List.getElem?_eq_getElem hk')
   have eg:as.getD k .non=as[k]:=by rw[List.getD_eq_getElem?_getD,List.getElem?_eq_getElem hk'];rfl
   show ((ic _).bind RV.fr)=some (as.getD k .non)
   rw[eg]
   simp![ic,e1]]
 have z:=sC FW (.find 0) PV.non ds as hl
 rw[←hA,(qF hj hy h1 h2 hd').2.2,sZ ds _ _ id S hd' (Hz h1 h2)] at z
 rw[←z]
 refine congrArg some ?_
 unfold af
 rw[List.filter_map,List.map_map,←(qF hj hy h1 h2 hd').2.2,hA]
 rfl
theorem turn {n:Nat}{j y:Str}(hj:j∈lE)(hy:y∈ay)(h1:1≤n)(h2:n≤40){ds:List Deed}(hd':∀d∈ds,Deed.ok n d)(hl:ds.length≤60){os:List Nat}(hp:os.Perm (List.range (dY ds).length)){s0 s1 s4 s7 z11 z12 z13 z14 z15 z16 z17 z18:Option Sl} :
  ∃w11 w12 w13 w14 w15 w16 w17 w18,gj [s0,s1,some (.val (.int (n:Nat))),some (.val (.tup (ds.map Deed.pv))),s4,some (.val (.lst (aB (aP n (lB (dY ds) id))))),some (.val (.lst ((i5 ds id).map PV.bl))),s7,some (.val (.tup ((gH ds os).map Deed.pv))),some (.val (.str j)),some (.val (.str y)),z11,z12,z13,z14,z15,z16,z17,z18] =
   .nx [s0,s1,some (.val (.int (n:Nat))),some (.val (.tup (ds.map Deed.pv))),s4,some (.val (.lst (aB (aP n (lB (dY ds) id))))),some (.val (.lst ((i5 ds id).map PV.bl))),s7,some (.val (.tup ((gH ds os).map Deed.pv))),some (.val (.str j)),some (.val (.str y)),w11,w12,w13,w14,w15,w16,w17,w18]:=by
 have S0:Sto n (List.range n) (List.replicate n (g6 j)):=⟨bD h1 h2,List.length_range ..,List.length_replicate ..⟩
 have ho:=BS hd' hp
 have lo:(gH ds os).length≤60:=by
  have:=lV ds
  unfold gH
  rw[List.length_map,hp.length_eq,List.length_range];omega
 have en:=Hr h1 h2 hj hy
 have er:=Dj hj hy S0 hd' (by omega)
 have er2:=Dj hj hy S0 ho (by omega)
 obtain⟨J,K,B⟩:=qF hj hy h1 h2 hd'
 have S1:=kj (j:=j) hy ds _ _ S0 hd'
 have S2:=kj (j:=j) hy (gH ds os) _ _ S0 ho
 have eL:=pM hj hy h1 h2 hd' (fun p=>Iff.rfl)
 have eL2:=pM hj hy h1 h2 ho (Az hp)
 have el:=qe (y:=y) hj h2 ⟨S1,J⟩
 have e2:=jz S2.f
 rw[S2.lu,eL2] at e2
 rw[eL] at el
 have eg:=CC hj hy h1 h2 hd'
 obtain⟨ks,hk,ek⟩:=DM h2
 obtain⟨w15,w16,w17,w18,ef⟩:=pe hj hy S1 (s0:=s0) (s1:=s1) (s2:=some (.val (.int (n:Nat)))) (s3:=some (.val (.tup (ds.map Deed.pv)))) (s4:=s4) (s6:=some (.val (.lst ((i5 ds id).map PV.bl)))) (s7:=s7) (s8:=some (.val (.tup ((gH ds os).map Deed.pv)))) (s12:=some (.val (.lst (oG j y ds (List.range n) (List.replicate n (g6 j)))))) (s13:=some (.val (.lst (af (Dw j y ds (List.range n) (List.replicate n (g6 j))))))) (s14:=some (.val (.lst ((i5 ds id).map PV.bl)))) ks z15 z16 z17 z18 hk
 rw[eL] at ef
 refine⟨_,_,_,_,w15,w16,w17,w18,Eq.trans ?_ ef⟩
 have rv:BI j y ds (List.range n) (List.replicate n (g6 j))=.tup [gz j y (fu j y ds (List.range n) (List.replicate n (g6 j))).1 (fu j y ds (List.range n) (List.replicate n (g6 j))).2,.lst (oG j y ds (List.range n) (List.replicate n (g6 j))),.lst (af (Dw j y ds (List.range n) (List.replicate n (g6 j))))]:=rfl
 have rv2:aM (BI j y (gH ds os) (List.range n) (List.replicate n (g6 j))) (.int 0)=some (.fz (gz j y (fu j y (gH ds os) (List.range n) (List.replicate n (g6 j))).1 (fu j y (gH ds os) (List.range n) (List.replicate n (g6 j))).2)):=rfl
 have rs:aM (gz j y (fu j y (gH ds os) (List.range n) (List.replicate n (g6 j))).1 (fu j y (gH ds os) (List.range n) (List.replicate n (g6 j))).2) (.int 2)=some (.fz (.tup (af (fu j y (gH ds os) (List.range n) (List.replicate n (g6 j))).1))):=rfl
 have p1:=eN (aP n (lB (dY ds) id))
 have p2:decide (bp (aB (aP n (lB (dY ds) id)))≤49)=true:=decide_eq_true (by have:=gG (aP n (lB (dY ds) id));omega)
 have p3:=m9 (i5 ds id)
 have p4:decide (bp ((i5 ds id).map PV.bl)≤49)=true:=decide_eq_true (by rw[rg];omega)
 have l3:ds.length<1000:=by omega
 have r1:=(K1 (n:=ds.length) (by omega)).1
 simp![gj,en,er,rv,List.length_map,r1,cZ,List.length_range,l3,eg,p3,p4,cK p3,el,er2,rv2,rs,e2,p1,p2,cK p1,ek]
noncomputable abbrev RR (n:Nat)(ds:List Deed)(os:List Nat)(s0 s1 s4 s7 z9 z10 z11 z12 z13 z14 z15 z16 z17 z18:Option Sl):ak:=[s0,s1,some (.val (.int (n:Nat))),some (.val (.tup (ds.map Deed.pv))),s4,some (.val (.lst (aB (aP n (lB (dY ds) id))))),some (.val (.lst ((i5 ds id).map PV.bl))),s7,some (.val (.tup ((gH ds os).map Deed.pv))),z9,z10,z11,z12,z13,z14,z15,z16,z17,z18]
theorem Ar {n:Nat}{j:Str}(hj:j∈lE)(h1:1≤n)(h2:n≤40){ds:List Deed}(hd':∀d∈ds,Deed.ok n d)(hl:ds.length≤60){os:List Nat}(hp:os.Perm (List.range (dY ds).length)){s0 s1 s4 s7:Option Sl}:∀(ys:List Str) (z10 z11 z12 z13 z14 z15 z16 z17 z18:Option Sl),(∀y∈ys,y∈ay) →
  ∃w10 w11 w12 w13 w14 w15 w16 w17 w18,aQ (gN 10) gj (ys.map PV.str) (RR n ds os s0 s1 s4 s7 (some (.val (.str j))) z10 z11 z12 z13 z14 z15 z16 z17 z18)=.nx (RR n ds os s0 s1 s4 s7 (some (.val (.str j))) w10 w11 w12 w13 w14 w15 w16 w17 w18)
 |[],z10,z11,z12,z13,z14,z15,z16,z17,z18,_=>⟨z10,z11,z12,z13,z14,z15,z16,z17,z18,rfl⟩
 |y::ys,z10,z11,z12,z13,z14,z15,z16,z17,z18,h=>by
  obtain⟨a11,a12,a13,a14,a15,a16,a17,a18,e1⟩:=turn hj (h y List.mem_cons_self) h1 h2 hd' hl hp (s0:=s0) (s1:=s1) (s4:=s4) (s7:=s7) (z11:=z11) (z12:=z12) (z13:=z13) (z14:=z14) (z15:=z15) (z16:=z16) (z17:=z17) (z18:=z18)
  obtain⟨w10,w11,w12,w13,w14,w15,w16,w17,w18,e2⟩:=Ar hj h1 h2 hd' hl hp (s0:=s0) (s1:=s1) (s4:=s4) (s7:=s7) ys (some (.val (.str y))) a11 a12 a13 a14 a15 a16 a17 a18 fun q hq=>h q (List.mem_cons_of_mem _ hq)
  refine⟨w10,w11,w12,w13,w14,w15,w16,w17,w18,?_⟩
  rw[List.map_cons,cV]
  simp![e1]
  exact e2
theorem mi {n:Nat}(h1:1≤n)(h2:n≤40){ds:List Deed}(hd':∀d∈ds,Deed.ok n d)(hl:ds.length≤60){os:List Nat}(hp:os.Perm (List.range (dY ds).length)){s0 s1 s4 s7:Option Sl}:∀(js:List Str) (z9 z10 z11 z12 z13 z14 z15 z16 z17 z18:Option Sl),(∀j∈js,j∈lE) →
  ∃w9 w10 w11 w12 w13 w14 w15 w16 w17 w18,aQ (gN 9) gw (js.map PV.str) (RR n ds os s0 s1 s4 s7 z9 z10 z11 z12 z13 z14 z15 z16 z17 z18)=.nx (RR n ds os s0 s1 s4 s7 w9 w10 w11 w12 w13 w14 w15 w16 w17 w18)
 |[],z9,z10,z11,z12,z13,z14,z15,z16,z17,z18,_=>⟨z9,z10,z11,z12,z13,z14,z15,z16,z17,z18,rfl⟩
 |j::js,z9,z10,z11,z12,z13,z14,z15,z16,z17,z18,h=>by
  obtain⟨a10,a11,a12,a13,a14,a15,a16,a17,a18,e1⟩:=Ar (h j List.mem_cons_self) h1 h2 hd' hl hp (s0:=s0) (s1:=s1) (s4:=s4) (s7:=s7) ["none","whole","halves","splits","one"] z10 z11 z12 z13 z14 z15 z16 z17 z18 (by decide)
  have e1:aQ (gN 10) gj [.str "none",.str "whole",.str "halves",.str "splits",.str "one"] (RR n ds os s0 s1 s4 s7 (some (.val (.str j))) z10 z11 z12 z13 z14 z15 z16 z17 z18)=_:=e1
  obtain⟨w9,w10,w11,w12,w13,w14,w15,w16,w17,w18,e2⟩:=mi h1 h2 hd' hl hp (s0:=s0) (s1:=s1) (s4:=s4) (s7:=s7) js (some (.val (.str j))) a10 a11 a12 a13 a14 a15 a16 a17 a18 fun q hq=>h q (List.mem_cons_of_mem _ hq)
  refine⟨w9,w10,w11,w12,w13,w14,w15,w16,w17,w18,?_⟩
  rw[List.map_cons,cV]
  simp![gw,e1]
  exact e2
noncomputable def gO (xs:List Nat)(k:Nat):Int:=((k:Int)+1) * ((up xs 1:Int)+(k:Int)) % 7919
theorem Ad:∀ns:List Int,ns.length≤63->uP [.src (ns.map PV.int)]=some (.v (.bl true)):=fun ns hn=>by
 obtain⟨c,ec⟩:=qi ns 0 (by decide) (by decide)
 obtain⟨xs,hx,ex⟩:=iY c 4 (by decide) (by decide)
 have hx:xs.length=4:=hx
 obtain⟨n,h1,h2,em⟩:=Cu (up xs 0)
 obtain⟨ds,hd',hl,ed⟩:=AF ns (at':=2) (m:=60) h1 h2 (by decide) (by decide)
 have ed:cQ [.src (iL ns),.int 2,.int (n:Nat),.int 60]=some (.v (.tup (ds.map Deed.pv))):=ed
 have hm:=lV ds
 have i0:L2.bQ (af xs) 0=some (.int (up xs 0:Nat)):=am (x:=0) (by omega)
 have i1:L2.bQ (af xs) 1=some (.int (up xs 1:Nat)):=am (x:=1) (by omega)
 have eb:=wS h2 (p9 hd')
 have eu:=Iy h2 hd' (by omega)
 have eo:=tN (gO xs) (dY ds).length (by omega)
 have hp:=kx (gO xs) (dY ds).length
 have g3:i9 (gN 0) eD jY [none,some (.val (.lst (af xs)))] (af (List.range (dY ds).length))=some (xu (gO xs) (List.range (dY ds).length)):=by
  rw[iS (fun k=>PV.tup [.int (gO xs k),.int (k:Nat)]) fun k hk=>by
   have hk:=List.mem_range.mp hk
   have o1:((k:Int)+1).natAbs<2 ^ 64:=by omega
   simp![jY,i1,gO,o1,true_or,if_true]]
  rfl
 have g4:i9 (gN 0) eD jM [none] (xu (gO xs) (qG (gO xs) (dY ds).length))=some (af (qG (gO xs) (dY ds).length)):=wX _ _ fun a b=>by
  have a1:∀a b:PV,L2.bQ [a,b] 1=some b:=fun _ _=>rfl
  simp![jM,a1]
 have g5:i9 (gN 0) eD j5 [none,some (.val (.lst (kJ (dY ds))))] (af (qG (gO xs) (dY ds).length))=some ((gH ds (qG (gO xs) (dY ds).length)).map Deed.pv):=by
  rw[iS (fun k=>(Deed.join ((dY ds).getD k (0,0)).1 ((dY ds).getD k (0,0)).2).pv) fun k hk=>by
   have hk:=List.mem_range.mp (hp.subset hk)
   have e1:L2.bQ (kJ (dY ds)) ((k:Nat):Int)=some (.tup [.int (((dY ds).getD k (0,0)).1:Nat),.int (((dY ds).getD k (0,0)).2:Nat)]):=Dp.cX (by
    unfold kJ
    rw[List.getElem?_map,List.getElem?_eq_getElem hk,List.getD_eq_getElem?_getD,List.getElem?_eq_getElem hk];rfl)
   simp![j5,e1];rfl]
  unfold gH
  rw[List.map_map];rfl
 obtain⟨w9,w10,w11,w12,w13,w14,w15,w16,w17,w18,e⟩:=mi h1 h2 hd' hl hp (s0:=some (.val (.src (iL ns)))) (s1:=some (.val (.lst (af xs)))) (s4:=some (.val (.lst (kJ (dY ds))))) (s7:=some (.val (.lst (af (qG (gO xs) (dY ds).length))))) ["size","rank","told","names"] none none none none none none none none none none (by decide)
 have e:aQ (gN 9) gw [.str "size",.str "rank",.str "told",.str "names"] _=_:=e
 have pl:(kJ (dY ds)).length=(dY ds).length:=List.length_map ..
 have r1:=(K1 (n:=(dY ds).length) (by omega)).1
 have l1:ds.length<1000:=by omega
 have l2:(dY ds).length<1000:=by omega
 have lo:=AN (gO xs) (dY ds).length
 have lp:(xu (gO xs) (qG (gO xs) (dY ds).length)).length=(dY ds).length:=by rw[vc,lo]
 show uP [.src (iL ns)]=_
 simp![B3,qy,jQ,mH,jY,jM,j5,hX,ic,fj,gj,gw,ec,ex,i0,em,ed,List.length_map,l1,EE,eb,eu,pl,r1,cZ,List.length_range,l2,g3,eo,lp,g4,lo,g5,e]
end K16
end
section
def PySem.W.Fast.tw2193448570552617153 : Unit := ()
def PySem.W.Fast.tw16332213600414607343 : Unit := ()
def PySem.W.Fast.tw14964221384110723434 : Unit := ()
def PySem.W.Fast.tw7937468509004268314 : Unit := ()
def PySem.W.Fast.tw15992152030709132036 : Unit := ()
def PySem.W.Fast.tw3875161014443316477 : Unit := ()
def PySem.W.Fast.tw10806114888450108207 : Unit := ()
def PySem.W.Fast.tw3284087019612101318 : Unit := ()
def PySem.W.Fast.tw14468996245259348935 : Unit := ()
def PySem.W.Fast.tw14053149642380028948 : Unit := ()
def PySem.W.Fast.tw12041258648730714478 : Unit := ()
def PySem.W.Fast.tw13487054969527636080 : Unit := ()
def PySem.W.Fast.tw10988371040936396807 : Unit := ()
def PySem.W.Fast.tw9965299177962990437 : Unit := ()
def PySem.W.Fast.tw8525167644590696667 : Unit := ()
def PySem.W.Fast.tw6213182538791207042 : Unit := ()
def PySem.W.Fast.tw9118592997005277047 : Unit := ()
def PySem.W.Fast.tw9705239737748838387 : Unit := ()
def PySem.W.Fast.tw4280744315796757658 : Unit := ()
def PySem.W.Fast.tw3950159929400841231 : Unit := ()
def PySem.W.Fast.tw13566436022612576526 : Unit := ()
def PySem.W.Fast.tw8197520644268265916 : Unit := ()
def PySem.W.Fast.tw15745185134165992971 : Unit := ()
def PySem.W.Fast.tw13243954869816026515 : Unit := ()
def PySem.W.Fast.tw17295554572324074869 : Unit := ()
def PySem.W.Fast.tw4640088604559354164 : Unit := ()
def PySem.W.Fast.tw1594762066186414296 : Unit := ()
def PySem.W.Fast.tw8252206860434575265 : Unit := ()
def PySem.W.Fast.tw17770800927172665822 : Unit := ()
def PySem.W.Fast.tw11634821889678886372 : Unit := ()
def PySem.W.Fast.tw18113819795188837094 : Unit := ()
def PySem.W.Fast.tw13249671796585346162 : Unit := ()
def PySem.W.Fast.tw16369972376680610721 : Unit := ()
def PySem.W.Fast.tw12343733400189336666 : Unit := ()
def PySem.W.Fast.tw2692162152701076529 : Unit := ()
def PySem.W.Fast.tw4688394795243017322 : Unit := ()
def PySem.W.Fast.tw6592763029135825471 : Unit := ()
def PySem.W.Fast.tw124586289328163890 : Unit := ()
def PySem.W.Fast.tw11134901987526474964 : Unit := ()
def PySem.W.Fast.tw13960831828011561805 : Unit := ()
def PySem.W.Fast.tw9501089420164324991 : Unit := ()
def PySem.W.Fast.tw13005813376945549896 : Unit := ()
def PySem.W.Fast.tw17279812534647280650 : Unit := ()
def PySem.W.Fast.tw2701514167892920148 : Unit := ()
def PySem.W.Fast.tw6261848756234728348 : Unit := ()
def PySem.W.Fast.tw6234987133309130159 : Unit := ()
def PySem.W.Fast.tw2647140088934145722 : Unit := ()
def PySem.W.Fast.tw16341517022346526088 : Unit := ()
def PySem.W.Fast.tw2062343044245521638 : Unit := ()
def PySem.W.Fast.tw7485488725158624389 : Unit := ()
def PySem.W.Fast.tw16338176902896808979 : Unit := ()
def PySem.W.Fast.tw5227131465391113251 : Unit := ()
def PySem.W.Fast.tw2353020436010115656 : Unit := ()
def PySem.W.Fast.tw10659105984337364318 : Unit := ()
def PySem.W.Fast.tw17194016182493542580 : Unit := ()
def PySem.W.Fast.tw10834703021044322176 : Unit := ()
def PySem.W.Fast.tw12611421636920522922 : Unit := ()
def PySem.W.Fast.tw10835238428475925631 : Unit := ()
def PySem.W.Fast.tw14497511445252063203 : Unit := ()
def PySem.W.Fast.tw11930134625800087170 : Unit := ()
def PySem.W.Fast.tw18428925651461343929 : Unit := ()
def PySem.W.Fast.tw1766469250740637940 : Unit := ()
def PySem.W.Fast.tw7123184058608590292 : Unit := ()
def PySem.W.Fast.tw5430265358985508569 : Unit := ()
def PySem.W.Fast.tw15906262654807354915 : Unit := ()
def PySem.W.Fast.tw12063054118582906478 : Unit := ()
def PySem.W.Fast.tw14733287804047952500 : Unit := ()
def PySem.W.Fast.tw3178689274026265835 : Unit := ()
def PySem.W.Fast.tw10877668529865102724 : Unit := ()
def PySem.W.Fast.tw13529663521070531963 : Unit := ()
def PySem.W.Fast.tw16276860689842773294 : Unit := ()
def PySem.W.Fast.tw4147210569573439704 : Unit := ()
def PySem.W.Fast.tw8228191449814849651 : Unit := ()
def PySem.W.Fast.tw9327411396641097672 : Unit := ()
def PySem.W.Fast.tw46201972999885020 : Unit := ()
def PySem.W.Fast.tw571474790180468068 : Unit := ()
def PySem.W.Fast.tw9001234239632560781 : Unit := ()
def PySem.W.Fast.tw1891925292723193725 : Unit := ()
def PySem.W.Fast.tw17062757687307731270 : Unit := ()
def PySem.W.Fast.tw12902233616258194965 : Unit := ()
def PySem.W.Fast.tw18398800246949204147 : Unit := ()
def PySem.W.Fast.tw18016030685536914653 : Unit := ()
def PySem.W.Fast.tw15104868832301269220 : Unit := ()
def PySem.W.Fast.tw4162430319252992299 : Unit := ()
def PySem.W.Fast.tw14013523065087146914 : Unit := ()
def PySem.W.Fast.tw16351339348547823004 : Unit := ()
def PySem.W.Fast.tw16309061224459599604 : Unit := ()
def PySem.W.Fast.tw15150228761045182455 : Unit := ()
def PySem.W.Fast.tw15492016528972319745 : Unit := ()
def PySem.W.Fast.tw4811524630494105595 : Unit := ()
def PySem.W.Fast.tw9197083660215637781 : Unit := ()
def PySem.W.Fast.tw11415697124237296878 : Unit := ()
def PySem.W.Fast.tw7995173920148790328 : Unit := ()
def PySem.W.Fast.tw8500050108873556195 : Unit := ()
def PySem.W.Fast.tw11871083765290247174 : Unit := ()
def PySem.W.Fast.tw3505252195054774133 : Unit := ()
def PySem.W.Fast.tw67020686830360871 : Unit := ()
def PySem.W.Fast.tw1683525732834183981 : Unit := ()
def PySem.W.Fast.tw4551207884107184499 : Unit := ()
def PySem.W.Fast.tw11230846604861130066 : Unit := ()
def PySem.W.Fast.tw8877846273103905875 : Unit := ()
def PySem.W.Fast.tw10736097590112322301 : Unit := ()
def PySem.W.Fast.tw2470967943681781850 : Unit := ()
def PySem.W.Fast.tw18248948983256349643 : Unit := ()
def PySem.W.Fast.tw16373090143541660975 : Unit := ()
def PySem.W.Fast.tw2336999298077585368 : Unit := ()
def PySem.W.Fast.tw15600811206500006223 : Unit := ()
def PySem.W.Fast.tw13510252757789120171 : Unit := ()
def PySem.W.Fast.tw3437100272983130330 : Unit := ()
def PySem.W.Fast.tw8561270354649114091 : Unit := ()
def PySem.W.Fast.tw416111136664935413 : Unit := ()
def PySem.W.Fast.tw6686994246530042495 : Unit := ()
def PySem.W.Fast.tw13799128441472728967 : Unit := ()
def PySem.W.Fast.tw13010035336505244470 : Unit := ()
def PySem.W.Fast.tw14647232166689145890 : Unit := ()
def PySem.W.Fast.tw9985482761969399618 : Unit := ()
def PySem.W.Fast.tw13691657156840322775 : Unit := ()
def PySem.W.Fast.tw1382686628526591939 : Unit := ()
def PySem.W.Fast.tw3484369613647400186 : Unit := ()
def PySem.W.Fast.tw12359720361537143345 : Unit := ()
def PySem.W.Fast.tw3478660217616143295 : Unit := ()
def PySem.W.Fast.tw3888820729828288933 : Unit := ()
def PySem.W.Fast.tw13072824084395961332 : Unit := ()
def PySem.W.Fast.tw1668347166838271851 : Unit := ()
def PySem.W.Fast.tw4482096079867517364 : Unit := ()
def PySem.W.Fast.tw556549590840850552 : Unit := ()
def PySem.W.Fast.tw6285844014388431877 : Unit := ()
def PySem.W.Fast.tw10998186982024569081 : Unit := ()
def PySem.W.Fast.tw16421091105389041622 : Unit := ()
def PySem.W.Fast.tw8300440281628073414 : Unit := ()
def PySem.W.Fast.tw9122392737925814878 : Unit := ()
def PySem.W.Fast.tw15935137942860824107 : Unit := ()
def PySem.W.Fast.tw11673683273119007480 : Unit := ()
def PySem.W.Fast.tw6458158921728185610 : Unit := ()
def PySem.W.Fast.tw943622329001665055 : Unit := ()
def PySem.W.Fast.tw9149784296904649540 : Unit := ()
def PySem.W.Fast.tw14455265449190368183 : Unit := ()
def PySem.W.Fast.tw7461220862570971356 : Unit := ()
def PySem.W.Fast.tw9836726079429916704 : Unit := ()
def PySem.W.Fast.tw1443802705400903086 : Unit := ()
def PySem.W.Fast.tw11814907258001196738 : Unit := ()
def PySem.W.Fast.tw17933697064591328160 : Unit := ()
def PySem.W.Fast.tw14377227840119827726 : Unit := ()
def PySem.W.Fast.tw4661532112302331377 : Unit := ()
def PySem.W.Fast.tw13984913731725808238 : Unit := ()
def PySem.W.Fast.tw3572620622206535189 : Unit := ()
def PySem.W.Fast.tw12625815536956951230 : Unit := ()
def PySem.W.Fast.tw4554871706943653487 : Unit := ()
def PySem.W.Fast.tw1190563664341817630 : Unit := ()
def PySem.W.Fast.tw7210695426207178374 : Unit := ()
def PySem.W.Fast.tw2209691657073525625 : Unit := ()
def PySem.W.Fast.tw17006131518497052881 : Unit := ()
def PySem.W.Fast.tw13340931994258829760 : Unit := ()
def PySem.W.Fast.tw14950002699433075504 : Unit := ()
def PySem.W.Fast.tw7133123051479697359 : Unit := ()
def PySem.W.Fast.tw12144364110388791693 : Unit := ()
def PySem.W.Fast.tw12335511726931637000 : Unit := ()
def PySem.W.Fast.tw1719065681172007623 : Unit := ()
def PySem.W.Fast.tw8188773377781752819 : Unit := ()
def PySem.W.Fast.tw16849568810201614864 : Unit := ()
def PySem.W.Fast.tw9551317605017523286 : Unit := ()
def PySem.W.Fast.tw15635546721126954840 : Unit := ()
def PySem.W.Fast.tw17540491270695246105 : Unit := ()
def PySem.W.Fast.tw5900906870524935363 : Unit := ()
def PySem.W.Fast.tw8514361937807664724 : Unit := ()
def PySem.W.Fast.tw4163781444729500217 : Unit := ()
def PySem.W.Fast.tw12837080237788956752 : Unit := ()
def PySem.W.Fast.tw14216803158695069506 : Unit := ()
def PySem.W.Fast.tw7979308631621903991 : Unit := ()
def PySem.W.Fast.tw9099689079305781744 : Unit := ()
def PySem.W.Fast.tw11198709098379687128 : Unit := ()
def PySem.W.Fast.tw4030789686549266942 : Unit := ()
def PySem.W.Fast.tw9743491388818729907 : Unit := ()
def PySem.W.Fast.tw15824426773026095741 : Unit := ()
def PySem.W.Fast.tw10392339690292043612 : Unit := ()
def PySem.W.Fast.tw17840017427411148853 : Unit := ()
def PySem.W.Fast.tw11126767303944195844 : Unit := ()
def PySem.W.Fast.tw436256441306878026 : Unit := ()
def PySem.W.Fast.tw942763424753638903 : Unit := ()
def PySem.W.Fast.tw7459630083562518504 : Unit := ()
def PySem.W.Fast.tw12275092851469376351 : Unit := ()
def PySem.W.Fast.tw7371453150716642313 : Unit := ()
def PySem.W.Fast.tw4420876752003407726 : Unit := ()
def PySem.W.Fast.tw12894824131392987380 : Unit := ()
def PySem.W.Fast.tw9461675455596786280 : Unit := ()
def PySem.W.Fast.tw12738574608202916984 : Unit := ()
def PySem.W.Fast.tw18332549568214234728 : Unit := ()
def PySem.W.Fast.tw11290175953871096407 : Unit := ()
def PySem.W.Fast.tw10269839492852128370 : Unit := ()
def PySem.W.Fast.tw6080702472978199243 : Unit := ()
def PySem.W.Fast.tw6632197085558176914 : Unit := ()
def PySem.W.Fast.tw2108144685753731151 : Unit := ()
def PySem.W.Fast.tw16813395333002853565 : Unit := ()
def PySem.W.Fast.tw7242889277167554474 : Unit := ()
def PySem.W.Fast.tw4580430593527587895 : Unit := ()
def PySem.W.Fast.tw4169829786694881981 : Unit := ()
def PySem.W.Fast.tw14412532853790806388 : Unit := ()
def PySem.W.Fast.tw8224846954933416812 : Unit := ()
def PySem.W.Fast.tw13650089718367709349 : Unit := ()
def PySem.W.Fast.tw2099139601273404486 : Unit := ()
def PySem.W.Fast.tw17903868993753379391 : Unit := ()
def PySem.W.Fast.tw9936090958621759291 : Unit := ()
def PySem.W.Fast.tw16253789781731641522 : Unit := ()
def PySem.W.Fast.tw10321971073849814770 : Unit := ()
def PySem.W.Fast.tw12274864358886083292 : Unit := ()
def PySem.W.Fast.tw2362152714998849658 : Unit := ()
def PySem.W.Fast.tw375299035022788962 : Unit := ()
def PySem.W.Fast.tw5164359474602488858 : Unit := ()
def PySem.W.Fast.tw945482432232544557 : Unit := ()
def PySem.W.Fast.tw8532462185351833135 : Unit := ()
def PySem.W.Fast.tw14562582805502357742 : Unit := ()
def PySem.W.Fast.tw9615732349505668751 : Unit := ()
def PySem.W.Fast.tw14836170883756005871 : Unit := ()
def PySem.W.Fast.tw7409393676178025004 : Unit := ()
def PySem.W.Fast.tw1382811439585123898 : Unit := ()
def PySem.W.Fast.tw2026837812116161874 : Unit := ()
def PySem.W.Fast.tw12635036659757643865 : Unit := ()
def PySem.W.Fast.tw16897036453438525321 : Unit := ()
def PySem.W.Fast.tw1295677334365832563 : Unit := ()
def PySem.W.Fast.tw14361193693307693434 : Unit := ()
def PySem.W.Fast.tw15797322125919752526 : Unit := ()
def PySem.W.Fast.tw7353999997395324032 : Unit := ()
def PySem.W.Fast.tw9740958112072747202 : Unit := ()
def PySem.W.Fast.tw11831479413527371350 : Unit := ()
def PySem.W.Fast.tw3885006335873807366 : Unit := ()
def PySem.W.Fast.tw10488108036648198177 : Unit := ()
def PySem.W.Fast.tw11844846965743853635 : Unit := ()
def PySem.W.Fast.tw12730512254396321674 : Unit := ()
def PySem.W.Fast.tw1365759561023090537 : Unit := ()
def PySem.W.Fast.tw16768014101680209473 : Unit := ()
def PySem.W.Fast.tw4385611559695738211 : Unit := ()
def PySem.W.Fast.tw10439492511521775297 : Unit := ()
def PySem.W.Fast.tw15982550888635495523 : Unit := ()
def PySem.W.Fast.tw3675074261728988218 : Unit := ()
def PySem.W.Fast.tw651812115233847989 : Unit := ()
def PySem.W.Fast.tw7975873400163563631 : Unit := ()
def PySem.W.Fast.tw11972903676838135799 : Unit := ()
def PySem.W.Fast.tw1442553406478123492 : Unit := ()
def PySem.W.Fast.tw14835926986340431468 : Unit := ()
def PySem.W.Fast.tw15466559630673998450 : Unit := ()
def PySem.W.Fast.tw6480169521111672291 : Unit := ()
def PySem.W.Fast.tw7749208292094124474 : Unit := ()
def PySem.W.Fast.tw11217064850706325371 : Unit := ()
def PySem.W.Fast.tw15241233930011220585 : Unit := ()
def PySem.W.Fast.tw306953397345733005 : Unit := ()
def PySem.W.Fast.tw4982234422153269663 : Unit := ()
def PySem.W.Fast.tw6722018874842347705 : Unit := ()
def PySem.W.Fast.tw5424617912855229483 : Unit := ()
def PySem.W.Fast.tw9072555868728810111 : Unit := ()
def PySem.W.Fast.tw10187941295977961288 : Unit := ()
def PySem.W.Fast.tw10310114928931978586 : Unit := ()
def PySem.W.Fast.tw10711724161122076270 : Unit := ()
def PySem.W.Fast.tw1092865561019395434 : Unit := ()
def PySem.W.Fast.tw11283153352198049275 : Unit := ()
def PySem.W.Fast.tw11340860746826076549 : Unit := ()
def PySem.W.Fast.tw11873378581589987041 : Unit := ()
def PySem.W.Fast.tw12252682099881385664 : Unit := ()
def PySem.W.Fast.tw12424537905893414812 : Unit := ()
def PySem.W.Fast.tw12780821716564485100 : Unit := ()
def PySem.W.Fast.tw13031740158652493195 : Unit := ()
def PySem.W.Fast.tw13211593467448571048 : Unit := ()
def PySem.W.Fast.tw13266502645602617383 : Unit := ()
def PySem.W.Fast.tw13445046130147252866 : Unit := ()
def PySem.W.Fast.tw1366836242986951035 : Unit := ()
def PySem.W.Fast.tw13739773305875634233 : Unit := ()
def PySem.W.Fast.tw13857108687644667310 : Unit := ()
def PySem.W.Fast.tw14129926478310110446 : Unit := ()
def PySem.W.Fast.tw14131765308858865668 : Unit := ()
def PySem.W.Fast.tw1414792167421750523 : Unit := ()
def PySem.W.Fast.tw1436118727446599168 : Unit := ()
def PySem.W.Fast.tw14439069848740635097 : Unit := ()
def PySem.W.Fast.tw14536712830131022892 : Unit := ()
def PySem.W.Fast.tw14735295066409477948 : Unit := ()
def PySem.W.Fast.tw14750355766835112815 : Unit := ()
def PySem.W.Fast.tw14804079452810549835 : Unit := ()
def PySem.W.Fast.tw15134819872975546228 : Unit := ()
def PySem.W.Fast.tw15297150180358295321 : Unit := ()
def PySem.W.Fast.tw15302217816390224047 : Unit := ()
def PySem.W.Fast.tw15480302862793164468 : Unit := ()
def PySem.W.Fast.tw15487440970880445841 : Unit := ()
def PySem.W.Fast.tw1575865844665894478 : Unit := ()
def PySem.W.Fast.tw16202171556335801424 : Unit := ()
def PySem.W.Fast.tw16213170434555871674 : Unit := ()
def PySem.W.Fast.tw16385396895331366610 : Unit := ()
def PySem.W.Fast.tw16418712279095213700 : Unit := ()
def PySem.W.Fast.tw17447854618573839967 : Unit := ()
def PySem.W.Fast.tw17591650570387857242 : Unit := ()
def PySem.W.Fast.tw17708623823926697819 : Unit := ()
def PySem.W.Fast.tw17715350603381034308 : Unit := ()
def PySem.W.Fast.tw17963708826043303203 : Unit := ()
def PySem.W.Fast.tw18125740210514460896 : Unit := ()
def PySem.W.Fast.tw224460176290173593 : Unit := ()
def PySem.W.Fast.tw2549826140860883541 : Unit := ()
def PySem.W.Fast.tw2697544518345662337 : Unit := ()
def PySem.W.Fast.tw2945078531055985742 : Unit := ()
def PySem.W.Fast.tw3122260437606475778 : Unit := ()
def PySem.W.Fast.tw3511724327022239070 : Unit := ()
def PySem.W.Fast.tw3599487035714511449 : Unit := ()
def PySem.W.Fast.tw3789210073817182331 : Unit := ()
def PySem.W.Fast.tw3826857969925949590 : Unit := ()
open PySem PySem.W PyProof.Rows
set_option maxRecDepth 100000 in
set_option maxHeartbeats 0 in
theorem PySem.Challenge.cw_lotheads_k16_whole_heads_and_lots_holds : PySem.Challenge.rw_lotheads_k16_whole_heads_and_lots.Holds := by
 w_on;o_law;k_head;(case hw=>w_witness2)
 k_fill
 refine Dp.HM (k:=8) (by decide) (l:=PySem.Challenge.rw_lotheads_k16_whole_heads_and_lots) rfl rfl (fun w h Y=>PySem.W.kIn_of Y) K16.Ad ?F
 case F=>
  intro w mg fa h KX G hmg
  refine' K16.EG KX G hmg ?a0 ?a1 ?a2 ?a3 ?a4 ?a5 ?a6 ?a7 ?a8 ?a9 ?a10 ?a11 ?a12 ?a13 ?a14 ?a15 ?a16 ?a17 ?a18 ?a19 ?a20 ?a21 ?a22 ?a23 ?a24 ?a25 ?a26 ?a27 ?a28 ?a29 ?a30 ?a31 ?a32 ?a33 ?a34 ?a35 ?a36 ?a37 ?a38 ?z_abs ?z_all ?z_bool ?z_enumerate ?z_int ?z_isinstance ?z_len ?z_list ?z_max ?z_min ?z_range ?z_sorted ?z_str ?z_tuple ?z_is_pair ?z_is_telling ?z_is_tie ?y_MOST_THINGS ?yk0 ?lk0 ?yk1 ?Hn ?sk1 ?yk2 ?HA ?sk2
  (case a0=>apply Dp.gR<;>k_is)
  (case a1=>apply Dp.gR<;>k_is)
  (case a2=>apply Dp.gR<;>k_is)
  (case a3=>apply Dp.gR<;>k_is)
  (case a4=>apply Dp.gR<;>k_is)
  (case a5=>apply Dp.gR<;>k_is)
  (case a6=>apply Dp.gR<;>k_is)
  (case a7=>apply Dp.gR<;>k_is)
  (case a8=>apply Dp.gR<;>k_is)
  (case a9=>apply Dp.gR<;>k_is)
  (case a10=>apply Dp.gR<;>k_is)
  (case a11=>apply Dp.gR<;>k_is)
  (case a12=>apply Dp.gR<;>k_is)
  (case a13=>apply Dp.gR<;>k_is)
  (case a14=>apply Dp.gR<;>k_is)
  (case a15=>apply Dp.gR<;>k_is)
  (case a16=>apply Dp.gR<;>k_is)
  (case a17=>apply Dp.gR<;>k_is)
  (case a18=>apply Dp.gR<;>k_is)
  (case a19=>apply Dp.gR<;>k_is)
  (case a20=>apply Dp.gR<;>k_is)
  (case a21=>apply Dp.gR<;>k_is)
  (case a22=>apply Dp.gR<;>k_is)
  (case a23=>apply Dp.gR<;>k_is)
  (case a24=>apply Dp.gR<;>k_is)
  (case a25=>apply Dp.gR<;>k_is)
  (case a26=>apply Dp.gR<;>k_is)
  (case a27=>apply Dp.gR<;>k_is)
  (case a28=>apply Dp.gR<;>k_is)
  (case a29=>apply Dp.gR<;>k_is)
  (case a30=>apply Dp.gR<;>k_is)
  (case a31=>apply Dp.gR<;>k_is)
  (case a32=>apply Dp.gR<;>k_is)
  (case a33=>apply Dp.gR<;>k_is)
  (case a34=>apply Dp.gR<;>k_is)
  (case a35=>apply Dp.gR<;>k_is)
  (case a36=>apply Dp.gR<;>k_is)
  (case a37=>apply Dp.gR<;>k_is)
  (case a38=>apply Dp.gR<;>k_is)
  (case z_abs=>k_is)
  (case z_all=>k_is)
  (case z_bool=>k_is)
  (case z_enumerate=>k_is)
  (case z_int=>k_is)
  (case z_isinstance=>k_is)
  (case z_len=>k_is)
  (case z_list=>k_is)
  (case z_max=>k_is)
  (case z_min=>k_is)
  (case z_range=>k_is)
  (case z_sorted=>k_is)
  (case z_str=>k_is)
  (case z_tuple=>k_is)
  (case z_is_pair=>k_is)
  (case z_is_telling=>k_is)
  (case z_is_tie=>k_is)
  (case y_MOST_THINGS=>k_is)
  (case yk0=>k_is)
  (case lk0=>k_is)
  (case yk1=>k_is)
  (case Hn=>k_is)
  (case sk1=>rfl)
  (case yk2=>k_is)
  (case HA=>k_is)
  (case sk2=>rfl)
end
