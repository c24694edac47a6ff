import PyProof.Rows.All
import Wide.All
import OpenK.AllK
import Wide.FinOn
import Lean
import PyProof.EqAt
import PyProof.EqKinds
import PyProof.TupleCall
import PyProof.NeKinds
import KE.KSortTup
import PyProof.TableCode
import PyProof.EnumFor
import PyProof.EnumMake
import PyProof.EnumStmt
import PyProof.TupleOfStr
import PyProof.Draws
import PyProof.TupleIter
import KE.KMinKey
import OpenK.KLine
import PySem.Challenge.RW_lotheads_k61_whole_narrowest_roads
open Option renaming bind_eq_some_iff→a0a,map_eq_some_iff→a0d,isSome_iff_exists→a2a,bind_some→a4c,map_some→a5q,isSome_map→a6a,getD_none→a6b
open Bool renaming and_eq_true→a0b,false_ne_true→a0u,false_eq_true→a1z,not_eq_true'→a2e,eq_iff_iff→a2h,true_and→a3i,or_eq_true→a4n,and_false→a5k,not_false→a5m,and_self→a5t,not_true→a5v
open List renaming mem_cons_of_mem→a0c,mem_cons_self→a0e,getElem?_eq_getElem→a0f,mem_singleton→a0g,size_toArray→a0h,length_map→a0i,getElem?_eq_some_iff→a0j,getElem?_set_ne→a0k,range→a0l,getD_eq_getElem?_getD→a0m,mem_append_right→a0o,length_cons→a0p,getElem?_map→a0q,replicate→a0r,mem_cons→a0s,length_append→a0t,length_range→a0v,mem_append→a0w,map_append→a0x,getElem?_set_self→a0y,mem_range→a0z,mem_map→a1a,mem_append_left→a1b,map_congr_left→a1c,map_map→a1d,mem_map_of_mem→a1f,map_cons→a1g,all_cons→a1h,mem_of_getElem?→a1i,length_set→a1l,length_singleton→a1m,nodup_cons→a1n,length_replicate→a1p,lookup_cons→a1q,append_nil→a1s,nodup_append→a1t,mem_filter→a1u,take_of_length_le→a1v,getElem_mem→a1w,append_assoc→a1x,getElem?_append_right→a1y,getElem?_append_left→a2b,getElem?_set→a2d,length_nil→a2f,drop_eq_nil_of_le→a2i,getElem?_range→a2k,nil_append→a2l,pairwise_iff_getElem→a2m,length_drop→a2n,map_nil→a2o,not_mem_nil→a2q,length_eq_zero_iff→a2t,getElem?_replicate→a2v,getLast?_cons_cons→a2w,replicate_succ→a2x,range_succ_eq_map→a2y,length_take→a2z,length_filter_le→a3a,any_map→a3c,nodup_iff_pairwise_ne→a3d,drop_eq_getElem_cons→a3e,filterMap_cons→a3g,length_reverse→a3h,getElem_of_mem→a3k,mem_flatMap→a3l,any_eq_true→a3m,cons_append→a3n,getElem?_cons_succ→a3o,filter_cons_of_neg→a3p,mem_filterMap→a3r,getElem_range→a3s,zip_cons_cons→a3t,eraseIdxIfInBounds_toArray→a3u,flatten_cons→a3w,reverse_cons→a3x,pairwise_map→a3y,getElem?_eq_none→a3z,dropLast_concat_getLast→a4a,all_eq_true→a4d,ext_getElem→a4e,getElem_map→a4f,isEmpty_nil→a4h,idxOf_lt_length_of_mem→a4i,mem_reverse→a4j,perm_ext_iff_of_nodup→a4l,any_cons→a4o,mem_of_find?_eq_some→a4q,getElem?_eq_none_iff→a4r,range_succ→a4s,exists_mem_of_ne_nil→a4t,getElem?_take→a4u,filter_append→a4w,map_id→a4x,lookup→a4y,filter_cons_of_pos→a4z,flatMap_cons→a5a,getElem_inj→a5b,filter_cons→a5c,getLast?_reverse→a5d,of_mem_zip→a5e,forIn_cons→a5f,find?_cons→a5g,dropLast_concat→a5h,mem_of_getLast?→a5i,range_eq_range'→a5j,mapM_cons→a5l,filterMap_map→a5n,pairwise_cons→a5o,getLastD_cons→a5p,map_take→a5u,filter_congr→a5w,foldl_append→a5x,foldl→a6c
open Nat renaming le_refl→a0n,lt_of_lt_of_le→a1e,ne_of_lt→a1j,lt_irrefl→a1k,le_trans→a1r,lt_succ_self→a2j,not_lt_zero→a2p,zero_add→a2u,zero_le→a3b,le_of_lt→a3f,mod_lt→a3q,lt_succ_of_lt→a3v,lt_of_le_of_lt→a4k,lt_or_eq_of_le→a4m,le_of_lt_succ→a4v,mul_comm→a5s,sub_self→a5y,le_succ→a5z
open Int renaming toNat_natCast→a1o,le_refl→a2c,toNat_of_nonneg→a2g,le_antisymm→a2r,emod_nonneg→a2s,emod_lt_of_pos→a3j,ofNat→a4b,fdiv_eq_ediv_of_nonneg→a4g,le_trans→a4p,ediv_one→a5r
set_option Elab.async false
set_option linter.all false
set_option maxRecDepth 100000
namespace L2
open PySem PySem.Spec PyProof.Rows
noncomputable abbrev cR:=Sum Int Str
noncomputable def nY:cR->Value->Bool
 |.inl k,v=>Value.isInt k v
 |.inr x,v=>Value.isStrOf x v
noncomputable def Qw (w:World):cR->Int
 |.inl k=>hashInt k
 |.inr x=>hashStr w x
theorem cK:∀{k:cR} {v:Value},nY k v=true->(∃i t,k=Sum.inl i/\v=Value.int i t)\/(∃x t,k=Sum.inr x/\v=Value.str x t)
 |.inl i,v,h=>by
  obtain⟨t,e⟩:=Value.isInt_shape (k:=i) (v:=v) h
  exact .inl ⟨i,t,rfl,e⟩
 |.inr x,v,h=>by
  obtain⟨t,e⟩:=Value.isStrOf_shape (x:=x) (v:=v) h
  exact .inr ⟨x,t,rfl,e⟩
theorem Bi (i:Int)(t:Tok):nY (.inl i) (.int i t)=true:=by simp[nY,Value.isInt]
theorem AQ (x:Str)(t:Tok):nY (.inr x) (.str x t)=true:=by simp[nY,Value.isStrOf]
theorem Jt (a b:Int):decide ((Sum.inl a:cR)=Sum.inl b)=(a==b):=by
 by_cases e:a=b
 ·subst e;simp
 ·have h:¬(Sum.inl a:cR)=Sum.inl b:=λq=>e (Sum.inl.inj q)
  rw[decide_eq_false h]
  exact (beq_eq_false_iff_ne.mpr e).symm
theorem JZ (a b:Str):decide ((Sum.inr a:cR)=Sum.inr b)=decide (a=b):=by
 by_cases e:a=b
 ·subst e;simp
 ·have h:¬(Sum.inr a:cR)=Sum.inr b:=λq=>e (Sum.inr.inj q)
  rw[decide_eq_false h,decide_eq_false e]
theorem J9 (a:Int)(b:Str):decide ((Sum.inl a:cR)=Sum.inr b)=false:=decide_eq_false (λq=>nomatch q)
theorem JW (a:Str)(b:Int):decide ((Sum.inr a:cR)=Sum.inl b)=false:=decide_eq_false (λq=>nomatch q)
noncomputable def bB (prog:Program)(w:World):PySem.KeyKind prog w cR where
 is:=nY
 hash:=Qw w
 inj:=λv a b ha hb=>by
  rcases cK ha with ⟨i,t,rfl,rfl⟩|⟨x,t,rfl,rfl⟩
  ·rcases cK hb with ⟨j,u,rfl,e⟩|⟨y,u,rfl,e⟩
   ·injection e with e1 _;rw[e1]
   ·exact nomatch e
  ·rcases cK hb with ⟨j,u,rfl,e⟩|⟨y,u,rfl,e⟩
   ·exact nomatch e
   ·injection e with e1 _;rw[e1]
 byValue:=λk v h=>by
  rcases cK h with ⟨i,t,rfl,rfl⟩|⟨x,t,rfl,rfl⟩<;>rfl
 pyHash:=λhv h=>by
  rcases cK hv with ⟨i,t,rfl,rfl⟩|⟨x,t,rfl,rfl⟩
  ·exact wpAny_pyHash_int h
  ·exact wpAny_pyHash_str h
 eqBool:=λhu hv h=>by
  rcases cK hu with ⟨i,t,rfl,rfl⟩|⟨x,t,rfl,rfl⟩
  ·rcases cK hv with ⟨j,u,rfl,rfl⟩|⟨y,u,rfl,rfl⟩
   ·rw[Jt] at h;exact wpAny_eqBool_int h
   ·rw[J9] at h;exact SeqAt.EqAt.int_str i t y u _ _ _ _ h
  ·rcases cK hv with ⟨j,u,rfl,rfl⟩|⟨y,u,rfl,rfl⟩
   ·rw[JW] at h;exact SeqAt.EqAt.str_int x t j u _ _ _ _ h
   ·rw[JZ] at h;exact wpAny_eqBool_str h
 «strs»:=λk x t v h=>by
  rcases cK h with ⟨i,u,rfl,e⟩|⟨y,u,rfl,e⟩
  ·exact nomatch e
  ·injection e with e1 _
   subst e1
   cases v<;>rfl
theorem vN (prog:Program)(w:World)(i:Int)(t:Tok):(bB prog w).is (.inl i) (.int i t)=true:=Bi i t
theorem kI (prog:Program)(w:World)(x:Str)(t:Tok):(bB prog w).is (.inr x) (.str x t)=true:=AQ x t
end L2
namespace L2
open PySem PySem.Spec PyProof.Rows
inductive V where
 |non|bl (b:Bool)|int (i:Int)|str (x:Str)|byt (b:Array UInt8)|flt (b:UInt64)|ref (a:Addr)|ty (n:String)
 deriving DecidableEq
noncomputable def iC:V->Value->Prop
 |.non,u=>u=Value.none
 |.bl b,u=>u=Value.bool b
 |.int i,u=>∃t,u=Value.int i t
 |.str x,u=>∃t,u=Value.str x t
 |.byt b,u=>∃t,u=Value.bytes b t
 |.flt b,u=>∃t,u=Value.float b t
 |.ref a,u=>u=Value.ref a
 |.ty n,u=>u=Value.type n
noncomputable abbrev Vals:List V->List Value->Prop:=Paired iC
theorem Vals.length {xs:List V}{us:List Value}(r:Vals xs us):xs.length=us.length:=Paired.length r
theorem Vals.get:∀{xs:List V} {us:List Value} {i:Nat} {x:V},Vals xs us->xs[i]?=some x->∃u,us[i]?=some u/\iC x u
 |_,_,_,_,.nil,e=>by simp at e
 |_,_,0,_,.cons r _,e=>by simp at e;subst e;exact⟨_,rfl,r⟩
 |_,_,i+1,x,.cons _ t,e=>by
  obtain⟨u,h1,h2⟩:=Vals.get (i:=i) (x:=x) t (by simpa using e)
  exact⟨u,by simpa using h1,h2⟩
noncomputable def Nb:Option V->Option Value->Prop
 |some v,some u=>iC v u
 |none,none=>True
 |_,_=>False
noncomputable def KV {κ:Type}:List (κ×V)->List (κ×Value)->Prop:=Paired λ(p:κ×V) (q:κ×Value)=>p.1=q.1/\iC p.2 q.2
noncomputable def kV:cR->V
 |.inl i=>.int i
 |.inr x=>.str x
inductive HO where
 |lst (xs:List V)
 |tup (xs:List V)
 |dK (kvs:List (cR×V))|dT (kvs:List (List cR×V))
 |set (S:Int->Bool) (n:Nat)
 |ins (C dx:Addr) (fs:List (Str×V))
 |own (x:Addr)
 |xd (fs:List (Str×V))
 |met (f x:Addr)
 |rng (lo hi:Int)
 |frz (o:Obj) (u:HO)
 |tbl (ps:Array Value)
 |ext (φ:Heap->Prop)
noncomputable abbrev Hp:=Addr->Option HO
noncomputable def eE (H:Hp)(a:Addr)(o:HO):Hp:=λb=>if b=a then some o else H b
theorem bV {H:Hp}{a:Addr}{o:HO}:eE H a o a=some o:=by unfold eE;rw[if_pos rfl]
theorem aX {H:Hp}{a b:Addr}{o:HO}(h:b≠a):eE H a o b=H b:=by unfold eE;rw[if_neg h]
section
variable (P:Program)(w:World)
noncomputable def ObjOk (H:Hp)(h:Heap)(a:Addr):HO->Prop
 |.lst xs=>xs.length<=sizeLine/\∃(its:List Value) (n:Nat),Vals xs its/\h.get? a=some { cls:=.type "list",data:=.seq its.toArray n }
 |.tup xs=>xs.length<=sizeLine/\∃its:List Value,Vals xs its/\IsTup h a its.toArray
 |.dK kvs=>kvs.length<=sizeLine/\(a==sysModules)=false/\∃vs,KV kvs vs/\h.DictOf (bB P w) a vs
 |.dT kvs=>kvs.length<=sizeLine/\(a==sysModules)=false/\∃xs:List (List cR×Addr×Value),
   Paired (λ(p:List cR×V) (q:List cR×Addr×Value)=>p.1=q.1/\H q.2.1=some (.tup (p.1.map kV))/\iC p.2 q.2.2) kvs xs ∧
   ∃o es ep,h.get? a=some o/\o.ExactDict/\o.data=.dict es ep/\es.toList=xs.map (entryOfKey (tupleKind (bB P w)))/\(xs.map (·.1)).Nodup
 |.set S n=>h.SetOf (intKind P w) a S n
 |.ins C dx fs=>H dx=some (.own a)/\fs.length<=1000/\dx≠a/\h.get? a=some (PySem.W.instObj C dx) ∧
   ∃mA,h.Ns1 dx mA/\(∀f,Nb (fs.lookup f) (mA f))/\PySem.Within mA (fs.map (·.1))
 |.own _=>∃o,h.get? a=some o
 |.xd fs=>∃mA,h.Ns1 a mA/\∀f,Nb (fs.lookup f) (mA f)
 |.rng lo hi=>∃t u v,h.get? a=some { cls:=.type "range",data:=.fields #[.int lo t,.int hi u,.int 1 v] }
 |.frz o u=>h.get? a=some o/\ObjOk H h a u
 |.tbl ps=>h.get? a=some { cls:=.none,data:=.fields ps }
 |.met f x=>h.get? a=some (PySem.W.methodObj (.ref f) (.ref x))
 |.ext φ=>φ h/\(∃o,h.get? a=some o)/\∀h1 h2:Heap,φ h1->(∀o,h1.get? a=some o->h2.get? a=some o)->φ h2
noncomputable def HOk (H:Hp)(h:Heap):Prop:=∀a o,H a=some o->ObjOk P w H h a o
end
section
variable {P:Program}{w:World}{H H':Hp}{h h':Heap}{a:Addr}{o:HO}
theorem ObjOk.lt (x:ObjOk P w H h a o):a<h.objs.size:=by
 cases o with
 |lst xs=>obtain⟨_,_,_,_,e⟩:=x;exact Heap.lt_size e
 |tup xs=>obtain⟨_,_,_,p⟩:=x;exact p.lt
 |dK kvs=>obtain⟨_,_,_,_,o,_,_,e,_⟩:=x;exact Heap.lt_size e
 |dT kvs=>obtain⟨_,_,_,_,o,_,_,e,_⟩:=x;exact Heap.lt_size e
 |set S n=>obtain⟨o,_,_,_,e,_⟩:=x;exact Heap.lt_size e
 |ins C dx fs=>obtain⟨_,_,_,e,_⟩:=x;exact Heap.lt_size e
 |own y=>obtain⟨_,e⟩:=x;exact Heap.lt_size e
 |xd fs=>obtain⟨_,⟨_,_,_,e,_⟩,_⟩:=x;exact Heap.lt_size e
 |rng lo hi=>obtain⟨_,_,_,e⟩:=x;exact Heap.lt_size e
 |frz ob u=>obtain⟨e,_⟩:=x;exact Heap.lt_size e
 |tbl ps=>exact Heap.lt_size (show h.get? a=some _ from x)
 |met f y=>exact Heap.lt_size (show h.get? a=some _ from x)
 |ext φ=>obtain⟨_,⟨_,e⟩,_⟩:=x;exact Heap.lt_size e
theorem Paired.mapP {α β:Type}{F G:α->β->Prop}:∀{l₁:List α} {l₂:List β},Paired F l₁ l₂->(∀a b,F a b->G a b)->Paired G l₁ l₂
 |_,_,.nil,_=>.nil
 |_,_,.cons r t,f=>.cons (f _ _ r) (Paired.mapP t f)
theorem ObjOk.stay (x:ObjOk P w H h a o)(k:∀b u,(b=a\/H b=some (.own a))->h.get? b=some u->h'.get? b=some u)
  (ho:∀b,H b=some (.own a)->H' b=some (.own a)) (ht:∀b xs,H b=some (.tup xs)->H' b=some (.tup xs)):ObjOk P w H' h' a o:=by
 induction o with
 |lst xs=>obtain⟨z,its,n,r,e⟩:=x;exact⟨z,its,n,r,k _ _ (.inl rfl) e⟩
 |tup xs=>obtain⟨z,its,r,ob,e,c⟩:=x;exact⟨z,its,r,ob,k _ _ (.inl rfl) e,c⟩
 |dK kvs=>obtain⟨z,y,vs,r,ob,es,ep,e,c⟩:=x;exact⟨z,y,vs,r,ob,es,ep,k _ _ (.inl rfl) e,c⟩
 |dT kvs=>
  obtain⟨z,y,xs,r,ob,es,ep,e,c⟩:=x
  exact⟨z,y,xs,Paired.mapP r λp q z=>⟨z.1,ht _ _ z.2.1,z.2.2⟩,ob,es,ep,k _ _ (.inl rfl) e,c⟩
 |set S n=>obtain⟨ob,es,ep,t,e,c⟩:=x;exact⟨ob,es,ep,t,k _ _ (.inl rfl) e,c⟩
 |ins C dx fs=>
  obtain⟨d,z,ne,e,mA,⟨od,es,ep,e2,c⟩,r⟩:=x
  exact⟨ho _ d,z,ne,k _ _ (.inl rfl) e,mA,⟨od,es,ep,k _ _ (.inr d) e2,c⟩,r⟩
 |own y=>obtain⟨ob,e⟩:=x;exact⟨ob,k _ _ (.inl rfl) e⟩
 |xd fs=>obtain⟨mA,⟨od,es,ep,e,c⟩,r⟩:=x;exact⟨mA,⟨od,es,ep,k _ _ (.inl rfl) e,c⟩,r⟩
 |rng lo hi=>obtain⟨t,u,v,e⟩:=x;exact⟨t,u,v,k _ _ (.inl rfl) e⟩
 |frz ob u ih=>obtain⟨e,q⟩:=x;exact⟨k _ _ (.inl rfl) e,ih q⟩
 |tbl ps=>
  have e:h.get? a=some { cls:=.none,data:=.fields ps }:=x
  show h'.get? a=some { cls:=.none,data:=.fields ps }
  exact k a _ (.inl rfl) e
 |met f y=>
  have e:h.get? a=some (PySem.W.methodObj (.ref f) (.ref y)):=x
  show h'.get? a=some (PySem.W.methodObj (.ref f) (.ref y))
  exact k a _ (.inl rfl) e
 |ext φ=>obtain⟨p,⟨o,e⟩,st⟩:=x;exact⟨st _ _ p λo q=>k _ _ (.inl rfl) q,⟨o,k _ _ (.inl rfl) e⟩,st⟩
theorem HOk.lt (x:HOk P w H h)(e:H a=some o):a<h.objs.size:=(x a o e).lt
theorem HOk.fresh (x:HOk P w H h)(e:h.objs.size<=a):H a=none:=by
 cases q:H a with
 |none=>rfl
 |some u=>exact absurd (a1e (x.lt q) e) (a1k _)
theorem HOk.kept (x:HOk P w H h)(k:∀b u,h.get? b=some u->h'.get? b=some u):HOk P w H h':=λa o e=>
 (x a o e).stay (λb u _ q=>k b u q) (λ_ q=>q) λ_ _ q=>q
end
noncomputable def Rd (H:Hp)(a:Addr)(u:HO):Prop:=H a=some u\/∃o,H a=some (.frz o u)
noncomputable def Pa:Option HO->Prop
 |some (.lst _)=>True
 |some (.dK _)=>True
 |some (.dT _)=>True
 |some (.set _ _)=>True
 |some (.ins _ _ _)=>True
 |some (.ext _)=>True
 |_=>False
section
variable {P:Program}{w:World}{H:Hp}{h h':Heap}{x e:Addr}{o':HO}
theorem HOk.write (ok:HOk P w H h)(mu:Pa (H x))(he:e=x\/H e=some (.own x))(k:∀b u,b≠e->h.get? b=some u->h'.get? b=some u)(heo:∃u,h'.get? e=some u)
  (new:ObjOk P w (eE H x o') h' x o'):HOk P w (eE H x o') h':=λb u q=>by
 have nown:∀c y,H c=some (.own y)->c≠x:=λc y r z=>by subst z;rw[r] at mu;exact mu
 have ntup:∀c xs,H c=some (.tup xs)->c≠x:=λc xs r z=>by subst z;rw[r] at mu;exact mu
 by_cases hb:b=x
 ·subst hb;rw[bV] at q;cases q;exact new
 ·rw[aX hb] at q
  by_cases hbe:b=e
  ·have q':H b=some (.own x):=by
    rcases he with z|z
    ·exact absurd (hbe.trans z) hb
    ·rw[hbe];exact z
   rw[q] at q';cases q'
   obtain⟨v,hv⟩:=heo
   exact⟨v,by rw[hbe];exact hv⟩
  ·refine (ok b u q).stay (λc v hc r=>k c v ?_ r) (λc r=>by rw[aX (nown c b r)];exact r) λc xs r=>by rw[aX (ntup c xs r)];exact r
   rcases hc with rfl|hc
   ·exact hbe
   ·rintro rfl
    rcases he with z|z
    ·exact nown c b hc z
    ·rw[hc] at z;cases z;exact hb rfl
end
structure Un (fs ex:List Addr)(H H':Hp)(h h':Heap):Prop where
 keep:∀b o,h.get? b=some o->H b=none->b∉fs->b∉ex->h'.get? b=some o
 slot:∀b o,h.get? b=some o->H b=none->b∈fs->b∉ex->∃sl,h'.get? b=some { o with slots:=sl }
 free:∀b o,h.get? b=some o->H b=none->b∉ex->H' b=none
 there:∀b o,h.get? b=some o->b∉ex->∃o',h'.get? b=some o'
 tups:∀b xs,H b=some (.tup xs)->H' b=some (.tup xs)
 frzs:∀b o u,H b=some (.frz o u)->H' b=some (.frz o u)
 tbls:∀b ps,H b=some (.tbl ps)->∃more,H' b=some (.tbl (ps++more))
section
variable {fs fs' ex ex':List Addr}{H H1 H2:Hp}{h h1 h2 h':Heap}{a x e:Addr}{o:HO}
theorem Un.any (u:Un fs ex H H1 h h1){b:Addr}{ob:Obj}(q:h.get? b=some ob)(n:H b=none)(hx:b∉ex):∃sl,h1.get? b=some { ob with slots:=sl }:=by
 by_cases hb:b∈fs
 ·exact u.slot b ob q n hb hx
 ·exact⟨ob.slots,u.keep b ob q n hb hx⟩
theorem Un.kept (k:∀b u,h.get? b=some u->h'.get? b=some u):Un fs ex H H h h':=
 ⟨λb ob q _ _ _=>k b ob q,λb ob q _ _ _=>⟨ob.slots,k b ob q⟩,λ_ _ _ n _=>n,λb ob q _=>⟨ob,k b ob q⟩,λ_ _ q=>q,λ_ _ _ q=>q,λ_ ps q=>⟨#[],by rw[q];simp⟩⟩
theorem Un.write (mu:Pa (H x))(he:e=x\/H e=some (.own x))(k:∀b u,b≠e->h.get? b=some u->h'.get? b=some u)(heo:∃u,h'.get? e=some u):Un fs ex H (eE H x o) h h':=by
 have hx:∀b,H b=none->b≠x:=λb n z=>by subst z;rw[n] at mu;exact mu
 have hb:∀b,H b=none->b≠e:=λb n z=>by
  subst z
  rcases he with r|r
  ·exact hx b n r
  ·rw[n] at r;cases r
 have hm:∀b u,H b=some u->¬Pa (some u)->b≠x:=λb u q nm z=>by subst z;rw[q] at mu;exact nm mu
 refine⟨λb u q n _ _=>k b u (hb b n) q,λb u q n _ _=>⟨u.slots,k b u (hb b n) q⟩,λb u q n _=>by rw[aX (hx b n)];exact n,λb u q _=>?_,
  λb xs q=>by rw[aX (hm b _ q λz=>z)];exact q,λb u xs q=>by rw[aX (hm b _ q λz=>z)];exact q,λb ps q=>⟨#[],by rw[aX (hm b _ q λz=>z),q];simp⟩⟩
 by_cases hbe:b=e
 ·subst hbe;exact heo
 ·exact⟨u,k b u hbe q⟩
end
noncomputable def mM (g h:Heap)(L:Addr):List (Addr×Obj):=(a0l h.objs.size).filterMap λa=>if a=L\/(g.get? a).isSome=true then none else (h.get? a).map λo=>(a,o)
theorem oo {g h:Heap}{L a:Addr}{o:Obj}(h1:a≠L)(h2:g.get? a=none)(h3:h.get? a=some o):(a,o)∈mM g h L:=
 a3r.mpr ⟨a,a0z.mpr (Heap.lt_size h3),by simp[h1,h2,h3]⟩
theorem pJ {g h:Heap}{L:Addr}{p:Addr×Obj}(hp:p∈mM g h L):p.1≠L/\g.get? p.1=none/\h.get? p.1=some p.2:=by
 obtain⟨b,_,e⟩:=a3r.mp hp
 split at e
 ·cases e
 ·rename_i hn
  cases q:h.get? b with
  |none=>rw[q] at e;simp at e
  |some u=>
   rw[q] at e
   simp only[a5q,Option.some.injEq] at e
   subst e
   refine⟨λz=>hn (.inl z),?_,q⟩
   show g.get? b=none
   cases r:g.get? b with
   |none=>rfl
   |some v=>exact (hn (.inr (by simp[r]))).elim
noncomputable def hV (g h:Heap)(L d:Addr):List (Addr×Obj):=(mM g h L).filter λp=>decide (p.1≠d)
theorem BR {g h:Heap}{L:Addr}:News g L h (mM g h L):=λp hp=>let ⟨a,b,c⟩:=pJ hp;⟨c,a,b⟩
end L2
namespace L2
open PySem PySem.Spec PyProof.Rows
structure Mod (K:PySem.W.Frag)(mg:Str->Option Value)(base:Heap):Prop where
 kin:K.In base
 glob:base.Ns mainGlobals mg
 blt:∃mb,base.Ns builtinsNs mb/\∀x:Str,x ≠ "__name__"->mb x=bootBuiltins x
 nolimit:base.NoLimit
structure Cx where
 prog:Program
 w:World
 K:PySem.W.Frag
 mg:Str->Option Value
 base:Heap
 A:Around
 N:List Str
 s₀:Shared
 H₀:Hp
 env:Env
 outer:List Env
 stack:List Env
 ex:List Addr
 fn:Str->Bool
 calm:Bool
 pn:List (Addr×Obj)
 xe:Value->Shared->Prop
noncomputable def qr (l:List Env):List Addr:=l.filterMap (·.frame)
noncomputable abbrev Cx.fs (X:Cx):List Addr:=qr X.outer
noncomputable def qp (sc:Scope)(x:Str):Prop:=sc.names.lookup x=some .local\/sc.names.lookup x=some .cell\/sc.names.lookup x=some .free
noncomputable def QS (sc:Scope)(x:Str):Prop:=sc.names.lookup x=some .local\/sc.names.lookup x=some .cell
noncomputable def Mq (env:Env)(h:Heap)(m:Str->Option Value)(x:Str)(u:Value):Prop:=
 (env.kindOf x=some .local/\m x=some u)\/((env.kindOf x=some .cell\/env.kindOf x=some .free)/\∃c,env.cells.lookup x=some c/\h.IsCell c (some u))
structure Cx.Ok (X:Cx):Prop where
 mod:Mod X.K X.mg X.base
 kind:X.env.scope.kind=.function
 glob:X.env.globals=mainGlobals
 blt:X.env.builtins=builtinsNs
 above:X.s₀.heap.objs.size<=X.env.locals
 inj:∀x y c,X.env.cells.lookup x=some c->X.env.cells.lookup y=some c->x=y
 has:∀x,(X.env.kindOf x=some .cell\/X.env.kindOf x=some .free)->∃c,X.env.cells.lookup x=some c
 cab:∀x c,X.fn x=true->X.env.cells.lookup x=some c->X.s₀.heap.objs.size<=c
 hd:X.calm=true->X.A.handled=none
 frames:X.A.frames=some X.stack
 stk:X.stack=X.outer\/(X.stack=X.env::X.outer/\X.env.frame=some X.env.locals)
 exf:∀b∈X.ex,b≠X.env.locals/\∀x c,X.env.cells.lookup x=some c->c≠b
 bs:∀b o,X.base.get? b=some o->X.s₀.heap.get? b=some o/\X.H₀ b=none
 bsz:X.base.objs.size<=X.s₀.heap.objs.size
 noex:∀b o,X.base.get? b=some o->b∉X.ex
 exfs:∀b∈X.ex,b∉X.fs
 funs:X.s₀.heap.FunFrames X.base X.outer
 frf:∀b∈X.fs,X.H₀ b=none
structure Inv (X:Cx)(pins:List (Addr×Obj))(σ:List (Option V))(H:Hp)(s:Shared):Prop where
 ok:X.Ok
 os:s.os=X.s₀.os
 bare:AllBare s.gens
 base:Un X.fs X.ex X.H₀ H X.s₀.heap s.heap
 loc:∃m,s.heap.Ns X.env.locals m/\∀(i:Nat) (x:Str) (v:V),X.N[i]?=some x->σ[i]?=some (some v)->qp X.env.scope x->∃u,iC v u/\Mq X.env s.heap m x u
 cell:∀x c,X.env.cells.lookup x=some c->∃v,s.heap.IsCell c v
 free:H X.env.locals=none
 freeC:∀x c,X.env.cells.lookup x=some c->H c=none
 pin:∀p∈X.pn++pins,s.heap.get? p.1=some p.2/\H p.1=none/\p.1≠X.env.locals/\p.1∉X.fs/\∀v,p.2.data≠.cell v
 hok:HOk X.prog X.w H s.heap
 len:σ.length=X.N.length
section
variable {X:Cx}{pins:List (Addr×Obj)}{σ:List (Option V)}{H H':Hp}{s:Shared}{h':Heap}
theorem Cx.Ok.nofr (ok:X.Ok){b:Addr}{o:Obj}(e:X.base.get? b=some o):b∉X.fs:=λhb=>by
 have:=(ok.funs.mem hb).1
 rw[e] at this;cases this
theorem Inv.bs (I:Inv X pins σ H s):∀b o,X.base.get? b=some o->s.heap.get? b=some o/\H b=none:=λb o e=>
 ⟨I.base.keep b o (I.ok.bs b o e).1 (I.ok.bs b o e).2 (I.ok.nofr e) (I.ok.noex b o e),I.base.free b o (I.ok.bs b o e).1 (I.ok.bs b o e).2 (I.ok.noex b o e)⟩
theorem Inv.bk (I:Inv X pins σ H s):∀b o,X.base.get? b=some o->s.heap.get? b=some o:=λb o e=>(I.bs b o e).1
theorem Inv.mod (I:Inv X pins σ H s):Mod X.K X.mg X.base:=I.ok.mod
theorem Inv.kIn (I:Inv X pins σ H s):X.K.In s.heap:=I.ok.mod.kin.keeps I.bk
theorem Inv.fr (I:Inv X pins σ H s):∃m,Fr X.base X.env.locals s.heap m:=
 let ⟨m,hn,_⟩:=I.loc
 ⟨m,hn,I.bk,a1r I.ok.bsz I.ok.above⟩
theorem Inv.lt (I:Inv X pins σ H s):X.env.locals<s.heap.objs.size:=let ⟨_,hn,_⟩:=I.loc;hn.lt
theorem Inv.sz (I:Inv X pins σ H s):X.s₀.heap.objs.size<=s.heap.objs.size:=a1r I.ok.above (a3f I.lt)
theorem Inv.nofs (I:Inv X pins σ H s){a:Addr}(h:s.heap.objs.size<=a):a∉X.fs:=λhb=>by
 obtain⟨_,o,ho,_⟩:=I.ok.funs.mem hb
 exact absurd (a1e (Heap.lt_size ho) (a1r I.sz h)) (a1k _)
theorem Inv.cne (I:Inv X pins σ H s):∀x c,X.env.cells.lookup x=some c->c≠X.env.locals:=λx c e z=>by
 obtain⟨v,o,ho,hd⟩:=I.cell x c e
 obtain⟨m,⟨o',es,ep,ho',hd',_⟩,_⟩:=I.loc
 rw[z,ho'] at ho;cases ho;rw[hd'] at hd;cases hd
theorem Inv.funs (I:Inv X pins σ H s):s.heap.FunFrames X.base X.outer:=by
 have all:∀(l:List Env),(∀b∈qr l,b∈X.fs)->X.s₀.heap.FunFrames X.base l->s.heap.FunFrames X.base l:=by
  intro l
  induction l with
  |nil=>intro _ _;trivial
  |cons env r ih=>
   intro hs hl
   obtain⟨hk,⟨L,o,hf,hn,ho,hd⟩,hr⟩:=hl
   have hL:L∈X.fs:=hs L (by unfold qr;rw[a3g,hf];exact a0e)
   obtain⟨sl,e⟩:=I.base.slot L o ho (I.ok.frf L hL) hL λz=>I.ok.exfs L z hL
   exact⟨hk,⟨L,_,hf,hn,e,hd⟩,ih (λb hb=>hs b (by unfold qr;rw[a3g,hf];exact a0c _ hb)) hr⟩
 exact all X.outer (λ_ hb=>hb) I.ok.funs
theorem Inv.stack (I:Inv X pins σ H s):s.heap.FunFrames X.base X.stack:=by
 rcases I.ok.stk with e|⟨e,hf⟩
 ·rw[e];exact I.funs
 ·rw[e]
  obtain⟨m,hn,_⟩:=I.loc
  refine .cons (by rw[I.ok.kind];decide) hf hn ?_ I.funs
  exact Heap.get?_none_of_le (a1r I.ok.bsz I.ok.above)
theorem Inv.stkSub (I:Inv X pins σ H s):∀b∈qr X.stack,b∈X.env.locals::X.fs:=λb hb=>by
 rcases I.ok.stk with e|⟨e,hf⟩
 ·rw[e] at hb;exact a0c _ hb
 ·rw[e] at hb
  unfold qr at hb
  rw[a3g,hf] at hb
  exact hb
theorem Inv.stkFree (I:Inv X pins σ H s):∀b∈qr X.stack,H b=none:=λb hb=>by
 rcases a0s.mp (I.stkSub b hb) with e|hb
 ·rw[e];exact I.free
 ·obtain⟨_,o,ho,_⟩:=I.ok.funs.mem hb
  exact I.base.free b o ho (I.ok.frf b hb) λz=>I.ok.exfs b z hb
theorem Inv.step {g':Array GenState}{t':Nat}{d':Drawn}{ch:List Addr}(I:Inv X pins σ H s)
  (hch:∀b∈ch,(b∈X.ex\/X.s₀.heap.objs.size<=b)/\b≠X.env.locals/\(∀x c,X.env.cells.lookup x=some c->c≠b)/\∀p∈X.pn++pins,p.1≠b)
  (keep:∀b o,b≠X.env.locals->b∉X.fs->b∉ch->s.heap.get? b=some o->H b=none->h'.get? b=some o)
  (slot:∀b o,b≠X.env.locals->b∈X.fs->b∉ch->s.heap.get? b=some o->H b=none->∃sl,h'.get? b=some { o with slots:=sl }) (free:∀b o,b∉ch->s.heap.get? b=some o->H b=none->H' b=none)
  (there:∀b o,b∉ch->s.heap.get? b=some o->∃o',h'.get? b=some o')
  (tups:∀b xs,H b=some (.tup xs)->H' b=some (.tup xs)) (frzs:∀b o u,H b=some (.frz o u)->H' b=some (.frz o u)) (tbls:∀b ps,H b=some (.tbl ps)->∃more,H' b=some (.tbl (ps++more)))
  (ns:∀m,s.heap.Ns X.env.locals m->h'.Ns X.env.locals m) (hok:HOk X.prog X.w H' h') (hg:AllBare g') :
  Inv X pins σ H' { s with heap:=h',gens:=g',drawn:=d',toks:=t' }:=by
 have neL:∀b o,X.s₀.heap.get? b=some o->b≠X.env.locals:=λb o e=>a1j (a1e (Heap.lt_size e) I.ok.above)
 have neC:∀b o,X.s₀.heap.get? b=some o->b∉X.ex->b∉ch:=λb o e hx hb=>by
  rcases (hch b hb).1 with z|z
  ·exact hx z
  ·exact absurd (a1e (Heap.lt_size e) z) (a1k _)
 have cellK:∀x c,X.env.cells.lookup x=some c->∀v,s.heap.IsCell c v->h'.IsCell c v:=λx c e v ⟨o,ho,hd⟩=>by
  have nch:c∉ch:=λz=>(hch c z).2.2.1 x c e rfl
  by_cases hc:c∈X.fs
  ·obtain⟨sl,q⟩:=slot c o (I.cne x c e) hc nch ho (I.freeC x c e)
   exact⟨_,q,hd⟩
  ·exact⟨o,keep c o (I.cne x c e) hc nch ho (I.freeC x c e),hd⟩
 refine⟨I.ok,I.os,hg,⟨λb o e n hb hx=>?_,λb o e n hb hx=>?_,λb o e n hx=>?_,λb o e hx=>?_,λb xs e=>tups b xs (I.base.tups b xs e),λb o xs e=>frzs b o xs (I.base.frzs b o xs e),λb ps e=>?_⟩,?_,λx c e=>?_,?_,λx c e=>?_,λp hp=>?_,hok,I.len⟩
 ·exact keep b o (neL b o e) hb (neC b o e hx) (I.base.keep b o e n hb hx) (I.base.free b o e n hx)
 ·obtain⟨sl,e1⟩:=I.base.slot b o e n hb hx
  obtain⟨sl',e2⟩:=slot b _ (neL b o e) hb (neC b o e hx) e1 (I.base.free b o e n hx)
  exact⟨sl',e2⟩
 ·obtain⟨o',e1⟩:=I.base.there b o e hx
  exact free b o' (neC b o e hx) e1 (I.base.free b o e n hx)
 ·obtain⟨o',e1⟩:=I.base.there b o e hx
  exact there b o' (neC b o e hx) e1
 ·obtain⟨m1,e1⟩:=I.base.tbls b ps e
  obtain⟨m2,e2⟩:=tbls b _ e1
  exact⟨m1++m2,by rw[e2,Array.append_assoc]⟩
 ·obtain⟨m,hn,hl⟩:=I.loc
  refine⟨m,ns m hn,λi x v e1 e2 e3=>?_⟩
  obtain⟨u,r,l⟩:=hl i x v e1 e2 e3
  refine⟨u,r,?_⟩
  rcases l with l|⟨k,c,e,z⟩
  ·exact .inl l
  ·exact .inr ⟨k,c,e,cellK x c e _ z⟩
 ·obtain⟨v,z⟩:=I.cell x c e
  exact⟨v,cellK x c e v z⟩
 ·obtain⟨m,⟨o,_,_,ho,_⟩,_⟩:=I.loc
  exact free _ o (λz=>(hch _ z).2.1 rfl) ho I.free
 ·obtain⟨v,o,ho,hd⟩:=I.cell x c e
  exact free c o (λz=>(hch c z).2.2.1 x c e rfl) ho (I.freeC x c e)
 ·obtain⟨e,n,ne,nf,d⟩:=I.pin p hp
  have nch:p.1∉ch:=λz=>(hch p.1 z).2.2.2 p hp rfl
  exact⟨keep p.1 p.2 ne nf nch e n,free p.1 p.2 nch e n,ne,nf,d⟩
theorem Inv.un {t':Nat}(I:Inv X pins σ H s)(u:Un X.fs [] H H' s.heap h')(hok:HOk X.prog X.w H' h'):Inv X pins σ H' { s with heap:=h',toks:=t' }:=by
 obtain⟨m,⟨o,es,ep,ho,r⟩,_⟩:=id I.loc
 obtain⟨sl,hL⟩:=u.any ho I.free (by simp)
 exact I.step (g':=s.gens) (d':=s.drawn) (ch:=[]) (λ_ z=>nomatch z) (λb o _ hb _ e n=>u.keep b o e n hb (by simp)) (λb o _ hb _ e n=>u.slot b o e n hb (by simp)) (λb o _ e n=>u.free b o e n (by simp)) (λb o _ e=>u.there b o e (by simp)) u.tups u.frzs u.tbls (λm' hm=>by
  obtain⟨o',es',ep',ho',r'⟩:=hm
  rw[ho] at ho';cases ho'
  exact⟨_,es',ep',hL,r'⟩) hok I.bare
theorem Inv.call {g':Array GenState}{t':Nat}{d':Drawn}{ch:List Addr}(I:Inv X pins σ H s)(u:Un (qr X.stack) ch H H' s.heap h')(hok:HOk X.prog X.w H' h')(hg:AllBare g')
  (hch:∀b∈ch,(b∈X.ex\/X.s₀.heap.objs.size<=b)/\b≠X.env.locals/\(∀x c,X.env.cells.lookup x=some c->c≠b)/\∀p∈X.pn++pins,p.1≠b) :
  Inv X pins σ H' { s with heap:=h',gens:=g',drawn:=d',toks:=t' }:=by
 obtain⟨m,⟨o,es,ep,ho,r⟩,_⟩:=id I.loc
 obtain⟨sl,hL⟩:=u.any ho I.free λz=>(hch _ z).2.1 rfl
 exact I.step (ch:=ch) hch (λb o hL hb hc e n=>u.keep b o e n (λz=>(a0s.mp (I.stkSub b z)).elim hL hb) hc) (λb o _ _ hc e n=>u.any e n hc) (λb o hc e n=>u.free b o e n hc) (λb o hc e=>u.there b o e hc) u.tups u.frzs u.tbls (λm' hm=>by
  obtain⟨o',es',ep',ho',r'⟩:=hm
  rw[ho] at ho';cases ho'
  exact⟨_,es',ep',hL,r'⟩) hok hg
theorem Inv.turned {t':Nat}{it:Addr}(I:Inv X pins σ H s)(k:∀b o,b≠it->s.heap.get? b=some o->h'.get? b=some o)(hn:H it=none)(hL:it≠X.env.locals)
  (h1:it∈X.ex\/X.s₀.heap.objs.size<=it) (h2:∀x c,X.env.cells.lookup x=some c->c≠it) (h3:∀p∈X.pn++pins,p.1≠it):Inv X pins σ H { s with heap:=h',toks:=t' }:=by
 have nit:∀b u,H b=some u->b≠it:=λb u e z=>by rw[z,hn] at e;cases e
 refine I.step (g':=s.gens) (d':=s.drawn) (ch:=[it]) (λb hb=>?_) (λb o _ _ hc e _=>k b o (λz=>hc (by simp[z])) e) (λb o _ _ hc e _=>⟨o.slots,k b o (λz=>hc (by simp[z])) e⟩) (λ_ _ _ _ n=>n)
  (λb o hc e=>⟨o,k b o (λz=>hc (by simp[z])) e⟩) (λ_ _ e=>e) (λ_ _ _ e=>e) (λb ps e=>⟨#[],by rw[e];simp⟩) (λm hm=>?_) (λb u e=>?_) I.bare
 ·have e:b=it:=by simpa using hb
  subst e
  exact⟨h1,hL,h2,h3⟩
 ·obtain⟨o,es,ep,ho,r⟩:=hm
  exact⟨o,es,ep,k _ o (Ne.symm hL) ho,r⟩
 ·refine (I.hok b u e).stay (λc v hc q=>k c v ?_ q) (λ_ q=>q) λ_ _ q=>q
  rcases hc with z|z
  ·rw[z];exact nit b u e
  ·exact nit c _ z
theorem Inv.kept {t':Nat}(I:Inv X pins σ H s)(k:∀b u,s.heap.get? b=some u->h'.get? b=some u):Inv X pins σ H { s with heap:=h',toks:=t' }:=I.un (Un.kept k) (I.hok.kept k)
theorem Inv.write {x e:Addr}{o:HO}{t':Nat}(I:Inv X pins σ H s)(mu:Pa (H x))(he:e=x\/H e=some (.own x))(k:∀b u,b≠e->s.heap.get? b=some u->h'.get? b=some u)(heo:∃u,h'.get? e=some u)
  (new:ObjOk X.prog X.w (eE H x o) h' x o):Inv X pins σ (eE H x o) { s with heap:=h',toks:=t' }:=I.un (Un.write mu he k heo) (I.hok.write mu he k heo new)
theorem Inv.pins_of {pins':List (Addr×Obj)}(I:Inv X pins σ H s)(h:∀p∈pins',s.heap.get? p.1=some p.2/\H p.1=none/\p.1≠X.env.locals/\p.1∉X.fs/\∀v,p.2.data≠.cell v):Inv X pins' σ H s:=
 ⟨I.ok,I.os,I.bare,I.base,I.loc,I.cell,I.free,I.freeC,λp hp=>(a0w.mp hp).elim (λz=>I.pin p (a1b _ z)) (h p),I.hok,I.len⟩
theorem vv {N:List Str}(hN:N.Nodup){i j:Nat}{x:Str}(a:N[i]?=some x)(b:N[j]?=some x):i=j:=by
 obtain⟨h1,e1⟩:=a0j.mp a
 obtain⟨h2,e2⟩:=a0j.mp b
 exact (a5b hN).mp (e1.trans e2.symm)
theorem jo {M:Model}{A:Around}{E:Value->Shared->Prop}{i:Nat}{x:Str}{v:V}{u:Value}{Q:Unit->Shared->Prop}(I:Inv X pins σ H s)(hN:X.N.Nodup)(hi:X.N[i]?=some x)(hx:QS X.env.scope x)(r:iC v u)
  (h:∀s',Inv X pins (σ.set i (some v)) H s'->(∃a,Heap.SameBut a s.heap s'.heap/\(a=X.env.locals\/X.env.cells.lookup x=some a))->Q () s') (hf:X.fn x=true\/X.env.scope.names.lookup x=some .local:=by first|exact .inl rfl|exact .inr rfl|assumption):wpAny M A (storeName X.env x u) Q E s:=by
 obtain⟨m,hn,hl⟩:=id I.loc
 have hcls:(X.env.scope.kind==.class || (X.env.scope.kind==.module&&X.env.locals != X.env.globals))=false:=by rw[I.ok.kind];rfl
 have hiσ:i<σ.length:=by rw[I.len];exact (a0j.mp hi).1
 have cne:=I.cne
 have tracked:∀{a:Addr} {h':Heap},(∃o,s.heap.get? a=some o/\H a=none)->Heap.SameBut a s.heap h'->HOk X.prog X.w H h':=λ{a h'} ha hs b ob e=>by
  obtain⟨_,_,hfree⟩:=ha
  refine (I.hok b ob e).stay (λc w' hc q=>(hs.2 c ?_).trans q) (λ_ q=>q) λ_ _ q=>q
  rintro rfl
  rcases hc with rfl|hc
  ·rw[hfree] at e;cases e
  ·rw[hfree] at hc;cases hc
 rcases hx with hk|hk
 ·refine wpAny_storeName_local hk hn (λh' hn' hs=>?_) hcls
  obtain⟨oL,_,_,hoL,_⟩:=id hn
  refine h _ ⟨I.ok,I.os,I.bare,⟨λb o e n hb hx=>?_,λb o e n hb hx=>?_,I.base.free,λb o e hx=>?_,I.base.tups,I.base.frzs,I.base.tbls⟩,⟨_,hn',λj y v' e1 e2 e3=>?_⟩,λy c e=>?_,I.free,I.freeC,λp hp=>?_,tracked ⟨oL,hoL,I.free⟩ hs,by simpa using I.len⟩ ⟨_,hs,.inl rfl⟩
  ·exact (hs.2 b (a1j (a1e (Heap.lt_size e) I.ok.above))).trans (I.base.keep b o e n hb hx)
  ·obtain⟨sl,e1⟩:=I.base.slot b o e n hb hx
   exact⟨sl,(hs.2 b (a1j (a1e (Heap.lt_size e) I.ok.above))).trans e1⟩
  ·obtain⟨o',e1⟩:=I.base.there b o e hx
   exact⟨o',(hs.2 b (a1j (a1e (Heap.lt_size e) I.ok.above))).trans e1⟩
  ·by_cases hj:j=i
   ·subst hj
    rw[hi] at e1;cases e1
    rw[a0y hiσ] at e2
    cases e2
    exact⟨u,r,.inl ⟨hk,by simp⟩⟩
   ·rw[a0k (Ne.symm hj)] at e2
    obtain⟨u',r',q⟩:=hl j y v' e1 e2 e3
    refine⟨u',r',?_⟩
    rcases q with ⟨k,e⟩|⟨k,c,e,z⟩
    ·refine .inl ⟨k,?_⟩
     have:y≠x:=λe=>hj (vv hN e1 (e▸hi))
     simp[this,e]
    ·exact .inr ⟨k,c,e,z.sameBut hs (cne y c e)⟩
  ·obtain⟨w',z⟩:=I.cell y c e
   exact⟨w',z.sameBut hs (cne y c e)⟩
  ·obtain⟨e,n,ne,nf,d⟩:=I.pin p hp
   exact⟨(hs.2 p.1 ne).trans e,n,ne,nf,d⟩
 ·have hfn:X.fn x=true:=by
   rcases hf with z|z
   ·exact z
   ·rw[z] at hk;cases hk
  obtain⟨c,hc⟩:=I.ok.has x (.inl hk)
  obtain⟨w',z⟩:=I.cell x c hc
  refine wpAny_storeName_cell I.ok.kind hk hc z (λh' hc' hs=>?_)
  obtain⟨oc,hoc,hocd⟩:=id z
  refine h { s with heap:=h' } ⟨I.ok,I.os,I.bare,⟨λb o e n hb hx=>?_,λb o e n hb hx=>?_,I.base.free,λb o e hx=>?_,I.base.tups,I.base.frzs,I.base.tbls⟩,⟨m,hn.sameBut hs (Ne.symm (cne x c hc)),λj y v' e1 e2 e3=>?_⟩,λy c' e=>?_,I.free,I.freeC,λp hp=>?_,tracked ⟨oc,hoc,I.freeC x c hc⟩ hs,by simpa using I.len⟩ ⟨c,hs,.inr hc⟩
  ·exact (hs.2 b (a1j (a1e (Heap.lt_size e) (I.ok.cab x c hfn hc)))).trans (I.base.keep b o e n hb hx)
  ·obtain⟨sl,e1⟩:=I.base.slot b o e n hb hx
   exact⟨sl,(hs.2 b (a1j (a1e (Heap.lt_size e) (I.ok.cab x c hfn hc)))).trans e1⟩
  ·obtain⟨o',e1⟩:=I.base.there b o e hx
   exact⟨o',(hs.2 b (a1j (a1e (Heap.lt_size e) (I.ok.cab x c hfn hc)))).trans e1⟩
  ·by_cases hj:j=i
   ·subst hj
    rw[hi] at e1;cases e1
    rw[a0y hiσ] at e2
    cases e2
    exact⟨u,r,.inr ⟨.inl hk,c,hc,hc'⟩⟩
   ·rw[a0k (Ne.symm hj)] at e2
    obtain⟨u',r',q⟩:=hl j y v' e1 e2 e3
    refine⟨u',r',?_⟩
    rcases q with q|⟨k,c',e,z'⟩
    ·exact .inl q
    ·refine .inr ⟨k,c',e,z'.sameBut hs ?_⟩
     rintro rfl
     exact hj (vv hN e1 (I.ok.inj _ _ _ e hc▸hi))
  ·by_cases hcc:c'=c
   ·subst hcc;exact⟨_,hc'⟩
   ·obtain⟨w2,z2⟩:=I.cell y c' e
    exact⟨w2,z2.sameBut hs hcc⟩
  ·obtain⟨e,n,ne,nf,d⟩:=I.pin p hp
   refine⟨(hs.2 p.1 ?_).trans e,n,ne,nf,d⟩
   intro q
   rw[q,hoc] at e
   have q':oc=p.2:=Option.some.inj e
   exact d w' (by rw[←q'];exact hocd)
theorem Inv.call' {s':Shared}{ch:List Addr}(I:Inv X pins σ H s)(ho:s'.os=s.os)(u:Un (qr X.stack) ch H H' s.heap s'.heap)(hok:HOk X.prog X.w H' s'.heap)(hg:AllBare s'.gens)
  (hch:∀b∈ch,(b∈X.ex\/X.s₀.heap.objs.size<=b)/\b≠X.env.locals/\(∀x c,X.env.cells.lookup x=some c->c≠b)/\∀p∈X.pn++pins,p.1≠b):Inv X pins σ H' s':=by
 obtain⟨h',g',d',t',o'⟩:=s'
 have e:o'=s.os:=ho
 subst e
 exact I.call (g':=g') (t':=t') (d':=d') u hok hg hch
end
noncomputable abbrev XK:=Value->Option Addr->Hp->Prop
noncomputable abbrev St:=List (Option V)
noncomputable abbrev VK:=V->Hp->Prop
noncomputable abbrev TE:=St->Hp->VK->Prop
noncomputable abbrev TT:=St->Hp->(Bool->Hp->Prop)->Prop
noncomputable abbrev TA:=St->Hp->(List V->Hp->Prop)->Prop
structure Ends where
 nx:St->Hp->Prop
 rt:VK
 bk:St->Hp->Prop:=λ_ _=>False
 ct:St->Hp->Prop:=λ_ _=>False
noncomputable abbrev TS:=Ends->St->Hp->Prop
noncomputable def EP (X:Cx)(pins:List (Addr×Obj))(σ:St)(Q:VK)(u:Value)(s':Shared):Prop:=∃v H',Inv X pins σ H' s'/\iC v u/\Q v H'
noncomputable def PE (X:Cx)(e:Expr)(t:TE):Prop:=
 ∀(pins:List (Addr×Obj)) (s:Shared) (σ:St) (H:Hp) (Q:VK),Inv X pins σ H s->t σ H Q->wpAny (model X.prog X.w) X.A (eval e X.env) (EP X pins σ Q) X.xe s
theorem aY {α:Type}{t:Sem α}{Q Q':α->Shared->Prop}{M:Model}{A:Around}{E:Value->Shared->Prop}{s:Shared}(h:wpAny M A t Q E s)(hQ:∀a s,Q a s->Q' a s):wpAny M A t Q' E s:=wpAny_mono h hQ λ_ _ x=>x
end L2
namespace L2
open PySem PySem.Spec PyProof.Rows
section
variable {X:Cx}
noncomputable def NK (i:Nat):TE:=λσ H Q=>∃v,σ[i]?=some (some v)/\Q v H
theorem Jx {i:Nat}{x:Str}{pos:Pos}(hN:X.N[i]?=some x)(hv:qp X.env.scope x)(hd:(x==("__debug__" : Str))=false:=by decide)(hcd:(x==("__classdict__" : Str))=false:=by decide):PE X (.Name x pos) (NK i):=by
 intro pins s σ H Q I h
 obtain⟨v,e,h⟩:=h
 obtain⟨m,hn,hl⟩:=I.loc
 obtain⟨u,r,l⟩:=hl i x v hN e hv
 have fin:EP X pins σ Q u s:=⟨v,H,I,r,h⟩
 rcases l with ⟨hk,hm⟩|⟨hk,c,hc,hcell⟩
 ·exact wpAny_Name (wpAny_loadName_local I.ok.kind hk hn hm fin) hd
 ·rcases hk with hk|hk
  ·exact wpAny_Name (wpAny_loadName_cell I.ok.kind hk hc hcell fin) hd
  ·exact wpAny_Name (wpAny_loadName_free I.ok.kind hk hc hcell fin hcd) hd
noncomputable def Gl (X:Cx)(x:Str):Prop:=X.env.kindOf x=some .globalImplicit
theorem ph {E:Value->Shared->Prop}{pins:List (Addr×Obj)}{s:Shared}{σ:St}{H:Hp}{x:Str}{u:Value}{pos:Pos}{Q:Value->Shared->Prop}(I:Inv X pins σ H s)(hg:Gl X x)(hm:X.mg x=some u)(h:Q u s)
  (hd:(x==("__debug__" : Str))=false:=by decide):wpAny (model X.prog X.w) X.A (eval (.Name x pos) X.env) Q E s:=
 Calls.Name_function_global I.ok.kind hg (Calls.loadGlobal_global (by rw[I.ok.glob];exact I.mod.glob.keeps I.bk) hm h) hd
theorem kA {E:Value->Shared->Prop}{pins:List (Addr×Obj)}{s:Shared}{σ:St}{H:Hp}{x:Str}{u:Value}{pos:Pos}{Q:Value->Shared->Prop}(I:Inv X pins σ H s)(hg:Gl X x)(hm:X.mg x=none)(hv:bootBuiltins x=some u)(h:Q u s)
  (hn:x ≠ "__name__":=by decide) (hd:(x==("__debug__" : Str))=false:=by decide):wpAny (model X.prog X.w) X.A (eval (.Name x pos) X.env) Q E s:=by
 obtain⟨mb,h1,h2⟩:=I.mod.blt
 exact Calls.Name_function_global I.ok.kind hg (Calls.loadGlobal_builtin (by rw[I.ok.glob];exact I.mod.glob.keeps I.bk) hm (by rw[I.ok.blt];exact h1.keeps I.bk) ((h2 x hn).trans hv) h) hd
variable {a b:Expr}{ta tb:TE}{pos:Pos}
variable {tA tB':TT}{hV:List Expr}
end
end L2
namespace L2
open PySem PySem.Spec PyProof.Rows
noncomputable def Q0 (K:PySem.W.Frag)(H:Hp)(a:Addr)(xs:List V):Prop:=
 Rd H a (.lst xs) ∨
  ∃(o:Obj) (its:Array Value) (n:Nat),K.lookup a=some o/\o.cls=.type "list"/\o.dict=none/\o.data=.seq its n/\its.size<=sizeLine/\Vals xs its.toList
noncomputable def QY (K:PySem.W.Frag)(H:Hp)(a:Addr)(xs:List V):Prop:=
 Rd H a (.tup xs) ∨
  ∃(o:Obj) (its:Array Value) (n:Nat),K.lookup a=some o/\o.cls=.type "tuple"/\o.data=.seq its n/\its.size<=sizeLine/\Vals xs its.toList
section
variable {X:Cx}{pins:List (Addr×Obj)}{σ:St}{H:Hp}{s:Shared}{a:Addr}{xs ys:List V}
end
section
variable {X:Cx}{pins:List (Addr×Obj)}{σ:St}{H:Hp}{s:Shared}{E:Value->Shared->Prop}
end
section
variable {X:Cx}{st:Stmt}{hV:List Stmt}{t u:TS}{e:Expr}{te:TE}{pos:Pos}
theorem Inv.quiet {pins:List (Addr×Obj)}{σ:St}{H:Hp}{s:Shared}(I:Inv X pins σ H s):interactive X.env=false:=by simp[interactive,I.ok.kind]
end
noncomputable def i5 (X:Cx)(pins:List (Addr×Obj))(H:Hp)(b:Addr):Prop:=
 H b=none/\b≠X.env.locals/\b∉X.fs/\(b∈X.ex\/X.s₀.heap.objs.size<=b)/\(∀x c,X.env.cells.lookup x=some c->c≠b)/\∀p∈X.pn++pins,p.1≠b
theorem Inv.fpOk {X:Cx}{pins:List (Addr×Obj)}{σ:St}{H H':Hp}{s:Shared}{b:Addr}(I:Inv X pins σ H s)(hb:s.heap.objs.size<=b)(hn:H' b=none):i5 X pins H' b:=by
 refine⟨hn,Nat.ne_of_gt (a1e I.lt hb),I.nofs hb,.inr (a1r I.sz hb),λx c e z=>?_,λp hp z=>?_⟩
 ·obtain⟨v,q⟩:=I.cell x c e
  exact absurd (a1e q.lt (by rw[z];exact hb)) (a1k _)
 ·exact absurd (a1e (Heap.lt_size (I.pin p hp).1) (by rw[z];exact hb)) (a1k _)
theorem uH {M:Model}{A:Around}{E:Value->Shared->Prop}{s:Shared}{tg:Expr}{it:Addr}{u:Value}{o:Obj}{n:String}{vs:Array Value}{Q:Unit->Shared->Prop}(ho:s.heap.get? it=some o)(hc:o.cls=.type n)(hd:o.data=.fields vs)
  (hn:["enumerate","zip","dict_itemiterator","dict_reverseitemiterator","odict_iterator","itertools.zip_longest","itertools.pairwise"].contains n=false) (hQ:Q () s):wpAny M A (letOwnedTupleGo tg (.ref it) u) Q E s:=by
 unfold letOwnedTupleGo
 cases tg<;>first
  |exact wpAny_pure hQ
  |(cases u<;>first
    |exact wpAny_pure hQ
    |(refine wpAny_bind (wpAny_load ho ?_)
      rw[hc,hd]
      show wpAny M A (if (["enumerate","zip","dict_itemiterator","dict_reverseitemiterator","odict_iterator","itertools.zip_longest","itertools.pairwise"].contains n&&vs[0]?==some (rawInt _))=true then _ else _) Q E s
      rw[if_neg (by intro h;rw[hn,Bool.false_and] at h;cases h)]
      exact wpAny_pure hQ))
end L2
namespace L2
open PySem PySem.Spec PyProof.Rows
section
variable {X:Cx}{tg:Expr}
noncomputable def kz (fp:List Addr)(h:Heap):List (Addr×Obj):=fp.filterMap λb=>(h.get? b).map λo=>(b,o)
theorem xi {fp:List Addr}{h:Heap}{b:Addr}{o:Obj}(hb:b∈fp)(e:h.get? b=some o):(b,o)∈kz fp h:=a3r.mpr ⟨b,hb,by rw[e];rfl⟩
theorem A9 {fp:List Addr}{h:Heap}{p:Addr×Obj}(hp:p∈kz fp h):p.1∈fp/\h.get? p.1=some p.2:=by
 obtain⟨b,hb,e⟩:=a3r.mp hp
 cases q:h.get? b with
 |none=>rw[q] at e;cases e
 |some o=>
  rw[q] at e
  have e':(b,o)=p:=Option.some.inj e
  subst e'
  exact⟨hb,q⟩
theorem Inv.pinned {pins:List (Addr×Obj)}{σ:St}{H:Hp}{s:Shared}{fp:List Addr}(I:Inv X pins σ H s)(hf:∀b∈fp,i5 X pins H b)(ho:∀b∈fp,∃o,s.heap.get? b=some o/\∀v,o.data≠.cell v):Inv X (pins++kz fp s.heap) σ H s:=
 I.pins_of λp hp=>(a0w.mp hp).elim (λz=>I.pin p (a0o _ z)) λz=>by
  obtain⟨hb,e⟩:=A9 z
  obtain⟨f0,f1,f2,_⟩:=hf p.1 hb
  obtain⟨o,e',d⟩:=ho p.1 hb
  rw[e] at e';cases e'
  exact⟨e,f0,f1,f2,d⟩
theorem Inv.unpinned {pins pl:List (Addr×Obj)}{σ:St}{H:Hp}{s:Shared}(I:Inv X (pins++pl) σ H s):Inv X pins σ H s:=I.pins_of λp hp=>I.pin p (a0o _ (a1b _ hp))
end
end L2
namespace L2
open PySem PySem.Spec PyProof.Rows
noncomputable abbrev R2:=V->V->Hp->VK->Prop
noncomputable def rI (C:Int->Int->Prop)(g:Int->Int->V):R2:=λx y H Q=>∃i j,x=.int i/\y=.int j/\C i j/\Q (g i j) H
noncomputable def rU (g:Int->V):V->Hp->VK->Prop:=λx H Q=>∃i,x=.int i/\Q (g i) H
section
variable {X:Cx}{a b c:Expr}{ta tb tc:TE}{pos:Pos}
noncomputable def CMul (i j:Int):Prop:=(-(2 ^ 64)<i/\i<2 ^ 64)\/(-(2 ^ 64)<j/\j<2 ^ 64)
theorem CMul.ok {i j:Int}(h:CMul i j):IntMulOk i j:=by
 rcases h with ⟨h1,h2⟩|⟨h1,h2⟩
 ·exact .of_left (intBits_le_64 h1 h2)
 ·exact .of_right (intBits_le_64 h1 h2)
theorem wK (k:Nat):(0:Int)<=2 ^ k:=by
 rw[two_pow_cast]
 exact Int.natCast_nonneg _
end
noncomputable def MG:V->V->Bool
 |.non,.non=>true|.non,.int _=>true|.int _,.non=>true|.non,.bl _=>true|.bl _,.non=>true|.non,.str _=>true|.str _,.non=>true
 |.int _,.int _=>true|.bl _,.bl _=>true|.str _,.str _=>true|.byt _,.byt _=>true
 |.int _,.str _=>true|.str _,.int _=>true|.bl _,.str _=>true|.str _,.bl _=>true
 |_,_=>false
noncomputable def mc:R2:=λx y H Q=>MG x y=true/\Q (.bl (decide (x=y))) H
noncomputable def nA:R2:=λx y H Q=>MG x y=true/\Q (.bl (!decide (x=y))) H
section
variable {X:Cx}{a b c:Expr}{ta tb tc:TE}{pos:Pos}
theorem lD:(sizeLine:Nat)<2 ^ 63:=by rw[sizeLine_eq];decide
end
end L2
namespace L2
open PySem PySem.Spec PyProof.Rows
section
variable {X:Cx}{o e value:Expr}{f:Str}{pos pos' tpos:Pos}{ta tv:TE}
noncomputable def cH:V->V->Hp->VK->Prop:=λx y H Q=>∃i j,x=.int i/\y=.int j/\Q (.int (i+j)) H
noncomputable def xT:V->V->Hp->VK->Prop:=λx y H Q=>∃i j,x=.int i/\y=.int j/\Q (.int (i - j)) H
end
section
variable {X:Cx}{pins:List (Addr×Obj)}{σ:St}{H:Hp}{s:Shared}{A:Around}{E:Value->Shared->Prop}{Q:Value->Shared->Prop}{c:Value}{b:Bool}
end
end L2
namespace L2
open PySem PySem.Spec PyProof.Rows
noncomputable abbrev Sp:=List V->Hp->VK->XK->Prop
noncomputable abbrev Q4:=List Env->Hp->Shared->XK->Value->Shared->Prop
structure Env0 (P:Program)(w:World)(K:PySem.W.Frag)(mg:Str->Option Value)(base:Heap)(A:Around)(outer:List Env)(s:Shared)(H:Hp):Prop where
 frames:A.frames=some outer
 mod:Mod K mg base
 bs:∀b o,base.get? b=some o->s.heap.get? b=some o/\H b=none
 bsz:base.objs.size<=s.heap.objs.size
 funs:s.heap.FunFrames base outer
 frf:∀b∈qr outer,H b=none
 hok:HOk P w H s.heap
 bare:AllBare s.gens
section
variable {X:Cx}{pins:List (Addr×Obj)}{σ:St}{H:Hp}{s s':Shared}
theorem Inv.env0 (I:Inv X pins σ H s):Env0 X.prog X.w X.K X.mg X.base X.A X.stack s H:=
 ⟨I.ok.frames,I.ok.mod,I.bs,a1r I.ok.bsz I.sz,I.stack,I.stkFree,I.hok,I.bare⟩
end
noncomputable def Binds (K:PySem.W.Frag)(fd:FuncData)(ps:List Str)(ds:List Value):Prop:=
 ∀(s:Shared) (us:List Value),K.In s.heap->(us++ds).length=ps.length->BindsTo s fd ⟨us,[]⟩ (ps.zip (us++ds))
theorem Binds.all {K:PySem.W.Frag}{fd:FuncData}{ps:List Str}(h:∀us:List Value,us.length=ps.length->bindArgs fd ⟨us,[]⟩=pure (ps.zip us)):Binds K fd ps []:=λs us _ hl=>by
 rw[a1s] at hl ⊢
 exact .of_eq (h us hl)
section
variable {X:Cx}{CX:Q4}{k:Nat}{f C:Addr}{fd:FuncData}{ps:List Str}{sp:Sp}{dvs:List V}{ds:List Value}{E:XK}{x m:Str}{p pos apos:Pos}{e o:Expr}{es:List Expr}{ta:TE}{t:TA}
end
section
variable {X:Cx}{CX:Q4}{k:Nat}{f C:Addr}{fd:FuncData}{ps ks:List Str}{sp:Sp}{E:XK}{x m:Str}{p pos apos kpos:Pos}{e o:Expr}{es:List Expr}{kws:List Keyword}{te ta:TE}{t tk:TA}{nm:Option Str}
variable {g:List Value->List Value->List Value}{gV:List V->List V->List V}
end
structure FnScope (N P:List Str)(sc:Scope):Prop where
 kind:sc.kind=.function
 co:sc.isCoroutine=false
 gen:sc.isGenerator=false
 nd:N.Nodup
 pre:N.take P.length=P
 par:∀x∈P,sc.names.lookup x=some .local\/sc.names.lookup x=some .cell
 nofree:∀y∈sc.names,y.2≠.free
theorem so {kindOf:Str->Option NameKind}{x:Str}:∀{binds:List (Str×Value)} {m:Str->Option Value},(∀v,(x,v)∉binds)->bindL kindOf binds m x=m x
 |[],_,_=>rfl
 |(n,v)::r,m,h=>by
  unfold bindL
  rw[so λw hw=>h w (a0c _ hw)]
  split
  ·have:x≠n:=by rintro rfl;exact h v a0e
   simp[this]
  ·rfl
theorem sI {kindOf:Str->Option NameKind}{x:Str}:∀{binds:List (Str×Value)} {m:Str->Option Value},(∀v,(x,v)∉binds)->bindC kindOf binds m x=m x
 |[],_,_=>rfl
 |(n,v)::r,m,h=>by
  unfold bindC
  rw[sI λw hw=>h w (a0c _ hw)]
  split
  ·rfl
  ·have:x≠n:=by rintro rfl;exact h v a0e
   simp[this]
theorem sO {kindOf:Str->Option NameKind}{x:Str}{v:Value}:∀{P:List Str} {vs:List Value} {i:Nat} {m:Str->Option Value},P.Nodup->P[i]?=some x->vs[i]?=some v->kindOf x=some .local →
  bindL kindOf (P.zip vs) m x=some v
 |[],_,_,_,_,h,_,_=>by simp at h
 |_::_,[],_,_,_,_,h,_=>by simp at h
 |p::P,w::vs,0,m,nd,h1,h2,hk=>by
  simp at h1 h2;subst h1;subst h2
  show bindL kindOf ((p,w)::P.zip vs) m p=_
  unfold bindL
  rw[so λv hv=>(a1n.mp nd).1 (a5e hv).1,if_pos hk]
  simp
 |p::P,w::vs,i+1,m,nd,h1,h2,hk=>by
  show bindL kindOf ((p,w)::P.zip vs) m x=_
  unfold bindL
  exact sO (i:=i) (a1n.mp nd).2 (by simpa using h1) (by simpa using h2) hk
theorem rN {kindOf:Str->Option NameKind}{x:Str}{v:Value}:∀{P:List Str} {vs:List Value} {i:Nat} {m:Str->Option Value},P.Nodup->P[i]?=some x->vs[i]?=some v->kindOf x≠some .local →
  bindC kindOf (P.zip vs) m x=some v
 |[],_,_,_,_,h,_,_=>by simp at h
 |_::_,[],_,_,_,_,h,_=>by simp at h
 |p::P,w::vs,0,m,nd,h1,h2,hk=>by
  simp at h1 h2;subst h1;subst h2
  show bindC kindOf ((p,w)::P.zip vs) m p=_
  unfold bindC
  rw[sI λv hv=>(a1n.mp nd).1 (a5e hv).1,if_neg hk]
  simp
 |p::P,w::vs,i+1,m,nd,h1,h2,hk=>by
  show bindC kindOf ((p,w)::P.zip vs) m x=_
  unfold bindC
  exact rN (i:=i) (a1n.mp nd).2 (by simpa using h1) (by simpa using h2) hk
noncomputable def iB (N:List Str)(vs:List V):St:=vs.map some++a0r (N.length - vs.length) none
theorem vG {sc:Scope}{n:Nat}{x:Str}(h:sc.names.lookup x=some .cell):∃c,(cellsFrom n sc.names []).lookup x=some c:=by
 have q:=PySem.W.cellsFrom_some sc.names n [] (.inl h)
 exact a2a.mp q
end L2
namespace L2
open PySem PySem.Spec PyProof.Rows
end L2
namespace HT
open PySem PyProof.Rows
section
variable {prog:Program}{w:World}{A:Around}{E:Value->Shared->Prop}{s:Shared}
theorem cat_tup {t b:Addr}{vs ws:List Value}{Q:Value->Shared->Prop}(ht:IsTup s.heap t vs.toArray)(hb:IsTup s.heap b ws.toArray)(hv:vs≠[])
  (h1:ws=[]->Q (.ref t) s) (h2:ws≠[]->Q (.ref s.heap.objs.size) { s with heap:=s.heap.push { cls:=.type "tuple",data:=.seq (vs++ws).toArray } })
  (hsz:vs.length+ws.length<=sizeLine):wpAny (model prog w) A (binaryOp .Add (.ref t) (.ref b)) Q E s:=by
 obtain⟨⟨cls,dd,data,sl⟩,ho,hc,n,hd⟩:=id ht
 obtain⟨⟨cls2,dd2,data2,sl2⟩,ho2,hc2,n2,hd2⟩:=id hb
 simp only at hc hd hc2 hd2
 subst hc hd hc2 hd2
 have e:vs.toArray++ws.toArray=(vs++ws).toArray:=by simp
 by_cases hw:ws=[]
 ·exact concat_meets ⟨_,ho,rfl⟩ ⟨_,ho2,rfl⟩ noFill_tuple_add seq_tuple_add PySem.F.slot_tuple_add PySem.F.entry_tuple_add (PySem.F.args_tuple_add_2 _ _)
   (tuple_addW1 t b vs.toArray ws.toArray n n2 dd dd2 sl sl2 (by simpa using hv) (by simp[hw])) ⟨ho,ho2,h1 hw⟩
 ·refine concat_meets ⟨_,ho,rfl⟩ ⟨_,ho2,rfl⟩ noFill_tuple_add seq_tuple_add PySem.F.slot_tuple_add PySem.F.entry_tuple_add (PySem.F.args_tuple_add_2 _ _)
   (tuple_addW2 t b vs.toArray ws.toArray n n2 dd dd2 sl sl2 (by simpa using hv) (by simpa using hw) (by rw[a0h,a0h];exact hsz)) ⟨ho,ho2,?_⟩
  rw[e]
  exact h2 hw
noncomputable def sIx (n d:Nat):Option Int->Nat
 |none=>d
 |some v=>if v<0 then (v+(n:Int)).toNat else min v.toNat n
theorem sIx_none (n d:Nat):sIx n d none=d:=rfl
theorem sIx_nat (n d k:Nat):sIx n d (some (k:Int))=min k n:=by
 show (if (k:Int)<0 then ((k:Int)+(n:Int)).toNat else min (k:Int).toNat n)=min k n
 rw[if_neg (by omega),a1o]
theorem Ll (n d:Nat)(hd:d<=n)(o:Option Int):sIx n d o<=n:=by
 cases o with
 |none=>exact hd
 |some v=>
  show (if v<0 then (v+(n:Int)).toNat else min v.toNat n)<=n
  by_cases hv:v<0
  ·rw[if_pos hv];omega
  ·rw[if_neg hv];exact Nat.min_le_right _ _
theorem yU (v:Int)(n d:Nat):(if v<0 then max (v+(n:Int)) 0 else min v (n:Int))=((sIx n d (some v):Nat):Int):=by
 show (if v<0 then max (v+(n:Int)) 0 else min v (n:Int))=(((if v<0 then (v+(n:Int)).toNat else min v.toNat n):Nat):Int)
 by_cases hv:v<0
 ·simp only[if_pos hv];omega
 ·simp only[if_neg hv];omega
theorem wZ (lo hi:Option Int)(n:Nat):Builtin.Slice.sliceAdjust lo hi 1 (n:Int)=(((sIx n 0 lo:Nat):Int),((sIx n n hi:Nat):Int)):=by
 have h1:¬((1:Int)<0):=by omega
 unfold Builtin.Slice.sliceAdjust
 simp only[h1,if_false]
 refine Prod.ext ?_ ?_
 ·cases lo with
  |none=>rfl
  |some v=>exact yU v n 0
 ·cases hi with
  |none=>rfl
  |some v=>exact yU v n n
theorem xw (i j:Nat):Builtin.Slice.slicePlaces (i:Int) (j:Int) 1=j - i:=by
 unfold Builtin.Slice.slicePlaces
 have h1:(1:Int) > 0:=by omega
 simp only[h1,if_true,a5r]
 split<;>omega
theorem slicePart_ {v:Value}{o:Option Int}{Q:Option Int->Shared->Prop}(p:IsPart v o)(h:Q o s):wpAny (model prog w) A (Builtin.Slice.slicePartIndex v) Q E s:=by
 cases p with
 |none=>exact slicePart_none h
 |int i t=>exact slicePart_int h
theorem jy {sl:Addr}{vl vu:Value}{lo hi:Option Int}{n:Nat}{Q:Int×Int×Nat->Shared->Prop}(hs:s.heap.IsSliceOf sl vl vu .none)(pl:IsPart vl lo)(pu:IsPart vu hi)
  (h:Q (((sIx n 0 lo:Nat):Int),1,sIx n n hi - sIx n 0 lo) s):wpAny (model prog w) A (Builtin.Slice.sliceApplied (.ref sl) (pure (n:Int))) Q E s:=by
 obtain⟨os,hos,hcs,hds⟩:=id hs
 unfold Builtin.Slice.sliceApplied Builtin.Slice.sliceFields
 refine wpAny_bind (wpAny_bind (wpAny_field hos hds (x:=vl) rfl (wpAny_bind (wpAny_field hos hds (x:=vu) rfl (wpAny_bind (wpAny_field hos hds (x:=.none) rfl (wpAny_pure ?_)))))))
 refine wpAny_bind (slicePart_none ?_)
 show wpAny _ _ (if ((1:Int)==0)=true then _ else _) _ _ s
 rw[if_neg (by decide)]
 refine wpAny_bind (slicePart_ pl (wpAny_bind (slicePart_ pu (wpAny_bind (wpAny_pure ?_)))))
 show wpAny _ _ (match Builtin.Slice.sliceAdjust lo hi 1 (n:Int) with|(lo,hi)=>pure (lo,(1:Int),Builtin.Slice.slicePlaces lo hi 1)) _ _ s
 rw[wZ lo hi n]
 show wpAny _ _ (pure (((sIx n 0 lo:Nat):Int),(1:Int),Builtin.Slice.slicePlaces ((sIx n 0 lo:Nat):Int) ((sIx n n hi:Nat):Int) 1)) _ _ s
 rw[xw]
 exact wpAny_pure h
theorem D0 (xs:Array Value)(i k:Nat):((a0l k).filterMap λ(m:Nat)=>xs[((i:Int)+(m:Int) * 1).toNat]?).toArray=((xs.toList.drop i).take k).toArray:=by
 have e:(λ(m:Nat)=>xs[((i:Int)+(m:Int) * 1).toNat]?)=λm=>xs[i+m]?:=by
  funext m
  have:((i:Int)+(m:Int) * 1).toNat=i+m:=by omega
  rw[this]
 rw[e]
 have:=pick_run xs i k
 rw[a5n] at this
 have e2:((λx=>xs[x]?) ∘ λx=>i+x)=λm=>xs[i+m]?:=rfl
 rw[e2] at this
 rw[this]
theorem getItem_tuple_cut {t sl:Addr}{items:Array Value}{vl vu:Value}{lo hi:Option Int}{Q:Value->Shared->Prop}(ht:IsTup s.heap t items)(hs:s.heap.IsSliceOf sl vl vu .none)(pl:IsPart vl lo)(pu:IsPart vu hi)
  (hw:¬(sIx items.size 0 lo=0/\sIx items.size items.size hi=items.size))
  (h:Q (.ref s.heap.objs.size) { s with heap:=s.heap.push { cls:=.type "tuple",data:=.seq ((items.toList.drop (sIx items.size 0 lo)).take (sIx items.size items.size hi - sIx items.size 0 lo)).toArray } })
  (hsz:items.size<=sizeLine):wpAny (model prog w) A (getItem (.ref t) (.ref sl)) Q E s:=by
 have htake:sizeOk (.seq ((items.toList.drop (sIx items.size 0 lo)).take (sIx items.size items.size hi - sIx items.size 0 lo)).toArray):=by
  show ((items.toList.drop (sIx items.size 0 lo)).take (sIx items.size items.size hi - sIx items.size 0 lo)).toArray.size<=sizeLine
  rw[a0h,a2z,a2n,Array.length_toList]
  omega
 have hj:sIx items.size items.size hi<=items.size:=Ll _ _ (a0n _) hi
 obtain⟨os,hos,hcs,hds⟩:=id hs
 have hTs:s.TypeIs (.ref sl) "slice":=⟨os,hos,hcs⟩
 unfold getItem
 try with_reducible refine wpAny_holding ?_
 first|refine wpAny_bind (wpAny_pure ?_)|skip
 refine wpAny_bind (wpAny_sequenceKey ht.typeIs (by decide) ?_)
 refine wpAny_bind (wpAny_callSpecial?_slot (name:=Str.ofString "__getitem__") ht.typeIs PyProof.Rows.slot_tuple_getitem
  (wpAny_call_entry PyProof.Rows.slot_tuple_getitem ht.typeIs entry_tuple_getitem ?_ (args_tuple_getitem _ _)))
 show wpAny _ _ (Builtin.Tuple.tupleItemsOf (.ref t) >>= _) _ _ s
 refine wpAny_bind (tupleItemsOf_ ht ?_)
 refine wpAny_bind (wpAny_typeOf hTs ?_)
 rw[if_pos (by decide)]
 refine wpAny_bind (jy hs pl pu ?_)
 have hno:¬((((sIx items.size 0 lo:Nat):Int)==0&&(1:Int)==1&&(sIx items.size items.size hi - sIx items.size 0 lo)==items.size)=true):=by
  intro q
  rw[a0b,a0b] at q
  have q1:((sIx items.size 0 lo:Nat):Int)=0:=eq_of_beq q.1.1
  have q2:sIx items.size items.size hi - sIx items.size 0 lo=items.size:=eq_of_beq q.2
  exact hw ⟨by omega,by omega⟩
 show wpAny _ _ (if (((sIx items.size 0 lo:Nat):Int)==0&&(1:Int)==1&&(sIx items.size items.size hi - sIx items.size 0 lo)==items.size)=true then _ else _) _ _ s
 rw[if_neg hno,D0]
 first
  |exact wpAny_bind (m:=Builtin.Tuple.tupleExact _) (wpAny_newObj_type (wpAny_pure ⟨_,rfl,wpAny_pure h⟩) htake)
  |exact wpAny_bind (m:=Builtin.Tuple.tupleExact _) (wpAny_newObj_type (wpAny_bind (wpAny_pure (wpAny_pure ⟨_,rfl,wpAny_pure h⟩))) htake)
  |exact wpAny_bind (wpAny_bind (m:=Builtin.Tuple.tupleExact _) (wpAny_newObj_type (wpAny_pure (wpAny_pure ⟨_,rfl,wpAny_pure h⟩)) htake))
  |exact wpAny_bind (wpAny_bind (m:=Builtin.Tuple.tupleExact _) (wpAny_newObj_type (wpAny_pure ⟨_,rfl,wpAny_pure h⟩) htake))
end
end HT
namespace L2
open PySem PySem.Spec PyProof.Rows
noncomputable abbrev TO:=St->Hp->(Option Int->Hp->Prop)->Prop
section
variable {X:Cx}{e:Expr}{te:TE}{lo hi:Option Expr}{tl th:TO}{pos p2:Pos}
end
end L2
namespace L2
open PySem PySem.Spec PyProof.Rows
noncomputable def sM (n:Nat)(i:Int):Option Nat:=if 0<=i then (if i<n then some i.toNat else none) else if -(n:Int)<=i then some (i+n).toNat else none
noncomputable def c6 {α:Type}(xs:List α)(i:Int):Option α:=(sM xs.length i).bind λj=>xs[j]?
theorem yC {n:Nat}{i:Int}{j:Nat}(h:sM n i=some j):seqIndex? i n=some j/\j<n/\-(n:Int)<=i/\i<n:=by
 unfold sM at h
 by_cases h0:0<=i
 ·rw[if_pos h0] at h
  by_cases h1:i<n
  ·rw[if_pos h1] at h
   have e:i.toNat=j:=Option.some.inj h
   exact⟨by rw[seqIndex_of h0 h1,e],by omega,by omega,h1⟩
  ·rw[if_neg h1] at h;cases h
 ·rw[if_neg h0] at h
  by_cases h1:-(n:Int)<=i
  ·rw[if_pos h1] at h
   have e:(i+n).toNat=j:=Option.some.inj h
   exact⟨by rw[seqIndex_neg (by omega) h1,e],by omega,h1,by omega⟩
  ·rw[if_neg h1] at h;cases h
theorem Ap {α:Type}{xs:List α}{i:Int}{v:α}(h:c6 xs i=some v):∃j,seqIndex? i xs.length=some j/\xs[j]?=some v/\j<xs.length/\-(xs.length:Int)<=i/\i<xs.length:=by
 unfold c6 at h
 cases e:sM xs.length i with
 |none=>rw[e] at h;cases h
 |some j=>
  rw[e] at h
  obtain⟨h1,h2,h3,h4⟩:=yC e
  exact⟨j,h1,h,h2,h3,h4⟩
theorem eU {α:Type}{xs:List α}{j:Nat}{v:α}(h:xs[j]?=some v):c6 xs (j:Int)=some v:=by
 have hj:j<xs.length:=(a0j.mp h).1
 have e:sM xs.length (j:Int)=some j:=by
  unfold sM
  rw[if_pos (by omega),if_pos (by omega)];simp
 unfold c6;rw[e];exact h
theorem mj {α:Type}(xs:List α)(v:α):c6 (xs++[v]) (-1)=some v:=by
 have hl:(xs++[v]).length=xs.length+1:=by simp
 have e:sM (xs++[v]).length (-1)=some xs.length:=by
  unfold sM
  rw[hl,if_neg (by decide),if_pos (by omega)]
  congr 1
  omega
 unfold c6
 rw[e]
 show (xs++[v])[xs.length]?=some v
 simp
noncomputable def zY (b:Expr):Prop:=∀o i,subscripted b false o i=operate [o,i] (getItem o i)
section
variable {X:Cx}{a b:Expr}{ta tb:TE}{pos:Pos}
noncomputable def Qz (K:PySem.W.Frag):R2:=λx y H Q=>∃p xs i v,x=.ref p/\y=.int i/\Q0 K H p xs/\c6 xs i=some v/\Q v H
noncomputable def PS (K:PySem.W.Frag):R2:=λx y H Q=>∃p xs i v,x=.ref p/\y=.int i/\QY K H p xs/\c6 xs i=some v/\Q v H
noncomputable def PB:R2:=λx y H Q=>∃z i c,x=.str z/\y=.int i/\z.length<=sizeLine/\c6 z.cps.toList i=some c/\Q (.str ⟨#[c]⟩) H
noncomputable def bE (K:PySem.W.Frag):R2:=λx y H Q=>Qz K x y H Q\/PS K x y H Q\/PB x y H Q
theorem tz (lo hi:Option Int)(n:Nat):(sliceBounds lo hi none n).1=((HT.sIx n 0 lo:Nat):Int)/\(sliceBounds lo hi none n).2.1=((HT.sIx n n hi:Nat):Int)/\(sliceBounds lo hi none n).2.2=1:=by
 refine⟨?_,?_,rfl⟩
 ·cases lo with
  |none=>simp[sliceBounds,HT.sIx]
  |some i=>
   simp only[sliceBounds,HT.sIx,a6b,show (1:Int) > 0 by decide,if_true]
   by_cases h:i<0
   ·simp only[h,if_true]<;>omega
   ·simp only[h,if_false]<;>omega
 ·cases hi with
  |none=>simp[sliceBounds,HT.sIx]
  |some i=>
   simp only[sliceBounds,HT.sIx,a6b,show (1:Int) > 0 by decide,if_true]
   by_cases h:i<0
   ·simp only[h,if_true]<;>omega
   ·simp only[h,if_false]<;>omega
theorem rz (its:List Value)(lo hi:Option Int):slicePick its.toArray lo hi none=((its.drop (HT.sIx its.length 0 lo)).take (HT.sIx its.length its.length hi - HT.sIx its.length 0 lo)).toArray:=by
 obtain⟨h1,h2,h3⟩:=tz lo hi its.toArray.size
 unfold slicePick
 rw[h1,h2,h3]
 simp only[sliceRange_one,pick_run,a0h]<;>rfl
noncomputable def Ic:V->Bool
 |.non=>true
 |.bl _=>true
 |.int _=>true
 |.str _=>true
 |_=>false
noncomputable def HX:V->V->Bool
 |.non,.non=>true
 |.bl a,.bl b=>a==b
 |.bl a,.int b=>(if a then 1 else 0)==b
 |.int a,.bl b=>a==(if b then 1 else 0)
 |.int a,.int b=>a==b
 |.str a,.str b=>a==b
 |_,_=>false
noncomputable def QG (x:V)(xs:List V):Bool:=xs.any λy=>HX y x
noncomputable def zk (K:PySem.W.Frag)(neg:Bool):R2:=λx y H Q=>∃p xs,y=.ref p/\(Q0 K H p xs\/QY K H p xs)/\Ic x=true/\xs.all Ic=true/\Q (.bl (if neg then !QG x xs else QG x xs)) H
variable {o e:Expr}{es:List Expr}{to:TE}{t:TA}{name:Str}{apos cpos:Pos}{T id:String}{r:V->List V->Hp->VK->Prop}
end
end L2
namespace L2
open PySem PySem.Spec PyProof.Rows
theorem lF {α:Type}(l:List α):l.eraseIdx (l.length - 1)=l.dropLast:=by
 induction l with
 |nil=>rfl
 |cons a r ih=>
  cases r with
  |nil=>rfl
  |cons b r=>
   have e:(a::b::r).length - 1=((b::r).length - 1)+1:=by
    have h1:(a::b::r).length=r.length+2:=rfl
    have h2:(b::r).length=r.length+1:=rfl
    omega
   rw[e,List.eraseIdx_cons_succ,ih]
   all_goals rfl
theorem su {α:Type}:∀(l:List α) (i:Nat),(l.eraseIdx i).length<=l.length
 |[],_=>a0n _
 |_::_,0=>a5z _
 |_::r,i+1=>Nat.succ_le_succ (su r i)
theorem sv (its:List Value):∀(k:Nat) (acc:List Value),
  a6c (λx1 x2=>x1++x2) acc.toArray (a0r k its.toArray)=(acc++(a0r k its).flatten).toArray
 |0,acc=>by simp
 |k+1,acc=>by
  have e:acc.toArray++its.toArray=(acc++its).toArray:=by simp
  have e2:(acc++its)++(a0r k its).flatten=acc++(a0r (k+1) its).flatten:=by
   rw[a2x,a3w,a1x]
  rw[←e2,←sv its k (acc++its),←e,a2x,List.foldl_cons]
section
variable {X:Cx}{pins:List (Addr×Obj)}{σ:St}{H:Hp}{s:Shared}{l b:Addr}{xs ys zs:List V}
theorem vY {n:Nat}(h:n<=sizeLine):Builtin.List.listTooLong n=false:=by
 unfold Builtin.List.listTooLong
 exact decide_eq_false (by omega)
end
section
variable {X:Cx}
theorem uo {α:Type}(xs:List α)(k:Nat):(a0r k xs).flatten.length=k * xs.length:=by
 induction k with
 |zero=>simp
 |succ k ih=>rw[a2x,a3w,a0t,ih,Nat.succ_mul,Nat.add_comm]
end
section
variable {prog:Program}{w:World}{A:Around}{E:Value->Shared->Prop}{s:Shared}
set_option maxRecDepth 100000 in
end
end L2
namespace Att
open PySem PySem.W PySem.Calls PyProof.Rows
theorem oG {P:Params}{h:Heap}:∀(ns:List Int) (vs:List Value),WellAll P h vs (ns.map WData.int)->IntsAre vs ns:=by
 intro ns
 induction ns with
 |nil=>
  intro vs w
  rw[a2o] at w
  cases w
  exact .nil
 |cons n ns ih=>
  intro vs w
  rw[a1g] at w
  cases w with
  |cons a b=>
   cases a
   exact .cons _ _ (ih _ b)
theorem AI {l:OpenLaw}{n:Nat}(hn:l.most=some n){P:Params}{h:Heap}{args:List WData}{vals:List Value}
  (hpre:l.row.toRowW.claim.pre args=true) (hwl:WellAll P h vals args) :
  ∃a vs ns,vals=[Value.ref a]/\args=[WData.list (ns.map WData.int)]/\h.get? a=some { cls:=.type "list",data:=.seq vs.toArray }/\IntsAre vs ns/\ns.length<=n:=by
 have hsh:WShape.hasAll [] args [.list .int]=true:=(pre_splitW hpre).1
 have hc:l.pre.holds [] { args:=args }=true:=(pre_splitW hpre).2
 obtain⟨d,r,rfl,h1,h2⟩:=hasAllW_cons hsh
 obtain rfl:=hasAllW_nil h2
 obtain⟨xs,rfl,h3⟩:=hasW_list h1
 obtain⟨ns,rfl⟩:=items_int h3
 have hlen:ns.length<=n:=by
  unfold OpenLaw.pre at hc
  have h4:(WTm.not (.lt (.lit (.int (n:Int))) (.len (.arg 0)))).holds [] { args:=[.list (ns.map .int)] }=true:=by
   have h4:=(holds_andW hc).1
   rw[hn] at h4
   exact h4
  have h5:=condW_of h4 (w_not (w_lt w_lit (w_len_list (w_arg rfl))))
  rw[a0i] at h5
  refine Nat.le_of_not_lt λq=>?_
  have q':(n:Int)<((ns.length:Nat):Int):=by omega
  first
   |(rw[decide_eq_true q'] at h5;exact absurd h5 (by decide))
   |(simp at h5;omega)
 cases hwl with
 |cons w1 w2=>
  cases w2
  cases w1 with
  |list ho hall=>exact⟨_,_,ns,rfl,rfl,ho,oG ns _ hall,hlen⟩
theorem AF (l:OpenLaw)(args:List WData):l.row.toRowW.claim.post args (.bool true) args=true:=
 postW_of (r:=l.row.toRowW) (X:=(true==true))
  (show WShape.has [] (.bool true) .bool=true by first|rfl|decide|simp[WShape.has,WShape.arms,WShape.armsAll])
  (show (WTm.eq .res (.lit (.bool true))).value [] { args:=args,res:=some (.bool true),after:=args }=some (.bool (true==true)) from w_eq_bool (w_res rfl) w_lit) rfl
theorem attach_call {l:OpenLaw}{n:Nat}{q:Program}{loose:List Str}{XP:(Str->Option Value)->Heap->Prop}{YP:World->Heap->Prop}{d:DefRec}
  (hn:l.most=some n) (hdf:d.params.defaults=[])
  (call:∀(w:World) (s₀ s₁:Shared) (mg mb:Str->Option Value) (fa:Addr) (o:Obj) (pm cd doc:Value) (a:Addr) (vs:List Value) (ns:List Int),
   Ground q loose [] XP w s₀ mg mb s₁.heap->YP w s₁.heap →
   s₁.heap.get? fa=some o->o.data=.func (docDef d.name d.params d.body d.scope pm cd doc)->s₁.heap.CodeRec cd d.name->mg d.name=some (.ref fa) →
   s₁.heap.get? a=some { cls:=.type "list",data:=.seq vs.toArray }->IntsAre vs ns->ns.length<=n->s₁.gens = #[] →
   codeAny (model l.prog w) callerA (.call (.ref fa) ⟨[.ref a],[]⟩) (λr s'=>r=.ok (.ret (.bool true))/\OldK s₁.heap s'.heap/\s'.os=s₁.os/\AllBare s'.gens) s₁) :
  WalkO q loose XP YP l.row.toRowW d [] (λf vs=>PySem.call f vs):=by
 intro w s₀ s₁ mg mb G Y fa o pm cd doc dV kV ho hd hcd hD hmg hg args vals as hpre hlay hrd hwl hlo
 obtain rfl:dV=.none:=Dflts.none hD hdf
 obtain rfl:kV=.none:=Dflts.noKw hD
 obtain⟨a,vs,ns,rfl,rfl,hobj,hints,hlen⟩:=AI hn hpre hwl
 refine enter_call (codeAny_mono (call w s₀ s₁ mg mb fa o pm cd doc a vs ns G Y ho (fd_plain hd) hcd hmg hobj hints hlen hg) λr s' hq=>?_)
 obtain⟨rfl,h2,h3,h4⟩:=hq
 exact⟨.inl ⟨.bool true,.bool true,[],rfl,λ_=>rfl,.bool true,AF l _,λ_=>⟨List.Pairwise.nil,λ_ hm=>(nomatch hm)⟩⟩,h2,h3,h4⟩
end Att
namespace L2
open PySem PySem.Spec PyProof.Rows
end L2
namespace L2
open PySem PySem.Spec PyProof.Rows
end L2
namespace L2
open PySem PySem.Spec PyProof.Rows
noncomputable def gA (s:Stmt):Arguments:=match s with
 |.FunctionDef _ a _ _ _ _ _ _ _ _=>a
 |_=>{ posonlyargs:=[],args:=[],vararg:=none,kwonlyargs:=[],kw_defaults:=[],kwarg:=none,defaults:=[] }
noncomputable def cv (s:Stmt):List Stmt:=match s with
 |.FunctionDef _ _ b _ _ _ _ _ _ _=>b
 |_=>[]
noncomputable def ai (s:Stmt):Scope:=match s with
 |.FunctionDef _ _ _ _ _ _ sc _ _ _=>sc
 |_=>{ kind:=.function,names:=[],isGenerator:=false,isCoroutine:=false }
structure Fun (K:PySem.W.Frag)(x qual:Str)(st:Stmt)(f:Addr)(fd:FuncData):Prop where
 ex:∃(oc:Value) (od:Option Addr) (kV doc pm:Value) (an:Option Addr) (cdv ct:Value) (osl:Array (Option Value)),
  fd=PySem.W.fnOf x qual (gA st) (cv st) (ai st) .none kV doc pm an cdv ct/\K.lookup f=some ⟨oc,od,.func fd,osl⟩/\PySem.W.codeIn K cdv qual=true
 kp:PySem.W.keepIn K (.ref f)=true
section
variable {P:Program}{w:World}{K:PySem.W.Frag}{mg:Str->Option Value}{base:Heap}
theorem Ko {x qual:Str}{st:Stmt}{f:Addr}{oc:Value}{od an:Option Addr}{osl:Array (Option Value)}{kV doc pm cdv ct:Value}(l:K.lookup f=some ⟨oc,od,.func (PySem.W.fnOf x qual (gA st) (cv st) (ai st) .none kV doc pm an cdv ct),osl⟩)
  (c:PySem.W.codeIn K cdv qual=true) (k:PySem.W.keepIn K (.ref f)=true):Fun K x qual st f (PySem.W.fnOf x qual (gA st) (cv st) (ai st) .none kV doc pm an cdv ct):=⟨⟨oc,od,kV,doc,pm,an,cdv,ct,osl,rfl,l,c⟩,k⟩
end
section
variable {X:Cx}
theorem pv (i:Nat){x:Str}{pos:Pos}(hN:X.N[i]?=some x:=by rfl)(hv:qp X.env.scope x:=by first|exact Or.inl rfl|exact Or.inr (Or.inl rfl)|exact Or.inr (Or.inr rfl))(hd:(x==("__debug__" : Str))=false:=by decide)
  (hcd:(x==("__classdict__" : Str))=false:=by decide):PE X (.Name x pos) (NK i):=Jx hN hv hd hcd
end
end L2
set_option maxHeartbeats 4000000
section
namespace L2
open PySem PySem.Spec PyProof.Rows
noncomputable def ki (cells:List (Str×Addr)):List (Str×NameKind)->List (Str×Addr)->List (Str×Addr)
 |[],acc=>acc
 |(n,k)::r,acc=>if k==.free then ki cells r ((n,(cells.lookup n).getD 0)::acc) else ki cells r acc
theorem pG {scope:Scope}{env:Env}(h:∀y∈scope.names,y.2=.free->(env.cells.lookup y.1).isSome=true):closureFor scope env=pure (ki env.cells scope.names []):=by
 unfold closureFor
 generalize scope.names=names at h ⊢
 generalize ([]:List (Str×Addr))=acc
 dsimp only
 induction names generalizing acc with
 |nil=>rfl
 |cons x r ih=>
  obtain⟨n,k⟩:=x
  have hr:=ih (λy hy=>h y (a0c _ hy))
  rw[a5f]
  unfold ki
  by_cases hk:(k==NameKind.free)=true
  ·have hs:=h (n,k) a0e (by simpa using hk)
   obtain⟨c,hc⟩:=a2a.mp hs
   have hc':cellOf env n=pure c:=by unfold cellOf;rw[show env.cells.lookup n=some c from hc]
   simp only[hk,if_true]
   rw[hc',show (env.cells.lookup n).getD 0=c by rw[show env.cells.lookup n=some c from hc];rfl]
   exact hr _
  ·simp only[hk]
   exact hr _
theorem kO {cells:List (Str×Addr)}{x:Str}{c:Addr}:∀{names:List (Str×NameKind)} {acc:List (Str×Addr)},(∀y∈names,y.2=.free->(cells.lookup y.1).isSome=true)->(∀x c,acc.lookup x=some c->cells.lookup x=some c) →
  (ki cells names acc).lookup x=some c->cells.lookup x=some c
 |[],_,_,ha,h=>ha x c h
 |(n,k)::r,acc,hs,ha,h=>by
  unfold ki at h
  by_cases hk:(k==NameKind.free)=true
  ·rw[if_pos hk] at h
   refine kO (λy hy=>hs y (a0c _ hy)) (λz d hz=>?_) h
   obtain⟨e,he⟩:=a2a.mp (hs (n,k) a0e (by simpa using hk))
   have he':cells.lookup n=some e:=he
   rw[a1q] at hz
   cases hzn:z==n with
   |true=>
    rw[hzn] at hz
    have:z=n:=by simpa using hzn
    subst this
    rw[he'] at hz ⊢
    exact hz
   |false=>rw[hzn] at hz;exact ha z d hz
  ·rw[if_neg hk] at h
   exact kO (λy hy=>hs y (a0c _ hy)) ha h
theorem qH {cells:List (Str×Addr)}{x:Str}:∀{names:List (Str×NameKind)} {acc:List (Str×Addr)},(acc.lookup x).isSome=true->((ki cells names acc).lookup x).isSome=true
 |[],_,h=>h
 |(n,k)::r,acc,h=>by
  unfold ki
  split
  ·refine qH ?_
   rw[a1q]
   split
   ·rfl
   ·exact h
  ·exact qH h
theorem mB {cells:List (Str×Addr)}{x:Str}:∀{names:List (Str×NameKind)} {acc:List (Str×Addr)},(x,NameKind.free)∈names->((ki cells names acc).lookup x).isSome=true
 |[],_,h=>nomatch h
 |(n,k)::r,acc,h=>by
  unfold ki
  rcases a0s.mp h with e|h
  ·cases e
   rw[if_pos (by rfl)]
   exact qH (by rw[a1q];simp)
  ·split
   ·exact mB h
   ·exact mB h
noncomputable def Cx.blk (X:Cx)(scope:Scope)(N':List Str)(C:Addr)(s:Shared)(H:Hp)(ex:List Addr):Cx:=
 { X with N:=N',s₀:=s,H₀:=H,env:=compEnvC scope (ki X.env.cells scope.names []) C X.env,outer:=X.stack,ex:=ex,fn:=λ_=>false,pn:=[],xe:=λ_ _=>False }
noncomputable def oP (fm:List (Option Nat))(σ:St):St:=fm.map λo=>o.bind λj=>(σ[j]?).join
structure BlkOk (X:Cx)(scope:Scope)(N':List Str)(fm:List (Option Nat)):Prop where
 kind:scope.kind=.function
 nocell:∀y∈scope.names,y.2≠.cell
 names:∀y∈scope.names,y.2=.local->scope.names.lookup y.1=some .local
 free:∀y∈scope.names,y.2=.free->X.env.kindOf y.1=some .cell
 len:fm.length=N'.length
 out:∀(i j:Nat) (x:Str),fm[i]?=some (some j)->N'[i]?=some x->X.N[j]?=some x/\scope.names.lookup x=some .free/\X.env.kindOf x=some .cell
theorem BlkOk.has {X:Cx}{scope:Scope}{N':List Str}{fm:List (Option Nat)}(B:BlkOk X scope N' fm)(ok:X.Ok):∀y∈scope.names,y.2=.free->(X.env.cells.lookup y.1).isSome=true:=λy hy e=>by
 obtain⟨c,hc⟩:=ok.has y.1 (.inl (B.free y hy e))
 rw[hc];rfl
noncomputable def tY (kind:ScopeKind)(names:List (Str×NameKind))(kindOf:Str->Option NameKind)(N N':List Str)(fm:List (Option Nat)):Bool:=
 kind==.function&&(names.all λy=>y.2 != .cell)&&(names.all λy=>y.2 != .local || names.lookup y.1==some .local)&&(names.all λy=>y.2 != .free || kindOf y.1==some .cell)&&fm.length==N'.length &&
  ((fm.zip N').all λp=>match p.1 with|none=>true|some j=>N[j]?==some p.2&&names.lookup p.2==some .free&&kindOf p.2==some .cell)
theorem Je {X:Cx}{scope:Scope}{N':List Str}{fm:List (Option Nat)}(h:tY scope.kind scope.names X.env.kindOf X.N N' fm=true):BlkOk X scope N' fm:=by
 unfold tY at h
 simp only[a0b,beq_iff_eq,a4d,a4n,bne_iff_ne,ne_eq] at h
 obtain⟨⟨⟨⟨⟨h1,h2⟩,h3⟩,h4⟩,h5⟩,h6⟩:=h
 refine⟨h1,h2,λy hy e=>(h3 y hy).resolve_left λz=>z e,λy hy e=>(h4 y hy).resolve_left λz=>z e,h5,λi j x e1 e2=>?_⟩
 have hm:(some j,x)∈fm.zip N':=by
  refine a1i (i:=i) ?_
  rw[List.getElem?_zip_eq_some]
  exact⟨e1,e2⟩
 have z:=h6 _ hm
 simp only[a0b,beq_iff_eq] at z
 exact⟨z.1.1,z.1.2,z.2⟩
theorem fL {env:Env}:∀{names:List (Str×NameKind)} {x:Str} {k:NameKind},(names.map λ(n,k)=>if (k==NameKind.free&&env.scope.kind==.function&&env.kindOf n==some .cell) then (n,NameKind.cell) else (n,k)).lookup x=some k →
  (k=.cell/\env.kindOf x=some .cell/\(x,NameKind.free)∈names)\/(x,k)∈names
 |[],_,_,h=>by simp at h
 |(n,k0)::r,x,k,h=>by
  rw[a1g] at h
  by_cases hc:(k0==NameKind.free&&env.scope.kind==.function&&env.kindOf n==some .cell)=true
  ·dsimp only at h
   rw[if_pos hc,a1q] at h
   cases hx:x==n with
   |true=>
    rw[hx] at h
    have e:x=n:=by simpa using hx
    subst e
    cases h
    simp only[a0b,beq_iff_eq] at hc
    exact .inl ⟨rfl,hc.2,by rw[←hc.1.1];exact a0e⟩
   |false=>
    rw[hx] at h
    rcases fL h with ⟨a,b,c⟩|c
    ·exact .inl ⟨a,b,a0c _ c⟩
    ·exact .inr (a0c _ c)
  ·dsimp only at h
   rw[if_neg hc,a1q] at h
   cases hx:x==n with
   |true=>
    rw[hx] at h
    have e:x=n:=by simpa using hx
    subst e
    cases h
    exact .inr a0e
   |false=>
    rw[hx] at h
    rcases fL h with ⟨a,b,c⟩|c
    ·exact .inl ⟨a,b,a0c _ c⟩
    ·exact .inr (a0c _ c)
theorem g8 {env:Env}(hk:env.scope.kind=.function):∀{names:List (Str×NameKind)} {x:Str},names.lookup x=some .free->env.kindOf x=some .cell →
  (names.map λ(n,k)=>if (k==NameKind.free&&env.scope.kind==.function&&env.kindOf n==some .cell) then (n,NameKind.cell) else (n,k)).lookup x=some .cell
 |[],_,h,_=>by simp at h
 |(n,k)::r,x,h,hc=>by
  rw[a1g]
  dsimp only
  cases hx:x==n with
  |true=>
   rw[a1q,hx] at h
   cases h
   have e:x=n:=by simpa using hx
   subst e
   rw[hc,hk,if_pos (by rfl),a1q,hx]
  |false=>
   rw[a1q,hx] at h
   have ih:=g8 hk h hc
   split
   ·rw[a1q,hx];exact ih
   ·rw[a1q,hx];exact ih
section
variable {X:Cx}{scope:Scope}{N':List Str}{fm:List (Option Nat)}{pins:List (Addr×Obj)}{σ:St}{H:Hp}{s:Shared}
theorem Ln (B:BlkOk X scope N' fm)(I:Inv X pins σ H s){C:Addr}{ex:List Addr}(hC:s.heap.objs.size<=C)(hex:∀b∈ex,i5 X pins H b)(hlt:∀b∈ex,b<s.heap.objs.size):(X.blk scope N' C s H ex).Ok:=by
 have sub:∀x c,(ki X.env.cells scope.names []).lookup x=some c->X.env.cells.lookup x=some c:=λx c h=>kO (B.has I.ok) (λ_ _ z=>by simp at z) h
 refine⟨I.ok.mod,?_,I.ok.glob,I.ok.blt,hC,λx y c h1 h2=>I.ok.inj x y c (sub x c h1) (sub y c h2),λx hx=>?_,λx c h _=>(a0u h).elim,I.ok.hd,I.ok.frames,.inl rfl,λb hb=>⟨?_,λx c h=>(hex b hb).2.2.2.2.1 x c (sub x c h)⟩,I.bs,?_,λb o e hb=>?_,λb hb hf=>?_,I.stack,I.stkFree⟩
 ·show (relabel scope X.env).kind=.function
  exact B.kind
 ·have hx':(relabel scope X.env).names.lookup x=some .cell\/(relabel scope X.env).names.lookup x=some .free:=hx
  have mem:(x,NameKind.free)∈scope.names:=by
   rcases hx' with h|h
   ·rcases fL h with ⟨_,_,z⟩|z
    ·exact z
    ·exact absurd rfl (B.nocell _ z)
   ·rcases fL h with ⟨z,_,_⟩|z
    ·cases z
    ·exact z
  exact a2a.mp (mB (cells:=X.env.cells) (acc:=[]) mem)
 ·exact a1j (a1e (hlt b hb) hC)
 ·exact a1r I.ok.bsz I.sz
 ·have hb':b∈ex:=hb
  rcases (hex b hb').2.2.2.1 with z|z
  ·exact I.ok.noex b o e z
  ·exact absurd (a1e (Heap.lt_size (I.ok.bs b o e).1) z) (a1k _)
 ·have hb':b∈ex:=hb
  have hf':b∈qr X.stack:=hf
  rcases a0s.mp (I.stkSub b hf') with z|z
  ·exact (hex b hb').2.1 z
  ·exact (hex b hb').2.2.1 z
theorem uT {fm:List (Option Nat)}{σ:St}{i:Nat}{v:V}(h:(oP fm σ)[i]?=some (some v)):∃j,fm[i]?=some (some j)/\σ[j]?=some (some v):=by
 unfold oP at h
 rw[a0q] at h
 cases e:fm[i]? with
 |none=>rw[e] at h;cases h
 |some o=>
  rw[e] at h
  cases o with
  |none=>cases h
  |some j=>
   refine⟨j,rfl,?_⟩
   have h':some ((σ[j]?).join)=some (some v):=h
   cases e2:σ[j]? with
   |none=>rw[e2] at h';cases h'
   |some w=>rw[e2] at h';exact congrArg some (Option.some.inj h')
theorem G6 (B:BlkOk X scope N' fm)(I:Inv X pins σ H s){C:Addr}{ex:List Addr}{h1:Heap}{tk:Nat}{m:Str->Option Value}(hC:s.heap.objs.size<=C)(hex:∀b∈ex,i5 X pins H b)(hlt:∀b∈ex,b<s.heap.objs.size)
  (hn:h1.Ns C m) (old:∀b o,s.heap.get? b=some o->h1.get? b=some o):Inv (X.blk scope N' C s H ex) [] (oP fm σ) H { s with heap:=h1,toks:=tk }:=by
 have sub:∀x c,(ki X.env.cells scope.names []).lookup x=some c->X.env.cells.lookup x=some c:=λx c h=>kO (B.has I.ok) (λ_ _ z=>by simp at z) h
 refine⟨Ln B I hC hex hlt,rfl,I.bare,Un.kept old,⟨m,hn,λi x v hi hσ hv=>?_⟩,λx c h=>?_,I.hok.fresh hC,λx c h=>I.freeC x c (sub x c h),λp hp=>absurd (show p∈([]:List (Addr×Obj)) from hp) (by simp),I.hok.kept old,?_⟩
 ·obtain⟨j,ej,es⟩:=uT hσ
  obtain⟨hN,hf,hk⟩:=B.out i j x ej hi
  obtain⟨m0,_,hl⟩:=I.loc
  obtain⟨u,r,l⟩:=hl j x v hN es (.inr (.inl hk))
  refine⟨u,r,.inr ⟨.inl (g8 I.ok.kind hf hk),?_⟩⟩
  rcases l with ⟨z,_⟩|⟨_,c,hc,z⟩
  ·rw[hk] at z;cases z
  ·obtain⟨c',hc'⟩:=a2a.mp (mB (cells:=X.env.cells) (acc:=[]) (PySem.mem_of_lookup hf))
   have e:=sub x c' hc'
   rw[hc] at e
   cases e
   exact⟨c,hc',z.keeps old⟩
 ·obtain⟨v,z⟩:=I.cell x c (sub x c h)
  exact⟨v,z.keeps old⟩
 ·show (oP fm σ).length=N'.length
  unfold oP
  rw[a0i]
  exact B.len
end
theorem kg {prog:Program}{w:World}{A:Around}{R:Result->Shared->Prop}{s:Shared}{elt target iter:Expr}{ifs:List Expr}{scope:Scope}{pos:Pos}{it acc:Value}{env:Env}(I:Nat->Shared->Prop)
  (turn:∀n s,I n s->wpAny (model prog w) A (pyNext it) (λr s₁=>match r with
   |none=>R (.ok .next) s₁
   |some v=>wpAny (model prog w) A (letOwnedTupleGo target it v) (λ_ s₁=>wpAny (model prog w) A (assign target env v) (λ_ s₂=>
     wpAny (model prog w) A (forIn ifs true λc r=>if r=true then do let ok ←isTrue c env (eval c env);pure (ForInStep.yield ok) else pure (ForInStep.yield r)) (λok s₃=>
      if ok=true then wpAny (model prog w) A (eval elt env) (λx s₄=>
       wpAny (model prog w) A (call (.builtin "list.append") [acc,x]) (λ_ s₅=>∃m,m<n/\I m s₅) (λ_ _=>False) s₄) (λ_ _=>False) s₃
      else ∃m,m<n/\I m s₃) (λ_ _=>False) s₂) (λ_ _=>False) s₁) (λ_ _=>False) s₁) (λ_ _=>False) s)
  (n:Nat) (h:I n s) :
  codeAny (model prog w) A (.compLoop (.ListComp elt [⟨target,iter,ifs,0⟩] scope pos) 0 it acc env) R s:=by
 refine codeAny_loop rfl I (λn s hI=>?_) n h
 show wpAny _ A ((compTurn (.ListComp elt [⟨target,iter,ifs,0⟩] scope pos) 0 it acc env).onRaise (λx=>do noteFrame x env;theTreesLotGoes x)) _ _ s
 refine wpAny_noted ?_
 rw[compTurn_list]
 refine wpAny_bind (wpAny_standAt (wpAny_bind (wpAny_mono (turn n s hI) (λr s₁ h₁=>?_) λ_ _ h'=>h'.elim)))
 cases r with
 |none=>exact wpAny_pure h₁
 |some v=>
  refine wpAny_bind (wpAny_mono h₁ (λ_ s₁ h₁=>?_) λ_ _ h'=>h'.elim)
  refine wpAny_bind (wpAny_mono h₁ (λ_ s₂ h₂=>wpAny_bind (wpAny_mono h₂ (λok s₃ h₃=>?_) λ_ _ h'=>h'.elim)) λ_ _ h'=>h'.elim)
  cases ok with
  |false=>exact wpAny_pure ⟨rfl,h₃⟩
  |true=>
   exact wpAny_bind (wpAny_bind (wpAny_mono h₃ (λx s₄ h₄=>wpAny_bind (wpAny_mono h₄ (λ_ s₅ h₅=>wpAny_pure (wpAny_pure ⟨rfl,h₅⟩)) λ_ _ h'=>h'.elim)) λ_ _ h'=>h'.elim))
theorem np:fillsNumberSlot (.type "tuple") "mul" = pure false:=by first|rfl|decide +kernel|kernel_rfl
theorem uh:seqRepeat? (.type "tuple")=pure (some (.builtin "tuple.__mul__")):=by
 unfold seqRepeat?
 rw[PySem.seqSlot_of (T:="tuple") (name:="__mul__") (id:="tuple.__mul__") PySem.F.slot_tuple_mul.lookup (by decide +kernel),PySem.seqSlot_of (T:="tuple") (name:="__rmul__") (id:="tuple.__rmul__") PySem.F.slot_tuple_rmul.lookup (by decide +kernel)]
 rfl
theorem pV (a:Int)(t:Tok)(l:Addr)(items:Array Value)(n:Nat)(dd:Option Addr)(sl:Array (Option Value)) :
  Meets (Builtin.«int.__rmul__» ⟨[.int a t,.ref l],[]⟩) (λ_ R s=>s.heap.get? l=some { cls:=.type "tuple",dict:=dd,data:=.seq items n,slots:=sl }/\R (.ok (.ret Value.notImplemented)) s):=
 .of_wp λprog w A R s h=>by obtain⟨hp,g,d,tk,os⟩:=s;obtain⟨hl,h⟩:=h;wp_walk;exact⟨_,rfl,h⟩
theorem qA (l:Addr)(items:Array Value)(n:Nat)(dd:Option Addr)(sl:Array (Option Value))(t:Tok) :
  Meets (Builtin.«tuple.__mul__» ⟨[.ref l,.int 1 t],[]⟩) (λ_ R s=>s.heap.get? l=some { cls:=.type "tuple",dict:=dd,data:=.seq items n,slots:=sl }/\R (.ok (.ret (Value.ref l))) s):=
 .of_wp λprog w A R s h=>by obtain⟨hp,g,d,tk,os⟩:=s;obtain⟨hl,h⟩:=h;have f1:=AutoSeq1.idx_int;have f2:=AutoSeq1.sub_tuple_tuple;have hc:(items.isEmpty || (1:Int)==1)=true:=(by simp);wp_walk using wpAny_loadPart' hl;exact⟨_,rfl,h⟩
theorem qT (l:Addr)(items:Array Value)(n:Nat)(dd:Option Addr)(sl:Array (Option Value))(k:Int)(t:Tok)(h1:¬(decide (k < -(2 ^ 63)) || decide (k >= 2 ^ 63))=true)(h2:¬(items.isEmpty || k==1)=true)(h3:¬(decide (k<=0) || items.isEmpty)=true)
  (h4:¬(items.size * k > (2 ^ 63 - 1) / 8)) (h5:¬Builtin.Tuple.tupleTooMany (items.size * k)=true) (h6:((a0r k.toNat items).foldl (·++·) #[]).size<=sizeLine) :
  Meets (Builtin.«tuple.__mul__» ⟨[.ref l,.int k t],[]⟩) (λ_ R s=>s.heap.get? l=some { cls:=.type "tuple",dict:=dd,data:=.seq items n,slots:=sl }/\R (.ok (.ret (Value.ref s.heap.objs.size))) { s with heap:=s.heap.push { cls:=Value.type "tuple",data:=Data.seq ((a0r k.toNat items).foldl (·++·) #[]) },toks:=s.toks }):=
 .of_wp λprog w A R s h=>by obtain⟨hp,g,d,tk,os⟩:=s;obtain⟨hl,h⟩:=h;have f1:=AutoSeq1.idx_int;have f2:=AutoSeq1.sub_tuple_tuple;wp_walk using wpAny_loadPart' hl;rw[if_neg h1];wp_walk using wpAny_loadPart' hl;rw[if_neg h4];(try dsimp only);rw[if_neg h5];wp_walk using wpAny_loadPart' hl;exact⟨_,rfl,h⟩
theorem lM (its:List Value)(m:Nat):a6c (λx1 x2=>x1++x2) #[] (a0r m its.toArray)=(a0r m its).flatten.toArray:=by
 have:=sv its m []
 rw[a2l] at this
 exact this
namespace HT
section
variable {prog:Program}{w:World}{A:Around}{E:Value->Shared->Prop}{s:Shared}
theorem mW {sl:Addr}{vst:Value}{n:Nat}{Q:Int×Int×Nat->Shared->Prop}(hs:s.heap.IsSliceOf sl .none .none vst)(Jz:IsPart vst (some (-1)))
  (h:Q ((n:Int) - 1,-1,n) s):wpAny (model prog w) A (Builtin.Slice.sliceApplied (.ref sl) (pure (n:Int))) Q E s:=by
 obtain⟨os,hos,hcs,hds⟩:=id hs
 unfold Builtin.Slice.sliceApplied Builtin.Slice.sliceFields
 refine wpAny_bind (wpAny_bind (wpAny_field hos hds (x:=.none) rfl (wpAny_bind (wpAny_field hos hds (x:=.none) rfl (wpAny_bind (wpAny_field hos hds (x:=vst) rfl (wpAny_pure ?_)))))))
 refine wpAny_bind (_root_.HT.slicePart_ Jz ?_)
 show wpAny _ _ (if ((-1:Int)==0)=true then _ else _) _ _ s
 rw[if_neg (by decide)]
 refine wpAny_bind (slicePart_none (wpAny_bind (slicePart_none (wpAny_bind (wpAny_pure ?_)))))
 have e1:Builtin.Slice.sliceAdjust none none (-1) (n:Int)=((n:Int) - 1,-1):=rfl
 have e2:Builtin.Slice.slicePlaces ((n:Int) - 1) (-1) (-1)=n:=by
  unfold Builtin.Slice.slicePlaces
  rw[if_neg (by decide)]
  by_cases hn:(n:Int) - 1 > -1
  ·rw[if_pos hn]
   have:((n:Int) - 1 - -1 - 1) / (- -1)=(n:Int) - 1:=by rw[show (- -1:Int)=1 by decide,a5r];omega
   rw[this];omega
  ·rw[if_neg hn];omega
 show wpAny _ _ (match Builtin.Slice.sliceAdjust none none (-1) (n:Int) with|(lo,hi)=>pure (lo,(-1:Int),Builtin.Slice.slicePlaces lo hi (-1))) _ _ s
 rw[e1]
 show wpAny _ _ (pure ((n:Int) - 1,(-1:Int),Builtin.Slice.slicePlaces ((n:Int) - 1) (-1) (-1))) _ _ s
 rw[e2]
 exact wpAny_pure h
theorem DE {α β:Type}{f:α->Option β}{g:α->β}:∀{l:List α},(∀k∈l,f k=some (g k))->l.filterMap f=l.map g
 |[],_=>rfl
 |a::r,h=>by
  rw[a3g,h a a0e,a1g,DE λk hk=>h k (a0c _ hk)]
theorem pick_rev (xs:List Value):(a0l xs.length).filterMap (λ(k:Nat)=>xs.toArray[(((xs.length:Nat):Int) - 1+(k:Int) * (-1)).toNat]?)=xs.reverse:=by
 rw[DE (g:=λk=>xs.getD (xs.length - 1 - k) .none)]
 ·apply a4e
  ·simp
  ·intro i h1 h2
   have h3:i<xs.length:=by simpa using h2
   have h4:xs.length - 1 - i<xs.length:=by omega
   rw[a4f,a3s,List.getElem_reverse]
   simp[h4]
 ·intro k hk
  have hk':k<xs.length:=a0z.mp hk
  have e1:(((xs.length:Nat):Int) - 1+(k:Int) * (-1)).toNat=xs.length - 1 - k:=by omega
  have h2:xs.length - 1 - k<xs.length:=by omega
  rw[e1]
  simp[h2]
theorem getItem_tuple_rev {t sl:Addr}{vs:List Value}{vst:Value}{Q:Value->Shared->Prop}(ht:IsTup s.heap t vs.toArray)(hs:s.heap.IsSliceOf sl .none .none vst)(Jz:IsPart vst (some (-1)))
  (h:Q (.ref s.heap.objs.size) { s with heap:=s.heap.push { cls:=.type "tuple",data:=.seq vs.reverse.toArray } })
  (hsz:vs.length<=sizeLine):wpAny (model prog w) A (getItem (.ref t) (.ref sl)) Q E s:=by
 have htake:sizeOk (.seq vs.reverse.toArray):=by
  show vs.reverse.toArray.size<=sizeLine
  rw[a0h,a3h]
  exact hsz
 obtain⟨os,hos,hcs,hds⟩:=id hs
 have hTs:s.TypeIs (.ref sl) "slice":=⟨os,hos,hcs⟩
 unfold getItem
 try with_reducible refine wpAny_holding ?_
 first|refine wpAny_bind (wpAny_pure ?_)|skip
 refine wpAny_bind (wpAny_sequenceKey ht.typeIs (by decide) ?_)
 refine wpAny_bind (wpAny_callSpecial?_slot (name:=Str.ofString "__getitem__") ht.typeIs PyProof.Rows.slot_tuple_getitem
  (wpAny_call_entry PyProof.Rows.slot_tuple_getitem ht.typeIs entry_tuple_getitem ?_ (args_tuple_getitem _ _)))
 show wpAny _ _ (Builtin.Tuple.tupleItemsOf (.ref t) >>= _) _ _ s
 refine wpAny_bind (tupleItemsOf_ ht ?_)
 refine wpAny_bind (wpAny_typeOf hTs ?_)
 rw[if_pos (by decide)]
 have e0:(vs.toArray.size:Nat)=vs.length:=a0h
 rw[e0]
 refine wpAny_bind (mW hs Jz ?_)
 show wpAny _ _ (if ((((vs.length:Nat):Int) - 1)==0&&(-1:Int)==1&&vs.length==vs.length)=true then _ else _) _ _ s
 have hno:¬(((((vs.length:Nat):Int) - 1)==0&&(-1:Int)==1&&vs.length==vs.length)=true):=by
  rw[show ((-1:Int)==1)=false by decide,a5k,Bool.false_and]
  exact a0u
 rw[if_neg hno,pick_rev]
 first
  |exact wpAny_bind (m:=Builtin.Tuple.tupleExact _) (wpAny_newObj_type (wpAny_pure ⟨_,rfl,wpAny_pure h⟩) htake)
  |exact wpAny_bind (m:=Builtin.Tuple.tupleExact _) (wpAny_newObj_type (wpAny_bind (wpAny_pure (wpAny_pure ⟨_,rfl,wpAny_pure h⟩))) htake)
  |exact wpAny_bind (wpAny_bind (m:=Builtin.Tuple.tupleExact _) (wpAny_newObj_type (wpAny_pure (wpAny_pure ⟨_,rfl,wpAny_pure h⟩)) htake))
end
end HT
end L2
end
section
namespace L2
open PySem PySem.Spec PyProof.Rows PySem.W
noncomputable def Leaf {α:Type}(n:Nat)(P:α->Prop):KasT α->Prop
 |.ret a=>P a
 |.ask i j k=>i<n/\j<n/\∀b,Leaf n P (k b)
theorem Leaf.bind {α β:Type}{n:Nat}{P:α->Prop}{R:β->Prop}{f:α->KasT β}(hf:∀a,P a->Leaf n R (f a)):∀{t:KasT α},Leaf n P t->Leaf n R (t.bind f)
 |.ret a,h=>hf a h
 |.ask i j k,h=>⟨h.1,h.2.1,λb=>Leaf.bind hf (h.2.2 b)⟩
noncomputable abbrev OfN (n:Nat)(p:Array Nat):Prop:=p.toList.Perm (a0l n)
theorem OfN.lt {n:Nat}{p:Array Nat}(h:OfN n p)(hn:0<n)(k:Nat):p.getD k 0<n:=by
 by_cases hk:k<p.size
 ·have e:p.getD k 0=p[k]:=by simp[Array.getD,hk]
  rw[e]
  exact a0z.mp (h.subset (by simp))
 ·have e:p.getD k 0=0:=by simp[Array.getD,hk]
  rw[e];exact hn
theorem OfN.rev {n:Nat}{p:Array Nat}(h:OfN n p)(i j:Nat):OfN n (kas_rev p i j):=(mirror_perm p i j _).toList.trans h
theorem OfN.bub {n:Nat}{p:Array Nat}(h:OfN n p)(i j:Nat):OfN n (bubble p i j):=(bubble_perm p i j).toList.trans h
theorem pH {n:Nat}{p:Array Nat}(hp:OfN n p)(hn:0<n):∀f k,Leaf n (λ_=>True) (kas_asc p f k)
 |0,_=>True.intro
 |f+1,k=>⟨hp.lt hn _,hp.lt hn _,λb=>by
  cases b with
  |true=>exact True.intro
  |false=>exact pH hp hn f (k+1)⟩
theorem kP {n:Nat}(hn:0<n):∀f (p:Array Nat) k q,OfN n p->Leaf n (λr=>OfN n r.1) (kas_desc f p k q)
 |0,_,_,_,hp=>hp
 |f+1,p,k,q,hp=>⟨hp.lt hn _,hp.lt hn _,λb=>by
  cases b with
  |true=>
   show Leaf n _ (if q > 0 then kas_desc f (kas_rev p (k - (q+1)) k) (k+1) 0 else kas_desc f p (k+1) 0)
   split
   ·exact kP hn f _ _ _ (hp.rev _ _)
   ·exact kP hn f _ _ _ hp
  |false=>
   refine⟨hp.lt hn _,hp.lt hn _,λc=>?_⟩
   cases c with
   |true=>exact hp
   |false=>exact kP hn f _ _ _ hp⟩
theorem qn {n:Nat}(hn:0<n){p:Array Nat}(hp:OfN n p)(a b:Nat):Leaf n (λr=>OfN n r.2) (kas_tail3 a b p):=by
 unfold kas_tail3
 exact Leaf.bind (P:=λ_=>True) (R:=λr:Nat×Array Nat=>OfN n r.2) (f:=λm=>KasT.ret (m,kas_rev p 0 a)) (λm _=>(show OfN n (kas_rev p 0 a) from hp.rev 0 a)) (pH (hp.rev 0 a) hn _ _)
theorem k7 {n:Nat}(hn:0<n){p:Array Nat}(hp:OfN n p)(a b:Nat):Leaf n (λr=>OfN n r.2) (kas_descPart a b p):=by
 refine Leaf.bind (λr hr=>?_) (kP hn _ _ _ _ hp)
 split
 ·exact qn hn (OfN.rev hr _ _) _ _
 ·exact qn hn hr _ _
theorem xh {n:Nat}(hn:0<n){p:Array Nat}(hp:OfN n p)(b:Nat):Leaf n (λr=>OfN n r.2) (kas_count b p):=by
 refine Leaf.bind (λr _=>?_) (pH hp hn _ _)
 split
 ·exact hp
 ·split
  ·refine⟨hp.lt hn _,hp.lt hn _,λc=>?_⟩
   cases c with
   |true=>exact hp
   |false=>exact k7 hn (hp.rev _ _) _ _
  ·exact k7 hn hp _ _
theorem lC {n:Nat}(hn:0<n){p:Array Nat}(hp:OfN n p)(k:Nat):∀f l r,Leaf n (λ_=>True) (kas_place p k f l r)
 |0,_,_=>True.intro
 |f+1,l,r=>by
  show Leaf n _ (if l >= r then .ret l else .ask (p.getD k 0) (p.getD ((l+r) / 2) 0) λc=>if c=true then kas_place p k f l ((l+r) / 2) else kas_place p k f ((l+r) / 2+1) r)
  split
  ·exact True.intro
  ·refine⟨hp.lt hn _,hp.lt hn _,λc=>?_⟩
   cases c with
   |true=>exact lC hn hp k f _ _
   |false=>exact lC hn hp k f _ _
theorem vf {n:Nat}(hn:0<n):∀f (p:Array Nat) k,OfN n p->Leaf n (OfN n) (kas_bin f p k)
 |0,_,_,hp=>hp
 |f+1,p,k,hp=>Leaf.bind (λl _=>vf hn f _ _ (hp.bub _ _)) (lC hn hp k _ _ _)
theorem rF {n:Nat}(hn:0<n):Leaf n (OfN n) (kas_sort n):=by
 refine Leaf.bind (λr hr=>?_) (xh hn (show OfN n (List.toArray (a0l n)) from .refl _) n)
 split
 ·exact vf hn _ _ _ hr
 ·exact hr
theorem HOk.stands {P:Program}{w:World}{H:Hp}{h:Heap}{a:Addr}{o:HO}(x:HOk P w H h)(e:H a=some o):∃ob,h.get? a=some ob:=by
 have y:=x a o e
 cases o with
 |lst xs=>obtain⟨_,_,_,_,z⟩:=y;exact⟨_,z⟩
 |tup xs=>obtain⟨_,_,_,ob,z,_⟩:=y;exact⟨_,z⟩
 |dK kvs=>obtain⟨_,_,_,_,ob,_,_,z,_⟩:=y;exact⟨_,z⟩
 |dT kvs=>obtain⟨_,_,_,_,ob,_,_,z,_⟩:=y;exact⟨_,z⟩
 |set S n=>obtain⟨ob,_,_,_,z,_⟩:=y;exact⟨_,z⟩
 |ins C dx fs=>obtain⟨_,_,_,z,_⟩:=y;exact⟨_,z⟩
 |own y'=>exact y
 |xd fs=>obtain⟨_,⟨ob,_,_,z,_⟩,_⟩:=y;exact⟨_,z⟩
 |rng lo hi=>obtain⟨_,_,_,z⟩:=y;exact⟨_,z⟩
 |frz ob u=>exact⟨_,y.1⟩
 |tbl ps=>exact⟨_,(show h.get? a=some { cls:=.none,data:=.fields ps } from y)⟩
 |met f y'=>exact⟨_,(show h.get? a=some (PySem.W.methodObj (.ref f) (.ref y')) from y)⟩
 |ext φ=>exact y.2.1
theorem Jd {h:Heap}{L:Addr}{m m':Str->Option Value}(a:h.Ns L m)(b:h.Ns L m'):m=m':=by
 obtain⟨o,es,ep,h1,h2,h3,h4⟩:=a
 obtain⟨o',es',ep',h1',h2',h3',h4'⟩:=b
 rw[h1] at h1'
 cases h1'
 rw[h2] at h2'
 cases h2'
 funext x
 rw[←h4 x,←h4' x]
section
variable {prog:Program}{w:World}{A:Around}{E:Value->Shared->Prop}{s:Shared}
theorem xa {a:Addr}{vs:List Value}{n:Nat}{P:PySem.Fin->Shared->Prop}(ho:s.heap.get? a=some (seqObj "list" vs.toArray n))(h2:vs.length<2)
  (h:P (.done (.ret .none)) { s with heap:=sortedHeap s.heap a vs vs.toArray }):wpAny (model prog w) A (Builtin.«list.sort» ⟨[.ref a],[]⟩) P E s:=by
 rw[list_sort_plain]
 have ha:=Heap.lt_size ho
 refine wpAny_bind (listItems_at ho rfl (wpAny_bind (listUpdate_at ho rfl ?_ (by rw[a0h,sizeLine_eq];omega) (a3b _))))
 obtain⟨e1,ho1⟩:∃e1,(s.heap.update a (Obj.mapSeq λ_=>(#[]:Array Value))).get? a=some (seqObj "list" #[] e1):=⟨_,get?_update_seq ho λ_=>#[]⟩
 refine wpAny_bind (seqEpoch_at ho1 rfl (wpAny_bind (wpAny_newTuple (wpAny_bind (wpAny_newList (wpAny_holding ?_) (a3b _))) (by show vs.length<=_;rw[sizeLine_eq];omega))))
 have ho6:(((s.heap.update a (Obj.mapSeq λ_=>(#[]:Array Value))).push (seqObj "tuple" vs.toArray 0)).push (seqObj "list" #[] 0)).get? a=some (seqObj "list" #[] e1):=Heap.get?_push_of_some _ (Heap.get?_push_of_some _ ho1)
 show wpAny (model prog w) A _ P E { s with heap:=((s.heap.update a (Obj.mapSeq λ_=>(#[]:Array Value))).push (seqObj "tuple" vs.toArray 0)).push (seqObj "list" #[] 0) }
 dsimp only
 have hlt:vs.toArray.size<2:=by rw[a0h];exact h2
 rw[if_pos hlt,if_pos hlt]
 refine wpAny_bind (wpAny_pure ?_)
 rw[StateT.run_pure]
 have hsn:(arrOf (SortSt.mk' general' (vs.toArray.zip vs.toArray) #[] 7 none)).map (·.2)=vs.toArray:=by
  show (vs.toArray.zip vs.toArray).map (·.2)=vs.toArray
  apply Array.toList_inj.mp
  simp
  exact List.map_snd_zip (by simp)
 refine wpAny_bind (wpAny_pure ?_)
 dsimp only
 refine wpAny_bind (seqEpoch_at ho6 rfl ?_)
 refine wpAny_bind (listUpdate_at ho6 rfl ?_ (a3b _) (by rw[hsn,a0h,sizeLine_eq];omega))
 simp only[bne_self_eq_false,a1z,if_false]
 rw[hsn]
 exact wpAny_pure h
theorem tN {l:Addr}{vs:List Value}{Q:Value->Shared->Prop}(hl:s.heap.IsList l vs.toArray)(h2:vs.length<2)(h:Q (.ref (s.heap.objs.size+1)) { s with heap:=sortedAll s.heap vs vs.toArray }) :
  wpAny (model prog w) A (call (.builtin "sorted") [.ref l]) Q E s:=by
 refine Calls.call_function_entry kind_sorted plain_sorted entry_sorted (args_sorted1 _) ?_
 unfold Builtin.«sorted»
 refine wpAny_bind (m:=checkCount "sorted" 1 1 _) (wpAny_pure (wpAny_bind (collect_list hl (wpAny_bind (wpAny_newList ?_ (by rw[sizeLine_eq];omega))) (by rw[sizeLine_eq];omega))))
 have hsz:((s.heap.push (seqObj "list" #[] 0)).update s.heap.objs.size (Obj.mapSeq (·++vs.toArray))).objs.size=s.heap.objs.size+1:=(Heap.size_update ..).trans (size_push' ..)
 have hoL:(((s.heap.push (seqObj "list" #[] 0)).update s.heap.objs.size (Obj.mapSeq (·++vs.toArray))).push (seqObj "list" vs.toArray 0)).get? (s.heap.objs.size+1)=some (seqObj "list" vs.toArray 0):=hsz▸Heap.get?_push_size _ rfl
 show wpAny _ _ _ _ _ { s with heap:=((s.heap.push (seqObj "list" #[] 0)).update s.heap.objs.size (Obj.mapSeq (·++vs.toArray))).push (seqObj "list" vs.toArray 0) }
 rw[hsz]
 refine wpAny_bind (wpAny_holding (wpAny_call_entry slot_list_sort ⟨_,hoL,rfl⟩ entry_list_sort (xa hoL h2 ⟨_,rfl,?_⟩) (args_list_sort _)))
 exact wpAny_pure ⟨_,rfl,h⟩
end
end L2
end
section
namespace Dp
open PySem PySem.Spec L2 PyProof.Rows
inductive PV where
 |non|bl (b:Bool)|int (i:Int)|str (x:Str)|ty (n:String)|fn (x:Str)
 |tup (ps:List PV)|lst (ps:List PV)|dct (ks:List cR) (ps:List PV)
 |src (ps:List PV)|ktu (ps:List PV)
 |rng (lo hi:Int)
 |exn (C:Addr)
 |set (ps:List PV)
noncomputable def ja:PV->Bool
 |.non=>true
 |.bl _=>true
 |.int _=>true
 |.str _=>true
 |.ty _=>true
 |_=>false
structure Cn where
 ok:Addr->Prop
 P:Program
 w:World
 mg:Str->Option Value
noncomputable def d9 (its:List Value)(n:Nat):Obj:={ cls:=.type "list",data:=.seq its.toArray n }
mutual
noncomputable def D1 (top:Addr->Prop)(c:Cn)(h:Heap):PV->Value->Prop
 |.non,u=>u=.none
 |.bl b,u=>u=.bool b
 |.int i,u=>∃t,u=.int i t
 |.str x,u=>∃t,u=.str x t
 |.ty n,u=>u=.type n
 |.fn x,u=>∃a,c.mg x=some (.ref a)/\u=.ref a
 |.tup ps,u=>∃a its,u=.ref a/\top a/\IsTup h a its.toArray/\its.length<=sizeLine/\Ds c h ps its
 |.lst ps,u=>∃a its n,u=.ref a/\top a/\h.get? a=some (d9 its n)/\its.length<=sizeLine/\Ds c h ps its
 |.ktu ps,u=>∃a its,u=.ref a/\top a/\IsTup h a its.toArray/\its.length<=sizeLine/\Ds c h ps its
 |.src ps,u=>∃a its n,u=.ref a/\top a/\h.get? a=some (d9 its n)/\its.length<=sizeLine/\Ds c h ps its
 |.dct ks ps,u=>∃a kus,u=.ref a/\top a/\(a==sysModules)=false/\h.DictOf (bB c.P c.w) a kus/\kus.length<=sizeLine/\kus.map (·.1)=ks/\Ds c h ps (kus.map (·.2))
 |.rng lo hi,u=>∃a t1 t2 t3,u=.ref a/\top a/\h.get? a=some { cls:=.type "range",data:=.fields #[.int lo t1,.int hi t2,.int 1 t3] }
 |.exn C,u=>∃a o,u=.ref a/\top a/\h.get? a=some o/\o.cls=.ref C
 |.set ps,u=>False
noncomputable def Ds (c:Cn)(h:Heap):List PV->List Value->Prop
 |[],us=>us=[]
 |p::ps,us=>∃u r,us=u::r/\D1 c.ok c h p u/\Ds c h ps r
end
noncomputable abbrev D (c:Cn)(h:Heap):PV->Value->Prop:=D1 c.ok c h
noncomputable abbrev Rd (c:Cn)(h:Heap):PV->Value->Prop:=D1 (λ_=>True) c h
section
variable {c c':Cn}{h h':Heap}
theorem Ds.length:∀{ps:List PV} {us:List Value},Ds c h ps us->us.length=ps.length
 |[],_,e=>by rw[show _=[] from e];rfl
 |_::_,_,⟨u,r,e,_,t⟩=>by rw[e,a0p,a0p,t.length]
structure Kp (c c':Cn)(h h':Heap):Prop where
 P:c'.P=c.P
 w:c'.w=c.w
 mg:c'.mg=c.mg
 kp:∀a o,c.ok a->h.get? a=some o->c'.ok a/\h'.get? a=some o
mutual
theorem D1.mono {top top':Addr->Prop}(k:Kp c c' h h')(kt:∀a o,top a->h.get? a=some o->top' a/\h'.get? a=some o):∀{p:PV} {u:Value},D1 top c h p u->D1 top' c' h' p u
 |.non,_,e=>e
 |.bl _,_,e=>e
 |.int _,_,e=>e
 |.str _,_,e=>e
 |.ty _,_,e=>e
 |.fn _,_,⟨a,m,e⟩=>⟨a,by rw[k.mg];exact m,e⟩
 |.tup ps,_,⟨a,its,e,q,⟨o,ho,r⟩,z,t⟩=>⟨a,its,e,(kt _ _ q ho).1,⟨o,(kt _ _ q ho).2,r⟩,z,Ds.mono k t⟩
 |.ktu ps,_,⟨a,its,e,q,⟨o,ho,r⟩,z,t⟩=>⟨a,its,e,(kt _ _ q ho).1,⟨o,(kt _ _ q ho).2,r⟩,z,Ds.mono k t⟩
 |.lst ps,_,⟨a,its,n,e,q,ho,z,t⟩=>⟨a,its,n,e,(kt _ _ q ho).1,(kt _ _ q ho).2,z,Ds.mono k t⟩
 |.src ps,_,⟨a,its,n,e,q,ho,z,t⟩=>⟨a,its,n,e,(kt _ _ q ho).1,(kt _ _ q ho).2,z,Ds.mono k t⟩
 |.dct ks ps,_,⟨a,kus,e,q,y,⟨o,es,ep,ho,r⟩,z,m,t⟩=>⟨a,kus,e,(kt _ _ q ho).1,y,by rw[k.P,k.w];exact⟨o,es,ep,(kt _ _ q ho).2,r⟩,z,m,Ds.mono k t⟩
 |.rng _ _,_,⟨a,t1,t2,t3,e,q,ho⟩=>⟨a,t1,t2,t3,e,kt _ _ q ho⟩
 |.exn C,_,⟨a,o,e,q,ho,r⟩=>⟨a,o,e,(kt _ _ q ho).1,(kt _ _ q ho).2,r⟩
 |.set _,_,e=>e
theorem Ds.mono (k:Kp c c' h h'):∀{ps:List PV} {us:List Value},Ds c h ps us->Ds c' h' ps us
 |[],_,e=>e
 |_::_,_,⟨u,r,e,d,t⟩=>⟨u,r,e,D1.mono k k.kp d,Ds.mono k t⟩
end
theorem D1.m {p:PV}{u:Value}(d:D c h p u)(k:Kp c c' h h'):D c' h' p u:=D1.mono k k.kp d
theorem D1.rd {p:PV}{u:Value}{top:Addr->Prop}(d:D1 top c h p u):Rd c h p u:=D1.mono ⟨rfl,rfl,rfl,λ_ _ q e=>⟨q,e⟩⟩ (λ_ _ _ e=>⟨trivial,e⟩) d
theorem Kp.refl:Kp c c h h:=⟨rfl,rfl,rfl,λ_ _ q e=>⟨q,e⟩⟩
theorem Ds.get:∀{ps:List PV} {us:List Value} {i:Nat} {p:PV},Ds c h ps us->ps[i]?=some p->∃u,us[i]?=some u/\D c h p u
 |[],_,i,p,_,e=>by simp at e
 |_::_,_,0,_,⟨u,r,e,d,t⟩,q=>by simp at q;subst q;exact⟨u,by rw[e];rfl,d⟩
 |_::ps,_,i+1,p,⟨u,r,e,d,t⟩,q=>by
  obtain⟨v,h1,h2⟩:=t.get (i:=i) (p:=p) (by simpa using q)
  exact⟨v,by rw[e];simpa using h1,h2⟩
theorem Ds.app:∀{ps qs:List PV} {us vs:List Value},Ds c h ps us->Ds c h qs vs->Ds c h (ps++qs) (us++vs)
 |[],_,_,_,e,q=>by rw[show _=[] from e];exact q
 |_::_,_,_,_,⟨u,r,e,d,t⟩,q=>⟨u,_,by rw[e];rfl,d,t.app q⟩
theorem Ds.one {p:PV}{u:Value}(d:D c h p u):Ds c h [p] [u]:=⟨u,[],rfl,d,rfl⟩
theorem Ds.cons {p:PV}{u:Value}{ps:List PV}{us:List Value}(d:D c h p u)(t:Ds c h ps us):Ds c h (p::ps) (u::us):=⟨u,us,rfl,d,t⟩
theorem Ds.set {p:PV}{u:Value}(d:D c h p u):∀{ps:List PV} {us:List Value} (i:Nat),Ds c h ps us->Ds c h (ps.set i p) (us.set i u)
 |[],_,_,q=>by rw[show _=[] from q];rfl
 |_::_,_,0,⟨v',r,e,_,t⟩=>by rw[e];exact⟨u,r,rfl,d,t⟩
 |_::_,_,i+1,⟨v',r,e,h',t⟩=>by rw[e];exact⟨v',_,rfl,h',Ds.set d i t⟩
theorem Ds.take:∀{ps:List PV} {us:List Value} (n:Nat),Ds c h ps us->Ds c h (ps.take n) (us.take n)
 |_,_,0,_=>by simp[Ds]
 |[],_,_+1,q=>by rw[show _=[] from q];rfl
 |_::_,_,n+1,⟨v,r,e,d,t⟩=>by rw[e];exact⟨v,_,rfl,d,t.take n⟩
theorem Ds.drop:∀{ps:List PV} {us:List Value} (n:Nat),Ds c h ps us->Ds c h (ps.drop n) (us.drop n)
 |_,_,0,q=>q
 |[],_,_+1,q=>by rw[show _=[] from q];rfl
 |_::_,_,n+1,⟨v,r,e,d,t⟩=>by rw[e];exact t.drop n
theorem Ds.rev:∀{ps:List PV} {us:List Value},Ds c h ps us->Ds c h ps.reverse us.reverse
 |[],_,q=>by rw[show _=[] from q];rfl
 |_::_,_,⟨v,r,e,d,t⟩=>by rw[e,a3x,a3x];exact t.rev.app (.one d)
theorem Ds.rep {ps:List PV}{us:List Value}(d:Ds c h ps us):∀n,Ds c h (a0r n ps).flatten (a0r n us).flatten
 |0=>rfl
 |n+1=>d.app (Ds.rep d n)
theorem Ds.of:∀{ps:List PV} {us:List Value},us.length=ps.length->(∀(i:Nat) p u,ps[i]?=some p->us[i]?=some u->D c h p u)->Ds c h ps us
 |[],[],_,_=>rfl
 |p::ps,u::us,hl,hd=>⟨u,us,rfl,hd 0 p u rfl rfl,Ds.of (by simpa using hl) λi p u h1 h2=>hd (i+1) p u (by simpa using h1) (by simpa using h2)⟩
 |[],_::_,hl,_=>by cases hl
 |_::_,[],hl,_=>by cases hl
theorem D1.v {top:Addr->Prop}{p:PV}{u:Value}(d:D1 top c h p u):∃v,iC v u/\∀u',iC v u'->D1 top c h p u':=by
 cases p with
 |non=>exact⟨.non,d,λ_ r=>r⟩
 |bl b=>exact⟨.bl b,d,λ_ r=>r⟩
 |int i=>exact⟨.int i,d,λ_ r=>r⟩
 |str i=>exact⟨.str i,d,λ_ r=>r⟩
 |ty i=>exact⟨.ty i,d,λ_ r=>r⟩
 |fn i=>obtain⟨a,m,e⟩:=d;exact⟨.ref a,e,λ_ r=>⟨a,m,r⟩⟩
 |set i=>exact (show False from d).elim
 |tup|lst|ktu|src|dct|rng|exn=>
  obtain⟨a,r,x⟩:=id d
  first
   |exact⟨.ref a,x.1,λu' q=>by rw[show u'=.ref a from q];exact⟨a,r,rfl,x.2⟩⟩
   |(obtain⟨n,x⟩:=x;exact⟨.ref a,x.1,λu' q=>by rw[show u'=.ref a from q];exact⟨a,r,n,rfl,x.2⟩⟩)
   |(obtain⟨n,m,x⟩:=x;exact⟨.ref a,x.1,λu' q=>by rw[show u'=.ref a from q];exact⟨a,r,n,m,rfl,x.2⟩⟩)
end
inductive Sl where
 |val (p:PV)|own (ps:List PV)|dic (ks:List cR) (ps:List PV)
noncomputable abbrev ao:=List (Option Sl)
noncomputable abbrev aW:HO:=.ext λ_=>True
noncomputable def j0 (bad:Addr->Prop)(H:Hp)(a:Addr):Prop:=H a=none/\¬bad a
structure Z (X:Cx) where
 bad:Addr->Prop
 pins:List (Addr×Obj)
 σ:L2.St
 H:Hp
 ρ:ao
noncomputable abbrev bC (X:Cx)(bad:Addr->Prop)(H:Hp):Cn:=⟨j0 bad H,X.prog,X.w,X.mg⟩
noncomputable abbrev Z.cn {X:Cx}(z:Z X):Cn:=bC X z.bad z.H
noncomputable def DictAt (c:Cn)(h:Heap)(a:Addr)(ks:List cR)(ps:List PV):Prop:=∃kus,(a==sysModules)=false/\h.DictOf (bB c.P c.w) a kus/\kus.length<=sizeLine/\kus.map (·.1)=ks/\Ds c h ps (kus.map (·.2))
noncomputable def ListAt (c:Cn)(h:Heap)(a:Addr)(ps:List PV):Prop:=∃its n,h.get? a=some (d9 its n)/\its.length<=sizeLine/\Ds c h ps its
noncomputable def SlOk (c:Cn)(H:Hp)(h:Heap):Sl->V->Prop
 |.val p,v=>∀u,iC v u->D c h p u
 |.own ps,v=>∃a,v=.ref a/\H a=some aW/\ListAt c h a ps
 |.dic ks ps,v=>∃a,v=.ref a/\H a=some aW/\DictAt c h a ks ps
noncomputable def cw:Sl->Bool
 |.val _=>false
 |_=>true
noncomputable def bx (σ:L2.St)(ρ:ao)(i:Nat)(a:Addr):Prop:=(∃s,ρ[i]?=some (some s)/\cw s=true)/\σ[i]?=some (some (.ref a))
structure Z.ok {X:Cx}(z:Z X)(s:Shared):Prop where
 I:Inv X z.pins z.σ z.H s
 len:z.σ.length=z.ρ.length
 slk:∀(i:Nat) t,z.ρ[i]?=some (some t)->∃v,z.σ[i]?=some (some v)/\(∃u,iC v u)/\SlOk z.cn z.H s.heap t v
 dj:∀i j a,bx z.σ z.ρ i a->bx z.σ z.ρ j a->i=j
 nb:∀i a,bx z.σ z.ρ i a->¬z.bad a/\(X.s₀.heap.get? a=none\/X.H₀ a≠none)
 oh:∀b o,z.H b=some o->o=aW
 oh0:∀b o,X.H₀ b=some o->o=aW
 loc:z.bad X.env.locals
 cel:∀x c,X.env.cells.lookup x=some c->z.bad c
 fs:∀b∈X.fs,z.bad b
 ex:∀b∈X.ex,z.bad b
 there:∀b,z.bad b->∃o,s.heap.get? b=some o
 bs:∀b o,X.base.get? b=some o->¬z.bad b
 ot:∀a o,z.H a=some o->¬z.bad a/\∃ob,s.heap.get? a=some ob/\ob.cls≠.type "tuple"
 anc:X.fn "" = true->∀a,X.H₀ a≠none->z.σ[0]?=some (some (.ref a))
structure Ext (bad:Addr->Prop)(h h':Heap):Prop where
 kp:∀a o,¬bad a->h.get? a=some o->h'.get? a=some o
 th:∀a o,h.get? a=some o->∃o',h'.get? a=some o'
theorem Ext.refl {bad:Addr->Prop}{h:Heap}:Ext bad h h:=⟨λ_ _ _ e=>e,λ_ o e=>⟨o,e⟩⟩
theorem Ext.trans {bad:Addr->Prop}{h h1 h2:Heap}(a:Ext bad h h1)(b:Ext bad h1 h2):Ext bad h h2:=
 ⟨λx o n e=>b.kp x o n (a.kp x o n e),λx o e=>let ⟨o',q⟩:=a.th x o e;b.th x o' q⟩
theorem Ext.kept {bad:Addr->Prop}{h h':Heap}(k:∀b u,h.get? b=some u->h'.get? b=some u):Ext bad h h':=⟨λa o _ e=>k a o e,λa o e=>⟨o,k a o e⟩⟩
section
variable {X:Cx}{z:Z X}{s s' s1 s2:Shared}{h h':Heap}
theorem Ext.kpD {bad:Addr->Prop}{H:Hp}(e:Ext bad h h'):Kp (bC X bad H) (bC X bad H) h h':=⟨rfl,rfl,rfl,λa o q g=>⟨q,e.kp a o q.2 g⟩⟩
theorem ListAt.mono {c c':Cn}{a:Addr}{ps:List PV}(k:Kp c c' h h')(q:∀o,h.get? a=some o->h'.get? a=some o):ListAt c h a ps->ListAt c' h' a ps
 |⟨its,n,e,z,t⟩=>⟨its,n,q _ e,z,t.mono k⟩
theorem DictAt.mono {c c':Cn}{a:Addr}{ks:List cR}{ps:List PV}(k:Kp c c' h h')(q:∀o,h.get? a=some o->h'.get? a=some o):DictAt c h a ks ps->DictAt c' h' a ks ps
 |⟨kus,y,⟨o,es,ep,e,r⟩,z,m,t⟩=>⟨kus,y,by rw[k.P,k.w];exact⟨o,es,ep,q _ e,r⟩,z,m,t.mono k⟩
theorem SlOk.mono {c c':Cn}{H:Hp}(k:Kp c c' h h')(q:∀a o,H a=some aW->h.get? a=some o->h'.get? a=some o):∀{t:Sl} {v:V},SlOk c H h t v->SlOk c' H h' t v
 |.val p,_,d=>λu r=>(d u r).m k
 |.own ps,_,⟨a,e,o,d⟩=>⟨a,e,o,d.mono k (q a · o)⟩
 |.dic ks ps,_,⟨a,e,o,d⟩=>⟨a,e,o,d.mono k (q a · o)⟩
noncomputable def Z.go (z:Z X)(s s':Shared):Prop:=z.ok s'/\Ext z.bad s.heap s'.heap
theorem Z.ok.stands (h:z.ok s){a:Addr}{o:HO}(e:z.H a=some o):∃ob,s.heap.get? a=some ob:=h.I.hok.stands e
theorem Z.ok.free (h:z.ok s){a:Addr}(e:s.heap.get? a=none):j0 z.bad z.H a:=by
 refine⟨?_,λb=>?_⟩
 ·cases q:z.H a with
  |none=>rfl
  |some o=>obtain⟨ob,r⟩:=h.stands q;rw[e] at r;cases r
 ·obtain⟨o,r⟩:=h.there a b;rw[e] at r;cases r
theorem Z.ok.own_nb (h:z.ok s){i:Nat}{t:Sl}{a:Addr}(e:z.ρ[i]?=some (some t))(o:cw t=true)(q:z.σ[i]?=some (some (.ref a))):¬z.bad a:=(h.nb i a ⟨⟨t,e,o⟩,q⟩).1
theorem SlOk.step {z:Z X}(hz:z.ok s)(e:Ext z.bad s.heap h'){i:Nat}{t:Sl}{v:V}(e1:z.ρ[i]?=some (some t))(e2:z.σ[i]?=some (some v)):SlOk z.cn z.H s.heap t v->SlOk z.cn z.H h' t v:=λq=>by
 cases t with
 |val p=>exact λu r=>(q u r).m e.kpD
 |own ps=>obtain⟨a,rfl,o,d⟩:=q;exact⟨a,rfl,o,d.mono e.kpD λo'=>e.kp a o' (hz.own_nb e1 rfl e2)⟩
 |dic ks ps=>obtain⟨a,rfl,o,d⟩:=q;exact⟨a,rfl,o,d.mono e.kpD λo'=>e.kp a o' (hz.own_nb e1 rfl e2)⟩
theorem Z.ok.ext (hz:z.ok s)(I:Inv X z.pins z.σ z.H s')(e:Ext z.bad s.heap s'.heap):z.go s s':=
 ⟨⟨I,hz.len,λi t q=>by
  obtain⟨v,e1,r,d⟩:=hz.slk i t q
  exact⟨v,e1,r,d.step hz e q e1⟩,hz.dj,hz.nb,hz.oh,hz.oh0,hz.loc,hz.cel,hz.fs,hz.ex,λb q=>let ⟨o,r⟩:=hz.there b q;e.th b o r,hz.bs,λa o q=>⟨(hz.ot a o q).1,let ⟨ob,r1,r2⟩:=(hz.ot a o q).2;⟨ob,e.kp a ob (hz.ot a o q).1 r1,r2⟩⟩,hz.anc⟩,e⟩
theorem Z.ok.kept (hz:z.ok s){t:Nat}(k:∀b u,s.heap.get? b=some u->h'.get? b=some u):z.go s { s with heap:=h',toks:=t }:=hz.ext (hz.I.kept (t':=t) k) (.kept k)
theorem Z.ok.tok (hz:z.ok s)(t:Nat):z.go s { s with toks:=t }:=hz.kept (h':=s.heap) λ_ _ e=>e
theorem Z.ok.push (hz:z.ok s)(o:Obj)(t:Nat):z.go s { s with heap:=s.heap.push o,toks:=t }:=hz.kept λ_ _ e=>Heap.get?_push_of_some _ e
theorem Z.ok.refl (hz:z.ok s):z.go s s:=⟨hz,.refl⟩
theorem Z.go.trans (a:z.go s s1)(b:z.go s1 s2):z.go s s2:=⟨b.1,a.2.trans b.2⟩
end
inductive RV where
 |fz (p:PV)|nw (ps:List PV)|ln (p:PV)
noncomputable def RV.pv:RV->PV
 |.fz p=>p
 |.nw ps=>.lst ps
 |.ln p=>p
noncomputable def RV.fr:RV->Option PV
 |.fz p=>some p
 |.nw ps=>some (.lst ps)
 |.ln _=>none
noncomputable abbrev FE:=ao->Option RV
noncomputable abbrev FB:=ao->Option Bool
noncomputable abbrev FA:=ao->Option (List RV)
noncomputable abbrev FI:=ao->Option (List PV)
section
variable {X:Cx}{z:Z X}{s s' s1 s2:Shared}{h0 h h':Heap}
noncomputable def KK:PV->Bool
 |.lst _=>true
 |.dct _ _=>true
 |_=>false
noncomputable def RvOk (z:Z X)(h0 h:Heap):RV->Value->Prop
 |.fz p,u=>D z.cn h p u
 |.nw ps,u=>∃a,u=.ref a/\h0.get? a=none/\j0 z.bad z.H a/\ListAt (bC X z.bad (eE z.H a aW)) h a ps
 |.ln p,u=>Rd z.cn h p u/\KK p=true/\∀a,u=.ref a->¬z.bad a
theorem Dz {bad:Addr->Prop}{H:Hp}{a:Addr}{h:Heap}:Kp (bC X bad (eE H a aW)) (bC X bad H) h h:=⟨rfl,rfl,rfl,λb o q e=>⟨⟨by
 have:=q.1
 by_cases hb:b=a
 ·subst hb;rw[bV] at this;cases this
 ·rwa [aX hb] at this,q.2⟩,e⟩⟩
theorem xR {bad:Addr->Prop}{H:Hp}{a:Addr}{h:Heap}(n:h.get? a=none):Kp (bC X bad H) (bC X bad (eE H a aW)) h h:=⟨rfl,rfl,rfl,λb o q e=>⟨⟨by
 rw[aX (λz=>by subst z;rw[n] at e;cases e)];exact q.1,q.2⟩,e⟩⟩
theorem RvOk.fr {r:RV}{p:PV}{u:Value}(d:RvOk z h0 h r u)(e:r.fr=some p):D z.cn h p u:=by
 cases r with
 |fz q=>cases e;exact d
 |nw ps=>cases e;obtain⟨a,e,_,o,its,n,g,l,t⟩:=d;exact⟨a,its,n,e,o,g,l,t.mono Dz⟩
 |ln q=>cases e
theorem RvOk.rd {r:RV}{u:Value}(d:RvOk z h0 h r u):Rd z.cn h r.pv u:=by
 cases r with
 |fz q=>exact D1.rd d
 |nw ps=>exact D1.rd (RvOk.fr d rfl)
 |ln q=>exact d.1
theorem RvOk.ext {r:RV}{u:Value}(d:RvOk z h0 h r u)(e:Ext z.bad h h'):RvOk z h0 h' r u:=by
 cases r with
 |fz q=>exact D1.m d e.kpD
 |nw ps=>obtain⟨a,e1,n,o,l⟩:=d;exact⟨a,e1,n,o,l.mono e.kpD λo' q=>e.kp a o' o.2 q⟩
 |ln q=>
  refine⟨?_,d.2⟩
  obtain⟨d,lb,nb⟩:=d
  have k:∀a,u=.ref a->∀o,h.get? a=some o->h'.get? a=some o:=λa ea o q=>e.kp a o (nb a ea) q
  cases q with
  |lst ps=>obtain⟨a,its,n,e1,q,ho,l,t⟩:=d;exact⟨a,its,n,e1,q,k a e1 _ ho,l,t.mono e.kpD⟩
  |dct ks ps=>obtain⟨a,kus,e1,q,y,⟨o,es,ep,ho,r⟩,l,m,t⟩:=d;exact⟨a,kus,e1,q,y,⟨o,es,ep,k a e1 _ ho,r⟩,l,m,t.mono e.kpD⟩
  |_=>cases lb
structure Rv (z:Z X)(h:Heap)(p:PV)(u:Value):Prop where
 rd:Rd z.cn h p u
 fz:KK p=false->D z.cn h p u
 nb:KK p=true->∀a,u=.ref a->¬z.bad a
theorem D1.rv_nb {p:PV}{u:Value}(d:D z.cn h p u)(e:KK p=true){a:Addr}(ea:u=.ref a):¬z.bad a:=by
 cases p with
 |lst ps=>obtain⟨b,its,n,e1,q,_⟩:=d;rw[e1] at ea;cases ea;exact q.2
 |dct ks ps=>obtain⟨b,its,e1,q,_⟩:=d;rw[e1] at ea;cases ea;exact q.2
 |_=>cases e
theorem RvOk.rv {r:RV}{u:Value}(d:RvOk z h0 h r u):Rv z h r.pv u:=by
 refine⟨d.rd,λe=>?_,λe a ea=>?_⟩
 ·cases r with
  |fz q=>exact d
  |nw ps=>cases e
  |ln q=>rw[show RV.pv (.ln q)=q from rfl,d.2.1] at e;cases e
 ·cases r with
  |fz q=>exact D1.rv_nb d e ea
  |nw ps=>obtain⟨b,rfl,_,o,_⟩:=d;cases ea;exact o.2
  |ln q=>exact d.2.2 a ea
noncomputable def Z.post (z:Z X)(s:Shared)(r:RV)(u:Value)(s':Shared):Prop:=z.go s s'/\RvOk z s.heap s'.heap r u
theorem RvOk.old {r:RV}{u:Value}(d:RvOk z h0 h r u)(e:∀a,h0.get? a=none->h'.get? a=none):RvOk z h' h r u:=by
 cases r with
 |fz q=>exact d
 |nw ps=>obtain⟨a,e1,n,o,l⟩:=d;exact⟨a,e1,e a n,o,l⟩
 |ln q=>exact d
theorem Ext.back {bad:Addr->Prop}(e:Ext bad h h'){a:Addr}(n:h'.get? a=none):h.get? a=none:=by
 cases q:h.get? a with
 |none=>rfl
 |some o=>obtain⟨o',r⟩:=e.th a o q;rw[n] at r;cases r
theorem Z.go.post {r:RV}{u:Value}(a:z.go s s1)(b:Z.post z s1 r u s2):Z.post z s r u s2:=⟨a.trans b.1,b.2.old λ_=>Ext.back a.2⟩
end
noncomputable abbrev W (X:Cx){α:Type}(t:Sem α)(Q:α->Shared->Prop)(E:Value->Shared->Prop)(s:Shared):Prop:=wpAny (model X.prog X.w) X.A t Q E s
noncomputable def NE (X:Cx)(e:Expr)(f:FE):Prop:=∀(z:Z X) s r E,z.ok s->f z.ρ=some r->W X (eval e X.env) (Z.post z s r) E s
noncomputable def NB (X:Cx)(e:Expr)(f:FB):Prop:=∀(z:Z X) s b E,z.ok s->f z.ρ=some b->W X (isTrue e X.env (eval e X.env)) (λc s'=>c=b/\z.go s s') E s
noncomputable def NW (X:Cx)(e:Expr)(f:FB):Prop:=∀(z:Z X) whole s b E,z.ok s->f z.ρ=some b->W X (isTrue e X.env whole) (λc s'=>c=b/\z.go s s') E s
inductive RvsOk {X:Cx} (z:Z X) (h0 h:Heap):List RV->List Value->Prop where
 |nil:RvsOk z h0 h [] []
 |cons {r:RV} {u:Value} {rs:List RV} {us:List Value}:RvOk z h0 h r u->RvsOk z h0 h rs us->RvsOk z h0 h (r::rs) (u::us)
noncomputable def NA (X:Cx)(es:List Expr)(f:FA):Prop:=∀(z:Z X) (pos:Pos) s rs E,z.ok s->f z.ρ=some rs->W X (spliced (backTo pos (starEach es X.env))) (λus s'=>z.go s s'/\RvsOk z s.heap s'.heap rs us) E s
end Dp
end
section
namespace L2
open PySem PySem.Spec PyProof.Rows
section
variable {κ:Type}[DecidableEq κ]
end
theorem nM {P:Program}{w:World}{k:cR}{u:Value}(r:iC (kV k) u):(bB P w).is k u=true:=by
 cases k with
 |inl i=>obtain⟨t,e⟩:=(show ∃t,u=Value.int i t from r);subst e;exact vN P w i t
 |inr x=>obtain⟨t,e⟩:=(show ∃t,u=Value.str x t from r);subst e;exact kI P w x t
section
variable {X:Cx}{pins:List (Addr×Obj)}{σ:St}{H:Hp}{s:Shared}{a:Addr}{y v:V}{u r:Value}{o:Option V}{A:Around}{E:Value->Shared->Prop}
theorem Inv.big (I:Inv X pins σ H s):sysModules<s.heap.objs.size:=by
 have h:mainGlobals<s.heap.objs.size:=(I.mod.glob.keeps I.bk).lt
 exact Nat.lt_trans (by decide) h
end
end L2
end
section
namespace Dp
open PySem PySem.Spec L2 PySem.SeqAt
noncomputable def vh:PV->V
 |.non=>.non
 |.bl b=>.bl b
 |.int i=>.int i
 |.str x=>.str x
 |.ty n=>.ty n
 |_=>.non
mutual
noncomputable def bM:PV->Bool
 |.non=>true
 |.bl _=>true
 |.int _=>true
 |.str _=>true
 |.tup ps=>aJ ps
 |.lst ps=>aJ ps
 |_=>false
noncomputable def aJ:List PV->Bool
 |[]=>true
 |p::ps=>bM p&&aJ ps
end
mutual
noncomputable def rj:PV->Nat
 |.tup ps=>cB ps+1
 |.lst ps=>cB ps+1
 |_=>0
noncomputable def cB:List PV->Nat
 |[]=>0
 |p::ps=>max (rj p) (cB ps)
end
mutual
noncomputable def jL:PV->PV->Bool
 |.tup ps,q=>match q with
  |.tup qs=>dY ps qs
  |_=>false
 |.lst ps,q=>match q with
  |.lst qs=>dY ps qs
  |_=>false
 |p,q=>ja q&&HX (vh p) (vh q)
noncomputable def dY:List PV->List PV->Bool
 |[],qs=>match qs with
  |[]=>true
  |_::_=>false
 |p::ps,qs=>match qs with
  |[]=>false
  |q::qs=>jL p q&&dY ps qs
end
theorem jH:∀(ps qs:List PV),((a0l (min ps.length qs.length)).all (λj=>jL (ps.getD j .non) (qs.getD j .non))&&ps.length==qs.length)=dY ps qs
 |[],[]=>by simp[dY]
 |[],_::_=>by simp[dY]
 |_::_,[]=>by simp[dY]
 |p::ps,q::qs=>by
  have ih:=jH ps qs
  rw[dY,←ih,show min (p::ps).length (q::qs).length=min ps.length qs.length+1 by simp only[a0p];omega,a2y,a1h,List.all_map]
  simp[Bool.and_assoc,Function.comp_def]
theorem vE {ps qs:List PV}(h:ps.length=qs.length):(a0l ps.length).all (λj=>jL (ps.getD j .non) (qs.getD j .non))=dY ps qs:=by
 rw[←jH,←h,Nat.min_self];simp
theorem j9 {ps qs:List PV}(h:ps.length≠qs.length):dY ps qs=false:=by
 rw[←jH,(show (ps.length==qs.length)=false by simpa using h),a5k]
mutual
theorem vM:∀{p:PV},bM p=true->jL p p=true
 |.non,_=>rfl
 |.bl b,_=>by simp[jL,ja,vh,HX]
 |.int b,_=>by simp[jL,ja,vh,HX]
 |.str b,_=>by simp[jL,ja,vh,HX]
 |.tup ps,h=>jv (ps:=ps) h
 |.lst ps,h=>jv (ps:=ps) h
 |.ty _,h|.fn _,h|.dct _ _,h|.src _,h|.ktu _,h|.rng _ _,h|.exn _,h|.set _,h=>absurd h a0u
theorem jv:∀{ps:List PV},aJ ps=true->dY ps ps=true
 |[],_=>rfl
 |p::ps,h=>by
  rw[aJ,a0b] at h
  rw[dY,vM h.1,jv h.2];rfl
end
inductive Vw (c:Cn) (h:Heap):PV->Value->Prop where
 |non:Vw c h .non .none
 |bl {b:Bool}:Vw c h (.bl b) (.bool b)
 |int {i:Int} {t:Tok}:Vw c h (.int i) (.int i t)
 |str {i:Str} {t:Tok}:Vw c h (.str i) (.str i t)
 |tup {ps:List PV} {a:Addr} {its:List Value}:aJ ps=true->h.IsTuple a its.toArray->Ds c h ps its->Vw c h (.tup ps) (.ref a)
 |lst {ps:List PV} {a:Addr} {its:List Value}:aJ ps=true->h.IsList a its.toArray->Ds c h ps its->Vw c h (.lst ps) (.ref a)
theorem D1.vw {top:Addr->Prop}{c:Cn}{h:Heap}{p:PV}{u:Value}(hp:bM p=true)(d:D1 top c h p u):Vw c h p u:=by
 cases p with
 |non=>cases (show u=_ from d);exact .non
 |bl b=>cases (show u=_ from d);exact .bl
 |int b=>obtain⟨t,rfl⟩:=d;exact .int
 |str b=>obtain⟨t,rfl⟩:=d;exact .str
 |tup ps=>obtain⟨a,its,rfl,_,q,_,t⟩:=d;exact .tup hp q t
 |lst ps=>obtain⟨a,its,n,rfl,_,q,_,t⟩:=d;exact .lst hp ⟨_,q,rfl,n,rfl⟩ t
 |_=>exact absurd hp a0u
theorem Hx {h:Heap}{a:Addr}{x y:List Value}(h1:h.IsTuple a x.toArray)(h2:h.IsTuple a y.toArray):x=y:=by
 obtain⟨o,e,_,n,d⟩:=h1
 obtain⟨o',e',_,n',d'⟩:=h2
 rw[e] at e';cases e'
 rw[d] at d'
 injection d' with d1 _
 simpa using congrArg Array.toList d1
theorem GS {h:Heap}{a:Addr}{x y:List Value}(h1:h.IsList a x.toArray)(h2:h.IsList a y.toArray):x=y:=by
 obtain⟨o,e,_,n,d⟩:=h1
 obtain⟨o',e',_,n',d'⟩:=h2
 rw[e] at e';cases e'
 rw[d] at d'
 injection d' with d1 _
 simpa using congrArg Array.toList d1
theorem HP {h:Heap}{a:Addr}{x y:Array Value}(h1:h.IsList a x)(h2:h.IsTuple a y):False:=by
 obtain⟨o,e,c,_⟩:=h1
 obtain⟨o',e',c',_⟩:=h2
 rw[e] at e';cases e';rw[c] at c';exact absurd (Value.type.inj c') (by decide)
mutual
theorem D1.inj {c c':Cn}{h:Heap}{t t':Addr->Prop}:∀{p q:PV} {u:Value},bM p=true->bM q=true->D1 t c h p u->D1 t' c' h q u->p=q:=λ{p q u} hp hq d d'=>by
 cases p with
 |tup ps=>
  obtain⟨a,its,rfl,_,h1,_,h2⟩:=d
  cases d'.vw hq with
  |tup _ h1' h2'=>cases Hx h1 h1';rw[Ds.inj hp hq h2 h2']
  |lst _ h1' _=>exact (HP h1' h1).elim
 |lst ps=>
  obtain⟨a,its,n,rfl,_,h1,_,h2⟩:=d
  have h1:h.IsList a its.toArray:=⟨_,h1,rfl,n,rfl⟩
  cases d'.vw hq with
  |lst _ h1' h2'=>cases GS h1 h1';rw[Ds.inj hp hq h2 h2']
  |tup _ h1' _=>exact (HP h1 h1').elim
 |non=>cases (show u=_ from d);cases d'.vw hq;rfl
 |bl b=>cases (show u=_ from d);cases d'.vw hq;rfl
 |int b=>obtain⟨t,rfl⟩:=d;cases d'.vw hq;rfl
 |str b=>obtain⟨t,rfl⟩:=d;cases d'.vw hq;rfl
 |_=>exact absurd hp a0u
theorem Ds.inj {c c':Cn}{h:Heap}:∀{ps qs:List PV} {us:List Value},aJ ps=true->aJ qs=true->Ds c h ps us->Ds c' h qs us->ps=qs
 |[],qs,_,_,_,e,h'=>by
  cases (show _=[] from e)
  cases qs with
  |nil=>rfl
  |cons q qs=>obtain⟨u,r,e,_⟩:=h';cases e
 |p::ps,qs,_,hp,hq,⟨u,r,e,d1,d2⟩,h'=>by
  subst e
  cases qs with
  |nil=>cases (show _=[] from h')
  |cons q qs=>
   obtain⟨u',r',e',d1',d2'⟩:=h'
   cases e'
   rw[aJ,a0b] at hp hq
   rw[D1.inj hp.1 hq.1 d1 d1',Ds.inj hp.2 hq.2 d2 d2']
end
variable {c c':Cn}{s:Shared}
theorem uI {t t':Addr->Prop}{p q:PV}{A:Around}{u v:Value}(hp:bM p=true)(hq:bM q=true)(d:D1 t c s.heap p u)(d':D1 t' c' s.heap q v)(rc:RcAt A s u v (jL p q)):EqAt A s u v (jL p q):=by
 by_cases h:u=v
 ·subst h
  obtain rfl:=D1.inj hp hq d d'
  rw[vM hp]
  exact EqAt.same _
 ·intro prog w E Q hQ
  unfold eqBool
  refine wpAny_holding ?_
  refine wpAny_ite_split (λhab=>absurd (eq_of_beq hab) h) (λ_=>?_)
  cases d.vw hp<;>exact wpAny_bind (rc prog w E _ (wpAny_truthy_bool hQ))
theorem AN {p q:PV}{A:Around}{u v:Value}(hd:A.units<cLine)(d:Vw c s.heap p u)(d':Vw c' s.heap q v)(nt:∀ps qs,p=.tup ps->q≠.tup qs)(nl:∀ps qs,p=.lst ps->q≠.lst qs):RcAt A s u v (jL p q)/\RcNeAt A s u v (!jL p q):=by
 cases d with
 |non=>cases d' with
  |non=>exact⟨RcAt.none_none,RcNeAt.none_none⟩
  |bl=>exact⟨RcAt.none_bool _,RcNeAt.none_bool _⟩
  |int=>exact⟨RcAt.none_int _ _,RcNeAt.none_int _ _⟩
  |str=>exact⟨RcAt.none_str _ _,RcNeAt.none_str _ _⟩
  |tup _ h _=>exact⟨RcAt.none_tuple h hd,RcNeAt.none_tuple h hd⟩
  |lst _ h _=>exact⟨RcAt.none_list h hd,RcNeAt.none_list h hd⟩
 |bl=>cases d' with
  |non=>exact⟨RcAt.bool_none _,RcNeAt.bool_none _⟩
  |bl=>exact⟨RcAt.bool_bool _ _,RcNeAt.bool_bool _ _⟩
  |int=>exact⟨RcAt.bool_int _ _ _,RcNeAt.bool_int _ _ _⟩
  |str=>exact⟨RcAt.bool_str _ _ _,RcNeAt.bool_str _ _ _⟩
  |tup _ h _=>exact⟨RcAt.bool_tuple _ h hd,RcNeAt.bool_tuple _ h hd⟩
  |lst _ h _=>exact⟨RcAt.bool_list _ h hd,RcNeAt.bool_list _ h hd⟩
 |int=>cases d' with
  |non=>exact⟨RcAt.int_none _ _,RcNeAt.int_none _ _⟩
  |bl=>exact⟨RcAt.int_bool _ _ _,RcNeAt.int_bool _ _ _⟩
  |int=>exact⟨RcAt.int_int _ _ _ _,RcNeAt.int_int _ _ _ _⟩
  |str=>exact⟨RcAt.int_str _ _ _ _,RcNeAt.int_str _ _ _ _⟩
  |tup _ h _=>exact⟨RcAt.int_tuple _ _ h hd,RcNeAt.int_tuple _ _ h hd⟩
  |lst _ h _=>exact⟨RcAt.int_list _ _ h hd,RcNeAt.int_list _ _ h hd⟩
 |str=>cases d' with
  |non=>exact⟨RcAt.str_none _ _,RcNeAt.str_none _ _⟩
  |bl=>exact⟨RcAt.str_bool _ _ _,RcNeAt.str_bool _ _ _⟩
  |int=>exact⟨RcAt.str_int _ _ _ _,RcNeAt.str_int _ _ _ _⟩
  |str=>exact⟨RcAt.str_str _ _ _ _,RcNeAt.str_str _ _ _ _⟩
  |tup _ h _=>exact⟨RcAt.str_tuple _ _ h hd,RcNeAt.str_tuple _ _ h hd⟩
  |lst _ h _=>exact⟨RcAt.str_list _ _ h hd,RcNeAt.str_list _ _ h hd⟩
 |tup _ h _=>cases d' with
  |non=>exact⟨RcAt.tuple_none h hd,RcNeAt.tuple_none h hd⟩
  |bl=>exact⟨RcAt.tuple_bool _ h hd,RcNeAt.tuple_bool _ h hd⟩
  |int=>exact⟨RcAt.tuple_int _ _ h hd,RcNeAt.tuple_int _ _ h hd⟩
  |str=>exact⟨RcAt.tuple_str _ _ h hd,RcNeAt.tuple_str _ _ h hd⟩
  |tup=>exact absurd rfl (nt _ _ rfl)
  |lst _ h' _=>exact⟨RcAt.tuple_list h h' hd,RcNeAt.tuple_list h h' hd⟩
 |lst _ h _=>cases d' with
  |non=>exact⟨RcAt.list_none h hd,RcNeAt.list_none h hd⟩
  |bl=>exact⟨RcAt.list_bool _ h hd,RcNeAt.list_bool _ h hd⟩
  |int=>exact⟨RcAt.list_int _ _ h hd,RcNeAt.list_int _ _ h hd⟩
  |str=>exact⟨RcAt.list_str _ _ h hd,RcNeAt.list_str _ _ h hd⟩
  |tup _ h' _=>exact⟨RcAt.list_tuple h h' hd,RcNeAt.list_tuple h h' hd⟩
  |lst=>exact absurd rfl (nl _ _ rfl)
theorem yK {ps qs:List PV}{A:Around}{a b:Addr}{its its2:List Value}(hu:A.units<cLine)(l1:its.length=ps.length)(l2:its2.length=qs.length)(es:∀j (h1:j<its.toArray.size) (h2:j<its2.toArray.size),EqAt A.in1 s its.toArray[j] its2.toArray[j] (jL (ps.getD j .non) (qs.getD j .non))) :
  (s.heap.IsTuple a its.toArray->s.heap.IsTuple b its2.toArray->RcAt A s (.ref a) (.ref b) (dY ps qs)/\RcNeAt A s (.ref a) (.ref b) (!dY ps qs))/\(s.heap.IsList a its.toArray->s.heap.IsList b its2.toArray->RcAt A s (.ref a) (.ref b) (dY ps qs)/\RcNeAt A s (.ref a) (.ref b) (!dY ps qs)):=by
 refine⟨λh1 h2=>?_,λh1 h2=>?_⟩
 ·have x:=RcAt.tuples (A:=A) (s:=s) (e:=λj=>jL (ps.getD j .non) (qs.getD j .non)) h1 h2 hu es
  have y:=RcNeAt.tuples (A:=A) (s:=s) (e:=λj=>jL (ps.getD j .non) (qs.getD j .non)) h1 h2 hu es
  rw[a0h,a0h,l1,l2,jH] at x y
  exact⟨x,y⟩
 ·by_cases hl:ps.length=qs.length
  ·have x:=RcAt.lists (A:=A) (s:=s) (e:=λj=>jL (ps.getD j .non) (qs.getD j .non)) h1 h2 (by simp;omega) hu es
   have y:=RcNeAt.lists (A:=A) (s:=s) (e:=λj=>jL (ps.getD j .non) (qs.getD j .non)) h1 h2 (by simp;omega) hu es
   rw[a0h,l1,vE hl] at x y
   exact⟨x,y⟩
  ·have x:=RcAt.lists_lengths (A:=A) (s:=s) h1 h2 (by simp;omega) hu
   have y:=RcNeAt.lists_lengths (A:=A) (s:=s) h1 h2 (by simp;omega) hu
   rw[j9 hl]
   exact⟨x,y⟩
mutual
theorem EY:∀{p q:PV} {A:Around} {u v:Value} {t t':Addr->Prop},bM p=true->bM q=true->A.units+rj p+1<cLine->D1 t c s.heap p u->D1 t' c' s.heap q v->RcAt A s u v (jL p q)/\RcNeAt A s u v (!jL p q)
 |.tup ps,q,A,_,v,t,t',hp,hq,hd,⟨a,its,e,o,h1,z,h2⟩,d=>by
  subst e
  cases d.vw hq with
  |tup _ h1' h2'=>exact (yK (by omega) h2.length h2'.length λj k1 k2=>Cr (ps:=ps) hp hq (by rw[rj] at hd;show A.units+1+cB ps+1<cLine;omega) h2 h2' j (by simpa using k1) (by simpa using k2) k1 k2).1 h1 h1'
  |_=>exact AN (by omega) (D1.vw (p:=.tup ps) hp ⟨a,its,rfl,o,h1,z,h2⟩) (d.vw hq) (λ_ _ _ e=>(by cases e)) λ_ _ e=>(by cases e)
 |.lst ps,q,A,_,v,t,t',hp,hq,hd,⟨a,its,n,e,o,h1,z,h2⟩,d=>by
  subst e
  cases d.vw hq with
  |lst _ h1' h2'=>exact (yK (by omega) h2.length h2'.length λj k1 k2=>Cr (ps:=ps) hp hq (by rw[rj] at hd;show A.units+1+cB ps+1<cLine;omega) h2 h2' j (by simpa using k1) (by simpa using k2) k1 k2).2 ⟨_,h1,rfl,n,rfl⟩ h1'
  |_=>exact AN (by omega) (D1.vw (p:=.lst ps) hp ⟨a,its,n,rfl,o,h1,z,h2⟩) (d.vw hq) (λ_ _ e=>(by cases e)) λ_ _ _ e=>(by cases e)
 |.non,q,A,u,v,_,_,hp,hq,hd,d,d'=>AN (by omega) (d.vw hp) (d'.vw hq) (λ_ _ e=>by cases e) λ_ _ e=>by cases e
 |.bl _,q,A,u,v,_,_,hp,hq,hd,d,d'=>AN (by omega) (d.vw hp) (d'.vw hq) (λ_ _ e=>by cases e) λ_ _ e=>by cases e
 |.int _,q,A,u,v,_,_,hp,hq,hd,d,d'=>AN (by omega) (d.vw hp) (d'.vw hq) (λ_ _ e=>by cases e) λ_ _ e=>by cases e
 |.str _,q,A,u,v,_,_,hp,hq,hd,d,d'=>AN (by omega) (d.vw hp) (d'.vw hq) (λ_ _ e=>by cases e) λ_ _ e=>by cases e
 |.ty _,_,_,_,_,_,_,h,_,_,_,_|.fn _,_,_,_,_,_,_,h,_,_,_,_|.dct _ _,_,_,_,_,_,_,h,_,_,_,_|.src _,_,_,_,_,_,_,h,_,_,_,_|.ktu _,_,_,_,_,_,_,h,_,_,_,_|.rng _ _,_,_,_,_,_,_,h,_,_,_,_|.exn _,_,_,_,_,_,_,h,_,_,_,_|.set _,_,_,_,_,_,_,h,_,_,_,_=>absurd h a0u
theorem Cr:∀{ps qs:List PV} {A:Around} {us vs:List Value},aJ ps=true->aJ qs=true->A.units+cB ps+1<cLine->Ds c s.heap ps us->Ds c' s.heap qs vs->∀j (_:j<us.length) (_:j<vs.length) (h1:j<us.toArray.size) (h2:j<vs.toArray.size),EqAt A s us.toArray[j] vs.toArray[j] (jL (ps.getD j .non) (qs.getD j .non))
 |[],qs,A,us,vs,_,_,_,e,_=>λj h1 _ _ _=>absurd h1 (by rw[show us=[] from e];exact a2p _)
 |p::ps,qs,A,us,vs,hp,hq,hd,⟨u,r,e,d1,d2⟩,d'=>λj h1 h2 k1 k2=>by
  cases qs with
  |nil=>exact absurd h2 (by rw[show vs=[] from d'];exact a2p _)
  |cons q qs=>
   obtain⟨v,r',e',d1',d2'⟩:=d'
   subst e e'
   rw[aJ,a0b] at hp hq
   rw[cB] at hd
   cases j with
   |zero=>
    have:=uI hp.1 hq.1 d1 d1' (EY (A:=A) hp.1 hq.1 (by omega) d1 d1').1
    simpa using this
   |succ j=>
    have:=Cr (A:=A) hp.2 hq.2 (by omega) d2 d2' j (by simpa using h1) (by simpa using h2) (by simpa using h1) (by simpa using h2)
    simpa using this
end
open Classical in
noncomputable def ET (c:Cn)(h:Heap)(q:PV)(u:Value):Bool:=if h:∃p,bM p=true/\D c h p u then jL h.choose q else false
theorem Du {q p:PV}{u:Value}(hp:bM p=true)(d:D c s.heap p u):ET c s.heap q u=jL p q:=by
 have h:∃p,bM p=true/\D c s.heap p u:=⟨p,hp,d⟩
 unfold ET
 rw[dif_pos h,D1.inj h.choose_spec.1 hp h.choose_spec.2 d]
theorem y3 {q:PV}:∀{ps:List PV} {us:List Value},aJ ps=true->Ds c s.heap ps us->us.any (ET c s.heap q)=ps.any λp=>jL p q
 |[],_,_,h=>by rw[show _=[] from h];rfl
 |p::ps,_,hp,⟨u,r,e,d1,d2⟩=>by
  subst e
  rw[aJ,a0b] at hp
  rw[a4o,a4o,Du hp.1 d1,y3 hp.2 d2]
theorem As {A:Around}{q:PV}{v:Value}{t:Addr->Prop}(hq:bM q=true)(dq:D1 t c' s.heap q v):∀{ps:List PV} {us:List Value},aJ ps=true->A.units+cB ps+1<cLine->Ds c s.heap ps us->∀u∈us,EqAt A s u v (ET c s.heap q u)
 |[],_,_,_,h,u,hu=>by rw[show _=[] from h] at hu;cases hu
 |p::ps,_,hp,hd,⟨u',r,e,d1,d2⟩,u,hu=>by
  subst e
  rw[aJ,a0b] at hp
  rw[cB] at hd
  rcases a0s.mp hu with rfl|hu
  ·rw[Du hp.1 d1]
   exact uI hp.1 hq d1 dq (EY hp.1 hq (by omega) d1 dq).1
  ·exact As hq dq hp.2 (by omega) d2 u hu
noncomputable def pin (x:PV)(ps:List PV):Bool:=ps.any λp=>jL p x
noncomputable def items:PV->Option (List PV)
 |.tup ps=>some ps
 |.lst ps=>some ps
 |.src ps=>some ps
 |.ktu ps=>some ps
 |_=>none
theorem D1.items {t:Addr->Prop}{h:Heap}{p:PV}{u:Value}{ps:List PV}(d:D1 t c h p u)(e:items p=some ps):∃a its,u=.ref a/\t a/\its.length<=sizeLine/\Ds c h ps its/\(PyProof.Rows.IsTup h a its.toArray\/∃n,h.get? a=some (d9 its n)):=by
 cases p with
 |tup qs=>cases e;obtain⟨a,its,e,o,q,z,t⟩:=d;exact⟨a,its,e,o,z,t,.inl q⟩
 |ktu qs=>cases e;obtain⟨a,its,e,o,q,z,t⟩:=d;exact⟨a,its,e,o,z,t,.inl q⟩
 |lst qs=>cases e;obtain⟨a,its,n,e,o,q,z,t⟩:=d;exact⟨a,its,e,o,z,t,.inr ⟨n,q⟩⟩
 |src qs=>cases e;obtain⟨a,its,n,e,o,q,z,t⟩:=d;exact⟨a,its,e,o,z,t,.inr ⟨n,q⟩⟩
 |_=>cases e
theorem bw {h:Heap}{a:Addr}{its:List Value}{n:Nat}(e:h.get? a=some (d9 its n)):h.IsList a its.toArray:=⟨_,e,rfl,n,rfl⟩
section
variable {prog:Program}{w:World}{A:Around}{E:Value->Shared->Prop}{Q:Value->Shared->Prop}
theorem HQ {x y:PV}{u v:Value}{ps:List PV}{t t':Addr->Prop}(ng:Bool)(hu:A.units+64<cLine)(hx:bM x=true)(dx:D1 t c' s.heap x u)(dy:D1 t' c s.heap y v)(e:items y=some ps)(hp:aJ ps=true)(hd:cB ps<=50)(q:Q (.bool (if ng=true then !pin x ps else pin x ps)) s) :
  wpAny (model prog w) A (compareOp (if ng=true then .NotIn else .In) u v) Q E s:=by
 obtain⟨a,its,rfl,_,_,ds,h⟩:=dy.items e
 have m:∀y∈its.toArray,EqAt A.in1 s y u (ET c s.heap x y):=λy hy=>As hx dx hp (by show A.units+1+cB ps+1<cLine;omega) ds y (by simpa using hy)
 have e2:its.toArray.any (ET c s.heap x)=pin x ps:=by rw[List.any_toArray,y3 hp ds];rfl
 cases ng<;>rcases h with h|⟨n,h⟩
 ·exact in_tupleAt (ET c s.heap x) h m (by rw[e2];exact q)
 ·exact in_listAt (ET c s.heap x) (bw h) m (by rw[e2];exact q)
 ·exact notIn_tupleAt (ET c s.heap x) h m (by rw[e2];exact q)
 ·exact notIn_listAt (ET c s.heap x) (bw h) m (by rw[e2];exact q)
end
noncomputable def fJ:PV->Option cR
 |.int i=>some (.inl i)
 |.str x=>some (.inr x)
 |_=>none
theorem ft {t:Addr->Prop}{c:Cn}{h:Heap}{p:PV}{u:Value}{k:cR}(e:fJ p=some k)(d:D1 t c h p u):iC (kV k) u:=by
 cases p with
 |int i=>cases e;exact d
 |str x=>cases e;exact d
 |_=>cases e
noncomputable def mx:List cR->List PV->cR->Option PV
 |k::ks,p::ps,y=>if k=y then some p else mx ks ps y
 |_,_,_=>none
theorem md {c:Cn}{h:Heap}{y:cR}:∀{kus:List (cR×Value)} {ks:List cR} {ps:List PV},kus.map (·.1)=ks->Ds c h ps (kus.map (·.2))->(∀p,mx ks ps y=some p->∃u,valueAt kus y=some u/\D c h p u)/\(mx ks ps y=none->valueAt kus y=none)
 |[],ks,ps,e,d=>by
  subst e
  cases ps with
  |nil=>exact⟨λp e=>(by cases e),λ_=>rfl⟩
  |cons p ps=>obtain⟨u,r,e,_⟩:=d;cases e
 |(k,v)::kus,ks,ps,e,d=>by
  subst e
  cases ps with
  |nil=>cases (show v::kus.map (·.2)=[] from d)
  |cons p ps=>
   obtain⟨u,r,e,d1,d2⟩:=d
   cases e
   obtain⟨h1,h2⟩:=md (y:=y) rfl d2
   show (∀q,(if k=y then some p else mx (kus.map (·.1)) ps y)=some q->_)/\((if k=y then some p else mx (kus.map (·.1)) ps y)=none->_)
   by_cases hk:k=y
   ·rw[if_pos hk]
    exact⟨λq e=>(by cases e;exact⟨v,by simp[valueAt,hk],d1⟩),λe=>by cases e⟩
   ·rw[if_neg hk]
    have ev:valueAt ((k,v)::kus) y=valueAt kus y:=by simp[valueAt,hk]
    rw[ev]
    exact⟨h1,h2⟩
noncomputable def Pk (x y:PV):Option Bool:=match y with
 |.dct ks ps=>(fJ x).map λk=>(mx ks ps k).isSome
 |_=>none
theorem Bs {P:Program}{w:World}{mg:Str->Option Value}{A:Around}{s:Shared}{ok ok':Addr->Prop}{t t':Addr->Prop}{x y:PV}{u v:Value}{b ng:Bool}{Q:Value->Shared->Prop}{E:Value->Shared->Prop}(dx:D1 t ⟨ok',P,w,mg⟩ s.heap x u)(dy:D1 t' ⟨ok,P,w,mg⟩ s.heap y v)(e:Pk x y=some b)(q:∀tk,Q (.bool (if ng then !b else b)) { s with toks:=tk }) :
  wpAny (model P w) A (compareOp (if ng then .NotIn else .In) u v) Q E s:=by
 unfold Pk at e
 split at e
 ·next ks ps=>
  obtain⟨k,ek,rfl⟩:=a0d.mp e
  obtain⟨a,kus,rfl,_,y,dd,zl,hk,ds⟩:=dy
  obtain⟨h1,h2⟩:=md (y:=k) hk ds
  have ev:(valueAt kus k).isSome=(mx ks ps k).isSome:=by
   cases hd:mx ks ps k with
   |none=>rw[h2 hd];rfl
   |some p=>obtain⟨w',e1,_⟩:=h1 p hd;rw[e1];rfl
  cases ng with
  |false=>exact wpAny_in_of (nM (ft ek dx)) y dd.mapOf (by rw[ev];exact q _)
  |true=>exact wpAny_notIn_of (nM (ft ek dx)) y dd.mapOf (by rw[ev];exact q _)
 ·cases e
end Dp
end
section
namespace Dp
open PySem PySem.Spec L2 PyProof.Rows
theorem uz {α:Type}{a:α}{p:Prop}(h:(none:Option α)=some a):p:=by cases h
noncomputable def u0 {α β:Type}(b:β):List α->Option β
 |[]=>some b
 |_::_=>none
theorem oi {α β:Type}{b c:β}{l:List α}(h:u0 b l=some c):l=[]/\b=c:=by
 cases l with
 |nil=>exact⟨rfl,Option.some.inj h⟩
 |cons=>cases h
noncomputable def u1 {α:Type}:List α->Option α
 |[]=>none
 |a::r=>u0 a r
theorem eD {α:Type}{l:List α}{a:α}(h:u1 l=some a):l=[a]:=by
 cases l with
 |nil=>cases h
 |cons b r=>obtain⟨rfl,rfl⟩:=oi (show u0 b r=some a from h);rfl
noncomputable def uC {α:Type}:List α->Option (α×List α)
 |[]=>none
 |a::r=>some (a,r)
theorem qt {α:Type}{l:List α}{a:α}{r:List α}(h:uC l=some (a,r)):l=a::r:=by
 cases l with
 |nil=>cases h
 |cons b r=>cases h;rfl
noncomputable def u2 {α:Type}(l:List α):Option (α×α):=(uC l).bind λp=>(u1 p.2).map λb=>(p.1,b)
theorem jB {α:Type}{l:List α}{a b:α}(h:u2 l=some (a,b)):l=[a,b]:=by
 obtain⟨⟨c,r⟩,e,h⟩:=a0a.mp h
 obtain⟨d,e2,h⟩:=a0d.mp h
 cases h
 rw[qt e,show r=[b] from eD e2]
noncomputable def u3 {α:Type}(l:List α):Option (α×α×α):=(uC l).bind λp=>(u2 p.2).map λb=>(p.1,b)
theorem Ip {α:Type}{l:List α}{a b c:α}(h:u3 l=some (a,b,c)):l=[a,b,c]:=by
 obtain⟨⟨d,r⟩,e,h⟩:=a0a.mp h
 obtain⟨⟨f,g⟩,e2,h⟩:=a0d.mp h
 cases h
 rw[qt e,show r=[b,c] from jB e2]
noncomputable def qo:PV->Option Int
 |.int i=>some i
 |_=>none
theorem c7 {p:PV}{i:Int}(h:qo p=some i):p=.int i:=by
 cases p<;>first|exact uz h|skip
 cases h;rfl
noncomputable def DI:PV->Option (Int×Int)
 |.rng a b=>some (a,b)
 |_=>none
theorem Ak {p:PV}{a b:Int}(h:DI p=some (a,b)):p=.rng a b:=by
 cases p<;>first|exact uz h|skip
 cases h;rfl
noncomputable def vx:PV->Option Str
 |.str z=>some z
 |_=>none
theorem sZ {p:PV}{z:Str}(h:vx p=some z):p=.str z:=by
 cases p<;>first|exact uz h|skip
 cases h;rfl
noncomputable def Qm:PV->Option (List PV)
 |.tup ps=>some ps
 |_=>none
theorem Dv {p:PV}{ps:List PV}(h:Qm p=some ps):p=.tup ps:=by
 cases p<;>first|exact uz h|skip
 cases h;rfl
noncomputable def Nh:PV->Option (List PV)
 |.lst ps=>some ps
 |_=>none
theorem GF {p:PV}{ps:List PV}(h:Nh p=some ps):p=.lst ps:=by
 cases p<;>first|exact uz h|skip
 cases h;rfl
noncomputable def Fs:PV->Option (List cR×List PV)
 |.dct ks ps=>some (ks,ps)
 |_=>none
theorem Gk {p:PV}{ks:List cR}{ps:List PV}(h:Fs p=some (ks,ps)):p=.dct ks ps:=by
 cases p<;>first|exact uz h|skip
 cases h;rfl
theorem big {n:Nat}(h:n<=100000):n<=sizeLine:=a1r h (by decide)
theorem Lr {n:Nat}(h:n<=100000):n<sizeLine:=a4k h (by decide)
section
variable {X:Cx}{e a b c:Expr}{es hV:List Expr}{pos:Pos}{f fa fb fc:FE}{fs:FA}{i:Nat}{ba bb:FB}
noncomputable def sl (ρ:ao)(i:Nat):Option Sl:=(ρ[i]?).join
noncomputable def ur:Sl->RV
 |.val p=>.fz p
 |.own ps=>.ln (.lst ps)
 |.dic ks ps=>.ln (.dct ks ps)
noncomputable def fV (i:Nat):FE:=λρ=>(sl ρ i).map ur
theorem gz {ρ:ao}{s:Sl}(h:sl ρ i=some s):ρ[i]?=some (some s):=by
 unfold sl at h
 cases q:ρ[i]? with
 |none=>rw[q] at h;cases h
 |some o=>rw[q] at h;rw[show o=some s from h]
theorem ListAt.rd {c:Cn}{h:Heap}{a:Addr}{ps:List PV}:ListAt c h a ps->Rd c h (.lst ps) (.ref a)
 |⟨its,n,e,z,t⟩=>⟨a,its,n,rfl,trivial,e,z,t⟩
theorem DictAt.rd {c:Cn}{h:Heap}{a:Addr}{ks:List cR}{ps:List PV}:DictAt c h a ks ps->Rd c h (.dct ks ps) (.ref a)
 |⟨kus,y,d,z,m,t⟩=>⟨a,kus,rfl,trivial,y,d,z,m,t⟩
theorem Z.ok.get {z:Z X}{s:Shared}(hz:z.ok s){t:Sl}{x:Str}(e:sl z.ρ i=some t)(hN:X.N[i]?=some x)(hv:qp X.env.scope x):∃v u m,s.heap.Ns X.env.locals m/\iC v u/\Mq X.env s.heap m x u/\z.σ[i]?=some (some v)/\SlOk z.cn z.H s.heap t v/\RvOk z s.heap s.heap (ur t) u:=by
 obtain⟨v,e1,_,d⟩:=hz.slk i t (gz e)
 obtain⟨m,hn,hl⟩:=hz.I.loc
 obtain⟨u,r,l⟩:=hl i x v hN e1 hv
 refine⟨v,u,m,hn,r,l,e1,d,?_⟩
 cases t with
 |val p=>exact d u r
 |own ps=>obtain⟨a,rfl,o,d⟩:=d;rw[show u=.ref a from r];exact⟨ListAt.rd d,rfl,λb q=>by cases q;exact hz.own_nb (gz e) rfl e1⟩
 |dic ks ps=>obtain⟨a,rfl,o,d⟩:=d;rw[show u=.ref a from r];exact⟨DictAt.rd d,rfl,λb q=>by cases q;exact hz.own_nb (gz e) rfl e1⟩
theorem Oh {x:Str}(hN:X.N[i]?=some x)(hv:qp X.env.scope x)(hd:(x==("__debug__" : Str))=false)(hcd:(x==("__classdict__" : Str))=false):NE X (.Name x pos) (fV i):=by
 intro z s r E hz h
 obtain⟨t,et,rfl⟩:=a0d.mp h
 obtain⟨v,u,m,hn,rr,l,e1,d,q⟩:=Z.ok.get hz et hN hv
 have fin:Z.post z s (ur t) u s:=⟨hz.refl,q⟩
 rcases l with ⟨hk,hm⟩|⟨hk,c,hc,hcell⟩
 ·exact wpAny_Name (wpAny_loadName_local hz.I.ok.kind hk hn hm fin) hd
 ·rcases hk with hk|hk
  ·exact wpAny_Name (wpAny_loadName_cell hz.I.ok.kind hk hc hcell fin) hd
  ·exact wpAny_Name (wpAny_loadName_free hz.I.ok.kind hk hc hcell fin hcd) hd
noncomputable def fC (p:PV):FE:=λ_=>some (.fz p)
theorem n_int {i:Int}{j}:NE X (.Constant (.int i) j pos) (fC (.int i)):=λz s r E hz h=>by cases h;exact wpAny_Constant_int ⟨hz.tok _,_,rfl⟩
theorem Qk {i:Bool}{j}:NE X (.Constant (.bool i) j pos) (fC (.bl i)):=λz s r E hz h=>by cases h;exact Constant_bool ⟨hz.refl,rfl⟩
theorem N5 {j}:NE X (.Constant .none j pos) (fC .non):=λz s r E hz h=>by cases h;exact Constant_none ⟨hz.refl,rfl⟩
theorem n_str {x:Str}{j}:NE X (.Constant (.str x) j pos) (fC (.str x)):=λz s r E hz h=>by cases h;exact Calls.Constant_str ⟨hz.tok _,_,rfl⟩
noncomputable def Q8 (X:Cx)(x:Str)(p:PV):Prop:=∃u,X.mg x=some u/\∀(h:Heap) (bad:Addr->Prop) (H:Hp),(∀b o,X.base.get? b=some o->h.get? b=some o/\H b=none/\¬bad b)->D (bC X bad H) h p u
theorem uw {x:Str}{p:PV}(hg:Gl X x)(hp:Q8 X x p)(hd:(x==("__debug__" : Str))=false):NE X (.Name x pos) (fC p):=λz s r E hz h=>by
 cases h
 obtain⟨u,m,d⟩:=hp
 exact ph hz.I hg m ⟨hz.refl,d _ _ _ λb o q=>⟨hz.I.bk b o q,(hz.I.bs b o q).2,hz.bs b o q⟩⟩ hd
theorem On {x:Str}{n:String}(hg:Gl X x)(hm:X.mg x=none)(hv:bootBuiltins x=some (.type n))(hn:x ≠ "__name__")(hd:(x==("__debug__" : Str))=false):NE X (.Name x pos) (fC (.ty n)):=λz s r E hz h=>by
 cases h;exact kA hz.I hg hm hv ⟨hz.refl,rfl⟩ hn hd
noncomputable def ak (g:PV->PV->Option RV)(a b:FE):FE:=λρ=>(a ρ).bind λx=>(b ρ).bind λy=>g x.pv y.pv
theorem yE {α β γ:Type}{a:Option α}{b:Option β}{g:α->β->Option γ}{r:γ}(h:(a.bind λx=>b.bind λy=>g x y)=some r):∃x y,a=some x/\b=some y/\g x y=some r:=by
 obtain⟨x,e1,h⟩:=a0a.mp h
 obtain⟨y,e2,h⟩:=a0a.mp h
 exact⟨x,y,e1,e2,h⟩
noncomputable def zm (X:Cx)(F:Value->Value->Sem Value)(g:PV->PV->Option RV):Prop:=∀(z:Z X) s p q u v r E,z.ok s->Rv z s.heap p u->Rv z s.heap q v->g p q=some r->W X (F u v) (Z.post z s r) E s
theorem two (ha:NE X a fa)(hb:NE X b fb){z:Z X}{s:Shared}(hz:z.ok s){x y:RV}(ex:fa z.ρ=some x)(ey:fb z.ρ=some y){α:Type}{Q:α->Shared->Prop}{E:Value->Shared->Prop}{F:Value->Value->Sem α}
  (k:∀u v s2,z.go s s2->RvOk z s.heap s2.heap x u->RvOk z s.heap s2.heap y v->W X (F u v) Q E s2):W X (eval a X.env) (λu s1=>W X (eval b X.env) (λv s2=>W X (F u v) Q E s2) E s1) E s:=
 aY (ha z s x E hz ex) λu s1 ⟨g1,d1⟩=>aY (hb z s1 y E g1.1 ey) λv s2 ⟨g2,d2⟩=>k u v s2 (g1.trans g2) (d1.ext g2.2) (d2.old λ_=>Ext.back g1.2)
theorem PG {op:Operator}{g:PV->PV->Option RV}(h:zm X (binaryOp op) g)(ha:NE X a fa)(hb:NE X b fb):NE X (.BinOp a op b pos) (ak g fa fb):=λz s r E hz q=>by
 obtain⟨x,y,ex,ey,eg⟩:=yE q
 exact wpAny_BinOp (two ha hb hz ex ey λu v s2 g2 d1 d2=>aY (h z s2 _ _ u v r E g2.1 d1.rv d2.rv eg) λw s3 q3=>g2.post q3)
noncomputable def rI (f:Int->Int->PV):PV->PV->Option RV
 |.int i,.int j=>some (.fz (f i j))
 |_,_=>none
noncomputable def Kk (C:Int->Int->Prop)[∀i j,Decidable (C i j)](f:Int->Int->PV):PV->PV->Option RV
 |.int i,.int j=>if C i j then some (.fz (f i j)) else none
 |_,_=>none
theorem u9 {F:Value->Value->Sem Value}{C:Int->Int->Prop}[∀i j,Decidable (C i j)]{g:Int->Int->Int}
  (rule:∀(i j:Int) (t u:Tok) (s:Shared) (Q:Value->Shared->Prop) (E:Value->Shared->Prop),C i j->Q (.int (g i j) s.toks) { s with toks:=s.toks+1 }->W X (F (.int i t) (.int j u)) Q E s):zm X F (Kk C λi j=>.int (g i j)):=by
 intro z s p q u v r E hz dp dq e
 unfold Kk at e
 split at e
 ·split at e
  ·next hc=>cases e;obtain⟨⟨t,rfl⟩,_⟩:=dp;obtain⟨⟨t',rfl⟩,_⟩:=dq;exact rule _ _ _ _ _ _ _ hc ⟨hz.tok _,_,rfl⟩
  ·cases e
 ·cases e
theorem Dl {F:Value->Value->Sem Value}{g:Int->Int->Int}
  (rule:∀(i j:Int) (t u:Tok) (s:Shared) (Q:Value->Shared->Prop) (E:Value->Shared->Prop),Q (.int (g i j) s.toks) { s with toks:=s.toks+1 }->W X (F (.int i t) (.int j u)) Q E s):zm X F (rI λi j=>.int (g i j)):=by
 intro z s p q u v r E hz dp dq e
 unfold rI at e
 split at e
 ·cases e;obtain⟨⟨t,rfl⟩,_⟩:=dp;obtain⟨⟨t',rfl⟩,_⟩:=dq;exact rule _ _ _ _ _ _ _ ⟨hz.tok _,_,rfl⟩
 ·cases e
noncomputable def MO (f:Int->Int->Bool)(p q:PV):Option RV:=(qo p).bind λi=>(qo q).map λj=>.fz (.bl (f i j))
theorem Fd {F:Value->Value->Sem Value}{g:Int->Int->Bool}
  (rule:∀(i j:Int) (t u:Tok) (s:Shared) (Q:Value->Shared->Prop) (E:Value->Shared->Prop),Q (.bool (g i j)) s->W X (F (.int i t) (.int j u)) Q E s):zm X F (MO g):=by
 intro z s p q u v r E hz dp dq e
 obtain⟨i,e1,e⟩:=a0a.mp e
 obtain⟨j,e2,rfl⟩:=a0d.mp e
 cases c7 e1;cases c7 e2
 obtain⟨⟨t,rfl⟩,_⟩:=dp;obtain⟨⟨t',rfl⟩,_⟩:=dq;exact rule _ _ _ _ _ _ _ ⟨hz.refl,rfl⟩
theorem Z.ok.newT {z:Z X}{s:Shared}(hz:z.ok s){ps:List PV}{its:List Value}(d:Ds z.cn s.heap ps its)(l:its.length<=sizeLine)(t:Nat):Z.post z s (.fz (.tup ps)) (.ref s.heap.objs.size) { s with heap:=s.heap.push { cls:=.type "tuple",data:=.seq its.toArray },toks:=t }:=
 ⟨hz.push _ t,_,its,rfl,hz.free (Heap.get?_none_of_le (a0n _)),⟨_,Heap.get?_push_size _ rfl,rfl,_,rfl⟩,l,d.mono (hz.push _ t).2.kpD⟩
theorem Z.ok.newL {z:Z X}{s:Shared}(hz:z.ok s){ps:List PV}{its:List Value}(d:Ds z.cn s.heap ps its)(l:its.length<=sizeLine){h':Heap}{t n:Nat}(k:∀b u,s.heap.get? b=some u->h'.get? b=some u)(e:h'.get? s.heap.objs.size=some (d9 its n)):Z.post z s (.nw ps) (.ref s.heap.objs.size) { s with heap:=h',toks:=t }:=by
 have n:=Heap.get?_none_of_le (h:=s.heap) (a0n _)
 refine⟨hz.kept k,_,rfl,n,hz.free n,its,_,e,l,(d.mono (xR n)).mono ⟨rfl,rfl,rfl,λb o q e=>⟨q,k b o e⟩⟩⟩
theorem Z.ok.newL0 {z:Z X}{s:Shared}(hz:z.ok s){ps:List PV}{its:List Value}(d:Ds z.cn s.heap ps its)(l:its.length<=sizeLine){t n:Nat}:Z.post z s (.nw ps) (.ref s.heap.objs.size) { s with heap:=s.heap.push (d9 its n),toks:=t }:=
 Z.ok.newL hz d l (λ_ _ e=>Heap.get?_push_of_some _ e) (Heap.get?_push_size _ rfl)
noncomputable def cH:PV->PV->Option RV
 |.int i,q=>(qo q).map λj=>.fz (.int (i+j))
 |.lst ps,q=>(Nh q).bind λqs=>if ps.length+qs.length<=100000 then some (.nw (ps++qs)) else none
 |.tup ps,q=>(Qm q).bind λqs=>if ps.length+qs.length<=100000 then some (.fz (.tup (ps++qs))) else none
 |.str x,q=>(vx q).bind λy=>if x.length+y.length<=100000 then some (.fz (.str (x++y))) else none
 |_,_=>none
end
section
variable {X:Cx}{e a b c:Expr}{es hV:List Expr}{pos:Pos}{f fa fb fc:FE}{fs:FA}{i:Nat}{ba bb:FB}
theorem Mx:zm X (binaryOp .Add) cH:=by
 intro z s p q u v r E hz dp dq e
 cases p<;>first|exact uz e|skip
 case int=>
  obtain⟨j,e2,rfl⟩:=a0d.mp e
  cases c7 e2
  obtain⟨⟨t,rfl⟩,_⟩:=dp;obtain⟨⟨t',rfl⟩,_⟩:=dq;exact add_int ⟨hz.tok _,_,rfl⟩
 case lst ps=>
  obtain⟨qs,e2,e9⟩:=a0a.mp e
  clear e
  cases GF e2
  split at e9
  ·next h=>
   cases e9
   obtain⟨⟨l,its,n,rfl,_,e1,z1,d1⟩,_⟩:=dp
   obtain⟨⟨l2,its2,n2,rfl,_,e2,z2,d2⟩,_⟩:=dq
   have l1:=d1.length
   have l2:=d2.length
   have hb:=big h
   refine PySem.P.add_list e1 e2 ?_ (by rw[a0h,a0h];omega)
   rw[List.append_toArray]
   exact Z.ok.newL0 (n:=0) hz (d1.app d2) (by rw[a0t];omega)
  ·cases e9
 case tup ps=>
  obtain⟨qs,e2,e9⟩:=a0a.mp e
  clear e
  cases Dv e2
  split at e9
  ·next h=>
   cases e9
   have hb:=big h
   obtain⟨l,its,rfl,o1,e1,z1,d1⟩:=dp.2 rfl
   obtain⟨l2,its2,rfl,o2,e2,z2,d2⟩:=dq.2 rfl
   have l1:=d1.length
   have l2:=d2.length
   by_cases hx:its=[]
   ·subst hx
    rw[a2f] at l1
    cases a2t.mp l1.symm
    obtain⟨⟨cls,dd,data,sl⟩,ho,hc,n,hd⟩:=id e1
    obtain⟨⟨cls2,dd2,data2,sl2⟩,ho2,hc2,n2,hd2⟩:=id e2
    simp only at hc hd hc2 hd2
    subst hc hd hc2 hd2
    exact concat_meets ⟨_,ho,rfl⟩ ⟨_,ho2,rfl⟩ noFill_tuple_add seq_tuple_add PySem.F.slot_tuple_add PySem.F.entry_tuple_add (PySem.F.args_tuple_add_2 _ _) (tuple_addW0 _ _ _ _ n n2 dd dd2 sl sl2 (by rfl)) ⟨ho,ho2,hz.refl,dq.2 rfl⟩
   ·refine HT.cat_tup e1 e2 hx (λhw=>?_) (λhw=>?_) (by omega)
    ·subst hw
     rw[a2f] at l2
     cases a2t.mp l2.symm
     rw[a1s]
     exact⟨hz.refl,dp.2 rfl⟩
    ·exact Z.ok.newT hz (d1.app d2) (by rw[a0t];omega) s.toks
  ·cases e9
 case str=>
  obtain⟨y,e2,e9⟩:=a0a.mp e
  clear e
  cases sZ e2
  split at e9
  ·next h=>cases e9;obtain⟨⟨t,rfl⟩,_⟩:=dp;obtain⟨⟨t',rfl⟩,_⟩:=dq;exact PyProof.Rows.add_str (λt tk=>⟨hz.tok _,_,rfl⟩) (big h)
  ·cases e9
noncomputable def xT:PV->PV->Option RV:=rI λi j=>.int (i - j)
noncomputable def P2:PV->Int->Option RV
 |.int i,j=>if (i.natAbs<2 ^ 64)\/(j.natAbs<2 ^ 64) then some (.fz (.int (i * j))) else none
 |.lst ps,j=>if j<=1000/\-1000<=j/\ps.length<=100 then some (.nw (a0r j.toNat ps).flatten) else none
 |.tup ps,j=>if ps.isEmpty=false/\1<=j/\j<=1000/\ps.length<=1000 then some (.fz (.tup (a0r j.toNat ps).flatten)) else none
 |_,_=>none
noncomputable def iI (p q:PV):Option RV:=(qo q).bind (P2 p)
theorem wa:sizeLine >= 1000000:=by decide
theorem MB:zm X (binaryOp .Mult) iI:=by
 intro z s p q u v r E hz dp dq e
 have z1:=wa
 obtain⟨k,ek,e9⟩:=a0a.mp e
 clear e
 cases c7 ek
 cases p<;>first|exact uz e9|skip
 case int i=>
  have e:(if (i.natAbs<2 ^ 64)\/(k.natAbs<2 ^ 64) then some (RV.fz (.int (i * k))) else none)=some r:=e9
  clear e9
  split at e
  ·next h=>
   cases e;obtain⟨⟨t,rfl⟩,_⟩:=dp;obtain⟨⟨t',rfl⟩,_⟩:=dq
   refine mul_int ⟨hz.tok _,_,rfl⟩ (CMul.ok ?_)
   rcases h with h|h
   ·exact .inl (by omega)
   ·exact .inr (by omega)
  ·cases e
 case lst ps=>
  have e:(if k<=1000/\-1000<=k/\ps.length<=100 then some (RV.nw (a0r k.toNat ps).flatten) else none)=some r:=e9
  clear e9
  split at e
  ·next h=>
   cases e
   obtain⟨h1,h2,h3⟩:=h
   obtain⟨⟨l,its,n,rfl,_,e,_,d⟩,_⟩:=dp;obtain⟨⟨t,rfl⟩,_⟩:=dq
   have hl:=d.length
   have Bv:its.length * k.toNat<=100 * 1000:=Nat.mul_le_mul (by omega) (by omega)
   have hlen:its.toArray.size * k.toNat<=sizeLine:=by rw[a0h];omega
   have hcap:¬its.toArray.size * k.toNat > (2 ^ 63 - 1) / 8:=by rw[a0h];omega
   have hfit:¬(!Builtin.List.listFitsIndex k)=true:=by
    rw[fitsIndex_both (by omega) (by omega)]
    exact a0u
   have hlong:¬Builtin.List.listTooLong (its.toArray.size * k.toNat)=true:=by
    rw[vY hlen]
    exact a0u
   have hnew:a6c (λx1 x2=>x1++x2) #[] (a0r (if its.toArray.isEmpty=true then 0 else k.toNat) its.toArray)=(a0r k.toNat its).flatten.toArray:=by
    rw[lM]
    cases its with
    |nil=>simp
    |cons a r'=>rw[if_neg (by simp)]
   refine wpAny_binaryOp_repeat_ref (T:="list") (U:="int") (by decide) ⟨_,e,rfl⟩ (λs'=>typeIs_int s' k t) noFill_list_mul PySem.F.fills_int_mul PySem.F.slot_int_rmul repeat_list PySem.F.slot_int_index.lookup
    (call_meets PySem.F.slot_int_rmul (typeIs_int s k t) PySem.F.entry_int_rmul (PySem.F.args_int_rmul_2 _ _) (int___rmul___int_list k t l its.toArray n)
     ⟨e,rfl,⟨_,e,rfl⟩,call_meets PySem.F.slot_list_mul ⟨_,e,rfl⟩ PySem.F.entry_list_mul (PySem.F.args_list_mul_2 _ _) (AutoListH.list___mul___list_int_3 l its.toArray n k t hfit hcap hlong) ⟨e,?_⟩⟩)
   rw[hnew]
   exact Z.ok.newL0 (n:=0) hz (d.rep k.toNat) (by rw[uo,a5s];omega)
  ·cases e
 case tup ps=>
  have e:(if ps.isEmpty=false/\1<=k/\k<=1000/\ps.length<=1000 then some (RV.fz (.tup (a0r k.toNat ps).flatten)) else none)=some r:=e9
  clear e9
  split at e
  ·next h=>
   cases e
   obtain⟨h0,h1,h2,h3⟩:=h
   obtain⟨l,its,rfl,o1,p1,_,d⟩:=dp.2 rfl;obtain⟨⟨t,rfl⟩,_⟩:=dq
   obtain⟨⟨cls,dd,data,sl⟩,e,hc,n,hd⟩:=id p1
   simp only at hc hd
   subst hc hd
   have hl:=d.length
   have hne:its≠[]:=λw=>by subst w;cases a2t.mp hl.symm;cases h0
   have Bv:its.length * k.toNat<=1000 * 1000:=Nat.mul_le_mul (by omega) (by omega)
   refine wpAny_binaryOp_repeat_ref (T:="tuple") (U:="int") (by decide) ⟨_,e,rfl⟩ (λs'=>typeIs_int s' k t) np PySem.F.fills_int_mul PySem.F.slot_int_rmul uh PySem.F.slot_int_index.lookup
    (call_meets PySem.F.slot_int_rmul (typeIs_int s k t) PySem.F.entry_int_rmul (PySem.F.args_int_rmul_2 _ _) (pV k t l its.toArray n dd sl) ⟨e,rfl,⟨_,e,rfl⟩,?_⟩)
   by_cases hk:k=1
   ·subst hk
    refine call_meets PySem.F.slot_tuple_mul ⟨_,e,rfl⟩ PySem.F.entry_tuple_mul (PySem.F.args_tuple_mul_2 _ _) (qA l its.toArray n dd sl t) ⟨e,hz.refl,?_⟩
    rw[show (a0r (1:Int).toNat ps).flatten=ps by simp]
    exact dp.2 rfl
   ·have hsz:((its.toArray.size:Nat):Int) * k=((its.length * k.toNat:Nat):Int):=by
     rw[a0h,Int.natCast_mul,a2g (by omega)]
    refine call_meets PySem.F.slot_tuple_mul ⟨_,e,rfl⟩ PySem.F.entry_tuple_mul (PySem.F.args_tuple_mul_2 _ _) (qT l its.toArray n dd sl k t ?a1 ?a2 ?a3 ?a4 ?a5 ?a6) ⟨e,?_⟩
    case a1=>simp;omega
    case a2=>simp[hne];exact hk
    case a3=>simp[hne];omega
    case a4=>rw[hsz];omega
    case a5=>
     rw[hsz]
     intro hh
     have h2:=of_decide_eq_true hh
     omega
    case a6=>
     rw[lM,a0h,uo,a5s]
     omega
    rw[lM]
    exact Z.ok.newT hz (d.rep k.toNat) (by rw[uo,a5s];omega) s.toks
  ·cases e
noncomputable def kY:PV->PV->Option RV:=Kk (λ_ j=>0<j/\j<1073741824) λi j=>.int (i / j)
noncomputable def b6:PV->PV->Option RV:=Kk (λ_ j=>0<j) λi j=>.int (i % j)
noncomputable def J7:PV->PV->Option RV:=Kk (λi j=>0<=j/\j<=1000000/\i.natAbs<2 ^ 64) λi j=>.int (i ^ j.toNat)
noncomputable def Qp:PV->PV->Option RV:=Kk (λ_ j=>0<=j) λi j=>.int (i / 2 ^ j.toNat)
noncomputable def Qd:PV->PV->Option RV:=Kk (λi j=>0<=j/\j<=1000000/\i.natAbs<2 ^ 64) λi j=>.int (i * 2 ^ j.toNat)
noncomputable def Nf:PV->PV->Option RV:=rI λi j=>.int (Builtin.bitAnd i j)
noncomputable def QP:Operator->PV->PV->Option RV
 |.Add=>cH
 |.Sub=>xT
 |.Mult=>iI
 |.FloorDiv=>kY
 |.Mod=>b6
 |.Pow=>J7
 |.RShift=>Qp
 |.LShift=>Qd
 |.BitAnd=>Nf
 |_=>λ_ _=>none
theorem Pv:∀op,zm X (binaryOp op) (QP op)
 |.Add=>Mx
 |.Sub=>Dl λ_ _ _ _ _ _ _ q=>sub_int q
 |.Mult=>MB
 |.FloorDiv=>u9 λi j _ _ _ _ _ hc q=>floordiv_int (by omega) (by rw[a4g i (by omega)];exact q) (.inl (PyProof.noPylong_small (by omega)))
 |.Mod=>u9 λi j _ _ _ _ _ hc q=>mod_int' (by omega) (by rw[Int.fmod_eq_emod_of_nonneg i (by omega)];exact q)
 |.Pow=>u9 λ_ _ _ _ _ _ _ hc q=>pow_int_small hc.1 hc.2.1 hc.2.2 q
 |.RShift=>u9 λi j _ _ _ _ _ hc q=>rshift_int hc (by rw[a4g i (wK _)];exact q)
 |.LShift=>u9 λ_ _ _ _ _ _ _ hc q=>lshift_int_small hc.1 hc.2.1 hc.2.2 q
 |.BitAnd=>Dl λ_ _ _ _ _ _ _ q=>and_int q
 |.BitOr|.BitXor|.Div|.MatMult=>λ_ _ _ _ _ _ _ _ _ _ _ e=>by cases e
noncomputable def kr:PV->Bool
 |.non=>true
 |_=>false
noncomputable def Mb:PV->PV->Option RV:=MO λi j=>decide (i<j)
noncomputable def K7:PV->PV->Option RV:=MO λi j=>decide (i<=j)
noncomputable def Mk:PV->PV->Option RV:=MO λi j=>decide (j<i)
noncomputable def M9:PV->PV->Option RV:=MO λi j=>decide (j<=i)
noncomputable def mc (x y:PV):Option RV:=if bM x&&bM y&&decide (rj x<=50) then some (.fz (.bl (jL x y))) else none
noncomputable def nA (x y:PV):Option RV:=if bM x&&bM y&&decide (rj x<=50) then some (.fz (.bl (!jL x y))) else none
noncomputable def zk (x y:PV):Option RV:=match items y with
 |some ps=>if bM x&&aJ ps&&decide (cB ps<=50) then some (.fz (.bl (pin x ps))) else none
 |none=>(Pk x y).map λb=>.fz (.bl b)
noncomputable def kB (x y:PV):Option RV:=match items y with
 |some ps=>if bM x&&aJ ps&&decide (cB ps<=50) then some (.fz (.bl (!pin x ps))) else none
 |none=>(Pk x y).map λb=>.fz (.bl (!b))
noncomputable def Bm (x y:PV):Option RV:=match y with
 |.non=>some (.fz (.bl (kr x)))
 |_=>none
noncomputable def pY (x y:PV):Option RV:=match y with
 |.non=>some (.fz (.bl (!kr x)))
 |_=>none
noncomputable def qV:CmpOp->PV->PV->Option RV
 |.Lt=>Mb
 |.LtE=>K7
 |.Gt=>Mk
 |.GtE=>M9
 |.Eq=>mc
 |.NotEq=>nA
 |.In=>zk
 |.NotIn=>kB
 |.Is=>Bm
 |.IsNot=>pY
theorem yx {z:Z X}{h:Heap}{p:PV}{u:Value}(d:Rd z.cn h p u):(u==Value.none)=kr p:=by
 cases p with
 |non=>cases (show u=_ from d);rfl
 |bl=>cases (show u=_ from d);rfl
 |ty=>cases (show u=_ from d);rfl
 |fn=>obtain⟨_,_,rfl⟩:=d;rfl
 |int=>obtain⟨t,rfl⟩:=d;rfl
 |str=>obtain⟨t,rfl⟩:=d;rfl
 |set=>exact (show False from d).elim
 |rng=>obtain⟨_,_,_,_,rfl,_⟩:=d;rfl
 |lst=>obtain⟨_,_,_,rfl,_⟩:=d;rfl
 |src=>obtain⟨_,_,_,rfl,_⟩:=d;rfl
 |_=>obtain⟨_,_,rfl,_⟩:=d;rfl
theorem sS (hu:X.A.units+64<cLine):∀op,zm X (compareOp op) (qV op)
 |.Lt=>Fd λ_ _ _ _ _ _ _ h=>lt_int h
 |.LtE=>Fd λ_ _ _ _ _ _ _ h=>le_int h
 |.Gt=>Fd λ_ _ _ _ _ _ _ h=>gt_int h
 |.GtE=>Fd λ_ _ _ _ _ _ _ h=>ge_int h
 |.Eq=>λz s p q u v r E hz dp dq e=>by
  change mc p q=some r at e
  unfold mc at e
  split at e
  ·next h=>
   cases e
   simp only[a0b,decide_eq_true_eq] at h
   exact (EY (A:=X.A) h.1.1 h.1.2 (by omega) dp.1 dq.1).1 _ _ _ _ ⟨hz.refl,rfl⟩
  ·cases e
 |.NotEq=>λz s p q u v r E hz dp dq e=>by
  change nA p q=some r at e
  unfold nA at e
  split at e
  ·next h=>
   cases e
   simp only[a0b,decide_eq_true_eq] at h
   exact (EY (A:=X.A) h.1.1 h.1.2 (by omega) dp.1 dq.1).2 _ _ _ _ ⟨hz.refl,rfl⟩
  ·cases e
 |.In=>λz s p q u v r E hz dp dq e=>by
  change zk p q=some r at e
  unfold zk at e
  split at e
  ·next ps h1=>
   split at e
   ·next h=>
    cases e
    simp only[a0b,decide_eq_true_eq] at h
    exact HQ false hu h.1.1 dp.1 dq.1 h1 h.1.2 h.2 ⟨hz.refl,rfl⟩
   ·cases e
  ·obtain⟨b,e1,rfl⟩:=a0d.mp e
   exact Bs (A:=X.A) (ng:=false) dp.1 dq.1 e1 λtk=>⟨hz.tok tk,rfl⟩
 |.NotIn=>λz s p q u v r E hz dp dq e=>by
  change kB p q=some r at e
  unfold kB at e
  split at e
  ·next ps h1=>
   split at e
   ·next h=>
    cases e
    simp only[a0b,decide_eq_true_eq] at h
    exact HQ true hu h.1.1 dp.1 dq.1 h1 h.1.2 h.2 ⟨hz.refl,rfl⟩
   ·cases e
  ·obtain⟨b,e1,rfl⟩:=a0d.mp e
   exact Bs (A:=X.A) (ng:=true) dp.1 dq.1 e1 λtk=>⟨hz.tok tk,rfl⟩
 |.Is=>λz s p q u v r E hz dp dq e=>by
  change Bm p q=some r at e
  unfold Bm at e
  split at e
  ·cases e
   cases (show v=Value.none from dq.1)
   exact is_none_gen ⟨hz.refl,by rw[yx dp.1];rfl⟩
  ·cases e
 |.IsNot=>λz s p q u v r E hz dp dq e=>by
  change pY p q=some r at e
  unfold pY at e
  split at e
  ·cases e
   cases (show v=Value.none from dq.1)
   exact isnot_none_gen ⟨hz.refl,by rw[yx dp.1];rfl⟩
  ·cases e
theorem Np {op:CmpOp}{g:PV->PV->Option RV}(h:zm X (compareOp op) g)(ha:NE X a fa)(hb:NE X b fb)(hm:behindInMarks op b=false):NE X (.Compare a [op] [b] pos) (ak g fa fb):=λz s r E hz q=>by
 obtain⟨x,y,ex,ey,eg⟩:=yE q
 exact wpAny_Compare1 (two ha hb hz ex ey λu v s2 g2 d1 d2=>aY (h z s2 _ _ u v r E g2.1 d1.rv d2.rv eg) λw s3 q3=>g2.post q3) hm
noncomputable def Ba:Option RV->Option Bool
 |some (.fz (.bl b))=>some b
 |_=>none
noncomputable def fT (f:FE):FB:=λρ=>Ba (f ρ)
theorem gH {o:Option RV}{b:Bool}(h:Ba o=some b):o=some (.fz (.bl b)):=by
 unfold Ba at h
 split at h
 ·cases h;rfl
 ·cases h
theorem NY {op:CmpOp}{g:PV->PV->Option RV}(h:zm X (compareOp op) g)(ha:NE X a fa)(hb:NE X b fb)(hm:behindInMarks op b=false):NB X (.Compare a [op] [b] pos) (fT (ak g fa fb)):=λz s k E hz q=>by
 obtain⟨x,y,ex,ey,eg⟩:=yE (gH q)
 exact wpAny_isTrue_Compare1 (two ha hb hz ex ey λu v s2 g2 d1 d2=>aY (h z s2 _ _ u v _ E g2.1 d1.rv d2.rv eg) λw s3 q3=>by
  cases (show w=Value.bool k from q3.2)
  exact wpAny_truthy_bool ⟨rfl,g2.trans q3.1⟩) hm
theorem Iy (h:NE X e f)(hv:∀whole,isTrue e X.env whole=(do let v ←whole;standAt e.pos;holding [v] (truthy v))):NB X e (fT f):=λz s k E hz q=>
 isTrue_plain (aY (h z s _ E hz (gH q)) λv s1 q1=>by
  cases (show v=Value.bool k from q1.2)
  exact wpAny_truthy_bool ⟨rfl,q1.1⟩) (hv _)
noncomputable def eQ (g:FB):FB:=λρ=>(g ρ).map λb=>!b
noncomputable def jV (g k:FB):FB:=λρ=>(g ρ).bind λb=>if b=true then k ρ else some false
noncomputable def oQ (g k:FB):FB:=λρ=>(g ρ).bind λb=>if b=true then some true else k ρ
theorem Ji (ha:NB X a ba):NW X (.BoolOp .And [a] pos) ba:=λz wh s k E hz q=>by
 refine isTrue_and (aY (ha z s k E hz q) λc s1 e=>?_)
 cases c with
 |true=>exact isTrue_and_nil e
 |false=>exact e
theorem Nl (ha:NB X a ba):NW X (.BoolOp .Or [a] pos) ba:=λz wh s k E hz q=>by
 refine isTrue_or (aY (ha z s k E hz q) λc s1 e=>?_)
 cases c with
 |false=>exact isTrue_or_nil e
 |true=>exact e
theorem OL (ha:NB X a ba)(hb:NW X (.BoolOp .And (b::hV) pos) bb):NW X (.BoolOp .And (a::b::hV) pos) (jV ba bb):=λz wh s k E hz q=>by
 obtain⟨c0,e0,q⟩:=a0a.mp q
 refine isTrue_and (aY (ha z s c0 E hz e0) λc s1 ⟨e,g1⟩=>?_)
 subst e
 cases c with
 |true=>exact aY (hb z wh s1 k E g1.1 q) λd s2 ⟨e2,g2⟩=>⟨e2,g1.trans g2⟩
 |false=>cases q;exact⟨rfl,g1⟩
theorem PY (ha:NB X a ba)(hb:NW X (.BoolOp .Or (b::hV) pos) bb):NW X (.BoolOp .Or (a::b::hV) pos) (oQ ba bb):=λz wh s k E hz q=>by
 obtain⟨c0,e0,q⟩:=a0a.mp q
 refine isTrue_or (aY (ha z s c0 E hz e0) λc s1 ⟨e,g1⟩=>?_)
 subst e
 cases c with
 |false=>exact aY (hb z wh s1 k E g1.1 q) λd s2 ⟨e2,g2⟩=>⟨e2,g1.trans g2⟩
 |true=>cases q;exact⟨rfl,g1⟩
theorem O2 (ha:NB X a ba):NB X (.UnaryOp .Not a pos) (eQ ba):=λz s k E hz q=>by
 obtain⟨c,e,rfl⟩:=a0d.mp q
 exact isTrue_not (aY (ha z s c E hz e) λd s1 ⟨e1,g1⟩=>⟨by rw[e1],g1⟩)
noncomputable def oT (f:FE):FE:=λρ=>(f ρ).bind λr=>r.fr.map .fz
theorem C9 (h:NE X e f):NE X e (oT f):=λz s r E hz q=>by
 obtain⟨x,ex,q⟩:=a0a.mp q
 obtain⟨p,ep,rfl⟩:=a0d.mp q
 exact aY (h z s x E hz ex) λu s1 q1=>⟨q1.1,q1.2.fr ep⟩
noncomputable def iO (f g:FE):FE:=λρ=>(Ba (f ρ)).bind λb=>if b=true then oT g ρ else some (.fz (.bl false))
noncomputable def Hs (f g:FE):FE:=λρ=>(Ba (f ρ)).bind λb=>if b=true then some (.fz (.bl true)) else oT g ρ
noncomputable def zq (f:FE):FE:=λρ=>(Ba (f ρ)).map λb=>.fz (.bl (!b))
theorem Og {op}(h:NE X a fa):NE X (.BoolOp op [a] pos) (oT fa):=λz s r E hz q=>BoolOp_one (C9 h z s r E hz q)
theorem OU (ha:NE X a fa)(hb:NE X (.BoolOp .And (b::hV) pos) fb):NE X (.BoolOp .And (a::b::hV) pos) (iO fa fb):=λz s r E hz q=>by
 obtain⟨k,ek,q⟩:=a0a.mp q
 refine BoolOp_and (aY (ha z s _ E hz (gH ek)) λv s1 q1=>?_)
 cases (show v=Value.bool k from q1.2)
 refine wpAny_truthy_bool ?_
 cases k with
 |true=>exact aY (C9 hb z s1 r E q1.1.1 q) λw s2 q2=>q1.1.post q2
 |false=>cases q;exact⟨q1.1,rfl⟩
theorem Qg (ha:NE X a fa)(hb:NE X (.BoolOp .Or (b::hV) pos) fb):NE X (.BoolOp .Or (a::b::hV) pos) (Hs fa fb):=λz s r E hz q=>by
 obtain⟨k,ek,q⟩:=a0a.mp q
 refine BoolOp_or (aY (ha z s _ E hz (gH ek)) λv s1 q1=>?_)
 cases (show v=Value.bool k from q1.2)
 refine wpAny_truthy_bool ?_
 cases k with
 |false=>exact aY (C9 hb z s1 r E q1.1.1 q) λw s2 q2=>q1.1.post q2
 |true=>cases q;exact⟨q1.1,rfl⟩
theorem Od (ha:NE X a fa):NE X (.UnaryOp .Not a pos) (zq fa):=λz s r E hz q=>by
 obtain⟨k,ek,rfl⟩:=a0d.mp q
 refine UnaryOp_ (aY (ha z s _ E hz (gH ek)) λv s1 q1=>?_)
 cases (show v=Value.bool k from q1.2)
 exact not_of (wpAny_truthy_bool ⟨q1.1,rfl⟩)
noncomputable def Gw (o:Option PV):Option RV:=match o with
 |some (.int i)=>some (.fz (.int (-i)))
 |_=>none
noncomputable def pS (f:FE):FE:=λρ=>(f ρ).bind λr=>Gw r.fr
theorem HH (ha:NE X a fa):NE X (.UnaryOp .USub a pos) (pS fa):=λz s r E hz q=>by
 obtain⟨x,ex,q⟩:=a0a.mp q
 unfold Gw at q
 split at q
 ·next i h=>
  cases q
  refine UnaryOp_ (aY (ha z s _ E hz ex) λv s1 q1=>?_)
  obtain⟨t,rfl⟩:=q1.2.fr h
  exact neg_int (q1.1.post ⟨q1.1.1.tok _,_,rfl⟩)
 ·cases q
noncomputable def MT (g:FB)(f k:FE):FE:=λρ=>(g ρ).bind λb=>if b=true then oT f ρ else oT k ρ
theorem PI {t:Expr}(hc:NB X t ba)(ha:NE X a fa)(hb:NE X b fb):NE X (.IfExp t a b pos) (MT ba fa fb):=λz s r E hz q=>by
 obtain⟨k,ek,q⟩:=a0a.mp q
 refine wpAny_IfExp (aY (hc z s k E hz ek) λd s1 ⟨e,g1⟩=>?_)
 subst e
 cases d with
 |true=>exact aY (C9 ha z s1 r E g1.1 q) λw s2 q2=>g1.post q2
 |false=>exact aY (C9 hb z s1 r E g1.1 q) λw s2 q2=>g1.post q2
noncomputable def II (g g':PV->PV->Option RV)(a b c:FE):FE:=λρ=>(a ρ).bind λx=>(b ρ).bind λy=>(Ba (g x.pv y.pv)).bind λk=>if k=true then (c ρ).bind λz=>g' y.pv z.pv else some (.fz (.bl false))
noncomputable def ah:FA:=λ_=>some []
noncomputable def aa (f:FE)(fs:FA):FA:=λρ=>(f ρ).bind λr=>(fs ρ).bind λrs=>some (r::rs)
theorem RvsOk.ext {z:Z X}{h0 h h':Heap}{rs:List RV}{us:List Value}(d:RvsOk z h0 h rs us)(e:Ext z.bad h h'):RvsOk z h0 h' rs us:=by
 induction d with
 |nil=>exact .nil
 |cons a _ ih=>exact .cons (a.ext e) ih
theorem RvsOk.old {z:Z X}{h0 h h':Heap}{rs:List RV}{us:List Value}(d:RvsOk z h0 h rs us)(e:∀a,h0.get? a=none->h'.get? a=none):RvsOk z h' h rs us:=by
 induction d with
 |nil=>exact .nil
 |cons a _ ih=>exact .cons (a.old e) ih
theorem lK:NA X [] ah:=λz pos s rs E hz q=>by cases q;exact Calls.spliced_nil ⟨hz.refl,.nil⟩
theorem oV (ha:NE X e f)(hr:NA X es fs)(hs:starEach (e::es) X.env=(false,eval e X.env)::starEach es X.env):NA X (e::es) (aa f fs):=λz pos s rs E hz q=>by
 obtain⟨r,er,q⟩:=a0a.mp q
 obtain⟨rs',ers,q⟩:=a0a.mp q
 cases q
 rw[hs]
 show W X (spliced ((false,eval e X.env)::backTo pos (starEach es X.env))) _ _ s
 refine Calls.spliced_cons (aY (ha z s r E hz er) λu s1 q1=>?_)
 exact aY (hr z pos s1 rs' E q1.1.1 ers) λus s2 q2=>⟨q1.1.trans q2.1,.cons (q1.2.ext q2.1.2) (q2.2.old λ_=>Ext.back q1.1.2)⟩
theorem RvsOk.fr {z:Z X}{h0 h:Heap}{rs:List RV}{us:List Value}(d:RvsOk z h0 h rs us):∀{ps:List PV},rs.mapM RV.fr=some ps->Ds z.cn h ps us:=by
 induction d with
 |nil=>intro ps e;cases e;rfl
 |cons a _ ih=>
  intro ps e
  rw[a5l] at e
  obtain⟨p,e1,e⟩:=a0a.mp e
  obtain⟨qs,e2,e⟩:=a0a.mp e
  cases e
  exact .cons (a.fr e1) (ih e2)
inductive Rvs (z:Z X) (h:Heap):List PV->List Value->Prop where
 |nil:Rvs z h [] []
 |cons {p:PV} {u:Value} {ps:List PV} {us:List Value}:Rv z h p u->Rvs z h ps us->Rvs z h (p::ps) (u::us)
theorem RvsOk.rv {z:Z X}{h0 h:Heap}{rs:List RV}{us:List Value}(d:RvsOk z h0 h rs us):Rvs z h (rs.map RV.pv) us:=by
 induction d with
 |nil=>exact .nil
 |cons a _ ih=>exact .cons a.rv ih
noncomputable def ck (fs:FA):FE:=λρ=>(fs ρ).bind λrs=>(rs.mapM RV.fr).bind λps=>if ps.length<=100000 then some (.fz (.tup ps)) else none
noncomputable def gU (fs:FA):FE:=λρ=>(fs ρ).bind λrs=>(rs.mapM RV.fr).bind λps=>if ps.length<=100000 then some (.nw ps) else none
theorem M0 {k}(h:NA X es fs):NE X (.Tuple es k pos) (ck fs):=λz s r E hz q=>by
 obtain⟨rs,e1,q⟩:=a0a.mp q
 obtain⟨ps,e2,q⟩:=a0a.mp q
 split at q
 ·next hl=>
  cases q
  refine wpAny_Tuple_spliced (aY (h z pos s rs E hz e1) λus s1 ⟨g1,d1⟩=>?_)
  have d:=d1.fr e2
  have l:=d.length
  have lb:us.length<=sizeLine:=by rw[l];exact big hl
  exact⟨lb,g1.post (Z.ok.newT g1.1 d lb s1.toks)⟩
 ·cases q
theorem IL (h:NA X es fs):NE X (.List es pos) (gU fs):=λz s r E hz q=>by
 obtain⟨rs,e1,q⟩:=a0a.mp q
 obtain⟨ps,e2,q⟩:=a0a.mp q
 split at q
 ·next hl=>
  cases q
  refine wpAny_List_spliced (aY (h z pos s rs E hz e1) λus s1 ⟨g1,d1⟩=>?_)
  have d:=d1.fr e2
  have l:=d.length
  have lb:us.length<=sizeLine:=by rw[l];exact big hl
  exact⟨lb,g1.post (Z.ok.newL0 (n:=0) g1.1 d lb)⟩
 ·cases q
end
end Dp
end
section
namespace L2
open PySem PySem.Spec PyProof.Rows PySem.W
theorem qQ {α:Type}(d:α):∀(xs:List α),(a0l xs.length).map (λi=>xs.getD i d)=xs:=λxs=>by
 apply a4e
 ·simp
 ·intro i h1 h2
  rw[a4f,a3s]
  simp[h2]
end L2
end
section
namespace L2
open PySem PySem.Spec PyProof.Rows
noncomputable def DF (K:PySem.W.Frag)(mg:Str->Option Value)(x:Str)(st:Stmt)(ps:List Str):Prop:=∃f fd,Fun K x x st f fd/\(∀us:List Value,us.length=ps.length->bindArgs fd ⟨us,[]⟩=pure (ps.zip us))/\mg x=some (.ref f)
section
variable {P:Program}{w:World}{K:PySem.W.Frag}{mg:Str->Option Value}{base:Heap}
end
theorem Gu {K:PySem.W.Frag}{mg:Str->Option Value}{x:Str}{st:Stmt}{f:Addr}{oc:Value}{od an:Option Addr}{osl:Array (Option Value)}{kV doc pm cdv ct:Value}{ps:List Str}(l:K.lookup f=some ⟨oc,od,.func (PySem.W.fnOf x x (gA st) (cv st) (ai st) .none kV doc pm an cdv ct),osl⟩)
  (c:PySem.W.codeIn K cdv x=true) (k:PySem.W.keepIn K (.ref f)=true) (m:mg x=some (.ref f))
  (h:∀(kV doc pm:Value) (an:Option Addr) (cdv ct:Value) (us:List Value),us.length=ps.length->bindArgs (PySem.W.fnOf x x (gA st) (cv st) (ai st) .none kV doc pm an cdv ct) ⟨us,[]⟩=pure (ps.zip us)):DF K mg x st ps:=
 ⟨f,_,Ko l c k,h kV doc pm an cdv ct,m⟩
noncomputable def kh (H:Hp):V->Option (List V)
 |.ref a=>match H a with
  |some (.lst xs)=>some xs
  |_=>none
 |_=>none
theorem LD:bootBuiltins "len" = some (.builtin "len"):=by decide +kernel
theorem Kz:bootBuiltins "abs" = some (.builtin "abs"):=by decide +kernel
theorem Cv:bootBuiltins "max" = some (.builtin "max"):=by decide +kernel
theorem Cg:bootBuiltins "min" = some (.builtin "min"):=by decide +kernel
theorem KZ:bootBuiltins "all" = some (.builtin "all"):=by decide +kernel
theorem J0:bootBuiltins "any" = some (.builtin "any"):=by decide +kernel
theorem ra:bootBuiltins "isinstance" = some (.builtin "isinstance"):=by decide +kernel
theorem sF:bootBuiltins "sorted" = some (.builtin "sorted"):=by decide +kernel
theorem Lb:bootBuiltins "sum" = some (.builtin "sum"):=by decide +kernel
theorem DP:bootBuiltins "int" = some (.type "int"):=by decide +kernel
theorem E5:bootBuiltins "bool" = some (.type "bool"):=by decide +kernel
theorem B0:bootBuiltins "str" = some (.type "str"):=by decide +kernel
theorem uv:bootBuiltins "list" = some (.type "list"):=by decide +kernel
theorem pX:bootBuiltins "tuple" = some (.type "tuple"):=by decide +kernel
theorem GI:bootBuiltins "dict" = some (.type "dict"):=by decide +kernel
theorem BT:bootBuiltins "range" = some (.type "range"):=by decide +kernel
section
variable {X:Cx}{K:PySem.W.Frag}(h:X.K=K)
include h
end
noncomputable def NS (e:Expr):Prop:=∀(es:List Expr) (env:Env),starEach (e::es) env=(false,eval e env)::starEach es env
theorem uq:bootBuiltins "enumerate" = some (.type "enumerate"):=by decide +kernel
end L2
end
section
namespace L2
open PySem PySem.Spec PyProof.Rows PySem.SeqAt
end L2
end
section
namespace L2
open PySem PySem.Spec PyProof.Rows PySem.W
noncomputable def c9 {α:Type}(c:Nat->Nat->Bool):KasT α->α
 |.ret a=>a
 |.ask i j k=>c9 c (k (c i j))
theorem BK {α:Type}{n:Nat}{P:α->Prop}{cmp:Nat->Nat->(Bool->Shared->Prop)->Shared->Prop}{Q:α->Shared->Prop}{s:Shared}(lt:Nat->Nat->Bool)(hc:∀i j C,i<n->j<n->C (lt i j) s->cmp i j C s) :
  ∀{t:KasT α},Leaf n P t->(P (c9 lt t)->Q (c9 lt t) s)->t.kasWp cmp Q s
 |.ret a,h,hq=>hq h
 |.ask i j k,h,hq=>hc i j _ h.1 h.2.1 (BK lt hc (h.2.2 (lt i j)) hq)
theorem uZ {α:Type}{n:Nat}{P:α->Prop}(lt:Nat->Nat->Bool):∀{t:KasT α},Leaf n P t->P (c9 lt t)
 |.ret a,h=>h
 |.ask i j k,h=>uZ (t:=k (lt i j)) lt (h.2.2 (lt i j))
noncomputable def Bh (fin:Bool):List (Int×Int)->Bool
 |[]=>fin
 |(x,y)::r=>if x=y then Bh fin r else decide (x<y)
noncomputable def sY (xs ys:List Int):Bool:=Bh (decide (xs.length<ys.length)) (xs.zip ys)
noncomputable def oH (ks:List (List Int)):List Nat:=if ks.length<2 then a0l ks.length else (c9 (λi j=>sY (ks.getD i []) (ks.getD j [])) (kas_sort ks.length)).toList
theorem rJ (ks:List (List Int)):(oH ks).Perm (a0l ks.length):=by
 unfold oH
 split
 ·exact .refl _
 ·exact uZ _ (rF (by omega))
section
variable {X:Cx}{pins:List (Addr×Obj)}{σ:St}{H:Hp}{s:Shared}
theorem BD {prog:Program}{w:World}{A:Around}{fin:Bool}{C:Bool->Shared->Prop}{s':Shared}:∀{xs ys:List Int} {us vs:List Value} {k:Nat},Vals (xs.map V.int) us->Vals (ys.map V.int) vs->C (Bh fin (xs.zip ys)) s'->KatLex prog w A true fin C (us.zip vs) k s'
 |[],ys,us,vs,k,r1,r2,h=>by cases r1;exact kat_nil h
 |x::xs,[],us,vs,k,r1,r2,h=>by cases r2;cases us<;>exact kat_nil h
 |x::xs,y::ys,us,vs,k,r1,r2,h=>by
  cases r1 with
  |cons a1 r1=>
   cases r2 with
   |cons a2 r2=>
    obtain⟨t,rfl⟩:=a1
    obtain⟨u,rfl⟩:=a2
    rw[a3t] at h ⊢
    rw[Bh] at h
    refine kat_cons (wpAny_eqBool_int ?_)
    by_cases e:x=y
    ·rw[if_pos e] at h
     rw[show (x==y)=true by rw[e];exact beq_self_eq_true _]
     exact kat_yes (BD r1 r2 h)
    ·rw[if_neg e] at h
     rw[show (x==y)=false from beq_eq_false_iff_ne.mpr e]
     refine kat_no ?_
     by_cases hk:k=0
     ·subst hk;exact oneLt_int h
     ·rw[show (true&&k==0)=false by simp[hk]]
      exact kat_one _ _ (lt_int h)
end
end L2
end
section
namespace L2
open PySem PySem.Spec PyProof.Rows
noncomputable def Md (b:Bool):Nat:=if b then 1 else 0
theorem wS:typeLookup (.type "bool") "__index__" = pure (some (.builtin "int.__index__")):=by
 rw[typeLookup_type,builtinLookup_eq_fast]
 kernel_rfl
section
variable {P:Program}{w:World}{A:Around}{E:Value->Shared->Prop}{s:Shared}{b:Bool}
theorem B7 {Q:Option Int->Shared->Prop}(h:Q (some (Md b:Int)) s):wpAny (model P w) A (Builtin.List.listSubscript? (.bool b)) Q E s:=by
 have e:=PySem.typeIs_bool s b
 unfold Builtin.List.listSubscript?
 refine wpAny_bind (wpAny_specialOf (T:="bool") e wS ?_)
 refine (?_:wpAny _ _ (asIndex (.bool b) >>= _) _ _ _)
 refine wpAny_bind (wpAny_of_eq (a:=(Md b:Int)) (by cases b<;>rfl) ?_)
 cases b<;>exact wpAny_pure h
theorem AT {l:Addr}{xs:Array Value}{x:Value}{Q:Value->Shared->Prop}(hl:s.heap.IsList l xs)(hx:xs[Md b]?=some x)(h:Q x s):wpAny (model P w) A (getItem (.ref l) (.bool b)) Q E s:=by
 have ty:=hl.typeIs
 obtain⟨o,ho,hc,ne,hd⟩:=hl
 unfold getItem
 try with_reducible refine wpAny_holding ?_
 first|refine wpAny_bind (wpAny_pure ?_)|skip
 refine wpAny_bind (wpAny_sequenceKey ty (by decide) ?_)
 have ar:=args_list_getitem (.ref l) (.bool b)
 refine wpAny_bind (wpAny_callSpecial?_slot (name:=Str.ofString "__getitem__") ty slot_list_getitem (wpAny_call_entry slot_list_getitem ty entry_list_getitem ?_ ar))
 refine (?_:wpAny _ _ (Builtin.List.listSubscript? (.bool b) >>= _) _ _ s)
 refine wpAny_bind (B7 ?_)
 refine (?_:wpAny _ _ ((seqItemAt l (Md b) >>= λr=>pure (r.map (Md b,·))) >>= _) _ _ s)
 refine wpAny_bind (wpAny_bind (wpAny_seqItemAt ho hd (wpAny_pure ?_)))
 rw[hx]
 first
  |exact wpAny_pure ⟨x,rfl,wpAny_pure h⟩
  |exact wpAny_bind (wpAny_pure (wpAny_pure ⟨x,rfl,wpAny_pure h⟩))
end
theorem qU (its:List Value):slicePick its.toArray none none (some (-1))=its.reverse.toArray:=by
 have e:sliceBounds none none (some (-1)) its.toArray.size=((its.length:Int) - 1,-1,-1):=by simp[sliceBounds]
 have r:sliceRange ((its.length:Int) - 1) (-1) (-1)=(a0l its.length).map λ(k:Nat)=>(((its.length:Nat):Int) - 1+(-1) * (k:Int)).toNat:=by
  unfold sliceRange
  have c:(if (-1:Int) > 0 then (if (its.length:Int) - 1 < -1 then (-1 - ((its.length:Int) - 1) + -1 - 1) / -1 else 0) else (if (its.length:Int) - 1 > -1 then ((its.length:Int) - 1 - -1 - -1 - 1) / (- -1) else 0)).toNat=its.length:=by
   rw[if_neg (by decide)]
   by_cases h:(its.length:Int) - 1 > -1
   ·rw[if_pos h,show (- -1:Int)=1 by decide,a5r];omega
   ·rw[if_neg h];omega
  simp only[c]
 unfold slicePick
 rw[e]
 show (List.filterMap _ (sliceRange ((its.length:Int) - 1) (-1) (-1))).toArray=_
 rw[r,a5n,←HT.pick_rev]
 congr 2
 funext k
 show its.toArray[(((its.length:Nat):Int) - 1+(-1) * (k:Int)).toNat]?=_
 rw[Int.mul_comm]
end L2
end
section
namespace L2
open PySem PyProof.Rows PySem.W
theorem jr {α β:Type}{c:Nat->Nat->Bool}{f:α->KasT β}:∀{t:KasT α},c9 c (t.bind f)=c9 c (f (c9 c t))
 |.ret a=>rfl
 |.ask i j k=>jr (t:=k (c i j))
structure LtOk (n:Nat)(lt:Nat->Nat->Bool):Prop where
 tot:∀i j,i<n->j<n->i≠j->lt i j=false->lt j i=true
 tr:∀i j k,i<n->j<n->k<n->lt i j=true->lt j k=true->lt i k=true
noncomputable abbrev gp (p:Array Nat)(k:Nat):Nat:=p.getD k 0
noncomputable def Up (lt:Nat->Nat->Bool)(p:Array Nat)(m:Nat):Prop:=∀i j,i<j->j<m->lt (gp p i) (gp p j)=true
noncomputable def Dn (lt:Nat->Nat->Bool)(p:Array Nat)(m:Nat):Prop:=∀i j,i<j->j<m->lt (gp p j) (gp p i)=true
section
variable {n:Nat}{lt:Nat->Nat->Bool}{p:Array Nat}
theorem lZ (p:Array Nat)(k:Nat):gp p k=(p[k]?).getD 0:=by
 unfold gp;rw[Array.getD_eq_getD_getElem?]
theorem OfN.size (h:OfN n p):p.size=n:=by have:=h.length_eq;simpa using this
theorem OfN.lt' (h:OfN n p){k:Nat}(hk:k<n):gp p k<n:=h.lt (by omega) k
theorem OfN.inj (h:OfN n p){i j:Nat}(hi:i<n)(hj:j<n)(e:gp p i=gp p j):i=j:=by
 have nd:p.toList.Nodup:=h.nodup_iff.mpr List.nodup_range
 have hs:=h.size
 have a:∀{k:Nat} (hk:k<n),gp p k=p.toList[k]'(by rw[Array.length_toList];omega):=λ{k} hk=>by
  rw[lZ,Array.getElem?_eq_getElem (by omega)];simp
 rw[a hi,a hj] at e
 exact (a5b nd).mp e
theorem Up.snoc (L:LtOk n lt)(hp:OfN n p){k:Nat}(h1:1<=k)(hk:k<n)(u:Up lt p k)(h:lt (gp p (k - 1)) (gp p k)=true):Up lt p (k+1):=λi j hij hj=>by
 by_cases e:j=k
 ·subst e
  by_cases e2:i=j - 1
  ·subst e2;exact h
  ·exact L.tr _ _ _ (hp.lt' (by omega)) (hp.lt' (by omega)) (hp.lt' (by omega)) (u i (j - 1) (by omega) (by omega)) h
 ·exact u i j hij (by omega)
theorem Dn.snoc (L:LtOk n lt)(hp:OfN n p){k:Nat}(h1:1<=k)(hk:k<n)(u:Dn lt p k)(h:lt (gp p k) (gp p (k - 1))=true):Dn lt p (k+1):=λi j hij hj=>by
 by_cases e:j=k
 ·subst e
  by_cases e2:i=j - 1
  ·subst e2;exact h
  ·exact L.tr _ _ _ (hp.lt' (by omega)) (hp.lt' (by omega)) (hp.lt' (by omega)) h (u i (j - 1) (by omega) (by omega))
 ·exact u i j hij (by omega)
theorem tV (L:LtOk n lt)(hp:OfN n p):∀f k,1<=k->k+f<=n->Up lt p k->k<=c9 lt (kas_asc p f k)/\c9 lt (kas_asc p f k)<=k+f/\Up lt p (c9 lt (kas_asc p f k))/\(c9 lt (kas_asc p f k)<k+f->lt (gp p (c9 lt (kas_asc p f k))) (gp p (c9 lt (kas_asc p f k) - 1))=true)
 |0,k,_,_,u=>⟨a0n _,a0n _,u,λh=>absurd h (a1k _)⟩
 |f+1,k,h1,hn,u=>by
  rw[show c9 lt (kas_asc p (f+1) k)=c9 lt (if lt (gp p k) (gp p (k - 1))=true then .ret k else kas_asc p f (k+1)) from rfl]
  cases c:lt (gp p k) (gp p (k - 1)) with
  |true=>exact⟨a0n _,Nat.le_add_right _ _,u,λ_=>c⟩
  |false=>
   have:=L.tot _ _ (hp.lt' (k:=k) (by omega)) (hp.lt' (k:=k - 1) (by omega)) (λe=>by have:=hp.inj (by omega) (by omega) e;omega) c
   obtain⟨a,b,d,e⟩:=tV L hp f (k+1) (by omega) (by omega) (u.snoc L hp h1 (by omega) this)
   rw[if_neg a0u]
   exact⟨by omega,by omega,d,λh=>e (by omega)⟩
theorem wG (L:LtOk n lt)(hp:OfN n p):∀f k,1<=k->k+f<=n->Dn lt p k->∃m,c9 lt (kas_desc f p k 0)=(p,m,0)/\k<=m/\m<=k+f/\Dn lt p m
 |0,k,_,_,u=>⟨k,rfl,a0n _,a0n _,u⟩
 |f+1,k,h1,hn,u=>by
  rw[show c9 lt (kas_desc (f+1) p k 0)=c9 lt (if lt (gp p k) (gp p (k - 1))=true then kas_desc f p (k+1) 0 else .ask (gp p (k - 1)) (gp p k) λd=>if d=true then .ret (p,k,0) else kas_desc f p (k+1) 1) from rfl]
  cases c:lt (gp p k) (gp p (k - 1)) with
  |true=>
   obtain⟨m,a,b,d,e⟩:=wG L hp f (k+1) (by omega) (by omega) (u.snoc L hp h1 (by omega) c)
   exact⟨m,a,by omega,by omega,e⟩
  |false=>
   have:=L.tot _ _ (hp.lt' (k:=k) (by omega)) (hp.lt' (k:=k - 1) (by omega)) (λe=>by have:=hp.inj (by omega) (by omega) e;omega) c
   refine⟨k,?_,a0n _,by omega,u⟩
   rw[if_neg a0u]
   show c9 lt (if lt (gp p (k - 1)) (gp p k)=true then _ else _)=_
   rw[this];rfl
theorem Cy {m k:Nat}(hm:m<=p.size):gp (kas_rev p 0 m) k=if k<m then gp p (m - 1 - k) else gp p k:=by
 rw[lZ,lZ,lZ]
 unfold kas_rev
 rw[getElem?_mirror_all hm]
 by_cases h:k<m
 ·rw[if_pos ⟨a3b _,h⟩,if_pos h,a2u]
 ·rw[if_neg λz=>h z.2,if_neg h]
structure Run (n:Nat)(lt:Nat->Nat->Bool)(r:Nat×Array Nat):Prop where
 pos:1<=r.1
 le:r.1<=n
 of:OfN n r.2
 up:Up lt r.2 r.1
theorem Dx (L:LtOk n lt)(hp:OfN n p){m:Nat}(h1:1<=m)(hm:m<=n)(u:Dn lt p m):Run n lt (c9 lt (kas_tail3 m n p)):=by
 have hr:=OfN.rev hp 0 m
 have hs:=hp.size
 obtain⟨a,b,c,_⟩:=tV L hr (n - m) m h1 (by omega) (λi j hij hj=>by
  rw[Cy (by omega),Cy (by omega),if_pos (by omega),if_pos hj]
  exact u _ _ (by omega) (by omega))
 unfold kas_tail3
 rw[jr]
 exact⟨a1r h1 a,by show c9 lt (kas_asc (kas_rev p 0 m) (n - m) m)<=n;omega,hr,c⟩
theorem A3 (L:LtOk n lt)(hp:OfN n p)(hn:1<=n):Run n lt (c9 lt (kas_count n p)):=by
 unfold kas_count
 rw[jr]
 obtain⟨a,b,c,d⟩:=tV L hp (n - 1) 1 (a0n _) (by omega) (λi j hij hj=>by omega)
 generalize c9 lt (kas_asc p (n - 1) 1)=m at *
 split
 ·exact⟨a,by show m<=n;omega,hp,c⟩
 ·next ne=>
  have ne:m≠n:=λe=>ne (by subst e;exact beq_self_eq_true _)
  split
  ·next h=>
   rw[show c9 lt (KasT.ask (p.getD 0 0) (p.getD (m - 1) 0) λc=>if c=true then KasT.ret (m,p) else kas_descPart m n (kas_rev p 0 m))=c9 lt (if lt (gp p 0) (gp p (m - 1))=true then KasT.ret (m,p) else kas_descPart m n (kas_rev p 0 m)) from rfl,if_pos (c 0 (m - 1) (by omega) (by omega))]
   exact⟨a,by show m<=n;omega,hp,c⟩
  ·have e:m=1:=by omega
   subst e
   have d:=d (by omega)
   unfold kas_descPart
   rw[jr]
   obtain⟨m,e1,e2,e3,e4⟩:=wG L hp (n - (1+1)) (1+1) (by omega) (by omega) (λi j hij hj=>by
    obtain⟨rfl,rfl⟩:i=0/\j=1:=by omega
    exact d)
   rw[e1,if_neg (a1k 0)]
   have ne2:2<=n:=by omega
   exact Dx (m:=m) L hp (by omega) (by omega) e4
theorem nL (L:LtOk n lt)(hp:OfN n p){k:Nat}(hk:k<n)(u:Up lt p k):∀f l r,r - l<=f->l<=r->r<=k->(∀i,i<l->lt (gp p i) (gp p k)=true)->(∀i,r<=i->i<k->lt (gp p k) (gp p i)=true) →
  ∃m,c9 lt (kas_place p k f l r)=m/\m<=k/\(∀i,i<m->lt (gp p i) (gp p k)=true)/\∀i,m<=i->i<k->lt (gp p k) (gp p i)=true
 |0,l,r,hf,hl,hr,a,b=>⟨l,rfl,by omega,a,λi hi hik=>b i (by omega) hik⟩
 |f+1,l,r,hf,hl,hr,a,b=>by
  rw[show c9 lt (kas_place p k (f+1) l r)=c9 lt (if l >= r then .ret l else .ask (gp p k) (gp p ((l+r) / 2)) λc=>if c=true then kas_place p k f l ((l+r) / 2) else kas_place p k f ((l+r) / 2+1) r) from rfl]
  by_cases h:l >= r
  ·rw[if_pos h];exact⟨l,rfl,by omega,a,λi hi hik=>b i (by omega) hik⟩
  ·rw[if_neg h]
   show ∃m,c9 lt (if lt (gp p k) (gp p ((l+r) / 2))=true then _ else _)=m/\_
   cases c:lt (gp p k) (gp p ((l+r) / 2)) with
   |true=>
    rw[if_pos rfl]
    refine nL L hp hk u f l ((l+r) / 2) (by omega) (by omega) (by omega) a λi hi hik=>?_
    by_cases e:i=(l+r) / 2
    ·subst e;exact c
    ·exact L.tr _ _ _ (hp.lt' hk) (hp.lt' (by omega)) (hp.lt' (by omega)) c (u _ i (by omega) hik)
   |false=>
    rw[if_neg a0u]
    have:=L.tot _ _ (hp.lt' hk) (hp.lt' (k:=(l+r) / 2) (by omega)) (λe=>by have:=hp.inj hk (by omega) e;omega) c
    refine nL L hp hk u f ((l+r) / 2+1) r (by omega) (by omega) (by omega) (λi hi=>?_) b
    by_cases e:i=(l+r) / 2
    ·subst e;exact this
    ·exact L.tr _ _ _ (hp.lt' (by omega)) (hp.lt' (by omega)) (hp.lt' hk) (u i _ (by omega) (by omega)) this
theorem yJ (L:LtOk n lt):∀f (p:Array Nat) k,OfN n p->1<=k->k+f=n->Up lt p k->OfN n (c9 lt (kas_bin f p k))/\Up lt (c9 lt (kas_bin f p k)) n
 |0,p,k,hp,_,hk,u=>⟨hp,by obtain rfl:k=n:=(by omega);exact u⟩
 |f+1,p,k,hp,h1,hk,u=>by
  rw[show c9 lt (kas_bin (f+1) p k)=c9 lt ((kas_place p k k 0 k).bind λl=>kas_bin f (bubble p k (k - l)) (k+1)) from rfl,jr]
  obtain⟨m,e,hm,a,b⟩:=nL L hp (by omega) u k 0 k (by omega) (by omega) (a0n _) (λi hi=>by omega) (λi hi hik=>by omega)
  rw[e]
  have hs:=hp.size
  have g:∀i,gp (bubble p k (k - m)) i=if i=m then gp p k else if m<i/\i<=k then gp p (i - 1) else gp p i:=λi=>by
   rw[lZ,getElem?_bubble (by omega) (k - m) (by omega),show k - (k - m)=m by omega]
   split
   ·rw[lZ]
   ·split<;>rw[lZ]
  refine yJ L f _ (k+1) (hp.bub _ _) (by omega) (by omega) λi j hij hj=>?_
  rw[g,g]
  by_cases e1:i=m
  ·rw[if_pos e1,if_neg (by omega),if_pos (by omega)];exact b _ (by omega) (by omega)
  ·rw[if_neg e1]
   by_cases e2:j=m
   ·rw[if_pos e2,if_neg (by omega)];exact a i (by omega)
   ·rw[if_neg e2]
    by_cases e3:i<m
    ·rw[if_neg (by omega)]
     by_cases e4:m<j/\j<=k
     ·rw[if_pos e4];exact u i (j - 1) (by omega) (by omega)
     ·rw[if_neg e4];exact u i j hij (by omega)
    ·rw[if_pos (by omega),if_pos (by omega)];exact u _ _ (by omega) (by omega)
theorem Bx (L:LtOk n lt)(hn:1<=n):OfN n (c9 lt (kas_sort n))/\Up lt (c9 lt (kas_sort n)) n:=by
 unfold kas_sort
 rw[jr]
 have R:=A3 L (show OfN n (List.toArray (a0l n)) from .refl _) hn
 generalize c9 lt (kas_count n (a0l n).toArray)=r at *
 have h1:=R.pos
 have h2:=R.le
 split
 ·next h=>
  rw[show max r.1 1=r.1 by omega]
  exact yJ L (n - r.1) r.2 r.1 R.of h1 (by omega) R.up
 ·next h=>
  have:r.1=n:=by omega
  exact⟨R.of,this▸R.up⟩
end
theorem tQ (y:Int)(ys:List Int):sY [] (y::ys)=true:=by unfold sY;rw[List.zip_nil_left];exact decide_eq_true (by simp)
theorem po (xs:List Int):sY xs []=false:=by unfold sY;rw[List.zip_nil_right];exact decide_eq_false (by simp)
theorem km (x y:Int)(xs ys:List Int):sY (x::xs) (y::ys)=if x=y then sY xs ys else decide (x<y):=by
 unfold sY
 rw[a3t,Bh]
 simp only[a0p,Nat.add_lt_add_iff_right]
theorem yN:∀xs ys:List Int,xs≠ys->sY xs ys=false->sY ys xs=true
 |[],[],h,_=>absurd rfl h
 |[],y::ys,_,h=>by rw[tQ] at h;cases h
 |x::xs,[],_,_=>tQ x xs
 |x::xs,y::ys,h,e=>by
  rw[km] at e ⊢
  by_cases q:x=y
  ·subst q
   rw[if_pos rfl] at e ⊢
   exact yN xs ys (λz=>h (by rw[z])) e
  ·rw[if_neg q] at e
   rw[if_neg λz=>q z.symm]
   have:=of_decide_eq_false e
   exact decide_eq_true (by omega)
theorem Cf:∀xs ys zs:List Int,sY xs ys=true->sY ys zs=true->sY xs zs=true
 |_,_,[],_,h=>by rw[po] at h;cases h
 |_,[],_::_,h,_=>by rw[po] at h;cases h
 |[],_,z::zs,_,_=>tQ z zs
 |x::xs,y::ys,z::zs,h,h'=>by
  rw[km] at h h' ⊢
  by_cases q:x=y
  ·subst q
   rw[if_pos rfl] at h
   by_cases r:x=z
   ·rw[if_pos r] at h' ⊢;exact Cf xs ys zs h h'
   ·rw[if_neg r] at h' ⊢;exact h'
  ·rw[if_neg q] at h
   have h:=of_decide_eq_true h
   by_cases r:y=z
   ·subst r;rw[if_neg q];exact decide_eq_true h
   ·rw[if_neg r] at h'
    have h':=of_decide_eq_true h'
    rw[if_neg (by omega)]
    exact decide_eq_true (by omega)
theorem yw:∀xs:List Int,sY xs xs=false
 |[]=>po []
 |x::xs=>by rw[km,if_pos rfl];exact yw xs
theorem EZ {ks:List (List Int)}(nd:ks.Nodup):((oH ks).map λi=>ks.getD i []).Perm ks/\((oH ks).map λi=>ks.getD i []).Pairwise λa b=>sY a b=true:=by
 have at':∀{i:Nat} (hi:i<ks.length),ks.getD i []=ks[i]:=λ{i} hi=>by simp[hi]
 constructor
 ·refine ((rJ ks).map _).trans (List.Perm.of_eq ?_)
  refine a4e (by simp) λi h1 h2=>?_
  simp[h2]
 ·unfold oH
  split
  ·next h=>
   match ks,h with
   |[],_=>exact .nil
   |[a],_=>exact List.pairwise_singleton ..
  ·next h=>
   have L:LtOk ks.length λi j=>sY (ks.getD i []) (ks.getD j []):=⟨λi j hi hj ne e=>yN _ _ (λz=>by
    rw[at' hi,at' hj] at z;exact ne ((a5b nd).mp z)) e,λi j k _ _ _ a b=>Cf _ _ _ a b⟩
   obtain⟨hp,u⟩:=Bx L (by omega)
   generalize c9 _ (kas_sort ks.length)=p at *
   rw[a3y,a2m]
   intro i j hi hj hij
   have hs:=hp.size
   have:=u i j hij (by simpa [hs] using hj)
   rw[lZ,lZ,Array.getElem?_eq_getElem (by simpa using hi),Array.getElem?_eq_getElem (by simpa using hj)] at this
   simpa using this
theorem yW {α:Type}{lt:α->α->Prop}(irr:∀a,¬lt a a)(tr:∀a b c,lt a b->lt b c->lt a c):∀{l l':List α},l.Pairwise lt->l'.Pairwise lt->(∀a,a∈l↔a∈l')->l=l'
 |[],[],_,_,_=>rfl
 |[],b::l',_,_,h=>absurd ((h b).mpr a0e) a2q
 |a::l,[],_,_,h=>absurd ((h a).mp a0e) a2q
 |a::l,b::l',p,p',h=>by
  have q:=a5o.mp p
  have q':=a5o.mp p'
  have e:a=b:=by
   rcases a0s.mp ((h a).mp a0e) with e|m
   ·exact e
   ·rcases a0s.mp ((h b).mpr a0e) with e|m'
    ·exact e.symm
    ·exact absurd (tr _ _ _ (q.1 b m') (q'.1 a m)) (irr a)
  subst e
  refine congrArg (a::·) (yW irr tr q.2 q'.2 λc=>⟨λhc=>?_,λhc=>?_⟩)
  ·rcases a0s.mp ((h c).mp (a0c _ hc)) with e|m
   ·subst e;exact absurd (q.1 c hc) (irr c)
   ·exact m
  ·rcases a0s.mp ((h c).mpr (a0c _ hc)) with e|m
   ·subst e;exact absurd (q'.1 c hc) (irr c)
   ·exact m
end L2
end
section
namespace L2
open PySem PySem.Spec PyProof.Rows PySem.W
noncomputable def uA (is:List Int):List Int:=is.mergeSort λa b=>decide (a<=b)
theorem rV (is:List Int):(uA is).Perm is:=List.mergeSort_perm ..
theorem FH (is:List Int):(uA is).Pairwise (·<=·):=by
 have:=List.pairwise_mergeSort (le:=λa b:Int=>decide (a<=b)) (λa b c h1 h2=>by simp only[decide_eq_true_eq] at *;omega) (λa b=>by simp only[a4n,decide_eq_true_eq];omega) is
 exact this.imp λh=>by simpa using h
theorem ye {is js:List Int}(p:js.Perm is)(u:js.Pairwise (·<=·)):js=uA is:=
 List.Perm.eq_of_pairwise (λa b _ _ h1 h2=>a2r h1 h2) u (FH is) (p.trans (rV is).symm)
theorem mN {is:List Int}{vs:List Value}(h:IntsAre vs is):Vals (is.map V.int) vs:=by
 induction h with
 |nil=>exact .nil
 |cons n t _ ih=>exact .cons ⟨t,rfl⟩ ih
theorem xk {prog:Program}{w:World}{A:Around}{E:Value->Shared->Prop}{s:Shared}{p:Addr}{T:String}{o:Obj}{vs:List Value}{n:Nat}{is:List Int}{Q:Value->Shared->Prop}(hT:T = "list"\/T = "tuple")
  (ho:s.heap.get? p=some o) (hc:o.cls=.type T) (hd:o.data=.seq vs.toArray n) (hi:IntsAre vs is) (h64:vs.length<64)
  (h:∀(h1 h':Heap) (D:Addr) (out:List Value) (js:List Int) (e:Nat),(∀b u,s.heap.get? b=some u->h1.get? b=some u)->(∀b u,h1.get? b=some u->h'.get? b=some u)->h1.objs.size<=D->h'.get? D=some (seqObj "list" out.toArray e)->IntsAre out js->js.Perm is->js.Pairwise (·<=·)->Q (.ref D) { s with heap:=h' }) :
  wpAny (model prog w) A (call (.builtin "sorted") [.ref p]) Q E s:=by
 refine Calls.call_function_entry kind_sorted plain_sorted entry_sorted (args_sorted1 _) ?_
 unfold Builtin.«sorted»
 refine wpAny_bind (m:=checkCount "sorted" 1 1 _) (wpAny_pure (wpAny_bind (wpAny_collect_seq p hT ho hc hd (λh' keep=>wpAny_bind (wpAny_newList ?_ (by show vs.length<=_;rw[sizeLine_eq];omega))) (by rw[a0h,sizeLine_eq];omega))))
 have hoL:(h'.push (seqObj "list" vs.toArray 0)).get? h'.objs.size=some (seqObj "list" vs.toArray 0):=Heap.get?_push_size _ rfl
 show wpAny _ _ _ _ _ { s with heap:=h'.push (seqObj "list" vs.toArray 0) }
 refine wpAny_bind (wpAny_holding (wpAny_call_entry slot_list_sort ⟨_,hoL,rfl⟩ entry_list_sort (list_sort_tree hoL hi h64 λout ns h1 h2 h3=>⟨_,rfl,?_⟩) (args_list_sort _)))
 obtain⟨e,he⟩:=sortedHeap_at (vs:=vs) (out:=out) hoL
 exact wpAny_pure ⟨_,rfl,h h' _ _ out.toList ns e keep (λb u z1=>by
  have z2:=Heap.get?_push_of_some (seqObj "list" vs.toArray 0) z1
  rw[sortedHeap_old (a1j (Heap.lt_size z1)) (Heap.lt_size z2)];exact z2) (a0n _) (by rw[he]) h1 h2 h3⟩
section
variable {prog:Program}{w:World}{A:Around}{E:Value->Shared->Prop}{s:Shared}
noncomputable abbrev BU (a c:Int):Nat->Value->Prop:=λi v=>∃t,v=.int (a+i * c) t
theorem uY {Q:List Value->Shared->Prop}{r:Addr}{a b c:Int}{t u v:Tok}{n:Nat}(hh:A.handled=none)(hr:IsRange s.heap r a b c t u v)(h1:Builtin.Range.small a b c=true)(h2:Builtin.Range.rangeSize a b c=n)(h3:n<=2 ^ 24)
  (hQ:∀h' tk acc,(∀x o,s.heap.get? x=some o->h'.get? x=some o)->ItemsOf (BU a c) acc n->Q acc.toList { s with heap:=h',toks:=tk }):wpAny (model prog w) A (collect (.ref r)) Q E s:=by
 unfold collect;refine wpAny_bind (wpAny_runValue (codeAny_builtin F.entry_proto_collect ?_));rw[Around.under_plainId F.plain_proto_collect _]
 show wpAny _ A.in1 (newList [] >>= λz=>again (.builtin "list.__iadd__" ⟨[z,.ref r],[]⟩)) _ _ s
 refine wpAny_bind (wpAny_newObj_type (wpAny_pure ⟨plainId_quiet F.plain_list_iadd _,codeAny_builtin F.entry_list_iadd ?_⟩))
 rw[Around.under_plainId F.plain_list_iadd _];show wpAny _ A.in1 (Builtin.List.listExtendWith (.ref s.heap.objs.size) (.ref r) (.ref s.heap.objs.size)) _ _ _
 have hS0:(s.heap.push { cls:=.type "list",data:=.seq ([]:List Value).toArray }).get? s.heap.objs.size=some { cls:=.type "list",data:=.seq #[] }:=Heap.get?_push_size _ rfl
 have hr0:=Heap.get?_push_of_some { cls:=.type "list",data:=.seq ([]:List Value).toArray } hr
 refine wpAny_extend_range (R:=λz s'=>match z with
  |.ok (.ret v)=>wpAny (model prog w) A (match v with
   |.ref a=>do
    let o ←load a
    match o.data with
     |.seq xs _=>pure xs.toList
     |_=>unsupported "internal:collect"
   |_=>unsupported "internal:collect") Q E s'
  |.ok _=>False
  |.error e=>E e s') (s:={ s with heap:=s.heap.push { cls:=.type "list",data:=.seq ([]:List Value).toArray } }) hh hr0 h1 h2 h3 s.heap.objs.size _ 0 hS0 λh' tk acc c' hk hS hacc=>?_
 show wpAny _ A (load s.heap.objs.size >>= λ_=>_) _ _ _
 refine wpAny_bind (wpAny_load hS (wpAny_pure (hQ h' tk acc (λx o e=>?_) hacc)))
 exact hk x o (a1j (Heap.lt_size e)) (Heap.get?_push_of_some _ e)
end
theorem rg (r:Addr){a b c:Int}{t u v:Tok}{n:Nat}(h1:Builtin.Range.small a b c=true)(h2:Builtin.Range.rangeSize a b c=n)(h3:n<=2 ^ 24) :
  Meets (Builtin.«tuple.__new__» ⟨[.type "tuple",.ref r],[]⟩) (λA R s=>(A.handled=none/\IsRange s.heap r a b c t u v)/\∀(h':Heap) (tk:Nat) (acc:Array Value),(∀x o,s.heap.get? x=some o->h'.get? x=some o)->ItemsOf (BU a c) acc n →
   R (.ok (.ret (.ref h'.objs.size))) { s with heap:=h'.push { cls:=.type "tuple",data:=.seq acc },toks:=tk }):=
 .of_wp λprog w A R s h=>by
  obtain⟨⟨hh,hr⟩,h⟩:=h
  have hsub:=sub_tuple_self
  have hinit:=init_tuple_lookup
  have hmh:=madeHere_tuple
  have hT:s.TypeIs (.ref r) "range":=⟨_,hr,rfl⟩
  have hh1:A.in1.handled=none:=hh
  wp_walk using wpAny_typeOf hT,uY hh1 hr h1 h2 h3
  intro h' tk acc hk hacc
  show wpAny _ _ (Builtin.Tuple.tupleExact acc.toList.toArray >>= λz=>ret z) _ _ _
  unfold Builtin.Tuple.tupleExact
  have e:acc.toList.toArray=acc:=by simp
  have hz:acc.toList.toArray.size<=sizeLine:=by rw[e,hacc.1,sizeLine_eq];omega
  refine wpAny_bind (wpAny_newObj_type (wpAny_pure ⟨_,rfl,?_⟩) hz)
  rw[e]
  exact h h' tk acc hk hacc
end L2
end
section
namespace L2
open PySem PySem.Spec PyProof.Rows _root_.HT
theorem qZ {prog:Program}{w:World}{A:Around}{E:Value->Shared->Prop}{s:Shared}{t z:Addr}{items:Array Value}{vl vu:Value}{lo hi:Option Int}{Q:Value->Shared->Prop}(ht:IsTup s.heap t items)(hs:s.heap.IsSliceOf z vl vu .none)(pl:IsPart vl lo)(pu:IsPart vu hi)
  (hw:_root_.HT.sIx items.size 0 lo=0/\_root_.HT.sIx items.size items.size hi=items.size) (h:Q (.ref t) s):wpAny (model prog w) A (getItem (.ref t) (.ref z)) Q E s:=by
 obtain⟨os,hos,hcs,hds⟩:=id hs
 have hTs:s.TypeIs (.ref z) "slice":=⟨os,hos,hcs⟩
 unfold getItem;try with_reducible refine wpAny_holding ?_
 first|(refine wpAny_bind (wpAny_pure ?_);skip)|skip
 refine wpAny_bind (wpAny_sequenceKey ht.typeIs (by decide) (wpAny_bind (wpAny_callSpecial?_slot (name:=Str.ofString "__getitem__") ht.typeIs PyProof.Rows.slot_tuple_getitem (wpAny_call_entry PyProof.Rows.slot_tuple_getitem ht.typeIs entry_tuple_getitem ?_ (args_tuple_getitem _ _)))))
 show wpAny _ _ (Builtin.Tuple.tupleItemsOf (.ref t) >>= λ_=>_) _ _ s
 refine wpAny_bind (tupleItemsOf_ ht (wpAny_bind (wpAny_typeOf hTs ?_)))
 rw[if_pos (by decide)];refine wpAny_bind (jy hs pl pu ?_)
 rw[hw.1,hw.2]
 have yes:(((0:Nat):Int)==0&&(1:Int)==1&&(items.size - 0)==items.size)=true:=by simp
 show wpAny _ _ (if (((0:Nat):Int)==0&&(1:Int)==1&&(items.size - 0)==items.size)=true then _ else _) _ _ s
 rw[if_pos yes]
 refine wpAny_bind ?_
 unfold Builtin.Tuple.tupleIsExact
 refine wpAny_bind (wpAny_typeOf ht.typeIs (wpAny_pure ?_))
 rw[if_pos (by decide)]
 exact wpAny_bind (wpAny_rule (wpAny_pure ⟨_,rfl,wpAny_pure h⟩))
end L2
end
section
namespace Dp
open PySem PySem.Spec L2 PyProof.Rows
section
variable {X:Cx}{e a b c:Expr}{es hV:List Expr}{pos:Pos}{f fa fb fc:FE}{fs:FA}{i:Nat}{ba bb:FB}
noncomputable def PK (X:Cx)(g:PV->PV->Option RV):Prop:=∀(value slice:Expr) (z:Z X) s p q u v r E,z.ok s->Rv z s.heap p u->Rv z s.heap q v->g p q=some r->subscripted slice false u v=operate [u,v] (getItem u v)->W X (subscriptTail value slice u v) (Z.post z s r) E s
theorem NT {g:PV->PV->Option RV}(h:PK X g)(ha:NE X a fa)(hb:NE X b fb)(hs:zY b):NE X (.Subscript a b pos) (ak g fa fb):=λz s r E hz q=>by
 obtain⟨x,y,ex,ey,eg⟩:=yE q
 exact Subscript_ (two ha hb hz ex ey λu v s2 g2 d1 d2=>aY (h a b z s2 _ _ u v r E g2.1 d1.rv d2.rv eg (hs _ _)) λw s3 q3=>g2.post q3)
noncomputable def Js (p q:PV):Option RV:=(qo q).bind λi=>(items p).bind λps=>(L2.c6 ps i).map .fz
noncomputable def bE (p q:PV):Option RV:=(vx p).elim ((Fs p).elim (Js p q) λd=>(fJ q).bind λk=>(mx d.1 d.2 k).map .fz) λz=>(qo q).bind λi=>if z.length<=100000 then (L2.c6 z.cps.toList i).map λc=>.fz (.str ⟨#[c]⟩) else none
theorem yk {z:Z X}{s:Shared}{value slice:Expr}{p:PV}{u:Value}{i:Int}{t:Tok}{ps:List PV}{q:PV}{E:Value->Shared->Prop}(hz:z.ok s)(d:Rd z.cn s.heap p u)(e1:items p=some ps)(e2:L2.c6 ps i=some q)(hs:subscripted slice false u (.int i t)=operate [u,.int i t] (getItem u (.int i t))) :
  W X (subscriptTail value slice u (.int i t)) (Z.post z s (.fz q)) E s:=by
 obtain⟨a,its,rfl,_,zl,ds,h⟩:=D1.items d e1
 obtain⟨j,h1,h2,h3,h4,h5⟩:=Ap e2
 obtain⟨w,ew,dw⟩:=ds.get h2
 have hl:=ds.length
 have hn:=lD
 have fin:Z.post z s (.fz q) w s:=⟨hz.refl,dw⟩
 rcases h with pl|⟨n,e⟩
 ·exact subscriptTail_builtinR (x:=w) pl.typeIs slot_tuple_getitem.lookup
   (getItem_tuple (j:=j) (Q:=λr s'=>r=w/\Z.post z s (.fz q) r s') pl (by omega) (by omega) (by rw[a0h,hl];exact h1) (by simpa using ew) ⟨rfl,fin⟩) hs
 ·have pl:=bw e
  by_cases h0:0<=i
  ·have hj:i.toNat=j:=by
    rw[seqIndex_of h0 h5] at h1
    exact Option.some.inj h1
   exact item_listR pl h0 (by omega) (by rw[hj];simpa using ew) fin hs
  ·have hj:(i+(its.toArray.size:Int)).toNat=j:=by
    rw[seqIndex_neg (by omega) h4] at h1
    rw[a0h,hl]
    exact Option.some.inj h1
   exact subscriptTail_builtinR (x:=w) pl.typeIs slot_list_getitem.lookup
    (wpAny_getItem_list_neg (Q:=λr s'=>r=w/\Z.post z s (.fz q) r s') pl (by omega) (by rw[a0h]<;>omega) (by omega) (by rw[hj];simpa using ew) ⟨rfl,fin⟩) hs
theorem Jk:PK X bE:=by
 intro value slice z s p q u v r E hz dp dq e hs
 have seq:∀{i:Int},q=.int i →  ((items p).bind λps=>(L2.c6 ps i).map .fz)=some r->W X (subscriptTail value slice u v) (Z.post z s r) E s:=λ{i} eq e'=>by
  subst eq
  obtain⟨⟨t,rfl⟩,_⟩:=dq
  obtain⟨ps,e1,e3⟩:=a0a.mp e'
  obtain⟨w,e2,rfl⟩:=a0d.mp e3
  exact yk hz dp.1 e1 e2 hs
 cases e1:vx p with
 |some x=>
  cases sZ e1
  obtain⟨i,e2,e9⟩:=a0a.mp (show ((qo q).bind λi=>if x.length<=100000 then (L2.c6 x.cps.toList i).map λc=>RV.fz (.str ⟨#[c]⟩) else none)=some r from e)
  clear e seq
  cases c7 e2
  split at e9
  ·next hl=>
   obtain⟨c,e2,rfl⟩:=a0d.mp e9
   obtain⟨⟨t,rfl⟩,_⟩:=dp
   obtain⟨⟨t',rfl⟩,_⟩:=dq
   obtain⟨j,h1,h2,h3,h4,h5⟩:=Ap e2
   have hl':x.cps.toList.length=x.length:=by simp[Str.length]
   rw[hl'] at h1 h4 h5
   have hn:=lD
   have hb:=big hl
   exact tail_any (typeIs_str s x t) slot_str_getitem.lookup (getItem_str (c:=c) (by
    have e1:decide (i < -(2 ^ 63:Int))=false:=decide_eq_false (by omega)
    have e2:decide (i >= 2 ^ 63)=false:=decide_eq_false (by omega)
    rw[e1,e2,Bool.or_false]) (by rw[h1];simpa using h2) ⟨hz.tok _,_,rfl⟩) hs
  ·cases e9
 |none=>
 cases e2:Fs p with
 |some d=>
  obtain⟨ks,ps⟩:=d
  cases Gk e2
  obtain⟨k,ek,e⟩:=a0a.mp (show ((fJ q).bind λk=>(mx ks ps k).map .fz)=some r from e)
  obtain⟨w,e2,rfl⟩:=a0d.mp e
  obtain⟨a,kus,rfl,_,y,dd,zl,hk,ds⟩:=dp.1
  obtain⟨x,ex,dx⟩:=(md (y:=k) hk ds).1 w e2
  exact tail_any dd.typeIs PySem.F.slot_dict_getitem.lookup (wpAny_getItem_of (nM (ft ek dq.1)) dd.mapOf ex ⟨hz.tok _,dx⟩) hs
 |none=>
  have e:Js p q=some r:=by
   have e':(vx p).elim ((Fs p).elim (Js p q) λd=>(fJ q).bind λk=>(mx d.1 d.2 k).map .fz) (λz=>(qo q).bind λi=>if z.length<=100000 then (L2.c6 z.cps.toList i).map λc=>RV.fz (.str ⟨#[c]⟩) else none)=some r:=e
   rw[e1,e2] at e';exact e'
  obtain⟨i,e3,e⟩:=a0a.mp e
  exact seq (c7 e3) e
noncomputable def Hw:PV->PV->Option RV
 |.lst ps,.int i=>(L2.c6 ps i).map .fz
 |.lst ps,.bl b=>(ps[Md b]?).map .fz
 |_,_=>none
theorem Eh:PK X Hw:=by
 intro value slice z s p q u v r E hz dp dq e hs
 unfold Hw at e
 split at e
 ·obtain⟨⟨t,rfl⟩,_⟩:=dq
  obtain⟨w,e2,rfl⟩:=a0d.mp e
  exact yk hz dp.1 rfl e2 hs
 ·next ps b=>
  cases (show v=Value.bool b from dq.1)
  obtain⟨w,e2,rfl⟩:=a0d.mp e
  obtain⟨a,its,n,rfl,_,e1,zl,ds⟩:=dp.1
  obtain⟨x,ex,dx⟩:=ds.get e2
  exact subscriptTail_builtinR (x:=x) (bw e1).typeIs slot_list_getitem.lookup (AT (Q:=λr s'=>r=x/\Z.post z s (.fz w) r s') (bw e1) (by simpa using ex) ⟨rfl,hz.refl,dx⟩) hs
 ·cases e
noncomputable def m6 {α:Type}(xs:List α)(lo hi:Option Int):List α:=(xs.drop (HT.sIx xs.length 0 lo)).take (HT.sIx xs.length xs.length hi - HT.sIx xs.length 0 lo)
noncomputable abbrev FO:=ao->Option (Option Int)
noncomputable def NO (X:Cx)(e:Option Expr)(f:FO):Prop:=∀(z:Z X) s o E,z.ok s->f z.ρ=some o->W X (evalPart e X.env) (λu s'=>z.go s s'/\IsPart u o) E s
noncomputable def xL:FO:=λ_=>some none
noncomputable def O6 (o:Option PV):Option (Option Int):=match o with
 |some (.int i)=>some (some i)
 |_=>none
noncomputable def xc (f:FE):FO:=λρ=>(f ρ).bind λr=>O6 r.fr
theorem GC:NO X none xL:=λz s o E hz q=>by cases q;rw[evalPart_none];exact wpAny_pure ⟨hz.refl,.none⟩
theorem Hf (h:NE X e f):NO X (some e) (xc f):=λz s o E hz q=>by
 obtain⟨r,er,q⟩:=a0a.mp q
 unfold O6 at q
 split at q
 ·next i hi=>
  cases q
  rw[evalPart_some]
  refine aY (h z s r E hz er) λu s1 q1=>?_
  obtain⟨t,rfl⟩:=q1.2.fr hi
  exact⟨q1.1,.int i t⟩
 ·cases q
noncomputable def Mh (p:PV)(l h:Option Int):Option RV:=match p with
 |.lst ps=>some (.nw (m6 ps l h))
 |.src ps=>some (.nw (m6 ps l h))
 |.tup ps=>if HT.sIx ps.length 0 l=0/\HT.sIx ps.length ps.length h=ps.length then none else some (.fz (.tup (m6 ps l h)))
 |_=>none
noncomputable def zI:PV->Option Int->Option Int->Option RV
 |.tup ps,l,h=>some (.fz (.tup (m6 ps l h)))
 |_,_,_=>none
noncomputable def GY (g:PV->Option Int->Option Int->Option RV)(f:FE)(l h:FO):FE:=λρ=>(f ρ).bind λr=>(l ρ).bind λlo=>(h ρ).bind λhi=>g r.pv lo hi
noncomputable abbrev A4:FE->FO->FO->FE:=GY Mh
noncomputable abbrev He:FE->FO->FO->FE:=GY zI
noncomputable def Qh (X:Cx)(g:PV->Option Int->Option Int->Option RV):Prop:=∀(z:Z X) s p v vl vu lo hi t r E,z.ok s->Rv z s.heap p v->s.heap.IsSliceOf t vl vu .none->IsPart vl lo->IsPart vu hi->g p lo hi=some r →
 ∃T id,typeLookup (.type T) "__getitem__" = pure (some (.builtin id))/\s.TypeIs v T/\W X (getItem v (.ref t)) (Z.post z s r) E s
theorem I6 {g:PV->Option Int->Option Int->Option RV}{lo hi:Option Expr}{fl fh:FO}{p2:Pos}(hr:Qh X g)(he:NE X e f)(hl:NO X lo fl)(hu:NO X hi fh):NE X (.Subscript e (.Slice lo hi none p2) pos) (GY g f fl fh):=λz s r E hz q=>by
 obtain⟨x,ex,q⟩:=a0a.mp q
 obtain⟨ol,el,q⟩:=a0a.mp q
 obtain⟨oh,eh,q⟩:=a0a.mp q
 refine Subscript_ (aY (he z s x E hz ex) λv s1 q1=>?_)
 refine wpAny_Slice (aY (hl z s1 ol E q1.1.1 el) λvl s2 ⟨g2,pl⟩=>aY (hu z s2 oh E g2.1 eh) λvu s3 ⟨g3,pu⟩=>?_)
 rw[evalPart_none]
 refine wpAny_pure ?_
 have g4:=g3.1.push { cls:=.type "slice",data:=.fields #[vl,vu,.none] } s3.toks
 have ga:=q1.1.trans (g2.trans (g3.trans g4))
 obtain⟨T,id,hT,ht,hg⟩:=hr z _ x.pv v vl vu ol oh s3.heap.objs.size r E g4.1 ((q1.2.ext (g2.2.trans (g3.2.trans g4.2))).rv) (Heap.IsSliceOf.new ..) pl pu q
 exact tail_any (ops:=[.ref s3.heap.objs.size,v]) ht hT (aY hg λw s5 q5=>ga.post q5) (by with_unfolding_all rfl)
theorem Di {c:Cn}{h:Heap}{ps:List PV}{its:List Value}(d:Ds c h ps its)(lo hi:Option Int):Ds c h (m6 ps lo hi) ((its.drop (HT.sIx its.length 0 lo)).take (HT.sIx its.length its.length hi - HT.sIx its.length 0 lo)):=by
 unfold m6;rw[d.length];exact (d.drop _).take _
theorem Oe {z:Z X}{s:Shared}{ps:List PV}{v vl vu:Value}{lo hi:Option Int}{t:Addr}{E:Value->Shared->Prop}(hz:z.ok s)(d:Rd z.cn s.heap (.lst ps) v)(hs:s.heap.IsSliceOf t vl vu .none)(pl:IsPart vl lo)(pu:IsPart vu hi) :
  ∃T id,typeLookup (.type T) "__getitem__" = pure (some (.builtin id))/\s.TypeIs v T/\W X (getItem v (.ref t)) (Z.post z s (.nw (m6 ps lo hi))) E s:=by
 obtain⟨a,its,n,rfl,_,e1,zl,ds⟩:=d
 have ht:=bw e1
 refine⟨"list",_,slot_list_getitem.lookup,ht.typeIs,?_⟩
 refine wpAny_getItem_list_slice ht hs pl pu .none (by simp) ?_ (by rw[a0h]<;>omega)
 rw[rz]
 exact Z.ok.newL0 (n:=0) hz (Di ds lo hi) (by rw[a2z,a2n];omega)
theorem M7 {z:Z X}{s:Shared}{ps:List PV}{v vl vu:Value}{lo hi:Option Int}{t:Addr}{E:Value->Shared->Prop}(hz:z.ok s)(d:D z.cn s.heap (.tup ps) v)(hs:s.heap.IsSliceOf t vl vu .none)(pl:IsPart vl lo)(pu:IsPart vu hi) :
  ∃T id,typeLookup (.type T) "__getitem__" = pure (some (.builtin id))/\s.TypeIs v T/\W X (getItem v (.ref t)) (Z.post z s (.fz (.tup (m6 ps lo hi)))) E s:=by
 have d':=d
 obtain⟨a,its,rfl,o,ht,zl,ds⟩:=d
 have hn:its.toArray.size=its.length:=a0h
 refine⟨"tuple",_,PyProof.Rows.slot_tuple_getitem.lookup,ht.typeIs,?_⟩
 by_cases hw:HT.sIx its.length 0 lo=0/\HT.sIx its.length its.length hi=its.length
 ·refine qZ ht hs pl pu (by rw[hn];exact hw) ⟨hz.refl,?_⟩
  have:m6 ps lo hi=ps:=by
   have hl:=ds.length
   unfold m6
   rw[←hl,hw.1,hw.2,List.drop_zero,Nat.sub_zero,a1v (by omega)]
  rw[this];exact d'
 ·refine HT.getItem_tuple_cut ht hs pl pu (by rw[hn];exact hw) ?_ (by rw[hn];exact zl)
  rw[hn]
  exact Z.ok.newT hz (Di ds lo hi) (by rw[a2z,a2n];omega) s.toks
theorem Qb:Qh X Mh:=λz s p v vl vu lo hi t r E hz d hs pl pu q=>by
 unfold Mh at q
 split at q
 ·cases q;exact Oe hz d.1 hs pl pu
 ·cases q;exact Oe hz d.1 hs pl pu
 ·split at q
  ·cases q
  ·cases q;exact M7 hz (d.2 rfl) hs pl pu
 ·cases q
theorem Im:Qh X zI:=λz s p v vl vu lo hi t r E hz d hs pl pu q=>by
 unfold zI at q
 split at q
 ·cases q;exact M7 hz (d.2 rfl) hs pl pu
 ·cases q
noncomputable def kh:PV->Option (List PV)
 |.lst ps=>some ps
 |.src ps=>some ps
 |_=>none
theorem D1.lst {t:Addr->Prop}{c:Cn}{h:Heap}{p:PV}{u:Value}{ps:List PV}(d:D1 t c h p u)(e:kh p=some ps):D1 t c h (.lst ps) u:=by
 cases p with
 |lst qs=>cases e;exact d
 |src qs=>cases e;exact d
 |_=>cases e
noncomputable def Gv (p:PV):Option RV:=match p with
 |.tup ps=>some (.fz (.tup ps.reverse))
 |p=>(kh p).map λps=>.nw ps.reverse
noncomputable def A5 (f:FE):FE:=λρ=>(f ρ).bind λr=>Gv r.pv
theorem OB {st:Expr}{p2:Pos}(he:NE X e f)(hst:NE X st (fC (.int (-1)))\/NE X st (pS (fC (.int 1)))):NE X (.Subscript e (.Slice none none (some st) p2) pos) (A5 f):=λz s r E hz q=>by
 obtain⟨x,ex,q⟩:=a0a.mp q
 refine Subscript_ (aY (he z s x E hz ex) λv s1 q1=>?_)
 refine wpAny_Slice ?_
 rw[evalPart_none]
 refine wpAny_pure (wpAny_pure ?_)
 rw[evalPart_some]
 have hst':W X (eval st X.env) (Z.post z s1 (.fz (.int (-1)))) E s1:=hst.elim (λh=>h z s1 _ E q1.1.1 rfl) λh=>h z s1 _ E q1.1.1 rfl
 refine aY hst' λvst s3 q3=>?_
 obtain⟨t,rfl⟩:=q3.2
 have g4:=q3.1.1.push { cls:=.type "slice",data:=.fields #[.none,.none,.int (-1) t] } s3.toks
 have ga:=q1.1.trans (q3.1.trans g4)
 have dx:=(q1.2.ext (q3.1.2.trans g4.2)).rv
 have lstCase:∀ps,kh x.pv=some ps->r=.nw ps.reverse->W X (subscriptTail e (.Slice none none (some st) p2) v (.ref s3.heap.objs.size)) (Z.post z s r) E { s3 with heap:=s3.heap.push { cls:=.type "slice",data:=.fields #[.none,.none,.int (-1) t] } }:=λps e1 er=>by
  subst er
  obtain⟨a,its,n,rfl,_,e1,zl,ds⟩:=D1.lst dx.1 e1
  have ht:=bw e1
  refine tail_any (ops:=[.ref a,.ref s3.heap.objs.size]) ht.typeIs slot_list_getitem.lookup (wpAny_getItem_list_slice ht (Heap.IsSliceOf.new ..) .none .none (.int _ _) (by simp) ?_ (by rw[a0h];omega)) (by with_unfolding_all rfl)
  rw[qU]
  exact ga.post (Z.ok.newL0 (n:=0) (t:=s3.toks) g4.1 ds.rev (by rw[a3h];exact zl))
 unfold Gv at q
 split at q
 ·next ps ep=>
  cases q
  rw[ep] at dx
  obtain⟨a,its,rfl,o,ht,zl,ds⟩:=dx.2 rfl
  refine tail_any (ops:=[.ref a,.ref s3.heap.objs.size]) ht.typeIs PyProof.Rows.slot_tuple_getitem.lookup (L2.HT.getItem_tuple_rev ht (Heap.IsSliceOf.new ..) (.int _ _) ?_ zl) (by with_unfolding_all rfl)
  exact ga.post (Z.ok.newT g4.1 ds.rev (by rw[a3h];exact zl) s3.toks)
 ·obtain⟨ps,e1,e2⟩:=a0d.mp q
  exact lstCase ps e1 e2.symm
noncomputable def dE (X:Cx)(fv:Value)(g:List PV->Option RV):Prop:=∀(z:Z X) s ps us r E,z.ok s->Rvs z s.heap ps us->g ps=some r->W X (call fv us) (Z.post z s r) E s
noncomputable def fB (g:List PV->Option RV)(fs:FA):FE:=λρ=>(fs ρ).bind λrs=>g (rs.map RV.pv)
theorem Ke {x:Str}{p:Pos}{id:String}{g:List PV->Option RV}(hc:dE X (.builtin id) g)(hg:Gl X x)(hm:X.mg x=none)(hv:bootBuiltins x=some (.builtin id))(ha:NA X (e::es) fs)(hn:x ≠ "__name__")(hdb:(x==("__debug__" : Str))=false)
  (he:starEach (e::es) X.env=(false,eval e X.env)::starEach es X.env) (hpl:(backTo pos (starEach es X.env)).any (·.1)=false):NE X (.Call (.Name x p) (e::es) [] pos) (fB g fs):=λz s r E hz q=>by
 obtain⟨rs,er,q⟩:=a0a.mp q
 refine wpAny_Call_Name_kw (kA hz.I hg hm hv ?_ hn hdb)
 exact PyProof.Rows.callWith_builtin1 (aY (ha z pos s rs E hz er) λus s1 ⟨g1,d1⟩=>aY (hc z s1 _ us r E g1.1 d1.rv q) λw s2 q2=>g1.post q2) he hpl
theorem NQ {x:Str}{p:Pos}{T:String}{g:List PV->Option RV}(hc:dE X (.type T) g)(hg:Gl X x)(hm:X.mg x=none)(hv:bootBuiltins x=some (.type T))(ha:NA X (e::es) fs)(hn:x ≠ "__name__")(hdb:(x==("__debug__" : Str))=false)
  (he:starEach (e::es) X.env=(false,eval e X.env)::starEach es X.env) (hpl:(backTo pos (starEach es X.env)).any (·.1)=false):NE X (.Call (.Name x p) (e::es) [] pos) (fB g fs):=λz s r E hz q=>by
 obtain⟨rs,er,q⟩:=a0a.mp q
 refine wpAny_Call_Name_kw (kA hz.I hg hm hv ?_ hn hdb)
 exact PyProof.Rows.callWith_type1 (aY (ha z pos s rs E hz er) λus s1 ⟨g1,d1⟩=>aY (hc z s1 _ us r E g1.1 d1.rv q) λw s2 q2=>g1.post q2) he hpl
theorem Rvs.one {z:Z X}{h:Heap}{p:PV}{us:List Value}(d:Rvs z h [p] us):∃u,us=[u]/\Rv z h p u:=by
 cases d with
 |cons a b=>cases b;exact⟨_,rfl,a⟩
theorem Rvs.two {z:Z X}{h:Heap}{p q:PV}{us:List Value}(d:Rvs z h [p,q] us):∃u v,us=[u,v]/\Rv z h p u/\Rv z h q v:=by
 cases d with
 |cons a b=>cases b with
  |cons b c=>cases c;exact⟨_,_,rfl,a,b⟩
noncomputable def j2 (l:List PV):Option RV:=(u1 l).bind λp=>(vx p).elim ((items p).map λps=>.fz (.int ps.length)) λz=>if z.length<=100000 then some (.fz (.int z.length)) else none
theorem MV:dE X (.builtin "len") j2:=λz s ps us r E hz d q=>by
 have hn:=lD
 obtain⟨p,e1,q⟩:=a0a.mp q
 cases eD e1
 cases e2:vx p with
 |some zz=>
  cases sZ e2
  replace q:(if zz.length<=100000 then some (RV.fz (.int zz.length)) else none)=some r:=q
  split at q
  ·next hl=>
   cases q
   obtain⟨u,rfl,⟨t,rfl⟩,_⟩:=d.one
   have hb:=big hl
   exact len_str (by omega) ⟨hz.tok _,_,rfl⟩
  ·cases q
 |none=>
  replace q:(vx p).elim ((items p).map λps=>RV.fz (.int ps.length)) (λz=>if z.length<=100000 then some (RV.fz (.int z.length)) else none)=some r:=q
  rw[e2] at q
  obtain⟨ps,e1,rfl⟩:=a0d.mp q
  obtain⟨u,rfl,du⟩:=d.one
  obtain⟨a,its,rfl,_,zl,ds,h⟩:=D1.items du.1 e1
  have hl:=ds.length
  have fin:∀t tk,Z.post z s (.fz (.int ps.length)) (.int its.toArray.size t) { s with toks:=tk }:=λt tk=>⟨hz.tok _,t,by rw[a0h,hl]⟩
  rcases h with pl|⟨n,e⟩
  ·exact len_tuple pl (by rw[a0h];omega) (fin _ _)
  ·exact Calls.call_len_list (bw e) (by rw[a0h];omega) (fin _ _)
noncomputable def Hz (l:List PV):Option RV:=(u1 l).bind λp=>(qo p).map λi=>.fz (.int (if i<0 then -i else i))
noncomputable def vg (l:List PV):Option RV:=(u2 l).bind λq=>(qo q.1).bind λi=>(qo q.2).map λj=>.fz (.int (if j > i then j else i))
noncomputable def pz (l:List PV):Option RV:=(u2 l).bind λq=>(qo q.1).bind λi=>(qo q.2).map λj=>.fz (.int (if j<i then j else i))
noncomputable def Rt:PV->Option Int
 |.int i=>some i
 |.bl b=>some (if b then 1 else 0)
 |_=>none
noncomputable def A7 (l:List PV):Option RV:=(u1 l).bind λp=>(Rt p).map λi=>.fz (.int i)
end
section
variable {X:Cx}
theorem Oy:dE X (.builtin "abs") Hz:=λz s ps us r E hz d q=>by
 obtain⟨p,e1,q⟩:=a0a.mp q
 obtain⟨i,e2,rfl⟩:=a0d.mp q
 cases eD e1;cases c7 e2
 obtain⟨u,rfl,⟨t,rfl⟩,_⟩:=d.one;exact call_abs_int λu tk=>⟨hz.tok _,_,rfl⟩
theorem Lv (hc:X.calm=true):dE X (.builtin "max") vg:=λz s ps us r E hz d q=>by
 obtain⟨⟨p,p'⟩,e1,q⟩:=a0a.mp q
 obtain⟨i,e2,q⟩:=a0a.mp q
 obtain⟨j,e3,rfl⟩:=a0d.mp q
 cases jB e1;cases c7 e2;cases c7 e3
 ·obtain⟨u,v,rfl,⟨⟨t,rfl⟩,_⟩,⟨t',rfl⟩,_⟩:=d.two
  refine max_two_ints (hz.I.ok.hd hc) λh' tk k=>⟨hz.kept k,?_⟩
  by_cases hj:j > i
  ·rw[if_pos hj,if_pos hj];exact⟨_,rfl⟩
  ·rw[if_neg hj,if_neg hj];exact⟨_,rfl⟩
theorem L0 (hc:X.calm=true):dE X (.builtin "min") pz:=λz s ps us r E hz d q=>by
 obtain⟨⟨p,p'⟩,e1,q⟩:=a0a.mp q
 obtain⟨i,e2,q⟩:=a0a.mp q
 obtain⟨j,e3,rfl⟩:=a0d.mp q
 cases jB e1;cases c7 e2;cases c7 e3
 ·obtain⟨u,v,rfl,⟨⟨t,rfl⟩,_⟩,⟨t',rfl⟩,_⟩:=d.two
  refine min_two_ints (hz.I.ok.hd hc) λh' tk k=>⟨hz.kept k,?_⟩
  by_cases hj:j<i
  ·rw[if_pos hj,if_pos hj];exact⟨_,rfl⟩
  ·rw[if_neg hj,if_neg hj];exact⟨_,rfl⟩
theorem OJ:dE X (.type "int") A7:=λz s ps us r E hz d q=>by
 obtain⟨p,e1,q⟩:=a0a.mp q
 obtain⟨i,e2,rfl⟩:=a0d.mp q
 cases eD e1
 cases p<;>first|exact uz e2|skip
 case int=>cases e2;obtain⟨u,rfl,⟨t,rfl⟩,_⟩:=d.one;exact call_int_int ⟨hz.refl,_,rfl⟩
 case bl k _=>cases e2;obtain⟨u,rfl,du⟩:=d.one;cases (show u=Value.bool k from du.1);exact call_int_bool ⟨hz.tok _,_,rfl⟩
noncomputable def JX:List PV->Option RV
 |[.int i]=>if i.natAbs.log2<1920 then some (.fz (.str (toString i))) else none
 |_=>none
theorem Oi:dE X (.type "str") JX:=λz s ps us r E hz d q=>by
 unfold JX at q
 split at q
 ·split at q
  ·next h=>cases q;obtain⟨u,rfl,⟨t,rfl⟩,_⟩:=d.one;exact PySem.P.str_of_int h ⟨hz.tok _,_,rfl⟩
  ·cases q
 ·cases q
noncomputable def Jy:List PV->Option (List Bool)
 |[]=>some []
 |.bl b::ps=>(Jy ps).map λbs=>b::bs
 |_=>none
theorem CO {c:Cn}{h:Heap}{ps:List PV}:∀{us:List Value} {bs:List Bool},Ds c h ps us->Jy ps=some bs->us=bs.map Value.bool:=by
 induction ps with
 |nil=>intro us bs d e;cases e;exact d
 |cons p ps ih=>
  intro us bs d q
  obtain⟨u,r,e,d,t⟩:=d
  cases p with
  |bl b=>
   obtain⟨bs',e',rfl⟩:=a0d.mp q
   rw[e,show u=Value.bool b from d,ih t e',a1g]
  |_=>cases q
noncomputable def FC:List PV->Option RV
 |[p]=>(kh p).bind λps=>(Jy ps).map λbs=>.fz (.bl (bs.all id))
 |_=>none
noncomputable def Cs:List PV->Option RV
 |[p]=>(kh p).bind λps=>(Jy ps).map λbs=>.fz (.bl (bs.any id))
 |_=>none
theorem LB (bs:List Bool):(a0l bs.length).all (λi=>bs.getD i false)=bs.all id:=by
 induction bs with
 |nil=>rfl
 |cons b r ih=>rw[a0p,a2y,a1h,List.all_map,a1h,←ih]<;>rfl
theorem Lz (bs:List Bool):(a0l bs.length).any (λi=>bs.getD i false)=bs.any id:=by
 induction bs with
 |nil=>rfl
 |cons b r ih=>rw[a0p,a2y,a4o,a3c,a4o,←ih]<;>rfl
theorem kU {h:Heap}{a:Addr}{o:Obj}(e:h.get? a=some o):a≠h.objs.size:=a1j (Heap.lt_size e)
theorem IU {bs:List Bool}{i:Nat}{v:Value}(h:(bs.map Value.bool).toArray[i]?=some v):v=Value.bool (bs.getD i false):=by
 rw[List.getElem?_toArray,a0q] at h
 obtain⟨b,e,rfl⟩:=a0d.mp h
 rw[a0m,e];rfl
theorem M4 (hc:X.calm=true):dE X (.builtin "all") FC:=λz s ps us r E hz d q=>by
 unfold FC at q
 split at q
 ·obtain⟨ps,e1,q⟩:=a0a.mp q
  obtain⟨bs,e2,rfl⟩:=a0d.mp q
  obtain⟨u,rfl,du⟩:=d.one
  obtain⟨p,its,n,rfl,_,e1,zl,ds⟩:=D1.lst du.1 e1
  have ei:=CO ds e2
  subst ei
  have pl:=bw e1
  refine call_all_walk (wpAny_pyIter_list pl ?_)
  refine⟨s.heap.objs.size,_,_,_,_,_,λi=>bs.getD i false,rfl,Walks.list (A:=X.A.in1) (hz.I.ok.hd hc) s.heap.objs.size p (kU e1) (bs.map Value.bool).toArray,⟨⟨_,Heap.get?_push_size _ rfl,rfl,rfl⟩,⟨_,Heap.get?_push_of_some _ e1,rfl,n,rfl⟩⟩,λi v s' Q' E' hP hQ=>?_,λh' tk hk=>?_⟩
  ·rw[IU hP];exact wpAny_truthy_bool hQ
  ·rw[a0h,a0i,LB]
   exact⟨hz.kept λb o' e=>hk b o' (λz=>kU e (a0g.mp z)) (Heap.get?_push_of_some _ e),rfl⟩
 ·cases q
theorem Os (hc:X.calm=true):dE X (.builtin "any") Cs:=λz s ps us r E hz d q=>by
 unfold Cs at q
 split at q
 ·obtain⟨ps,e1,q⟩:=a0a.mp q
  obtain⟨bs,e2,rfl⟩:=a0d.mp q
  obtain⟨u,rfl,du⟩:=d.one
  obtain⟨p,its,n,rfl,_,e1,zl,ds⟩:=D1.lst du.1 e1
  have ei:=CO ds e2
  subst ei
  have pl:=bw e1
  refine call_any_walk (wpAny_pyIter_list pl ?_)
  refine⟨s.heap.objs.size,_,_,_,_,_,λi=>bs.getD i false,rfl,Walks.list (A:=X.A.in1) (hz.I.ok.hd hc) s.heap.objs.size p (kU e1) (bs.map Value.bool).toArray,⟨⟨_,Heap.get?_push_size _ rfl,rfl,rfl⟩,⟨_,Heap.get?_push_of_some _ e1,rfl,n,rfl⟩⟩,λi v s' Q' E' hP hQ=>?_,λh' tk hk=>?_⟩
  ·rw[IU hP];exact wpAny_truthy_bool hQ
  ·rw[a0h,a0i,Lz]
   exact⟨hz.kept λb o' e=>hk b o' (λz=>kU e (a0g.mp z)) (Heap.get?_push_of_some _ e),rfl⟩
 ·cases q
noncomputable def O9 (n:String):PV->Option Bool
 |.non=>some false
 |.bl _=>some (n == "bool" || n == "int")
 |.int _=>some (n == "int")
 |.str _=>some (n == "str")
 |.tup _=>some (n == "tuple")
 |.lst _=>some (n == "list")
 |.dct _ _=>some (n == "dict")
 |_=>none
noncomputable def OT:PV->Option String
 |.ty n=>some n
 |_=>none
theorem FD {p:PV}{n:String}(h:OT p=some n):p=.ty n:=by
 cases p<;>first|exact uz h|skip
 cases h;rfl
noncomputable def ua (l:List PV):Option RV:=(u2 l).bind λq=>(OT q.2).bind λn=>if n = "int"\/n = "bool"\/n = "str"\/n = "tuple"\/n = "list"\/n = "dict" then (O9 n q.1).map λb=>.fz (.bl b) else none
theorem Pz:dE X (.builtin "isinstance") ua:=λz s ps us r E hz d q0=>by
 obtain⟨⟨p,p'⟩,e1,q⟩:=a0a.mp q0
 obtain⟨n,e2,q⟩:=a0a.mp q
 have q9:(if n = "int"\/n = "bool"\/n = "str"\/n = "tuple"\/n = "list"\/n = "dict" then (O9 n p).map λb=>RV.fz (.bl b) else none)=some r:=q
 have k1:=jB e1
 have k2:=FD e2
 clear q q0 e1 e2
 subst k1 k2
 ·split at q9
  ·next hn=>
   obtain⟨b,e,rfl⟩:=a0d.mp q9
   obtain⟨u,v,rfl,du,dv⟩:=d.two
   cases (show v=Value.type n from dv.1)
   have kin:=hz.I.kIn
   have fin:∀tk,Z.post z s (.fz (.bl b)) (.bool b) { s with toks:=tk }:=λtk=>⟨hz.tok _,rfl⟩
   cases p with
   |non=>cases (show u=_ from du.1);exact PySem.W.kia_one (K:=X.K) PySem.W.kitx_none kin True.intro (by rcases hn with rfl|rfl|rfl|rfl|rfl|rfl<;>exact e) (λz=>nomatch z) fin
   |bl x=>cases (show u=_ from du.1);exact PySem.W.kia_one (K:=X.K) PySem.W.kitx_bool kin True.intro (by rcases hn with rfl|rfl|rfl|rfl|rfl|rfl<;>exact e) (λz=>nomatch z) fin
   |int x=>obtain⟨⟨t,rfl⟩,_⟩:=du;exact PySem.W.kia_one (K:=X.K) PySem.W.kitx_int kin True.intro (by rcases hn with rfl|rfl|rfl|rfl|rfl|rfl<;>exact e) (λz=>nomatch z) fin
   |str x=>obtain⟨⟨t,rfl⟩,_⟩:=du;exact PySem.W.kia_one (K:=X.K) PySem.W.kitx_str kin True.intro (by rcases hn with rfl|rfl|rfl|rfl|rfl|rfl<;>exact e) (λz=>nomatch z) fin
   |lst x=>obtain⟨⟨a,its,m,rfl,_,h1,_⟩,_⟩:=du;exact PySem.W.kia_one (K:=X.K) PySem.W.kitx_list kin ⟨_,h1,rfl⟩ (by rcases hn with rfl|rfl|rfl|rfl|rfl|rfl<;>exact e) (λz=>nomatch z) fin
   |tup x=>obtain⟨⟨a,its,rfl,_,⟨o,h1,h2,_⟩,_⟩,_⟩:=du;exact PySem.W.kia_one (K:=X.K) PySem.W.kitx_tuple kin ⟨o,h1,h2⟩ (by rcases hn with rfl|rfl|rfl|rfl|rfl|rfl<;>exact e) (λz=>nomatch z) fin
   |dct x y=>obtain⟨⟨a,kus,rfl,_,_,⟨o,es,ep,h1,h2,_⟩,_⟩,_⟩:=du;exact PySem.W.kia_one (K:=X.K) PySem.W.kitx_dict kin ⟨o,h1,h2.1⟩ (by rcases hn with rfl|rfl|rfl|rfl|rfl|rfl<;>exact e) (λz=>nomatch z) fin
   |_=>cases e
  ·cases q9
noncomputable def mV (lo:Int)(n:Nat):List PV:=(a0l n).map λi:Nat=>PV.int (lo+i)
theorem lE (lo:Int)(n:Nat):(mV lo n).length=n:=by unfold mV;simp
noncomputable def AC (l:List PV):Option RV:=(u1 l).bind λp=>(qo p).bind λj=>if -(2 ^ 62)<=j/\j<2 ^ 62 then some (.fz (.rng 0 j)) else none
theorem MI:dE X (.type "range") AC:=λz s ps us r E hz d q=>by
 obtain⟨p,e1,q⟩:=a0a.mp q
 obtain⟨j,e2,q⟩:=a0a.mp q
 cases eD e1;cases c7 e2
 replace q:(if -(2 ^ 62)<=j/\j<2 ^ 62 then some (RV.fz (.rng 0 j)) else none)=some r:=q
 ·split at q
  ·next h=>
   cases q
   obtain⟨u,rfl,⟨t,rfl⟩,_⟩:=d.one
   exact call_range_1 ⟨hz.push _ _,_,_,_,_,rfl,hz.free (Heap.get?_none_of_le (a0n _)),Heap.get?_push_size _ rfl⟩
  ·cases q
theorem DH {c:Cn}{h:Heap}{n:Nat}{acc:Array Value}(hi:ItemsOf (λi v=>∃t,v=.int ((0:Int)+i * 1) t) acc n):Ds c h (mV 0 n) acc.toList:=by
 obtain⟨hs,hi⟩:=hi
 refine Ds.of (by rw[lE];simpa using hs) λi p u h1 h2=>?_
 unfold mV at h1
 rw[a0q] at h1
 obtain⟨k,e,rfl⟩:=a0d.mp h1
 obtain⟨hk,e⟩:=a0j.mp e
 rw[a3s] at e
 subst e
 obtain⟨t,e⟩:=hi i u (by simpa using h2)
 exact⟨t,by rw[e,Int.mul_one]⟩
noncomputable def PX:PV->Option (List PV)
 |.lst ps=>some ps
 |.tup ps=>some ps
 |.src ps=>some ps
 |_=>none
noncomputable def kZ (l:List PV):Option RV:=(u1 l).bind λp=>(PX p).map λps=>.fz (.tup ps)
theorem BH {z:Z X}{s:Shared}{ps:List PV}{u:Value}{E:Value->Shared->Prop}(hz:z.ok s)(d:Rd z.cn s.heap (.lst ps) u):W X (call (.type "tuple") [u]) (Z.post z s (.fz (.tup ps))) E s:=by
 obtain⟨p,its,n,rfl,_,e1,zl,ds⟩:=d
 refine call_tuple_list (bw e1) (λh' kp=>?_) (by simp only[a0h];omega)
 have g:=hz.kept (t:=s.toks) kp
 exact g.post (Z.ok.newT g.1 (ds.mono g.2.kpD) zl s.toks)
theorem ND:dE X (.type "tuple") kZ:=λz s ps us r E hz d q=>by
 obtain⟨p,e1,q⟩:=a0a.mp q
 obtain⟨qs,e2,rfl⟩:=a0d.mp q
 cases eD e1
 obtain⟨u,rfl,du⟩:=d.one
 cases p<;>first|exact uz e2|skip
 case lst=>cases e2;exact BH hz du.1
 case tup=>
  cases e2
  have d':=du.2 rfl
  obtain⟨a,its,rfl,o,pl,_⟩:=du.2 rfl
  exact call_tuple_same pl ⟨hz.refl,d'⟩
 case src=>cases e2;exact BH hz du.1
noncomputable def lA (l:List PV):Option RV:=(u1 l).bind λp=>(DI p).elim ((items p).map .nw) λg=>if g.1=0/\0<=g.2/\g.2<=1000000 then some (.nw (mV 0 g.2.toNat)) else none
theorem JC (hc:X.calm=true):dE X (.type "list") lA:=λz s ps us r E hz d q=>by
 have zl:=wa
 obtain⟨p,e0,q⟩:=a0a.mp q
 cases eD e0
 cases e9:DI p with
 |some g=>
  obtain⟨lo,j⟩:=g
  cases Ak e9
  replace q:(if lo=0/\0<=j/\j<=1000000 then some (RV.nw (mV 0 j.toNat)) else none)=some r:=q
  split at q
  ·next h=>
   cases q
   obtain⟨rfl,h1,h2⟩:=h
   obtain⟨u,rfl,⟨a,t1,t2,t3,rfl,_,e⟩,_⟩:=d.one
   refine call_list_range (hz.I.ok.hd hc) (r:=a) (a:=0) (b:=j) (c:=1) (n:=j.toNat) e (small_one (by omega) (by omega) (by omega) (by omega)) (by rw[rangeSize_one];split<;>omega) (by omega) λh' tk acc' c' hk hS hacc=>?_
   have dd:=DH (c:=z.cn) (h:=s.heap) hacc
   refine Z.ok.newL hz dd (by rw[dd.length,lE];omega) hk (n:=c') ?_
   simpa [d9] using hS
  ·cases q
 |none=>
  replace q:(DI p).elim ((items p).map .nw) (λg=>if g.1=0/\0<=g.2/\g.2<=1000000 then some (RV.nw (mV 0 g.2.toNat)) else none)=some r:=q
  rw[e9] at q
  obtain⟨ps,e1,rfl⟩:=a0d.mp q
  obtain⟨u,rfl,du⟩:=d.one
  obtain⟨a,its,rfl,_,zl,ds,h⟩:=D1.items du.1 e1
  have fin:∀(h':Heap) (c':Nat),(∀b o',s.heap.get? b=some o'->h'.get? b=some o')->h'.get? s.heap.objs.size=some { cls:=.type "list",dict:=none,data:=.seq its.toArray c',slots:=#[] }->Z.post z s (.nw ps) (.ref s.heap.objs.size) { s with heap:=h' }:=λh' c' kp e=>
   Z.ok.newL hz ds zl kp (t:=s.toks) (n:=c') e
  rcases h with ⟨o,ho,hc,n,hd⟩|⟨n,e⟩
  ·exact call_list_seq a (.inr rfl) ho hc hd fin (by simp only[a0h]<;>omega)
  ·exact call_list_seq a (.inl rfl) e rfl rfl fin (by simp only[a0h]<;>omega)
noncomputable def wx (l:List PV):Option RV:=(u1 l).bind λp=>(DI p).bind λg=>if g.1=0/\0<=g.2/\g.2<=1000000 then some (.fz (.tup (mV 0 g.2.toNat))) else none
theorem KR (hc:X.calm=true):dE X (.type "tuple") wx:=λz s ps us r E hz d q=>by
 have zl:=wa
 obtain⟨p,e0,q⟩:=a0a.mp q
 obtain⟨⟨lo,j⟩,e9,q⟩:=a0a.mp q
 cases eD e0;cases Ak e9
 replace q:(if lo=0/\0<=j/\j<=1000000 then some (RV.fz (.tup (mV 0 j.toNat))) else none)=some r:=q
 ·split at q
  ·next h=>
   cases q
   obtain⟨rfl,h1,h2⟩:=h
   obtain⟨u,rfl,⟨a,t1,t2,t3,rfl,_,e⟩,_⟩:=d.one
   refine callType_new F.called_tuple (by decide) (F.typeCall_tuple_1 _) (F.newCall_tuple_1 _) (λobj=>F.args_object_init_2 obj _) F.entry_tuple_new
    (rg a (a:=0) (b:=j) (c:=1) (n:=j.toNat) (small_one (by omega) (by omega) (by omega) (by omega)) (by rw[rangeSize_one];split<;>omega) (by omega)) ⟨⟨hz.I.ok.hd hc,e⟩,λh' tk acc hk hacc=>⟨⟨_,Heap.get?_push_size _ rfl,rfl⟩,?_⟩⟩
   have g:=hz.kept (t:=tk) hk
   have dd:=DH (c:=z.cn) (h:=h') hacc
   have:=Z.ok.newT g.1 dd (by rw[dd.length,lE];omega) tk
   exact g.post (by simpa using this)
  ·cases q
noncomputable def dJ:List PV->Option (List Int)
 |[]=>some []
 |.int i::ps=>(dJ ps).map λis=>i::is
 |_=>none
theorem my {c:Cn}{h:Heap}{ps:List PV}:∀{us:List Value} {is:List Int},Ds c h ps us->dJ ps=some is->IntsAre us is:=by
 induction ps with
 |nil=>intro us bs d e;cases e;rw[show us=[] from d];exact .nil
 |cons p ps ih=>
  intro us bs d q
  obtain⟨u,r,e,d,t⟩:=d
  cases p with
  |int b=>
   obtain⟨bs',e',rfl⟩:=a0d.mp q
   obtain⟨k,rfl⟩:=d
   subst e
   exact .cons b k (ih t e')
  |_=>cases q
theorem Av {c:Cn}{h:Heap}{us:List Value}{is:List Int}(d:IntsAre us is):Ds c h (is.map PV.int) us:=by
 induction d with
 |nil=>rfl
 |cons n t _ ih=>exact .cons ⟨t,rfl⟩ ih
noncomputable def lP:List Int->Int
 |[]=>0
 |[i]=>i
 |i::j::l=>max i (lP (j::l))
noncomputable def AK:List Int->Int
 |[]=>0
 |[i]=>i
 |i::j::l=>min i (AK (j::l))
theorem kK:∀{is:List Int},0<is.length->lP is∈is/\∀a∈is,a<=lP is
 |[i],_=>⟨a0g.mpr rfl,λa h=>by rw[a0g.mp h];exact a2c _⟩
 |i::j::l,_=>by
  obtain⟨h1,h2⟩:=kK (is:=j::l) (by simp)
  rw[lP]
  refine⟨?_,λa ha=>?_⟩
  ·by_cases hm:i<=lP (j::l)
   ·rw[Int.max_eq_right hm];exact a0c _ h1
   ·rw[Int.max_eq_left (by omega)];exact a0e
  ·rcases a0s.mp ha with rfl|ha
   ·exact Int.le_max_left _ _
   ·exact a4p (h2 a ha) (Int.le_max_right _ _)
theorem zT:∀{is:List Int},0<is.length->AK is∈is/\∀a∈is,AK is<=a
 |[i],_=>⟨a0g.mpr rfl,λa h=>by rw[a0g.mp h];exact a2c _⟩
 |i::j::l,_=>by
  obtain⟨h1,h2⟩:=zT (is:=j::l) (by simp)
  rw[AK]
  refine⟨?_,λa ha=>?_⟩
  ·by_cases hm:AK (j::l)<=i
   ·rw[Int.min_eq_right hm];exact a0c _ h1
   ·rw[Int.min_eq_left (by omega)];exact a0e
  ·rcases a0s.mp ha with rfl|ha
   ·exact Int.min_le_left _ _
   ·exact a4p (Int.min_le_right _ _) (h2 a ha)
noncomputable def tG {α:Type}(g:List Int->Option α):List PV->Option α
 |[p]=>(kh p).bind λps=>(dJ ps).bind g
 |_=>none
noncomputable def kL (g:List Int->Int):List PV->Option RV:=tG λis=>if is.length=0 then none else some (.fz (.int (g is)))
noncomputable def zo:=kL lP
noncomputable def IH:=kL AK
theorem Rvs.ints {z:Z X}{h:Heap}{ps:List PV}{us:List Value}(d:Rvs z h ps us){α:Type}{g:List Int->Option α}{r:α}(q:tG g ps=some r):∃p ys is,us=[.ref p]/\h.IsList p (intItems ys)/\is=ys.toList.map (·.1)/\g is=some r:=by
 unfold tG at q
 split at q
 ·obtain⟨ps,e1,q⟩:=a0a.mp q
  obtain⟨is,e2,q⟩:=a0a.mp q
  obtain⟨u,rfl,du⟩:=d.one
  obtain⟨p,its,n,rfl,_,e1,zl,ds⟩:=D1.lst du.1 e1
  have hi:=my ds e2
  obtain⟨ys,e⟩:=hi.allInts.items
  have hl:=bw e1
  rw[e] at hl
  exact⟨p,ys,is,rfl,hl,by rw[←hi.numsOf,←nums_intItems,←e],q⟩
 ·cases q
theorem Ob (hc:X.calm=true):dE X (.builtin "max") zo:=λz s ps us r E hz d q=>by
 obtain⟨p,ys,is,rfl,hl,hns,q⟩:=d.ints q
 split at q
 ·cases q
 ·next hne=>
  cases q
  have hsz:0<ys.size:=by rw[hns,a0i,Array.length_toList] at hne;omega
  refine max_intList (hz.I.ok.hd hc) hl hsz λv h' tk hv hk=>?_
  obtain⟨t,rfl⟩:=intItems_at hv
  obtain⟨h1,h2⟩:=argBest_gt (numAt ys) (ys.size - 1)
  refine⟨hz.kept hk,t,?_⟩
  congr 1
  obtain⟨m1,m2⟩:=kK (is:=is) (by omega)
  refine a2r (m2 _ ?_) ?_
  ·rw[hns,numAt_eq];exact getD_mem (by rw[a0i,Array.length_toList];omega)
  ·have m3:=m1
   rw[hns] at m3
   obtain⟨j,hj,e⟩:=mem_getD m3
   rw[a0i,Array.length_toList] at hj
   rw[hns,←e,←numAt_eq];exact h2 j (by omega)
theorem N7 (hc:X.calm=true):dE X (.builtin "min") IH:=λz s ps us r E hz d q=>by
 obtain⟨p,ys,is,rfl,hl,hns,q⟩:=d.ints q
 split at q
 ·cases q
 ·next hne=>
  cases q
  have hsz:0<ys.size:=by rw[hns,a0i,Array.length_toList] at hne;omega
  refine min_intList (hz.I.ok.hd hc) hl hsz λv h' tk hv hk=>?_
  obtain⟨t,rfl⟩:=intItems_at hv
  obtain⟨h1,h2⟩:=argBest_lt (numAt ys) (ys.size - 1)
  refine⟨hz.kept hk,t,?_⟩
  congr 1
  obtain⟨m1,m2⟩:=zT (is:=is) (by omega)
  refine a2r ?_ (m2 _ ?_)
  ·have m3:=m1
   rw[hns] at m3
   obtain⟨j,hj,e⟩:=mem_getD m3
   rw[a0i,Array.length_toList] at hj
   rw[hns,←e,←numAt_eq];exact h2 j (by omega)
  ·rw[hns,numAt_eq];exact getD_mem (by rw[a0i,Array.length_toList];omega)
noncomputable def Fi:List PV->Option RV:=tG λis=>some (.fz (.int is.sum))
theorem MZ (hc:X.calm=true):dE X (.builtin "sum") Fi:=λz s ps us r E hz d q=>by
 obtain⟨p,ys,is,rfl,hl,hns,q⟩:=d.ints q
 cases q
 refine sum_intListG (hz.I.ok.hd hc) hl λh' tk t' hk=>⟨hz.kept hk,t',?_⟩
 rw[preSum_eq,a1v (by simp),hns]
end
end Dp
end
section
namespace Dp
open PySem PySem.Spec L2 PyProof.Rows PySem.W
section
variable {X:Cx}
theorem Inv.led {pins:List (Addr×Obj)}{σ:L2.St}{H:Hp}{s:Shared}{h':Heap}{m:Str->Option Value}(I:Inv X pins σ H s)(F0:Fr X.base X.env.locals s.heap m)(F:Fr X.base X.env.locals h' m)
  (kept:∀b o,b≠X.env.locals->s.heap.get? b=some o->h'.get? b=some o):Inv X pins σ H { s with heap:=h' }:=by
 have neL:∀b o,H b=some o->b≠X.env.locals:=λb o e z=>by subst z;rw[I.free] at e;cases e
 refine I.step (g':=s.gens) (t':=s.toks) (d':=s.drawn) (ch:=[]) (λ_ z=>nomatch z) (λb o hL _ _ e _=>kept b o hL e) (λb o hL _ _ e _=>⟨o.slots,kept b o hL e⟩) (λb o _ e n=>n) (λb o _ e=>?_)
  (λb xs e=>e) (λb o u e=>e) (λb ps e=>⟨#[],by rw[e];simp⟩) (λm1 hm=>?_) (λb o e=>?_) I.bare
 ·by_cases hb:b=X.env.locals
  ·subst hb
   obtain⟨o',_,_,z,_⟩:=F.ns
   exact⟨o',z⟩
  ·exact⟨o,kept b o hb e⟩
 ·rw[Jd hm F0.ns];exact F.ns
 ·refine (I.hok b o e).stay (λd u hc q=>kept d u ?_ q) (λd z=>z) λd xs z=>z
  rcases hc with z|z
  ·rw[z];exact neL b _ e
  ·exact neL d _ z
theorem Z.ok.led {z:Z X}{s:Shared}{h':Heap}{m:Str->Option Value}(hz:z.ok s)(F0:Fr X.base X.env.locals s.heap m)(F:Fr X.base X.env.locals h' m)(kept:∀b o,b≠X.env.locals->s.heap.get? b=some o->h'.get? b=some o):z.go s { s with heap:=h' }:=
 Z.ok.ext hz (Inv.led hz.I F0 F kept) ⟨λa o n e=>kept a o (λq=>n (q▸hz.loc)) e,λa o e=>by
  by_cases hb:a=X.env.locals
  ·subst hb
   obtain⟨o',_,_,z,_⟩:=F.ns
   exact⟨o',z⟩
  ·exact⟨o,kept a o hb e⟩⟩
noncomputable def lQ:List PV->Option (List (List Int))
 |[]=>some []
 |.tup qs::ps=>(dJ qs).bind λis=>if is.isEmpty then none else (lQ ps).map λks=>is::ks
 |_=>none
inductive Kys (h:Heap):List (List Int)->List Value->Prop where
 |nil:Kys h [] []
 |cons {a:Addr} {is:List Int} {vs us:List Value} {ks:List (List Int)}:IsTup h a vs.toArray->IntsAre vs is->is≠[]->Kys h ks us->Kys h (is::ks) (.ref a::us)
theorem Hm {c:Cn}{h:Heap}{ps:List PV}:∀{us:List Value} {ks:List (List Int)},Ds c h ps us->lQ ps=some ks->Kys h ks us:=by
 induction ps with
 |nil=>intro us ks d e;cases e;rw[show us=[] from d];exact .nil
 |cons p ps ih=>
  intro us ks d q
  obtain⟨u,r,e,d,t⟩:=d
  cases p with
  |tup qs=>
   obtain⟨is,e1,q⟩:=a0a.mp q
   split at q
   ·cases q
   ·next hne=>
    obtain⟨ks',e2,rfl⟩:=a0d.mp q
    obtain⟨a,its,rfl,_,pl,_,ds⟩:=d
    subst e
    exact .cons pl (my ds e1) (λz=>hne (by rw[z];rfl)) (ih t e2)
  |_=>cases q
theorem Kys.length {h:Heap}{ks:List (List Int)}{us:List Value}(k:Kys h ks us):ks.length=us.length:=by
 induction k with
 |nil=>rfl
 |cons _ _ _ _ ih=>rw[a0p,a0p,ih]
theorem Kys.get {h:Heap}{ks:List (List Int)}{us:List Value}(k:Kys h ks us):∀{i:Nat},i<us.length->∃a vs,us.getD i Value.none=.ref a/\IsTup h a vs.toArray/\IntsAre vs (ks.getD i []):=by
 induction k with
 |nil=>intro i hi;exact absurd hi (a2p _)
 | @cons a is vs us ks h1 h2 h3 h4 ih=>
  intro i hi
  cases i with
  |zero=>exact⟨a,vs,rfl,h1,h2⟩
  |succ i=>exact ih (by simpa using hi)
theorem Kys.tups {h h':Heap}{L:Addr}{ks:List (List Int)}{us:List Value}(k:Kys h ks us)(nl:∀a items,IsTup h a items->a≠L)(kept:∀b o,b≠L->h.get? b=some o->h'.get? b=some o):∃fs:List Value,KatTups h' us fs/\fs.length=us.length/\∀v∈fs,∃i t,v=Value.int i t:=by
 induction k with
 |nil=>exact⟨[],KatTups.nil,rfl,λ_ z=>nomatch z⟩
 | @cons a is vs us ks h1 h2 h3 h4 ih=>
  obtain⟨fs,f1,f2,f3⟩:=ih
  have hl:=nl _ _ h1
  obtain⟨o,eo,ec,n,ed⟩:=h1
  cases h2 with
  |nil=>exact absurd rfl h3
  |cons i tk q=>
   refine⟨.int i tk::fs,KatTups.cons (kept a o hl eo) ec ed rfl f1,by rw[a0p,a0p,f2],λv hv=>?_⟩
   rcases a0s.mp hv with rfl|hv
   ·exact⟨i,tk,rfl⟩
   ·exact f3 v hv
theorem DL {prog:Program}{w:World}{A:Around}{fin:Bool}{C:Bool->Shared->Prop}{s':Shared}{xs ys:List Int}{us vs:List Value}{k:Nat}(r1:IntsAre us xs)(r2:IntsAre vs ys)(h:C (Bh fin (xs.zip ys)) s'):KatLex prog w A true fin C (us.zip vs) k s':=
 BD (mN r1) (mN r2) h
theorem DQ {c:Cn}{h:Heap}{ps:List PV}{us:List Value}(d:Ds c h ps us):∀{q:List Nat},(∀i∈q,i<us.length)->Ds c h (q.map λi=>ps.getD i .non) (q.map λi=>us.getD i Value.none)
 |[],_=>rfl
 |i::q,hq=>by
  have hi:=hq i a0e
  have hl:=d.length
  obtain⟨u,e1,e2⟩:=d.get (i:=i) (p:=ps.getD i .non) (by rw[a0m,a0f (by omega)];rfl)
  refine .cons ?_ (DQ d λj hj=>hq j (a0c _ hj))
  show D c h (ps.getD i .non) (us.getD i Value.none)
  rw[a0m (l:=us),e1]
  exact e2
noncomputable def kS:List PV->Option RV
 |[p]=>(kh p).bind λps=>(lQ ps).bind λks=>if ps.length<64 then some (.nw ((oH ks).map λi=>ps.getD i .non)) else none
 |_=>none
theorem xO {z:Z X}{s:Shared}(hz:z.ok s){a:Addr}{items:Array Value}(h:IsTup s.heap a items):a≠X.env.locals:=λq=>by
 obtain⟨o,e,_,n,d⟩:=h
 obtain⟨m,⟨o',es,ep,e',d',_⟩,_⟩:=hz.I.loc
 rw[q,e'] at e;cases e;rw[d'] at d;cases d
theorem Dm:dE X (.builtin "sorted") kS:=λz s ps us r E hz d q=>by
 unfold kS at q
 split at q
 ·obtain⟨ts,e1,q⟩:=a0a.mp q
  obtain⟨ks,e2,q⟩:=a0a.mp q
  split at q
  ·next h64=>
   cases q
   obtain⟨u,rfl,du⟩:=d.one
   obtain⟨p,its,n,rfl,_,e1,zl,ds⟩:=D1.lst du.1 e1
   have pl:=bw e1
   have ky:=Hm ds e2
   have hk:=ky.length
   have hl:=ds.length
   by_cases h2:its.length<2
   ·refine tN pl h2 ?_
    obtain⟨e,he⟩:=sortedAll_at s.heap its its.toArray
    have es:(oH ks).map (λi=>ts.getD i .non)=ts:=by
     unfold oH
     rw[if_pos (by omega),hk,hl]
     exact qQ _ _
    rw[es]
    have g:=hz.kept (h':=sortedAll s.heap its its.toArray) (t:=s.toks) λb o z=>sortedAll_old z
    have nn:=Heap.get?_none_of_le (h:=s.heap) (a:=s.heap.objs.size+1) (a5z _)
    exact⟨g,_,rfl,nn,hz.free nn,its,e,he,zl,(ds.mono (xR nn)).mono ⟨rfl,rfl,rfl,λb o q e=>⟨q,sortedAll_old e⟩⟩⟩
   ·obtain⟨m,F0⟩:=hz.I.fr
    refine kat_sorted F0 BR pl (by omega) (by omega) λD e1 h' F' N' hlt=>?_
    have nD:=N' (D,seqObj "list" #[] e1) a0e
    have hD:s.heap.get? D=none:=by
     cases e:s.heap.get? D with
     |none=>rfl
     |some o=>exact absurd (hlt (D,o) (oo nD.2.1 nD.2.2 e)) (a1k _)
    have kp:∀(h'':Heap) (x:Addr×Obj) (F:Fr X.base X.env.locals h'' m) (N:News X.base X.env.locals h'' (x::mM X.base s.heap X.env.locals)),∀b o,b≠X.env.locals->s.heap.get? b=some o->h''.get? b=some o:=λh'' x F N b o hb e=>by
     cases z:X.base.get? b with
     |some v=>
      have y:=hz.I.bk b v z
      rw[e] at y;cases y
      exact F.keep b _ z
     |none=>exact (N (b,o) (a0c _ (oo hb z e))).1
    have kept:=kp h' _ F' N'
    obtain⟨fs,k1,k2,k3⟩:=ky.tups (λa items h=>xO hz h) kept
    refine kat_kind (s:={ s with heap:=h' }) k1 (by omega) (T:=.type "int") (λv hv=>?_) (by decide) ?_
    ·obtain⟨i,t,rfl⟩:=k3 v hv
     exact Looks.of_pure rfl
    ·refine BK (n:=its.length) (P:=OfN its.length) (λi j=>sY (ks.getD i []) (ks.getD j [])) (λi j C hi hj hC=>?_) (rF (by omega)) (λhpm=>?_)
     ·obtain⟨a,vs,g1,g2,r1⟩:=ky.get hi
      obtain⟨a',vs',g1',g2',r1'⟩:=ky.get hj
      have nl1:=xO hz g2
      have nl2:=xO hz g2'
      obtain⟨o,eo,ec,n1,ed⟩:=g2
      obtain⟨o',eo',ec',n1',ed'⟩:=g2'
      show wpAny (model X.prog X.w) X.A.in1.in1 (keyLt' (tuples' (Value.type "int" != Value.type "tuple")) (its.getD i Value.none) (its.getD j Value.none)) C (λ_ _=>False) _
      rw[g1,g1',show (Value.type "int" != Value.type "tuple")=true by decide]
      refine kat_lt (kept _ _ nl1 eo) ed (kept _ _ nl2 eo') ed' (DL r1 r1' ?_)
      rw[a0h,a0h,r1.length,r1'.length]
      exact hC
     ·have eo:oH ks=(c9 (λi j=>sY (ks.getD i []) (ks.getD j [])) (kas_sort its.length)).toList:=by
       unfold oH
       rw[if_neg (by omega),hk]
      generalize hpme:c9 (λi j=>sY (ks.getD i []) (ks.getD j [])) (kas_sort its.length)=pm at hpm eo ⊢
      have hmem:∀i∈pm.toList,i<its.length:=λi hi=>a0z.mp (hpm.subset hi)
      refine KasFin.intro F' N' (.head λ_ z=>?_) λh'' c F'' N''=>?_
      ·exact a1j (hlt _ z)
      ·have kept2:=kp h'' _ F'' N''
       have g:=Z.ok.led hz F0 F'' kept2
       rw[eo]
       refine⟨g,D,rfl,hD,hz.free hD,_,c,(N'' (D,_) a0e).1,?_,((DQ ds hmem).mono (xR hD)).mono g.2.kpD⟩
       have:=hpm.length_eq
       rw[a0i,this,a0v]
       exact zl
  ·cases q
 ·cases q
noncomputable def nu:List PV->Option RV
 |[p]=>(items p).bind λps=>(dJ ps).bind λis=>if is.length<64 then some (.nw ((uA is).map PV.int)) else none
 |_=>none
theorem Hu:dE X (.builtin "sorted") nu:=λz s ps us r E hz d q=>by
 unfold nu at q
 split at q
 ·obtain⟨ts,e1,q⟩:=a0a.mp q
  obtain⟨is,e2,q⟩:=a0a.mp q
  split at q
  ·next h64=>
   cases q
   obtain⟨u,rfl,du⟩:=d.one
   obtain⟨a,its,rfl,_,zl,ds,h⟩:=D1.items du.1 e1
   have hi:=my ds e2
   have hl:=hi.length
   have main:∀(T:String) (o:Obj) (n:Nat),(T = "list"\/T = "tuple")->s.heap.get? a=some o->o.cls=.type T->o.data=.seq its.toArray n->W X (call (.builtin "sorted") [.ref a]) (Z.post z s (.nw ((uA is).map PV.int))) E s:=λT o n hT ho hc hd=>by
    refine xk hT ho hc hd hi (by omega) λh1 h' D out js e k1 k2 hD hh hi hp hu=>?_
    rw[ye hp hu] at hi
    have g:=hz.kept (t:=s.toks) λb u e=>k2 b u (k1 b u e)
    have nn:s.heap.get? D=none:=by
     cases q:s.heap.get? D with
     |none=>rfl
     |some o=>exact absurd (Heap.lt_size (k1 _ _ q)) (Nat.not_lt.mpr hD)
    refine⟨g,D,rfl,nn,hz.free nn,out,e,hh,?_,Av hi⟩
    rw[hi.length,(rV is).length_eq,sizeLine_eq];omega
   rcases h with ⟨o,ho,hc,n,hd⟩|⟨n,e⟩
   ·exact main "tuple" o n (.inr rfl) ho hc hd
   ·exact main "list" _ n (.inl rfl) e rfl rfl
  ·cases q
 ·cases q
end
end Dp
end
section
namespace Dp
open PySem PySem.Spec L2 PyProof.Rows
inductive Out where
 |nx (ρ:ao)|bk (ρ:ao)|ct (ρ:ao)|rt (p:PV) (ρ:ao)|rn (ps:List PV) (ρ:ao)|bad
noncomputable abbrev FS:=ao->Out
structure Stp (bad:Addr->Prop)(H H':Hp)(h h':Heap):Prop where
 kp:∀a o,¬bad a->H a=none->h.get? a=some o->h'.get? a=some o/\H' a=none
 th:∀a o,h.get? a=some o->∃o',h'.get? a=some o'
section
variable {X:Cx}{z:Z X}{s s' s1 s2:Shared}{h h' h1 h2:Heap}{bad:Addr->Prop}{H H1 H2:Hp}
theorem Ext.stp (e:Ext bad h h'):Stp bad H H h h':=⟨λa o n q g=>⟨e.kp a o n g,q⟩,e.th⟩
theorem Stp.trans (a:Stp bad H H1 h h1)(b:Stp bad H1 H2 h1 h2):Stp bad H H2 h h2:=
 ⟨λx o n q g=>b.kp x o n (a.kp x o n q g).2 (a.kp x o n q g).1,λx o g=>let ⟨o',q⟩:=a.th x o g;b.th x o' q⟩
theorem Stp.kpD (e:Stp bad H H1 h h'):Kp (bC X bad H) (bC X bad H1) h h':=⟨rfl,rfl,rfl,λa o q g=>⟨⟨(e.kp a o q.2 q.1 g).2,q.2⟩,(e.kp a o q.2 q.1 g).1⟩⟩
noncomputable abbrev Z.wi (z:Z X)(σ:L2.St)(H:Hp)(ρ:ao):Z X:=⟨z.bad,z.pins,σ,H,ρ⟩
noncomputable def Z.to (z:Z X)(s:Shared)(ρ:ao)(s':Shared):Prop:=∃σ' H',(z.wi σ' H' ρ).ok s'/\Stp z.bad z.H H' s.heap s'.heap
theorem Z.go.to (g:z.go s s'):z.to s z.ρ s':=⟨z.σ,z.H,g.1,g.2.stp⟩
noncomputable def Z.sp (z:Z X)(s:Shared)(o:Out)(fl:Flow)(s':Shared):Prop:=match o with
 |.nx ρ=>fl=.next/\z.to s ρ s'
 |.bk ρ=>fl=.brk/\z.to s ρ s'
 |.ct ρ=>fl=.cont/\z.to s ρ s'
 |.rt p ρ=>∃u σ' H',fl=.ret u/\(z.wi σ' H' ρ).ok s'/\Stp z.bad z.H H' s.heap s'.heap/\D (bC X z.bad H') s'.heap p u
 |.rn ps ρ=>∃a σ' H',fl=.ret (.ref a)/\(z.wi σ' H' ρ).ok s'/\Stp z.bad z.H H' s.heap s'.heap/\X.s₀.heap.get? a=none/\¬z.bad a/\ListAt (bC X z.bad (eE H' a aW)) s'.heap a ps
 |.bad=>False
noncomputable def NS (X:Cx)(st:Stmt)(f:FS):Prop:=∀(z:Z X) s E,z.ok s->f z.ρ≠.bad->W X (exec st X.env) (Z.sp z s (f z.ρ)) E s
noncomputable def Bo (X:Cx)(st:List Stmt)(f:FS):Prop:=∀(z:Z X) s E,z.ok s->f z.ρ≠.bad->W X (execs st X.env) (Z.sp z s (f z.ρ)) E s
theorem Z.sp.back {o:Out}{fl:Flow}{σ1:L2.St}{H1:Hp}{ρ1:ao}(t:Stp z.bad z.H H1 s.heap s1.heap)(h:(z.wi σ1 H1 ρ1).sp s1 o fl s'):z.sp s o fl s':=by
 cases o with
 |nx ρ=>obtain⟨e,σ',H',a,b⟩:=h;exact⟨e,σ',H',a,t.trans b⟩
 |bk ρ=>obtain⟨e,σ',H',a,b⟩:=h;exact⟨e,σ',H',a,t.trans b⟩
 |ct ρ=>obtain⟨e,σ',H',a,b⟩:=h;exact⟨e,σ',H',a,t.trans b⟩
 |rt p ρ=>obtain⟨u,σ',H',e,a,b,c⟩:=h;exact⟨u,σ',H',e,a,t.trans b,c⟩
 |rn p ρ=>obtain⟨u,σ',H',e,a,b,c⟩:=h;exact⟨u,σ',H',e,a,t.trans b,c⟩
 |bad=>exact h
theorem Z.sp.back0 {o:Out}{fl:Flow}(g:z.go s s1)(h:Z.sp z s1 o fl s'):z.sp s o fl s':=Z.sp.back (σ1:=z.σ) (H1:=z.H) (ρ1:=z.ρ) g.2.stp h
end
section
variable {X:Cx}{st:Stmt}{hV:List Stmt}{f g:FS}{e:Expr}{fe:FE}{pos:Pos}
noncomputable def br:FS:=λρ=>.nx ρ
noncomputable def cq:FS:=λ_=>.bad
noncomputable def QX:FS:=λρ=>.bk ρ
noncomputable def Q1:FS:=λρ=>.ct ρ
noncomputable def aj (s u:FS):FS:=λρ=>match s ρ with
 |.nx ρ'=>u ρ'
 |o=>o
theorem di:NS X st cq:=λz s E _ h=>absurd rfl h
theorem L8:Bo X [] br:=λz s E hz _=>wpAny_execs_nil ⟨rfl,hz.refl.to⟩
theorem Kd (h1:NS X st f):Bo X [st] f:=λz s E hz hb=>by
 refine wpAny_execs_cons (aY (h1 z s E hz hb) λfl s1 q=>?_)
 generalize f z.ρ=o at hb q
 cases o with
 |nx ρ=>obtain⟨e,q⟩:=q;subst e;exact wpAny_execs_nil ⟨rfl,q⟩
 |bk ρ=>obtain⟨e,q⟩:=q;subst e;exact⟨rfl,q⟩
 |ct ρ=>obtain⟨e,q⟩:=q;subst e;exact⟨rfl,q⟩
 |rt p ρ=>obtain⟨u,σ',H',e,q⟩:=q;subst e;exact⟨u,σ',H',rfl,q⟩
 |rn p ρ=>obtain⟨u,σ',H',e,q⟩:=q;subst e;exact⟨u,σ',H',rfl,q⟩
 |bad=>exact absurd rfl hb
theorem F4 (h1:NS X st f)(h2:Bo X hV g):Bo X (st::hV) (aj f g):=λz s E hz hb=>by
 unfold aj at hb ⊢
 have hb1:f z.ρ≠.bad:=λq=>by rw[q] at hb;exact hb rfl
 refine wpAny_execs_cons (aY (h1 z s E hz hb1) λfl s1 q=>?_)
 generalize f z.ρ=o at hb q hb1
 cases o with
 |nx ρ=>
  obtain⟨e,σ',H',ok,t⟩:=q
  subst e
  exact aY (h2 (z.wi σ' H' ρ) s1 E ok hb) λfl s2 q2=>q2.back t
 |bk ρ=>obtain⟨e,q⟩:=q;subst e;exact⟨rfl,q⟩
 |ct ρ=>obtain⟨e,q⟩:=q;subst e;exact⟨rfl,q⟩
 |rt p ρ=>obtain⟨u,σ',H',e,q⟩:=q;subst e;exact⟨u,σ',H',rfl,q⟩
 |rn p ρ=>obtain⟨u,σ',H',e,q⟩:=q;subst e;exact⟨u,σ',H',rfl,q⟩
 |bad=>exact absurd rfl hb1
theorem Jp:NS X (.Pass pos) br:=λz s E hz _=>wpAny_Pass ⟨rfl,hz.refl.to⟩
theorem F9:NS X (.Break pos) QX:=λz s E hz _=>wpAny_Break ⟨rfl,hz.refl.to⟩
theorem xt:NS X (.Continue pos) Q1:=λz s E hz _=>wpAny_Continue ⟨rfl,hz.refl.to⟩
theorem OX {x j pos'}:NS X (.Expr (.Constant (.str x) j pos) pos') br:=λz s E hz _=>wpAny_Expr (Calls.Constant_str (show Z.sp z s _ .next { s with toks:=s.toks+1 } from⟨rfl,(hz.tok _).to⟩)) hz.I.quiet
noncomputable def y8 (o:Option RV)(ρ:ao):Out:=match o with
 |some (.fz _)=>.nx ρ
 |_=>.bad
noncomputable def fM (f:FE):FS:=λρ=>y8 (f ρ) ρ
theorem pW (h:NE X e fe)(hs:swapsWith e none pos.line X.env=pure false):NS X (.Expr e pos) (fM fe):=λz s E hz hb=>by
 unfold fM y8 at hb ⊢
 split at hb
 ·next p er=>exact wpAny_Expr_any (aY (h z s _ E hz er) λv s1 q=>⟨rfl,q.1.to⟩) hz.I.quiet hs
 ·exact absurd rfl hb
noncomputable def CC (o:Option RV)(ρ:ao):Out:=match o with
 |some (.fz p)=>.rt p ρ
 |some (.nw ps)=>.rn ps ρ
 |_=>.bad
noncomputable def bv (f:FE):FS:=λρ=>CC (f ρ) ρ
theorem fO {z:Z X}{s:Shared}(hz:z.ok s){a:Addr}(n:s.heap.get? a=none):X.s₀.heap.get? a=none:=by
 cases q:X.s₀.heap.get? a with
 |none=>rfl
 |some o=>
  by_cases hx:a∈X.ex
  ·obtain⟨o',r⟩:=hz.there a (hz.ex a hx);rw[n] at r;cases r
  ·obtain⟨o',r⟩:=hz.I.base.there a o q hx;rw[n] at r;cases r
theorem IZ (h:NE X e fe):NS X (.Return (some e) pos) (bv fe):=λz s E hz hb=>by
 unfold bv CC at hb ⊢
 split at hb
 ·next p er=>exact wpAny_Return_some (aY (h z s _ E hz er) λv s1 q=>⟨v,z.σ,z.H,rfl,q.1.1,q.1.2.stp,q.2⟩)
 ·next ps er=>exact wpAny_Return_some (aY (h z s _ E hz er) λv s1 q=>by
   obtain⟨g,a,rfl,n,o,l⟩:=q
   exact⟨a,z.σ,z.H,rfl,g.1,g.2.stp,fO hz n,o.2,l⟩)
 ·exact absurd rfl hb
noncomputable def u8 (o:Option Sl)(ρ:ao):Out:=match o with
 |some (.val p)=>.rt p ρ
 |some (.own ps)=>.rn ps ρ
 |_=>.bad
noncomputable def jT (i:Nat):FS:=λρ=>u8 (sl ρ i) ρ
theorem pP {H:Hp}{a:Addr}{o:HO}(h:H a=some o):eE H a o=H:=by
 funext b;unfold eE;split
 ·next e=>rw[e,h]
 ·rfl
theorem La {i:Nat}{x:Str}{p:Pos}(hN:X.N[i]?=some x)(hv:qp X.env.scope x)(hd:(x==("__debug__" : Str))=false)(hcd:(x==("__classdict__" : Str))=false)(hl:X.H₀=λ_=>none):NS X (.Return (some (.Name x p)) pos) (jT i):=λz s E hz hb=>by
 unfold jT u8 at hb ⊢
 split at hb
 ·next q eq=>exact wpAny_Return_some (aY (Oh hN hv hd hcd z s _ E hz (show fV i z.ρ=some (.fz q) by unfold fV;rw[eq];rfl)) λv s1 w=>⟨v,z.σ,z.H,rfl,w.1.1,w.1.2.stp,w.2⟩)
 ·next ps eq=>
  have:=Oh (pos:=p) hN hv hd hcd z s (.ln (.lst ps)) (λ_ _=>True) hz (show fV i z.ρ=_ by unfold fV;rw[eq];rfl)
  obtain⟨v,e1,⟨u0,r0⟩,d⟩:=hz.slk i _ (gz eq)
  obtain⟨a,rfl,ha,l⟩:=d
  obtain⟨m,hn,hlk⟩:=hz.I.loc
  obtain⟨u,r,lk⟩:=hlk i x (.ref a) hN e1 hv
  cases (show u=Value.ref a from r)
  have nb:=hz.nb i a ⟨⟨_,gz eq,rfl⟩,e1⟩
  have fin:Z.sp z s (.rn ps z.ρ) (.ret (.ref a)) s:=⟨a,z.σ,z.H,rfl,hz,Ext.refl.stp,(nb.2.resolve_right λq=>q (by rw[hl])),nb.1,(by rw[pP ha];exact l)⟩
  refine wpAny_Return_some (wpAny_Name ?_ hd)
  rcases lk with ⟨hk,hm⟩|⟨hk,c,hc,hcell⟩
  ·exact wpAny_loadName_local hz.I.ok.kind hk hn hm fin
  ·rcases hk with hk|hk
   ·exact wpAny_loadName_cell hz.I.ok.kind hk hc hcell fin
   ·exact wpAny_loadName_free hz.I.ok.kind hk hc hcell fin hcd
 ·exact absurd rfl hb
noncomputable def Ol (o:Option Bool)(s u:FS)(ρ:ao):Out:=match o with
 |some true=>s ρ
 |some false=>u ρ
 |none=>.bad
noncomputable def ig (g:FB)(s u:FS):FS:=λρ=>Ol (g ρ) s u ρ
theorem PQ {c:Expr}{a b:List Stmt}{fc:FB}(hc:NB X c fc)(ha:Bo X a f)(hb:Bo X b g):NS X (.If c a b pos) (ig fc f g):=λz s E hz hn=>by
 unfold ig Ol at hn ⊢
 split at hn
 ·next ek=>
  refine wpAny_If (aY (hc z s _ E hz ek) λd s1 ⟨e,g1⟩=>?_)
  subst e
  exact aY (ha z s1 E g1.1 hn) λfl s2 q=>q.back0 g1
 ·next ek=>
  refine wpAny_If (aY (hc z s _ E hz ek) λd s1 ⟨e,g1⟩=>?_)
  subst e
  exact aY (hb z s1 E g1.1 hn) λfl s2 q=>q.back0 g1
 ·exact absurd rfl hn
end
inductive PR where
 |v (p:PV)|n (ps:List PV)
noncomputable abbrev Fn:=List PV->Option PR
noncomputable def Jz (n:Nat)(ps:List PV):ao:=ps.map (λp=>some (Sl.val p))++a0r (n - ps.length) none
noncomputable def Out.res:Out->Option PR
 |.nx _=>some (.v .non)
 |.rt p _=>some (.v p)
 |.rn ps _=>some (.n ps)
 |_=>none
noncomputable def run (a n:Nat)(s:FS)(qs:List PV):Option PR:=if qs.length=a then (s (Jz n qs)).res else none
structure Rm (k:Nat)(A:Around):Prop where
 dp:A.depth+3 * k+5<recursionLimit
 un:A.units+16 * k+200<cLine
theorem Rm.mono {j k:Nat}{A:Around}(r:Rm k A)(h:j<=k):Rm j A:=⟨by have:=r.dp;omega,by have:=r.un;omega⟩
theorem Rm.deeper {k:Nat}{A:Around}(r:Rm (k+1) A)(env:Env):Rm k (A.deeper env):=
 ⟨by have:=r.dp;show A.depth+1+3 * k+5<_;omega,by have:=r.un;show A.units+3+16 * k+200<_;omega⟩
theorem Rm.depth {k:Nat}{A:Around}(r:Rm k A):A.depth<recursionLimit:=by have:=r.dp;omega
theorem Rm.units {k:Nat}{A:Around}(r:Rm k A):A.units+64<cLine:=by have:=r.un;omega
noncomputable abbrev h0:Hp:=λ_=>none
noncomputable def Fin (P:Program)(w:World)(mg:Str->Option Value)(outer:List Env)(bad:Addr->Prop)(s:Shared)(r:PR)(res:Result)(s':Shared):Prop:=
 ∃u,res=.ok (.ret u)/\s'.os=s.os/\AllBare s'.gens/\Un (qr outer) [] h0 h0 s.heap s'.heap/\match r with
  |.v p=>D ⟨j0 bad h0,P,w,mg⟩ s'.heap p u
  |.n ps=>∃a,u=.ref a/\s.heap.get? a=none/\ListAt ⟨j0 bad (eE h0 a aW),P,w,mg⟩ s'.heap a ps
structure NF (P:Program)(w:World)(K:PySem.W.Frag)(mg:Str->Option Value)(base:Heap)(cm:Bool)(k:Nat)(f:Addr)(fd:FuncData)(ps:List Str)(F:Fn):Prop where
 len:∀qs r,F qs=some r->qs.length=ps.length
 run:∀(A:Around) (outer:List Env) (s:Shared) (args:Args) (us:List Value) (qs:List PV) (r:PR) (bad:Addr->Prop),(cm=true->A.handled=none)->Rm k A->Env0 P w K mg base A outer s h0->BindsTo s fd args (ps.zip us) →
  (∀b∈qr outer,bad b)->(∀b,bad b->∃o,s.heap.get? b=some o)->(∀b o,base.get? b=some o->¬bad b)->Ds ⟨j0 bad h0,P,w,mg⟩ s.heap qs us->F qs=some r->codeAny (model P w) A (.call (.ref f) args) (Fin P w mg outer bad s r) s
theorem NF.mono {P:Program}{w:World}{K:PySem.W.Frag}{mg:Str->Option Value}{base:Heap}{cm:Bool}{j k:Nat}{f:Addr}{fd:FuncData}{ps:List Str}{F:Fn}(n:NF P w K mg base cm j f fd ps F)(h:j<=k):NF P w K mg base cm k f fd ps F:=
 ⟨n.len,λA outer s args us qs r bad hc hr=>n.run A outer s args us qs r bad hc (hr.mono h)⟩
noncomputable def KY (P:Program)(w:World)(K:PySem.W.Frag)(mg:Str->Option Value)(base:Heap)(cm:Bool)(N:List Str)(qual:Str)(scope:Scope)(f:Addr)(cd:Value)(A:Around)(outer:List Env)(s:Shared)(H:Hp):Cx where
 prog:=P
 w:=w
 K:=K
 mg:=mg
 base:=base
 A:=A.deeper (envOfC qual scope s.heap.objs.size f cd)
 N:=N
 s₀:=s
 H₀:=H
 env:=envOfC qual scope s.heap.objs.size f cd
 outer:=outer
 stack:=envOfC qual scope s.heap.objs.size f cd::outer
 ex:=[]
 calm:=cm
 fn:=λ_=>true
 pn:=[]
 xe:=λ_ _=>False
theorem wR {P:Program}{w:World}{K:PySem.W.Frag}{mg:Str->Option Value}{base:Heap}{cm:Bool}{N ps:List Str}{qual:Str}{scope:Scope}{f:Addr}{cd:Value}{A:Around}{outer:List Env}{s s1:Shared}{H:Hp}{us:List Value}{vs:List V}
  (S:FnScope N ps scope) (hd:cm=true->A.handled=none) (e0:Env0 P w K mg base A outer s H) (hl:vs.length=ps.length) (r:Vals vs us)
  (x:InCallC s s.heap.objs.size (bindL (envOfC qual scope s.heap.objs.size f cd).kindOf (ps.zip us) λ_=>none) (cellsFrom (s.heap.objs.size+1) scope.names []) (bindC (envOfC qual scope s.heap.objs.size f cd).kindOf (ps.zip us) λ_=>none) s1) :
  Inv (KY P w K mg base cm N qual scope f cd A outer s H) [] (L2.iB N vs) H s1:=by
 have hpl:ps.length<=N.length:=by have:=congrArg List.length S.pre;rw[a2z] at this;omega
 obtain⟨h1,tk,rfl,hk⟩:=x.done
 have noA:∀b:Addr,b∉(KY P w K mg base cm N qual scope f cd A outer s H).ex:=λb z=>absurd (show b∈([]:List Addr) from z) (by simp)
 refine⟨⟨e0.mod,S.kind,rfl,rfl,a0n _,λy z c h1 h2=>?_,λy hy=>?_,λy c _ h=>?_,hd,Around.frames_deeper e0.frames,.inr ⟨rfl,rfl⟩,λb z=>absurd z (noA b),e0.bs,e0.bsz,λb _ _=>noA b,λb z=>absurd z (noA b),e0.funs,e0.frf⟩,
  rfl,e0.bare,Un.kept hk,⟨_,x.toInCall.ns,λi y v h1 h2 h3=>?_⟩,λy c h=>⟨_,x.cell y c h⟩,e0.hok.fresh (a0n _),λy c h=>?_,λp hp=>absurd (show p∈([]:List (Addr×Obj)) from hp) (by simp),e0.hok.kept hk,?_⟩
 ·exact name_of_addr x.apart (PySem.mem_of_lookup h1) (PySem.mem_of_lookup h2)
 ·have hy:scope.names.lookup y=some .cell\/scope.names.lookup y=some .free:=hy
  rcases hy with hy|hy
  ·exact vG hy
  ·exact absurd rfl (S.nofree _ (PySem.mem_of_lookup hy))
 ·exact a3f (x.above y c (PySem.mem_of_lookup h))
 ·have hi:i<vs.length:=by
   unfold L2.iB at h2
   by_cases hi:i<vs.length
   ·exact hi
   ·rw[a1y (by simpa using hi)] at h2
    rw[a2v] at h2
    split at h2<;>cases h2
  have ha:vs[i]?=some v:=by
   unfold L2.iB at h2
   rw[a2b (by simpa using hi),a0q] at h2
   cases e:vs[i]? with
   |none=>rw[e] at h2;cases h2
   |some a=>rw[e] at h2;cases h2;rfl
  obtain⟨u,hu,rv⟩:=r.get ha
  have hp:ps[i]?=some y:=by
   rw[←S.pre,List.getElem?_take_of_lt (by omega)];exact h1
  have ndP:ps.Nodup:=by rw[←S.pre];exact S.nd.sublist (List.take_sublist _ _)
  refine⟨u,rv,?_⟩
  rcases S.par y (a1i hp) with k|k
  ·exact .inl ⟨k,sO ndP hp hu k⟩
  ·obtain⟨c,e⟩:=vG (n:=s.heap.objs.size+1) k
   refine .inr ⟨.inl k,c,e,?_⟩
   have q:=x.cell y c e
   rw[rN ndP hp hu (by show scope.names.lookup y≠_;rw[k];decide)] at q
   exact q
 ·exact e0.hok.fresh (a3f (x.above y c (PySem.mem_of_lookup h)))
 ·unfold L2.iB
  show _=N.length
  rw[a0t,a0i,a1p]
  omega
theorem EO {v:V}{a:Addr}(r:iC v (.ref a)):v=.ref a:=by
 cases v with
 |ref b=>cases (show Value.ref a=Value.ref b from r);rfl
 |non=>cases (show Value.ref a=Value.none from r)
 |bl b=>cases (show Value.ref a=Value.bool b from r)
 |ty b=>cases (show Value.ref a=Value.type b from r)
 |_=>obtain⟨_,e⟩:=r;cases e
noncomputable def Out.res2:Out->Option (PR×ao)
 |.nx ρ=>some (.v .non,ρ)
 |.rt p ρ=>some (.v p,ρ)
 |.rn ps ρ=>some (.n ps,ρ)
 |_=>none
noncomputable def Bj (n:Nat)(ts:List Sl):ao:=ts.map some++a0r (n - ts.length) none
noncomputable def Ent (c:Cn)(H:Hp)(h:Heap):List Sl->List Value->Prop
 |[],us=>us=[]
 |t::ts,us=>∃u r,us=u::r/\(match t with
  |.val p=>D c h p u
  |t=>∃a,u=.ref a/\SlOk c H h t (.ref a))/\Ent c H h ts r
theorem Ent.vs {c:Cn}{H:Hp}{h:Heap}:∀{ts:List Sl} {us:List Value},Ent c H h ts us->∃vs,Vals vs us/\vs.length=ts.length/\∀(i:Nat) t v,ts[i]?=some t->vs[i]?=some v->(∃u,iC v u)/\SlOk c H h t v
 |[],us,e=>⟨[],by rw[show us=[] from e];exact .nil,rfl,λi t v e=>by simp at e⟩
 |t::ts,us,⟨u,r,e,d,en⟩=>by
  obtain⟨vs,rv,hl,hd⟩:=Ent.vs en
  have one:∃v,iC v u/\SlOk c H h t v:=by
   cases t with
   |val p=>obtain⟨v,ru,k⟩:=D1.v d;exact⟨v,ru,k⟩
   |own ps=>obtain⟨a,rfl,k⟩:=d;exact⟨.ref a,rfl,k⟩
   |dic ks ps=>obtain⟨a,rfl,k⟩:=d;exact⟨.ref a,rfl,k⟩
  obtain⟨v,ru,k⟩:=one
  subst e
  refine⟨v::vs,.cons ru rv,by simp[hl],λi t' v' e1 e2=>?_⟩
  cases i with
  |zero=>cases e1;cases e2;exact⟨⟨u,ru⟩,k⟩
  |succ i=>exact hd i t' v' (by simpa using e1) (by simpa using e2)
theorem zD {n:Nat}{ts:List Sl}{i:Nat}{t:Sl}(e:(Bj n ts)[i]?=some (some t)):ts[i]?=some t:=by
 unfold Bj at e
 by_cases hi:i<ts.length
 ·rw[a2b (by simpa using hi),a0q] at e
  cases w:ts[i]? with
  |none=>rw[w] at e;cases e
  |some p=>rw[w] at e;cases e;rfl
 ·rw[a1y (by simpa using hi),a2v] at e
  split at e<;>cases e
theorem y9 {P:Program}{w:World}{K:PySem.W.Frag}{mg:Str->Option Value}{base:Heap}{cm:Bool}{f:Addr}{name qual:Str}{params:Arguments}{body:List Stmt}{scope:Scope}{dV kV doc pm cdv ct oc:Value}{an od:Option Addr}
  {osl:Array (Option Value)} {N ps:List Str} {g:FS} (lk:K.lookup f=some ⟨oc,od,.func (PySem.W.fnOf name qual params body scope dV kV doc pm an cdv ct),osl⟩) (hcd:PySem.W.codeIn K cdv qual=true) (S:FnScope N ps scope)
  {A:Around} {outer:List Env} {s:Shared} {args:Args} {us:List Value} {ts:List Sl} {bad:Addr->Prop} {H:Hp} (hc:cm=true->A.handled=none) (hr:A.depth<recursionLimit) (e0:Env0 P w K mg base A outer s H) (hb:BindsTo s (PySem.W.fnOf name qual params body scope dV kV doc pm an cdv ct) args (ps.zip us))
  (hfr:∀b∈qr outer,bad b) (hth:∀b,bad b->∃o,s.heap.get? b=some o) (hbs:∀b o,base.get? b=some o->¬bad b) (hl:ts.length=ps.length) (en:Ent ⟨j0 bad H,P,w,mg⟩ H s.heap ts us)
  (ho:∀(i:Nat) t,ts[i]?=some t->cw t=true->i=0) (hH:∀b o,H b=some o->o=aW/\¬bad b/\us[0]?=some (.ref b)/\∃ob,s.heap.get? b=some ob/\ob.cls≠.type "tuple")
  (hbody:Bo (KY P w K mg base cm N qual scope f cdv A outer s H) body g) {pr:PR} {ρ':ao} (hres:(g (Bj N.length ts)).res2=some (pr,ρ')) {R:Result->Shared->Prop}
  (hR:∀(bad':Addr->Prop) σ' H' u s',(∀b,bad b->bad' b)->(⟨bad',[],σ',H',ρ'⟩:Z (KY P w K mg base cm N qual scope f cdv A outer s H)).ok s'->(match pr with
   |.v p=>D ⟨j0 bad' H',P,w,mg⟩ s'.heap p u
   |.n ps=>∃a,u=.ref a/\s.heap.get? a=none/\ListAt ⟨j0 bad' (eE H' a aW),P,w,mg⟩ s'.heap a ps)->R (.ok (.ret u)) s'):codeAny (model P w) A (.call (.ref f) args) R s:=by
 obtain⟨vs,rv,hv,dv⟩:=en.vs
 have KX:K.In s.heap:=e0.mod.kin.keeps λb o e=>(e0.bs b o e).1
 have lim:s.heap.NoLimit:=e0.mod.nolimit.keeps λb o e=>(e0.bs b o e).1
 have hkind:∀y∈ps.zip us,scope.names.lookup y.1=some .local\/(scope.names.lookup y.1=some .cell/\((cellsFrom (s.heap.objs.size+1) scope.names []).lookup y.1).isSome=true):=λ⟨n,v⟩ hy=>by
  rcases S.par n (a5e hy).1 with q|q
  ·exact .inl q
  ·exact .inr ⟨q,PySem.W.cellsFrom_some _ _ _ (.inl q)⟩
 refine codeAny_call_function hr (KX _ _ lk) rfl S.co S.gen rfl (PySem.W.codeRec_of KX hcd) (hb _ _ _ _ ?_)
 refine wpAny_newFunctionEnv_cells S.kind hkind λenv he s1 x=>?_
 subst he
 refine⟨lim.keeps x.toInCall.keep,codeAny_func ?_⟩
 have I:=wR (cm:=cm) (f:=f) (cd:=cdv) (qual:=qual) S hc e0 (by rw[hv,hl]) rv x
 let X:=KY P w K mg base cm N qual scope f cdv A outer s H
 obtain⟨h1,tk,es1,hk⟩:=x.done
 let bad':Addr->Prop:=λa=>bad a\/s.heap.get? a=none/\∃o,s1.heap.get? a=some o
 have npl:ps.length<=N.length:=by have:=congrArg List.length S.pre;rw[a2z] at this;omega
 let z:Z X:=⟨bad',[],L2.iB N vs,H,Bj N.length ts⟩
 have own0':∀{i a},bx (L2.iB N vs) (Bj N.length ts) i a->i=0/\H a=some aW:=λ{i a} ⟨⟨t,e,o⟩,q⟩=>by
  have e1:=zD e
  have h0:=ho i t e1 o
  have hi:i<vs.length:=by rw[hv];exact (a0j.mp e1).1
  obtain⟨_,d⟩:=dv i t vs[i] e1 (a0f hi)
  unfold L2.iB at q
  rw[a2b (by simpa using hi),a0q,a0f hi] at q
  have q':vs[i]=.ref a:=Option.some.inj (Option.some.inj q)
  rw[q'] at d
  cases t with
  |val p=>cases o
  |own ps=>obtain⟨b,e,r,_⟩:=d;cases e;exact⟨h0,r⟩
  |dic ks ps=>obtain⟨b,e,r,_⟩:=d;cases e;exact⟨h0,r⟩
 have nH:∀b o,H b=some o->¬bad' b:=λb o e y=>y.elim (hH b o e).2.1 λy=>by
  obtain⟨_,_,_,ob,q,_⟩:=hH b o e
  rw[y.1] at q;cases q
 have kp:Kp ⟨j0 bad H,P,w,mg⟩ (bC X bad' H) s.heap s1.heap:=⟨rfl,rfl,rfl,λa o q e=>by
  rw[es1]
  exact⟨⟨q.1,λw=>w.elim q.2 λw=>by rw[w.1] at e;cases e⟩,hk a o e⟩⟩
 have hz:z.ok s1:=by
  refine⟨I,?_,λi t e=>?_,λi j a o1 o2=>(own0' o1).1.trans (own0' o2).1.symm,λi a o=>⟨nH a _ (own0' o).2,.inr λy=>?_⟩,λb o e=>(hH b o e).1,λb o e=>(hH b o e).1,?_,λy c e=>?_,λb hb=>(Or.inl (hfr b hb):bad b\/_),λb hb=>absurd (show b∈([]:List Addr) from hb) (by simp),λb hb=>?_,λb o e hb=>?_,λa o e=>⟨nH a o e,?_⟩,λ_ a e=>?_⟩
  ·show (L2.iB N vs).length=(Bj N.length ts).length
   unfold L2.iB Bj;simp only[a0t,a0i,a1p];omega
  ·have ep:=zD e
   have hiv:i<vs.length:=by rw[hv];exact (a0j.mp ep).1
   obtain⟨r1,r2⟩:=dv i t vs[i] ep (a0f hiv)
   refine⟨vs[i],?_,r1,SlOk.mono (c:=⟨j0 bad H,P,w,mg⟩) (c':=bC X bad' H) kp (λa o _ e=>by rw[es1];exact hk a o e) r2⟩
   show (L2.iB N vs)[i]?=_
   unfold L2.iB
   rw[a2b (by simpa using hiv),a0q,a0f hiv];rfl
  ·have y':H a=none:=y
   rw[(own0' o).2] at y';cases y'
  ·refine Or.inr ⟨Heap.get?_none_of_le (a0n _),?_⟩
   obtain⟨o,_,_,e,_⟩:=x.toInCall.ns
   exact⟨o,e⟩
  ·refine Or.inr ⟨Heap.get?_none_of_le (a3f (x.above y c (PySem.mem_of_lookup e))),?_⟩
   obtain⟨o,e,_⟩:=x.cell y c e
   exact⟨o,e⟩
  ·rcases hb with hb|hb
   ·obtain⟨o,e⟩:=hth b hb
    exact⟨o,by rw[es1];exact hk b o e⟩
   ·exact hb.2
  ·rcases hb with hb|hb
   ·exact hbs b o e hb
   ·have e':base.get? b=some o:=e
    rw[(e0.bs b o e').1] at hb;cases hb.1
  ·obtain⟨_,_,_,ob,q1,q2⟩:=hH a o e
   exact⟨ob,by rw[es1];exact hk a ob q1,q2⟩
  ·have e':H a≠none:=e
   cases q:H a with
   |none=>exact absurd q e'
   |some o=>
    obtain⟨_,_,q0,_⟩:=hH a o q
    obtain⟨u,ru,hu⟩:∃v,vs[0]?=some v/\v=.ref a:=by
     have:=rv.length
     cases rv with
     |nil=>simp at q0
     |cons r rr=>
      simp at q0;subst q0
      refine⟨_,rfl,?_⟩
      exact EO r
    subst hu
    show (L2.iB N vs)[0]?=_
    have hi:0<vs.length:=(a0j.mp ru).1
    unfold L2.iB
    rw[a2b (by simpa using hi),a0q,ru];rfl
 have hnb:g z.ρ≠.bad:=λq'=>by
  rw[show g (Bj N.length ts)=.bad from q'] at hres;cases hres
 refine wpAny_mono (hbody z s1 (λ_ _=>False) hz hnb) (λfl s' hs=>?_) λe s' hs=>hs.elim
 have hs:z.sp s1 (g (Bj N.length ts)) fl s':=hs
 generalize g (Bj N.length ts)=o at hs hres
 cases o with
 |nx ρ=>cases hres;obtain⟨e,σ',H',ok,t⟩:=hs;subst e;exact hR bad' σ' H' .none s' (λb=>.inl) ok rfl
 |rt p ρ=>cases hres;obtain⟨u,σ',H',e,ok,t,d⟩:=hs;subst e;exact hR bad' σ' H' u s' (λb=>.inl) ok d
 |rn ps' ρ=>cases hres;obtain⟨a,σ',H',e,ok,t,n,nb,l⟩:=hs;subst e;exact hR bad' σ' H' _ s' (λb=>.inl) ok ⟨a,rfl,n,l⟩
 |bk ρ=>cases hres
 |ct ρ=>cases hres
 |bad=>cases hres
theorem pK {c:Cn}{H:Hp}{h:Heap}:∀{qs:List PV} {us:List Value},Ds c h qs us->Ent c H h (qs.map Sl.val) us
 |[],_,e=>e
 |_::_,_,⟨u,r,e,d,t⟩=>⟨u,r,e,d,pK t⟩
theorem Hh {n:Nat}{qs:List PV}:Jz n qs=Bj n (qs.map Sl.val):=by unfold Jz Bj;rw[a1d,a0i];rfl
theorem El {o:Out}{r:PR}(h:o.res=some r):∃ρ,o.res2=some (r,ρ):=by
 cases o<;>cases h<;>exact⟨_,rfl⟩
theorem Ou {P:Program}{w:World}{K:PySem.W.Frag}{mg:Str->Option Value}{base:Heap}{cm:Bool}{k:Nat}{f:Addr}{name qual:Str}{params:Arguments}{body:List Stmt}{scope:Scope}{dV kV doc pm cdv ct oc:Value}{an od:Option Addr}
  {osl:Array (Option Value)} {N ps:List Str} {g:FS} (lk:K.lookup f=some ⟨oc,od,.func (PySem.W.fnOf name qual params body scope dV kV doc pm an cdv ct),osl⟩) (hcd:PySem.W.codeIn K cdv qual=true) (S:FnScope N ps scope)
  (hbody:∀(A:Around) (outer:List Env) (s:Shared),(cm=true->A.handled=none)->Rm k (A.deeper (envOfC qual scope s.heap.objs.size f cdv))->Bo (KY P w K mg base cm N qual scope f cdv A outer s h0) body g) :
  NF P w K mg base cm (k+1) f (PySem.W.fnOf name qual params body scope dV kV doc pm an cdv ct) ps (run ps.length N.length g):=by
 refine⟨λqs r q=>?_,λA outer s args us qs r bad hc hr e0 hb hfr hth hbs ds q=>?_⟩
 ·unfold run at q;split at q
  ·assumption
  ·cases q
 ·unfold run at q
  split at q
  ·next hl=>
   obtain⟨ρ',q2⟩:=El q
   rw[Hh] at q2
   refine y9 (H:=h0) (ts:=qs.map .val) lk hcd S hc hr.depth e0 hb hfr hth hbs (by rw[a0i];exact hl) (pK ds) (λi t e o=>?_) (λb o e=>by cases e) (hbody A outer s hc (hr.deeper _)) q2 λbad' σ' H' u s' hb' ok d=>?_
   ·rw[a0q] at e
    obtain⟨p,_,rfl⟩:=a0d.mp e
    cases o
   ·have b:=ok.I.base
    refine⟨u,rfl,ok.I.os,ok.I.bare,⟨b.keep,b.slot,λb o _ n _=>rfl,b.there,λb xs e=>(by cases e),λb o u e=>(by cases e),λb ps e=>(by cases e)⟩,?_⟩
    cases r with
    |v p=>exact D1.m (c:=⟨j0 bad' H',P,w,mg⟩) (c':=⟨j0 bad h0,P,w,mg⟩) d ⟨rfl,rfl,rfl,λa o q e=>⟨⟨rfl,λw=>q.2 (hb' a w)⟩,e⟩⟩
    |n ps'=>
     obtain⟨a,rfl,n,l⟩:=d
     refine⟨a,rfl,n,ListAt.mono (c:=⟨j0 bad' (eE H' a aW),P,w,mg⟩) (c':=⟨j0 bad (eE h0 a aW),P,w,mg⟩) ⟨rfl,rfl,rfl,λb o q e=>⟨⟨?_,λw=>q.2 (hb' b w)⟩,e⟩⟩ (λ_ e=>e) l⟩
     have q1:=q.1
     by_cases hb:b=a
     ·subst hb;rw[bV] at q1;cases q1
     ·rw[aX hb]
  ·cases q
section
variable {X:Cx}{e:Expr}{es:List Expr}{fs:FA}{pos:Pos}
mutual
noncomputable def tf:PV->Bool
 |.tup ps=>GA ps
 |p=>ja p
noncomputable def GA:List PV->Bool
 |[]=>true
 |p::ps=>tf p&&GA ps
end
noncomputable def P3:PR->Bool
 |.v p=>tf p
 |.n ps=>GA ps
noncomputable def tP:PR->RV
 |.v p=>.fz p
 |.n ps=>.nw ps
noncomputable def qz (F:Fn)(o:Option (List PV))(rs:List RV):Option RV:=match o with
 |some ps=>(F ps).map tP
 |none=>(F (rs.map RV.pv)).bind λr=>if P3 r=true then some (tP r) else none
noncomputable def aq (F:Fn)(fs:FA):FE:=λρ=>(fs ρ).bind λrs=>qz F (rs.mapM RV.fr) rs
noncomputable def B8 (F:Fn):FE:=λ_=>(F []).map tP
theorem Py {H:Hp}{fs:List Addr}{h h':Heap}(u:Un fs [] h0 h0 h h')(ho:∀b o,H b=some o->o=aW):Un fs [] H H h h':=
 ⟨λb o e _ f x=>u.keep b o e rfl f x,λb o e _ f x=>u.slot b o e rfl f x,λ_ _ _ n _=>n,u.there,λ_ _ e=>e,λ_ _ _ e=>e,λb ps e=>⟨#[],by rw[e];simp⟩⟩
theorem Iw {P:Program}{w:World}{mg:Str->Option Value}{ok:Addr->Prop}{ok':Addr->Prop}{h:Heap}(k:∀a o,ok a->h.get? a=some o->o.cls=.type "tuple"->ok' a):(∀{p:PV} {u:Value},tf p=true->D ⟨ok,P,w,mg⟩ h p u->D ⟨ok',P,w,mg⟩ h p u)/\∀{ps:List PV} {us:List Value},GA ps=true->Ds ⟨ok,P,w,mg⟩ h ps us->Ds ⟨ok',P,w,mg⟩ h ps us:=by
 have a:(∀(p:PV),∀{u:Value},tf p=true->D ⟨ok,P,w,mg⟩ h p u->D ⟨ok',P,w,mg⟩ h p u):=λp=>by
  induction p using PV.rec (motive_2:=λps=>∀{us:List Value},GA ps=true->Ds ⟨ok,P,w,mg⟩ h ps us->Ds ⟨ok',P,w,mg⟩ h ps us) with
  |tup ps ih=>
   intro u t d
   obtain⟨a,its,rfl,o,⟨ob,e,c,r⟩,l,ds⟩:=d
   exact⟨a,its,rfl,k a ob o e c,⟨ob,e,c,r⟩,l,ih t ds⟩
  |nil=>assumption
  |cons p ps ihp ihs=>
   rename_i us t d
   obtain⟨u,r,e,d1,d2⟩:=d
   rw[GA,a0b] at t
   exact⟨u,r,e,ihp t.1 d1,ihs t.2 d2⟩
  |non=>intro u _ d;exact d
  |bl=>intro u _ d;exact d
  |int=>intro u _ d;exact d
  |str=>intro u _ d;exact d
  |ty=>intro u _ d;exact d
  |fn=>intro u _ d;exact d
  |_=>intro u t;cases t
 refine⟨λ{p u} t d=>a p t d,λ{ps}=>?_⟩
 induction ps with
 |nil=>intro us _ d;exact d
 |cons p ps ih=>
  intro us t d
  obtain⟨u,r,e,d1,d2⟩:=d
  rw[GA,a0b] at t
  exact⟨u,r,e,a p t.1 d1,ih t.2 d2⟩
theorem Z.ok.after {z:Z X}{s s':Shared}(hz:z.ok s)(os:s'.os=s.os)(g:AllBare s'.gens)(u:Un (qr X.stack) [] h0 h0 s.heap s'.heap):z.go s s':=by
 have hfr:∀b∈qr X.stack,z.bad b:=λb hb=>by
  rcases a0s.mp (hz.I.stkSub b hb) with e|e
  ·rw[e];exact hz.loc
  ·exact hz.fs b e
 have hok:HOk X.prog X.w z.H s'.heap:=λb o e=>by
  have e2:=hz.oh b o e
  subst e2
  obtain⟨ob,q⟩:=hz.stands e
  obtain⟨o',q'⟩:=u.there b ob q (by simp)
  exact⟨trivial,⟨o',q'⟩,λ_ _ _ _=>trivial⟩
 exact Z.ok.ext hz (hz.I.call' os (Py u hz.oh) hok g (λb z=>absurd z (by simp))) ⟨λa o n e=>u.keep a o e rfl (λq=>n (hfr a q)) (by simp),λa o e=>u.there a o e (by simp)⟩
theorem DZ {cm:Bool}{k:Nat}{f:Addr}{fd:FuncData}{ps:List Str}{F:Fn}(n:NF X.prog X.w X.K X.mg X.base cm k f fd ps F)(hc:cm=true->X.calm=true)(hr:Rm k X.A)(hb:Binds X.K fd ps []){z:Z X}{s:Shared}(hz:z.ok s){bad:Addr->Prop}(hbd:∀a,z.bad a->bad a)(hbd2:∀a,bad a->z.bad a\/z.H a≠none){us:List Value}{qs:List PV}{r:PR}
  (ds:Ds ⟨j0 bad h0,X.prog,X.w,X.mg⟩ s.heap qs us) (q:F qs=some r) {Q:Value->Shared->Prop} {E:Value->Shared->Prop} (h:∀u s',z.go s s'->(match r with
  |.v p=>D ⟨j0 bad h0,X.prog,X.w,X.mg⟩ s'.heap p u
  |.n ps=>∃a,u=.ref a/\s.heap.get? a=none/\ListAt ⟨j0 bad (eE h0 a aW),X.prog,X.w,X.mg⟩ s'.heap a ps)->Q u s'):W X (call (.ref f) us) Q E s:=by
 have e0:=hz.I.env0
 have e1:Env0 X.prog X.w X.K X.mg X.base X.A X.stack s h0:=⟨e0.frames,e0.mod,λb o e=>⟨(e0.bs b o e).1,rfl⟩,e0.bsz,e0.funs,λ_ _=>rfl,(λb o e=>by cases e),e0.bare⟩
 have hl:(us++[]).length=ps.length:=by rw[a1s,ds.length];exact n.len _ _ q
 have hfr:∀b∈qr X.stack,z.bad b:=λb hb=>by
  rcases a0s.mp (hz.I.stkSub b hb) with e|e
  ·rw[e];exact hz.loc
  ·exact hz.fs b e
 refine wpAny_call (codeAny_mono (n.run X.A X.stack s ⟨us,[]⟩ us qs r bad (λc=>hz.I.ok.hd (hc c)) hr e1 (by have:=hb s us hz.I.kIn hl;rwa [a1s] at this) (λb q=>hbd b (hfr b q)) (λb q=>?_) (λb o e q=>?_) ds q) λres s' hq=>?_)
 ·rcases hbd2 b q with w|w
  ·exact hz.there b w
  ·cases e:z.H b with
   |none=>exact absurd e w
   |some o=>exact hz.stands e
 ·rcases hbd2 b q with w|w
  ·exact hz.bs b o e w
  ·exact w (hz.I.bs b o e).2
 ·obtain⟨u,rfl,os,bare,un,w⟩:=hq
  exact h u s' (Z.ok.after hz os bare un) w
theorem xM {cm:Bool}{k:Nat}{f:Addr}{fd:FuncData}{ps:List Str}{F:Fn}(n:NF X.prog X.w X.K X.mg X.base cm k f fd ps F)(hc:cm=true->X.calm=true)(hr:Rm k X.A)(hb:Binds X.K fd ps []){z:Z X}{s:Shared}{h00:Heap}(hz:z.ok s){us:List Value}{rs:List RV}{r:RV}{E:Value->Shared->Prop}(ds:RvsOk z h00 s.heap rs us)(q:qz F (rs.mapM RV.fr) rs=some r):W X (call (.ref f) us) (Z.post z s r) E s:=by
 cases em:rs.mapM RV.fr with
 |some qs=>
  rw[em] at q
  obtain⟨pr,e,rfl⟩:=a0d.mp q
  refine DZ n hc hr hb hz (bad:=λa=>z.bad a\/z.H a≠none) (λa h=>.inl h) (λa h=>h) (Ds.mono (c:=z.cn) (c':=⟨j0 (λa=>z.bad a\/z.H a≠none) h0,X.prog,X.w,X.mg⟩) ⟨rfl,rfl,rfl,λa o q e=>⟨⟨rfl,λw=>w.elim q.2 λw=>w q.1⟩,e⟩⟩ (ds.fr em)) e λu s' g d=>⟨g,?_⟩
  have ok:∀{a:Addr},¬(z.bad a\/z.H a≠none)->j0 z.bad z.H a:=λ{a} w=>⟨by
   cases e:z.H a with
   |none=>rfl
   |some o=>exact absurd (.inr (by rw[e];simp)) w,λb=>w (.inl b)⟩
  cases pr with
  |v p=>exact D1.m (c:=⟨j0 (λa=>z.bad a\/z.H a≠none) h0,X.prog,X.w,X.mg⟩) (c':=z.cn) d ⟨rfl,rfl,rfl,λa o q e=>⟨ok q.2,e⟩⟩
  |n ps=>
   obtain⟨a,rfl,n,l⟩:=d
   refine⟨a,rfl,n,hz.free n,ListAt.mono (c:=⟨j0 (λa=>z.bad a\/z.H a≠none) (eE h0 a aW),X.prog,X.w,X.mg⟩) (c':=bC X z.bad (eE z.H a aW)) ⟨rfl,rfl,rfl,λb o q e=>⟨⟨?_,(ok q.2).2⟩,e⟩⟩ (λ_ e=>e) l⟩
   have q1:=q.1
   by_cases hb:b=a
   ·subst hb;rw[bV] at q1;cases q1
   ·rw[aX hb];exact (ok q.2).1
 |none=>
  rw[em] at q
  obtain⟨pr,e,q⟩:=a0a.mp q
  split at q
  ·next ht=>
   cases q
   have dd:Ds ⟨j0 z.bad h0,X.prog,X.w,X.mg⟩ s.heap (rs.map RV.pv) us:=by
    clear em e q
    induction ds with
    |nil=>rfl
    |cons d _ ih=>
     refine .cons ?_ ih
     have v:=d.rv
     cases hl:KK (RV.pv _) with
     |false=>exact D1.m (c:=z.cn) (c':=⟨j0 z.bad h0,X.prog,X.w,X.mg⟩) (v.fz hl) ⟨rfl,rfl,rfl,λa o q e=>⟨⟨rfl,q.2⟩,e⟩⟩
     |true=>
      refine D1.mono (top:=λa=>¬z.bad a) (c:=z.cn) (c':=⟨j0 z.bad h0,X.prog,X.w,X.mg⟩) ⟨rfl,rfl,rfl,λa o q e=>⟨⟨rfl,q.2⟩,e⟩⟩ (λa o q e=>⟨⟨rfl,q⟩,e⟩) ?_
      generalize RV.pv _=p at v hl
      cases p with
      |lst ps=>obtain⟨a,its,n,e1,_,r⟩:=v.rd;exact⟨a,its,n,e1,v.nb rfl a e1,r⟩
      |dct ks ps=>obtain⟨a,its,e1,_,r⟩:=v.rd;exact⟨a,its,e1,v.nb rfl a e1,r⟩
      |_=>cases hl
   refine DZ n hc hr hb hz (bad:=z.bad) (λa h=>h) (λa h=>.inl h) dd e λu s' g d=>⟨g,?_⟩
   have ok:∀a o,¬z.bad a->s'.heap.get? a=some o->o.cls=.type "tuple"->z.H a=none:=λa o w e c=>by
    cases q:z.H a with
    |none=>rfl
    |some o'=>
     obtain⟨ob,r1,r2⟩:=(g.1.ot a o' q).2
     rw[e] at r1;cases r1
     exact absurd c r2
   cases pr with
   |v p=>exact (Iw λa o q e c=>⟨ok a o q.2 e c,q.2⟩).1 ht d
   |n ps=>
    obtain⟨a,rfl,n,its,m,e1,l,t⟩:=d
    refine⟨a,rfl,n,hz.free n,its,m,e1,l,(Iw λb o q e c=>⟨?_,q.2⟩).2 ht t⟩
    have q1:=q.1
    by_cases hb:b=a
    ·subst hb;rw[bV] at q1;cases q1
    ·rw[aX hb];exact ok b o q.2 e c
  ·cases q
structure DefN (P:Program)(w:World)(K:PySem.W.Frag)(mg:Str->Option Value)(base:Heap)(cm:Bool)(k:Nat)(x:Str)(F:Fn):Prop where
 ex:∃f fd ps,NF P w K mg base cm k f fd ps F/\Binds K fd ps []/\PySem.W.keepIn K (.ref f)=true/\mg x=some (.ref f)
theorem J5 {cm:Bool}{k j:Nat}{x:Str}{p:Pos}{F:Fn}(n:DefN X.prog X.w X.K X.mg X.base cm j x F)(hj:j<=k)(hc:cm=true->X.calm=true)(hr:Rm k X.A)(hg:Gl X x)(ha:NA X (e::es) fs)(hdb:(x==("__debug__" : Str))=false)
  (he:starEach (e::es) X.env=(false,eval e X.env)::starEach es X.env) (hpl:(backTo pos (starEach es X.env)).any (·.1)=false):NE X (.Call (.Name x p) (e::es) [] pos) (aq F fs):=λz s r E hz q=>by
 obtain⟨f,fd,ps,n,hb,hk,hm⟩:=n.ex
 obtain⟨rs,er,q⟩:=a0a.mp q
 refine wpAny_Call_Name_kw (ph hz.I hg hm ?_ hdb)
 refine PySem.W.callWith_K (h₀:=X.base) hz.I.ok.mod.kin hk (aY (ha z pos s rs E hz er) λus s1 ⟨g1,d1⟩=>⟨g1.1.I.kIn,?_⟩) he hpl
 exact aY (xM (n.mono hj) hc hr hb g1.1 d1 q) λu s2 q2=>g1.post q2
theorem F5 {cm:Bool}{k j:Nat}{x:Str}{p:Pos}{F:Fn}(n:DefN X.prog X.w X.K X.mg X.base cm j x F)(hj:j<=k)(hc:cm=true->X.calm=true)(hr:Rm k X.A)(hg:Gl X x)(hdb:(x==("__debug__" : Str))=false):NE X (.Call (.Name x p) [] [] pos) (B8 F):=λz s r E hz q=>by
 obtain⟨f,fd,ps,n,hb,hk,hm⟩:=n.ex
 obtain⟨pr,er,rfl⟩:=a0d.mp q
 refine wpAny_Call_Name_kw (ph hz.I hg hm ?_ hdb)
 exact PySem.W.callWith_K0 hz.I.kIn hk (xM (rs:=[]) (h00:=s.heap) (us:=[]) (n.mono hj) hc hr hb hz .nil (show (F []).map tP=_ by rw[er];rfl))
structure Nm (X:Cx)(i:Nat)(x:Str):Prop where
 nd:X.N.Nodup
 ix:X.N[i]?=some x
 loc:QS X.env.scope x
 fn:X.fn x=true\/X.env.scope.names.lookup x=some .local
 an:X.fn "" = true->(∃a,X.H₀ a≠none)->i≠0
theorem iS {σ:L2.St}{ρ:ao}{i j:Nat}{a:Addr}{v:V}{p:PV}(o:bx (σ.set i (some v)) (ρ.set i (some (.val p))) j a):bx σ ρ j a:=by
 obtain⟨⟨t,e,ot⟩,q⟩:=o
 by_cases hj:i=j
 ·subst hj
  rw[a2d] at e
  simp only[if_true] at e
  split at e
  ·cases e;cases ot
  ·cases e
 ·rw[a0k hj] at e q
  exact⟨⟨t,e,ot⟩,q⟩
noncomputable def Z.tv (z:Z X)(s:Shared)(ρ:ao)(s':Shared):Prop:=∃σ',(z.wi σ' z.H ρ).ok s'/\Ext z.bad s.heap s'.heap
theorem Z.tv.to {z:Z X}{s s':Shared}{ρ:ao}:z.tv s ρ s'->z.to s ρ s'
 |⟨σ',ok,e⟩=>⟨σ',z.H,ok,e.stp⟩
theorem Z.ok.stored {z:Z X}{s s':Shared}(hz:z.ok s){i:Nat}(an:X.fn "" = true->(∃a,X.H₀ a≠none)->i≠0){p:PV}{u:Value}{v:V}(hi:i<z.σ.length)(d:D z.cn s.heap p u)(ru:iC v u)(rv:∀u',iC v u'->D z.cn s.heap p u')(I':Inv X z.pins (z.σ.set i (some v)) z.H s')(e:Ext z.bad s.heap s'.heap):z.tv s (z.ρ.set i (some (.val p))) s':=by
 have hi2:i<z.ρ.length:=by rw[←hz.len];exact hi
 refine⟨z.σ.set i (some v),⟨I',by simp[hz.len],λj t q=>?_,λj k a o1 o2=>hz.dj j k a (iS o1) (iS o2),λj a o=>hz.nb j a (iS o),hz.oh,hz.oh0,hz.loc,hz.cel,hz.fs,hz.ex,λb q=>let ⟨o,r⟩:=hz.there b q;e.th b o r,hz.bs,λa o q=>⟨(hz.ot a o q).1,let ⟨ob,r1,r2⟩:=(hz.ot a o q).2;⟨ob,e.kp a ob (hz.ot a o q).1 r1,r2⟩⟩,λhf a ha=>(a0k (an hf ⟨a,ha⟩)).trans (hz.anc hf a ha)⟩,e⟩
 by_cases hj:i=j
 ·subst hj
  have q:(z.ρ.set i (some (.val p)))[i]?=some (some t):=q
  rw[a0y hi2] at q
  cases q
  exact⟨v,a0y hi,⟨u,ru⟩,λu' r=>(rv u' r).m e.kpD⟩
 ·have q:(z.ρ.set i (some (.val p)))[j]?=some (some t):=q
  rw[a0k hj] at q
  obtain⟨w,e1,r,d⟩:=hz.slk j t q
  exact⟨w,by rw[show (z.wi (z.σ.set i (some v)) z.H (z.ρ.set i (some (.val p)))).σ=z.σ.set i (some v) from rfl,a0k hj];exact e1,r,d.step hz e q e1⟩
theorem kD {z:Z X}{s s':Shared}{x:Str}{a:Addr}(hz:z.ok s){σ':L2.St}{H':Hp}(I':Inv X z.pins σ' H' s')(sb:Heap.SameBut a s.heap s'.heap)(ha:a=X.env.locals\/X.env.cells.lookup x=some a):Ext z.bad s.heap s'.heap:=by
 have hb:z.bad a:=by
  rcases ha with e|e
  ·rw[e];exact hz.loc
  ·exact hz.cel x a e
 refine⟨λb o n e=>(sb.2 b (λq=>n (q▸hb))).trans e,λb o e=>?_⟩
 by_cases hba:b=a
 ·subst hba
  rcases ha with q|q
  ·obtain⟨m,⟨o',_,_,e',_⟩,_⟩:=I'.loc;exact⟨o',by rw[q];exact e'⟩
  ·obtain⟨v,o',e',_⟩:=I'.cell x b q;exact⟨o',e'⟩
 ·exact⟨o,(sb.2 b hba).trans e⟩
theorem gD {z:Z X}{s:Shared}(hz:z.ok s){i:Nat}{x:Str}(nm:Nm X i x){p:PV}{u:Value}(d:D z.cn s.heap p u){E:Value->Shared->Prop} :
  W X (storeName X.env x u) (λ_ s'=>z.tv s (z.ρ.set i (some (.val p))) s') E s:=by
 obtain⟨v,ru,rv⟩:=d.v
 refine jo hz.I nm.nd nm.ix nm.loc ru (λs' I' ⟨a,sb,ha⟩=>?_) nm.fn
 exact Z.ok.stored hz nm.an (by rw[hz.I.len];exact (a0j.mp nm.ix).1) d ru rv I' (kD hz I' sb ha)
theorem Inv.track {pins:List (Addr×Obj)}{σ:L2.St}{H:Hp}{s:Shared}{a:Addr}{ob:Obj}(I:Inv X pins σ H s)(hn:H a=none)(ho:s.heap.get? a=some ob)(h00:X.s₀.heap.get? a=none)(hL:a≠X.env.locals)(hC:∀x c,X.env.cells.lookup x=some c->c≠a)(hp:∀p∈X.pn++pins,p.1≠a):Inv X pins σ (eE H a aW) s:=by
 have ne:∀b o,H b=some o->b≠a:=λb o e z=>by subst z;rw[hn] at e;cases e
 refine⟨I.ok,I.os,I.bare,⟨I.base.keep,I.base.slot,λb o e n hx=>?_,I.base.there,λb xs e=>?_,λb o u e=>?_,λb ps e=>?_⟩,I.loc,I.cell,?_,λx c e=>?_,λp q=>?_,λb o e=>?_,I.len⟩
 ·rw[aX (λz=>by subst z;rw[h00] at e;cases e)];exact I.base.free b o e n hx
 ·have:=I.base.tups b xs e;rw[aX (ne b _ this)];exact this
 ·have:=I.base.frzs b o u e;rw[aX (ne b _ this)];exact this
 ·obtain⟨m,this⟩:=I.base.tbls b ps e;exact⟨m,by rw[aX (ne b _ this)];exact this⟩
 ·rw[aX (Ne.symm hL)];exact I.free
 ·rw[aX (hC x c e)];exact I.freeC x c e
 ·obtain⟨q1,q2,q3⟩:=I.pin p q;exact⟨q1,by rw[aX (hp p q)];exact q2,q3⟩
 ·by_cases hb:b=a
  ·subst hb;rw[bV] at e;cases e;exact⟨trivial,⟨ob,ho⟩,λ_ _ _ _=>trivial⟩
  ·rw[aX hb] at e
   exact (I.hok b o e).stay (λ_ _ _ q=>q) (λc q=>by rw[aX (ne c _ q)];exact q) λc xs q=>by rw[aX (ne c _ q)];exact q
noncomputable def qS (H:Hp)(a:Addr):Hp:=λb=>if b=a then none else H b
theorem iA {H:Hp}{a:Addr}:qS H a a=none:=by unfold qS;rw[if_pos rfl]
theorem eZ {H:Hp}{a b:Addr}(h:b≠a):qS H a b=H b:=by unfold qS;rw[if_neg h]
theorem gI {H:Hp}{a b:Addr}(h:H b=none):qS H a b=none:=by unfold qS;split<;>trivial
theorem Inv.untrack {pins:List (Addr×Obj)}{σ:L2.St}{H:Hp}{s:Shared}{a:Addr}(I:Inv X pins σ H s)(ha:H a=some aW):Inv X pins σ (qS H a) s:=by
 have ne:∀b o,H b=some o->o≠aW->b≠a:=λb o e n z=>by subst z;rw[ha] at e;cases e;exact n rfl
 refine⟨I.ok,I.os,I.bare,⟨I.base.keep,I.base.slot,λb o e n hx=>gI (I.base.free b o e n hx),I.base.there,λb xs e=>?_,λb o u e=>?_,λb ps e=>?_⟩,I.loc,I.cell,gI I.free,λx c e=>gI (I.freeC x c e),λp q=>?_,λb o e=>?_,I.len⟩
 ·have:=I.base.tups b xs e;rw[eZ (ne b _ this λq=>nomatch q)];exact this
 ·have:=I.base.frzs b o u e;rw[eZ (ne b _ this λq=>nomatch q)];exact this
 ·obtain⟨m,this⟩:=I.base.tbls b ps e;exact⟨m,by rw[eZ (ne b _ this λq=>nomatch q)];exact this⟩
 ·obtain⟨q1,q2,q3⟩:=I.pin p q;exact⟨q1,gI q2,q3⟩
 ·by_cases hb:b=a
  ·subst hb;rw[iA] at e;cases e
  ·rw[eZ hb] at e
   exact (I.hok b o e).stay (λ_ _ _ q=>q) (λc q=>by rw[eZ (ne c _ q λq=>nomatch q)];exact q) λc xs q=>by rw[eZ (ne c _ q λq=>nomatch q)];exact q
theorem sH {z:Z X}{s1:Shared}(hz:z.ok s1){i:Nat}{x:Str}(nm:Nm X i x){t:Sl}(ht:cw t=true){a:Addr}(fr:j0 z.bad z.H a)(h00:X.s₀.heap.get? a=none)(hp:∀p∈X.pn++z.pins,p.1≠a)
  (nt:∃ob,s1.heap.get? a=some ob/\ob.cls≠.type "tuple") (d:SlOk (bC X z.bad (eE z.H a aW)) (eE z.H a aW) s1.heap t (.ref a)) (sk:∀(j:Nat) t v,z.ρ[j]?=some (some t)->z.σ[j]?=some (some v)->SlOk (bC X z.bad (eE z.H a aW)) z.H s1.heap t v) {E:Value->Shared->Prop} :
  W X (storeName X.env x (.ref a)) (λ_ s'=>∃σ',(z.wi σ' (eE z.H a aW) (z.ρ.set i (some t))).ok s'/\Ext z.bad s1.heap s'.heap) E s1:=by
 obtain⟨ob,ho,hcl⟩:=nt
 have hnb:=fr.2
 have I1:Inv X z.pins z.σ (eE z.H a aW) s1:=Inv.track hz.I fr.1 ho h00 (λq=>hnb (q▸hz.loc)) (λy c e q=>hnb (q▸hz.cel y c e)) hp
 refine jo I1 nm.nd nm.ix nm.loc (v:=.ref a) rfl (λs' I' ⟨b,sb,hb⟩=>?_) nm.fn
 have e:Ext z.bad s1.heap s'.heap:=kD (z:=z) hz I' sb hb
 have hil:i<z.σ.length:=by rw[hz.I.len];exact (a0j.mp nm.ix).1
 have hil2:i<z.ρ.length:=by rw[←hz.len];exact hil
 have hnf:∀j,¬bx z.σ z.ρ j a:=λj o=>by
  obtain⟨⟨t',e1,ot⟩,q⟩:=o
  obtain⟨v,e2,_,d2⟩:=hz.slk j t' e1
  rw[q] at e2;cases e2
  have:z.H a=some aW:=by
   cases t' with
   |val p=>cases ot
   |own ps=>obtain⟨b,e3,h,_⟩:=d2;cases e3;exact h
   |dic ks ps=>obtain⟨b,e3,h,_⟩:=d2;cases e3;exact h
  rw[fr.1] at this;cases this
 have oset:∀{j b},bx (z.σ.set i (some (.ref a))) (z.ρ.set i (some t)) j b->(j=i/\b=a)\/(j≠i/\bx z.σ z.ρ j b):=λ{j b} o=>by
  obtain⟨⟨t',e1,ot⟩,q⟩:=o
  by_cases hj:i=j
  ·subst hj
   rw[a0y hil] at q;cases q
   exact .inl ⟨rfl,rfl⟩
  ·rw[a0k hj] at e1 q
   exact .inr ⟨Ne.symm hj,⟨t',e1,ot⟩,q⟩
 have hne:∀{b},z.H b=some aW->b≠a:=λ{b} hb y=>by subst y;rw[fr.1] at hb;cases hb
 refine⟨z.σ.set i (some (.ref a)),⟨I',by simp[hz.len],λj t' q=>?_,λj k b o1 o2=>?_,λj b o=>?_,λb o q=>?_,hz.oh0,hz.loc,hz.cel,hz.fs,hz.ex,λb q=>let ⟨o,r⟩:=hz.there b q;e.th b o r,hz.bs,λb o q=>?_,λhf b hb=>(a0k (nm.an hf ⟨b,hb⟩)).trans (hz.anc hf b hb)⟩,e⟩
 ·by_cases hj:i=j
  ·subst hj
   have q:(z.ρ.set i (some t))[i]?=some (some t'):=q
   rw[a0y hil2] at q
   cases q
   refine⟨.ref a,a0y hil,⟨.ref a,rfl⟩,?_⟩
   refine SlOk.mono (c:=bC X z.bad (eE z.H a aW)) (c':=bC X z.bad (eE z.H a aW)) e.kpD (λb o hb w=>?_) d
   by_cases hba:b=a
   ·subst hba;exact e.kp b o hnb w
   ·have hb:eE z.H a aW b=some aW:=hb
    rw[aX hba] at hb;exact e.kp b o (hz.ot b _ hb).1 w
  ·have q:(z.ρ.set i (some t))[j]?=some (some t'):=q
   rw[a0k hj] at q
   obtain⟨w,e1,r,_⟩:=hz.slk j t' q
   refine⟨w,by rw[show (z.wi (z.σ.set i (some (.ref a))) (eE z.H a aW) (z.ρ.set i (some t))).σ=z.σ.set i (some (.ref a)) from rfl,a0k hj];exact e1,r,?_⟩
   have d:=SlOk.mono (c':=bC X z.bad (eE z.H a aW)) e.kpD (λb o hb w=>e.kp b o (hz.ot b _ hb).1 w) (sk j t' w q e1)
   cases t' with
   |val p=>exact d
   |own ps=>obtain⟨b,rfl,hb,l⟩:=d;exact⟨b,rfl,(aX (hne hb)).trans hb,l⟩
   |dic ks ps=>obtain⟨b,rfl,hb,l⟩:=d;exact⟨b,rfl,(aX (hne hb)).trans hb,l⟩
 ·rcases oset o1 with ⟨e1,e2⟩|⟨e1,e2⟩<;>rcases oset o2 with ⟨f1,f2⟩|⟨f1,f2⟩
  ·rw[e1,f1]
  ·subst e2;exact absurd f2 (hnf k)
  ·subst f2;exact absurd e2 (hnf j)
  ·exact hz.dj j k b e2 f2
 ·rcases oset o with ⟨e1,e2⟩|⟨e1,e2⟩
  ·subst e2;exact⟨hnb,.inl h00⟩
  ·exact hz.nb j b e2
 ·by_cases hba:b=a
  ·subst hba
   have q:eE z.H b aW b=some o:=q
   rw[bV] at q;cases q;rfl
  ·have q:eE z.H a aW b=some o:=q
   rw[aX hba] at q;exact hz.oh b o q
 ·by_cases hba:b=a
  ·subst hba;exact⟨hnb,ob,e.kp b ob hnb ho,hcl⟩
  ·have q:eE z.H a aW b=some o:=q
   rw[aX hba] at q
   obtain⟨r0,ob',r1,r2⟩:=hz.ot b o q
   exact⟨r0,ob',e.kp b ob' r0 r1,r2⟩
theorem Z.ok.sk {z:Z X}{s:Shared}(hz:z.ok s){bad':Addr->Prop}{h':Heap}{a:Addr}(n:s.heap.get? a=none)(e:Ext z.bad s.heap h')(nb:∀b,bad' b->z.bad b\/s.heap.get? b=none)(j:Nat)(t:Sl)(v:V)(e1:z.ρ[j]?=some (some t))(e2:z.σ[j]?=some (some v)):SlOk (bC X bad' (eE z.H a aW)) z.H h' t v:=by
 obtain⟨w,e3,_,d⟩:=hz.slk j t e1
 rw[e2] at e3;cases e3
 exact SlOk.mono (c:=z.cn) (c':=bC X bad' (eE z.H a aW)) ⟨rfl,rfl,rfl,λb o q g=>⟨⟨by rw[aX (λy=>by subst y;rw[n] at g;cases g)];exact q.1,λy=>(nb b y).elim q.2 λy=>by rw[y] at g;cases g⟩,e.kp b o q.2 g⟩⟩ (λb o hb w=>e.kp b o (hz.ot b _ hb).1 w) d
theorem Stp.new {bad:Addr->Prop}{H:Hp}{h h':Heap}{a:Addr}(e:Ext bad h h')(n:h.get? a=none):Stp bad H (eE H a aW) h h':=
 ⟨λb o nb hn hb=>⟨e.kp b o nb hb,by rw[aX (λy=>by subst y;rw[n] at hb;cases hb)];exact hn⟩,e.th⟩
theorem Cd {z:Z X}{s s1:Shared}(hz:z.ok s)(g:z.go s s1){i:Nat}{x:Str}(nm:Nm X i x){t:Sl}(ht:cw t=true){a:Addr}(n:s.heap.get? a=none)(nt:∃ob,s1.heap.get? a=some ob/\ob.cls≠.type "tuple")(d:SlOk (bC X z.bad (eE z.H a aW)) (eE z.H a aW) s1.heap t (.ref a)){E:Value->Shared->Prop} :
  W X (storeName X.env x (.ref a)) (λ_ s'=>z.to s (z.ρ.set i (some t)) s') E s1:=
 aY (sH g.1 nm ht (hz.free n) (fO hz n) (λp hp q=>by have:=(hz.I.pin p hp).1;rw[q,n] at this;cases this) nt d (hz.sk n g.2 λb=>.inl)) λ_ s' ⟨σ',ok,e⟩=>⟨σ',_,ok,Stp.new (g.2.trans e) n⟩
end
section
variable {X:Cx}{e:Expr}{f:FE}{es:List Expr}{fs:FA}{pos:Pos}{i:Nat}{x:Str}
noncomputable def GU (o:Option PV)(i:Nat)(ρ:ao):Out:=match o with
 |some p=>.nx (ρ.set i (some (.val p)))
 |none=>.bad
noncomputable def bu (i:Nat)(f:FE):FS:=λρ=>GU ((f ρ).bind RV.fr) i ρ
theorem Z.go.tv {z:Z X}{s s1 s2:Shared}{ρ:ao}(g:z.go s s1)(h:z.tv s1 ρ s2):z.tv s ρ s2:=let ⟨σ',ok,e⟩:=h;⟨σ',ok,g.2.trans e⟩
theorem My {p':Pos}(n:Nm X i x)(h:NE X e f)(hs:swapsWith e (some (.Name x p')) pos.line X.env=pure false):NS X (.Assign [.Name x p'] e pos) (bu i f):=λz s E hz hb=>by
 unfold bu GU at hb ⊢
 split at hb
 ·next p ep=>
  obtain⟨r,er,ep⟩:=a0a.mp ep
  exact wpAny_Assign_Name (aY (h z s r E hz er) λu s1 q=>aY (gD q.1.1 n (q.2.fr ep)) λ_ s2 w=>⟨rfl,(q.1.tv w).to⟩) hs
 ·exact absurd rfl hb
noncomputable def Gy (o:Option RV)(i:Nat)(ρ:ao):Out:=match o with
 |some (.fz p)=>.nx (ρ.set i (some (.val p)))
 |some (.nw ps)=>.nx (ρ.set i (some (.own ps)))
 |_=>.bad
noncomputable def jx (i:Nat)(f:FE):FS:=λρ=>Gy (f ρ) i ρ
theorem mw {h:Heap}{a:Addr}{c:Cn}{ps:List PV}:ListAt c h a ps->∃ob,h.get? a=some ob/\ob.cls≠.type "tuple"
 |⟨its,n,e,_⟩=>⟨_,e,by intro q;exact absurd (Value.type.inj q) (by decide)⟩
theorem M2 {p':Pos}(n:Nm X i x)(h:NE X e f)(hs:swapsWith e (some (.Name x p')) pos.line X.env=pure false):NS X (.Assign [.Name x p'] e pos) (jx i f):=λz s E hz hb=>by
 unfold jx Gy at hb ⊢
 split at hb
 ·next p er=>exact wpAny_Assign_Name (aY (h z s _ E hz er) λu s1 q=>aY (gD q.1.1 n q.2) λ_ s2 w=>⟨rfl,(q.1.tv w).to⟩) hs
 ·next ps er=>exact wpAny_Assign_Name (aY (h z s _ E hz er) λu s1 q=>by
   obtain⟨g,a,rfl,nn,o,l⟩:=q
   exact aY (Cd hz g n (t:=.own ps) rfl nn (mw l) ⟨a,rfl,bV,l⟩) λ_ s2 w=>⟨rfl,w⟩) hs
 ·exact absurd rfl hb
noncomputable abbrev FT:=PV->ao->Option ao
noncomputable abbrev AE:=List PV->ao->Option ao
noncomputable def NG (X:Cx)(tg:Expr)(t:FT):Prop:=∀(z:Z X) s p u ρ E,z.ok s->D z.cn s.heap p u->t p z.ρ=some ρ->W X (assign tg X.env u) (λ_ s'=>z.tv s ρ s') E s
noncomputable def Mu (X:Cx)(tgs:List Expr)(t:AE):Prop:=∀(z:Z X) s ps us ρ E,z.ok s->Ds z.cn s.heap ps us->t ps z.ρ=some ρ->W X (assignInOrder ((assignEach tgs X.env).map (·.2)) us) (λ_ s'=>z.tv s ρ s') E s
noncomputable def gN (i:Nat):FT:=λp ρ=>some (ρ.set i (some (.val p)))
noncomputable def g0:AE:=λps ρ=>match ps with
 |[]=>some ρ
 |_=>none
noncomputable def gC (t:FT)(ts:AE):AE:=λps ρ=>match ps with
 |p::ps=>(t p ρ).bind λρ'=>ts ps ρ'
 |[]=>none
noncomputable def iH (n:Nat)(ts:AE):FT:=λp ρ=>match p with
 |.tup ps=>if ps.length=n then ts ps ρ else none
 |_=>none
theorem P9 (n:Nm X i x):NG X (.Name x pos) (gN i):=λz s p u ρ E hz d q=>by
 cases q;exact wpAny_assign_Name (gD hz n d)
theorem Z.tv.trans {z:Z X}{s s1 s2:Shared}{ρ1 ρ2:ao}{σ1:L2.St}(e:Ext z.bad s.heap s1.heap)(h:(z.wi σ1 z.H ρ1).tv s1 ρ2 s2):z.tv s ρ2 s2:=let ⟨σ',ok,e'⟩:=h;⟨σ',ok,e.trans e'⟩
theorem Ri:Mu X [] g0:=λz s ps us ρ E hz d q=>by
 cases ps with
 |nil=>cases q;rw[show us=[] from d];exact assignInOrder_nil ⟨z.σ,hz,.refl⟩
 |cons=>cases q
theorem Q7 {t:FT}{ts:AE}(h1:NG X e t)(h2:Mu X es ts)(hs:(assignEach (e::es) X.env).map (·.2)=assign e X.env::(assignEach es X.env).map (·.2)):Mu X (e::es) (gC t ts):=λz s ps us ρ E hz d q=>by
 cases ps with
 |nil=>cases q
 |cons p ps=>
  obtain⟨u,r,rfl,d1,d2⟩:=d
  obtain⟨ρ1,e1,e2⟩:=a0a.mp q
  rw[hs]
  refine assignInOrder_cons (aY (h1 z s p u ρ1 E hz d1 e1) λ_ s1 ⟨σ1,ok,x1⟩=>?_)
  exact aY (h2 (z.wi σ1 z.H ρ1) s1 ps r ρ E ok (d2.mono x1.kpD) e2) λ_ s2 w=>Z.tv.trans x1 w
theorem Ry {k n:Nat}{ts:AE}(hc:X.calm=true)(h:Mu X es ts)(hn:(assignEach es X.env).length=n)(hst:(assignEach es X.env).findIdx? (·.1)=none):NG X (.Tuple es k pos) (iH n ts):=λz s p u ρ E hz d q=>by
 unfold iH at q
 split at q
 ·next ps=>
  split at q
  ·next hl=>
   obtain⟨a,its,rfl,o,ht,zl,ds⟩:=d
   refine assign_Tuple_tuple (hz.I.ok.hd hc) ht (by simp[hn,←hl,ds.length]) hst λh' hx=>?_
   have g:z.go s { s with heap:=h' }:=hz.kept (t:=s.toks) λb o e=>hx b o (a1j (Heap.lt_size e)) e
   exact aY (h z _ ps its ρ E g.1 (ds.mono g.2.kpD) q) λ_ s2 w=>g.tv w
  ·cases q
 ·cases q
noncomputable def IE (o:Option ao):Out:=match o with
 |some ρ=>.nx ρ
 |none=>.bad
noncomputable def Ht (o:Option PV)(t:FT)(ρ:ao):Out:=match o with
 |some p=>IE (t p ρ)
 |none=>.bad
noncomputable def fS (f:FE)(t:FT):FS:=λρ=>Ht ((f ρ).bind RV.fr) t ρ
theorem OW {tg:Expr}{t:FT}(h:NE X e f)(hg:NG X tg t)(hs:swapsWithSole [tg] e pos.line X.env=pure false)(hw:swappedStores [tg] e X.env=pure none)
  (h1:(assignEach [tg] X.env).map (·.2)=[assign tg X.env]):NS X (.Assign [tg] e pos) (fS f t):=λz s E hz hb=>by
 unfold fS Ht IE at hb ⊢
 split at hb
 ·next p ep=>
  split at hb
  ·next ρ et=>
   obtain⟨r,er,ep⟩:=a0a.mp ep
   refine wpAny_Assign_stores (aY (h z s r E hz er) λu s1 q=>?_) hs hw
   rw[h1]
   exact aY (hg z s1 p u ρ E q.1.1 (q.2.fr ep) et) λ_ s2 w=>⟨rfl,(q.1.tv w).to⟩
  ·exact absurd rfl hb
 ·exact absurd rfl hb
noncomputable def E1 (o:Option (List PV))(i j:Nat)(ρ:ao):Out:=match o with
 |some [p,q]=>.nx ((ρ.set i (some (.val p))).set j (some (.val q)))
 |_=>.bad
noncomputable def pQ (i j:Nat)(fs:FA):FS:=λρ=>E1 ((fs ρ).bind λrs=>rs.mapM RV.fr) i j ρ
theorem Nx {j:Nat}{y:Str}{a b:Expr}{px py pt:Pos}{kt k2 pt2}(hc:X.calm=true)(n1:Nm X i x)(n2:Nm X j y)(hij:i≠j)(hx:X.env.scope.names.lookup x=some .local)(hy:X.env.scope.names.lookup y=some .local)(ha:NA X [a,b] fs)
  (hw:swappedStores [.Tuple [.Name x px,.Name y py] kt pt] (.Tuple [a,b] k2 pt2) X.env=pure (some [x,y]))
  (hs:swapsWithSole [.Tuple [.Name x px,.Name y py] kt pt] (.Tuple [a,b] k2 pt2) pos.line X.env=pure false) :
  NS X (.Assign [.Tuple [.Name x px,.Name y py] kt pt] (.Tuple [a,b] k2 pt2) pos) (pQ i j fs):=λz s E hz hb=>by
 unfold pQ E1 at hb ⊢
 split at hb
 ·next p q epq=>
  obtain⟨rs,er,epq⟩:=a0a.mp epq
  rw[exec_Assign_arm]
  refine wpAny_bind (wpAny_standAt ?_)
  rw[hs]
  refine wpAny_bind (wpAny_pure ?_)
  rw[if_neg (by decide)]
  refine wpAny_bind (Tuple_ (aY (ha z _ s rs E hz er) λus s1 ⟨g1,d1⟩=>?_))
  obtain⟨u1,r1,rfl,dp,u2,r2,rfl,dq,e3⟩:=d1.fr epq
  cases (show r2=[] from e3)
  refine wpAny_newObj_type ?_ (by show 2<=sizeLine;decide)
  have g2:=g1.1.push { cls:=.type "tuple",data:=.seq [u1,u2].toArray } s1.toks
  rw[hw]
  refine wpAny_bind (wpAny_pure ?_)
  show W X (do rule "assign.swapped-stores";let items ←unpackItems (.ref s1.heap.objs.size) 2 none;assignInOrder [λv=>bindName X.env y v,λv=>bindName X.env x v] items.reverse;pure Flow.next) _ _ _
  refine wpAny_bind (wpAny_rule (wpAny_bind (unpackItems_tuple (items:=#[u1,u2]) (hz.I.ok.hd hc) (IsTup.new s1.heap _) λh' hx'=>?_)))
  have g3:z.go _ { s1 with heap:=h' }:=g2.1.kept (t:=s1.toks) λb o e=>hx' b o (a1j (Heap.lt_size e)) e
  have ge:=g2.2.trans g3.2
  show wpAny _ _ (assignInOrder [λv=>bindName X.env y v,λv=>bindName X.env x v] [u2,u1] >>= λ_=>pure Flow.next) _ _ _
  refine wpAny_bind (assignInOrder_cons (wpAny_bindName (aY (gD (p:=q) g3.1 n2 (dq.m ge.kpD)) λ_ s2 ⟨σ1,ok1,x1⟩=>?_)))
  refine assignInOrder_cons (wpAny_bindName (aY (gD (p:=p) ok1 n1 (dp.m (ge.trans x1).kpD)) λ_ s3 ⟨σ2,ok2,x2⟩=>assignInOrder_nil (wpAny_pure ?_)))
  refine⟨rfl,σ2,z.H,?_,(g1.2.trans (ge.trans (x1.trans x2))).stp⟩
  have ec:(z.ρ.set i (some (Sl.val p))).set j (some (Sl.val q))=(z.ρ.set j (some (Sl.val q))).set i (some (Sl.val p)):=List.set_comm _ _ hij
  rw[ec]
  exact ok2
 ·exact absurd rfl hb
theorem Z.ok.mut0 {z:Z X}{s s':Shared}(hz:z.ok s){a:Addr}(o:bx z.σ z.ρ i a)(I':Inv X z.pins z.σ z.H s')(k:∀b u,¬z.bad b->b≠a->s.heap.get? b=some u->s'.heap.get? b=some u)(th:∀b u,s.heap.get? b=some u->∃u',s'.heap.get? b=some u'){t:Sl}(ht:cw t=true)(nt:∃ob,s'.heap.get? a=some ob/\ob.cls≠.type "tuple")
  (d:Kp z.cn z.cn s.heap s'.heap->SlOk z.cn z.H s'.heap t (.ref a)):(z.wi z.σ z.H (z.ρ.set i (some t))).ok s'/\Stp z.bad z.H z.H s.heap s'.heap:=by
 obtain⟨⟨t0,e0,o0⟩,q0⟩:=id o
 obtain⟨v,e2,_,d2⟩:=hz.slk i t0 e0
 rw[q0] at e2;cases e2
 have hH:z.H a=some aW:=by
  cases t0 with
  |val p=>cases o0
  |own ps=>obtain⟨b,e3,h,_⟩:=d2;cases e3;exact h
  |dic ks ps=>obtain⟨b,e3,h,_⟩:=d2;cases e3;exact h
 obtain⟨ob,hob,hcl⟩:=nt
 have hil:i<z.ρ.length:=(a0j.mp e0).1
 have kp:Kp z.cn z.cn s.heap s'.heap:=⟨rfl,rfl,rfl,λb u q e=>⟨q,k b u q.2 (λy=>by have q1:z.H b=none:=q.1;rw[y,hH] at q1;cases q1) e⟩⟩
 have own:∀{j b},bx z.σ (z.ρ.set i (some t)) j b->bx z.σ z.ρ j b:=λ{j b} ⟨⟨t',e1,ot⟩,q⟩=>by
  by_cases hj:i=j
  ·subst hj;exact⟨⟨t0,e0,o0⟩,q⟩
  ·rw[a0k hj] at e1;exact⟨⟨t',e1,ot⟩,q⟩
 refine⟨⟨I',by simp[hz.len],λj t' q=>?_,λj k b o1 o2=>hz.dj j k b (own o1) (own o2),λj b o=>hz.nb j b (own o),hz.oh,hz.oh0,hz.loc,hz.cel,hz.fs,hz.ex,λb q=>let ⟨u,r⟩:=hz.there b q;th b u r,hz.bs,λb o q=>?_,hz.anc⟩,⟨λb u n hn e=>⟨k b u n (λy=>by rw[y,hH] at hn;cases hn) e,hn⟩,th⟩⟩
 ·by_cases hj:i=j
  ·subst hj
   have q:(z.ρ.set i (some t))[i]?=some (some t'):=q
   rw[a0y hil] at q
   cases q
   exact⟨.ref a,q0,⟨.ref a,rfl⟩,d kp⟩
  ·have q:(z.ρ.set i (some t))[j]?=some (some t'):=q
   rw[a0k hj] at q
   obtain⟨w,e1,r,dd⟩:=hz.slk j t' q
   refine⟨w,e1,r,?_⟩
   have ne:∀b,w=.ref b->cw t'=true->b≠a:=λb e3 ot y=>by
    subst y e3
    exact hj (hz.dj i j b o ⟨⟨t',q,ot⟩,e1⟩)
   cases t' with
   |val p=>exact λu r=>(dd u r).m kp
   |own ps=>obtain⟨b,rfl,hb,l⟩:=dd;exact⟨b,rfl,hb,l.mono kp λo w=>k b o (hz.ot b _ hb).1 (ne b rfl rfl) w⟩
   |dic ks ps=>obtain⟨b,rfl,hb,l⟩:=dd;exact⟨b,rfl,hb,l.mono kp λo w=>k b o (hz.ot b _ hb).1 (ne b rfl rfl) w⟩
 ·obtain⟨r0,u,r1,r2⟩:=hz.ot b o q
  by_cases hb:b=a
  ·subst hb;exact⟨r0,ob,hob,hcl⟩
  ·exact⟨r0,u,k b u r0 hb r1,r2⟩
theorem Z.ok.mut {z:Z X}{s:Shared}(hz:z.ok s){a:Addr}(o:bx z.σ z.ρ i a){h':Heap}{tk:Nat}(k:∀b u,b≠a->s.heap.get? b=some u->h'.get? b=some u){t:Sl}(ht:cw t=true)(nt:∃ob,h'.get? a=some ob/\ob.cls≠.type "tuple")
  (d:∀(c:Cn),c=z.cn->Kp c c s.heap h'->SlOk c z.H h' t (.ref a)):(z.wi z.σ z.H (z.ρ.set i (some t))).ok { s with heap:=h',toks:=tk }/\Stp z.bad z.H z.H s.heap h':=by
 obtain⟨⟨t0,e0,o0⟩,q0⟩:=id o
 obtain⟨v,e2,_,d2⟩:=hz.slk i t0 e0
 rw[q0] at e2;cases e2
 have hH:z.H a=some aW:=by
  cases t0 with
  |val p=>cases o0
  |own ps=>obtain⟨b,e3,h,_⟩:=d2;cases e3;exact h
  |dic ks ps=>obtain⟨b,e3,h,_⟩:=d2;cases e3;exact h
 have I':Inv X z.pins z.σ z.H { s with heap:=h',toks:=tk }:=by
  obtain⟨ob,hob,hcl⟩:=nt
  have:=hz.I.write (x:=a) (e:=a) (o:=aW) (h':=h') (t':=tk) (by rw[hH];exact trivial) (.inl rfl) k ⟨ob,hob⟩ ⟨trivial,⟨ob,hob⟩,λ_ _ _ _=>trivial⟩
  rwa [pP hH] at this
 exact Z.ok.mut0 hz o I' (λb u _=>k b u) (λb u e=>by
  by_cases hb:b=a
  ·subst hb;obtain⟨ob,hob,_⟩:=nt;exact⟨ob,hob⟩
  ·exact⟨u,k b u hb e⟩) ht nt (d _ rfl)
theorem Z.ok.owned {z:Z X}{s:Shared}(hz:z.ok s){t:Sl}(e:sl z.ρ i=some t)(ho:cw t=true):∃a,bx z.σ z.ρ i a/\z.H a=some aW/\SlOk z.cn z.H s.heap t (.ref a):=by
 obtain⟨v,e2,_,d2⟩:=hz.slk i t (gz e)
 cases t with
 |val p=>cases ho
 |own ps=>obtain⟨b,rfl,h,l⟩:=d2;exact⟨b,⟨⟨_,gz e,rfl⟩,e2⟩,h,b,rfl,h,l⟩
 |dic ks ps=>obtain⟨b,rfl,h,l⟩:=d2;exact⟨b,⟨⟨_,gz e,rfl⟩,e2⟩,h,b,rfl,h,l⟩
theorem lN {z:Z X}{s:Shared}(hz:z.ok s){a:Addr}(o:z.σ[i]?=some (some (.ref a))){p:Pos}(hN:X.N[i]?=some x)(hv:qp X.env.scope x)(hd:(x==("__debug__" : Str))=false)(hcd:(x==("__classdict__" : Str))=false){Q:Value->Shared->Prop}{E:Value->Shared->Prop}(h:Q (.ref a) s):W X (eval (.Name x p) X.env) Q E s:=by
 obtain⟨m,hn,hl⟩:=hz.I.loc
 obtain⟨u,r,l⟩:=hl i x _ hN o hv
 cases (show u=Value.ref a from r)
 rcases l with ⟨hk,hm⟩|⟨hk,c,hc,hcell⟩
 ·exact wpAny_Name (wpAny_loadName_local hz.I.ok.kind hk hn hm h) hd
 ·rcases hk with hk|hk
  ·exact wpAny_Name (wpAny_loadName_cell hz.I.ok.kind hk hc hcell h) hd
  ·exact wpAny_Name (wpAny_loadName_free hz.I.ok.kind hk hc hcell h hcd) hd
noncomputable abbrev GM:=Sl->List PV->Option (Sl×PV)
structure MtN (X:Cx)(T:String)(name:Str)(id:String)(g:GM):Prop where
 pa:PlainAttrs T
 slot:Slot T name id
 hty:typeOf (.builtin id)=pure (.type "method_descriptor")
 ty:∀t ps r,g t ps=some r->cw t=true/\∀(c:Cn) H h a,SlOk c H h t (.ref a)->∃ob,h.get? a=some ob/\ob.cls=.type T/\ob.dict=none
 call:∀(z:Z X) s i t a ps us t' p E,z.ok s->sl z.ρ i=some t->bx z.σ z.ρ i a->SlOk z.cn z.H s.heap t (.ref a)->Ds z.cn s.heap ps us->g t ps=some (t',p) →
  W X (call (.builtin id) (.ref a::us)) (λv s'=>(z.wi z.σ z.H (z.ρ.set i (some t'))).ok s'/\Stp z.bad z.H z.H s.heap s'.heap/\D z.cn s'.heap p v) E s
noncomputable def K8 (g:GM)(o:Option Sl)(ps:Option (List PV)):Option (Sl×PV):=match o,ps with
 |some t,some ps=>g t ps
 |_,_=>none
structure McN (X:Cx)(i:Nat)(x:Str)(name:Str)(p apos cpos:Pos)(es:List Expr):Prop where
 hN:X.N[i]?=some x
 hv:qp X.env.scope x
 hd:(x==("__debug__" : Str))=false
 hcd:(x==("__classdict__" : Str))=false
 base:attributeBase (.Name x p) name X.env (eval (.Name x p) X.env)=eval (.Name x p) X.env
 line:(apos.endLine==cpos.line)=true
 few:((backTo cpos (starEach es X.env)).all (λx=>!x.1)&&(backToKw cpos (keywordEach [] X.env)).all (λx=>x.1.isSome)&&decide (es.length+([]:List Keyword).length+(if ([]:List Keyword).isEmpty then 0 else 1)<30))=true
 ns:∀e r,es=e::r->starEach (e::r) X.env=(false,eval e X.env)::starEach r X.env/\(backTo cpos (starEach r X.env)).any (·.1)=false
theorem yZ {T:String}{name:Str}{id:String}{g:GM}(m:MtN X T name id g){p apos cpos:Pos}(c:McN X i x name p apos cpos es)(ha:NA X es fs)(h0:es=[]->fs=ah){z:Z X}{s:Shared}(hz:z.ok s){t':Sl}{q:PV}(e:K8 g (sl z.ρ i) ((fs z.ρ).bind λrs=>rs.mapM RV.fr)=some (t',q)){E:Value->Shared->Prop} :
  W X (eval (.Call (.Attribute (.Name x p) name apos) es [] cpos) X.env) (λv s'=>(z.wi z.σ z.H (z.ρ.set i (some t'))).ok s'/\Stp z.bad z.H z.H s.heap s'.heap/\D z.cn s'.heap q v) E s:=by
 unfold K8 at e
 split at e
 ·next t ps et eps=>
  obtain⟨rs,er,eps⟩:=a0a.mp eps
  obtain⟨ho,hT⟩:=m.ty t ps _ e
  obtain⟨a,oa,hH,d⟩:=Z.ok.owned hz et ho
  obtain⟨ob,e1,e2,e3⟩:=hT _ _ _ _ d
  have fin:∀us s1,z.go s s1->RvsOk z s.heap s1.heap rs us->W X (call (.builtin id) (.ref a::us)) (λv s'=>(z.wi z.σ z.H (z.ρ.set i (some t'))).ok s'/\Stp z.bad z.H z.H s.heap s'.heap/\D z.cn s'.heap q v) E s1:=λus s1 g1 d1=>by
   obtain⟨a',oa',_,d'⟩:=Z.ok.owned g1.1 et ho
   have:a'=a:=by have h1:=oa.2;have h2:=oa'.2;rw[h1] at h2;cases h2;rfl
   subst this
   exact aY (m.call z s1 i t a' ps us t' q E g1.1 et oa' d' (d1.fr eps) e) λv s2 w=>⟨w.1,g1.2.stp.trans w.2.1,w.2.2⟩
  cases es with
  |nil=>
   refine wpAny_Call_method0_late c.base c.line (lN hz oa.2 c.hN c.hv c.hd c.hcd ⟨T,id,m.pa,m.slot,m.hty,⟨ob,e1,e2⟩,λb q=>by cases q;exact⟨ob,e1,e3⟩,Calls.callWith_builtin rfl (PySem.evalArgs_none ?_)⟩)
   rw[h0 rfl] at er;cases er
   exact fin [] s hz.refl .nil
  |cons e0 es0=>
   refine wpAny_Call_method_late c.base c.few c.line rfl (lN hz oa.2 c.hN c.hv c.hd c.hcd ⟨T,id,m.pa,m.slot,m.hty,⟨ob,e1,e2⟩,λb q=>by cases q;exact⟨ob,e1,e3⟩,?_⟩)
   obtain⟨hs,hp⟩:=c.ns e0 es0 rfl
   have hA:=ha z cpos s rs E hz er
   rw[hs] at hA ⊢
   refine Calls.callWith_builtin (by show (false || (backTo cpos (starEach es0 X.env)).any (·.1))=false;rw[hp]<;>rfl) (Calls.evalArgs_plain ?_)
   exact aY hA λus s1 ⟨g1,d1⟩=>fin us s1 g1 d1
 ·cases e
end
section
variable {X:Cx}{e:Expr}{f fi:FE}{es:List Expr}{fs:FA}{pos:Pos}{i j:Nat}{x:Str}
noncomputable def HD (o:Option (Sl×PV))(i:Nat)(ρ:ao):Out:=match o with
 |some (t,_)=>.nx (ρ.set i (some t))
 |none=>.bad
noncomputable def vB (g:GM)(i:Nat)(fs:FA):FS:=λρ=>HD (K8 g (sl ρ i) ((fs ρ).bind λrs=>rs.mapM RV.fr)) i ρ
theorem JG {T:String}{name:Str}{id:String}{g:GM}(m:MtN X T name id g){p apos cpos:Pos}(c:McN X i x name p apos cpos es)(ha:NA X es fs)(h0:es=[]->fs=ah)(hs:swapsWith (.Call (.Attribute (.Name x p) name apos) es [] cpos) none pos.line X.env=pure false) :
  NS X (.Expr (.Call (.Attribute (.Name x p) name apos) es [] cpos) pos) (vB g i fs):=λz s E hz hb=>by
 unfold vB HD at hb ⊢
 split at hb
 ·next t q e=>exact wpAny_Expr_any (aY (yZ m c ha h0 hz e) λv s1 w=>⟨rfl,z.σ,z.H,w.1,w.2.1⟩) hz.I.quiet hs
 ·exact absurd rfl hb
noncomputable def F2 (o:Option (Sl×PV))(j i:Nat)(ρ:ao):Out:=match o with
 |some (t,p)=>.nx ((ρ.set i (some t)).set j (some (.val p)))
 |none=>.bad
noncomputable def xV (g:GM)(j i:Nat)(fs:FA):FS:=λρ=>F2 (K8 g (sl ρ i) ((fs ρ).bind λrs=>rs.mapM RV.fr)) j i ρ
theorem H4 {T:String}{name y:Str}{id:String}{g:GM}(m:MtN X T name id g){p p' apos cpos:Pos}(c:McN X i x name p apos cpos es)(n:Nm X j y)(ha:NA X es fs)(h0:es=[]->fs=ah)(hs:swapsWith (.Call (.Attribute (.Name x p) name apos) es [] cpos) (some (.Name y p')) pos.line X.env=pure false) :
  NS X (.Assign [.Name y p'] (.Call (.Attribute (.Name x p) name apos) es [] cpos) pos) (xV g j i fs):=λz s E hz hb=>by
 unfold xV F2 at hb ⊢
 split at hb
 ·next t q e=>
  refine wpAny_Assign_Name (aY (yZ m c ha h0 hz e) λv s1 w=>?_) hs
  exact aY (gD (p:=q) w.1 n w.2.2) λ_ s2 ⟨σ',ok,x⟩=>⟨rfl,σ',z.H,ok,w.2.1.trans x.stp⟩
 ·exact absurd rfl hb
theorem pg {t:Sl}{ps:List PV}(e:t=.own ps):cw t=true/\∀(c:Cn) H h a,SlOk c H h t (.ref a)->∃ob,h.get? a=some ob/\ob.cls=.type "list"/\ob.dict=none:=by
 subst e
 exact⟨rfl,λc H h a ⟨b,e1,_,its,n,e2,_⟩=>by cases e1;exact⟨_,e2,rfl,rfl⟩⟩
theorem jA {z:Z X}{s:Shared}(hz:z.ok s){a:Addr}(o:bx z.σ z.ρ i a){its its':List Value}{n:Nat}{g:Array Value->Array Value}{ps':List PV}(e:s.heap.get? a=some (d9 its n))(hg:g its.toArray=its'.toArray)(d:Ds z.cn s.heap ps' its')(l:its'.length<=sizeLine)(hH:z.H a=some aW)(tk:Nat) :
  (z.wi z.σ z.H (z.ρ.set i (some (.own ps')))).ok { s with heap:=s.heap.update a (Obj.mapSeq g),toks:=tk }/\Stp z.bad z.H z.H s.heap (s.heap.update a (Obj.mapSeq g)):=by
 have q:=PySem.IsL.update e g
 rw[hg] at q
 exact Z.ok.mut hz o (λb u hb hu=>(Heap.get?_update_other s.heap (Obj.mapSeq g) (Ne.symm hb)).trans hu) (t:=.own ps') rfl ⟨_,q,by intro w;exact absurd (Value.type.inj w) (by decide)⟩ λc ec k=>by
  subst ec;exact⟨a,rfl,hH,its',_,q,l,d.mono k⟩
noncomputable def mr:GM:=λt ps=>match t,ps with
 |.own ps,[q]=>if ps.length<=100000 then some (.own (ps++[q]),.non) else none
 |_,_=>none
theorem NJ:MtN X "list" "append" "list.append" mr where
 pa:=PySem.F.plainAttrs_list
 slot:=PySem.F.slot_list_append
 hty:=PySem.F.type_list_append
 ty:=λt ps r e=>by
  unfold mr at e
  split at e
  ·exact pg rfl
  ·cases e
 call:=λz s i t a ps us t' p E hz et oa d du e=>by
  unfold mr at e
  split at e
  ·next ps q=>
   split at e
   ·next hl=>
    cases e
    obtain⟨b,e1,hH,its,n,e2,zl,ds⟩:=d
    cases e1
    obtain⟨u,r,rfl,dq,er⟩:=du
    cases (show r=[] from er)
    have l:=ds.length
    have hb:=Lr hl
    refine call_meets F.slot_list_append ⟨_,e2,rfl⟩ F.entry_list_append (F.args_list_append_2 _ _) (PySem.list_append a its.toArray n u (by rw[a0h];omega)) ⟨e2,?_⟩
    have m:=jA hz oa e2 (g:=(·.push u)) (its':=its++[u]) (by simp) (ds.app (.one dq)) (by rw[a0t,a1m];omega) hH s.toks
    exact⟨m.1,m.2,rfl⟩
   ·cases e
  ·cases e
noncomputable def CA:GM:=λt ps=>match t,ps with
 |.own ps,[]=>some (.own ps.reverse,.non)
 |_,_=>none
theorem MS:MtN X "list" "reverse" "list.reverse" CA where
 pa:=PySem.F.plainAttrs_list
 slot:=PySem.F.slot_list_reverse
 hty:=PySem.F.type_list_reverse
 ty:=λt ps r e=>by
  unfold CA at e
  split at e
  ·exact pg rfl
  ·cases e
 call:=λz s i t a ps us t' p E hz et oa d du e=>by
  unfold CA at e
  split at e
  ·next ps=>
   cases e
   obtain⟨b,e1,hH,its,n,e2,zl,ds⟩:=d
   cases e1
   cases (show us=[] from du)
   refine call_meets F.slot_list_reverse ⟨_,e2,rfl⟩ F.entry_list_reverse (F.args_list_reverse_1 _) (AutoSeq1.list_reverse_list_0 a its.toArray n (by rw[a0h];omega)) ⟨e2,?_⟩
   have m:=jA hz oa e2 (g:=(·.reverse)) (its':=its.reverse) (by simp) ds.rev (by rw[a3h];exact zl) hH s.toks
   exact⟨m.1,m.2,rfl⟩
  ·cases e
noncomputable def oR:GM:=λt ps=>match t,ps with
 |.own ps,[.int k]=>if 0<=k/\k<100000 then (ps[k.toNat]?).map λp=>(.own (ps.eraseIdx k.toNat),p) else none
 |.own ps,[]=>(ps[ps.length - 1]?).map λp=>(.own ps.dropLast,p)
 |_,_=>none
theorem Ds.erase {c:Cn}{h:Heap}:∀{ps:List PV} {us:List Value} (k:Nat),Ds c h ps us->Ds c h (ps.eraseIdx k) (us.eraseIdx k)
 |[],_,_,d=>by rw[show _=[] from d];rfl
 |_::_,_,0,⟨u,r,e,d,t⟩=>by rw[e];exact t
 |_::_,_,k+1,⟨u,r,e,d,t⟩=>by rw[e];exact⟨u,_,rfl,d,Ds.erase k t⟩
theorem En:MtN X "list" "pop" "list.pop" oR where
 pa:=PySem.F.plainAttrs_list
 slot:=PySem.F.slot_list_pop
 hty:=PySem.F.type_list_pop
 ty:=λt ps r e=>by
  unfold oR at e
  split at e
  ·exact pg rfl
  ·exact pg rfl
  ·cases e
 call:=λz s i t a ps us t' p E hz et oa d du e=>by
  unfold oR at e
  split at e
  ·next ps k=>
   split at e
   ·next hk=>
    obtain⟨q,e3,e4⟩:=a0d.mp e
    cases e4
    obtain⟨b,e1,hH,its,n,e2,zl,ds⟩:=d
    cases e1
    obtain⟨u,r,rfl,⟨tt,rfl⟩,er⟩:=du
    cases (show r=[] from er)
    have l:=ds.length
    have hlt:k.toNat<ps.length:=(a0j.mp e3).1
    obtain⟨w,hw,dw⟩:=ds.get e3
    refine call_meets F.slot_list_pop ⟨_,e2,rfl⟩ F.entry_list_pop (F.args_list_pop_2 _ _)
     (MeetsSeq.list_pop_at a its.toArray n k tt k.toNat w (fitsIndex_both (by omega) (by omega)) (by rw[a0h,seqIndex_of hk.1 (by omega)]) (by rw[←Array.getElem?_toList];exact hw) (by rw[a0h];omega)) ⟨e2,?_⟩
    have m:=jA hz oa e2 (g:=(·.eraseIdxIfInBounds k.toNat)) (its':=its.eraseIdx k.toNat) (by rw[a3u]) (Ds.erase _ ds) (by have:=su its k.toNat;omega) hH s.toks
    exact⟨m.1,m.2,dw.m m.2.kpD⟩
   ·cases e
  ·next ps=>
   obtain⟨q,e3,e4⟩:=a0d.mp e
   cases e4
   obtain⟨b,e1,hH,its,n,e2,zl,ds⟩:=d
   cases e1
   cases (show us=[] from du)
   have l:=ds.length
   obtain⟨w,hw,dw⟩:=ds.get e3
   rw[←l] at hw
   refine call_meets F.slot_list_pop ⟨_,e2,rfl⟩ F.entry_list_pop (F.args_list_pop_1 _) (MeetsSeq.list_pop_last a its.toArray n w (by simpa using hw) (by rw[a0h];omega)) ⟨e2,?_⟩
   have dd:=Ds.erase (its.length - 1) ds
   rw[lF] at dd
   rw[l,lF] at dd
   have m:=jA hz oa e2 (g:=(·.eraseIdxIfInBounds (its.toArray.size - 1))) (its':=its.dropLast) (by rw[a0h,a3u,lF]) dd (by rw[List.length_dropLast];omega) hH s.toks
   exact⟨m.1,m.2,dw.m m.2.kpD⟩
  ·cases e
noncomputable def Ar (o:Option Nat)(v:PV)(ps:List PV)(j:Nat)(ρ:ao):Out:=match o with
 |some n=>.nx (ρ.set j (some (.own (ps.set n v))))
 |none=>.bad
noncomputable def Hl (v:Option PV)(o:Option Sl)(k:Option PV)(j:Nat)(ρ:ao):Out:=match v,o,k with
 |some v,some (.own ps),some (.int k)=>Ar (sM ps.length k) v ps j ρ
 |_,_,_=>.bad
noncomputable def lW (j:Nat)(fi f:FE):FS:=λρ=>Hl ((f ρ).bind RV.fr) (sl ρ j) ((fi ρ).bind RV.fr) j ρ
theorem zQ {z:Z X}{s:Shared}(hz:z.ok s){a:Addr}(o:bx z.σ z.ρ i a){ps:List PV}{k:Int}{t:Tok}{n:Nat}{v:PV}{u:Value}(hH:z.H a=some aW)(l:ListAt z.cn s.heap a ps)(hn:sM ps.length k=some n)(d:D z.cn s.heap v u){E:Value->Shared->Prop} :
  W X (setItem (.ref a) (.int k t) u) (λ_ s'=>(z.wi z.σ z.H (z.ρ.set i (some (.own (ps.set n v))))).ok s'/\Stp z.bad z.H z.H s.heap s'.heap) E s:=by
 obtain⟨its,m,e,zl,ds⟩:=l
 obtain⟨h1,h2,h3,h4⟩:=yC hn
 have hl:=ds.length
 have hlb:=lD
 have fin:=jA hz o e (g:=(·.setIfInBounds n u)) (its':=its.set n u) (by simp) (ds.set d n) (by rw[a1l];exact zl) hH s.toks
 by_cases h0:0<=k
 ·have hk:k.toNat=n:=by
   rw[seqIndex_of h0 h4] at h1
   exact Option.some.inj h1
  exact PySem.W.ki_setAt e h0 (by omega) (by rw[a0h,hl];exact h4) (by rw[hk];exact fin)
 ·have hk:(k+(its.toArray.size:Int)).toNat=n:=by
   rw[seqIndex_neg (by omega) h3] at h1
   rw[a0h,hl]
   exact Option.some.inj h1
  exact PySem.W.ki_setBack e (by omega) (by rw[a0h,hl];exact h3) (by omega) (by rw[hk];exact fin)
theorem mC {z:Z X}{s:Shared}(hz:z.ok s){ps:List PV}(e:sl z.ρ i=some (.own ps)){a:Addr}(o:z.σ[i]?=some (some (.ref a))):bx z.σ z.ρ i a/\z.H a=some aW/\ListAt z.cn s.heap a ps:=by
 obtain⟨b,o1,h,_,e2,_,l⟩:=Z.ok.owned hz e rfl
 cases e2
 have:=o1.2
 rw[o] at this;cases this
 exact⟨o1,h,l⟩
theorem Nw {ix o:Expr}{p:Pos}{tpos:Pos}(hN:X.N[j]?=some x)(hv:qp X.env.scope x)(hd:(x==("__debug__" : Str))=false)(hcd:(x==("__classdict__" : Str))=false)(hi:NE X ix fi)(h:NE X e f)
  (hs:swapsWithSole [.Subscript (.Name x p) ix tpos] e pos.line X.env=pure false) (hw:swappedStores [.Subscript (.Name x p) ix tpos] e X.env=pure none)
  (h1:(assignEach [.Subscript (.Name x p) ix tpos] X.env).map (·.2)=[assign (.Subscript (.Name x p) ix tpos) X.env])
  (ha:∀v,assign (.Subscript (.Name x p) ix tpos) X.env v=(do
   let ov ←holding [v] (eval (.Name x p) X.env)
   let iv ←holding [v,ov] (eval ix X.env)
   standAt tpos
   holding [v,ov,iv] (setItem ov iv v)
   release [v,ov,iv] [])):NS X (.Assign [.Subscript (.Name x p) ix tpos] e pos) (lW j fi f):=λz s E hz hb=>by
 unfold lW Hl at hb ⊢
 split at hb
 ·next v ps k ev es ek=>
  unfold Ar at hb ⊢
  split at hb
  ·next n en=>
   obtain⟨r,er,ev⟩:=a0a.mp ev
   obtain⟨rk,erk,ek⟩:=a0a.mp ek
   refine wpAny_Assign_stores (aY (h z s r E hz er) λu s1 q=>?_) hs hw
   rw[h1]
   show W X (assign _ X.env u) _ E s1
   rw[ha]
   obtain⟨a,o1,_,_⟩:=Z.ok.owned hz es rfl
   refine wpAny_bind (wpAny_holding (lN q.1.1 o1.2 hN hv hd hcd ?_))
   refine wpAny_bind (wpAny_holding (aY (hi z s1 rk E q.1.1 erk) λiv s2 q2=>?_))
   obtain⟨t,rfl⟩:=q2.2.fr ek
   obtain⟨o2,hH,l⟩:=mC q2.1.1 es o1.2
   refine wpAny_bind (wpAny_standAt (wpAny_bind (wpAny_holding (aY (zQ q2.1.1 o2 hH l en ((q.2.fr ev).m q2.1.2.kpD)) λ_ s3 w=>?_))))
   exact wpAny_release ⟨rfl,z.σ,z.H,w.1,(q.1.2.trans q2.1.2).stp.trans w.2⟩
  ·exact absurd rfl hb
 ·exact absurd rfl hb
noncomputable def Gi (g:Int->Int->Int)(o:Option Sl)(v:Option PV)(i:Nat)(ρ:ao):Out:=match o,v with
 |some (.val (.int a)),some (.int b)=>.nx (ρ.set i (some (.val (.int (g a b)))))
 |_,_=>.bad
noncomputable def oS (g:Int->Int->Int)(i:Nat)(f:FE):FS:=λρ=>Gi g (sl ρ i) ((f ρ).bind RV.fr) i ρ
noncomputable def CQ (X:Cx)(op:Operator)(g:Int->Int->Int):Prop:=∀(a b:Int) (t u:Tok) (s:Shared) (Q:Value->Shared->Prop) E,(∀tk n,Q (.int (g a b) tk) { s with toks:=n })->W X (inplaceOp op (.int a t) (.int b u)) Q E s
theorem EF:CQ X .Add λa b=>a+b:=λa b t u s Q E h=>iadd_int (h _ _)
theorem Er:CQ X .Sub λa b=>a - b:=λa b t u s Q E h=>isub_int (h _ _)
theorem OP {op:Operator}{g:Int->Int->Int}{p':Pos}(n:Nm X i x)(h:NE X e f)(ho:CQ X op g):NS X (.AugAssign (.Name x p') op e pos) (oS g i f):=λz s E hz hb=>by
 unfold oS Gi at hb ⊢
 split at hb
 ·next a b es ev=>
  obtain⟨r,er,ev⟩:=a0a.mp ev
  have vis:qp X.env.scope x:=by rcases n.loc with k|k;exact .inl k;exact .inr (.inl k)
  obtain⟨v,u,m,hn,rr,lk,e1,d,_⟩:=Z.ok.get hz es n.ix vis
  obtain⟨t,rfl⟩:=d u rr
  refine wpAny_AugAssign_Name ?_
  have go:W X (eval e X.env) (λw s₂=>W X (inplaceOp op (.int a t) w) (λr s₃=>W X (storeName X.env x r) (λ_=>Z.sp z s (.nx (z.ρ.set i (some (.val (.int (g a b)))))) .next) E s₃) E s₂) E s:=
   aY (h z s r E hz er) λw s1 q=>by
    obtain⟨t',rfl⟩:=q.2.fr ev
    refine ho a b t t' s1 _ _ λtk nn=>?_
    have g2:=q.1.trans (q.1.1.tok nn)
    exact aY (gD (p:=.int (g a b)) g2.1 n ⟨tk,rfl⟩) λ_ s2 w=>⟨rfl,(g2.tv w).to⟩
  rcases lk with ⟨hk,hm⟩|⟨hk,c,hc,hcell⟩
  ·exact wpAny_loadName_local hz.I.ok.kind hk hn hm go
  ·rcases hk with hk|hk
   ·exact wpAny_loadName_cell hz.I.ok.kind hk hc hcell go
   ·rcases n.loc with k|k
    ·have:X.env.scope.names.lookup x=some .free:=hk
     rw[k] at this;cases this
    ·have:X.env.scope.names.lookup x=some .free:=hk
     rw[k] at this;cases this
 ·exact absurd rfl hb
noncomputable def zp (g:Int->Int->Int)(o:Option PV)(ps:List PV)(k b:Int)(j:Nat)(ρ:ao):Out:=match o with
 |some (.int a)=>.nx (ρ.set j (some (.own (ps.set k.toNat (.int (g a b))))))
 |_=>.bad
noncomputable def Dh (g:Int->Int->Int)(o:Option Sl)(k v:Option PV)(j:Nat)(ρ:ao):Out:=match o,k,v with
 |some (.own ps),some (.int k),some (.int b)=>if 0<=k then zp g ps[k.toNat]? ps k b j ρ else .bad
 |_,_,_=>.bad
noncomputable def ni (g:Int->Int->Int)(j:Nat)(fi f:FE):FS:=λρ=>Dh g (sl ρ j) ((fi ρ).bind RV.fr) ((f ρ).bind RV.fr) j ρ
theorem E0 {op:Operator}{g:Int->Int->Int}{ix:Expr}{p tpos:Pos}(hN:X.N[j]?=some x)(hv:qp X.env.scope x)(hd:(x==("__debug__" : Str))=false)(hcd:(x==("__classdict__" : Str))=false)(hi:NE X ix fi)(h:NE X e f)(ho:CQ X op g)
  (ha:∀ov iv new,augStore ix ov iv new=(do holding [new,ov,iv] (setItem ov iv new);release [new,ov,iv] [];pure .next)):NS X (.AugAssign (.Subscript (.Name x p) ix tpos) op e pos) (ni g j fi f):=λz s E hz hb=>by
 unfold ni Dh at hb ⊢
 split at hb
 ·next ps k b es ek ev=>
  split at hb
  ·next h0=>
   rw[if_pos h0]
   unfold zp at hb ⊢
   split at hb
   ·next a ea=>
    obtain⟨r,er,ev⟩:=a0a.mp ev
    obtain⟨rk,erk,ek⟩:=a0a.mp ek
    obtain⟨ad,o1,_,_⟩:=Z.ok.owned hz es rfl
    have hlt:k.toNat<ps.length:=(a0j.mp ea).1
    have hlb:=lD
    refine wpAny_AugAssign_SubscriptAny (lN hz o1.2 hN hv hd hcd ?_) ha
    refine aY (hi z s rk E hz erk) λiv s2 q2=>?_
    obtain⟨t,rfl⟩:=q2.2.fr ek
    obtain⟨o2,hH,l⟩:=mC q2.1.1 es o1.2
    obtain⟨its,m,e1,zl,ds⟩:=l
    have hl:=ds.length
    obtain⟨w,ew,tw,rfl⟩:=ds.get ea
    refine wpAny_getItem_list (bw e1) h0 (by omega) (by simpa using ew) ?_
    refine aY (h z s2 r E q2.1.1 er) λv s4 q4=>?_
    obtain⟨t',rfl⟩:=q4.2.fr ev
    refine ho a b tw t' s4 _ _ λtk nn=>?_
    have g5:=q4.1.trans (q4.1.1.tok nn)
    obtain⟨o5,hH5,l5⟩:=mC g5.1 es o1.2
    have hn:sM ps.length k=some k.toNat:=by unfold sM;rw[if_pos h0,if_pos (by omega)]
    exact aY (zQ (v:=.int (g a b)) g5.1 o5 hH5 l5 hn ⟨tk,rfl⟩) λ_ s6 w=>⟨rfl,z.σ,z.H,w.1,(q2.1.2.trans g5.2).stp.trans w.2⟩
   ·exact absurd rfl hb
  ·exact absurd rfl hb
 ·exact absurd rfl hb
noncomputable def frz (i:Nat)(ρ:ao):ao:=match ρ[i]? with
 |some (some (.own ps))=>ρ.set i (some (.val (.lst ps)))
 |some (some (.dic ks ps))=>ρ.set i (some (.val (.dct ks ps)))
 |_=>ρ
noncomputable def Ge (i:Nat)(s:FS):FS:=λρ=>s (frz i ρ)
theorem Z.ok.frz {z:Z X}{s:Shared}(hz:z.ok s)(i:Nat):∃H',(z.wi z.σ H' (Dp.frz i z.ρ)).ok s/\Stp z.bad z.H H' s.heap s.heap:=by
 have main:∀(t:Sl) (p:PV),z.ρ[i]?=some (some t)->cw t=true->(∀(c:Cn) H a,c.ok a->SlOk c H s.heap t (.ref a)->D c s.heap p (.ref a))->∃H',(z.wi z.σ H' (z.ρ.set i (some (.val p)))).ok s/\Stp z.bad z.H H' s.heap s.heap:=λt p et ho hp=>by
  have hil:i<z.ρ.length:=(a0j.mp et).1
  obtain⟨a,oa,hH,d⟩:=Z.ok.owned hz (show sl z.ρ i=some t by unfold sl;rw[et];rfl) ho
  have own:∀{j b},bx z.σ (z.ρ.set i (some (.val p))) j b->j≠i/\bx z.σ z.ρ j b:=λ{j b} ⟨⟨t',e1,ot⟩,q⟩=>by
   by_cases hj:i=j
   ·subst hj;rw[a0y hil] at e1;cases e1;cases ot
   ·rw[a0k hj] at e1;exact⟨Ne.symm hj,⟨t',e1,ot⟩,q⟩
  have kp:Kp z.cn (bC X z.bad (qS z.H a)) s.heap s.heap:=⟨rfl,rfl,rfl,λb o q e=>⟨⟨gI q.1,q.2⟩,e⟩⟩
  refine⟨qS z.H a,⟨Inv.untrack hz.I hH,by simp[hz.len],λj t' q=>?_,λj k b o1 o2=>hz.dj j k b (own o1).2 (own o2).2,λj b o=>hz.nb j b (own o).2,λb o q=>?_,hz.oh0,hz.loc,hz.cel,hz.fs,hz.ex,hz.there,hz.bs,λb o q=>?_,hz.anc⟩,⟨λb o n hn e=>⟨e,gI hn⟩,λb o e=>⟨o,e⟩⟩⟩
  ·by_cases hj:i=j
   ·subst hj
    have q:(z.ρ.set i (some (.val p)))[i]?=some (some t'):=q
    rw[a0y hil] at q
    cases q
    refine⟨.ref a,oa.2,⟨.ref a,rfl⟩,λu r=>?_⟩
    rw[show u=.ref a from r]
    exact hp (bC X z.bad (qS z.H a)) z.H a ⟨iA,(hz.ot a _ hH).1⟩ (d.mono kp λ_ _ _ e=>e)
   ·have q2:(z.ρ.set i (some (.val p)))[j]?=some (some t'):=q
    rw[a0k hj] at q2
    obtain⟨w,e1,r,dd⟩:=hz.slk j t' q2
    refine⟨w,e1,r,?_⟩
    have ne:∀b,w=.ref b->cw t'=true->b≠a:=λb e3 ot y=>by
     subst y e3
     exact hj (hz.dj i j b oa ⟨⟨t',q2,ot⟩,e1⟩)
    cases t' with
    |val p=>exact λu r=>(dd u r).m kp
    |own ps=>obtain⟨b,rfl,hb,l⟩:=dd;exact⟨b,rfl,(eZ (ne b rfl rfl)).trans hb,l.mono kp λ_ e=>e⟩
    |dic ks ps=>obtain⟨b,rfl,hb,l⟩:=dd;exact⟨b,rfl,(eZ (ne b rfl rfl)).trans hb,l.mono kp λ_ e=>e⟩
  ·by_cases hb:b=a
   ·have q:qS z.H a b=some o:=q
    rw[hb,iA] at q;cases q
   ·have q:qS z.H a b=some o:=q
    rw[eZ hb] at q;exact hz.oh b o q
  ·by_cases hb:b=a
   ·have q:qS z.H a b=some o:=q
    rw[hb,iA] at q;cases q
   ·have q:qS z.H a b=some o:=q
    rw[eZ hb] at q;exact hz.ot b o q
 unfold Dp.frz
 split
 ·next ps e=>exact main _ _ e rfl λc H a o d=>by obtain⟨b,e1,_,its,n,r⟩:=d;cases e1;exact⟨a,its,n,rfl,o,r⟩
 ·next ks ps e=>exact main _ _ e rfl λc H a o d=>by obtain⟨b,e1,_,kus,r⟩:=d;cases e1;exact⟨a,kus,rfl,o,r⟩
 ·exact⟨z.H,hz,Ext.refl.stp⟩
theorem Oj {st:Stmt}{g:FS}(h:NS X st g)(i:Nat):NS X st (Ge i g):=λz s E hz hb=>by
 obtain⟨H',ok,t⟩:=Z.ok.frz hz i
 exact aY (h (z.wi z.σ H' (frz i z.ρ)) s E ok hb) λfl s' q=>q.back t
end
section
variable {X:Cx}{z:Z X}{s s' s1 s2:Shared}{h h':Heap}{fp:List Addr}
theorem Inv.turnedL {pins:List (Addr×Obj)}{σ:L2.St}{H:Hp}{t':Nat}(I:Inv X pins σ H s)(k:∀b o,b∉fp->s.heap.get? b=some o->h'.get? b=some o)(th:∀b∈fp,∃o,h'.get? b=some o)(f:∀b∈fp,i5 X pins H b):Inv X pins σ H { s with heap:=h',toks:=t' }:=by
 have ne:∀b u,H b=some u->b∉fp:=λb u q y=>by rw[(f b y).1] at q;cases q
 have hl:X.env.locals∉fp:=λy=>(f _ y).2.1 rfl
 refine I.step (g':=s.gens) (d':=s.drawn) (ch:=fp) (λb hb=>?_) (λb o _ _ hc q _=>k b o hc q) (λb o _ _ hc q _=>⟨o.slots,k b o hc q⟩) (λ_ _ _ _ n=>n)
  (λb o hc q=>⟨o,k b o hc q⟩) (λ_ _ q=>q) (λ_ _ _ q=>q) (λb ps q=>⟨#[],by rw[q];simp⟩) (λm hm=>?_) (λb u q=>?_) I.bare
 ·obtain⟨f0,f1,f2,f3,f4,f5⟩:=f b hb
  exact⟨f3,f1,f4,f5⟩
 ·obtain⟨o,es,ep,ho,r⟩:=hm
  exact⟨o,es,ep,k _ o hl ho,r⟩
 ·refine (I.hok b u q).stay (λc v hc g=>?_) (λ_ g=>g) λ_ _ g=>g
  rcases hc with y|y
  ·subst y;exact k _ v (ne _ u q) g
  ·exact k c v (ne c _ y) g
theorem Z.ok.turn {t:Nat}(hz:z.ok s)(f:∀b∈fp,i5 X z.pins z.H b/\z.bad b)(k:∀b o,b∉fp->s.heap.get? b=some o->h'.get? b=some o)(th:∀b∈fp,∃o,h'.get? b=some o):z.go s { s with heap:=h',toks:=t }:=
 hz.ext (Inv.turnedL hz.I k th λb hb=>(f b hb).1) ⟨λa o n e=>k a o (λy=>n (f a y).2) e,λa o e=>by
  by_cases y:a∈fp
  ·exact th a y
  ·exact⟨o,k a o y e⟩⟩
noncomputable abbrev Z.wb (z:Z X)(fp:List Addr):Z X:=⟨λb=>z.bad b\/b∈fp,z.pins,z.σ,z.H,z.ρ⟩
noncomputable abbrev Z.wp (z:Z X)(pl:List (Addr×Obj)):Z X:=⟨z.bad,z.pins++pl,z.σ,z.H,z.ρ⟩
theorem oZ {bad bad':Addr->Prop}{H:Hp}(e:Ext bad h h')(n:∀b,bad' b->bad b\/h.get? b=none):Kp (bC X bad H) (bC X bad' H) h h':=
 ⟨rfl,rfl,rfl,λa o q g=>⟨⟨q.1,λy=>(n a y).elim q.2 λy=>by rw[y] at g;cases g⟩,e.kp a o q.2 g⟩⟩
theorem Am {bad bad':Addr->Prop}{H:Hp}(n:∀b,bad b->bad' b):Kp (bC X bad' H) (bC X bad H) h h:=⟨rfl,rfl,rfl,λa o q g=>⟨⟨q.1,λy=>q.2 (n a y)⟩,g⟩⟩
theorem Z.ok.more (hz:z.ok s)(g:z.go s s2)(n:∀b∈fp,s.heap.get? b=none/\∃o,s2.heap.get? b=some o):(z.wb fp).ok s2:=by
 have k:=oZ (X:=X) (H:=z.H) (bad':=λb=>z.bad b\/b∈fp) g.2 λb y=>y.imp id λy=>(n b y).1
 have own:∀a o,z.H a=some o->a∉fp:=λa o q y=>by obtain⟨ob,r⟩:=hz.stands q;rw[(n a y).1] at r;cases r
 have ot:=g.1.ot
 refine⟨g.1.I,hz.len,λi t q=>?_,hz.dj,λi a q=>?_,hz.oh,hz.oh0,.inl hz.loc,λx c e=>.inl (hz.cel x c e),λb q=>.inl (hz.fs b q),λb q=>.inl (hz.ex b q),λb q=>q.elim (g.1.there b) λq=>(n b q).2,λb o e q=>?_,λa o q=>⟨λy=>y.elim (ot a o q).1 (own a o q),(ot a o q).2⟩,hz.anc⟩
 ·obtain⟨v,e1,r,d⟩:=hz.slk i t q
  refine⟨v,e1,r,d.mono k λa o ha e=>g.2.kp a o (hz.ot a _ ha).1 e⟩
 ·have e:∃ob,s.heap.get? a=some ob:=by
   obtain⟨⟨t,e1,ot⟩,e2⟩:=q
   obtain⟨v,e3,_,d⟩:=hz.slk i t e1
   rw[e2] at e3;cases e3
   cases t with
   |val p=>cases ot
   |own ps=>obtain⟨b,eb,ho,_⟩:=d;cases eb;exact hz.stands ho
   |dic ks ps=>obtain⟨b,eb,ho,_⟩:=d;cases eb;exact hz.stands ho
  exact⟨λy=>y.elim (hz.nb i a q).1 λy=>(by obtain⟨o,e⟩:=e;rw[(n a y).1] at e;cases e),(hz.nb i a q).2⟩
 ·rcases q with q|q
  ·exact hz.bs b o e q
  ·have:=(hz.I.bs b o e).1
   rw[(n b q).1] at this;cases this
theorem Z.ok.less {s3:Shared}{σ:L2.St}{H:Hp}{ρ:ao}(hz:z.ok s)(n:∀b∈fp,s.heap.get? b=none)(ok:((z.wb fp).wi σ H ρ).ok s3)(I:Inv X z.pins σ H s')(k:∀b o,b∉fp->s3.heap.get? b=some o->s'.heap.get? b=some o):(z.wi σ H ρ).ok s':=by
 have kp:Kp (bC X (z.wb fp).bad H) (bC X z.bad H) s3.heap s'.heap:=⟨rfl,rfl,rfl,λa o q g=>⟨⟨q.1,λy=>q.2 (.inl y)⟩,k a o (λy=>q.2 (.inr y)) g⟩⟩
 have no:∀a o,H a=some o->a∉fp:=λa o q y=>(ok.ot a o q).1 (.inr y)
 refine⟨I,ok.len,λi t q=>?_,ok.dj,λi a o=>⟨λy=>(ok.nb i a o).1 (.inl y),(ok.nb i a o).2⟩,ok.oh,ok.oh0,hz.loc,hz.cel,hz.fs,hz.ex,λb q=>?_,hz.bs,λa o q=>⟨λy=>(ok.ot a o q).1 (.inl y),let ⟨ob,e1,e2⟩:=(ok.ot a o q).2;⟨ob,k a ob (no a o q) e1,e2⟩⟩,ok.anc⟩
 ·obtain⟨v,e1,r,d⟩:=ok.slk i t q
  exact⟨v,e1,r,d.mono kp λa o h e=>k a o (no a _ h) e⟩
 ·obtain⟨o,e⟩:=ok.there b (.inl q)
  exact⟨o,k b o (λy=>by obtain⟨o',e'⟩:=hz.there b q;rw[n b y] at e';cases e') e⟩
theorem Stp.less {h3:Heap}{bad:Addr->Prop}{H H':Hp}(e:Ext bad h h1)(n:∀b∈fp,h.get? b=none)(t:Stp (λb=>bad b\/b∈fp) H H' h1 h3)(k:∀b o,b∉fp->h3.get? b=some o->h'.get? b=some o):Stp bad H H' h h':=by
 have no:∀a o,h.get? a=some o->a∉fp:=λa o g y=>by rw[n a y] at g;cases g
 refine⟨λa o nb q g=>?_,λa o g=>?_⟩
 ·obtain⟨r1,r2⟩:=t.kp a o (λy=>y.elim nb (no a o g)) q (e.kp a o nb g)
  exact⟨k a o (no a o g) r1,r2⟩
 ·obtain⟨o',q⟩:=e.th a o g
  obtain⟨o2,q⟩:=t.th a o' q
  exact⟨o2,k a o2 (no a o g) q⟩
theorem Z.sp.less {o:Out}{fl:Flow}(hz:z.ok s)(g:Ext z.bad s.heap s2.heap)(n:∀b∈fp,s.heap.get? b=none)(h:(z.wb fp).sp s2 o fl s'):z.sp s o fl s':=by
 have id':∀b o,b∉fp->s'.heap.get? b=some o->s'.heap.get? b=some o:=λ_ _ _ e=>e
 cases o with
 |nx ρ=>obtain⟨e,σ',H',a,b⟩:=h;exact⟨e,σ',H',hz.less n a a.I id',b.less g n id'⟩
 |bk ρ=>obtain⟨e,σ',H',a,b⟩:=h;exact⟨e,σ',H',hz.less n a a.I id',b.less g n id'⟩
 |ct ρ=>obtain⟨e,σ',H',a,b⟩:=h;exact⟨e,σ',H',hz.less n a a.I id',b.less g n id'⟩
 |rt p ρ=>obtain⟨u,σ',H',e,a,b,c⟩:=h;exact⟨u,σ',H',e,hz.less n a a.I id',b.less g n id',c.m (Am λ_=>.inl)⟩
 |rn p ρ=>obtain⟨u,σ',H',e,a,b,c,d,l⟩:=h;exact⟨u,σ',H',e,hz.less n a a.I id',b.less g n id',c,λy=>d (.inl y),l.mono (Am λ_=>.inl) λ_ e=>e⟩
 |bad=>exact h
end
structure Trn (P:Program)(w:World)(tg:Expr)(it:Addr)(fp pl:List Addr)(its:List PV)(tn:Nat->Cn->Heap->Prop):Prop where
 obj:∀i c h,tn i c h->∀b∈fp,∃o,h.get? b=some o/\∀v,o.data≠.cell v
 keep:∀i c c' h h',tn i c h->Kp c c' h h'->(∀b,b∈fp\/b∈pl->∀o,h.get? b=some o->h'.get? b=some o)->tn i c' h'
 item:∀(X:Cx),X.prog=P->X.w=w->X.calm=true->∀(z:Z X) (s:Shared) (E:Value->Shared->Prop) (i:Nat) (p:PV),z.ok s->(∀b∈fp,i5 X z.pins z.H b/\z.bad b)->(∀b∈pl,¬z.bad b)->tn i z.cn s.heap->its[i]?=some p →
  W X (pyNext (.ref it)) (λr s1=>∃u,r=some u/\W X (letOwnedTupleGo tg (.ref it) u) (λ_ s2=>z.go s s2/\D z.cn s2.heap p u/\tn (i+1) z.cn s2.heap) E s1) E s
 done:∀(X:Cx),X.prog=P->X.w=w->X.calm=true->∀(z:Z X) (s:Shared) (E:Value->Shared->Prop) (i:Nat),z.ok s->(∀b∈fp,i5 X z.pins z.H b/\z.bad b)->(∀b∈pl,¬z.bad b)->tn i z.cn s.heap->its.length<=i →
  W X (pyNext (.ref it)) (λr s1=>r=none/\Inv X z.pins z.σ z.H s1/\∀b o,b∉fp->s.heap.get? b=some o->s1.heap.get? b=some o) E s
 self:∀(A:Around) (i:Nat) (c:Cn) (s:Shared) (Q:Value->Shared->Prop) (E:Value->Shared->Prop),tn i c s.heap->Q (.ref it) s->wpAny (model P w) A (pyIter (.ref it)) Q E s
noncomputable def O4 {X:Cx}(z:Z X)(tg:Expr)(still:Bool)(its:List PV)(s:Shared)(itv:Value)(s2:Shared):Prop:=
 ∃it fp pl tn,itv=.ref it/\(still=true->pl=[])/\(∀b∈pl,¬z.bad b/\b∉fp/\∃o,s2.heap.get? b=some o)/\Trn X.prog X.w tg it fp pl its tn/\z.go s s2/\(∀b∈fp,i5 X z.pins z.H b/\s.heap.get? b=none)/\tn 0 (bC X (λb=>z.bad b\/b∈fp) z.H) s2.heap
noncomputable def NI (X:Cx)(still:Bool)(tg iter:Expr)(f:FI):Prop:=∀(z:Z X) s its E,z.ok s->f z.ρ=some its->W X (eval iter X.env) (λv s1=>W X (pyIter v) (O4 z tg still its s) E s1) E s
theorem NI.any {X:Cx}{st:Bool}{tg iter:Expr}{f:FI}(h:NI X true tg iter f):NI X st tg iter f:=λz s its E hz e=>aY (h z s its E hz e) λv s1 q=>aY q λitv s2 ⟨it,fp,pl,tn,a,b,r⟩=>⟨it,fp,pl,tn,a,λ_=>b rfl,r⟩
noncomputable def bZ (t:FT)(s:FS):List PV->ao->Out
 |[],ρ=>.nx ρ
 |p::ps,ρ=>match t p ρ with
  |some ρ1=>match s ρ1 with
   |.nx ρ2=>bZ t s ps ρ2
   |.ct ρ2=>bZ t s ps ρ2
   |.bk ρ2=>.nx ρ2
   |o=>o
  |none=>.bad
noncomputable def j5 (it:FI)(t:FT)(s:FS):FS:=λρ=>match it ρ with
 |some its=>bZ t s its ρ
 |none=>.bad
noncomputable def b7 (c:FB)(s:FS):Nat->ao->Out
 |0,_=>.bad
 |n+1,ρ=>match c ρ with
  |some true=>match s ρ with
   |.nx ρ2=>b7 c s n ρ2
   |.ct ρ2=>b7 c s n ρ2
   |.bk ρ2=>.nx ρ2
   |o=>o
  |some false=>.nx ρ
  |none=>.bad
noncomputable def ff (c:FB)(s:FS):FS:=λρ=>b7 c s 10000 ρ
section
variable {X:Cx}{tg iter:Expr}{body:List Stmt}{fi:FI}{t:FT}{g:FS}{pos:Pos}
theorem pinned {z:Z X}{s:Shared}{fp:List Addr}(hz:z.ok s)(f:∀b∈fp,i5 X z.pins z.H b)(o:∀b∈fp,∃o,s.heap.get? b=some o/\∀v,o.data≠.cell v):(z.wp (kz fp s.heap)).ok s:=
 ⟨hz.I.pinned f o,hz.len,hz.slk,hz.dj,hz.nb,hz.oh,hz.oh0,hz.loc,hz.cel,hz.fs,hz.ex,hz.there,hz.bs,hz.ot,hz.anc⟩
theorem unpinned {z:Z X}{pl:List (Addr×Obj)}{s:Shared}{σ:L2.St}{H:Hp}{ρ:ao}(hz:((z.wp pl).wi σ H ρ).ok s):(z.wi σ H ρ).ok s:=
 ⟨hz.I.unpinned,hz.len,hz.slk,hz.dj,hz.nb,hz.oh,hz.oh0,hz.loc,hz.cel,hz.fs,hz.ex,hz.there,hz.bs,hz.ot,hz.anc⟩
theorem pj {z:Z X}{fp:List Addr}{h:Heap}{s:Shared}{σ:L2.St}{H:Hp}{ρ:ao}(hz:((z.wp (kz fp h)).wi σ H ρ).ok s)(b:Addr)(hb:b∈fp)(o:Obj)(e:h.get? b=some o):s.heap.get? b=some o:=
 (hz.I.pin (b,o) (a0o _ (a0o _ (xi hb e)))).1
theorem Ot (hc:X.calm=true)(hi:NI X true tg iter fi)(hg:NG X tg t)(hb:Bo X body g)(hs:∀x,foldedSetIterable iter X.env x=pure x:=by intro _;rfl):NS X (.For tg iter body [] pos) (j5 fi t g):=λz s E hz hn=>by
 unfold j5 at hn ⊢
 split at hn
 ·next its ei=>
  refine wpAny_For (aY (hi z s its E hz ei) λv s1 h1=>aY h1 λitv s2 h2=>?_) hs
  obtain⟨it,fp,pl,tn,e,hpl,_,T,g2,f2,st2⟩:=h2
  cases hpl rfl
  subst e
  have z2:(z.wb fp).ok s2:=hz.more g2 λb hb=>⟨(f2 b hb).2,let ⟨o,e,_⟩:=T.obj _ _ _ st2 b hb;⟨o,e⟩⟩
  have stat:∀{σ H ρ s'},((z.wb fp).wi σ H ρ).ok s'->∀b∈fp,i5 X z.pins H b/\(z.wb fp).bad b:=λ{σ H ρ s'} ok b hb=>⟨⟨by
   cases q:H b with
   |none=>rfl
   |some o=>exact absurd (Or.inr hb) (ok.ot b o q).1,(f2 b hb).1.2⟩,.inr hb⟩
  have fin:∀{fl s'},(z.wb fp).sp s2 (bZ t g its z.ρ) fl s'->z.sp s (bZ t g its z.ρ) fl s':=λh=>h.less hz g2.2 λb hb=>(f2 b hb).2
  generalize ho:bZ t g its z.ρ=o at hn fin ⊢
  refine codeAny_forLoop_any (λn s'=>∃i σ' H' ρ',n=its.length - i/\i<=its.length/\((z.wb fp).wi σ' H' ρ').ok s'/\Stp (z.wb fp).bad z.H H' s2.heap s'.heap/\tn i (bC X (z.wb fp).bad H') s'.heap/\bZ t g (its.drop i) ρ'=o) ?_ its.length ⟨0,z.σ,z.H,z.ρ,rfl,a3b _,z2,Ext.refl.stp,st2,ho⟩
  rintro n s3 ⟨i,σ3,H3,ρ3,rfl,hi3,ok3,t3,st3,eo⟩
  by_cases hlt:i<its.length
  ·rw[a3e hlt,bZ] at eo
   cases e1:t its[i] ρ3 with
   |none=>rw[e1] at eo;exact absurd eo.symm hn
   |some ρ4=>
   rw[e1] at eo
   simp only[] at eo
   refine aY (T.item X rfl rfl hc ((z.wb fp).wi σ3 H3 ρ3) s3 _ i its[i] ok3 (stat ok3) (λb q=>nomatch q) st3 (a0f hlt)) λr s4 ⟨u,hr,h4⟩=>?_
   subst hr
   refine aY h4 λ_ s5 ⟨g5,d5,st5⟩=>?_
   have ok5:=pinned g5.1 (λb hb=>(stat g5.1 b hb).1) (T.obj _ _ _ st5)
   refine aY (hg _ s5 its[i] u ρ4 _ ok5 d5 e1) λ_ s6 ⟨σ6,ok6,x6⟩=>?_
   have hnb:g ρ4≠.bad:=λq=>by rw[q] at eo;exact hn eo.symm
   refine aY (hb _ s6 _ ok6 hnb) λf s7 q7=>?_
   have t6:Stp (z.wb fp).bad z.H H3 s2.heap s6.heap:=t3.trans (g5.2.trans x6).stp
   have again:∀{ρ7 σ7 H7},((((z.wb fp).wi σ3 H3 ρ3).wp (kz fp s5.heap)).wi σ7 H7 ρ7).ok s7->Stp (z.wb fp).bad H3 H7 s6.heap s7.heap->bZ t g (its.drop (i+1)) ρ7=o →
     ∃m,m<its.length - i/\∃i σ' H' ρ',m=its.length - i/\i<=its.length/\((z.wb fp).wi σ' H' ρ').ok s7/\Stp (z.wb fp).bad z.H H' s2.heap s7.heap/\tn i (bC X (z.wb fp).bad H') s7.heap/\bZ t g (its.drop i) ρ'=o:=λ{ρ7 σ7 H7} ok7 t7 e7=>by
    refine⟨its.length - (i+1),by omega,i+1,σ7,H7,ρ7,rfl,hlt,unpinned (z:=(z.wb fp).wi σ3 H3 ρ3) ok7,t6.trans t7,?_,e7⟩
    exact T.keep _ _ _ _ _ st5 (x6.stp.trans t7).kpD λb hb=>hb.elim (λhb=>pj (z:=(z.wb fp).wi σ3 H3 ρ3) ok7 b hb) λq=>nomatch q
   generalize g ρ4=o4 at eo q7 hnb
   cases o4 with
   |nx ρ7=>obtain⟨e,σ7,H7,ok7,t7⟩:=q7;subst e;exact again ok7 t7 eo
   |ct ρ7=>obtain⟨e,σ7,H7,ok7,t7⟩:=q7;subst e;exact again ok7 t7 eo
   |bk ρ7=>obtain⟨e,σ7,H7,ok7,t7⟩:=q7;subst e;refine fin ?_;rw[←eo];exact⟨rfl,σ7,H7,unpinned (z:=(z.wb fp).wi σ3 H3 ρ3) ok7,t6.trans t7⟩
   |rt p ρ7=>obtain⟨u,σ7,H7,e,ok7,t7,d7⟩:=q7;subst e;refine fin ?_;rw[←eo];exact⟨u,σ7,H7,rfl,unpinned (z:=(z.wb fp).wi σ3 H3 ρ3) ok7,t6.trans t7,d7⟩
   |rn p ρ7=>obtain⟨u,σ7,H7,e,ok7,t7,d7⟩:=q7;subst e;refine fin ?_;rw[←eo];exact⟨u,σ7,H7,rfl,unpinned (z:=(z.wb fp).wi σ3 H3 ρ3) ok7,t6.trans t7,d7⟩
   |bad=>exact absurd rfl hnb
  ·rw[a2i (by omega),bZ] at eo
   refine aY (T.done X rfl rfl hc ((z.wb fp).wi σ3 H3 ρ3) s3 _ i ok3 (stat ok3) (λb q=>nomatch q) st3 (by omega)) λr s4 ⟨hr,I4,k4⟩=>?_
   subst hr
   refine wpAny_execs_nil ?_
   show Z.sp z s o .next _
   rw[←eo]
   exact⟨rfl,σ3,H3,hz.less (λb hb=>(f2 b hb).2) ok3 I4 k4,t3.less g2.2 (λb hb=>(f2 b hb).2) k4⟩
 ·exact absurd rfl hn
theorem Ha {c:Expr}{fc:FB}(hc:NB X c fc)(hb:Bo X body g):NS X (.While c body [] pos) (ff fc g):=λz s E hz hn=>by
 unfold ff at hn ⊢
 generalize ho:b7 fc g 10000 z.ρ=o at hn ⊢
 refine wpAny_While (codeAny_whileLoop (λn s'=>∃σ' H' ρ',(z.wi σ' H' ρ').ok s'/\Stp z.bad z.H H' s.heap s'.heap/\b7 fc g n ρ'=o) ?_ 10000 ⟨z.σ,z.H,z.ρ,hz,Ext.refl.stp,ho⟩)
 rintro n s1 ⟨σ1,H1,ρ1,ok1,t1,eo⟩
 cases n with
 |zero=>exact absurd eo.symm hn
 |succ n=>
  rw[b7] at eo
  cases ec:fc ρ1 with
  |none=>rw[ec] at eo;exact absurd eo.symm hn
  |some b=>
  rw[ec] at eo
  refine aY (hc (z.wi σ1 H1 ρ1) s1 b _ ok1 ec) λb' s2 ⟨e,g2⟩=>?_
  subst e
  cases b' with
  |true=>
   rw[if_pos rfl]
   have hnb:g ρ1≠.bad:=λq=>by rw[q] at eo;exact hn eo.symm
   refine aY (hb (z.wi σ1 H1 ρ1) s2 _ g2.1 hnb) λf s3 q3=>?_
   have t2:Stp z.bad z.H H1 s.heap s2.heap:=t1.trans g2.2.stp
   simp only[] at eo
   generalize g ρ1=o4 at eo q3 hnb
   cases o4 with
   |nx ρ7=>obtain⟨e,σ7,H7,ok7,t7⟩:=q3;subst e;exact⟨n,a2j _,σ7,H7,ρ7,ok7,t2.trans t7,eo⟩
   |ct ρ7=>obtain⟨e,σ7,H7,ok7,t7⟩:=q3;subst e;exact⟨n,a2j _,σ7,H7,ρ7,ok7,t2.trans t7,eo⟩
   |bk ρ7=>obtain⟨e,σ7,H7,ok7,t7⟩:=q3;subst e;show Z.sp z s o .next _;rw[←eo];exact⟨rfl,σ7,H7,ok7,t2.trans t7⟩
   |rt p ρ7=>obtain⟨u,σ7,H7,e,ok7,t7,d7⟩:=q3;subst e;show Z.sp z s o (.ret u) _;rw[←eo];exact⟨u,σ7,H7,rfl,ok7,t2.trans t7,d7⟩
   |rn p ρ7=>obtain⟨u,σ7,H7,e,ok7,t7,d7⟩:=q3;subst e;show Z.sp z s o (.ret (.ref u)) _;rw[←eo];exact⟨u,σ7,H7,rfl,ok7,t2.trans t7,d7⟩
   |bad=>exact absurd rfl hnb
  |false=>
   rw[if_neg a0u]
   refine wpAny_execs_nil ?_
   show Z.sp z s o .next _
   rw[←eo]
   exact⟨rfl,σ1,H1,g2.1,t1.trans g2.2.stp⟩
end
end Dp
end
section
namespace L2
open PySem PySem.Spec PyProof.Rows
section
variable {prog:Program}{w:World}{A:Around}{E:Value->Shared->Prop}{s:Shared}
theorem Jo {it t:Addr}{i:Nat}{items:Array Value}{x:Value}{Q:Value->Shared->Prop}(hit:s.heap.IsTupleIter it t i)(ht:s.heap.IsTuple t items)(hx:items[i]?=some x)
  (hQ:∀h',h'.IsTupleIter it t (i+1)->Heap.SameBut it s.heap h'->Q x { s with heap:=h' }):wpAny (model prog w) A (Builtin.SmallTypes.nextOf (.ref it)) Q E s:=by
 have hT:=hit.typeIs
 obtain⟨o,ho,hc,hd⟩:=hit;obtain⟨ol,hol,_,nl,hdl⟩:=ht
 unfold Builtin.SmallTypes.nextOf
 refine wpAny_bind (wpAny_callSpecial?_slot (name:=Str.ofString "__next__") hT F.slot_tuple_iterator_next (wpAny_call_entry F.slot_tuple_iterator_next hT F.entry_tuple_iterator_next ?_ (F.args_tuple_iterator_next_1 _)))
 refine (?_:wpAny _ _ (field (.ref it) 0 >>= _) _ _ s);refine wpAny_bind (wpAny_field ho hd (x:=.ref t) rfl (?_:wpAny _ _ (if (Value.ref t==Value.none)=true then _ else _) _ _ s))
 rw[if_neg (show ¬((Value.ref t==Value.none)=true) from a0u)];refine (?_:wpAny _ _ (field (.ref it) 1 >>= _) _ _ s);refine wpAny_bind (wpAny_field ho hd (x:=.int i 0) rfl (?_:wpAny _ _ (seqItems? (.ref t) >>= _) _ _ s));refine wpAny_bind (m:=seqItems? (.ref t)) (wpAny_seqItems hol hdl ?_);simp only[a1o,hx]
 refine wpAny_bind (wpAny_setField ho hd (by simp) (wpAny_pure ⟨x,rfl,wpAny_pure (hQ _ ⟨_,Heap.get?_update_self _ ho (Obj.isFreed_of_fields (Obj.data_mapFields hd _)),(Obj.cls_mapFields ..).trans hc,by rw[Obj.data_mapFields hd];simp[rawInt]⟩ (Heap.SameBut.update ..))⟩))
theorem Ay {it t:Addr}{i:Nat}{items:Array Value}{Q:Value->Shared->Prop}(hh:A.handled=none)(hit:s.heap.IsTupleIter it t i)(ht:s.heap.IsTuple t items)(hx:items[i]?=none)
  (hE:∀h' e,Heap.ExtBut it s.heap h'->(∃o,h'.get? e=some o/\o.cls=.type "StopIteration")->E (.ref e) { s with heap:=h' }):wpAny (model prog w) A (Builtin.SmallTypes.nextOf (.ref it)) Q E s:=by
 have hT:=hit.typeIs
 obtain⟨o,ho,hc,hd⟩:=hit;obtain⟨ol,hol,_,nl,hdl⟩:=ht
 unfold Builtin.SmallTypes.nextOf
 refine wpAny_bind (wpAny_callSpecial?_slot (name:=Str.ofString "__next__") hT F.slot_tuple_iterator_next (wpAny_call_entry F.slot_tuple_iterator_next hT F.entry_tuple_iterator_next ?_ (F.args_tuple_iterator_next_1 _)))
 refine (?_:wpAny _ _ (field (.ref it) 0 >>= _) _ _ s);refine wpAny_bind (wpAny_field ho hd (x:=.ref t) rfl (?_:wpAny _ _ (if (Value.ref t==Value.none)=true then _ else _) _ _ s))
 rw[if_neg (show ¬((Value.ref t==Value.none)=true) from a0u)];refine (?_:wpAny _ _ (field (.ref it) 1 >>= _) _ _ s);refine wpAny_bind (wpAny_field ho hd (x:=.int i 0) rfl (?_:wpAny _ _ (seqItems? (.ref t) >>= _) _ _ s));refine wpAny_bind (m:=seqItems? (.ref t)) (wpAny_seqItems hol hdl ?_);simp only[a1o,hx]
 refine wpAny_bind (wpAny_rule (wpAny_bind (wpAny_setField ho hd (by simp) (?_:wpAny _ _ (newExc (.type "StopIteration") [] >>= _) _ _ _))))
 refine wpAny_bind ?_;simp only[newExc,newTuple];refine wpAny_bind (wpAny_newObj_type ?_ (by size_fits))
 refine wpAny_bind (m:=firstArgMember _ _) (wpAny_of_eq (a:=Value.none) (by first|rfl|(simp only[firstArgMember];rfl)) (wpAny_newObj_type ?_ (by size_fits)))
 simp only[raiseNew];refine wpAny_bind (wpAny_handled ?_);first|rw[show A.in1.handled=none from hh]|rw[hh]
 exact wpAny_bind (wpAny_pure (wpAny_throw (hE _ _ (((Heap.SameBut.update ..).extBut.push _).push _) ⟨_,Heap.get?_push_size _ rfl,rfl⟩)))
end
theorem pc {h h':Heap}{a t:Addr}{i:Nat}(x:h.IsTupleIter a t i)(k:∀o,h.get? a=some o->h'.get? a=some o):h'.IsTupleIter a t i:=let ⟨o,ho,r⟩:=x;⟨o,k o ho,r⟩
theorem FN {h h':Heap}{a:Addr}{its:Array Value}(x:h.IsTuple a its)(k:∀o,h.get? a=some o->h'.get? a=some o):h'.IsTuple a its:=let ⟨o,ho,r⟩:=x;⟨o,k o ho,r⟩
theorem LX {prog:Program}{w:World}{A:Around}(hh:A.handled=none)(it l:Addr)(hne:l≠it)(items:Array Value):Draws prog w A it [it,l] items.size (λi v=>items[i]?=some v) (λi h=>h.IsTupleIter it l i/\h.IsTuple l items) where
 live:=λ_ _ ⟨⟨o,ho,_⟩,_⟩=>⟨o,ho⟩
 frame:=λ_ _ _ ⟨a,b⟩ hk=>⟨pc a λo e=>hk it (by simp) o e,FN b λo e=>hk l (by simp) o e⟩
 item:=λi s Q E hi ⟨a,b⟩ hQ=>Jo a b (x:=items[i]) (by simp[hi]) λh' hit' hs'=>hQ _ h' s.toks (by simp[hi]) ⟨hit',b.extBut hs'.extBut hne⟩ hs'
 done:=λs Q E ⟨a,b⟩ hE=>Ay hh a b (by simp) hE
open AutoSeq1 (wpAny_loadPart') in
theorem Hc (l:Addr)(items:Array Value)(n:Nat)(dct:Option Addr)(sl:Array (Option Value)):Meets (Builtin.«enumerate.__new__» ⟨[.type "enumerate",.ref l],[]⟩) (λ_ R s=>s.heap.get? l=some { cls:=.type "tuple",dict:=dct,data:=.seq items n,slots:=sl }/\R (.ok (.ret (.ref (s.heap.push { cls:=.type "tuple_iterator",data:=.fields #[.ref l,.int 0 0] }).objs.size))) { s with heap:=(s.heap.push { cls:=.type "tuple_iterator",data:=.fields #[.ref l,.int 0 0] }).push { cls:=.type "enumerate",data:=.fields #[.none,.bool false,.ref s.heap.objs.size,rawInt 0,.none,.none] } }):=
 .of_wp λprog w A R s h=>by
  obtain⟨hp,g,d,tk,os⟩:=s;obtain⟨hl,h⟩:=h
  have hsub:=sub_enumerate;have hL:Heap.IsTuple (Shared.heap ⟨hp,g,d,tk,os⟩) l items:=⟨_,hl,rfl,n,rfl⟩
  wp_walk using wpAny_loadPart' hl;refine wpAny_stack_any λst=>wpAny_pure ?_
  split
  ·rename_i c _ _ _ _ _;cases (c==Value.type "enumerate")<;>(wp_walk using wpAny_loadPart' hl,wpAny_pyIter_tuple hL;exact⟨_,rfl,h⟩)
  ·wp_walk using wpAny_loadPart' hl,wpAny_pyIter_tuple hL;exact⟨_,rfl,h⟩
section
variable {prog:Program}{w:World}{A:Around}{E:Value->Shared->Prop}{s:Shared}
theorem DU {l:Addr}{items:Array Value}{Q:Value->Shared->Prop}(hL:s.heap.IsTuple l items)
  (h:∀h',IsEnum h' (s.heap.objs.size+1) s.heap.objs.size 0 .none->h'.IsTupleIter s.heap.objs.size l 0->h'.objs.size=s.heap.objs.size+2->(∀b o,s.heap.get? b=some o->h'.get? b=some o)->Q (.ref (s.heap.objs.size+1)) { s with heap:=h' }):wpAny (model prog w) A (call (.type "enumerate") [.ref l]) Q E s:=by
 obtain⟨⟨c,dct,dt,sl⟩,hl,hc,n,hd⟩:=hL;replace hc:c=.type "tuple":=hc;replace hd:dt=.seq items n:=hd;subst hc hd
 refine callType_new F.called_enumerate (by decide) (F.typeCall_enumerate_1 _) (F.newCall_enumerate_1 _) (λobj=>F.args_object_init_2 obj _) F.entry_enumerate_new (Hc l items n dct sl) ⟨hl,?_⟩
 have hz:(s.heap.push { cls:=.type "tuple_iterator",data:=.fields #[.ref l,.int 0 0] }).objs.size=s.heap.objs.size+1:=Heap.size_push ..
 refine (?_:_/\_);rw[hz]
 have he:IsEnum ((s.heap.push { cls:=.type "tuple_iterator",data:=.fields #[.ref l,.int 0 0] }).push { cls:=.type "enumerate",data:=.fields #[.none,.bool false,.ref s.heap.objs.size,rawInt 0,.none,.none] }) (s.heap.objs.size+1) s.heap.objs.size 0 .none:=by
  have:=Heap.get?_push_size (s.heap.push { cls:=.type "tuple_iterator",data:=.fields #[.ref l,.int 0 0] }) (o:={ cls:=.type "enumerate",data:=.fields #[.none,.bool false,.ref s.heap.objs.size,rawInt 0,.none,.none] }) rfl
  rw[hz] at this;exact this
 exact⟨⟨_,he,rfl⟩,h _ he ⟨_,Heap.get?_push_of_some _ (Heap.get?_push_size _ rfl),rfl,rfl⟩ (by rw[Heap.size_push,hz]) λb o x=>Heap.get?_push_of_some _ (Heap.get?_push_of_some _ x)⟩
end
end L2
end
section
namespace Dp
open PySem PySem.Spec L2 PyProof.Rows
section
variable {P:Program}{w:World}{tg:Expr}{h h':Heap}
theorem ze {a it:Addr}{ps:List PV}{ow:Bool}:Trn P w tg it [it] (if ow then [a] else []) ps (λi c h=>h.IsListIter it a i/\ListAt c h a ps/\(ow=false->c.ok a)) where
 obj:=λi c h st b hb=>by
  have e:b=it:=by simpa using hb
  subst e
  obtain⟨⟨o,e,_,d⟩,_⟩:=st
  exact⟨o,e,λv z=>by rw[d] at z;cases z⟩
 keep:=λi c c' h h' st k kk=>by
  obtain⟨st,l,ok⟩:=st
  refine⟨st.at λo e=>kk it (.inl (by simp)) o e,l.mono k λo e=>?_,λe=>?_⟩
  ·cases ow with
   |true=>exact kk a (.inr (by simp)) o e
   |false=>exact (k.kp a o (ok rfl) e).2
  ·obtain⟨its,n,g,_⟩:=l
   exact (k.kp a _ (ok e) g).1
 item:=λX hP hw hc z s E i p hz hf hp st hx=>by
  subst hP hw
  obtain⟨st,l,ok⟩:=st
  obtain⟨its,n,g,zl,ds⟩:=id l
  obtain⟨u,hu,du⟩:=ds.get hx
  refine wpAny_pyNext_list_item st (bw g) (x:=u) (by simpa using hu) λh' st' sb=>?_
  have nb:a≠it:=λe=>by
   obtain⟨o,e1,c1,_⟩:=st
   rw[←e,g] at e1;cases e1;exact absurd (Value.type.inj c1) (by decide)
  have go:=hz.turn (t:=s.toks) (h':=h') hf (λb o hb e=>(sb.2 b (by simpa using hb)).trans e) λb hb=>by
   rw[show b=it by simpa using hb];exact⟨_,st'.choose_spec.1⟩
  have kp:Kp z.cn z.cn s.heap h':=go.2.kpD
  obtain⟨o,e,c,d⟩:=id st'
  exact⟨u,rfl,uH (s:={ s with heap:=h' }) e c d (by decide) ⟨go,du.m kp,st',l.mono kp λo e=>(sb.2 a nb).trans e,ok⟩⟩
 done:=λX hP hw hc z s E i hz hf hp st hx=>by
  subst hP hw
  obtain⟨st,l,ok⟩:=st
  obtain⟨its,n,g,zl,ds⟩:=l
  have hl:=ds.length
  obtain⟨f,bd⟩:=hf it (by simp)
  exact wpAny_pyNext_list_end (hz.I.ok.hd hc) st (bw g) (by simp;omega) λh' eb=>⟨rfl,hz.I.turned (t':=s.toks) (λb o hb e=>eb b o hb e) f.1 f.2.1 f.2.2.2.1 f.2.2.2.2.1 f.2.2.2.2.2,λb o hb e=>eb b o (by simpa using hb) e⟩
 self:=λA i c s Q E st q=>wpAny_pyIter_listiter st.1 q
theorem Jj {a it:Addr}{ps:List PV}:Trn P w tg it [it] [] ps (λi c h=>h.IsTupleIter it a i/\∃its,IsTup h a its.toArray/\its.length<=sizeLine/\Ds c h ps its/\c.ok a) where
 obj:=λi c h st b hb=>by
  have e:b=it:=by simpa using hb
  subst e
  obtain⟨⟨o,e,_,d⟩,_⟩:=st
  exact⟨o,e,λv z=>by rw[d] at z;cases z⟩
 keep:=λi c c' h h' st k kk=>by
  obtain⟨st,its,⟨o,g,r⟩,zl,ds,ok⟩:=st
  exact⟨pc st λo e=>kk it (.inl (by simp)) o e,its,⟨o,(k.kp a _ ok g).2,r⟩,zl,ds.mono k,(k.kp a _ ok g).1⟩
 item:=λX hP hw hc z s E i p hz hf hp st hx=>by
  subst hP hw
  obtain⟨st,its,g,zl,ds,ok⟩:=st
  obtain⟨u,hu,du⟩:=ds.get hx
  refine wpAny_pyNext_tuple_item st (show s.heap.IsTuple a its.toArray from g) (x:=u) (by simpa using hu) λh' st' sb=>?_
  have go:=hz.turn (t:=s.toks) (h':=h') hf (λb o hb e=>(sb.2 b (by simpa using hb)).trans e) λb hb=>by
   rw[show b=it by simpa using hb];exact⟨_,st'.choose_spec.1⟩
  have kp:Kp z.cn z.cn s.heap h':=go.2.kpD
  obtain⟨o,e,c,d⟩:=id st'
  obtain⟨o2,g2,r2⟩:=g
  exact⟨u,rfl,uH (s:={ s with heap:=h' }) e c d (by decide) ⟨go,du.m kp,st',its,⟨o2,(kp.kp a _ ok g2).2,r2⟩,zl,ds.mono kp,ok⟩⟩
 done:=λX hP hw hc z s E i hz hf hp st hx=>by
  subst hP hw
  obtain⟨st,its,g,zl,ds,ok⟩:=st
  have hl:=ds.length
  obtain⟨f,bd⟩:=hf it (by simp)
  exact wpAny_pyNext_tuple_end (hz.I.ok.hd hc) st (show s.heap.IsTuple a its.toArray from g) (by simp;omega) λh' eb=>⟨rfl,hz.I.turned (t':=s.toks) (λb o hb e=>eb b o hb e) f.1 f.2.1 f.2.2.2.1 f.2.2.2.2.1 f.2.2.2.2.2,λb o hb e=>eb b o (by simpa using hb) e⟩
 self:=λA i c s Q E st q=>wpAny_pyIter_tupleiter st.1 q
noncomputable def tS (lo:Int)(n:Nat)(c:Int):List PV:=(a0l n).map λk:Nat=>.int (lo+k * c)
theorem Bq {lo c:Int}{n i:Nat}{p:PV}(e:(tS lo n c)[i]?=some p):i<n/\p=.int (lo+i * c):=by
 unfold tS at e
 rw[a0q] at e
 obtain⟨k,ek,rfl⟩:=a0d.mp e
 obtain⟨hk,rfl⟩:=a0j.mp ek
 exact⟨by simpa using hk,by rw[a3s]⟩
theorem we {lo:Int}{n:Nat}:tS lo n 1=mV lo n:=by unfold tS mV;simp only[Int.mul_one]
theorem LA {it:Addr}{lo c0:Int}{n:Nat}:Trn P w tg it [it] [] (tS lo n c0) (λi c h=>IsRangeIter h it (lo+(i:Nat) * c0) ((n:Int) - (i:Nat)) c0) where
 obj:=λi c h st b hb=>by
  have e:b=it:=by simpa using hb
  subst e
  exact⟨_,st,λv z=>by
   have z':Data.fields _=Data.cell v:=z
   cases z'⟩
 keep:=λi c c' h h' st k kk=>kk it (.inl (by simp)) _ st
 item:=λX hP hw hc z s E i p hz hf hp st hx=>by
  subst hP hw
  obtain⟨hi,rfl⟩:=Bq hx
  have W:=Walks.range (prog:=X.prog) (w:=X.w) (hz.I.ok.hd hc) it lo c0 n
  refine W.item i s _ _ hi st λv h' tk hv st' kk=>?_
  obtain⟨t,rfl⟩:=hv
  have go:=hz.turn (t:=tk) (h':=h') hf (λb o hb e=>kk b o hb e) λb hb=>by
   rw[show b=it by simpa using hb];exact⟨_,st'⟩
  exact⟨_,rfl,uH (s:={ s with heap:=h',toks:=tk }) (n:="range_iterator") st' rfl rfl (by decide) ⟨go,⟨t,rfl⟩,st'⟩⟩
 done:=λX hP hw hc z s E i hz hf hp st hx=>by
  subst hP hw
  obtain⟨f,bd⟩:=hf it (by simp)
  exact wpAny_pyNext_range_end (hz.I.ok.hd hc) st (by have:n<=i:=(by simpa [tS] using hx);omega) λh' eb=>⟨rfl,hz.I.turned (t':=s.toks) (λb o hb e=>eb b o hb e) f.1 f.2.1 f.2.2.2.1 f.2.2.2.2.1 f.2.2.2.2.2,λb o hb e=>eb b o (by simpa using hb) e⟩
 self:=λA i c s Q E st q=>wpAny_pyIter_rangeiter st q
end
section
variable {X:Cx}{tg iter:Expr}{f:FE}{fs:FA}{st:Bool}{z:Z X}{s s1:Shared}
noncomputable def qE (f:FE):FI:=λρ=>(f ρ).bind λr=>r.fr.bind items
noncomputable def OH (f:FE):FI:=λρ=>(f ρ).bind λr=>kh r.pv
theorem Z.ok.fp (hz:z.ok s1)(g:Ext z.bad s.heap s1.heap){b:Addr}(hb:s1.heap.objs.size<=b):i5 X z.pins z.H b/\s.heap.get? b=none:=
 ⟨hz.I.fpOk hb (hz.I.hok.fresh hb),Ext.back g (Heap.get?_none_of_le hb)⟩
theorem fA {P:Addr->Prop}{a:Addr}(h:P a):∀b∈[a],P b:=λb hb=>by rw[show b=a by simpa using hb];exact h
theorem uJ (hz:z.ok s1){h2:Heap}{fp:List Addr}(k:∀b o,s1.heap.get? b=some o->h2.get? b=some o)(n:∀b∈fp,s1.heap.objs.size<=b):Kp z.cn (bC X (λb=>z.bad b\/b∈fp) z.H) s1.heap h2:=
 oZ (.kept k) λb y=>y.imp id λy=>Heap.get?_none_of_le (n b y)
theorem Ev {p:PV}{its:List PV}{v:Value}{E:Value->Shared->Prop}(g:z.go s s1)(d:D z.cn s1.heap p v)(e:items p=some its):W X (pyIter v) (O4 z tg true its s) E s1:=by
 obtain⟨a,us,rfl,ok,zl,ds,h⟩:=D1.items d e
 have g2:∀o:Obj,z.go s { s1 with heap:=s1.heap.push o }:=λo=>g.trans (g.1.push o s1.toks)
 have kk:∀o:Obj,Kp z.cn (bC X (λb=>z.bad b\/b∈[s1.heap.objs.size]) z.H) s1.heap (s1.heap.push o):=λo=>uJ g.1 (λb o e=>Heap.get?_push_of_some _ e) (fA (P:=λb=>s1.heap.objs.size<=b) (a0n _))
 rcases h with ⟨o,ho,r⟩|⟨n,ho⟩
 ·have ht:s1.heap.IsTuple a us.toArray:=⟨o,ho,r⟩
  refine wpAny_pyIter_tuple ht ⟨s1.heap.objs.size,[s1.heap.objs.size],[],_,rfl,λ_=>rfl,λb q=>(nomatch q),Jj (a:=a),g2 _,fA (g.1.fp g.2 (a0n _)),⟨_,Heap.get?_push_size _ rfl,rfl,rfl⟩,us,⟨o,Heap.get?_push_of_some _ ho,r⟩,zl,ds.mono (kk _),((kk (d9 [] 0)).kp a o ok ho).1⟩
 ·refine wpAny_pyIter_list (bw ho) ⟨s1.heap.objs.size,[s1.heap.objs.size],[],_,rfl,λ_=>rfl,λb q=>(nomatch q),ze (a:=a) (ow:=false),g2 _,fA (g.1.fp g.2 (a0n _)),⟨_,Heap.get?_push_size _ rfl,rfl,rfl⟩,⟨us,n,Heap.get?_push_of_some _ ho,zl,ds.mono (kk _)⟩,λ_=>((kk (d9 [] 0)).kp a _ ok ho).1⟩
theorem C7 (h:NE X iter f):NI X true tg iter (qE f):=λz s its E hz q=>by
 obtain⟨r,e1,q⟩:=a0a.mp q
 obtain⟨p,e2,q⟩:=a0a.mp q
 exact aY (h z s r E hz e1) λv s1 q1=>Ev q1.1 (q1.2.fr e2) q
theorem Jr (h:NE X iter f):NI X false tg iter (OH f):=λz s its E hz q=>by
 obtain⟨r,e1,q⟩:=a0a.mp q
 refine aY (h z s r E hz e1) λv s1 q1=>?_
 cases hr:r.fr with
 |some p=>
  have:r.pv=p:=by cases r<;>cases hr<;>rfl
  subst this
  exact aY (Ev q1.1 (q1.2.fr hr) (by cases hp:r.pv<;>rw[hp] at q<;>first|exact q|cases q)) λitv s2 ⟨it,fp,pl,tn,a,b,r⟩=>⟨it,fp,pl,tn,a,λ_=>b rfl,r⟩
 |none=>
  cases r with
  |ln p=>
   obtain⟨g,⟨d,lb,nb⟩⟩:=q1
   have d:=D1.lst d q
   obtain⟨a,us,n,rfl,_,ho,zl,ds⟩:=d
   have kk:=uJ (fp:=[s1.heap.objs.size]) g.1 (λb o e=>Heap.get?_push_of_some (h:=s1.heap) { cls:=.type "list_iterator",data:=.fields #[.ref a,.int 0 0] } e) (fA (P:=λb=>s1.heap.objs.size<=b) (a0n _))
   refine wpAny_pyIter_list (bw ho) ⟨s1.heap.objs.size,[s1.heap.objs.size],[a],_,rfl,λe=>(nomatch e),λb hb=>(by rw[show b=a by simpa using hb];exact⟨nb a rfl,λy=>(by rw[show a=s1.heap.objs.size by simpa using y] at ho;exact absurd (Heap.lt_size ho) (a1k _)),_,Heap.get?_push_of_some _ ho⟩),ze (a:=a) (ow:=true),g.trans (g.1.push _ s1.toks),fA (g.1.fp g.2 (a0n _)),⟨_,Heap.get?_push_size _ rfl,rfl,rfl⟩,⟨us,n,Heap.get?_push_of_some _ ho,zl,ds.mono kk⟩,λe=>(nomatch e)⟩
  |_=>cases hr
noncomputable def zy (i:Int):Bool:=decide (-(2 ^ 62)<=i)&&decide (i<2 ^ 62)
theorem yb {i:Int}(h:zy i=true):-(2 ^ 62)<=i/\i<2 ^ 62:=by
 unfold zy at h
 rw[a0b,decide_eq_true_eq,decide_eq_true_eq] at h
 exact h
noncomputable def ok3 (i j c:Int):Bool:=decide (c≠0)&&Builtin.Range.small i j c&&decide (0<=Builtin.Range.rangeSize i j c)&&!Builtin.divisionGoesByPylong (j - i) c
noncomputable def mU (l:List PV):Option (List PV):=(u1 l).bind λp=>(qo p).bind λj=>if zy j then some (mV 0 j.toNat) else none
noncomputable def Cz (l:List PV):Option (List PV):=(u2 l).bind λp=>(qo p.1).bind λi=>(qo p.2).bind λj=>if zy i&&zy j then some (mV i (j - i).toNat) else none
noncomputable def Ek (l:List PV):Option (List PV):=(u3 l).bind λp=>(qo p.1).bind λi=>(qo p.2.1).bind λj=>(qo p.2.2).bind λc=>if ok3 i j c then some (tS i (Builtin.Range.rangeSize i j c).toNat c) else none
noncomputable def jY (g:List PV->Option (List PV))(fs:FA):FI:=λρ=>(fs ρ).bind λrs=>g (rs.map RV.pv)
theorem xu {its:List PV}{lo hi c:Int}{t u v:Tok}{tk:Nat}{E:Value->Shared->Prop}(g:z.go s s1)(h1:Builtin.Range.small lo hi c=true)(h2:0<=Builtin.Range.rangeSize lo hi c)(e:its=tS lo (Builtin.Range.rangeSize lo hi c).toNat c) :
  W X (pyIter (.ref s1.heap.objs.size)) (O4 z tg true its s) E { s1 with heap:=s1.heap.push { cls:=.type "range",data:=.fields #[.int lo t,.int hi u,.int c v] },toks:=tk }:=by
 subst e
 generalize ho:({ cls:=.type "range",data:=.fields #[.int lo t,.int hi u,.int c v] }:Obj)=o
 have g2:=g.trans (g.1.push o tk)
 refine wpAny_pyIter_range (by subst ho;exact IsRange.new ..) h1 ⟨(s1.heap.push o).objs.size,[(s1.heap.push o).objs.size],[],_,rfl,λ_=>rfl,λb q=>(nomatch q),LA,g2.trans (g2.1.push _ tk),fA (g2.1.fp g2.2 (a0n _)),?_⟩
 have e1:lo+((0:Nat):Int) * c=lo:=by simp
 have e2:(((Builtin.Range.rangeSize lo hi c).toNat:Nat):Int) - ((0:Nat):Int)=Builtin.Range.rangeSize lo hi c:=by omega
 show IsRangeIter _ _ (lo+((0:Nat):Int) * c) ((((Builtin.Range.rangeSize lo hi c).toNat:Nat):Int) - ((0:Nat):Int)) c
 rw[e1,e2]
 exact Heap.get?_push_size _ rfl
variable {a b d:Expr}{p pos:Pos}
theorem Pb {i j:Int}:0<=Builtin.Range.rangeSize i j 1/\(Builtin.Range.rangeSize i j 1).toNat=(j - i).toNat:=by
 rw[rangeSize_one];split<;>constructor<;>omega
theorem DB (hg:Gl X "range")(hm:X.mg "range" = none)(ha:NA X [a] fs)(hs:starEach [a] X.env=[(false,eval a X.env)]):NI X true tg (.Call (.Name "range" p) [a] [] pos) (jY mU fs):=λz s its E hz q=>by
 obtain⟨rs,er,q⟩:=a0a.mp q
 refine Call_ (kA hz.I hg hm boot_range (PyProof.Rows.callWith_type1 (aY (ha z pos s rs E hz er) λus s1 ⟨g1,d1⟩=>?_) hs rfl))
 have d:=d1.rv
 obtain⟨p1,e1,q⟩:=a0a.mp q
 obtain⟨j,e2,q⟩:=a0a.mp q
 have ej:=eD e1
 cases c7 e2
 replace q:(if zy j then some (mV 0 j.toNat) else none)=some its:=q
 ·split at q
  ·next h=>
   cases q
   rw[ej] at d
   obtain⟨u,rfl,⟨t,rfl⟩,_⟩:=d.one
   obtain⟨h1,h2⟩:=yb h
   exact call_range_1 (xu g1 (small_one (by omega) (by omega) h1 h2) Pb.1 (by rw[Pb.2,we,Int.sub_zero]))
  ·cases q
theorem KP (hg:Gl X "range")(hm:X.mg "range" = none)(ha:NA X [a,b] fs)(hs:starEach [a,b] X.env=[(false,eval a X.env),(false,eval b X.env)])(hs2:starEach [b] X.env=[(false,eval b X.env)]):NI X true tg (.Call (.Name "range" p) [a,b] [] pos) (jY Cz fs):=λz s its E hz q=>by
 obtain⟨rs,er,q⟩:=a0a.mp q
 refine Call_ (kA hz.I hg hm boot_range (PyProof.Rows.callWith_type1 (aY (ha z pos s rs E hz er) λus s1 ⟨g1,d1⟩=>?_) (by rw[hs,hs2]) (by rw[hs2];rfl)))
 have d:=d1.rv
 obtain⟨⟨p1,p2⟩,e1,q⟩:=a0a.mp q
 obtain⟨i,e2,q⟩:=a0a.mp q
 obtain⟨j,e3,q⟩:=a0a.mp q
 have ej:=jB e1
 cases c7 e2;cases c7 e3
 replace q:(if zy i&&zy j then some (mV i (j - i).toNat) else none)=some its:=q
 ·split at q
  ·next h=>
   cases q
   rw[ej] at d
   obtain⟨u,v,rfl,⟨⟨t,rfl⟩,_⟩,⟨t',rfl⟩,_⟩:=d.two
   rw[a0b] at h
   obtain⟨h1,h2⟩:=yb h.1
   obtain⟨h3,h4⟩:=yb h.2
   exact call_range_2 (xu g1 (small_one h1 h2 h3 h4) Pb.1 (by rw[Pb.2,we]))
  ·cases q
theorem K0 (hg:Gl X "range")(hm:X.mg "range" = none)(ha:NA X [a,b,d] fs)(hs:starEach [a,b,d] X.env=[(false,eval a X.env),(false,eval b X.env),(false,eval d X.env)])(hs2:starEach [b,d] X.env=[(false,eval b X.env),(false,eval d X.env)]) :
  NI X true tg (.Call (.Name "range" p) [a,b,d] [] pos) (jY Ek fs):=λz s its E hz q=>by
 obtain⟨rs,er,q⟩:=a0a.mp q
 refine Call_ (kA hz.I hg hm boot_range (PyProof.Rows.callWith_type1 (aY (ha z pos s rs E hz er) λus s1 ⟨g1,d1⟩=>?_) (by rw[hs,hs2]) (by rw[hs2];rfl)))
 have d:=d1.rv
 obtain⟨⟨p1,p2,p3⟩,e1,q⟩:=a0a.mp q
 obtain⟨i,e2,q⟩:=a0a.mp q
 obtain⟨j,e3,q⟩:=a0a.mp q
 obtain⟨c,e4,q⟩:=a0a.mp q
 have ej:=Ip e1
 cases c7 e2;cases c7 e3;cases c7 e4
 replace q:(if ok3 i j c then some (tS i (Builtin.Range.rangeSize i j c).toNat c) else none)=some its:=q
 ·split at q
  ·next h=>
   cases q
   rw[ej] at d
   cases d with
   |cons r rr=>cases rr with
    |cons r' rr=>cases rr with
     |cons r'' rr=>
      cases rr
      obtain⟨t,rfl⟩:=r.rd
      obtain⟨t',rfl⟩:=r'.rd
      obtain⟨t'',rfl⟩:=r''.rd
      unfold ok3 at h
      rw[a0b,a0b,a0b,decide_eq_true_eq,decide_eq_true_eq,a2e] at h
      exact call_range_3 h.1.1.1 (xu g1 h.1.1.2 h.1.2 rfl) (.inl h.2)
  ·cases q
end
noncomputable def eS:Nat->List PV->List PV
 |_,[]=>[]
 |k,p::ps=>.tup [.int k,p]::eS (k+1) ps
theorem kT:∀(k:Nat) (ps:List PV),(eS k ps).length=ps.length
 |_,[]=>rfl
 |k,_::ps=>by rw[eS,a0p,a0p,kT]
theorem nJ:∀{ps:List PV} {k i:Nat} {q:PV},(eS k ps)[i]?=some q->∃p,ps[i]?=some p/\q=.tup [.int (k+i:Nat),p]
 |[],_,_,_,e=>by simp[eS] at e
 |p::ps,k,0,q,e=>by simp[eS] at e;exact⟨p,rfl,by rw[←e];rfl⟩
 |p::ps,k,i+1,q,e=>by
  obtain⟨p',h1,h2⟩:=nJ (ps:=ps) (k:=k+1) (i:=i) (by simpa [eS] using e)
  exact⟨p',by simpa using h1,by rw[h2,Nat.add_right_comm];rfl⟩
section
variable {P:Program}{w:World}{h h':Heap}{elts:List Expr}{x1:Nat}{tpos:Pos}
theorem zu {X:Cx}{z:Z X}{s:Shared}{e it:Addr}{h1 h2:Heap}{tk tk2:Nat}{p:PV}{u:Value}{i:Nat}(hz:z.ok s)(hf:∀b∈[e,it],i5 X z.pins z.H b/\z.bad b)(du:D z.cn s.heap p u)(tup:h1.get? s.heap.objs.size=some { cls:=.type "tuple",data:=.seq #[.int i tk,u] })
  (kp:∀b o,b≠e->b≠it->s.heap.get? b=some o->h1.get? b=some o) (ee:∃o,h2.get? e=some o) (ei:∃o,h2.get? it=some o) (sb:Heap.SameBut e h1 h2) (le:∀b∈[e,it],∃o,s.heap.get? b=some o) :
  z.go s { s with heap:=h2,toks:=tk2 }/\D z.cn h2 (.tup [.int i,p]) (.ref s.heap.objs.size):=by
 have go:=hz.turn (t:=tk2) (h':=h2) hf (λb o hb q=>by
  have n1:b≠e:=λy=>hb (by simp[y])
  exact (sb.2 b n1).trans (kp b o n1 (λy=>hb (by simp[y])) q)) λb hb=>by
   rcases a0s.mp hb with y|y
   ·rw[y];exact ee
   ·rw[show b=it by simpa using y];exact ei
 have ne:s.heap.objs.size≠e:=λy=>by obtain⟨o,q⟩:=le e (by simp);rw[←y] at q;exact absurd (Heap.lt_size q) (a1k _)
 refine⟨go,s.heap.objs.size,[.int i tk,u],rfl,hz.free (Heap.get?_none_of_le (a0n _)),⟨_,(sb.2 _ ne).trans tup,rfl,_,rfl⟩,(by show 2<=sizeLine;decide),_,_,rfl,⟨tk,rfl⟩,u,[],rfl,du.m go.2.kpD,rfl⟩
theorem tI {a e it:Addr}{i:Nat}{h:Heap}(he:∃old,IsEnum h e it i old)(hi:∃o,h.get? it=some o/\∀v,o.data≠.cell v):∀b∈[e,it],∃o,h.get? b=some o/\∀v,o.data≠.cell v:=λb hb=>by
 rcases a0s.mp hb with y|y
 ·rw[y]
  obtain⟨old,he⟩:=he
  exact⟨_,he,λv q=>by
   have q':Data.fields _=Data.cell v:=q
   cases q'⟩
 ·rw[show b=it by simpa using y];exact hi
theorem N9 {a e it:Addr}(hne:e≠it){ps:List PV}:Trn P w (.Tuple elts x1 tpos) e [e,it] [] (eS 0 ps) (λi c h=>(∃old,IsEnum h e it i old)/\h.IsListIter it a i/\ListAt c h a ps/\c.ok a) where
 obj:=λi c h st=>tI (a:=a) st.1 (by obtain⟨_,⟨o,e,_,d⟩,_⟩:=st;exact⟨o,e,λv y=>by rw[d] at y;cases y⟩)
 keep:=λi c c' h h' st k kk=>by
  obtain⟨⟨old,he⟩,st,l,ok⟩:=st
  obtain⟨its,n,g,r⟩:=id l
  exact⟨⟨old,kk e (.inl (by simp)) _ he⟩,st.at λo q=>kk it (.inl (by simp)) o q,l.mono k λo q=>(k.kp a o ok q).2,(k.kp a _ ok g).1⟩
 item:=λX hP hw hc z s E i p hz hf hp st hx=>by
  subst hP hw
  obtain⟨⟨old,he⟩,st,l,ok⟩:=st
  obtain⟨its,n,g,zl,ds⟩:=id l
  obtain⟨p',hx2,rfl⟩:=nJ hx
  rw[a2u]
  obtain⟨u,hu,du⟩:=ds.get hx2
  refine wpAny_pyNext_enum_item he st (bw g) (x:=u) (by simpa using hu) hne λh' out lit tup sz kp=>⟨_,rfl,?_⟩
  refine wpAny_letOwnedTupleGo_enum out λh2 he2 sb=>?_
  have lit2:h2.IsListIter it a (i+1):=lit.at λo q=>(sb.2 it (Ne.symm hne)).trans q
  obtain⟨go,dd⟩:=zu (tk2:=s.toks+1) hz hf du tup kp ⟨_,he2⟩ ⟨_,lit2.choose_spec.1⟩ sb (λb hb=>let ⟨o,e,_⟩:=tI (a:=a) ⟨_,he⟩ (by obtain⟨o,e,_,d⟩:=st;exact⟨o,e,λv y=>by rw[d] at y;cases y⟩) b hb;⟨o,e⟩)
  have kp2:Kp z.cn z.cn s.heap h2:=go.2.kpD
  exact⟨go,dd,⟨_,he2⟩,lit2,l.mono kp2 λo q=>(kp2.kp a o ok q).2,ok⟩
 done:=λX hP hw hc z s E i hz hf hp st hx=>by
  subst hP hw
  obtain⟨⟨old,he⟩,st,⟨its,n,g,zl,ds⟩,ok⟩:=st
  have hl:=ds.length
  rw[kT] at hx
  obtain⟨f,bd⟩:=hf it (by simp)
  exact wpAny_pyNext_enum_end (hz.I.ok.hd hc) he st (bw g) (by simp;omega) λh' eb=>⟨rfl,hz.I.turned (t':=s.toks) (λb o hb e=>eb b o hb e) f.1 f.2.1 f.2.2.2.1 f.2.2.2.2.1 f.2.2.2.2.2,λb o hb e=>eb b o (λy=>hb (by simp[y])) e⟩
 self:=λA i c s Q E st q=>wpAny_pyIter_enum st.1.choose_spec q
theorem LG {a e it:Addr}(hne:e≠it){ps:List PV}:Trn P w (.Tuple elts x1 tpos) e [e,it] [] (eS 0 ps) (λi c h=>(∃old,IsEnum h e it i old)/\h.IsTupleIter it a i/\∃its,IsTup h a its.toArray/\its.length<=sizeLine/\Ds c h ps its/\c.ok a) where
 obj:=λi c h st=>tI (a:=a) st.1 (by obtain⟨_,⟨o,e,_,d⟩,_⟩:=st;exact⟨o,e,λv y=>by rw[d] at y;cases y⟩)
 keep:=λi c c' h h' st k kk=>by
  obtain⟨⟨old,he⟩,st,its,⟨o,g,r⟩,zl,ds,ok⟩:=st
  exact⟨⟨old,kk e (.inl (by simp)) _ he⟩,pc st λo q=>kk it (.inl (by simp)) o q,its,⟨o,(k.kp a _ ok g).2,r⟩,zl,ds.mono k,(k.kp a _ ok g).1⟩
 item:=λX hP hw hc z s E i p hz hf hp st hx=>by
  subst hP hw
  obtain⟨⟨old,he⟩,st,its,g,zl,ds,ok⟩:=st
  obtain⟨p',hx2,rfl⟩:=nJ hx
  rw[a2u]
  obtain⟨u,hu,du⟩:=ds.get hx2
  have pt:s.heap.IsTuple a its.toArray:=g
  have nai:a≠it:=λq=>by
   obtain⟨o1,h1,c1,_⟩:=pt
   obtain⟨o2,h2,c2,_⟩:=st
   rw[q,h2] at h1;cases h1;rw[c2] at c1;exact absurd (Value.type.inj c1) (by decide)
  have nae:e≠a:=λq=>by
   obtain⟨o1,h1,c1,_⟩:=pt
   rw[←q,he] at h1;cases h1;exact absurd (Value.type.inj c1) (by decide)
  have hlt:i<its.toArray.size:=by
   have:=(a0j.mp hu).1
   simpa using this
  refine wpAny_pyNext_enum_itemD (LX (A:=X.A.in1) (hz.I.ok.hd hc) it a nai its.toArray) he ⟨st,pt⟩ hlt hne (by simp[hne,nae]) λu' h' tk hu' out lit tup sz kp=>⟨_,rfl,?_⟩
  obtain rfl:u'=u:=by
   have h1:its[i]?=some u':=by simpa using hu'
   rw[hu] at h1;exact (Option.some.inj h1).symm
  refine wpAny_letOwnedTupleGo_enum out λh2 he2 sb=>?_
  have lit2:h2.IsTupleIter it a (i+1):=pc lit.1 λo q=>(sb.2 it (Ne.symm hne)).trans q
  obtain⟨go,dd⟩:=zu (tk2:=tk+1) hz hf du tup kp ⟨_,he2⟩ ⟨_,lit2.choose_spec.1⟩ sb (λb hb=>let ⟨o,e,_⟩:=tI (a:=a) ⟨_,he⟩ (by obtain⟨o,e,_,d⟩:=st;exact⟨o,e,λv y=>by rw[d] at y;cases y⟩) b hb;⟨o,e⟩)
  have kp2:Kp z.cn z.cn s.heap h2:=go.2.kpD
  obtain⟨o,g,r⟩:=g
  exact⟨go,dd,⟨_,he2⟩,lit2,its,⟨o,(kp2.kp a _ ok g).2,r⟩,zl,ds.mono kp2,ok⟩
 done:=λX hP hw hc z s E i hz hf hp st hx=>by
  subst hP hw
  obtain⟨⟨old,he⟩,st,its,g,zl,ds,ok⟩:=st
  have hl:=ds.length
  rw[kT] at hx
  obtain⟨f,bd⟩:=hf it (by simp)
  have hT:s.TypeIs (.ref e) "enumerate":=⟨_,he,rfl⟩
  unfold pyNext
  refine wpAny_bind (wpAny_attempt (wpAny_callSpecial?_slot (name:=Str.ofString "__next__") hT F.slot_enumerate_next (wpAny_call_entry F.slot_enumerate_next hT F.entry_enumerate_next ?_ (F.args_enumerate_next_1 _))))
  refine (?_:wpAny _ _ (field (.ref e) 2 >>= _) _ _ _);refine wpAny_bind (wpAny_field he rfl (x:=.ref it) rfl ?_)
  refine wpAny_bind (Ay (hz.I.ok.hd hc) st (items:=its.toArray) g (by simp;omega) λh' x he' hx'=>?_)
  obtain⟨o,ho,hc⟩:=hx'
  exact wpAny_bind (wpAny_isInstance (T:="StopIteration") (b:=true) ⟨o,ho,hc⟩ isSubtype_stop (wpAny_pure ⟨rfl,hz.I.turned (t':=s.toks) (λb o hb e=>he' b o hb e) f.1 f.2.1 f.2.2.2.1 f.2.2.2.2.1 f.2.2.2.2.2,λb o hb e=>he' b o (λy=>hb (by simp[y])) e⟩))
 self:=λA i c s Q E st q=>wpAny_pyIter_enum st.1.choose_spec q
end
section
variable {X:Cx}{fs:FA}{elts:List Expr}{x1:Nat}{tpos:Pos}{a:Expr}{p pos:Pos}
noncomputable def se:List PV->Option (List PV)
 |[p]=>(items p).map (eS 0)
 |_=>none
noncomputable def ox (fs:FA):FI:=λρ=>(fs ρ).bind λrs=>(rs.mapM RV.fr).bind se
theorem Ka (hg:Gl X "enumerate")(hm:X.mg "enumerate" = none)(ha:NA X [a] fs)(hs:starEach [a] X.env=[(false,eval a X.env)]):NI X true (.Tuple elts x1 tpos) (.Call (.Name "enumerate" p) [a] [] pos) (ox fs):=λz s its E hz q=>by
 obtain⟨rs,er,q⟩:=a0a.mp q
 obtain⟨ps,ep,q⟩:=a0a.mp q
 refine Call_ (kA hz.I hg hm uq (PyProof.Rows.callWith_type1 (aY (ha z pos s rs E hz er) λus s1 ⟨g,d1⟩=>?_) hs rfl))
 have d:=d1.fr ep
 unfold se at q
 split at q
 ·next p'=>
  obtain⟨qs,e3,rfl⟩:=a0d.mp q
  obtain⟨u,r,rfl,d,e4⟩:=d
  cases (show r=[] from e4)
  obtain⟨l,vs,rfl,ok,zl,ds,h⟩:=D1.items d e3
  have fin:∀(h' h2:Heap),h'.objs.size=s1.heap.objs.size+2->(∀b o,s1.heap.get? b=some o->h'.get? b=some o)->z.go s { s1 with heap:=h' }/\(∀b∈[s1.heap.objs.size+1,s1.heap.objs.size],i5 X z.pins z.H b/\s.heap.get? b=none)/\Kp z.cn (bC X (λb=>z.bad b\/b∈[s1.heap.objs.size+1,s1.heap.objs.size]) z.H) s1.heap h':=λh' h2 sz kp=>by
   have le:∀b∈[s1.heap.objs.size+1,s1.heap.objs.size],s1.heap.objs.size<=b:=λb hb=>by
    rcases a0s.mp hb with y|y
    ·rw[y];exact a5z _
    ·rw[show b=s1.heap.objs.size by simpa using y];exact a0n _
   exact⟨g.trans (g.1.kept (t:=s1.toks) kp),λb hb=>g.1.fp g.2 (le b hb),uJ g.1 kp le⟩
  rcases h with ⟨o,ho,r⟩|⟨n,ho⟩
  ·refine DU (items:=vs.toArray) ⟨o,ho,r⟩ λh' he hit sz kp=>wpAny_pyIter_enum he ?_
   obtain⟨f1,f2,f3⟩:=fin h' h' sz kp
   exact⟨_,_,[],_,rfl,λ_=>rfl,λb q=>(nomatch q),LG (a:=l) (Nat.succ_ne_self _),f1,f2,⟨_,he⟩,hit,vs,⟨o,kp _ _ ho,r⟩,zl,ds.mono f3,(f3.kp l _ ok ho).1⟩
  ·refine call_enumerate_list (bw ho) λh' he hit sz kp=>wpAny_pyIter_enum he ?_
   obtain⟨f1,f2,f3⟩:=fin h' h' sz kp
   exact⟨_,_,[],_,rfl,λ_=>rfl,λb q=>(nomatch q),N9 (a:=l) (Nat.succ_ne_self _),f1,f2,⟨_,he⟩,hit,⟨vs,n,kp _ _ ho,zl,ds.mono f3⟩,(f3.kp l _ ok ho).1⟩
 ·cases q
end
noncomputable def Mg (X:Cx)(ifs:List Expr)(f:FB):Prop:=∀(z:Z X) s b E,z.ok s->f z.ρ=some b →
 W X (forIn ifs true λc r=>if r=true then do let ok ←isTrue c X.env (eval c X.env);pure (ForInStep.yield ok) else pure (ForInStep.yield r)) (λc s'=>c=b/\z.go s s') E s
noncomputable def fy:FB:=λ_=>some true
theorem LO {X:Cx}:Mg X [] fy:=λz s b E hz q=>by cases q;exact wpAny_tests_nil ⟨rfl,hz.refl⟩
theorem JQ {X:Cx}{c:Expr}{f:FB}(h:NB X c f):Mg X [c] f:=λz s b E hz q=>wpAny_tests_one (h z s b E hz q)
noncomputable def iJ (fm:List (Option Nat))(ρ:ao):ao:=fm.map λo=>o.bind λj=>(ρ[j]?).join
noncomputable def m8 (t:FT)(c:FB)(f:FE)(ρ:ao):List PV->Option (List PV)
 |[]=>some []
 |p::ps=>(t p ρ).bind λρ2=>(c ρ2).bind λb=>if b=true then (f ρ2).bind λr=>r.fr.bind λq=>(m8 t c f ρ ps).map λqs=>q::qs else m8 t c f ρ ps
noncomputable def cQ (fm:List (Option Nat))(it:FI)(t:FT)(c:FB)(f:FE):FE:=λρ=>(it ρ).bind λits=>if its.length<1000 then (m8 t c f (iJ fm ρ) its).map .nw else none
noncomputable def FK (fm:List (Option Nat))(t:FT):Prop:=∀p ρ ρ',t p ρ=some ρ'->ρ'.length=ρ.length/\∀(i j:Nat),fm[i]?=some (some j)->ρ'[i]?=ρ[i]?
noncomputable def OK (fm:List (Option Nat))(t:AE):Prop:=∀p ρ ρ',t p ρ=some ρ'->ρ'.length=ρ.length/\∀(i j:Nat),fm[i]?=some (some j)->ρ'[i]?=ρ[i]?
theorem PJ {fm:List (Option Nat)}{k:Nat}(h:fm[k]?=some none):FK fm (gN k):=λp ρ ρ' e=>by
 cases e
 refine⟨a1l ..,λi j q=>a0k λy=>?_⟩
 subst y;rw[h] at q;cases q
theorem Pl {fm:List (Option Nat)}:OK fm g0:=λp ρ ρ' e=>by
 cases p with
 |nil=>cases e;exact⟨rfl,λ_ _ _=>rfl⟩
 |cons=>cases e
theorem PW {fm:List (Option Nat)}{t:FT}{ts:AE}(h1:FK fm t)(h2:OK fm ts):OK fm (gC t ts):=λp ρ ρ' e=>by
 cases p with
 |nil=>cases e
 |cons p ps=>
  obtain⟨ρ1,e1,e2⟩:=a0a.mp e
  exact⟨(h2 ps ρ1 ρ' e2).1.trans (h1 p ρ ρ1 e1).1,λi j q=>((h2 ps ρ1 ρ' e2).2 i j q).trans ((h1 p ρ ρ1 e1).2 i j q)⟩
theorem Qn {fm:List (Option Nat)}{n:Nat}{ts:AE}(h:OK fm ts):FK fm (iH n ts):=λp ρ ρ' e=>by
 unfold iH at e
 split at e
 ·split at e
  ·exact h _ ρ ρ' e
  ·cases e
 ·cases e
theorem qB {fm:List (Option Nat)}{ρ:ao}{i:Nat}{t:Sl}(h:(iJ fm ρ)[i]?=some (some t)):∃j,fm[i]?=some (some j)/\ρ[j]?=some (some t):=by
 unfold iJ at h
 rw[a0q] at h
 obtain⟨o,e1,h⟩:=a0d.mp h
 obtain⟨j,rfl,h⟩:=a0a.mp h
 refine⟨j,e1,?_⟩
 replace h:(ρ[j]?).join=some t:=h
 cases e2:ρ[j]? with
 |none=>rw[e2] at h;cases h
 |some w=>rw[e2] at h;exact congrArg some h
theorem Hv {fm:List (Option Nat)}{σ:L2.St}{i j:Nat}{v:V}(h1:fm[i]?=some (some j))(h2:σ[j]?=some (some v)):(oP fm σ)[i]?=some (some v):=by
 unfold oP
 rw[a0q,h1]
 show some ((σ[j]?).join)=_
 rw[h2];rfl
section
variable {X:Cx}{z:Z X}{s:Shared}
theorem Z.ok.pinsOf (hz:z.ok s)(pl:List (Addr×Obj))(h:∀p∈pl,s.heap.get? p.1=some p.2/\z.H p.1=none/\p.1≠X.env.locals/\p.1∉X.fs/\∀v,p.2.data≠.cell v):(⟨z.bad,pl,z.σ,z.H,z.ρ⟩:Z X).ok s:=
 ⟨hz.I.pins_of h,hz.len,hz.slk,hz.dj,hz.nb,hz.oh,hz.oh0,hz.loc,hz.cel,hz.fs,hz.ex,hz.there,hz.bs,hz.ot,hz.anc⟩
theorem Z.ok.weak (hz:z.ok s){ρ':ao}(hl:ρ'.length=z.ρ.length)(h:∀(i:Nat) t,ρ'[i]?=some (some t)->z.ρ[i]?=some (some t)):(z.wi z.σ z.H ρ').ok s:=by
 have ow:∀{i a},bx z.σ ρ' i a->bx z.σ z.ρ i a:=λ{i a} ⟨⟨t,e,o⟩,q⟩=>⟨⟨t,h i t e,o⟩,q⟩
 exact⟨hz.I,hz.len.trans hl.symm,λi t q=>hz.slk i t (h i t q),λi j a o1 o2=>hz.dj i j a (ow o1) (ow o2),λi a o=>hz.nb i a (ow o),hz.oh,hz.oh0,hz.loc,hz.cel,hz.fs,hz.ex,hz.there,hz.bs,hz.ot,hz.anc⟩
end
section
variable {X:Cx}{scope:Scope}{N':List Str}{fm:List (Option Nat)}{tg iter elt:Expr}{ifs:List Expr}{pos:Pos}{t:FT}{fc:FB}{f:FE}
structure Blk (X:Cx)(scope:Scope)(N':List Str)(fm:List (Option Nat)):Prop where
 ok:BlkOk X scope N' fm
 nd:N'.Nodup
theorem AG (B:Blk X scope N' fm){z:Z X}{s0 s:Shared}(hz:z.ok s0)(g:z.go s0 s){fp:List Addr}(hf:∀b∈fp,i5 X z.pins z.H b/\s0.heap.get? b=none)(ho:∀b∈fp,∃o,s.heap.get? b=some o){C Dd:Addr}(hC:s.heap.objs.size<=C)(hD:s.heap.objs.size<=Dd)
  {h1:Heap} {tk:Nat} {m:Str->Option Value} (hn:h1.Ns C m) (hd:∃o,h1.get? Dd=some o) (old:∀b o,s.heap.get? b=some o->h1.get? b=some o) :
  (⟨λb=>z.bad b\/b∈fp\/b=C\/b=Dd,[],oP fm z.σ,z.H,iJ fm z.ρ⟩:Z (X.blk scope N' C s z.H fp)).ok { s with heap:=h1,toks:=tk }:=by
 have n0:∀b,b∈fp\/b=C\/b=Dd->s0.heap.get? b=none:=λb y=>by
  rcases y with y|y|y
  ·exact (hf b y).2
  ·subst y;exact Ext.back g.2 (Heap.get?_none_of_le hC)
  ·subst y;exact Ext.back g.2 (Heap.get?_none_of_le hD)
 have hlt:∀b∈fp,b<s.heap.objs.size:=λb hb=>let ⟨o,e⟩:=ho b hb;Heap.lt_size e
 have e1:Ext z.bad s0.heap h1:=g.2.trans (.kept old)
 have I:=G6 (tk:=tk) B.ok g.1.I hC (λb hb=>(hf b hb).1) hlt hn old
 have k:Kp z.cn (bC (X.blk scope N' C s z.H fp) (λb=>z.bad b\/b∈fp\/b=C\/b=Dd) z.H) s0.heap h1:=oZ (X:=X) e1 λb y=>y.imp id (n0 b)
 have sub:∀x c,(ki X.env.cells scope.names []).lookup x=some c->X.env.cells.lookup x=some c:=λx c h=>kO (B.ok.has hz.I.ok) (λ_ _ y=>by simp at y) h
 have own:∀{i a},bx (oP fm z.σ) (iJ fm z.ρ) i a->∃j x,fm[i]?=some (some j)/\N'[i]?=some x/\X.N[j]?=some x/\bx z.σ z.ρ j a:=λ{i a} ⟨⟨t,e,o⟩,q⟩=>by
  obtain⟨j,e1,e2⟩:=qB e
  obtain⟨j',e3,e4⟩:=uT q
  rw[e1] at e3;cases e3
  have hi:i<N'.length:=by rw[←B.ok.len];exact (a0j.mp e1).1
  exact⟨j,N'[i],e1,a0f hi,(B.ok.out i j _ e1 (a0f hi)).1,⟨⟨t,e2,o⟩,e4⟩⟩
 have stands:∀a o,z.H a=some o->¬(z.bad a\/a∈fp\/a=C\/a=Dd):=λa o q y=>by
  obtain⟨ob,e⟩:=hz.stands q
  exact y.elim (hz.ot a o q).1 λy=>by rw[n0 a y] at e;cases e
 refine⟨I,by show (oP fm z.σ).length=(iJ fm z.ρ).length;unfold oP iJ;rw[a0i,a0i],λi t q=>?_,λi j a o1 o2=>?_,λi a o=>?_,hz.oh,hz.oh,.inr (.inr (.inl rfl)),λx c e=>.inl (hz.cel x c (sub x c e)),λb q=>.inl ?_,λb q=>.inr (.inl q),λb q=>?_,λb o e q=>?_,λa o q=>⟨stands a o q,let ⟨ob,r1,r2⟩:=(hz.ot a o q).2;⟨ob,e1.kp a ob (hz.ot a o q).1 r1,r2⟩⟩,λhf=>by cases hf⟩
 ·obtain⟨j,q1,q2⟩:=qB q
  obtain⟨v,e2,r,d⟩:=hz.slk j t q2
  exact⟨v,Hv q1 e2,r,d.mono k λa o h w=>e1.kp a o (hz.ot a _ h).1 w⟩
 ·obtain⟨k1,x,a1,a2,a3,a4⟩:=own o1
  obtain⟨k2,y,b1,b2,b3,b4⟩:=own o2
  have:=hz.dj k1 k2 a a4 b4
  subst this
  rw[a3] at b3;cases b3
  exact (List.getElem?_inj (a0j.mp a2).1 B.nd).mp (a2.trans b2.symm)
 ·obtain⟨k1,x,a1,a2,a3,a4⟩:=own o
  have hH:z.H a=some aW:=by
   obtain⟨⟨t,e,ot⟩,q⟩:=a4
   obtain⟨v,e2,_,d2⟩:=hz.slk k1 t e
   rw[q] at e2;cases e2
   cases t with
   |val p=>cases ot
   |own ps=>obtain⟨b,e3,h,_⟩:=d2;cases e3;exact h
   |dic ks ps=>obtain⟨b,e3,h,_⟩:=d2;cases e3;exact h
  exact⟨stands a _ hH,.inr λy=>by
   have y':z.H a=none:=y
   rw[hH] at y';cases y'⟩
 ·rcases a0s.mp (g.1.I.stkSub b q) with y|y
  ·rw[y];exact hz.loc
  ·exact hz.fs b y
 ·rcases q with q|q|q|q
  ·obtain⟨o,e⟩:=hz.there b q;exact e1.th b o e
  ·obtain⟨o,e⟩:=ho b q;exact⟨o,old b o e⟩
  ·subst q;obtain⟨o,es,ep,e,_⟩:=hn;exact⟨o,e⟩
  ·subst q;exact hd
 ·rcases q with q|q
  ·exact hz.bs b o e q
  ·have:=(hz.I.bs b o e).1
   rw[n0 b q] at this;cases this
theorem sd (B:Blk X scope N' fm)(hc:X.calm=true)(hg:∀C s H ex,NG (X.blk scope N' C s H ex) tg t)(hk:FK fm t)(ht:∀C s H ex,Mg (X.blk scope N' C s H ex) ifs fc)(he:∀C s H ex,NE (X.blk scope N' C s H ex) elt f)
  {z:Z X} {s0 s:Shared} (hz:z.ok s0) {its ps:List PV} {itv:Value} (hi:O4 z tg false its s0 itv s) (hl:its.length<1000) (q:m8 t fc f (iJ fm z.ρ) its=some ps) {RR:Value->Addr->Result->Shared->Prop} {E:Value->Shared->Prop}
  (hRR:∀Dd C s',(z.wb [C]).ok s'->Ext z.bad s0.heap s'.heap->s0.heap.get? Dd=none->Dd≠C->ListAt (bC X (z.wb [C]).bad (eE z.H Dd aW)) s'.heap Dd ps->i5 X z.pins z.H C->s0.heap.get? C=none->(∃m,s'.heap.Ns C m)->RR (.ref Dd) C (.ok .next) s') :
  W X (newList []) (λacc s₃=>W X (newFunctionEnv scope X.env.globals (ki X.env.cells scope.names []) [] X.env.qual none .none (some X.env)) (λcenv s₄=>
   codeAny (model X.prog X.w) X.A (.compStart (.ListComp elt [⟨tg,iter,ifs,0⟩] scope pos) 0 itv acc { cenv with scope:=relabel scope X.env }) (RR acc cenv.locals) s₄) E s₃) E s:=by
 obtain⟨it,fp,pl,tn,rfl,_,hpl,T,g,hf,st⟩:=hi
 refine wpAny_newObj_type (wpAny_newFunctionEnv B.ok.nocell (by intro y hy;simp at hy) (λh₁ hns₁ hsb₁=>?_) B.ok.kind)
 dsimp only at hns₁ hsb₁ ⊢
 generalize hH2:s.heap.push { cls:=.type "list",dict:=none,data:=.seq ([]:List Value).toArray }=H2 at hns₁ hsb₁ ⊢
 have hC:H2.objs.size=s.heap.objs.size+1:=by rw[←hH2,Heap.size_push]
 generalize hCC:H2.objs.size=C at hns₁ hsb₁ hC ⊢
 generalize hDD:s.heap.objs.size=Dd at hC ⊢
 have hDC:Dd≠C:=by omega
 have hCle:s.heap.objs.size<=C:=by omega
 have hDle:s.heap.objs.size<=Dd:=by omega
 have lt:∀(b:Nat) (o:Obj),s.heap.get? b=some o->b<Dd:=λb o e=>by rw[←hDD];exact Heap.lt_size e
 have old:∀b o,s.heap.get? b=some o->h₁.get? b=some o:=λb o e=>hsb₁.extBut b o (a1j (Nat.lt_trans (lt b o e) (by rw[hC];exact a2j _))) (Heap.get?_push_of_some _ (hH2▸Heap.get?_push_of_some _ e))
 have hacc:h₁.get? Dd=some (d9 [] 0):=hsb₁.extBut _ _ hDC (Heap.get?_push_of_some _ (by rw[←hH2,←hDD];exact Heap.get?_push_size _ rfl))
 have there:∀b∈fp,∃o,s.heap.get? b=some o:=λb hb=>let ⟨o,e,_⟩:=T.obj _ _ _ st b hb;⟨o,e⟩
 have n0:∀b,b∈fp\/b=C\/b=Dd->s0.heap.get? b=none:=λb y=>by
  rcases y with y|y|y
  ·exact (hf b y).2
  ·subst y;exact Ext.back g.2 (Heap.get?_none_of_le hCle)
  ·subst y;exact Ext.back g.2 (Heap.get?_none_of_le hDle)
 have hDf:Dd∉fp:=λhm=>by obtain⟨o,e⟩:=there _ hm;exact a1k _ (lt _ _ e)
 have hCf:C∉fp:=λhm=>by obtain⟨o,e⟩:=there _ hm;exact absurd (lt _ _ e) (by omega)
 have hDfs:Dd∉qr X.stack:=λhm=>by
  obtain⟨_,o,e,_⟩:=g.1.I.stack.mem hm
  exact a1k Dd (lt Dd o e)
 have fHD:z.H Dd=none:=g.1.I.hok.fresh hDle
 have fHC:z.H C=none:=g.1.I.hok.fresh hCle
 have fC:i5 X z.pins z.H C:=g.1.I.fpOk hCle fHC
 let Y:Cx:=X.blk scope N' C s z.H fp
 let bad':Addr->Prop:=λb=>z.bad b\/b∈fp\/b=C\/b=Dd
 have iB:∀tk,(⟨bad',[],oP fm z.σ,z.H,iJ fm z.ρ⟩:Z Y).ok { s with heap:=h₁,toks:=tk }:=λtk=>AG B hz g hf there hCle hDle hns₁ ⟨_,hacc⟩ old
 have st1:tn 0 (bC Y bad' z.H) h₁:=T.keep 0 _ _ _ _ st (oZ (X:=X) (bad:=λb=>z.bad b\/b∈fp) (bad':=bad') (.kept old) λb y=>by
  rcases y with y|y|y|y
  ·exact .inl (.inl y)
  ·exact .inl (.inr y)
  ·subst y;exact .inr (Heap.get?_none_of_le hCle)
  ·subst y;exact .inr (Heap.get?_none_of_le hDle)) λb _=>old b
 have hpl2:∀b∈pl,¬bad' b:=λb hb y=>by
  obtain⟨p1,p2,o,p3⟩:=hpl b hb
  rcases y with y|y|y|y
  ·exact p1 y
  ·exact p2 y
  ·subst y;exact absurd (lt _ _ p3) (by omega)
  ·subst y;exact absurd (lt _ _ p3) (by omega)
 have sub:∀x c,(ki X.env.cells scope.names []).lookup x=some c->X.env.cells.lookup x=some c:=λx c h=>kO (B.ok.has hz.I.ok) (λ_ _ y=>by simp at y) h
 have stat:∀{oD:Obj},∀b∈fp,i5 Y [(Dd,oD)] z.H b/\bad' b:=λ{oD} b hb=>by
  obtain⟨⟨f0,f1,f2,f3,f4,f5⟩,_⟩:=hf b hb
  refine⟨⟨f0,λy=>hCf ((show b=C from y)▸hb),λy=>?_,.inl hb,λx c h=>f4 x c (sub x c h),λp hp y=>?_⟩,.inr (.inl hb)⟩
  ·rcases a0s.mp (g.1.I.stkSub b y) with y|y
   ·exact f1 y
   ·exact f2 y
  ·have e:p=(Dd,oD):=by simpa [Y,Cx.blk] using hp
   subst e
   exact hDf ((show Dd=b from y)▸hb)
 have loop:∀tk,codeAny (model X.prog X.w) X.A (.compLoop (.ListComp elt [⟨tg,iter,ifs,0⟩] scope pos) 0 (.ref it) (.ref Dd) (compEnvC scope (ki X.env.cells scope.names []) C X.env)) (RR (.ref Dd) C) { s with heap:=h₁,toks:=tk }:=by
  intro tk
  refine kg (λn s'=>∃i σ' acc us n' hV,n=its.length+1 - i/\i<=its.length/\(⟨bad',[],σ',z.H,iJ fm z.ρ⟩:Z Y).ok s'/\Ext bad' h₁ s'.heap/\tn i (bC Y bad' z.H) s'.heap/\s'.heap.get? Dd=some (d9 us n')/\Ds (bC Y bad' z.H) s'.heap acc us/\acc.length<=i/\m8 t fc f (iJ fm z.ρ) (its.drop i)=some hV/\acc++hV=ps) ?_ (its.length+1)
   ⟨0,_,[],[],0,ps,rfl,a3b _,iB tk,.refl,st1,hacc,rfl,a0n _,q,rfl⟩
  rintro n s3 ⟨i,σ3,acc,us,n3,hV,rfl,hi3,ok3,x3,st3,hd3,ds3,ha3,go3,e3⟩
  have l3:=ds3.length
  have okp:(⟨bad',[(Dd,d9 us n3)],σ3,z.H,iJ fm z.ρ⟩:Z Y).ok s3:=ok3.pinsOf _ λp hp=>by
   have e:p=(Dd,d9 us n3):=by simpa using hp
   subst e
   exact⟨hd3,fHD,hDC,hDfs,λv y=>by cases y⟩
  by_cases hlt:i<its.length
  ·rw[a3e hlt,m8] at go3
   obtain⟨ρ4,e1,go3⟩:=a0a.mp go3
   obtain⟨b,e2,go3⟩:=a0a.mp go3
   refine aY (T.item Y rfl rfl hc _ s3 _ i its[i] okp stat hpl2 st3 (a0f hlt)) λr s4 ⟨u,hr,h4⟩=>?_
   subst hr
   refine aY h4 λ_ s5 ⟨g5,d5,st5⟩=>?_
   have ok5:=pinned g5.1 (λb hb=>(stat b hb).1) (T.obj _ _ _ st5)
   refine aY (hg C s z.H fp _ s5 its[i] u ρ4 _ ok5 d5 e1) λ_ s6 ⟨σ6,ok6,x6⟩=>?_
   obtain⟨kl,kk⟩:=hk _ _ _ e1
   refine aY (ht C s z.H fp _ s6 b _ ok6 e2) λc s7 ⟨ec,g7⟩=>?_
   subst ec
   have still:∀{s8:Shared},((((⟨bad',[(Dd,d9 us n3)],σ3,z.H,iJ fm z.ρ⟩:Z Y).wp (kz fp s5.heap)).wi σ6 z.H ρ4)).ok s8->Ext bad' s5.heap s8.heap->(⟨bad',[],σ6,z.H,iJ fm z.ρ⟩:Z Y).ok s8/\Ext bad' h₁ s8.heap/\tn (i+1) (bC Y bad' z.H) s8.heap/\s8.heap.get? Dd=some (d9 us n3)/\Ds (bC Y bad' z.H) s8.heap acc us:=λ{s8} ok8 x8=>by
    have x9:Ext bad' s3.heap s8.heap:=g5.2.trans x8
    refine⟨(Z.ok.weak (ok8.pinsOf [] λp hp=>nomatch hp) kl.symm λi t e=>?_ :),x3.trans x9,T.keep _ _ _ _ _ st5 (Ext.kpD x8) λb hb o e=>?_,?_,ds3.mono x9.kpD⟩
    ·obtain⟨j,q1,q2⟩:=qB e
     show ρ4[i]?=_
     rw[kk i j q1];exact e
    ·rcases hb with hb|hb
     ·exact pj (z:=⟨bad',[(Dd,d9 us n3)],σ3,z.H,iJ fm z.ρ⟩) ok8 b hb o e
     ·exact x8.kp b o (hpl2 b hb) e
    ·exact (ok8.I.pin (Dd,_) (a0o _ (a1b _ (a0g.mpr rfl)))).1
   cases c with
   |false=>
    rw[if_neg a0u] at go3 ⊢
    obtain⟨a1,a2,a3,a4,a5⟩:=still g7.1 (x6.trans g7.2)
    exact⟨its.length+1 - (i+1),by omega,i+1,σ6,acc,us,n3,hV,rfl,hlt,a1,a2,a3,a4,a5,by omega,go3,e3⟩
   |true=>
    rw[if_pos rfl] at go3 ⊢
    obtain⟨r,e4,go3⟩:=a0a.mp go3
    obtain⟨y,e5,go3⟩:=a0a.mp go3
    obtain⟨rest',e6,rfl⟩:=a0d.mp go3
    refine aY (he C s z.H fp _ s7 r _ g7.1 e4) λv s8 q8=>?_
    obtain⟨a1,a2,a3,a4,a5⟩:=still q8.1.1 (x6.trans (g7.2.trans q8.1.2))
    have dv:D (bC Y bad' z.H) s8.heap y v:=q8.2.fr e5
    refine wpAny_list_append_plain (hsz:=by rw[a0h];have:=wa;omega) (show s8.heap.PlainList Dd us.toArray from⟨n3,a4⟩) λh9 hl9 sb9=>?_
    have kp9:∀b o,b∉[Dd]->s8.heap.get? b=some o->h9.get? b=some o:=λb o hb e=>(sb9.2 b (by simpa using hb)).trans e
    obtain⟨n9,hl9⟩:=hl9
    have go9:=a1.turn (t:=s8.toks) (h':=h9) (fp:=[Dd]) (fA (P:=λb=>i5 Y [] z.H b/\bad' b) ⟨⟨fHD,hDC,hDfs,.inr (by show s.heap.objs.size<=Dd;omega),λx c h y=>?_,λp hp=>(nomatch hp)⟩,.inr (.inr (.inr rfl))⟩) kp9 (fA (P:=λb=>∃o,h9.get? b=some o) ⟨_,hl9⟩)
    ·have k9:Kp (bC Y bad' z.H) (bC Y bad' z.H) s8.heap h9:=go9.2.kpD
     refine⟨its.length+1 - (i+1),by omega,i+1,σ6,acc++[y],us++[v],n9,rest',rfl,hlt,go9.1,a2.trans go9.2,T.keep _ _ _ _ _ a3 k9 λb hb o e=>kp9 b o (λw=>?_) e,?_,(a5.mono k9).app (.one (dv.m k9)),by rw[a0t];simp;omega,e6,by rw[a1x];exact e3⟩
     ·have w:b=Dd:=by simpa using w
      subst w
      rcases hb with hb|hb
      ·exact hDf hb
      ·exact hpl2 b hb (.inr (.inr (.inr rfl)))
     ·have e:us.toArray.push v=(us++[v]).toArray:=by simp
      rw[hl9,e];rfl
    ·obtain⟨v,o,ho,hdd⟩:=a1.I.cell x c h
     rw[y,a4] at ho
     cases ho
     cases hdd
  ·have hnil:its.drop i=[]:=a2i (by omega)
   rw[hnil,m8] at go3
   cases go3
   rw[a1s] at e3
   subst e3
   refine aY (T.done Y rfl rfl hc _ s3 _ i okp stat hpl2 st3 (by omega)) λr s4 ⟨hr,I4,k4⟩=>?_
   subst hr
   have hd4:s4.heap.get? Dd=some (d9 us n3):=k4 Dd _ hDf hd3
   have U:Un (qr X.stack) fp z.H z.H s.heap s4.heap:=I4.base
   have I5:Inv X z.pins z.σ z.H s4:=g.1.I.call' I4.os U I4.hok I4.bare λb hb=>by
    obtain⟨⟨f0,f1,f2,f3,f4,f5⟩,_⟩:=hf b hb
    exact⟨f3,f1,f4,f5⟩
   obtain⟨m4,hn4,_⟩:=I4.loc
   have x4:∀a o,¬bad' a->h₁.get? a=some o->s4.heap.get? a=some o:=λa o nb e=>k4 a o (λy=>nb (.inr (.inl y))) (x3.kp a o nb e)
   have e04:Ext z.bad s0.heap s4.heap:=⟨λa o nb e=>x4 a o (λy=>y.elim nb λy=>by rw[n0 a y] at e;cases e) (old a o (g.2.kp a o nb e)),λa o e=>by
    obtain⟨o1,e1⟩:=g.2.th a o e
    obtain⟨o2,e2⟩:=x3.th a o1 (old a o1 e1)
    exact⟨o2,k4 a o2 (λy=>by rw[n0 a (.inl y)] at e;cases e) e2⟩⟩
   have gg:=hz.ext I5 e04
   have zC:(z.wb [C]).ok s4:=hz.more gg (fA (P:=λb=>s0.heap.get? b=none/\∃o,s4.heap.get? b=some o) ⟨n0 C (.inr (.inl rfl)),let ⟨o,_,_,e,_⟩:=hn4;⟨o,e⟩⟩)
   refine hRR Dd C s4 zC e04 (n0 Dd (.inr (.inr rfl))) hDC ⟨us,n3,hd4,by have:=wa;omega,Ds.mono (c:=bC Y bad' z.H) (c':=bC X (z.wb [C]).bad (eE z.H Dd aW)) (h:=s3.heap) ⟨rfl,rfl,rfl,λa o q e=>⟨⟨?_,λy=>?_⟩,k4 a o (λy=>q.2 (.inr (.inl y))) e⟩⟩ ds3⟩ fC (n0 C (.inr (.inl rfl))) ⟨m4,hn4⟩
   ·show eE z.H Dd aW a=none
    rw[aX λy=>q.2 (.inr (.inr (.inr y)))];exact q.1
   ·rcases y with y|y
    ·exact q.2 (.inl y)
    ·exact q.2 (.inr (.inr (.inl (by simpa using y))))
 refine codeAny_compStart_list (loop _) (T.self _ 0 _ _ _ _ st1 (loop _))
theorem Ep {z:Z X}{s0 s1:Shared}{h':Heap}{C:Addr}{σ:L2.St}{H:Hp}{ρ:ao}(hz:z.ok s0)(ok:((z.wb [C]).wi σ H ρ).ok s1)(fC:i5 X z.pins H C)(n:s0.heap.get? C=none)(sb:Heap.SameBut C s1.heap h'):(z.wi σ H ρ).ok { s1 with heap:=h' }/\∀b o,b∉[C]->s1.heap.get? b=some o->h'.get? b=some o:=by
 obtain⟨f0,f1,f2,f3,f4,f5⟩:=fC
 have k:∀b o,b∉[C]->s1.heap.get? b=some o->h'.get? b=some o:=λb o hb e=>sb.extBut b o (λy=>hb (by simp[y])) e
 exact⟨hz.less (fp:=[C]) (fA n) ok (ok.I.turned (t':=s1.toks) (λb o hb e=>sb.extBut b o hb e) f0 f1 f3 f4 f5) k,k⟩
theorem L7 (B:Blk X scope N' fm)(hc:X.calm=true){fi:FI}(hi:NI X false tg iter fi)(hg:∀C s H ex,NG (X.blk scope N' C s H ex) tg t)(hk:FK fm t)(ht:∀C s H ex,Mg (X.blk scope N' C s H ex) ifs fc)(he:∀C s H ex,NE (X.blk scope N' C s H ex) elt f)
  (hs:∀x,foldedSetIterable iter X.env x=pure x:=by intro _;rfl):NE X (.ListComp elt [⟨tg,iter,ifs,0⟩] scope pos) (cQ fm fi t fc f):=λz s0 r E hz q=>by
 obtain⟨its,ei,q⟩:=a0a.mp q
 split at q
 ·next hl=>
  obtain⟨ps,eg,rfl⟩:=a0d.mp q
  rw[eval_ListComp]
  refine wpAny_comprehension_free (use:=none) rfl hs (pG (B.ok.has hz.I.ok)) B.ok.kind B.ok.names (aY (hi z s0 its E hz ei) λv s1 h1=>aY h1 λitv s2 h2=>?_)
  refine sd B hc hg hk ht he hz h2 hl eg (RR:=λacc C=>compPost (model X.prog X.w) X.A E none (Z.post z s0 (.nw ps)) acc C) λDd C s' zC e04 nD hDC l fC nC ⟨m,hn⟩=>⟨m,hn,λh' sb=>?_⟩
  obtain⟨ok,k⟩:=Ep (σ:=z.σ) (H:=z.H) (ρ:=z.ρ) hz zC fC nC sb
  have e0:Ext z.bad s0.heap h':=⟨λa o nb e=>k a o (λy=>by rw[show a=C by simpa using y,nC] at e;cases e) (e04.kp a o nb e),λa o e=>let ⟨o1,e1⟩:=e04.th a o e;⟨o1,k a o1 (λy=>by rw[show a=C by simpa using y,nC] at e;cases e) e1⟩⟩
  refine⟨⟨ok,e0⟩,Dd,rfl,nD,hz.free nD,ListAt.mono (c:=bC X (z.wb [C]).bad (eE z.H Dd aW)) (c':=bC X z.bad (eE z.H Dd aW)) ⟨rfl,rfl,rfl,λa o q e=>⟨⟨q.1,λy=>q.2 (.inl y)⟩,k a o (λy=>q.2 (.inr y)) e⟩⟩ (λo e=>k Dd o (λy=>hDC (by simpa using y)) e) l⟩
 ·cases q
noncomputable def P8 (X:Cx)(x:Str)(g:List PV->ao->Out):Prop:=∀(y:Z X) (ps:List PV) (Dd:Addr) (s1:Shared) (E:Value->Shared->Prop),y.ok s1->j0 y.bad y.H Dd->X.s₀.heap.get? Dd=none->(∀p∈X.pn++y.pins,p.1≠Dd)->ListAt (bC X y.bad (eE y.H Dd aW)) s1.heap Dd ps →
 (∀(j:Nat) t v,y.ρ[j]?=some (some t)->y.σ[j]?=some (some v)->SlOk (bC X y.bad (eE y.H Dd aW)) y.H s1.heap t v)->W X (storeName X.env x (.ref Dd)) (λ_ s2=>∃σ' H' ρ',g ps y.ρ=.nx ρ'/\(y.wi σ' H' ρ').ok s2/\Ext y.bad s1.heap s2.heap/\(H'=y.H\/H'=eE y.H Dd aW)) E s1
noncomputable def MR (i:Nat)(ps:List PV)(ρ:ao):Out:=.nx (ρ.set i (some (.own ps)))
noncomputable def MW (i:Nat)(ps:List PV)(ρ:ao):Out:=.nx (ρ.set i (some (.val (.lst ps))))
theorem I7 {i:Nat}{x:Str}(n:Nm X i x):P8 X x (MR i):=λy ps Dd s1 E ok fr h00 hp l sk=>
 aY (sH (t:=.own ps) ok n rfl fr h00 hp (mw l) ⟨Dd,rfl,bV,l⟩ sk) λ_ s2 ⟨σ',ok',e⟩=>⟨σ',_,_,rfl,ok',e,.inr rfl⟩
theorem J4 {i:Nat}{x:Str}(n:Nm X i x):P8 X x (MW i):=λy ps Dd s1 E ok fr h00 hp l sk=>
 aY (gD (p:=.lst ps) ok n (by obtain⟨its,m,g,zl,ds⟩:=l;exact⟨Dd,its,m,rfl,fr,g,zl,ds.mono Dz⟩)) λ_ s2 ⟨σ',ok',e⟩=>⟨σ',_,_,rfl,ok',e,.inl rfl⟩
noncomputable def OA (o:Option RV)(g:List PV->ao->Out)(ρ:ao):Out:=match o with
 |some (.nw ps)=>g ps ρ
 |_=>.bad
noncomputable def AB (f:FE)(g:List PV->ao->Out):FS:=λρ=>OA (f ρ) g ρ
theorem BE (B:Blk X scope N' fm)(hc:X.calm=true){fi:FI}(hi:NI X false tg iter fi)(hg:∀C s H ex,NG (X.blk scope N' C s H ex) tg t)(hk:FK fm t)(ht:∀C s H ex,Mg (X.blk scope N' C s H ex) ifs fc)(he:∀C s H ex,NE (X.blk scope N' C s H ex) elt f)
  {x:Str} {px spos:Pos} {g:List PV->ao->Out} (hst:P8 X x g) (hsw:swapsWith (.ListComp elt [⟨tg,iter,ifs,0⟩] scope pos) (some (.Name x px)) spos.line X.env=pure true) (hs:∀x,foldedSetIterable iter X.env x=pure x:=by intro _;rfl) :
  NS X (.Assign [.Name x px] (.ListComp elt [⟨tg,iter,ifs,0⟩] scope pos) spos) (AB (cQ fm fi t fc f) g):=λz s0 E hz hb=>by
 unfold AB OA at hb ⊢
 split at hb
 ·next ps er=>
  obtain⟨its,ei,q⟩:=a0a.mp er
  split at q
  ·next hl=>
   obtain⟨ps',eg,e⟩:=a0d.mp q
   cases e
   rw[exec_Assign_Name_used _ _ _ _ hsw]
   refine wpAny_bind (wpAny_standAt (wpAny_bind ?_))
   show wpAny _ X.A (do let _ ←comprehension (.ListComp elt [⟨tg,iter,ifs,0⟩] scope pos) scope X.env _ (newList []) false (eval iter X.env) (some (assign (.Name x px) X.env))) _ _ s0
   refine wpAny_bind (aY (wpAny_comprehension_free (use:=some (assign (.Name x px) X.env)) (Q:=λ_ s'=>Z.sp z s0 (g ps z.ρ) .next s') rfl hs (pG (B.ok.has hz.I.ok)) B.ok.kind B.ok.names (aY (hi z s0 its E hz ei) λv s1 h1=>aY h1 λitv s2 h2=>?_)) λ_ s' q=>wpAny_pure (wpAny_pure q))
   refine sd B hc hg hk ht he hz h2 hl eg (RR:=λacc C=>compPost (model X.prog X.w) X.A E (some (assign (.Name x px) X.env)) (λ_ s'=>Z.sp z s0 (g ps z.ρ) .next s') acc C) λDd C s' zC e04 nD hDC l fC nC ⟨m,hn⟩=>?_
   have hn':=hn
   obtain⟨oC,es,ep,gC,cC,dC,rC⟩:=hn'
   have fC':=fC
   obtain⟨f0,f1,f2,f3,f4,f5⟩:=fC'
   have pC:((z.wb [C]).wp [(C,oC)]).ok s':=by
    refine⟨zC.I.pins_of λp hp=>(a0w.mp hp).elim (λq=>zC.I.pin p (a0o _ q)) λq=>?_,zC.len,zC.slk,zC.dj,zC.nb,zC.oh,zC.oh0,zC.loc,zC.cel,zC.fs,zC.ex,zC.there,zC.bs,zC.ot,zC.anc⟩
    rw[show p=(C,oC) by simpa using q]
    exact⟨gC,f0,f1,f2,λv y=>by
     have y:oC.data=.cell v:=y
     first
      |(rw[dC] at y;cases y)
      |(rw[cC] at y;cases y)⟩
   show W X (assign (.Name x px) X.env (.ref Dd)) _ E s'
   refine wpAny_assign_Name (aY (hst ((z.wb [C]).wp [(C,oC)]) ps Dd s' E pC ⟨(hz.free nD).1,λy=>y.elim (hz.free nD).2 λy=>hDC (by simpa using y)⟩ (fO hz nD) (λp hp y=>?_) l (hz.sk nD e04 λb y=>y.imp id λy=>by rw[show b=C by simpa using y];exact nC)) λ_ s'' ⟨σ',H',ρ',eg,ok,e5,hH⟩=>?_)
   ·rcases a0w.mp hp with q|q
    ·have:=(hz.I.pin p (a1b _ q)).1
     rw[y,nD] at this;cases this
    ·rcases a0w.mp q with q|q
     ·have:=(hz.I.pin p (a0o _ q)).1
      rw[y,nD] at this;cases this
     ·rw[show p=(C,oC) by simpa using q] at y;exact hDC y.symm
   ·have gC2:s''.heap.get? C=some oC:=(ok.I.pin (C,oC) (a0o _ (a0o _ (a0g.mpr rfl)))).1
    refine⟨m,⟨oC,es,ep,gC2,cC,dC,rC⟩,λh' sb=>?_⟩
    have hC:H' C=none:=(ok.I.pin (C,oC) (a0o _ (a0o _ (a0g.mpr rfl)))).2.1
    obtain⟨ok2,k⟩:=Ep (σ:=σ') (H:=H') (ρ:=ρ') hz (unpinned (z:=z.wb [C]) ok) ⟨hC,f1,f2,f3,f4,f5⟩ nC sb
    show Z.sp z s0 (g ps z.ρ) .next _
    rw[show g ps z.ρ=.nx ρ' from eg]
    have e0:Ext z.bad s0.heap h':=⟨λa o nb e=>?_,λa o e=>?_⟩
    ·refine⟨rfl,σ',H',ok2,?_⟩
     rcases hH with y|y
     ·rw[y];exact e0.stp
     ·rw[y];exact Stp.new e0 nD
    ·have ne:a≠C:=λy=>by rw[y,nC] at e;cases e
     exact k a o (by simpa using ne) (e5.kp a o (λy=>y.elim nb λy=>ne (by simpa using y)) (e04.kp a o nb e))
    ·have ne:a≠C:=λy=>by rw[y,nC] at e;cases e
     obtain⟨o1,e1⟩:=e04.th a o e
     obtain⟨o2,e2⟩:=e5.th a o1 e1
     exact⟨o2,k a o2 (by simpa using ne) e2⟩
  ·cases q
 ·exact absurd rfl hb
end
section
variable {X:Cx}{a b c:Expr}{fa fb fc:FE}{op op':CmpOp}{g g':PV->PV->Option RV}{pos:Pos}
theorem PD (h:zm X (compareOp op) g)(h':zm X (compareOp op') g')(ha:NE X a fa)(hb:NE X b fb)(hc:NE X c fc)(hm:lastMarks [op,op'] [b,c]=false):NE X (.Compare a [op,op'] [b,c] pos) (II g g' fa fb fc):=λz s r E hz q=>by
 obtain⟨x,ex,q⟩:=a0a.mp q
 obtain⟨y,ey,q⟩:=a0a.mp q
 obtain⟨k,ek,q⟩:=a0a.mp q
 refine Compare_chain (aY (ha z s x E hz ex) λv s1 q1=>chain_link (aY (hb z s1 y E q1.1.1 ey) λu s2 q2=>
  aY (h z s2 _ _ v u _ E q2.1.1 (q1.2.ext q2.1.2).rv q2.2.rv (gH ek)) λd s3 q3=>?_)) hm
 cases (show d=Value.bool k from q3.2)
 have g3:=(q1.1.trans q2.1).trans q3.1
 refine wpAny_truthy_bool ?_
 cases k with
 |false=>cases q;exact ite_ff ⟨g3,rfl⟩
 |true=>
  rw[if_pos rfl] at q
  obtain⟨w,ew,q⟩:=a0a.mp q
  exact ite_tt (chain_last (aY (hc z s3 w E q3.1.1 ew) λw' s4 q4=>aY (h' z s4 _ _ u w' r E q4.1.1 ((q2.2.ext q3.1.2).ext q4.1.2).rv q4.2.rv q) λd' s5 q5=>(g3.trans q4.1).post q5))
theorem PH (h:zm X (compareOp op) g)(h':zm X (compareOp op') g')(ha:NE X a fa)(hb:NE X b fb)(hc:NE X c fc)(hm:lastMarks [op,op'] [b,c]=false):NB X (.Compare a [op,op'] [b,c] pos) (fT (II g g' fa fb fc)):=λz s r E hz q=>by
 obtain⟨x,ex,q⟩:=a0a.mp (gH q)
 obtain⟨y,ey,q⟩:=a0a.mp q
 obtain⟨k,ek,q⟩:=a0a.mp q
 refine isTrue_chain (aY (ha z s x E hz ex) λv s1 q1=>test_link (aY (hb z s1 y E q1.1.1 ey) λu s2 q2=>
  aY (h z s2 _ _ v u _ E q2.1.1 (q1.2.ext q2.1.2).rv q2.2.rv (gH ek)) λd s3 q3=>?_)) hm
 cases (show d=Value.bool k from q3.2)
 have g3:=(q1.1.trans q2.1).trans q3.1
 refine wpAny_truthy_bool ?_
 cases k with
 |false=>cases q;exact ite_ff ⟨rfl,g3⟩
 |true=>
  rw[if_pos rfl] at q
  obtain⟨w,ew,q⟩:=a0a.mp q
  refine ite_tt (test_last (aY (hc z s3 w E q3.1.1 ew) λw' s4 q4=>aY (h' z s4 _ _ u w' _ E q4.1.1 ((q2.2.ext q3.1.2).ext q4.1.2).rv q4.2.rv q) λd' s5 q5=>?_))
  cases (show d'=Value.bool r from q5.2)
  exact wpAny_truthy_bool ⟨rfl,(g3.trans q4.1).trans q5.1⟩
noncomputable def Iv:Option PV->Option RV
 |some (.int i)=>some (.fz (.int (Builtin.Int.intBits i:Nat)))
 |_=>none
noncomputable def BP (f:FE):FE:=λρ=>(f ρ).bind λr=>Iv r.fr
theorem J1 {x:Str}{p apos cpos:Pos}{f:FE}(ha:NE X (.Name x p) f)(hline:(apos.endLine==cpos.line)=true):NE X (.Call (.Attribute (.Name x p) "bit_length" apos) [] [] cpos) (BP f):=λz s r E hz q=>by
 obtain⟨y,ey,q⟩:=a0a.mp q
 unfold Iv at q
 split at q
 ·next i ei=>
  cases q
  refine wpAny_Call_method0_late rfl hline (aY (ha z s y E hz ey) λv s1 q1=>?_)
  obtain⟨t,rfl⟩:=q1.2.fr ei
  refine⟨"int","int.bit_length",F.plainAttrs_int,F.slot_int_bit_length,F.type_int_bit_length,typeIs_int s1 i t,?_,Calls.callWith_builtin rfl (PySem.evalArgs_none ?_)⟩
  ·exact λa e=>nomatch e
  ·refine call_gives F.slot_int_bit_length (typeIs_int s1 i t) F.entry_int_bit_length (F.args_int_bit_length_1 _) (AutoIntG2.int_bit_length_int_0 i t) ?_
   exact⟨q1.1.trans (q1.1.1.tok _),_,rfl⟩
 ·cases q
end
noncomputable abbrev ma:=List PV->List PV->Option (List PV×PV)
noncomputable abbrev hL (a:Addr):Hp:=eE h0 a aW
structure NFL (P:Program)(w:World)(K:PySem.W.Frag)(mg:Str->Option Value)(base:Heap)(cm:Bool)(k:Nat)(f:Addr)(fd:FuncData)(ps:List Str)(F:ma):Prop where
 len:∀ps0 qs r,F ps0 qs=some r->qs.length+1=ps.length
 run:∀(A:Around) (outer:List Env) (s:Shared) (args:Args) (a:Addr) (us:List Value) (ps0 qs ps1:List PV) (p:PV) (bad:Addr->Prop),(cm=true->A.handled=none)->Rm k A->Env0 P w K mg base A outer s (hL a)->BindsTo s fd args (ps.zip (.ref a::us)) →
  (∀b∈qr outer,bad b)->(∀b,bad b->∃o,s.heap.get? b=some o)->(∀b o,base.get? b=some o->¬bad b)->¬bad a->ListAt ⟨j0 bad (hL a),P,w,mg⟩ s.heap a ps0->Ds ⟨j0 bad (hL a),P,w,mg⟩ s.heap qs us->F ps0 qs=some (ps1,p) →
  codeAny (model P w) A (.call (.ref f) args) (λr s'=>∃u,r=.ok (.ret u)/\s'.os=s.os/\AllBare s'.gens/\Un (qr outer) [] (hL a) (hL a) s.heap s'.heap/\D ⟨j0 bad (hL a),P,w,mg⟩ s'.heap p u/\ListAt ⟨j0 bad (hL a),P,w,mg⟩ s'.heap a ps1) s
theorem NFL.mono {P:Program}{w:World}{K:PySem.W.Frag}{mg:Str->Option Value}{base:Heap}{cm:Bool}{j k:Nat}{f:Addr}{fd:FuncData}{ps:List Str}{F:ma}(n:NFL P w K mg base cm j f fd ps F)(h:j<=k):NFL P w K mg base cm k f fd ps F:=
 ⟨n.len,λA outer s args a us ps0 qs ps1 p bad hc hr=>n.run A outer s args a us ps0 qs ps1 p bad hc (hr.mono h)⟩
noncomputable def mP:Option (PR×ao)->Option (List PV×PV)
 |some (.v p,some (.own ps1)::_)=>some (ps1,p)
 |_=>none
noncomputable def ro (a n:Nat)(g:FS):ma:=λps0 qs=>if qs.length+1=a then mP (g (Bj n (.own ps0::qs.map .val))).res2 else none
theorem xf {o:Option (PR×ao)}{ps1:List PV}{p:PV}(h:mP o=some (ps1,p)):∃ρ,o=some (.v p,some (.own ps1)::ρ):=by
 unfold mP at h
 split at h
 ·cases h;exact⟨_,rfl⟩
 ·cases h
theorem KD {P:Program}{w:World}{K:PySem.W.Frag}{mg:Str->Option Value}{base:Heap}{cm:Bool}{k:Nat}{f:Addr}{name qual:Str}{params:Arguments}{body:List Stmt}{scope:Scope}{dV kV doc pm cdv ct oc:Value}{an od:Option Addr}
  {osl:Array (Option Value)} {N ps:List Str} {g:FS} (lk:K.lookup f=some ⟨oc,od,.func (PySem.W.fnOf name qual params body scope dV kV doc pm an cdv ct),osl⟩) (hcd:PySem.W.codeIn K cdv qual=true) (S:FnScope N ps scope)
  (hbody:∀(A:Around) (outer:List Env) (s:Shared) (H:Hp),(cm=true->A.handled=none)->Rm k (A.deeper (envOfC qual scope s.heap.objs.size f cdv))->Bo (KY P w K mg base cm N qual scope f cdv A outer s H) body g) :
  NFL P w K mg base cm (k+1) f (PySem.W.fnOf name qual params body scope dV kV doc pm an cdv ct) ps (ro ps.length N.length g):=by
 refine⟨λps0 qs r q=>?_,λA outer s args a us ps0 qs ps1 p bad hc hr e0 hb hfr hth hbs na l ds q=>?_⟩
 ·unfold ro at q;split at q
  ·assumption
  ·cases q
 ·unfold ro at q
  split at q
  ·next hl=>
   obtain⟨ρ,q2⟩:=xf q
   have oL:∀b o,hL a b=some o->b=a/\o=aW:=λb o e=>by
    by_cases hb:b=a
    ·subst hb;have e:eE h0 b aW b=some o:=e;rw[bV] at e;cases e;exact⟨rfl,rfl⟩
    ·have e:eE h0 a aW b=some o:=e;rw[aX hb] at e;cases e
   obtain⟨its,n,g1,zl,dl⟩:=id l
   refine y9 (H:=hL a) (ts:=.own ps0::qs.map .val) lk hcd S hc hr.depth e0 hb hfr hth hbs (by simpa using hl) ⟨.ref a,us,rfl,⟨a,rfl,a,rfl,bV,l⟩,pK ds⟩ (λi t e o=>?_) (λb o e=>?_) (hbody A outer s _ hc (hr.deeper _)) q2 λbad' σ' H' u s' hb' ok d=>?_
   ·cases i with
    |zero=>rfl
    |succ i=>
     rw[a3o,a0q] at e
     obtain⟨p,_,rfl⟩:=a0d.mp e
     cases o
   ·obtain⟨rfl,rfl⟩:=oL b o e
    exact⟨rfl,na,rfl,_,g1,by intro q;exact absurd (Value.type.inj q) (by decide)⟩
   ·have b:=ok.I.base
    have an:=ok.anc rfl a (show eE h0 a aW a≠none by rw[bV];simp)
    obtain⟨v,e2,_,a',ea,hH,l'⟩:=ok.slk 0 (.own ps1) rfl
    rw[an] at e2;cases e2;cases ea
    have kp:Kp ⟨j0 bad' H',P,w,mg⟩ ⟨j0 bad (hL a),P,w,mg⟩ s'.heap s'.heap:=⟨rfl,rfl,rfl,λb o q e=>⟨⟨aX (λy=>by rw[y] at q;have q1:H' a=none:=q.1;rw[show H' a=some aW from hH] at q1;cases q1),λw=>q.2 (hb' b w)⟩,e⟩⟩
    refine⟨u,rfl,ok.I.os,ok.I.bare,⟨b.keep,b.slot,λb o _ n _=>n,b.there,λb xs e=>?_,λb o u e=>?_,λb ps e=>?_⟩,D1.m d kp,l'.mono kp λ_ e=>e⟩
    ·cases (oL b _ e).2
    ·cases (oL b _ e).2
    ·cases (oL b _ e).2
  ·cases q
section
variable {X:Cx}{i:Nat}{x:Str}{es:List Expr}{fs:FA}{pos:Pos}
theorem Gp {cm:Bool}{k:Nat}{f:Addr}{fd:FuncData}{ps:List Str}{F:ma}(n:NFL X.prog X.w X.K X.mg X.base cm k f fd ps F)(hc:cm=true->X.calm=true)(hr:Rm k X.A)(hb:Binds X.K fd ps []){z:Z X}{s:Shared}(hz:z.ok s){a:Addr}(o:bx z.σ z.ρ i a){ps0 ps1 qs:List PV}{us:List Value}{p:PV}
  (hH:z.H a=some aW) (l:ListAt z.cn s.heap a ps0) (ds:Ds z.cn s.heap qs us) (q:F ps0 qs=some (ps1,p)) {E:Value->Shared->Prop} :
  W X (call (.ref f) (.ref a::us)) (λv s'=>(z.wi z.σ z.H (z.ρ.set i (some (.own ps1)))).ok s'/\Stp z.bad z.H z.H s.heap s'.heap/\D z.cn s'.heap p v) E s:=by
 have e0:=hz.I.env0
 have ne:∀b,z.H b=none->b≠a:=λb e y=>by subst y;rw[hH] at e;cases e
 have hLn:∀b,z.H b=none->hL a b=none:=λb e=>aX (ne b e)
 have e1:Env0 X.prog X.w X.K X.mg X.base X.A X.stack s (hL a):=⟨e0.frames,e0.mod,λb o e=>⟨(e0.bs b o e).1,hLn b (e0.bs b o e).2⟩,e0.bsz,e0.funs,λb hb=>hLn b (e0.frf b hb),λb u e=>(by
  by_cases hb:b=a
  ·subst hb
   have e:eE h0 b aW b=some u:=e
   rw[bV] at e;cases e
   exact⟨trivial,hz.stands hH,λ_ _ _ _=>trivial⟩
  ·have e:eE h0 a aW b=some u:=e
   rw[aX hb] at e;cases e),e0.bare⟩
 have hl:((Value.ref a::us)++[]).length=ps.length:=by rw[a1s,a0p,ds.length];exact n.len _ _ _ q
 have hfr:∀b∈qr X.stack,z.bad b:=λb hb=>by
  rcases a0s.mp (hz.I.stkSub b hb) with e|e
  ·rw[e];exact hz.loc
  ·exact hz.fs b e
 let bad:Addr->Prop:=λb=>(z.bad b\/z.H b≠none)/\b≠a
 have kp:Kp z.cn ⟨j0 bad (hL a),X.prog,X.w,X.mg⟩ s.heap s.heap:=⟨rfl,rfl,rfl,λb o q e=>⟨⟨hLn b q.1,λy=>y.1.elim q.2 λy=>y q.1⟩,e⟩⟩
 refine wpAny_call (codeAny_mono (n.run X.A X.stack s ⟨.ref a::us,[]⟩ a us ps0 qs ps1 p bad (λc=>hz.I.ok.hd (hc c)) hr e1 (by have:=hb s (.ref a::us) hz.I.kIn hl;rwa [a1s] at this) (λb q=>⟨.inl (hfr b q),λy=>(hz.ot a _ hH).1 (y▸hfr b q)⟩) (λb q=>?_) (λb o e q=>?_) (λy=>y.2 rfl) (l.mono kp λ_ e=>e) (ds.mono kp) q) λres s' hq=>?_)
 ·rcases q.1 with w|w
  ·exact hz.there b w
  ·cases e:z.H b with
   |none=>exact absurd e w
   |some o=>exact hz.stands e
 ·rcases q.1 with w|w
  ·exact hz.bs b o e w
  ·exact w (hz.I.bs b o e).2
 ·obtain⟨u,rfl,os,bare,un,d,l'⟩:=hq
  have kp2:Kp ⟨j0 bad (hL a),X.prog,X.w,X.mg⟩ z.cn s'.heap s'.heap:=⟨rfl,rfl,rfl,λb o q e=>by
   have nb:b≠a:=λy=>by subst y;have:=q.1;rw[show hL b b=some aW from bV] at this;cases this
   refine⟨⟨?_,λy=>q.2 ⟨.inl y,nb⟩⟩,e⟩
   cases w:z.H b with
   |none=>rfl
   |some o=>exact absurd ⟨.inr (by rw[w];simp),nb⟩ q.2⟩
  have hok:HOk X.prog X.w z.H s'.heap:=λb o e=>by
   have e2:=hz.oh b o e
   subst e2
   obtain⟨ob,q⟩:=hz.stands e
   obtain⟨o',q'⟩:=un.there b ob q (by simp)
   exact⟨trivial,⟨o',q'⟩,λ_ _ _ _=>trivial⟩
  have U:Un (qr X.stack) [] z.H z.H s.heap s'.heap:=⟨λb o e n f x=>un.keep b o e (hLn b n) f x,λb o e n f x=>un.slot b o e (hLn b n) f x,λ_ _ _ n _=>n,un.there,λ_ _ e=>e,λ_ _ _ e=>e,λb ps e=>⟨#[],by rw[e];simp⟩⟩
  have I':=hz.I.call' os U hok bare (λb z=>absurd z (by simp))
  obtain⟨h1,h2⟩:=Z.ok.mut0 hz o I' (λb u nb ne e=>un.keep b u e (aX ne) (λq=>nb (hfr b q)) (by simp)) (λb u e=>un.there b u e (by simp)) (t:=.own ps1) rfl (mw l') λ_=>⟨a,rfl,hH,l'.mono kp2 λ_ e=>e⟩
  exact⟨h1,h2,d.m kp2⟩
structure DefL (P:Program)(w:World)(K:PySem.W.Frag)(mg:Str->Option Value)(base:Heap)(cm:Bool)(k:Nat)(x:Str)(F:ma):Prop where
 ex:∃f fd ps,NFL P w K mg base cm k f fd ps F/\Binds K fd ps []/\PySem.W.keepIn K (.ref f)=true/\mg x=some (.ref f)
noncomputable def tW (tab:List (Str×Fn))(o:Option Sl)(qs:Option (List PV))(rs:List RV):Option RV:=match o with
 |some (.val (.fn x))=>(tab.lookup x).bind λF=>qz F qs rs
 |_=>none
noncomputable def pA (tab:List (Str×Fn))(j:Nat)(fs:FA):FE:=λρ=>(fs ρ).bind λrs=>tW tab (sl ρ j) (rs.mapM RV.fr) rs
theorem Fk {cm:Bool}{k:Nat}{j:Nat}{y:Str}{p:Pos}{e:Expr}{tab:List (Str×Fn)}(ht:∀x F,tab.lookup x=some F->(∃j,j<=k/\DefN X.prog X.w X.K X.mg X.base cm j x F)\/X.mg x=none)(hc:cm=true->X.calm=true)(hr:Rm k X.A)
  (hN:X.N[j]?=some y) (hv:qp X.env.scope y) (hd:(y==("__debug__" : Str))=false) (hcd:(y==("__classdict__" : Str))=false) (ha:NA X (e::es) fs)
  (he:starEach (e::es) X.env=(false,eval e X.env)::starEach es X.env) (hpl:(backTo pos (starEach es X.env)).any (·.1)=false):NE X (.Call (.Name y p) (e::es) [] pos) (pA tab j fs):=λz s r E hz q=>by
 obtain⟨rs,er,q⟩:=a0a.mp q
 unfold tW at q
 split at q
 ·next x ef=>
  obtain⟨F,eF,q⟩:=a0a.mp q
  refine wpAny_Call_Name_kw (aY (Oh hN hv hd hcd z s (.fz (.fn x)) E hz (show (sl z.ρ j).map ur=_ by rw[ef];rfl)) λv s0 q0=>?_)
  obtain⟨a,m,rfl⟩:=q0.2
  have m:X.mg x=some (.ref a):=m
  obtain⟨jj,hj,d⟩:∃j,j<=k/\DefN X.prog X.w X.K X.mg X.base cm j x F:=(ht x F eF).elim id λhn=>by rw[hn] at m;cases m
  obtain⟨f,fd,ps,n,hb,hk,hm⟩:=d.ex
  rw[hm] at m;cases m
  refine PySem.W.callWith_K (h₀:=X.base) hz.I.ok.mod.kin hk (aY (ha z pos s0 rs E q0.1.1 er) λus s1 ⟨g1,d1⟩=>⟨g1.1.I.kIn,?_⟩) he hpl
  exact aY (xM (n.mono hj) hc hr hb g1.1 d1 q) λu s2 q2=>(q0.1.trans g1).post q2
 ·cases q
noncomputable def pO (F:Option ma)(o:Option Sl)(qs:Option (List PV))(i:Nat)(t:FT)(ρ:ao):Out:=match F,o,qs with
 |some F,some (.own ps),some qs=>match F ps qs with
  |some (ps1,p)=>IE (t p (ρ.set i (some (.own ps1))))
  |none=>.bad
 |_,_,_=>.bad
noncomputable def IW (F:ma)(i:Nat)(fs:FA)(t:FT):FS:=λρ=>pO (some F) (sl ρ i) ((fs ρ).bind λrs=>rs.mapM RV.fr) i t ρ
noncomputable def Ny (tab:List (Str×ma))(o:Option Sl):Option ma:=match o with
 |some (.val (.fn x))=>tab.lookup x
 |_=>none
noncomputable def pF (tab:List (Str×ma))(j i:Nat)(fs:FA)(t:FT):FS:=λρ=>pO (Ny tab (sl ρ j)) (sl ρ i) ((fs ρ).bind λrs=>rs.mapM RV.fr) i t ρ
theorem vQ {cm:Bool}{k:Nat}{f:Addr}{fd:FuncData}{ps:List Str}{F:ma}{tg:Expr}{t:FT}{xp fp cpos:Pos}{g:Str}(n:NFL X.prog X.w X.K X.mg X.base cm k f fd ps F)(hbi:Binds X.K fd ps [])(hk:PySem.W.keepIn X.K (.ref f)=true)(hc:cm=true->X.calm=true)(hr:Rm k X.A)
  (hN:X.N[i]?=some x) (hv:qp X.env.scope x) (hd:(x==("__debug__" : Str))=false) (hcd:(x==("__classdict__" : Str))=false) (ha:NA X es fs) (hpl:(backTo cpos (starEach es X.env)).any (·.1)=false) (hg:NG X tg t)
  (hs:swapsWithSole [tg] (.Call (.Name g fp) (.Name x xp::es) [] cpos) pos.line X.env=pure false) (hw:swappedStores [tg] (.Call (.Name g fp) (.Name x xp::es) [] cpos) X.env=pure none) (h1:(assignEach [tg] X.env).map (·.2)=[assign tg X.env])
  {z:Z X} {s:Shared} {E:Value->Shared->Prop} (hz:z.ok s) (hload:∀(s:Shared) Q,z.ok s->(∀s',z.go s s'->Q (.ref f) s')->W X (eval (.Name g fp) X.env) Q E s) (hb:pO (some F) (sl z.ρ i) ((fs z.ρ).bind λrs=>rs.mapM RV.fr) i t z.ρ≠.bad) :
  W X (exec (.Assign [tg] (.Call (.Name g fp) (.Name x xp::es) [] cpos) pos) X.env) (Z.sp z s (pO (some F) (sl z.ρ i) ((fs z.ρ).bind λrs=>rs.mapM RV.fr) i t z.ρ)) E s:=by
 unfold pO IE at hb ⊢
 split at hb
 ·next F' ps0 qs hF ho hq=>
  cases hF
  split at hb
  ·next ps1 p hr'=>
   split at hb
   ·next ρ' et=>
    obtain⟨rs,er,eq⟩:=a0a.mp hq
    refine wpAny_Assign_stores (wpAny_Call_Name_kw (hload s _ hz λs0 g0=>?_)) hs hw
    refine PySem.W.callWith_K (h₀:=X.base) hz.I.ok.mod.kin hk ?_ rfl hpl
    refine Calls.spliced_cons ?_
    obtain⟨v,e2,_,a,rfl,hH,l⟩:=g0.1.slk i _ (gz ho)
    refine lN g0.1 e2 hN hv hd hcd (aY (ha z cpos s0 rs _ g0.1 er) λus s1 ⟨g1,d1⟩=>⟨g1.1.I.kIn,?_⟩)
    have oa:bx z.σ z.ρ i a:=⟨⟨_,gz ho,rfl⟩,e2⟩
    have l1:ListAt z.cn s1.heap a ps0:=l.mono g1.2.kpD λo e=>g1.2.kp a o (hz.ot a _ hH).1 e
    refine aY (Gp n hc hr hbi g1.1 oa hH l1 (d1.fr eq) hr') λv s2 ⟨ok2,t2,d2⟩=>?_
    rw[h1]
    exact aY (hg (z.wi z.σ z.H (z.ρ.set i (some (.own ps1)))) s2 p v ρ' E ok2 d2 et) λ_ s3 ⟨σ3,ok3,x3⟩=>⟨rfl,σ3,z.H,ok3,((g0.2.trans g1.2).stp.trans t2).trans x3.stp⟩
   ·exact absurd rfl hb
  ·exact absurd rfl hb
 ·exact absurd rfl hb
theorem KU {cm:Bool}{k j:Nat}{F:ma}{tg:Expr}{t:FT}{xp fp cpos:Pos}{g:Str}(d:DefL X.prog X.w X.K X.mg X.base cm j g F)(hj:j<=k)(hgl:Gl X g)(hgd:(g==("__debug__" : Str))=false)(hc:cm=true->X.calm=true)(hr:Rm k X.A)
  (hN:X.N[i]?=some x) (hv:qp X.env.scope x) (hd:(x==("__debug__" : Str))=false) (hcd:(x==("__classdict__" : Str))=false) (ha:NA X es fs) (hpl:(backTo cpos (starEach es X.env)).any (·.1)=false) (hg:NG X tg t)
  (hs:swapsWithSole [tg] (.Call (.Name g fp) (.Name x xp::es) [] cpos) pos.line X.env=pure false) (hw:swappedStores [tg] (.Call (.Name g fp) (.Name x xp::es) [] cpos) X.env=pure none) (h1:(assignEach [tg] X.env).map (·.2)=[assign tg X.env]) :
  NS X (.Assign [tg] (.Call (.Name g fp) (.Name x xp::es) [] cpos) pos) (IW F i fs t):=λz s E hz hb=>by
 obtain⟨f,fd,ps,n,hbi,hk,hm⟩:=d.ex
 exact vQ (n.mono hj) hbi hk hc hr hN hv hd hcd ha hpl hg hs hw h1 hz (λs Q hz h=>ph hz.I hgl hm (h s hz.refl) hgd) hb
theorem Ft {cm:Bool}{k j:Nat}{y:Str}{tab:List (Str×ma)}{tg:Expr}{t:FT}{xp fp cpos:Pos}(ht:∀x F,tab.lookup x=some F->∃j,j<=k/\DefL X.prog X.w X.K X.mg X.base cm j x F)(hc:cm=true->X.calm=true)(hr:Rm k X.A)
  (hN':X.N[j]?=some y) (hv':qp X.env.scope y) (hd':(y==("__debug__" : Str))=false) (hcd':(y==("__classdict__" : Str))=false)
  (hN:X.N[i]?=some x) (hv:qp X.env.scope x) (hd:(x==("__debug__" : Str))=false) (hcd:(x==("__classdict__" : Str))=false) (ha:NA X es fs) (hpl:(backTo cpos (starEach es X.env)).any (·.1)=false) (hg:NG X tg t)
  (hs:swapsWithSole [tg] (.Call (.Name y fp) (.Name x xp::es) [] cpos) pos.line X.env=pure false) (hw:swappedStores [tg] (.Call (.Name y fp) (.Name x xp::es) [] cpos) X.env=pure none) (h1:(assignEach [tg] X.env).map (·.2)=[assign tg X.env]) :
  NS X (.Assign [tg] (.Call (.Name y fp) (.Name x xp::es) [] cpos) pos) (pF tab j i fs t):=λz s E hz hb=>by
 unfold pF at hb ⊢
 cases ho:Ny tab (sl z.ρ j) with
 |none=>rw[ho] at hb;exact absurd rfl hb
 |some F=>
  rw[ho] at hb
  have ho':=ho
  unfold Ny at ho'
  split at ho'
  ·next g ef=>
   obtain⟨jj,hj,d⟩:=ht g F ho'
   obtain⟨f,fd,ps,n,hbi,hk,hm⟩:=d.ex
   refine vQ (n.mono hj) hbi hk hc hr hN hv hd hcd ha hpl hg hs hw h1 hz (λs Q hz' h=>?_) hb
   have:=Oh (pos:=fp) hN' hv' hd' hcd' z s (.fz (.fn g)) E hz' (show (sl z.ρ j).map ur=_ by rw[ef];rfl)
   exact aY this λv s1 q=>by
    obtain⟨a,m,rfl⟩:=q.2
    have m:X.mg g=some (.ref a):=m
    rw[hm] at m;cases m
    exact h s1 q.1
  ·cases ho'
end
section
variable {X:Cx}{o:Expr}{es:List Expr}{fo:FE}{fs:FA}{pos:Pos}
structure MthN (X:Cx)(T:String)(name:Str)(id:String)(g:PV->List PV->Option RV):Prop where
 pa:PlainAttrs T
 slot:Slot T name id
 hty:typeOf (.builtin id)=pure (.type "method_descriptor")
 ty:∀(z:Z X) (s:Shared) p qs r u,g p qs=some r->Rv z s.heap p u->s.TypeIs u T/\∀b,u=.ref b->∃ob,s.heap.get? b=some ob/\ob.dict=none
 call:∀(z:Z X) (s:Shared) p u qs us r E,z.ok s->Rv z s.heap p u->Rvs z s.heap qs us->g p qs=some r->W X (call (.builtin id) (u::us)) (Z.post z s r) E s
structure Mc (X:Cx)(o:Expr)(name:Str)(apos cpos:Pos)(es:List Expr):Prop where
 base:attributeBase o name X.env (eval o X.env)=eval o X.env
 line:(apos.endLine==cpos.line)=true
 few:((backTo cpos (starEach es X.env)).all (λx=>!x.1)&&(backToKw cpos (keywordEach [] X.env)).all (λx=>x.1.isSome)&&decide (es.length+([]:List Keyword).length+(if ([]:List Keyword).isEmpty then 0 else 1)<30))=true
 ns:∀e r,es=e::r->starEach (e::r) X.env=(false,eval e X.env)::starEach r X.env/\(backTo cpos (starEach r X.env)).any (·.1)=false
noncomputable def vU (g:PV->List PV->Option RV)(fo:FE)(fs:FA):FE:=λρ=>(fo ρ).bind λx=>(fs ρ).bind λrs=>g x.pv (rs.map RV.pv)
theorem It {T:String}{name:Str}{id:String}{g:PV->List PV->Option RV}(m:MthN X T name id g){apos cpos:Pos}(c:Mc X o name apos cpos es)(ho:NE X o fo)(ha:NA X es fs)(h0:es=[]->fs=ah):NE X (.Call (.Attribute o name apos) es [] cpos) (vU g fo fs):=λz s r E hz q=>by
 obtain⟨x,ex,q⟩:=a0a.mp q
 obtain⟨rs,er,q⟩:=a0a.mp q
 cases es with
 |nil=>
  refine wpAny_Call_method0_late c.base c.line (aY (ho z s x E hz ex) λu s1 q1=>?_)
  obtain⟨t1,t2⟩:=m.ty z s1 _ _ r u q q1.2.rv
  rw[h0 rfl] at er;cases er
  exact⟨T,id,m.pa,m.slot,m.hty,t1,t2,Calls.callWith_builtin rfl (PySem.evalArgs_none (aY (m.call z s1 _ u _ [] r E q1.1.1 q1.2.rv .nil q) λv s2 q2=>q1.1.post q2))⟩
 |cons e0 es0=>
  refine wpAny_Call_method_late c.base c.few c.line rfl (aY (ho z s x E hz ex) λu s1 q1=>?_)
  obtain⟨t1,t2⟩:=m.ty z s1 _ _ r u q q1.2.rv
  refine⟨T,id,m.pa,m.slot,m.hty,t1,t2,?_⟩
  obtain⟨hs,hp⟩:=c.ns e0 es0 rfl
  have hA:=ha z cpos s1 rs E q1.1.1 er
  rw[hs] at hA ⊢
  refine Calls.callWith_builtin (by show (false || (backTo cpos (starEach es0 X.env)).any (·.1))=false;rw[hp]<;>rfl) (Calls.evalArgs_plain ?_)
  exact aY hA λus s2 ⟨g2,d2⟩=>aY (m.call z s2 _ u _ us r E g2.1 (q1.2.ext g2.2).rv d2.rv q) λv s3 q3=>(q1.1.trans g2).post q3
noncomputable def mh:PV->List PV->Option RV
 |.dct ks ps,[k]=>(fJ k).map λk=>.fz ((mx ks ps k).getD .non)
 |.dct ks ps,[k,x]=>(fJ k).bind λk=>match mx ks ps k with
  |some p=>some (.fz p)
  |none=>if KK x=true then none else some (.fz x)
 |_,_=>none
theorem Cq {z:Z X}{s:Shared}{ks:List cR}{ps:List PV}{u:Value}(d:Rv z s.heap (.dct ks ps) u):s.TypeIs u "dict"/\∀b,u=.ref b->∃ob,s.heap.get? b=some ob/\ob.dict=none:=by
 obtain⟨a,kus,rfl,_,y,dd,_⟩:=d.rd
 refine⟨dd.typeIs,λb e=>?_⟩
 cases e
 obtain⟨ob,_,_,h1,h2,_⟩:=dd
 exact⟨ob,h1,h2.2.1⟩
theorem HN:MthN X "dict" "get" "dict.get" mh where
 pa:=PySem.F.plainAttrs_dict
 slot:=PySem.F.slot_dict_get
 hty:=PySem.F.type_dict_get
 ty:=λz s p qs r u e d=>by
  unfold mh at e
  split at e
  ·exact Cq d
  ·exact Cq d
  ·cases e
 call:=λz s p u qs us r E hz d ds e=>by
  unfold mh at e
  split at e
  ·next ks ps k0=>
   obtain⟨k,ek,rfl⟩:=a0d.mp e
   obtain⟨v,rfl,dv⟩:=ds.one
   obtain⟨a,kus,rfl,_,y,dd,zl,hk,dps⟩:=d.rd
   obtain⟨h1,h2⟩:=md (y:=k) hk dps
   refine call_meetsIn PySem.F.slot_dict_get dd.typeIs PySem.F.entry_dict_get (PySem.F.args_dict_get_2 _ _) (meets_dict_get (bB X.prog X.w) a (nM (ft ek dv.rd)) y) ⟨_,dd.mapOf,hz.tok _,?_⟩
   cases hd:mx ks ps k with
   |none=>rw[h2 hd];exact rfl
   |some p=>obtain⟨w,e1,dw⟩:=h1 p hd;rw[e1];exact dw
  ·next ks ps k0 x=>
   obtain⟨k,ek,e⟩:=a0a.mp e
   obtain⟨v,w0,rfl,dv,dx⟩:=ds.two
   obtain⟨a,kus,rfl,_,y,dd,zl,hk,dps⟩:=d.rd
   obtain⟨h1,h2⟩:=md (y:=k) hk dps
   refine call_meetsIn PySem.F.slot_dict_get dd.typeIs PySem.F.entry_dict_get (PySem.F.args_dict_get_3 _ _ _) (meets_dict_get_default (bB X.prog X.w) a (nM (ft ek dv.rd)) y w0) ⟨_,dd.mapOf,?_⟩
   split at e
   ·next p hd=>
    cases e
    obtain⟨w,e1,dw⟩:=h1 p hd
    rw[e1];exact⟨hz.tok _,dw⟩
   ·next hd=>
    split at e
    ·cases e
    ·next hn=>
     cases e
     rw[h2 hd]
     exact⟨hz.tok _,D1.m (dx.fz (by simpa using hn)) .refl⟩
  ·cases e
end
noncomputable def uE {α:Type}(nm:Str->Pos->Option α)(tu:List Expr->Nat->Pos->Option α)(li:List Expr->Pos->Option α)(cl:Expr->List Expr->List Keyword->Pos->Option α)(am:Expr->Str->Pos->Option α)(sb:Expr->Expr->Pos->Option α)(sl:Option Expr->Option Expr->Option Expr->Pos->Option α)(lc:Expr->List Comprehension->Scope->Pos->Option α):Expr->Option α
 |.Name x p=>nm x p
 |.Tuple es k p=>tu es k p
 |.List es p=>li es p
 |.Call f es ks p=>cl f es ks p
 |.Attribute o m p=>am o m p
 |.Subscript o i p=>sb o i p
 |.Slice x y z p=>sl x y z p
 |.ListComp x gs c p=>lc x gs c p
 |_=>none
noncomputable def Qf {α:Type}(nm:Str->Pos->Option α)(r:α)(e:Expr):Prop:=∃a' b',e=.Name a' b'/\nm a' b'=some r
noncomputable def Qe {α:Type}(tu:List Expr->Nat->Pos->Option α)(r:α)(e:Expr):Prop:=∃a' b' c',e=.Tuple a' b' c'/\tu a' b' c'=some r
noncomputable def Qo {α:Type}(li:List Expr->Pos->Option α)(r:α)(e:Expr):Prop:=∃a' b',e=.List a' b'/\li a' b'=some r
noncomputable def PT {α:Type}(cl:Expr->List Expr->List Keyword->Pos->Option α)(r:α)(e:Expr):Prop:=∃a' b' c' d',e=.Call a' b' c' d'/\cl a' b' c' d'=some r
noncomputable def P5 {α:Type}(am:Expr->Str->Pos->Option α)(r:α)(e:Expr):Prop:=∃a' b' c',e=.Attribute a' b' c'/\am a' b' c'=some r
noncomputable def P7 {α:Type}(sb:Expr->Expr->Pos->Option α)(r:α)(e:Expr):Prop:=∃a' b' c',e=.Subscript a' b' c'/\sb a' b' c'=some r
noncomputable def Qr {α:Type}(sl:Option Expr->Option Expr->Option Expr->Pos->Option α)(r:α)(e:Expr):Prop:=∃a' b' c' d',e=.Slice a' b' c' d'/\sl a' b' c' d'=some r
noncomputable def Ps {α:Type}(lc:Expr->List Comprehension->Scope->Pos->Option α)(r:α)(e:Expr):Prop:=∃a' b' c' d',e=.ListComp a' b' c' d'/\lc a' b' c' d'=some r
noncomputable def UE {α:Type}(nm:Str->Pos->Option α)(tu:List Expr->Nat->Pos->Option α)(li:List Expr->Pos->Option α)(cl:Expr->List Expr->List Keyword->Pos->Option α)(am:Expr->Str->Pos->Option α)(sb:Expr->Expr->Pos->Option α)(sl:Option Expr->Option Expr->Option Expr->Pos->Option α)(lc:Expr->List Comprehension->Scope->Pos->Option α)(r:α)(e:Expr):Prop:=Qf nm r e\/Qe tu r e\/Qo li r e\/PT cl r e\/P5 am r e\/P7 sb r e\/Qr sl r e\/Ps lc r e
theorem nT {α:Type}{nm:Str->Pos->Option α}{tu:List Expr->Nat->Pos->Option α}{li:List Expr->Pos->Option α}{cl:Expr->List Expr->List Keyword->Pos->Option α}{am:Expr->Str->Pos->Option α}{sb:Expr->Expr->Pos->Option α}{sl:Option Expr->Option Expr->Option Expr->Pos->Option α}{lc:Expr->List Comprehension->Scope->Pos->Option α}{a:α}:∀(e:Expr) (_:uE nm tu li cl am sb sl lc e=some a),UE nm tu li cl am sb sl lc a e:=λe=>by
 cases e<;>first|exact λh=>uz h|exact λh=>.inl ⟨_,_,rfl,h⟩|exact λh=>.inr (.inl ⟨_,_,_,rfl,h⟩)|exact λh=>.inr (.inr (.inl ⟨_,_,rfl,h⟩))|exact λh=>.inr (.inr (.inr (.inl ⟨_,_,_,_,rfl,h⟩)))|exact λh=>.inr (.inr (.inr (.inr (.inl ⟨_,_,_,rfl,h⟩))))|exact λh=>.inr (.inr (.inr (.inr (.inr (.inl ⟨_,_,_,rfl,h⟩)))))|exact λh=>.inr (.inr (.inr (.inr (.inr (.inr (.inl ⟨_,_,_,_,rfl,h⟩))))))|exact λh=>.inr (.inr (.inr (.inr (.inr (.inr (.inr ⟨_,_,_,_,rfl,h⟩))))))
noncomputable def jX {α β γ:Type}(_:α)(_:β):Option γ:=none
noncomputable def gQ {α β γ δ:Type}(_:α)(_:β)(_:γ):Option δ:=none
noncomputable def gR {α β γ δ ε:Type}(_:α)(_:β)(_:γ)(_:δ):Option ε:=none
noncomputable def Jw {α β γ δ ε ζ:Type}(_:α)(_:β)(_:γ)(_:δ)(_:ε):Option ζ:=none
theorem OS {α β δ:Type}{P:α->β->Prop}{r:δ}{q:Prop}(h:∃a b,P a b/\(jX a b:Option δ)=some r):q:=h.elim λ_ h=>h.elim λ_ h=>uz h.2
theorem Mn {α β γ δ:Type}{P:α->β->γ->Prop}{r:δ}{q:Prop}(h:∃a b c,P a b c/\(gQ a b c:Option δ)=some r):q:=h.elim λ_ h=>h.elim λ_ h=>h.elim λ_ h=>uz h.2
theorem Mi {α β γ ε δ:Type}{P:α->β->γ->ε->Prop}{r:δ}{q:Prop}(h:∃a b c d,P a b c d/\(gR a b c d:Option δ)=some r):q:=h.elim λ_ h=>h.elim λ_ h=>h.elim λ_ h=>h.elim λ_ h=>uz h.2
theorem PC {α β γ ε ζ δ:Type}{P:α->β->γ->ε->ζ->Prop}{r:δ}{q:Prop}(h:∃a b c d e,P a b c d e/\(Jw a b c d e:Option δ)=some r):q:=h.elim λ_ h=>h.elim λ_ h=>h.elim λ_ h=>h.elim λ_ h=>h.elim λ_ h=>uz h.2
theorem wO {α:Type}{r:α}{e:Expr}{q:Prop}(h:Qf jX r e):q:=OS h
theorem xU {α:Type}{r:α}{e:Expr}{q:Prop}(h:Qe gQ r e):q:=Mn h
theorem xz {α:Type}{r:α}{e:Expr}{q:Prop}(h:Qo jX r e):q:=OS h
theorem wY {α:Type}{r:α}{e:Expr}{q:Prop}(h:PT gR r e):q:=Mi h
theorem xA {α:Type}{r:α}{e:Expr}{q:Prop}(h:P5 gQ r e):q:=Mn h
theorem wN {α:Type}{r:α}{e:Expr}{q:Prop}(h:P7 gQ r e):q:=Mn h
theorem wX {α:Type}{r:α}{e:Expr}{q:Prop}(h:Qr gR r e):q:=Mi h
theorem x0 {α:Type}{r:α}{e:Expr}{q:Prop}(h:Ps gR r e):q:=Mi h
theorem KN {α:Type}{nm:Str->Pos->Option α}{e:Expr}{r:α}(h:uE nm gQ jX gR gQ gQ gR gR e=some r):Qf nm r e:=(nT e h).elim id (λh=>h.elim xU (λh=>h.elim xz (λh=>h.elim wY (λh=>h.elim xA (λh=>h.elim wN (λh=>h.elim wX x0))))))
theorem Jm {α:Type}{tu:List Expr->Nat->Pos->Option α}{e:Expr}{r:α}(h:uE jX tu jX gR gQ gQ gR gR e=some r):Qe tu r e:=(nT e h).elim wO (λh=>h.elim id (λh=>h.elim xz (λh=>h.elim wY (λh=>h.elim xA (λh=>h.elim wN (λh=>h.elim wX x0))))))
theorem Ld {α:Type}{li:List Expr->Pos->Option α}{e:Expr}{r:α}(h:uE jX gQ li gR gQ gQ gR gR e=some r):Qo li r e:=(nT e h).elim wO (λh=>h.elim xU (λh=>h.elim id (λh=>h.elim wY (λh=>h.elim xA (λh=>h.elim wN (λh=>h.elim wX x0))))))
theorem Lj {α:Type}{cl:Expr->List Expr->List Keyword->Pos->Option α}{e:Expr}{r:α}(h:uE jX gQ jX cl gQ gQ gR gR e=some r):PT cl r e:=(nT e h).elim wO (λh=>h.elim xU (λh=>h.elim xz (λh=>h.elim id (λh=>h.elim xA (λh=>h.elim wN (λh=>h.elim wX x0))))))
theorem KG {α:Type}{am:Expr->Str->Pos->Option α}{e:Expr}{r:α}(h:uE jX gQ jX gR am gQ gR gR e=some r):P5 am r e:=(nT e h).elim wO (λh=>h.elim xU (λh=>h.elim xz (λh=>h.elim wY (λh=>h.elim id (λh=>h.elim wN (λh=>h.elim wX x0))))))
theorem JF {α:Type}{sb:Expr->Expr->Pos->Option α}{e:Expr}{r:α}(h:uE jX gQ jX gR gQ sb gR gR e=some r):P7 sb r e:=(nT e h).elim wO (λh=>h.elim xU (λh=>h.elim xz (λh=>h.elim wY (λh=>h.elim xA (λh=>h.elim id (λh=>h.elim wX x0))))))
theorem Ly {α:Type}{sl:Option Expr->Option Expr->Option Expr->Pos->Option α}{e:Expr}{r:α}(h:uE jX gQ jX gR gQ gQ sl gR e=some r):Qr sl r e:=(nT e h).elim wO (λh=>h.elim xU (λh=>h.elim xz (λh=>h.elim wY (λh=>h.elim xA (λh=>h.elim wN (λh=>h.elim id x0))))))
theorem Km {α:Type}{lc:Expr->List Comprehension->Scope->Pos->Option α}{e:Expr}{r:α}(h:uE jX gQ jX gR gQ gQ gR lc e=some r):Ps lc r e:=(nT e h).elim wO (λh=>h.elim xU (λh=>h.elim xz (λh=>h.elim wY (λh=>h.elim xA (λh=>h.elim wN (λh=>h.elim wX id))))))
noncomputable def mE:Expr->Option (Str×Pos):=uE (λx p=>some (x,p)) gQ jX gR gQ gQ gR gR
theorem ci {e:Expr}{x:Str}{p:Pos}(h:mE e=some (x,p)):e=.Name x p:=by
 obtain⟨_,_,rfl,h⟩:=KN h
 cases h;rfl
noncomputable def Gj:Expr->Option (List Expr×Nat×Pos):=uE jX (λes k p=>some (es,k,p)) jX gR gQ gQ gR gR
theorem qb {e:Expr}{es:List Expr}{k:Nat}{p:Pos}(h:Gj e=some (es,k,p)):e=.Tuple es k p:=by
 obtain⟨_,_,_,rfl,h⟩:=Jm h
 cases h;rfl
noncomputable def QK:Expr->Option (List Expr×Pos):=uE jX gQ (λes p=>some (es,p)) gR gQ gQ gR gR
theorem LQ {e:Expr}{es:List Expr}{p:Pos}(h:QK e=some (es,p)):e=.List es p:=by
 obtain⟨_,_,rfl,h⟩:=Ld h
 cases h;rfl
noncomputable def Be:Expr->Option (Expr×List Expr×Pos):=uE jX gQ jX (λf es ks p=>u0 (f,es,p) ks) gQ gQ gR gR
theorem ij {e f:Expr}{es:List Expr}{p:Pos}(h:Be e=some (f,es,p)):e=.Call f es [] p:=by
 obtain⟨_,_,_,_,rfl,h⟩:=Lj h
 obtain⟨rfl,q⟩:=oi h
 cases q;rfl
noncomputable def LR:Expr->Option (Expr×Str×Pos):=uE jX gQ jX gR (λo m p=>some (o,m,p)) gQ gR gR
theorem nE {e o:Expr}{m:Str}{p:Pos}(h:LR e=some (o,m,p)):e=.Attribute o m p:=by
 obtain⟨_,_,_,rfl,h⟩:=KG h
 cases h;rfl
noncomputable def Qt:Expr->Option (Expr×Expr×Pos):=uE jX gQ jX gR gQ (λo i p=>some (o,i,p)) gR gR
theorem BB {e o i:Expr}{p:Pos}(h:Qt e=some (o,i,p)):e=.Subscript o i p:=by
 obtain⟨_,_,_,rfl,h⟩:=JF h
 cases h;rfl
noncomputable def QT:Expr->Option (Option Expr×Option Expr×Pos):=uE jX gQ jX gR gQ gQ (λx y z p=>z.elim (some (x,y,p)) λ_=>none) gR
theorem Ku {e:Expr}{x y:Option Expr}{p:Pos}(h:QT e=some (x,y,p)):e=.Slice x y none p:=by
 obtain⟨_,_,z,_,rfl,h⟩:=Ly h
 cases z with
 |none=>cases h;rfl
 |some=>exact uz h
noncomputable def O5:Expr->Option (Expr×Comprehension×Scope×Pos):=uE jX gQ jX gR gQ gQ gR (λx gs c p=>(u1 gs).map λg=>(x,g,c,p))
theorem Ks {e x:Expr}{g:Comprehension}{c:Scope}{p:Pos}(h:O5 e=some (x,g,c,p)):e=.ListComp x [g] c p:=by
 obtain⟨_,_,_,_,rfl,h⟩:=Km h
 obtain⟨d,e2,h⟩:=a0d.mp h
 cases h
 rw[eD e2]
noncomputable def uS {α:Type}(ss:List Expr->Expr->Pos->Option α)(ag:Expr->Operator->Expr->Pos->Option α)(ex:Expr->Pos->Option α)(fo:Expr->Expr->List Stmt->List Stmt->Pos->Option α):Stmt->Option α
 |.Assign ts v p=>ss ts v p
 |.AugAssign t o v p=>ag t o v p
 |.Expr e p=>ex e p
 |.For t i b o p=>fo t i b o p
 |_=>none
noncomputable def US {α:Type}(ss:List Expr->Expr->Pos->Option α)(ag:Expr->Operator->Expr->Pos->Option α)(ex:Expr->Pos->Option α)(fo:Expr->Expr->List Stmt->List Stmt->Pos->Option α)(a:α)(s:Stmt):Prop:=
 (∃ts v p,s=.Assign ts v p/\ss ts v p=some a)\/(∃t o v p,s=.AugAssign t o v p/\ag t o v p=some a)\/(∃e p,s=.Expr e p/\ex e p=some a)\/∃t i b o p,s=.For t i b o p/\fo t i b o p=some a
theorem zn {α:Type}{ss:List Expr->Expr->Pos->Option α}{ag:Expr->Operator->Expr->Pos->Option α}{ex:Expr->Pos->Option α}{fo:Expr->Expr->List Stmt->List Stmt->Pos->Option α}{a:α}:∀(s:Stmt) (_:uS ss ag ex fo s=some a),US ss ag ex fo a s:=λs=>by
 cases s<;>first|exact λh=>uz h|exact λh=>.inl ⟨_,_,_,rfl,h⟩|exact λh=>.inr (.inl ⟨_,_,_,_,rfl,h⟩)|exact λh=>.inr (.inr (.inl ⟨_,_,rfl,h⟩))|exact λh=>.inr (.inr (.inr ⟨_,_,_,_,_,rfl,h⟩))
theorem Lh {α:Type}{ss:List Expr->Expr->Pos->Option α}{s:Stmt}{a:α}(h:uS ss gR jX Jw s=some a):∃t v p,s=.Assign t v p/\ss t v p=some a:=(zn s h).elim id λh=>h.elim Mi λh=>h.elim OS PC
theorem KS {α:Type}{ag:Expr->Operator->Expr->Pos->Option α}{s:Stmt}{a:α}(h:uS gQ ag jX Jw s=some a):∃t o v p,s=.AugAssign t o v p/\ag t o v p=some a:=(zn s h).elim Mn λh=>h.elim id λh=>h.elim OS PC
theorem KA {α:Type}{ex:Expr->Pos->Option α}{s:Stmt}{a:α}(h:uS gQ gR ex Jw s=some a):∃e p,s=.Expr e p/\ex e p=some a:=(zn s h).elim Mn λh=>h.elim Mi λh=>h.elim id PC
theorem Ky {α:Type}{fo:Expr->Expr->List Stmt->List Stmt->Pos->Option α}{s:Stmt}{a:α}(h:uS gQ gR jX fo s=some a):∃t i b o p,s=.For t i b o p/\fo t i b o p=some a:=(zn s h).elim Mn λh=>h.elim Mi λh=>h.elim OS id
noncomputable def OG:Stmt->Option (Expr×Expr×Pos):=uS (λts v p=>(u1 ts).map λt=>(t,v,p)) gR jX Jw
theorem uf {s:Stmt}{t v:Expr}{p:Pos}(h:OG s=some (t,v,p)):s=.Assign [t] v p:=by
 obtain⟨_,_,_,rfl,h⟩:=Lh h
 obtain⟨d,e2,h⟩:=a0d.mp h
 cases h
 rw[eD e2]
noncomputable def Q5:Stmt->Option (Expr×Operator×Expr×Pos):=uS gQ (λt o v p=>some (t,o,v,p)) jX Jw
theorem Kw {s:Stmt}{t v:Expr}{o:Operator}{p:Pos}(h:Q5 s=some (t,o,v,p)):s=.AugAssign t o v p:=by
 obtain⟨_,_,_,_,rfl,h⟩:=KS h
 cases h;rfl
noncomputable def Q2:Stmt->Option (Expr×Pos):=uS gQ gR (λe p=>some (e,p)) Jw
theorem J3 {s:Stmt}{e:Expr}{p:Pos}(h:Q2 s=some (e,p)):s=.Expr e p:=by
 obtain⟨_,_,rfl,h⟩:=KA h
 cases h;rfl
noncomputable def Q6:Stmt->Option (Expr×Expr×List Stmt×Pos):=uS gQ gR jX λt i b o p=>u0 (t,i,b,p) o
theorem J6 {s:Stmt}{t i:Expr}{b:List Stmt}{p:Pos}(h:Q6 s=some (t,i,b,p)):s=.For t i b [] p:=by
 obtain⟨_,_,_,_,_,rfl,h⟩:=Ky h
 obtain⟨rfl,q⟩:=oi h
 cases q;rfl
noncomputable def IC:Operator->Bool
 |.Add=>true
 |_=>false
theorem DS {o:Operator}(h:IC o=true):o=.Add:=by cases o<;>first|rfl|cases h
noncomputable def DC {α:Type}(a b:Option α):Option α:=a.orElse λ_=>b
theorem je {α:Type}{a b:Option α}{r:α}(h:DC a b=some r):a=some r\/b=some r:=by
 cases a with
 |none=>exact .inr h
 |some=>exact .inl h
noncomputable def jE {α:Type}(c:Bool)(a:Option α):Option α:=if c=true then a else none
theorem bA {α:Type}{c:Bool}{a:Option α}{r:α}(h:jE c a=some r):c=true/\a=some r:=by
 unfold jE at h
 cases c with
 |true=>exact⟨rfl,by rwa [if_pos rfl] at h⟩
 |false=>rw[if_neg a0u] at h;cases h
structure Gd where
 bi:List Str:=[]
 nis:List (Str×Int):=[]
 tups:List (Str×List PV):=[]
 vals:List Str:=[]
 fns:List (Str×Fn):=[]
 dcts:List (Str×List cR×List PV):=[]
 tab:List (Str×Fn):=[]
 lents:List (Str×ma):=[]
structure Lc where
 sc:Scope
 N:List Str
 top:Bool:=true
 lent:Bool:=false
 own:List Str:=[]
 frz:List (Nat×List Nat):=[]
 alt:List (Nat×Nat):=[]
 cmp:List ((Nat×Nat)×List Str):=[]
 dic:List Str:=[]
structure Hk where
 e:Gd->(Lc->Expr->FE)->(Lc->Expr->FB)->Lc->Expr->Option FE:=λ_ _ _ _ _=>none
 i:Gd->Lc->(Expr->FE)->Expr->Expr->Option FI:=λ_ _ _ _ _=>none
 b:Gd->(Lc->Expr->FE)->(Lc->Expr->FB)->Lc->Expr->Option FB:=λ_ _ _ _ _=>none
 s:Gd->(Lc->Expr->FE)->(Lc->Expr->FB)->(Lc->Stmt->FS)->Lc->Stmt->Option FS:=λ_ _ _ _ _ _=>none
structure Gc extends Gd where
 hk:Hk:={}
noncomputable def Mo (x:Str):List Str->Option Nat
 |[]=>none
 |y::r=>if x=y then some 0 else (Mo x r).map (·+1)
theorem xS {x:Str}:∀{l:List Str} {i:Nat},Mo x l=some i->l[i]?=some x
 |[],_,h=>by cases h
 |y::r,i,h=>by
  unfold Mo at h
  split at h
  ·next e=>cases h;rw[e];rfl
  ·obtain⟨j,e,rfl⟩:=a0d.mp h
   rw[a3o];exact xS e
noncomputable def EU (x:Str):Bool:=x == "__debug__" || x == "__classdict__" || x == "__name__"
noncomputable def bX:FE:=λ_=>none
noncomputable def jW:Expr->Bool
 |.Starred _ _=>false
 |_=>true
theorem df {e:Expr}(h:jW e=true)(es:List Expr)(env:Env):starEach (e::es) env=(false,eval e env)::starEach es env:=by
 cases e<;>first|rfl|(cases h)
theorem iR {pos:Pos}{env:Env}:∀{es:List Expr},es.all jW=true->(backTo pos (starEach es env)).any (·.1)=false
 |[],_=>rfl
 |e::es,h=>by
  rw[a1h,a0b] at h
  rw[df h.1]
  exact iR (es:=es) h.2
noncomputable def QQ (L:Lc)(x:Str):Bool:=match L.sc.names.lookup x with
 |some .local=>true
 |some .cell=>true
 |some .free=>true
 |_=>false
noncomputable def glob (L:Lc)(x:Str):Bool:=L.sc.names.lookup x==some .globalImplicit&&!EU x
noncomputable def slot (L:Lc)(x:Str):Option Nat:=if QQ L x&&!EU x then Mo x L.N else none
noncomputable def dF (L:Lc)(x:Str):Option Nat:=if L.sc.names.lookup x==some .local || L.top&&L.sc.names.lookup x==some .cell then (Mo x L.N).bind (λi=>if L.lent&&i==0 then none else some i) else none
noncomputable def Qq (x:Str):FE:=if x = "int" then fC (.ty "int") else if x = "bool" then fC (.ty "bool") else if x = "str" then fC (.ty "str") else if x = "list" then fC (.ty "list") else if x = "tuple" then fC (.ty "tuple") else if x = "dict" then fC (.ty "dict") else bX
noncomputable def BF (G:Gc)(L:Lc)(x:Str):FE:=
 match slot L x with
 |some i=>fV i
 |none=>if glob L x then (match G.nis.lookup x with
  |some i=>fC (.int i)
  |none=>match G.tups.lookup x with
   |some ps=>fC (.ktu ps)
   |none=>if G.vals.contains x then fC (.fn x)
    else match G.dcts.lookup x with
     |some kp=>fC (.dct kp.1 kp.2)
     |none=>if G.bi.contains x then Qq x else bX) else bX
noncomputable def Mj (f:Expr->FE):List Expr->FA
 |[]=>ah
 |e::es=>aa (f e) (Mj f es)
noncomputable def vA (f:Expr->FE)(es:List Expr):FA:=if es.all jW then Mj f es else λ_=>none
noncomputable def yc (L:Lc)(p:Pos):Bool:=L.alt.contains (p.line,p.col)
noncomputable def O3 (x:Str)(alt:Bool)(n:Nat)(fs:FA):FE:=
 if x = "len" then fB j2 fs else if x = "abs" then fB Hz fs else if x = "all" then fB FC fs else if x = "any" then fB Cs fs
 else if x = "isinstance" then fB ua fs else if x = "sorted" then (if alt then fB nu fs else fB kS fs)
 else if x = "max" then (if n=2 then fB vg fs else fB zo fs) else if x = "min" then (if n=2 then fB pz fs else fB IH fs)
 else if x = "sum" then fB Fi fs else if x = "int" then fB A7 fs else if x = "tuple" then (if alt then fB wx fs else fB kZ fs)
 else if x = "list" then fB lA fs else if x = "range" then fB AC fs else if x = "str" then fB JX fs else bX
noncomputable def CF (G:Gc)(L:Lc)(f:Expr->FE)(x:Str)(args:List Expr)(pos:Pos):FE:=
 match slot L x with
 |some i=>if args.isEmpty then bX else pA G.tab i (vA f args)
 |none=>if glob L x then (match G.fns.lookup x with
  |some F=>if args.isEmpty then B8 F else aq F (vA f args)
  |none=>if G.bi.contains x&&!args.isEmpty then O3 x (yc L pos) args.length (vA f args) else bX) else bX
noncomputable def P6:Nat->Expr->List Str
 |_+1,.Name x _=>[x]
 |n+1,.Tuple es _ _=>es.flatMap (P6 n)
 |_,_=>[]
noncomputable def Pe (f:Expr->FT):List Expr->AE
 |[]=>g0
 |e::es=>gC (f e) (Pe f es)
noncomputable def vT:Nat->Lc->Expr->FT
 |_+1,L,.Name x _=>match dF L x with
  |some i=>gN i
  |none=>λ_ _=>none
 |n+1,L,.Tuple es _ _=>if es.all jW then iH es.length (Pe (vT n L) es) else λ_ _=>none
 |_,_,_=>λ_ _=>none
noncomputable def Mw:Nat->Lc->Expr->List Nat
 |_+1,L,.Name x _=>(dF L x).toList
 |n+1,L,.Tuple es _ _=>es.flatMap (Mw n L)
 |_,_,_=>[]
noncomputable def D2:Expr->Bool
 |.Set _ _ _=>false
 |_=>true
noncomputable def ym:Expr->Bool
 |.Tuple _ _ _=>true
 |_=>false
noncomputable def HY (L:Lc):Expr->Bool
 |.Name x _=>L.own.contains x
 |_=>false
noncomputable def DO (G:Gc)(L:Lc)(x:Str):Bool:=decide (x = "range")&&glob L "range"&&G.bi.contains "range"
noncomputable def Rx (G:Gc)(L:Lc)(f:Expr->FE)(tg:Expr)(x:Str)(as:List Expr):Option FI:=
 (u1 as).bind λa=>DC (jE (DO G L x) (some (jY mU (vA f [a])))) (jE (decide (x = "enumerate")&&glob L "enumerate"&&G.bi.contains "enumerate"&&ym tg) (some (ox (vA f [a]))))
noncomputable def Rs (G:Gc)(L:Lc)(f:Expr->FE)(x:Str)(as:List Expr):Option FI:=(u2 as).bind λa=>jE (DO G L x) (some (jY Cz (vA f [a.1,a.2])))
noncomputable def Rw (G:Gc)(L:Lc)(f:Expr->FE)(x:Str)(as:List Expr):Option FI:=(u3 as).bind λa=>jE (DO G L x) (some (jY Ek (vA f [a.1,a.2.1,a.2.2])))
noncomputable def QL (G:Gc)(L:Lc)(f:Expr->FE)(tg it:Expr):Option FI:=
 (Be it).bind λc=>(mE c.1).bind λx=>DC (Rx G L f tg x.1 c.2.1) (DC (Rs G L f x.1 c.2.1) (Rw G L f x.1 c.2.1))
noncomputable def vI (G:Gc)(L:Lc)(f:Expr->FE)(own:Bool)(tg it:Expr):FI:=
 if own then OH (f it) else match G.hk.i G.toGd L f tg it with
 |some g=>g
 |none=>match QL G L f tg it with
  |some g=>g
  |none=>qE (f it)
noncomputable def BW (sc o:Scope):Scope:={ sc with names:=sc.names.map λ(n,k)=>if k==.free&&o.kind==.function&&o.names.lookup n==some .cell then (n,.cell) else (n,k) }
noncomputable def vO (f:Expr->FE):Option Expr->FO
 |none=>xL
 |some e=>xc (f e)
noncomputable abbrev RE:=Lc->Expr->FE
noncomputable abbrev RB:=Lc->Expr->FB
noncomputable def Pj (L:Lc)(tg:Expr)(N2:List Str):List (Option Nat):=N2.map λx=>if (P6 5 tg).contains x then none else Mo x L.N
noncomputable def OO (L:Lc)(sc:Scope)(tg:Expr)(N2:List Str):Lc:={ L with sc:=BW sc L.sc,N:=N2,top:=false,own:=L.own.filter λx=>!(P6 5 tg).contains x }
noncomputable def QI (L:Lc)(sc:Scope)(tg it:Expr)(N2:List Str):Bool:=
 tY sc.kind sc.names (λx=>L.sc.names.lookup x) L.N N2 (Pj L tg N2)&&decide N2.Nodup&&(Mw 5 (OO L sc tg N2) tg).all (λi=>(Pj L tg N2)[i]?==some none)&&D2 it
noncomputable def Rk (rB:RB)(L:Lc):List Expr->FB
 |[]=>fy
 |[c]=>rB L c
 |_=>λ_=>none
noncomputable def Pg (G:Gc)(rE:RE)(rB:RB)(L:Lc)(elt tg it:Expr)(ifs:List Expr)(sc:Scope)(p:Pos):FE:=
 match L.cmp.lookup (p.line,p.col) with
 |none=>bX
 |some N2=>if QI L sc tg it N2 then cQ (Pj L tg N2) (vI G L (rE L) (HY L it) tg it) (vT 5 (OO L sc tg N2) tg) (Rk rB (OO L sc tg N2) ifs) (rE (OO L sc tg N2) elt) else bX
noncomputable def gu:Expr->Bool
 |.Slice _ _ none _=>false
 |_=>true
noncomputable def QM:Const->FE
 |.int i=>fC (.int i)
 |.bool b=>fC (.bl b)
 |.none=>fC .non
 |.str x=>fC (.str x)
 |_=>bX
noncomputable def QH (op:UnaryOp)(f:FE):FE:=match op with
 |.USub=>pS f
 |.Not=>zq f
 |_=>bX
noncomputable def QN (f:Expr->FE)(a:Expr)(ops:List CmpOp)(bs:List Expr):FE:=match ops with
 |[]=>bX
 |o1::ops=>match bs with
  |[]=>bX
  |b::bs=>match ops with
   |[]=>match bs with
    |[]=>if behindInMarks o1 b then bX else ak (qV o1) (f a) (f b)
    |_::_=>bX
   |o2::ops=>match ops with
    |_::_=>bX
    |[]=>match bs with
     |[]=>bX
     |c::bs=>match bs with
      |_::_=>bX
      |[]=>if lastMarks [o1,o2] [b,c] then bX else II (qV o1) (qV o2) (f a) (f b) (f c)
noncomputable def QB (f:Expr->FE)(op:BoolOp)(vs:List Expr)(p:Pos):FE:=match vs with
 |[]=>bX
 |a::r=>match r with
  |[]=>oT (f a)
  |b::r=>match op with
   |.And=>iO (f a) (f (.BoolOp .And (b::r) p))
   |.Or=>Hs (f a) (f (.BoolOp .Or (b::r) p))
noncomputable def Rg (G:Gc)(rE:RE)(rB:RB)(L:Lc)(elt:Expr)(gs:List Comprehension)(sc:Scope)(p:Pos):FE:=match gs with
 |[]=>bX
 |g::gs=>match gs with
  |_::_=>bX
  |[]=>match g with
   |⟨tg,it,ifs,n⟩=>if n=0 then Pg G rE rB L elt tg it ifs sc p else bX
noncomputable def Lg:Expr->Bool
 |.UnaryOp op a _=>match op with
  |.USub=>match a with
   |.Constant c _ _=>match c with
    |.int i=>decide (i=1)
    |_=>false
   |_=>false
  |_=>false
 |_=>false
noncomputable def QC (L:Lc)(f:Expr->FE)(a ix:Expr)(p:Pos):FE:=match ix with
 |.Slice lo hi st _=>match st with
  |none=>if yc L p then He (f a) (vO f lo) (vO f hi) else A4 (f a) (vO f lo) (vO f hi)
  |some s=>if Lg s&&lo.isNone&&hi.isNone then A5 (f a) else bX
 |b=>if yc L p then ak Hw (f a) (f b) else ak bE (f a) (f b)
noncomputable def Q3 (G:Gc)(L:Lc)(f:Expr->FE)(d:Str)(q:Pos)(m:Str)(ap:Pos)(args:List Expr)(p:Pos):FE:=match args with
 |[]=>if m = "bit_length"&&ap.endLine==p.line then BP (f (.Name d q)) else bX
 |a::r=>if m = "get"&&ap.endLine==p.line&&(a::r).all jW&&decide (r.length<20) then vU mh (f (.Name d q)) (vA f (a::r)) else bX
noncomputable def Nc (G:Gc)(L:Lc)(f:Expr->FE)(fn:Expr)(args:List Expr)(kws:List Keyword)(p:Pos):FE:=match kws with
 |_::_=>bX
 |[]=>match fn with
  |.Name x _=>CF G L f x args p
  |.Attribute o m ap=>match o with
   |.Name d q=>Q3 G L f d q m ap args p
   |_=>bX
  |_=>bX
noncomputable def PN (G:Gc)(rE:RE)(rB:RB)(L:Lc):Expr->FE
 |.Constant c _ _=>QM c
 |.Name x _=>BF G L x
 |.BinOp a op b _=>ak (QP op) (rE L a) (rE L b)
 |.UnaryOp op a _=>QH op (rE L a)
 |.Compare a ops bs _=>QN (rE L) a ops bs
 |.BoolOp op vs p=>QB (rE L) op vs p
 |.IfExp c a b _=>MT (rB L c) (rE L a) (rE L b)
 |.Tuple es _ _=>ck (vA (rE L) es)
 |.List es _=>gU (vA (rE L) es)
 |.ListComp elt gs sc p=>Rg G rE rB L elt gs sc p
 |.Subscript a ix p=>QC L (rE L) a ix p
 |.Call fn args kws p=>Nc G L (rE L) fn args kws p
 |_=>bX
noncomputable def Cp:Expr->Bool
 |.UnaryOp .Not _ _=>false
 |.BoolOp _ _ _=>false
 |.IfExp _ _ _ _=>false
 |.Compare _ _ _ _=>false
 |_=>true
noncomputable def vW (f:Expr->FB)(op:BoolOp):List Expr->FB
 |[]=>λ_=>none
 |[a]=>f a
 |a::r=>match op with
  |.And=>jV (f a) (vW f op r)
  |.Or=>oQ (f a) (vW f op r)
noncomputable def Kv (f:Expr->FE)(a:Expr)(ops:List CmpOp)(bs:List Expr):Option FB:=
 DC ((u1 ops).bind λo=>(u1 bs).bind λb=>jE (!behindInMarks o b) (some (fT (ak (qV o) (f a) (f b)))))
  ((u2 ops).bind λo=>(u2 bs).bind λb=>jE (!lastMarks [o.1,o.2] [b.1,b.2]) (some (fT (II (qV o.1) (qV o.2) (f a) (f b.1) (f b.2)))))
noncomputable def IR:UnaryOp->Bool
 |.Not=>true
 |_=>false
noncomputable def PO (rE:RE)(rB:RB)(L:Lc)(e:Expr):FB:=match e with
 |.Compare a ops bs _=>match Kv (rE L) a ops bs with
  |some g=>g
  |none=>λ_=>none
 |.BoolOp op vs _=>vW (rB L) op vs
 |.UnaryOp op a _=>if IR op then eQ (rB L a) else fT (rE L e)
 |_=>if Cp e then fT (rE L e) else λ_=>none
noncomputable def Px (G:Gc)(rE:RE)(rB:RB)(L:Lc)(e:Expr):FE:=
 if (O5 e).isSome=true then PN G rE rB L e else match G.hk.e G.toGd rE rB L e with
  |some f=>f
  |none=>PN G rE rB L e
noncomputable def AS (G:Gc):Nat->RE×RB
 |0=>(λ_ _=>bX,λ_ _ _=>none)
 |n+1=>(Px G (AS G n).1 (AS G n).2,λL e=>match G.hk.b G.toGd (AS G n).1 (AS G n).2 L e with
  |some f=>f
  |none=>PO (AS G n).1 (AS G n).2 L e)
noncomputable def Rj:Expr->Option (Scope×Pos)
 |.ListComp _ _ s p=>some (s,p)
 |.SetComp _ _ s p=>some (s,p)
 |.DictComp _ _ _ s p=>some (s,p)
 |_=>none
noncomputable def ES (L:Lc)(v:Expr)(t:Str)(tp:Pos):Bool:=(Rj v).elim false λq=>L.sc.kind==.function&&L.sc.names.lookup t==some .local&&tp.line==q.2.line&&!(q.1.names.any λ(n,k)=>n==t&&(k==.local || k==.cell))
noncomputable def GG:Expr->Bool
 |.ListComp _ _ _ _|.SetComp _ _ _ _|.DictComp _ _ _ _ _=>true
 |_=>false
noncomputable def MC:Expr->Bool
 |.List _ _=>true
 |.Call (.Name x _) _ _ _=>x == "list"
 |_=>false
noncomputable def EQ (L:Lc)(ts vs:List Expr):Option (Option (List Str)):=
 if (!(ts.length==2 || ts.length==3) || vs.length != ts.length || L.sc.kind != .function)=true then some none
 else if (vs.any fun|.Starred ..=>true|_=>false)=true then some none
 else
  let line:=(ts.head?.map (·.pos.line)).getD 0
  let names:=ts.filterMap fun
   |.Name id pos=>if L.sc.names.lookup id==some .local&&pos.line==line then some id else none
   |_=>none
  if (names.length != ts.length || names.eraseDups.length != names.length)=true then some none
  else if vs.all (foldedForSure 8)=true then some none
  else if vs.all (constantsAlone 8)=true then none
  else some (some names)
noncomputable def OR {α:Type}(o:Option (Option α)):Bool:=o.elim false λq=>q.isNone
noncomputable def CS (L:Lc)(tg v:Expr):Bool:=(Gj tg).elim false λt=>(Gj v).elim true λw=>OR (EQ L t.1 w.1)
noncomputable def frzs:List Nat->FS->FS
 |[],s=>s
 |i::r,s=>frzs r (Ge i s)
noncomputable def vL (f:Stmt->FS):List Stmt->FS
 |[]=>br
 |[s]=>f s
 |s::r=>aj (f s) (vL f r)
noncomputable def tK:Operator->Option (Int->Int->Int)
 |.Add=>some λa b=>a+b
 |.Sub=>some λa b=>a - b
 |_=>none
noncomputable def Hy (v:Expr):Bool:=(O5 v).elim false λc=>decide (c.2.1.is_async=0)
noncomputable def Qa (L:Lc)(y:Nat)(v:Expr):Option FS:=(Be v).bind λc=>(u0 () c.2.1).bind λ_=>(LR c.1).bind λa=>(mE a.1).bind λo=>(slot L o.1).bind λi=>jE (decide (a.2.1 = "pop")&&a.2.2.endLine==c.2.2.line) (some (xV oR y i ah))
noncomputable def P4:Expr->Bool
 |.Name _ _=>true
 |_=>false
noncomputable def NU (G:Gc)(f:Expr->FE)(L:Lc)(tg:Expr)(g:Str)(i:Nat)(es:List Expr):Option FS:=match G.lents.lookup g with
 |some F=>jE (glob L g) (some (IW F i (Mj f es) (vT 5 L tg)))
 |none=>(slot L g).bind λj=>jE (!G.lents.isEmpty) (some (pF G.lents j i (Mj f es) (vT 5 L tg)))
noncomputable def QE (G:Gc)(f:Expr->FE)(L:Lc)(tg v:Expr):Option FS:=(Be v).bind λc=>(mE c.1).bind λg=>(uC c.2.1).bind λq=>(mE q.1).bind λx=>(slot L x.1).bind λi=>
 jE ((L.own.contains x.1 || L.lent&&i==0)&&q.2.all jW&&(P4 tg || ym tg)) (NU G f L tg g.1 i q.2)
noncomputable def Jq (G:Gc)(rE:RE)(L:Lc)(x:Str)(p:Pos)(v:Expr):FS:=match dF L x with
 |some i=>if ES L v x p&&!Hy v then cq else match Qa L i v with
  |some s=>s
  |none=>if L.own.contains x then jx i (rE L v) else bu i (rE L v)
 |none=>cq
noncomputable def N6 (rE:RE)(L:Lc)(b ix v:Expr):Option FS:=(mE b).bind λj=>(slot L j.1).bind λi=>jE (gu ix&&!GG v) (some (lW i (rE L ix) (rE L v)))
noncomputable def ML (rE:RE)(L:Lc)(x y:Str×Pos)(a b:Expr)(l:List Str):Option FS:=(dF L x.1).bind λi=>(dF L y.1).bind λj=>
 jE (l==[x.1,y.1]&&jW a&&jW b&&i != j&&L.sc.names.lookup x.1==some .local&&L.sc.names.lookup y.1==some .local) (some (pQ i j (vA (rE L) [a,b])))
noncomputable def K4 (rE:RE)(L:Lc)(tg v:Expr)(ts:List Expr):Option FS:=
 match (u2 ts).bind λq=>(mE q.1).bind λx=>(mE q.2).map λy=>(x,y) with
 |none=>jE (CS L tg v) (some (fS (rE L v) (vT 5 L tg)))
 |some xy=>match (Gj v).bind λw=>u2 w.1 with
  |none=>jE (!ym v) (some (fS (rE L v) (vT 5 L tg)))
  |some ab=>match EQ L [.Name xy.1.1 xy.1.2,.Name xy.2.1 xy.2.2] [ab.1,ab.2] with
   |none=>none
   |some none=>some (fS (rE L v) (vT 5 L tg))
   |some (some l)=>ML rE L xy.1 xy.2 ab.1 ab.2 l
noncomputable def C4 (o:Option FS):FS:=match o with
 |some s=>s
 |none=>cq
noncomputable def MQ (G:Gc)(rE:RE)(L:Lc)(tg v:Expr):FS:=
 match tg with
 |.Name x p=>Jq G rE L x p v
 |.Subscript b ix _=>C4 (N6 rE L b ix v)
 |.Tuple ts _ _=>C4 (K4 rE L tg v ts)
 |_=>C4 (jE (CS L tg v) (some (fS (rE L v) (vT 5 L tg))))
noncomputable def PF (G:Gc)(rE:RE)(L:Lc)(tg v:Expr):FS:=match QE G (rE L) L tg v with
 |some s=>s
 |none=>MQ G rE L tg v
noncomputable def QD (L:Lc)(f:Expr->FE)(v:Option Expr):FS:=match v with
 |none=>cq
 |some e=>match e with
  |.Name x p=>match slot L x with
   |some i=>if L.top&&!L.lent then jT i else cq
   |none=>bv (f (.Name x p))
  |e=>bv (f e)
noncomputable def Na (L:Lc)(f:Expr->FE)(tg:Expr)(op:Operator)(v:Expr):FS:=match tg with
 |.Name x _=>match dF L x with
  |none=>cq
  |some i=>match tK op with
   |some g=>oS g i (f v)
   |none=>cq
 |.Subscript b ix _=>match b with
  |.Name j _=>match slot L j with
   |none=>cq
   |some i=>match tK op with
    |some g=>if gu ix then ni g i (f ix) (f v) else cq
    |none=>cq
  |_=>cq
 |_=>cq
noncomputable def Lk (L:Lc)(f:Expr->FE)(o:Str)(q:Pos)(m:Str)(ap:Pos)(args:List Expr)(cp:Pos):FS:=match slot L o with
 |some i=>match args with
  |[]=>if ap.endLine==cp.line then (if m = "reverse" then vB CA i ah else if m = "pop" then vB oR i ah else cq) else cq
  |a::as=>if m = "append"&&ap.endLine==cp.line&&(a::as).all jW&&decide (as.length<20) then vB mr i (vA f (a::as)) else cq
 |none=>match args with
  |[]=>cq
  |a::as=>fM (f (.Call (.Attribute (.Name o q) m ap) (a::as) [] cp))
noncomputable def Pp (L:Lc)(f:Expr->FE)(fn:Expr)(args:List Expr)(kws:List Keyword)(cp:Pos):FS:=match kws with
 |_::_=>fM (f (.Call fn args kws cp))
 |[]=>match fn with
  |.Attribute b m ap=>match b with
   |.Name o q=>Lk L f o q m ap args cp
   |b=>fM (f (.Call (.Attribute b m ap) args [] cp))
  |fn=>fM (f (.Call fn args [] cp))
noncomputable def Ql:Expr->Bool
 |.Constant c _ _=>match c with
  |.str _=>true
  |_=>false
 |_=>false
noncomputable def LK (L:Lc)(f:Expr->FE)(e:Expr):FS:=if Ql e then br else match e with
 |.Call fn args kws cp=>Pp L f fn args kws cp
 |e=>if GG e then cq else fM (f e)
noncomputable def QZ (G:Gc)(rE:RE)(rB:RB)(rS:Lc->Stmt->FS)(L:Lc):Stmt->FS
 |.Return v _=>QD L (rE L) v
 |.If c a b _=>ig (rB L c) (vL (rS L) a) (vL (rS L) b)
 |.For tg it body els _=>match els with
  |[]=>if D2 it then j5 (vI G L (rE L) false tg it) (vT 5 L tg) (vL (rS L) body) else cq
  |_::_=>cq
 |.While c body els _=>match els with
  |[]=>ff (rB L c) (vL (rS L) body)
  |_::_=>cq
 |.Assign tgs v _=>match tgs with
  |[]=>cq
  |tg::r=>match r with
   |[]=>PF G rE L tg v
   |_::_=>cq
 |.AugAssign tg op v _=>Na L (rE L) tg op v
 |.Expr e _=>LK L (rE L) e
 |.Pass _=>br
 |.Break _=>QX
 |.Continue _=>Q1
 |_=>cq
noncomputable def vS (G:Gc):Nat->Lc->Stmt->FS
 |0=>λ_ _=>cq
 |n+1=>λL s=>frzs ((L.frz.lookup s.pos.line).getD []) (match G.hk.s G.toGd (AS G n).1 (AS G n).2 (vS G n) L s with
  |some f=>f
  |none=>QZ G (AS G n).1 (AS G n).2 (vS G n) L s)
noncomputable def HG (P:Program)(w:World)(mg:Str->Option Value)(base:Heap)(x:Str)(p:PV):Prop:=∃u,mg x=some u/\∀(h:Heap) (bad:Addr->Prop) (H:Hp),(∀b o,base.get? b=some o->h.get? b=some o/\H b=none/\¬bad b)->D ⟨j0 bad H,P,w,mg⟩ h p u
structure GOk (P:Program)(w:World)(K:PySem.W.Frag)(mg:Str->Option Value)(base:Heap)(k:Nat)(G:Gd):Prop where
 bi:∀x,G.bi.contains x=true->mg x=none
 nis:∀x i,G.nis.lookup x=some i->∃t,mg x=some (.int i t)
 tups:∀x ps,G.tups.lookup x=some ps->HG P w mg base x (.ktu ps)
 vals:∀x,G.vals.contains x=true->∃a,mg x=some (.ref a)
 fns:∀x F,G.fns.lookup x=some F->∃j,j<=k/\DefN P w K mg base true j x F
 dcts:∀x kp,G.dcts.lookup x=some kp->HG P w mg base x (.dct kp.1 kp.2)
 tab:∀x F,G.tab.lookup x=some F->(∃j,j<=k/\DefN P w K mg base true j x F)\/mg x=none
 lents:∀x F,G.lents.lookup x=some F->∃j,j<=k/\DefL P w K mg base true j x F
structure Ok0 (X:Cx)(k:Nat)(G:Gd)(L:Lc):Prop where
 g:GOk X.prog X.w X.K X.mg X.base k G
 r:Rm k X.A
 sc:X.env.scope=L.sc
 N:X.N=L.N
 nd:L.N.Nodup
 fk:L.sc.kind=.function
 calm:X.calm=true
 top:L.top=true->∀x,X.fn x=true
 h0:L.lent=false->L.top=true->X.H₀=λ_=>none
 blk:L.top=false->X.fn "" = false
noncomputable abbrev Pd (k:Nat)(G:Gd)(rE:RE):Prop:=∀{X:Cx} {L:Lc},Ok0 X k G L->∀e,NE X e (rE L e)
noncomputable abbrev PU (k:Nat)(G:Gd)(rB:RB):Prop:=∀{X:Cx} {L:Lc},Ok0 X k G L->∀e,NB X e (rB L e)
structure HkOk (hk:Hk):Prop where
 e:∀{X:Cx} {k:Nat} {G:Gd} {L:Lc} {rE:RE} {rB:RB},Ok0 X k G L->Pd k G rE->PU k G rB->∀e f,hk.e G rE rB L e=some f->NE X e f
 i:∀{X:Cx} {k:Nat} {G:Gd} {L:Lc} {f:Expr->FE},Ok0 X k G L->(∀e,NE X e (f e))->∀tg it g,hk.i G L f tg it=some g->NI X true tg it g
 b:∀{X:Cx} {k:Nat} {G:Gd} {L:Lc} {rE:RE} {rB:RB},Ok0 X k G L->Pd k G rE->PU k G rB->∀e f,hk.b G rE rB L e=some f->NB X e f
 s:∀{X:Cx} {k:Nat} {G:Gd} {L:Lc} {rE:RE} {rB:RB} {rS:Lc->Stmt->FS},Ok0 X k G L->Pd k G rE->PU k G rB->(∀s,NS X s (rS L s))->∀st f,hk.s G rE rB rS L st=some f->NS X st f
structure Ok (X:Cx)(k:Nat)(G:Gc)(L:Lc):Prop extends Ok0 X k G.toGd L where
 hk:HkOk G.hk
theorem eK {X:Cx}{e:Expr}{f:FE}(h:∀ρ,f ρ=none):NE X e f:=λz s r E hz q=>by rw[h] at q;cases q
theorem HF {X:Cx}{e:Expr}{f:FB}(h:∀ρ,f ρ=none):NB X e f:=λz s r E hz q=>by rw[h] at q;cases q
theorem GN {X:Cx}{st:Bool}{e tg:Expr}{f:FI}(h:∀ρ,f ρ=none):NI X st tg e f:=λz s r E hz q=>by rw[h] at q;cases q
theorem Oa {X:Cx}{es:List Expr}:NA X es (λ_=>none):=λz pos s r E hz q=>by cases q
theorem Fm {X:Cx}{tg:Expr}:NG X tg (λ_ _=>none):=λz s p u ρ E hz d q=>by cases q
section
variable {X:Cx}{k:Nat}{G:Gc}{L:Lc}{x:Str}{i:Nat}{pos:Pos}{e:Expr}
theorem bz (h:EU x=false):(x==("__debug__" : Str))=false/\(x==("__classdict__" : Str))=false/\x≠("__name__" : Str):=by
 unfold EU at h
 simp only[Bool.or_eq_false_iff] at h
 exact⟨h.1.1,h.1.2,λz=>by have:=h.2;rw[z] at this;simp at this⟩
theorem mO {G:Gd}(o:Ok0 X k G L)(h:slot L x=some i):X.N[i]?=some x/\qp X.env.scope x/\EU x=false:=by
 unfold slot at h
 split at h
 ·next z=>
  rw[a0b,a2e] at z
  refine⟨by rw[o.N];exact xS h,?_,z.2⟩
  have z1:=z.1
  unfold QQ at z1
  unfold qp
  rw[o.sc]
  split at z1<;>first|(next q=>simp[q])|cases z1
 ·cases h
theorem i4 (o:Ok X k G L)(h:slot L x=some i):X.N[i]?=some x/\qp X.env.scope x/\EU x=false:=mO o.toOk0 h
theorem kn {G:Gd}(o:Ok0 X k G L)(h:glob L x=true):Gl X x/\EU x=false:=by
 unfold glob at h
 rw[a0b,a2e,beq_iff_eq] at h
 exact⟨by show X.env.scope.names.lookup x=_;rw[o.sc];exact h.1,h.2⟩
theorem iU (o:Ok X k G L)(h:glob L x=true):Gl X x/\EU x=false:=kn o.toOk0 h
theorem fx {G:Gd}(o:Ok0 X k G L)(h:dF L x=some i):Nm X i x:=by
 unfold dF at h
 split at h
 ·next z=>
  rw[a4n,a0b,beq_iff_eq,beq_iff_eq] at z
  obtain⟨i',h,h'⟩:=a0a.mp h
  split at h'
  ·cases h'
  next hl=>
  cases h'
  refine⟨by rw[o.N];exact o.nd,by rw[o.N];exact xS h,?_,?_,λhf ⟨a,ha⟩ e=>?_⟩
  ·show X.env.scope.names.lookup x=_\/X.env.scope.names.lookup x=_
   rw[o.sc];exact z.elim .inl λz=>.inr z.2
  ·rw[o.sc];exact z.elim .inr λz=>.inl (o.top z.1 x)
  ·cases ht:L.top with
   |false=>rw[o.blk ht] at hf;cases hf
   |true=>
    cases hle:L.lent with
    |false=>exact ha (by rw[o.h0 hle ht])
    |true=>subst e;rw[hle] at hl;simp at hl
 ·cases h
theorem gL (o:Ok X k G L)(h:dF L x=some i):Nm X i x:=fx o.toOk0 h
theorem MA (hm:X.mg x=none)(hg:Gl X x)(hd:EU x=false):NE X (.Name x pos) (Qq x):=by
 unfold Qq
 have key:∀n,bootBuiltins x=some (.type n)->NE X (.Name x pos) (fC (.ty n)):=λn h=>On hg hm h (bz hd).2.2 (bz hd).1
 repeat' split
 ·next z=>exact key _ (by rw[z];exact DP)
 ·next z=>exact key _ (by rw[z];exact E5)
 ·next z=>exact key _ (by rw[z];exact B0)
 ·next z=>exact key _ (by rw[z];exact uv)
 ·next z=>exact key _ (by rw[z];exact pX)
 ·next z=>exact key _ (by rw[z];exact GI)
 ·exact eK λ_=>rfl
theorem FP (o:Ok X k G L):NE X (.Name x pos) (BF G L x):=by
 unfold BF
 split
 ·next i h=>
  obtain⟨h1,h2,h3⟩:=i4 o h
  exact Oh h1 h2 (bz h3).1 (bz h3).2.1
 ·split
  ·next hg=>
   obtain⟨hg,hd⟩:=iU o hg
   split
   ·next i h=>
    obtain⟨t,m⟩:=o.g.nis x i h
    exact uw hg ⟨_,m,λ_ _ _ _=>⟨t,rfl⟩⟩ (bz hd).1
   ·split
    ·next ps h=>exact uw hg (o.g.tups x ps h) (bz hd).1
    ·split
     ·next h=>
      obtain⟨a,m⟩:=o.g.vals x h
      exact uw hg ⟨_,m,λ_ _ _ _=>⟨a,m,rfl⟩⟩ (bz hd).1
     ·split
      ·next kp h=>exact uw hg (o.g.dcts x kp h) (bz hd).1
      ·split
       ·next h=>exact MA (o.g.bi x h) hg hd
       ·exact eK λ_=>rfl
  ·exact eK λ_=>rfl
theorem B6 {f:Expr->FE}(h:∀e,NE X e (f e)):∀{es:List Expr},es.all jW=true->NA X es (Mj f es)
 |[],_=>lK
 |e::es,z=>by
  rw[a1h,a0b] at z
  exact oV (h e) (B6 h z.2) (df z.1 es X.env)
theorem j1 {f:Expr->FE}(h:∀e,NE X e (f e))(es:List Expr):NA X es (vA f es):=by
 unfold vA
 split
 ·next z=>exact B6 h z
 ·exact Oa
theorem Nr (o:Ok X k G L)(hx:G.bi.contains x=true)(hgl:glob L x=true){es:List Expr}{fs:FA}{p:Pos}{alt:Bool}{n:Nat}(ha:NA X (e::es) fs)(hs:(e::es).all jW=true):NE X (.Call (.Name x p) (e::es) [] pos) (O3 x alt n fs):=by
 obtain⟨hg,hd⟩:=iU o hgl
 have hm:=o.g.bi x hx
 rw[a1h,a0b] at hs
 have he:=df hs.1 es X.env
 have hp:(backTo pos (starEach es X.env)).any (·.1)=false:=iR hs.2
 obtain⟨d1,d2,d3⟩:=bz hd
 have hc:=o.calm
 have B:∀{id g},dE X (.builtin id) g->bootBuiltins x=some (.builtin id)->NE X (.Call (.Name x p) (e::es) [] pos) (fB g fs):=λc b=>Ke c hg hm b ha d3 d1 he hp
 have T:∀{id g},dE X (.type id) g->bootBuiltins x=some (.type id)->NE X (.Call (.Name x p) (e::es) [] pos) (fB g fs):=λc b=>NQ c hg hm b ha d3 d1 he hp
 unfold O3
 by_cases z:x = "len"
 ·rw[if_pos z]
  exact B MV (by rw[z];exact LD)
 rw[if_neg z];clear z
 by_cases z:x = "abs"
 ·rw[if_pos z]
  exact B Oy (by rw[z];exact Kz)
 rw[if_neg z];clear z
 by_cases z:x = "all"
 ·rw[if_pos z]
  exact B (M4 hc) (by rw[z];exact KZ)
 rw[if_neg z];clear z
 by_cases z:x = "any"
 ·rw[if_pos z]
  exact B (Os hc) (by rw[z];exact J0)
 rw[if_neg z];clear z
 by_cases z:x = "isinstance"
 ·rw[if_pos z]
  exact B Pz (by rw[z];exact ra)
 rw[if_neg z];clear z
 by_cases z:x = "sorted"
 ·rw[if_pos z]
  split
  ·exact B Hu (by rw[z];exact sF)
  ·exact B Dm (by rw[z];exact sF)
 rw[if_neg z];clear z
 by_cases z:x = "max"
 ·rw[if_pos z]
  split
  ·exact B (Lv hc) (by rw[z];exact Cv)
  ·exact B (Ob hc) (by rw[z];exact Cv)
 rw[if_neg z];clear z
 by_cases z:x = "min"
 ·rw[if_pos z]
  split
  ·exact B (L0 hc) (by rw[z];exact Cg)
  ·exact B (N7 hc) (by rw[z];exact Cg)
 rw[if_neg z];clear z
 by_cases z:x = "sum"
 ·rw[if_pos z]
  exact B (MZ hc) (by rw[z];exact Lb)
 rw[if_neg z];clear z
 by_cases z:x = "int"
 ·rw[if_pos z]
  exact T OJ (by rw[z];exact DP)
 rw[if_neg z];clear z
 by_cases z:x = "tuple"
 ·rw[if_pos z]
  split
  ·exact T (KR hc) (by rw[z];exact pX)
  ·exact T ND (by rw[z];exact pX)
 rw[if_neg z];clear z
 by_cases z:x = "list"
 ·rw[if_pos z]
  exact T (JC hc) (by rw[z];exact uv)
 rw[if_neg z];clear z
 by_cases z:x = "range"
 ·rw[if_pos z]
  exact T MI (by rw[z];exact BT)
 rw[if_neg z];clear z
 by_cases z:x = "str"
 ·rw[if_pos z]
  exact T Oi (by rw[z];exact B0)
 rw[if_neg z];clear z
 exact eK λ_=>rfl
theorem Gs (o:Ok X k G L){f:Expr->FE}(h:∀e,NE X e (f e)){p:Pos}(args:List Expr):NE X (.Call (.Name x p) args [] pos) (CF G L f x args pos):=by
 unfold CF
 split
 ·next i hi=>
  obtain⟨h1,h2,h3⟩:=i4 o hi
  cases args with
  |nil=>exact eK λ_=>rfl
  |cons e es=>
   show NE X _ (pA G.tab i (vA f (e::es)))
   by_cases hs:(e::es).all jW=true
   ·have ha:=j1 h (e::es)
    rw[a1h,a0b] at hs
    exact Fk o.g.tab (λ_=>o.calm) o.r h1 h2 (bz h3).1 (bz h3).2.1 ha (df hs.1 es X.env) (iR hs.2)
   ·have:vA f (e::es)=λ_=>none:=by unfold vA;rw[if_neg hs]
    rw[this];exact eK λ_=>rfl
 ·split
  ·next hgl=>
   obtain⟨hg,hd⟩:=iU o hgl
   obtain⟨d1,d2,d3⟩:=bz hd
   split
   ·next F hF=>
    obtain⟨j,hj,D⟩:=o.g.fns x F hF
    cases args with
    |nil=>exact F5 D hj (λ_=>o.calm) o.r hg d1
    |cons e es=>
     show NE X _ (aq F (vA f (e::es)))
     by_cases hs:(e::es).all jW=true
     ·have ha:=j1 h (e::es)
      rw[a1h,a0b] at hs
      exact J5 D hj (λ_=>o.calm) o.r hg ha d1 (df hs.1 es X.env) (iR hs.2)
     ·have:vA f (e::es)=λ_=>none:=by unfold vA;rw[if_neg hs]
      rw[this];exact eK λ_=>rfl
   ·split
    ·next hb=>
     rw[a0b] at hb
     cases args with
     |nil=>cases hb.2
     |cons e es=>
      by_cases hs:(e::es).all jW=true
      ·exact Nr o hb.1 hgl (j1 h (e::es)) hs
      ·have:vA f (e::es)=λ_=>none:=by unfold vA;rw[if_neg hs]
       rw[this]
       have nn:∀g,fB g (λ_=>none)=bX:=λ_=>rfl
       simp only[O3,nn,ite_self]
       exact eK λ_=>rfl
    ·exact eK λ_=>rfl
  ·exact eK λ_=>rfl
theorem sX {env:Env}:∀{es:List Expr},es.all jW=true->(assignEach es env).length=es.length/\(assignEach es env).findIdx? (·.1)=none/\∀e r,es=e::r->(assignEach es env).map (·.2)=assign e env::(assignEach r env).map (·.2)
 |[],_=>⟨rfl,rfl,λ_ _ h=>by cases h⟩
 |e::r,h=>by
  rw[a1h,a0b] at h
  have he:assignEach (e::r) env=(false,assign e env)::assignEach r env:=by
   have:=h.1
   cases e<;>first|rfl|(cases this)
  obtain⟨h1,h2,_⟩:=sX (env:=env) h.2
  rw[he]
  refine⟨by rw[a0p,a0p,h1],?_,λ_ _ q=>by cases q;rfl⟩
  rw[List.findIdx?_cons,h2];rfl
theorem CB {f:Expr->FT}(h:∀e,NG X e (f e)):∀{es:List Expr},es.all jW=true->Mu X es (Pe f es)
 |[],_=>Ri
 |e::r,z=>by
  have:=(sX (env:=X.env) z).2.2 e r rfl
  rw[a1h,a0b] at z
  exact Q7 (h e) (CB h z.2) this
theorem uX:∀(n:Nat) {L:Lc} {X:Cx},Ok X k G L->∀e,NG X e (vT n L e)
 |0,_,_,_,e=>by cases e<;>exact Fm
 |n+1,L,X,o,e=>by
  cases e<;>first|exact Fm|skip
  ·rename_i x p
   unfold vT
   cases h:dF L x with
   |some i=>exact P9 (gL o h)
   |none=>exact Fm
  ·rename_i es kk p
   unfold vT
   split
   ·next z=>
    obtain⟨h1,h2,_⟩:=sX (env:=X.env) z
    exact Ry o.calm (CB (uX n o) z) h1 h2
   ·exact Fm
theorem yM {fm:List (Option Nat)}:FK fm (λ_ _=>none):=λ_ _ _ e=>by cases e
theorem DN {fm:List (Option Nat)}{f:Expr->FT}:∀{es:List Expr},(∀e∈es,FK fm (f e))->OK fm (Pe f es)
 |[],_=>Pl
 |e::r,h=>PW (h e a0e) (DN λe he=>h e (a0c _ he))
theorem Ih {fm:List (Option Nat)}:∀(n:Nat) (L:Lc) (e:Expr),(∀i∈Mw n L e,fm[i]?=some none)->FK fm (vT n L e)
 |0,L,e,_=>by cases e<;>exact yM
 |n+1,L,e,h=>by
  cases e<;>first|exact yM|skip
  ·unfold vT
   unfold Mw at h
   cases hs:dF L _ with
   |some i=>exact PJ (h i (by rw[hs];simp))
   |none=>exact yM
  ·rename_i es kk p
   unfold vT
   split
   ·refine Qn (DN λe he=>Ih n L e λi hi=>h i ?_)
    unfold Mw
    exact a3l.mpr ⟨e,he,hi⟩
   ·exact yM
theorem tE {G:Gc}{L:Lc}{x:Str}(h:DO G L x=true):x = "range"/\glob L "range" = true/\G.bi.contains "range" = true:=by
 unfold DO at h
 rw[a0b,a0b,decide_eq_true_eq] at h
 exact⟨h.1.1,h.1.2,h.2⟩
theorem IF (o:Ok X k G L){f:Expr->FE}(h:∀e,NE X e (f e))(tg it:Expr):NI X true tg it (vI G L f false tg it):=by
 have no:∀{es:List Expr},¬es.all jW=true->vA f es=λ_=>none:=λ{es} hs=>by unfold vA;rw[if_neg hs]
 unfold vI
 rw[if_neg a0u]
 cases hh:G.hk.i G.toGd L f tg it with
 |some g=>exact o.hk.i o.toOk0 h tg it g hh
 |none=>
 cases hv:QL G L f tg it with
 |none=>exact C7 (h _)
 |some g=>
 show NI X true tg it g
 replace hv:=a0a.mp hv;obtain⟨⟨fn,as,p'⟩,e,hv⟩:=hv
 cases ij e
 replace hv:=a0a.mp hv;obtain⟨⟨x,p⟩,e,hv⟩:=hv
 cases ci e
 replace hv:=je hv;rcases hv with hv|hv
 ·replace hv:=a0a.mp hv;obtain⟨a,e,hv⟩:=hv
  cases eD e
  replace hv:=je hv;rcases hv with hv|hv
  ·replace hv:=bA hv;obtain⟨z,hv⟩:=hv
   cases hv
   obtain⟨q,z2,z3⟩:=tE z
   cases q
   obtain⟨hg,hd⟩:=iU o z2
   by_cases hs:[a].all jW=true
   ·exact DB hg (o.g.bi _ z3) (j1 h [a]) (by
     rw[a1h,a0b] at hs
     exact df hs.1 [] X.env)
   ·rw[no hs];exact GN λ_=>rfl
  ·replace hv:=bA hv;obtain⟨z,hv⟩:=hv
   cases hv
   rw[a0b,a0b,a0b,decide_eq_true_eq] at z
   obtain⟨⟨⟨q,z2⟩,z3⟩,z4⟩:=z
   cases q
   obtain⟨hg,hd⟩:=iU o z2
   obtain⟨elts,kk,tp,rfl⟩:∃elts kk tp,tg=.Tuple elts kk tp:=by
    cases tg<;>first|exact⟨_,_,_,rfl⟩|(cases z4)
   by_cases hs:[a].all jW=true
   ·exact Ka hg (o.g.bi _ z3) (j1 h [a]) (by
     rw[a1h,a0b] at hs
     exact df hs.1 [] X.env)
   ·rw[no hs];exact GN λ_=>rfl
 ·replace hv:=je hv;rcases hv with hv|hv
  ·replace hv:=a0a.mp hv;obtain⟨⟨a,b⟩,e,hv⟩:=hv
   cases jB e
   replace hv:=bA hv;obtain⟨z,hv⟩:=hv
   cases hv
   obtain⟨q,z2,z3⟩:=tE z
   cases q
   obtain⟨hg,hd⟩:=iU o z2
   show NI X true tg _ (jY Cz (vA f [a,b]))
   by_cases hs:[a,b].all jW=true
   ·have hs':=hs
    rw[a1h,a1h,a0b,a0b] at hs'
    have e1:starEach [b] X.env=[(false,eval b X.env)]:=df hs'.2.1 [] X.env
    exact KP hg (o.g.bi _ z3) (j1 h [a,b]) (by rw[df hs'.1 [b] X.env,e1]) e1
   ·rw[no hs];exact GN λ_=>rfl
  ·replace hv:=a0a.mp hv;obtain⟨⟨a,b,d⟩,e,hv⟩:=hv
   cases Ip e
   replace hv:=bA hv;obtain⟨z,hv⟩:=hv
   cases hv
   obtain⟨q,z2,z3⟩:=tE z
   cases q
   obtain⟨hg,hd⟩:=iU o z2
   show NI X true tg _ (jY Ek (vA f [a,b,d]))
   by_cases hs:[a,b,d].all jW=true
   ·have hs':=hs
    rw[a1h,a1h,a1h,a0b,a0b,a0b] at hs'
    have e2:starEach [d] X.env=[(false,eval d X.env)]:=df hs'.2.2.1 [] X.env
    have e1:starEach [b,d] X.env=[(false,eval b X.env),(false,eval d X.env)]:=by rw[df hs'.2.1 [d] X.env,e2]
    exact K0 hg (o.g.bi _ z3) (j1 h [a,b,d]) (by rw[df hs'.1 [b,d] X.env,e1]) e1
   ·rw[no hs];exact GN λ_=>rfl
theorem xx (o:Ok X k G L){sc:Scope}{tg:Expr}{N2:List Str}(hk:sc.kind=.function)(hn:N2.Nodup){C:Addr}{s:Shared}{H:Hp}{ex:List Addr}:Ok (X.blk sc N2 C s H ex) k G (OO L sc tg N2) where
 hk:=o.hk
 g:=o.g
 r:=o.r
 sc:=by
  show relabel sc X.env=BW sc L.sc
  unfold relabel BW
  rw[show X.env.kindOf=λx=>L.sc.names.lookup x by funext x;show X.env.scope.names.lookup x=_;rw[o.sc],o.sc]
 N:=rfl
 nd:=hn
 fk:=hk
 calm:=o.calm
 top:=λh=>by cases h
 h0:=λ_ h=>by cases h
 blk:=λ_=>rfl
structure CpOk (X:Cx)(elt tg it:Expr)(ifs:List Expr)(sc:Scope)(f:FE):Prop where
 ex:(∀ρ,f ρ=none)\/∃(N2:List Str) (fm:List (Option Nat)) (fi:FI) (t:FT) (c:FB) (fe:FE),f=cQ fm fi t c fe/\Blk X sc N2 fm/\NI X false tg it fi ∧
  (∀C s H ex,NG (X.blk sc N2 C s H ex) tg t)/\FK fm t/\(∀C s H ex,Mg (X.blk sc N2 C s H ex) ifs c)/\(∀C s H ex,NE (X.blk sc N2 C s H ex) elt fe)/\∀x,foldedSetIterable it X.env x=pure x
theorem Io (o:Ok X k G L){rE:RE}{rB:RB}(hE:∀{X:Cx} {L:Lc},Ok X k G L->∀e,NE X e (rE L e))(hB:∀{X:Cx} {L:Lc},Ok X k G L->∀e,NB X e (rB L e))(elt tg it:Expr)(ifs:List Expr)(sc:Scope)(p:Pos) :
  CpOk X elt tg it ifs sc (Pg G rE rB L elt tg it ifs sc p):=by
 unfold Pg
 split
 ·exact⟨.inl λ_=>rfl⟩
 ·next N2 _=>
  split
  ·next z=>
   unfold QI at z
   rw[a0b,a0b,a0b,decide_eq_true_eq] at z
   obtain⟨⟨⟨z1,z2⟩,z3⟩,z4⟩:=z
   have hk:sc.kind=.function:=by
    unfold tY at z1
    simp only[a0b,beq_iff_eq] at z1
    exact z1.1.1.1.1.1
   refine⟨.inr ⟨N2,Pj L tg N2,_,_,_,_,rfl,⟨Je ?_,z2⟩,?_,λC s H ex=>uX 5 (xx o hk z2) tg,Ih 5 _ tg λi hi=>?_,λC s H ex=>?_,λC s H ex=>hE (xx o hk z2) elt,λx=>?_⟩⟩
   ·rw[show X.env.kindOf=λx=>L.sc.names.lookup x by funext x;show X.env.scope.names.lookup x=_;rw[o.sc],o.N]
    exact z1
   ·cases ho:HY L it with
    |true=>unfold vI;rw[if_pos rfl];exact Jr (hE o it)
    |false=>exact (IF o (hE o) tg it).any
   ·exact by simpa using a4d.mp z3 i hi
   ·have ob:=xx o (tg:=tg) hk z2 (C:=C) (s:=s) (H:=H) (ex:=ex)
    cases ifs with
    |nil=>exact LO
    |cons c r=>cases r with
     |nil=>exact JQ (hB ob c)
     |cons=>exact λz s b E hz q=>by cases q
   ·cases it<;>first|rfl|(cases z4)
  ·exact⟨.inl λ_=>rfl⟩
theorem CpOk.ne {elt tg it:Expr}{ifs:List Expr}{sc:Scope}{p:Pos}{f:FE}(o:Ok X k G L)(h:CpOk X elt tg it ifs sc f):NE X (.ListComp elt [⟨tg,it,ifs,0⟩] sc p) f:=by
 rcases h.ex with h|⟨N2,fm,fi,t,c,fe,rfl,h1,h2,h3,h4,h5,h6,h7⟩
 ·exact eK h
 ·exact L7 h1 o.calm h2 h3 h4 h5 h6 h7
end
section
variable {X:Cx}{k:Nat}{G:Gc}{L:Lc}{x:Str}{i:Nat}{pos:Pos}{e:Expr}
theorem nq {cp:Pos}{env:Env}:∀{es:List Expr},es.all jW=true->((backTo cp (starEach es env)).all λx=>!x.fst)=true
 |[],_=>rfl
 |e::es,h=>by
  rw[a1h,a0b] at h
  rw[df h.1]
  exact nq (es:=es) h.2
theorem Bu {d m:Str}{q ap cp:Pos}{es:List Expr}(hl:(ap.endLine==cp.line)=true)(hs:es.all jW=true)(hn:es.length<21):Mc X (.Name d q) m ap cp es:=by
 refine⟨rfl,hl,?_,λe r he=>?_⟩
 ·rw[nq hs]
  show (true&&true&&decide _)=true
  rw[a5t,a3i,decide_eq_true_eq]
  simp only[a2f,a4h,if_true]
  omega
 ·subst he
  rw[a1h,a0b] at hs
  exact⟨df hs.1 r X.env,iR hs.2⟩
theorem qc {b:Expr}(h:gu b=true):zY b:=by
 cases b<;>first|(exact λ_ _=>rfl)|skip
 rename_i lo hi st p
 cases st with
 |none=>cases h
 |some s=>exact λ_ _=>rfl
theorem si {env:Env}(h:Cp e=true):∀whole,PySem.isTrue e env whole=(do let v ←whole;standAt e.pos;holding [v] (truthy v)):=by
 cases e<;>first|(exact λ_=>rfl)|(cases h;done)|skip
 rename_i op a p
 cases op<;>first|(exact λ_=>rfl)|(cases h;done)
theorem sr {f:Expr->FE}(h:∀e,NE X e (f e)):∀o,NO X o (vO f o)
 |none=>GC
 |some e=>Hf (h e)
theorem MM {f:Expr->FB}(h:∀e,NB X e (f e))(op:BoolOp):∀(vs:List Expr),vs≠[]->NW X (.BoolOp op vs pos) (vW f op vs)
 |[],z=>(z rfl).elim
 |[a],_=>by cases op;exact Ji (h a);exact Nl (h a)
 |a::b::r,_=>by
  have ih:=MM h op (b::r) (by simp)
  cases op
  ·exact OL (h a) ih
  ·exact PY (h a) ih
theorem Rh {op:BoolOp}{vs:List Expr}{f:FB}(h:NW X (.BoolOp op vs pos) f):NB X (.BoolOp op vs pos) f:=λz s b E hz q=>h z _ s b E hz q
theorem LJ {c:Const}{kd:Nat}:NE X (.Constant c kd pos) (QM c):=by
 cases c<;>first|exact n_int|exact Qk|exact N5|exact n_str|exact eK λ_=>rfl
theorem FG {s:Expr}(h:Lg s=true):∃p1 k p2,s=.UnaryOp .USub (.Constant (.int 1) k p1) p2:=by
 cases s<;>first|(cases h;done)|skip
 rename_i op a p
 cases op<;>first|(cases h;done)|skip
 cases a<;>first|(cases h;done)|skip
 rename_i c k p1
 cases c<;>first|(cases h;done)|skip
 rename_i i
 have:i=1:=of_decide_eq_true h
 subst this
 exact⟨_,_,_,rfl⟩
section
variable {f:Expr->FE}(hf:∀e,NE X e (f e))
include hf
theorem JK {op:UnaryOp}{a:Expr}:NE X (.UnaryOp op a pos) (QH op (f a)):=by
 cases op<;>first|exact HH (hf _)|exact Od (hf _)|exact eK λ_=>rfl
theorem Ls (o:Ok X k G L){a:Expr}{ops:List CmpOp}{bs:List Expr}:NE X (.Compare a ops bs pos) (QN f a ops bs):=by
 have hu:=o.r.units
 cases ops with
 |nil=>exact eK λ_=>rfl
 |cons o1 ops=>cases bs with
  |nil=>exact eK λ_=>rfl
  |cons b bs=>cases ops with
   |nil=>cases bs with
    |nil=>
     show NE X _ (if behindInMarks o1 b then bX else ak (qV o1) (f a) (f b))
     split
     ·exact eK λ_=>rfl
     ·next z=>exact Np (sS hu _) (hf _) (hf _) (by simpa using z)
    |cons=>exact eK λ_=>rfl
   |cons o2 ops=>cases ops with
    |cons=>exact eK λ_=>rfl
    |nil=>cases bs with
     |nil=>exact eK λ_=>rfl
     |cons c bs=>cases bs with
      |cons=>exact eK λ_=>rfl
      |nil=>
       show NE X _ (if lastMarks [o1,o2] [b,c] then bX else II (qV o1) (qV o2) (f a) (f b) (f c))
       split
       ·exact eK λ_=>rfl
       ·next z=>exact PD (sS hu _) (sS hu _) (hf _) (hf _) (hf _) (by simpa using z)
theorem Kh {op:BoolOp}{vs:List Expr}:NE X (.BoolOp op vs pos) (QB f op vs pos):=by
 cases vs with
 |nil=>exact eK λ_=>rfl
 |cons a r=>cases r with
  |nil=>exact Og (hf _)
  |cons b r=>cases op with
   |And=>exact OU (hf _) (hf _)
   |Or=>exact Qg (hf _) (hf _)
theorem Kg {a ix:Expr}:NE X (.Subscript a ix pos) (QC L f a ix pos):=by
 have other:∀b:Expr,gu b=true->NE X (.Subscript a b pos) (if yc L pos then ak Hw (f a) (f b) else ak bE (f a) (f b)):=λb z=>by
  split
  ·exact NT Eh (hf _) (hf _) (qc z)
  ·exact NT Jk (hf _) (hf _) (qc z)
 cases ix<;>first|exact other _ rfl|skip
 rename_i lo hi st p
 cases st with
 |none=>
  show NE X _ (if yc L pos then He (f a) (vO f lo) (vO f hi) else A4 (f a) (vO f lo) (vO f hi))
  split
  ·exact I6 Im (hf _) (sr hf _) (sr hf _)
  ·exact I6 Qb (hf _) (sr hf _) (sr hf _)
 |some s=>
  show NE X _ (if Lg s&&lo.isNone&&hi.isNone then A5 (f a) else bX)
  split
  ·next z=>
   rw[a0b,a0b] at z
   obtain⟨⟨z1,z2⟩,z3⟩:=z
   obtain⟨p1,kk,p2,rfl⟩:=FG z1
   cases lo with
   |some=>cases z2
   |none=>cases hi with
    |some=>cases z3
    |none=>exact OB (hf _) (.inr (HH n_int))
  ·exact eK λ_=>rfl
theorem KO {d m:Str}{q ap:Pos}{args:List Expr}:NE X (.Call (.Attribute (.Name d q) m ap) args [] pos) (Q3 G L f d q m ap args pos):=by
 cases args with
 |nil=>
  show NE X _ (if m = "bit_length"&&ap.endLine==pos.line then BP (f (.Name d q)) else bX)
  split
  ·next z=>
   rw[a0b,decide_eq_true_eq] at z
   obtain⟨rfl,z2⟩:=z
   exact J1 (hf _) z2
  ·exact eK λ_=>rfl
 |cons a r=>
  show NE X _ (if m = "get"&&ap.endLine==pos.line&&(a::r).all jW&&decide (r.length<20) then vU mh (f (.Name d q)) (vA f (a::r)) else bX)
  split
  ·next z=>
   rw[a0b,a0b,a0b,decide_eq_true_eq,decide_eq_true_eq] at z
   obtain⟨⟨⟨rfl,z1⟩,z2⟩,z3⟩:=z
   exact It HN (Bu z1 z2 (by rw[a0p];omega)) (hf _) (j1 hf _) (λe=>by cases e)
  ·exact eK λ_=>rfl
theorem Fg (o:Ok X k G L){fn:Expr}{args:List Expr}{kws:List Keyword}:NE X (.Call fn args kws pos) (Nc G L f fn args kws pos):=by
 cases kws with
 |cons=>exact eK λ_=>rfl
 |nil=>
  cases fn<;>first|exact eK λ_=>rfl|exact Gs o hf _|skip
  rename_i ob m ap
  cases ob<;>first|exact eK λ_=>rfl|exact KO (G:=G) (L:=L) hf
end
theorem DM (o:Ok X k G L){rE:RE}{rB:RB}(hE:∀{X:Cx} {L:Lc},Ok X k G L->∀e,NE X e (rE L e))(hB:∀{X:Cx} {L:Lc},Ok X k G L->∀e,NB X e (rB L e))(e:Expr):NE X e (PN G rE rB L e):=by
 cases e with
 |Constant c kd p=>exact LJ
 |Name x p=>exact FP o
 |BinOp a op b p=>exact PG (Pv op) (hE o _) (hE o _)
 |UnaryOp op a p=>exact JK (hE o)
 |Compare a ops bs p=>exact Ls (hE o) o
 |BoolOp op vs p=>exact Kh (hE o)
 |IfExp c a b p=>exact PI (hB o _) (hE o _) (hE o _)
 |Tuple es kk p=>exact M0 (j1 (hE o) _)
 |List es p=>exact IL (j1 (hE o) _)
 |ListComp elt gs sc p=>
  cases gs with
  |nil=>exact eK λ_=>rfl
  |cons g gs=>cases gs with
   |cons=>exact eK λ_=>rfl
   |nil=>
    obtain⟨tg,it,ifs,n⟩:=g
    show NE X _ (if n=0 then Pg G rE rB L elt tg it ifs sc p else bX)
    split
    ·next z=>subst z;exact (Io o hE hB _ _ _ _ _ _).ne o
    ·exact eK λ_=>rfl
 |Subscript a ix p=>exact Kg (hE o)
 |Call fn args kws p=>exact Fg (hE o) o
 |_=>exact eK λ_=>rfl
theorem JM (o:Ok X k G L){rE:RE}{rB:RB}(hE:∀{X:Cx} {L:Lc},Ok X k G L->∀e,NE X e (rE L e))(hB:∀{X:Cx} {L:Lc},Ok X k G L->∀e,NB X e (rB L e))(e:Expr):NB X e (PO rE rB L e):=by
 have hu:=o.r.units
 cases e with
 |Compare a ops bs p=>
  show NB X _ (match Kv (rE L) a ops bs with
   |some g=>g
   |none=>λ_=>none)
  cases h:Kv (rE L) a ops bs with
  |none=>exact HF λ_=>rfl
  |some g=>
   show NB X _ g
   replace h:=je h;rcases h with h|h
   ·replace h:=a0a.mp h;obtain⟨op,e,h⟩:=h
    cases eD e
    replace h:=a0a.mp h;obtain⟨b,e,h⟩:=h
    cases eD e
    replace h:=bA h;obtain⟨z,h⟩:=h
    cases h
    exact NY (sS hu _) (hE o _) (hE o _) (by simpa using z)
   ·replace h:=a0a.mp h;obtain⟨⟨o1,o2⟩,e,h⟩:=h
    cases jB e
    replace h:=a0a.mp h;obtain⟨⟨b,c⟩,e,h⟩:=h
    cases jB e
    replace h:=bA h;obtain⟨z,h⟩:=h
    cases h
    exact PH (sS hu _) (sS hu _) (hE o _) (hE o _) (hE o _) (by simpa using z)
 |BoolOp op vs p=>
  show NB X _ (vW (rB L) op vs)
  cases vs with
  |nil=>exact HF λ_=>rfl
  |cons a r=>exact Rh (MM (hB o) op (a::r) (by simp))
 |UnaryOp op a p=>
  show NB X _ (if IR op then eQ (rB L a) else fT (rE L (.UnaryOp op a p)))
  cases op<;>first|exact O2 (hB o _)|exact Iy (hE o _) (si rfl)
 |_=>first
  |exact Iy (hE o _) (si rfl)
  |exact HF λ_=>rfl
end
theorem Lq {X:Cx}{k:Nat}{G:Gc}{L:Lc}(o:Ok X k G L){rE:RE}{rB:RB}(hE:∀{X:Cx} {L:Lc},Ok X k G L->∀e,NE X e (rE L e))(hB:∀{X:Cx} {L:Lc},Ok X k G L->∀e,NB X e (rB L e))(e:Expr):NE X e (Px G rE rB L e):=by
 unfold Px
 split
 ·exact DM o hE hB _
 ·split
  ·next f hf=>exact o.hk.e o.toOk0 (λo'=>hE ⟨o',o.hk⟩) (λo'=>hB ⟨o',o.hk⟩) _ f hf
  ·exact DM o hE hB _
theorem EW {X:Cx}{k:Nat}{G:Gc}{L:Lc}(o:Ok X k G L){rE:RE}{rB:RB}(hE:∀{X:Cx} {L:Lc},Ok X k G L->∀e,NE X e (rE L e))(hB:∀{X:Cx} {L:Lc},Ok X k G L->∀e,NB X e (rB L e))(e:Expr):NB X e (match G.hk.b G.toGd rE rB L e with
  |some f=>f
  |none=>PO rE rB L e):=by
 split
 ·next f hf=>exact o.hk.b o.toOk0 (λo'=>hE ⟨o',o.hk⟩) (λo'=>hB ⟨o',o.hk⟩) _ f hf
 ·exact JM o hE hB _
theorem ll {k:Nat}{G:Gc}:∀n:Nat,(∀{X:Cx} {L:Lc},Ok X k G L->∀e,NE X e ((AS G n).1 L e))/\∀{X:Cx} {L:Lc},Ok X k G L->∀e,NB X e ((AS G n).2 L e)
 |0=>⟨λ_ _=>eK λ_=>rfl,λ_ _=>HF λ_=>rfl⟩
 |n+1=>⟨λo e=>Lq o (ll n).1 (ll n).2 e,λo e=>EW o (ll n).1 (ll n).2 e⟩
noncomputable abbrev HE (k:Nat)(G:Gc)(rE:RE):Prop:=∀{X:Cx} {L:Lc},Ok X k G L->∀e,NE X e (rE L e)
noncomputable abbrev HB (k:Nat)(G:Gc)(rB:RB):Prop:=∀{X:Cx} {L:Lc},Ok X k G L->∀e,NB X e (rB L e)
noncomputable abbrev HC (k:Nat)(G:Gc)(rE:RE):Prop:=∀{X:Cx} {L:Lc},Ok X k G L->∀elt tg it ifs sc p,CpOk X elt tg it ifs sc (rE L (.ListComp elt [⟨tg,it,ifs,0⟩] sc p))
theorem Oq {k:Nat}{G:Gc}:∀n,HC k G (AS G n).1
 |0=>λ_ _ _ _ _ _ _=>⟨.inl λ_=>rfl⟩
 |n+1=>λo _ _ _ _ _ _=>Io o (ll n).1 (ll n).2 _ _ _ _ _ _
section
variable {X:Cx}{k:Nat}{G:Gc}{L:Lc}{x:Str}{i:Nat}{pos:Pos}{e v tg:Expr}
theorem EM {st:Stmt}{s:FS}(h:∀ρ,s ρ=.bad):NS X st s:=λz s' E hz hb=>absurd (h _) hb
theorem Ok0.bk {G:Gd}(o:Ok0 X k G L):X.env.blockKind=.function:=by
 unfold Env.blockKind
 rw[o.sc,o.fk];rfl
theorem Ew {G:Gd}(o:Ok0 X k G L){t:Str}{p:Pos}{ln:Nat}:swapsWith v (some (.Name t p)) ln X.env=pure (ES L v t p):=by
 have hk:X.env.kindOf t=L.sc.names.lookup t:=by show X.env.scope.names.lookup t=_;rw[o.sc]
 cases v<;>first|rfl|skip
 all_goals
  simp only[swapsWith,ES,o.bk,hk,o.fk]
  rfl
theorem IQ (o:Ok X k G L){t:Str}{p:Pos}{ln:Nat}:swapsWith v (some (.Name t p)) ln X.env=pure (ES L v t p):=Ew o.toOk0
theorem BZ {ts:List Expr}{kk:Nat}{p:Pos}{ln:Nat}:swapsWithSole [.Tuple ts kk p] v ln X.env=pure false:=by cases v<;>rfl
theorem LC {a b:Expr}{p:Pos}{ln:Nat}:swapsWithSole [.Subscript a b p] v ln X.env=pure false:=by cases v<;>rfl
theorem F7 {ln:Nat}(h:GG v=false):swapsWith v none ln X.env=pure false:=by
 cases v<;>first|rfl|(cases h)
theorem yR {G:Gd}(o:Ok0 X k G L){ts vs:List Expr}{k1 k2:Nat}{p1 p2:Pos}{r:Option (List Str)}(h:EQ L ts vs=some r):swappedStores [.Tuple ts k1 p1] (.Tuple vs k2 p2) X.env=pure r:=by
 have hk:X.env.kindOf=λx=>L.sc.names.lookup x:=by funext t;show X.env.scope.names.lookup t=_;rw[o.sc]
 unfold EQ at h
 unfold swappedStores
 dsimp only
 rw[o.bk,hk]
 rw[o.fk] at h
 split at h
 ·next z=>cases h;exact if_pos z
 ·next z=>
  refine (if_neg z).trans ?_
  split at h
  ·next z=>cases h;exact if_pos z
  ·next z=>
   refine (if_neg z).trans ?_
   dsimp only at h
   split at h
   ·next z=>cases h;exact if_pos z
   ·next z=>
    refine (if_neg z).trans ?_
    split at h
    ·next z=>cases h;exact if_pos z
    ·next z=>
     refine (if_neg z).trans ?_
     split at h
     ·cases h
     ·next z=>cases h;exact (if_neg z).trans rfl
theorem xK (o:Ok X k G L){ts vs:List Expr}{k1 k2:Nat}{p1 p2:Pos}{r:Option (List Str)}(h:EQ L ts vs=some r):swappedStores [.Tuple ts k1 p1] (.Tuple vs k2 p2) X.env=pure r:=yR o.toOk0 h
theorem zV {ts:List Expr}{k1:Nat}{p1:Pos}(h:ym v=false):swappedStores [.Tuple ts k1 p1] v X.env=pure none:=by
 cases v<;>first|rfl|(cases h)
theorem yH {a ix:Expr}{p:Pos}(h:gu ix=true):∀v,assign (.Subscript a ix p) X.env v=(do
  let ov ←holding [v] (eval a X.env)
  let iv ←holding [v,ov] (eval ix X.env)
  standAt p
  holding [v,ov,iv] (setItem ov iv v)
  release [v,ov,iv] []):=by
 cases ix<;>first|(exact λ_=>rfl)|skip
 rename_i lo hi st p
 cases st with
 |none=>cases h
 |some s=>exact λ_=>rfl
theorem Hq {ix:Expr}(h:gu ix=true):∀ov iv new,augStore ix ov iv new=(do holding [new,ov,iv] (setItem ov iv new);release [new,ov,iv] [];pure .next):=by
 cases ix<;>first|(exact λ_ _ _=>rfl)|skip
 rename_i lo hi st p
 cases st with
 |none=>cases h
 |some s=>exact λ_ _ _=>rfl
theorem PL (o:Ok X k G L){f:FE}{p:Pos}{own:Bool}(hi:dF L x=some i)(h:NE X v f)(hs:ES L v x p=false):NS X (.Assign [.Name x p] v pos) (if own=true then jx i f else bu i f):=by
 have hs:=(IQ (v:=v) o (t:=x) (p:=p) (ln:=pos.line)).trans (by rw[hs])
 split
 ·exact M2 (gL o hi) h hs
 ·exact My (gL o hi) h hs
theorem An {fm:List (Option Nat)}{fi:FI}{t:FT}{c:FB}{fe:FE}{ρ:ao}:cQ fm fi t c fe ρ=none\/∃ps,cQ fm fi t c fe ρ=some (.nw ps):=by
 unfold cQ
 cases fi ρ with
 |none=>exact .inl rfl
 |some its=>
  show (if its.length<1000 then _ else _)=none\/∃ps,(if its.length<1000 then _ else _)=_
  split
  ·cases m8 t c fe (iJ fm ρ) its with
   |none=>exact .inl rfl
   |some ps=>exact .inr ⟨ps,rfl⟩
  ·exact .inl rfl
theorem PM (o:Ok X k G L){f:FE}{p:Pos}{own:Bool}{elt t it:Expr}{ifs:List Expr}{sc:Scope}{vp:Pos}(hi:dF L x=some i)(hc:CpOk X elt t it ifs sc f)(hs:ES L (.ListComp elt [⟨t,it,ifs,0⟩] sc vp) x p=true) :
  NS X (.Assign [.Name x p] (.ListComp elt [⟨t,it,ifs,0⟩] sc vp) pos) (if own=true then jx i f else bu i f):=by
 have n:=gL o hi
 have hsw:=(IQ (v:=.ListComp elt [⟨t,it,ifs,0⟩] sc vp) o (t:=x) (p:=p) (ln:=pos.line)).trans (by rw[hs])
 rcases hc.ex with h|⟨N2,fm,fi,t',c,fe,rfl,h1,h2,h3,h4,h5,h6,h7⟩
 ·split
  ·exact EM λρ=>by unfold jx;rw[h];rfl
  ·exact EM λρ=>by unfold bu;rw[h];rfl
 ·split
  ·have:=BE (px:=p) h1 o.calm h2 h3 h4 h5 h6 (I7 n) hsw h7
   rw[show jx i (cQ fm fi t' c fe)=AB (cQ fm fi t' c fe) (MR i) by
    funext ρ;unfold jx AB
    rcases An (fm:=fm) (fi:=fi) (t:=t') (c:=c) (fe:=fe) (ρ:=ρ) with e|⟨ps,e⟩<;>rw[e]<;>rfl]
   exact this
  ·have:=BE (px:=p) h1 o.calm h2 h3 h4 h5 h6 (J4 n) hsw h7
   rw[show bu i (cQ fm fi t' c fe)=AB (cQ fm fi t' c fe) (MW i) by
    funext ρ;unfold bu AB
    rcases An (fm:=fm) (fi:=fi) (t:=t') (c:=c) (fe:=fe) (ρ:=ρ) with e|⟨ps,e⟩<;>rw[e]<;>rfl]
   exact this
theorem zf (o:Ok X k G L){d m:Str}{q ap cp:Pos}{es:List Expr}(hi:slot L d=some i)(hl:(ap.endLine==cp.line)=true)(hs:es.all jW=true)(hn:es.length<21):McN X i d m q ap cp es:=by
 obtain⟨h1,h2,h3⟩:=i4 o hi
 refine⟨h1,h2,(bz h3).1,(bz h3).2.1,rfl,hl,?_,λe r he=>?_⟩
 ·rw[nq hs]
  show (true&&true&&decide _)=true
  rw[a5t,a3i,decide_eq_true_eq]
  simp only[a2f,a4h,if_true]
  omega
 ·subst he
  rw[a1h,a0b] at hs
  exact⟨df hs.1 r X.env,iR hs.2⟩
theorem KL (o:Ok X k G L){y:Nat}{p:Pos}{s:FS}(hi:dF L x=some y)(h:Qa L y v=some s):NS X (.Assign [.Name x p] v pos) s:=by
 replace h:=a0a.mp h;obtain⟨⟨fn,as,cp⟩,e,h⟩:=h
 cases ij e
 replace h:=a0a.mp h;obtain⟨_,e,h⟩:=h
 obtain⟨q,_⟩:=oi e
 cases q
 replace h:=a0a.mp h;obtain⟨⟨ob,m,ap⟩,e,h⟩:=h
 cases nE e
 replace h:=a0a.mp h;obtain⟨⟨d,q⟩,e,h⟩:=h
 cases ci e
 replace h:=a0a.mp h;obtain⟨i,hd,h⟩:=h
 replace h:=bA h;obtain⟨z,h⟩:=h
 rw[a0b,decide_eq_true_eq] at z
 obtain⟨q,z⟩:=z
 cases q;cases h
 exact H4 En (zf o hd z rfl (by decide)) (gL o hi) lK (λ_=>rfl) rfl
theorem Le (o:Ok X k G L){f:FE}{ts:List Expr}{kk:Nat}{p:Pos}(h:NE X v f)(hw:swappedStores [.Tuple ts kk p] v X.env=pure none):NS X (.Assign [.Tuple ts kk p] v pos) (fS f (vT 5 L (.Tuple ts kk p))):=
 OW h (uX 5 o (.Tuple ts kk p)) BZ hw rfl
theorem FV (h:Hy v=true):∃elt t it ifs sc p,v=.ListComp elt [⟨t,it,ifs,0⟩] sc p:=by
 unfold Hy at h
 cases e:O5 v with
 |none=>rw[e] at h;exact nomatch h
 |some c=>
  obtain⟨x,⟨t,it,ifs,n⟩,sc,p⟩:=c
  rw[e] at h
  have h:n=0:=of_decide_eq_true h
  rw[h] at e
  exact⟨_,_,_,_,_,_,Ks e⟩
theorem t9 {st:Stmt}{a:Option FS}(h:∀s,a=some s->NS X st s):NS X st (C4 a):=by
 cases a with
 |none=>exact di
 |some s=>exact h s rfl
theorem yT (o:Ok X k G L){f:FE}(hf:NE X v f){tg:Expr}(z:CS L tg v=true):NS X (.Assign [tg] v pos) (fS f (vT 5 L tg)):=by
 unfold CS at z
 cases e1:Gj tg with
 |none=>rw[e1] at z;exact nomatch z
 |some t=>
  obtain⟨ts,kk,pt⟩:=t
  rw[e1] at z
  cases qb e1
  refine Le o hf ?_
  cases e2:Gj v with
  |none=>exact zV (by cases v<;>first|rfl|exact nomatch e2)
  |some w=>
   obtain⟨vs,kv,pv⟩:=w
   rw[e2] at z
   cases qb e2
   have z:OR (EQ L ts vs)=true:=z
   cases e3:EQ L ts vs with
   |none=>rw[e3] at z;exact nomatch z
   |some q=>
    cases q with
    |none=>exact xK o e3
    |some q=>rw[e3] at z;exact nomatch z
theorem Gm (o:Ok X k G L){rE:RE}(hE:HE k G rE)(hC:HC k G rE)(y:Str)(p:Pos)(v:Expr):NS X (.Assign [.Name y p] v pos) (Jq G rE L y p v):=by
 unfold Jq
 cases hi:dF L y with
 |none=>exact di
 |some i=>
  show NS X _ (if ES L v y p&&!Hy v then cq else match Qa L i v with
   |some s=>s
   |none=>if L.own.contains y then jx i (rE L v) else bu i (rE L v))
  split
  ·exact di
  ·next z=>
   split
   ·next s hs=>exact KL o hi hs
   ·by_cases hs:ES L v y p=true
    ·rw[hs,a3i,a2e] at z
     obtain⟨elt,t,it,ifs,sc,vp,rfl⟩:=FV (v:=v) (by simpa using z)
     exact PM o hi (hC o elt t it ifs sc vp) hs
    ·exact PL o hi (hE o v) (by simpa using hs)
theorem Gz (o:Ok X k G L){rE:RE}(hE:HE k G rE){b ix v:Expr}{p:Pos}{s:FS}(h:N6 rE L b ix v=some s):NS X (.Assign [.Subscript b ix p] v pos) s:=by
 replace h:=a0a.mp h;obtain⟨⟨j,jp⟩,e,h⟩:=h
 cases ci e
 replace h:=a0a.mp h;obtain⟨i,hi,h⟩:=h
 replace h:=bA h;obtain⟨z,h⟩:=h
 cases h
 obtain⟨h1,h2,h3⟩:=i4 o hi
 rw[a0b] at z
 exact Nw (o:=v) h1 h2 (bz h3).1 (bz h3).2.1 (hE o ix) (hE o v) LC rfl rfl (yH z.1)
theorem Hi (o:Ok X k G L){rE:RE}(hE:HE k G rE){ts:List Expr}{kk:Nat}{pt:Pos}{v:Expr}{s:FS}(h:K4 rE L (.Tuple ts kk pt) v ts=some s):NS X (.Assign [.Tuple ts kk pt] v pos) s:=by
 unfold K4 at h
 cases hq:(u2 ts).bind λq=>(mE q.1).bind λx=>(mE q.2).map λy=>(x,y) with
 |none=>
  rw[hq] at h
  replace h:=bA h;obtain⟨z,h⟩:=h
  cases h
  exact yT o (hE o v) z
 |some xy=>
  rw[hq] at h
  obtain⟨⟨x,px⟩,y,py⟩:=xy
  replace hq:=a0a.mp hq;obtain⟨⟨tx,ty⟩,e,hq⟩:=hq
  cases jB e
  replace hq:=a0a.mp hq;obtain⟨x',e1,hq⟩:=hq
  replace hq:=a0d.mp hq;obtain⟨y',e2,hq⟩:=hq
  cases hq
  cases ci e1
  cases ci e2
  cases hw:(Gj v).bind λw=>u2 w.1 with
  |none=>
   rw[hw] at h
   replace h:=bA h;obtain⟨z,h⟩:=h
   cases h
   exact Le o (hE o v) (zV (by simpa using z))
  |some ab=>
   rw[hw] at h
   obtain⟨a,b⟩:=ab
   replace hw:=a0a.mp hw;obtain⟨⟨vs,k2,p2⟩,e,hw⟩:=hw
   cases qb e
   cases jB hw
   have h:(match EQ L [.Name x px,.Name y py] [a,b] with
    |none=>none
    |some none=>some (fS (rE L (.Tuple [a,b] k2 p2)) (vT 5 L (.Tuple [.Name x px,.Name y py] kk pt)))
    |some (some l)=>ML rE L (x,px) (y,py) a b l)=some s:=h
   cases hs:EQ L [.Name x px,.Name y py] [a,b] with
   |none=>rw[hs] at h;cases h
   |some l=>
    cases l with
    |none=>rw[hs] at h;cases h;exact Le o (hE o _) (xK o hs)
    |some l=>
     rw[hs] at h
     replace h:=a0a.mp h;obtain⟨i,hi,h⟩:=h
     replace h:=a0a.mp h;obtain⟨j,hj,h⟩:=h
     replace h:=bA h;obtain⟨z,h⟩:=h
     cases h
     simp only[a0b,beq_iff_eq,bne_iff_ne,ne_eq] at z
     obtain⟨⟨⟨⟨⟨z0,z1⟩,z2⟩,z3⟩,z4⟩,z5⟩:=z
     have hx:X.env.scope.names.lookup x=some .local:=by rw[o.sc];exact z4
     have hy:X.env.scope.names.lookup y=some .local:=by rw[o.sc];exact z5
     rw[z0] at hs
     exact Nx o.calm (gL o hi) (gL o hj) z3 hx hy (j1 (hE o) [a,b]) (xK o hs) BZ
theorem Hg (o:Ok X k G L){rE:RE}(hE:HE k G rE){tg v:Expr}:NS X (.Assign [tg] v pos) (C4 (jE (CS L tg v) (some (fS (rE L v) (vT 5 L tg))))):=t9 λs h=>by
 replace h:=bA h;obtain⟨z,h⟩:=h
 cases h
 exact yT o (hE o v) z
theorem F3 (o:Ok X k G L){rE:RE}(hE:HE k G rE)(hC:HC k G rE)(tg v:Expr):NS X (.Assign [tg] v pos) (MQ G rE L tg v):=by
 cases tg with
 |Name x p=>exact Gm o hE hC x p v
 |Subscript b ix p=>exact t9 λs h=>Gz o hE h
 |Tuple ts kk p=>exact t9 λs h=>Hi o hE h
 |_=>exact Hg o hE
theorem Jn (o:Ok X k G L){f:Expr->FE}(hf:∀e,NE X e (f e)){s:FS}(h:QE G f L tg v=some s):NS X (.Assign [tg] v pos) s:=by
 replace h:=a0a.mp h;obtain⟨⟨fn,as,cp⟩,e,h⟩:=h
 cases ij e
 replace h:=a0a.mp h;obtain⟨⟨g,fp⟩,e,h⟩:=h
 cases ci e
 replace h:=a0a.mp h;obtain⟨⟨xe,es⟩,e,h⟩:=h
 cases qt e
 replace h:=a0a.mp h;obtain⟨⟨x,xp⟩,e,h⟩:=h
 cases ci e
 replace h:=a0a.mp h;obtain⟨i,hi,h⟩:=h
 replace h:=bA h;obtain⟨z,h⟩:=h
 obtain⟨h1,h2,h3⟩:=i4 o hi
 rw[a0b,a0b] at z
 have ha:NA X es (Mj f es):=B6 hf z.1.2
 have hpl:(backTo cp (starEach es X.env)).any (·.1)=false:=iR z.1.2
 have hg:=uX 5 o tg
 have sw:swapsWithSole [tg] (.Call (.Name g fp) (.Name x xp::es) [] cp) pos.line X.env=pure false/\swappedStores [tg] (.Call (.Name g fp) (.Name x xp::es) [] cp) X.env=pure none/\(assignEach [tg] X.env).map (·.2)=[assign tg X.env]:=
  have t:=z.2
  by cases tg<;>first|exact⟨rfl,rfl,rfl⟩|(cases t)
 unfold NU at h
 cases hF:G.lents.lookup g with
 |some F=>
  rw[hF] at h
  replace h:=bA h;obtain⟨hgl,h⟩:=h
  cases h
  obtain⟨hG,hd⟩:=iU o hgl
  obtain⟨j,hj,D⟩:=o.g.lents _ F hF
  exact KU D hj hG (bz hd).1 (λ_=>o.calm) o.r h1 h2 (bz h3).1 (bz h3).2.1 ha hpl hg sw.1 sw.2.1 sw.2.2
 |none=>
  rw[hF] at h
  replace h:=a0a.mp h;obtain⟨j,hj,h⟩:=h
  replace h:=bA h;obtain⟨_,h⟩:=h
  cases h
  obtain⟨g1,g2,g3⟩:=i4 o hj
  exact Ft o.g.lents (λ_=>o.calm) o.r g1 g2 (bz g3).1 (bz g3).2.1 h1 h2 (bz h3).1 (bz h3).2.1 ha hpl hg sw.1 sw.2.1 sw.2.2
theorem Kb (o:Ok X k G L){rE:RE}(hE:HE k G rE)(hC:HC k G rE)(tg v:Expr):NS X (.Assign [tg] v pos) (PF G rE L tg v):=by
 unfold PF
 split
 ·next s h=>exact Jn o (hE o) h
 ·exact F3 o hE hC tg v
theorem qK {f:Stmt->FS}(h:∀s,NS X s (f s)):∀ss:List Stmt,Bo X ss (vL f ss)
 |[]=>L8
 |[s]=>Kd (h s)
 |s::t::r=>F4 (h s) (qK h (t::r))
theorem C2 {op:Operator}{g:Int->Int->Int}(h:tK op=some g):CQ X op g:=by
 cases op<;>first|(cases h;done)|skip
 ·cases h;exact EF
 ·cases h;exact Er
section
variable {f:Expr->FE}(hf:∀e,NE X e (f e))
include hf
theorem K6 (o:Ok X k G L){v:Option Expr}:NS X (.Return v pos) (QD L f v):=by
 cases v with
 |none=>exact di
 |some e=>
  cases e<;>first|exact IZ (hf _)|skip
  rename_i x p
  show NS X _ (match slot L x with
   |some i=>if L.top&&!L.lent then jT i else cq
   |none=>bv (f (.Name x p)))
  cases hi:slot L x with
  |none=>exact IZ (hf _)
  |some i=>
   obtain⟨h1,h2,h3⟩:=i4 o hi
   show NS X _ (if L.top&&!L.lent then jT i else cq)
   split
   ·next ht=>
    rw[a0b,a2e] at ht
    exact La h1 h2 (bz h3).1 (bz h3).2.1 (o.h0 ht.2 ht.1)
   ·exact di
theorem HA (o:Ok X k G L){op:Operator}:NS X (.AugAssign tg op v pos) (Na L f tg op v):=by
 cases tg<;>first|exact di|skip
 ·rename_i b ix p
  cases b<;>first|exact di|skip
  rename_i j q
  show NS X _ (match slot L j with
   |none=>cq
   |some i=>match tK op with
    |some g=>if gu ix then ni g i (f ix) (f v) else cq
    |none=>cq)
  cases hi:slot L j with
  |none=>exact di
  |some i=>
   obtain⟨h1,h2,h3⟩:=i4 o hi
   show NS X _ (match tK op with
    |some g=>if gu ix then ni g i (f ix) (f v) else cq
    |none=>cq)
   cases hg:tK op with
   |none=>exact di
   |some g=>
    show NS X _ (if gu ix then ni g i (f ix) (f v) else cq)
    split
    ·next z=>exact E0 h1 h2 (bz h3).1 (bz h3).2.1 (hf _) (hf _) (C2 hg) (Hq z)
    ·exact di
 ·rename_i x p
  show NS X _ (match dF L x with
   |none=>cq
   |some i=>match tK op with
    |some g=>oS g i (f v)
    |none=>cq)
  cases hi:dF L x with
  |none=>exact di
  |some i=>
   show NS X _ (match tK op with
    |some g=>oS g i (f v)
    |none=>cq)
   cases hg:tK op with
   |none=>exact di
   |some g=>exact OP (gL o hi) (hf _) (C2 hg)
theorem GB (o:Ok X k G L){d m:Str}{q ap cp:Pos}{args:List Expr}:NS X (.Expr (.Call (.Attribute (.Name d q) m ap) args [] cp) pos) (Lk L f d q m ap args cp):=by
 unfold Lk
 cases hi:slot L d with
 |none=>cases args with
  |nil=>exact di
  |cons=>exact pW (hf _) rfl
 |some i=>cases args with
  |nil=>
   show NS X _ (if ap.endLine==cp.line then (if m = "reverse" then vB CA i ah else if m = "pop" then vB oR i ah else cq) else cq)
   split
   ·next z=>
    split
    ·next zz=>subst zz;exact JG MS (zf o hi z rfl (by decide)) lK (λ_=>rfl) rfl
    ·split
     ·next zz=>subst zz;exact JG En (zf o hi z rfl (by decide)) lK (λ_=>rfl) rfl
     ·exact di
   ·exact di
  |cons a as=>
   show NS X _ (if m = "append"&&ap.endLine==cp.line&&(a::as).all jW&&decide (as.length<20) then vB mr i (vA f (a::as)) else cq)
   split
   ·next z=>
    rw[a0b,a0b,a0b,decide_eq_true_eq,decide_eq_true_eq] at z
    obtain⟨⟨⟨rfl,z1⟩,z2⟩,z3⟩:=z
    exact JG NJ (zf o hi z1 z2 (by rw[a0p];omega)) (j1 hf _) (λe=>by cases e) rfl
   ·exact di
theorem Fp (o:Ok X k G L):NS X (.Expr e pos) (LK L f e):=by
 unfold LK
 split
 ·next z=>
  cases e<;>first|(cases z;done)|skip
  rename_i c _ _
  cases c<;>first|(cases z;done)|skip
  exact OX
 ·cases e with
  |Call fn args kws cp=>
   cases kws with
   |cons=>exact pW (hf _) rfl
   |nil=>
    cases fn with
    |Attribute b m ap=>
     cases b with
     |Name d q=>exact GB hf o
     |_=>exact pW (hf _) rfl
    |_=>exact pW (hf _) rfl
  |ListComp a b c d=>exact di
  |SetComp a b c d=>exact di
  |DictComp a b c d e=>exact di
  |_=>exact pW (hf _) (F7 rfl)
end
theorem Li (o:Ok X k G L){rE:RE}{rB:RB}{rS:Lc->Stmt->FS}(hE:HE k G rE)(hB:HB k G rB)(hC:HC k G rE)(hS:∀s,NS X s (rS L s))(st:Stmt):NS X st (QZ G rE rB rS L st):=by
 cases st with
 |Return v p=>exact K6 (hE o) o
 |If c a b p=>exact PQ (hB o _) (qK hS _) (qK hS _)
 |For tg it body els p=>
  cases els with
  |cons=>exact di
  |nil=>
   show NS X _ (if D2 it then j5 (vI G L (rE L) false tg it) (vT 5 L tg) (vL (rS L) body) else cq)
   split
   ·next z=>exact Ot o.calm (IF o (hE o) tg it) (uX 5 o tg) (qK hS body) (by
     intro y
     cases it<;>first|rfl|(cases z))
   ·exact di
 |While c body els p=>
  cases els with
  |cons=>exact di
  |nil=>exact Ha (hB o _) (qK hS _)
 |Assign tgs v p=>
  cases tgs with
  |nil=>exact di
  |cons tg r=>cases r with
   |cons=>exact di
   |nil=>exact Kb o hE hC _ _
 |AugAssign tg op v p=>exact HA (hE o) o
 |Expr e p=>exact Fp (hE o) o
 |Pass p=>exact Jp
 |Break p=>exact F9
 |Continue p=>exact xt
 |_=>exact di
theorem zB {st:Stmt}:∀{l:List Nat} {s:FS},NS X st s->NS X st (frzs l s)
 |[],_,h=>h
 |i::r,_,h=>zB (l:=r) (Oj h i)
end
theorem yo {k:Nat}{G:Gc}:∀(n:Nat) {X:Cx} {L:Lc},Ok X k G L->∀s,NS X s (vS G n L s)
 |0,_,_,_,_=>di
 |n+1,_,L,o,s=>by
  unfold vS
  refine zB ?_
  split
  ·next f hf=>exact o.hk.s o.toOk0 (λo'=>(ll n).1 ⟨o',o.hk⟩) (λo'=>(ll n).2 ⟨o',o.hk⟩) (yo n o) s f hf
  ·exact Li o (ll n).1 (ll n).2 (Oq n) (yo n o) s
section
variable {P:Program}{w:World}{K:PySem.W.Frag}{mg:Str->Option Value}{base:Heap}{k:Nat}
theorem Nt {x:Str}{st:Stmt}{f:Addr}{fd:FuncData}{N ps:List Str}{s:FS}{G:Gc}(L:Lc)(F:Fun K x x st f fd)(S:FnScope N ps (ai st))(g:GOk P w K mg base k G.toGd)(hk:HkOk G.hk)(hs:vL (vS G 60 L) (cv st)=s)(h1:L.sc=ai st)(h2:L.N=N)(h3:L.top=true) :
  NF P w K mg base true (k+1) f fd ps (run ps.length N.length s):=by
 obtain⟨oc,od,kV,doc,pm,an,cdv,ct,osl,rfl,lk,hcd⟩:=F.ex
 exact Ou lk hcd S λA outer s' hc hr=>hs▸qK (yo 60 ⟨⟨g,hr,h1.symm,h2.symm,by rw[h2];exact S.nd,by rw[h1];exact S.kind,rfl,λ_ _=>rfl,λ_ _=>rfl,λh=>by rw[h3] at h;cases h⟩,hk⟩) (cv st)
theorem N1 {x:Str}{st:Stmt}{N ps:List Str}{a n:Nat}{s:FS}{G:Gc}(L:Lc)(F:DF K mg x st ps)(S:FnScope N ps (ai st))(g:GOk P w K mg base k G.toGd)(hk:HkOk G.hk)
  (hs:vL (vS G 60 L) (cv st)=s) (h1:L.sc=ai st:=by rfl) (h2:L.N=N:=by rfl) (h3:L.top=true:=by rfl) (ha:ps.length=a:=by rfl) (hn:N.length=n:=by rfl):DefN P w K mg base true (k+1) x (run a n s):=by
 obtain⟨f,fd,F,b,m⟩:=F
 subst ha hn
 exact⟨f,fd,ps,Nt L F S g hk hs h1 h2 h3,.all b,F.kp,m⟩
noncomputable def gE {α:Type}(p:α->Prop):List α->Prop
 |[]=>True
 |a::r=>p a/\gE p r
theorem ez {β:Type}{p:Str×β->Prop}:∀{l:List (Str×β)},gE p l->∀x b,l.lookup x=some b->p (x,b)
 |[],_,_,_,h=>by cases h
 |(y,c)::r,⟨h1,h2⟩,x,b,h=>by
  rw[a1q] at h
  cases hx:x==y with
  |true=>
   rw[hx] at h
   have:x=y:=by simpa using hx
   subst this
   cases h;exact h1
  |false=>rw[hx] at h;exact ez h2 x b h
theorem qu {p:Str->Prop}:∀{l:List Str},gE p l->∀x,l.contains x=true->p x
 |[],_,_,h=>by cases h
 |y::r,⟨h1,h2⟩,x,h=>by
  rw[List.contains_cons,a4n] at h
  rcases h with h|h
  ·have:x=y:=by simpa using h
   subst this;exact h1
  ·exact qu h2 x h
theorem Q9 {G:Gd}(h1:gE (λx=>mg x=none) G.bi)(h2:gE (λp=>∃t,mg p.1=some (.int p.2 t)) G.nis)(h3:gE (λp=>HG P w mg base p.1 (.ktu p.2)) G.tups)(h4:gE (λx=>∃a,mg x=some (.ref a)) G.vals)(h5:gE (λp=>∃j,j<=k/\DefN P w K mg base true j p.1 p.2) G.fns)
  (h6:gE (λp=>HG P w mg base p.1 (.dct p.2.1 p.2.2)) G.dcts) (h7:gE (λp=>(∃j,j<=k/\DefN P w K mg base true j p.1 p.2)\/mg p.1=none) G.tab) (h8:gE (λp=>∃j,j<=k/\DefL P w K mg base true j p.1 p.2) G.lents):GOk P w K mg base k G:=
 ⟨qu h1,ez h2,ez h3,qu h4,ez h5,ez h6,ez h7,ez h8⟩
theorem Kn {x:Str}{st:Stmt}{N ps:List Str}{a n:Nat}{s:FS}{G:Gc}(L:Lc)(F:DF K mg x st ps)(S:FnScope N ps (ai st))(g:GOk P w K mg base k G.toGd)(hk:HkOk G.hk)
  (hs:vL (vS G 60 L) (cv st)=s) (h1:L.sc=ai st:=by rfl) (h2:L.N=N:=by rfl) (h3:L.top=true:=by rfl) (h4:L.lent=true:=by rfl) (ha:ps.length=a:=by rfl) (hn:N.length=n:=by rfl):DefL P w K mg base true (k+1) x (ro a n s):=by
 obtain⟨f,fd,F,b,m⟩:=F
 subst ha hn
 refine⟨f,fd,ps,?_,.all b,F.kp,m⟩
 obtain⟨oc,od,kV,doc,pm,an,cdv,ct,osl,rfl,lk,hcd⟩:=F.ex
 exact KD lk hcd S λA outer s' H hc hr=>hs▸qK (yo 60 ⟨⟨g,hr,h1.symm,h2.symm,by rw[h2];exact S.nd,by rw[h1];exact S.kind,rfl,λ_ _=>rfl,λh=>(by rw[h4] at h;cases h),λh=>by rw[h3] at h;cases h⟩,hk⟩) (cv st)
end
theorem AX {P:Program}{w:World}{K:PySem.W.Frag}{mg mb:Str->Option Value}{k:Nat}{fa a:Addr}{fd:FuncData}{x:Str}{s₁:Shared}{vs:List Value}{ns:List Int}{Fl:Fn}
  (KX:K.In s₁.heap) (hns:s₁.heap.Ns mainGlobals mg) (hb:s₁.heap.Ns builtinsNs mb) (hbb:∀x:Str,x ≠ "__name__"->mb x=bootBuiltins x) (hlim:s₁.heap.NoLimit) (hg:s₁.gens = #[])
  (ha:s₁.heap.get? a=some { cls:=.type "list",data:=.seq vs.toArray }) (hi:IntsAre vs ns) (hl:ns.length<=sizeLine) (hr:Rm k callerA)
  (F:NF P w K mg s₁.heap true k fa fd [x] Fl) (hbind:∀(s:Shared) (u:Value),BindsTo s fd ⟨[u],[]⟩ [(x,u)]) (q:Fl [.src (ns.map .int)]=some (.v (.bl true))) :
  codeAny (model P w) callerA (.call (.ref fa) ⟨[.ref a],[]⟩) (λr s'=>r=.ok (.ret (.bool true))/\OldK s₁.heap s'.heap/\s'.os=s₁.os/\AllBare s'.gens) s₁:=by
 have lenV:=hi.length
 have hM:Mod K mg s₁.heap:=⟨KX,hns,⟨mb,hb,hbb⟩,hlim⟩
 have e0:Env0 P w K mg s₁.heap callerA [] s₁ h0:=⟨rfl,hM,λb o e=>⟨e,rfl⟩,a0n _,trivial,λb hb=>absurd (show b∈([]:List Addr) from hb) (by simp),λb o e=>(by cases e),.of_eq hg⟩
 refine codeAny_mono (F.run callerA [] s₁ ⟨[.ref a],[]⟩ [.ref a] [.src (ns.map .int)] _ (λ_=>False) (λ_=>rfl) hr e0 (hbind s₁ (.ref a)) (λb hb=>absurd (show b∈([]:List Addr) from hb) (by simp)) (λb h=>h.elim) (λb o _ h=>h)
  ⟨.ref a,[],rfl,⟨a,vs,_,rfl,⟨rfl,id⟩,ha,by omega,Av hi⟩,rfl⟩ q) λr s' h=>?_
 obtain⟨u,rfl,os,bare,un,d⟩:=h
 obtain rfl:u=Value.bool true:=d
 exact⟨rfl,OldK.of_keep λb o e=>un.keep b o e rfl (by intro z;exact absurd (show b∈([]:List Addr) from z) (by simp)) (by simp),os,bare⟩
theorem Oc {l:PySem.W.OpenLaw}{q:Program}{loose:List Str}{XP:(Str->Option Value)->Heap->Prop}{YP:World->Heap->Prop}{d:DefRec}{K:Params->PySem.W.Frag}{k:Nat}{Fl:Fn}(hk:k<=40)(hn:l.most=some 63)(hdf:d.params.defaults=[])
  (hY:∀(w:World) (h:Heap),YP w h->(K w.params).In h)
  (hq:∀ns:List Int,ns.length<=63->Fl [.src (ns.map .int)]=some (.v (.bl true)))
  (F:∀(w:World) (mg:Str->Option Value) (fa:Addr) (h:Heap),(K w.params).In h->h.Ns mainGlobals mg->mg d.name=some (.ref fa) →
   ∃fd:FuncData,(∀(s:Shared) (u:Value),BindsTo s fd ⟨[u],[]⟩ [("_law_script",u)])/\∀base:Heap,(K w.params).In base/\base.Ns mainGlobals mg->NF l.prog w (K w.params) mg base true k fa fd ["_law_script"] Fl) :
  PySem.W.WalkO q loose XP YP l.row.toRowW d [] (λf vs=>PySem.call f vs):=by
 refine Att.attach_call hn hdf λw s₀ s₁ mg mb fa o pm cd doc a vs ns G Y ho hd hcd hmg hobj hints hlen hg=>?_
 have KX:=hY w _ Y
 obtain⟨fd,hb,hF⟩:=F w mg fa _ KX G.T.g hmg
 have R:Rm 40 callerA:=⟨by decide,by decide⟩
 exact AX KX G.T.g G.T.b G.T.builtins G.T.nolimit hg hobj hints (a1r hlen (by decide)) (R.mono hk) (hF _ ⟨KX,G.T.g⟩) hb (hq ns hlen)
theorem Go {P:Program}{w:World}{K:PySem.W.Frag}{mg:Str->Option Value}{x y:Str}{st:Stmt}{fa:Addr}{k a n:Nat}{N:List Str}{R:Heap->Prop}{s:FS}(F:DF K mg x st [y])(hm:mg x=some (.ref fa))(S:FnScope N [y] (ai st))(ha:a=1)(hn:N.length=n)
  (h:∀base,R base->∃(L:Lc) (G:Gc),GOk P w K mg base k G.toGd/\HkOk G.hk/\vL (vS G 60 L) (cv st)=s/\L.sc=ai st/\L.N=N/\L.top=true) :
  ∃fd:FuncData,(∀(s:Shared) (u:Value),BindsTo s fd ⟨[u],[]⟩ [(y,u)])/\∀base:Heap,R base->NF P w K mg base true (k+1) fa fd [y] (run a n s):=by
 subst ha hn
 obtain⟨f,fd,F,b,m⟩:=F
 rw[hm] at m
 cases m
 exact⟨fd,λs u=>.of_eq (b [u] rfl),λbase hb=>by
  obtain⟨L,G,g,hk,hs,h1,h2,h3⟩:=h base hb
  exact Nt L F S g hk hs h1 h2 h3⟩
section
variable {P:Program}{w:World}{K:PySem.W.Frag}{mg:Str->Option Value}{base:Heap}{x:Str}{a:Addr}{ps:List PV}
theorem Fw {o:Option Addr}{its:List Value}{n:Nat}{sl:Array (Option Value)}(KI:K.In base)(m:mg x=some (.ref a))(l:K.lookup a=some ⟨.type "tuple",o,.seq its.toArray n,sl⟩)(hl:its.length<=sizeLine)(ds:∀(c:Cn) h,c.mg=mg->Ds c h ps its):HG P w mg base x (.ktu ps):=
 ⟨_,m,λh bad H hb=>⟨a,its,rfl,(hb a _ (KI a _ l)).2,⟨_,(hb a _ (KI a _ l)).1,rfl,n,rfl⟩,hl,ds _ _ rfl⟩⟩
inductive DEs (w:World) (mg:Str->Option Value):List DictEntry->List cR->List PV->Prop where
 |nil:DEs w mg [] [] []
 |cons {x:Str} {t:Tok} {u:Value} {p:PV} {es:List DictEntry} {ks:List cR} {ps:List PV}:(∀(c:Cn) h,c.mg=mg->D c h p u)->DEs w mg es ks ps->DEs w mg (⟨PyData.keyHash w.params x,.str x t,u⟩::es) (.inr x::ks) (p::ps)
theorem DEs.ok {es:List DictEntry}{ks:List cR}(d:DEs w mg es ks ps):∃kus:List (cR×Value),kus.map (·.1)=ks/\(∀(c:Cn) h,c.mg=mg->Ds c h ps (kus.map (·.2)))/\(∀e∈es,∃k,(bB P w).is k e.key=true/\e.hash=(bB P w).hash k)/\Pairs (bB P w) es kus:=by
 induction d with
 |nil=>exact⟨[],rfl,λ_ _ _=>rfl,λ_ h=>(by cases h),.nil⟩
 | @cons x t u p es ks ps h1 _ ih=>
  obtain⟨kus,e1,e2,e3,e4⟩:=ih
  refine⟨(.inr x,u)::kus,by rw[a1g,e1],λc h hm=>⟨u,_,rfl,h1 c h hm,e2 c h hm⟩,λe he=>?_,.cons (kI P w x t) rfl e4⟩
  rcases a0s.mp he with rfl|he
  ·exact⟨.inr x,kI P w x t,rfl⟩
  ·exact e3 e he
theorem Fa {es:Array DictEntry}{ep:Nat}{ks:List cR}(KI:K.In base)(m:mg x=some (.ref a))(sys:(a==sysModules)=false)(l:K.lookup a=some ⟨.type "dict",none,.dict es ep,#[]⟩)(hl:ks.length<=sizeLine)(nd:ks.Nodup)(d:DEs w mg es.toList ks ps):HG P w mg base x (.dct ks ps):=by
 obtain⟨kus,e1,e2,e3,e4⟩:=d.ok (P:=P)
 refine⟨_,m,λh bad H hb=>?_⟩
 obtain⟨g1,g2,g3⟩:=hb a _ (KI a _ l)
 exact⟨a,kus,rfl,⟨g2,g3⟩,sys,⟨_,es,ep,g1,⟨rfl,rfl,rfl⟩,rfl,λe he=>e3 e (Array.mem_toList_iff.mpr he),e4,by rw[e1];exact nd⟩,by rw[←e1,a0i] at hl;exact hl,e1,e2 _ _ rfl⟩
end
end Dp
end
section
namespace Fo
noncomputable abbrev up (us:List Nat)(x:Nat):Nat:=us.getD x 0
theorem d6 {us:List Nat}{x v t:Nat}(hx:x<us.length):up (us.set x v) t=if t=x then v else up us t:=by
 simp only[up,a0m,a2d]
 by_cases h:x=t
 ·subst h;simp[hx]
 ·simp[h,Ne.symm h]
structure Fst (us:List Nat):Prop where
 bnd:∀x,x<us.length->up us x<us.length
 rk:∃r:Nat->Nat,(∀x,x<us.length->r x<us.length)/\∀x,x<us.length->up us x≠x->r (up us x)<r x
inductive Way (us:List Nat):Nat->List Nat->Prop where
 |head {x:Nat}:up us x=x->Way us x [x]
 |step {x:Nat} {l:List Nat}:up us x≠x->Way us (up us x) l->Way us x (x::l)
theorem Way.det {us:List Nat}{x:Nat}{l l':List Nat}(h:Way us x l)(h':Way us x l'):l=l':=by
 induction h generalizing l' with
 |head e=>cases h' with
  |head _=>rfl
  |step n _=>exact absurd e n
 |step n _ ih=>cases h' with
  |head e=>exact absurd e n
  |step _ q=>rw[ih q]
theorem Way.ne {us:List Nat}{x:Nat}{l:List Nat}(h:Way us x l):l≠[]:=by cases h<;>simp
theorem Way.pos {us:List Nat}{x:Nat}{l:List Nat}(h:Way us x l):1<=l.length:=by cases h<;>simp
theorem Way.mem_self {us:List Nat}{x:Nat}{l:List Nat}(h:Way us x l):x∈l:=by cases h<;>simp
noncomputable def dm (l:List Nat):Nat:=l.getLastD 0
theorem cy {x:Nat}{l:List Nat}(h:l≠[]):dm (x::l)=dm l:=by
 cases l with
 |nil=>exact absurd rfl h
 |cons y t=>simp[dm,a5p]
theorem qw {l:List Nat}(h:l≠[]):dm l∈l:=by
 induction l with
 |nil=>exact absurd rfl h
 |cons y t ih=>
  cases t with
  |nil=>simp[dm]
  |cons z t=>rw[cy (by simp)];exact a0c _ (ih (by simp))
theorem Way.head_last {us:List Nat}{x:Nat}{l:List Nat}(h:Way us x l):up us (dm l)=dm l:=by
 induction h with
 |head e=>exact e
 |step _ w ih=>rw[cy w.ne];exact ih
theorem Way.lt {us:List Nat}{x:Nat}{l:List Nat}(h:Way us x l)(b:∀x,x<us.length->up us x<us.length)(hx:x<us.length):∀y∈l,y<us.length:=by
 induction h with
 |head e=>intro y hy;rw[a0g] at hy;subst hy;exact hx
 |step n w ih=>
  intro y hy
  rcases a0s.mp hy with rfl|hy
  ·exact hx
  ·exact ih (b _ hx) y hy
theorem Way.rank {us:List Nat}{x:Nat}{l:List Nat}(h:Way us x l)(b:∀x,x<us.length->up us x<us.length){r:Nat->Nat}(hr:∀x,x<us.length->up us x≠x->r (up us x)<r x)(hx:x<us.length):∀y∈l,r y<=r x:=by
 induction h with
 |head e=>intro y hy;rw[a0g] at hy;subst hy;exact a0n _
 | @step x l n w ih=>
  intro y hy
  rcases a0s.mp hy with rfl|hy
  ·exact a0n _
  ·exact a1r (ih (b _ hx) y hy) (a3f (hr x hx n))
theorem Way.nodup {us:List Nat}{x:Nat}{l:List Nat}(h:Way us x l)(f:Fst us)(hx:x<us.length):l.Nodup:=by
 obtain⟨b,r,hb,hr⟩:=f
 induction h with
 |head e=>simp
 | @step x l n w ih=>
  refine a1n.mpr ⟨λhm=>?_,ih (b _ hx)⟩
  have h1:=w.rank b hr (b _ hx) x hm
  have h2:=hr x hx n
  omega
theorem Fst.way {us:List Nat}(f:Fst us){x:Nat}(hx:x<us.length):∃l,Way us x l/\l.length<=us.length:=by
 obtain⟨b,r,hb,hr⟩:=f
 suffices h:∀k x,x<us.length->r x<=k->∃l,Way us x l/\l.length<=k+1 by
  obtain⟨l,w,hl⟩:=h (r x) x hx (a0n _)
  exact⟨l,w,by have:=hb x hx;omega⟩
 intro k
 induction k with
 |zero=>
  intro x hx h0
  by_cases e:up us x=x
  ·exact⟨_,.head e,by simp⟩
  ·exact absurd (hr x hx e) (by omega)
 |succ k ih=>
  intro x hx h0
  by_cases e:up us x=x
  ·exact⟨_,.head e,by simp⟩
  ·obtain⟨l,w,hl⟩:=ih (up us x) (b x hx) (by have:=hr x hx e;omega)
   exact⟨_,.step e w,by simp;omega⟩
theorem Way.closed {us:List Nat}{x:Nat}{l:List Nat}(h:Way us x l):∀y∈l,up us y∈l:=by
 induction h with
 | @head x q=>intro y hy;rw[a0g] at hy;subst hy;rw[q];simp
 | @step x l n w ih=>
  intro y hy
  rcases a0s.mp hy with rfl|hy
  ·exact a0c _ w.mem_self
  ·exact a0c _ (ih y hy)
theorem Way.later {us:List Nat}{x:Nat}{l:List Nat}(h:Way us x l):∀y∈l,∃l2,Way us y l2/\dm l2=dm l/\l2.length<=l.length/\∀z∈l2,z∈l:=by
 induction h with
 | @head x q=>intro y hy;rw[a0g] at hy;subst hy;exact⟨_,.head q,rfl,a0n _,λ_ h=>h⟩
 | @step x l n w ih=>
  intro y hy
  rcases a0s.mp hy with rfl|hy
  ·exact⟨_,.step n w,rfl,a0n _,λ_ h=>h⟩
  ·obtain⟨l2,a,b,c,d⟩:=ih y hy
   exact⟨l2,a,by rw[b,cy w.ne],by simp;omega,λz hz=>a0c _ (d z hz)⟩
structure Shorter (us us':List Nat):Prop where
 len:us'.length=us.length
 up:∀t,t<us.length->(up us t=t/\Fo.up us' t=t)\/(Fo.up us t≠t/\∃l,Way us (Fo.up us t) l/\Fo.up us' t∈l)
theorem Shorter.refl {us:List Nat}(f:Fst us):Shorter us us:=⟨rfl,λt ht=>by
 by_cases e:Fo.up us t=t
 ·exact .inl ⟨e,e⟩
 ·obtain⟨l,w,_⟩:=f.way (f.bnd t ht)
  exact .inr ⟨e,l,w,w.mem_self⟩⟩
theorem Shorter.fst {us us':List Nat}(s:Shorter us us')(f:Fst us):Fst us':=by
 obtain⟨b,r,hb,hr⟩:=f
 refine⟨λx hx=>?_,r,λx hx=>?_,λx hx hn=>?_⟩
 ·rw[s.len] at hx ⊢
  rcases s.up x hx with ⟨_,e⟩|⟨_,l,w,m⟩
  ·rw[e];exact hx
  ·exact w.lt b (b x hx) _ m
 ·rw[s.len] at hx ⊢;exact hb x hx
 ·rw[s.len] at hx
  rcases s.up x hx with ⟨_,e⟩|⟨n,l,w,m⟩
  ·exact absurd e hn
  ·exact a4k (w.rank b hr (b x hx) _ m) (hr x hx n)
theorem Shorter.way {us us':List Nat}(s:Shorter us us')(f:Fst us){t:Nat}(ht:t<us.length){l:List Nat}(w:Way us t l):∃l',Way us' t l'/\dm l'=dm l/\l'.length<=l.length:=by
 obtain⟨b,r,hb,hr⟩:=f
 suffices h:∀k t,t<us.length->r t<=k->∀l,Way us t l->∃l',Way us' t l'/\dm l'=dm l/\l'.length<=l.length from h (r t) t ht (a0n _) l w
 intro k
 induction k with
 |zero=>
  intro t ht h0 l w
  rcases s.up t ht with ⟨e,e'⟩|⟨n,_⟩
  ·cases w with
   |head _=>exact⟨_,.head e',rfl,a0n _⟩
   |step n _=>exact absurd e n
  ·exact absurd (hr t ht n) (by omega)
 |succ k ih=>
  intro t ht h0 l w
  rcases s.up t ht with ⟨e,e'⟩|⟨n,l1,w1,m⟩
  ·cases w with
   |head _=>exact⟨_,.head e',rfl,a0n _⟩
   |step n _=>exact absurd e n
  ·cases w with
   |head e=>exact absurd e n
   | @step _ l0 _ w0=>
    obtain rfl:=w0.det w1
    obtain⟨l2,w2,e2,c2,_⟩:=w0.later _ m
    have hy:Fo.up us' t<us.length:=w0.lt b (b t ht) _ m
    have hry:r (Fo.up us' t)<r t:=a4k (w0.rank b hr (b t ht) _ m) (hr t ht n)
    obtain⟨l3,w3,e3,c3⟩:=ih _ hy (by omega) l2 w2
    refine⟨t::l3,.step (λe=>?_) w3,?_,?_⟩
    ·rw[e] at hry;omega
    ·rw[cy w3.ne,e3,e2,cy w0.ne]
    ·simp;omega
noncomputable def jU:List Nat->List Nat
 |[]=>[]
 |[x]=>[x]
 |x::_::l=>x::jU l
theorem nB:∀(l:List Nat) (x:Nat),x∈jU l->x∈l
 |[],_,h=>h
 |[_],_,h=>h
 |x::y::l,z,h=>by
  rcases a0s.mp h with rfl|h
  ·simp
  ·exact a0c _ (a0c _ (nB l z h))
end Fo
end
section
namespace Fo
open PySem
noncomputable def Of (us:List Nat)(x h:Nat)(us':List Nat)(n:Nat):Prop:=us'=us/\∃l,Way us x l/\h=dm l/\n+1=l.length
noncomputable def F6 (us:List Nat)(x h:Nat)(us':List Nat)(n:Nat):Prop:=∃l,Way us x l/\h=dm l/\n=l.length / 2/\us'.length=us.length/\∀t,up us' t=if t∈jU l then up us (up us t) else up us t
noncomputable def Fj (us:List Nat)(x h:Nat)(us':List Nat)(n:Nat):Prop:=∃l,Way us x l/\h=dm l/\n+1=l.length/\us'.length=us.length/\∀t,up us' t=if t∈l then up us (up us t) else up us t
noncomputable def Pn (us:List Nat)(x h:Nat)(us':List Nat)(n:Nat):Prop:=us'=us.set x (up us (up us x))/\∃l,Way us x l/\h=dm l/\n+1=l.length
noncomputable def J8 (us:List Nat)(x h:Nat)(us':List Nat)(n:Nat):Prop:=∃l,Way us x l/\h=dm l/\n+1=l.length/\us'.length=us.length/\∀t,up us' t=if t∈l then h else up us t
inductive RM:Str->List Nat->Nat->Nat->List Nat->Nat->Prop where
 |none {us x h us' n}:Of us x h us' n->RM "none" us x h us' n
 |whole {us x h us' n}:J8 us x h us' n->RM "whole" us x h us' n
 |halves {us x h us' n}:F6 us x h us' n->RM "halves" us x h us' n
 |splits {us x h us' n}:Fj us x h us' n->RM "splits" us x h us' n
 |one {us x h us' n}:Pn us x h us' n->RM "one" us x h us' n
noncomputable def cr:List Str:=["none","whole","halves","splits","one"]
structure Frst (us:List Nat):Prop where
 one:1<=us.length
 most:us.length<=40
 fst:Fst us
end Fo
namespace Dp
open PySem L2 Fo
noncomputable def nI (n:Nat):PV:=.int n
noncomputable def af (us:List Nat):List PV:=us.map nI
theorem o8 {i j:Int}:jL (.int i) (.int j)=decide (i=j):=by
 simp only[jL,ja,vh,HX,a3i]
 rw[a2h,beq_iff_eq,decide_eq_true_iff]
theorem uu {i j:Str}:jL (.str i) (.str j)=decide (i=j):=by
 simp only[jL,ja,vh,HX,a3i]
 rw[a2h,beq_iff_eq,decide_eq_true_iff]
theorem Qc {i j:Bool}:jL (.bl i) (.bl j)=(i==j):=by
 simp only[jL,ja,vh,HX,a3i]
theorem tj {ps qs:List PV}:jL (.tup ps) (.tup qs)=dY ps qs:=by simp only[jL]
theorem yV {ps qs:List PV}:jL (.lst ps) (.lst qs)=dY ps qs:=by simp only[jL]
theorem kM {p q:PV}{ps qs:List PV}:dY (p::ps) (q::qs)=(jL p q&&dY ps qs):=by simp only[dY]
theorem ip:dY [] []=true:=by simp only[dY]
theorem cM (us:List Nat):(af us).length=us.length:=a0i ..
theorem pZ:af []=[]:=rfl
theorem cW (x:Nat)(us:List Nat):af (x::us)=nI x::af us:=rfl
theorem D8 (us vs:List Nat):af (us++vs)=af us++af vs:=a0x
theorem Ej (us:List Nat)(i v:Nat):(af us).set i (nI v)=af (us.set i v):=by unfold af;rw[List.map_set]
theorem b9:∀us:List Nat,aJ (af us)=true
 |[]=>by simp only[af,a2o,aJ]
 |x::us=>by rw[cW,aJ,b9 us];simp only[nI,bM,Bool.and_true]
theorem eG:∀us:List Nat,cB (af us)=0
 |[]=>by simp only[af,a2o,cB]
 |x::us=>by rw[cW,cB,eG us];simp only[nI,rj,Nat.max_self]
theorem sC:∀us vs:List Nat,dY (af us) (af vs)=decide (us=vs)
 |[],[]=>by simp[af,dY]
 |[],_::_=>by simp[af,dY]
 |_::_,[]=>by simp[af,dY]
 |x::us,y::vs=>by
  rw[cW,cW,kM,sC us vs,nI,nI,o8,a2h]
  simp
  intro _
  omega
theorem eY {n x:Nat}(h:x<n):sM n (x:Int)=some x:=by
 unfold sM
 rw[if_pos (by omega),if_pos (by omega),a1o]
theorem eU {ps:List PV}{x:Nat}{p:PV}(h:ps[x]?=some p):L2.c6 ps (x:Int)=some p:=by
 unfold L2.c6
 have hx:x<ps.length:=(a0j.mp h).1
 rw[eY hx]
 exact h
theorem QU {a:PV}{l:List PV}:L2.c6 (a::l) (0:Int)=some a:=eU (x:=0) rfl
theorem QO {a b:PV}{l:List PV}:L2.c6 (a::b::l) (1:Int)=some b:=eU (x:=1) rfl
theorem RA {a b c:PV}{l:List PV}:L2.c6 (a::b::c::l) (2:Int)=some c:=eU (x:=2) rfl
theorem RC {a b c d:PV}{l:List PV}:L2.c6 (a::b::c::d::l) (3:Int)=some d:=eU (x:=3) rfl
theorem wF {us:List Nat}{x:Nat}(hx:x<us.length):(af us)[x]?=some (nI (up us x)):=by
 unfold af
 rw[a0q,a0f hx]
 simp[up,hx]
theorem au {us:List Nat}{x:Nat}(hx:x<us.length):L2.c6 (af us) (x:Int)=some (nI (up us x)):=eU (wF hx)
theorem mj (us:List Nat)(y:Nat):L2.c6 (af (us++[y])) (-1)=some (nI y):=by
 unfold L2.c6 sM
 rw[cM,a0t,if_neg (by decide),if_pos (by simp;omega)]
 have:(-1+((us.length+[y].length:Nat):Int)).toNat=us.length:=by simp;omega
 rw[this]
 show (af (us++[y]))[us.length]?=_
 rw[wF (by simp)]
 simp[up]
theorem A8 {l:List Nat}(h:l≠[]):L2.c6 (af l) (-1)=some (nI (dm l)):=by
 obtain⟨us,y,rfl⟩:∃us y,l=us++[y]:=⟨l.dropLast,l.getLast h,(a4a h).symm⟩
 rw[mj]
 simp[dm]
theorem fW (us:List Nat)(y:Nat):af us++[PV.int y]=af (us++[y]):=(D8 us [y]).symm
theorem ic (us:List Nat)(i v:Nat):(af us).set i (PV.int v)=af (us.set i v):=Ej us i v
theorem Ga (n:Nat):mV 0 n=af (a0l n):=by
 unfold mV af
 exact a1c λi _=>by rw[nI,Int.zero_add]
theorem P0 (n:Nat):mV 1 n=af ((a0l n).map (·+1)):=by
 unfold mV af
 rw[a1d]
 exact a1c λi _=>by show PV.int (1+(i:Int))=PV.int ((i+1:Nat):Int);congr 1;omega
theorem va {us:List Nat}{v:PV}(h:v∈af us):∃u∈us,v=nI u:=by
 obtain⟨u,hu,e⟩:=a1a.mp h
 exact⟨u,hu,e.symm⟩
noncomputable def iL (ns:List Int):List PV:=ns.map PV.int
theorem Cl (ns:List Int):(iL ns).length=ns.length:=a0i ..
theorem JN {n:Nat}{lo:Int}{v:PV}(h:v∈mV lo n):∃i:Int,v=.int i/\lo<=i/\i<lo+n:=by
 obtain⟨k,hk,rfl⟩:=a1a.mp h
 have:=a0z.mp hk
 exact⟨lo+k,rfl,by omega,by omega⟩
theorem zE (lo:Int)(n:Nat):(mV lo n).length=n:=by simp[mV]
theorem NP {i:Int}(h:0<=i):PV.int i=nI i.toNat:=by rw[nI,a2g h]
theorem Jc (ns:List Int)(lo hi:Option Int):m6 (iL ns) lo hi=iL (m6 ns lo hi):=by
 unfold m6 iL
 rw[a0i,a5u,List.map_drop]
theorem u7 (ns:List Nat)(lo hi:Option Int):m6 (af ns) lo hi=af (m6 ns lo hi):=by
 unfold m6 af
 rw[a0i,a5u,List.map_drop]
end Dp
namespace Fo
open PySem L2
structure Left (y:Str)(us:List Nat)(x h:Nat)(us':List Nat)(n:Nat)(l:List Nat):Prop where
 way:Way us x l
 hd:h=dm l
 st:n+1<=l.length
 st2:y ≠ "halves"->n+1=l.length
 sh:Shorter us us'
 qS:∀t,t<us.length->t∉l->up us' t=up us t
 no:y = "none"->us'=us
theorem xN {us:List Nat}(f:Fst us){t:Nat}(ht:t<us.length):(up us t=t/\up us (up us t)=t)\/(up us t≠t/\∃l,Way us (up us t) l/\up us (up us t)∈l):=by
 by_cases e:up us t=t
 ·exact .inl ⟨e,by rw[e,e]⟩
 ·obtain⟨l,w,_⟩:=f.way (f.bnd t ht)
  exact .inr ⟨e,l,w,w.closed _ w.mem_self⟩
theorem RM.left {y:Str}{us:List Nat}{x h:Nat}{us':List Nat}{n:Nat}(f:Fst us)(hx:x<us.length)(r:RM y us x h us' n):∃l,Left y us x h us' n l:=by
 have self:=Shorter.refl f
 cases r with
 |none r=>
  obtain⟨rfl,l,w,e,hn⟩:=r
  exact⟨l,w,e,by omega,λ_=>hn,self,λ_ _ _=>rfl,λ_=>rfl⟩
 |whole r=>
  obtain⟨l,w,e,hn,len,hu⟩:=r
  refine⟨l,w,e,by omega,λ_=>hn,⟨len,λt ht=>?_⟩,λt ht hm=>by rw[hu,if_neg hm],λz=>absurd z (by decide)⟩
  rw[hu]
  by_cases hm:t∈l
  ·rw[if_pos hm]
   obtain⟨l2,w2,e2,_,_⟩:=w.later t hm
   cases w2 with
   |head q=>exact .inl ⟨q,by rw[e,←e2];rfl⟩
   |step q w3=>exact .inr ⟨q,_,w3,by rw[e,←e2,cy w3.ne];exact qw w3.ne⟩
  ·rw[if_neg hm];exact self.up t ht
 |halves r=>
  obtain⟨l,w,e,hn,len,hu⟩:=r
  have pos:=w.pos
  refine⟨l,w,e,by omega,λz=>absurd rfl z,⟨len,λt ht=>?_⟩,λt ht hm=>by rw[hu,if_neg λq=>hm (nB l t q)],λz=>absurd z (by decide)⟩
  rw[hu]
  by_cases hm:t∈jU l
  ·rw[if_pos hm];exact xN f ht
  ·rw[if_neg hm];exact self.up t ht
 |splits r=>
  obtain⟨l,w,e,hn,len,hu⟩:=r
  refine⟨l,w,e,by omega,λ_=>hn,⟨len,λt ht=>?_⟩,λt ht hm=>by rw[hu,if_neg hm],λz=>absurd z (by decide)⟩
  rw[hu]
  by_cases hm:t∈l
  ·rw[if_pos hm];exact xN f ht
  ·rw[if_neg hm];exact self.up t ht
 |one r=>
  obtain⟨rfl,l,w,e,hn⟩:=r
  refine⟨l,w,e,by omega,λ_=>hn,⟨by rw[a1l],λt ht=>?_⟩,λt ht hm=>by rw[d6 hx,if_neg λq=>hm (by rw[q];exact w.mem_self)],λz=>absurd z (by decide)⟩
  rw[d6 hx]
  by_cases hm:t=x
  ·rw[if_pos hm,hm];exact xN f hx
  ·rw[if_neg hm];exact self.up t ht
theorem Lp {us vs:List Nat}(h:us.length=vs.length)(e:∀t,up us t=up vs t):us=vs:=by
 apply a4e h
 intro i h1 h2
 have:=e i
 simpa [up,h1,h2] using this
theorem RM.frst {y:Str}{us:List Nat}{x h:Nat}{us':List Nat}{n:Nat}(f:Frst us)(hx:x<us.length)(r:RM y us x h us' n):Frst us'/\us'.length=us.length:=by
 obtain⟨l,L⟩:=r.left f.fst hx
 have e:=L.sh.len
 exact⟨⟨by rw[e];exact f.one,by rw[e];exact f.most,L.sh.fst f.fst⟩,e⟩
end Fo
namespace Dp
open PySem L2 Fo
end Dp
end
section
namespace Dp
open PySem L2 Fo
noncomputable def CZ (o:Out)(u:FS):Out:=match o with
 |.nx ρ'=>u ρ'
 |o=>o
noncomputable def Bt (o:Option (List PV×PV))(i:Nat)(t:FT)(ρ:ao):Out:=match o with
 |some (ps1,p)=>IE (t p (ρ.set i (some (.own ps1))))
 |none=>.bad
noncomputable abbrev Bw:=se
noncomputable def N0 (o:Option (List PV))(t:FT)(s:FS)(ρ:ao):Out:=match o with
 |some its=>bZ t s its ρ
 |none=>.bad
noncomputable def D9 (o:Out)(t:FT)(s:FS)(ps:List PV):Out:=match o with
 |.nx ρ2=>bZ t s ps ρ2
 |.ct ρ2=>bZ t s ps ρ2
 |.bk ρ2=>.nx ρ2
 |o=>o
noncomputable def De (o:Option ao)(t:FT)(s:FS)(ps:List PV):Out:=match o with
 |some ρ=>D9 (s ρ) t s ps
 |none=>.bad
theorem eN {t:FT}{s:FS}{p:PV}{ps:List PV}{ρ:ao}:bZ t s (p::ps) ρ=De (t p ρ) t s ps:=Eq.trans rfl rfl
noncomputable def OI (o:Out)(c:FB)(s:FS)(n:Nat):Out:=match o with
 |.nx ρ2=>b7 c s n ρ2
 |.ct ρ2=>b7 c s n ρ2
 |.bk ρ2=>.nx ρ2
 |o=>o
noncomputable def Qx (o:Option Bool)(c:FB)(s:FS)(n:Nat)(ρ:ao):Out:=match o with
 |some true=>OI (s ρ) c s n
 |some false=>.nx ρ
 |none=>.bad
theorem dP {c:FB}{s:FS}{n:Nat}{ρ:ao}:b7 c s (n+1) ρ=Qx (c ρ) c s n ρ:=Eq.trans rfl rfl
theorem EN {s:Option Sl}{i:Nat}{ρ:ao}:frz (i+1) (s::ρ)=s::frz i ρ:=by
 unfold frz
 rw[a3o]
 split<;>simp_all
theorem n5 {r:RV}{rs:List RV}:(r::rs).mapM RV.fr=r.fr.bind λp=>(rs.mapM RV.fr).bind λps=>some (p::ps):=by
 rw[a5l];rfl
theorem IJ {s u:FS}{ρ:ao}:aj s u ρ=CZ (s ρ) u:=Eq.trans rfl rfl
theorem uc {t:FT}{s:FS}{ps:List PV}{ρ:ao}:D9 (.nx ρ) t s ps=bZ t s ps ρ:=Eq.trans rfl rfl
theorem ut {t:FT}{s:FS}{ps:List PV}{ρ:ao}:De (some ρ) t s ps=D9 (s ρ) t s ps:=Eq.trans rfl rfl
theorem iV {t:FT}{s:FS}{ρ:ao}:bZ t s [] ρ=.nx ρ:=Eq.trans rfl rfl
theorem oU {c:FB}{s:FS}{n:Nat}{ρ:ao}:OI (.nx ρ) c s n=b7 c s n ρ:=Eq.trans rfl rfl
theorem Dt {c:FB}{s:FS}{n:Nat}{ρ:ao}:Qx (some true) c s n ρ=OI (s ρ) c s n:=Eq.trans rfl rfl
theorem Bz {c:FB}{s:FS}{n:Nat}{ρ:ao}:Qx (some false) c s n ρ=.nx ρ:=Eq.trans rfl rfl
theorem sy {u:FS}{ρ:ao}:CZ (.nx ρ) u=u ρ:=Eq.trans rfl rfl
theorem rY {u:FS}{p:PV}{ρ:ao}:CZ (.rt p ρ) u=.rt p ρ:=Eq.trans rfl rfl
theorem B3 {ρ:ao}:br ρ=.nx ρ:=Eq.trans rfl rfl
theorem Cw {f:FE}{ρ:ao}:fM f ρ=y8 (f ρ) ρ:=Eq.trans rfl rfl
theorem r9 {p:PV}{ρ:ao}:y8 (some (.fz p)) ρ=.nx ρ:=Eq.trans rfl rfl
theorem IK {f:FE}{ρ:ao}:bv f ρ=CC (f ρ) ρ:=Eq.trans rfl rfl
theorem wc {p:PV}{ρ:ao}:CC (some (.fz p)) ρ=.rt p ρ:=Eq.trans rfl rfl
theorem uP {p:List PV}{ρ:ao}:CC (some (.nw p)) ρ=.rn p ρ:=Eq.trans rfl rfl
theorem xD {i:Nat}{ρ:ao}:jT i ρ=u8 (sl ρ i) ρ:=Eq.trans rfl rfl
theorem p8 {p:PV}{ρ:ao}:u8 (some (.val p)) ρ=.rt p ρ:=Eq.trans rfl rfl
theorem wo {p:List PV}{ρ:ao}:u8 (some (.own p)) ρ=.rn p ρ:=Eq.trans rfl rfl
theorem NV {g:FB}{s u:FS}{ρ:ao}:ig g s u ρ=Ol (g ρ) s u ρ:=Eq.trans rfl rfl
theorem CT {s u:FS}{ρ:ao}:Ol (some true) s u ρ=s ρ:=Eq.trans rfl rfl
theorem Bp {s u:FS}{ρ:ao}:Ol (some false) s u ρ=u ρ:=Eq.trans rfl rfl
theorem HL {i:Nat}{f:FE}{ρ:ao}:bu i f ρ=GU ((f ρ).bind RV.fr) i ρ:=Eq.trans rfl rfl
theorem Aj {i:Nat}{p:PV}{ρ:ao}:GU (some p) i ρ=.nx (ρ.set i (some (.val p))):=Eq.trans rfl rfl
theorem HS {i:Nat}{f:FE}{ρ:ao}:jx i f ρ=Gy (f ρ) i ρ:=Eq.trans rfl rfl
theorem uV {i:Nat}{p:List PV}{ρ:ao}:Gy (some (.nw p)) i ρ=.nx (ρ.set i (some (.own p))):=Eq.trans rfl rfl
theorem I3 {f:FE}{t:FT}{ρ:ao}:fS f t ρ=Ht ((f ρ).bind RV.fr) t ρ:=Eq.trans rfl rfl
theorem zw {p:PV}{t:FT}{ρ:ao}:Ht (some p) t ρ=IE (t p ρ):=Eq.trans rfl rfl
theorem EA {ρ:ao}:IE (some ρ)=.nx ρ:=Eq.trans rfl rfl
theorem IS {i j:Nat}{fs:FA}{ρ:ao}:pQ i j fs ρ=E1 ((fs ρ).bind λrs=>rs.mapM RV.fr) i j ρ:=Eq.trans rfl rfl
theorem Ac {i j:Nat}{p q:PV}{ρ:ao}:E1 (some [p,q]) i j ρ=.nx ((ρ.set i (some (.val p))).set j (some (.val q))):=Eq.trans rfl rfl
theorem Il {i:Nat}{s:FS}{ρ:ao}:Ge i s ρ=s (frz i ρ):=Eq.trans rfl rfl
theorem Ii {g:Int->Int->Int}{i:Nat}{f:FE}{ρ:ao}:oS g i f ρ=Gi g (sl ρ i) ((f ρ).bind RV.fr) i ρ:=Eq.trans rfl rfl
theorem zg {g:Int->Int->Int}{i:Nat}{a b:Int}{ρ:ao}:Gi g (some (.val (.int a))) (some (.int b)) i ρ=.nx (ρ.set i (some (.val (.int (g a b))))):=Eq.trans rfl rfl
theorem OE {g:GM}{i:Nat}{fs:FA}{ρ:ao}:vB g i fs ρ=HD (K8 g (sl ρ i) ((fs ρ).bind λrs=>rs.mapM RV.fr)) i ρ:=Eq.trans rfl rfl
theorem bD {g:GM}{j i:Nat}{fs:FA}{ρ:ao}:xV g j i fs ρ=F2 (K8 g (sl ρ i) ((fs ρ).bind λrs=>rs.mapM RV.fr)) j i ρ:=Eq.trans rfl rfl
theorem BO {g:GM}{t:Sl}{ps:List PV}:K8 g (some t) (some ps)=g t ps:=Eq.trans rfl rfl
theorem yI {t:Sl}{p:PV}{i:Nat}{ρ:ao}:HD (some (t,p)) i ρ=.nx (ρ.set i (some t)):=Eq.trans rfl rfl
theorem aI {t:Sl}{p:PV}{j i:Nat}{ρ:ao}:F2 (some (t,p)) j i ρ=.nx ((ρ.set i (some t)).set j (some (.val p))):=Eq.trans rfl rfl
theorem Ey {ps:List PV}{q:PV}:mr (.own ps) [q]=if ps.length<=100000 then some (.own (ps++[q]),.non) else none:=Eq.trans rfl rfl
theorem zj {tab:List (Str×ma)}{j i:Nat}{fs:FA}{t:FT}{ρ:ao}:pF tab j i fs t ρ=pO (Ny tab (sl ρ j)) (sl ρ i) ((fs ρ).bind λrs=>rs.mapM RV.fr) i t ρ:=Eq.trans rfl rfl
theorem CN {tab:List (Str×ma)}{x:Str}:Ny tab (some (.val (.fn x)))=tab.lookup x:=Eq.trans rfl rfl
theorem wB {F:ma}{ps qs:List PV}{i:Nat}{t:FT}{ρ:ao}:pO (some F) (some (.own ps)) (some qs) i t ρ=Bt (F ps qs) i t ρ:=Eq.trans rfl rfl
theorem rH {ps:List PV}{p:PV}{i:Nat}{t:FT}{ρ:ao}:Bt (some (ps,p)) i t ρ=IE (t p (ρ.set i (some (.own ps)))):=Eq.trans rfl rfl
theorem bQ {g:PV->List PV->Option RV}{fo:FE}{fs:FA}{ρ:ao}:vU g fo fs ρ=(fo ρ).bind λx=>(fs ρ).bind λrs=>g x.pv (rs.map RV.pv):=Eq.trans rfl rfl
theorem aZ {ks:List cR}{ps:List PV}{k:PV}:mh (.dct ks ps) [k]=(fJ k).map λk=>.fz ((mx ks ps k).getD .non):=Eq.trans rfl rfl
theorem aL {x:Str}:fJ (.str x)=some (.inr x):=Eq.trans rfl rfl
theorem aK {i:Int}:fJ (.int i)=some (.inl i):=Eq.trans rfl rfl
theorem Dk {tab:List (Str×Fn)}{j:Nat}{fs:FA}{ρ:ao}:pA tab j fs ρ=(fs ρ).bind λrs=>tW tab (sl ρ j) (rs.mapM RV.fr) rs:=Eq.trans rfl rfl
theorem Fy {tab:List (Str×Fn)}{x:Str}{o:Option (List PV)}{rs:List RV}:tW tab (some (.val (.fn x))) o rs=(tab.lookup x).bind λF=>qz F o rs:=Eq.trans rfl rfl
theorem C0 {ks:List cR}{ps:List PV}{x:Str}:bE (.dct ks ps) (.str x)=(mx ks ps (.inr x)).map .fz:=Eq.trans rfl rfl
theorem B9 {ks:List cR}{ps:List PV}{x:Str}:zk (.str x) (.dct ks ps)=some (.fz (.bl (mx ks ps (.inr x)).isSome)):=Eq.trans rfl rfl
theorem IB {j:Nat}{fi f:FE}{ρ:ao}:lW j fi f ρ=Hl ((f ρ).bind RV.fr) (sl ρ j) ((fi ρ).bind RV.fr) j ρ:=Eq.trans rfl rfl
theorem zx {v:PV}{ps:List PV}{k:Int}{j:Nat}{ρ:ao}:Hl (some v) (some (.own ps)) (some (.int k)) j ρ=Ar (sM ps.length k) v ps j ρ:=Eq.trans rfl rfl
theorem zJ {v:PV}{ps:List PV}{n j:Nat}{ρ:ao}:Ar (some n) v ps j ρ=.nx (ρ.set j (some (.own (ps.set n v)))):=Eq.trans rfl rfl
theorem HR {it:FI}{t:FT}{s:FS}{ρ:ao}:j5 it t s ρ=N0 (it ρ) t s ρ:=Eq.trans rfl rfl
theorem zt {its:List PV}{t:FT}{s:FS}{ρ:ao}:N0 (some its) t s ρ=bZ t s its ρ:=Eq.trans rfl rfl
theorem yi {c:FB}{s:FS}{ρ:ao}:ff c s ρ=b7 c s 10000 ρ:=Eq.trans rfl rfl
theorem wz {ρ:ao}:Out.res (.nx ρ)=some (.v .non):=Eq.trans rfl rfl
theorem vP {p:PV}{ρ:ao}:Out.res (.rt p ρ)=some (.v p):=Eq.trans rfl rfl
theorem uW {p:List PV}{ρ:ao}:Out.res (.rn p ρ)=some (.n p):=Eq.trans rfl rfl
theorem rO {p:PV}{ρ:ao}:Out.res2 (.rt p ρ)=some (.v p,ρ):=Eq.trans rfl rfl
theorem Ec {p:PV}{ps:List PV}{ρ:ao}:mP (some (.v p,some (.own ps)::ρ))=some (ps,p):=Eq.trans rfl rfl
theorem Pw {i:Nat}{ρ:ao}:fV i ρ=(sl ρ i).map ur:=Eq.trans rfl rfl
theorem IX {s:Option Sl}{ρ:ao}:sl (s::ρ) 0=s:=Eq.trans rfl rfl
theorem H6 {s:Option Sl}{i:Nat}{ρ:ao}:sl (s::ρ) (i+1)=sl ρ i:=Eq.trans rfl rfl
theorem wu {p:PV}:ur (.val p)=.fz p:=Eq.trans rfl rfl
theorem vc {p:List PV}:ur (.own p)=.ln (.lst p):=Eq.trans rfl rfl
theorem QJ {p:PV}{ρ:ao}:fC p ρ=some (.fz p):=Eq.trans rfl rfl
theorem M8 {g:PV->PV->Option RV}{a b:FE}{ρ:ao}:ak g a b ρ=(a ρ).bind λx=>(b ρ).bind λy=>g x.pv y.pv:=Eq.trans rfl rfl
theorem yS {p:PV}:RV.pv (.fz p)=p:=Eq.trans rfl rfl
theorem yd {p:List PV}:RV.pv (.nw p)=.lst p:=Eq.trans rfl rfl
theorem zM {p:PV}:RV.pv (.ln p)=p:=Eq.trans rfl rfl
theorem yQ {p:PV}:RV.fr (.fz p)=some p:=Eq.trans rfl rfl
theorem Af {p:List PV}:RV.fr (.nw p)=some (.lst p):=Eq.trans rfl rfl
theorem Au {p:PV}:RV.fr (.ln p)=none:=Eq.trans rfl rfl
theorem QV {f:FE}{ρ:ao}:fT f ρ=Ba (f ρ):=Eq.trans rfl rfl
theorem Ie {b:Bool}:Ba (some (.fz (.bl b)))=some b:=Eq.trans rfl rfl
theorem CV {g:FB}{ρ:ao}:eQ g ρ=(g ρ).map λb=>!b:=Eq.trans rfl rfl
theorem BN {g k:FB}{ρ:ao}:jV g k ρ=(g ρ).bind λb=>if b=true then k ρ else some false:=Eq.trans rfl rfl
theorem HW {g k:FB}{ρ:ao}:oQ g k ρ=(g ρ).bind λb=>if b=true then some true else k ρ:=Eq.trans rfl rfl
theorem HU {f:FE}{ρ:ao}:oT f ρ=(f ρ).bind λr=>r.fr.map .fz:=Eq.trans rfl rfl
theorem DT {f g:FE}{ρ:ao}:iO f g ρ=(Ba (f ρ)).bind λb=>if b=true then oT g ρ else some (.fz (.bl false)):=Eq.trans rfl rfl
theorem Ib {f g:FE}{ρ:ao}:Hs f g ρ=(Ba (f ρ)).bind λb=>if b=true then some (.fz (.bl true)) else oT g ρ:=Eq.trans rfl rfl
theorem BL {f:FE}{ρ:ao}:zq f ρ=(Ba (f ρ)).map λb=>.fz (.bl (!b)):=Eq.trans rfl rfl
theorem IP {f:FE}{ρ:ao}:pS f ρ=(f ρ).bind λr=>Gw r.fr:=Eq.trans rfl rfl
theorem yu {i:Int}:Gw (some (.int i))=some (.fz (.int (-i))):=Eq.trans rfl rfl
theorem Ij {g:FB}{f k:FE}{ρ:ao}:MT g f k ρ=(g ρ).bind λb=>if b=true then oT f ρ else oT k ρ:=Eq.trans rfl rfl
theorem N4 {g g':PV->PV->Option RV}{a b c:FE}{ρ:ao}:II g g' a b c ρ=(a ρ).bind λx=>(b ρ).bind λy=>(Ba (g x.pv y.pv)).bind λk=>if k=true then (c ρ).bind λz=>g' y.pv z.pv else some (.fz (.bl false)):=Eq.trans rfl rfl
theorem H0 {ρ:ao}:ah ρ=some []:=Eq.trans rfl rfl
theorem Ct {f:FE}{fs:FA}{ρ:ao}:aa f fs ρ=(f ρ).bind λr=>(fs ρ).bind λrs=>some (r::rs):=Eq.trans rfl rfl
theorem qD  : ([]:List RV).mapM RV.fr=some []:=Eq.trans rfl rfl
theorem IT {fs:FA}{ρ:ao}:ck fs ρ=(fs ρ).bind λrs=>(rs.mapM RV.fr).bind λps=>if ps.length<=100000 then some (.fz (.tup ps)) else none:=Eq.trans rfl rfl
theorem Ir {fs:FA}{ρ:ao}:gU fs ρ=(fs ρ).bind λrs=>(rs.mapM RV.fr).bind λps=>if ps.length<=100000 then some (.nw ps) else none:=Eq.trans rfl rfl
theorem zP {i j:Int}:cH (.int i) (.int j)=some (.fz (.int (i+j))):=Eq.trans rfl rfl
theorem Aw {ps qs:List PV}:cH (.lst ps) (.lst qs)=if ps.length+qs.length<=100000 then some (.nw (ps++qs)) else none:=Eq.trans rfl rfl
theorem Ad {ps qs:List PV}:cH (.tup ps) (.tup qs)=if ps.length+qs.length<=100000 then some (.fz (.tup (ps++qs))) else none:=Eq.trans rfl rfl
theorem zZ {i j:Int}:xT (.int i) (.int j)=some (.fz (.int (i - j))):=Eq.trans rfl rfl
theorem zX {i j:Int}:iI (.int i) (.int j)=if (i.natAbs<2 ^ 64)\/(j.natAbs<2 ^ 64) then some (.fz (.int (i * j))) else none:=Eq.trans rfl rfl
theorem zU {i j:Int}:kY (.int i) (.int j)=if 0<j/\j<1073741824 then some (.fz (.int (i / j))) else none:=Eq.trans rfl rfl
theorem Al {i j:Int}:b6 (.int i) (.int j)=if 0<j then some (.fz (.int (i % j))) else none:=Eq.trans rfl rfl
theorem y0 {i j:Int}:J7 (.int i) (.int j)=if 0<=j/\j<=1000000/\i.natAbs<2 ^ 64 then some (.fz (.int (i ^ j.toNat))) else none:=Eq.trans rfl rfl
theorem Ee {i j:Int}:Mb (.int i) (.int j)=some (.fz (.bl (decide (i<j)))):=Eq.trans rfl rfl
theorem B4 {i j:Int}:K7 (.int i) (.int j)=some (.fz (.bl (decide (i<=j)))):=Eq.trans rfl rfl
theorem C8 {i j:Int}:Mk (.int i) (.int j)=some (.fz (.bl (decide (j<i)))):=Eq.trans rfl rfl
theorem Da {i j:Int}:M9 (.int i) (.int j)=some (.fz (.bl (decide (j<=i)))):=Eq.trans rfl rfl
theorem CW {x y:PV}:mc x y=if bM x&&bM y&&decide (rj x<=50) then some (.fz (.bl (jL x y))) else none:=Eq.trans rfl rfl
theorem Cm {x y:PV}:nA x y=if bM x&&bM y&&decide (rj x<=50) then some (.fz (.bl (!jL x y))) else none:=Eq.trans rfl rfl
theorem CL {x:PV}{ps:List PV}:zk x (.tup ps)=if bM x&&aJ ps&&decide (cB ps<=50) then some (.fz (.bl (pin x ps))) else none:=Eq.trans rfl rfl
theorem Eg {x:PV}:Bm x .non=some (.fz (.bl (kr x))):=Eq.trans rfl rfl
theorem rX {x:PV}:pY x .non=some (.fz (.bl (!kr x))):=Eq.trans rfl rfl
theorem DJ {ps:List PV}{i:Int}:bE (.tup ps) (.int i)=(L2.c6 ps i).map .fz:=Eq.trans rfl rfl
theorem Br {ps:List PV}{i:Int}:bE (.lst ps) (.int i)=(L2.c6 ps i).map .fz:=Eq.trans rfl rfl
theorem EB {ps:List PV}{i:Int}:bE (.src ps) (.int i)=(L2.c6 ps i).map .fz:=Eq.trans rfl rfl
theorem IV {g:PV->Option Int->Option Int->Option RV}{f:FE}{l h:FO}{ρ:ao}:GY g f l h ρ=(f ρ).bind λr=>(l ρ).bind λlo=>(h ρ).bind λhi=>g r.pv lo hi:=Eq.trans rfl rfl
theorem DR {ps:List PV}{l h:Option Int}:zI (.tup ps) l h=some (.fz (.tup (m6 ps l h))):=Eq.trans rfl rfl
theorem Mt {ρ:ao}:xL ρ=some none:=Eq.trans rfl rfl
theorem MF {f:FE}{ρ:ao}:xc f ρ=(f ρ).bind λr=>O6 r.fr:=Eq.trans rfl rfl
theorem Ci {i:Int}:O6 (some (.int i))=some (some i):=Eq.trans rfl rfl
theorem EC {ps:List PV}{l h:Option Int}:Mh (.lst ps) l h=some (.nw (m6 ps l h)):=Eq.trans rfl rfl
theorem Ex {ps:List PV}{l h:Option Int}:Mh (.src ps) l h=some (.nw (m6 ps l h)):=Eq.trans rfl rfl
theorem EJ {ps:List PV}{l h:Option Int}:Mh (.tup ps) l h=if HT.sIx ps.length 0 l=0/\HT.sIx ps.length ps.length h=ps.length then none else some (.fz (.tup (m6 ps l h))):=Eq.trans rfl rfl
theorem QF {g:List PV->Option RV}{fs:FA}{ρ:ao}:fB g fs ρ=(fs ρ).bind λrs=>g (rs.map RV.pv):=Eq.trans rfl rfl
theorem yz {ps:List PV}:j2 [.lst ps]=some (.fz (.int ps.length)):=Eq.trans rfl rfl
theorem zF {ps:List PV}:j2 [.tup ps]=some (.fz (.int ps.length)):=Eq.trans rfl rfl
theorem zh {ps:List PV}:j2 [.src ps]=some (.fz (.int ps.length)):=Eq.trans rfl rfl
theorem yt {i:Int}:Hz [.int i]=some (.fz (.int (if i<0 then -i else i))):=Eq.trans rfl rfl
theorem zG {i j:Int}:vg [.int i,.int j]=some (.fz (.int (if j > i then j else i))):=Eq.trans rfl rfl
theorem zv {i j:Int}:pz [.int i,.int j]=some (.fz (.int (if j<i then j else i))):=Eq.trans rfl rfl
theorem yj {b:Bool}:A7 [.bl b]=some (.fz (.int (if b then 1 else 0))):=Eq.trans rfl rfl
theorem yy {ps:List PV}:Cs [.lst ps]=(Jy ps).map λbs=>.fz (.bl (bs.any id)):=Eq.trans rfl rfl
theorem zA {ps:List PV}:kZ [.lst ps]=some (.fz (.tup ps)):=Eq.trans rfl rfl
theorem Ch {lo j:Int}:lA [.rng lo j]=if lo=0/\0<=j/\j<=1000000 then some (.nw (mV 0 j.toNat)) else none:=Eq.trans rfl rfl
theorem wv {ps:List PV}:lA [.tup ps]=some (.nw ps):=Eq.trans rfl rfl
theorem EX {j:Int}:AC [.int j]=if -(2 ^ 62)<=j/\j<2 ^ 62 then some (.fz (.rng 0 j)) else none:=Eq.trans rfl rfl
theorem pM {ps:List PV}:kS [.lst ps]=(lQ ps).bind λks=>if ps.length<64 then some (.nw ((oH ks).map λi=>ps.getD i .non)) else none:=Eq.trans rfl rfl
theorem B5 {F:List PV->Option PR}{fs:FA}{ρ:ao}:aq F fs ρ=(fs ρ).bind λrs=>qz F (rs.mapM RV.fr) rs:=Eq.trans rfl rfl
theorem wm {F:List PV->Option PR}{ps:List PV}{rs:List RV}:qz F (some ps) rs=(F ps).map tP:=Eq.trans rfl rfl
theorem uO {F:List PV->Option PR}{rs:List RV}:qz F none rs=(F (rs.map RV.pv)).bind λr=>if P3 r=true then some (tP r) else none:=Eq.trans rfl rfl
theorem CP {p:PV}:tP (.v p)=.fz p:=Eq.trans rfl rfl
theorem BM {p:List PV}:tP (.n p)=.nw p:=Eq.trans rfl rfl
theorem yO {p:PV}:P3 (.v p)=tf p:=Eq.trans rfl rfl
theorem N8 {f:FE}{ρ:ao}:qE f ρ=(f ρ).bind λr=>r.fr.bind items:=Eq.trans rfl rfl
theorem rR {ps:List PV}:items (.tup ps)=some ps:=Eq.trans rfl rfl
theorem sa {ps:List PV}:items (.lst ps)=some ps:=Eq.trans rfl rfl
theorem Ik {g:List PV->Option (List PV)}{fs:FA}{ρ:ao}:jY g fs ρ=(fs ρ).bind λrs=>g (rs.map RV.pv):=Eq.trans rfl rfl
theorem Ki {j:Int}:mU [.int j]=if zy j then some (mV 0 j.toNat) else none:=Eq.trans rfl rfl
theorem I9 {i j:Int}:Cz [.int i,.int j]=if zy i&&zy j then some (mV i (j - i).toNat) else none:=Eq.trans rfl rfl
theorem Iu {f:FE}{ρ:ao}:A5 f ρ=(f ρ).bind λr=>Gv r.pv:=Eq.trans rfl rfl
theorem yY {ps:List PV}:Gv (.tup ps)=some (.fz (.tup ps.reverse)):=Eq.trans rfl rfl
theorem Eu {ps:List PV}:zo [.lst ps]=(dJ ps).bind λis=>if is.length=0 then none else some (.fz (.int (lP is))):=Eq.trans rfl rfl
theorem Dy {ps:List PV}:Fi [.lst ps]=(dJ ps).bind λis=>some (.fz (.int is.sum)):=Eq.trans rfl rfl
theorem D3 {fs:FA}{ρ:ao}:ox fs ρ=(fs ρ).bind λrs=>(rs.mapM RV.fr).bind se:=Eq.trans rfl rfl
theorem wy {ps:List PV}:se [.lst ps]=some (eS 0 ps):=Eq.trans rfl rfl
theorem wg {ps:List PV}:se [.tup ps]=some (eS 0 ps):=Eq.trans rfl rfl
theorem NM {i:Nat}{p:PV}{ρ:ao}:gN i p ρ=some (ρ.set i (some (.val p))):=Eq.trans rfl rfl
theorem NN {ρ:ao}:g0 [] ρ=some ρ:=Eq.trans rfl rfl
theorem MK {t:FT}{ts:AE}{p:PV}{ps:List PV}{ρ:ao}:gC t ts (p::ps) ρ=(t p ρ).bind λρ'=>ts ps ρ':=Eq.trans rfl rfl
theorem HK {n:Nat}{ts:AE}{ps:List PV}{ρ:ao}:iH n ts (.tup ps) ρ=if ps.length=n then ts ps ρ else none:=Eq.trans rfl rfl
theorem BJ {fm:List (Option Nat)}{it:FI}{t:FT}{c:FB}{f:FE}{ρ:ao}:cQ fm it t c f ρ=(it ρ).bind λits=>if its.length<1000 then (m8 t c f (iJ fm ρ) its).map .nw else none:=Eq.trans rfl rfl
theorem sP {ρ:ao}:iJ [] ρ=[]:=Eq.trans rfl rfl
theorem pB {fm:List (Option Nat)}{ρ:ao}:iJ (none::fm) ρ=none::iJ fm ρ:=Eq.trans rfl rfl
theorem qy {j:Nat}{fm:List (Option Nat)}{ρ:ao}:iJ (some j::fm) ρ=sl ρ j::iJ fm ρ:=Eq.trans rfl rfl
theorem Do {s v:Option Sl}{ρ:ao}:List.set (s::ρ) 0 v=v::ρ:=Eq.trans rfl rfl
theorem By {s v:Option Sl}{i:Nat}{ρ:ao}:List.set (s::ρ) (i+1) v=s::List.set ρ i v:=Eq.trans rfl rfl
theorem yn {p:PV}{n:String}{b:Bool}(hn:n = "int"\/n = "bool"\/n = "str"\/n = "tuple"\/n = "list"\/n = "dict")(h:O9 n p=some b):ua [p,.ty n]=some (.fz (.bl b)):=by
 show (if n = "int"\/n = "bool"\/n = "str"\/n = "tuple"\/n = "list"\/n = "dict" then (O9 n p).map λb=>RV.fz (.bl b) else none)=_
 rw[if_pos hn,h];rfl
theorem mQ {i:Int}:ua [(.int i),.ty "int"]=some (.fz (.bl true)):=yn (by decide) rfl
theorem lg {i:Int}:ua [(.int i),.ty "bool"]=some (.fz (.bl false)):=yn (by decide) rfl
theorem kx {i:List PV}:ua [(.tup i),.ty "tuple"]=some (.fz (.bl true)):=yn (by decide) rfl
theorem mJ {i:Str}:ua [(.str i),.ty "str"]=some (.fz (.bl true)):=yn (by decide) rfl
theorem nS {α β:Type}{a:α}{f:α->Option β}:((some a).bind f)=f a:=Eq.trans rfl rfl
theorem nV {α β:Type}{f:α->Option β}:((none:Option α).bind f)=none:=Eq.trans rfl rfl
theorem pN {α β:Type}{a:α}{f:α->β}:((some a).map f)=some (f a):=Eq.trans rfl rfl
theorem LM {α β:Type}{f:α->β}:((none:Option α).map f)=none:=Eq.trans rfl rfl
theorem pD {α β:Type}{a:α}{l:List α}{f:α->β}:((a::l).map f)=f a::l.map f:=Eq.trans rfl rfl
theorem sL {α β:Type}{f:α->β}:(([]:List α).map f)=[]:=Eq.trans rfl rfl
theorem sN {α:Type}{l:List α}:([]++l)=l:=Eq.trans rfl rfl
theorem pk {α:Type}{a:α}{l m:List α}:((a::l)++m)=a::(l++m):=Eq.trans rfl rfl
theorem qk {α:Type}{a:α}{l:List α}:((a::l).length)=l.length+1:=Eq.trans rfl rfl
theorem sn {α:Type}:(([]:List α).length)=0:=Eq.trans rfl rfl
theorem EH {α:Type}{a b:α}:((if True then a else b))=a:=Eq.trans rfl rfl
theorem BQ {α:Type}{a b:α}:((if False then a else b))=b:=Eq.trans rfl rfl
theorem Ph {α:Type}{a b:α}:((if true=true then a else b))=a:=Eq.trans rfl rfl
theorem za {α:Type}{a b:α}:((if false=true then a else b))=b:=Eq.trans rfl rfl
theorem rZ {α:Type}{a:α}{l:List α}:((a::l).isEmpty)=false:=Eq.trans rfl rfl
theorem rL {α:Type}:(([]:List α).isEmpty)=true:=Eq.trans rfl rfl
theorem ID  : (bM .non)=true:=Eq.trans rfl rfl
theorem Jh {b:Bool}:(bM (.bl b))=true:=Eq.trans rfl rfl
theorem n6 {b:Int}:(bM (.int b))=true:=Eq.trans rfl rfl
theorem oe {b:Str}:(bM (.str b))=true:=Eq.trans rfl rfl
theorem Mm  : (rj .non)=0:=Eq.trans rfl rfl
theorem OF {b:Bool}:(rj (.bl b))=0:=Eq.trans rfl rfl
theorem sV {b:Int}:(rj (.int b))=0:=Eq.trans rfl rfl
theorem sG {b:Str}:(rj (.str b))=0:=Eq.trans rfl rfl
theorem No {n:Nat}:(nI n)=PV.int n:=Eq.trans rfl rfl
theorem zr  : (kr .non)=true:=Eq.trans rfl rfl
theorem Me {i:Int}:(kr (.int i))=false:=Eq.trans rfl rfl
theorem Mp {i:Bool}:(kr (.bl i))=false:=Eq.trans rfl rfl
theorem r8 {i:List PV}:(kr (.tup i))=false:=Eq.trans rfl rfl
theorem Ml {i:List PV}:(kr (.lst i))=false:=Eq.trans rfl rfl
theorem Ma {i:Str}:(kr (.str i))=false:=Eq.trans rfl rfl
theorem Iz {i:Int}:(zy i)=(decide (-4611686018427387904<=i)&&decide (i<4611686018427387904)):=Eq.trans rfl rfl
theorem sU {ps:List PV}:bM (.tup ps)=aJ ps:=by rw[bM]
theorem sE {ps:List PV}:bM (.lst ps)=aJ ps:=by rw[bM]
theorem qC:aJ []=true:=by rw[aJ]
theorem qG {p:PV}{ps:List PV}:aJ (p::ps)=(bM p&&aJ ps):=by rw[aJ]
theorem zc {ps:List PV}:rj (.tup ps)=cB ps+1:=by rw[rj]
theorem Ab {ps:List PV}:rj (.lst ps)=cB ps+1:=by rw[rj]
theorem ve:cB []=0:=by rw[cB]
theorem wl {p:PV}{ps:List PV}:cB (p::ps)=max (rj p) (cB ps):=by rw[cB]
end Dp
end
local macro_rules | `(tactic| simp! [$xs,*] $[$l:location]?) => `(tactic| simp only [$xs,*, Dp.EN, Dp.n5, Dp.IJ, Dp.uc, Dp.ut, Dp.iV, Dp.oU, Dp.Dt, Dp.Bz, Dp.sy, Dp.rY, Dp.B3, Dp.Cw, Dp.r9, Dp.IK, Dp.wc, Dp.uP, Dp.xD, Dp.p8, Dp.wo, Dp.NV, Dp.CT, Dp.Bp, Dp.HL, Dp.Aj, Dp.HS, Dp.uV, Dp.I3, Dp.zw, Dp.EA, Dp.IS, Dp.Ac, Dp.Il, Dp.Ii, Dp.zg, Dp.OE, Dp.bD, Dp.BO, Dp.yI, Dp.aI, Dp.Ey, Dp.zj, Dp.CN, Dp.wB, Dp.rH, Dp.C0, Dp.B9, Dp.IB, Dp.zx, Dp.zJ, Dp.HR, Dp.zt, Dp.yi, Dp.wz, Dp.vP, Dp.uW, Dp.rO, Dp.Ec, Dp.Pw, Dp.IX, Dp.H6, Dp.wu, Dp.vc, Dp.QJ, Dp.M8, Dp.yS, Dp.yd, Dp.zM, Dp.yQ, Dp.Af, Dp.Au, Dp.QV, Dp.Ie, Dp.CV, Dp.BN, Dp.HW, Dp.HU, Dp.DT, Dp.Ib, Dp.BL, Dp.IP, Dp.yu, Dp.Ij, Dp.N4, Dp.H0, Dp.Ct, Dp.qD, Dp.IT, Dp.Ir, Dp.zP, Dp.Aw, Dp.Ad, Dp.zZ, Dp.zX, Dp.zU, Dp.Al, Dp.y0, Dp.Ee, Dp.B4, Dp.C8, Dp.Da, Dp.CW, Dp.Cm, Dp.CL, Dp.Eg, Dp.rX, Dp.DJ, Dp.Br, Dp.EB, Dp.IV, Dp.Mt, Dp.MF, Dp.Ci, Dp.EC, Dp.Ex, Dp.EJ, Dp.QF, Dp.yz, Dp.zF, Dp.zh, Dp.yt, Dp.zG, Dp.zv, Dp.yj, Dp.yy, Dp.zA, Dp.wv, Dp.pM, Dp.B5, Dp.wm, Dp.uO, Dp.CP, Dp.BM, Dp.yO, Dp.N8, Dp.rR, Dp.sa, Dp.Ik, Dp.Iu, Dp.yY, Dp.Eu, Dp.Dy, Dp.D3, Dp.wy, Dp.wg, Dp.NM, Dp.NN, Dp.MK, Dp.HK, Dp.BJ, Dp.sP, Dp.pB, Dp.qy, Dp.Do, Dp.By, Dp.mQ, Dp.lg, Dp.kx, Dp.mJ, Dp.nS, Dp.nV, Dp.pN, Dp.pD, Dp.sL, Dp.sN, Dp.pk, Dp.qk, Dp.sn, Dp.EH, Dp.BQ, Dp.za, Dp.rZ, Dp.rL, Dp.n6, Dp.oe, Dp.sV, Dp.sG, Dp.No, Dp.zr, Dp.r8, Dp.sU, Dp.sE, Dp.qC, Dp.qG, Dp.zc, Dp.Ab, Dp.ve, Dp.wl, Dp.QU, Dp.QO, Dp.o8, Dp.uu, Dp.tj, Dp.yV, Dp.kM, Dp.ip, and_true, true_and, false_and, Nat.zero_add, Bool.not_true, Bool.not_false, Bool.true_and, Bool.false_and, Bool.and_true, Nat.zero_le, decide_true, decide_false, Dp.cM, Dp.b9, Dp.eG, Nat.zero_max, Nat.max_zero, Nat.reduceAdd, Nat.reduceSub, Nat.reduceLeDiff, Nat.reduceLT, Nat.reduceEqDiff, Int.reduceLT, Int.reduceLE, Int.reduceAdd, Int.reduceSub, Int.reduceMul, Int.reduceMod, Int.reduceDiv, Int.reduceNeg, Int.reduceToNat, Int.reducePow, Int.reduceEq] $[$l:location]?)
local macro_rules | `(tactic| simp_all! [$xs,*]) => `(tactic| simp only [$xs,*, Dp.EN, Dp.n5, Dp.IJ, Dp.uc, Dp.ut, Dp.iV, Dp.oU, Dp.Dt, Dp.Bz, Dp.sy, Dp.rY, Dp.B3, Dp.Cw, Dp.r9, Dp.IK, Dp.wc, Dp.uP, Dp.xD, Dp.p8, Dp.wo, Dp.NV, Dp.CT, Dp.Bp, Dp.HL, Dp.Aj, Dp.HS, Dp.uV, Dp.I3, Dp.zw, Dp.EA, Dp.IS, Dp.Ac, Dp.Il, Dp.Ii, Dp.zg, Dp.OE, Dp.bD, Dp.BO, Dp.yI, Dp.aI, Dp.Ey, Dp.zj, Dp.CN, Dp.wB, Dp.rH, Dp.C0, Dp.B9, Dp.IB, Dp.zx, Dp.zJ, Dp.HR, Dp.zt, Dp.yi, Dp.wz, Dp.vP, Dp.uW, Dp.rO, Dp.Ec, Dp.Pw, Dp.IX, Dp.H6, Dp.wu, Dp.vc, Dp.QJ, Dp.M8, Dp.yS, Dp.yd, Dp.zM, Dp.yQ, Dp.Af, Dp.Au, Dp.QV, Dp.Ie, Dp.CV, Dp.BN, Dp.HW, Dp.HU, Dp.DT, Dp.Ib, Dp.BL, Dp.IP, Dp.yu, Dp.Ij, Dp.N4, Dp.H0, Dp.Ct, Dp.qD, Dp.IT, Dp.Ir, Dp.zP, Dp.Aw, Dp.Ad, Dp.zZ, Dp.zX, Dp.zU, Dp.Al, Dp.y0, Dp.Ee, Dp.B4, Dp.C8, Dp.Da, Dp.CW, Dp.Cm, Dp.CL, Dp.Eg, Dp.rX, Dp.DJ, Dp.Br, Dp.EB, Dp.IV, Dp.Mt, Dp.MF, Dp.Ci, Dp.EC, Dp.Ex, Dp.EJ, Dp.QF, Dp.yz, Dp.zF, Dp.zh, Dp.yt, Dp.zG, Dp.zv, Dp.yj, Dp.yy, Dp.zA, Dp.wv, Dp.pM, Dp.B5, Dp.wm, Dp.uO, Dp.CP, Dp.BM, Dp.yO, Dp.N8, Dp.rR, Dp.sa, Dp.Ik, Dp.Iu, Dp.yY, Dp.Eu, Dp.Dy, Dp.D3, Dp.wy, Dp.wg, Dp.NM, Dp.NN, Dp.MK, Dp.HK, Dp.BJ, Dp.sP, Dp.pB, Dp.qy, Dp.Do, Dp.By, Dp.mQ, Dp.lg, Dp.kx, Dp.mJ, Dp.nS, Dp.nV, Dp.pN, Dp.pD, Dp.sL, Dp.sN, Dp.pk, Dp.qk, Dp.sn, Dp.EH, Dp.BQ, Dp.za, Dp.rZ, Dp.rL, Dp.n6, Dp.oe, Dp.sV, Dp.sG, Dp.No, Dp.zr, Dp.r8, Dp.sU, Dp.sE, Dp.qC, Dp.qG, Dp.zc, Dp.Ab, Dp.ve, Dp.wl, Dp.QU, Dp.QO, Dp.o8, Dp.uu, Dp.tj, Dp.yV, Dp.kM, Dp.ip, and_true, true_and, false_and, Nat.zero_add, Bool.not_true, Bool.not_false, Bool.true_and, Bool.false_and, Bool.and_true, Nat.zero_le, decide_true, decide_false, Dp.cM, Dp.b9, Dp.eG, Nat.zero_max, Nat.max_zero])
section
namespace Dp
open PySem PySem.Spec L2 PyProof.Rows
section
variable {X:Cx}{i j:Nat}{x y:Str}{pos:Pos}
theorem Z.ok.track {z:Z X}{s:Shared}(hz:z.ok s){a:Addr}(fr:j0 z.bad z.H a)(h00:X.s₀.heap.get? a=none)(hp:∀p∈X.pn++z.pins,p.1≠a)(nt:∃ob,s.heap.get? a=some ob/\ob.cls≠.type "tuple")
  (sk:∀(j:Nat) t v,z.ρ[j]?=some (some t)->z.σ[j]?=some (some v)->SlOk (bC X z.bad (eE z.H a aW)) z.H s.heap t v):(z.wi z.σ (eE z.H a aW) z.ρ).ok s:=by
 obtain⟨ob,ho,hcl⟩:=nt
 have hnb:=fr.2
 have hne:∀{b},z.H b=some aW->b≠a:=λ{b} hb y=>by subst y;rw[fr.1] at hb;cases hb
 refine⟨Inv.track hz.I fr.1 ho h00 (λq=>hnb (q▸hz.loc)) (λy c e q=>hnb (q▸hz.cel y c e)) hp,hz.len,λj t q=>?_,hz.dj,hz.nb,λb o q=>?_,hz.oh0,hz.loc,hz.cel,hz.fs,hz.ex,hz.there,hz.bs,λb o q=>?_,hz.anc⟩
 ·obtain⟨v,e1,r,_⟩:=hz.slk j t q
  refine⟨v,e1,r,?_⟩
  have d:=sk j t v q e1
  cases t with
  |val p=>exact d
  |own ps=>obtain⟨b,rfl,hb,l⟩:=d;exact⟨b,rfl,(aX (hne hb)).trans hb,l⟩
  |dic ks ps=>obtain⟨b,rfl,hb,l⟩:=d;exact⟨b,rfl,(aX (hne hb)).trans hb,l⟩
 ·by_cases hba:b=a
  ·have q:eE z.H a aW b=some o:=q
   rw[hba,bV] at q;cases q;rfl
  ·have q:eE z.H a aW b=some o:=q
   rw[aX hba] at q;exact hz.oh b o q
 ·by_cases hba:b=a
  ·rw[hba];exact⟨hnb,ob,ho,hcl⟩
  ·have q:eE z.H a aW b=some o:=q
   rw[aX hba] at q;exact hz.ot b o q
theorem CJ {z:Z X}{s1:Shared}(hz:z.ok s1){i:Nat}{x:Str}(nm:Nm X i x){t:Sl}(ht:cw t=true){a:Addr}(hH:z.H a=some aW)(no:∀j,¬bx z.σ z.ρ j a)(h00:X.s₀.heap.get? a=none\/X.H₀ a≠none)
  (d:SlOk z.cn z.H s1.heap t (.ref a)) {E:Value->Shared->Prop} :
  W X (storeName X.env x (.ref a)) (λ_ s'=>(z.wi (z.σ.set i (some (.ref a))) z.H (z.ρ.set i (some t))).ok s'/\Ext z.bad s1.heap s'.heap) E s1:=by
 refine jo hz.I nm.nd nm.ix nm.loc (v:=.ref a) rfl (λs' I' ⟨b,sb,hb⟩=>?_) nm.fn
 have e:Ext z.bad s1.heap s'.heap:=kD (z:=z) hz I' sb hb
 have hil:i<z.σ.length:=by rw[hz.I.len];exact (a0j.mp nm.ix).1
 have hil2:i<z.ρ.length:=by rw[←hz.len];exact hil
 have oset:∀{j b},bx (z.σ.set i (some (.ref a))) (z.ρ.set i (some t)) j b->(j=i/\b=a)\/(j≠i/\bx z.σ z.ρ j b):=λ{j b} o=>by
  obtain⟨⟨t',e1,ot⟩,q⟩:=o
  by_cases hj:i=j
  ·subst hj
   rw[a0y hil] at q;cases q
   exact .inl ⟨rfl,rfl⟩
  ·rw[a0k hj] at e1 q
   exact .inr ⟨Ne.symm hj,⟨t',e1,ot⟩,q⟩
 refine⟨⟨I',by simp[hz.len],λj t' q=>?_,λj k b o1 o2=>?_,λj b o=>?_,hz.oh,hz.oh0,hz.loc,hz.cel,hz.fs,hz.ex,λb q=>let ⟨o,r⟩:=hz.there b q;e.th b o r,hz.bs,λb o q=>?_,λhf b hb=>(a0k (nm.an hf ⟨b,hb⟩)).trans (hz.anc hf b hb)⟩,e⟩
 ·by_cases hj:i=j
  ·subst hj
   have q:(z.ρ.set i (some t))[i]?=some (some t'):=q
   rw[a0y hil2] at q
   cases q
   exact⟨.ref a,a0y hil,⟨.ref a,rfl⟩,SlOk.mono (c:=z.cn) (c':=z.cn) e.kpD (λb o hb w=>e.kp b o (hz.ot b _ hb).1 w) d⟩
  ·have q:(z.ρ.set i (some t))[j]?=some (some t'):=q
   rw[a0k hj] at q
   obtain⟨w,e1,r,d⟩:=hz.slk j t' q
   exact⟨w,by rw[show (z.wi (z.σ.set i (some (.ref a))) z.H (z.ρ.set i (some t))).σ=z.σ.set i (some (.ref a)) from rfl,a0k hj];exact e1,r,d.step hz e q e1⟩
 ·rcases oset o1 with ⟨e1,e2⟩|⟨e1,e2⟩<;>rcases oset o2 with ⟨f1,f2⟩|⟨f1,f2⟩
  ·rw[e1,f1]
  ·subst e2;exact absurd f2 (no k)
  ·subst f2;exact absurd e2 (no j)
  ·exact hz.dj j k b e2 f2
 ·rcases oset o with ⟨e1,e2⟩|⟨e1,e2⟩
  ·subst e2;exact⟨(hz.ot b _ hH).1,h00⟩
  ·exact hz.nb j b e2
 ·obtain⟨r0,ob',r1,r2⟩:=hz.ot b o q
  exact⟨r0,ob',e.kp b ob' r0 r1,r2⟩
theorem Z.ok.no_own {z:Z X}{s:Shared}(hz:z.ok s){a:Addr}(n:s.heap.get? a=none)(j:Nat):¬bx z.σ z.ρ j a:=λo=>by
 obtain⟨⟨t',e1,ot⟩,q⟩:=o
 obtain⟨v,e2,_,d2⟩:=hz.slk j t' e1
 rw[q] at e2;cases e2
 have:z.H a=some aW:=by
  cases t' with
  |val p=>cases ot
  |own ps=>obtain⟨b,e3,h,_⟩:=d2;cases e3;exact h
  |dic ks ps=>obtain⟨b,e3,h,_⟩:=d2;cases e3;exact h
 obtain⟨ob,r⟩:=hz.stands this
 rw[n] at r;cases r
noncomputable def Et:RV->Option Sl
 |.fz p=>some (.val p)
 |.nw ps=>some (.own ps)
 |.ln _=>none
noncomputable def Aa (o:Option Sl)(o':Option Sl)(i j:Nat)(ρ:ao):Out:=match o,o' with
 |some s,some t=>.nx ((ρ.set i (some s)).set j (some t))
 |_,_=>.bad
noncomputable abbrev FX:=ao->Option Sl
noncomputable def wn (i j:Nat)(g1 g2:FX):FS:=λρ=>Aa (g1 ρ) (g2 ρ) i j ρ
noncomputable def xE (f:FE):FX:=λρ=>(f ρ).bind Et
noncomputable def sx (i:Nat)(g:FX):FS:=λρ=>match g ρ with
 |some t=>.nx (ρ.set i (some t))
 |none=>.bad
structure Got (z z':Z X)(s s':Shared)(t:Sl)(u:Value):Prop where
 bad:z'.bad=z.bad
 pins:z'.pins=z.pins
 σ:z'.σ=z.σ
 ρ:z'.ρ=z.ρ
 ok:z'.ok s'
 stp:Stp z.bad z.H z'.H s.heap s'.heap
 old:∀b o,z.H b=some o->z'.H b=some o
 kept:∀b o,¬z.bad b->s.heap.get? b=some o->s'.heap.get? b=some o
 sl:(cw t=false/\(∃p,t=.val p/\D z'.cn s'.heap p u))\/(cw t=true/\∃a,u=.ref a/\s.heap.get? a=none/\z'.H a=some aW/\X.s₀.heap.get? a=none/\SlOk z'.cn z'.H s'.heap t (.ref a))
noncomputable def NX (X:Cx)(e:Expr)(g:FX):Prop:=∀(z:Z X) (s:Shared) (t:Sl) (E:Value->Shared->Prop),z.ok s->g z.ρ=some t->W X (eval e X.env) (λu s'=>∃z',Got z z' s s' t u) E s
theorem Ag {z:Z X}{s s':Shared}{t:Sl}{a:Addr}(hz:z.ok s)(g:z.go s s')(ht:cw t=true)(n:s.heap.get? a=none)(nt:∃ob,s'.heap.get? a=some ob/\ob.cls≠.type "tuple")(d:SlOk (bC X z.bad (eE z.H a aW)) (eE z.H a aW) s'.heap t (.ref a)):∃z',Got z z' s s' t (.ref a):=by
 have hn:∀b o,z.H b=some o->b≠a:=λb o h y=>by subst y;obtain⟨ob,r⟩:=hz.stands h;rw[n] at r;cases r
 exact⟨z.wi z.σ (eE z.H a aW) z.ρ,rfl,rfl,rfl,rfl,g.1.track (hz.free n) (fO hz n) (λp hp q=>by have:=(hz.I.pin p hp).1;rw[q,n] at this;cases this) nt (hz.sk n g.2 λb=>.inl),Stp.new g.2 n,λb o h=>(aX (hn b o h)).trans h,λb o nb=>g.2.kp b o nb,.inr ⟨ht,a,rfl,n,bV,fO hz n,d⟩⟩
theorem Rz {z:Z X}{s s':Shared}{r:RV}{t:Sl}{u:Value}(hz:z.ok s)(p:Z.post z s r u s')(e:Et r=some t):∃z',Got z z' s s' t u:=by
 cases r with
 |ln p=>cases e
 |fz p'=>cases e;exact⟨z,rfl,rfl,rfl,rfl,p.1.1,p.1.2.stp,λ_ _ h=>h,λb o n=>p.1.2.kp b o n,.inl ⟨rfl,p',rfl,p.2⟩⟩
 |nw ps=>
  cases e
  obtain⟨g,a,rfl,n,o,l⟩:=p
  exact Ag hz g rfl n (mw l) ⟨a,rfl,bV,l⟩
theorem Oz {e:Expr}{f:FE}(h:NE X e f):NX X e (xE f):=λz s t E hz q=>by
 obtain⟨r,er,q⟩:=a0a.mp q
 exact aY (h z s r E hz er) λu s1 p=>Rz hz p q
theorem SlOk.old {c:Cn}{H H':Hp}{h:Heap}(q:∀b o,H b=some o->H' b=some o):∀{t:Sl} {v:V},SlOk c H h t v->SlOk c H' h t v
 |.val _,_,d=>d
 |.own _,_,⟨a,e,o,d⟩=>⟨a,e,q a _ o,d⟩
 |.dic _ _,_,⟨a,e,o,d⟩=>⟨a,e,q a _ o,d⟩
noncomputable def Z.ts (z:Z X)(s:Shared)(i:Nat)(t:Sl)(s':Shared):Prop:=∃v,(cw t=false\/∃a,v=V.ref a/\z.H a=some aW)/\(z.wi (z.σ.set i (some v)) z.H (z.ρ.set i (some t))).ok s'/\Ext z.bad s.heap s'.heap
theorem nG {z:Z X}{s:Shared}(hz:z.ok s){i:Nat}{x:Str}(nm:Nm X i x){p:PV}{u:Value}(d:D z.cn s.heap p u){E:Value->Shared->Prop} :
  W X (storeName X.env x u) (λ_ s'=>z.ts s i (.val p) s') E s:=by
 obtain⟨v,ru,rv⟩:=d.v
 refine jo hz.I nm.nd nm.ix nm.loc ru (λs' I' ⟨a,sb,ha⟩=>?_) nm.fn
 have e:=kD hz I' sb ha
 have hi:i<z.σ.length:=by rw[hz.I.len];exact (a0j.mp nm.ix).1
 have hi2:i<z.ρ.length:=by rw[←hz.len];exact hi
 refine⟨v,.inl rfl,⟨I',by simp[hz.len],λj t q=>?_,λj k a o1 o2=>hz.dj j k a (iS o1) (iS o2),λj a o=>hz.nb j a (iS o),hz.oh,hz.oh0,hz.loc,hz.cel,hz.fs,hz.ex,λb q=>let ⟨o,r⟩:=hz.there b q;e.th b o r,hz.bs,λa o q=>⟨(hz.ot a o q).1,let ⟨ob,r1,r2⟩:=(hz.ot a o q).2;⟨ob,e.kp a ob (hz.ot a o q).1 r1,r2⟩⟩,λhf a ha=>(a0k (nm.an hf ⟨a,ha⟩)).trans (hz.anc hf a ha)⟩,e⟩
 by_cases hj:i=j
 ·subst hj
  have q:(z.ρ.set i (some (.val p)))[i]?=some (some t):=q
  rw[a0y hi2] at q
  cases q
  exact⟨v,a0y hi,⟨u,ru⟩,λu' r=>(rv u' r).m e.kpD⟩
 ·have q:(z.ρ.set i (some (.val p)))[j]?=some (some t):=q
  rw[a0k hj] at q
  obtain⟨w,e1,r,d⟩:=hz.slk j t q
  exact⟨w,by rw[show (z.wi (z.σ.set i (some v)) z.H (z.ρ.set i (some (.val p)))).σ=z.σ.set i (some v) from rfl,a0k hj];exact e1,r,d.step hz e q e1⟩
noncomputable def Has (z:Z X)(h:Heap)(t:Sl)(u:Value):Prop:=(cw t=false/\(∃p,t=.val p/\D z.cn h p u))\/(cw t=true/\∃a,u=.ref a/\(∀j,¬bx z.σ z.ρ j a)/\z.H a=some aW/\X.s₀.heap.get? a=none/\SlOk z.cn z.H h t (.ref a))
theorem nr {z:Z X}{s:Shared}{i:Nat}{x:Str}{t:Sl}{u:Value}(hz:z.ok s)(nm:Nm X i x)(h:Has z s.heap t u){E:Value->Shared->Prop} :
  W X (storeName X.env x u) (λ_ s'=>z.ts s i t s'/\∀a,u=.ref a->cw t=true->∃v,v=V.ref a/\(z.wi (z.σ.set i (some v)) z.H (z.ρ.set i (some t))).ok s'/\Ext z.bad s.heap s'.heap) E s:=by
 rcases h with ⟨ho,p,rfl,d⟩|⟨ho,a,rfl,no,hH,h00,d⟩
 ·exact aY (nG hz nm d) λ_ s' q=>⟨q,λ_ _ h=>(by cases h)⟩
 ·exact aY (CJ hz nm ho hH no (.inl h00) d) λ_ s' ⟨ok,e⟩=>⟨⟨.ref a,.inr ⟨a,rfl,hH⟩,ok,e⟩,λb hb _=>by cases hb;exact⟨_,rfl,ok,e⟩⟩
theorem Has.ext {z:Z X}{s:Shared}{h':Heap}{t:Sl}{u:Value}(hz:z.ok s)(e:Ext z.bad s.heap h'):Has z s.heap t u->Has z h' t u
 |.inl ⟨ho,p,e1,d⟩=>.inl ⟨ho,p,e1,d.m e.kpD⟩
 |.inr ⟨ho,a,e1,no,hH,h00,d⟩=>.inr ⟨ho,a,e1,no,hH,h00,SlOk.mono (c:=z.cn) (c':=z.cn) e.kpD (λb o hb w=>e.kp b o (hz.ot b _ hb).1 w) d⟩
theorem Has.over {z:Z X}{s s':Shared}{i:Nat}{t t':Sl}{u u':Value}{v:V}(hz:z.ok s)(h:Has z s.heap t u)(hv:cw t'=true->∃a,v=.ref a/\u≠.ref a)(e:Ext z.bad s.heap s'.heap):Has (z.wi (z.σ.set i (some v)) z.H (z.ρ.set i (some t'))) s'.heap t u:=by
 rcases h.ext hz e with h|⟨ho,a,rfl,no,r⟩
 ·exact .inl h
 ·refine .inr ⟨ho,a,rfl,λj o=>?_,r⟩
  obtain⟨⟨t2,e1,ot⟩,q⟩:=o
  have e1:(z.ρ.set i (some t'))[j]?=some (some t2):=e1
  have q:(z.σ.set i (some v))[j]?=some (some (.ref a)):=q
  by_cases hj:i=j
  ·subst hj
   rw[a2d] at e1 q
   simp only[if_true] at e1 q
   split at e1
   ·cases e1
    split at q
    ·cases q
     obtain⟨b,e3,e4⟩:=hv ot
     cases e3;exact e4 rfl
    ·cases q
   ·cases e1
  ·rw[a0k hj] at e1 q
   exact no j ⟨⟨t2,e1,ot⟩,q⟩
theorem I8 {a b:Expr}{f1 f2:FX}{px py pt:Pos}{kt k2 pt2}(hc:X.calm=true)(n1:Nm X i x)(n2:Nm X j y)(hij:i≠j)(ha:NX X a f1)(hb:NX X b f2)(hs2:starEach [a,b] X.env=[(false,eval a X.env),(false,eval b X.env)])
  (hw:swappedStores [.Tuple [.Name x px,.Name y py] kt pt] (.Tuple [a,b] k2 pt2) X.env=pure (some [x,y]))
  (hs:swapsWithSole [.Tuple [.Name x px,.Name y py] kt pt] (.Tuple [a,b] k2 pt2) pos.line X.env=pure false) :
  NS X (.Assign [.Tuple [.Name x px,.Name y py] kt pt] (.Tuple [a,b] k2 pt2) pos) (wn i j f1 f2):=λz s E hz hb0=>by
 unfold wn Aa at hb0 ⊢
 split at hb0
 ·next t1 t2 e1 e2=>
  rw[exec_Assign_arm]
  refine wpAny_bind (wpAny_standAt ?_)
  rw[hs]
  refine wpAny_bind (wpAny_pure ?_)
  rw[if_neg (by decide)]
  refine wpAny_bind (Tuple_ ?_)
  rw[hs2]
  show W X (spliced ((false,eval a X.env)::(false,eval b X.env)::[])) _ _ s
  refine Calls.spliced_cons (aY (ha z s t1 E hz e1) λu1 s1 p1=>?_)
  obtain⟨⟨bad1,pins1,σ1,H1,ρ1⟩,G1⟩:=p1
  obtain⟨rfl,rfl,rfl,rfl,ok1,st1,old1,kp1,g1⟩:=G1
  refine Calls.spliced_cons (aY (hb ⟨z.bad,z.pins,z.σ,H1,z.ρ⟩ s1 t2 E ok1 e2) λu2 s2 p2=>Calls.spliced_nil ?_)
  obtain⟨⟨bad2,pins2,σ2,H2,ρ2⟩,G2⟩:=p2
  obtain⟨q1,q2,q3,q4,ok2,st2,old2,kp2,g2⟩:=G2
  cases (show bad2=z.bad from q1)
  cases (show pins2=z.pins from q2)
  cases (show σ2=z.σ from q3)
  cases (show ρ2=z.ρ from q4)
  have A1:Has (X:=X) ⟨z.bad,z.pins,z.σ,H2,z.ρ⟩ s2.heap t1 u1:=by
   rcases g1 with ⟨ho,p,rfl,d⟩|⟨ho,a',rfl,n,hH,h00,d⟩
   ·exact .inl ⟨ho,p,rfl,d.m st2.kpD⟩
   ·exact .inr ⟨ho,a',rfl,hz.no_own n,old2 _ _ hH,h00,SlOk.old old2 (SlOk.mono (c:=bC X z.bad H1) (c':=bC X z.bad H2) st2.kpD (λb o hb w=>kp2 b o (ok1.ot b _ hb).1 w) d)⟩
  have A2:Has (X:=X) ⟨z.bad,z.pins,z.σ,H2,z.ρ⟩ s2.heap t2 u2/\(cw t2=true->∃b,u2=.ref b/\u1≠.ref b\/cw t1=false):=by
   rcases g2 with ⟨ho,p,rfl,d⟩|⟨ho,a',rfl,n,hH,h00,d⟩
   ·exact⟨.inl ⟨ho,p,rfl,d⟩,λh=>by cases h⟩
   ·refine⟨.inr ⟨ho,a',rfl,λk=>ok1.no_own (z:=⟨z.bad,z.pins,z.σ,H1,z.ρ⟩) n k,hH,h00,d⟩,λ_=>⟨a',?_⟩⟩
    rcases g1 with ⟨ho,_⟩|⟨ho,a1,rfl,n1,hH1,_⟩
    ·exact .inr ho
    ·refine .inl ⟨rfl,λe=>?_⟩
     cases e
     obtain⟨ob,r⟩:=ok1.stands hH1
     rw[n] at r;cases r
  refine wpAny_newObj_type ?_ (by show 2<=sizeLine;decide)
  have g3:=ok2.push { cls:=.type "tuple",data:=.seq [u1,u2].toArray } s2.toks
  rw[hw]
  refine wpAny_bind (wpAny_pure ?_)
  show W X (do rule "assign.swapped-stores";let items ←unpackItems (.ref s2.heap.objs.size) 2 none;assignInOrder [λv=>bindName X.env y v,λv=>bindName X.env x v] items.reverse;pure Flow.next) _ _ _
  refine wpAny_bind (wpAny_rule (wpAny_bind (unpackItems_tuple (items:=#[u1,u2]) (hz.I.ok.hd hc) (IsTup.new s2.heap _) λh' hx'=>?_)))
  have g4:(Z.mk (X:=X) z.bad z.pins z.σ H2 z.ρ).go _ { s2 with heap:=h' }:=g3.1.kept (t:=s2.toks) λb o e=>hx' b o (a1j (Heap.lt_size e)) e
  have ge:=g3.trans g4
  have B1:=A1.ext ok2 ge.2
  have B2:=A2.1.ext ok2 ge.2
  show wpAny _ _ (assignInOrder [λv=>bindName X.env y v,λv=>bindName X.env x v] [u2,u1] >>= λ_=>pure Flow.next) _ _ _
  refine wpAny_bind (assignInOrder_cons (wpAny_bindName (aY (nr ge.1 n2 B2) λ_ s3 ⟨w,ww⟩=>?_)))
  obtain⟨v,ov,ok3,x3⟩:∃v,(cw t2=true->cw t1=true->∃a,v=V.ref a/\u1≠.ref a)/\(Z.mk (X:=X) z.bad z.pins (z.σ.set j (some v)) H2 (z.ρ.set j (some t2))).ok s3/\Ext z.bad h' s3.heap:=by
   cases ho:cw t2 with
   |false=>obtain⟨v,_,r⟩:=w;exact⟨v,(λh=>by cases h),r⟩
   |true=>
    obtain⟨b,q⟩:=A2.2 ho
    rcases q with ⟨rfl,q⟩|q
    ·obtain⟨v,rfl,r⟩:=ww b rfl ho
     exact⟨_,λ_ _=>⟨b,rfl,q⟩,r⟩
    ·obtain⟨v,_,r⟩:=w;exact⟨v,(λ_ h=>by rw[q] at h;cases h),r⟩
  have C1:Has (X:=X) ⟨z.bad,z.pins,z.σ.set j (some v),H2,z.ρ.set j (some t2)⟩ s3.heap t1 u1:=by
   cases ho:cw t1 with
   |false=>
    rcases B1.ext ge.1 x3 with h|⟨h,_⟩
    ·exact .inl h
    ·rw[ho] at h;cases h
   |true=>exact Has.over (u':=u2) ge.1 B1 (λh=>ov h ho) x3
  refine assignInOrder_cons (wpAny_bindName (aY (nr ok3 n1 C1) λ_ s4 ⟨⟨v1,_,ok4,x4⟩,_⟩=>assignInOrder_nil (wpAny_pure ?_)))
  rw[List.set_comm (some t1) (some t2) hij]
  exact⟨rfl,_,H2,ok4,(st1.trans st2).trans (ge.2.trans (x3.trans x4)).stp⟩
 ·exact absurd rfl hb0
theorem KM {e:Expr}{g:FX}{p':Pos}(n:Nm X i x)(h:NX X e g)(hs:swapsWith e (some (.Name x p')) pos.line X.env=pure false):NS X (.Assign [.Name x p'] e pos) (sx i g):=λz s E hz hb=>by
 unfold sx at hb ⊢
 split at hb
 ·next t et=>
  refine wpAny_Assign_Name (aY (h z s t E hz et) λu s1 ⟨⟨bad1,pins1,σ1,H1,ρ1⟩,G1⟩=>?_) hs
  obtain⟨q1,q2,q3,q4,ok1,st1,old1,kp1,g1⟩:=G1
  cases (show bad1=z.bad from q1)
  cases (show pins1=z.pins from q2)
  cases (show σ1=z.σ from q3)
  cases (show ρ1=z.ρ from q4)
  have A1:Has (X:=X) ⟨z.bad,z.pins,z.σ,H1,z.ρ⟩ s1.heap t u:=by
   rcases g1 with h|⟨ho,a',rfl,n,r⟩
   ·exact .inl h
   ·exact .inr ⟨ho,a',rfl,hz.no_own n,r⟩
  exact aY (nr ok1 n A1) λ_ s2 ⟨⟨v,_,ok2,x2⟩,_⟩=>⟨rfl,_,H1,ok2,st1.trans x2.stp⟩
 ·exact absurd rfl hb
end
noncomputable abbrev At:=cR×List PV×Addr
noncomputable def Bl (t:At):cR×Value:=(t.1,.ref t.2.2)
noncomputable def wP (g:List At)(k:cR)(v:PV)(b:Addr):List At:=
 if g.any (λt=>decide (t.1=k)) then g.map (λt=>if t.1=k then (t.1,t.2.1++[v],t.2.2) else t) else g++[(k,[v],b)]
noncomputable abbrev Gr:=cR×List PV
noncomputable def qg (g:List Gr)(k:cR)(v:PV):List Gr:=
 if g.any (λt=>decide (t.1=k)) then g.map (λt=>if t.1=k then (t.1,t.2++[v]) else t) else g++[(k,[v])]
noncomputable def BS (t:At):Gr:=(t.1,t.2.1)
theorem EV (g:List At)(k:cR):(g.map BS).any (λt=>decide (t.1=k))=g.any (λt=>decide (t.1=k)):=by rw[a3c];rfl
theorem xB (g:List At)(k:cR)(v:PV)(b:Addr):(wP g k v b).map BS=qg (g.map BS) k v:=by
 unfold wP qg
 rw[EV]
 split
 ·rw[a1d,a1d]
  refine a1c λt _=>?_
  show BS (if t.1=k then _ else _)=if t.1=k then _ else _
  split<;>rfl
 ·rw[a0x];rfl
theorem D4 (g:List Gr)(k:cR)(v:PV):(qg g k v).length<=g.length+1:=by
 unfold qg;split
 ·rw[a0i];omega
 ·rw[a0t];simp
theorem AO {g:List Gr}{k:cR}{v:PV}{m:Nat}(ha:∀t∈g,t.2.length<=m):∀t∈qg g k v,t.2.length<=m+1:=by
 unfold qg
 intro t ht
 split at ht
 ·obtain⟨u,hu,rfl⟩:=a1a.mp ht
  have:=ha u hu
  split
  ·simp;omega
  ·omega
 ·rcases a0w.mp ht with ht|ht
  ·have:=ha t ht;omega
  ·rw[a0g] at ht;subst ht;simp
section
variable {X:Cx}{d i:Nat}{x y:Str}{pos:Pos}
theorem Z.ok.mutf {z:Z X}{s:Shared}(hz:z.ok s){a:Addr}(hH:z.H a=some aW)(no:∀j,¬bx z.σ z.ρ j a){h':Heap}{tk:Nat}(k:∀b u,b≠a->s.heap.get? b=some u->h'.get? b=some u)(nt:∃ob,h'.get? a=some ob/\ob.cls≠.type "tuple") :
  z.ok { s with heap:=h',toks:=tk }/\Stp z.bad z.H z.H s.heap h'/\Kp z.cn z.cn s.heap h':=by
 obtain⟨ob,hob,hcl⟩:=nt
 have I':Inv X z.pins z.σ z.H { s with heap:=h',toks:=tk }:=by
  have:=hz.I.write (x:=a) (e:=a) (o:=aW) (h':=h') (t':=tk) (by rw[hH];exact trivial) (.inl rfl) k ⟨ob,hob⟩ ⟨trivial,⟨ob,hob⟩,λ_ _ _ _=>trivial⟩
  rwa [pP hH] at this
 have kp:Kp z.cn z.cn s.heap h':=⟨rfl,rfl,rfl,λb u q e=>⟨q,k b u (λy=>by have q1:z.H b=none:=q.1;rw[y,hH] at q1;cases q1) e⟩⟩
 have th:∀b u,s.heap.get? b=some u->∃u',h'.get? b=some u':=λb u e=>by
  by_cases hb:b=a
  ·rw[hb];exact⟨ob,hob⟩
  ·exact⟨u,k b u hb e⟩
 refine⟨⟨I',hz.len,λj t q=>?_,hz.dj,hz.nb,hz.oh,hz.oh0,hz.loc,hz.cel,hz.fs,hz.ex,λb q=>let ⟨u,r⟩:=hz.there b q;th b u r,hz.bs,λb o q=>?_,hz.anc⟩,⟨λb u n hn e=>⟨k b u (λy=>by rw[y,hH] at hn;cases hn) e,hn⟩,th⟩,kp⟩
 ·obtain⟨w,e1,r,dd⟩:=hz.slk j t q
  refine⟨w,e1,r,?_⟩
  have ne:∀b,w=.ref b->cw t=true->b≠a:=λb e3 ot y=>no j ⟨⟨t,q,ot⟩,by rw[e1,e3,y]⟩
  cases t with
  |val p=>exact λu r=>(dd u r).m kp
  |own ps=>obtain⟨b,rfl,hb,l⟩:=dd;exact⟨b,rfl,hb,l.mono kp λo w=>k b o (ne b rfl rfl) w⟩
  |dic ks ps=>obtain⟨b,rfl,hb,l⟩:=dd;exact⟨b,rfl,hb,l.mono kp λo w=>k b o (ne b rfl rfl) w⟩
 ·obtain⟨r0,u,r1,r2⟩:=hz.ot b o q
  by_cases hb:b=a
  ·rw[hb] at r0 ⊢;exact⟨r0,ob,hob,hcl⟩
  ·exact⟨r0,u,k b u hb r1,r2⟩
theorem Z.ok.letgo {z:Z X}{s:Shared}(hz:z.ok s){a:Addr}(hH:z.H a=some aW)(no:∀j,¬bx z.σ z.ρ j a):(z.wi z.σ (qS z.H a) z.ρ).ok s/\Kp z.cn (bC X z.bad (qS z.H a)) s.heap s.heap:=by
 have kp:Kp z.cn (bC X z.bad (qS z.H a)) s.heap s.heap:=⟨rfl,rfl,rfl,λb o q e=>⟨⟨gI q.1,q.2⟩,e⟩⟩
 refine⟨⟨Inv.untrack hz.I hH,hz.len,λj t q=>?_,hz.dj,hz.nb,λb o q=>?_,hz.oh0,hz.loc,hz.cel,hz.fs,hz.ex,hz.there,hz.bs,λb o q=>?_,hz.anc⟩,kp⟩
 ·obtain⟨w,e1,r,dd⟩:=hz.slk j t q
  refine⟨w,e1,r,?_⟩
  have ne:∀b,w=.ref b->cw t=true->b≠a:=λb e3 ot y=>no j ⟨⟨t,q,ot⟩,by rw[e1,e3,y]⟩
  cases t with
  |val p=>exact λu r=>(dd u r).m kp
  |own ps=>obtain⟨b,rfl,hb,l⟩:=dd;exact⟨b,rfl,(eZ (ne b rfl rfl)).trans hb,l.mono kp λ_ e=>e⟩
  |dic ks ps=>obtain⟨b,rfl,hb,l⟩:=dd;exact⟨b,rfl,(eZ (ne b rfl rfl)).trans hb,l.mono kp λ_ e=>e⟩
 ·by_cases hb:b=a
  ·have q:qS z.H a b=some o:=q
   rw[hb,iA] at q;cases q
  ·have q:qS z.H a b=some o:=q
   rw[eZ hb] at q;exact hz.oh b o q
 ·by_cases hb:b=a
  ·have q:qS z.H a b=some o:=q
   rw[hb,iA] at q;cases q
  ·have q:qS z.H a b=some o:=q
   rw[eZ hb] at q;exact hz.ot b o q
theorem Z.ok.hide {z:Z X}{s:Shared}(hz:z.ok s){a:Addr}(o:bx z.σ z.ρ d a):(z.wi z.σ z.H (z.ρ.set d none)).ok s/\∀j,¬bx z.σ (z.ρ.set d none) j a:=by
 have own:∀{j b},bx z.σ (z.ρ.set d none) j b->j≠d/\bx z.σ z.ρ j b:=λ{j b} ⟨⟨t',e1,ot⟩,q⟩=>by
  by_cases hj:d=j
  ·subst hj
   rw[a2d] at e1
   simp only[if_true] at e1
   split at e1<;>cases e1
  ·rw[a0k hj] at e1;exact⟨Ne.symm hj,⟨t',e1,ot⟩,q⟩
 refine⟨⟨hz.I,by simp[hz.len],λj t q=>?_,λj k b o1 o2=>hz.dj j k b (own o1).2 (own o2).2,λj b o=>hz.nb j b (own o).2,hz.oh,hz.oh0,hz.loc,hz.cel,hz.fs,hz.ex,hz.there,hz.bs,hz.ot,hz.anc⟩,λj o'=>(own o').1 (hz.dj j d a (own o').2 o)⟩
 have q:(z.ρ.set d none)[j]?=some (some t):=q
 by_cases hj:d=j
 ·subst hj
  rw[a2d] at q
  simp only[if_true] at q
  split at q<;>cases q
 ·rw[a0k hj] at q;exact hz.slk j t q
theorem Z.ok.tell {z:Z X}{s:Shared}(hz:z.ok s){v:V}{p:PV}(e:z.σ[d]?=some (some v))(r:∃u,iC v u)(h:∀u,iC v u->D z.cn s.heap p u):(z.wi z.σ z.H (z.ρ.set d (some (.val p)))).ok s:=by
 have own:∀{j b},bx z.σ (z.ρ.set d (some (.val p))) j b->bx z.σ z.ρ j b:=λ{j b} ⟨⟨t',e1,ot⟩,q⟩=>by
  by_cases hj:d=j
  ·subst hj
   rw[a2d] at e1
   simp only[if_true] at e1
   split at e1<;>cases e1
   cases ot
  ·rw[a0k hj] at e1;exact⟨⟨t',e1,ot⟩,q⟩
 refine⟨hz.I,by simp[hz.len],λj t q=>?_,λj k b o1 o2=>hz.dj j k b (own o1) (own o2),λj b o=>hz.nb j b (own o),hz.oh,hz.oh0,hz.loc,hz.cel,hz.fs,hz.ex,hz.there,hz.bs,hz.ot,hz.anc⟩
 have q:(z.ρ.set d (some (.val p)))[j]?=some (some t):=q
 by_cases hj:d=j
 ·subst hj
  rw[a2d] at q
  simp only[if_true] at q
  split at q<;>cases q
  exact⟨v,e,r,h⟩
 ·rw[a0k hj] at q;exact hz.slk j t q
structure Grp (z:Z X)(h:Heap)(a:Addr)(g:List At):Prop where
 sm:(a==sysModules)=false
 ha:z.H a=some aW
 na:∀j,¬bx z.σ z.ρ j a
 dd:h.DictOf (bB X.prog X.w) a (g.map Bl)
 nk:(g.map (·.1)).Nodup
 nd:(a::g.map (·.2.2)).Nodup
 ls:∀t∈g,z.H t.2.2=some aW/\(∀j,¬bx z.σ z.ρ j t.2.2)/\ListAt z.cn h t.2.2 t.2.1
theorem Grp.ext {z:Z X}{s:Shared}{h':Heap}{a:Addr}{g:List At}(hz:z.ok s)(G:Grp z s.heap a g)(e:Ext z.bad s.heap h'){σ':L2.St}{ρ':ao}(ho:∀j b,bx σ' ρ' j b->bx z.σ z.ρ j b):Grp (z.wi σ' z.H ρ') h' a g:=
 ⟨G.sm,G.ha,λj o=>G.na j (ho j a o),by obtain⟨o,es,ep,q,r⟩:=G.dd;exact⟨o,es,ep,e.kp a o (hz.ot a _ G.ha).1 q,r⟩,G.nk,G.nd,λt ht=>let ⟨h1,h2,h3⟩:=G.ls t ht;⟨h1,λj o=>h2 j (ho j _ o),ListAt.mono (c:=z.cn) (c':=bC X z.bad z.H) e.kpD (λo q=>e.kp _ o (hz.ot _ _ h1).1 q) h3⟩⟩
theorem Kq (k:cR):∀g:List At,valueAt (g.map Bl) k=(g.find? λt=>decide (t.1=k)).map λt=>.ref t.2.2
 |[]=>rfl
 |t::g=>by
  have ih:=Kq k g
  unfold valueAt at ih ⊢
  rw[a1g,a5g,a5g]
  by_cases e:t.1=k
  ·rw[show decide ((Bl t).1=k)=true from decide_eq_true e,show decide (t.1=k)=true from decide_eq_true e];rfl
  ·rw[show decide ((Bl t).1=k)=false from decide_eq_false e,show decide (t.1=k)=false from decide_eq_false e];exact ih
noncomputable def qX (g:List At)(k:cR)(v:PV):List At:=g.map λt=>if t.1=k then (t.1,t.2.1++[v],t.2.2) else t
theorem FQ (g:List At)(k:cR)(v:PV):(qX g k v).map Bl=g.map Bl/\(qX g k v).map (·.1)=g.map (·.1)/\(qX g k v).map (·.2.2)=g.map (·.2.2):=by
 unfold qX
 refine⟨?_,?_,?_⟩<;>rw[a1d]<;>refine a1c λt _=>?_
 ·show Bl (if t.1=k then _ else _)=_
  split<;>rfl
 ·show (if t.1=k then (t.1,t.2.1++[v],t.2.2) else t).1=_
  split<;>rfl
 ·show (if t.1=k then (t.1,t.2.1++[v],t.2.2) else t).2.2=_
  split<;>rfl
theorem uniq {α β:Type}{f:α->β}:∀{l:List α},(l.map f).Nodup->∀{a b},a∈l->b∈l->f a=f b->a=b
 |[],_,_,_,h,_,_=>nomatch h
 |x::l,n,a,b,ha,hb,e=>by
  rw[a1g,a1n] at n
  rcases a0s.mp ha with ea|ha<;>rcases a0s.mp hb with eb|hb
  ·rw[ea,eb]
  ·exact absurd (by rw[←ea,e];exact a1f hb) n.1
  ·exact absurd (by rw[←eb,←e];exact a1f ha) n.1
  ·exact uniq n.2 ha hb e
theorem Ao {z:Z X}{s:Shared}(hz:z.ok s){a:Addr}{g:List At}(G:Grp z s.heap a g){k:cR}{t:At}(ht:t∈g)(hk:t.1=k)(hl:t.2.1.length<=100000){v:PV}{u:Value}(dv:D z.cn s.heap v u){E:Value->Shared->Prop} :
  W X (call (.builtin "list.append") [.ref t.2.2,u]) (λ_ s'=>z.ok s'/\Stp z.bad z.H z.H s.heap s'.heap/\Grp z s'.heap a (qX g k v)) E s:=by
 obtain⟨hH,no,its,n,e2,zl,ds⟩:=G.ls t ht
 have l:=ds.length
 have hb:=Lr hl
 refine call_meets F.slot_list_append ⟨_,e2,rfl⟩ F.entry_list_append (F.args_list_append_2 _ _) (PySem.list_append t.2.2 its.toArray n u (by rw[a0h];omega)) ⟨e2,?_⟩
 obtain⟨n',q⟩:∃n',(s.heap.update t.2.2 (Obj.mapSeq (·.push u))).get? t.2.2=some (d9 (its++[u]) n'):=by
  have q:=PySem.IsL.update e2 (·.push u)
  rw[show its.toArray.push u=(its++[u]).toArray by simp] at q
  exact⟨_,q⟩
 have keep:∀b o,b≠t.2.2->s.heap.get? b=some o->(s.heap.update t.2.2 (Obj.mapSeq (·.push u))).get? b=some o:=λb o hb hu=>(Heap.get?_update_other s.heap (Obj.mapSeq (·.push u)) (Ne.symm hb)).trans hu
 obtain⟨ok,st,kp⟩:=hz.mutf hH no (tk:=s.toks) keep ⟨_,q,by intro w;exact absurd (Value.type.inj w) (by decide)⟩
 refine⟨ok,st,?_⟩
 obtain⟨a1,a2,a3⟩:=FQ g k v
 have hnd:=G.nd
 rw[a1n] at hnd
 have hne:a≠t.2.2:=λe=>hnd.1 (by rw[e];exact a1f (f:=λt:At=>t.2.2) ht)
 refine⟨G.sm,G.ha,G.na,?_,by rw[a2];exact G.nk,by rw[a3];exact G.nd,λr hr=>?_⟩
 ·rw[a1]
  obtain⟨o,es,ep,q1,r⟩:=G.dd
  exact⟨o,es,ep,keep a o hne q1,r⟩
 ·unfold qX at hr
  obtain⟨r,hr',rfl⟩:=a1a.mp hr
  obtain⟨h1,h2,h3⟩:=G.ls r hr'
  split
  ·next e=>
   have:r=t:=uniq G.nk hr' ht (by show r.1=t.1;rw[hk];exact e)
   subst this
   exact⟨h1,h2,its++[u],n',q,by rw[a0t,a1m];omega,(ds.app (.one dv)).mono kp⟩
  ·next e=>
   refine⟨h1,h2,h3.mono kp λo=>keep _ o λe2=>?_⟩
   have:r=t:=uniq hnd.2 hr' ht e2
   exact e (by rw[this];exact hk)
theorem CR {e1 e2:Expr}{fk fv:FE}{p1 p2 p3 p4 p5 p6:Pos}(hN:X.N[d]?=some x)(hvis:qp X.env.scope x)(hdd:(x==("__debug__" : Str))=false)(hcd:(x==("__classdict__" : Str))=false)(c1:Mc X (.Name x p1) "setdefault" p2 p4 [e1,.List [] p3])
  (c2:Mc X (.Call (.Attribute (.Name x p1) "setdefault" p2) [e1,.List [] p3] [] p4) "append" p5 p6 [e2]) (hs1:starEach [e1,.List [] p3] X.env=(false,eval e1 X.env)::starEach [.List [] p3] X.env) (hk:NE X e1 fk) (hv:NE X e2 fv) {z:Z X} {s:Shared} (hz:z.ok s) {a:Addr} {g:List At} (G:Grp z s.heap a g)
  (hd:z.σ[d]?=some (some (.ref a))) (hgl:g.length<=1000) (hls:∀t∈g,t.2.1.length<=1000) {k:cR} {v:PV} (ek:((fk z.ρ).bind RV.fr).bind fJ=some k) (ev:(fv z.ρ).bind RV.fr=some v) {E:Value->Shared->Prop} :
  W X (exec (.Expr (.Call (.Attribute (.Call (.Attribute (.Name x p1) "setdefault" p2) [e1,.List [] p3] [] p4) "append" p5) [e2] [] p6) pos) X.env)
   (λfl s'=>fl=.next/\∃H' b,(z.wi z.σ H' z.ρ).ok s'/\Stp z.bad z.H H' s.heap s'.heap/\Grp (z.wi z.σ H' z.ρ) s'.heap a (wP g k v b)) E s:=by
 obtain⟨k0,ek0,ek⟩:=a0a.mp ek
 obtain⟨r1,er1,ek0⟩:=a0a.mp ek0
 obtain⟨r2,er2,ev⟩:=a0a.mp ev
 have nod:∀{h:Heap},h.DictOf (bB X.prog X.w) a (g.map Bl)->∀b,Value.ref a=.ref b->∃ob,h.get? b=some ob/\ob.dict=none:=λdd b e=>by
  cases e;obtain⟨ob,_,_,h1,h2,_⟩:=dd;exact⟨ob,h1,h2.2.1⟩
 refine wpAny_Expr_any ?_ hz.I.quiet rfl
 refine wpAny_Call_method_late c2.base c2.few c2.line rfl ?_
 refine wpAny_Call_method_late c1.base c1.few c1.line rfl (lN hz hd hN hvis hdd hcd ⟨"dict","dict.setdefault",PySem.F.plainAttrs_dict,PySem.F.slot_dict_setdefault,PySem.F.type_dict_setdefault,G.dd.typeIs,nod G.dd,?_⟩)
 have hA:=(oV hk (oV (IL (pos:=p3) lK) lK rfl) hs1) z p4 s [r1,.nw []] E hz (by show (fk z.ρ).bind _=_;rw[er1];rfl)
 rw[hs1] at hA ⊢
 refine Calls.callWith_builtin (by show (false || (false || false))=false;rfl) (Calls.evalArgs_plain (aY hA λus s1 ⟨g1,d1⟩=>?_))
 cases d1 with|cons d1 d2=>
 rename_i u1 _
 cases d2 with|cons d2 d3=>
 rename_i u2 _
 cases d3
 obtain⟨b,rfl,nb,okb',lb⟩:=d2
 have G1:Grp z s1.heap a g:=G.ext hz g1.2 λ_ _ o=>o
 have nk:=G1.nk
 have dk:=d1.fr ek0
 have hlb:=lD
 refine call_meetsIn PySem.F.slot_dict_setdefault G1.dd.typeIs PySem.F.entry_dict_setdefault (PySem.F.args_dict_setdefault_3 _ _ _) (PySem.kt_meets_setdefault (bB X.prog X.w) a (nM (ft ek dk)) G1.sm (.ref b)) ⟨_,G1.dd,by rw[a0i];exact big (by omega),λw' hw=>?_,λhn h' dd' hsb=>?_⟩
 ·-- the key stands
  rw[Kq] at hw
  obtain⟨t,et,rfl⟩:=a0d.mp hw
  have ht:=a4q et
  have hk1:t.1=k:=by simpa using List.find?_some et
  have any:g.any (λt=>decide (t.1=k))=true:=a3m.mpr ⟨t,ht,decide_eq_true hk1⟩
  have gt:=g1.1.tok (s1.toks+1)
  have G2:Grp z s1.heap a g:=G1
  obtain⟨hH,no,lt⟩:=G2.ls t ht
  obtain⟨its,n,e3,_⟩:=id lt
  refine⟨"list","list.append",PySem.F.plainAttrs_list,PySem.F.slot_list_append,PySem.F.type_list_append,⟨_,e3,rfl⟩,λb' q=>by cases q;exact⟨_,e3,rfl⟩,?_⟩
  obtain⟨hs2,hp2⟩:=c2.ns e2 [] rfl
  rw[hs2]
  refine Calls.callWith_builtin (by show (false || false)=false;rfl) (Calls.evalArgs_plain (Calls.spliced_cons (aY (hv z _ r2 E gt.1 er2) λu3 s3 q3=>Calls.spliced_nil ?_)))
  have G3:Grp z s3.heap a g:=G2.ext gt.1 q3.1.2 λ_ _ o=>o
  refine aY (Ao q3.1.1 G3 ht hk1 (by have:=hls t ht;omega) (q3.2.fr ev)) λv4 s4 ⟨ok4,st4,G4⟩=>⟨rfl,z.H,b,ok4,(g1.2.stp.trans q3.1.2.stp).trans st4,?_⟩
  rw[show wP g k v b=qX g k v by unfold wP qX;rw[if_pos any]]
  exact G4
 ·-- a new key
  rw[Kq,Option.map_eq_none_iff] at hn
  have hnk:∀t∈g,t.1≠k:=λt ht e=>by
   have:=List.find?_eq_none.mp hn t ht
   exact this (decide_eq_true e)
  have any:g.any (λt=>decide (t.1=k))=false:=by
   rw[List.any_eq_false];intro t ht;simpa using hnk t ht
  have est:stored (g.map Bl) k (.ref b)=(g++[(k,([]:List PV),b)]).map Bl:=by
   unfold stored
   rw[if_neg (by rw[a3c,show ((λkv:cR×Value=>decide (kv.1=k)) ∘ Bl)=(λt:At=>decide (t.1=k)) from rfl,any];exact a0u),a0x];rfl
  rw[est] at dd'
  have he:∃q,h'.get? a=some q/\q.cls≠.type "tuple":=by
   obtain⟨q,es,ep,hq,hx,_⟩:=dd'
   exact⟨q,hq,by rw[hx.1];intro w;exact absurd (Value.type.inj w) (by decide)⟩
  have keep:∀c o,c≠a->s1.heap.get? c=some o->h'.get? c=some o:=λc o hc e=>(hsb.2 c hc).trans e
  obtain⟨ok2,st2,kp2⟩:=g1.1.mutf G1.ha G1.na (tk:=s1.toks+1) keep he
  have hba:b≠a:=λe=>by
   obtain⟨o,_,_,q,_⟩:=G.dd
   rw[←e,nb] at q;cases q
  obtain⟨itb,nbb,eb,zb,db⟩:=lb
  have eb':h'.get? b=some (d9 itb nbb):=keep b _ hba eb
  have hHb:z.H b=none:=okb'.1
  have hHn:∀{c o},z.H c=some o->c≠b:=λ{c o} h e=>by rw[e,hHb] at h;cases h
  have noB:∀j,¬bx z.σ z.ρ j b:=hz.no_own nb
  have kp3:Kp z.cn (bC X z.bad (eE z.H b aW)) s.heap h':=⟨rfl,rfl,rfl,λc o q e=>⟨⟨by rw[aX (λy=>by subst y;rw[nb] at e;cases e)];exact q.1,q.2⟩,keep c o (λy=>by have q1:z.H c=none:=q.1;rw[y,G.ha] at q1;cases q1) (g1.2.kp c o q.2 e)⟩⟩
  have skk:∀(j:Nat) t v,z.ρ[j]?=some (some t)->z.σ[j]?=some (some v)->SlOk (bC X z.bad (eE z.H b aW)) z.H h' t v:=λj t v e1 e2=>by
   obtain⟨w,e3,_,d⟩:=hz.slk j t e1
   rw[e2] at e3;cases e3
   have na:=G.na j
   cases t with
   |val p=>exact λu r=>(d u r).m kp3
   |own ps=>obtain⟨c,rfl,hc,l⟩:=d;exact⟨c,rfl,hc,l.mono kp3 λo w=>keep c o (λy=>na ⟨⟨_,e1,rfl⟩,by rw[e2,y]⟩) (g1.2.kp c o (hz.ot c _ hc).1 w)⟩
   |dic ks ps=>obtain⟨c,rfl,hc,l⟩:=d;exact⟨c,rfl,hc,l.mono kp3 λo w=>keep c o (λy=>na ⟨⟨_,e1,rfl⟩,by rw[e2,y]⟩) (g1.2.kp c o (hz.ot c _ hc).1 w)⟩
  have ok3:=ok2.track (a:=b) okb' (fO hz nb) (λp hp q=>by have:=(hz.I.pin p hp).1;rw[q,nb] at this;cases this) ⟨_,eb',by intro w;exact absurd (Value.type.inj w) (by decide)⟩ skk
  have G3:Grp (z.wi z.σ (eE z.H b aW) z.ρ) h' a (g++[(k,[],b)]):=by
   refine⟨G.sm,(aX (hHn G.ha)).trans G.ha,G.na,dd',?_,?_,λt ht=>?_⟩
   ·rw[a0x,a1t]
    refine⟨nk,by simp,λx hx y hy=>?_⟩
    obtain⟨t,ht,rfl⟩:=a1a.mp hx
    rw[show y=k by simpa using hy]
    exact hnk t ht
   ·have hnd:=G.nd
    rw[a1n] at hnd ⊢
    rw[a0x]
    refine⟨λh=>(a0w.mp h).elim hnd.1 λh=>hba (by have h:a∈[b]:=h;exact (a0g.mp h).symm),?_⟩
    rw[a1t]
    refine⟨hnd.2,by simp,λx hx y hy=>?_⟩
    obtain⟨t,ht,rfl⟩:=a1a.mp hx
    rw[show y=b by simpa using hy]
    exact hHn (G.ls t ht).1
   ·rcases a0w.mp ht with ht|ht
    ·obtain⟨h1,h2,h3⟩:=G.ls t ht
     refine⟨(aX (hHn h1)).trans h1,h2,h3.mono kp3 λo w=>keep _ o (λy=>?_) (g1.2.kp _ o (hz.ot _ _ h1).1 w)⟩
     have hnd:=G.nd
     rw[a1n] at hnd
     exact hnd.1 (by rw[←y];exact a1f (f:=λt:At=>t.2.2) ht)
    ·rw[a0g] at ht
     subst ht
     have:itb=[]:=db
     subst this
     exact⟨bV,noB,[],nbb,eb',a3b _,rfl⟩
  have st3:Stp z.bad z.H (eE z.H b aW) s.heap h':=⟨λc o n1 n2 e=>⟨keep c o (λy=>by rw[y,G.ha] at n2;cases n2) (g1.2.kp c o n1 e),by rw[aX (λy=>by subst y;rw[nb] at e;cases e)];exact n2⟩,λc o e=>by
   obtain⟨o',e'⟩:=g1.2.th c o e
   exact st2.th c o' e'⟩
  have ht:(k,([]:List PV),b)∈g++[(k,[],b)]:=a0o _ (a0g.mpr rfl)
  refine⟨"list","list.append",PySem.F.plainAttrs_list,PySem.F.slot_list_append,PySem.F.type_list_append,⟨_,eb',rfl⟩,λb' q=>by cases q;exact⟨_,eb',rfl⟩,?_⟩
  obtain⟨hs2,hp2⟩:=c2.ns e2 [] rfl
  rw[hs2]
  refine Calls.callWith_builtin (by show (false || false)=false;rfl) (Calls.evalArgs_plain (Calls.spliced_cons (aY (hv (z.wi z.σ (eE z.H b aW) z.ρ) _ r2 E ok3 er2) λu3 s3 q3=>Calls.spliced_nil ?_)))
  have G4:Grp (z.wi z.σ (eE z.H b aW) z.ρ) s3.heap a (g++[(k,[],b)]):=G3.ext ok3 q3.1.2 λ_ _ o=>o
  refine aY (Ao q3.1.1 G4 ht rfl (by show 0<=100000;omega) (q3.2.fr ev)) λv4 s4 ⟨ok4,st4,G5⟩=>⟨rfl,eE z.H b aW,b,ok4,(st3.trans q3.1.2.stp).trans st4,?_⟩
  rw[show wP g k v b=qX (g++[(k,[],b)]) k v by
   unfold wP qX
   rw[if_neg (by rw[any];exact a0u),a0x]
   rw[show (g.map λt=>if t.1=k then (t.1,t.2.1++[v],t.2.2) else t)=g from (a1c λt ht=>if_neg (hnk t ht)).trans (a4x g)]
   simp]
  exact G5
theorem wd {z:Z X}{s:Shared}(hz:z.ok s):∀l:List Addr,l.Nodup->(∀b∈l,z.H b=some aW/\∀j,¬bx z.σ z.ρ j b)->∃H',(z.wi z.σ H' z.ρ).ok s/\Kp z.cn (bC X z.bad H') s.heap s.heap/\(∀b∈l,H' b=none)/\∀b,z.H b=none->H' b=none
 |[],_,_=>⟨z.H,hz,.refl,λ_ h=>(by cases h),λ_ h=>h⟩
 |a::l,n,h=>by
  rw[a1n] at n
  obtain⟨h1,h2⟩:=h a a0e
  obtain⟨ok,kp⟩:=hz.letgo h1 h2
  obtain⟨H',ok',kp',f1,f2⟩:=wd ok l n.2 λb hb=>by
   obtain⟨q1,q2⟩:=h b (a0c _ hb)
   exact⟨(eZ (λe=>n.1 (by rw[←e];exact hb))).trans q1,q2⟩
  refine⟨H',ok',⟨rfl,rfl,rfl,λb o q e=>kp'.kp b o (kp.kp b o q e).1 e⟩,λb hb=>?_,λb hb=>f2 b (gI hb)⟩
  rcases a0s.mp hb with rfl|hb
  ·exact f2 _ iA
  ·exact f1 b hb
noncomputable def NH (g:List Gr):PV:=.dct (g.map (·.1)) (g.map λt=>.lst t.2)
theorem Eo {z:Z X}{s:Shared}(hz:z.ok s){a:Addr}{g:List At}(G:Grp z s.heap a g)(hl:g.length<=1000):∃H',(z.wi z.σ H' z.ρ).ok s/\Stp z.bad z.H H' s.heap s.heap/\D (bC X z.bad H') s.heap (NH (g.map BS)) (.ref a):=by
 obtain⟨H',ok,kp,f1,f2⟩:=wd hz (a::g.map (·.2.2)) G.nd λb hb=>by
  rcases a0s.mp hb with rfl|hb
  ·exact⟨G.ha,G.na⟩
  ·obtain⟨t,ht,rfl⟩:=a1a.mp hb
   exact⟨(G.ls t ht).1,(G.ls t ht).2.1⟩
 refine⟨H',ok,⟨λb o _ n e=>⟨e,f2 b n⟩,λb o e=>⟨o,e⟩⟩,a,g.map Bl,rfl,⟨f1 a a0e,(hz.ot a _ G.ha).1⟩,G.sm,G.dd,by rw[a0i];exact big (by omega),by rw[a1d,a1d];rfl,?_⟩
 have f3:∀t∈g,H' t.2.2=none:=λt ht=>f1 _ (a0c _ (a1f (f:=λt:At=>t.2.2) ht))
 have ls:=G.ls
 clear G f1 hl
 induction g with
 |nil=>rfl
 |cons t g ih=>
  obtain⟨h1,h2,its,n,e,zl,ds⟩:=ls t a0e
  exact .cons ⟨t.2.2,its,n,rfl,⟨f3 t a0e,(hz.ot _ _ h1).1⟩,e,zl,ds.mono kp⟩ (ih (λr hr=>f3 r (a0c _ hr)) λr hr=>ls r (a0c _ hr))
noncomputable def Gx:List (Nat×FE)->ao->Option ao
 |[],ρ=>some ρ
 |(i,f)::r,ρ=>((f ρ).bind RV.fr).bind λp=>Gx r (ρ.set i (some (.val p)))
inductive Vs (X:Cx):List Stmt->List (Nat×FE)->Prop where
 |nil:Vs X [] []
 |cons {i:Nat} {x:Str} {e:Expr} {f:FE} {p pos:Pos} {r:List Stmt} {bd:List (Nat×FE)}:Nm X i x->NE X e f->swapsWith e (some (.Name x p)) pos.line X.env=pure false->Vs X r bd->Vs X (.Assign [.Name x p] e pos::r) ((i,f)::bd)
theorem LL {body hV:List Stmt}{bd:List (Nat×FE)}(h:Vs X body bd)(hd:bd.all (λt=>t.1 != d)=true):∀{z:Z X} {s:Shared} {ρ':ao} {Q:Flow->Shared->Prop} {E:Value->Shared->Prop},z.ok s->Gx bd z.ρ=some ρ' →
  (∀σ' s',(z.wi σ' z.H ρ').ok s'->Ext z.bad s.heap s'.heap->σ'[d]?=z.σ[d]?->(∀j b,bx σ' ρ' j b->bx z.σ z.ρ j b)->W X (execs hV X.env) Q E s')->W X (execs (body++hV) X.env) Q E s:=by
 induction h with
 |nil=>intro z s ρ' Q E hz e k;cases e;exact k z.σ s hz .refl rfl λ_ _ o=>o
 | @cons i x e f p pos r bd nm he hs hr ih=>
  intro z s ρ' Q E hz eb k
  rw[a1h,a0b,bne_iff_ne] at hd
  obtain⟨q,eq,eb⟩:=a0a.mp eb
  obtain⟨r0,er,eq⟩:=a0a.mp eq
  refine wpAny_execs_cons (wpAny_Assign_Name (aY (he z s r0 E hz er) λu s1 q1=>aY (nG q1.1.1 nm (q1.2.fr eq)) λ_ s2 ⟨v,_,ok2,x2⟩=>?_) hs)
  refine ih hd.2 ok2 eb λσ' s' ok' x' hσ ho=>k σ' s' ok' (q1.1.2.trans (x2.trans x')) ?_ λj b o=>iS (ho j b o)
  rw[hσ]
  exact a0k hd.1
noncomputable def nc (i:Nat)(bd:List (Nat×FE))(fk fv:FE):List PV->ao->List Gr->Option (ao×List Gr)
 |[],ρ,g=>some (ρ,g)
 |p::ps,ρ,g=>(Gx bd (ρ.set i (some (.val p)))).bind λρ2=>(((fk ρ2).bind RV.fr).bind fJ).bind λk=>((fv ρ2).bind RV.fr).bind λv=>nc i bd fk fv ps ρ2 (qg g k v)
noncomputable def FJ (o:Option (ao×List Gr))(d:Nat):Out:=match o with
 |some (ρ,g)=>.nx (ρ.set d (some (.val (NH g))))
 |none=>.bad
noncomputable def yB (t:Option Sl)(its:Option (List PV))(d i:Nat)(bd:List (Nat×FE))(fk fv:FE)(ρ:ao):Out:=match t,its with
 |some (.dic [] []),some its=>if its.length<=1000 then FJ (nc i bd fk fv its (ρ.set d none) []) d else .bad
 |_,_=>.bad
noncomputable def Dr (d i:Nat)(fi:FI)(bd:List (Nat×FE))(fk fv:FE):FS:=λρ=>yB (sl ρ d) (fi ρ) d i bd fk fv ρ
theorem MJ {iter e1 e2:Expr}{fi:FI}{body:List Stmt}{bd:List (Nat×FE)}{fk fv:FE}{py p1 p2 p3 p4 p5 p6 p7:Pos}(hc:X.calm=true)(hi:NI X true (.Name y py) iter fi)(nm:Nm X i y)(hid:i≠d)(hv0:Vs X body bd)(hbd:bd.all (λt=>t.1 != d)=true)
  (hN:X.N[d]?=some x) (hvis:qp X.env.scope x) (hdd:(x==("__debug__" : Str))=false) (hcd:(x==("__classdict__" : Str))=false) (c1:Mc X (.Name x p1) "setdefault" p2 p4 [e1,.List [] p3])
  (c2:Mc X (.Call (.Attribute (.Name x p1) "setdefault" p2) [e1,.List [] p3] [] p4) "append" p5 p6 [e2]) (hs1:starEach [e1,.List [] p3] X.env=(false,eval e1 X.env)::starEach [.List [] p3] X.env) (hk:NE X e1 fk) (hv:NE X e2 fv)
  (hs:∀x,foldedSetIterable iter X.env x=pure x) :
  NS X (.For (.Name y py) iter (body++[.Expr (.Call (.Attribute (.Call (.Attribute (.Name x p1) "setdefault" p2) [e1,.List [] p3] [] p4) "append" p5) [e2] [] p6) p7]) [] pos) (Dr d i fi bd fk fv):=λz s E hz hn=>by
 unfold Dr yB at hn ⊢
 split at hn
 ·next its ed ei=>
  split at hn
  ·next hlen=>
   rw[if_pos hlen]
   unfold FJ at hn ⊢
   split at hn
   ·next res ρF gF eF=>
    refine wpAny_For (aY (hi z s its E hz ei) λv s1 h1=>aY h1 λitv s2 h2=>?_) hs
    obtain⟨it,fp,pl,tn,e,hpl,_,T,g2,f2,st2⟩:=h2
    cases hpl rfl
    subst e
    have z2:(z.wb fp).ok s2:=hz.more g2 λb hb=>⟨(f2 b hb).2,let ⟨o,e,_⟩:=T.obj _ _ _ st2 b hb;⟨o,e⟩⟩
    have stat:∀{σ H ρ s'},((z.wb fp).wi σ H ρ).ok s'->∀b∈fp,i5 X z.pins H b/\(z.wb fp).bad b:=λ{σ H ρ s'} ok b hb=>⟨⟨by
     cases q:H b with
     |none=>rfl
     |some o=>exact absurd (Or.inr hb) (ok.ot b o q).1,(f2 b hb).1.2⟩,.inr hb⟩
    obtain⟨a,oa,hH,b',e1',_,kus,sm,dd,kl,kk,dps⟩:=Z.ok.owned z2 ed rfl
    cases e1'
    have:kus=[]:=List.map_eq_nil_iff.mp kk
    subst this
    obtain⟨ok2,no2⟩:=z2.hide oa
    have G2:Grp ((z.wb fp).wi z.σ z.H (z.ρ.set d none)) s2.heap a []:=⟨sm,hH,no2,dd,List.nodup_nil,by simp,λ_ h=>(by cases h)⟩
    refine codeAny_forLoop_any (λn s'=>∃m σ' H' ρ' g,n=its.length - m/\m<=its.length/\((z.wb fp).wi σ' H' ρ').ok s'/\Stp (z.wb fp).bad z.H H' s2.heap s'.heap/\tn m (bC X (z.wb fp).bad H') s'.heap/\Grp ((z.wb fp).wi σ' H' ρ') s'.heap a g/\σ'[d]?=some (some (.ref a))/\g.length<=m/\(∀t∈g,t.2.1.length<=m)/\nc i bd fk fv (its.drop m) ρ' (g.map BS)=some (ρF,gF)) ?_ its.length ⟨0,z.σ,z.H,z.ρ.set d none,[],rfl,a3b _,ok2,Ext.refl.stp,st2,G2,oa.2,a0n _,λ_ h=>(by cases h),eF⟩
    rintro n s3 ⟨m,σ3,H3,ρ3,g,rfl,hi3,ok3,t3,st3,G3,hd3,hg3,hl3,eo⟩
    by_cases hlt:m<its.length
    ·rw[a3e hlt,nc] at eo
     obtain⟨ρ4,e4,eo⟩:=a0a.mp eo
     obtain⟨k,ek,eo⟩:=a0a.mp eo
     obtain⟨w,ew,eo⟩:=a0a.mp eo
     refine aY (T.item X rfl rfl hc ((z.wb fp).wi σ3 H3 ρ3) s3 _ m its[m] ok3 (stat ok3) (λb q=>nomatch q) st3 (a0f hlt)) λr s4 ⟨u,hr,h4⟩=>?_
     subst hr
     refine aY h4 λ_ s5 ⟨g5,d5,st5⟩=>?_
     have ok5:=pinned g5.1 (λb hb=>(stat g5.1 b hb).1) (T.obj _ _ _ st5)
     refine wpAny_assign_Name (aY (nG ok5 nm d5) λ_ s6 ⟨v6,_,ok6,x6⟩=>?_)
     refine LL hv0 hbd ok6 e4 λσ7 s7 ok7 x7 hσ7 ho7=>?_
     have hσ:σ7[d]?=some (some (.ref a)):=by
      rw[hσ7]
      exact (a0k hid).trans hd3
     have hext:Ext (z.wb fp).bad s3.heap s7.heap:=g5.2.trans (x6.trans x7)
     have G7:Grp ((((z.wb fp).wi σ3 H3 ρ3).wp (kz fp s5.heap)).wi σ7 H3 ρ4) s7.heap a g:=by
      have q:=G3.ext ok3 (σ':=σ7) (ρ':=ρ4) hext λj b o=>iS (ho7 j b o)
      exact⟨q.sm,q.ha,q.na,q.dd,q.nk,q.nd,q.ls⟩
     refine wpAny_execs_cons (aY (CR hN hvis hdd hcd c1 c2 hs1 hk hv ok7 G7 hσ (by omega) (λt ht=>by have:=hl3 t ht;omega) ek ew) λfl s8 ⟨efl,H8,b8,ok8,t8,G8⟩=>?_)
     subst efl
     refine wpAny_execs_nil ?_
     refine⟨its.length - (m+1),by omega,m+1,σ7,H8,ρ4,_,rfl,hlt,unpinned (z:=(z.wb fp).wi σ3 H3 ρ3) ok8,t3.trans (hext.stp.trans t8),?_,⟨G8.sm,G8.ha,G8.na,G8.dd,G8.nk,G8.nd,G8.ls⟩,hσ,?_,?_,?_⟩
     ·exact T.keep _ _ _ _ _ st5 ((x6.trans x7).stp.trans t8).kpD λb hb=>hb.elim (λhb=>pj (z:=(z.wb fp).wi σ3 H3 ρ3) ok8 b hb) λq=>nomatch q
     ·have:=D4 (g.map BS) k w
      rw[←xB (b:=b8),a0i,a0i] at this
      omega
     ·intro t ht
      have:=AO (g:=g.map BS) (k:=k) (v:=w) (m:=m) (λt ht=>by obtain⟨r,hr,rfl⟩:=a1a.mp ht;exact hl3 r hr)
      rw[←xB (b:=b8)] at this
      exact this (BS t) (a1f ht)
     ·rw[xB];exact eo
    ·rw[a2i (by omega),nc] at eo
     refine aY (T.done X rfl rfl hc ((z.wb fp).wi σ3 H3 ρ3) s3 _ m ok3 (stat ok3) (λb q=>nomatch q) st3 (by omega)) λr s4 ⟨hr,I4,k4⟩=>?_
     subst hr
     refine wpAny_execs_nil ?_
     have ok4:(z.wi σ3 H3 ρ3).ok s4:=hz.less (λb hb=>(f2 b hb).2) ok3 I4 k4
     have kp4:Kp (bC X (z.wb fp).bad H3) (bC X z.bad H3) s3.heap s4.heap:=⟨rfl,rfl,rfl,λa o q g=>⟨⟨q.1,λy=>q.2 (.inl y)⟩,k4 a o (λy=>q.2 (.inr y)) g⟩⟩
     have G4:Grp (z.wi σ3 H3 ρ3) s4.heap a g:=⟨G3.sm,G3.ha,G3.na,(by obtain⟨o,es,ep,q,r⟩:=G3.dd;exact⟨o,es,ep,k4 a o (λy=>(ok3.ot a _ G3.ha).1 (.inr y)) q,r⟩),G3.nk,G3.nd,λt ht=>let ⟨h1,h2,h3⟩:=G3.ls t ht;⟨h1,h2,h3.mono kp4 λo=>k4 _ o λy=>(ok3.ot _ _ h1).1 (.inr y)⟩⟩
     obtain⟨H5,ok5,t5,d5⟩:=Eo ok4 G4 (by omega)
     have ok6:=Z.ok.tell ok5 (v:=.ref a) (p:=NH (g.map BS)) hd3 ⟨.ref a,rfl⟩ λu r=>by rw[show u=.ref a from r];exact d5
     obtain⟨rfl,rfl⟩:ρ3=ρF/\g.map BS=gF:=by have:=Option.some.inj eo;exact⟨congrArg Prod.fst this,congrArg Prod.snd this⟩
     exact⟨rfl,σ3,H5,ok6,(t3.less g2.2 (λb hb=>(f2 b hb).2) k4).trans t5⟩
   ·exact absurd rfl hn
  ·exact absurd rfl hn
 ·exact absurd rfl hn
end
section
variable {X:Cx}{i j:Nat}{x y:Str}{pos:Pos}
noncomputable def yG:FX:=λ_=>some (.dic [] [])
theorem vo {z:Z X}{s:Shared}(hz:z.ok s):∃z',Got z z' s { s with heap:=s.heap.push { cls:=.type "dict",data:=.dict #[] } } (.dic [] []) (.ref s.heap.objs.size):=by
 refine Ag hz (hz.push _ s.toks) rfl (Heap.get?_none_of_le (a0n _)) ⟨_,Heap.get?_push_size _ rfl,by intro w;exact absurd (Value.type.inj w) (by decide)⟩ ⟨_,rfl,bV,[],beq_eq_false_iff_ne.mpr (Ne.symm (a1j hz.I.big)),Heap.DictOf.new s.heap,a3b _,rfl,rfl⟩
theorem L9:NX X (.Dict [] [] pos) yG:=λz s t E hz q=>by
 cases q;exact wpAny_Dict_empty (vo hz)
noncomputable def yq (k v:Option PV):Option Sl:=match k,v with
 |some k,some v=>(fJ k).map λk=>.dic [k] [v]
 |_,_=>none
noncomputable def rA (f g:FE):FX:=λρ=>yq ((f ρ).bind RV.fr) ((g ρ).bind RV.fr)
theorem L3 {k v:Expr}{f g:FE}(hk:NE X k f)(hv:NE X v g):NX X (.Dict [some k] [v] pos) (rA f g):=λz s t E hz q=>by
 unfold rA yq at q
 split at q
 ·next p q' ep eq=>
  obtain⟨kk,ek,rfl⟩:=a0d.mp q
  obtain⟨r1,er1,ep⟩:=a0a.mp ep
  obtain⟨r2,er2,eq⟩:=a0a.mp eq
  obtain⟨⟨bad1,pins1,σ1,H1,ρ1⟩,G1⟩:=vo hz
  obtain⟨e1,e2,e3,e4,ok1,st1,old1,kp1,g1⟩:=G1
  cases (show bad1=z.bad from e1)
  cases (show pins1=z.pins from e2)
  cases (show σ1=z.σ from e3)
  cases (show ρ1=z.ρ from e4)
  rcases g1 with ⟨h,_⟩|⟨_,a,ea,na,hH,h00,dA⟩
  ·cases h
  cases ea
  obtain⟨b,eb,_,kus,sm,dd0,_,_,_⟩:=dA
  cases eb
  refine wpAny_Dict_walk (knd:=bB X.prog X.w) rfl rfl (by simp) (by simp) (pairTrees_cons_walk (aY (hk ⟨z.bad,z.pins,z.σ,H1,z.ρ⟩ _ r1 E ok1 er1) λu1 s1 p1=>aY (hv ⟨z.bad,z.pins,z.σ,H1,z.ρ⟩ s1 r2 E p1.1.1 er2) λu2 s2 p2=>pairTrees_nil_walk ?_))
  have go:=p1.1.trans p2.1
  have dk:=(p1.2.ext p2.1.2).fr ep
  have dv:=p2.2.fr eq
  have nb:¬z.bad s.heap.objs.size:=(ok1.ot _ _ hH).1
  have hd:s2.heap.DictOf (bB X.prog X.w) s.heap.objs.size []:=by
   obtain⟨o,es,ep,q,r⟩:=Heap.DictOf.new (knd:=bB X.prog X.w) s.heap
   exact⟨o,es,ep,go.2.kp _ o nb q,r⟩
  refine⟨[(kk,u2)],⟨nM (ft ek dk),rfl,trivial⟩,hd,λh' dd' hs=>?_⟩
  have keep:∀b o,b≠s.heap.objs.size->s2.heap.get? b=some o->h'.get? b=some o:=λb o hb e=>(hs.2 b hb).trans e
  obtain⟨q,es,ep',hq,hx,_⟩:=id dd'
  obtain⟨ok3,st3,kp3⟩:=go.1.mutf (a:=s.heap.objs.size) hH (λj o=>hz.no_own (Heap.get?_none_of_le (a0n _)) j o) (tk:=s2.toks+[(u1,u2)].length) keep ⟨q,hq,by rw[hx.1];intro w;exact absurd (Value.type.inj w) (by decide)⟩
  refine⟨⟨z.bad,z.pins,z.σ,H1,z.ρ⟩,rfl,rfl,rfl,rfl,ok3,(st1.trans go.2.stp).trans st3,old1,λb o n e=>?_,.inr ⟨rfl,_,rfl,Heap.get?_none_of_le (a0n _),hH,h00,_,rfl,hH,_,sm,dd',big (by show 1<=100000;omega),rfl,.one (dv.m kp3)⟩⟩
  exact keep b o (a1j (Heap.lt_size e)) (go.2.kp b o n (kp1 b o n e))
 ·cases q
noncomputable def oj (ks:List cR)(k:cR):List cR:=if ks.any (λj=>decide (j=k)) then ks else ks++[k]
noncomputable def Cj:List cR->List PV->cR->PV->List PV
 |j::ks,p::ps,k,v=>(if j=k then v else p)::Cj ks ps k v
 |_,_,_,_=>[]
noncomputable def nZ (ks:List cR)(ps:List PV)(k:cR)(v:PV):List PV:=if ks.any (λj=>decide (j=k)) then Cj ks ps k v else ps++[v]
theorem yl {c:Cn}{h:Heap}{k:cR}{v:PV}{u:Value}(d:D c h v u):∀{kus:List (cR×Value)} {ps:List PV},Ds c h ps (kus.map (·.2))->Ds c h (Cj (kus.map (·.1)) ps k v) ((kus.map λkv=>if kv.1=k then (kv.1,u) else kv).map (·.2))
 |[],ps,_=>by simp[Cj,Ds]
 |(j,w)::kus,ps,e=>by
  cases ps with
  |nil=>cases (show w::kus.map (·.2)=[] from e)
  |cons p ps=>
   obtain⟨u',r,e,d1,d2⟩:=e
   cases e
   show Ds c h ((if j=k then v else p)::Cj _ ps k v) ((if j=k then (j,u) else (j,w)).2::_)
   refine .cons ?_ (yl d d2)
   split
   ·exact d
   ·exact d1
theorem KB {c:Cn}{h:Heap}{k:cR}{v:PV}{u:Value}(d:D c h v u){kus:List (cR×Value)}{ps:List PV}(e:Ds c h ps (kus.map (·.2))):(stored kus k u).map (·.1)=oj (kus.map (·.1)) k/\Ds c h (nZ (kus.map (·.1)) ps k v) ((stored kus k u).map (·.2))/\(stored kus k u).length<=kus.length+1:=by
 have ea:(kus.map (·.1)).any (λj=>decide (j=k))=kus.any λkv=>decide (kv.1=k):=by rw[a3c];rfl
 unfold stored oj nZ
 rw[ea]
 split
 ·refine⟨?_,yl d e,by rw[a0i];omega⟩
  rw[a1d]
  refine a1c λt _=>?_
  show (if t.1=k then (t.1,u) else t).1=t.1
  split<;>rfl
 ·exact⟨by rw[a0x];rfl,by rw[a0x];exact e.app (.one d),by simp⟩
theorem Em {z:Z X}{s:Shared}(hz:z.ok s){ks:List cR}{ps:List PV}(e:sl z.ρ i=some (.dic ks ps)){a:Addr}(o:z.σ[i]?=some (some (.ref a))):bx z.σ z.ρ i a/\z.H a=some aW/\DictAt z.cn s.heap a ks ps:=by
 obtain⟨b,o1,h,_,e2,_,l⟩:=Z.ok.owned hz e rfl
 cases e2
 have:=o1.2
 rw[o] at this;cases this
 exact⟨o1,h,l⟩
theorem GX {z:Z X}{s:Shared}(hz:z.ok s){a:Addr}(o:bx z.σ z.ρ i a){ks:List cR}{ps:List PV}{k:cR}{kv:Value}{v:PV}{u:Value}(hH:z.H a=some aW)(l:DictAt z.cn s.heap a ks ps)(hl:ks.length<=100000)(rk:iC (kV k) kv)(d:D z.cn s.heap v u){E:Value->Shared->Prop} :
  W X (setItem (.ref a) kv u) (λ_ s'=>(z.wi z.σ z.H (z.ρ.set i (some (.dic (oj ks k) (nZ ks ps k v))))).ok s'/\Stp z.bad z.H z.H s.heap s'.heap) E s:=by
 obtain⟨kus,sm,dd,zl,ek,ds⟩:=l
 have hkl:kus.length<=100000:=by rw[←ek,a0i] at hl;exact hl
 refine wpAny_setItem_pairs (hsz:=zl) (nM rk) dd λh' dd' hs=>?_
 obtain⟨q,es,ep',hq,hx,_⟩:=id dd'
 refine Z.ok.mut hz o (λb u hb hu=>(hs.2 b hb).trans hu) (t:=.dic (oj ks k) (nZ ks ps k v)) rfl ⟨q,hq,by rw[hx.1];intro w;exact absurd (Value.type.inj w) (by decide)⟩ λc ec kp=>?_
 subst ec
 obtain⟨h1,h2,h3⟩:=KB (k:=k) d ds
 rw[ek] at h1 h2
 exact⟨a,rfl,hH,_,sm,dd',a1r h3 (Lr hkl),h1,h2.mono kp⟩
noncomputable def zi (v:Option PV)(o:Option Sl)(k:Option PV)(j:Nat)(ρ:ao):Out:=match v,o,k with
 |some v,some (.dic ks ps),some k=>match fJ k with
  |some k=>if ks.length<=100000 then .nx (ρ.set j (some (.dic (oj ks k) (nZ ks ps k v)))) else .bad
  |none=>.bad
 |_,_,_=>.bad
noncomputable def sg (j:Nat)(fi f:FE):FS:=λρ=>zi ((f ρ).bind RV.fr) (sl ρ j) ((fi ρ).bind RV.fr) j ρ
theorem Jv {ix o:Expr}{fi f:FE}{p:Pos}{tpos:Pos}(hN:X.N[j]?=some x)(hv:qp X.env.scope x)(hd:(x==("__debug__" : Str))=false)(hcd:(x==("__classdict__" : Str))=false)(hi:NE X ix fi)(h:NE X o f)
  (hs:swapsWithSole [.Subscript (.Name x p) ix tpos] o pos.line X.env=pure false) (hw:swappedStores [.Subscript (.Name x p) ix tpos] o X.env=pure none)
  (h1:(assignEach [.Subscript (.Name x p) ix tpos] X.env).map (·.2)=[assign (.Subscript (.Name x p) ix tpos) X.env])
  (ha:∀v,assign (.Subscript (.Name x p) ix tpos) X.env v=(do
   let ov ←holding [v] (eval (.Name x p) X.env)
   let iv ←holding [v,ov] (eval ix X.env)
   standAt tpos
   holding [v,ov,iv] (setItem ov iv v)
   release [v,ov,iv] [])):NS X (.Assign [.Subscript (.Name x p) ix tpos] o pos) (sg j fi f):=λz s E hz hb=>by
 unfold sg zi at hb ⊢
 split at hb
 ·next v ks ps k ev es ek=>
  split at hb
  ·next kk ekk=>
   split at hb
   ·next hl=>
    rw[if_pos hl]
    obtain⟨r,er,ev⟩:=a0a.mp ev
    obtain⟨rk,erk,ek⟩:=a0a.mp ek
    refine wpAny_Assign_stores (aY (h z s r E hz er) λu s1 q=>?_) hs hw
    rw[h1]
    show W X (assign _ X.env u) _ E s1
    rw[ha]
    obtain⟨a,o1,_,_⟩:=Z.ok.owned hz es rfl
    refine wpAny_bind (wpAny_holding (lN q.1.1 o1.2 hN hv hd hcd ?_))
    refine wpAny_bind (wpAny_holding (aY (hi z s1 rk E q.1.1 erk) λiv s2 q2=>?_))
    have dk:=q2.2.fr ek
    obtain⟨o2,hH,l⟩:=Em q2.1.1 es o1.2
    refine wpAny_bind (wpAny_standAt (wpAny_bind (wpAny_holding (aY (GX q2.1.1 o2 hH l hl (ft ekk dk) ((q.2.fr ev).m q2.1.2.kpD)) λ_ s3 w=>?_))))
    exact wpAny_release ⟨rfl,z.σ,z.H,w.1,(q.1.2.trans q2.1.2).stp.trans w.2⟩
   ·exact absurd rfl hb
  ·exact absurd rfl hb
 ·exact absurd rfl hb
end
section
variable {P:Program}{w:World}{tg:Expr}{h h':Heap}
noncomputable def L6:cR->PV
 |.inl i=>.int i
 |.inr x=>.str x
theorem IN {c:Cn}{k:cR}{u:Value}(e:(bB P w).is k u=true):D c h (L6 k) u:=by
 cases k with
 |inl i=>
  have e:Value.isInt i u=true:=e
  cases u<;>simp[Value.isInt] at e
  subst e;exact⟨_,rfl⟩
 |inr x=>
  have e:nY (.inr x) u=true:=e
  cases u<;>simp[nY,Value.isStrOf] at e
  subst e;exact⟨_,rfl⟩
theorem GZ {a it:Addr}{ps:List PV}{ep:Nat}{kus:List (cR×Value)}:Trn P w tg it [it] [] ps (λi c h=>h.IsValIter it a i kus.length ep/\h.DictAt (bB P w) a kus ep/\Ds c h ps (kus.map (·.2))/\c.ok a/\c.P=P/\c.w=w) where
 obj:=λi c h st b hb=>by
  have e:b=it:=by simpa using hb
  subst e
  obtain⟨⟨o,e,_,d⟩,_⟩:=st
  exact⟨o,e,λv z=>by rw[d] at z;cases z⟩
 keep:=λi c c' h h' st k kk=>by
  obtain⟨st,⟨o,es,g,r⟩,ds,ok,e1,e2⟩:=st
  exact⟨st.at λo e=>kk it (.inl (by simp)) o e,⟨o,es,(k.kp a _ ok g).2,r⟩,ds.mono k,(k.kp a _ ok g).1,by rw[k.P,e1],by rw[k.w,e2]⟩
 item:=λX hP hw hc z s E i p hz hf hp st hx=>by
  subst hP hw
  obtain⟨st,da,ds,ok,e1,e2⟩:=st
  obtain⟨u,hu,du⟩:=ds.get hx
  rw[a0q] at hu
  obtain⟨⟨k,u'⟩,hku,rfl⟩:=a0d.mp hu
  refine wpAny_pyNext_values_item st da hku λh' st' sb=>?_
  have go:=hz.turn (t:=s.toks) (h':=h') hf (λb o hb e=>(sb.2 b (by simpa using hb)).trans e) λb hb=>by
   rw[show b=it by simpa using hb];exact⟨_,st'.choose_spec.1⟩
  have kp:Kp z.cn z.cn s.heap h':=go.2.kpD
  obtain⟨o,e,c,d⟩:=id st'
  obtain⟨o2,es,g2,r2⟩:=da
  exact⟨u',rfl,uH (s:={ s with heap:=h' }) e c d (by decide) ⟨go,du.m kp,st',⟨o2,es,(kp.kp a _ ok g2).2,r2⟩,ds.mono kp,ok,e1,e2⟩⟩
 done:=λX hP hw hc z s E i hz hf hp st hx=>by
  subst hP hw
  obtain⟨st,da,ds,ok,e1,e2⟩:=st
  have hl:=ds.length
  rw[a0i] at hl
  obtain⟨f,bd⟩:=hf it (by simp)
  exact wpAny_pyNext_values_end (hz.I.ok.hd hc) st da (a3z (by omega)) λh' eb=>⟨rfl,hz.I.turned (t':=s.toks) (λb o hb e=>eb b o hb e) f.1 f.2.1 f.2.2.2.1 f.2.2.2.2.1 f.2.2.2.2.2,λb o hb e=>eb b o (by simpa using hb) e⟩
 self:=λA i c s Q E st q=>wpAny_pyIter_valiter st.1 q
theorem GD {a it:Addr}{ep:Nat}{kus:List (cR×Value)}:Trn P w tg it [it] [] (kus.map λkv=>L6 kv.1) (λi c h=>h.IsKeyIter it a i kus.length ep/\h.DictAt (bB P w) a kus ep/\c.ok a) where
 obj:=λi c h st b hb=>by
  have e:b=it:=by simpa using hb
  subst e
  obtain⟨⟨o,e,_,d⟩,_⟩:=st
  exact⟨o,e,λv z=>by rw[d] at z;cases z⟩
 keep:=λi c c' h h' st k kk=>by
  obtain⟨st,⟨o,es,g,r⟩,ok⟩:=st
  exact⟨st.at λo e=>kk it (.inl (by simp)) o e,⟨o,es,(k.kp a _ ok g).2,r⟩,(k.kp a _ ok g).1⟩
 item:=λX hP hw hc z s E i p hz hf hp st hx=>by
  subst hP hw
  obtain⟨st,da,ok⟩:=st
  rw[a0q] at hx
  obtain⟨⟨k,u'⟩,hku,rfl⟩:=a0d.mp hx
  refine wpAny_pyNext_dict_item st da hku λkey h' hk st' sb=>?_
  have go:=hz.turn (t:=s.toks) (h':=h') hf (λb o hb e=>(sb.2 b (by simpa using hb)).trans e) λb hb=>by
   rw[show b=it by simpa using hb];exact⟨_,st'.choose_spec.1⟩
  have kp:Kp z.cn z.cn s.heap h':=go.2.kpD
  obtain⟨o,e,c,d⟩:=id st'
  obtain⟨o2,es,g2,r2⟩:=da
  exact⟨key,rfl,uH (s:={ s with heap:=h' }) e c d (by decide) ⟨go,IN hk,st',⟨o2,es,(kp.kp a _ ok g2).2,r2⟩,ok⟩⟩
 done:=λX hP hw hc z s E i hz hf hp st hx=>by
  subst hP hw
  obtain⟨st,da,ok⟩:=st
  rw[a0i] at hx
  obtain⟨f,bd⟩:=hf it (by simp)
  exact wpAny_pyNext_dict_end (hz.I.ok.hd hc) st da (a3z (by omega)) λh' eb=>⟨rfl,hz.I.turned (t':=s.toks) (λb o hb e=>eb b o hb e) f.1 f.2.1 f.2.2.2.1 f.2.2.2.2.1 f.2.2.2.2.2,λb o hb e=>eb b o (by simpa using hb) e⟩
 self:=λA i c s Q E st q=>wpAny_pyIter_keyiter st.1 q
end
section
variable {X:Cx}{tg o:Expr}{f:FE}{apos cpos:Pos}
noncomputable def pb:PV->Option (List PV)
 |.dct _ ps=>some ps
 |_=>none
noncomputable def pi:PV->Option (List PV)
 |.dct ks _=>some (ks.map L6)
 |_=>none
noncomputable def yv (f:FE):FI:=λρ=>(f ρ).bind λr=>r.fr.bind pb
noncomputable def CY (f:FE):FI:=λρ=>(f ρ).bind λr=>r.fr.bind pi
theorem tH {P:Program}{w:World}{h:Heap}{d:Addr}{vs:List (cR×Value)}(x:h.DictOf (bB P w) d vs):∃ep,h.DictAt (bB P w) d vs ep:=by
 obtain⟨o,es,ep,h1,h2,h3,h4⟩:=x
 exact⟨ep,o,es,h1,h2,h3,h4⟩
theorem KW (h:NE X o f):NI X true tg o (CY f):=λz s its E hz q=>by
 obtain⟨r,e1,q⟩:=a0a.mp q
 obtain⟨p,e2,q⟩:=a0a.mp q
 refine aY (h z s r E hz e1) λv s1 q1=>?_
 have d:=q1.2.fr e2
 unfold pi at q
 split at q
 ·next ks ps=>
  cases q
  obtain⟨a,kus,rfl,ok,sm,dd,zl,rfl,ds⟩:=d
  obtain⟨ep,da⟩:=tH dd
  rw[a1d]
  have g2:∀o:Obj,z.go s { s1 with heap:=s1.heap.push o }:=λo=>q1.1.trans (q1.1.1.push o s1.toks)
  have kk:∀o:Obj,Kp z.cn (bC X (λb=>z.bad b\/b∈[s1.heap.objs.size]) z.H) s1.heap (s1.heap.push o):=λo=>uJ q1.1.1 (λb o e=>Heap.get?_push_of_some _ e) (fA (P:=λb=>s1.heap.objs.size<=b) (a0n _))
  refine wpAny_pyIter_dict sm da ⟨s1.heap.objs.size,[s1.heap.objs.size],[],_,rfl,λ_=>rfl,λb q=>(nomatch q),GD (a:=a) (kus:=kus) (ep:=ep),g2 _,fA (q1.1.1.fp q1.1.2 (a0n _)),⟨_,Heap.get?_push_size _ rfl,rfl,rfl⟩,?_,?_⟩
  ·obtain⟨o2,es,g,r⟩:=da
   exact⟨o2,es,Heap.get?_push_of_some _ g,r⟩
  ·obtain⟨o2,es,g,r⟩:=da
   exact ((kk { cls:=.type "list" }).kp a o2 ok g).1
 ·cases q
theorem LV (h:NE X o f)(hbase:attributeBase o "values" X.env (eval o X.env)=eval o X.env:=by rfl)(hline:(apos.endLine==cpos.line)=true:=by rfl):NI X true tg (.Call (.Attribute o "values" apos) [] [] cpos) (yv f):=λz s its E hz q=>by
 obtain⟨r,e1,q⟩:=a0a.mp q
 obtain⟨p,e2,q⟩:=a0a.mp q
 refine wpAny_Call_method0_late hbase hline (aY (h z s r E hz e1) λv s1 q1=>?_)
 have d:=q1.2.fr e2
 unfold pb at q
 split at q
 ·next ks ps=>
  cases q
  obtain⟨a,kus,rfl,ok,sm,dd,zl,ek,ds⟩:=d
  obtain⟨ob,_,_,hob,hx,_⟩:=id dd
  refine⟨"dict","dict.values",PySem.F.plainAttrs_dict,PySem.F.slot_dict_values,PySem.F.type_dict_values,dd.typeIs,λb e=>by cases e;exact⟨ob,hob,hx.2.1⟩,Calls.callWith_builtin rfl (PySem.evalArgs_none (call_meetsIn PySem.F.slot_dict_values dd.typeIs PySem.F.entry_dict_values (PySem.F.args_dict_values_1 _) (meets_dict_values (bB X.prog X.w) a sm) ⟨⟨kus,dd⟩,?_⟩))⟩
  have g1:=q1.1.trans (q1.1.1.push { cls:=.type "dict_values",data:=.fields #[.ref a] } s1.toks)
  have dd1:(s1.heap.push { cls:=.type "dict_values",data:=.fields #[.ref a] }).DictOf (bB X.prog X.w) a kus:=by
   obtain⟨o2,es,ep,g,r⟩:=dd;exact⟨o2,es,ep,Heap.get?_push_of_some _ g,r⟩
  have ds1:=ds.mono (q1.1.1.push { cls:=.type "dict_values",data:=.fields #[.ref a] } s1.toks).2.kpD
  obtain⟨ep,da⟩:=tH dd1
  refine wpAny_pyIter_values (knd:=bB X.prog X.w) (d:=a) (kvs:=kus) (ep:=ep) ⟨_,Heap.get?_push_size _ rfl,rfl,rfl⟩ da ?_
  have kk:∀o:Obj,Kp z.cn (bC X (λb=>z.bad b\/b∈[(s1.heap.push { cls:=.type "dict_values",data:=.fields #[.ref a] }).objs.size]) z.H) (s1.heap.push { cls:=.type "dict_values",data:=.fields #[.ref a] }) ((s1.heap.push { cls:=.type "dict_values",data:=.fields #[.ref a] }).push o):=
   λo=>uJ (s1:={ s1 with heap:=s1.heap.push { cls:=.type "dict_values",data:=.fields #[.ref a] } }) g1.1 (λb o e=>Heap.get?_push_of_some _ e) (fA (P:=λb=>_<=b) (a0n _))
  refine⟨_,[_],[],_,rfl,λ_=>rfl,λb q=>(nomatch q),GZ (a:=a) (kus:=kus) (ep:=ep),g1.trans (g1.1.push _ _),fA (g1.1.fp g1.2 (a0n _)),⟨_,Heap.get?_push_size _ rfl,rfl,rfl⟩,?_,ds1.mono (kk _),?_,rfl,rfl⟩
  ·obtain⟨o2,es,g,r⟩:=da
   exact⟨o2,es,Heap.get?_push_of_some _ g,r⟩
  ·obtain⟨o2,es,g,r⟩:=da
   exact ((kk { cls:=.type "dict_values",data:=.fields #[.ref a] }).kp a o2 ok g).1
 ·cases q
end
noncomputable def Hk.or (a b:Hk):Hk where
 e:=λG rE rB L e=>(a.e G rE rB L e).orElse λ_=>b.e G rE rB L e
 i:=λG L f tg it=>(a.i G L f tg it).orElse λ_=>b.i G L f tg it
 b:=λG rE rB L e=>(a.b G rE rB L e).orElse λ_=>b.b G rE rB L e
 s:=λG rE rB rS L s=>(a.s G rE rB rS L s).orElse λ_=>b.s G rE rB rS L s
theorem Pf {α:Type}{a b:Option α}{r:α}(h:(a.orElse λ_=>b)=some r):a=some r\/b=some r:=by
 cases a with
 |none=>exact .inr h
 |some=>exact .inl h
theorem sK {a b:Hk}(ha:HkOk a)(hb:HkOk b):HkOk (a.or b):=
 ⟨λo h1 h2 e f h=>(Pf h).elim (ha.e o h1 h2 e f) (hb.e o h1 h2 e f),λo h1 tg it f h=>(Pf h).elim (ha.i o h1 tg it f) (hb.i o h1 tg it f),λo h1 h2 e f h=>(Pf h).elim (ha.b o h1 h2 e f) (hb.b o h1 h2 e f),λo h1 h2 h3 s f h=>(Pf h).elim (ha.s o h1 h2 h3 s f) (hb.s o h1 h2 h3 s f)⟩
noncomputable def Qu:Expr->Option Unit
 |.Dict ks vs _=>(u0 () ks).bind λ_=>u0 () vs
 |_=>none
noncomputable def Pu:Expr->Option (Expr×Expr)
 |.Dict ks vs _=>(u1 ks).bind λk=>k.bind λk=>(u1 vs).map λv=>(k,v)
 |_=>none
theorem Kc {e:Expr}(h:Qu e=some ()):∃p,e=.Dict [] [] p:=by
 cases e<;>first|(cases h;done)|skip
 replace h:=a0a.mp h;obtain⟨_,e1,h⟩:=h
 obtain⟨rfl,_⟩:=oi e1
 obtain⟨rfl,_⟩:=oi h
 exact⟨_,rfl⟩
theorem L4 {e k v:Expr}(h:Pu e=some (k,v)):∃p,e=.Dict [some k] [v] p:=by
 cases e<;>first|(cases h;done)|skip
 replace h:=a0a.mp h;obtain⟨_,e1,h⟩:=h
 replace h:=a0a.mp h;obtain⟨_,e2,h⟩:=h
 replace h:=a0d.mp h;obtain⟨_,e3,h⟩:=h
 cases h
 rw[eD e1,eD e3,e2]
 exact⟨_,rfl⟩
noncomputable def vX (f:Expr->FE)(e:Expr):FX:=match Qu e with
 |some _=>yG
 |none=>match Pu e with
  |some t=>rA (f t.1) (f t.2)
  |none=>xE (f e)
noncomputable def GP:Expr->Bool
 |.Dict _ _ _=>true
 |_=>false
section
variable {X:Cx}{k:Nat}{G:Gd}{L:Lc}{x:Str}{i:Nat}{pos:Pos}
theorem DW {f:Expr->FE}(h:∀e,NE X e (f e))(e:Expr):NX X e (vX f e):=by
 unfold vX
 cases h0:Qu e with
 |some u=>obtain⟨p,rfl⟩:=Kc h0;exact L9
 |none=>
  cases h1:Pu e with
  |some t=>obtain⟨k,v⟩:=t;obtain⟨p,rfl⟩:=L4 h1;exact L3 (h _) (h _)
  |none=>exact Oz (h _)
end
noncomputable def Ju (rE:Lc->Expr->FE)(L:Lc)(x y:Str×Pos)(a b:Expr):Option FS:=
 jE ((L.own.contains x.1 || L.own.contains y.1 || L.dic.contains x.1 || L.dic.contains y.1)&&(MC a || MC b || GP a || GP b))
  ((EQ L [.Name x.1 x.2,.Name y.1 y.2] [a,b]).bind λl=>l.bind λl=>(dF L x.1).bind λi=>(dF L y.1).bind λj=>jE (l==[x.1,y.1]&&jW a&&jW b&&i != j) (some (wn i j (vX (rE L) a) (vX (rE L) b))))
noncomputable def KQ (rE:Lc->Expr->FE)(L:Lc)(t v:Expr):Option FS:=
 (Gj t).bind λp=>(u2 p.1).bind λq=>(mE q.1).bind λx=>(mE q.2).bind λy=>(Gj v).bind λw=>(u2 w.1).bind λab=>Ju rE L x y ab.1 ab.2
noncomputable def KJ (rE:Lc->Expr->FE)(L:Lc)(t v:Expr):Option FS:=
 (mE t).bind λx=>jE (GP v) ((dF L x.1).map λi=>sx i (vX (rE L) v))
noncomputable def Nu (G:Gd)(rE:Lc->Expr->FE)(rB:Lc->Expr->FB)(rS:Lc->Stmt->FS)(L:Lc)(st:Stmt):Option FS:=
 (OG st).bind λt=>DC (KQ rE L t.1 t.2.1) (KJ rE L t.1 t.2.1)
noncomputable def HZ:Hk where
 s:=Nu
theorem BA:HkOk HZ where
 e:=λ_ _ _ _ _ h=>by cases h
 i:=λ_ _ _ _ _ h=>by cases h
 b:=λ_ _ _ _ _ h=>by cases h
 s:=λ{X k G L rE rB rS} o hE hB hS st f h=>by
  replace h:=a0a.mp h;obtain⟨⟨t,v,pos⟩,e,h⟩:=h
  cases uf e
  replace h:=je h;rcases h with h|h
  ·replace h:=a0a.mp h;obtain⟨⟨ts,kt,pt⟩,e1,h⟩:=h
   cases qb e1
   replace h:=a0a.mp h;obtain⟨⟨tx,ty⟩,e2,h⟩:=h
   cases jB e2
   replace h:=a0a.mp h;obtain⟨⟨x,px⟩,e3,h⟩:=h
   cases ci e3
   replace h:=a0a.mp h;obtain⟨⟨y,py⟩,e4,h⟩:=h
   cases ci e4
   replace h:=a0a.mp h;obtain⟨⟨vs,k2,pt2⟩,e5,h⟩:=h
   cases qb e5
   replace h:=a0a.mp h;obtain⟨⟨a,b⟩,e6,h⟩:=h
   cases jB e6
   replace h:=bA h;obtain⟨_,h⟩:=h
   replace h:=a0a.mp h;obtain⟨l0,hw,h⟩:=h
   replace h:=a0a.mp h;obtain⟨l,e7,h⟩:=h
   cases l0 with
   |none=>cases e7
   |some l0=>
   cases e7
   replace h:=a0a.mp h;obtain⟨i,hi,h⟩:=h
   replace h:=a0a.mp h;obtain⟨j,hj,h⟩:=h
   replace h:=bA h;obtain⟨z,h⟩:=h
   cases h
   rw[a0b,a0b,a0b,beq_iff_eq,bne_iff_ne] at z
   obtain⟨⟨⟨z0,z1⟩,z2⟩,z3⟩:=z
   rw[z0] at hw
   have s2:starEach [b] X.env=[(false,eval b X.env)]:=df z2 [] X.env
   exact I8 o.calm (fx o hi) (fx o hj) z3 (DW (hE o) a) (DW (hE o) b) (by rw[df z1 [b] X.env,s2]) (yR o hw) (by cases a<;>rfl)
  ·replace h:=a0a.mp h;obtain⟨⟨x,p⟩,e1,h⟩:=h
   cases ci e1
   replace h:=bA h;obtain⟨z,h⟩:=h
   replace h:=a0d.mp h;obtain⟨i,hi,h⟩:=h
   cases h
   have z:GP v=true:=z
   have sw:∀ln,swapsWith v (some (.Name x p)) ln X.env=pure false:=λln=>by cases v<;>first|rfl|(cases z)
   exact KM (fx o hi) (DW (hE o) _) (sw _)
noncomputable def Lm (L:Lc)(f:Expr->FE)(it:Expr):Option FI:=(mE it).bind λx=>jE (L.dic.contains x.1) (some (CY (f it)))
noncomputable def J2 (f:Expr->FE)(it:Expr):Option FI:=(Be it).bind λc=>(u0 () c.2.1).bind λ_=>(LR c.1).bind λa=>(mE a.1).bind λ_=>jE (decide (a.2.1 = "values")&&a.2.2.endLine==c.2.2.line) (some (yv (f a.1)))
noncomputable def MU (G:Gd)(L:Lc)(f:Expr->FE)(tg it:Expr):Option FI:=DC (Lm L f it) (J2 f it)
noncomputable def M5 (G:Gd)(rE:Lc->Expr->FE)(rB:Lc->Expr->FB)(rS:Lc->Stmt->FS)(L:Lc)(st:Stmt):Option FS:=
 (OG st).bind λt=>(Qt t.1).bind λb=>(mE b.1).bind λx=>jE (L.dic.contains x.1&&gu b.2.1&&!GG t.2.1) ((slot L x.1).map λi=>sg i (rE L b.2.1) (rE L t.2.1))
noncomputable def HI:Hk where
 i:=MU
 s:=M5
theorem DD:HkOk HI where
 e:=λ_ _ _ _ _ h=>by cases h
 i:=λ{X k G L f} o hf tg it g h=>by
  replace h:=je h;rcases h with h|h
  ·replace h:=a0a.mp h;obtain⟨⟨x,p⟩,e1,h⟩:=h
   replace h:=bA h;obtain⟨_,h⟩:=h
   cases h;exact KW (hf _)
  ·replace h:=a0a.mp h;obtain⟨⟨fn,as,cp⟩,e1,h⟩:=h
   cases ij e1
   replace h:=a0a.mp h;obtain⟨_,e2,h⟩:=h
   obtain⟨rfl,_⟩:=oi e2
   replace h:=a0a.mp h;obtain⟨⟨ob,m,ap⟩,e3,h⟩:=h
   cases nE e3
   replace h:=a0a.mp h;obtain⟨⟨x,p⟩,e4,h⟩:=h
   cases ci e4
   replace h:=bA h;obtain⟨z,h⟩:=h
   cases h
   rw[a0b,decide_eq_true_eq] at z
   obtain⟨rfl,z⟩:=z
   exact LV (hf _) rfl z
 b:=λ_ _ _ _ _ h=>by cases h
 s:=λ{X k G L rE rB rS} o hE hB hS st f h=>by
  replace h:=a0a.mp h;obtain⟨⟨t,v,pos⟩,e,h⟩:=h
  cases uf e
  replace h:=a0a.mp h;obtain⟨⟨ob,ix,tp⟩,e1,h⟩:=h
  cases BB e1
  replace h:=a0a.mp h;obtain⟨⟨x,p⟩,e2,h⟩:=h
  cases ci e2
  replace h:=bA h;obtain⟨z,h⟩:=h
  replace h:=a0d.mp h;obtain⟨i,hi,h⟩:=h
  cases h
  rw[a0b,a0b] at z
  obtain⟨h1,h2,h3⟩:=mO o hi
  exact Jv h1 h2 (bz h3).1 (bz h3).2.1 (hE o _) (hE o _) (by cases v<;>rfl) rfl rfl (yH z.1.2)
noncomputable def Rb (L:Lc)(f:Expr->FE)(s:Stmt):Option (Nat×FE):=(OG s).bind λt=>(mE t.1).bind λx=>(dF L x.1).bind λi=>jE (!ES L t.2.1 x.1 x.2) (some (i,f t.2.1))
noncomputable def Qv (L:Lc)(f:Expr->FE)(l:List Stmt):Option (List (Nat×FE)):=l.mapM (Rb L f)
noncomputable def QW (L:Lc)(f:Expr->FE)(it:FI)(i:Nat)(init:List Stmt)(dm:Stmt):Option FS:=
 (Q2 dm).bind λt=>(Be t.1).bind λc=>(LR c.1).bind λa=>(Be a.1).bind λc2=>(LR c2.1).bind λa2=>(mE a2.1).bind λd=>(u2 c2.2.1).bind λee=>(QK ee.2).bind λl=>(u0 () l.1).bind λ_=>(u1 c.2.1).bind λe2=>
  jE (decide (a2.2.1 = "setdefault")&&decide (a.2.1 = "append")&&a2.2.2.endLine==c2.2.2.line&&a.2.2.endLine==c.2.2.line&&jW ee.1&&jW e2)
   ((slot L d.1).bind λj=>(Qv L f init).bind λbd=>jE (i != j&&bd.all (λt=>t.1 != j)) (some (Dr j i it bd (f ee.1) (f e2))))
noncomputable def JS (G:Gd)(rE:Lc->Expr->FE)(L:Lc)(it:Expr):FI:=match Be it with
 |none=>qE (rE L it)
 |some c=>match (mE c.1).bind λr=>(u1 c.2.1).bind λa=>jE (decide (r.1 = "range")&&glob L "range"&&G.bi.contains "range"&&jW a) (some a) with
  |some a=>jY mU (vA (rE L) [a])
  |none=>qE (rE L it)
noncomputable def OY (G:Gd)(rE:Lc->Expr->FE)(rB:Lc->Expr->FB)(rS:Lc->Stmt->FS)(L:Lc)(st:Stmt):Option FS:=
 (Q6 st).bind λt=>(mE t.1).bind λy=>t.2.2.1.getLast?.bind λdm=>(dF L y.1).bind λi=>jE (D2 t.2.1) (QW L (rE L) (JS G rE L t.2.1) i t.2.2.1.dropLast dm)
section
variable {X:Cx}{k:Nat}{G:Gd}{L:Lc}{x:Str}{i:Nat}{pos:Pos}
theorem Dj (o:Ok0 X k G L){f:Expr->FE}(hf:∀e,NE X e (f e)):∀{body:List Stmt} {bd:List (Nat×FE)},Qv L f body=some bd->Vs X body bd
 |[],bd,h=>by cases h;exact .nil
 |s::r,bd,h=>by
  unfold Qv at h
  rw[a5l] at h
  replace h:=a0a.mp h;obtain⟨b,e,h⟩:=h
  replace h:=a0a.mp h;obtain⟨bs,er,h⟩:=h
  cases h
  obtain⟨⟨t,v,pos⟩,e1,h⟩:=a0a.mp e
  cases uf e1
  replace h:=a0a.mp h;obtain⟨⟨x,p⟩,e2,h⟩:=h
  cases ci e2
  replace h:=a0a.mp h;obtain⟨i,hi,h⟩:=h
  replace h:=bA h;obtain⟨z,h⟩:=h
  cases h
  exact .cons (fx o hi) (hf _) ((Ew o (v:=v) (t:=x) (p:=p) (ln:=pos.line)).trans (by rw[show ES L v x p=false by simpa using z])) (Dj o hf er)
theorem L5 (o:Ok0 X k G L){f:Expr->FE}(hf:∀e,NE X e (f e)){y:Str}{py:Pos}{it:Expr}{fi:FI}{init:List Stmt}{dm:Stmt}{g:FS}(hy:dF L y=some i)(hi:NI X true (.Name y py) it fi)(hs:D2 it=true)(h:QW L f fi i init dm=some g):NS X (.For (.Name y py) it (init++[dm]) [] pos) g:=by
 replace h:=a0a.mp h;obtain⟨⟨t,p7⟩,e,h⟩:=h
 cases J3 e
 replace h:=a0a.mp h;obtain⟨⟨fn,as,p6⟩,e,h⟩:=h
 cases ij e
 replace h:=a0a.mp h;obtain⟨⟨ob,m2,p5⟩,e,h⟩:=h
 cases nE e
 replace h:=a0a.mp h;obtain⟨⟨fn,as2,p4⟩,e,h⟩:=h
 cases ij e
 replace h:=a0a.mp h;obtain⟨⟨ob,m1,p2⟩,e,h⟩:=h
 cases nE e
 replace h:=a0a.mp h;obtain⟨⟨d,p1⟩,e,h⟩:=h
 cases ci e
 replace h:=a0a.mp h;obtain⟨⟨e1,l⟩,e,h⟩:=h
 cases jB e
 replace h:=a0a.mp h;obtain⟨⟨es,p3⟩,e,h⟩:=h
 cases LQ e
 replace h:=a0a.mp h;obtain⟨_,e,h⟩:=h
 obtain⟨q,_⟩:=oi e
 cases q
 replace h:=a0a.mp h;obtain⟨e2,e,h⟩:=h
 cases eD e
 replace h:=bA h;obtain⟨z,h⟩:=h
 rw[a0b,a0b,a0b,a0b,a0b,decide_eq_true_eq,decide_eq_true_eq] at z
 obtain⟨⟨⟨⟨⟨q1,q2⟩,z1⟩,z2⟩,z3⟩,z4⟩:=z
 cases q1;cases q2
 replace h:=a0a.mp h;obtain⟨j,hj,h⟩:=h
 replace h:=a0a.mp h;obtain⟨bd,hb,h⟩:=h
 replace h:=bA h;obtain⟨zz,h⟩:=h
 cases h
 rw[a0b,bne_iff_ne] at zz
 obtain⟨h1,h2,h3⟩:=mO o hj
 exact MJ o.calm hi (fx o hy) zz.1 (Dj o hf hb) zz.2 h1 h2 (bz h3).1 (bz h3).2.1
  (Bu z1 (by rw[a1h,z3];rfl) (by show 2<21;decide)) ⟨rfl,z2,by rw[nq (by rw[a1h,z4];rfl)];rfl,λe r he=>by
   cases he;exact⟨df z4 [] X.env,rfl⟩⟩ (df z3 _ X.env) (hf _) (hf _) (by intro y;cases it<;>first|rfl|(cases hs))
theorem Gh (o:Ok0 X k G L){rE:Lc->Expr->FE}(hE:Pd k G rE){tg it:Expr}:NI X true tg it (JS G rE L it):=by
 unfold JS
 cases hc:Be it with
 |none=>exact C7 (hE o _)
 |some c=>
  obtain⟨fn,as,p⟩:=c
  cases ij hc
  cases hq:(mE fn).bind λr=>(u1 as).bind λa=>jE (decide (r.1 = "range")&&glob L "range"&&G.bi.contains "range"&&jW a) (some a) with
  |none=>simp only[hq];exact C7 (hE o _)
  |some a=>
   simp only[hq]
   obtain⟨⟨r,rp⟩,e1,h⟩:=a0a.mp hq
   cases ci e1
   replace h:=a0a.mp h;obtain⟨b,e2,h⟩:=h
   cases eD e2
   replace h:=bA h;obtain⟨z,h⟩:=h
   cases h
   rw[a0b,a0b,a0b,decide_eq_true_eq] at z
   obtain⟨⟨⟨q,z2⟩,z3⟩,z4⟩:=z
   cases q
   obtain⟨hg,hd⟩:=kn o z2
   exact DB hg (o.g.bi _ z3) (j1 (hE o) [a]) (df z4 [] X.env)
end
noncomputable def I0:Hk where
 s:=OY
theorem Ef:HkOk I0 where
 e:=λ_ _ _ _ _ h=>by cases h
 i:=λ_ _ _ _ _ h=>by cases h
 b:=λ_ _ _ _ _ h=>by cases h
 s:=λ{X k G L rE rB rS} o hE hB hS st f h=>by
  replace h:=a0a.mp h;obtain⟨⟨t,it,body,pos⟩,e,h⟩:=h
  cases J6 e
  replace h:=a0a.mp h;obtain⟨⟨y,py⟩,e,h⟩:=h
  cases ci e
  replace h:=a0a.mp h;obtain⟨dm,hl,h⟩:=h
  have eb:body=body.dropLast++[dm]:=by
   obtain⟨r,e⟩:=List.getLast?_eq_some_iff.mp hl
   have e:body=r++[dm]:=e
   rw[e,a5h]
  replace h:=a0a.mp h;obtain⟨i,hi,h⟩:=h
  replace h:=bA h;obtain⟨hs,h⟩:=h
  rw[eb]
  exact L5 o (hE o) hi (Gh o hE) hs h
section
variable {X:Cx}{e:Expr}{f:FE}{i:Nat}{x:Str}{pos:Pos}
noncomputable def G9:PV->Option Bool
 |.lst ps=>some (!ps.isEmpty)
 |_=>none
noncomputable def O7 (f:FE):FB:=λρ=>(f ρ).bind λr=>G9 r.pv
theorem Mv (h:NE X e f)(hv:∀whole,isTrue e X.env whole=(do let v ←whole;standAt e.pos;holding [v] (truthy v))):NB X e (O7 f):=λz s k E hz q=>by
 obtain⟨r,er,q⟩:=a0a.mp q
 refine isTrue_plain (aY (h z s _ E hz er) λv s1 q1=>?_) (hv _)
 have d:=q1.2.rd
 unfold G9 at q
 split at q
 ·next ps ep=>
  cases q
  rw[ep] at d
  obtain⟨a,its,n,rfl,_,ho,zl,ds⟩:=d
  have l:=ds.length
  have hlb:=lD
  refine wpAny_truthy_list (bw ho) (by simp;omega) ⟨?_,q1.1.trans (q1.1.1.tok _)⟩
  rw[List.isEmpty_toArray]
  cases its<;>cases ps<;>simp at l ⊢
 ·cases q
theorem A0:fillsNumberSlot (.type "list") "add" = pure false:=by kernel_rfl
theorem rx:seqSlot? (.type "list") (dunderI "add")=pure (some (.builtin "list.__iadd__")):=by kernel_rfl
theorem x5 {M:Model}{A:Around}{E:Value->Shared->Prop}{s:Shared}{a b:Value}{Q:Value->Shared->Prop}(ha:s.TypeIs a "list")(hb:s.TypeIs b "list")(h:wpAny M A (call (.builtin "list.__iadd__") [a,b]) Q E s):wpAny M A (inplaceOp .Add a b) Q E s:=by
 unfold inplaceOp
 refine wpAny_holding (wpAny_bind (wpAny_typeOf ha ?_))
 have ef:fillsInplaceSlot (.type "list") "add" (Operator.Add==Operator.Add)=pure false:=by kernel_rfl
 refine wpAny_bind (wpAny_of_eq ef ?_)
 refine (?_:wpAny M A (binaryOp1 "add" a b >>= _) Q E s)
 refine wpAny_bind (wpAny_binaryOp1_none ha hb A0 ?_)
 refine wpAny_bind (wpAny_of_eq rx ?_)
 exact wpAny_bind (wpAny_rule h)
noncomputable def yg (o:Option Sl)(v:Option PV)(i:Nat)(ρ:ao):Out:=match o,v with
 |some (.own ps),some (.lst qs)=>if ps.length+qs.length<=100000 then .nx (ρ.set i (some (.own (ps++qs)))) else .bad
 |_,_=>.bad
noncomputable def v0 (i:Nat)(f:FE):FS:=λρ=>yg (sl ρ i) ((f ρ).bind RV.fr) i ρ
theorem JE {p':Pos}(n:Nm X i x)(h:NE X e f)(hd:(x==("__debug__" : Str))=false):NS X (.AugAssign (.Name x p') .Add e pos) (v0 i f):=λz s E hz hb=>by
 unfold v0 yg at hb ⊢
 split at hb
 ·next ps qs es ev=>
  split at hb
  ·next hl=>
   rw[if_pos hl]
   obtain⟨r,er,ev⟩:=a0a.mp ev
   have vis:qp X.env.scope x:=by rcases n.loc with k|k;exact .inl k;exact .inr (.inl k)
   obtain⟨a,oa,hH,d0⟩:=Z.ok.owned hz es rfl
   obtain⟨v,u,m,hn,rr,lk,e1,d,_⟩:=Z.ok.get hz es n.ix vis
   have:v=.ref a:=by have:=oa.2;rw[this] at e1;cases e1;rfl
   subst this
   cases (show u=Value.ref a from rr)
   refine wpAny_AugAssign_Name ?_
   have go:W X (eval e X.env) (λw s₂=>W X (inplaceOp .Add (.ref a) w) (λr s₃=>W X (storeName X.env x r) (λ_=>Z.sp z s (.nx (z.ρ.set i (some (.own (ps++qs))))) .next) E s₃) E s₂) E s:=
    aY (h z s r E hz er) λw s1 q=>by
     obtain⟨b,its2,n2,rfl,okb',hb2,zl2,ds2⟩:=q.2.fr ev
     obtain⟨o1,hH1,its,nn,hg,zl,ds⟩:=mC q.1.1 es oa.2
     have l1:=ds.length
     have l2:=ds2.length
     have hbb:=big hl
     have hsz:its.toArray.size+its2.toArray.size<=sizeLine:=by rw[a0h,a0h];omega
     have hlong:¬(!its.toArray.isEmpty&&Builtin.List.listTooLong (its.toArray.size+its2.toArray.size))=true:=by
      rw[vY hsz,a5k];exact a0u
     refine x5 ⟨_,hg,rfl⟩ ⟨_,hb2,rfl⟩ (call_meets F.slot_list_iadd ⟨_,hg,rfl⟩ F.entry_list_iadd (F.args_list_iadd_2 _ _) (AutoSeq1.list___iadd___list_list_0 a its.toArray nn b its2.toArray n2 hlong (by rw[a0h];omega) (by omega)) ⟨hg,hb2,?_⟩)
     have mm:=jA (z:=z) q.1.1 o1 hg (g:=λx=>x++its2.toArray) (its':=its++its2) (by simp) (ds.app ds2) (by rw[a0t];omega) hH1 s1.toks
     refine jo mm.1.I n.nd n.ix n.loc (v:=.ref a) rfl (λs' I' ⟨c,sb,hc⟩=>?_) n.fn
     have ex:=kD (z:=z.wi z.σ z.H (z.ρ.set i (some (.own (ps++qs))))) mm.1 I' sb hc
     have es':z.σ.set i (some (.ref a))=z.σ:=by
      obtain⟨hi,e⟩:=a0j.mp oa.2
      rw[←e];exact List.set_getElem_self hi
     rw[es'] at I'
     have g3:=Z.ok.ext mm.1 I' ex
     exact⟨rfl,z.σ,z.H,g3.1,q.1.2.stp.trans (mm.2.trans ex.stp)⟩
   rcases lk with ⟨hk,hm⟩|⟨hk,c,hc,hcell⟩
   ·exact wpAny_loadName_local hz.I.ok.kind hk hn hm go
   ·rcases hk with hk|hk
    ·exact wpAny_loadName_cell hz.I.ok.kind hk hc hcell go
    ·rcases n.loc with k|k
     ·have:X.env.scope.names.lookup x=some .free:=hk
      rw[k] at this;cases this
     ·have:X.env.scope.names.lookup x=some .free:=hk
      rw[k] at this;cases this
  ·exact absurd rfl hb
 ·exact absurd rfl hb
noncomputable def ux:List PV->Option RV
 |[.dct ks _]=>some (.nw (ks.map L6))
 |_=>none
theorem vJ {c:Cn}{h:Heap}:∀{kus:List (cR×Value)} {its:List Value},its.length=kus.length->(∀(i:Nat) (v:Value),its[i]?=some v->∃(k:cR) (x:Value),kus[i]?=some (k,x)/\(bB c.P c.w).is k v=true)->Ds c h ((kus.map (·.1)).map L6) its
 |[],its,hl,_=>by
  cases its with
  |nil=>rfl
  |cons=>cases hl
 |(k,x)::kus,its,hl,hi=>by
  cases its with
  |nil=>cases hl
  |cons v its=>
   obtain⟨k',x',e,hk⟩:=hi 0 v rfl
   cases e
   exact .cons (IN hk) (vJ (by simpa using hl) λi v e=>by simpa using hi (i+1) v (by simpa using e))
theorem Ff (hc:X.calm=true):dE X (.type "list") ux:=λz s ps us r E hz d q=>by
 unfold ux at q
 split at q
 ·next ks qs=>
  cases q
  obtain⟨u,rfl,du⟩:=d.one
  obtain⟨a,kus,rfl,_,sm,dd,zl,rfl,ds⟩:=du.rd
  obtain⟨ep,da⟩:=tH dd
  refine PySem.W.kdl_call (PySem.W.kdl_dict (knd:=bB X.prog X.w) sm) (hz.I.ok.hd hc) da zl λh' tk acc' c' kp e hI=>?_
  have hlen:acc'.toList.length=kus.length:=by rw[Array.length_toList];exact hI.1
  refine Z.ok.newL hz (its:=acc'.toList) (n:=c') (vJ (c:=z.cn) hlen λi v ev=>hI.2 i v (by rw[←Array.getElem?_toList];exact ev)) (by rw[hlen];exact zl) kp (by simpa [d9] using e)
 ·cases q
noncomputable def Dg (o:Option (List PV))(i j k:Nat)(ρ:ao):Out:=match o with
 |some [p,q,r]=>.nx (((ρ.set k (some (.val r))).set j (some (.val q))).set i (some (.val p)))
 |_=>.bad
noncomputable def MX (i j k:Nat)(fs:FA):FS:=λρ=>Dg ((fs ρ).bind λrs=>rs.mapM RV.fr) i j k ρ
end
noncomputable def Lu (rE:Lc->Expr->FE)(L:Lc)(st:Stmt):Option FS:=
 (OG st).bind λt=>(mE t.1).bind λy=>(Be t.2.1).bind λc=>(LR c.1).bind λa=>(mE a.1).bind λx=>(u1 c.2.1).bind λe=>
  jE (decide (a.2.1 = "pop")&&a.2.2.endLine==c.2.2.line&&jW e) ((slot L x.1).bind λi=>(dF L y.1).map λj=>xV oR j i (aa (rE L e) ah))
noncomputable def LW (rE:Lc->Expr->FE)(L:Lc)(st:Stmt):Option FS:=
 (Q5 st).bind λt=>(mE t.1).bind λx=>jE (IC t.2.1&&L.own.contains x.1&&!EU x.1) ((dF L x.1).map λi=>v0 i (rE L t.2.2.1))
noncomputable def M3 (G:Gd)(rE:Lc->Expr->FE)(rB:Lc->Expr->FB)(rS:Lc->Stmt->FS)(L:Lc)(st:Stmt):Option FS:=DC (Lu rE L st) (LW rE L st)
noncomputable def Ms (G:Gd)(rE:Lc->Expr->FE)(rB:Lc->Expr->FB)(L:Lc)(e:Expr):Option FB:=(mE e).bind λx=>jE (L.own.contains x.1) (some (O7 (rE L e)))
noncomputable def HV:Hk where
 b:=Ms
 s:=M3
theorem DA:HkOk HV where
 e:=λ_ _ _ _ _ h=>by cases h
 i:=λ_ _ _ _ _ h=>by cases h
 b:=λ{X k G L rE rB} o hE hB e f h=>by
  replace h:=a0a.mp h;obtain⟨⟨x,p⟩,e1,h⟩:=h
  cases ci e1
  replace h:=bA h;obtain⟨_,h⟩:=h
  cases h;exact Mv (hE o _) λ_=>rfl
 s:=λ{X k G L rE rB rS} o hE hB hS st f h=>by
  replace h:=je h;rcases h with h|h
  ·replace h:=a0a.mp h;obtain⟨⟨t,v,pos⟩,e,h⟩:=h
   cases uf e
   replace h:=a0a.mp h;obtain⟨⟨y,p⟩,e,h⟩:=h
   cases ci e
   replace h:=a0a.mp h;obtain⟨⟨fn,as,cp⟩,e,h⟩:=h
   cases ij e
   replace h:=a0a.mp h;obtain⟨⟨ob,m,ap⟩,e,h⟩:=h
   cases nE e
   replace h:=a0a.mp h;obtain⟨⟨x,q⟩,e,h⟩:=h
   cases ci e
   replace h:=a0a.mp h;obtain⟨ee,e,h⟩:=h
   cases eD e
   replace h:=bA h;obtain⟨z,h⟩:=h
   rw[a0b,a0b,decide_eq_true_eq] at z
   obtain⟨⟨q1,z1⟩,z2⟩:=z
   cases q1
   replace h:=a0a.mp h;obtain⟨i,hi,h⟩:=h
   replace h:=a0d.mp h;obtain⟨j,hj,h⟩:=h
   cases h
   have he:starEach [ee] X.env=(false,eval ee X.env)::starEach [] X.env:=df z2 [] X.env
   obtain⟨h1,h2,h3⟩:=mO o hi
   exact H4 En ⟨h1,h2,(bz h3).1,(bz h3).2.1,rfl,z1,by rw[nq (by rw[a1h,z2];rfl)];rfl,λe' r' q=>by cases q;exact⟨he,rfl⟩⟩ (fx o hj) (oV (hE o ee) lK he) (λq=>by cases q) rfl
  ·replace h:=a0a.mp h;obtain⟨⟨t,op,v,pos⟩,e,h⟩:=h
   cases Kw e
   replace h:=a0a.mp h;obtain⟨⟨x,p⟩,e,h⟩:=h
   cases ci e
   replace h:=bA h;obtain⟨z,h⟩:=h
   rw[a0b,a0b,a2e] at z
   cases DS z.1.1
   replace h:=a0d.mp h;obtain⟨i,hi,h⟩:=h
   cases h
   exact JE (fx o hi) (hE o v) (bz z.2).1
noncomputable def LH (rE:Lc->Expr->FE)(L:Lc)(fn:Expr)(as:List Expr)(p:Pos):Option FE:=
 (LR fn).bind λa=>(Be a.1).bind λc=>(mE c.1).bind λ_=>(uC c.2.1).bind λ_=>(uC as).bind λr=>jE (decide (a.2.1 = "get")&&a.2.2.endLine==p.line&&(r.1::r.2).all jW&&decide (r.2.length<20)) (some (vU mh (rE L a.1) (vA (rE L) (r.1::r.2))))
noncomputable def KT (G:Gd)(rE:Lc->Expr->FE)(L:Lc)(fn:Expr)(as:List Expr)(p:Pos):Option FE:=
 (mE fn).bind λx=>(u1 as).bind λa=>jE (decide (x.1 = "list")&&glob L x.1&&G.bi.contains x.1&&yc L p&&jW a) (some (fB ux (vA (rE L) [a])))
noncomputable def ON (G:Gd)(rE:Lc->Expr->FE)(rB:Lc->Expr->FB)(L:Lc)(e:Expr):Option FE:=(Be e).bind λc=>DC (LH rE L c.1 c.2.1 c.2.2) (KT G rE L c.1 c.2.1 c.2.2)
noncomputable def IM:Hk where
 e:=ON
theorem Ei:HkOk IM where
 e:=λ{X k G L rE rB} o hE hB e f h=>by
  replace h:=a0a.mp h;obtain⟨⟨fn,as,p⟩,e,h⟩:=h
  cases ij e
  replace h:=je h;rcases h with h|h
  ·replace h:=a0a.mp h;obtain⟨⟨ob,m,ap⟩,e,h⟩:=h
   cases nE e
   replace h:=a0a.mp h;obtain⟨⟨g,as0,fp⟩,e,h⟩:=h
   cases ij e
   replace h:=a0a.mp h;obtain⟨⟨g,gp⟩,e,h⟩:=h
   cases ci e
   replace h:=a0a.mp h;obtain⟨⟨a0,as0⟩,e,h⟩:=h
   cases qt e
   replace h:=a0a.mp h;obtain⟨⟨a,r⟩,e,h⟩:=h
   cases qt e
   replace h:=bA h;obtain⟨z,h⟩:=h
   cases h
   rw[a0b,a0b,a0b,decide_eq_true_eq,decide_eq_true_eq] at z
   obtain⟨⟨⟨q,z1⟩,z2⟩,z3⟩:=z
   cases q
   refine It HN ⟨rfl,z1,?_,λe' r' he=>?_⟩ (hE o _) (j1 (hE o) _) (λe=>by cases e)
   ·rw[nq z2]
    show (true&&true&&decide _)=true
    rw[a5t,a3i,decide_eq_true_eq]
    simp only[a2f,a4h,if_true,a0p]
    have z3:r.length<20:=z3
    omega
   ·cases he
    rw[a1h,a0b] at z2
    exact⟨df z2.1 r X.env,iR z2.2⟩
  ·replace h:=a0a.mp h;obtain⟨⟨x,q⟩,e,h⟩:=h
   cases ci e
   replace h:=a0a.mp h;obtain⟨a,e,h⟩:=h
   cases eD e
   replace h:=bA h;obtain⟨z,h⟩:=h
   cases h
   rw[a0b,a0b,a0b,a0b,decide_eq_true_eq] at z
   obtain⟨⟨⟨⟨q,z1⟩,z2⟩,z3⟩,z4⟩:=z
   cases q
   obtain⟨hg,hd⟩:=kn o z1
   obtain⟨d1,d2,d3⟩:=bz hd
   exact NQ (Ff o.calm) hg (o.g.bi _ z2) uv (j1 (hE o) [a]) d3 d1 (df z4 [] X.env) rfl
 i:=λ_ _ _ _ _ h=>by cases h
 b:=λ_ _ _ _ _ h=>by cases h
 s:=λ_ _ _ _ _ _ h=>by cases h
end Dp
end
section
namespace Dp
open PySem L2 Fo
section
variable {i j d:Nat}{ρ:ao}{g g1 g2:FX}{f f1 fk fv fi':FE}{s t:Sl}{p v k:PV}{ps its:List PV}{ks:List cR}{bd:List (Nat×FE)}{fi:FI}{gr:List Gr}
noncomputable def Ix (o:Option Sl)(i:Nat)(ρ:ao):Out:=match o with
 |some t=>.nx (ρ.set i (some t))
 |none=>.bad
theorem bc:sx i g ρ=Ix (g ρ) i ρ:=Eq.trans rfl rfl
theorem az:Ix (some t) i ρ=.nx (ρ.set i (some t)):=Eq.trans rfl rfl
theorem bp:wn i j g1 g2 ρ=Aa (g1 ρ) (g2 ρ) i j ρ:=Eq.trans rfl rfl
theorem aA:Aa (some s) (some t) i j ρ=.nx ((ρ.set i (some s)).set j (some t)):=Eq.trans rfl rfl
theorem de:xE f ρ=(f ρ).bind Et:=Eq.trans rfl rfl
theorem aB:Et (.fz p)=some (.val p):=Eq.trans rfl rfl
theorem aD:Et (.nw ps)=some (.own ps):=Eq.trans rfl rfl
theorem aP:yG ρ=some (.dic [] []):=Eq.trans rfl rfl
theorem aR:rA f f1 ρ=yq ((f ρ).bind RV.fr) ((f1 ρ).bind RV.fr):=Eq.trans rfl rfl
theorem aC:yq (some k) (some v)=(fJ k).map λk=>.dic [k] [v]:=Eq.trans rfl rfl
theorem bR:Dr d i fi bd fk fv ρ=yB (sl ρ d) (fi ρ) d i bd fk fv ρ:=Eq.trans rfl rfl
theorem bq:yB (some (.dic [] [])) (some its) d i bd fk fv ρ=if its.length<=1000 then FJ (nc i bd fk fv its (ρ.set d none) []) d else .bad:=Eq.trans rfl rfl
theorem bj:FJ (some (ρ,gr)) d=.nx (ρ.set d (some (.val (NH gr)))):=Eq.trans rfl rfl
theorem bO:Gx [] ρ=some ρ:=Eq.trans rfl rfl
theorem bL:Gx ((i,f)::bd) ρ=((f ρ).bind RV.fr).bind λp=>Gx bd (ρ.set i (some (.val p))):=Eq.trans rfl rfl
theorem bN:nc i bd fk fv [] ρ gr=some (ρ,gr):=Eq.trans rfl rfl
theorem bH:nc i bd fk fv (p::ps) ρ gr=(Gx bd (ρ.set i (some (.val p)))).bind λρ2=>(((fk ρ2).bind RV.fr).bind fJ).bind λk=>((fv ρ2).bind RV.fr).bind λv=>nc i bd fk fv ps ρ2 (qg gr k v):=Eq.trans rfl rfl
theorem bo:yv f ρ=(f ρ).bind λr=>r.fr.bind pb:=Eq.trans rfl rfl
theorem aE:pb (.dct ks ps)=some ps:=Eq.trans rfl rfl
theorem bn:CY f ρ=(f ρ).bind λr=>r.fr.bind pi:=Eq.trans rfl rfl
theorem aH:pi (.dct ks ps)=some (ks.map L6):=Eq.trans rfl rfl
theorem bP:NH gr=.dct (gr.map (·.1)) (gr.map λt=>.lst t.2):=Eq.trans rfl rfl
theorem bf:sg j fi' f ρ=zi ((f ρ).bind RV.fr) (sl ρ j) ((fi' ρ).bind RV.fr) j ρ:=Eq.trans rfl rfl
theorem aG {a:Int}:zi (some v) (some (.dic ks ps)) (some (.int a)) j ρ=if ks.length<=100000 then .nx (ρ.set j (some (.dic (oj ks (.inl a)) (nZ ks ps (.inl a) v)))) else .bad:=Eq.trans rfl rfl
theorem ay:ur (.dic ks ps)=.ln (.dct ks ps):=Eq.trans rfl rfl
theorem aO {a:Int}:bE (.dct ks ps) (.int a)=(mx ks ps (.inl a)).map .fz:=Eq.trans rfl rfl
theorem aT {a:Int}:zk (.int a) (.dct ks ps)=some (.fz (.bl (mx ks ps (.inl a)).isSome)):=Eq.trans rfl rfl
theorem aw {a:Int}:kB (.int a) (.dct ks ps)=some (.fz (.bl (!(mx ks ps (.inl a)).isSome))):=Eq.trans rfl rfl
theorem c8:O7 f ρ=(f ρ).bind λr=>G9 r.pv:=Eq.trans rfl rfl
theorem bh:G9 (.lst ps)=some (!ps.isEmpty):=Eq.trans rfl rfl
theorem aU {k:Int}:oR (.own ps) [.int k]=if 0<=k/\k<100000 then (ps[k.toNat]?).map λp=>(.own (ps.eraseIdx k.toNat),p) else none:=Eq.trans rfl rfl
theorem aQ:ux [.dct ks ps]=some (.nw (ks.map L6)):=Eq.trans rfl rfl
theorem be:v0 i f ρ=yg (sl ρ i) ((f ρ).bind RV.fr) i ρ:=Eq.trans rfl rfl
theorem ax {qs:List PV}:yg (some (.own ps)) (some (.lst qs)) i ρ=if ps.length+qs.length<=100000 then .nx (ρ.set i (some (.own (ps++qs)))) else .bad:=Eq.trans rfl rfl
theorem aM:frz 0 (some (.dic ks ps)::ρ)=some (.val (.dct ks ps))::ρ:=Eq.trans rfl rfl
theorem bg {k:Nat}{fs:FA}:MX i j k fs ρ=Dg ((fs ρ).bind λrs=>rs.mapM RV.fr) i j k ρ:=Eq.trans rfl rfl
theorem aF {p q r:PV}{k:Nat}:Dg (some [p,q,r]) i j k ρ=.nx (((ρ.set k (some (.val r))).set j (some (.val q))).set i (some (.val p))):=Eq.trans rfl rfl
end
end Dp
end
section
namespace Dp
open PySem PySem.Spec L2 PyProof.Rows
section
variable {prog:Program}{w:World}{A:Around}{R:Result->Shared->Prop}{I:Addr}{fp wr:List Addr}{n:Nat}{P:Nat->Value->Prop}{St:Nat->Heap->Prop}
noncomputable abbrev Oo (d:Value):List (Str×Value):=[(Str.ofString "default",d)]
noncomputable def OC (prog:Program)(w:World)(A:Around)(op:CmpOp)(h0:Heap)(P:Nat->Value->Prop)(bt:Nat->Nat->Bool)(n:Nat):Prop:=
 ∀i j vi vj (s:Shared) (Q:Value->Shared->Prop) (E:Value->Shared->Prop),i<n->j<i->(∀b o,h0.get? b=some o->s.heap.get? b=some o)->P i vi->P j vj->Q (.bool (bt i j)) s->wpAny (model prog w) A (richCompare op vi vj) Q E s
theorem lG (bt:Nat->Nat->Bool):∀j,argBest bt j<=j
 |0=>a0n _
 |j+1=>by
  rw[argBest]
  split
  ·exact a0n _
  ·exact Nat.le_succ_of_le (lG bt j)
theorem A6 (Wk:Walks prog w A.in1 I fp wr n P St)(bt:Nat->Nat->Bool)(hc:CmpOf prog w A.in1 CmpOp.Gt P bt)(S:Addr)(hSf:S∉fp)(kw:List (Str×Value)):∀(k j:Nat) (s:Shared) (vb:Value) (c:Nat),n - (j+1)=k->j+1<=n->St (j+1) s.heap->P (argBest bt j) vb->s.heap.get? S=some { cls:=Value.type "list",data:=Data.seq #[vb,vb] c } →
  (∀(v:Value) (h':Heap) (tk:Nat),P (argBest bt (n - 1)) v->(∀(b:Addr) (o:Obj),b∉wr->b≠S->s.heap.get? b=some o->h'.get? b=some o)->R (Except.ok (Flow.ret v)) { s with heap:=h',toks:=tk }) →
  codeAny (model prog w) A (Code.builtin "max.loop" { pos:=[Value.ref I,Value.none,Value.ref S],kw:=kw }) R s:=by
 have hSw:S∉wr:=λh=>hSf (Wk.sub _ h)
 have hname:(toString "max"++toString ".loop" : String) = "max.loop":=by decide
 intro k
 induction k with
 |zero=>
  intro j s vb c hk hj hst hPb hS hR
  have hin:j+1=n:=by omega
  refine codeAny_builtin F.entry_max_loop ?_
  rw[Around.under_plainId F.plain_max_loop _]
  show wpAny _ A.in1 (seqItems? (.ref S) >>= _) _ _ s
  refine wpAny_bind (wpAny_seqItems hS rfl ?_)
  show wpAny _ A.in1 (tryCatch (pyNext (.ref I)) _ >>= _) _ _ s
  refine wpAny_bind (wpAny_tryCatch (Wk.done s _ _ (hin▸hst) λh' tk hk'=>?_))
  have hS':=hk' S _ hSw hS
  show wpAny _ A.in1 (updateSeq S (λ_=>#[]) >>= _) _ _ _
  refine wpAny_bind ?_
  refine wpAny_updateSeq hS' rfl (wpAny_bind (wpAny_letGo (wpAny_pure ?_)))
  exact hR vb _ tk (by rw[←hin];exact hPb) λb o hbw hbS e=>(Heap.get?_update_other _ _ (Ne.symm hbS)).trans (hk' b o hbw e)
 |succ k ih=>
  intro j s vb c hk hj hst hPb hS hR
  have hlt:j+1<n:=by omega
  refine codeAny_builtin F.entry_max_loop ?_
  rw[Around.under_plainId F.plain_max_loop _]
  show wpAny _ A.in1 (seqItems? (.ref S) >>= _) _ _ s
  refine wpAny_bind (wpAny_seqItems hS rfl ?_)
  show wpAny _ A.in1 (tryCatch (pyNext (.ref I)) _ >>= _) _ _ s
  refine wpAny_bind (wpAny_tryCatch (Wk.item (j+1) s _ _ hlt hst λv h' tk hP hst' hk'=>?_))
  have hS':=hk' S _ hSw hS
  show wpAny _ A.in1 (tryCatch (holding [v,v] (richCompare .Gt v vb >>= _)) _ >>= _) _ _ _
  refine wpAny_bind (wpAny_tryCatch (wpAny_holding (wpAny_bind (hc (j+1) (argBest bt j) v vb _ _ _ hP hPb ?_))))
  refine wpAny_bind (wpAny_holding (wpAny_truthy_bool ?_))
  refine wpAny_bind (wpAny_letGo (wpAny_pure ?_))
  cases hb:bt (j+1) (argBest bt j) with
  |true=>
   simp only[if_true]
   refine wpAny_bind ?_
   refine wpAny_updateSeq hS' rfl (wpAny_bind (wpAny_letGo ?_))
   rw[hname]
   refine wpAny_pure ⟨plainId_quiet F.plain_max_loop _,ih (j+1) _ v _ (by omega) hlt (Wk.frame _ _ _ hst' λb hbf o e=>?_) (by simp only[argBest,hb,if_true];exact hP) (Heap.get?_update_self _ hS' rfl)
    λv' h'' tk'' hP' hk''=>?_⟩
   ·exact (Heap.get?_update_other _ _ (λh:S=b=>hSf (by rw[h];exact hbf))).trans e
   ·exact hR v' h'' tk'' hP' λb o hbw hbS e=>hk'' b o hbw hbS ((Heap.get?_update_other _ _ (Ne.symm hbS)).trans (hk' b o hbw e))
  |false=>
   simp only[a1z,if_false]
   refine wpAny_bind (wpAny_letGo ?_)
   rw[hname]
   refine wpAny_pure ⟨plainId_quiet F.plain_max_loop _,ih (j+1) _ vb c (by omega) hlt hst' (by simp only[argBest,hb,a1z,if_false];exact hPb) hS' λv' h'' tk'' hP' hk''=>?_⟩
   exact hR v' h'' tk'' hP' λb o hbw hbS e=>hk'' b o hbw hbS (hk' b o hbw e)
theorem xg (Wk:Walks prog w A.in1 I fp wr n P St)(bt:Nat->Nat->Bool)(hc:CmpOf prog w A.in1 CmpOp.Gt P bt)(S:Addr)(hSf:S∉fp)(d:Value){s:Shared}{c:Nat}(hst:St 0 s.heap)
  (hS:s.heap.get? S=some { cls:=Value.type "list",data:=Data.seq #[] c })
  (h0:n=0->∀h' tk,(∀(b:Addr) (o:Obj),b∉wr->b≠S->s.heap.get? b=some o->h'.get? b=some o)->R (Except.ok (Flow.ret d)) { s with heap:=h',toks:=tk })
  (hR:0<n->∀(v:Value) (h':Heap) (tk:Nat),P (argBest bt (n - 1)) v->(∀(b:Addr) (o:Obj),b∉wr->b≠S->s.heap.get? b=some o->h'.get? b=some o)->R (Except.ok (Flow.ret v)) { s with heap:=h',toks:=tk }) :
  codeAny (model prog w) A (Code.builtin "max.loop" { pos:=[Value.ref I,Value.none,Value.ref S],kw:=Oo d }) R s:=by
 have hSw:S∉wr:=λh=>hSf (Wk.sub _ h)
 have hname:(toString "max"++toString ".loop" : String) = "max.loop":=by decide
 refine codeAny_builtin F.entry_max_loop ?_
 rw[Around.under_plainId F.plain_max_loop _]
 show wpAny _ A.in1 (seqItems? (.ref S) >>= _) _ _ s
 refine wpAny_bind (wpAny_seqItems hS rfl ?_)
 show wpAny _ A.in1 (tryCatch (pyNext (.ref I)) _ >>= _) _ _ s
 by_cases hn:n=0
 ·subst hn
  refine wpAny_bind (wpAny_tryCatch (Wk.done s _ _ hst λh' tk hk'=>?_))
  show wpAny _ A.in1 (rule _ >>= _) _ _ _
  refine wpAny_bind (wpAny_rule (wpAny_pure ?_))
  exact h0 rfl _ _ λb o hbw _ e=>hk' b o hbw e
 ·have hn:0<n:=by omega
  refine wpAny_bind (wpAny_tryCatch (Wk.item 0 s _ _ hn hst λv h' tk hP hst' hk'=>?_))
  have hS':=hk' S _ hSw hS
  show wpAny _ A.in1 (updateSeq S (λ_=>#[v,v]) >>= _) _ _ _
  refine wpAny_bind ?_
  refine wpAny_updateSeq hS' rfl ?_
  rw[hname]
  refine wpAny_pure ⟨plainId_quiet F.plain_max_loop _,A6 Wk bt hc S hSf _ _ 0 _ v _ rfl hn (Wk.frame _ _ _ hst' λb hbf o e=>?_) hP (Heap.get?_update_self _ hS' rfl) λv' h'' tk'' hP' hk''=>?_⟩
  ·exact (Heap.get?_update_other _ _ (λh:S=b=>hSf (by rw[h];exact hbf))).trans e
  ·exact hR hn v' h'' tk'' hP' λb o hbw hbS e=>hk'' b o hbw hbS ((Heap.get?_update_other _ _ (Ne.symm hbS)).trans (hk' b o hbw e))
theorem AR (a v:Value):argsOk "max" ⟨[a],[(Str.ofString "default",v)]⟩:=by unfold argsOk;kernel_rfl
theorem AV {E:Value->Shared->Prop}{s:Shared}{x d:Value}{Q:Value->Shared->Prop}
  (h:wpAny (model prog w) A.in1 (pyIter x) (λit s₂=>∃I fp wr n P St bt,it=.ref I/\Walks prog w A.in1 I fp wr n P St/\St 0 s₂.heap/\(∀b∈fp,b<s₂.heap.objs.size)/\CmpOf prog w A.in1 .Gt P bt ∧
   (n=0->∀h' tk,(∀b o,b∉wr->s₂.heap.get? b=some o->h'.get? b=some o)->Q d { s₂ with heap:=h',toks:=tk }) ∧
   (0<n->∀v h' tk,P (argBest bt (n - 1)) v->(∀b o,b∉wr->s₂.heap.get? b=some o->h'.get? b=some o)->Q v { s₂ with heap:=h',toks:=tk })) E s) :
  wpAny (model prog w) A (call (.builtin "max") [x] (Oo d)) Q E s:=by
 have hname:(toString "max"++toString ".loop" : String) = "max.loop":=by decide
 refine kmk_tree F.kind_max F.plain_max F.entry_max (AR _ _) ?_
 show wpAny _ A.in1 (Builtin.Builtins.bindParams "max" ["key","default"] 0 ⟨[],Oo d⟩ >>= _) _ _ s
 refine wpAny_bind (wpAny_of_eq (show Builtin.Builtins.bindParams "max" ["key","default"] 0 ⟨[],Oo d⟩=pure [none,some d] from rfl) ?_)
 refine wpAny_bind (wpAny_pure ?_)
 refine wpAny_bind (wpAny_mono h (λit s₂ h₂=>?_) λ_ _ e=>e)
 obtain⟨I,fp,wr,n,P,St,bt,rfl,W,hst,hfp,hcmp,hQ0,hQ⟩:=h₂
 refine wpAny_bind (wpAny_newObj_type ?_)
 have hSf:s₂.heap.objs.size∉fp:=λhm=>a1k _ (hfp _ hm)
 rw[hname]
 refine wpAny_pure ⟨plainId_quiet F.plain_max_loop _,xg W bt hcmp s₂.heap.objs.size hSf d (W.frame _ _ _ hst λb _ o e=>Heap.get?_push_of_some _ e) (Heap.get?_push_size _ rfl) (λh0 h' tk hk=>?_) λh0 v h' tk hP hk=>?_⟩
 ·exact hQ0 h0 h' tk λb o hbw e=>hk b o hbw (a1j (Heap.lt_size e)) (Heap.get?_push_of_some _ e)
 ·exact hQ h0 v h' tk hP λb o hbw e=>hk b o hbw (a1j (Heap.lt_size e)) (Heap.get?_push_of_some _ e)
theorem GJ {E:Value->Shared->Prop}{s:Shared}{a b:Addr}{oa ob:Obj}{xr yr:List Value}{na nb:Nat}{x1 x2 y1 y2:Int}{t1 t2 u1 u2:Tok}{Q:PySem.Fin->Shared->Prop}
  (ha:s.heap.get? a=some oa) (ca:oa.cls=.type "tuple") (da:oa.data=.seq (.int x1 t1::.int x2 t2::xr).toArray na) (hb:s.heap.get? b=some ob) (cb:ob.cls=.type "tuple") (db:ob.data=.seq (.int y1 u1::.int y2 u2::yr).toArray nb) (ne:x2≠y2)
  (h:Q (.done (.ret (.bool (if x1=y1 then decide (x2<y2) else decide (x1<y1))))) s):wpAny (model prog w) A (Builtin.«tuple.__lt__» ⟨[.ref a,.ref b],[]⟩) Q E s:=by
 have lt:∀{x y:Int} {t u:Tok} {Q:Value->Shared->Prop},Q (.bool (decide (x<y))) s->wpAny (model prog w) A (richCompare .Lt (.int x t) (.int y u)) Q E s:=λ{x y t u Q} h=>richCompare_gives (op:=.Lt) (typeIs_int s _ t) (typeIs_int s _ u) F.slot_int_lt F.entry_int_lt (F.args_int_lt_2 _ _) (gives_int_lt _ _ t u) (λx=>nomatch x) h
 show wpAny _ _ (isInstance (.ref b) (.type "tuple") >>= _) _ _ s
 refine wpAny_bind (wpAny_isInstance (T:="tuple") ⟨ob,hb,cb⟩ sub_tuple_tuple ?_)
 simp only[a5v,a1z,if_false]
 refine wpAny_bind (wpAny_tupleItemsOf ha da ?_)
 refine wpAny_bind (wpAny_tupleItemsOf hb db ?_)
 simp only[a3t,a5f]
 refine wpAny_bind (wpAny_bind (wpAny_bind (wpAny_eqBool_int ?_)))
 by_cases e:x1=y1
 ·rw[if_pos e] at h
  rw[show (x1==y1)=true by rw[e];exact beq_self_eq_true _]
  simp only[a5v,a1z,if_false]
  refine wpAny_pure ?_
  simp only[a3t,a5f]
  refine wpAny_bind (wpAny_bind (wpAny_eqBool_int ?_))
  rw[show (x2==y2)=false from beq_eq_false_iff_ne.mpr ne]
  simp only[a5m,if_true]
  refine wpAny_bind (wpAny_rule (wpAny_bind (lt (wpAny_bind (wpAny_pure (wpAny_pure (wpAny_pure (wpAny_pure h))))))))
 ·rw[if_neg e] at h
  rw[show (x1==y1)=false from beq_eq_false_iff_ne.mpr e]
  simp only[a5m,if_true]
  refine wpAny_bind (wpAny_rule (wpAny_bind (lt (wpAny_bind (wpAny_pure (wpAny_pure (wpAny_pure (wpAny_pure h))))))))
theorem AY (Wk:Walks prog w A.in1 I fp wr n P St){h0:Heap}(bt:Nat->Nat->Bool)(hc:OC prog w A.in1 CmpOp.Lt h0 P bt n)(S:Addr)(hSf:S∉fp)(hS0:h0.get? S=none)(hw0:∀b∈wr,h0.get? b=none):∀(k j:Nat) (s:Shared) (vb:Value) (c:Nat),n - (j+1)=k->j+1<=n->(∀b o,h0.get? b=some o->s.heap.get? b=some o)->St (j+1) s.heap->P (argBest bt j) vb->s.heap.get? S=some { cls:=Value.type "list",data:=Data.seq #[vb,vb] c } →
  (∀(v:Value) (h':Heap) (tk:Nat),P (argBest bt (n - 1)) v->(∀b o,h0.get? b=some o->h'.get? b=some o)->R (Except.ok (Flow.ret v)) { s with heap:=h',toks:=tk }) →
  codeAny (model prog w) A (Code.builtin "min.loop" { pos:=[Value.ref I,Value.none,Value.ref S] }) R s:=by
 have hSw:S∉wr:=λh=>hSf (Wk.sub _ h)
 have hname:(toString "min"++toString ".loop" : String) = "min.loop":=by decide
 have kw:∀{h h':Heap},(∀b o,h0.get? b=some o->h.get? b=some o)->(∀b o,b∉wr->h.get? b=some o->h'.get? b=some o)->∀b o,h0.get? b=some o->h'.get? b=some o:=λk1 k2 b o e=>k2 b o (λy=>by rw[hw0 b y] at e;cases e) (k1 b o e)
 have ks:∀{h:Heap} (f:Array Value->Array Value),(∀b o,h0.get? b=some o->h.get? b=some o)->∀b o,h0.get? b=some o->(h.update S (Obj.mapSeq f)).get? b=some o:=λf k1 b o e=>(Heap.get?_update_other _ _ (λy=>by rw[←y,hS0] at e;cases e)).trans (k1 b o e)
 intro k
 induction k with
 |zero=>
  intro j s vb c hk hj k0 hst hPb hS hR
  have hin:j+1=n:=by omega
  refine codeAny_builtin F.entry_min_loop ?_
  rw[Around.under_plainId F.plain_min_loop _]
  show wpAny _ A.in1 (seqItems? (.ref S) >>= _) _ _ s
  refine wpAny_bind (wpAny_seqItems hS rfl ?_)
  show wpAny _ A.in1 (tryCatch (pyNext (.ref I)) _ >>= _) _ _ s
  refine wpAny_bind (wpAny_tryCatch (Wk.done s _ _ (hin▸hst) λh' tk hk'=>?_))
  have hS':=hk' S _ hSw hS
  show wpAny _ A.in1 (updateSeq S (λ_=>#[]) >>= _) _ _ _
  refine wpAny_bind ?_
  refine wpAny_updateSeq hS' rfl (wpAny_bind (wpAny_letGo (wpAny_pure ?_)))
  exact hR vb _ tk (by rw[←hin];exact hPb) (ks _ (kw k0 hk'))
 |succ k ih=>
  intro j s vb c hk hj k0 hst hPb hS hR
  have hlt:j+1<n:=by omega
  refine codeAny_builtin F.entry_min_loop ?_
  rw[Around.under_plainId F.plain_min_loop _]
  show wpAny _ A.in1 (seqItems? (.ref S) >>= _) _ _ s
  refine wpAny_bind (wpAny_seqItems hS rfl ?_)
  show wpAny _ A.in1 (tryCatch (pyNext (.ref I)) _ >>= _) _ _ s
  refine wpAny_bind (wpAny_tryCatch (Wk.item (j+1) s _ _ hlt hst λv h' tk hP hst' hk'=>?_))
  have hS':=hk' S _ hSw hS
  show wpAny _ A.in1 (tryCatch (holding [v,v] (richCompare .Lt v vb >>= _)) _ >>= _) _ _ _
  refine wpAny_bind (wpAny_tryCatch (wpAny_holding (wpAny_bind (hc (j+1) (argBest bt j) v vb _ _ _ hlt (Nat.lt_succ_of_le (lG bt j)) (kw k0 hk') hP hPb ?_))))
  refine wpAny_bind (wpAny_holding (wpAny_truthy_bool ?_))
  refine wpAny_bind (wpAny_letGo (wpAny_pure ?_))
  cases hb:bt (j+1) (argBest bt j) with
  |true=>
   simp only[if_true]
   refine wpAny_bind ?_
   refine wpAny_updateSeq hS' rfl (wpAny_bind (wpAny_letGo ?_))
   rw[hname]
   refine wpAny_pure ⟨plainId_quiet F.plain_min_loop _,ih (j+1) _ v _ (by omega) hlt (ks _ (kw k0 hk')) (Wk.frame _ _ _ hst' λb hbf o e=>?_) (by simp only[argBest,hb,if_true];exact hP) (Heap.get?_update_self _ hS' rfl)
    λv' h'' tk'' hP' hk''=>hR v' h'' tk'' hP' hk''⟩
   exact (Heap.get?_update_other _ _ (λh:S=b=>hSf (by rw[h];exact hbf))).trans e
  |false=>
   simp only[a1z,if_false]
   refine wpAny_bind (wpAny_letGo ?_)
   rw[hname]
   exact wpAny_pure ⟨plainId_quiet F.plain_min_loop _,ih (j+1) _ vb c (by omega) hlt (kw k0 hk') hst' (by simp only[argBest,hb,a1z,if_false];exact hPb) hS' λv' h'' tk'' hP' hk''=>hR v' h'' tk'' hP' hk''⟩
theorem AW {E:Value->Shared->Prop}{s:Shared}{x:Value}{Q:Value->Shared->Prop}
  (h:wpAny (model prog w) A.in1 (pyIter x) (λit s₂=>∃I fp wr n P St bt,it=.ref I/\Walks prog w A.in1 I fp wr n P St/\St 0 s₂.heap/\(∀b∈fp,b<s₂.heap.objs.size)/\0<n/\(∀b∈wr,s.heap.get? b=none)/\(∀b o,s.heap.get? b=some o->s₂.heap.get? b=some o)/\OC prog w A.in1 .Lt s.heap P bt n ∧
   ∀v h' tk,P (argBest bt (n - 1)) v->(∀b o,s.heap.get? b=some o->h'.get? b=some o)->Q v { s₂ with heap:=h',toks:=tk }) E s) :
  wpAny (model prog w) A (call (.builtin "min") [x]) Q E s:=by
 have hname:(toString "min"++toString ".loop" : String) = "min.loop":=by decide
 refine call_function_tree F.kind_min F.plain_min F.entry_min (F.args_min1 _) ?_
 show wpAny _ A.in1 (Builtin.Builtins.bindParams "min" ["key","default"] 0 ⟨[],[]⟩ >>= _) _ _ s
 refine wpAny_bind (wpAny_of_eq (show Builtin.Builtins.bindParams "min" ["key","default"] 0 ⟨[],[]⟩=pure [none,none] from rfl) ?_)
 refine wpAny_bind (wpAny_pure ?_)
 refine wpAny_bind (wpAny_mono h (λit s₂ h₂=>?_) λ_ _ e=>e)
 obtain⟨I,fp,wr,n,P,St,bt,rfl,W,hst,hfp,hn,hw0,k0,hcmp,hQ⟩:=h₂
 refine wpAny_bind (wpAny_newObj_type ?_)
 have hSf:s₂.heap.objs.size∉fp:=λhm=>a1k _ (hfp _ hm)
 rw[hname]
 refine wpAny_pure ⟨plainId_quiet F.plain_min_loop _,?_⟩
 have hS:(s₂.heap.push (seqObj "list" #[] 0)).get? s₂.heap.objs.size=some (seqObj "list" #[] 0):=Heap.get?_push_size _ rfl
 have hS0:s.heap.get? s₂.heap.objs.size=none:=by
  cases e:s.heap.get? s₂.heap.objs.size with
  |none=>rfl
  |some o=>exact absurd (Heap.lt_size (k0 _ o e)) (a1k _)
 have hSw:s₂.heap.objs.size∉wr:=λy=>hSf (W.sub _ y)
 have k1:∀b o,s.heap.get? b=some o->(s₂.heap.push (seqObj "list" #[] 0)).get? b=some o:=λb o e=>Heap.get?_push_of_some _ (k0 b o e)
 refine codeAny_builtin F.entry_min_loop ?_
 rw[Around.under_plainId F.plain_min_loop _]
 show wpAny _ A.in1 (seqItems? (.ref _) >>= _) _ _ _
 refine wpAny_bind (wpAny_seqItems hS rfl ?_)
 show wpAny _ A.in1 (tryCatch (pyNext (.ref I)) _ >>= _) _ _ _
 refine wpAny_bind (wpAny_tryCatch (W.item 0 _ _ _ hn (W.frame _ _ _ hst λb _ o e=>Heap.get?_push_of_some _ e) λv h' tk hP hst' hk'=>?_))
 have hS':=hk' _ _ hSw hS
 have k2:∀b o,s.heap.get? b=some o->h'.get? b=some o:=λb o e=>hk' b o (λy=>by rw[hw0 b y] at e;cases e) (k1 b o e)
 show wpAny _ A.in1 (updateSeq _ (λ_=>#[v,v]) >>= _) _ _ _
 refine wpAny_bind ?_
 refine wpAny_updateSeq hS' rfl ?_
 rw[hname]
 refine wpAny_pure ⟨plainId_quiet F.plain_min_loop _,AY W bt hcmp _ hSf hS0 hw0 _ 0 _ v _ rfl hn (λb o e=>(Heap.get?_update_other _ _ (λy=>by rw[←y,hS0] at e;cases e)).trans (k2 b o e)) (W.frame _ _ _ hst' λb hbf o e=>?_) hP (Heap.get?_update_self _ hS' rfl) λv' h'' tk'' hP' hk''=>?_⟩
 ·exact (Heap.get?_update_other _ _ (λh=>hSf (by rw[h];exact hbf))).trans e
 ·exact hQ v' h'' tk'' hP' hk''
end
section
variable {prog:Program}{w:World}{A:Around}{E:Value->Shared->Prop}{s:Shared}
theorem lO (hh:A.handled=none){a:Addr}{its:List Value}(h:IsTup s.heap a its.toArray\/∃n,s.heap.get? a=some (d9 its n)){Q:Value->Shared->Prop}
  (q:∀(o:Obj) (I:Addr) (fp:List Addr) (St:Nat->Heap->Prop),I=s.heap.objs.size->Walks prog w A I fp [I] its.toArray.size (λi v=>its.toArray[i]?=some v) St->St 0 (s.heap.push o)->(∀b∈fp,b<(s.heap.push o).objs.size)->Q (.ref I) { s with heap:=s.heap.push o }) :
  wpAny (model prog w) A (pyIter (.ref a)) Q E s:=by
 have fpo:∀o:Obj,a<s.heap.objs.size->∀b∈[s.heap.objs.size,a],b<(s.heap.push o).objs.size:=λo hl b hb=>by
  rw[Heap.size_push]
  rcases a0s.mp hb with rfl|hb
  ·exact a2j _
  ·rw[a0g.mp hb];exact a3v hl
 rcases h with ⟨o,ho,r⟩|⟨n,ho⟩
 ·have hl:=Heap.lt_size ho
  refine wpAny_pyIter_tuple (show s.heap.IsTuple a its.toArray from⟨o,ho,r⟩) (q _ _ _ _ rfl (Walks.tuple hh _ a (a1j hl) _) ⟨⟨_,Heap.get?_push_size _ rfl,rfl,rfl⟩,⟨o,Heap.get?_push_of_some _ ho,r⟩⟩ (fpo _ hl))
 ·have hl:=Heap.lt_size ho
  exact wpAny_pyIter_list (bw ho) (q _ _ _ _ rfl (Walks.list hh _ a (a1j hl) _) ⟨⟨_,Heap.get?_push_size _ rfl,rfl,rfl⟩,bw (Heap.get?_push_of_some _ ho)⟩ (fpo _ hl))
theorem uF {is:List Int}(h:0<is.length):is.getD (argBest (λi j=>decide (is.getD i 0 > is.getD j 0)) (is.length - 1)) 0=lP is:=by
 obtain⟨h1,h2⟩:=argBest_gt (λi=>is.getD i 0) (is.length - 1)
 obtain⟨m1,m2⟩:=kK h
 refine a2r (m2 _ (getD_mem (by omega))) ?_
 obtain⟨j,hj,e⟩:=mem_getD m1
 rw[←e];exact h2 j (by omega)
theorem o3 {its:List Value}{is:List Int}(hi:IntsAre its is)(i:Nat)(v:Value)(h:its.toArray[i]?=some v):∃t,v=.int (is.getD i 0) t:=by
 have h:its[i]?=some v:=by simpa using h
 have hl:=hi.length
 have hn:∃n,is[i]?=some n:=⟨_,a0f (by have:=(a0j.mp h).1;omega)⟩
 obtain⟨n,hn⟩:=hn
 obtain⟨t,ht⟩:=hi.get i n hn
 rw[ht] at h
 cases h
 exact⟨t,by rw[a0m,hn];rfl⟩
end
section
variable {X:Cx}
noncomputable def yL:List PV->Option RV
 |[p]=>(items p).bind λps=>(dJ ps).bind λis=>if is.length=0 then none else some (.fz (.int (lP is)))
 |_=>none
theorem LY (hc:X.calm=true):dE X (.builtin "max") yL:=λz s ps us r E hz d q=>by
 unfold yL at q
 split at q
 ·obtain⟨ps,e1,q⟩:=a0a.mp q
  obtain⟨is,e2,q⟩:=a0a.mp q
  obtain⟨u,rfl,du⟩:=d.one
  obtain⟨a,its,rfl,_,zl,ds,h⟩:=D1.items du.1 e1
  have hi:=my ds e2
  have hl:=hi.length
  split at q
  ·cases q
  ·next hne=>
   cases q
   refine call_max_walk (lO (A:=X.A.in1) (hz.I.ok.hd hc) h λo I fp St eI W st hfp=>⟨I,fp,[I],_,_,St,λi j=>decide (is.getD i 0 > is.getD j 0),rfl,W,st,hfp,by simp;omega,CmpOf.ints_gt (λi=>is.getD i 0) λi v hv=>o3 hi i v hv,λv h' tk hP hk=>?_⟩)
   obtain⟨t,rfl⟩:=o3 hi _ _ hP
   refine⟨hz.kept λb o e=>hk b o (λy=>by rw[a0g.mp y,eI] at e;exact absurd (Heap.lt_size e) (a1k _)) (Heap.get?_push_of_some _ e),t,?_⟩
   rw[a0h,hl,uF (by omega)]
 ·cases q
noncomputable def JV (p:PV):Option (Int×Int):=(Qm p).bind λps=>(uC ps).bind λq=>(qo q.1).bind λa=>(uC q.2).bind λr=>(qo r.1).map λb=>(a,b)
noncomputable def Ax:List PV->Option (List (Int×Int))
 |[]=>some []
 |p::ps=>(JV p).bind λk=>(Ax ps).map λks=>k::ks
theorem vt:∀{ps:List PV} {ks:List (Int×Int)},Ax ps=some ks->ps.length=ks.length/\∀i p,ps[i]?=some p->JV p=some (ks.getD i (0,0))
 |[],ks,h=>by cases h;exact⟨rfl,λi p e=>by simp at e⟩
 |q::ps,ks,h=>by
  obtain⟨k,e1,h⟩:=a0a.mp h
  obtain⟨ks',e2,rfl⟩:=a0d.mp h
  obtain⟨l,ih⟩:=vt e2
  refine⟨by simp[l],λi p e=>?_⟩
  cases i with
  |zero=>cases e;exact e1
  |succ i=>exact ih i p (by simpa using e)
noncomputable def Kf (ks:List (Int×Int))(i j:Nat):Bool:=if (ks.getD i (0,0)).1=(ks.getD j (0,0)).1 then decide ((ks.getD i (0,0)).2<(ks.getD j (0,0)).2) else decide ((ks.getD i (0,0)).1<(ks.getD j (0,0)).1)
noncomputable def yX:List PV->Option RV
 |[p]=>(kh p).bind λps=>(Ax ps).bind λks=>if 0<ks.length/\(ks.map (·.2)).Nodup then some (.fz (ps.getD (argBest (Kf ks) (ks.length - 1)) .non)) else none
 |_=>none
theorem zK {c:Cn}{h:Heap}{p:PV}{v:Value}{k:Int×Int}(e:JV p=some k)(d:D c h p v):∃b ob r t1 t2 n,v=.ref b/\h.get? b=some ob/\ob.cls=.type "tuple"/\ob.data=.seq (.int k.1 t1::.int k.2 t2::r).toArray n:=by
 obtain⟨ps,e1,e⟩:=a0a.mp e
 obtain⟨⟨x,xs⟩,e2,e⟩:=a0a.mp e
 obtain⟨a,e3,e⟩:=a0a.mp e
 obtain⟨⟨y,ys⟩,e4,e⟩:=a0a.mp e
 obtain⟨b,e5,rfl⟩:=a0d.mp e
 cases Dv e1;cases qt e2;cases c7 e3;cases qt e4;cases c7 e5
 ·obtain⟨b,its,rfl,_,⟨o,ho,hc,n,hd⟩,_,u1,r1,rfl,⟨t1,rfl⟩,u2,r2,rfl,⟨t2,rfl⟩,_⟩:=d
  exact⟨b,o,r2,t1,t2,n,rfl,ho,hc,hd⟩
theorem JL (hc:X.calm=true)(hu:X.A.units+64<cLine):dE X (.builtin "min") yX:=λz s ps us r E hz d q=>by
 unfold yX at q
 split at q
 ·obtain⟨ps,e1,q⟩:=a0a.mp q
  obtain⟨ks,e2,q⟩:=a0a.mp q
  obtain⟨u,rfl,du⟩:=d.one
  obtain⟨a,its,n,rfl,_,e3,zl,ds⟩:=D1.lst du.1 e1
  obtain⟨l1,hk⟩:=vt e2
  have l2:=ds.length
  split at q
  ·next hne=>
   cases q
   refine AW (lO (A:=X.A.in1) (hz.I.ok.hd hc) (.inr ⟨n,e3⟩) λo I fp St eI W st hfp=>⟨I,fp,[I],_,_,St,Kf ks,rfl,W,st,hfp,by rw[a0h];omega,λb hb=>?_,λb o e=>Heap.get?_push_of_some _ e,?_,λv h' tk hP hk'=>?_⟩)
   ·rw[a0g.mp hb,eI];exact Heap.get?_none_of_le (a0n _)
   ·intro i j vi vj s' Q E' hi hj k0 h1 h2 hq
    have h1:its[i]?=some vi:=by simpa using h1
    have h2:its[j]?=some vj:=by simpa using h2
    rw[a0h] at hi
    obtain⟨p1,f1⟩:∃p,ps[i]?=some p:=⟨_,a0f (by omega)⟩
    obtain⟨p2,f2⟩:∃p,ps[j]?=some p:=⟨_,a0f (by omega)⟩
    obtain⟨v1,g1,d1⟩:=ds.get f1
    obtain⟨v2,g2,d2⟩:=ds.get f2
    rw[h1] at g1;cases g1
    rw[h2] at g2;cases g2
    obtain⟨b1,o1,r1,t1,t2,n1,rfl,ho1,c1,a1⟩:=zK (hk _ _ f1) d1
    obtain⟨b2,o2,r2,t3,t4,n2,rfl,ho2,c2,a2⟩:=zK (hk _ _ f2) d2
    have ho1:=k0 _ _ ho1
    have ho2:=k0 _ _ ho2
    have hT1:s'.TypeIs (.ref b1) "tuple":=⟨o1,ho1,c1⟩
    have hT2:s'.TypeIs (.ref b2) "tuple":=⟨o2,ho2,c2⟩
    refine wpAny_richCompare_same_room (T:="tuple") hT1 hT2 F.slot_tuple_lt (wpAny_call_entry F.slot_tuple_lt hT1 F.entry_tuple_lt (GJ ho1 c1 a1 ho2 c2 a2 ?_ ⟨_,rfl,?_,hq⟩) (F.args_tuple_lt_2 _ _)) (show X.A.units+1<cLine by omega)
    ·intro e
     have gi:i<(ks.map (·.2)).length:=by rw[a0i];omega
     have gj:j<(ks.map (·.2)).length:=by rw[a0i];omega
     have e3:(ks.map (·.2))[i]=(ks.map (·.2))[j]:=by
      rw[a4f,a4f]
      rw[a0m,a0m,a0f (by omega),a0f (by omega)] at e
      exact e
     have:=(a3d.mp hne.2)
     have:=(a2m.mp this) j i gj gi hj
     exact this e3.symm
    ·intro y;cases y
   ·have hP:its[argBest (Kf ks) (its.toArray.size - 1)]?=some v:=by simpa using hP
    rw[a0h,l2,l1] at hP
    have hlt:=lG (Kf ks) (ks.length - 1)
    have f1:ps[argBest (Kf ks) (ks.length - 1)]?=some (ps.getD (argBest (Kf ks) (ks.length - 1)) .non):=by rw[a0m,a0f (by omega)];rfl
    obtain⟨v1,g1,d1⟩:=ds.get f1
    rw[hP] at g1;cases g1
    exact⟨hz.kept hk',D1.m d1 (Ext.kpD (.kept hk'))⟩
  ·cases q
 ·cases q
noncomputable def yF:List PV->Option PV->Option RV
 |[p],some d=>(items p).bind λps=>(dJ ps).bind λis=>some (.fz (if is.length=0 then d else .int (lP is)))
 |_,_=>none
noncomputable def zS (fs:FA)(g:FE):FE:=λρ=>(fs ρ).bind λrs=>(g ρ).bind λr2=>yF (rs.map RV.pv) r2.fr
theorem Lx {p kp pos:Pos}{e e2:Expr}{fs:FA}{g:FE}(hc:X.calm=true)(hg:Gl X "max")(hm:X.mg "max" = none)(h:NA X [e] fs)(h2:NE X e2 g)
  (he:starEach [e] X.env=[(false,eval e X.env)]):NE X (.Call (.Name "max" p) [e] [⟨some (Str.ofString "default"),e2,kp⟩] pos) (zS fs g):=λz s r E hz q=>by
 obtain⟨rs,ers,q⟩:=a0a.mp q
 obtain⟨r2,er2,q⟩:=a0a.mp q
 refine wpAny_Call_Name_kw (kA hz.I hg hm (show bootBuiltins "max" = some (.builtin "max") by decide +kernel) ?_ (by decide) (by decide))
 refine PyProof.Rows.callWith_kw ?_ (by rw[he];rfl) (by rw[he];rfl)
 refine aY (h z pos s rs E hz ers) λus s1 ⟨g1,d1⟩=>?_
 refine PyProof.Rows.kws_cons (aY (h2 z s1 r2 E g1.1 er2) λv s2 q2=>PyProof.Rows.kws_nil ?_)
 have d1:=(d1.ext q2.1.2).rv
 unfold yF at q
 split at q
 ·next p1 d ep ed=>
  obtain⟨ps,e1,q⟩:=a0a.mp q
  obtain⟨is,e3,q⟩:=a0a.mp q
  cases q
  rw[ep] at d1
  obtain⟨u,rfl,du⟩:=d1.one
  obtain⟨a,its,rfl,_,zl,ds,hh⟩:=D1.items du.1 e1
  have hi:=my ds e3
  have hl:=hi.length
  have hz2:=q2.1.1
  have dv:=q2.2.fr ed
  refine (?_:wpAny _ _ (call (.builtin "max") [.ref a] (Oo v)) _ _ _)
  have kk:∀{o:Obj} {I:Addr} {h':Heap},I=s2.heap.objs.size->(∀b o',b∉[I]->(s2.heap.push o).get? b=some o'->h'.get? b=some o')->∀b o',s2.heap.get? b=some o'->h'.get? b=some o':=λeI hk b o' e=>hk b o' (λy=>by rw[a0g.mp y,eI] at e;exact absurd (Heap.lt_size e) (a1k _)) (Heap.get?_push_of_some _ e)
  refine AV (lO (A:=X.A.in1) (hz2.I.ok.hd hc) hh λo I fp St eI W st hfp=>⟨I,fp,[I],_,_,St,λi j=>decide (is.getD i 0 > is.getD j 0),rfl,W,st,hfp,CmpOf.ints_gt (λi=>is.getD i 0) λi v hv=>o3 hi i v hv,λh0 h' tk hk=>?_,λh0 v' h' tk hP hk=>?_⟩)
  ·rw[if_pos (by rw[a0h] at h0;omega)]
   exact (g1.trans q2.1).post (hz2.kept (kk eI hk) |> λg=>⟨g,dv.m (Ext.kpD (.kept (kk eI hk)))⟩)
  ·rw[a0h] at h0
   rw[if_neg (by omega)]
   obtain⟨t,rfl⟩:=o3 hi _ _ hP
   refine (g1.trans q2.1).post ⟨hz2.kept (kk eI hk),t,?_⟩
   rw[a0h,hl,uF (by omega)]
 ·cases q
end
noncomputable def JY (G:Gd)(rE:Lc->Expr->FE)(L:Lc)(e:Expr):Option FE:=
 (Be e).bind λc=>(mE c.1).bind λx=>(u1 c.2.1).bind λa=>jE (glob L x.1&&G.bi.contains x.1&&yc L c.2.2&&jW a) (DC (jE (decide (x.1 = "max")) (some (fB yL (vA (rE L) [a])))) (jE (decide (x.1 = "min")) (some (fB yX (vA (rE L) [a])))))
noncomputable def QR:Expr->Option (Expr×List Expr×Str×Expr×Pos×Pos)
 |.Call f as ks p=>(u1 ks).bind λk=>k.arg.map λy=>(f,as,y,k.value,k.pos,p)
 |_=>none
theorem LZ {e f b:Expr}{as:List Expr}{y:Str}{kp p:Pos}(h:QR e=some (f,as,y,b,kp,p)):e=.Call f as [⟨some y,b,kp⟩] p:=by
 cases e<;>first|(cases h;done)|skip
 replace h:=a0a.mp h;obtain⟨⟨ya,v,kq⟩,e1,h⟩:=h
 replace h:=a0d.mp h;obtain⟨z,e2,h⟩:=h
 cases h
 rw[eD e1]
 have e2:ya=some y:=e2
 rw[e2]
noncomputable def JP (G:Gd)(rE:Lc->Expr->FE)(L:Lc)(e:Expr):Option FE:=
 (QR e).bind λc=>(mE c.1).bind λx=>(u1 c.2.1).bind λa=>jE (decide (x.1 = "max")&&decide (c.2.2.1=Str.ofString "default")&&glob L x.1&&G.bi.contains x.1&&jW a) (some (zS (vA (rE L) [a]) (rE L c.2.2.2.1)))
noncomputable def Ox (G:Gd)(rE:Lc->Expr->FE)(rB:Lc->Expr->FB)(L:Lc)(e:Expr):Option FE:=DC (JY G rE L e) (JP G rE L e)
noncomputable def hkMax:Hk where
 e:=Ox
theorem BX:HkOk hkMax where
 e:=λ{X k G L rE rB} o hE hB e f h=>by
  replace h:=je h;rcases h with h|h
  ·replace h:=a0a.mp h;obtain⟨⟨fn,as,p⟩,e,h⟩:=h
   cases ij e
   replace h:=a0a.mp h;obtain⟨⟨x,q⟩,e,h⟩:=h
   cases ci e
   replace h:=a0a.mp h;obtain⟨a,e,h⟩:=h
   cases eD e
   replace h:=bA h;obtain⟨z,h⟩:=h
   rw[a0b,a0b,a0b] at z
   obtain⟨⟨⟨z1,z2⟩,z3⟩,z4⟩:=z
   obtain⟨hg,hd⟩:=kn o z1
   obtain⟨d1,d2,d3⟩:=bz hd
   have hu:X.A.units+64<cLine:=o.r.units
   replace h:=je h;rcases h with h|h
   ·replace h:=bA h;obtain⟨ex,h⟩:=h
    cases of_decide_eq_true ex
    cases h
    exact Ke (LY o.calm) hg (o.g.bi _ z2) (by decide +kernel) (j1 (hE o) [a]) d3 d1 (df z4 [] X.env) rfl
   ·replace h:=bA h;obtain⟨ex,h⟩:=h
    cases of_decide_eq_true ex
    cases h
    exact Ke (JL o.calm hu) hg (o.g.bi _ z2) (by decide +kernel) (j1 (hE o) [a]) d3 d1 (df z4 [] X.env) rfl
  ·replace h:=a0a.mp h;obtain⟨⟨fn,as,y,b,kp,p⟩,e,h⟩:=h
   cases LZ e
   replace h:=a0a.mp h;obtain⟨⟨x,q⟩,e,h⟩:=h
   cases ci e
   replace h:=a0a.mp h;obtain⟨a,e,h⟩:=h
   cases eD e
   replace h:=bA h;obtain⟨z,h⟩:=h
   cases h
   rw[a0b,a0b,a0b,a0b,decide_eq_true_eq,decide_eq_true_eq] at z
   obtain⟨⟨⟨⟨q1,q2⟩,z1⟩,z2⟩,z4⟩:=z
   cases q1;cases q2
   obtain⟨hg,hd⟩:=kn o z1
   exact Lx o.calm hg (o.g.bi _ z2) (j1 (hE o) [a]) (hE o b) (df z4 [] X.env)
 i:=λ_ _ _ _ _ h=>by cases h
 b:=λ_ _ _ _ _ h=>by cases h
 s:=λ_ _ _ _ _ _ h=>by cases h
end Dp
end
section
namespace Dp
open PySem L2 Fo
section
variable {ρ:ao}{g:FE}{fs:FA}{p d:PV}
theorem bm:zS fs g ρ=(fs ρ).bind λrs=>(g ρ).bind λr2=>yF (rs.map RV.pv) r2.fr:=Eq.trans rfl rfl
theorem aN:yF [p] (some d)=(items p).bind λps=>(dJ ps).bind λis=>some (.fz (if is.length=0 then d else .int (lP is))):=Eq.trans rfl rfl
theorem aV:yL [p]=(items p).bind λps=>(dJ ps).bind λis=>if is.length=0 then none else some (.fz (.int (lP is))):=Eq.trans rfl rfl
theorem aS:yX [p]=(kh p).bind λps=>(Ax ps).bind λks=>if 0<ks.length/\(ks.map (·.2)).Nodup then some (.fz (ps.getD (argBest (Kf ks) (ks.length - 1)) .non)) else none:=Eq.trans rfl rfl
end
end Dp
end
section
namespace Dp
open PySem L2
noncomputable def jK (ρ:ao):Out:=(bv (iO (fB ua (aa (fV 0) (aa (fC (.ty "int")) ah))) (oT (zq (fB ua (aa (fV 0) (aa (fC (.ty "bool")) ah))))))) ρ
noncomputable def fZ:List PV->Option PR:=run 1 1 jK
theorem tB {a0:PV}:fZ [a0]=(jK [some (.val a0)]).res:=Eq.trans rfl rfl
noncomputable def ku (ρ:ao):Out:=(bv (iO (aq fZ (aa (fV 0) ah)) (oT (II K7 K7 (fC (.int 1)) (fV 0) (fC (.int 40)))))) ρ
noncomputable def ju:List PV->Option PR:=run 1 1 ku
theorem vZ {a0:PV}:ju [a0]=(ku [some (.val a0)]).res:=Eq.trans rfl rfl
noncomputable def jJ (ρ:ao):Out:=(bv (iO (aq fZ (aa (fV 1) ah)) (oT (II K7 Mb (fC (.int 0)) (fV 1) (fV 0))))) ρ
noncomputable def bT:List PV->Option PR:=run 2 2 jJ
theorem ub {a0 a1:PV}:bT [a0,a1]=(jJ [some (.val a0),some (.val a1)]).res:=Eq.trans rfl rfl
noncomputable def gK (ρ:ao):Option Bool:=(fT (ak nA (ak bE (fV 0) (ak bE (fV 2) (pS (fC (.int 1))))) (ak bE (fV 2) (pS (fC (.int 1)))))) ρ
noncomputable def iQ (ρ:ao):Out:=(vB mr 2 (aa (ak bE (fV 0) (ak bE (fV 2) (pS (fC (.int 1))))) ah)) ρ
noncomputable def lS (ρ:ao):Out:=(aj (jx 2 (gU (aa (fV 1) ah)))
  (aj (ff gK iQ)
  (jT 2))) ρ
noncomputable def jt:List PV->Option PR:=run 2 3 lS
theorem xQ {a0 a1:PV}:jt [a0,a1]=(lS [some (.val a0),some (.val a1),none]).res:=Eq.trans rfl rfl
noncomputable def dQ (ρ:ao):Out:=(aj (bu 3 (ak b6 (ak cH (ak cH (ak iI (fV 3) (ak cH (ak b6 (fV 3) (fC (.int 65521))) (fC (.int 40487)))) (ak iI (fC (.int 7)) (fV 5))) (fC (.int 5))) (fC (.int 1999999973))))
  (aj (vB mr 2 (aa (ak bE (gU (aa (fV 3) (aa (ak b6 (fV 4) (fC (.int 1000000))) ah))) (fB A7 (aa (ak Mk (fV 4) (fC (.int 0))) ah))) ah))
  (bu 4 (ak kY (fV 4) (fC (.int 1000000)))))) ρ
noncomputable def c4 (ρ:ao):Out:=(aj (jx 2 (gU ah))
  (aj (bu 3 (ak b6 (ak iI (ak cH (ak b6 (fV 0) (fC (.int 1999999973))) (fC (.int 31))) (fC (.int 765432101))) (fC (.int 1999999973))))
  (aj (bu 4 (fC (.int 0)))
  (aj (ig (oQ (fT (ak Mb (fV 0) (fC (.int 0)))) (fT (ak M9 (fV 0) (ak J7 (fC (.int 10)) (fC (.int 18)))))) (bu 4 (fB Hz (aa (fV 0) ah))) br)
  (aj (j5 (jY mU (aa (fV 1) ah)) (gN 5) dQ)
  (jT 2)))))) ρ
noncomputable def bF:List PV->Option PR:=run 2 6 c4
theorem fU {a0 a1:PV}:bF [a0,a1]=(c4 [some (.val a0),some (.val a1),none,none,none,none]).res:=Eq.trans rfl rfl
noncomputable def fH (ρ:ao):Out:=(bu 2 (ak b6 (ak cH (ak iI (fV 2) (fC (.int 69621))) (fV 3)) (fC (.int 2147483647)))) ρ
noncomputable def gl (ρ:ao):Out:=(aj (ig (fT (ak Mb (fV 1) (fB j2 (aa (fV 0) ah)))) (bv (ak bE (fV 0) (fV 1))) br)
  (aj (bu 2 (ak b6 (ak iI (fC (.int 48271)) (ak cH (ak cH (ak iI (fV 1) (fV 1)) (ak iI (fC (.int 7)) (fV 1))) (fC (.int 11)))) (fC (.int 2147483647))))
  (aj (j5 (qE (A4 (fV 0) xL (xc (fC (.int 3))))) (gN 3) fH)
  (jT 2)))) ρ
noncomputable def cj:List PV->Option PR:=run 2 4 gl
theorem lj {a0 a1:PV}:cj [a0,a1]=(gl [some (.val a0),some (.val a1),none,none]).res:=Eq.trans rfl rfl
noncomputable def dz (ρ:ao):Out:=(aj (bu 7 (A4 (aq bF (aa (aq cj (aa (fV 0) (aa (ak cH (ak cH (fV 1) (fC (.int 1))) (ak kY (fV 6) (fC (.int 5)))) ah))) (aa (fC (.int 20)) ah))) (xc (ak iI (fC (.int 4)) (ak b6 (fV 6) (fC (.int 5))))) xL))
  (aj (pQ 8 9 (aa (ak b6 (ak bE (fV 7) (fC (.int 0))) (fV 2)) (aa (ak b6 (ak bE (fV 7) (fC (.int 1))) (fV 2)) ah)))
  (aj (ig (fT (ak mc (ak b6 (ak bE (fV 4) (fC (.int 1))) (fC (.int 4))) (fC (.int 1)))) (pQ 8 9 (aa (ak b6 (fV 6) (fV 2)) (aa (ak b6 (ak cH (fV 6) (fC (.int 1))) (fV 2)) ah))) br)
  (aj (ig (jV (fT (ak mc (ak b6 (ak bE (fV 4) (fC (.int 1))) (fC (.int 4))) (fC (.int 2)))) (fT (ak Mk (ak b6 (ak bE (fV 7) (fC (.int 2))) (fC (.int 3))) (fC (.int 0))))) (aj (bu 8 (ak b6 (ak iI (ak kY (fV 8) (fC (.int 2))) (fC (.int 2))) (fV 2)))
  (bu 9 (fB pz (aa (ak xT (fV 2) (fC (.int 1))) (aa (ak cH (fV 8) (fC (.int 1))) ah))))) br)
  (aj (ig (jV (fT (ak nA (fV 5) (gU ah))) (fT (ak mc (ak b6 (ak bE (fV 7) (fC (.int 2))) (fC (.int 7))) (fC (.int 1))))) (fS (ak bE (fV 5) (ak b6 (ak bE (fV 7) (fC (.int 3))) (fB j2 (aa (fV 5) ah)))) (iH 2 (gC (gN 8) (gC (gN 9) g0)))) br)
  (vB mr 5 (aa (ak bE (gU (aa (ck (aa (fV 8) (aa (fV 9) ah))) (aa (ck (aa (fV 9) (aa (fV 8) ah))) ah))) (ak b6 (ak kY (ak bE (fV 7) (fC (.int 2))) (fC (.int 7))) (fC (.int 2)))) ah))))))) ρ
noncomputable def ik (ρ:ao):Out:=(aj (bu 4 (aq bF (aa (aq cj (aa (fV 0) (aa (fV 1) ah))) (aa (fC (.int 4)) ah))))
  (aj (jx 5 (gU ah))
  (aj (j5 (jY mU (aa (ak b6 (ak bE (fV 4) (fC (.int 0))) (ak cH (fV 3) (fC (.int 1)))) ah)) (gN 6) dz)
  (bv (fB kZ (aa (fV 5) ah)))))) ρ
noncomputable def hU:List PV->Option PR:=run 4 10 ik
theorem qx {a0 a1 a2 a3:PV}:hU [a0,a1,a2,a3]=(ik [some (.val a0),some (.val a1),some (.val a2),some (.val a3),none,none,none,none,none,none]).res:=Eq.trans rfl rfl
noncomputable def gn (ρ:ao):Out:=(bv (ak bE (gU (aa (ak cH (fC (.int 1)) (ak b6 (ak kY (fV 0) (fC (.int 8))) (fC (.int 12)))) (aa (ak cH (fC (.int 1)) (ak b6 (ak kY (fV 0) (fC (.int 8))) (fC (.int 40)))) ah))) (fB A7 (aa (ak mc (ak b6 (fV 0) (fC (.int 8))) (fC (.int 3))) ah)))) ρ
noncomputable def iX:List PV->Option PR:=run 1 1 gn
theorem la {a0:PV}:iX [a0]=(gn [some (.val a0)]).res:=Eq.trans rfl rfl
noncomputable def dZ (ρ:ao):Option Bool:=(fT (ak nA (ak bE (fV 0) (fV 2)) (fV 2))) ρ
noncomputable def fF (ρ:ao):Out:=(aj (bu 2 (ak bE (fV 0) (fV 2)))
  (oS (λa b=>a+b) 3 (fC (.int 1)))) ρ
noncomputable def jc (ρ:ao):Out:=(aj (bu 2 (fV 1))
  (aj (bu 3 (fC (.int 0)))
  (aj (ff dZ fF)
  (bv (ck (aa (fV 2) (aa (fV 3) ah))))))) ρ
noncomputable def d4:List PV->Option PR:=run 2 4 jc
theorem rf {a0 a1:PV}:d4 [a0,a1]=(jc [some (.val a0),some (.val a1),none,none]).res:=Eq.trans rfl rfl
noncomputable def dD (ρ:ao):Option Bool:=(fT (ak nA (ak bE (fV 0) (fV 2)) (fV 2))) ρ
noncomputable def eW (ρ:ao):Out:=(aj (bu 2 (ak bE (fV 0) (fV 2)))
  (oS (λa b=>a+b) 3 (fC (.int 1)))) ρ
noncomputable def ir (ρ:ao):Out:=(aj (bu 2 (fV 1))
  (aj (bu 3 (fC (.int 0)))
  (aj (ff dD eW)
  (bv (ck (aa (fV 2) (aa (fV 3) ah))))))) ρ
noncomputable def ib:ma:=ro 2 4 ir
noncomputable def oI (ρ:ao):Option Bool:=(fT (ak nA (fV 4) (fV 2))) ρ
noncomputable def oM (ρ:ao):Out:=(aj (bu 5 (ak bE (fV 0) (fV 4)))
  (aj (lW 0 (fV 4) (fV 2))
  (bu 4 (fV 5)))) ρ
noncomputable def qi (ρ:ao):Out:=(aj (fS (aq d4 (aa (fV 0) (aa (fV 1) ah))) (iH 2 (gC (gN 2) (gC (gN 3) g0))))
  (aj (bu 4 (fV 1))
  (aj (ff oI oM)
  (bv (ck (aa (fV 2) (aa (fV 3) ah))))))) ρ
noncomputable def sW:List PV->Option PR:=run 2 6 qi
noncomputable def c5 (ρ:ao):Option Bool:=(fT (ak nA (fV 4) (fV 2))) ρ
noncomputable def eH (ρ:ao):Out:=(aj (bu 5 (ak bE (fV 0) (fV 4)))
  (aj (lW 0 (fV 4) (fV 2))
  (bu 4 (fV 5)))) ρ
noncomputable def gY (ρ:ao):Out:=(aj (fS (aq d4 (aa (fV 0) (aa (fV 1) ah))) (iH 2 (gC (gN 2) (gC (gN 3) g0))))
  (aj (bu 4 (fV 1))
  (aj (ff c5 eH)
  (bv (ck (aa (fV 2) (aa (fV 3) ah))))))) ρ
noncomputable def gw:ma:=ro 2 6 gY
noncomputable def mS (ρ:ao):Option Bool:=(fT (ak nA (ak bE (fV 0) (fV 2)) (fV 2))) ρ
noncomputable def mT (ρ:ao):Out:=(aj (lW 0 (fV 2) (ak bE (fV 0) (ak bE (fV 0) (fV 2))))
  (aj (bu 2 (ak bE (fV 0) (fV 2)))
  (oS (λa b=>a+b) 3 (fC (.int 1))))) ρ
noncomputable def oK (ρ:ao):Out:=(aj (bu 2 (fV 1))
  (aj (bu 3 (fC (.int 0)))
  (aj (ff mS mT)
  (bv (ck (aa (fV 2) (aa (fV 3) ah))))))) ρ
noncomputable def q6:List PV->Option PR:=run 2 4 oK
noncomputable def cI (ρ:ao):Option Bool:=(fT (ak nA (ak bE (fV 0) (fV 2)) (fV 2))) ρ
noncomputable def dO (ρ:ao):Out:=(aj (lW 0 (fV 2) (ak bE (fV 0) (ak bE (fV 0) (fV 2))))
  (aj (bu 2 (ak bE (fV 0) (fV 2)))
  (oS (λa b=>a+b) 3 (fC (.int 1))))) ρ
noncomputable def gb (ρ:ao):Out:=(aj (bu 2 (fV 1))
  (aj (bu 3 (fC (.int 0)))
  (aj (ff cI dO)
  (bv (ck (aa (fV 2) (aa (fV 3) ah))))))) ρ
noncomputable def fK:ma:=ro 2 4 gb
noncomputable def m7 (ρ:ao):Option Bool:=(fT (ak nA (ak bE (fV 0) (fV 2)) (fV 2))) ρ
noncomputable def nh (ρ:ao):Out:=(aj (bu 4 (ak bE (fV 0) (fV 2)))
  (aj (lW 0 (fV 2) (ak bE (fV 0) (fV 4)))
  (aj (bu 2 (fV 4))
  (oS (λa b=>a+b) 3 (fC (.int 1)))))) ρ
noncomputable def oB (ρ:ao):Out:=(aj (bu 2 (fV 1))
  (aj (bu 3 (fC (.int 0)))
  (aj (ff m7 nh)
  (bv (ck (aa (fV 2) (aa (fV 3) ah))))))) ρ
noncomputable def ri:List PV->Option PR:=run 2 5 oB
noncomputable def cF (ρ:ao):Option Bool:=(fT (ak nA (ak bE (fV 0) (fV 2)) (fV 2))) ρ
noncomputable def dX (ρ:ao):Out:=(aj (bu 4 (ak bE (fV 0) (fV 2)))
  (aj (lW 0 (fV 2) (ak bE (fV 0) (fV 4)))
  (aj (bu 2 (fV 4))
  (oS (λa b=>a+b) 3 (fC (.int 1)))))) ρ
noncomputable def fY (ρ:ao):Out:=(aj (bu 2 (fV 1))
  (aj (bu 3 (fC (.int 0)))
  (aj (ff cF dX)
  (bv (ck (aa (fV 2) (aa (fV 3) ah))))))) ρ
noncomputable def fI:ma:=ro 2 5 fY
noncomputable def tX (ρ:ao):Out:=(aj (fS (aq d4 (aa (fV 0) (aa (fV 1) ah))) (iH 2 (gC (gN 2) (gC (gN 3) g0))))
  (aj (lW 0 (fV 1) (ak bE (fV 0) (ak bE (fV 0) (fV 1))))
  (bv (ck (aa (fV 2) (aa (fV 3) ah)))))) ρ
noncomputable def xX:List PV->Option PR:=run 2 4 tX
noncomputable def jk (ρ:ao):Out:=(aj (fS (aq d4 (aa (fV 0) (aa (fV 1) ah))) (iH 2 (gC (gN 2) (gC (gN 3) g0))))
  (aj (lW 0 (fV 1) (ak bE (fV 0) (ak bE (fV 0) (fV 1))))
  (bv (ck (aa (fV 2) (aa (fV 3) ah)))))) ρ
noncomputable def iP:ma:=ro 2 4 jk
noncomputable def kj (ρ:ao):Out:=(aj (jx 3 (fB lA (aa (fV 0) ah)))
  (aj (bu 4 (ak bE (fC (.dct [.inr "none",.inr "whole",.inr "halves",.inr "splits",.inr "one"] [.fn "find_none",.fn "find_whole",.fn "find_halves",.fn "find_splits",.fn "find_one"])) (fV 1)))
  (aj (pF [("find_none",ib),("find_whole",gw),("find_halves",fK),("find_splits",fI),("find_one",iP)] 4 3 (aa (fV 2) ah) (iH 2 (gC (gN 5) (gC (gN 6) g0))))
  (bv (ck (aa (fV 5) (aa (fB kZ (aa (fV 3) ah)) (aa (fV 6) ah)))))))) ρ
noncomputable def jm:List PV->Option PR:=run 3 7 kj
theorem u5 {a0 a1 a2:PV}:jm [a0,a1,a2]=(kj [some (.val a0),some (.val a1),some (.val a2),none,none,none,none]).res:=Eq.trans rfl rfl
noncomputable def lI (ρ:ao):Out:=(bv (fB kZ (aa (fB lA (aa (fV 0) ah)) ah))) ρ
noncomputable def mF:List PV->Option PR:=run 1 1 lI
theorem xJ {a0:PV}:mF [a0]=(lI [some (.val a0)]).res:=Eq.trans rfl rfl
noncomputable def jh (ρ:ao):Out:=(aj (fS (fV 0) (iH 4 (gC (gN 2) (gC (gN 3) (gC (gN 4) (gC (gN 5) g0))))))
  (aj (fS (aq jm (aa (fV 4) (aa (fV 3) (aa (fV 1) ah)))) (iH 3 (gC (gN 6) (gC (gN 7) (gC (gN 8) g0)))))
  (bv (ck (aa (ck (aa (fV 2) (aa (fV 3) (aa (fV 7) (aa (aq mF (aa (fV 5) ah)) ah))))) (aa (fV 6) (aa (fV 8) ah))))))) ρ
noncomputable def gG:List PV->Option PR:=run 2 9 jh
theorem rh {a0 a1:PV}:gG [a0,a1]=(jh [some (.val a0),some (.val a1),none,none,none,none,none,none,none]).res:=Eq.trans rfl rfl
noncomputable def cx (ρ:ao):Out:=(aj (ig (fT (ak mc (fV 0) (fC (.str "told")))) (bv (fC (.bl true))) br)
  (aj (ig (fT (ak mc (fV 0) (fC (.str "names")))) (bv (ak Mb (fV 2) (fV 3))) br)
  (bv (ak M9 (ak bE (fV 1) (fV 2)) (ak bE (fV 1) (fV 3)))))) ρ
noncomputable def gx:List PV->Option PR:=run 4 4 cx
theorem eV {a0 a1 a2 a3:PV}:gx [a0,a1,a2,a3]=(cx [some (.val a0),some (.val a1),some (.val a2),some (.val a3)]).res:=Eq.trans rfl rfl
noncomputable def cf (ρ:ao):Out:=(aj (ig (fT (ak mc (fV 0) (fC (.str "size")))) (bv (ak cH (fV 1) (fV 2))) br)
  (aj (ig (jV (fT (ak mc (fV 0) (fC (.str "rank")))) (fT (ak mc (fV 1) (fV 2)))) (bv (ak cH (fV 1) (fC (.int 1)))) br)
  (jT 1))) ρ
noncomputable def gv:List PV->Option PR:=run 3 3 cf
theorem dB {a0 a1 a2:PV}:gv [a0,a1,a2]=(cf [some (.val a0),some (.val a1),some (.val a2)]).res:=Eq.trans rfl rfl
noncomputable def cu (ρ:ao):Out:=(aj (fS (fV 0) (iH 4 (gC (gN 3) (gC (gN 4) (gC (gN 5) (gC (gN 6) g0))))))
  (aj (bu 7 (aq gx (aa (fV 3) (aa (fV 6) (aa (fV 1) (aa (fV 2) ah))))))
  (aj (fS (MT (fT (fV 7)) (ck (aa (fV 1) (aa (fV 2) ah))) (ck (aa (fV 2) (aa (fV 1) ah)))) (iH 2 (gC (gN 8) (gC (gN 9) g0))))
  (aj (jx 10 (fB lA (aa (fV 5) ah)))
  (aj (lW 10 (fV 9) (fV 8))
  (aj (jx 11 (fB lA (aa (fV 6) ah)))
  (aj (lW 11 (fV 8) (aq gv (aa (fV 3) (aa (ak bE (fV 6) (fV 8)) (aa (ak bE (fV 6) (fV 9)) ah)))))
  (bv (ck (aa (fV 3) (aa (fV 4) (aa (fB kZ (aa (fV 10) ah)) (aa (fB kZ (aa (fV 11) ah)) ah))))))))))))) ρ
noncomputable def cV:List PV->Option PR:=run 3 12 cu
theorem fN {a0 a1 a2:PV}:cV [a0,a1,a2]=(cu [some (.val a0),some (.val a1),some (.val a2),none,none,none,none,none,none,none,none,none]).res:=Eq.trans rfl rfl
noncomputable def gh (ρ:ao):Out:=(aj (fS (aq gG (aa (fV 0) (aa (fV 1) ah))) (iH 3 (gC (gN 3) (gC (gN 4) (gC (gN 5) g0)))))
  (aj (fS (aq gG (aa (fV 3) (aa (fV 2) ah))) (iH 3 (gC (gN 6) (gC (gN 7) (gC (gN 8) g0)))))
  (aj (bu 9 (ak cH (fV 5) (fV 8)))
  (aj (ig (fT (ak mc (fV 4) (fV 7))) (bv (ck (aa (fV 6) (aa (fC (.bl false)) (aa (fV 9) ah))))) br)
  (bv (ck (aa (aq cV (aa (fV 6) (aa (fV 4) (aa (fV 7) ah)))) (aa (fC (.bl true)) (aa (fV 9) ah))))))))) ρ
noncomputable def gM:List PV->Option PR:=run 3 10 gh
theorem lf {a0 a1 a2:PV}:gM [a0,a1,a2]=(gh [some (.val a0),some (.val a1),some (.val a2),none,none,none,none,none,none,none]).res:=Eq.trans rfl rfl
noncomputable def ug (ρ:ao):Option RV:=(aq bT (aa (fV 1) (aa (fV 0) ah))) ρ
noncomputable def uD (ρ:ao):Out:=(aj (ig (oQ (eQ (fT (fB ua (aa (fV 1) (aa (fC (.ty "tuple")) ah))))) (fT (ak mc (fB j2 (aa (fV 1) ah)) (fC (.int 0))))) (bv (fC (.bl false))) br)
  (aj (bu 2 (ak bE (fV 1) (fC (.int 0))))
  (aj (ig (oQ (eQ (fT (fB ua (aa (fV 2) (aa (fC (.ty "str")) ah))))) (fT (ak nA (vU mh (fC (.dct [.inr "find",.inr "join"] [.int 2,.int 3])) (aa (fV 2) ah)) (fB j2 (aa (fV 1) ah))))) (bv (fC (.bl false))) br)
  (bv (fB FC (aa (cQ [none,some 0] (qE (A4 (fV 1) (xc (fC (.int 1))) xL)) (gN 0) fy ug) ah)))))) ρ
noncomputable def fj:List PV->Option PR:=run 2 3 uD
noncomputable def iY (ρ:ao):Out:=(aj (ig (oQ (eQ (fT (fB ua (aa (fV 1) (aa (fC (.ty "tuple")) ah))))) (fT (ak nA (fB j2 (aa (fV 1) ah)) (fC (.int 2))))) (bv (fC (.bl false))) br)
  (bv (iO (aq bT (aa (fV 0) (aa (ak bE (fV 1) (fC (.int 0))) ah))) (oT (aq bT (aa (fV 0) (aa (ak bE (fV 1) (fC (.int 1))) ah))))))) ρ
noncomputable def cz:List PV->Option PR:=run 2 2 iY
theorem oz {a0 a1:PV}:cz [a0,a1]=(iY [some (.val a0),some (.val a1)]).res:=Eq.trans rfl rfl
noncomputable def iy (ρ:ao):Out:=(aj (ig (oQ (eQ (fT (fB ua (aa (fV 1) (aa (fC (.ty "tuple")) ah))))) (fT (ak nA (fB j2 (aa (fV 1) ah)) (fC (.int 3))))) (bv (fC (.bl false))) br)
  (bv (iO (aq cz (aa (fV 0) (aa (A4 (fV 1) xL (xc (fC (.int 2)))) ah))) (oT (aq fZ (aa (ak bE (fV 1) (fC (.int 2))) ah)))))) ρ
noncomputable def bS:List PV->Option PR:=run 2 2 iy
theorem qe {a0 a1:PV}:bS [a0,a1]=(iy [some (.val a0),some (.val a1)]).res:=Eq.trans rfl rfl
noncomputable def lR (ρ:ao):Out:=(bv (iO (aq bS (aa (fV 0) (aa (fV 1) ah))) (oT (ak M9 (ak bE (fV 1) (fC (.int 2))) (fC (.int 0)))))) ρ
noncomputable def eP:List PV->Option PR:=run 2 2 lR
theorem xY {a0 a1:PV}:eP [a0,a1]=(lR [some (.val a0),some (.val a1)]).res:=Eq.trans rfl rfl
noncomputable def iz (ρ:ao):Out:=(ig (eQ (fT (pA [("is_deed",fj),("is_pair",cz),("is_telling",bS),("is_thing",bT),("is_tie",eP)] 2 (aa (fV 0) (aa (fV 4) ah))))) cq br) ρ
noncomputable def jb (ρ:ao):Out:=(aj (ig (eQ (fT (fB ua (aa (fV 1) (aa (fC (.ty "tuple")) ah))))) cq br)
  (j5 (ox (aa (fV 1) ah)) (iH 2 (gC (gN 3) (gC (gN 4) g0))) iz)) ρ
noncomputable def iM:List PV->Option PR:=run 3 5 jb
theorem re {a0 a1 a2:PV}:iM [a0,a1,a2]=(jb [some (.val a0),some (.val a1),some (.val a2),none,none]).res:=Eq.trans rfl rfl
noncomputable def fD (ρ:ao):Out:=(ig (eQ (fT (aq ju (aa (fV 0) ah)))) cq br) ρ
noncomputable def hZ:List PV->Option PR:=run 1 1 fD
theorem kC {a0:PV}:hZ [a0]=(fD [some (.val a0)]).res:=Eq.trans rfl rfl
noncomputable def dI (ρ:ao):Out:=(bv (iO (fB ua (aa (fV 0) (aa (fC (.ty "str")) ah))) (oT (ak zk (fV 0) (fC (.ktu [.str "size",.str "rank",.str "told",.str "names"])))))) ρ
noncomputable def cU:List PV->Option PR:=run 1 1 dI
theorem jZ {a0:PV}:cU [a0]=(dI [some (.val a0)]).res:=Eq.trans rfl rfl
noncomputable def il (ρ:ao):Out:=(ig (eQ (fT (aq cU (aa (fV 0) ah)))) cq br) ρ
noncomputable def jQ:List PV->Option PR:=run 1 1 il
theorem qM {a0:PV}:jQ [a0]=(il [some (.val a0)]).res:=Eq.trans rfl rfl
noncomputable def jF (ρ:ao):Out:=(bv (iO (fB ua (aa (fV 0) (aa (fC (.ty "str")) ah))) (oT (ak zk (fV 0) (fC (.dct [.inr "none",.inr "whole",.inr "halves",.inr "splits",.inr "one"] [.fn "find_none",.fn "find_whole",.fn "find_halves",.fn "find_splits",.fn "find_one"])))))) ρ
noncomputable def jI:List PV->Option PR:=run 1 1 jF
theorem uj {a0:PV}:jI [a0]=(jF [some (.val a0)]).res:=Eq.trans rfl rfl
noncomputable def gT (ρ:ao):Out:=(ig (eQ (fT (aq jI (aa (fV 0) ah)))) cq br) ρ
noncomputable def gy:List PV->Option PR:=run 1 1 gT
theorem oE {a0:PV}:gy [a0]=(gT [some (.val a0)]).res:=Eq.trans rfl rfl
noncomputable def jd (ρ:ao):Out:=(aj (fM (aq hZ (aa (fV 0) ah)))
  (aj (fM (aq jQ (aa (fV 1) ah)))
  (aj (fM (aq gy (aa (fV 2) ah)))
  (aj (bu 3 (MT (fT (ak mc (fV 1) (fC (.str "size")))) (fC (.int 1)) (fC (.int 0))))
  (bv (ck (aa (fV 1) (aa (fV 2) (aa (fB wx (aa (fB AC (aa (fV 0) ah)) ah)) (aa (ak iI (ck (aa (fV 3) ah)) (fV 0)) ah)))))))))) ρ
noncomputable def iW:List PV->Option PR:=run 3 4 jd
theorem rm {a0 a1 a2:PV}:iW [a0,a1,a2]=(jd [some (.val a0),some (.val a1),some (.val a2),none]).res:=Eq.trans rfl rfl
noncomputable def gS (ρ:ao):Out:=(ig (eQ (fT (aq bT (aa (fV 0) (aa (fV 1) ah))))) cq br) ρ
noncomputable def eT:List PV->Option PR:=run 2 2 gS
theorem oF {a0 a1:PV}:eT [a0,a1]=(gS [some (.val a0),some (.val a1)]).res:=Eq.trans rfl rfl
noncomputable def hX (ρ:ao):Option RV:=(fB kZ (aa (fV 0) ah)) ρ
noncomputable def kf (ρ:ao):Out:=(aj (sx 1 yG)
  (aj (Dr 1 2 (jY mU (aa (fB j2 (aa (fV 0) ah)) ah)) [(3,(ak bE (aq jt (aa (fV 0) (aa (fV 2) ah))) (pS (fC (.int 1)))))] (fV 3) (fV 2))
  (bv (cQ [none] (yv (fV 1)) (gN 0) fy hX)))) ρ
noncomputable def jD:List PV->Option PR:=run 1 4 kf
theorem wq {a0:PV}:jD [a0]=(kf [some (.val a0),none,none,none]).res:=Eq.trans rfl rfl
noncomputable def cs (ρ:ao):Out:=(ig (fT (ak nA (ak bE (ak bE (fV 7) (fC (.int 2))) (fV 10)) (ak bE (ak bE (fV 2) (fC (.int 2))) (fV 10)))) (lW 3 (fV 10) (fV 4)) br) ρ
noncomputable def dL (ρ:ao):Out:=(aj (fS (aq gM (aa (fV 2) (aa (fV 5) (aa (fV 6) ah)))) (iH 3 (gC (gN 7) (gC (gN 8) (gC (gN 9) g0)))))
  (aj (j5 (jY mU (aa (fV 0) ah)) (gN 10) cs)
  (bu 2 (fV 7)))) ρ
noncomputable def cD (ρ:ao):Out:=(aj (bu 2 (aq iW (aa (fV 0) (aa (fC (.str "size")) (aa (fC (.str "none")) ah)))))
  (aj (jx 3 (ak iI (gU (aa (fC .non) ah)) (fV 0)))
  (aj (j5 (ox (aa (fV 1) ah)) (iH 2 (gC (gN 4) (gC (iH 2 (gC (gN 5) (gC (gN 6) g0))) g0))) dL)
  (bv (ck (aa (ak bE (fV 2) (fC (.int 2))) (aa (fB kZ (aa (fV 3) ah)) ah))))))) ρ
noncomputable def b5:List PV->Option PR:=run 2 11 cD
theorem gO {a0 a1:PV}:b5 [a0,a1]=(cD [some (.val a0),some (.val a1),none,none,none,none,none,none,none,none,none]).res:=Eq.trans rfl rfl
noncomputable def kH (ρ:ao):Out:=(bv (aq jD (aa (ak bE (aq b5 (aa (fV 0) (aa (fV 1) ah))) (fC (.int 0))) ah))) ρ
noncomputable def kR:List PV->Option PR:=run 2 2 kH
theorem uK {a0 a1:PV}:kR [a0,a1]=(kH [some (.val a0),some (.val a1)]).res:=Eq.trans rfl rfl
noncomputable def dG (ρ:ao):Out:=(ig (jV (fT (ak mc (fV 5) (fV 4))) (fT (ak kB (fV 6) (fV 2)))) (aj (sg 2 (fV 6) (ak cH (ak bE (fV 2) (fV 4)) (ck (aa (fV 7) ah))))
  (vB mr 3 (aa (fV 6) ah))) br) ρ
noncomputable def cO (ρ:ao):Option Bool:=(O7 (fV 3)) ρ
noncomputable def cP (ρ:ao):Out:=(aj (xV oR 4 3 (aa (fC (.int 0)) ah))
  (j5 (qE (fV 0)) (iH 3 (gC (gN 5) (gC (gN 6) (gC (gN 7) g0)))) dG)) ρ
noncomputable def jR (ρ:ao):Out:=(aj (sx 2 (rA (fV 1) (ck ah)))
  (aj (jx 3 (gU (aa (fV 1) ah)))
  (aj (ff cO cP)
  (Ge 2 (jT 2))))) ρ
noncomputable def jO:List PV->Option PR:=run 2 8 jR
theorem ul {a0 a1:PV}:jO [a0,a1]=(jR [some (.val a0),some (.val a1),none,none,none,none,none,none]).res:=Eq.trans rfl rfl
noncomputable def bK (ρ:ao):Option RV:=(fV 0) ρ
noncomputable def cS (ρ:ao):Out:=(aj (bu 3 (vU mh (aq jO (aa (fV 0) (aa (fV 1) ah))) (aa (fV 2) ah)))
  (aj (ig (fT (ak Bm (fV 3) (fC .non))) (bv (fC .non)) br)
  (bv (fB kZ (aa (cQ [none,none] (qE (fV 3)) (iH 2 (gC (gN 0) (gC (gN 1) g0))) fy bK) ah))))) ρ
noncomputable def cL:List PV->Option PR:=run 3 4 cS
theorem hO {a0 a1 a2:PV}:cL [a0,a1,a2]=(cS [some (.val a0),some (.val a1),some (.val a2),none]).res:=Eq.trans rfl rfl
noncomputable def cZ (ρ:ao):Out:=(aj (fS (He (ak bE (fV 0) (fV 3)) xL (xc (fC (.int 2)))) (iH 2 (gC (gN 4) (gC (gN 5) g0))))
  (v0 2 (gU (aa (ck (aa (fV 4) (aa (fV 5) (aa (ck (aa (fV 3) (aa (fC (.int 1)) ah))) ah)))) (aa (ck (aa (fV 5) (aa (fV 4) (aa (ck (aa (fV 3) (aa (pS (fC (.int 1))) ah))) ah)))) ah))))) ρ
noncomputable def gW (ρ:ao):Out:=(aj (jx 2 (gU ah))
  (aj (j5 (qE (fV 1)) (gN 3) cZ)
  (jT 2))) ρ
noncomputable def gq:List PV->Option PR:=run 2 6 gW
theorem oJ {a0 a1:PV}:gq [a0,a1]=(gW [some (.val a0),some (.val a1),none,none,none,none]).res:=Eq.trans rfl rfl
noncomputable def dW (ρ:ao):Option Bool:=(fT (ak zk (fV 0) (fV 1))) ρ
noncomputable def dN (ρ:ao):Option RV:=(fV 0) ρ
noncomputable def fQ (ρ:ao):Out:=(aj (bu 2 (ak bE (aq b5 (aa (fV 0) (aa (fV 1) ah))) (fC (.int 1))))
  (bv (cQ [none,some 2] (jY mU (aa (fB j2 (aa (fV 1) ah)) ah)) (gN 0) dW dN))) ρ
noncomputable def fE:List PV->Option PR:=run 2 3 fQ
theorem mZ {a0 a1:PV}:fE [a0,a1]=(fQ [some (.val a0),some (.val a1),none]).res:=Eq.trans rfl rfl
noncomputable def eC (ρ:ao):Out:=(aj (bu 9 (aq bF (aa (aq cj (aa (fV 0) (aa (ak cH (ak cH (fV 1) (fC (.int 21))) (ak kY (fV 8) (fC (.int 10)))) ah))) (aa (fC (.int 10)) ah))))
  (vB mr 7 (aa (ak cH (ak bE (fV 5) (fV 8)) (ck (aa (ak b6 (ak kY (ak bE (fV 9) (ak b6 (fV 8) (fC (.int 10)))) (fC (.int 3))) (ak bE (gU (aa (fC (.int 1)) (aa (fC (.int 3)) (aa (fC (.int 12)) (aa (fV 4) ah))))) (ak b6 (ak bE (fV 6) (fC (.int 0))) (fC (.int 4))))) ah))) ah))) ρ
noncomputable def jf (ρ:ao):Out:=(aj (bu 5 (aq hU (aa (fV 0) (aa (fV 1) (aa (fV 2) (aa (fV 3) ah))))))
  (aj (bu 6 (aq bF (aa (aq cj (aa (fV 0) (aa (ak cH (fV 1) (fC (.int 20))) ah))) (aa (fC (.int 3)) ah))))
  (aj (jx 7 (gU ah))
  (aj (j5 (jY mU (aa (fB j2 (aa (fV 5) ah)) ah)) (gN 8) eC)
  (bv (fB kZ (aa (fV 7) ah))))))) ρ
noncomputable def gP:List PV->Option PR:=run 5 10 jf
theorem rb {a0 a1 a2 a3 a4:PV}:gP [a0,a1,a2,a3,a4]=(jf [some (.val a0),some (.val a1),some (.val a2),some (.val a3),some (.val a4),none,none,none,none,none]).res:=Eq.trans rfl rfl
noncomputable def i6 (ρ:ao):Out:=(aj (fM (aq hZ (aa (fV 0) ah)))
  (fM (aq iM (aa (fV 0) (aa (fV 1) (aa (fC (.fn "is_tie")) ah)))))) ρ
noncomputable def fg:List PV->Option PR:=run 2 2 i6
theorem qY {a0 a1:PV}:fg [a0,a1]=(i6 [some (.val a0),some (.val a1)]).res:=Eq.trans rfl rfl
noncomputable def im (ρ:ao):Option RV:=(ck (aa (fV 3) (aa (fV 0) ah))) ρ
noncomputable def fG (ρ:ao):Option RV:=(A4 (ak bE (fV 2) (fV 1)) xL (xc (fC (.int 2)))) ρ
noncomputable def iD (ρ:ao):Option RV:=(ak bE (ak bE (fV 1) (fV 0)) (fC (.int 1))) ρ
noncomputable def i7 (ρ:ao):Out:=(aj (bu 2 (fB kS (aa (cQ [none,none,none,none] (ox (aa (fV 1) ah)) (iH 2 (gC (gN 0) (gC (iH 3 (gC (gN 1) (gC (gN 2) (gC (gN 3) g0)))) g0))) fy im) ah)))
  (aj (bu 3 (cQ [none,none,some 1] (qE (fV 2)) (iH 2 (gC (gN 0) (gC (gN 1) g0))) fy fG))
  (bv (fB kZ (aa (fB nu (aa (cQ [none,some 2] (qE (aq fE (aa (fV 0) (aa (fV 3) ah)))) (gN 0) fy iD) ah)) ah))))) ρ
noncomputable def gB:List PV->Option PR:=run 2 4 i7
theorem ry {a0 a1:PV}:gB [a0,a1]=(i7 [some (.val a0),some (.val a1),none,none]).res:=Eq.trans rfl rfl
noncomputable def dR (ρ:ao):Option RV:=(ak bE (ak bE (fV 1) (fV 0)) (fC (.int 2))) ρ
noncomputable def fR (ρ:ao):Out:=(aj (fM (aq fg (aa (fV 0) (aa (fV 1) ah))))
  (aj (bu 2 (aq gB (aa (fV 0) (aa (fV 1) ah))))
  (bv (ck (aa (fB Fi (aa (cQ [none,some 1] (qE (fV 2)) (gN 0) fy dR) ah)) (aa (fV 2) ah)))))) ρ
noncomputable def eA:List PV->Option PR:=run 2 3 fR
theorem mR {a0 a1:PV}:eA [a0,a1]=(fR [some (.val a0),some (.val a1),none]).res:=Eq.trans rfl rfl
noncomputable def bW (ρ:ao):Out:=(ig (jV (fT (ak mc (fV 8) (fV 6))) (fT (ak kB (fV 9) (fV 4)))) (aj (sg 4 (fV 9) (ak cH (ak bE (fV 4) (fV 8)) (ck (aa (fV 7) ah))))
  (vB mr 5 (aa (fV 9) ah))) br) ρ
noncomputable def ce (ρ:ao):Out:=(j5 (qE (gU (aa (A4 (ak bE (fV 0) (fV 7)) xL (xc (fC (.int 2)))) (aa (A5 (A4 (ak bE (fV 0) (fV 7)) xL (xc (fC (.int 2))))) ah)))) (iH 2 (gC (gN 8) (gC (gN 9) g0))) bW) ρ
noncomputable def cc (ρ:ao):Option Bool:=(fT (ak nA (fV 5) (gU ah))) ρ
noncomputable def bU (ρ:ao):Out:=(aj (xV oR 6 5 ah)
  (j5 (qE (fV 1)) (gN 7) ce)) ρ
noncomputable def fX (ρ:ao):Out:=(aj (wn 4 5 (rA (fV 2) (ck ah)) (xE (gU (aa (fV 2) ah))))
  (aj (ff cc bU)
  (bv (vU mh (fV 4) (aa (fV 3) (aa (fC .non) ah)))))) ρ
noncomputable def d8:List PV->Option PR:=run 4 10 fX
theorem nj {a0 a1 a2 a3:PV}:d8 [a0,a1,a2,a3]=(fX [some (.val a0),some (.val a1),some (.val a2),some (.val a3),none,none,none,none,none,none]).res:=Eq.trans rfl rfl
noncomputable def ko (ρ:ao):Option RV:=(ck (aa (fV 0) (aa (fV 1) ah))) ρ
noncomputable def lT (ρ:ao):Out:=(aj (fM (aq fg (aa (fV 0) (aa (fV 1) ah))))
  (bv (aq kR (aa (fV 0) (aa (cQ [none,none,none] (qE (fV 1)) (iH 3 (gC (gN 0) (gC (gN 1) (gC (gN 2) g0)))) fy ko) ah))))) ρ
noncomputable def iw:List PV->Option PR:=run 2 2 lT
theorem xm {a0 a1:PV}:iw [a0,a1]=(lT [some (.val a0),some (.val a1)]).res:=Eq.trans rfl rfl
noncomputable def iG (ρ:ao):Option RV:=(ak bE (ak bE (fV 1) (fV 0)) (fC (.int 2))) ρ
noncomputable def gc (ρ:ao):Out:=(aj (fM (aq fg (aa (fV 0) (aa (fV 1) ah))))
  (aj (fM (aq eT (aa (fV 0) (aa (fV 2) ah))))
  (aj (fM (aq eT (aa (fV 0) (aa (fV 3) ah))))
  (aj (bu 4 (aq cL (aa (aq gq (aa (fV 1) (aa (aq gB (aa (fV 0) (aa (fV 1) ah))) ah))) (aa (fV 2) (aa (fV 3) ah)))))
  (aj (ig (fT (ak Bm (fV 4) (fC .non))) (bv (fC .non)) br)
  (bv (ck (aa (zS (aa (cQ [none,some 1] (qE (fV 4)) (gN 0) fy iG) ah) (fC (.int 0))) (aa (fV 4) ah))))))))) ρ
noncomputable def bJ:List PV->Option PR:=run 4 5 gc
theorem k6 {a0 a1 a2 a3:PV}:bJ [a0,a1,a2,a3]=(gc [some (.val a0),some (.val a1),some (.val a2),some (.val a3),none]).res:=Eq.trans rfl rfl
noncomputable def cX (ρ:ao):Option RV:=(iO (ak zk (fV 1) (fV 0)) (oT (ak zk (fV 2) (fV 0)))) ρ
noncomputable def gX (ρ:ao):Out:=(bv (fB Cs (aa (cQ [none,some 1,some 2] (qE (fV 0)) (gN 0) fy cX) ah))) ρ
noncomputable def dH:List PV->Option PR:=run 3 3 gX
theorem oN {a0 a1 a2:PV}:dH [a0,a1,a2]=(gX [some (.val a0),some (.val a1),some (.val a2)]).res:=Eq.trans rfl rfl
noncomputable def eM (ρ:ao):Option Bool:=(fT (ak K7 (ak bE (fV 0) (fC (.int 2))) (fV 1))) ρ
noncomputable def eL (ρ:ao):Option RV:=(fV 0) ρ
noncomputable def e8 (ρ:ao):Out:=(bv (aq iw (aa (fV 0) (aa (fB kZ (aa (cQ [none,some 2] (qE (fV 1)) (gN 0) eM eL) ah)) ah)))) ρ
noncomputable def cY:List PV->Option PR:=run 3 3 e8
theorem lJ {a0 a1 a2:PV}:cY [a0,a1,a2]=(e8 [some (.val a0),some (.val a1),some (.val a2)]).res:=Eq.trans rfl rfl
noncomputable def cG (ρ:ao):Option RV:=(ak bE (ak bE (fV 1) (fV 0)) (fC (.int 2))) ρ
noncomputable def cE (ρ:ao):Option RV:=(ak cH (A4 (fV 0) xL (xc (fC (.int 2)))) (ck (aa (ak cH (ak bE (fV 0) (fC (.int 2))) (fC (.int 1))) ah))) ρ
noncomputable def cg (ρ:ao):Out:=(aj (bu 4 (aq bJ (aa (fV 0) (aa (fV 1) (aa (fV 2) (aa (fV 3) ah))))))
  (aj (ig (eQ (fT (aq dH (aa (aq iw (aa (fV 0) (aa (fV 1) ah))) (aa (fV 2) (aa (fV 3) ah)))))) (bv (ak Bm (fV 4) (fC .non))) br)
  (aj (ig (oQ (eQ (fT (fB ua (aa (fV 4) (aa (fC (.ty "tuple")) ah))))) (oQ (fT (ak nA (fB j2 (aa (fV 4) ah)) (fC (.int 2)))) (oQ (eQ (fT (fB ua (aa (ak bE (fV 4) (fC (.int 1))) (aa (fC (.ty "tuple")) ah))))) (fT (fB ua (aa (ak bE (fV 4) (fC (.int 0))) (aa (fC (.ty "bool")) ah))))))) (bv (fC (.bl false))) br)
  (aj (fS (fV 4) (iH 2 (gC (gN 5) (gC (gN 6) g0))))
  (aj (ig (fT (ak nA (fV 6) (aq d8 (aa (fV 1) (aa (ak bE (aq eA (aa (fV 0) (aa (fV 1) ah))) (fC (.int 1))) (aa (fV 2) (aa (fV 3) ah))))))) (bv (fC (.bl false))) br)
  (aj (ig (fT (ak nA (fV 5) (fB zo (aa (ak cH (gU (aa (fC (.int 0)) ah)) (cQ [none,some 1] (qE (fV 6)) (gN 0) fy cG)) ah)))) (bv (fC (.bl false))) br)
  (aj (ig (fT (ak nA (aq bJ (aa (fV 0) (aa (fV 1) (aa (fV 3) (aa (fV 2) ah))))) (ck (aa (fV 5) (aa (A5 (fV 6)) ah))))) (bv (fC (.bl false))) br)
  (aj (ig (fT (ak mc (fV 2) (fV 3))) (bv (ak mc (fV 4) (ck (aa (fC (.int 0)) (aa (ck ah) ah))))) br)
  (aj (ig (eQ (fT (aq dH (aa (aq cY (aa (fV 0) (aa (fV 1) (aa (fV 5) ah)))) (aa (fV 2) (aa (fV 3) ah)))))) (bv (fC (.bl false))) br)
  (aj (ig (fT (aq dH (aa (aq cY (aa (fV 0) (aa (fV 1) (aa (ak xT (fV 5) (fC (.int 1))) ah)))) (aa (fV 2) (aa (fV 3) ah))))) (bv (fC (.bl false))) br)
  (aj (bu 7 (fB kZ (aa (cQ [none] (qE (fV 1)) (gN 0) fy cE) ah)))
  (bv (ak mc (aq bJ (aa (fV 0) (aa (fV 7) (aa (fV 2) (aa (fV 3) ah))))) (ck (aa (ak cH (fV 5) (fC (.int 1))) (aa (fV 6) ah)))))))))))))))) ρ
noncomputable def cA:List PV->Option PR:=run 4 8 cg
theorem eO {a0 a1 a2 a3:PV}:cA [a0,a1,a2,a3]=(cg [some (.val a0),some (.val a1),some (.val a2),some (.val a3),none,none,none,none]).res:=Eq.trans rfl rfl
end Dp
end
section
namespace Dp
open PySem PySem.Spec L2 PyProof.Rows
noncomputable def Pm (G:Gd)(rE:Lc->Expr->FE)(rB:Lc->Expr->FB)(L:Lc)(e:Expr):Option FE:=
 (Qt e).bind λq=>(QT q.2.1).bind λw=>jE (L.alt.contains (q.2.2.line,1000+q.2.2.endCol)) (some (He (rE L q.1) (vO (rE L) w.1) (vO (rE L) w.2.1)))
noncomputable def Nd:Hk where
 e:=Pm
theorem FL:HkOk Nd where
 e:=λ{X k G L rE rB} o hE hB e f h=>by
  replace h:=a0a.mp h;obtain⟨⟨a,ix,p⟩,e,h⟩:=h
  cases BB e
  replace h:=a0a.mp h;obtain⟨⟨lo,hi,q⟩,e,h⟩:=h
  cases Ku e
  replace h:=bA h;obtain⟨_,h⟩:=h
  cases h
  exact I6 Im (hE o _) (sr (hE o) _) (sr (hE o) _)
 i:=λ_ _ _ _ _ h=>by cases h
 b:=λ_ _ _ _ _ h=>by cases h
 s:=λ_ _ _ _ _ _ h=>by cases h
end Dp
end
section
namespace Dp
open PySem L2
noncomputable def bI (ρ:ao):Out:=(aj (pQ 5 6 (aa (aq bJ (aa (fV 0) (aa (fV 1) (aa (fV 2) (aa (fV 4) ah))))) (aa (aq bJ (aa (fV 0) (aa (fV 1) (aa (fV 4) (aa (fV 3) ah))))) ah)))
  (aj (bu 7 (aq bJ (aa (fV 0) (aa (fV 1) (aa (fV 2) (aa (fV 3) ah))))))
  (aj (ig (oQ (fT (ak Bm (fV 5) (fC .non))) (fT (ak Bm (fV 6) (fC .non)))) (bv (Hs (ak Bm (fV 7) (fC .non)) (oT (iO (ak Bm (fV 5) (fC .non)) (oT (ak Bm (fV 6) (fC .non))))))) br)
  (bv (iO (ak pY (fV 7) (fC .non)) (oT (ak K7 (ak bE (fV 7) (fC (.int 0))) (fB vg (aa (ak bE (fV 5) (fC (.int 0))) (aa (ak bE (fV 6) (fC (.int 0))) ah)))))))))) ρ
noncomputable def dr:List PV->Option PR:=run 5 8 bI
theorem cN {a0 a1 a2 a3 a4:PV}:dr [a0,a1,a2,a3,a4]=(bI [some (.val a0),some (.val a1),some (.val a2),some (.val a3),some (.val a4),none,none,none]).res:=Eq.trans rfl rfl
noncomputable def qm (ρ:ao):Option RV:=(ak bE (fV 1) (fV 0)) ρ
noncomputable def pT (ρ:ao):Option RV:=(ak b6 (fV 0) (fV 1)) ρ
noncomputable def mv (ρ:ao):Out:=(aj (ig (eQ (fT (aq cA (aa (fV 3) (aa (fV 4) (aa (ak bE (fV 6) (fV 7)) (aa (ak bE (fV 6) (ak cH (fV 7) (fC (.int 1)))) ah))))))) (bv (fC (.bl false))) br)
  (ig (eQ (fT (aq dr (aa (fV 3) (aa (fV 4) (aa (ak bE (fV 6) (fV 7)) (aa (ak bE (fV 6) (ak cH (fV 7) (fC (.int 1)))) (aa (ak bE (fV 6) (fC (.int 8))) ah)))))))) (bv (fC (.bl false))) br)) ρ
noncomputable def mo (ρ:ao):Out:=(aj (bu 2 (aq bF (aa (aq cj (aa (fV 0) (aa (ak cH (fC (.int 60)) (fV 1)) ah))) (aa (fC (.int 13)) ah))))
  (aj (bu 3 (aq iX (aa (ak bE (fV 2) (fC (.int 0))) ah)))
  (aj (bu 4 (aq gP (aa (fV 0) (aa (fV 1) (aa (fV 3) (aa (ak bE (gU (aa (fC (.int 30)) (aa (fC (.int 60)) ah))) (fB A7 (aa (ak mc (ak b6 (ak bE (fV 2) (fC (.int 12))) (fC (.int 4))) (fC (.int 1))) ah))) (aa (fC (.int 999999999)) ah)))))))
  (aj (bu 5 (ak bE (aq eA (aa (fV 3) (aa (fV 4) ah))) (fC (.int 1))))
  (aj (ig (fT (ak nA (aq iw (aa (fV 3) (aa (fB kZ (aa (cQ [none,some 4] (qE (fV 5)) (gN 0) fy qm) ah)) ah))) (aq iw (aa (fV 3) (aa (fV 4) ah))))) (bv (fC (.bl false))) br)
  (aj (bu 6 (cQ [none,some 3] (qE (A4 (fV 2) (xc (fC (.int 1))) xL)) (gN 0) fy pT))
  (aj (j5 (jY Ek (aa (fC (.int 0)) (aa (fC (.int 8)) (aa (fC (.int 2)) ah)))) (gN 7) mv)
  (ig (eQ (fT (aq cA (aa (fV 3) (aa (fV 4) (aa (ak bE (fV 6) (fC (.int 9))) (aa (ak bE (fV 6) (fC (.int 9))) ah))))))) (bv (fC (.bl false))) br)))))))) ρ
noncomputable def tJ (ρ:ao):Out:=(aj (j5 (jY mU (aa (fB vg (aa (fC (.int 1)) (aa (fB pz (aa (fB j2 (aa (fV 0) ah)) (aa (fC (.int 3)) ah))) ah))) ah)) (gN 1) mo)
  (bv (fC (.bl true)))) ρ
noncomputable def Ae:List PV->Option PR:=run 1 8 tJ
theorem Gg {a0:PV}:Ae [a0]=(tJ [some (.val a0),none,none,none,none,none,none,none]).res:=Eq.trans rfl rfl
end Dp
end
section
namespace Dp
open PySem PySem.Spec L2 PyProof.Rows
section
variable {P:Program}{w:World}{K:PySem.W.Frag}{mg:Str->Option Value}{base:Heap}{k j:Nat}{x:Str}
theorem an {α:Type}{p:α->Prop}:gE p []:=trivial
theorem ac {F:Fn}{l:List (Str×Fn)}(d:DefN P w K mg base true j x F)(r:gE (λp:Str×Fn=>∃j,j<=k/\DefN P w K mg base true j p.1 p.2) l)(h:j<=k:=by decide):gE (λp:Str×Fn=>∃j,j<=k/\DefN P w K mg base true j p.1 p.2) ((x,F)::l):=⟨⟨j,h,d⟩,r⟩
theorem ad {F:Fn}{l:List (Str×Fn)}(d:DefN P w K mg base true j x F)(r:gE (λp:Str×Fn=>(∃j,j<=k/\DefN P w K mg base true j p.1 p.2)\/mg p.1=none) l)(h:j<=k:=by decide):gE (λp:Str×Fn=>(∃j,j<=k/\DefN P w K mg base true j p.1 p.2)\/mg p.1=none) ((x,F)::l):=⟨.inl ⟨j,h,d⟩,r⟩
theorem ae (F:Fn){l:List (Str×Fn)}(e:mg x=none)(r:gE (λp:Str×Fn=>(∃j,j<=k/\DefN P w K mg base true j p.1 p.2)\/mg p.1=none) l):gE (λp:Str×Fn=>(∃j,j<=k/\DefN P w K mg base true j p.1 p.2)\/mg p.1=none) ((x,F)::l):=⟨.inr e,r⟩
theorem al {F:ma}{l:List (Str×ma)}(d:DefL P w K mg base true j x F)(r:gE (λp:Str×ma=>∃j,j<=k/\DefL P w K mg base true j p.1 p.2) l)(h:j<=k:=by decide):gE (λp:Str×ma=>∃j,j<=k/\DefL P w K mg base true j p.1 p.2) ((x,F)::l):=⟨⟨j,h,d⟩,r⟩
theorem av {l:List Str}(m:∃a,mg x=some (.ref a))(r:gE (λx=>∃a,mg x=some (.ref a)) l):gE (λx=>∃a,mg x=some (.ref a)) (x::l):=⟨m,r⟩
noncomputable def gf (K:PySem.W.Frag)(x:Str)(f:Addr)(st:Stmt):Prop:=PySem.W.nsIn K mainGlobals x=some (some (.ref f))/\∃(oc:Value) (od:Option Addr) (kV dc pm:Value) (an:Option Addr) (cd ct:Value) (sl:Array (Option Value)),K.lookup f=some ⟨oc,od,.func (PySem.W.fnOf x x (gA st) (cv st) (ai st) .none kV dc pm an cd ct),sl⟩/\PySem.W.codeIn K cd x=true/\PySem.W.keepIn K (.ref f)=true
theorem gZ {f:Addr}{st:Stmt}{oc:Value}{od:Option Addr}{kV dc pm:Value}{an:Option Addr}{cd ct:Value}{sl:Array (Option Value)}(a:PySem.W.nsIn K mainGlobals x=some (some (.ref f)))(l:K.lookup f=some ⟨oc,od,.func (PySem.W.fnOf x x (gA st) (cv st) (ai st) .none kV dc pm an cd ct),sl⟩)(c:PySem.W.codeIn K cd x=true)(k:PySem.W.keepIn K (.ref f)=true):gf K x f st:=
 ⟨a,_,_,_,_,_,_,_,_,_,l,c,k⟩
theorem tq {h:Heap}{f:Addr}{st:Stmt}{ps:List Str}(X:K.In h)(G:h.Ns mainGlobals mg)(a:gf K x f st)
  (hb:∀(kV doc pm:Value) (an:Option Addr) (cdv ct:Value) (us:List Value),us.length=ps.length->bindArgs (PySem.W.fnOf x x (gA st) (cv st) (ai st) .none kV doc pm an cdv ct) ⟨us,[]⟩=pure (ps.zip us)):DF K mg x st ps:=by
 obtain⟨a,oc,od,kV,dc,pm,an,cd,ct,sl,l,c,k⟩:=a
 exact Gu l c k (PySem.W.mg_of X G a) hb
end
end Dp
namespace Dp
open PySem PySem.Spec L2 PyProof.Rows
noncomputable def Pc (N:List Str)(a:Nat)(sc:Scope):Bool:=
 (match sc.kind with|.function=>true|_=>false)&&!sc.isCoroutine&&!sc.isGenerator&&decide N.Nodup&&(N.take a).all (λx=>match sc.names.lookup x with|some .local=>true|some .cell=>true|_=>false)&&sc.names.all (λy=>match y.2 with|.free=>false|_=>true)
theorem Qy {N:List Str}{a:Nat}{sc:Scope}(h:Pc N a sc=true):FnScope N (N.take a) sc:=by
 unfold Pc at h
 simp only[a0b,a2e] at h
 obtain⟨⟨⟨⟨⟨h1,h2⟩,h3⟩,h4⟩,h5⟩,h6⟩:=h
 refine⟨?_,h2,h3,of_decide_eq_true h4,?_,λx hx=>?_,λy hy e=>?_⟩
 ·split at h1
  ·assumption
  ·cases h1
 ·rw[a2z]
  by_cases q:a<=N.length
  ·rw[Nat.min_eq_left q]
  ·rw[Nat.min_eq_right (by omega),List.take_length,a1v (by omega)]
 ·have:=a4d.mp h5 x hx
  split at this
  ·next e=>exact .inl e
  ·next e=>exact .inr e
  ·cases this
 ·have:=a4d.mp h6 y hy
  rw[e] at this;cases this
@[elab_as_elim] theorem Bv {P:List Value->Prop}{us:List Value}(h:us.length=1)(k:∀a,P [a]):P us:=by
 obtain _|⟨_,us⟩:=us
 ·cases h
 obtain _|⟨_,us⟩:=us
 ·exact k _
 ·simp at h
@[elab_as_elim] theorem Nk {P:List Value->Prop}{us:List Value}(h:us.length=2)(k:∀a b,P [a,b]):P us:=by
 obtain _|⟨_,us⟩:=us
 ·cases h
 obtain _|⟨_,us⟩:=us
 ·cases h
 obtain _|⟨_,us⟩:=us
 ·exact k _ _
 ·simp at h
@[elab_as_elim] theorem OZ {P:List Value->Prop}{us:List Value}(h:us.length=3)(k:∀a b c,P [a,b,c]):P us:=by
 obtain _|⟨_,us⟩:=us
 ·cases h
 obtain _|⟨_,us⟩:=us
 ·cases h
 obtain _|⟨_,us⟩:=us
 ·cases h
 obtain _|⟨_,us⟩:=us
 ·exact k _ _ _
 ·simp at h
@[elab_as_elim] theorem Om {P:List Value->Prop}{us:List Value}(h:us.length=4)(k:∀a b c d,P [a,b,c,d]):P us:=by
 obtain _|⟨_,us⟩:=us
 ·cases h
 obtain _|⟨_,us⟩:=us
 ·cases h
 obtain _|⟨_,us⟩:=us
 ·cases h
 obtain _|⟨_,us⟩:=us
 ·cases h
 obtain _|⟨_,us⟩:=us
 ·exact k _ _ _ _
 ·simp at h
@[elab_as_elim] theorem Nn {P:List Value->Prop}{us:List Value}(h:us.length=5)(k:∀a b c d e,P [a,b,c,d,e]):P us:=by
 obtain _|⟨_,us⟩:=us
 ·cases h
 obtain _|⟨_,us⟩:=us
 ·cases h
 obtain _|⟨_,us⟩:=us
 ·cases h
 obtain _|⟨_,us⟩:=us
 ·cases h
 obtain _|⟨_,us⟩:=us
 ·cases h
 obtain _|⟨_,us⟩:=us
 ·exact k _ _ _ _ _
 ·simp at h
@[elab_as_elim] theorem NZ {P:List Value->Prop}{us:List Value}(h:us.length=6)(k:∀a b c d e f,P [a,b,c,d,e,f]):P us:=by
 obtain _|⟨_,us⟩:=us
 ·cases h
 obtain _|⟨_,us⟩:=us
 ·cases h
 obtain _|⟨_,us⟩:=us
 ·cases h
 obtain _|⟨_,us⟩:=us
 ·cases h
 obtain _|⟨_,us⟩:=us
 ·cases h
 obtain _|⟨_,us⟩:=us
 ·cases h
 obtain _|⟨_,us⟩:=us
 ·exact k _ _ _ _ _ _
 ·simp at h
section
variable {P:Program}{w:World}{K:PySem.W.Frag}{mg:Str->Option Value}{base:Heap}{k:Nat}{x:Str}
theorem vd {h:Heap}{f:Addr}{st:Stmt}{a n:Nat}{s:FS}{G:Gc}(L:Lc)(X:K.In h)(Gn:h.Ns mainGlobals mg)(fk:gf K x f st)(g:GOk P w K mg base k G.toGd)(hk:HkOk G.hk)(sq:Pc L.N a (ai st)=true:=by decide +kernel)
  (hb:∀(kV doc pm:Value) (an:Option Addr) (cdv ct:Value) (us:List Value),us.length=(L.N.take a).length->bindArgs (PySem.W.fnOf x x (gA st) (cv st) (ai st) .none kV doc pm an cdv ct) ⟨us,[]⟩=pure ((L.N.take a).zip us):=by intro _ _ _ _ _ _ us hl;first|exact Bv hl λ_=>rfl|exact Nk hl λ_ _=>rfl|exact OZ hl λ_ _ _=>rfl|exact Om hl λ_ _ _ _=>rfl|exact Nn hl λ_ _ _ _ _=>rfl|exact NZ hl λ_ _ _ _ _ _=>rfl)
  (hs:vL (vS G 60 L) (cv st)=s:=by kernel_rfl) (h1:L.sc=ai st:=by rfl) (h3:L.top=true:=by rfl) (ha:(L.N.take a).length=a:=by rfl) (hn:L.N.length=n:=by rfl):DefN P w K mg base true (k+1) x (run a n s):=
 N1 L (tq X Gn fk hb) (Qy sq) g hk hs h1 rfl h3 ha hn
theorem Nj {h:Heap}{f:Addr}{st:Stmt}{a n:Nat}{s:FS}{G:Gc}(L:Lc)(X:K.In h)(Gn:h.Ns mainGlobals mg)(fk:gf K x f st)(g:GOk P w K mg base k G.toGd)(hk:HkOk G.hk)(sq:Pc L.N a (ai st)=true:=by decide +kernel)
  (hb:∀(kV doc pm:Value) (an:Option Addr) (cdv ct:Value) (us:List Value),us.length=(L.N.take a).length->bindArgs (PySem.W.fnOf x x (gA st) (cv st) (ai st) .none kV doc pm an cdv ct) ⟨us,[]⟩=pure ((L.N.take a).zip us):=by intro _ _ _ _ _ _ us hl;first|exact Bv hl λ_=>rfl|exact Nk hl λ_ _=>rfl|exact OZ hl λ_ _ _=>rfl|exact Om hl λ_ _ _ _=>rfl|exact Nn hl λ_ _ _ _ _=>rfl|exact NZ hl λ_ _ _ _ _ _=>rfl)
  (hs:vL (vS G 60 L) (cv st)=s:=by kernel_rfl) (h1:L.sc=ai st:=by rfl) (h3:L.top=true:=by rfl) (h4:L.lent=true:=by rfl) (ha:(L.N.take a).length=a:=by rfl) (hn:L.N.length=n:=by rfl):DefL P w K mg base true (k+1) x (ro a n s):=
 Kn L (tq X Gn fk hb) (Qy sq) g hk hs h1 rfl h3 h4 ha hn
end
end Dp
end
section
namespace K61
open PySem L2 Dp
noncomputable def top (i:Nat):Stmt:=(PySem.Challenge.pw_lotheads_k61_whole_narrowest_roads.main.body)[i]?.getD (.Pass ⟨0,0,0,0⟩)
structure Txt (P:Program)(w:World)(K:PySem.W.Frag)(mg:Str->Option Value):Prop where
 n_abs:mg "abs" = none
 n_any:mg "any" = none
 n_bool:mg "bool" = none
 n_enumerate:mg "enumerate" = none
 n_int:mg "int" = none
 n_isinstance:mg "isinstance" = none
 n_len:mg "len" = none
 n_list:mg "list" = none
 n_max:mg "max" = none
 n_min:mg "min" = none
 n_range:mg "range" = none
 n_sorted:mg "sorted" = none
 n_str:mg "str" = none
 n_sum:mg "sum" = none
 n_tuple:mg "tuple" = none
 n_is_deed:mg "is_deed" = none
 c_MOST_THINGS:∃t,mg "MOST_THINGS" = some (.int 40 t)
 k_JOINS:∀base,K.In base->HG P w mg base "JOINS" (.ktu [.str "size",.str "rank",.str "told",.str "names"])
 k_MANNERS:∀base,K.In base->HG P w mg base "MANNERS" (.dct [.inr "none",.inr "whole",.inr "halves",.inr "splits",.inr "one"] [.fn "find_none",.fn "find_whole",.fn "find_halves",.fn "find_splits",.fn "find_one"])
noncomputable abbrev j7:Stmt:=top 58
noncomputable abbrev nO:Stmt:=top 59
noncomputable abbrev n4:Stmt:=top 57
noncomputable abbrev l7:Stmt:=top 60
noncomputable abbrev nN:Stmt:=top 61
noncomputable abbrev qL:Stmt:=top 9
noncomputable abbrev rG:Stmt:=top 10
noncomputable abbrev mn:Stmt:=top 12
noncomputable abbrev ou:Stmt:=top 30
noncomputable abbrev qF:Stmt:=top 11
noncomputable abbrev sB:Stmt:=top 27
noncomputable abbrev l8:Stmt:=top 28
noncomputable abbrev vD:Stmt:=top 29
noncomputable abbrev nP:Stmt:=top 51
noncomputable abbrev g6:Stmt:=top 43
noncomputable abbrev mf:Stmt:=top 44
noncomputable abbrev ke:Stmt:=top 17
noncomputable abbrev jG:Stmt:=top 18
noncomputable abbrev ji:Stmt:=top 19
noncomputable abbrev jg:Stmt:=top 20
noncomputable abbrev lV:Stmt:=top 21
noncomputable abbrev qq:Stmt:=top 23
noncomputable abbrev k8:Stmt:=top 24
noncomputable abbrev nQ:Stmt:=top 45
noncomputable abbrev sA:Stmt:=top 25
noncomputable abbrev wA:Stmt:=top 34
noncomputable abbrev nU:Stmt:=top 35
noncomputable abbrev lz:Stmt:=top 31
noncomputable abbrev lw:Stmt:=top 32
noncomputable abbrev g9:Stmt:=top 33
noncomputable abbrev om:Stmt:=top 36
noncomputable abbrev iq:Stmt:=top 47
noncomputable abbrev kJ:Stmt:=top 49
noncomputable abbrev nX:Stmt:=top 52
noncomputable abbrev kE:Stmt:=top 54
noncomputable abbrev uG:Stmt:=top 14
noncomputable abbrev sT:Stmt:=top 15
noncomputable abbrev rM:Stmt:=top 48
noncomputable abbrev u6:Stmt:=top 53
noncomputable abbrev lp:Stmt:=top 13
noncomputable abbrev qP:Stmt:=top 39
noncomputable abbrev iT:Stmt:=top 40
noncomputable abbrev lv:Stmt:=top 38
noncomputable abbrev nW:Stmt:=top 55
noncomputable abbrev lB:Stmt:=top 63
noncomputable abbrev ka:Stmt:=top 62
noncomputable abbrev jl:Stmt:=top 64
noncomputable abbrev iK:Stmt:=top 65
noncomputable abbrev iF:Stmt:=top 66
noncomputable abbrev Ig:Stmt:=top 67
noncomputable def G0:Gc:={ bi:=["abs","any","bool","enumerate","int","isinstance","len","list","max","min","range","sorted","str","sum","tuple","is_deed"],nis:=[("MOST_THINGS",40)],tups:=[("JOINS",[.str "size",.str "rank",.str "told",.str "names"])],dcts:=[("MANNERS",[.inr "none",.inr "whole",.inr "halves",.inr "splits",.inr "one"],[.fn "find_none",.fn "find_whole",.fn "find_halves",.fn "find_splits",.fn "find_one"])],hk:=(((((hkMax.or Nd).or IM).or HZ).or HI).or HV).or I0 }
theorem fP:HkOk G0.hk:=(sK (sK (sK (sK (sK (sK BX FL) Ei) BA) DD) DA) Ef)
section
variable {P:Program}{w:World}{K:PySem.W.Frag}{mg:Str->Option Value}{base:Heap}{k:Nat}
theorem gk {vals:List Str}{fns tab:List (Str×Fn)}{lents:List (Str×ma)}(T:Txt P w K mg)(KI:K.In base)(h4:gE (λx=>∃a,mg x=some (.ref a)) vals)(h5:gE (λp:Str×Fn=>∃j,j<=k/\DefN P w K mg base true j p.1 p.2) fns)(h7:gE (λp:Str×Fn=>(∃j,j<=k/\DefN P w K mg base true j p.1 p.2)\/mg p.1=none) tab)(h8:gE (λp:Str×ma=>∃j,j<=k/\DefL P w K mg base true j p.1 p.2) lents):GOk P w K mg base k ({ G0 with fns:=fns,tab:=tab,lents:=lents,vals:=vals }:Gc).toGd:=
 Q9 ⟨T.n_abs,⟨T.n_any,⟨T.n_bool,⟨T.n_enumerate,⟨T.n_int,⟨T.n_isinstance,⟨T.n_len,⟨T.n_list,⟨T.n_max,⟨T.n_min,⟨T.n_range,⟨T.n_sorted,⟨T.n_str,⟨T.n_sum,⟨T.n_tuple,⟨T.n_is_deed,trivial⟩⟩⟩⟩⟩⟩⟩⟩⟩⟩⟩⟩⟩⟩⟩⟩ ⟨T.c_MOST_THINGS,trivial⟩ ⟨T.k_JOINS base KI,trivial⟩ h4 h5 ⟨T.k_MANNERS base KI,trivial⟩ h7 h8
end
theorem LU {l:PySem.W.OpenLaw}{w:World}{K:PySem.W.Frag}{h:Heap}{mg:Str->Option Value}{fa f0 f1 f2 f3 f4 f5 f6 f7 f8 f9 f10 f11 f12 f13 f14 f15 f16 f17 f18 f19 f20 f21 f22 f23 f24 f25 f26 f27 f28 f29 f30 f31 f32 f33 f34 f35 f36 f37 f38 f39 f40 f41 f42 f43 f44 f45 f46 f47 f48 f49:Addr}(X:K.In h)(G:h.Ns mainGlobals mg)(hfa:mg "law" = some (.ref fa))
  (a0:gf K "_law_numbers" f0 j7)
  (a1:gf K "_law_many" f1 nO)
  (a2:gf K "_law_cell" f2 n4)
  (a3:gf K "_law_joins" f3 l7)
  (a4:gf K "_law_ties" f4 nN)
  (a5:gf K "is_whole" f5 qL)
  (a6:gf K "is_many" f6 rG)
  (a7:gf K "check_many" f7 mn)
  (a8:gf K "check_row" f8 ou)
  (a9:gf K "is_thing" f9 qF)
  (a10:gf K "is_pair" f10 sB)
  (a11:gf K "is_telling" f11 l8)
  (a12:gf K "is_tie" f12 vD)
  (a13:gf K "check_web" f13 nP)
  (a14:gf K "is_way_of_joining" f14 g6)
  (a15:gf K "check_join" f15 mf)
  (a16:gf K "find_none" f16 ke)
  (a17:gf K "find_whole" f17 jG)
  (a18:gf K "find_halves" f18 ji)
  (a19:gf K "find_splits" f19 jg)
  (a20:gf K "find_one" f20 lV)
  (a21:gf K "is_short" f21 qq)
  (a22:gf K "check_short" f22 k8)
  (a23:gf K "new_store" f23 nQ)
  (a24:gf K "find_in" f24 sA)
  (a25:gf K "copied" f25 wA)
  (a26:gf K "find_done" f26 nU)
  (a27:gf K "first_stays" f27 lz)
  (a28:gf K "mark_behind" f28 lw)
  (a29:gf K "with_heads_joined" f29 g9)
  (a30:gf K "join_done" f30 om)
  (a31:gf K "forest_and_times" f31 iq)
  (a32:gf K "real_numbers" f32 kJ)
  (a33:gf K "chosen_in" f33 nX)
  (a34:gf K "least_forest" f34 kE)
  (a35:gf K "way_up" f35 uG)
  (a36:gf K "lots_in" f36 sT)
  (a37:gf K "lots_by" f37 rM)
  (a38:gf K "pieces" f38 u6)
  (a39:gf K "check_thing" f39 lp)
  (a40:gf K "roads_by" f40 qP)
  (a41:gf K "numbers_between" f41 iT)
  (a42:gf K "steps_along" f42 lv)
  (a43:gf K "narrowest" f43 nW)
  (a44:gf K "_law_in_one" f44 lB)
  (a45:gf K "_law_road_by" f45 ka)
  (a46:gf K "_law_by_weight" f46 jl)
  (a47:gf K "_law_pair_right" f47 iK)
  (a48:gf K "_law_third_right" f48 iF)
  (a49:gf K "law" f49 Ig)
  (z_abs:PySem.W.nsIn K mainGlobals "abs" = some none)
  (z_any:PySem.W.nsIn K mainGlobals "any" = some none)
  (z_bool:PySem.W.nsIn K mainGlobals "bool" = some none)
  (z_enumerate:PySem.W.nsIn K mainGlobals "enumerate" = some none)
  (z_int:PySem.W.nsIn K mainGlobals "int" = some none)
  (z_isinstance:PySem.W.nsIn K mainGlobals "isinstance" = some none)
  (z_len:PySem.W.nsIn K mainGlobals "len" = some none)
  (z_list:PySem.W.nsIn K mainGlobals "list" = some none)
  (z_max:PySem.W.nsIn K mainGlobals "max" = some none)
  (z_min:PySem.W.nsIn K mainGlobals "min" = some none)
  (z_range:PySem.W.nsIn K mainGlobals "range" = some none)
  (z_sorted:PySem.W.nsIn K mainGlobals "sorted" = some none)
  (z_str:PySem.W.nsIn K mainGlobals "str" = some none)
  (z_sum:PySem.W.nsIn K mainGlobals "sum" = some none)
  (z_tuple:PySem.W.nsIn K mainGlobals "tuple" = some none)
  (z_is_deed:PySem.W.nsIn K mainGlobals "is_deed" = some none)
  {tk_MOST_THINGS:Tok}
  (y_MOST_THINGS:PySem.W.nsIn K mainGlobals "MOST_THINGS" = some (some (.int 40 tk_MOST_THINGS)))
  {aK0:Addr} {oK0:Option Addr} {nK0:Nat} {sK0:Array (Option Value)} {tK0_0 tK0_1 tK0_2 tK0_3:Tok} (yk0:PySem.W.nsIn K mainGlobals "JOINS" = some (some (.ref aK0)))
  (lk0:K.lookup aK0=some ⟨.type "tuple",oK0,.seq #[.str "size" tK0_0,.str "rank" tK0_1,.str "told" tK0_2,.str "names" tK0_3] nK0,sK0⟩)
  {aK1:Addr} {tK1_0 tK1_1 tK1_2 tK1_3 tK1_4:Tok} (yk1:PySem.W.nsIn K mainGlobals "MANNERS" = some (some (.ref aK1)))
  (O1:K.lookup aK1=some ⟨.type "dict",none,.dict #[⟨PyData.keyHash w.params "none",.str "none" tK1_0,.ref f16⟩,⟨PyData.keyHash w.params "whole",.str "whole" tK1_1,.ref f17⟩,⟨PyData.keyHash w.params "halves",.str "halves" tK1_2,.ref f18⟩,⟨PyData.keyHash w.params "splits",.str "splits" tK1_3,.ref f19⟩,⟨PyData.keyHash w.params "one",.str "one" tK1_4,.ref f20⟩] 5,#[]⟩) (sk1:(aK1==sysModules)=false)
  : ∃fd:FuncData,(∀(s:Shared) (u:Value),BindsTo s fd ⟨[u],[]⟩ [("_law_script",u)])/\∀base:Heap,K.In base/\base.Ns mainGlobals mg->NF l.prog w K mg base true 11 fa fd ["_law_script"] Ae:=by
 have T:Txt l.prog w K mg:=⟨PySem.W.mg_none_of X G z_abs,PySem.W.mg_none_of X G z_any,PySem.W.mg_none_of X G z_bool,PySem.W.mg_none_of X G z_enumerate,PySem.W.mg_none_of X G z_int,PySem.W.mg_none_of X G z_isinstance,PySem.W.mg_none_of X G z_len,PySem.W.mg_none_of X G z_list,PySem.W.mg_none_of X G z_max,PySem.W.mg_none_of X G z_min,PySem.W.mg_none_of X G z_range,PySem.W.mg_none_of X G z_sorted,PySem.W.mg_none_of X G z_str,PySem.W.mg_none_of X G z_sum,PySem.W.mg_none_of X G z_tuple,PySem.W.mg_none_of X G z_is_deed,⟨_,PySem.W.mg_of X G y_MOST_THINGS⟩,λbase KI=>Fw (its:=[.str "size" tK0_0,.str "rank" tK0_1,.str "told" tK0_2,.str "names" tK0_3]) KI (PySem.W.mg_of X G yk0) lk0 (show 4<=sizeLine by decide) λ_ _ _=>⟨_,_,rfl,⟨_,rfl⟩,⟨_,_,rfl,⟨_,rfl⟩,⟨_,_,rfl,⟨_,rfl⟩,⟨_,_,rfl,⟨_,rfl⟩,rfl⟩⟩⟩⟩,λbase KI=>Fa KI (PySem.W.mg_of X G yk1) sk1 O1 (show 5<=sizeLine by decide) (by decide +kernel) (.cons (λ_ _ e=>⟨_,by rw[e];exact PySem.W.mg_of X G a16.1,rfl⟩) (.cons (λ_ _ e=>⟨_,by rw[e];exact PySem.W.mg_of X G a17.1,rfl⟩) (.cons (λ_ _ e=>⟨_,by rw[e];exact PySem.W.mg_of X G a18.1,rfl⟩) (.cons (λ_ _ e=>⟨_,by rw[e];exact PySem.W.mg_of X G a19.1,rfl⟩) (.cons (λ_ _ e=>⟨_,by rw[e];exact PySem.W.mg_of X G a20.1,rfl⟩) (.nil))))))⟩
 have M_is_tie:=PySem.W.mg_of X G a12.1
 refine Go (R:=λbase=>K.In base/\base.Ns mainGlobals mg) (tq X G a49 λ_ _ _ _ _ _ us hl=>Bv hl λ_=>rfl) hfa (Qy (N:=["_law_script","_law_at","_law_head","_law_many_here","_law_ties_here","_law_chosen","_law_things","_law_k"]) (a:=1) (by decide +kernel)) rfl rfl λbase hb=>?_
 have KI:=hb.1
 have D__law_numbers:DefN l.prog w K mg base true 1 "_law_numbers" bF:=vd { sc:=ai j7,N:=["_law_cell_here","_law_many_here","_law_some","_law_state","_law_digits","_law_k"],own:=["_law_some"] } X G a0 (gk T KI an an an an) fP
 have D__law_many:DefN l.prog w K mg base true 1 "_law_many" iX:=vd { sc:=ai nO,N:=["_law_x"] } X G a1 (gk T KI an an an an) fP
 have D__law_cell:DefN l.prog w K mg base true 1 "_law_cell" cj:=vd { sc:=ai n4,N:=["_law_script","_law_k","_law_state","_law_cell_here"] } X G a2 (gk T KI an an an an) fP
 have D__law_joins:DefN l.prog w K mg base true 2 "_law_joins" hU:=vd { sc:=ai l7,N:=["_law_script","_law_at","_law_many_here","_law_most","_law_head","_law_row","_law_k","_law_xs","_law_x","_law_y"],own:=["_law_row"] } X G a3 (gk T KI an (ac D__law_numbers (ac D__law_cell an)) an an) fP
 have D__law_ties:DefN l.prog w K mg base true 3 "_law_ties" gP:=vd { sc:=ai nN,N:=["_law_script","_law_at","_law_many_here","_law_most","_law_heavy","_law_row","_law_head","_law_ties_here","_law_k","_law_xs"],own:=["_law_ties_here"] } X G a4 (gk T KI an (ac D__law_joins (ac D__law_numbers (ac D__law_cell an))) an an) fP
 have D_is_whole:DefN l.prog w K mg base true 1 "is_whole" fZ:=vd { sc:=ai qL,N:=["thing"] } X G a5 (gk T KI an an an an) fP
 have D_is_many:DefN l.prog w K mg base true 2 "is_many" ju:=vd { sc:=ai rG,N:=["thing"] } X G a6 (gk T KI an (ac D_is_whole an) an an) fP
 have D_check_many:DefN l.prog w K mg base true 3 "check_many" hZ:=vd { sc:=ai mn,N:=["many"] } X G a7 (gk T KI an (ac D_is_many an) an an) fP
 have D_is_thing:DefN l.prog w K mg base true 2 "is_thing" bT:=vd { sc:=ai qF,N:=["many","thing"] } X G a9 (gk T KI an (ac D_is_whole an) an an) fP
 have D_is_pair:DefN l.prog w K mg base true 3 "is_pair" cz:=vd { sc:=ai sB,N:=["many","thing"] } X G a10 (gk T KI an (ac D_is_thing an) an an) fP
 have D_is_telling:DefN l.prog w K mg base true 4 "is_telling" bS:=vd { sc:=ai l8,N:=["many","thing"] } X G a11 (gk T KI an (ac D_is_pair (ac D_is_whole an)) an an) fP
 have D_is_tie:DefN l.prog w K mg base true 5 "is_tie" eP:=vd { sc:=ai vD,N:=["many","thing"] } X G a12 (gk T KI an (ac D_is_telling an) an an) fP
 have D_check_row:DefN l.prog w K mg base true 6 "check_row" iM:=vd { sc:=ai ou,N:=["many","row","is_right","number","place"] } X G a8 (gk T KI an an (ae fj T.n_is_deed (ad D_is_pair (ad D_is_telling (ad D_is_thing (ad D_is_tie an))))) an) fP
 have D_check_web:DefN l.prog w K mg base true 7 "check_web" fg:=vd { sc:=ai nP,N:=["many","ties"] } X G a13 (gk T KI (av ⟨_,M_is_tie⟩ an) (ac D_check_many (ac D_check_row an)) an an) fP
 have D_is_way_of_joining:DefN l.prog w K mg base true 1 "is_way_of_joining" cU:=vd { sc:=ai g6,N:=["thing"] } X G a14 (gk T KI an an an an) fP
 have D_check_join:DefN l.prog w K mg base true 2 "check_join" jQ:=vd { sc:=ai mf,N:=["join"] } X G a15 (gk T KI an (ac D_is_way_of_joining an) an an) fP
 have D_find_none:DefN l.prog w K mg base true 1 "find_none" d4:=vd { sc:=ai ke,N:=["ups","x","at","steps"] } X G a16 (gk T KI an an an an) fP
 have L_find_none:DefL l.prog w K mg base true 1 "find_none" ib:=Nj { sc:=ai ke,N:=["ups","x","at","steps"],lent:=true } X G a16 (gk T KI an an an an) fP
 have D_find_whole:DefN l.prog w K mg base true 2 "find_whole" sW:=vd { sc:=ai jG,N:=["ups","x","head","steps","at","above"],own:=["ups"] } X G a17 (gk T KI an (ac D_find_none an) an an) fP
 have L_find_whole:DefL l.prog w K mg base true 2 "find_whole" gw:=Nj { sc:=ai jG,N:=["ups","x","head","steps","at","above"],own:=["ups"],lent:=true } X G a17 (gk T KI an (ac D_find_none an) an an) fP
 have D_find_halves:DefN l.prog w K mg base true 1 "find_halves" q6:=vd { sc:=ai ji,N:=["ups","x","at","steps"],own:=["ups"] } X G a18 (gk T KI an an an an) fP
 have L_find_halves:DefL l.prog w K mg base true 1 "find_halves" fK:=Nj { sc:=ai ji,N:=["ups","x","at","steps"],own:=["ups"],lent:=true } X G a18 (gk T KI an an an an) fP
 have D_find_splits:DefN l.prog w K mg base true 1 "find_splits" ri:=vd { sc:=ai jg,N:=["ups","x","at","steps","above"],own:=["ups"] } X G a19 (gk T KI an an an an) fP
 have L_find_splits:DefL l.prog w K mg base true 1 "find_splits" fI:=Nj { sc:=ai jg,N:=["ups","x","at","steps","above"],own:=["ups"],lent:=true } X G a19 (gk T KI an an an an) fP
 have D_find_one:DefN l.prog w K mg base true 2 "find_one" xX:=vd { sc:=ai lV,N:=["ups","x","head","steps"],own:=["ups"] } X G a20 (gk T KI an (ac D_find_none an) an an) fP
 have L_find_one:DefL l.prog w K mg base true 2 "find_one" iP:=Nj { sc:=ai lV,N:=["ups","x","head","steps"],own:=["ups"],lent:=true } X G a20 (gk T KI an (ac D_find_none an) an an) fP
 have D_is_short:DefN l.prog w K mg base true 1 "is_short" jI:=vd { sc:=ai qq,N:=["thing"] } X G a21 (gk T KI an an an an) fP
 have D_check_short:DefN l.prog w K mg base true 2 "check_short" gy:=vd { sc:=ai k8,N:=["short"] } X G a22 (gk T KI an (ac D_is_short an) an an) fP
 have D_new_store:DefN l.prog w K mg base true 4 "new_store" iW:=vd { sc:=ai nQ,N:=["many","join","short","mark"],alt:=[(175,25)] } X G a23 (gk T KI an (ac D_check_many (ac D_check_join (ac D_check_short an))) an an) fP
 have D_find_in:DefN l.prog w K mg base true 3 "find_in" jm:=vd { sc:=ai sA,N:=["ups","short","x","behind","manner","head","steps"],own:=["behind"] } X G a24 (gk T KI an an an (al L_find_none (al L_find_whole (al L_find_halves (al L_find_splits (al L_find_one an)))))) fP
 have D_copied:DefN l.prog w K mg base true 1 "copied" mF:=vd { sc:=ai wA,N:=["numbers"] } X G a25 (gk T KI an an an an) fP
 have D_find_done:DefN l.prog w K mg base true 4 "find_done" gG:=vd { sc:=ai nU,N:=["store","x","join","short","ups","marks","head","behind","steps"] } X G a26 (gk T KI an (ac D_find_in (ac D_copied an)) an an) fP
 have D_first_stays:DefN l.prog w K mg base true 1 "first_stays" gx:=vd { sc:=ai lz,N:=["join","marks","first","second"] } X G a27 (gk T KI an an an an) fP
 have D_mark_behind:DefN l.prog w K mg base true 1 "mark_behind" gv:=vd { sc:=ai lw,N:=["join","top","under"] } X G a28 (gk T KI an an an an) fP
 have D_with_heads_joined:DefN l.prog w K mg base true 2 "with_heads_joined" cV:=vd { sc:=ai g9,N:=["store","first","second","join","short","ups","marks","stays","top","under","new_ups","new_marks"],own:=["new_marks","new_ups"] } X G a29 (gk T KI an (ac D_first_stays (ac D_mark_behind an)) an an) fP
 have D_join_done:DefN l.prog w K mg base true 5 "join_done" gM:=vd { sc:=ai om,N:=["store","x","y","after_x","first","steps_x","after_y","second","steps_y","steps"] } X G a30 (gk T KI an (ac D_find_done (ac D_with_heads_joined an)) an an) fP
 have D_forest_and_times:DefN l.prog w K mg base true 6 "forest_and_times" b5:=vd { sc:=ai iq,N:=["many","row","store","times","number","x","y","behind","real","steps","thing"],own:=["times"] } X G a31 (gk T KI an (ac D_new_store (ac D_join_done an)) an an) fP
 have D_real_numbers:DefN l.prog w K mg base true 7 "real_numbers" fE:=vd { sc:=ai kJ,N:=["many","row","times"],cmp:=[((191,11),["number","times"])] } X G a32 (gk T KI an (ac D_forest_and_times an) an an) fP
 have D_chosen_in:DefN l.prog w K mg base true 8 "chosen_in" gB:=vd { sc:=ai nX,N:=["many","ties","order","joins"],alt:=[(199,17)],cmp:=[((197,19),["number","x","y","weight"]),((198,12),["weight","number","ties"]),((199,24),["at","order"])] } X G a33 (gk T KI an (ac D_real_numbers an) an an) fP
 have D_least_forest:DefN l.prog w K mg base true 9 "least_forest" eA:=vd { sc:=ai kE,N:=["many","ties","chosen"],cmp:=[((206,16),["number","ties"])] } X G a34 (gk T KI an (ac D_check_web (ac D_chosen_in an)) an an) fP
 have D_way_up:DefN l.prog w K mg base true 1 "way_up" jt:=vd { sc:=ai uG,N:=["ups","x","way"],own:=["way"] } X G a35 (gk T KI an an an an) fP
 have D_lots_in:DefN l.prog w K mg base true 2 "lots_in" jD:=vd { sc:=ai sT,N:=["ups","lots","x","head"],cmp:=[((41,11),["lot"])],dic:=["lots"] } X G a36 (gk T KI an (ac D_way_up an) an an) fP
 have D_lots_by:DefN l.prog w K mg base true 7 "lots_by" kR:=vd { sc:=ai rM,N:=["many","row"] } X G a37 (gk T KI an (ac D_lots_in (ac D_forest_and_times an)) an an) fP
 have D_pieces:DefN l.prog w K mg base true 8 "pieces" iw:=vd { sc:=ai u6,N:=["many","ties"],cmp:=[((202,25),["x","y","weight"])] } X G a38 (gk T KI an (ac D_check_web (ac D_lots_by an)) an an) fP
 have D_check_thing:DefN l.prog w K mg base true 3 "check_thing" eT:=vd { sc:=ai lp,N:=["many","x"] } X G a39 (gk T KI an (ac D_is_thing an) an an) fP
 have D_roads_by:DefN l.prog w K mg base true 1 "roads_by" jO:=vd { sc:=ai qP,N:=["steps","x","roads","waiting","at","start","end","label"],frz:=[(157,[2])],own:=["waiting"],dic:=["roads"] } X G a40 (gk T KI an an an an) fP
 have D_numbers_between:DefN l.prog w K mg base true 2 "numbers_between" cL:=vd { sc:=ai iT,N:=["steps","x","y","road"],cmp:=[((162,17),["number","sign"])] } X G a41 (gk T KI an (ac D_roads_by an) an an) fP
 have D_steps_along:DefN l.prog w K mg base true 1 "steps_along" gq:=vd { sc:=ai lv,N:=["row","numbers","steps","number","first","second"],own:=["steps"],alt:=[(145,1039)] } X G a42 (gk T KI an an an an) fP
 have D_narrowest:DefN l.prog w K mg base true 9 "narrowest" bJ:=vd { sc:=ai nW,N:=["many","ties","x","y","road"],cmp:=[((214,16),["number","ties"])] } X G a43 (gk T KI an (ac D_check_web (ac D_check_thing (ac D_numbers_between (ac D_steps_along (ac D_chosen_in an))))) an an) fP
 have D__law_in_one:DefN l.prog w K mg base true 1 "_law_in_one" dH:=vd { sc:=ai lB,N:=["_law_lots","_law_x","_law_y"],cmp:=[((270,15),["_law_lot","_law_x","_law_y"])] } X G a44 (gk T KI an an an an) fP
 have D__law_road_by:DefN l.prog w K mg base true 1 "_law_road_by" d8:=vd { sc:=ai ka,N:=["_law_ties_here","_law_numbers_here","_law_x","_law_y","_law_roads","_law_waiting","_law_here","_law_k","_law_one","_law_other"],own:=["_law_waiting"],dic:=["_law_roads"] } X G a45 (gk T KI an an an an) fP
 have D__law_by_weight:DefN l.prog w K mg base true 9 "_law_by_weight" cY:=vd { sc:=ai jl,N:=["_law_many_here","_law_ties_here","_law_weight"],cmp:=[((272,40),["_law_tie","_law_weight"])] } X G a46 (gk T KI an (ac D_pieces an) an an) fP
 have D__law_pair_right:DefN l.prog w K mg base true 10 "_law_pair_right" cA:=vd { sc:=ai iK,N:=["_law_many_here","_law_ties_here","_law_x","_law_y","_law_told","_law_weight","_law_road","_law_more"],cmp:=[((282,32),["_law_k","_law_ties_here"]),((292,22),["_law_tie"])] } X G a47 (gk T KI an (ac D_narrowest (ac D__law_in_one (ac D__law_road_by (ac D__law_by_weight (ac D_pieces (ac D_least_forest an)))))) an an) fP
 have D__law_third_right:DefN l.prog w K mg base true 10 "_law_third_right" dr:=vd { sc:=ai iF,N:=["_law_many_here","_law_ties_here","_law_x","_law_y","_law_z","_law_here","_law_there","_law_straight"] } X G a48 (gk T KI an (ac D_narrowest an) an an) fP
 exact⟨{ sc:=ai Ig,N:=["_law_script","_law_at","_law_head","_law_many_here","_law_ties_here","_law_chosen","_law_things","_law_k"],cmp:=[((306,40),["_law_k","_law_ties_here"]),((308,22),["_law_x","_law_many_here"])] },_,(gk T KI an (ac D__law_numbers (ac D__law_many (ac D__law_ties (ac D__law_cell (ac D_least_forest (ac D_pieces (ac D__law_pair_right (ac D__law_third_right an)))))))) an an),fP,by kernel_rfl,rfl,rfl,rfl⟩
end K61
end
section
namespace Fo
open PySem
noncomputable def CK (us:List Nat):Nat->Nat->List Nat
 |0,x=>[x]
 |n+1,x=>if up us x=x then [x] else x::CK us n (up us x)
noncomputable def way (us:List Nat)(x:Nat):List Nat:=CK us us.length x
theorem Hr {us:List Nat}{x:Nat}{l:List Nat}(w:Way us x l):∀{n:Nat},l.length<=n+1->CK us n x=l:=by
 induction w with
 | @head x e=>
  intro n h
  cases n with
  |zero=>rfl
  |succ n=>rw[CK,if_pos e]
 | @step x l ne w ih=>
  intro n h
  cases n with
  |zero=>have:=w.pos;rw[a0p] at h;omega
  |succ n=>rw[CK,if_neg ne,ih (by simpa using h)]
theorem nz {us:List Nat}{x:Nat}{l:List Nat}(f:Fst us)(hx:x<us.length)(w:Way us x l):way us x=l:=by
 obtain⟨l',w',h⟩:=f.way hx
 cases w.det w'
 exact Hr w (by omega)
theorem dn {us:List Nat}{x:Nat}(f:Fst us)(hx:x<us.length):Way us x (way us x):=by
 obtain⟨l,w,_⟩:=f.way hx
 rw[nz f hx w];exact w
theorem kX {us:List Nat}{x:Nat}(f:Fst us)(hx:x<us.length):(way us x).length<=us.length:=by
 obtain⟨l,w,h⟩:=f.way hx
 rw[nz f hx w];exact h
noncomputable def hd (us:List Nat)(x:Nat):Nat:=dm (way us x)
noncomputable def dp (us:List Nat)(x:Nat):Nat:=(way us x).length - 1
noncomputable def jC (y:Str)(us:List Nat)(x t:Nat):Nat:=
 if y = "whole" then (if t∈way us x then hd us x else up us t)
 else if y = "halves" then (if t∈jU (way us x) then up us (up us t) else up us t)
 else if y = "splits" then (if t∈way us x then up us (up us t) else up us t)
 else if y = "one" then (if t=x then up us (up us t) else up us t)
 else up us t
noncomputable def gJ (y:Str)(us:List Nat)(x:Nat):List Nat:=(a0l us.length).map (jC y us x)
noncomputable def stp (y:Str)(us:List Nat)(x:Nat):Nat:=if y = "halves" then (way us x).length / 2 else dp us x
theorem oX {us:List Nat}{t:Nat}(h:us.length<=t):up us t=0:=by
 unfold up;rw[a0m,a3z h];rfl
theorem eX (y:Str)(us:List Nat)(x:Nat):(gJ y us x).length=us.length:=by unfold gJ;rw[a0i,a0v]
theorem uk {y:Str}{us:List Nat}{x t:Nat}(h:t<us.length):up (gJ y us x) t=jC y us x t:=by
 unfold up gJ
 rw[a0m,a0q,a2k h];rfl
theorem j8 {y:Str}{us us':List Nat}{x:Nat}(hl:us'.length=us.length)(h:∀t,t<us.length->up us' t=jC y us x t):us'=gJ y us x:=by
 refine Lp (by rw[hl,eX]) λt=>?_
 by_cases ht:t<us.length
 ·rw[h t ht,uk ht]
 ·rw[oX (by omega),oX (by rw[eX];omega)]
end Fo
namespace Dp
open PySem L2 Dp Fo
end Dp
namespace Lo
open PySem Fo Dp
noncomputable def xo (acc:List (Nat×List Nat))(h x:Nat):List (Nat×List Nat):=
 if acc.any (λt=>decide (t.1=h)) then acc.map (λt=>if t.1=h then (t.1,t.2++[x]) else t) else acc++[(h,[x])]
noncomputable def iN (us:List Nat)(n:Nat):List (Nat×List Nat):=(a0l n).foldl (λacc x=>xo acc (hd us x) x) []
noncomputable def Eb (us:List Nat):List (List Nat):=(iN us us.length).map (·.2)
noncomputable def BC (us:List Nat):List PV:=(Eb us).map λl=>.tup (af l)
end Lo
end
section
namespace Fo
open PySem L2
theorem jS {us:List Nat}{x t:Nat}(f:Fst us)(hx:x<us.length)(h:t∈way us x):t<us.length:=(dn f hx).lt f.bnd hx t h
theorem DY {us:List Nat}(f:Fst us){x:Nat}(hx:x<us.length){y:Str}(hy:y∈cr):RM y us x (hd us x) (gJ y us x) (stp y us x):=by
 have w:=dn f hx
 have pos:=w.pos
 have low:∀t,us.length<=t->up (gJ y us x) t=0/\up us t=0/\t∉way us x:=λt ht=>⟨oX (by rw[eX];omega),oX ht,λq=>by have:=jS f hx q;omega⟩
 have hdp:dp us x+1=(way us x).length:=by unfold dp;omega
 rcases (show y = "none"\/y = "whole"\/y = "halves"\/y = "splits"\/y = "one" by simpa [cr] using hy) with rfl|rfl|rfl|rfl|rfl
 ·exact .none ⟨(j8 rfl λt ht=>rfl).symm,_,w,rfl,hdp⟩
 ·refine .whole ⟨_,w,rfl,hdp,eX ..,λt=>?_⟩
  by_cases ht:t<us.length
  ·rw[uk ht];rfl
  ·obtain⟨a,b,c⟩:=low t (by omega)
   rw[a,b,if_neg c]
 ·refine .halves ⟨_,w,rfl,rfl,eX ..,λt=>?_⟩
  by_cases ht:t<us.length
  ·rw[uk ht];rfl
  ·obtain⟨a,b,c⟩:=low t (by omega)
   rw[a,b,if_neg λq=>c (nB _ _ q)]
 ·refine .splits ⟨_,w,rfl,hdp,eX ..,λt=>?_⟩
  by_cases ht:t<us.length
  ·rw[uk ht];rfl
  ·obtain⟨a,b,c⟩:=low t (by omega)
   rw[a,b,if_neg c]
 ·refine .one ⟨(j8 (a1l) λt ht=>?_).symm,_,w,rfl,hdp⟩
  rw[d6 hx]
  show (if t=x then up us (up us x) else up us t)=if t=x then up us (up us t) else up us t
  by_cases q:t=x
  ·rw[if_pos q,if_pos q,q]
  ·rw[if_neg q,if_neg q]
theorem mD {us:List Nat}(f:Frst us){x:Nat}(hx:x<us.length){y:Str}(hy:y∈cr):Frst (gJ y us x):=((DY f.fst hx hy).frst f hx).1
theorem vz {us:List Nat}{x:Nat}(f:Fst us)(hx:x<us.length)(e:up us x=x):way us x=[x]:=nz f hx (.head e)
theorem vV {us:List Nat}{x:Nat}(f:Fst us)(hx:x<us.length)(e:up us x≠x):way us x=x::way us (up us x):=nz f hx (.step e (dn f (f.bnd x hx)))
theorem iZ {us:List Nat}{x:Nat}(f:Fst us)(hx:x<us.length)(e:up us x=x):hd us x=x:=by unfold hd;rw[vz f hx e];rfl
theorem Fz {us:List Nat}{x:Nat}(f:Fst us)(hx:x<us.length)(e:up us x≠x):hd us x=hd us (up us x):=by
 unfold hd
 rw[vV f hx e,cy (dn f (f.bnd x hx)).ne]
theorem zR {us:List Nat}{x:Nat}(f:Fst us)(hx:x<us.length):hd us (up us x)=hd us x:=by
 by_cases e:up us x=x
 ·rw[e]
 ·exact (Fz f hx e).symm
theorem qa {us:List Nat}{x:Nat}(f:Fst us)(hx:x<us.length):up us (hd us x)=hd us x:=(dn f hx).head_last
theorem k5 {us:List Nat}{x:Nat}(f:Fst us)(hx:x<us.length):hd us x<us.length:=jS f hx (qw (dn f hx).ne)
theorem Df {us:List Nat}(f:Fst us){x:Nat}(hx:x<us.length){y:Str}(hy:y∈cr){t:Nat}(ht:t<us.length):hd (gJ y us x) t=hd us t/\dp (gJ y us x) t<=dp us t:=by
 obtain⟨l,L⟩:=(DY f hx hy).left f hx
 obtain⟨l',w',e1,e2⟩:=L.sh.way f ht (dn f ht)
 have f':=L.sh.fst f
 have:=nz f' (by rw[eX];exact ht) w'
 unfold hd dp
 rw[this]
 exact⟨e1,by omega⟩
end Fo
end
section
namespace Dp
open PySem L2 Fo
theorem jN (is:List Int):dJ (is.map PV.int)=some is:=by
 induction is with
 |nil=>rfl
 |cons b bs ih=>rw[a1g,dJ,ih];rfl
theorem O1:a4y ("is_deed" : Str) [("is_deed",fj),("is_pair",cz),("is_telling",bS),("is_thing",bT),("is_tie",eP)]=some fj:=rfl
theorem Rp:a4y ("is_pair" : Str) [("is_deed",fj),("is_pair",cz),("is_telling",bS),("is_thing",bT),("is_tie",eP)]=some cz:=rfl
theorem Rn:a4y ("is_telling" : Str) [("is_deed",fj),("is_pair",cz),("is_telling",bS),("is_thing",bT),("is_tie",eP)]=some bS:=rfl
theorem Ru:a4y ("is_thing" : Str) [("is_deed",fj),("is_pair",cz),("is_telling",bS),("is_thing",bT),("is_tie",eP)]=some bT:=rfl
theorem Rc:a4y ("is_tie" : Str) [("is_deed",fj),("is_pair",cz),("is_telling",bS),("is_thing",bT),("is_tie",eP)]=some eP:=rfl
theorem yA {y:Str}:∀{xs:List Str} {ps:List PV},ps.length=xs.length->(mx (xs.map Sum.inr) ps (.inr y)).isSome=decide (y∈xs)
 |[],_,_=>rfl
 |x::xs,[],h=>by cases h
 |x::xs,p::ps,h=>by
  rw[a1g]
  show (if (Sum.inr x:cR)=Sum.inr y then some p else mx (xs.map Sum.inr) ps (.inr y)).isSome=_
  by_cases e:x=y
  ·subst e;rw[if_pos rfl];simp
  ·rw[if_neg (λq=>e (Sum.inr.inj q)),yA (by simpa using h)]
   have:(y∈x::xs)↔y∈xs:=by simp[Ne.symm e]
   simp only[this]
theorem wQ (y:Str):jI [.str y]=some (.v (.bl (decide (y∈cr)))):=by
 have h:=yA (y:=y) (xs:=cr) (ps:=[.fn "find_none",.fn "find_whole",.fn "find_halves",.fn "find_splits",.fn "find_one"]) rfl
 have h:(mx [.inr "none",.inr "whole",.inr "halves",.inr "splits",.inr "one"] [.fn "find_none",.fn "find_whole",.fn "find_halves",.fn "find_splits",.fn "find_one"] (.inr y)).isSome=decide (y∈cr):=h
 simp_all! [uj,jF,h]
theorem yp {c:FB}{b:FS}(hc:c=dZ\/c=dD)(hb':b=fF\/b=eW){t:Sl}{us:List Nat}(ht:t=.val (.lst (af us))\/t=.own (af us))(hb:∀x,x<us.length->up us x<us.length){s1:Option Sl}{y:Nat}{l:List Nat}(w:Way us y l):∀(k:Nat),y<us.length →
  ∀n,l.length<n->b7 c b n [some t,s1,some (.val (.int y)),some (.val (.int k))]=.nx [some t,s1,some (.val (.int (dm l))),some (.val (.int (k+l.length - 1:Nat)))]:=by
 induction w with
 | @head y e=>
  intro k hy n hn
  obtain⟨n,rfl⟩:∃k,n=k+1:=⟨n - 1,by simp at hn;omega⟩
  rw[dP]
  rcases hc with rfl|rfl<;>rcases ht with rfl|rfl <;>
   simp![dZ,dD,au hy,e,dm,a5p]<;>rfl
 | @step y l ne w ih=>
  intro k hy n hn
  obtain⟨n,rfl⟩:∃k,n=k+1:=⟨n - 1,by simp at hn;omega⟩
  have ih:=ih (k+1) (hb y hy) n (by simp at hn;omega)
  have hne:decide ((up us y:Int)=(y:Int))=false:=decide_eq_false (by omega)
  rw[cy w.ne,show k+(y::l).length - 1=k+1+l.length - 1 by rw[a0p];omega]
  rw[dP]
  rcases hc with rfl|rfl<;>rcases hb' with rfl|rfl<;>rcases ht with rfl|rfl <;>
   (simp![dZ,fF,dD,eW,au hy,hne];exact ih)
theorem xv {us:List Nat}(f:Frst us){x:Nat}(hx:x<us.length):d4 [.lst (af us),.int x]=some (.v (.tup [.int (hd us x),.int (dp us x:Nat)]))/\ib (af us) [.int x]=some (af us,.tup [.int (hd us x),.int (dp us x:Nat)]):=by
 have hl:=kX f.fst hx
 have hm:=f.most
 have e1:=yp (.inl rfl) (.inl rfl) (t:=.val (.lst (af us))) (.inl rfl) f.fst.bnd (s1:=some (.val (.int x))) (dn f.fst hx) 0 hx 10000 (by omega)
 have e2:=yp (.inr rfl) (.inr rfl) (t:=.own (af us)) (.inr rfl) f.fst.bnd (s1:=some (.val (.int x))) (dn f.fst hx) 0 hx 10000 (by omega)
 rw[a2u] at e1 e2
 have e1:b7 dZ fF 10000 [some (.val (.lst (af us))),some (.val (.int x)),some (.val (.int x)),some (.val (.int 0))]=_:=e1
 have e2:b7 dD eW 10000 [some (.own (af us)),some (.val (.int x)),some (.val (.int x)),some (.val (.int 0))]=_:=e2
 refine⟨by simp![rf,jc,e1];rfl,?_⟩
 show mP (ir [some (.own (af us)),some (.val (.int x)),none,none]).res2=_
 simp![ir,e2];rfl
section
variable {us:List Nat}{x t:Nat}
theorem AP:jC "halves" us x t=if t∈jU (way us x) then up us (up us t) else up us t:=by unfold jC;rw[if_neg (by decide),if_pos rfl]
theorem AL:jC "splits" us x t=if t∈way us x then up us (up us t) else up us t:=by unfold jC;rw[if_neg (by decide),if_neg (by decide),if_pos rfl]
theorem LN:jC "one" us x t=if t=x then up us (up us t) else up us t:=by unfold jC;rw[if_neg (by decide),if_neg (by decide),if_neg (by decide),if_pos rfl]
theorem nu_none:jC "none" us x t=up us t:=by unfold jC;rw[if_neg (by decide),if_neg (by decide),if_neg (by decide),if_neg (by decide)]
end
theorem M1 {us:List Nat}(f:Frst us){x:Nat}(hx:x<us.length):up us x<us.length:=f.fst.bnd x hx
theorem Ni {us:List Nat}(f:Frst us){x:Nat}(hx:x<us.length):iP (af us) [.int x]=some (af (us.set x (up us (up us x))),.tup [.int (hd us x),.int (dp us x:Nat)]):=by
 have h1:=au hx
 have h2:=au (M1 f hx)
 have h3:sM us.length (x:Int)=some x:=eY hx
 show mP (jk [some (.own (af us)),some (.val (.int x)),none,none]).res2=_
 simp![jk,(xv f hx).1,h1,h2,h3,nI,ic,tf,GA,ja]
theorem FR {us:List Nat}(f:Fst us){s1 s3:Option Sl}{h:Nat}{y:Nat}{l:List Nat}(w:Way us y l)(hh:h=dm l):∀(pre vs:List Nat) (z:Option Sl),(∀t∈pre,t∉l)->vs.length=us.length->(∀t,up vs t=if t∈pre then h else up us t)->y<us.length->∀n,l.length<n →
  ∃vs' z',vs'.length=us.length/\(∀t,up vs' t=if t∈pre\/t∈l then h else up us t)/\b7 c5 eH n [some (.own (af vs)),s1,some (.val (.int h)),s3,some (.val (.int y)),z]=.nx [some (.own (af vs')),s1,some (.val (.int h)),s3,some (.val (.int h)),z']:=by
 induction w with
 | @head y e=>
  intro pre vs z hp hl hv hy n hn
  obtain⟨n,rfl⟩:∃k,n=k+1:=⟨n - 1,by simp at hn;omega⟩
  obtain rfl:h=y:=hh
  refine⟨vs,z,hl,λt=>?_,?_⟩
  ·rw[hv t]
   by_cases ht:t=h
   ·subst ht;rw[e];simp
   ·simp[ht]
  ·rw[dP]
   simp![c5]
 | @step y l ne w ih=>
  intro pre vs z hp hl hv hy n hn
  obtain⟨n,rfl⟩:∃k,n=k+1:=⟨n - 1,by simp at hn;omega⟩
  have nd:=(Way.step ne w).nodup f hy
  have hyl:y∉l:=(a1n.mp nd).1
  have hyp:y∉pre:=λq=>hp y q a0e
  rw[cy w.ne] at hh
  have hne:decide ((y:Int)=(h:Int))=false:=decide_eq_false (λq=>by
   have:y=h:=by omega
   rw[this,hh] at hyl;exact hyl (qw w.ne))
  have hu:up vs y=up us y:=by rw[hv y,if_neg hyp]
  have h1:L2.c6 (af vs) (y:Int)=some (nI (up us y)):=by rw[au (by rw[hl];exact hy),hu]
  have h3:sM vs.length (y:Int)=some y:=eY (by rw[hl];exact hy)
  obtain⟨vs',z',a1,a2,a3⟩:=ih hh (y::pre) (vs.set y h) (some (.val (.int (up us y)))) (λt ht=>by
    rcases a0s.mp ht with rfl|ht
    ·exact hyl
    ·exact λq=>hp t ht (a0c _ q)) (by rw[a1l];exact hl) (λt=>by
    rw[d6 (by rw[hl];exact hy),hv t]
    by_cases q:t=y
    ·simp[q]
    ·simp[q]) (f.bnd y hy) n (by simp at hn;omega)
  refine⟨vs',z',a1,λt=>?_,?_⟩
  ·rw[a2 t]
   by_cases q:t=y<;>simp[q]
  ·rw[dP]
   simp![c5,eH,h1,h3,hne,nI,ic]
   exact a3
theorem AM {us:List Nat}(f:Frst us){x:Nat}(hx:x<us.length):gw (af us) [.int x]=some (af (gJ "whole" us x),.tup [.int (hd us x),.int (dp us x:Nat)]):=by
 have hl:=kX f.fst hx
 have hm:=f.most
 obtain⟨vs,z,a1,a2,a3⟩:=FR f.fst (s1:=some (.val (.int x))) (s3:=some (.val (.int (dp us x:Nat)))) (dn f.fst hx) rfl [] us none (by simp) rfl (by simp) hx 10000 (by omega)
 have e:vs=gJ "whole" us x:=j8 a1 λt ht=>by rw[a2 t];simp[jC,hd]
 subst e
 have a3:b7 c5 eH 10000 [some (.own (af us)),some (.val (.int x)),some (.val (.int (hd us x))),some (.val (.int (dp us x:Nat))),some (.val (.int x)),none]=_:=a3
 show mP (gY [some (.own (af us)),some (.val (.int x)),none,none,none,none]).res2=_
 simp![gY,(xv f hx).1,a3,nI,tf,GA,ja];rfl
theorem FY {us:List Nat}(f:Fst us){s1:Option Sl}{y:Nat}{l:List Nat}(w:Way us y l):∀(pre vs:List Nat) (k:Nat) (z:Option Sl),(∀t∈pre,t∉l)->vs.length=us.length->(∀t,up vs t=if t∈pre then up us (up us t) else up us t)->y<us.length->∀n,l.length<n →
  ∃vs' z',vs'.length=us.length/\(∀t,up vs' t=if t∈pre\/t∈l then up us (up us t) else up us t)/\b7 cF dX n [some (.own (af vs)),s1,some (.val (.int y)),some (.val (.int k)),z]=.nx [some (.own (af vs')),s1,some (.val (.int (dm l))),some (.val (.int (k+l.length - 1:Nat))),z']:=by
 induction w with
 | @head y e=>
  intro pre vs k z hp hl hv hy n hn
  obtain⟨n,rfl⟩:∃k,n=k+1:=⟨n - 1,by simp at hn;omega⟩
  have hyp:y∉pre:=λq=>hp y q a0e
  have h1:L2.c6 (af vs) (y:Int)=some (nI y):=by rw[au (by rw[hl];exact hy),hv y,if_neg hyp,e]
  refine⟨vs,z,hl,λt=>?_,?_⟩
  ·rw[hv t]
   by_cases ht:t=y
   ·subst ht;rw[e,e];simp
   ·simp[ht]
  ·rw[dP]
   simp![cF,h1];rfl
 | @step y l ne w ih=>
  intro pre vs k z hp hl hv hy n hn
  obtain⟨n,rfl⟩:∃k,n=k+1:=⟨n - 1,by simp at hn;omega⟩
  have nd:=(Way.step ne w).nodup f hy
  have hyl:y∉l:=(a1n.mp nd).1
  have hyp:y∉pre:=λq=>hp y q a0e
  have ha:=f.bnd y hy
  have hap:up us y∉pre:=λq=>hp _ q (a0c _ w.mem_self)
  have hne:decide ((up us y:Int)=(y:Int))=false:=decide_eq_false (by omega)
  have h1:L2.c6 (af vs) (y:Int)=some (nI (up us y)):=by rw[au (by rw[hl];exact hy),hv y,if_neg hyp]
  have h2:L2.c6 (af vs) (up us y:Int)=some (nI (up us (up us y))):=by rw[au (by rw[hl];exact ha),hv _,if_neg hap]
  have h3:sM vs.length (y:Int)=some y:=eY (by rw[hl];exact hy)
  obtain⟨vs',z',a1,a2,a3⟩:=ih (y::pre) (vs.set y (up us (up us y))) (k+1) (some (.val (.int (up us y)))) (λt ht=>by
    rcases a0s.mp ht with rfl|ht
    ·exact hyl
    ·exact λq=>hp t ht (a0c _ q)) (by rw[a1l];exact hl) (λt=>by
    rw[d6 (by rw[hl];exact hy),hv t]
    by_cases q:t=y
    ·simp[q]
    ·simp[q]) ha n (by simp at hn;omega)
  refine⟨vs',z',a1,λt=>?_,?_⟩
  ·rw[a2 t]
   by_cases q:t=y<;>simp[q]
  ·rw[cy w.ne,show k+(y::l).length - 1=k+1+l.length - 1 by rw[a0p];omega]
   rw[dP]
   simp![cF,dX,h1,h2,h3,hne,nI,ic]
   exact a3
theorem xP {us:List Nat}(f:Frst us){x:Nat}(hx:x<us.length):fI (af us) [.int x]=some (af (gJ "splits" us x),.tup [.int (hd us x),.int (dp us x:Nat)]):=by
 have hl:=kX f.fst hx
 have hm:=f.most
 obtain⟨vs,z,a1,a2,a3⟩:=FY f.fst (s1:=some (.val (.int x))) (dn f.fst hx) [] us 0 none (by simp) rfl (by simp) hx 10000 (by omega)
 have e:vs=gJ "splits" us x:=j8 a1 λt ht=>by
  rw[a2 t,AL]
  simp only[a2q,false_or]
 subst e
 rw[a2u] at a3
 have a3:b7 cF dX 10000 [some (.own (af us)),some (.val (.int x)),some (.val (.int x)),some (.val (.int 0)),none]=_:=a3
 show mP (fY [some (.own (af us)),some (.val (.int x)),none,none,none]).res2=_
 simp![fY,a3];rfl
theorem Hn {us:List Nat}(f:Fst us){s1:Option Sl}:∀(m:Nat) {y:Nat} {l:List Nat},l.length<=m->Way us y l->∀(pre vs:List Nat) (k:Nat),(∀t∈pre,t∉l)->vs.length=us.length->(∀t,up vs t=if t∈pre then up us (up us t) else up us t)->y<us.length->∀n,l.length<n →
  ∃vs',vs'.length=us.length/\(∀t,up vs' t=if t∈pre\/t∈jU l then up us (up us t) else up us t)/\b7 cI dO n [some (.own (af vs)),s1,some (.val (.int y)),some (.val (.int k))]=.nx [some (.own (af vs')),s1,some (.val (.int (dm l))),some (.val (.int (k+l.length / 2:Nat)))]:=by
 intro m
 induction m with
 |zero=>intro y l hm w;have:=w.pos;omega
 |succ m ih=>
  intro y l hm w pre vs k hp hl hv hy n hn
  obtain⟨n,rfl⟩:∃k,n=k+1:=⟨n - 1,by have:=w.pos;omega⟩
  have hyp:y∉pre:=λq=>hp y q w.mem_self
  have h0:L2.c6 (af vs) (y:Int)=some (nI (up us y)):=by rw[au (by rw[hl];exact hy),hv y,if_neg hyp]
  cases w with
  |head e=>
   refine⟨vs,hl,λt=>?_,?_⟩
   ·rw[hv t]
    by_cases ht:t=y
    ·subst ht;rw[e,e];simp
    ·simp[ht,jU]
   ·rw[dP]
    simp![cI,h0,e];rfl
  | @step _ l ne w=>
   have nd:=(Way.step ne w).nodup f hy
   have hyl:y∉l:=(a1n.mp nd).1
   have ha:=f.bnd y hy
   have hap:up us y∉pre:=λq=>hp _ q (a0c _ w.mem_self)
   have hb:=f.bnd _ ha
   have hne:decide ((up us y:Int)=(y:Int))=false:=decide_eq_false (by omega)
   have h2:L2.c6 (af vs) (up us y:Int)=some (nI (up us (up us y))):=by rw[au (by rw[hl];exact ha),hv _,if_neg hap]
   have h3:sM vs.length (y:Int)=some y:=eY (by rw[hl];exact hy)
   have hs:(vs.set y (up us (up us y))).length=us.length:=by rw[a1l];exact hl
   have hu:∀t,up (vs.set y (up us (up us y))) t=if t∈y::pre then up us (up us t) else up us t:=λt=>by
    rw[d6 (by rw[hl];exact hy),hv t]
    by_cases q:t=y
    ·simp[q]
    ·simp[q]
   have h4:L2.c6 (af (vs.set y (up us (up us y)))) (y:Int)=some (nI (up us (up us y))):=by rw[au (by rw[hs];exact hy),hu y,if_pos a0e]
   obtain⟨l2,w2,e2,e3,e4,e5⟩:∃l2,Way us (up us (up us y)) l2/\l2.length / 2+1=(l.length+1) / 2/\dm l2=dm l/\(∀t,t∈l2->t∈l)/\l2.length<=l.length/\∀t,(t∈jU (y::l)↔t=y\/t∈jU l2)\/up us (up us t)=up us t:=by
    cases w with
    |head e=>exact⟨[up us y],by rw[e];exact .head e,(by show 1 / 2+1=(1+1) / 2;decide),rfl,λt h=>h,a0n _,λt=>by
      by_cases q:t=up us y
      ·subst q;exact .inr (by rw[e,e])
      ·exact .inl (by show t∈[y]↔t=y\/t∈[up us y];rw[a0g,a0g];exact⟨.inl,λh=>h.resolve_right q⟩)⟩
    | @step _ l2 ne2 w2=>exact⟨l2,w2,by simp only[a0p];omega,(cy w2.ne).symm,λt h=>a0c _ h,by simp,λt=>.inl (by simp[jU])⟩
   obtain⟨e5,e6⟩:=e5
   obtain⟨vs',a1,a2,a3⟩:=ih (y:=up us (up us y)) (l:=l2) (by simp at hm;omega) w2 (y::pre) _ (k+1) (λt ht=>by
    rcases a0s.mp ht with rfl|ht
    ·exact λq=>hyl (e4 _ q)
    ·exact λq=>hp t ht (a0c _ (e4 _ q))) hs hu hb n (by simp at hn;omega)
   refine⟨vs',a1,λt=>?_,?_⟩
   ·rw[a2 t]
    rcases e6 t with q|q
    ·simp only[a0s,q]
     by_cases h1:t=y<;>by_cases h2:t∈pre<;>by_cases h3:t∈jU l2<;>simp[h1,h2,h3]
    ·rw[q];simp
   ·rw[cy w.ne,←e3,show k+(y::l).length / 2=k+1+l2.length / 2 by rw[a0p];omega]
    rw[dP]
    simp![cI,dO,h0,h2,h3,hne,nI,ic,h4]
    exact a3
theorem xZ {us:List Nat}(f:Frst us){x:Nat}(hx:x<us.length):fK (af us) [.int x]=some (af (gJ "halves" us x),.tup [.int (hd us x),.int ((way us x).length / 2:Nat)]):=by
 have hl:=kX f.fst hx
 have hm:=f.most
 obtain⟨vs,a1,a2,a3⟩:=Hn f.fst (s1:=some (.val (.int x))) _ (a0n _) (dn f.fst hx) [] us 0 (by simp) rfl (by simp) hx 10000 (by omega)
 have e:vs=gJ "halves" us x:=j8 a1 λt ht=>by
  rw[a2 t,AP]
  simp only[a2q,false_or]
 subst e
 rw[a2u] at a3
 have a3:b7 cI dO 10000 [some (.own (af us)),some (.val (.int x)),some (.val (.int x)),some (.val (.int 0))]=_:=a3
 show mP (gb [some (.own (af us)),some (.val (.int x)),none,none]).res2=_
 simp![gb,a3];rfl
theorem AZ {us:List Nat}(f:Frst us){y:Str}(hy:y∈cr){x:Nat}(hx:x<us.length):jm [.tup (af us),.str y,nI x]=some (.v (.tup [nI (hd us x),.tup (af (gJ y us x)),nI (stp y us x)])):=by
 have one:us.set x (up us (up us x))=gJ "one" us x:=(j8 a1l λt ht=>by
  rw[d6 hx,LN]
  by_cases q:t=x
  ·rw[if_pos q,if_pos q,q]
  ·rw[if_neg q,if_neg q])
 have non:us=gJ "none" us x:=j8 rfl λt ht=>nu_none.symm
 have key:∀(y:Str) (F:ma) (g:Str) (n:Nat),mx [.inr "none",.inr "whole",.inr "halves",.inr "splits",.inr "one"] [.fn "find_none",.fn "find_whole",.fn "find_halves",.fn "find_splits",.fn "find_one"] (.inr y)=some (.fn g)->a4y g [("find_none",ib),("find_whole",gw),("find_halves",fK),("find_splits",fI),("find_one",iP)]=some F →
   F (af us) [.int x]=some (af (gJ y us x),.tup [.int (hd us x),.int (n:Nat)])->jm [.tup (af us),.str y,nI x]=some (.v (.tup [nI (hd us x),.tup (af (gJ y us x)),nI n])):=λy F g n h1 h2 h3=>by
  simp![u5,kj,h1,h2,h3,nI]
 rcases (show y = "none"\/y = "whole"\/y = "halves"\/y = "splits"\/y = "one" by simpa [cr] using hy) with rfl|rfl|rfl|rfl|rfl
 ·exact key _ _ _ _ rfl rfl (by rw[←non];exact (xv f hx).2)
 ·exact key _ _ _ _ rfl rfl (AM f hx)
 ·exact key _ _ _ _ rfl rfl (xZ f hx)
 ·exact key _ _ _ _ rfl rfl (xP f hx)
 ·exact key _ _ _ _ rfl rfl (by rw[←one];exact Ni f hx)
end Dp
end
section
namespace Dp
open PySem L2 Fo Dp
theorem ny {t:FT}{f:FE}{ρ:ao}(g:PV->PV):∀{its:List PV},(∀p∈its,(t p ρ).bind (λρ2=>(f ρ2).bind RV.fr)=some (g p))->m8 t fy f ρ its=some (its.map g):=λ{its}=>by
 induction its with
 |nil=>intro _;rfl
 |cons p ps ih=>
  intro h
  have h1:=h p a0e
  have h2:=ih λq hq=>h q (a0c _ hq)
  obtain⟨ρ2,e1,h1⟩:=a0a.mp h1
  obtain⟨r,e2,h1⟩:=a0a.mp h1
  rw[m8,e1,h2]
  show (f ρ2).bind _=_
  rw[e2]
  show r.fr.bind _=_
  rw[h1];rfl
theorem oW {t:FT}{f:FE}{ρ:ao}(g:Nat->PV){us:List Nat}(h:∀u∈us,(t (.int u) ρ).bind (λρ2=>(f ρ2).bind RV.fr)=some (g u)):m8 t fy f ρ (af us)=some (us.map g):=by
 have e:(af us).map (λp=>match p with|.int i=>g i.toNat|_=>.non)=us.map g:=by
  unfold af;rw[a1d];exact a1c λu _=>rfl
 rw[←e]
 refine ny _ λp hp=>?_
 obtain⟨u,hu,rfl⟩:=va hp
 exact h u hu
theorem sf {t:FT}{c:FB}{f:FE}{ρ:ao}(b:PV->Bool)(g:PV->PV):∀{its:List PV},(∀p∈its,∃ρ2,t p ρ=some ρ2/\c ρ2=some (b p)/\(b p=true->(f ρ2).bind RV.fr=some (g p)))->m8 t c f ρ its=some ((its.filter b).map g):=λ{its}=>by
 induction its with
 |nil=>intro _;rfl
 |cons p ps ih=>
  intro h
  obtain⟨ρ2,e1,e2,h1⟩:=h p a0e
  have h2:=ih λq hq=>h q (a0c _ hq)
  rw[m8,e1]
  show (c ρ2).bind _=_
  rw[e2]
  cases hb:b p with
  |true=>
   obtain⟨r,e3,e4⟩:=a0a.mp (h1 hb)
   rw[a4z hb]
   show (f ρ2).bind _=_
   rw[e3]
   show r.fr.bind _=_
   rw[e4,h2];rfl
  |false=>
   rw[a3p (by rw[hb];exact a0u)]
   exact h2
theorem K1 {n:Nat}(h:n<=100000):mU [.int n]=some (af (a0l n))/\AC [.int n]=some (.fz (.rng 0 n))/\lA [.rng 0 n]=some (.nw (af (a0l n))):=by
 refine⟨?_,?_,?_⟩
 ·rw[Ki,Iz,decide_eq_true (by omega),decide_eq_true (by omega),a1o,Ga];rfl
 ·rw[EX,if_pos ⟨by omega,by omega⟩]
 ·rw[Ch,if_pos ⟨rfl,by omega,by omega⟩,a1o,Ga]
theorem Ra {j:Int}(h0:0<=j)(h:j<=100000):mU [.int j]=some (af (a0l j.toNat))/\AC [.int j]=some (.fz (.rng 0 j))/\lA [.rng 0 j]=some (.nw (af (a0l j.toNat))):=by
 have:=K1 (n:=j.toNat) (by omega)
 rwa [a2g h0] at this
theorem K2 {n:Nat}(h:n<=100000):Cz [.int 1,.int n]=some (af ((a0l (n - 1)).map (·+1))):=by
 have a:zy 1=true:=by decide
 have b:zy n=true:=by rw[Iz,decide_eq_true (by omega),decide_eq_true (by omega)];rfl
 rw[I9,a,b,show ((n:Int) - 1).toNat=n - 1 by omega,P0];rfl
theorem s9 (i:Int):fZ [.int i]=some (.v (.bl true)):=by
 simp_all! [tB,jK]
theorem Jg {i:Int}(h1:1<=i)(h2:i<=40):ju [.int i]=some (.v (.bl true)):=by
 simp_all! [vZ,ku,s9,decide_eq_true h1,decide_eq_true h2]
theorem tC (m x:Int):bT [.int m,.int x]=some (.v (.bl (decide (0<=x/\x<m)))):=by
 simp_all! [ub,jJ,s9]
 by_cases h:0<=x
 ·simp_all! [decide_eq_true h,h]
 ·simp_all! [decide_eq_false h,h,false_and]
theorem Db {y:Str}(hy:y∈cr):gy [.str y]=some (.v .non):=by
 simp_all! [oE,gT,wQ,decide_eq_true hy]
theorem vk {m x:Int}(h0:0<=x)(h1:x<m):eT [.int m,.int x]=some (.v .non):=by
 simp_all! [oF,gS,tC,decide_eq_true (show 0<=x/\x<m from⟨h0,h1⟩)]
theorem EG {p:PV}{us:List Nat}(hp:p=.tup (af us)\/p=.lst (af us))(hm:us.length<=40)(hb:∀x,x<us.length->up us x<us.length){s1:Option Sl}{y:Nat}{l2:List Nat}(w:Way us y l2):∀(pre:List Nat),pre.length+l2.length<=us.length->y<us.length →
  ∀n,l2.length<n->b7 gK iQ n [some (.val p),s1,some (.own (af (pre++[y])))]=.nx [some (.val p),s1,some (.own (af (pre++l2)))]:=by
 induction w with
 | @head y e=>
  intro pre hl hy n hn
  obtain⟨n,rfl⟩:∃k,n=k+1:=⟨n - 1,by simp at hn;omega⟩
  rw[dP]
  rcases hp with rfl|rfl <;>
   simp![gK,mj,au hy,e]
 | @step y l ne w ih=>
  intro pre hl hy n hn
  obtain⟨n,rfl⟩:∃k,n=k+1:=⟨n - 1,by simp at hn;omega⟩
  have ih:=ih (pre++[y]) (by simp at hl ⊢;omega) (hb y hy) n (by simp at hn;omega)
  rw[a1x,a1x] at ih
  have hne:decide ((up us y:Int)=(y:Int))=false:=decide_eq_false (by omega)
  have hpl:(pre++[y]).length<=100000:=by simp at hl ⊢;omega
  rw[dP]
  rcases hp with rfl|rfl <;>
   (simp![gK,iQ,mj,au hy,hne,hpl,fW,a1x];exact ih)
theorem OV {p:PV}{us:List Nat}(hp:p=.tup (af us)\/p=.lst (af us))(f:Frst us){x:Nat}(hx:x<us.length):jt [p,.int x]=some (.n (af (way us x))):=by
 have hl:=kX f.fst hx
 have hm:=f.most
 have e:=EG hp f.most f.fst.bnd (s1:=some (.val (.int x))) (dn f.fst hx) [] (by simpa using hl) hx 10000 (by omega)
 rw[a2l,a2l] at e
 have e':b7 gK iQ 10000 [some (.val p),some (.val (.int x)),some (.own [.int x])]=_:=e
 simp![xQ,lS,e']
theorem PA {a b:PV}{c:Bool}:L2.c6 [a,b] (if c=true then 1 else 0)=some (if c=true then b else a):=by
 cases c<;>rfl
theorem tO {s0 s1:Option Sl}(vs:List PV):∀(xs:List Nat) (st dg:Int) (z:Option Sl),(∀v∈vs,∃i:Int,v=.int i)->0<=st->st<1999999973->0<=dg->xs.length+vs.length<=1000 →
  ∃(xs':List Nat) (st' dg':Int) (z':Option Sl),xs'.length=xs.length+vs.length/\bZ (gN 5) dQ vs [s0,s1,some (.own (af xs)),some (.val (.int st)),some (.val (.int dg)),z]=.nx [s0,s1,some (.own (af xs')),some (.val (.int st')),some (.val (.int dg')),z']:=by
 induction vs with
 |nil=>intro xs st dg z _ _ _ _ _;exact⟨xs,st,dg,z,rfl,rfl⟩
 |cons v vs ih=>
  intro xs st dg z hv h1 h2 h3 hl
  obtain⟨i,rfl⟩:=hv v a0e
  have m1:=a2s st (show (65521:Int)≠0 by decide)
  have cm1:(st.natAbs<2 ^ 64\/(st % 65521+40487).natAbs<2 ^ 64)=True:=eq_true (.inl (by omega))
  have cm2:((7:Int).natAbs<2 ^ 64\/i.natAbs<2 ^ 64)=True:=eq_true (.inl (by decide))
  have hlen:(af xs).length<=100000:=by rw[cM];simp at hl;omega
  have b1:0<=(st * (st % 65521+40487)+7 * i+5) % 1999999973:=a2s _ (by decide)
  have b2:(st * (st % 65521+40487)+7 * i+5) % 1999999973<1999999973:=a3j _ (by decide)
  have d1:=a2s dg (show (1000000:Int)≠0 by decide)
  have hlen':xs.length<=100000:=by rwa [cM] at hlen
  rw[eN]
  simp![dQ,cm1,cm2,PA,hlen']
  generalize (st * (st % 65521+40487)+7 * i+5) % 1999999973=st' at b1 b2
  have hv':(if decide (0<dg)=true then PV.int (dg % 1000000) else PV.int st')=nI (if decide (0<dg)=true then dg % 1000000 else st').toNat:=by
   split<;>rw[NP (by omega)]
  rw[hv',nI,fW]
  obtain⟨xs',st2,dg2,z2,e1,e2⟩:=ih (xs++[(if decide (0<dg)=true then dg % 1000000 else st').toNat]) st' (dg / 1000000) (some (.val (.int i))) (λu hu=>hv u (a0c _ hu)) b1 b2 (Int.ediv_nonneg h3 (by decide)) (by simp at hl ⊢;omega)
  exact⟨xs',st2,dg2,z2,by rw[e1,a0t];simp;omega,e2⟩
theorem jq (c n:Int)(h0:0<=n)(hn:n<=1000):∃xs:List Nat,xs.length=n.toNat/\bF [.int c,.int n]=some (.n (af xs)):=by
 have b1:0<=(c % 1999999973+31) * 765432101 % 1999999973:=a2s _ (by decide)
 have b2:(c % 1999999973+31) * 765432101 % 1999999973<1999999973:=a3j _ (by decide)
 have cm:((c % 1999999973+31).natAbs<2 ^ 64\/(765432101:Int).natAbs<2 ^ 64)=True:=eq_true (.inr (by decide))
 have k1:=(Ra h0 (show n<=100000 by omega)).1
 have ab:0<=(if c<0 then -c else c):=by split<;>omega
 have fin:∀dg:Int,0<=dg->∃(xs:List Nat) (st' dg':Int) (z':Option Sl),xs.length=n.toNat/\bZ (gN 5) dQ (af (a0l n.toNat)) [some (.val (.int c)),some (.val (.int n)),some (.own (af [])),some (.val (.int ((c % 1999999973+31) * 765432101 % 1999999973))),some (.val (.int dg)),none]=.nx [some (.val (.int c)),some (.val (.int n)),some (.own (af xs)),some (.val (.int st')),some (.val (.int dg')),z']:=λdg hd=>by
  obtain⟨xs,st',dg',z',e1,e2⟩:=tO (s0:=some (.val (.int c))) (s1:=some (.val (.int n))) (mV 0 n.toNat) [] _ dg none (λv hv=>by obtain⟨i,e,_⟩:=JN hv;exact⟨i,e⟩) b1 b2 hd (by rw[zE];simp;omega)
  rw[Ga] at e2
  exact⟨xs,st',dg',z',by rw[e1,zE];simp,e2⟩
 have hp:(10:Int) ^ 18=1000000000000000000:=by decide
 by_cases hc:c<0
 ·obtain⟨xs,st',dg',z',e1,e2⟩:=fin _ ab
  rw[pZ] at e2
  refine⟨xs,e1,?_⟩
  simp![fU,c4,cm,k1,decide_eq_true hc,e2]
 ·by_cases hd:1000000000000000000<=c
  ·obtain⟨xs,st',dg',z',e1,e2⟩:=fin _ ab
   rw[pZ] at e2
   refine⟨xs,e1,?_⟩
   simp![fU,c4,cm,k1,decide_eq_false hc,show (0:Int)<=18/\(18:Int)<=1000000/\(10:Int).natAbs<2 ^ 64 from by decide,decide_eq_true hd,e2]
  ·obtain⟨xs,st',dg',z',e1,e2⟩:=fin 0 (by decide)
   rw[pZ] at e2
   refine⟨xs,e1,?_⟩
   simp![fU,c4,cm,k1,decide_eq_false hc,show (0:Int)<=18/\(18:Int)<=1000000/\(10:Int).natAbs<2 ^ 64 from by decide,decide_eq_false hd,e2]
theorem AJ {s0 s1:Option Sl}(ns:List Int):∀(st:Int) (z:Option Sl),∃(st':Int) (z':Option Sl),bZ (gN 3) fH (iL ns) [s0,s1,some (.val (.int st)),z]=.nx [s0,s1,some (.val (.int st')),z']:=by
 induction ns with
 |nil=>intro st z;exact⟨st,z,rfl⟩
 |cons n ns ih=>
  intro st z
  have cm:(st.natAbs<2 ^ 64\/(69621:Int).natAbs<2 ^ 64)=True:=eq_true (.inr (by decide))
  show ∃st' z',bZ (gN 3) fH (.int n::iL ns) _=_
  rw[eN]
  simp![fH,cm]
  exact ih _ _
theorem pU (ns:List Int)(k:Int)(h0:0<=k)(hk:k<=1000):∃i:Int,cj [.src (iL ns),.int k]=some (.v (.int i)):=by
 by_cases hl:k<ns.length
 ·have hk':k.toNat<ns.length:=by omega
  have e:L2.c6 (iL ns) k=some (.int ns[k.toNat]):=by
   have:=eU (ps:=iL ns) (x:=k.toNat) (p:=.int ns[k.toNat]) (by unfold iL;rw[a0q,a0f hk'];rfl)
   rwa [a2g h0] at this
  exact⟨ns[k.toNat],by simp![lj,gl,Cl,decide_eq_true hl,e]⟩
 ·have c1:(k.natAbs<2 ^ 64)=True:=eq_true (by omega)
  have c2:((48271:Int).natAbs<2 ^ 64)=True:=eq_true (by decide)
  have c3:((7:Int).natAbs<2 ^ 64)=True:=eq_true (by decide)
  obtain⟨st',z',e⟩:=AJ (s0:=some (.val (.src (iL ns)))) (s1:=some (.val (.int k))) (m6 ns none (some 3)) (48271 * (k * k+7 * k+11) % 2147483647) none
  refine⟨st',?_⟩
  simp![lj,gl,Cl,decide_eq_false hl,c1,c2,c3,true_or,Jc,e]
theorem Fb (x:Nat):∃n:Nat,1<=n/\n<=40/\iX [.int x]=some (.v (.int n)):=by
 have a1:=a2s ((x:Int) / 8) (show (12:Int)≠0 by decide)
 have a2:=a3j ((x:Int) / 8) (show (0:Int)<12 by decide)
 have a3:=a2s ((x:Int) / 8) (show (40:Int)≠0 by decide)
 have a4:=a3j ((x:Int) / 8) (show (0:Int)<40 by decide)
 by_cases h:(x:Int) % 8=3
 ·refine⟨(1+(x:Int) / 8 % 40).toNat,by omega,by omega,?_⟩
  simp![la,gn,PA,decide_eq_true h]
  rw[a2g (by omega)]
 ·refine⟨(1+(x:Int) / 8 % 12).toNat,by omega,by omega,?_⟩
  simp![la,gn,PA,decide_eq_false h]
  rw[a2g (by omega)]
end Dp
end
section
namespace Pt
open L2 Fo
noncomputable def cl (n:Nat)(c:Nat->Nat)(x:Nat):List Nat:=(a0l n).filter λy=>decide (c y=c x)
theorem mem_cl {n:Nat}{c:Nat->Nat}{x y:Nat}:y∈cl n c x↔y<n/\c y=c x:=by
 unfold cl;rw[a1u,a0z,decide_eq_true_eq]
theorem vm {n:Nat}{c c':Nat->Nat}{x x':Nat}(h:∀y,y<n->(c y=c x↔c' y=c' x')):cl n c x=cl n c' x':=
 a5w λy hy=>by rw[decide_eq_decide];exact h y (a0z.mp hy)
theorem M6 {n:Nat}{c:Nat->Nat}{x y:Nat}(hx:x<n):cl n c x=cl n c y↔c x=c y:=by
 constructor
 ·intro e
  exact (mem_cl.mp (e▸mem_cl.mpr ⟨hx,rfl⟩)).2
 ·intro e;exact vm λz _=>by rw[e]
noncomputable def jn (c:Nat->Nat)(x y:Nat):Nat->Nat:=λz=>if c z=c x then c y else c z
theorem Fx {c:Nat->Nat}{x y:Nat}(h:c x=c y):jn c x y=c:=funext λz=>by
 unfold jn;split
 ·next e=>rw[e,h]
 ·rfl
noncomputable def lab (ps:List (Nat×Nat))(c:Nat->Nat):Nat->Nat:=ps.foldl (λc p=>jn c p.1 p.2) c
theorem l6 (p:Nat×Nat)(ps:List (Nat×Nat))(c:Nat->Nat):lab (p::ps) c=lab ps (jn c p.1 p.2):=rfl
theorem pI:∀(ps:List (Nat×Nat)) (c:Nat->Nat) (a b:Nat),c a=c b->lab ps c a=lab ps c b
 |[],_,_,_,h=>h
 |p::ps,c,a,b,h=>by
  rw[l6]
  exact pI ps _ a b (by unfold jn;rw[h])
theorem iu:∀(ps:List (Nat×Nat)) (c:Nat->Nat) (a b:Nat),(a,b)∈ps->lab ps c a=lab ps c b
 |p::ps,c,a,b,h=>by
  rw[l6]
  rcases a0s.mp h with e|h
  ·cases e
   refine pI ps _ a b ?_
   unfold jn
   rw[if_pos rfl]
   split<;>rfl
  ·exact iu ps _ a b h
theorem qd {f:Nat->Nat}:∀(ps:List (Nat×Nat)) (c:Nat->Nat),(∀p∈ps,f p.1=f p.2)->(∀a b,c a=c b->f a=f b)->∀a b,lab ps c a=lab ps c b->f a=f b
 |[],_,_,h=>h
 |p::ps,c,hp,h=>by
  rw[l6]
  have e:=hp p a0e
  refine qd ps _ (λq hq=>hp q (a0c _ hq)) λa b z=>?_
  unfold jn at z
  by_cases h1:c a=c p.1
  ·rw[if_pos h1] at z
   by_cases h2:c b=c p.1
   ·exact h a b (h1.trans h2.symm)
   ·rw[if_neg h2] at z
    rw[h a p.1 h1,e];exact h _ _ z
  ·rw[if_neg h1] at z
   by_cases h2:c b=c p.1
   ·rw[if_pos h2] at z
    rw[h b p.1 h2,e];exact h _ _ z
   ·rw[if_neg h2] at z;exact h _ _ z
noncomputable def mi (c:Nat->Nat)(x:Nat):Bool:=decide (∀y,y<x->c y≠c x)
noncomputable def dh (n:Nat)(c:Nat->Nat):List (List Nat):=((a0l n).filter (mi c)).map (cl n c)
theorem IA {c:Nat->Nat}:∀x,∃z,z<=x/\c z=c x/\mi c z=true:=λx=>by
 induction x using Nat.strongRecOn with
 |_ x ih=>
  by_cases h:mi c x=true
  ·exact⟨x,a0n _,rfl,h⟩
  ·unfold mi at h
   rw[decide_eq_true_eq] at h
   have:∃y,y<x/\c y=c x:=Decidable.byContradiction λq=>h λy hy e=>q ⟨y,hy,e⟩
   obtain⟨y,hy,e⟩:=this
   obtain⟨z,h1,h2,h3⟩:=ih y hy
   exact⟨z,by omega,h2.trans e,h3⟩
theorem mem_lots {n:Nat}{c:Nat->Nat}{l:List Nat}:l∈dh n c↔∃x,x<n/\l=cl n c x:=by
 unfold dh
 rw[a1a]
 constructor
 ·rintro⟨x,hx,rfl⟩
  exact⟨x,a0z.mp (a1u.mp hx).1,rfl⟩
 ·rintro⟨x,hx,rfl⟩
  obtain⟨z,h1,h2,h3⟩:=IA (c:=c) x
  exact⟨z,a1u.mpr ⟨a0z.mpr (by omega),h3⟩,(M6 (by omega)).mpr h2⟩
theorem lots_congr {n:Nat}{c c':Nat->Nat}(h:∀x y,x<n->y<n->(c x=c y↔c' x=c' y)):dh n c=dh n c':=by
 unfold dh
 have e:(a0l n).filter (mi c)=(a0l n).filter (mi c'):=a5w λx hx=>by
  have hx:=a0z.mp hx
  unfold mi
  rw[decide_eq_decide]
  exact⟨λq y hy z=>q y hy ((h y x (by omega) hx).mpr z),λq y hy z=>q y hy ((h y x (by omega) hx).mp z)⟩
 rw[e]
 exact a1c λx hx=>vm λy hy=>h y x hy (a0z.mp (a1u.mp hx).1)
end Pt
end
section
namespace Dp
open PySem PySem.Spec L2 Fo
noncomputable abbrev Sg:=Nat×Nat×PV
noncomputable def sD (t:Sg):PV:=.tup [.int (t.1:Nat),.int (t.2.1:Nat),t.2.2]
inductive Trk (S:List Sg) (x:Nat):Nat->List PV->List Nat->Prop where
 |nil:Trk S x x [] [x]
 |snoc {a e:Nat} {l:PV} {r:List PV} {vs:List Nat}:Trk S x a r vs->(a,e,l)∈S->Trk S x e (r++[l]) (vs++[e])
theorem Trk.len {S:List Sg}{x e:Nat}{r:List PV}{vs:List Nat}(t:Trk S x e r vs):vs.length=r.length+1:=by
 induction t with
 |nil=>rfl
 |snoc _ _ ih=>rw[a0t,a0t,ih];rfl
noncomputable abbrev og:=List (Nat×List PV)
noncomputable def rK (K:og):List cR:=K.map λt=>Sum.inl ((t.1:Nat):Int)
noncomputable def rP (K:og):List PV:=K.map λt=>.tup t.2
noncomputable def rD (K:og):PV:=.dct (rK K) (rP K)
theorem pR (y:Nat):∀K:og,mx (rK K) (rP K) (.inl ((y:Nat):Int))=(K.find? λt=>decide (t.1=y)).map λt=>.tup t.2
 |[]=>rfl
 |t::K=>by
  show (if (Sum.inl ((t.1:Nat):Int):cR)=.inl (y:Int) then some (PV.tup t.2) else mx (rK K) (rP K) _)=_
  rw[a5g,pR y K]
  by_cases h:t.1=y
  ·rw[if_pos (by rw[h]),decide_eq_true h];rfl
  ·rw[if_neg (λq=>h (by have:=Sum.inl.inj q;omega)),decide_eq_false h]
theorem KC (y:Nat)(K:og):(rK K).any (λj=>decide (j=(Sum.inl ((y:Nat):Int):cR)))=decide (y∈K.map (·.1)):=by
 unfold rK
 rw[a3c,a2h,a3m,decide_eq_true_iff,a1a]
 constructor
 ·rintro⟨t,ht,e⟩
  have:=Sum.inl.inj (of_decide_eq_true e)
  exact⟨t,ht,by omega⟩
 ·rintro⟨t,ht,rfl⟩
  exact⟨t,ht,decide_eq_true rfl⟩
theorem Ia {y:Nat}{K:og}{r:List PV}(h:y∉K.map (·.1)):oj (rK K) (.inl ((y:Nat):Int))=rK (K++[(y,r)])/\nZ (rK K) (rP K) (.inl ((y:Nat):Int)) (.tup r)=rP (K++[(y,r)]):=by
 unfold oj nZ
 rw[KC,decide_eq_false h,if_neg a0u,if_neg a0u]
 unfold rK rP
 rw[a0x,a0x]
 exact⟨rfl,rfl⟩
theorem tL {y:Nat}{K:og}:(K.find? λt=>decide (t.1=y)).isSome=decide (y∈K.map (·.1)):=by
 rw[a2h,List.find?_isSome,decide_eq_true_iff,a1a]
 constructor
 ·rintro⟨t,ht,e⟩;exact⟨t,ht,of_decide_eq_true e⟩
 ·rintro⟨t,ht,rfl⟩;exact⟨t,ht,decide_eq_true rfl⟩
theorem mI {y:Nat}{K:og}(h:y∈K.map (·.1)):∃r,(K.find? λt=>decide (t.1=y))=some (y,r)/\(y,r)∈K:=by
 have:=tL (y:=y) (K:=K)
 rw[decide_eq_true h,a2a] at this
 obtain⟨⟨a,r⟩,e⟩:=this
 have h1:=List.find?_some e
 have h2:=a4q e
 have:a=y:=of_decide_eq_true h1
 subst this
 exact⟨r,e,h2⟩
structure Rds (n:Nat)(S:List Sg)(x:Nat)(K:og):Prop where
 nd:(K.map (·.1)).Nodup
 lt:∀t∈K,t.1<n
 tr:∀t∈K,∃vs,Trk S x t.1 t.2 vs/\vs.Nodup/\∀v∈vs,v∈K.map (·.1)
 st:∃K',K=(x,[])::K'
theorem wj:∀{n:Nat} {l:List Nat},l.Nodup->(∀v∈l,v<n)->l.length<=n:=λ{n l} nd h=>by
 have:=List.Nodup.length_le_of_subset nd (l₂:=a0l n) (λv hv=>a0z.mpr (h v hv))
 rwa [a0v] at this
theorem Rds.len {n:Nat}{S:List Sg}{x:Nat}{K:og}(R:Rds n S x K):K.length<=n:=by
 have:=wj R.nd (λv hv=>by obtain⟨t,ht,rfl⟩:=a1a.mp hv;exact R.lt t ht)
 rwa [a0i] at this
theorem Rds.rlen {n:Nat}{S:List Sg}{x:Nat}{K:og}(R:Rds n S x K){t:Nat×List PV}(ht:t∈K):t.2.length<n:=by
 obtain⟨vs,tr,nd,sub⟩:=R.tr t ht
 have:=wj nd (λv hv=>by obtain⟨u,hu,rfl⟩:=a1a.mp (sub v hv);exact R.lt u hu)
 have:=tr.len
 omega
theorem Rds.add {n:Nat}{S:List Sg}{x a e:Nat}{l:PV}{r:List PV}{K:og}(R:Rds n S x K)(ha:(a,r)∈K)(hs:(a,e,l)∈S)(he:e<n)(hn:e∉K.map (·.1)):Rds n S x (K++[(e,r++[l])]):=by
 refine⟨?_,λt ht=>?_,λt ht=>?_,?_⟩
 ·rw[a0x,a1t]
  refine⟨R.nd,by simp,λu hu v hv=>?_⟩
  rw[show v=e by simpa using hv]
  exact λq=>hn (q▸hu)
 ·rcases a0w.mp ht with ht|ht
  ·exact R.lt t ht
  ·rw[a0g.mp ht];exact he
 ·have sub:∀v,v∈K.map (·.1)->v∈(K++[(e,r++[l])]).map (·.1):=λv hv=>by rw[a0x];exact a1b _ hv
  rcases a0w.mp ht with ht|ht
  ·obtain⟨vs,h1,h2,h3⟩:=R.tr t ht
   exact⟨vs,h1,h2,λv hv=>sub v (h3 v hv)⟩
  ·rw[a0g.mp ht]
   obtain⟨vs,h1,h2,h3⟩:=R.tr _ ha
   refine⟨vs++[e],.snoc h1 hs,?_,λv hv=>?_⟩
   ·rw[a1t]
    refine⟨h2,by simp,λu hu v hv=>?_⟩
    rw[show v=e by simpa using hv]
    exact λq=>hn (q▸h3 u hu)
   ·rcases a0w.mp hv with hv|hv
    ·exact sub v (h3 v hv)
    ·rw[a0g.mp hv,a0x];exact a0o _ (a0g.mpr rfl)
 ·obtain⟨K',e'⟩:=R.st
  exact⟨K'++[(e,r++[l])],by rw[e'];rfl⟩
noncomputable def xq (S:List Sg)(K:og)(a:Nat):Prop:=∀e l,(a,e,l)∈S->e∈K.map (·.1)
theorem kW {n:Nat}(hn:n<=40){S0:List Sg}{x:Nat}{s1:Option Sl}{a:Nat}(hS:∀t∈S0,t.1<n/\t.2.1<n):∀(S pre:List Sg) (K:og) (W:List Nat) (z5 z6 z7:Option Sl),S0=pre++S->Rds n S0 x K->a∈K.map (·.1)->(∀w∈W,w∈K.map (·.1))->W.length<=K.length →
  (∀e l,(a,e,l)∈pre->e∈K.map (·.1)) →
  ∃K' W' z5' z6' z7',bZ (iH 3 (gC (gN 5) (gC (gN 6) (gC (gN 7) g0)))) dG (S.map sD) [some (.val (.lst (S0.map sD))),s1,some (.dic (rK K) (rP K)),some (.own (af W)),some (.val (.int (a:Nat))),z5,z6,z7] =
   .nx [some (.val (.lst (S0.map sD))),s1,some (.dic (rK K') (rP K')),some (.own (af W')),some (.val (.int (a:Nat))),z5',z6',z7']/\Rds n S0 x K'/\(∀v,v∈K.map (·.1)->v∈K'.map (·.1))/\(∀w∈W',w∈K'.map (·.1))/\xq S0 K' a/\K'.length+W.length=K.length+W'.length/\(∀v,v∈K'.map (·.1)->v∈K.map (·.1)\/v∈W')/\(∀w∈W,w∈W')
 |[],pre,K,W,z5,z6,z7,e0,R,ha,hw,hl,hp=>⟨K,W,z5,z6,z7,by rw[a2o,iV],R,λ_ h=>h,hw,(λe l h=>hp e l (by rw[e0,a1s] at h;exact h)),rfl,λ_ h=>.inl h,λ_ h=>h⟩
 |(b,e,l)::S,pre,K,W,z5,z6,z7,e0,R,ha,hw,hl,hp=>by
  have hm:(b,e,l)∈S0:=by rw[e0];exact a0o _ a0e
  obtain⟨hb,he⟩:=hS _ hm
  have e1:S0=(pre++[(b,e,l)])++S:=by rw[e0,a1x];rfl
  have d1:decide ((b:Int)=(a:Int))=decide (b=a):=decide_eq_decide.mpr (by omega)
  have dA:kB (.int (e:Nat)) (.dct (rK K) (rP K))=some (.fz (.bl (!decide (e∈K.map (·.1))))):=by
   rw[aw,pR,a6a,tL]
  have hKl:=R.len
  by_cases hba:b=a
  ·by_cases hin:e∈K.map (·.1)
   ·obtain⟨K',W',z5',z6',z7',eq,r⟩:=kW hn hS S (pre++[(b,e,l)]) K W (some (.val (.int (b:Nat)))) (some (.val (.int (e:Nat)))) (some (.val l)) e1 R ha hw hl (λe' l' h=>by
     rcases a0w.mp h with h|h
     ·exact hp e' l' h
     ·have:=a0g.mp h;cases this;exact hin)
    refine⟨K',W',z5',z6',z7',?_,r⟩
    rw[a1g,eN]
    simp![sD,dG,bc,az,bp,aA,de,aB,aD,aP,aR,aC,bR,bq,bj,bO,bL,bN,bH,bo,aE,bn,aH,bP,bf,aG,ay,aO,aT,aK,aL,aw,c8,bh,aU,aQ,be,ax,aM,bD,aI,bQ,aZ,bg,aF,bm,aN,aV,aS,d1,decide_eq_true hba,dA,decide_eq_true hin]
    exact eq
   ·obtain⟨q,fq,mq⟩:=mI ha
    have R':=R.add mq (hba▸hm) he hin
    have hq:q.length<n:=R.rlen mq
    obtain⟨p1,p2⟩:=Ia (r:=q++[l]) hin
    have sub:∀v,v∈K.map (·.1)->v∈(K++[(e,q++[l])]).map (·.1):=λv hv=>by rw[a0x];exact a1b _ hv
    have hme:e∈(K++[(e,q++[l])]).map (·.1):=by rw[a0x];exact a0o _ (a0g.mpr rfl)
    obtain⟨K',W',z5',z6',z7',eq,r1,r2,r3,r4,r5,r6,r7⟩:=kW hn hS S (pre++[(b,e,l)]) (K++[(e,q++[l])]) (W++[e]) (some (.val (.int (b:Nat)))) (some (.val (.int (e:Nat)))) (some (.val l)) e1 R' (sub a ha) (λw hw'=>by
     rcases a0w.mp hw' with h|h
     ·exact sub w (hw w h)
     ·rw[a0g.mp h];exact hme) (by rw[a0t,a0t];simp only[a1m];omega) (λe' l' h=>by
     rcases a0w.mp h with h|h
     ·exact sub _ (hp e' l' h)
     ·have:=a0g.mp h;cases this;exact hme)
    refine⟨K',W',z5',z6',z7',?_,r1,λv hv=>r2 v (sub v hv),r3,r4,?_,λv hv=>?_,λw hw'=>r7 w (a1b _ hw')⟩
    ·rw[a1g,eN]
     have i1:mx (rK K) (rP K) (.inl ((a:Nat):Int))=some (.tup q):=by rw[pR,fq];rfl
     have kl:(rK K).length<=100000:=by unfold rK;rw[a0i];omega
     have ql:q.length<=99999:=by omega
     have nl:W.length<=100000:=by omega
     simp![sD,dG,bc,az,bp,aA,de,aB,aD,aP,aR,aC,bR,bq,bj,bO,bL,bN,bH,bo,aE,bn,aH,bP,bf,aG,ay,aO,aT,aK,aL,aw,c8,bh,aU,aQ,be,ax,aM,bD,aI,bQ,aZ,bg,aF,bm,aN,aV,aS,d1,decide_eq_true hba,dA,decide_eq_false hin,i1,if_pos kl,if_pos ql,if_pos nl,p1,p2,fW]
     exact eq
    ·rw[a0t,a0t] at r5
     simp only[a1m] at r5
     omega
    ·rcases r6 v hv with h|h
     ·rw[a0x] at h
      rcases a0w.mp h with h|h
      ·exact .inl h
      ·rw[show v=e by simpa using h];exact .inr (r7 e (a0o _ (a0g.mpr rfl)))
     ·exact .inr h
  ·obtain⟨K',W',z5',z6',z7',eq,r⟩:=kW hn hS S (pre++[(b,e,l)]) K W (some (.val (.int (b:Nat)))) (some (.val (.int (e:Nat)))) (some (.val l)) e1 R ha hw hl (λe' l' h=>by
    rcases a0w.mp h with h|h
    ·exact hp e' l' h
    ·have:=a0g.mp h;cases this;exact absurd rfl hba)
   refine⟨K',W',z5',z6',z7',?_,r⟩
   rw[a1g,eN]
   simp![sD,dG,bc,az,bp,aA,de,aB,aD,aP,aR,aC,bR,bq,bj,bO,bL,bN,bH,bo,aE,bn,aH,bP,bf,aG,ay,aO,aT,aK,aL,aw,c8,bh,aU,aQ,be,ax,aM,bD,aI,bQ,aZ,bg,aF,bm,aN,aV,aS,d1,decide_eq_false hba]
   exact eq
theorem ME {w:Nat}{W:List Nat}{ρ1:ao}:oR (.own (af (w::W))) [.int 0]=some (.own (af W),.int (w:Nat)):=Eq.trans rfl rfl
theorem oy {n:Nat}(hn:n<=40){S:List Sg}{x:Nat}{s1:Option Sl}(hS:∀t∈S,t.1<n/\t.2.1<n):∀(m k:Nat) (K:og) (W:List Nat) (z4 z5 z6 z7:Option Sl),(n - K.length)+W.length<=m->m<k->Rds n S x K->(∀w∈W,w∈K.map (·.1))->W.length<=K.length->(∀a∈K.map (·.1),a∉W->xq S K a) →
  ∃K' z4' z5' z6' z7',b7 cO cP k [some (.val (.lst (S.map sD))),s1,some (.dic (rK K) (rP K)),some (.own (af W)),z4,z5,z6,z7] =
   .nx [some (.val (.lst (S.map sD))),s1,some (.dic (rK K') (rP K')),some (.own []),z4',z5',z6',z7']/\Rds n S x K'/\∀a∈K'.map (·.1),xq S K' a
 |m,0,K,W,_,_,_,_,_,hk,_,_,_,_=>absurd hk (a2p _)
 |m,k+1,K,[],z4,z5,z6,z7,hm,hk,R,hw,hl,hc=>⟨K,z4,z5,z6,z7,by
   rw[dP]
   simp![cO,bc,az,bp,aA,de,aB,aD,aP,aR,aC,bR,bq,bj,bO,bL,bN,bH,bo,aE,bn,aH,bP,bf,aG,ay,aO,aT,aK,aL,aw,c8,bh,aU,aQ,be,ax,aM,bD,aI,bQ,aZ,bg,aF,bm,aN,aV,aS,af,a2o],R,λa ha=>hc a ha (a2q)⟩
 |0,k+1,K,w::W,_,_,_,_,hm,_,_,_,_,_=>by rw[a0p] at hm;omega
 |m+1,k+1,K,w::W,z4,z5,z6,z7,hm,hk,R,hw,hl,hc=>by
  have hl':W.length<=K.length:=by rw[a0p] at hl;omega
  obtain⟨K',W',z5',z6',z7',eq,r1,r2,r3,r4,r5,r6,r7⟩:=kW hn (s1:=s1) hS S [] K W z5 z6 z7 rfl R (hw w a0e) (λv hv=>hw v (a0c _ hv)) hl' (λ_ _ h=>by cases h)
  have hK':=r1.len
  obtain⟨K2,y4,y5,y6,y7,e2,q1,q2⟩:=oy hn (s1:=s1) hS m k K' W' (some (.val (.int (w:Nat)))) z5' z6' z7' (by have:=R.len;rw[a0p] at hm;omega) (by omega) r1 r3 (by omega) (λa ha hn'=>by
   by_cases haw:a=w
   ·subst haw;exact r4
   ·rcases r6 a ha with h|h
    ·have:a∉w::W:=λh'=>(a0s.mp h').elim haw λh'=>hn' (r7 a h')
     exact λe l he=>r2 e (hc a h this e l he)
    ·exact absurd h hn')
  refine⟨K2,y4,y5,y6,y7,?_,q1,q2⟩
  rw[dP]
  have c0:cO [some (.val (.lst (S.map sD))),s1,some (.dic (rK K) (rP K)),some (.own (af (w::W))),z4,z5,z6,z7]=some true:=by
   simp![cO,bc,az,bp,aA,de,aB,aD,aP,aR,aC,bR,bq,bj,bO,bL,bN,bH,bo,aE,bn,aH,bP,bf,aG,ay,aO,aT,aK,aL,aw,c8,bh,aU,aQ,be,ax,aM,bD,aI,bQ,aZ,bg,aF,bm,aN,aV,aS,af,a1g]
  rw[c0]
  show OI (cP _) _ _ _=_
  have b0:cP [some (.val (.lst (S.map sD))),s1,some (.dic (rK K) (rP K)),some (.own (af (w::W))),z4,z5,z6,z7]=.nx [some (.val (.lst (S.map sD))),s1,some (.dic (rK K') (rP K')),some (.own (af W')),some (.val (.int (w:Nat))),z5',z6',z7']:=by
   simp![cP,bD,aI,ME (ρ1:=[]),eq]
  rw[b0,oU]
  exact e2
theorem GW {n:Nat}(hn:n<=40){S:List Sg}{x:Nat}(hx:x<n)(hS:∀t∈S,t.1<n/\t.2.1<n):∃K,jO [.lst (S.map sD),.int (x:Nat)]=some (.v (rD K))/\Rds n S x K/\∀a∈K.map (·.1),xq S K a:=by
 have R0:Rds n S x [(x,[])]:=⟨by simp,λt ht=>by rw[a0g.mp ht];exact hx,λt ht=>by rw[a0g.mp ht];exact⟨[x],.nil,by simp,λv hv=>by simpa using hv⟩,⟨[],rfl⟩⟩
 obtain⟨K,z4,z5,z6,z7,e,R,c⟩:=oy hn (s1:=some (.val (.int (x:Nat)))) hS n 10000 [(x,[])] [x] none none none none (by simp;omega) (by omega) R0 (λw hw=>by simpa using hw) (by simp) (λa ha hn'=>by
  have:a=x:=by simpa using ha
  exact absurd (by rw[this];exact a0g.mpr rfl) hn')
 refine⟨K,?_,R,c⟩
 have e':b7 cO cP 10000 [some (.val (.lst (S.map sD))),some (.val (.int (x:Nat))),some (.dic [.inl ((x:Nat):Int)] [.tup []]),some (.own [.int (x:Nat)]),none,none,none,none]=_:=e
 simp![ul,jR,dG,cO,cP,bc,az,bp,aA,de,aB,aD,aP,aR,aC,bR,bq,bj,bO,bL,bN,bH,bo,aE,bn,aH,bP,bf,aG,ay,aO,aT,aK,aL,aw,c8,bh,aU,aQ,be,ax,aM,bD,aI,bQ,aZ,bg,aF,bm,aN,aV,aS,e',rD,xD,p8]
inductive Rch (S:List Sg) (x:Nat):Nat->Prop where
 |refl:Rch S x x
 |step {a e:Nat} {l:PV}:Rch S x a->(a,e,l)∈S->Rch S x e
theorem Trk.rch {S:List Sg}{x e:Nat}{r:List PV}{vs:List Nat}(t:Trk S x e r vs):Rch S x e:=by
 induction t with
 |nil=>exact .refl
 |snoc _ q ih=>exact .step ih q
theorem Rds.keys {n:Nat}{S:List Sg}{x:Nat}{K:og}(R:Rds n S x K)(c:∀a∈K.map (·.1),xq S K a)(e:Nat):e∈K.map (·.1)↔Rch S x e:=by
 constructor
 ·intro h
  obtain⟨t,ht,rfl⟩:=a1a.mp h
  obtain⟨vs,tr,_⟩:=R.tr t ht
  exact tr.rch
 ·intro h
  induction h with
  |refl=>obtain⟨K',e⟩:=R.st;rw[e];exact a0e
  |step _ q ih=>exact c _ ih _ _ q
theorem Iq {y:Nat}{K:og}:mh (rD K) [.int (y:Nat)]=some (.fz (((K.find? λt=>decide (t.1=y)).map λt=>PV.tup t.2).getD .non)):=by
 rw[rD,aZ,aK,a5q,pR]
end Dp
end
section
namespace Dp
open PySem L2 Fo Dp
noncomputable def wJ (g:Nat->Int)(l:List Nat):List PV:=l.map λk=>.tup [.int (g k),.int k]
theorem ti (g:Nat->Int)(l:List Nat):(wJ g l).length=l.length:=a0i ..
theorem wC (g:Nat->Int):∀l:List Nat,lQ (wJ g l)=some (l.map λk=>[g k,(k:Int)])
 |[]=>rfl
 |k::l=>by
  show lQ (.tup [.int (g k),.int k]::wJ g l)=_
  rw[lQ]
  rw[wC g l];rfl
noncomputable def Dq (g:Nat->Int)(n:Nat):List Nat:=oH ((a0l n).map λk=>[g k,(k:Int)])
theorem mY (g:Nat->Int)(n:Nat):(Dq g n).Perm (a0l n):=by
 have:=rJ ((a0l n).map λk=>[g k,(k:Int)])
 rwa [a0i,a0v] at this
theorem Cu (g:Nat->Int)(n:Nat):(Dq g n).length=n:=by rw[(mY g n).length_eq,a0v]
theorem xj (g:Nat->Int)(n:Nat)(hn:n<64):kS [.lst (wJ g (a0l n))]=some (.nw (wJ g (Dq g n))):=by
 simp_all! [wC,ti,a0v,eq_true hn]
 congr 2
 unfold wJ
 refine a1c λi hi=>?_
 have hi':i<n:=a0z.mp ((mY g n).subset hi)
 rw[a0m,a0q,a2k hi'];rfl
end Dp
end
section
namespace Fo
open PySem L2
theorem s5 {y:Str}(hy:y∈cr):y = "none"\/y = "whole"\/y = "halves"\/y = "splits"\/y = "one":=by simpa [cr] using hy
theorem n1:(("halves" : Str) = "whole")=False:=eq_false (by decide)
theorem n2:(("halves" : Str) = "splits")=False:=eq_false (by decide)
theorem n3:(("splits" : Str) = "whole")=False:=eq_false (by decide)
theorem n7:(("none" : Str) = "whole")=False:=eq_false (by decide)
theorem n8:(("none" : Str) = "splits")=False:=eq_false (by decide)
theorem n9:(("none" : Str) = "halves")=False:=eq_false (by decide)
theorem Rr:(("none" : Str) = "one")=False:=eq_false (by decide)
end Fo
end
section
namespace Dp
open PySem L2 Fo Dp Lo
theorem oA:∀l:List (List Nat),aJ (l.map λu=>PV.tup (af u))=true
 |[]=>by rw[a2o,aJ]
 |u::l=>by rw[a1g,aJ,bM,b9,oA l];rfl
theorem sj:∀l:List (List Nat),cB (l.map λu=>PV.tup (af u))<=1
 |[]=>by rw[a2o,cB];omega
 |u::l=>by rw[a1g,cB,rj,eG];have:=sj l;omega
theorem iE (t:Nat):∀l:List Nat,pin (.int t) (af l)=decide (t∈l)
 |[]=>rfl
 |u::l=>by
  show (jL (.int (u:Int)) (.int (t:Int)) || pin (.int t) (af l))=_
  rw[o8,iE t l]
  by_cases h:u=t
  ·subst h;simp
  ·have h':¬((u:Int)=(t:Int)):=by omega
   rw[decide_eq_false h',Bool.false_or]
   have:t≠u:=λz=>h z.symm
   simp[a0s,this]
end Dp
end
section
namespace Fo
open PySem L2
theorem BI {l:List Nat}{n:Nat}(nd:l.Nodup)(h:∀x∈l,x<n):l.length<=n:=by
 have p:l.Perm ((a0l n).filter λx=>decide (x∈l)):=(a4l nd (List.nodup_range.filter _)).mpr λx=>by
  rw[a1u,a0z,decide_eq_true_eq]
  exact⟨λq=>⟨h x q,q⟩,λq=>q.2⟩
 rw[p.length_eq]
 have:=a3a (λx=>decide (x∈l)) (a0l n)
 rwa [a0v] at this
theorem LP {us:List Nat}(f:Fst us){x t:Nat}(hx:x<us.length)(h:t∈way us x):hd us t=hd us x:=by
 obtain⟨l2,w2,e,_,_⟩:=(dn f hx).later t h
 have:=nz f (jS f hx h) w2
 unfold hd
 rw[this,e]
end Fo
end
section
namespace Fo
open PySem L2
theorem nF {us:List Nat}(f:Frst us){u t:Nat}(hu:u<us.length)(ht:t<us.length)(eu:up us u=u)(et:up us t=t)(ne:t≠u):Frst (us.set u t):=by
 have hl:(us.set u t).length=us.length:=a1l
 refine⟨by rw[hl];exact f.one,by rw[hl];exact f.most,⟨λx hx=>?_,λx=>if hd us x=u then dp us x+1 else dp us x,λx hx=>?_,λx hx hn=>?_⟩⟩
 ·rw[hl] at hx ⊢
  rw[d6 hu]
  split
  ·exact ht
  ·exact f.fst.bnd x hx
 ·rw[hl] at hx ⊢
  have h1:=kX f.fst hx
  have h2:=(dn f.fst hx).pos
  show (if hd us x=u then dp us x+1 else dp us x)<us.length
  unfold dp
  split
  ·next e=>
   have nm:t∉way us x:=λq=>ne (by rw[←iZ f.fst ht et,LP f.fst hx q,e])
   have:(t::way us x).length<=us.length:=BI (a1n.mpr ⟨nm,(dn f.fst hx).nodup f.fst hx⟩) λz hz=>by
    rcases a0s.mp hz with rfl|hz
    ·exact ht
    ·exact jS f.fst hx hz
   rw[a0p] at this
   omega
  ·omega
 ·rw[hl] at hx
  rw[d6 hu] at hn ⊢
  show (if hd us (if x=u then t else up us x)=u then _ else _)<(if hd us x=u then dp us x+1 else dp us x)
  by_cases e:x=u
  ·subst e
   rw[if_pos rfl,iZ f.fst ht et,if_neg ne,iZ f.fst hx eu,if_pos rfl]
   have:dp us t=0:=by unfold dp;rw[vz f.fst ht et];rfl
   omega
  ·rw[if_neg e] at hn ⊢
   rw[zR f.fst hx]
   have:dp us (up us x)+1=dp us x:=by
    have h2:=(dn f.fst (f.fst.bnd x hx)).pos
    unfold dp
    rw[vV f.fst hx hn,a0p]
    omega
   split<;>omega
end Fo
namespace Dp
open PySem L2 Fo Dp
theorem KF {x:PV}{ps:List PV}:zk x (.ktu ps)=if bM x&&aJ ps&&decide (cB ps<=50) then some (.fz (.bl (pin x ps))) else none:=Eq.trans rfl rfl
theorem JO {lo j:Int}:wx [.rng lo j]=if lo=0/\0<=j/\j<=1000000 then some (.fz (.tup (mV 0 j.toNat))) else none:=Eq.trans rfl rfl
noncomputable def Fv:List Str:=["size","rank","told","names"]
theorem j4 {j:Str}(h:j∈Fv):j = "size"\/j = "rank"\/j = "told"\/j = "names":=by
 simpa [Fv] using h
noncomputable def qR (j y:Str)(us ms:List Nat):PV:=.tup [.str j,.str y,.tup (af us),.tup (af ms)]
noncomputable def OD (j:Str):Nat:=if j = "size" then 1 else 0
theorem zO {n:Nat}(h1:1<=n)(h2:n<=40):ju [.int n]=some (.v (.bl true)):=Jg (by omega) (by omega)
theorem JJ:decide (("size" : Str) = "rank")=false/\decide (("size" : Str) = "told")=false/\decide (("size" : Str) = "names")=false/\decide (("rank" : Str) = "size")=false/\decide (("rank" : Str) = "told")=false/\decide (("rank" : Str) = "names")=false ∧
  decide (("told" : Str) = "size")=false/\decide (("told" : Str) = "rank")=false/\decide (("told" : Str) = "names")=false/\decide (("names" : Str) = "size")=false/\decide (("names" : Str) = "rank")=false/\decide (("names" : Str) = "told")=false:=by decide
theorem BY {j:Str}(hj:j∈Fv):cU [.str j]=some (.v (.bl true)):=by
 have e:zk (.str j) (.ktu [.str "size",.str "rank",.str "told",.str "names"])=some (.fz (.bl true)):=by
  have h1:(bM (.str j)&&aJ [.str "size",.str "rank",.str "told",.str "names"]&&decide (cB [.str "size",.str "rank",.str "told",.str "names"]<=50))=true:=by simp[bM,aJ,cB,rj]
  have h2:pin (.str j) [.str "size",.str "rank",.str "told",.str "names"]=true:=by
   unfold pin
   simp only[a4o,uu,List.any_nil]
   rcases j4 hj with rfl|rfl|rfl|rfl<;>decide
  rw[KF,h1,h2];rfl
 simp![jZ,dI,e]
theorem Nv {a n:Nat}(h1:1<=n)(h2:n<=1000):iI (.tup [.int a]) (.int n)=some (.fz (.tup (af (a0r n a)))):=by
 have r:∀n:Nat,(a0r n [PV.int a]).flatten=af (a0r n a):=λn=>by
  induction n with
  |zero=>rfl
  |succ n ih=>rw[a2x,a3w,ih];rfl
 show (if ([PV.int a].isEmpty=false/\1<=(n:Int)/\(n:Int)<=1000/\[PV.int a].length<=1000) then some (RV.fz (.tup (a0r (n:Int).toNat [PV.int a]).flatten)) else none)=_
 rw[if_pos ⟨rfl,by omega,by omega,by simp⟩,a1o,r]
theorem H9 {n:Nat}(h1:1<=n)(h2:n<=40){j y:Str}(hj:j∈Fv)(hy:y∈cr):iW [.int n,.str j,.str y]=some (.v (qR j y (a0l n) (a0r n (OD j)))):=by
 have er:wx [.rng 0 n]=some (.fz (.tup (af (a0l n)))):=by rw[JO,if_pos ⟨rfl,by omega,by omega⟩,a1o,Ga]
 have ek:=(K1 (show n<=100000 by omega)).2.1
 have m0:=Nv (a:=0) h1 (show n<=1000 by omega)
 have m1:=Nv (a:=1) h1 (show n<=1000 by omega)
 have m0:iI (.tup [.int 0]) (.int n)=_:=m0
 have m1:iI (.tup [.int 1]) (.int n)=_:=m1
 unfold qR
 rcases j4 hj with rfl|rfl|rfl|rfl <;>
  simp![rm,jd,kC,fD,qM,il,zO h1 h2,BY hj,Db hy,JJ,ek,er,m0,m1,OD]<;>rfl
theorem pE {n:Nat}(h1:1<=n)(h2:n<=40):Frst (a0l n):=by
 have u:∀x,x<n->up (a0l n) x=x:=λx hx=>by unfold up;rw[a0m,a2k hx];rfl
 refine⟨by rw[a0v];exact h1,by rw[a0v];exact h2,⟨λx hx=>?_,λ_=>0,λx hx=>?_,λx hx hn=>?_⟩⟩
 ·rw[a0v] at hx ⊢;rw[u x hx];exact hx
 ·show 0<_;omega
 ·rw[a0v] at hx;exact absurd (u x hx) hn
theorem DG (ms:List Nat):mF [.tup (af ms)]=some (.v (.tup (af ms))):=by
 simp![xJ,lI]
theorem yh {us ms:List Nat}(f:Frst us){j y:Str}(hy:y∈cr){x:Nat}(hx:x<us.length):gG [qR j y us ms,.int x]=some (.v (.tup [qR j y (gJ y us x) ms,.int (hd us x:Nat),.int (stp y us x:Nat)])):=by
 have e:=AZ f hy hx
 simp only[nI] at e
 unfold qR
 simp![rh,jh,e,DG]
noncomputable def stay (j:Str)(ms:List Nat)(a b:Nat):Bool:=if j = "told" then true else if j = "names" then decide (a<b) else decide (up ms b<=up ms a)
noncomputable def FM (j:Str)(p q:Nat):Nat:=if j = "size" then p+q else if j = "rank"/\p=q then p+1 else p
noncomputable def tp (j:Str)(ms:List Nat)(a b:Nat):Nat:=if stay j ms a b then a else b
noncomputable def un (j:Str)(ms:List Nat)(a b:Nat):Nat:=if stay j ms a b then b else a
noncomputable def Bk (j:Str)(us ms:List Nat)(a b:Nat):List Nat:=us.set (un j ms a b) (tp j ms a b)
noncomputable def Mf (j:Str)(ms:List Nat)(a b:Nat):List Nat:=ms.set (tp j ms a b) (FM j (up ms (tp j ms a b)) (up ms (un j ms a b)))
theorem E8 {j:Str}(hj:j∈Fv){ms:List Nat}{a b:Nat}(ha:a<ms.length)(hb:b<ms.length):gx [.str j,.tup (af ms),.int a,.int b]=some (.v (.bl (stay j ms a b))):=by
 have d1:decide ((a:Int)<(b:Int))=decide (a<b):=decide_eq_decide.mpr (by omega)
 have d2:decide ((up ms b:Int)<=(up ms a:Int))=decide (up ms b<=up ms a):=decide_eq_decide.mpr (by omega)
 rcases j4 hj with rfl|rfl|rfl|rfl
 ·rw[show stay "size" ms a b=decide (up ms b<=up ms a) from rfl];simp![eV,cx,JJ,au ha,au hb,d2]
 ·rw[show stay "rank" ms a b=decide (up ms b<=up ms a) from rfl];simp![eV,cx,JJ,au ha,au hb,d2]
 ·rw[show stay "told" ms a b=true from rfl];simp![eV,cx]
 ·rw[show stay "names" ms a b=decide (a<b) from rfl];simp![eV,cx,JJ,d1]
theorem Co {j:Str}(hj:j∈Fv)(p q:Nat):gv [.str j,.int p,.int q]=some (.v (.int (FM j p q:Nat))):=by
 have d:decide ((p:Int)=(q:Int))=decide (p=q):=decide_eq_decide.mpr (by omega)
 rcases j4 hj with rfl|rfl|rfl|rfl
 ·rw[show FM "size" p q=p+q from rfl];simp![dB,cf];rfl
 ·by_cases h:p=q
  ·rw[show FM "rank" p q=p+1 by unfold FM;rw[if_neg (by decide),if_pos ⟨rfl,h⟩]];simp![dB,cf,JJ,d,decide_eq_true h];rfl
  ·rw[show FM "rank" p q=p by unfold FM;rw[if_neg (by decide),if_neg λz=>h z.2]];simp![dB,cf,JJ,d,decide_eq_false h]
 ·rw[show FM "told" p q=p from rfl];simp![dB,cf,JJ]
 ·rw[show FM "names" p q=p from rfl];simp![dB,cf,JJ]
theorem Nq {j y:Str}(hj:j∈Fv){us ms:List Nat}{a b:Nat}(hl:ms.length=us.length)(ha:a<us.length)(hb:b<us.length):cV [qR j y us ms,.int a,.int b]=some (.v (qR j y (Bk j us ms a b) (Mf j ms a b))):=by
 have st:=E8 hj (ms:=ms) (show a<ms.length by omega) (show b<ms.length by omega)
 unfold qR Bk Mf tp un
 cases h:stay j ms a b with
 |true=>
  rw[h] at st
  simp![fN,cu,st,eY ha,eY hb,eY (show a<ms.length by omega),ic,au (show a<ms.length by omega),au (show b<ms.length by omega),Co hj]
 |false=>
  rw[h] at st
  simp![fN,cu,st,eY ha,eY hb,eY (show b<ms.length by omega),ic,au (show a<ms.length by omega),au (show b<ms.length by omega),Co hj,a1z,if_false]
theorem E3 {j:Str}{ms:List Nat}{a b:Nat}:(Mf j ms a b).length=ms.length:=by unfold Mf;rw[a1l]
theorem E2 {j:Str}{us ms:List Nat}{a b:Nat}:(Bk j us ms a b).length=us.length:=by unfold Bk;rw[a1l]
theorem Ca {us:List Nat}(f:Frst us){j:Str}{ms:List Nat}{a b:Nat}(ha:a<us.length)(hb:b<us.length)(ea:up us a=a)(eb:up us b=b)(ne:a≠b):Frst (Bk j us ms a b):=by
 unfold Bk tp un
 cases stay j ms a b with
 |true=>exact nF f hb ha eb ea ne
 |false=>exact nF f ha hb ea eb ne.symm
inductive Deed where
 |find (x:Nat)|join (x y:Nat)
noncomputable def Deed.pv:Deed->PV
 |.find x=>.tup [.str "find",.int x]
 |.join x y=>.tup [.str "join",.int x,.int y]
noncomputable def Deed.ok (n:Nat):Deed->Prop
 |.find x=>x<n
 |.join x y=>x<n/\y<n
structure Sto (n:Nat)(us ms:List Nat):Prop where
 f:Frst us
 lu:us.length=n
 lm:ms.length=n
noncomputable def dU (j y:Str)(us ms:List Nat):Deed->List Nat
 |.find x=>gJ y us x
 |.join x z=>if hd us x=hd us z then gJ y (gJ y us x) z else Bk j (gJ y (gJ y us x) z) ms (hd us x) (hd us z)
noncomputable def dM (j:Str)(us ms:List Nat):Deed->List Nat
 |.find _=>ms
 |.join x z=>if hd us x=hd us z then ms else Mf j ms (hd us x) (hd us z)
noncomputable def dA (us:List Nat):Deed->PV
 |.find x=>.int (hd us x:Nat)
 |.join x z=>.bl (!decide (hd us x=hd us z))
noncomputable def dS (y:Str)(us:List Nat):Deed->Nat
 |.find x=>stp y us x
 |.join x z=>stp y us x+stp y (gJ y us x) z
noncomputable def vr (j y:Str)(us ms:List Nat)(d:Deed):PV:=.tup [qR j y (dU j y us ms d) (dM j us ms d),dA us d,.int (dS y us d:Nat)]
theorem wL {us:List Nat}(f:Frst us){x:Nat}(hx:x<us.length){y:Str}(hy:y∈cr){t:Nat}(ht:t<us.length):hd (gJ y us x) t=hd us t:=(Df f.fst hx hy ht).1
theorem Cc {n:Nat}{us ms:List Nat}(S:Sto n us ms){j y:Str}(hy:y∈cr){d:Deed}(hd':d.ok n):Sto n (dU j y us ms d) (dM j us ms d):=by
 obtain⟨f,lu,lm⟩:=S
 cases d with
 |find x=>
  have hx:x<us.length:=by rw[lu];exact hd'
  exact⟨mD f hx hy,by show (gJ y us x).length=n;rw[eX,lu],lm⟩
 |join x z=>
  have hx:x<us.length:=by rw[lu];exact hd'.1
  have hz:z<us.length:=by rw[lu];exact hd'.2
  have f1:=mD f hx hy
  have l1:=eX y us x
  have hz1:z<(gJ y us x).length:=by omega
  have f2:=mD f1 hz1 hy
  have l2:=eX y (gJ y us x) z
  show Sto n (if hd us x=hd us z then _ else _) (if hd us x=hd us z then _ else _)
  by_cases e:hd us x=hd us z
  ·rw[if_pos e,if_pos e];exact⟨f2,by omega,lm⟩
  ·rw[if_neg e,if_neg e]
   have hd2:∀t,t<us.length->hd (gJ y (gJ y us x) z) t=hd us t:=λt ht=>by rw[wL f1 hz1 hy (by omega),wL f hx hy ht]
   have top:∀t,t<us.length->up (gJ y (gJ y us x) z) (hd us t)=hd us t:=λt ht=>by
    have:=qa f2.fst (show t<(gJ y (gJ y us x) z).length by omega)
    rwa [hd2 t ht] at this
   have a1:=k5 f.fst hx
   have a2:=k5 f.fst hz
   exact⟨Ca f2 (by omega) (by omega) (top x hx) (top z hz) e,by rw[E2];omega,by rw[E3];exact lm⟩
theorem Gf {n:Nat}{us ms:List Nat}(S:Sto n us ms){j y:Str}(hj:j∈Fv)(hy:y∈cr){x z:Nat}(hx':x<n)(hz':z<n):gM [qR j y us ms,.int x,.int z]=some (.v (vr j y us ms (.join x z))):=by
 obtain⟨f,lu,lm⟩:=S
 have hx:x<us.length:=by omega
 have hz:z<us.length:=by omega
 have f1:=mD f hx hy
 have l1:=eX y us x
 have hz1:z<(gJ y us x).length:=by omega
 have l2:=eX y (gJ y us x) z
 have e1:=yh f hy hx (ms:=ms) (j:=j)
 have e2:=yh f1 hy hz1 (ms:=ms) (j:=j)
 rw[wL f hx hy hz] at e2
 have a1:=k5 f.fst hx
 have a2:=k5 f.fst hz
 have d:decide ((hd us x:Int)=(hd us z:Int))=decide (hd us x=hd us z):=decide_eq_decide.mpr (by omega)
 by_cases e:hd us x=hd us z
 ·have r:vr j y us ms (.join x z)=.tup [qR j y (gJ y (gJ y us x) z) ms,.bl false,.int (stp y us x+stp y (gJ y us x) z:Nat)]:=by
   unfold vr
   show PV.tup [qR j y (if hd us x=hd us z then _ else _) (if hd us x=hd us z then _ else _),.bl (!decide (hd us x=hd us z)),_]=_
   rw[if_pos e,if_pos e,decide_eq_true e];rfl
  rw[r]
  simp![lf,gh,e1,e2,d,decide_eq_true e]
  rfl
 ·have e3:=Nq (y:=y) hj (us:=gJ y (gJ y us x) z) (ms:=ms) (a:=hd us x) (b:=hd us z) (by omega) (by omega) (by omega)
  have r:vr j y us ms (.join x z)=.tup [qR j y (Bk j (gJ y (gJ y us x) z) ms (hd us x) (hd us z)) (Mf j ms (hd us x) (hd us z)),.bl true,.int (stp y us x+stp y (gJ y us x) z:Nat)]:=by
   unfold vr
   show PV.tup [qR j y (if hd us x=hd us z then _ else _) (if hd us x=hd us z then _ else _),.bl (!decide (hd us x=hd us z)),_]=_
   rw[if_neg e,if_neg e,decide_eq_false e];rfl
  rw[r]
  simp![lf,gh,e1,e2,e3,d,decide_eq_false e]
  rfl
end Dp
end
section
namespace Dp
open PySem L2 Fo Dp
noncomputable def JA:FS:=(bu 7 (A4 (aq bF (aa (aq cj (aa (fV 0) (aa (ak cH (ak cH (fV 1) (fC (.int 1))) (ak kY (fV 6) (fC (.int 5)))) ah))) (aa (fC (.int 20)) ah))) (xc (ak iI (fC (.int 4)) (ak b6 (fV 6) (fC (.int 5))))) xL))
theorem P1 {ρ:ao}:JA ρ=(bu 7 (A4 (aq bF (aa (aq cj (aa (fV 0) (aa (ak cH (ak cH (fV 1) (fC (.int 1))) (ak kY (fV 6) (fC (.int 5)))) ah))) (aa (fC (.int 20)) ah))) (xc (ak iI (fC (.int 4)) (ak b6 (fV 6) (fC (.int 5))))) xL)) ρ:=Eq.trans rfl rfl
noncomputable def JB:FS:=(pQ 8 9 (aa (ak b6 (ak bE (fV 7) (fC (.int 0))) (fV 2)) (aa (ak b6 (ak bE (fV 7) (fC (.int 1))) (fV 2)) ah)))
theorem Qj {ρ:ao}:JB ρ=(pQ 8 9 (aa (ak b6 (ak bE (fV 7) (fC (.int 0))) (fV 2)) (aa (ak b6 (ak bE (fV 7) (fC (.int 1))) (fV 2)) ah))) ρ:=Eq.trans rfl rfl
noncomputable def Qs:FS:=(ig (fT (ak mc (ak b6 (ak bE (fV 4) (fC (.int 1))) (fC (.int 4))) (fC (.int 1)))) (pQ 8 9 (aa (ak b6 (fV 6) (fV 2)) (aa (ak b6 (ak cH (fV 6) (fC (.int 1))) (fV 2)) ah))) br)
theorem IY {ρ:ao}:Qs ρ=(ig (fT (ak mc (ak b6 (ak bE (fV 4) (fC (.int 1))) (fC (.int 4))) (fC (.int 1)))) (pQ 8 9 (aa (ak b6 (fV 6) (fV 2)) (aa (ak b6 (ak cH (fV 6) (fC (.int 1))) (fV 2)) ah))) br) ρ:=Eq.trans rfl rfl
noncomputable def QA:FS:=(ig (jV (fT (ak mc (ak b6 (ak bE (fV 4) (fC (.int 1))) (fC (.int 4))) (fC (.int 2)))) (fT (ak Mk (ak b6 (ak bE (fV 7) (fC (.int 2))) (fC (.int 3))) (fC (.int 0))))) (aj (bu 8 (ak b6 (ak iI (ak kY (fV 8) (fC (.int 2))) (fC (.int 2))) (fV 2))) (bu 9 (fB pz (aa (ak xT (fV 2) (fC (.int 1))) (aa (ak cH (fV 8) (fC (.int 1))) ah))))) br)
theorem CH {ρ:ao}:QA ρ=(ig (jV (fT (ak mc (ak b6 (ak bE (fV 4) (fC (.int 1))) (fC (.int 4))) (fC (.int 2)))) (fT (ak Mk (ak b6 (ak bE (fV 7) (fC (.int 2))) (fC (.int 3))) (fC (.int 0))))) (aj (bu 8 (ak b6 (ak iI (ak kY (fV 8) (fC (.int 2))) (fC (.int 2))) (fV 2))) (bu 9 (fB pz (aa (ak xT (fV 2) (fC (.int 1))) (aa (ak cH (fV 8) (fC (.int 1))) ah))))) br) ρ:=Eq.trans rfl rfl
noncomputable def Po:FS:=(ig (jV (fT (ak nA (fV 5) (gU ah))) (fT (ak mc (ak b6 (ak bE (fV 7) (fC (.int 2))) (fC (.int 7))) (fC (.int 1))))) (fS (ak bE (fV 5) (ak b6 (ak bE (fV 7) (fC (.int 3))) (fB j2 (aa (fV 5) ah)))) (iH 2 (gC (gN 8) (gC (gN 9) g0)))) br)
theorem EK {ρ:ao}:Po ρ=(ig (jV (fT (ak nA (fV 5) (gU ah))) (fT (ak mc (ak b6 (ak bE (fV 7) (fC (.int 2))) (fC (.int 7))) (fC (.int 1))))) (fS (ak bE (fV 5) (ak b6 (ak bE (fV 7) (fC (.int 3))) (fB j2 (aa (fV 5) ah)))) (iH 2 (gC (gN 8) (gC (gN 9) g0)))) br) ρ:=Eq.trans rfl rfl
noncomputable def JD:FS:=(vB mr 5 (aa (ak bE (gU (aa (ck (aa (fV 8) (aa (fV 9) ah))) (aa (ck (aa (fV 9) (aa (fV 8) ah))) ah))) (ak b6 (ak kY (ak bE (fV 7) (fC (.int 2))) (fC (.int 7))) (fC (.int 2)))) ah))
theorem OM {ρ:ao}:JD ρ=(vB mr 5 (aa (ak bE (gU (aa (ck (aa (fV 8) (aa (fV 9) ah))) (aa (ck (aa (fV 9) (aa (fV 8) ah))) ah))) (ak b6 (ak kY (ak bE (fV 7) (fC (.int 2))) (fC (.int 7))) (fC (.int 2)))) ah)) ρ:=Eq.trans rfl rfl
theorem Pr {ρ:ao}:dz ρ=(aj JA (aj JB (aj Qs (aj QA (aj Po JD))))) ρ:=Eq.trans rfl rfl
noncomputable def j6 (ps:List (Nat×Nat)):List PV:=ps.map λp=>.tup [.int p.1,.int p.2]
theorem oY (ps:List (Nat×Nat)):(j6 ps).length=ps.length:=a0i ..
theorem jP:∀ps:List (Nat×Nat),aJ (j6 ps)=true
 |[]=>by show aJ []=true;rw[aJ]
 |p::ps=>by
  show aJ (.tup [.int p.1,.int p.2]::j6 ps)=true
  rw[aJ,jP ps];simp[bM,aJ]
theorem vR:∀ps:List (Nat×Nat),cB (j6 ps)<=1
 |[]=>by show cB []<=1;rw[cB];omega
 |p::ps=>by
  show cB (.tup [.int p.1,.int p.2]::j6 ps)<=1
  have:=vR ps
  rw[cB];simp[rj,cB];omega
theorem mX (ps:List (Nat×Nat)):dY (j6 ps) []=ps.isEmpty:=by
 cases ps with
 |nil=>exact ip
 |cons p ps=>exact j9 (by show (j6 ps).length+1≠0;omega)
theorem vH {α:Type}(l:List α)(k:Nat):m6 l (some (k:Int)) none=l.drop k:=by
 unfold m6
 rw[HT.sIx_nat,HT.sIx_none]
 by_cases h:k<=l.length
 ·rw[Nat.min_eq_left h,a1v (by rw[a2n];omega)]
 ·rw[Nat.min_eq_right (by omega),a2i (a0n _),a2i (by omega),List.take_nil]
section
variable {ns:List Int}{n:Nat}{hs ys:List Nat}{row:List (Nat×Nat)}{s3:Option Sl}{at' k:Nat}
noncomputable def JR (ns:List Int)(at' n:Nat)(s3:Option Sl)(hs:List Nat)(row:List (Nat×Nat))(k:Nat)(ys:List Nat)(x z:Nat):ao:=[some (.val (.src (iL ns))),some (.val (.int at')),some (.val (.int n)),s3,some (.val (.lst (af hs))),some (.own (j6 row)),some (.val (.int k)),some (.val (.lst (af ys))),some (.val (.int x)),some (.val (.int z))]
theorem Qi (hn:1<=n)(hh:hs.length=4){x z:Nat}(hx:x<n)(hz:z<n):∃x' z',x'<n/\z'<n/\Qs (JR ns at' n s3 hs row k ys x z)=.nx (JR ns at' n s3 hs row k ys x' z'):=by
 have i1:L2.c6 (af hs) 1=some (.int (up hs 1:Nat)):=au (x:=1) (by omega)
 have pn:(0:Int)<(n:Int):=by omega
 unfold JR
 by_cases q:(up hs 1:Int) % 4=1
 ·refine⟨k % n,(k+1) % n,a3q _ (by omega),a3q _ (by omega),?_⟩
  simp![IY,i1,decide_eq_true q,pn]
  rfl
 ·exact⟨x,z,hx,hz,by simp![IY,i1,decide_eq_false q]⟩
theorem PZ (hn:1<=n)(hn2:n<=40)(hh:hs.length=4)(hy:4<=ys.length){x z:Nat}(hx:x<n)(hz:z<n):∃x' z',x'<n/\z'<n/\QA (JR ns at' n s3 hs row k ys x z)=.nx (JR ns at' n s3 hs row k ys x' z'):=by
 have i1:L2.c6 (af hs) 1=some (.int (up hs 1:Nat)):=au (x:=1) (by omega)
 have i2:L2.c6 (af ys) 2=some (.int (up ys 2:Nat)):=au (x:=2) (by omega)
 have pn:(0:Int)<(n:Int):=by omega
 unfold JR
 by_cases q:(up hs 1:Int) % 4=2
 ·by_cases q2:(0:Int)<(up ys 2:Int) % 3
  ·have e1:(x:Int) / 2 * 2 % (n:Int)=((x / 2 * 2 % n:Nat):Int):=by push_cast;rfl
   have em:(if ((x / 2 * 2 % n:Nat):Int)+1<(n:Int) - 1 then ((x / 2 * 2 % n:Nat):Int)+1 else (n:Int) - 1)=((min (n - 1) (x / 2 * 2 % n+1):Nat):Int):=by split<;>omega
   refine⟨x / 2 * 2 % n,min (n - 1) (x / 2 * 2 % n+1),a3q _ (by omega),by omega,?_⟩
   have ml:(((x:Int) / 2).natAbs<2 ^ 64\/(2:Int).natAbs<2 ^ 64):=.inr (by decide)
   simp![CH,i1,i2,decide_eq_true q,decide_eq_true q2,pn,ml,e1,em]
  ·exact⟨x,z,hx,hz,by simp![CH,i1,i2,decide_eq_true q,decide_eq_false q2]⟩
 ·exact⟨x,z,hx,hz,by simp![CH,i1,decide_eq_false q]⟩
theorem Pq (hy:4<=ys.length)(hr:∀p∈row,p.1<n/\p.2<n){x z:Nat}(hx:x<n)(hz:z<n):∃x' z',x'<n/\z'<n/\Po (JR ns at' n s3 hs row k ys x z)=.nx (JR ns at' n s3 hs row k ys x' z'):=by
 have i2:L2.c6 (af ys) 2=some (.int (up ys 2:Nat)):=au (x:=2) (by omega)
 have i3:L2.c6 (af ys) 3=some (.int (up ys 3:Nat)):=au (x:=3) (by omega)
 have dd:decide (cB (j6 row)<=49)=true:=decide_eq_true (by have:=vR row;omega)
 have p0:aJ []=true:=by rw[aJ]
 unfold JR
 by_cases h0:row=[]
 ·subst h0;exact⟨x,z,hx,hz,by simp![EK,jP,p0,dd,mX,a4h]⟩
 ·have ie:row.isEmpty=false:=by cases row with
   |nil=>exact absurd rfl h0
   |cons=>rfl
  have pos:0<row.length:=List.length_pos_iff.mpr h0
  by_cases q:(up ys 2:Int) % 7=1
  ·have hl:up ys 3 % row.length<row.length:=a3q _ pos
   have pl:(0:Int)<(row.length:Int):=by omega
   have ea:L2.c6 (j6 row) ((up ys 3:Int) % (row.length:Int))=some (.tup [.int (row[up ys 3 % row.length]).1,.int (row[up ys 3 % row.length]).2]):=by
    rw[show (up ys 3:Int) % (row.length:Int)=((up ys 3 % row.length:Nat):Int) from rfl]
    refine L2.eU ?_
    unfold j6
    rw[a0q,a0f hl];rfl
   have hm:=hr _ (a1w hl)
   refine⟨_,_,hm.1,hm.2,?_⟩
   simp![EK,jP,p0,dd,mX,ie,i2,i3,decide_eq_true q,oY,pl,ea]
  ·exact⟨x,z,hx,hz,by simp![EK,jP,p0,dd,mX,ie,i2,decide_eq_false q]⟩
theorem Ro (hy:4<=ys.length)(hl:row.length<=1000){x z:Nat}:∃p,(p=(x,z)\/p=(z,x))/\JD (JR ns at' n s3 hs row k ys x z)=.nx (JR ns at' n s3 hs (row++[p]) k ys x z):=by
 have i2:L2.c6 (af ys) 2=some (.int (up ys 2:Nat)):=au (x:=2) (by omega)
 have l1:(j6 row).length<=100000:=by rw[oY];omega
 have ea:∀p:Nat×Nat,j6 row++[.tup [.int p.1,.int p.2]]=j6 (row++[p]):=λp=>by unfold j6;rw[a0x];rfl
 unfold JR
 by_cases q:(up ys 2:Int) / 7 % 2=0
 ·refine⟨(x,z),.inl rfl,?_⟩
  have e0:∀a b:PV,L2.c6 [a,b] 0=some a:=λa b=>rfl
  rw[←ea]
  simp![OM,i2,q,e0,l1]
 ·have q:(up ys 2:Int) / 7 % 2=1:=by omega
  refine⟨(z,x),.inr rfl,?_⟩
  have e0:∀a b:PV,L2.c6 [a,b] 1=some b:=λa b=>rfl
  rw[←ea]
  simp![OM,i2,q,e0,l1]
theorem JI (hn:1<=n)(hn2:n<=40)(hh:hs.length=4)(hat:at'<=500)(hk:k<=500)(hl:row.length<=1000)(hr:∀p∈row,p.1<n/\p.2<n){z7 z8 z9:Option Sl}:∃p w7 w8 w9,(p.1<n/\p.2<n) ∧
  dz [some (.val (.src (iL ns))),some (.val (.int at')),some (.val (.int n)),s3,some (.val (.lst (af hs))),some (.own (j6 row)),some (.val (.int k)),z7,z8,z9] =
   .nx [some (.val (.src (iL ns))),some (.val (.int at')),some (.val (.int n)),s3,some (.val (.lst (af hs))),some (.own (j6 (row++[p]))),some (.val (.int k)),w7,w8,w9]:=by
 obtain⟨c,ec⟩:=pU ns ((at':Int)+1+(k:Int) / 5) (by omega) (by omega)
 obtain⟨xs,hx,ex⟩:=jq c 20 (by decide) (by decide)
 have hx:xs.length=20:=hx
 have e4:(4:Int) * ((k:Int) % 5)=((4 * (k % 5):Nat):Int):=by omega
 have ec':m6 (af xs) (some ((4 * (k % 5):Nat):Int)) none=af (xs.drop (4 * (k % 5))):=by rw[u7,vH]
 generalize hys:xs.drop (4 * (k % 5))=ys at ec'
 have hy:4<=ys.length:=by rw[←hys,a2n];omega
 have ml:((4:Int).natAbs<2 ^ 64\/((k:Int) % 5).natAbs<2 ^ 64):=.inl (by decide)
 have pn:(0:Int)<(n:Int):=by omega
 have i0:L2.c6 (af ys) 0=some (.int (up ys 0:Nat)):=au (x:=0) (by omega)
 have i1:L2.c6 (af ys) 1=some (.int (up ys 1:Nat)):=au (x:=1) (by omega)
 have m0:(up ys 0:Int) % (n:Int)=((up ys 0 % n:Nat):Int):=rfl
 have m1:(up ys 1:Int) % (n:Int)=((up ys 1 % n:Nat):Int):=rfl
 obtain⟨x1,z1,a1,b1,e1⟩:=Qi (ns:=ns) (at':=at') (s3:=s3) (row:=row) (k:=k) (ys:=ys) hn hh (a3q (up ys 0) (by omega)) (a3q (up ys 1) (by omega))
 obtain⟨x2,z2,a2,b2,e2⟩:=PZ (ns:=ns) (at':=at') (s3:=s3) (row:=row) (k:=k) (ys:=ys) hn hn2 hh hy a1 b1
 obtain⟨x3,z3,a3,b3,e3⟩:=Pq (ns:=ns) (at':=at') (s3:=s3) (hs:=hs) (k:=k) (ys:=ys) hy hr a2 b2
 obtain⟨p,hp,e5⟩:=Ro (ns:=ns) (n:=n) (at':=at') (s3:=s3) (hs:=hs) (row:=row) (k:=k) (ys:=ys) (x:=x3) (z:=z3) hy hl
 refine⟨p,some (.val (.lst (af ys))),some (.val (.int x3)),some (.val (.int z3)),by rcases hp with rfl|rfl<;>exact⟨by assumption,by assumption⟩,?_⟩
 unfold JR at e1 e2 e3 e5
 simp![Pr,P1,Qj,ec,ex,ml,e4,ec',i0,i1,pn,m0,m1,e1,e2,e3,e5]
theorem CD (hn:1<=n)(hn2:n<=40)(hh:hs.length=4)(hat:at'<=500):∀(ks:List Nat) (row:List (Nat×Nat)) (z6 z7 z8 z9:Option Sl),(∀k∈ks,k<=500)->row.length+ks.length<=1000->(∀p∈row,p.1<n/\p.2<n) →
  ∃row' w6 w7 w8 w9,(∀p∈row',p.1<n/\p.2<n)/\row'.length=row.length+ks.length/\bZ (gN 6) dz (af ks) [some (.val (.src (iL ns))),some (.val (.int at')),some (.val (.int n)),s3,some (.val (.lst (af hs))),some (.own (j6 row)),z6,z7,z8,z9] =
   .nx [some (.val (.src (iL ns))),some (.val (.int at')),some (.val (.int n)),s3,some (.val (.lst (af hs))),some (.own (j6 row')),w6,w7,w8,w9]
 |[],row,z6,z7,z8,z9,_,_,hr=>⟨row,z6,z7,z8,z9,hr,rfl,rfl⟩
 |k::ks,row,z6,z7,z8,z9,hk,hl,hr=>by
  rw[a0p] at hl
  obtain⟨p,w7,w8,w9,hp,e⟩:=JI (ns:=ns) (s3:=s3) hn hn2 hh hat (hk k a0e) (by omega) hr (z7:=z7) (z8:=z8) (z9:=z9)
  obtain⟨row',v6,v7,v8,v9,h1,h2,e'⟩:=CD hn hn2 hh hat ks (row++[p]) (some (.val (.int k))) w7 w8 w9 (λq hq=>hk q (a0c _ hq)) (by rw[a0t,a1m];omega) (λq hq=>by
   rcases a0w.mp hq with hq|hq
   ·exact hr q hq
   ·rw[a0g.mp hq];exact hp)
  refine⟨row',v6,v7,v8,v9,h1,by rw[h2,a0t,a1m,a0p];omega,?_⟩
  rw[←e',cW,eN]
  simp![e]
theorem Dc (ns:List Int){at' n m:Nat}(hn:1<=n)(hn2:n<=40)(hat:at'<=500)(hm:m<=60):∃row:List (Nat×Nat),(∀p∈row,p.1<n/\p.2<n)/\row.length<=m/\hU [.src (iL ns),.int at',.int n,.int m]=some (.v (.tup (j6 row))):=by
 obtain⟨c,ec⟩:=pU ns (at':Int) (by omega) (by omega)
 obtain⟨hs,hh,eh⟩:=jq c 4 (by decide) (by decide)
 have hh:hs.length=4:=hh
 have i0:L2.c6 (af hs) 0=some (.int (up hs 0:Nat)):=au (x:=0) (by omega)
 have pm:(0:Int)<(m:Int)+1:=by omega
 have em:(up hs 0:Int) % ((m:Int)+1)=((up hs 0 % (m+1):Nat):Int):=rfl
 have lt:up hs 0 % (m+1)<m+1:=a3q _ (by omega)
 generalize up hs 0 % (m+1)=q at *
 obtain⟨row,w6,w7,w8,w9,h1,h2,e⟩:=CD (ns:=ns) (s3:=some (.val (.int m))) hn hn2 hh hat (a0l q) [] none none none none (λk hk=>by have:=a0z.mp hk;omega) (by rw[a0v];simp;omega) (λp hp=>by cases hp)
 rw[a0v] at h2
 simp only[a2f] at h2
 have e:bZ (gN 6) dz (af (a0l q)) [some (.val (.src (iL ns))),some (.val (.int at')),some (.val (.int n)),some (.val (.int m)),some (.val (.lst (af hs))),some (.own []),none,none,none,none]=_:=e
 exact⟨row,h1,by omega,by simp![qx,ik,ec,eh,i0,pm,em,K1 (show q<=100000 by omega),e]⟩
end
theorem o9 {fs:FA}{ρ:ao}:ox fs ρ=(fs ρ).bind λrs=>(rs.mapM RV.fr).bind Bw:=by
 unfold ox
 rfl
theorem kN {ps:List PV}:Bw [.tup ps]=some (eS 0 ps):=Eq.trans rfl rfl
end Dp
end
section
namespace Dp
open PySem PySem.Spec L2 Fo Pt
noncomputable abbrev Tl:=Nat×Nat×Int
noncomputable def jM (t:Tl):PV:=.tup [.int (t.1:Nat),.int (t.2.1:Nat),.int t.2.2]
noncomputable def bY (row:List Tl):PV:=.tup (row.map jM)
noncomputable def CM (j:Nat)(s:Int):PV:=.tup [.int (j:Nat),.int s]
noncomputable def Fu (row:List Tl)(j:Nat):List Sg:=match row[j]? with
 |some t=>[(t.1,t.2.1,CM j 1),(t.2.1,t.1,CM j (-1))]
 |none=>[]
noncomputable def bG (row:List Tl)(js:List Nat):List Sg:=js.flatMap (Fu row)
theorem tR {row:List Tl}{j:Nat}{t:Tl}(h:row[j]?=some t):Fu row j=[(t.1,t.2.1,CM j 1),(t.2.1,t.1,CM j (-1))]:=by unfold Fu;rw[h]
theorem fu {row:List Tl}{js:List Nat}{a e:Nat}{l:PV}(h:(a,e,l)∈bG row js):∃j s t,j∈js/\row[j]?=some t/\l=CM j s/\((s=1/\a=t.1/\e=t.2.1)\/(s = -1/\a=t.2.1/\e=t.1)):=by
 obtain⟨j,hj,h⟩:=a3l.mp h
 cases et:row[j]? with
 |none=>unfold Fu at h;rw[et] at h;cases h
 |some t=>
  rw[tR et] at h
  rcases a0s.mp h with h|h
  ·cases h;exact⟨j,1,t,hj,et,rfl,.inl ⟨rfl,rfl,rfl⟩⟩
  ·have h:=a0g.mp h
   cases h;exact⟨j,-1,t,hj,et,rfl,.inr ⟨rfl,rfl,rfl⟩⟩
theorem nK {row:List Tl}{js:List Nat}{j:Nat}{t:Tl}(hj:j∈js)(et:row[j]?=some t):(t.1,t.2.1,CM j 1)∈bG row js/\(t.2.1,t.1,CM j (-1))∈bG row js:=by
 constructor<;>refine a3l.mpr ⟨j,hj,?_⟩<;>rw[tR et]
 ·exact a0e
 ·exact a0c _ a0e
theorem DX {a b c:PV}:m6 [a,b,c] none (some 2)=[a,b]:=by unfold m6;rfl
theorem Kr {row:List Tl}{j:Nat}{t:Tl}(h:row[j]?=some t):L2.c6 (row.map jM) (j:Int)=some (jM t):=eU (by rw[a0q,h];rfl)
theorem E6:¬(HT.sIx 3 0 none=0/\HT.sIx 3 3 (some 2)=3):=by decide +kernel
theorem sQ {row:List Tl}{s1:Option Sl}:∀(js:List Nat) (S:List Sg) (z3 z4 z5:Option Sl),(∀j∈js,j<row.length)->S.length+2 * js.length<=1000->∃z3' z4' z5',bZ (gN 3) cZ (af js) [some (.val (bY row)),s1,some (.own (S.map sD)),z3,z4,z5]=.nx [some (.val (bY row)),s1,some (.own ((S++bG row js).map sD)),z3',z4',z5']
 |[],S,z3,z4,z5,_,_=>⟨z3,z4,z5,by rw[show af []=[] from rfl,iV];simp[bG]⟩
 |j::js,S,z3,z4,z5,hj,hl=>by
  obtain⟨t,et⟩:∃t,row[j]?=some t:=⟨_,a0f (hj j a0e)⟩
  rw[a0p] at hl
  have es:(S++Fu row j)++bG row js=S++bG row (j::js):=by unfold bG;rw[a5a,a1x]
  have el:(S++Fu row j).length=S.length+2:=by rw[tR et,a0t];rfl
  obtain⟨z3',z4',z5',e⟩:=sQ (s1:=s1) js (S++Fu row j) (some (.val (.int (j:Nat)))) (some (.val (.int (t.1:Nat)))) (some (.val (.int (t.2.1:Nat)))) (λi hi=>hj i (a0c _ hi)) (by rw[el];omega)
  rw[es] at e
  refine⟨z3',z4',z5',?_⟩
  rw[cW,eN]
  have e2:S.map sD++[.tup [.int (t.1:Nat),.int (t.2.1:Nat),.tup [.int (j:Nat),.int 1]],.tup [.int (t.2.1:Nat),.int (t.1:Nat),.tup [.int (j:Nat),.int (-1)]]]=(S++Fu row j).map sD:=by rw[tR et,a0x];rfl
  have hl2:S.length<=99998:=by omega
  simp![cZ,bY,bc,az,bp,aA,de,aB,aD,aP,aR,aC,bR,bq,bj,bO,bL,bN,bH,bo,aE,bn,aH,bP,bf,aG,ay,aO,aT,aK,aL,aw,c8,bh,aU,aQ,be,ax,aM,bD,aI,bQ,aZ,bg,aF,bm,aN,aV,aS,Kr et,jM,DR,DX,a0i,if_pos hl2,e2]
  exact e
theorem Trk.labels {row:List Tl}{js:List Nat}{x e:Nat}{r:List PV}{vs:List Nat}(t:Trk (bG row js) x e r vs):∀l∈r,∃j s u,l=CM j s/\j∈js/\row[j]?=some u/\(s=1\/s = -1):=by
 induction t with
 |nil=>intro l hl;cases hl
 |snoc _ q ih=>
  intro l hl
  rcases a0w.mp hl with hl|hl
  ·exact ih l hl
  ·obtain⟨j,s,u,hj,et,e,hs⟩:=fu q
   rw[a0g.mp hl]
   exact⟨j,s,u,e,hj,et,hs.elim (λh=>.inl h.1) λh=>.inr h.1⟩
theorem Rch.trans {S:List Sg}{x a e:Nat}(h1:Rch S x a)(h2:Rch S a e):Rch S x e:=by
 induction h2 with
 |refl=>exact h1
 |step _ q ih=>exact .step ih q
theorem Rch.mono {S S':List Sg}(h:∀t∈S,t∈S'){x e:Nat}(r:Rch S x e):Rch S' x e:=by
 induction r with
 |refl=>exact .refl
 |step _ q ih=>exact .step ih (h _ q)
theorem Rch.symm {row:List Tl}{js:List Nat}{x e:Nat}(r:Rch (bG row js) x e):Rch (bG row js) e x:=by
 induction r with
 |refl=>exact .refl
 |step _ q ih=>
  obtain⟨j,s,t,hj,et,_,hs⟩:=fu q
  obtain⟨m1,m2⟩:=nK hj et
  rcases hs with ⟨_,rfl,rfl⟩|⟨_,rfl,rfl⟩
  ·exact (Rch.step .refl m2).trans ih
  ·exact (Rch.step .refl m1).trans ih
theorem Ez {n:Nat}{row:List Tl}(hr:∀t∈row,t.1<n/\t.2.1<n){js:List Nat}:∀t∈bG row js,t.1<n/\t.2.1<n:=λt ht=>by
 obtain⟨j,s,u,_,et,_,hs⟩:=fu (a:=t.1) (e:=t.2.1) (l:=t.2.2) ht
 have:=hr u (a1i et)
 rcases hs with ⟨_,h1,h2⟩|⟨_,h1,h2⟩<;>rw[h1,h2]
 ·exact this
 ·exact⟨this.2,this.1⟩
noncomputable def jw (row:List Tl):List (Nat×Nat):=row.map λt=>(t.1,t.2.1)
noncomputable def cT (row:List Tl):Nat->Nat:=lab (jw row) id
theorem OQ {row:List Tl}{js:List Nat}{x e:Nat}(r:Rch (bG row js) x e):cT row e=cT row x:=by
 induction r with
 |refl=>rfl
 |step _ q ih=>
  obtain⟨j,s,t,hj,et,_,hs⟩:=fu q
  have k:cT row t.1=cT row t.2.1:=iu _ _ _ _ (a1f (f:=λt:Tl=>(t.1,t.2.1)) (a1i et))
  rcases hs with ⟨_,rfl,rfl⟩|⟨_,rfl,rfl⟩
  ·rw[←k];exact ih
  ·rw[k];exact ih
open Classical in
theorem uM {row:List Tl}{P:Nat->Prop}(hP:∀t∈row,(P t.1↔P t.2.1)){x y:Nat}(h:cT row x=cT row y):P x↔P y:=by
 have:=qd (f:=λv=>if P v then 1 else 0) (jw row) id (λp hp=>by
  obtain⟨t,ht,rfl⟩:=a1a.mp hp
  show (if P t.1 then 1 else 0)=(if P t.2.1 then 1 else 0)
  by_cases q:P t.1
  ·rw[if_pos q,if_pos ((hP t ht).mp q)]
  ·rw[if_neg q,if_neg λz=>q ((hP t ht).mpr z)]) (λa b e=>by rw[show a=b from e]) x y h
 have this:(if P x then 1 else 0)=(if P y then 1 else 0):=this
 by_cases q:P x<;>by_cases q':P y<;>simp[q,q'] at this ⊢
theorem N3 {row:List Tl}{js:List Nat}(ha:∀t∈row,Rch (bG row js) t.1 t.2.1){x y:Nat}(h:cT row x=cT row y):Rch (bG row js) x y:=
 (uM (P:=λv=>Rch (bG row js) x v) (λt ht=>⟨λq=>q.trans (ha t ht),λq=>q.trans (ha t ht).symm⟩) h).mp .refl
theorem Ck {n x y:Nat}(hx:x<n)(hy:y<n):cz [.int (n:Nat),.tup [.int (x:Nat),.int (y:Nat)]]=some (.v (.bl true)):=by
 have a0:∀a b:PV,L2.c6 [a,b] 0=some a:=λa b=>rfl
 have a1:∀a b:PV,L2.c6 [a,b] 1=some b:=λa b=>rfl
 have d1:decide ((0:Int)<=(x:Int)/\(x:Int)<(n:Int))=true:=decide_eq_true (by omega)
 have d2:decide ((0:Int)<=(y:Int)/\(y:Int)<(n:Int))=true:=decide_eq_true (by omega)
 have c2:decide (((2:Nat):Int)=2)=true:=rfl
 simp![oz,iY,c2,a0,a1,tC,d1,d2]
theorem vq {n:Nat}{t:Tl}(hx:t.1<n)(hy:t.2.1<n):bS [.int (n:Nat),jM t]=some (.v (.bl true)):=by
 have a2:∀a b c:PV,L2.c6 [a,b,c] 2=some c:=λa b c=>rfl
 have c3:decide (((3:Nat):Int)=3)=true:=rfl
 simp![qe,iy,jM,c3,if_neg E6,DX,Ck hx hy,a2,s9]
noncomputable def cJ (row:List Tl):Nat->List Nat
 |0=>[]
 |k+1=>match row[k]? with
  |some t=>if cT (row.take k) t.1=cT (row.take k) t.2.1 then cJ row k else cJ row k++[k]
  |none=>cJ row k
theorem jz {row:List Tl}{k:Nat}{t:Tl}(et:row[k]?=some t)(h:cT (row.take k) t.1=cT (row.take k) t.2.1):cJ row (k+1)=cJ row k:=by
 rw[cJ,et];exact if_pos h
theorem kb {row:List Tl}{k:Nat}{t:Tl}(et:row[k]?=some t)(h:cT (row.take k) t.1≠cT (row.take k) t.2.1):cJ row (k+1)=cJ row k++[k]:=by
 rw[cJ,et];exact if_neg h
theorem mG (row:List Tl):∀k,(∀j∈cJ row k,j<k)/\(cJ row k).length<=k
 |0=>⟨λ_ h=>(by cases h),a0n _⟩
 |k+1=>by
  obtain⟨h1,h2⟩:=mG row k
  have k1:∀j∈cJ row k,j<k+1:=λj hj=>a3v (h1 j hj)
  cases et:row[k]? with
  |none=>rw[cJ,et];exact⟨k1,by show (cJ row k).length<=_;omega⟩
  |some t=>
   by_cases q:cT (row.take k) t.1=cT (row.take k) t.2.1
   ·rw[jz et q];exact⟨k1,by omega⟩
   ·rw[kb et q]
    refine⟨λj hj=>?_,by rw[a0t,a1m];omega⟩
    rcases a0w.mp hj with hj|hj
    ·exact k1 j hj
    ·rw[a0g.mp hj];exact a2j k
theorem qf {row:List Tl}{k:Nat}{js:List Nat}(h:∀j∈js,j<k):bG (row.take k) js=bG row js:=by
 unfold bG
 induction js with
 |nil=>rfl
 |cons j js ih=>
  rw[a5a,a5a,ih λi hi=>h i (a0c _ hi)]
  unfold Fu
  rw[a4u,if_pos (h j a0e)]
theorem xF {row:List Tl}{k:Nat}{t:Tl}(et:row[k]?=some t):row.take (k+1)=row.take k++[t]:=by
 rw[List.take_add_one,et];rfl
theorem vC (row:List Tl):∀k,∀t∈row.take k,Rch (bG row (cJ row k)) t.1 t.2.1
 |0=>λ_ h=>by rw[List.take_zero] at h;cases h
 |k+1=>by
  have ih:=vC row k
  have hl:=(mG row k).1
  cases et:row[k]? with
  |none=>
   rw[cJ,et,a1v (by have:=a4r.mp et;omega)]
   rw[a1v (by have:=a4r.mp et;omega)] at ih
   exact ih
  |some t=>
   intro u hu
   rw[xF et] at hu
   by_cases q:cT (row.take k) t.1=cT (row.take k) t.2.1
   ·rw[jz et q]
    rcases a0w.mp hu with hu|hu
    ·exact ih u hu
    ·rw[a0g.mp hu,←qf hl]
     exact N3 (λv hv=>by rw[qf hl];exact ih v hv) q
   ·rw[kb et q]
    rcases a0w.mp hu with hu|hu
    ·exact (ih u hu).mono λs hs=>by unfold bG at hs ⊢;rw[List.flatMap_append];exact a1b _ hs
    ·rw[a0g.mp hu]
     exact .step .refl (nK (a0o _ (a0g.mpr rfl)) et).1
noncomputable def Rl (row:List Tl)(j:Nat):Prop:=∃t,row[j]?=some t/\cT (row.take j) t.1≠cT (row.take j) t.2.1
theorem mem_real {row:List Tl}{j:Nat}:∀{k:Nat},j∈cJ row k↔j<k/\Rl row j
 |0=>⟨λh=>(by cases h),λh=>absurd h.1 (a2p _)⟩
 |k+1=>by
  have ih:=mem_real (row:=row) (j:=j) (k:=k)
  cases et:row[k]? with
  |none=>
   rw[cJ,et]
   show j∈cJ row k↔_
   rw[ih]
   refine⟨λh=>⟨by omega,h.2⟩,λh=>⟨?_,h.2⟩⟩
   rcases a4m (a4v h.1) with q|q
   ·exact q
   ·obtain⟨t,e,_⟩:=h.2
    rw[q,et] at e;cases e
  |some t=>
   by_cases q:cT (row.take k) t.1=cT (row.take k) t.2.1
   ·rw[jz et q,ih]
    refine⟨λh=>⟨by omega,h.2⟩,λh=>⟨?_,h.2⟩⟩
    rcases a4m (a4v h.1) with z|z
    ·exact z
    ·obtain⟨t',e,n⟩:=h.2
     rw[z,et] at e;cases e
     rw[z] at n
     exact absurd q n
   ·rw[kb et q,a0w,ih,a0g]
    constructor
    ·rintro (h|h)
     ·exact⟨by omega,h.2⟩
     ·rw[h];exact⟨by omega,t,et,q⟩
    ·intro h
     rcases a4m (a4v h.1) with z|z
     ·exact .inl ⟨z,h.2⟩
     ·exact .inr z
theorem oq (row:List Tl)(p:Nat->Bool):∀k,(∀j,j<k->(p j=true↔Rl row j))->cJ row k=(a0l k).filter p
 |0,_=>rfl
 |k+1,hp=>by
  have ih:=oq row p k λj hj=>hp j (by omega)
  have hk:=hp k (a2j k)
  rw[a4s,a4w,←ih]
  cases et:row[k]? with
  |none=>
   have:¬p k=true:=λz=>by obtain⟨t,e,_⟩:=hk.mp z;rw[et] at e;cases e
   rw[cJ,et,a3p (by simpa using this)]
   simp
  |some t=>
   by_cases q:cT (row.take k) t.1=cT (row.take k) t.2.1
   ·have:¬p k=true:=λz=>by obtain⟨t',e,n⟩:=hk.mp z;rw[et] at e;cases e;exact n q
    rw[jz et q,a3p (by simpa using this)]
    simp
   ·rw[kb et q,a4z (hk.mpr ⟨t,et,q⟩)]
    simp
noncomputable def Ed (row:List Tl)(j a e:Nat):Prop:=∃t,row[j]?=some t/\((a=t.1/\e=t.2.1)\/(a=t.2.1/\e=t.1))
noncomputable def Rq (row:List Tl):List Nat->List Nat->Prop
 |[],[_]=>True
 |j::ns,a::e::vs=>Ed row j a e/\Rq row ns (e::vs)
 |_,_=>False
section
variable {row:List Tl}
theorem Ed.sym {j a e:Nat}(h:Ed row j a e):Ed row j e a:=by
 obtain⟨t,et,h⟩:=h
 exact⟨t,et,h.elim (λh=>.inr ⟨h.2,h.1⟩) λh=>.inl ⟨h.2,h.1⟩⟩
theorem Ed.two {j a e c d:Nat}(h:Ed row j a e)(h':Ed row j c d):(a=c/\e=d)\/(a=d/\e=c):=by
 obtain⟨t,et,h⟩:=h
 obtain⟨t',et',h'⟩:=h'
 rw[et] at et';cases et'
 rcases h with ⟨rfl,rfl⟩|⟨rfl,rfl⟩<;>rcases h' with ⟨rfl,rfl⟩|⟨rfl,rfl⟩
 ·exact .inl ⟨rfl,rfl⟩
 ·exact .inr ⟨rfl,rfl⟩
 ·exact .inr ⟨rfl,rfl⟩
 ·exact .inl ⟨rfl,rfl⟩
theorem Ed.c {j a e k:Nat}(h:Ed row j a e)(hj:j<k):cT (row.take k) a=cT (row.take k) e:=by
 obtain⟨t,et,h⟩:=h
 have m:t∈row.take k:=a1i (i:=j) (by rw[a4u,if_pos hj];exact et)
 have e1:cT (row.take k) t.1=cT (row.take k) t.2.1:=iu _ _ _ _ (a1f (f:=λt:Tl=>(t.1,t.2.1)) m)
 rcases h with ⟨rfl,rfl⟩|⟨rfl,rfl⟩
 ·exact e1
 ·exact e1.symm
theorem Ed.r {j a e:Nat}(h:Ed row j a e)(hr:Rl row j):cT (row.take j) a≠cT (row.take j) e:=by
 obtain⟨t,et,h⟩:=h
 obtain⟨t',et',n⟩:=hr
 rw[et] at et';cases et'
 rcases h with ⟨rfl,rfl⟩|⟨rfl,rfl⟩
 ·exact n
 ·exact λq=>n q.symm
theorem K9 {k k' a b:Nat}(h:k<=k')(e:cT (row.take k) a=cT (row.take k) b):cT (row.take k') a=cT (row.take k') b:=by
 have:row.take k'=row.take k++(row.drop k).take (k' - k):=by
  rw[show k'=k+(k' - k) by omega,List.take_add];simp
 unfold cT jw lab at e ⊢
 rw[this,a0x,a5x]
 exact pI _ _ _ _ e
theorem Rq.ne {ns vs:List Nat}(h:Rq row ns vs):vs≠[]:=by
 cases vs with
 |nil=>cases ns<;>cases h
 |cons=>exact List.cons_ne_nil _ _
theorem Rq.c {k:Nat}:∀{ns vs:List Nat} {x y:Nat},Rq row ns vs->vs.head?=some x->vs.getLast?=some y->(∀j∈ns,j<k)->cT (row.take k) x=cT (row.take k) y
 |[],[v],x,y,_,h1,h2,_=>by cases h1;cases h2;rfl
 |[],[],_,_,h,_,_,_=>h.elim
 |[],_::_::_,_,_,h,_,_,_=>h.elim
 |_::_,[],_,_,h,_,_,_=>h.elim
 |_::_,[_],_,_,h,_,_,_=>h.elim
 |j::ns,a::e::vs,x,y,⟨h,t⟩,h1,h2,hk=>by
  cases h1
  rw[a2w] at h2
  exact (h.c (hk j a0e)).trans (t.c rfl h2 λi hi=>hk i (a0c _ hi))
theorem Rq.snoc {j e:Nat}:∀{ns vs:List Nat} {a:Nat},Rq row ns vs->vs.getLast?=some a->Ed row j a e->Rq row (ns++[j]) (vs++[e])
 |[],[v],a,_,h2,h=>by cases h2;exact⟨h,trivial⟩
 |[],[],_,h,_,_=>h.elim
 |[],_::_::_,_,h,_,_=>h.elim
 |_::_,[],_,h,_,_=>h.elim
 |_::_,[_],_,h,_,_=>h.elim
 |i::ns,b::f::vs,a,⟨h,t⟩,h2,he=>by
  rw[a2w] at h2
  exact⟨h,t.snoc h2 he⟩
theorem Rq.rev:∀{ns vs:List Nat},Rq row ns vs->Rq row ns.reverse vs.reverse
 |[],[v],_=>trivial
 |[],[],h=>h.elim
 |[],_::_::_,h=>h.elim
 |_::_,[],h=>h.elim
 |_::_,[_],h=>h.elim
 |j::ns,a::e::vs,⟨h,t⟩=>by
  rw[a3x,a3x]
  exact (Rq.rev t).snoc (by rw[a5d];rfl) h.sym
theorem Rq.split {J:Nat}:∀{ns vs:List Nat},Rq row ns vs->J∈ns->∃A B VA VB a b,ns=A++J::B/\vs=VA++VB/\Rq row A VA/\Rq row B VB/\J∉A/\VA.getLast?=some a/\VB.head?=some b/\Ed row J a b
 |[],_,_,h=>by cases h
 |_::_,[],h,_=>h.elim
 |_::_,[_],h,_=>h.elim
 |j::ns,a::e::vs,⟨h,t⟩,hJ=>by
  by_cases q:j=J
  ·subst q
   exact⟨[],ns,[a],e::vs,a,e,rfl,rfl,trivial,t,a2q,rfl,rfl,h⟩
  ·obtain⟨A,B,VA,VB,a',b',e1,e2,r1,r2,n,l1,l2,hE⟩:=t.split ((a0s.mp hJ).resolve_left λz=>q z.symm)
   obtain⟨w,VA',rfl⟩:∃w VA',VA=w::VA':=by
    cases VA with
    |nil=>cases l1
    |cons w VA'=>exact⟨w,VA',rfl⟩
   have:w=e:=by rw[a3n] at e2;exact (List.cons.inj e2).1.symm
   subst this
   refine⟨j::A,B,a::w::VA',VB,a',b',by rw[e1];rfl,by rw[e2];rfl,⟨h,r1⟩,r2,λz=>?_,by rw[a2w];exact l1,l2,hE⟩
   rcases a0s.mp z with z|z
   ·exact q z.symm
   ·exact n z
theorem Rq.split1 {J:Nat}{ns vs:List Nat}(h:Rq row ns vs)(hJ:J∈ns)(nd:vs.Nodup):∃A B VA VB a b,ns=A++J::B/\vs=VA++VB/\Rq row A VA/\Rq row B VB/\J∉A/\J∉B/\VA.getLast?=some a/\VB.head?=some b/\Ed row J a b:=by
 obtain⟨A,B,VA,VB,a,b,e1,e2,r1,r2,n,l1,l2,hE⟩:=h.split hJ
 refine⟨A,B,VA,VB,a,b,e1,e2,r1,r2,n,λz=>?_,l1,l2,hE⟩
 obtain⟨A',B',V1,V2,c,d,_,e4,_,_,_,l3,l4,hE'⟩:=r2.split z
 subst e2
 have ha:a∈VA:=a5i l1
 have hc:c∈VB:=by rw[e4];exact a1b _ (a5i l3)
 have hd:d∈VB:=by rw[e4];exact a0o _ (List.mem_of_head? l4)
 have dj:=(a1t.mp nd).2.2
 rcases hE.two hE' with ⟨q,_⟩|⟨q,_⟩
 ·exact dj a ha c hc q
 ·exact dj a ha d hd q
theorem CU {ns A B:List Nat}{m:Nat}(h:∀j∈ns,j<m+1)(e:ns=A++m::B)(hA:m∉A)(hB:m∉B):(∀j∈A,j<m)/\∀j∈B,j<m:=by
 refine⟨λj hj=>?_,λj hj=>?_⟩
 ·have:=h j (by rw[e];exact a1b _ hj)
  have:j≠m:=λq=>hA (q▸hj)
  omega
 ·have:=h j (by rw[e];exact a0o _ (a0c _ hj))
  have:j≠m:=λq=>hB (q▸hj)
  omega
theorem kG {VA VB:List Nat}{x:Nat}(h:(VA++VB).head?=some x)(n:VA≠[]):VA.head?=some x:=by
 cases VA with
 |nil=>exact absurd rfl n
 |cons=>exact h
theorem qJ {VA VB:List Nat}{x:Nat}(h:(VA++VB).getLast?=some x)(n:VB≠[]):VB.getLast?=some x:=by
 rw[List.getLast?_append] at h
 cases q:VB.getLast? with
 |none=>exact absurd (List.getLast?_eq_none_iff.mp q) n
 |some y=>rw[q] at h;exact h
theorem Rq.apart {m:Nat}{ns vs:List Nat}{x y:Nat}(h:Rq row ns vs)(nd:vs.Nodup)(hx:vs.head?=some x)(hy:vs.getLast?=some y)(hm:m∈ns)(hl:∀j∈ns,j<m+1)(hr:Rl row m):cT (row.take m) x≠cT (row.take m) y:=by
 obtain⟨A,B,VA,VB,a,b,e1,e2,r1,r2,n1,n2,l1,l2,hE⟩:=h.split1 hm nd
 obtain⟨b1,b2⟩:=CU hl e1 n1 n2
 subst e2
 have k1:=r1.c (kG hx r1.ne) l1 b1
 have k2:=r2.c l2 (qJ hy r2.ne) b2
 have:=hE.r hr
 rw[k1,←k2];exact this
theorem Rq.uniq:∀(m:Nat) {ns ns' vs vs':List Nat} {x y:Nat},Rq row ns vs->Rq row ns' vs'->vs.Nodup->vs'.Nodup->vs.head?=some x->vs'.head?=some x->vs.getLast?=some y->vs'.getLast?=some y->(∀j∈ns,j<m/\Rl row j)->(∀j∈ns',j<m/\Rl row j)->ns=ns'
 |0,ns,ns',vs,vs',x,y,_,_,_,_,_,_,_,_,l,l'=>by
  have e:∀{q:List Nat},(∀j∈q,j<0/\Rl row j)->q=[]:=λ{q} h=>by
   cases q with
   |nil=>rfl
   |cons j _=>exact absurd (h j a0e).1 (a2p _)
  rw[e l,e l']
 |m+1,ns,ns',vs,vs',x,y,h,h',nd,nd',hx,hx',hy,hy',l,l'=>by
  have L:∀{q:List Nat},(∀j∈q,j<m+1/\Rl row j)->m∉q->∀j∈q,j<m/\Rl row j:=λ{q} h n j hj=>by
   have:=h j hj
   have:j≠m:=λz=>n (z▸hj)
   exact⟨by omega,(h j hj).2⟩
  by_cases hm:m∈ns
  ·have ap:=h.apart nd hx hy hm (λj hj=>(l j hj).1) (l m hm).2
   have hm':m∈ns':=by
    by_cases q:m∈ns'
    ·exact q
    ·exact absurd (h'.c hx' hy' λj hj=>(L l' q j hj).1) ap
   obtain⟨A,B,VA,VB,a,b,e1,e2,r1,r2,n1,n2,l1,l2,hE⟩:=h.split1 hm nd
   obtain⟨A',B',VA',VB',a',b',e1',e2',r1',r2',n1',n2',l1',l2',hE'⟩:=h'.split1 hm' nd'
   obtain⟨b1,b2⟩:=CU (λj hj=>(l j hj).1) e1 n1 n2
   obtain⟨b1',b2'⟩:=CU (λj hj=>(l' j hj).1) e1' n1' n2'
   subst e2 e2'
   have k1:=r1.c (kG hx r1.ne) l1 b1
   have k1':=r1'.c (kG hx' r1'.ne) l1' b1'
   have ne:=hE.r (l m hm).2
   rcases hE.two hE' with ⟨rfl,rfl⟩|⟨rfl,rfl⟩
   ·have a1:=Rq.uniq m r1 r1' (a1t.mp nd).1 (a1t.mp nd').1 (kG hx r1.ne) (kG hx' r1'.ne) l1 l1' (λj hj=>⟨b1 j hj,(l j (by rw[e1];exact a1b _ hj)).2⟩) λj hj=>⟨b1' j hj,(l' j (by rw[e1'];exact a1b _ hj)).2⟩
    have a2:=Rq.uniq m r2 r2' (a1t.mp nd).2.1 (a1t.mp nd').2.1 l2 l2' (qJ hy r2.ne) (qJ hy' r2'.ne) (λj hj=>⟨b2 j hj,(l j (by rw[e1];exact a0o _ (a0c _ hj))).2⟩) λj hj=>⟨b2' j hj,(l' j (by rw[e1'];exact a0o _ (a0c _ hj))).2⟩
    rw[e1,e1',a1,a2]
   ·exact absurd (k1.symm.trans k1') ne
  ·have hm':m∉ns':=λq=>by
    have ap:=h'.apart nd' hx' hy' q (λj hj=>(l' j hj).1) (l' m q).2
    exact ap (h.c hx hy λj hj=>(L l hm j hj).1)
   exact Rq.uniq m h h' nd nd' hx hx' hy hy' (L l hm) (L l' hm')
theorem Rq.when {ns vs:List Nat}{x y k:Nat}(h:Rq row ns vs)(nd:vs.Nodup)(hx:vs.head?=some x)(hy:vs.getLast?=some y)(hr:∀j∈ns,Rl row j):cT (row.take k) x=cT (row.take k) y↔∀j∈ns,j<k:=by
 refine⟨λe=>?_,λhk=>h.c hx hy hk⟩
 have main:∀(d m:Nat),m<=k+d->(∀j∈ns,j<m)->∀j∈ns,j<k:=λd=>by
  induction d with
  |zero=>intro m hm hl j hj;have:=hl j hj;omega
  |succ d ih=>
   intro m hm hl
   rcases Nat.lt_or_ge k m with q|q
   ·obtain⟨m',rfl⟩:∃m',m=m'+1:=⟨m - 1,by omega⟩
    by_cases hm':m'∈ns
    ·exact absurd (K9 (by omega) e) (h.apart nd hx hy hm' hl (hr _ hm'))
    ·exact ih m' (by omega) λj hj=>by
      have:=hl j hj
      have:j≠m':=λz=>hm' (z▸hj)
      omega
   ·intro j hj;have:=hl j hj;omega
 obtain⟨m,hm⟩:∃m,∀j∈ns,j<m:=⟨row.length,λj hj=>by obtain⟨t,e,_⟩:=hr j hj;exact (a0j.mp e).1⟩
 exact main m m (by omega) hm
end
end Dp
end
section
namespace Dp
open PySem L2 Fo Dp
theorem xn {n x z:Nat}(hx:x<n)(hz:z<n):cz [.int n,.tup [.int x,.int z]]=some (.v (.bl true)):=by
 have a0:L2.c6 [PV.int (x:Int),.int (z:Int)] 0=some (.int x):=rfl
 have a1:L2.c6 [PV.int (x:Int),.int (z:Int)] 1=some (.int z):=rfl
 have k2:((2:Nat):Int)=2:=rfl
 have t1:decide ((0:Int)<=(x:Int)/\(x:Int)<(n:Int))=true:=decide_eq_true ⟨by omega,by omega⟩
 have t2:decide ((0:Int)<=(z:Int)/\(z:Int)<(n:Int))=true:=decide_eq_true ⟨by omega,by omega⟩
 simp![oz,iY,k2,a0,a1,tC,t1,t2]
noncomputable def Re (o:Option Nat):PV:=o.elim .non λn=>.int (n:Int)
noncomputable def qW (ts:List (Option Nat)):List PV:=ts.map Re
theorem F8 (ts:List (Option Nat)):(qW ts).length=ts.length:=a0i ..
theorem GV (ts:List (Option Nat))(i k:Nat):(qW ts).set i (.int (k:Int))=qW (ts.set i (some k)):=by
 unfold qW;rw[List.map_set];rfl
noncomputable def Bc (num:Nat)(us us':List Nat)(acc:List (Option Nat))(k:Nat):List (Option Nat):=if up us' k=up us k then acc else acc.set k (some num)
noncomputable def tZ (num:Nat)(us us':List Nat)(ks:List Nat)(acc:List (Option Nat)):List (Option Nat):=ks.foldl (Bc num us us') acc
theorem td {num:Nat}{us us':List Nat}{acc:List (Option Nat)}{k:Nat}:(Bc num us us' acc k).length=acc.length:=by
 unfold Bc;split
 ·rfl
 ·rw[a1l]
theorem mK {num:Nat}{us us':List Nat}:∀(ks:List Nat) (acc:List (Option Nat)),(tZ num us us' ks acc).length=acc.length
 |[],_=>rfl
 |k::ks,acc=>by
  show (tZ num us us' ks (Bc num us us' acc k)).length=_
  rw[mK ks,td]
theorem Ai {n num:Nat}{us us':List Nat}{i:Nat}{b:FS}{R:List (Option Nat)->Option Sl->ao}(hset:∀p acc z,gN i p (R acc z)=some (R acc (some (.val p))))
  (hb:∀acc k,k<n->acc.length=n->b (R acc (some (.val (.int (k:Nat)))))=.nx (R (Bc num us us' acc k) (some (.val (.int (k:Nat)))))):∀(ks:List Nat) (acc:List (Option Nat)) (z:Option Sl),(∀k∈ks,k<n)->acc.length=n →
  ∃z',bZ (gN i) b (af ks) (R acc z)=.nx (R (tZ num us us' ks acc) z')
 |[],acc,z,_,_=>⟨z,rfl⟩
 |k::ks,acc,z,hk,ha=>by
  obtain⟨z',e⟩:=Ai hset hb ks (Bc num us us' acc k) (some (.val (.int (k:Nat)))) (λq hq=>hk q (a0c _ hq)) (by rw[td];exact ha)
  refine⟨z',?_⟩
  show _=Out.nx (R (tZ num us us' ks (Bc num us us' acc k)) z')
  rw[←e,cW,eN]
  have h1:=hset (nI k) acc z
  have h2:=hb acc k (hk k a0e) ha
  rw[h1]
  have h2:b (R acc (some (.val (nI k))))=_:=h2
  simp only[ut,uc,h2]
noncomputable def tU (us ms:List Nat)(p:Nat×Nat):List Nat:=dU "size" "none" us ms (.join p.1 p.2)
noncomputable def tM (us ms:List Nat)(p:Nat×Nat):List Nat:=dM "size" us ms (.join p.1 p.2)
noncomputable def rT:List (Nat×Nat)->Nat->List Nat->List Nat->List (Option Nat)->List Nat×List Nat×List (Option Nat)
 |[],_,us,ms,ts=>(us,ms,ts)
 |p::r,k,us,ms,ts=>rT r (k+1) (tU us ms p) (tM us ms p) (tZ k us (tU us ms p) (a0l us.length) ts)
theorem o7:("none" : Str)∈cr:=by decide
theorem tF:("size" : Str)∈Fv:=by decide
theorem wE {n:Nat}{us ms:List Nat}(S:Sto n us ms){p:Nat×Nat}(h:p.1<n/\p.2<n):Sto n (tU us ms p) (tM us ms p):=Cc S o7 h
theorem EI {n:Nat}:∀(row:List (Nat×Nat)) (k:Nat) (us ms:List Nat) (ts:List (Option Nat)),Sto n us ms->ts.length=n->(∀p∈row,p.1<n/\p.2<n)->Sto n (rT row k us ms ts).1 (rT row k us ms ts).2.1/\(rT row k us ms ts).2.2.length=n
 |[],_,_,_,_,S,ht,_=>⟨S,ht⟩
 |p::r,k,us,ms,ts,S,ht,hr=>EI r (k+1) _ _ _ (wE S (hr p a0e)) (by rw[mK];exact ht) λq hq=>hr q (a0c _ hq)
theorem st2 (j y:Str)(us ms:List Nat):bE (qR j y us ms) (.int 2)=some (.fz (.tup (af us))):=rfl
theorem ue {n:Nat}(h2:n<=40){s1:Option Sl}:∀(row:List (Nat×Nat)) (k:Nat) (us ms:List Nat) (ts:List (Option Nat)) (z4 z5 z6 z7 z8 z9 z10:Option Sl),Sto n us ms->ts.length=n->(∀p∈row,p.1<n/\p.2<n) →
  ∃w4 w5 w6 w7 w8 w9 w10,bZ (iH 2 (gC (gN 4) (gC (iH 2 (gC (gN 5) (gC (gN 6) g0))) g0))) dL (eS k (j6 row)) [some (.val (.int n)),s1,some (.val (qR "size" "none" us ms)),some (.own (qW ts)),z4,z5,z6,z7,z8,z9,z10] =
   .nx [some (.val (.int n)),s1,some (.val (qR "size" "none" (rT row k us ms ts).1 (rT row k us ms ts).2.1)),some (.own (qW (rT row k us ms ts).2.2)),w4,w5,w6,w7,w8,w9,w10]
 |[],k,us,ms,ts,z4,z5,z6,z7,z8,z9,z10,_,_,_=>⟨z4,z5,z6,z7,z8,z9,z10,rfl⟩
 |(x,z)::row,k,us,ms,ts,z4,z5,z6,z7,z8,z9,z10,S,ht,hr=>by
  have h:=hr (x,z) a0e
  have S':=wE S h
  have ej:=Gf S tF o7 h.1 h.2
  obtain⟨w10,el⟩:=Ai (n:=n) (num:=k) (us:=us) (us':=tU us ms (x,z)) (i:=10) (b:=cs)
   (R:=λacc q=>[some (.val (.int n)),s1,some (.val (qR "size" "none" us ms)),some (.own (qW acc)),some (.val (.int k)),some (.val (.int x)),some (.val (.int z)),some (.val (qR "size" "none" (tU us ms (x,z)) (tM us ms (x,z)))),some (.val (dA us (.join x z))),some (.val (.int (dS "none" us (.join x z):Nat))),q]) (λp acc q=>rfl) (λacc q hq ha=>by
    have l1:q<us.length:=by rw[S.lu];exact hq
    have l2:q<(tU us ms (x,z)).length:=by rw[S'.lu];exact hq
    have d:decide ((up (tU us ms (x,z)) q:Int)=(up us q:Int))=decide (up (tU us ms (x,z)) q=up us q):=decide_eq_decide.mpr (by omega)
    unfold Bc
    by_cases e:up (tU us ms (x,z)) q=up us q
    ·rw[if_pos e]
     simp![cs,st2,au l1,au l2,d,decide_eq_true e]
    ·rw[if_neg e]
     simp![cs,st2,au l1,au l2,d,decide_eq_false e,F8,eY (show q<acc.length by omega),GV]) (a0l us.length) ts z10 (λq hq=>by have:=a0z.mp hq;rw[S.lu] at this;exact this) ht
  obtain⟨w4,w5,w6,w7,w8,w9,v10,e⟩:=ue h2 (s1:=s1) row (k+1) (tU us ms (x,z)) (tM us ms (x,z)) (tZ k us (tU us ms (x,z)) (a0l us.length) ts) (some (.val (.int k))) (some (.val (.int x))) (some (.val (.int z))) (some (.val (qR "size" "none" (tU us ms (x,z)) (tM us ms (x,z))))) (some (.val (dA us (.join x z)))) (some (.val (.int (dS "none" us (.join x z):Nat)))) w10 S' (by rw[mK];exact ht) λq hq=>hr q (a0c _ hq)
  refine⟨w4,w5,w6,w7,w8,w9,v10,?_⟩
  rw[show rT ((x,z)::row) k us ms ts=rT row (k+1) (tU us ms (x,z)) (tM us ms (x,z)) (tZ k us (tU us ms (x,z)) (a0l us.length) ts) from rfl,←e,show eS k (j6 ((x,z)::row))=.tup [.int k,.tup [.int x,.int z]]::eS (k+1) (j6 row) from rfl,eN]
  have ej:gM [qR "size" "none" us ms,.int x,.int z]=some (.v (.tup [qR "size" "none" (tU us ms (x,z)) (tM us ms (x,z)),dA us (.join x z),.int (dS "none" us (.join x z):Nat)])):=ej
  rw[S.lu] at el ⊢
  simp![dL,ej,K1 (show n<=100000 by omega),el]
theorem MN:∀n:Nat,(a0r n [PV.non]).flatten=qW (a0r n none)
 |0=>rfl
 |n+1=>by rw[a2x,a3w,MN n];rfl
theorem MH {n:Nat}(h:n<=1000):iI (.lst [.non]) (.int n)=some (.nw (qW (a0r n none))):=by
 show (if ((n:Int)<=1000/\-1000<=(n:Int)/\[PV.non].length<=100) then some (RV.nw (a0r (n:Int).toNat [PV.non]).flatten) else none)=_
 rw[if_pos ⟨by omega,by omega,by decide⟩,a1o,MN]
noncomputable def rU (n:Nat)(row:List (Nat×Nat)):List Nat:=(rT row 0 (a0l n) (a0r n (OD "size")) (a0r n none)).1
noncomputable def rW (n:Nat)(row:List (Nat×Nat)):List (Option Nat):=(rT row 0 (a0l n) (a0r n (OD "size")) (a0r n none)).2.2
theorem AA {n:Nat}(h1:1<=n)(h2:n<=40):Sto n (a0l n) (a0r n (OD "size")):=⟨pE h1 h2,a0v,a1p⟩
noncomputable def lX (ts:List (Option Nat))(x:Nat):Option Nat:=(ts[x]?).join
structure Tin (k:Nat)(us:List Nat)(ts:List (Option Nat)):Prop where
 hd:∀x,x<us.length->(up us x=x↔lX ts x=none)
 lt:∀x t,lX ts x=some t->t<k
 le:∀x,x<us.length->up us x≠x->∀t',lX ts (up us x)=some t'->∃t,lX ts x=some t/\t<t'
theorem GR {ts:List (Option Nat)}{u k x:Nat}(hu:u<ts.length):lX (ts.set u (some k)) x=if x=u then some k else lX ts x:=by
 unfold lX
 rw[a2d]
 by_cases h:u=x
 ·subst h;rw[if_pos rfl,if_pos hu,if_pos rfl];rfl
 ·rw[if_neg h,if_neg λz=>h z.symm]
theorem p9 {k:Nat}{us:List Nat}:∀(ks:List Nat) (ts:List (Option Nat)),tZ k us us ks ts=ts
 |[],_=>rfl
 |q::ks,ts=>by
  show tZ k us us ks (Bc k us us ts q)=ts
  rw[show Bc k us us ts q=ts from if_pos rfl,p9 ks]
theorem xW {k:Nat}{us us':List Nat}:∀(ks:List Nat) (ts:List (Option Nat)) (x:Nat),(∀q∈ks,q<ts.length)->lX (tZ k us us' ks ts) x=if x∈ks/\up us' x≠up us x then some k else lX ts x
 |[],ts,x,_=>by rw[if_neg λh=>by cases h.1];rfl
 |q::ks,ts,x,h=>by
  show lX (tZ k us us' ks (Bc k us us' ts q)) x=_
  rw[xW ks _ x λr hr=>by rw[td];exact h r (a0c _ hr)]
  have hq:=h q a0e
  have e1:lX (Bc k us us' ts q) x=if x=q/\up us' q≠up us q then some k else lX ts x:=by
   unfold Bc
   by_cases e:up us' q=up us q
   ·rw[if_pos e,if_neg λz=>z.2 e]
   ·rw[if_neg e,GR hq]
    by_cases e2:x=q
    ·rw[if_pos e2,if_pos ⟨e2,e⟩]
    ·rw[if_neg e2,if_neg λz=>e2 z.1]
  rw[e1]
  by_cases a:x∈ks/\up us' x≠up us x
  ·rw[if_pos a,if_pos ⟨a0c _ a.1,a.2⟩]
  ·rw[if_neg a]
   by_cases b:x=q/\up us' q≠up us q
   ·rw[if_pos b,if_pos ⟨by rw[b.1];exact a0e,by rw[b.1];exact b.2⟩]
   ·rw[if_neg b,if_neg λz=>?_]
    rcases a0s.mp z.1 with e|e
    ·exact b ⟨e,by rw[←e];exact z.2⟩
    ·exact a ⟨e,z.2⟩
theorem vy (us:List Nat)(x:Nat):gJ "none" us x=us:=(j8 rfl λt ht=>by simp only[jC,n7,n8,n9,Rr,if_false]).symm
theorem CI {us ms:List Nat}{p:Nat×Nat}:tU us ms p=if hd us p.1=hd us p.2 then us else Bk "size" us ms (hd us p.1) (hd us p.2):=by
 show (if hd us p.1=hd us p.2 then gJ "none" (gJ "none" us p.1) p.2 else Bk "size" (gJ "none" (gJ "none" us p.1) p.2) ms _ _)=_
 rw[vy,vy]
theorem vn {n k:Nat}{us ms:List Nat}{ts:List (Option Nat)}(S:Sto n us ms)(ht:ts.length=n){p:Nat×Nat}(h:p.1<n/\p.2<n)(T:Tin k us ts):Tin (k+1) (tU us ms p) (tZ k us (tU us ms p) (a0l us.length) ts):=by
 rw[CI]
 by_cases e:hd us p.1=hd us p.2
 ·rw[if_pos e,p9]
  exact⟨T.hd,λx t q=>a3v (T.lt x t q),T.le⟩
 ·rw[if_neg e]
  obtain⟨f,lu,lm⟩:=S
  have hx:p.1<us.length:=by omega
  have hz:p.2<us.length:=by omega
  have main:∀u v,u<us.length->v<us.length->up us u=u->up us v=v->v≠u->Tin (k+1) (us.set u v) (tZ k us (us.set u v) (a0l us.length) ts):=λu v hu hv eu ev ne=>by
   have at':∀x,lX (tZ k us (us.set u v) (a0l us.length) ts) x=if x=u then some k else lX ts x:=λx=>by
    rw[xW _ _ _ λq hq=>by have:=a0z.mp hq;omega,d6 hu]
    by_cases q:x=u
    ·rw[if_pos q,if_pos q,if_pos ⟨by rw[q];exact a0z.mpr hu,by rw[q,eu];exact ne⟩]
    ·rw[if_neg q,if_neg q,if_neg λz=>z.2 rfl]
   refine⟨λx hx=>?_,λx t=>?_,λx hx=>?_⟩
   ·rw[a1l] at hx
    rw[at',d6 hu]
    by_cases q:x=u
    ·rw[if_pos q,if_pos q,q];exact⟨λz=>absurd z ne,λz=>by cases z⟩
    ·rw[if_neg q,if_neg q];exact T.hd x hx
   ·rw[at']
    split
    ·intro z;cases z;exact a2j _
    ·intro z;exact a3v (T.lt x t z)
   ·rw[a1l] at hx
    rw[d6 hu]
    by_cases q:x=u
    ·rw[if_pos q]
     intro _ t' z
     rw[at',if_neg ne,(T.hd v hv).mp ev] at z
     cases z
    ·rw[if_neg q]
     intro hn t' z
     rw[at'] at z
     rw[at',if_neg q]
     by_cases w:up us x=u
     ·rw[if_pos w] at z
      cases z
      cases c:lX ts x with
      |none=>exact absurd ((T.hd x hx).mpr c) hn
      |some t=>exact⟨t,rfl,T.lt x t c⟩
     ·rw[if_neg w] at z
      exact T.le x hx hn t' z
  have a1:=k5 f.fst hx
  have a2:=k5 f.fst hz
  have b1:=qa f.fst hx
  have b2:=qa f.fst hz
  unfold Bk tp un
  cases stay "size" ms (hd us p.1) (hd us p.2) with
  |true=>exact main _ _ a2 a1 b2 b1 e
  |false=>exact main _ _ a1 a2 b1 b2 λz=>e z.symm
theorem zW {n:Nat}:∀(row:List (Nat×Nat)) (k:Nat) (us ms:List Nat) (ts:List (Option Nat)),Sto n us ms->ts.length=n->(∀p∈row,p.1<n/\p.2<n)->Tin k us ts->Tin (k+row.length) (rT row k us ms ts).1 (rT row k us ms ts).2.2
 |[],_,_,_,_,_,_,_,T=>T
 |p::r,k,us,ms,ts,S,ht,hr,T=>by
  have:=zW r (k+1) _ _ (tZ k us (tU us ms p) (a0l us.length) ts) (wE S (hr p a0e)) (by rw[mK];exact ht) (λq hq=>hr q (a0c _ hq)) (vn S ht (hr p a0e) T)
  rw[a0p,show k+(r.length+1)=k+1+r.length by omega]
  exact this
theorem MD (n:Nat):Tin 0 (a0l n) (a0r n none):=by
 have t0:∀x,lX (a0r n none) x=none:=λx=>by
  unfold lX
  rw[a2v]
  split<;>rfl
 have u:∀x,x<n->up (a0l n) x=x:=λx hx=>by unfold up;rw[a0m,a2k hx];rfl
 refine⟨λx hx=>⟨λ_=>t0 x,λ_=>u x (by rwa [a0v] at hx)⟩,λx t z=>(by rw[t0] at z;cases z),λx hx hn=>absurd (u x (by rwa [a0v] at hx)) hn⟩
theorem CG {n:Nat}(h1:1<=n)(h2:n<=40){row:List (Nat×Nat)}(hr:∀p∈row,p.1<n/\p.2<n):Tin row.length (rU n row) (rW n row)/\Frst (rU n row)/\(rU n row).length=n/\(rW n row).length=n:=by
 obtain⟨S,l⟩:=EI row 0 _ _ (a0r n none) (AA h1 h2) a1p hr
 have T:=zW row 0 _ _ _ (AA h1 h2) a1p hr (MD n)
 rw[a2u] at T
 exact⟨T,S.f,S.lu,l⟩
end Dp
end
section
namespace Pt
open L2 Fo Lo
theorem tD (m:Nat)(c:Nat->Nat)(x:Nat):cl (m+1) c x=cl m c x++if c m=c x then [m] else []:=by
 unfold cl
 rw[a4s,a4w]
 congr 1
 rw[a5c]
 by_cases h:c m=c x
 ·rw[if_pos (decide_eq_true h),if_pos h];rfl
 ·rw[if_neg (by rw[decide_eq_true_eq];exact h),if_neg h];rfl
end Pt
end
section
namespace Dp
open PySem L2 Fo Pt
theorem pf {us:List Nat}(f:Frst us){u t:Nat}(hu:u<us.length)(ht:t<us.length)(eu:up us u=u)(et:up us t=t)(ne:t≠u){z:Nat}(hz:z<us.length):hd (us.set u t) z=if hd us z=u then t else hd us z:=by
 have f':=nF f hu ht eu et ne
 have l':(us.set u t).length=us.length:=a1l
 have ht':hd (us.set u t) t=t:=iZ f'.fst (by omega) (by rw[d6 hu,if_neg ne];exact et)
 have main:∀{z:Nat} {l:List Nat},Way us z l->z<us.length->hd (us.set u t) z=if hd us z=u then t else hd us z:=λ{z l} w=>by
  induction w with
  | @head z e=>
   intro hz
   rw[iZ f.fst hz e]
   by_cases q:z=u
   ·subst q
    rw[if_pos rfl,←zR f'.fst (by omega),d6 hu,if_pos rfl,ht']
   ·rw[if_neg q]
    exact iZ f'.fst (by omega) (by rw[d6 hu,if_neg q];exact e)
  | @step z l n w ih=>
   intro hz
   have q:z≠u:=λq=>n (by rw[q];exact eu)
   have:=ih (f.fst.bnd z hz)
   rw[zR f.fst hz] at this
   rw[←this,←zR f'.fst (show z<(us.set u t).length by omega),d6 hu,if_neg q]
 exact main (dn f.fst hz) hz
theorem O8 {P Q X Y:Nat}:(if X=P then Q else X)=(if Y=P then Q else Y)↔X=Y\/(X=P\/X=Q)/\(Y=P\/Y=Q):=by
 by_cases h1:X=P
 ·rw[if_pos h1]
  by_cases h2:Y=P
  ·rw[if_pos h2];exact⟨λ_=>.inr ⟨.inl h1,.inl h2⟩,λ_=>rfl⟩
  ·rw[if_neg h2];exact⟨λe=>.inr ⟨.inl h1,.inr e.symm⟩,λe=>e.elim (λe=>absurd (e.symm.trans h1) h2) λe=>(e.2.resolve_left h2).symm⟩
 ·rw[if_neg h1]
  by_cases h2:Y=P
  ·rw[if_pos h2];exact⟨λe=>.inr ⟨.inr e,.inl h2⟩,λe=>e.elim (λe=>absurd (e.trans h2) h1) λe=>e.1.resolve_left h1⟩
  ·rw[if_neg h2];exact⟨.inl,λe=>e.elim id λe=>(e.1.resolve_left h1).trans (e.2.resolve_left h2).symm⟩
theorem Az {X Y A B x y a b:Nat}(ne:A≠B)(x1:X=A↔x=a)(x2:X=B↔x=b)(y1:Y=A↔y=a)(y2:Y=B↔y=b)(xy:X=Y↔x=y):((if X=B then A else X)=(if Y=B then A else Y)↔(if x=a then b else x)=(if y=a then b else y)):=by
 rw[O8,O8,x1,x2,y1,y2,xy,Or.comm (a:=x=b),Or.comm (a:=y=b)]
theorem wW {X Y A B x y a b:Nat}(ne:A≠B)(x1:X=A↔x=a)(x2:X=B↔x=b)(y1:Y=A↔y=a)(y2:Y=B↔y=b)(xy:X=Y↔x=y):((if X=A then B else X)=(if Y=A then B else Y)↔(if x=a then b else x)=(if y=a then b else y)):=by
 rw[O8,O8,x1,x2,y1,y2,xy]
noncomputable def Kl (n:Nat)(us:List Nat)(c:Nat->Nat):Prop:=∀x y,x<n->y<n->(hd us x=hd us y↔c x=c y)
theorem wD {n:Nat}{us ms:List Nat}{c:Nat->Nat}(S:Sto n us ms){p:Nat×Nat}(h:p.1<n/\p.2<n)(K:Kl n us c):Kl n (tU us ms p) (jn c p.1 p.2):=by
 rw[CI]
 have kp:=K p.1 p.2 h.1 h.2
 by_cases e:hd us p.1=hd us p.2
 ·rw[if_pos e,Fx (kp.mp e)];exact K
 ·rw[if_neg e]
  obtain⟨f,lu,lm⟩:=S
  have hx:p.1<us.length:=by omega
  have hz:p.2<us.length:=by omega
  have a1:=k5 f.fst hx
  have a2:=k5 f.fst hz
  have b1:=qa f.fst hx
  have b2:=qa f.fst hz
  intro x y lx ly
  have x1:=K x p.1 lx h.1
  have x2:=K x p.2 lx h.2
  have y1:=K y p.1 ly h.1
  have y2:=K y p.2 ly h.2
  have xy:=K x y lx ly
  unfold jn
  unfold Bk tp un
  cases stay "size" ms (hd us p.1) (hd us p.2) with
  |true=>
   show hd (us.set (hd us p.2) (hd us p.1)) x=hd (us.set (hd us p.2) (hd us p.1)) y↔_
   rw[pf f a2 a1 b2 b1 e (by omega),pf f a2 a1 b2 b1 e (by omega)]
   exact Az e x1 x2 y1 y2 xy
  |false=>
   show hd (us.set (hd us p.1) (hd us p.2)) x=hd (us.set (hd us p.1) (hd us p.2)) y↔_
   rw[pf f a1 a2 b1 b2 (λz=>e z.symm) (by omega),pf f a1 a2 b1 b2 (λz=>e z.symm) (by omega)]
   exact wW e x1 x2 y1 y2 xy
theorem yD {n:Nat}:∀(row:List (Nat×Nat)) (k:Nat) (us ms:List Nat) (ts:List (Option Nat)) (c:Nat->Nat),Sto n us ms->(∀p∈row,p.1<n/\p.2<n)->Kl n us c->Kl n (rT row k us ms ts).1 (lab row c)
 |[],_,_,_,_,_,_,_,K=>K
 |p::r,k,us,ms,ts,c,S,hr,K=>by
  rw[l6]
  exact yD r (k+1) _ _ _ _ (wE S (hr p a0e)) (λq hq=>hr q (a0c _ hq)) (wD S (hr p a0e) K)
theorem Mr {n:Nat}(h1:1<=n)(h2:n<=40):Kl n (a0l n) id:=λx y hx hy=>by
 have u:∀x,x<n->up (a0l n) x=x:=λx hx=>by unfold up;rw[a0m,a2k hx];rfl
 have f:=pE h1 h2
 rw[iZ f.fst (by rw[a0v];exact hx) (u x hx),iZ f.fst (by rw[a0v];exact hy) (u y hy)]
 exact Iff.rfl
theorem D7 {n:Nat}(h1:1<=n)(h2:n<=40){row:List (Nat×Nat)}(hr:∀p∈row,p.1<n/\p.2<n):dh n (hd (rU n row))=dh n (lab row id):=
 Pt.lots_congr (yD row 0 _ _ _ id (AA h1 h2) hr (Mr h1 h2))
end Dp
end
section
namespace Dp
open PySem L2 Fo Dp
end Dp
end
section
namespace Dp
open PySem L2 Fo Dp Lo Pt
noncomputable def fw (ls:List (List Nat)):List PV:=ls.map λl=>.tup (af l)
theorem AH (ls:List (List Nat)):(fw ls).length=ls.length:=a0i ..
theorem Ah (l:List Nat):(l.map a4b).map PV.int=af l:=by unfold af;rw[a1d];rfl
theorem wH (l:List Nat):dJ (af l)=some (l.map a4b):=by rw[←Ah,jN]
noncomputable def Rf (acc l:List Nat):List Nat:=l.foldl (λa t=>a.set t (up a t+1)) acc
noncomputable def sz (us:List Nat):List Nat:=(a0l us.length).foldl (λacc x=>Rf acc (way us x)) (a0r us.length 0)
theorem ui (ls:List (List Nat)):aJ (fw ls)=true:=oA ls
theorem xC (ls:List (List Nat)):cB (fw ls)<=1:=sj ls
theorem Bg (n:Nat)(c:Nat->Nat):(dh n c).length<=n:=by
 unfold dh
 rw[a0i]
 have:=a3a (mi c) (a0l n)
 rwa [a0v] at this
end Dp
end
section
namespace Dp
open PySem PySem.Spec L2 Fo Pt
noncomputable def tl (row:List (Nat×Nat)):List Tl:=row.map λp=>(p.1,p.2,(0:Int))
theorem KH (row:List (Nat×Nat)):jw (tl row)=row:=by
 unfold jw tl
 rw[a1d]
 exact (a1c λp _=>rfl).trans (a4x _)
theorem E4 (row:List (Nat×Nat))(k:Nat):(tl row).take k=tl (row.take k):=by unfold tl;rw[a5u]
theorem Jb (row:List (Nat×Nat)):(tl row).length=row.length:=a0i ..
theorem zL {row:List (Nat×Nat)}{j:Nat}{p:Nat×Nat}(h:row[j]?=some p):(tl row)[j]?=some (p.1,p.2,0):=by unfold tl;rw[a0q,h];rfl
theorem HJ (row:List (Nat×Nat))(k:Nat):cT ((tl row).take k)=lab (row.take k) id:=by rw[E4];unfold cT;rw[KH]
theorem NL {row:List (Nat×Nat)}{j:Nat}:Rl (tl row) j↔∃p,row[j]?=some p/\lab (row.take j) id p.1≠lab (row.take j) id p.2:=by
 unfold Rl
 rw[HJ]
 constructor
 ·rintro⟨t,e,h⟩
  unfold tl at e
  rw[a0q] at e
  obtain⟨p,e0,rfl⟩:=a0d.mp e
  exact⟨p,e0,h⟩
 ·rintro⟨p,e,h⟩
  exact⟨_,zL e,h⟩
theorem FW {n k:Nat}{us ms:List Nat}{ts:List (Option Nat)}{c:Nat->Nat}(S:Sto n us ms)(ht:ts.length=n){p:Nat×Nat}(h:p.1<n/\p.2<n)(T:Tin k us ts)(K:Kl n us c)(j:Nat):(∃x,lX (tZ k us (tU us ms p) (a0l us.length) ts) x=some j)↔(∃x,lX ts x=some j)\/(j=k/\c p.1≠c p.2):=by
 rw[CI]
 have kp:=K p.1 p.2 h.1 h.2
 by_cases e:hd us p.1=hd us p.2
 ·rw[if_pos e,p9]
  exact⟨.inl,λz=>z.elim id λz=>absurd (kp.mp e) z.2⟩
 ·rw[if_neg e]
  have ne:c p.1≠c p.2:=λz=>e (kp.mpr z)
  obtain⟨f,lu,lm⟩:=S
  have hx:p.1<us.length:=by omega
  have hz:p.2<us.length:=by omega
  have main:∀u v,u<us.length->up us u=u->v≠u->((∃x,lX (tZ k us (us.set u v) (a0l us.length) ts) x=some j)↔(∃x,lX ts x=some j)\/(j=k/\c p.1≠c p.2)):=λu v hu eu nv=>by
   have at':∀x,lX (tZ k us (us.set u v) (a0l us.length) ts) x=if x=u then some k else lX ts x:=λx=>by
    rw[xW _ _ _ λq hq=>by have:=a0z.mp hq;omega,d6 hu]
    by_cases q:x=u
    ·rw[if_pos q,if_pos q,if_pos ⟨by rw[q];exact a0z.mpr hu,by rw[q,eu];exact nv⟩]
    ·rw[if_neg q,if_neg q,if_neg λz=>z.2 rfl]
   have tu:=(T.hd u hu).mp eu
   constructor
   ·rintro⟨x,q⟩
    rw[at'] at q
    by_cases w:x=u
    ·rw[if_pos w] at q;cases q;exact .inr ⟨rfl,ne⟩
    ·rw[if_neg w] at q;exact .inl ⟨x,q⟩
   ·rintro (⟨x,q⟩|⟨rfl,_⟩)
    ·refine⟨x,?_⟩
     rw[at',if_neg λw=>by rw[w,tu] at q;cases q]
     exact q
    ·exact⟨u,by rw[at',if_pos rfl]⟩
  have a1:=k5 f.fst hx
  have a2:=k5 f.fst hz
  have b1:=qa f.fst hx
  have b2:=qa f.fst hz
  unfold Bk tp un
  cases stay "size" ms (hd us p.1) (hd us p.2) with
  |true=>exact main _ _ a2 b2 e
  |false=>exact main _ _ a1 b1 λz=>e z.symm
theorem D5 {n:Nat}(j:Nat):∀(row:List (Nat×Nat)) (k:Nat) (us ms:List Nat) (ts:List (Option Nat)) (c:Nat->Nat),Sto n us ms->ts.length=n->(∀p∈row,p.1<n/\p.2<n)->Tin k us ts->Kl n us c →
  ((∃x,lX (rT row k us ms ts).2.2 x=some j)↔(∃x,lX ts x=some j)\/∃i p,row[i]?=some p/\j=k+i/\lab (row.take i) c p.1≠lab (row.take i) c p.2)
 |[],k,us,ms,ts,c,_,_,_,_,_=>⟨.inl,λz=>z.elim id λ⟨i,p,e,_⟩=>by simp at e⟩
 |p::r,k,us,ms,ts,c,S,ht,hr,T,K=>by
  have hp:=hr p a0e
  have ih:=D5 j r (k+1) _ _ (tZ k us (tU us ms p) (a0l us.length) ts) (jn c p.1 p.2) (wE S hp) (by rw[mK];exact ht) (λq hq=>hr q (a0c _ hq)) (vn S ht hp T) (wD S hp K)
  refine ih.trans ?_
  rw[FW S ht hp T K]
  constructor
  ·rintro ((h|⟨rfl,h⟩)|⟨i,q,e,rfl,h⟩)
   ·exact .inl h
   ·exact .inr ⟨0,p,rfl,rfl,h⟩
   ·exact .inr ⟨i+1,q,e,by omega,h⟩
  ·rintro (h|⟨i,q,e,rfl,h⟩)
   ·exact .inl (.inl h)
   ·cases i with
    |zero=>cases e;exact .inl (.inr ⟨rfl,h⟩)
    |succ i=>exact .inr ⟨i,q,e,by omega,h⟩
theorem wU {n:Nat}(h1:1<=n)(h2:n<=40){row:List (Nat×Nat)}(hr:∀p∈row,p.1<n/\p.2<n)(j:Nat):(∃x,lX (rW n row) x=some j)↔Rl (tl row) j:=by
 refine (D5 j row 0 _ _ _ id (AA h1 h2) a1p hr (MD n) (Mr h1 h2)).trans ?_
 rw[NL]
 constructor
 ·rintro (⟨x,q⟩|⟨i,p,e,rfl,h⟩)
  ·unfold lX at q
   rw[a2v] at q
   split at q<;>cases q
  ·rw[a2u];exact⟨p,e,h⟩
 ·rintro⟨p,e,h⟩
  exact .inr ⟨j,p,e,by omega,h⟩
theorem JT (j:Nat)(ts:List (Option Nat)):pin (.int (j:Nat)) (qW ts)=true↔∃x,lX ts x=some j:=by
 unfold pin qW
 rw[a3c,a3m]
 constructor
 ·rintro⟨o,ho,e⟩
  cases o with
  |none=>cases e
  |some i=>
   have e:decide ((i:Int)=(j:Int))=true:=e
   have:i=j:=by have:=of_decide_eq_true e;omega
   subst this
   obtain⟨x,hx,ex⟩:=a3k ho
   exact⟨x,by unfold lX;rw[a0f hx,ex];rfl⟩
 ·rintro⟨x,e⟩
  unfold lX at e
  cases q:ts[x]? with
  |none=>rw[q] at e;cases e
  |some o=>
   rw[q] at e
   refine⟨o,a1i q,?_⟩
   rw[show o=some j from e]
   exact decide_eq_true rfl
theorem sJ:∀ts:List (Option Nat),aJ (qW ts)=true/\cB (qW ts)=0
 |[]=>by unfold qW;exact⟨by rw[a2o,aJ],by rw[a2o,cB]⟩
 |o::ts=>by
  obtain⟨h1,h2⟩:=sJ ts
  unfold qW at h1 h2 ⊢
  rw[a1g,aJ,cB,h1,h2]
  cases o<;>exact⟨rfl,rfl⟩
noncomputable abbrev AU (row:List (Nat×Nat)):List Nat:=cJ (tl row) row.length
theorem Hj {row:List (Nat×Nat)}{j:Nat}{p:Nat×Nat}(h:row[j]?=some p):L2.c6 (j6 row) (j:Int)=some (.tup [.int (p.1:Nat),.int (p.2:Nat)]):=eU (by unfold j6;rw[a0q,h];rfl)
noncomputable def wI:PV->Nat
 |.tup (.int j::_)=>j.toNat
 |_=>0
theorem xb (j:Nat)(s:Int):wI (CM j s)=j:=a1o j
theorem Trk.rq {row:List Tl}{js:List Nat}{x e:Nat}{r:List PV}{vs:List Nat}(t:Trk (bG row js) x e r vs):Rq row (r.map wI) vs/\vs.head?=some x/\vs.getLast?=some e/\∀j∈r.map wI,j∈js:=by
 induction t with
 |nil=>exact⟨trivial,rfl,rfl,λ_ h=>by cases h⟩
 | @snoc a e l r vs t q ih=>
  obtain⟨h1,h2,h3,h4⟩:=ih
  obtain⟨j,s,u,hj,et,rfl,hs⟩:=fu q
  have ed:Ed row j a e:=⟨u,et,by rcases hs with ⟨_,h⟩|⟨_,h⟩;exact .inl h;exact .inr h⟩
  rw[a0x]
  refine⟨by rw[a1g,xb];exact h1.snoc h3 ed,?_,by simp,λi hi=>?_⟩
  ·cases vs with
   |nil=>cases h2
   |cons v vs=>exact h2
  ·rcases a0w.mp hi with hi|hi
   ·exact h4 i hi
   ·rw[a1g,xb] at hi
    rw[a0g.mp hi];exact hj
structure Road (row:List (Nat×Nat))(x y:Nat)(ns:List Nat):Prop where
 ex:∃vs,Rq (tl row) ns vs/\vs.Nodup/\vs.head?=some x/\vs.getLast?=some y
 rl:∀j∈ns,j<row.length/\Rl (tl row) j
theorem Road.uniq {row:List (Nat×Nat)}{x y:Nat}{ns ns':List Nat}(a:Road row x y ns)(b:Road row x y ns'):ns=ns':=by
 obtain⟨vs,h1,h2,h3,h4⟩:=a.ex
 obtain⟨vs',k1,k2,k3,k4⟩:=b.ex
 exact h1.uniq row.length k1 h2 k2 h3 k3 h4 k4 a.rl b.rl
theorem Road.when {row:List (Nat×Nat)}{x y k:Nat}{ns:List Nat}(a:Road row x y ns):lab (row.take k) id x=lab (row.take k) id y↔∀j∈ns,j<k:=by
 obtain⟨vs,h1,h2,h3,h4⟩:=a.ex
 rw[←HJ]
 exact h1.when h2 h3 h4 λj hj=>(a.rl j hj).2
theorem Ow {r:List PV}(h:∀l∈r,∃j s,l=CM j s):m8 (iH 2 (gC (gN 0) (gC (gN 1) g0))) fy bK [none,none] r=some (af (r.map wI)):=by
 have:=ny (t:=iH 2 (gC (gN 0) (gC (gN 1) g0))) (f:=bK) (ρ:=[none,none]) (λl=>.int ((wI l:Nat):Int)) (its:=r) λl hl=>by
  obtain⟨j,s,rfl⟩:=h l hl
  rw[xb]
  simp![CM,bK]
 rw[this];unfold af;rw[a1d];rfl
theorem Kj {y:Nat}{K:og}{q:List PV}(h:(K.find? λt=>decide (t.1=y))=some (y,q)):mh (.dct (rK K) (rP K)) [.int (y:Nat),.non]=some (.fz (.tup q)):=by
 show ((fJ (.int (y:Nat))).bind λk=>match mx (rK K) (rP K) k with|some p=>some (RV.fz p)|none=>if KK .non=true then none else some (.fz .non))=_
 rw[aK,a4c,pR,h]
 rfl
noncomputable def tg (row:List (Nat×Nat))(x y m:Nat):Bool:=decide (lab (row.take m) id x=lab (row.take m) id y)
theorem C3 {n:Nat}{c:Nat->Nat}{x y:Nat}(hx:x<n):(dh n c).any (λl=>decide (x∈l)&&decide (y∈l))=(decide (c x=c y)&&decide (y<n)):=by
 rw[a2h,a3m,a0b,decide_eq_true_iff,decide_eq_true_iff]
 constructor
 ·rintro⟨l,hl,h⟩
  rw[a0b,decide_eq_true_iff,decide_eq_true_iff] at h
  obtain⟨z,hz,rfl⟩:=mem_lots.mp hl
  exact⟨(mem_cl.mp h.1).2.trans (mem_cl.mp h.2).2.symm,(mem_cl.mp h.2).1⟩
 ·rintro⟨h,hy⟩
  refine⟨cl n c x,mem_lots.mpr ⟨x,hx,rfl⟩,?_⟩
  rw[a0b,decide_eq_true_iff,decide_eq_true_iff]
  exact⟨mem_cl.mpr ⟨hx,rfl⟩,mem_cl.mpr ⟨hy,h.symm⟩⟩
end Dp
end
section
namespace Dp
open PySem PySem.Spec L2 Fo Pt
section
variable (ties:List Tl)
noncomputable def wt (k:Nat):Int:=(ties[k]?.map λt=>t.2.2).getD 0
noncomputable def ER (k:Nat):Nat×Nat:=(ties[k]?.map λt=>(t.1,t.2.1)).getD (0,0)
noncomputable def od:List Nat:=Dq (wt ties) ties.length
noncomputable def sR:List (Nat×Nat):=(od ties).map (ER ties)
end
variable {ties:List Tl}
theorem mL {k:Nat}{t:Tl}(h:ties[k]?=some t):wt ties k=t.2.2:=by unfold wt;rw[h];rfl
theorem qN {k:Nat}{t:Tl}(h:ties[k]?=some t):ER ties k=(t.1,t.2.1):=by unfold ER;rw[h];rfl
theorem od_perm:(od ties).Perm (a0l ties.length):=mY _ _
theorem ud:(od ties).length=ties.length:=Cu _ _
theorem Es:(od ties).Nodup:=od_perm.nodup_iff.mpr List.nodup_range
theorem od_mem {k:Nat}:k∈od ties↔k<ties.length:=by rw[od_perm.mem_iff,a0z]
theorem lL:(sR ties).length=ties.length:=by unfold sR;rw[a0i,ud]
noncomputable def Bn (ties:List Tl)(i j:Nat):Prop:=wt ties i<wt ties j\/wt ties i=wt ties j/\i<j
theorem Cb:(od ties).Pairwise (Bn ties):=by
 have nd:((a0l ties.length).map λk=>[wt ties k,(k:Int)]).Nodup:=List.nodup_range.map _ λa b h e=>h (by
  have:=(List.cons.inj (List.cons.inj e).2).1
  omega)
 have u:=(EZ nd).2
 rw[a3y] at u
 refine List.Pairwise.imp_of_mem (λ{i j} hi hj h=>?_) u
 have hi':=od_mem.mp (show i∈od ties from hi)
 have hj':=od_mem.mp (show j∈od ties from hj)
 have ge:∀q,q<ties.length->((a0l ties.length).map λk=>[wt ties k,(k:Int)]).getD q []=[wt ties q,(q:Int)]:=λq hq=>by
  rw[a0m,a0q,a2k hq];rfl
 rw[ge i hi',ge j hj',km] at h
 unfold Bn
 split at h
 ·next e=>
  rw[km] at h
  split at h
  ·rw[yw] at h;cases h
  ·exact .inr ⟨e,by have:=of_decide_eq_true h;omega⟩
 ·exact .inl (of_decide_eq_true h)
theorem nR {P:Nat}(h:P<ties.length):∃k t,(od ties)[P]?=some k/\k<ties.length/\ties[k]?=some t/\(sR ties)[P]?=some (t.1,t.2.1):=by
 have hP:P<(od ties).length:=by rw[ud];exact h
 have hk:(od ties)[P]<ties.length:=od_mem.mp (a1w hP)
 refine⟨(od ties)[P],ties[(od ties)[P]],a0f hP,hk,a0f hk,?_⟩
 unfold sR
 rw[a0q,a0f hP]
 show some (ER ties _)=_
 rw[qN (a0f hk)]
noncomputable def ps (ties:List Tl)(k:Nat):Nat:=(od ties).idxOf k
theorem HM {k:Nat}(h:k<ties.length):ps ties k<ties.length:=by
 have:=a4i (od_mem.mpr h)
 rw[ud] at this
 exact this
theorem lY {k:Nat}(h:k<ties.length):(od ties)[ps ties k]?=some k:=by
 have hl:=a4i (od_mem.mpr h)
 have:=List.getElem_idxOf hl
 unfold ps
 rw[a0f hl,this]
theorem yP {P k:Nat}(h:(od ties)[P]?=some k):ps ties k=P:=by
 obtain⟨hP,e⟩:=a0j.mp h
 have hk:k<ties.length:=od_mem.mp (a1i h)
 obtain⟨hl,e2⟩:=a0j.mp (lY hk)
 have pw:=a2m.mp (a3d.mp (Es (ties:=ties)))
 rcases Nat.lt_trichotomy (ps ties k) P with w|w|w
 ·exact absurd (e2.trans e.symm) (pw _ _ hl hP w)
 ·exact w
 ·exact absurd (e.trans e2.symm) (pw _ _ hP hl w)
theorem JH {i j:Nat}(hi:i<ties.length)(hj:j<ties.length)(h:ps ties i<ps ties j):Bn ties i j:=by
 obtain⟨h1,e1⟩:=a0j.mp (lY hi)
 obtain⟨h2,e2⟩:=a0j.mp (lY hj)
 have:=(a2m.mp Cb) _ _ h1 h2 h
 rwa [e1,e2] at this
noncomputable def ii (ties:List Tl):List Nat:=(a0l ties.length).filter λk=>decide (ps ties k∈AU (sR ties))
noncomputable def GO (ties:List Tl):List Nat:=(AU (sR ties)).map λP=>(od ties).getD P 0
theorem uQ {P:Nat}(h:P∈AU (sR ties)):P<ties.length:=by
 have:=(mG (tl (sR ties)) (sR ties).length).1 P h
 rwa [lL] at this
theorem qO (row:List Tl):∀k,(cJ row k).Nodup
 |0=>by rw[cJ];simp
 |k+1=>by
  have ih:=qO row k
  cases et:row[k]? with
  |none=>rw[cJ,et];exact ih
  |some t=>
   by_cases q:cT (row.take k) t.1=cT (row.take k) t.2.1
   ·rw[jz et q];exact ih
   ·rw[kb et q,a1t]
    refine⟨ih,by simp,λa ha b hb e=>?_⟩
    have:=(mG row k).1 a ha
    have:b=k:=by simpa using hb
    omega
theorem mem_chs {k:Nat}:k∈ii ties↔k<ties.length/\ps ties k∈AU (sR ties):=by
 unfold ii;rw[a1u,a0z,decide_eq_true_iff]
theorem mem_chU {k:Nat}:k∈GO ties↔k∈ii ties:=by
 rw[mem_chs]
 unfold GO
 rw[a1a]
 constructor
 ·rintro⟨P,hP,rfl⟩
  obtain⟨k,t,e1,hk,_,_⟩:=nR (uQ hP)
  have:(od ties).getD P 0=k:=by rw[a0m,e1];rfl
  rw[this,yP e1]
  exact⟨hk,hP⟩
 ·rintro⟨hk,hP⟩
  exact⟨_,hP,by rw[a0m,lY hk];rfl⟩
theorem AD:(GO ties).Nodup:=by
 unfold GO
 have inj:∀P∈AU (sR ties),∀Q∈AU (sR ties),(od ties).getD P 0=(od ties).getD Q 0->P=Q:=λP hP Q hQ e=>by
  obtain⟨k,_,e1,_,_,_⟩:=nR (uQ hP)
  obtain⟨k',_,e2,_,_,_⟩:=nR (uQ hQ)
  have h1:(od ties).getD P 0=k:=by rw[a0m,e1];rfl
  have h2:(od ties).getD Q 0=k':=by rw[a0m,e2];rfl
  rw[h1,h2] at e
  subst e
  rw[←yP e1,←yP e2]
 have nd:=qO (tl (sR ties)) (sR ties).length
 exact (a3y.mpr ((a3d.mp nd).imp_of_mem λ{a b} ha hb h e=>h (inj a ha b hb e)))
theorem D6:(ii ties).Perm (GO ties):=(a4l (List.nodup_range.filter _) AD).mpr λk=>mem_chU.symm
theorem um:(ii ties).length<=ties.length:=by
 have:=a3a (λk=>decide (ps ties k∈AU (sR ties))) (a0l ties.length)
 rwa [a0v] at this
theorem GH:uA ((GO ties).map a4b)=(ii ties).map a4b:=(ye (List.Perm.map _ D6) (by
 rw[a3y]
 exact (List.pairwise_lt_range.filter _).imp λh=>by show a4b _<=a4b _;exact Int.ofNat_le.mpr (a3f h))).symm
theorem Ed.pos {k a e:Nat}(h:Ed ties k a e):Ed (tl (sR ties)) (ps ties k) a e:=by
 obtain⟨t,et,hs⟩:=h
 have hk:=(a0j.mp et).1
 obtain⟨k',t',e1,_,e2,e3⟩:=nR (HM hk)
 rw[lY hk] at e1
 cases e1
 rw[et] at e2
 cases e2
 exact⟨_,zL e3,hs⟩
theorem Rq.mapj {row row':List Tl}{f:Nat->Nat}:∀{ns vs:List Nat},(∀j∈ns,∀a e,Ed row j a e->Ed row' (f j) a e)->Rq row ns vs->Rq row' (ns.map f) vs
 |[],[v],_,_=>trivial
 |[],[],_,h=>h.elim
 |[],_::_::_,_,h=>h.elim
 |_::_,[],_,h=>h.elim
 |_::_,[_],_,h=>h.elim
 |j::ns,a::e::vs,hf,⟨h,t⟩=>⟨hf j a0e _ _ h,Rq.mapj (λi hi=>hf i (a0c _ hi)) t⟩
end Dp
end
section
namespace Dp
open PySem PySem.Spec L2 Fo Pt
structure Ties (n:Nat)(ties:List Tl):Prop where
 h1:1<=n
 h2:n<=40
 lt:∀t∈ties,t.1<n/\t.2.1<n
 nn:∀t∈ties,0<=t.2.2
 len:ties.length<=60
variable {n:Nat}{ties:List Tl}
theorem MY (T:Ties n ties):∀p∈sR ties,p.1<n/\p.2<n:=λp hp=>by
 obtain⟨P,hP,rfl⟩:=a3k hp
 rw[lL] at hP
 obtain⟨k,t,e1,hk,e2,e3⟩:=nR hP
 have:(sR ties)[P]'(by rw[lL];exact hP)=(t.1,t.2.1):=by
  have:=a0j.mp e3
  exact this.2
 rw[this]
 exact T.lt t (a1i e2)
theorem zd (T:Ties n ties){s1:Option Sl}:∀(ts:List Tl) (k:Nat) (z3 z4:Option Sl),(∀t∈ts,t.1<n/\t.2.1<n/\0<=t.2.2) →
  ∃w3 w4,bZ (iH 2 (gC (gN 3) (gC (gN 4) g0))) iz (eS k (ts.map jM)) [some (.val (.int n)),s1,some (.val (.fn "is_tie")),z3,z4]=.nx [some (.val (.int n)),s1,some (.val (.fn "is_tie")),w3,w4]
 |[],k,z3,z4,_=>⟨z3,z4,rfl⟩
 |t::ts,k,z3,z4,h=>by
  obtain⟨hx,hy,hw⟩:=h t a0e
  obtain⟨w3,w4,e⟩:=zd T (s1:=s1) ts (k+1) (some (.val (.int (k:Nat)))) (some (.val (jM t))) λu hu=>h u (a0c _ hu)
  refine⟨w3,w4,?_⟩
  show bZ _ _ (.tup [.int (k:Nat),jM t]::eS (k+1) (ts.map jM)) _=_
  rw[eN]
  have a2:∀a b c:PV,L2.c6 [a,b,c] 2=some c:=λa b c=>rfl
  have it:=vq (t:=t) hx hy
  have e1:eP [.int (n:Nat),jM t]=some (.v (.bl true)):=by
   simp only[jM] at it ⊢
   simp![xY,lR,it,a2,decide_eq_true hw]
  simp![iz,Dk,Fy,O1,Rp,Rn,Ru,Rc,e1]
  exact e
theorem xI (T:Ties n ties):fg [.int (n:Nat),bY ties]=some (.v .non):=by
 obtain⟨w3,w4,e⟩:=zd T (s1:=some (.val (bY ties))) ties 0 none none λt ht=>⟨(T.lt t ht).1,(T.lt t ht).2,T.nn t ht⟩
 have e':iM [.int n,bY ties,.fn "is_tie"]=some (.v .non):=by
  unfold bY at e ⊢
  simp![re,jb,o9,kN,e]
 simp![qY,i6,kC,fD,zO T.h1 T.h2,e']
theorem m5 {k:Nat}{t:Tl}(h:ties[k]?=some t):L2.c6 (ties.map jM) (k:Int)=some (jM t):=eU (by rw[a0q,h];rfl)
theorem O0 {P:Nat}{k:Nat}(h:(od ties)[P]?=some k):k<ties.length:=od_mem.mp (a1i h)
theorem uN (g:Nat->Int)(k:Nat)(l:List Nat):wJ g (k::l)=.tup [.int (g k),.int (k:Nat)]::wJ g l:=rfl
theorem zH {t:FT}{f:FE}{ρ:ao}{p q:PV}{pl ql:List PV}(h1:(t p ρ).bind (λρ2=>(f ρ2).bind RV.fr)=some q)(h2:m8 t fy f ρ pl=some ql):m8 t fy f ρ (p::pl)=some (q::ql):=by
 obtain⟨ρ2,e1,h1⟩:=a0a.mp h1
 obtain⟨r,e2,h1⟩:=a0a.mp h1
 rw[m8,e1,h2]
 show (f ρ2).bind _=_
 rw[e2]
 show r.fr.bind _=_
 rw[h1];rfl
theorem vK:∀(ts pre:List Tl),ties=pre++ts->m8 (iH 2 (gC (gN 0) (gC (iH 3 (gC (gN 1) (gC (gN 2) (gC (gN 3) g0)))) g0))) fy im [none,none,none,none] (eS pre.length (ts.map jM))=some (wJ (wt ties) (List.range' pre.length ts.length))
 |[],pre,_=>rfl
 |t::ts,pre,e=>by
  have et:ties[pre.length]?=some t:=by rw[e,a1y (a0n _),a5y];rfl
  have ih:=vK ts (pre++[t]) (by rw[e,a1x];rfl)
  have pl:(pre++[t]).length=pre.length+1:=by rw[a0t];rfl
  rw[pl] at ih
  rw[a1g,eS,a0p,List.range'_succ,uN,mL et]
  exact zH (by simp![jM,im]) ih
theorem Fc:m8 (iH 2 (gC (gN 0) (gC (gN 1) g0))) fy fG [none,none,some (.val (bY ties))] (wJ (wt ties) (od ties))=some (j6 (sR ties)):=by
 have main:∀l:List Nat,(∀k∈l,k<ties.length)->m8 (iH 2 (gC (gN 0) (gC (gN 1) g0))) fy fG [none,none,some (.val (bY ties))] (wJ (wt ties) l)=some (j6 (l.map (ER ties))):=λl=>by
  induction l with
  |nil=>intro _;rfl
  |cons k l ih=>
   intro h
   have et:ties[k]?=some (ties[k]'(h k a0e)):=a0f _
   rw[uN,a1g,qN et]
   have ta:=m5 et
   refine zH ?_ (ih λq hq=>h q (a0c _ hq))
   generalize ties[k]'(h k a0e)=t at ta
   simp![bY,fG,ta,jM,if_neg E6,DX]
 exact main (od ties) λk hk=>od_mem.mp hk
theorem Bd {l:List PV}:nu [.lst l]=(dJ l).bind λis=>if is.length<64 then some (.nw ((uA is).map PV.int)) else none:=Eq.trans rfl rfl
theorem Gq {l m:List Nat}(h:uA (l.map a4b)=m.map a4b)(h64:l.length<64):nu [.lst (af l)]=some (.nw (af m)):=by
 rw[Bd,wH]
 show (if (l.map a4b).length<64 then _ else _)=_
 rw[a0i,if_pos h64,h,Ah]
theorem Ho (T:Ties n ties):fE [.int (n:Nat),.lst (j6 (sR ties))]=some (.n (af (AU (sR ties)))):=by
 have h1:=T.h1
 have h2:=T.h2
 have hr:=MY T
 have hl:=T.len
 have hs:=lL (ties:=ties)
 have a1:∀a b:PV,L2.c6 [a,b] 1=some b:=λa b=>rfl
 obtain⟨p1,p2⟩:=sJ (rW n (sR ties))
 have e:=sf (t:=gN 0) (c:=dW) (f:=dN) (ρ:=[none,some (.val (.tup (qW (rW n (sR ties)))))]) (λp=>pin p (qW (rW n (sR ties)))) id (its:=af (a0l (sR ties).length)) (λp hp=>by
  obtain⟨y,hy,rfl⟩:=va hp
  refine⟨_,rfl,?_,λ_=>?_⟩
  ·simp![dW,p1,p2]
  ·simp![dN,id])
 have e2:(af (a0l (sR ties).length)).filter (λp=>pin p (qW (rW n (sR ties))))=af (AU (sR ties)):=by
  show _=af (cJ (tl (sR ties)) (sR ties).length)
  rw[oq (tl (sR ties)) (λj=>pin (.int (j:Nat)) (qW (rW n (sR ties)))) (sR ties).length λj _=>(JT j _).trans (wU h1 h2 hr j)]
  unfold af
  rw[List.filter_map];rfl
 rw[a4x,e2] at e
 obtain⟨w4,w5,w6,w7,w8,w9,w10,ef⟩:=ue h2 (s1:=some (.val (.lst (j6 (sR ties))))) (sR ties) 0 _ _ (a0r n none) none none none none none none none (AA h1 h2) a1p hr
 have et:b5 [.int n,.lst (j6 (sR ties))]=some (.v (.tup [.tup (af (rU n (sR ties))),.tup (qW (rW n (sR ties)))])):=by
  unfold rU rW
  simp![gO,cD,H9 h1 h2 tF o7,MH (show n<=1000 by omega),o9,kN,ef,st2]
 simp![mZ,fQ,dW,dN,bc,az,bp,aA,de,aB,aD,aP,aR,aC,bR,bq,bj,bO,bL,bN,bH,bo,aE,bn,aH,bP,bf,aG,ay,aO,aT,aK,aL,aw,c8,bh,aU,aQ,be,ax,aM,bD,aI,bQ,aZ,bg,aF,bm,aN,aV,aS,et,a1,oY,hs,K1 (show ties.length<=100000 by omega),a0v,if_pos (show ties.length<1000 by omega)]
 rw[hs] at e
 simp![e,a5q,tP]
theorem uB (T:Ties n ties):gB [.int (n:Nat),bY ties]=some (.v (.tup (af (ii ties)))):=by
 have hl:=T.len
 have e1:=vK (ties:=ties) ties [] rfl
 rw[a2f,←a5j] at e1
 have es:=xj (wt ties) ties.length (by omega)
 have e2:=Fc (ties:=ties)
 have e3:=Ho T
 have lr:=(mG (tl (sR ties)) (sR ties).length).2
 rw[lL] at lr
 have lc:(GO ties).length=(AU (sR ties)).length:=a0i ..
 have e4:m8 (gN 0) fy iD [none,some (.val (.lst (wJ (wt ties) (od ties))))] (af (AU (sR ties)))=some (af (GO ties)):=by
  rw[oW (λP=>.int (((od ties).getD P 0:Nat):Int)) λP hP=>?_]
  ·unfold GO af;rw[a1d];rfl
  ·obtain⟨k,t,f1,_,_,_⟩:=nR (uQ hP)
   have ia:L2.c6 (wJ (wt ties) (od ties)) (P:Int)=some (.tup [.int (wt ties k),.int (k:Nat)]):=eU (by unfold wJ;rw[a0q,f1];rfl)
   have gd:(od ties).getD P 0=k:=by rw[a0m,f1];rfl
   have a1:∀a b:PV,L2.c6 [a,b] 1=some b:=λa b=>rfl
   rw[gd]
   simp![iD,ia,a1]
 have e5:=Gq (GH (ties:=ties)) (by rw[lc];show (cJ (tl (sR ties)) (sR ties).length).length<64;rw[lL];omega)
 have lo:(wJ (wt ties) (a0l ties.length)).length=ties.length:=by rw[ti,a0v]
 have lo2:(wJ (wt ties) (od ties)).length<1000:=by rw[ti,ud];omega
 have lr2:(AU (sR ties)).length<1000:=by show (cJ (tl (sR ties)) (sR ties).length).length<1000;rw[lL];omega
 have le:(eS 0 (ties.map jM)).length<1000:=by rw[kT,a0i];omega
 have od':Dq (wt ties) ties.length=od ties:=rfl
 rw[od'] at es
 unfold bY at e2 ⊢
 simp![ry,i7,bc,az,bp,aA,de,aB,aD,aP,aR,aC,bR,bq,bj,bO,bL,bN,bH,bo,aE,bn,aH,bP,bf,aG,ay,aO,aT,aK,aL,aw,c8,bh,aU,aQ,be,ax,aM,bD,aI,bQ,aZ,bg,aF,bm,aN,aV,aS,o9,kN,if_pos le,e1,es,if_pos lo2,e2,e3,if_pos lr2,e4,e5]
end Dp
end
section
namespace Dp
open PySem PySem.Spec L2 Fo Pt
variable {n:Nat}{ties:List Tl}
noncomputable def E9 (ties:List Tl)(j:Nat):List Sg:=match ties[j]? with
 |some t=>[(t.1,t.2.1,.int (j:Nat)),(t.2.1,t.1,.int (j:Nat))]
 |none=>[]
noncomputable def eB (ties:List Tl)(js:List Nat):List Sg:=js.flatMap (E9 ties)
theorem Dw {j:Nat}{t:Tl}(h:ties[j]?=some t):E9 ties j=[(t.1,t.2.1,.int (j:Nat)),(t.2.1,t.1,.int (j:Nat))]:=by unfold E9;rw[h]
theorem lH {js:List Nat}{a e:Nat}{l:PV}(h:(a,e,l)∈eB ties js):∃j,j∈js/\l=.int (j:Nat)/\Ed ties j a e:=by
 obtain⟨j,hj,h⟩:=a3l.mp h
 cases et:ties[j]? with
 |none=>unfold E9 at h;rw[et] at h;cases h
 |some t=>
  rw[Dw et] at h
  rcases a0s.mp h with h|h
  ·cases h;exact⟨j,hj,rfl,t,et,.inl ⟨rfl,rfl⟩⟩
  ·have h:=a0g.mp h
   cases h;exact⟨j,hj,rfl,t,et,.inr ⟨rfl,rfl⟩⟩
theorem m9 {js:List Nat}{j a e:Nat}(hj:j∈js)(h:Ed ties j a e):(a,e,.int (j:Nat))∈eB ties js:=by
 obtain⟨t,et,h⟩:=h
 refine a3l.mpr ⟨j,hj,?_⟩
 rw[Dw et]
 rcases h with ⟨rfl,rfl⟩|⟨rfl,rfl⟩
 ·exact a0e
 ·exact a0c _ a0e
structure Kx (K:og)(W:List Nat)(K':og)(W':List Nat):Prop where
 sub:∀v,v∈K.map (·.1)->v∈K'.map (·.1)
 new:∀v,v∈K'.map (·.1)->v∈K.map (·.1)\/v∈W'
 ws:∀w∈W,w∈W'
 wk:(∀w∈W,w∈K.map (·.1))->∀w∈W',w∈K'.map (·.1)
 len:K'.length+W.length=K.length+W'.length
theorem Kx.refl {K:og}{W:List Nat}:Kx K W K W:=⟨λ_ h=>h,λ_ h=>.inl h,λ_ h=>h,λh=>h,rfl⟩
theorem Kx.trans {K K1 K2:og}{W W1 W2:List Nat}(a:Kx K W K1 W1)(b:Kx K1 W1 K2 W2):Kx K W K2 W2:=
 ⟨λv h=>b.sub v (a.sub v h),λv h=>(b.new v h).elim (λh=>(a.new v h).imp id (b.ws v)) .inr,λw h=>b.ws w (a.ws w h),λh=>b.wk (a.wk h),by have:=a.len;have:=b.len;omega⟩
noncomputable abbrev qh (ties:List Tl)(q:PV)(x y:Nat)(K:og)(W:List Nat)(z6 z7 z8 z9:Option Sl):ao:=
 [some (.val (bY ties)),some (.val q),some (.val (.int (x:Nat))),some (.val (.int (y:Nat))),some (.dic (rK K) (rP K)),some (.own (af W)),z6,z7,z8,z9]
theorem DK {qv:PV}{x y:Nat}{js:List Nat}{K:og}{W:List Nat}{a b e j:Nat}(hn:n<=40)(R:Rds n (eB ties js) x K)(ha:a∈K.map (·.1))(he:e<n)(hj:j∈js)(hE:Ed ties j b e)(hW:W.length<=100000) :
  ∃K' W',bW (qh ties qv x y K W (some (.val (.int (a:Nat)))) (some (.val (.int (j:Nat)))) (some (.val (.int (b:Nat)))) (some (.val (.int (e:Nat)))))=.nx (qh ties qv x y K' W' (some (.val (.int (a:Nat)))) (some (.val (.int (j:Nat)))) (some (.val (.int (b:Nat)))) (some (.val (.int (e:Nat)))))/\Rds n (eB ties js) x K'/\Kx K W K' W'/\(b=a->e∈K'.map (·.1)):=by
 have d1:decide ((b:Int)=(a:Int))=decide (b=a):=decide_eq_decide.mpr (by omega)
 have dA:kB (.int (e:Nat)) (.dct (rK K) (rP K))=some (.fz (.bl (!decide (e∈K.map (·.1))))):=by
  rw[aw,pR,a6a,tL]
 have hKl:=R.len
 by_cases hba:b=a
 ·subst hba
  by_cases hin:e∈K.map (·.1)
  ·refine⟨K,W,?_,R,.refl,λ_=>hin⟩
   simp![bW,qh,bc,az,bp,aA,de,aB,aD,aP,aR,aC,bR,bq,bj,bO,bL,bN,bH,bo,aE,bn,aH,bP,bf,aG,ay,aO,aT,aK,aL,aw,c8,bh,aU,aQ,be,ax,aM,bD,aI,bQ,aZ,bg,aF,bm,aN,aV,aS,d1,decide_true,dA,decide_eq_true hin]
  ·obtain⟨q,fq,mq⟩:=mI ha
   have R':=R.add mq (m9 hj hE) he hin
   have hq:q.length<n:=R.rlen mq
   obtain⟨p1,p2⟩:=Ia (r:=q++[PV.int (j:Nat)]) hin
   have hme:e∈(K++[(e,q++[PV.int (j:Nat)])]).map (·.1):=by rw[a0x];exact a0o _ (a0g.mpr rfl)
   have sub:∀v,v∈K.map (·.1)->v∈(K++[(e,q++[PV.int (j:Nat)])]).map (·.1):=λv hv=>by rw[a0x];exact a1b _ hv
   refine⟨K++[(e,q++[PV.int (j:Nat)])],W++[e],?_,R',⟨sub,λv hv=>?_,λw hw=>a1b _ hw,λhw w hw'=>?_,by simp;omega⟩,λ_=>hme⟩
   ·have i1:mx (rK K) (rP K) (.inl ((b:Nat):Int))=some (.tup q):=by rw[pR,fq];rfl
    have kl:(rK K).length<=100000:=by unfold rK;rw[a0i];omega
    have ql:q.length<=99999:=by omega
    simp![bW,qh,bc,az,bp,aA,de,aB,aD,aP,aR,aC,bR,bq,bj,bO,bL,bN,bH,bo,aE,bn,aH,bP,bf,aG,ay,aO,aT,aK,aL,aw,c8,bh,aU,aQ,be,ax,aM,bD,aI,bQ,aZ,bg,aF,bm,aN,aV,aS,d1,decide_true,dA,decide_eq_false hin,i1,if_pos kl,if_pos ql,if_pos hW,p1,p2,cM,fW]
   ·rw[a0x] at hv
    rcases a0w.mp hv with hv|hv
    ·exact .inl hv
    ·rw[show v=e by simpa using hv];exact .inr (a0o _ (a0g.mpr rfl))
   ·rcases a0w.mp hw' with h|h
    ·exact sub w (hw w h)
    ·rw[a0g.mp h];exact hme
 ·refine⟨K,W,?_,R,.refl,λz=>absurd z hba⟩
  simp![bW,qh,bc,az,bp,aA,de,aB,aD,aP,aR,aC,bR,bq,bj,bO,bL,bN,bH,bo,aE,bn,aH,bP,bf,aG,ay,aO,aT,aK,aL,aw,c8,bh,aU,aQ,be,ax,aM,bD,aI,bQ,aZ,bg,aF,bm,aN,aV,aS,d1,decide_eq_false hba]
theorem EL (T:Ties n ties){qv:PV}{x y:Nat}{js:List Nat}(hjs:∀j∈js,j<ties.length){a:Nat}:∀(ks:List Nat) (K:og) (W:List Nat) (z7 z8 z9:Option Sl),(∀k∈ks,k∈js)->Rds n (eB ties js) x K->a∈K.map (·.1)->W.length<=K.length →
  ∃K' W' z7' z8' z9',bZ (gN 7) ce (af ks) (qh ties qv x y K W (some (.val (.int (a:Nat)))) z7 z8 z9)=.nx (qh ties qv x y K' W' (some (.val (.int (a:Nat)))) z7' z8' z9')/\Rds n (eB ties js) x K'/\Kx K W K' W'/\∀k∈ks,∀e,Ed ties k a e->e∈K'.map (·.1)
 |[],K,W,z7,z8,z9,_,R,_,_=>⟨K,W,z7,z8,z9,by rw[show af []=[] from rfl,iV],R,.refl,λ_ h=>by cases h⟩
 |j::ks,K,W,z7,z8,z9,hk,R,ha,hW=>by
  have hn:=T.h2
  have hj:=hk j a0e
  obtain⟨t,et⟩:∃t,ties[j]?=some t:=⟨_,a0f (hjs j hj)⟩
  obtain⟨hp1,hp2⟩:=T.lt t (a1i et)
  have Ea:Ed ties j t.1 t.2.1:=⟨t,et,.inl ⟨rfl,rfl⟩⟩
  have l0:=R.len
  obtain⟨K1,W1,e1,R1,x1,c1⟩:=DK hn (qv:=qv) (y:=y) (W:=W) R ha hp2 hj Ea (by omega)
  have l1:=R1.len
  have n1:=x1.len
  obtain⟨K2,W2,e2,R2,x2,c2⟩:=DK hn (qv:=qv) (y:=y) (W:=W1) R1 (x1.sub a ha) hp1 hj Ea.sym (by omega)
  have n2:=x2.len
  obtain⟨K3,W3,z7',z8',z9',e3,R3,x3,c3⟩:=EL T (qv:=qv) hjs (y:=y) ks K2 W2 (some (.val (.int (j:Nat)))) (some (.val (.int (t.2.1:Nat)))) (some (.val (.int (t.1:Nat)))) (λk h=>hk k (a0c _ h)) R2 (x2.sub a (x1.sub a ha)) (by omega)
  refine⟨K3,W3,z7',z8',z9',?_,R3,x1.trans (x2.trans x3),λk hk' e he=>?_⟩
  ·rw[cW,eN]
   have b:ce (qh ties qv x y K W (some (.val (.int (a:Nat)))) (some (.val (nI j))) z8 z9)=.nx (qh ties qv x y K2 W2 (some (.val (.int (a:Nat)))) (some (.val (.int (j:Nat)))) (some (.val (.int (t.2.1:Nat)))) (some (.val (.int (t.1:Nat))))):=by
    have ta:=m5 et
    have r2:[PV.int (t.1:Nat),PV.int (t.2.1:Nat)].reverse=[PV.int (t.2.1:Nat),PV.int (t.1:Nat)]:=rfl
    have b0:ce (qh ties qv x y K W (some (.val (.int (a:Nat)))) (some (.val (nI j))) z8 z9)=bZ (iH 2 (gC (gN 8) (gC (gN 9) g0))) bW [.tup [.int (t.1:Nat),.int (t.2.1:Nat)],.tup [.int (t.2.1:Nat),.int (t.1:Nat)]] (qh ties qv x y K W (some (.val (.int (a:Nat)))) (some (.val (.int (j:Nat)))) z8 z9):=by
     simp![ce,qh,bY,bc,az,bp,aA,de,aB,aD,aP,aR,aC,bR,bq,bj,bO,bL,bN,bH,bo,aE,bn,aH,bP,bf,aG,ay,aO,aT,aK,aL,aw,c8,bh,aU,aQ,be,ax,aM,bD,aI,bQ,aZ,bg,aF,bm,aN,aV,aS,ta,jM,if_neg E6,DX,r2]
    rw[b0,eN]
    simp![qh] at e1 e2 ⊢
    rw[e1]
    simp![true_and]
    rw[eN]
    simp![true_and]
    rw[e2]
    simp![true_and]
   simp![qh] at b e3 ⊢
   rw[b]
   simp![true_and]
   exact e3
  ·rcases a0s.mp hk' with rfl|hk'
   ·rcases he.two Ea with ⟨q1,q2⟩|⟨q1,q2⟩
    ·subst q2;exact x3.sub _ (x2.sub _ (c1 q1.symm))
    ·subst q2;exact x3.sub _ (c2 q1.symm)
   ·exact c3 k hk' e he
theorem wV (W:List Nat)(w:Nat):af (W++[w])=af W++[PV.int (w:Nat)]:=(fW ..).symm
theorem uy (W:List Nat):dY (af W) []=W.isEmpty:=by
 cases W with
 |nil=>exact ip
 |cons p W=>exact j9 (by rw[cM];simp)
theorem FF (W:List Nat)(w:Nat):oR (.own (af (W++[w]))) []=some (.own (af W),.int (w:Nat)):=by
 show ((af (W++[w]))[(af (W++[w])).length - 1]?).map (λp=>(Sl.own (af (W++[w])).dropLast,p))=_
 rw[wV,a0t,a1m,Nat.add_sub_cancel,a1y (a0n _),a5y,a5h]
 rfl
theorem uL (T:Ties n ties){qv:PV}{x y:Nat}{js:List Nat}(hq:items qv=some (af js))(hjs:∀j∈js,j<ties.length):∀(m k:Nat) (K:og) (W:List Nat) (z6 z7 z8 z9:Option Sl),(n - K.length)+W.length<=m->m<k->Rds n (eB ties js) x K->(∀w∈W,w∈K.map (·.1))->W.length<=K.length->(∀a∈K.map (·.1),a∉W->xq (eB ties js) K a) →
  ∃K' z6' z7' z8' z9',b7 cc bU k (qh ties qv x y K W z6 z7 z8 z9)=.nx (qh ties qv x y K' [] z6' z7' z8' z9')/\Rds n (eB ties js) x K'/\∀a∈K'.map (·.1),xq (eB ties js) K' a
 |m,0,_,_,_,_,_,_,_,hk,_,_,_,_=>absurd hk (a2p _)
 |m,k+1,K,W,z6,z7,z8,z9,hm,hk,R,hw,hl,hc=>by
  have p0:aJ []=true:=by rw[aJ]
  have c0:cc (qh ties qv x y K W z6 z7 z8 z9)=some (!W.isEmpty):=by
   simp![cc,qh,bc,az,bp,aA,de,aB,aD,aP,aR,aC,bR,bq,bj,bO,bL,bN,bH,bo,aE,bn,aH,bP,bf,aG,ay,aO,aT,aK,aL,aw,c8,bh,aU,aQ,be,ax,aM,bD,aI,bQ,aZ,bg,aF,bm,aN,aV,aS,b9,eG,p0,uy]
  by_cases h0:W=[]
  ·subst h0
   refine⟨K,z6,z7,z8,z9,?_,R,λa ha=>hc a ha a2q⟩
   rw[dP,c0];rfl
  ·obtain⟨W0,w,rfl⟩:∃W0 w,W=W0++[w]:=⟨_,_,(a4a h0).symm⟩
   rw[a0t,a1m] at hm hl
   obtain⟨m',rfl⟩:∃m',m=m'+1:=⟨m - 1,by omega⟩
   obtain⟨K1,W1,w7,w8,w9,e1,R1,x1,c1⟩:=EL T (qv:=qv) hjs (y:=y) js K W0 z7 z8 z9 (λ_ h=>h) R (hw w (a0o _ (a0g.mpr rfl))) (by omega)
   have n1:=x1.len
   have l1:=R1.len
   have l0:=R.len
   obtain⟨K2,v6,v7,v8,v9,e2,R2,c2⟩:=uL T hq hjs (y:=y) m' k K1 W1 (some (.val (.int (w:Nat)))) w7 w8 w9 (by omega) (by omega) R1 (x1.wk λv hv=>hw v (a1b _ hv)) (by omega) (λa ha hn=>by
    by_cases haw:a=w
    ·subst haw
     intro e l hs
     obtain⟨j,hj,rfl,he⟩:=lH hs
     exact c1 j hj e he
    ·rcases x1.new a ha with h|h
     ·have:a∉W0++[w]:=λh'=>(a0w.mp h').elim (λh'=>hn (x1.ws a h')) λh'=>haw (a0g.mp h')
      exact λe l hs=>x1.sub e (hc a h this e l hs)
     ·exact absurd h hn)
   refine⟨K2,v6,v7,v8,v9,?_,R2,c2⟩
   have hne:(W0++[w]).isEmpty=false:=by simp
   rw[dP,c0,hne]
   show OI (bU _) _ _ _=_
   have b0:bU (qh ties qv x y K (W0++[w]) z6 z7 z8 z9)=.nx (qh ties qv x y K1 W1 (some (.val (.int (w:Nat)))) w7 w8 w9):=by
    simp only[qh] at e1 ⊢
    simp![bU,bD,aI,FF,hq,e1]
   rw[b0,oU]
   exact e2
end Dp
end
section
namespace Dp
open PySem PySem.Spec L2 Fo Pt
variable {n:Nat}{ties:List Tl}
theorem eJ:∀j∈ii ties,j<ties.length:=λj hj=>(mem_chs.mp hj).1
theorem F1 (T:Ties n ties){k:Nat}{t:Tl}(et:ties[k]?=some t):Rch (eB ties (ii ties)) t.1 t.2.1:=by
 have hk:=(a0j.mp et).1
 obtain⟨k',t',e1,_,e2,e3⟩:=nR (HM hk)
 rw[lY hk] at e1;cases e1
 rw[et] at e2;cases e2
 have rr:=vC (tl (sR ties)) (sR ties).length (t.1,t.2.1,0) (by
  rw[a1v (by rw[Jb];exact a0n _)]
  exact a1i (zL e3))
 have conv:∀{x e:Nat},Rch (bG (tl (sR ties)) (cJ (tl (sR ties)) (sR ties).length)) x e->Rch (eB ties (ii ties)) x e:=λ{x e} r=>by
  induction r with
  |refl=>exact .refl
  | @step a e l _ q ih=>
   obtain⟨P,s,u,hP,eu,_,hs⟩:=fu q
   have hP':P∈AU (sR ties):=hP
   obtain⟨k2,t2,f1,_,f2,f3⟩:=nR (uQ hP')
   have:u=(t2.1,t2.2.1,0):=by have:=zL f3;rw[eu] at this;exact Option.some.inj this
   subst this
   have hm:k2∈ii ties:=mem_chs.mpr ⟨O0 f1,by rw[yP f1];exact hP'⟩
   have hE:Ed ties k2 a e:=⟨t2,f2,by rcases hs with ⟨_,h⟩|⟨_,h⟩;exact .inl h;exact .inr h⟩
   exact .step ih (m9 hm hE)
 exact conv rr
theorem Trk.rqK {js:List Nat}{x e:Nat}{r:List PV}{vs:List Nat}(t:Trk (eB ties js) x e r vs):∃ns,r=af ns/\Rq ties ns vs/\vs.head?=some x/\vs.getLast?=some e/\∀j∈ns,j∈js:=by
 induction t with
 |nil=>exact⟨[],rfl,trivial,rfl,rfl,λ_ h=>(by cases h)⟩
 | @snoc a e l r vs t q ih=>
  obtain⟨ns,rfl,h1,h2,h3,h4⟩:=ih
  obtain⟨j,hj,rfl,ed⟩:=lH q
  refine⟨ns++[j],fW ..,h1.snoc h3 ed,?_,by simp,λi hi=>?_⟩
  ·cases vs with
   |nil=>cases h2
   |cons v vs=>exact h2
  ·rcases a0w.mp hi with hi|hi
   ·exact h4 i hi
   ·rw[a0g.mp hi];exact hj
theorem wT (T:Ties n ties){qv:PV}{x y:Nat}{js:List Nat}(hqv:items qv=some (af js))(hjs:∀j∈js,j<ties.length)(hx:x<n)(hy:y<n)(hr:Rch (eB ties js) x y):∃rs vs,d8 [bY ties,qv,.int (x:Nat),.int (y:Nat)]=some (.v (.tup (af rs)))/\Rq ties rs vs/\vs.Nodup/\vs.head?=some x/\vs.getLast?=some y/\(∀j∈rs,j∈js)/\rs.length<40:=by
 have hn:=T.h2
 have R0:Rds n (eB ties js) x [(x,[])]:=⟨by simp,λt ht=>by rw[a0g.mp ht];exact hx,λt ht=>by rw[a0g.mp ht];exact⟨[x],.nil,by simp,λv hv=>by simpa using hv⟩,⟨[],rfl⟩⟩
 obtain⟨K,z6,z7,z8,z9,e,R,c⟩:=uL T hqv hjs (y:=y) n 10000 [(x,[])] [x] none none none none (by simp;omega) (by omega) R0 (λw hw=>by simpa using hw) (by simp) (λa ha hn'=>by
  have:a=x:=by simpa using ha
  exact absurd (by rw[this];exact a0g.mpr rfl) hn')
 have e':b7 cc bU 10000 [some (.val (bY ties)),some (.val qv),some (.val (.int (x:Nat))),some (.val (.int (y:Nat))),some (.dic [.inl ((x:Nat):Int)] [.tup []]),some (.own [.int (x:Nat)]),none,none,none,none]=.nx (qh ties qv x y K [] z6 z7 z8 z9):=e
 obtain⟨q,fq,mq⟩:=mI ((R.keys c y).mpr hr)
 obtain⟨vs,tr,nd,_⟩:=R.tr _ mq
 have hq:q.length<n:=R.rlen mq
 obtain⟨ns,rfl,k1,k2,k3,k4⟩:=tr.rqK
 rw[cM] at hq
 have g1:=Kj fq
 refine⟨ns,vs,?_,k1,nd,k2,k3,k4,by omega⟩
 simp![nj,fX,bW,ce,cc,bU,bc,az,bp,aA,de,aB,aD,aP,aR,aC,bR,bq,bj,bO,bL,bN,bH,bo,aE,bn,aH,bP,bf,aG,ay,aO,aT,aK,aL,aw,c8,bh,aU,aQ,be,ax,aM,bD,aI,bQ,aZ,bg,aF,bm,aN,aV,aS,e',qh,g1]
noncomputable def Mz (ties:List Tl)(ns:List Nat):Int:=(ns.map (wt ties)).sum
theorem tm (js:List Nat)(hjs:∀j∈js,j<ties.length){f:FE}(hf:∀(k:Nat) (t:Tl),ties[k]?=some t->f [some (.val (.int (k:Nat))),some (.val (bY ties))]=some (.fz (.int t.2.2))):m8 (gN 0) fy f [none,some (.val (bY ties))] (af js)=some ((js.map (wt ties)).map PV.int):=by
 rw[oW (λk=>.int (wt ties k)) λk hk=>?_]
 ·rw[a1d];rfl
 ·have et:ties[k]?=some (ties[k]'(hjs k hk)):=a0f _
  rw[show gN 0 (PV.int (k:Nat)) [none,some (.val (bY ties))]=some [some (.val (.int (k:Nat))),some (.val (bY ties))] from rfl,a4c,hf k _ et,mL et]
  rfl
theorem Nz (k:Nat)(t:Tl)(et:ties[k]?=some t):dR [some (.val (.int (k:Nat))),some (.val (bY ties))]=some (.fz (.int t.2.2)):=by
 have a2:∀a b c:PV,L2.c6 [a,b,c] 2=some c:=λa b c=>rfl
 simp![dR,bY,m5 et,jM,a2]
theorem yf (T:Ties n ties):eA [.int (n:Nat),bY ties]=some (.v (.tup [.int (Mz ties (ii ties)),.tup (af (ii ties))])):=by
 have hl:=T.len
 have hc:=um (ties:=ties)
 have g:=tm (ii ties) eJ (f:=dR) Nz
 have io:dJ (((ii ties).map (wt ties)).map PV.int)=some ((ii ties).map (wt ties)):=jN _
 simp![mR,fR,bc,az,bp,aA,de,aB,aD,aP,aR,aC,bR,bq,bj,bO,bL,bN,bH,bo,aE,bn,aH,bP,bf,aG,ay,aO,aT,aK,aL,aw,c8,bh,aU,aQ,be,ax,aM,bD,aI,bQ,aZ,bg,aF,bm,aN,aV,aS,xI T,uB T,cM,if_pos (show (ii ties).length<1000 by omega),g,io,Mz]
theorem EE {α:Type}(f:α->Bool):∀l:List α,Jy (l.map λa=>PV.bl (f a))=some (l.map f)
 |[]=>rfl
 |a::l=>by
  show (Jy (l.map λa=>PV.bl (f a))).map _=_
  rw[EE f l];rfl
end Dp
end
section
namespace Dp
open PySem PySem.Spec L2 Fo Pt
theorem zN {L L2:List (Nat×Nat)}(h:∀p∈L,lab L2 id p.1=lab L2 id p.2){x y:Nat}(e:lab L id x=lab L id y):lab L2 id x=lab L2 id y:=
 qd (f:=lab L2 id) L id h (λa b e=>by rw[show a=b from e]) x y e
variable {n:Nat}{ties:List Tl}
end Dp
end
section
namespace Lo
open L2 Fo Dp
theorem lU (us:List Nat)(n:Nat):iN us (n+1)=xo (iN us n) (hd us n) n:=by
 unfold iN;rw[a4s,a5x];rfl
theorem C5 (acc:List (Nat×List Nat))(h x:Nat):(xo acc h x).length<=acc.length+1:=by
 unfold xo;split
 ·rw[a0i];omega
 ·rw[a0t];simp
theorem rQ (us:List Nat):∀n,(iN us n).length<=n
 |0=>a0n _
 |n+1=>by rw[lU];have:=C5 (iN us n) (hd us n) n;have:=rQ us n;omega
end Lo
namespace Dp
open PySem PySem.Spec L2 Fo Lo
noncomputable def xl (l:List (Nat×List Nat)):List Gr:=l.map λt=>(Sum.inl ((t.1:Nat):Int),af t.2)
theorem GQ (a b:Nat):decide ((Sum.inl (a:Int):cR)=Sum.inl (b:Int))=decide (a=b):=by
 rw[a2h,decide_eq_true_iff,decide_eq_true_iff]
 constructor
 ·intro e;have:=Sum.inl.inj e;omega
 ·intro e;rw[e]
theorem Ja (l:List (Nat×List Nat))(h x:Nat):qg (xl l) (.inl (h:Int)) (.int (x:Int))=xl (xo l h x):=by
 have ea:(xl l).any (λt=>decide (t.1=(Sum.inl (h:Int):cR)))=l.any λt=>decide (t.1=h):=by
  unfold xl;rw[a3c];congr 1;funext t;exact GQ t.1 h
 unfold qg xo
 rw[ea]
 split
 ·unfold xl
  rw[a1d,a1d]
  refine a1c λt _=>?_
  show (if (Sum.inl ((t.1:Nat):Int):cR)=Sum.inl (h:Int) then _ else _)=_
  by_cases e:t.1=h
  ·rw[if_pos (by rw[e])]
   show _=(Sum.inl (((if t.1=h then (t.1,t.2++[x]) else t).1:Nat):Int),af (if t.1=h then (t.1,t.2++[x]) else t).2)
   rw[if_pos e]
   exact congrArg (Prod.mk _) (fW t.2 x)
  ·rw[if_neg (λq=>e (by have:=Sum.inl.inj q;omega))]
   show _=(Sum.inl (((if t.1=h then (t.1,t.2++[x]) else t).1:Nat):Int),af (if t.1=h then (t.1,t.2++[x]) else t).2)
   rw[if_neg e]
 ·unfold xl;rw[a0x];rfl
theorem FZ {us:List Nat}(f:Frst us){x:Nat}(hx:x<us.length):L2.c6 (af (way us x)) (-1)=some (.int (hd us x:Nat)):=A8 (dn f.fst hx).ne
theorem wf {us:List Nat}(f:Frst us){bd:List (Nat×FE)}{fk:FE}{ρs:Nat->ao->Prop}(hst:∀n ρ,n<us.length->ρs n ρ->∃ρ2,Gx bd (ρ.set 2 (some (.val (.int (n:Int)))))=some ρ2/\((fk ρ2).bind RV.fr).bind fJ=some (.inl ((hd us n:Nat):Int))/\sl ρ2 2=some (.val (.int (n:Int)))/\ρs (n+1) ρ2) :
  ∀(k n:Nat) (ρ:ao),n+k=us.length->ρs n ρ->∃ρ2,nc 2 bd fk (fV 2) (af ((a0l k).map (n + ·))) ρ (xl (iN us n))=some (ρ2,xl (iN us us.length))/\ρs us.length ρ2
 |0,n,ρ,e,h=>by
  have:n=us.length:=by omega
  subst this
  exact⟨ρ,rfl,h⟩
 |k+1,n,ρ,e,h=>by
  obtain⟨ρ2,e1,e2,e3,h2⟩:=hst n ρ (by omega) h
  obtain⟨ρ3,e4,h3⟩:=wf f hst k (n+1) ρ2 (by omega) h2
  refine⟨ρ3,?_,h3⟩
  rw[a2y,a1g,a1d]
  show nc 2 bd fk (fV 2) (PV.int ((n+0:Nat):Int)::af ((a0l k).map ((n + ·) ∘ Nat.succ))) ρ _=_
  rw[bH,show n+0=n from rfl,e1,a4c,e2,a4c]
  show (((fV 2) ρ2).bind RV.fr).bind _=_
  rw[Pw,e3]
  show nc 2 bd fk (fV 2) _ ρ2 (qg (xl (iN us n)) (.inl ((hd us n:Nat):Int)) (.int (n:Int)))=_
  rw[Ja,←lU,show ((n + ·) ∘ Nat.succ)=(n+1 + ·) by funext m;show n+(m+1)=n+1+m;omega]
  exact e4
theorem Bf {us:List Nat}(f:Frst us):jD [.tup (af us)]=some (.n (BC us)):=by
 have hm:us.length<=40:=f.most
 have hst:∀n (ρ:ao),n<us.length->(∃z2 z3,ρ=[some (.val (.tup (af us))),none,z2,z3])->∃ρ2,Gx [(3,ak bE (aq jt (aa (fV 0) (aa (fV 2) ah))) (pS (fC (.int 1))))] (ρ.set 2 (some (.val (.int (n:Int)))))=some ρ2/\(((fV 3) ρ2).bind RV.fr).bind fJ=some (.inl ((hd us n:Nat):Int))/\sl ρ2 2=some (.val (.int (n:Int)))/\(∃z2 z3,ρ2=[some (.val (.tup (af us))),none,z2,z3]):=λn ρ hn ⟨z2,z3,e⟩=>by
  subst e
  refine⟨[some (.val (.tup (af us))),none,some (.val (.int (n:Int))),some (.val (.int (hd us n:Nat)))],?_,?_,?_,⟨_,_,rfl⟩⟩
  ·simp![bc,az,bp,aA,de,aB,aD,aP,aR,aC,bR,bq,bj,bO,bL,bN,bH,bo,aE,bn,aH,bP,bf,aG,ay,aO,aT,aK,aL,aw,c8,bh,aU,aQ,be,ax,aM,bD,aI,bQ,aZ,bg,aF,bm,aN,aV,aS,OV (.inl rfl) f hn,FZ f hn]
  ·simp![bc,az,bp,aA,de,aB,aD,aP,aR,aC,bR,bq,bj,bO,bL,bN,bH,bo,aE,bn,aH,bP,bf,aG,ay,aO,aT,aK,aL,aw,c8,bh,aU,aQ,be,ax,aM,bD,aI,bQ,aZ,bg,aF,bm,aN,aV,aS]
  ·simp![bc,az,bp,aA,de,aB,aD,aP,aR,aC,bR,bq,bj,bO,bL,bN,bH,bo,aE,bn,aH,bP,bf,aG,ay,aO,aT,aK,aL,aw,c8,bh,aU,aQ,be,ax,aM,bD,aI,bQ,aZ,bg,aF,bm,aN,aV,aS]
 obtain⟨ρ2,e,z2,z3,h2⟩:=wf f (ρs:=λ_ ρ=>∃z2 z3,ρ=[some (.val (.tup (af us))),none,z2,z3]) hst us.length 0 [some (.val (.tup (af us))),none,none,none] (by omega) ⟨none,none,rfl⟩
 subst h2
 rw[show ((a0l us.length).map λm=>0+m)=a0l us.length by rw[a1c λx _=>a2u x];exact a4x _] at e
 have g0:m8 (gN 0) fy hX [none] ((xl (iN us us.length)).map λt=>.lst t.2)=some (BC us):=by
  rw[ny (λp=>match p with|.lst ps=>.tup ps|p=>p) λp hp=>by
   obtain⟨t,ht,rfl⟩:=a1a.mp hp
   simp![hX]]
  unfold BC Eb xl
  rw[a1d,a1d,a1d];rfl
 have hl:(xl (iN us us.length)).length<=40:=by unfold xl;rw[a0i];exact a1r (rQ us us.length) hm
 have e':nc 2 [(3,ak bE (aq jt (aa (fV 0) (aa (fV 2) ah))) (pS (fC (.int 1))))] (fV 3) (fV 2) (af (a0l us.length)) [some (.val (.tup (af us))),none,none,none] []=_:=e
 have h1:(af (a0l us.length)).length<=1000:=by rw[cM,a0v];omega
 have h2:((xl (iN us us.length)).map λt=>PV.lst t.2).length<1000:=by rw[a0i];omega
 simp![wq,kf,hX,bc,az,bp,aA,de,aB,aD,aP,aR,aC,bR,bq,bj,bO,bL,bN,bH,bo,aE,bn,aH,bP,bf,aG,ay,aO,aT,aK,aL,aw,c8,bh,aU,aQ,be,ax,aM,bD,aI,bQ,aZ,bg,aF,bm,aN,aV,aS,(K1 (n:=us.length) (by omega)).1,a0v,a0i,if_pos (show us.length<=1000 by omega),e',if_pos (show (xl (iN us us.length)).length<1000 by omega),g0]
end Dp
end
section
namespace Pt
open L2 Fo Lo Dp
theorem uU (us:List Nat):∀m,iN us m=((a0l m).filter (mi (hd us))).map λx=>(hd us x,cl m (hd us) x)
 |0=>rfl
 |m+1=>by
  rw[lU,uU us m]
  generalize hd us=c
  have anyE:(((a0l m).filter (mi c)).map λx=>(c x,cl m c x)).any (λt=>decide (t.1=c m))=!mi c m:=by
   rw[a3c]
   rw[a2h,a3m,a2e]
   constructor
   ·rintro⟨x,hx,e⟩
    have e:c x=c m:=of_decide_eq_true e
    refine decide_eq_false λq=>?_
    exact q x (a0z.mp (a1u.mp hx).1) e
   ·intro q
    unfold mi at q
    rw[decide_eq_false_iff_not] at q
    have:∃y,y<m/\c y=c m:=Decidable.byContradiction λz=>q λy hy e=>z ⟨y,hy,e⟩
    obtain⟨y,hy,e⟩:=this
    obtain⟨z,h1,h2,h3⟩:=IA (c:=c) y
    exact⟨z,a1u.mpr ⟨a0z.mpr (by omega),h3⟩,decide_eq_true (h2.trans e)⟩
  unfold xo
  rw[anyE,a4s,a4w,a0x]
  cases h:mi c m with
  |true=>
   have h':=h
   unfold mi at h'
   rw[decide_eq_true_eq] at h'
   rw[a5v,if_neg a0u,a5c,if_pos h]
   congr 1
   ·refine a1c λx hx=>?_
    rw[tD,if_neg λz=>h' x (a0z.mp (a1u.mp hx).1) z.symm,a1s]
   ·have:cl m c m=[]:=List.filter_eq_nil_iff.mpr λy hy=>by rw[decide_eq_true_eq];exact h' y (a0z.mp hy)
    rw[List.filter_nil,a1g,a2o,tD,if_pos rfl,this];rfl
  |false=>
   rw[a5m,if_pos rfl,a5c,if_neg (by rw[h];exact a0u),List.filter_nil,a2o,a1s,a1d]
   refine a1c λx hx=>?_
   show (if c x=c m then (c x,cl m c x++[m]) else (c x,cl m c x))=_
   rw[tD]
   by_cases e:c x=c m
   ·rw[if_pos e,if_pos e.symm]
   ·rw[if_neg e,if_neg λz=>e z.symm,a1s]
theorem FU (us:List Nat):Eb us=dh us.length (hd us):=by
 unfold Eb dh
 rw[uU,a1d];rfl
end Pt
end
section
namespace Dp
open PySem PySem.Spec L2 Fo Lo Pt
variable {n:Nat}{ties:List Tl}
theorem PP {n:Nat}(h1:1<=n)(h2:n<=40){row:List (Nat×Nat)}(hr:∀p∈row,p.1<n/\p.2<n):b5 [.int n,.lst (j6 row)]=some (.v (.tup [.tup (af (rU n row)),.tup (qW (rW n row))])):=by
 obtain⟨w4,w5,w6,w7,w8,w9,w10,e⟩:=ue h2 (s1:=some (.val (.lst (j6 row)))) row 0 _ _ (a0r n none) none none none none none none none (AA h1 h2) a1p hr
 unfold rU rW
 simp![gO,cD,H9 h1 h2 tF o7,MH (show n<=1000 by omega),o9,kN,e,st2]
theorem xG (T:Ties n ties):∀p∈jw ties,p.1<n/\p.2<n:=λp hp=>by
 obtain⟨t,ht,rfl⟩:=a1a.mp hp
 exact T.lt t ht
theorem mH (T:Ties n ties):iw [.int (n:Nat),bY ties]=some (.n (fw (dh n (lab (jw ties) id)))):=by
 have hl:=T.len
 have e1:=xI T
 have g:=ny (t:=iH 3 (gC (gN 0) (gC (gN 1) (gC (gN 2) g0)))) (f:=ko) (ρ:=[none,none,none]) (λp=>match p with|.tup [a,b,_]=>.tup [a,b]|_=>.non) (its:=ties.map jM) λp hp=>by
  obtain⟨t,_,rfl⟩:=a1a.mp hp
  simp![jM,ko]
 have eg:(ties.map jM).map (λp=>match p with|.tup [a,b,_]=>PV.tup [a,b]|_=>.non)=j6 (jw ties):=by
  unfold j6 jw
  rw[a1d,a1d];rfl
 rw[eg] at g
 obtain⟨_,f,lu,_⟩:=CG T.h1 T.h2 (xG T)
 have e3:jD [.tup (af (rU n (jw ties)))]=some (.n (fw (dh n (lab (jw ties) id)))):=by
  rw[Bf f,←D7 T.h1 T.h2 (xG T)]
  show some (PR.n (fw (Eb (rU n (jw ties)))))=_
  rw[FU,lu]
 have a0:∀a b:PV,L2.c6 [a,b] 0=some a:=λa b=>rfl
 have e2:kR [.int (n:Nat),.lst (j6 (jw ties))]=some (.n (fw (dh n (lab (jw ties) id)))):=by
  simp![uK,kH,PP T.h1 T.h2 (xG T),a0,e3]
 unfold bY at e1 ⊢
 simp![xm,lT,bc,az,bp,aA,de,aB,aD,aP,aR,aC,bR,bq,bj,bO,bL,bN,bH,bo,aE,bn,aH,bP,bf,aG,ay,aO,aT,aK,aL,aw,c8,bh,aU,aQ,be,ax,aM,bD,aI,bQ,aZ,bg,aF,bm,aN,aV,aS,e1,a0i,if_pos (show ties.length<1000 by omega),g,e2]
structure NR (ties:List Tl)(x y:Nat)(rs:List Nat):Prop where
 ex:∃vs,Rq ties rs vs/\vs.Nodup/\vs.head?=some x/\vs.getLast?=some y
 ch:∀j∈rs,j∈ii ties
theorem NR.road {x y:Nat}{rs:List Nat}(h:NR ties x y rs):Road (sR ties) x y (rs.map (ps ties)):=by
 obtain⟨vs,h1,h2,h3,h4⟩:=h.ex
 exact⟨⟨vs,Rq.mapj (λj _ _ _ hE=>hE.pos) h1,h2,h3,h4⟩,λP hP=>by
  obtain⟨j,hj,rfl⟩:=a1a.mp hP
  exact mem_real.mp (mem_chs.mp (h.ch j hj)).2⟩
theorem Ce {i j:Nat}(hi:i<ties.length)(hj:j<ties.length)(h:ps ties i=ps ties j):i=j:=by
 have e1:=lY hi
 rw[h,lY hj] at e1
 exact (Option.some.inj e1).symm
theorem Aq {f:Nat->Nat}:∀{l m:List Nat},(∀a∈l,∀b∈m,f a=f b->a=b)->l.map f=m.map f->l=m
 |[],[],_,_=>rfl
 |[],_::_,_,h=>by cases h
 |_::_,[],_,h=>by cases h
 |a::l,b::m,hi,h=>by
  rw[a1g,a1g] at h
  obtain⟨h1,h2⟩:=List.cons.inj h
  rw[hi a a0e b a0e h1,Aq (λa ha b hb=>hi a (a0c _ ha) b (a0c _ hb)) h2]
theorem NR.uniq {x y:Nat}{rs rs':List Nat}(h:NR ties x y rs)(h':NR ties x y rs'):rs=rs':=
 Aq (λa ha b hb e=>Ce (eJ a (h.ch a ha)) (eJ b (h'.ch b hb)) e) (h.road.uniq h'.road)
theorem NR.rev {x y:Nat}{rs:List Nat}(h:NR ties x y rs):NR ties y x rs.reverse:=by
 obtain⟨vs,h1,h2,h3,h4⟩:=h.ex
 exact⟨⟨vs.reverse,h1.rev,(List.reverse_perm vs).nodup_iff.mpr h2,by rw[List.head?_reverse];exact h4,by rw[a5d];exact h3⟩,λj hj=>h.ch j (a4j.mp hj)⟩
theorem Rq.lab {L:List (Nat×Nat)}:∀{rs vs:List Nat} {x y:Nat},Rq ties rs vs->vs.head?=some x->vs.getLast?=some y->(∀k∈rs,ER ties k∈L)->Pt.lab L id x=Pt.lab L id y
 |[],[v],x,y,_,h1,h2,_=>by cases h1;cases h2;rfl
 |[],[],_,_,h,_,_,_=>h.elim
 |[],_::_::_,_,_,h,_,_,_=>h.elim
 |_::_,[],_,_,h,_,_,_=>h.elim
 |_::_,[_],_,_,h,_,_,_=>h.elim
 |j::ns,a::e::vs,x,y,⟨⟨t,et,hs⟩,t'⟩,h1,h2,hk=>by
  cases h1
  rw[a2w] at h2
  have hp:=hk j a0e
  rw[qN et] at hp
  have e1:=iu L id _ _ hp
  have e2:=Rq.lab t' rfl h2 λi hi=>hk i (a0c _ hi)
  rcases hs with ⟨rfl,rfl⟩|⟨rfl,rfl⟩
  ·exact e1.trans e2
  ·exact e1.symm.trans e2
noncomputable def IG (v:Int)(t:Tl):Bool:=decide (t.2.2<=v)
theorem NR.conn {x y:Nat}{rs:List Nat}(h:NR ties x y rs)(v:Int):lab (jw (ties.filter (IG v))) id x=lab (jw (ties.filter (IG v))) id y↔∀k∈rs,wt ties k<=v:=by
 constructor
 ·intro e
  by_cases q:∀k∈rs,wt ties k<=v
  ·exact q
  ·exfalso
   obtain⟨k,hk⟩:=Classical.not_forall.mp q
   obtain⟨hk,hv⟩:=Classical.not_imp.mp hk
   have hkl:=eJ k (h.ch k hk)
   have e2:lab ((sR ties).take (ps ties k)) id x=lab ((sR ties).take (ps ties k)) id y:=by
    refine zN (λp hp=>?_) e
    obtain⟨t,ht,rfl⟩:=a1a.mp hp
    obtain⟨ht1,ht2⟩:=a1u.mp ht
    obtain⟨i,hi,rfl⟩:=a3k ht1
    have et:ties[i]?=some ties[i]:=a0f hi
    have hw:wt ties i<=v:=by rw[mL et];exact of_decide_eq_true ht2
    have hlt:ps ties i<ps ties k:=by
     rcases Nat.lt_trichotomy (ps ties i) (ps ties k) with z|z|z
     ·exact z
     ·have:=Ce hi hkl z
      subst this
      exact absurd hw hv
     ·have:=JH hkl hi z
      unfold Bn at this
      omega
    have es:(sR ties)[ps ties i]?=some (ER ties i):=by
     unfold sR
     rw[a0q,lY hi];rfl
    rw[qN et] at es
    exact iu _ _ _ _ (a1i (i:=ps ties i) (by rw[a4u,if_pos hlt];exact es))
   have:=h.road.when.mp e2 (ps ties k) (a1f hk)
   exact a1k _ this
 ·intro hw
  obtain⟨vs,h1,h2,h3,h4⟩:=h.ex
  refine Rq.lab h1 h3 h4 λk hk=>?_
  have et:ties[k]?=some (ties[k]'(eJ k (h.ch k hk))):=a0f _
  rw[qN et]
  refine a1f (f:=λt:Tl=>(t.1,t.2.1)) (a1u.mpr ⟨a1w _,decide_eq_true ?_⟩)
  have:=hw k hk
  rwa [mL et] at this
noncomputable def wM (ties:List Tl)(rs:List Nat):Int:=if (rs.map (wt ties)).length=0 then 0 else lP (rs.map (wt ties))
theorem hK (T:Ties n ties){rs:List Nat}(hr:∀k∈rs,k<ties.length){v:Int}(hv:0<=v):wM ties rs<=v↔∀k∈rs,wt ties k<=v:=by
 unfold wM
 by_cases h0:(rs.map (wt ties)).length=0
 ·rw[if_pos h0]
  have:rs=[]:=a2t.mp (by rwa [a0i] at h0)
  subst this
  exact⟨λ_ _ h=>(by cases h),λ_=>hv⟩
 ·rw[if_neg h0]
  obtain⟨m1,m2⟩:=kK (is:=rs.map (wt ties)) (by omega)
  constructor
  ·intro h k hk
   have:=m2 _ (a1f (f:=wt ties) hk)
   omega
  ·intro h
   obtain⟨k,hk,e⟩:=a1a.mp m1
   rw[←e];exact h k hk
theorem lh (T:Ties n ties){rs:List Nat}(hr:∀k∈rs,k<ties.length):0<=wM ties rs:=by
 unfold wM
 by_cases h0:(rs.map (wt ties)).length=0
 ·rw[if_pos h0];exact a2c _
 ·rw[if_neg h0]
  obtain⟨m1,_⟩:=kK (is:=rs.map (wt ties)) (by omega)
  obtain⟨k,hk,e⟩:=a1a.mp m1
  have et:ties[k]?=some (ties[k]'(hr k hk)):=a0f _
  rw[←e,mL et];exact T.nn _ (a1w _)
theorem NC {js:List Nat}{x e:Nat}(r:Rch (eB ties js) x e):Rch (bG ties js) x e:=by
 induction r with
 |refl=>exact .refl
 |step _ q ih=>
  obtain⟨j,hj,rfl,t,et,hs⟩:=lH q
  obtain⟨m1,m2⟩:=nK hj et
  rcases hs with ⟨rfl,rfl⟩|⟨rfl,rfl⟩
  ·exact .step ih m1
  ·exact .step ih m2
theorem kQ (T:Ties n ties){x y:Nat}:Rch (bG ties (ii ties)) x y↔lab (jw ties) id x=lab (jw ties) id y:=by
 constructor
 ·intro r;exact (OQ r).symm
 ·intro e
  have hP:∀t∈ties,(Rch (bG ties (ii ties)) x t.1↔Rch (bG ties (ii ties)) x t.2.1):=λt ht=>by
   obtain⟨k,hk,rfl⟩:=a3k ht
   have r:=NC (F1 T (a0f hk))
   exact⟨λh=>h.trans r,λh=>h.trans r.symm⟩
  exact (uM hP (x:=x) (y:=y) e).mp .refl
theorem CE:gq [bY ties,.tup (af (ii ties))]=some (.n ((bG ties (ii ties)).map sD))\/400<(ii ties).length:=by
 by_cases hl:(ii ties).length<=400
 ·left
  obtain⟨z3,z4,z5,e⟩:=sQ (row:=ties) (s1:=some (.val (.tup (af (ii ties))))) (ii ties) [] none none none eJ (by simp;omega)
  have e':bZ (gN 3) cZ (af (ii ties)) [some (.val (bY ties)),some (.val (.tup (af (ii ties)))),some (.own []),none,none,none]=_:=e
  simp![oJ,gW,cZ,bc,az,bp,aA,de,aB,aD,aP,aR,aC,bR,bq,bj,bO,bL,bN,bH,bo,aE,bn,aH,bP,bf,aG,ay,aO,aT,aK,aL,aw,c8,bh,aU,aQ,be,ax,aM,bD,aI,bQ,aZ,bg,aF,bm,aN,aV,aS,e',a2l]
 ·right;omega
noncomputable abbrev Pi (ties:List Tl)(rs:List Nat):PV:=.tup [.int (wM ties rs),.tup (af rs)]
theorem eR (T:Ties n ties){x y:Nat}(hx:x<n)(hy:y<n) :
  (∃rs,bJ [.int (n:Nat),bY ties,.int (x:Nat),.int (y:Nat)]=some (.v (Pi ties rs))/\NR ties x y rs/\rs.length<40/\lab (jw ties) id x=lab (jw ties) id y) ∨
  (bJ [.int (n:Nat),bY ties,.int (x:Nat),.int (y:Nat)]=some (.v .non)/\lab (jw ties) id x≠lab (jw ties) id y):=by
 have hn:=T.h2
 have hl:=T.len
 have hcl:=um (ties:=ties)
 have c1:=vk (m:=(n:Int)) (x:=(x:Int)) (by omega) (by omega)
 have c2:=vk (m:=(n:Int)) (x:=(y:Int)) (by omega) (by omega)
 have e1:=xI T
 have e2:=uB T
 have e3:=(CE (ties:=ties)).resolve_right (by omega)
 obtain⟨K,k1,RK,kc⟩:=GW hn hx (Ez T.lt (js:=ii ties))
 by_cases hin:y∈K.map (·.1)
 ·obtain⟨q,fq,mq⟩:=mI hin
  obtain⟨vs,tr,nd,_⟩:=RK.tr _ mq
  have hq:q.length<n:=RK.rlen mq
  obtain⟨r1,r2,r3,r4⟩:=tr.rq
  have g1:mh (rD K) [.int (y:Nat)]=some (.fz (.tup q)):=by rw[Iq,fq];rfl
  have g2:=Ow (r:=q) λl hl=>by obtain⟨j,s,u,a,_⟩:=tr.labels l hl;exact⟨j,s,a⟩
  have eb:cL [.lst ((bG ties (ii ties)).map sD),.int (x:Nat),.int (y:Nat)]=some (.v (.tup (af (q.map wI)))):=by
   simp![hO,cS,bK,bc,az,bp,aA,de,aB,aD,aP,aR,aC,bR,bq,bj,bO,bL,bN,bH,bo,aE,bn,aH,bP,bf,aG,ay,aO,aT,aK,aL,aw,c8,bh,aU,aQ,be,ax,aM,bD,aI,bQ,aZ,bg,aF,bm,aN,aV,aS,k1,g1,if_pos (show q.length<1000 by omega),g2]
  have hlt:∀j∈q.map wI,j<ties.length:=λj hj=>eJ j (r4 j hj)
  have g:=tm (q.map wI) hlt (f:=iG) λk t et=>by
   have a2:∀a b c:PV,L2.c6 [a,b,c] 2=some c:=λa b c=>rfl
   simp![iG,bY,m5 et,jM,a2]
  have io:dJ (((q.map wI).map (wt ties)).map PV.int)=some ((q.map wI).map (wt ties)):=jN _
  have ew:(if ((q.map wI).map (wt ties)).length=0 then PV.int 0 else .int (lP ((q.map wI).map (wt ties))))=.int (wM ties (q.map wI)):=by
   unfold wM
   split<;>rfl
  have lq:(q.map wI).length<1000:=by rw[a0i];omega
  refine .inl ⟨q.map wI,?_,⟨⟨vs,r1,nd,r2,r3⟩,r4⟩,by rw[a0i];omega,(kQ T).mp ((RK.keys kc y).mp hin)⟩
  generalize q.map wI=rs at *
  unfold bY at e1 e2 e3 g ⊢
  simp![k6,gc,Pi,bc,az,bp,aA,de,aB,aD,aP,aR,aC,bR,bq,bj,bO,bL,bN,bH,bo,aE,bn,aH,bP,bf,aG,ay,aO,aT,aK,aL,aw,c8,bh,aU,aQ,be,ax,aM,bD,aI,bQ,aZ,bg,aF,bm,aN,aV,aS,e1,c1,c2,e2,e3,eb,cM,if_pos lq,g,io,ew]
 ·have g1:mh (rD K) [.int (y:Nat)]=some (.fz .non):=by
   rw[Iq]
   cases ef:K.find? λu=>decide (u.1=y) with
   |none=>rfl
   |some u=>exact absurd (by have:=tL (y:=y) (K:=K);rw[ef] at this;exact of_decide_eq_true this.symm) hin
  have eb:cL [.lst ((bG ties (ii ties)).map sD),.int (x:Nat),.int (y:Nat)]=some (.v .non):=by
   simp![hO,cS,bK,bc,az,bp,aA,de,aB,aD,aP,aR,aC,bR,bq,bj,bO,bL,bN,bH,bo,aE,bn,aH,bP,bf,aG,ay,aO,aT,aK,aL,aw,c8,bh,aU,aQ,be,ax,aM,bD,aI,bQ,aZ,bg,aF,bm,aN,aV,aS,k1,g1]
  refine .inr ⟨?_,λe=>hin ((RK.keys kc y).mpr ((kQ T).mpr e))⟩
  unfold bY at e1 e2 e3 ⊢
  simp![k6,gc,bc,az,bp,aA,de,aB,aD,aP,aR,aC,bR,bq,bj,bO,bL,bN,bH,bo,aE,bn,aH,bP,bf,aG,ay,aO,aT,aK,aL,aw,c8,bh,aU,aQ,be,ax,aM,bD,aI,bQ,aZ,bg,aF,bm,aN,aV,aS,e1,c1,c2,e2,e3,eb]
end Dp
end
section
namespace Dp
open PySem PySem.Spec L2 Fo Pt
noncomputable abbrev TS (s0:Option Sl)(a n:Nat)(s3:Option Sl)(h:Nat)(row:List (Nat×Nat))(hs:List Nat)(ts:List Tl)(z8 z9:Option Sl):ao:=
 [s0,some (.val (.int (a:Nat))),some (.val (.int (n:Nat))),s3,some (.val (.int (h:Nat))),some (.val (.tup (j6 row))),some (.val (.lst (af hs))),some (.own (ts.map jM)),z8,z9]
theorem Hb {ns:List Int}{a h:Nat}(ha:a<=500)(hh:1<=h){row:List (Nat×Nat)}{hs:List Nat}(hhs:hs.length=3){k:Nat}(hk:k<=100){p:Nat×Nat}(ep:row[k]?=some p){ts:List Tl}(hl:ts.length<=100){s3 z9:Option Sl}:∃w z9',0<=w/\eC (TS (some (.val (.src (iL ns)))) a n s3 h row hs ts (some (.val (.int (k:Nat)))) z9)=.nx (TS (some (.val (.src (iL ns)))) a n s3 h row hs (ts++[(p.1,p.2,w)]) (some (.val (.int (k:Nat)))) z9'):=by
 obtain⟨c,ec⟩:=pU ns ((a:Int)+21+(k:Int) / 10) (by omega) (by omega)
 obtain⟨xs,hx,ex⟩:=jq c 10 (by decide) (by decide)
 have hx:xs.length=10:=hx
 have i1:L2.c6 (af xs) ((k:Int) % 10)=some (.int (up xs (k % 10):Nat)):=by
  rw[show (k:Int) % 10=((k % 10:Nat):Int) by omega];exact au (by omega)
 have i0:L2.c6 (af hs) 0=some (.int (up hs 0:Nat)):=au (x:=0) (by omega)
 obtain⟨d,hd,ed⟩:∃d:Nat,1<=d/\L2.c6 [PV.int 1,.int 3,.int 12,.int (h:Nat)] ((up hs 0:Int) % 4)=some (.int (d:Nat)):=by
  have:up hs 0 % 4<4:=a3q _ (by decide)
  rw[show (up hs 0:Int) % 4=((up hs 0 % 4:Nat):Int) by omega]
  generalize up hs 0 % 4=q at this
  rcases (by omega:q=0\/q=1\/q=2\/q=3) with rfl|rfl|rfl|rfl
  ·exact⟨1,by omega,rfl⟩
  ·exact⟨3,by omega,rfl⟩
  ·exact⟨12,by omega,rfl⟩
  ·exact⟨h,hh,rfl⟩
 have pd:(0:Int)<(d:Int):=by omega
 have l1:(ts.map jM).length<=100000:=by rw[a0i];omega
 refine⟨(up xs (k % 10):Int) / 3 % (d:Int),some (.val (.lst (af xs))),a2s _ (by omega),?_⟩
 have ea:ts.map jM++[.tup [.int (p.1:Nat),.int (p.2:Nat),.int ((up xs (k % 10):Int) / 3 % (d:Int))]]=(ts++[(p.1,p.2,(up xs (k % 10):Int) / 3 % (d:Int))]).map jM:=by rw[a0x];rfl
 simp![eC,TS,bc,az,bp,aA,de,aB,aD,aP,aR,aC,bR,bq,bj,bO,bL,bN,bH,bo,aE,bn,aH,bP,bf,aG,ay,aO,aT,aK,aL,aw,c8,bh,aU,aQ,be,ax,aM,bD,aI,bQ,aZ,bg,aF,bm,aN,aV,aS,ec,ex,Hj ep,i1,i0,ed,pd,a3n,a2l,if_pos l1,ea]
theorem u4 {ns:List Int}{a h:Nat}(ha:a<=500)(hh:1<=h){row:List (Nat×Nat)}(hr:row.length<=60){hs:List Nat}(hhs:hs.length=3){s3:Option Sl}:∀(ps pre:List (Nat×Nat)) (ts:List Tl) (z8 z9:Option Sl),row=pre++ps->jw ts=pre->(∀t∈ts,0<=t.2.2) →
  ∃ts' w8 w9,jw ts'=row/\(∀t∈ts',0<=t.2.2)/\bZ (gN 8) eC (af (List.range' pre.length ps.length)) (TS (some (.val (.src (iL ns)))) a n s3 h row hs ts z8 z9)=.nx (TS (some (.val (.src (iL ns)))) a n s3 h row hs ts' w8 w9)
 |[],pre,ts,z8,z9,e,et,hw=>⟨ts,z8,z9,by rw[et,e,a1s],hw,by rw[a2f,List.range'_zero,show af []=[] from rfl,iV]⟩
 |p::ps,pre,ts,z8,z9,e,et,hw=>by
  have ep:row[pre.length]?=some p:=by rw[e,a1y (a0n _),a5y];rfl
  have hpl:=(a0j.mp ep).1
  have htl:ts.length=pre.length:=by rw[←et];exact (a0i ..).symm
  obtain⟨w,v9,hw0,e1⟩:=Hb (n:=n) (ns:=ns) (s3:=s3) (z9:=z9) ha hh hhs (show pre.length<=100 by omega) ep (ts:=ts) (by omega)
  have pl:(pre++[p]).length=pre.length+1:=by rw[a0t];rfl
  obtain⟨ts',w8,w9,f1,f2,e2⟩:=u4 ha hh hr hhs (ns:=ns) (s3:=s3) ps (pre++[p]) (ts++[(p.1,p.2,w)]) (some (.val (.int (pre.length:Nat)))) v9 (by rw[e,a1x];rfl) (by unfold jw at et ⊢;rw[a0x,et];rfl) (λt ht=>by
   rcases a0w.mp ht with ht|ht
   ·exact hw t ht
   ·rw[a0g.mp ht];exact hw0)
  refine⟨ts',w8,w9,f1,f2,?_⟩
  rw[pl] at e2
  rw[a0p,List.range'_succ,cW,eN,←e2]
  simp![TS] at e1 ⊢
  rw[e1]
  simp![true_and]
theorem JU (ns:List Int){a n m h:Nat}(h1:1<=n)(h2:n<=40)(ha:a<=400)(hm:m<=60)(hh:1<=h):∃ties:List Tl,Ties n ties/\ties.length<=m/\gP [.src (iL ns),.int (a:Nat),.int (n:Nat),.int (m:Nat),.int (h:Nat)]=some (.v (bY ties)):=by
 obtain⟨row,r1,r2,er⟩:=Dc ns (at':=a) (n:=n) (m:=m) h1 h2 (by omega) hm
 obtain⟨c,ec⟩:=pU ns ((a:Int)+20) (by omega) (by omega)
 obtain⟨hs,hhs,eh⟩:=jq c 3 (by decide) (by decide)
 have hhs:hs.length=3:=hhs
 obtain⟨ts,w8,w9,f1,f2,e⟩:=u4 (n:=n) (ns:=ns) (s3:=some (.val (.int (m:Nat)))) (show a<=500 by omega) hh (show row.length<=60 by omega) hhs row [] [] none none rfl rfl (λ_ h=>by cases h)
 rw[a2f,←a5j] at e
 have e':bZ (gN 8) eC (af (a0l row.length)) [some (.val (.src (iL ns))),some (.val (.int (a:Nat))),some (.val (.int (n:Nat))),some (.val (.int (m:Nat))),some (.val (.int (h:Nat))),some (.val (.tup (j6 row))),some (.val (.lst (af hs))),some (.own []),none,none]=_:=e
 have hl:ts.length=row.length:=by rw[←f1];exact (a0i ..).symm
 refine⟨ts,⟨h1,h2,λt ht=>?_,f2,by omega⟩,by omega,?_⟩
 ·have:(t.1,t.2.1)∈row:=by rw[←f1];exact a1f (f:=λt:Tl=>(t.1,t.2.1)) ht
  exact r1 _ this
 ·simp![rb,jf,bc,az,bp,aA,de,aB,aD,aP,aR,aC,bR,bq,bj,bO,bL,bN,bH,bo,aE,bn,aH,bP,bf,aG,ay,aO,aT,aK,aL,aw,c8,bh,aU,aQ,be,ax,aM,bD,aI,bQ,aZ,bg,aF,bm,aN,aV,aS,er,ec,eh,oY,K1 (show row.length<=100000 by omega),e',bY]
end Dp
end
section
namespace K61
open PySem PySem.Spec L2 Fo Lo Dp Pt
variable {n:Nat}{ties:List Tl}
theorem vF (T:Ties n ties){ts:List Tl}(h:∀t∈ts,t∈ties)(hl:ts.length<=60):Ties n ts:=⟨T.h1,T.h2,λt ht=>T.lt t (h t ht),λt ht=>T.nn t (h t ht),hl⟩
theorem Ng {x y:Nat}(l:List Nat):cX [some (.val (.tup (af l))),some (.val (.int (x:Nat))),some (.val (.int (y:Nat)))]=some (.fz (.bl (decide (x∈l)&&decide (y∈l)))):=by
 by_cases h:x∈l
 ·simp![cX,b9,eG,iE,decide_eq_true h]
 ·simp![cX,b9,eG,iE,decide_eq_false h]
theorem qI {c:Nat->Nat}{x y:Nat}(h2:n<=40)(hx:x<n)(hy:y<n):dH [.lst (fw (dh n c)),.int (x:Nat),.int (y:Nat)]=some (.v (.bl (decide (c x=c y)))):=by
 have g:=ny (t:=gN 0) (f:=cX) (ρ:=[none,some (.val (.int (x:Nat))),some (.val (.int (y:Nat)))]) (λp=>match p with|.tup q=>.bl (pin (.int (x:Nat)) q&&pin (.int (y:Nat)) q)|_=>.non) (its:=fw (dh n c)) λp hp=>by
  obtain⟨l,hl,rfl⟩:=a1a.mp hp
  rw[show gN 0 (PV.tup (af l)) [none,some (.val (.int (x:Nat))),some (.val (.int (y:Nat)))]=some [some (.val (.tup (af l))),some (.val (.int (x:Nat))),some (.val (.int (y:Nat)))] from rfl,a4c,Ng]
  show some (PV.bl _)=some (PV.bl (pin (.int (x:Nat)) (af l)&&pin (.int (y:Nat)) (af l)))
  rw[iE,iE]
 have eg:(fw (dh n c)).map (λp=>match p with|.tup q=>PV.bl (pin (.int (x:Nat)) q&&pin (.int (y:Nat)) q)|_=>.non)=(dh n c).map λl=>PV.bl (decide (x∈l)&&decide (y∈l)):=by
  unfold fw
  rw[a1d]
  refine a1c λl _=>?_
  show PV.bl (pin (.int (x:Nat)) (af l)&&pin (.int (y:Nat)) (af l))=_
  rw[iE,iE]
 rw[eg] at g
 have b:=EE (λl:List Nat=>decide (x∈l)&&decide (y∈l)) (dh n c)
 have e:((dh n c).map λl=>decide (x∈l)&&decide (y∈l)).any id=decide (c x=c y):=by
  rw[a3c]
  show (dh n c).any (λl=>decide (x∈l)&&decide (y∈l))=_
  rw[C3 hx,decide_eq_true hy,Bool.and_true]
 have l1:(fw (dh n c)).length<1000:=by rw[AH];have:=Bg n c;omega
 simp![oN,gX,bc,az,bp,aA,de,aB,aD,aP,aR,aC,bR,bq,bj,bO,bL,bN,bH,bo,aE,bn,aH,bP,bf,aG,ay,aO,aT,aK,aL,aw,c8,bh,aU,aQ,be,ax,aM,bD,aI,bQ,aZ,bg,aF,bm,aN,aV,aS,if_pos l1,g,b,e]
theorem I2 (T:Ties n ties)(v:Int):cY [.int (n:Nat),bY ties,.int v]=some (.n (fw (dh n (lab (jw (ties.filter (IG v))) id)))):=by
 have hl:=T.len
 have e:=sf (t:=gN 0) (c:=eM) (f:=eL) (ρ:=[none,some (.val (.int v))]) (λp=>match p with|.tup [_,_,.int w]=>decide (w<=v)|_=>false) id (its:=ties.map jM) (λp hp=>by
  obtain⟨t,_,rfl⟩:=a1a.mp hp
  have a2:∀a b c:PV,L2.c6 [a,b,c] 2=some c:=λa b c=>rfl
  refine⟨_,rfl,?_,λ_=>?_⟩
  ·simp![jM,eM,a2]
  ·simp![eL,id])
 have e2:((ties.map jM).filter λp=>match p with|.tup [_,_,.int w]=>decide (w<=v)|_=>false)=(ties.filter (IG v)).map jM:=by
  rw[List.filter_map];rfl
 rw[a4x,e2] at e
 have ep:=mH (vF T (ts:=ties.filter (IG v)) (λt ht=>(a1u.mp ht).1) (by have:=a3a (IG v) ties;omega))
 unfold bY at ep ⊢
 simp![lJ,e8,bc,az,bp,aA,de,aB,aD,aP,aR,aC,bR,bq,bj,bO,bL,bN,bH,bo,aE,bn,aH,bP,bf,aG,ay,aO,aT,aK,aL,aw,c8,bh,aU,aQ,be,ax,aM,bD,aI,bQ,aZ,bg,aF,bm,aN,aV,aS,a0i,if_pos (show ties.length<1000 by omega),e,ep]
noncomputable def oO (ties:List Tl):List Tl:=ties.map λt=>(t.1,t.2.1,t.2.2+1)
theorem mz:(oO ties).length=ties.length:=a0i ..
theorem ED {k:Nat}{t:Tl}(h:ties[k]?=some t):(oO ties)[k]?=some (t.1,t.2.1,t.2.2+1):=by unfold oO;rw[a0q,h];rfl
theorem kF (T:Ties n ties):Ties n (oO ties):=⟨T.h1,T.h2,λt ht=>by
 obtain⟨u,hu,rfl⟩:=a1a.mp ht
 exact T.lt u hu,λt ht=>by
 obtain⟨u,hu,rfl⟩:=a1a.mp ht
 have:=T.nn u hu
 show 0<=u.2.2+1;omega,by rw[mz];exact T.len⟩
theorem xH {k:Nat}(h:k<ties.length):wt (oO ties) k=wt ties k+1:=by
 have e:=a0f h
 rw[mL e,mL (ED e)]
theorem E7 (k:Nat):ER (oO ties) k=ER ties k:=by
 unfold ER oO
 rw[a0q]
 cases ties[k]?<;>rfl
theorem Gb (a:Nat):¬Bn ties a a:=λh=>by unfold Bn at h;omega
theorem LI (a b c:Nat)(h1:Bn ties a b)(h2:Bn ties b c):Bn ties a c:=by unfold Bn at *;omega
theorem BG:od (oO ties)=od ties:=by
 refine yW (lt:=Bn ties) Gb LI ?_ Cb λa=>by rw[od_mem,od_mem,mz]
 refine List.Pairwise.imp_of_mem (λ{a b} ha hb h=>?_) (Cb (ties:=oO ties))
 rw[od_mem,mz] at ha hb
 unfold Bn at h ⊢
 rw[xH ha,xH hb] at h
 omega
theorem Kt:sR (oO ties)=sR ties:=by
 unfold sR
 rw[BG]
 exact a1c λk _=>E7 k
theorem Hd:ii (oO ties)=ii ties:=by
 unfold ii ps
 rw[BG,Kt,mz]
theorem Jf {j a e:Nat}(h:Ed ties j a e):Ed (oO ties) j a e:=by
 obtain⟨t,et,hs⟩:=h
 exact⟨_,ED et,hs⟩
theorem LF {x y:Nat}{rs:List Nat}(h:NR ties x y rs):NR (oO ties) x y rs:=by
 obtain⟨vs,h1,h2,h3,h4⟩:=h.ex
 have:=Rq.mapj (row':=oO ties) (f:=id) (λj _ _ _ hE=>Jf hE) h1
 rw[a4x] at this
 exact⟨⟨vs,this,h2,h3,h4⟩,λj hj=>by rw[Hd];exact h.ch j hj⟩
theorem K5 (T:Ties n ties){rs:List Nat}(hr:∀k∈rs,k<ties.length)(h0:rs≠[]):wM (oO ties) rs=wM ties rs+1:=by
 have hr':∀k∈rs,k<(oO ties).length:=λk hk=>by rw[mz];exact hr k hk
 have n1:=lh T hr
 have n2:=lh (kF T) hr'
 have ww:∀k∈rs,wt (oO ties) k=wt ties k+1:=λk hk=>xH (hr k hk)
 have nn:∀k∈rs,0<=wt ties k:=λk hk=>by
  have et:ties[k]?=some (ties[k]'(hr k hk)):=a0f _
  rw[mL et];exact T.nn _ (a1w _)
 refine a2r ((hK (kF T) hr' (by omega)).mpr λk hk=>?_) ?_
 ·have:=(hK T hr n1).mp (a2c _) k hk
  rw[ww k hk];omega
 ·obtain⟨k0,hk0⟩:=a4t rs h0
  have p1:1<=wM (oO ties) rs:=by
   have:=(hK (kF T) hr' n2).mp (a2c _) k0 hk0
   rw[ww k0 hk0] at this
   have:=nn k0 hk0
   omega
  have:wM ties rs<=wM (oO ties) rs - 1:=(hK T hr (by omega)).mpr λk hk=>by
   have:=(hK (kF T) hr' n2).mp (a2c _) k hk
   rw[ww k hk] at this
   omega
  omega
theorem GL:lab (jw (oO ties)) id=lab (jw ties) id:=by
 have:jw (oO ties)=jw ties:=by unfold jw oO;rw[a1d];rfl
 rw[this]
theorem Lw (T:Ties n ties):m8 (gN 0) fy cE [none] (ties.map jM)=some ((oO ties).map jM):=by
 have:=ny (t:=gN 0) (f:=cE) (ρ:=[none]) (λp=>match p with|.tup [a,b,.int w]=>.tup [a,b,.int (w+1)]|_=>.non) (its:=ties.map jM) λp hp=>by
  obtain⟨t,_,rfl⟩:=a1a.mp hp
  have a2:∀a b c:PV,L2.c6 [a,b,c] 2=some c:=λa b c=>rfl
  simp![jM,cE,if_neg E6,DX,a2,a3n,a2l]
 rw[this]
 unfold oO
 rw[a1d,a1d];rfl
theorem Ov {js:List Nat}{x e:Nat}(hjs:∀j∈js,j<ties.length)(r:Rch (bG ties js) x e):Rch (eB ties js) x e:=by
 induction r with
 |refl=>exact .refl
 |step _ q ih=>
  obtain⟨j,s,u,hj,eu,_,hs⟩:=fu q
  exact .step ih (m9 hj ⟨u,eu,by rcases hs with ⟨_,h⟩|⟨_,h⟩;exact .inl h;exact .inr h⟩)
theorem GK (T:Ties n ties){x y:Nat}(hx:x<n)(hy:y<n){rs:List Nat}(h:NR ties x y rs)(hc:lab (jw ties) id x=lab (jw ties) id y):d8 [bY ties,.tup (af (ii ties)),.int (x:Nat),.int (y:Nat)]=some (.v (.tup (af rs))):=by
 obtain⟨rs',vs,e,k1,nd,k2,k3,k4,_⟩:=wT T (qv:=.tup (af (ii ties))) rfl eJ hx hy (Ov eJ ((kQ T).mpr hc))
 have:rs'=rs:=NR.uniq ⟨⟨vs,k1,nd,k2,k3⟩,k4⟩ h
 rw[←this];exact e
theorem Jl (rs:List Nat)(T:Ties n ties)(hr:∀k∈rs,k<ties.length):lP ((0:Int)::rs.map (wt ties))=wM ties rs:=by
 obtain⟨m1,m2⟩:=kK (is:=(0:Int)::rs.map (wt ties)) (by simp)
 have n1:=lh T hr
 refine a2r ?_ ?_
 ·rcases a0s.mp m1 with e|e
  ·rw[e];exact n1
  ·obtain⟨k,hk,e⟩:=a1a.mp e
   rw[←e];exact (hK T hr n1).mp (a2c _) k hk
 ·refine (hK T hr ?_).mpr λk hk=>?_
  ·have:=m2 0 a0e;omega
  ·exact m2 _ (a0c _ (a1f (f:=wt ties) hk))
theorem Lf (T:Ties n ties){rs:List Nat}(hr:∀k∈rs,k<ties.length):wM ties rs.reverse=wM ties rs:=by
 have hr':∀k∈rs.reverse,k<ties.length:=λk hk=>hr k (a4j.mp hk)
 refine a2r ((hK T hr' (lh T hr)).mpr λk hk=>?_) ((hK T hr (lh T hr')).mpr λk hk=>?_)
 ·exact (hK T hr (lh T hr)).mp (a2c _) k (a4j.mp hk)
 ·exact (hK T hr' (lh T hr')).mp (a2c _) k (a4j.mpr hk)
theorem Op {x y:Nat}(h:NR ties x y []):x=y:=by
 obtain⟨vs,h1,_,h3,h4⟩:=h.ex
 cases vs with
 |nil=>exact h1.elim
 |cons v vs=>cases vs with
  |nil=>cases h3;cases h4;rfl
  |cons=>exact h1.elim
theorem Fq {x:Nat}:NR ties x x []:=⟨⟨[x],trivial,by simp,rfl,rfl⟩,λ_ h=>by cases h⟩
theorem Fe (k:Nat)(t:Tl)(et:ties[k]?=some t):cG [some (.val (.int (k:Nat))),some (.val (bY ties))]=some (.fz (.int t.2.2)):=by
 have a2:∀a b c:PV,L2.c6 [a,b,c] 2=some c:=λa b c=>rfl
 simp![cG,bY,m5 et,jM,a2]
theorem xn (T:Ties n ties){x y:Nat}(hx:x<n)(hy:y<n):cA [.int (n:Nat),bY ties,.int (x:Nat),.int (y:Nat)]=some (.v (.bl true)):=by
 have hl:=T.len
 have h2:=T.h2
 have ep:=mH T
 have ei:=qI (c:=lab (jw ties) id) h2 hx hy
 rcases eR T hx hy with ⟨rs,e1,R,hr,hc⟩|⟨e1,hc⟩
 ·rw[decide_eq_true hc] at ei
  have el:=yf T
  have er:=GK T hx hy R hc
  have hlt:∀k∈rs,k<ties.length:=λk hk=>eJ k (R.ch k hk)
  have n0:=lh T hlt
  have pp:dY (af rs) (af rs)=true:=jv (b9 _)
  have g:=tm rs hlt (f:=cG) Fe
  have io:dJ (.int 0::(rs.map (wt ties)).map PV.int)=some ((0:Int)::rs.map (wt ties)):=jN ((0:Int)::rs.map (wt ties))
  have em:=Jl rs T hlt
  have e3:bJ [.int (n:Nat),bY ties,.int (y:Nat),.int (x:Nat)]=some (.v (.tup [.int (wM ties rs),.tup (af rs.reverse)])):=by
   rcases eR T hy hx with ⟨rs',e3,R',_,_⟩|⟨_,hc'⟩
   ·rw[R'.uniq R.rev,Pi,Lf T hlt] at e3
    exact e3
   ·exact absurd hc.symm hc'
  have er2:(af rs).reverse=af rs.reverse:=by unfold af;rw[List.map_reverse]
  have pr:dY (af rs.reverse) (af rs.reverse)=true:=jv (b9 _)
  have dw:decide (wM ties rs=wM ties rs)=true:=decide_eq_true rfl
  have b0:∀a b:PV,L2.c6 [a,b] 0=some a:=λa b=>rfl
  have b1:∀a b:PV,L2.c6 [a,b] 1=some b:=λa b=>rfl
  have l1:rs.length<1000:=by omega
  have l2:1+rs.length<=100000:=by omega
  have ne0:¬((0:Int)::rs.map (wt ties)).length=0:=by simp
  have d2:decide (((2:Nat):Int)=2)=true:=by decide
  by_cases q:x=y
  ·subst q
   have hrs:rs=[]:=R.uniq Fq
   have d0:decide (wM ties rs=0)=true:=by rw[hrs];rfl
   have pe:dY (af rs) []=true:=by rw[hrs];exact ip
   have pq:dY (af rs) (af rs.reverse)=true:=by rw[hrs];exact ip
   have p0:aJ []=true:=by rw[aJ]
   have q0:cB []=0:=by rw[cB]
   have dx:decide ((x:Int)=(x:Int))=true:=decide_eq_true rfl
   unfold bY at ep e1 e3 el er g ⊢
   simp![eO,cg,bc,az,bp,aA,de,aB,aD,aP,aR,aC,bR,bq,bj,bO,bL,bN,bH,bo,aE,bn,aH,bP,bf,aG,ay,aO,aT,aK,aL,aw,c8,bh,aU,aQ,be,ax,aM,bD,aI,bQ,aZ,bg,aF,bm,aN,aV,aS,e1,ep,ei,d2,b0,b1,el,er,pp,cM,if_pos l1,g,a0i,if_pos l2,a3n,a2l,io,if_neg ne0,em,dw,e3,er2,pr,b9,eG,dx,d0,pe,pq,p0,q0]
  ·have dx:decide ((x:Int)=(y:Int))=false:=decide_eq_false (by omega)
   have rne:rs≠[]:=λz=>q (by rw[z] at R;exact Op R)
   have c1:=qI (c:=lab (jw (ties.filter (IG (wM ties rs)))) id) h2 hx hy
   rw[decide_eq_true ((R.conn _).mpr ((hK T hlt n0).mp (a2c _)))] at c1
   have c2:=qI (c:=lab (jw (ties.filter (IG (wM ties rs - 1)))) id) h2 hx hy
   rw[decide_eq_false λz=>by
    have hw:=(R.conn _).mp z
    obtain⟨k0,hk0⟩:=a4t rs rne
    have et:ties[k0]?=some (ties[k0]'(hlt k0 hk0)):=a0f _
    have p0:0<=wt ties k0:=by rw[mL et];exact T.nn _ (a1w _)
    have:=hw k0 hk0
    have:=(hK T hlt (show 0<=wM ties rs - 1 by omega)).mpr hw
    omega] at c2
   have f1:=I2 T (wM ties rs)
   have f2:=I2 T (wM ties rs - 1)
   have gm:=Lw T
   have e4:bJ [.int (n:Nat),bY (oO ties),.int (x:Nat),.int (y:Nat)]=some (.v (.tup [.int (wM ties rs+1),.tup (af rs)])):=by
    rcases eR (kF T) hx hy with ⟨rs',e4,R',_,_⟩|⟨_,hc'⟩
    ·rw[R'.uniq (LF R),Pi,K5 T hlt rne] at e4
     exact e4
    ·rw[GL] at hc';exact absurd hc hc'
   have dw1:decide (wM ties rs+1=wM ties rs+1)=true:=decide_eq_true rfl
   unfold bY at ep e1 e3 el er g f1 f2 e4 ⊢
   simp![eO,cg,bc,az,bp,aA,de,aB,aD,aP,aR,aC,bR,bq,bj,bO,bL,bN,bH,bo,aE,bn,aH,bP,bf,aG,ay,aO,aT,aK,aL,aw,c8,bh,aU,aQ,be,ax,aM,bD,aI,bQ,aZ,bg,aF,bm,aN,aV,aS,e1,ep,ei,d2,b0,b1,el,er,pp,cM,if_pos l1,g,a0i,if_pos l2,a3n,a2l,io,if_neg ne0,em,dw,e3,er2,pr,b9,eG,dx,f1,c1,f2,c2,if_pos (show ties.length<1000 by omega),gm,e4,dw1]
 ·rw[decide_eq_false hc] at ei
  unfold bY at ep e1 ⊢
  simp![eO,cg,bc,az,bp,aA,de,aB,aD,aP,aR,aC,bR,bq,bj,bO,bL,bN,bH,bo,aE,bn,aH,bP,bf,aG,ay,aO,aT,aK,aL,aw,c8,bh,aU,aQ,be,ax,aM,bD,aI,bQ,aZ,bg,aF,bm,aN,aV,aS,e1,ep,ei]
theorem Fh (T:Ties n ties){x y z:Nat}(hx:x<n)(hy:y<n)(hz:z<n):dr [.int (n:Nat),bY ties,.int (x:Nat),.int (y:Nat),.int (z:Nat)]=some (.v (.bl true)):=by
 have b0:∀a b:PV,L2.c6 [a,b] 0=some a:=λa b=>rfl
 rcases eR T hx hz with ⟨r1,e1,R1,_,c1⟩|⟨e1,c1⟩
 ·rcases eR T hz hy with ⟨r2,e2,R2,_,c2⟩|⟨e2,c2⟩
  ·rcases eR T hx hy with ⟨r3,e3,R3,_,c3⟩|⟨e3,c3⟩
   ·have l1:∀k∈r1,k<ties.length:=λk hk=>eJ k (R1.ch k hk)
    have l2:∀k∈r2,k<ties.length:=λk hk=>eJ k (R2.ch k hk)
    have l3:∀k∈r3,k<ties.length:=λk hk=>eJ k (R3.ch k hk)
    have p1:=lh T l1
    have p2:=lh T l2
    obtain⟨M,hM,m1,m2⟩:∃M:Int,(if wM ties r2 > wM ties r1 then wM ties r2 else wM ties r1)=M/\wM ties r1<=M/\wM ties r2<=M:=by
     by_cases h:wM ties r2 > wM ties r1
     ·exact⟨_,if_pos h,Int.le_of_lt h,a2c _⟩
     ·exact⟨_,if_neg h,a2c _,Int.not_lt.mp h⟩
    have k1:=(R1.conn M).mpr λk hk=>a4p ((hK T l1 p1).mp (a2c _) k hk) m1
    have k2:=(R2.conn M).mpr λk hk=>a4p ((hK T l2 p2).mp (a2c _) k hk) m2
    have k3:wM ties r3<=M:=(hK T l3 (a4p p1 m1)).mpr ((R3.conn M).mp (k1.trans k2))
    have dl:decide (wM ties r3<=M)=true:=decide_eq_true k3
    unfold bY at e1 e2 e3 ⊢
    simp![cN,bI,bc,az,bp,aA,de,aB,aD,aP,aR,aC,bR,bq,bj,bO,bL,bN,bH,bo,aE,bn,aH,bP,bf,aG,ay,aO,aT,aK,aL,aw,c8,bh,aU,aQ,be,ax,aM,bD,aI,bQ,aZ,bg,aF,bm,aN,aV,aS,e1,e2,e3,b0,hM,dl]
   ·exact absurd (c1.trans c2) c3
  ·rcases eR T hx hy with ⟨r3,e3,R3,_,c3⟩|⟨e3,c3⟩
   ·exact absurd (c1.symm.trans c3) c2
   ·unfold bY at e1 e2 e3 ⊢
    simp![cN,bI,bc,az,bp,aA,de,aB,aD,aP,aR,aC,bR,bq,bj,bO,bL,bN,bH,bo,aE,bn,aH,bP,bf,aG,ay,aO,aT,aK,aL,aw,c8,bh,aU,aQ,be,ax,aM,bD,aI,bQ,aZ,bg,aF,bm,aN,aV,aS,e1,e2,e3]
 ·rcases eR T hx hy with ⟨r3,e3,R3,_,c3⟩|⟨e3,c3⟩
  ·rcases eR T hz hy with ⟨r2,e2,R2,_,c2⟩|⟨e2,c2⟩
   ·exact absurd (c3.trans c2.symm) c1
   ·unfold bY at e1 e2 e3 ⊢
    simp![cN,bI,bc,az,bp,aA,de,aB,aD,aP,aR,aC,bR,bq,bj,bO,bL,bN,bH,bo,aE,bn,aH,bP,bf,aG,ay,aO,aT,aK,aL,aw,c8,bh,aU,aQ,be,ax,aM,bD,aI,bQ,aZ,bg,aF,bm,aN,aV,aS,e1,e2,e3]
  ·obtain⟨V,e2⟩:∃V,bJ [.int (n:Nat),bY ties,.int (z:Nat),.int (y:Nat)]=some (.v V):=by
    rcases eR T hz hy with ⟨r2,e2,_⟩|⟨e2,_⟩
    ·exact⟨_,e2⟩
    ·exact⟨_,e2⟩
   unfold bY at e1 e2 e3 ⊢
   simp![cN,bI,bc,az,bp,aA,de,aB,aD,aP,aR,aC,bR,bq,bj,bO,bL,bN,bH,bo,aE,bn,aH,bP,bf,aG,ay,aO,aT,aK,aL,aw,c8,bh,aU,aQ,be,ax,aM,bD,aI,bQ,aZ,bg,aF,bm,aN,aV,aS,e1,e2,e3]
theorem pL:∀a b:List (List Nat),dY (fw a) (fw b)=decide (a=b)
 |[],[]=>by show dY [] []=_;rw[ip];rfl
 |[],b::bs=>by rw[j9 (by simp[fw])];rfl
 |a::as,[]=>by rw[j9 (by simp[fw])];rfl
 |a::as,b::bs=>by
  show dY (PV.tup (af a)::fw as) (PV.tup (af b)::fw bs)=_
  rw[kM,tj,sC,pL as bs,a2h,a0b,decide_eq_true_iff,decide_eq_true_iff,decide_eq_true_iff,List.cons.injEq]
noncomputable def tT (ties:List Tl)(k:Nat):Tl:=(ties[k]?).getD (0,0,0)
theorem o6 {k:Nat}{t:Tl}(h:ties[k]?=some t):tT ties k=t:=by unfold tT;rw[h];rfl
theorem L1:m8 (gN 0) fy qm [none,some (.val (bY ties))] (af (ii ties))=some (((ii ties).map (tT ties)).map jM):=by
 rw[oW (λk=>jM (tT ties k)) λk hk=>?_]
 ·rw[a1d];rfl
 ·have et:ties[k]?=some (ties[k]'(eJ k hk)):=a0f _
  rw[o6 et]
  have ta:=m5 et
  simp![qm,bY,ta]
theorem DV (T:Ties n ties):dh n (lab (jw ((ii ties).map (tT ties))) id)=dh n (lab (jw ties) id):=by
 refine lots_congr λx y hx hy=>?_
 constructor
 ·refine zN λp hp=>?_
  obtain⟨t,ht,rfl⟩:=a1a.mp hp
  obtain⟨k,hk,rfl⟩:=a1a.mp ht
  have et:ties[k]?=some (ties[k]'(eJ k hk)):=a0f _
  rw[o6 et]
  exact iu _ _ _ _ (a1f (f:=λt:Tl=>(t.1,t.2.1)) (a1w _))
 ·intro e
  have hr:=(kQ T).mpr e
  have main:∀{z:Nat},Rch (bG ties (ii ties)) x z->lab (jw ((ii ties).map (tT ties))) id x=lab (jw ((ii ties).map (tT ties))) id z:=λ{z} r=>by
   induction r with
   |refl=>rfl
   |step _ q ih=>
    obtain⟨j,s,u,hj,eu,_,hs⟩:=fu q
    have hm:(u.1,u.2.1)∈jw ((ii ties).map (tT ties)):=a1f (f:=λt:Tl=>(t.1,t.2.1)) (a1a.mpr ⟨j,hj,o6 eu⟩)
    have:=iu _ id _ _ hm
    rcases hs with ⟨_,rfl,rfl⟩|⟨_,rfl,rfl⟩
    ·exact ih.trans this
    ·exact ih.trans this.symm
  exact main hr
noncomputable abbrev LS (s0 s1 s2:Option Sl)(n:Nat)(ties:List Tl)(s5:Option Sl)(th:List Nat)(z7:Option Sl):ao:=[s0,s1,s2,some (.val (.int (n:Nat))),some (.val (bY ties)),s5,some (.val (.lst (af th))),z7]
theorem Bb (T:Ties n ties){th:List Nat}(hl:th.length=12)(ht:∀v∈th,v<n){s0 s1 s2 s5:Option Sl}{k:Nat}(hk:k<=6):mv (LS s0 s1 s2 n ties s5 th (some (.val (.int (k:Nat)))))=.nx (LS s0 s1 s2 n ties s5 th (some (.val (.int (k:Nat))))):=by
 have lt:∀j,j<12->up th j<n:=λj hj=>by
  have hj:j<th.length:=by omega
  have e:up th j=th[j]:=by simp[up,hj]
  rw[e];exact ht _ (a1w hj)
 have i1:L2.c6 (af th) (k:Int)=some (.int (up th k:Nat)):=au (by omega)
 have i2:L2.c6 (af th) ((k:Int)+1)=some (.int (up th (k+1):Nat)):=by
  rw[show (k:Int)+1=((k+1:Nat):Int) by omega];exact au (by omega)
 have i8:L2.c6 (af th) 8=some (.int (up th 8:Nat)):=au (x:=8) (by omega)
 have e1:=xn T (lt k (by omega)) (lt (k+1) (by omega))
 have e2:=Fh T (lt k (by omega)) (lt (k+1) (by omega)) (lt 8 (by omega))
 simp![mv,LS,bc,az,bp,aA,de,aB,aD,aP,aR,aC,bR,bq,bj,bO,bL,bN,bH,bo,aE,bn,aH,bP,bf,aG,ay,aO,aT,aK,aL,aw,c8,bh,aU,aQ,be,ax,aM,bD,aI,bQ,aZ,bg,aF,bm,aN,aV,aS,i1,i2,i8,e1,e2]
theorem qj (T:Ties n ties){th:List Nat}(hl:th.length=12)(ht:∀v∈th,v<n){s0 s1 s2 s5:Option Sl}:∀(ks:List Nat) (z7:Option Sl),(∀k∈ks,k<=6)->∃w7,bZ (gN 7) mv (af ks) (LS s0 s1 s2 n ties s5 th z7)=.nx (LS s0 s1 s2 n ties s5 th w7)
 |[],z7,_=>⟨z7,by rw[show af []=[] from rfl,iV]⟩
 |k::ks,z7,hk=>by
  obtain⟨w7,e⟩:=qj T hl ht (s0:=s0) (s1:=s1) (s2:=s2) (s5:=s5) ks (some (.val (.int (k:Nat)))) λq hq=>hk q (a0c _ hq)
  refine⟨w7,?_⟩
  have e1:=Bb T hl ht (s0:=s0) (s1:=s1) (s2:=s2) (s5:=s5) (hk k a0e)
  rw[cW,eN,←e]
  simp![LS] at e1 ⊢
  rw[e1]
  simp![true_and]
theorem MP:Ek [.int 0,.int 8,.int 2]=some (af [0,2,4,6]):=by kernel_rfl
theorem BV {ns:List Int}{k:Nat}(hk:k<=3){z2 z3 z4 z5 z6 z7:Option Sl}:∃w2 w3 w4 w5 w6 w7,mo [some (.val (.src (iL ns))),some (.val (.int (k:Nat))),z2,z3,z4,z5,z6,z7]=.nx [some (.val (.src (iL ns))),some (.val (.int (k:Nat))),w2,w3,w4,w5,w6,w7]:=by
 obtain⟨c,ec⟩:=pU ns ((60:Int)+(k:Int)) (by omega) (by omega)
 obtain⟨hs,hh,eh⟩:=jq c 13 (by decide) (by decide)
 have hh:hs.length=13:=hh
 have i0:L2.c6 (af hs) 0=some (.int (up hs 0:Nat)):=au (x:=0) (by rw[hh];decide)
 have i12:L2.c6 (af hs) 12=some (.int (up hs 12:Nat)):=au (x:=12) (by rw[hh];decide)
 obtain⟨n,n1,n2,en⟩:=Fb (up hs 0)
 obtain⟨m,hm,em⟩:∃m:Nat,m<=60/\L2.c6 [PV.int 30,.int 60] (if decide ((up hs 12:Int) % 4=1)=true then 1 else 0)=some (.int (m:Nat)):=by
  by_cases q:(up hs 12:Int) % 4=1
  ·exact⟨60,a0n 60,by rw[decide_eq_true q,if_pos rfl];rfl⟩
  ·exact⟨30,by decide,by rw[decide_eq_false q,if_neg a0u];rfl⟩
 obtain⟨ties,T,_,et⟩:=JU ns (a:=k) (m:=m) (h:=999999999) n1 n2 (by omega) hm (by omega)
 have et:gP [.src (iL ns),.int (k:Nat),.int (n:Nat),.int (m:Nat),.int 999999999]=some (.v (bY ties)):=et
 have hl:=T.len
 have hcl:=um (ties:=ties)
 have el:=yf T
 have T':Ties n ((ii ties).map (tT ties)):=vF T (λt ht=>by
  obtain⟨j,hj,rfl⟩:=a1a.mp ht
  have ej:ties[j]?=some (ties[j]'(eJ j hj)):=a0f _
  rw[o6 ej];exact a1w _) (by rw[a0i];omega)
 have p1:=mH T
 have p2:=mH T'
 rw[DV T] at p2
 have g:=L1 (ties:=ties)
 have dd:∀ls:List (List Nat),decide (cB (fw ls)<=49)=true:=λls=>decide_eq_true (by have:=xC ls;omega)
 have pn:(0:Int)<(n:Int):=by omega
 have ect:m6 (af hs) (some 1) none=af (hs.drop 1):=by rw[u7];exact congrArg af (vH hs 1)
 have g2:m8 (gN 0) fy pT [none,some (.val (.int (n:Nat)))] (af (hs.drop 1))=some (af ((hs.drop 1).map (· % n))):=by
  rw[oW (λv=>.int ((v % n:Nat):Int)) λv _=>?_]
  ·unfold af;rw[a1d];rfl
  ·have:(v:Int) % (n:Int)=((v % n:Nat):Int):=rfl
   simp![pT,pn,this]
 have hth:((hs.drop 1).map (· % n)).length=12:=by rw[a0i,a2n,hh]
 have hlt:∀v∈(hs.drop 1).map (· % n),v<n:=λv hv=>by
  obtain⟨u,_,rfl⟩:=a1a.mp hv
  exact a3q _ (by omega)
 have ld:(hs.drop 1).length<1000:=by rw[a2n];omega
 generalize (hs.drop 1).map (· % n)=th at *
 obtain⟨w7,e7⟩:=qj T hth hlt (s0:=some (.val (.src (iL ns)))) (s1:=some (.val (.int (k:Nat)))) (s2:=some (.val (.lst (af hs)))) (s5:=some (.val (.tup (af (ii ties))))) [0,2,4,6] z7 (by decide)
 have i9:L2.c6 (af th) 9=some (.int (up th 9:Nat)):=au (x:=9) (by omega)
 have l9:up th 9<n:=by
  have hj:9<th.length:=by omega
  have e:up th 9=th[9]:=by simp[up,hj]
  rw[e];exact hlt _ (a1w hj)
 have e9:=xn T l9 l9
 have b1:∀a b:PV,L2.c6 [a,b] 1=some b:=λa b=>rfl
 refine⟨some (.val (.lst (af hs))),some (.val (.int (n:Nat))),some (.val (bY ties)),some (.val (.tup (af (ii ties)))),some (.val (.lst (af th))),w7,?_⟩
 simp only[LS] at e7
 unfold bY at et el p1 p2 g e7 e9 ⊢
 simp![mo,bc,az,bp,aA,de,aB,aD,aP,aR,aC,bR,bq,bj,bO,bL,bN,bH,bo,aE,bn,aH,bP,bf,aG,ay,aO,aT,aK,aL,aw,c8,bh,aU,aQ,be,ax,aM,bD,aI,bQ,aZ,bg,aF,bm,aN,aV,aS,ec,eh,i0,i12,en,em,et,el,b1,cM,if_pos (show (ii ties).length<1000 by omega),g,p2,p1,ui,dd,pL,decide_true,ect,if_pos ld,g2,MP,e7,i9,e9]
theorem uR {ns:List Int}:∀(ks:List Nat) (z1 z2 z3 z4 z5 z6 z7:Option Sl),(∀k∈ks,k<=3)->∃w1 w2 w3 w4 w5 w6 w7,bZ (gN 1) mo (af ks) [some (.val (.src (iL ns))),z1,z2,z3,z4,z5,z6,z7]=.nx [some (.val (.src (iL ns))),w1,w2,w3,w4,w5,w6,w7]
 |[],z1,z2,z3,z4,z5,z6,z7,_=>⟨z1,z2,z3,z4,z5,z6,z7,by rw[show af []=[] from rfl,iV]⟩
 |k::ks,z1,z2,z3,z4,z5,z6,z7,hk=>by
  obtain⟨v2,v3,v4,v5,v6,v7,e1⟩:=BV (ns:=ns) (hk k a0e) (z2:=z2) (z3:=z3) (z4:=z4) (z5:=z5) (z6:=z6) (z7:=z7)
  obtain⟨w1,w2,w3,w4,w5,w6,w7,e⟩:=uR (ns:=ns) ks (some (.val (.int (k:Nat)))) v2 v3 v4 v5 v6 v7 (λq hq=>hk q (a0c _ hq))
  refine⟨w1,w2,w3,w4,w5,w6,w7,?_⟩
  rw[cW,eN,←e]
  simp![true_and]
  rw[e1]
  simp![true_and]
theorem C6:∀ns:List Int,ns.length<=63->Ae [.src (ns.map PV.int)]=some (.v (.bl true)):=λns hn=>by
 obtain⟨a,ea,a3⟩:∃a:Nat,(if (3:Int)<((iL ns).length:Int) then (3:Int) else ((iL ns).length:Int))=(a:Int)/\a<=3:=by
  by_cases h:(3:Int)<((iL ns).length:Int)
  ·exact⟨3,if_pos h,a0n 3⟩
  ·exact⟨(iL ns).length,if_neg h,Int.ofNat_le.mp (Int.not_lt.mp h)⟩
 obtain⟨j,ej,j3⟩:∃j:Nat,(if (a:Int) > 1 then (a:Int) else 1)=(j:Int)/\j<=3:=by
  by_cases h:(a:Int) > 1
  ·exact⟨a,if_pos h,a3⟩
  ·exact⟨1,if_neg h,by decide⟩
 obtain⟨w1,w2,w3,w4,w5,w6,w7,e⟩:=uR (ns:=ns) (a0l j) none none none none none none none (λk hk=>a1r (a3f (a0z.mp hk)) j3)
 show Ae [.src (iL ns)]=_
 simp![Gg,tJ,bc,az,bp,aA,de,aB,aD,aP,aR,aC,bR,bq,bj,bO,bL,bN,bH,bo,aE,bn,aH,bP,bf,aG,ay,aO,aT,aK,aL,aw,c8,bh,aU,aQ,be,ax,aM,bD,aI,bQ,aZ,bg,aF,bm,aN,aV,aS,ea,ej,K1 (a1r j3 (by decide:3<=100000)),e]
end K61
end
section
namespace PySem.W.Fast
def tw5609880307565419977:=()
def tw7265087196683260865:=()
def tw17902161828248704405:=()
def tw4848490179054071472:=()
def tw530296479149888828:=()
def tw835080761723685165:=()
def tw6896400310608468772:=()
def tw15934959895990912428:=()
def tw1418032334972884030:=()
def tw16857145016284811861:=()
def tw1234011634225159753:=()
def tw1541696765302700434:=()
def tw17670746873865357464:=()
def tw5948605030089876118:=()
def tw17281386027429601929:=()
def tw1596336038465500555:=()
def tw1459269947141112575:=()
def tw12909937081301223834:=()
def tw2258985732061399892:=()
def tw8039504605216936733:=()
def tw8460150620800243628:=()
def tw881143950022175280:=()
def tw1177009684490845110:=()
def tw16703785625003357810:=()
def tw8393101735064674310:=()
def tw2025674320642070102:=()
def tw3763743778923411516:=()
def tw5171682575134053166:=()
def tw16730940983253315253:=()
def tw7603304600145014830:=()
def tw4873221562906133021:=()
def tw1824247727080607923:=()
def tw12847020544172171063:=()
def tw11229537582727954513:=()
def tw2687839124194855143:=()
def tw11590331983350508667:=()
def tw1019663980148232171:=()
def tw7780018230942776661:=()
def tw11099176238498315956:=()
def tw17370794242450346040:=()
def tw10343149701731232074:=()
def tw15874119993287702919:=()
def tw8611134346505462819:=()
def tw2915714268254800805:=()
def tw13918598421051129125:=()
def tw3727196969697829300:=()
def tw17074717449173471884:=()
def tw3387428277794194947:=()
def tw1426561117258909137:=()
def tw14670754389435812401:=()
def tw17233636034202860873:=()
def tw5564839494365102900:=()
def tw10410026689706573577:=()
def tw3683090067547566310:=()
def tw13728488104803361684:=()
def tw9812338896786598578:=()
def tw5359202955532820461:=()
def tw4843210905843895038:=()
def tw14809609910065332573:=()
def tw4480769344498216213:=()
def tw9449407071970999765:=()
def tw17522130627631809560:=()
def tw919660827949619244:=()
def tw14906465945484736942:=()
def tw2844230957833308980:=()
def tw11780159804986389972:=()
def tw9140296624164122354:=()
def tw14809643519318753388:=()
def tw4376282181262810961:=()
def tw9254976278990180198:=()
def tw1649482095226378205:=()
def tw6565387852143135314:=()
def tw577688933141286494:=()
def tw10345641063934005312:=()
def tw11341418998416364546:=()
def tw6550473747575928801:=()
def tw14184543151710756129:=()
def tw2900888152539946667:=()
def tw6406890106317060927:=()
def tw12603421926244450383:=()
def tw15919684633092522244:=()
def tw1898149557874878961:=()
def tw16762961072863476908:=()
def tw7301490158582531698:=()
def tw10709630037338293405:=()
def tw15316870591193076557:=()
def tw3726422227839640472:=()
def tw9590190549444182731:=()
def tw4565202940877478597:=()
def tw12430062962837788471:=()
def tw17983640510136685084:=()
def tw7980020374433882098:=()
def tw5112470499954437067:=()
def tw12291029644010586427:=()
def tw5798320438358658172:=()
def tw12611747614602768285:=()
def tw11346009458379603744:=()
def tw15752088381901537693:=()
def tw1723028547811704731:=()
def tw9369982349731630758:=()
def tw13632355084309313710:=()
def tw15375846801625698263:=()
def tw4496194081124442837:=()
def tw722818100701825963:=()
def tw13944065382549780146:=()
def tw14760163054153279019:=()
def tw6636809114572003921:=()
def tw4831419037372688456:=()
def tw16907324224725116951:=()
def tw13790803197604177980:=()
def tw17614795909946657542:=()
def tw3578247859262833797:=()
def tw5843467144090635091:=()
def tw6231717131831262872:=()
def tw17789786955206420153:=()
def tw12281380728352843344:=()
def tw1824933686877865302:=()
def tw6806180403761918805:=()
def tw2257333347446714856:=()
def tw15526128487178315896:=()
def tw9634745097415906146:=()
def tw11466101535962485970:=()
def tw3555597538713927964:=()
def tw14635398742857220067:=()
def tw10570442227423646701:=()
def tw819505595795231768:=()
def tw7421666229617411038:=()
def tw12400900838016983551:=()
def tw17651501878748389958:=()
def tw18141176327838125401:=()
def tw1876287626933685719:=()
def tw13667963358383538628:=()
def tw4998886027148176004:=()
def tw11238469558392519485:=()
def tw5511641967916127178:=()
def tw13331874195600435372:=()
def tw18189625558344159291:=()
def tw18236088841165013068:=()
def tw16681074099605404912:=()
def tw2661077285708987020:=()
def tw6727098405304613121:=()
def tw10738467503685972217:=()
def tw5177141569042386970:=()
def tw17267952293065369402:=()
def tw17006414658349584836:=()
def tw1190504431540971103:=()
def tw12903468973142454161:=()
def tw16621511129658709741:=()
def tw18276081568610744665:=()
def tw6055932104710254161:=()
def tw15091265476967746429:=()
def tw9814429247959988188:=()
def tw10919587286133961162:=()
def tw1169831665958277637:=()
def tw12680919083780803909:=()
def tw13716821385673517426:=()
def tw7473154176600721202:=()
def tw2877099205910239598:=()
def tw9309814004446763641:=()
def tw5010517757714345074:=()
def tw12539825516102415991:=()
def tw9159511597119628720:=()
def tw10590924918859919752:=()
def tw7103523931939447712:=()
def tw16056012303383360517:=()
def tw8310176731231200753:=()
def tw1251099483124086905:=()
def tw4832844021589123292:=()
def tw8237469100450368908:=()
def tw11311939152149870349:=()
def tw3950677708668389570:=()
def tw2462752209098748486:=()
def tw11103209586266238327:=()
def tw4523888772723136536:=()
def tw13208173456681759257:=()
def tw8143358733402479832:=()
def tw13218091667170641724:=()
def tw10738294479196210942:=()
def tw13988214128865552457:=()
def tw17901437501730378292:=()
def tw5989369400358354043:=()
def tw12179869629354641595:=()
def tw9963846025036539994:=()
def tw2871158780026827235:=()
def tw940958581985454500:=()
def tw3502695298187113727:=()
def tw11987983339107677453:=()
def tw4141350547740729853:=()
def tw14377112001973944654:=()
def tw16760563574781304592:=()
def tw18088399077408820312:=()
def tw13745002218648304829:=()
def tw11280938728361704525:=()
def tw11986682853272407670:=()
def tw3623167964758900026:=()
def tw4165602558868495885:=()
def tw11158293254782770615:=()
def tw17829952216499142686:=()
def tw2221764705451615137:=()
def tw8307292803319690474:=()
def tw1683984122966125450:=()
def tw17280432350248438738:=()
def tw5484974914326094805:=()
def tw5780771176172944387:=()
def tw6075803429646484743:=()
def tw4438655357605286738:=()
def tw6053305199517271063:=()
def tw8612157115206579299:=()
def tw15696448816430455372:=()
def tw8146370426869887519:=()
def tw4757158757155595131:=()
def tw1082610156586267761:=()
def tw18249723236686844384:=()
def tw11020537474311754721:=()
def tw18090548239050168510:=()
def tw3392983470244147667:=()
def tw5515772257856719337:=()
def tw6810996535960468652:=()
def tw16291409906767518305:=()
def tw8466369046562703963:=()
def tw6421533339221084554:=()
def tw10711119363957758582:=()
def tw16503810301050016162:=()
def tw944449830553267256:=()
def tw8283756393099591429:=()
def tw3116527283947971671:=()
def tw10494570900941647458:=()
def tw5443506019896594589:=()
def tw8556872816104987676:=()
def tw12578674747752561908:=()
def tw7166783644864861518:=()
def tw1114296197744145214:=()
def tw11039400025316523796:=()
def tw14079198817143959358:=()
def tw18056982392357860079:=()
def tw7304039013334396932:=()
def tw2042037357904761743:=()
def tw3792802911172311205:=()
def tw6502765485013328670:=()
def tw1717442239958569250:=()
def tw6451608989790933880:=()
def tw14505557427300482538:=()
def tw10065448388231899173:=()
def tw16832192216211318289:=()
def tw12260002772601526816:=()
def tw9442818663448737524:=()
def tw9295990677598240666:=()
def tw14812660555570627171:=()
def tw11209628513844735515:=()
def tw11819490990840152044:=()
def tw12276325920326373748:=()
def tw12361949777914517925:=()
def tw14477940946359729369:=()
def tw15557225765402100987:=()
def tw16088088491189731843:=()
def tw16666079743294082308:=()
def tw3298534575993813516:=()
def tw7053828532845549322:=()
def tw3253646331198941243:=()
def tw2551630715424934401:=()
def tw17158510250870512662:=()
def tw15343047361438225970:=()
def tw12916470079181458351:=()
def tw13219185027908570561:=()
def tw11181836740818740268:=()
def tw15212080128169643863:=()
def tw4894741203139181950:=()
def tw16617923481615248428:=()
def tw1619415685186018503:=()
def tw17466519111466726374:=()
def tw18321755300414279319:=()
def tw5176307577602324796:=()
def tw9613288627915856787:=()
def tw449059612357016349:=()
def tw6720248043096042735:=()
def tw12647362440147539175:=()
def tw14929480570551444323:=()
def tw16969631040176655439:=()
def tw379019415001185116:=()
def tw4162988933457728111:=()
def tw5026846998603578509:=()
def tw519824192043911021:=()
def tw10883610867676870668:=()
def tw16676692189345252571:=()
def tw17847306385721017409:=()
def tw2724543412441497122:=()
def tw6406694560176014221:=()
def tw929777587379092853:=()
def tw3157511985425480313:=()
def tw11791863653665268980:=()
def tw14427907881930889058:=()
def tw1723488909543375172:=()
def tw18095038900651975949:=()
def tw4282881287074370202:=()
def tw7747969978579936588:=()
def tw14081762164547191395:=()
def tw15538209284391912789:=()
def tw16287787798115106359:=()
def tw2967790902582132711:=()
def tw3492397974395518932:=()
def tw9361845736259898281:=()
def tw7229164668731444433:=()
def tw3074233236307230924:=()
def tw10020786851387595214:=()
def tw10044339365846385120:=()
def tw10602467328457668617:=()
def tw10604009414321457556:=()
def tw10760228091319067864:=()
def tw10830840343754458906:=()
def tw11094749929916166095:=()
def tw1132131280092122945:=()
def tw11774724456875827213:=()
def tw11861328401131317769:=()
def tw11894577486677731592:=()
def tw12189930652830826761:=()
def tw1222744563378378804:=()
def tw12683149354360275243:=()
def tw12684983098258858722:=()
def tw13065110618532850435:=()
def tw13187901690195354271:=()
def tw1336467687495022932:=()
def tw13490723382635605943:=()
def tw1371057419479493644:=()
def tw13746778665553202727:=()
def tw13790139314170931630:=()
def tw14089104195684787071:=()
def tw14364239181668388467:=()
def tw14415335028940732362:=()
def tw14451343565264857082:=()
def tw14547770342174012725:=()
def tw1457356806201879960:=()
def tw14623853877128771905:=()
def tw1468087103369958057:=()
def tw14938810463326954073:=()
def tw14997785425726499652:=()
def tw15216441522349944871:=()
def tw15666934129211490741:=()
def tw15682079917846950273:=()
def tw15990223212584312243:=()
def tw16415861057277782263:=()
def tw16424540041767602259:=()
def tw16453361869379956108:=()
def tw16467082528154403219:=()
def tw16482807517288005091:=()
def tw16537084475068670291:=()
def tw16552774432307908487:=()
def tw16891773283774646115:=()
def tw17204547134883556309:=()
def tw17434921670042508885:=()
def tw17447964838960104690:=()
def tw17641063612273898762:=()
def tw17835202271823968962:=()
def tw17845361911440686820:=()
def tw18073002601152698546:=()
def tw18127819302922228495:=()
def tw18288114941069755528:=()
def tw18420591601500023884:=()
def tw2153739310408729496:=()
def tw2167991195310152638:=()
def tw2221522032367579194:=()
def tw2238910804243311177:=()
def tw2351494647391009711:=()
def tw2479243599872792163:=()
def tw2859202777930273642:=()
def tw3205612770184870692:=()
def tw3473981117967065499:=()
def tw4004161788402084960:=()
def tw4004739898048315447:=()
def tw403079319396359761:=()
def tw4325073354196365350:=()
def tw4374302512269214850:=()
def tw4605786446135772210:=()
def tw4875410464907453412:=()
def tw5266757235877346758:=()
def tw550091196733833797:=()
def tw5542991596529884536:=()
def tw5846825958315522546:=()
def tw6173959986268799423:=()
def tw6361558953242622600:=()
def tw6517397587562566785:=()
def tw6594945953460997937:=()
def tw6671247377709196554:=()
def tw7159059371550487340:=()
def tw7174766948465434907:=()
def tw7267792506469358136:=()
def tw7577032113560499099:=()
def tw7609267838167009013:=()
def tw7920862870311494719:=()
def tw798863609796479950:=()
def tw8199956945500379432:=()
def tw8354842738047865845:=()
def tw8581662560874730604:=()
def tw8858866633617566661:=()
def tw8862808981290343560:=()
def tw9149555213337677562:=()
def tw9383555002694640412:=()
def tw9473498504036641943:=()
def tw9503307323210022450:=()
def tw9530809362715118460:=()
def tw9536035622005752618:=()
def tw954471655905197604:=()
def tw9858801158188721491:=()
def tw9914163515597276568:=()
def tw9916468853418803156:=()
def tw9977715285891822437:=()
end PySem.W.Fast
open PySem PySem.W PyProof.Rows
set_option maxRecDepth 100000 in
set_option maxHeartbeats 0 in
theorem PySem.Challenge.cw_lotheads_k61_whole_narrowest_roads_holds : PySem.Challenge.rw_lotheads_k61_whole_narrowest_roads.Holds := by
 w_on;o_law;k_head;(case hw=>w_witness2)
 k_fill
 refine Dp.Oc (k:=11) (by decide) (l:=PySem.Challenge.rw_lotheads_k61_whole_narrowest_roads) rfl rfl (λw h Y=>PySem.W.kIn_of Y) K61.C6 ?F
 case F=>
  intro w mg fa h KX G hmg
  refine' K61.LU KX G hmg ?a0 ?a1 ?a2 ?a3 ?a4 ?a5 ?a6 ?a7 ?a8 ?a9 ?a10 ?a11 ?a12 ?a13 ?a14 ?a15 ?a16 ?a17 ?a18 ?a19 ?a20 ?a21 ?a22 ?a23 ?a24 ?a25 ?a26 ?a27 ?a28 ?a29 ?a30 ?a31 ?a32 ?a33 ?a34 ?a35 ?a36 ?a37 ?a38 ?a39 ?a40 ?a41 ?a42 ?a43 ?a44 ?a45 ?a46 ?a47 ?a48 ?a49 ?z_abs ?z_any ?z_bool ?z_enumerate ?z_int ?z_isinstance ?z_len ?z_list ?z_max ?z_min ?z_range ?z_sorted ?z_str ?z_sum ?z_tuple ?z_is_deed ?y_MOST_THINGS ?yk0 ?lk0 ?yk1 ?O1 ?sk1
  (case a0=>apply Dp.gZ<;>k_is)
  (case a1=>apply Dp.gZ<;>k_is)
  (case a2=>apply Dp.gZ<;>k_is)
  (case a3=>apply Dp.gZ<;>k_is)
  (case a4=>apply Dp.gZ<;>k_is)
  (case a5=>apply Dp.gZ<;>k_is)
  (case a6=>apply Dp.gZ<;>k_is)
  (case a7=>apply Dp.gZ<;>k_is)
  (case a8=>apply Dp.gZ<;>k_is)
  (case a9=>apply Dp.gZ<;>k_is)
  (case a10=>apply Dp.gZ<;>k_is)
  (case a11=>apply Dp.gZ<;>k_is)
  (case a12=>apply Dp.gZ<;>k_is)
  (case a13=>apply Dp.gZ<;>k_is)
  (case a14=>apply Dp.gZ<;>k_is)
  (case a15=>apply Dp.gZ<;>k_is)
  (case a16=>apply Dp.gZ<;>k_is)
  (case a17=>apply Dp.gZ<;>k_is)
  (case a18=>apply Dp.gZ<;>k_is)
  (case a19=>apply Dp.gZ<;>k_is)
  (case a20=>apply Dp.gZ<;>k_is)
  (case a21=>apply Dp.gZ<;>k_is)
  (case a22=>apply Dp.gZ<;>k_is)
  (case a23=>apply Dp.gZ<;>k_is)
  (case a24=>apply Dp.gZ<;>k_is)
  (case a25=>apply Dp.gZ<;>k_is)
  (case a26=>apply Dp.gZ<;>k_is)
  (case a27=>apply Dp.gZ<;>k_is)
  (case a28=>apply Dp.gZ<;>k_is)
  (case a29=>apply Dp.gZ<;>k_is)
  (case a30=>apply Dp.gZ<;>k_is)
  (case a31=>apply Dp.gZ<;>k_is)
  (case a32=>apply Dp.gZ<;>k_is)
  (case a33=>apply Dp.gZ<;>k_is)
  (case a34=>apply Dp.gZ<;>k_is)
  (case a35=>apply Dp.gZ<;>k_is)
  (case a36=>apply Dp.gZ<;>k_is)
  (case a37=>apply Dp.gZ<;>k_is)
  (case a38=>apply Dp.gZ<;>k_is)
  (case a39=>apply Dp.gZ<;>k_is)
  (case a40=>apply Dp.gZ<;>k_is)
  (case a41=>apply Dp.gZ<;>k_is)
  (case a42=>apply Dp.gZ<;>k_is)
  (case a43=>apply Dp.gZ<;>k_is)
  (case a44=>apply Dp.gZ<;>k_is)
  (case a45=>apply Dp.gZ<;>k_is)
  (case a46=>apply Dp.gZ<;>k_is)
  (case a47=>apply Dp.gZ<;>k_is)
  (case a48=>apply Dp.gZ<;>k_is)
  (case a49=>apply Dp.gZ<;>k_is)
  (case z_abs=>k_is)
  (case z_any=>k_is)
  (case z_bool=>k_is)
  (case z_enumerate=>k_is)
  (case z_int=>k_is)
  (case z_isinstance=>k_is)
  (case z_len=>k_is)
  (case z_list=>k_is)
  (case z_max=>k_is)
  (case z_min=>k_is)
  (case z_range=>k_is)
  (case z_sorted=>k_is)
  (case z_str=>k_is)
  (case z_sum=>k_is)
  (case z_tuple=>k_is)
  (case z_is_deed=>k_is)
  (case y_MOST_THINGS=>k_is)
  (case yk0=>k_is)
  (case lk0=>k_is)
  (case yk1=>k_is)
  (case O1=>k_is)
  (case sk1=>rfl)
end