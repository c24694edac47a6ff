import PyProof.Rows.All
import Wide.All
import OpenK.AllK
import Wide.FinOn
import Lean
import PyProof.EqAt
import PyProof.EqKinds
import PyProof.TupleCall
import PyProof.NeKinds
import KE.KSortTup
import PyProof.TableCode
import PyProof.EnumFor
import PyProof.EnumMake
import PyProof.EnumStmt
import PyProof.TupleOfStr
import PyProof.Draws
import PyProof.TupleIter
import KE.KMinKey
import OpenK.KLine
import PySem.Challenge.RW_lotheads_k44_whole_strikes_go_along
open Option renaming bind_eq_some_iff→a0a,map_eq_some_iff→a0d,isSome_iff_exists→a2a,map_some→a5k,isSome_map→a5u,getD_none→a5v
open Bool renaming and_eq_true→a0b,false_ne_true→a0y,false_eq_true→a1t,not_eq_true'→a2n,eq_false_iff→a3f,true_and→a3l,eq_iff_iff→a3x,or_eq_true→a4o,and_false→a5f,and_self→a5o
open List renaming mem_cons_of_mem→a0c,mem_cons_self→a0e,mem_singleton→a0f,size_toArray→a0g,getElem?_eq_getElem→a0h,getElem?_eq_some_iff→a0i,length_map→a0j,getD_eq_getElem?_getD→a0k,replicate→a0l,range→a0m,length_append→a0n,length_cons→a0o,mem_append_right→a0p,getElem?_set_ne→a0q,getElem?_map→a0s,mem_cons→a0t,mem_append→a0u,length_range→a0v,mem_append_left→a0w,getElem?_set_self→a0x,map_append→a0z,mem_range→a1b,length_set→a1c,map_cons→a1f,all_cons→a1g,length_singleton→a1h,mem_of_getElem?→a1i,mem_map→a1k,length_eq_zero_iff→a1m,length_replicate→a1n,take_of_length_le→a1o,length_take→a1p,nodup_append→a1q,lookup_cons→a1r,nodup_cons→a1s,map_map→a1u,map_congr_left→a1v,mem_map_of_mem→a1w,append_nil→a1x,drop_eq_nil_of_le→a2b,getElem?_append_left→a2d,length_drop→a2e,append_assoc→a2g,getElem?_replicate→a2j,range_succ_eq_map→a2k,replicate_succ→a2l,getElem?_append_right→a2m,length_nil→a2o,length_reverse→a2q,getElem?_range→a2r,mem_filter→a2s,getElem_of_mem→a2t,filter_eq_nil_iff→a2u,getElem?_take→a2w,flatten_cons→a3a,nil_append→a3b,getElem?_set→a3c,drop_eq_getElem_cons→a3d,filter_map→a3e,filterMap_cons→a3g,map_nil→a3h,any_cons→a3j,length_pos_iff→a3n,getElem_mem→a3o,mem_reverse→a3p,getElem?_cons_succ→a3q,filter_cons_of_neg→a3r,getLast?_cons_cons→a3s,mem_filterMap→a3t,getElem_range→a3u,eraseIdxIfInBounds_toArray→a3v,getElem?_eq_none→a3z,take_append_drop→a4a,all_eq_true→a4b,getElem_map→a4c,isEmpty_nil→a4f,take_length→a4h,not_mem_nil→a4i,take_subset→a4j,filter_cons→a4k,getElem?_eq_none_iff→a4p,zip_cons_cons→a4q,lookup→a4r,filter_cons_of_pos→a4s,filter_congr→a4t,flatMap_cons→a4u,foldl_append→a4v,ext_getElem→a4w,mem_flatMap→a4x,map_take→a4y,length_filter_le→a4z,of_mem_zip→a5a,forIn_cons→a5b,mem_of_getLast?→a5c,any_map→a5d,flatten_append→a5e,filterMap_map→a5g,getLastD_cons→a5h,filter_append→a5i,map_replicate→a5j,reverse_cons→a5m,map_drop→a5p,map_id→a5q,map_set→a5t,length→a5w,foldl→a5x
open Nat renaming le_refl→a0r,lt_of_lt_of_le→a1a,ne_of_lt→a1d,lt_irrefl→a1l,le_trans→a1z,mod_lt→a2c,lt_or_eq_of_le→a2f,lt_succ_self→a2h,not_lt_zero→a2p,le_of_lt_succ→a2x,zero_add→a2z,zero_le→a3i,lt_succ_of_lt→a3w,le_of_lt→a3y,min_eq_left→a4g,lt_of_le_of_lt→a4m,eq_zero_or_pos→a4n,mul_comm→a5n,le_succ→a5r
open Int renaming toNat_natCast→a1e,natCast_emod→a1y,toNat_of_nonneg→a2i,emod_nonneg→a2v,ofNat→a2y,le_refl→a3k,emod_lt_of_pos→a3m,fdiv_eq_ediv_of_nonneg→a4d,le_antisymm→a4e,natCast_add→a4l,ediv_one→a5l,mul_one→a5s
open Classical renaming propDecidable→a1j
set_option Elab.async false
set_option linter.all false
set_option maxRecDepth 100000
namespace L2
open PySem PySem.Spec PyProof.Rows
noncomputable abbrev eX:=Sum Int Str
noncomputable def o3:eX->Value->Bool
 |.inl k,v=>Value.isInt k v
 |.inr x,v=>Value.isStrOf x v
noncomputable def O7 (w:World):eX->Int
 |.inl k=>hashInt k
 |.inr x=>hashStr w x
theorem cE:∀{k:eX} {v:Value},o3 k v=true->(∃i t,k=Sum.inl i/\v=Value.int i t)\/(∃x t,k=Sum.inr x/\v=Value.str x t)
 |.inl i,v,h=>by
  obtain⟨t,e⟩:=Value.isInt_shape (k:=i) (v:=v) h
  exact .inl ⟨i,t,rfl,e⟩
 |.inr x,v,h=>by
  obtain⟨t,e⟩:=Value.isStrOf_shape (x:=x) (v:=v) h
  exact .inr ⟨x,t,rfl,e⟩
theorem Bk (i:Int)(t:Tok):o3 (.inl i) (.int i t)=true:=by simp[o3,Value.isInt]
theorem A0 (x:Str)(t:Tok):o3 (.inr x) (.str x t)=true:=by simp[o3,Value.isStrOf]
theorem J7 (a b:Int):decide ((Sum.inl a:eX)=Sum.inl b)=(a==b):=by
 by_cases e:a=b
 ·subst e;simp
 ·have h:¬(Sum.inl a:eX)=Sum.inl b:=λq=>e (Sum.inl.inj q)
  rw[decide_eq_false h]
  exact (beq_eq_false_iff_ne.mpr e).symm
theorem Kk (a b:Str):decide ((Sum.inr a:eX)=Sum.inr b)=decide (a=b):=by
 by_cases e:a=b
 ·subst e;simp
 ·have h:¬(Sum.inr a:eX)=Sum.inr b:=λq=>e (Sum.inr.inj q)
  rw[decide_eq_false h,decide_eq_false e]
theorem KZ (a:Int)(b:Str):decide ((Sum.inl a:eX)=Sum.inr b)=false:=decide_eq_false (λq=>nomatch q)
theorem I8 (a:Str)(b:Int):decide ((Sum.inr a:eX)=Sum.inl b)=false:=decide_eq_false (λq=>nomatch q)
noncomputable def bp (prog:Program)(w:World):PySem.KeyKind prog w eX where
 is:=o3
 hash:=O7 w
 inj:=λv a b ha hb=>by
  rcases cE ha with ⟨i,t,rfl,rfl⟩|⟨x,t,rfl,rfl⟩
  ·rcases cE hb with ⟨j,u,rfl,e⟩|⟨y,u,rfl,e⟩
   ·injection e with e1 _;rw[e1]
   ·exact nomatch e
  ·rcases cE hb with ⟨j,u,rfl,e⟩|⟨y,u,rfl,e⟩
   ·exact nomatch e
   ·injection e with e1 _;rw[e1]
 byValue:=λk v h=>by
  rcases cE h with ⟨i,t,rfl,rfl⟩|⟨x,t,rfl,rfl⟩<;>rfl
 pyHash:=λhv h=>by
  rcases cE hv with ⟨i,t,rfl,rfl⟩|⟨x,t,rfl,rfl⟩
  ·exact wpAny_pyHash_int h
  ·exact wpAny_pyHash_str h
 eqBool:=λhu hv h=>by
  rcases cE hu with ⟨i,t,rfl,rfl⟩|⟨x,t,rfl,rfl⟩
  ·rcases cE hv with ⟨j,u,rfl,rfl⟩|⟨y,u,rfl,rfl⟩
   ·rw[J7] at h;exact wpAny_eqBool_int h
   ·rw[KZ] at h;exact SeqAt.EqAt.int_str i t y u _ _ _ _ h
  ·rcases cE hv with ⟨j,u,rfl,rfl⟩|⟨y,u,rfl,rfl⟩
   ·rw[I8] at h;exact SeqAt.EqAt.str_int x t j u _ _ _ _ h
   ·rw[Kk] at h;exact wpAny_eqBool_str h
 «strs»:=λk x t v h=>by
  rcases cE h with ⟨i,u,rfl,e⟩|⟨y,u,rfl,e⟩
  ·exact nomatch e
  ·injection e with e1 _
   subst e1
   cases v<;>rfl
theorem vo (prog:Program)(w:World)(i:Int)(t:Tok):(bp prog w).is (.inl i) (.int i t)=true:=Bk i t
theorem lg (prog:Program)(w:World)(x:Str)(t:Tok):(bp prog w).is (.inr x) (.str x t)=true:=A0 x t
end L2
namespace L2
open PySem PySem.Spec PyProof.Rows
inductive V where
 |non|bl (b:Bool)|int (i:Int)|str (x:Str)|byt (b:Array UInt8)|flt (b:UInt64)|ref (a:Addr)|ty (n:String)
 deriving DecidableEq
noncomputable def jB:V->Value->Prop
 |.non,u=>u=Value.none
 |.bl b,u=>u=Value.bool b
 |.int i,u=>∃t,u=Value.int i t
 |.str x,u=>∃t,u=Value.str x t
 |.byt b,u=>∃t,u=Value.bytes b t
 |.flt b,u=>∃t,u=Value.float b t
 |.ref a,u=>u=Value.ref a
 |.ty n,u=>u=Value.type n
noncomputable abbrev Vals:List V->List Value->Prop:=Paired jB
theorem Vals.length {xs:List V}{us:List Value}(r:Vals xs us):xs.length=us.length:=Paired.length r
theorem Vals.get:∀{xs:List V} {us:List Value} {i:Nat} {x:V},Vals xs us->xs[i]?=some x->∃u,us[i]?=some u/\jB x u
 |_,_,_,_,.nil,e=>by simp at e
 |_,_,0,_,.cons r _,e=>by simp at e;subst e;exact⟨_,rfl,r⟩
 |_,_,i+1,x,.cons _ t,e=>by
  obtain⟨u,h1,h2⟩:=Vals.get (i:=i) (x:=x) t (by simpa using e)
  exact⟨u,by simpa using h1,h2⟩
noncomputable def MA:Option V->Option Value->Prop
 |some v,some u=>jB v u
 |none,none=>True
 |_,_=>False
noncomputable def KV {κ:Type}:List (κ×V)->List (κ×Value)->Prop:=Paired λ(p:κ×V) (q:κ×Value)=>p.1=q.1/\jB p.2 q.2
noncomputable def kV:eX->V
 |.inl i=>.int i
 |.inr x=>.str x
inductive HO where
 |lst (xs:List V)
 |tup (xs:List V)
 |dK (kvs:List (eX×V))|dT (kvs:List (List eX×V))
 |set (S:Int->Bool) (n:Nat)
 |ins (C dx:Addr) (fs:List (Str×V))
 |own (x:Addr)
 |xd (fs:List (Str×V))
 |met (f x:Addr)
 |rng (lo hi:Int)
 |frz (o:Obj) (u:HO)
 |tbl (ps:Array Value)
 |ext (φ:Heap->Prop)
noncomputable abbrev Hp:=Addr->Option HO
noncomputable def fI (H:Hp)(a:Addr)(o:HO):Hp:=λb=>if b=a then some o else H b
theorem bQ {H:Hp}{a:Addr}{o:HO}:fI H a o a=some o:=by unfold fI;rw[if_pos rfl]
theorem aS {H:Hp}{a b:Addr}{o:HO}(h:b≠a):fI H a o b=H b:=by unfold fI;rw[if_neg h]
section
variable (P:Program)(w:World)
noncomputable def ObjOk (H:Hp)(h:Heap)(a:Addr):HO->Prop
 |.lst xs=>xs.length<=sizeLine/\∃(its:List Value) (n:Nat),Vals xs its/\h.get? a=some { cls:=.type "list",data:=.seq its.toArray n }
 |.tup xs=>xs.length<=sizeLine/\∃its:List Value,Vals xs its/\IsTup h a its.toArray
 |.dK kvs=>kvs.length<=sizeLine/\(a==sysModules)=false/\∃vs,KV kvs vs/\h.DictOf (bp P w) a vs
 |.dT kvs=>kvs.length<=sizeLine/\(a==sysModules)=false/\∃xs:List (List eX×Addr×Value),
   Paired (λ(p:List eX×V) (q:List eX×Addr×Value)=>p.1=q.1/\H q.2.1=some (.tup (p.1.map kV))/\jB p.2 q.2.2) kvs xs ∧
   ∃o es ep,h.get? a=some o/\o.ExactDict/\o.data=.dict es ep/\es.toList=xs.map (entryOfKey (tupleKind (bp P w)))/\(xs.map (·.1)).Nodup
 |.set S n=>h.SetOf (intKind P w) a S n
 |.ins C dx fs=>H dx=some (.own a)/\fs.length<=1000/\dx≠a/\h.get? a=some (PySem.W.instObj C dx) ∧
   ∃mA,h.Ns1 dx mA/\(∀f,MA (fs.lookup f) (mA f))/\PySem.Within mA (fs.map (·.1))
 |.own _=>∃o,h.get? a=some o
 |.xd fs=>∃mA,h.Ns1 a mA/\∀f,MA (fs.lookup f) (mA f)
 |.rng lo hi=>∃t u v,h.get? a=some { cls:=.type "range",data:=.fields #[.int lo t,.int hi u,.int 1 v] }
 |.frz o u=>h.get? a=some o/\ObjOk H h a u
 |.tbl ps=>h.get? a=some { cls:=.none,data:=.fields ps }
 |.met f x=>h.get? a=some (PySem.W.methodObj (.ref f) (.ref x))
 |.ext φ=>φ h/\(∃o,h.get? a=some o)/\∀h1 h2:Heap,φ h1->(∀o,h1.get? a=some o->h2.get? a=some o)->φ h2
noncomputable def HOk (H:Hp)(h:Heap):Prop:=∀a o,H a=some o->ObjOk P w H h a o
end
section
variable {P:Program}{w:World}{H H':Hp}{h h':Heap}{a:Addr}{o:HO}
theorem ObjOk.lt (x:ObjOk P w H h a o):a<h.objs.size:=by
 cases o with
 |lst xs=>obtain⟨_,_,_,_,e⟩:=x;exact Heap.lt_size e
 |tup xs=>obtain⟨_,_,_,p⟩:=x;exact p.lt
 |dK kvs=>obtain⟨_,_,_,_,o,_,_,e,_⟩:=x;exact Heap.lt_size e
 |dT kvs=>obtain⟨_,_,_,_,o,_,_,e,_⟩:=x;exact Heap.lt_size e
 |set S n=>obtain⟨o,_,_,_,e,_⟩:=x;exact Heap.lt_size e
 |ins C dx fs=>obtain⟨_,_,_,e,_⟩:=x;exact Heap.lt_size e
 |own y=>obtain⟨_,e⟩:=x;exact Heap.lt_size e
 |xd fs=>obtain⟨_,⟨_,_,_,e,_⟩,_⟩:=x;exact Heap.lt_size e
 |rng lo hi=>obtain⟨_,_,_,e⟩:=x;exact Heap.lt_size e
 |frz ob u=>obtain⟨e,_⟩:=x;exact Heap.lt_size e
 |tbl ps=>exact Heap.lt_size (show h.get? a=some _ from x)
 |met f y=>exact Heap.lt_size (show h.get? a=some _ from x)
 |ext φ=>obtain⟨_,⟨_,e⟩,_⟩:=x;exact Heap.lt_size e
theorem Paired.mapP {α β:Type}{F G:α->β->Prop}:∀{l₁:List α} {l₂:List β},Paired F l₁ l₂->(∀a b,F a b->G a b)->Paired G l₁ l₂
 |_,_,.nil,_=>.nil
 |_,_,.cons r t,f=>.cons (f _ _ r) (Paired.mapP t f)
theorem ObjOk.stay (x:ObjOk P w H h a o)(k:∀b u,(b=a\/H b=some (.own a))->h.get? b=some u->h'.get? b=some u)
  (ho:∀b,H b=some (.own a)->H' b=some (.own a)) (ht:∀b xs,H b=some (.tup xs)->H' b=some (.tup xs)):ObjOk P w H' h' a o:=by
 induction o with
 |lst xs=>obtain⟨z,its,n,r,e⟩:=x;exact⟨z,its,n,r,k _ _ (.inl rfl) e⟩
 |tup xs=>obtain⟨z,its,r,ob,e,c⟩:=x;exact⟨z,its,r,ob,k _ _ (.inl rfl) e,c⟩
 |dK kvs=>obtain⟨z,y,vs,r,ob,es,ep,e,c⟩:=x;exact⟨z,y,vs,r,ob,es,ep,k _ _ (.inl rfl) e,c⟩
 |dT kvs=>
  obtain⟨z,y,xs,r,ob,es,ep,e,c⟩:=x
  exact⟨z,y,xs,Paired.mapP r λp q z=>⟨z.1,ht _ _ z.2.1,z.2.2⟩,ob,es,ep,k _ _ (.inl rfl) e,c⟩
 |set S n=>obtain⟨ob,es,ep,t,e,c⟩:=x;exact⟨ob,es,ep,t,k _ _ (.inl rfl) e,c⟩
 |ins C dx fs=>
  obtain⟨d,z,ne,e,mA,⟨od,es,ep,e2,c⟩,r⟩:=x
  exact⟨ho _ d,z,ne,k _ _ (.inl rfl) e,mA,⟨od,es,ep,k _ _ (.inr d) e2,c⟩,r⟩
 |own y=>obtain⟨ob,e⟩:=x;exact⟨ob,k _ _ (.inl rfl) e⟩
 |xd fs=>obtain⟨mA,⟨od,es,ep,e,c⟩,r⟩:=x;exact⟨mA,⟨od,es,ep,k _ _ (.inl rfl) e,c⟩,r⟩
 |rng lo hi=>obtain⟨t,u,v,e⟩:=x;exact⟨t,u,v,k _ _ (.inl rfl) e⟩
 |frz ob u ih=>obtain⟨e,q⟩:=x;exact⟨k _ _ (.inl rfl) e,ih q⟩
 |tbl ps=>
  have e:h.get? a=some { cls:=.none,data:=.fields ps }:=x
  show h'.get? a=some { cls:=.none,data:=.fields ps }
  exact k a _ (.inl rfl) e
 |met f y=>
  have e:h.get? a=some (PySem.W.methodObj (.ref f) (.ref y)):=x
  show h'.get? a=some (PySem.W.methodObj (.ref f) (.ref y))
  exact k a _ (.inl rfl) e
 |ext φ=>obtain⟨p,⟨o,e⟩,st⟩:=x;exact⟨st _ _ p λo q=>k _ _ (.inl rfl) q,⟨o,k _ _ (.inl rfl) e⟩,st⟩
theorem HOk.lt (x:HOk P w H h)(e:H a=some o):a<h.objs.size:=(x a o e).lt
theorem HOk.fresh (x:HOk P w H h)(e:h.objs.size<=a):H a=none:=by
 cases q:H a with
 |none=>rfl
 |some u=>exact absurd (a1a (x.lt q) e) (a1l _)
theorem HOk.kept (x:HOk P w H h)(k:∀b u,h.get? b=some u->h'.get? b=some u):HOk P w H h':=λa o e=>
 (x a o e).stay (λb u _ q=>k b u q) (λ_ q=>q) λ_ _ q=>q
end
noncomputable def Rd (H:Hp)(a:Addr)(u:HO):Prop:=H a=some u\/∃o,H a=some (.frz o u)
noncomputable def Oy:Option HO->Prop
 |some (.lst _)=>True
 |some (.dK _)=>True
 |some (.dT _)=>True
 |some (.set _ _)=>True
 |some (.ins _ _ _)=>True
 |some (.ext _)=>True
 |_=>False
section
variable {P:Program}{w:World}{H:Hp}{h h':Heap}{x e:Addr}{o':HO}
theorem HOk.write (ok:HOk P w H h)(mu:Oy (H x))(he:e=x\/H e=some (.own x))(k:∀b u,b≠e->h.get? b=some u->h'.get? b=some u)(heo:∃u,h'.get? e=some u)
  (new:ObjOk P w (fI H x o') h' x o'):HOk P w (fI H x o') h':=λb u q=>by
 have nown:∀c y,H c=some (.own y)->c≠x:=λc y r z=>by subst z;rw[r] at mu;exact mu
 have ntup:∀c xs,H c=some (.tup xs)->c≠x:=λc xs r z=>by subst z;rw[r] at mu;exact mu
 by_cases hb:b=x
 ·subst hb;rw[bQ] at q;cases q;exact new
 ·rw[aS hb] at q
  by_cases hbe:b=e
  ·have q':H b=some (.own x):=by
    rcases he with z|z
    ·exact absurd (hbe.trans z) hb
    ·rw[hbe];exact z
   rw[q] at q';cases q'
   obtain⟨v,hv⟩:=heo
   exact⟨v,by rw[hbe];exact hv⟩
  ·refine (ok b u q).stay (λc v hc r=>k c v ?_ r) (λc r=>by rw[aS (nown c b r)];exact r) λc xs r=>by rw[aS (ntup c xs r)];exact r
   rcases hc with rfl|hc
   ·exact hbe
   ·rintro rfl
    rcases he with z|z
    ·exact nown c b hc z
    ·rw[hc] at z;cases z;exact hb rfl
end
structure Un (fs ex:List Addr)(H H':Hp)(h h':Heap):Prop where
 keep:∀b o,h.get? b=some o->H b=none->b∉fs->b∉ex->h'.get? b=some o
 slot:∀b o,h.get? b=some o->H b=none->b∈fs->b∉ex->∃sl,h'.get? b=some { o with slots:=sl }
 free:∀b o,h.get? b=some o->H b=none->b∉ex->H' b=none
 there:∀b o,h.get? b=some o->b∉ex->∃o',h'.get? b=some o'
 tups:∀b xs,H b=some (.tup xs)->H' b=some (.tup xs)
 frzs:∀b o u,H b=some (.frz o u)->H' b=some (.frz o u)
 tbls:∀b ps,H b=some (.tbl ps)->∃more,H' b=some (.tbl (ps++more))
section
variable {fs fs' ex ex':List Addr}{H H1 H2:Hp}{h h1 h2 h':Heap}{a x e:Addr}{o:HO}
theorem Un.any (u:Un fs ex H H1 h h1){b:Addr}{ob:Obj}(q:h.get? b=some ob)(n:H b=none)(hx:b∉ex):∃sl,h1.get? b=some { ob with slots:=sl }:=by
 by_cases hb:b∈fs
 ·exact u.slot b ob q n hb hx
 ·exact⟨ob.slots,u.keep b ob q n hb hx⟩
theorem Un.kept (k:∀b u,h.get? b=some u->h'.get? b=some u):Un fs ex H H h h':=
 ⟨λb ob q _ _ _=>k b ob q,λb ob q _ _ _=>⟨ob.slots,k b ob q⟩,λ_ _ _ n _=>n,λb ob q _=>⟨ob,k b ob q⟩,λ_ _ q=>q,λ_ _ _ q=>q,λ_ ps q=>⟨#[],by rw[q];simp⟩⟩
theorem Un.write (mu:Oy (H x))(he:e=x\/H e=some (.own x))(k:∀b u,b≠e->h.get? b=some u->h'.get? b=some u)(heo:∃u,h'.get? e=some u):Un fs ex H (fI H x o) h h':=by
 have hx:∀b,H b=none->b≠x:=λb n z=>by subst z;rw[n] at mu;exact mu
 have hb:∀b,H b=none->b≠e:=λb n z=>by
  subst z
  rcases he with r|r
  ·exact hx b n r
  ·rw[n] at r;cases r
 have hm:∀b u,H b=some u->¬Oy (some u)->b≠x:=λb u q nm z=>by subst z;rw[q] at mu;exact nm mu
 refine⟨λb u q n _ _=>k b u (hb b n) q,λb u q n _ _=>⟨u.slots,k b u (hb b n) q⟩,λb u q n _=>by rw[aS (hx b n)];exact n,λb u q _=>?_,
  λb xs q=>by rw[aS (hm b _ q λz=>z)];exact q,λb u xs q=>by rw[aS (hm b _ q λz=>z)];exact q,λb ps q=>⟨#[],by rw[aS (hm b _ q λz=>z),q];simp⟩⟩
 by_cases hbe:b=e
 ·subst hbe;exact heo
 ·exact⟨u,k b u hbe q⟩
end
noncomputable def n6 (g h:Heap)(L:Addr):List (Addr×Obj):=(a0m h.objs.size).filterMap λa=>if a=L\/(g.get? a).isSome=true then none else (h.get? a).map λo=>(a,o)
theorem ph {g h:Heap}{L a:Addr}{o:Obj}(h1:a≠L)(h2:g.get? a=none)(h3:h.get? a=some o):(a,o)∈n6 g h L:=
 a3t.mpr ⟨a,a1b.mpr (Heap.lt_size h3),by simp[h1,h2,h3]⟩
theorem qU {g h:Heap}{L:Addr}{p:Addr×Obj}(hp:p∈n6 g h L):p.1≠L/\g.get? p.1=none/\h.get? p.1=some p.2:=by
 obtain⟨b,_,e⟩:=a3t.mp hp
 split at e
 ·cases e
 ·rename_i hn
  cases q:h.get? b with
  |none=>rw[q] at e;simp at e
  |some u=>
   rw[q] at e
   simp only[a5k,Option.some.injEq] at e
   subst e
   refine⟨λz=>hn (.inl z),?_,q⟩
   show g.get? b=none
   cases r:g.get? b with
   |none=>rfl
   |some v=>exact (hn (.inr (by simp[r]))).elim
noncomputable def gl (g h:Heap)(L d:Addr):List (Addr×Obj):=(n6 g h L).filter λp=>decide (p.1≠d)
theorem B8 {g h:Heap}{L:Addr}:News g L h (n6 g h L):=λp hp=>let ⟨a,b,c⟩:=qU hp;⟨c,a,b⟩
end L2
namespace L2
open PySem PySem.Spec PyProof.Rows
structure Mod (K:PySem.W.Frag)(mg:Str->Option Value)(base:Heap):Prop where
 kin:K.In base
 glob:base.Ns mainGlobals mg
 blt:∃mb,base.Ns builtinsNs mb/\∀x:Str,x ≠ "__name__"->mb x=bootBuiltins x
 nolimit:base.NoLimit
structure Cx where
 prog:Program
 w:World
 K:PySem.W.Frag
 mg:Str->Option Value
 base:Heap
 A:Around
 N:List Str
 s₀:Shared
 H₀:Hp
 env:Env
 outer:List Env
 stack:List Env
 ex:List Addr
 fn:Str->Bool
 calm:Bool
 pn:List (Addr×Obj)
 xe:Value->Shared->Prop
noncomputable def qk (l:List Env):List Addr:=l.filterMap (·.frame)
noncomputable abbrev Cx.fs (X:Cx):List Addr:=qk X.outer
noncomputable def rX (sc:Scope)(x:Str):Prop:=sc.names.lookup x=some .local\/sc.names.lookup x=some .cell\/sc.names.lookup x=some .free
noncomputable def Qj (sc:Scope)(x:Str):Prop:=sc.names.lookup x=some .local\/sc.names.lookup x=some .cell
noncomputable def NK (env:Env)(h:Heap)(m:Str->Option Value)(x:Str)(u:Value):Prop:=
 (env.kindOf x=some .local/\m x=some u)\/((env.kindOf x=some .cell\/env.kindOf x=some .free)/\∃c,env.cells.lookup x=some c/\h.IsCell c (some u))
structure Cx.Ok (X:Cx):Prop where
 mod:Mod X.K X.mg X.base
 kind:X.env.scope.kind=.function
 glob:X.env.globals=mainGlobals
 blt:X.env.builtins=builtinsNs
 above:X.s₀.heap.objs.size<=X.env.locals
 inj:∀x y c,X.env.cells.lookup x=some c->X.env.cells.lookup y=some c->x=y
 has:∀x,(X.env.kindOf x=some .cell\/X.env.kindOf x=some .free)->∃c,X.env.cells.lookup x=some c
 cab:∀x c,X.fn x=true->X.env.cells.lookup x=some c->X.s₀.heap.objs.size<=c
 hd:X.calm=true->X.A.handled=none
 frames:X.A.frames=some X.stack
 stk:X.stack=X.outer\/(X.stack=X.env::X.outer/\X.env.frame=some X.env.locals)
 exf:∀b∈X.ex,b≠X.env.locals/\∀x c,X.env.cells.lookup x=some c->c≠b
 bs:∀b o,X.base.get? b=some o->X.s₀.heap.get? b=some o/\X.H₀ b=none
 bsz:X.base.objs.size<=X.s₀.heap.objs.size
 noex:∀b o,X.base.get? b=some o->b∉X.ex
 exfs:∀b∈X.ex,b∉X.fs
 funs:X.s₀.heap.FunFrames X.base X.outer
 frf:∀b∈X.fs,X.H₀ b=none
structure Inv (X:Cx)(pins:List (Addr×Obj))(σ:List (Option V))(H:Hp)(s:Shared):Prop where
 ok:X.Ok
 os:s.os=X.s₀.os
 bare:AllBare s.gens
 base:Un X.fs X.ex X.H₀ H X.s₀.heap s.heap
 loc:∃m,s.heap.Ns X.env.locals m/\∀(i:Nat) (x:Str) (v:V),X.N[i]?=some x->σ[i]?=some (some v)->rX X.env.scope x->∃u,jB v u/\NK X.env s.heap m x u
 cell:∀x c,X.env.cells.lookup x=some c->∃v,s.heap.IsCell c v
 free:H X.env.locals=none
 freeC:∀x c,X.env.cells.lookup x=some c->H c=none
 pin:∀p∈X.pn++pins,s.heap.get? p.1=some p.2/\H p.1=none/\p.1≠X.env.locals/\p.1∉X.fs/\∀v,p.2.data≠.cell v
 hok:HOk X.prog X.w H s.heap
 len:σ.length=X.N.length
section
variable {X:Cx}{pins:List (Addr×Obj)}{σ:List (Option V)}{H H':Hp}{s:Shared}{h':Heap}
theorem Cx.Ok.nofr (ok:X.Ok){b:Addr}{o:Obj}(e:X.base.get? b=some o):b∉X.fs:=λhb=>by
 have:=(ok.funs.mem hb).1
 rw[e] at this;cases this
theorem Inv.bs (I:Inv X pins σ H s):∀b o,X.base.get? b=some o->s.heap.get? b=some o/\H b=none:=λb o e=>
 ⟨I.base.keep b o (I.ok.bs b o e).1 (I.ok.bs b o e).2 (I.ok.nofr e) (I.ok.noex b o e),I.base.free b o (I.ok.bs b o e).1 (I.ok.bs b o e).2 (I.ok.noex b o e)⟩
theorem Inv.bk (I:Inv X pins σ H s):∀b o,X.base.get? b=some o->s.heap.get? b=some o:=λb o e=>(I.bs b o e).1
theorem Inv.mod (I:Inv X pins σ H s):Mod X.K X.mg X.base:=I.ok.mod
theorem Inv.kIn (I:Inv X pins σ H s):X.K.In s.heap:=I.ok.mod.kin.keeps I.bk
theorem Inv.fr (I:Inv X pins σ H s):∃m,Fr X.base X.env.locals s.heap m:=
 let ⟨m,hn,_⟩:=I.loc
 ⟨m,hn,I.bk,a1z I.ok.bsz I.ok.above⟩
theorem Inv.lt (I:Inv X pins σ H s):X.env.locals<s.heap.objs.size:=let ⟨_,hn,_⟩:=I.loc;hn.lt
theorem Inv.sz (I:Inv X pins σ H s):X.s₀.heap.objs.size<=s.heap.objs.size:=a1z I.ok.above (a3y I.lt)
theorem Inv.nofs (I:Inv X pins σ H s){a:Addr}(h:s.heap.objs.size<=a):a∉X.fs:=λhb=>by
 obtain⟨_,o,ho,_⟩:=I.ok.funs.mem hb
 exact absurd (a1a (Heap.lt_size ho) (a1z I.sz h)) (a1l _)
theorem Inv.cne (I:Inv X pins σ H s):∀x c,X.env.cells.lookup x=some c->c≠X.env.locals:=λx c e z=>by
 obtain⟨v,o,ho,hd⟩:=I.cell x c e
 obtain⟨m,⟨o',es,ep,ho',hd',_⟩,_⟩:=I.loc
 rw[z,ho'] at ho;cases ho;rw[hd'] at hd;cases hd
theorem Inv.funs (I:Inv X pins σ H s):s.heap.FunFrames X.base X.outer:=by
 have all:∀(l:List Env),(∀b∈qk l,b∈X.fs)->X.s₀.heap.FunFrames X.base l->s.heap.FunFrames X.base l:=by
  intro l
  induction l with
  |nil=>intro _ _;trivial
  |cons env r ih=>
   intro hs hl
   obtain⟨hk,⟨L,o,hf,hn,ho,hd⟩,hr⟩:=hl
   have hL:L∈X.fs:=hs L (by unfold qk;rw[a3g,hf];exact a0e)
   obtain⟨sl,e⟩:=I.base.slot L o ho (I.ok.frf L hL) hL λz=>I.ok.exfs L z hL
   exact⟨hk,⟨L,_,hf,hn,e,hd⟩,ih (λb hb=>hs b (by unfold qk;rw[a3g,hf];exact a0c _ hb)) hr⟩
 exact all X.outer (λ_ hb=>hb) I.ok.funs
theorem Inv.stack (I:Inv X pins σ H s):s.heap.FunFrames X.base X.stack:=by
 rcases I.ok.stk with e|⟨e,hf⟩
 ·rw[e];exact I.funs
 ·rw[e]
  obtain⟨m,hn,_⟩:=I.loc
  refine .cons (by rw[I.ok.kind];decide) hf hn ?_ I.funs
  exact Heap.get?_none_of_le (a1z I.ok.bsz I.ok.above)
theorem Inv.stkSub (I:Inv X pins σ H s):∀b∈qk X.stack,b∈X.env.locals::X.fs:=λb hb=>by
 rcases I.ok.stk with e|⟨e,hf⟩
 ·rw[e] at hb;exact a0c _ hb
 ·rw[e] at hb
  unfold qk at hb
  rw[a3g,hf] at hb
  exact hb
theorem Inv.stkFree (I:Inv X pins σ H s):∀b∈qk X.stack,H b=none:=λb hb=>by
 rcases a0t.mp (I.stkSub b hb) with e|hb
 ·rw[e];exact I.free
 ·obtain⟨_,o,ho,_⟩:=I.ok.funs.mem hb
  exact I.base.free b o ho (I.ok.frf b hb) λz=>I.ok.exfs b z hb
theorem Inv.step {g':Array GenState}{t':Nat}{d':Drawn}{ch:List Addr}(I:Inv X pins σ H s)
  (hch:∀b∈ch,(b∈X.ex\/X.s₀.heap.objs.size<=b)/\b≠X.env.locals/\(∀x c,X.env.cells.lookup x=some c->c≠b)/\∀p∈X.pn++pins,p.1≠b)
  (keep:∀b o,b≠X.env.locals->b∉X.fs->b∉ch->s.heap.get? b=some o->H b=none->h'.get? b=some o)
  (slot:∀b o,b≠X.env.locals->b∈X.fs->b∉ch->s.heap.get? b=some o->H b=none->∃sl,h'.get? b=some { o with slots:=sl }) (free:∀b o,b∉ch->s.heap.get? b=some o->H b=none->H' b=none)
  (there:∀b o,b∉ch->s.heap.get? b=some o->∃o',h'.get? b=some o')
  (tups:∀b xs,H b=some (.tup xs)->H' b=some (.tup xs)) (frzs:∀b o u,H b=some (.frz o u)->H' b=some (.frz o u)) (tbls:∀b ps,H b=some (.tbl ps)->∃more,H' b=some (.tbl (ps++more)))
  (ns:∀m,s.heap.Ns X.env.locals m->h'.Ns X.env.locals m) (hok:HOk X.prog X.w H' h') (hg:AllBare g') :
  Inv X pins σ H' { s with heap:=h',gens:=g',drawn:=d',toks:=t' }:=by
 have neL:∀b o,X.s₀.heap.get? b=some o->b≠X.env.locals:=λb o e=>a1d (a1a (Heap.lt_size e) I.ok.above)
 have neC:∀b o,X.s₀.heap.get? b=some o->b∉X.ex->b∉ch:=λb o e hx hb=>by
  rcases (hch b hb).1 with z|z
  ·exact hx z
  ·exact absurd (a1a (Heap.lt_size e) z) (a1l _)
 have cellK:∀x c,X.env.cells.lookup x=some c->∀v,s.heap.IsCell c v->h'.IsCell c v:=λx c e v ⟨o,ho,hd⟩=>by
  have nch:c∉ch:=λz=>(hch c z).2.2.1 x c e rfl
  by_cases hc:c∈X.fs
  ·obtain⟨sl,q⟩:=slot c o (I.cne x c e) hc nch ho (I.freeC x c e)
   exact⟨_,q,hd⟩
  ·exact⟨o,keep c o (I.cne x c e) hc nch ho (I.freeC x c e),hd⟩
 refine⟨I.ok,I.os,hg,⟨λb o e n hb hx=>?_,λb o e n hb hx=>?_,λb o e n hx=>?_,λb o e hx=>?_,λb xs e=>tups b xs (I.base.tups b xs e),λb o xs e=>frzs b o xs (I.base.frzs b o xs e),λb ps e=>?_⟩,?_,λx c e=>?_,?_,λx c e=>?_,λp hp=>?_,hok,I.len⟩
 ·exact keep b o (neL b o e) hb (neC b o e hx) (I.base.keep b o e n hb hx) (I.base.free b o e n hx)
 ·obtain⟨sl,e1⟩:=I.base.slot b o e n hb hx
  obtain⟨sl',e2⟩:=slot b _ (neL b o e) hb (neC b o e hx) e1 (I.base.free b o e n hx)
  exact⟨sl',e2⟩
 ·obtain⟨o',e1⟩:=I.base.there b o e hx
  exact free b o' (neC b o e hx) e1 (I.base.free b o e n hx)
 ·obtain⟨o',e1⟩:=I.base.there b o e hx
  exact there b o' (neC b o e hx) e1
 ·obtain⟨m1,e1⟩:=I.base.tbls b ps e
  obtain⟨m2,e2⟩:=tbls b _ e1
  exact⟨m1++m2,by rw[e2,Array.append_assoc]⟩
 ·obtain⟨m,hn,hl⟩:=I.loc
  refine⟨m,ns m hn,λi x v e1 e2 e3=>?_⟩
  obtain⟨u,r,l⟩:=hl i x v e1 e2 e3
  refine⟨u,r,?_⟩
  rcases l with l|⟨k,c,e,z⟩
  ·exact .inl l
  ·exact .inr ⟨k,c,e,cellK x c e _ z⟩
 ·obtain⟨v,z⟩:=I.cell x c e
  exact⟨v,cellK x c e v z⟩
 ·obtain⟨m,⟨o,_,_,ho,_⟩,_⟩:=I.loc
  exact free _ o (λz=>(hch _ z).2.1 rfl) ho I.free
 ·obtain⟨v,o,ho,hd⟩:=I.cell x c e
  exact free c o (λz=>(hch c z).2.2.1 x c e rfl) ho (I.freeC x c e)
 ·obtain⟨e,n,ne,nf,d⟩:=I.pin p hp
  have nch:p.1∉ch:=λz=>(hch p.1 z).2.2.2 p hp rfl
  exact⟨keep p.1 p.2 ne nf nch e n,free p.1 p.2 nch e n,ne,nf,d⟩
theorem Inv.un {t':Nat}(I:Inv X pins σ H s)(u:Un X.fs [] H H' s.heap h')(hok:HOk X.prog X.w H' h'):Inv X pins σ H' { s with heap:=h',toks:=t' }:=by
 obtain⟨m,⟨o,es,ep,ho,r⟩,_⟩:=id I.loc
 obtain⟨sl,hL⟩:=u.any ho I.free (by simp)
 exact I.step (g':=s.gens) (d':=s.drawn) (ch:=[]) (λ_ z=>nomatch z) (λb o _ hb _ e n=>u.keep b o e n hb (by simp)) (λb o _ hb _ e n=>u.slot b o e n hb (by simp)) (λb o _ e n=>u.free b o e n (by simp)) (λb o _ e=>u.there b o e (by simp)) u.tups u.frzs u.tbls (λm' hm=>by
  obtain⟨o',es',ep',ho',r'⟩:=hm
  rw[ho] at ho';cases ho'
  exact⟨_,es',ep',hL,r'⟩) hok I.bare
theorem Inv.call {g':Array GenState}{t':Nat}{d':Drawn}{ch:List Addr}(I:Inv X pins σ H s)(u:Un (qk X.stack) ch H H' s.heap h')(hok:HOk X.prog X.w H' h')(hg:AllBare g')
  (hch:∀b∈ch,(b∈X.ex\/X.s₀.heap.objs.size<=b)/\b≠X.env.locals/\(∀x c,X.env.cells.lookup x=some c->c≠b)/\∀p∈X.pn++pins,p.1≠b) :
  Inv X pins σ H' { s with heap:=h',gens:=g',drawn:=d',toks:=t' }:=by
 obtain⟨m,⟨o,es,ep,ho,r⟩,_⟩:=id I.loc
 obtain⟨sl,hL⟩:=u.any ho I.free λz=>(hch _ z).2.1 rfl
 exact I.step (ch:=ch) hch (λb o hL hb hc e n=>u.keep b o e n (λz=>(a0t.mp (I.stkSub b z)).elim hL hb) hc) (λb o _ _ hc e n=>u.any e n hc) (λb o hc e n=>u.free b o e n hc) (λb o hc e=>u.there b o e hc) u.tups u.frzs u.tbls (λm' hm=>by
  obtain⟨o',es',ep',ho',r'⟩:=hm
  rw[ho] at ho';cases ho'
  exact⟨_,es',ep',hL,r'⟩) hok hg
theorem Inv.turned {t':Nat}{it:Addr}(I:Inv X pins σ H s)(k:∀b o,b≠it->s.heap.get? b=some o->h'.get? b=some o)(hn:H it=none)(hL:it≠X.env.locals)
  (h1:it∈X.ex\/X.s₀.heap.objs.size<=it) (h2:∀x c,X.env.cells.lookup x=some c->c≠it) (h3:∀p∈X.pn++pins,p.1≠it):Inv X pins σ H { s with heap:=h',toks:=t' }:=by
 have nit:∀b u,H b=some u->b≠it:=λb u e z=>by rw[z,hn] at e;cases e
 refine I.step (g':=s.gens) (d':=s.drawn) (ch:=[it]) (λb hb=>?_) (λb o _ _ hc e _=>k b o (λz=>hc (by simp[z])) e) (λb o _ _ hc e _=>⟨o.slots,k b o (λz=>hc (by simp[z])) e⟩) (λ_ _ _ _ n=>n)
  (λb o hc e=>⟨o,k b o (λz=>hc (by simp[z])) e⟩) (λ_ _ e=>e) (λ_ _ _ e=>e) (λb ps e=>⟨#[],by rw[e];simp⟩) (λm hm=>?_) (λb u e=>?_) I.bare
 ·have e:b=it:=by simpa using hb
  subst e
  exact⟨h1,hL,h2,h3⟩
 ·obtain⟨o,es,ep,ho,r⟩:=hm
  exact⟨o,es,ep,k _ o (Ne.symm hL) ho,r⟩
 ·refine (I.hok b u e).stay (λc v hc q=>k c v ?_ q) (λ_ q=>q) λ_ _ q=>q
  rcases hc with z|z
  ·rw[z];exact nit b u e
  ·exact nit c _ z
theorem Inv.kept {t':Nat}(I:Inv X pins σ H s)(k:∀b u,s.heap.get? b=some u->h'.get? b=some u):Inv X pins σ H { s with heap:=h',toks:=t' }:=I.un (Un.kept k) (I.hok.kept k)
theorem Inv.write {x e:Addr}{o:HO}{t':Nat}(I:Inv X pins σ H s)(mu:Oy (H x))(he:e=x\/H e=some (.own x))(k:∀b u,b≠e->s.heap.get? b=some u->h'.get? b=some u)(heo:∃u,h'.get? e=some u)
  (new:ObjOk X.prog X.w (fI H x o) h' x o):Inv X pins σ (fI H x o) { s with heap:=h',toks:=t' }:=I.un (Un.write mu he k heo) (I.hok.write mu he k heo new)
theorem Inv.pins_of {pins':List (Addr×Obj)}(I:Inv X pins σ H s)(h:∀p∈pins',s.heap.get? p.1=some p.2/\H p.1=none/\p.1≠X.env.locals/\p.1∉X.fs/\∀v,p.2.data≠.cell v):Inv X pins' σ H s:=
 ⟨I.ok,I.os,I.bare,I.base,I.loc,I.cell,I.free,I.freeC,λp hp=>(a0u.mp hp).elim (λz=>I.pin p (a0w _ z)) (h p),I.hok,I.len⟩
theorem wk {N:List Str}(hN:N.Nodup){i j:Nat}{x:Str}(a:N[i]?=some x)(b:N[j]?=some x):i=j:=by
 obtain⟨h1,e1⟩:=a0i.mp a
 obtain⟨h2,e2⟩:=a0i.mp b
 exact (List.getElem_inj hN).mp (e1.trans e2.symm)
theorem jX {M:Model}{A:Around}{E:Value->Shared->Prop}{i:Nat}{x:Str}{v:V}{u:Value}{Q:Unit->Shared->Prop}(I:Inv X pins σ H s)(hN:X.N.Nodup)(hi:X.N[i]?=some x)(hx:Qj X.env.scope x)(r:jB v u)
  (h:∀s',Inv X pins (σ.set i (some v)) H s'->(∃a,Heap.SameBut a s.heap s'.heap/\(a=X.env.locals\/X.env.cells.lookup x=some a))->Q () s') (hf:X.fn x=true\/X.env.scope.names.lookup x=some .local:=by first|exact .inl rfl|exact .inr rfl|assumption):wpAny M A (storeName X.env x u) Q E s:=by
 obtain⟨m,hn,hl⟩:=id I.loc
 have hcls:(X.env.scope.kind==.class || (X.env.scope.kind==.module&&X.env.locals != X.env.globals))=false:=by rw[I.ok.kind];rfl
 have hiσ:i<σ.length:=by rw[I.len];exact (a0i.mp hi).1
 have cne:=I.cne
 have tracked:∀{a:Addr} {h':Heap},(∃o,s.heap.get? a=some o/\H a=none)->Heap.SameBut a s.heap h'->HOk X.prog X.w H h':=λ{a h'} ha hs b ob e=>by
  obtain⟨_,_,hfree⟩:=ha
  refine (I.hok b ob e).stay (λc w' hc q=>(hs.2 c ?_).trans q) (λ_ q=>q) λ_ _ q=>q
  rintro rfl
  rcases hc with rfl|hc
  ·rw[hfree] at e;cases e
  ·rw[hfree] at hc;cases hc
 rcases hx with hk|hk
 ·refine wpAny_storeName_local hk hn (λh' hn' hs=>?_) hcls
  obtain⟨oL,_,_,hoL,_⟩:=id hn
  refine h _ ⟨I.ok,I.os,I.bare,⟨λb o e n hb hx=>?_,λb o e n hb hx=>?_,I.base.free,λb o e hx=>?_,I.base.tups,I.base.frzs,I.base.tbls⟩,⟨_,hn',λj y v' e1 e2 e3=>?_⟩,λy c e=>?_,I.free,I.freeC,λp hp=>?_,tracked ⟨oL,hoL,I.free⟩ hs,by simpa using I.len⟩ ⟨_,hs,.inl rfl⟩
  ·exact (hs.2 b (a1d (a1a (Heap.lt_size e) I.ok.above))).trans (I.base.keep b o e n hb hx)
  ·obtain⟨sl,e1⟩:=I.base.slot b o e n hb hx
   exact⟨sl,(hs.2 b (a1d (a1a (Heap.lt_size e) I.ok.above))).trans e1⟩
  ·obtain⟨o',e1⟩:=I.base.there b o e hx
   exact⟨o',(hs.2 b (a1d (a1a (Heap.lt_size e) I.ok.above))).trans e1⟩
  ·by_cases hj:j=i
   ·subst hj
    rw[hi] at e1;cases e1
    rw[a0x hiσ] at e2
    cases e2
    exact⟨u,r,.inl ⟨hk,by simp⟩⟩
   ·rw[a0q (Ne.symm hj)] at e2
    obtain⟨u',r',q⟩:=hl j y v' e1 e2 e3
    refine⟨u',r',?_⟩
    rcases q with ⟨k,e⟩|⟨k,c,e,z⟩
    ·refine .inl ⟨k,?_⟩
     have:y≠x:=λe=>hj (wk hN e1 (e▸hi))
     simp[this,e]
    ·exact .inr ⟨k,c,e,z.sameBut hs (cne y c e)⟩
  ·obtain⟨w',z⟩:=I.cell y c e
   exact⟨w',z.sameBut hs (cne y c e)⟩
  ·obtain⟨e,n,ne,nf,d⟩:=I.pin p hp
   exact⟨(hs.2 p.1 ne).trans e,n,ne,nf,d⟩
 ·have hfn:X.fn x=true:=by
   rcases hf with z|z
   ·exact z
   ·rw[z] at hk;cases hk
  obtain⟨c,hc⟩:=I.ok.has x (.inl hk)
  obtain⟨w',z⟩:=I.cell x c hc
  refine wpAny_storeName_cell I.ok.kind hk hc z (λh' hc' hs=>?_)
  obtain⟨oc,hoc,hocd⟩:=id z
  refine h { s with heap:=h' } ⟨I.ok,I.os,I.bare,⟨λb o e n hb hx=>?_,λb o e n hb hx=>?_,I.base.free,λb o e hx=>?_,I.base.tups,I.base.frzs,I.base.tbls⟩,⟨m,hn.sameBut hs (Ne.symm (cne x c hc)),λj y v' e1 e2 e3=>?_⟩,λy c' e=>?_,I.free,I.freeC,λp hp=>?_,tracked ⟨oc,hoc,I.freeC x c hc⟩ hs,by simpa using I.len⟩ ⟨c,hs,.inr hc⟩
  ·exact (hs.2 b (a1d (a1a (Heap.lt_size e) (I.ok.cab x c hfn hc)))).trans (I.base.keep b o e n hb hx)
  ·obtain⟨sl,e1⟩:=I.base.slot b o e n hb hx
   exact⟨sl,(hs.2 b (a1d (a1a (Heap.lt_size e) (I.ok.cab x c hfn hc)))).trans e1⟩
  ·obtain⟨o',e1⟩:=I.base.there b o e hx
   exact⟨o',(hs.2 b (a1d (a1a (Heap.lt_size e) (I.ok.cab x c hfn hc)))).trans e1⟩
  ·by_cases hj:j=i
   ·subst hj
    rw[hi] at e1;cases e1
    rw[a0x hiσ] at e2
    cases e2
    exact⟨u,r,.inr ⟨.inl hk,c,hc,hc'⟩⟩
   ·rw[a0q (Ne.symm hj)] at e2
    obtain⟨u',r',q⟩:=hl j y v' e1 e2 e3
    refine⟨u',r',?_⟩
    rcases q with q|⟨k,c',e,z'⟩
    ·exact .inl q
    ·refine .inr ⟨k,c',e,z'.sameBut hs ?_⟩
     rintro rfl
     exact hj (wk hN e1 (I.ok.inj _ _ _ e hc▸hi))
  ·by_cases hcc:c'=c
   ·subst hcc;exact⟨_,hc'⟩
   ·obtain⟨w2,z2⟩:=I.cell y c' e
    exact⟨w2,z2.sameBut hs hcc⟩
  ·obtain⟨e,n,ne,nf,d⟩:=I.pin p hp
   refine⟨(hs.2 p.1 ?_).trans e,n,ne,nf,d⟩
   intro q
   rw[q,hoc] at e
   have q':oc=p.2:=Option.some.inj e
   exact d w' (by rw[←q'];exact hocd)
theorem Inv.call' {s':Shared}{ch:List Addr}(I:Inv X pins σ H s)(ho:s'.os=s.os)(u:Un (qk X.stack) ch H H' s.heap s'.heap)(hok:HOk X.prog X.w H' s'.heap)(hg:AllBare s'.gens)
  (hch:∀b∈ch,(b∈X.ex\/X.s₀.heap.objs.size<=b)/\b≠X.env.locals/\(∀x c,X.env.cells.lookup x=some c->c≠b)/\∀p∈X.pn++pins,p.1≠b):Inv X pins σ H' s':=by
 obtain⟨h',g',d',t',o'⟩:=s'
 have e:o'=s.os:=ho
 subst e
 exact I.call (g':=g') (t':=t') (d':=d') u hok hg hch
end
noncomputable abbrev XK:=Value->Option Addr->Hp->Prop
noncomputable abbrev St:=List (Option V)
noncomputable abbrev VK:=V->Hp->Prop
noncomputable abbrev TE:=St->Hp->VK->Prop
noncomputable abbrev TT:=St->Hp->(Bool->Hp->Prop)->Prop
noncomputable abbrev TA:=St->Hp->(List V->Hp->Prop)->Prop
structure Ends where
 nx:St->Hp->Prop
 rt:VK
 bk:St->Hp->Prop:=λ_ _=>False
 ct:St->Hp->Prop:=λ_ _=>False
noncomputable abbrev TS:=Ends->St->Hp->Prop
noncomputable def EP (X:Cx)(pins:List (Addr×Obj))(σ:St)(Q:VK)(u:Value)(s':Shared):Prop:=∃v H',Inv X pins σ H' s'/\jB v u/\Q v H'
noncomputable def PE (X:Cx)(e:Expr)(t:TE):Prop:=
 ∀(pins:List (Addr×Obj)) (s:Shared) (σ:St) (H:Hp) (Q:VK),Inv X pins σ H s->t σ H Q->wpAny (model X.prog X.w) X.A (eval e X.env) (EP X pins σ Q) X.xe s
theorem aV {α:Type}{t:Sem α}{Q Q':α->Shared->Prop}{M:Model}{A:Around}{E:Value->Shared->Prop}{s:Shared}(h:wpAny M A t Q E s)(hQ:∀a s,Q a s->Q' a s):wpAny M A t Q' E s:=wpAny_mono h hQ λ_ _ x=>x
end L2
namespace L2
open PySem PySem.Spec PyProof.Rows
section
variable {X:Cx}
noncomputable def M0 (i:Nat):TE:=λσ H Q=>∃v,σ[i]?=some (some v)/\Q v H
theorem JT {i:Nat}{x:Str}{pos:Pos}(hN:X.N[i]?=some x)(hv:rX X.env.scope x)(hd:(x==("__debug__" : Str))=false:=by decide)(hcd:(x==("__classdict__" : Str))=false:=by decide):PE X (.Name x pos) (M0 i):=by
 intro pins s σ H Q I h
 obtain⟨v,e,h⟩:=h
 obtain⟨m,hn,hl⟩:=I.loc
 obtain⟨u,r,l⟩:=hl i x v hN e hv
 have fin:EP X pins σ Q u s:=⟨v,H,I,r,h⟩
 rcases l with ⟨hk,hm⟩|⟨hk,c,hc,hcell⟩
 ·exact wpAny_Name (wpAny_loadName_local I.ok.kind hk hn hm fin) hd
 ·rcases hk with hk|hk
  ·exact wpAny_Name (wpAny_loadName_cell I.ok.kind hk hc hcell fin) hd
  ·exact wpAny_Name (wpAny_loadName_free I.ok.kind hk hc hcell fin hcd) hd
noncomputable def Gl (X:Cx)(x:Str):Prop:=X.env.kindOf x=some .globalImplicit
theorem pU {E:Value->Shared->Prop}{pins:List (Addr×Obj)}{s:Shared}{σ:St}{H:Hp}{x:Str}{u:Value}{pos:Pos}{Q:Value->Shared->Prop}(I:Inv X pins σ H s)(hg:Gl X x)(hm:X.mg x=some u)(h:Q u s)
  (hd:(x==("__debug__" : Str))=false:=by decide):wpAny (model X.prog X.w) X.A (eval (.Name x pos) X.env) Q E s:=
 Calls.Name_function_global I.ok.kind hg (Calls.loadGlobal_global (by rw[I.ok.glob];exact I.mod.glob.keeps I.bk) hm h) hd
theorem kX {E:Value->Shared->Prop}{pins:List (Addr×Obj)}{s:Shared}{σ:St}{H:Hp}{x:Str}{u:Value}{pos:Pos}{Q:Value->Shared->Prop}(I:Inv X pins σ H s)(hg:Gl X x)(hm:X.mg x=none)(hv:bootBuiltins x=some u)(h:Q u s)
  (hn:x ≠ "__name__":=by decide) (hd:(x==("__debug__" : Str))=false:=by decide):wpAny (model X.prog X.w) X.A (eval (.Name x pos) X.env) Q E s:=by
 obtain⟨mb,h1,h2⟩:=I.mod.blt
 exact Calls.Name_function_global I.ok.kind hg (Calls.loadGlobal_builtin (by rw[I.ok.glob];exact I.mod.glob.keeps I.bk) hm (by rw[I.ok.blt];exact h1.keeps I.bk) ((h2 x hn).trans hv) h) hd
variable {a b:Expr}{ta tb:TE}{pos:Pos}
variable {tA tB':TT}{gl:List Expr}
end
end L2
namespace L2
open PySem PySem.Spec PyProof.Rows
noncomputable def P2 (K:PySem.W.Frag)(H:Hp)(a:Addr)(xs:List V):Prop:=
 Rd H a (.lst xs) ∨
  ∃(o:Obj) (its:Array Value) (n:Nat),K.lookup a=some o/\o.cls=.type "list"/\o.dict=none/\o.data=.seq its n/\its.size<=sizeLine/\Vals xs its.toList
noncomputable def Qq (K:PySem.W.Frag)(H:Hp)(a:Addr)(xs:List V):Prop:=
 Rd H a (.tup xs) ∨
  ∃(o:Obj) (its:Array Value) (n:Nat),K.lookup a=some o/\o.cls=.type "tuple"/\o.data=.seq its n/\its.size<=sizeLine/\Vals xs its.toList
section
variable {X:Cx}{pins:List (Addr×Obj)}{σ:St}{H:Hp}{s:Shared}{a:Addr}{xs ys:List V}
end
section
variable {X:Cx}{pins:List (Addr×Obj)}{σ:St}{H:Hp}{s:Shared}{E:Value->Shared->Prop}
end
section
variable {X:Cx}{st:Stmt}{gl:List Stmt}{t u:TS}{e:Expr}{te:TE}{pos:Pos}
theorem Inv.quiet {pins:List (Addr×Obj)}{σ:St}{H:Hp}{s:Shared}(I:Inv X pins σ H s):interactive X.env=false:=by simp[interactive,I.ok.kind]
end
noncomputable def jU (X:Cx)(pins:List (Addr×Obj))(H:Hp)(b:Addr):Prop:=
 H b=none/\b≠X.env.locals/\b∉X.fs/\(b∈X.ex\/X.s₀.heap.objs.size<=b)/\(∀x c,X.env.cells.lookup x=some c->c≠b)/\∀p∈X.pn++pins,p.1≠b
theorem Inv.fpOk {X:Cx}{pins:List (Addr×Obj)}{σ:St}{H H':Hp}{s:Shared}{b:Addr}(I:Inv X pins σ H s)(hb:s.heap.objs.size<=b)(hn:H' b=none):jU X pins H' b:=by
 refine⟨hn,Nat.ne_of_gt (a1a I.lt hb),I.nofs hb,.inr (a1z I.sz hb),λx c e z=>?_,λp hp z=>?_⟩
 ·obtain⟨v,q⟩:=I.cell x c e
  exact absurd (a1a q.lt (by rw[z];exact hb)) (a1l _)
 ·exact absurd (a1a (Heap.lt_size (I.pin p hp).1) (by rw[z];exact hb)) (a1l _)
theorem vQ {M:Model}{A:Around}{E:Value->Shared->Prop}{s:Shared}{tg:Expr}{it:Addr}{u:Value}{o:Obj}{n:String}{vs:Array Value}{Q:Unit->Shared->Prop}(ho:s.heap.get? it=some o)(hc:o.cls=.type n)(hd:o.data=.fields vs)
  (hn:["enumerate","zip","dict_itemiterator","dict_reverseitemiterator","odict_iterator","itertools.zip_longest","itertools.pairwise"].contains n=false) (hQ:Q () s):wpAny M A (letOwnedTupleGo tg (.ref it) u) Q E s:=by
 unfold letOwnedTupleGo
 cases tg<;>first
  |exact wpAny_pure hQ
  |(cases u<;>first
    |exact wpAny_pure hQ
    |(refine wpAny_bind (wpAny_load ho ?_)
      rw[hc,hd]
      show wpAny M A (if (["enumerate","zip","dict_itemiterator","dict_reverseitemiterator","odict_iterator","itertools.zip_longest","itertools.pairwise"].contains n&&vs[0]?==some (rawInt _))=true then _ else _) Q E s
      rw[if_neg (by intro h;rw[hn,Bool.false_and] at h;cases h)]
      exact wpAny_pure hQ))
end L2
namespace L2
open PySem PySem.Spec PyProof.Rows
section
variable {X:Cx}{tg:Expr}
noncomputable def mY (fp:List Addr)(h:Heap):List (Addr×Obj):=fp.filterMap λb=>(h.get? b).map λo=>(b,o)
theorem xS {fp:List Addr}{h:Heap}{b:Addr}{o:Obj}(hb:b∈fp)(e:h.get? b=some o):(b,o)∈mY fp h:=a3t.mpr ⟨b,hb,by rw[e];rfl⟩
theorem Bo {fp:List Addr}{h:Heap}{p:Addr×Obj}(hp:p∈mY fp h):p.1∈fp/\h.get? p.1=some p.2:=by
 obtain⟨b,hb,e⟩:=a3t.mp hp
 cases q:h.get? b with
 |none=>rw[q] at e;cases e
 |some o=>
  rw[q] at e
  have e':(b,o)=p:=Option.some.inj e
  subst e'
  exact⟨hb,q⟩
theorem Inv.pinned {pins:List (Addr×Obj)}{σ:St}{H:Hp}{s:Shared}{fp:List Addr}(I:Inv X pins σ H s)(hf:∀b∈fp,jU X pins H b)(ho:∀b∈fp,∃o,s.heap.get? b=some o/\∀v,o.data≠.cell v):Inv X (pins++mY fp s.heap) σ H s:=
 I.pins_of λp hp=>(a0u.mp hp).elim (λz=>I.pin p (a0p _ z)) λz=>by
  obtain⟨hb,e⟩:=Bo z
  obtain⟨f0,f1,f2,_⟩:=hf p.1 hb
  obtain⟨o,e',d⟩:=ho p.1 hb
  rw[e] at e';cases e'
  exact⟨e,f0,f1,f2,d⟩
theorem Inv.unpinned {pins pl:List (Addr×Obj)}{σ:St}{H:Hp}{s:Shared}(I:Inv X (pins++pl) σ H s):Inv X pins σ H s:=I.pins_of λp hp=>I.pin p (a0p _ (a0w _ hp))
end
end L2
namespace L2
open PySem PySem.Spec PyProof.Rows
noncomputable abbrev R2:=V->V->Hp->VK->Prop
noncomputable def rI (C:Int->Int->Prop)(g:Int->Int->V):R2:=λx y H Q=>∃i j,x=.int i/\y=.int j/\C i j/\Q (g i j) H
noncomputable def rU (g:Int->V):V->Hp->VK->Prop:=λx H Q=>∃i,x=.int i/\Q (g i) H
section
variable {X:Cx}{a b c:Expr}{ta tb tc:TE}{pos:Pos}
noncomputable def CMul (i j:Int):Prop:=(-(2 ^ 64)<i/\i<2 ^ 64)\/(-(2 ^ 64)<j/\j<2 ^ 64)
theorem CMul.ok {i j:Int}(h:CMul i j):IntMulOk i j:=by
 rcases h with ⟨h1,h2⟩|⟨h1,h2⟩
 ·exact .of_left (intBits_le_64 h1 h2)
 ·exact .of_right (intBits_le_64 h1 h2)
theorem xU (k:Nat):(0:Int)<=2 ^ k:=by
 rw[two_pow_cast]
 exact Int.natCast_nonneg _
end
noncomputable def NN:V->V->Bool
 |.non,.non=>true|.non,.int _=>true|.int _,.non=>true|.non,.bl _=>true|.bl _,.non=>true|.non,.str _=>true|.str _,.non=>true
 |.int _,.int _=>true|.bl _,.bl _=>true|.str _,.str _=>true|.byt _,.byt _=>true
 |.int _,.str _=>true|.str _,.int _=>true|.bl _,.str _=>true|.str _,.bl _=>true
 |_,_=>false
noncomputable def j7:R2:=λx y H Q=>NN x y=true/\Q (.bl (decide (x=y))) H
noncomputable def mW:R2:=λx y H Q=>NN x y=true/\Q (.bl (!decide (x=y))) H
section
variable {X:Cx}{a b c:Expr}{ta tb tc:TE}{pos:Pos}
theorem oB:(sizeLine:Nat)<2 ^ 63:=by rw[sizeLine_eq];decide
end
end L2
namespace L2
open PySem PySem.Spec PyProof.Rows
section
variable {X:Cx}{o e value:Expr}{f:Str}{pos pos' tpos:Pos}{ta tv:TE}
noncomputable def b6:V->V->Hp->VK->Prop:=λx y H Q=>∃i j,x=.int i/\y=.int j/\Q (.int (i+j)) H
noncomputable def qm:V->V->Hp->VK->Prop:=λx y H Q=>∃i j,x=.int i/\y=.int j/\Q (.int (i - j)) H
end
section
variable {X:Cx}{pins:List (Addr×Obj)}{σ:St}{H:Hp}{s:Shared}{A:Around}{E:Value->Shared->Prop}{Q:Value->Shared->Prop}{c:Value}{b:Bool}
end
end L2
namespace L2
open PySem PySem.Spec PyProof.Rows
noncomputable abbrev Sp:=List V->Hp->VK->XK->Prop
noncomputable abbrev PZ:=List Env->Hp->Shared->XK->Value->Shared->Prop
structure Env0 (P:Program)(w:World)(K:PySem.W.Frag)(mg:Str->Option Value)(base:Heap)(A:Around)(outer:List Env)(s:Shared)(H:Hp):Prop where
 frames:A.frames=some outer
 mod:Mod K mg base
 bs:∀b o,base.get? b=some o->s.heap.get? b=some o/\H b=none
 bsz:base.objs.size<=s.heap.objs.size
 funs:s.heap.FunFrames base outer
 frf:∀b∈qk outer,H b=none
 hok:HOk P w H s.heap
 bare:AllBare s.gens
section
variable {X:Cx}{pins:List (Addr×Obj)}{σ:St}{H:Hp}{s s':Shared}
theorem Inv.env0 (I:Inv X pins σ H s):Env0 X.prog X.w X.K X.mg X.base X.A X.stack s H:=
 ⟨I.ok.frames,I.ok.mod,I.bs,a1z I.ok.bsz I.sz,I.stack,I.stkFree,I.hok,I.bare⟩
end
noncomputable def Binds (K:PySem.W.Frag)(fd:FuncData)(ps:List Str)(ds:List Value):Prop:=
 ∀(s:Shared) (us:List Value),K.In s.heap->(us++ds).length=ps.length->BindsTo s fd ⟨us,[]⟩ (ps.zip (us++ds))
theorem Binds.all {K:PySem.W.Frag}{fd:FuncData}{ps:List Str}(h:∀us:List Value,us.length=ps.length->bindArgs fd ⟨us,[]⟩=pure (ps.zip us)):Binds K fd ps []:=λs us _ hl=>by
 rw[a1x] at hl ⊢
 exact .of_eq (h us hl)
section
variable {X:Cx}{CX:PZ}{k:Nat}{f C:Addr}{fd:FuncData}{ps:List Str}{sp:Sp}{dvs:List V}{ds:List Value}{E:XK}{x m:Str}{p pos apos:Pos}{e o:Expr}{es:List Expr}{ta:TE}{t:TA}
end
section
variable {X:Cx}{CX:PZ}{k:Nat}{f C:Addr}{fd:FuncData}{ps ks:List Str}{sp:Sp}{E:XK}{x m:Str}{p pos apos kpos:Pos}{e o:Expr}{es:List Expr}{kws:List Keyword}{te ta:TE}{t tk:TA}{nm:Option Str}
variable {g:List Value->List Value->List Value}{gV:List V->List V->List V}
end
structure FnScope (N P:List Str)(sc:Scope):Prop where
 kind:sc.kind=.function
 co:sc.isCoroutine=false
 gen:sc.isGenerator=false
 nd:N.Nodup
 pre:N.take P.length=P
 par:∀x∈P,sc.names.lookup x=some .local\/sc.names.lookup x=some .cell
 nofree:∀y∈sc.names,y.2≠.free
theorem tI {kindOf:Str->Option NameKind}{x:Str}:∀{binds:List (Str×Value)} {m:Str->Option Value},(∀v,(x,v)∉binds)->bindL kindOf binds m x=m x
 |[],_,_=>rfl
 |(n,v)::r,m,h=>by
  unfold bindL
  rw[tI λw hw=>h w (a0c _ hw)]
  split
  ·have:x≠n:=by rintro rfl;exact h v a0e
   simp[this]
  ·rfl
theorem sS {kindOf:Str->Option NameKind}{x:Str}:∀{binds:List (Str×Value)} {m:Str->Option Value},(∀v,(x,v)∉binds)->bindC kindOf binds m x=m x
 |[],_,_=>rfl
 |(n,v)::r,m,h=>by
  unfold bindC
  rw[sS λw hw=>h w (a0c _ hw)]
  split
  ·rfl
  ·have:x≠n:=by rintro rfl;exact h v a0e
   simp[this]
theorem tQ {kindOf:Str->Option NameKind}{x:Str}{v:Value}:∀{P:List Str} {vs:List Value} {i:Nat} {m:Str->Option Value},P.Nodup->P[i]?=some x->vs[i]?=some v->kindOf x=some .local →
  bindL kindOf (P.zip vs) m x=some v
 |[],_,_,_,_,h,_,_=>by simp at h
 |_::_,[],_,_,_,_,h,_=>by simp at h
 |p::P,w::vs,0,m,nd,h1,h2,hk=>by
  simp at h1 h2;subst h1;subst h2
  show bindL kindOf ((p,w)::P.zip vs) m p=_
  unfold bindL
  rw[tI λv hv=>(a1s.mp nd).1 (a5a hv).1,if_pos hk]
  simp
 |p::P,w::vs,i+1,m,nd,h1,h2,hk=>by
  show bindL kindOf ((p,w)::P.zip vs) m x=_
  unfold bindL
  exact tQ (i:=i) (a1s.mp nd).2 (by simpa using h1) (by simpa using h2) hk
theorem sB {kindOf:Str->Option NameKind}{x:Str}{v:Value}:∀{P:List Str} {vs:List Value} {i:Nat} {m:Str->Option Value},P.Nodup->P[i]?=some x->vs[i]?=some v->kindOf x≠some .local →
  bindC kindOf (P.zip vs) m x=some v
 |[],_,_,_,_,h,_,_=>by simp at h
 |_::_,[],_,_,_,_,h,_=>by simp at h
 |p::P,w::vs,0,m,nd,h1,h2,hk=>by
  simp at h1 h2;subst h1;subst h2
  show bindC kindOf ((p,w)::P.zip vs) m p=_
  unfold bindC
  rw[sS λv hv=>(a1s.mp nd).1 (a5a hv).1,if_neg hk]
  simp
 |p::P,w::vs,i+1,m,nd,h1,h2,hk=>by
  show bindC kindOf ((p,w)::P.zip vs) m x=_
  unfold bindC
  exact sB (i:=i) (a1s.mp nd).2 (by simpa using h1) (by simpa using h2) hk
noncomputable def iT (N:List Str)(vs:List V):St:=vs.map some++a0l (N.length - vs.length) none
theorem wo {sc:Scope}{n:Nat}{x:Str}(h:sc.names.lookup x=some .cell):∃c,(cellsFrom n sc.names []).lookup x=some c:=by
 have q:=PySem.W.cellsFrom_some sc.names n [] (.inl h)
 exact a2a.mp q
end L2
namespace L2
open PySem PySem.Spec PyProof.Rows
end L2
namespace HT
open PySem PyProof.Rows
section
variable {prog:Program}{w:World}{A:Around}{E:Value->Shared->Prop}{s:Shared}
theorem cat_tup {t b:Addr}{vs ws:List Value}{Q:Value->Shared->Prop}(ht:IsTup s.heap t vs.toArray)(hb:IsTup s.heap b ws.toArray)(hv:vs≠[])
  (h1:ws=[]->Q (.ref t) s) (h2:ws≠[]->Q (.ref s.heap.objs.size) { s with heap:=s.heap.push { cls:=.type "tuple",data:=.seq (vs++ws).toArray } })
  (hsz:vs.length+ws.length<=sizeLine):wpAny (model prog w) A (binaryOp .Add (.ref t) (.ref b)) Q E s:=by
 obtain⟨⟨cls,dd,data,sl⟩,ho,hc,n,hd⟩:=id ht
 obtain⟨⟨cls2,dd2,data2,sl2⟩,ho2,hc2,n2,hd2⟩:=id hb
 simp only at hc hd hc2 hd2
 subst hc hd hc2 hd2
 have e:vs.toArray++ws.toArray=(vs++ws).toArray:=by simp
 by_cases hw:ws=[]
 ·exact concat_meets ⟨_,ho,rfl⟩ ⟨_,ho2,rfl⟩ noFill_tuple_add seq_tuple_add PySem.F.slot_tuple_add PySem.F.entry_tuple_add (PySem.F.args_tuple_add_2 _ _)
   (tuple_addW1 t b vs.toArray ws.toArray n n2 dd dd2 sl sl2 (by simpa using hv) (by simp[hw])) ⟨ho,ho2,h1 hw⟩
 ·refine concat_meets ⟨_,ho,rfl⟩ ⟨_,ho2,rfl⟩ noFill_tuple_add seq_tuple_add PySem.F.slot_tuple_add PySem.F.entry_tuple_add (PySem.F.args_tuple_add_2 _ _)
   (tuple_addW2 t b vs.toArray ws.toArray n n2 dd dd2 sl sl2 (by simpa using hv) (by simpa using hw) (by rw[a0g,a0g];exact hsz)) ⟨ho,ho2,?_⟩
  rw[e]
  exact h2 hw
noncomputable def sIx (n d:Nat):Option Int->Nat
 |none=>d
 |some v=>if v<0 then (v+(n:Int)).toNat else min v.toNat n
theorem sIx_none (n d:Nat):sIx n d none=d:=rfl
theorem sIx_nat (n d k:Nat):sIx n d (some (k:Int))=min k n:=by
 show (if (k:Int)<0 then ((k:Int)+(n:Int)).toNat else min (k:Int).toNat n)=min k n
 rw[if_neg (by omega),a1e]
theorem IN (n d:Nat)(hd:d<=n)(o:Option Int):sIx n d o<=n:=by
 cases o with
 |none=>exact hd
 |some v=>
  show (if v<0 then (v+(n:Int)).toNat else min v.toNat n)<=n
  by_cases hv:v<0
  ·rw[if_pos hv];omega
  ·rw[if_neg hv];exact Nat.min_le_right _ _
theorem yU (v:Int)(n d:Nat):(if v<0 then max (v+(n:Int)) 0 else min v (n:Int))=((sIx n d (some v):Nat):Int):=by
 show (if v<0 then max (v+(n:Int)) 0 else min v (n:Int))=(((if v<0 then (v+(n:Int)).toNat else min v.toNat n):Nat):Int)
 by_cases hv:v<0
 ·simp only[if_pos hv];omega
 ·simp only[if_neg hv];omega
theorem xW (lo hi:Option Int)(n:Nat):Builtin.Slice.sliceAdjust lo hi 1 (n:Int)=(((sIx n 0 lo:Nat):Int),((sIx n n hi:Nat):Int)):=by
 have h1:¬((1:Int)<0):=by omega
 unfold Builtin.Slice.sliceAdjust
 simp only[h1,if_false]
 refine Prod.ext ?_ ?_
 ·cases lo with
  |none=>rfl
  |some v=>exact yU v n 0
 ·cases hi with
  |none=>rfl
  |some v=>exact yU v n n
theorem xY (i j:Nat):Builtin.Slice.slicePlaces (i:Int) (j:Int) 1=j - i:=by
 unfold Builtin.Slice.slicePlaces
 have h1:(1:Int) > 0:=by omega
 simp only[h1,if_true,a5l]
 split<;>omega
theorem slicePart_ {v:Value}{o:Option Int}{Q:Option Int->Shared->Prop}(p:IsPart v o)(h:Q o s):wpAny (model prog w) A (Builtin.Slice.slicePartIndex v) Q E s:=by
 cases p with
 |none=>exact slicePart_none h
 |int i t=>exact slicePart_int h
theorem jO {sl:Addr}{vl vu:Value}{lo hi:Option Int}{n:Nat}{Q:Int×Int×Nat->Shared->Prop}(hs:s.heap.IsSliceOf sl vl vu .none)(pl:IsPart vl lo)(pu:IsPart vu hi)
  (h:Q (((sIx n 0 lo:Nat):Int),1,sIx n n hi - sIx n 0 lo) s):wpAny (model prog w) A (Builtin.Slice.sliceApplied (.ref sl) (pure (n:Int))) Q E s:=by
 obtain⟨os,hos,hcs,hds⟩:=id hs
 unfold Builtin.Slice.sliceApplied Builtin.Slice.sliceFields
 refine wpAny_bind (wpAny_bind (wpAny_field hos hds (x:=vl) rfl (wpAny_bind (wpAny_field hos hds (x:=vu) rfl (wpAny_bind (wpAny_field hos hds (x:=.none) rfl (wpAny_pure ?_)))))))
 refine wpAny_bind (slicePart_none ?_)
 show wpAny _ _ (if ((1:Int)==0)=true then _ else _) _ _ s
 rw[if_neg (by decide)]
 refine wpAny_bind (slicePart_ pl (wpAny_bind (slicePart_ pu (wpAny_bind (wpAny_pure ?_)))))
 show wpAny _ _ (match Builtin.Slice.sliceAdjust lo hi 1 (n:Int) with|(lo,hi)=>pure (lo,(1:Int),Builtin.Slice.slicePlaces lo hi 1)) _ _ s
 rw[xW lo hi n]
 show wpAny _ _ (pure (((sIx n 0 lo:Nat):Int),(1:Int),Builtin.Slice.slicePlaces ((sIx n 0 lo:Nat):Int) ((sIx n n hi:Nat):Int) 1)) _ _ s
 rw[xY]
 exact wpAny_pure h
theorem CW (xs:Array Value)(i k:Nat):((a0m k).filterMap λ(m:Nat)=>xs[((i:Int)+(m:Int) * 1).toNat]?).toArray=((xs.toList.drop i).take k).toArray:=by
 have e:(λ(m:Nat)=>xs[((i:Int)+(m:Int) * 1).toNat]?)=λm=>xs[i+m]?:=by
  funext m
  have:((i:Int)+(m:Int) * 1).toNat=i+m:=by omega
  rw[this]
 rw[e]
 have:=pick_run xs i k
 rw[a5g] at this
 have e2:((λx=>xs[x]?) ∘ λx=>i+x)=λm=>xs[i+m]?:=rfl
 rw[e2] at this
 rw[this]
theorem getItem_tuple_cut {t sl:Addr}{items:Array Value}{vl vu:Value}{lo hi:Option Int}{Q:Value->Shared->Prop}(ht:IsTup s.heap t items)(hs:s.heap.IsSliceOf sl vl vu .none)(pl:IsPart vl lo)(pu:IsPart vu hi)
  (hw:¬(sIx items.size 0 lo=0/\sIx items.size items.size hi=items.size))
  (h:Q (.ref s.heap.objs.size) { s with heap:=s.heap.push { cls:=.type "tuple",data:=.seq ((items.toList.drop (sIx items.size 0 lo)).take (sIx items.size items.size hi - sIx items.size 0 lo)).toArray } })
  (hsz:items.size<=sizeLine):wpAny (model prog w) A (getItem (.ref t) (.ref sl)) Q E s:=by
 have htake:sizeOk (.seq ((items.toList.drop (sIx items.size 0 lo)).take (sIx items.size items.size hi - sIx items.size 0 lo)).toArray):=by
  show ((items.toList.drop (sIx items.size 0 lo)).take (sIx items.size items.size hi - sIx items.size 0 lo)).toArray.size<=sizeLine
  rw[a0g,a1p,a2e,Array.length_toList]
  omega
 have hj:sIx items.size items.size hi<=items.size:=IN _ _ (a0r _) hi
 obtain⟨os,hos,hcs,hds⟩:=id hs
 have hTs:s.TypeIs (.ref sl) "slice":=⟨os,hos,hcs⟩
 unfold getItem
 try with_reducible refine wpAny_holding ?_
 first|refine wpAny_bind (wpAny_pure ?_)|skip
 refine wpAny_bind (wpAny_sequenceKey ht.typeIs (by decide) ?_)
 refine wpAny_bind (wpAny_callSpecial?_slot (name:=Str.ofString "__getitem__") ht.typeIs PyProof.Rows.slot_tuple_getitem
  (wpAny_call_entry PyProof.Rows.slot_tuple_getitem ht.typeIs entry_tuple_getitem ?_ (args_tuple_getitem _ _)))
 show wpAny _ _ (Builtin.Tuple.tupleItemsOf (.ref t) >>= _) _ _ s
 refine wpAny_bind (tupleItemsOf_ ht ?_)
 refine wpAny_bind (wpAny_typeOf hTs ?_)
 rw[if_pos (by decide)]
 refine wpAny_bind (jO hs pl pu ?_)
 have hno:¬((((sIx items.size 0 lo:Nat):Int)==0&&(1:Int)==1&&(sIx items.size items.size hi - sIx items.size 0 lo)==items.size)=true):=by
  intro q
  rw[a0b,a0b] at q
  have q1:((sIx items.size 0 lo:Nat):Int)=0:=eq_of_beq q.1.1
  have q2:sIx items.size items.size hi - sIx items.size 0 lo=items.size:=eq_of_beq q.2
  exact hw ⟨by omega,by omega⟩
 show wpAny _ _ (if (((sIx items.size 0 lo:Nat):Int)==0&&(1:Int)==1&&(sIx items.size items.size hi - sIx items.size 0 lo)==items.size)=true then _ else _) _ _ s
 rw[if_neg hno,CW]
 first
  |exact wpAny_bind (m:=Builtin.Tuple.tupleExact _) (wpAny_newObj_type (wpAny_pure ⟨_,rfl,wpAny_pure h⟩) htake)
  |exact wpAny_bind (m:=Builtin.Tuple.tupleExact _) (wpAny_newObj_type (wpAny_bind (wpAny_pure (wpAny_pure ⟨_,rfl,wpAny_pure h⟩))) htake)
  |exact wpAny_bind (wpAny_bind (m:=Builtin.Tuple.tupleExact _) (wpAny_newObj_type (wpAny_pure (wpAny_pure ⟨_,rfl,wpAny_pure h⟩)) htake))
  |exact wpAny_bind (wpAny_bind (m:=Builtin.Tuple.tupleExact _) (wpAny_newObj_type (wpAny_pure ⟨_,rfl,wpAny_pure h⟩) htake))
end
end HT
namespace L2
open PySem PySem.Spec PyProof.Rows
noncomputable abbrev TO:=St->Hp->(Option Int->Hp->Prop)->Prop
section
variable {X:Cx}{e:Expr}{te:TE}{lo hi:Option Expr}{tl th:TO}{pos p2:Pos}
end
end L2
namespace L2
open PySem PySem.Spec PyProof.Rows
noncomputable def sQ (n:Nat)(i:Int):Option Nat:=if 0<=i then (if i<n then some i.toNat else none) else if -(n:Int)<=i then some (i+n).toNat else none
noncomputable def c8 {α:Type}(xs:List α)(i:Int):Option α:=(sQ xs.length i).bind λj=>xs[j]?
theorem zc {n:Nat}{i:Int}{j:Nat}(h:sQ n i=some j):seqIndex? i n=some j/\j<n/\-(n:Int)<=i/\i<n:=by
 unfold sQ at h
 by_cases h0:0<=i
 ·rw[if_pos h0] at h
  by_cases h1:i<n
  ·rw[if_pos h1] at h
   have e:i.toNat=j:=Option.some.inj h
   exact⟨by rw[seqIndex_of h0 h1,e],by omega,by omega,h1⟩
  ·rw[if_neg h1] at h;cases h
 ·rw[if_neg h0] at h
  by_cases h1:-(n:Int)<=i
  ·rw[if_pos h1] at h
   have e:(i+n).toNat=j:=Option.some.inj h
   exact⟨by rw[seqIndex_neg (by omega) h1,e],by omega,h1,by omega⟩
  ·rw[if_neg h1] at h;cases h
theorem zT {α:Type}{xs:List α}{i:Int}{v:α}(h:c8 xs i=some v):∃j,seqIndex? i xs.length=some j/\xs[j]?=some v/\j<xs.length/\-(xs.length:Int)<=i/\i<xs.length:=by
 unfold c8 at h
 cases e:sQ xs.length i with
 |none=>rw[e] at h;cases h
 |some j=>
  rw[e] at h
  obtain⟨h1,h2,h3,h4⟩:=zc e
  exact⟨j,h1,h,h2,h3,h4⟩
theorem gF {α:Type}{xs:List α}{j:Nat}{v:α}(h:xs[j]?=some v):c8 xs (j:Int)=some v:=by
 have hj:j<xs.length:=(a0i.mp h).1
 have e:sQ xs.length (j:Int)=some j:=by
  unfold sQ
  rw[if_pos (by omega),if_pos (by omega)];simp
 unfold c8;rw[e];exact h
theorem nk {α:Type}(xs:List α)(v:α):c8 (xs++[v]) (-1)=some v:=by
 have hl:(xs++[v]).length=xs.length+1:=by simp
 have e:sQ (xs++[v]).length (-1)=some xs.length:=by
  unfold sQ
  rw[hl,if_neg (by decide),if_pos (by omega)]
  congr 1
  omega
 unfold c8
 rw[e]
 show (xs++[v])[xs.length]?=some v
 simp
noncomputable def Ae (b:Expr):Prop:=∀o i,subscripted b false o i=operate [o,i] (getItem o i)
section
variable {X:Cx}{a b:Expr}{ta tb:TE}{pos:Pos}
noncomputable def PL (K:PySem.W.Frag):R2:=λx y H Q=>∃p xs i v,x=.ref p/\y=.int i/\P2 K H p xs/\c8 xs i=some v/\Q v H
noncomputable def Pe (K:PySem.W.Frag):R2:=λx y H Q=>∃p xs i v,x=.ref p/\y=.int i/\Qq K H p xs/\c8 xs i=some v/\Q v H
noncomputable def Po:R2:=λx y H Q=>∃z i c,x=.str z/\y=.int i/\z.length<=sizeLine/\c8 z.cps.toList i=some c/\Q (.str ⟨#[c]⟩) H
noncomputable def bo (K:PySem.W.Frag):R2:=λx y H Q=>PL K x y H Q\/Pe K x y H Q\/Po x y H Q
theorem t8 (lo hi:Option Int)(n:Nat):(sliceBounds lo hi none n).1=((HT.sIx n 0 lo:Nat):Int)/\(sliceBounds lo hi none n).2.1=((HT.sIx n n hi:Nat):Int)/\(sliceBounds lo hi none n).2.2=1:=by
 refine⟨?_,?_,rfl⟩
 ·cases lo with
  |none=>simp[sliceBounds,HT.sIx]
  |some i=>
   simp only[sliceBounds,HT.sIx,a5v,show (1:Int) > 0 by decide,if_true]
   by_cases h:i<0
   ·simp only[h,if_true]<;>omega
   ·simp only[h,if_false]<;>omega
 ·cases hi with
  |none=>simp[sliceBounds,HT.sIx]
  |some i=>
   simp only[sliceBounds,HT.sIx,a5v,show (1:Int) > 0 by decide,if_true]
   by_cases h:i<0
   ·simp only[h,if_true]<;>omega
   ·simp only[h,if_false]<;>omega
theorem rQ (its:List Value)(lo hi:Option Int):slicePick its.toArray lo hi none=((its.drop (HT.sIx its.length 0 lo)).take (HT.sIx its.length its.length hi - HT.sIx its.length 0 lo)).toArray:=by
 obtain⟨h1,h2,h3⟩:=t8 lo hi its.toArray.size
 unfold slicePick
 rw[h1,h2,h3]
 simp only[sliceRange_one,pick_run,a0g]<;>rfl
noncomputable def HF:V->Bool
 |.non=>true
 |.bl _=>true
 |.int _=>true
 |.str _=>true
 |_=>false
noncomputable def HI:V->V->Bool
 |.non,.non=>true
 |.bl a,.bl b=>a==b
 |.bl a,.int b=>(if a then 1 else 0)==b
 |.int a,.bl b=>a==(if b then 1 else 0)
 |.int a,.int b=>a==b
 |.str a,.str b=>a==b
 |_,_=>false
noncomputable def Qn (x:V)(xs:List V):Bool:=xs.any λy=>HI y x
noncomputable def wz (K:PySem.W.Frag)(neg:Bool):R2:=λx y H Q=>∃p xs,y=.ref p/\(P2 K H p xs\/Qq K H p xs)/\HF x=true/\xs.all HF=true/\Q (.bl (if neg then !Qn x xs else Qn x xs)) H
variable {o e:Expr}{es:List Expr}{to:TE}{t:TA}{name:Str}{apos cpos:Pos}{T id:String}{r:V->List V->Hp->VK->Prop}
end
end L2
namespace L2
open PySem PySem.Spec PyProof.Rows
theorem mZ {α:Type}(l:List α):l.eraseIdx (l.length - 1)=l.dropLast:=by
 induction l with
 |nil=>rfl
 |cons a r ih=>
  cases r with
  |nil=>rfl
  |cons b r=>
   have e:(a::b::r).length - 1=((b::r).length - 1)+1:=by
    have h1:(a::b::r).length=r.length+2:=rfl
    have h2:(b::r).length=r.length+1:=rfl
    omega
   rw[e,List.eraseIdx_cons_succ,ih]
   all_goals rfl
theorem tG {α:Type}:∀(l:List α) (i:Nat),(l.eraseIdx i).length<=l.length
 |[],_=>a0r _
 |_::_,0=>a5r _
 |_::r,i+1=>Nat.succ_le_succ (tG r i)
theorem td (its:List Value):∀(k:Nat) (acc:List Value),
  a5x (λx1 x2=>x1++x2) acc.toArray (a0l k its.toArray)=(acc++(a0l k its).flatten).toArray
 |0,acc=>by simp
 |k+1,acc=>by
  have e:acc.toArray++its.toArray=(acc++its).toArray:=by simp
  have e2:(acc++its)++(a0l k its).flatten=acc++(a0l (k+1) its).flatten:=by
   rw[a2l,a3a,a2g]
  rw[←e2,←td its k (acc++its),←e,a2l,List.foldl_cons]
section
variable {X:Cx}{pins:List (Addr×Obj)}{σ:St}{H:Hp}{s:Shared}{l b:Addr}{xs ys zs:List V}
theorem we {n:Nat}(h:n<=sizeLine):Builtin.List.listTooLong n=false:=by
 unfold Builtin.List.listTooLong
 exact decide_eq_false (by omega)
end
section
variable {X:Cx}
theorem uF {α:Type}(xs:List α)(k:Nat):(a0l k xs).flatten.length=k * xs.length:=by
 induction k with
 |zero=>simp
 |succ k ih=>rw[a2l,a3a,a0n,ih,Nat.succ_mul,Nat.add_comm]
end
section
variable {prog:Program}{w:World}{A:Around}{E:Value->Shared->Prop}{s:Shared}
set_option maxRecDepth 100000 in
end
end L2
namespace Att
open PySem PySem.W PySem.Calls PyProof.Rows
theorem pA {P:Params}{h:Heap}:∀(ns:List Int) (vs:List Value),WellAll P h vs (ns.map WData.int)->IntsAre vs ns:=by
 intro ns
 induction ns with
 |nil=>
  intro vs w
  rw[a3h] at w
  cases w
  exact .nil
 |cons n ns ih=>
  intro vs w
  rw[a1f] at w
  cases w with
  |cons a b=>
   cases a
   exact .cons _ _ (ih _ b)
theorem A6 {l:OpenLaw}{n:Nat}(hn:l.most=some n){P:Params}{h:Heap}{args:List WData}{vals:List Value}
  (hpre:l.row.toRowW.claim.pre args=true) (hwl:WellAll P h vals args) :
  ∃a vs ns,vals=[Value.ref a]/\args=[WData.list (ns.map WData.int)]/\h.get? a=some { cls:=.type "list",data:=.seq vs.toArray }/\IntsAre vs ns/\ns.length<=n:=by
 have hsh:WShape.hasAll [] args [.list .int]=true:=(pre_splitW hpre).1
 have hc:l.pre.holds [] { args:=args }=true:=(pre_splitW hpre).2
 obtain⟨d,r,rfl,h1,h2⟩:=hasAllW_cons hsh
 obtain rfl:=hasAllW_nil h2
 obtain⟨xs,rfl,h3⟩:=hasW_list h1
 obtain⟨ns,rfl⟩:=items_int h3
 have hlen:ns.length<=n:=by
  unfold OpenLaw.pre at hc
  have h4:(WTm.not (.lt (.lit (.int (n:Int))) (.len (.arg 0)))).holds [] { args:=[.list (ns.map .int)] }=true:=by
   have h4:=(holds_andW hc).1
   rw[hn] at h4
   exact h4
  have h5:=condW_of h4 (w_not (w_lt w_lit (w_len_list (w_arg rfl))))
  rw[a0j] at h5
  refine Nat.le_of_not_lt λq=>?_
  have q':(n:Int)<((ns.length:Nat):Int):=by omega
  first
   |(rw[decide_eq_true q'] at h5;exact absurd h5 (by decide))
   |(simp at h5;omega)
 cases hwl with
 |cons w1 w2=>
  cases w2
  cases w1 with
  |list ho hall=>exact⟨_,_,ns,rfl,rfl,ho,pA ns _ hall,hlen⟩
theorem Bd (l:OpenLaw)(args:List WData):l.row.toRowW.claim.post args (.bool true) args=true:=
 postW_of (r:=l.row.toRowW) (X:=(true==true))
  (show WShape.has [] (.bool true) .bool=true by first|rfl|decide|simp[WShape.has,WShape.arms,WShape.armsAll])
  (show (WTm.eq .res (.lit (.bool true))).value [] { args:=args,res:=some (.bool true),after:=args }=some (.bool (true==true)) from w_eq_bool (w_res rfl) w_lit) rfl
theorem attach_call {l:OpenLaw}{n:Nat}{q:Program}{loose:List Str}{XP:(Str->Option Value)->Heap->Prop}{YP:World->Heap->Prop}{d:DefRec}
  (hn:l.most=some n) (hdf:d.params.defaults=[])
  (call:∀(w:World) (s₀ s₁:Shared) (mg mb:Str->Option Value) (fa:Addr) (o:Obj) (pm cd doc:Value) (a:Addr) (vs:List Value) (ns:List Int),
   Ground q loose [] XP w s₀ mg mb s₁.heap->YP w s₁.heap →
   s₁.heap.get? fa=some o->o.data=.func (docDef d.name d.params d.body d.scope pm cd doc)->s₁.heap.CodeRec cd d.name->mg d.name=some (.ref fa) →
   s₁.heap.get? a=some { cls:=.type "list",data:=.seq vs.toArray }->IntsAre vs ns->ns.length<=n->s₁.gens = #[] →
   codeAny (model l.prog w) callerA (.call (.ref fa) ⟨[.ref a],[]⟩) (λr s'=>r=.ok (.ret (.bool true))/\OldK s₁.heap s'.heap/\s'.os=s₁.os/\AllBare s'.gens) s₁) :
  WalkO q loose XP YP l.row.toRowW d [] (λf vs=>PySem.call f vs):=by
 intro w s₀ s₁ mg mb G Y fa o pm cd doc dV kV ho hd hcd hD hmg hg args vals as hpre hlay hrd hwl hlo
 obtain rfl:dV=.none:=Dflts.none hD hdf
 obtain rfl:kV=.none:=Dflts.noKw hD
 obtain⟨a,vs,ns,rfl,rfl,hobj,hints,hlen⟩:=A6 hn hpre hwl
 refine enter_call (codeAny_mono (call w s₀ s₁ mg mb fa o pm cd doc a vs ns G Y ho (fd_plain hd) hcd hmg hobj hints hlen hg) λr s' hq=>?_)
 obtain⟨rfl,h2,h3,h4⟩:=hq
 exact⟨.inl ⟨.bool true,.bool true,[],rfl,λ_=>rfl,.bool true,Bd l _,λ_=>⟨List.Pairwise.nil,λ_ hm=>(nomatch hm)⟩⟩,h2,h3,h4⟩
end Att
namespace L2
open PySem PySem.Spec PyProof.Rows
end L2
namespace L2
open PySem PySem.Spec PyProof.Rows
end L2
namespace L2
open PySem PySem.Spec PyProof.Rows
noncomputable def gK (s:Stmt):Arguments:=match s with
 |.FunctionDef _ a _ _ _ _ _ _ _ _=>a
 |_=>{ posonlyargs:=[],args:=[],vararg:=none,kwonlyargs:=[],kw_defaults:=[],kwarg:=none,defaults:=[] }
noncomputable def ci (s:Stmt):List Stmt:=match s with
 |.FunctionDef _ _ b _ _ _ _ _ _ _=>b
 |_=>[]
noncomputable def ah (s:Stmt):Scope:=match s with
 |.FunctionDef _ _ _ _ _ _ sc _ _ _=>sc
 |_=>{ kind:=.function,names:=[],isGenerator:=false,isCoroutine:=false }
structure Fun (K:PySem.W.Frag)(x qual:Str)(st:Stmt)(f:Addr)(fd:FuncData):Prop where
 ex:∃(oc:Value) (od:Option Addr) (kV doc pm:Value) (an:Option Addr) (cdv ct:Value) (osl:Array (Option Value)),
  fd=PySem.W.fnOf x qual (gK st) (ci st) (ah st) .none kV doc pm an cdv ct/\K.lookup f=some ⟨oc,od,.func fd,osl⟩/\PySem.W.codeIn K cdv qual=true
 kp:PySem.W.keepIn K (.ref f)=true
section
variable {P:Program}{w:World}{K:PySem.W.Frag}{mg:Str->Option Value}{base:Heap}
theorem KJ {x qual:Str}{st:Stmt}{f:Addr}{oc:Value}{od an:Option Addr}{osl:Array (Option Value)}{kV doc pm cdv ct:Value}(l:K.lookup f=some ⟨oc,od,.func (PySem.W.fnOf x qual (gK st) (ci st) (ah st) .none kV doc pm an cdv ct),osl⟩)
  (c:PySem.W.codeIn K cdv qual=true) (k:PySem.W.keepIn K (.ref f)=true):Fun K x qual st f (PySem.W.fnOf x qual (gK st) (ci st) (ah st) .none kV doc pm an cdv ct):=⟨⟨oc,od,kV,doc,pm,an,cdv,ct,osl,rfl,l,c⟩,k⟩
end
section
variable {X:Cx}
theorem pv (i:Nat){x:Str}{pos:Pos}(hN:X.N[i]?=some x:=by rfl)(hv:rX X.env.scope x:=by first|exact Or.inl rfl|exact Or.inr (Or.inl rfl)|exact Or.inr (Or.inr rfl))(hd:(x==("__debug__" : Str))=false:=by decide)
  (hcd:(x==("__classdict__" : Str))=false:=by decide):PE X (.Name x pos) (M0 i):=JT hN hv hd hcd
end
end L2
set_option maxHeartbeats 4000000
section
namespace L2
open PySem PySem.Spec PyProof.Rows
noncomputable def lJ (cells:List (Str×Addr)):List (Str×NameKind)->List (Str×Addr)->List (Str×Addr)
 |[],acc=>acc
 |(n,k)::r,acc=>if k==.free then lJ cells r ((n,(cells.lookup n).getD 0)::acc) else lJ cells r acc
theorem qf {scope:Scope}{env:Env}(h:∀y∈scope.names,y.2=.free->(env.cells.lookup y.1).isSome=true):closureFor scope env=pure (lJ env.cells scope.names []):=by
 unfold closureFor
 generalize scope.names=names at h ⊢
 generalize ([]:List (Str×Addr))=acc
 dsimp only
 induction names generalizing acc with
 |nil=>rfl
 |cons x r ih=>
  obtain⟨n,k⟩:=x
  have hr:=ih (λy hy=>h y (a0c _ hy))
  rw[a5b]
  unfold lJ
  by_cases hk:(k==NameKind.free)=true
  ·have hs:=h (n,k) a0e (by simpa using hk)
   obtain⟨c,hc⟩:=a2a.mp hs
   have hc':cellOf env n=pure c:=by unfold cellOf;rw[show env.cells.lookup n=some c from hc]
   simp only[hk,if_true]
   rw[hc',show (env.cells.lookup n).getD 0=c by rw[show env.cells.lookup n=some c from hc];rfl]
   exact hr _
  ·simp only[hk]
   exact hr _
theorem lW {cells:List (Str×Addr)}{x:Str}{c:Addr}:∀{names:List (Str×NameKind)} {acc:List (Str×Addr)},(∀y∈names,y.2=.free->(cells.lookup y.1).isSome=true)->(∀x c,acc.lookup x=some c->cells.lookup x=some c) →
  (lJ cells names acc).lookup x=some c->cells.lookup x=some c
 |[],_,_,ha,h=>ha x c h
 |(n,k)::r,acc,hs,ha,h=>by
  unfold lJ at h
  by_cases hk:(k==NameKind.free)=true
  ·rw[if_pos hk] at h
   refine lW (λy hy=>hs y (a0c _ hy)) (λz d hz=>?_) h
   obtain⟨e,he⟩:=a2a.mp (hs (n,k) a0e (by simpa using hk))
   have he':cells.lookup n=some e:=he
   rw[a1r] at hz
   cases hzn:z==n with
   |true=>
    rw[hzn] at hz
    have:z=n:=by simpa using hzn
    subst this
    rw[he'] at hz ⊢
    exact hz
   |false=>rw[hzn] at hz;exact ha z d hz
  ·rw[if_neg hk] at h
   exact lW (λy hy=>hs y (a0c _ hy)) ha h
theorem p8 {cells:List (Str×Addr)}{x:Str}:∀{names:List (Str×NameKind)} {acc:List (Str×Addr)},(acc.lookup x).isSome=true->((lJ cells names acc).lookup x).isSome=true
 |[],_,h=>h
 |(n,k)::r,acc,h=>by
  unfold lJ
  split
  ·refine p8 ?_
   rw[a1r]
   split
   ·rfl
   ·exact h
  ·exact p8 h
theorem nB {cells:List (Str×Addr)}{x:Str}:∀{names:List (Str×NameKind)} {acc:List (Str×Addr)},(x,NameKind.free)∈names->((lJ cells names acc).lookup x).isSome=true
 |[],_,h=>nomatch h
 |(n,k)::r,acc,h=>by
  unfold lJ
  rcases a0t.mp h with e|h
  ·cases e
   rw[if_pos (by rfl)]
   exact p8 (by rw[a1r];simp)
  ·split
   ·exact nB h
   ·exact nB h
noncomputable def Cx.blk (X:Cx)(scope:Scope)(N':List Str)(C:Addr)(s:Shared)(H:Hp)(ex:List Addr):Cx:=
 { X with N:=N',s₀:=s,H₀:=H,env:=compEnvC scope (lJ X.env.cells scope.names []) C X.env,outer:=X.stack,ex:=ex,fn:=λ_=>false,pn:=[],xe:=λ_ _=>False }
noncomputable def pw (fm:List (Option Nat))(σ:St):St:=fm.map λo=>o.bind λj=>(σ[j]?).join
structure BlkOk (X:Cx)(scope:Scope)(N':List Str)(fm:List (Option Nat)):Prop where
 kind:scope.kind=.function
 nocell:∀y∈scope.names,y.2≠.cell
 names:∀y∈scope.names,y.2=.local->scope.names.lookup y.1=some .local
 free:∀y∈scope.names,y.2=.free->X.env.kindOf y.1=some .cell
 len:fm.length=N'.length
 out:∀(i j:Nat) (x:Str),fm[i]?=some (some j)->N'[i]?=some x->X.N[j]?=some x/\scope.names.lookup x=some .free/\X.env.kindOf x=some .cell
theorem BlkOk.has {X:Cx}{scope:Scope}{N':List Str}{fm:List (Option Nat)}(B:BlkOk X scope N' fm)(ok:X.Ok):∀y∈scope.names,y.2=.free->(X.env.cells.lookup y.1).isSome=true:=λy hy e=>by
 obtain⟨c,hc⟩:=ok.has y.1 (.inl (B.free y hy e))
 rw[hc];rfl
noncomputable def uK (kind:ScopeKind)(names:List (Str×NameKind))(kindOf:Str->Option NameKind)(N N':List Str)(fm:List (Option Nat)):Bool:=
 kind==.function&&(names.all λy=>y.2 != .cell)&&(names.all λy=>y.2 != .local || names.lookup y.1==some .local)&&(names.all λy=>y.2 != .free || kindOf y.1==some .cell)&&fm.length==N'.length &&
  ((fm.zip N').all λp=>match p.1 with|none=>true|some j=>N[j]?==some p.2&&names.lookup p.2==some .free&&kindOf p.2==some .cell)
theorem Js {X:Cx}{scope:Scope}{N':List Str}{fm:List (Option Nat)}(h:uK scope.kind scope.names X.env.kindOf X.N N' fm=true):BlkOk X scope N' fm:=by
 unfold uK at h
 simp only[a0b,beq_iff_eq,a4b,a4o,bne_iff_ne,ne_eq] at h
 obtain⟨⟨⟨⟨⟨h1,h2⟩,h3⟩,h4⟩,h5⟩,h6⟩:=h
 refine⟨h1,h2,λy hy e=>(h3 y hy).resolve_left λz=>z e,λy hy e=>(h4 y hy).resolve_left λz=>z e,h5,λi j x e1 e2=>?_⟩
 have hm:(some j,x)∈fm.zip N':=by
  refine a1i (i:=i) ?_
  rw[List.getElem?_zip_eq_some]
  exact⟨e1,e2⟩
 have z:=h6 _ hm
 simp only[a0b,beq_iff_eq] at z
 exact⟨z.1.1,z.1.2,z.2⟩
theorem fZ {env:Env}:∀{names:List (Str×NameKind)} {x:Str} {k:NameKind},(names.map λ(n,k)=>if (k==NameKind.free&&env.scope.kind==.function&&env.kindOf n==some .cell) then (n,NameKind.cell) else (n,k)).lookup x=some k →
  (k=.cell/\env.kindOf x=some .cell/\(x,NameKind.free)∈names)\/(x,k)∈names
 |[],_,_,h=>by simp at h
 |(n,k0)::r,x,k,h=>by
  rw[a1f] at h
  by_cases hc:(k0==NameKind.free&&env.scope.kind==.function&&env.kindOf n==some .cell)=true
  ·dsimp only at h
   rw[if_pos hc,a1r] at h
   cases hx:x==n with
   |true=>
    rw[hx] at h
    have e:x=n:=by simpa using hx
    subst e
    cases h
    simp only[a0b,beq_iff_eq] at hc
    exact .inl ⟨rfl,hc.2,by rw[←hc.1.1];exact a0e⟩
   |false=>
    rw[hx] at h
    rcases fZ h with ⟨a,b,c⟩|c
    ·exact .inl ⟨a,b,a0c _ c⟩
    ·exact .inr (a0c _ c)
  ·dsimp only at h
   rw[if_neg hc,a1r] at h
   cases hx:x==n with
   |true=>
    rw[hx] at h
    have e:x=n:=by simpa using hx
    subst e
    cases h
    exact .inr a0e
   |false=>
    rw[hx] at h
    rcases fZ h with ⟨a,b,c⟩|c
    ·exact .inl ⟨a,b,a0c _ c⟩
    ·exact .inr (a0c _ c)
theorem ip {env:Env}(hk:env.scope.kind=.function):∀{names:List (Str×NameKind)} {x:Str},names.lookup x=some .free->env.kindOf x=some .cell →
  (names.map λ(n,k)=>if (k==NameKind.free&&env.scope.kind==.function&&env.kindOf n==some .cell) then (n,NameKind.cell) else (n,k)).lookup x=some .cell
 |[],_,h,_=>by simp at h
 |(n,k)::r,x,h,hc=>by
  rw[a1f]
  dsimp only
  cases hx:x==n with
  |true=>
   rw[a1r,hx] at h
   cases h
   have e:x=n:=by simpa using hx
   subst e
   rw[hc,hk,if_pos (by rfl),a1r,hx]
  |false=>
   rw[a1r,hx] at h
   have ih:=ip hk h hc
   split
   ·rw[a1r,hx];exact ih
   ·rw[a1r,hx];exact ih
section
variable {X:Cx}{scope:Scope}{N':List Str}{fm:List (Option Nat)}{pins:List (Addr×Obj)}{σ:St}{H:Hp}{s:Shared}
theorem Ku (B:BlkOk X scope N' fm)(I:Inv X pins σ H s){C:Addr}{ex:List Addr}(hC:s.heap.objs.size<=C)(hex:∀b∈ex,jU X pins H b)(hlt:∀b∈ex,b<s.heap.objs.size):(X.blk scope N' C s H ex).Ok:=by
 have sub:∀x c,(lJ X.env.cells scope.names []).lookup x=some c->X.env.cells.lookup x=some c:=λx c h=>lW (B.has I.ok) (λ_ _ z=>by simp at z) h
 refine⟨I.ok.mod,?_,I.ok.glob,I.ok.blt,hC,λx y c h1 h2=>I.ok.inj x y c (sub x c h1) (sub y c h2),λx hx=>?_,λx c h _=>(a0y h).elim,I.ok.hd,I.ok.frames,.inl rfl,λb hb=>⟨?_,λx c h=>(hex b hb).2.2.2.2.1 x c (sub x c h)⟩,I.bs,?_,λb o e hb=>?_,λb hb hf=>?_,I.stack,I.stkFree⟩
 ·show (relabel scope X.env).kind=.function
  exact B.kind
 ·have hx':(relabel scope X.env).names.lookup x=some .cell\/(relabel scope X.env).names.lookup x=some .free:=hx
  have mem:(x,NameKind.free)∈scope.names:=by
   rcases hx' with h|h
   ·rcases fZ h with ⟨_,_,z⟩|z
    ·exact z
    ·exact absurd rfl (B.nocell _ z)
   ·rcases fZ h with ⟨z,_,_⟩|z
    ·cases z
    ·exact z
  exact a2a.mp (nB (cells:=X.env.cells) (acc:=[]) mem)
 ·exact a1d (a1a (hlt b hb) hC)
 ·exact a1z I.ok.bsz I.sz
 ·have hb':b∈ex:=hb
  rcases (hex b hb').2.2.2.1 with z|z
  ·exact I.ok.noex b o e z
  ·exact absurd (a1a (Heap.lt_size (I.ok.bs b o e).1) z) (a1l _)
 ·have hb':b∈ex:=hb
  have hf':b∈qk X.stack:=hf
  rcases a0t.mp (I.stkSub b hf') with z|z
  ·exact (hex b hb').2.1 z
  ·exact (hex b hb').2.2.1 z
theorem vY {fm:List (Option Nat)}{σ:St}{i:Nat}{v:V}(h:(pw fm σ)[i]?=some (some v)):∃j,fm[i]?=some (some j)/\σ[j]?=some (some v):=by
 unfold pw at h
 rw[a0s] at h
 cases e:fm[i]? with
 |none=>rw[e] at h;cases h
 |some o=>
  rw[e] at h
  cases o with
  |none=>cases h
  |some j=>
   refine⟨j,rfl,?_⟩
   have h':some ((σ[j]?).join)=some (some v):=h
   cases e2:σ[j]? with
   |none=>rw[e2] at h';cases h'
   |some w=>rw[e2] at h';exact congrArg some (Option.some.inj h')
theorem G4 (B:BlkOk X scope N' fm)(I:Inv X pins σ H s){C:Addr}{ex:List Addr}{h1:Heap}{tk:Nat}{m:Str->Option Value}(hC:s.heap.objs.size<=C)(hex:∀b∈ex,jU X pins H b)(hlt:∀b∈ex,b<s.heap.objs.size)
  (hn:h1.Ns C m) (old:∀b o,s.heap.get? b=some o->h1.get? b=some o):Inv (X.blk scope N' C s H ex) [] (pw fm σ) H { s with heap:=h1,toks:=tk }:=by
 have sub:∀x c,(lJ X.env.cells scope.names []).lookup x=some c->X.env.cells.lookup x=some c:=λx c h=>lW (B.has I.ok) (λ_ _ z=>by simp at z) h
 refine⟨Ku B I hC hex hlt,rfl,I.bare,Un.kept old,⟨m,hn,λi x v hi hσ hv=>?_⟩,λx c h=>?_,I.hok.fresh hC,λx c h=>I.freeC x c (sub x c h),λp hp=>absurd (show p∈([]:List (Addr×Obj)) from hp) (by simp),I.hok.kept old,?_⟩
 ·obtain⟨j,ej,es⟩:=vY hσ
  obtain⟨hN,hf,hk⟩:=B.out i j x ej hi
  obtain⟨m0,_,hl⟩:=I.loc
  obtain⟨u,r,l⟩:=hl j x v hN es (.inr (.inl hk))
  refine⟨u,r,.inr ⟨.inl (ip I.ok.kind hf hk),?_⟩⟩
  rcases l with ⟨z,_⟩|⟨_,c,hc,z⟩
  ·rw[hk] at z;cases z
  ·obtain⟨c',hc'⟩:=a2a.mp (nB (cells:=X.env.cells) (acc:=[]) (PySem.mem_of_lookup hf))
   have e:=sub x c' hc'
   rw[hc] at e
   cases e
   exact⟨c,hc',z.keeps old⟩
 ·obtain⟨v,z⟩:=I.cell x c (sub x c h)
  exact⟨v,z.keeps old⟩
 ·show (pw fm σ).length=N'.length
  unfold pw
  rw[a0j]
  exact B.len
end
theorem lA {prog:Program}{w:World}{A:Around}{R:Result->Shared->Prop}{s:Shared}{elt target iter:Expr}{ifs:List Expr}{scope:Scope}{pos:Pos}{it acc:Value}{env:Env}(I:Nat->Shared->Prop)
  (turn:∀n s,I n s->wpAny (model prog w) A (pyNext it) (λr s₁=>match r with
   |none=>R (.ok .next) s₁
   |some v=>wpAny (model prog w) A (letOwnedTupleGo target it v) (λ_ s₁=>wpAny (model prog w) A (assign target env v) (λ_ s₂=>
     wpAny (model prog w) A (forIn ifs true λc r=>if r=true then do let ok ←isTrue c env (eval c env);pure (ForInStep.yield ok) else pure (ForInStep.yield r)) (λok s₃=>
      if ok=true then wpAny (model prog w) A (eval elt env) (λx s₄=>
       wpAny (model prog w) A (call (.builtin "list.append") [acc,x]) (λ_ s₅=>∃m,m<n/\I m s₅) (λ_ _=>False) s₄) (λ_ _=>False) s₃
      else ∃m,m<n/\I m s₃) (λ_ _=>False) s₂) (λ_ _=>False) s₁) (λ_ _=>False) s₁) (λ_ _=>False) s)
  (n:Nat) (h:I n s) :
  codeAny (model prog w) A (.compLoop (.ListComp elt [⟨target,iter,ifs,0⟩] scope pos) 0 it acc env) R s:=by
 refine codeAny_loop rfl I (λn s hI=>?_) n h
 show wpAny _ A ((compTurn (.ListComp elt [⟨target,iter,ifs,0⟩] scope pos) 0 it acc env).onRaise (λx=>do noteFrame x env;theTreesLotGoes x)) _ _ s
 refine wpAny_noted ?_
 rw[compTurn_list]
 refine wpAny_bind (wpAny_standAt (wpAny_bind (wpAny_mono (turn n s hI) (λr s₁ h₁=>?_) λ_ _ h'=>h'.elim)))
 cases r with
 |none=>exact wpAny_pure h₁
 |some v=>
  refine wpAny_bind (wpAny_mono h₁ (λ_ s₁ h₁=>?_) λ_ _ h'=>h'.elim)
  refine wpAny_bind (wpAny_mono h₁ (λ_ s₂ h₂=>wpAny_bind (wpAny_mono h₂ (λok s₃ h₃=>?_) λ_ _ h'=>h'.elim)) λ_ _ h'=>h'.elim)
  cases ok with
  |false=>exact wpAny_pure ⟨rfl,h₃⟩
  |true=>
   exact wpAny_bind (wpAny_bind (wpAny_mono h₃ (λx s₄ h₄=>wpAny_bind (wpAny_mono h₄ (λ_ s₅ h₅=>wpAny_pure (wpAny_pure ⟨rfl,h₅⟩)) λ_ _ h'=>h'.elim)) λ_ _ h'=>h'.elim))
theorem ox:fillsNumberSlot (.type "tuple") "mul" = pure false:=by first|rfl|decide +kernel|kernel_rfl
theorem uc:seqRepeat? (.type "tuple")=pure (some (.builtin "tuple.__mul__")):=by
 unfold seqRepeat?
 rw[PySem.seqSlot_of (T:="tuple") (name:="__mul__") (id:="tuple.__mul__") PySem.F.slot_tuple_mul.lookup (by decide +kernel),PySem.seqSlot_of (T:="tuple") (name:="__rmul__") (id:="tuple.__rmul__") PySem.F.slot_tuple_rmul.lookup (by decide +kernel)]
 rfl
theorem rm (a:Int)(t:Tok)(l:Addr)(items:Array Value)(n:Nat)(dd:Option Addr)(sl:Array (Option Value)) :
  Meets (Builtin.«int.__rmul__» ⟨[.int a t,.ref l],[]⟩) (λ_ R s=>s.heap.get? l=some { cls:=.type "tuple",dict:=dd,data:=.seq items n,slots:=sl }/\R (.ok (.ret Value.notImplemented)) s):=
 .of_wp λprog w A R s h=>by obtain⟨hp,g,d,tk,os⟩:=s;obtain⟨hl,h⟩:=h;wp_walk;exact⟨_,rfl,h⟩
theorem rx (l:Addr)(items:Array Value)(n:Nat)(dd:Option Addr)(sl:Array (Option Value))(t:Tok) :
  Meets (Builtin.«tuple.__mul__» ⟨[.ref l,.int 1 t],[]⟩) (λ_ R s=>s.heap.get? l=some { cls:=.type "tuple",dict:=dd,data:=.seq items n,slots:=sl }/\R (.ok (.ret (Value.ref l))) s):=
 .of_wp λprog w A R s h=>by obtain⟨hp,g,d,tk,os⟩:=s;obtain⟨hl,h⟩:=h;have f1:=AutoSeq1.idx_int;have f2:=AutoSeq1.sub_tuple_tuple;have hc:(items.isEmpty || (1:Int)==1)=true:=(by simp);wp_walk using wpAny_loadPart' hl;exact⟨_,rfl,h⟩
theorem sj (l:Addr)(items:Array Value)(n:Nat)(dd:Option Addr)(sl:Array (Option Value))(k:Int)(t:Tok)(h1:¬(decide (k < -(2 ^ 63)) || decide (k >= 2 ^ 63))=true)(h2:¬(items.isEmpty || k==1)=true)(h3:¬(decide (k<=0) || items.isEmpty)=true)
  (h4:¬(items.size * k > (2 ^ 63 - 1) / 8)) (h5:¬Builtin.Tuple.tupleTooMany (items.size * k)=true) (h6:((a0l k.toNat items).foldl (·++·) #[]).size<=sizeLine) :
  Meets (Builtin.«tuple.__mul__» ⟨[.ref l,.int k t],[]⟩) (λ_ R s=>s.heap.get? l=some { cls:=.type "tuple",dict:=dd,data:=.seq items n,slots:=sl }/\R (.ok (.ret (Value.ref s.heap.objs.size))) { s with heap:=s.heap.push { cls:=Value.type "tuple",data:=Data.seq ((a0l k.toNat items).foldl (·++·) #[]) },toks:=s.toks }):=
 .of_wp λprog w A R s h=>by obtain⟨hp,g,d,tk,os⟩:=s;obtain⟨hl,h⟩:=h;have f1:=AutoSeq1.idx_int;have f2:=AutoSeq1.sub_tuple_tuple;wp_walk using wpAny_loadPart' hl;rw[if_neg h1];wp_walk using wpAny_loadPart' hl;rw[if_neg h4];(try dsimp only);rw[if_neg h5];wp_walk using wpAny_loadPart' hl;exact⟨_,rfl,h⟩
theorem mS (its:List Value)(m:Nat):a5x (λx1 x2=>x1++x2) #[] (a0l m its.toArray)=(a0l m its).flatten.toArray:=by
 have:=td its m []
 rw[a3b] at this
 exact this
namespace HT
section
variable {prog:Program}{w:World}{A:Around}{E:Value->Shared->Prop}{s:Shared}
theorem oM {sl:Addr}{vst:Value}{n:Nat}{Q:Int×Int×Nat->Shared->Prop}(hs:s.heap.IsSliceOf sl .none .none vst)(JH:IsPart vst (some (-1)))
  (h:Q ((n:Int) - 1,-1,n) s):wpAny (model prog w) A (Builtin.Slice.sliceApplied (.ref sl) (pure (n:Int))) Q E s:=by
 obtain⟨os,hos,hcs,hds⟩:=id hs
 unfold Builtin.Slice.sliceApplied Builtin.Slice.sliceFields
 refine wpAny_bind (wpAny_bind (wpAny_field hos hds (x:=.none) rfl (wpAny_bind (wpAny_field hos hds (x:=.none) rfl (wpAny_bind (wpAny_field hos hds (x:=vst) rfl (wpAny_pure ?_)))))))
 refine wpAny_bind (_root_.HT.slicePart_ JH ?_)
 show wpAny _ _ (if ((-1:Int)==0)=true then _ else _) _ _ s
 rw[if_neg (by decide)]
 refine wpAny_bind (slicePart_none (wpAny_bind (slicePart_none (wpAny_bind (wpAny_pure ?_)))))
 have e1:Builtin.Slice.sliceAdjust none none (-1) (n:Int)=((n:Int) - 1,-1):=rfl
 have e2:Builtin.Slice.slicePlaces ((n:Int) - 1) (-1) (-1)=n:=by
  unfold Builtin.Slice.slicePlaces
  rw[if_neg (by decide)]
  by_cases hn:(n:Int) - 1 > -1
  ·rw[if_pos hn]
   have:((n:Int) - 1 - -1 - 1) / (- -1)=(n:Int) - 1:=by rw[show (- -1:Int)=1 by decide,a5l];omega
   rw[this];omega
  ·rw[if_neg hn];omega
 show wpAny _ _ (match Builtin.Slice.sliceAdjust none none (-1) (n:Int) with|(lo,hi)=>pure (lo,(-1:Int),Builtin.Slice.slicePlaces lo hi (-1))) _ _ s
 rw[e1]
 show wpAny _ _ (pure ((n:Int) - 1,(-1:Int),Builtin.Slice.slicePlaces ((n:Int) - 1) (-1) (-1))) _ _ s
 rw[e2]
 exact wpAny_pure h
theorem Dn {α β:Type}{f:α->Option β}{g:α->β}:∀{l:List α},(∀k∈l,f k=some (g k))->l.filterMap f=l.map g
 |[],_=>rfl
 |a::r,h=>by
  rw[a3g,h a a0e,a1f,Dn λk hk=>h k (a0c _ hk)]
theorem pick_rev (xs:List Value):(a0m xs.length).filterMap (λ(k:Nat)=>xs.toArray[(((xs.length:Nat):Int) - 1+(k:Int) * (-1)).toNat]?)=xs.reverse:=by
 rw[Dn (g:=λk=>xs.getD (xs.length - 1 - k) .none)]
 ·apply a4w
  ·simp
  ·intro i h1 h2
   have h3:i<xs.length:=by simpa using h2
   have h4:xs.length - 1 - i<xs.length:=by omega
   rw[a4c,a3u,List.getElem_reverse]
   simp[h4]
 ·intro k hk
  have hk':k<xs.length:=a1b.mp hk
  have e1:(((xs.length:Nat):Int) - 1+(k:Int) * (-1)).toNat=xs.length - 1 - k:=by omega
  have h2:xs.length - 1 - k<xs.length:=by omega
  rw[e1]
  simp[h2]
theorem getItem_tuple_rev {t sl:Addr}{vs:List Value}{vst:Value}{Q:Value->Shared->Prop}(ht:IsTup s.heap t vs.toArray)(hs:s.heap.IsSliceOf sl .none .none vst)(JH:IsPart vst (some (-1)))
  (h:Q (.ref s.heap.objs.size) { s with heap:=s.heap.push { cls:=.type "tuple",data:=.seq vs.reverse.toArray } })
  (hsz:vs.length<=sizeLine):wpAny (model prog w) A (getItem (.ref t) (.ref sl)) Q E s:=by
 have htake:sizeOk (.seq vs.reverse.toArray):=by
  show vs.reverse.toArray.size<=sizeLine
  rw[a0g,a2q]
  exact hsz
 obtain⟨os,hos,hcs,hds⟩:=id hs
 have hTs:s.TypeIs (.ref sl) "slice":=⟨os,hos,hcs⟩
 unfold getItem
 try with_reducible refine wpAny_holding ?_
 first|refine wpAny_bind (wpAny_pure ?_)|skip
 refine wpAny_bind (wpAny_sequenceKey ht.typeIs (by decide) ?_)
 refine wpAny_bind (wpAny_callSpecial?_slot (name:=Str.ofString "__getitem__") ht.typeIs PyProof.Rows.slot_tuple_getitem
  (wpAny_call_entry PyProof.Rows.slot_tuple_getitem ht.typeIs entry_tuple_getitem ?_ (args_tuple_getitem _ _)))
 show wpAny _ _ (Builtin.Tuple.tupleItemsOf (.ref t) >>= _) _ _ s
 refine wpAny_bind (tupleItemsOf_ ht ?_)
 refine wpAny_bind (wpAny_typeOf hTs ?_)
 rw[if_pos (by decide)]
 have e0:(vs.toArray.size:Nat)=vs.length:=a0g
 rw[e0]
 refine wpAny_bind (oM hs JH ?_)
 show wpAny _ _ (if ((((vs.length:Nat):Int) - 1)==0&&(-1:Int)==1&&vs.length==vs.length)=true then _ else _) _ _ s
 have hno:¬(((((vs.length:Nat):Int) - 1)==0&&(-1:Int)==1&&vs.length==vs.length)=true):=by
  rw[show ((-1:Int)==1)=false by decide,a5f,Bool.false_and]
  exact a0y
 rw[if_neg hno,pick_rev]
 first
  |exact wpAny_bind (m:=Builtin.Tuple.tupleExact _) (wpAny_newObj_type (wpAny_pure ⟨_,rfl,wpAny_pure h⟩) htake)
  |exact wpAny_bind (m:=Builtin.Tuple.tupleExact _) (wpAny_newObj_type (wpAny_bind (wpAny_pure (wpAny_pure ⟨_,rfl,wpAny_pure h⟩))) htake)
  |exact wpAny_bind (wpAny_bind (m:=Builtin.Tuple.tupleExact _) (wpAny_newObj_type (wpAny_pure (wpAny_pure ⟨_,rfl,wpAny_pure h⟩)) htake))
end
end HT
end L2
end
section
namespace L2
open PySem PySem.Spec PyProof.Rows PySem.W
noncomputable def Leaf {α:Type}(n:Nat)(P:α->Prop):KasT α->Prop
 |.ret a=>P a
 |.ask i j k=>i<n/\j<n/\∀b,Leaf n P (k b)
theorem Leaf.bind {α β:Type}{n:Nat}{P:α->Prop}{R:β->Prop}{f:α->KasT β}(hf:∀a,P a->Leaf n R (f a)):∀{t:KasT α},Leaf n P t->Leaf n R (t.bind f)
 |.ret a,h=>hf a h
 |.ask i j k,h=>⟨h.1,h.2.1,λb=>Leaf.bind hf (h.2.2 b)⟩
noncomputable abbrev OfN (n:Nat)(p:Array Nat):Prop:=p.toList.Perm (a0m n)
theorem OfN.lt {n:Nat}{p:Array Nat}(h:OfN n p)(hn:0<n)(k:Nat):p.getD k 0<n:=by
 by_cases hk:k<p.size
 ·have e:p.getD k 0=p[k]:=by simp[Array.getD,hk]
  rw[e]
  exact a1b.mp (h.subset (by simp))
 ·have e:p.getD k 0=0:=by simp[Array.getD,hk]
  rw[e];exact hn
theorem OfN.rev {n:Nat}{p:Array Nat}(h:OfN n p)(i j:Nat):OfN n (kas_rev p i j):=(mirror_perm p i j _).toList.trans h
theorem OfN.bub {n:Nat}{p:Array Nat}(h:OfN n p)(i j:Nat):OfN n (bubble p i j):=(bubble_perm p i j).toList.trans h
theorem pY {n:Nat}{p:Array Nat}(hp:OfN n p)(hn:0<n):∀f k,Leaf n (λ_=>True) (kas_asc p f k)
 |0,_=>True.intro
 |f+1,k=>⟨hp.lt hn _,hp.lt hn _,λb=>by
  cases b with
  |true=>exact True.intro
  |false=>exact pY hp hn f (k+1)⟩
theorem lR {n:Nat}(hn:0<n):∀f (p:Array Nat) k q,OfN n p->Leaf n (λr=>OfN n r.1) (kas_desc f p k q)
 |0,_,_,_,hp=>hp
 |f+1,p,k,q,hp=>⟨hp.lt hn _,hp.lt hn _,λb=>by
  cases b with
  |true=>
   show Leaf n _ (if q > 0 then kas_desc f (kas_rev p (k - (q+1)) k) (k+1) 0 else kas_desc f p (k+1) 0)
   split
   ·exact lR hn f _ _ _ (hp.rev _ _)
   ·exact lR hn f _ _ _ hp
  |false=>
   refine⟨hp.lt hn _,hp.lt hn _,λc=>?_⟩
   cases c with
   |true=>exact hp
   |false=>exact lR hn f _ _ _ hp⟩
theorem qc {n:Nat}(hn:0<n){p:Array Nat}(hp:OfN n p)(a b:Nat):Leaf n (λr=>OfN n r.2) (kas_tail3 a b p):=by
 unfold kas_tail3
 exact Leaf.bind (P:=λ_=>True) (R:=λr:Nat×Array Nat=>OfN n r.2) (f:=λm=>KasT.ret (m,kas_rev p 0 a)) (λm _=>(show OfN n (kas_rev p 0 a) from hp.rev 0 a)) (pY (hp.rev 0 a) hn _ _)
theorem mE {n:Nat}(hn:0<n){p:Array Nat}(hp:OfN n p)(a b:Nat):Leaf n (λr=>OfN n r.2) (kas_descPart a b p):=by
 refine Leaf.bind (λr hr=>?_) (lR hn _ _ _ _ hp)
 split
 ·exact qc hn (OfN.rev hr _ _) _ _
 ·exact qc hn hr _ _
theorem x5 {n:Nat}(hn:0<n){p:Array Nat}(hp:OfN n p)(b:Nat):Leaf n (λr=>OfN n r.2) (kas_count b p):=by
 refine Leaf.bind (λr _=>?_) (pY hp hn _ _)
 split
 ·exact hp
 ·split
  ·refine⟨hp.lt hn _,hp.lt hn _,λc=>?_⟩
   cases c with
   |true=>exact hp
   |false=>exact mE hn (hp.rev _ _) _ _
  ·exact mE hn hp _ _
theorem mT {n:Nat}(hn:0<n){p:Array Nat}(hp:OfN n p)(k:Nat):∀f l r,Leaf n (λ_=>True) (kas_place p k f l r)
 |0,_,_=>True.intro
 |f+1,l,r=>by
  show Leaf n _ (if l >= r then .ret l else .ask (p.getD k 0) (p.getD ((l+r) / 2) 0) λc=>if c=true then kas_place p k f l ((l+r) / 2) else kas_place p k f ((l+r) / 2+1) r)
  split
  ·exact True.intro
  ·refine⟨hp.lt hn _,hp.lt hn _,λc=>?_⟩
   cases c with
   |true=>exact mT hn hp k f _ _
   |false=>exact mT hn hp k f _ _
theorem vh {n:Nat}(hn:0<n):∀f (p:Array Nat) k,OfN n p->Leaf n (OfN n) (kas_bin f p k)
 |0,_,_,hp=>hp
 |f+1,p,k,hp=>Leaf.bind (λl _=>vh hn f _ _ (hp.bub _ _)) (mT hn hp k _ _ _)
theorem Bq {n:Nat}(hn:0<n):Leaf n (OfN n) (kas_sort n):=by
 refine Leaf.bind (λr hr=>?_) (x5 hn (show OfN n (List.toArray (a0m n)) from .refl _) n)
 split
 ·exact vh hn _ _ _ hr
 ·exact hr
theorem HOk.stands {P:Program}{w:World}{H:Hp}{h:Heap}{a:Addr}{o:HO}(x:HOk P w H h)(e:H a=some o):∃ob,h.get? a=some ob:=by
 have y:=x a o e
 cases o with
 |lst xs=>obtain⟨_,_,_,_,z⟩:=y;exact⟨_,z⟩
 |tup xs=>obtain⟨_,_,_,ob,z,_⟩:=y;exact⟨_,z⟩
 |dK kvs=>obtain⟨_,_,_,_,ob,_,_,z,_⟩:=y;exact⟨_,z⟩
 |dT kvs=>obtain⟨_,_,_,_,ob,_,_,z,_⟩:=y;exact⟨_,z⟩
 |set S n=>obtain⟨ob,_,_,_,z,_⟩:=y;exact⟨_,z⟩
 |ins C dx fs=>obtain⟨_,_,_,z,_⟩:=y;exact⟨_,z⟩
 |own y'=>exact y
 |xd fs=>obtain⟨_,⟨ob,_,_,z,_⟩,_⟩:=y;exact⟨_,z⟩
 |rng lo hi=>obtain⟨_,_,_,z⟩:=y;exact⟨_,z⟩
 |frz ob u=>exact⟨_,y.1⟩
 |tbl ps=>exact⟨_,(show h.get? a=some { cls:=.none,data:=.fields ps } from y)⟩
 |met f y'=>exact⟨_,(show h.get? a=some (PySem.W.methodObj (.ref f) (.ref y')) from y)⟩
 |ext φ=>exact y.2.1
theorem KC {h:Heap}{L:Addr}{m m':Str->Option Value}(a:h.Ns L m)(b:h.Ns L m'):m=m':=by
 obtain⟨o,es,ep,h1,h2,h3,h4⟩:=a
 obtain⟨o',es',ep',h1',h2',h3',h4'⟩:=b
 rw[h1] at h1'
 cases h1'
 rw[h2] at h2'
 cases h2'
 funext x
 rw[←h4 x,←h4' x]
section
variable {prog:Program}{w:World}{A:Around}{E:Value->Shared->Prop}{s:Shared}
theorem xM {a:Addr}{vs:List Value}{n:Nat}{P:PySem.Fin->Shared->Prop}(ho:s.heap.get? a=some (seqObj "list" vs.toArray n))(h2:vs.length<2)
  (h:P (.done (.ret .none)) { s with heap:=sortedHeap s.heap a vs vs.toArray }):wpAny (model prog w) A (Builtin.«list.sort» ⟨[.ref a],[]⟩) P E s:=by
 rw[list_sort_plain]
 have ha:=Heap.lt_size ho
 refine wpAny_bind (listItems_at ho rfl (wpAny_bind (listUpdate_at ho rfl ?_ (by rw[a0g,sizeLine_eq];omega) (a3i _))))
 obtain⟨e1,ho1⟩:∃e1,(s.heap.update a (Obj.mapSeq λ_=>(#[]:Array Value))).get? a=some (seqObj "list" #[] e1):=⟨_,get?_update_seq ho λ_=>#[]⟩
 refine wpAny_bind (seqEpoch_at ho1 rfl (wpAny_bind (wpAny_newTuple (wpAny_bind (wpAny_newList (wpAny_holding ?_) (a3i _))) (by show vs.length<=_;rw[sizeLine_eq];omega))))
 have ho6:(((s.heap.update a (Obj.mapSeq λ_=>(#[]:Array Value))).push (seqObj "tuple" vs.toArray 0)).push (seqObj "list" #[] 0)).get? a=some (seqObj "list" #[] e1):=Heap.get?_push_of_some _ (Heap.get?_push_of_some _ ho1)
 show wpAny (model prog w) A _ P E { s with heap:=((s.heap.update a (Obj.mapSeq λ_=>(#[]:Array Value))).push (seqObj "tuple" vs.toArray 0)).push (seqObj "list" #[] 0) }
 dsimp only
 have hlt:vs.toArray.size<2:=by rw[a0g];exact h2
 rw[if_pos hlt,if_pos hlt]
 refine wpAny_bind (wpAny_pure ?_)
 rw[StateT.run_pure]
 have hsn:(arrOf (SortSt.mk' general' (vs.toArray.zip vs.toArray) #[] 7 none)).map (·.2)=vs.toArray:=by
  show (vs.toArray.zip vs.toArray).map (·.2)=vs.toArray
  apply Array.toList_inj.mp
  simp
  exact List.map_snd_zip (by simp)
 refine wpAny_bind (wpAny_pure ?_)
 dsimp only
 refine wpAny_bind (seqEpoch_at ho6 rfl ?_)
 refine wpAny_bind (listUpdate_at ho6 rfl ?_ (a3i _) (by rw[hsn,a0g,sizeLine_eq];omega))
 simp only[bne_self_eq_false,a1t,if_false]
 rw[hsn]
 exact wpAny_pure h
theorem uM {l:Addr}{vs:List Value}{Q:Value->Shared->Prop}(hl:s.heap.IsList l vs.toArray)(h2:vs.length<2)(h:Q (.ref (s.heap.objs.size+1)) { s with heap:=sortedAll s.heap vs vs.toArray }) :
  wpAny (model prog w) A (call (.builtin "sorted") [.ref l]) Q E s:=by
 refine Calls.call_function_entry kind_sorted plain_sorted entry_sorted (args_sorted1 _) ?_
 unfold Builtin.«sorted»
 refine wpAny_bind (m:=checkCount "sorted" 1 1 _) (wpAny_pure (wpAny_bind (collect_list hl (wpAny_bind (wpAny_newList ?_ (by rw[sizeLine_eq];omega))) (by rw[sizeLine_eq];omega))))
 have hsz:((s.heap.push (seqObj "list" #[] 0)).update s.heap.objs.size (Obj.mapSeq (·++vs.toArray))).objs.size=s.heap.objs.size+1:=(Heap.size_update ..).trans (size_push' ..)
 have hoL:(((s.heap.push (seqObj "list" #[] 0)).update s.heap.objs.size (Obj.mapSeq (·++vs.toArray))).push (seqObj "list" vs.toArray 0)).get? (s.heap.objs.size+1)=some (seqObj "list" vs.toArray 0):=hsz▸Heap.get?_push_size _ rfl
 show wpAny _ _ _ _ _ { s with heap:=((s.heap.push (seqObj "list" #[] 0)).update s.heap.objs.size (Obj.mapSeq (·++vs.toArray))).push (seqObj "list" vs.toArray 0) }
 rw[hsz]
 refine wpAny_bind (wpAny_holding (wpAny_call_entry slot_list_sort ⟨_,hoL,rfl⟩ entry_list_sort (xM hoL h2 ⟨_,rfl,?_⟩) (args_list_sort _)))
 exact wpAny_pure ⟨_,rfl,h⟩
end
end L2
end
section
namespace Dp
open PySem PySem.Spec L2 PyProof.Rows
inductive PV where
 |non|bl (b:Bool)|int (i:Int)|str (x:Str)|ty (n:String)|fn (x:Str)
 |tup (ps:List PV)|lst (ps:List PV)|dct (ks:List eX) (ps:List PV)
 |src (ps:List PV)|ktu (ps:List PV)
 |rng (lo hi:Int)
 |exn (C:Addr)
 |set (ps:List PV)
noncomputable def jz:PV->Bool
 |.non=>true
 |.bl _=>true
 |.int _=>true
 |.str _=>true
 |.ty _=>true
 |_=>false
structure Cn where
 ok:Addr->Prop
 P:Program
 w:World
 mg:Str->Option Value
noncomputable def eZ (its:List Value)(n:Nat):Obj:={ cls:=.type "list",data:=.seq its.toArray n }
mutual
noncomputable def D1 (top:Addr->Prop)(c:Cn)(h:Heap):PV->Value->Prop
 |.non,u=>u=.none
 |.bl b,u=>u=.bool b
 |.int i,u=>∃t,u=.int i t
 |.str x,u=>∃t,u=.str x t
 |.ty n,u=>u=.type n
 |.fn x,u=>∃a,c.mg x=some (.ref a)/\u=.ref a
 |.tup ps,u=>∃a its,u=.ref a/\top a/\IsTup h a its.toArray/\its.length<=sizeLine/\Ds c h ps its
 |.lst ps,u=>∃a its n,u=.ref a/\top a/\h.get? a=some (eZ its n)/\its.length<=sizeLine/\Ds c h ps its
 |.ktu ps,u=>∃a its,u=.ref a/\top a/\IsTup h a its.toArray/\its.length<=sizeLine/\Ds c h ps its
 |.src ps,u=>∃a its n,u=.ref a/\top a/\h.get? a=some (eZ its n)/\its.length<=sizeLine/\Ds c h ps its
 |.dct ks ps,u=>∃a kus,u=.ref a/\top a/\(a==sysModules)=false/\h.DictOf (bp c.P c.w) a kus/\kus.length<=sizeLine/\kus.map (·.1)=ks/\Ds c h ps (kus.map (·.2))
 |.rng lo hi,u=>∃a t1 t2 t3,u=.ref a/\top a/\h.get? a=some { cls:=.type "range",data:=.fields #[.int lo t1,.int hi t2,.int 1 t3] }
 |.exn C,u=>∃a o,u=.ref a/\top a/\h.get? a=some o/\o.cls=.ref C
 |.set ps,u=>False
noncomputable def Ds (c:Cn)(h:Heap):List PV->List Value->Prop
 |[],us=>us=[]
 |p::ps,us=>∃u r,us=u::r/\D1 c.ok c h p u/\Ds c h ps r
end
noncomputable abbrev D (c:Cn)(h:Heap):PV->Value->Prop:=D1 c.ok c h
noncomputable abbrev Rd (c:Cn)(h:Heap):PV->Value->Prop:=D1 (λ_=>True) c h
section
variable {c c':Cn}{h h':Heap}
theorem Ds.length:∀{ps:List PV} {us:List Value},Ds c h ps us->us.length=ps.length
 |[],_,e=>by rw[show _=[] from e];rfl
 |_::_,_,⟨u,r,e,_,t⟩=>by rw[e,a0o,a0o,t.length]
structure Kp (c c':Cn)(h h':Heap):Prop where
 P:c'.P=c.P
 w:c'.w=c.w
 mg:c'.mg=c.mg
 kp:∀a o,c.ok a->h.get? a=some o->c'.ok a/\h'.get? a=some o
mutual
theorem D1.mono {top top':Addr->Prop}(k:Kp c c' h h')(kt:∀a o,top a->h.get? a=some o->top' a/\h'.get? a=some o):∀{p:PV} {u:Value},D1 top c h p u->D1 top' c' h' p u
 |.non,_,e=>e
 |.bl _,_,e=>e
 |.int _,_,e=>e
 |.str _,_,e=>e
 |.ty _,_,e=>e
 |.fn _,_,⟨a,m,e⟩=>⟨a,by rw[k.mg];exact m,e⟩
 |.tup ps,_,⟨a,its,e,q,⟨o,ho,r⟩,z,t⟩=>⟨a,its,e,(kt _ _ q ho).1,⟨o,(kt _ _ q ho).2,r⟩,z,Ds.mono k t⟩
 |.ktu ps,_,⟨a,its,e,q,⟨o,ho,r⟩,z,t⟩=>⟨a,its,e,(kt _ _ q ho).1,⟨o,(kt _ _ q ho).2,r⟩,z,Ds.mono k t⟩
 |.lst ps,_,⟨a,its,n,e,q,ho,z,t⟩=>⟨a,its,n,e,(kt _ _ q ho).1,(kt _ _ q ho).2,z,Ds.mono k t⟩
 |.src ps,_,⟨a,its,n,e,q,ho,z,t⟩=>⟨a,its,n,e,(kt _ _ q ho).1,(kt _ _ q ho).2,z,Ds.mono k t⟩
 |.dct ks ps,_,⟨a,kus,e,q,y,⟨o,es,ep,ho,r⟩,z,m,t⟩=>⟨a,kus,e,(kt _ _ q ho).1,y,by rw[k.P,k.w];exact⟨o,es,ep,(kt _ _ q ho).2,r⟩,z,m,Ds.mono k t⟩
 |.rng _ _,_,⟨a,t1,t2,t3,e,q,ho⟩=>⟨a,t1,t2,t3,e,kt _ _ q ho⟩
 |.exn C,_,⟨a,o,e,q,ho,r⟩=>⟨a,o,e,(kt _ _ q ho).1,(kt _ _ q ho).2,r⟩
 |.set _,_,e=>e
theorem Ds.mono (k:Kp c c' h h'):∀{ps:List PV} {us:List Value},Ds c h ps us->Ds c' h' ps us
 |[],_,e=>e
 |_::_,_,⟨u,r,e,d,t⟩=>⟨u,r,e,D1.mono k k.kp d,Ds.mono k t⟩
end
theorem D1.m {p:PV}{u:Value}(d:D c h p u)(k:Kp c c' h h'):D c' h' p u:=D1.mono k k.kp d
theorem D1.rd {p:PV}{u:Value}{top:Addr->Prop}(d:D1 top c h p u):Rd c h p u:=D1.mono ⟨rfl,rfl,rfl,λ_ _ q e=>⟨q,e⟩⟩ (λ_ _ _ e=>⟨trivial,e⟩) d
theorem Kp.refl:Kp c c h h:=⟨rfl,rfl,rfl,λ_ _ q e=>⟨q,e⟩⟩
theorem Ds.get:∀{ps:List PV} {us:List Value} {i:Nat} {p:PV},Ds c h ps us->ps[i]?=some p->∃u,us[i]?=some u/\D c h p u
 |[],_,i,p,_,e=>by simp at e
 |_::_,_,0,_,⟨u,r,e,d,t⟩,q=>by simp at q;subst q;exact⟨u,by rw[e];rfl,d⟩
 |_::ps,_,i+1,p,⟨u,r,e,d,t⟩,q=>by
  obtain⟨v,h1,h2⟩:=t.get (i:=i) (p:=p) (by simpa using q)
  exact⟨v,by rw[e];simpa using h1,h2⟩
theorem Ds.app:∀{ps qs:List PV} {us vs:List Value},Ds c h ps us->Ds c h qs vs->Ds c h (ps++qs) (us++vs)
 |[],_,_,_,e,q=>by rw[show _=[] from e];exact q
 |_::_,_,_,_,⟨u,r,e,d,t⟩,q=>⟨u,_,by rw[e];rfl,d,t.app q⟩
theorem Ds.one {p:PV}{u:Value}(d:D c h p u):Ds c h [p] [u]:=⟨u,[],rfl,d,rfl⟩
theorem Ds.cons {p:PV}{u:Value}{ps:List PV}{us:List Value}(d:D c h p u)(t:Ds c h ps us):Ds c h (p::ps) (u::us):=⟨u,us,rfl,d,t⟩
theorem Ds.set {p:PV}{u:Value}(d:D c h p u):∀{ps:List PV} {us:List Value} (i:Nat),Ds c h ps us->Ds c h (ps.set i p) (us.set i u)
 |[],_,_,q=>by rw[show _=[] from q];rfl
 |_::_,_,0,⟨v',r,e,_,t⟩=>by rw[e];exact⟨u,r,rfl,d,t⟩
 |_::_,_,i+1,⟨v',r,e,h',t⟩=>by rw[e];exact⟨v',_,rfl,h',Ds.set d i t⟩
theorem Ds.take:∀{ps:List PV} {us:List Value} (n:Nat),Ds c h ps us->Ds c h (ps.take n) (us.take n)
 |_,_,0,_=>by simp[Ds]
 |[],_,_+1,q=>by rw[show _=[] from q];rfl
 |_::_,_,n+1,⟨v,r,e,d,t⟩=>by rw[e];exact⟨v,_,rfl,d,t.take n⟩
theorem Ds.drop:∀{ps:List PV} {us:List Value} (n:Nat),Ds c h ps us->Ds c h (ps.drop n) (us.drop n)
 |_,_,0,q=>q
 |[],_,_+1,q=>by rw[show _=[] from q];rfl
 |_::_,_,n+1,⟨v,r,e,d,t⟩=>by rw[e];exact t.drop n
theorem Ds.rev:∀{ps:List PV} {us:List Value},Ds c h ps us->Ds c h ps.reverse us.reverse
 |[],_,q=>by rw[show _=[] from q];rfl
 |_::_,_,⟨v,r,e,d,t⟩=>by rw[e,a5m,a5m];exact t.rev.app (.one d)
theorem Ds.rep {ps:List PV}{us:List Value}(d:Ds c h ps us):∀n,Ds c h (a0l n ps).flatten (a0l n us).flatten
 |0=>rfl
 |n+1=>d.app (Ds.rep d n)
theorem Ds.of:∀{ps:List PV} {us:List Value},us.length=ps.length->(∀(i:Nat) p u,ps[i]?=some p->us[i]?=some u->D c h p u)->Ds c h ps us
 |[],[],_,_=>rfl
 |p::ps,u::us,hl,hd=>⟨u,us,rfl,hd 0 p u rfl rfl,Ds.of (by simpa using hl) λi p u h1 h2=>hd (i+1) p u (by simpa using h1) (by simpa using h2)⟩
 |[],_::_,hl,_=>by cases hl
 |_::_,[],hl,_=>by cases hl
theorem D1.v {top:Addr->Prop}{p:PV}{u:Value}(d:D1 top c h p u):∃v,jB v u/\∀u',jB v u'->D1 top c h p u':=by
 cases p with
 |non=>exact⟨.non,d,λ_ r=>r⟩
 |bl b=>exact⟨.bl b,d,λ_ r=>r⟩
 |int i=>exact⟨.int i,d,λ_ r=>r⟩
 |str i=>exact⟨.str i,d,λ_ r=>r⟩
 |ty i=>exact⟨.ty i,d,λ_ r=>r⟩
 |fn i=>obtain⟨a,m,e⟩:=d;exact⟨.ref a,e,λ_ r=>⟨a,m,r⟩⟩
 |set i=>exact (show False from d).elim
 |tup|lst|ktu|src|dct|rng|exn=>
  obtain⟨a,r,x⟩:=id d
  first
   |exact⟨.ref a,x.1,λu' q=>by rw[show u'=.ref a from q];exact⟨a,r,rfl,x.2⟩⟩
   |(obtain⟨n,x⟩:=x;exact⟨.ref a,x.1,λu' q=>by rw[show u'=.ref a from q];exact⟨a,r,n,rfl,x.2⟩⟩)
   |(obtain⟨n,m,x⟩:=x;exact⟨.ref a,x.1,λu' q=>by rw[show u'=.ref a from q];exact⟨a,r,n,m,rfl,x.2⟩⟩)
end
inductive Sl where
 |val (p:PV)|own (ps:List PV)|dic (ks:List eX) (ps:List PV)
noncomputable abbrev aq:=List (Option Sl)
noncomputable abbrev aL:HO:=.ext λ_=>True
noncomputable def kR (bad:Addr->Prop)(H:Hp)(a:Addr):Prop:=H a=none/\¬bad a
structure Z (X:Cx) where
 bad:Addr->Prop
 pins:List (Addr×Obj)
 σ:L2.St
 H:Hp
 ρ:aq
noncomputable abbrev bI (X:Cx)(bad:Addr->Prop)(H:Hp):Cn:=⟨kR bad H,X.prog,X.w,X.mg⟩
noncomputable abbrev Z.cn {X:Cx}(z:Z X):Cn:=bI X z.bad z.H
noncomputable def DictAt (c:Cn)(h:Heap)(a:Addr)(ks:List eX)(ps:List PV):Prop:=∃kus,(a==sysModules)=false/\h.DictOf (bp c.P c.w) a kus/\kus.length<=sizeLine/\kus.map (·.1)=ks/\Ds c h ps (kus.map (·.2))
noncomputable def ListAt (c:Cn)(h:Heap)(a:Addr)(ps:List PV):Prop:=∃its n,h.get? a=some (eZ its n)/\its.length<=sizeLine/\Ds c h ps its
noncomputable def SlOk (c:Cn)(H:Hp)(h:Heap):Sl->V->Prop
 |.val p,v=>∀u,jB v u->D c h p u
 |.own ps,v=>∃a,v=.ref a/\H a=some aL/\ListAt c h a ps
 |.dic ks ps,v=>∃a,v=.ref a/\H a=some aL/\DictAt c h a ks ps
noncomputable def cH:Sl->Bool
 |.val _=>false
 |_=>true
noncomputable def bW (σ:L2.St)(ρ:aq)(i:Nat)(a:Addr):Prop:=(∃s,ρ[i]?=some (some s)/\cH s=true)/\σ[i]?=some (some (.ref a))
structure Z.ok {X:Cx}(z:Z X)(s:Shared):Prop where
 I:Inv X z.pins z.σ z.H s
 len:z.σ.length=z.ρ.length
 slk:∀(i:Nat) t,z.ρ[i]?=some (some t)->∃v,z.σ[i]?=some (some v)/\(∃u,jB v u)/\SlOk z.cn z.H s.heap t v
 dj:∀i j a,bW z.σ z.ρ i a->bW z.σ z.ρ j a->i=j
 nb:∀i a,bW z.σ z.ρ i a->¬z.bad a/\(X.s₀.heap.get? a=none\/X.H₀ a≠none)
 oh:∀b o,z.H b=some o->o=aL
 oh0:∀b o,X.H₀ b=some o->o=aL
 loc:z.bad X.env.locals
 cel:∀x c,X.env.cells.lookup x=some c->z.bad c
 fs:∀b∈X.fs,z.bad b
 ex:∀b∈X.ex,z.bad b
 there:∀b,z.bad b->∃o,s.heap.get? b=some o
 bs:∀b o,X.base.get? b=some o->¬z.bad b
 ot:∀a o,z.H a=some o->¬z.bad a/\∃ob,s.heap.get? a=some ob/\ob.cls≠.type "tuple"
 anc:X.fn "" = true->∀a,X.H₀ a≠none->z.σ[0]?=some (some (.ref a))
structure Ext (bad:Addr->Prop)(h h':Heap):Prop where
 kp:∀a o,¬bad a->h.get? a=some o->h'.get? a=some o
 th:∀a o,h.get? a=some o->∃o',h'.get? a=some o'
theorem Ext.refl {bad:Addr->Prop}{h:Heap}:Ext bad h h:=⟨λ_ _ _ e=>e,λ_ o e=>⟨o,e⟩⟩
theorem Ext.trans {bad:Addr->Prop}{h h1 h2:Heap}(a:Ext bad h h1)(b:Ext bad h1 h2):Ext bad h h2:=
 ⟨λx o n e=>b.kp x o n (a.kp x o n e),λx o e=>let ⟨o',q⟩:=a.th x o e;b.th x o' q⟩
theorem Ext.kept {bad:Addr->Prop}{h h':Heap}(k:∀b u,h.get? b=some u->h'.get? b=some u):Ext bad h h':=⟨λa o _ e=>k a o e,λa o e=>⟨o,k a o e⟩⟩
section
variable {X:Cx}{z:Z X}{s s' s1 s2:Shared}{h h':Heap}
theorem Ext.kpD {bad:Addr->Prop}{H:Hp}(e:Ext bad h h'):Kp (bI X bad H) (bI X bad H) h h':=⟨rfl,rfl,rfl,λa o q g=>⟨q,e.kp a o q.2 g⟩⟩
theorem ListAt.mono {c c':Cn}{a:Addr}{ps:List PV}(k:Kp c c' h h')(q:∀o,h.get? a=some o->h'.get? a=some o):ListAt c h a ps->ListAt c' h' a ps
 |⟨its,n,e,z,t⟩=>⟨its,n,q _ e,z,t.mono k⟩
theorem DictAt.mono {c c':Cn}{a:Addr}{ks:List eX}{ps:List PV}(k:Kp c c' h h')(q:∀o,h.get? a=some o->h'.get? a=some o):DictAt c h a ks ps->DictAt c' h' a ks ps
 |⟨kus,y,⟨o,es,ep,e,r⟩,z,m,t⟩=>⟨kus,y,by rw[k.P,k.w];exact⟨o,es,ep,q _ e,r⟩,z,m,t.mono k⟩
theorem SlOk.mono {c c':Cn}{H:Hp}(k:Kp c c' h h')(q:∀a o,H a=some aL->h.get? a=some o->h'.get? a=some o):∀{t:Sl} {v:V},SlOk c H h t v->SlOk c' H h' t v
 |.val p,_,d=>λu r=>(d u r).m k
 |.own ps,_,⟨a,e,o,d⟩=>⟨a,e,o,d.mono k (q a · o)⟩
 |.dic ks ps,_,⟨a,e,o,d⟩=>⟨a,e,o,d.mono k (q a · o)⟩
noncomputable def Z.go (z:Z X)(s s':Shared):Prop:=z.ok s'/\Ext z.bad s.heap s'.heap
theorem Z.ok.stands (h:z.ok s){a:Addr}{o:HO}(e:z.H a=some o):∃ob,s.heap.get? a=some ob:=h.I.hok.stands e
theorem Z.ok.free (h:z.ok s){a:Addr}(e:s.heap.get? a=none):kR z.bad z.H a:=by
 refine⟨?_,λb=>?_⟩
 ·cases q:z.H a with
  |none=>rfl
  |some o=>obtain⟨ob,r⟩:=h.stands q;rw[e] at r;cases r
 ·obtain⟨o,r⟩:=h.there a b;rw[e] at r;cases r
theorem Z.ok.own_nb (h:z.ok s){i:Nat}{t:Sl}{a:Addr}(e:z.ρ[i]?=some (some t))(o:cH t=true)(q:z.σ[i]?=some (some (.ref a))):¬z.bad a:=(h.nb i a ⟨⟨t,e,o⟩,q⟩).1
theorem SlOk.step {z:Z X}(hz:z.ok s)(e:Ext z.bad s.heap h'){i:Nat}{t:Sl}{v:V}(e1:z.ρ[i]?=some (some t))(e2:z.σ[i]?=some (some v)):SlOk z.cn z.H s.heap t v->SlOk z.cn z.H h' t v:=λq=>by
 cases t with
 |val p=>exact λu r=>(q u r).m e.kpD
 |own ps=>obtain⟨a,rfl,o,d⟩:=q;exact⟨a,rfl,o,d.mono e.kpD λo'=>e.kp a o' (hz.own_nb e1 rfl e2)⟩
 |dic ks ps=>obtain⟨a,rfl,o,d⟩:=q;exact⟨a,rfl,o,d.mono e.kpD λo'=>e.kp a o' (hz.own_nb e1 rfl e2)⟩
theorem Z.ok.ext (hz:z.ok s)(I:Inv X z.pins z.σ z.H s')(e:Ext z.bad s.heap s'.heap):z.go s s':=
 ⟨⟨I,hz.len,λi t q=>by
  obtain⟨v,e1,r,d⟩:=hz.slk i t q
  exact⟨v,e1,r,d.step hz e q e1⟩,hz.dj,hz.nb,hz.oh,hz.oh0,hz.loc,hz.cel,hz.fs,hz.ex,λb q=>let ⟨o,r⟩:=hz.there b q;e.th b o r,hz.bs,λa o q=>⟨(hz.ot a o q).1,let ⟨ob,r1,r2⟩:=(hz.ot a o q).2;⟨ob,e.kp a ob (hz.ot a o q).1 r1,r2⟩⟩,hz.anc⟩,e⟩
theorem Z.ok.kept (hz:z.ok s){t:Nat}(k:∀b u,s.heap.get? b=some u->h'.get? b=some u):z.go s { s with heap:=h',toks:=t }:=hz.ext (hz.I.kept (t':=t) k) (.kept k)
theorem Z.ok.tok (hz:z.ok s)(t:Nat):z.go s { s with toks:=t }:=hz.kept (h':=s.heap) λ_ _ e=>e
theorem Z.ok.push (hz:z.ok s)(o:Obj)(t:Nat):z.go s { s with heap:=s.heap.push o,toks:=t }:=hz.kept λ_ _ e=>Heap.get?_push_of_some _ e
theorem Z.ok.refl (hz:z.ok s):z.go s s:=⟨hz,.refl⟩
theorem Z.go.trans (a:z.go s s1)(b:z.go s1 s2):z.go s s2:=⟨b.1,a.2.trans b.2⟩
end
inductive RV where
 |fz (p:PV)|nw (ps:List PV)|ln (p:PV)
noncomputable def RV.pv:RV->PV
 |.fz p=>p
 |.nw ps=>.lst ps
 |.ln p=>p
noncomputable def RV.fr:RV->Option PV
 |.fz p=>some p
 |.nw ps=>some (.lst ps)
 |.ln _=>none
noncomputable abbrev FE:=aq->Option RV
noncomputable abbrev FB:=aq->Option Bool
noncomputable abbrev FA:=aq->Option (List RV)
noncomputable abbrev FI:=aq->Option (List PV)
section
variable {X:Cx}{z:Z X}{s s' s1 s2:Shared}{h0 h h':Heap}
noncomputable def Lv:PV->Bool
 |.lst _=>true
 |.dct _ _=>true
 |_=>false
noncomputable def RvOk (z:Z X)(h0 h:Heap):RV->Value->Prop
 |.fz p,u=>D z.cn h p u
 |.nw ps,u=>∃a,u=.ref a/\h0.get? a=none/\kR z.bad z.H a/\ListAt (bI X z.bad (fI z.H a aL)) h a ps
 |.ln p,u=>Rd z.cn h p u/\Lv p=true/\∀a,u=.ref a->¬z.bad a
theorem DB {bad:Addr->Prop}{H:Hp}{a:Addr}{h:Heap}:Kp (bI X bad (fI H a aL)) (bI X bad H) h h:=⟨rfl,rfl,rfl,λb o q e=>⟨⟨by
 have:=q.1
 by_cases hb:b=a
 ·subst hb;rw[bQ] at this;cases this
 ·rwa [aS hb] at this,q.2⟩,e⟩⟩
theorem xz {bad:Addr->Prop}{H:Hp}{a:Addr}{h:Heap}(n:h.get? a=none):Kp (bI X bad H) (bI X bad (fI H a aL)) h h:=⟨rfl,rfl,rfl,λb o q e=>⟨⟨by
 rw[aS (λz=>by subst z;rw[n] at e;cases e)];exact q.1,q.2⟩,e⟩⟩
theorem RvOk.fr {r:RV}{p:PV}{u:Value}(d:RvOk z h0 h r u)(e:r.fr=some p):D z.cn h p u:=by
 cases r with
 |fz q=>cases e;exact d
 |nw ps=>cases e;obtain⟨a,e,_,o,its,n,g,l,t⟩:=d;exact⟨a,its,n,e,o,g,l,t.mono DB⟩
 |ln q=>cases e
theorem RvOk.rd {r:RV}{u:Value}(d:RvOk z h0 h r u):Rd z.cn h r.pv u:=by
 cases r with
 |fz q=>exact D1.rd d
 |nw ps=>exact D1.rd (RvOk.fr d rfl)
 |ln q=>exact d.1
theorem RvOk.ext {r:RV}{u:Value}(d:RvOk z h0 h r u)(e:Ext z.bad h h'):RvOk z h0 h' r u:=by
 cases r with
 |fz q=>exact D1.m d e.kpD
 |nw ps=>obtain⟨a,e1,n,o,l⟩:=d;exact⟨a,e1,n,o,l.mono e.kpD λo' q=>e.kp a o' o.2 q⟩
 |ln q=>
  refine⟨?_,d.2⟩
  obtain⟨d,lb,nb⟩:=d
  have k:∀a,u=.ref a->∀o,h.get? a=some o->h'.get? a=some o:=λa ea o q=>e.kp a o (nb a ea) q
  cases q with
  |lst ps=>obtain⟨a,its,n,e1,q,ho,l,t⟩:=d;exact⟨a,its,n,e1,q,k a e1 _ ho,l,t.mono e.kpD⟩
  |dct ks ps=>obtain⟨a,kus,e1,q,y,⟨o,es,ep,ho,r⟩,l,m,t⟩:=d;exact⟨a,kus,e1,q,y,⟨o,es,ep,k a e1 _ ho,r⟩,l,m,t.mono e.kpD⟩
  |_=>cases lb
structure Rv (z:Z X)(h:Heap)(p:PV)(u:Value):Prop where
 rd:Rd z.cn h p u
 fz:Lv p=false->D z.cn h p u
 nb:Lv p=true->∀a,u=.ref a->¬z.bad a
theorem D1.rv_nb {p:PV}{u:Value}(d:D z.cn h p u)(e:Lv p=true){a:Addr}(ea:u=.ref a):¬z.bad a:=by
 cases p with
 |lst ps=>obtain⟨b,its,n,e1,q,_⟩:=d;rw[e1] at ea;cases ea;exact q.2
 |dct ks ps=>obtain⟨b,its,e1,q,_⟩:=d;rw[e1] at ea;cases ea;exact q.2
 |_=>cases e
theorem RvOk.rv {r:RV}{u:Value}(d:RvOk z h0 h r u):Rv z h r.pv u:=by
 refine⟨d.rd,λe=>?_,λe a ea=>?_⟩
 ·cases r with
  |fz q=>exact d
  |nw ps=>cases e
  |ln q=>rw[show RV.pv (.ln q)=q from rfl,d.2.1] at e;cases e
 ·cases r with
  |fz q=>exact D1.rv_nb d e ea
  |nw ps=>obtain⟨b,rfl,_,o,_⟩:=d;cases ea;exact o.2
  |ln q=>exact d.2.2 a ea
noncomputable def Z.post (z:Z X)(s:Shared)(r:RV)(u:Value)(s':Shared):Prop:=z.go s s'/\RvOk z s.heap s'.heap r u
theorem RvOk.old {r:RV}{u:Value}(d:RvOk z h0 h r u)(e:∀a,h0.get? a=none->h'.get? a=none):RvOk z h' h r u:=by
 cases r with
 |fz q=>exact d
 |nw ps=>obtain⟨a,e1,n,o,l⟩:=d;exact⟨a,e1,e a n,o,l⟩
 |ln q=>exact d
theorem Ext.back {bad:Addr->Prop}(e:Ext bad h h'){a:Addr}(n:h'.get? a=none):h.get? a=none:=by
 cases q:h.get? a with
 |none=>rfl
 |some o=>obtain⟨o',r⟩:=e.th a o q;rw[n] at r;cases r
theorem Z.go.post {r:RV}{u:Value}(a:z.go s s1)(b:Z.post z s1 r u s2):Z.post z s r u s2:=⟨a.trans b.1,b.2.old λ_=>Ext.back a.2⟩
end
noncomputable abbrev W (X:Cx){α:Type}(t:Sem α)(Q:α->Shared->Prop)(E:Value->Shared->Prop)(s:Shared):Prop:=wpAny (model X.prog X.w) X.A t Q E s
noncomputable def NE (X:Cx)(e:Expr)(f:FE):Prop:=∀(z:Z X) s r E,z.ok s->f z.ρ=some r->W X (eval e X.env) (Z.post z s r) E s
noncomputable def NB (X:Cx)(e:Expr)(f:FB):Prop:=∀(z:Z X) s b E,z.ok s->f z.ρ=some b->W X (isTrue e X.env (eval e X.env)) (λc s'=>c=b/\z.go s s') E s
noncomputable def NW (X:Cx)(e:Expr)(f:FB):Prop:=∀(z:Z X) whole s b E,z.ok s->f z.ρ=some b->W X (isTrue e X.env whole) (λc s'=>c=b/\z.go s s') E s
inductive RvsOk {X:Cx} (z:Z X) (h0 h:Heap):List RV->List Value->Prop where
 |nil:RvsOk z h0 h [] []
 |cons {r:RV} {u:Value} {rs:List RV} {us:List Value}:RvOk z h0 h r u->RvsOk z h0 h rs us->RvsOk z h0 h (r::rs) (u::us)
noncomputable def NA (X:Cx)(es:List Expr)(f:FA):Prop:=∀(z:Z X) (pos:Pos) s rs E,z.ok s->f z.ρ=some rs->W X (spliced (backTo pos (starEach es X.env))) (λus s'=>z.go s s'/\RvsOk z s.heap s'.heap rs us) E s
end Dp
end
section
namespace L2
open PySem PySem.Spec PyProof.Rows
section
variable {κ:Type}[DecidableEq κ]
end
theorem qE {P:Program}{w:World}{k:eX}{u:Value}(r:jB (kV k) u):(bp P w).is k u=true:=by
 cases k with
 |inl i=>obtain⟨t,e⟩:=(show ∃t,u=Value.int i t from r);subst e;exact vo P w i t
 |inr x=>obtain⟨t,e⟩:=(show ∃t,u=Value.str x t from r);subst e;exact lg P w x t
section
variable {X:Cx}{pins:List (Addr×Obj)}{σ:St}{H:Hp}{s:Shared}{a:Addr}{y v:V}{u r:Value}{o:Option V}{A:Around}{E:Value->Shared->Prop}
theorem Inv.big (I:Inv X pins σ H s):sysModules<s.heap.objs.size:=by
 have h:mainGlobals<s.heap.objs.size:=(I.mod.glob.keeps I.bk).lt
 exact Nat.lt_trans (by decide) h
end
end L2
end
section
namespace Dp
open PySem PySem.Spec L2 PySem.SeqAt
noncomputable def wW:PV->V
 |.non=>.non
 |.bl b=>.bl b
 |.int i=>.int i
 |.str x=>.str x
 |.ty n=>.ty n
 |_=>.non
mutual
noncomputable def bM:PV->Bool
 |.non=>true
 |.bl _=>true
 |.int _=>true
 |.str _=>true
 |.tup ps=>aK ps
 |.lst ps=>aK ps
 |_=>false
noncomputable def aK:List PV->Bool
 |[]=>true
 |p::ps=>bM p&&aK ps
end
mutual
noncomputable def sW:PV->Nat
 |.tup ps=>dF ps+1
 |.lst ps=>dF ps+1
 |_=>0
noncomputable def dF:List PV->Nat
 |[]=>0
 |p::ps=>max (sW p) (dF ps)
end
mutual
noncomputable def kK:PV->PV->Bool
 |.tup ps,q=>match q with
  |.tup qs=>ii ps qs
  |_=>false
 |.lst ps,q=>match q with
  |.lst qs=>ii ps qs
  |_=>false
 |p,q=>jz q&&HI (wW p) (wW q)
noncomputable def ii:List PV->List PV->Bool
 |[],qs=>match qs with
  |[]=>true
  |_::_=>false
 |p::ps,qs=>match qs with
  |[]=>false
  |q::qs=>kK p q&&ii ps qs
end
theorem kn:∀(ps qs:List PV),((a0m (min ps.length qs.length)).all (λj=>kK (ps.getD j .non) (qs.getD j .non))&&ps.length==qs.length)=ii ps qs
 |[],[]=>by simp[ii]
 |[],_::_=>by simp[ii]
 |_::_,[]=>by simp[ii]
 |p::ps,q::qs=>by
  have ih:=kn ps qs
  rw[ii,←ih,show min (p::ps).length (q::qs).length=min ps.length qs.length+1 by simp only[a0o];omega,a2k,a1g,List.all_map]
  simp[Bool.and_assoc,Function.comp_def]
theorem wc {ps qs:List PV}(h:ps.length=qs.length):(a0m ps.length).all (λj=>kK (ps.getD j .non) (qs.getD j .non))=ii ps qs:=by
 rw[←kn,←h,Nat.min_self];simp
theorem wl {ps qs:List PV}(h:ps.length≠qs.length):ii ps qs=false:=by
 rw[←kn,(show (ps.length==qs.length)=false by simpa using h),a5f]
mutual
theorem wm:∀{p:PV},bM p=true->kK p p=true
 |.non,_=>rfl
 |.bl b,_=>by simp[kK,jz,wW,HI]
 |.int b,_=>by simp[kK,jz,wW,HI]
 |.str b,_=>by simp[kK,jz,wW,HI]
 |.tup ps,h=>lP (ps:=ps) h
 |.lst ps,h=>lP (ps:=ps) h
 |.ty _,h|.fn _,h|.dct _ _,h|.src _,h|.ktu _,h|.rng _ _,h|.exn _,h|.set _,h=>absurd h a0y
theorem lP:∀{ps:List PV},aK ps=true->ii ps ps=true
 |[],_=>rfl
 |p::ps,h=>by
  rw[aK,a0b] at h
  rw[ii,wm h.1,lP h.2];rfl
end
inductive Vw (c:Cn) (h:Heap):PV->Value->Prop where
 |non:Vw c h .non .none
 |bl {b:Bool}:Vw c h (.bl b) (.bool b)
 |int {i:Int} {t:Tok}:Vw c h (.int i) (.int i t)
 |str {i:Str} {t:Tok}:Vw c h (.str i) (.str i t)
 |tup {ps:List PV} {a:Addr} {its:List Value}:aK ps=true->h.IsTuple a its.toArray->Ds c h ps its->Vw c h (.tup ps) (.ref a)
 |lst {ps:List PV} {a:Addr} {its:List Value}:aK ps=true->h.IsList a its.toArray->Ds c h ps its->Vw c h (.lst ps) (.ref a)
theorem D1.vw {top:Addr->Prop}{c:Cn}{h:Heap}{p:PV}{u:Value}(hp:bM p=true)(d:D1 top c h p u):Vw c h p u:=by
 cases p with
 |non=>cases (show u=_ from d);exact .non
 |bl b=>cases (show u=_ from d);exact .bl
 |int b=>obtain⟨t,rfl⟩:=d;exact .int
 |str b=>obtain⟨t,rfl⟩:=d;exact .str
 |tup ps=>obtain⟨a,its,rfl,_,q,_,t⟩:=d;exact .tup hp q t
 |lst ps=>obtain⟨a,its,n,rfl,_,q,_,t⟩:=d;exact .lst hp ⟨_,q,rfl,n,rfl⟩ t
 |_=>exact absurd hp a0y
theorem Fu {h:Heap}{a:Addr}{x y:List Value}(h1:h.IsTuple a x.toArray)(h2:h.IsTuple a y.toArray):x=y:=by
 obtain⟨o,e,_,n,d⟩:=h1
 obtain⟨o',e',_,n',d'⟩:=h2
 rw[e] at e';cases e'
 rw[d] at d'
 injection d' with d1 _
 simpa using congrArg Array.toList d1
theorem FL {h:Heap}{a:Addr}{x y:List Value}(h1:h.IsList a x.toArray)(h2:h.IsList a y.toArray):x=y:=by
 obtain⟨o,e,_,n,d⟩:=h1
 obtain⟨o',e',_,n',d'⟩:=h2
 rw[e] at e';cases e'
 rw[d] at d'
 injection d' with d1 _
 simpa using congrArg Array.toList d1
theorem It {h:Heap}{a:Addr}{x y:Array Value}(h1:h.IsList a x)(h2:h.IsTuple a y):False:=by
 obtain⟨o,e,c,_⟩:=h1
 obtain⟨o',e',c',_⟩:=h2
 rw[e] at e';cases e';rw[c] at c';exact absurd (Value.type.inj c') (by decide)
mutual
theorem D1.inj {c c':Cn}{h:Heap}{t t':Addr->Prop}:∀{p q:PV} {u:Value},bM p=true->bM q=true->D1 t c h p u->D1 t' c' h q u->p=q:=λ{p q u} hp hq d d'=>by
 cases p with
 |tup ps=>
  obtain⟨a,its,rfl,_,h1,_,h2⟩:=d
  cases d'.vw hq with
  |tup _ h1' h2'=>cases Fu h1 h1';rw[Ds.inj hp hq h2 h2']
  |lst _ h1' _=>exact (It h1' h1).elim
 |lst ps=>
  obtain⟨a,its,n,rfl,_,h1,_,h2⟩:=d
  have h1:h.IsList a its.toArray:=⟨_,h1,rfl,n,rfl⟩
  cases d'.vw hq with
  |lst _ h1' h2'=>cases FL h1 h1';rw[Ds.inj hp hq h2 h2']
  |tup _ h1' _=>exact (It h1 h1').elim
 |non=>cases (show u=_ from d);cases d'.vw hq;rfl
 |bl b=>cases (show u=_ from d);cases d'.vw hq;rfl
 |int b=>obtain⟨t,rfl⟩:=d;cases d'.vw hq;rfl
 |str b=>obtain⟨t,rfl⟩:=d;cases d'.vw hq;rfl
 |_=>exact absurd hp a0y
theorem Ds.inj {c c':Cn}{h:Heap}:∀{ps qs:List PV} {us:List Value},aK ps=true->aK qs=true->Ds c h ps us->Ds c' h qs us->ps=qs
 |[],qs,_,_,_,e,h'=>by
  cases (show _=[] from e)
  cases qs with
  |nil=>rfl
  |cons q qs=>obtain⟨u,r,e,_⟩:=h';cases e
 |p::ps,qs,_,hp,hq,⟨u,r,e,d1,d2⟩,h'=>by
  subst e
  cases qs with
  |nil=>cases (show _=[] from h')
  |cons q qs=>
   obtain⟨u',r',e',d1',d2'⟩:=h'
   cases e'
   rw[aK,a0b] at hp hq
   rw[D1.inj hp.1 hq.1 d1 d1',Ds.inj hp.2 hq.2 d2 d2']
end
variable {c c':Cn}{s:Shared}
theorem vN {t t':Addr->Prop}{p q:PV}{A:Around}{u v:Value}(hp:bM p=true)(hq:bM q=true)(d:D1 t c s.heap p u)(d':D1 t' c' s.heap q v)(rc:RcAt A s u v (kK p q)):EqAt A s u v (kK p q):=by
 by_cases h:u=v
 ·subst h
  obtain rfl:=D1.inj hp hq d d'
  rw[wm hp]
  exact EqAt.same _
 ·intro prog w E Q hQ
  unfold eqBool
  refine wpAny_holding ?_
  refine wpAny_ite_split (λhab=>absurd (eq_of_beq hab) h) (λ_=>?_)
  cases d.vw hp<;>exact wpAny_bind (rc prog w E _ (wpAny_truthy_bool hQ))
theorem A9 {p q:PV}{A:Around}{u v:Value}(hd:A.units<cLine)(d:Vw c s.heap p u)(d':Vw c' s.heap q v)(nt:∀ps qs,p=.tup ps->q≠.tup qs)(nl:∀ps qs,p=.lst ps->q≠.lst qs):RcAt A s u v (kK p q)/\RcNeAt A s u v (!kK p q):=by
 cases d with
 |non=>cases d' with
  |non=>exact⟨RcAt.none_none,RcNeAt.none_none⟩
  |bl=>exact⟨RcAt.none_bool _,RcNeAt.none_bool _⟩
  |int=>exact⟨RcAt.none_int _ _,RcNeAt.none_int _ _⟩
  |str=>exact⟨RcAt.none_str _ _,RcNeAt.none_str _ _⟩
  |tup _ h _=>exact⟨RcAt.none_tuple h hd,RcNeAt.none_tuple h hd⟩
  |lst _ h _=>exact⟨RcAt.none_list h hd,RcNeAt.none_list h hd⟩
 |bl=>cases d' with
  |non=>exact⟨RcAt.bool_none _,RcNeAt.bool_none _⟩
  |bl=>exact⟨RcAt.bool_bool _ _,RcNeAt.bool_bool _ _⟩
  |int=>exact⟨RcAt.bool_int _ _ _,RcNeAt.bool_int _ _ _⟩
  |str=>exact⟨RcAt.bool_str _ _ _,RcNeAt.bool_str _ _ _⟩
  |tup _ h _=>exact⟨RcAt.bool_tuple _ h hd,RcNeAt.bool_tuple _ h hd⟩
  |lst _ h _=>exact⟨RcAt.bool_list _ h hd,RcNeAt.bool_list _ h hd⟩
 |int=>cases d' with
  |non=>exact⟨RcAt.int_none _ _,RcNeAt.int_none _ _⟩
  |bl=>exact⟨RcAt.int_bool _ _ _,RcNeAt.int_bool _ _ _⟩
  |int=>exact⟨RcAt.int_int _ _ _ _,RcNeAt.int_int _ _ _ _⟩
  |str=>exact⟨RcAt.int_str _ _ _ _,RcNeAt.int_str _ _ _ _⟩
  |tup _ h _=>exact⟨RcAt.int_tuple _ _ h hd,RcNeAt.int_tuple _ _ h hd⟩
  |lst _ h _=>exact⟨RcAt.int_list _ _ h hd,RcNeAt.int_list _ _ h hd⟩
 |str=>cases d' with
  |non=>exact⟨RcAt.str_none _ _,RcNeAt.str_none _ _⟩
  |bl=>exact⟨RcAt.str_bool _ _ _,RcNeAt.str_bool _ _ _⟩
  |int=>exact⟨RcAt.str_int _ _ _ _,RcNeAt.str_int _ _ _ _⟩
  |str=>exact⟨RcAt.str_str _ _ _ _,RcNeAt.str_str _ _ _ _⟩
  |tup _ h _=>exact⟨RcAt.str_tuple _ _ h hd,RcNeAt.str_tuple _ _ h hd⟩
  |lst _ h _=>exact⟨RcAt.str_list _ _ h hd,RcNeAt.str_list _ _ h hd⟩
 |tup _ h _=>cases d' with
  |non=>exact⟨RcAt.tuple_none h hd,RcNeAt.tuple_none h hd⟩
  |bl=>exact⟨RcAt.tuple_bool _ h hd,RcNeAt.tuple_bool _ h hd⟩
  |int=>exact⟨RcAt.tuple_int _ _ h hd,RcNeAt.tuple_int _ _ h hd⟩
  |str=>exact⟨RcAt.tuple_str _ _ h hd,RcNeAt.tuple_str _ _ h hd⟩
  |tup=>exact absurd rfl (nt _ _ rfl)
  |lst _ h' _=>exact⟨RcAt.tuple_list h h' hd,RcNeAt.tuple_list h h' hd⟩
 |lst _ h _=>cases d' with
  |non=>exact⟨RcAt.list_none h hd,RcNeAt.list_none h hd⟩
  |bl=>exact⟨RcAt.list_bool _ h hd,RcNeAt.list_bool _ h hd⟩
  |int=>exact⟨RcAt.list_int _ _ h hd,RcNeAt.list_int _ _ h hd⟩
  |str=>exact⟨RcAt.list_str _ _ h hd,RcNeAt.list_str _ _ h hd⟩
  |tup _ h' _=>exact⟨RcAt.list_tuple h h' hd,RcNeAt.list_tuple h h' hd⟩
  |lst=>exact absurd rfl (nl _ _ rfl)
theorem AE {ps qs:List PV}{A:Around}{a b:Addr}{its its2:List Value}(hu:A.units<cLine)(l1:its.length=ps.length)(l2:its2.length=qs.length)(es:∀j (h1:j<its.toArray.size) (h2:j<its2.toArray.size),EqAt A.in1 s its.toArray[j] its2.toArray[j] (kK (ps.getD j .non) (qs.getD j .non))) :
  (s.heap.IsTuple a its.toArray->s.heap.IsTuple b its2.toArray->RcAt A s (.ref a) (.ref b) (ii ps qs)/\RcNeAt A s (.ref a) (.ref b) (!ii ps qs))/\(s.heap.IsList a its.toArray->s.heap.IsList b its2.toArray->RcAt A s (.ref a) (.ref b) (ii ps qs)/\RcNeAt A s (.ref a) (.ref b) (!ii ps qs)):=by
 refine⟨λh1 h2=>?_,λh1 h2=>?_⟩
 ·have x:=RcAt.tuples (A:=A) (s:=s) (e:=λj=>kK (ps.getD j .non) (qs.getD j .non)) h1 h2 hu es
  have y:=RcNeAt.tuples (A:=A) (s:=s) (e:=λj=>kK (ps.getD j .non) (qs.getD j .non)) h1 h2 hu es
  rw[a0g,a0g,l1,l2,kn] at x y
  exact⟨x,y⟩
 ·by_cases hl:ps.length=qs.length
  ·have x:=RcAt.lists (A:=A) (s:=s) (e:=λj=>kK (ps.getD j .non) (qs.getD j .non)) h1 h2 (by simp;omega) hu es
   have y:=RcNeAt.lists (A:=A) (s:=s) (e:=λj=>kK (ps.getD j .non) (qs.getD j .non)) h1 h2 (by simp;omega) hu es
   rw[a0g,l1,wc hl] at x y
   exact⟨x,y⟩
  ·have x:=RcAt.lists_lengths (A:=A) (s:=s) h1 h2 (by simp;omega) hu
   have y:=RcNeAt.lists_lengths (A:=A) (s:=s) h1 h2 (by simp;omega) hu
   rw[wl hl]
   exact⟨x,y⟩
mutual
theorem GW:∀{p q:PV} {A:Around} {u v:Value} {t t':Addr->Prop},bM p=true->bM q=true->A.units+sW p+1<cLine->D1 t c s.heap p u->D1 t' c' s.heap q v->RcAt A s u v (kK p q)/\RcNeAt A s u v (!kK p q)
 |.tup ps,q,A,_,v,t,t',hp,hq,hd,⟨a,its,e,o,h1,z,h2⟩,d=>by
  subst e
  cases d.vw hq with
  |tup _ h1' h2'=>exact (AE (by omega) h2.length h2'.length λj k1 k2=>Em (ps:=ps) hp hq (by rw[sW] at hd;show A.units+1+dF ps+1<cLine;omega) h2 h2' j (by simpa using k1) (by simpa using k2) k1 k2).1 h1 h1'
  |_=>exact A9 (by omega) (D1.vw (p:=.tup ps) hp ⟨a,its,rfl,o,h1,z,h2⟩) (d.vw hq) (λ_ _ _ e=>(by cases e)) λ_ _ e=>(by cases e)
 |.lst ps,q,A,_,v,t,t',hp,hq,hd,⟨a,its,n,e,o,h1,z,h2⟩,d=>by
  subst e
  cases d.vw hq with
  |lst _ h1' h2'=>exact (AE (by omega) h2.length h2'.length λj k1 k2=>Em (ps:=ps) hp hq (by rw[sW] at hd;show A.units+1+dF ps+1<cLine;omega) h2 h2' j (by simpa using k1) (by simpa using k2) k1 k2).2 ⟨_,h1,rfl,n,rfl⟩ h1'
  |_=>exact A9 (by omega) (D1.vw (p:=.lst ps) hp ⟨a,its,n,rfl,o,h1,z,h2⟩) (d.vw hq) (λ_ _ e=>(by cases e)) λ_ _ _ e=>(by cases e)
 |.non,q,A,u,v,_,_,hp,hq,hd,d,d'=>A9 (by omega) (d.vw hp) (d'.vw hq) (λ_ _ e=>by cases e) λ_ _ e=>by cases e
 |.bl _,q,A,u,v,_,_,hp,hq,hd,d,d'=>A9 (by omega) (d.vw hp) (d'.vw hq) (λ_ _ e=>by cases e) λ_ _ e=>by cases e
 |.int _,q,A,u,v,_,_,hp,hq,hd,d,d'=>A9 (by omega) (d.vw hp) (d'.vw hq) (λ_ _ e=>by cases e) λ_ _ e=>by cases e
 |.str _,q,A,u,v,_,_,hp,hq,hd,d,d'=>A9 (by omega) (d.vw hp) (d'.vw hq) (λ_ _ e=>by cases e) λ_ _ e=>by cases e
 |.ty _,_,_,_,_,_,_,h,_,_,_,_|.fn _,_,_,_,_,_,_,h,_,_,_,_|.dct _ _,_,_,_,_,_,_,h,_,_,_,_|.src _,_,_,_,_,_,_,h,_,_,_,_|.ktu _,_,_,_,_,_,_,h,_,_,_,_|.rng _ _,_,_,_,_,_,_,h,_,_,_,_|.exn _,_,_,_,_,_,_,h,_,_,_,_|.set _,_,_,_,_,_,_,h,_,_,_,_=>absurd h a0y
theorem Em:∀{ps qs:List PV} {A:Around} {us vs:List Value},aK ps=true->aK qs=true->A.units+dF ps+1<cLine->Ds c s.heap ps us->Ds c' s.heap qs vs->∀j (_:j<us.length) (_:j<vs.length) (h1:j<us.toArray.size) (h2:j<vs.toArray.size),EqAt A s us.toArray[j] vs.toArray[j] (kK (ps.getD j .non) (qs.getD j .non))
 |[],qs,A,us,vs,_,_,_,e,_=>λj h1 _ _ _=>absurd h1 (by rw[show us=[] from e];exact a2p _)
 |p::ps,qs,A,us,vs,hp,hq,hd,⟨u,r,e,d1,d2⟩,d'=>λj h1 h2 k1 k2=>by
  cases qs with
  |nil=>exact absurd h2 (by rw[show vs=[] from d'];exact a2p _)
  |cons q qs=>
   obtain⟨v,r',e',d1',d2'⟩:=d'
   subst e e'
   rw[aK,a0b] at hp hq
   rw[dF] at hd
   cases j with
   |zero=>
    have:=vN hp.1 hq.1 d1 d1' (GW (A:=A) hp.1 hq.1 (by omega) d1 d1').1
    simpa using this
   |succ j=>
    have:=Em (A:=A) hp.2 hq.2 (by omega) d2 d2' j (by simpa using h1) (by simpa using h2) (by simpa using h1) (by simpa using h2)
    simpa using this
end
open Classical in
noncomputable def EL (c:Cn)(h:Heap)(q:PV)(u:Value):Bool:=if h:∃p,bM p=true/\D c h p u then kK h.choose q else false
theorem Cy {q p:PV}{u:Value}(hp:bM p=true)(d:D c s.heap p u):EL c s.heap q u=kK p q:=by
 have h:∃p,bM p=true/\D c s.heap p u:=⟨p,hp,d⟩
 unfold EL
 rw[dif_pos h,D1.inj h.choose_spec.1 hp h.choose_spec.2 d]
theorem zi {q:PV}:∀{ps:List PV} {us:List Value},aK ps=true->Ds c s.heap ps us->us.any (EL c s.heap q)=ps.any λp=>kK p q
 |[],_,_,h=>by rw[show _=[] from h];rfl
 |p::ps,_,hp,⟨u,r,e,d1,d2⟩=>by
  subst e
  rw[aK,a0b] at hp
  rw[a3j,a3j,Cy hp.1 d1,zi hp.2 d2]
theorem zW {A:Around}{q:PV}{v:Value}{t:Addr->Prop}(hq:bM q=true)(dq:D1 t c' s.heap q v):∀{ps:List PV} {us:List Value},aK ps=true->A.units+dF ps+1<cLine->Ds c s.heap ps us->∀u∈us,EqAt A s u v (EL c s.heap q u)
 |[],_,_,_,h,u,hu=>by rw[show _=[] from h] at hu;cases hu
 |p::ps,_,hp,hd,⟨u',r,e,d1,d2⟩,u,hu=>by
  subst e
  rw[aK,a0b] at hp
  rw[dF] at hd
  rcases a0t.mp hu with rfl|hu
  ·rw[Cy hp.1 d1]
   exact vN hp.1 hq d1 dq (GW hp.1 hq (by omega) d1 dq).1
  ·exact zW hq dq hp.2 (by omega) d2 u hu
noncomputable def pin (x:PV)(ps:List PV):Bool:=ps.any λp=>kK p x
noncomputable def items:PV->Option (List PV)
 |.tup ps=>some ps
 |.lst ps=>some ps
 |.src ps=>some ps
 |.ktu ps=>some ps
 |_=>none
theorem D1.items {t:Addr->Prop}{h:Heap}{p:PV}{u:Value}{ps:List PV}(d:D1 t c h p u)(e:items p=some ps):∃a its,u=.ref a/\t a/\its.length<=sizeLine/\Ds c h ps its/\(PyProof.Rows.IsTup h a its.toArray\/∃n,h.get? a=some (eZ its n)):=by
 cases p with
 |tup qs=>cases e;obtain⟨a,its,e,o,q,z,t⟩:=d;exact⟨a,its,e,o,z,t,.inl q⟩
 |ktu qs=>cases e;obtain⟨a,its,e,o,q,z,t⟩:=d;exact⟨a,its,e,o,z,t,.inl q⟩
 |lst qs=>cases e;obtain⟨a,its,n,e,o,q,z,t⟩:=d;exact⟨a,its,e,o,z,t,.inr ⟨n,q⟩⟩
 |src qs=>cases e;obtain⟨a,its,n,e,o,q,z,t⟩:=d;exact⟨a,its,e,o,z,t,.inr ⟨n,q⟩⟩
 |_=>cases e
theorem bj {h:Heap}{a:Addr}{its:List Value}{n:Nat}(e:h.get? a=some (eZ its n)):h.IsList a its.toArray:=⟨_,e,rfl,n,rfl⟩
section
variable {prog:Program}{w:World}{A:Around}{E:Value->Shared->Prop}{Q:Value->Shared->Prop}
theorem Ix {x y:PV}{u v:Value}{ps:List PV}{t t':Addr->Prop}(ng:Bool)(hu:A.units+64<cLine)(hx:bM x=true)(dx:D1 t c' s.heap x u)(dy:D1 t' c s.heap y v)(e:items y=some ps)(hp:aK ps=true)(hd:dF ps<=50)(q:Q (.bool (if ng=true then !pin x ps else pin x ps)) s) :
  wpAny (model prog w) A (compareOp (if ng=true then .NotIn else .In) u v) Q E s:=by
 obtain⟨a,its,rfl,_,_,ds,h⟩:=dy.items e
 have m:∀y∈its.toArray,EqAt A.in1 s y u (EL c s.heap x y):=λy hy=>zW hx dx hp (by show A.units+1+dF ps+1<cLine;omega) ds y (by simpa using hy)
 have e2:its.toArray.any (EL c s.heap x)=pin x ps:=by rw[List.any_toArray,zi hp ds];rfl
 cases ng<;>rcases h with h|⟨n,h⟩
 ·exact in_tupleAt (EL c s.heap x) h m (by rw[e2];exact q)
 ·exact in_listAt (EL c s.heap x) (bj h) m (by rw[e2];exact q)
 ·exact notIn_tupleAt (EL c s.heap x) h m (by rw[e2];exact q)
 ·exact notIn_listAt (EL c s.heap x) (bj h) m (by rw[e2];exact q)
end
noncomputable def jI:PV->Option eX
 |.int i=>some (.inl i)
 |.str x=>some (.inr x)
 |_=>none
theorem gt {t:Addr->Prop}{c:Cn}{h:Heap}{p:PV}{u:Value}{k:eX}(e:jI p=some k)(d:D1 t c h p u):jB (kV k) u:=by
 cases p with
 |int i=>cases e;exact d
 |str x=>cases e;exact d
 |_=>cases e
noncomputable def o6:List eX->List PV->eX->Option PV
 |k::ks,p::ps,y=>if k=y then some p else o6 ks ps y
 |_,_,_=>none
theorem oi {c:Cn}{h:Heap}{y:eX}:∀{kus:List (eX×Value)} {ks:List eX} {ps:List PV},kus.map (·.1)=ks->Ds c h ps (kus.map (·.2))->(∀p,o6 ks ps y=some p->∃u,valueAt kus y=some u/\D c h p u)/\(o6 ks ps y=none->valueAt kus y=none)
 |[],ks,ps,e,d=>by
  subst e
  cases ps with
  |nil=>exact⟨λp e=>(by cases e),λ_=>rfl⟩
  |cons p ps=>obtain⟨u,r,e,_⟩:=d;cases e
 |(k,v)::kus,ks,ps,e,d=>by
  subst e
  cases ps with
  |nil=>cases (show v::kus.map (·.2)=[] from d)
  |cons p ps=>
   obtain⟨u,r,e,d1,d2⟩:=d
   cases e
   obtain⟨h1,h2⟩:=oi (y:=y) rfl d2
   show (∀q,(if k=y then some p else o6 (kus.map (·.1)) ps y)=some q->_)/\((if k=y then some p else o6 (kus.map (·.1)) ps y)=none->_)
   by_cases hk:k=y
   ·rw[if_pos hk]
    exact⟨λq e=>(by cases e;exact⟨v,by simp[valueAt,hk],d1⟩),λe=>by cases e⟩
   ·rw[if_neg hk]
    have ev:valueAt ((k,v)::kus) y=valueAt kus y:=by simp[valueAt,hk]
    rw[ev]
    exact⟨h1,h2⟩
noncomputable def OD (x y:PV):Option Bool:=match y with
 |.dct ks ps=>(jI x).map λk=>(o6 ks ps k).isSome
 |_=>none
theorem Co {P:Program}{w:World}{mg:Str->Option Value}{A:Around}{s:Shared}{ok ok':Addr->Prop}{t t':Addr->Prop}{x y:PV}{u v:Value}{b ng:Bool}{Q:Value->Shared->Prop}{E:Value->Shared->Prop}(dx:D1 t ⟨ok',P,w,mg⟩ s.heap x u)(dy:D1 t' ⟨ok,P,w,mg⟩ s.heap y v)(e:OD x y=some b)(q:∀tk,Q (.bool (if ng then !b else b)) { s with toks:=tk }) :
  wpAny (model P w) A (compareOp (if ng then .NotIn else .In) u v) Q E s:=by
 unfold OD at e
 split at e
 ·next ks ps=>
  obtain⟨k,ek,rfl⟩:=a0d.mp e
  obtain⟨a,kus,rfl,_,y,dd,zl,hk,ds⟩:=dy
  obtain⟨h1,h2⟩:=oi (y:=k) hk ds
  have ev:(valueAt kus k).isSome=(o6 ks ps k).isSome:=by
   cases hd:o6 ks ps k with
   |none=>rw[h2 hd];rfl
   |some p=>obtain⟨w',e1,_⟩:=h1 p hd;rw[e1];rfl
  cases ng with
  |false=>exact wpAny_in_of (qE (gt ek dx)) y dd.mapOf (by rw[ev];exact q _)
  |true=>exact wpAny_notIn_of (qE (gt ek dx)) y dd.mapOf (by rw[ev];exact q _)
 ·cases e
end Dp
end
section
namespace Dp
open PySem PySem.Spec L2 PyProof.Rows
theorem big {n:Nat}(h:n<=100000):n<=sizeLine:=a1z h (by decide)
theorem Nd {n:Nat}(h:n<=100000):n<sizeLine:=a4m h (by decide)
section
variable {X:Cx}{e a b c:Expr}{es gl:List Expr}{pos:Pos}{f fa fb fc:FE}{fs:FA}{i:Nat}{ba bb:FB}
noncomputable def sl (ρ:aq)(i:Nat):Option Sl:=(ρ[i]?).join
noncomputable def t5:Sl->RV
 |.val p=>.fz p
 |.own ps=>.ln (.lst ps)
 |.dic ks ps=>.ln (.dct ks ps)
noncomputable def fV (i:Nat):FE:=λρ=>(sl ρ i).map t5
theorem gS {ρ:aq}{s:Sl}(h:sl ρ i=some s):ρ[i]?=some (some s):=by
 unfold sl at h
 cases q:ρ[i]? with
 |none=>rw[q] at h;cases h
 |some o=>rw[q] at h;rw[show o=some s from h]
theorem ListAt.rd {c:Cn}{h:Heap}{a:Addr}{ps:List PV}:ListAt c h a ps->Rd c h (.lst ps) (.ref a)
 |⟨its,n,e,z,t⟩=>⟨a,its,n,rfl,trivial,e,z,t⟩
theorem DictAt.rd {c:Cn}{h:Heap}{a:Addr}{ks:List eX}{ps:List PV}:DictAt c h a ks ps->Rd c h (.dct ks ps) (.ref a)
 |⟨kus,y,d,z,m,t⟩=>⟨a,kus,rfl,trivial,y,d,z,m,t⟩
theorem Z.ok.get {z:Z X}{s:Shared}(hz:z.ok s){t:Sl}{x:Str}(e:sl z.ρ i=some t)(hN:X.N[i]?=some x)(hv:rX X.env.scope x):∃v u m,s.heap.Ns X.env.locals m/\jB v u/\NK X.env s.heap m x u/\z.σ[i]?=some (some v)/\SlOk z.cn z.H s.heap t v/\RvOk z s.heap s.heap (t5 t) u:=by
 obtain⟨v,e1,_,d⟩:=hz.slk i t (gS e)
 obtain⟨m,hn,hl⟩:=hz.I.loc
 obtain⟨u,r,l⟩:=hl i x v hN e1 hv
 refine⟨v,u,m,hn,r,l,e1,d,?_⟩
 cases t with
 |val p=>exact d u r
 |own ps=>obtain⟨a,rfl,o,d⟩:=d;rw[show u=.ref a from r];exact⟨ListAt.rd d,rfl,λb q=>by cases q;exact hz.own_nb (gS e) rfl e1⟩
 |dic ks ps=>obtain⟨a,rfl,o,d⟩:=d;rw[show u=.ref a from r];exact⟨DictAt.rd d,rfl,λb q=>by cases q;exact hz.own_nb (gS e) rfl e1⟩
theorem L3 {x:Str}(hN:X.N[i]?=some x)(hv:rX X.env.scope x)(hd:(x==("__debug__" : Str))=false)(hcd:(x==("__classdict__" : Str))=false):NE X (.Name x pos) (fV i):=by
 intro z s r E hz h
 obtain⟨t,et,rfl⟩:=a0d.mp h
 obtain⟨v,u,m,hn,rr,l,e1,d,q⟩:=Z.ok.get hz et hN hv
 have fin:Z.post z s (t5 t) u s:=⟨hz.refl,q⟩
 rcases l with ⟨hk,hm⟩|⟨hk,c,hc,hcell⟩
 ·exact wpAny_Name (wpAny_loadName_local hz.I.ok.kind hk hn hm fin) hd
 ·rcases hk with hk|hk
  ·exact wpAny_Name (wpAny_loadName_cell hz.I.ok.kind hk hc hcell fin) hd
  ·exact wpAny_Name (wpAny_loadName_free hz.I.ok.kind hk hc hcell fin hcd) hd
noncomputable def fC (p:PV):FE:=λ_=>some (.fz p)
theorem n_int {i:Int}{j}:NE X (.Constant (.int i) j pos) (fC (.int i)):=λz s r E hz h=>by cases h;exact wpAny_Constant_int ⟨hz.tok _,_,rfl⟩
theorem OY {i:Bool}{j}:NE X (.Constant (.bool i) j pos) (fC (.bl i)):=λz s r E hz h=>by cases h;exact Constant_bool ⟨hz.refl,rfl⟩
theorem MF {j}:NE X (.Constant .none j pos) (fC .non):=λz s r E hz h=>by cases h;exact Constant_none ⟨hz.refl,rfl⟩
theorem n_str {x:Str}{j}:NE X (.Constant (.str x) j pos) (fC (.str x)):=λz s r E hz h=>by cases h;exact Calls.Constant_str ⟨hz.tok _,_,rfl⟩
noncomputable def QE (X:Cx)(x:Str)(p:PV):Prop:=∃u,X.mg x=some u/\∀(h:Heap) (bad:Addr->Prop) (H:Hp),(∀b o,X.base.get? b=some o->h.get? b=some o/\H b=none/\¬bad b)->D (bI X bad H) h p u
theorem uy {x:Str}{p:PV}(hg:Gl X x)(hp:QE X x p)(hd:(x==("__debug__" : Str))=false):NE X (.Name x pos) (fC p):=λz s r E hz h=>by
 cases h
 obtain⟨u,m,d⟩:=hp
 exact pU hz.I hg m ⟨hz.refl,d _ _ _ λb o q=>⟨hz.I.bk b o q,(hz.I.bs b o q).2,hz.bs b o q⟩⟩ hd
theorem Ny {x:Str}{n:String}(hg:Gl X x)(hm:X.mg x=none)(hv:bootBuiltins x=some (.type n))(hn:x ≠ "__name__")(hd:(x==("__debug__" : Str))=false):NE X (.Name x pos) (fC (.ty n)):=λz s r E hz h=>by
 cases h;exact kX hz.I hg hm hv ⟨hz.refl,rfl⟩ hn hd
noncomputable def ak (g:PV->PV->Option RV)(a b:FE):FE:=λρ=>(a ρ).bind λx=>(b ρ).bind λy=>g x.pv y.pv
theorem ze {α β γ:Type}{a:Option α}{b:Option β}{g:α->β->Option γ}{r:γ}(h:(a.bind λx=>b.bind λy=>g x y)=some r):∃x y,a=some x/\b=some y/\g x y=some r:=by
 obtain⟨x,e1,h⟩:=a0a.mp h
 obtain⟨y,e2,h⟩:=a0a.mp h
 exact⟨x,y,e1,e2,h⟩
noncomputable def zj (X:Cx)(F:Value->Value->Sem Value)(g:PV->PV->Option RV):Prop:=∀(z:Z X) s p q u v r E,z.ok s->Rv z s.heap p u->Rv z s.heap q v->g p q=some r->W X (F u v) (Z.post z s r) E s
theorem two (ha:NE X a fa)(hb:NE X b fb){z:Z X}{s:Shared}(hz:z.ok s){x y:RV}(ex:fa z.ρ=some x)(ey:fb z.ρ=some y){α:Type}{Q:α->Shared->Prop}{E:Value->Shared->Prop}{F:Value->Value->Sem α}
  (k:∀u v s2,z.go s s2->RvOk z s.heap s2.heap x u->RvOk z s.heap s2.heap y v->W X (F u v) Q E s2):W X (eval a X.env) (λu s1=>W X (eval b X.env) (λv s2=>W X (F u v) Q E s2) E s1) E s:=
 aV (ha z s x E hz ex) λu s1 ⟨g1,d1⟩=>aV (hb z s1 y E g1.1 ey) λv s2 ⟨g2,d2⟩=>k u v s2 (g1.trans g2) (d1.ext g2.2) (d2.old λ_=>Ext.back g1.2)
theorem Ph {op:Operator}{g:PV->PV->Option RV}(h:zj X (binaryOp op) g)(ha:NE X a fa)(hb:NE X b fb):NE X (.BinOp a op b pos) (ak g fa fb):=λz s r E hz q=>by
 obtain⟨x,y,ex,ey,eg⟩:=ze q
 exact wpAny_BinOp (two ha hb hz ex ey λu v s2 g2 d1 d2=>aV (h z s2 _ _ u v r E g2.1 d1.rv d2.rv eg) λw s3 q3=>g2.post q3)
noncomputable def rI (f:Int->Int->PV):PV->PV->Option RV
 |.int i,.int j=>some (.fz (f i j))
 |_,_=>none
noncomputable def I7 (C:Int->Int->Prop)[∀i j,Decidable (C i j)](f:Int->Int->PV):PV->PV->Option RV
 |.int i,.int j=>if C i j then some (.fz (f i j)) else none
 |_,_=>none
theorem vU {F:Value->Value->Sem Value}{C:Int->Int->Prop}[∀i j,Decidable (C i j)]{g:Int->Int->Int}
  (rule:∀(i j:Int) (t u:Tok) (s:Shared) (Q:Value->Shared->Prop) (E:Value->Shared->Prop),C i j->Q (.int (g i j) s.toks) { s with toks:=s.toks+1 }->W X (F (.int i t) (.int j u)) Q E s):zj X F (I7 C λi j=>.int (g i j)):=by
 intro z s p q u v r E hz dp dq e
 unfold I7 at e
 split at e
 ·split at e
  ·next hc=>cases e;obtain⟨⟨t,rfl⟩,_⟩:=dp;obtain⟨⟨t',rfl⟩,_⟩:=dq;exact rule _ _ _ _ _ _ _ hc ⟨hz.tok _,_,rfl⟩
  ·cases e
 ·cases e
theorem BJ {F:Value->Value->Sem Value}{g:Int->Int->Int}
  (rule:∀(i j:Int) (t u:Tok) (s:Shared) (Q:Value->Shared->Prop) (E:Value->Shared->Prop),Q (.int (g i j) s.toks) { s with toks:=s.toks+1 }->W X (F (.int i t) (.int j u)) Q E s):zj X F (rI λi j=>.int (g i j)):=by
 intro z s p q u v r E hz dp dq e
 unfold rI at e
 split at e
 ·cases e;obtain⟨⟨t,rfl⟩,_⟩:=dp;obtain⟨⟨t',rfl⟩,_⟩:=dq;exact rule _ _ _ _ _ _ _ ⟨hz.tok _,_,rfl⟩
 ·cases e
noncomputable def Lw (f:Int->Int->Bool):PV->PV->Option RV
 |.int i,.int j=>some (.fz (.bl (f i j)))
 |_,_=>none
theorem Fg {F:Value->Value->Sem Value}{g:Int->Int->Bool}
  (rule:∀(i j:Int) (t u:Tok) (s:Shared) (Q:Value->Shared->Prop) (E:Value->Shared->Prop),Q (.bool (g i j)) s->W X (F (.int i t) (.int j u)) Q E s):zj X F (Lw g):=by
 intro z s p q u v r E hz dp dq e
 unfold Lw at e
 split at e
 ·cases e;obtain⟨⟨t,rfl⟩,_⟩:=dp;obtain⟨⟨t',rfl⟩,_⟩:=dq;exact rule _ _ _ _ _ _ _ ⟨hz.refl,rfl⟩
 ·cases e
theorem Z.ok.newT {z:Z X}{s:Shared}(hz:z.ok s){ps:List PV}{its:List Value}(d:Ds z.cn s.heap ps its)(l:its.length<=sizeLine)(t:Nat):Z.post z s (.fz (.tup ps)) (.ref s.heap.objs.size) { s with heap:=s.heap.push { cls:=.type "tuple",data:=.seq its.toArray },toks:=t }:=
 ⟨hz.push _ t,_,its,rfl,hz.free (Heap.get?_none_of_le (a0r _)),⟨_,Heap.get?_push_size _ rfl,rfl,_,rfl⟩,l,d.mono (hz.push _ t).2.kpD⟩
theorem Z.ok.newL {z:Z X}{s:Shared}(hz:z.ok s){ps:List PV}{its:List Value}(d:Ds z.cn s.heap ps its)(l:its.length<=sizeLine){h':Heap}{t n:Nat}(k:∀b u,s.heap.get? b=some u->h'.get? b=some u)(e:h'.get? s.heap.objs.size=some (eZ its n)):Z.post z s (.nw ps) (.ref s.heap.objs.size) { s with heap:=h',toks:=t }:=by
 have n:=Heap.get?_none_of_le (h:=s.heap) (a0r _)
 refine⟨hz.kept k,_,rfl,n,hz.free n,its,_,e,l,(d.mono (xz n)).mono ⟨rfl,rfl,rfl,λb o q e=>⟨q,k b o e⟩⟩⟩
theorem Z.ok.newL0 {z:Z X}{s:Shared}(hz:z.ok s){ps:List PV}{its:List Value}(d:Ds z.cn s.heap ps its)(l:its.length<=sizeLine){t n:Nat}:Z.post z s (.nw ps) (.ref s.heap.objs.size) { s with heap:=s.heap.push (eZ its n),toks:=t }:=
 Z.ok.newL hz d l (λ_ _ e=>Heap.get?_push_of_some _ e) (Heap.get?_push_size _ rfl)
noncomputable def b6:PV->PV->Option RV
 |.int i,.int j=>some (.fz (.int (i+j)))
 |.lst ps,.lst qs=>if ps.length+qs.length<=100000 then some (.nw (ps++qs)) else none
 |.tup ps,.tup qs=>if ps.length+qs.length<=100000 then some (.fz (.tup (ps++qs))) else none
 |.str x,.str y=>if x.length+y.length<=100000 then some (.fz (.str (x++y))) else none
 |_,_=>none
end
section
variable {X:Cx}{e a b c:Expr}{es gl:List Expr}{pos:Pos}{f fa fb fc:FE}{fs:FA}{i:Nat}{ba bb:FB}
theorem Mv:zj X (binaryOp .Add) b6:=by
 intro z s p q u v r E hz dp dq e
 unfold b6 at e
 split at e
 ·cases e;obtain⟨⟨t,rfl⟩,_⟩:=dp;obtain⟨⟨t',rfl⟩,_⟩:=dq;exact add_int ⟨hz.tok _,_,rfl⟩
 ·split at e
  ·next h=>
   cases e
   obtain⟨⟨l,its,n,rfl,_,e1,z1,d1⟩,_⟩:=dp
   obtain⟨⟨l2,its2,n2,rfl,_,e2,z2,d2⟩,_⟩:=dq
   have l1:=d1.length
   have l2:=d2.length
   have hb:=big h
   refine PySem.P.add_list e1 e2 ?_ (by rw[a0g,a0g];omega)
   rw[List.append_toArray]
   exact Z.ok.newL0 (n:=0) hz (d1.app d2) (by rw[a0n];omega)
  ·cases e
 ·split at e
  ·next h=>
   cases e
   have hb:=big h
   obtain⟨l,its,rfl,o1,e1,z1,d1⟩:=dp.2 rfl
   obtain⟨l2,its2,rfl,o2,e2,z2,d2⟩:=dq.2 rfl
   have l1:=d1.length
   have l2:=d2.length
   by_cases hx:its=[]
   ·subst hx
    rw[a2o] at l1
    cases a1m.mp l1.symm
    obtain⟨⟨cls,dd,data,sl⟩,ho,hc,n,hd⟩:=id e1
    obtain⟨⟨cls2,dd2,data2,sl2⟩,ho2,hc2,n2,hd2⟩:=id e2
    simp only at hc hd hc2 hd2
    subst hc hd hc2 hd2
    exact concat_meets ⟨_,ho,rfl⟩ ⟨_,ho2,rfl⟩ noFill_tuple_add seq_tuple_add PySem.F.slot_tuple_add PySem.F.entry_tuple_add (PySem.F.args_tuple_add_2 _ _) (tuple_addW0 _ _ _ _ n n2 dd dd2 sl sl2 (by rfl)) ⟨ho,ho2,hz.refl,dq.2 rfl⟩
   ·refine HT.cat_tup e1 e2 hx (λhw=>?_) (λhw=>?_) (by omega)
    ·subst hw
     rw[a2o] at l2
     cases a1m.mp l2.symm
     rw[a1x]
     exact⟨hz.refl,dp.2 rfl⟩
    ·exact Z.ok.newT hz (d1.app d2) (by rw[a0n];omega) s.toks
  ·cases e
 ·split at e
  ·next h=>cases e;obtain⟨⟨t,rfl⟩,_⟩:=dp;obtain⟨⟨t',rfl⟩,_⟩:=dq;exact PyProof.Rows.add_str (λt tk=>⟨hz.tok _,_,rfl⟩) (big h)
  ·cases e
 ·cases e
noncomputable def qm:PV->PV->Option RV:=rI λi j=>.int (i - j)
noncomputable def gh:PV->PV->Option RV
 |.int i,.int j=>if (i.natAbs<2 ^ 64)\/(j.natAbs<2 ^ 64) then some (.fz (.int (i * j))) else none
 |.lst ps,.int j=>if j<=1000/\-1000<=j/\ps.length<=100 then some (.nw (a0l j.toNat ps).flatten) else none
 |.tup ps,.int j=>if ps.isEmpty=false/\1<=j/\j<=1000/\ps.length<=1000 then some (.fz (.tup (a0l j.toNat ps).flatten)) else none
 |_,_=>none
theorem vD:sizeLine >= 1000000:=by decide
theorem Ml:zj X (binaryOp .Mult) gh:=by
 intro z s p q u v r E hz dp dq e
 have z1:=vD
 unfold gh at e
 split at e
 ·next i j=>
  split at e
  ·next h=>
   cases e;obtain⟨⟨t,rfl⟩,_⟩:=dp;obtain⟨⟨t',rfl⟩,_⟩:=dq
   refine mul_int ⟨hz.tok _,_,rfl⟩ (CMul.ok ?_)
   rcases h with h|h
   ·exact .inl (by omega)
   ·exact .inr (by omega)
  ·cases e
 ·next ps k=>
  split at e
  ·next h=>
   cases e
   obtain⟨h1,h2,h3⟩:=h
   obtain⟨⟨l,its,n,rfl,_,e,_,d⟩,_⟩:=dp;obtain⟨⟨t,rfl⟩,_⟩:=dq
   have hl:=d.length
   have De:its.length * k.toNat<=100 * 1000:=Nat.mul_le_mul (by omega) (by omega)
   have hlen:its.toArray.size * k.toNat<=sizeLine:=by rw[a0g];omega
   have hcap:¬its.toArray.size * k.toNat > (2 ^ 63 - 1) / 8:=by rw[a0g];omega
   have hfit:¬(!Builtin.List.listFitsIndex k)=true:=by
    rw[fitsIndex_both (by omega) (by omega)]
    exact a0y
   have hlong:¬Builtin.List.listTooLong (its.toArray.size * k.toNat)=true:=by
    rw[we hlen]
    exact a0y
   have hnew:a5x (λx1 x2=>x1++x2) #[] (a0l (if its.toArray.isEmpty=true then 0 else k.toNat) its.toArray)=(a0l k.toNat its).flatten.toArray:=by
    rw[mS]
    cases its with
    |nil=>simp
    |cons a r'=>rw[if_neg (by simp)]
   refine wpAny_binaryOp_repeat_ref (T:="list") (U:="int") (by decide) ⟨_,e,rfl⟩ (λs'=>typeIs_int s' k t) noFill_list_mul PySem.F.fills_int_mul PySem.F.slot_int_rmul repeat_list PySem.F.slot_int_index.lookup
    (call_meets PySem.F.slot_int_rmul (typeIs_int s k t) PySem.F.entry_int_rmul (PySem.F.args_int_rmul_2 _ _) (int___rmul___int_list k t l its.toArray n)
     ⟨e,rfl,⟨_,e,rfl⟩,call_meets PySem.F.slot_list_mul ⟨_,e,rfl⟩ PySem.F.entry_list_mul (PySem.F.args_list_mul_2 _ _) (AutoListH.list___mul___list_int_3 l its.toArray n k t hfit hcap hlong) ⟨e,?_⟩⟩)
   rw[hnew]
   exact Z.ok.newL0 (n:=0) hz (d.rep k.toNat) (by rw[uF,a5n];omega)
  ·cases e
 ·next ps k=>
  split at e
  ·next h=>
   cases e
   obtain⟨h0,h1,h2,h3⟩:=h
   obtain⟨l,its,rfl,o1,p1,_,d⟩:=dp.2 rfl;obtain⟨⟨t,rfl⟩,_⟩:=dq
   obtain⟨⟨cls,dd,data,sl⟩,e,hc,n,hd⟩:=id p1
   simp only at hc hd
   subst hc hd
   have hl:=d.length
   have hne:its≠[]:=λw=>by subst w;cases a1m.mp hl.symm;cases h0
   have De:its.length * k.toNat<=1000 * 1000:=Nat.mul_le_mul (by omega) (by omega)
   refine wpAny_binaryOp_repeat_ref (T:="tuple") (U:="int") (by decide) ⟨_,e,rfl⟩ (λs'=>typeIs_int s' k t) ox PySem.F.fills_int_mul PySem.F.slot_int_rmul uc PySem.F.slot_int_index.lookup
    (call_meets PySem.F.slot_int_rmul (typeIs_int s k t) PySem.F.entry_int_rmul (PySem.F.args_int_rmul_2 _ _) (rm k t l its.toArray n dd sl) ⟨e,rfl,⟨_,e,rfl⟩,?_⟩)
   by_cases hk:k=1
   ·subst hk
    refine call_meets PySem.F.slot_tuple_mul ⟨_,e,rfl⟩ PySem.F.entry_tuple_mul (PySem.F.args_tuple_mul_2 _ _) (rx l its.toArray n dd sl t) ⟨e,hz.refl,?_⟩
    rw[show (a0l (1:Int).toNat ps).flatten=ps by simp]
    exact dp.2 rfl
   ·have hsz:((its.toArray.size:Nat):Int) * k=((its.length * k.toNat:Nat):Int):=by
     rw[a0g,Int.natCast_mul,a2i (by omega)]
    refine call_meets PySem.F.slot_tuple_mul ⟨_,e,rfl⟩ PySem.F.entry_tuple_mul (PySem.F.args_tuple_mul_2 _ _) (sj l its.toArray n dd sl k t ?a1 ?a2 ?a3 ?a4 ?a5 ?a6) ⟨e,?_⟩
    case a1=>simp;omega
    case a2=>simp[hne];exact hk
    case a3=>simp[hne];omega
    case a4=>rw[hsz];omega
    case a5=>
     rw[hsz]
     intro hh
     have h2:=of_decide_eq_true hh
     omega
    case a6=>
     rw[mS,a0g,uF,a5n]
     omega
    rw[mS]
    exact Z.ok.newT hz (d.rep k.toNat) (by rw[uF,a5n];omega) s.toks
  ·cases e
 ·cases e
noncomputable def oj:PV->PV->Option RV:=I7 (λ_ j=>0<j/\j<1073741824) λi j=>.int (i / j)
noncomputable def bJ:PV->PV->Option RV:=I7 (λ_ j=>0<j) λi j=>.int (i % j)
noncomputable def KW:PV->PV->Option RV:=I7 (λi j=>0<=j/\j<=1000000/\i.natAbs<2 ^ 64) λi j=>.int (i ^ j.toNat)
noncomputable def OZ:PV->PV->Option RV:=I7 (λ_ j=>0<=j) λi j=>.int (i / 2 ^ j.toNat)
noncomputable def PA:PV->PV->Option RV:=I7 (λi j=>0<=j/\j<=1000000/\i.natAbs<2 ^ 64) λi j=>.int (i * 2 ^ j.toNat)
noncomputable def MT:PV->PV->Option RV:=rI λi j=>.int (Builtin.bitAnd i j)
noncomputable def P0:Operator->PV->PV->Option RV
 |.Add=>b6
 |.Sub=>qm
 |.Mult=>gh
 |.FloorDiv=>oj
 |.Mod=>bJ
 |.Pow=>KW
 |.RShift=>OZ
 |.LShift=>PA
 |.BitAnd=>MT
 |_=>λ_ _=>none
theorem Pa:∀op,zj X (binaryOp op) (P0 op)
 |.Add=>Mv
 |.Sub=>BJ λ_ _ _ _ _ _ _ q=>sub_int q
 |.Mult=>Ml
 |.FloorDiv=>vU λi j _ _ _ _ _ hc q=>floordiv_int (by omega) (by rw[a4d i (by omega)];exact q) (.inl (PyProof.noPylong_small (by omega)))
 |.Mod=>vU λi j _ _ _ _ _ hc q=>mod_int' (by omega) (by rw[Int.fmod_eq_emod_of_nonneg i (by omega)];exact q)
 |.Pow=>vU λ_ _ _ _ _ _ _ hc q=>pow_int_small hc.1 hc.2.1 hc.2.2 q
 |.RShift=>vU λi j _ _ _ _ _ hc q=>rshift_int hc (by rw[a4d i (xU _)];exact q)
 |.LShift=>vU λ_ _ _ _ _ _ _ hc q=>lshift_int_small hc.1 hc.2.1 hc.2.2 q
 |.BitAnd=>BJ λ_ _ _ _ _ _ _ q=>and_int q
 |.BitOr|.BitXor|.Div|.MatMult=>λ_ _ _ _ _ _ _ _ _ _ _ e=>by cases e
noncomputable def kZ:PV->Bool
 |.non=>true
 |_=>false
noncomputable def Ip:PV->PV->Option RV:=Lw λi j=>decide (i<j)
noncomputable def EN:PV->PV->Option RV:=Lw λi j=>decide (i<=j)
noncomputable def Lm:PV->PV->Option RV:=Lw λi j=>decide (j<i)
noncomputable def LA:PV->PV->Option RV:=Lw λi j=>decide (j<=i)
noncomputable def j7 (x y:PV):Option RV:=if bM x&&bM y&&decide (sW x<=50) then some (.fz (.bl (kK x y))) else none
noncomputable def mW (x y:PV):Option RV:=if bM x&&bM y&&decide (sW x<=50) then some (.fz (.bl (!kK x y))) else none
noncomputable def wz (x y:PV):Option RV:=match items y with
 |some ps=>if bM x&&aK ps&&decide (dF ps<=50) then some (.fz (.bl (pin x ps))) else none
 |none=>(OD x y).map λb=>.fz (.bl b)
noncomputable def oo (x y:PV):Option RV:=match items y with
 |some ps=>if bM x&&aK ps&&decide (dF ps<=50) then some (.fz (.bl (!pin x ps))) else none
 |none=>(OD x y).map λb=>.fz (.bl (!b))
noncomputable def LC (x y:PV):Option RV:=match y with
 |.non=>some (.fz (.bl (kZ x)))
 |_=>none
noncomputable def mP (x y:PV):Option RV:=match y with
 |.non=>some (.fz (.bl (!kZ x)))
 |_=>none
noncomputable def sd:CmpOp->PV->PV->Option RV
 |.Lt=>Ip
 |.LtE=>EN
 |.Gt=>Lm
 |.GtE=>LA
 |.Eq=>j7
 |.NotEq=>mW
 |.In=>wz
 |.NotIn=>oo
 |.Is=>LC
 |.IsNot=>mP
theorem yk {z:Z X}{h:Heap}{p:PV}{u:Value}(d:Rd z.cn h p u):(u==Value.none)=kZ p:=by
 cases p with
 |non=>cases (show u=_ from d);rfl
 |bl=>cases (show u=_ from d);rfl
 |ty=>cases (show u=_ from d);rfl
 |fn=>obtain⟨_,_,rfl⟩:=d;rfl
 |int=>obtain⟨t,rfl⟩:=d;rfl
 |str=>obtain⟨t,rfl⟩:=d;rfl
 |set=>exact (show False from d).elim
 |rng=>obtain⟨_,_,_,_,rfl,_⟩:=d;rfl
 |lst=>obtain⟨_,_,_,rfl,_⟩:=d;rfl
 |src=>obtain⟨_,_,_,rfl,_⟩:=d;rfl
 |_=>obtain⟨_,_,rfl,_⟩:=d;rfl
theorem sV (hu:X.A.units+64<cLine):∀op,zj X (compareOp op) (sd op)
 |.Lt=>Fg λ_ _ _ _ _ _ _ h=>lt_int h
 |.LtE=>Fg λ_ _ _ _ _ _ _ h=>le_int h
 |.Gt=>Fg λ_ _ _ _ _ _ _ h=>gt_int h
 |.GtE=>Fg λ_ _ _ _ _ _ _ h=>ge_int h
 |.Eq=>λz s p q u v r E hz dp dq e=>by
  change j7 p q=some r at e
  unfold j7 at e
  split at e
  ·next h=>
   cases e
   simp only[a0b,decide_eq_true_eq] at h
   exact (GW (A:=X.A) h.1.1 h.1.2 (by omega) dp.1 dq.1).1 _ _ _ _ ⟨hz.refl,rfl⟩
  ·cases e
 |.NotEq=>λz s p q u v r E hz dp dq e=>by
  change mW p q=some r at e
  unfold mW at e
  split at e
  ·next h=>
   cases e
   simp only[a0b,decide_eq_true_eq] at h
   exact (GW (A:=X.A) h.1.1 h.1.2 (by omega) dp.1 dq.1).2 _ _ _ _ ⟨hz.refl,rfl⟩
  ·cases e
 |.In=>λz s p q u v r E hz dp dq e=>by
  change wz p q=some r at e
  unfold wz at e
  split at e
  ·next ps h1=>
   split at e
   ·next h=>
    cases e
    simp only[a0b,decide_eq_true_eq] at h
    exact Ix false hu h.1.1 dp.1 dq.1 h1 h.1.2 h.2 ⟨hz.refl,rfl⟩
   ·cases e
  ·obtain⟨b,e1,rfl⟩:=a0d.mp e
   exact Co (A:=X.A) (ng:=false) dp.1 dq.1 e1 λtk=>⟨hz.tok tk,rfl⟩
 |.NotIn=>λz s p q u v r E hz dp dq e=>by
  change oo p q=some r at e
  unfold oo at e
  split at e
  ·next ps h1=>
   split at e
   ·next h=>
    cases e
    simp only[a0b,decide_eq_true_eq] at h
    exact Ix true hu h.1.1 dp.1 dq.1 h1 h.1.2 h.2 ⟨hz.refl,rfl⟩
   ·cases e
  ·obtain⟨b,e1,rfl⟩:=a0d.mp e
   exact Co (A:=X.A) (ng:=true) dp.1 dq.1 e1 λtk=>⟨hz.tok tk,rfl⟩
 |.Is=>λz s p q u v r E hz dp dq e=>by
  change LC p q=some r at e
  unfold LC at e
  split at e
  ·cases e
   cases (show v=Value.none from dq.1)
   exact is_none_gen ⟨hz.refl,by rw[yk dp.1];rfl⟩
  ·cases e
 |.IsNot=>λz s p q u v r E hz dp dq e=>by
  change mP p q=some r at e
  unfold mP at e
  split at e
  ·cases e
   cases (show v=Value.none from dq.1)
   exact isnot_none_gen ⟨hz.refl,by rw[yk dp.1];rfl⟩
  ·cases e
theorem Nh {op:CmpOp}{g:PV->PV->Option RV}(h:zj X (compareOp op) g)(ha:NE X a fa)(hb:NE X b fb)(hm:behindInMarks op b=false):NE X (.Compare a [op] [b] pos) (ak g fa fb):=λz s r E hz q=>by
 obtain⟨x,y,ex,ey,eg⟩:=ze q
 exact wpAny_Compare1 (two ha hb hz ex ey λu v s2 g2 d1 d2=>aV (h z s2 _ _ u v r E g2.1 d1.rv d2.rv eg) λw s3 q3=>g2.post q3) hm
noncomputable def Bw:Option RV->Option Bool
 |some (.fz (.bl b))=>some b
 |_=>none
noncomputable def fT (f:FE):FB:=λρ=>Bw (f ρ)
theorem hU {o:Option RV}{b:Bool}(h:Bw o=some b):o=some (.fz (.bl b)):=by
 unfold Bw at h
 split at h
 ·cases h;rfl
 ·cases h
theorem Nq {op:CmpOp}{g:PV->PV->Option RV}(h:zj X (compareOp op) g)(ha:NE X a fa)(hb:NE X b fb)(hm:behindInMarks op b=false):NB X (.Compare a [op] [b] pos) (fT (ak g fa fb)):=λz s k E hz q=>by
 obtain⟨x,y,ex,ey,eg⟩:=ze (hU q)
 exact wpAny_isTrue_Compare1 (two ha hb hz ex ey λu v s2 g2 d1 d2=>aV (h z s2 _ _ u v _ E g2.1 d1.rv d2.rv eg) λw s3 q3=>by
  cases (show w=Value.bool k from q3.2)
  exact wpAny_truthy_bool ⟨rfl,g2.trans q3.1⟩) hm
theorem Ig (h:NE X e f)(hv:∀whole,isTrue e X.env whole=(do let v ←whole;standAt e.pos;holding [v] (truthy v))):NB X e (fT f):=λz s k E hz q=>
 isTrue_plain (aV (h z s _ E hz (hU q)) λv s1 q1=>by
  cases (show v=Value.bool k from q1.2)
  exact wpAny_truthy_bool ⟨rfl,q1.1⟩) (hv _)
noncomputable def e8 (g:FB):FB:=λρ=>(g ρ).map λb=>!b
noncomputable def j5 (g k:FB):FB:=λρ=>(g ρ).bind λb=>if b=true then k ρ else some false
noncomputable def oy (g k:FB):FB:=λρ=>(g ρ).bind λb=>if b=true then some true else k ρ
theorem Jn (ha:NB X a ba):NW X (.BoolOp .And [a] pos) ba:=λz wh s k E hz q=>by
 refine isTrue_and (aV (ha z s k E hz q) λc s1 e=>?_)
 cases c with
 |true=>exact isTrue_and_nil e
 |false=>exact e
theorem NT (ha:NB X a ba):NW X (.BoolOp .Or [a] pos) ba:=λz wh s k E hz q=>by
 refine isTrue_or (aV (ha z s k E hz q) λc s1 e=>?_)
 cases c with
 |false=>exact isTrue_or_nil e
 |true=>exact e
theorem Nc (ha:NB X a ba)(hb:NW X (.BoolOp .And (b::gl) pos) bb):NW X (.BoolOp .And (a::b::gl) pos) (j5 ba bb):=λz wh s k E hz q=>by
 obtain⟨c0,e0,q⟩:=a0a.mp q
 refine isTrue_and (aV (ha z s c0 E hz e0) λc s1 ⟨e,g1⟩=>?_)
 subst e
 cases c with
 |true=>exact aV (hb z wh s1 k E g1.1 q) λd s2 ⟨e2,g2⟩=>⟨e2,g1.trans g2⟩
 |false=>cases q;exact⟨rfl,g1⟩
theorem Pd (ha:NB X a ba)(hb:NW X (.BoolOp .Or (b::gl) pos) bb):NW X (.BoolOp .Or (a::b::gl) pos) (oy ba bb):=λz wh s k E hz q=>by
 obtain⟨c0,e0,q⟩:=a0a.mp q
 refine isTrue_or (aV (ha z s c0 E hz e0) λc s1 ⟨e,g1⟩=>?_)
 subst e
 cases c with
 |false=>exact aV (hb z wh s1 k E g1.1 q) λd s2 ⟨e2,g2⟩=>⟨e2,g1.trans g2⟩
 |true=>cases q;exact⟨rfl,g1⟩
theorem Mk (ha:NB X a ba):NB X (.UnaryOp .Not a pos) (e8 ba):=λz s k E hz q=>by
 obtain⟨c,e,rfl⟩:=a0d.mp q
 exact isTrue_not (aV (ha z s c E hz e) λd s1 ⟨e1,g1⟩=>⟨by rw[e1],g1⟩)
noncomputable def rH (f:FE):FE:=λρ=>(f ρ).bind λr=>r.fr.map .fz
theorem BL (h:NE X e f):NE X e (rH f):=λz s r E hz q=>by
 obtain⟨x,ex,q⟩:=a0a.mp q
 obtain⟨p,ep,rfl⟩:=a0d.mp q
 exact aV (h z s x E hz ex) λu s1 q1=>⟨q1.1,q1.2.fr ep⟩
noncomputable def iY (f g:FE):FE:=λρ=>(Bw (f ρ)).bind λb=>if b=true then rH g ρ else some (.fz (.bl false))
noncomputable def Oe (f g:FE):FE:=λρ=>(Bw (f ρ)).bind λb=>if b=true then some (.fz (.bl true)) else rH g ρ
noncomputable def zf (f:FE):FE:=λρ=>(Bw (f ρ)).map λb=>.fz (.bl (!b))
theorem Ms {op}(h:NE X a fa):NE X (.BoolOp op [a] pos) (rH fa):=λz s r E hz q=>BoolOp_one (BL h z s r E hz q)
theorem LU (ha:NE X a fa)(hb:NE X (.BoolOp .And (b::gl) pos) fb):NE X (.BoolOp .And (a::b::gl) pos) (iY fa fb):=λz s r E hz q=>by
 obtain⟨k,ek,q⟩:=a0a.mp q
 refine BoolOp_and (aV (ha z s _ E hz (hU ek)) λv s1 q1=>?_)
 cases (show v=Value.bool k from q1.2)
 refine wpAny_truthy_bool ?_
 cases k with
 |true=>exact aV (BL hb z s1 r E q1.1.1 q) λw s2 q2=>q1.1.post q2
 |false=>cases q;exact⟨q1.1,rfl⟩
theorem ON (ha:NE X a fa)(hb:NE X (.BoolOp .Or (b::gl) pos) fb):NE X (.BoolOp .Or (a::b::gl) pos) (Oe fa fb):=λz s r E hz q=>by
 obtain⟨k,ek,q⟩:=a0a.mp q
 refine BoolOp_or (aV (ha z s _ E hz (hU ek)) λv s1 q1=>?_)
 cases (show v=Value.bool k from q1.2)
 refine wpAny_truthy_bool ?_
 cases k with
 |false=>exact aV (BL hb z s1 r E q1.1.1 q) λw s2 q2=>q1.1.post q2
 |true=>cases q;exact⟨q1.1,rfl⟩
theorem L5 (ha:NE X a fa):NE X (.UnaryOp .Not a pos) (zf fa):=λz s r E hz q=>by
 obtain⟨k,ek,rfl⟩:=a0d.mp q
 refine UnaryOp_ (aV (ha z s _ E hz (hU ek)) λv s1 q1=>?_)
 cases (show v=Value.bool k from q1.2)
 exact not_of (wpAny_truthy_bool ⟨q1.1,rfl⟩)
noncomputable def Fe (o:Option PV):Option RV:=match o with
 |some (.int i)=>some (.fz (.int (-i)))
 |_=>none
noncomputable def qb (f:FE):FE:=λρ=>(f ρ).bind λr=>Fe r.fr
theorem Hz (ha:NE X a fa):NE X (.UnaryOp .USub a pos) (qb fa):=λz s r E hz q=>by
 obtain⟨x,ex,q⟩:=a0a.mp q
 unfold Fe at q
 split at q
 ·next i h=>
  cases q
  refine UnaryOp_ (aV (ha z s _ E hz ex) λv s1 q1=>?_)
  obtain⟨t,rfl⟩:=q1.2.fr h
  exact neg_int (q1.1.post ⟨q1.1.1.tok _,_,rfl⟩)
 ·cases q
noncomputable def N6 (g:FB)(f k:FE):FE:=λρ=>(g ρ).bind λb=>if b=true then rH f ρ else rH k ρ
theorem Pl {t:Expr}(hc:NB X t ba)(ha:NE X a fa)(hb:NE X b fb):NE X (.IfExp t a b pos) (N6 ba fa fb):=λz s r E hz q=>by
 obtain⟨k,ek,q⟩:=a0a.mp q
 refine wpAny_IfExp (aV (hc z s k E hz ek) λd s1 ⟨e,g1⟩=>?_)
 subst e
 cases d with
 |true=>exact aV (BL ha z s1 r E g1.1 q) λw s2 q2=>g1.post q2
 |false=>exact aV (BL hb z s1 r E g1.1 q) λw s2 q2=>g1.post q2
noncomputable def EJ (g g':PV->PV->Option RV)(a b c:FE):FE:=λρ=>(a ρ).bind λx=>(b ρ).bind λy=>(Bw (g x.pv y.pv)).bind λk=>if k=true then (c ρ).bind λz=>g' y.pv z.pv else some (.fz (.bl false))
noncomputable def af:FA:=λ_=>some []
noncomputable def aa (f:FE)(fs:FA):FA:=λρ=>(f ρ).bind λr=>(fs ρ).bind λrs=>some (r::rs)
theorem RvsOk.ext {z:Z X}{h0 h h':Heap}{rs:List RV}{us:List Value}(d:RvsOk z h0 h rs us)(e:Ext z.bad h h'):RvsOk z h0 h' rs us:=by
 induction d with
 |nil=>exact .nil
 |cons a _ ih=>exact .cons (a.ext e) ih
theorem RvsOk.old {z:Z X}{h0 h h':Heap}{rs:List RV}{us:List Value}(d:RvsOk z h0 h rs us)(e:∀a,h0.get? a=none->h'.get? a=none):RvsOk z h' h rs us:=by
 induction d with
 |nil=>exact .nil
 |cons a _ ih=>exact .cons (a.old e) ih
theorem qr:NA X [] af:=λz pos s rs E hz q=>by cases q;exact Calls.spliced_nil ⟨hz.refl,.nil⟩
theorem yg (ha:NE X e f)(hr:NA X es fs)(hs:starEach (e::es) X.env=(false,eval e X.env)::starEach es X.env):NA X (e::es) (aa f fs):=λz pos s rs E hz q=>by
 obtain⟨r,er,q⟩:=a0a.mp q
 obtain⟨rs',ers,q⟩:=a0a.mp q
 cases q
 rw[hs]
 show W X (spliced ((false,eval e X.env)::backTo pos (starEach es X.env))) _ _ s
 refine Calls.spliced_cons (aV (ha z s r E hz er) λu s1 q1=>?_)
 exact aV (hr z pos s1 rs' E q1.1.1 ers) λus s2 q2=>⟨q1.1.trans q2.1,.cons (q1.2.ext q2.1.2) (q2.2.old λ_=>Ext.back q1.1.2)⟩
theorem RvsOk.fr {z:Z X}{h0 h:Heap}{rs:List RV}{us:List Value}(d:RvsOk z h0 h rs us):∀{ps:List PV},rs.mapM RV.fr=some ps->Ds z.cn h ps us:=by
 induction d with
 |nil=>intro ps e;cases e;rfl
 |cons a _ ih=>
  intro ps e
  rw[List.mapM_cons] at e
  obtain⟨p,e1,e⟩:=a0a.mp e
  obtain⟨qs,e2,e⟩:=a0a.mp e
  cases e
  exact .cons (a.fr e1) (ih e2)
inductive Rvs (z:Z X) (h:Heap):List PV->List Value->Prop where
 |nil:Rvs z h [] []
 |cons {p:PV} {u:Value} {ps:List PV} {us:List Value}:Rv z h p u->Rvs z h ps us->Rvs z h (p::ps) (u::us)
theorem RvsOk.rv {z:Z X}{h0 h:Heap}{rs:List RV}{us:List Value}(d:RvsOk z h0 h rs us):Rvs z h (rs.map RV.pv) us:=by
 induction d with
 |nil=>exact .nil
 |cons a _ ih=>exact .cons a.rv ih
noncomputable def bV (fs:FA):FE:=λρ=>(fs ρ).bind λrs=>(rs.mapM RV.fr).bind λps=>if ps.length<=100000 then some (.fz (.tup ps)) else none
noncomputable def im (fs:FA):FE:=λρ=>(fs ρ).bind λrs=>(rs.mapM RV.fr).bind λps=>if ps.length<=100000 then some (.nw ps) else none
theorem MR {k}(h:NA X es fs):NE X (.Tuple es k pos) (bV fs):=λz s r E hz q=>by
 obtain⟨rs,e1,q⟩:=a0a.mp q
 obtain⟨ps,e2,q⟩:=a0a.mp q
 split at q
 ·next hl=>
  cases q
  refine wpAny_Tuple_spliced (aV (h z pos s rs E hz e1) λus s1 ⟨g1,d1⟩=>?_)
  have d:=d1.fr e2
  have l:=d.length
  have lb:us.length<=sizeLine:=by rw[l];exact big hl
  exact⟨lb,g1.post (Z.ok.newT g1.1 d lb s1.toks)⟩
 ·cases q
theorem N8 (h:NA X es fs):NE X (.List es pos) (im fs):=λz s r E hz q=>by
 obtain⟨rs,e1,q⟩:=a0a.mp q
 obtain⟨ps,e2,q⟩:=a0a.mp q
 split at q
 ·next hl=>
  cases q
  refine wpAny_List_spliced (aV (h z pos s rs E hz e1) λus s1 ⟨g1,d1⟩=>?_)
  have d:=d1.fr e2
  have l:=d.length
  have lb:us.length<=sizeLine:=by rw[l];exact big hl
  exact⟨lb,g1.post (Z.ok.newL0 (n:=0) g1.1 d lb)⟩
 ·cases q
end
end Dp
end
section
namespace L2
open PySem PySem.Spec PyProof.Rows PySem.W
theorem p5 {α:Type}(d:α):∀(xs:List α),(a0m xs.length).map (λi=>xs.getD i d)=xs:=λxs=>by
 apply a4w
 ·simp
 ·intro i h1 h2
  rw[a4c,a3u]
  simp[h2]
end L2
end
section
namespace L2
open PySem PySem.Spec PyProof.Rows
noncomputable def Cp (K:PySem.W.Frag)(mg:Str->Option Value)(x:Str)(st:Stmt)(ps:List Str):Prop:=∃f fd,Fun K x x st f fd/\(∀us:List Value,us.length=ps.length->bindArgs fd ⟨us,[]⟩=pure (ps.zip us))/\mg x=some (.ref f)
section
variable {P:Program}{w:World}{K:PySem.W.Frag}{mg:Str->Option Value}{base:Heap}
end
theorem Gm {K:PySem.W.Frag}{mg:Str->Option Value}{x:Str}{st:Stmt}{f:Addr}{oc:Value}{od an:Option Addr}{osl:Array (Option Value)}{kV doc pm cdv ct:Value}{ps:List Str}(l:K.lookup f=some ⟨oc,od,.func (PySem.W.fnOf x x (gK st) (ci st) (ah st) .none kV doc pm an cdv ct),osl⟩)
  (c:PySem.W.codeIn K cdv x=true) (k:PySem.W.keepIn K (.ref f)=true) (m:mg x=some (.ref f))
  (h:∀(kV doc pm:Value) (an:Option Addr) (cdv ct:Value) (us:List Value),us.length=ps.length->bindArgs (PySem.W.fnOf x x (gK st) (ci st) (ah st) .none kV doc pm an cdv ct) ⟨us,[]⟩=pure (ps.zip us)):Cp K mg x st ps:=
 ⟨f,_,KJ l c k,h kV doc pm an cdv ct,m⟩
noncomputable def la (H:Hp):V->Option (List V)
 |.ref a=>match H a with
  |some (.lst xs)=>some xs
  |_=>none
 |_=>none
theorem I2:bootBuiltins "len" = some (.builtin "len"):=by decide +kernel
theorem KK:bootBuiltins "abs" = some (.builtin "abs"):=by decide +kernel
theorem Ec:bootBuiltins "max" = some (.builtin "max"):=by decide +kernel
theorem DV:bootBuiltins "min" = some (.builtin "min"):=by decide +kernel
theorem IH:bootBuiltins "all" = some (.builtin "all"):=by decide +kernel
theorem Lg:bootBuiltins "any" = some (.builtin "any"):=by decide +kernel
theorem si:bootBuiltins "isinstance" = some (.builtin "isinstance"):=by decide +kernel
theorem tN:bootBuiltins "sorted" = some (.builtin "sorted"):=by decide +kernel
theorem JM:bootBuiltins "sum" = some (.builtin "sum"):=by decide +kernel
theorem CC:bootBuiltins "int" = some (.type "int"):=by decide +kernel
theorem Ha:bootBuiltins "bool" = some (.type "bool"):=by decide +kernel
theorem Cu:bootBuiltins "str" = some (.type "str"):=by decide +kernel
theorem tV:bootBuiltins "list" = some (.type "list"):=by decide +kernel
theorem p7:bootBuiltins "tuple" = some (.type "tuple"):=by decide +kernel
theorem Hb:bootBuiltins "dict" = some (.type "dict"):=by decide +kernel
theorem Ey:bootBuiltins "range" = some (.type "range"):=by decide +kernel
section
variable {X:Cx}{K:PySem.W.Frag}(h:X.K=K)
include h
end
noncomputable def NS (e:Expr):Prop:=∀(es:List Expr) (env:Env),starEach (e::es) env=(false,eval e env)::starEach es env
theorem ui:bootBuiltins "enumerate" = some (.type "enumerate"):=by decide +kernel
end L2
end
section
namespace L2
open PySem PySem.Spec PyProof.Rows PySem.SeqAt
end L2
end
section
namespace L2
open PySem PySem.Spec PyProof.Rows PySem.W
noncomputable def AX {α:Type}(c:Nat->Nat->Bool):KasT α->α
 |.ret a=>a
 |.ask i j k=>AX c (k (c i j))
theorem Ea {α:Type}{n:Nat}{P:α->Prop}{cmp:Nat->Nat->(Bool->Shared->Prop)->Shared->Prop}{Q:α->Shared->Prop}{s:Shared}(lt:Nat->Nat->Bool)(hc:∀i j C,i<n->j<n->C (lt i j) s->cmp i j C s) :
  ∀{t:KasT α},Leaf n P t->(P (AX lt t)->Q (AX lt t) s)->t.kasWp cmp Q s
 |.ret a,h,hq=>hq h
 |.ask i j k,h,hq=>hc i j _ h.1 h.2.1 (Ea lt hc (h.2.2 (lt i j)) hq)
noncomputable def Et (fin:Bool):List (Int×Int)->Bool
 |[]=>fin
 |(x,y)::r=>if x=y then Et fin r else decide (x<y)
noncomputable def Op (xs ys:List Int):Bool:=Et (decide (xs.length<ys.length)) (xs.zip ys)
noncomputable def BX (ks:List (List Int)):List Nat:=if ks.length<2 then a0m ks.length else (AX (λi j=>Op (ks.getD i []) (ks.getD j [])) (kas_sort ks.length)).toList
section
variable {X:Cx}{pins:List (Addr×Obj)}{σ:St}{H:Hp}{s:Shared}
theorem Ev {prog:Program}{w:World}{A:Around}{fin:Bool}{C:Bool->Shared->Prop}{s':Shared}:∀{xs ys:List Int} {us vs:List Value} {k:Nat},Vals (xs.map V.int) us->Vals (ys.map V.int) vs->C (Et fin (xs.zip ys)) s'->KatLex prog w A true fin C (us.zip vs) k s'
 |[],ys,us,vs,k,r1,r2,h=>by cases r1;exact kat_nil h
 |x::xs,[],us,vs,k,r1,r2,h=>by cases r2;cases us<;>exact kat_nil h
 |x::xs,y::ys,us,vs,k,r1,r2,h=>by
  cases r1 with
  |cons a1 r1=>
   cases r2 with
   |cons a2 r2=>
    obtain⟨t,rfl⟩:=a1
    obtain⟨u,rfl⟩:=a2
    rw[a4q] at h ⊢
    rw[Et] at h
    refine kat_cons (wpAny_eqBool_int ?_)
    by_cases e:x=y
    ·rw[if_pos e] at h
     rw[show (x==y)=true by rw[e];exact beq_self_eq_true _]
     exact kat_yes (Ev r1 r2 h)
    ·rw[if_neg e] at h
     rw[show (x==y)=false from beq_eq_false_iff_ne.mpr e]
     refine kat_no ?_
     by_cases hk:k=0
     ·subst hk;exact oneLt_int h
     ·rw[show (true&&k==0)=false by simp[hk]]
      exact kat_one _ _ (lt_int h)
end
end L2
end
section
namespace L2
open PySem PySem.Spec PyProof.Rows
noncomputable def LI (b:Bool):Nat:=if b then 1 else 0
theorem xN:typeLookup (.type "bool") "__index__" = pure (some (.builtin "int.__index__")):=by
 rw[typeLookup_type,builtinLookup_eq_fast]
 kernel_rfl
section
variable {P:Program}{w:World}{A:Around}{E:Value->Shared->Prop}{s:Shared}{b:Bool}
theorem Ek {Q:Option Int->Shared->Prop}(h:Q (some (LI b:Int)) s):wpAny (model P w) A (Builtin.List.listSubscript? (.bool b)) Q E s:=by
 have e:=PySem.typeIs_bool s b
 unfold Builtin.List.listSubscript?
 refine wpAny_bind (wpAny_specialOf (T:="bool") e xN ?_)
 refine (?_:wpAny _ _ (asIndex (.bool b) >>= _) _ _ _)
 refine wpAny_bind (wpAny_of_eq (a:=(LI b:Int)) (by cases b<;>rfl) ?_)
 cases b<;>exact wpAny_pure h
theorem AH {l:Addr}{xs:Array Value}{x:Value}{Q:Value->Shared->Prop}(hl:s.heap.IsList l xs)(hx:xs[LI b]?=some x)(h:Q x s):wpAny (model P w) A (getItem (.ref l) (.bool b)) Q E s:=by
 have ty:=hl.typeIs
 obtain⟨o,ho,hc,ne,hd⟩:=hl
 unfold getItem
 try with_reducible refine wpAny_holding ?_
 first|refine wpAny_bind (wpAny_pure ?_)|skip
 refine wpAny_bind (wpAny_sequenceKey ty (by decide) ?_)
 have ar:=args_list_getitem (.ref l) (.bool b)
 refine wpAny_bind (wpAny_callSpecial?_slot (name:=Str.ofString "__getitem__") ty slot_list_getitem (wpAny_call_entry slot_list_getitem ty entry_list_getitem ?_ ar))
 refine (?_:wpAny _ _ (Builtin.List.listSubscript? (.bool b) >>= _) _ _ s)
 refine wpAny_bind (Ek ?_)
 refine (?_:wpAny _ _ ((seqItemAt l (LI b) >>= λr=>pure (r.map (LI b,·))) >>= _) _ _ s)
 refine wpAny_bind (wpAny_bind (wpAny_seqItemAt ho hd (wpAny_pure ?_)))
 rw[hx]
 first
  |exact wpAny_pure ⟨x,rfl,wpAny_pure h⟩
  |exact wpAny_bind (wpAny_pure (wpAny_pure ⟨x,rfl,wpAny_pure h⟩))
end
theorem se (its:List Value):slicePick its.toArray none none (some (-1))=its.reverse.toArray:=by
 have e:sliceBounds none none (some (-1)) its.toArray.size=((its.length:Int) - 1,-1,-1):=by simp[sliceBounds]
 have r:sliceRange ((its.length:Int) - 1) (-1) (-1)=(a0m its.length).map λ(k:Nat)=>(((its.length:Nat):Int) - 1+(-1) * (k:Int)).toNat:=by
  unfold sliceRange
  have c:(if (-1:Int) > 0 then (if (its.length:Int) - 1 < -1 then (-1 - ((its.length:Int) - 1) + -1 - 1) / -1 else 0) else (if (its.length:Int) - 1 > -1 then ((its.length:Int) - 1 - -1 - -1 - 1) / (- -1) else 0)).toNat=its.length:=by
   rw[if_neg (by decide)]
   by_cases h:(its.length:Int) - 1 > -1
   ·rw[if_pos h,show (- -1:Int)=1 by decide,a5l];omega
   ·rw[if_neg h];omega
  simp only[c]
 unfold slicePick
 rw[e]
 show (List.filterMap _ (sliceRange ((its.length:Int) - 1) (-1) (-1))).toArray=_
 rw[r,a5g,←HT.pick_rev]
 congr 2
 funext k
 show its.toArray[(((its.length:Nat):Int) - 1+(-1) * (k:Int)).toNat]?=_
 rw[Int.mul_comm]
end L2
end
section
namespace L2
open PySem PyProof.Rows PySem.W
noncomputable abbrev gp (p:Array Nat)(k:Nat):Nat:=p.getD k 0
section
variable {n:Nat}{lt:Nat->Nat->Bool}{p:Array Nat}
end
end L2
end
section
namespace L2
open PySem PySem.Spec PyProof.Rows PySem.W
noncomputable def DY (is:List Int):List Int:=is.mergeSort λa b=>decide (a<=b)
theorem sD (is:List Int):(DY is).Perm is:=List.mergeSort_perm ..
theorem GQ (is:List Int):(DY is).Pairwise (·<=·):=by
 have:=List.pairwise_mergeSort (le:=λa b:Int=>decide (a<=b)) (λa b c h1 h2=>by simp only[decide_eq_true_eq] at *;omega) (λa b=>by simp only[a4o,decide_eq_true_eq];omega) is
 exact this.imp λh=>by simpa using h
theorem FV {is js:List Int}(p:js.Perm is)(u:js.Pairwise (·<=·)):js=DY is:=
 List.Perm.eq_of_pairwise (λa b _ _ h1 h2=>a4e h1 h2) u (GQ is) (p.trans (sD is).symm)
theorem nF {is:List Int}{vs:List Value}(h:IntsAre vs is):Vals (is.map V.int) vs:=by
 induction h with
 |nil=>exact .nil
 |cons n t _ ih=>exact .cons ⟨t,rfl⟩ ih
theorem xi {prog:Program}{w:World}{A:Around}{E:Value->Shared->Prop}{s:Shared}{p:Addr}{T:String}{o:Obj}{vs:List Value}{n:Nat}{is:List Int}{Q:Value->Shared->Prop}(hT:T = "list"\/T = "tuple")
  (ho:s.heap.get? p=some o) (hc:o.cls=.type T) (hd:o.data=.seq vs.toArray n) (hi:IntsAre vs is) (h64:vs.length<64)
  (h:∀(h1 h':Heap) (D:Addr) (out:List Value) (js:List Int) (e:Nat),(∀b u,s.heap.get? b=some u->h1.get? b=some u)->(∀b u,h1.get? b=some u->h'.get? b=some u)->h1.objs.size<=D->h'.get? D=some (seqObj "list" out.toArray e)->IntsAre out js->js.Perm is->js.Pairwise (·<=·)->Q (.ref D) { s with heap:=h' }) :
  wpAny (model prog w) A (call (.builtin "sorted") [.ref p]) Q E s:=by
 refine Calls.call_function_entry kind_sorted plain_sorted entry_sorted (args_sorted1 _) ?_
 unfold Builtin.«sorted»
 refine wpAny_bind (m:=checkCount "sorted" 1 1 _) (wpAny_pure (wpAny_bind (wpAny_collect_seq p hT ho hc hd (λh' keep=>wpAny_bind (wpAny_newList ?_ (by show vs.length<=_;rw[sizeLine_eq];omega))) (by rw[a0g,sizeLine_eq];omega))))
 have hoL:(h'.push (seqObj "list" vs.toArray 0)).get? h'.objs.size=some (seqObj "list" vs.toArray 0):=Heap.get?_push_size _ rfl
 show wpAny _ _ _ _ _ { s with heap:=h'.push (seqObj "list" vs.toArray 0) }
 refine wpAny_bind (wpAny_holding (wpAny_call_entry slot_list_sort ⟨_,hoL,rfl⟩ entry_list_sort (list_sort_tree hoL hi h64 λout ns h1 h2 h3=>⟨_,rfl,?_⟩) (args_list_sort _)))
 obtain⟨e,he⟩:=sortedHeap_at (vs:=vs) (out:=out) hoL
 exact wpAny_pure ⟨_,rfl,h h' _ _ out.toList ns e keep (λb u z1=>by
  have z2:=Heap.get?_push_of_some (seqObj "list" vs.toArray 0) z1
  rw[sortedHeap_old (a1d (Heap.lt_size z1)) (Heap.lt_size z2)];exact z2) (a0r _) (by rw[he]) h1 h2 h3⟩
section
variable {prog:Program}{w:World}{A:Around}{E:Value->Shared->Prop}{s:Shared}
noncomputable abbrev D3 (a c:Int):Nat->Value->Prop:=λi v=>∃t,v=.int (a+i * c) t
theorem wV {Q:List Value->Shared->Prop}{r:Addr}{a b c:Int}{t u v:Tok}{n:Nat}(hh:A.handled=none)(hr:IsRange s.heap r a b c t u v)(h1:Builtin.Range.small a b c=true)(h2:Builtin.Range.rangeSize a b c=n)(h3:n<=2 ^ 24)
  (hQ:∀h' tk acc,(∀x o,s.heap.get? x=some o->h'.get? x=some o)->ItemsOf (D3 a c) acc n->Q acc.toList { s with heap:=h',toks:=tk }):wpAny (model prog w) A (collect (.ref r)) Q E s:=by
 unfold collect;refine wpAny_bind (wpAny_runValue (codeAny_builtin F.entry_proto_collect ?_));rw[Around.under_plainId F.plain_proto_collect _]
 show wpAny _ A.in1 (newList [] >>= λz=>again (.builtin "list.__iadd__" ⟨[z,.ref r],[]⟩)) _ _ s
 refine wpAny_bind (wpAny_newObj_type (wpAny_pure ⟨plainId_quiet F.plain_list_iadd _,codeAny_builtin F.entry_list_iadd ?_⟩))
 rw[Around.under_plainId F.plain_list_iadd _];show wpAny _ A.in1 (Builtin.List.listExtendWith (.ref s.heap.objs.size) (.ref r) (.ref s.heap.objs.size)) _ _ _
 have hS0:(s.heap.push { cls:=.type "list",data:=.seq ([]:List Value).toArray }).get? s.heap.objs.size=some { cls:=.type "list",data:=.seq #[] }:=Heap.get?_push_size _ rfl
 have hr0:=Heap.get?_push_of_some { cls:=.type "list",data:=.seq ([]:List Value).toArray } hr
 refine wpAny_extend_range (R:=λz s'=>match z with
  |.ok (.ret v)=>wpAny (model prog w) A (match v with
   |.ref a=>do
    let o ←load a
    match o.data with
     |.seq xs _=>pure xs.toList
     |_=>unsupported "internal:collect"
   |_=>unsupported "internal:collect") Q E s'
  |.ok _=>False
  |.error e=>E e s') (s:={ s with heap:=s.heap.push { cls:=.type "list",data:=.seq ([]:List Value).toArray } }) hh hr0 h1 h2 h3 s.heap.objs.size _ 0 hS0 λh' tk acc c' hk hS hacc=>?_
 show wpAny _ A (load s.heap.objs.size >>= λ_=>_) _ _ _
 refine wpAny_bind (wpAny_load hS (wpAny_pure (hQ h' tk acc (λx o e=>?_) hacc)))
 exact hk x o (a1d (Heap.lt_size e)) (Heap.get?_push_of_some _ e)
end
theorem rZ (r:Addr){a b c:Int}{t u v:Tok}{n:Nat}(h1:Builtin.Range.small a b c=true)(h2:Builtin.Range.rangeSize a b c=n)(h3:n<=2 ^ 24) :
  Meets (Builtin.«tuple.__new__» ⟨[.type "tuple",.ref r],[]⟩) (λA R s=>(A.handled=none/\IsRange s.heap r a b c t u v)/\∀(h':Heap) (tk:Nat) (acc:Array Value),(∀x o,s.heap.get? x=some o->h'.get? x=some o)->ItemsOf (D3 a c) acc n →
   R (.ok (.ret (.ref h'.objs.size))) { s with heap:=h'.push { cls:=.type "tuple",data:=.seq acc },toks:=tk }):=
 .of_wp λprog w A R s h=>by
  obtain⟨⟨hh,hr⟩,h⟩:=h
  have hsub:=sub_tuple_self
  have hinit:=init_tuple_lookup
  have hmh:=madeHere_tuple
  have hT:s.TypeIs (.ref r) "range":=⟨_,hr,rfl⟩
  have hh1:A.in1.handled=none:=hh
  wp_walk using wpAny_typeOf hT,wV hh1 hr h1 h2 h3
  intro h' tk acc hk hacc
  show wpAny _ _ (Builtin.Tuple.tupleExact acc.toList.toArray >>= λz=>ret z) _ _ _
  unfold Builtin.Tuple.tupleExact
  have e:acc.toList.toArray=acc:=by simp
  have hz:acc.toList.toArray.size<=sizeLine:=by rw[e,hacc.1,sizeLine_eq];omega
  refine wpAny_bind (wpAny_newObj_type (wpAny_pure ⟨_,rfl,?_⟩) hz)
  rw[e]
  exact h h' tk acc hk hacc
end L2
end
section
namespace L2
open PySem PySem.Spec PyProof.Rows _root_.HT
theorem sn {prog:Program}{w:World}{A:Around}{E:Value->Shared->Prop}{s:Shared}{t z:Addr}{items:Array Value}{vl vu:Value}{lo hi:Option Int}{Q:Value->Shared->Prop}(ht:IsTup s.heap t items)(hs:s.heap.IsSliceOf z vl vu .none)(pl:IsPart vl lo)(pu:IsPart vu hi)
  (hw:_root_.HT.sIx items.size 0 lo=0/\_root_.HT.sIx items.size items.size hi=items.size) (h:Q (.ref t) s):wpAny (model prog w) A (getItem (.ref t) (.ref z)) Q E s:=by
 obtain⟨os,hos,hcs,hds⟩:=id hs
 have hTs:s.TypeIs (.ref z) "slice":=⟨os,hos,hcs⟩
 unfold getItem;try with_reducible refine wpAny_holding ?_
 first|(refine wpAny_bind (wpAny_pure ?_);skip)|skip
 refine wpAny_bind (wpAny_sequenceKey ht.typeIs (by decide) (wpAny_bind (wpAny_callSpecial?_slot (name:=Str.ofString "__getitem__") ht.typeIs PyProof.Rows.slot_tuple_getitem (wpAny_call_entry PyProof.Rows.slot_tuple_getitem ht.typeIs entry_tuple_getitem ?_ (args_tuple_getitem _ _)))))
 show wpAny _ _ (Builtin.Tuple.tupleItemsOf (.ref t) >>= λ_=>_) _ _ s
 refine wpAny_bind (tupleItemsOf_ ht (wpAny_bind (wpAny_typeOf hTs ?_)))
 rw[if_pos (by decide)];refine wpAny_bind (jO hs pl pu ?_)
 rw[hw.1,hw.2]
 have yes:(((0:Nat):Int)==0&&(1:Int)==1&&(items.size - 0)==items.size)=true:=by simp
 show wpAny _ _ (if (((0:Nat):Int)==0&&(1:Int)==1&&(items.size - 0)==items.size)=true then _ else _) _ _ s
 rw[if_pos yes]
 refine wpAny_bind ?_
 unfold Builtin.Tuple.tupleIsExact
 refine wpAny_bind (wpAny_typeOf ht.typeIs (wpAny_pure ?_))
 rw[if_pos (by decide)]
 exact wpAny_bind (wpAny_rule (wpAny_pure ⟨_,rfl,wpAny_pure h⟩))
end L2
end
section
namespace Dp
open PySem PySem.Spec L2 PyProof.Rows
section
variable {X:Cx}{e a b c:Expr}{es gl:List Expr}{pos:Pos}{f fa fb fc:FE}{fs:FA}{i:Nat}{ba bb:FB}
noncomputable def OS (X:Cx)(g:PV->PV->Option RV):Prop:=∀(value slice:Expr) (z:Z X) s p q u v r E,z.ok s->Rv z s.heap p u->Rv z s.heap q v->g p q=some r->subscripted slice false u v=operate [u,v] (getItem u v)->W X (subscriptTail value slice u v) (Z.post z s r) E s
theorem M2 {g:PV->PV->Option RV}(h:OS X g)(ha:NE X a fa)(hb:NE X b fb)(hs:Ae b):NE X (.Subscript a b pos) (ak g fa fb):=λz s r E hz q=>by
 obtain⟨x,y,ex,ey,eg⟩:=ze q
 exact Subscript_ (two ha hb hz ex ey λu v s2 g2 d1 d2=>aV (h a b z s2 _ _ u v r E g2.1 d1.rv d2.rv eg (hs _ _)) λw s3 q3=>g2.post q3)
noncomputable def bo:PV->PV->Option RV
 |.str z,.int i=>if z.length<=100000 then (L2.c8 z.cps.toList i).map λc=>.fz (.str ⟨#[c]⟩) else none
 |.dct ks ps,q=>(jI q).bind λk=>(o6 ks ps k).map .fz
 |p,.int i=>(items p).bind λps=>(L2.c8 ps i).map .fz
 |_,_=>none
theorem As {z:Z X}{s:Shared}{value slice:Expr}{p:PV}{u:Value}{i:Int}{t:Tok}{ps:List PV}{q:PV}{E:Value->Shared->Prop}(hz:z.ok s)(d:Rd z.cn s.heap p u)(e1:items p=some ps)(e2:L2.c8 ps i=some q)(hs:subscripted slice false u (.int i t)=operate [u,.int i t] (getItem u (.int i t))) :
  W X (subscriptTail value slice u (.int i t)) (Z.post z s (.fz q)) E s:=by
 obtain⟨a,its,rfl,_,zl,ds,h⟩:=D1.items d e1
 obtain⟨j,h1,h2,h3,h4,h5⟩:=zT e2
 obtain⟨w,ew,dw⟩:=ds.get h2
 have hl:=ds.length
 have hn:=oB
 have fin:Z.post z s (.fz q) w s:=⟨hz.refl,dw⟩
 rcases h with pl|⟨n,e⟩
 ·exact subscriptTail_builtinR (x:=w) pl.typeIs slot_tuple_getitem.lookup
   (getItem_tuple (j:=j) (Q:=λr s'=>r=w/\Z.post z s (.fz q) r s') pl (by omega) (by omega) (by rw[a0g,hl];exact h1) (by simpa using ew) ⟨rfl,fin⟩) hs
 ·have pl:=bj e
  by_cases h0:0<=i
  ·have hj:i.toNat=j:=by
    rw[seqIndex_of h0 h5] at h1
    exact Option.some.inj h1
   exact item_listR pl h0 (by omega) (by rw[hj];simpa using ew) fin hs
  ·have hj:(i+(its.toArray.size:Int)).toNat=j:=by
    rw[seqIndex_neg (by omega) h4] at h1
    rw[a0g,hl]
    exact Option.some.inj h1
   exact subscriptTail_builtinR (x:=w) pl.typeIs slot_list_getitem.lookup
    (wpAny_getItem_list_neg (Q:=λr s'=>r=w/\Z.post z s (.fz q) r s') pl (by omega) (by rw[a0g]<;>omega) (by omega) (by rw[hj];simpa using ew) ⟨rfl,fin⟩) hs
theorem Le:OS X bo:=by
 intro value slice z s p q u v r E hz dp dq e hs
 have seq:∀{i:Int},q=.int i →  ((items p).bind λps=>(L2.c8 ps i).map .fz)=some r->W X (subscriptTail value slice u v) (Z.post z s r) E s:=λ{i} eq e'=>by
  subst eq
  obtain⟨⟨t,rfl⟩,_⟩:=dq
  obtain⟨ps,e1,e3⟩:=a0a.mp e'
  obtain⟨w,e2,rfl⟩:=a0d.mp e3
  exact As hz dp.1 e1 e2 hs
 unfold bo at e
 split at e
 ·next x i=>
  split at e
  ·next hl=>
   obtain⟨c,e2,rfl⟩:=a0d.mp e
   obtain⟨⟨t,rfl⟩,_⟩:=dp
   obtain⟨⟨t',rfl⟩,_⟩:=dq
   obtain⟨j,h1,h2,h3,h4,h5⟩:=zT e2
   have hl':x.cps.toList.length=x.length:=by simp[Str.length]
   rw[hl'] at h1 h4 h5
   have hn:=oB
   have hb:=big hl
   exact tail_any (typeIs_str s x t) slot_str_getitem.lookup (getItem_str (c:=c) (by
    have e1:decide (i < -(2 ^ 63:Int))=false:=decide_eq_false (by omega)
    have e2:decide (i >= 2 ^ 63)=false:=decide_eq_false (by omega)
    rw[e1,e2,Bool.or_false]) (by rw[h1];simpa using h2) ⟨hz.tok _,_,rfl⟩) hs
  ·cases e
 ·next ks ps=>
  obtain⟨k,ek,e⟩:=a0a.mp e
  obtain⟨w,e2,rfl⟩:=a0d.mp e
  obtain⟨a,kus,rfl,_,y,dd,zl,hk,ds⟩:=dp.1
  obtain⟨x,ex,dx⟩:=(oi (y:=k) hk ds).1 w e2
  exact tail_any dd.typeIs PySem.F.slot_dict_getitem.lookup (wpAny_getItem_of (qE (gt ek dq.1)) dd.mapOf ex ⟨hz.tok _,dx⟩) hs
 ·exact seq rfl e
 ·cases e
noncomputable def E3:PV->PV->Option RV
 |.lst ps,.int i=>(L2.c8 ps i).map .fz
 |.lst ps,.bl b=>(ps[LI b]?).map .fz
 |_,_=>none
theorem Dh:OS X E3:=by
 intro value slice z s p q u v r E hz dp dq e hs
 unfold E3 at e
 split at e
 ·obtain⟨⟨t,rfl⟩,_⟩:=dq
  obtain⟨w,e2,rfl⟩:=a0d.mp e
  exact As hz dp.1 rfl e2 hs
 ·next ps b=>
  cases (show v=Value.bool b from dq.1)
  obtain⟨w,e2,rfl⟩:=a0d.mp e
  obtain⟨a,its,n,rfl,_,e1,zl,ds⟩:=dp.1
  obtain⟨x,ex,dx⟩:=ds.get e2
  exact subscriptTail_builtinR (x:=x) (bj e1).typeIs slot_list_getitem.lookup (AH (Q:=λr s'=>r=x/\Z.post z s (.fz w) r s') (bj e1) (by simpa using ex) ⟨rfl,hz.refl,dx⟩) hs
 ·cases e
noncomputable def mB {α:Type}(xs:List α)(lo hi:Option Int):List α:=(xs.drop (HT.sIx xs.length 0 lo)).take (HT.sIx xs.length xs.length hi - HT.sIx xs.length 0 lo)
noncomputable abbrev FO:=aq->Option (Option Int)
noncomputable def NO (X:Cx)(e:Option Expr)(f:FO):Prop:=∀(z:Z X) s o E,z.ok s->f z.ρ=some o->W X (evalPart e X.env) (λu s'=>z.go s s'/\IsPart u o) E s
noncomputable def sg:FO:=λ_=>some none
noncomputable def Ow (o:Option PV):Option (Option Int):=match o with
 |some (.int i)=>some (some i)
 |_=>none
noncomputable def rR (f:FE):FO:=λρ=>(f ρ).bind λr=>Ow r.fr
theorem E1:NO X none sg:=λz s o E hz q=>by cases q;rw[evalPart_none];exact wpAny_pure ⟨hz.refl,.none⟩
theorem FY (h:NE X e f):NO X (some e) (rR f):=λz s o E hz q=>by
 obtain⟨r,er,q⟩:=a0a.mp q
 unfold Ow at q
 split at q
 ·next i hi=>
  cases q
  rw[evalPart_some]
  refine aV (h z s r E hz er) λu s1 q1=>?_
  obtain⟨t,rfl⟩:=q1.2.fr hi
  exact⟨q1.1,.int i t⟩
 ·cases q
noncomputable def LY (p:PV)(l h:Option Int):Option RV:=match p with
 |.lst ps=>some (.nw (mB ps l h))
 |.src ps=>some (.nw (mB ps l h))
 |.tup ps=>if HT.sIx ps.length 0 l=0/\HT.sIx ps.length ps.length h=ps.length then none else some (.fz (.tup (mB ps l h)))
 |_=>none
noncomputable def zd:PV->Option Int->Option Int->Option RV
 |.tup ps,l,h=>some (.fz (.tup (mB ps l h)))
 |_,_,_=>none
noncomputable def G5 (g:PV->Option Int->Option Int->Option RV)(f:FE)(l h:FO):FE:=λρ=>(f ρ).bind λr=>(l ρ).bind λlo=>(h ρ).bind λhi=>g r.pv lo hi
noncomputable abbrev GN:FE->FO->FO->FE:=G5 LY
noncomputable abbrev nc:FE->FO->FO->FE:=G5 zd
noncomputable def Pj (X:Cx)(g:PV->Option Int->Option Int->Option RV):Prop:=∀(z:Z X) s p v vl vu lo hi t r E,z.ok s->Rv z s.heap p v->s.heap.IsSliceOf t vl vu .none->IsPart vl lo->IsPart vu hi->g p lo hi=some r →
 ∃T id,typeLookup (.type T) "__getitem__" = pure (some (.builtin id))/\s.TypeIs v T/\W X (getItem v (.ref t)) (Z.post z s r) E s
theorem Jl {g:PV->Option Int->Option Int->Option RV}{lo hi:Option Expr}{fl fh:FO}{p2:Pos}(hr:Pj X g)(he:NE X e f)(hl:NO X lo fl)(hu:NO X hi fh):NE X (.Subscript e (.Slice lo hi none p2) pos) (G5 g f fl fh):=λz s r E hz q=>by
 obtain⟨x,ex,q⟩:=a0a.mp q
 obtain⟨ol,el,q⟩:=a0a.mp q
 obtain⟨oh,eh,q⟩:=a0a.mp q
 refine Subscript_ (aV (he z s x E hz ex) λv s1 q1=>?_)
 refine wpAny_Slice (aV (hl z s1 ol E q1.1.1 el) λvl s2 ⟨g2,pl⟩=>aV (hu z s2 oh E g2.1 eh) λvu s3 ⟨g3,pu⟩=>?_)
 rw[evalPart_none]
 refine wpAny_pure ?_
 have g4:=g3.1.push { cls:=.type "slice",data:=.fields #[vl,vu,.none] } s3.toks
 have ga:=q1.1.trans (g2.trans (g3.trans g4))
 obtain⟨T,id,hT,ht,hg⟩:=hr z _ x.pv v vl vu ol oh s3.heap.objs.size r E g4.1 ((q1.2.ext (g2.2.trans (g3.2.trans g4.2))).rv) (Heap.IsSliceOf.new ..) pl pu q
 exact tail_any (ops:=[.ref s3.heap.objs.size,v]) ht hT (aV hg λw s5 q5=>ga.post q5) (by with_unfolding_all rfl)
theorem EA {c:Cn}{h:Heap}{ps:List PV}{its:List Value}(d:Ds c h ps its)(lo hi:Option Int):Ds c h (mB ps lo hi) ((its.drop (HT.sIx its.length 0 lo)).take (HT.sIx its.length its.length hi - HT.sIx its.length 0 lo)):=by
 unfold mB;rw[d.length];exact (d.drop _).take _
theorem MQ {z:Z X}{s:Shared}{ps:List PV}{v vl vu:Value}{lo hi:Option Int}{t:Addr}{E:Value->Shared->Prop}(hz:z.ok s)(d:Rd z.cn s.heap (.lst ps) v)(hs:s.heap.IsSliceOf t vl vu .none)(pl:IsPart vl lo)(pu:IsPart vu hi) :
  ∃T id,typeLookup (.type T) "__getitem__" = pure (some (.builtin id))/\s.TypeIs v T/\W X (getItem v (.ref t)) (Z.post z s (.nw (mB ps lo hi))) E s:=by
 obtain⟨a,its,n,rfl,_,e1,zl,ds⟩:=d
 have ht:=bj e1
 refine⟨"list",_,slot_list_getitem.lookup,ht.typeIs,?_⟩
 refine wpAny_getItem_list_slice ht hs pl pu .none (by simp) ?_ (by rw[a0g]<;>omega)
 rw[rQ]
 exact Z.ok.newL0 (n:=0) hz (EA ds lo hi) (by rw[a1p,a2e];omega)
theorem N3 {z:Z X}{s:Shared}{ps:List PV}{v vl vu:Value}{lo hi:Option Int}{t:Addr}{E:Value->Shared->Prop}(hz:z.ok s)(d:D z.cn s.heap (.tup ps) v)(hs:s.heap.IsSliceOf t vl vu .none)(pl:IsPart vl lo)(pu:IsPart vu hi) :
  ∃T id,typeLookup (.type T) "__getitem__" = pure (some (.builtin id))/\s.TypeIs v T/\W X (getItem v (.ref t)) (Z.post z s (.fz (.tup (mB ps lo hi)))) E s:=by
 have d':=d
 obtain⟨a,its,rfl,o,ht,zl,ds⟩:=d
 have hn:its.toArray.size=its.length:=a0g
 refine⟨"tuple",_,PyProof.Rows.slot_tuple_getitem.lookup,ht.typeIs,?_⟩
 by_cases hw:HT.sIx its.length 0 lo=0/\HT.sIx its.length its.length hi=its.length
 ·refine sn ht hs pl pu (by rw[hn];exact hw) ⟨hz.refl,?_⟩
  have:mB ps lo hi=ps:=by
   have hl:=ds.length
   unfold mB
   rw[←hl,hw.1,hw.2,List.drop_zero,Nat.sub_zero,a1o (by omega)]
  rw[this];exact d'
 ·refine HT.getItem_tuple_cut ht hs pl pu (by rw[hn];exact hw) ?_ (by rw[hn];exact zl)
  rw[hn]
  exact Z.ok.newT hz (EA ds lo hi) (by rw[a1p,a2e];omega) s.toks
theorem PH:Pj X LY:=λz s p v vl vu lo hi t r E hz d hs pl pu q=>by
 unfold LY at q
 split at q
 ·cases q;exact MQ hz d.1 hs pl pu
 ·cases q;exact MQ hz d.1 hs pl pu
 ·split at q
  ·cases q
  ·cases q;exact N3 hz (d.2 rfl) hs pl pu
 ·cases q
theorem Ic:Pj X zd:=λz s p v vl vu lo hi t r E hz d hs pl pu q=>by
 unfold zd at q
 split at q
 ·cases q;exact N3 hz (d.2 rfl) hs pl pu
 ·cases q
noncomputable def la:PV->Option (List PV)
 |.lst ps=>some ps
 |.src ps=>some ps
 |_=>none
theorem D1.lst {t:Addr->Prop}{c:Cn}{h:Heap}{p:PV}{u:Value}{ps:List PV}(d:D1 t c h p u)(e:la p=some ps):D1 t c h (.lst ps) u:=by
 cases p with
 |lst qs=>cases e;exact d
 |src qs=>cases e;exact d
 |_=>cases e
noncomputable def Ft (p:PV):Option RV:=match p with
 |.tup ps=>some (.fz (.tup ps.reverse))
 |p=>(la p).map λps=>.nw ps.reverse
noncomputable def Ce (f:FE):FE:=λρ=>(f ρ).bind λr=>Ft r.pv
theorem LN {st:Expr}{p2:Pos}(he:NE X e f)(hst:NE X st (fC (.int (-1)))\/NE X st (qb (fC (.int 1)))):NE X (.Subscript e (.Slice none none (some st) p2) pos) (Ce f):=λz s r E hz q=>by
 obtain⟨x,ex,q⟩:=a0a.mp q
 refine Subscript_ (aV (he z s x E hz ex) λv s1 q1=>?_)
 refine wpAny_Slice ?_
 rw[evalPart_none]
 refine wpAny_pure (wpAny_pure ?_)
 rw[evalPart_some]
 have hst':W X (eval st X.env) (Z.post z s1 (.fz (.int (-1)))) E s1:=hst.elim (λh=>h z s1 _ E q1.1.1 rfl) λh=>h z s1 _ E q1.1.1 rfl
 refine aV hst' λvst s3 q3=>?_
 obtain⟨t,rfl⟩:=q3.2
 have g4:=q3.1.1.push { cls:=.type "slice",data:=.fields #[.none,.none,.int (-1) t] } s3.toks
 have ga:=q1.1.trans (q3.1.trans g4)
 have dx:=(q1.2.ext (q3.1.2.trans g4.2)).rv
 have lstCase:∀ps,la x.pv=some ps->r=.nw ps.reverse->W X (subscriptTail e (.Slice none none (some st) p2) v (.ref s3.heap.objs.size)) (Z.post z s r) E { s3 with heap:=s3.heap.push { cls:=.type "slice",data:=.fields #[.none,.none,.int (-1) t] } }:=λps e1 er=>by
  subst er
  obtain⟨a,its,n,rfl,_,e1,zl,ds⟩:=D1.lst dx.1 e1
  have ht:=bj e1
  refine tail_any (ops:=[.ref a,.ref s3.heap.objs.size]) ht.typeIs slot_list_getitem.lookup (wpAny_getItem_list_slice ht (Heap.IsSliceOf.new ..) .none .none (.int _ _) (by simp) ?_ (by rw[a0g];omega)) (by with_unfolding_all rfl)
  rw[se]
  exact ga.post (Z.ok.newL0 (n:=0) (t:=s3.toks) g4.1 ds.rev (by rw[a2q];exact zl))
 unfold Ft at q
 split at q
 ·next ps ep=>
  cases q
  rw[ep] at dx
  obtain⟨a,its,rfl,o,ht,zl,ds⟩:=dx.2 rfl
  refine tail_any (ops:=[.ref a,.ref s3.heap.objs.size]) ht.typeIs PyProof.Rows.slot_tuple_getitem.lookup (L2.HT.getItem_tuple_rev ht (Heap.IsSliceOf.new ..) (.int _ _) ?_ zl) (by with_unfolding_all rfl)
  exact ga.post (Z.ok.newT g4.1 ds.rev (by rw[a2q];exact zl) s3.toks)
 ·obtain⟨ps,e1,e2⟩:=a0d.mp q
  exact lstCase ps e1 e2.symm
noncomputable def dm (X:Cx)(fv:Value)(g:List PV->Option RV):Prop:=∀(z:Z X) s ps us r E,z.ok s->Rvs z s.heap ps us->g ps=some r->W X (call fv us) (Z.post z s r) E s
noncomputable def fB (g:List PV->Option RV)(fs:FA):FE:=λρ=>(fs ρ).bind λrs=>g (rs.map RV.pv)
theorem II {x:Str}{p:Pos}{id:String}{g:List PV->Option RV}(hc:dm X (.builtin id) g)(hg:Gl X x)(hm:X.mg x=none)(hv:bootBuiltins x=some (.builtin id))(ha:NA X (e::es) fs)(hn:x ≠ "__name__")(hdb:(x==("__debug__" : Str))=false)
  (he:starEach (e::es) X.env=(false,eval e X.env)::starEach es X.env) (hpl:(backTo pos (starEach es X.env)).any (·.1)=false):NE X (.Call (.Name x p) (e::es) [] pos) (fB g fs):=λz s r E hz q=>by
 obtain⟨rs,er,q⟩:=a0a.mp q
 refine wpAny_Call_Name_kw (kX hz.I hg hm hv ?_ hn hdb)
 exact PyProof.Rows.callWith_builtin1 (aV (ha z pos s rs E hz er) λus s1 ⟨g1,d1⟩=>aV (hc z s1 _ us r E g1.1 d1.rv q) λw s2 q2=>g1.post q2) he hpl
theorem NU {x:Str}{p:Pos}{T:String}{g:List PV->Option RV}(hc:dm X (.type T) g)(hg:Gl X x)(hm:X.mg x=none)(hv:bootBuiltins x=some (.type T))(ha:NA X (e::es) fs)(hn:x ≠ "__name__")(hdb:(x==("__debug__" : Str))=false)
  (he:starEach (e::es) X.env=(false,eval e X.env)::starEach es X.env) (hpl:(backTo pos (starEach es X.env)).any (·.1)=false):NE X (.Call (.Name x p) (e::es) [] pos) (fB g fs):=λz s r E hz q=>by
 obtain⟨rs,er,q⟩:=a0a.mp q
 refine wpAny_Call_Name_kw (kX hz.I hg hm hv ?_ hn hdb)
 exact PyProof.Rows.callWith_type1 (aV (ha z pos s rs E hz er) λus s1 ⟨g1,d1⟩=>aV (hc z s1 _ us r E g1.1 d1.rv q) λw s2 q2=>g1.post q2) he hpl
theorem Rvs.one {z:Z X}{h:Heap}{p:PV}{us:List Value}(d:Rvs z h [p] us):∃u,us=[u]/\Rv z h p u:=by
 cases d with
 |cons a b=>cases b;exact⟨_,rfl,a⟩
theorem Rvs.two {z:Z X}{h:Heap}{p q:PV}{us:List Value}(d:Rvs z h [p,q] us):∃u v,us=[u,v]/\Rv z h p u/\Rv z h q v:=by
 cases d with
 |cons a b=>cases b with
  |cons b c=>cases c;exact⟨_,_,rfl,a,b⟩
noncomputable def gw:List PV->Option RV
 |[.str z]=>if z.length<=100000 then some (.fz (.int z.length)) else none
 |[p]=>(items p).map λps=>.fz (.int ps.length)
 |_=>none
theorem Od:dm X (.builtin "len") gw:=λz s ps us r E hz d q=>by
 have hn:=oB
 unfold gw at q
 split at q
 ·split at q
  ·next hl=>
   cases q
   obtain⟨u,rfl,⟨t,rfl⟩,_⟩:=d.one
   have hb:=big hl
   exact len_str (by omega) ⟨hz.tok _,_,rfl⟩
  ·cases q
 ·obtain⟨ps,e1,rfl⟩:=a0d.mp q
  obtain⟨u,rfl,du⟩:=d.one
  obtain⟨a,its,rfl,_,zl,ds,h⟩:=D1.items du.1 e1
  have hl:=ds.length
  have fin:∀t tk,Z.post z s (.fz (.int ps.length)) (.int its.toArray.size t) { s with toks:=tk }:=λt tk=>⟨hz.tok _,t,by rw[a0g,hl]⟩
  rcases h with pl|⟨n,e⟩
  ·exact len_tuple pl (by rw[a0g];omega) (fin _ _)
  ·exact Calls.call_len_list (bj e) (by rw[a0g];omega) (fin _ _)
 ·cases q
noncomputable def Eo:List PV->Option RV
 |[.int i]=>some (.fz (.int (if i<0 then -i else i)))
 |_=>none
noncomputable def tD:List PV->Option RV
 |[.int i,.int j]=>some (.fz (.int (if j > i then j else i)))
 |_=>none
noncomputable def mw:List PV->Option RV
 |[.int i,.int j]=>some (.fz (.int (if j<i then j else i)))
 |_=>none
noncomputable def vM:List PV->Option RV
 |[.int i]=>some (.fz (.int i))
 |[.bl b]=>some (.fz (.int (if b then 1 else 0)))
 |_=>none
end
section
variable {X:Cx}
theorem Ma:dm X (.builtin "abs") Eo:=λz s ps us r E hz d q=>by
 unfold Eo at q
 split at q
 ·cases q;obtain⟨u,rfl,⟨t,rfl⟩,_⟩:=d.one;exact call_abs_int λu tk=>⟨hz.tok _,_,rfl⟩
 ·cases q
theorem Ke (hc:X.calm=true):dm X (.builtin "max") tD:=λz s ps us r E hz d q=>by
 unfold tD at q
 split at q
 ·next i j=>
  cases q;obtain⟨u,v,rfl,⟨⟨t,rfl⟩,_⟩,⟨t',rfl⟩,_⟩:=d.two
  refine max_two_ints (hz.I.ok.hd hc) λh' tk k=>⟨hz.kept k,?_⟩
  by_cases hj:j > i
  ·rw[if_pos hj,if_pos hj];exact⟨_,rfl⟩
  ·rw[if_neg hj,if_neg hj];exact⟨_,rfl⟩
 ·cases q
theorem Jo (hc:X.calm=true):dm X (.builtin "min") mw:=λz s ps us r E hz d q=>by
 unfold mw at q
 split at q
 ·next i j=>
  cases q;obtain⟨u,v,rfl,⟨⟨t,rfl⟩,_⟩,⟨t',rfl⟩,_⟩:=d.two
  refine min_two_ints (hz.I.ok.hd hc) λh' tk k=>⟨hz.kept k,?_⟩
  by_cases hj:j<i
  ·rw[if_pos hj,if_pos hj];exact⟨_,rfl⟩
  ·rw[if_neg hj,if_neg hj];exact⟨_,rfl⟩
 ·cases q
theorem NZ:dm X (.type "int") vM:=λz s ps us r E hz d q=>by
 unfold vM at q
 split at q
 ·cases q;obtain⟨u,rfl,⟨t,rfl⟩,_⟩:=d.one;exact call_int_int ⟨hz.refl,_,rfl⟩
 ·next k=>cases q;obtain⟨u,rfl,du⟩:=d.one;cases (show u=Value.bool k from du.1);exact call_int_bool ⟨hz.tok _,_,rfl⟩
 ·cases q
noncomputable def IS:List PV->Option RV
 |[.int i]=>if i.natAbs.log2<1920 then some (.fz (.str (toString i))) else none
 |_=>none
theorem M9:dm X (.type "str") IS:=λz s ps us r E hz d q=>by
 unfold IS at q
 split at q
 ·split at q
  ·next h=>cases q;obtain⟨u,rfl,⟨t,rfl⟩,_⟩:=d.one;exact PySem.P.str_of_int h ⟨hz.tok _,_,rfl⟩
  ·cases q
 ·cases q
noncomputable def JY:List PV->Option (List Bool)
 |[]=>some []
 |.bl b::ps=>(JY ps).map λbs=>b::bs
 |_=>none
theorem CT {c:Cn}{h:Heap}{ps:List PV}:∀{us:List Value} {bs:List Bool},Ds c h ps us->JY ps=some bs->us=bs.map Value.bool:=by
 induction ps with
 |nil=>intro us bs d e;cases e;exact d
 |cons p ps ih=>
  intro us bs d q
  obtain⟨u,r,e,d,t⟩:=d
  cases p with
  |bl b=>
   obtain⟨bs',e',rfl⟩:=a0d.mp q
   rw[e,show u=Value.bool b from d,ih t e',a1f]
  |_=>cases q
noncomputable def Bs:List PV->Option RV
 |[p]=>(la p).bind λps=>(JY ps).map λbs=>.fz (.bl (bs.all id))
 |_=>none
noncomputable def KP:List PV->Option RV
 |[p]=>(la p).bind λps=>(JY ps).map λbs=>.fz (.bl (bs.any id))
 |_=>none
theorem JN (bs:List Bool):(a0m bs.length).all (λi=>bs.getD i false)=bs.all id:=by
 induction bs with
 |nil=>rfl
 |cons b r ih=>rw[a0o,a2k,a1g,List.all_map,a1g,←ih]<;>rfl
theorem Jf (bs:List Bool):(a0m bs.length).any (λi=>bs.getD i false)=bs.any id:=by
 induction bs with
 |nil=>rfl
 |cons b r ih=>rw[a0o,a2k,a3j,a5d,a3j,←ih]<;>rfl
theorem lN {h:Heap}{a:Addr}{o:Obj}(e:h.get? a=some o):a≠h.objs.size:=a1d (Heap.lt_size e)
theorem HR {bs:List Bool}{i:Nat}{v:Value}(h:(bs.map Value.bool).toArray[i]?=some v):v=Value.bool (bs.getD i false):=by
 rw[List.getElem?_toArray,a0s] at h
 obtain⟨b,e,rfl⟩:=a0d.mp h
 rw[a0k,e];rfl
theorem MS (hc:X.calm=true):dm X (.builtin "all") Bs:=λz s ps us r E hz d q=>by
 unfold Bs at q
 split at q
 ·obtain⟨ps,e1,q⟩:=a0a.mp q
  obtain⟨bs,e2,rfl⟩:=a0d.mp q
  obtain⟨u,rfl,du⟩:=d.one
  obtain⟨p,its,n,rfl,_,e1,zl,ds⟩:=D1.lst du.1 e1
  have ei:=CT ds e2
  subst ei
  have pl:=bj e1
  refine call_all_walk (wpAny_pyIter_list pl ?_)
  refine⟨s.heap.objs.size,_,_,_,_,_,λi=>bs.getD i false,rfl,Walks.list (A:=X.A.in1) (hz.I.ok.hd hc) s.heap.objs.size p (lN e1) (bs.map Value.bool).toArray,⟨⟨_,Heap.get?_push_size _ rfl,rfl,rfl⟩,⟨_,Heap.get?_push_of_some _ e1,rfl,n,rfl⟩⟩,λi v s' Q' E' hP hQ=>?_,λh' tk hk=>?_⟩
  ·rw[HR hP];exact wpAny_truthy_bool hQ
  ·rw[a0g,a0j,JN]
   exact⟨hz.kept λb o' e=>hk b o' (λz=>lN e (a0f.mp z)) (Heap.get?_push_of_some _ e),rfl⟩
 ·cases q
theorem M6 (hc:X.calm=true):dm X (.builtin "any") KP:=λz s ps us r E hz d q=>by
 unfold KP at q
 split at q
 ·obtain⟨ps,e1,q⟩:=a0a.mp q
  obtain⟨bs,e2,rfl⟩:=a0d.mp q
  obtain⟨u,rfl,du⟩:=d.one
  obtain⟨p,its,n,rfl,_,e1,zl,ds⟩:=D1.lst du.1 e1
  have ei:=CT ds e2
  subst ei
  have pl:=bj e1
  refine call_any_walk (wpAny_pyIter_list pl ?_)
  refine⟨s.heap.objs.size,_,_,_,_,_,λi=>bs.getD i false,rfl,Walks.list (A:=X.A.in1) (hz.I.ok.hd hc) s.heap.objs.size p (lN e1) (bs.map Value.bool).toArray,⟨⟨_,Heap.get?_push_size _ rfl,rfl,rfl⟩,⟨_,Heap.get?_push_of_some _ e1,rfl,n,rfl⟩⟩,λi v s' Q' E' hP hQ=>?_,λh' tk hk=>?_⟩
  ·rw[HR hP];exact wpAny_truthy_bool hQ
  ·rw[a0g,a0j,Jf]
   exact⟨hz.kept λb o' e=>hk b o' (λz=>lN e (a0f.mp z)) (Heap.get?_push_of_some _ e),rfl⟩
 ·cases q
noncomputable def Qf (n:String):PV->Option Bool
 |.non=>some false
 |.bl _=>some (n == "bool" || n == "int")
 |.int _=>some (n == "int")
 |.str _=>some (n == "str")
 |.tup _=>some (n == "tuple")
 |.lst _=>some (n == "list")
 |.dct _ _=>some (n == "dict")
 |_=>none
noncomputable def uP:List PV->Option RV
 |[p,.ty n]=>if n = "int"\/n = "bool"\/n = "str"\/n = "tuple"\/n = "list"\/n = "dict" then (Qf n p).map λb=>.fz (.bl b) else none
 |_=>none
theorem PO:dm X (.builtin "isinstance") uP:=λz s ps us r E hz d q=>by
 unfold uP at q
 split at q
 ·next p n=>
  split at q
  ·next hn=>
   obtain⟨b,e,rfl⟩:=a0d.mp q
   obtain⟨u,v,rfl,du,dv⟩:=d.two
   cases (show v=Value.type n from dv.1)
   have kin:=hz.I.kIn
   have fin:∀tk,Z.post z s (.fz (.bl b)) (.bool b) { s with toks:=tk }:=λtk=>⟨hz.tok _,rfl⟩
   cases p with
   |non=>cases (show u=_ from du.1);exact PySem.W.kia_one (K:=X.K) PySem.W.kitx_none kin True.intro (by rcases hn with rfl|rfl|rfl|rfl|rfl|rfl<;>exact e) (λz=>nomatch z) fin
   |bl x=>cases (show u=_ from du.1);exact PySem.W.kia_one (K:=X.K) PySem.W.kitx_bool kin True.intro (by rcases hn with rfl|rfl|rfl|rfl|rfl|rfl<;>exact e) (λz=>nomatch z) fin
   |int x=>obtain⟨⟨t,rfl⟩,_⟩:=du;exact PySem.W.kia_one (K:=X.K) PySem.W.kitx_int kin True.intro (by rcases hn with rfl|rfl|rfl|rfl|rfl|rfl<;>exact e) (λz=>nomatch z) fin
   |str x=>obtain⟨⟨t,rfl⟩,_⟩:=du;exact PySem.W.kia_one (K:=X.K) PySem.W.kitx_str kin True.intro (by rcases hn with rfl|rfl|rfl|rfl|rfl|rfl<;>exact e) (λz=>nomatch z) fin
   |lst x=>obtain⟨⟨a,its,m,rfl,_,h1,_⟩,_⟩:=du;exact PySem.W.kia_one (K:=X.K) PySem.W.kitx_list kin ⟨_,h1,rfl⟩ (by rcases hn with rfl|rfl|rfl|rfl|rfl|rfl<;>exact e) (λz=>nomatch z) fin
   |tup x=>obtain⟨⟨a,its,rfl,_,⟨o,h1,h2,_⟩,_⟩,_⟩:=du;exact PySem.W.kia_one (K:=X.K) PySem.W.kitx_tuple kin ⟨o,h1,h2⟩ (by rcases hn with rfl|rfl|rfl|rfl|rfl|rfl<;>exact e) (λz=>nomatch z) fin
   |dct x y=>obtain⟨⟨a,kus,rfl,_,_,⟨o,es,ep,h1,h2,_⟩,_⟩,_⟩:=du;exact PySem.W.kia_one (K:=X.K) PySem.W.kitx_dict kin ⟨o,h1,h2.1⟩ (by rcases hn with rfl|rfl|rfl|rfl|rfl|rfl<;>exact e) (λz=>nomatch z) fin
   |_=>cases e
  ·cases q
 ·cases q
noncomputable def rG (lo:Int)(n:Nat):List PV:=(a0m n).map λi:Nat=>PV.int (lo+i)
theorem m5 (lo:Int)(n:Nat):(rG lo n).length=n:=by unfold rG;simp
noncomputable def uH:List PV->Option RV
 |[.int j]=>if -(2 ^ 62)<=j/\j<2 ^ 62 then some (.fz (.rng 0 j)) else none
 |_=>none
theorem Mi:dm X (.type "range") uH:=λz s ps us r E hz d q=>by
 unfold uH at q
 split at q
 ·split at q
  ·next h=>
   cases q
   obtain⟨u,rfl,⟨t,rfl⟩,_⟩:=d.one
   exact call_range_1 ⟨hz.push _ _,_,_,_,_,rfl,hz.free (Heap.get?_none_of_le (a0r _)),Heap.get?_push_size _ rfl⟩
  ·cases q
 ·cases q
theorem B7 {c:Cn}{h:Heap}{n:Nat}{acc:Array Value}(hi:ItemsOf (λi v=>∃t,v=.int ((0:Int)+i * 1) t) acc n):Ds c h (rG 0 n) acc.toList:=by
 obtain⟨hs,hi⟩:=hi
 refine Ds.of (by rw[m5];simpa using hs) λi p u h1 h2=>?_
 unfold rG at h1
 rw[a0s] at h1
 obtain⟨k,e,rfl⟩:=a0d.mp h1
 obtain⟨hk,e⟩:=a0i.mp e
 rw[a3u] at e
 subst e
 obtain⟨t,e⟩:=hi i u (by simpa using h2)
 exact⟨t,by rw[e,a5s]⟩
noncomputable def lG:List PV->Option RV
 |[.lst ps]=>some (.fz (.tup ps))
 |[.tup ps]=>some (.fz (.tup ps))
 |[.src ps]=>some (.fz (.tup ps))
 |_=>none
theorem C0 {z:Z X}{s:Shared}{ps:List PV}{u:Value}{E:Value->Shared->Prop}(hz:z.ok s)(d:Rd z.cn s.heap (.lst ps) u):W X (call (.type "tuple") [u]) (Z.post z s (.fz (.tup ps))) E s:=by
 obtain⟨p,its,n,rfl,_,e1,zl,ds⟩:=d
 refine call_tuple_list (bj e1) (λh' kp=>?_) (by simp only[a0g];omega)
 have g:=hz.kept (t:=s.toks) kp
 exact g.post (Z.ok.newT g.1 (ds.mono g.2.kpD) zl s.toks)
theorem Mg:dm X (.type "tuple") lG:=λz s ps us r E hz d q=>by
 unfold lG at q
 split at q
 ·cases q;obtain⟨u,rfl,du⟩:=d.one;exact C0 hz du.1
 ·cases q;obtain⟨u,rfl,du⟩:=d.one
  have d':=du.2 rfl
  obtain⟨a,its,rfl,o,pl,_⟩:=du.2 rfl
  exact call_tuple_same pl ⟨hz.refl,d'⟩
 ·cases q;obtain⟨u,rfl,du⟩:=d.one;exact C0 hz du.1
 ·cases q
noncomputable def iS:List PV->Option RV
 |[.rng lo j]=>if lo=0/\0<=j/\j<=1000000 then some (.nw (rG 0 j.toNat)) else none
 |[p]=>(items p).map .nw
 |_=>none
theorem K9 (hc:X.calm=true):dm X (.type "list") iS:=λz s ps us r E hz d q=>by
 have zl:=vD
 unfold iS at q
 split at q
 ·next lo j=>
  split at q
  ·next h=>
   cases q
   obtain⟨rfl,h1,h2⟩:=h
   obtain⟨u,rfl,⟨a,t1,t2,t3,rfl,_,e⟩,_⟩:=d.one
   refine call_list_range (hz.I.ok.hd hc) (r:=a) (a:=0) (b:=j) (c:=1) (n:=j.toNat) e (small_one (by omega) (by omega) (by omega) (by omega)) (by rw[rangeSize_one];split<;>omega) (by omega) λh' tk acc' c' hk hS hacc=>?_
   have dd:=B7 (c:=z.cn) (h:=s.heap) hacc
   refine Z.ok.newL hz dd (by rw[dd.length,m5];omega) hk (n:=c') ?_
   simpa [eZ] using hS
  ·cases q
 ·obtain⟨ps,e1,rfl⟩:=a0d.mp q
  obtain⟨u,rfl,du⟩:=d.one
  obtain⟨a,its,rfl,_,zl,ds,h⟩:=D1.items du.1 e1
  have fin:∀(h':Heap) (c':Nat),(∀b o',s.heap.get? b=some o'->h'.get? b=some o')->h'.get? s.heap.objs.size=some { cls:=.type "list",dict:=none,data:=.seq its.toArray c',slots:=#[] }->Z.post z s (.nw ps) (.ref s.heap.objs.size) { s with heap:=h' }:=λh' c' kp e=>
   Z.ok.newL hz ds zl kp (t:=s.toks) (n:=c') e
  rcases h with ⟨o,ho,hc,n,hd⟩|⟨n,e⟩
  ·exact call_list_seq a (.inr rfl) ho hc hd fin (by simp only[a0g]<;>omega)
  ·exact call_list_seq a (.inl rfl) e rfl rfl fin (by simp only[a0g]<;>omega)
 ·cases q
noncomputable def sE:List PV->Option RV
 |[.rng lo j]=>if lo=0/\0<=j/\j<=1000000 then some (.fz (.tup (rG 0 j.toNat))) else none
 |_=>none
theorem Jg (hc:X.calm=true):dm X (.type "tuple") sE:=λz s ps us r E hz d q=>by
 have zl:=vD
 unfold sE at q
 split at q
 ·next lo j=>
  split at q
  ·next h=>
   cases q
   obtain⟨rfl,h1,h2⟩:=h
   obtain⟨u,rfl,⟨a,t1,t2,t3,rfl,_,e⟩,_⟩:=d.one
   refine callType_new F.called_tuple (by decide) (F.typeCall_tuple_1 _) (F.newCall_tuple_1 _) (λobj=>F.args_object_init_2 obj _) F.entry_tuple_new
    (rZ a (a:=0) (b:=j) (c:=1) (n:=j.toNat) (small_one (by omega) (by omega) (by omega) (by omega)) (by rw[rangeSize_one];split<;>omega) (by omega)) ⟨⟨hz.I.ok.hd hc,e⟩,λh' tk acc hk hacc=>⟨⟨_,Heap.get?_push_size _ rfl,rfl⟩,?_⟩⟩
   have g:=hz.kept (t:=tk) hk
   have dd:=B7 (c:=z.cn) (h:=h') hacc
   have:=Z.ok.newT g.1 dd (by rw[dd.length,m5];omega) tk
   exact g.post (by simpa using this)
  ·cases q
 ·cases q
noncomputable def gv:List PV->Option (List Int)
 |[]=>some []
 |.int i::ps=>(gv ps).map λis=>i::is
 |_=>none
theorem nq {c:Cn}{h:Heap}{ps:List PV}:∀{us:List Value} {is:List Int},Ds c h ps us->gv ps=some is->IntsAre us is:=by
 induction ps with
 |nil=>intro us bs d e;cases e;rw[show us=[] from d];exact .nil
 |cons p ps ih=>
  intro us bs d q
  obtain⟨u,r,e,d,t⟩:=d
  cases p with
  |int b=>
   obtain⟨bs',e',rfl⟩:=a0d.mp q
   obtain⟨k,rfl⟩:=d
   subst e
   exact .cons b k (ih t e')
  |_=>cases q
theorem yz {c:Cn}{h:Heap}{us:List Value}{is:List Int}(d:IntsAre us is):Ds c h (is.map PV.int) us:=by
 induction d with
 |nil=>rfl
 |cons n t _ ih=>exact .cons ⟨t,rfl⟩ ih
noncomputable def lH:List Int->Int
 |[]=>0
 |[i]=>i
 |i::j::l=>max i (lH (j::l))
noncomputable def AP:List Int->Int
 |[]=>0
 |[i]=>i
 |i::j::l=>min i (AP (j::l))
theorem nX:∀{is:List Int},0<is.length->lH is∈is/\∀a∈is,a<=lH is
 |[i],_=>⟨a0f.mpr rfl,λa h=>by rw[a0f.mp h];exact a3k _⟩
 |i::j::l,_=>by
  obtain⟨h1,h2⟩:=nX (is:=j::l) (by simp)
  rw[lH]
  refine⟨?_,λa ha=>?_⟩
  ·by_cases hm:i<=lH (j::l)
   ·rw[Int.max_eq_right hm];exact a0c _ h1
   ·rw[Int.max_eq_left (by omega)];exact a0e
  ·rcases a0t.mp ha with rfl|ha
   ·exact Int.le_max_left _ _
   ·exact Int.le_trans (h2 a ha) (Int.le_max_right _ _)
theorem yQ:∀{is:List Int},0<is.length->AP is∈is/\∀a∈is,AP is<=a
 |[i],_=>⟨a0f.mpr rfl,λa h=>by rw[a0f.mp h];exact a3k _⟩
 |i::j::l,_=>by
  obtain⟨h1,h2⟩:=yQ (is:=j::l) (by simp)
  rw[AP]
  refine⟨?_,λa ha=>?_⟩
  ·by_cases hm:AP (j::l)<=i
   ·rw[Int.min_eq_right hm];exact a0c _ h1
   ·rw[Int.min_eq_left (by omega)];exact a0e
  ·rcases a0t.mp ha with rfl|ha
   ·exact Int.min_le_left _ _
   ·exact Int.le_trans (Int.min_le_right _ _) (h2 a ha)
noncomputable def ul {α:Type}(g:List Int->Option α):List PV->Option α
 |[p]=>(la p).bind λps=>(gv ps).bind g
 |_=>none
noncomputable def kL (g:List Int->Int):List PV->Option RV:=ul λis=>if is.length=0 then none else some (.fz (.int (g is)))
noncomputable def Hw:=kL lH
noncomputable def HA:=kL AP
theorem Rvs.ints {z:Z X}{h:Heap}{ps:List PV}{us:List Value}(d:Rvs z h ps us){α:Type}{g:List Int->Option α}{r:α}(q:ul g ps=some r):∃p ys is,us=[.ref p]/\h.IsList p (intItems ys)/\is=ys.toList.map (·.1)/\g is=some r:=by
 unfold ul at q
 split at q
 ·obtain⟨ps,e1,q⟩:=a0a.mp q
  obtain⟨is,e2,q⟩:=a0a.mp q
  obtain⟨u,rfl,du⟩:=d.one
  obtain⟨p,its,n,rfl,_,e1,zl,ds⟩:=D1.lst du.1 e1
  have hi:=nq ds e2
  obtain⟨ys,e⟩:=hi.allInts.items
  have hl:=bj e1
  rw[e] at hl
  exact⟨p,ys,is,rfl,hl,by rw[←hi.numsOf,←nums_intItems,←e],q⟩
 ·cases q
theorem LV (hc:X.calm=true):dm X (.builtin "max") Hw:=λz s ps us r E hz d q=>by
 obtain⟨p,ys,is,rfl,hl,hns,q⟩:=d.ints q
 split at q
 ·cases q
 ·next hne=>
  cases q
  have hsz:0<ys.size:=by rw[hns,a0j,Array.length_toList] at hne;omega
  refine max_intList (hz.I.ok.hd hc) hl hsz λv h' tk hv hk=>?_
  obtain⟨t,rfl⟩:=intItems_at hv
  obtain⟨h1,h2⟩:=argBest_gt (numAt ys) (ys.size - 1)
  refine⟨hz.kept hk,t,?_⟩
  congr 1
  obtain⟨m1,m2⟩:=nX (is:=is) (by omega)
  refine a4e (m2 _ ?_) ?_
  ·rw[hns,numAt_eq];exact getD_mem (by rw[a0j,Array.length_toList];omega)
  ·have m3:=m1
   rw[hns] at m3
   obtain⟨j,hj,e⟩:=mem_getD m3
   rw[a0j,Array.length_toList] at hj
   rw[hns,←e,←numAt_eq];exact h2 j (by omega)
theorem ND (hc:X.calm=true):dm X (.builtin "min") HA:=λz s ps us r E hz d q=>by
 obtain⟨p,ys,is,rfl,hl,hns,q⟩:=d.ints q
 split at q
 ·cases q
 ·next hne=>
  cases q
  have hsz:0<ys.size:=by rw[hns,a0j,Array.length_toList] at hne;omega
  refine min_intList (hz.I.ok.hd hc) hl hsz λv h' tk hv hk=>?_
  obtain⟨t,rfl⟩:=intItems_at hv
  obtain⟨h1,h2⟩:=argBest_lt (numAt ys) (ys.size - 1)
  refine⟨hz.kept hk,t,?_⟩
  congr 1
  obtain⟨m1,m2⟩:=yQ (is:=is) (by omega)
  refine a4e ?_ (m2 _ ?_)
  ·have m3:=m1
   rw[hns] at m3
   obtain⟨j,hj,e⟩:=mem_getD m3
   rw[a0j,Array.length_toList] at hj
   rw[hns,←e,←numAt_eq];exact h2 j (by omega)
  ·rw[hns,numAt_eq];exact getD_mem (by rw[a0j,Array.length_toList];omega)
noncomputable def Mh:List PV->Option RV:=ul λis=>some (.fz (.int is.sum))
theorem MU (hc:X.calm=true):dm X (.builtin "sum") Mh:=λz s ps us r E hz d q=>by
 obtain⟨p,ys,is,rfl,hl,hns,q⟩:=d.ints q
 cases q
 refine sum_intListG (hz.I.ok.hd hc) hl λh' tk t' hk=>⟨hz.kept hk,t',?_⟩
 rw[preSum_eq,a1o (by simp),hns]
end
end Dp
end
section
namespace Dp
open PySem PySem.Spec L2 PyProof.Rows PySem.W
section
variable {X:Cx}
theorem Inv.led {pins:List (Addr×Obj)}{σ:L2.St}{H:Hp}{s:Shared}{h':Heap}{m:Str->Option Value}(I:Inv X pins σ H s)(F0:Fr X.base X.env.locals s.heap m)(F:Fr X.base X.env.locals h' m)
  (kept:∀b o,b≠X.env.locals->s.heap.get? b=some o->h'.get? b=some o):Inv X pins σ H { s with heap:=h' }:=by
 have neL:∀b o,H b=some o->b≠X.env.locals:=λb o e z=>by subst z;rw[I.free] at e;cases e
 refine I.step (g':=s.gens) (t':=s.toks) (d':=s.drawn) (ch:=[]) (λ_ z=>nomatch z) (λb o hL _ _ e _=>kept b o hL e) (λb o hL _ _ e _=>⟨o.slots,kept b o hL e⟩) (λb o _ e n=>n) (λb o _ e=>?_)
  (λb xs e=>e) (λb o u e=>e) (λb ps e=>⟨#[],by rw[e];simp⟩) (λm1 hm=>?_) (λb o e=>?_) I.bare
 ·by_cases hb:b=X.env.locals
  ·subst hb
   obtain⟨o',_,_,z,_⟩:=F.ns
   exact⟨o',z⟩
  ·exact⟨o,kept b o hb e⟩
 ·rw[KC hm F0.ns];exact F.ns
 ·refine (I.hok b o e).stay (λd u hc q=>kept d u ?_ q) (λd z=>z) λd xs z=>z
  rcases hc with z|z
  ·rw[z];exact neL b _ e
  ·exact neL d _ z
theorem Z.ok.led {z:Z X}{s:Shared}{h':Heap}{m:Str->Option Value}(hz:z.ok s)(F0:Fr X.base X.env.locals s.heap m)(F:Fr X.base X.env.locals h' m)(kept:∀b o,b≠X.env.locals->s.heap.get? b=some o->h'.get? b=some o):z.go s { s with heap:=h' }:=
 Z.ok.ext hz (Inv.led hz.I F0 F kept) ⟨λa o n e=>kept a o (λq=>n (q▸hz.loc)) e,λa o e=>by
  by_cases hb:a=X.env.locals
  ·subst hb
   obtain⟨o',_,_,z,_⟩:=F.ns
   exact⟨o',z⟩
  ·exact⟨o,kept a o hb e⟩⟩
noncomputable def x7:List PV->Option (List (List Int))
 |[]=>some []
 |.tup qs::ps=>(gv qs).bind λis=>if is.isEmpty then none else (x7 ps).map λks=>is::ks
 |_=>none
inductive Kys (h:Heap):List (List Int)->List Value->Prop where
 |nil:Kys h [] []
 |cons {a:Addr} {is:List Int} {vs us:List Value} {ks:List (List Int)}:IsTup h a vs.toArray->IntsAre vs is->is≠[]->Kys h ks us->Kys h (is::ks) (.ref a::us)
theorem ET {c:Cn}{h:Heap}{ps:List PV}:∀{us:List Value} {ks:List (List Int)},Ds c h ps us->x7 ps=some ks->Kys h ks us:=by
 induction ps with
 |nil=>intro us ks d e;cases e;rw[show us=[] from d];exact .nil
 |cons p ps ih=>
  intro us ks d q
  obtain⟨u,r,e,d,t⟩:=d
  cases p with
  |tup qs=>
   obtain⟨is,e1,q⟩:=a0a.mp q
   split at q
   ·cases q
   ·next hne=>
    obtain⟨ks',e2,rfl⟩:=a0d.mp q
    obtain⟨a,its,rfl,_,pl,_,ds⟩:=d
    subst e
    exact .cons pl (nq ds e1) (λz=>hne (by rw[z];rfl)) (ih t e2)
  |_=>cases q
theorem Kys.length {h:Heap}{ks:List (List Int)}{us:List Value}(k:Kys h ks us):ks.length=us.length:=by
 induction k with
 |nil=>rfl
 |cons _ _ _ _ ih=>rw[a0o,a0o,ih]
theorem Kys.get {h:Heap}{ks:List (List Int)}{us:List Value}(k:Kys h ks us):∀{i:Nat},i<us.length->∃a vs,us.getD i Value.none=.ref a/\IsTup h a vs.toArray/\IntsAre vs (ks.getD i []):=by
 induction k with
 |nil=>intro i hi;exact absurd hi (a2p _)
 | @cons a is vs us ks h1 h2 h3 h4 ih=>
  intro i hi
  cases i with
  |zero=>exact⟨a,vs,rfl,h1,h2⟩
  |succ i=>exact ih (by simpa using hi)
theorem Kys.tups {h h':Heap}{L:Addr}{ks:List (List Int)}{us:List Value}(k:Kys h ks us)(nl:∀a items,IsTup h a items->a≠L)(kept:∀b o,b≠L->h.get? b=some o->h'.get? b=some o):∃fs:List Value,KatTups h' us fs/\fs.length=us.length/\∀v∈fs,∃i t,v=Value.int i t:=by
 induction k with
 |nil=>exact⟨[],KatTups.nil,rfl,λ_ z=>nomatch z⟩
 | @cons a is vs us ks h1 h2 h3 h4 ih=>
  obtain⟨fs,f1,f2,f3⟩:=ih
  have hl:=nl _ _ h1
  obtain⟨o,eo,ec,n,ed⟩:=h1
  cases h2 with
  |nil=>exact absurd rfl h3
  |cons i tk q=>
   refine⟨.int i tk::fs,KatTups.cons (kept a o hl eo) ec ed rfl f1,by rw[a0o,a0o,f2],λv hv=>?_⟩
   rcases a0t.mp hv with rfl|hv
   ·exact⟨i,tk,rfl⟩
   ·exact f3 v hv
theorem DK {prog:Program}{w:World}{A:Around}{fin:Bool}{C:Bool->Shared->Prop}{s':Shared}{xs ys:List Int}{us vs:List Value}{k:Nat}(r1:IntsAre us xs)(r2:IntsAre vs ys)(h:C (Et fin (xs.zip ys)) s'):KatLex prog w A true fin C (us.zip vs) k s':=
 Ev (nF r1) (nF r2) h
theorem BD {c:Cn}{h:Heap}{ps:List PV}{us:List Value}(d:Ds c h ps us):∀{q:List Nat},(∀i∈q,i<us.length)->Ds c h (q.map λi=>ps.getD i .non) (q.map λi=>us.getD i Value.none)
 |[],_=>rfl
 |i::q,hq=>by
  have hi:=hq i a0e
  have hl:=d.length
  obtain⟨u,e1,e2⟩:=d.get (i:=i) (p:=ps.getD i .non) (by rw[a0k,a0h (by omega)];rfl)
  refine .cons ?_ (BD d λj hj=>hq j (a0c _ hj))
  show D c h (ps.getD i .non) (us.getD i Value.none)
  rw[a0k (l:=us),e1]
  exact e2
noncomputable def uu:List PV->Option RV
 |[p]=>(la p).bind λps=>(x7 ps).bind λks=>if ps.length<64 then some (.nw ((BX ks).map λi=>ps.getD i .non)) else none
 |_=>none
theorem ye {z:Z X}{s:Shared}(hz:z.ok s){a:Addr}{items:Array Value}(h:IsTup s.heap a items):a≠X.env.locals:=λq=>by
 obtain⟨o,e,_,n,d⟩:=h
 obtain⟨m,⟨o',es,ep,e',d',_⟩,_⟩:=hz.I.loc
 rw[q,e'] at e;cases e;rw[d'] at d;cases d
theorem Cs:dm X (.builtin "sorted") uu:=λz s ps us r E hz d q=>by
 unfold uu at q
 split at q
 ·obtain⟨ts,e1,q⟩:=a0a.mp q
  obtain⟨ks,e2,q⟩:=a0a.mp q
  split at q
  ·next h64=>
   cases q
   obtain⟨u,rfl,du⟩:=d.one
   obtain⟨p,its,n,rfl,_,e1,zl,ds⟩:=D1.lst du.1 e1
   have pl:=bj e1
   have ky:=ET ds e2
   have hk:=ky.length
   have hl:=ds.length
   by_cases h2:its.length<2
   ·refine uM pl h2 ?_
    obtain⟨e,he⟩:=sortedAll_at s.heap its its.toArray
    have es:(BX ks).map (λi=>ts.getD i .non)=ts:=by
     unfold BX
     rw[if_pos (by omega),hk,hl]
     exact p5 _ _
    rw[es]
    have g:=hz.kept (h':=sortedAll s.heap its its.toArray) (t:=s.toks) λb o z=>sortedAll_old z
    have nn:=Heap.get?_none_of_le (h:=s.heap) (a:=s.heap.objs.size+1) (a5r _)
    exact⟨g,_,rfl,nn,hz.free nn,its,e,he,zl,(ds.mono (xz nn)).mono ⟨rfl,rfl,rfl,λb o q e=>⟨q,sortedAll_old e⟩⟩⟩
   ·obtain⟨m,F0⟩:=hz.I.fr
    refine kat_sorted F0 B8 pl (by omega) (by omega) λD e1 h' F' N' hlt=>?_
    have nD:=N' (D,seqObj "list" #[] e1) a0e
    have hD:s.heap.get? D=none:=by
     cases e:s.heap.get? D with
     |none=>rfl
     |some o=>exact absurd (hlt (D,o) (ph nD.2.1 nD.2.2 e)) (a1l _)
    have kp:∀(h'':Heap) (x:Addr×Obj) (F:Fr X.base X.env.locals h'' m) (N:News X.base X.env.locals h'' (x::n6 X.base s.heap X.env.locals)),∀b o,b≠X.env.locals->s.heap.get? b=some o->h''.get? b=some o:=λh'' x F N b o hb e=>by
     cases z:X.base.get? b with
     |some v=>
      have y:=hz.I.bk b v z
      rw[e] at y;cases y
      exact F.keep b _ z
     |none=>exact (N (b,o) (a0c _ (ph hb z e))).1
    have kept:=kp h' _ F' N'
    obtain⟨fs,k1,k2,k3⟩:=ky.tups (λa items h=>ye hz h) kept
    refine kat_kind (s:={ s with heap:=h' }) k1 (by omega) (T:=.type "int") (λv hv=>?_) (by decide) ?_
    ·obtain⟨i,t,rfl⟩:=k3 v hv
     exact Looks.of_pure rfl
    ·refine Ea (n:=its.length) (P:=OfN its.length) (λi j=>Op (ks.getD i []) (ks.getD j [])) (λi j C hi hj hC=>?_) (Bq (by omega)) (λhpm=>?_)
     ·obtain⟨a,vs,g1,g2,r1⟩:=ky.get hi
      obtain⟨a',vs',g1',g2',r1'⟩:=ky.get hj
      have nl1:=ye hz g2
      have nl2:=ye hz g2'
      obtain⟨o,eo,ec,n1,ed⟩:=g2
      obtain⟨o',eo',ec',n1',ed'⟩:=g2'
      show wpAny (model X.prog X.w) X.A.in1.in1 (keyLt' (tuples' (Value.type "int" != Value.type "tuple")) (its.getD i Value.none) (its.getD j Value.none)) C (λ_ _=>False) _
      rw[g1,g1',show (Value.type "int" != Value.type "tuple")=true by decide]
      refine kat_lt (kept _ _ nl1 eo) ed (kept _ _ nl2 eo') ed' (DK r1 r1' ?_)
      rw[a0g,a0g,r1.length,r1'.length]
      exact hC
     ·have eo:BX ks=(AX (λi j=>Op (ks.getD i []) (ks.getD j [])) (kas_sort its.length)).toList:=by
       unfold BX
       rw[if_neg (by omega),hk]
      generalize hpme:AX (λi j=>Op (ks.getD i []) (ks.getD j [])) (kas_sort its.length)=pm at hpm eo ⊢
      have hmem:∀i∈pm.toList,i<its.length:=λi hi=>a1b.mp (hpm.subset hi)
      refine KasFin.intro F' N' (.head λ_ z=>?_) λh'' c F'' N''=>?_
      ·exact a1d (hlt _ z)
      ·have kept2:=kp h'' _ F'' N''
       have g:=Z.ok.led hz F0 F'' kept2
       rw[eo]
       refine⟨g,D,rfl,hD,hz.free hD,_,c,(N'' (D,_) a0e).1,?_,((BD ds hmem).mono (xz hD)).mono g.2.kpD⟩
       have:=hpm.length_eq
       rw[a0j,this,a0v]
       exact zl
  ·cases q
 ·cases q
noncomputable def xc:List PV->Option RV
 |[p]=>(items p).bind λps=>(gv ps).bind λis=>if is.length<64 then some (.nw ((DY is).map PV.int)) else none
 |_=>none
theorem F7:dm X (.builtin "sorted") xc:=λz s ps us r E hz d q=>by
 unfold xc at q
 split at q
 ·obtain⟨ts,e1,q⟩:=a0a.mp q
  obtain⟨is,e2,q⟩:=a0a.mp q
  split at q
  ·next h64=>
   cases q
   obtain⟨u,rfl,du⟩:=d.one
   obtain⟨a,its,rfl,_,zl,ds,h⟩:=D1.items du.1 e1
   have hi:=nq ds e2
   have hl:=hi.length
   have main:∀(T:String) (o:Obj) (n:Nat),(T = "list"\/T = "tuple")->s.heap.get? a=some o->o.cls=.type T->o.data=.seq its.toArray n->W X (call (.builtin "sorted") [.ref a]) (Z.post z s (.nw ((DY is).map PV.int))) E s:=λT o n hT ho hc hd=>by
    refine xi hT ho hc hd hi (by omega) λh1 h' D out js e k1 k2 hD hh hi hp hu=>?_
    rw[FV hp hu] at hi
    have g:=hz.kept (t:=s.toks) λb u e=>k2 b u (k1 b u e)
    have nn:s.heap.get? D=none:=by
     cases q:s.heap.get? D with
     |none=>rfl
     |some o=>exact absurd (Heap.lt_size (k1 _ _ q)) (Nat.not_lt.mpr hD)
    refine⟨g,D,rfl,nn,hz.free nn,out,e,hh,?_,yz hi⟩
    rw[hi.length,(sD is).length_eq,sizeLine_eq];omega
   rcases h with ⟨o,ho,hc,n,hd⟩|⟨n,e⟩
   ·exact main "tuple" o n (.inr rfl) ho hc hd
   ·exact main "list" _ n (.inl rfl) e rfl rfl
  ·cases q
 ·cases q
end
end Dp
end
section
namespace Dp
open PySem PySem.Spec L2 PyProof.Rows
inductive Out where
 |nx (ρ:aq)|bk (ρ:aq)|ct (ρ:aq)|rt (p:PV) (ρ:aq)|rn (ps:List PV) (ρ:aq)|bad
noncomputable abbrev FS:=aq->Out
structure Stp (bad:Addr->Prop)(H H':Hp)(h h':Heap):Prop where
 kp:∀a o,¬bad a->H a=none->h.get? a=some o->h'.get? a=some o/\H' a=none
 th:∀a o,h.get? a=some o->∃o',h'.get? a=some o'
section
variable {X:Cx}{z:Z X}{s s' s1 s2:Shared}{h h' h1 h2:Heap}{bad:Addr->Prop}{H H1 H2:Hp}
theorem Ext.stp (e:Ext bad h h'):Stp bad H H h h':=⟨λa o n q g=>⟨e.kp a o n g,q⟩,e.th⟩
theorem Stp.trans (a:Stp bad H H1 h h1)(b:Stp bad H1 H2 h1 h2):Stp bad H H2 h h2:=
 ⟨λx o n q g=>b.kp x o n (a.kp x o n q g).2 (a.kp x o n q g).1,λx o g=>let ⟨o',q⟩:=a.th x o g;b.th x o' q⟩
theorem Stp.kpD (e:Stp bad H H1 h h'):Kp (bI X bad H) (bI X bad H1) h h':=⟨rfl,rfl,rfl,λa o q g=>⟨⟨(e.kp a o q.2 q.1 g).2,q.2⟩,(e.kp a o q.2 q.1 g).1⟩⟩
noncomputable abbrev Z.wi (z:Z X)(σ:L2.St)(H:Hp)(ρ:aq):Z X:=⟨z.bad,z.pins,σ,H,ρ⟩
noncomputable def Z.to (z:Z X)(s:Shared)(ρ:aq)(s':Shared):Prop:=∃σ' H',(z.wi σ' H' ρ).ok s'/\Stp z.bad z.H H' s.heap s'.heap
theorem Z.go.to (g:z.go s s'):z.to s z.ρ s':=⟨z.σ,z.H,g.1,g.2.stp⟩
noncomputable def Z.sp (z:Z X)(s:Shared)(o:Out)(fl:Flow)(s':Shared):Prop:=match o with
 |.nx ρ=>fl=.next/\z.to s ρ s'
 |.bk ρ=>fl=.brk/\z.to s ρ s'
 |.ct ρ=>fl=.cont/\z.to s ρ s'
 |.rt p ρ=>∃u σ' H',fl=.ret u/\(z.wi σ' H' ρ).ok s'/\Stp z.bad z.H H' s.heap s'.heap/\D (bI X z.bad H') s'.heap p u
 |.rn ps ρ=>∃a σ' H',fl=.ret (.ref a)/\(z.wi σ' H' ρ).ok s'/\Stp z.bad z.H H' s.heap s'.heap/\X.s₀.heap.get? a=none/\¬z.bad a/\ListAt (bI X z.bad (fI H' a aL)) s'.heap a ps
 |.bad=>False
noncomputable def NS (X:Cx)(st:Stmt)(f:FS):Prop:=∀(z:Z X) s E,z.ok s->f z.ρ≠.bad->W X (exec st X.env) (Z.sp z s (f z.ρ)) E s
noncomputable def Bu (X:Cx)(st:List Stmt)(f:FS):Prop:=∀(z:Z X) s E,z.ok s->f z.ρ≠.bad->W X (execs st X.env) (Z.sp z s (f z.ρ)) E s
theorem Z.sp.back {o:Out}{fl:Flow}{σ1:L2.St}{H1:Hp}{ρ1:aq}(t:Stp z.bad z.H H1 s.heap s1.heap)(h:(z.wi σ1 H1 ρ1).sp s1 o fl s'):z.sp s o fl s':=by
 cases o with
 |nx ρ=>obtain⟨e,σ',H',a,b⟩:=h;exact⟨e,σ',H',a,t.trans b⟩
 |bk ρ=>obtain⟨e,σ',H',a,b⟩:=h;exact⟨e,σ',H',a,t.trans b⟩
 |ct ρ=>obtain⟨e,σ',H',a,b⟩:=h;exact⟨e,σ',H',a,t.trans b⟩
 |rt p ρ=>obtain⟨u,σ',H',e,a,b,c⟩:=h;exact⟨u,σ',H',e,a,t.trans b,c⟩
 |rn p ρ=>obtain⟨u,σ',H',e,a,b,c⟩:=h;exact⟨u,σ',H',e,a,t.trans b,c⟩
 |bad=>exact h
theorem Z.sp.back0 {o:Out}{fl:Flow}(g:z.go s s1)(h:Z.sp z s1 o fl s'):z.sp s o fl s':=Z.sp.back (σ1:=z.σ) (H1:=z.H) (ρ1:=z.ρ) g.2.stp h
end
section
variable {X:Cx}{st:Stmt}{gl:List Stmt}{f g:FS}{e:Expr}{fe:FE}{pos:Pos}
noncomputable def aP:FS:=λρ=>.nx ρ
noncomputable def b7:FS:=λ_=>.bad
noncomputable def P5:FS:=λρ=>.bk ρ
noncomputable def Qr:FS:=λρ=>.ct ρ
noncomputable def aj (s u:FS):FS:=λρ=>match s ρ with
 |.nx ρ'=>u ρ'
 |o=>o
theorem c4:NS X st b7:=λz s E _ h=>absurd rfl h
theorem Kn:Bu X [] aP:=λz s E hz _=>wpAny_execs_nil ⟨rfl,hz.refl.to⟩
theorem KG (h1:NS X st f):Bu X [st] f:=λz s E hz hb=>by
 refine wpAny_execs_cons (aV (h1 z s E hz hb) λfl s1 q=>?_)
 generalize f z.ρ=o at hb q
 cases o with
 |nx ρ=>obtain⟨e,q⟩:=q;subst e;exact wpAny_execs_nil ⟨rfl,q⟩
 |bk ρ=>obtain⟨e,q⟩:=q;subst e;exact⟨rfl,q⟩
 |ct ρ=>obtain⟨e,q⟩:=q;subst e;exact⟨rfl,q⟩
 |rt p ρ=>obtain⟨u,σ',H',e,q⟩:=q;subst e;exact⟨u,σ',H',rfl,q⟩
 |rn p ρ=>obtain⟨u,σ',H',e,q⟩:=q;subst e;exact⟨u,σ',H',rfl,q⟩
 |bad=>exact absurd rfl hb
theorem Gx (h1:NS X st f)(h2:Bu X gl g):Bu X (st::gl) (aj f g):=λz s E hz hb=>by
 unfold aj at hb ⊢
 have hb1:f z.ρ≠.bad:=λq=>by rw[q] at hb;exact hb rfl
 refine wpAny_execs_cons (aV (h1 z s E hz hb1) λfl s1 q=>?_)
 generalize f z.ρ=o at hb q hb1
 cases o with
 |nx ρ=>
  obtain⟨e,σ',H',ok,t⟩:=q
  subst e
  exact aV (h2 (z.wi σ' H' ρ) s1 E ok hb) λfl s2 q2=>q2.back t
 |bk ρ=>obtain⟨e,q⟩:=q;subst e;exact⟨rfl,q⟩
 |ct ρ=>obtain⟨e,q⟩:=q;subst e;exact⟨rfl,q⟩
 |rt p ρ=>obtain⟨u,σ',H',e,q⟩:=q;subst e;exact⟨u,σ',H',rfl,q⟩
 |rn p ρ=>obtain⟨u,σ',H',e,q⟩:=q;subst e;exact⟨u,σ',H',rfl,q⟩
 |bad=>exact absurd rfl hb1
theorem I0:NS X (.Pass pos) aP:=λz s E hz _=>wpAny_Pass ⟨rfl,hz.refl.to⟩
theorem Gj:NS X (.Break pos) P5:=λz s E hz _=>wpAny_Break ⟨rfl,hz.refl.to⟩
theorem xX:NS X (.Continue pos) Qr:=λz s E hz _=>wpAny_Continue ⟨rfl,hz.refl.to⟩
theorem Mb {x j pos'}:NS X (.Expr (.Constant (.str x) j pos) pos') aP:=λz s E hz _=>wpAny_Expr (Calls.Constant_str (show Z.sp z s _ .next { s with toks:=s.toks+1 } from⟨rfl,(hz.tok _).to⟩)) hz.I.quiet
noncomputable def yO (o:Option RV)(ρ:aq):Out:=match o with
 |some (.fz _)=>.nx ρ
 |_=>.bad
noncomputable def eQ (f:FE):FS:=λρ=>yO (f ρ) ρ
theorem qu (h:NE X e fe)(hs:swapsWith e none pos.line X.env=pure false):NS X (.Expr e pos) (eQ fe):=λz s E hz hb=>by
 unfold eQ yO at hb ⊢
 split at hb
 ·next p er=>exact wpAny_Expr_any (aV (h z s _ E hz er) λv s1 q=>⟨rfl,q.1.to⟩) hz.I.quiet hs
 ·exact absurd rfl hb
noncomputable def Dt (o:Option RV)(ρ:aq):Out:=match o with
 |some (.fz p)=>.rt p ρ
 |some (.nw ps)=>.rn ps ρ
 |_=>.bad
noncomputable def aR (f:FE):FS:=λρ=>Dt (f ρ) ρ
theorem iN {z:Z X}{s:Shared}(hz:z.ok s){a:Addr}(n:s.heap.get? a=none):X.s₀.heap.get? a=none:=by
 cases q:X.s₀.heap.get? a with
 |none=>rfl
 |some o=>
  by_cases hx:a∈X.ex
  ·obtain⟨o',r⟩:=hz.there a (hz.ex a hx);rw[n] at r;cases r
  ·obtain⟨o',r⟩:=hz.I.base.there a o q hx;rw[n] at r;cases r
theorem Ho (h:NE X e fe):NS X (.Return (some e) pos) (aR fe):=λz s E hz hb=>by
 unfold aR Dt at hb ⊢
 split at hb
 ·next p er=>exact wpAny_Return_some (aV (h z s _ E hz er) λv s1 q=>⟨v,z.σ,z.H,rfl,q.1.1,q.1.2.stp,q.2⟩)
 ·next ps er=>exact wpAny_Return_some (aV (h z s _ E hz er) λv s1 q=>by
   obtain⟨g,a,rfl,n,o,l⟩:=q
   exact⟨a,z.σ,z.H,rfl,g.1,g.2.stp,iN hz n,o.2,l⟩)
 ·exact absurd rfl hb
noncomputable def wU (o:Option Sl)(ρ:aq):Out:=match o with
 |some (.val p)=>.rt p ρ
 |some (.own ps)=>.rn ps ρ
 |_=>.bad
noncomputable def jc (i:Nat):FS:=λρ=>wU (sl ρ i) ρ
theorem p6 {H:Hp}{a:Addr}{o:HO}(h:H a=some o):fI H a o=H:=by
 funext b;unfold fI;split
 ·next e=>rw[e,h]
 ·rfl
theorem IE {i:Nat}{x:Str}{p:Pos}(hN:X.N[i]?=some x)(hv:rX X.env.scope x)(hd:(x==("__debug__" : Str))=false)(hcd:(x==("__classdict__" : Str))=false)(hl:X.H₀=λ_=>none):NS X (.Return (some (.Name x p)) pos) (jc i):=λz s E hz hb=>by
 unfold jc wU at hb ⊢
 split at hb
 ·next q eq=>exact wpAny_Return_some (aV (L3 hN hv hd hcd z s _ E hz (show fV i z.ρ=some (.fz q) by unfold fV;rw[eq];rfl)) λv s1 w=>⟨v,z.σ,z.H,rfl,w.1.1,w.1.2.stp,w.2⟩)
 ·next ps eq=>
  have:=L3 (pos:=p) hN hv hd hcd z s (.ln (.lst ps)) (λ_ _=>True) hz (show fV i z.ρ=_ by unfold fV;rw[eq];rfl)
  obtain⟨v,e1,⟨u0,r0⟩,d⟩:=hz.slk i _ (gS eq)
  obtain⟨a,rfl,ha,l⟩:=d
  obtain⟨m,hn,hlk⟩:=hz.I.loc
  obtain⟨u,r,lk⟩:=hlk i x (.ref a) hN e1 hv
  cases (show u=Value.ref a from r)
  have nb:=hz.nb i a ⟨⟨_,gS eq,rfl⟩,e1⟩
  have fin:Z.sp z s (.rn ps z.ρ) (.ret (.ref a)) s:=⟨a,z.σ,z.H,rfl,hz,Ext.refl.stp,(nb.2.resolve_right λq=>q (by rw[hl])),nb.1,(by rw[p6 ha];exact l)⟩
  refine wpAny_Return_some (wpAny_Name ?_ hd)
  rcases lk with ⟨hk,hm⟩|⟨hk,c,hc,hcell⟩
  ·exact wpAny_loadName_local hz.I.ok.kind hk hn hm fin
  ·rcases hk with hk|hk
   ·exact wpAny_loadName_cell hz.I.ok.kind hk hc hcell fin
   ·exact wpAny_loadName_free hz.I.ok.kind hk hc hcell fin hcd
 ·exact absurd rfl hb
noncomputable def Mt (o:Option Bool)(s u:FS)(ρ:aq):Out:=match o with
 |some true=>s ρ
 |some false=>u ρ
 |none=>.bad
noncomputable def hZ (g:FB)(s u:FS):FS:=λρ=>Mt (g ρ) s u ρ
theorem PB {c:Expr}{a b:List Stmt}{fc:FB}(hc:NB X c fc)(ha:Bu X a f)(hb:Bu X b g):NS X (.If c a b pos) (hZ fc f g):=λz s E hz hn=>by
 unfold hZ Mt at hn ⊢
 split at hn
 ·next ek=>
  refine wpAny_If (aV (hc z s _ E hz ek) λd s1 ⟨e,g1⟩=>?_)
  subst e
  exact aV (ha z s1 E g1.1 hn) λfl s2 q=>q.back0 g1
 ·next ek=>
  refine wpAny_If (aV (hc z s _ E hz ek) λd s1 ⟨e,g1⟩=>?_)
  subst e
  exact aV (hb z s1 E g1.1 hn) λfl s2 q=>q.back0 g1
 ·exact absurd rfl hn
end
inductive PR where
 |v (p:PV)|n (ps:List PV)
noncomputable abbrev Fn:=List PV->Option PR
noncomputable def JH (n:Nat)(ps:List PV):aq:=ps.map (λp=>some (Sl.val p))++a0l (n - ps.length) none
noncomputable def Out.res:Out->Option PR
 |.nx _=>some (.v .non)
 |.rt p _=>some (.v p)
 |.rn ps _=>some (.n ps)
 |_=>none
noncomputable def run (a n:Nat)(s:FS)(qs:List PV):Option PR:=if qs.length=a then (s (JH n qs)).res else none
structure Rm (k:Nat)(A:Around):Prop where
 dp:A.depth+3 * k+5<recursionLimit
 un:A.units+16 * k+200<cLine
theorem Rm.mono {j k:Nat}{A:Around}(r:Rm k A)(h:j<=k):Rm j A:=⟨by have:=r.dp;omega,by have:=r.un;omega⟩
theorem Rm.deeper {k:Nat}{A:Around}(r:Rm (k+1) A)(env:Env):Rm k (A.deeper env):=
 ⟨by have:=r.dp;show A.depth+1+3 * k+5<_;omega,by have:=r.un;show A.units+3+16 * k+200<_;omega⟩
theorem Rm.depth {k:Nat}{A:Around}(r:Rm k A):A.depth<recursionLimit:=by have:=r.dp;omega
theorem Rm.units {k:Nat}{A:Around}(r:Rm k A):A.units+64<cLine:=by have:=r.un;omega
noncomputable abbrev h0:Hp:=λ_=>none
noncomputable def Fin (P:Program)(w:World)(mg:Str->Option Value)(outer:List Env)(bad:Addr->Prop)(s:Shared)(r:PR)(res:Result)(s':Shared):Prop:=
 ∃u,res=.ok (.ret u)/\s'.os=s.os/\AllBare s'.gens/\Un (qk outer) [] h0 h0 s.heap s'.heap/\match r with
  |.v p=>D ⟨kR bad h0,P,w,mg⟩ s'.heap p u
  |.n ps=>∃a,u=.ref a/\s.heap.get? a=none/\ListAt ⟨kR bad (fI h0 a aL),P,w,mg⟩ s'.heap a ps
structure NF (P:Program)(w:World)(K:PySem.W.Frag)(mg:Str->Option Value)(base:Heap)(cm:Bool)(k:Nat)(f:Addr)(fd:FuncData)(ps:List Str)(F:Fn):Prop where
 len:∀qs r,F qs=some r->qs.length=ps.length
 run:∀(A:Around) (outer:List Env) (s:Shared) (args:Args) (us:List Value) (qs:List PV) (r:PR) (bad:Addr->Prop),(cm=true->A.handled=none)->Rm k A->Env0 P w K mg base A outer s h0->BindsTo s fd args (ps.zip us) →
  (∀b∈qk outer,bad b)->(∀b,bad b->∃o,s.heap.get? b=some o)->(∀b o,base.get? b=some o->¬bad b)->Ds ⟨kR bad h0,P,w,mg⟩ s.heap qs us->F qs=some r->codeAny (model P w) A (.call (.ref f) args) (Fin P w mg outer bad s r) s
theorem NF.mono {P:Program}{w:World}{K:PySem.W.Frag}{mg:Str->Option Value}{base:Heap}{cm:Bool}{j k:Nat}{f:Addr}{fd:FuncData}{ps:List Str}{F:Fn}(n:NF P w K mg base cm j f fd ps F)(h:j<=k):NF P w K mg base cm k f fd ps F:=
 ⟨n.len,λA outer s args us qs r bad hc hr=>n.run A outer s args us qs r bad hc (hr.mono h)⟩
noncomputable def JQ (P:Program)(w:World)(K:PySem.W.Frag)(mg:Str->Option Value)(base:Heap)(cm:Bool)(N:List Str)(qual:Str)(scope:Scope)(f:Addr)(cd:Value)(A:Around)(outer:List Env)(s:Shared)(H:Hp):Cx where
 prog:=P
 w:=w
 K:=K
 mg:=mg
 base:=base
 A:=A.deeper (envOfC qual scope s.heap.objs.size f cd)
 N:=N
 s₀:=s
 H₀:=H
 env:=envOfC qual scope s.heap.objs.size f cd
 outer:=outer
 stack:=envOfC qual scope s.heap.objs.size f cd::outer
 ex:=[]
 calm:=cm
 fn:=λ_=>true
 pn:=[]
 xe:=λ_ _=>False
theorem xj {P:Program}{w:World}{K:PySem.W.Frag}{mg:Str->Option Value}{base:Heap}{cm:Bool}{N ps:List Str}{qual:Str}{scope:Scope}{f:Addr}{cd:Value}{A:Around}{outer:List Env}{s s1:Shared}{H:Hp}{us:List Value}{vs:List V}
  (S:FnScope N ps scope) (hd:cm=true->A.handled=none) (e0:Env0 P w K mg base A outer s H) (hl:vs.length=ps.length) (r:Vals vs us)
  (x:InCallC s s.heap.objs.size (bindL (envOfC qual scope s.heap.objs.size f cd).kindOf (ps.zip us) λ_=>none) (cellsFrom (s.heap.objs.size+1) scope.names []) (bindC (envOfC qual scope s.heap.objs.size f cd).kindOf (ps.zip us) λ_=>none) s1) :
  Inv (JQ P w K mg base cm N qual scope f cd A outer s H) [] (L2.iT N vs) H s1:=by
 have hpl:ps.length<=N.length:=by have:=congrArg a5w S.pre;rw[a1p] at this;omega
 obtain⟨h1,tk,rfl,hk⟩:=x.done
 have noA:∀b:Addr,b∉(JQ P w K mg base cm N qual scope f cd A outer s H).ex:=λb z=>absurd (show b∈([]:List Addr) from z) (by simp)
 refine⟨⟨e0.mod,S.kind,rfl,rfl,a0r _,λy z c h1 h2=>?_,λy hy=>?_,λy c _ h=>?_,hd,Around.frames_deeper e0.frames,.inr ⟨rfl,rfl⟩,λb z=>absurd z (noA b),e0.bs,e0.bsz,λb _ _=>noA b,λb z=>absurd z (noA b),e0.funs,e0.frf⟩,
  rfl,e0.bare,Un.kept hk,⟨_,x.toInCall.ns,λi y v h1 h2 h3=>?_⟩,λy c h=>⟨_,x.cell y c h⟩,e0.hok.fresh (a0r _),λy c h=>?_,λp hp=>absurd (show p∈([]:List (Addr×Obj)) from hp) (by simp),e0.hok.kept hk,?_⟩
 ·exact name_of_addr x.apart (PySem.mem_of_lookup h1) (PySem.mem_of_lookup h2)
 ·have hy:scope.names.lookup y=some .cell\/scope.names.lookup y=some .free:=hy
  rcases hy with hy|hy
  ·exact wo hy
  ·exact absurd rfl (S.nofree _ (PySem.mem_of_lookup hy))
 ·exact a3y (x.above y c (PySem.mem_of_lookup h))
 ·have hi:i<vs.length:=by
   unfold L2.iT at h2
   by_cases hi:i<vs.length
   ·exact hi
   ·rw[a2m (by simpa using hi)] at h2
    rw[a2j] at h2
    split at h2<;>cases h2
  have ha:vs[i]?=some v:=by
   unfold L2.iT at h2
   rw[a2d (by simpa using hi),a0s] at h2
   cases e:vs[i]? with
   |none=>rw[e] at h2;cases h2
   |some a=>rw[e] at h2;cases h2;rfl
  obtain⟨u,hu,rv⟩:=r.get ha
  have hp:ps[i]?=some y:=by
   rw[←S.pre,List.getElem?_take_of_lt (by omega)];exact h1
  have ndP:ps.Nodup:=by rw[←S.pre];exact S.nd.sublist (List.take_sublist _ _)
  refine⟨u,rv,?_⟩
  rcases S.par y (a1i hp) with k|k
  ·exact .inl ⟨k,tQ ndP hp hu k⟩
  ·obtain⟨c,e⟩:=wo (n:=s.heap.objs.size+1) k
   refine .inr ⟨.inl k,c,e,?_⟩
   have q:=x.cell y c e
   rw[sB ndP hp hu (by show scope.names.lookup y≠_;rw[k];decide)] at q
   exact q
 ·exact e0.hok.fresh (a3y (x.above y c (PySem.mem_of_lookup h)))
 ·unfold L2.iT
  show _=N.length
  rw[a0n,a0j,a1n]
  omega
theorem Ez {v:V}{a:Addr}(r:jB v (.ref a)):v=.ref a:=by
 cases v with
 |ref b=>cases (show Value.ref a=Value.ref b from r);rfl
 |non=>cases (show Value.ref a=Value.none from r)
 |bl b=>cases (show Value.ref a=Value.bool b from r)
 |ty b=>cases (show Value.ref a=Value.type b from r)
 |_=>obtain⟨_,e⟩:=r;cases e
noncomputable def Out.res2:Out->Option (PR×aq)
 |.nx ρ=>some (.v .non,ρ)
 |.rt p ρ=>some (.v p,ρ)
 |.rn ps ρ=>some (.n ps,ρ)
 |_=>none
noncomputable def AY (n:Nat)(ts:List Sl):aq:=ts.map some++a0l (n - ts.length) none
noncomputable def Ent (c:Cn)(H:Hp)(h:Heap):List Sl->List Value->Prop
 |[],us=>us=[]
 |t::ts,us=>∃u r,us=u::r/\(match t with
  |.val p=>D c h p u
  |t=>∃a,u=.ref a/\SlOk c H h t (.ref a))/\Ent c H h ts r
theorem Ent.vs {c:Cn}{H:Hp}{h:Heap}:∀{ts:List Sl} {us:List Value},Ent c H h ts us->∃vs,Vals vs us/\vs.length=ts.length/\∀(i:Nat) t v,ts[i]?=some t->vs[i]?=some v->(∃u,jB v u)/\SlOk c H h t v
 |[],us,e=>⟨[],by rw[show us=[] from e];exact .nil,rfl,λi t v e=>by simp at e⟩
 |t::ts,us,⟨u,r,e,d,en⟩=>by
  obtain⟨vs,rv,hl,hd⟩:=Ent.vs en
  have one:∃v,jB v u/\SlOk c H h t v:=by
   cases t with
   |val p=>obtain⟨v,ru,k⟩:=D1.v d;exact⟨v,ru,k⟩
   |own ps=>obtain⟨a,rfl,k⟩:=d;exact⟨.ref a,rfl,k⟩
   |dic ks ps=>obtain⟨a,rfl,k⟩:=d;exact⟨.ref a,rfl,k⟩
  obtain⟨v,ru,k⟩:=one
  subst e
  refine⟨v::vs,.cons ru rv,by simp[hl],λi t' v' e1 e2=>?_⟩
  cases i with
  |zero=>cases e1;cases e2;exact⟨⟨u,ru⟩,k⟩
  |succ i=>exact hd i t' v' (by simpa using e1) (by simpa using e2)
theorem Am {n:Nat}{ts:List Sl}{i:Nat}{t:Sl}(e:(AY n ts)[i]?=some (some t)):ts[i]?=some t:=by
 unfold AY at e
 by_cases hi:i<ts.length
 ·rw[a2d (by simpa using hi),a0s] at e
  cases w:ts[i]? with
  |none=>rw[w] at e;cases e
  |some p=>rw[w] at e;cases e;rfl
 ·rw[a2m (by simpa using hi),a2j] at e
  split at e<;>cases e
theorem Ag {P:Program}{w:World}{K:PySem.W.Frag}{mg:Str->Option Value}{base:Heap}{cm:Bool}{f:Addr}{name qual:Str}{params:Arguments}{body:List Stmt}{scope:Scope}{dV kV doc pm cdv ct oc:Value}{an od:Option Addr}
  {osl:Array (Option Value)} {N ps:List Str} {g:FS} (lk:K.lookup f=some ⟨oc,od,.func (PySem.W.fnOf name qual params body scope dV kV doc pm an cdv ct),osl⟩) (hcd:PySem.W.codeIn K cdv qual=true) (S:FnScope N ps scope)
  {A:Around} {outer:List Env} {s:Shared} {args:Args} {us:List Value} {ts:List Sl} {bad:Addr->Prop} {H:Hp} (hc:cm=true->A.handled=none) (hr:A.depth<recursionLimit) (e0:Env0 P w K mg base A outer s H) (hb:BindsTo s (PySem.W.fnOf name qual params body scope dV kV doc pm an cdv ct) args (ps.zip us))
  (hfr:∀b∈qk outer,bad b) (hth:∀b,bad b->∃o,s.heap.get? b=some o) (hbs:∀b o,base.get? b=some o->¬bad b) (hl:ts.length=ps.length) (en:Ent ⟨kR bad H,P,w,mg⟩ H s.heap ts us)
  (ho:∀(i:Nat) t,ts[i]?=some t->cH t=true->i=0) (hH:∀b o,H b=some o->o=aL/\¬bad b/\us[0]?=some (.ref b)/\∃ob,s.heap.get? b=some ob/\ob.cls≠.type "tuple")
  (hbody:Bu (JQ P w K mg base cm N qual scope f cdv A outer s H) body g) {pr:PR} {ρ':aq} (hres:(g (AY N.length ts)).res2=some (pr,ρ')) {R:Result->Shared->Prop}
  (hR:∀(bad':Addr->Prop) σ' H' u s',(∀b,bad b->bad' b)->(⟨bad',[],σ',H',ρ'⟩:Z (JQ P w K mg base cm N qual scope f cdv A outer s H)).ok s'->(match pr with
   |.v p=>D ⟨kR bad' H',P,w,mg⟩ s'.heap p u
   |.n ps=>∃a,u=.ref a/\s.heap.get? a=none/\ListAt ⟨kR bad' (fI H' a aL),P,w,mg⟩ s'.heap a ps)->R (.ok (.ret u)) s'):codeAny (model P w) A (.call (.ref f) args) R s:=by
 obtain⟨vs,rv,hv,dv⟩:=en.vs
 have KX:K.In s.heap:=e0.mod.kin.keeps λb o e=>(e0.bs b o e).1
 have lim:s.heap.NoLimit:=e0.mod.nolimit.keeps λb o e=>(e0.bs b o e).1
 have hkind:∀y∈ps.zip us,scope.names.lookup y.1=some .local\/(scope.names.lookup y.1=some .cell/\((cellsFrom (s.heap.objs.size+1) scope.names []).lookup y.1).isSome=true):=λ⟨n,v⟩ hy=>by
  rcases S.par n (a5a hy).1 with q|q
  ·exact .inl q
  ·exact .inr ⟨q,PySem.W.cellsFrom_some _ _ _ (.inl q)⟩
 refine codeAny_call_function hr (KX _ _ lk) rfl S.co S.gen rfl (PySem.W.codeRec_of KX hcd) (hb _ _ _ _ ?_)
 refine wpAny_newFunctionEnv_cells S.kind hkind λenv he s1 x=>?_
 subst he
 refine⟨lim.keeps x.toInCall.keep,codeAny_func ?_⟩
 have I:=xj (cm:=cm) (f:=f) (cd:=cdv) (qual:=qual) S hc e0 (by rw[hv,hl]) rv x
 let X:=JQ P w K mg base cm N qual scope f cdv A outer s H
 obtain⟨h1,tk,es1,hk⟩:=x.done
 let bad':Addr->Prop:=λa=>bad a\/s.heap.get? a=none/\∃o,s1.heap.get? a=some o
 have npl:ps.length<=N.length:=by have:=congrArg a5w S.pre;rw[a1p] at this;omega
 let z:Z X:=⟨bad',[],L2.iT N vs,H,AY N.length ts⟩
 have own0':∀{i a},bW (L2.iT N vs) (AY N.length ts) i a->i=0/\H a=some aL:=λ{i a} ⟨⟨t,e,o⟩,q⟩=>by
  have e1:=Am e
  have h0:=ho i t e1 o
  have hi:i<vs.length:=by rw[hv];exact (a0i.mp e1).1
  obtain⟨_,d⟩:=dv i t vs[i] e1 (a0h hi)
  unfold L2.iT at q
  rw[a2d (by simpa using hi),a0s,a0h hi] at q
  have q':vs[i]=.ref a:=Option.some.inj (Option.some.inj q)
  rw[q'] at d
  cases t with
  |val p=>cases o
  |own ps=>obtain⟨b,e,r,_⟩:=d;cases e;exact⟨h0,r⟩
  |dic ks ps=>obtain⟨b,e,r,_⟩:=d;cases e;exact⟨h0,r⟩
 have nH:∀b o,H b=some o->¬bad' b:=λb o e y=>y.elim (hH b o e).2.1 λy=>by
  obtain⟨_,_,_,ob,q,_⟩:=hH b o e
  rw[y.1] at q;cases q
 have kp:Kp ⟨kR bad H,P,w,mg⟩ (bI X bad' H) s.heap s1.heap:=⟨rfl,rfl,rfl,λa o q e=>by
  rw[es1]
  exact⟨⟨q.1,λw=>w.elim q.2 λw=>by rw[w.1] at e;cases e⟩,hk a o e⟩⟩
 have hz:z.ok s1:=by
  refine⟨I,?_,λi t e=>?_,λi j a o1 o2=>(own0' o1).1.trans (own0' o2).1.symm,λi a o=>⟨nH a _ (own0' o).2,.inr λy=>?_⟩,λb o e=>(hH b o e).1,λb o e=>(hH b o e).1,?_,λy c e=>?_,λb hb=>(Or.inl (hfr b hb):bad b\/_),λb hb=>absurd (show b∈([]:List Addr) from hb) (by simp),λb hb=>?_,λb o e hb=>?_,λa o e=>⟨nH a o e,?_⟩,λ_ a e=>?_⟩
  ·show (L2.iT N vs).length=(AY N.length ts).length
   unfold L2.iT AY;simp only[a0n,a0j,a1n];omega
  ·have ep:=Am e
   have hiv:i<vs.length:=by rw[hv];exact (a0i.mp ep).1
   obtain⟨r1,r2⟩:=dv i t vs[i] ep (a0h hiv)
   refine⟨vs[i],?_,r1,SlOk.mono (c:=⟨kR bad H,P,w,mg⟩) (c':=bI X bad' H) kp (λa o _ e=>by rw[es1];exact hk a o e) r2⟩
   show (L2.iT N vs)[i]?=_
   unfold L2.iT
   rw[a2d (by simpa using hiv),a0s,a0h hiv];rfl
  ·have y':H a=none:=y
   rw[(own0' o).2] at y';cases y'
  ·refine Or.inr ⟨Heap.get?_none_of_le (a0r _),?_⟩
   obtain⟨o,_,_,e,_⟩:=x.toInCall.ns
   exact⟨o,e⟩
  ·refine Or.inr ⟨Heap.get?_none_of_le (a3y (x.above y c (PySem.mem_of_lookup e))),?_⟩
   obtain⟨o,e,_⟩:=x.cell y c e
   exact⟨o,e⟩
  ·rcases hb with hb|hb
   ·obtain⟨o,e⟩:=hth b hb
    exact⟨o,by rw[es1];exact hk b o e⟩
   ·exact hb.2
  ·rcases hb with hb|hb
   ·exact hbs b o e hb
   ·have e':base.get? b=some o:=e
    rw[(e0.bs b o e').1] at hb;cases hb.1
  ·obtain⟨_,_,_,ob,q1,q2⟩:=hH a o e
   exact⟨ob,by rw[es1];exact hk a ob q1,q2⟩
  ·have e':H a≠none:=e
   cases q:H a with
   |none=>exact absurd q e'
   |some o=>
    obtain⟨_,_,q0,_⟩:=hH a o q
    obtain⟨u,ru,hu⟩:∃v,vs[0]?=some v/\v=.ref a:=by
     have:=rv.length
     cases rv with
     |nil=>simp at q0
     |cons r rr=>
      simp at q0;subst q0
      refine⟨_,rfl,?_⟩
      exact Ez r
    subst hu
    show (L2.iT N vs)[0]?=_
    have hi:0<vs.length:=(a0i.mp ru).1
    unfold L2.iT
    rw[a2d (by simpa using hi),a0s,ru];rfl
 have hnb:g z.ρ≠.bad:=λq'=>by
  rw[show g (AY N.length ts)=.bad from q'] at hres;cases hres
 refine wpAny_mono (hbody z s1 (λ_ _=>False) hz hnb) (λfl s' hs=>?_) λe s' hs=>hs.elim
 have hs:z.sp s1 (g (AY N.length ts)) fl s':=hs
 generalize g (AY N.length ts)=o at hs hres
 cases o with
 |nx ρ=>cases hres;obtain⟨e,σ',H',ok,t⟩:=hs;subst e;exact hR bad' σ' H' .none s' (λb=>.inl) ok rfl
 |rt p ρ=>cases hres;obtain⟨u,σ',H',e,ok,t,d⟩:=hs;subst e;exact hR bad' σ' H' u s' (λb=>.inl) ok d
 |rn ps' ρ=>cases hres;obtain⟨a,σ',H',e,ok,t,n,nb,l⟩:=hs;subst e;exact hR bad' σ' H' _ s' (λb=>.inl) ok ⟨a,rfl,n,l⟩
 |bk ρ=>cases hres
 |ct ρ=>cases hres
 |bad=>cases hres
theorem rF {c:Cn}{H:Hp}{h:Heap}:∀{qs:List PV} {us:List Value},Ds c h qs us->Ent c H h (qs.map Sl.val) us
 |[],_,e=>e
 |_::_,_,⟨u,r,e,d,t⟩=>⟨u,r,e,d,rF t⟩
theorem Fd {n:Nat}{qs:List PV}:JH n qs=AY n (qs.map Sl.val):=by unfold JH AY;rw[a1u,a0j];rfl
theorem C7 {o:Out}{r:PR}(h:o.res=some r):∃ρ,o.res2=some (r,ρ):=by
 cases o<;>cases h<;>exact⟨_,rfl⟩
theorem L8 {P:Program}{w:World}{K:PySem.W.Frag}{mg:Str->Option Value}{base:Heap}{cm:Bool}{k:Nat}{f:Addr}{name qual:Str}{params:Arguments}{body:List Stmt}{scope:Scope}{dV kV doc pm cdv ct oc:Value}{an od:Option Addr}
  {osl:Array (Option Value)} {N ps:List Str} {g:FS} (lk:K.lookup f=some ⟨oc,od,.func (PySem.W.fnOf name qual params body scope dV kV doc pm an cdv ct),osl⟩) (hcd:PySem.W.codeIn K cdv qual=true) (S:FnScope N ps scope)
  (hbody:∀(A:Around) (outer:List Env) (s:Shared),(cm=true->A.handled=none)->Rm k (A.deeper (envOfC qual scope s.heap.objs.size f cdv))->Bu (JQ P w K mg base cm N qual scope f cdv A outer s h0) body g) :
  NF P w K mg base cm (k+1) f (PySem.W.fnOf name qual params body scope dV kV doc pm an cdv ct) ps (run ps.length N.length g):=by
 refine⟨λqs r q=>?_,λA outer s args us qs r bad hc hr e0 hb hfr hth hbs ds q=>?_⟩
 ·unfold run at q;split at q
  ·assumption
  ·cases q
 ·unfold run at q
  split at q
  ·next hl=>
   obtain⟨ρ',q2⟩:=C7 q
   rw[Fd] at q2
   refine Ag (H:=h0) (ts:=qs.map .val) lk hcd S hc hr.depth e0 hb hfr hth hbs (by rw[a0j];exact hl) (rF ds) (λi t e o=>?_) (λb o e=>by cases e) (hbody A outer s hc (hr.deeper _)) q2 λbad' σ' H' u s' hb' ok d=>?_
   ·rw[a0s] at e
    obtain⟨p,_,rfl⟩:=a0d.mp e
    cases o
   ·have b:=ok.I.base
    refine⟨u,rfl,ok.I.os,ok.I.bare,⟨b.keep,b.slot,λb o _ n _=>rfl,b.there,λb xs e=>(by cases e),λb o u e=>(by cases e),λb ps e=>(by cases e)⟩,?_⟩
    cases r with
    |v p=>exact D1.m (c:=⟨kR bad' H',P,w,mg⟩) (c':=⟨kR bad h0,P,w,mg⟩) d ⟨rfl,rfl,rfl,λa o q e=>⟨⟨rfl,λw=>q.2 (hb' a w)⟩,e⟩⟩
    |n ps'=>
     obtain⟨a,rfl,n,l⟩:=d
     refine⟨a,rfl,n,ListAt.mono (c:=⟨kR bad' (fI H' a aL),P,w,mg⟩) (c':=⟨kR bad (fI h0 a aL),P,w,mg⟩) ⟨rfl,rfl,rfl,λb o q e=>⟨⟨?_,λw=>q.2 (hb' b w)⟩,e⟩⟩ (λ_ e=>e) l⟩
     have q1:=q.1
     by_cases hb:b=a
     ·subst hb;rw[bQ] at q1;cases q1
     ·rw[aS hb]
  ·cases q
section
variable {X:Cx}{e:Expr}{es:List Expr}{fs:FA}{pos:Pos}
mutual
noncomputable def tf:PV->Bool
 |.tup ps=>xa ps
 |p=>jz p
noncomputable def xa:List PV->Bool
 |[]=>true
 |p::ps=>tf p&&xa ps
end
noncomputable def OF:PR->Bool
 |.v p=>tf p
 |.n ps=>xa ps
noncomputable def wJ:PR->RV
 |.v p=>.fz p
 |.n ps=>.nw ps
noncomputable def qK (F:Fn)(o:Option (List PV))(rs:List RV):Option RV:=match o with
 |some ps=>(F ps).map wJ
 |none=>(F (rs.map RV.pv)).bind λr=>if OF r=true then some (wJ r) else none
noncomputable def ao (F:Fn)(fs:FA):FE:=λρ=>(fs ρ).bind λrs=>qK F (rs.mapM RV.fr) rs
noncomputable def Cm (F:Fn):FE:=λ_=>(F []).map wJ
theorem Pf {H:Hp}{fs:List Addr}{h h':Heap}(u:Un fs [] h0 h0 h h')(ho:∀b o,H b=some o->o=aL):Un fs [] H H h h':=
 ⟨λb o e _ f x=>u.keep b o e rfl f x,λb o e _ f x=>u.slot b o e rfl f x,λ_ _ _ n _=>n,u.there,λ_ _ e=>e,λ_ _ _ e=>e,λb ps e=>⟨#[],by rw[e];simp⟩⟩
theorem Iz {P:Program}{w:World}{mg:Str->Option Value}{ok:Addr->Prop}{ok':Addr->Prop}{h:Heap}(k:∀a o,ok a->h.get? a=some o->o.cls=.type "tuple"->ok' a):(∀{p:PV} {u:Value},tf p=true->D ⟨ok,P,w,mg⟩ h p u->D ⟨ok',P,w,mg⟩ h p u)/\∀{ps:List PV} {us:List Value},xa ps=true->Ds ⟨ok,P,w,mg⟩ h ps us->Ds ⟨ok',P,w,mg⟩ h ps us:=by
 have a:(∀(p:PV),∀{u:Value},tf p=true->D ⟨ok,P,w,mg⟩ h p u->D ⟨ok',P,w,mg⟩ h p u):=λp=>by
  induction p using PV.rec (motive_2:=λps=>∀{us:List Value},xa ps=true->Ds ⟨ok,P,w,mg⟩ h ps us->Ds ⟨ok',P,w,mg⟩ h ps us) with
  |tup ps ih=>
   intro u t d
   obtain⟨a,its,rfl,o,⟨ob,e,c,r⟩,l,ds⟩:=d
   exact⟨a,its,rfl,k a ob o e c,⟨ob,e,c,r⟩,l,ih t ds⟩
  |nil=>assumption
  |cons p ps ihp ihs=>
   rename_i us t d
   obtain⟨u,r,e,d1,d2⟩:=d
   rw[xa,a0b] at t
   exact⟨u,r,e,ihp t.1 d1,ihs t.2 d2⟩
  |non=>intro u _ d;exact d
  |bl=>intro u _ d;exact d
  |int=>intro u _ d;exact d
  |str=>intro u _ d;exact d
  |ty=>intro u _ d;exact d
  |fn=>intro u _ d;exact d
  |_=>intro u t;cases t
 refine⟨λ{p u} t d=>a p t d,λ{ps}=>?_⟩
 induction ps with
 |nil=>intro us _ d;exact d
 |cons p ps ih=>
  intro us t d
  obtain⟨u,r,e,d1,d2⟩:=d
  rw[xa,a0b] at t
  exact⟨u,r,e,a p t.1 d1,ih t.2 d2⟩
theorem Z.ok.after {z:Z X}{s s':Shared}(hz:z.ok s)(os:s'.os=s.os)(g:AllBare s'.gens)(u:Un (qk X.stack) [] h0 h0 s.heap s'.heap):z.go s s':=by
 have hfr:∀b∈qk X.stack,z.bad b:=λb hb=>by
  rcases a0t.mp (hz.I.stkSub b hb) with e|e
  ·rw[e];exact hz.loc
  ·exact hz.fs b e
 have hok:HOk X.prog X.w z.H s'.heap:=λb o e=>by
  have e2:=hz.oh b o e
  subst e2
  obtain⟨ob,q⟩:=hz.stands e
  obtain⟨o',q'⟩:=u.there b ob q (by simp)
  exact⟨trivial,⟨o',q'⟩,λ_ _ _ _=>trivial⟩
 exact Z.ok.ext hz (hz.I.call' os (Pf u hz.oh) hok g (λb z=>absurd z (by simp))) ⟨λa o n e=>u.keep a o e rfl (λq=>n (hfr a q)) (by simp),λa o e=>u.there a o e (by simp)⟩
theorem D7 {cm:Bool}{k:Nat}{f:Addr}{fd:FuncData}{ps:List Str}{F:Fn}(n:NF X.prog X.w X.K X.mg X.base cm k f fd ps F)(hc:cm=true->X.calm=true)(hr:Rm k X.A)(hb:Binds X.K fd ps []){z:Z X}{s:Shared}(hz:z.ok s){bad:Addr->Prop}(hbd:∀a,z.bad a->bad a)(hbd2:∀a,bad a->z.bad a\/z.H a≠none){us:List Value}{qs:List PV}{r:PR}
  (ds:Ds ⟨kR bad h0,X.prog,X.w,X.mg⟩ s.heap qs us) (q:F qs=some r) {Q:Value->Shared->Prop} {E:Value->Shared->Prop} (h:∀u s',z.go s s'->(match r with
  |.v p=>D ⟨kR bad h0,X.prog,X.w,X.mg⟩ s'.heap p u
  |.n ps=>∃a,u=.ref a/\s.heap.get? a=none/\ListAt ⟨kR bad (fI h0 a aL),X.prog,X.w,X.mg⟩ s'.heap a ps)->Q u s'):W X (call (.ref f) us) Q E s:=by
 have e0:=hz.I.env0
 have e1:Env0 X.prog X.w X.K X.mg X.base X.A X.stack s h0:=⟨e0.frames,e0.mod,λb o e=>⟨(e0.bs b o e).1,rfl⟩,e0.bsz,e0.funs,λ_ _=>rfl,(λb o e=>by cases e),e0.bare⟩
 have hl:(us++[]).length=ps.length:=by rw[a1x,ds.length];exact n.len _ _ q
 have hfr:∀b∈qk X.stack,z.bad b:=λb hb=>by
  rcases a0t.mp (hz.I.stkSub b hb) with e|e
  ·rw[e];exact hz.loc
  ·exact hz.fs b e
 refine wpAny_call (codeAny_mono (n.run X.A X.stack s ⟨us,[]⟩ us qs r bad (λc=>hz.I.ok.hd (hc c)) hr e1 (by have:=hb s us hz.I.kIn hl;rwa [a1x] at this) (λb q=>hbd b (hfr b q)) (λb q=>?_) (λb o e q=>?_) ds q) λres s' hq=>?_)
 ·rcases hbd2 b q with w|w
  ·exact hz.there b w
  ·cases e:z.H b with
   |none=>exact absurd e w
   |some o=>exact hz.stands e
 ·rcases hbd2 b q with w|w
  ·exact hz.bs b o e w
  ·exact w (hz.I.bs b o e).2
 ·obtain⟨u,rfl,os,bare,un,w⟩:=hq
  exact h u s' (Z.ok.after hz os bare un) w
theorem xA {cm:Bool}{k:Nat}{f:Addr}{fd:FuncData}{ps:List Str}{F:Fn}(n:NF X.prog X.w X.K X.mg X.base cm k f fd ps F)(hc:cm=true->X.calm=true)(hr:Rm k X.A)(hb:Binds X.K fd ps []){z:Z X}{s:Shared}{h00:Heap}(hz:z.ok s){us:List Value}{rs:List RV}{r:RV}{E:Value->Shared->Prop}(ds:RvsOk z h00 s.heap rs us)(q:qK F (rs.mapM RV.fr) rs=some r):W X (call (.ref f) us) (Z.post z s r) E s:=by
 cases em:rs.mapM RV.fr with
 |some qs=>
  rw[em] at q
  obtain⟨pr,e,rfl⟩:=a0d.mp q
  refine D7 n hc hr hb hz (bad:=λa=>z.bad a\/z.H a≠none) (λa h=>.inl h) (λa h=>h) (Ds.mono (c:=z.cn) (c':=⟨kR (λa=>z.bad a\/z.H a≠none) h0,X.prog,X.w,X.mg⟩) ⟨rfl,rfl,rfl,λa o q e=>⟨⟨rfl,λw=>w.elim q.2 λw=>w q.1⟩,e⟩⟩ (ds.fr em)) e λu s' g d=>⟨g,?_⟩
  have ok:∀{a:Addr},¬(z.bad a\/z.H a≠none)->kR z.bad z.H a:=λ{a} w=>⟨by
   cases e:z.H a with
   |none=>rfl
   |some o=>exact absurd (.inr (by rw[e];simp)) w,λb=>w (.inl b)⟩
  cases pr with
  |v p=>exact D1.m (c:=⟨kR (λa=>z.bad a\/z.H a≠none) h0,X.prog,X.w,X.mg⟩) (c':=z.cn) d ⟨rfl,rfl,rfl,λa o q e=>⟨ok q.2,e⟩⟩
  |n ps=>
   obtain⟨a,rfl,n,l⟩:=d
   refine⟨a,rfl,n,hz.free n,ListAt.mono (c:=⟨kR (λa=>z.bad a\/z.H a≠none) (fI h0 a aL),X.prog,X.w,X.mg⟩) (c':=bI X z.bad (fI z.H a aL)) ⟨rfl,rfl,rfl,λb o q e=>⟨⟨?_,(ok q.2).2⟩,e⟩⟩ (λ_ e=>e) l⟩
   have q1:=q.1
   by_cases hb:b=a
   ·subst hb;rw[bQ] at q1;cases q1
   ·rw[aS hb];exact (ok q.2).1
 |none=>
  rw[em] at q
  obtain⟨pr,e,q⟩:=a0a.mp q
  split at q
  ·next ht=>
   cases q
   have dd:Ds ⟨kR z.bad h0,X.prog,X.w,X.mg⟩ s.heap (rs.map RV.pv) us:=by
    clear em e q
    induction ds with
    |nil=>rfl
    |cons d _ ih=>
     refine .cons ?_ ih
     have v:=d.rv
     cases hl:Lv (RV.pv _) with
     |false=>exact D1.m (c:=z.cn) (c':=⟨kR z.bad h0,X.prog,X.w,X.mg⟩) (v.fz hl) ⟨rfl,rfl,rfl,λa o q e=>⟨⟨rfl,q.2⟩,e⟩⟩
     |true=>
      refine D1.mono (top:=λa=>¬z.bad a) (c:=z.cn) (c':=⟨kR z.bad h0,X.prog,X.w,X.mg⟩) ⟨rfl,rfl,rfl,λa o q e=>⟨⟨rfl,q.2⟩,e⟩⟩ (λa o q e=>⟨⟨rfl,q⟩,e⟩) ?_
      generalize RV.pv _=p at v hl
      cases p with
      |lst ps=>obtain⟨a,its,n,e1,_,r⟩:=v.rd;exact⟨a,its,n,e1,v.nb rfl a e1,r⟩
      |dct ks ps=>obtain⟨a,its,e1,_,r⟩:=v.rd;exact⟨a,its,e1,v.nb rfl a e1,r⟩
      |_=>cases hl
   refine D7 n hc hr hb hz (bad:=z.bad) (λa h=>h) (λa h=>.inl h) dd e λu s' g d=>⟨g,?_⟩
   have ok:∀a o,¬z.bad a->s'.heap.get? a=some o->o.cls=.type "tuple"->z.H a=none:=λa o w e c=>by
    cases q:z.H a with
    |none=>rfl
    |some o'=>
     obtain⟨ob,r1,r2⟩:=(g.1.ot a o' q).2
     rw[e] at r1;cases r1
     exact absurd c r2
   cases pr with
   |v p=>exact (Iz λa o q e c=>⟨ok a o q.2 e c,q.2⟩).1 ht d
   |n ps=>
    obtain⟨a,rfl,n,its,m,e1,l,t⟩:=d
    refine⟨a,rfl,n,hz.free n,its,m,e1,l,(Iz λb o q e c=>⟨?_,q.2⟩).2 ht t⟩
    have q1:=q.1
    by_cases hb:b=a
    ·subst hb;rw[bQ] at q1;cases q1
    ·rw[aS hb];exact ok b o q.2 e c
  ·cases q
structure DefN (P:Program)(w:World)(K:PySem.W.Frag)(mg:Str->Option Value)(base:Heap)(cm:Bool)(k:Nat)(x:Str)(F:Fn):Prop where
 ex:∃f fd ps,NF P w K mg base cm k f fd ps F/\Binds K fd ps []/\PySem.W.keepIn K (.ref f)=true/\mg x=some (.ref f)
theorem Ja {cm:Bool}{k j:Nat}{x:Str}{p:Pos}{F:Fn}(n:DefN X.prog X.w X.K X.mg X.base cm j x F)(hj:j<=k)(hc:cm=true->X.calm=true)(hr:Rm k X.A)(hg:Gl X x)(ha:NA X (e::es) fs)(hdb:(x==("__debug__" : Str))=false)
  (he:starEach (e::es) X.env=(false,eval e X.env)::starEach es X.env) (hpl:(backTo pos (starEach es X.env)).any (·.1)=false):NE X (.Call (.Name x p) (e::es) [] pos) (ao F fs):=λz s r E hz q=>by
 obtain⟨f,fd,ps,n,hb,hk,hm⟩:=n.ex
 obtain⟨rs,er,q⟩:=a0a.mp q
 refine wpAny_Call_Name_kw (pU hz.I hg hm ?_ hdb)
 refine PySem.W.callWith_K (h₀:=X.base) hz.I.ok.mod.kin hk (aV (ha z pos s rs E hz er) λus s1 ⟨g1,d1⟩=>⟨g1.1.I.kIn,?_⟩) he hpl
 exact aV (xA (n.mono hj) hc hr hb g1.1 d1 q) λu s2 q2=>g1.post q2
theorem FC {cm:Bool}{k j:Nat}{x:Str}{p:Pos}{F:Fn}(n:DefN X.prog X.w X.K X.mg X.base cm j x F)(hj:j<=k)(hc:cm=true->X.calm=true)(hr:Rm k X.A)(hg:Gl X x)(hdb:(x==("__debug__" : Str))=false):NE X (.Call (.Name x p) [] [] pos) (Cm F):=λz s r E hz q=>by
 obtain⟨f,fd,ps,n,hb,hk,hm⟩:=n.ex
 obtain⟨pr,er,rfl⟩:=a0d.mp q
 refine wpAny_Call_Name_kw (pU hz.I hg hm ?_ hdb)
 exact PySem.W.callWith_K0 hz.I.kIn hk (xA (rs:=[]) (h00:=s.heap) (us:=[]) (n.mono hj) hc hr hb hz .nil (show (F []).map wJ=_ by rw[er];rfl))
structure Nm (X:Cx)(i:Nat)(x:Str):Prop where
 nd:X.N.Nodup
 ix:X.N[i]?=some x
 loc:Qj X.env.scope x
 fn:X.fn x=true\/X.env.scope.names.lookup x=some .local
 an:X.fn "" = true->(∃a,X.H₀ a≠none)->i≠0
theorem lV {σ:L2.St}{ρ:aq}{i j:Nat}{a:Addr}{v:V}{p:PV}(o:bW (σ.set i (some v)) (ρ.set i (some (.val p))) j a):bW σ ρ j a:=by
 obtain⟨⟨t,e,ot⟩,q⟩:=o
 by_cases hj:i=j
 ·subst hj
  rw[a3c] at e
  simp only[if_true] at e
  split at e
  ·cases e;cases ot
  ·cases e
 ·rw[a0q hj] at e q
  exact⟨⟨t,e,ot⟩,q⟩
noncomputable def Z.tv (z:Z X)(s:Shared)(ρ:aq)(s':Shared):Prop:=∃σ',(z.wi σ' z.H ρ).ok s'/\Ext z.bad s.heap s'.heap
theorem Z.tv.to {z:Z X}{s s':Shared}{ρ:aq}:z.tv s ρ s'->z.to s ρ s'
 |⟨σ',ok,e⟩=>⟨σ',z.H,ok,e.stp⟩
theorem Z.ok.stored {z:Z X}{s s':Shared}(hz:z.ok s){i:Nat}(an:X.fn "" = true->(∃a,X.H₀ a≠none)->i≠0){p:PV}{u:Value}{v:V}(hi:i<z.σ.length)(d:D z.cn s.heap p u)(ru:jB v u)(rv:∀u',jB v u'->D z.cn s.heap p u')(I':Inv X z.pins (z.σ.set i (some v)) z.H s')(e:Ext z.bad s.heap s'.heap):z.tv s (z.ρ.set i (some (.val p))) s':=by
 have hi2:i<z.ρ.length:=by rw[←hz.len];exact hi
 refine⟨z.σ.set i (some v),⟨I',by simp[hz.len],λj t q=>?_,λj k a o1 o2=>hz.dj j k a (lV o1) (lV o2),λj a o=>hz.nb j a (lV o),hz.oh,hz.oh0,hz.loc,hz.cel,hz.fs,hz.ex,λb q=>let ⟨o,r⟩:=hz.there b q;e.th b o r,hz.bs,λa o q=>⟨(hz.ot a o q).1,let ⟨ob,r1,r2⟩:=(hz.ot a o q).2;⟨ob,e.kp a ob (hz.ot a o q).1 r1,r2⟩⟩,λhf a ha=>(a0q (an hf ⟨a,ha⟩)).trans (hz.anc hf a ha)⟩,e⟩
 by_cases hj:i=j
 ·subst hj
  have q:(z.ρ.set i (some (.val p)))[i]?=some (some t):=q
  rw[a0x hi2] at q
  cases q
  exact⟨v,a0x hi,⟨u,ru⟩,λu' r=>(rv u' r).m e.kpD⟩
 ·have q:(z.ρ.set i (some (.val p)))[j]?=some (some t):=q
  rw[a0q hj] at q
  obtain⟨w,e1,r,d⟩:=hz.slk j t q
  exact⟨w,by rw[show (z.wi (z.σ.set i (some v)) z.H (z.ρ.set i (some (.val p)))).σ=z.σ.set i (some v) from rfl,a0q hj];exact e1,r,d.step hz e q e1⟩
theorem k8 {z:Z X}{s s':Shared}{x:Str}{a:Addr}(hz:z.ok s){σ':L2.St}{H':Hp}(I':Inv X z.pins σ' H' s')(sb:Heap.SameBut a s.heap s'.heap)(ha:a=X.env.locals\/X.env.cells.lookup x=some a):Ext z.bad s.heap s'.heap:=by
 have hb:z.bad a:=by
  rcases ha with e|e
  ·rw[e];exact hz.loc
  ·exact hz.cel x a e
 refine⟨λb o n e=>(sb.2 b (λq=>n (q▸hb))).trans e,λb o e=>?_⟩
 by_cases hba:b=a
 ·subst hba
  rcases ha with q|q
  ·obtain⟨m,⟨o',_,_,e',_⟩,_⟩:=I'.loc;exact⟨o',by rw[q];exact e'⟩
  ·obtain⟨v,o',e',_⟩:=I'.cell x b q;exact⟨o',e'⟩
 ·exact⟨o,(sb.2 b hba).trans e⟩
theorem g8 {z:Z X}{s:Shared}(hz:z.ok s){i:Nat}{x:Str}(nm:Nm X i x){p:PV}{u:Value}(d:D z.cn s.heap p u){E:Value->Shared->Prop} :
  W X (storeName X.env x u) (λ_ s'=>z.tv s (z.ρ.set i (some (.val p))) s') E s:=by
 obtain⟨v,ru,rv⟩:=d.v
 refine jX hz.I nm.nd nm.ix nm.loc ru (λs' I' ⟨a,sb,ha⟩=>?_) nm.fn
 exact Z.ok.stored hz nm.an (by rw[hz.I.len];exact (a0i.mp nm.ix).1) d ru rv I' (k8 hz I' sb ha)
theorem Inv.track {pins:List (Addr×Obj)}{σ:L2.St}{H:Hp}{s:Shared}{a:Addr}{ob:Obj}(I:Inv X pins σ H s)(hn:H a=none)(ho:s.heap.get? a=some ob)(h00:X.s₀.heap.get? a=none)(hL:a≠X.env.locals)(hC:∀x c,X.env.cells.lookup x=some c->c≠a)(hp:∀p∈X.pn++pins,p.1≠a):Inv X pins σ (fI H a aL) s:=by
 have ne:∀b o,H b=some o->b≠a:=λb o e z=>by subst z;rw[hn] at e;cases e
 refine⟨I.ok,I.os,I.bare,⟨I.base.keep,I.base.slot,λb o e n hx=>?_,I.base.there,λb xs e=>?_,λb o u e=>?_,λb ps e=>?_⟩,I.loc,I.cell,?_,λx c e=>?_,λp q=>?_,λb o e=>?_,I.len⟩
 ·rw[aS (λz=>by subst z;rw[h00] at e;cases e)];exact I.base.free b o e n hx
 ·have:=I.base.tups b xs e;rw[aS (ne b _ this)];exact this
 ·have:=I.base.frzs b o u e;rw[aS (ne b _ this)];exact this
 ·obtain⟨m,this⟩:=I.base.tbls b ps e;exact⟨m,by rw[aS (ne b _ this)];exact this⟩
 ·rw[aS (Ne.symm hL)];exact I.free
 ·rw[aS (hC x c e)];exact I.freeC x c e
 ·obtain⟨q1,q2,q3⟩:=I.pin p q;exact⟨q1,by rw[aS (hp p q)];exact q2,q3⟩
 ·by_cases hb:b=a
  ·subst hb;rw[bQ] at e;cases e;exact⟨trivial,⟨ob,ho⟩,λ_ _ _ _=>trivial⟩
  ·rw[aS hb] at e
   exact (I.hok b o e).stay (λ_ _ _ q=>q) (λc q=>by rw[aS (ne c _ q)];exact q) λc xs q=>by rw[aS (ne c _ q)];exact q
noncomputable def xu (H:Hp)(a:Addr):Hp:=λb=>if b=a then none else H b
theorem nP {H:Hp}{a:Addr}:xu H a a=none:=by unfold xu;rw[if_pos rfl]
theorem jA {H:Hp}{a b:Addr}(h:b≠a):xu H a b=H b:=by unfold xu;rw[if_neg h]
theorem j6 {H:Hp}{a b:Addr}(h:H b=none):xu H a b=none:=by unfold xu;split<;>trivial
theorem Inv.untrack {pins:List (Addr×Obj)}{σ:L2.St}{H:Hp}{s:Shared}{a:Addr}(I:Inv X pins σ H s)(ha:H a=some aL):Inv X pins σ (xu H a) s:=by
 have ne:∀b o,H b=some o->o≠aL->b≠a:=λb o e n z=>by subst z;rw[ha] at e;cases e;exact n rfl
 refine⟨I.ok,I.os,I.bare,⟨I.base.keep,I.base.slot,λb o e n hx=>j6 (I.base.free b o e n hx),I.base.there,λb xs e=>?_,λb o u e=>?_,λb ps e=>?_⟩,I.loc,I.cell,j6 I.free,λx c e=>j6 (I.freeC x c e),λp q=>?_,λb o e=>?_,I.len⟩
 ·have:=I.base.tups b xs e;rw[jA (ne b _ this λq=>nomatch q)];exact this
 ·have:=I.base.frzs b o u e;rw[jA (ne b _ this λq=>nomatch q)];exact this
 ·obtain⟨m,this⟩:=I.base.tbls b ps e;exact⟨m,by rw[jA (ne b _ this λq=>nomatch q)];exact this⟩
 ·obtain⟨q1,q2,q3⟩:=I.pin p q;exact⟨q1,j6 q2,q3⟩
 ·by_cases hb:b=a
  ·subst hb;rw[nP] at e;cases e
  ·rw[jA hb] at e
   exact (I.hok b o e).stay (λ_ _ _ q=>q) (λc q=>by rw[jA (ne c _ q λq=>nomatch q)];exact q) λc xs q=>by rw[jA (ne c _ q λq=>nomatch q)];exact q
theorem tC {z:Z X}{s1:Shared}(hz:z.ok s1){i:Nat}{x:Str}(nm:Nm X i x){t:Sl}(ht:cH t=true){a:Addr}(fr:kR z.bad z.H a)(h00:X.s₀.heap.get? a=none)(hp:∀p∈X.pn++z.pins,p.1≠a)
  (nt:∃ob,s1.heap.get? a=some ob/\ob.cls≠.type "tuple") (d:SlOk (bI X z.bad (fI z.H a aL)) (fI z.H a aL) s1.heap t (.ref a)) (sk:∀(j:Nat) t v,z.ρ[j]?=some (some t)->z.σ[j]?=some (some v)->SlOk (bI X z.bad (fI z.H a aL)) z.H s1.heap t v) {E:Value->Shared->Prop} :
  W X (storeName X.env x (.ref a)) (λ_ s'=>∃σ',(z.wi σ' (fI z.H a aL) (z.ρ.set i (some t))).ok s'/\Ext z.bad s1.heap s'.heap) E s1:=by
 obtain⟨ob,ho,hcl⟩:=nt
 have hnb:=fr.2
 have I1:Inv X z.pins z.σ (fI z.H a aL) s1:=Inv.track hz.I fr.1 ho h00 (λq=>hnb (q▸hz.loc)) (λy c e q=>hnb (q▸hz.cel y c e)) hp
 refine jX I1 nm.nd nm.ix nm.loc (v:=.ref a) rfl (λs' I' ⟨b,sb,hb⟩=>?_) nm.fn
 have e:Ext z.bad s1.heap s'.heap:=k8 (z:=z) hz I' sb hb
 have hil:i<z.σ.length:=by rw[hz.I.len];exact (a0i.mp nm.ix).1
 have hil2:i<z.ρ.length:=by rw[←hz.len];exact hil
 have hnf:∀j,¬bW z.σ z.ρ j a:=λj o=>by
  obtain⟨⟨t',e1,ot⟩,q⟩:=o
  obtain⟨v,e2,_,d2⟩:=hz.slk j t' e1
  rw[q] at e2;cases e2
  have:z.H a=some aL:=by
   cases t' with
   |val p=>cases ot
   |own ps=>obtain⟨b,e3,h,_⟩:=d2;cases e3;exact h
   |dic ks ps=>obtain⟨b,e3,h,_⟩:=d2;cases e3;exact h
  rw[fr.1] at this;cases this
 have oset:∀{j b},bW (z.σ.set i (some (.ref a))) (z.ρ.set i (some t)) j b->(j=i/\b=a)\/(j≠i/\bW z.σ z.ρ j b):=λ{j b} o=>by
  obtain⟨⟨t',e1,ot⟩,q⟩:=o
  by_cases hj:i=j
  ·subst hj
   rw[a0x hil] at q;cases q
   exact .inl ⟨rfl,rfl⟩
  ·rw[a0q hj] at e1 q
   exact .inr ⟨Ne.symm hj,⟨t',e1,ot⟩,q⟩
 have hne:∀{b},z.H b=some aL->b≠a:=λ{b} hb y=>by subst y;rw[fr.1] at hb;cases hb
 refine⟨z.σ.set i (some (.ref a)),⟨I',by simp[hz.len],λj t' q=>?_,λj k b o1 o2=>?_,λj b o=>?_,λb o q=>?_,hz.oh0,hz.loc,hz.cel,hz.fs,hz.ex,λb q=>let ⟨o,r⟩:=hz.there b q;e.th b o r,hz.bs,λb o q=>?_,λhf b hb=>(a0q (nm.an hf ⟨b,hb⟩)).trans (hz.anc hf b hb)⟩,e⟩
 ·by_cases hj:i=j
  ·subst hj
   have q:(z.ρ.set i (some t))[i]?=some (some t'):=q
   rw[a0x hil2] at q
   cases q
   refine⟨.ref a,a0x hil,⟨.ref a,rfl⟩,?_⟩
   refine SlOk.mono (c:=bI X z.bad (fI z.H a aL)) (c':=bI X z.bad (fI z.H a aL)) e.kpD (λb o hb w=>?_) d
   by_cases hba:b=a
   ·subst hba;exact e.kp b o hnb w
   ·have hb:fI z.H a aL b=some aL:=hb
    rw[aS hba] at hb;exact e.kp b o (hz.ot b _ hb).1 w
  ·have q:(z.ρ.set i (some t))[j]?=some (some t'):=q
   rw[a0q hj] at q
   obtain⟨w,e1,r,_⟩:=hz.slk j t' q
   refine⟨w,by rw[show (z.wi (z.σ.set i (some (.ref a))) (fI z.H a aL) (z.ρ.set i (some t))).σ=z.σ.set i (some (.ref a)) from rfl,a0q hj];exact e1,r,?_⟩
   have d:=SlOk.mono (c':=bI X z.bad (fI z.H a aL)) e.kpD (λb o hb w=>e.kp b o (hz.ot b _ hb).1 w) (sk j t' w q e1)
   cases t' with
   |val p=>exact d
   |own ps=>obtain⟨b,rfl,hb,l⟩:=d;exact⟨b,rfl,(aS (hne hb)).trans hb,l⟩
   |dic ks ps=>obtain⟨b,rfl,hb,l⟩:=d;exact⟨b,rfl,(aS (hne hb)).trans hb,l⟩
 ·rcases oset o1 with ⟨e1,e2⟩|⟨e1,e2⟩<;>rcases oset o2 with ⟨f1,f2⟩|⟨f1,f2⟩
  ·rw[e1,f1]
  ·subst e2;exact absurd f2 (hnf k)
  ·subst f2;exact absurd e2 (hnf j)
  ·exact hz.dj j k b e2 f2
 ·rcases oset o with ⟨e1,e2⟩|⟨e1,e2⟩
  ·subst e2;exact⟨hnb,.inl h00⟩
  ·exact hz.nb j b e2
 ·by_cases hba:b=a
  ·subst hba
   have q:fI z.H b aL b=some o:=q
   rw[bQ] at q;cases q;rfl
  ·have q:fI z.H a aL b=some o:=q
   rw[aS hba] at q;exact hz.oh b o q
 ·by_cases hba:b=a
  ·subst hba;exact⟨hnb,ob,e.kp b ob hnb ho,hcl⟩
  ·have q:fI z.H a aL b=some o:=q
   rw[aS hba] at q
   obtain⟨r0,ob',r1,r2⟩:=hz.ot b o q
   exact⟨r0,ob',e.kp b ob' r0 r1,r2⟩
theorem Z.ok.sk {z:Z X}{s:Shared}(hz:z.ok s){bad':Addr->Prop}{h':Heap}{a:Addr}(n:s.heap.get? a=none)(e:Ext z.bad s.heap h')(nb:∀b,bad' b->z.bad b\/s.heap.get? b=none)(j:Nat)(t:Sl)(v:V)(e1:z.ρ[j]?=some (some t))(e2:z.σ[j]?=some (some v)):SlOk (bI X bad' (fI z.H a aL)) z.H h' t v:=by
 obtain⟨w,e3,_,d⟩:=hz.slk j t e1
 rw[e2] at e3;cases e3
 exact SlOk.mono (c:=z.cn) (c':=bI X bad' (fI z.H a aL)) ⟨rfl,rfl,rfl,λb o q g=>⟨⟨by rw[aS (λy=>by subst y;rw[n] at g;cases g)];exact q.1,λy=>(nb b y).elim q.2 λy=>by rw[y] at g;cases g⟩,e.kp b o q.2 g⟩⟩ (λb o hb w=>e.kp b o (hz.ot b _ hb).1 w) d
theorem Stp.new {bad:Addr->Prop}{H:Hp}{h h':Heap}{a:Addr}(e:Ext bad h h')(n:h.get? a=none):Stp bad H (fI H a aL) h h':=
 ⟨λb o nb hn hb=>⟨e.kp b o nb hb,by rw[aS (λy=>by subst y;rw[n] at hb;cases hb)];exact hn⟩,e.th⟩
theorem BW {z:Z X}{s s1:Shared}(hz:z.ok s)(g:z.go s s1){i:Nat}{x:Str}(nm:Nm X i x){t:Sl}(ht:cH t=true){a:Addr}(n:s.heap.get? a=none)(nt:∃ob,s1.heap.get? a=some ob/\ob.cls≠.type "tuple")(d:SlOk (bI X z.bad (fI z.H a aL)) (fI z.H a aL) s1.heap t (.ref a)){E:Value->Shared->Prop} :
  W X (storeName X.env x (.ref a)) (λ_ s'=>z.to s (z.ρ.set i (some t)) s') E s1:=
 aV (tC g.1 nm ht (hz.free n) (iN hz n) (λp hp q=>by have:=(hz.I.pin p hp).1;rw[q,n] at this;cases this) nt d (hz.sk n g.2 λb=>.inl)) λ_ s' ⟨σ',ok,e⟩=>⟨σ',_,ok,Stp.new (g.2.trans e) n⟩
end
section
variable {X:Cx}{e:Expr}{f:FE}{es:List Expr}{fs:FA}{pos:Pos}{i:Nat}{x:Str}
noncomputable def Fh (o:Option PV)(i:Nat)(ρ:aq):Out:=match o with
 |some p=>.nx (ρ.set i (some (.val p)))
 |none=>.bad
noncomputable def aI (i:Nat)(f:FE):FS:=λρ=>Fh ((f ρ).bind RV.fr) i ρ
theorem Z.go.tv {z:Z X}{s s1 s2:Shared}{ρ:aq}(g:z.go s s1)(h:z.tv s1 ρ s2):z.tv s ρ s2:=let ⟨σ',ok,e⟩:=h;⟨σ',ok,g.2.trans e⟩
theorem MD {p':Pos}(n:Nm X i x)(h:NE X e f)(hs:swapsWith e (some (.Name x p')) pos.line X.env=pure false):NS X (.Assign [.Name x p'] e pos) (aI i f):=λz s E hz hb=>by
 unfold aI Fh at hb ⊢
 split at hb
 ·next p ep=>
  obtain⟨r,er,ep⟩:=a0a.mp ep
  exact wpAny_Assign_Name (aV (h z s r E hz er) λu s1 q=>aV (g8 q.1.1 n (q.2.fr ep)) λ_ s2 w=>⟨rfl,(q.1.tv w).to⟩) hs
 ·exact absurd rfl hb
noncomputable def GL (o:Option RV)(i:Nat)(ρ:aq):Out:=match o with
 |some (.fz p)=>.nx (ρ.set i (some (.val p)))
 |some (.nw ps)=>.nx (ρ.set i (some (.own ps)))
 |_=>.bad
noncomputable def ic (i:Nat)(f:FE):FS:=λρ=>GL (f ρ) i ρ
theorem nE {h:Heap}{a:Addr}{c:Cn}{ps:List PV}:ListAt c h a ps->∃ob,h.get? a=some ob/\ob.cls≠.type "tuple"
 |⟨its,n,e,_⟩=>⟨_,e,by intro q;exact absurd (Value.type.inj q) (by decide)⟩
theorem LQ {p':Pos}(n:Nm X i x)(h:NE X e f)(hs:swapsWith e (some (.Name x p')) pos.line X.env=pure false):NS X (.Assign [.Name x p'] e pos) (ic i f):=λz s E hz hb=>by
 unfold ic GL at hb ⊢
 split at hb
 ·next p er=>exact wpAny_Assign_Name (aV (h z s _ E hz er) λu s1 q=>aV (g8 q.1.1 n q.2) λ_ s2 w=>⟨rfl,(q.1.tv w).to⟩) hs
 ·next ps er=>exact wpAny_Assign_Name (aV (h z s _ E hz er) λu s1 q=>by
   obtain⟨g,a,rfl,nn,o,l⟩:=q
   exact aV (BW hz g n (t:=.own ps) rfl nn (nE l) ⟨a,rfl,bQ,l⟩) λ_ s2 w=>⟨rfl,w⟩) hs
 ·exact absurd rfl hb
noncomputable abbrev FT:=PV->aq->Option aq
noncomputable abbrev AT:=List PV->aq->Option aq
noncomputable def NG (X:Cx)(tg:Expr)(t:FT):Prop:=∀(z:Z X) s p u ρ E,z.ok s->D z.cn s.heap p u->t p z.ρ=some ρ->W X (assign tg X.env u) (λ_ s'=>z.tv s ρ s') E s
noncomputable def Of (X:Cx)(tgs:List Expr)(t:AT):Prop:=∀(z:Z X) s ps us ρ E,z.ok s->Ds z.cn s.heap ps us->t ps z.ρ=some ρ->W X (assignInOrder ((assignEach tgs X.env).map (·.2)) us) (λ_ s'=>z.tv s ρ s') E s
noncomputable def gN (i:Nat):FT:=λp ρ=>some (ρ.set i (some (.val p)))
noncomputable def g0:AT:=λps ρ=>match ps with
 |[]=>some ρ
 |_=>none
noncomputable def gC (t:FT)(ts:AT):AT:=λps ρ=>match ps with
 |p::ps=>(t p ρ).bind λρ'=>ts ps ρ'
 |[]=>none
noncomputable def ff (n:Nat)(ts:AT):FT:=λp ρ=>match p with
 |.tup ps=>if ps.length=n then ts ps ρ else none
 |_=>none
theorem Pn (n:Nm X i x):NG X (.Name x pos) (gN i):=λz s p u ρ E hz d q=>by
 cases q;exact wpAny_assign_Name (g8 hz n d)
theorem Z.tv.trans {z:Z X}{s s1 s2:Shared}{ρ1 ρ2:aq}{σ1:L2.St}(e:Ext z.bad s.heap s1.heap)(h:(z.wi σ1 z.H ρ1).tv s1 ρ2 s2):z.tv s ρ2 s2:=let ⟨σ',ok,e'⟩:=h;⟨σ',ok,e.trans e'⟩
theorem Qx:Of X [] g0:=λz s ps us ρ E hz d q=>by
 cases ps with
 |nil=>cases q;rw[show us=[] from d];exact assignInOrder_nil ⟨z.σ,hz,.refl⟩
 |cons=>cases q
theorem Qy {t:FT}{ts:AT}(h1:NG X e t)(h2:Of X es ts)(hs:(assignEach (e::es) X.env).map (·.2)=assign e X.env::(assignEach es X.env).map (·.2)):Of X (e::es) (gC t ts):=λz s ps us ρ E hz d q=>by
 cases ps with
 |nil=>cases q
 |cons p ps=>
  obtain⟨u,r,rfl,d1,d2⟩:=d
  obtain⟨ρ1,e1,e2⟩:=a0a.mp q
  rw[hs]
  refine assignInOrder_cons (aV (h1 z s p u ρ1 E hz d1 e1) λ_ s1 ⟨σ1,ok,x1⟩=>?_)
  exact aV (h2 (z.wi σ1 z.H ρ1) s1 ps r ρ E ok (d2.mono x1.kpD) e2) λ_ s2 w=>Z.tv.trans x1 w
theorem QF {k n:Nat}{ts:AT}(hc:X.calm=true)(h:Of X es ts)(hn:(assignEach es X.env).length=n)(hst:(assignEach es X.env).findIdx? (·.1)=none):NG X (.Tuple es k pos) (ff n ts):=λz s p u ρ E hz d q=>by
 unfold ff at q
 split at q
 ·next ps=>
  split at q
  ·next hl=>
   obtain⟨a,its,rfl,o,ht,zl,ds⟩:=d
   refine assign_Tuple_tuple (hz.I.ok.hd hc) ht (by simp[hn,←hl,ds.length]) hst λh' hx=>?_
   have g:z.go s { s with heap:=h' }:=hz.kept (t:=s.toks) λb o e=>hx b o (a1d (Heap.lt_size e)) e
   exact aV (h z _ ps its ρ E g.1 (ds.mono g.2.kpD) q) λ_ s2 w=>g.tv w
  ·cases q
 ·cases q
noncomputable def Hd (o:Option aq):Out:=match o with
 |some ρ=>.nx ρ
 |none=>.bad
noncomputable def Gk (o:Option PV)(t:FT)(ρ:aq):Out:=match o with
 |some p=>Hd (t p ρ)
 |none=>.bad
noncomputable def gn (f:FE)(t:FT):FS:=λρ=>Gk ((f ρ).bind RV.fr) t ρ
theorem MM {tg:Expr}{t:FT}(h:NE X e f)(hg:NG X tg t)(hs:swapsWithSole [tg] e pos.line X.env=pure false)(hw:swappedStores [tg] e X.env=pure none)
  (h1:(assignEach [tg] X.env).map (·.2)=[assign tg X.env]):NS X (.Assign [tg] e pos) (gn f t):=λz s E hz hb=>by
 unfold gn Gk Hd at hb ⊢
 split at hb
 ·next p ep=>
  split at hb
  ·next ρ et=>
   obtain⟨r,er,ep⟩:=a0a.mp ep
   refine wpAny_Assign_stores (aV (h z s r E hz er) λu s1 q=>?_) hs hw
   rw[h1]
   exact aV (hg z s1 p u ρ E q.1.1 (q.2.fr ep) et) λ_ s2 w=>⟨rfl,(q.1.tv w).to⟩
  ·exact absurd rfl hb
 ·exact absurd rfl hb
noncomputable def G9 (o:Option (List PV))(i j:Nat)(ρ:aq):Out:=match o with
 |some [p,q]=>.nx ((ρ.set i (some (.val p))).set j (some (.val q)))
 |_=>.bad
noncomputable def sr (i j:Nat)(fs:FA):FS:=λρ=>G9 ((fs ρ).bind λrs=>rs.mapM RV.fr) i j ρ
theorem ME {j:Nat}{y:Str}{a b:Expr}{px py pt:Pos}{kt k2 pt2}(hc:X.calm=true)(n1:Nm X i x)(n2:Nm X j y)(hij:i≠j)(hx:X.env.scope.names.lookup x=some .local)(hy:X.env.scope.names.lookup y=some .local)(ha:NA X [a,b] fs)
  (hw:swappedStores [.Tuple [.Name x px,.Name y py] kt pt] (.Tuple [a,b] k2 pt2) X.env=pure (some [x,y]))
  (hs:swapsWithSole [.Tuple [.Name x px,.Name y py] kt pt] (.Tuple [a,b] k2 pt2) pos.line X.env=pure false) :
  NS X (.Assign [.Tuple [.Name x px,.Name y py] kt pt] (.Tuple [a,b] k2 pt2) pos) (sr i j fs):=λz s E hz hb=>by
 unfold sr G9 at hb ⊢
 split at hb
 ·next p q epq=>
  obtain⟨rs,er,epq⟩:=a0a.mp epq
  rw[exec_Assign_arm]
  refine wpAny_bind (wpAny_standAt ?_)
  rw[hs]
  refine wpAny_bind (wpAny_pure ?_)
  rw[if_neg (by decide)]
  refine wpAny_bind (Tuple_ (aV (ha z _ s rs E hz er) λus s1 ⟨g1,d1⟩=>?_))
  obtain⟨u1,r1,rfl,dp,u2,r2,rfl,dq,e3⟩:=d1.fr epq
  cases (show r2=[] from e3)
  refine wpAny_newObj_type ?_ (by show 2<=sizeLine;decide)
  have g2:=g1.1.push { cls:=.type "tuple",data:=.seq [u1,u2].toArray } s1.toks
  rw[hw]
  refine wpAny_bind (wpAny_pure ?_)
  show W X (do rule "assign.swapped-stores";let items ←unpackItems (.ref s1.heap.objs.size) 2 none;assignInOrder [λv=>bindName X.env y v,λv=>bindName X.env x v] items.reverse;pure Flow.next) _ _ _
  refine wpAny_bind (wpAny_rule (wpAny_bind (unpackItems_tuple (items:=#[u1,u2]) (hz.I.ok.hd hc) (IsTup.new s1.heap _) λh' hx'=>?_)))
  have g3:z.go _ { s1 with heap:=h' }:=g2.1.kept (t:=s1.toks) λb o e=>hx' b o (a1d (Heap.lt_size e)) e
  have ge:=g2.2.trans g3.2
  show wpAny _ _ (assignInOrder [λv=>bindName X.env y v,λv=>bindName X.env x v] [u2,u1] >>= λ_=>pure Flow.next) _ _ _
  refine wpAny_bind (assignInOrder_cons (wpAny_bindName (aV (g8 (p:=q) g3.1 n2 (dq.m ge.kpD)) λ_ s2 ⟨σ1,ok1,x1⟩=>?_)))
  refine assignInOrder_cons (wpAny_bindName (aV (g8 (p:=p) ok1 n1 (dp.m (ge.trans x1).kpD)) λ_ s3 ⟨σ2,ok2,x2⟩=>assignInOrder_nil (wpAny_pure ?_)))
  refine⟨rfl,σ2,z.H,?_,(g1.2.trans (ge.trans (x1.trans x2))).stp⟩
  have ec:(z.ρ.set i (some (Sl.val p))).set j (some (Sl.val q))=(z.ρ.set j (some (Sl.val q))).set i (some (Sl.val p)):=List.set_comm _ _ hij
  rw[ec]
  exact ok2
 ·exact absurd rfl hb
theorem Z.ok.mut0 {z:Z X}{s s':Shared}(hz:z.ok s){a:Addr}(o:bW z.σ z.ρ i a)(I':Inv X z.pins z.σ z.H s')(k:∀b u,¬z.bad b->b≠a->s.heap.get? b=some u->s'.heap.get? b=some u)(th:∀b u,s.heap.get? b=some u->∃u',s'.heap.get? b=some u'){t:Sl}(ht:cH t=true)(nt:∃ob,s'.heap.get? a=some ob/\ob.cls≠.type "tuple")
  (d:Kp z.cn z.cn s.heap s'.heap->SlOk z.cn z.H s'.heap t (.ref a)):(z.wi z.σ z.H (z.ρ.set i (some t))).ok s'/\Stp z.bad z.H z.H s.heap s'.heap:=by
 obtain⟨⟨t0,e0,o0⟩,q0⟩:=id o
 obtain⟨v,e2,_,d2⟩:=hz.slk i t0 e0
 rw[q0] at e2;cases e2
 have hH:z.H a=some aL:=by
  cases t0 with
  |val p=>cases o0
  |own ps=>obtain⟨b,e3,h,_⟩:=d2;cases e3;exact h
  |dic ks ps=>obtain⟨b,e3,h,_⟩:=d2;cases e3;exact h
 obtain⟨ob,hob,hcl⟩:=nt
 have hil:i<z.ρ.length:=(a0i.mp e0).1
 have kp:Kp z.cn z.cn s.heap s'.heap:=⟨rfl,rfl,rfl,λb u q e=>⟨q,k b u q.2 (λy=>by have q1:z.H b=none:=q.1;rw[y,hH] at q1;cases q1) e⟩⟩
 have own:∀{j b},bW z.σ (z.ρ.set i (some t)) j b->bW z.σ z.ρ j b:=λ{j b} ⟨⟨t',e1,ot⟩,q⟩=>by
  by_cases hj:i=j
  ·subst hj;exact⟨⟨t0,e0,o0⟩,q⟩
  ·rw[a0q hj] at e1;exact⟨⟨t',e1,ot⟩,q⟩
 refine⟨⟨I',by simp[hz.len],λj t' q=>?_,λj k b o1 o2=>hz.dj j k b (own o1) (own o2),λj b o=>hz.nb j b (own o),hz.oh,hz.oh0,hz.loc,hz.cel,hz.fs,hz.ex,λb q=>let ⟨u,r⟩:=hz.there b q;th b u r,hz.bs,λb o q=>?_,hz.anc⟩,⟨λb u n hn e=>⟨k b u n (λy=>by rw[y,hH] at hn;cases hn) e,hn⟩,th⟩⟩
 ·by_cases hj:i=j
  ·subst hj
   have q:(z.ρ.set i (some t))[i]?=some (some t'):=q
   rw[a0x hil] at q
   cases q
   exact⟨.ref a,q0,⟨.ref a,rfl⟩,d kp⟩
  ·have q:(z.ρ.set i (some t))[j]?=some (some t'):=q
   rw[a0q hj] at q
   obtain⟨w,e1,r,dd⟩:=hz.slk j t' q
   refine⟨w,e1,r,?_⟩
   have ne:∀b,w=.ref b->cH t'=true->b≠a:=λb e3 ot y=>by
    subst y e3
    exact hj (hz.dj i j b o ⟨⟨t',q,ot⟩,e1⟩)
   cases t' with
   |val p=>exact λu r=>(dd u r).m kp
   |own ps=>obtain⟨b,rfl,hb,l⟩:=dd;exact⟨b,rfl,hb,l.mono kp λo w=>k b o (hz.ot b _ hb).1 (ne b rfl rfl) w⟩
   |dic ks ps=>obtain⟨b,rfl,hb,l⟩:=dd;exact⟨b,rfl,hb,l.mono kp λo w=>k b o (hz.ot b _ hb).1 (ne b rfl rfl) w⟩
 ·obtain⟨r0,u,r1,r2⟩:=hz.ot b o q
  by_cases hb:b=a
  ·subst hb;exact⟨r0,ob,hob,hcl⟩
  ·exact⟨r0,u,k b u r0 hb r1,r2⟩
theorem Z.ok.mut {z:Z X}{s:Shared}(hz:z.ok s){a:Addr}(o:bW z.σ z.ρ i a){h':Heap}{tk:Nat}(k:∀b u,b≠a->s.heap.get? b=some u->h'.get? b=some u){t:Sl}(ht:cH t=true)(nt:∃ob,h'.get? a=some ob/\ob.cls≠.type "tuple")
  (d:∀(c:Cn),c=z.cn->Kp c c s.heap h'->SlOk c z.H h' t (.ref a)):(z.wi z.σ z.H (z.ρ.set i (some t))).ok { s with heap:=h',toks:=tk }/\Stp z.bad z.H z.H s.heap h':=by
 obtain⟨⟨t0,e0,o0⟩,q0⟩:=id o
 obtain⟨v,e2,_,d2⟩:=hz.slk i t0 e0
 rw[q0] at e2;cases e2
 have hH:z.H a=some aL:=by
  cases t0 with
  |val p=>cases o0
  |own ps=>obtain⟨b,e3,h,_⟩:=d2;cases e3;exact h
  |dic ks ps=>obtain⟨b,e3,h,_⟩:=d2;cases e3;exact h
 have I':Inv X z.pins z.σ z.H { s with heap:=h',toks:=tk }:=by
  obtain⟨ob,hob,hcl⟩:=nt
  have:=hz.I.write (x:=a) (e:=a) (o:=aL) (h':=h') (t':=tk) (by rw[hH];exact trivial) (.inl rfl) k ⟨ob,hob⟩ ⟨trivial,⟨ob,hob⟩,λ_ _ _ _=>trivial⟩
  rwa [p6 hH] at this
 exact Z.ok.mut0 hz o I' (λb u _=>k b u) (λb u e=>by
  by_cases hb:b=a
  ·subst hb;obtain⟨ob,hob,_⟩:=nt;exact⟨ob,hob⟩
  ·exact⟨u,k b u hb e⟩) ht nt (d _ rfl)
theorem Z.ok.owned {z:Z X}{s:Shared}(hz:z.ok s){t:Sl}(e:sl z.ρ i=some t)(ho:cH t=true):∃a,bW z.σ z.ρ i a/\z.H a=some aL/\SlOk z.cn z.H s.heap t (.ref a):=by
 obtain⟨v,e2,_,d2⟩:=hz.slk i t (gS e)
 cases t with
 |val p=>cases ho
 |own ps=>obtain⟨b,rfl,h,l⟩:=d2;exact⟨b,⟨⟨_,gS e,rfl⟩,e2⟩,h,b,rfl,h,l⟩
 |dic ks ps=>obtain⟨b,rfl,h,l⟩:=d2;exact⟨b,⟨⟨_,gS e,rfl⟩,e2⟩,h,b,rfl,h,l⟩
theorem oq {z:Z X}{s:Shared}(hz:z.ok s){a:Addr}(o:z.σ[i]?=some (some (.ref a))){p:Pos}(hN:X.N[i]?=some x)(hv:rX X.env.scope x)(hd:(x==("__debug__" : Str))=false)(hcd:(x==("__classdict__" : Str))=false){Q:Value->Shared->Prop}{E:Value->Shared->Prop}(h:Q (.ref a) s):W X (eval (.Name x p) X.env) Q E s:=by
 obtain⟨m,hn,hl⟩:=hz.I.loc
 obtain⟨u,r,l⟩:=hl i x _ hN o hv
 cases (show u=Value.ref a from r)
 rcases l with ⟨hk,hm⟩|⟨hk,c,hc,hcell⟩
 ·exact wpAny_Name (wpAny_loadName_local hz.I.ok.kind hk hn hm h) hd
 ·rcases hk with hk|hk
  ·exact wpAny_Name (wpAny_loadName_cell hz.I.ok.kind hk hc hcell h) hd
  ·exact wpAny_Name (wpAny_loadName_free hz.I.ok.kind hk hc hcell h hcd) hd
noncomputable abbrev GM:=Sl->List PV->Option (Sl×PV)
structure MtN (X:Cx)(T:String)(name:Str)(id:String)(g:GM):Prop where
 pa:PlainAttrs T
 slot:Slot T name id
 hty:typeOf (.builtin id)=pure (.type "method_descriptor")
 ty:∀t ps r,g t ps=some r->cH t=true/\∀(c:Cn) H h a,SlOk c H h t (.ref a)->∃ob,h.get? a=some ob/\ob.cls=.type T/\ob.dict=none
 call:∀(z:Z X) s i t a ps us t' p E,z.ok s->sl z.ρ i=some t->bW z.σ z.ρ i a->SlOk z.cn z.H s.heap t (.ref a)->Ds z.cn s.heap ps us->g t ps=some (t',p) →
  W X (call (.builtin id) (.ref a::us)) (λv s'=>(z.wi z.σ z.H (z.ρ.set i (some t'))).ok s'/\Stp z.bad z.H z.H s.heap s'.heap/\D z.cn s'.heap p v) E s
noncomputable def La (g:GM)(o:Option Sl)(ps:Option (List PV)):Option (Sl×PV):=match o,ps with
 |some t,some ps=>g t ps
 |_,_=>none
structure McN (X:Cx)(i:Nat)(x:Str)(name:Str)(p apos cpos:Pos)(es:List Expr):Prop where
 hN:X.N[i]?=some x
 hv:rX X.env.scope x
 hd:(x==("__debug__" : Str))=false
 hcd:(x==("__classdict__" : Str))=false
 base:attributeBase (.Name x p) name X.env (eval (.Name x p) X.env)=eval (.Name x p) X.env
 line:(apos.endLine==cpos.line)=true
 few:((backTo cpos (starEach es X.env)).all (λx=>!x.1)&&(backToKw cpos (keywordEach [] X.env)).all (λx=>x.1.isSome)&&decide (es.length+([]:List Keyword).length+(if ([]:List Keyword).isEmpty then 0 else 1)<30))=true
 ns:∀e r,es=e::r->starEach (e::r) X.env=(false,eval e X.env)::starEach r X.env/\(backTo cpos (starEach r X.env)).any (·.1)=false
theorem yJ {T:String}{name:Str}{id:String}{g:GM}(m:MtN X T name id g){p apos cpos:Pos}(c:McN X i x name p apos cpos es)(ha:NA X es fs)(h0:es=[]->fs=af){z:Z X}{s:Shared}(hz:z.ok s){t':Sl}{q:PV}(e:La g (sl z.ρ i) ((fs z.ρ).bind λrs=>rs.mapM RV.fr)=some (t',q)){E:Value->Shared->Prop} :
  W X (eval (.Call (.Attribute (.Name x p) name apos) es [] cpos) X.env) (λv s'=>(z.wi z.σ z.H (z.ρ.set i (some t'))).ok s'/\Stp z.bad z.H z.H s.heap s'.heap/\D z.cn s'.heap q v) E s:=by
 unfold La at e
 split at e
 ·next t ps et eps=>
  obtain⟨rs,er,eps⟩:=a0a.mp eps
  obtain⟨ho,hT⟩:=m.ty t ps _ e
  obtain⟨a,oa,hH,d⟩:=Z.ok.owned hz et ho
  obtain⟨ob,e1,e2,e3⟩:=hT _ _ _ _ d
  have fin:∀us s1,z.go s s1->RvsOk z s.heap s1.heap rs us->W X (call (.builtin id) (.ref a::us)) (λv s'=>(z.wi z.σ z.H (z.ρ.set i (some t'))).ok s'/\Stp z.bad z.H z.H s.heap s'.heap/\D z.cn s'.heap q v) E s1:=λus s1 g1 d1=>by
   obtain⟨a',oa',_,d'⟩:=Z.ok.owned g1.1 et ho
   have:a'=a:=by have h1:=oa.2;have h2:=oa'.2;rw[h1] at h2;cases h2;rfl
   subst this
   exact aV (m.call z s1 i t a' ps us t' q E g1.1 et oa' d' (d1.fr eps) e) λv s2 w=>⟨w.1,g1.2.stp.trans w.2.1,w.2.2⟩
  cases es with
  |nil=>
   refine wpAny_Call_method0_late c.base c.line (oq hz oa.2 c.hN c.hv c.hd c.hcd ⟨T,id,m.pa,m.slot,m.hty,⟨ob,e1,e2⟩,λb q=>by cases q;exact⟨ob,e1,e3⟩,Calls.callWith_builtin rfl (PySem.evalArgs_none ?_)⟩)
   rw[h0 rfl] at er;cases er
   exact fin [] s hz.refl .nil
  |cons e0 es0=>
   refine wpAny_Call_method_late c.base c.few c.line rfl (oq hz oa.2 c.hN c.hv c.hd c.hcd ⟨T,id,m.pa,m.slot,m.hty,⟨ob,e1,e2⟩,λb q=>by cases q;exact⟨ob,e1,e3⟩,?_⟩)
   obtain⟨hs,hp⟩:=c.ns e0 es0 rfl
   have hA:=ha z cpos s rs E hz er
   rw[hs] at hA ⊢
   refine Calls.callWith_builtin (by show (false || (backTo cpos (starEach es0 X.env)).any (·.1))=false;rw[hp]<;>rfl) (Calls.evalArgs_plain ?_)
   exact aV hA λus s1 ⟨g1,d1⟩=>fin us s1 g1 d1
 ·cases e
end
section
variable {X:Cx}{e:Expr}{f fi:FE}{es:List Expr}{fs:FA}{pos:Pos}{i j:Nat}{x:Str}
noncomputable def Fm (o:Option (Sl×PV))(i:Nat)(ρ:aq):Out:=match o with
 |some (t,_)=>.nx (ρ.set i (some t))
 |none=>.bad
noncomputable def u7 (g:GM)(i:Nat)(fs:FA):FS:=λρ=>Fm (La g (sl ρ i) ((fs ρ).bind λrs=>rs.mapM RV.fr)) i ρ
theorem KU {T:String}{name:Str}{id:String}{g:GM}(m:MtN X T name id g){p apos cpos:Pos}(c:McN X i x name p apos cpos es)(ha:NA X es fs)(h0:es=[]->fs=af)(hs:swapsWith (.Call (.Attribute (.Name x p) name apos) es [] cpos) none pos.line X.env=pure false) :
  NS X (.Expr (.Call (.Attribute (.Name x p) name apos) es [] cpos) pos) (u7 g i fs):=λz s E hz hb=>by
 unfold u7 Fm at hb ⊢
 split at hb
 ·next t q e=>exact wpAny_Expr_any (aV (yJ m c ha h0 hz e) λv s1 w=>⟨rfl,z.σ,z.H,w.1,w.2.1⟩) hz.I.quiet hs
 ·exact absurd rfl hb
noncomputable def G7 (o:Option (Sl×PV))(j i:Nat)(ρ:aq):Out:=match o with
 |some (t,p)=>.nx ((ρ.set i (some t)).set j (some (.val p)))
 |none=>.bad
noncomputable def AS (g:GM)(j i:Nat)(fs:FA):FS:=λρ=>G7 (La g (sl ρ i) ((fs ρ).bind λrs=>rs.mapM RV.fr)) j i ρ
theorem HV {T:String}{name y:Str}{id:String}{g:GM}(m:MtN X T name id g){p p' apos cpos:Pos}(c:McN X i x name p apos cpos es)(n:Nm X j y)(ha:NA X es fs)(h0:es=[]->fs=af)(hs:swapsWith (.Call (.Attribute (.Name x p) name apos) es [] cpos) (some (.Name y p')) pos.line X.env=pure false) :
  NS X (.Assign [.Name y p'] (.Call (.Attribute (.Name x p) name apos) es [] cpos) pos) (AS g j i fs):=λz s E hz hb=>by
 unfold AS G7 at hb ⊢
 split at hb
 ·next t q e=>
  refine wpAny_Assign_Name (aV (yJ m c ha h0 hz e) λv s1 w=>?_) hs
  exact aV (g8 (p:=q) w.1 n w.2.2) λ_ s2 ⟨σ',ok,x⟩=>⟨rfl,σ',z.H,ok,w.2.1.trans x.stp⟩
 ·exact absurd rfl hb
theorem pS {t:Sl}{ps:List PV}(e:t=.own ps):cH t=true/\∀(c:Cn) H h a,SlOk c H h t (.ref a)->∃ob,h.get? a=some ob/\ob.cls=.type "list"/\ob.dict=none:=by
 subst e
 exact⟨rfl,λc H h a ⟨b,e1,_,its,n,e2,_⟩=>by cases e1;exact⟨_,e2,rfl,rfl⟩⟩
theorem jN {z:Z X}{s:Shared}(hz:z.ok s){a:Addr}(o:bW z.σ z.ρ i a){its its':List Value}{n:Nat}{g:Array Value->Array Value}{ps':List PV}(e:s.heap.get? a=some (eZ its n))(hg:g its.toArray=its'.toArray)(d:Ds z.cn s.heap ps' its')(l:its'.length<=sizeLine)(hH:z.H a=some aL)(tk:Nat) :
  (z.wi z.σ z.H (z.ρ.set i (some (.own ps')))).ok { s with heap:=s.heap.update a (Obj.mapSeq g),toks:=tk }/\Stp z.bad z.H z.H s.heap (s.heap.update a (Obj.mapSeq g)):=by
 have q:=PySem.IsL.update e g
 rw[hg] at q
 exact Z.ok.mut hz o (λb u hb hu=>(Heap.get?_update_other s.heap (Obj.mapSeq g) (Ne.symm hb)).trans hu) (t:=.own ps') rfl ⟨_,q,by intro w;exact absurd (Value.type.inj w) (by decide)⟩ λc ec k=>by
  subst ec;exact⟨a,rfl,hH,its',_,q,l,d.mono k⟩
noncomputable def lZ:GM:=λt ps=>match t,ps with
 |.own ps,[q]=>if ps.length<=100000 then some (.own (ps++[q]),.non) else none
 |_,_=>none
theorem NQ:MtN X "list" "append" "list.append" lZ where
 pa:=PySem.F.plainAttrs_list
 slot:=PySem.F.slot_list_append
 hty:=PySem.F.type_list_append
 ty:=λt ps r e=>by
  unfold lZ at e
  split at e
  ·exact pS rfl
  ·cases e
 call:=λz s i t a ps us t' p E hz et oa d du e=>by
  unfold lZ at e
  split at e
  ·next ps q=>
   split at e
   ·next hl=>
    cases e
    obtain⟨b,e1,hH,its,n,e2,zl,ds⟩:=d
    cases e1
    obtain⟨u,r,rfl,dq,er⟩:=du
    cases (show r=[] from er)
    have l:=ds.length
    have hb:=Nd hl
    refine call_meets F.slot_list_append ⟨_,e2,rfl⟩ F.entry_list_append (F.args_list_append_2 _ _) (PySem.list_append a its.toArray n u (by rw[a0g];omega)) ⟨e2,?_⟩
    have m:=jN hz oa e2 (g:=(·.push u)) (its':=its++[u]) (by simp) (ds.app (.one dq)) (by rw[a0n,a1h];omega) hH s.toks
    exact⟨m.1,m.2,rfl⟩
   ·cases e
  ·cases e
noncomputable def CQ:GM:=λt ps=>match t,ps with
 |.own ps,[]=>some (.own ps.reverse,.non)
 |_,_=>none
theorem No:MtN X "list" "reverse" "list.reverse" CQ where
 pa:=PySem.F.plainAttrs_list
 slot:=PySem.F.slot_list_reverse
 hty:=PySem.F.type_list_reverse
 ty:=λt ps r e=>by
  unfold CQ at e
  split at e
  ·exact pS rfl
  ·cases e
 call:=λz s i t a ps us t' p E hz et oa d du e=>by
  unfold CQ at e
  split at e
  ·next ps=>
   cases e
   obtain⟨b,e1,hH,its,n,e2,zl,ds⟩:=d
   cases e1
   cases (show us=[] from du)
   refine call_meets F.slot_list_reverse ⟨_,e2,rfl⟩ F.entry_list_reverse (F.args_list_reverse_1 _) (AutoSeq1.list_reverse_list_0 a its.toArray n (by rw[a0g];omega)) ⟨e2,?_⟩
   have m:=jN hz oa e2 (g:=(·.reverse)) (its':=its.reverse) (by simp) ds.rev (by rw[a2q];exact zl) hH s.toks
   exact⟨m.1,m.2,rfl⟩
  ·cases e
noncomputable def rV:GM:=λt ps=>match t,ps with
 |.own ps,[.int k]=>if 0<=k/\k<100000 then (ps[k.toNat]?).map λp=>(.own (ps.eraseIdx k.toNat),p) else none
 |.own ps,[]=>(ps[ps.length - 1]?).map λp=>(.own ps.dropLast,p)
 |_,_=>none
theorem Ds.erase {c:Cn}{h:Heap}:∀{ps:List PV} {us:List Value} (k:Nat),Ds c h ps us->Ds c h (ps.eraseIdx k) (us.eraseIdx k)
 |[],_,_,d=>by rw[show _=[] from d];rfl
 |_::_,_,0,⟨u,r,e,d,t⟩=>by rw[e];exact t
 |_::_,_,k+1,⟨u,r,e,d,t⟩=>by rw[e];exact⟨u,_,rfl,d,Ds.erase k t⟩
theorem BA:MtN X "list" "pop" "list.pop" rV where
 pa:=PySem.F.plainAttrs_list
 slot:=PySem.F.slot_list_pop
 hty:=PySem.F.type_list_pop
 ty:=λt ps r e=>by
  unfold rV at e
  split at e
  ·exact pS rfl
  ·exact pS rfl
  ·cases e
 call:=λz s i t a ps us t' p E hz et oa d du e=>by
  unfold rV at e
  split at e
  ·next ps k=>
   split at e
   ·next hk=>
    obtain⟨q,e3,e4⟩:=a0d.mp e
    cases e4
    obtain⟨b,e1,hH,its,n,e2,zl,ds⟩:=d
    cases e1
    obtain⟨u,r,rfl,⟨tt,rfl⟩,er⟩:=du
    cases (show r=[] from er)
    have l:=ds.length
    have hlt:k.toNat<ps.length:=(a0i.mp e3).1
    obtain⟨w,hw,dw⟩:=ds.get e3
    refine call_meets F.slot_list_pop ⟨_,e2,rfl⟩ F.entry_list_pop (F.args_list_pop_2 _ _)
     (MeetsSeq.list_pop_at a its.toArray n k tt k.toNat w (fitsIndex_both (by omega) (by omega)) (by rw[a0g,seqIndex_of hk.1 (by omega)]) (by rw[←Array.getElem?_toList];exact hw) (by rw[a0g];omega)) ⟨e2,?_⟩
    have m:=jN hz oa e2 (g:=(·.eraseIdxIfInBounds k.toNat)) (its':=its.eraseIdx k.toNat) (by rw[a3v]) (Ds.erase _ ds) (by have:=tG its k.toNat;omega) hH s.toks
    exact⟨m.1,m.2,dw.m m.2.kpD⟩
   ·cases e
  ·next ps=>
   obtain⟨q,e3,e4⟩:=a0d.mp e
   cases e4
   obtain⟨b,e1,hH,its,n,e2,zl,ds⟩:=d
   cases e1
   cases (show us=[] from du)
   have l:=ds.length
   obtain⟨w,hw,dw⟩:=ds.get e3
   rw[←l] at hw
   refine call_meets F.slot_list_pop ⟨_,e2,rfl⟩ F.entry_list_pop (F.args_list_pop_1 _) (MeetsSeq.list_pop_last a its.toArray n w (by simpa using hw) (by rw[a0g];omega)) ⟨e2,?_⟩
   have dd:=Ds.erase (its.length - 1) ds
   rw[mZ] at dd
   rw[l,mZ] at dd
   have m:=jN hz oa e2 (g:=(·.eraseIdxIfInBounds (its.toArray.size - 1))) (its':=its.dropLast) (by rw[a0g,a3v,mZ]) dd (by rw[List.length_dropLast];omega) hH s.toks
   exact⟨m.1,m.2,dw.m m.2.kpD⟩
  ·cases e
noncomputable def yq (o:Option Nat)(v:PV)(ps:List PV)(j:Nat)(ρ:aq):Out:=match o with
 |some n=>.nx (ρ.set j (some (.own (ps.set n v))))
 |none=>.bad
noncomputable def Fa (v:Option PV)(o:Option Sl)(k:Option PV)(j:Nat)(ρ:aq):Out:=match v,o,k with
 |some v,some (.own ps),some (.int k)=>yq (sQ ps.length k) v ps j ρ
 |_,_,_=>.bad
noncomputable def mU (j:Nat)(fi f:FE):FS:=λρ=>Fa ((f ρ).bind RV.fr) (sl ρ j) ((fi ρ).bind RV.fr) j ρ
theorem zI {z:Z X}{s:Shared}(hz:z.ok s){a:Addr}(o:bW z.σ z.ρ i a){ps:List PV}{k:Int}{t:Tok}{n:Nat}{v:PV}{u:Value}(hH:z.H a=some aL)(l:ListAt z.cn s.heap a ps)(hn:sQ ps.length k=some n)(d:D z.cn s.heap v u){E:Value->Shared->Prop} :
  W X (setItem (.ref a) (.int k t) u) (λ_ s'=>(z.wi z.σ z.H (z.ρ.set i (some (.own (ps.set n v))))).ok s'/\Stp z.bad z.H z.H s.heap s'.heap) E s:=by
 obtain⟨its,m,e,zl,ds⟩:=l
 obtain⟨h1,h2,h3,h4⟩:=zc hn
 have hl:=ds.length
 have hlb:=oB
 have fin:=jN hz o e (g:=(·.setIfInBounds n u)) (its':=its.set n u) (by simp) (ds.set d n) (by rw[a1c];exact zl) hH s.toks
 by_cases h0:0<=k
 ·have hk:k.toNat=n:=by
   rw[seqIndex_of h0 h4] at h1
   exact Option.some.inj h1
  exact PySem.W.ki_setAt e h0 (by omega) (by rw[a0g,hl];exact h4) (by rw[hk];exact fin)
 ·have hk:(k+(its.toArray.size:Int)).toNat=n:=by
   rw[seqIndex_neg (by omega) h3] at h1
   rw[a0g,hl]
   exact Option.some.inj h1
  exact PySem.W.ki_setBack e (by omega) (by rw[a0g,hl];exact h3) (by omega) (by rw[hk];exact fin)
theorem m9 {z:Z X}{s:Shared}(hz:z.ok s){ps:List PV}(e:sl z.ρ i=some (.own ps)){a:Addr}(o:z.σ[i]?=some (some (.ref a))):bW z.σ z.ρ i a/\z.H a=some aL/\ListAt z.cn s.heap a ps:=by
 obtain⟨b,o1,h,_,e2,_,l⟩:=Z.ok.owned hz e rfl
 cases e2
 have:=o1.2
 rw[o] at this;cases this
 exact⟨o1,h,l⟩
theorem MC {ix o:Expr}{p:Pos}{tpos:Pos}(hN:X.N[j]?=some x)(hv:rX X.env.scope x)(hd:(x==("__debug__" : Str))=false)(hcd:(x==("__classdict__" : Str))=false)(hi:NE X ix fi)(h:NE X e f)
  (hs:swapsWithSole [.Subscript (.Name x p) ix tpos] e pos.line X.env=pure false) (hw:swappedStores [.Subscript (.Name x p) ix tpos] e X.env=pure none)
  (h1:(assignEach [.Subscript (.Name x p) ix tpos] X.env).map (·.2)=[assign (.Subscript (.Name x p) ix tpos) X.env])
  (ha:∀v,assign (.Subscript (.Name x p) ix tpos) X.env v=(do
   let ov ←holding [v] (eval (.Name x p) X.env)
   let iv ←holding [v,ov] (eval ix X.env)
   standAt tpos
   holding [v,ov,iv] (setItem ov iv v)
   release [v,ov,iv] [])):NS X (.Assign [.Subscript (.Name x p) ix tpos] e pos) (mU j fi f):=λz s E hz hb=>by
 unfold mU Fa at hb ⊢
 split at hb
 ·next v ps k ev es ek=>
  unfold yq at hb ⊢
  split at hb
  ·next n en=>
   obtain⟨r,er,ev⟩:=a0a.mp ev
   obtain⟨rk,erk,ek⟩:=a0a.mp ek
   refine wpAny_Assign_stores (aV (h z s r E hz er) λu s1 q=>?_) hs hw
   rw[h1]
   show W X (assign _ X.env u) _ E s1
   rw[ha]
   obtain⟨a,o1,_,_⟩:=Z.ok.owned hz es rfl
   refine wpAny_bind (wpAny_holding (oq q.1.1 o1.2 hN hv hd hcd ?_))
   refine wpAny_bind (wpAny_holding (aV (hi z s1 rk E q.1.1 erk) λiv s2 q2=>?_))
   obtain⟨t,rfl⟩:=q2.2.fr ek
   obtain⟨o2,hH,l⟩:=m9 q2.1.1 es o1.2
   refine wpAny_bind (wpAny_standAt (wpAny_bind (wpAny_holding (aV (zI q2.1.1 o2 hH l en ((q.2.fr ev).m q2.1.2.kpD)) λ_ s3 w=>?_))))
   exact wpAny_release ⟨rfl,z.σ,z.H,w.1,(q.1.2.trans q2.1.2).stp.trans w.2⟩
  ·exact absurd rfl hb
 ·exact absurd rfl hb
noncomputable def GH (g:Int->Int->Int)(o:Option Sl)(v:Option PV)(i:Nat)(ρ:aq):Out:=match o,v with
 |some (.val (.int a)),some (.int b)=>.nx (ρ.set i (some (.val (.int (g a b)))))
 |_,_=>.bad
noncomputable def pH (g:Int->Int->Int)(i:Nat)(f:FE):FS:=λρ=>GH g (sl ρ i) ((f ρ).bind RV.fr) i ρ
noncomputable def Ei (X:Cx)(op:Operator)(g:Int->Int->Int):Prop:=∀(a b:Int) (t u:Tok) (s:Shared) (Q:Value->Shared->Prop) E,(∀tk n,Q (.int (g a b) tk) { s with toks:=n })->W X (inplaceOp op (.int a t) (.int b u)) Q E s
theorem Cf:Ei X .Add λa b=>a+b:=λa b t u s Q E h=>iadd_int (h _ _)
theorem BT:Ei X .Sub λa b=>a - b:=λa b t u s Q E h=>isub_int (h _ _)
theorem L7 {op:Operator}{g:Int->Int->Int}{p':Pos}(n:Nm X i x)(h:NE X e f)(ho:Ei X op g):NS X (.AugAssign (.Name x p') op e pos) (pH g i f):=λz s E hz hb=>by
 unfold pH GH at hb ⊢
 split at hb
 ·next a b es ev=>
  obtain⟨r,er,ev⟩:=a0a.mp ev
  have vis:rX X.env.scope x:=by rcases n.loc with k|k;exact .inl k;exact .inr (.inl k)
  obtain⟨v,u,m,hn,rr,lk,e1,d,_⟩:=Z.ok.get hz es n.ix vis
  obtain⟨t,rfl⟩:=d u rr
  refine wpAny_AugAssign_Name ?_
  have go:W X (eval e X.env) (λw s₂=>W X (inplaceOp op (.int a t) w) (λr s₃=>W X (storeName X.env x r) (λ_=>Z.sp z s (.nx (z.ρ.set i (some (.val (.int (g a b)))))) .next) E s₃) E s₂) E s:=
   aV (h z s r E hz er) λw s1 q=>by
    obtain⟨t',rfl⟩:=q.2.fr ev
    refine ho a b t t' s1 _ _ λtk nn=>?_
    have g2:=q.1.trans (q.1.1.tok nn)
    exact aV (g8 (p:=.int (g a b)) g2.1 n ⟨tk,rfl⟩) λ_ s2 w=>⟨rfl,(g2.tv w).to⟩
  rcases lk with ⟨hk,hm⟩|⟨hk,c,hc,hcell⟩
  ·exact wpAny_loadName_local hz.I.ok.kind hk hn hm go
  ·rcases hk with hk|hk
   ·exact wpAny_loadName_cell hz.I.ok.kind hk hc hcell go
   ·rcases n.loc with k|k
    ·have:X.env.scope.names.lookup x=some .free:=hk
     rw[k] at this;cases this
    ·have:X.env.scope.names.lookup x=some .free:=hk
     rw[k] at this;cases this
 ·exact absurd rfl hb
noncomputable def pK (g:Int->Int->Int)(o:Option PV)(ps:List PV)(k b:Int)(j:Nat)(ρ:aq):Out:=match o with
 |some (.int a)=>.nx (ρ.set j (some (.own (ps.set k.toNat (.int (g a b))))))
 |_=>.bad
noncomputable def uB (g:Int->Int->Int)(o:Option Sl)(k v:Option PV)(j:Nat)(ρ:aq):Out:=match o,k,v with
 |some (.own ps),some (.int k),some (.int b)=>if 0<=k then pK g ps[k.toNat]? ps k b j ρ else .bad
 |_,_,_=>.bad
noncomputable def ku (g:Int->Int->Int)(j:Nat)(fi f:FE):FS:=λρ=>uB g (sl ρ j) ((fi ρ).bind RV.fr) ((f ρ).bind RV.fr) j ρ
theorem E6 {op:Operator}{g:Int->Int->Int}{ix:Expr}{p tpos:Pos}(hN:X.N[j]?=some x)(hv:rX X.env.scope x)(hd:(x==("__debug__" : Str))=false)(hcd:(x==("__classdict__" : Str))=false)(hi:NE X ix fi)(h:NE X e f)(ho:Ei X op g)
  (ha:∀ov iv new,augStore ix ov iv new=(do holding [new,ov,iv] (setItem ov iv new);release [new,ov,iv] [];pure .next)):NS X (.AugAssign (.Subscript (.Name x p) ix tpos) op e pos) (ku g j fi f):=λz s E hz hb=>by
 unfold ku uB at hb ⊢
 split at hb
 ·next ps k b es ek ev=>
  split at hb
  ·next h0=>
   rw[if_pos h0]
   unfold pK at hb ⊢
   split at hb
   ·next a ea=>
    obtain⟨r,er,ev⟩:=a0a.mp ev
    obtain⟨rk,erk,ek⟩:=a0a.mp ek
    obtain⟨ad,o1,_,_⟩:=Z.ok.owned hz es rfl
    have hlt:k.toNat<ps.length:=(a0i.mp ea).1
    have hlb:=oB
    refine wpAny_AugAssign_SubscriptAny (oq hz o1.2 hN hv hd hcd ?_) ha
    refine aV (hi z s rk E hz erk) λiv s2 q2=>?_
    obtain⟨t,rfl⟩:=q2.2.fr ek
    obtain⟨o2,hH,l⟩:=m9 q2.1.1 es o1.2
    obtain⟨its,m,e1,zl,ds⟩:=l
    have hl:=ds.length
    obtain⟨w,ew,tw,rfl⟩:=ds.get ea
    refine wpAny_getItem_list (bj e1) h0 (by omega) (by simpa using ew) ?_
    refine aV (h z s2 r E q2.1.1 er) λv s4 q4=>?_
    obtain⟨t',rfl⟩:=q4.2.fr ev
    refine ho a b tw t' s4 _ _ λtk nn=>?_
    have g5:=q4.1.trans (q4.1.1.tok nn)
    obtain⟨o5,hH5,l5⟩:=m9 g5.1 es o1.2
    have hn:sQ ps.length k=some k.toNat:=by unfold sQ;rw[if_pos h0,if_pos (by omega)]
    exact aV (zI (v:=.int (g a b)) g5.1 o5 hH5 l5 hn ⟨tk,rfl⟩) λ_ s6 w=>⟨rfl,z.σ,z.H,w.1,(q2.1.2.trans g5.2).stp.trans w.2⟩
   ·exact absurd rfl hb
  ·exact absurd rfl hb
 ·exact absurd rfl hb
noncomputable def frz (i:Nat)(ρ:aq):aq:=match ρ[i]? with
 |some (some (.own ps))=>ρ.set i (some (.val (.lst ps)))
 |some (some (.dic ks ps))=>ρ.set i (some (.val (.dct ks ps)))
 |_=>ρ
noncomputable def FM (i:Nat)(s:FS):FS:=λρ=>s (frz i ρ)
theorem Z.ok.frz {z:Z X}{s:Shared}(hz:z.ok s)(i:Nat):∃H',(z.wi z.σ H' (Dp.frz i z.ρ)).ok s/\Stp z.bad z.H H' s.heap s.heap:=by
 have main:∀(t:Sl) (p:PV),z.ρ[i]?=some (some t)->cH t=true->(∀(c:Cn) H a,c.ok a->SlOk c H s.heap t (.ref a)->D c s.heap p (.ref a))->∃H',(z.wi z.σ H' (z.ρ.set i (some (.val p)))).ok s/\Stp z.bad z.H H' s.heap s.heap:=λt p et ho hp=>by
  have hil:i<z.ρ.length:=(a0i.mp et).1
  obtain⟨a,oa,hH,d⟩:=Z.ok.owned hz (show sl z.ρ i=some t by unfold sl;rw[et];rfl) ho
  have own:∀{j b},bW z.σ (z.ρ.set i (some (.val p))) j b->j≠i/\bW z.σ z.ρ j b:=λ{j b} ⟨⟨t',e1,ot⟩,q⟩=>by
   by_cases hj:i=j
   ·subst hj;rw[a0x hil] at e1;cases e1;cases ot
   ·rw[a0q hj] at e1;exact⟨Ne.symm hj,⟨t',e1,ot⟩,q⟩
  have kp:Kp z.cn (bI X z.bad (xu z.H a)) s.heap s.heap:=⟨rfl,rfl,rfl,λb o q e=>⟨⟨j6 q.1,q.2⟩,e⟩⟩
  refine⟨xu z.H a,⟨Inv.untrack hz.I hH,by simp[hz.len],λj t' q=>?_,λj k b o1 o2=>hz.dj j k b (own o1).2 (own o2).2,λj b o=>hz.nb j b (own o).2,λb o q=>?_,hz.oh0,hz.loc,hz.cel,hz.fs,hz.ex,hz.there,hz.bs,λb o q=>?_,hz.anc⟩,⟨λb o n hn e=>⟨e,j6 hn⟩,λb o e=>⟨o,e⟩⟩⟩
  ·by_cases hj:i=j
   ·subst hj
    have q:(z.ρ.set i (some (.val p)))[i]?=some (some t'):=q
    rw[a0x hil] at q
    cases q
    refine⟨.ref a,oa.2,⟨.ref a,rfl⟩,λu r=>?_⟩
    rw[show u=.ref a from r]
    exact hp (bI X z.bad (xu z.H a)) z.H a ⟨nP,(hz.ot a _ hH).1⟩ (d.mono kp λ_ _ _ e=>e)
   ·have q2:(z.ρ.set i (some (.val p)))[j]?=some (some t'):=q
    rw[a0q hj] at q2
    obtain⟨w,e1,r,dd⟩:=hz.slk j t' q2
    refine⟨w,e1,r,?_⟩
    have ne:∀b,w=.ref b->cH t'=true->b≠a:=λb e3 ot y=>by
     subst y e3
     exact hj (hz.dj i j b oa ⟨⟨t',q2,ot⟩,e1⟩)
    cases t' with
    |val p=>exact λu r=>(dd u r).m kp
    |own ps=>obtain⟨b,rfl,hb,l⟩:=dd;exact⟨b,rfl,(jA (ne b rfl rfl)).trans hb,l.mono kp λ_ e=>e⟩
    |dic ks ps=>obtain⟨b,rfl,hb,l⟩:=dd;exact⟨b,rfl,(jA (ne b rfl rfl)).trans hb,l.mono kp λ_ e=>e⟩
  ·by_cases hb:b=a
   ·have q:xu z.H a b=some o:=q
    rw[hb,nP] at q;cases q
   ·have q:xu z.H a b=some o:=q
    rw[jA hb] at q;exact hz.oh b o q
  ·by_cases hb:b=a
   ·have q:xu z.H a b=some o:=q
    rw[hb,nP] at q;cases q
   ·have q:xu z.H a b=some o:=q
    rw[jA hb] at q;exact hz.ot b o q
 unfold Dp.frz
 split
 ·next ps e=>exact main _ _ e rfl λc H a o d=>by obtain⟨b,e1,_,its,n,r⟩:=d;cases e1;exact⟨a,its,n,rfl,o,r⟩
 ·next ks ps e=>exact main _ _ e rfl λc H a o d=>by obtain⟨b,e1,_,kus,r⟩:=d;cases e1;exact⟨a,kus,rfl,o,r⟩
 ·exact⟨z.H,hz,Ext.refl.stp⟩
theorem MN {st:Stmt}{g:FS}(h:NS X st g)(i:Nat):NS X st (FM i g):=λz s E hz hb=>by
 obtain⟨H',ok,t⟩:=Z.ok.frz hz i
 exact aV (h (z.wi z.σ H' (frz i z.ρ)) s E ok hb) λfl s' q=>q.back t
end
section
variable {X:Cx}{z:Z X}{s s' s1 s2:Shared}{h h':Heap}{fp:List Addr}
theorem Inv.turnedL {pins:List (Addr×Obj)}{σ:L2.St}{H:Hp}{t':Nat}(I:Inv X pins σ H s)(k:∀b o,b∉fp->s.heap.get? b=some o->h'.get? b=some o)(th:∀b∈fp,∃o,h'.get? b=some o)(f:∀b∈fp,jU X pins H b):Inv X pins σ H { s with heap:=h',toks:=t' }:=by
 have ne:∀b u,H b=some u->b∉fp:=λb u q y=>by rw[(f b y).1] at q;cases q
 have hl:X.env.locals∉fp:=λy=>(f _ y).2.1 rfl
 refine I.step (g':=s.gens) (d':=s.drawn) (ch:=fp) (λb hb=>?_) (λb o _ _ hc q _=>k b o hc q) (λb o _ _ hc q _=>⟨o.slots,k b o hc q⟩) (λ_ _ _ _ n=>n)
  (λb o hc q=>⟨o,k b o hc q⟩) (λ_ _ q=>q) (λ_ _ _ q=>q) (λb ps q=>⟨#[],by rw[q];simp⟩) (λm hm=>?_) (λb u q=>?_) I.bare
 ·obtain⟨f0,f1,f2,f3,f4,f5⟩:=f b hb
  exact⟨f3,f1,f4,f5⟩
 ·obtain⟨o,es,ep,ho,r⟩:=hm
  exact⟨o,es,ep,k _ o hl ho,r⟩
 ·refine (I.hok b u q).stay (λc v hc g=>?_) (λ_ g=>g) λ_ _ g=>g
  rcases hc with y|y
  ·subst y;exact k _ v (ne _ u q) g
  ·exact k c v (ne c _ y) g
theorem Z.ok.turn {t:Nat}(hz:z.ok s)(f:∀b∈fp,jU X z.pins z.H b/\z.bad b)(k:∀b o,b∉fp->s.heap.get? b=some o->h'.get? b=some o)(th:∀b∈fp,∃o,h'.get? b=some o):z.go s { s with heap:=h',toks:=t }:=
 hz.ext (Inv.turnedL hz.I k th λb hb=>(f b hb).1) ⟨λa o n e=>k a o (λy=>n (f a y).2) e,λa o e=>by
  by_cases y:a∈fp
  ·exact th a y
  ·exact⟨o,k a o y e⟩⟩
noncomputable abbrev Z.wb (z:Z X)(fp:List Addr):Z X:=⟨λb=>z.bad b\/b∈fp,z.pins,z.σ,z.H,z.ρ⟩
noncomputable abbrev Z.wp (z:Z X)(pl:List (Addr×Obj)):Z X:=⟨z.bad,z.pins++pl,z.σ,z.H,z.ρ⟩
theorem pN {bad bad':Addr->Prop}{H:Hp}(e:Ext bad h h')(n:∀b,bad' b->bad b\/h.get? b=none):Kp (bI X bad H) (bI X bad' H) h h':=
 ⟨rfl,rfl,rfl,λa o q g=>⟨⟨q.1,λy=>(n a y).elim q.2 λy=>by rw[y] at g;cases g⟩,e.kp a o q.2 g⟩⟩
theorem yI {bad bad':Addr->Prop}{H:Hp}(n:∀b,bad b->bad' b):Kp (bI X bad' H) (bI X bad H) h h:=⟨rfl,rfl,rfl,λa o q g=>⟨⟨q.1,λy=>q.2 (n a y)⟩,g⟩⟩
theorem Z.ok.more (hz:z.ok s)(g:z.go s s2)(n:∀b∈fp,s.heap.get? b=none/\∃o,s2.heap.get? b=some o):(z.wb fp).ok s2:=by
 have k:=pN (X:=X) (H:=z.H) (bad':=λb=>z.bad b\/b∈fp) g.2 λb y=>y.imp id λy=>(n b y).1
 have own:∀a o,z.H a=some o->a∉fp:=λa o q y=>by obtain⟨ob,r⟩:=hz.stands q;rw[(n a y).1] at r;cases r
 have ot:=g.1.ot
 refine⟨g.1.I,hz.len,λi t q=>?_,hz.dj,λi a q=>?_,hz.oh,hz.oh0,.inl hz.loc,λx c e=>.inl (hz.cel x c e),λb q=>.inl (hz.fs b q),λb q=>.inl (hz.ex b q),λb q=>q.elim (g.1.there b) λq=>(n b q).2,λb o e q=>?_,λa o q=>⟨λy=>y.elim (ot a o q).1 (own a o q),(ot a o q).2⟩,hz.anc⟩
 ·obtain⟨v,e1,r,d⟩:=hz.slk i t q
  refine⟨v,e1,r,d.mono k λa o ha e=>g.2.kp a o (hz.ot a _ ha).1 e⟩
 ·have e:∃ob,s.heap.get? a=some ob:=by
   obtain⟨⟨t,e1,ot⟩,e2⟩:=q
   obtain⟨v,e3,_,d⟩:=hz.slk i t e1
   rw[e2] at e3;cases e3
   cases t with
   |val p=>cases ot
   |own ps=>obtain⟨b,eb,ho,_⟩:=d;cases eb;exact hz.stands ho
   |dic ks ps=>obtain⟨b,eb,ho,_⟩:=d;cases eb;exact hz.stands ho
  exact⟨λy=>y.elim (hz.nb i a q).1 λy=>(by obtain⟨o,e⟩:=e;rw[(n a y).1] at e;cases e),(hz.nb i a q).2⟩
 ·rcases q with q|q
  ·exact hz.bs b o e q
  ·have:=(hz.I.bs b o e).1
   rw[(n b q).1] at this;cases this
theorem Z.ok.less {s3:Shared}{σ:L2.St}{H:Hp}{ρ:aq}(hz:z.ok s)(n:∀b∈fp,s.heap.get? b=none)(ok:((z.wb fp).wi σ H ρ).ok s3)(I:Inv X z.pins σ H s')(k:∀b o,b∉fp->s3.heap.get? b=some o->s'.heap.get? b=some o):(z.wi σ H ρ).ok s':=by
 have kp:Kp (bI X (z.wb fp).bad H) (bI X z.bad H) s3.heap s'.heap:=⟨rfl,rfl,rfl,λa o q g=>⟨⟨q.1,λy=>q.2 (.inl y)⟩,k a o (λy=>q.2 (.inr y)) g⟩⟩
 have no:∀a o,H a=some o->a∉fp:=λa o q y=>(ok.ot a o q).1 (.inr y)
 refine⟨I,ok.len,λi t q=>?_,ok.dj,λi a o=>⟨λy=>(ok.nb i a o).1 (.inl y),(ok.nb i a o).2⟩,ok.oh,ok.oh0,hz.loc,hz.cel,hz.fs,hz.ex,λb q=>?_,hz.bs,λa o q=>⟨λy=>(ok.ot a o q).1 (.inl y),let ⟨ob,e1,e2⟩:=(ok.ot a o q).2;⟨ob,k a ob (no a o q) e1,e2⟩⟩,ok.anc⟩
 ·obtain⟨v,e1,r,d⟩:=ok.slk i t q
  exact⟨v,e1,r,d.mono kp λa o h e=>k a o (no a _ h) e⟩
 ·obtain⟨o,e⟩:=ok.there b (.inl q)
  exact⟨o,k b o (λy=>by obtain⟨o',e'⟩:=hz.there b q;rw[n b y] at e';cases e') e⟩
theorem Stp.less {h3:Heap}{bad:Addr->Prop}{H H':Hp}(e:Ext bad h h1)(n:∀b∈fp,h.get? b=none)(t:Stp (λb=>bad b\/b∈fp) H H' h1 h3)(k:∀b o,b∉fp->h3.get? b=some o->h'.get? b=some o):Stp bad H H' h h':=by
 have no:∀a o,h.get? a=some o->a∉fp:=λa o g y=>by rw[n a y] at g;cases g
 refine⟨λa o nb q g=>?_,λa o g=>?_⟩
 ·obtain⟨r1,r2⟩:=t.kp a o (λy=>y.elim nb (no a o g)) q (e.kp a o nb g)
  exact⟨k a o (no a o g) r1,r2⟩
 ·obtain⟨o',q⟩:=e.th a o g
  obtain⟨o2,q⟩:=t.th a o' q
  exact⟨o2,k a o2 (no a o g) q⟩
theorem Z.sp.less {o:Out}{fl:Flow}(hz:z.ok s)(g:Ext z.bad s.heap s2.heap)(n:∀b∈fp,s.heap.get? b=none)(h:(z.wb fp).sp s2 o fl s'):z.sp s o fl s':=by
 have id':∀b o,b∉fp->s'.heap.get? b=some o->s'.heap.get? b=some o:=λ_ _ _ e=>e
 cases o with
 |nx ρ=>obtain⟨e,σ',H',a,b⟩:=h;exact⟨e,σ',H',hz.less n a a.I id',b.less g n id'⟩
 |bk ρ=>obtain⟨e,σ',H',a,b⟩:=h;exact⟨e,σ',H',hz.less n a a.I id',b.less g n id'⟩
 |ct ρ=>obtain⟨e,σ',H',a,b⟩:=h;exact⟨e,σ',H',hz.less n a a.I id',b.less g n id'⟩
 |rt p ρ=>obtain⟨u,σ',H',e,a,b,c⟩:=h;exact⟨u,σ',H',e,hz.less n a a.I id',b.less g n id',c.m (yI λ_=>.inl)⟩
 |rn p ρ=>obtain⟨u,σ',H',e,a,b,c,d,l⟩:=h;exact⟨u,σ',H',e,hz.less n a a.I id',b.less g n id',c,λy=>d (.inl y),l.mono (yI λ_=>.inl) λ_ e=>e⟩
 |bad=>exact h
end
structure Trn (P:Program)(w:World)(tg:Expr)(it:Addr)(fp pl:List Addr)(its:List PV)(tn:Nat->Cn->Heap->Prop):Prop where
 obj:∀i c h,tn i c h->∀b∈fp,∃o,h.get? b=some o/\∀v,o.data≠.cell v
 keep:∀i c c' h h',tn i c h->Kp c c' h h'->(∀b,b∈fp\/b∈pl->∀o,h.get? b=some o->h'.get? b=some o)->tn i c' h'
 item:∀(X:Cx),X.prog=P->X.w=w->X.calm=true->∀(z:Z X) (s:Shared) (E:Value->Shared->Prop) (i:Nat) (p:PV),z.ok s->(∀b∈fp,jU X z.pins z.H b/\z.bad b)->(∀b∈pl,¬z.bad b)->tn i z.cn s.heap->its[i]?=some p →
  W X (pyNext (.ref it)) (λr s1=>∃u,r=some u/\W X (letOwnedTupleGo tg (.ref it) u) (λ_ s2=>z.go s s2/\D z.cn s2.heap p u/\tn (i+1) z.cn s2.heap) E s1) E s
 done:∀(X:Cx),X.prog=P->X.w=w->X.calm=true->∀(z:Z X) (s:Shared) (E:Value->Shared->Prop) (i:Nat),z.ok s->(∀b∈fp,jU X z.pins z.H b/\z.bad b)->(∀b∈pl,¬z.bad b)->tn i z.cn s.heap->its.length<=i →
  W X (pyNext (.ref it)) (λr s1=>r=none/\Inv X z.pins z.σ z.H s1/\∀b o,b∉fp->s.heap.get? b=some o->s1.heap.get? b=some o) E s
 self:∀(A:Around) (i:Nat) (c:Cn) (s:Shared) (Q:Value->Shared->Prop) (E:Value->Shared->Prop),tn i c s.heap->Q (.ref it) s->wpAny (model P w) A (pyIter (.ref it)) Q E s
noncomputable def Os {X:Cx}(z:Z X)(tg:Expr)(still:Bool)(its:List PV)(s:Shared)(itv:Value)(s2:Shared):Prop:=
 ∃it fp pl tn,itv=.ref it/\(still=true->pl=[])/\(∀b∈pl,¬z.bad b/\b∉fp/\∃o,s2.heap.get? b=some o)/\Trn X.prog X.w tg it fp pl its tn/\z.go s s2/\(∀b∈fp,jU X z.pins z.H b/\s.heap.get? b=none)/\tn 0 (bI X (λb=>z.bad b\/b∈fp) z.H) s2.heap
noncomputable def NI (X:Cx)(still:Bool)(tg iter:Expr)(f:FI):Prop:=∀(z:Z X) s its E,z.ok s->f z.ρ=some its->W X (eval iter X.env) (λv s1=>W X (pyIter v) (Os z tg still its s) E s1) E s
theorem NI.any {X:Cx}{st:Bool}{tg iter:Expr}{f:FI}(h:NI X true tg iter f):NI X st tg iter f:=λz s its E hz e=>aV (h z s its E hz e) λv s1 q=>aV q λitv s2 ⟨it,fp,pl,tn,a,b,r⟩=>⟨it,fp,pl,tn,a,λ_=>b rfl,r⟩
noncomputable def bn (t:FT)(s:FS):List PV->aq->Out
 |[],ρ=>.nx ρ
 |p::ps,ρ=>match t p ρ with
  |some ρ1=>match s ρ1 with
   |.nx ρ2=>bn t s ps ρ2
   |.ct ρ2=>bn t s ps ρ2
   |.bk ρ2=>.nx ρ2
   |o=>o
  |none=>.bad
noncomputable def jP (it:FI)(t:FT)(s:FS):FS:=λρ=>match it ρ with
 |some its=>bn t s its ρ
 |none=>.bad
noncomputable def bP (c:FB)(s:FS):Nat->aq->Out
 |0,_=>.bad
 |n+1,ρ=>match c ρ with
  |some true=>match s ρ with
   |.nx ρ2=>bP c s n ρ2
   |.ct ρ2=>bP c s n ρ2
   |.bk ρ2=>.nx ρ2
   |o=>o
  |some false=>.nx ρ
  |none=>.bad
noncomputable def eT (c:FB)(s:FS):FS:=λρ=>bP c s 10000 ρ
section
variable {X:Cx}{tg iter:Expr}{body:List Stmt}{fi:FI}{t:FT}{g:FS}{pos:Pos}
theorem pinned {z:Z X}{s:Shared}{fp:List Addr}(hz:z.ok s)(f:∀b∈fp,jU X z.pins z.H b)(o:∀b∈fp,∃o,s.heap.get? b=some o/\∀v,o.data≠.cell v):(z.wp (mY fp s.heap)).ok s:=
 ⟨hz.I.pinned f o,hz.len,hz.slk,hz.dj,hz.nb,hz.oh,hz.oh0,hz.loc,hz.cel,hz.fs,hz.ex,hz.there,hz.bs,hz.ot,hz.anc⟩
theorem unpinned {z:Z X}{pl:List (Addr×Obj)}{s:Shared}{σ:L2.St}{H:Hp}{ρ:aq}(hz:((z.wp pl).wi σ H ρ).ok s):(z.wi σ H ρ).ok s:=
 ⟨hz.I.unpinned,hz.len,hz.slk,hz.dj,hz.nb,hz.oh,hz.oh0,hz.loc,hz.cel,hz.fs,hz.ex,hz.there,hz.bs,hz.ot,hz.anc⟩
theorem wX {z:Z X}{fp:List Addr}{h:Heap}{s:Shared}{σ:L2.St}{H:Hp}{ρ:aq}(hz:((z.wp (mY fp h)).wi σ H ρ).ok s)(b:Addr)(hb:b∈fp)(o:Obj)(e:h.get? b=some o):s.heap.get? b=some o:=
 (hz.I.pin (b,o) (a0p _ (a0p _ (xS hb e)))).1
theorem Ng (hc:X.calm=true)(hi:NI X true tg iter fi)(hg:NG X tg t)(hb:Bu X body g)(hs:∀x,foldedSetIterable iter X.env x=pure x:=by intro _;rfl):NS X (.For tg iter body [] pos) (jP fi t g):=λz s E hz hn=>by
 unfold jP at hn ⊢
 split at hn
 ·next its ei=>
  refine wpAny_For (aV (hi z s its E hz ei) λv s1 h1=>aV h1 λitv s2 h2=>?_) hs
  obtain⟨it,fp,pl,tn,e,hpl,_,T,g2,f2,st2⟩:=h2
  cases hpl rfl
  subst e
  have z2:(z.wb fp).ok s2:=hz.more g2 λb hb=>⟨(f2 b hb).2,let ⟨o,e,_⟩:=T.obj _ _ _ st2 b hb;⟨o,e⟩⟩
  have stat:∀{σ H ρ s'},((z.wb fp).wi σ H ρ).ok s'->∀b∈fp,jU X z.pins H b/\(z.wb fp).bad b:=λ{σ H ρ s'} ok b hb=>⟨⟨by
   cases q:H b with
   |none=>rfl
   |some o=>exact absurd (Or.inr hb) (ok.ot b o q).1,(f2 b hb).1.2⟩,.inr hb⟩
  have fin:∀{fl s'},(z.wb fp).sp s2 (bn t g its z.ρ) fl s'->z.sp s (bn t g its z.ρ) fl s':=λh=>h.less hz g2.2 λb hb=>(f2 b hb).2
  generalize ho:bn t g its z.ρ=o at hn fin ⊢
  refine codeAny_forLoop_any (λn s'=>∃i σ' H' ρ',n=its.length - i/\i<=its.length/\((z.wb fp).wi σ' H' ρ').ok s'/\Stp (z.wb fp).bad z.H H' s2.heap s'.heap/\tn i (bI X (z.wb fp).bad H') s'.heap/\bn t g (its.drop i) ρ'=o) ?_ its.length ⟨0,z.σ,z.H,z.ρ,rfl,a3i _,z2,Ext.refl.stp,st2,ho⟩
  rintro n s3 ⟨i,σ3,H3,ρ3,rfl,hi3,ok3,t3,st3,eo⟩
  by_cases hlt:i<its.length
  ·rw[a3d hlt,bn] at eo
   cases e1:t its[i] ρ3 with
   |none=>rw[e1] at eo;exact absurd eo.symm hn
   |some ρ4=>
   rw[e1] at eo
   simp only[] at eo
   refine aV (T.item X rfl rfl hc ((z.wb fp).wi σ3 H3 ρ3) s3 _ i its[i] ok3 (stat ok3) (λb q=>nomatch q) st3 (a0h hlt)) λr s4 ⟨u,hr,h4⟩=>?_
   subst hr
   refine aV h4 λ_ s5 ⟨g5,d5,st5⟩=>?_
   have ok5:=pinned g5.1 (λb hb=>(stat g5.1 b hb).1) (T.obj _ _ _ st5)
   refine aV (hg _ s5 its[i] u ρ4 _ ok5 d5 e1) λ_ s6 ⟨σ6,ok6,x6⟩=>?_
   have hnb:g ρ4≠.bad:=λq=>by rw[q] at eo;exact hn eo.symm
   refine aV (hb _ s6 _ ok6 hnb) λf s7 q7=>?_
   have t6:Stp (z.wb fp).bad z.H H3 s2.heap s6.heap:=t3.trans (g5.2.trans x6).stp
   have again:∀{ρ7 σ7 H7},((((z.wb fp).wi σ3 H3 ρ3).wp (mY fp s5.heap)).wi σ7 H7 ρ7).ok s7->Stp (z.wb fp).bad H3 H7 s6.heap s7.heap->bn t g (its.drop (i+1)) ρ7=o →
     ∃m,m<its.length - i/\∃i σ' H' ρ',m=its.length - i/\i<=its.length/\((z.wb fp).wi σ' H' ρ').ok s7/\Stp (z.wb fp).bad z.H H' s2.heap s7.heap/\tn i (bI X (z.wb fp).bad H') s7.heap/\bn t g (its.drop i) ρ'=o:=λ{ρ7 σ7 H7} ok7 t7 e7=>by
    refine⟨its.length - (i+1),by omega,i+1,σ7,H7,ρ7,rfl,hlt,unpinned (z:=(z.wb fp).wi σ3 H3 ρ3) ok7,t6.trans t7,?_,e7⟩
    exact T.keep _ _ _ _ _ st5 (x6.stp.trans t7).kpD λb hb=>hb.elim (λhb=>wX (z:=(z.wb fp).wi σ3 H3 ρ3) ok7 b hb) λq=>nomatch q
   generalize g ρ4=o4 at eo q7 hnb
   cases o4 with
   |nx ρ7=>obtain⟨e,σ7,H7,ok7,t7⟩:=q7;subst e;exact again ok7 t7 eo
   |ct ρ7=>obtain⟨e,σ7,H7,ok7,t7⟩:=q7;subst e;exact again ok7 t7 eo
   |bk ρ7=>obtain⟨e,σ7,H7,ok7,t7⟩:=q7;subst e;refine fin ?_;rw[←eo];exact⟨rfl,σ7,H7,unpinned (z:=(z.wb fp).wi σ3 H3 ρ3) ok7,t6.trans t7⟩
   |rt p ρ7=>obtain⟨u,σ7,H7,e,ok7,t7,d7⟩:=q7;subst e;refine fin ?_;rw[←eo];exact⟨u,σ7,H7,rfl,unpinned (z:=(z.wb fp).wi σ3 H3 ρ3) ok7,t6.trans t7,d7⟩
   |rn p ρ7=>obtain⟨u,σ7,H7,e,ok7,t7,d7⟩:=q7;subst e;refine fin ?_;rw[←eo];exact⟨u,σ7,H7,rfl,unpinned (z:=(z.wb fp).wi σ3 H3 ρ3) ok7,t6.trans t7,d7⟩
   |bad=>exact absurd rfl hnb
  ·rw[a2b (by omega),bn] at eo
   refine aV (T.done X rfl rfl hc ((z.wb fp).wi σ3 H3 ρ3) s3 _ i ok3 (stat ok3) (λb q=>nomatch q) st3 (by omega)) λr s4 ⟨hr,I4,k4⟩=>?_
   subst hr
   refine wpAny_execs_nil ?_
   show Z.sp z s o .next _
   rw[←eo]
   exact⟨rfl,σ3,H3,hz.less (λb hb=>(f2 b hb).2) ok3 I4 k4,t3.less g2.2 (λb hb=>(f2 b hb).2) k4⟩
 ·exact absurd rfl hn
theorem Fp {c:Expr}{fc:FB}(hc:NB X c fc)(hb:Bu X body g):NS X (.While c body [] pos) (eT fc g):=λz s E hz hn=>by
 unfold eT at hn ⊢
 generalize ho:bP fc g 10000 z.ρ=o at hn ⊢
 refine wpAny_While (codeAny_whileLoop (λn s'=>∃σ' H' ρ',(z.wi σ' H' ρ').ok s'/\Stp z.bad z.H H' s.heap s'.heap/\bP fc g n ρ'=o) ?_ 10000 ⟨z.σ,z.H,z.ρ,hz,Ext.refl.stp,ho⟩)
 rintro n s1 ⟨σ1,H1,ρ1,ok1,t1,eo⟩
 cases n with
 |zero=>exact absurd eo.symm hn
 |succ n=>
  rw[bP] at eo
  cases ec:fc ρ1 with
  |none=>rw[ec] at eo;exact absurd eo.symm hn
  |some b=>
  rw[ec] at eo
  refine aV (hc (z.wi σ1 H1 ρ1) s1 b _ ok1 ec) λb' s2 ⟨e,g2⟩=>?_
  subst e
  cases b' with
  |true=>
   rw[if_pos rfl]
   have hnb:g ρ1≠.bad:=λq=>by rw[q] at eo;exact hn eo.symm
   refine aV (hb (z.wi σ1 H1 ρ1) s2 _ g2.1 hnb) λf s3 q3=>?_
   have t2:Stp z.bad z.H H1 s.heap s2.heap:=t1.trans g2.2.stp
   simp only[] at eo
   generalize g ρ1=o4 at eo q3 hnb
   cases o4 with
   |nx ρ7=>obtain⟨e,σ7,H7,ok7,t7⟩:=q3;subst e;exact⟨n,a2h _,σ7,H7,ρ7,ok7,t2.trans t7,eo⟩
   |ct ρ7=>obtain⟨e,σ7,H7,ok7,t7⟩:=q3;subst e;exact⟨n,a2h _,σ7,H7,ρ7,ok7,t2.trans t7,eo⟩
   |bk ρ7=>obtain⟨e,σ7,H7,ok7,t7⟩:=q3;subst e;show Z.sp z s o .next _;rw[←eo];exact⟨rfl,σ7,H7,ok7,t2.trans t7⟩
   |rt p ρ7=>obtain⟨u,σ7,H7,e,ok7,t7,d7⟩:=q3;subst e;show Z.sp z s o (.ret u) _;rw[←eo];exact⟨u,σ7,H7,rfl,ok7,t2.trans t7,d7⟩
   |rn p ρ7=>obtain⟨u,σ7,H7,e,ok7,t7,d7⟩:=q3;subst e;show Z.sp z s o (.ret (.ref u)) _;rw[←eo];exact⟨u,σ7,H7,rfl,ok7,t2.trans t7,d7⟩
   |bad=>exact absurd rfl hnb
  |false=>
   rw[if_neg a0y]
   refine wpAny_execs_nil ?_
   show Z.sp z s o .next _
   rw[←eo]
   exact⟨rfl,σ1,H1,g2.1,t1.trans g2.2.stp⟩
end
end Dp
end
section
namespace L2
open PySem PySem.Spec PyProof.Rows
section
variable {prog:Program}{w:World}{A:Around}{E:Value->Shared->Prop}{s:Shared}
theorem JC {it t:Addr}{i:Nat}{items:Array Value}{x:Value}{Q:Value->Shared->Prop}(hit:s.heap.IsTupleIter it t i)(ht:s.heap.IsTuple t items)(hx:items[i]?=some x)
  (hQ:∀h',h'.IsTupleIter it t (i+1)->Heap.SameBut it s.heap h'->Q x { s with heap:=h' }):wpAny (model prog w) A (Builtin.SmallTypes.nextOf (.ref it)) Q E s:=by
 have hT:=hit.typeIs
 obtain⟨o,ho,hc,hd⟩:=hit;obtain⟨ol,hol,_,nl,hdl⟩:=ht
 unfold Builtin.SmallTypes.nextOf
 refine wpAny_bind (wpAny_callSpecial?_slot (name:=Str.ofString "__next__") hT F.slot_tuple_iterator_next (wpAny_call_entry F.slot_tuple_iterator_next hT F.entry_tuple_iterator_next ?_ (F.args_tuple_iterator_next_1 _)))
 refine (?_:wpAny _ _ (field (.ref it) 0 >>= _) _ _ s);refine wpAny_bind (wpAny_field ho hd (x:=.ref t) rfl (?_:wpAny _ _ (if (Value.ref t==Value.none)=true then _ else _) _ _ s))
 rw[if_neg (show ¬((Value.ref t==Value.none)=true) from a0y)];refine (?_:wpAny _ _ (field (.ref it) 1 >>= _) _ _ s);refine wpAny_bind (wpAny_field ho hd (x:=.int i 0) rfl (?_:wpAny _ _ (seqItems? (.ref t) >>= _) _ _ s));refine wpAny_bind (m:=seqItems? (.ref t)) (wpAny_seqItems hol hdl ?_);simp only[a1e,hx]
 refine wpAny_bind (wpAny_setField ho hd (by simp) (wpAny_pure ⟨x,rfl,wpAny_pure (hQ _ ⟨_,Heap.get?_update_self _ ho (Obj.isFreed_of_fields (Obj.data_mapFields hd _)),(Obj.cls_mapFields ..).trans hc,by rw[Obj.data_mapFields hd];simp[rawInt]⟩ (Heap.SameBut.update ..))⟩))
theorem zO {it t:Addr}{i:Nat}{items:Array Value}{Q:Value->Shared->Prop}(hh:A.handled=none)(hit:s.heap.IsTupleIter it t i)(ht:s.heap.IsTuple t items)(hx:items[i]?=none)
  (hE:∀h' e,Heap.ExtBut it s.heap h'->(∃o,h'.get? e=some o/\o.cls=.type "StopIteration")->E (.ref e) { s with heap:=h' }):wpAny (model prog w) A (Builtin.SmallTypes.nextOf (.ref it)) Q E s:=by
 have hT:=hit.typeIs
 obtain⟨o,ho,hc,hd⟩:=hit;obtain⟨ol,hol,_,nl,hdl⟩:=ht
 unfold Builtin.SmallTypes.nextOf
 refine wpAny_bind (wpAny_callSpecial?_slot (name:=Str.ofString "__next__") hT F.slot_tuple_iterator_next (wpAny_call_entry F.slot_tuple_iterator_next hT F.entry_tuple_iterator_next ?_ (F.args_tuple_iterator_next_1 _)))
 refine (?_:wpAny _ _ (field (.ref it) 0 >>= _) _ _ s);refine wpAny_bind (wpAny_field ho hd (x:=.ref t) rfl (?_:wpAny _ _ (if (Value.ref t==Value.none)=true then _ else _) _ _ s))
 rw[if_neg (show ¬((Value.ref t==Value.none)=true) from a0y)];refine (?_:wpAny _ _ (field (.ref it) 1 >>= _) _ _ s);refine wpAny_bind (wpAny_field ho hd (x:=.int i 0) rfl (?_:wpAny _ _ (seqItems? (.ref t) >>= _) _ _ s));refine wpAny_bind (m:=seqItems? (.ref t)) (wpAny_seqItems hol hdl ?_);simp only[a1e,hx]
 refine wpAny_bind (wpAny_rule (wpAny_bind (wpAny_setField ho hd (by simp) (?_:wpAny _ _ (newExc (.type "StopIteration") [] >>= _) _ _ _))))
 refine wpAny_bind ?_;simp only[newExc,newTuple];refine wpAny_bind (wpAny_newObj_type ?_ (by size_fits))
 refine wpAny_bind (m:=firstArgMember _ _) (wpAny_of_eq (a:=Value.none) (by first|rfl|(simp only[firstArgMember];rfl)) (wpAny_newObj_type ?_ (by size_fits)))
 simp only[raiseNew];refine wpAny_bind (wpAny_handled ?_);first|rw[show A.in1.handled=none from hh]|rw[hh]
 exact wpAny_bind (wpAny_pure (wpAny_throw (hE _ _ (((Heap.SameBut.update ..).extBut.push _).push _) ⟨_,Heap.get?_push_size _ rfl,rfl⟩)))
end
theorem pO {h h':Heap}{a t:Addr}{i:Nat}(x:h.IsTupleIter a t i)(k:∀o,h.get? a=some o->h'.get? a=some o):h'.IsTupleIter a t i:=let ⟨o,ho,r⟩:=x;⟨o,k o ho,r⟩
theorem EY {h h':Heap}{a:Addr}{its:Array Value}(x:h.IsTuple a its)(k:∀o,h.get? a=some o->h'.get? a=some o):h'.IsTuple a its:=let ⟨o,ho,r⟩:=x;⟨o,k o ho,r⟩
theorem KM {prog:Program}{w:World}{A:Around}(hh:A.handled=none)(it l:Addr)(hne:l≠it)(items:Array Value):Draws prog w A it [it,l] items.size (λi v=>items[i]?=some v) (λi h=>h.IsTupleIter it l i/\h.IsTuple l items) where
 live:=λ_ _ ⟨⟨o,ho,_⟩,_⟩=>⟨o,ho⟩
 frame:=λ_ _ _ ⟨a,b⟩ hk=>⟨pO a λo e=>hk it (by simp) o e,EY b λo e=>hk l (by simp) o e⟩
 item:=λi s Q E hi ⟨a,b⟩ hQ=>JC a b (x:=items[i]) (by simp[hi]) λh' hit' hs'=>hQ _ h' s.toks (by simp[hi]) ⟨hit',b.extBut hs'.extBut hne⟩ hs'
 done:=λs Q E ⟨a,b⟩ hE=>zO hh a b (by simp) hE
open AutoSeq1 (wpAny_loadPart') in
theorem Fk (l:Addr)(items:Array Value)(n:Nat)(dct:Option Addr)(sl:Array (Option Value)):Meets (Builtin.«enumerate.__new__» ⟨[.type "enumerate",.ref l],[]⟩) (λ_ R s=>s.heap.get? l=some { cls:=.type "tuple",dict:=dct,data:=.seq items n,slots:=sl }/\R (.ok (.ret (.ref (s.heap.push { cls:=.type "tuple_iterator",data:=.fields #[.ref l,.int 0 0] }).objs.size))) { s with heap:=(s.heap.push { cls:=.type "tuple_iterator",data:=.fields #[.ref l,.int 0 0] }).push { cls:=.type "enumerate",data:=.fields #[.none,.bool false,.ref s.heap.objs.size,rawInt 0,.none,.none] } }):=
 .of_wp λprog w A R s h=>by
  obtain⟨hp,g,d,tk,os⟩:=s;obtain⟨hl,h⟩:=h
  have hsub:=sub_enumerate;have hL:Heap.IsTuple (Shared.heap ⟨hp,g,d,tk,os⟩) l items:=⟨_,hl,rfl,n,rfl⟩
  wp_walk using wpAny_loadPart' hl;refine wpAny_stack_any λst=>wpAny_pure ?_
  split
  ·rename_i c _ _ _ _ _;cases (c==Value.type "enumerate")<;>(wp_walk using wpAny_loadPart' hl,wpAny_pyIter_tuple hL;exact⟨_,rfl,h⟩)
  ·wp_walk using wpAny_loadPart' hl,wpAny_pyIter_tuple hL;exact⟨_,rfl,h⟩
section
variable {prog:Program}{w:World}{A:Around}{E:Value->Shared->Prop}{s:Shared}
theorem DW {l:Addr}{items:Array Value}{Q:Value->Shared->Prop}(hL:s.heap.IsTuple l items)
  (h:∀h',IsEnum h' (s.heap.objs.size+1) s.heap.objs.size 0 .none->h'.IsTupleIter s.heap.objs.size l 0->h'.objs.size=s.heap.objs.size+2->(∀b o,s.heap.get? b=some o->h'.get? b=some o)->Q (.ref (s.heap.objs.size+1)) { s with heap:=h' }):wpAny (model prog w) A (call (.type "enumerate") [.ref l]) Q E s:=by
 obtain⟨⟨c,dct,dt,sl⟩,hl,hc,n,hd⟩:=hL;replace hc:c=.type "tuple":=hc;replace hd:dt=.seq items n:=hd;subst hc hd
 refine callType_new F.called_enumerate (by decide) (F.typeCall_enumerate_1 _) (F.newCall_enumerate_1 _) (λobj=>F.args_object_init_2 obj _) F.entry_enumerate_new (Fk l items n dct sl) ⟨hl,?_⟩
 have hz:(s.heap.push { cls:=.type "tuple_iterator",data:=.fields #[.ref l,.int 0 0] }).objs.size=s.heap.objs.size+1:=Heap.size_push ..
 refine (?_:_/\_);rw[hz]
 have he:IsEnum ((s.heap.push { cls:=.type "tuple_iterator",data:=.fields #[.ref l,.int 0 0] }).push { cls:=.type "enumerate",data:=.fields #[.none,.bool false,.ref s.heap.objs.size,rawInt 0,.none,.none] }) (s.heap.objs.size+1) s.heap.objs.size 0 .none:=by
  have:=Heap.get?_push_size (s.heap.push { cls:=.type "tuple_iterator",data:=.fields #[.ref l,.int 0 0] }) (o:={ cls:=.type "enumerate",data:=.fields #[.none,.bool false,.ref s.heap.objs.size,rawInt 0,.none,.none] }) rfl
  rw[hz] at this;exact this
 exact⟨⟨_,he,rfl⟩,h _ he ⟨_,Heap.get?_push_of_some _ (Heap.get?_push_size _ rfl),rfl,rfl⟩ (by rw[Heap.size_push,hz]) λb o x=>Heap.get?_push_of_some _ (Heap.get?_push_of_some _ x)⟩
end
end L2
end
section
namespace Dp
open PySem PySem.Spec L2 PyProof.Rows
section
variable {P:Program}{w:World}{tg:Expr}{h h':Heap}
theorem yE {a it:Addr}{ps:List PV}{ow:Bool}:Trn P w tg it [it] (if ow then [a] else []) ps (λi c h=>h.IsListIter it a i/\ListAt c h a ps/\(ow=false->c.ok a)) where
 obj:=λi c h st b hb=>by
  have e:b=it:=by simpa using hb
  subst e
  obtain⟨⟨o,e,_,d⟩,_⟩:=st
  exact⟨o,e,λv z=>by rw[d] at z;cases z⟩
 keep:=λi c c' h h' st k kk=>by
  obtain⟨st,l,ok⟩:=st
  refine⟨st.at λo e=>kk it (.inl (by simp)) o e,l.mono k λo e=>?_,λe=>?_⟩
  ·cases ow with
   |true=>exact kk a (.inr (by simp)) o e
   |false=>exact (k.kp a o (ok rfl) e).2
  ·obtain⟨its,n,g,_⟩:=l
   exact (k.kp a _ (ok e) g).1
 item:=λX hP hw hc z s E i p hz hf hp st hx=>by
  subst hP hw
  obtain⟨st,l,ok⟩:=st
  obtain⟨its,n,g,zl,ds⟩:=id l
  obtain⟨u,hu,du⟩:=ds.get hx
  refine wpAny_pyNext_list_item st (bj g) (x:=u) (by simpa using hu) λh' st' sb=>?_
  have nb:a≠it:=λe=>by
   obtain⟨o,e1,c1,_⟩:=st
   rw[←e,g] at e1;cases e1;exact absurd (Value.type.inj c1) (by decide)
  have go:=hz.turn (t:=s.toks) (h':=h') hf (λb o hb e=>(sb.2 b (by simpa using hb)).trans e) λb hb=>by
   rw[show b=it by simpa using hb];exact⟨_,st'.choose_spec.1⟩
  have kp:Kp z.cn z.cn s.heap h':=go.2.kpD
  obtain⟨o,e,c,d⟩:=id st'
  exact⟨u,rfl,vQ (s:={ s with heap:=h' }) e c d (by decide) ⟨go,du.m kp,st',l.mono kp λo e=>(sb.2 a nb).trans e,ok⟩⟩
 done:=λX hP hw hc z s E i hz hf hp st hx=>by
  subst hP hw
  obtain⟨st,l,ok⟩:=st
  obtain⟨its,n,g,zl,ds⟩:=l
  have hl:=ds.length
  obtain⟨f,bd⟩:=hf it (by simp)
  exact wpAny_pyNext_list_end (hz.I.ok.hd hc) st (bj g) (by simp;omega) λh' eb=>⟨rfl,hz.I.turned (t':=s.toks) (λb o hb e=>eb b o hb e) f.1 f.2.1 f.2.2.2.1 f.2.2.2.2.1 f.2.2.2.2.2,λb o hb e=>eb b o (by simpa using hb) e⟩
 self:=λA i c s Q E st q=>wpAny_pyIter_listiter st.1 q
theorem Jq {a it:Addr}{ps:List PV}:Trn P w tg it [it] [] ps (λi c h=>h.IsTupleIter it a i/\∃its,IsTup h a its.toArray/\its.length<=sizeLine/\Ds c h ps its/\c.ok a) where
 obj:=λi c h st b hb=>by
  have e:b=it:=by simpa using hb
  subst e
  obtain⟨⟨o,e,_,d⟩,_⟩:=st
  exact⟨o,e,λv z=>by rw[d] at z;cases z⟩
 keep:=λi c c' h h' st k kk=>by
  obtain⟨st,its,⟨o,g,r⟩,zl,ds,ok⟩:=st
  exact⟨pO st λo e=>kk it (.inl (by simp)) o e,its,⟨o,(k.kp a _ ok g).2,r⟩,zl,ds.mono k,(k.kp a _ ok g).1⟩
 item:=λX hP hw hc z s E i p hz hf hp st hx=>by
  subst hP hw
  obtain⟨st,its,g,zl,ds,ok⟩:=st
  obtain⟨u,hu,du⟩:=ds.get hx
  refine wpAny_pyNext_tuple_item st (show s.heap.IsTuple a its.toArray from g) (x:=u) (by simpa using hu) λh' st' sb=>?_
  have go:=hz.turn (t:=s.toks) (h':=h') hf (λb o hb e=>(sb.2 b (by simpa using hb)).trans e) λb hb=>by
   rw[show b=it by simpa using hb];exact⟨_,st'.choose_spec.1⟩
  have kp:Kp z.cn z.cn s.heap h':=go.2.kpD
  obtain⟨o,e,c,d⟩:=id st'
  obtain⟨o2,g2,r2⟩:=g
  exact⟨u,rfl,vQ (s:={ s with heap:=h' }) e c d (by decide) ⟨go,du.m kp,st',its,⟨o2,(kp.kp a _ ok g2).2,r2⟩,zl,ds.mono kp,ok⟩⟩
 done:=λX hP hw hc z s E i hz hf hp st hx=>by
  subst hP hw
  obtain⟨st,its,g,zl,ds,ok⟩:=st
  have hl:=ds.length
  obtain⟨f,bd⟩:=hf it (by simp)
  exact wpAny_pyNext_tuple_end (hz.I.ok.hd hc) st (show s.heap.IsTuple a its.toArray from g) (by simp;omega) λh' eb=>⟨rfl,hz.I.turned (t':=s.toks) (λb o hb e=>eb b o hb e) f.1 f.2.1 f.2.2.2.1 f.2.2.2.2.1 f.2.2.2.2.2,λb o hb e=>eb b o (by simpa using hb) e⟩
 self:=λA i c s Q E st q=>wpAny_pyIter_tupleiter st.1 q
noncomputable def va (lo:Int)(n:Nat)(c:Int):List PV:=(a0m n).map λk:Nat=>.int (lo+k * c)
theorem B6 {lo c:Int}{n i:Nat}{p:PV}(e:(va lo n c)[i]?=some p):i<n/\p=.int (lo+i * c):=by
 unfold va at e
 rw[a0s] at e
 obtain⟨k,ek,rfl⟩:=a0d.mp e
 obtain⟨hk,rfl⟩:=a0i.mp ek
 exact⟨by simpa using hk,by rw[a3u]⟩
theorem vq {lo:Int}{n:Nat}:va lo n 1=rG lo n:=by unfold va rG;simp only[a5s]
theorem Kz {it:Addr}{lo c0:Int}{n:Nat}:Trn P w tg it [it] [] (va lo n c0) (λi c h=>IsRangeIter h it (lo+(i:Nat) * c0) ((n:Int) - (i:Nat)) c0) where
 obj:=λi c h st b hb=>by
  have e:b=it:=by simpa using hb
  subst e
  exact⟨_,st,λv z=>by
   have z':Data.fields _=Data.cell v:=z
   cases z'⟩
 keep:=λi c c' h h' st k kk=>kk it (.inl (by simp)) _ st
 item:=λX hP hw hc z s E i p hz hf hp st hx=>by
  subst hP hw
  obtain⟨hi,rfl⟩:=B6 hx
  have W:=Walks.range (prog:=X.prog) (w:=X.w) (hz.I.ok.hd hc) it lo c0 n
  refine W.item i s _ _ hi st λv h' tk hv st' kk=>?_
  obtain⟨t,rfl⟩:=hv
  have go:=hz.turn (t:=tk) (h':=h') hf (λb o hb e=>kk b o hb e) λb hb=>by
   rw[show b=it by simpa using hb];exact⟨_,st'⟩
  exact⟨_,rfl,vQ (s:={ s with heap:=h',toks:=tk }) (n:="range_iterator") st' rfl rfl (by decide) ⟨go,⟨t,rfl⟩,st'⟩⟩
 done:=λX hP hw hc z s E i hz hf hp st hx=>by
  subst hP hw
  obtain⟨f,bd⟩:=hf it (by simp)
  exact wpAny_pyNext_range_end (hz.I.ok.hd hc) st (by have:n<=i:=(by simpa [va] using hx);omega) λh' eb=>⟨rfl,hz.I.turned (t':=s.toks) (λb o hb e=>eb b o hb e) f.1 f.2.1 f.2.2.2.1 f.2.2.2.2.1 f.2.2.2.2.2,λb o hb e=>eb b o (by simpa using hb) e⟩
 self:=λA i c s Q E st q=>wpAny_pyIter_rangeiter st q
end
section
variable {X:Cx}{tg iter:Expr}{f:FE}{fs:FA}{st:Bool}{z:Z X}{s s1:Shared}
noncomputable def wq (f:FE):FI:=λρ=>(f ρ).bind λr=>r.fr.bind items
noncomputable def Mq (f:FE):FI:=λρ=>(f ρ).bind λr=>la r.pv
theorem Z.ok.fp (hz:z.ok s1)(g:Ext z.bad s.heap s1.heap){b:Addr}(hb:s1.heap.objs.size<=b):jU X z.pins z.H b/\s.heap.get? b=none:=
 ⟨hz.I.fpOk hb (hz.I.hok.fresh hb),Ext.back g (Heap.get?_none_of_le hb)⟩
theorem fU {P:Addr->Prop}{a:Addr}(h:P a):∀b∈[a],P b:=λb hb=>by rw[show b=a by simpa using hb];exact h
theorem vx (hz:z.ok s1){h2:Heap}{fp:List Addr}(k:∀b o,s1.heap.get? b=some o->h2.get? b=some o)(n:∀b∈fp,s1.heap.objs.size<=b):Kp z.cn (bI X (λb=>z.bad b\/b∈fp) z.H) s1.heap h2:=
 pN (.kept k) λb y=>y.imp id λy=>Heap.get?_none_of_le (n b y)
theorem EB {p:PV}{its:List PV}{v:Value}{E:Value->Shared->Prop}(g:z.go s s1)(d:D z.cn s1.heap p v)(e:items p=some its):W X (pyIter v) (Os z tg true its s) E s1:=by
 obtain⟨a,us,rfl,ok,zl,ds,h⟩:=D1.items d e
 have g2:∀o:Obj,z.go s { s1 with heap:=s1.heap.push o }:=λo=>g.trans (g.1.push o s1.toks)
 have kk:∀o:Obj,Kp z.cn (bI X (λb=>z.bad b\/b∈[s1.heap.objs.size]) z.H) s1.heap (s1.heap.push o):=λo=>vx g.1 (λb o e=>Heap.get?_push_of_some _ e) (fU (P:=λb=>s1.heap.objs.size<=b) (a0r _))
 rcases h with ⟨o,ho,r⟩|⟨n,ho⟩
 ·have ht:s1.heap.IsTuple a us.toArray:=⟨o,ho,r⟩
  refine wpAny_pyIter_tuple ht ⟨s1.heap.objs.size,[s1.heap.objs.size],[],_,rfl,λ_=>rfl,λb q=>(nomatch q),Jq (a:=a),g2 _,fU (g.1.fp g.2 (a0r _)),⟨_,Heap.get?_push_size _ rfl,rfl,rfl⟩,us,⟨o,Heap.get?_push_of_some _ ho,r⟩,zl,ds.mono (kk _),((kk (eZ [] 0)).kp a o ok ho).1⟩
 ·refine wpAny_pyIter_list (bj ho) ⟨s1.heap.objs.size,[s1.heap.objs.size],[],_,rfl,λ_=>rfl,λb q=>(nomatch q),yE (a:=a) (ow:=false),g2 _,fU (g.1.fp g.2 (a0r _)),⟨_,Heap.get?_push_size _ rfl,rfl,rfl⟩,⟨us,n,Heap.get?_push_of_some _ ho,zl,ds.mono (kk _)⟩,λ_=>((kk (eZ [] 0)).kp a _ ok ho).1⟩
theorem Ni (h:NE X iter f):NI X true tg iter (wq f):=λz s its E hz q=>by
 obtain⟨r,e1,q⟩:=a0a.mp q
 obtain⟨p,e2,q⟩:=a0a.mp q
 exact aV (h z s r E hz e1) λv s1 q1=>EB q1.1 (q1.2.fr e2) q
theorem Jv (h:NE X iter f):NI X false tg iter (Mq f):=λz s its E hz q=>by
 obtain⟨r,e1,q⟩:=a0a.mp q
 refine aV (h z s r E hz e1) λv s1 q1=>?_
 cases hr:r.fr with
 |some p=>
  have:r.pv=p:=by cases r<;>cases hr<;>rfl
  subst this
  exact aV (EB q1.1 (q1.2.fr hr) (by cases hp:r.pv<;>rw[hp] at q<;>first|exact q|cases q)) λitv s2 ⟨it,fp,pl,tn,a,b,r⟩=>⟨it,fp,pl,tn,a,λ_=>b rfl,r⟩
 |none=>
  cases r with
  |ln p=>
   obtain⟨g,⟨d,lb,nb⟩⟩:=q1
   have d:=D1.lst d q
   obtain⟨a,us,n,rfl,_,ho,zl,ds⟩:=d
   have kk:=vx (fp:=[s1.heap.objs.size]) g.1 (λb o e=>Heap.get?_push_of_some (h:=s1.heap) { cls:=.type "list_iterator",data:=.fields #[.ref a,.int 0 0] } e) (fU (P:=λb=>s1.heap.objs.size<=b) (a0r _))
   refine wpAny_pyIter_list (bj ho) ⟨s1.heap.objs.size,[s1.heap.objs.size],[a],_,rfl,λe=>(nomatch e),λb hb=>(by rw[show b=a by simpa using hb];exact⟨nb a rfl,λy=>(by rw[show a=s1.heap.objs.size by simpa using y] at ho;exact absurd (Heap.lt_size ho) (a1l _)),_,Heap.get?_push_of_some _ ho⟩),yE (a:=a) (ow:=true),g.trans (g.1.push _ s1.toks),fU (g.1.fp g.2 (a0r _)),⟨_,Heap.get?_push_size _ rfl,rfl,rfl⟩,⟨us,n,Heap.get?_push_of_some _ ho,zl,ds.mono kk⟩,λe=>(nomatch e)⟩
  |_=>cases hr
noncomputable def Ep (i:Int):Bool:=decide (-(2 ^ 62)<=i)&&decide (i<2 ^ 62)
theorem xq {i:Int}(h:Ep i=true):-(2 ^ 62)<=i/\i<2 ^ 62:=by
 unfold Ep at h
 rw[a0b,decide_eq_true_eq,decide_eq_true_eq] at h
 exact h
noncomputable def ok3 (i j c:Int):Bool:=decide (c≠0)&&Builtin.Range.small i j c&&decide (0<=Builtin.Range.rangeSize i j c)&&!Builtin.divisionGoesByPylong (j - i) c
noncomputable def nK:List PV->Option (List PV)
 |[.int j]=>if Ep j then some (rG 0 j.toNat) else none
 |_=>none
noncomputable def A7:List PV->Option (List PV)
 |[.int i,.int j]=>if Ep i&&Ep j then some (rG i (j - i).toNat) else none
 |_=>none
noncomputable def Fj:List PV->Option (List PV)
 |[.int i,.int j,.int c]=>if ok3 i j c then some (va i (Builtin.Range.rangeSize i j c).toNat c) else none
 |_=>none
noncomputable def k5 (g:List PV->Option (List PV))(fs:FA):FI:=λρ=>(fs ρ).bind λrs=>g (rs.map RV.pv)
theorem xm {its:List PV}{lo hi c:Int}{t u v:Tok}{tk:Nat}{E:Value->Shared->Prop}(g:z.go s s1)(h1:Builtin.Range.small lo hi c=true)(h2:0<=Builtin.Range.rangeSize lo hi c)(e:its=va lo (Builtin.Range.rangeSize lo hi c).toNat c) :
  W X (pyIter (.ref s1.heap.objs.size)) (Os z tg true its s) E { s1 with heap:=s1.heap.push { cls:=.type "range",data:=.fields #[.int lo t,.int hi u,.int c v] },toks:=tk }:=by
 subst e
 generalize ho:({ cls:=.type "range",data:=.fields #[.int lo t,.int hi u,.int c v] }:Obj)=o
 have g2:=g.trans (g.1.push o tk)
 refine wpAny_pyIter_range (by subst ho;exact IsRange.new ..) h1 ⟨(s1.heap.push o).objs.size,[(s1.heap.push o).objs.size],[],_,rfl,λ_=>rfl,λb q=>(nomatch q),Kz,g2.trans (g2.1.push _ tk),fU (g2.1.fp g2.2 (a0r _)),?_⟩
 have e1:lo+((0:Nat):Int) * c=lo:=by simp
 have e2:(((Builtin.Range.rangeSize lo hi c).toNat:Nat):Int) - ((0:Nat):Int)=Builtin.Range.rangeSize lo hi c:=by omega
 show IsRangeIter _ _ (lo+((0:Nat):Int) * c) ((((Builtin.Range.rangeSize lo hi c).toNat:Nat):Int) - ((0:Nat):Int)) c
 rw[e1,e2]
 exact Heap.get?_push_size _ rfl
variable {a b d:Expr}{p pos:Pos}
theorem Ol {i j:Int}:0<=Builtin.Range.rangeSize i j 1/\(Builtin.Range.rangeSize i j 1).toNat=(j - i).toNat:=by
 rw[rangeSize_one];split<;>constructor<;>omega
theorem IU (hg:Gl X "range")(hm:X.mg "range" = none)(ha:NA X [a] fs)(hs:starEach [a] X.env=[(false,eval a X.env)]):NI X true tg (.Call (.Name "range" p) [a] [] pos) (k5 nK fs):=λz s its E hz q=>by
 obtain⟨rs,er,q⟩:=a0a.mp q
 refine Call_ (kX hz.I hg hm boot_range (PyProof.Rows.callWith_type1 (aV (ha z pos s rs E hz er) λus s1 ⟨g1,d1⟩=>?_) hs rfl))
 have d:=d1.rv
 unfold nK at q
 split at q
 ·next j ej=>
  split at q
  ·next h=>
   cases q
   rw[ej] at d
   obtain⟨u,rfl,⟨t,rfl⟩,_⟩:=d.one
   obtain⟨h1,h2⟩:=xq h
   exact call_range_1 (xm g1 (small_one (by omega) (by omega) h1 h2) Ol.1 (by rw[Ol.2,vq,Int.sub_zero]))
  ·cases q
 ·cases q
theorem J8 (hg:Gl X "range")(hm:X.mg "range" = none)(ha:NA X [a,b] fs)(hs:starEach [a,b] X.env=[(false,eval a X.env),(false,eval b X.env)])(hs2:starEach [b] X.env=[(false,eval b X.env)]):NI X true tg (.Call (.Name "range" p) [a,b] [] pos) (k5 A7 fs):=λz s its E hz q=>by
 obtain⟨rs,er,q⟩:=a0a.mp q
 refine Call_ (kX hz.I hg hm boot_range (PyProof.Rows.callWith_type1 (aV (ha z pos s rs E hz er) λus s1 ⟨g1,d1⟩=>?_) (by rw[hs,hs2]) (by rw[hs2];rfl)))
 have d:=d1.rv
 unfold A7 at q
 split at q
 ·next i j ej=>
  split at q
  ·next h=>
   cases q
   rw[ej] at d
   obtain⟨u,v,rfl,⟨⟨t,rfl⟩,_⟩,⟨t',rfl⟩,_⟩:=d.two
   rw[a0b] at h
   obtain⟨h1,h2⟩:=xq h.1
   obtain⟨h3,h4⟩:=xq h.2
   exact call_range_2 (xm g1 (small_one h1 h2 h3 h4) Ol.1 (by rw[Ol.2,vq]))
  ·cases q
 ·cases q
theorem Ll (hg:Gl X "range")(hm:X.mg "range" = none)(ha:NA X [a,b,d] fs)(hs:starEach [a,b,d] X.env=[(false,eval a X.env),(false,eval b X.env),(false,eval d X.env)])(hs2:starEach [b,d] X.env=[(false,eval b X.env),(false,eval d X.env)]) :
  NI X true tg (.Call (.Name "range" p) [a,b,d] [] pos) (k5 Fj fs):=λz s its E hz q=>by
 obtain⟨rs,er,q⟩:=a0a.mp q
 refine Call_ (kX hz.I hg hm boot_range (PyProof.Rows.callWith_type1 (aV (ha z pos s rs E hz er) λus s1 ⟨g1,d1⟩=>?_) (by rw[hs,hs2]) (by rw[hs2];rfl)))
 have d:=d1.rv
 unfold Fj at q
 split at q
 ·next i j c ej=>
  split at q
  ·next h=>
   cases q
   rw[ej] at d
   cases d with
   |cons r rr=>cases rr with
    |cons r' rr=>cases rr with
     |cons r'' rr=>
      cases rr
      obtain⟨t,rfl⟩:=r.rd
      obtain⟨t',rfl⟩:=r'.rd
      obtain⟨t'',rfl⟩:=r''.rd
      unfold ok3 at h
      rw[a0b,a0b,a0b,decide_eq_true_eq,decide_eq_true_eq,a2n] at h
      exact call_range_3 h.1.1.1 (xm g1 h.1.1.2 h.1.2 rfl) (.inl h.2)
  ·cases q
 ·cases q
end
noncomputable def cc:Nat->List PV->List PV
 |_,[]=>[]
 |k,p::ps=>.tup [.int k,p]::cc (k+1) ps
theorem lY:∀(k:Nat) (ps:List PV),(cc k ps).length=ps.length
 |_,[]=>rfl
 |k,_::ps=>by rw[cc,a0o,a0o,lY]
theorem oH:∀{ps:List PV} {k i:Nat} {q:PV},(cc k ps)[i]?=some q->∃p,ps[i]?=some p/\q=.tup [.int (k+i:Nat),p]
 |[],_,_,_,e=>by simp[cc] at e
 |p::ps,k,0,q,e=>by simp[cc] at e;exact⟨p,rfl,by rw[←e];rfl⟩
 |p::ps,k,i+1,q,e=>by
  obtain⟨p',h1,h2⟩:=oH (ps:=ps) (k:=k+1) (i:=i) (by simpa [cc] using e)
  exact⟨p',by simpa using h1,by rw[h2,Nat.add_right_comm];rfl⟩
section
variable {P:Program}{w:World}{h h':Heap}{elts:List Expr}{x1:Nat}{tpos:Pos}
theorem yH {X:Cx}{z:Z X}{s:Shared}{e it:Addr}{h1 h2:Heap}{tk tk2:Nat}{p:PV}{u:Value}{i:Nat}(hz:z.ok s)(hf:∀b∈[e,it],jU X z.pins z.H b/\z.bad b)(du:D z.cn s.heap p u)(tup:h1.get? s.heap.objs.size=some { cls:=.type "tuple",data:=.seq #[.int i tk,u] })
  (kp:∀b o,b≠e->b≠it->s.heap.get? b=some o->h1.get? b=some o) (ee:∃o,h2.get? e=some o) (ei:∃o,h2.get? it=some o) (sb:Heap.SameBut e h1 h2) (le:∀b∈[e,it],∃o,s.heap.get? b=some o) :
  z.go s { s with heap:=h2,toks:=tk2 }/\D z.cn h2 (.tup [.int i,p]) (.ref s.heap.objs.size):=by
 have go:=hz.turn (t:=tk2) (h':=h2) hf (λb o hb q=>by
  have n1:b≠e:=λy=>hb (by simp[y])
  exact (sb.2 b n1).trans (kp b o n1 (λy=>hb (by simp[y])) q)) λb hb=>by
   rcases a0t.mp hb with y|y
   ·rw[y];exact ee
   ·rw[show b=it by simpa using y];exact ei
 have ne:s.heap.objs.size≠e:=λy=>by obtain⟨o,q⟩:=le e (by simp);rw[←y] at q;exact absurd (Heap.lt_size q) (a1l _)
 refine⟨go,s.heap.objs.size,[.int i tk,u],rfl,hz.free (Heap.get?_none_of_le (a0r _)),⟨_,(sb.2 _ ne).trans tup,rfl,_,rfl⟩,(by show 2<=sizeLine;decide),_,_,rfl,⟨tk,rfl⟩,u,[],rfl,du.m go.2.kpD,rfl⟩
theorem uI {a e it:Addr}{i:Nat}{h:Heap}(he:∃old,IsEnum h e it i old)(hi:∃o,h.get? it=some o/\∀v,o.data≠.cell v):∀b∈[e,it],∃o,h.get? b=some o/\∀v,o.data≠.cell v:=λb hb=>by
 rcases a0t.mp hb with y|y
 ·rw[y]
  obtain⟨old,he⟩:=he
  exact⟨_,he,λv q=>by
   have q':Data.fields _=Data.cell v:=q
   cases q'⟩
 ·rw[show b=it by simpa using y];exact hi
theorem MI {a e it:Addr}(hne:e≠it){ps:List PV}:Trn P w (.Tuple elts x1 tpos) e [e,it] [] (cc 0 ps) (λi c h=>(∃old,IsEnum h e it i old)/\h.IsListIter it a i/\ListAt c h a ps/\c.ok a) where
 obj:=λi c h st=>uI (a:=a) st.1 (by obtain⟨_,⟨o,e,_,d⟩,_⟩:=st;exact⟨o,e,λv y=>by rw[d] at y;cases y⟩)
 keep:=λi c c' h h' st k kk=>by
  obtain⟨⟨old,he⟩,st,l,ok⟩:=st
  obtain⟨its,n,g,r⟩:=id l
  exact⟨⟨old,kk e (.inl (by simp)) _ he⟩,st.at λo q=>kk it (.inl (by simp)) o q,l.mono k λo q=>(k.kp a o ok q).2,(k.kp a _ ok g).1⟩
 item:=λX hP hw hc z s E i p hz hf hp st hx=>by
  subst hP hw
  obtain⟨⟨old,he⟩,st,l,ok⟩:=st
  obtain⟨its,n,g,zl,ds⟩:=id l
  obtain⟨p',hx2,rfl⟩:=oH hx
  rw[a2z]
  obtain⟨u,hu,du⟩:=ds.get hx2
  refine wpAny_pyNext_enum_item he st (bj g) (x:=u) (by simpa using hu) hne λh' out lit tup sz kp=>⟨_,rfl,?_⟩
  refine wpAny_letOwnedTupleGo_enum out λh2 he2 sb=>?_
  have lit2:h2.IsListIter it a (i+1):=lit.at λo q=>(sb.2 it (Ne.symm hne)).trans q
  obtain⟨go,dd⟩:=yH (tk2:=s.toks+1) hz hf du tup kp ⟨_,he2⟩ ⟨_,lit2.choose_spec.1⟩ sb (λb hb=>let ⟨o,e,_⟩:=uI (a:=a) ⟨_,he⟩ (by obtain⟨o,e,_,d⟩:=st;exact⟨o,e,λv y=>by rw[d] at y;cases y⟩) b hb;⟨o,e⟩)
  have kp2:Kp z.cn z.cn s.heap h2:=go.2.kpD
  exact⟨go,dd,⟨_,he2⟩,lit2,l.mono kp2 λo q=>(kp2.kp a o ok q).2,ok⟩
 done:=λX hP hw hc z s E i hz hf hp st hx=>by
  subst hP hw
  obtain⟨⟨old,he⟩,st,⟨its,n,g,zl,ds⟩,ok⟩:=st
  have hl:=ds.length
  rw[lY] at hx
  obtain⟨f,bd⟩:=hf it (by simp)
  exact wpAny_pyNext_enum_end (hz.I.ok.hd hc) he st (bj g) (by simp;omega) λh' eb=>⟨rfl,hz.I.turned (t':=s.toks) (λb o hb e=>eb b o hb e) f.1 f.2.1 f.2.2.2.1 f.2.2.2.2.1 f.2.2.2.2.2,λb o hb e=>eb b o (λy=>hb (by simp[y])) e⟩
 self:=λA i c s Q E st q=>wpAny_pyIter_enum st.1.choose_spec q
theorem IW {a e it:Addr}(hne:e≠it){ps:List PV}:Trn P w (.Tuple elts x1 tpos) e [e,it] [] (cc 0 ps) (λi c h=>(∃old,IsEnum h e it i old)/\h.IsTupleIter it a i/\∃its,IsTup h a its.toArray/\its.length<=sizeLine/\Ds c h ps its/\c.ok a) where
 obj:=λi c h st=>uI (a:=a) st.1 (by obtain⟨_,⟨o,e,_,d⟩,_⟩:=st;exact⟨o,e,λv y=>by rw[d] at y;cases y⟩)
 keep:=λi c c' h h' st k kk=>by
  obtain⟨⟨old,he⟩,st,its,⟨o,g,r⟩,zl,ds,ok⟩:=st
  exact⟨⟨old,kk e (.inl (by simp)) _ he⟩,pO st λo q=>kk it (.inl (by simp)) o q,its,⟨o,(k.kp a _ ok g).2,r⟩,zl,ds.mono k,(k.kp a _ ok g).1⟩
 item:=λX hP hw hc z s E i p hz hf hp st hx=>by
  subst hP hw
  obtain⟨⟨old,he⟩,st,its,g,zl,ds,ok⟩:=st
  obtain⟨p',hx2,rfl⟩:=oH hx
  rw[a2z]
  obtain⟨u,hu,du⟩:=ds.get hx2
  have pt:s.heap.IsTuple a its.toArray:=g
  have nai:a≠it:=λq=>by
   obtain⟨o1,h1,c1,_⟩:=pt
   obtain⟨o2,h2,c2,_⟩:=st
   rw[q,h2] at h1;cases h1;rw[c2] at c1;exact absurd (Value.type.inj c1) (by decide)
  have nae:e≠a:=λq=>by
   obtain⟨o1,h1,c1,_⟩:=pt
   rw[←q,he] at h1;cases h1;exact absurd (Value.type.inj c1) (by decide)
  have hlt:i<its.toArray.size:=by
   have:=(a0i.mp hu).1
   simpa using this
  refine wpAny_pyNext_enum_itemD (KM (A:=X.A.in1) (hz.I.ok.hd hc) it a nai its.toArray) he ⟨st,pt⟩ hlt hne (by simp[hne,nae]) λu' h' tk hu' out lit tup sz kp=>⟨_,rfl,?_⟩
  obtain rfl:u'=u:=by
   have h1:its[i]?=some u':=by simpa using hu'
   rw[hu] at h1;exact (Option.some.inj h1).symm
  refine wpAny_letOwnedTupleGo_enum out λh2 he2 sb=>?_
  have lit2:h2.IsTupleIter it a (i+1):=pO lit.1 λo q=>(sb.2 it (Ne.symm hne)).trans q
  obtain⟨go,dd⟩:=yH (tk2:=tk+1) hz hf du tup kp ⟨_,he2⟩ ⟨_,lit2.choose_spec.1⟩ sb (λb hb=>let ⟨o,e,_⟩:=uI (a:=a) ⟨_,he⟩ (by obtain⟨o,e,_,d⟩:=st;exact⟨o,e,λv y=>by rw[d] at y;cases y⟩) b hb;⟨o,e⟩)
  have kp2:Kp z.cn z.cn s.heap h2:=go.2.kpD
  obtain⟨o,g,r⟩:=g
  exact⟨go,dd,⟨_,he2⟩,lit2,its,⟨o,(kp2.kp a _ ok g).2,r⟩,zl,ds.mono kp2,ok⟩
 done:=λX hP hw hc z s E i hz hf hp st hx=>by
  subst hP hw
  obtain⟨⟨old,he⟩,st,its,g,zl,ds,ok⟩:=st
  have hl:=ds.length
  rw[lY] at hx
  obtain⟨f,bd⟩:=hf it (by simp)
  have hT:s.TypeIs (.ref e) "enumerate":=⟨_,he,rfl⟩
  unfold pyNext
  refine wpAny_bind (wpAny_attempt (wpAny_callSpecial?_slot (name:=Str.ofString "__next__") hT F.slot_enumerate_next (wpAny_call_entry F.slot_enumerate_next hT F.entry_enumerate_next ?_ (F.args_enumerate_next_1 _))))
  refine (?_:wpAny _ _ (field (.ref e) 2 >>= _) _ _ _);refine wpAny_bind (wpAny_field he rfl (x:=.ref it) rfl ?_)
  refine wpAny_bind (zO (hz.I.ok.hd hc) st (items:=its.toArray) g (by simp;omega) λh' x he' hx'=>?_)
  obtain⟨o,ho,hc⟩:=hx'
  exact wpAny_bind (wpAny_isInstance (T:="StopIteration") (b:=true) ⟨o,ho,hc⟩ isSubtype_stop (wpAny_pure ⟨rfl,hz.I.turned (t':=s.toks) (λb o hb e=>he' b o hb e) f.1 f.2.1 f.2.2.2.1 f.2.2.2.2.1 f.2.2.2.2.2,λb o hb e=>he' b o (λy=>hb (by simp[y])) e⟩))
 self:=λA i c s Q E st q=>wpAny_pyIter_enum st.1.choose_spec q
end
section
variable {X:Cx}{fs:FA}{elts:List Expr}{x1:Nat}{tpos:Pos}{a:Expr}{p pos:Pos}
noncomputable def wE:List PV->Option (List PV)
 |[p]=>(items p).map (cc 0)
 |_=>none
noncomputable def mv (fs:FA):FI:=λρ=>(fs ρ).bind λrs=>(rs.mapM RV.fr).bind wE
theorem Kv (hg:Gl X "enumerate")(hm:X.mg "enumerate" = none)(ha:NA X [a] fs)(hs:starEach [a] X.env=[(false,eval a X.env)]):NI X true (.Tuple elts x1 tpos) (.Call (.Name "enumerate" p) [a] [] pos) (mv fs):=λz s its E hz q=>by
 obtain⟨rs,er,q⟩:=a0a.mp q
 obtain⟨ps,ep,q⟩:=a0a.mp q
 refine Call_ (kX hz.I hg hm ui (PyProof.Rows.callWith_type1 (aV (ha z pos s rs E hz er) λus s1 ⟨g,d1⟩=>?_) hs rfl))
 have d:=d1.fr ep
 unfold wE at q
 split at q
 ·next p'=>
  obtain⟨qs,e3,rfl⟩:=a0d.mp q
  obtain⟨u,r,rfl,d,e4⟩:=d
  cases (show r=[] from e4)
  obtain⟨l,vs,rfl,ok,zl,ds,h⟩:=D1.items d e3
  have fin:∀(h' h2:Heap),h'.objs.size=s1.heap.objs.size+2->(∀b o,s1.heap.get? b=some o->h'.get? b=some o)->z.go s { s1 with heap:=h' }/\(∀b∈[s1.heap.objs.size+1,s1.heap.objs.size],jU X z.pins z.H b/\s.heap.get? b=none)/\Kp z.cn (bI X (λb=>z.bad b\/b∈[s1.heap.objs.size+1,s1.heap.objs.size]) z.H) s1.heap h':=λh' h2 sz kp=>by
   have le:∀b∈[s1.heap.objs.size+1,s1.heap.objs.size],s1.heap.objs.size<=b:=λb hb=>by
    rcases a0t.mp hb with y|y
    ·rw[y];exact a5r _
    ·rw[show b=s1.heap.objs.size by simpa using y];exact a0r _
   exact⟨g.trans (g.1.kept (t:=s1.toks) kp),λb hb=>g.1.fp g.2 (le b hb),vx g.1 kp le⟩
  rcases h with ⟨o,ho,r⟩|⟨n,ho⟩
  ·refine DW (items:=vs.toArray) ⟨o,ho,r⟩ λh' he hit sz kp=>wpAny_pyIter_enum he ?_
   obtain⟨f1,f2,f3⟩:=fin h' h' sz kp
   exact⟨_,_,[],_,rfl,λ_=>rfl,λb q=>(nomatch q),IW (a:=l) (Nat.succ_ne_self _),f1,f2,⟨_,he⟩,hit,vs,⟨o,kp _ _ ho,r⟩,zl,ds.mono f3,(f3.kp l _ ok ho).1⟩
  ·refine call_enumerate_list (bj ho) λh' he hit sz kp=>wpAny_pyIter_enum he ?_
   obtain⟨f1,f2,f3⟩:=fin h' h' sz kp
   exact⟨_,_,[],_,rfl,λ_=>rfl,λb q=>(nomatch q),MI (a:=l) (Nat.succ_ne_self _),f1,f2,⟨_,he⟩,hit,⟨vs,n,kp _ _ ho,zl,ds.mono f3⟩,(f3.kp l _ ok ho).1⟩
 ·cases q
end
noncomputable def Ly (X:Cx)(ifs:List Expr)(f:FB):Prop:=∀(z:Z X) s b E,z.ok s->f z.ρ=some b →
 W X (forIn ifs true λc r=>if r=true then do let ok ←isTrue c X.env (eval c X.env);pure (ForInStep.yield ok) else pure (ForInStep.yield r)) (λc s'=>c=b/\z.go s s') E s
noncomputable def n5:FB:=λ_=>some true
theorem Jy {X:Cx}:Ly X [] n5:=λz s b E hz q=>by cases q;exact wpAny_tests_nil ⟨rfl,hz.refl⟩
theorem Jj {X:Cx}{c:Expr}{f:FB}(h:NB X c f):Ly X [c] f:=λz s b E hz q=>wpAny_tests_one (h z s b E hz q)
noncomputable def iW (fm:List (Option Nat))(ρ:aq):aq:=fm.map λo=>o.bind λj=>(ρ[j]?).join
noncomputable def pP (t:FT)(c:FB)(f:FE)(ρ:aq):List PV->Option (List PV)
 |[]=>some []
 |p::ps=>(t p ρ).bind λρ2=>(c ρ2).bind λb=>if b=true then (f ρ2).bind λr=>r.fr.bind λq=>(pP t c f ρ ps).map λqs=>q::qs else pP t c f ρ ps
noncomputable def dL (fm:List (Option Nat))(it:FI)(t:FT)(c:FB)(f:FE):FE:=λρ=>(it ρ).bind λits=>if its.length<1000 then (pP t c f (iW fm ρ) its).map .nw else none
noncomputable def FK (fm:List (Option Nat))(t:FT):Prop:=∀p ρ ρ',t p ρ=some ρ'->ρ'.length=ρ.length/\∀(i j:Nat),fm[i]?=some (some j)->ρ'[i]?=ρ[i]?
noncomputable def MV (fm:List (Option Nat))(t:AT):Prop:=∀p ρ ρ',t p ρ=some ρ'->ρ'.length=ρ.length/\∀(i j:Nat),fm[i]?=some (some j)->ρ'[i]?=ρ[i]?
theorem Pq {fm:List (Option Nat)}{k:Nat}(h:fm[k]?=some none):FK fm (gN k):=λp ρ ρ' e=>by
 cases e
 refine⟨a1c ..,λi j q=>a0q λy=>?_⟩
 subst y;rw[h] at q;cases q
theorem Pi {fm:List (Option Nat)}:MV fm g0:=λp ρ ρ' e=>by
 cases p with
 |nil=>cases e;exact⟨rfl,λ_ _ _=>rfl⟩
 |cons=>cases e
theorem PK {fm:List (Option Nat)}{t:FT}{ts:AT}(h1:FK fm t)(h2:MV fm ts):MV fm (gC t ts):=λp ρ ρ' e=>by
 cases p with
 |nil=>cases e
 |cons p ps=>
  obtain⟨ρ1,e1,e2⟩:=a0a.mp e
  exact⟨(h2 ps ρ1 ρ' e2).1.trans (h1 p ρ ρ1 e1).1,λi j q=>((h2 ps ρ1 ρ' e2).2 i j q).trans ((h1 p ρ ρ1 e1).2 i j q)⟩
theorem Pw {fm:List (Option Nat)}{n:Nat}{ts:AT}(h:MV fm ts):FK fm (ff n ts):=λp ρ ρ' e=>by
 unfold ff at e
 split at e
 ·split at e
  ·exact h _ ρ ρ' e
  ·cases e
 ·cases e
theorem rh {fm:List (Option Nat)}{ρ:aq}{i:Nat}{t:Sl}(h:(iW fm ρ)[i]?=some (some t)):∃j,fm[i]?=some (some j)/\ρ[j]?=some (some t):=by
 unfold iW at h
 rw[a0s] at h
 obtain⟨o,e1,h⟩:=a0d.mp h
 obtain⟨j,rfl,h⟩:=a0a.mp h
 refine⟨j,e1,?_⟩
 replace h:(ρ[j]?).join=some t:=h
 cases e2:ρ[j]? with
 |none=>rw[e2] at h;cases h
 |some w=>rw[e2] at h;exact congrArg some h
theorem Fv {fm:List (Option Nat)}{σ:L2.St}{i j:Nat}{v:V}(h1:fm[i]?=some (some j))(h2:σ[j]?=some (some v)):(pw fm σ)[i]?=some (some v):=by
 unfold pw
 rw[a0s,h1]
 show some ((σ[j]?).join)=_
 rw[h2];rfl
section
variable {X:Cx}{z:Z X}{s:Shared}
theorem Z.ok.pinsOf (hz:z.ok s)(pl:List (Addr×Obj))(h:∀p∈pl,s.heap.get? p.1=some p.2/\z.H p.1=none/\p.1≠X.env.locals/\p.1∉X.fs/\∀v,p.2.data≠.cell v):(⟨z.bad,pl,z.σ,z.H,z.ρ⟩:Z X).ok s:=
 ⟨hz.I.pins_of h,hz.len,hz.slk,hz.dj,hz.nb,hz.oh,hz.oh0,hz.loc,hz.cel,hz.fs,hz.ex,hz.there,hz.bs,hz.ot,hz.anc⟩
theorem Z.ok.weak (hz:z.ok s){ρ':aq}(hl:ρ'.length=z.ρ.length)(h:∀(i:Nat) t,ρ'[i]?=some (some t)->z.ρ[i]?=some (some t)):(z.wi z.σ z.H ρ').ok s:=by
 have ow:∀{i a},bW z.σ ρ' i a->bW z.σ z.ρ i a:=λ{i a} ⟨⟨t,e,o⟩,q⟩=>⟨⟨t,h i t e,o⟩,q⟩
 exact⟨hz.I,hz.len.trans hl.symm,λi t q=>hz.slk i t (h i t q),λi j a o1 o2=>hz.dj i j a (ow o1) (ow o2),λi a o=>hz.nb i a (ow o),hz.oh,hz.oh0,hz.loc,hz.cel,hz.fs,hz.ex,hz.there,hz.bs,hz.ot,hz.anc⟩
end
section
variable {X:Cx}{scope:Scope}{N':List Str}{fm:List (Option Nat)}{tg iter elt:Expr}{ifs:List Expr}{pos:Pos}{t:FT}{fc:FB}{f:FE}
structure Blk (X:Cx)(scope:Scope)(N':List Str)(fm:List (Option Nat)):Prop where
 ok:BlkOk X scope N' fm
 nd:N'.Nodup
theorem Bi (B:Blk X scope N' fm){z:Z X}{s0 s:Shared}(hz:z.ok s0)(g:z.go s0 s){fp:List Addr}(hf:∀b∈fp,jU X z.pins z.H b/\s0.heap.get? b=none)(ho:∀b∈fp,∃o,s.heap.get? b=some o){C Dd:Addr}(hC:s.heap.objs.size<=C)(hD:s.heap.objs.size<=Dd)
  {h1:Heap} {tk:Nat} {m:Str->Option Value} (hn:h1.Ns C m) (hd:∃o,h1.get? Dd=some o) (old:∀b o,s.heap.get? b=some o->h1.get? b=some o) :
  (⟨λb=>z.bad b\/b∈fp\/b=C\/b=Dd,[],pw fm z.σ,z.H,iW fm z.ρ⟩:Z (X.blk scope N' C s z.H fp)).ok { s with heap:=h1,toks:=tk }:=by
 have n0:∀b,b∈fp\/b=C\/b=Dd->s0.heap.get? b=none:=λb y=>by
  rcases y with y|y|y
  ·exact (hf b y).2
  ·subst y;exact Ext.back g.2 (Heap.get?_none_of_le hC)
  ·subst y;exact Ext.back g.2 (Heap.get?_none_of_le hD)
 have hlt:∀b∈fp,b<s.heap.objs.size:=λb hb=>let ⟨o,e⟩:=ho b hb;Heap.lt_size e
 have e1:Ext z.bad s0.heap h1:=g.2.trans (.kept old)
 have I:=G4 (tk:=tk) B.ok g.1.I hC (λb hb=>(hf b hb).1) hlt hn old
 have k:Kp z.cn (bI (X.blk scope N' C s z.H fp) (λb=>z.bad b\/b∈fp\/b=C\/b=Dd) z.H) s0.heap h1:=pN (X:=X) e1 λb y=>y.imp id (n0 b)
 have sub:∀x c,(lJ X.env.cells scope.names []).lookup x=some c->X.env.cells.lookup x=some c:=λx c h=>lW (B.ok.has hz.I.ok) (λ_ _ y=>by simp at y) h
 have own:∀{i a},bW (pw fm z.σ) (iW fm z.ρ) i a->∃j x,fm[i]?=some (some j)/\N'[i]?=some x/\X.N[j]?=some x/\bW z.σ z.ρ j a:=λ{i a} ⟨⟨t,e,o⟩,q⟩=>by
  obtain⟨j,e1,e2⟩:=rh e
  obtain⟨j',e3,e4⟩:=vY q
  rw[e1] at e3;cases e3
  have hi:i<N'.length:=by rw[←B.ok.len];exact (a0i.mp e1).1
  exact⟨j,N'[i],e1,a0h hi,(B.ok.out i j _ e1 (a0h hi)).1,⟨⟨t,e2,o⟩,e4⟩⟩
 have stands:∀a o,z.H a=some o->¬(z.bad a\/a∈fp\/a=C\/a=Dd):=λa o q y=>by
  obtain⟨ob,e⟩:=hz.stands q
  exact y.elim (hz.ot a o q).1 λy=>by rw[n0 a y] at e;cases e
 refine⟨I,by show (pw fm z.σ).length=(iW fm z.ρ).length;unfold pw iW;rw[a0j,a0j],λi t q=>?_,λi j a o1 o2=>?_,λi a o=>?_,hz.oh,hz.oh,.inr (.inr (.inl rfl)),λx c e=>.inl (hz.cel x c (sub x c e)),λb q=>.inl ?_,λb q=>.inr (.inl q),λb q=>?_,λb o e q=>?_,λa o q=>⟨stands a o q,let ⟨ob,r1,r2⟩:=(hz.ot a o q).2;⟨ob,e1.kp a ob (hz.ot a o q).1 r1,r2⟩⟩,λhf=>by cases hf⟩
 ·obtain⟨j,q1,q2⟩:=rh q
  obtain⟨v,e2,r,d⟩:=hz.slk j t q2
  exact⟨v,Fv q1 e2,r,d.mono k λa o h w=>e1.kp a o (hz.ot a _ h).1 w⟩
 ·obtain⟨k1,x,a1,a2,a3,a4⟩:=own o1
  obtain⟨k2,y,b1,b2,b3,b4⟩:=own o2
  have:=hz.dj k1 k2 a a4 b4
  subst this
  rw[a3] at b3;cases b3
  exact (List.getElem?_inj (a0i.mp a2).1 B.nd).mp (a2.trans b2.symm)
 ·obtain⟨k1,x,a1,a2,a3,a4⟩:=own o
  have hH:z.H a=some aL:=by
   obtain⟨⟨t,e,ot⟩,q⟩:=a4
   obtain⟨v,e2,_,d2⟩:=hz.slk k1 t e
   rw[q] at e2;cases e2
   cases t with
   |val p=>cases ot
   |own ps=>obtain⟨b,e3,h,_⟩:=d2;cases e3;exact h
   |dic ks ps=>obtain⟨b,e3,h,_⟩:=d2;cases e3;exact h
  exact⟨stands a _ hH,.inr λy=>by
   have y':z.H a=none:=y
   rw[hH] at y';cases y'⟩
 ·rcases a0t.mp (g.1.I.stkSub b q) with y|y
  ·rw[y];exact hz.loc
  ·exact hz.fs b y
 ·rcases q with q|q|q|q
  ·obtain⟨o,e⟩:=hz.there b q;exact e1.th b o e
  ·obtain⟨o,e⟩:=ho b q;exact⟨o,old b o e⟩
  ·subst q;obtain⟨o,es,ep,e,_⟩:=hn;exact⟨o,e⟩
  ·subst q;exact hd
 ·rcases q with q|q
  ·exact hz.bs b o e q
  ·have:=(hz.I.bs b o e).1
   rw[n0 b q] at this;cases this
theorem sZ (B:Blk X scope N' fm)(hc:X.calm=true)(hg:∀C s H ex,NG (X.blk scope N' C s H ex) tg t)(hk:FK fm t)(ht:∀C s H ex,Ly (X.blk scope N' C s H ex) ifs fc)(he:∀C s H ex,NE (X.blk scope N' C s H ex) elt f)
  {z:Z X} {s0 s:Shared} (hz:z.ok s0) {its ps:List PV} {itv:Value} (hi:Os z tg false its s0 itv s) (hl:its.length<1000) (q:pP t fc f (iW fm z.ρ) its=some ps) {RR:Value->Addr->Result->Shared->Prop} {E:Value->Shared->Prop}
  (hRR:∀Dd C s',(z.wb [C]).ok s'->Ext z.bad s0.heap s'.heap->s0.heap.get? Dd=none->Dd≠C->ListAt (bI X (z.wb [C]).bad (fI z.H Dd aL)) s'.heap Dd ps->jU X z.pins z.H C->s0.heap.get? C=none->(∃m,s'.heap.Ns C m)->RR (.ref Dd) C (.ok .next) s') :
  W X (newList []) (λacc s₃=>W X (newFunctionEnv scope X.env.globals (lJ X.env.cells scope.names []) [] X.env.qual none .none (some X.env)) (λcenv s₄=>
   codeAny (model X.prog X.w) X.A (.compStart (.ListComp elt [⟨tg,iter,ifs,0⟩] scope pos) 0 itv acc { cenv with scope:=relabel scope X.env }) (RR acc cenv.locals) s₄) E s₃) E s:=by
 obtain⟨it,fp,pl,tn,rfl,_,hpl,T,g,hf,st⟩:=hi
 refine wpAny_newObj_type (wpAny_newFunctionEnv B.ok.nocell (by intro y hy;simp at hy) (λh₁ hns₁ hsb₁=>?_) B.ok.kind)
 dsimp only at hns₁ hsb₁ ⊢
 generalize hH2:s.heap.push { cls:=.type "list",dict:=none,data:=.seq ([]:List Value).toArray }=H2 at hns₁ hsb₁ ⊢
 have hC:H2.objs.size=s.heap.objs.size+1:=by rw[←hH2,Heap.size_push]
 generalize hCC:H2.objs.size=C at hns₁ hsb₁ hC ⊢
 generalize hDD:s.heap.objs.size=Dd at hC ⊢
 have hDC:Dd≠C:=by omega
 have hCle:s.heap.objs.size<=C:=by omega
 have hDle:s.heap.objs.size<=Dd:=by omega
 have lt:∀(b:Nat) (o:Obj),s.heap.get? b=some o->b<Dd:=λb o e=>by rw[←hDD];exact Heap.lt_size e
 have old:∀b o,s.heap.get? b=some o->h₁.get? b=some o:=λb o e=>hsb₁.extBut b o (a1d (Nat.lt_trans (lt b o e) (by rw[hC];exact a2h _))) (Heap.get?_push_of_some _ (hH2▸Heap.get?_push_of_some _ e))
 have hacc:h₁.get? Dd=some (eZ [] 0):=hsb₁.extBut _ _ hDC (Heap.get?_push_of_some _ (by rw[←hH2,←hDD];exact Heap.get?_push_size _ rfl))
 have there:∀b∈fp,∃o,s.heap.get? b=some o:=λb hb=>let ⟨o,e,_⟩:=T.obj _ _ _ st b hb;⟨o,e⟩
 have n0:∀b,b∈fp\/b=C\/b=Dd->s0.heap.get? b=none:=λb y=>by
  rcases y with y|y|y
  ·exact (hf b y).2
  ·subst y;exact Ext.back g.2 (Heap.get?_none_of_le hCle)
  ·subst y;exact Ext.back g.2 (Heap.get?_none_of_le hDle)
 have hDf:Dd∉fp:=λhm=>by obtain⟨o,e⟩:=there _ hm;exact a1l _ (lt _ _ e)
 have hCf:C∉fp:=λhm=>by obtain⟨o,e⟩:=there _ hm;exact absurd (lt _ _ e) (by omega)
 have hDfs:Dd∉qk X.stack:=λhm=>by
  obtain⟨_,o,e,_⟩:=g.1.I.stack.mem hm
  exact a1l Dd (lt Dd o e)
 have fHD:z.H Dd=none:=g.1.I.hok.fresh hDle
 have fHC:z.H C=none:=g.1.I.hok.fresh hCle
 have fC:jU X z.pins z.H C:=g.1.I.fpOk hCle fHC
 let Y:Cx:=X.blk scope N' C s z.H fp
 let bad':Addr->Prop:=λb=>z.bad b\/b∈fp\/b=C\/b=Dd
 have iT:∀tk,(⟨bad',[],pw fm z.σ,z.H,iW fm z.ρ⟩:Z Y).ok { s with heap:=h₁,toks:=tk }:=λtk=>Bi B hz g hf there hCle hDle hns₁ ⟨_,hacc⟩ old
 have st1:tn 0 (bI Y bad' z.H) h₁:=T.keep 0 _ _ _ _ st (pN (X:=X) (bad:=λb=>z.bad b\/b∈fp) (bad':=bad') (.kept old) λb y=>by
  rcases y with y|y|y|y
  ·exact .inl (.inl y)
  ·exact .inl (.inr y)
  ·subst y;exact .inr (Heap.get?_none_of_le hCle)
  ·subst y;exact .inr (Heap.get?_none_of_le hDle)) λb _=>old b
 have hpl2:∀b∈pl,¬bad' b:=λb hb y=>by
  obtain⟨p1,p2,o,p3⟩:=hpl b hb
  rcases y with y|y|y|y
  ·exact p1 y
  ·exact p2 y
  ·subst y;exact absurd (lt _ _ p3) (by omega)
  ·subst y;exact absurd (lt _ _ p3) (by omega)
 have sub:∀x c,(lJ X.env.cells scope.names []).lookup x=some c->X.env.cells.lookup x=some c:=λx c h=>lW (B.ok.has hz.I.ok) (λ_ _ y=>by simp at y) h
 have stat:∀{oD:Obj},∀b∈fp,jU Y [(Dd,oD)] z.H b/\bad' b:=λ{oD} b hb=>by
  obtain⟨⟨f0,f1,f2,f3,f4,f5⟩,_⟩:=hf b hb
  refine⟨⟨f0,λy=>hCf ((show b=C from y)▸hb),λy=>?_,.inl hb,λx c h=>f4 x c (sub x c h),λp hp y=>?_⟩,.inr (.inl hb)⟩
  ·rcases a0t.mp (g.1.I.stkSub b y) with y|y
   ·exact f1 y
   ·exact f2 y
  ·have e:p=(Dd,oD):=by simpa [Y,Cx.blk] using hp
   subst e
   exact hDf ((show Dd=b from y)▸hb)
 have loop:∀tk,codeAny (model X.prog X.w) X.A (.compLoop (.ListComp elt [⟨tg,iter,ifs,0⟩] scope pos) 0 (.ref it) (.ref Dd) (compEnvC scope (lJ X.env.cells scope.names []) C X.env)) (RR (.ref Dd) C) { s with heap:=h₁,toks:=tk }:=by
  intro tk
  refine lA (λn s'=>∃i σ' acc us n' gl,n=its.length+1 - i/\i<=its.length/\(⟨bad',[],σ',z.H,iW fm z.ρ⟩:Z Y).ok s'/\Ext bad' h₁ s'.heap/\tn i (bI Y bad' z.H) s'.heap/\s'.heap.get? Dd=some (eZ us n')/\Ds (bI Y bad' z.H) s'.heap acc us/\acc.length<=i/\pP t fc f (iW fm z.ρ) (its.drop i)=some gl/\acc++gl=ps) ?_ (its.length+1)
   ⟨0,_,[],[],0,ps,rfl,a3i _,iT tk,.refl,st1,hacc,rfl,a0r _,q,rfl⟩
  rintro n s3 ⟨i,σ3,acc,us,n3,gl,rfl,hi3,ok3,x3,st3,hd3,ds3,ha3,go3,e3⟩
  have l3:=ds3.length
  have okp:(⟨bad',[(Dd,eZ us n3)],σ3,z.H,iW fm z.ρ⟩:Z Y).ok s3:=ok3.pinsOf _ λp hp=>by
   have e:p=(Dd,eZ us n3):=by simpa using hp
   subst e
   exact⟨hd3,fHD,hDC,hDfs,λv y=>by cases y⟩
  by_cases hlt:i<its.length
  ·rw[a3d hlt,pP] at go3
   obtain⟨ρ4,e1,go3⟩:=a0a.mp go3
   obtain⟨b,e2,go3⟩:=a0a.mp go3
   refine aV (T.item Y rfl rfl hc _ s3 _ i its[i] okp stat hpl2 st3 (a0h hlt)) λr s4 ⟨u,hr,h4⟩=>?_
   subst hr
   refine aV h4 λ_ s5 ⟨g5,d5,st5⟩=>?_
   have ok5:=pinned g5.1 (λb hb=>(stat b hb).1) (T.obj _ _ _ st5)
   refine aV (hg C s z.H fp _ s5 its[i] u ρ4 _ ok5 d5 e1) λ_ s6 ⟨σ6,ok6,x6⟩=>?_
   obtain⟨kl,kk⟩:=hk _ _ _ e1
   refine aV (ht C s z.H fp _ s6 b _ ok6 e2) λc s7 ⟨ec,g7⟩=>?_
   subst ec
   have still:∀{s8:Shared},((((⟨bad',[(Dd,eZ us n3)],σ3,z.H,iW fm z.ρ⟩:Z Y).wp (mY fp s5.heap)).wi σ6 z.H ρ4)).ok s8->Ext bad' s5.heap s8.heap->(⟨bad',[],σ6,z.H,iW fm z.ρ⟩:Z Y).ok s8/\Ext bad' h₁ s8.heap/\tn (i+1) (bI Y bad' z.H) s8.heap/\s8.heap.get? Dd=some (eZ us n3)/\Ds (bI Y bad' z.H) s8.heap acc us:=λ{s8} ok8 x8=>by
    have x9:Ext bad' s3.heap s8.heap:=g5.2.trans x8
    refine⟨(Z.ok.weak (ok8.pinsOf [] λp hp=>nomatch hp) kl.symm λi t e=>?_ :),x3.trans x9,T.keep _ _ _ _ _ st5 (Ext.kpD x8) λb hb o e=>?_,?_,ds3.mono x9.kpD⟩
    ·obtain⟨j,q1,q2⟩:=rh e
     show ρ4[i]?=_
     rw[kk i j q1];exact e
    ·rcases hb with hb|hb
     ·exact wX (z:=⟨bad',[(Dd,eZ us n3)],σ3,z.H,iW fm z.ρ⟩) ok8 b hb o e
     ·exact x8.kp b o (hpl2 b hb) e
    ·exact (ok8.I.pin (Dd,_) (a0p _ (a0w _ (a0f.mpr rfl)))).1
   cases c with
   |false=>
    rw[if_neg a0y] at go3 ⊢
    obtain⟨a1,a2,a3,a4,a5⟩:=still g7.1 (x6.trans g7.2)
    exact⟨its.length+1 - (i+1),by omega,i+1,σ6,acc,us,n3,gl,rfl,hlt,a1,a2,a3,a4,a5,by omega,go3,e3⟩
   |true=>
    rw[if_pos rfl] at go3 ⊢
    obtain⟨r,e4,go3⟩:=a0a.mp go3
    obtain⟨y,e5,go3⟩:=a0a.mp go3
    obtain⟨rest',e6,rfl⟩:=a0d.mp go3
    refine aV (he C s z.H fp _ s7 r _ g7.1 e4) λv s8 q8=>?_
    obtain⟨a1,a2,a3,a4,a5⟩:=still q8.1.1 (x6.trans (g7.2.trans q8.1.2))
    have dv:D (bI Y bad' z.H) s8.heap y v:=q8.2.fr e5
    refine wpAny_list_append_plain (hsz:=by rw[a0g];have:=vD;omega) (show s8.heap.PlainList Dd us.toArray from⟨n3,a4⟩) λh9 hl9 sb9=>?_
    have kp9:∀b o,b∉[Dd]->s8.heap.get? b=some o->h9.get? b=some o:=λb o hb e=>(sb9.2 b (by simpa using hb)).trans e
    obtain⟨n9,hl9⟩:=hl9
    have go9:=a1.turn (t:=s8.toks) (h':=h9) (fp:=[Dd]) (fU (P:=λb=>jU Y [] z.H b/\bad' b) ⟨⟨fHD,hDC,hDfs,.inr (by show s.heap.objs.size<=Dd;omega),λx c h y=>?_,λp hp=>(nomatch hp)⟩,.inr (.inr (.inr rfl))⟩) kp9 (fU (P:=λb=>∃o,h9.get? b=some o) ⟨_,hl9⟩)
    ·have k9:Kp (bI Y bad' z.H) (bI Y bad' z.H) s8.heap h9:=go9.2.kpD
     refine⟨its.length+1 - (i+1),by omega,i+1,σ6,acc++[y],us++[v],n9,rest',rfl,hlt,go9.1,a2.trans go9.2,T.keep _ _ _ _ _ a3 k9 λb hb o e=>kp9 b o (λw=>?_) e,?_,(a5.mono k9).app (.one (dv.m k9)),by rw[a0n];simp;omega,e6,by rw[a2g];exact e3⟩
     ·have w:b=Dd:=by simpa using w
      subst w
      rcases hb with hb|hb
      ·exact hDf hb
      ·exact hpl2 b hb (.inr (.inr (.inr rfl)))
     ·have e:us.toArray.push v=(us++[v]).toArray:=by simp
      rw[hl9,e];rfl
    ·obtain⟨v,o,ho,hdd⟩:=a1.I.cell x c h
     rw[y,a4] at ho
     cases ho
     cases hdd
  ·have hnil:its.drop i=[]:=a2b (by omega)
   rw[hnil,pP] at go3
   cases go3
   rw[a1x] at e3
   subst e3
   refine aV (T.done Y rfl rfl hc _ s3 _ i okp stat hpl2 st3 (by omega)) λr s4 ⟨hr,I4,k4⟩=>?_
   subst hr
   have hd4:s4.heap.get? Dd=some (eZ us n3):=k4 Dd _ hDf hd3
   have U:Un (qk X.stack) fp z.H z.H s.heap s4.heap:=I4.base
   have I5:Inv X z.pins z.σ z.H s4:=g.1.I.call' I4.os U I4.hok I4.bare λb hb=>by
    obtain⟨⟨f0,f1,f2,f3,f4,f5⟩,_⟩:=hf b hb
    exact⟨f3,f1,f4,f5⟩
   obtain⟨m4,hn4,_⟩:=I4.loc
   have x4:∀a o,¬bad' a->h₁.get? a=some o->s4.heap.get? a=some o:=λa o nb e=>k4 a o (λy=>nb (.inr (.inl y))) (x3.kp a o nb e)
   have e04:Ext z.bad s0.heap s4.heap:=⟨λa o nb e=>x4 a o (λy=>y.elim nb λy=>by rw[n0 a y] at e;cases e) (old a o (g.2.kp a o nb e)),λa o e=>by
    obtain⟨o1,e1⟩:=g.2.th a o e
    obtain⟨o2,e2⟩:=x3.th a o1 (old a o1 e1)
    exact⟨o2,k4 a o2 (λy=>by rw[n0 a (.inl y)] at e;cases e) e2⟩⟩
   have gg:=hz.ext I5 e04
   have zC:(z.wb [C]).ok s4:=hz.more gg (fU (P:=λb=>s0.heap.get? b=none/\∃o,s4.heap.get? b=some o) ⟨n0 C (.inr (.inl rfl)),let ⟨o,_,_,e,_⟩:=hn4;⟨o,e⟩⟩)
   refine hRR Dd C s4 zC e04 (n0 Dd (.inr (.inr rfl))) hDC ⟨us,n3,hd4,by have:=vD;omega,Ds.mono (c:=bI Y bad' z.H) (c':=bI X (z.wb [C]).bad (fI z.H Dd aL)) (h:=s3.heap) ⟨rfl,rfl,rfl,λa o q e=>⟨⟨?_,λy=>?_⟩,k4 a o (λy=>q.2 (.inr (.inl y))) e⟩⟩ ds3⟩ fC (n0 C (.inr (.inl rfl))) ⟨m4,hn4⟩
   ·show fI z.H Dd aL a=none
    rw[aS λy=>q.2 (.inr (.inr (.inr y)))];exact q.1
   ·rcases y with y|y
    ·exact q.2 (.inl y)
    ·exact q.2 (.inr (.inr (.inl (by simpa using y))))
 refine codeAny_compStart_list (loop _) (T.self _ 0 _ _ _ _ st1 (loop _))
theorem Cc {z:Z X}{s0 s1:Shared}{h':Heap}{C:Addr}{σ:L2.St}{H:Hp}{ρ:aq}(hz:z.ok s0)(ok:((z.wb [C]).wi σ H ρ).ok s1)(fC:jU X z.pins H C)(n:s0.heap.get? C=none)(sb:Heap.SameBut C s1.heap h'):(z.wi σ H ρ).ok { s1 with heap:=h' }/\∀b o,b∉[C]->s1.heap.get? b=some o->h'.get? b=some o:=by
 obtain⟨f0,f1,f2,f3,f4,f5⟩:=fC
 have k:∀b o,b∉[C]->s1.heap.get? b=some o->h'.get? b=some o:=λb o hb e=>sb.extBut b o (λy=>hb (by simp[y])) e
 exact⟨hz.less (fp:=[C]) (fU n) ok (ok.I.turned (t':=s1.toks) (λb o hb e=>sb.extBut b o hb e) f0 f1 f3 f4 f5) k,k⟩
theorem Lh (B:Blk X scope N' fm)(hc:X.calm=true){fi:FI}(hi:NI X false tg iter fi)(hg:∀C s H ex,NG (X.blk scope N' C s H ex) tg t)(hk:FK fm t)(ht:∀C s H ex,Ly (X.blk scope N' C s H ex) ifs fc)(he:∀C s H ex,NE (X.blk scope N' C s H ex) elt f)
  (hs:∀x,foldedSetIterable iter X.env x=pure x:=by intro _;rfl):NE X (.ListComp elt [⟨tg,iter,ifs,0⟩] scope pos) (dL fm fi t fc f):=λz s0 r E hz q=>by
 obtain⟨its,ei,q⟩:=a0a.mp q
 split at q
 ·next hl=>
  obtain⟨ps,eg,rfl⟩:=a0d.mp q
  rw[eval_ListComp]
  refine wpAny_comprehension_free (use:=none) rfl hs (qf (B.ok.has hz.I.ok)) B.ok.kind B.ok.names (aV (hi z s0 its E hz ei) λv s1 h1=>aV h1 λitv s2 h2=>?_)
  refine sZ B hc hg hk ht he hz h2 hl eg (RR:=λacc C=>compPost (model X.prog X.w) X.A E none (Z.post z s0 (.nw ps)) acc C) λDd C s' zC e04 nD hDC l fC nC ⟨m,hn⟩=>⟨m,hn,λh' sb=>?_⟩
  obtain⟨ok,k⟩:=Cc (σ:=z.σ) (H:=z.H) (ρ:=z.ρ) hz zC fC nC sb
  have e0:Ext z.bad s0.heap h':=⟨λa o nb e=>k a o (λy=>by rw[show a=C by simpa using y,nC] at e;cases e) (e04.kp a o nb e),λa o e=>let ⟨o1,e1⟩:=e04.th a o e;⟨o1,k a o1 (λy=>by rw[show a=C by simpa using y,nC] at e;cases e) e1⟩⟩
  refine⟨⟨ok,e0⟩,Dd,rfl,nD,hz.free nD,ListAt.mono (c:=bI X (z.wb [C]).bad (fI z.H Dd aL)) (c':=bI X z.bad (fI z.H Dd aL)) ⟨rfl,rfl,rfl,λa o q e=>⟨⟨q.1,λy=>q.2 (.inl y)⟩,k a o (λy=>q.2 (.inr y)) e⟩⟩ (λo e=>k Dd o (λy=>hDC (by simpa using y)) e) l⟩
 ·cases q
noncomputable def Pz (X:Cx)(x:Str)(g:List PV->aq->Out):Prop:=∀(y:Z X) (ps:List PV) (Dd:Addr) (s1:Shared) (E:Value->Shared->Prop),y.ok s1->kR y.bad y.H Dd->X.s₀.heap.get? Dd=none->(∀p∈X.pn++y.pins,p.1≠Dd)->ListAt (bI X y.bad (fI y.H Dd aL)) s1.heap Dd ps →
 (∀(j:Nat) t v,y.ρ[j]?=some (some t)->y.σ[j]?=some (some v)->SlOk (bI X y.bad (fI y.H Dd aL)) y.H s1.heap t v)->W X (storeName X.env x (.ref Dd)) (λ_ s2=>∃σ' H' ρ',g ps y.ρ=.nx ρ'/\(y.wi σ' H' ρ').ok s2/\Ext y.bad s1.heap s2.heap/\(H'=y.H\/H'=fI y.H Dd aL)) E s1
noncomputable def Oc (i:Nat)(ps:List PV)(ρ:aq):Out:=.nx (ρ.set i (some (.own ps)))
noncomputable def N1 (i:Nat)(ps:List PV)(ρ:aq):Out:=.nx (ρ.set i (some (.val (.lst ps))))
theorem Lk {i:Nat}{x:Str}(n:Nm X i x):Pz X x (Oc i):=λy ps Dd s1 E ok fr h00 hp l sk=>
 aV (tC (t:=.own ps) ok n rfl fr h00 hp (nE l) ⟨Dd,rfl,bQ,l⟩ sk) λ_ s2 ⟨σ',ok',e⟩=>⟨σ',_,_,rfl,ok',e,.inr rfl⟩
theorem Ji {i:Nat}{x:Str}(n:Nm X i x):Pz X x (N1 i):=λy ps Dd s1 E ok fr h00 hp l sk=>
 aV (g8 (p:=.lst ps) ok n (by obtain⟨its,m,g,zl,ds⟩:=l;exact⟨Dd,its,m,rfl,fr,g,zl,ds.mono DB⟩)) λ_ s2 ⟨σ',ok',e⟩=>⟨σ',_,_,rfl,ok',e,.inl rfl⟩
noncomputable def Nz (o:Option RV)(g:List PV->aq->Out)(ρ:aq):Out:=match o with
 |some (.nw ps)=>g ps ρ
 |_=>.bad
noncomputable def AW (f:FE)(g:List PV->aq->Out):FS:=λρ=>Nz (f ρ) g ρ
theorem B0 (B:Blk X scope N' fm)(hc:X.calm=true){fi:FI}(hi:NI X false tg iter fi)(hg:∀C s H ex,NG (X.blk scope N' C s H ex) tg t)(hk:FK fm t)(ht:∀C s H ex,Ly (X.blk scope N' C s H ex) ifs fc)(he:∀C s H ex,NE (X.blk scope N' C s H ex) elt f)
  {x:Str} {px spos:Pos} {g:List PV->aq->Out} (hst:Pz X x g) (hsw:swapsWith (.ListComp elt [⟨tg,iter,ifs,0⟩] scope pos) (some (.Name x px)) spos.line X.env=pure true) (hs:∀x,foldedSetIterable iter X.env x=pure x:=by intro _;rfl) :
  NS X (.Assign [.Name x px] (.ListComp elt [⟨tg,iter,ifs,0⟩] scope pos) spos) (AW (dL fm fi t fc f) g):=λz s0 E hz hb=>by
 unfold AW Nz at hb ⊢
 split at hb
 ·next ps er=>
  obtain⟨its,ei,q⟩:=a0a.mp er
  split at q
  ·next hl=>
   obtain⟨ps',eg,e⟩:=a0d.mp q
   cases e
   rw[exec_Assign_Name_used _ _ _ _ hsw]
   refine wpAny_bind (wpAny_standAt (wpAny_bind ?_))
   show wpAny _ X.A (do let _ ←comprehension (.ListComp elt [⟨tg,iter,ifs,0⟩] scope pos) scope X.env _ (newList []) false (eval iter X.env) (some (assign (.Name x px) X.env))) _ _ s0
   refine wpAny_bind (aV (wpAny_comprehension_free (use:=some (assign (.Name x px) X.env)) (Q:=λ_ s'=>Z.sp z s0 (g ps z.ρ) .next s') rfl hs (qf (B.ok.has hz.I.ok)) B.ok.kind B.ok.names (aV (hi z s0 its E hz ei) λv s1 h1=>aV h1 λitv s2 h2=>?_)) λ_ s' q=>wpAny_pure (wpAny_pure q))
   refine sZ B hc hg hk ht he hz h2 hl eg (RR:=λacc C=>compPost (model X.prog X.w) X.A E (some (assign (.Name x px) X.env)) (λ_ s'=>Z.sp z s0 (g ps z.ρ) .next s') acc C) λDd C s' zC e04 nD hDC l fC nC ⟨m,hn⟩=>?_
   have hn':=hn
   obtain⟨oC,es,ep,gC,cC,dC,rC⟩:=hn'
   have fC':=fC
   obtain⟨f0,f1,f2,f3,f4,f5⟩:=fC'
   have pC:((z.wb [C]).wp [(C,oC)]).ok s':=by
    refine⟨zC.I.pins_of λp hp=>(a0u.mp hp).elim (λq=>zC.I.pin p (a0p _ q)) λq=>?_,zC.len,zC.slk,zC.dj,zC.nb,zC.oh,zC.oh0,zC.loc,zC.cel,zC.fs,zC.ex,zC.there,zC.bs,zC.ot,zC.anc⟩
    rw[show p=(C,oC) by simpa using q]
    exact⟨gC,f0,f1,f2,λv y=>by
     have y:oC.data=.cell v:=y
     first
      |(rw[dC] at y;cases y)
      |(rw[cC] at y;cases y)⟩
   show W X (assign (.Name x px) X.env (.ref Dd)) _ E s'
   refine wpAny_assign_Name (aV (hst ((z.wb [C]).wp [(C,oC)]) ps Dd s' E pC ⟨(hz.free nD).1,λy=>y.elim (hz.free nD).2 λy=>hDC (by simpa using y)⟩ (iN hz nD) (λp hp y=>?_) l (hz.sk nD e04 λb y=>y.imp id λy=>by rw[show b=C by simpa using y];exact nC)) λ_ s'' ⟨σ',H',ρ',eg,ok,e5,hH⟩=>?_)
   ·rcases a0u.mp hp with q|q
    ·have:=(hz.I.pin p (a0w _ q)).1
     rw[y,nD] at this;cases this
    ·rcases a0u.mp q with q|q
     ·have:=(hz.I.pin p (a0p _ q)).1
      rw[y,nD] at this;cases this
     ·rw[show p=(C,oC) by simpa using q] at y;exact hDC y.symm
   ·have gC2:s''.heap.get? C=some oC:=(ok.I.pin (C,oC) (a0p _ (a0p _ (a0f.mpr rfl)))).1
    refine⟨m,⟨oC,es,ep,gC2,cC,dC,rC⟩,λh' sb=>?_⟩
    have hC:H' C=none:=(ok.I.pin (C,oC) (a0p _ (a0p _ (a0f.mpr rfl)))).2.1
    obtain⟨ok2,k⟩:=Cc (σ:=σ') (H:=H') (ρ:=ρ') hz (unpinned (z:=z.wb [C]) ok) ⟨hC,f1,f2,f3,f4,f5⟩ nC sb
    show Z.sp z s0 (g ps z.ρ) .next _
    rw[show g ps z.ρ=.nx ρ' from eg]
    have e0:Ext z.bad s0.heap h':=⟨λa o nb e=>?_,λa o e=>?_⟩
    ·refine⟨rfl,σ',H',ok2,?_⟩
     rcases hH with y|y
     ·rw[y];exact e0.stp
     ·rw[y];exact Stp.new e0 nD
    ·have ne:a≠C:=λy=>by rw[y,nC] at e;cases e
     exact k a o (by simpa using ne) (e5.kp a o (λy=>y.elim nb λy=>ne (by simpa using y)) (e04.kp a o nb e))
    ·have ne:a≠C:=λy=>by rw[y,nC] at e;cases e
     obtain⟨o1,e1⟩:=e04.th a o e
     obtain⟨o2,e2⟩:=e5.th a o1 e1
     exact⟨o2,k a o2 (by simpa using ne) e2⟩
  ·cases q
 ·exact absurd rfl hb
end
section
variable {X:Cx}{a b c:Expr}{fa fb fc:FE}{op op':CmpOp}{g g':PV->PV->Option RV}{pos:Pos}
theorem OW (h:zj X (compareOp op) g)(h':zj X (compareOp op') g')(ha:NE X a fa)(hb:NE X b fb)(hc:NE X c fc)(hm:lastMarks [op,op'] [b,c]=false):NE X (.Compare a [op,op'] [b,c] pos) (EJ g g' fa fb fc):=λz s r E hz q=>by
 obtain⟨x,ex,q⟩:=a0a.mp q
 obtain⟨y,ey,q⟩:=a0a.mp q
 obtain⟨k,ek,q⟩:=a0a.mp q
 refine Compare_chain (aV (ha z s x E hz ex) λv s1 q1=>chain_link (aV (hb z s1 y E q1.1.1 ey) λu s2 q2=>
  aV (h z s2 _ _ v u _ E q2.1.1 (q1.2.ext q2.1.2).rv q2.2.rv (hU ek)) λd s3 q3=>?_)) hm
 cases (show d=Value.bool k from q3.2)
 have g3:=(q1.1.trans q2.1).trans q3.1
 refine wpAny_truthy_bool ?_
 cases k with
 |false=>cases q;exact ite_ff ⟨g3,rfl⟩
 |true=>
  rw[if_pos rfl] at q
  obtain⟨w,ew,q⟩:=a0a.mp q
  exact ite_tt (chain_last (aV (hc z s3 w E q3.1.1 ew) λw' s4 q4=>aV (h' z s4 _ _ u w' r E q4.1.1 ((q2.2.ext q3.1.2).ext q4.1.2).rv q4.2.rv q) λd' s5 q5=>(g3.trans q4.1).post q5))
theorem Py (h:zj X (compareOp op) g)(h':zj X (compareOp op') g')(ha:NE X a fa)(hb:NE X b fb)(hc:NE X c fc)(hm:lastMarks [op,op'] [b,c]=false):NB X (.Compare a [op,op'] [b,c] pos) (fT (EJ g g' fa fb fc)):=λz s r E hz q=>by
 obtain⟨x,ex,q⟩:=a0a.mp (hU q)
 obtain⟨y,ey,q⟩:=a0a.mp q
 obtain⟨k,ek,q⟩:=a0a.mp q
 refine isTrue_chain (aV (ha z s x E hz ex) λv s1 q1=>test_link (aV (hb z s1 y E q1.1.1 ey) λu s2 q2=>
  aV (h z s2 _ _ v u _ E q2.1.1 (q1.2.ext q2.1.2).rv q2.2.rv (hU ek)) λd s3 q3=>?_)) hm
 cases (show d=Value.bool k from q3.2)
 have g3:=(q1.1.trans q2.1).trans q3.1
 refine wpAny_truthy_bool ?_
 cases k with
 |false=>cases q;exact ite_ff ⟨rfl,g3⟩
 |true=>
  rw[if_pos rfl] at q
  obtain⟨w,ew,q⟩:=a0a.mp q
  refine ite_tt (test_last (aV (hc z s3 w E q3.1.1 ew) λw' s4 q4=>aV (h' z s4 _ _ u w' _ E q4.1.1 ((q2.2.ext q3.1.2).ext q4.1.2).rv q4.2.rv q) λd' s5 q5=>?_))
  cases (show d'=Value.bool r from q5.2)
  exact wpAny_truthy_bool ⟨rfl,(g3.trans q4.1).trans q5.1⟩
noncomputable def HX:Option PV->Option RV
 |some (.int i)=>some (.fz (.int (Builtin.Int.intBits i:Nat)))
 |_=>none
noncomputable def CA (f:FE):FE:=λρ=>(f ρ).bind λr=>HX r.fr
theorem IZ {x:Str}{p apos cpos:Pos}{f:FE}(ha:NE X (.Name x p) f)(hline:(apos.endLine==cpos.line)=true):NE X (.Call (.Attribute (.Name x p) "bit_length" apos) [] [] cpos) (CA f):=λz s r E hz q=>by
 obtain⟨y,ey,q⟩:=a0a.mp q
 unfold HX at q
 split at q
 ·next i ei=>
  cases q
  refine wpAny_Call_method0_late rfl hline (aV (ha z s y E hz ey) λv s1 q1=>?_)
  obtain⟨t,rfl⟩:=q1.2.fr ei
  refine⟨"int","int.bit_length",F.plainAttrs_int,F.slot_int_bit_length,F.type_int_bit_length,typeIs_int s1 i t,?_,Calls.callWith_builtin rfl (PySem.evalArgs_none ?_)⟩
  ·exact λa e=>nomatch e
  ·refine call_gives F.slot_int_bit_length (typeIs_int s1 i t) F.entry_int_bit_length (F.args_int_bit_length_1 _) (AutoIntG2.int_bit_length_int_0 i t) ?_
   exact⟨q1.1.trans (q1.1.1.tok _),_,rfl⟩
 ·cases q
end
noncomputable abbrev nu:=List PV->List PV->Option (List PV×PV)
noncomputable abbrev hL (a:Addr):Hp:=fI h0 a aL
structure NFL (P:Program)(w:World)(K:PySem.W.Frag)(mg:Str->Option Value)(base:Heap)(cm:Bool)(k:Nat)(f:Addr)(fd:FuncData)(ps:List Str)(F:nu):Prop where
 len:∀ps0 qs r,F ps0 qs=some r->qs.length+1=ps.length
 run:∀(A:Around) (outer:List Env) (s:Shared) (args:Args) (a:Addr) (us:List Value) (ps0 qs ps1:List PV) (p:PV) (bad:Addr->Prop),(cm=true->A.handled=none)->Rm k A->Env0 P w K mg base A outer s (hL a)->BindsTo s fd args (ps.zip (.ref a::us)) →
  (∀b∈qk outer,bad b)->(∀b,bad b->∃o,s.heap.get? b=some o)->(∀b o,base.get? b=some o->¬bad b)->¬bad a->ListAt ⟨kR bad (hL a),P,w,mg⟩ s.heap a ps0->Ds ⟨kR bad (hL a),P,w,mg⟩ s.heap qs us->F ps0 qs=some (ps1,p) →
  codeAny (model P w) A (.call (.ref f) args) (λr s'=>∃u,r=.ok (.ret u)/\s'.os=s.os/\AllBare s'.gens/\Un (qk outer) [] (hL a) (hL a) s.heap s'.heap/\D ⟨kR bad (hL a),P,w,mg⟩ s'.heap p u/\ListAt ⟨kR bad (hL a),P,w,mg⟩ s'.heap a ps1) s
theorem NFL.mono {P:Program}{w:World}{K:PySem.W.Frag}{mg:Str->Option Value}{base:Heap}{cm:Bool}{j k:Nat}{f:Addr}{fd:FuncData}{ps:List Str}{F:nu}(n:NFL P w K mg base cm j f fd ps F)(h:j<=k):NFL P w K mg base cm k f fd ps F:=
 ⟨n.len,λA outer s args a us ps0 qs ps1 p bad hc hr=>n.run A outer s args a us ps0 qs ps1 p bad hc (hr.mono h)⟩
noncomputable def nJ:Option (PR×aq)->Option (List PV×PV)
 |some (.v p,some (.own ps1)::_)=>some (ps1,p)
 |_=>none
noncomputable def rL (a n:Nat)(g:FS):nu:=λps0 qs=>if qs.length+1=a then nJ (g (AY n (.own ps0::qs.map .val))).res2 else none
theorem yf {o:Option (PR×aq)}{ps1:List PV}{p:PV}(h:nJ o=some (ps1,p)):∃ρ,o=some (.v p,some (.own ps1)::ρ):=by
 unfold nJ at h
 split at h
 ·cases h;exact⟨_,rfl⟩
 ·cases h
theorem Kc {P:Program}{w:World}{K:PySem.W.Frag}{mg:Str->Option Value}{base:Heap}{cm:Bool}{k:Nat}{f:Addr}{name qual:Str}{params:Arguments}{body:List Stmt}{scope:Scope}{dV kV doc pm cdv ct oc:Value}{an od:Option Addr}
  {osl:Array (Option Value)} {N ps:List Str} {g:FS} (lk:K.lookup f=some ⟨oc,od,.func (PySem.W.fnOf name qual params body scope dV kV doc pm an cdv ct),osl⟩) (hcd:PySem.W.codeIn K cdv qual=true) (S:FnScope N ps scope)
  (hbody:∀(A:Around) (outer:List Env) (s:Shared) (H:Hp),(cm=true->A.handled=none)->Rm k (A.deeper (envOfC qual scope s.heap.objs.size f cdv))->Bu (JQ P w K mg base cm N qual scope f cdv A outer s H) body g) :
  NFL P w K mg base cm (k+1) f (PySem.W.fnOf name qual params body scope dV kV doc pm an cdv ct) ps (rL ps.length N.length g):=by
 refine⟨λps0 qs r q=>?_,λA outer s args a us ps0 qs ps1 p bad hc hr e0 hb hfr hth hbs na l ds q=>?_⟩
 ·unfold rL at q;split at q
  ·assumption
  ·cases q
 ·unfold rL at q
  split at q
  ·next hl=>
   obtain⟨ρ,q2⟩:=yf q
   have oL:∀b o,hL a b=some o->b=a/\o=aL:=λb o e=>by
    by_cases hb:b=a
    ·subst hb;have e:fI h0 b aL b=some o:=e;rw[bQ] at e;cases e;exact⟨rfl,rfl⟩
    ·have e:fI h0 a aL b=some o:=e;rw[aS hb] at e;cases e
   obtain⟨its,n,g1,zl,dl⟩:=id l
   refine Ag (H:=hL a) (ts:=.own ps0::qs.map .val) lk hcd S hc hr.depth e0 hb hfr hth hbs (by simpa using hl) ⟨.ref a,us,rfl,⟨a,rfl,a,rfl,bQ,l⟩,rF ds⟩ (λi t e o=>?_) (λb o e=>?_) (hbody A outer s _ hc (hr.deeper _)) q2 λbad' σ' H' u s' hb' ok d=>?_
   ·cases i with
    |zero=>rfl
    |succ i=>
     rw[a3q,a0s] at e
     obtain⟨p,_,rfl⟩:=a0d.mp e
     cases o
   ·obtain⟨rfl,rfl⟩:=oL b o e
    exact⟨rfl,na,rfl,_,g1,by intro q;exact absurd (Value.type.inj q) (by decide)⟩
   ·have b:=ok.I.base
    have an:=ok.anc rfl a (show fI h0 a aL a≠none by rw[bQ];simp)
    obtain⟨v,e2,_,a',ea,hH,l'⟩:=ok.slk 0 (.own ps1) rfl
    rw[an] at e2;cases e2;cases ea
    have kp:Kp ⟨kR bad' H',P,w,mg⟩ ⟨kR bad (hL a),P,w,mg⟩ s'.heap s'.heap:=⟨rfl,rfl,rfl,λb o q e=>⟨⟨aS (λy=>by rw[y] at q;have q1:H' a=none:=q.1;rw[show H' a=some aL from hH] at q1;cases q1),λw=>q.2 (hb' b w)⟩,e⟩⟩
    refine⟨u,rfl,ok.I.os,ok.I.bare,⟨b.keep,b.slot,λb o _ n _=>n,b.there,λb xs e=>?_,λb o u e=>?_,λb ps e=>?_⟩,D1.m d kp,l'.mono kp λ_ e=>e⟩
    ·cases (oL b _ e).2
    ·cases (oL b _ e).2
    ·cases (oL b _ e).2
  ·cases q
section
variable {X:Cx}{i:Nat}{x:Str}{es:List Expr}{fs:FA}{pos:Pos}
theorem FP {cm:Bool}{k:Nat}{f:Addr}{fd:FuncData}{ps:List Str}{F:nu}(n:NFL X.prog X.w X.K X.mg X.base cm k f fd ps F)(hc:cm=true->X.calm=true)(hr:Rm k X.A)(hb:Binds X.K fd ps []){z:Z X}{s:Shared}(hz:z.ok s){a:Addr}(o:bW z.σ z.ρ i a){ps0 ps1 qs:List PV}{us:List Value}{p:PV}
  (hH:z.H a=some aL) (l:ListAt z.cn s.heap a ps0) (ds:Ds z.cn s.heap qs us) (q:F ps0 qs=some (ps1,p)) {E:Value->Shared->Prop} :
  W X (call (.ref f) (.ref a::us)) (λv s'=>(z.wi z.σ z.H (z.ρ.set i (some (.own ps1)))).ok s'/\Stp z.bad z.H z.H s.heap s'.heap/\D z.cn s'.heap p v) E s:=by
 have e0:=hz.I.env0
 have ne:∀b,z.H b=none->b≠a:=λb e y=>by subst y;rw[hH] at e;cases e
 have hLn:∀b,z.H b=none->hL a b=none:=λb e=>aS (ne b e)
 have e1:Env0 X.prog X.w X.K X.mg X.base X.A X.stack s (hL a):=⟨e0.frames,e0.mod,λb o e=>⟨(e0.bs b o e).1,hLn b (e0.bs b o e).2⟩,e0.bsz,e0.funs,λb hb=>hLn b (e0.frf b hb),λb u e=>(by
  by_cases hb:b=a
  ·subst hb
   have e:fI h0 b aL b=some u:=e
   rw[bQ] at e;cases e
   exact⟨trivial,hz.stands hH,λ_ _ _ _=>trivial⟩
  ·have e:fI h0 a aL b=some u:=e
   rw[aS hb] at e;cases e),e0.bare⟩
 have hl:((Value.ref a::us)++[]).length=ps.length:=by rw[a1x,a0o,ds.length];exact n.len _ _ _ q
 have hfr:∀b∈qk X.stack,z.bad b:=λb hb=>by
  rcases a0t.mp (hz.I.stkSub b hb) with e|e
  ·rw[e];exact hz.loc
  ·exact hz.fs b e
 let bad:Addr->Prop:=λb=>(z.bad b\/z.H b≠none)/\b≠a
 have kp:Kp z.cn ⟨kR bad (hL a),X.prog,X.w,X.mg⟩ s.heap s.heap:=⟨rfl,rfl,rfl,λb o q e=>⟨⟨hLn b q.1,λy=>y.1.elim q.2 λy=>y q.1⟩,e⟩⟩
 refine wpAny_call (codeAny_mono (n.run X.A X.stack s ⟨.ref a::us,[]⟩ a us ps0 qs ps1 p bad (λc=>hz.I.ok.hd (hc c)) hr e1 (by have:=hb s (.ref a::us) hz.I.kIn hl;rwa [a1x] at this) (λb q=>⟨.inl (hfr b q),λy=>(hz.ot a _ hH).1 (y▸hfr b q)⟩) (λb q=>?_) (λb o e q=>?_) (λy=>y.2 rfl) (l.mono kp λ_ e=>e) (ds.mono kp) q) λres s' hq=>?_)
 ·rcases q.1 with w|w
  ·exact hz.there b w
  ·cases e:z.H b with
   |none=>exact absurd e w
   |some o=>exact hz.stands e
 ·rcases q.1 with w|w
  ·exact hz.bs b o e w
  ·exact w (hz.I.bs b o e).2
 ·obtain⟨u,rfl,os,bare,un,d,l'⟩:=hq
  have kp2:Kp ⟨kR bad (hL a),X.prog,X.w,X.mg⟩ z.cn s'.heap s'.heap:=⟨rfl,rfl,rfl,λb o q e=>by
   have nb:b≠a:=λy=>by subst y;have:=q.1;rw[show hL b b=some aL from bQ] at this;cases this
   refine⟨⟨?_,λy=>q.2 ⟨.inl y,nb⟩⟩,e⟩
   cases w:z.H b with
   |none=>rfl
   |some o=>exact absurd ⟨.inr (by rw[w];simp),nb⟩ q.2⟩
  have hok:HOk X.prog X.w z.H s'.heap:=λb o e=>by
   have e2:=hz.oh b o e
   subst e2
   obtain⟨ob,q⟩:=hz.stands e
   obtain⟨o',q'⟩:=un.there b ob q (by simp)
   exact⟨trivial,⟨o',q'⟩,λ_ _ _ _=>trivial⟩
  have U:Un (qk X.stack) [] z.H z.H s.heap s'.heap:=⟨λb o e n f x=>un.keep b o e (hLn b n) f x,λb o e n f x=>un.slot b o e (hLn b n) f x,λ_ _ _ n _=>n,un.there,λ_ _ e=>e,λ_ _ _ e=>e,λb ps e=>⟨#[],by rw[e];simp⟩⟩
  have I':=hz.I.call' os U hok bare (λb z=>absurd z (by simp))
  obtain⟨h1,h2⟩:=Z.ok.mut0 hz o I' (λb u nb ne e=>un.keep b u e (aS ne) (λq=>nb (hfr b q)) (by simp)) (λb u e=>un.there b u e (by simp)) (t:=.own ps1) rfl (nE l') λ_=>⟨a,rfl,hH,l'.mono kp2 λ_ e=>e⟩
  exact⟨h1,h2,d.m kp2⟩
structure DefL (P:Program)(w:World)(K:PySem.W.Frag)(mg:Str->Option Value)(base:Heap)(cm:Bool)(k:Nat)(x:Str)(F:nu):Prop where
 ex:∃f fd ps,NFL P w K mg base cm k f fd ps F/\Binds K fd ps []/\PySem.W.keepIn K (.ref f)=true/\mg x=some (.ref f)
noncomputable def uf (tab:List (Str×Fn))(o:Option Sl)(qs:Option (List PV))(rs:List RV):Option RV:=match o with
 |some (.val (.fn x))=>(tab.lookup x).bind λF=>qK F qs rs
 |_=>none
noncomputable def qt (tab:List (Str×Fn))(j:Nat)(fs:FA):FE:=λρ=>(fs ρ).bind λrs=>uf tab (sl ρ j) (rs.mapM RV.fr) rs
theorem Gp {cm:Bool}{k:Nat}{j:Nat}{y:Str}{p:Pos}{e:Expr}{tab:List (Str×Fn)}(ht:∀x F,tab.lookup x=some F->(∃j,j<=k/\DefN X.prog X.w X.K X.mg X.base cm j x F)\/X.mg x=none)(hc:cm=true->X.calm=true)(hr:Rm k X.A)
  (hN:X.N[j]?=some y) (hv:rX X.env.scope y) (hd:(y==("__debug__" : Str))=false) (hcd:(y==("__classdict__" : Str))=false) (ha:NA X (e::es) fs)
  (he:starEach (e::es) X.env=(false,eval e X.env)::starEach es X.env) (hpl:(backTo pos (starEach es X.env)).any (·.1)=false):NE X (.Call (.Name y p) (e::es) [] pos) (qt tab j fs):=λz s r E hz q=>by
 obtain⟨rs,er,q⟩:=a0a.mp q
 unfold uf at q
 split at q
 ·next x ef=>
  obtain⟨F,eF,q⟩:=a0a.mp q
  refine wpAny_Call_Name_kw (aV (L3 hN hv hd hcd z s (.fz (.fn x)) E hz (show (sl z.ρ j).map t5=_ by rw[ef];rfl)) λv s0 q0=>?_)
  obtain⟨a,m,rfl⟩:=q0.2
  have m:X.mg x=some (.ref a):=m
  obtain⟨jj,hj,d⟩:∃j,j<=k/\DefN X.prog X.w X.K X.mg X.base cm j x F:=(ht x F eF).elim id λhn=>by rw[hn] at m;cases m
  obtain⟨f,fd,ps,n,hb,hk,hm⟩:=d.ex
  rw[hm] at m;cases m
  refine PySem.W.callWith_K (h₀:=X.base) hz.I.ok.mod.kin hk (aV (ha z pos s0 rs E q0.1.1 er) λus s1 ⟨g1,d1⟩=>⟨g1.1.I.kIn,?_⟩) he hpl
  exact aV (xA (n.mono hj) hc hr hb g1.1 d1 q) λu s2 q2=>(q0.1.trans g1).post q2
 ·cases q
noncomputable def qF (F:Option nu)(o:Option Sl)(qs:Option (List PV))(i:Nat)(t:FT)(ρ:aq):Out:=match F,o,qs with
 |some F,some (.own ps),some qs=>match F ps qs with
  |some (ps1,p)=>Hd (t p (ρ.set i (some (.own ps1))))
  |none=>.bad
 |_,_,_=>.bad
noncomputable def H4 (F:nu)(i:Nat)(fs:FA)(t:FT):FS:=λρ=>qF (some F) (sl ρ i) ((fs ρ).bind λrs=>rs.mapM RV.fr) i t ρ
noncomputable def Mj (tab:List (Str×nu))(o:Option Sl):Option nu:=match o with
 |some (.val (.fn x))=>tab.lookup x
 |_=>none
noncomputable def qi (tab:List (Str×nu))(j i:Nat)(fs:FA)(t:FT):FS:=λρ=>qF (Mj tab (sl ρ j)) (sl ρ i) ((fs ρ).bind λrs=>rs.mapM RV.fr) i t ρ
theorem wt {cm:Bool}{k:Nat}{f:Addr}{fd:FuncData}{ps:List Str}{F:nu}{tg:Expr}{t:FT}{xp fp cpos:Pos}{g:Str}(n:NFL X.prog X.w X.K X.mg X.base cm k f fd ps F)(hbi:Binds X.K fd ps [])(hk:PySem.W.keepIn X.K (.ref f)=true)(hc:cm=true->X.calm=true)(hr:Rm k X.A)
  (hN:X.N[i]?=some x) (hv:rX X.env.scope x) (hd:(x==("__debug__" : Str))=false) (hcd:(x==("__classdict__" : Str))=false) (ha:NA X es fs) (hpl:(backTo cpos (starEach es X.env)).any (·.1)=false) (hg:NG X tg t)
  (hs:swapsWithSole [tg] (.Call (.Name g fp) (.Name x xp::es) [] cpos) pos.line X.env=pure false) (hw:swappedStores [tg] (.Call (.Name g fp) (.Name x xp::es) [] cpos) X.env=pure none) (h1:(assignEach [tg] X.env).map (·.2)=[assign tg X.env])
  {z:Z X} {s:Shared} {E:Value->Shared->Prop} (hz:z.ok s) (hload:∀(s:Shared) Q,z.ok s->(∀s',z.go s s'->Q (.ref f) s')->W X (eval (.Name g fp) X.env) Q E s) (hb:qF (some F) (sl z.ρ i) ((fs z.ρ).bind λrs=>rs.mapM RV.fr) i t z.ρ≠.bad) :
  W X (exec (.Assign [tg] (.Call (.Name g fp) (.Name x xp::es) [] cpos) pos) X.env) (Z.sp z s (qF (some F) (sl z.ρ i) ((fs z.ρ).bind λrs=>rs.mapM RV.fr) i t z.ρ)) E s:=by
 unfold qF Hd at hb ⊢
 split at hb
 ·next F' ps0 qs hF ho hq=>
  cases hF
  split at hb
  ·next ps1 p hr'=>
   split at hb
   ·next ρ' et=>
    obtain⟨rs,er,eq⟩:=a0a.mp hq
    refine wpAny_Assign_stores (wpAny_Call_Name_kw (hload s _ hz λs0 g0=>?_)) hs hw
    refine PySem.W.callWith_K (h₀:=X.base) hz.I.ok.mod.kin hk ?_ rfl hpl
    refine Calls.spliced_cons ?_
    obtain⟨v,e2,_,a,rfl,hH,l⟩:=g0.1.slk i _ (gS ho)
    refine oq g0.1 e2 hN hv hd hcd (aV (ha z cpos s0 rs _ g0.1 er) λus s1 ⟨g1,d1⟩=>⟨g1.1.I.kIn,?_⟩)
    have oa:bW z.σ z.ρ i a:=⟨⟨_,gS ho,rfl⟩,e2⟩
    have l1:ListAt z.cn s1.heap a ps0:=l.mono g1.2.kpD λo e=>g1.2.kp a o (hz.ot a _ hH).1 e
    refine aV (FP n hc hr hbi g1.1 oa hH l1 (d1.fr eq) hr') λv s2 ⟨ok2,t2,d2⟩=>?_
    rw[h1]
    exact aV (hg (z.wi z.σ z.H (z.ρ.set i (some (.own ps1)))) s2 p v ρ' E ok2 d2 et) λ_ s3 ⟨σ3,ok3,x3⟩=>⟨rfl,σ3,z.H,ok3,((g0.2.trans g1.2).stp.trans t2).trans x3.stp⟩
   ·exact absurd rfl hb
  ·exact absurd rfl hb
 ·exact absurd rfl hb
theorem Kj {cm:Bool}{k j:Nat}{F:nu}{tg:Expr}{t:FT}{xp fp cpos:Pos}{g:Str}(d:DefL X.prog X.w X.K X.mg X.base cm j g F)(hj:j<=k)(hgl:Gl X g)(hgd:(g==("__debug__" : Str))=false)(hc:cm=true->X.calm=true)(hr:Rm k X.A)
  (hN:X.N[i]?=some x) (hv:rX X.env.scope x) (hd:(x==("__debug__" : Str))=false) (hcd:(x==("__classdict__" : Str))=false) (ha:NA X es fs) (hpl:(backTo cpos (starEach es X.env)).any (·.1)=false) (hg:NG X tg t)
  (hs:swapsWithSole [tg] (.Call (.Name g fp) (.Name x xp::es) [] cpos) pos.line X.env=pure false) (hw:swappedStores [tg] (.Call (.Name g fp) (.Name x xp::es) [] cpos) X.env=pure none) (h1:(assignEach [tg] X.env).map (·.2)=[assign tg X.env]) :
  NS X (.Assign [tg] (.Call (.Name g fp) (.Name x xp::es) [] cpos) pos) (H4 F i fs t):=λz s E hz hb=>by
 obtain⟨f,fd,ps,n,hbi,hk,hm⟩:=d.ex
 exact wt (n.mono hj) hbi hk hc hr hN hv hd hcd ha hpl hg hs hw h1 hz (λs Q hz h=>pU hz.I hgl hm (h s hz.refl) hgd) hb
theorem FZ {cm:Bool}{k j:Nat}{y:Str}{tab:List (Str×nu)}{tg:Expr}{t:FT}{xp fp cpos:Pos}(ht:∀x F,tab.lookup x=some F->∃j,j<=k/\DefL X.prog X.w X.K X.mg X.base cm j x F)(hc:cm=true->X.calm=true)(hr:Rm k X.A)
  (hN':X.N[j]?=some y) (hv':rX X.env.scope y) (hd':(y==("__debug__" : Str))=false) (hcd':(y==("__classdict__" : Str))=false)
  (hN:X.N[i]?=some x) (hv:rX X.env.scope x) (hd:(x==("__debug__" : Str))=false) (hcd:(x==("__classdict__" : Str))=false) (ha:NA X es fs) (hpl:(backTo cpos (starEach es X.env)).any (·.1)=false) (hg:NG X tg t)
  (hs:swapsWithSole [tg] (.Call (.Name y fp) (.Name x xp::es) [] cpos) pos.line X.env=pure false) (hw:swappedStores [tg] (.Call (.Name y fp) (.Name x xp::es) [] cpos) X.env=pure none) (h1:(assignEach [tg] X.env).map (·.2)=[assign tg X.env]) :
  NS X (.Assign [tg] (.Call (.Name y fp) (.Name x xp::es) [] cpos) pos) (qi tab j i fs t):=λz s E hz hb=>by
 unfold qi at hb ⊢
 cases ho:Mj tab (sl z.ρ j) with
 |none=>rw[ho] at hb;exact absurd rfl hb
 |some F=>
  rw[ho] at hb
  have ho':=ho
  unfold Mj at ho'
  split at ho'
  ·next g ef=>
   obtain⟨jj,hj,d⟩:=ht g F ho'
   obtain⟨f,fd,ps,n,hbi,hk,hm⟩:=d.ex
   refine wt (n.mono hj) hbi hk hc hr hN hv hd hcd ha hpl hg hs hw h1 hz (λs Q hz' h=>?_) hb
   have:=L3 (pos:=fp) hN' hv' hd' hcd' z s (.fz (.fn g)) E hz' (show (sl z.ρ j).map t5=_ by rw[ef];rfl)
   exact aV this λv s1 q=>by
    obtain⟨a,m,rfl⟩:=q.2
    have m:X.mg g=some (.ref a):=m
    rw[hm] at m;cases m
    exact h s1 q.1
  ·cases ho'
end
section
variable {X:Cx}{o:Expr}{es:List Expr}{fo:FE}{fs:FA}{pos:Pos}
structure MthN (X:Cx)(T:String)(name:Str)(id:String)(g:PV->List PV->Option RV):Prop where
 pa:PlainAttrs T
 slot:Slot T name id
 hty:typeOf (.builtin id)=pure (.type "method_descriptor")
 ty:∀(z:Z X) (s:Shared) p qs r u,g p qs=some r->Rv z s.heap p u->s.TypeIs u T/\∀b,u=.ref b->∃ob,s.heap.get? b=some ob/\ob.dict=none
 call:∀(z:Z X) (s:Shared) p u qs us r E,z.ok s->Rv z s.heap p u->Rvs z s.heap qs us->g p qs=some r->W X (call (.builtin id) (u::us)) (Z.post z s r) E s
structure Mc (X:Cx)(o:Expr)(name:Str)(apos cpos:Pos)(es:List Expr):Prop where
 base:attributeBase o name X.env (eval o X.env)=eval o X.env
 line:(apos.endLine==cpos.line)=true
 few:((backTo cpos (starEach es X.env)).all (λx=>!x.1)&&(backToKw cpos (keywordEach [] X.env)).all (λx=>x.1.isSome)&&decide (es.length+([]:List Keyword).length+(if ([]:List Keyword).isEmpty then 0 else 1)<30))=true
 ns:∀e r,es=e::r->starEach (e::r) X.env=(false,eval e X.env)::starEach r X.env/\(backTo cpos (starEach r X.env)).any (·.1)=false
noncomputable def qH (g:PV->List PV->Option RV)(fo:FE)(fs:FA):FE:=λρ=>(fo ρ).bind λx=>(fs ρ).bind λrs=>g x.pv (rs.map RV.pv)
theorem Iv {T:String}{name:Str}{id:String}{g:PV->List PV->Option RV}(m:MthN X T name id g){apos cpos:Pos}(c:Mc X o name apos cpos es)(ho:NE X o fo)(ha:NA X es fs)(h0:es=[]->fs=af):NE X (.Call (.Attribute o name apos) es [] cpos) (qH g fo fs):=λz s r E hz q=>by
 obtain⟨x,ex,q⟩:=a0a.mp q
 obtain⟨rs,er,q⟩:=a0a.mp q
 cases es with
 |nil=>
  refine wpAny_Call_method0_late c.base c.line (aV (ho z s x E hz ex) λu s1 q1=>?_)
  obtain⟨t1,t2⟩:=m.ty z s1 _ _ r u q q1.2.rv
  rw[h0 rfl] at er;cases er
  exact⟨T,id,m.pa,m.slot,m.hty,t1,t2,Calls.callWith_builtin rfl (PySem.evalArgs_none (aV (m.call z s1 _ u _ [] r E q1.1.1 q1.2.rv .nil q) λv s2 q2=>q1.1.post q2))⟩
 |cons e0 es0=>
  refine wpAny_Call_method_late c.base c.few c.line rfl (aV (ho z s x E hz ex) λu s1 q1=>?_)
  obtain⟨t1,t2⟩:=m.ty z s1 _ _ r u q q1.2.rv
  refine⟨T,id,m.pa,m.slot,m.hty,t1,t2,?_⟩
  obtain⟨hs,hp⟩:=c.ns e0 es0 rfl
  have hA:=ha z cpos s1 rs E q1.1.1 er
  rw[hs] at hA ⊢
  refine Calls.callWith_builtin (by show (false || (backTo cpos (starEach es0 X.env)).any (·.1))=false;rw[hp]<;>rfl) (Calls.evalArgs_plain ?_)
  exact aV hA λus s2 ⟨g2,d2⟩=>aV (m.call z s2 _ u _ us r E g2.1 (q1.2.ext g2.2).rv d2.rv q) λv s3 q3=>(q1.1.trans g2).post q3
noncomputable def k6:PV->List PV->Option RV
 |.dct ks ps,[k]=>(jI k).map λk=>.fz ((o6 ks ps k).getD .non)
 |.dct ks ps,[k,x]=>(jI k).bind λk=>match o6 ks ps k with
  |some p=>some (.fz p)
  |none=>if Lv x=true then none else some (.fz x)
 |_,_=>none
theorem CO {z:Z X}{s:Shared}{ks:List eX}{ps:List PV}{u:Value}(d:Rv z s.heap (.dct ks ps) u):s.TypeIs u "dict"/\∀b,u=.ref b->∃ob,s.heap.get? b=some ob/\ob.dict=none:=by
 obtain⟨a,kus,rfl,_,y,dd,_⟩:=d.rd
 refine⟨dd.typeIs,λb e=>?_⟩
 cases e
 obtain⟨ob,_,_,h1,h2,_⟩:=dd
 exact⟨ob,h1,h2.2.1⟩
theorem HJ:MthN X "dict" "get" "dict.get" k6 where
 pa:=PySem.F.plainAttrs_dict
 slot:=PySem.F.slot_dict_get
 hty:=PySem.F.type_dict_get
 ty:=λz s p qs r u e d=>by
  unfold k6 at e
  split at e
  ·exact CO d
  ·exact CO d
  ·cases e
 call:=λz s p u qs us r E hz d ds e=>by
  unfold k6 at e
  split at e
  ·next ks ps k0=>
   obtain⟨k,ek,rfl⟩:=a0d.mp e
   obtain⟨v,rfl,dv⟩:=ds.one
   obtain⟨a,kus,rfl,_,y,dd,zl,hk,dps⟩:=d.rd
   obtain⟨h1,h2⟩:=oi (y:=k) hk dps
   refine call_meetsIn PySem.F.slot_dict_get dd.typeIs PySem.F.entry_dict_get (PySem.F.args_dict_get_2 _ _) (meets_dict_get (bp X.prog X.w) a (qE (gt ek dv.rd)) y) ⟨_,dd.mapOf,hz.tok _,?_⟩
   cases hd:o6 ks ps k with
   |none=>rw[h2 hd];exact rfl
   |some p=>obtain⟨w,e1,dw⟩:=h1 p hd;rw[e1];exact dw
  ·next ks ps k0 x=>
   obtain⟨k,ek,e⟩:=a0a.mp e
   obtain⟨v,w0,rfl,dv,dx⟩:=ds.two
   obtain⟨a,kus,rfl,_,y,dd,zl,hk,dps⟩:=d.rd
   obtain⟨h1,h2⟩:=oi (y:=k) hk dps
   refine call_meetsIn PySem.F.slot_dict_get dd.typeIs PySem.F.entry_dict_get (PySem.F.args_dict_get_3 _ _ _) (meets_dict_get_default (bp X.prog X.w) a (qE (gt ek dv.rd)) y w0) ⟨_,dd.mapOf,?_⟩
   split at e
   ·next p hd=>
    cases e
    obtain⟨w,e1,dw⟩:=h1 p hd
    rw[e1];exact⟨hz.tok _,dw⟩
   ·next hd=>
    split at e
    ·cases e
    ·next hn=>
     cases e
     rw[h2 hd]
     exact⟨hz.tok _,D1.m (dx.fz (by simpa using hn)) .refl⟩
  ·cases e
end
theorem Lp {α:Type}{a:α}{p:Prop}(h:(none:Option α)=some a):p:=by cases h
noncomputable def uE {α:Type}(nm:Str->Pos->Option α)(tu:List Expr->Nat->Pos->Option α)(li:List Expr->Pos->Option α)(cl:Expr->List Expr->List Keyword->Pos->Option α)(am:Expr->Str->Pos->Option α)(sb:Expr->Expr->Pos->Option α)(sl:Option Expr->Option Expr->Option Expr->Pos->Option α)(lc:Expr->List Comprehension->Scope->Pos->Option α):Expr->Option α
 |.Name x p=>nm x p
 |.Tuple es k p=>tu es k p
 |.List es p=>li es p
 |.Call f es ks p=>cl f es ks p
 |.Attribute o m p=>am o m p
 |.Subscript o i p=>sb o i p
 |.Slice x y z p=>sl x y z p
 |.ListComp x gs c p=>lc x gs c p
 |_=>none
noncomputable def OX {α:Type}(nm:Str->Pos->Option α)(r:α)(e:Expr):Prop:=∃a' b',e=.Name a' b'/\nm a' b'=some r
noncomputable def O4 {α:Type}(tu:List Expr->Nat->Pos->Option α)(r:α)(e:Expr):Prop:=∃a' b' c',e=.Tuple a' b' c'/\tu a' b' c'=some r
noncomputable def Qk {α:Type}(li:List Expr->Pos->Option α)(r:α)(e:Expr):Prop:=∃a' b',e=.List a' b'/\li a' b'=some r
noncomputable def PD {α:Type}(cl:Expr->List Expr->List Keyword->Pos->Option α)(r:α)(e:Expr):Prop:=∃a' b' c' d',e=.Call a' b' c' d'/\cl a' b' c' d'=some r
noncomputable def Px {α:Type}(am:Expr->Str->Pos->Option α)(r:α)(e:Expr):Prop:=∃a' b' c',e=.Attribute a' b' c'/\am a' b' c'=some r
noncomputable def O9 {α:Type}(sb:Expr->Expr->Pos->Option α)(r:α)(e:Expr):Prop:=∃a' b' c',e=.Subscript a' b' c'/\sb a' b' c'=some r
noncomputable def O3 {α:Type}(sl:Option Expr->Option Expr->Option Expr->Pos->Option α)(r:α)(e:Expr):Prop:=∃a' b' c' d',e=.Slice a' b' c' d'/\sl a' b' c' d'=some r
noncomputable def OQ {α:Type}(lc:Expr->List Comprehension->Scope->Pos->Option α)(r:α)(e:Expr):Prop:=∃a' b' c' d',e=.ListComp a' b' c' d'/\lc a' b' c' d'=some r
noncomputable def UE {α:Type}(nm:Str->Pos->Option α)(tu:List Expr->Nat->Pos->Option α)(li:List Expr->Pos->Option α)(cl:Expr->List Expr->List Keyword->Pos->Option α)(am:Expr->Str->Pos->Option α)(sb:Expr->Expr->Pos->Option α)(sl:Option Expr->Option Expr->Option Expr->Pos->Option α)(lc:Expr->List Comprehension->Scope->Pos->Option α)(r:α)(e:Expr):Prop:=OX nm r e\/O4 tu r e\/Qk li r e\/PD cl r e\/Px am r e\/O9 sb r e\/O3 sl r e\/OQ lc r e
theorem qw {α:Type}{nm:Str->Pos->Option α}{tu:List Expr->Nat->Pos->Option α}{li:List Expr->Pos->Option α}{cl:Expr->List Expr->List Keyword->Pos->Option α}{am:Expr->Str->Pos->Option α}{sb:Expr->Expr->Pos->Option α}{sl:Option Expr->Option Expr->Option Expr->Pos->Option α}{lc:Expr->List Comprehension->Scope->Pos->Option α}{a:α}:∀(e:Expr) (_:uE nm tu li cl am sb sl lc e=some a),UE nm tu li cl am sb sl lc a e:=λe=>by
 cases e<;>first|exact λh=>Lp h|exact λh=>.inl ⟨_,_,rfl,h⟩|exact λh=>.inr (.inl ⟨_,_,_,rfl,h⟩)|exact λh=>.inr (.inr (.inl ⟨_,_,rfl,h⟩))|exact λh=>.inr (.inr (.inr (.inl ⟨_,_,_,_,rfl,h⟩)))|exact λh=>.inr (.inr (.inr (.inr (.inl ⟨_,_,_,rfl,h⟩))))|exact λh=>.inr (.inr (.inr (.inr (.inr (.inl ⟨_,_,_,rfl,h⟩)))))|exact λh=>.inr (.inr (.inr (.inr (.inr (.inr (.inl ⟨_,_,_,_,rfl,h⟩))))))|exact λh=>.inr (.inr (.inr (.inr (.inr (.inr (.inr ⟨_,_,_,_,rfl,h⟩))))))
noncomputable def l8 {α β γ:Type}(_:α)(_:β):Option γ:=none
noncomputable def jH {α β γ δ:Type}(_:α)(_:β)(_:γ):Option δ:=none
noncomputable def jF {α β γ δ ε:Type}(_:α)(_:β)(_:γ)(_:δ):Option ε:=none
noncomputable def NC {α β γ δ ε ζ:Type}(_:α)(_:β)(_:γ)(_:δ)(_:ε):Option ζ:=none
theorem Oz {α β δ:Type}{P:α->β->Prop}{r:δ}{q:Prop}(h:∃a b,P a b/\(l8 a b:Option δ)=some r):q:=h.elim λ_ h=>h.elim λ_ h=>Lp h.2
theorem OH {α β γ δ:Type}{P:α->β->γ->Prop}{r:δ}{q:Prop}(h:∃a b c,P a b c/\(jH a b c:Option δ)=some r):q:=h.elim λ_ h=>h.elim λ_ h=>h.elim λ_ h=>Lp h.2
theorem Oo {α β γ ε δ:Type}{P:α->β->γ->ε->Prop}{r:δ}{q:Prop}(h:∃a b c d,P a b c d/\(jF a b c d:Option δ)=some r):q:=h.elim λ_ h=>h.elim λ_ h=>h.elim λ_ h=>h.elim λ_ h=>Lp h.2
theorem Qm {α β γ ε ζ δ:Type}{P:α->β->γ->ε->ζ->Prop}{r:δ}{q:Prop}(h:∃a b c d e,P a b c d e/\(NC a b c d e:Option δ)=some r):q:=h.elim λ_ h=>h.elim λ_ h=>h.elim λ_ h=>h.elim λ_ h=>h.elim λ_ h=>Lp h.2
theorem Bh {α:Type}{r:α}{e:Expr}{q:Prop}(h:OX l8 r e):q:=Oz h
theorem Bj {α:Type}{r:α}{e:Expr}{q:Prop}(h:O4 jH r e):q:=OH h
theorem xJ {α:Type}{r:α}{e:Expr}{q:Prop}(h:Qk l8 r e):q:=Oz h
theorem Bp {α:Type}{r:α}{e:Expr}{q:Prop}(h:PD jF r e):q:=Oo h
theorem Ba {α:Type}{r:α}{e:Expr}{q:Prop}(h:Px jH r e):q:=OH h
theorem AZ {α:Type}{r:α}{e:Expr}{q:Prop}(h:O9 jH r e):q:=OH h
theorem AR {α:Type}{r:α}{e:Expr}{q:Prop}(h:O3 jF r e):q:=Oo h
theorem Bl {α:Type}{r:α}{e:Expr}{q:Prop}(h:OQ jF r e):q:=Oo h
theorem Jh {α:Type}{nm:Str->Pos->Option α}{e:Expr}{r:α}(h:uE nm jH l8 jF jH jH jF jF e=some r):OX nm r e:=(qw e h).elim id (λh=>h.elim Bj (λh=>h.elim xJ (λh=>h.elim Bp (λh=>h.elim Ba (λh=>h.elim AZ (λh=>h.elim AR Bl))))))
theorem K7 {α:Type}{tu:List Expr->Nat->Pos->Option α}{e:Expr}{r:α}(h:uE l8 tu l8 jF jH jH jF jF e=some r):O4 tu r e:=(qw e h).elim Bh (λh=>h.elim id (λh=>h.elim xJ (λh=>h.elim Bp (λh=>h.elim Ba (λh=>h.elim AZ (λh=>h.elim AR Bl))))))
theorem J3 {α:Type}{cl:Expr->List Expr->List Keyword->Pos->Option α}{e:Expr}{r:α}(h:uE l8 jH l8 cl jH jH jF jF e=some r):PD cl r e:=(qw e h).elim Bh (λh=>h.elim Bj (λh=>h.elim xJ (λh=>h.elim id (λh=>h.elim Ba (λh=>h.elim AZ (λh=>h.elim AR Bl))))))
theorem IC {α:Type}{am:Expr->Str->Pos->Option α}{e:Expr}{r:α}(h:uE l8 jH l8 jF am jH jF jF e=some r):Px am r e:=(qw e h).elim Bh (λh=>h.elim Bj (λh=>h.elim xJ (λh=>h.elim Bp (λh=>h.elim id (λh=>h.elim AZ (λh=>h.elim AR Bl))))))
theorem K8 {α:Type}{sb:Expr->Expr->Pos->Option α}{e:Expr}{r:α}(h:uE l8 jH l8 jF jH sb jF jF e=some r):O9 sb r e:=(qw e h).elim Bh (λh=>h.elim Bj (λh=>h.elim xJ (λh=>h.elim Bp (λh=>h.elim Ba (λh=>h.elim id (λh=>h.elim AR Bl))))))
theorem ID {α:Type}{sl:Option Expr->Option Expr->Option Expr->Pos->Option α}{e:Expr}{r:α}(h:uE l8 jH l8 jF jH jH sl jF e=some r):O3 sl r e:=(qw e h).elim Bh (λh=>h.elim Bj (λh=>h.elim xJ (λh=>h.elim Bp (λh=>h.elim Ba (λh=>h.elim AZ (λh=>h.elim id Bl))))))
theorem Kx {α:Type}{lc:Expr->List Comprehension->Scope->Pos->Option α}{e:Expr}{r:α}(h:uE l8 jH l8 jF jH jH jF lc e=some r):OQ lc r e:=(qw e h).elim Bh (λh=>h.elim Bj (λh=>h.elim xJ (λh=>h.elim Bp (λh=>h.elim Ba (λh=>h.elim AZ (λh=>h.elim AR id))))))
noncomputable def pM:Expr->Option (Str×Pos):=uE (λx p=>some (x,p)) jH l8 jF jH jH jF jF
theorem cV {e:Expr}{x:Str}{p:Pos}(h:pM e=some (x,p)):e=.Name x p:=by
 obtain⟨_,_,rfl,h⟩:=Jh h
 cases h;rfl
noncomputable def E5:Expr->Option (List Expr×Nat×Pos):=uE l8 (λes k p=>some (es,k,p)) l8 jF jH jH jF jF
theorem qO {e:Expr}{es:List Expr}{k:Nat}{p:Pos}(h:E5 e=some (es,k,p)):e=.Tuple es k p:=by
 obtain⟨_,_,_,rfl,h⟩:=K7 h
 cases h;rfl
noncomputable def u0 {α β:Type}(b:β):List α->Option β
 |[]=>some b
 |_::_=>none
theorem sT {α β:Type}{b c:β}{l:List α}(h:u0 b l=some c):l=[]/\b=c:=by
 cases l with
 |nil=>exact⟨rfl,Option.some.inj h⟩
 |cons=>cases h
noncomputable def GC:Expr->Option (Expr×List Expr×Pos):=uE l8 jH l8 (λf es ks p=>u0 (f,es,p) ks) jH jH jF jF
theorem lE {e f:Expr}{es:List Expr}{p:Pos}(h:GC e=some (f,es,p)):e=.Call f es [] p:=by
 obtain⟨_,_,_,_,rfl,h⟩:=J3 h
 obtain⟨rfl,q⟩:=sT h
 cases q;rfl
noncomputable def N4:Expr->Option (Expr×Str×Pos):=uE l8 jH l8 jF (λo m p=>some (o,m,p)) jH jF jF
theorem u6 {e o:Expr}{m:Str}{p:Pos}(h:N4 e=some (o,m,p)):e=.Attribute o m p:=by
 obtain⟨_,_,_,rfl,h⟩:=IC h
 cases h;rfl
noncomputable def Pb:Expr->Option (Expr×Expr×Pos):=uE l8 jH l8 jF jH (λo i p=>some (o,i,p)) jF jF
theorem CE {e o i:Expr}{p:Pos}(h:Pb e=some (o,i,p)):e=.Subscript o i p:=by
 obtain⟨_,_,_,rfl,h⟩:=K8 h
 cases h;rfl
noncomputable def u1 {α:Type}:List α->Option α
 |[]=>none
 |a::r=>u0 a r
theorem jR {α:Type}{l:List α}{a:α}(h:u1 l=some a):l=[a]:=by
 cases l with
 |nil=>cases h
 |cons b r=>obtain⟨rfl,rfl⟩:=sT (show u0 b r=some a from h);rfl
noncomputable def P9:Expr->Option (Option Expr×Option Expr×Pos):=uE l8 jH l8 jF jH jH (λx y z p=>z.elim (some (x,y,p)) λ_=>none) jF
theorem Kw {e:Expr}{x y:Option Expr}{p:Pos}(h:P9 e=some (x,y,p)):e=.Slice x y none p:=by
 obtain⟨_,_,z,_,rfl,h⟩:=ID h
 cases z with
 |none=>cases h;rfl
 |some=>exact Lp h
noncomputable def OE:Expr->Option (Expr×Comprehension×Scope×Pos):=uE l8 jH l8 jF jH jH jF (λx gs c p=>(u1 gs).map λg=>(x,g,c,p))
theorem I3 {e x:Expr}{g:Comprehension}{c:Scope}{p:Pos}(h:OE e=some (x,g,c,p)):e=.ListComp x [g] c p:=by
 obtain⟨_,_,_,_,rfl,h⟩:=Kx h
 obtain⟨d,e2,h⟩:=a0d.mp h
 cases h
 rw[jR e2]
noncomputable def uC {α:Type}:List α->Option (α×List α)
 |[]=>none
 |a::r=>some (a,r)
theorem wF {α:Type}{l:List α}{a:α}{r:List α}(h:uC l=some (a,r)):l=a::r:=by
 cases l with
 |nil=>cases h
 |cons b r=>cases h;rfl
noncomputable def u2 {α:Type}(l:List α):Option (α×α):=(uC l).bind λp=>(u1 p.2).map λb=>(p.1,b)
theorem oX {α:Type}{l:List α}{a b:α}(h:u2 l=some (a,b)):l=[a,b]:=by
 obtain⟨⟨c,r⟩,e,h⟩:=a0a.mp h
 obtain⟨d,e2,h⟩:=a0d.mp h
 cases h
 rw[wF e,show r=[b] from jR e2]
noncomputable def u3 {α:Type}(l:List α):Option (α×α×α):=(uC l).bind λp=>(u2 p.2).map λb=>(p.1,b)
theorem MG {α:Type}{l:List α}{a b c:α}(h:u3 l=some (a,b,c)):l=[a,b,c]:=by
 obtain⟨⟨d,r⟩,e,h⟩:=a0a.mp h
 obtain⟨⟨f,g⟩,e2,h⟩:=a0d.mp h
 cases h
 rw[wF e,show r=[b,c] from oX e2]
noncomputable def uS {α:Type}(ss:List Expr->Expr->Pos->Option α)(ag:Expr->Operator->Expr->Pos->Option α)(ex:Expr->Pos->Option α)(fo:Expr->Expr->List Stmt->List Stmt->Pos->Option α):Stmt->Option α
 |.Assign ts v p=>ss ts v p
 |.AugAssign t o v p=>ag t o v p
 |.Expr e p=>ex e p
 |.For t i b o p=>fo t i b o p
 |_=>none
noncomputable def US {α:Type}(ss:List Expr->Expr->Pos->Option α)(ag:Expr->Operator->Expr->Pos->Option α)(ex:Expr->Pos->Option α)(fo:Expr->Expr->List Stmt->List Stmt->Pos->Option α)(a:α)(s:Stmt):Prop:=
 (∃ts v p,s=.Assign ts v p/\ss ts v p=some a)\/(∃t o v p,s=.AugAssign t o v p/\ag t o v p=some a)\/(∃e p,s=.Expr e p/\ex e p=some a)\/∃t i b o p,s=.For t i b o p/\fo t i b o p=some a
theorem Im {α:Type}{ss:List Expr->Expr->Pos->Option α}{ag:Expr->Operator->Expr->Pos->Option α}{ex:Expr->Pos->Option α}{fo:Expr->Expr->List Stmt->List Stmt->Pos->Option α}{a:α}:∀(s:Stmt) (_:uS ss ag ex fo s=some a),US ss ag ex fo a s:=λs=>by
 cases s<;>first|exact λh=>Lp h|exact λh=>.inl ⟨_,_,_,rfl,h⟩|exact λh=>.inr (.inl ⟨_,_,_,_,rfl,h⟩)|exact λh=>.inr (.inr (.inl ⟨_,_,rfl,h⟩))|exact λh=>.inr (.inr (.inr ⟨_,_,_,_,_,rfl,h⟩))
theorem JV {α:Type}{ss:List Expr->Expr->Pos->Option α}{s:Stmt}{a:α}(h:uS ss jF l8 NC s=some a):∃t v p,s=.Assign t v p/\ss t v p=some a:=(Im s h).elim id λh=>h.elim Oo λh=>h.elim Oz Qm
theorem JG {α:Type}{ag:Expr->Operator->Expr->Pos->Option α}{s:Stmt}{a:α}(h:uS jH ag l8 NC s=some a):∃t o v p,s=.AugAssign t o v p/\ag t o v p=some a:=(Im s h).elim OH λh=>h.elim id λh=>h.elim Oz Qm
noncomputable def Oj:Stmt->Option (Expr×Expr×Pos):=uS (λts v p=>(u1 ts).map λt=>(t,v,p)) jF l8 NC
theorem xH {s:Stmt}{t v:Expr}{p:Pos}(h:Oj s=some (t,v,p)):s=.Assign [t] v p:=by
 obtain⟨_,_,_,rfl,h⟩:=JV h
 obtain⟨d,e2,h⟩:=a0d.mp h
 cases h
 rw[jR e2]
noncomputable def Qe:Stmt->Option (Expr×Operator×Expr×Pos):=uS jH (λt o v p=>some (t,o,v,p)) l8 NC
theorem IL {s:Stmt}{t v:Expr}{o:Operator}{p:Pos}(h:Qe s=some (t,o,v,p)):s=.AugAssign t o v p:=by
 obtain⟨_,_,_,_,rfl,h⟩:=JG h
 cases h;rfl
noncomputable def Hy:Operator->Bool
 |.Add=>true
 |_=>false
theorem CI {o:Operator}(h:Hy o=true):o=.Add:=by cases o<;>first|rfl|cases h
noncomputable def Dj {α:Type}(a b:Option α):Option α:=a.orElse λ_=>b
theorem jD {α:Type}{a b:Option α}{r:α}(h:Dj a b=some r):a=some r\/b=some r:=by
 cases a with
 |none=>exact .inr h
 |some=>exact .inl h
noncomputable def lX {α:Type}(c:Bool)(a:Option α):Option α:=if c=true then a else none
theorem bq {α:Type}{c:Bool}{a:Option α}{r:α}(h:lX c a=some r):c=true/\a=some r:=by
 unfold lX at h
 cases c with
 |true=>exact⟨rfl,by rwa [if_pos rfl] at h⟩
 |false=>rw[if_neg a0y] at h;cases h
structure Gd where
 bi:List Str:=[]
 nis:List (Str×Int):=[]
 tups:List (Str×List PV):=[]
 vals:List Str:=[]
 fns:List (Str×Fn):=[]
 dcts:List (Str×List eX×List PV):=[]
 tab:List (Str×Fn):=[]
 lents:List (Str×nu):=[]
structure Lc where
 sc:Scope
 N:List Str
 top:Bool:=true
 lent:Bool:=false
 own:List Str:=[]
 frz:List (Nat×List Nat):=[]
 alt:List (Nat×Nat):=[]
 cmp:List ((Nat×Nat)×List Str):=[]
 dic:List Str:=[]
structure Hk where
 e:Gd->(Lc->Expr->FE)->(Lc->Expr->FB)->Lc->Expr->Option FE:=λ_ _ _ _ _=>none
 i:Gd->Lc->(Expr->FE)->Expr->Expr->Option FI:=λ_ _ _ _ _=>none
 b:Gd->(Lc->Expr->FE)->(Lc->Expr->FB)->Lc->Expr->Option FB:=λ_ _ _ _ _=>none
 s:Gd->(Lc->Expr->FE)->(Lc->Expr->FB)->(Lc->Stmt->FS)->Lc->Stmt->Option FS:=λ_ _ _ _ _ _=>none
structure Gc extends Gd where
 hk:Hk:={}
noncomputable def LH (x:Str):List Str->Option Nat
 |[]=>none
 |y::r=>if x=y then some 0 else (LH x r).map (·+1)
theorem xG {x:Str}:∀{l:List Str} {i:Nat},LH x l=some i->l[i]?=some x
 |[],_,h=>by cases h
 |y::r,i,h=>by
  unfold LH at h
  split at h
  ·next e=>cases h;rw[e];rfl
  ·obtain⟨j,e,rfl⟩:=a0d.mp h
   rw[a3q];exact xG e
noncomputable def EI (x:Str):Bool:=x == "__debug__" || x == "__classdict__" || x == "__name__"
noncomputable def bO:FE:=λ_=>none
noncomputable def l6:Expr->Bool
 |.Starred _ _=>false
 |_=>true
theorem dY {e:Expr}(h:l6 e=true)(es:List Expr)(env:Env):starEach (e::es) env=(false,eval e env)::starEach es env:=by
 cases e<;>first|rfl|(cases h)
theorem iX {pos:Pos}{env:Env}:∀{es:List Expr},es.all l6=true->(backTo pos (starEach es env)).any (·.1)=false
 |[],_=>rfl
 |e::es,h=>by
  rw[a1g,a0b] at h
  rw[dY h.1]
  exact iX (es:=es) h.2
noncomputable def Qi (L:Lc)(x:Str):Bool:=match L.sc.names.lookup x with
 |some .local=>true
 |some .cell=>true
 |some .free=>true
 |_=>false
noncomputable def glob (L:Lc)(x:Str):Bool:=L.sc.names.lookup x==some .globalImplicit&&!EI x
noncomputable def slot (L:Lc)(x:Str):Option Nat:=if Qi L x&&!EI x then LH x L.N else none
noncomputable def eP (L:Lc)(x:Str):Option Nat:=if L.sc.names.lookup x==some .local || L.top&&L.sc.names.lookup x==some .cell then (LH x L.N).bind (λi=>if L.lent&&i==0 then none else some i) else none
noncomputable def OO (x:Str):FE:=if x = "int" then fC (.ty "int") else if x = "bool" then fC (.ty "bool") else if x = "str" then fC (.ty "str") else if x = "list" then fC (.ty "list") else if x = "tuple" then fC (.ty "tuple") else if x = "dict" then fC (.ty "dict") else bO
noncomputable def C4 (G:Gc)(L:Lc)(x:Str):FE:=
 match slot L x with
 |some i=>fV i
 |none=>if glob L x then (match G.nis.lookup x with
  |some i=>fC (.int i)
  |none=>match G.tups.lookup x with
   |some ps=>fC (.ktu ps)
   |none=>if G.vals.contains x then fC (.fn x)
    else match G.dcts.lookup x with
     |some kp=>fC (.dct kp.1 kp.2)
     |none=>if G.bi.contains x then OO x else bO) else bO
noncomputable def LD (f:Expr->FE):List Expr->FA
 |[]=>af
 |e::es=>aa (f e) (LD f es)
noncomputable def vA (f:Expr->FE)(es:List Expr):FA:=if es.all l6 then LD f es else λ_=>none
noncomputable def xI (L:Lc)(p:Pos):Bool:=L.alt.contains (p.line,p.col)
noncomputable def On (x:Str)(alt:Bool)(n:Nat)(fs:FA):FE:=
 if x = "len" then fB gw fs else if x = "abs" then fB Eo fs else if x = "all" then fB Bs fs else if x = "any" then fB KP fs
 else if x = "isinstance" then fB uP fs else if x = "sorted" then (if alt then fB xc fs else fB uu fs)
 else if x = "max" then (if n=2 then fB tD fs else fB Hw fs) else if x = "min" then (if n=2 then fB mw fs else fB HA fs)
 else if x = "sum" then fB Mh fs else if x = "int" then fB vM fs else if x = "tuple" then (if alt then fB sE fs else fB lG fs)
 else if x = "list" then fB iS fs else if x = "range" then fB uH fs else if x = "str" then fB IS fs else bO
noncomputable def Ee (G:Gc)(L:Lc)(f:Expr->FE)(x:Str)(args:List Expr)(pos:Pos):FE:=
 match slot L x with
 |some i=>if args.isEmpty then bO else qt G.tab i (vA f args)
 |none=>if glob L x then (match G.fns.lookup x with
  |some F=>if args.isEmpty then Cm F else ao F (vA f args)
  |none=>if G.bi.contains x&&!args.isEmpty then On x (xI L pos) args.length (vA f args) else bO) else bO
noncomputable def PW:Nat->Expr->List Str
 |_+1,.Name x _=>[x]
 |n+1,.Tuple es _ _=>es.flatMap (PW n)
 |_,_=>[]
noncomputable def OI (f:Expr->FT):List Expr->AT
 |[]=>g0
 |e::es=>gC (f e) (OI f es)
noncomputable def vT:Nat->Lc->Expr->FT
 |_+1,L,.Name x _=>match eP L x with
  |some i=>gN i
  |none=>λ_ _=>none
 |n+1,L,.Tuple es _ _=>if es.all l6 then ff es.length (OI (vT n L) es) else λ_ _=>none
 |_,_,_=>λ_ _=>none
noncomputable def Nt:Nat->Lc->Expr->List Nat
 |_+1,L,.Name x _=>(eP L x).toList
 |n+1,L,.Tuple es _ _=>es.flatMap (Nt n L)
 |_,_,_=>[]
noncomputable def KS:Expr->Bool
 |.Set _ _ _=>false
 |_=>true
noncomputable def At:Expr->Bool
 |.Tuple _ _ _=>true
 |_=>false
noncomputable def Ih (L:Lc):Expr->Bool
 |.Name x _=>L.own.contains x
 |_=>false
noncomputable def EF (G:Gc)(L:Lc)(x:Str):Bool:=decide (x = "range")&&glob L "range"&&G.bi.contains "range"
noncomputable def Qz (G:Gc)(L:Lc)(f:Expr->FE)(tg:Expr)(x:Str)(as:List Expr):Option FI:=
 (u1 as).bind λa=>Dj (lX (EF G L x) (some (k5 nK (vA f [a])))) (lX (decide (x = "enumerate")&&glob L "enumerate"&&G.bi.contains "enumerate"&&At tg) (some (mv (vA f [a]))))
noncomputable def QI (G:Gc)(L:Lc)(f:Expr->FE)(x:Str)(as:List Expr):Option FI:=(u2 as).bind λa=>lX (EF G L x) (some (k5 A7 (vA f [a.1,a.2])))
noncomputable def QJ (G:Gc)(L:Lc)(f:Expr->FE)(x:Str)(as:List Expr):Option FI:=(u3 as).bind λa=>lX (EF G L x) (some (k5 Fj (vA f [a.1,a.2.1,a.2.2])))
noncomputable def PY (G:Gc)(L:Lc)(f:Expr->FE)(tg it:Expr):Option FI:=
 (GC it).bind λc=>(pM c.1).bind λx=>Dj (Qz G L f tg x.1 c.2.1) (Dj (QI G L f x.1 c.2.1) (QJ G L f x.1 c.2.1))
noncomputable def vI (G:Gc)(L:Lc)(f:Expr->FE)(own:Bool)(tg it:Expr):FI:=
 if own then Mq (f it) else match G.hk.i G.toGd L f tg it with
 |some g=>g
 |none=>match PY G L f tg it with
  |some g=>g
  |none=>wq (f it)
noncomputable def D9 (sc o:Scope):Scope:={ sc with names:=sc.names.map λ(n,k)=>if k==.free&&o.kind==.function&&o.names.lookup n==some .cell then (n,.cell) else (n,k) }
noncomputable def vO (f:Expr->FE):Option Expr->FO
 |none=>sg
 |some e=>rR (f e)
noncomputable abbrev RE:=Lc->Expr->FE
noncomputable abbrev RB:=Lc->Expr->FB
noncomputable def Ou (L:Lc)(tg:Expr)(N2:List Str):List (Option Nat):=N2.map λx=>if (PW 5 tg).contains x then none else LH x L.N
noncomputable def NR (L:Lc)(sc:Scope)(tg:Expr)(N2:List Str):Lc:={ L with sc:=D9 sc L.sc,N:=N2,top:=false,own:=L.own.filter λx=>!(PW 5 tg).contains x }
noncomputable def Qc (L:Lc)(sc:Scope)(tg it:Expr)(N2:List Str):Bool:=
 uK sc.kind sc.names (λx=>L.sc.names.lookup x) L.N N2 (Ou L tg N2)&&decide N2.Nodup&&(Nt 5 (NR L sc tg N2) tg).all (λi=>(Ou L tg N2)[i]?==some none)&&KS it
noncomputable def Qw (rB:RB)(L:Lc):List Expr->FB
 |[]=>n5
 |[c]=>rB L c
 |_=>λ_=>none
noncomputable def OA (G:Gc)(rE:RE)(rB:RB)(L:Lc)(elt tg it:Expr)(ifs:List Expr)(sc:Scope)(p:Pos):FE:=
 match L.cmp.lookup (p.line,p.col) with
 |none=>bO
 |some N2=>if Qc L sc tg it N2 then dL (Ou L tg N2) (vI G L (rE L) (Ih L it) tg it) (vT 5 (NR L sc tg N2) tg) (Qw rB (NR L sc tg N2) ifs) (rE (NR L sc tg N2) elt) else bO
noncomputable def gM:Expr->Bool
 |.Slice _ _ none _=>false
 |_=>true
noncomputable def Qt:Const->FE
 |.int i=>fC (.int i)
 |.bool b=>fC (.bl b)
 |.none=>fC .non
 |.str x=>fC (.str x)
 |_=>bO
noncomputable def Qp (op:UnaryOp)(f:FE):FE:=match op with
 |.USub=>qb f
 |.Not=>zf f
 |_=>bO
noncomputable def Qb (f:Expr->FE)(a:Expr)(ops:List CmpOp)(bs:List Expr):FE:=match ops with
 |[]=>bO
 |o1::ops=>match bs with
  |[]=>bO
  |b::bs=>match ops with
   |[]=>match bs with
    |[]=>if behindInMarks o1 b then bO else ak (sd o1) (f a) (f b)
    |_::_=>bO
   |o2::ops=>match ops with
    |_::_=>bO
    |[]=>match bs with
     |[]=>bO
     |c::bs=>match bs with
      |_::_=>bO
      |[]=>if lastMarks [o1,o2] [b,c] then bO else EJ (sd o1) (sd o2) (f a) (f b) (f c)
noncomputable def PX (f:Expr->FE)(op:BoolOp)(vs:List Expr)(p:Pos):FE:=match vs with
 |[]=>bO
 |a::r=>match r with
  |[]=>rH (f a)
  |b::r=>match op with
   |.And=>iY (f a) (f (.BoolOp .And (b::r) p))
   |.Or=>Oe (f a) (f (.BoolOp .Or (b::r) p))
noncomputable def QD (G:Gc)(rE:RE)(rB:RB)(L:Lc)(elt:Expr)(gs:List Comprehension)(sc:Scope)(p:Pos):FE:=match gs with
 |[]=>bO
 |g::gs=>match gs with
  |_::_=>bO
  |[]=>match g with
   |⟨tg,it,ifs,n⟩=>if n=0 then OA G rE rB L elt tg it ifs sc p else bO
noncomputable def Lb:Expr->Bool
 |.UnaryOp op a _=>match op with
  |.USub=>match a with
   |.Constant c _ _=>match c with
    |.int i=>decide (i=1)
    |_=>false
   |_=>false
  |_=>false
 |_=>false
noncomputable def P1 (L:Lc)(f:Expr->FE)(a ix:Expr)(p:Pos):FE:=match ix with
 |.Slice lo hi st _=>match st with
  |none=>if xI L p then nc (f a) (vO f lo) (vO f hi) else GN (f a) (vO f lo) (vO f hi)
  |some s=>if Lb s&&lo.isNone&&hi.isNone then Ce (f a) else bO
 |b=>if xI L p then ak E3 (f a) (f b) else ak bo (f a) (f b)
noncomputable def P3 (G:Gc)(L:Lc)(f:Expr->FE)(d:Str)(q:Pos)(m:Str)(ap:Pos)(args:List Expr)(p:Pos):FE:=match args with
 |[]=>if m = "bit_length"&&ap.endLine==p.line then CA (f (.Name d q)) else bO
 |a::r=>if m = "get"&&ap.endLine==p.line&&(a::r).all l6&&decide (r.length<20) then qH k6 (f (.Name d q)) (vA f (a::r)) else bO
noncomputable def NH (G:Gc)(L:Lc)(f:Expr->FE)(fn:Expr)(args:List Expr)(kws:List Keyword)(p:Pos):FE:=match kws with
 |_::_=>bO
 |[]=>match fn with
  |.Name x _=>Ee G L f x args p
  |.Attribute o m ap=>match o with
   |.Name d q=>P3 G L f d q m ap args p
   |_=>bO
  |_=>bO
noncomputable def OU (G:Gc)(rE:RE)(rB:RB)(L:Lc):Expr->FE
 |.Constant c _ _=>Qt c
 |.Name x _=>C4 G L x
 |.BinOp a op b _=>ak (P0 op) (rE L a) (rE L b)
 |.UnaryOp op a _=>Qp op (rE L a)
 |.Compare a ops bs _=>Qb (rE L) a ops bs
 |.BoolOp op vs p=>PX (rE L) op vs p
 |.IfExp c a b _=>N6 (rB L c) (rE L a) (rE L b)
 |.Tuple es _ _=>bV (vA (rE L) es)
 |.List es _=>im (vA (rE L) es)
 |.ListComp elt gs sc p=>QD G rE rB L elt gs sc p
 |.Subscript a ix p=>P1 L (rE L) a ix p
 |.Call fn args kws p=>NH G L (rE L) fn args kws p
 |_=>bO
noncomputable def C6:Expr->Bool
 |.UnaryOp .Not _ _=>false
 |.BoolOp _ _ _=>false
 |.IfExp _ _ _ _=>false
 |.Compare _ _ _ _=>false
 |_=>true
noncomputable def vW (f:Expr->FB)(op:BoolOp):List Expr->FB
 |[]=>λ_=>none
 |[a]=>f a
 |a::r=>match op with
  |.And=>j5 (f a) (vW f op r)
  |.Or=>oy (f a) (vW f op r)
noncomputable def Kg (f:Expr->FE)(a:Expr)(ops:List CmpOp)(bs:List Expr):Option FB:=
 Dj ((u1 ops).bind λo=>(u1 bs).bind λb=>lX (!behindInMarks o b) (some (fT (ak (sd o) (f a) (f b)))))
  ((u2 ops).bind λo=>(u2 bs).bind λb=>lX (!lastMarks [o.1,o.2] [b.1,b.2]) (some (fT (EJ (sd o.1) (sd o.2) (f a) (f b.1) (f b.2)))))
noncomputable def Hs:UnaryOp->Bool
 |.Not=>true
 |_=>false
noncomputable def PC (rE:RE)(rB:RB)(L:Lc)(e:Expr):FB:=match e with
 |.Compare a ops bs _=>match Kg (rE L) a ops bs with
  |some g=>g
  |none=>λ_=>none
 |.BoolOp op vs _=>vW (rB L) op vs
 |.UnaryOp op a _=>if Hs op then e8 (rB L a) else fT (rE L e)
 |_=>if C6 e then fT (rE L e) else λ_=>none
noncomputable def PJ (G:Gc)(rE:RE)(rB:RB)(L:Lc)(e:Expr):FE:=
 if (OE e).isSome=true then OU G rE rB L e else match G.hk.e G.toGd rE rB L e with
  |some f=>f
  |none=>OU G rE rB L e
noncomputable def AO (G:Gc):Nat->RE×RB
 |0=>(λ_ _=>bO,λ_ _ _=>none)
 |n+1=>(PJ G (AO G n).1 (AO G n).2,λL e=>match G.hk.b G.toGd (AO G n).1 (AO G n).2 L e with
  |some f=>f
  |none=>PC (AO G n).1 (AO G n).2 L e)
noncomputable def QM:Expr->Option (Scope×Pos)
 |.ListComp _ _ s p=>some (s,p)
 |.SetComp _ _ s p=>some (s,p)
 |.DictComp _ _ _ s p=>some (s,p)
 |_=>none
noncomputable def HG (L:Lc)(v:Expr)(t:Str)(tp:Pos):Bool:=(QM v).elim false λq=>L.sc.kind==.function&&L.sc.names.lookup t==some .local&&tp.line==q.2.line&&!(q.1.names.any λ(n,k)=>n==t&&(k==.local || k==.cell))
noncomputable def FG:Expr->Bool
 |.ListComp _ _ _ _|.SetComp _ _ _ _|.DictComp _ _ _ _ _=>true
 |_=>false
noncomputable def Nx:Expr->Bool
 |.List _ _=>true
 |.Call (.Name x _) _ _ _=>x == "list"
 |_=>false
noncomputable def EK (L:Lc)(ts vs:List Expr):Option (Option (List Str)):=
 if (!(ts.length==2 || ts.length==3) || vs.length != ts.length || L.sc.kind != .function)=true then some none
 else if (vs.any fun|.Starred ..=>true|_=>false)=true then some none
 else
  let line:=(ts.head?.map (·.pos.line)).getD 0
  let names:=ts.filterMap fun
   |.Name id pos=>if L.sc.names.lookup id==some .local&&pos.line==line then some id else none
   |_=>none
  if (names.length != ts.length || names.eraseDups.length != names.length)=true then some none
  else if vs.all (foldedForSure 8)=true then some none
  else if vs.all (constantsAlone 8)=true then none
  else some (some names)
noncomputable def LS {α:Type}(o:Option (Option α)):Bool:=o.elim false λq=>q.isNone
noncomputable def Ct (L:Lc)(tg v:Expr):Bool:=(E5 tg).elim false λt=>(E5 v).elim true λw=>LS (EK L t.1 w.1)
noncomputable def frzs:List Nat->FS->FS
 |[],s=>s
 |i::r,s=>frzs r (FM i s)
noncomputable def vL (f:Stmt->FS):List Stmt->FS
 |[]=>aP
 |[s]=>f s
 |s::r=>aj (f s) (vL f r)
noncomputable def uV:Operator->Option (Int->Int->Int)
 |.Add=>some λa b=>a+b
 |.Sub=>some λa b=>a - b
 |_=>none
noncomputable def Fy (v:Expr):Bool:=(OE v).elim false λc=>decide (c.2.1.is_async=0)
noncomputable def OM (L:Lc)(y:Nat)(v:Expr):Option FS:=(GC v).bind λc=>(u0 () c.2.1).bind λ_=>(N4 c.1).bind λa=>(pM a.1).bind λo=>(slot L o.1).bind λi=>lX (decide (a.2.1 = "pop")&&a.2.2.endLine==c.2.2.line) (some (AS rV y i af))
noncomputable def O8:Expr->Bool
 |.Name _ _=>true
 |_=>false
noncomputable def L9 (G:Gc)(f:Expr->FE)(L:Lc)(tg:Expr)(g:Str)(i:Nat)(es:List Expr):Option FS:=match G.lents.lookup g with
 |some F=>lX (glob L g) (some (H4 F i (LD f es) (vT 5 L tg)))
 |none=>(slot L g).bind λj=>lX (!G.lents.isEmpty) (some (qi G.lents j i (LD f es) (vT 5 L tg)))
noncomputable def Ql (G:Gc)(f:Expr->FE)(L:Lc)(tg v:Expr):Option FS:=(GC v).bind λc=>(pM c.1).bind λg=>(uC c.2.1).bind λq=>(pM q.1).bind λx=>(slot L x.1).bind λi=>
 lX ((L.own.contains x.1 || L.lent&&i==0)&&q.2.all l6&&(O8 tg || At tg)) (L9 G f L tg g.1 i q.2)
noncomputable def Je (G:Gc)(rE:RE)(L:Lc)(x:Str)(p:Pos)(v:Expr):FS:=match eP L x with
 |some i=>if HG L v x p&&!Fy v then b7 else match OM L i v with
  |some s=>s
  |none=>if L.own.contains x then ic i (rE L v) else aI i (rE L v)
 |none=>b7
noncomputable def MX (rE:RE)(L:Lc)(b ix v:Expr):Option FS:=(pM b).bind λj=>(slot L j.1).bind λi=>lX (gM ix&&!FG v) (some (mU i (rE L ix) (rE L v)))
noncomputable def Me (rE:RE)(L:Lc)(x y:Str×Pos)(a b:Expr)(l:List Str):Option FS:=(eP L x.1).bind λi=>(eP L y.1).bind λj=>
 lX (l==[x.1,y.1]&&l6 a&&l6 b&&i != j&&L.sc.names.lookup x.1==some .local&&L.sc.names.lookup y.1==some .local) (some (sr i j (vA (rE L) [a,b])))
noncomputable def Ky (rE:RE)(L:Lc)(tg v:Expr)(ts:List Expr):Option FS:=
 match (u2 ts).bind λq=>(pM q.1).bind λx=>(pM q.2).map λy=>(x,y) with
 |none=>lX (Ct L tg v) (some (gn (rE L v) (vT 5 L tg)))
 |some xy=>match (E5 v).bind λw=>u2 w.1 with
  |none=>lX (!At v) (some (gn (rE L v) (vT 5 L tg)))
  |some ab=>match EK L [.Name xy.1.1 xy.1.2,.Name xy.2.1 xy.2.2] [ab.1,ab.2] with
   |none=>none
   |some none=>some (gn (rE L v) (vT 5 L tg))
   |some (some l)=>Me rE L xy.1 xy.2 ab.1 ab.2 l
noncomputable def Ck (o:Option FS):FS:=match o with
 |some s=>s
 |none=>b7
noncomputable def MJ (G:Gc)(rE:RE)(L:Lc)(tg v:Expr):FS:=
 match tg with
 |.Name x p=>Je G rE L x p v
 |.Subscript b ix _=>Ck (MX rE L b ix v)
 |.Tuple ts _ _=>Ck (Ky rE L tg v ts)
 |_=>Ck (lX (Ct L tg v) (some (gn (rE L v) (vT 5 L tg))))
noncomputable def Pc (G:Gc)(rE:RE)(L:Lc)(tg v:Expr):FS:=match Ql G (rE L) L tg v with
 |some s=>s
 |none=>MJ G rE L tg v
noncomputable def Qo (L:Lc)(f:Expr->FE)(v:Option Expr):FS:=match v with
 |none=>b7
 |some e=>match e with
  |.Name x p=>match slot L x with
   |some i=>if L.top&&!L.lent then jc i else b7
   |none=>aR (f (.Name x p))
  |e=>aR (f e)
noncomputable def LP (L:Lc)(f:Expr->FE)(tg:Expr)(op:Operator)(v:Expr):FS:=match tg with
 |.Name x _=>match eP L x with
  |none=>b7
  |some i=>match uV op with
   |some g=>pH g i (f v)
   |none=>b7
 |.Subscript b ix _=>match b with
  |.Name j _=>match slot L j with
   |none=>b7
   |some i=>match uV op with
    |some g=>if gM ix then ku g i (f ix) (f v) else b7
    |none=>b7
  |_=>b7
 |_=>b7
noncomputable def Lq (L:Lc)(f:Expr->FE)(o:Str)(q:Pos)(m:Str)(ap:Pos)(args:List Expr)(cp:Pos):FS:=match slot L o with
 |some i=>match args with
  |[]=>if ap.endLine==cp.line then (if m = "reverse" then u7 CQ i af else if m = "pop" then u7 rV i af else b7) else b7
  |a::as=>if m = "append"&&ap.endLine==cp.line&&(a::as).all l6&&decide (as.length<20) then u7 lZ i (vA f (a::as)) else b7
 |none=>match args with
  |[]=>b7
  |a::as=>eQ (f (.Call (.Attribute (.Name o q) m ap) (a::as) [] cp))
noncomputable def OK (L:Lc)(f:Expr->FE)(fn:Expr)(args:List Expr)(kws:List Keyword)(cp:Pos):FS:=match kws with
 |_::_=>eQ (f (.Call fn args kws cp))
 |[]=>match fn with
  |.Attribute b m ap=>match b with
   |.Name o q=>Lq L f o q m ap args cp
   |b=>eQ (f (.Call (.Attribute b m ap) args [] cp))
  |fn=>eQ (f (.Call fn args [] cp))
noncomputable def O0:Expr->Bool
 |.Constant c _ _=>match c with
  |.str _=>true
  |_=>false
 |_=>false
noncomputable def Ld (L:Lc)(f:Expr->FE)(e:Expr):FS:=if O0 e then aP else match e with
 |.Call fn args kws cp=>OK L f fn args kws cp
 |e=>if FG e then b7 else eQ (f e)
noncomputable def Qh (G:Gc)(rE:RE)(rB:RB)(rS:Lc->Stmt->FS)(L:Lc):Stmt->FS
 |.Return v _=>Qo L (rE L) v
 |.If c a b _=>hZ (rB L c) (vL (rS L) a) (vL (rS L) b)
 |.For tg it body els _=>match els with
  |[]=>if KS it then jP (vI G L (rE L) false tg it) (vT 5 L tg) (vL (rS L) body) else b7
  |_::_=>b7
 |.While c body els _=>match els with
  |[]=>eT (rB L c) (vL (rS L) body)
  |_::_=>b7
 |.Assign tgs v _=>match tgs with
  |[]=>b7
  |tg::r=>match r with
   |[]=>Pc G rE L tg v
   |_::_=>b7
 |.AugAssign tg op v _=>LP L (rE L) tg op v
 |.Expr e _=>Ld L (rE L) e
 |.Pass _=>aP
 |.Break _=>P5
 |.Continue _=>Qr
 |_=>b7
noncomputable def vS (G:Gc):Nat->Lc->Stmt->FS
 |0=>λ_ _=>b7
 |n+1=>λL s=>frzs ((L.frz.lookup s.pos.line).getD []) (match G.hk.s G.toGd (AO G n).1 (AO G n).2 (vS G n) L s with
  |some f=>f
  |none=>Qh G (AO G n).1 (AO G n).2 (vS G n) L s)
noncomputable def He (P:Program)(w:World)(mg:Str->Option Value)(base:Heap)(x:Str)(p:PV):Prop:=∃u,mg x=some u/\∀(h:Heap) (bad:Addr->Prop) (H:Hp),(∀b o,base.get? b=some o->h.get? b=some o/\H b=none/\¬bad b)->D ⟨kR bad H,P,w,mg⟩ h p u
structure GOk (P:Program)(w:World)(K:PySem.W.Frag)(mg:Str->Option Value)(base:Heap)(k:Nat)(G:Gd):Prop where
 bi:∀x,G.bi.contains x=true->mg x=none
 nis:∀x i,G.nis.lookup x=some i->∃t,mg x=some (.int i t)
 tups:∀x ps,G.tups.lookup x=some ps->He P w mg base x (.ktu ps)
 vals:∀x,G.vals.contains x=true->∃a,mg x=some (.ref a)
 fns:∀x F,G.fns.lookup x=some F->∃j,j<=k/\DefN P w K mg base true j x F
 dcts:∀x kp,G.dcts.lookup x=some kp->He P w mg base x (.dct kp.1 kp.2)
 tab:∀x F,G.tab.lookup x=some F->(∃j,j<=k/\DefN P w K mg base true j x F)\/mg x=none
 lents:∀x F,G.lents.lookup x=some F->∃j,j<=k/\DefL P w K mg base true j x F
structure Ok0 (X:Cx)(k:Nat)(G:Gd)(L:Lc):Prop where
 g:GOk X.prog X.w X.K X.mg X.base k G
 r:Rm k X.A
 sc:X.env.scope=L.sc
 N:X.N=L.N
 nd:L.N.Nodup
 fk:L.sc.kind=.function
 calm:X.calm=true
 top:L.top=true->∀x,X.fn x=true
 h0:L.lent=false->L.top=true->X.H₀=λ_=>none
 blk:L.top=false->X.fn "" = false
noncomputable abbrev PT (k:Nat)(G:Gd)(rE:RE):Prop:=∀{X:Cx} {L:Lc},Ok0 X k G L->∀e,NE X e (rE L e)
noncomputable abbrev Ps (k:Nat)(G:Gd)(rB:RB):Prop:=∀{X:Cx} {L:Lc},Ok0 X k G L->∀e,NB X e (rB L e)
structure HkOk (hk:Hk):Prop where
 e:∀{X:Cx} {k:Nat} {G:Gd} {L:Lc} {rE:RE} {rB:RB},Ok0 X k G L->PT k G rE->Ps k G rB->∀e f,hk.e G rE rB L e=some f->NE X e f
 i:∀{X:Cx} {k:Nat} {G:Gd} {L:Lc} {f:Expr->FE},Ok0 X k G L->(∀e,NE X e (f e))->∀tg it g,hk.i G L f tg it=some g->NI X true tg it g
 b:∀{X:Cx} {k:Nat} {G:Gd} {L:Lc} {rE:RE} {rB:RB},Ok0 X k G L->PT k G rE->Ps k G rB->∀e f,hk.b G rE rB L e=some f->NB X e f
 s:∀{X:Cx} {k:Nat} {G:Gd} {L:Lc} {rE:RE} {rB:RB} {rS:Lc->Stmt->FS},Ok0 X k G L->PT k G rE->Ps k G rB->(∀s,NS X s (rS L s))->∀st f,hk.s G rE rB rS L st=some f->NS X st f
structure Ok (X:Cx)(k:Nat)(G:Gc)(L:Lc):Prop extends Ok0 X k G.toGd L where
 hk:HkOk G.hk
theorem eR {X:Cx}{e:Expr}{f:FE}(h:∀ρ,f ρ=none):NE X e f:=λz s r E hz q=>by rw[h] at q;cases q
theorem FH {X:Cx}{e:Expr}{f:FB}(h:∀ρ,f ρ=none):NB X e f:=λz s r E hz q=>by rw[h] at q;cases q
theorem Gq {X:Cx}{st:Bool}{e tg:Expr}{f:FI}(h:∀ρ,f ρ=none):NI X st tg e f:=λz s r E hz q=>by rw[h] at q;cases q
theorem Nf {X:Cx}{es:List Expr}:NA X es (λ_=>none):=λz pos s r E hz q=>by cases q
theorem Gv {X:Cx}{tg:Expr}:NG X tg (λ_ _=>none):=λz s p u ρ E hz d q=>by cases q
section
variable {X:Cx}{k:Nat}{G:Gc}{L:Lc}{x:Str}{i:Nat}{pos:Pos}{e:Expr}
theorem bm (h:EI x=false):(x==("__debug__" : Str))=false/\(x==("__classdict__" : Str))=false/\x≠("__name__" : Str):=by
 unfold EI at h
 simp only[Bool.or_eq_false_iff] at h
 exact⟨h.1.1,h.1.2,λz=>by have:=h.2;rw[z] at this;simp at this⟩
theorem qW {G:Gd}(o:Ok0 X k G L)(h:slot L x=some i):X.N[i]?=some x/\rX X.env.scope x/\EI x=false:=by
 unfold slot at h
 split at h
 ·next z=>
  rw[a0b,a2n] at z
  refine⟨by rw[o.N];exact xG h,?_,z.2⟩
  have z1:=z.1
  unfold Qi at z1
  unfold rX
  rw[o.sc]
  split at z1<;>first|(next q=>simp[q])|cases z1
 ·cases h
theorem jb (o:Ok X k G L)(h:slot L x=some i):X.N[i]?=some x/\rX X.env.scope x/\EI x=false:=qW o.toOk0 h
theorem nr {G:Gd}(o:Ok0 X k G L)(h:glob L x=true):Gl X x/\EI x=false:=by
 unfold glob at h
 rw[a0b,a2n,beq_iff_eq] at h
 exact⟨by show X.env.scope.names.lookup x=_;rw[o.sc];exact h.1,h.2⟩
theorem jd (o:Ok X k G L)(h:glob L x=true):Gl X x/\EI x=false:=nr o.toOk0 h
theorem iA {G:Gd}(o:Ok0 X k G L)(h:eP L x=some i):Nm X i x:=by
 unfold eP at h
 split at h
 ·next z=>
  rw[a4o,a0b,beq_iff_eq,beq_iff_eq] at z
  obtain⟨i',h,h'⟩:=a0a.mp h
  split at h'
  ·cases h'
  next hl=>
  cases h'
  refine⟨by rw[o.N];exact o.nd,by rw[o.N];exact xG h,?_,?_,λhf ⟨a,ha⟩ e=>?_⟩
  ·show X.env.scope.names.lookup x=_\/X.env.scope.names.lookup x=_
   rw[o.sc];exact z.elim .inl λz=>.inr z.2
  ·rw[o.sc];exact z.elim .inr λz=>.inl (o.top z.1 x)
  ·cases ht:L.top with
   |false=>rw[o.blk ht] at hf;cases hf
   |true=>
    cases hle:L.lent with
    |false=>exact ha (by rw[o.h0 hle ht])
    |true=>subst e;rw[hle] at hl;simp at hl
 ·cases h
theorem g6 (o:Ok X k G L)(h:eP L x=some i):Nm X i x:=iA o.toOk0 h
theorem L1 (hm:X.mg x=none)(hg:Gl X x)(hd:EI x=false):NE X (.Name x pos) (OO x):=by
 unfold OO
 have key:∀n,bootBuiltins x=some (.type n)->NE X (.Name x pos) (fC (.ty n)):=λn h=>Ny hg hm h (bm hd).2.2 (bm hd).1
 repeat' split
 ·next z=>exact key _ (by rw[z];exact CC)
 ·next z=>exact key _ (by rw[z];exact Ha)
 ·next z=>exact key _ (by rw[z];exact Cu)
 ·next z=>exact key _ (by rw[z];exact tV)
 ·next z=>exact key _ (by rw[z];exact p7)
 ·next z=>exact key _ (by rw[z];exact Hb)
 ·exact eR λ_=>rfl
theorem Gu (o:Ok X k G L):NE X (.Name x pos) (C4 G L x):=by
 unfold C4
 split
 ·next i h=>
  obtain⟨h1,h2,h3⟩:=jb o h
  exact L3 h1 h2 (bm h3).1 (bm h3).2.1
 ·split
  ·next hg=>
   obtain⟨hg,hd⟩:=jd o hg
   split
   ·next i h=>
    obtain⟨t,m⟩:=o.g.nis x i h
    exact uy hg ⟨_,m,λ_ _ _ _=>⟨t,rfl⟩⟩ (bm hd).1
   ·split
    ·next ps h=>exact uy hg (o.g.tups x ps h) (bm hd).1
    ·split
     ·next h=>
      obtain⟨a,m⟩:=o.g.vals x h
      exact uy hg ⟨_,m,λ_ _ _ _=>⟨a,m,rfl⟩⟩ (bm hd).1
     ·split
      ·next kp h=>exact uy hg (o.g.dcts x kp h) (bm hd).1
      ·split
       ·next h=>exact L1 (o.g.bi x h) hg hd
       ·exact eR λ_=>rfl
  ·exact eR λ_=>rfl
theorem Dg {f:Expr->FE}(h:∀e,NE X e (f e)):∀{es:List Expr},es.all l6=true->NA X es (LD f es)
 |[],_=>qr
 |e::es,z=>by
  rw[a1g,a0b] at z
  exact yg (h e) (Dg h z.2) (dY z.1 es X.env)
theorem lj {f:Expr->FE}(h:∀e,NE X e (f e))(es:List Expr):NA X es (vA f es):=by
 unfold vA
 split
 ·next z=>exact Dg h z
 ·exact Nf
theorem Nr (o:Ok X k G L)(hx:G.bi.contains x=true)(hgl:glob L x=true){es:List Expr}{fs:FA}{p:Pos}{alt:Bool}{n:Nat}(ha:NA X (e::es) fs)(hs:(e::es).all l6=true):NE X (.Call (.Name x p) (e::es) [] pos) (On x alt n fs):=by
 obtain⟨hg,hd⟩:=jd o hgl
 have hm:=o.g.bi x hx
 rw[a1g,a0b] at hs
 have he:=dY hs.1 es X.env
 have hp:(backTo pos (starEach es X.env)).any (·.1)=false:=iX hs.2
 obtain⟨d1,d2,d3⟩:=bm hd
 have hc:=o.calm
 have B:∀{id g},dm X (.builtin id) g->bootBuiltins x=some (.builtin id)->NE X (.Call (.Name x p) (e::es) [] pos) (fB g fs):=λc b=>II c hg hm b ha d3 d1 he hp
 have T:∀{id g},dm X (.type id) g->bootBuiltins x=some (.type id)->NE X (.Call (.Name x p) (e::es) [] pos) (fB g fs):=λc b=>NU c hg hm b ha d3 d1 he hp
 unfold On
 by_cases z:x = "len"
 ·rw[if_pos z]
  exact B Od (by rw[z];exact I2)
 rw[if_neg z];clear z
 by_cases z:x = "abs"
 ·rw[if_pos z]
  exact B Ma (by rw[z];exact KK)
 rw[if_neg z];clear z
 by_cases z:x = "all"
 ·rw[if_pos z]
  exact B (MS hc) (by rw[z];exact IH)
 rw[if_neg z];clear z
 by_cases z:x = "any"
 ·rw[if_pos z]
  exact B (M6 hc) (by rw[z];exact Lg)
 rw[if_neg z];clear z
 by_cases z:x = "isinstance"
 ·rw[if_pos z]
  exact B PO (by rw[z];exact si)
 rw[if_neg z];clear z
 by_cases z:x = "sorted"
 ·rw[if_pos z]
  split
  ·exact B F7 (by rw[z];exact tN)
  ·exact B Cs (by rw[z];exact tN)
 rw[if_neg z];clear z
 by_cases z:x = "max"
 ·rw[if_pos z]
  split
  ·exact B (Ke hc) (by rw[z];exact Ec)
  ·exact B (LV hc) (by rw[z];exact Ec)
 rw[if_neg z];clear z
 by_cases z:x = "min"
 ·rw[if_pos z]
  split
  ·exact B (Jo hc) (by rw[z];exact DV)
  ·exact B (ND hc) (by rw[z];exact DV)
 rw[if_neg z];clear z
 by_cases z:x = "sum"
 ·rw[if_pos z]
  exact B (MU hc) (by rw[z];exact JM)
 rw[if_neg z];clear z
 by_cases z:x = "int"
 ·rw[if_pos z]
  exact T NZ (by rw[z];exact CC)
 rw[if_neg z];clear z
 by_cases z:x = "tuple"
 ·rw[if_pos z]
  split
  ·exact T (Jg hc) (by rw[z];exact p7)
  ·exact T Mg (by rw[z];exact p7)
 rw[if_neg z];clear z
 by_cases z:x = "list"
 ·rw[if_pos z]
  exact T (K9 hc) (by rw[z];exact tV)
 rw[if_neg z];clear z
 by_cases z:x = "range"
 ·rw[if_pos z]
  exact T Mi (by rw[z];exact Ey)
 rw[if_neg z];clear z
 by_cases z:x = "str"
 ·rw[if_pos z]
  exact T M9 (by rw[z];exact Cu)
 rw[if_neg z];clear z
 exact eR λ_=>rfl
theorem E8 (o:Ok X k G L){f:Expr->FE}(h:∀e,NE X e (f e)){p:Pos}(args:List Expr):NE X (.Call (.Name x p) args [] pos) (Ee G L f x args pos):=by
 unfold Ee
 split
 ·next i hi=>
  obtain⟨h1,h2,h3⟩:=jb o hi
  cases args with
  |nil=>exact eR λ_=>rfl
  |cons e es=>
   show NE X _ (qt G.tab i (vA f (e::es)))
   by_cases hs:(e::es).all l6=true
   ·have ha:=lj h (e::es)
    rw[a1g,a0b] at hs
    exact Gp o.g.tab (λ_=>o.calm) o.r h1 h2 (bm h3).1 (bm h3).2.1 ha (dY hs.1 es X.env) (iX hs.2)
   ·have:vA f (e::es)=λ_=>none:=by unfold vA;rw[if_neg hs]
    rw[this];exact eR λ_=>rfl
 ·split
  ·next hgl=>
   obtain⟨hg,hd⟩:=jd o hgl
   obtain⟨d1,d2,d3⟩:=bm hd
   split
   ·next F hF=>
    obtain⟨j,hj,D⟩:=o.g.fns x F hF
    cases args with
    |nil=>exact FC D hj (λ_=>o.calm) o.r hg d1
    |cons e es=>
     show NE X _ (ao F (vA f (e::es)))
     by_cases hs:(e::es).all l6=true
     ·have ha:=lj h (e::es)
      rw[a1g,a0b] at hs
      exact Ja D hj (λ_=>o.calm) o.r hg ha d1 (dY hs.1 es X.env) (iX hs.2)
     ·have:vA f (e::es)=λ_=>none:=by unfold vA;rw[if_neg hs]
      rw[this];exact eR λ_=>rfl
   ·split
    ·next hb=>
     rw[a0b] at hb
     cases args with
     |nil=>cases hb.2
     |cons e es=>
      by_cases hs:(e::es).all l6=true
      ·exact Nr o hb.1 hgl (lj h (e::es)) hs
      ·have:vA f (e::es)=λ_=>none:=by unfold vA;rw[if_neg hs]
       rw[this]
       have nn:∀g,fB g (λ_=>none)=bO:=λ_=>rfl
       simp only[On,nn,ite_self]
       exact eR λ_=>rfl
    ·exact eR λ_=>rfl
  ·exact eR λ_=>rfl
theorem ue {env:Env}:∀{es:List Expr},es.all l6=true->(assignEach es env).length=es.length/\(assignEach es env).findIdx? (·.1)=none/\∀e r,es=e::r->(assignEach es env).map (·.2)=assign e env::(assignEach r env).map (·.2)
 |[],_=>⟨rfl,rfl,λ_ _ h=>by cases h⟩
 |e::r,h=>by
  rw[a1g,a0b] at h
  have he:assignEach (e::r) env=(false,assign e env)::assignEach r env:=by
   have:=h.1
   cases e<;>first|rfl|(cases this)
  obtain⟨h1,h2,_⟩:=ue (env:=env) h.2
  rw[he]
  refine⟨by rw[a0o,a0o,h1],?_,λ_ _ q=>by cases q;rfl⟩
  rw[List.findIdx?_cons,h2];rfl
theorem DH {f:Expr->FT}(h:∀e,NG X e (f e)):∀{es:List Expr},es.all l6=true->Of X es (OI f es)
 |[],_=>Qx
 |e::r,z=>by
  have:=(ue (env:=X.env) z).2.2 e r rfl
  rw[a1g,a0b] at z
  exact Qy (h e) (DH h z.2) this
theorem wT:∀(n:Nat) {L:Lc} {X:Cx},Ok X k G L->∀e,NG X e (vT n L e)
 |0,_,_,_,e=>by cases e<;>exact Gv
 |n+1,L,X,o,e=>by
  cases e<;>first|exact Gv|skip
  ·rename_i x p
   unfold vT
   cases h:eP L x with
   |some i=>exact Pn (g6 o h)
   |none=>exact Gv
  ·rename_i es kk p
   unfold vT
   split
   ·next z=>
    obtain⟨h1,h2,_⟩:=ue (env:=X.env) z
    exact QF o.calm (DH (wT n o) z) h1 h2
   ·exact Gv
theorem yS {fm:List (Option Nat)}:FK fm (λ_ _=>none):=λ_ _ _ e=>by cases e
theorem BP {fm:List (Option Nat)}{f:Expr->FT}:∀{es:List Expr},(∀e∈es,FK fm (f e))->MV fm (OI f es)
 |[],_=>Pi
 |e::r,h=>PK (h e a0e) (BP λe he=>h e (a0c _ he))
theorem Hh {fm:List (Option Nat)}:∀(n:Nat) (L:Lc) (e:Expr),(∀i∈Nt n L e,fm[i]?=some none)->FK fm (vT n L e)
 |0,L,e,_=>by cases e<;>exact yS
 |n+1,L,e,h=>by
  cases e<;>first|exact yS|skip
  ·unfold vT
   unfold Nt at h
   cases hs:eP L _ with
   |some i=>exact Pq (h i (by rw[hs];simp))
   |none=>exact yS
  ·rename_i es kk p
   unfold vT
   split
   ·refine Pw (BP λe he=>Hh n L e λi hi=>h i ?_)
    unfold Nt
    exact a4x.mpr ⟨e,he,hi⟩
   ·exact yS
theorem ub {G:Gc}{L:Lc}{x:Str}(h:EF G L x=true):x = "range"/\glob L "range" = true/\G.bi.contains "range" = true:=by
 unfold EF at h
 rw[a0b,a0b,decide_eq_true_eq] at h
 exact⟨h.1.1,h.1.2,h.2⟩
theorem HY (o:Ok X k G L){f:Expr->FE}(h:∀e,NE X e (f e))(tg it:Expr):NI X true tg it (vI G L f false tg it):=by
 have no:∀{es:List Expr},¬es.all l6=true->vA f es=λ_=>none:=λ{es} hs=>by unfold vA;rw[if_neg hs]
 unfold vI
 rw[if_neg a0y]
 cases hh:G.hk.i G.toGd L f tg it with
 |some g=>exact o.hk.i o.toOk0 h tg it g hh
 |none=>
 cases hv:PY G L f tg it with
 |none=>exact Ni (h _)
 |some g=>
 show NI X true tg it g
 replace hv:=a0a.mp hv;obtain⟨⟨fn,as,p'⟩,e,hv⟩:=hv
 cases lE e
 replace hv:=a0a.mp hv;obtain⟨⟨x,p⟩,e,hv⟩:=hv
 cases cV e
 replace hv:=jD hv;rcases hv with hv|hv
 ·replace hv:=a0a.mp hv;obtain⟨a,e,hv⟩:=hv
  cases jR e
  replace hv:=jD hv;rcases hv with hv|hv
  ·replace hv:=bq hv;obtain⟨z,hv⟩:=hv
   cases hv
   obtain⟨q,z2,z3⟩:=ub z
   cases q
   obtain⟨hg,hd⟩:=jd o z2
   by_cases hs:[a].all l6=true
   ·exact IU hg (o.g.bi _ z3) (lj h [a]) (by
     rw[a1g,a0b] at hs
     exact dY hs.1 [] X.env)
   ·rw[no hs];exact Gq λ_=>rfl
  ·replace hv:=bq hv;obtain⟨z,hv⟩:=hv
   cases hv
   rw[a0b,a0b,a0b,decide_eq_true_eq] at z
   obtain⟨⟨⟨q,z2⟩,z3⟩,z4⟩:=z
   cases q
   obtain⟨hg,hd⟩:=jd o z2
   obtain⟨elts,kk,tp,rfl⟩:∃elts kk tp,tg=.Tuple elts kk tp:=by
    cases tg<;>first|exact⟨_,_,_,rfl⟩|(cases z4)
   by_cases hs:[a].all l6=true
   ·exact Kv hg (o.g.bi _ z3) (lj h [a]) (by
     rw[a1g,a0b] at hs
     exact dY hs.1 [] X.env)
   ·rw[no hs];exact Gq λ_=>rfl
 ·replace hv:=jD hv;rcases hv with hv|hv
  ·replace hv:=a0a.mp hv;obtain⟨⟨a,b⟩,e,hv⟩:=hv
   cases oX e
   replace hv:=bq hv;obtain⟨z,hv⟩:=hv
   cases hv
   obtain⟨q,z2,z3⟩:=ub z
   cases q
   obtain⟨hg,hd⟩:=jd o z2
   show NI X true tg _ (k5 A7 (vA f [a,b]))
   by_cases hs:[a,b].all l6=true
   ·have hs':=hs
    rw[a1g,a1g,a0b,a0b] at hs'
    have e1:starEach [b] X.env=[(false,eval b X.env)]:=dY hs'.2.1 [] X.env
    exact J8 hg (o.g.bi _ z3) (lj h [a,b]) (by rw[dY hs'.1 [b] X.env,e1]) e1
   ·rw[no hs];exact Gq λ_=>rfl
  ·replace hv:=a0a.mp hv;obtain⟨⟨a,b,d⟩,e,hv⟩:=hv
   cases MG e
   replace hv:=bq hv;obtain⟨z,hv⟩:=hv
   cases hv
   obtain⟨q,z2,z3⟩:=ub z
   cases q
   obtain⟨hg,hd⟩:=jd o z2
   show NI X true tg _ (k5 Fj (vA f [a,b,d]))
   by_cases hs:[a,b,d].all l6=true
   ·have hs':=hs
    rw[a1g,a1g,a1g,a0b,a0b,a0b] at hs'
    have e2:starEach [d] X.env=[(false,eval d X.env)]:=dY hs'.2.2.1 [] X.env
    have e1:starEach [b,d] X.env=[(false,eval b X.env),(false,eval d X.env)]:=by rw[dY hs'.2.1 [d] X.env,e2]
    exact Ll hg (o.g.bi _ z3) (lj h [a,b,d]) (by rw[dY hs'.1 [b,d] X.env,e1]) e1
   ·rw[no hs];exact Gq λ_=>rfl
theorem xt (o:Ok X k G L){sc:Scope}{tg:Expr}{N2:List Str}(hk:sc.kind=.function)(hn:N2.Nodup){C:Addr}{s:Shared}{H:Hp}{ex:List Addr}:Ok (X.blk sc N2 C s H ex) k G (NR L sc tg N2) where
 hk:=o.hk
 g:=o.g
 r:=o.r
 sc:=by
  show relabel sc X.env=D9 sc L.sc
  unfold relabel D9
  rw[show X.env.kindOf=λx=>L.sc.names.lookup x by funext x;show X.env.scope.names.lookup x=_;rw[o.sc],o.sc]
 N:=rfl
 nd:=hn
 fk:=hk
 calm:=o.calm
 top:=λh=>by cases h
 h0:=λ_ h=>by cases h
 blk:=λ_=>rfl
structure CpOk (X:Cx)(elt tg it:Expr)(ifs:List Expr)(sc:Scope)(f:FE):Prop where
 ex:(∀ρ,f ρ=none)\/∃(N2:List Str) (fm:List (Option Nat)) (fi:FI) (t:FT) (c:FB) (fe:FE),f=dL fm fi t c fe/\Blk X sc N2 fm/\NI X false tg it fi ∧
  (∀C s H ex,NG (X.blk sc N2 C s H ex) tg t)/\FK fm t/\(∀C s H ex,Ly (X.blk sc N2 C s H ex) ifs c)/\(∀C s H ex,NE (X.blk sc N2 C s H ex) elt fe)/\∀x,foldedSetIterable it X.env x=pure x
theorem H9 (o:Ok X k G L){rE:RE}{rB:RB}(hE:∀{X:Cx} {L:Lc},Ok X k G L->∀e,NE X e (rE L e))(hB:∀{X:Cx} {L:Lc},Ok X k G L->∀e,NB X e (rB L e))(elt tg it:Expr)(ifs:List Expr)(sc:Scope)(p:Pos) :
  CpOk X elt tg it ifs sc (OA G rE rB L elt tg it ifs sc p):=by
 unfold OA
 split
 ·exact⟨.inl λ_=>rfl⟩
 ·next N2 _=>
  split
  ·next z=>
   unfold Qc at z
   rw[a0b,a0b,a0b,decide_eq_true_eq] at z
   obtain⟨⟨⟨z1,z2⟩,z3⟩,z4⟩:=z
   have hk:sc.kind=.function:=by
    unfold uK at z1
    simp only[a0b,beq_iff_eq] at z1
    exact z1.1.1.1.1.1
   refine⟨.inr ⟨N2,Ou L tg N2,_,_,_,_,rfl,⟨Js ?_,z2⟩,?_,λC s H ex=>wT 5 (xt o hk z2) tg,Hh 5 _ tg λi hi=>?_,λC s H ex=>?_,λC s H ex=>hE (xt o hk z2) elt,λx=>?_⟩⟩
   ·rw[show X.env.kindOf=λx=>L.sc.names.lookup x by funext x;show X.env.scope.names.lookup x=_;rw[o.sc],o.N]
    exact z1
   ·cases ho:Ih L it with
    |true=>unfold vI;rw[if_pos rfl];exact Jv (hE o it)
    |false=>exact (HY o (hE o) tg it).any
   ·exact by simpa using a4b.mp z3 i hi
   ·have ob:=xt o (tg:=tg) hk z2 (C:=C) (s:=s) (H:=H) (ex:=ex)
    cases ifs with
    |nil=>exact Jy
    |cons c r=>cases r with
     |nil=>exact Jj (hB ob c)
     |cons=>exact λz s b E hz q=>by cases q
   ·cases it<;>first|rfl|(cases z4)
  ·exact⟨.inl λ_=>rfl⟩
theorem CpOk.ne {elt tg it:Expr}{ifs:List Expr}{sc:Scope}{p:Pos}{f:FE}(o:Ok X k G L)(h:CpOk X elt tg it ifs sc f):NE X (.ListComp elt [⟨tg,it,ifs,0⟩] sc p) f:=by
 rcases h.ex with h|⟨N2,fm,fi,t,c,fe,rfl,h1,h2,h3,h4,h5,h6,h7⟩
 ·exact eR h
 ·exact Lh h1 o.calm h2 h3 h4 h5 h6 h7
end
section
variable {X:Cx}{k:Nat}{G:Gc}{L:Lc}{x:Str}{i:Nat}{pos:Pos}{e:Expr}
theorem rz {cp:Pos}{env:Env}:∀{es:List Expr},es.all l6=true->((backTo cp (starEach es env)).all λx=>!x.fst)=true
 |[],_=>rfl
 |e::es,h=>by
  rw[a1g,a0b] at h
  rw[dY h.1]
  exact rz (es:=es) h.2
theorem Ko {d m:Str}{q ap cp:Pos}{es:List Expr}(hl:(ap.endLine==cp.line)=true)(hs:es.all l6=true)(hn:es.length<21):Mc X (.Name d q) m ap cp es:=by
 refine⟨rfl,hl,?_,λe r he=>?_⟩
 ·rw[rz hs]
  show (true&&true&&decide _)=true
  rw[a5o,a3l,decide_eq_true_eq]
  simp only[a2o,a4f,if_true]
  omega
 ·subst he
  rw[a1g,a0b] at hs
  exact⟨dY hs.1 r X.env,iX hs.2⟩
theorem qZ {b:Expr}(h:gM b=true):Ae b:=by
 cases b<;>first|(exact λ_ _=>rfl)|skip
 rename_i lo hi st p
 cases st with
 |none=>cases h
 |some s=>exact λ_ _=>rfl
theorem sJ {env:Env}(h:C6 e=true):∀whole,PySem.isTrue e env whole=(do let v ←whole;standAt e.pos;holding [v] (truthy v)):=by
 cases e<;>first|(exact λ_=>rfl)|(cases h;done)|skip
 rename_i op a p
 cases op<;>first|(exact λ_=>rfl)|(cases h;done)
theorem tB {f:Expr->FE}(h:∀e,NE X e (f e)):∀o,NO X o (vO f o)
 |none=>E1
 |some e=>FY (h e)
theorem NP {f:Expr->FB}(h:∀e,NB X e (f e))(op:BoolOp):∀(vs:List Expr),vs≠[]->NW X (.BoolOp op vs pos) (vW f op vs)
 |[],z=>(z rfl).elim
 |[a],_=>by cases op;exact Jn (h a);exact NT (h a)
 |a::b::r,_=>by
  have ih:=NP h op (b::r) (by simp)
  cases op
  ·exact Nc (h a) ih
  ·exact Pd (h a) ih
theorem QN {op:BoolOp}{vs:List Expr}{f:FB}(h:NW X (.BoolOp op vs pos) f):NB X (.BoolOp op vs pos) f:=λz s b E hz q=>h z _ s b E hz q
theorem Kt {c:Const}{kd:Nat}:NE X (.Constant c kd pos) (Qt c):=by
 cases c<;>first|exact n_int|exact OY|exact MF|exact n_str|exact eR λ_=>rfl
theorem F3 {s:Expr}(h:Lb s=true):∃p1 k p2,s=.UnaryOp .USub (.Constant (.int 1) k p1) p2:=by
 cases s<;>first|(cases h;done)|skip
 rename_i op a p
 cases op<;>first|(cases h;done)|skip
 cases a<;>first|(cases h;done)|skip
 rename_i c k p1
 cases c<;>first|(cases h;done)|skip
 rename_i i
 have:i=1:=of_decide_eq_true h
 subst this
 exact⟨_,_,_,rfl⟩
section
variable {f:Expr->FE}(hf:∀e,NE X e (f e))
include hf
theorem Kb {op:UnaryOp}{a:Expr}:NE X (.UnaryOp op a pos) (Qp op (f a)):=by
 cases op<;>first|exact Hz (hf _)|exact L5 (hf _)|exact eR λ_=>rfl
theorem Jb (o:Ok X k G L){a:Expr}{ops:List CmpOp}{bs:List Expr}:NE X (.Compare a ops bs pos) (Qb f a ops bs):=by
 have hu:=o.r.units
 cases ops with
 |nil=>exact eR λ_=>rfl
 |cons o1 ops=>cases bs with
  |nil=>exact eR λ_=>rfl
  |cons b bs=>cases ops with
   |nil=>cases bs with
    |nil=>
     show NE X _ (if behindInMarks o1 b then bO else ak (sd o1) (f a) (f b))
     split
     ·exact eR λ_=>rfl
     ·next z=>exact Nh (sV hu _) (hf _) (hf _) (by simpa using z)
    |cons=>exact eR λ_=>rfl
   |cons o2 ops=>cases ops with
    |cons=>exact eR λ_=>rfl
    |nil=>cases bs with
     |nil=>exact eR λ_=>rfl
     |cons c bs=>cases bs with
      |cons=>exact eR λ_=>rfl
      |nil=>
       show NE X _ (if lastMarks [o1,o2] [b,c] then bO else EJ (sd o1) (sd o2) (f a) (f b) (f c))
       split
       ·exact eR λ_=>rfl
       ·next z=>exact OW (sV hu _) (sV hu _) (hf _) (hf _) (hf _) (by simpa using z)
theorem K3 {op:BoolOp}{vs:List Expr}:NE X (.BoolOp op vs pos) (PX f op vs pos):=by
 cases vs with
 |nil=>exact eR λ_=>rfl
 |cons a r=>cases r with
  |nil=>exact Ms (hf _)
  |cons b r=>cases op with
   |And=>exact LU (hf _) (hf _)
   |Or=>exact ON (hf _) (hf _)
theorem Kd {a ix:Expr}:NE X (.Subscript a ix pos) (P1 L f a ix pos):=by
 have other:∀b:Expr,gM b=true->NE X (.Subscript a b pos) (if xI L pos then ak E3 (f a) (f b) else ak bo (f a) (f b)):=λb z=>by
  split
  ·exact M2 Dh (hf _) (hf _) (qZ z)
  ·exact M2 Le (hf _) (hf _) (qZ z)
 cases ix<;>first|exact other _ rfl|skip
 rename_i lo hi st p
 cases st with
 |none=>
  show NE X _ (if xI L pos then nc (f a) (vO f lo) (vO f hi) else GN (f a) (vO f lo) (vO f hi))
  split
  ·exact Jl Ic (hf _) (tB hf _) (tB hf _)
  ·exact Jl PH (hf _) (tB hf _) (tB hf _)
 |some s=>
  show NE X _ (if Lb s&&lo.isNone&&hi.isNone then Ce (f a) else bO)
  split
  ·next z=>
   rw[a0b,a0b] at z
   obtain⟨⟨z1,z2⟩,z3⟩:=z
   obtain⟨p1,kk,p2,rfl⟩:=F3 z1
   cases lo with
   |some=>cases z2
   |none=>cases hi with
    |some=>cases z3
    |none=>exact LN (hf _) (.inr (Hz n_int))
  ·exact eR λ_=>rfl
theorem JE {d m:Str}{q ap:Pos}{args:List Expr}:NE X (.Call (.Attribute (.Name d q) m ap) args [] pos) (P3 G L f d q m ap args pos):=by
 cases args with
 |nil=>
  show NE X _ (if m = "bit_length"&&ap.endLine==pos.line then CA (f (.Name d q)) else bO)
  split
  ·next z=>
   rw[a0b,decide_eq_true_eq] at z
   obtain⟨rfl,z2⟩:=z
   exact IZ (hf _) z2
  ·exact eR λ_=>rfl
 |cons a r=>
  show NE X _ (if m = "get"&&ap.endLine==pos.line&&(a::r).all l6&&decide (r.length<20) then qH k6 (f (.Name d q)) (vA f (a::r)) else bO)
  split
  ·next z=>
   rw[a0b,a0b,a0b,decide_eq_true_eq,decide_eq_true_eq] at z
   obtain⟨⟨⟨rfl,z1⟩,z2⟩,z3⟩:=z
   exact Iv HJ (Ko z1 z2 (by rw[a0o];omega)) (hf _) (lj hf _) (λe=>by cases e)
  ·exact eR λ_=>rfl
theorem FJ (o:Ok X k G L){fn:Expr}{args:List Expr}{kws:List Keyword}:NE X (.Call fn args kws pos) (NH G L f fn args kws pos):=by
 cases kws with
 |cons=>exact eR λ_=>rfl
 |nil=>
  cases fn<;>first|exact eR λ_=>rfl|exact E8 o hf _|skip
  rename_i ob m ap
  cases ob<;>first|exact eR λ_=>rfl|exact JE (G:=G) (L:=L) hf
end
theorem BO (o:Ok X k G L){rE:RE}{rB:RB}(hE:∀{X:Cx} {L:Lc},Ok X k G L->∀e,NE X e (rE L e))(hB:∀{X:Cx} {L:Lc},Ok X k G L->∀e,NB X e (rB L e))(e:Expr):NE X e (OU G rE rB L e):=by
 cases e with
 |Constant c kd p=>exact Kt
 |Name x p=>exact Gu o
 |BinOp a op b p=>exact Ph (Pa op) (hE o _) (hE o _)
 |UnaryOp op a p=>exact Kb (hE o)
 |Compare a ops bs p=>exact Jb (hE o) o
 |BoolOp op vs p=>exact K3 (hE o)
 |IfExp c a b p=>exact Pl (hB o _) (hE o _) (hE o _)
 |Tuple es kk p=>exact MR (lj (hE o) _)
 |List es p=>exact N8 (lj (hE o) _)
 |ListComp elt gs sc p=>
  cases gs with
  |nil=>exact eR λ_=>rfl
  |cons g gs=>cases gs with
   |cons=>exact eR λ_=>rfl
   |nil=>
    obtain⟨tg,it,ifs,n⟩:=g
    show NE X _ (if n=0 then OA G rE rB L elt tg it ifs sc p else bO)
    split
    ·next z=>subst z;exact (H9 o hE hB _ _ _ _ _ _).ne o
    ·exact eR λ_=>rfl
 |Subscript a ix p=>exact Kd (hE o)
 |Call fn args kws p=>exact FJ (hE o) o
 |_=>exact eR λ_=>rfl
theorem JP (o:Ok X k G L){rE:RE}{rB:RB}(hE:∀{X:Cx} {L:Lc},Ok X k G L->∀e,NE X e (rE L e))(hB:∀{X:Cx} {L:Lc},Ok X k G L->∀e,NB X e (rB L e))(e:Expr):NB X e (PC rE rB L e):=by
 have hu:=o.r.units
 cases e with
 |Compare a ops bs p=>
  show NB X _ (match Kg (rE L) a ops bs with
   |some g=>g
   |none=>λ_=>none)
  cases h:Kg (rE L) a ops bs with
  |none=>exact FH λ_=>rfl
  |some g=>
   show NB X _ g
   replace h:=jD h;rcases h with h|h
   ·replace h:=a0a.mp h;obtain⟨op,e,h⟩:=h
    cases jR e
    replace h:=a0a.mp h;obtain⟨b,e,h⟩:=h
    cases jR e
    replace h:=bq h;obtain⟨z,h⟩:=h
    cases h
    exact Nq (sV hu _) (hE o _) (hE o _) (by simpa using z)
   ·replace h:=a0a.mp h;obtain⟨⟨o1,o2⟩,e,h⟩:=h
    cases oX e
    replace h:=a0a.mp h;obtain⟨⟨b,c⟩,e,h⟩:=h
    cases oX e
    replace h:=bq h;obtain⟨z,h⟩:=h
    cases h
    exact Py (sV hu _) (sV hu _) (hE o _) (hE o _) (hE o _) (by simpa using z)
 |BoolOp op vs p=>
  show NB X _ (vW (rB L) op vs)
  cases vs with
  |nil=>exact FH λ_=>rfl
  |cons a r=>exact QN (NP (hB o) op (a::r) (by simp))
 |UnaryOp op a p=>
  show NB X _ (if Hs op then e8 (rB L a) else fT (rE L (.UnaryOp op a p)))
  cases op<;>first|exact Mk (hB o _)|exact Ig (hE o _) (sJ rfl)
 |_=>first
  |exact Ig (hE o _) (sJ rfl)
  |exact FH λ_=>rfl
end
theorem Jm {X:Cx}{k:Nat}{G:Gc}{L:Lc}(o:Ok X k G L){rE:RE}{rB:RB}(hE:∀{X:Cx} {L:Lc},Ok X k G L->∀e,NE X e (rE L e))(hB:∀{X:Cx} {L:Lc},Ok X k G L->∀e,NB X e (rB L e))(e:Expr):NE X e (PJ G rE rB L e):=by
 unfold PJ
 split
 ·exact BO o hE hB _
 ·split
  ·next f hf=>exact o.hk.e o.toOk0 (λo'=>hE ⟨o',o.hk⟩) (λo'=>hB ⟨o',o.hk⟩) _ f hf
  ·exact BO o hE hB _
theorem GB {X:Cx}{k:Nat}{G:Gc}{L:Lc}(o:Ok X k G L){rE:RE}{rB:RB}(hE:∀{X:Cx} {L:Lc},Ok X k G L->∀e,NE X e (rE L e))(hB:∀{X:Cx} {L:Lc},Ok X k G L->∀e,NB X e (rB L e))(e:Expr):NB X e (match G.hk.b G.toGd rE rB L e with
  |some f=>f
  |none=>PC rE rB L e):=by
 split
 ·next f hf=>exact o.hk.b o.toOk0 (λo'=>hE ⟨o',o.hk⟩) (λo'=>hB ⟨o',o.hk⟩) _ f hf
 ·exact JP o hE hB _
theorem mD {k:Nat}{G:Gc}:∀n:Nat,(∀{X:Cx} {L:Lc},Ok X k G L->∀e,NE X e ((AO G n).1 L e))/\∀{X:Cx} {L:Lc},Ok X k G L->∀e,NB X e ((AO G n).2 L e)
 |0=>⟨λ_ _=>eR λ_=>rfl,λ_ _=>FH λ_=>rfl⟩
 |n+1=>⟨λo e=>Jm o (mD n).1 (mD n).2 e,λo e=>GB o (mD n).1 (mD n).2 e⟩
noncomputable abbrev HE (k:Nat)(G:Gc)(rE:RE):Prop:=∀{X:Cx} {L:Lc},Ok X k G L->∀e,NE X e (rE L e)
noncomputable abbrev HB (k:Nat)(G:Gc)(rB:RB):Prop:=∀{X:Cx} {L:Lc},Ok X k G L->∀e,NB X e (rB L e)
noncomputable abbrev HC (k:Nat)(G:Gc)(rE:RE):Prop:=∀{X:Cx} {L:Lc},Ok X k G L->∀elt tg it ifs sc p,CpOk X elt tg it ifs sc (rE L (.ListComp elt [⟨tg,it,ifs,0⟩] sc p))
theorem Mf {k:Nat}{G:Gc}:∀n,HC k G (AO G n).1
 |0=>λ_ _ _ _ _ _ _=>⟨.inl λ_=>rfl⟩
 |n+1=>λo _ _ _ _ _ _=>H9 o (mD n).1 (mD n).2 _ _ _ _ _ _
section
variable {X:Cx}{k:Nat}{G:Gc}{L:Lc}{x:Str}{i:Nat}{pos:Pos}{e v tg:Expr}
theorem BC {st:Stmt}{s:FS}(h:∀ρ,s ρ=.bad):NS X st s:=λz s' E hz hb=>absurd (h _) hb
theorem Ok0.bk {G:Gd}(o:Ok0 X k G L):X.env.blockKind=.function:=by
 unfold Env.blockKind
 rw[o.sc,o.fk];rfl
theorem IV {G:Gd}(o:Ok0 X k G L){t:Str}{p:Pos}{ln:Nat}:swapsWith v (some (.Name t p)) ln X.env=pure (HG L v t p):=by
 have hk:X.env.kindOf t=L.sc.names.lookup t:=by show X.env.scope.names.lookup t=_;rw[o.sc]
 cases v<;>first|rfl|skip
 all_goals
  simp only[swapsWith,HG,o.bk,hk,o.fk]
  rfl
theorem HM (o:Ok X k G L){t:Str}{p:Pos}{ln:Nat}:swapsWith v (some (.Name t p)) ln X.env=pure (HG L v t p):=IV o.toOk0
theorem Eb {ts:List Expr}{kk:Nat}{p:Pos}{ln:Nat}:swapsWithSole [.Tuple ts kk p] v ln X.env=pure false:=by cases v<;>rfl
theorem K5 {a b:Expr}{p:Pos}{ln:Nat}:swapsWithSole [.Subscript a b p] v ln X.env=pure false:=by cases v<;>rfl
theorem Fz {ln:Nat}(h:FG v=false):swapsWith v none ln X.env=pure false:=by
 cases v<;>first|rfl|(cases h)
theorem yY {G:Gd}(o:Ok0 X k G L){ts vs:List Expr}{k1 k2:Nat}{p1 p2:Pos}{r:Option (List Str)}(h:EK L ts vs=some r):swappedStores [.Tuple ts k1 p1] (.Tuple vs k2 p2) X.env=pure r:=by
 have hk:X.env.kindOf=λx=>L.sc.names.lookup x:=by funext t;show X.env.scope.names.lookup t=_;rw[o.sc]
 unfold EK at h
 unfold swappedStores
 dsimp only
 rw[o.bk,hk]
 rw[o.fk] at h
 split at h
 ·next z=>cases h;exact if_pos z
 ·next z=>
  refine (if_neg z).trans ?_
  split at h
  ·next z=>cases h;exact if_pos z
  ·next z=>
   refine (if_neg z).trans ?_
   dsimp only at h
   split at h
   ·next z=>cases h;exact if_pos z
   ·next z=>
    refine (if_neg z).trans ?_
    split at h
    ·next z=>cases h;exact if_pos z
    ·next z=>
     refine (if_neg z).trans ?_
     split at h
     ·cases h
     ·next z=>cases h;exact (if_neg z).trans rfl
theorem xK (o:Ok X k G L){ts vs:List Expr}{k1 k2:Nat}{p1 p2:Pos}{r:Option (List Str)}(h:EK L ts vs=some r):swappedStores [.Tuple ts k1 p1] (.Tuple vs k2 p2) X.env=pure r:=yY o.toOk0 h
theorem yy {ts:List Expr}{k1:Nat}{p1:Pos}(h:At v=false):swappedStores [.Tuple ts k1 p1] v X.env=pure none:=by
 cases v<;>first|rfl|(cases h)
theorem Al {a ix:Expr}{p:Pos}(h:gM ix=true):∀v,assign (.Subscript a ix p) X.env v=(do
  let ov ←holding [v] (eval a X.env)
  let iv ←holding [v,ov] (eval ix X.env)
  standAt p
  holding [v,ov,iv] (setItem ov iv v)
  release [v,ov,iv] []):=by
 cases ix<;>first|(exact λ_=>rfl)|skip
 rename_i lo hi st p
 cases st with
 |none=>cases h
 |some s=>exact λ_=>rfl
theorem EQ {ix:Expr}(h:gM ix=true):∀ov iv new,augStore ix ov iv new=(do holding [new,ov,iv] (setItem ov iv new);release [new,ov,iv] [];pure .next):=by
 cases ix<;>first|(exact λ_ _ _=>rfl)|skip
 rename_i lo hi st p
 cases st with
 |none=>cases h
 |some s=>exact λ_ _ _=>rfl
theorem OJ (o:Ok X k G L){f:FE}{p:Pos}{own:Bool}(hi:eP L x=some i)(h:NE X v f)(hs:HG L v x p=false):NS X (.Assign [.Name x p] v pos) (if own=true then ic i f else aI i f):=by
 have hs:=(HM (v:=v) o (t:=x) (p:=p) (ln:=pos.line)).trans (by rw[hs])
 split
 ·exact LQ (g6 o hi) h hs
 ·exact MD (g6 o hi) h hs
theorem Af {fm:List (Option Nat)}{fi:FI}{t:FT}{c:FB}{fe:FE}{ρ:aq}:dL fm fi t c fe ρ=none\/∃ps,dL fm fi t c fe ρ=some (.nw ps):=by
 unfold dL
 cases fi ρ with
 |none=>exact .inl rfl
 |some its=>
  show (if its.length<1000 then _ else _)=none\/∃ps,(if its.length<1000 then _ else _)=_
  split
  ·cases pP t c fe (iW fm ρ) its with
   |none=>exact .inl rfl
   |some ps=>exact .inr ⟨ps,rfl⟩
  ·exact .inl rfl
theorem O5 (o:Ok X k G L){f:FE}{p:Pos}{own:Bool}{elt t it:Expr}{ifs:List Expr}{sc:Scope}{vp:Pos}(hi:eP L x=some i)(hc:CpOk X elt t it ifs sc f)(hs:HG L (.ListComp elt [⟨t,it,ifs,0⟩] sc vp) x p=true) :
  NS X (.Assign [.Name x p] (.ListComp elt [⟨t,it,ifs,0⟩] sc vp) pos) (if own=true then ic i f else aI i f):=by
 have n:=g6 o hi
 have hsw:=(HM (v:=.ListComp elt [⟨t,it,ifs,0⟩] sc vp) o (t:=x) (p:=p) (ln:=pos.line)).trans (by rw[hs])
 rcases hc.ex with h|⟨N2,fm,fi,t',c,fe,rfl,h1,h2,h3,h4,h5,h6,h7⟩
 ·split
  ·exact BC λρ=>by unfold ic;rw[h];rfl
  ·exact BC λρ=>by unfold aI;rw[h];rfl
 ·split
  ·have:=B0 (px:=p) h1 o.calm h2 h3 h4 h5 h6 (Lk n) hsw h7
   rw[show ic i (dL fm fi t' c fe)=AW (dL fm fi t' c fe) (Oc i) by
    funext ρ;unfold ic AW
    rcases Af (fm:=fm) (fi:=fi) (t:=t') (c:=c) (fe:=fe) (ρ:=ρ) with e|⟨ps,e⟩<;>rw[e]<;>rfl]
   exact this
  ·have:=B0 (px:=p) h1 o.calm h2 h3 h4 h5 h6 (Ji n) hsw h7
   rw[show aI i (dL fm fi t' c fe)=AW (dL fm fi t' c fe) (N1 i) by
    funext ρ;unfold aI AW
    rcases Af (fm:=fm) (fi:=fi) (t:=t') (c:=c) (fe:=fe) (ρ:=ρ) with e|⟨ps,e⟩<;>rw[e]<;>rfl]
   exact this
theorem AA (o:Ok X k G L){d m:Str}{q ap cp:Pos}{es:List Expr}(hi:slot L d=some i)(hl:(ap.endLine==cp.line)=true)(hs:es.all l6=true)(hn:es.length<21):McN X i d m q ap cp es:=by
 obtain⟨h1,h2,h3⟩:=jb o hi
 refine⟨h1,h2,(bm h3).1,(bm h3).2.1,rfl,hl,?_,λe r he=>?_⟩
 ·rw[rz hs]
  show (true&&true&&decide _)=true
  rw[a5o,a3l,decide_eq_true_eq]
  simp only[a2o,a4f,if_true]
  omega
 ·subst he
  rw[a1g,a0b] at hs
  exact⟨dY hs.1 r X.env,iX hs.2⟩
theorem KH (o:Ok X k G L){y:Nat}{p:Pos}{s:FS}(hi:eP L x=some y)(h:OM L y v=some s):NS X (.Assign [.Name x p] v pos) s:=by
 replace h:=a0a.mp h;obtain⟨⟨fn,as,cp⟩,e,h⟩:=h
 cases lE e
 replace h:=a0a.mp h;obtain⟨_,e,h⟩:=h
 obtain⟨q,_⟩:=sT e
 cases q
 replace h:=a0a.mp h;obtain⟨⟨ob,m,ap⟩,e,h⟩:=h
 cases u6 e
 replace h:=a0a.mp h;obtain⟨⟨d,q⟩,e,h⟩:=h
 cases cV e
 replace h:=a0a.mp h;obtain⟨i,hd,h⟩:=h
 replace h:=bq h;obtain⟨z,h⟩:=h
 rw[a0b,decide_eq_true_eq] at z
 obtain⟨q,z⟩:=z
 cases q;cases h
 exact HV BA (AA o hd z rfl (by decide)) (g6 o hi) qr (λ_=>rfl) rfl
theorem IY (o:Ok X k G L){f:FE}{ts:List Expr}{kk:Nat}{p:Pos}(h:NE X v f)(hw:swappedStores [.Tuple ts kk p] v X.env=pure none):NS X (.Assign [.Tuple ts kk p] v pos) (gn f (vT 5 L (.Tuple ts kk p))):=
 MM h (wT 5 o (.Tuple ts kk p)) Eb hw rfl
theorem E7 (h:Fy v=true):∃elt t it ifs sc p,v=.ListComp elt [⟨t,it,ifs,0⟩] sc p:=by
 unfold Fy at h
 cases e:OE v with
 |none=>rw[e] at h;exact nomatch h
 |some c=>
  obtain⟨x,⟨t,it,ifs,n⟩,sc,p⟩:=c
  rw[e] at h
  have h:n=0:=of_decide_eq_true h
  rw[h] at e
  exact⟨_,_,_,_,_,_,I3 e⟩
theorem uD {st:Stmt}{a:Option FS}(h:∀s,a=some s->NS X st s):NS X st (Ck a):=by
 cases a with
 |none=>exact c4
 |some s=>exact h s rfl
theorem za (o:Ok X k G L){f:FE}(hf:NE X v f){tg:Expr}(z:Ct L tg v=true):NS X (.Assign [tg] v pos) (gn f (vT 5 L tg)):=by
 unfold Ct at z
 cases e1:E5 tg with
 |none=>rw[e1] at z;exact nomatch z
 |some t=>
  obtain⟨ts,kk,pt⟩:=t
  rw[e1] at z
  cases qO e1
  refine IY o hf ?_
  cases e2:E5 v with
  |none=>exact yy (by cases v<;>first|rfl|exact nomatch e2)
  |some w=>
   obtain⟨vs,kv,pv⟩:=w
   rw[e2] at z
   cases qO e2
   have z:LS (EK L ts vs)=true:=z
   cases e3:EK L ts vs with
   |none=>rw[e3] at z;exact nomatch z
   |some q=>
    cases q with
    |none=>exact xK o e3
    |some q=>rw[e3] at z;exact nomatch z
theorem E4 (o:Ok X k G L){rE:RE}(hE:HE k G rE)(hC:HC k G rE)(y:Str)(p:Pos)(v:Expr):NS X (.Assign [.Name y p] v pos) (Je G rE L y p v):=by
 unfold Je
 cases hi:eP L y with
 |none=>exact c4
 |some i=>
  show NS X _ (if HG L v y p&&!Fy v then b7 else match OM L i v with
   |some s=>s
   |none=>if L.own.contains y then ic i (rE L v) else aI i (rE L v))
  split
  ·exact c4
  ·next z=>
   split
   ·next s hs=>exact KH o hi hs
   ·by_cases hs:HG L v y p=true
    ·rw[hs,a3l,a2n] at z
     obtain⟨elt,t,it,ifs,sc,vp,rfl⟩:=E7 (v:=v) (by simpa using z)
     exact O5 o hi (hC o elt t it ifs sc vp) hs
    ·exact OJ o hi (hE o v) (by simpa using hs)
theorem Gi (o:Ok X k G L){rE:RE}(hE:HE k G rE){b ix v:Expr}{p:Pos}{s:FS}(h:MX rE L b ix v=some s):NS X (.Assign [.Subscript b ix p] v pos) s:=by
 replace h:=a0a.mp h;obtain⟨⟨j,jp⟩,e,h⟩:=h
 cases cV e
 replace h:=a0a.mp h;obtain⟨i,hi,h⟩:=h
 replace h:=bq h;obtain⟨z,h⟩:=h
 cases h
 obtain⟨h1,h2,h3⟩:=jb o hi
 rw[a0b] at z
 exact MC (o:=v) h1 h2 (bm h3).1 (bm h3).2.1 (hE o ix) (hE o v) K5 rfl rfl (Al z.1)
theorem EW (o:Ok X k G L){rE:RE}(hE:HE k G rE){ts:List Expr}{kk:Nat}{pt:Pos}{v:Expr}{s:FS}(h:Ky rE L (.Tuple ts kk pt) v ts=some s):NS X (.Assign [.Tuple ts kk pt] v pos) s:=by
 unfold Ky at h
 cases hq:(u2 ts).bind λq=>(pM q.1).bind λx=>(pM q.2).map λy=>(x,y) with
 |none=>
  rw[hq] at h
  replace h:=bq h;obtain⟨z,h⟩:=h
  cases h
  exact za o (hE o v) z
 |some xy=>
  rw[hq] at h
  obtain⟨⟨x,px⟩,y,py⟩:=xy
  replace hq:=a0a.mp hq;obtain⟨⟨tx,ty⟩,e,hq⟩:=hq
  cases oX e
  replace hq:=a0a.mp hq;obtain⟨x',e1,hq⟩:=hq
  replace hq:=a0d.mp hq;obtain⟨y',e2,hq⟩:=hq
  cases hq
  cases cV e1
  cases cV e2
  cases hw:(E5 v).bind λw=>u2 w.1 with
  |none=>
   rw[hw] at h
   replace h:=bq h;obtain⟨z,h⟩:=h
   cases h
   exact IY o (hE o v) (yy (by simpa using z))
  |some ab=>
   rw[hw] at h
   obtain⟨a,b⟩:=ab
   replace hw:=a0a.mp hw;obtain⟨⟨vs,k2,p2⟩,e,hw⟩:=hw
   cases qO e
   cases oX hw
   have h:(match EK L [.Name x px,.Name y py] [a,b] with
    |none=>none
    |some none=>some (gn (rE L (.Tuple [a,b] k2 p2)) (vT 5 L (.Tuple [.Name x px,.Name y py] kk pt)))
    |some (some l)=>Me rE L (x,px) (y,py) a b l)=some s:=h
   cases hs:EK L [.Name x px,.Name y py] [a,b] with
   |none=>rw[hs] at h;cases h
   |some l=>
    cases l with
    |none=>rw[hs] at h;cases h;exact IY o (hE o _) (xK o hs)
    |some l=>
     rw[hs] at h
     replace h:=a0a.mp h;obtain⟨i,hi,h⟩:=h
     replace h:=a0a.mp h;obtain⟨j,hj,h⟩:=h
     replace h:=bq h;obtain⟨z,h⟩:=h
     cases h
     simp only[a0b,beq_iff_eq,bne_iff_ne,ne_eq] at z
     obtain⟨⟨⟨⟨⟨z0,z1⟩,z2⟩,z3⟩,z4⟩,z5⟩:=z
     have hx:X.env.scope.names.lookup x=some .local:=by rw[o.sc];exact z4
     have hy:X.env.scope.names.lookup y=some .local:=by rw[o.sc];exact z5
     rw[z0] at hs
     exact ME o.calm (g6 o hi) (g6 o hj) z3 hx hy (lj (hE o) [a,b]) (xK o hs) Eb
theorem Gh (o:Ok X k G L){rE:RE}(hE:HE k G rE){tg v:Expr}:NS X (.Assign [tg] v pos) (Ck (lX (Ct L tg v) (some (gn (rE L v) (vT 5 L tg))))):=uD λs h=>by
 replace h:=bq h;obtain⟨z,h⟩:=h
 cases h
 exact za o (hE o v) z
theorem Fb (o:Ok X k G L){rE:RE}(hE:HE k G rE)(hC:HC k G rE)(tg v:Expr):NS X (.Assign [tg] v pos) (MJ G rE L tg v):=by
 cases tg with
 |Name x p=>exact E4 o hE hC x p v
 |Subscript b ix p=>exact uD λs h=>Gi o hE h
 |Tuple ts kk p=>exact uD λs h=>EW o hE h
 |_=>exact Gh o hE
theorem IB (o:Ok X k G L){f:Expr->FE}(hf:∀e,NE X e (f e)){s:FS}(h:Ql G f L tg v=some s):NS X (.Assign [tg] v pos) s:=by
 replace h:=a0a.mp h;obtain⟨⟨fn,as,cp⟩,e,h⟩:=h
 cases lE e
 replace h:=a0a.mp h;obtain⟨⟨g,fp⟩,e,h⟩:=h
 cases cV e
 replace h:=a0a.mp h;obtain⟨⟨xe,es⟩,e,h⟩:=h
 cases wF e
 replace h:=a0a.mp h;obtain⟨⟨x,xp⟩,e,h⟩:=h
 cases cV e
 replace h:=a0a.mp h;obtain⟨i,hi,h⟩:=h
 replace h:=bq h;obtain⟨z,h⟩:=h
 obtain⟨h1,h2,h3⟩:=jb o hi
 rw[a0b,a0b] at z
 have ha:NA X es (LD f es):=Dg hf z.1.2
 have hpl:(backTo cp (starEach es X.env)).any (·.1)=false:=iX z.1.2
 have hg:=wT 5 o tg
 have sw:swapsWithSole [tg] (.Call (.Name g fp) (.Name x xp::es) [] cp) pos.line X.env=pure false/\swappedStores [tg] (.Call (.Name g fp) (.Name x xp::es) [] cp) X.env=pure none/\(assignEach [tg] X.env).map (·.2)=[assign tg X.env]:=
  have t:=z.2
  by cases tg<;>first|exact⟨rfl,rfl,rfl⟩|(cases t)
 unfold L9 at h
 cases hF:G.lents.lookup g with
 |some F=>
  rw[hF] at h
  replace h:=bq h;obtain⟨hgl,h⟩:=h
  cases h
  obtain⟨hG,hd⟩:=jd o hgl
  obtain⟨j,hj,D⟩:=o.g.lents _ F hF
  exact Kj D hj hG (bm hd).1 (λ_=>o.calm) o.r h1 h2 (bm h3).1 (bm h3).2.1 ha hpl hg sw.1 sw.2.1 sw.2.2
 |none=>
  rw[hF] at h
  replace h:=a0a.mp h;obtain⟨j,hj,h⟩:=h
  replace h:=bq h;obtain⟨_,h⟩:=h
  cases h
  obtain⟨g1,g2,g3⟩:=jb o hj
  exact FZ o.g.lents (λ_=>o.calm) o.r g1 g2 (bm g3).1 (bm g3).2.1 h1 h2 (bm h3).1 (bm h3).2.1 ha hpl hg sw.1 sw.2.1 sw.2.2
theorem Ju (o:Ok X k G L){rE:RE}(hE:HE k G rE)(hC:HC k G rE)(tg v:Expr):NS X (.Assign [tg] v pos) (Pc G rE L tg v):=by
 unfold Pc
 split
 ·next s h=>exact IB o (hE o) h
 ·exact Fb o hE hC tg v
theorem qa {f:Stmt->FS}(h:∀s,NS X s (f s)):∀ss:List Stmt,Bu X ss (vL f ss)
 |[]=>Kn
 |[s]=>KG (h s)
 |s::t::r=>Gx (h s) (qa h (t::r))
theorem Cq {op:Operator}{g:Int->Int->Int}(h:uV op=some g):Ei X op g:=by
 cases op<;>first|(cases h;done)|skip
 ·cases h;exact Cf
 ·cases h;exact BT
section
variable {f:Expr->FE}(hf:∀e,NE X e (f e))
include hf
theorem JI (o:Ok X k G L){v:Option Expr}:NS X (.Return v pos) (Qo L f v):=by
 cases v with
 |none=>exact c4
 |some e=>
  cases e<;>first|exact Ho (hf _)|skip
  rename_i x p
  show NS X _ (match slot L x with
   |some i=>if L.top&&!L.lent then jc i else b7
   |none=>aR (f (.Name x p)))
  cases hi:slot L x with
  |none=>exact Ho (hf _)
  |some i=>
   obtain⟨h1,h2,h3⟩:=jb o hi
   show NS X _ (if L.top&&!L.lent then jc i else b7)
   split
   ·next ht=>
    rw[a0b,a2n] at ht
    exact IE h1 h2 (bm h3).1 (bm h3).2.1 (o.h0 ht.2 ht.1)
   ·exact c4
theorem E0 (o:Ok X k G L){op:Operator}:NS X (.AugAssign tg op v pos) (LP L f tg op v):=by
 cases tg<;>first|exact c4|skip
 ·rename_i b ix p
  cases b<;>first|exact c4|skip
  rename_i j q
  show NS X _ (match slot L j with
   |none=>b7
   |some i=>match uV op with
    |some g=>if gM ix then ku g i (f ix) (f v) else b7
    |none=>b7)
  cases hi:slot L j with
  |none=>exact c4
  |some i=>
   obtain⟨h1,h2,h3⟩:=jb o hi
   show NS X _ (match uV op with
    |some g=>if gM ix then ku g i (f ix) (f v) else b7
    |none=>b7)
   cases hg:uV op with
   |none=>exact c4
   |some g=>
    show NS X _ (if gM ix then ku g i (f ix) (f v) else b7)
    split
    ·next z=>exact E6 h1 h2 (bm h3).1 (bm h3).2.1 (hf _) (hf _) (Cq hg) (EQ z)
    ·exact c4
 ·rename_i x p
  show NS X _ (match eP L x with
   |none=>b7
   |some i=>match uV op with
    |some g=>pH g i (f v)
    |none=>b7)
  cases hi:eP L x with
  |none=>exact c4
  |some i=>
   show NS X _ (match uV op with
    |some g=>pH g i (f v)
    |none=>b7)
   cases hg:uV op with
   |none=>exact c4
   |some g=>exact L7 (g6 o hi) (hf _) (Cq hg)
theorem FU (o:Ok X k G L){d m:Str}{q ap cp:Pos}{args:List Expr}:NS X (.Expr (.Call (.Attribute (.Name d q) m ap) args [] cp) pos) (Lq L f d q m ap args cp):=by
 unfold Lq
 cases hi:slot L d with
 |none=>cases args with
  |nil=>exact c4
  |cons=>exact qu (hf _) rfl
 |some i=>cases args with
  |nil=>
   show NS X _ (if ap.endLine==cp.line then (if m = "reverse" then u7 CQ i af else if m = "pop" then u7 rV i af else b7) else b7)
   split
   ·next z=>
    split
    ·next zz=>subst zz;exact KU No (AA o hi z rfl (by decide)) qr (λ_=>rfl) rfl
    ·split
     ·next zz=>subst zz;exact KU BA (AA o hi z rfl (by decide)) qr (λ_=>rfl) rfl
     ·exact c4
   ·exact c4
  |cons a as=>
   show NS X _ (if m = "append"&&ap.endLine==cp.line&&(a::as).all l6&&decide (as.length<20) then u7 lZ i (vA f (a::as)) else b7)
   split
   ·next z=>
    rw[a0b,a0b,a0b,decide_eq_true_eq,decide_eq_true_eq] at z
    obtain⟨⟨⟨rfl,z1⟩,z2⟩,z3⟩:=z
    exact KU NQ (AA o hi z1 z2 (by rw[a0o];omega)) (lj hf _) (λe=>by cases e) rfl
   ·exact c4
theorem GP (o:Ok X k G L):NS X (.Expr e pos) (Ld L f e):=by
 unfold Ld
 split
 ·next z=>
  cases e<;>first|(cases z;done)|skip
  rename_i c _ _
  cases c<;>first|(cases z;done)|skip
  exact Mb
 ·cases e with
  |Call fn args kws cp=>
   cases kws with
   |cons=>exact qu (hf _) rfl
   |nil=>
    cases fn with
    |Attribute b m ap=>
     cases b with
     |Name d q=>exact FU hf o
     |_=>exact qu (hf _) rfl
    |_=>exact qu (hf _) rfl
  |ListComp a b c d=>exact c4
  |SetComp a b c d=>exact c4
  |DictComp a b c d e=>exact c4
  |_=>exact qu (hf _) (Fz rfl)
end
theorem Ka (o:Ok X k G L){rE:RE}{rB:RB}{rS:Lc->Stmt->FS}(hE:HE k G rE)(hB:HB k G rB)(hC:HC k G rE)(hS:∀s,NS X s (rS L s))(st:Stmt):NS X st (Qh G rE rB rS L st):=by
 cases st with
 |Return v p=>exact JI (hE o) o
 |If c a b p=>exact PB (hB o _) (qa hS _) (qa hS _)
 |For tg it body els p=>
  cases els with
  |cons=>exact c4
  |nil=>
   show NS X _ (if KS it then jP (vI G L (rE L) false tg it) (vT 5 L tg) (vL (rS L) body) else b7)
   split
   ·next z=>exact Ng o.calm (HY o (hE o) tg it) (wT 5 o tg) (qa hS body) (by
     intro y
     cases it<;>first|rfl|(cases z))
   ·exact c4
 |While c body els p=>
  cases els with
  |cons=>exact c4
  |nil=>exact Fp (hB o _) (qa hS _)
 |Assign tgs v p=>
  cases tgs with
  |nil=>exact c4
  |cons tg r=>cases r with
   |cons=>exact c4
   |nil=>exact Ju o hE hC _ _
 |AugAssign tg op v p=>exact E0 (hE o) o
 |Expr e p=>exact GP (hE o) o
 |Pass p=>exact I0
 |Break p=>exact Gj
 |Continue p=>exact xX
 |_=>exact c4
theorem zH {st:Stmt}:∀{l:List Nat} {s:FS},NS X st s->NS X st (frzs l s)
 |[],_,h=>h
 |i::r,_,h=>zH (l:=r) (MN h i)
end
theorem y0 {k:Nat}{G:Gc}:∀(n:Nat) {X:Cx} {L:Lc},Ok X k G L->∀s,NS X s (vS G n L s)
 |0,_,_,_,_=>c4
 |n+1,_,L,o,s=>by
  unfold vS
  refine zH ?_
  split
  ·next f hf=>exact o.hk.s o.toOk0 (λo'=>(mD n).1 ⟨o',o.hk⟩) (λo'=>(mD n).2 ⟨o',o.hk⟩) (y0 n o) s f hf
  ·exact Ka o (mD n).1 (mD n).2 (Mf n) (y0 n o) s
section
variable {P:Program}{w:World}{K:PySem.W.Frag}{mg:Str->Option Value}{base:Heap}{k:Nat}
theorem Oa {x:Str}{st:Stmt}{f:Addr}{fd:FuncData}{N ps:List Str}{s:FS}{G:Gc}(L:Lc)(F:Fun K x x st f fd)(S:FnScope N ps (ah st))(g:GOk P w K mg base k G.toGd)(hk:HkOk G.hk)(hs:vL (vS G 60 L) (ci st)=s)(h1:L.sc=ah st)(h2:L.N=N)(h3:L.top=true) :
  NF P w K mg base true (k+1) f fd ps (run ps.length N.length s):=by
 obtain⟨oc,od,kV,doc,pm,an,cdv,ct,osl,rfl,lk,hcd⟩:=F.ex
 exact L8 lk hcd S λA outer s' hc hr=>hs▸qa (y0 60 ⟨⟨g,hr,h1.symm,h2.symm,by rw[h2];exact S.nd,by rw[h1];exact S.kind,rfl,λ_ _=>rfl,λ_ _=>rfl,λh=>by rw[h3] at h;cases h⟩,hk⟩) (ci st)
theorem MY {x:Str}{st:Stmt}{N ps:List Str}{a n:Nat}{s:FS}{G:Gc}(L:Lc)(F:Cp K mg x st ps)(S:FnScope N ps (ah st))(g:GOk P w K mg base k G.toGd)(hk:HkOk G.hk)
  (hs:vL (vS G 60 L) (ci st)=s) (h1:L.sc=ah st:=by rfl) (h2:L.N=N:=by rfl) (h3:L.top=true:=by rfl) (ha:ps.length=a:=by rfl) (hn:N.length=n:=by rfl):DefN P w K mg base true (k+1) x (run a n s):=by
 obtain⟨f,fd,F,b,m⟩:=F
 subst ha hn
 exact⟨f,fd,ps,Oa L F S g hk hs h1 h2 h3,.all b,F.kp,m⟩
noncomputable def g9 {α:Type}(p:α->Prop):List α->Prop
 |[]=>True
 |a::r=>p a/\g9 p r
theorem eH {β:Type}{p:Str×β->Prop}:∀{l:List (Str×β)},g9 p l->∀x b,l.lookup x=some b->p (x,b)
 |[],_,_,_,h=>by cases h
 |(y,c)::r,⟨h1,h2⟩,x,b,h=>by
  rw[a1r] at h
  cases hx:x==y with
  |true=>
   rw[hx] at h
   have:x=y:=by simpa using hx
   subst this
   cases h;exact h1
  |false=>rw[hx] at h;exact eH h2 x b h
theorem qe {p:Str->Prop}:∀{l:List Str},g9 p l->∀x,l.contains x=true->p x
 |[],_,_,h=>by cases h
 |y::r,⟨h1,h2⟩,x,h=>by
  rw[List.contains_cons,a4o] at h
  rcases h with h|h
  ·have:x=y:=by simpa using h
   subst this;exact h1
  ·exact qe h2 x h
theorem QP {G:Gd}(h1:g9 (λx=>mg x=none) G.bi)(h2:g9 (λp=>∃t,mg p.1=some (.int p.2 t)) G.nis)(h3:g9 (λp=>He P w mg base p.1 (.ktu p.2)) G.tups)(h4:g9 (λx=>∃a,mg x=some (.ref a)) G.vals)(h5:g9 (λp=>∃j,j<=k/\DefN P w K mg base true j p.1 p.2) G.fns)
  (h6:g9 (λp=>He P w mg base p.1 (.dct p.2.1 p.2.2)) G.dcts) (h7:g9 (λp=>(∃j,j<=k/\DefN P w K mg base true j p.1 p.2)\/mg p.1=none) G.tab) (h8:g9 (λp=>∃j,j<=k/\DefL P w K mg base true j p.1 p.2) G.lents):GOk P w K mg base k G:=
 ⟨qe h1,eH h2,eH h3,qe h4,eH h5,eH h6,eH h7,eH h8⟩
theorem K6 {x:Str}{st:Stmt}{N ps:List Str}{a n:Nat}{s:FS}{G:Gc}(L:Lc)(F:Cp K mg x st ps)(S:FnScope N ps (ah st))(g:GOk P w K mg base k G.toGd)(hk:HkOk G.hk)
  (hs:vL (vS G 60 L) (ci st)=s) (h1:L.sc=ah st:=by rfl) (h2:L.N=N:=by rfl) (h3:L.top=true:=by rfl) (h4:L.lent=true:=by rfl) (ha:ps.length=a:=by rfl) (hn:N.length=n:=by rfl):DefL P w K mg base true (k+1) x (rL a n s):=by
 obtain⟨f,fd,F,b,m⟩:=F
 subst ha hn
 refine⟨f,fd,ps,?_,.all b,F.kp,m⟩
 obtain⟨oc,od,kV,doc,pm,an,cdv,ct,osl,rfl,lk,hcd⟩:=F.ex
 exact Kc lk hcd S λA outer s' H hc hr=>hs▸qa (y0 60 ⟨⟨g,hr,h1.symm,h2.symm,by rw[h2];exact S.nd,by rw[h1];exact S.kind,rfl,λ_ _=>rfl,λh=>(by rw[h4] at h;cases h),λh=>by rw[h3] at h;cases h⟩,hk⟩) (ci st)
end
theorem A5 {P:Program}{w:World}{K:PySem.W.Frag}{mg mb:Str->Option Value}{k:Nat}{fa a:Addr}{fd:FuncData}{x:Str}{s₁:Shared}{vs:List Value}{ns:List Int}{Fl:Fn}
  (KX:K.In s₁.heap) (hns:s₁.heap.Ns mainGlobals mg) (hb:s₁.heap.Ns builtinsNs mb) (hbb:∀x:Str,x ≠ "__name__"->mb x=bootBuiltins x) (hlim:s₁.heap.NoLimit) (hg:s₁.gens = #[])
  (ha:s₁.heap.get? a=some { cls:=.type "list",data:=.seq vs.toArray }) (hi:IntsAre vs ns) (hl:ns.length<=sizeLine) (hr:Rm k callerA)
  (F:NF P w K mg s₁.heap true k fa fd [x] Fl) (hbind:∀(s:Shared) (u:Value),BindsTo s fd ⟨[u],[]⟩ [(x,u)]) (q:Fl [.src (ns.map .int)]=some (.v (.bl true))) :
  codeAny (model P w) callerA (.call (.ref fa) ⟨[.ref a],[]⟩) (λr s'=>r=.ok (.ret (.bool true))/\OldK s₁.heap s'.heap/\s'.os=s₁.os/\AllBare s'.gens) s₁:=by
 have lenV:=hi.length
 have hM:Mod K mg s₁.heap:=⟨KX,hns,⟨mb,hb,hbb⟩,hlim⟩
 have e0:Env0 P w K mg s₁.heap callerA [] s₁ h0:=⟨rfl,hM,λb o e=>⟨e,rfl⟩,a0r _,trivial,λb hb=>absurd (show b∈([]:List Addr) from hb) (by simp),λb o e=>(by cases e),.of_eq hg⟩
 refine codeAny_mono (F.run callerA [] s₁ ⟨[.ref a],[]⟩ [.ref a] [.src (ns.map .int)] _ (λ_=>False) (λ_=>rfl) hr e0 (hbind s₁ (.ref a)) (λb hb=>absurd (show b∈([]:List Addr) from hb) (by simp)) (λb h=>h.elim) (λb o _ h=>h)
  ⟨.ref a,[],rfl,⟨a,vs,_,rfl,⟨rfl,id⟩,ha,by omega,yz hi⟩,rfl⟩ q) λr s' h=>?_
 obtain⟨u,rfl,os,bare,un,d⟩:=h
 obtain rfl:u=Value.bool true:=d
 exact⟨rfl,OldK.of_keep λb o e=>un.keep b o e rfl (by intro z;exact absurd (show b∈([]:List Addr) from z) (by simp)) (by simp),os,bare⟩
theorem Og {l:PySem.W.OpenLaw}{q:Program}{loose:List Str}{XP:(Str->Option Value)->Heap->Prop}{YP:World->Heap->Prop}{d:DefRec}{K:Params->PySem.W.Frag}{k:Nat}{Fl:Fn}(hk:k<=40)(hn:l.most=some 63)(hdf:d.params.defaults=[])
  (hY:∀(w:World) (h:Heap),YP w h->(K w.params).In h)
  (hq:∀ns:List Int,ns.length<=63->Fl [.src (ns.map .int)]=some (.v (.bl true)))
  (F:∀(w:World) (mg:Str->Option Value) (fa:Addr) (h:Heap),(K w.params).In h->h.Ns mainGlobals mg->mg d.name=some (.ref fa) →
   ∃fd:FuncData,(∀(s:Shared) (u:Value),BindsTo s fd ⟨[u],[]⟩ [("_law_script",u)])/\∀base:Heap,(K w.params).In base/\base.Ns mainGlobals mg->NF l.prog w (K w.params) mg base true k fa fd ["_law_script"] Fl) :
  PySem.W.WalkO q loose XP YP l.row.toRowW d [] (λf vs=>PySem.call f vs):=by
 refine Att.attach_call hn hdf λw s₀ s₁ mg mb fa o pm cd doc a vs ns G Y ho hd hcd hmg hobj hints hlen hg=>?_
 have KX:=hY w _ Y
 obtain⟨fd,hb,hF⟩:=F w mg fa _ KX G.T.g hmg
 have R:Rm 40 callerA:=⟨by decide,by decide⟩
 exact A5 KX G.T.g G.T.b G.T.builtins G.T.nolimit hg hobj hints (a1z hlen (by decide)) (R.mono hk) (hF _ ⟨KX,G.T.g⟩) hb (hq ns hlen)
theorem E2 {P:Program}{w:World}{K:PySem.W.Frag}{mg:Str->Option Value}{x y:Str}{st:Stmt}{fa:Addr}{k a n:Nat}{N:List Str}{R:Heap->Prop}{s:FS}(F:Cp K mg x st [y])(hm:mg x=some (.ref fa))(S:FnScope N [y] (ah st))(ha:a=1)(hn:N.length=n)
  (h:∀base,R base->∃(L:Lc) (G:Gc),GOk P w K mg base k G.toGd/\HkOk G.hk/\vL (vS G 60 L) (ci st)=s/\L.sc=ah st/\L.N=N/\L.top=true) :
  ∃fd:FuncData,(∀(s:Shared) (u:Value),BindsTo s fd ⟨[u],[]⟩ [(y,u)])/\∀base:Heap,R base->NF P w K mg base true (k+1) fa fd [y] (run a n s):=by
 subst ha hn
 obtain⟨f,fd,F,b,m⟩:=F
 rw[hm] at m
 cases m
 exact⟨fd,λs u=>.of_eq (b [u] rfl),λbase hb=>by
  obtain⟨L,G,g,hk,hs,h1,h2,h3⟩:=h base hb
  exact Oa L F S g hk hs h1 h2 h3⟩
section
variable {P:Program}{w:World}{K:PySem.W.Frag}{mg:Str->Option Value}{base:Heap}{x:Str}{a:Addr}{ps:List PV}
theorem GZ {o:Option Addr}{its:List Value}{n:Nat}{sl:Array (Option Value)}(KI:K.In base)(m:mg x=some (.ref a))(l:K.lookup a=some ⟨.type "tuple",o,.seq its.toArray n,sl⟩)(hl:its.length<=sizeLine)(ds:∀(c:Cn) h,c.mg=mg->Ds c h ps its):He P w mg base x (.ktu ps):=
 ⟨_,m,λh bad H hb=>⟨a,its,rfl,(hb a _ (KI a _ l)).2,⟨_,(hb a _ (KI a _ l)).1,rfl,n,rfl⟩,hl,ds _ _ rfl⟩⟩
inductive DEs (w:World) (mg:Str->Option Value):List DictEntry->List eX->List PV->Prop where
 |nil:DEs w mg [] [] []
 |cons {x:Str} {t:Tok} {u:Value} {p:PV} {es:List DictEntry} {ks:List eX} {ps:List PV}:(∀(c:Cn) h,c.mg=mg->D c h p u)->DEs w mg es ks ps->DEs w mg (⟨PyData.keyHash w.params x,.str x t,u⟩::es) (.inr x::ks) (p::ps)
theorem DEs.ok {es:List DictEntry}{ks:List eX}(d:DEs w mg es ks ps):∃kus:List (eX×Value),kus.map (·.1)=ks/\(∀(c:Cn) h,c.mg=mg->Ds c h ps (kus.map (·.2)))/\(∀e∈es,∃k,(bp P w).is k e.key=true/\e.hash=(bp P w).hash k)/\Pairs (bp P w) es kus:=by
 induction d with
 |nil=>exact⟨[],rfl,λ_ _ _=>rfl,λ_ h=>(by cases h),.nil⟩
 | @cons x t u p es ks ps h1 _ ih=>
  obtain⟨kus,e1,e2,e3,e4⟩:=ih
  refine⟨(.inr x,u)::kus,by rw[a1f,e1],λc h hm=>⟨u,_,rfl,h1 c h hm,e2 c h hm⟩,λe he=>?_,.cons (lg P w x t) rfl e4⟩
  rcases a0t.mp he with rfl|he
  ·exact⟨.inr x,lg P w x t,rfl⟩
  ·exact e3 e he
theorem Gf {es:Array DictEntry}{ep:Nat}{ks:List eX}(KI:K.In base)(m:mg x=some (.ref a))(sys:(a==sysModules)=false)(l:K.lookup a=some ⟨.type "dict",none,.dict es ep,#[]⟩)(hl:ks.length<=sizeLine)(nd:ks.Nodup)(d:DEs w mg es.toList ks ps):He P w mg base x (.dct ks ps):=by
 obtain⟨kus,e1,e2,e3,e4⟩:=d.ok (P:=P)
 refine⟨_,m,λh bad H hb=>?_⟩
 obtain⟨g1,g2,g3⟩:=hb a _ (KI a _ l)
 exact⟨a,kus,rfl,⟨g2,g3⟩,sys,⟨_,es,ep,g1,⟨rfl,rfl,rfl⟩,rfl,λe he=>e3 e (Array.mem_toList_iff.mpr he),e4,by rw[e1];exact nd⟩,by rw[←e1,a0j] at hl;exact hl,e1,e2 _ _ rfl⟩
end
end Dp
end
section
namespace Fo
noncomputable abbrev up (us:List Nat)(x:Nat):Nat:=us.getD x 0
theorem ez {us:List Nat}{x v t:Nat}(hx:x<us.length):up (us.set x v) t=if t=x then v else up us t:=by
 simp only[up,a0k,a3c]
 by_cases h:x=t
 ·subst h;simp[hx]
 ·simp[h,Ne.symm h]
structure Fst (us:List Nat):Prop where
 bnd:∀x,x<us.length->up us x<us.length
 rk:∃r:Nat->Nat,(∀x,x<us.length->r x<us.length)/\∀x,x<us.length->up us x≠x->r (up us x)<r x
inductive Way (us:List Nat):Nat->List Nat->Prop where
 |head {x:Nat}:up us x=x->Way us x [x]
 |step {x:Nat} {l:List Nat}:up us x≠x->Way us (up us x) l->Way us x (x::l)
theorem Way.det {us:List Nat}{x:Nat}{l l':List Nat}(h:Way us x l)(h':Way us x l'):l=l':=by
 induction h generalizing l' with
 |head e=>cases h' with
  |head _=>rfl
  |step n _=>exact absurd e n
 |step n _ ih=>cases h' with
  |head e=>exact absurd e n
  |step _ q=>rw[ih q]
theorem Way.ne {us:List Nat}{x:Nat}{l:List Nat}(h:Way us x l):l≠[]:=by cases h<;>simp
theorem Way.pos {us:List Nat}{x:Nat}{l:List Nat}(h:Way us x l):1<=l.length:=by cases h<;>simp
theorem Way.mem_self {us:List Nat}{x:Nat}{l:List Nat}(h:Way us x l):x∈l:=by cases h<;>simp
noncomputable def gb (l:List Nat):Nat:=l.getLastD 0
theorem cz {x:Nat}{l:List Nat}(h:l≠[]):gb (x::l)=gb l:=by
 cases l with
 |nil=>exact absurd rfl h
 |cons y t=>simp[gb,a5h]
theorem qz {l:List Nat}(h:l≠[]):gb l∈l:=by
 induction l with
 |nil=>exact absurd rfl h
 |cons y t ih=>
  cases t with
  |nil=>simp[gb]
  |cons z t=>rw[cz (by simp)];exact a0c _ (ih (by simp))
theorem Way.head_last {us:List Nat}{x:Nat}{l:List Nat}(h:Way us x l):up us (gb l)=gb l:=by
 induction h with
 |head e=>exact e
 |step _ w ih=>rw[cz w.ne];exact ih
theorem Way.lt {us:List Nat}{x:Nat}{l:List Nat}(h:Way us x l)(b:∀x,x<us.length->up us x<us.length)(hx:x<us.length):∀y∈l,y<us.length:=by
 induction h with
 |head e=>intro y hy;rw[a0f] at hy;subst hy;exact hx
 |step n w ih=>
  intro y hy
  rcases a0t.mp hy with rfl|hy
  ·exact hx
  ·exact ih (b _ hx) y hy
theorem Way.rank {us:List Nat}{x:Nat}{l:List Nat}(h:Way us x l)(b:∀x,x<us.length->up us x<us.length){r:Nat->Nat}(hr:∀x,x<us.length->up us x≠x->r (up us x)<r x)(hx:x<us.length):∀y∈l,r y<=r x:=by
 induction h with
 |head e=>intro y hy;rw[a0f] at hy;subst hy;exact a0r _
 | @step x l n w ih=>
  intro y hy
  rcases a0t.mp hy with rfl|hy
  ·exact a0r _
  ·exact a1z (ih (b _ hx) y hy) (a3y (hr x hx n))
theorem Way.nodup {us:List Nat}{x:Nat}{l:List Nat}(h:Way us x l)(f:Fst us)(hx:x<us.length):l.Nodup:=by
 obtain⟨b,r,hb,hr⟩:=f
 induction h with
 |head e=>simp
 | @step x l n w ih=>
  refine a1s.mpr ⟨λhm=>?_,ih (b _ hx)⟩
  have h1:=w.rank b hr (b _ hx) x hm
  have h2:=hr x hx n
  omega
theorem Fst.way {us:List Nat}(f:Fst us){x:Nat}(hx:x<us.length):∃l,Way us x l/\l.length<=us.length:=by
 obtain⟨b,r,hb,hr⟩:=f
 suffices h:∀k x,x<us.length->r x<=k->∃l,Way us x l/\l.length<=k+1 by
  obtain⟨l,w,hl⟩:=h (r x) x hx (a0r _)
  exact⟨l,w,by have:=hb x hx;omega⟩
 intro k
 induction k with
 |zero=>
  intro x hx h0
  by_cases e:up us x=x
  ·exact⟨_,.head e,by simp⟩
  ·exact absurd (hr x hx e) (by omega)
 |succ k ih=>
  intro x hx h0
  by_cases e:up us x=x
  ·exact⟨_,.head e,by simp⟩
  ·obtain⟨l,w,hl⟩:=ih (up us x) (b x hx) (by have:=hr x hx e;omega)
   exact⟨_,.step e w,by simp;omega⟩
theorem Way.closed {us:List Nat}{x:Nat}{l:List Nat}(h:Way us x l):∀y∈l,up us y∈l:=by
 induction h with
 | @head x q=>intro y hy;rw[a0f] at hy;subst hy;rw[q];simp
 | @step x l n w ih=>
  intro y hy
  rcases a0t.mp hy with rfl|hy
  ·exact a0c _ w.mem_self
  ·exact a0c _ (ih y hy)
theorem Way.later {us:List Nat}{x:Nat}{l:List Nat}(h:Way us x l):∀y∈l,∃l2,Way us y l2/\gb l2=gb l/\l2.length<=l.length/\∀z∈l2,z∈l:=by
 induction h with
 | @head x q=>intro y hy;rw[a0f] at hy;subst hy;exact⟨_,.head q,rfl,a0r _,λ_ h=>h⟩
 | @step x l n w ih=>
  intro y hy
  rcases a0t.mp hy with rfl|hy
  ·exact⟨_,.step n w,rfl,a0r _,λ_ h=>h⟩
  ·obtain⟨l2,a,b,c,d⟩:=ih y hy
   exact⟨l2,a,by rw[b,cz w.ne],by simp;omega,λz hz=>a0c _ (d z hz)⟩
structure Shorter (us us':List Nat):Prop where
 len:us'.length=us.length
 up:∀t,t<us.length->(up us t=t/\Fo.up us' t=t)\/(Fo.up us t≠t/\∃l,Way us (Fo.up us t) l/\Fo.up us' t∈l)
theorem Shorter.refl {us:List Nat}(f:Fst us):Shorter us us:=⟨rfl,λt ht=>by
 by_cases e:Fo.up us t=t
 ·exact .inl ⟨e,e⟩
 ·obtain⟨l,w,_⟩:=f.way (f.bnd t ht)
  exact .inr ⟨e,l,w,w.mem_self⟩⟩
theorem Shorter.fst {us us':List Nat}(s:Shorter us us')(f:Fst us):Fst us':=by
 obtain⟨b,r,hb,hr⟩:=f
 refine⟨λx hx=>?_,r,λx hx=>?_,λx hx hn=>?_⟩
 ·rw[s.len] at hx ⊢
  rcases s.up x hx with ⟨_,e⟩|⟨_,l,w,m⟩
  ·rw[e];exact hx
  ·exact w.lt b (b x hx) _ m
 ·rw[s.len] at hx ⊢;exact hb x hx
 ·rw[s.len] at hx
  rcases s.up x hx with ⟨_,e⟩|⟨n,l,w,m⟩
  ·exact absurd e hn
  ·exact a4m (w.rank b hr (b x hx) _ m) (hr x hx n)
theorem Shorter.way {us us':List Nat}(s:Shorter us us')(f:Fst us){t:Nat}(ht:t<us.length){l:List Nat}(w:Way us t l):∃l',Way us' t l'/\gb l'=gb l/\l'.length<=l.length:=by
 obtain⟨b,r,hb,hr⟩:=f
 suffices h:∀k t,t<us.length->r t<=k->∀l,Way us t l->∃l',Way us' t l'/\gb l'=gb l/\l'.length<=l.length from h (r t) t ht (a0r _) l w
 intro k
 induction k with
 |zero=>
  intro t ht h0 l w
  rcases s.up t ht with ⟨e,e'⟩|⟨n,_⟩
  ·cases w with
   |head _=>exact⟨_,.head e',rfl,a0r _⟩
   |step n _=>exact absurd e n
  ·exact absurd (hr t ht n) (by omega)
 |succ k ih=>
  intro t ht h0 l w
  rcases s.up t ht with ⟨e,e'⟩|⟨n,l1,w1,m⟩
  ·cases w with
   |head _=>exact⟨_,.head e',rfl,a0r _⟩
   |step n _=>exact absurd e n
  ·cases w with
   |head e=>exact absurd e n
   | @step _ l0 _ w0=>
    obtain rfl:=w0.det w1
    obtain⟨l2,w2,e2,c2,_⟩:=w0.later _ m
    have hy:Fo.up us' t<us.length:=w0.lt b (b t ht) _ m
    have hry:r (Fo.up us' t)<r t:=a4m (w0.rank b hr (b t ht) _ m) (hr t ht n)
    obtain⟨l3,w3,e3,c3⟩:=ih _ hy (by omega) l2 w2
    refine⟨t::l3,.step (λe=>?_) w3,?_,?_⟩
    ·rw[e] at hry;omega
    ·rw[cz w3.ne,e3,e2,cz w0.ne]
    ·simp;omega
noncomputable def kN:List Nat->List Nat
 |[]=>[]
 |[x]=>[x]
 |x::_::l=>x::kN l
theorem oF:∀(l:List Nat) (x:Nat),x∈kN l->x∈l
 |[],_,h=>h
 |[_],_,h=>h
 |x::y::l,z,h=>by
  rcases a0t.mp h with rfl|h
  ·simp
  ·exact a0c _ (a0c _ (oF l z h))
end Fo
end
section
namespace Fo
open PySem
noncomputable def N7 (us:List Nat)(x h:Nat)(us':List Nat)(n:Nat):Prop:=us'=us/\∃l,Way us x l/\h=gb l/\n+1=l.length
noncomputable def GR (us:List Nat)(x h:Nat)(us':List Nat)(n:Nat):Prop:=∃l,Way us x l/\h=gb l/\n=l.length / 2/\us'.length=us.length/\∀t,up us' t=if t∈kN l then up us (up us t) else up us t
noncomputable def Gw (us:List Nat)(x h:Nat)(us':List Nat)(n:Nat):Prop:=∃l,Way us x l/\h=gb l/\n+1=l.length/\us'.length=us.length/\∀t,up us' t=if t∈l then up us (up us t) else up us t
noncomputable def Pg (us:List Nat)(x h:Nat)(us':List Nat)(n:Nat):Prop:=us'=us.set x (up us (up us x))/\∃l,Way us x l/\h=gb l/\n+1=l.length
noncomputable def Li (us:List Nat)(x h:Nat)(us':List Nat)(n:Nat):Prop:=∃l,Way us x l/\h=gb l/\n+1=l.length/\us'.length=us.length/\∀t,up us' t=if t∈l then h else up us t
inductive RM:Str->List Nat->Nat->Nat->List Nat->Nat->Prop where
 |none {us x h us' n}:N7 us x h us' n->RM "none" us x h us' n
 |whole {us x h us' n}:Li us x h us' n->RM "whole" us x h us' n
 |halves {us x h us' n}:GR us x h us' n->RM "halves" us x h us' n
 |splits {us x h us' n}:Gw us x h us' n->RM "splits" us x h us' n
 |one {us x h us' n}:Pg us x h us' n->RM "one" us x h us' n
noncomputable def cg:List Str:=["none","whole","halves","splits","one"]
structure Frst (us:List Nat):Prop where
 one:1<=us.length
 most:us.length<=40
 fst:Fst us
end Fo
namespace Dp
open PySem L2 Fo
noncomputable def nI (n:Nat):PV:=.int n
noncomputable def ai (us:List Nat):List PV:=us.map nI
theorem pQ {i j:Int}:kK (.int i) (.int j)=decide (i=j):=by
 simp only[kK,jz,wW,HI,a3l]
 rw[a3x,beq_iff_eq,decide_eq_true_iff]
theorem uQ {i j:Str}:kK (.str i) (.str j)=decide (i=j):=by
 simp only[kK,jz,wW,HI,a3l]
 rw[a3x,beq_iff_eq,decide_eq_true_iff]
theorem BM {i j:Bool}:kK (.bl i) (.bl j)=(i==j):=by
 simp only[kK,jz,wW,HI,a3l]
theorem AC {ps qs:List PV}:kK (.tup ps) (.tup qs)=ii ps qs:=by simp only[kK]
theorem An {ps qs:List PV}:kK (.lst ps) (.lst qs)=ii ps qs:=by simp only[kK]
theorem sI {p q:PV}{ps qs:List PV}:ii (p::ps) (q::qs)=(kK p q&&ii ps qs):=by simp only[ii]
theorem qA:ii [] []=true:=by simp only[ii]
theorem fS (us:List Nat):(ai us).length=us.length:=a0j ..
theorem qG:ai []=[]:=rfl
theorem jJ (x:Nat)(us:List Nat):ai (x::us)=nI x::ai us:=rfl
theorem DQ (us vs:List Nat):ai (us++vs)=ai us++ai vs:=a0z
theorem Cv (us:List Nat)(i v:Nat):(ai us).set i (nI v)=ai (us.set i v):=by unfold ai;rw[a5t]
theorem ja:∀us:List Nat,aK (ai us)=true
 |[]=>by simp only[ai,a3h,aK]
 |x::us=>by rw[jJ,aK,ja us];simp only[nI,bM,Bool.and_true]
theorem oA:∀us:List Nat,dF (ai us)=0
 |[]=>by simp only[ai,a3h,dF]
 |x::us=>by rw[jJ,dF,oA us];simp only[nI,sW,Nat.max_self]
theorem fy {n x:Nat}(h:x<n):sQ n (x:Int)=some x:=by
 unfold sQ
 rw[if_pos (by omega),if_pos (by omega),a1e]
theorem gF {ps:List PV}{x:Nat}{p:PV}(h:ps[x]?=some p):L2.c8 ps (x:Int)=some p:=by
 unfold L2.c8
 have hx:x<ps.length:=(a0i.mp h).1
 rw[fy hx]
 exact h
theorem Qd {a:PV}{l:List PV}:L2.c8 (a::l) (0:Int)=some a:=gF (x:=0) rfl
theorem P6 {a b:PV}{l:List PV}:L2.c8 (a::b::l) (1:Int)=some b:=gF (x:=1) rfl
theorem QQ {a b c:PV}{l:List PV}:L2.c8 (a::b::c::l) (2:Int)=some c:=gF (x:=2) rfl
theorem QR {a b c d:PV}{l:List PV}:L2.c8 (a::b::c::d::l) (3:Int)=some d:=gF (x:=3) rfl
theorem wB {us:List Nat}{x:Nat}(hx:x<us.length):(ai us)[x]?=some (nI (up us x)):=by
 unfold ai
 rw[a0s,a0h hx]
 simp[up,hx]
theorem au {us:List Nat}{x:Nat}(hx:x<us.length):L2.c8 (ai us) (x:Int)=some (nI (up us x)):=gF (wB hx)
theorem nk (us:List Nat)(y:Nat):L2.c8 (ai (us++[y])) (-1)=some (nI y):=by
 unfold L2.c8 sQ
 rw[fS,a0n,if_neg (by decide),if_pos (by simp;omega)]
 have:(-1+((us.length+[y].length:Nat):Int)).toNat=us.length:=by simp;omega
 rw[this]
 show (ai (us++[y]))[us.length]?=_
 rw[wB (by simp)]
 simp[up]
theorem Bb {l:List Nat}(h:l≠[]):L2.c8 (ai l) (-1)=some (nI (gb l)):=by
 obtain⟨us,y,rfl⟩:∃us y,l=us++[y]:=⟨l.dropLast,l.getLast h,(List.dropLast_concat_getLast h).symm⟩
 rw[nk]
 simp[gb]
theorem lQ (us:List Nat)(y:Nat):ai us++[PV.int y]=ai (us++[y]):=(DQ us [y]).symm
theorem iB (us:List Nat)(i v:Nat):(ai us).set i (PV.int v)=ai (us.set i v):=Cv us i v
theorem FD (n:Nat):rG 0 n=ai (a0m n):=by
 unfold rG ai
 exact a1v λi _=>by rw[nI,Int.zero_add]
theorem Pv (n:Nat):rG 1 n=ai ((a0m n).map (·+1)):=by
 unfold rG ai
 rw[a1u]
 exact a1v λi _=>by show PV.int (1+(i:Int))=PV.int ((i+1:Nat):Int);congr 1;omega
theorem qp {us:List Nat}{v:PV}(h:v∈ai us):∃u∈us,v=nI u:=by
 obtain⟨u,hu,e⟩:=a1k.mp h
 exact⟨u,hu,e.symm⟩
noncomputable def iL (ns:List Int):List PV:=ns.map PV.int
theorem Db (ns:List Int):(iL ns).length=ns.length:=a0j ..
theorem J0 {n:Nat}{lo:Int}{v:PV}(h:v∈rG lo n):∃i:Int,v=.int i/\lo<=i/\i<lo+n:=by
 obtain⟨k,hk,rfl⟩:=a1k.mp h
 have:=a1b.mp hk
 exact⟨lo+k,rfl,by omega,by omega⟩
theorem yP (lo:Int)(n:Nat):(rG lo n).length=n:=by simp[rG]
theorem LO {i:Int}(h:0<=i):PV.int i=nI i.toNat:=by rw[nI,a2i h]
theorem Kq (ns:List Int)(lo hi:Option Int):mB (iL ns) lo hi=iL (mB ns lo hi):=by
 unfold mB iL
 rw[a0j,a4y,a5p]
theorem vR (ns:List Nat)(lo hi:Option Int):mB (ai ns) lo hi=ai (mB ns lo hi):=by
 unfold mB ai
 rw[a0j,a4y,a5p]
end Dp
namespace Fo
open PySem L2
structure Left (y:Str)(us:List Nat)(x h:Nat)(us':List Nat)(n:Nat)(l:List Nat):Prop where
 way:Way us x l
 hd:h=gb l
 st:n+1<=l.length
 st2:y ≠ "halves"->n+1=l.length
 sh:Shorter us us'
 xu:∀t,t<us.length->t∉l->up us' t=up us t
 no:y = "none"->us'=us
theorem xR {us:List Nat}(f:Fst us){t:Nat}(ht:t<us.length):(up us t=t/\up us (up us t)=t)\/(up us t≠t/\∃l,Way us (up us t) l/\up us (up us t)∈l):=by
 by_cases e:up us t=t
 ·exact .inl ⟨e,by rw[e,e]⟩
 ·obtain⟨l,w,_⟩:=f.way (f.bnd t ht)
  exact .inr ⟨e,l,w,w.closed _ w.mem_self⟩
theorem RM.left {y:Str}{us:List Nat}{x h:Nat}{us':List Nat}{n:Nat}(f:Fst us)(hx:x<us.length)(r:RM y us x h us' n):∃l,Left y us x h us' n l:=by
 have self:=Shorter.refl f
 cases r with
 |none r=>
  obtain⟨rfl,l,w,e,hn⟩:=r
  exact⟨l,w,e,by omega,λ_=>hn,self,λ_ _ _=>rfl,λ_=>rfl⟩
 |whole r=>
  obtain⟨l,w,e,hn,len,hu⟩:=r
  refine⟨l,w,e,by omega,λ_=>hn,⟨len,λt ht=>?_⟩,λt ht hm=>by rw[hu,if_neg hm],λz=>absurd z (by decide)⟩
  rw[hu]
  by_cases hm:t∈l
  ·rw[if_pos hm]
   obtain⟨l2,w2,e2,_,_⟩:=w.later t hm
   cases w2 with
   |head q=>exact .inl ⟨q,by rw[e,←e2];rfl⟩
   |step q w3=>exact .inr ⟨q,_,w3,by rw[e,←e2,cz w3.ne];exact qz w3.ne⟩
  ·rw[if_neg hm];exact self.up t ht
 |halves r=>
  obtain⟨l,w,e,hn,len,hu⟩:=r
  have pos:=w.pos
  refine⟨l,w,e,by omega,λz=>absurd rfl z,⟨len,λt ht=>?_⟩,λt ht hm=>by rw[hu,if_neg λq=>hm (oF l t q)],λz=>absurd z (by decide)⟩
  rw[hu]
  by_cases hm:t∈kN l
  ·rw[if_pos hm];exact xR f ht
  ·rw[if_neg hm];exact self.up t ht
 |splits r=>
  obtain⟨l,w,e,hn,len,hu⟩:=r
  refine⟨l,w,e,by omega,λ_=>hn,⟨len,λt ht=>?_⟩,λt ht hm=>by rw[hu,if_neg hm],λz=>absurd z (by decide)⟩
  rw[hu]
  by_cases hm:t∈l
  ·rw[if_pos hm];exact xR f ht
  ·rw[if_neg hm];exact self.up t ht
 |one r=>
  obtain⟨rfl,l,w,e,hn⟩:=r
  refine⟨l,w,e,by omega,λ_=>hn,⟨by rw[a1c],λt ht=>?_⟩,λt ht hm=>by rw[ez hx,if_neg λq=>hm (by rw[q];exact w.mem_self)],λz=>absurd z (by decide)⟩
  rw[ez hx]
  by_cases hm:t=x
  ·rw[if_pos hm,hm];exact xR f hx
  ·rw[if_neg hm];exact self.up t ht
theorem IP {us vs:List Nat}(h:us.length=vs.length)(e:∀t,up us t=up vs t):us=vs:=by
 apply a4w h
 intro i h1 h2
 have:=e i
 simpa [up,h1,h2] using this
theorem RM.frst {y:Str}{us:List Nat}{x h:Nat}{us':List Nat}{n:Nat}(f:Frst us)(hx:x<us.length)(r:RM y us x h us' n):Frst us'/\us'.length=us.length:=by
 obtain⟨l,L⟩:=r.left f.fst hx
 have e:=L.sh.len
 exact⟨⟨by rw[e];exact f.one,by rw[e];exact f.most,L.sh.fst f.fst⟩,e⟩
end Fo
namespace Dp
open PySem L2 Fo
end Dp
end
section
namespace Dp
open PySem L2 Fo
noncomputable def CL (o:Out)(u:FS):Out:=match o with
 |.nx ρ'=>u ρ'
 |o=>o
noncomputable def Bz (o:Option (List PV×PV))(i:Nat)(t:FT)(ρ:aq):Out:=match o with
 |some (ps1,p)=>Hd (t p (ρ.set i (some (.own ps1))))
 |none=>.bad
noncomputable abbrev CS:=wE
noncomputable def LZ (o:Option (List PV))(t:FT)(s:FS)(ρ:aq):Out:=match o with
 |some its=>bn t s its ρ
 |none=>.bad
noncomputable def By (o:Out)(t:FT)(s:FS)(ps:List PV):Out:=match o with
 |.nx ρ2=>bn t s ps ρ2
 |.ct ρ2=>bn t s ps ρ2
 |.bk ρ2=>.nx ρ2
 |o=>o
noncomputable def Dl (o:Option aq)(t:FT)(s:FS)(ps:List PV):Out:=match o with
 |some ρ=>By (s ρ) t s ps
 |none=>.bad
theorem dI {t:FT}{s:FS}{p:PV}{ps:List PV}{ρ:aq}:bn t s (p::ps) ρ=Dl (t p ρ) t s ps:=Eq.trans rfl rfl
noncomputable def Oq (o:Out)(c:FB)(s:FS)(n:Nat):Out:=match o with
 |.nx ρ2=>bP c s n ρ2
 |.ct ρ2=>bP c s n ρ2
 |.bk ρ2=>.nx ρ2
 |o=>o
noncomputable def PI (o:Option Bool)(c:FB)(s:FS)(n:Nat)(ρ:aq):Out:=match o with
 |some true=>Oq (s ρ) c s n
 |some false=>.nx ρ
 |none=>.bad
theorem cO {c:FB}{s:FS}{n:Nat}{ρ:aq}:bP c s (n+1) ρ=PI (c ρ) c s n ρ:=Eq.trans rfl rfl
theorem DZ {s:Option Sl}{i:Nat}{ρ:aq}:frz (i+1) (s::ρ)=s::frz i ρ:=by
 unfold frz
 rw[a3q]
 split<;>simp_all
theorem pi {r:RV}{rs:List RV}:(r::rs).mapM RV.fr=r.fr.bind λp=>(rs.mapM RV.fr).bind λps=>some (p::ps):=by
 rw[List.mapM_cons];rfl
theorem H0 {s u:FS}{ρ:aq}:aj s u ρ=CL (s ρ) u:=Eq.trans rfl rfl
theorem u4 {t:FT}{s:FS}{ps:List PV}{ρ:aq}:By (.nx ρ) t s ps=bn t s ps ρ:=Eq.trans rfl rfl
theorem uw {t:FT}{s:FS}{ps:List PV}{ρ:aq}:Dl (some ρ) t s ps=By (s ρ) t s ps:=Eq.trans rfl rfl
theorem ud {t:FT}{s:FS}{ρ:aq}:bn t s [] ρ=.nx ρ:=Eq.trans rfl rfl
theorem uJ {c:FB}{s:FS}{n:Nat}{ρ:aq}:Oq (.nx ρ) c s n=bP c s n ρ:=Eq.trans rfl rfl
theorem B5 {c:FB}{s:FS}{n:Nat}{ρ:aq}:PI (some true) c s n ρ=Oq (s ρ) c s n:=Eq.trans rfl rfl
theorem BB {c:FB}{s:FS}{n:Nat}{ρ:aq}:PI (some false) c s n ρ=.nx ρ:=Eq.trans rfl rfl
theorem sv {u:FS}{ρ:aq}:CL (.nx ρ) u=u ρ:=Eq.trans rfl rfl
theorem tL {u:FS}{p:PV}{ρ:aq}:CL (.rt p ρ) u=.rt p ρ:=Eq.trans rfl rfl
theorem DT {ρ:aq}:aP ρ=.nx ρ:=Eq.trans rfl rfl
theorem CK {f:FE}{ρ:aq}:eQ f ρ=yO (f ρ) ρ:=Eq.trans rfl rfl
theorem tR {p:PV}{ρ:aq}:yO (some (.fz p)) ρ=.nx ρ:=Eq.trans rfl rfl
theorem Ij {f:FE}{ρ:aq}:aR f ρ=Dt (f ρ) ρ:=Eq.trans rfl rfl
theorem vE {p:PV}{ρ:aq}:Dt (some (.fz p)) ρ=.rt p ρ:=Eq.trans rfl rfl
theorem vg {p:List PV}{ρ:aq}:Dt (some (.nw p)) ρ=.rn p ρ:=Eq.trans rfl rfl
theorem xf {i:Nat}{ρ:aq}:jc i ρ=wU (sl ρ i) ρ:=Eq.trans rfl rfl
theorem rf {p:PV}{ρ:aq}:wU (some (.val p)) ρ=.rt p ρ:=Eq.trans rfl rfl
theorem wP {p:List PV}{ρ:aq}:wU (some (.own p)) ρ=.rn p ρ:=Eq.trans rfl rfl
theorem Nb {g:FB}{s u:FS}{ρ:aq}:hZ g s u ρ=Mt (g ρ) s u ρ:=Eq.trans rfl rfl
theorem EE {s u:FS}{ρ:aq}:Mt (some true) s u ρ=s ρ:=Eq.trans rfl rfl
theorem EC {s u:FS}{ρ:aq}:Mt (some false) s u ρ=u ρ:=Eq.trans rfl rfl
theorem HZ {i:Nat}{f:FE}{ρ:aq}:aI i f ρ=Fh ((f ρ).bind RV.fr) i ρ:=Eq.trans rfl rfl
theorem yZ {i:Nat}{p:PV}{ρ:aq}:Fh (some p) i ρ=.nx (ρ.set i (some (.val p))):=Eq.trans rfl rfl
theorem Ie {i:Nat}{f:FE}{ρ:aq}:ic i f ρ=GL (f ρ) i ρ:=Eq.trans rfl rfl
theorem wj {i:Nat}{p:List PV}{ρ:aq}:GL (some (.nw p)) i ρ=.nx (ρ.set i (some (.own p))):=Eq.trans rfl rfl
theorem Hq {f:FE}{t:FT}{ρ:aq}:gn f t ρ=Gk ((f ρ).bind RV.fr) t ρ:=Eq.trans rfl rfl
theorem zF {p:PV}{t:FT}{ρ:aq}:Gk (some p) t ρ=Hd (t p ρ):=Eq.trans rfl rfl
theorem Es {ρ:aq}:Hd (some ρ)=.nx ρ:=Eq.trans rfl rfl
theorem IA {i j:Nat}{fs:FA}{ρ:aq}:sr i j fs ρ=G9 ((fs ρ).bind λrs=>rs.mapM RV.fr) i j ρ:=Eq.trans rfl rfl
theorem Ai {i j:Nat}{p q:PV}{ρ:aq}:G9 (some [p,q]) i j ρ=.nx ((ρ.set i (some (.val p))).set j (some (.val q))):=Eq.trans rfl rfl
theorem Ht {i:Nat}{s:FS}{ρ:aq}:FM i s ρ=s (frz i ρ):=Eq.trans rfl rfl
theorem Iq {g:Int->Int->Int}{i:Nat}{f:FE}{ρ:aq}:pH g i f ρ=GH g (sl ρ i) ((f ρ).bind RV.fr) i ρ:=Eq.trans rfl rfl
theorem Au {g:Int->Int->Int}{i:Nat}{a b:Int}{ρ:aq}:GH g (some (.val (.int a))) (some (.int b)) i ρ=.nx (ρ.set i (some (.val (.int (g a b))))):=Eq.trans rfl rfl
theorem MW {g:GM}{i:Nat}{fs:FA}{ρ:aq}:u7 g i fs ρ=Fm (La g (sl ρ i) ((fs ρ).bind λrs=>rs.mapM RV.fr)) i ρ:=Eq.trans rfl rfl
theorem bZ {g:GM}{j i:Nat}{fs:FA}{ρ:aq}:AS g j i fs ρ=G7 (La g (sl ρ i) ((fs ρ).bind λrs=>rs.mapM RV.fr)) j i ρ:=Eq.trans rfl rfl
theorem CU {g:GM}{t:Sl}{ps:List PV}:La g (some t) (some ps)=g t ps:=Eq.trans rfl rfl
theorem yn {t:Sl}{p:PV}{i:Nat}{ρ:aq}:Fm (some (t,p)) i ρ=.nx (ρ.set i (some t)):=Eq.trans rfl rfl
theorem aN {t:Sl}{p:PV}{j i:Nat}{ρ:aq}:G7 (some (t,p)) j i ρ=.nx ((ρ.set i (some t)).set j (some (.val p))):=Eq.trans rfl rfl
theorem CM {ps:List PV}{q:PV}:lZ (.own ps) [q]=if ps.length<=100000 then some (.own (ps++[q]),.non) else none:=Eq.trans rfl rfl
theorem Ad {tab:List (Str×nu)}{j i:Nat}{fs:FA}{t:FT}{ρ:aq}:qi tab j i fs t ρ=qF (Mj tab (sl ρ j)) (sl ρ i) ((fs ρ).bind λrs=>rs.mapM RV.fr) i t ρ:=Eq.trans rfl rfl
theorem Ex {tab:List (Str×nu)}{x:Str}:Mj tab (some (.val (.fn x)))=tab.lookup x:=Eq.trans rfl rfl
theorem vn {F:nu}{ps qs:List PV}{i:Nat}{t:FT}{ρ:aq}:qF (some F) (some (.own ps)) (some qs) i t ρ=Bz (F ps qs) i t ρ:=Eq.trans rfl rfl
theorem tm {ps:List PV}{p:PV}{i:Nat}{t:FT}{ρ:aq}:Bz (some (ps,p)) i t ρ=Hd (t p (ρ.set i (some (.own ps)))):=Eq.trans rfl rfl
theorem cq {g:PV->List PV->Option RV}{fo:FE}{fs:FA}{ρ:aq}:qH g fo fs ρ=(fo ρ).bind λx=>(fs ρ).bind λrs=>g x.pv (rs.map RV.pv):=Eq.trans rfl rfl
theorem br {ks:List eX}{ps:List PV}{k:PV}:k6 (.dct ks ps) [k]=(jI k).map λk=>.fz ((o6 ks ps k).getD .non):=Eq.trans rfl rfl
theorem bf {x:Str}:jI (.str x)=some (.inr x):=Eq.trans rfl rfl
theorem aU {i:Int}:jI (.int i)=some (.inl i):=Eq.trans rfl rfl
theorem Dr {tab:List (Str×Fn)}{j:Nat}{fs:FA}{ρ:aq}:qt tab j fs ρ=(fs ρ).bind λrs=>uf tab (sl ρ j) (rs.mapM RV.fr) rs:=Eq.trans rfl rfl
theorem EV {tab:List (Str×Fn)}{x:Str}{o:Option (List PV)}{rs:List RV}:uf tab (some (.val (.fn x))) o rs=(tab.lookup x).bind λF=>qK F o rs:=Eq.trans rfl rfl
theorem Dc {ks:List eX}{ps:List PV}{x:Str}:bo (.dct ks ps) (.str x)=(o6 ks ps (.inr x)).map .fz:=Eq.trans rfl rfl
theorem EG {ks:List eX}{ps:List PV}{x:Str}:wz (.str x) (.dct ks ps)=some (.fz (.bl (o6 ks ps (.inr x)).isSome)):=Eq.trans rfl rfl
theorem Hr {j:Nat}{fi f:FE}{ρ:aq}:mU j fi f ρ=Fa ((f ρ).bind RV.fr) (sl ρ j) ((fi ρ).bind RV.fr) j ρ:=Eq.trans rfl rfl
theorem zZ {v:PV}{ps:List PV}{k:Int}{j:Nat}{ρ:aq}:Fa (some v) (some (.own ps)) (some (.int k)) j ρ=yq (sQ ps.length k) v ps j ρ:=Eq.trans rfl rfl
theorem yi {v:PV}{ps:List PV}{n j:Nat}{ρ:aq}:yq (some n) v ps j ρ=.nx (ρ.set j (some (.own (ps.set n v)))):=Eq.trans rfl rfl
theorem HN {it:FI}{t:FT}{s:FS}{ρ:aq}:jP it t s ρ=LZ (it ρ) t s ρ:=Eq.trans rfl rfl
theorem yl {its:List PV}{t:FT}{s:FS}{ρ:aq}:LZ (some its) t s ρ=bn t s its ρ:=Eq.trans rfl rfl
theorem AF {c:FB}{s:FS}{ρ:aq}:eT c s ρ=bP c s 10000 ρ:=Eq.trans rfl rfl
theorem wK {ρ:aq}:Out.res (.nx ρ)=some (.v .non):=Eq.trans rfl rfl
theorem wS {p:PV}{ρ:aq}:Out.res (.rt p ρ)=some (.v p):=Eq.trans rfl rfl
theorem vC {p:List PV}{ρ:aq}:Out.res (.rn p ρ)=some (.n p):=Eq.trans rfl rfl
theorem tj {p:PV}{ρ:aq}:Out.res2 (.rt p ρ)=some (.v p,ρ):=Eq.trans rfl rfl
theorem CN {p:PV}{ps:List PV}{ρ:aq}:nJ (some (.v p,some (.own ps)::ρ))=some (ps,p):=Eq.trans rfl rfl
theorem P8 {i:Nat}{ρ:aq}:fV i ρ=(sl ρ i).map t5:=Eq.trans rfl rfl
theorem Ib {s:Option Sl}{ρ:aq}:sl (s::ρ) 0=s:=Eq.trans rfl rfl
theorem HL {s:Option Sl}{i:Nat}{ρ:aq}:sl (s::ρ) (i+1)=sl ρ i:=Eq.trans rfl rfl
theorem wL {p:PV}:t5 (.val p)=.fz p:=Eq.trans rfl rfl
theorem v4 {p:List PV}:t5 (.own p)=.ln (.lst p):=Eq.trans rfl rfl
theorem P4 {p:PV}{ρ:aq}:fC p ρ=some (.fz p):=Eq.trans rfl rfl
theorem L4 {g:PV->PV->Option RV}{a b:FE}{ρ:aq}:ak g a b ρ=(a ρ).bind λx=>(b ρ).bind λy=>g x.pv y.pv:=Eq.trans rfl rfl
theorem yj {p:PV}:RV.pv (.fz p)=p:=Eq.trans rfl rfl
theorem zY {p:List PV}:RV.pv (.nw p)=.lst p:=Eq.trans rfl rfl
theorem zh {p:PV}:RV.pv (.ln p)=p:=Eq.trans rfl rfl
theorem yX {p:PV}:RV.fr (.fz p)=some p:=Eq.trans rfl rfl
theorem yv {p:List PV}:RV.fr (.nw p)=some (.lst p):=Eq.trans rfl rfl
theorem ym {p:PV}:RV.fr (.ln p)=none:=Eq.trans rfl rfl
theorem Qa {f:FE}{ρ:aq}:fT f ρ=Bw (f ρ):=Eq.trans rfl rfl
theorem HP {b:Bool}:Bw (some (.fz (.bl b)))=some b:=Eq.trans rfl rfl
theorem C5 {g:FB}{ρ:aq}:e8 g ρ=(g ρ).map λb=>!b:=Eq.trans rfl rfl
theorem DD {g k:FB}{ρ:aq}:j5 g k ρ=(g ρ).bind λb=>if b=true then k ρ else some false:=Eq.trans rfl rfl
theorem H8 {g k:FB}{ρ:aq}:oy g k ρ=(g ρ).bind λb=>if b=true then some true else k ρ:=Eq.trans rfl rfl
theorem HS {f:FE}{ρ:aq}:rH f ρ=(f ρ).bind λr=>r.fr.map .fz:=Eq.trans rfl rfl
theorem CZ {f g:FE}{ρ:aq}:iY f g ρ=(Bw (f ρ)).bind λb=>if b=true then rH g ρ else some (.fz (.bl false)):=Eq.trans rfl rfl
theorem DM {f:FE}{ρ:aq}:zf f ρ=(Bw (f ρ)).map λb=>.fz (.bl (!b)):=Eq.trans rfl rfl
theorem Iy {f:FE}{ρ:aq}:qb f ρ=(f ρ).bind λr=>Fe r.fr:=Eq.trans rfl rfl
theorem zk {i:Int}:Fe (some (.int i))=some (.fz (.int (-i))):=Eq.trans rfl rfl
theorem HD {g:FB}{f k:FE}{ρ:aq}:N6 g f k ρ=(g ρ).bind λb=>if b=true then rH f ρ else rH k ρ:=Eq.trans rfl rfl
theorem LX {g g':PV->PV->Option RV}{a b c:FE}{ρ:aq}:EJ g g' a b c ρ=(a ρ).bind λx=>(b ρ).bind λy=>(Bw (g x.pv y.pv)).bind λk=>if k=true then (c ρ).bind λz=>g' y.pv z.pv else some (.fz (.bl false)):=Eq.trans rfl rfl
theorem Hj {ρ:aq}:af ρ=some []:=Eq.trans rfl rfl
theorem DX {f:FE}{fs:FA}{ρ:aq}:aa f fs ρ=(f ρ).bind λr=>(fs ρ).bind λrs=>some (r::rs):=Eq.trans rfl rfl
theorem qg  : ([]:List RV).mapM RV.fr=some []:=Eq.trans rfl rfl
theorem H6 {fs:FA}{ρ:aq}:bV fs ρ=(fs ρ).bind λrs=>(rs.mapM RV.fr).bind λps=>if ps.length<=100000 then some (.fz (.tup ps)) else none:=Eq.trans rfl rfl
theorem HH {fs:FA}{ρ:aq}:im fs ρ=(fs ρ).bind λrs=>(rs.mapM RV.fr).bind λps=>if ps.length<=100000 then some (.nw ps) else none:=Eq.trans rfl rfl
theorem Aj {i j:Int}:b6 (.int i) (.int j)=some (.fz (.int (i+j))):=Eq.trans rfl rfl
theorem zE {ps qs:List PV}:b6 (.tup ps) (.tup qs)=if ps.length+qs.length<=100000 then some (.fz (.tup (ps++qs))) else none:=Eq.trans rfl rfl
theorem yV {i j:Int}:qm (.int i) (.int j)=some (.fz (.int (i - j))):=Eq.trans rfl rfl
theorem zu {i j:Int}:gh (.int i) (.int j)=if (i.natAbs<2 ^ 64)\/(j.natAbs<2 ^ 64) then some (.fz (.int (i * j))) else none:=Eq.trans rfl rfl
theorem yR {i j:Int}:oj (.int i) (.int j)=if 0<j/\j<1073741824 then some (.fz (.int (i / j))) else none:=Eq.trans rfl rfl
theorem y8 {i j:Int}:bJ (.int i) (.int j)=if 0<j then some (.fz (.int (i % j))) else none:=Eq.trans rfl rfl
theorem Ah {i j:Int}:KW (.int i) (.int j)=if 0<=j/\j<=1000000/\i.natAbs<2 ^ 64 then some (.fz (.int (i ^ j.toNat))) else none:=Eq.trans rfl rfl
theorem BY {i j:Int}:Ip (.int i) (.int j)=some (.fz (.bl (decide (i<j)))):=Eq.trans rfl rfl
theorem D8 {i j:Int}:EN (.int i) (.int j)=some (.fz (.bl (decide (i<=j)))):=Eq.trans rfl rfl
theorem DE {i j:Int}:Lm (.int i) (.int j)=some (.fz (.bl (decide (j<i)))):=Eq.trans rfl rfl
theorem Eu {i j:Int}:LA (.int i) (.int j)=some (.fz (.bl (decide (j<=i)))):=Eq.trans rfl rfl
theorem BE {x y:PV}:j7 x y=if bM x&&bM y&&decide (sW x<=50) then some (.fz (.bl (kK x y))) else none:=Eq.trans rfl rfl
theorem BI {x y:PV}:mW x y=if bM x&&bM y&&decide (sW x<=50) then some (.fz (.bl (!kK x y))) else none:=Eq.trans rfl rfl
theorem Er {x:PV}{ps:List PV}:wz x (.tup ps)=if bM x&&aK ps&&decide (dF ps<=50) then some (.fz (.bl (pin x ps))) else none:=Eq.trans rfl rfl
theorem Da {x:PV}:LC x .non=some (.fz (.bl (kZ x))):=Eq.trans rfl rfl
theorem sC {x:PV}:mP x .non=some (.fz (.bl (!kZ x))):=Eq.trans rfl rfl
theorem DN {ps:List PV}{i:Int}:bo (.tup ps) (.int i)=(L2.c8 ps i).map .fz:=Eq.trans rfl rfl
theorem CB {ps:List PV}{i:Int}:bo (.lst ps) (.int i)=(L2.c8 ps i).map .fz:=Eq.trans rfl rfl
theorem DA {ps:List PV}{i:Int}:bo (.src ps) (.int i)=(L2.c8 ps i).map .fz:=Eq.trans rfl rfl
theorem Ii {g:PV->Option Int->Option Int->Option RV}{f:FE}{l h:FO}{ρ:aq}:G5 g f l h ρ=(f ρ).bind λr=>(l ρ).bind λlo=>(h ρ).bind λhi=>g r.pv lo hi:=Eq.trans rfl rfl
theorem jM {ps:List PV}{l h:Option Int}:zd (.tup ps) l h=some (.fz (.tup (mB ps l h))):=Eq.trans rfl rfl
theorem Nv {ρ:aq}:sg ρ=some none:=Eq.trans rfl rfl
theorem MH {f:FE}{ρ:aq}:rR f ρ=(f ρ).bind λr=>Ow r.fr:=Eq.trans rfl rfl
theorem Eh {i:Int}:Ow (some (.int i))=some (some i):=Eq.trans rfl rfl
theorem Bx {ps:List PV}{l h:Option Int}:LY (.lst ps) l h=some (.nw (mB ps l h)):=Eq.trans rfl rfl
theorem B4 {ps:List PV}{l h:Option Int}:LY (.src ps) l h=some (.nw (mB ps l h)):=Eq.trans rfl rfl
theorem Qs {g:List PV->Option RV}{fs:FA}{ρ:aq}:fB g fs ρ=(fs ρ).bind λrs=>g (rs.map RV.pv):=Eq.trans rfl rfl
theorem yt {ps:List PV}:gw [.lst ps]=some (.fz (.int ps.length)):=Eq.trans rfl rfl
theorem y9 {ps:List PV}:gw [.tup ps]=some (.fz (.int ps.length)):=Eq.trans rfl rfl
theorem zD {ps:List PV}:gw [.src ps]=some (.fz (.int ps.length)):=Eq.trans rfl rfl
theorem yF {i:Int}:Eo [.int i]=some (.fz (.int (if i<0 then -i else i))):=Eq.trans rfl rfl
theorem zA {i j:Int}:tD [.int i,.int j]=some (.fz (.int (if j > i then j else i))):=Eq.trans rfl rfl
theorem yL {i j:Int}:mw [.int i,.int j]=some (.fz (.int (if j<i then j else i))):=Eq.trans rfl rfl
theorem Ap {b:Bool}:vM [.bl b]=some (.fz (.int (if b then 1 else 0))):=Eq.trans rfl rfl
theorem zX {ps:List PV}:Bs [.lst ps]=(JY ps).map λbs=>.fz (.bl (bs.all id)):=Eq.trans rfl rfl
theorem zP {ps:List PV}:lG [.lst ps]=some (.fz (.tup ps)):=Eq.trans rfl rfl
theorem BH {lo j:Int}:iS [.rng lo j]=if lo=0/\0<=j/\j<=1000000 then some (.nw (rG 0 j.toNat)) else none:=Eq.trans rfl rfl
theorem wA {ps:List PV}:iS [.lst ps]=some (.nw ps):=Eq.trans rfl rfl
theorem wg {ps:List PV}:iS [.tup ps]=some (.nw ps):=Eq.trans rfl rfl
theorem Gz {j:Int}:uH [.int j]=if -(2 ^ 62)<=j/\j<2 ^ 62 then some (.fz (.rng 0 j)) else none:=Eq.trans rfl rfl
theorem CY {F:List PV->Option PR}{fs:FA}{ρ:aq}:ao F fs ρ=(fs ρ).bind λrs=>qK F (rs.mapM RV.fr) rs:=Eq.trans rfl rfl
theorem vt {F:List PV->Option PR}{ps:List PV}{rs:List RV}:qK F (some ps) rs=(F ps).map wJ:=Eq.trans rfl rfl
theorem vV {F:List PV->Option PR}{rs:List RV}:qK F none rs=(F (rs.map RV.pv)).bind λr=>if OF r=true then some (wJ r) else none:=Eq.trans rfl rfl
theorem En {p:PV}:wJ (.v p)=.fz p:=Eq.trans rfl rfl
theorem Cz {p:List PV}:wJ (.n p)=.nw p:=Eq.trans rfl rfl
theorem yC {p:PV}:OF (.v p)=tf p:=Eq.trans rfl rfl
theorem zp {p:List PV}:OF (.n p)=xa p:=Eq.trans rfl rfl
theorem M7 {f:FE}{ρ:aq}:wq f ρ=(f ρ).bind λr=>r.fr.bind items:=Eq.trans rfl rfl
theorem sU {ps:List PV}:items (.tup ps)=some ps:=Eq.trans rfl rfl
theorem sP {ps:List PV}:items (.lst ps)=some ps:=Eq.trans rfl rfl
theorem Hv {g:List PV->Option (List PV)}{fs:FA}{ρ:aq}:k5 g fs ρ=(fs ρ).bind λrs=>g (rs.map RV.pv):=Eq.trans rfl rfl
theorem Jz {j:Int}:nK [.int j]=if Ep j then some (rG 0 j.toNat) else none:=Eq.trans rfl rfl
theorem J5 {i j:Int}:A7 [.int i,.int j]=if Ep i&&Ep j then some (rG i (j - i).toNat) else none:=Eq.trans rfl rfl
theorem Io {f:FE}{ρ:aq}:Ce f ρ=(f ρ).bind λr=>Ft r.pv:=Eq.trans rfl rfl
theorem yh {ps:List PV}:Ft (.tup ps)=some (.fz (.tup ps.reverse)):=Eq.trans rfl rfl
theorem zt {g:Int->Int->Int}{j:Nat}{fi f:FE}{ρ:aq}:ku g j fi f ρ=uB g (sl ρ j) ((fi ρ).bind RV.fr) ((f ρ).bind RV.fr) j ρ:=Eq.trans rfl rfl
theorem sN {g:Int->Int->Int}{ps:List PV}{k b:Int}{j:Nat}{ρ:aq}:uB g (some (.own ps)) (some (.int k)) (some (.int b)) j ρ=if 0<=k then pK g ps[k.toNat]? ps k b j ρ else .bad:=Eq.trans rfl rfl
theorem sM {g:Int->Int->Int}{a:Int}{ps:List PV}{k b:Int}{j:Nat}{ρ:aq}:pK g (some (.int a)) ps k b j ρ=.nx (ρ.set j (some (.own (ps.set k.toNat (.int (g a b)))))):=Eq.trans rfl rfl
theorem BZ {fs:FA}{ρ:aq}:mv fs ρ=(fs ρ).bind λrs=>(rs.mapM RV.fr).bind wE:=Eq.trans rfl rfl
theorem wa {ps:List PV}:wE [.tup ps]=some (cc 0 ps):=Eq.trans rfl rfl
theorem Nn {i:Nat}{p:PV}{ρ:aq}:gN i p ρ=some (ρ.set i (some (.val p))):=Eq.trans rfl rfl
theorem Mn {ρ:aq}:g0 [] ρ=some ρ:=Eq.trans rfl rfl
theorem LR {t:FT}{ts:AT}{p:PV}{ps:List PV}{ρ:aq}:gC t ts (p::ps) ρ=(t p ρ).bind λρ'=>ts ps ρ':=Eq.trans rfl rfl
theorem HK {n:Nat}{ts:AT}{ps:List PV}{ρ:aq}:ff n ts (.tup ps) ρ=if ps.length=n then ts ps ρ else none:=Eq.trans rfl rfl
theorem DP {fm:List (Option Nat)}{it:FI}{t:FT}{c:FB}{f:FE}{ρ:aq}:dL fm it t c f ρ=(it ρ).bind λits=>if its.length<1000 then (pP t c f (iW fm ρ) its).map .nw else none:=Eq.trans rfl rfl
theorem tF {ρ:aq}:iW [] ρ=[]:=Eq.trans rfl rfl
theorem qY {fm:List (Option Nat)}{ρ:aq}:iW (none::fm) ρ=none::iW fm ρ:=Eq.trans rfl rfl
theorem qv {j:Nat}{fm:List (Option Nat)}{ρ:aq}:iW (some j::fm) ρ=sl ρ j::iW fm ρ:=Eq.trans rfl rfl
theorem C9 {s v:Option Sl}{ρ:aq}:List.set (s::ρ) 0 v=v::ρ:=Eq.trans rfl rfl
theorem DL {s v:Option Sl}{i:Nat}{ρ:aq}:List.set (s::ρ) (i+1) v=s::List.set ρ i v:=Eq.trans rfl rfl
theorem zV {p:PV}{n:String}{b:Bool}(hn:n = "int"\/n = "bool"\/n = "str"\/n = "tuple"\/n = "list"\/n = "dict")(h:Qf n p=some b):uP [p,.ty n]=some (.fz (.bl b)):=by
 unfold uP;simp only[hn,if_true,h,a5k]
theorem nU {i:Int}:uP [(.int i),.ty "int"]=some (.fz (.bl true)):=zV (by decide) rfl
theorem mI {i:Int}:uP [(.int i),.ty "bool"]=some (.fz (.bl false)):=zV (by decide) rfl
theorem lw {i:List PV}:uP [(.tup i),.ty "tuple"]=some (.fz (.bl true)):=zV (by decide) rfl
theorem nZ {i:Str}:uP [(.str i),.ty "str"]=some (.fz (.bl true)):=zV (by decide) rfl
theorem oR {α β:Type}{a:α}{f:α->Option β}:((some a).bind f)=f a:=Eq.trans rfl rfl
theorem o9 {α β:Type}{f:α->Option β}:((none:Option α).bind f)=none:=Eq.trans rfl rfl
theorem qM {α β:Type}{a:α}{f:α->β}:((some a).map f)=some (f a):=Eq.trans rfl rfl
theorem JX {α β:Type}{f:α->β}:((none:Option α).map f)=none:=Eq.trans rfl rfl
theorem rj {α β:Type}{a:α}{l:List α}{f:α->β}:((a::l).map f)=f a::l.map f:=Eq.trans rfl rfl
theorem sx {α β:Type}{f:α->β}:(([]:List α).map f)=[]:=Eq.trans rfl rfl
theorem tO {α:Type}{l:List α}:([]++l)=l:=Eq.trans rfl rfl
theorem qj {α:Type}{a:α}{l m:List α}:((a::l)++m)=a::(l++m):=Eq.trans rfl rfl
theorem ry {α:Type}{a:α}{l:List α}:((a::l).length)=l.length+1:=Eq.trans rfl rfl
theorem tS {α:Type}:(([]:List α).length)=0:=Eq.trans rfl rfl
theorem Dq {α:Type}{a b:α}:((if True then a else b))=a:=Eq.trans rfl rfl
theorem Dk {α:Type}{a b:α}:((if False then a else b))=b:=Eq.trans rfl rfl
theorem Ox {α:Type}{a b:α}:((if true=true then a else b))=a:=Eq.trans rfl rfl
theorem y3 {α:Type}{a b:α}:((if false=true then a else b))=b:=Eq.trans rfl rfl
theorem ti {α:Type}{a:α}{l:List α}:((a::l).isEmpty)=false:=Eq.trans rfl rfl
theorem sG {α:Type}:(([]:List α).isEmpty)=true:=Eq.trans rfl rfl
theorem Hm  : (bM .non)=true:=Eq.trans rfl rfl
theorem ra {b:Bool}:(bM (.bl b))=true:=Eq.trans rfl rfl
theorem pg {b:Int}:(bM (.int b))=true:=Eq.trans rfl rfl
theorem oZ {b:Str}:(bM (.str b))=true:=Eq.trans rfl rfl
theorem Lu  : (sW .non)=0:=Eq.trans rfl rfl
theorem wC {b:Bool}:(sW (.bl b))=0:=Eq.trans rfl rfl
theorem tq {b:Int}:(sW (.int b))=0:=Eq.trans rfl rfl
theorem sL {b:Str}:(sW (.str b))=0:=Eq.trans rfl rfl
theorem ML {n:Nat}:(nI n)=PV.int n:=Eq.trans rfl rfl
theorem Ac  : (kZ .non)=true:=Eq.trans rfl rfl
theorem LG {i:Int}:(kZ (.int i))=false:=Eq.trans rfl rfl
theorem LF {i:Bool}:(kZ (.bl i))=false:=Eq.trans rfl rfl
theorem sR {i:List PV}:(kZ (.tup i))=false:=Eq.trans rfl rfl
theorem LJ {i:List PV}:(kZ (.lst i))=false:=Eq.trans rfl rfl
theorem Ls {i:Str}:(kZ (.str i))=false:=Eq.trans rfl rfl
theorem Ia {i:Int}:(Ep i)=(decide (-4611686018427387904<=i)&&decide (i<4611686018427387904)):=Eq.trans rfl rfl
theorem tH {ps:List PV}:bM (.tup ps)=aK ps:=by rw[bM]
theorem tT {ps:List PV}:bM (.lst ps)=aK ps:=by rw[bM]
theorem qn:aK []=true:=by rw[aK]
theorem qX {p:PV}{ps:List PV}:aK (p::ps)=(bM p&&aK ps):=by rw[aK]
theorem zm {ps:List PV}:sW (.tup ps)=dF ps+1:=by rw[sW]
theorem zN {ps:List PV}:sW (.lst ps)=dF ps+1:=by rw[sW]
theorem vc:dF []=0:=by rw[dF]
theorem v3 {p:PV}{ps:List PV}:dF (p::ps)=max (sW p) (dF ps):=by rw[dF]
end Dp
end
local macro_rules | `(tactic| simp! [$xs,*] $[$l:location]?) => `(tactic| simp only [$xs,*, Dp.DZ, Dp.pi, Dp.H0, Dp.u4, Dp.uw, Dp.uJ, Dp.B5, Dp.BB, Dp.sv, Dp.tL, Dp.DT, Dp.CK, Dp.tR, Dp.Ij, Dp.vE, Dp.vg, Dp.xf, Dp.rf, Dp.wP, Dp.Nb, Dp.EE, Dp.EC, Dp.HZ, Dp.yZ, Dp.Ie, Dp.wj, Dp.Hq, Dp.zF, Dp.Es, Dp.IA, Dp.Ai, Dp.Ht, Dp.Iq, Dp.Au, Dp.MW, Dp.bZ, Dp.CU, Dp.yn, Dp.aN, Dp.CM, Dp.Ad, Dp.Ex, Dp.vn, Dp.tm, Dp.Dc, Dp.EG, Dp.Hr, Dp.zZ, Dp.yi, Dp.HN, Dp.yl, Dp.AF, Dp.wK, Dp.wS, Dp.vC, Dp.tj, Dp.CN, Dp.P8, Dp.Ib, Dp.HL, Dp.wL, Dp.v4, Dp.P4, Dp.L4, Dp.yj, Dp.zY, Dp.zh, Dp.yX, Dp.yv, Dp.ym, Dp.Qa, Dp.HP, Dp.C5, Dp.DD, Dp.H8, Dp.HS, Dp.CZ, Dp.DM, Dp.Iy, Dp.zk, Dp.HD, Dp.LX, Dp.Hj, Dp.DX, Dp.qg, Dp.H6, Dp.HH, Dp.Aj, Dp.zE, Dp.yV, Dp.zu, Dp.yR, Dp.y8, Dp.Ah, Dp.BY, Dp.D8, Dp.DE, Dp.Eu, Dp.BE, Dp.BI, Dp.Er, Dp.Da, Dp.sC, Dp.DN, Dp.CB, Dp.DA, Dp.Ii, Dp.Nv, Dp.MH, Dp.Eh, Dp.Bx, Dp.B4, Dp.Qs, Dp.yt, Dp.y9, Dp.zD, Dp.yF, Dp.zA, Dp.yL, Dp.Ap, Dp.zX, Dp.zP, Dp.wA, Dp.wg, Dp.CY, Dp.vt, Dp.vV, Dp.En, Dp.Cz, Dp.yC, Dp.zp, Dp.M7, Dp.sU, Dp.sP, Dp.Hv, Dp.Io, Dp.yh, Dp.zt, Dp.sN, Dp.sM, Dp.BZ, Dp.wa, Dp.Nn, Dp.Mn, Dp.LR, Dp.HK, Dp.DP, Dp.tF, Dp.qY, Dp.qv, Dp.C9, Dp.DL, Dp.nU, Dp.mI, Dp.lw, Dp.nZ, Dp.oR, Dp.o9, Dp.qM, Dp.rj, Dp.sx, Dp.tO, Dp.qj, Dp.ry, Dp.tS, Dp.Dq, Dp.Dk, Dp.y3, Dp.ti, Dp.sG, Dp.ra, Dp.pg, Dp.oZ, Dp.wC, Dp.tq, Dp.sL, Dp.ML, Dp.Ac, Dp.sR, Dp.tH, Dp.tT, Dp.qn, Dp.qX, Dp.zm, Dp.zN, Dp.vc, Dp.v3, Dp.Qd, Dp.P6, Dp.pQ, Dp.uQ, Dp.BM, Dp.AC, Dp.An, Dp.sI, Dp.qA, and_true, true_and, false_and, Nat.zero_add, Int.toNat_natCast, Bool.not_true, Bool.not_false, Bool.and_true, Nat.zero_le, decide_true, decide_false, Dp.fS, Dp.ja, Dp.oA, Nat.max_self, Nat.zero_max, Nat.max_zero, Nat.reduceAdd, Nat.reduceSub, Nat.reduceLeDiff, Nat.reduceLT, Nat.reduceEqDiff, Int.reduceLT, Int.reduceLE, Int.reduceAdd, Int.reduceSub, Int.reduceMul, Int.reduceMod, Int.reduceDiv, Int.reduceNeg, Int.reduceToNat, Int.reducePow, Int.reduceEq] $[$l:location]?)
local macro_rules | `(tactic| simp_all! [$xs,*]) => `(tactic| simp only [$xs,*, Dp.DZ, Dp.pi, Dp.H0, Dp.u4, Dp.uw, Dp.uJ, Dp.B5, Dp.BB, Dp.sv, Dp.tL, Dp.DT, Dp.CK, Dp.tR, Dp.Ij, Dp.vE, Dp.vg, Dp.xf, Dp.rf, Dp.wP, Dp.Nb, Dp.EE, Dp.EC, Dp.HZ, Dp.yZ, Dp.Ie, Dp.wj, Dp.Hq, Dp.zF, Dp.Es, Dp.IA, Dp.Ai, Dp.Ht, Dp.Iq, Dp.Au, Dp.MW, Dp.bZ, Dp.CU, Dp.yn, Dp.aN, Dp.CM, Dp.Ad, Dp.Ex, Dp.vn, Dp.tm, Dp.Dc, Dp.EG, Dp.Hr, Dp.zZ, Dp.yi, Dp.HN, Dp.yl, Dp.AF, Dp.wK, Dp.wS, Dp.vC, Dp.tj, Dp.CN, Dp.P8, Dp.Ib, Dp.HL, Dp.wL, Dp.v4, Dp.P4, Dp.L4, Dp.yj, Dp.zY, Dp.zh, Dp.yX, Dp.yv, Dp.ym, Dp.Qa, Dp.HP, Dp.C5, Dp.DD, Dp.H8, Dp.HS, Dp.CZ, Dp.DM, Dp.Iy, Dp.zk, Dp.HD, Dp.LX, Dp.Hj, Dp.DX, Dp.qg, Dp.H6, Dp.HH, Dp.Aj, Dp.zE, Dp.yV, Dp.zu, Dp.yR, Dp.y8, Dp.Ah, Dp.BY, Dp.D8, Dp.DE, Dp.Eu, Dp.BE, Dp.BI, Dp.Er, Dp.Da, Dp.sC, Dp.DN, Dp.CB, Dp.DA, Dp.Ii, Dp.Nv, Dp.MH, Dp.Eh, Dp.Bx, Dp.B4, Dp.Qs, Dp.yt, Dp.y9, Dp.zD, Dp.yF, Dp.zA, Dp.yL, Dp.Ap, Dp.zX, Dp.zP, Dp.wA, Dp.wg, Dp.CY, Dp.vt, Dp.vV, Dp.En, Dp.Cz, Dp.yC, Dp.zp, Dp.M7, Dp.sU, Dp.sP, Dp.Hv, Dp.Io, Dp.yh, Dp.zt, Dp.sN, Dp.sM, Dp.BZ, Dp.wa, Dp.Nn, Dp.Mn, Dp.LR, Dp.HK, Dp.DP, Dp.tF, Dp.qY, Dp.qv, Dp.C9, Dp.DL, Dp.nU, Dp.mI, Dp.lw, Dp.nZ, Dp.oR, Dp.o9, Dp.qM, Dp.rj, Dp.sx, Dp.tO, Dp.qj, Dp.ry, Dp.tS, Dp.Dq, Dp.Dk, Dp.y3, Dp.ti, Dp.sG, Dp.ra, Dp.pg, Dp.oZ, Dp.wC, Dp.tq, Dp.sL, Dp.ML, Dp.Ac, Dp.sR, Dp.tH, Dp.tT, Dp.qn, Dp.qX, Dp.zm, Dp.zN, Dp.vc, Dp.v3, Dp.Qd, Dp.P6, Dp.pQ, Dp.uQ, Dp.BM, Dp.AC, Dp.An, Dp.sI, Dp.qA, and_true, true_and, false_and, Nat.zero_add, Int.toNat_natCast, Bool.not_true, Bool.not_false, Bool.and_true, Nat.zero_le, decide_true, decide_false, Dp.fS, Dp.ja, Dp.oA, Nat.max_self, Nat.zero_max, Nat.max_zero])
section
namespace Dp
open PySem PySem.Spec L2 PyProof.Rows
section
variable {X:Cx}{i j:Nat}{x y:Str}{pos:Pos}
theorem Z.ok.track {z:Z X}{s:Shared}(hz:z.ok s){a:Addr}(fr:kR z.bad z.H a)(h00:X.s₀.heap.get? a=none)(hp:∀p∈X.pn++z.pins,p.1≠a)(nt:∃ob,s.heap.get? a=some ob/\ob.cls≠.type "tuple")
  (sk:∀(j:Nat) t v,z.ρ[j]?=some (some t)->z.σ[j]?=some (some v)->SlOk (bI X z.bad (fI z.H a aL)) z.H s.heap t v):(z.wi z.σ (fI z.H a aL) z.ρ).ok s:=by
 obtain⟨ob,ho,hcl⟩:=nt
 have hnb:=fr.2
 have hne:∀{b},z.H b=some aL->b≠a:=λ{b} hb y=>by subst y;rw[fr.1] at hb;cases hb
 refine⟨Inv.track hz.I fr.1 ho h00 (λq=>hnb (q▸hz.loc)) (λy c e q=>hnb (q▸hz.cel y c e)) hp,hz.len,λj t q=>?_,hz.dj,hz.nb,λb o q=>?_,hz.oh0,hz.loc,hz.cel,hz.fs,hz.ex,hz.there,hz.bs,λb o q=>?_,hz.anc⟩
 ·obtain⟨v,e1,r,_⟩:=hz.slk j t q
  refine⟨v,e1,r,?_⟩
  have d:=sk j t v q e1
  cases t with
  |val p=>exact d
  |own ps=>obtain⟨b,rfl,hb,l⟩:=d;exact⟨b,rfl,(aS (hne hb)).trans hb,l⟩
  |dic ks ps=>obtain⟨b,rfl,hb,l⟩:=d;exact⟨b,rfl,(aS (hne hb)).trans hb,l⟩
 ·by_cases hba:b=a
  ·have q:fI z.H a aL b=some o:=q
   rw[hba,bQ] at q;cases q;rfl
  ·have q:fI z.H a aL b=some o:=q
   rw[aS hba] at q;exact hz.oh b o q
 ·by_cases hba:b=a
  ·rw[hba];exact⟨hnb,ob,ho,hcl⟩
  ·have q:fI z.H a aL b=some o:=q
   rw[aS hba] at q;exact hz.ot b o q
theorem Ch {z:Z X}{s1:Shared}(hz:z.ok s1){i:Nat}{x:Str}(nm:Nm X i x){t:Sl}(ht:cH t=true){a:Addr}(hH:z.H a=some aL)(no:∀j,¬bW z.σ z.ρ j a)(h00:X.s₀.heap.get? a=none\/X.H₀ a≠none)
  (d:SlOk z.cn z.H s1.heap t (.ref a)) {E:Value->Shared->Prop} :
  W X (storeName X.env x (.ref a)) (λ_ s'=>(z.wi (z.σ.set i (some (.ref a))) z.H (z.ρ.set i (some t))).ok s'/\Ext z.bad s1.heap s'.heap) E s1:=by
 refine jX hz.I nm.nd nm.ix nm.loc (v:=.ref a) rfl (λs' I' ⟨b,sb,hb⟩=>?_) nm.fn
 have e:Ext z.bad s1.heap s'.heap:=k8 (z:=z) hz I' sb hb
 have hil:i<z.σ.length:=by rw[hz.I.len];exact (a0i.mp nm.ix).1
 have hil2:i<z.ρ.length:=by rw[←hz.len];exact hil
 have oset:∀{j b},bW (z.σ.set i (some (.ref a))) (z.ρ.set i (some t)) j b->(j=i/\b=a)\/(j≠i/\bW z.σ z.ρ j b):=λ{j b} o=>by
  obtain⟨⟨t',e1,ot⟩,q⟩:=o
  by_cases hj:i=j
  ·subst hj
   rw[a0x hil] at q;cases q
   exact .inl ⟨rfl,rfl⟩
  ·rw[a0q hj] at e1 q
   exact .inr ⟨Ne.symm hj,⟨t',e1,ot⟩,q⟩
 refine⟨⟨I',by simp[hz.len],λj t' q=>?_,λj k b o1 o2=>?_,λj b o=>?_,hz.oh,hz.oh0,hz.loc,hz.cel,hz.fs,hz.ex,λb q=>let ⟨o,r⟩:=hz.there b q;e.th b o r,hz.bs,λb o q=>?_,λhf b hb=>(a0q (nm.an hf ⟨b,hb⟩)).trans (hz.anc hf b hb)⟩,e⟩
 ·by_cases hj:i=j
  ·subst hj
   have q:(z.ρ.set i (some t))[i]?=some (some t'):=q
   rw[a0x hil2] at q
   cases q
   exact⟨.ref a,a0x hil,⟨.ref a,rfl⟩,SlOk.mono (c:=z.cn) (c':=z.cn) e.kpD (λb o hb w=>e.kp b o (hz.ot b _ hb).1 w) d⟩
  ·have q:(z.ρ.set i (some t))[j]?=some (some t'):=q
   rw[a0q hj] at q
   obtain⟨w,e1,r,d⟩:=hz.slk j t' q
   exact⟨w,by rw[show (z.wi (z.σ.set i (some (.ref a))) z.H (z.ρ.set i (some t))).σ=z.σ.set i (some (.ref a)) from rfl,a0q hj];exact e1,r,d.step hz e q e1⟩
 ·rcases oset o1 with ⟨e1,e2⟩|⟨e1,e2⟩<;>rcases oset o2 with ⟨f1,f2⟩|⟨f1,f2⟩
  ·rw[e1,f1]
  ·subst e2;exact absurd f2 (no k)
  ·subst f2;exact absurd e2 (no j)
  ·exact hz.dj j k b e2 f2
 ·rcases oset o with ⟨e1,e2⟩|⟨e1,e2⟩
  ·subst e2;exact⟨(hz.ot b _ hH).1,h00⟩
  ·exact hz.nb j b e2
 ·obtain⟨r0,ob',r1,r2⟩:=hz.ot b o q
  exact⟨r0,ob',e.kp b ob' r0 r1,r2⟩
theorem Z.ok.no_own {z:Z X}{s:Shared}(hz:z.ok s){a:Addr}(n:s.heap.get? a=none)(j:Nat):¬bW z.σ z.ρ j a:=λo=>by
 obtain⟨⟨t',e1,ot⟩,q⟩:=o
 obtain⟨v,e2,_,d2⟩:=hz.slk j t' e1
 rw[q] at e2;cases e2
 have:z.H a=some aL:=by
  cases t' with
  |val p=>cases ot
  |own ps=>obtain⟨b,e3,h,_⟩:=d2;cases e3;exact h
  |dic ks ps=>obtain⟨b,e3,h,_⟩:=d2;cases e3;exact h
 obtain⟨ob,r⟩:=hz.stands this
 rw[n] at r;cases r
noncomputable def C8:RV->Option Sl
 |.fz p=>some (.val p)
 |.nw ps=>some (.own ps)
 |.ln _=>none
noncomputable def zL (o:Option Sl)(o':Option Sl)(i j:Nat)(ρ:aq):Out:=match o,o' with
 |some s,some t=>.nx ((ρ.set i (some s)).set j (some t))
 |_,_=>.bad
noncomputable abbrev FX:=aq->Option Sl
noncomputable def yw (i j:Nat)(g1 g2:FX):FS:=λρ=>zL (g1 ρ) (g2 ρ) i j ρ
noncomputable def xE (f:FE):FX:=λρ=>(f ρ).bind C8
noncomputable def vf (i:Nat)(g:FX):FS:=λρ=>match g ρ with
 |some t=>.nx (ρ.set i (some t))
 |none=>.bad
structure Got (z z':Z X)(s s':Shared)(t:Sl)(u:Value):Prop where
 bad:z'.bad=z.bad
 pins:z'.pins=z.pins
 σ:z'.σ=z.σ
 ρ:z'.ρ=z.ρ
 ok:z'.ok s'
 stp:Stp z.bad z.H z'.H s.heap s'.heap
 old:∀b o,z.H b=some o->z'.H b=some o
 kept:∀b o,¬z.bad b->s.heap.get? b=some o->s'.heap.get? b=some o
 sl:(cH t=false/\(∃p,t=.val p/\D z'.cn s'.heap p u))\/(cH t=true/\∃a,u=.ref a/\s.heap.get? a=none/\z'.H a=some aL/\X.s₀.heap.get? a=none/\SlOk z'.cn z'.H s'.heap t (.ref a))
noncomputable def NX (X:Cx)(e:Expr)(g:FX):Prop:=∀(z:Z X) (s:Shared) (t:Sl) (E:Value->Shared->Prop),z.ok s->g z.ρ=some t->W X (eval e X.env) (λu s'=>∃z',Got z z' s s' t u) E s
theorem zn {z:Z X}{s s':Shared}{t:Sl}{a:Addr}(hz:z.ok s)(g:z.go s s')(ht:cH t=true)(n:s.heap.get? a=none)(nt:∃ob,s'.heap.get? a=some ob/\ob.cls≠.type "tuple")(d:SlOk (bI X z.bad (fI z.H a aL)) (fI z.H a aL) s'.heap t (.ref a)):∃z',Got z z' s s' t (.ref a):=by
 have hn:∀b o,z.H b=some o->b≠a:=λb o h y=>by subst y;obtain⟨ob,r⟩:=hz.stands h;rw[n] at r;cases r
 exact⟨z.wi z.σ (fI z.H a aL) z.ρ,rfl,rfl,rfl,rfl,g.1.track (hz.free n) (iN hz n) (λp hp q=>by have:=(hz.I.pin p hp).1;rw[q,n] at this;cases this) nt (hz.sk n g.2 λb=>.inl),Stp.new g.2 n,λb o h=>(aS (hn b o h)).trans h,λb o nb=>g.2.kp b o nb,.inr ⟨ht,a,rfl,n,bQ,iN hz n,d⟩⟩
theorem QL {z:Z X}{s s':Shared}{r:RV}{t:Sl}{u:Value}(hz:z.ok s)(p:Z.post z s r u s')(e:C8 r=some t):∃z',Got z z' s s' t u:=by
 cases r with
 |ln p=>cases e
 |fz p'=>cases e;exact⟨z,rfl,rfl,rfl,rfl,p.1.1,p.1.2.stp,λ_ _ h=>h,λb o n=>p.1.2.kp b o n,.inl ⟨rfl,p',rfl,p.2⟩⟩
 |nw ps=>
  cases e
  obtain⟨g,a,rfl,n,o,l⟩:=p
  exact zn hz g rfl n (nE l) ⟨a,rfl,bQ,l⟩
theorem Mz {e:Expr}{f:FE}(h:NE X e f):NX X e (xE f):=λz s t E hz q=>by
 obtain⟨r,er,q⟩:=a0a.mp q
 exact aV (h z s r E hz er) λu s1 p=>QL hz p q
theorem SlOk.old {c:Cn}{H H':Hp}{h:Heap}(q:∀b o,H b=some o->H' b=some o):∀{t:Sl} {v:V},SlOk c H h t v->SlOk c H' h t v
 |.val _,_,d=>d
 |.own _,_,⟨a,e,o,d⟩=>⟨a,e,q a _ o,d⟩
 |.dic _ _,_,⟨a,e,o,d⟩=>⟨a,e,q a _ o,d⟩
noncomputable def Z.ts (z:Z X)(s:Shared)(i:Nat)(t:Sl)(s':Shared):Prop:=∃v,(cH t=false\/∃a,v=V.ref a/\z.H a=some aL)/\(z.wi (z.σ.set i (some v)) z.H (z.ρ.set i (some t))).ok s'/\Ext z.bad s.heap s'.heap
theorem Bc {z:Z X}{s:Shared}(hz:z.ok s){i:Nat}{x:Str}(nm:Nm X i x){p:PV}{u:Value}(d:D z.cn s.heap p u){E:Value->Shared->Prop} :
  W X (storeName X.env x u) (λ_ s'=>z.ts s i (.val p) s') E s:=by
 obtain⟨v,ru,rv⟩:=d.v
 refine jX hz.I nm.nd nm.ix nm.loc ru (λs' I' ⟨a,sb,ha⟩=>?_) nm.fn
 have e:=k8 hz I' sb ha
 have hi:i<z.σ.length:=by rw[hz.I.len];exact (a0i.mp nm.ix).1
 have hi2:i<z.ρ.length:=by rw[←hz.len];exact hi
 refine⟨v,.inl rfl,⟨I',by simp[hz.len],λj t q=>?_,λj k a o1 o2=>hz.dj j k a (lV o1) (lV o2),λj a o=>hz.nb j a (lV o),hz.oh,hz.oh0,hz.loc,hz.cel,hz.fs,hz.ex,λb q=>let ⟨o,r⟩:=hz.there b q;e.th b o r,hz.bs,λa o q=>⟨(hz.ot a o q).1,let ⟨ob,r1,r2⟩:=(hz.ot a o q).2;⟨ob,e.kp a ob (hz.ot a o q).1 r1,r2⟩⟩,λhf a ha=>(a0q (nm.an hf ⟨a,ha⟩)).trans (hz.anc hf a ha)⟩,e⟩
 by_cases hj:i=j
 ·subst hj
  have q:(z.ρ.set i (some (.val p)))[i]?=some (some t):=q
  rw[a0x hi2] at q
  cases q
  exact⟨v,a0x hi,⟨u,ru⟩,λu' r=>(rv u' r).m e.kpD⟩
 ·have q:(z.ρ.set i (some (.val p)))[j]?=some (some t):=q
  rw[a0q hj] at q
  obtain⟨w,e1,r,d⟩:=hz.slk j t q
  exact⟨w,by rw[show (z.wi (z.σ.set i (some v)) z.H (z.ρ.set i (some (.val p)))).σ=z.σ.set i (some v) from rfl,a0q hj];exact e1,r,d.step hz e q e1⟩
noncomputable def Has (z:Z X)(h:Heap)(t:Sl)(u:Value):Prop:=(cH t=false/\(∃p,t=.val p/\D z.cn h p u))\/(cH t=true/\∃a,u=.ref a/\(∀j,¬bW z.σ z.ρ j a)/\z.H a=some aL/\X.s₀.heap.get? a=none/\SlOk z.cn z.H h t (.ref a))
theorem oG {z:Z X}{s:Shared}{i:Nat}{x:Str}{t:Sl}{u:Value}(hz:z.ok s)(nm:Nm X i x)(h:Has z s.heap t u){E:Value->Shared->Prop} :
  W X (storeName X.env x u) (λ_ s'=>z.ts s i t s'/\∀a,u=.ref a->cH t=true->∃v,v=V.ref a/\(z.wi (z.σ.set i (some v)) z.H (z.ρ.set i (some t))).ok s'/\Ext z.bad s.heap s'.heap) E s:=by
 rcases h with ⟨ho,p,rfl,d⟩|⟨ho,a,rfl,no,hH,h00,d⟩
 ·exact aV (Bc hz nm d) λ_ s' q=>⟨q,λ_ _ h=>(by cases h)⟩
 ·exact aV (Ch hz nm ho hH no (.inl h00) d) λ_ s' ⟨ok,e⟩=>⟨⟨.ref a,.inr ⟨a,rfl,hH⟩,ok,e⟩,λb hb _=>by cases hb;exact⟨_,rfl,ok,e⟩⟩
theorem Has.ext {z:Z X}{s:Shared}{h':Heap}{t:Sl}{u:Value}(hz:z.ok s)(e:Ext z.bad s.heap h'):Has z s.heap t u->Has z h' t u
 |.inl ⟨ho,p,e1,d⟩=>.inl ⟨ho,p,e1,d.m e.kpD⟩
 |.inr ⟨ho,a,e1,no,hH,h00,d⟩=>.inr ⟨ho,a,e1,no,hH,h00,SlOk.mono (c:=z.cn) (c':=z.cn) e.kpD (λb o hb w=>e.kp b o (hz.ot b _ hb).1 w) d⟩
theorem Has.over {z:Z X}{s s':Shared}{i:Nat}{t t':Sl}{u u':Value}{v:V}(hz:z.ok s)(h:Has z s.heap t u)(hv:cH t'=true->∃a,v=.ref a/\u≠.ref a)(e:Ext z.bad s.heap s'.heap):Has (z.wi (z.σ.set i (some v)) z.H (z.ρ.set i (some t'))) s'.heap t u:=by
 rcases h.ext hz e with h|⟨ho,a,rfl,no,r⟩
 ·exact .inl h
 ·refine .inr ⟨ho,a,rfl,λj o=>?_,r⟩
  obtain⟨⟨t2,e1,ot⟩,q⟩:=o
  have e1:(z.ρ.set i (some t'))[j]?=some (some t2):=e1
  have q:(z.σ.set i (some v))[j]?=some (some (.ref a)):=q
  by_cases hj:i=j
  ·subst hj
   rw[a3c] at e1 q
   simp only[if_true] at e1 q
   split at e1
   ·cases e1
    split at q
    ·cases q
     obtain⟨b,e3,e4⟩:=hv ot
     cases e3;exact e4 rfl
    ·cases q
   ·cases e1
  ·rw[a0q hj] at e1 q
   exact no j ⟨⟨t2,e1,ot⟩,q⟩
theorem Jw {a b:Expr}{f1 f2:FX}{px py pt:Pos}{kt k2 pt2}(hc:X.calm=true)(n1:Nm X i x)(n2:Nm X j y)(hij:i≠j)(ha:NX X a f1)(hb:NX X b f2)(hs2:starEach [a,b] X.env=[(false,eval a X.env),(false,eval b X.env)])
  (hw:swappedStores [.Tuple [.Name x px,.Name y py] kt pt] (.Tuple [a,b] k2 pt2) X.env=pure (some [x,y]))
  (hs:swapsWithSole [.Tuple [.Name x px,.Name y py] kt pt] (.Tuple [a,b] k2 pt2) pos.line X.env=pure false) :
  NS X (.Assign [.Tuple [.Name x px,.Name y py] kt pt] (.Tuple [a,b] k2 pt2) pos) (yw i j f1 f2):=λz s E hz hb0=>by
 unfold yw zL at hb0 ⊢
 split at hb0
 ·next t1 t2 e1 e2=>
  rw[exec_Assign_arm]
  refine wpAny_bind (wpAny_standAt ?_)
  rw[hs]
  refine wpAny_bind (wpAny_pure ?_)
  rw[if_neg (by decide)]
  refine wpAny_bind (Tuple_ ?_)
  rw[hs2]
  show W X (spliced ((false,eval a X.env)::(false,eval b X.env)::[])) _ _ s
  refine Calls.spliced_cons (aV (ha z s t1 E hz e1) λu1 s1 p1=>?_)
  obtain⟨⟨bad1,pins1,σ1,H1,ρ1⟩,G1⟩:=p1
  obtain⟨rfl,rfl,rfl,rfl,ok1,st1,old1,kp1,g1⟩:=G1
  refine Calls.spliced_cons (aV (hb ⟨z.bad,z.pins,z.σ,H1,z.ρ⟩ s1 t2 E ok1 e2) λu2 s2 p2=>Calls.spliced_nil ?_)
  obtain⟨⟨bad2,pins2,σ2,H2,ρ2⟩,G2⟩:=p2
  obtain⟨q1,q2,q3,q4,ok2,st2,old2,kp2,g2⟩:=G2
  cases (show bad2=z.bad from q1)
  cases (show pins2=z.pins from q2)
  cases (show σ2=z.σ from q3)
  cases (show ρ2=z.ρ from q4)
  have A1:Has (X:=X) ⟨z.bad,z.pins,z.σ,H2,z.ρ⟩ s2.heap t1 u1:=by
   rcases g1 with ⟨ho,p,rfl,d⟩|⟨ho,a',rfl,n,hH,h00,d⟩
   ·exact .inl ⟨ho,p,rfl,d.m st2.kpD⟩
   ·exact .inr ⟨ho,a',rfl,hz.no_own n,old2 _ _ hH,h00,SlOk.old old2 (SlOk.mono (c:=bI X z.bad H1) (c':=bI X z.bad H2) st2.kpD (λb o hb w=>kp2 b o (ok1.ot b _ hb).1 w) d)⟩
  have A2:Has (X:=X) ⟨z.bad,z.pins,z.σ,H2,z.ρ⟩ s2.heap t2 u2/\(cH t2=true->∃b,u2=.ref b/\u1≠.ref b\/cH t1=false):=by
   rcases g2 with ⟨ho,p,rfl,d⟩|⟨ho,a',rfl,n,hH,h00,d⟩
   ·exact⟨.inl ⟨ho,p,rfl,d⟩,λh=>by cases h⟩
   ·refine⟨.inr ⟨ho,a',rfl,λk=>ok1.no_own (z:=⟨z.bad,z.pins,z.σ,H1,z.ρ⟩) n k,hH,h00,d⟩,λ_=>⟨a',?_⟩⟩
    rcases g1 with ⟨ho,_⟩|⟨ho,a1,rfl,n1,hH1,_⟩
    ·exact .inr ho
    ·refine .inl ⟨rfl,λe=>?_⟩
     cases e
     obtain⟨ob,r⟩:=ok1.stands hH1
     rw[n] at r;cases r
  refine wpAny_newObj_type ?_ (by show 2<=sizeLine;decide)
  have g3:=ok2.push { cls:=.type "tuple",data:=.seq [u1,u2].toArray } s2.toks
  rw[hw]
  refine wpAny_bind (wpAny_pure ?_)
  show W X (do rule "assign.swapped-stores";let items ←unpackItems (.ref s2.heap.objs.size) 2 none;assignInOrder [λv=>bindName X.env y v,λv=>bindName X.env x v] items.reverse;pure Flow.next) _ _ _
  refine wpAny_bind (wpAny_rule (wpAny_bind (unpackItems_tuple (items:=#[u1,u2]) (hz.I.ok.hd hc) (IsTup.new s2.heap _) λh' hx'=>?_)))
  have g4:(Z.mk (X:=X) z.bad z.pins z.σ H2 z.ρ).go _ { s2 with heap:=h' }:=g3.1.kept (t:=s2.toks) λb o e=>hx' b o (a1d (Heap.lt_size e)) e
  have ge:=g3.trans g4
  have B1:=A1.ext ok2 ge.2
  have B2:=A2.1.ext ok2 ge.2
  show wpAny _ _ (assignInOrder [λv=>bindName X.env y v,λv=>bindName X.env x v] [u2,u1] >>= λ_=>pure Flow.next) _ _ _
  refine wpAny_bind (assignInOrder_cons (wpAny_bindName (aV (oG ge.1 n2 B2) λ_ s3 ⟨w,ww⟩=>?_)))
  obtain⟨v,ov,ok3,x3⟩:∃v,(cH t2=true->cH t1=true->∃a,v=V.ref a/\u1≠.ref a)/\(Z.mk (X:=X) z.bad z.pins (z.σ.set j (some v)) H2 (z.ρ.set j (some t2))).ok s3/\Ext z.bad h' s3.heap:=by
   cases ho:cH t2 with
   |false=>obtain⟨v,_,r⟩:=w;exact⟨v,(λh=>by cases h),r⟩
   |true=>
    obtain⟨b,q⟩:=A2.2 ho
    rcases q with ⟨rfl,q⟩|q
    ·obtain⟨v,rfl,r⟩:=ww b rfl ho
     exact⟨_,λ_ _=>⟨b,rfl,q⟩,r⟩
    ·obtain⟨v,_,r⟩:=w;exact⟨v,(λ_ h=>by rw[q] at h;cases h),r⟩
  have C1:Has (X:=X) ⟨z.bad,z.pins,z.σ.set j (some v),H2,z.ρ.set j (some t2)⟩ s3.heap t1 u1:=by
   cases ho:cH t1 with
   |false=>
    rcases B1.ext ge.1 x3 with h|⟨h,_⟩
    ·exact .inl h
    ·rw[ho] at h;cases h
   |true=>exact Has.over (u':=u2) ge.1 B1 (λh=>ov h ho) x3
  refine assignInOrder_cons (wpAny_bindName (aV (oG ok3 n1 C1) λ_ s4 ⟨⟨v1,_,ok4,x4⟩,_⟩=>assignInOrder_nil (wpAny_pure ?_)))
  rw[List.set_comm (some t1) (some t2) hij]
  exact⟨rfl,_,H2,ok4,(st1.trans st2).trans (ge.2.trans (x3.trans x4)).stp⟩
 ·exact absurd rfl hb0
theorem IG {e:Expr}{g:FX}{p':Pos}(n:Nm X i x)(h:NX X e g)(hs:swapsWith e (some (.Name x p')) pos.line X.env=pure false):NS X (.Assign [.Name x p'] e pos) (vf i g):=λz s E hz hb=>by
 unfold vf at hb ⊢
 split at hb
 ·next t et=>
  refine wpAny_Assign_Name (aV (h z s t E hz et) λu s1 ⟨⟨bad1,pins1,σ1,H1,ρ1⟩,G1⟩=>?_) hs
  obtain⟨q1,q2,q3,q4,ok1,st1,old1,kp1,g1⟩:=G1
  cases (show bad1=z.bad from q1)
  cases (show pins1=z.pins from q2)
  cases (show σ1=z.σ from q3)
  cases (show ρ1=z.ρ from q4)
  have A1:Has (X:=X) ⟨z.bad,z.pins,z.σ,H1,z.ρ⟩ s1.heap t u:=by
   rcases g1 with h|⟨ho,a',rfl,n,r⟩
   ·exact .inl h
   ·exact .inr ⟨ho,a',rfl,hz.no_own n,r⟩
  exact aV (oG ok1 n A1) λ_ s2 ⟨⟨v,_,ok2,x2⟩,_⟩=>⟨rfl,_,H1,ok2,st1.trans x2.stp⟩
 ·exact absurd rfl hb
end
noncomputable abbrev Gr:=eX×List PV
noncomputable def Oi (g:List Gr)(k:eX)(v:PV):List Gr:=
 if g.any (λt=>decide (t.1=k)) then g.map (λt=>if t.1=k then (t.1,t.2++[v]) else t) else g++[(k,[v])]
section
variable {X:Cx}{d i:Nat}{x y:Str}{pos:Pos}
theorem Z.ok.mutf {z:Z X}{s:Shared}(hz:z.ok s){a:Addr}(hH:z.H a=some aL)(no:∀j,¬bW z.σ z.ρ j a){h':Heap}{tk:Nat}(k:∀b u,b≠a->s.heap.get? b=some u->h'.get? b=some u)(nt:∃ob,h'.get? a=some ob/\ob.cls≠.type "tuple") :
  z.ok { s with heap:=h',toks:=tk }/\Stp z.bad z.H z.H s.heap h'/\Kp z.cn z.cn s.heap h':=by
 obtain⟨ob,hob,hcl⟩:=nt
 have I':Inv X z.pins z.σ z.H { s with heap:=h',toks:=tk }:=by
  have:=hz.I.write (x:=a) (e:=a) (o:=aL) (h':=h') (t':=tk) (by rw[hH];exact trivial) (.inl rfl) k ⟨ob,hob⟩ ⟨trivial,⟨ob,hob⟩,λ_ _ _ _=>trivial⟩
  rwa [p6 hH] at this
 have kp:Kp z.cn z.cn s.heap h':=⟨rfl,rfl,rfl,λb u q e=>⟨q,k b u (λy=>by have q1:z.H b=none:=q.1;rw[y,hH] at q1;cases q1) e⟩⟩
 have th:∀b u,s.heap.get? b=some u->∃u',h'.get? b=some u':=λb u e=>by
  by_cases hb:b=a
  ·rw[hb];exact⟨ob,hob⟩
  ·exact⟨u,k b u hb e⟩
 refine⟨⟨I',hz.len,λj t q=>?_,hz.dj,hz.nb,hz.oh,hz.oh0,hz.loc,hz.cel,hz.fs,hz.ex,λb q=>let ⟨u,r⟩:=hz.there b q;th b u r,hz.bs,λb o q=>?_,hz.anc⟩,⟨λb u n hn e=>⟨k b u (λy=>by rw[y,hH] at hn;cases hn) e,hn⟩,th⟩,kp⟩
 ·obtain⟨w,e1,r,dd⟩:=hz.slk j t q
  refine⟨w,e1,r,?_⟩
  have ne:∀b,w=.ref b->cH t=true->b≠a:=λb e3 ot y=>no j ⟨⟨t,q,ot⟩,by rw[e1,e3,y]⟩
  cases t with
  |val p=>exact λu r=>(dd u r).m kp
  |own ps=>obtain⟨b,rfl,hb,l⟩:=dd;exact⟨b,rfl,hb,l.mono kp λo w=>k b o (ne b rfl rfl) w⟩
  |dic ks ps=>obtain⟨b,rfl,hb,l⟩:=dd;exact⟨b,rfl,hb,l.mono kp λo w=>k b o (ne b rfl rfl) w⟩
 ·obtain⟨r0,u,r1,r2⟩:=hz.ot b o q
  by_cases hb:b=a
  ·rw[hb] at r0 ⊢;exact⟨r0,ob,hob,hcl⟩
  ·exact⟨r0,u,k b u hb r1,r2⟩
theorem uniq {α β:Type}{f:α->β}:∀{l:List α},(l.map f).Nodup->∀{a b},a∈l->b∈l->f a=f b->a=b
 |[],_,_,_,h,_,_=>nomatch h
 |x::l,n,a,b,ha,hb,e=>by
  rw[a1f,a1s] at n
  rcases a0t.mp ha with ea|ha<;>rcases a0t.mp hb with eb|hb
  ·rw[ea,eb]
  ·exact absurd (by rw[←ea,e];exact a1w hb) n.1
  ·exact absurd (by rw[←eb,←e];exact a1w ha) n.1
  ·exact uniq n.2 ha hb e
noncomputable def Pm (g:List Gr):PV:=.dct (g.map (·.1)) (g.map λt=>.lst t.2)
noncomputable def Lx:List (Nat×FE)->aq->Option aq
 |[],ρ=>some ρ
 |(i,f)::r,ρ=>((f ρ).bind RV.fr).bind λp=>Lx r (ρ.set i (some (.val p)))
noncomputable def Bf (i:Nat)(bd:List (Nat×FE))(fk fv:FE):List PV->aq->List Gr->Option (aq×List Gr)
 |[],ρ,g=>some (ρ,g)
 |p::ps,ρ,g=>(Lx bd (ρ.set i (some (.val p)))).bind λρ2=>(((fk ρ2).bind RV.fr).bind jI).bind λk=>((fv ρ2).bind RV.fr).bind λv=>Bf i bd fk fv ps ρ2 (Oi g k v)
noncomputable def Jp (o:Option (aq×List Gr))(d:Nat):Out:=match o with
 |some (ρ,g)=>.nx (ρ.set d (some (.val (Pm g))))
 |none=>.bad
noncomputable def C3 (t:Option Sl)(its:Option (List PV))(d i:Nat)(bd:List (Nat×FE))(fk fv:FE)(ρ:aq):Out:=match t,its with
 |some (.dic [] []),some its=>if its.length<=1000 then Jp (Bf i bd fk fv its (ρ.set d none) []) d else .bad
 |_,_=>.bad
noncomputable def O6 (d i:Nat)(fi:FI)(bd:List (Nat×FE))(fk fv:FE):FS:=λρ=>C3 (sl ρ d) (fi ρ) d i bd fk fv ρ
end
section
variable {X:Cx}{i j:Nat}{x y:Str}{pos:Pos}
noncomputable def D6:FX:=λ_=>some (.dic [] [])
theorem wn {z:Z X}{s:Shared}(hz:z.ok s):∃z',Got z z' s { s with heap:=s.heap.push { cls:=.type "dict",data:=.dict #[] } } (.dic [] []) (.ref s.heap.objs.size):=by
 refine zn hz (hz.push _ s.toks) rfl (Heap.get?_none_of_le (a0r _)) ⟨_,Heap.get?_push_size _ rfl,by intro w;exact absurd (Value.type.inj w) (by decide)⟩ ⟨_,rfl,bQ,[],beq_eq_false_iff_ne.mpr (Ne.symm (a1d hz.I.big)),Heap.DictOf.new s.heap,a3i _,rfl,rfl⟩
theorem Kl:NX X (.Dict [] [] pos) D6:=λz s t E hz q=>by
 cases q;exact wpAny_Dict_empty (wn hz)
noncomputable def yx (k v:Option PV):Option Sl:=match k,v with
 |some k,some v=>(jI k).map λk=>.dic [k] [v]
 |_,_=>none
noncomputable def vH (f g:FE):FX:=λρ=>yx ((f ρ).bind RV.fr) ((g ρ).bind RV.fr)
theorem Lf {k v:Expr}{f g:FE}(hk:NE X k f)(hv:NE X v g):NX X (.Dict [some k] [v] pos) (vH f g):=λz s t E hz q=>by
 unfold vH yx at q
 split at q
 ·next p q' ep eq=>
  obtain⟨kk,ek,rfl⟩:=a0d.mp q
  obtain⟨r1,er1,ep⟩:=a0a.mp ep
  obtain⟨r2,er2,eq⟩:=a0a.mp eq
  obtain⟨⟨bad1,pins1,σ1,H1,ρ1⟩,G1⟩:=wn hz
  obtain⟨e1,e2,e3,e4,ok1,st1,old1,kp1,g1⟩:=G1
  cases (show bad1=z.bad from e1)
  cases (show pins1=z.pins from e2)
  cases (show σ1=z.σ from e3)
  cases (show ρ1=z.ρ from e4)
  rcases g1 with ⟨h,_⟩|⟨_,a,ea,na,hH,h00,dA⟩
  ·cases h
  cases ea
  obtain⟨b,eb,_,kus,sm,dd0,_,_,_⟩:=dA
  cases eb
  refine wpAny_Dict_walk (knd:=bp X.prog X.w) rfl rfl (by simp) (by simp) (pairTrees_cons_walk (aV (hk ⟨z.bad,z.pins,z.σ,H1,z.ρ⟩ _ r1 E ok1 er1) λu1 s1 p1=>aV (hv ⟨z.bad,z.pins,z.σ,H1,z.ρ⟩ s1 r2 E p1.1.1 er2) λu2 s2 p2=>pairTrees_nil_walk ?_))
  have go:=p1.1.trans p2.1
  have dk:=(p1.2.ext p2.1.2).fr ep
  have dv:=p2.2.fr eq
  have nb:¬z.bad s.heap.objs.size:=(ok1.ot _ _ hH).1
  have hd:s2.heap.DictOf (bp X.prog X.w) s.heap.objs.size []:=by
   obtain⟨o,es,ep,q,r⟩:=Heap.DictOf.new (knd:=bp X.prog X.w) s.heap
   exact⟨o,es,ep,go.2.kp _ o nb q,r⟩
  refine⟨[(kk,u2)],⟨qE (gt ek dk),rfl,trivial⟩,hd,λh' dd' hs=>?_⟩
  have keep:∀b o,b≠s.heap.objs.size->s2.heap.get? b=some o->h'.get? b=some o:=λb o hb e=>(hs.2 b hb).trans e
  obtain⟨q,es,ep',hq,hx,_⟩:=id dd'
  obtain⟨ok3,st3,kp3⟩:=go.1.mutf (a:=s.heap.objs.size) hH (λj o=>hz.no_own (Heap.get?_none_of_le (a0r _)) j o) (tk:=s2.toks+[(u1,u2)].length) keep ⟨q,hq,by rw[hx.1];intro w;exact absurd (Value.type.inj w) (by decide)⟩
  refine⟨⟨z.bad,z.pins,z.σ,H1,z.ρ⟩,rfl,rfl,rfl,rfl,ok3,(st1.trans go.2.stp).trans st3,old1,λb o n e=>?_,.inr ⟨rfl,_,rfl,Heap.get?_none_of_le (a0r _),hH,h00,_,rfl,hH,_,sm,dd',big (by show 1<=100000;omega),rfl,.one (dv.m kp3)⟩⟩
  exact keep b o (a1d (Heap.lt_size e)) (go.2.kp b o n (kp1 b o n e))
 ·cases q
noncomputable def pe (ks:List eX)(k:eX):List eX:=if ks.any (λj=>decide (j=k)) then ks else ks++[k]
noncomputable def B3:List eX->List PV->eX->PV->List PV
 |j::ks,p::ps,k,v=>(if j=k then v else p)::B3 ks ps k v
 |_,_,_,_=>[]
noncomputable def o8 (ks:List eX)(ps:List PV)(k:eX)(v:PV):List PV:=if ks.any (λj=>decide (j=k)) then B3 ks ps k v else ps++[v]
theorem zK {c:Cn}{h:Heap}{k:eX}{v:PV}{u:Value}(d:D c h v u):∀{kus:List (eX×Value)} {ps:List PV},Ds c h ps (kus.map (·.2))->Ds c h (B3 (kus.map (·.1)) ps k v) ((kus.map λkv=>if kv.1=k then (kv.1,u) else kv).map (·.2))
 |[],ps,_=>by simp[B3,Ds]
 |(j,w)::kus,ps,e=>by
  cases ps with
  |nil=>cases (show w::kus.map (·.2)=[] from e)
  |cons p ps=>
   obtain⟨u',r,e,d1,d2⟩:=e
   cases e
   show Ds c h ((if j=k then v else p)::B3 _ ps k v) ((if j=k then (j,u) else (j,w)).2::_)
   refine .cons ?_ (zK d d2)
   split
   ·exact d
   ·exact d1
theorem KT {c:Cn}{h:Heap}{k:eX}{v:PV}{u:Value}(d:D c h v u){kus:List (eX×Value)}{ps:List PV}(e:Ds c h ps (kus.map (·.2))):(stored kus k u).map (·.1)=pe (kus.map (·.1)) k/\Ds c h (o8 (kus.map (·.1)) ps k v) ((stored kus k u).map (·.2))/\(stored kus k u).length<=kus.length+1:=by
 have ea:(kus.map (·.1)).any (λj=>decide (j=k))=kus.any λkv=>decide (kv.1=k):=by rw[a5d];rfl
 unfold stored pe o8
 rw[ea]
 split
 ·refine⟨?_,zK d e,by rw[a0j];omega⟩
  rw[a1u]
  refine a1v λt _=>?_
  show (if t.1=k then (t.1,u) else t).1=t.1
  split<;>rfl
 ·exact⟨by rw[a0z];rfl,by rw[a0z];exact e.app (.one d),by simp⟩
theorem CH {z:Z X}{s:Shared}(hz:z.ok s){ks:List eX}{ps:List PV}(e:sl z.ρ i=some (.dic ks ps)){a:Addr}(o:z.σ[i]?=some (some (.ref a))):bW z.σ z.ρ i a/\z.H a=some aL/\DictAt z.cn s.heap a ks ps:=by
 obtain⟨b,o1,h,_,e2,_,l⟩:=Z.ok.owned hz e rfl
 cases e2
 have:=o1.2
 rw[o] at this;cases this
 exact⟨o1,h,l⟩
theorem GS {z:Z X}{s:Shared}(hz:z.ok s){a:Addr}(o:bW z.σ z.ρ i a){ks:List eX}{ps:List PV}{k:eX}{kv:Value}{v:PV}{u:Value}(hH:z.H a=some aL)(l:DictAt z.cn s.heap a ks ps)(hl:ks.length<=100000)(rk:jB (kV k) kv)(d:D z.cn s.heap v u){E:Value->Shared->Prop} :
  W X (setItem (.ref a) kv u) (λ_ s'=>(z.wi z.σ z.H (z.ρ.set i (some (.dic (pe ks k) (o8 ks ps k v))))).ok s'/\Stp z.bad z.H z.H s.heap s'.heap) E s:=by
 obtain⟨kus,sm,dd,zl,ek,ds⟩:=l
 have hkl:kus.length<=100000:=by rw[←ek,a0j] at hl;exact hl
 refine wpAny_setItem_pairs (hsz:=zl) (qE rk) dd λh' dd' hs=>?_
 obtain⟨q,es,ep',hq,hx,_⟩:=id dd'
 refine Z.ok.mut hz o (λb u hb hu=>(hs.2 b hb).trans hu) (t:=.dic (pe ks k) (o8 ks ps k v)) rfl ⟨q,hq,by rw[hx.1];intro w;exact absurd (Value.type.inj w) (by decide)⟩ λc ec kp=>?_
 subst ec
 obtain⟨h1,h2,h3⟩:=KT (k:=k) d ds
 rw[ek] at h1 h2
 exact⟨a,rfl,hH,_,sm,dd',a1z h3 (Nd hkl),h1,h2.mono kp⟩
noncomputable def zo (v:Option PV)(o:Option Sl)(k:Option PV)(j:Nat)(ρ:aq):Out:=match v,o,k with
 |some v,some (.dic ks ps),some k=>match jI k with
  |some k=>if ks.length<=100000 then .nx (ρ.set j (some (.dic (pe ks k) (o8 ks ps k v)))) else .bad
  |none=>.bad
 |_,_,_=>.bad
noncomputable def vz (j:Nat)(fi f:FE):FS:=λρ=>zo ((f ρ).bind RV.fr) (sl ρ j) ((fi ρ).bind RV.fr) j ρ
theorem Ln {ix o:Expr}{fi f:FE}{p:Pos}{tpos:Pos}(hN:X.N[j]?=some x)(hv:rX X.env.scope x)(hd:(x==("__debug__" : Str))=false)(hcd:(x==("__classdict__" : Str))=false)(hi:NE X ix fi)(h:NE X o f)
  (hs:swapsWithSole [.Subscript (.Name x p) ix tpos] o pos.line X.env=pure false) (hw:swappedStores [.Subscript (.Name x p) ix tpos] o X.env=pure none)
  (h1:(assignEach [.Subscript (.Name x p) ix tpos] X.env).map (·.2)=[assign (.Subscript (.Name x p) ix tpos) X.env])
  (ha:∀v,assign (.Subscript (.Name x p) ix tpos) X.env v=(do
   let ov ←holding [v] (eval (.Name x p) X.env)
   let iv ←holding [v,ov] (eval ix X.env)
   standAt tpos
   holding [v,ov,iv] (setItem ov iv v)
   release [v,ov,iv] [])):NS X (.Assign [.Subscript (.Name x p) ix tpos] o pos) (vz j fi f):=λz s E hz hb=>by
 unfold vz zo at hb ⊢
 split at hb
 ·next v ks ps k ev es ek=>
  split at hb
  ·next kk ekk=>
   split at hb
   ·next hl=>
    rw[if_pos hl]
    obtain⟨r,er,ev⟩:=a0a.mp ev
    obtain⟨rk,erk,ek⟩:=a0a.mp ek
    refine wpAny_Assign_stores (aV (h z s r E hz er) λu s1 q=>?_) hs hw
    rw[h1]
    show W X (assign _ X.env u) _ E s1
    rw[ha]
    obtain⟨a,o1,_,_⟩:=Z.ok.owned hz es rfl
    refine wpAny_bind (wpAny_holding (oq q.1.1 o1.2 hN hv hd hcd ?_))
    refine wpAny_bind (wpAny_holding (aV (hi z s1 rk E q.1.1 erk) λiv s2 q2=>?_))
    have dk:=q2.2.fr ek
    obtain⟨o2,hH,l⟩:=CH q2.1.1 es o1.2
    refine wpAny_bind (wpAny_standAt (wpAny_bind (wpAny_holding (aV (GS q2.1.1 o2 hH l hl (gt ekk dk) ((q.2.fr ev).m q2.1.2.kpD)) λ_ s3 w=>?_))))
    exact wpAny_release ⟨rfl,z.σ,z.H,w.1,(q.1.2.trans q2.1.2).stp.trans w.2⟩
   ·exact absurd rfl hb
  ·exact absurd rfl hb
 ·exact absurd rfl hb
end
section
variable {P:Program}{w:World}{tg:Expr}{h h':Heap}
noncomputable def Jd:eX->PV
 |.inl i=>.int i
 |.inr x=>.str x
theorem Hg {c:Cn}{k:eX}{u:Value}(e:(bp P w).is k u=true):D c h (Jd k) u:=by
 cases k with
 |inl i=>
  have e:Value.isInt i u=true:=e
  cases u<;>simp[Value.isInt] at e
  subst e;exact⟨_,rfl⟩
 |inr x=>
  have e:o3 (.inr x) u=true:=e
  cases u<;>simp[o3,Value.isStrOf] at e
  subst e;exact⟨_,rfl⟩
theorem Fi {a it:Addr}{ps:List PV}{ep:Nat}{kus:List (eX×Value)}:Trn P w tg it [it] [] ps (λi c h=>h.IsValIter it a i kus.length ep/\h.DictAt (bp P w) a kus ep/\Ds c h ps (kus.map (·.2))/\c.ok a/\c.P=P/\c.w=w) where
 obj:=λi c h st b hb=>by
  have e:b=it:=by simpa using hb
  subst e
  obtain⟨⟨o,e,_,d⟩,_⟩:=st
  exact⟨o,e,λv z=>by rw[d] at z;cases z⟩
 keep:=λi c c' h h' st k kk=>by
  obtain⟨st,⟨o,es,g,r⟩,ds,ok,e1,e2⟩:=st
  exact⟨st.at λo e=>kk it (.inl (by simp)) o e,⟨o,es,(k.kp a _ ok g).2,r⟩,ds.mono k,(k.kp a _ ok g).1,by rw[k.P,e1],by rw[k.w,e2]⟩
 item:=λX hP hw hc z s E i p hz hf hp st hx=>by
  subst hP hw
  obtain⟨st,da,ds,ok,e1,e2⟩:=st
  obtain⟨u,hu,du⟩:=ds.get hx
  rw[a0s] at hu
  obtain⟨⟨k,u'⟩,hku,rfl⟩:=a0d.mp hu
  refine wpAny_pyNext_values_item st da hku λh' st' sb=>?_
  have go:=hz.turn (t:=s.toks) (h':=h') hf (λb o hb e=>(sb.2 b (by simpa using hb)).trans e) λb hb=>by
   rw[show b=it by simpa using hb];exact⟨_,st'.choose_spec.1⟩
  have kp:Kp z.cn z.cn s.heap h':=go.2.kpD
  obtain⟨o,e,c,d⟩:=id st'
  obtain⟨o2,es,g2,r2⟩:=da
  exact⟨u',rfl,vQ (s:={ s with heap:=h' }) e c d (by decide) ⟨go,du.m kp,st',⟨o2,es,(kp.kp a _ ok g2).2,r2⟩,ds.mono kp,ok,e1,e2⟩⟩
 done:=λX hP hw hc z s E i hz hf hp st hx=>by
  subst hP hw
  obtain⟨st,da,ds,ok,e1,e2⟩:=st
  have hl:=ds.length
  rw[a0j] at hl
  obtain⟨f,bd⟩:=hf it (by simp)
  exact wpAny_pyNext_values_end (hz.I.ok.hd hc) st da (a3z (by omega)) λh' eb=>⟨rfl,hz.I.turned (t':=s.toks) (λb o hb e=>eb b o hb e) f.1 f.2.1 f.2.2.2.1 f.2.2.2.2.1 f.2.2.2.2.2,λb o hb e=>eb b o (by simpa using hb) e⟩
 self:=λA i c s Q E st q=>wpAny_pyIter_valiter st.1 q
theorem GU {a it:Addr}{ep:Nat}{kus:List (eX×Value)}:Trn P w tg it [it] [] (kus.map λkv=>Jd kv.1) (λi c h=>h.IsKeyIter it a i kus.length ep/\h.DictAt (bp P w) a kus ep/\c.ok a) where
 obj:=λi c h st b hb=>by
  have e:b=it:=by simpa using hb
  subst e
  obtain⟨⟨o,e,_,d⟩,_⟩:=st
  exact⟨o,e,λv z=>by rw[d] at z;cases z⟩
 keep:=λi c c' h h' st k kk=>by
  obtain⟨st,⟨o,es,g,r⟩,ok⟩:=st
  exact⟨st.at λo e=>kk it (.inl (by simp)) o e,⟨o,es,(k.kp a _ ok g).2,r⟩,(k.kp a _ ok g).1⟩
 item:=λX hP hw hc z s E i p hz hf hp st hx=>by
  subst hP hw
  obtain⟨st,da,ok⟩:=st
  rw[a0s] at hx
  obtain⟨⟨k,u'⟩,hku,rfl⟩:=a0d.mp hx
  refine wpAny_pyNext_dict_item st da hku λkey h' hk st' sb=>?_
  have go:=hz.turn (t:=s.toks) (h':=h') hf (λb o hb e=>(sb.2 b (by simpa using hb)).trans e) λb hb=>by
   rw[show b=it by simpa using hb];exact⟨_,st'.choose_spec.1⟩
  have kp:Kp z.cn z.cn s.heap h':=go.2.kpD
  obtain⟨o,e,c,d⟩:=id st'
  obtain⟨o2,es,g2,r2⟩:=da
  exact⟨key,rfl,vQ (s:={ s with heap:=h' }) e c d (by decide) ⟨go,Hg hk,st',⟨o2,es,(kp.kp a _ ok g2).2,r2⟩,ok⟩⟩
 done:=λX hP hw hc z s E i hz hf hp st hx=>by
  subst hP hw
  obtain⟨st,da,ok⟩:=st
  rw[a0j] at hx
  obtain⟨f,bd⟩:=hf it (by simp)
  exact wpAny_pyNext_dict_end (hz.I.ok.hd hc) st da (a3z (by omega)) λh' eb=>⟨rfl,hz.I.turned (t':=s.toks) (λb o hb e=>eb b o hb e) f.1 f.2.1 f.2.2.2.1 f.2.2.2.2.1 f.2.2.2.2.2,λb o hb e=>eb b o (by simpa using hb) e⟩
 self:=λA i c s Q E st q=>wpAny_pyIter_keyiter st.1 q
end
section
variable {X:Cx}{tg o:Expr}{f:FE}{apos cpos:Pos}
noncomputable def pI:PV->Option (List PV)
 |.dct _ ps=>some ps
 |_=>none
noncomputable def pL:PV->Option (List PV)
 |.dct ks _=>some (ks.map Jd)
 |_=>none
noncomputable def Dx (f:FE):FI:=λρ=>(f ρ).bind λr=>r.fr.bind pI
noncomputable def BQ (f:FE):FI:=λρ=>(f ρ).bind λr=>r.fr.bind pL
theorem uN {P:Program}{w:World}{h:Heap}{d:Addr}{vs:List (eX×Value)}(x:h.DictOf (bp P w) d vs):∃ep,h.DictAt (bp P w) d vs ep:=by
 obtain⟨o,es,ep,h1,h2,h3,h4⟩:=x
 exact⟨ep,o,es,h1,h2,h3,h4⟩
theorem Jx (h:NE X o f):NI X true tg o (BQ f):=λz s its E hz q=>by
 obtain⟨r,e1,q⟩:=a0a.mp q
 obtain⟨p,e2,q⟩:=a0a.mp q
 refine aV (h z s r E hz e1) λv s1 q1=>?_
 have d:=q1.2.fr e2
 unfold pL at q
 split at q
 ·next ks ps=>
  cases q
  obtain⟨a,kus,rfl,ok,sm,dd,zl,rfl,ds⟩:=d
  obtain⟨ep,da⟩:=uN dd
  rw[a1u]
  have g2:∀o:Obj,z.go s { s1 with heap:=s1.heap.push o }:=λo=>q1.1.trans (q1.1.1.push o s1.toks)
  have kk:∀o:Obj,Kp z.cn (bI X (λb=>z.bad b\/b∈[s1.heap.objs.size]) z.H) s1.heap (s1.heap.push o):=λo=>vx q1.1.1 (λb o e=>Heap.get?_push_of_some _ e) (fU (P:=λb=>s1.heap.objs.size<=b) (a0r _))
  refine wpAny_pyIter_dict sm da ⟨s1.heap.objs.size,[s1.heap.objs.size],[],_,rfl,λ_=>rfl,λb q=>(nomatch q),GU (a:=a) (kus:=kus) (ep:=ep),g2 _,fU (q1.1.1.fp q1.1.2 (a0r _)),⟨_,Heap.get?_push_size _ rfl,rfl,rfl⟩,?_,?_⟩
  ·obtain⟨o2,es,g,r⟩:=da
   exact⟨o2,es,Heap.get?_push_of_some _ g,r⟩
  ·obtain⟨o2,es,g,r⟩:=da
   exact ((kk { cls:=.type "list" }).kp a o2 ok g).1
 ·cases q
theorem IJ (h:NE X o f)(hbase:attributeBase o "values" X.env (eval o X.env)=eval o X.env:=by rfl)(hline:(apos.endLine==cpos.line)=true:=by rfl):NI X true tg (.Call (.Attribute o "values" apos) [] [] cpos) (Dx f):=λz s its E hz q=>by
 obtain⟨r,e1,q⟩:=a0a.mp q
 obtain⟨p,e2,q⟩:=a0a.mp q
 refine wpAny_Call_method0_late hbase hline (aV (h z s r E hz e1) λv s1 q1=>?_)
 have d:=q1.2.fr e2
 unfold pI at q
 split at q
 ·next ks ps=>
  cases q
  obtain⟨a,kus,rfl,ok,sm,dd,zl,ek,ds⟩:=d
  obtain⟨ob,_,_,hob,hx,_⟩:=id dd
  refine⟨"dict","dict.values",PySem.F.plainAttrs_dict,PySem.F.slot_dict_values,PySem.F.type_dict_values,dd.typeIs,λb e=>by cases e;exact⟨ob,hob,hx.2.1⟩,Calls.callWith_builtin rfl (PySem.evalArgs_none (call_meetsIn PySem.F.slot_dict_values dd.typeIs PySem.F.entry_dict_values (PySem.F.args_dict_values_1 _) (meets_dict_values (bp X.prog X.w) a sm) ⟨⟨kus,dd⟩,?_⟩))⟩
  have g1:=q1.1.trans (q1.1.1.push { cls:=.type "dict_values",data:=.fields #[.ref a] } s1.toks)
  have dd1:(s1.heap.push { cls:=.type "dict_values",data:=.fields #[.ref a] }).DictOf (bp X.prog X.w) a kus:=by
   obtain⟨o2,es,ep,g,r⟩:=dd;exact⟨o2,es,ep,Heap.get?_push_of_some _ g,r⟩
  have ds1:=ds.mono (q1.1.1.push { cls:=.type "dict_values",data:=.fields #[.ref a] } s1.toks).2.kpD
  obtain⟨ep,da⟩:=uN dd1
  refine wpAny_pyIter_values (knd:=bp X.prog X.w) (d:=a) (kvs:=kus) (ep:=ep) ⟨_,Heap.get?_push_size _ rfl,rfl,rfl⟩ da ?_
  have kk:∀o:Obj,Kp z.cn (bI X (λb=>z.bad b\/b∈[(s1.heap.push { cls:=.type "dict_values",data:=.fields #[.ref a] }).objs.size]) z.H) (s1.heap.push { cls:=.type "dict_values",data:=.fields #[.ref a] }) ((s1.heap.push { cls:=.type "dict_values",data:=.fields #[.ref a] }).push o):=
   λo=>vx (s1:={ s1 with heap:=s1.heap.push { cls:=.type "dict_values",data:=.fields #[.ref a] } }) g1.1 (λb o e=>Heap.get?_push_of_some _ e) (fU (P:=λb=>_<=b) (a0r _))
  refine⟨_,[_],[],_,rfl,λ_=>rfl,λb q=>(nomatch q),Fi (a:=a) (kus:=kus) (ep:=ep),g1.trans (g1.1.push _ _),fU (g1.1.fp g1.2 (a0r _)),⟨_,Heap.get?_push_size _ rfl,rfl,rfl⟩,?_,ds1.mono (kk _),?_,rfl,rfl⟩
  ·obtain⟨o2,es,g,r⟩:=da
   exact⟨o2,es,Heap.get?_push_of_some _ g,r⟩
  ·obtain⟨o2,es,g,r⟩:=da
   exact ((kk { cls:=.type "dict_values",data:=.fields #[.ref a] }).kp a o2 ok g).1
 ·cases q
end
noncomputable def Hk.or (a b:Hk):Hk where
 e:=λG rE rB L e=>(a.e G rE rB L e).orElse λ_=>b.e G rE rB L e
 i:=λG L f tg it=>(a.i G L f tg it).orElse λ_=>b.i G L f tg it
 b:=λG rE rB L e=>(a.b G rE rB L e).orElse λ_=>b.b G rE rB L e
 s:=λG rE rB rS L s=>(a.s G rE rB rS L s).orElse λ_=>b.s G rE rB rS L s
theorem OB {α:Type}{a b:Option α}{r:α}(h:(a.orElse λ_=>b)=some r):a=some r\/b=some r:=by
 cases a with
 |none=>exact .inr h
 |some=>exact .inl h
theorem wG {a b:Hk}(ha:HkOk a)(hb:HkOk b):HkOk (a.or b):=
 ⟨λo h1 h2 e f h=>(OB h).elim (ha.e o h1 h2 e f) (hb.e o h1 h2 e f),λo h1 tg it f h=>(OB h).elim (ha.i o h1 tg it f) (hb.i o h1 tg it f),λo h1 h2 e f h=>(OB h).elim (ha.b o h1 h2 e f) (hb.b o h1 h2 e f),λo h1 h2 h3 s f h=>(OB h).elim (ha.s o h1 h2 h3 s f) (hb.s o h1 h2 h3 s f)⟩
noncomputable def OL:Expr->Option Unit
 |.Dict ks vs _=>(u0 () ks).bind λ_=>u0 () vs
 |_=>none
noncomputable def O1:Expr->Option (Expr×Expr)
 |.Dict ks vs _=>(u1 ks).bind λk=>k.bind λk=>(u1 vs).map λv=>(k,v)
 |_=>none
theorem KY {e:Expr}(h:OL e=some ()):∃p,e=.Dict [] [] p:=by
 cases e<;>first|(cases h;done)|skip
 replace h:=a0a.mp h;obtain⟨_,e1,h⟩:=h
 obtain⟨rfl,_⟩:=sT e1
 obtain⟨rfl,_⟩:=sT h
 exact⟨_,rfl⟩
theorem JO {e k v:Expr}(h:O1 e=some (k,v)):∃p,e=.Dict [some k] [v] p:=by
 cases e<;>first|(cases h;done)|skip
 replace h:=a0a.mp h;obtain⟨_,e1,h⟩:=h
 replace h:=a0a.mp h;obtain⟨_,e2,h⟩:=h
 replace h:=a0d.mp h;obtain⟨_,e3,h⟩:=h
 cases h
 rw[jR e1,jR e3,e2]
 exact⟨_,rfl⟩
noncomputable def vX (f:Expr->FE)(e:Expr):FX:=match OL e with
 |some _=>D6
 |none=>match O1 e with
  |some t=>vH (f t.1) (f t.2)
  |none=>xE (f e)
noncomputable def GV:Expr->Bool
 |.Dict _ _ _=>true
 |_=>false
section
variable {X:Cx}{k:Nat}{G:Gd}{L:Lc}{x:Str}{i:Nat}{pos:Pos}
theorem BK {f:Expr->FE}(h:∀e,NE X e (f e))(e:Expr):NX X e (vX f e):=by
 unfold vX
 cases h0:OL e with
 |some u=>obtain⟨p,rfl⟩:=KY h0;exact Kl
 |none=>
  cases h1:O1 e with
  |some t=>obtain⟨k,v⟩:=t;obtain⟨p,rfl⟩:=JO h1;exact Lf (h _) (h _)
  |none=>exact Mz (h _)
end
noncomputable def Jr (rE:Lc->Expr->FE)(L:Lc)(x y:Str×Pos)(a b:Expr):Option FS:=
 lX ((L.own.contains x.1 || L.own.contains y.1 || L.dic.contains x.1 || L.dic.contains y.1)&&(Nx a || Nx b || GV a || GV b))
  ((EK L [.Name x.1 x.2,.Name y.1 y.2] [a,b]).bind λl=>l.bind λl=>(eP L x.1).bind λi=>(eP L y.1).bind λj=>lX (l==[x.1,y.1]&&l6 a&&l6 b&&i != j) (some (yw i j (vX (rE L) a) (vX (rE L) b))))
noncomputable def IQ (rE:Lc->Expr->FE)(L:Lc)(t v:Expr):Option FS:=
 (E5 t).bind λp=>(u2 p.1).bind λq=>(pM q.1).bind λx=>(pM q.2).bind λy=>(E5 v).bind λw=>(u2 w.1).bind λab=>Jr rE L x y ab.1 ab.2
noncomputable def KA (rE:Lc->Expr->FE)(L:Lc)(t v:Expr):Option FS:=
 (pM t).bind λx=>lX (GV v) ((eP L x.1).map λi=>vf i (vX (rE L) v))
noncomputable def Mo (G:Gd)(rE:Lc->Expr->FE)(rB:Lc->Expr->FB)(rS:Lc->Stmt->FS)(L:Lc)(st:Stmt):Option FS:=
 (Oj st).bind λt=>Dj (IQ rE L t.1 t.2.1) (KA rE L t.1 t.2.1)
noncomputable def Hn:Hk where
 s:=Mo
theorem DI:HkOk Hn where
 e:=λ_ _ _ _ _ h=>by cases h
 i:=λ_ _ _ _ _ h=>by cases h
 b:=λ_ _ _ _ _ h=>by cases h
 s:=λ{X k G L rE rB rS} o hE hB hS st f h=>by
  replace h:=a0a.mp h;obtain⟨⟨t,v,pos⟩,e,h⟩:=h
  cases xH e
  replace h:=jD h;rcases h with h|h
  ·replace h:=a0a.mp h;obtain⟨⟨ts,kt,pt⟩,e1,h⟩:=h
   cases qO e1
   replace h:=a0a.mp h;obtain⟨⟨tx,ty⟩,e2,h⟩:=h
   cases oX e2
   replace h:=a0a.mp h;obtain⟨⟨x,px⟩,e3,h⟩:=h
   cases cV e3
   replace h:=a0a.mp h;obtain⟨⟨y,py⟩,e4,h⟩:=h
   cases cV e4
   replace h:=a0a.mp h;obtain⟨⟨vs,k2,pt2⟩,e5,h⟩:=h
   cases qO e5
   replace h:=a0a.mp h;obtain⟨⟨a,b⟩,e6,h⟩:=h
   cases oX e6
   replace h:=bq h;obtain⟨_,h⟩:=h
   replace h:=a0a.mp h;obtain⟨l0,hw,h⟩:=h
   replace h:=a0a.mp h;obtain⟨l,e7,h⟩:=h
   cases l0 with
   |none=>cases e7
   |some l0=>
   cases e7
   replace h:=a0a.mp h;obtain⟨i,hi,h⟩:=h
   replace h:=a0a.mp h;obtain⟨j,hj,h⟩:=h
   replace h:=bq h;obtain⟨z,h⟩:=h
   cases h
   rw[a0b,a0b,a0b,beq_iff_eq,bne_iff_ne] at z
   obtain⟨⟨⟨z0,z1⟩,z2⟩,z3⟩:=z
   rw[z0] at hw
   have s2:starEach [b] X.env=[(false,eval b X.env)]:=dY z2 [] X.env
   exact Jw o.calm (iA o hi) (iA o hj) z3 (BK (hE o) a) (BK (hE o) b) (by rw[dY z1 [b] X.env,s2]) (yY o hw) (by cases a<;>rfl)
  ·replace h:=a0a.mp h;obtain⟨⟨x,p⟩,e1,h⟩:=h
   cases cV e1
   replace h:=bq h;obtain⟨z,h⟩:=h
   replace h:=a0d.mp h;obtain⟨i,hi,h⟩:=h
   cases h
   have z:GV v=true:=z
   have sw:∀ln,swapsWith v (some (.Name x p)) ln X.env=pure false:=λln=>by cases v<;>first|rfl|(cases z)
   exact IG (iA o hi) (BK (hE o) _) (sw _)
noncomputable def J4 (L:Lc)(f:Expr->FE)(it:Expr):Option FI:=(pM it).bind λx=>lX (L.dic.contains x.1) (some (BQ (f it)))
noncomputable def K4 (f:Expr->FE)(it:Expr):Option FI:=(GC it).bind λc=>(u0 () c.2.1).bind λ_=>(N4 c.1).bind λa=>(pM a.1).bind λ_=>lX (decide (a.2.1 = "values")&&a.2.2.endLine==c.2.2.line) (some (Dx (f a.1)))
noncomputable def NM (G:Gd)(L:Lc)(f:Expr->FE)(tg it:Expr):Option FI:=Dj (J4 L f it) (K4 f it)
noncomputable def Nj (G:Gd)(rE:Lc->Expr->FE)(rB:Lc->Expr->FB)(rS:Lc->Stmt->FS)(L:Lc)(st:Stmt):Option FS:=
 (Oj st).bind λt=>(Pb t.1).bind λb=>(pM b.1).bind λx=>lX (L.dic.contains x.1&&gM b.2.1&&!FG t.2.1) ((slot L x.1).map λi=>vz i (rE L b.2.1) (rE L t.2.1))
noncomputable def HW:Hk where
 i:=NM
 s:=Nj
theorem Di:HkOk HW where
 e:=λ_ _ _ _ _ h=>by cases h
 i:=λ{X k G L f} o hf tg it g h=>by
  replace h:=jD h;rcases h with h|h
  ·replace h:=a0a.mp h;obtain⟨⟨x,p⟩,e1,h⟩:=h
   replace h:=bq h;obtain⟨_,h⟩:=h
   cases h;exact Jx (hf _)
  ·replace h:=a0a.mp h;obtain⟨⟨fn,as,cp⟩,e1,h⟩:=h
   cases lE e1
   replace h:=a0a.mp h;obtain⟨_,e2,h⟩:=h
   obtain⟨rfl,_⟩:=sT e2
   replace h:=a0a.mp h;obtain⟨⟨ob,m,ap⟩,e3,h⟩:=h
   cases u6 e3
   replace h:=a0a.mp h;obtain⟨⟨x,p⟩,e4,h⟩:=h
   cases cV e4
   replace h:=bq h;obtain⟨z,h⟩:=h
   cases h
   rw[a0b,decide_eq_true_eq] at z
   obtain⟨rfl,z⟩:=z
   exact IJ (hf _) rfl z
 b:=λ_ _ _ _ _ h=>by cases h
 s:=λ{X k G L rE rB rS} o hE hB hS st f h=>by
  replace h:=a0a.mp h;obtain⟨⟨t,v,pos⟩,e,h⟩:=h
  cases xH e
  replace h:=a0a.mp h;obtain⟨⟨ob,ix,tp⟩,e1,h⟩:=h
  cases CE e1
  replace h:=a0a.mp h;obtain⟨⟨x,p⟩,e2,h⟩:=h
  cases cV e2
  replace h:=bq h;obtain⟨z,h⟩:=h
  replace h:=a0d.mp h;obtain⟨i,hi,h⟩:=h
  cases h
  rw[a0b,a0b] at z
  obtain⟨h1,h2,h3⟩:=qW o hi
  exact Ln h1 h2 (bm h3).1 (bm h3).2.1 (hE o _) (hE o _) (by cases v<;>rfl) rfl rfl (Al z.1.2)
section
variable {X:Cx}{e:Expr}{f:FE}{i:Nat}{x:Str}{pos:Pos}
noncomputable def Gb:PV->Option Bool
 |.lst ps=>some (!ps.isEmpty)
 |_=>none
noncomputable def OC (f:FE):FB:=λρ=>(f ρ).bind λr=>Gb r.pv
theorem Na (h:NE X e f)(hv:∀whole,isTrue e X.env whole=(do let v ←whole;standAt e.pos;holding [v] (truthy v))):NB X e (OC f):=λz s k E hz q=>by
 obtain⟨r,er,q⟩:=a0a.mp q
 refine isTrue_plain (aV (h z s _ E hz er) λv s1 q1=>?_) (hv _)
 have d:=q1.2.rd
 unfold Gb at q
 split at q
 ·next ps ep=>
  cases q
  rw[ep] at d
  obtain⟨a,its,n,rfl,_,ho,zl,ds⟩:=d
  have l:=ds.length
  have hlb:=oB
  refine wpAny_truthy_list (bj ho) (by simp;omega) ⟨?_,q1.1.trans (q1.1.1.tok _)⟩
  rw[List.isEmpty_toArray]
  cases its<;>cases ps<;>simp at l ⊢
 ·cases q
theorem AG:fillsNumberSlot (.type "list") "add" = pure false:=by kernel_rfl
theorem rN:seqSlot? (.type "list") (dunderI "add")=pure (some (.builtin "list.__iadd__")):=by kernel_rfl
theorem xF {M:Model}{A:Around}{E:Value->Shared->Prop}{s:Shared}{a b:Value}{Q:Value->Shared->Prop}(ha:s.TypeIs a "list")(hb:s.TypeIs b "list")(h:wpAny M A (call (.builtin "list.__iadd__") [a,b]) Q E s):wpAny M A (inplaceOp .Add a b) Q E s:=by
 unfold inplaceOp
 refine wpAny_holding (wpAny_bind (wpAny_typeOf ha ?_))
 have ef:fillsInplaceSlot (.type "list") "add" (Operator.Add==Operator.Add)=pure false:=by kernel_rfl
 refine wpAny_bind (wpAny_of_eq ef ?_)
 refine (?_:wpAny M A (binaryOp1 "add" a b >>= _) Q E s)
 refine wpAny_bind (wpAny_binaryOp1_none ha hb AG ?_)
 refine wpAny_bind (wpAny_of_eq rN ?_)
 exact wpAny_bind (wpAny_rule h)
noncomputable def Ar (o:Option Sl)(v:Option PV)(i:Nat)(ρ:aq):Out:=match o,v with
 |some (.own ps),some (.lst qs)=>if ps.length+qs.length<=100000 then .nx (ρ.set i (some (.own (ps++qs)))) else .bad
 |_,_=>.bad
noncomputable def wN (i:Nat)(f:FE):FS:=λρ=>Ar (sl ρ i) ((f ρ).bind RV.fr) i ρ
theorem Jt {p':Pos}(n:Nm X i x)(h:NE X e f)(hd:(x==("__debug__" : Str))=false):NS X (.AugAssign (.Name x p') .Add e pos) (wN i f):=λz s E hz hb=>by
 unfold wN Ar at hb ⊢
 split at hb
 ·next ps qs es ev=>
  split at hb
  ·next hl=>
   rw[if_pos hl]
   obtain⟨r,er,ev⟩:=a0a.mp ev
   have vis:rX X.env.scope x:=by rcases n.loc with k|k;exact .inl k;exact .inr (.inl k)
   obtain⟨a,oa,hH,d0⟩:=Z.ok.owned hz es rfl
   obtain⟨v,u,m,hn,rr,lk,e1,d,_⟩:=Z.ok.get hz es n.ix vis
   have:v=.ref a:=by have:=oa.2;rw[this] at e1;cases e1;rfl
   subst this
   cases (show u=Value.ref a from rr)
   refine wpAny_AugAssign_Name ?_
   have go:W X (eval e X.env) (λw s₂=>W X (inplaceOp .Add (.ref a) w) (λr s₃=>W X (storeName X.env x r) (λ_=>Z.sp z s (.nx (z.ρ.set i (some (.own (ps++qs))))) .next) E s₃) E s₂) E s:=
    aV (h z s r E hz er) λw s1 q=>by
     obtain⟨b,its2,n2,rfl,okb',hb2,zl2,ds2⟩:=q.2.fr ev
     obtain⟨o1,hH1,its,nn,hg,zl,ds⟩:=m9 q.1.1 es oa.2
     have l1:=ds.length
     have l2:=ds2.length
     have hbb:=big hl
     have hsz:its.toArray.size+its2.toArray.size<=sizeLine:=by rw[a0g,a0g];omega
     have hlong:¬(!its.toArray.isEmpty&&Builtin.List.listTooLong (its.toArray.size+its2.toArray.size))=true:=by
      rw[we hsz,a5f];exact a0y
     refine xF ⟨_,hg,rfl⟩ ⟨_,hb2,rfl⟩ (call_meets F.slot_list_iadd ⟨_,hg,rfl⟩ F.entry_list_iadd (F.args_list_iadd_2 _ _) (AutoSeq1.list___iadd___list_list_0 a its.toArray nn b its2.toArray n2 hlong (by rw[a0g];omega) (by omega)) ⟨hg,hb2,?_⟩)
     have mm:=jN (z:=z) q.1.1 o1 hg (g:=λx=>x++its2.toArray) (its':=its++its2) (by simp) (ds.app ds2) (by rw[a0n];omega) hH1 s1.toks
     refine jX mm.1.I n.nd n.ix n.loc (v:=.ref a) rfl (λs' I' ⟨c,sb,hc⟩=>?_) n.fn
     have ex:=k8 (z:=z.wi z.σ z.H (z.ρ.set i (some (.own (ps++qs))))) mm.1 I' sb hc
     have es':z.σ.set i (some (.ref a))=z.σ:=by
      obtain⟨hi,e⟩:=a0i.mp oa.2
      rw[←e];exact List.set_getElem_self hi
     rw[es'] at I'
     have g3:=Z.ok.ext mm.1 I' ex
     exact⟨rfl,z.σ,z.H,g3.1,q.1.2.stp.trans (mm.2.trans ex.stp)⟩
   rcases lk with ⟨hk,hm⟩|⟨hk,c,hc,hcell⟩
   ·exact wpAny_loadName_local hz.I.ok.kind hk hn hm go
   ·rcases hk with hk|hk
    ·exact wpAny_loadName_cell hz.I.ok.kind hk hc hcell go
    ·rcases n.loc with k|k
     ·have:X.env.scope.names.lookup x=some .free:=hk
      rw[k] at this;cases this
     ·have:X.env.scope.names.lookup x=some .free:=hk
      rw[k] at this;cases this
  ·exact absurd rfl hb
 ·exact absurd rfl hb
noncomputable def tZ:List PV->Option RV
 |[.dct ks _]=>some (.nw (ks.map Jd))
 |_=>none
theorem vZ {c:Cn}{h:Heap}:∀{kus:List (eX×Value)} {its:List Value},its.length=kus.length->(∀(i:Nat) (v:Value),its[i]?=some v->∃(k:eX) (x:Value),kus[i]?=some (k,x)/\(bp c.P c.w).is k v=true)->Ds c h ((kus.map (·.1)).map Jd) its
 |[],its,hl,_=>by
  cases its with
  |nil=>rfl
  |cons=>cases hl
 |(k,x)::kus,its,hl,hi=>by
  cases its with
  |nil=>cases hl
  |cons v its=>
   obtain⟨k',x',e,hk⟩:=hi 0 v rfl
   cases e
   exact .cons (Hg hk) (vZ (by simpa using hl) λi v e=>by simpa using hi (i+1) v (by simpa using e))
theorem Fc (hc:X.calm=true):dm X (.type "list") tZ:=λz s ps us r E hz d q=>by
 unfold tZ at q
 split at q
 ·next ks qs=>
  cases q
  obtain⟨u,rfl,du⟩:=d.one
  obtain⟨a,kus,rfl,_,sm,dd,zl,rfl,ds⟩:=du.rd
  obtain⟨ep,da⟩:=uN dd
  refine PySem.W.kdl_call (PySem.W.kdl_dict (knd:=bp X.prog X.w) sm) (hz.I.ok.hd hc) da zl λh' tk acc' c' kp e hI=>?_
  have hlen:acc'.toList.length=kus.length:=by rw[Array.length_toList];exact hI.1
  refine Z.ok.newL hz (its:=acc'.toList) (n:=c') (vZ (c:=z.cn) hlen λi v ev=>hI.2 i v (by rw[←Array.getElem?_toList];exact ev)) (by rw[hlen];exact zl) kp (by simpa [eZ] using e)
 ·cases q
noncomputable def DU (o:Option (List PV))(i j k:Nat)(ρ:aq):Out:=match o with
 |some [p,q,r]=>.nx (((ρ.set k (some (.val r))).set j (some (.val q))).set i (some (.val p)))
 |_=>.bad
noncomputable def M5 (i j k:Nat)(fs:FA):FS:=λρ=>DU ((fs ρ).bind λrs=>rs.mapM RV.fr) i j k ρ
end
noncomputable def J6 (rE:Lc->Expr->FE)(L:Lc)(st:Stmt):Option FS:=
 (Oj st).bind λt=>(pM t.1).bind λy=>(GC t.2.1).bind λc=>(N4 c.1).bind λa=>(pM a.1).bind λx=>(u1 c.2.1).bind λe=>
  lX (decide (a.2.1 = "pop")&&a.2.2.endLine==c.2.2.line&&l6 e) ((slot L x.1).bind λi=>(eP L y.1).map λj=>AS rV j i (aa (rE L e) af))
noncomputable def KR (rE:Lc->Expr->FE)(L:Lc)(st:Stmt):Option FS:=
 (Qe st).bind λt=>(pM t.1).bind λx=>lX (Hy t.2.1&&L.own.contains x.1&&!EI x.1) ((eP L x.1).map λi=>wN i (rE L t.2.2.1))
noncomputable def Nk (G:Gd)(rE:Lc->Expr->FE)(rB:Lc->Expr->FB)(rS:Lc->Stmt->FS)(L:Lc)(st:Stmt):Option FS:=Dj (J6 rE L st) (KR rE L st)
noncomputable def N5 (G:Gd)(rE:Lc->Expr->FE)(rB:Lc->Expr->FB)(L:Lc)(e:Expr):Option FB:=(pM e).bind λx=>lX (L.own.contains x.1) (some (OC (rE L e)))
noncomputable def HU:Hk where
 b:=N5
 s:=Nk
theorem BF:HkOk HU where
 e:=λ_ _ _ _ _ h=>by cases h
 i:=λ_ _ _ _ _ h=>by cases h
 b:=λ{X k G L rE rB} o hE hB e f h=>by
  replace h:=a0a.mp h;obtain⟨⟨x,p⟩,e1,h⟩:=h
  cases cV e1
  replace h:=bq h;obtain⟨_,h⟩:=h
  cases h;exact Na (hE o _) λ_=>rfl
 s:=λ{X k G L rE rB rS} o hE hB hS st f h=>by
  replace h:=jD h;rcases h with h|h
  ·replace h:=a0a.mp h;obtain⟨⟨t,v,pos⟩,e,h⟩:=h
   cases xH e
   replace h:=a0a.mp h;obtain⟨⟨y,p⟩,e,h⟩:=h
   cases cV e
   replace h:=a0a.mp h;obtain⟨⟨fn,as,cp⟩,e,h⟩:=h
   cases lE e
   replace h:=a0a.mp h;obtain⟨⟨ob,m,ap⟩,e,h⟩:=h
   cases u6 e
   replace h:=a0a.mp h;obtain⟨⟨x,q⟩,e,h⟩:=h
   cases cV e
   replace h:=a0a.mp h;obtain⟨ee,e,h⟩:=h
   cases jR e
   replace h:=bq h;obtain⟨z,h⟩:=h
   rw[a0b,a0b,decide_eq_true_eq] at z
   obtain⟨⟨q1,z1⟩,z2⟩:=z
   cases q1
   replace h:=a0a.mp h;obtain⟨i,hi,h⟩:=h
   replace h:=a0d.mp h;obtain⟨j,hj,h⟩:=h
   cases h
   have he:starEach [ee] X.env=(false,eval ee X.env)::starEach [] X.env:=dY z2 [] X.env
   obtain⟨h1,h2,h3⟩:=qW o hi
   exact HV BA ⟨h1,h2,(bm h3).1,(bm h3).2.1,rfl,z1,by rw[rz (by rw[a1g,z2];rfl)];rfl,λe' r' q=>by cases q;exact⟨he,rfl⟩⟩ (iA o hj) (yg (hE o ee) qr he) (λq=>by cases q) rfl
  ·replace h:=a0a.mp h;obtain⟨⟨t,op,v,pos⟩,e,h⟩:=h
   cases IL e
   replace h:=a0a.mp h;obtain⟨⟨x,p⟩,e,h⟩:=h
   cases cV e
   replace h:=bq h;obtain⟨z,h⟩:=h
   rw[a0b,a0b,a2n] at z
   cases CI z.1.1
   replace h:=a0d.mp h;obtain⟨i,hi,h⟩:=h
   cases h
   exact Jt (iA o hi) (hE o v) (bm z.2).1
noncomputable def J2 (rE:Lc->Expr->FE)(L:Lc)(fn:Expr)(as:List Expr)(p:Pos):Option FE:=
 (N4 fn).bind λa=>(GC a.1).bind λc=>(pM c.1).bind λ_=>(uC c.2.1).bind λ_=>(uC as).bind λr=>lX (decide (a.2.1 = "get")&&a.2.2.endLine==p.line&&(r.1::r.2).all l6&&decide (r.2.length<20)) (some (qH k6 (rE L a.1) (vA (rE L) (r.1::r.2))))
noncomputable def KF (G:Gd)(rE:Lc->Expr->FE)(L:Lc)(fn:Expr)(as:List Expr)(p:Pos):Option FE:=
 (pM fn).bind λx=>(u1 as).bind λa=>lX (decide (x.1 = "list")&&glob L x.1&&G.bi.contains x.1&&xI L p&&l6 a) (some (fB tZ (vA (rE L) [a])))
noncomputable def Mr (G:Gd)(rE:Lc->Expr->FE)(rB:Lc->Expr->FB)(L:Lc)(e:Expr):Option FE:=(GC e).bind λc=>Dj (J2 rE L c.1 c.2.1 c.2.2) (KF G rE L c.1 c.2.1 c.2.2)
noncomputable def Il:Hk where
 e:=Mr
theorem Cd:HkOk Il where
 e:=λ{X k G L rE rB} o hE hB e f h=>by
  replace h:=a0a.mp h;obtain⟨⟨fn,as,p⟩,e,h⟩:=h
  cases lE e
  replace h:=jD h;rcases h with h|h
  ·replace h:=a0a.mp h;obtain⟨⟨ob,m,ap⟩,e,h⟩:=h
   cases u6 e
   replace h:=a0a.mp h;obtain⟨⟨g,as0,fp⟩,e,h⟩:=h
   cases lE e
   replace h:=a0a.mp h;obtain⟨⟨g,gp⟩,e,h⟩:=h
   cases cV e
   replace h:=a0a.mp h;obtain⟨⟨a0,as0⟩,e,h⟩:=h
   cases wF e
   replace h:=a0a.mp h;obtain⟨⟨a,r⟩,e,h⟩:=h
   cases wF e
   replace h:=bq h;obtain⟨z,h⟩:=h
   cases h
   rw[a0b,a0b,a0b,decide_eq_true_eq,decide_eq_true_eq] at z
   obtain⟨⟨⟨q,z1⟩,z2⟩,z3⟩:=z
   cases q
   refine Iv HJ ⟨rfl,z1,?_,λe' r' he=>?_⟩ (hE o _) (lj (hE o) _) (λe=>by cases e)
   ·rw[rz z2]
    show (true&&true&&decide _)=true
    rw[a5o,a3l,decide_eq_true_eq]
    simp only[a2o,a4f,if_true,a0o]
    have z3:r.length<20:=z3
    omega
   ·cases he
    rw[a1g,a0b] at z2
    exact⟨dY z2.1 r X.env,iX z2.2⟩
  ·replace h:=a0a.mp h;obtain⟨⟨x,q⟩,e,h⟩:=h
   cases cV e
   replace h:=a0a.mp h;obtain⟨a,e,h⟩:=h
   cases jR e
   replace h:=bq h;obtain⟨z,h⟩:=h
   cases h
   rw[a0b,a0b,a0b,a0b,decide_eq_true_eq] at z
   obtain⟨⟨⟨⟨q,z1⟩,z2⟩,z3⟩,z4⟩:=z
   cases q
   obtain⟨hg,hd⟩:=nr o z1
   obtain⟨d1,d2,d3⟩:=bm hd
   exact NU (Fc o.calm) hg (o.g.bi _ z2) tV (lj (hE o) [a]) d3 d1 (dY z4 [] X.env) rfl
 i:=λ_ _ _ _ _ h=>by cases h
 b:=λ_ _ _ _ _ h=>by cases h
 s:=λ_ _ _ _ _ _ h=>by cases h
end Dp
end
section
namespace Dp
open PySem L2 Fo
section
variable {i j d:Nat}{ρ:aq}{g g1 g2:FX}{f f1 fk fv fi':FE}{s t:Sl}{p v k:PV}{ps its:List PV}{ks:List eX}{bd:List (Nat×FE)}{fi:FI}{gr:List Gr}
noncomputable def Hf (o:Option Sl)(i:Nat)(ρ:aq):Out:=match o with
 |some t=>.nx (ρ.set i (some t))
 |none=>.bad
theorem bF:vf i g ρ=Hf (g ρ) i ρ:=Eq.trans rfl rfl
theorem aC:Hf (some t) i ρ=.nx (ρ.set i (some t)):=Eq.trans rfl rfl
theorem bz:yw i j g1 g2 ρ=zL (g1 ρ) (g2 ρ) i j ρ:=Eq.trans rfl rfl
theorem aD:zL (some s) (some t) i j ρ=.nx ((ρ.set i (some s)).set j (some t)):=Eq.trans rfl rfl
theorem fM:xE f ρ=(f ρ).bind C8:=Eq.trans rfl rfl
theorem aA:C8 (.fz p)=some (.val p):=Eq.trans rfl rfl
theorem ay:C8 (.nw ps)=some (.own ps):=Eq.trans rfl rfl
theorem aZ:D6 ρ=some (.dic [] []):=Eq.trans rfl rfl
theorem be:vH f f1 ρ=yx ((f ρ).bind RV.fr) ((f1 ρ).bind RV.fr):=Eq.trans rfl rfl
theorem aG:yx (some k) (some v)=(jI k).map λk=>.dic [k] [v]:=Eq.trans rfl rfl
theorem cu:O6 d i fi bd fk fv ρ=C3 (sl ρ d) (fi ρ) d i bd fk fv ρ:=Eq.trans rfl rfl
theorem bB:C3 (some (.dic [] [])) (some its) d i bd fk fv ρ=if its.length<=1000 then Jp (Bf i bd fk fv its (ρ.set d none) []) d else .bad:=Eq.trans rfl rfl
theorem bC:Jp (some (ρ,gr)) d=.nx (ρ.set d (some (.val (Pm gr)))):=Eq.trans rfl rfl
theorem cr:Lx [] ρ=some ρ:=Eq.trans rfl rfl
theorem ck:Lx ((i,f)::bd) ρ=((f ρ).bind RV.fr).bind λp=>Lx bd (ρ.set i (some (.val p))):=Eq.trans rfl rfl
theorem cv:Bf i bd fk fv [] ρ gr=some (ρ,gr):=Eq.trans rfl rfl
theorem cw:Bf i bd fk fv (p::ps) ρ gr=(Lx bd (ρ.set i (some (.val p)))).bind λρ2=>(((fk ρ2).bind RV.fr).bind jI).bind λk=>((fv ρ2).bind RV.fr).bind λv=>Bf i bd fk fv ps ρ2 (Oi gr k v):=Eq.trans rfl rfl
theorem bw:Dx f ρ=(f ρ).bind λr=>r.fr.bind pI:=Eq.trans rfl rfl
theorem aE:pI (.dct ks ps)=some ps:=Eq.trans rfl rfl
theorem bx:BQ f ρ=(f ρ).bind λr=>r.fr.bind pL:=Eq.trans rfl rfl
theorem aB:pL (.dct ks ps)=some (ks.map Jd):=Eq.trans rfl rfl
theorem cj:Pm gr=.dct (gr.map (·.1)) (gr.map λt=>.lst t.2):=Eq.trans rfl rfl
theorem bE:vz j fi' f ρ=zo ((f ρ).bind RV.fr) (sl ρ j) ((fi' ρ).bind RV.fr) j ρ:=Eq.trans rfl rfl
theorem aJ {a:Int}:zo (some v) (some (.dic ks ps)) (some (.int a)) j ρ=if ks.length<=100000 then .nx (ρ.set j (some (.dic (pe ks (.inl a)) (o8 ks ps (.inl a) v)))) else .bad:=Eq.trans rfl rfl
theorem aH:t5 (.dic ks ps)=.ln (.dct ks ps):=Eq.trans rfl rfl
theorem bh {a:Int}:bo (.dct ks ps) (.int a)=(o6 ks ps (.inl a)).map .fz:=Eq.trans rfl rfl
theorem aQ {a:Int}:wz (.int a) (.dct ks ps)=some (.fz (.bl (o6 ks ps (.inl a)).isSome)):=Eq.trans rfl rfl
theorem ax {a:Int}:oo (.int a) (.dct ks ps)=some (.fz (.bl (!(o6 ks ps (.inl a)).isSome))):=Eq.trans rfl rfl
theorem fL:OC f ρ=(f ρ).bind λr=>Gb r.pv:=Eq.trans rfl rfl
theorem bH:Gb (.lst ps)=some (!ps.isEmpty):=Eq.trans rfl rfl
theorem bc {k:Int}:rV (.own ps) [.int k]=if 0<=k/\k<100000 then (ps[k.toNat]?).map λp=>(.own (ps.eraseIdx k.toNat),p) else none:=Eq.trans rfl rfl
theorem bg:tZ [.dct ks ps]=some (.nw (ks.map Jd)):=Eq.trans rfl rfl
theorem bA:wN i f ρ=Ar (sl ρ i) ((f ρ).bind RV.fr) i ρ:=Eq.trans rfl rfl
theorem az {qs:List PV}:Ar (some (.own ps)) (some (.lst qs)) i ρ=if ps.length+qs.length<=100000 then .nx (ρ.set i (some (.own (ps++qs)))) else .bad:=Eq.trans rfl rfl
theorem aW:frz 0 (some (.dic ks ps)::ρ)=some (.val (.dct ks ps))::ρ:=Eq.trans rfl rfl
theorem bD {k:Nat}{fs:FA}:M5 i j k fs ρ=DU ((fs ρ).bind λrs=>rs.mapM RV.fr) i j k ρ:=Eq.trans rfl rfl
theorem aF {p q r:PV}{k:Nat}:DU (some [p,q,r]) i j k ρ=.nx (((ρ.set k (some (.val r))).set j (some (.val q))).set i (some (.val p))):=Eq.trans rfl rfl
end
end Dp
end
section
namespace Dp
open PySem PySem.Spec L2 PyProof.Rows
section
variable {prog:Program}{w:World}{A:Around}{R:Result->Shared->Prop}{I:Addr}{fp wr:List Addr}{n:Nat}{P:Nat->Value->Prop}{St:Nat->Heap->Prop}
noncomputable abbrev Mu (d:Value):List (Str×Value):=[(Str.ofString "default",d)]
noncomputable def LM (prog:Program)(w:World)(A:Around)(op:CmpOp)(h0:Heap)(P:Nat->Value->Prop)(bt:Nat->Nat->Bool)(n:Nat):Prop:=
 ∀i j vi vj (s:Shared) (Q:Value->Shared->Prop) (E:Value->Shared->Prop),i<n->j<i->(∀b o,h0.get? b=some o->s.heap.get? b=some o)->P i vi->P j vj->Q (.bool (bt i j)) s->wpAny (model prog w) A (richCompare op vi vj) Q E s
theorem kH (bt:Nat->Nat->Bool):∀j,argBest bt j<=j
 |0=>a0r _
 |j+1=>by
  rw[argBest]
  split
  ·exact a0r _
  ·exact Nat.le_succ_of_le (kH bt j)
theorem AV (Wk:Walks prog w A.in1 I fp wr n P St)(bt:Nat->Nat->Bool)(hc:CmpOf prog w A.in1 CmpOp.Gt P bt)(S:Addr)(hSf:S∉fp)(kw:List (Str×Value)):∀(k j:Nat) (s:Shared) (vb:Value) (c:Nat),n - (j+1)=k->j+1<=n->St (j+1) s.heap->P (argBest bt j) vb->s.heap.get? S=some { cls:=Value.type "list",data:=Data.seq #[vb,vb] c } →
  (∀(v:Value) (h':Heap) (tk:Nat),P (argBest bt (n - 1)) v->(∀(b:Addr) (o:Obj),b∉wr->b≠S->s.heap.get? b=some o->h'.get? b=some o)->R (Except.ok (Flow.ret v)) { s with heap:=h',toks:=tk }) →
  codeAny (model prog w) A (Code.builtin "max.loop" { pos:=[Value.ref I,Value.none,Value.ref S],kw:=kw }) R s:=by
 have hSw:S∉wr:=λh=>hSf (Wk.sub _ h)
 have hname:(toString "max"++toString ".loop" : String) = "max.loop":=by decide
 intro k
 induction k with
 |zero=>
  intro j s vb c hk hj hst hPb hS hR
  have hin:j+1=n:=by omega
  refine codeAny_builtin F.entry_max_loop ?_
  rw[Around.under_plainId F.plain_max_loop _]
  show wpAny _ A.in1 (seqItems? (.ref S) >>= _) _ _ s
  refine wpAny_bind (wpAny_seqItems hS rfl ?_)
  show wpAny _ A.in1 (tryCatch (pyNext (.ref I)) _ >>= _) _ _ s
  refine wpAny_bind (wpAny_tryCatch (Wk.done s _ _ (hin▸hst) λh' tk hk'=>?_))
  have hS':=hk' S _ hSw hS
  show wpAny _ A.in1 (updateSeq S (λ_=>#[]) >>= _) _ _ _
  refine wpAny_bind ?_
  refine wpAny_updateSeq hS' rfl (wpAny_bind (wpAny_letGo (wpAny_pure ?_)))
  exact hR vb _ tk (by rw[←hin];exact hPb) λb o hbw hbS e=>(Heap.get?_update_other _ _ (Ne.symm hbS)).trans (hk' b o hbw e)
 |succ k ih=>
  intro j s vb c hk hj hst hPb hS hR
  have hlt:j+1<n:=by omega
  refine codeAny_builtin F.entry_max_loop ?_
  rw[Around.under_plainId F.plain_max_loop _]
  show wpAny _ A.in1 (seqItems? (.ref S) >>= _) _ _ s
  refine wpAny_bind (wpAny_seqItems hS rfl ?_)
  show wpAny _ A.in1 (tryCatch (pyNext (.ref I)) _ >>= _) _ _ s
  refine wpAny_bind (wpAny_tryCatch (Wk.item (j+1) s _ _ hlt hst λv h' tk hP hst' hk'=>?_))
  have hS':=hk' S _ hSw hS
  show wpAny _ A.in1 (tryCatch (holding [v,v] (richCompare .Gt v vb >>= _)) _ >>= _) _ _ _
  refine wpAny_bind (wpAny_tryCatch (wpAny_holding (wpAny_bind (hc (j+1) (argBest bt j) v vb _ _ _ hP hPb ?_))))
  refine wpAny_bind (wpAny_holding (wpAny_truthy_bool ?_))
  refine wpAny_bind (wpAny_letGo (wpAny_pure ?_))
  cases hb:bt (j+1) (argBest bt j) with
  |true=>
   simp only[if_true]
   refine wpAny_bind ?_
   refine wpAny_updateSeq hS' rfl (wpAny_bind (wpAny_letGo ?_))
   rw[hname]
   refine wpAny_pure ⟨plainId_quiet F.plain_max_loop _,ih (j+1) _ v _ (by omega) hlt (Wk.frame _ _ _ hst' λb hbf o e=>?_) (by simp only[argBest,hb,if_true];exact hP) (Heap.get?_update_self _ hS' rfl)
    λv' h'' tk'' hP' hk''=>?_⟩
   ·exact (Heap.get?_update_other _ _ (λh:S=b=>hSf (by rw[h];exact hbf))).trans e
   ·exact hR v' h'' tk'' hP' λb o hbw hbS e=>hk'' b o hbw hbS ((Heap.get?_update_other _ _ (Ne.symm hbS)).trans (hk' b o hbw e))
  |false=>
   simp only[a1t,if_false]
   refine wpAny_bind (wpAny_letGo ?_)
   rw[hname]
   refine wpAny_pure ⟨plainId_quiet F.plain_max_loop _,ih (j+1) _ vb c (by omega) hlt hst' (by simp only[argBest,hb,a1t,if_false];exact hPb) hS' λv' h'' tk'' hP' hk''=>?_⟩
   exact hR v' h'' tk'' hP' λb o hbw hbS e=>hk'' b o hbw hbS (hk' b o hbw e)
theorem xo (Wk:Walks prog w A.in1 I fp wr n P St)(bt:Nat->Nat->Bool)(hc:CmpOf prog w A.in1 CmpOp.Gt P bt)(S:Addr)(hSf:S∉fp)(d:Value){s:Shared}{c:Nat}(hst:St 0 s.heap)
  (hS:s.heap.get? S=some { cls:=Value.type "list",data:=Data.seq #[] c })
  (h0:n=0->∀h' tk,(∀(b:Addr) (o:Obj),b∉wr->b≠S->s.heap.get? b=some o->h'.get? b=some o)->R (Except.ok (Flow.ret d)) { s with heap:=h',toks:=tk })
  (hR:0<n->∀(v:Value) (h':Heap) (tk:Nat),P (argBest bt (n - 1)) v->(∀(b:Addr) (o:Obj),b∉wr->b≠S->s.heap.get? b=some o->h'.get? b=some o)->R (Except.ok (Flow.ret v)) { s with heap:=h',toks:=tk }) :
  codeAny (model prog w) A (Code.builtin "max.loop" { pos:=[Value.ref I,Value.none,Value.ref S],kw:=Mu d }) R s:=by
 have hSw:S∉wr:=λh=>hSf (Wk.sub _ h)
 have hname:(toString "max"++toString ".loop" : String) = "max.loop":=by decide
 refine codeAny_builtin F.entry_max_loop ?_
 rw[Around.under_plainId F.plain_max_loop _]
 show wpAny _ A.in1 (seqItems? (.ref S) >>= _) _ _ s
 refine wpAny_bind (wpAny_seqItems hS rfl ?_)
 show wpAny _ A.in1 (tryCatch (pyNext (.ref I)) _ >>= _) _ _ s
 by_cases hn:n=0
 ·subst hn
  refine wpAny_bind (wpAny_tryCatch (Wk.done s _ _ hst λh' tk hk'=>?_))
  show wpAny _ A.in1 (rule _ >>= _) _ _ _
  refine wpAny_bind (wpAny_rule (wpAny_pure ?_))
  exact h0 rfl _ _ λb o hbw _ e=>hk' b o hbw e
 ·have hn:0<n:=by omega
  refine wpAny_bind (wpAny_tryCatch (Wk.item 0 s _ _ hn hst λv h' tk hP hst' hk'=>?_))
  have hS':=hk' S _ hSw hS
  show wpAny _ A.in1 (updateSeq S (λ_=>#[v,v]) >>= _) _ _ _
  refine wpAny_bind ?_
  refine wpAny_updateSeq hS' rfl ?_
  rw[hname]
  refine wpAny_pure ⟨plainId_quiet F.plain_max_loop _,AV Wk bt hc S hSf _ _ 0 _ v _ rfl hn (Wk.frame _ _ _ hst' λb hbf o e=>?_) hP (Heap.get?_update_self _ hS' rfl) λv' h'' tk'' hP' hk''=>?_⟩
  ·exact (Heap.get?_update_other _ _ (λh:S=b=>hSf (by rw[h];exact hbf))).trans e
  ·exact hR hn v' h'' tk'' hP' λb o hbw hbS e=>hk'' b o hbw hbS ((Heap.get?_update_other _ _ (Ne.symm hbS)).trans (hk' b o hbw e))
theorem AM (a v:Value):argsOk "max" ⟨[a],[(Str.ofString "default",v)]⟩:=by unfold argsOk;kernel_rfl
theorem Bt {E:Value->Shared->Prop}{s:Shared}{x d:Value}{Q:Value->Shared->Prop}
  (h:wpAny (model prog w) A.in1 (pyIter x) (λit s₂=>∃I fp wr n P St bt,it=.ref I/\Walks prog w A.in1 I fp wr n P St/\St 0 s₂.heap/\(∀b∈fp,b<s₂.heap.objs.size)/\CmpOf prog w A.in1 .Gt P bt ∧
   (n=0->∀h' tk,(∀b o,b∉wr->s₂.heap.get? b=some o->h'.get? b=some o)->Q d { s₂ with heap:=h',toks:=tk }) ∧
   (0<n->∀v h' tk,P (argBest bt (n - 1)) v->(∀b o,b∉wr->s₂.heap.get? b=some o->h'.get? b=some o)->Q v { s₂ with heap:=h',toks:=tk })) E s) :
  wpAny (model prog w) A (call (.builtin "max") [x] (Mu d)) Q E s:=by
 have hname:(toString "max"++toString ".loop" : String) = "max.loop":=by decide
 refine kmk_tree F.kind_max F.plain_max F.entry_max (AM _ _) ?_
 show wpAny _ A.in1 (Builtin.Builtins.bindParams "max" ["key","default"] 0 ⟨[],Mu d⟩ >>= _) _ _ s
 refine wpAny_bind (wpAny_of_eq (show Builtin.Builtins.bindParams "max" ["key","default"] 0 ⟨[],Mu d⟩=pure [none,some d] from rfl) ?_)
 refine wpAny_bind (wpAny_pure ?_)
 refine wpAny_bind (wpAny_mono h (λit s₂ h₂=>?_) λ_ _ e=>e)
 obtain⟨I,fp,wr,n,P,St,bt,rfl,W,hst,hfp,hcmp,hQ0,hQ⟩:=h₂
 refine wpAny_bind (wpAny_newObj_type ?_)
 have hSf:s₂.heap.objs.size∉fp:=λhm=>a1l _ (hfp _ hm)
 rw[hname]
 refine wpAny_pure ⟨plainId_quiet F.plain_max_loop _,xo W bt hcmp s₂.heap.objs.size hSf d (W.frame _ _ _ hst λb _ o e=>Heap.get?_push_of_some _ e) (Heap.get?_push_size _ rfl) (λh0 h' tk hk=>?_) λh0 v h' tk hP hk=>?_⟩
 ·exact hQ0 h0 h' tk λb o hbw e=>hk b o hbw (a1d (Heap.lt_size e)) (Heap.get?_push_of_some _ e)
 ·exact hQ h0 v h' tk hP λb o hbw e=>hk b o hbw (a1d (Heap.lt_size e)) (Heap.get?_push_of_some _ e)
theorem G6 {E:Value->Shared->Prop}{s:Shared}{a b:Addr}{oa ob:Obj}{xr yr:List Value}{na nb:Nat}{x1 x2 y1 y2:Int}{t1 t2 u1 u2:Tok}{Q:PySem.Fin->Shared->Prop}
  (ha:s.heap.get? a=some oa) (ca:oa.cls=.type "tuple") (da:oa.data=.seq (.int x1 t1::.int x2 t2::xr).toArray na) (hb:s.heap.get? b=some ob) (cb:ob.cls=.type "tuple") (db:ob.data=.seq (.int y1 u1::.int y2 u2::yr).toArray nb) (ne:x2≠y2)
  (h:Q (.done (.ret (.bool (if x1=y1 then decide (x2<y2) else decide (x1<y1))))) s):wpAny (model prog w) A (Builtin.«tuple.__lt__» ⟨[.ref a,.ref b],[]⟩) Q E s:=by
 have lt:∀{x y:Int} {t u:Tok} {Q:Value->Shared->Prop},Q (.bool (decide (x<y))) s->wpAny (model prog w) A (richCompare .Lt (.int x t) (.int y u)) Q E s:=λ{x y t u Q} h=>richCompare_gives (op:=.Lt) (typeIs_int s _ t) (typeIs_int s _ u) F.slot_int_lt F.entry_int_lt (F.args_int_lt_2 _ _) (gives_int_lt _ _ t u) (λx=>nomatch x) h
 show wpAny _ _ (isInstance (.ref b) (.type "tuple") >>= _) _ _ s
 refine wpAny_bind (wpAny_isInstance (T:="tuple") ⟨ob,hb,cb⟩ sub_tuple_tuple ?_)
 simp only[Bool.not_true,a1t,if_false]
 refine wpAny_bind (wpAny_tupleItemsOf ha da ?_)
 refine wpAny_bind (wpAny_tupleItemsOf hb db ?_)
 simp only[a4q,a5b]
 refine wpAny_bind (wpAny_bind (wpAny_bind (wpAny_eqBool_int ?_)))
 by_cases e:x1=y1
 ·rw[if_pos e] at h
  rw[show (x1==y1)=true by rw[e];exact beq_self_eq_true _]
  simp only[Bool.not_true,a1t,if_false]
  refine wpAny_pure ?_
  simp only[a4q,a5b]
  refine wpAny_bind (wpAny_bind (wpAny_eqBool_int ?_))
  rw[show (x2==y2)=false from beq_eq_false_iff_ne.mpr ne]
  simp only[Bool.not_false,if_true]
  refine wpAny_bind (wpAny_rule (wpAny_bind (lt (wpAny_bind (wpAny_pure (wpAny_pure (wpAny_pure (wpAny_pure h))))))))
 ·rw[if_neg e] at h
  rw[show (x1==y1)=false from beq_eq_false_iff_ne.mpr e]
  simp only[Bool.not_false,if_true]
  refine wpAny_bind (wpAny_rule (wpAny_bind (lt (wpAny_bind (wpAny_pure (wpAny_pure (wpAny_pure (wpAny_pure h))))))))
theorem AL (Wk:Walks prog w A.in1 I fp wr n P St){h0:Heap}(bt:Nat->Nat->Bool)(hc:LM prog w A.in1 CmpOp.Lt h0 P bt n)(S:Addr)(hSf:S∉fp)(hS0:h0.get? S=none)(hw0:∀b∈wr,h0.get? b=none):∀(k j:Nat) (s:Shared) (vb:Value) (c:Nat),n - (j+1)=k->j+1<=n->(∀b o,h0.get? b=some o->s.heap.get? b=some o)->St (j+1) s.heap->P (argBest bt j) vb->s.heap.get? S=some { cls:=Value.type "list",data:=Data.seq #[vb,vb] c } →
  (∀(v:Value) (h':Heap) (tk:Nat),P (argBest bt (n - 1)) v->(∀b o,h0.get? b=some o->h'.get? b=some o)->R (Except.ok (Flow.ret v)) { s with heap:=h',toks:=tk }) →
  codeAny (model prog w) A (Code.builtin "min.loop" { pos:=[Value.ref I,Value.none,Value.ref S] }) R s:=by
 have hSw:S∉wr:=λh=>hSf (Wk.sub _ h)
 have hname:(toString "min"++toString ".loop" : String) = "min.loop":=by decide
 have kw:∀{h h':Heap},(∀b o,h0.get? b=some o->h.get? b=some o)->(∀b o,b∉wr->h.get? b=some o->h'.get? b=some o)->∀b o,h0.get? b=some o->h'.get? b=some o:=λk1 k2 b o e=>k2 b o (λy=>by rw[hw0 b y] at e;cases e) (k1 b o e)
 have ks:∀{h:Heap} (f:Array Value->Array Value),(∀b o,h0.get? b=some o->h.get? b=some o)->∀b o,h0.get? b=some o->(h.update S (Obj.mapSeq f)).get? b=some o:=λf k1 b o e=>(Heap.get?_update_other _ _ (λy=>by rw[←y,hS0] at e;cases e)).trans (k1 b o e)
 intro k
 induction k with
 |zero=>
  intro j s vb c hk hj k0 hst hPb hS hR
  have hin:j+1=n:=by omega
  refine codeAny_builtin F.entry_min_loop ?_
  rw[Around.under_plainId F.plain_min_loop _]
  show wpAny _ A.in1 (seqItems? (.ref S) >>= _) _ _ s
  refine wpAny_bind (wpAny_seqItems hS rfl ?_)
  show wpAny _ A.in1 (tryCatch (pyNext (.ref I)) _ >>= _) _ _ s
  refine wpAny_bind (wpAny_tryCatch (Wk.done s _ _ (hin▸hst) λh' tk hk'=>?_))
  have hS':=hk' S _ hSw hS
  show wpAny _ A.in1 (updateSeq S (λ_=>#[]) >>= _) _ _ _
  refine wpAny_bind ?_
  refine wpAny_updateSeq hS' rfl (wpAny_bind (wpAny_letGo (wpAny_pure ?_)))
  exact hR vb _ tk (by rw[←hin];exact hPb) (ks _ (kw k0 hk'))
 |succ k ih=>
  intro j s vb c hk hj k0 hst hPb hS hR
  have hlt:j+1<n:=by omega
  refine codeAny_builtin F.entry_min_loop ?_
  rw[Around.under_plainId F.plain_min_loop _]
  show wpAny _ A.in1 (seqItems? (.ref S) >>= _) _ _ s
  refine wpAny_bind (wpAny_seqItems hS rfl ?_)
  show wpAny _ A.in1 (tryCatch (pyNext (.ref I)) _ >>= _) _ _ s
  refine wpAny_bind (wpAny_tryCatch (Wk.item (j+1) s _ _ hlt hst λv h' tk hP hst' hk'=>?_))
  have hS':=hk' S _ hSw hS
  show wpAny _ A.in1 (tryCatch (holding [v,v] (richCompare .Lt v vb >>= _)) _ >>= _) _ _ _
  refine wpAny_bind (wpAny_tryCatch (wpAny_holding (wpAny_bind (hc (j+1) (argBest bt j) v vb _ _ _ hlt (Nat.lt_succ_of_le (kH bt j)) (kw k0 hk') hP hPb ?_))))
  refine wpAny_bind (wpAny_holding (wpAny_truthy_bool ?_))
  refine wpAny_bind (wpAny_letGo (wpAny_pure ?_))
  cases hb:bt (j+1) (argBest bt j) with
  |true=>
   simp only[if_true]
   refine wpAny_bind ?_
   refine wpAny_updateSeq hS' rfl (wpAny_bind (wpAny_letGo ?_))
   rw[hname]
   refine wpAny_pure ⟨plainId_quiet F.plain_min_loop _,ih (j+1) _ v _ (by omega) hlt (ks _ (kw k0 hk')) (Wk.frame _ _ _ hst' λb hbf o e=>?_) (by simp only[argBest,hb,if_true];exact hP) (Heap.get?_update_self _ hS' rfl)
    λv' h'' tk'' hP' hk''=>hR v' h'' tk'' hP' hk''⟩
   exact (Heap.get?_update_other _ _ (λh:S=b=>hSf (by rw[h];exact hbf))).trans e
  |false=>
   simp only[a1t,if_false]
   refine wpAny_bind (wpAny_letGo ?_)
   rw[hname]
   exact wpAny_pure ⟨plainId_quiet F.plain_min_loop _,ih (j+1) _ vb c (by omega) hlt (kw k0 hk') hst' (by simp only[argBest,hb,a1t,if_false];exact hPb) hS' λv' h'' tk'' hP' hk''=>hR v' h'' tk'' hP' hk''⟩
theorem A8 {E:Value->Shared->Prop}{s:Shared}{x:Value}{Q:Value->Shared->Prop}
  (h:wpAny (model prog w) A.in1 (pyIter x) (λit s₂=>∃I fp wr n P St bt,it=.ref I/\Walks prog w A.in1 I fp wr n P St/\St 0 s₂.heap/\(∀b∈fp,b<s₂.heap.objs.size)/\0<n/\(∀b∈wr,s.heap.get? b=none)/\(∀b o,s.heap.get? b=some o->s₂.heap.get? b=some o)/\LM prog w A.in1 .Lt s.heap P bt n ∧
   ∀v h' tk,P (argBest bt (n - 1)) v->(∀b o,s.heap.get? b=some o->h'.get? b=some o)->Q v { s₂ with heap:=h',toks:=tk }) E s) :
  wpAny (model prog w) A (call (.builtin "min") [x]) Q E s:=by
 have hname:(toString "min"++toString ".loop" : String) = "min.loop":=by decide
 refine call_function_tree F.kind_min F.plain_min F.entry_min (F.args_min1 _) ?_
 show wpAny _ A.in1 (Builtin.Builtins.bindParams "min" ["key","default"] 0 ⟨[],[]⟩ >>= _) _ _ s
 refine wpAny_bind (wpAny_of_eq (show Builtin.Builtins.bindParams "min" ["key","default"] 0 ⟨[],[]⟩=pure [none,none] from rfl) ?_)
 refine wpAny_bind (wpAny_pure ?_)
 refine wpAny_bind (wpAny_mono h (λit s₂ h₂=>?_) λ_ _ e=>e)
 obtain⟨I,fp,wr,n,P,St,bt,rfl,W,hst,hfp,hn,hw0,k0,hcmp,hQ⟩:=h₂
 refine wpAny_bind (wpAny_newObj_type ?_)
 have hSf:s₂.heap.objs.size∉fp:=λhm=>a1l _ (hfp _ hm)
 rw[hname]
 refine wpAny_pure ⟨plainId_quiet F.plain_min_loop _,?_⟩
 have hS:(s₂.heap.push (seqObj "list" #[] 0)).get? s₂.heap.objs.size=some (seqObj "list" #[] 0):=Heap.get?_push_size _ rfl
 have hS0:s.heap.get? s₂.heap.objs.size=none:=by
  cases e:s.heap.get? s₂.heap.objs.size with
  |none=>rfl
  |some o=>exact absurd (Heap.lt_size (k0 _ o e)) (a1l _)
 have hSw:s₂.heap.objs.size∉wr:=λy=>hSf (W.sub _ y)
 have k1:∀b o,s.heap.get? b=some o->(s₂.heap.push (seqObj "list" #[] 0)).get? b=some o:=λb o e=>Heap.get?_push_of_some _ (k0 b o e)
 refine codeAny_builtin F.entry_min_loop ?_
 rw[Around.under_plainId F.plain_min_loop _]
 show wpAny _ A.in1 (seqItems? (.ref _) >>= _) _ _ _
 refine wpAny_bind (wpAny_seqItems hS rfl ?_)
 show wpAny _ A.in1 (tryCatch (pyNext (.ref I)) _ >>= _) _ _ _
 refine wpAny_bind (wpAny_tryCatch (W.item 0 _ _ _ hn (W.frame _ _ _ hst λb _ o e=>Heap.get?_push_of_some _ e) λv h' tk hP hst' hk'=>?_))
 have hS':=hk' _ _ hSw hS
 have k2:∀b o,s.heap.get? b=some o->h'.get? b=some o:=λb o e=>hk' b o (λy=>by rw[hw0 b y] at e;cases e) (k1 b o e)
 show wpAny _ A.in1 (updateSeq _ (λ_=>#[v,v]) >>= _) _ _ _
 refine wpAny_bind ?_
 refine wpAny_updateSeq hS' rfl ?_
 rw[hname]
 refine wpAny_pure ⟨plainId_quiet F.plain_min_loop _,AL W bt hcmp _ hSf hS0 hw0 _ 0 _ v _ rfl hn (λb o e=>(Heap.get?_update_other _ _ (λy=>by rw[←y,hS0] at e;cases e)).trans (k2 b o e)) (W.frame _ _ _ hst' λb hbf o e=>?_) hP (Heap.get?_update_self _ hS' rfl) λv' h'' tk'' hP' hk''=>?_⟩
 ·exact (Heap.get?_update_other _ _ (λh=>hSf (by rw[h];exact hbf))).trans e
 ·exact hQ v' h'' tk'' hP' hk''
end
section
variable {prog:Program}{w:World}{A:Around}{E:Value->Shared->Prop}{s:Shared}
theorem mN (hh:A.handled=none){a:Addr}{its:List Value}(h:IsTup s.heap a its.toArray\/∃n,s.heap.get? a=some (eZ its n)){Q:Value->Shared->Prop}
  (q:∀(o:Obj) (I:Addr) (fp:List Addr) (St:Nat->Heap->Prop),I=s.heap.objs.size->Walks prog w A I fp [I] its.toArray.size (λi v=>its.toArray[i]?=some v) St->St 0 (s.heap.push o)->(∀b∈fp,b<(s.heap.push o).objs.size)->Q (.ref I) { s with heap:=s.heap.push o }) :
  wpAny (model prog w) A (pyIter (.ref a)) Q E s:=by
 have fpo:∀o:Obj,a<s.heap.objs.size->∀b∈[s.heap.objs.size,a],b<(s.heap.push o).objs.size:=λo hl b hb=>by
  rw[Heap.size_push]
  rcases a0t.mp hb with rfl|hb
  ·exact a2h _
  ·rw[a0f.mp hb];exact a3w hl
 rcases h with ⟨o,ho,r⟩|⟨n,ho⟩
 ·have hl:=Heap.lt_size ho
  refine wpAny_pyIter_tuple (show s.heap.IsTuple a its.toArray from⟨o,ho,r⟩) (q _ _ _ _ rfl (Walks.tuple hh _ a (a1d hl) _) ⟨⟨_,Heap.get?_push_size _ rfl,rfl,rfl⟩,⟨o,Heap.get?_push_of_some _ ho,r⟩⟩ (fpo _ hl))
 ·have hl:=Heap.lt_size ho
  exact wpAny_pyIter_list (bj ho) (q _ _ _ _ rfl (Walks.list hh _ a (a1d hl) _) ⟨⟨_,Heap.get?_push_size _ rfl,rfl,rfl⟩,bj (Heap.get?_push_of_some _ ho)⟩ (fpo _ hl))
theorem vk {is:List Int}(h:0<is.length):is.getD (argBest (λi j=>decide (is.getD i 0 > is.getD j 0)) (is.length - 1)) 0=lH is:=by
 obtain⟨h1,h2⟩:=argBest_gt (λi=>is.getD i 0) (is.length - 1)
 obtain⟨m1,m2⟩:=nX h
 refine a4e (m2 _ (getD_mem (by omega))) ?_
 obtain⟨j,hj,e⟩:=mem_getD m1
 rw[←e];exact h2 j (by omega)
theorem pJ {its:List Value}{is:List Int}(hi:IntsAre its is)(i:Nat)(v:Value)(h:its.toArray[i]?=some v):∃t,v=.int (is.getD i 0) t:=by
 have h:its[i]?=some v:=by simpa using h
 have hl:=hi.length
 have hn:∃n,is[i]?=some n:=⟨_,a0h (by have:=(a0i.mp h).1;omega)⟩
 obtain⟨n,hn⟩:=hn
 obtain⟨t,ht⟩:=hi.get i n hn
 rw[ht] at h
 cases h
 exact⟨t,by rw[a0k,hn];rfl⟩
end
section
variable {X:Cx}
noncomputable def yo:List PV->Option RV
 |[p]=>(items p).bind λps=>(gv ps).bind λis=>if is.length=0 then none else some (.fz (.int (lH is)))
 |_=>none
theorem K0 (hc:X.calm=true):dm X (.builtin "max") yo:=λz s ps us r E hz d q=>by
 unfold yo at q
 split at q
 ·obtain⟨ps,e1,q⟩:=a0a.mp q
  obtain⟨is,e2,q⟩:=a0a.mp q
  obtain⟨u,rfl,du⟩:=d.one
  obtain⟨a,its,rfl,_,zl,ds,h⟩:=D1.items du.1 e1
  have hi:=nq ds e2
  have hl:=hi.length
  split at q
  ·cases q
  ·next hne=>
   cases q
   refine call_max_walk (mN (A:=X.A.in1) (hz.I.ok.hd hc) h λo I fp St eI W st hfp=>⟨I,fp,[I],_,_,St,λi j=>decide (is.getD i 0 > is.getD j 0),rfl,W,st,hfp,by simp;omega,CmpOf.ints_gt (λi=>is.getD i 0) λi v hv=>pJ hi i v hv,λv h' tk hP hk=>?_⟩)
   obtain⟨t,rfl⟩:=pJ hi _ _ hP
   refine⟨hz.kept λb o e=>hk b o (λy=>by rw[a0f.mp y,eI] at e;exact absurd (Heap.lt_size e) (a1l _)) (Heap.get?_push_of_some _ e),t,?_⟩
   rw[a0g,hl,vk (by omega)]
 ·cases q
noncomputable def DS:PV->Option (Int×Int)
 |.tup (.int a::.int b::_)=>some (a,b)
 |_=>none
noncomputable def qq:List PV->Option (List (Int×Int))
 |[]=>some []
 |p::ps=>(DS p).bind λk=>(qq ps).map λks=>k::ks
theorem wy:∀{ps:List PV} {ks:List (Int×Int)},qq ps=some ks->ps.length=ks.length/\∀i p,ps[i]?=some p->DS p=some (ks.getD i (0,0))
 |[],ks,h=>by cases h;exact⟨rfl,λi p e=>by simp at e⟩
 |q::ps,ks,h=>by
  obtain⟨k,e1,h⟩:=a0a.mp h
  obtain⟨ks',e2,rfl⟩:=a0d.mp h
  obtain⟨l,ih⟩:=wy e2
  refine⟨by simp[l],λi p e=>?_⟩
  cases i with
  |zero=>cases e;exact e1
  |succ i=>exact ih i p (by simpa using e)
noncomputable def zR (ks:List (Int×Int))(i j:Nat):Bool:=if (ks.getD i (0,0)).1=(ks.getD j (0,0)).1 then decide ((ks.getD i (0,0)).2<(ks.getD j (0,0)).2) else decide ((ks.getD i (0,0)).1<(ks.getD j (0,0)).1)
noncomputable def sO:List PV->Option RV
 |[p]=>(la p).bind λps=>(qq ps).bind λks=>if 0<ks.length/\(ks.map (·.2)).Nodup then some (.fz (ps.getD (argBest (zR ks) (ks.length - 1)) .non)) else none
 |_=>none
theorem Ak {c:Cn}{h:Heap}{p:PV}{v:Value}{k:Int×Int}(e:DS p=some k)(d:D c h p v):∃b ob r t1 t2 n,v=.ref b/\h.get? b=some ob/\ob.cls=.type "tuple"/\ob.data=.seq (.int k.1 t1::.int k.2 t2::r).toArray n:=by
 unfold DS at e
 split at e
 ·cases e
  obtain⟨b,its,rfl,_,⟨o,ho,hc,n,hd⟩,_,u1,r1,rfl,⟨t1,rfl⟩,u2,r2,rfl,⟨t2,rfl⟩,_⟩:=d
  exact⟨b,o,r2,t1,t2,n,rfl,ho,hc,hd⟩
 ·cases e
theorem JS (hc:X.calm=true)(hu:X.A.units+64<cLine):dm X (.builtin "min") sO:=λz s ps us r E hz d q=>by
 unfold sO at q
 split at q
 ·obtain⟨ps,e1,q⟩:=a0a.mp q
  obtain⟨ks,e2,q⟩:=a0a.mp q
  obtain⟨u,rfl,du⟩:=d.one
  obtain⟨a,its,n,rfl,_,e3,zl,ds⟩:=D1.lst du.1 e1
  obtain⟨l1,hk⟩:=wy e2
  have l2:=ds.length
  split at q
  ·next hne=>
   cases q
   refine A8 (mN (A:=X.A.in1) (hz.I.ok.hd hc) (.inr ⟨n,e3⟩) λo I fp St eI W st hfp=>⟨I,fp,[I],_,_,St,zR ks,rfl,W,st,hfp,by rw[a0g];omega,λb hb=>?_,λb o e=>Heap.get?_push_of_some _ e,?_,λv h' tk hP hk'=>?_⟩)
   ·rw[a0f.mp hb,eI];exact Heap.get?_none_of_le (a0r _)
   ·intro i j vi vj s' Q E' hi hj k0 h1 h2 hq
    have h1:its[i]?=some vi:=by simpa using h1
    have h2:its[j]?=some vj:=by simpa using h2
    rw[a0g] at hi
    obtain⟨p1,f1⟩:∃p,ps[i]?=some p:=⟨_,a0h (by omega)⟩
    obtain⟨p2,f2⟩:∃p,ps[j]?=some p:=⟨_,a0h (by omega)⟩
    obtain⟨v1,g1,d1⟩:=ds.get f1
    obtain⟨v2,g2,d2⟩:=ds.get f2
    rw[h1] at g1;cases g1
    rw[h2] at g2;cases g2
    obtain⟨b1,o1,r1,t1,t2,n1,rfl,ho1,c1,a1⟩:=Ak (hk _ _ f1) d1
    obtain⟨b2,o2,r2,t3,t4,n2,rfl,ho2,c2,a2⟩:=Ak (hk _ _ f2) d2
    have ho1:=k0 _ _ ho1
    have ho2:=k0 _ _ ho2
    have hT1:s'.TypeIs (.ref b1) "tuple":=⟨o1,ho1,c1⟩
    have hT2:s'.TypeIs (.ref b2) "tuple":=⟨o2,ho2,c2⟩
    refine wpAny_richCompare_same_room (T:="tuple") hT1 hT2 F.slot_tuple_lt (wpAny_call_entry F.slot_tuple_lt hT1 F.entry_tuple_lt (G6 ho1 c1 a1 ho2 c2 a2 ?_ ⟨_,rfl,?_,hq⟩) (F.args_tuple_lt_2 _ _)) (show X.A.units+1<cLine by omega)
    ·intro e
     have gi:i<(ks.map (·.2)).length:=by rw[a0j];omega
     have gj:j<(ks.map (·.2)).length:=by rw[a0j];omega
     have e3:(ks.map (·.2))[i]=(ks.map (·.2))[j]:=by
      rw[a4c,a4c]
      rw[a0k,a0k,a0h (by omega),a0h (by omega)] at e
      exact e
     have:=(List.nodup_iff_pairwise_ne.mp hne.2)
     have:=(List.pairwise_iff_getElem.mp this) j i gj gi hj
     exact this e3.symm
    ·intro y;cases y
   ·have hP:its[argBest (zR ks) (its.toArray.size - 1)]?=some v:=by simpa using hP
    rw[a0g,l2,l1] at hP
    have hlt:=kH (zR ks) (ks.length - 1)
    have f1:ps[argBest (zR ks) (ks.length - 1)]?=some (ps.getD (argBest (zR ks) (ks.length - 1)) .non):=by rw[a0k,a0h (by omega)];rfl
    obtain⟨v1,g1,d1⟩:=ds.get f1
    rw[hP] at g1;cases g1
    exact⟨hz.kept hk',D1.m d1 (Ext.kpD (.kept hk'))⟩
  ·cases q
 ·cases q
noncomputable def yK:List PV->Option PV->Option RV
 |[p],some d=>(items p).bind λps=>(gv ps).bind λis=>some (.fz (if is.length=0 then d else .int (lH is)))
 |_,_=>none
noncomputable def yD (fs:FA)(g:FE):FE:=λρ=>(fs ρ).bind λrs=>(g ρ).bind λr2=>yK (rs.map RV.pv) r2.fr
theorem JK {p kp pos:Pos}{e e2:Expr}{fs:FA}{g:FE}(hc:X.calm=true)(hg:Gl X "max")(hm:X.mg "max" = none)(h:NA X [e] fs)(h2:NE X e2 g)
  (he:starEach [e] X.env=[(false,eval e X.env)]):NE X (.Call (.Name "max" p) [e] [⟨some (Str.ofString "default"),e2,kp⟩] pos) (yD fs g):=λz s r E hz q=>by
 obtain⟨rs,ers,q⟩:=a0a.mp q
 obtain⟨r2,er2,q⟩:=a0a.mp q
 refine wpAny_Call_Name_kw (kX hz.I hg hm (show bootBuiltins "max" = some (.builtin "max") by decide +kernel) ?_ (by decide) (by decide))
 refine PyProof.Rows.callWith_kw ?_ (by rw[he];rfl) (by rw[he];rfl)
 refine aV (h z pos s rs E hz ers) λus s1 ⟨g1,d1⟩=>?_
 refine PyProof.Rows.kws_cons (aV (h2 z s1 r2 E g1.1 er2) λv s2 q2=>PyProof.Rows.kws_nil ?_)
 have d1:=(d1.ext q2.1.2).rv
 unfold yK at q
 split at q
 ·next p1 d ep ed=>
  obtain⟨ps,e1,q⟩:=a0a.mp q
  obtain⟨is,e3,q⟩:=a0a.mp q
  cases q
  rw[ep] at d1
  obtain⟨u,rfl,du⟩:=d1.one
  obtain⟨a,its,rfl,_,zl,ds,hh⟩:=D1.items du.1 e1
  have hi:=nq ds e3
  have hl:=hi.length
  have hz2:=q2.1.1
  have dv:=q2.2.fr ed
  refine (?_:wpAny _ _ (call (.builtin "max") [.ref a] (Mu v)) _ _ _)
  have kk:∀{o:Obj} {I:Addr} {h':Heap},I=s2.heap.objs.size->(∀b o',b∉[I]->(s2.heap.push o).get? b=some o'->h'.get? b=some o')->∀b o',s2.heap.get? b=some o'->h'.get? b=some o':=λeI hk b o' e=>hk b o' (λy=>by rw[a0f.mp y,eI] at e;exact absurd (Heap.lt_size e) (a1l _)) (Heap.get?_push_of_some _ e)
  refine Bt (mN (A:=X.A.in1) (hz2.I.ok.hd hc) hh λo I fp St eI W st hfp=>⟨I,fp,[I],_,_,St,λi j=>decide (is.getD i 0 > is.getD j 0),rfl,W,st,hfp,CmpOf.ints_gt (λi=>is.getD i 0) λi v hv=>pJ hi i v hv,λh0 h' tk hk=>?_,λh0 v' h' tk hP hk=>?_⟩)
  ·rw[if_pos (by rw[a0g] at h0;omega)]
   exact (g1.trans q2.1).post (hz2.kept (kk eI hk) |> λg=>⟨g,dv.m (Ext.kpD (.kept (kk eI hk)))⟩)
  ·rw[a0g] at h0
   rw[if_neg (by omega)]
   obtain⟨t,rfl⟩:=pJ hi _ _ hP
   refine (g1.trans q2.1).post ⟨hz2.kept (kk eI hk),t,?_⟩
   rw[a0g,hl,vk (by omega)]
 ·cases q
end
noncomputable def KL (G:Gd)(rE:Lc->Expr->FE)(L:Lc)(e:Expr):Option FE:=
 (GC e).bind λc=>(pM c.1).bind λx=>(u1 c.2.1).bind λa=>lX (glob L x.1&&G.bi.contains x.1&&xI L c.2.2&&l6 a) (Dj (lX (decide (x.1 = "max")) (some (fB yo (vA (rE L) [a])))) (lX (decide (x.1 = "min")) (some (fB sO (vA (rE L) [a])))))
noncomputable def P7:Expr->Option (Expr×List Expr×Str×Expr×Pos×Pos)
 |.Call f as ks p=>(u1 ks).bind λk=>k.arg.map λy=>(f,as,y,k.value,k.pos,p)
 |_=>none
theorem IX {e f b:Expr}{as:List Expr}{y:Str}{kp p:Pos}(h:P7 e=some (f,as,y,b,kp,p)):e=.Call f as [⟨some y,b,kp⟩] p:=by
 cases e<;>first|(cases h;done)|skip
 replace h:=a0a.mp h;obtain⟨⟨ya,v,kq⟩,e1,h⟩:=h
 replace h:=a0d.mp h;obtain⟨z,e2,h⟩:=h
 cases h
 rw[jR e1]
 have e2:ya=some y:=e2
 rw[e2]
noncomputable def IR (G:Gd)(rE:Lc->Expr->FE)(L:Lc)(e:Expr):Option FE:=
 (P7 e).bind λc=>(pM c.1).bind λx=>(u1 c.2.1).bind λa=>lX (decide (x.1 = "max")&&decide (c.2.2.1=Str.ofString "default")&&glob L x.1&&G.bi.contains x.1&&l6 a) (some (yD (vA (rE L) [a]) (rE L c.2.2.2.1)))
noncomputable def M4 (G:Gd)(rE:Lc->Expr->FE)(rB:Lc->Expr->FB)(L:Lc)(e:Expr):Option FE:=Dj (KL G rE L e) (IR G rE L e)
noncomputable def hkMax:Hk where
 e:=M4
theorem Ca:HkOk hkMax where
 e:=λ{X k G L rE rB} o hE hB e f h=>by
  replace h:=jD h;rcases h with h|h
  ·replace h:=a0a.mp h;obtain⟨⟨fn,as,p⟩,e,h⟩:=h
   cases lE e
   replace h:=a0a.mp h;obtain⟨⟨x,q⟩,e,h⟩:=h
   cases cV e
   replace h:=a0a.mp h;obtain⟨a,e,h⟩:=h
   cases jR e
   replace h:=bq h;obtain⟨z,h⟩:=h
   rw[a0b,a0b,a0b] at z
   obtain⟨⟨⟨z1,z2⟩,z3⟩,z4⟩:=z
   obtain⟨hg,hd⟩:=nr o z1
   obtain⟨d1,d2,d3⟩:=bm hd
   have hu:X.A.units+64<cLine:=o.r.units
   replace h:=jD h;rcases h with h|h
   ·replace h:=bq h;obtain⟨ex,h⟩:=h
    cases of_decide_eq_true ex
    cases h
    exact II (K0 o.calm) hg (o.g.bi _ z2) (by decide +kernel) (lj (hE o) [a]) d3 d1 (dY z4 [] X.env) rfl
   ·replace h:=bq h;obtain⟨ex,h⟩:=h
    cases of_decide_eq_true ex
    cases h
    exact II (JS o.calm hu) hg (o.g.bi _ z2) (by decide +kernel) (lj (hE o) [a]) d3 d1 (dY z4 [] X.env) rfl
  ·replace h:=a0a.mp h;obtain⟨⟨fn,as,y,b,kp,p⟩,e,h⟩:=h
   cases IX e
   replace h:=a0a.mp h;obtain⟨⟨x,q⟩,e,h⟩:=h
   cases cV e
   replace h:=a0a.mp h;obtain⟨a,e,h⟩:=h
   cases jR e
   replace h:=bq h;obtain⟨z,h⟩:=h
   cases h
   rw[a0b,a0b,a0b,a0b,decide_eq_true_eq,decide_eq_true_eq] at z
   obtain⟨⟨⟨⟨q1,q2⟩,z1⟩,z2⟩,z4⟩:=z
   cases q1;cases q2
   obtain⟨hg,hd⟩:=nr o z1
   exact JK o.calm hg (o.g.bi _ z2) (lj (hE o) [a]) (hE o b) (dY z4 [] X.env)
 i:=λ_ _ _ _ _ h=>by cases h
 b:=λ_ _ _ _ _ h=>by cases h
 s:=λ_ _ _ _ _ _ h=>by cases h
end Dp
end
section
namespace Dp
open PySem L2 Fo
section
variable {ρ:aq}{g:FE}{fs:FA}{p d:PV}
theorem bG:yD fs g ρ=(fs ρ).bind λrs=>(g ρ).bind λr2=>yK (rs.map RV.pv) r2.fr:=Eq.trans rfl rfl
theorem aX:yK [p] (some d)=(items p).bind λps=>(gv ps).bind λis=>some (.fz (if is.length=0 then d else .int (lH is))):=Eq.trans rfl rfl
theorem aY:yo [p]=(items p).bind λps=>(gv ps).bind λis=>if is.length=0 then none else some (.fz (.int (lH is))):=Eq.trans rfl rfl
theorem aT:sO [p]=(la p).bind λps=>(qq ps).bind λks=>if 0<ks.length/\(ks.map (·.2)).Nodup then some (.fz (ps.getD (argBest (zR ks) (ks.length - 1)) .non)) else none:=Eq.trans rfl rfl
end
end Dp
end
section
namespace Dp
open PySem L2
noncomputable def ko (ρ:aq):Out:=(aR (iY (fB uP (aa (fV 0) (aa (fC (.ty "int")) af))) (rH (zf (fB uP (aa (fV 0) (aa (fC (.ty "bool")) af))))))) ρ
noncomputable def gx:List PV->Option PR:=run 1 1 ko
theorem uj {a0:PV}:gx [a0]=(ko [some (.val a0)]).res:=Eq.trans rfl rfl
noncomputable def lF (ρ:aq):Out:=(aR (iY (ao gx (aa (fV 0) af)) (rH (EJ EN EN (fC (.int 1)) (fV 0) (fC (.int 40)))))) ρ
noncomputable def j3:List PV->Option PR:=run 1 1 lF
theorem vy {a0:PV}:j3 [a0]=(lF [some (.val a0)]).res:=Eq.trans rfl rfl
noncomputable def km (ρ:aq):Out:=(aR (iY (ao gx (aa (fV 1) af)) (rH (EJ EN Ip (fC (.int 0)) (fV 1) (fV 0))))) ρ
noncomputable def bN:List PV->Option PR:=run 2 2 km
theorem u5 {a0 a1:PV}:bN [a0,a1]=(km [some (.val a0),some (.val a1)]).res:=Eq.trans rfl rfl
noncomputable def hO (ρ:aq):Option Bool:=(fT (ak mW (ak bo (fV 0) (ak bo (fV 2) (qb (fC (.int 1))))) (ak bo (fV 2) (qb (fC (.int 1)))))) ρ
noncomputable def i6 (ρ:aq):Out:=(u7 lZ 2 (aa (ak bo (fV 0) (ak bo (fV 2) (qb (fC (.int 1))))) af)) ρ
noncomputable def mR (ρ:aq):Out:=(aj (ic 2 (im (aa (fV 1) af)))
  (aj (eT hO i6)
  (jc 2))) ρ
noncomputable def kY:List PV->Option PR:=run 2 3 mR
theorem xv {a0 a1:PV}:kY [a0,a1]=(mR [some (.val a0),some (.val a1),none]).res:=Eq.trans rfl rfl
noncomputable def dJ (ρ:aq):Out:=(aj (aI 3 (ak bJ (ak b6 (ak b6 (ak gh (fV 3) (ak b6 (ak bJ (fV 3) (fC (.int 65521))) (fC (.int 40487)))) (ak gh (fC (.int 7)) (fV 5))) (fC (.int 5))) (fC (.int 1999999973))))
  (aj (u7 lZ 2 (aa (ak bo (im (aa (fV 3) (aa (ak bJ (fV 4) (fC (.int 1000000))) af))) (fB vM (aa (ak Lm (fV 4) (fC (.int 0))) af))) af))
  (aI 4 (ak oj (fV 4) (fC (.int 1000000)))))) ρ
noncomputable def cY (ρ:aq):Out:=(aj (ic 2 (im af))
  (aj (aI 3 (ak bJ (ak gh (ak b6 (ak bJ (fV 0) (fC (.int 1999999973))) (fC (.int 31))) (fC (.int 765432101))) (fC (.int 1999999973))))
  (aj (aI 4 (fC (.int 0)))
  (aj (hZ (oy (fT (ak Ip (fV 0) (fC (.int 0)))) (fT (ak LA (fV 0) (ak KW (fC (.int 10)) (fC (.int 18)))))) (aI 4 (fB Eo (aa (fV 0) af))) aP)
  (aj (jP (k5 nK (aa (fV 1) af)) (gN 5) dJ)
  (jc 2)))))) ρ
noncomputable def bT:List PV->Option PR:=run 2 6 cY
theorem gA {a0 a1:PV}:bT [a0,a1]=(cY [some (.val a0),some (.val a1),none,none,none,none]).res:=Eq.trans rfl rfl
noncomputable def gd (ρ:aq):Out:=(aI 2 (ak bJ (ak b6 (ak gh (fV 2) (fC (.int 69621))) (fV 3)) (fC (.int 2147483647)))) ρ
noncomputable def gR (ρ:aq):Out:=(aj (hZ (fT (ak Ip (fV 1) (fB gw (aa (fV 0) af)))) (aR (ak bo (fV 0) (fV 1))) aP)
  (aj (aI 2 (ak bJ (ak gh (fC (.int 48271)) (ak b6 (ak b6 (ak gh (fV 1) (fV 1)) (ak gh (fC (.int 7)) (fV 1))) (fC (.int 11)))) (fC (.int 2147483647))))
  (aj (jP (wq (GN (fV 0) sg (rR (fC (.int 3))))) (gN 3) gd)
  (jc 2)))) ρ
noncomputable def cZ:List PV->Option PR:=run 2 4 gR
theorem mJ {a0 a1:PV}:cZ [a0,a1]=(gR [some (.val a0),some (.val a1),none,none]).res:=Eq.trans rfl rfl
noncomputable def di (ρ:aq):Out:=(aj (aI 7 (GN (ao bT (aa (ao cZ (aa (fV 0) (aa (ak b6 (ak b6 (fV 1) (fC (.int 1))) (ak oj (fV 6) (fC (.int 5)))) af))) (aa (fC (.int 20)) af))) (rR (ak gh (fC (.int 4)) (ak bJ (fV 6) (fC (.int 5))))) sg))
  (aj (sr 8 9 (aa (ak bJ (ak bo (fV 7) (fC (.int 0))) (fV 2)) (aa (ak bJ (ak bo (fV 7) (fC (.int 1))) (fV 2)) af)))
  (aj (hZ (fT (ak j7 (ak bJ (ak bo (fV 4) (fC (.int 1))) (fC (.int 4))) (fC (.int 1)))) (sr 8 9 (aa (ak bJ (fV 6) (fV 2)) (aa (ak bJ (ak b6 (fV 6) (fC (.int 1))) (fV 2)) af))) aP)
  (aj (hZ (j5 (fT (ak j7 (ak bJ (ak bo (fV 4) (fC (.int 1))) (fC (.int 4))) (fC (.int 2)))) (fT (ak Lm (ak bJ (ak bo (fV 7) (fC (.int 2))) (fC (.int 3))) (fC (.int 0))))) (aj (aI 8 (ak bJ (ak gh (ak oj (fV 8) (fC (.int 2))) (fC (.int 2))) (fV 2)))
  (aI 9 (fB mw (aa (ak qm (fV 2) (fC (.int 1))) (aa (ak b6 (fV 8) (fC (.int 1))) af))))) aP)
  (aj (hZ (j5 (fT (ak mW (fV 5) (im af))) (fT (ak j7 (ak bJ (ak bo (fV 7) (fC (.int 2))) (fC (.int 7))) (fC (.int 1))))) (gn (ak bo (fV 5) (ak bJ (ak bo (fV 7) (fC (.int 3))) (fB gw (aa (fV 5) af)))) (ff 2 (gC (gN 8) (gC (gN 9) g0)))) aP)
  (u7 lZ 5 (aa (ak bo (im (aa (bV (aa (fV 8) (aa (fV 9) af))) (aa (bV (aa (fV 9) (aa (fV 8) af))) af))) (ak bJ (ak oj (ak bo (fV 7) (fC (.int 2))) (fC (.int 7))) (fC (.int 2)))) af))))))) ρ
noncomputable def iQ (ρ:aq):Out:=(aj (aI 4 (ao bT (aa (ao cZ (aa (fV 0) (aa (fV 1) af))) (aa (fC (.int 4)) af))))
  (aj (ic 5 (im af))
  (aj (jP (k5 nK (aa (ak bJ (ak bo (fV 4) (fC (.int 0))) (ak b6 (fV 3) (fC (.int 1)))) af)) (gN 6) di)
  (aR (fB lG (aa (fV 5) af)))))) ρ
noncomputable def fW:List PV->Option PR:=run 4 10 iQ
theorem q9 {a0 a1 a2 a3:PV}:fW [a0,a1,a2,a3]=(iQ [some (.val a0),some (.val a1),some (.val a2),some (.val a3),none,none,none,none,none,none]).res:=Eq.trans rfl rfl
noncomputable def gI (ρ:aq):Out:=(aR (ak bo (im (aa (ak b6 (fC (.int 1)) (ak bJ (ak oj (fV 0) (fC (.int 8))) (fC (.int 12)))) (aa (ak b6 (fC (.int 1)) (ak bJ (ak oj (fV 0) (fC (.int 8))) (fC (.int 40)))) af))) (fB vM (aa (ak j7 (ak bJ (fV 0) (fC (.int 8))) (fC (.int 3))) af)))) ρ
noncomputable def jl:List PV->Option PR:=run 1 1 gI
theorem md {a0:PV}:jl [a0]=(gI [some (.val a0)]).res:=Eq.trans rfl rfl
noncomputable def dX (ρ:aq):Option Bool:=(fT (ak mW (ak bo (fV 0) (fV 2)) (fV 2))) ρ
noncomputable def gf (ρ:aq):Out:=(aj (aI 2 (ak bo (fV 0) (fV 2)))
  (pH (λa b=>a+b) 3 (fC (.int 1)))) ρ
noncomputable def jo (ρ:aq):Out:=(aj (aI 2 (fV 1))
  (aj (aI 3 (fC (.int 0)))
  (aj (eT dX gf)
  (aR (bV (aa (fV 2) (aa (fV 3) af))))))) ρ
noncomputable def eC:List PV->Option PR:=run 2 4 jo
theorem rY {a0 a1:PV}:eC [a0,a1]=(jo [some (.val a0),some (.val a1),none,none]).res:=Eq.trans rfl rfl
noncomputable def dh (ρ:aq):Option Bool:=(fT (ak mW (ak bo (fV 0) (fV 2)) (fV 2))) ρ
noncomputable def fG (ρ:aq):Out:=(aj (aI 2 (ak bo (fV 0) (fV 2)))
  (pH (λa b=>a+b) 3 (fC (.int 1)))) ρ
noncomputable def iD (ρ:aq):Out:=(aj (aI 2 (fV 1))
  (aj (aI 3 (fC (.int 0)))
  (aj (eT dh fG)
  (aR (bV (aa (fV 2) (aa (fV 3) af))))))) ρ
noncomputable def iy:nu:=rL 2 4 iD
noncomputable def pE (ρ:aq):Option Bool:=(fT (ak mW (fV 4) (fV 2))) ρ
noncomputable def pF (ρ:aq):Out:=(aj (aI 5 (ak bo (fV 0) (fV 4)))
  (aj (mU 0 (fV 4) (fV 2))
  (aI 4 (fV 5)))) ρ
noncomputable def qJ (ρ:aq):Out:=(aj (gn (ao eC (aa (fV 0) (aa (fV 1) af))) (ff 2 (gC (gN 2) (gC (gN 3) g0))))
  (aj (aI 4 (fV 1))
  (aj (eT pE pF)
  (aR (bV (aa (fV 2) (aa (fV 3) af))))))) ρ
noncomputable def ua:List PV->Option PR:=run 2 6 qJ
noncomputable def cU (ρ:aq):Option Bool:=(fT (ak mW (fV 4) (fV 2))) ρ
noncomputable def eJ (ρ:aq):Out:=(aj (aI 5 (ak bo (fV 0) (fV 4)))
  (aj (mU 0 (fV 4) (fV 2))
  (aI 4 (fV 5)))) ρ
noncomputable def ij (ρ:aq):Out:=(aj (gn (ao eC (aa (fV 0) (aa (fV 1) af))) (ff 2 (gC (gN 2) (gC (gN 3) g0))))
  (aj (aI 4 (fV 1))
  (aj (eT cU eJ)
  (aR (bV (aa (fV 2) (aa (fV 3) af))))))) ρ
noncomputable def gW:nu:=rL 2 6 ij
noncomputable def om (ρ:aq):Option Bool:=(fT (ak mW (ak bo (fV 0) (fV 2)) (fV 2))) ρ
noncomputable def oK (ρ:aq):Out:=(aj (mU 0 (fV 2) (ak bo (fV 0) (ak bo (fV 0) (fV 2))))
  (aj (aI 2 (ak bo (fV 0) (fV 2)))
  (pH (λa b=>a+b) 3 (fC (.int 1))))) ρ
noncomputable def pj (ρ:aq):Out:=(aj (aI 2 (fV 1))
  (aj (aI 3 (fC (.int 0)))
  (aj (eT om oK)
  (aR (bV (aa (fV 2) (aa (fV 3) af))))))) ρ
noncomputable def sf:List PV->Option PR:=run 2 4 pj
noncomputable def cJ (ρ:aq):Option Bool:=(fT (ak mW (ak bo (fV 0) (fV 2)) (fV 2))) ρ
noncomputable def dP (ρ:aq):Out:=(aj (mU 0 (fV 2) (ak bo (fV 0) (ak bo (fV 0) (fV 2))))
  (aj (aI 2 (ak bo (fV 0) (fV 2)))
  (pH (λa b=>a+b) 3 (fC (.int 1))))) ρ
noncomputable def gD (ρ:aq):Out:=(aj (aI 2 (fV 1))
  (aj (aI 3 (fC (.int 0)))
  (aj (eT cJ dP)
  (aR (bV (aa (fV 2) (aa (fV 3) af))))))) ρ
noncomputable def fP:nu:=rL 2 4 gD
noncomputable def oz (ρ:aq):Option Bool:=(fT (ak mW (ak bo (fV 0) (fV 2)) (fV 2))) ρ
noncomputable def oO (ρ:aq):Out:=(aj (aI 4 (ak bo (fV 0) (fV 2)))
  (aj (mU 0 (fV 2) (ak bo (fV 0) (fV 4)))
  (aj (aI 2 (fV 4))
  (pH (λa b=>a+b) 3 (fC (.int 1)))))) ρ
noncomputable def po (ρ:aq):Out:=(aj (aI 2 (fV 1))
  (aj (aI 3 (fC (.int 0)))
  (aj (eT oz oO)
  (aR (bV (aa (fV 2) (aa (fV 3) af))))))) ρ
noncomputable def r9:List PV->Option PR:=run 2 5 po
noncomputable def cF (ρ:aq):Option Bool:=(fT (ak mW (ak bo (fV 0) (fV 2)) (fV 2))) ρ
noncomputable def dR (ρ:aq):Out:=(aj (aI 4 (ak bo (fV 0) (fV 2)))
  (aj (mU 0 (fV 2) (ak bo (fV 0) (fV 4)))
  (aj (aI 2 (fV 4))
  (pH (λa b=>a+b) 3 (fC (.int 1)))))) ρ
noncomputable def gu (ρ:aq):Out:=(aj (aI 2 (fV 1))
  (aj (aI 3 (fC (.int 0)))
  (aj (eT cF dR)
  (aR (bV (aa (fV 2) (aa (fV 3) af))))))) ρ
noncomputable def fY:nu:=rL 2 5 gu
noncomputable def ur (ρ:aq):Out:=(aj (gn (ao eC (aa (fV 0) (aa (fV 1) af))) (ff 2 (gC (gN 2) (gC (gN 3) g0))))
  (aj (mU 0 (fV 1) (ak bo (fV 0) (ak bo (fV 0) (fV 1))))
  (aR (bV (aa (fV 2) (aa (fV 3) af)))))) ρ
noncomputable def xP:List PV->Option PR:=run 2 4 ur
noncomputable def ju (ρ:aq):Out:=(aj (gn (ao eC (aa (fV 0) (aa (fV 1) af))) (ff 2 (gC (gN 2) (gC (gN 3) g0))))
  (aj (mU 0 (fV 1) (ak bo (fV 0) (ak bo (fV 0) (fV 1))))
  (aR (bV (aa (fV 2) (aa (fV 3) af)))))) ρ
noncomputable def i5:nu:=rL 2 4 ju
noncomputable def ld (ρ:aq):Out:=(aj (ic 3 (fB iS (aa (fV 0) af)))
  (aj (aI 4 (ak bo (fC (.dct [.inr "none",.inr "whole",.inr "halves",.inr "splits",.inr "one"] [.fn "find_none",.fn "find_whole",.fn "find_halves",.fn "find_splits",.fn "find_one"])) (fV 1)))
  (aj (qi [("find_none",iy),("find_whole",gW),("find_halves",fP),("find_splits",fY),("find_one",i5)] 4 3 (aa (fV 2) af) (ff 2 (gC (gN 5) (gC (gN 6) g0))))
  (aR (bV (aa (fV 5) (aa (fB lG (aa (fV 3) af)) (aa (fV 6) af)))))))) ρ
noncomputable def jT:List PV->Option PR:=run 3 7 ld
theorem wM {a0 a1 a2:PV}:jT [a0,a1,a2]=(ld [some (.val a0),some (.val a1),some (.val a2),none,none,none,none]).res:=Eq.trans rfl rfl
noncomputable def mQ (ρ:aq):Out:=(aR (fB lG (aa (fB iS (aa (fV 0) af)) af))) ρ
noncomputable def nz:List PV->Option PR:=run 1 1 mQ
theorem xg {a0:PV}:nz [a0]=(mQ [some (.val a0)]).res:=Eq.trans rfl rfl
noncomputable def jv (ρ:aq):Out:=(aj (gn (fV 0) (ff 4 (gC (gN 2) (gC (gN 3) (gC (gN 4) (gC (gN 5) g0))))))
  (aj (gn (ao jT (aa (fV 4) (aa (fV 3) (aa (fV 1) af)))) (ff 3 (gC (gN 6) (gC (gN 7) (gC (gN 8) g0)))))
  (aR (bV (aa (bV (aa (fV 2) (aa (fV 3) (aa (fV 7) (aa (ao nz (aa (fV 5) af)) af))))) (aa (fV 6) (aa (fV 8) af))))))) ρ
noncomputable def gY:List PV->Option PR:=run 2 9 jv
theorem su {a0 a1:PV}:gY [a0,a1]=(jv [some (.val a0),some (.val a1),none,none,none,none,none,none,none]).res:=Eq.trans rfl rfl
noncomputable def cy (ρ:aq):Out:=(aj (hZ (fT (ak j7 (fV 0) (fC (.str "told")))) (aR (fC (.bl true))) aP)
  (aj (hZ (fT (ak j7 (fV 0) (fC (.str "names")))) (aR (ak Ip (fV 2) (fV 3))) aP)
  (aR (ak LA (ak bo (fV 1) (fV 2)) (ak bo (fV 1) (fV 3)))))) ρ
noncomputable def gL:List PV->Option PR:=run 4 4 cy
theorem fj {a0 a1 a2 a3:PV}:gL [a0,a1,a2,a3]=(cy [some (.val a0),some (.val a1),some (.val a2),some (.val a3)]).res:=Eq.trans rfl rfl
noncomputable def bY (ρ:aq):Out:=(aj (hZ (fT (ak j7 (fV 0) (fC (.str "size")))) (aR (ak b6 (fV 1) (fV 2))) aP)
  (aj (hZ (j5 (fT (ak j7 (fV 0) (fC (.str "rank")))) (fT (ak j7 (fV 1) (fV 2)))) (aR (ak b6 (fV 1) (fC (.int 1)))) aP)
  (jc 1))) ρ
noncomputable def gG:List PV->Option PR:=run 3 3 bY
theorem dn {a0 a1 a2:PV}:gG [a0,a1,a2]=(bY [some (.val a0),some (.val a1),some (.val a2)]).res:=Eq.trans rfl rfl
noncomputable def ce (ρ:aq):Out:=(aj (gn (fV 0) (ff 4 (gC (gN 3) (gC (gN 4) (gC (gN 5) (gC (gN 6) g0))))))
  (aj (aI 7 (ao gL (aa (fV 3) (aa (fV 6) (aa (fV 1) (aa (fV 2) af))))))
  (aj (gn (N6 (fT (fV 7)) (bV (aa (fV 1) (aa (fV 2) af))) (bV (aa (fV 2) (aa (fV 1) af)))) (ff 2 (gC (gN 8) (gC (gN 9) g0))))
  (aj (ic 10 (fB iS (aa (fV 5) af)))
  (aj (mU 10 (fV 9) (fV 8))
  (aj (ic 11 (fB iS (aa (fV 6) af)))
  (aj (mU 11 (fV 8) (ao gG (aa (fV 3) (aa (ak bo (fV 6) (fV 8)) (aa (ak bo (fV 6) (fV 9)) af)))))
  (aR (bV (aa (fV 3) (aa (fV 4) (aa (fB lG (aa (fV 10) af)) (aa (fB lG (aa (fV 11) af)) af))))))))))))) ρ
noncomputable def cP:List PV->Option PR:=run 3 12 ce
theorem gq {a0 a1 a2:PV}:cP [a0,a1,a2]=(ce [some (.val a0),some (.val a1),some (.val a2),none,none,none,none,none,none,none,none,none]).res:=Eq.trans rfl rfl
noncomputable def gO (ρ:aq):Out:=(aj (gn (ao gY (aa (fV 0) (aa (fV 1) af))) (ff 3 (gC (gN 3) (gC (gN 4) (gC (gN 5) g0)))))
  (aj (gn (ao gY (aa (fV 3) (aa (fV 2) af))) (ff 3 (gC (gN 6) (gC (gN 7) (gC (gN 8) g0)))))
  (aj (aI 9 (ak b6 (fV 5) (fV 8)))
  (aj (hZ (fT (ak j7 (fV 4) (fV 7))) (aR (bV (aa (fV 6) (aa (fC (.bl false)) (aa (fV 9) af))))) aP)
  (aR (bV (aa (ao cP (aa (fV 6) (aa (fV 4) (aa (fV 7) af)))) (aa (fC (.bl true)) (aa (fV 9) af))))))))) ρ
noncomputable def hK:List PV->Option PR:=run 3 10 gO
theorem mG {a0 a1 a2:PV}:hK [a0,a1,a2]=(gO [some (.val a0),some (.val a1),some (.val a2),none,none,none,none,none,none,none]).res:=Eq.trans rfl rfl
noncomputable def uX (ρ:aq):Option RV:=(ao bN (aa (fV 1) (aa (fV 0) af))) ρ
noncomputable def wZ (ρ:aq):Out:=(aj (hZ (oy (e8 (fT (fB uP (aa (fV 1) (aa (fC (.ty "tuple")) af))))) (fT (ak j7 (fB gw (aa (fV 1) af)) (fC (.int 0))))) (aR (fC (.bl false))) aP)
  (aj (aI 2 (ak bo (fV 1) (fC (.int 0))))
  (aj (hZ (oy (e8 (fT (fB uP (aa (fV 2) (aa (fC (.ty "str")) af))))) (fT (ak mW (qH k6 (fC (.dct [.inr "find",.inr "join"] [.int 2,.int 3])) (aa (fV 2) af)) (fB gw (aa (fV 1) af))))) (aR (fC (.bl false))) aP)
  (aR (fB Bs (aa (dL [none,some 0] (wq (GN (fV 1) (rR (fC (.int 1))) sg)) (gN 0) n5 uX) af)))))) ρ
noncomputable def fK:List PV->Option PR:=run 2 3 wZ
noncomputable def lB (ρ:aq):Out:=(aj (hZ (oy (e8 (fT (fB uP (aa (fV 1) (aa (fC (.ty "tuple")) af))))) (fT (ak mW (fB gw (aa (fV 1) af)) (fC (.int 2))))) (aR (fC (.bl false))) aP)
  (aR (iY (ao bN (aa (fV 0) (aa (ak bo (fV 1) (fC (.int 0))) af))) (rH (ao bN (aa (fV 0) (aa (ak bo (fV 1) (fC (.int 1))) af))))))) ρ
noncomputable def cx:List PV->Option PR:=run 2 2 lB
theorem vv {a0 a1:PV}:cx [a0,a1]=(lB [some (.val a0),some (.val a1)]).res:=Eq.trans rfl rfl
noncomputable def p4 (ρ:aq):Out:=(aj (hZ (oy (e8 (fT (fB uP (aa (fV 1) (aa (fC (.ty "tuple")) af))))) (fT (ak mW (fB gw (aa (fV 1) af)) (fC (.int 3))))) (aR (fC (.bl false))) aP)
  (aR (iY (ao cx (aa (fV 0) (aa (GN (fV 1) sg (rR (fC (.int 2)))) af))) (rH (ao gx (aa (ak bo (fV 1) (fC (.int 2))) af)))))) ρ
noncomputable def b5:List PV->Option PR:=run 2 2 p4
noncomputable def xw (ρ:aq):Out:=(aR (iY (ao b5 (aa (fV 0) (aa (fV 1) af))) (rH (ak LA (ak bo (fV 1) (fC (.int 2))) (fC (.int 0)))))) ρ
noncomputable def hX:List PV->Option PR:=run 2 2 xw
noncomputable def iM (ρ:aq):Out:=(hZ (e8 (fT (qt [("is_deed",fK),("is_pair",cx),("is_telling",b5),("is_thing",bN),("is_tie",hX)] 2 (aa (fV 0) (aa (fV 4) af))))) b7 aP) ρ
noncomputable def jq (ρ:aq):Out:=(aj (hZ (e8 (fT (fB uP (aa (fV 1) (aa (fC (.ty "tuple")) af))))) b7 aP)
  (jP (mv (aa (fV 1) af)) (ff 2 (gC (gN 3) (gC (gN 4) g0))) iM)) ρ
noncomputable def jk:List PV->Option PR:=run 3 5 jq
theorem rM {a0 a1 a2:PV}:jk [a0,a1,a2]=(jq [some (.val a0),some (.val a1),some (.val a2),none,none]).res:=Eq.trans rfl rfl
noncomputable def fR (ρ:aq):Out:=(hZ (e8 (fT (ao j3 (aa (fV 0) af)))) b7 aP) ρ
noncomputable def iw:List PV->Option PR:=run 1 1 fR
theorem lC {a0:PV}:iw [a0]=(fR [some (.val a0)]).res:=Eq.trans rfl rfl
noncomputable def dH (ρ:aq):Out:=(aR (iY (fB uP (aa (fV 0) (aa (fC (.ty "str")) af))) (rH (ak wz (fV 0) (fC (.ktu [.str "size",.str "rank",.str "told",.str "names"])))))) ρ
noncomputable def cQ:List PV->Option PR:=run 1 1 dH
theorem kP {a0:PV}:cQ [a0]=(dH [some (.val a0)]).res:=Eq.trans rfl rfl
noncomputable def iH (ρ:aq):Out:=(hZ (e8 (fT (ao cQ (aa (fV 0) af)))) b7 aP) ρ
noncomputable def kf:List PV->Option PR:=run 1 1 iH
theorem pX {a0:PV}:kf [a0]=(iH [some (.val a0)]).res:=Eq.trans rfl rfl
noncomputable def kC (ρ:aq):Out:=(aR (iY (fB uP (aa (fV 0) (aa (fC (.ty "str")) af))) (rH (ak wz (fV 0) (fC (.dct [.inr "none",.inr "whole",.inr "halves",.inr "splits",.inr "one"] [.fn "find_none",.fn "find_whole",.fn "find_halves",.fn "find_splits",.fn "find_one"])))))) ρ
noncomputable def ka:List PV->Option PR:=run 1 1 kC
theorem uG {a0:PV}:ka [a0]=(kC [some (.val a0)]).res:=Eq.trans rfl rfl
noncomputable def ia (ρ:aq):Out:=(hZ (e8 (fT (ao ka (aa (fV 0) af)))) b7 aP) ρ
noncomputable def gU:List PV->Option PR:=run 1 1 ia
theorem pG {a0:PV}:gU [a0]=(ia [some (.val a0)]).res:=Eq.trans rfl rfl
noncomputable def jx (ρ:aq):Out:=(aj (eQ (ao iw (aa (fV 0) af)))
  (aj (eQ (ao kf (aa (fV 1) af)))
  (aj (eQ (ao gU (aa (fV 2) af)))
  (aj (aI 3 (N6 (fT (ak j7 (fV 1) (fC (.str "size")))) (fC (.int 1)) (fC (.int 0))))
  (aR (bV (aa (fV 1) (aa (fV 2) (aa (fB sE (aa (fB uH (aa (fV 0) af)) af)) (aa (ak gh (bV (aa (fV 3) af)) (fV 0)) af)))))))))) ρ
noncomputable def jf:List PV->Option PR:=run 3 4 jx
theorem r8 {a0 a1 a2:PV}:jf [a0,a1,a2]=(jx [some (.val a0),some (.val a1),some (.val a2),none]).res:=Eq.trans rfl rfl
noncomputable def jy (ρ:aq):Option Bool:=(fT (ak j7 (ak bo (ao kY (aa (fV 1) (aa (fV 0) af))) (qb (fC (.int 1)))) (fV 2))) ρ
noncomputable def jt (ρ:aq):Option RV:=(fV 0) ρ
noncomputable def kB (ρ:aq):Out:=(aj (aI 2 (ak bo (ao kY (aa (fV 0) (aa (fV 1) af))) (qb (fC (.int 1)))))
  (aR (fB lG (aa (dL [none,some 0,some 2] (k5 nK (aa (fB gw (aa (fV 0) af)) af)) (gN 0) jy jt) af)))) ρ
noncomputable def iF:List PV->Option PR:=run 2 3 kB
theorem uO {a0 a1:PV}:iF [a0,a1]=(kB [some (.val a0),some (.val a1),none]).res:=Eq.trans rfl rfl
noncomputable def ib (ρ:aq):Out:=(hZ (e8 (fT (ao bN (aa (fV 0) (aa (fV 1) af))))) b7 aP) ρ
noncomputable def cN:List PV->Option PR:=run 2 2 ib
theorem pp {a0 a1:PV}:cN [a0,a1]=(ib [some (.val a0),some (.val a1)]).res:=Eq.trans rfl rfl
noncomputable def ik (ρ:aq):Out:=(eQ (ao jk (aa (fV 0) (aa (fV 1) (aa (fC (.fn "is_pair")) af))))) ρ
noncomputable def gT:List PV->Option PR:=run 2 2 ik
theorem pD {a0 a1:PV}:gT [a0,a1]=(ik [some (.val a0),some (.val a1)]).res:=Eq.trans rfl rfl
noncomputable def de (ρ:aq):Out:=(aj (eQ (ao iw (aa (fV 0) af)))
  (eQ (ao gT (aa (fV 0) (aa (fV 1) af))))) ρ
noncomputable def bu:List PV->Option PR:=run 2 2 de
theorem kF {a0 a1:PV}:bu [a0,a1]=(de [some (.val a0),some (.val a1)]).res:=Eq.trans rfl rfl
noncomputable def cf (ρ:aq):Out:=(hZ (fT (ak mW (ak bo (ak bo (fV 7) (fC (.int 2))) (fV 10)) (ak bo (ak bo (fV 2) (fC (.int 2))) (fV 10)))) (mU 3 (fV 10) (fV 4)) aP) ρ
noncomputable def dG (ρ:aq):Out:=(aj (gn (ao hK (aa (fV 2) (aa (fV 5) (aa (fV 6) af)))) (ff 3 (gC (gN 7) (gC (gN 8) (gC (gN 9) g0)))))
  (aj (jP (k5 nK (aa (fV 0) af)) (gN 10) cf)
  (aI 2 (fV 7)))) ρ
noncomputable def eG (ρ:aq):Out:=(aj (aI 2 (ao jf (aa (fV 0) (aa (fC (.str "size")) (aa (fC (.str "none")) af)))))
  (aj (ic 3 (ak gh (im (aa (fC .non) af)) (fV 0)))
  (aj (jP (mv (aa (fV 1) af)) (ff 2 (gC (gN 4) (gC (ff 2 (gC (gN 5) (gC (gN 6) g0))) g0))) dG)
  (aR (bV (aa (ak bo (fV 2) (fC (.int 2))) (aa (fB lG (aa (fV 3) af)) af))))))) ρ
noncomputable def b9:List PV->Option PR:=run 2 11 eG
theorem lL {a0 a1:PV}:b9 [a0,a1]=(eG [some (.val a0),some (.val a1),none,none,none,none,none,none,none,none,none]).res:=Eq.trans rfl rfl
noncomputable def jw (ρ:aq):Out:=(aR (ak bo (ao b9 (aa (fV 0) (aa (nc (fV 1) sg (rR (fV 2))) af))) (fC (.int 0)))) ρ
noncomputable def je:List PV->Option PR:=run 3 3 jw
theorem rO {a0 a1 a2:PV}:je [a0,a1,a2]=(jw [some (.val a0),some (.val a1),some (.val a2)]).res:=Eq.trans rfl rfl
noncomputable def eE (ρ:aq):Option RV:=(ak bo (im (aa (fV 0) (aa (ak bo (fV 1) (fV 2)) af))) (fB vM (aa (ak j7 (fV 0) (ak bo (fV 1) (fV 3))) af))) ρ
noncomputable def cW (ρ:aq):Out:=(hZ (fT (ak mW (ak bo (fV 2) (fV 5)) (ak bo (fV 2) (fV 6)))) (aj (u7 lZ 3 (aa (fV 4) af))
  (aI 2 (dL [none,some 2,some 5,some 6] (wq (fV 2)) (gN 0) n5 eE))) aP) ρ
noncomputable def jm (ρ:aq):Out:=(aj (aI 2 (fB iS (aa (fB uH (aa (fV 0) af)) af)))
  (aj (ic 3 (im af))
  (aj (jP (mv (aa (fV 1) af)) (ff 2 (gC (gN 4) (gC (ff 2 (gC (gN 5) (gC (gN 6) g0))) g0))) cW)
  (jc 3)))) ρ
noncomputable def i4:List PV->Option PR:=run 2 7 jm
theorem so {a0 a1:PV}:i4 [a0,a1]=(jm [some (.val a0),some (.val a1),none,none,none,none,none]).res:=Eq.trans rfl rfl
noncomputable def dE (ρ:aq):Out:=(hZ (j5 (fT (ak j7 (fV 5) (fV 4))) (fT (ak oo (fV 6) (fV 2)))) (aj (vz 2 (fV 6) (ak b6 (ak bo (fV 2) (fV 4)) (bV (aa (fV 7) af))))
  (u7 lZ 3 (aa (fV 6) af))) aP) ρ
noncomputable def cK (ρ:aq):Option Bool:=(OC (fV 3)) ρ
noncomputable def cL (ρ:aq):Out:=(aj (AS rV 4 3 (aa (fC (.int 0)) af))
  (jP (wq (fV 0)) (ff 3 (gC (gN 5) (gC (gN 6) (gC (gN 7) g0)))) dE)) ρ
noncomputable def ki (ρ:aq):Out:=(aj (vf 2 (vH (fV 1) (bV af)))
  (aj (ic 3 (im (aa (fV 1) af)))
  (aj (eT cK cL)
  (FM 2 (jc 2))))) ρ
noncomputable def cM:List PV->Option PR:=run 2 8 ki
theorem uk {a0 a1:PV}:cM [a0,a1]=(ki [some (.val a0),some (.val a1),none,none,none,none,none,none]).res:=Eq.trans rfl rfl
noncomputable def bv (ρ:aq):Option RV:=(fV 0) ρ
noncomputable def cR (ρ:aq):Out:=(aj (aI 3 (qH k6 (ao cM (aa (fV 0) (aa (fV 1) af))) (aa (fV 2) af)))
  (aj (hZ (fT (ak LC (fV 3) (fC .non))) (aR (fC .non)) aP)
  (aR (fB lG (aa (dL [none,none] (wq (fV 3)) (ff 2 (gC (gN 0) (gC (gN 1) g0))) n5 bv) af))))) ρ
noncomputable def bX:List PV->Option PR:=run 3 4 cR
theorem iq {a0 a1 a2:PV}:bX [a0,a1,a2]=(cR [some (.val a0),some (.val a1),some (.val a2),none]).res:=Eq.trans rfl rfl
noncomputable def bR (ρ:aq):Out:=(aj (gn (nc (ak bo (fV 0) (fV 3)) sg (rR (fC (.int 2)))) (ff 2 (gC (gN 4) (gC (gN 5) g0))))
  (wN 2 (im (aa (bV (aa (fV 4) (aa (fV 5) (aa (bV (aa (fV 3) (aa (fC (.int 1)) af))) af)))) (aa (bV (aa (fV 5) (aa (fV 4) (aa (bV (aa (fV 3) (aa (qb (fC (.int 1))) af))) af)))) af))))) ρ
noncomputable def fx (ρ:aq):Out:=(aj (ic 2 (im af))
  (aj (jP (wq (fV 1)) (gN 3) bR)
  (jc 2))) ρ
noncomputable def dz:List PV->Option PR:=run 2 6 fx
theorem kJ {a0 a1:PV}:dz [a0,a1]=(fx [some (.val a0),some (.val a1),none,none,none,none]).res:=Eq.trans rfl rfl
noncomputable def dN (ρ:aq):Option Bool:=(fT (ak wz (fV 0) (fV 1))) ρ
noncomputable def dQ (ρ:aq):Option RV:=(fV 0) ρ
noncomputable def gB (ρ:aq):Out:=(aj (aI 2 (ak bo (ao b9 (aa (fV 0) (aa (fV 1) af))) (fC (.int 1))))
  (aR (dL [none,some 2] (k5 nK (aa (fB gw (aa (fV 1) af)) af)) (gN 0) dN dQ))) ρ
noncomputable def fQ:List PV->Option PR:=run 2 3 gB
theorem oQ {a0 a1:PV}:fQ [a0,a1]=(gB [some (.val a0),some (.val a1),none]).res:=Eq.trans rfl rfl
noncomputable def iR (ρ:aq):Out:=(aR (ao dz (aa (fV 1) (aa (ao fQ (aa (fV 0) (aa (fV 1) af))) af)))) ρ
noncomputable def gc:List PV->Option PR:=run 2 2 iR
theorem qS {a0 a1:PV}:gc [a0,a1]=(iR [some (.val a0),some (.val a1)]).res:=Eq.trans rfl rfl
noncomputable def gP (ρ:aq):Out:=(aR (ak b6 (yD (aa (fV 0) af) (qb (fC (.int 1)))) (fC (.int 1)))) ρ
noncomputable def hW:List PV->Option PR:=run 1 1 gP
theorem mF {a0:PV}:hW [a0]=(gP [some (.val a0)]).res:=Eq.trans rfl rfl
noncomputable def eL (ρ:aq):Out:=(aj (eQ (ao bu (aa (fV 0) (aa (fV 1) af))))
  (aj (eQ (ao cN (aa (fV 0) (aa (fV 2) af))))
  (aj (eQ (ao cN (aa (fV 0) (aa (fV 3) af))))
  (aj (aI 4 (ao bX (aa (ao gc (aa (fV 0) (aa (fV 1) af))) (aa (fV 2) (aa (fV 3) af)))))
  (aj (hZ (fT (ak LC (fV 4) (fC .non))) (aR (bV (aa (fC (.str "apart")) (aa (ao iF (aa (ao je (aa (fV 0) (aa (fV 1) (aa (fB gw (aa (fV 1) af)) af)))) (aa (fV 2) af))) af)))) aP)
  (aR (bV (aa (fC (.str "one")) (aa (ao hW (aa (fV 4) af)) (aa (fV 4) af)))))))))) ρ
noncomputable def cX:List PV->Option PR:=run 4 5 eL
theorem jV {a0 a1 a2 a3:PV}:cX [a0,a1,a2,a3]=(eL [some (.val a0),some (.val a1),some (.val a2),some (.val a3),none]).res:=Eq.trans rfl rfl
noncomputable def fH (ρ:aq):Out:=(aR (iY (ao cx (aa (fV 0) (aa (fV 1) af))) (rH (ak mW (ak bo (fV 1) (fC (.int 0))) (ak bo (fV 1) (fC (.int 1))))))) ρ
noncomputable def eN:List PV->Option PR:=run 2 2 fH
theorem mX {a0 a1:PV}:eN [a0,a1]=(fH [some (.val a0),some (.val a1)]).res:=Eq.trans rfl rfl
noncomputable def eM (ρ:aq):Option RV:=(ao eN (aa (fV 1) (aa (fV 0) af))) ρ
noncomputable def io (ρ:aq):Out:=(hZ (oy (e8 (fT (fB uP (aa (fV 1) (aa (fC (.ty "tuple")) af))))) (e8 (fT (fB Bs (aa (dL [none,some 0] (wq (fV 1)) (gN 0) n5 eM) af))))) b7 aP) ρ
noncomputable def gE:List PV->Option PR:=run 2 2 io
theorem pB {a0 a1:PV}:gE [a0,a1]=(io [some (.val a0),some (.val a1)]).res:=Eq.trans rfl rfl
noncomputable def bS (ρ:aq):Out:=(aj (aI 8 (ao bX (aa (fV 3) (aa (fV 6) (aa (fV 7) af)))))
  (hZ (fT (ak mP (fV 8) (fC .non))) (u7 lZ 4 (aa (bV (aa (ao hW (aa (fV 8) af)) (aa (fV 5) (aa (fV 8) af)))) af)) aP)) ρ
noncomputable def fE (ρ:aq):Out:=(aj (eQ (ao bu (aa (fV 0) (aa (fV 1) af))))
  (aj (eQ (ao gE (aa (fV 0) (aa (fV 2) af))))
  (aj (aI 3 (ao gc (aa (fV 0) (aa (fV 1) af))))
  (aj (ic 4 (im af))
  (aj (jP (mv (aa (fV 2) af)) (ff 2 (gC (gN 5) (gC (ff 2 (gC (gN 6) (gC (gN 7) g0))) g0))) bS)
  (aj (hZ (fT (ak j7 (fB gw (aa (fV 4) af)) (fC (.int 0)))) (aR (bV (aa (fC (.str "none")) af))) aP)
  (aj (gn (fB sO (aa (fV 4) af)) (ff 3 (gC (gN 9) (gC (gN 5) (gC (gN 8) g0)))))
  (aR (bV (aa (fC (.str "clash")) (aa (fV 9) (aa (fV 5) (aa (fV 8) af))))))))))))) ρ
noncomputable def bK:List PV->Option PR:=run 3 10 fE
theorem kO {a0 a1 a2:PV}:bK [a0,a1,a2]=(fE [some (.val a0),some (.val a1),some (.val a2),none,none,none,none,none,none,none]).res:=Eq.trans rfl rfl
noncomputable def gz (ρ:aq):Out:=(aR (ao dz (aa (fV 0) (aa (fB iS (aa (fB uH (aa (fB gw (aa (fV 0) af)) af)) af)) af)))) ρ
noncomputable def d9:List PV->Option PR:=run 1 1 gz
theorem oP {a0:PV}:d9 [a0]=(gz [some (.val a0)]).res:=Eq.trans rfl rfl
noncomputable def fu (ρ:aq):Option Bool:=(fT (ak Ip (ak gh (ak bo (fV 4) (fV 2)) (fV 3)) (fC (.int 1)))) ρ
noncomputable def fA (ρ:aq):Option RV:=(bV (aa (fV 0) (aa (fV 1) (aa (bV (aa (fV 2) (aa (fV 3) af))) af)))) ρ
noncomputable def iK (ρ:aq):Out:=(aR (dL [none,none,none,none,some 1] (wq (ao d9 (aa (fV 0) af))) (ff 3 (gC (gN 0) (gC (gN 1) (gC (ff 2 (gC (gN 2) (gC (gN 3) g0))) g0)))) fu fA)) ρ
noncomputable def eO:List PV->Option PR:=run 2 2 iK
theorem pZ {a0 a1:PV}:eO [a0,a1]=(iK [some (.val a0),some (.val a1)]).res:=Eq.trans rfl rfl
noncomputable def gH (ρ:aq):Out:=(ku (λa b=>a+b) 3 (fV 5) (fV 6)) ρ
noncomputable def dr (ρ:aq):Option Bool:=(fT (ak mP (fV 4) (fC .non))) ρ
noncomputable def eY (ρ:aq):Out:=(aj (jP (wq (fV 4)) (ff 2 (gC (gN 5) (gC (gN 6) g0))) gH)
  (aI 4 (qH k6 (ao cM (aa (ao eO (aa (fV 0) (aa (fV 3) af))) (aa (fV 1) af))) (aa (fV 2) af)))) ρ
noncomputable def kA (ρ:aq):Out:=(aj (ic 3 (ak gh (im (aa (fC (.int 0)) af)) (fB gw (aa (fV 0) af))))
  (aj (aI 4 (qH k6 (ao cM (aa (ao eO (aa (fV 0) (aa (fV 3) af))) (aa (fV 1) af))) (aa (fV 2) af)))
  (aj (eT dr eY)
  (jc 3)))) ρ
noncomputable def ke:List PV->Option PR:=run 3 7 kA
theorem tW {a0 a1 a2:PV}:ke [a0,a1,a2]=(kA [some (.val a0),some (.val a1),some (.val a2),none,none,none,none]).res:=Eq.trans rfl rfl
noncomputable def df (ρ:aq):Option Bool:=(fT (ak mW (ak wz (fV 1) (fV 3)) (ak wz (fV 2) (fV 3)))) ρ
noncomputable def ft (ρ:aq):Option RV:=(fV 0) ρ
noncomputable def iP (ρ:aq):Out:=(aj (aI 3 (ao cM (aa (ao eO (aa (fV 0) (aa (fV 1) af))) (aa (fV 2) af))))
  (aR (fB lG (aa (dL [none,none,none,some 3] (mv (aa (fV 0) af)) (ff 2 (gC (gN 0) (gC (ff 2 (gC (gN 1) (gC (gN 2) g0))) g0))) df ft) af)))) ρ
noncomputable def iz:List PV->Option PR:=run 3 4 iP
theorem qQ {a0 a1 a2:PV}:iz [a0,a1,a2]=(iP [some (.val a0),some (.val a1),some (.val a2),none]).res:=Eq.trans rfl rfl
noncomputable def fF (ρ:aq):Option Bool:=(fT (ak j7 (ak gh (ak bo (fV 4) (fV 2)) (fV 3)) (fC (.int 1)))) ρ
noncomputable def fD (ρ:aq):Option RV:=(bV (aa (fV 0) (aa (fV 1) (aa (bV (aa (fV 2) (aa (fV 3) af))) af)))) ρ
noncomputable def iJ (ρ:aq):Out:=(aR (dL [none,none,none,none,some 1] (wq (ao d9 (aa (fV 0) af))) (ff 3 (gC (gN 0) (gC (gN 1) (gC (ff 2 (gC (gN 2) (gC (gN 3) g0))) g0)))) fF fD)) ρ
noncomputable def fO:List PV->Option PR:=run 2 2 iJ
theorem qB {a0 a1:PV}:fO [a0,a1]=(iJ [some (.val a0),some (.val a1)]).res:=Eq.trans rfl rfl
noncomputable def gJ (ρ:aq):Option RV:=(fV 0) ρ
noncomputable def gQ (ρ:aq):Out:=(ku (λa b=>a - b) 4 (fV 7) (fV 8)) ρ
noncomputable def dD (ρ:aq):Option Bool:=(fT (ak mP (fV 6) (fC .non))) ρ
noncomputable def e9 (ρ:aq):Out:=(aj (u7 lZ 5 (aa (fB lG (aa (dL [none,none] (wq (fV 6)) (ff 2 (gC (gN 0) (gC (gN 1) g0))) n5 gJ) af)) af))
  (aj (jP (wq (fV 6)) (ff 2 (gC (gN 7) (gC (gN 8) g0))) gQ)
  (aI 6 (qH k6 (ao cM (aa (ao fO (aa (fV 0) (aa (fV 4) af))) (aa (fV 2) af))) (aa (fV 3) af))))) ρ
noncomputable def kx (ρ:aq):Out:=(aj (ic 4 (fB iS (aa (fV 1) af)))
  (aj (ic 5 (im af))
  (aj (aI 6 (qH k6 (ao cM (aa (ao fO (aa (fV 0) (aa (fV 4) af))) (aa (fV 2) af))) (aa (fV 3) af)))
  (aj (eT dD e9)
  (aR (fB lG (aa (fV 5) af))))))) ρ
noncomputable def kr:List PV->Option PR:=run 4 9 kx
theorem uh {a0 a1 a2 a3:PV}:kr [a0,a1,a2,a3]=(kx [some (.val a0),some (.val a1),some (.val a2),some (.val a3),none,none,none,none,none]).res:=Eq.trans rfl rfl
noncomputable def fX (ρ:aq):Out:=(aj (eQ (ao bu (aa (fV 0) (aa (fV 1) af))))
  (aj (eQ (ao cN (aa (fV 0) (aa (fV 2) af))))
  (aj (eQ (ao cN (aa (fV 0) (aa (fV 3) af))))
  (aj (hZ (fT (ak j7 (fV 2) (fV 3))) b7 aP)
  (aj (aI 4 (ao ke (aa (fV 1) (aa (fV 2) (aa (fV 3) af)))))
  (aR (bV (aa (ao iz (aa (fV 1) (aa (fV 4) (aa (fV 2) af)))) (aa (ao kr (aa (fV 1) (aa (fV 4) (aa (fV 2) (aa (fV 3) af))))) af))))))))) ρ
noncomputable def fw:List PV->Option PR:=run 4 5 fX
theorem og {a0 a1 a2 a3:PV}:fw [a0,a1,a2,a3]=(fX [some (.val a0),some (.val a1),some (.val a2),some (.val a3),none]).res:=Eq.trans rfl rfl
noncomputable def kD (ρ:aq):Out:=(aj (gn (ao fw (aa (fV 0) (aa (fV 1) (aa (fV 2) (aa (fV 3) af))))) (ff 2 (gC (gN 4) (gC (gN 5) g0))))
  (aR (ak bo (im (aa (ak qm (fC (.int 0)) (fC (.int 1))) (aa (fB gw (aa (fV 4) af)) af))) (fB vM (aa (ak j7 (fB gw (aa (fV 4) af)) (fB gw (aa (fV 5) af))) af))))) ρ
noncomputable def bL:List PV->Option PR:=run 4 6 kD
theorem uT {a0 a1 a2 a3:PV}:bL [a0,a1,a2,a3]=(kD [some (.val a0),some (.val a1),some (.val a2),some (.val a3),none,none]).res:=Eq.trans rfl rfl
noncomputable def cA (ρ:aq):Option RV:=(ak bo (fV 1) (fV 0)) ρ
noncomputable def cB (ρ:aq):Option Bool:=(j5 (fT (ak mW (ak bo (fV 0) (fC (.int 0))) (ak bo (fV 0) (fC (.int 1))))) (fT (ak wz (fV 1) (fV 0)))) ρ
noncomputable def cI (ρ:aq):Option RV:=(fV 0) ρ
noncomputable def eU (ρ:aq):Out:=(aj (aI 5 (ao bL (aa (fV 0) (aa (fV 1) (aa (fV 2) (aa (fV 3) af))))))
  (aj (hZ (oy (fT (ak Ip (fV 5) (fC (.int 0)))) (fT (ak mW (ao bL (aa (fV 0) (aa (fV 1) (aa (fV 3) (aa (fV 2) af))))) (fV 5)))) (aR (fC (.bl false))) aP)
  (aj (hZ (fT (ak mW (ak j7 (fV 5) (fC (.int 0))) (ak j7 (ak bo (ao cX (aa (fV 0) (aa (fV 1) (aa (fV 2) (aa (fV 3) af))))) (fC (.int 0))) (fC (.str "apart"))))) (aR (fC (.bl false))) aP)
  (aj (aI 6 (bV (aa (ak bJ (ak bo (fV 4) (fC (.int 0))) (fV 0)) (aa (ak bJ (ak bo (fV 4) (fC (.int 1))) (fV 0)) af))))
  (aj (aI 7 (ak bJ (ak bo (fV 4) (fC (.int 2))) (ak b6 (fB gw (aa (fV 1) af)) (fC (.int 1)))))
  (aj (aI 8 (ao bL (aa (fV 0) (aa (ak b6 (ak b6 (nc (fV 1) sg (rR (fV 7))) (bV (aa (fV 6) af))) (nc (fV 1) (rR (fV 7)) sg)) (aa (fV 2) (aa (fV 3) af))))))
  (aj (aI 9 (ao bL (aa (fV 0) (aa (ak b6 (nc (fV 1) sg (rR (fV 7))) (nc (fV 1) (rR (ak b6 (fV 7) (fC (.int 1)))) sg)) (aa (fV 2) (aa (fV 3) af))))))
  (aj (hZ (oy (e8 (fT (EJ EN EN (fV 5) (fV 8) (ak b6 (fV 5) (fC (.int 1)))))) (e8 (fT (EJ EN EN (ak qm (fV 5) (fC (.int 1))) (fV 9) (fV 5))))) (aR (fC (.bl false))) aP)
  (aj (aI 10 (bV (aa (ak bo (fV 6) (fC (.int 0))) (aa (ak bo (fV 6) (fC (.int 0))) af))))
  (aj (hZ (fT (ak mW (ao bL (aa (fV 0) (aa (ak b6 (ak b6 (nc (fV 1) sg (rR (fV 7))) (bV (aa (fV 10) af))) (nc (fV 1) (rR (fV 7)) sg)) (aa (fV 2) (aa (fV 3) af))))) (fV 5))) (aR (fC (.bl false))) aP)
  (aj (hZ (fT (ak mW (ao bL (aa (fV 0) (aa (ak b6 (fV 1) (fV 1)) (aa (fV 2) (aa (fV 3) af))))) (ak gh (fC (.int 2)) (fV 5)))) (aR (fC (.bl false))) aP)
  (aj (aI 11 (fB lG (aa (dL [none,some 1] (wq (ao i4 (aa (fV 0) (aa (fV 1) af)))) (gN 0) n5 cA) af)))
  (aj (aI 12 (dL [none,some 2] (wq (fV 1)) (gN 0) cB cI))
  (aR (iY (ak j7 (ao bL (aa (fV 0) (aa (fV 11) (aa (fV 2) (aa (fV 3) af))))) (fB mw (aa (fC (.int 1)) (aa (fV 5) af)))) (rH (ak EN (fV 5) (fB gw (aa (fV 12) af))))))))))))))))))) ρ
noncomputable def dO:List PV->Option PR:=run 5 13 eU
theorem l7 {a0 a1 a2 a3 a4:PV}:dO [a0,a1,a2,a3,a4]=(eU [some (.val a0),some (.val a1),some (.val a2),some (.val a3),some (.val a4),none,none,none,none,none,none,none,none]).res:=Eq.trans rfl rfl
noncomputable def bU (ρ:aq):Out:=(aj (hZ (oy (fT (ak j7 (fV 4) (fV 2))) (fT (ak j7 (fV 4) (fV 3)))) (aR (fC (.bl true))) aP)
  (aj (aI 5 (fB mw (aa (ao bL (aa (fV 0) (aa (fV 1) (aa (fV 2) (aa (fV 4) af))))) (aa (ao bL (aa (fV 0) (aa (fV 1) (aa (fV 4) (aa (fV 3) af))))) af))))
  (aR (ak LA (ao bL (aa (fV 0) (aa (fV 1) (aa (fV 2) (aa (fV 3) af))))) (fV 5))))) ρ
noncomputable def c5:List PV->Option PR:=run 5 6 bU
theorem dZ {a0 a1 a2 a3 a4:PV}:c5 [a0,a1,a2,a3,a4]=(bU [some (.val a0),some (.val a1),some (.val a2),some (.val a3),some (.val a4),none]).res:=Eq.trans rfl rfl
noncomputable def aM (ρ:aq):Out:=(aj (aI 5 (ao bK (aa (fV 0) (aa (fV 1) (aa (nc (fV 2) sg (rR (fV 4))) af)))))
  (hZ (j5 (fT (ak j7 (ak bo (fV 5) (fC (.int 0))) (fC (.str "clash")))) (oy (fT (ak j7 (ak bo (fV 3) (fC (.int 0))) (fC (.str "none")))) (fT (ak Lm (ak bo (fV 3) (fC (.int 1))) (ak bo (fV 5) (fC (.int 1))))))) (aR (fC (.bl false))) aP)) ρ
noncomputable def cG (ρ:aq):Out:=(aj (aI 3 (ao bK (aa (fV 0) (aa (fV 1) (aa (fV 2) af)))))
  (aj (jP (k5 nK (aa (fB gw (aa (fV 2) af)) af)) (gN 4) aM)
  (aj (aI 6 (ao bK (aa (fV 0) (aa (fV 1) (aa (Ce (fV 2)) af)))))
  (aj (hZ (fT (ak mW (ak bo (fV 6) (fC (.int 0))) (ak bo (fV 3) (fC (.int 0))))) (aR (fC (.bl false))) aP)
  (aj (hZ (fT (ak j7 (ak bo (fV 3) (fC (.int 0))) (fC (.str "none")))) (aR (fC (.bl true))) aP)
  (aj (hZ (fT (ak mW (ao bK (aa (fV 0) (aa (nc (fV 1) sg (rR (ak qm (ak bo (fV 3) (fC (.int 1))) (fC (.int 1))))) (aa (fV 2) af)))) (bV (aa (fC (.str "none")) af)))) (aR (fC (.bl false))) aP)
  (aR (iY (ak j7 (ak bo (fV 6) (fC (.int 1))) (ak bo (fV 3) (fC (.int 1)))) (rH (ak j7 (ao bK (aa (fV 0) (aa (nc (fV 1) sg (rR (ak bo (fV 3) (fC (.int 1))))) (aa (fV 2) af)))) (fV 3))))))))))) ρ
noncomputable def c9:List PV->Option PR:=run 3 7 cG
theorem gZ {a0 a1 a2:PV}:c9 [a0,a1,a2]=(cG [some (.val a0),some (.val a1),some (.val a2),none,none,none,none]).res:=Eq.trans rfl rfl
end Dp
end
section
namespace Dp
open PySem PySem.Spec L2 PyProof.Rows
noncomputable def Pr (G:Gd)(rE:Lc->Expr->FE)(rB:Lc->Expr->FB)(L:Lc)(e:Expr):Option FE:=
 (Pb e).bind λq=>(P9 q.2.1).bind λw=>lX (L.alt.contains (q.2.2.line,1000+q.2.2.endCol)) (some (nc (rE L q.1) (vO (rE L) w.1) (vO (rE L) w.2.1)))
noncomputable def MZ:Hk where
 e:=Pr
theorem ES:HkOk MZ where
 e:=λ{X k G L rE rB} o hE hB e f h=>by
  replace h:=a0a.mp h;obtain⟨⟨a,ix,p⟩,e,h⟩:=h
  cases CE e
  replace h:=a0a.mp h;obtain⟨⟨lo,hi,q⟩,e,h⟩:=h
  cases Kw e
  replace h:=bq h;obtain⟨_,h⟩:=h
  cases h
  exact Jl Ic (hE o _) (tB (hE o) _) (tB (hE o) _)
 i:=λ_ _ _ _ _ h=>by cases h
 b:=λ_ _ _ _ _ h=>by cases h
 s:=λ_ _ _ _ _ _ h=>by cases h
end Dp
end
section
namespace Dp
open PySem L2
noncomputable def iE (ρ:aq):Out:=(aj (aI 9 (ak bJ (ak bo (fV 2) (ak b6 (fC (.int 9)) (fV 8))) (fV 3)))
  (u7 lZ 7 (aa (bV (aa (fV 9) (aa (ak bJ (ak b6 (ak b6 (fV 9) (fC (.int 1))) (ak bJ (ak bo (fV 2) (ak b6 (fC (.int 14)) (fV 8))) (ak qm (fV 3) (fC (.int 1))))) (fV 3)) af))) af))) ρ
noncomputable def jY (ρ:aq):Out:=(aj (aI 2 (ao bT (aa (ao cZ (aa (fV 0) (aa (ak b6 (fC (.int 60)) (fV 1)) af))) (aa (fC (.int 20)) af))))
  (aj (aI 3 (fB tD (aa (fC (.int 2)) (aa (ao jl (aa (ak bo (fV 2) (fC (.int 0))) af)) af))))
  (aj (aI 4 (ao fW (aa (fV 0) (aa (fV 1) (aa (fV 3) (aa (fC (.int 30)) af))))))
  (aj (aI 5 (ak bJ (ak bo (fV 2) (fC (.int 1))) (fV 3)))
  (aj (aI 6 (ak bJ (ak b6 (ak b6 (fV 5) (fC (.int 1))) (ak bJ (ak bo (fV 2) (fC (.int 2))) (ak qm (fV 3) (fC (.int 1))))) (fV 3)))
  (aj (hZ (e8 (fT (ao dO (aa (fV 3) (aa (fV 4) (aa (fV 5) (aa (fV 6) (aa (GN (fV 2) (rR (fC (.int 4))) sg) af)))))))) (aR (fC (.bl false))) aP)
  (aj (hZ (e8 (fT (ao c5 (aa (fV 3) (aa (fV 4) (aa (fV 5) (aa (fV 6) (aa (ak bJ (ak bo (fV 2) (fC (.int 3))) (fV 3)) af)))))))) (aR (fC (.bl false))) aP)
  (aj (ic 7 (im af))
  (aj (jP (k5 nK (aa (ak bJ (ak bo (fV 2) (fC (.int 8))) (fC (.int 5))) af)) (gN 8) iE)
  (hZ (e8 (fT (ao c9 (aa (fV 3) (aa (fV 4) (aa (fB lG (aa (fV 7) af)) af)))))) (aR (fC (.bl false))) aP)))))))))) ρ
noncomputable def ug (ρ:aq):Out:=(aj (jP (k5 nK (aa (fB tD (aa (fC (.int 1)) (aa (fB mw (aa (fB gw (aa (fV 0) af)) (aa (fC (.int 2)) af))) af))) af)) (gN 1) jY)
  (aR (fC (.bl true)))) ρ
noncomputable def Aq:List PV->Option PR:=run 1 10 ug
theorem E9 {a0:PV}:Aq [a0]=(ug [some (.val a0),none,none,none,none,none,none,none,none,none]).res:=Eq.trans rfl rfl
end Dp
end
section
namespace Dp
open PySem PySem.Spec L2 PyProof.Rows
section
variable {P:Program}{w:World}{K:PySem.W.Frag}{mg:Str->Option Value}{base:Heap}{k j:Nat}{x:Str}
theorem an {α:Type}{p:α->Prop}:g9 p []:=trivial
theorem ac {F:Fn}{l:List (Str×Fn)}(d:DefN P w K mg base true j x F)(r:g9 (λp:Str×Fn=>∃j,j<=k/\DefN P w K mg base true j p.1 p.2) l)(h:j<=k:=by decide):g9 (λp:Str×Fn=>∃j,j<=k/\DefN P w K mg base true j p.1 p.2) ((x,F)::l):=⟨⟨j,h,d⟩,r⟩
theorem ad {F:Fn}{l:List (Str×Fn)}(d:DefN P w K mg base true j x F)(r:g9 (λp:Str×Fn=>(∃j,j<=k/\DefN P w K mg base true j p.1 p.2)\/mg p.1=none) l)(h:j<=k:=by decide):g9 (λp:Str×Fn=>(∃j,j<=k/\DefN P w K mg base true j p.1 p.2)\/mg p.1=none) ((x,F)::l):=⟨.inl ⟨j,h,d⟩,r⟩
theorem ae (F:Fn){l:List (Str×Fn)}(e:mg x=none)(r:g9 (λp:Str×Fn=>(∃j,j<=k/\DefN P w K mg base true j p.1 p.2)\/mg p.1=none) l):g9 (λp:Str×Fn=>(∃j,j<=k/\DefN P w K mg base true j p.1 p.2)\/mg p.1=none) ((x,F)::l):=⟨.inr e,r⟩
theorem al {F:nu}{l:List (Str×nu)}(d:DefL P w K mg base true j x F)(r:g9 (λp:Str×nu=>∃j,j<=k/\DefL P w K mg base true j p.1 p.2) l)(h:j<=k:=by decide):g9 (λp:Str×nu=>∃j,j<=k/\DefL P w K mg base true j p.1 p.2) ((x,F)::l):=⟨⟨j,h,d⟩,r⟩
theorem av {l:List Str}(m:∃a,mg x=some (.ref a))(r:g9 (λx=>∃a,mg x=some (.ref a)) l):g9 (λx=>∃a,mg x=some (.ref a)) (x::l):=⟨m,r⟩
noncomputable def fN (K:PySem.W.Frag)(x:Str)(f:Addr)(st:Stmt):Prop:=PySem.W.nsIn K mainGlobals x=some (some (.ref f))/\∃(oc:Value) (od:Option Addr) (kV dc pm:Value) (an:Option Addr) (cd ct:Value) (sl:Array (Option Value)),K.lookup f=some ⟨oc,od,.func (PySem.W.fnOf x x (gK st) (ci st) (ah st) .none kV dc pm an cd ct),sl⟩/\PySem.W.codeIn K cd x=true/\PySem.W.keepIn K (.ref f)=true
theorem gm {f:Addr}{st:Stmt}{oc:Value}{od:Option Addr}{kV dc pm:Value}{an:Option Addr}{cd ct:Value}{sl:Array (Option Value)}(a:PySem.W.nsIn K mainGlobals x=some (some (.ref f)))(l:K.lookup f=some ⟨oc,od,.func (PySem.W.fnOf x x (gK st) (ci st) (ah st) .none kV dc pm an cd ct),sl⟩)(c:PySem.W.codeIn K cd x=true)(k:PySem.W.keepIn K (.ref f)=true):fN K x f st:=
 ⟨a,_,_,_,_,_,_,_,_,_,l,c,k⟩
theorem t9 {h:Heap}{f:Addr}{st:Stmt}{ps:List Str}(X:K.In h)(G:h.Ns mainGlobals mg)(a:fN K x f st)
  (hb:∀(kV doc pm:Value) (an:Option Addr) (cdv ct:Value) (us:List Value),us.length=ps.length->bindArgs (PySem.W.fnOf x x (gK st) (ci st) (ah st) .none kV doc pm an cdv ct) ⟨us,[]⟩=pure (ps.zip us)):Cp K mg x st ps:=by
 obtain⟨a,oc,od,kV,dc,pm,an,cd,ct,sl,l,c,k⟩:=a
 exact Gm l c k (PySem.W.mg_of X G a) hb
end
end Dp
namespace Dp
open PySem PySem.Spec L2 PyProof.Rows
noncomputable def OG (N:List Str)(a:Nat)(sc:Scope):Bool:=
 (match sc.kind with|.function=>true|_=>false)&&!sc.isCoroutine&&!sc.isGenerator&&decide N.Nodup&&(N.take a).all (λx=>match sc.names.lookup x with|some .local=>true|some .cell=>true|_=>false)&&sc.names.all (λy=>match y.2 with|.free=>false|_=>true)
theorem Pu {N:List Str}{a:Nat}{sc:Scope}(h:OG N a sc=true):FnScope N (N.take a) sc:=by
 unfold OG at h
 simp only[a0b,a2n] at h
 obtain⟨⟨⟨⟨⟨h1,h2⟩,h3⟩,h4⟩,h5⟩,h6⟩:=h
 refine⟨?_,h2,h3,of_decide_eq_true h4,?_,λx hx=>?_,λy hy e=>?_⟩
 ·split at h1
  ·assumption
  ·cases h1
 ·rw[a1p]
  by_cases q:a<=N.length
  ·rw[a4g q]
  ·rw[Nat.min_eq_right (by omega),a4h,a1o (by omega)]
 ·have:=a4b.mp h5 x hx
  split at this
  ·next e=>exact .inl e
  ·next e=>exact .inr e
  ·cases this
 ·have:=a4b.mp h6 y hy
  rw[e] at this;cases this
@[elab_as_elim] theorem De {P:List Value->Prop}{us:List Value}(h:us.length=1)(k:∀a,P [a]):P us:=by
 obtain _|⟨_,us⟩:=us
 ·cases h
 obtain _|⟨_,us⟩:=us
 ·exact k _
 ·simp at h
@[elab_as_elim] theorem Nu {P:List Value->Prop}{us:List Value}(h:us.length=2)(k:∀a b,P [a,b]):P us:=by
 obtain _|⟨_,us⟩:=us
 ·cases h
 obtain _|⟨_,us⟩:=us
 ·cases h
 obtain _|⟨_,us⟩:=us
 ·exact k _ _
 ·simp at h
@[elab_as_elim] theorem Mx {P:List Value->Prop}{us:List Value}(h:us.length=3)(k:∀a b c,P [a,b,c]):P us:=by
 obtain _|⟨_,us⟩:=us
 ·cases h
 obtain _|⟨_,us⟩:=us
 ·cases h
 obtain _|⟨_,us⟩:=us
 ·cases h
 obtain _|⟨_,us⟩:=us
 ·exact k _ _ _
 ·simp at h
@[elab_as_elim] theorem My {P:List Value->Prop}{us:List Value}(h:us.length=4)(k:∀a b c d,P [a,b,c,d]):P us:=by
 obtain _|⟨_,us⟩:=us
 ·cases h
 obtain _|⟨_,us⟩:=us
 ·cases h
 obtain _|⟨_,us⟩:=us
 ·cases h
 obtain _|⟨_,us⟩:=us
 ·cases h
 obtain _|⟨_,us⟩:=us
 ·exact k _ _ _ _
 ·simp at h
@[elab_as_elim] theorem L6 {P:List Value->Prop}{us:List Value}(h:us.length=5)(k:∀a b c d e,P [a,b,c,d,e]):P us:=by
 obtain _|⟨_,us⟩:=us
 ·cases h
 obtain _|⟨_,us⟩:=us
 ·cases h
 obtain _|⟨_,us⟩:=us
 ·cases h
 obtain _|⟨_,us⟩:=us
 ·cases h
 obtain _|⟨_,us⟩:=us
 ·cases h
 obtain _|⟨_,us⟩:=us
 ·exact k _ _ _ _ _
 ·simp at h
@[elab_as_elim] theorem M3 {P:List Value->Prop}{us:List Value}(h:us.length=6)(k:∀a b c d e f,P [a,b,c,d,e,f]):P us:=by
 obtain _|⟨_,us⟩:=us
 ·cases h
 obtain _|⟨_,us⟩:=us
 ·cases h
 obtain _|⟨_,us⟩:=us
 ·cases h
 obtain _|⟨_,us⟩:=us
 ·cases h
 obtain _|⟨_,us⟩:=us
 ·cases h
 obtain _|⟨_,us⟩:=us
 ·cases h
 obtain _|⟨_,us⟩:=us
 ·exact k _ _ _ _ _ _
 ·simp at h
section
variable {P:Program}{w:World}{K:PySem.W.Frag}{mg:Str->Option Value}{base:Heap}{k:Nat}{x:Str}
theorem vd {h:Heap}{f:Addr}{st:Stmt}{a n:Nat}{s:FS}{G:Gc}(L:Lc)(X:K.In h)(Gn:h.Ns mainGlobals mg)(fk:fN K x f st)(g:GOk P w K mg base k G.toGd)(hk:HkOk G.hk)(sq:OG L.N a (ah st)=true:=by decide +kernel)
  (hb:∀(kV doc pm:Value) (an:Option Addr) (cdv ct:Value) (us:List Value),us.length=(L.N.take a).length->bindArgs (PySem.W.fnOf x x (gK st) (ci st) (ah st) .none kV doc pm an cdv ct) ⟨us,[]⟩=pure ((L.N.take a).zip us):=by intro _ _ _ _ _ _ us hl;first|exact De hl λ_=>rfl|exact Nu hl λ_ _=>rfl|exact Mx hl λ_ _ _=>rfl|exact My hl λ_ _ _ _=>rfl|exact L6 hl λ_ _ _ _ _=>rfl|exact M3 hl λ_ _ _ _ _ _=>rfl)
  (hs:vL (vS G 60 L) (ci st)=s:=by kernel_rfl) (h1:L.sc=ah st:=by rfl) (h3:L.top=true:=by rfl) (ha:(L.N.take a).length=a:=by rfl) (hn:L.N.length=n:=by rfl):DefN P w K mg base true (k+1) x (run a n s):=
 MY L (t9 X Gn fk hb) (Pu sq) g hk hs h1 rfl h3 ha hn
theorem N9 {h:Heap}{f:Addr}{st:Stmt}{a n:Nat}{s:FS}{G:Gc}(L:Lc)(X:K.In h)(Gn:h.Ns mainGlobals mg)(fk:fN K x f st)(g:GOk P w K mg base k G.toGd)(hk:HkOk G.hk)(sq:OG L.N a (ah st)=true:=by decide +kernel)
  (hb:∀(kV doc pm:Value) (an:Option Addr) (cdv ct:Value) (us:List Value),us.length=(L.N.take a).length->bindArgs (PySem.W.fnOf x x (gK st) (ci st) (ah st) .none kV doc pm an cdv ct) ⟨us,[]⟩=pure ((L.N.take a).zip us):=by intro _ _ _ _ _ _ us hl;first|exact De hl λ_=>rfl|exact Nu hl λ_ _=>rfl|exact Mx hl λ_ _ _=>rfl|exact My hl λ_ _ _ _=>rfl|exact L6 hl λ_ _ _ _ _=>rfl|exact M3 hl λ_ _ _ _ _ _=>rfl)
  (hs:vL (vS G 60 L) (ci st)=s:=by kernel_rfl) (h1:L.sc=ah st:=by rfl) (h3:L.top=true:=by rfl) (h4:L.lent=true:=by rfl) (ha:(L.N.take a).length=a:=by rfl) (hn:L.N.length=n:=by rfl):DefL P w K mg base true (k+1) x (rL a n s):=
 K6 L (t9 X Gn fk hb) (Pu sq) g hk hs h1 rfl h3 h4 ha hn
end
end Dp
end
section
namespace K44
open PySem L2 Dp
noncomputable def top (i:Nat):Stmt:=(PySem.Challenge.pw_lotheads_k44_whole_strikes_go_along.main.body)[i]?.getD (.Pass ⟨0,0,0,0⟩)
structure Txt (P:Program)(w:World)(K:PySem.W.Frag)(mg:Str->Option Value):Prop where
 n_abs:mg "abs" = none
 n_all:mg "all" = none
 n_bool:mg "bool" = none
 n_enumerate:mg "enumerate" = none
 n_int:mg "int" = none
 n_isinstance:mg "isinstance" = none
 n_len:mg "len" = none
 n_list:mg "list" = none
 n_max:mg "max" = none
 n_min:mg "min" = none
 n_range:mg "range" = none
 n_str:mg "str" = none
 n_tuple:mg "tuple" = none
 n_is_deed:mg "is_deed" = none
 n_is_telling:mg "is_telling" = none
 n_is_tie:mg "is_tie" = none
 c_MOST_THINGS:∃t,mg "MOST_THINGS" = some (.int 40 t)
 k_JOINS:∀base,K.In base->He P w mg base "JOINS" (.ktu [.str "size",.str "rank",.str "told",.str "names"])
 k_MANNERS:∀base,K.In base->He P w mg base "MANNERS" (.dct [.inr "none",.inr "whole",.inr "halves",.inr "splits",.inr "one"] [.fn "find_none",.fn "find_whole",.fn "find_halves",.fn "find_splits",.fn "find_one"])
noncomputable abbrev lv:Stmt:=top 68
noncomputable abbrev pb:Stmt:=top 67
noncomputable abbrev n4:Stmt:=top 70
noncomputable abbrev oU:Stmt:=top 69
noncomputable abbrev pV:Stmt:=top 10
noncomputable abbrev tJ:Stmt:=top 11
noncomputable abbrev nG:Stmt:=top 13
noncomputable abbrev pf:Stmt:=top 29
noncomputable abbrev qL:Stmt:=top 12
noncomputable abbrev tz:Stmt:=top 28
noncomputable abbrev l9:Stmt:=top 30
noncomputable abbrev gX:Stmt:=top 48
noncomputable abbrev mK:Stmt:=top 14
noncomputable abbrev p9:Stmt:=top 39
noncomputable abbrev mM:Stmt:=top 38
noncomputable abbrev lI:Stmt:=top 55
noncomputable abbrev nh:Stmt:=top 56
noncomputable abbrev ri:Stmt:=top 58
noncomputable abbrev nS:Stmt:=top 59
noncomputable abbrev nA:Stmt:=top 57
noncomputable abbrev qN:Stmt:=top 60
noncomputable abbrev kM:Stmt:=top 61
noncomputable abbrev qP:Stmt:=top 72
noncomputable abbrev i7:Stmt:=top 40
noncomputable abbrev ir:Stmt:=top 43
noncomputable abbrev nO:Stmt:=top 44
noncomputable abbrev lD:Stmt:=top 18
noncomputable abbrev kG:Stmt:=top 19
noncomputable abbrev jr:Stmt:=top 20
noncomputable abbrev jC:Stmt:=top 21
noncomputable abbrev mO:Stmt:=top 22
noncomputable abbrev q6:Stmt:=top 24
noncomputable abbrev mh:Stmt:=top 25
noncomputable abbrev pc:Stmt:=top 45
noncomputable abbrev tK:Stmt:=top 26
noncomputable abbrev wR:Stmt:=top 34
noncomputable abbrev oW:Stmt:=top 35
noncomputable abbrev mc:Stmt:=top 31
noncomputable abbrev mC:Stmt:=top 32
noncomputable abbrev iu:Stmt:=top 33
noncomputable abbrev o7:Stmt:=top 36
noncomputable abbrev iO:Stmt:=top 47
noncomputable abbrev kU:Stmt:=top 50
noncomputable abbrev nM:Stmt:=top 51
noncomputable abbrev oV:Stmt:=top 52
noncomputable abbrev vG:Stmt:=top 15
noncomputable abbrev qV:Stmt:=top 16
noncomputable abbrev oS:Stmt:=top 49
noncomputable abbrev k7:Stmt:=top 53
noncomputable abbrev oY:Stmt:=top 71
noncomputable abbrev jh:Stmt:=top 73
noncomputable abbrev iI:Stmt:=top 74
noncomputable abbrev jS:Stmt:=top 63
noncomputable abbrev mH:Stmt:=top 64
noncomputable abbrev mo:Stmt:=top 65
noncomputable abbrev iG:Stmt:=top 75
noncomputable abbrev Hi:Stmt:=top 76
noncomputable def G0:Gc:={ bi:=["abs","all","bool","enumerate","int","isinstance","len","list","max","min","range","str","tuple","is_deed","is_telling","is_tie"],nis:=[("MOST_THINGS",40)],tups:=[("JOINS",[.str "size",.str "rank",.str "told",.str "names"])],dcts:=[("MANNERS",[.inr "none",.inr "whole",.inr "halves",.inr "splits",.inr "one"],[.fn "find_none",.fn "find_whole",.fn "find_halves",.fn "find_splits",.fn "find_one"])],hk:=((((hkMax.or MZ).or Il).or Hn).or HW).or HU }
theorem fJ:HkOk G0.hk:=(wG (wG (wG (wG (wG Ca ES) Cd) DI) Di) BF)
section
variable {P:Program}{w:World}{K:PySem.W.Frag}{mg:Str->Option Value}{base:Heap}{k:Nat}
theorem gk {vals:List Str}{fns tab:List (Str×Fn)}{lents:List (Str×nu)}(T:Txt P w K mg)(KI:K.In base)(h4:g9 (λx=>∃a,mg x=some (.ref a)) vals)(h5:g9 (λp:Str×Fn=>∃j,j<=k/\DefN P w K mg base true j p.1 p.2) fns)(h7:g9 (λp:Str×Fn=>(∃j,j<=k/\DefN P w K mg base true j p.1 p.2)\/mg p.1=none) tab)(h8:g9 (λp:Str×nu=>∃j,j<=k/\DefL P w K mg base true j p.1 p.2) lents):GOk P w K mg base k ({ G0 with fns:=fns,tab:=tab,lents:=lents,vals:=vals }:Gc).toGd:=
 QP ⟨T.n_abs,⟨T.n_all,⟨T.n_bool,⟨T.n_enumerate,⟨T.n_int,⟨T.n_isinstance,⟨T.n_len,⟨T.n_list,⟨T.n_max,⟨T.n_min,⟨T.n_range,⟨T.n_str,⟨T.n_tuple,⟨T.n_is_deed,⟨T.n_is_telling,⟨T.n_is_tie,trivial⟩⟩⟩⟩⟩⟩⟩⟩⟩⟩⟩⟩⟩⟩⟩⟩ ⟨T.c_MOST_THINGS,trivial⟩ ⟨T.k_JOINS base KI,trivial⟩ h4 h5 ⟨T.k_MANNERS base KI,trivial⟩ h7 h8
end
theorem JL {l:PySem.W.OpenLaw}{w:World}{K:PySem.W.Frag}{h:Heap}{mg:Str->Option Value}{fa f0 f1 f2 f3 f4 f5 f6 f7 f8 f9 f10 f11 f12 f13 f14 f15 f16 f17 f18 f19 f20 f21 f22 f23 f24 f25 f26 f27 f28 f29 f30 f31 f32 f33 f34 f35 f36 f37 f38 f39 f40 f41 f42 f43 f44 f45 f46 f47 f48 f49 f50 f51 f52 f53 f54 f55 f56:Addr}(X:K.In h)(G:h.Ns mainGlobals mg)(hfa:mg "law" = some (.ref fa))
  (a0:fN K "_law_numbers" f0 lv)
  (a1:fN K "_law_cell" f1 pb)
  (a2:fN K "_law_joins" f2 n4)
  (a3:fN K "_law_many" f3 oU)
  (a4:fN K "is_whole" f4 pV)
  (a5:fN K "is_many" f5 tJ)
  (a6:fN K "check_many" f6 nG)
  (a7:fN K "check_row" f7 pf)
  (a8:fN K "is_thing" f8 qL)
  (a9:fN K "is_pair" f9 tz)
  (a10:fN K "check_joins" f10 l9)
  (a11:fN K "check_many_and_row" f11 gX)
  (a12:fN K "check_thing" f12 mK)
  (a13:fN K "roads_by" f13 p9)
  (a14:fN K "steps_along" f14 mM)
  (a15:fN K "steps_of_all" f15 lI)
  (a16:fN K "steps_left" f16 nh)
  (a17:fN K "full_lay" f17 ri)
  (a18:fN K "strikes_by" f18 nS)
  (a19:fN K "steps_laid" f19 nA)
  (a20:fN K "roads_in" f20 qN)
  (a21:fN K "least_strikes" f21 kM)
  (a22:fN K "_law_how" f22 qP)
  (a23:fN K "numbers_between" f23 i7)
  (a24:fN K "is_way_of_joining" f24 ir)
  (a25:fN K "check_join" f25 nO)
  (a26:fN K "find_none" f26 lD)
  (a27:fN K "find_whole" f27 kG)
  (a28:fN K "find_halves" f28 jr)
  (a29:fN K "find_splits" f29 jC)
  (a30:fN K "find_one" f30 mO)
  (a31:fN K "is_short" f31 q6)
  (a32:fN K "check_short" f32 mh)
  (a33:fN K "new_store" f33 pc)
  (a34:fN K "find_in" f34 tK)
  (a35:fN K "copied" f35 wR)
  (a36:fN K "find_done" f36 oW)
  (a37:fN K "first_stays" f37 mc)
  (a38:fN K "mark_behind" f38 mC)
  (a39:fN K "with_heads_joined" f39 iu)
  (a40:fN K "join_done" f40 o7)
  (a41:fN K "forest_and_times" f41 iO)
  (a42:fN K "real_numbers" f42 kU)
  (a43:fN K "real_steps" f43 nM)
  (a44:fN K "moment_of" f44 oV)
  (a45:fN K "way_up" f45 vG)
  (a46:fN K "lot_with" f46 qV)
  (a47:fN K "forest_at" f47 oS)
  (a48:fN K "first_moment" f48 k7)
  (a49:fN K "_law_real" f49 oY)
  (a50:fN K "_law_rows_right" f50 jh)
  (a51:fN K "_law_third_right" f51 iI)
  (a52:fN K "is_unlike_pair" f52 jS)
  (a53:fN K "check_pairs" f53 mH)
  (a54:fN K "first_clash" f54 mo)
  (a55:fN K "_law_pairs_right" f55 iG)
  (a56:fN K "law" f56 Hi)
  (z_abs:PySem.W.nsIn K mainGlobals "abs" = some none)
  (z_all:PySem.W.nsIn K mainGlobals "all" = some none)
  (z_bool:PySem.W.nsIn K mainGlobals "bool" = some none)
  (z_enumerate:PySem.W.nsIn K mainGlobals "enumerate" = some none)
  (z_int:PySem.W.nsIn K mainGlobals "int" = some none)
  (z_isinstance:PySem.W.nsIn K mainGlobals "isinstance" = some none)
  (z_len:PySem.W.nsIn K mainGlobals "len" = some none)
  (z_list:PySem.W.nsIn K mainGlobals "list" = some none)
  (z_max:PySem.W.nsIn K mainGlobals "max" = some none)
  (z_min:PySem.W.nsIn K mainGlobals "min" = some none)
  (z_range:PySem.W.nsIn K mainGlobals "range" = some none)
  (z_str:PySem.W.nsIn K mainGlobals "str" = some none)
  (z_tuple:PySem.W.nsIn K mainGlobals "tuple" = some none)
  (z_is_deed:PySem.W.nsIn K mainGlobals "is_deed" = some none)
  (z_is_telling:PySem.W.nsIn K mainGlobals "is_telling" = some none)
  (z_is_tie:PySem.W.nsIn K mainGlobals "is_tie" = some none)
  {tk_MOST_THINGS:Tok}
  (y_MOST_THINGS:PySem.W.nsIn K mainGlobals "MOST_THINGS" = some (some (.int 40 tk_MOST_THINGS)))
  {aK0:Addr} {oK0:Option Addr} {nK0:Nat} {sK0:Array (Option Value)} {tK0_0 tK0_1 tK0_2 tK0_3:Tok} (yk0:PySem.W.nsIn K mainGlobals "JOINS" = some (some (.ref aK0)))
  (lk0:K.lookup aK0=some ⟨.type "tuple",oK0,.seq #[.str "size" tK0_0,.str "rank" tK0_1,.str "told" tK0_2,.str "names" tK0_3] nK0,sK0⟩)
  {aK1:Addr} {tK1_0 tK1_1 tK1_2 tK1_3 tK1_4:Tok} (yk1:PySem.W.nsIn K mainGlobals "MANNERS" = some (some (.ref aK1)))
  (LK:K.lookup aK1=some ⟨.type "dict",none,.dict #[⟨PyData.keyHash w.params "none",.str "none" tK1_0,.ref f26⟩,⟨PyData.keyHash w.params "whole",.str "whole" tK1_1,.ref f27⟩,⟨PyData.keyHash w.params "halves",.str "halves" tK1_2,.ref f28⟩,⟨PyData.keyHash w.params "splits",.str "splits" tK1_3,.ref f29⟩,⟨PyData.keyHash w.params "one",.str "one" tK1_4,.ref f30⟩] 5,#[]⟩) (sk1:(aK1==sysModules)=false)
  : ∃fd:FuncData,(∀(s:Shared) (u:Value),BindsTo s fd ⟨[u],[]⟩ [("_law_script",u)])/\∀base:Heap,K.In base/\base.Ns mainGlobals mg->NF l.prog w K mg base true 11 fa fd ["_law_script"] Aq:=by
 have T:Txt l.prog w K mg:=⟨PySem.W.mg_none_of X G z_abs,PySem.W.mg_none_of X G z_all,PySem.W.mg_none_of X G z_bool,PySem.W.mg_none_of X G z_enumerate,PySem.W.mg_none_of X G z_int,PySem.W.mg_none_of X G z_isinstance,PySem.W.mg_none_of X G z_len,PySem.W.mg_none_of X G z_list,PySem.W.mg_none_of X G z_max,PySem.W.mg_none_of X G z_min,PySem.W.mg_none_of X G z_range,PySem.W.mg_none_of X G z_str,PySem.W.mg_none_of X G z_tuple,PySem.W.mg_none_of X G z_is_deed,PySem.W.mg_none_of X G z_is_telling,PySem.W.mg_none_of X G z_is_tie,⟨_,PySem.W.mg_of X G y_MOST_THINGS⟩,λbase KI=>GZ (its:=[.str "size" tK0_0,.str "rank" tK0_1,.str "told" tK0_2,.str "names" tK0_3]) KI (PySem.W.mg_of X G yk0) lk0 (show 4<=sizeLine by decide) λ_ _ _=>⟨_,_,rfl,⟨_,rfl⟩,⟨_,_,rfl,⟨_,rfl⟩,⟨_,_,rfl,⟨_,rfl⟩,⟨_,_,rfl,⟨_,rfl⟩,rfl⟩⟩⟩⟩,λbase KI=>Gf KI (PySem.W.mg_of X G yk1) sk1 LK (show 5<=sizeLine by decide) (by decide +kernel) (.cons (λ_ _ e=>⟨_,by rw[e];exact PySem.W.mg_of X G a26.1,rfl⟩) (.cons (λ_ _ e=>⟨_,by rw[e];exact PySem.W.mg_of X G a27.1,rfl⟩) (.cons (λ_ _ e=>⟨_,by rw[e];exact PySem.W.mg_of X G a28.1,rfl⟩) (.cons (λ_ _ e=>⟨_,by rw[e];exact PySem.W.mg_of X G a29.1,rfl⟩) (.cons (λ_ _ e=>⟨_,by rw[e];exact PySem.W.mg_of X G a30.1,rfl⟩) (.nil))))))⟩
 have M_is_pair:=PySem.W.mg_of X G a9.1
 refine E2 (R:=λbase=>K.In base/\base.Ns mainGlobals mg) (t9 X G a56 λ_ _ _ _ _ _ us hl=>De hl λ_=>rfl) hfa (Pu (N:=["_law_script","_law_at","_law_head","_law_many_here","_law_row","_law_x","_law_y","_law_pairs","_law_k","_law_one"]) (a:=1) (by decide +kernel)) rfl rfl λbase hb=>?_
 have KI:=hb.1
 have D__law_numbers:DefN l.prog w K mg base true 1 "_law_numbers" bT:=vd { sc:=ah lv,N:=["_law_cell_here","_law_many_here","_law_some","_law_state","_law_digits","_law_k"],own:=["_law_some"] } X G a0 (gk T KI an an an an) fJ
 have D__law_cell:DefN l.prog w K mg base true 1 "_law_cell" cZ:=vd { sc:=ah pb,N:=["_law_script","_law_k","_law_state","_law_cell_here"] } X G a1 (gk T KI an an an an) fJ
 have D__law_joins:DefN l.prog w K mg base true 2 "_law_joins" fW:=vd { sc:=ah n4,N:=["_law_script","_law_at","_law_many_here","_law_most","_law_head","_law_row","_law_k","_law_xs","_law_x","_law_y"],own:=["_law_row"] } X G a2 (gk T KI an (ac D__law_numbers (ac D__law_cell an)) an an) fJ
 have D__law_many:DefN l.prog w K mg base true 1 "_law_many" jl:=vd { sc:=ah oU,N:=["_law_x"] } X G a3 (gk T KI an an an an) fJ
 have D_is_whole:DefN l.prog w K mg base true 1 "is_whole" gx:=vd { sc:=ah pV,N:=["thing"] } X G a4 (gk T KI an an an an) fJ
 have D_is_many:DefN l.prog w K mg base true 2 "is_many" j3:=vd { sc:=ah tJ,N:=["thing"] } X G a5 (gk T KI an (ac D_is_whole an) an an) fJ
 have D_check_many:DefN l.prog w K mg base true 3 "check_many" iw:=vd { sc:=ah nG,N:=["many"] } X G a6 (gk T KI an (ac D_is_many an) an an) fJ
 have D_is_thing:DefN l.prog w K mg base true 2 "is_thing" bN:=vd { sc:=ah qL,N:=["many","thing"] } X G a8 (gk T KI an (ac D_is_whole an) an an) fJ
 have D_is_pair:DefN l.prog w K mg base true 3 "is_pair" cx:=vd { sc:=ah tz,N:=["many","thing"] } X G a9 (gk T KI an (ac D_is_thing an) an an) fJ
 have D_check_row:DefN l.prog w K mg base true 4 "check_row" jk:=vd { sc:=ah pf,N:=["many","row","is_right","number","place"] } X G a7 (gk T KI an an (ae fK T.n_is_deed (ad D_is_pair (ae b5 T.n_is_telling (ad D_is_thing (ae hX T.n_is_tie an))))) an) fJ
 have D_check_joins:DefN l.prog w K mg base true 5 "check_joins" gT:=vd { sc:=ah l9,N:=["many","row"] } X G a10 (gk T KI (av ⟨_,M_is_pair⟩ an) (ac D_check_row an) an an) fJ
 have D_check_many_and_row:DefN l.prog w K mg base true 6 "check_many_and_row" bu:=vd { sc:=ah gX,N:=["many","row"] } X G a11 (gk T KI an (ac D_check_many (ac D_check_joins an)) an an) fJ
 have D_check_thing:DefN l.prog w K mg base true 3 "check_thing" cN:=vd { sc:=ah mK,N:=["many","x"] } X G a12 (gk T KI an (ac D_is_thing an) an an) fJ
 have D_roads_by:DefN l.prog w K mg base true 1 "roads_by" cM:=vd { sc:=ah p9,N:=["steps","x","roads","waiting","at","start","end","label"],frz:=[(152,[2])],own:=["waiting"],dic:=["roads"] } X G a13 (gk T KI an an an an) fJ
 have D_steps_along:DefN l.prog w K mg base true 1 "steps_along" dz:=vd { sc:=ah mM,N:=["row","numbers","steps","number","first","second"],own:=["steps"],alt:=[(140,1039)] } X G a14 (gk T KI an an an an) fJ
 have D_steps_of_all:DefN l.prog w K mg base true 2 "steps_of_all" d9:=vd { sc:=ah lI,N:=["row"] } X G a15 (gk T KI an (ac D_steps_along an) an an) fJ
 have D_steps_left:DefN l.prog w K mg base true 3 "steps_left" eO:=vd { sc:=ah nh,N:=["row","lay"],cmp:=[((206,11),["start","end","at","sign","lay"])] } X G a16 (gk T KI an (ac D_steps_of_all an) an an) fJ
 have D_full_lay:DefN l.prog w K mg base true 4 "full_lay" ke:=vd { sc:=ah ri,N:=["row","x","y","lay","road","number","sign"],own:=["lay"] } X G a17 (gk T KI an (ac D_roads_by (ac D_steps_left an)) an an) fJ
 have D_strikes_by:DefN l.prog w K mg base true 4 "strikes_by" iz:=vd { sc:=ah nS,N:=["row","lay","x","reached"],cmp:=[((219,17),["number","one","other","reached"])] } X G a18 (gk T KI an (ac D_roads_by (ac D_steps_left an)) an an) fJ
 have D_steps_laid:DefN l.prog w K mg base true 3 "steps_laid" fO:=vd { sc:=ah nA,N:=["row","lay"],cmp:=[((208,11),["start","end","at","sign","lay"])] } X G a19 (gk T KI an (ac D_steps_of_all an) an an) fJ
 have D_roads_in:DefN l.prog w K mg base true 4 "roads_in" kr:=vd { sc:=ah qN,N:=["row","full","x","y","lay","roads","road","number","sign"],own:=["lay","roads"],cmp:=[((225,27),["number","sign"])] } X G a20 (gk T KI an (ac D_roads_by (ac D_steps_laid an)) an an) fJ
 have D_least_strikes:DefN l.prog w K mg base true 7 "least_strikes" fw:=vd { sc:=ah kM,N:=["many","row","x","y","lay"] } X G a21 (gk T KI an (ac D_check_many_and_row (ac D_check_thing (ac D_full_lay (ac D_strikes_by (ac D_roads_in an))))) an an) fJ
 have D__law_how:DefN l.prog w K mg base true 8 "_law_how" bL:=vd { sc:=ah qP,N:=["_law_many_here","_law_row","_law_x","_law_y","_law_strikes","_law_roads"] } X G a22 (gk T KI an (ac D_least_strikes an) an an) fJ
 have D_numbers_between:DefN l.prog w K mg base true 2 "numbers_between" bX:=vd { sc:=ah i7,N:=["steps","x","y","road"],cmp:=[((157,17),["number","sign"])] } X G a23 (gk T KI an (ac D_roads_by an) an an) fJ
 have D_is_way_of_joining:DefN l.prog w K mg base true 1 "is_way_of_joining" cQ:=vd { sc:=ah ir,N:=["thing"] } X G a24 (gk T KI an an an an) fJ
 have D_check_join:DefN l.prog w K mg base true 2 "check_join" kf:=vd { sc:=ah nO,N:=["join"] } X G a25 (gk T KI an (ac D_is_way_of_joining an) an an) fJ
 have D_find_none:DefN l.prog w K mg base true 1 "find_none" eC:=vd { sc:=ah lD,N:=["ups","x","at","steps"] } X G a26 (gk T KI an an an an) fJ
 have L_find_none:DefL l.prog w K mg base true 1 "find_none" iy:=N9 { sc:=ah lD,N:=["ups","x","at","steps"],lent:=true } X G a26 (gk T KI an an an an) fJ
 have D_find_whole:DefN l.prog w K mg base true 2 "find_whole" ua:=vd { sc:=ah kG,N:=["ups","x","head","steps","at","above"],own:=["ups"] } X G a27 (gk T KI an (ac D_find_none an) an an) fJ
 have L_find_whole:DefL l.prog w K mg base true 2 "find_whole" gW:=N9 { sc:=ah kG,N:=["ups","x","head","steps","at","above"],own:=["ups"],lent:=true } X G a27 (gk T KI an (ac D_find_none an) an an) fJ
 have D_find_halves:DefN l.prog w K mg base true 1 "find_halves" sf:=vd { sc:=ah jr,N:=["ups","x","at","steps"],own:=["ups"] } X G a28 (gk T KI an an an an) fJ
 have L_find_halves:DefL l.prog w K mg base true 1 "find_halves" fP:=N9 { sc:=ah jr,N:=["ups","x","at","steps"],own:=["ups"],lent:=true } X G a28 (gk T KI an an an an) fJ
 have D_find_splits:DefN l.prog w K mg base true 1 "find_splits" r9:=vd { sc:=ah jC,N:=["ups","x","at","steps","above"],own:=["ups"] } X G a29 (gk T KI an an an an) fJ
 have L_find_splits:DefL l.prog w K mg base true 1 "find_splits" fY:=N9 { sc:=ah jC,N:=["ups","x","at","steps","above"],own:=["ups"],lent:=true } X G a29 (gk T KI an an an an) fJ
 have D_find_one:DefN l.prog w K mg base true 2 "find_one" xP:=vd { sc:=ah mO,N:=["ups","x","head","steps"],own:=["ups"] } X G a30 (gk T KI an (ac D_find_none an) an an) fJ
 have L_find_one:DefL l.prog w K mg base true 2 "find_one" i5:=N9 { sc:=ah mO,N:=["ups","x","head","steps"],own:=["ups"],lent:=true } X G a30 (gk T KI an (ac D_find_none an) an an) fJ
 have D_is_short:DefN l.prog w K mg base true 1 "is_short" ka:=vd { sc:=ah q6,N:=["thing"] } X G a31 (gk T KI an an an an) fJ
 have D_check_short:DefN l.prog w K mg base true 2 "check_short" gU:=vd { sc:=ah mh,N:=["short"] } X G a32 (gk T KI an (ac D_is_short an) an an) fJ
 have D_new_store:DefN l.prog w K mg base true 4 "new_store" jf:=vd { sc:=ah pc,N:=["many","join","short","mark"],alt:=[(170,25)] } X G a33 (gk T KI an (ac D_check_many (ac D_check_join (ac D_check_short an))) an an) fJ
 have D_find_in:DefN l.prog w K mg base true 3 "find_in" jT:=vd { sc:=ah tK,N:=["ups","short","x","behind","manner","head","steps"],own:=["behind"] } X G a34 (gk T KI an an an (al L_find_none (al L_find_whole (al L_find_halves (al L_find_splits (al L_find_one an)))))) fJ
 have D_copied:DefN l.prog w K mg base true 1 "copied" nz:=vd { sc:=ah wR,N:=["numbers"] } X G a35 (gk T KI an an an an) fJ
 have D_find_done:DefN l.prog w K mg base true 4 "find_done" gY:=vd { sc:=ah oW,N:=["store","x","join","short","ups","marks","head","behind","steps"] } X G a36 (gk T KI an (ac D_find_in (ac D_copied an)) an an) fJ
 have D_first_stays:DefN l.prog w K mg base true 1 "first_stays" gL:=vd { sc:=ah mc,N:=["join","marks","first","second"] } X G a37 (gk T KI an an an an) fJ
 have D_mark_behind:DefN l.prog w K mg base true 1 "mark_behind" gG:=vd { sc:=ah mC,N:=["join","top","under"] } X G a38 (gk T KI an an an an) fJ
 have D_with_heads_joined:DefN l.prog w K mg base true 2 "with_heads_joined" cP:=vd { sc:=ah iu,N:=["store","first","second","join","short","ups","marks","stays","top","under","new_ups","new_marks"],own:=["new_marks","new_ups"] } X G a39 (gk T KI an (ac D_first_stays (ac D_mark_behind an)) an an) fJ
 have D_join_done:DefN l.prog w K mg base true 5 "join_done" hK:=vd { sc:=ah o7,N:=["store","x","y","after_x","first","steps_x","after_y","second","steps_y","steps"] } X G a40 (gk T KI an (ac D_find_done (ac D_with_heads_joined an)) an an) fJ
 have D_forest_and_times:DefN l.prog w K mg base true 6 "forest_and_times" b9:=vd { sc:=ah iO,N:=["many","row","store","times","number","x","y","behind","real","steps","thing"],own:=["times"] } X G a41 (gk T KI an (ac D_new_store (ac D_join_done an)) an an) fJ
 have D_real_numbers:DefN l.prog w K mg base true 7 "real_numbers" fQ:=vd { sc:=ah kU,N:=["many","row","times"],cmp:=[((189,11),["number","times"])] } X G a42 (gk T KI an (ac D_forest_and_times an) an an) fJ
 have D_real_steps:DefN l.prog w K mg base true 8 "real_steps" gc:=vd { sc:=ah nM,N:=["many","row"] } X G a43 (gk T KI an (ac D_steps_along (ac D_real_numbers an)) an an) fJ
 have D_moment_of:DefN l.prog w K mg base true 1 "moment_of" hW:=vd { sc:=ah oV,N:=["road"] } X G a44 (gk T KI an an an an) fJ
 have D_way_up:DefN l.prog w K mg base true 1 "way_up" kY:=vd { sc:=ah vG,N:=["ups","x","way"],own:=["way"] } X G a45 (gk T KI an an an an) fJ
 have D_lot_with:DefN l.prog w K mg base true 2 "lot_with" iF:=vd { sc:=ah qV,N:=["ups","x","head"],cmp:=[((40,17),["y","ups","head"])] } X G a46 (gk T KI an (ac D_way_up an) an an) fJ
 have D_forest_at:DefN l.prog w K mg base true 7 "forest_at" je:=vd { sc:=ah oS,N:=["many","row","moment"],alt:=[(186,34)] } X G a47 (gk T KI an (ac D_forest_and_times an) an an) fJ
 have D_first_moment:DefN l.prog w K mg base true 9 "first_moment" cX:=vd { sc:=ah k7,N:=["many","row","x","y","road"] } X G a48 (gk T KI an (ac D_check_many_and_row (ac D_check_thing (ac D_numbers_between (ac D_real_steps (ac D_moment_of (ac D_lot_with (ac D_forest_at an))))))) an an) fJ
 have D__law_real:DefN l.prog w K mg base true 1 "_law_real" i4:=vd { sc:=ah oY,N:=["_law_many_here","_law_row","_law_lots","_law_real_here","_law_number","_law_x","_law_y"],own:=["_law_real_here"],cmp:=[((299,24),["_law_name","_law_lots","_law_x","_law_y"])] } X G a49 (gk T KI an an an an) fJ
 have D__law_rows_right:DefN l.prog w K mg base true 10 "_law_rows_right" dO:=vd { sc:=ah jh,N:=["_law_many_here","_law_row","_law_x","_law_y","_law_xs","_law_how_here","_law_join","_law_at","_law_more","_law_fewer","_law_alone","_law_real_here","_law_at_x"],alt:=[(312,41),(312,77),(313,42),(313,63),(317,32),(317,69)],cmp:=[((321,27),["_law_k","_law_row"]),((322,16),["_law_pair","_law_x"])] } X G a50 (gk T KI an (ac D__law_how (ac D_first_moment (ac D__law_real an))) an an) fJ
 have D__law_third_right:DefN l.prog w K mg base true 9 "_law_third_right" c5:=vd { sc:=ah iI,N:=["_law_many_here","_law_row","_law_x","_law_y","_law_z","_law_by_third"] } X G a51 (gk T KI an (ac D__law_how an) an an) fJ
 have D_is_unlike_pair:DefN l.prog w K mg base true 4 "is_unlike_pair" eN:=vd { sc:=ah jS,N:=["many","thing"] } X G a52 (gk T KI an (ac D_is_pair an) an an) fJ
 have D_check_pairs:DefN l.prog w K mg base true 5 "check_pairs" gE:=vd { sc:=ah mH,N:=["many","pairs"],cmp:=[((242,47),["pair","many"])] } X G a53 (gk T KI an (ac D_is_unlike_pair an) an an) fJ
 have D_first_clash:DefN l.prog w K mg base true 9 "first_clash" bK:=vd { sc:=ah mo,N:=["many","row","pairs","steps","clashes","number","x","y","road","moment"],own:=["clashes"],alt:=[(255,27)] } X G a54 (gk T KI an (ac D_check_many_and_row (ac D_check_pairs (ac D_real_steps (ac D_numbers_between (ac D_moment_of an))))) an an) fJ
 have D__law_pairs_right:DefN l.prog w K mg base true 10 "_law_pairs_right" c9:=vd { sc:=ah iG,N:=["_law_many_here","_law_row","_law_pairs","_law_told","_law_k","_law_fewer","_law_turned"],alt:=[(332,59),(340,35),(342,74)] } X G a55 (gk T KI an (ac D_first_clash an) an an) fJ
 exact⟨{ sc:=ah Hi,N:=["_law_script","_law_at","_law_head","_law_many_here","_law_row","_law_x","_law_y","_law_pairs","_law_k","_law_one"],own:=["_law_pairs"] },_,(gk T KI an (ac D__law_numbers (ac D__law_joins (ac D__law_cell (ac D__law_many (ac D__law_rows_right (ac D__law_third_right (ac D__law_pairs_right an))))))) an an),fJ,by kernel_rfl,rfl,rfl,rfl⟩
end K44
end
section
namespace Fo
open PySem
noncomputable def Cj (us:List Nat):Nat->Nat->List Nat
 |0,x=>[x]
 |n+1,x=>if up us x=x then [x] else x::Cj us n (up us x)
noncomputable def way (us:List Nat)(x:Nat):List Nat:=Cj us us.length x
theorem EX {us:List Nat}{x:Nat}{l:List Nat}(w:Way us x l):∀{n:Nat},l.length<=n+1->Cj us n x=l:=by
 induction w with
 | @head x e=>
  intro n h
  cases n with
  |zero=>rfl
  |succ n=>rw[Cj,if_pos e]
 | @step x l ne w ih=>
  intro n h
  cases n with
  |zero=>have:=w.pos;rw[a0o] at h;omega
  |succ n=>rw[Cj,if_neg ne,ih (by simpa using h)]
theorem oJ {us:List Nat}{x:Nat}{l:List Nat}(f:Fst us)(hx:x<us.length)(w:Way us x l):way us x=l:=by
 obtain⟨l',w',h⟩:=f.way hx
 cases w.det w'
 exact EX w (by omega)
theorem c6 {us:List Nat}{x:Nat}(f:Fst us)(hx:x<us.length):Way us x (way us x):=by
 obtain⟨l,w,_⟩:=f.way hx
 rw[oJ f hx w];exact w
theorem lU {us:List Nat}{x:Nat}(f:Fst us)(hx:x<us.length):(way us x).length<=us.length:=by
 obtain⟨l,w,h⟩:=f.way hx
 rw[oJ f hx w];exact h
noncomputable def hd (us:List Nat)(x:Nat):Nat:=gb (way us x)
noncomputable def dp (us:List Nat)(x:Nat):Nat:=(way us x).length - 1
noncomputable def jQ (y:Str)(us:List Nat)(x t:Nat):Nat:=
 if y = "whole" then (if t∈way us x then hd us x else up us t)
 else if y = "halves" then (if t∈kN (way us x) then up us (up us t) else up us t)
 else if y = "splits" then (if t∈way us x then up us (up us t) else up us t)
 else if y = "one" then (if t=x then up us (up us t) else up us t)
 else up us t
noncomputable def hV (y:Str)(us:List Nat)(x:Nat):List Nat:=(a0m us.length).map (jQ y us x)
noncomputable def stp (y:Str)(us:List Nat)(x:Nat):Nat:=if y = "halves" then (way us x).length / 2 else dp us x
theorem pT {us:List Nat}{t:Nat}(h:us.length<=t):up us t=0:=by
 unfold up;rw[a0k,a3z h];rfl
theorem fg (y:Str)(us:List Nat)(x:Nat):(hV y us x).length=us.length:=by unfold hV;rw[a0j,a0v]
theorem uv {y:Str}{us:List Nat}{x t:Nat}(h:t<us.length):up (hV y us x) t=jQ y us x t:=by
 unfold up hV
 rw[a0k,a0s,a2r h];rfl
theorem lr {y:Str}{us us':List Nat}{x:Nat}(hl:us'.length=us.length)(h:∀t,t<us.length->up us' t=jQ y us x t):us'=hV y us x:=by
 refine IP (by rw[hl,fg]) λt=>?_
 by_cases ht:t<us.length
 ·rw[h t ht,uv ht]
 ·rw[pT (by omega),pT (by rw[fg];omega)]
end Fo
namespace Dp
open PySem L2 Dp Fo
end Dp
namespace Lo
open PySem Fo Dp
end Lo
end
section
namespace Fo
open PySem L2
theorem kI {us:List Nat}{x t:Nat}(f:Fst us)(hx:x<us.length)(h:t∈way us x):t<us.length:=(c6 f hx).lt f.bnd hx t h
theorem DR {us:List Nat}(f:Fst us){x:Nat}(hx:x<us.length){y:Str}(hy:y∈cg):RM y us x (hd us x) (hV y us x) (stp y us x):=by
 have w:=c6 f hx
 have pos:=w.pos
 have low:∀t,us.length<=t->up (hV y us x) t=0/\up us t=0/\t∉way us x:=λt ht=>⟨pT (by rw[fg];omega),pT ht,λq=>by have:=kI f hx q;omega⟩
 have hdp:dp us x+1=(way us x).length:=by unfold dp;omega
 rcases (show y = "none"\/y = "whole"\/y = "halves"\/y = "splits"\/y = "one" by simpa [cg] using hy) with rfl|rfl|rfl|rfl|rfl
 ·exact .none ⟨(lr rfl λt ht=>rfl).symm,_,w,rfl,hdp⟩
 ·refine .whole ⟨_,w,rfl,hdp,fg ..,λt=>?_⟩
  by_cases ht:t<us.length
  ·rw[uv ht];rfl
  ·obtain⟨a,b,c⟩:=low t (by omega)
   rw[a,b,if_neg c]
 ·refine .halves ⟨_,w,rfl,rfl,fg ..,λt=>?_⟩
  by_cases ht:t<us.length
  ·rw[uv ht];rfl
  ·obtain⟨a,b,c⟩:=low t (by omega)
   rw[a,b,if_neg λq=>c (oF _ _ q)]
 ·refine .splits ⟨_,w,rfl,hdp,fg ..,λt=>?_⟩
  by_cases ht:t<us.length
  ·rw[uv ht];rfl
  ·obtain⟨a,b,c⟩:=low t (by omega)
   rw[a,b,if_neg c]
 ·refine .one ⟨(lr (a1c) λt ht=>?_).symm,_,w,rfl,hdp⟩
  rw[ez hx]
  show (if t=x then up us (up us x) else up us t)=if t=x then up us (up us t) else up us t
  by_cases q:t=x
  ·rw[if_pos q,if_pos q,q]
  ·rw[if_neg q,if_neg q]
theorem nN {us:List Nat}(f:Frst us){x:Nat}(hx:x<us.length){y:Str}(hy:y∈cg):Frst (hV y us x):=((DR f.fst hx hy).frst f hx).1
theorem v0 {us:List Nat}{x:Nat}(f:Fst us)(hx:x<us.length)(e:up us x=x):way us x=[x]:=oJ f hx (.head e)
theorem wQ {us:List Nat}{x:Nat}(f:Fst us)(hx:x<us.length)(e:up us x≠x):way us x=x::way us (up us x):=oJ f hx (.step e (c6 f (f.bnd x hx)))
theorem jg {us:List Nat}{x:Nat}(f:Fst us)(hx:x<us.length)(e:up us x=x):hd us x=x:=by unfold hd;rw[v0 f hx e];rfl
theorem Fs {us:List Nat}{x:Nat}(f:Fst us)(hx:x<us.length)(e:up us x≠x):hd us x=hd us (up us x):=by
 unfold hd
 rw[wQ f hx e,cz (c6 f (f.bnd x hx)).ne]
theorem Ab {us:List Nat}{x:Nat}(f:Fst us)(hx:x<us.length):hd us (up us x)=hd us x:=by
 by_cases e:up us x=x
 ·rw[e]
 ·exact (Fs f hx e).symm
theorem re {us:List Nat}{x:Nat}(f:Fst us)(hx:x<us.length):up us (hd us x)=hd us x:=(c6 f hx).head_last
theorem mn {us:List Nat}{x:Nat}(f:Fst us)(hx:x<us.length):hd us x<us.length:=kI f hx (qz (c6 f hx).ne)
theorem Do {us:List Nat}(f:Fst us){x:Nat}(hx:x<us.length){y:Str}(hy:y∈cg){t:Nat}(ht:t<us.length):hd (hV y us x) t=hd us t/\dp (hV y us x) t<=dp us t:=by
 obtain⟨l,L⟩:=(DR f hx hy).left f hx
 obtain⟨l',w',e1,e2⟩:=L.sh.way f ht (c6 f ht)
 have f':=L.sh.fst f
 have:=oJ f' (by rw[fg];exact ht) w'
 unfold hd dp
 rw[this]
 exact⟨e1,by omega⟩
end Fo
end
section
namespace Dp
open PySem L2 Fo
theorem xB (is:List Int):gv (is.map PV.int)=some is:=by
 induction is with
 |nil=>rfl
 |cons b bs ih=>rw[a1f,gv,ih];rfl
theorem LK:a4r ("is_deed" : Str) [("is_deed",fK),("is_pair",cx),("is_telling",b5),("is_thing",bN),("is_tie",hX)]=some fK:=rfl
theorem Qu:a4r ("is_pair" : Str) [("is_deed",fK),("is_pair",cx),("is_telling",b5),("is_thing",bN),("is_tie",hX)]=some cx:=rfl
theorem QK:a4r ("is_telling" : Str) [("is_deed",fK),("is_pair",cx),("is_telling",b5),("is_thing",bN),("is_tie",hX)]=some b5:=rfl
theorem QC:a4r ("is_thing" : Str) [("is_deed",fK),("is_pair",cx),("is_telling",b5),("is_thing",bN),("is_tie",hX)]=some bN:=rfl
theorem QO:a4r ("is_tie" : Str) [("is_deed",fK),("is_pair",cx),("is_telling",b5),("is_thing",bN),("is_tie",hX)]=some hX:=rfl
theorem Aa {y:Str}:∀{xs:List Str} {ps:List PV},ps.length=xs.length->(o6 (xs.map Sum.inr) ps (.inr y)).isSome=decide (y∈xs)
 |[],_,_=>rfl
 |x::xs,[],h=>by cases h
 |x::xs,p::ps,h=>by
  rw[a1f]
  show (if (Sum.inr x:eX)=Sum.inr y then some p else o6 (xs.map Sum.inr) ps (.inr y)).isSome=_
  by_cases e:x=y
  ·subst e;rw[if_pos rfl];simp
  ·rw[if_neg (λq=>e (Sum.inr.inj q)),Aa (by simpa using h)]
   have:(y∈x::xs)↔y∈xs:=by simp[Ne.symm e]
   simp only[this]
theorem xl (y:Str):ka [.str y]=some (.v (.bl (decide (y∈cg)))):=by
 have h:=Aa (y:=y) (xs:=cg) (ps:=[.fn "find_none",.fn "find_whole",.fn "find_halves",.fn "find_splits",.fn "find_one"]) rfl
 have h:(o6 [.inr "none",.inr "whole",.inr "halves",.inr "splits",.inr "one"] [.fn "find_none",.fn "find_whole",.fn "find_halves",.fn "find_splits",.fn "find_one"] (.inr y)).isSome=decide (y∈cg):=h
 simp_all! [uG,kC,h]
theorem yA {c:FB}{b:FS}(hc:c=dX\/c=dh)(hb':b=gf\/b=fG){t:Sl}{us:List Nat}(ht:t=.val (.lst (ai us))\/t=.own (ai us))(hb:∀x,x<us.length->up us x<us.length){s1:Option Sl}{y:Nat}{l:List Nat}(w:Way us y l):∀(k:Nat),y<us.length →
  ∀n,l.length<n->bP c b n [some t,s1,some (.val (.int y)),some (.val (.int k))]=.nx [some t,s1,some (.val (.int (gb l))),some (.val (.int (k+l.length - 1:Nat)))]:=by
 induction w with
 | @head y e=>
  intro k hy n hn
  obtain⟨n,rfl⟩:∃k,n=k+1:=⟨n - 1,by simp at hn;omega⟩
  rw[cO]
  rcases hc with rfl|rfl<;>rcases ht with rfl|rfl <;>
   simp![dX,dh,au hy,e,gb,a5h]<;>rfl
 | @step y l ne w ih=>
  intro k hy n hn
  obtain⟨n,rfl⟩:∃k,n=k+1:=⟨n - 1,by simp at hn;omega⟩
  have ih:=ih (k+1) (hb y hy) n (by simp at hn;omega)
  have hne:decide ((up us y:Int)=(y:Int))=false:=decide_eq_false (by omega)
  rw[cz w.ne,show k+(y::l).length - 1=k+1+l.length - 1 by rw[a0o];omega]
  rw[cO]
  rcases hc with rfl|rfl<;>rcases hb' with rfl|rfl<;>rcases ht with rfl|rfl <;>
   (simp![dX,gf,dh,fG,au hy,hne];exact ih)
theorem x0 {us:List Nat}(f:Frst us){x:Nat}(hx:x<us.length):eC [.lst (ai us),.int x]=some (.v (.tup [.int (hd us x),.int (dp us x:Nat)]))/\iy (ai us) [.int x]=some (ai us,.tup [.int (hd us x),.int (dp us x:Nat)]):=by
 have hl:=lU f.fst hx
 have hm:=f.most
 have e1:=yA (.inl rfl) (.inl rfl) (t:=.val (.lst (ai us))) (.inl rfl) f.fst.bnd (s1:=some (.val (.int x))) (c6 f.fst hx) 0 hx 10000 (by omega)
 have e2:=yA (.inr rfl) (.inr rfl) (t:=.own (ai us)) (.inr rfl) f.fst.bnd (s1:=some (.val (.int x))) (c6 f.fst hx) 0 hx 10000 (by omega)
 rw[a2z] at e1 e2
 have e1:bP dX gf 10000 [some (.val (.lst (ai us))),some (.val (.int x)),some (.val (.int x)),some (.val (.int 0))]=_:=e1
 have e2:bP dh fG 10000 [some (.own (ai us)),some (.val (.int x)),some (.val (.int x)),some (.val (.int 0))]=_:=e2
 refine⟨by simp![rY,jo,e1];rfl,?_⟩
 show nJ (iD [some (.own (ai us)),some (.val (.int x)),none,none]).res2=_
 simp![iD,e2];rfl
section
variable {us:List Nat}{x t:Nat}
theorem Bm:jQ "halves" us x t=if t∈kN (way us x) then up us (up us t) else up us t:=by unfold jQ;rw[if_neg (by decide),if_pos rfl]
theorem Be:jQ "splits" us x t=if t∈way us x then up us (up us t) else up us t:=by unfold jQ;rw[if_neg (by decide),if_neg (by decide),if_pos rfl]
theorem Jc:jQ "one" us x t=if t=x then up us (up us t) else up us t:=by unfold jQ;rw[if_neg (by decide),if_neg (by decide),if_neg (by decide),if_pos rfl]
theorem nu_none:jQ "none" us x t=up us t:=by unfold jQ;rw[if_neg (by decide),if_neg (by decide),if_neg (by decide),if_neg (by decide)]
end
theorem M8 {us:List Nat}(f:Frst us){x:Nat}(hx:x<us.length):up us x<us.length:=f.fst.bnd x hx
theorem NV {us:List Nat}(f:Frst us){x:Nat}(hx:x<us.length):i5 (ai us) [.int x]=some (ai (us.set x (up us (up us x))),.tup [.int (hd us x),.int (dp us x:Nat)]):=by
 have h1:=au hx
 have h2:=au (M8 f hx)
 have h3:sQ us.length (x:Int)=some x:=fy hx
 show nJ (ju [some (.own (ai us)),some (.val (.int x)),none,none]).res2=_
 simp![ju,(x0 f hx).1,h1,h2,h3,nI,iB,tf,xa,jz]
theorem ER {us:List Nat}(f:Fst us){s1 s3:Option Sl}{h:Nat}{y:Nat}{l:List Nat}(w:Way us y l)(hh:h=gb l):∀(pre vs:List Nat) (z:Option Sl),(∀t∈pre,t∉l)->vs.length=us.length->(∀t,up vs t=if t∈pre then h else up us t)->y<us.length->∀n,l.length<n →
  ∃vs' z',vs'.length=us.length/\(∀t,up vs' t=if t∈pre\/t∈l then h else up us t)/\bP cU eJ n [some (.own (ai vs)),s1,some (.val (.int h)),s3,some (.val (.int y)),z]=.nx [some (.own (ai vs')),s1,some (.val (.int h)),s3,some (.val (.int h)),z']:=by
 induction w with
 | @head y e=>
  intro pre vs z hp hl hv hy n hn
  obtain⟨n,rfl⟩:∃k,n=k+1:=⟨n - 1,by simp at hn;omega⟩
  obtain rfl:h=y:=hh
  refine⟨vs,z,hl,λt=>?_,?_⟩
  ·rw[hv t]
   by_cases ht:t=h
   ·subst ht;rw[e];simp
   ·simp[ht]
  ·rw[cO]
   simp![cU]
 | @step y l ne w ih=>
  intro pre vs z hp hl hv hy n hn
  obtain⟨n,rfl⟩:∃k,n=k+1:=⟨n - 1,by simp at hn;omega⟩
  have nd:=(Way.step ne w).nodup f hy
  have hyl:y∉l:=(a1s.mp nd).1
  have hyp:y∉pre:=λq=>hp y q a0e
  rw[cz w.ne] at hh
  have hne:decide ((y:Int)=(h:Int))=false:=decide_eq_false (λq=>by
   have:y=h:=by omega
   rw[this,hh] at hyl;exact hyl (qz w.ne))
  have hu:up vs y=up us y:=by rw[hv y,if_neg hyp]
  have h1:L2.c8 (ai vs) (y:Int)=some (nI (up us y)):=by rw[au (by rw[hl];exact hy),hu]
  have h3:sQ vs.length (y:Int)=some y:=fy (by rw[hl];exact hy)
  obtain⟨vs',z',a1,a2,a3⟩:=ih hh (y::pre) (vs.set y h) (some (.val (.int (up us y)))) (λt ht=>by
    rcases a0t.mp ht with rfl|ht
    ·exact hyl
    ·exact λq=>hp t ht (a0c _ q)) (by rw[a1c];exact hl) (λt=>by
    rw[ez (by rw[hl];exact hy),hv t]
    by_cases q:t=y
    ·simp[q]
    ·simp[q]) (f.bnd y hy) n (by simp at hn;omega)
  refine⟨vs',z',a1,λt=>?_,?_⟩
  ·rw[a2 t]
   by_cases q:t=y<;>simp[q]
  ·rw[cO]
   simp![cU,eJ,h1,h3,hne,nI,iB]
   exact a3
theorem A3 {us:List Nat}(f:Frst us){x:Nat}(hx:x<us.length):gW (ai us) [.int x]=some (ai (hV "whole" us x),.tup [.int (hd us x),.int (dp us x:Nat)]):=by
 have hl:=lU f.fst hx
 have hm:=f.most
 obtain⟨vs,z,a1,a2,a3⟩:=ER f.fst (s1:=some (.val (.int x))) (s3:=some (.val (.int (dp us x:Nat)))) (c6 f.fst hx) rfl [] us none (by simp) rfl (by simp) hx 10000 (by omega)
 have e:vs=hV "whole" us x:=lr a1 λt ht=>by rw[a2 t];simp[jQ,hd]
 subst e
 have a3:bP cU eJ 10000 [some (.own (ai us)),some (.val (.int x)),some (.val (.int (hd us x))),some (.val (.int (dp us x:Nat))),some (.val (.int x)),none]=_:=a3
 show nJ (ij [some (.own (ai us)),some (.val (.int x)),none,none,none,none]).res2=_
 simp![ij,(x0 f hx).1,a3,nI,tf,xa,jz];rfl
theorem FR {us:List Nat}(f:Fst us){s1:Option Sl}{y:Nat}{l:List Nat}(w:Way us y l):∀(pre vs:List Nat) (k:Nat) (z:Option Sl),(∀t∈pre,t∉l)->vs.length=us.length->(∀t,up vs t=if t∈pre then up us (up us t) else up us t)->y<us.length->∀n,l.length<n →
  ∃vs' z',vs'.length=us.length/\(∀t,up vs' t=if t∈pre\/t∈l then up us (up us t) else up us t)/\bP cF dR n [some (.own (ai vs)),s1,some (.val (.int y)),some (.val (.int k)),z]=.nx [some (.own (ai vs')),s1,some (.val (.int (gb l))),some (.val (.int (k+l.length - 1:Nat))),z']:=by
 induction w with
 | @head y e=>
  intro pre vs k z hp hl hv hy n hn
  obtain⟨n,rfl⟩:∃k,n=k+1:=⟨n - 1,by simp at hn;omega⟩
  have hyp:y∉pre:=λq=>hp y q a0e
  have h1:L2.c8 (ai vs) (y:Int)=some (nI y):=by rw[au (by rw[hl];exact hy),hv y,if_neg hyp,e]
  refine⟨vs,z,hl,λt=>?_,?_⟩
  ·rw[hv t]
   by_cases ht:t=y
   ·subst ht;rw[e,e];simp
   ·simp[ht]
  ·rw[cO]
   simp![cF,h1];rfl
 | @step y l ne w ih=>
  intro pre vs k z hp hl hv hy n hn
  obtain⟨n,rfl⟩:∃k,n=k+1:=⟨n - 1,by simp at hn;omega⟩
  have nd:=(Way.step ne w).nodup f hy
  have hyl:y∉l:=(a1s.mp nd).1
  have hyp:y∉pre:=λq=>hp y q a0e
  have ha:=f.bnd y hy
  have hap:up us y∉pre:=λq=>hp _ q (a0c _ w.mem_self)
  have hne:decide ((up us y:Int)=(y:Int))=false:=decide_eq_false (by omega)
  have h1:L2.c8 (ai vs) (y:Int)=some (nI (up us y)):=by rw[au (by rw[hl];exact hy),hv y,if_neg hyp]
  have h2:L2.c8 (ai vs) (up us y:Int)=some (nI (up us (up us y))):=by rw[au (by rw[hl];exact ha),hv _,if_neg hap]
  have h3:sQ vs.length (y:Int)=some y:=fy (by rw[hl];exact hy)
  obtain⟨vs',z',a1,a2,a3⟩:=ih (y::pre) (vs.set y (up us (up us y))) (k+1) (some (.val (.int (up us y)))) (λt ht=>by
    rcases a0t.mp ht with rfl|ht
    ·exact hyl
    ·exact λq=>hp t ht (a0c _ q)) (by rw[a1c];exact hl) (λt=>by
    rw[ez (by rw[hl];exact hy),hv t]
    by_cases q:t=y
    ·simp[q]
    ·simp[q]) ha n (by simp at hn;omega)
  refine⟨vs',z',a1,λt=>?_,?_⟩
  ·rw[a2 t]
   by_cases q:t=y<;>simp[q]
  ·rw[cz w.ne,show k+(y::l).length - 1=k+1+l.length - 1 by rw[a0o];omega]
   rw[cO]
   simp![cF,dR,h1,h2,h3,hne,nI,iB]
   exact a3
theorem xx {us:List Nat}(f:Frst us){x:Nat}(hx:x<us.length):fY (ai us) [.int x]=some (ai (hV "splits" us x),.tup [.int (hd us x),.int (dp us x:Nat)]):=by
 have hl:=lU f.fst hx
 have hm:=f.most
 obtain⟨vs,z,a1,a2,a3⟩:=FR f.fst (s1:=some (.val (.int x))) (c6 f.fst hx) [] us 0 none (by simp) rfl (by simp) hx 10000 (by omega)
 have e:vs=hV "splits" us x:=lr a1 λt ht=>by
  rw[a2 t,Be]
  simp only[a4i,false_or]
 subst e
 rw[a2z] at a3
 have a3:bP cF dR 10000 [some (.own (ai us)),some (.val (.int x)),some (.val (.int x)),some (.val (.int 0)),none]=_:=a3
 show nJ (gu [some (.own (ai us)),some (.val (.int x)),none,none,none]).res2=_
 simp![gu,a3];rfl
theorem EZ {us:List Nat}(f:Fst us){s1:Option Sl}:∀(m:Nat) {y:Nat} {l:List Nat},l.length<=m->Way us y l->∀(pre vs:List Nat) (k:Nat),(∀t∈pre,t∉l)->vs.length=us.length->(∀t,up vs t=if t∈pre then up us (up us t) else up us t)->y<us.length->∀n,l.length<n →
  ∃vs',vs'.length=us.length/\(∀t,up vs' t=if t∈pre\/t∈kN l then up us (up us t) else up us t)/\bP cJ dP n [some (.own (ai vs)),s1,some (.val (.int y)),some (.val (.int k))]=.nx [some (.own (ai vs')),s1,some (.val (.int (gb l))),some (.val (.int (k+l.length / 2:Nat)))]:=by
 intro m
 induction m with
 |zero=>intro y l hm w;have:=w.pos;omega
 |succ m ih=>
  intro y l hm w pre vs k hp hl hv hy n hn
  obtain⟨n,rfl⟩:∃k,n=k+1:=⟨n - 1,by have:=w.pos;omega⟩
  have hyp:y∉pre:=λq=>hp y q w.mem_self
  have h0:L2.c8 (ai vs) (y:Int)=some (nI (up us y)):=by rw[au (by rw[hl];exact hy),hv y,if_neg hyp]
  cases w with
  |head e=>
   refine⟨vs,hl,λt=>?_,?_⟩
   ·rw[hv t]
    by_cases ht:t=y
    ·subst ht;rw[e,e];simp
    ·simp[ht,kN]
   ·rw[cO]
    simp![cJ,h0,e];rfl
  | @step _ l ne w=>
   have nd:=(Way.step ne w).nodup f hy
   have hyl:y∉l:=(a1s.mp nd).1
   have ha:=f.bnd y hy
   have hap:up us y∉pre:=λq=>hp _ q (a0c _ w.mem_self)
   have hb:=f.bnd _ ha
   have hne:decide ((up us y:Int)=(y:Int))=false:=decide_eq_false (by omega)
   have h2:L2.c8 (ai vs) (up us y:Int)=some (nI (up us (up us y))):=by rw[au (by rw[hl];exact ha),hv _,if_neg hap]
   have h3:sQ vs.length (y:Int)=some y:=fy (by rw[hl];exact hy)
   have hs:(vs.set y (up us (up us y))).length=us.length:=by rw[a1c];exact hl
   have hu:∀t,up (vs.set y (up us (up us y))) t=if t∈y::pre then up us (up us t) else up us t:=λt=>by
    rw[ez (by rw[hl];exact hy),hv t]
    by_cases q:t=y
    ·simp[q]
    ·simp[q]
   have h4:L2.c8 (ai (vs.set y (up us (up us y)))) (y:Int)=some (nI (up us (up us y))):=by rw[au (by rw[hs];exact hy),hu y,if_pos a0e]
   obtain⟨l2,w2,e2,e3,e4,e5⟩:∃l2,Way us (up us (up us y)) l2/\l2.length / 2+1=(l.length+1) / 2/\gb l2=gb l/\(∀t,t∈l2->t∈l)/\l2.length<=l.length/\∀t,(t∈kN (y::l)↔t=y\/t∈kN l2)\/up us (up us t)=up us t:=by
    cases w with
    |head e=>exact⟨[up us y],by rw[e];exact .head e,(by show 1 / 2+1=(1+1) / 2;decide),rfl,λt h=>h,a0r _,λt=>by
      by_cases q:t=up us y
      ·subst q;exact .inr (by rw[e,e])
      ·exact .inl (by show t∈[y]↔t=y\/t∈[up us y];rw[a0f,a0f];exact⟨.inl,λh=>h.resolve_right q⟩)⟩
    | @step _ l2 ne2 w2=>exact⟨l2,w2,by simp only[a0o];omega,(cz w2.ne).symm,λt h=>a0c _ h,by simp,λt=>.inl (by simp[kN])⟩
   obtain⟨e5,e6⟩:=e5
   obtain⟨vs',a1,a2,a3⟩:=ih (y:=up us (up us y)) (l:=l2) (by simp at hm;omega) w2 (y::pre) _ (k+1) (λt ht=>by
    rcases a0t.mp ht with rfl|ht
    ·exact λq=>hyl (e4 _ q)
    ·exact λq=>hp t ht (a0c _ (e4 _ q))) hs hu hb n (by simp at hn;omega)
   refine⟨vs',a1,λt=>?_,?_⟩
   ·rw[a2 t]
    rcases e6 t with q|q
    ·simp only[a0t,q]
     by_cases h1:t=y<;>by_cases h2:t∈pre<;>by_cases h3:t∈kN l2<;>simp[h1,h2,h3]
    ·rw[q];simp
   ·rw[cz w.ne,←e3,show k+(y::l).length / 2=k+1+l2.length / 2 by rw[a0o];omega]
    rw[cO]
    simp![cJ,dP,h0,h2,h3,hne,nI,iB,h4]
    exact a3
theorem xZ {us:List Nat}(f:Frst us){x:Nat}(hx:x<us.length):fP (ai us) [.int x]=some (ai (hV "halves" us x),.tup [.int (hd us x),.int ((way us x).length / 2:Nat)]):=by
 have hl:=lU f.fst hx
 have hm:=f.most
 obtain⟨vs,a1,a2,a3⟩:=EZ f.fst (s1:=some (.val (.int x))) _ (a0r _) (c6 f.fst hx) [] us 0 (by simp) rfl (by simp) hx 10000 (by omega)
 have e:vs=hV "halves" us x:=lr a1 λt ht=>by
  rw[a2 t,Bm]
  simp only[a4i,false_or]
 subst e
 rw[a2z] at a3
 have a3:bP cJ dP 10000 [some (.own (ai us)),some (.val (.int x)),some (.val (.int x)),some (.val (.int 0))]=_:=a3
 show nJ (gD [some (.own (ai us)),some (.val (.int x)),none,none]).res2=_
 simp![gD,a3];rfl
theorem Br {us:List Nat}(f:Frst us){y:Str}(hy:y∈cg){x:Nat}(hx:x<us.length):jT [.tup (ai us),.str y,nI x]=some (.v (.tup [nI (hd us x),.tup (ai (hV y us x)),nI (stp y us x)])):=by
 have one:us.set x (up us (up us x))=hV "one" us x:=(lr a1c λt ht=>by
  rw[ez hx,Jc]
  by_cases q:t=x
  ·rw[if_pos q,if_pos q,q]
  ·rw[if_neg q,if_neg q])
 have non:us=hV "none" us x:=lr rfl λt ht=>nu_none.symm
 have key:∀(y:Str) (F:nu) (g:Str) (n:Nat),o6 [.inr "none",.inr "whole",.inr "halves",.inr "splits",.inr "one"] [.fn "find_none",.fn "find_whole",.fn "find_halves",.fn "find_splits",.fn "find_one"] (.inr y)=some (.fn g)->a4r g [("find_none",iy),("find_whole",gW),("find_halves",fP),("find_splits",fY),("find_one",i5)]=some F →
   F (ai us) [.int x]=some (ai (hV y us x),.tup [.int (hd us x),.int (n:Nat)])->jT [.tup (ai us),.str y,nI x]=some (.v (.tup [nI (hd us x),.tup (ai (hV y us x)),nI n])):=λy F g n h1 h2 h3=>by
  simp![wM,ld,h1,h2,h3,nI]
 rcases (show y = "none"\/y = "whole"\/y = "halves"\/y = "splits"\/y = "one" by simpa [cg] using hy) with rfl|rfl|rfl|rfl|rfl
 ·exact key _ _ _ _ rfl rfl (by rw[←non];exact (x0 f hx).2)
 ·exact key _ _ _ _ rfl rfl (A3 f hx)
 ·exact key _ _ _ _ rfl rfl (xZ f hx)
 ·exact key _ _ _ _ rfl rfl (xx f hx)
 ·exact key _ _ _ _ rfl rfl (by rw[←one];exact NV f hx)
end Dp
end
section
namespace Dp
open PySem L2 Fo Dp
theorem uo {t:FT}{f:FE}{ρ:aq}(g:PV->PV):∀{its:List PV},(∀p∈its,(t p ρ).bind (λρ2=>(f ρ2).bind RV.fr)=some (g p))->pP t n5 f ρ its=some (its.map g):=λ{its}=>by
 induction its with
 |nil=>intro _;rfl
 |cons p ps ih=>
  intro h
  have h1:=h p a0e
  have h2:=ih λq hq=>h q (a0c _ hq)
  obtain⟨ρ2,e1,h1⟩:=a0a.mp h1
  obtain⟨r,e2,h1⟩:=a0a.mp h1
  rw[pP,e1,h2]
  show (f ρ2).bind _=_
  rw[e2]
  show r.fr.bind _=_
  rw[h1];rfl
theorem zJ {t:FT}{f:FE}{ρ:aq}(g:Nat->PV){us:List Nat}(h:∀u∈us,(t (.int u) ρ).bind (λρ2=>(f ρ2).bind RV.fr)=some (g u)):pP t n5 f ρ (ai us)=some (us.map g):=by
 have e:(ai us).map (λp=>match p with|.int i=>g i.toNat|_=>.non)=us.map g:=by
  unfold ai;rw[a1u];exact a1v λu _=>rfl
 rw[←e]
 refine uo _ λp hp=>?_
 obtain⟨u,hu,rfl⟩:=qp hp
 exact h u hu
theorem jK {t:FT}{c:FB}{f:FE}{ρ:aq}(b:PV->Bool)(g:PV->PV):∀{its:List PV},(∀p∈its,∃ρ2,t p ρ=some ρ2/\c ρ2=some (b p)/\(b p=true->(f ρ2).bind RV.fr=some (g p)))->pP t c f ρ its=some ((its.filter b).map g):=λ{its}=>by
 induction its with
 |nil=>intro _;rfl
 |cons p ps ih=>
  intro h
  obtain⟨ρ2,e1,e2,h1⟩:=h p a0e
  have h2:=ih λq hq=>h q (a0c _ hq)
  rw[pP,e1]
  show (c ρ2).bind _=_
  rw[e2]
  cases hb:b p with
  |true=>
   obtain⟨r,e3,e4⟩:=a0a.mp (h1 hb)
   rw[a4s hb]
   show (f ρ2).bind _=_
   rw[e3]
   show r.fr.bind _=_
   rw[e4,h2];rfl
  |false=>
   rw[a3r (by rw[hb];exact a0y)]
   exact h2
theorem MO {α:Type}(l:List α):JY (l.map λ_=>PV.bl true)=some (l.map λ_=>true):=by
 induction l with
 |nil=>rfl
 |cons a l ih=>rw[a1f,JY,ih];rfl
theorem NL {α:Type}(l:List α):(l.map λ_=>true).all id=true:=by induction l<;>simp_all
theorem K1 {n:Nat}(h:n<=100000):nK [.int n]=some (ai (a0m n))/\uH [.int n]=some (.fz (.rng 0 n))/\iS [.rng 0 n]=some (.nw (ai (a0m n))):=by
 refine⟨?_,?_,?_⟩
 ·rw[Jz,Ia,decide_eq_true (by omega),decide_eq_true (by omega),a1e,FD];rfl
 ·rw[Gz,if_pos ⟨by omega,by omega⟩]
 ·rw[BH,if_pos ⟨rfl,by omega,by omega⟩,a1e,FD]
theorem QH {j:Int}(h0:0<=j)(h:j<=100000):nK [.int j]=some (ai (a0m j.toNat))/\uH [.int j]=some (.fz (.rng 0 j))/\iS [.rng 0 j]=some (.nw (ai (a0m j.toNat))):=by
 have:=K1 (n:=j.toNat) (by omega)
 rwa [a2i h0] at this
theorem K2 {n:Nat}(h:n<=100000):A7 [.int 1,.int n]=some (ai ((a0m (n - 1)).map (·+1))):=by
 have a:Ep 1=true:=by decide
 have b:Ep n=true:=by rw[Ia,decide_eq_true (by omega),decide_eq_true (by omega)];rfl
 rw[J5,a,b,show ((n:Int) - 1).toNat=n - 1 by omega,Pv];rfl
theorem zw (i:Int):gx [.int i]=some (.v (.bl true)):=by
 simp_all! [uj,ko]
theorem IK {i:Int}(h1:1<=i)(h2:i<=40):j3 [.int i]=some (.v (.bl true)):=by
 simp_all! [vy,lF,zw,decide_eq_true h1,decide_eq_true h2]
theorem zy (m x:Int):bN [.int m,.int x]=some (.v (.bl (decide (0<=x/\x<m)))):=by
 simp_all! [u5,km,zw]
 by_cases h:0<=x
 ·simp_all! [decide_eq_true h,h]
 ·simp_all! [decide_eq_false h,h,false_and]
theorem CJ {y:Str}(hy:y∈cg):gU [.str y]=some (.v .non):=by
 simp_all! [pG,ia,xl,decide_eq_true hy]
theorem nY {m x:Int}(h0:0<=x)(h1:x<m):cN [.int m,.int x]=some (.v .non):=by
 simp_all! [pp,ib,zy,decide_eq_true (show 0<=x/\x<m from⟨h0,h1⟩)]
theorem Ef {p:PV}{us:List Nat}(hp:p=.tup (ai us)\/p=.lst (ai us))(hm:us.length<=40)(hb:∀x,x<us.length->up us x<us.length){s1:Option Sl}{y:Nat}{l2:List Nat}(w:Way us y l2):∀(pre:List Nat),pre.length+l2.length<=us.length->y<us.length →
  ∀n,l2.length<n->bP hO i6 n [some (.val p),s1,some (.own (ai (pre++[y])))]=.nx [some (.val p),s1,some (.own (ai (pre++l2)))]:=by
 induction w with
 | @head y e=>
  intro pre hl hy n hn
  obtain⟨n,rfl⟩:∃k,n=k+1:=⟨n - 1,by simp at hn;omega⟩
  rw[cO]
  rcases hp with rfl|rfl <;>
   simp![hO,nk,au hy,e]
 | @step y l ne w ih=>
  intro pre hl hy n hn
  obtain⟨n,rfl⟩:∃k,n=k+1:=⟨n - 1,by simp at hn;omega⟩
  have ih:=ih (pre++[y]) (by simp at hl ⊢;omega) (hb y hy) n (by simp at hn;omega)
  rw[a2g,a2g] at ih
  have hne:decide ((up us y:Int)=(y:Int))=false:=decide_eq_false (by omega)
  have hpl:(pre++[y]).length<=100000:=by simp at hl ⊢;omega
  rw[cO]
  rcases hp with rfl|rfl <;>
   (simp![hO,i6,nk,au hy,hne,hpl,lQ,a2g];exact ih)
theorem Iu {p:PV}{us:List Nat}(hp:p=.tup (ai us)\/p=.lst (ai us))(f:Frst us){x:Nat}(hx:x<us.length):kY [p,.int x]=some (.n (ai (way us x))):=by
 have hl:=lU f.fst hx
 have hm:=f.most
 have e:=Ef hp f.most f.fst.bnd (s1:=some (.val (.int x))) (c6 f.fst hx) [] (by simpa using hl) hx 10000 (by omega)
 rw[a3b,a3b] at e
 have e':bP hO i6 10000 [some (.val p),some (.val (.int x)),some (.own [.int x])]=_:=e
 simp![xv,mR,e']
theorem LB {a b:PV}{c:Bool}:L2.c8 [a,b] (if c=true then 1 else 0)=some (if c=true then b else a):=by
 cases c<;>rfl
theorem uZ {s0 s1:Option Sl}(vs:List PV):∀(xs:List Nat) (st dg:Int) (z:Option Sl),(∀v∈vs,∃i:Int,v=.int i)->0<=st->st<1999999973->0<=dg->xs.length+vs.length<=1000 →
  ∃(xs':List Nat) (st' dg':Int) (z':Option Sl),xs'.length=xs.length+vs.length/\bn (gN 5) dJ vs [s0,s1,some (.own (ai xs)),some (.val (.int st)),some (.val (.int dg)),z]=.nx [s0,s1,some (.own (ai xs')),some (.val (.int st')),some (.val (.int dg')),z']:=by
 induction vs with
 |nil=>intro xs st dg z _ _ _ _ _;exact⟨xs,st,dg,z,rfl,rfl⟩
 |cons v vs ih=>
  intro xs st dg z hv h1 h2 h3 hl
  obtain⟨i,rfl⟩:=hv v a0e
  have m1:=a2v st (show (65521:Int)≠0 by decide)
  have cm1:(st.natAbs<2 ^ 64\/(st % 65521+40487).natAbs<2 ^ 64)=True:=eq_true (.inl (by omega))
  have cm2:((7:Int).natAbs<2 ^ 64\/i.natAbs<2 ^ 64)=True:=eq_true (.inl (by decide))
  have hlen:(ai xs).length<=100000:=by rw[fS];simp at hl;omega
  have b1:0<=(st * (st % 65521+40487)+7 * i+5) % 1999999973:=a2v _ (by decide)
  have b2:(st * (st % 65521+40487)+7 * i+5) % 1999999973<1999999973:=a3m _ (by decide)
  have d1:=a2v dg (show (1000000:Int)≠0 by decide)
  have hlen':xs.length<=100000:=by rwa [fS] at hlen
  rw[dI]
  simp![dJ,cm1,cm2,LB,hlen']
  generalize (st * (st % 65521+40487)+7 * i+5) % 1999999973=st' at b1 b2
  have hv':(if decide (0<dg)=true then PV.int (dg % 1000000) else PV.int st')=nI (if decide (0<dg)=true then dg % 1000000 else st').toNat:=by
   split<;>rw[LO (by omega)]
  rw[hv',nI,lQ]
  obtain⟨xs',st2,dg2,z2,e1,e2⟩:=ih (xs++[(if decide (0<dg)=true then dg % 1000000 else st').toNat]) st' (dg / 1000000) (some (.val (.int i))) (λu hu=>hv u (a0c _ hu)) b1 b2 (Int.ediv_nonneg h3 (by decide)) (by simp at hl ⊢;omega)
  exact⟨xs',st2,dg2,z2,by rw[e1,a0n];simp;omega,e2⟩
theorem ou (c n:Int)(h0:0<=n)(hn:n<=1000):∃xs:List Nat,xs.length=n.toNat/\bT [.int c,.int n]=some (.n (ai xs)):=by
 have b1:0<=(c % 1999999973+31) * 765432101 % 1999999973:=a2v _ (by decide)
 have b2:(c % 1999999973+31) * 765432101 % 1999999973<1999999973:=a3m _ (by decide)
 have cm:((c % 1999999973+31).natAbs<2 ^ 64\/(765432101:Int).natAbs<2 ^ 64)=True:=eq_true (.inr (by decide))
 have k1:=(QH h0 (show n<=100000 by omega)).1
 have ab:0<=(if c<0 then -c else c):=by split<;>omega
 have fin:∀dg:Int,0<=dg->∃(xs:List Nat) (st' dg':Int) (z':Option Sl),xs.length=n.toNat/\bn (gN 5) dJ (ai (a0m n.toNat)) [some (.val (.int c)),some (.val (.int n)),some (.own (ai [])),some (.val (.int ((c % 1999999973+31) * 765432101 % 1999999973))),some (.val (.int dg)),none]=.nx [some (.val (.int c)),some (.val (.int n)),some (.own (ai xs)),some (.val (.int st')),some (.val (.int dg')),z']:=λdg hd=>by
  obtain⟨xs,st',dg',z',e1,e2⟩:=uZ (s0:=some (.val (.int c))) (s1:=some (.val (.int n))) (rG 0 n.toNat) [] _ dg none (λv hv=>by obtain⟨i,e,_⟩:=J0 hv;exact⟨i,e⟩) b1 b2 hd (by rw[yP];simp;omega)
  rw[FD] at e2
  exact⟨xs,st',dg',z',by rw[e1,yP];simp,e2⟩
 have hp:(10:Int) ^ 18=1000000000000000000:=by decide
 by_cases hc:c<0
 ·obtain⟨xs,st',dg',z',e1,e2⟩:=fin _ ab
  rw[qG] at e2
  refine⟨xs,e1,?_⟩
  simp![gA,cY,cm,k1,decide_eq_true hc,e2]
 ·by_cases hd:1000000000000000000<=c
  ·obtain⟨xs,st',dg',z',e1,e2⟩:=fin _ ab
   rw[qG] at e2
   refine⟨xs,e1,?_⟩
   simp![gA,cY,cm,k1,decide_eq_false hc,show (0:Int)<=18/\(18:Int)<=1000000/\(10:Int).natAbs<2 ^ 64 from by decide,decide_eq_true hd,e2]
  ·obtain⟨xs,st',dg',z',e1,e2⟩:=fin 0 (by decide)
   rw[qG] at e2
   refine⟨xs,e1,?_⟩
   simp![gA,cY,cm,k1,decide_eq_false hc,show (0:Int)<=18/\(18:Int)<=1000000/\(10:Int).natAbs<2 ^ 64 from by decide,decide_eq_false hd,e2]
theorem AQ {s0 s1:Option Sl}(ns:List Int):∀(st:Int) (z:Option Sl),∃(st':Int) (z':Option Sl),bn (gN 3) gd (iL ns) [s0,s1,some (.val (.int st)),z]=.nx [s0,s1,some (.val (.int st')),z']:=by
 induction ns with
 |nil=>intro st z;exact⟨st,z,rfl⟩
 |cons n ns ih=>
  intro st z
  have cm:(st.natAbs<2 ^ 64\/(69621:Int).natAbs<2 ^ 64)=True:=eq_true (.inr (by decide))
  show ∃st' z',bn (gN 3) gd (.int n::iL ns) _=_
  rw[dI]
  simp![gd,cm]
  exact ih _ _
theorem yc (ns:List Int)(k:Int)(h0:0<=k)(hk:k<=1000):∃i:Int,cZ [.src (iL ns),.int k]=some (.v (.int i)):=by
 by_cases hl:k<ns.length
 ·have hk':k.toNat<ns.length:=by omega
  have e:L2.c8 (iL ns) k=some (.int ns[k.toNat]):=by
   have:=gF (ps:=iL ns) (x:=k.toNat) (p:=.int ns[k.toNat]) (by unfold iL;rw[a0s,a0h hk'];rfl)
   rwa [a2i h0] at this
  exact⟨ns[k.toNat],by simp![mJ,gR,Db,decide_eq_true hl,e]⟩
 ·have c1:(k.natAbs<2 ^ 64)=True:=eq_true (by omega)
  have c2:((48271:Int).natAbs<2 ^ 64)=True:=eq_true (by decide)
  have c3:((7:Int).natAbs<2 ^ 64)=True:=eq_true (by decide)
  obtain⟨st',z',e⟩:=AQ (s0:=some (.val (.src (iL ns)))) (s1:=some (.val (.int k))) (mB ns none (some 3)) (48271 * (k * k+7 * k+11) % 2147483647) none
  refine⟨st',?_⟩
  simp![mJ,gR,Db,decide_eq_false hl,c1,c2,c3,true_or,Kq,e]
theorem F1 (x:Nat):∃n:Nat,1<=n/\n<=40/\jl [.int x]=some (.v (.int n)):=by
 have a1:=a2v ((x:Int) / 8) (show (12:Int)≠0 by decide)
 have a2:=a3m ((x:Int) / 8) (show (0:Int)<12 by decide)
 have a3:=a2v ((x:Int) / 8) (show (40:Int)≠0 by decide)
 have a4:=a3m ((x:Int) / 8) (show (0:Int)<40 by decide)
 by_cases h:(x:Int) % 8=3
 ·refine⟨(1+(x:Int) / 8 % 40).toNat,by omega,by omega,?_⟩
  simp![md,gI,LB,decide_eq_true h]
  rw[a2i (by omega)]
 ·refine⟨(1+(x:Int) / 8 % 12).toNat,by omega,by omega,?_⟩
  simp![md,gI,LB,decide_eq_false h]
  rw[a2i (by omega)]
end Dp
end
section
namespace Pt
open L2 Fo
noncomputable def cl (n:Nat)(c:Nat->Nat)(x:Nat):List Nat:=(a0m n).filter λy=>decide (c y=c x)
theorem Dm {n:Nat}{c c':Nat->Nat}{x x':Nat}(h:∀y,y<n->(c y=c x↔c' y=c' x')):cl n c x=cl n c' x':=
 a4t λy hy=>by rw[decide_eq_decide];exact h y (a1b.mp hy)
noncomputable def jn (c:Nat->Nat)(x y:Nat):Nat->Nat:=λz=>if c z=c x then c y else c z
theorem yG {c:Nat->Nat}{x y:Nat}(h:c x=c y):jn c x y=c:=funext λz=>by
 unfold jn;split
 ·next e=>rw[e,h]
 ·rfl
noncomputable def dW (ps:List (Nat×Nat))(c:Nat->Nat):Nat->Nat:=ps.foldl (λc p=>jn c p.1 p.2) c
theorem nj (p:Nat×Nat)(ps:List (Nat×Nat))(c:Nat->Nat):dW (p::ps) c=dW ps (jn c p.1 p.2):=rfl
theorem rb:∀(ps:List (Nat×Nat)) (c:Nat->Nat) (a b:Nat),c a=c b->dW ps c a=dW ps c b
 |[],_,_,_,h=>h
 |p::ps,c,a,b,h=>by
  rw[nj]
  exact rb ps _ a b (by unfold jn;rw[h])
theorem jL:∀(ps:List (Nat×Nat)) (c:Nat->Nat) (a b:Nat),(a,b)∈ps->dW ps c a=dW ps c b
 |p::ps,c,a,b,h=>by
  rw[nj]
  rcases a0t.mp h with e|h
  ·cases e
   refine rb ps _ a b ?_
   unfold jn
   rw[if_pos rfl]
   split<;>rfl
  ·exact jL ps _ a b h
theorem lh {f:Nat->Nat}:∀(ps:List (Nat×Nat)) (c:Nat->Nat),(∀p∈ps,f p.1=f p.2)->(∀a b,c a=c b->f a=f b)->∀a b,dW ps c a=dW ps c b->f a=f b
 |[],_,_,h=>h
 |p::ps,c,hp,h=>by
  rw[nj]
  have e:=hp p a0e
  refine lh ps _ (λq hq=>hp q (a0c _ hq)) λa b z=>?_
  unfold jn at z
  by_cases h1:c a=c p.1
  ·rw[if_pos h1] at z
   by_cases h2:c b=c p.1
   ·exact h a b (h1.trans h2.symm)
   ·rw[if_neg h2] at z
    rw[h a p.1 h1,e];exact h _ _ z
  ·rw[if_neg h1] at z
   by_cases h2:c b=c p.1
   ·rw[if_pos h2] at z
    rw[h b p.1 h2,e];exact h _ _ z
   ·rw[if_neg h2] at z;exact h _ _ z
end Pt
end
section
namespace Dp
open PySem PySem.Spec L2 Fo
noncomputable abbrev Sg:=Nat×Nat×PV
noncomputable def jG (t:Sg):PV:=.tup [.int (t.1:Nat),.int (t.2.1:Nat),t.2.2]
inductive Trk (S:List Sg) (x:Nat):Nat->List PV->List Nat->Prop where
 |nil:Trk S x x [] [x]
 |snoc {a e:Nat} {l:PV} {r:List PV} {vs:List Nat}:Trk S x a r vs->(a,e,l)∈S->Trk S x e (r++[l]) (vs++[e])
theorem Trk.mono {S S':List Sg}{x e:Nat}{r:List PV}{vs:List Nat}(h:∀t∈S,t∈S')(t:Trk S x e r vs):Trk S' x e r vs:=by
 induction t with
 |nil=>exact .nil
 |snoc _ q ih=>exact .snoc ih (h _ q)
theorem Trk.len {S:List Sg}{x e:Nat}{r:List PV}{vs:List Nat}(t:Trk S x e r vs):vs.length=r.length+1:=by
 induction t with
 |nil=>rfl
 |snoc _ _ ih=>rw[a0n,a0n,ih];rfl
noncomputable abbrev vK:=List (Nat×List PV)
noncomputable def rK (K:vK):List eX:=K.map λt=>Sum.inl ((t.1:Nat):Int)
noncomputable def rP (K:vK):List PV:=K.map λt=>.tup t.2
noncomputable def rD (K:vK):PV:=.dct (rK K) (rP K)
theorem wO (y:Nat):∀K:vK,o6 (rK K) (rP K) (.inl ((y:Nat):Int))=(K.find? λt=>decide (t.1=y)).map λt=>.tup t.2
 |[]=>rfl
 |t::K=>by
  show (if (Sum.inl ((t.1:Nat):Int):eX)=.inl (y:Int) then some (PV.tup t.2) else o6 (rK K) (rP K) _)=_
  rw[List.find?_cons,wO y K]
  by_cases h:t.1=y
  ·rw[if_pos (by rw[h]),decide_eq_true h];rfl
  ·rw[if_neg (λq=>h (by have:=Sum.inl.inj q;omega)),decide_eq_false h]
theorem IM (y:Nat)(K:vK):(rK K).any (λj=>decide (j=(Sum.inl ((y:Nat):Int):eX)))=decide (y∈K.map (·.1)):=by
 unfold rK
 rw[a5d,a3x,List.any_eq_true,decide_eq_true_iff,a1k]
 constructor
 ·rintro⟨t,ht,e⟩
  have:=Sum.inl.inj (of_decide_eq_true e)
  exact⟨t,ht,by omega⟩
 ·rintro⟨t,ht,rfl⟩
  exact⟨t,ht,decide_eq_true rfl⟩
theorem Nw {y:Nat}{K:vK}{r:List PV}(h:y∉K.map (·.1)):pe (rK K) (.inl ((y:Nat):Int))=rK (K++[(y,r)])/\o8 (rK K) (rP K) (.inl ((y:Nat):Int)) (.tup r)=rP (K++[(y,r)]):=by
 unfold pe o8
 rw[IM,decide_eq_false h,if_neg a0y,if_neg a0y]
 unfold rK rP
 rw[a0z,a0z]
 exact⟨rfl,rfl⟩
theorem qd {y:Nat}{K:vK}:(K.find? λt=>decide (t.1=y)).isSome=decide (y∈K.map (·.1)):=by
 rw[a3x,List.find?_isSome,decide_eq_true_iff,a1k]
 constructor
 ·rintro⟨t,ht,e⟩;exact⟨t,ht,of_decide_eq_true e⟩
 ·rintro⟨t,ht,rfl⟩;exact⟨t,ht,decide_eq_true rfl⟩
theorem oe {y:Nat}{K:vK}(h:y∈K.map (·.1)):∃r,(K.find? λt=>decide (t.1=y))=some (y,r)/\(y,r)∈K:=by
 have:=qd (y:=y) (K:=K)
 rw[decide_eq_true h,a2a] at this
 obtain⟨⟨a,r⟩,e⟩:=this
 have h1:=List.find?_some e
 have h2:=List.mem_of_find?_eq_some e
 have:a=y:=of_decide_eq_true h1
 subst this
 exact⟨r,e,h2⟩
structure Rds (n:Nat)(S:List Sg)(x:Nat)(K:vK):Prop where
 nd:(K.map (·.1)).Nodup
 lt:∀t∈K,t.1<n
 tr:∀t∈K,∃vs,Trk S x t.1 t.2 vs/\vs.Nodup/\∀v∈vs,v∈K.map (·.1)
 st:∃K',K=(x,[])::K'
theorem wv:∀{n:Nat} {l:List Nat},l.Nodup->(∀v∈l,v<n)->l.length<=n:=λ{n l} nd h=>by
 have:=List.Nodup.length_le_of_subset nd (l₂:=a0m n) (λv hv=>a1b.mpr (h v hv))
 rwa [a0v] at this
theorem Rds.len {n:Nat}{S:List Sg}{x:Nat}{K:vK}(R:Rds n S x K):K.length<=n:=by
 have:=wv R.nd (λv hv=>by obtain⟨t,ht,rfl⟩:=a1k.mp hv;exact R.lt t ht)
 rwa [a0j] at this
theorem Rds.rlen {n:Nat}{S:List Sg}{x:Nat}{K:vK}(R:Rds n S x K){t:Nat×List PV}(ht:t∈K):t.2.length<n:=by
 obtain⟨vs,tr,nd,sub⟩:=R.tr t ht
 have:=wv nd (λv hv=>by obtain⟨u,hu,rfl⟩:=a1k.mp (sub v hv);exact R.lt u hu)
 have:=tr.len
 omega
theorem Rds.add {n:Nat}{S:List Sg}{x a e:Nat}{l:PV}{r:List PV}{K:vK}(R:Rds n S x K)(ha:(a,r)∈K)(hs:(a,e,l)∈S)(he:e<n)(hn:e∉K.map (·.1)):Rds n S x (K++[(e,r++[l])]):=by
 refine⟨?_,λt ht=>?_,λt ht=>?_,?_⟩
 ·rw[a0z,a1q]
  refine⟨R.nd,by simp,λu hu v hv=>?_⟩
  rw[show v=e by simpa using hv]
  exact λq=>hn (q▸hu)
 ·rcases a0u.mp ht with ht|ht
  ·exact R.lt t ht
  ·rw[a0f.mp ht];exact he
 ·have sub:∀v,v∈K.map (·.1)->v∈(K++[(e,r++[l])]).map (·.1):=λv hv=>by rw[a0z];exact a0w _ hv
  rcases a0u.mp ht with ht|ht
  ·obtain⟨vs,h1,h2,h3⟩:=R.tr t ht
   exact⟨vs,h1,h2,λv hv=>sub v (h3 v hv)⟩
  ·rw[a0f.mp ht]
   obtain⟨vs,h1,h2,h3⟩:=R.tr _ ha
   refine⟨vs++[e],.snoc h1 hs,?_,λv hv=>?_⟩
   ·rw[a1q]
    refine⟨h2,by simp,λu hu v hv=>?_⟩
    rw[show v=e by simpa using hv]
    exact λq=>hn (q▸h3 u hu)
   ·rcases a0u.mp hv with hv|hv
    ·exact sub v (h3 v hv)
    ·rw[a0f.mp hv,a0z];exact a0p _ (a0f.mpr rfl)
 ·obtain⟨K',e'⟩:=R.st
  exact⟨K'++[(e,r++[l])],by rw[e'];rfl⟩
noncomputable def Du (S:List Sg)(K:vK)(a:Nat):Prop:=∀e l,(a,e,l)∈S->e∈K.map (·.1)
theorem lS {n:Nat}(hn:n<=40){S0:List Sg}{x:Nat}{s1:Option Sl}{a:Nat}(hS:∀t∈S0,t.1<n/\t.2.1<n):∀(S pre:List Sg) (K:vK) (W:List Nat) (z5 z6 z7:Option Sl),S0=pre++S->Rds n S0 x K->a∈K.map (·.1)->(∀w∈W,w∈K.map (·.1))->W.length<=K.length →
  (∀e l,(a,e,l)∈pre->e∈K.map (·.1)) →
  ∃K' W' z5' z6' z7',bn (ff 3 (gC (gN 5) (gC (gN 6) (gC (gN 7) g0)))) dE (S.map jG) [some (.val (.lst (S0.map jG))),s1,some (.dic (rK K) (rP K)),some (.own (ai W)),some (.val (.int (a:Nat))),z5,z6,z7] =
   .nx [some (.val (.lst (S0.map jG))),s1,some (.dic (rK K') (rP K')),some (.own (ai W')),some (.val (.int (a:Nat))),z5',z6',z7']/\Rds n S0 x K'/\(∀v,v∈K.map (·.1)->v∈K'.map (·.1))/\(∀w∈W',w∈K'.map (·.1))/\Du S0 K' a/\K'.length+W.length=K.length+W'.length/\(∀v,v∈K'.map (·.1)->v∈K.map (·.1)\/v∈W')/\(∀w∈W,w∈W')
 |[],pre,K,W,z5,z6,z7,e0,R,ha,hw,hl,hp=>⟨K,W,z5,z6,z7,by rw[a3h,ud],R,λ_ h=>h,hw,(λe l h=>hp e l (by rw[e0,a1x] at h;exact h)),rfl,λ_ h=>.inl h,λ_ h=>h⟩
 |(b,e,l)::S,pre,K,W,z5,z6,z7,e0,R,ha,hw,hl,hp=>by
  have hm:(b,e,l)∈S0:=by rw[e0];exact a0p _ a0e
  obtain⟨hb,he⟩:=hS _ hm
  have e1:S0=(pre++[(b,e,l)])++S:=by rw[e0,a2g];rfl
  have d1:decide ((b:Int)=(a:Int))=decide (b=a):=decide_eq_decide.mpr (by omega)
  have dA:oo (.int (e:Nat)) (.dct (rK K) (rP K))=some (.fz (.bl (!decide (e∈K.map (·.1))))):=by
   rw[ax,wO,a5u,qd]
  have hKl:=R.len
  by_cases hba:b=a
  ·by_cases hin:e∈K.map (·.1)
   ·obtain⟨K',W',z5',z6',z7',eq,r⟩:=lS hn hS S (pre++[(b,e,l)]) K W (some (.val (.int (b:Nat)))) (some (.val (.int (e:Nat)))) (some (.val l)) e1 R ha hw hl (λe' l' h=>by
     rcases a0u.mp h with h|h
     ·exact hp e' l' h
     ·have:=a0f.mp h;cases this;exact hin)
    refine⟨K',W',z5',z6',z7',?_,r⟩
    rw[a1f,dI]
    simp![jG,dE,bF,aC,bz,aD,fM,aA,ay,aZ,be,aG,cu,bB,bC,cr,ck,cv,cw,bw,aE,bx,aB,cj,bE,aJ,aH,bh,aQ,aU,bf,ax,fL,bH,bc,bg,bA,az,aW,bZ,aN,cq,br,bD,aF,bG,aX,aY,aT,d1,decide_eq_true hba,dA,decide_eq_true hin]
    exact eq
   ·obtain⟨q,fq,mq⟩:=oe ha
    have R':=R.add mq (hba▸hm) he hin
    have hq:q.length<n:=R.rlen mq
    obtain⟨p1,p2⟩:=Nw (r:=q++[l]) hin
    have sub:∀v,v∈K.map (·.1)->v∈(K++[(e,q++[l])]).map (·.1):=λv hv=>by rw[a0z];exact a0w _ hv
    have hme:e∈(K++[(e,q++[l])]).map (·.1):=by rw[a0z];exact a0p _ (a0f.mpr rfl)
    obtain⟨K',W',z5',z6',z7',eq,r1,r2,r3,r4,r5,r6,r7⟩:=lS hn hS S (pre++[(b,e,l)]) (K++[(e,q++[l])]) (W++[e]) (some (.val (.int (b:Nat)))) (some (.val (.int (e:Nat)))) (some (.val l)) e1 R' (sub a ha) (λw hw'=>by
     rcases a0u.mp hw' with h|h
     ·exact sub w (hw w h)
     ·rw[a0f.mp h];exact hme) (by rw[a0n,a0n];simp only[a1h];omega) (λe' l' h=>by
     rcases a0u.mp h with h|h
     ·exact sub _ (hp e' l' h)
     ·have:=a0f.mp h;cases this;exact hme)
    refine⟨K',W',z5',z6',z7',?_,r1,λv hv=>r2 v (sub v hv),r3,r4,?_,λv hv=>?_,λw hw'=>r7 w (a0w _ hw')⟩
    ·rw[a1f,dI]
     have i1:o6 (rK K) (rP K) (.inl ((a:Nat):Int))=some (.tup q):=by rw[wO,fq];rfl
     have kl:(rK K).length<=100000:=by unfold rK;rw[a0j];omega
     have ql:q.length<=99999:=by omega
     have nl:W.length<=100000:=by omega
     simp![jG,dE,bF,aC,bz,aD,fM,aA,ay,aZ,be,aG,cu,bB,bC,cr,ck,cv,cw,bw,aE,bx,aB,cj,bE,aJ,aH,bh,aQ,aU,bf,ax,fL,bH,bc,bg,bA,az,aW,bZ,aN,cq,br,bD,aF,bG,aX,aY,aT,d1,decide_eq_true hba,dA,decide_eq_false hin,i1,if_pos kl,if_pos ql,if_pos nl,p1,p2,lQ]
     exact eq
    ·rw[a0n,a0n] at r5
     simp only[a1h] at r5
     omega
    ·rcases r6 v hv with h|h
     ·rw[a0z] at h
      rcases a0u.mp h with h|h
      ·exact .inl h
      ·rw[show v=e by simpa using h];exact .inr (r7 e (a0p _ (a0f.mpr rfl)))
     ·exact .inr h
  ·obtain⟨K',W',z5',z6',z7',eq,r⟩:=lS hn hS S (pre++[(b,e,l)]) K W (some (.val (.int (b:Nat)))) (some (.val (.int (e:Nat)))) (some (.val l)) e1 R ha hw hl (λe' l' h=>by
    rcases a0u.mp h with h|h
    ·exact hp e' l' h
    ·have:=a0f.mp h;cases this;exact absurd rfl hba)
   refine⟨K',W',z5',z6',z7',?_,r⟩
   rw[a1f,dI]
   simp![jG,dE,bF,aC,bz,aD,fM,aA,ay,aZ,be,aG,cu,bB,bC,cr,ck,cv,cw,bw,aE,bx,aB,cj,bE,aJ,aH,bh,aQ,aU,bf,ax,fL,bH,bc,bg,bA,az,aW,bZ,aN,cq,br,bD,aF,bG,aX,aY,aT,d1,decide_eq_false hba]
   exact eq
theorem Oh {w:Nat}{W:List Nat}{ρ1:aq}:rV (.own (ai (w::W))) [.int 0]=some (.own (ai W),.int (w:Nat)):=Eq.trans rfl rfl
theorem pd {n:Nat}(hn:n<=40){S:List Sg}{x:Nat}{s1:Option Sl}(hS:∀t∈S,t.1<n/\t.2.1<n):∀(m k:Nat) (K:vK) (W:List Nat) (z4 z5 z6 z7:Option Sl),(n - K.length)+W.length<=m->m<k->Rds n S x K->(∀w∈W,w∈K.map (·.1))->W.length<=K.length->(∀a∈K.map (·.1),a∉W->Du S K a) →
  ∃K' z4' z5' z6' z7',bP cK cL k [some (.val (.lst (S.map jG))),s1,some (.dic (rK K) (rP K)),some (.own (ai W)),z4,z5,z6,z7] =
   .nx [some (.val (.lst (S.map jG))),s1,some (.dic (rK K') (rP K')),some (.own []),z4',z5',z6',z7']/\Rds n S x K'/\∀a∈K'.map (·.1),Du S K' a
 |m,0,K,W,_,_,_,_,_,hk,_,_,_,_=>absurd hk (a2p _)
 |m,k+1,K,[],z4,z5,z6,z7,hm,hk,R,hw,hl,hc=>⟨K,z4,z5,z6,z7,by
   rw[cO]
   simp![cK,bF,aC,bz,aD,fM,aA,ay,aZ,be,aG,cu,bB,bC,cr,ck,cv,cw,bw,aE,bx,aB,cj,bE,aJ,aH,bh,aQ,aU,bf,ax,fL,bH,bc,bg,bA,az,aW,bZ,aN,cq,br,bD,aF,bG,aX,aY,aT,ai,a3h],R,λa ha=>hc a ha (a4i)⟩
 |0,k+1,K,w::W,_,_,_,_,hm,_,_,_,_,_=>by rw[a0o] at hm;omega
 |m+1,k+1,K,w::W,z4,z5,z6,z7,hm,hk,R,hw,hl,hc=>by
  have hl':W.length<=K.length:=by rw[a0o] at hl;omega
  obtain⟨K',W',z5',z6',z7',eq,r1,r2,r3,r4,r5,r6,r7⟩:=lS hn (s1:=s1) hS S [] K W z5 z6 z7 rfl R (hw w a0e) (λv hv=>hw v (a0c _ hv)) hl' (λ_ _ h=>by cases h)
  have hK':=r1.len
  obtain⟨K2,y4,y5,y6,y7,e2,q1,q2⟩:=pd hn (s1:=s1) hS m k K' W' (some (.val (.int (w:Nat)))) z5' z6' z7' (by have:=R.len;rw[a0o] at hm;omega) (by omega) r1 r3 (by omega) (λa ha hn'=>by
   by_cases haw:a=w
   ·subst haw;exact r4
   ·rcases r6 a ha with h|h
    ·have:a∉w::W:=λh'=>(a0t.mp h').elim haw λh'=>hn' (r7 a h')
     exact λe l he=>r2 e (hc a h this e l he)
    ·exact absurd h hn')
  refine⟨K2,y4,y5,y6,y7,?_,q1,q2⟩
  rw[cO]
  have c0:cK [some (.val (.lst (S.map jG))),s1,some (.dic (rK K) (rP K)),some (.own (ai (w::W))),z4,z5,z6,z7]=some true:=by
   simp![cK,bF,aC,bz,aD,fM,aA,ay,aZ,be,aG,cu,bB,bC,cr,ck,cv,cw,bw,aE,bx,aB,cj,bE,aJ,aH,bh,aQ,aU,bf,ax,fL,bH,bc,bg,bA,az,aW,bZ,aN,cq,br,bD,aF,bG,aX,aY,aT,ai,a1f]
  rw[c0]
  show Oq (cL _) _ _ _=_
  have b0:cL [some (.val (.lst (S.map jG))),s1,some (.dic (rK K) (rP K)),some (.own (ai (w::W))),z4,z5,z6,z7]=.nx [some (.val (.lst (S.map jG))),s1,some (.dic (rK K') (rP K')),some (.own (ai W')),some (.val (.int (w:Nat))),z5',z6',z7']:=by
   simp![cL,bZ,aN,Oh (ρ1:=[]),eq]
  rw[b0,uJ]
  exact e2
theorem uY {n:Nat}(hn:n<=40){S:List Sg}{x:Nat}(hx:x<n)(hS:∀t∈S,t.1<n/\t.2.1<n):∃K,cM [.lst (S.map jG),.int (x:Nat)]=some (.v (rD K))/\Rds n S x K/\∀a∈K.map (·.1),Du S K a:=by
 have R0:Rds n S x [(x,[])]:=⟨by simp,λt ht=>by rw[a0f.mp ht];exact hx,λt ht=>by rw[a0f.mp ht];exact⟨[x],.nil,by simp,λv hv=>by simpa using hv⟩,⟨[],rfl⟩⟩
 obtain⟨K,z4,z5,z6,z7,e,R,c⟩:=pd hn (s1:=some (.val (.int (x:Nat)))) hS n 10000 [(x,[])] [x] none none none none (by simp;omega) (by omega) R0 (λw hw=>by simpa using hw) (by simp) (λa ha hn'=>by
  have:a=x:=by simpa using ha
  exact absurd (by rw[this];exact a0f.mpr rfl) hn')
 refine⟨K,?_,R,c⟩
 have e':bP cK cL 10000 [some (.val (.lst (S.map jG))),some (.val (.int (x:Nat))),some (.dic [.inl ((x:Nat):Int)] [.tup []]),some (.own [.int (x:Nat)]),none,none,none,none]=_:=e
 simp![uk,ki,dE,cK,cL,bF,aC,bz,aD,fM,aA,ay,aZ,be,aG,cu,bB,bC,cr,ck,cv,cw,bw,aE,bx,aB,cj,bE,aJ,aH,bh,aQ,aU,bf,ax,fL,bH,bc,bg,bA,az,aW,bZ,aN,cq,br,bD,aF,bG,aX,aY,aT,e',rD,xf,rf]
inductive Rch (S:List Sg) (x:Nat):Nat->Prop where
 |refl:Rch S x x
 |step {a e:Nat} {l:PV}:Rch S x a->(a,e,l)∈S->Rch S x e
theorem Trk.rch {S:List Sg}{x e:Nat}{r:List PV}{vs:List Nat}(t:Trk S x e r vs):Rch S x e:=by
 induction t with
 |nil=>exact .refl
 |snoc _ q ih=>exact .step ih q
theorem Rds.keys {n:Nat}{S:List Sg}{x:Nat}{K:vK}(R:Rds n S x K)(c:∀a∈K.map (·.1),Du S K a)(e:Nat):e∈K.map (·.1)↔Rch S x e:=by
 constructor
 ·intro h
  obtain⟨t,ht,rfl⟩:=a1k.mp h
  obtain⟨vs,tr,_⟩:=R.tr t ht
  exact tr.rch
 ·intro h
  induction h with
  |refl=>obtain⟨K',e⟩:=R.st;rw[e];exact a0e
  |step _ q ih=>exact c _ ih _ _ q
theorem yB {y:Nat}{K:vK}:k6 (rD K) [.int (y:Nat)]=some (.fz (((K.find? λt=>decide (t.1=y)).map λt=>PV.tup t.2).getD .non)):=by
 rw[rD,br,aU,a5k,wO]
end Dp
end
section
namespace Fo
open PySem L2
theorem s5 {y:Str}(hy:y∈cg):y = "none"\/y = "whole"\/y = "halves"\/y = "splits"\/y = "one":=by simpa [cg] using hy
theorem n1:(("halves" : Str) = "whole")=False:=eq_false (by decide)
theorem n2:(("halves" : Str) = "splits")=False:=eq_false (by decide)
theorem n3:(("splits" : Str) = "whole")=False:=eq_false (by decide)
theorem n7:(("none" : Str) = "whole")=False:=eq_false (by decide)
theorem n8:(("none" : Str) = "splits")=False:=eq_false (by decide)
theorem n9:(("none" : Str) = "halves")=False:=eq_false (by decide)
theorem QA:(("none" : Str) = "one")=False:=eq_false (by decide)
end Fo
end
section
namespace Dp
open PySem L2 Fo Dp Lo
theorem El {us:List Nat}(f:Frst us){x:Nat}(hx:x<us.length):L2.c8 (ai (way us x)) (-1)=some (.int (hd us x:Nat)):=Bb (c6 f.fst hx).ne
end Dp
end
section
namespace Fo
open PySem L2
theorem Ew {l:List Nat}{n:Nat}(nd:l.Nodup)(h:∀x∈l,x<n):l.length<=n:=by
 have p:l.Perm ((a0m n).filter λx=>decide (x∈l)):=(List.perm_ext_iff_of_nodup nd (List.nodup_range.filter _)).mpr λx=>by
  rw[a2s,a1b,decide_eq_true_eq]
  exact⟨λq=>⟨h x q,q⟩,λq=>q.2⟩
 rw[p.length_eq]
 have:=a4z (λx=>decide (x∈l)) (a0m n)
 rwa [a0v] at this
theorem J1 {us:List Nat}(f:Fst us){x t:Nat}(hx:x<us.length)(h:t∈way us x):hd us t=hd us x:=by
 obtain⟨l2,w2,e,_,_⟩:=(c6 f hx).later t h
 have:=oJ f (kI f hx h) w2
 unfold hd
 rw[this,e]
end Fo
end
section
namespace Fo
open PySem L2
theorem oN {us:List Nat}(f:Frst us){u t:Nat}(hu:u<us.length)(ht:t<us.length)(eu:up us u=u)(et:up us t=t)(ne:t≠u):Frst (us.set u t):=by
 have hl:(us.set u t).length=us.length:=a1c
 refine⟨by rw[hl];exact f.one,by rw[hl];exact f.most,⟨λx hx=>?_,λx=>if hd us x=u then dp us x+1 else dp us x,λx hx=>?_,λx hx hn=>?_⟩⟩
 ·rw[hl] at hx ⊢
  rw[ez hu]
  split
  ·exact ht
  ·exact f.fst.bnd x hx
 ·rw[hl] at hx ⊢
  have h1:=lU f.fst hx
  have h2:=(c6 f.fst hx).pos
  show (if hd us x=u then dp us x+1 else dp us x)<us.length
  unfold dp
  split
  ·next e=>
   have nm:t∉way us x:=λq=>ne (by rw[←jg f.fst ht et,J1 f.fst hx q,e])
   have:(t::way us x).length<=us.length:=Ew (a1s.mpr ⟨nm,(c6 f.fst hx).nodup f.fst hx⟩) λz hz=>by
    rcases a0t.mp hz with rfl|hz
    ·exact ht
    ·exact kI f.fst hx hz
   rw[a0o] at this
   omega
  ·omega
 ·rw[hl] at hx
  rw[ez hu] at hn ⊢
  show (if hd us (if x=u then t else up us x)=u then _ else _)<(if hd us x=u then dp us x+1 else dp us x)
  by_cases e:x=u
  ·subst e
   rw[if_pos rfl,jg f.fst ht et,if_neg ne,jg f.fst hx eu,if_pos rfl]
   have:dp us t=0:=by unfold dp;rw[v0 f.fst ht et];rfl
   omega
  ·rw[if_neg e] at hn ⊢
   rw[Ab f.fst hx]
   have:dp us (up us x)+1=dp us x:=by
    have h2:=(c6 f.fst (f.fst.bnd x hx)).pos
    unfold dp
    rw[wQ f.fst hx hn,a0o]
    omega
   split<;>omega
end Fo
namespace Dp
open PySem L2 Fo Dp
theorem J9 {x:PV}{ps:List PV}:wz x (.ktu ps)=if bM x&&aK ps&&decide (dF ps<=50) then some (.fz (.bl (pin x ps))) else none:=Eq.trans rfl rfl
theorem KD {lo j:Int}:sE [.rng lo j]=if lo=0/\0<=j/\j<=1000000 then some (.fz (.tup (rG 0 j.toNat))) else none:=Eq.trans rfl rfl
noncomputable def GD:List Str:=["size","rank","told","names"]
theorem j4 {j:Str}(h:j∈GD):j = "size"\/j = "rank"\/j = "told"\/j = "names":=by
 simpa [GD] using h
noncomputable def rJ (j y:Str)(us ms:List Nat):PV:=.tup [.str j,.str y,.tup (ai us),.tup (ai ms)]
noncomputable def NY (j:Str):Nat:=if j = "size" then 1 else 0
theorem Az {n:Nat}(h1:1<=n)(h2:n<=40):j3 [.int n]=some (.v (.bl true)):=IK (by omega) (by omega)
theorem JJ:decide (("size" : Str) = "rank")=false/\decide (("size" : Str) = "told")=false/\decide (("size" : Str) = "names")=false/\decide (("rank" : Str) = "size")=false/\decide (("rank" : Str) = "told")=false/\decide (("rank" : Str) = "names")=false ∧
  decide (("told" : Str) = "size")=false/\decide (("told" : Str) = "rank")=false/\decide (("told" : Str) = "names")=false/\decide (("names" : Str) = "size")=false/\decide (("names" : Str) = "rank")=false/\decide (("names" : Str) = "told")=false:=by decide
theorem Cb {j:Str}(hj:j∈GD):cQ [.str j]=some (.v (.bl true)):=by
 have e:wz (.str j) (.ktu [.str "size",.str "rank",.str "told",.str "names"])=some (.fz (.bl true)):=by
  have h1:(bM (.str j)&&aK [.str "size",.str "rank",.str "told",.str "names"]&&decide (dF [.str "size",.str "rank",.str "told",.str "names"]<=50))=true:=by simp[bM,aK,dF,sW]
  have h2:pin (.str j) [.str "size",.str "rank",.str "told",.str "names"]=true:=by
   unfold pin
   simp only[a3j,uQ,List.any_nil]
   rcases j4 hj with rfl|rfl|rfl|rfl<;>decide
  rw[J9,h1,h2];rfl
 simp![kP,dH,e]
theorem Mw {a n:Nat}(h1:1<=n)(h2:n<=1000):gh (.tup [.int a]) (.int n)=some (.fz (.tup (ai (a0l n a)))):=by
 have r:∀n:Nat,(a0l n [PV.int a]).flatten=ai (a0l n a):=λn=>by
  induction n with
  |zero=>rfl
  |succ n ih=>rw[a2l,a3a,ih];rfl
 show (if ([PV.int a].isEmpty=false/\1<=(n:Int)/\(n:Int)<=1000/\[PV.int a].length<=1000) then some (RV.fz (.tup (a0l (n:Int).toNat [PV.int a]).flatten)) else none)=_
 rw[if_pos ⟨rfl,by omega,by omega,by simp⟩,a1e,r]
theorem LL {n:Nat}(h1:1<=n)(h2:n<=40){j y:Str}(hj:j∈GD)(hy:y∈cg):jf [.int n,.str j,.str y]=some (.v (rJ j y (a0m n) (a0l n (NY j)))):=by
 have er:sE [.rng 0 n]=some (.fz (.tup (ai (a0m n)))):=by rw[KD,if_pos ⟨rfl,by omega,by omega⟩,a1e,FD]
 have ek:=(K1 (show n<=100000 by omega)).2.1
 have m0:=Mw (a:=0) h1 (show n<=1000 by omega)
 have m1:=Mw (a:=1) h1 (show n<=1000 by omega)
 have m0:gh (.tup [.int 0]) (.int n)=_:=m0
 have m1:gh (.tup [.int 1]) (.int n)=_:=m1
 unfold rJ
 rcases j4 hj with rfl|rfl|rfl|rfl <;>
  simp![r8,jx,lC,fR,pX,iH,Az h1 h2,Cb hj,CJ hy,JJ,ek,er,m0,m1,NY]<;>rfl
theorem qT {n:Nat}(h1:1<=n)(h2:n<=40):Frst (a0m n):=by
 have u:∀x,x<n->up (a0m n) x=x:=λx hx=>by unfold up;rw[a0k,a2r hx];rfl
 refine⟨by rw[a0v];exact h1,by rw[a0v];exact h2,⟨λx hx=>?_,λ_=>0,λx hx=>?_,λx hx hn=>?_⟩⟩
 ·rw[a0v] at hx ⊢;rw[u x hx];exact hx
 ·show 0<_;omega
 ·rw[a0v] at hx;exact absurd (u x hx) hn
theorem Cr (ms:List Nat):nz [.tup (ai ms)]=some (.v (.tup (ai ms))):=by
 simp![xg,mQ]
theorem zx {us ms:List Nat}(f:Frst us){j y:Str}(hy:y∈cg){x:Nat}(hx:x<us.length):gY [rJ j y us ms,.int x]=some (.v (.tup [rJ j y (hV y us x) ms,.int (hd us x:Nat),.int (stp y us x:Nat)])):=by
 have e:=Br f hy hx
 simp only[nI] at e
 unfold rJ
 simp![su,jv,e,Cr]
noncomputable def stay (j:Str)(ms:List Nat)(a b:Nat):Bool:=if j = "told" then true else if j = "names" then decide (a<b) else decide (up ms b<=up ms a)
noncomputable def GX (j:Str)(p q:Nat):Nat:=if j = "size" then p+q else if j = "rank"/\p=q then p+1 else p
noncomputable def tp (j:Str)(ms:List Nat)(a b:Nat):Nat:=if stay j ms a b then a else b
noncomputable def un (j:Str)(ms:List Nat)(a b:Nat):Nat:=if stay j ms a b then b else a
noncomputable def AN (j:Str)(us ms:List Nat)(a b:Nat):List Nat:=us.set (un j ms a b) (tp j ms a b)
noncomputable def Lz (j:Str)(ms:List Nat)(a b:Nat):List Nat:=ms.set (tp j ms a b) (GX j (up ms (tp j ms a b)) (up ms (un j ms a b)))
theorem GY {j:Str}(hj:j∈GD){ms:List Nat}{a b:Nat}(ha:a<ms.length)(hb:b<ms.length):gL [.str j,.tup (ai ms),.int a,.int b]=some (.v (.bl (stay j ms a b))):=by
 have d1:decide ((a:Int)<(b:Int))=decide (a<b):=decide_eq_decide.mpr (by omega)
 have d2:decide ((up ms b:Int)<=(up ms a:Int))=decide (up ms b<=up ms a):=decide_eq_decide.mpr (by omega)
 rcases j4 hj with rfl|rfl|rfl|rfl
 ·rw[show stay "size" ms a b=decide (up ms b<=up ms a) from rfl];simp![fj,cy,JJ,au ha,au hb,d2]
 ·rw[show stay "rank" ms a b=decide (up ms b<=up ms a) from rfl];simp![fj,cy,JJ,au ha,au hb,d2]
 ·rw[show stay "told" ms a b=true from rfl];simp![fj,cy]
 ·rw[show stay "names" ms a b=decide (a<b) from rfl];simp![fj,cy,JJ,d1]
theorem CR {j:Str}(hj:j∈GD)(p q:Nat):gG [.str j,.int p,.int q]=some (.v (.int (GX j p q:Nat))):=by
 have d:decide ((p:Int)=(q:Int))=decide (p=q):=decide_eq_decide.mpr (by omega)
 rcases j4 hj with rfl|rfl|rfl|rfl
 ·rw[show GX "size" p q=p+q from rfl];simp![dn,bY];rfl
 ·by_cases h:p=q
  ·rw[show GX "rank" p q=p+1 by unfold GX;rw[if_neg (by decide),if_pos ⟨rfl,h⟩]];simp![dn,bY,JJ,d,decide_eq_true h];rfl
  ·rw[show GX "rank" p q=p by unfold GX;rw[if_neg (by decide),if_neg λz=>h z.2]];simp![dn,bY,JJ,d,decide_eq_false h]
 ·rw[show GX "told" p q=p from rfl];simp![dn,bY,JJ]
 ·rw[show GX "names" p q=p from rfl];simp![dn,bY,JJ]
theorem Md {j y:Str}(hj:j∈GD){us ms:List Nat}{a b:Nat}(hl:ms.length=us.length)(ha:a<us.length)(hb:b<us.length):cP [rJ j y us ms,.int a,.int b]=some (.v (rJ j y (AN j us ms a b) (Lz j ms a b))):=by
 have st:=GY hj (ms:=ms) (show a<ms.length by omega) (show b<ms.length by omega)
 unfold rJ AN Lz tp un
 cases h:stay j ms a b with
 |true=>
  rw[h] at st
  simp![gq,ce,st,fy ha,fy hb,fy (show a<ms.length by omega),iB,au (show a<ms.length by omega),au (show b<ms.length by omega),CR hj]
 |false=>
  rw[h] at st
  simp![gq,ce,st,fy ha,fy hb,fy (show b<ms.length by omega),iB,au (show a<ms.length by omega),au (show b<ms.length by omega),CR hj,a1t,if_false]
theorem FF {j:Str}{ms:List Nat}{a b:Nat}:(Lz j ms a b).length=ms.length:=by unfold Lz;rw[a1c]
theorem Hc {j:Str}{us ms:List Nat}{a b:Nat}:(AN j us ms a b).length=us.length:=by unfold AN;rw[a1c]
theorem Ci {us:List Nat}(f:Frst us){j:Str}{ms:List Nat}{a b:Nat}(ha:a<us.length)(hb:b<us.length)(ea:up us a=a)(eb:up us b=b)(ne:a≠b):Frst (AN j us ms a b):=by
 unfold AN tp un
 cases stay j ms a b with
 |true=>exact oN f hb ha eb ea ne
 |false=>exact oN f ha hb ea eb ne.symm
inductive Deed where
 |find (x:Nat)|join (x y:Nat)
noncomputable def Deed.pv:Deed->PV
 |.find x=>.tup [.str "find",.int x]
 |.join x y=>.tup [.str "join",.int x,.int y]
noncomputable def Deed.ok (n:Nat):Deed->Prop
 |.find x=>x<n
 |.join x y=>x<n/\y<n
structure Sto (n:Nat)(us ms:List Nat):Prop where
 f:Frst us
 lu:us.length=n
 lm:ms.length=n
noncomputable def dU (j y:Str)(us ms:List Nat):Deed->List Nat
 |.find x=>hV y us x
 |.join x z=>if hd us x=hd us z then hV y (hV y us x) z else AN j (hV y (hV y us x) z) ms (hd us x) (hd us z)
noncomputable def dM (j:Str)(us ms:List Nat):Deed->List Nat
 |.find _=>ms
 |.join x z=>if hd us x=hd us z then ms else Lz j ms (hd us x) (hd us z)
noncomputable def dA (us:List Nat):Deed->PV
 |.find x=>.int (hd us x:Nat)
 |.join x z=>.bl (!decide (hd us x=hd us z))
noncomputable def dS (y:Str)(us:List Nat):Deed->Nat
 |.find x=>stp y us x
 |.join x z=>stp y us x+stp y (hV y us x) z
noncomputable def vJ (j y:Str)(us ms:List Nat)(d:Deed):PV:=.tup [rJ j y (dU j y us ms d) (dM j us ms d),dA us d,.int (dS y us d:Nat)]
theorem xV {us:List Nat}(f:Frst us){x:Nat}(hx:x<us.length){y:Str}(hy:y∈cg){t:Nat}(ht:t<us.length):hd (hV y us x) t=hd us t:=(Do f.fst hx hy ht).1
theorem BV {n:Nat}{us ms:List Nat}(S:Sto n us ms){j y:Str}(hy:y∈cg){d:Deed}(hd':d.ok n):Sto n (dU j y us ms d) (dM j us ms d):=by
 obtain⟨f,lu,lm⟩:=S
 cases d with
 |find x=>
  have hx:x<us.length:=by rw[lu];exact hd'
  exact⟨nN f hx hy,by show (hV y us x).length=n;rw[fg,lu],lm⟩
 |join x z=>
  have hx:x<us.length:=by rw[lu];exact hd'.1
  have hz:z<us.length:=by rw[lu];exact hd'.2
  have f1:=nN f hx hy
  have l1:=fg y us x
  have hz1:z<(hV y us x).length:=by omega
  have f2:=nN f1 hz1 hy
  have l2:=fg y (hV y us x) z
  show Sto n (if hd us x=hd us z then _ else _) (if hd us x=hd us z then _ else _)
  by_cases e:hd us x=hd us z
  ·rw[if_pos e,if_pos e];exact⟨f2,by omega,lm⟩
  ·rw[if_neg e,if_neg e]
   have hd2:∀t,t<us.length->hd (hV y (hV y us x) z) t=hd us t:=λt ht=>by rw[xV f1 hz1 hy (by omega),xV f hx hy ht]
   have top:∀t,t<us.length->up (hV y (hV y us x) z) (hd us t)=hd us t:=λt ht=>by
    have:=re f2.fst (show t<(hV y (hV y us x) z).length by omega)
    rwa [hd2 t ht] at this
   have a1:=mn f.fst hx
   have a2:=mn f.fst hz
   exact⟨Ci f2 (by omega) (by omega) (top x hx) (top z hz) e,by rw[Hc];omega,by rw[FF];exact lm⟩
theorem GK {n:Nat}{us ms:List Nat}(S:Sto n us ms){j y:Str}(hj:j∈GD)(hy:y∈cg){x z:Nat}(hx':x<n)(hz':z<n):hK [rJ j y us ms,.int x,.int z]=some (.v (vJ j y us ms (.join x z))):=by
 obtain⟨f,lu,lm⟩:=S
 have hx:x<us.length:=by omega
 have hz:z<us.length:=by omega
 have f1:=nN f hx hy
 have l1:=fg y us x
 have hz1:z<(hV y us x).length:=by omega
 have l2:=fg y (hV y us x) z
 have e1:=zx f hy hx (ms:=ms) (j:=j)
 have e2:=zx f1 hy hz1 (ms:=ms) (j:=j)
 rw[xV f hx hy hz] at e2
 have a1:=mn f.fst hx
 have a2:=mn f.fst hz
 have d:decide ((hd us x:Int)=(hd us z:Int))=decide (hd us x=hd us z):=decide_eq_decide.mpr (by omega)
 by_cases e:hd us x=hd us z
 ·have r:vJ j y us ms (.join x z)=.tup [rJ j y (hV y (hV y us x) z) ms,.bl false,.int (stp y us x+stp y (hV y us x) z:Nat)]:=by
   unfold vJ
   show PV.tup [rJ j y (if hd us x=hd us z then _ else _) (if hd us x=hd us z then _ else _),.bl (!decide (hd us x=hd us z)),_]=_
   rw[if_pos e,if_pos e,decide_eq_true e];rfl
  rw[r]
  simp![mG,gO,e1,e2,d,decide_eq_true e]
  rfl
 ·have e3:=Md (y:=y) hj (us:=hV y (hV y us x) z) (ms:=ms) (a:=hd us x) (b:=hd us z) (by omega) (by omega) (by omega)
  have r:vJ j y us ms (.join x z)=.tup [rJ j y (AN j (hV y (hV y us x) z) ms (hd us x) (hd us z)) (Lz j ms (hd us x) (hd us z)),.bl true,.int (stp y us x+stp y (hV y us x) z:Nat)]:=by
   unfold vJ
   show PV.tup [rJ j y (if hd us x=hd us z then _ else _) (if hd us x=hd us z then _ else _),.bl (!decide (hd us x=hd us z)),_]=_
   rw[if_neg e,if_neg e,decide_eq_false e];rfl
  rw[r]
  simp![mG,gO,e1,e2,e3,d,decide_eq_false e]
  rfl
end Dp
end
section
namespace Dp
open PySem L2 Fo Dp
noncomputable def JA:FS:=(aI 7 (GN (ao bT (aa (ao cZ (aa (fV 0) (aa (ak b6 (ak b6 (fV 1) (fC (.int 1))) (ak oj (fV 6) (fC (.int 5)))) af))) (aa (fC (.int 20)) af))) (rR (ak gh (fC (.int 4)) (ak bJ (fV 6) (fC (.int 5))))) sg))
theorem PG {ρ:aq}:JA ρ=(aI 7 (GN (ao bT (aa (ao cZ (aa (fV 0) (aa (ak b6 (ak b6 (fV 1) (fC (.int 1))) (ak oj (fV 6) (fC (.int 5)))) af))) (aa (fC (.int 20)) af))) (rR (ak gh (fC (.int 4)) (ak bJ (fV 6) (fC (.int 5))))) sg)) ρ:=Eq.trans rfl rfl
noncomputable def JB:FS:=(sr 8 9 (aa (ak bJ (ak bo (fV 7) (fC (.int 0))) (fV 2)) (aa (ak bJ (ak bo (fV 7) (fC (.int 1))) (fV 2)) af)))
theorem OP {ρ:aq}:JB ρ=(sr 8 9 (aa (ak bJ (ak bo (fV 7) (fC (.int 0))) (fV 2)) (aa (ak bJ (ak bo (fV 7) (fC (.int 1))) (fV 2)) af))) ρ:=Eq.trans rfl rfl
noncomputable def PF:FS:=(hZ (fT (ak j7 (ak bJ (ak bo (fV 4) (fC (.int 1))) (fC (.int 4))) (fC (.int 1)))) (sr 8 9 (aa (ak bJ (fV 6) (fV 2)) (aa (ak bJ (ak b6 (fV 6) (fC (.int 1))) (fV 2)) af))) aP)
theorem Ir {ρ:aq}:PF ρ=(hZ (fT (ak j7 (ak bJ (ak bo (fV 4) (fC (.int 1))) (fC (.int 4))) (fC (.int 1)))) (sr 8 9 (aa (ak bJ (fV 6) (fV 2)) (aa (ak bJ (ak b6 (fV 6) (fC (.int 1))) (fV 2)) af))) aP) ρ:=Eq.trans rfl rfl
noncomputable def OR:FS:=(hZ (j5 (fT (ak j7 (ak bJ (ak bo (fV 4) (fC (.int 1))) (fC (.int 4))) (fC (.int 2)))) (fT (ak Lm (ak bJ (ak bo (fV 7) (fC (.int 2))) (fC (.int 3))) (fC (.int 0))))) (aj (aI 8 (ak bJ (ak gh (ak oj (fV 8) (fC (.int 2))) (fC (.int 2))) (fV 2))) (aI 9 (fB mw (aa (ak qm (fV 2) (fC (.int 1))) (aa (ak b6 (fV 8) (fC (.int 1))) af))))) aP)
theorem Dv {ρ:aq}:OR ρ=(hZ (j5 (fT (ak j7 (ak bJ (ak bo (fV 4) (fC (.int 1))) (fC (.int 4))) (fC (.int 2)))) (fT (ak Lm (ak bJ (ak bo (fV 7) (fC (.int 2))) (fC (.int 3))) (fC (.int 0))))) (aj (aI 8 (ak bJ (ak gh (ak oj (fV 8) (fC (.int 2))) (fC (.int 2))) (fV 2))) (aI 9 (fB mw (aa (ak qm (fV 2) (fC (.int 1))) (aa (ak b6 (fV 8) (fC (.int 1))) af))))) aP) ρ:=Eq.trans rfl rfl
noncomputable def PU:FS:=(hZ (j5 (fT (ak mW (fV 5) (im af))) (fT (ak j7 (ak bJ (ak bo (fV 7) (fC (.int 2))) (fC (.int 7))) (fC (.int 1))))) (gn (ak bo (fV 5) (ak bJ (ak bo (fV 7) (fC (.int 3))) (fB gw (aa (fV 5) af)))) (ff 2 (gC (gN 8) (gC (gN 9) g0)))) aP)
theorem Dy {ρ:aq}:PU ρ=(hZ (j5 (fT (ak mW (fV 5) (im af))) (fT (ak j7 (ak bJ (ak bo (fV 7) (fC (.int 2))) (fC (.int 7))) (fC (.int 1))))) (gn (ak bo (fV 5) (ak bJ (ak bo (fV 7) (fC (.int 3))) (fB gw (aa (fV 5) af)))) (ff 2 (gC (gN 8) (gC (gN 9) g0)))) aP) ρ:=Eq.trans rfl rfl
noncomputable def JD:FS:=(u7 lZ 5 (aa (ak bo (im (aa (bV (aa (fV 8) (aa (fV 9) af))) (aa (bV (aa (fV 9) (aa (fV 8) af))) af))) (ak bJ (ak oj (ak bo (fV 7) (fC (.int 2))) (fC (.int 7))) (fC (.int 2)))) af))
theorem LW {ρ:aq}:JD ρ=(u7 lZ 5 (aa (ak bo (im (aa (bV (aa (fV 8) (aa (fV 9) af))) (aa (bV (aa (fV 9) (aa (fV 8) af))) af))) (ak bJ (ak oj (ak bo (fV 7) (fC (.int 2))) (fC (.int 7))) (fC (.int 2)))) af)) ρ:=Eq.trans rfl rfl
theorem O2 {ρ:aq}:di ρ=(aj JA (aj JB (aj PF (aj OR (aj PU JD))))) ρ:=Eq.trans rfl rfl
noncomputable def aO (ps:List (Nat×Nat)):List PV:=ps.map λp=>.tup [.int p.1,.int p.2]
theorem kh (ps:List (Nat×Nat)):(aO ps).length=ps.length:=a0j ..
theorem kE:∀ps:List (Nat×Nat),aK (aO ps)=true
 |[]=>by show aK []=true;rw[aK]
 |p::ps=>by
  show aK (.tup [.int p.1,.int p.2]::aO ps)=true
  rw[aK,kE ps];simp[bM,aK]
theorem vm:∀ps:List (Nat×Nat),dF (aO ps)<=1
 |[]=>by show dF []<=1;rw[dF];omega
 |p::ps=>by
  show dF (.tup [.int p.1,.int p.2]::aO ps)<=1
  have:=vm ps
  rw[dF];simp[sW,dF];omega
theorem oI (ps:List (Nat×Nat)):ii (aO ps) []=ps.isEmpty:=by
 cases ps with
 |nil=>exact qA
 |cons p ps=>exact wl (by show (aO ps).length+1≠0;omega)
theorem pW {α:Type}(l:List α)(k:Nat):mB l (some (k:Int)) none=l.drop k:=by
 unfold mB
 rw[HT.sIx_nat,HT.sIx_none]
 by_cases h:k<=l.length
 ·rw[a4g h,a1o (by rw[a2e];omega)]
 ·rw[Nat.min_eq_right (by omega),a2b (a0r _),a2b (by omega),List.take_nil]
section
variable {ns:List Int}{n:Nat}{hs ys:List Nat}{row:List (Nat×Nat)}{s3:Option Sl}{at' k:Nat}
noncomputable def JR (ns:List Int)(at' n:Nat)(s3:Option Sl)(hs:List Nat)(row:List (Nat×Nat))(k:Nat)(ys:List Nat)(x z:Nat):aq:=[some (.val (.src (iL ns))),some (.val (.int at')),some (.val (.int n)),s3,some (.val (.lst (ai hs))),some (.own (aO row)),some (.val (.int k)),some (.val (.lst (ai ys))),some (.val (.int x)),some (.val (.int z))]
theorem PM (hn:1<=n)(hh:hs.length=4){x z:Nat}(hx:x<n)(hz:z<n):∃x' z',x'<n/\z'<n/\PF (JR ns at' n s3 hs row k ys x z)=.nx (JR ns at' n s3 hs row k ys x' z'):=by
 have i1:L2.c8 (ai hs) 1=some (.int (up hs 1:Nat)):=au (x:=1) (by omega)
 have pn:(0:Int)<(n:Int):=by omega
 unfold JR
 by_cases q:(up hs 1:Int) % 4=1
 ·refine⟨k % n,(k+1) % n,a2c _ (by omega),a2c _ (by omega),?_⟩
  simp![Ir,i1,decide_eq_true q,pn]
  rfl
 ·exact⟨x,z,hx,hz,by simp![Ir,i1,decide_eq_false q]⟩
theorem PN (hn:1<=n)(hn2:n<=40)(hh:hs.length=4)(hy:4<=ys.length){x z:Nat}(hx:x<n)(hz:z<n):∃x' z',x'<n/\z'<n/\OR (JR ns at' n s3 hs row k ys x z)=.nx (JR ns at' n s3 hs row k ys x' z'):=by
 have i1:L2.c8 (ai hs) 1=some (.int (up hs 1:Nat)):=au (x:=1) (by omega)
 have i2:L2.c8 (ai ys) 2=some (.int (up ys 2:Nat)):=au (x:=2) (by omega)
 have pn:(0:Int)<(n:Int):=by omega
 unfold JR
 by_cases q:(up hs 1:Int) % 4=2
 ·by_cases q2:(0:Int)<(up ys 2:Int) % 3
  ·have e1:(x:Int) / 2 * 2 % (n:Int)=((x / 2 * 2 % n:Nat):Int):=by push_cast;rfl
   have em:(if ((x / 2 * 2 % n:Nat):Int)+1<(n:Int) - 1 then ((x / 2 * 2 % n:Nat):Int)+1 else (n:Int) - 1)=((min (n - 1) (x / 2 * 2 % n+1):Nat):Int):=by split<;>omega
   refine⟨x / 2 * 2 % n,min (n - 1) (x / 2 * 2 % n+1),a2c _ (by omega),by omega,?_⟩
   have ml:(((x:Int) / 2).natAbs<2 ^ 64\/(2:Int).natAbs<2 ^ 64):=.inr (by decide)
   simp![Dv,i1,i2,decide_eq_true q,decide_eq_true q2,pn,ml,e1,em]
  ·exact⟨x,z,hx,hz,by simp![Dv,i1,i2,decide_eq_true q,decide_eq_false q2]⟩
 ·exact⟨x,z,hx,hz,by simp![Dv,i1,decide_eq_false q]⟩
theorem PP (hy:4<=ys.length)(hr:∀p∈row,p.1<n/\p.2<n){x z:Nat}(hx:x<n)(hz:z<n):∃x' z',x'<n/\z'<n/\PU (JR ns at' n s3 hs row k ys x z)=.nx (JR ns at' n s3 hs row k ys x' z'):=by
 have i2:L2.c8 (ai ys) 2=some (.int (up ys 2:Nat)):=au (x:=2) (by omega)
 have i3:L2.c8 (ai ys) 3=some (.int (up ys 3:Nat)):=au (x:=3) (by omega)
 have dd:decide (dF (aO row)<=49)=true:=decide_eq_true (by have:=vm row;omega)
 have p0:aK []=true:=by rw[aK]
 unfold JR
 by_cases h0:row=[]
 ·subst h0;exact⟨x,z,hx,hz,by simp![Dy,kE,p0,dd,oI,a4f]⟩
 ·have ie:row.isEmpty=false:=by cases row with
   |nil=>exact absurd rfl h0
   |cons=>rfl
  have pos:0<row.length:=a3n.mpr h0
  by_cases q:(up ys 2:Int) % 7=1
  ·have hl:up ys 3 % row.length<row.length:=a2c _ pos
   have pl:(0:Int)<(row.length:Int):=by omega
   have ea:L2.c8 (aO row) ((up ys 3:Int) % (row.length:Int))=some (.tup [.int (row[up ys 3 % row.length]).1,.int (row[up ys 3 % row.length]).2]):=by
    rw[show (up ys 3:Int) % (row.length:Int)=((up ys 3 % row.length:Nat):Int) from rfl]
    refine L2.gF ?_
    unfold aO
    rw[a0s,a0h hl];rfl
   have hm:=hr _ (a3o hl)
   refine⟨_,_,hm.1,hm.2,?_⟩
   simp![Dy,kE,p0,dd,oI,ie,i2,i3,decide_eq_true q,kh,pl,ea]
  ·exact⟨x,z,hx,hz,by simp![Dy,kE,p0,dd,oI,ie,i2,decide_eq_false q]⟩
theorem QG (hy:4<=ys.length)(hl:row.length<=1000){x z:Nat}:∃p,(p=(x,z)\/p=(z,x))/\JD (JR ns at' n s3 hs row k ys x z)=.nx (JR ns at' n s3 hs (row++[p]) k ys x z):=by
 have i2:L2.c8 (ai ys) 2=some (.int (up ys 2:Nat)):=au (x:=2) (by omega)
 have l1:(aO row).length<=100000:=by rw[kh];omega
 have ea:∀p:Nat×Nat,aO row++[.tup [.int p.1,.int p.2]]=aO (row++[p]):=λp=>by unfold aO;rw[a0z];rfl
 unfold JR
 by_cases q:(up ys 2:Int) / 7 % 2=0
 ·refine⟨(x,z),.inl rfl,?_⟩
  have e0:∀a b:PV,L2.c8 [a,b] 0=some a:=λa b=>rfl
  rw[←ea]
  simp![LW,i2,q,e0,l1]
 ·have q:(up ys 2:Int) / 7 % 2=1:=by omega
  refine⟨(z,x),.inr rfl,?_⟩
  have e0:∀a b:PV,L2.c8 [a,b] 1=some b:=λa b=>rfl
  rw[←ea]
  simp![LW,i2,q,e0,l1]
theorem JU (hn:1<=n)(hn2:n<=40)(hh:hs.length=4)(hat:at'<=500)(hk:k<=500)(hl:row.length<=1000)(hr:∀p∈row,p.1<n/\p.2<n){z7 z8 z9:Option Sl}:∃p w7 w8 w9,(p.1<n/\p.2<n) ∧
  di [some (.val (.src (iL ns))),some (.val (.int at')),some (.val (.int n)),s3,some (.val (.lst (ai hs))),some (.own (aO row)),some (.val (.int k)),z7,z8,z9] =
   .nx [some (.val (.src (iL ns))),some (.val (.int at')),some (.val (.int n)),s3,some (.val (.lst (ai hs))),some (.own (aO (row++[p]))),some (.val (.int k)),w7,w8,w9]:=by
 obtain⟨c,ec⟩:=yc ns ((at':Int)+1+(k:Int) / 5) (by omega) (by omega)
 obtain⟨xs,hx,ex⟩:=ou c 20 (by decide) (by decide)
 have hx:xs.length=20:=hx
 have e4:(4:Int) * ((k:Int) % 5)=((4 * (k % 5):Nat):Int):=by omega
 have ec':mB (ai xs) (some ((4 * (k % 5):Nat):Int)) none=ai (xs.drop (4 * (k % 5))):=by rw[vR,pW]
 generalize hys:xs.drop (4 * (k % 5))=ys at ec'
 have hy:4<=ys.length:=by rw[←hys,a2e];omega
 have ml:((4:Int).natAbs<2 ^ 64\/((k:Int) % 5).natAbs<2 ^ 64):=.inl (by decide)
 have pn:(0:Int)<(n:Int):=by omega
 have i0:L2.c8 (ai ys) 0=some (.int (up ys 0:Nat)):=au (x:=0) (by omega)
 have i1:L2.c8 (ai ys) 1=some (.int (up ys 1:Nat)):=au (x:=1) (by omega)
 have m0:(up ys 0:Int) % (n:Int)=((up ys 0 % n:Nat):Int):=rfl
 have m1:(up ys 1:Int) % (n:Int)=((up ys 1 % n:Nat):Int):=rfl
 obtain⟨x1,z1,a1,b1,e1⟩:=PM (ns:=ns) (at':=at') (s3:=s3) (row:=row) (k:=k) (ys:=ys) hn hh (a2c (up ys 0) (by omega)) (a2c (up ys 1) (by omega))
 obtain⟨x2,z2,a2,b2,e2⟩:=PN (ns:=ns) (at':=at') (s3:=s3) (row:=row) (k:=k) (ys:=ys) hn hn2 hh hy a1 b1
 obtain⟨x3,z3,a3,b3,e3⟩:=PP (ns:=ns) (at':=at') (s3:=s3) (hs:=hs) (k:=k) (ys:=ys) hy hr a2 b2
 obtain⟨p,hp,e5⟩:=QG (ns:=ns) (n:=n) (at':=at') (s3:=s3) (hs:=hs) (row:=row) (k:=k) (ys:=ys) (x:=x3) (z:=z3) hy hl
 refine⟨p,some (.val (.lst (ai ys))),some (.val (.int x3)),some (.val (.int z3)),by rcases hp with rfl|rfl<;>exact⟨by assumption,by assumption⟩,?_⟩
 unfold JR at e1 e2 e3 e5
 simp![O2,PG,OP,ec,ex,ml,e4,ec',i0,i1,pn,m0,m1,e1,e2,e3,e5]
theorem BS (hn:1<=n)(hn2:n<=40)(hh:hs.length=4)(hat:at'<=500):∀(ks:List Nat) (row:List (Nat×Nat)) (z6 z7 z8 z9:Option Sl),(∀k∈ks,k<=500)->row.length+ks.length<=1000->(∀p∈row,p.1<n/\p.2<n) →
  ∃row' w6 w7 w8 w9,(∀p∈row',p.1<n/\p.2<n)/\row'.length=row.length+ks.length/\bn (gN 6) di (ai ks) [some (.val (.src (iL ns))),some (.val (.int at')),some (.val (.int n)),s3,some (.val (.lst (ai hs))),some (.own (aO row)),z6,z7,z8,z9] =
   .nx [some (.val (.src (iL ns))),some (.val (.int at')),some (.val (.int n)),s3,some (.val (.lst (ai hs))),some (.own (aO row')),w6,w7,w8,w9]
 |[],row,z6,z7,z8,z9,_,_,hr=>⟨row,z6,z7,z8,z9,hr,rfl,rfl⟩
 |k::ks,row,z6,z7,z8,z9,hk,hl,hr=>by
  rw[a0o] at hl
  obtain⟨p,w7,w8,w9,hp,e⟩:=JU (ns:=ns) (s3:=s3) hn hn2 hh hat (hk k a0e) (by omega) hr (z7:=z7) (z8:=z8) (z9:=z9)
  obtain⟨row',v6,v7,v8,v9,h1,h2,e'⟩:=BS hn hn2 hh hat ks (row++[p]) (some (.val (.int k))) w7 w8 w9 (λq hq=>hk q (a0c _ hq)) (by rw[a0n,a1h];omega) (λq hq=>by
   rcases a0u.mp hq with hq|hq
   ·exact hr q hq
   ·rw[a0f.mp hq];exact hp)
  refine⟨row',v6,v7,v8,v9,h1,by rw[h2,a0n,a1h,a0o];omega,?_⟩
  rw[←e',jJ,dI]
  simp![e]
theorem CF (ns:List Int){at' n m:Nat}(hn:1<=n)(hn2:n<=40)(hat:at'<=500)(hm:m<=60):∃row:List (Nat×Nat),(∀p∈row,p.1<n/\p.2<n)/\row.length<=m/\fW [.src (iL ns),.int at',.int n,.int m]=some (.v (.tup (aO row))):=by
 obtain⟨c,ec⟩:=yc ns (at':Int) (by omega) (by omega)
 obtain⟨hs,hh,eh⟩:=ou c 4 (by decide) (by decide)
 have hh:hs.length=4:=hh
 have i0:L2.c8 (ai hs) 0=some (.int (up hs 0:Nat)):=au (x:=0) (by omega)
 have pm:(0:Int)<(m:Int)+1:=by omega
 have em:(up hs 0:Int) % ((m:Int)+1)=((up hs 0 % (m+1):Nat):Int):=rfl
 have lt:up hs 0 % (m+1)<m+1:=a2c _ (by omega)
 generalize up hs 0 % (m+1)=q at *
 obtain⟨row,w6,w7,w8,w9,h1,h2,e⟩:=BS (ns:=ns) (s3:=some (.val (.int m))) hn hn2 hh hat (a0m q) [] none none none none (λk hk=>by have:=a1b.mp hk;omega) (by rw[a0v];simp;omega) (λp hp=>by cases hp)
 rw[a0v] at h2
 simp only[a2o] at h2
 have e:bn (gN 6) di (ai (a0m q)) [some (.val (.src (iL ns))),some (.val (.int at')),some (.val (.int n)),some (.val (.int m)),some (.val (.lst (ai hs))),some (.own []),none,none,none,none]=_:=e
 exact⟨row,h1,by omega,by simp![q9,iQ,ec,eh,i0,pm,em,K1 (show q<=100000 by omega),e]⟩
end
theorem Aw {fs:FA}{ρ:aq}:mv fs ρ=(fs ρ).bind λrs=>(rs.mapM RV.fr).bind CS:=by
 unfold mv
 rfl
theorem sH {ps:List PV}:CS [.tup ps]=some (cc 0 ps):=Eq.trans rfl rfl
end Dp
end
section
namespace Dp
open PySem PySem.Spec L2 Fo Pt
noncomputable abbrev Tl:=Nat×Nat×Int
noncomputable def jE (j:Nat)(s:Int):PV:=.tup [.int (j:Nat),.int s]
noncomputable def Bv (row:List Tl)(j:Nat):List Sg:=match row[j]? with
 |some t=>[(t.1,t.2.1,jE j 1),(t.2.1,t.1,jE j (-1))]
 |none=>[]
noncomputable def aw (row:List Tl)(js:List Nat):List Sg:=js.flatMap (Bv row)
theorem tY {row:List Tl}{j:Nat}{t:Tl}(h:row[j]?=some t):Bv row j=[(t.1,t.2.1,jE j 1),(t.2.1,t.1,jE j (-1))]:=by unfold Bv;rw[h]
theorem iC {row:List Tl}{js:List Nat}{a e:Nat}{l:PV}(h:(a,e,l)∈aw row js):∃j s t,j∈js/\row[j]?=some t/\l=jE j s/\((s=1/\a=t.1/\e=t.2.1)\/(s = -1/\a=t.2.1/\e=t.1)):=by
 obtain⟨j,hj,h⟩:=a4x.mp h
 cases et:row[j]? with
 |none=>unfold Bv at h;rw[et] at h;cases h
 |some t=>
  rw[tY et] at h
  rcases a0t.mp h with h|h
  ·cases h;exact⟨j,1,t,hj,et,rfl,.inl ⟨rfl,rfl,rfl⟩⟩
  ·have h:=a0f.mp h
   cases h;exact⟨j,-1,t,hj,et,rfl,.inr ⟨rfl,rfl,rfl⟩⟩
theorem lM {row:List Tl}{js:List Nat}{j:Nat}{t:Tl}(hj:j∈js)(et:row[j]?=some t):(t.1,t.2.1,jE j 1)∈aw row js/\(t.2.1,t.1,jE j (-1))∈aw row js:=by
 constructor<;>refine a4x.mpr ⟨j,hj,?_⟩<;>rw[tY et]
 ·exact a0e
 ·exact a0c _ a0e
theorem Trk.labels {row:List Tl}{js:List Nat}{x e:Nat}{r:List PV}{vs:List Nat}(t:Trk (aw row js) x e r vs):∀l∈r,∃j s u,l=jE j s/\j∈js/\row[j]?=some u/\(s=1\/s = -1):=by
 induction t with
 |nil=>intro l hl;cases hl
 |snoc _ q ih=>
  intro l hl
  rcases a0u.mp hl with hl|hl
  ·exact ih l hl
  ·obtain⟨j,s,u,hj,et,e,hs⟩:=iC q
   rw[a0f.mp hl]
   exact⟨j,s,u,e,hj,et,hs.elim (λh=>.inl h.1) λh=>.inr h.1⟩
theorem Rch.trans {S:List Sg}{x a e:Nat}(h1:Rch S x a)(h2:Rch S a e):Rch S x e:=by
 induction h2 with
 |refl=>exact h1
 |step _ q ih=>exact .step ih q
theorem Rch.mono {S S':List Sg}(h:∀t∈S,t∈S'){x e:Nat}(r:Rch S x e):Rch S' x e:=by
 induction r with
 |refl=>exact .refl
 |step _ q ih=>exact .step ih (h _ q)
theorem Rch.symm {row:List Tl}{js:List Nat}{x e:Nat}(r:Rch (aw row js) x e):Rch (aw row js) e x:=by
 induction r with
 |refl=>exact .refl
 |step _ q ih=>
  obtain⟨j,s,t,hj,et,_,hs⟩:=iC q
  obtain⟨m1,m2⟩:=lM hj et
  rcases hs with ⟨_,rfl,rfl⟩|⟨_,rfl,rfl⟩
  ·exact (Rch.step .refl m2).trans ih
  ·exact (Rch.step .refl m1).trans ih
theorem qR {n:Nat}{row:List Tl}(hr:∀t∈row,t.1<n/\t.2.1<n){js:List Nat}:∀t∈aw row js,t.1<n/\t.2.1<n:=λt ht=>by
 obtain⟨j,s,u,_,et,_,hs⟩:=iC (a:=t.1) (e:=t.2.1) (l:=t.2.2) ht
 have:=hr u (a1i et)
 rcases hs with ⟨_,h1,h2⟩|⟨_,h1,h2⟩<;>rw[h1,h2]
 ·exact this
 ·exact⟨this.2,this.1⟩
noncomputable def Dw (row:List Tl):List (Nat×Nat):=row.map λt=>(t.1,t.2.1)
noncomputable def cT (row:List Tl):Nat->Nat:=dW (Dw row) id
open Classical in
theorem ve {row:List Tl}{P:Nat->Prop}(hP:∀t∈row,(P t.1↔P t.2.1)){x y:Nat}(h:cT row x=cT row y):P x↔P y:=by
 have:=lh (f:=λv=>if P v then 1 else 0) (Dw row) id (λp hp=>by
  obtain⟨t,ht,rfl⟩:=a1k.mp hp
  show (if P t.1 then 1 else 0)=(if P t.2.1 then 1 else 0)
  by_cases q:P t.1
  ·rw[if_pos q,if_pos ((hP t ht).mp q)]
  ·rw[if_neg q,if_neg λz=>q ((hP t ht).mpr z)]) (λa b e=>by rw[show a=b from e]) x y h
 have this:(if P x then 1 else 0)=(if P y then 1 else 0):=this
 by_cases q:P x<;>by_cases q':P y<;>simp[q,q'] at this ⊢
theorem HQ {row:List Tl}{js:List Nat}(ha:∀t∈row,Rch (aw row js) t.1 t.2.1){x y:Nat}(h:cT row x=cT row y):Rch (aw row js) x y:=
 (ve (P:=λv=>Rch (aw row js) x v) (λt ht=>⟨λq=>q.trans (ha t ht),λq=>q.trans (ha t ht).symm⟩) h).mp .refl
noncomputable def cs (row:List Tl):Nat->List Nat
 |0=>[]
 |k+1=>match row[k]? with
  |some t=>if cT (row.take k) t.1=cT (row.take k) t.2.1 then cs row k else cs row k++[k]
  |none=>cs row k
theorem jW {row:List Tl}{k:Nat}{t:Tl}(et:row[k]?=some t)(h:cT (row.take k) t.1=cT (row.take k) t.2.1):cs row (k+1)=cs row k:=by
 rw[cs,et];exact if_pos h
theorem kW {row:List Tl}{k:Nat}{t:Tl}(et:row[k]?=some t)(h:cT (row.take k) t.1≠cT (row.take k) t.2.1):cs row (k+1)=cs row k++[k]:=by
 rw[cs,et];exact if_neg h
theorem kj (row:List Tl):∀k,(∀j∈cs row k,j<k)/\(cs row k).length<=k
 |0=>⟨λ_ h=>(by cases h),a0r _⟩
 |k+1=>by
  obtain⟨h1,h2⟩:=kj row k
  have k1:∀j∈cs row k,j<k+1:=λj hj=>a3w (h1 j hj)
  cases et:row[k]? with
  |none=>rw[cs,et];exact⟨k1,by show (cs row k).length<=_;omega⟩
  |some t=>
   by_cases q:cT (row.take k) t.1=cT (row.take k) t.2.1
   ·rw[jW et q];exact⟨k1,by omega⟩
   ·rw[kW et q]
    refine⟨λj hj=>?_,by rw[a0n,a1h];omega⟩
    rcases a0u.mp hj with hj|hj
    ·exact k1 j hj
    ·rw[a0f.mp hj];exact a2h k
theorem qC {row:List Tl}{k:Nat}{js:List Nat}(h:∀j∈js,j<k):aw (row.take k) js=aw row js:=by
 unfold aw
 induction js with
 |nil=>rfl
 |cons j js ih=>
  rw[a4u,a4u,ih λi hi=>h i (a0c _ hi)]
  unfold Bv
  rw[a2w,if_pos (h j a0e)]
theorem xk {row:List Tl}{k:Nat}{t:Tl}(et:row[k]?=some t):row.take (k+1)=row.take k++[t]:=by
 rw[List.take_add_one,et];rfl
theorem ro (row:List Tl):∀k,∀t∈row.take k,Rch (aw row (cs row k)) t.1 t.2.1
 |0=>λ_ h=>by rw[List.take_zero] at h;cases h
 |k+1=>by
  have ih:=ro row k
  have hl:=(kj row k).1
  cases et:row[k]? with
  |none=>
   rw[cs,et,a1o (by have:=a4p.mp et;omega)]
   rw[a1o (by have:=a4p.mp et;omega)] at ih
   exact ih
  |some t=>
   intro u hu
   rw[xk et] at hu
   by_cases q:cT (row.take k) t.1=cT (row.take k) t.2.1
   ·rw[jW et q]
    rcases a0u.mp hu with hu|hu
    ·exact ih u hu
    ·rw[a0f.mp hu,←qC hl]
     exact HQ (λv hv=>by rw[qC hl];exact ih v hv) q
   ·rw[kW et q]
    rcases a0u.mp hu with hu|hu
    ·exact (ih u hu).mono λs hs=>by unfold aw at hs ⊢;rw[List.flatMap_append];exact a0w _ hs
    ·rw[a0f.mp hu]
     exact .step .refl (lM (a0p _ (a0f.mpr rfl)) et).1
noncomputable def PQ (ps:List (Nat×Nat)):List (Nat×Nat):=ps.map λp=>(p.2,p.1)
noncomputable def cS (row:List Tl):Nat->Nat:=dW (PQ (Dw row)) id
theorem Cg (row:List Tl)(a b:Nat):cS row a=cS row b↔cT row a=cT row b:=by
 constructor
 ·intro h
  refine lh (f:=cT row) (PQ (Dw row)) id (λp hp=>?_) (λx y e=>by rw[show x=y from e]) a b h
  obtain⟨q,hq,rfl⟩:=a1k.mp hp
  exact (jL _ _ _ _ hq).symm
 ·intro h
  refine lh (f:=cS row) (Dw row) id (λp hp=>?_) (λx y e=>by rw[show x=y from e]) a b h
  exact (jL _ _ _ _ (a1w (f:=λp:Nat×Nat=>(p.2,p.1)) hp)).symm
theorem Ga (row:List Tl)(t:Tl):cS (row++[t])=jn (cS row) t.2.1 t.1:=by
 unfold cS dW PQ Dw
 rw[a0z,a0z,a4v];rfl
theorem vP {n:Nat}(hn:n<=40){row:List Tl}(hr:∀t∈row,t.1<n/\t.2.1<n)(h60:row.length<=60){s0 s1:Option Sl}:∀(ts pre gl:List Tl) (z4 z5 z6:Option Sl),row=pre++ts++gl →
  ∃z4' z5' z6',bn (ff 2 (gC (gN 4) (gC (ff 2 (gC (gN 5) (gC (gN 6) g0))) g0))) cW (cc pre.length (aO (Dw ts))) [s0,s1,some (.val (.lst (ai ((a0m n).map (cS pre))))),some (.own (ai (cs row pre.length))),z4,z5,z6] =
   .nx [s0,s1,some (.val (.lst (ai ((a0m n).map (cS (pre++ts)))))),some (.own (ai (cs row (pre++ts).length))),z4',z5',z6']
 |[],pre,gl,z4,z5,z6,e0=>⟨z4,z5,z6,by rw[a1x];rfl⟩
 |t::ts,pre,gl,z4,z5,z6,e0=>by
  have e1:row=(pre++[t])++ts++gl:=by rw[e0];simp
  have hm:t∈row:=by rw[e0];simp
  have e2:row=pre++(t::(ts++gl)):=by rw[e0];simp
  have et:row[pre.length]?=some t:=by rw[e2,a2m (a0r _),Nat.sub_self];rfl
  have etk:row.take pre.length=pre:=by rw[e2,List.take_left]
  have hpl:pre.length<row.length:=(a0i.mp et).1
  obtain⟨rl,rn⟩:=kj row pre.length
  obtain⟨hx,hy⟩:=hr t hm
  have pl:(pre++[t]).length=pre.length+1:=by rw[a0n];rfl
  have ea:pre++[t]++ts=pre++t::ts:=by simp
  obtain⟨z4',z5',z6',e⟩:=vP hn hr h60 (s0:=s0) (s1:=s1) ts (pre++[t]) gl (some (.val (.int (pre.length:Nat)))) (some (.val (.int (t.1:Nat)))) (some (.val (.int (t.2.1:Nat)))) e1
  refine⟨z4',z5',z6',?_⟩
  rw[ea,pl,Ga] at e
  show bn _ _ (.tup [.int (pre.length:Nat),.tup [.int (t.1:Nat),.int (t.2.1:Nat)]]::cc (pre.length+1) (aO (Dw ts))) _=_
  rw[dI]
  have ux:∀x,x<n->up ((a0m n).map (cS pre)) x=cS pre x:=λx hx=>by
   unfold up
   rw[a0k,a0s,a2r hx];rfl
  have il:((a0m n).map (cS pre)).length=n:=by rw[a0j,a0v]
  have i1:L2.c8 (ai ((a0m n).map (cS pre))) (t.1:Int)=some (.int (cS pre t.1:Nat)):=by rw[au (by rw[il];exact hx),ux _ hx];rfl
  have i2:L2.c8 (ai ((a0m n).map (cS pre))) (t.2.1:Int)=some (.int (cS pre t.2.1:Nat)):=by rw[au (by rw[il];exact hy),ux _ hy];rfl
  have dd:decide ((cS pre t.1:Int)=(cS pre t.2.1:Int))=decide (cS pre t.1=cS pre t.2.1):=decide_eq_decide.mpr (by omega)
  by_cases q:cS pre t.1=cS pre t.2.1
  ·rw[jW et (by rw[etk];exact (Cg pre _ _).mp q),yG q.symm] at e
   simp![cW,bF,aC,bz,aD,fM,aA,ay,aZ,be,aG,cu,bB,bC,cr,ck,cv,cw,bw,aE,bx,aB,cj,bE,aJ,aH,bh,aQ,aU,bf,ax,fL,bH,bc,bg,bA,az,aW,bZ,aN,cq,br,bD,aF,bG,aX,aY,aT,i1,i2,dd,decide_eq_true q]
   exact e
  ·rw[kW et (by rw[etk];exact λz=>q ((Cg pre _ _).mpr z))] at e
   have hl2:(cs row pre.length).length<=100000:=by omega
   have g0:pP (gN 0) n5 eE [none,some (.val (.lst (ai ((a0m n).map (cS pre))))),some (.val (.int (t.1:Nat))),some (.val (.int (t.2.1:Nat)))] (ai ((a0m n).map (cS pre)))=some (ai ((a0m n).map (jn (cS pre) t.2.1 t.1))):=by
    rw[zJ (λc=>.int ((if c=cS pre t.2.1 then cS pre t.1 else c:Nat):Int)) λc hc=>?_]
    ·unfold ai
     rw[a1u,a1u]
     refine congrArg some (a1v λv _=>?_)
     show PV.int ((if cS pre v=cS pre t.2.1 then cS pre t.1 else cS pre v:Nat):Int)=PV.int ((jn (cS pre) t.2.1 t.1 v:Nat):Int)
     rfl
    ·have d2:decide ((c:Int)=(cS pre t.2.1:Int))=decide (c=cS pre t.2.1):=decide_eq_decide.mpr (by omega)
     by_cases z:c=cS pre t.2.1
     ·simp![eE,i1,i2,d2,decide_eq_true z,LB,if_pos z]
     ·simp![eE,i1,i2,d2,decide_eq_false z,LB,if_neg z,a1t,if_false]
   have nl:(ai ((a0m n).map (cS pre))).length<1000:=by rw[fS,il];omega
   simp![cW,bF,aC,bz,aD,fM,aA,ay,aZ,be,aG,cu,bB,bC,cr,ck,cv,cw,bw,aE,bx,aB,cj,bE,aJ,aH,bh,aQ,aU,bf,ax,fL,bH,bc,bg,bA,az,aW,bZ,aN,cq,br,bD,aF,bG,aX,aY,aT,i1,i2,dd,decide_eq_false q,fS,if_pos hl2,lQ,a0j,a0v,if_pos (show n<1000 by omega),g0]
   exact e
theorem I9 {α:Type}(l:List α){k:Nat}(hk:k<=l.length):mB l none (some (k:Int))=l.take k:=by
 unfold mB
 have e1:HT.sIx l.length 0 none=0:=rfl
 have e2:HT.sIx l.length l.length (some (k:Int))=k:=by unfold HT.sIx;simp only[];split<;>omega
 rw[e1,e2,List.drop_zero,Nat.sub_zero]
noncomputable def Rl (row:List Tl)(j:Nat):Prop:=∃t,row[j]?=some t/\cT (row.take j) t.1≠cT (row.take j) t.2.1
theorem mem_real {row:List Tl}{j:Nat}:∀{k:Nat},j∈cs row k↔j<k/\Rl row j
 |0=>⟨λh=>(by cases h),λh=>absurd h.1 (a2p _)⟩
 |k+1=>by
  have ih:=mem_real (row:=row) (j:=j) (k:=k)
  cases et:row[k]? with
  |none=>
   rw[cs,et]
   show j∈cs row k↔_
   rw[ih]
   refine⟨λh=>⟨by omega,h.2⟩,λh=>⟨?_,h.2⟩⟩
   rcases a2f (a2x h.1) with q|q
   ·exact q
   ·obtain⟨t,e,_⟩:=h.2
    rw[q,et] at e;cases e
  |some t=>
   by_cases q:cT (row.take k) t.1=cT (row.take k) t.2.1
   ·rw[jW et q,ih]
    refine⟨λh=>⟨by omega,h.2⟩,λh=>⟨?_,h.2⟩⟩
    rcases a2f (a2x h.1) with z|z
    ·exact z
    ·obtain⟨t',e,n⟩:=h.2
     rw[z,et] at e;cases e
     rw[z] at n
     exact absurd q n
   ·rw[kW et q,a0u,ih,a0f]
    constructor
    ·rintro (h|h)
     ·exact⟨by omega,h.2⟩
     ·rw[h];exact⟨by omega,t,et,q⟩
    ·intro h
     rcases a2f (a2x h.1) with z|z
     ·exact .inl ⟨z,h.2⟩
     ·exact .inr z
theorem oT (row:List Tl)(p:Nat->Bool):∀k,(∀j,j<k->(p j=true↔Rl row j))->cs row k=(a0m k).filter p
 |0,_=>rfl
 |k+1,hp=>by
  have ih:=oT row p k λj hj=>hp j (by omega)
  have hk:=hp k (a2h k)
  rw[List.range_succ,a5i,←ih]
  cases et:row[k]? with
  |none=>
   have:¬p k=true:=λz=>by obtain⟨t,e,_⟩:=hk.mp z;rw[et] at e;cases e
   rw[cs,et,a3r (by simpa using this)]
   simp
  |some t=>
   by_cases q:cT (row.take k) t.1=cT (row.take k) t.2.1
   ·have:¬p k=true:=λz=>by obtain⟨t',e,n⟩:=hk.mp z;rw[et] at e;cases e;exact n q
    rw[jW et q,a3r (by simpa using this)]
    simp
   ·rw[kW et q,a4s (hk.mpr ⟨t,et,q⟩)]
    simp
noncomputable def Ed (row:List Tl)(j a e:Nat):Prop:=∃t,row[j]?=some t/\((a=t.1/\e=t.2.1)\/(a=t.2.1/\e=t.1))
noncomputable def Rq (row:List Tl):List Nat->List Nat->Prop
 |[],[_]=>True
 |j::ns,a::e::vs=>Ed row j a e/\Rq row ns (e::vs)
 |_,_=>False
section
variable {row:List Tl}
theorem Ed.two {j a e c d:Nat}(h:Ed row j a e)(h':Ed row j c d):(a=c/\e=d)\/(a=d/\e=c):=by
 obtain⟨t,et,h⟩:=h
 obtain⟨t',et',h'⟩:=h'
 rw[et] at et';cases et'
 rcases h with ⟨rfl,rfl⟩|⟨rfl,rfl⟩<;>rcases h' with ⟨rfl,rfl⟩|⟨rfl,rfl⟩
 ·exact .inl ⟨rfl,rfl⟩
 ·exact .inr ⟨rfl,rfl⟩
 ·exact .inr ⟨rfl,rfl⟩
 ·exact .inl ⟨rfl,rfl⟩
theorem Ed.c {j a e k:Nat}(h:Ed row j a e)(hj:j<k):cT (row.take k) a=cT (row.take k) e:=by
 obtain⟨t,et,h⟩:=h
 have m:t∈row.take k:=a1i (i:=j) (by rw[a2w,if_pos hj];exact et)
 have e1:cT (row.take k) t.1=cT (row.take k) t.2.1:=jL _ _ _ _ (a1w (f:=λt:Tl=>(t.1,t.2.1)) m)
 rcases h with ⟨rfl,rfl⟩|⟨rfl,rfl⟩
 ·exact e1
 ·exact e1.symm
theorem Ed.r {j a e:Nat}(h:Ed row j a e)(hr:Rl row j):cT (row.take j) a≠cT (row.take j) e:=by
 obtain⟨t,et,h⟩:=h
 obtain⟨t',et',n⟩:=hr
 rw[et] at et';cases et'
 rcases h with ⟨rfl,rfl⟩|⟨rfl,rfl⟩
 ·exact n
 ·exact λq=>n q.symm
theorem KN {k k' a b:Nat}(h:k<=k')(e:cT (row.take k) a=cT (row.take k) b):cT (row.take k') a=cT (row.take k') b:=by
 have:row.take k'=row.take k++(row.drop k).take (k' - k):=by
  rw[show k'=k+(k' - k) by omega,List.take_add];simp
 unfold cT Dw dW at e ⊢
 rw[this,a0z,a4v]
 exact rb _ _ _ _ e
theorem Rq.ne {ns vs:List Nat}(h:Rq row ns vs):vs≠[]:=by
 cases vs with
 |nil=>cases ns<;>cases h
 |cons=>exact List.cons_ne_nil _ _
theorem Rq.c {k:Nat}:∀{ns vs:List Nat} {x y:Nat},Rq row ns vs->vs.head?=some x->vs.getLast?=some y->(∀j∈ns,j<k)->cT (row.take k) x=cT (row.take k) y
 |[],[v],x,y,_,h1,h2,_=>by cases h1;cases h2;rfl
 |[],[],_,_,h,_,_,_=>h.elim
 |[],_::_::_,_,_,h,_,_,_=>h.elim
 |_::_,[],_,_,h,_,_,_=>h.elim
 |_::_,[_],_,_,h,_,_,_=>h.elim
 |j::ns,a::e::vs,x,y,⟨h,t⟩,h1,h2,hk=>by
  cases h1
  rw[a3s] at h2
  exact (h.c (hk j a0e)).trans (t.c rfl h2 λi hi=>hk i (a0c _ hi))
theorem Rq.snoc {j e:Nat}:∀{ns vs:List Nat} {a:Nat},Rq row ns vs->vs.getLast?=some a->Ed row j a e->Rq row (ns++[j]) (vs++[e])
 |[],[v],a,_,h2,h=>by cases h2;exact⟨h,trivial⟩
 |[],[],_,h,_,_=>h.elim
 |[],_::_::_,_,h,_,_=>h.elim
 |_::_,[],_,h,_,_=>h.elim
 |_::_,[_],_,h,_,_=>h.elim
 |i::ns,b::f::vs,a,⟨h,t⟩,h2,he=>by
  rw[a3s] at h2
  exact⟨h,t.snoc h2 he⟩
theorem Rq.split {J:Nat}:∀{ns vs:List Nat},Rq row ns vs->J∈ns->∃A B VA VB a b,ns=A++J::B/\vs=VA++VB/\Rq row A VA/\Rq row B VB/\J∉A/\VA.getLast?=some a/\VB.head?=some b/\Ed row J a b
 |[],_,_,h=>by cases h
 |_::_,[],h,_=>h.elim
 |_::_,[_],h,_=>h.elim
 |j::ns,a::e::vs,⟨h,t⟩,hJ=>by
  by_cases q:j=J
  ·subst q
   exact⟨[],ns,[a],e::vs,a,e,rfl,rfl,trivial,t,a4i,rfl,rfl,h⟩
  ·obtain⟨A,B,VA,VB,a',b',e1,e2,r1,r2,n,l1,l2,hE⟩:=t.split ((a0t.mp hJ).resolve_left λz=>q z.symm)
   obtain⟨w,VA',rfl⟩:∃w VA',VA=w::VA':=by
    cases VA with
    |nil=>cases l1
    |cons w VA'=>exact⟨w,VA',rfl⟩
   have:w=e:=by rw[List.cons_append] at e2;exact (List.cons.inj e2).1.symm
   subst this
   refine⟨j::A,B,a::w::VA',VB,a',b',by rw[e1];rfl,by rw[e2];rfl,⟨h,r1⟩,r2,λz=>?_,by rw[a3s];exact l1,l2,hE⟩
   rcases a0t.mp z with z|z
   ·exact q z.symm
   ·exact n z
theorem Rq.split1 {J:Nat}{ns vs:List Nat}(h:Rq row ns vs)(hJ:J∈ns)(nd:vs.Nodup):∃A B VA VB a b,ns=A++J::B/\vs=VA++VB/\Rq row A VA/\Rq row B VB/\J∉A/\J∉B/\VA.getLast?=some a/\VB.head?=some b/\Ed row J a b:=by
 obtain⟨A,B,VA,VB,a,b,e1,e2,r1,r2,n,l1,l2,hE⟩:=h.split hJ
 refine⟨A,B,VA,VB,a,b,e1,e2,r1,r2,n,λz=>?_,l1,l2,hE⟩
 obtain⟨A',B',V1,V2,c,d,_,e4,_,_,_,l3,l4,hE'⟩:=r2.split z
 subst e2
 have ha:a∈VA:=a5c l1
 have hc:c∈VB:=by rw[e4];exact a0w _ (a5c l3)
 have hd:d∈VB:=by rw[e4];exact a0p _ (List.mem_of_head? l4)
 have dj:=(a1q.mp nd).2.2
 rcases hE.two hE' with ⟨q,_⟩|⟨q,_⟩
 ·exact dj a ha c hc q
 ·exact dj a ha d hd q
theorem EH {ns A B:List Nat}{m:Nat}(h:∀j∈ns,j<m+1)(e:ns=A++m::B)(hA:m∉A)(hB:m∉B):(∀j∈A,j<m)/\∀j∈B,j<m:=by
 refine⟨λj hj=>?_,λj hj=>?_⟩
 ·have:=h j (by rw[e];exact a0w _ hj)
  have:j≠m:=λq=>hA (q▸hj)
  omega
 ·have:=h j (by rw[e];exact a0p _ (a0c _ hj))
  have:j≠m:=λq=>hB (q▸hj)
  omega
theorem lK {VA VB:List Nat}{x:Nat}(h:(VA++VB).head?=some x)(n:VA≠[]):VA.head?=some x:=by
 cases VA with
 |nil=>exact absurd rfl n
 |cons=>exact h
theorem qI {VA VB:List Nat}{x:Nat}(h:(VA++VB).getLast?=some x)(n:VB≠[]):VB.getLast?=some x:=by
 rw[List.getLast?_append] at h
 cases q:VB.getLast? with
 |none=>exact absurd (List.getLast?_eq_none_iff.mp q) n
 |some y=>rw[q] at h;exact h
theorem Rq.apart {m:Nat}{ns vs:List Nat}{x y:Nat}(h:Rq row ns vs)(nd:vs.Nodup)(hx:vs.head?=some x)(hy:vs.getLast?=some y)(hm:m∈ns)(hl:∀j∈ns,j<m+1)(hr:Rl row m):cT (row.take m) x≠cT (row.take m) y:=by
 obtain⟨A,B,VA,VB,a,b,e1,e2,r1,r2,n1,n2,l1,l2,hE⟩:=h.split1 hm nd
 obtain⟨b1,b2⟩:=EH hl e1 n1 n2
 subst e2
 have k1:=r1.c (lK hx r1.ne) l1 b1
 have k2:=r2.c l2 (qI hy r2.ne) b2
 have:=hE.r hr
 rw[k1,←k2];exact this
theorem Rq.uniq:∀(m:Nat) {ns ns' vs vs':List Nat} {x y:Nat},Rq row ns vs->Rq row ns' vs'->vs.Nodup->vs'.Nodup->vs.head?=some x->vs'.head?=some x->vs.getLast?=some y->vs'.getLast?=some y->(∀j∈ns,j<m/\Rl row j)->(∀j∈ns',j<m/\Rl row j)->ns=ns'
 |0,ns,ns',vs,vs',x,y,_,_,_,_,_,_,_,_,l,l'=>by
  have e:∀{q:List Nat},(∀j∈q,j<0/\Rl row j)->q=[]:=λ{q} h=>by
   cases q with
   |nil=>rfl
   |cons j _=>exact absurd (h j a0e).1 (a2p _)
  rw[e l,e l']
 |m+1,ns,ns',vs,vs',x,y,h,h',nd,nd',hx,hx',hy,hy',l,l'=>by
  have L:∀{q:List Nat},(∀j∈q,j<m+1/\Rl row j)->m∉q->∀j∈q,j<m/\Rl row j:=λ{q} h n j hj=>by
   have:=h j hj
   have:j≠m:=λz=>n (z▸hj)
   exact⟨by omega,(h j hj).2⟩
  by_cases hm:m∈ns
  ·have ap:=h.apart nd hx hy hm (λj hj=>(l j hj).1) (l m hm).2
   have hm':m∈ns':=by
    by_cases q:m∈ns'
    ·exact q
    ·exact absurd (h'.c hx' hy' λj hj=>(L l' q j hj).1) ap
   obtain⟨A,B,VA,VB,a,b,e1,e2,r1,r2,n1,n2,l1,l2,hE⟩:=h.split1 hm nd
   obtain⟨A',B',VA',VB',a',b',e1',e2',r1',r2',n1',n2',l1',l2',hE'⟩:=h'.split1 hm' nd'
   obtain⟨b1,b2⟩:=EH (λj hj=>(l j hj).1) e1 n1 n2
   obtain⟨b1',b2'⟩:=EH (λj hj=>(l' j hj).1) e1' n1' n2'
   subst e2 e2'
   have k1:=r1.c (lK hx r1.ne) l1 b1
   have k1':=r1'.c (lK hx' r1'.ne) l1' b1'
   have ne:=hE.r (l m hm).2
   rcases hE.two hE' with ⟨rfl,rfl⟩|⟨rfl,rfl⟩
   ·have a1:=Rq.uniq m r1 r1' (a1q.mp nd).1 (a1q.mp nd').1 (lK hx r1.ne) (lK hx' r1'.ne) l1 l1' (λj hj=>⟨b1 j hj,(l j (by rw[e1];exact a0w _ hj)).2⟩) λj hj=>⟨b1' j hj,(l' j (by rw[e1'];exact a0w _ hj)).2⟩
    have a2:=Rq.uniq m r2 r2' (a1q.mp nd).2.1 (a1q.mp nd').2.1 l2 l2' (qI hy r2.ne) (qI hy' r2'.ne) (λj hj=>⟨b2 j hj,(l j (by rw[e1];exact a0p _ (a0c _ hj))).2⟩) λj hj=>⟨b2' j hj,(l' j (by rw[e1'];exact a0p _ (a0c _ hj))).2⟩
    rw[e1,e1',a1,a2]
   ·exact absurd (k1.symm.trans k1') ne
  ·have hm':m∉ns':=λq=>by
    have ap:=h'.apart nd' hx' hy' q (λj hj=>(l' j hj).1) (l' m q).2
    exact ap (h.c hx hy λj hj=>(L l hm j hj).1)
   exact Rq.uniq m h h' nd nd' hx hx' hy hy' (L l hm) (L l' hm')
theorem Rq.when {ns vs:List Nat}{x y k:Nat}(h:Rq row ns vs)(nd:vs.Nodup)(hx:vs.head?=some x)(hy:vs.getLast?=some y)(hr:∀j∈ns,Rl row j):cT (row.take k) x=cT (row.take k) y↔∀j∈ns,j<k:=by
 refine⟨λe=>?_,λhk=>h.c hx hy hk⟩
 have main:∀(d m:Nat),m<=k+d->(∀j∈ns,j<m)->∀j∈ns,j<k:=λd=>by
  induction d with
  |zero=>intro m hm hl j hj;have:=hl j hj;omega
  |succ d ih=>
   intro m hm hl
   rcases Nat.lt_or_ge k m with q|q
   ·obtain⟨m',rfl⟩:∃m',m=m'+1:=⟨m - 1,by omega⟩
    by_cases hm':m'∈ns
    ·exact absurd (KN (by omega) e) (h.apart nd hx hy hm' hl (hr _ hm'))
    ·exact ih m' (by omega) λj hj=>by
      have:=hl j hj
      have:j≠m':=λz=>hm' (z▸hj)
      omega
   ·intro j hj;have:=hl j hj;omega
 obtain⟨m,hm⟩:∃m,∀j∈ns,j<m:=⟨row.length,λj hj=>by obtain⟨t,e,_⟩:=hr j hj;exact (a0i.mp e).1⟩
 exact main m m (by omega) hm
end
end Dp
end
section
namespace Dp
open PySem L2 Fo Dp
theorem BR {n x z:Nat}(hx:x<n)(hz:z<n):cx [.int n,.tup [.int x,.int z]]=some (.v (.bl true)):=by
 have a0:L2.c8 [PV.int (x:Int),.int (z:Int)] 0=some (.int x):=rfl
 have a1:L2.c8 [PV.int (x:Int),.int (z:Int)] 1=some (.int z):=rfl
 have k2:((2:Nat):Int)=2:=rfl
 have t1:decide ((0:Int)<=(x:Int)/\(x:Int)<(n:Int))=true:=decide_eq_true ⟨by omega,by omega⟩
 have t2:decide ((0:Int)<=(z:Int)/\(z:Int)<(n:Int))=true:=decide_eq_true ⟨by omega,by omega⟩
 simp![vv,lB,k2,a0,a1,zy,t1,t2]
noncomputable def Qv (o:Option Nat):PV:=o.elim .non λn=>.int (n:Int)
noncomputable def sy (ts:List (Option Nat)):List PV:=ts.map Qv
theorem FQ (ts:List (Option Nat)):(sy ts).length=ts.length:=a0j ..
theorem Ff (ts:List (Option Nat))(i k:Nat):(sy ts).set i (.int (k:Int))=sy (ts.set i (some k)):=by
 unfold sy;rw[a5t];rfl
noncomputable def AK (num:Nat)(us us':List Nat)(acc:List (Option Nat))(k:Nat):List (Option Nat):=if up us' k=up us k then acc else acc.set k (some num)
noncomputable def ut (num:Nat)(us us':List Nat)(ks:List Nat)(acc:List (Option Nat)):List (Option Nat):=ks.foldl (AK num us us') acc
theorem uU {num:Nat}{us us':List Nat}{acc:List (Option Nat)}{k:Nat}:(AK num us us' acc k).length=acc.length:=by
 unfold AK;split
 ·rfl
 ·rw[a1c]
theorem nL {num:Nat}{us us':List Nat}:∀(ks:List Nat) (acc:List (Option Nat)),(ut num us us' ks acc).length=acc.length
 |[],_=>rfl
 |k::ks,acc=>by
  show (ut num us us' ks (AK num us us' acc k)).length=_
  rw[nL ks,uU]
theorem zU {n num:Nat}{us us':List Nat}{i:Nat}{b:FS}{R:List (Option Nat)->Option Sl->aq}(hset:∀p acc z,gN i p (R acc z)=some (R acc (some (.val p))))
  (hb:∀acc k,k<n->acc.length=n->b (R acc (some (.val (.int (k:Nat)))))=.nx (R (AK num us us' acc k) (some (.val (.int (k:Nat)))))):∀(ks:List Nat) (acc:List (Option Nat)) (z:Option Sl),(∀k∈ks,k<n)->acc.length=n →
  ∃z',bn (gN i) b (ai ks) (R acc z)=.nx (R (ut num us us' ks acc) z')
 |[],acc,z,_,_=>⟨z,rfl⟩
 |k::ks,acc,z,hk,ha=>by
  obtain⟨z',e⟩:=zU hset hb ks (AK num us us' acc k) (some (.val (.int (k:Nat)))) (λq hq=>hk q (a0c _ hq)) (by rw[uU];exact ha)
  refine⟨z',?_⟩
  show _=Out.nx (R (ut num us us' ks (AK num us us' acc k)) z')
  rw[←e,jJ,dI]
  have h1:=hset (nI k) acc z
  have h2:=hb acc k (hk k a0e) ha
  rw[h1]
  have h2:b (R acc (some (.val (nI k))))=_:=h2
  simp only[uw,u4,h2]
noncomputable def tU (us ms:List Nat)(p:Nat×Nat):List Nat:=dU "size" "none" us ms (.join p.1 p.2)
noncomputable def tM (us ms:List Nat)(p:Nat×Nat):List Nat:=dM "size" us ms (.join p.1 p.2)
noncomputable def rT:List (Nat×Nat)->Nat->List Nat->List Nat->List (Option Nat)->List Nat×List Nat×List (Option Nat)
 |[],_,us,ms,ts=>(us,ms,ts)
 |p::r,k,us,ms,ts=>rT r (k+1) (tU us ms p) (tM us ms p) (ut k us (tU us ms p) (a0m us.length) ts)
theorem uR:("none" : Str)∈cg:=by decide
theorem zS:("size" : Str)∈GD:=by decide
theorem vr {n:Nat}{us ms:List Nat}(S:Sto n us ms){p:Nat×Nat}(h:p.1<n/\p.2<n):Sto n (tU us ms p) (tM us ms p):=BV S uR h
theorem B9 {n:Nat}:∀(row:List (Nat×Nat)) (k:Nat) (us ms:List Nat) (ts:List (Option Nat)),Sto n us ms->ts.length=n->(∀p∈row,p.1<n/\p.2<n)->Sto n (rT row k us ms ts).1 (rT row k us ms ts).2.1/\(rT row k us ms ts).2.2.length=n
 |[],_,_,_,_,S,ht,_=>⟨S,ht⟩
 |p::r,k,us,ms,ts,S,ht,hr=>B9 r (k+1) _ _ _ (vr S (hr p a0e)) (by rw[nL];exact ht) λq hq=>hr q (a0c _ hq)
theorem st2 (j y:Str)(us ms:List Nat):bo (rJ j y us ms) (.int 2)=some (.fz (.tup (ai us))):=rfl
theorem Ay {n:Nat}(h2:n<=40){s1:Option Sl}:∀(row:List (Nat×Nat)) (k:Nat) (us ms:List Nat) (ts:List (Option Nat)) (z4 z5 z6 z7 z8 z9 z10:Option Sl),Sto n us ms->ts.length=n->(∀p∈row,p.1<n/\p.2<n) →
  ∃w4 w5 w6 w7 w8 w9 w10,bn (ff 2 (gC (gN 4) (gC (ff 2 (gC (gN 5) (gC (gN 6) g0))) g0))) dG (cc k (aO row)) [some (.val (.int n)),s1,some (.val (rJ "size" "none" us ms)),some (.own (sy ts)),z4,z5,z6,z7,z8,z9,z10] =
   .nx [some (.val (.int n)),s1,some (.val (rJ "size" "none" (rT row k us ms ts).1 (rT row k us ms ts).2.1)),some (.own (sy (rT row k us ms ts).2.2)),w4,w5,w6,w7,w8,w9,w10]
 |[],k,us,ms,ts,z4,z5,z6,z7,z8,z9,z10,_,_,_=>⟨z4,z5,z6,z7,z8,z9,z10,rfl⟩
 |(x,z)::row,k,us,ms,ts,z4,z5,z6,z7,z8,z9,z10,S,ht,hr=>by
  have h:=hr (x,z) a0e
  have S':=vr S h
  have ej:=GK S zS uR h.1 h.2
  obtain⟨w10,el⟩:=zU (n:=n) (num:=k) (us:=us) (us':=tU us ms (x,z)) (i:=10) (b:=cf)
   (R:=λacc q=>[some (.val (.int n)),s1,some (.val (rJ "size" "none" us ms)),some (.own (sy acc)),some (.val (.int k)),some (.val (.int x)),some (.val (.int z)),some (.val (rJ "size" "none" (tU us ms (x,z)) (tM us ms (x,z)))),some (.val (dA us (.join x z))),some (.val (.int (dS "none" us (.join x z):Nat))),q]) (λp acc q=>rfl) (λacc q hq ha=>by
    have l1:q<us.length:=by rw[S.lu];exact hq
    have l2:q<(tU us ms (x,z)).length:=by rw[S'.lu];exact hq
    have d:decide ((up (tU us ms (x,z)) q:Int)=(up us q:Int))=decide (up (tU us ms (x,z)) q=up us q):=decide_eq_decide.mpr (by omega)
    unfold AK
    by_cases e:up (tU us ms (x,z)) q=up us q
    ·rw[if_pos e]
     simp![cf,st2,au l1,au l2,d,decide_eq_true e]
    ·rw[if_neg e]
     simp![cf,st2,au l1,au l2,d,decide_eq_false e,FQ,fy (show q<acc.length by omega),Ff]) (a0m us.length) ts z10 (λq hq=>by have:=a1b.mp hq;rw[S.lu] at this;exact this) ht
  obtain⟨w4,w5,w6,w7,w8,w9,v10,e⟩:=Ay h2 (s1:=s1) row (k+1) (tU us ms (x,z)) (tM us ms (x,z)) (ut k us (tU us ms (x,z)) (a0m us.length) ts) (some (.val (.int k))) (some (.val (.int x))) (some (.val (.int z))) (some (.val (rJ "size" "none" (tU us ms (x,z)) (tM us ms (x,z))))) (some (.val (dA us (.join x z)))) (some (.val (.int (dS "none" us (.join x z):Nat)))) w10 S' (by rw[nL];exact ht) λq hq=>hr q (a0c _ hq)
  refine⟨w4,w5,w6,w7,w8,w9,v10,?_⟩
  rw[show rT ((x,z)::row) k us ms ts=rT row (k+1) (tU us ms (x,z)) (tM us ms (x,z)) (ut k us (tU us ms (x,z)) (a0m us.length) ts) from rfl,←e,show cc k (aO ((x,z)::row))=.tup [.int k,.tup [.int x,.int z]]::cc (k+1) (aO row) from rfl,dI]
  have ej:hK [rJ "size" "none" us ms,.int x,.int z]=some (.v (.tup [rJ "size" "none" (tU us ms (x,z)) (tM us ms (x,z)),dA us (.join x z),.int (dS "none" us (.join x z):Nat)])):=ej
  rw[S.lu] at el ⊢
  simp![dG,ej,K1 (show n<=100000 by omega),el]
theorem N0:∀n:Nat,(a0l n [PV.non]).flatten=sy (a0l n none)
 |0=>rfl
 |n+1=>by rw[a2l,a3a,N0 n];rfl
theorem PS {n:Nat}(h:n<=1000):gh (.lst [.non]) (.int n)=some (.nw (sy (a0l n none))):=by
 show (if ((n:Int)<=1000/\-1000<=(n:Int)/\[PV.non].length<=100) then some (RV.nw (a0l (n:Int).toNat [PV.non]).flatten) else none)=_
 rw[if_pos ⟨by omega,by omega,by decide⟩,a1e,N0]
noncomputable def rU (n:Nat)(row:List (Nat×Nat)):List Nat:=(rT row 0 (a0m n) (a0l n (NY "size")) (a0l n none)).1
noncomputable def rW (n:Nat)(row:List (Nat×Nat)):List (Option Nat):=(rT row 0 (a0m n) (a0l n (NY "size")) (a0l n none)).2.2
theorem Df {n:Nat}(h1:1<=n)(h2:n<=40):Sto n (a0m n) (a0l n (NY "size")):=⟨qT h1 h2,a0v,a1n⟩
theorem L0 {n:Nat}(h1:1<=n)(h2:n<=40){row:List (Nat×Nat)}(hr:∀p∈row,p.1<n/\p.2<n):b9 [.int n,.tup (aO row)]=some (.v (.tup [.tup (ai (rU n row)),.tup (sy (rW n row))])):=by
 obtain⟨w4,w5,w6,w7,w8,w9,w10,e⟩:=Ay h2 (s1:=some (.val (.tup (aO row)))) row 0 _ _ (a0l n none) none none none none none none none (Df h1 h2) a1n hr
 unfold rU rW
 simp![lL,eG,LL h1 h2 zS uR,PS (show n<=1000 by omega),Aw,sH,e,st2]
noncomputable def m6 (ts:List (Option Nat))(x:Nat):Option Nat:=(ts[x]?).join
structure Tin (k:Nat)(us:List Nat)(ts:List (Option Nat)):Prop where
 hd:∀x,x<us.length->(up us x=x↔m6 ts x=none)
 lt:∀x t,m6 ts x=some t->t<k
 le:∀x,x<us.length->up us x≠x->∀t',m6 ts (up us x)=some t'->∃t,m6 ts x=some t/\t<t'
theorem F5 {ts:List (Option Nat)}{u k x:Nat}(hu:u<ts.length):m6 (ts.set u (some k)) x=if x=u then some k else m6 ts x:=by
 unfold m6
 rw[a3c]
 by_cases h:u=x
 ·subst h;rw[if_pos rfl,if_pos hu,if_pos rfl];rfl
 ·rw[if_neg h,if_neg λz=>h z.symm]
theorem rA {k:Nat}{us:List Nat}:∀(ks:List Nat) (ts:List (Option Nat)),ut k us us ks ts=ts
 |[],_=>rfl
 |q::ks,ts=>by
  show ut k us us ks (AK k us us ts q)=ts
  rw[show AK k us us ts q=ts from if_pos rfl,rA ks]
theorem yd {k:Nat}{us us':List Nat}:∀(ks:List Nat) (ts:List (Option Nat)) (x:Nat),(∀q∈ks,q<ts.length)->m6 (ut k us us' ks ts) x=if x∈ks/\up us' x≠up us x then some k else m6 ts x
 |[],ts,x,_=>by rw[if_neg λh=>by cases h.1];rfl
 |q::ks,ts,x,h=>by
  show m6 (ut k us us' ks (AK k us us' ts q)) x=_
  rw[yd ks _ x λr hr=>by rw[uU];exact h r (a0c _ hr)]
  have hq:=h q a0e
  have e1:m6 (AK k us us' ts q) x=if x=q/\up us' q≠up us q then some k else m6 ts x:=by
   unfold AK
   by_cases e:up us' q=up us q
   ·rw[if_pos e,if_neg λz=>z.2 e]
   ·rw[if_neg e,F5 hq]
    by_cases e2:x=q
    ·rw[if_pos e2,if_pos ⟨e2,e⟩]
    ·rw[if_neg e2,if_neg λz=>e2 z.1]
  rw[e1]
  by_cases a:x∈ks/\up us' x≠up us x
  ·rw[if_pos a,if_pos ⟨a0c _ a.1,a.2⟩]
  ·rw[if_neg a]
   by_cases b:x=q/\up us' q≠up us q
   ·rw[if_pos b,if_pos ⟨by rw[b.1];exact a0e,by rw[b.1];exact b.2⟩]
   ·rw[if_neg b,if_neg λz=>?_]
    rcases a0t.mp z.1 with e|e
    ·exact b ⟨e,by rw[←e];exact z.2⟩
    ·exact a ⟨e,z.2⟩
theorem u9 (us:List Nat)(x:Nat):hV "none" us x=us:=(lr rfl λt ht=>by simp only[jQ,n7,n8,n9,QA,if_false]).symm
theorem D4 {us ms:List Nat}{p:Nat×Nat}:tU us ms p=if hd us p.1=hd us p.2 then us else AN "size" us ms (hd us p.1) (hd us p.2):=by
 show (if hd us p.1=hd us p.2 then hV "none" (hV "none" us p.1) p.2 else AN "size" (hV "none" (hV "none" us p.1) p.2) ms _ _)=_
 rw[u9,u9]
theorem wu {n k:Nat}{us ms:List Nat}{ts:List (Option Nat)}(S:Sto n us ms)(ht:ts.length=n){p:Nat×Nat}(h:p.1<n/\p.2<n)(T:Tin k us ts):Tin (k+1) (tU us ms p) (ut k us (tU us ms p) (a0m us.length) ts):=by
 rw[D4]
 by_cases e:hd us p.1=hd us p.2
 ·rw[if_pos e,rA]
  exact⟨T.hd,λx t q=>a3w (T.lt x t q),T.le⟩
 ·rw[if_neg e]
  obtain⟨f,lu,lm⟩:=S
  have hx:p.1<us.length:=by omega
  have hz:p.2<us.length:=by omega
  have main:∀u v,u<us.length->v<us.length->up us u=u->up us v=v->v≠u->Tin (k+1) (us.set u v) (ut k us (us.set u v) (a0m us.length) ts):=λu v hu hv eu ev ne=>by
   have at':∀x,m6 (ut k us (us.set u v) (a0m us.length) ts) x=if x=u then some k else m6 ts x:=λx=>by
    rw[yd _ _ _ λq hq=>by have:=a1b.mp hq;omega,ez hu]
    by_cases q:x=u
    ·rw[if_pos q,if_pos q,if_pos ⟨by rw[q];exact a1b.mpr hu,by rw[q,eu];exact ne⟩]
    ·rw[if_neg q,if_neg q,if_neg λz=>z.2 rfl]
   refine⟨λx hx=>?_,λx t=>?_,λx hx=>?_⟩
   ·rw[a1c] at hx
    rw[at',ez hu]
    by_cases q:x=u
    ·rw[if_pos q,if_pos q,q];exact⟨λz=>absurd z ne,λz=>by cases z⟩
    ·rw[if_neg q,if_neg q];exact T.hd x hx
   ·rw[at']
    split
    ·intro z;cases z;exact a2h _
    ·intro z;exact a3w (T.lt x t z)
   ·rw[a1c] at hx
    rw[ez hu]
    by_cases q:x=u
    ·rw[if_pos q]
     intro _ t' z
     rw[at',if_neg ne,(T.hd v hv).mp ev] at z
     cases z
    ·rw[if_neg q]
     intro hn t' z
     rw[at'] at z
     rw[at',if_neg q]
     by_cases w:up us x=u
     ·rw[if_pos w] at z
      cases z
      cases c:m6 ts x with
      |none=>exact absurd ((T.hd x hx).mpr c) hn
      |some t=>exact⟨t,rfl,T.lt x t c⟩
     ·rw[if_neg w] at z
      exact T.le x hx hn t' z
  have a1:=mn f.fst hx
  have a2:=mn f.fst hz
  have b1:=re f.fst hx
  have b2:=re f.fst hz
  unfold AN tp un
  cases stay "size" ms (hd us p.1) (hd us p.2) with
  |true=>exact main _ _ a2 a1 b2 b1 e
  |false=>exact main _ _ a1 a2 b1 b2 λz=>e z.symm
theorem zq {n:Nat}:∀(row:List (Nat×Nat)) (k:Nat) (us ms:List Nat) (ts:List (Option Nat)),Sto n us ms->ts.length=n->(∀p∈row,p.1<n/\p.2<n)->Tin k us ts->Tin (k+row.length) (rT row k us ms ts).1 (rT row k us ms ts).2.2
 |[],_,_,_,_,_,_,_,T=>T
 |p::r,k,us,ms,ts,S,ht,hr,T=>by
  have:=zq r (k+1) _ _ (ut k us (tU us ms p) (a0m us.length) ts) (vr S (hr p a0e)) (by rw[nL];exact ht) (λq hq=>hr q (a0c _ hq)) (wu S ht (hr p a0e) T)
  rw[a0o,show k+(r.length+1)=k+1+r.length by omega]
  exact this
theorem Mp (n:Nat):Tin 0 (a0m n) (a0l n none):=by
 have t0:∀x,m6 (a0l n none) x=none:=λx=>by
  unfold m6
  rw[a2j]
  split<;>rfl
 have u:∀x,x<n->up (a0m n) x=x:=λx hx=>by unfold up;rw[a0k,a2r hx];rfl
 refine⟨λx hx=>⟨λ_=>t0 x,λ_=>u x (by rwa [a0v] at hx)⟩,λx t z=>(by rw[t0] at z;cases z),λx hx hn=>absurd (u x (by rwa [a0v] at hx)) hn⟩
theorem CG {n:Nat}(h1:1<=n)(h2:n<=40){row:List (Nat×Nat)}(hr:∀p∈row,p.1<n/\p.2<n):Tin row.length (rU n row) (rW n row)/\Frst (rU n row)/\(rU n row).length=n/\(rW n row).length=n:=by
 obtain⟨S,l⟩:=B9 row 0 _ _ (a0l n none) (Df h1 h2) a1n hr
 have T:=zq row 0 _ _ _ (Df h1 h2) a1n hr (Mp n)
 rw[a2z] at T
 exact⟨T,S.f,S.lu,l⟩
end Dp
end
section
namespace Dp
open PySem L2 Fo Pt
theorem pR {us:List Nat}(f:Frst us){u t:Nat}(hu:u<us.length)(ht:t<us.length)(eu:up us u=u)(et:up us t=t)(ne:t≠u){z:Nat}(hz:z<us.length):hd (us.set u t) z=if hd us z=u then t else hd us z:=by
 have f':=oN f hu ht eu et ne
 have l':(us.set u t).length=us.length:=a1c
 have ht':hd (us.set u t) t=t:=jg f'.fst (by omega) (by rw[ez hu,if_neg ne];exact et)
 have main:∀{z:Nat} {l:List Nat},Way us z l->z<us.length->hd (us.set u t) z=if hd us z=u then t else hd us z:=λ{z l} w=>by
  induction w with
  | @head z e=>
   intro hz
   rw[jg f.fst hz e]
   by_cases q:z=u
   ·subst q
    rw[if_pos rfl,←Ab f'.fst (by omega),ez hu,if_pos rfl,ht']
   ·rw[if_neg q]
    exact jg f'.fst (by omega) (by rw[ez hu,if_neg q];exact e)
  | @step z l n w ih=>
   intro hz
   have q:z≠u:=λq=>n (by rw[q];exact eu)
   have:=ih (f.fst.bnd z hz)
   rw[Ab f.fst hz] at this
   rw[←this,←Ab f'.fst (show z<(us.set u t).length by omega),ez hu,if_neg q]
 exact main (c6 f.fst hz) hz
theorem Om {P Q X Y:Nat}:(if X=P then Q else X)=(if Y=P then Q else Y)↔X=Y\/(X=P\/X=Q)/\(Y=P\/Y=Q):=by
 by_cases h1:X=P
 ·rw[if_pos h1]
  by_cases h2:Y=P
  ·rw[if_pos h2];exact⟨λ_=>.inr ⟨.inl h1,.inl h2⟩,λ_=>rfl⟩
  ·rw[if_neg h2];exact⟨λe=>.inr ⟨.inl h1,.inr e.symm⟩,λe=>e.elim (λe=>absurd (e.symm.trans h1) h2) λe=>(e.2.resolve_left h2).symm⟩
 ·rw[if_neg h1]
  by_cases h2:Y=P
  ·rw[if_pos h2];exact⟨λe=>.inr ⟨.inr e,.inl h2⟩,λe=>e.elim (λe=>absurd (e.trans h2) h1) λe=>e.1.resolve_left h1⟩
  ·rw[if_neg h2];exact⟨.inl,λe=>e.elim id λe=>(e.1.resolve_left h1).trans (e.2.resolve_left h2).symm⟩
theorem Bg {X Y A B x y a b:Nat}(ne:A≠B)(x1:X=A↔x=a)(x2:X=B↔x=b)(y1:Y=A↔y=a)(y2:Y=B↔y=b)(xy:X=Y↔x=y):((if X=B then A else X)=(if Y=B then A else Y)↔(if x=a then b else x)=(if y=a then b else y)):=by
 rw[Om,Om,x1,x2,y1,y2,xy,Or.comm (a:=x=b),Or.comm (a:=y=b)]
theorem xQ {X Y A B x y a b:Nat}(ne:A≠B)(x1:X=A↔x=a)(x2:X=B↔x=b)(y1:Y=A↔y=a)(y2:Y=B↔y=b)(xy:X=Y↔x=y):((if X=A then B else X)=(if Y=A then B else Y)↔(if x=a then b else x)=(if y=a then b else y)):=by
 rw[Om,Om,x1,x2,y1,y2,xy]
noncomputable def Ik (n:Nat)(us:List Nat)(c:Nat->Nat):Prop:=∀x y,x<n->y<n->(hd us x=hd us y↔c x=c y)
theorem wd {n:Nat}{us ms:List Nat}{c:Nat->Nat}(S:Sto n us ms){p:Nat×Nat}(h:p.1<n/\p.2<n)(K:Ik n us c):Ik n (tU us ms p) (jn c p.1 p.2):=by
 rw[D4]
 have kp:=K p.1 p.2 h.1 h.2
 by_cases e:hd us p.1=hd us p.2
 ·rw[if_pos e,yG (kp.mp e)];exact K
 ·rw[if_neg e]
  obtain⟨f,lu,lm⟩:=S
  have hx:p.1<us.length:=by omega
  have hz:p.2<us.length:=by omega
  have a1:=mn f.fst hx
  have a2:=mn f.fst hz
  have b1:=re f.fst hx
  have b2:=re f.fst hz
  intro x y lx ly
  have x1:=K x p.1 lx h.1
  have x2:=K x p.2 lx h.2
  have y1:=K y p.1 ly h.1
  have y2:=K y p.2 ly h.2
  have xy:=K x y lx ly
  unfold jn
  unfold AN tp un
  cases stay "size" ms (hd us p.1) (hd us p.2) with
  |true=>
   show hd (us.set (hd us p.2) (hd us p.1)) x=hd (us.set (hd us p.2) (hd us p.1)) y↔_
   rw[pR f a2 a1 b2 b1 e (by omega),pR f a2 a1 b2 b1 e (by omega)]
   exact Bg e x1 x2 y1 y2 xy
  |false=>
   show hd (us.set (hd us p.1) (hd us p.2)) x=hd (us.set (hd us p.1) (hd us p.2)) y↔_
   rw[pR f a1 a2 b1 b2 (λz=>e z.symm) (by omega),pR f a1 a2 b1 b2 (λz=>e z.symm) (by omega)]
   exact xQ e x1 x2 y1 y2 xy
theorem yT {n:Nat}:∀(row:List (Nat×Nat)) (k:Nat) (us ms:List Nat) (ts:List (Option Nat)) (c:Nat->Nat),Sto n us ms->(∀p∈row,p.1<n/\p.2<n)->Ik n us c->Ik n (rT row k us ms ts).1 (dW row c)
 |[],_,_,_,_,_,_,_,K=>K
 |p::r,k,us,ms,ts,c,S,hr,K=>by
  rw[nj]
  exact yT r (k+1) _ _ _ _ (vr S (hr p a0e)) (λq hq=>hr q (a0c _ hq)) (wd S (hr p a0e) K)
theorem MP {n:Nat}(h1:1<=n)(h2:n<=40):Ik n (a0m n) id:=λx y hx hy=>by
 have u:∀x,x<n->up (a0m n) x=x:=λx hx=>by unfold up;rw[a0k,a2r hx];rfl
 have f:=qT h1 h2
 rw[jg f.fst (by rw[a0v];exact hx) (u x hx),jg f.fst (by rw[a0v];exact hy) (u y hy)]
 exact Iff.rfl
end Dp
end
section
namespace Dp
open PySem L2 Fo Dp
end Dp
end
section
namespace Dp
open PySem L2 Fo Dp Lo Pt
noncomputable def mL (ls:List (List Nat)):List PV:=ls.map λl=>.tup (ai l)
theorem sX (ls:List (List Nat)):(mL ls).length=ls.length:=a0j ..
theorem EU (l:List Nat):(l.map a2y).map PV.int=ai l:=by unfold ai;rw[a1u];rfl
theorem wD (l:List Nat):gv (ai l)=some (l.map a2y):=by rw[←EU,xB]
noncomputable def QB (acc l:List Nat):List Nat:=l.foldl (λa t=>a.set t (up a t+1)) acc
noncomputable def sz (us:List Nat):List Nat:=(a0m us.length).foldl (λacc x=>QB acc (way us x)) (a0l us.length 0)
theorem Hx:∀n:Nat,(a0l n [PV.int 0]).flatten=ai (a0l n 0)
 |0=>rfl
 |n+1=>by rw[a2l,a3a,Hx n];rfl
theorem Pk {n:Nat}(h:n<=1000):gh (.lst [.int 0]) (.int n)=some (.nw (ai (a0l n 0))):=by
 show (if ((n:Int)<=1000/\-1000<=(n:Int)/\[PV.int 0].length<=100) then some (RV.nw (a0l (n:Int).toNat [PV.int 0]).flatten) else none)=_
 rw[if_pos ⟨by omega,by omega,by decide⟩,a1e,Hx]
theorem xD {us:List Nat}(f:Frst us){x:Nat}(hx:x<us.length):iF [.tup (ai us),.int x]=some (.v (.tup (ai (cl us.length (hd us) x)))):=by
 have hm:=f.most
 have e:=jK (t:=gN 0) (c:=jy) (f:=jt) (ρ:=[none,some (.val (.tup (ai us))),some (.val (.int (hd us x:Nat)))]) (λp=>match p with|.int i=>decide (hd us i.toNat=hd us x)|_=>false) id (its:=ai (a0m us.length)) (λp hp=>by
  obtain⟨y,hy,rfl⟩:=qp hp
  have hy:=a1b.mp hy
  refine⟨_,rfl,?_,λ_=>?_⟩
  ·have d:decide ((hd us y:Int)=(hd us x:Int))=decide (hd us y=hd us x):=decide_eq_decide.mpr (by omega)
   simp![jy,Iu (.inl rfl) f hy,El f hy,d,a1e]
  ·simp![jt,id])
 have e2:(ai (a0m us.length)).filter (λp=>match p with|.int i=>decide (hd us i.toNat=hd us x)|_=>false)=ai (cl us.length (hd us) x):=by
  unfold ai cl
  rw[a3e];rfl
 rw[a5q,e2] at e
 have hn:us.length<1000:=by omega
 simp![uO,kB,Iu (.inl rfl) f hx,El f hx,K1 (show us.length<=100000 by omega),a0v,hn,e]
end Dp
end
section
namespace Dp
open PySem PySem.Spec L2 Fo Pt
noncomputable def tl (row:List (Nat×Nat)):List Tl:=row.map λp=>(p.1,p.2,(0:Int))
theorem uA (row:List (Nat×Nat)):Dw (tl row)=row:=by
 unfold Dw tl
 rw[a1u]
 exact (a1v λp _=>rfl).trans (a5q _)
theorem um (row:List (Nat×Nat))(k:Nat):(tl row).take k=tl (row.take k):=by unfold tl;rw[a4y]
theorem qo (row:List (Nat×Nat)):(tl row).length=row.length:=a0j ..
theorem sF {row:List (Nat×Nat)}{j:Nat}{p:Nat×Nat}(h:row[j]?=some p):(tl row)[j]?=some (p.1,p.2,0):=by unfold tl;rw[a0s,h];rfl
theorem Iw (row:List (Nat×Nat))(k:Nat):cT ((tl row).take k)=dW (row.take k) id:=by rw[um];unfold cT;rw[uA]
theorem AB {n:Nat}{row:List (Nat×Nat)}(hr:∀p∈row,p.1<n/\p.2<n):∀t∈tl row,t.1<n/\t.2.1<n:=λt ht=>by
 obtain⟨p,hp,rfl⟩:=a1k.mp ht
 exact hr p hp
theorem Mm {row:List (Nat×Nat)}{j:Nat}:Rl (tl row) j↔∃p,row[j]?=some p/\dW (row.take j) id p.1≠dW (row.take j) id p.2:=by
 unfold Rl
 rw[Iw]
 constructor
 ·rintro⟨t,e,h⟩
  unfold tl at e
  rw[a0s] at e
  obtain⟨p,e0,rfl⟩:=a0d.mp e
  exact⟨p,e0,h⟩
 ·rintro⟨p,e,h⟩
  exact⟨_,sF e,h⟩
theorem tP {n:Nat}{s1:Option Sl}:∀(row:List (Nat×Nat)) (k:Nat) (z3 z4:Option Sl),(∀p∈row,p.1<n/\p.2<n) →
  ∃w3 w4,bn (ff 2 (gC (gN 3) (gC (gN 4) g0))) iM (cc k (aO row)) [some (.val (.int n)),s1,some (.val (.fn "is_pair")),z3,z4]=.nx [some (.val (.int n)),s1,some (.val (.fn "is_pair")),w3,w4]
 |[],k,z3,z4,_=>⟨z3,z4,rfl⟩
 |(x,z)::row,k,z3,z4,hr=>by
  have hx:x<n:=(hr (x,z) a0e).1
  have hz:z<n:=(hr (x,z) a0e).2
  obtain⟨w3,w4,e⟩:=tP (s1:=s1) row (k+1) (some (.val (.int k))) (some (.val (.tup [.int x,.int z]))) λp hp=>hr p (a0c _ hp)
  refine⟨w3,w4,?_⟩
  rw[←e,show cc k (aO ((x,z)::row))=.tup [.int k,.tup [.int x,.int z]]::cc (k+1) (aO row) from rfl,dI]
  simp![iM,Dr,EV,LK,Qu,QK,QC,QO,BR hx hz]
theorem Cw {n:Nat}{row:List (Nat×Nat)}(hr:∀p∈row,p.1<n/\p.2<n):gT [.int n,.tup (aO row)]=some (.v .non):=by
 obtain⟨w3,w4,e⟩:=tP (n:=n) (s1:=some (.val (.tup (aO row)))) row 0 none none hr
 have e':jk [.int n,.tup (aO row),.fn "is_pair"]=some (.v .non):=by
  simp![rM,jq,Aw,sH,e]
 simp![pD,ik,e']
theorem vF {n:Nat}{row:List (Nat×Nat)}(h1:1<=n)(h2:n<=40)(hr:∀p∈row,p.1<n/\p.2<n):bu [.int n,.tup (aO row)]=some (.v .non):=by
 simp![kF,de,lC,fR,Az h1 h2,Cw hr]
theorem GI {n k:Nat}{us ms:List Nat}{ts:List (Option Nat)}{c:Nat->Nat}(S:Sto n us ms)(ht:ts.length=n){p:Nat×Nat}(h:p.1<n/\p.2<n)(T:Tin k us ts)(K:Ik n us c)(j:Nat):(∃x,m6 (ut k us (tU us ms p) (a0m us.length) ts) x=some j)↔(∃x,m6 ts x=some j)\/(j=k/\c p.1≠c p.2):=by
 rw[D4]
 have kp:=K p.1 p.2 h.1 h.2
 by_cases e:hd us p.1=hd us p.2
 ·rw[if_pos e,rA]
  exact⟨.inl,λz=>z.elim id λz=>absurd (kp.mp e) z.2⟩
 ·rw[if_neg e]
  have ne:c p.1≠c p.2:=λz=>e (kp.mpr z)
  obtain⟨f,lu,lm⟩:=S
  have hx:p.1<us.length:=by omega
  have hz:p.2<us.length:=by omega
  have main:∀u v,u<us.length->up us u=u->v≠u->((∃x,m6 (ut k us (us.set u v) (a0m us.length) ts) x=some j)↔(∃x,m6 ts x=some j)\/(j=k/\c p.1≠c p.2)):=λu v hu eu nv=>by
   have at':∀x,m6 (ut k us (us.set u v) (a0m us.length) ts) x=if x=u then some k else m6 ts x:=λx=>by
    rw[yd _ _ _ λq hq=>by have:=a1b.mp hq;omega,ez hu]
    by_cases q:x=u
    ·rw[if_pos q,if_pos q,if_pos ⟨by rw[q];exact a1b.mpr hu,by rw[q,eu];exact nv⟩]
    ·rw[if_neg q,if_neg q,if_neg λz=>z.2 rfl]
   have tu:=(T.hd u hu).mp eu
   constructor
   ·rintro⟨x,q⟩
    rw[at'] at q
    by_cases w:x=u
    ·rw[if_pos w] at q;cases q;exact .inr ⟨rfl,ne⟩
    ·rw[if_neg w] at q;exact .inl ⟨x,q⟩
   ·rintro (⟨x,q⟩|⟨rfl,_⟩)
    ·refine⟨x,?_⟩
     rw[at',if_neg λw=>by rw[w,tu] at q;cases q]
     exact q
    ·exact⟨u,by rw[at',if_pos rfl]⟩
  have a1:=mn f.fst hx
  have a2:=mn f.fst hz
  have b1:=re f.fst hx
  have b2:=re f.fst hz
  unfold AN tp un
  cases stay "size" ms (hd us p.1) (hd us p.2) with
  |true=>exact main _ _ a2 b2 e
  |false=>exact main _ _ a1 b1 λz=>e z.symm
theorem BG {n:Nat}(j:Nat):∀(row:List (Nat×Nat)) (k:Nat) (us ms:List Nat) (ts:List (Option Nat)) (c:Nat->Nat),Sto n us ms->ts.length=n->(∀p∈row,p.1<n/\p.2<n)->Tin k us ts->Ik n us c →
  ((∃x,m6 (rT row k us ms ts).2.2 x=some j)↔(∃x,m6 ts x=some j)\/∃i p,row[i]?=some p/\j=k+i/\dW (row.take i) c p.1≠dW (row.take i) c p.2)
 |[],k,us,ms,ts,c,_,_,_,_,_=>⟨.inl,λz=>z.elim id λ⟨i,p,e,_⟩=>by simp at e⟩
 |p::r,k,us,ms,ts,c,S,ht,hr,T,K=>by
  have hp:=hr p a0e
  have ih:=BG j r (k+1) _ _ (ut k us (tU us ms p) (a0m us.length) ts) (jn c p.1 p.2) (vr S hp) (by rw[nL];exact ht) (λq hq=>hr q (a0c _ hq)) (wu S ht hp T) (wd S hp K)
  refine ih.trans ?_
  rw[GI S ht hp T K]
  constructor
  ·rintro ((h|⟨rfl,h⟩)|⟨i,q,e,rfl,h⟩)
   ·exact .inl h
   ·exact .inr ⟨0,p,rfl,rfl,h⟩
   ·exact .inr ⟨i+1,q,e,by omega,h⟩
  ·rintro (h|⟨i,q,e,rfl,h⟩)
   ·exact .inl (.inl h)
   ·cases i with
    |zero=>cases e;exact .inl (.inr ⟨rfl,h⟩)
    |succ i=>exact .inr ⟨i,q,e,by omega,h⟩
theorem xO {n:Nat}(h1:1<=n)(h2:n<=40){row:List (Nat×Nat)}(hr:∀p∈row,p.1<n/\p.2<n)(j:Nat):(∃x,m6 (rW n row) x=some j)↔Rl (tl row) j:=by
 refine (BG j row 0 _ _ _ id (Df h1 h2) a1n hr (Mp n) (MP h1 h2)).trans ?_
 rw[Mm]
 constructor
 ·rintro (⟨x,q⟩|⟨i,p,e,rfl,h⟩)
  ·unfold m6 at q
   rw[a2j] at q
   split at q<;>cases q
  ·rw[a2z];exact⟨p,e,h⟩
 ·rintro⟨p,e,h⟩
  exact .inr ⟨j,p,e,by omega,h⟩
theorem IF (j:Nat)(ts:List (Option Nat)):pin (.int (j:Nat)) (sy ts)=true↔∃x,m6 ts x=some j:=by
 unfold pin sy
 rw[a5d,List.any_eq_true]
 constructor
 ·rintro⟨o,ho,e⟩
  cases o with
  |none=>cases e
  |some i=>
   have e:decide ((i:Int)=(j:Int))=true:=e
   have:i=j:=by have:=of_decide_eq_true e;omega
   subst this
   obtain⟨x,hx,ex⟩:=a2t ho
   exact⟨x,by unfold m6;rw[a0h hx,ex];rfl⟩
 ·rintro⟨x,e⟩
  unfold m6 at e
  cases q:ts[x]? with
  |none=>rw[q] at e;cases e
  |some o=>
   rw[q] at e
   refine⟨o,a1i q,?_⟩
   rw[show o=some j from e]
   exact decide_eq_true rfl
theorem tE:∀ts:List (Option Nat),aK (sy ts)=true/\dF (sy ts)=0
 |[]=>by unfold sy;exact⟨by rw[a3h,aK],by rw[a3h,dF]⟩
 |o::ts=>by
  obtain⟨h1,h2⟩:=tE ts
  unfold sy at h1 h2 ⊢
  rw[a1f,aK,dF,h1,h2]
  cases o<;>exact⟨rfl,rfl⟩
noncomputable abbrev j8 (row:List (Nat×Nat)):List Nat:=cs (tl row) row.length
theorem Gg {n:Nat}(h1:1<=n)(h2:n<=40){row:List (Nat×Nat)}(hr:∀p∈row,p.1<n/\p.2<n)(h60:row.length<=100):fQ [.int n,.tup (aO row)]=some (.n (ai (j8 row))):=by
 have a1:∀a b:PV,L2.c8 [a,b] 1=some b:=λa b=>rfl
 obtain⟨p1,p2⟩:=tE (rW n row)
 have e:=jK (t:=gN 0) (c:=dN) (f:=dQ) (ρ:=[none,some (.val (.tup (sy (rW n row))))]) (λp=>pin p (sy (rW n row))) id (its:=ai (a0m row.length)) (λp hp=>by
  obtain⟨y,hy,rfl⟩:=qp hp
  refine⟨_,rfl,?_,λ_=>?_⟩
  ·simp![dN,p1,p2]
  ·simp![dQ,id])
 have e2:(ai (a0m row.length)).filter (λp=>pin p (sy (rW n row)))=ai (j8 row):=by
  show _=ai (cs (tl row) row.length)
  rw[oT (tl row) (λj=>pin (.int (j:Nat)) (sy (rW n row))) row.length λj _=>(IF j _).trans (xO h1 h2 hr j)]
  unfold ai
  rw[a3e];rfl
 rw[a5q,e2] at e
 simp![oQ,gB,dN,dQ,bF,aC,bz,aD,fM,aA,ay,aZ,be,aG,cu,bB,bC,cr,ck,cv,cw,bw,aE,bx,aB,cj,bE,aJ,aH,bh,aQ,aU,bf,ax,fL,bH,bc,bg,bA,az,aW,bZ,aN,cq,br,bD,aF,bG,aX,aY,aT,L0 h1 h2 hr,a1,kh,K1 (show row.length<=100000 by omega),a0v,if_pos (show row.length<1000 by omega),e]
theorem yN {row:List (Nat×Nat)}{j:Nat}{p:Nat×Nat}(h:row[j]?=some p):L2.c8 (aO row) (j:Int)=some (.tup [.int (p.1:Nat),.int (p.2:Nat)]):=gF (by unfold aO;rw[a0s,h];rfl)
theorem Pp {a b:PV}:mB [a,b] none (some 2)=[a,b]:=by unfold mB;rfl
theorem mV {row:List (Nat×Nat)}{s1:Option Sl}:∀(js:List Nat) (S:List Sg) (z3 z4 z5:Option Sl),(∀j∈js,j<row.length)->S.length+2 * js.length<=1000->∃z3' z4' z5',bn (gN 3) bR (ai js) [some (.val (.tup (aO row))),s1,some (.own (S.map jG)),z3,z4,z5]=.nx [some (.val (.tup (aO row))),s1,some (.own ((S++aw (tl row) js).map jG)),z3',z4',z5']
 |[],S,z3,z4,z5,_,_=>⟨z3,z4,z5,by rw[show ai []=[] from rfl,ud];simp[aw]⟩
 |j::js,S,z3,z4,z5,hj,hl=>by
  obtain⟨p,ep⟩:∃p,row[j]?=some p:=⟨_,a0h (hj j a0e)⟩
  have et:=sF ep
  rw[a0o] at hl
  have es:(S++Bv (tl row) j)++aw (tl row) js=S++aw (tl row) (j::js):=by unfold aw;rw[a4u,a2g]
  have el:(S++Bv (tl row) j).length=S.length+2:=by rw[tY et,a0n];rfl
  obtain⟨z3',z4',z5',e⟩:=mV (s1:=s1) js (S++Bv (tl row) j) (some (.val (.int (j:Nat)))) (some (.val (.int (p.1:Nat)))) (some (.val (.int (p.2:Nat)))) (λi hi=>hj i (a0c _ hi)) (by rw[el];omega)
  rw[es] at e
  refine⟨z3',z4',z5',?_⟩
  rw[jJ,dI]
  have e2:S.map jG++[.tup [.int (p.1:Nat),.int (p.2:Nat),.tup [.int (j:Nat),.int 1]],.tup [.int (p.2:Nat),.int (p.1:Nat),.tup [.int (j:Nat),.int (-1)]]]=(S++Bv (tl row) j).map jG:=by rw[tY et,a0z];rfl
  have hl2:S.length<=99998:=by omega
  simp![bR,bF,aC,bz,aD,fM,aA,ay,aZ,be,aG,cu,bB,bC,cr,ck,cv,cw,bw,aE,bx,aB,cj,bE,aJ,aH,bh,aQ,aU,bf,ax,fL,bH,bc,bg,bA,az,aW,bZ,aN,cq,br,bD,aF,bG,aX,aY,aT,yN ep,jM,Pp,a0j,if_pos hl2,e2]
  exact e
theorem nW {n:Nat}(h1:1<=n)(h2:n<=40){row:List (Nat×Nat)}(hr:∀p∈row,p.1<n/\p.2<n)(h60:row.length<=100):gc [.int n,.tup (aO row)]=some (.n ((aw (tl row) (j8 row)).map jG)):=by
 obtain⟨q1,q2⟩:=kj (tl row) row.length
 obtain⟨z3,z4,z5,e⟩:=mV (row:=row) (s1:=some (.val (.lst (ai (j8 row))))) (j8 row) [] none none none q1 (by rw[a2o];show 0+2 * (cs (tl row) row.length).length<=1000;omega)
 have e':bn (gN 3) bR (ai (j8 row)) [some (.val (.tup (aO row))),some (.val (.lst (ai (j8 row)))),some (.own []),none,none,none]=_:=e
 have e3:dz [.tup (aO row),.lst (ai (j8 row))]=some (.n ((aw (tl row) (j8 row)).map jG)):=by
  simp![kJ,fx,bR,bF,aC,bz,aD,fM,aA,ay,aZ,be,aG,cu,bB,bC,cr,ck,cv,cw,bw,aE,bx,aB,cj,bE,aJ,aH,bh,aQ,aU,bf,ax,fL,bH,bc,bg,bA,az,aW,bZ,aN,cq,br,bD,aF,bG,aX,aY,aT,e',a3b]
 simp![qS,iR,bF,aC,bz,aD,fM,aA,ay,aZ,be,aG,cu,bB,bC,cr,ck,cv,cw,bw,aE,bx,aB,cj,bE,aJ,aH,bh,aQ,aU,bf,ax,fL,bH,bc,bg,bA,az,aW,bZ,aN,cq,br,bD,aF,bG,aX,aY,aT,Gg h1 h2 hr h60,e3]
noncomputable def jZ:PV->Nat
 |.tup (.int j::_)=>j.toNat
 |_=>0
theorem c7 (j:Nat)(s:Int):jZ (jE j s)=j:=a1e j
theorem Trk.rq {row:List Tl}{js:List Nat}{x e:Nat}{r:List PV}{vs:List Nat}(t:Trk (aw row js) x e r vs):Rq row (r.map jZ) vs/\vs.head?=some x/\vs.getLast?=some e/\∀j∈r.map jZ,j∈js:=by
 induction t with
 |nil=>exact⟨trivial,rfl,rfl,λ_ h=>by cases h⟩
 | @snoc a e l r vs t q ih=>
  obtain⟨h1,h2,h3,h4⟩:=ih
  obtain⟨j,s,u,hj,et,rfl,hs⟩:=iC q
  have ed:Ed row j a e:=⟨u,et,by rcases hs with ⟨_,h⟩|⟨_,h⟩;exact .inl h;exact .inr h⟩
  rw[a0z]
  refine⟨by rw[a1f,c7];exact h1.snoc h3 ed,?_,by simp,λi hi=>?_⟩
  ·cases vs with
   |nil=>cases h2
   |cons v vs=>exact h2
  ·rcases a0u.mp hi with hi|hi
   ·exact h4 i hi
   ·rw[a1f,c7] at hi
    rw[a0f.mp hi];exact hj
structure Road (row:List (Nat×Nat))(x y:Nat)(ns:List Nat):Prop where
 ex:∃vs,Rq (tl row) ns vs/\vs.Nodup/\vs.head?=some x/\vs.getLast?=some y
 rl:∀j∈ns,j<row.length/\Rl (tl row) j
theorem Road.uniq {row:List (Nat×Nat)}{x y:Nat}{ns ns':List Nat}(a:Road row x y ns)(b:Road row x y ns'):ns=ns':=by
 obtain⟨vs,h1,h2,h3,h4⟩:=a.ex
 obtain⟨vs',k1,k2,k3,k4⟩:=b.ex
 exact h1.uniq row.length k1 h2 k2 h3 k3 h4 k4 a.rl b.rl
theorem Road.when {row:List (Nat×Nat)}{x y k:Nat}{ns:List Nat}(a:Road row x y ns):dW (row.take k) id x=dW (row.take k) id y↔∀j∈ns,j<k:=by
 obtain⟨vs,h1,h2,h3,h4⟩:=a.ex
 rw[←Iw]
 exact h1.when h2 h3 h4 λj hj=>(a.rl j hj).2
theorem Np {r:List PV}(h:∀l∈r,∃j s,l=jE j s):pP (ff 2 (gC (gN 0) (gC (gN 1) g0))) n5 bv [none,none] r=some (ai (r.map jZ)):=by
 have:=uo (t:=ff 2 (gC (gN 0) (gC (gN 1) g0))) (f:=bv) (ρ:=[none,none]) (λl=>.int ((jZ l:Nat):Int)) (its:=r) λl hl=>by
  obtain⟨j,s,rfl⟩:=h l hl
  rw[c7]
  simp![jE,bv]
 rw[this];unfold ai;rw[a1u];rfl
theorem sY {n:Nat}(h2:n<=40){row:List (Nat×Nat)}(hr:∀p∈row,p.1<n/\p.2<n)(h60:row.length<=100){x y:Nat}(hx:x<n)(hy:y<n) :
  (∃ns,bX [.lst ((aw (tl row) (j8 row)).map jG),.int (x:Nat),.int (y:Nat)]=some (.v (.tup (ai ns)))/\Road row x y ns/\ns.length<40/\dW row id x=dW row id y) ∨
  (bX [.lst ((aw (tl row) (j8 row)).map jG),.int (x:Nat),.int (y:Nat)]=some (.v .non)/\dW row id x≠dW row id y):=by
 obtain⟨K,k1,RK,kc⟩:=uY h2 hx (qR (AB hr) (js:=j8 row))
 have labrow:dW (row.take row.length) id x=dW (row.take row.length) id y↔dW row id x=dW row id y:=by rw[a4h]
 by_cases hin:y∈K.map (·.1)
 ·obtain⟨q,fq,mq⟩:=oe hin
  obtain⟨vs,tr,nd,_⟩:=RK.tr _ mq
  have hq:q.length<n:=RK.rlen mq
  obtain⟨r1,r2,r3,r4⟩:=tr.rq
  have rd:Road row x y (q.map jZ):=⟨⟨vs,r1,nd,r2,r3⟩,λj hj=>mem_real.mp (r4 j hj)⟩
  have g1:k6 (rD K) [.int (y:Nat)]=some (.fz (.tup q)):=by rw[yB,fq];rfl
  refine .inl ⟨q.map jZ,?_,rd,by rw[a0j];omega,labrow.mp (rd.when.mpr λj hj=>(rd.rl j hj).1)⟩
  have g2:=Np (r:=q) λl hl=>by obtain⟨j,s,u,a,_⟩:=tr.labels l hl;exact⟨j,s,a⟩
  simp![iq,cR,bv,bF,aC,bz,aD,fM,aA,ay,aZ,be,aG,cu,bB,bC,cr,ck,cv,cw,bw,aE,bx,aB,cj,bE,aJ,aH,bh,aQ,aU,bf,ax,fL,bH,bc,bg,bA,az,aW,bZ,aN,cq,br,bD,aF,bG,aX,aY,aT,k1,g1,if_pos (show q.length<1000 by omega),g2]
 ·have g1:k6 (rD K) [.int (y:Nat)]=some (.fz .non):=by
   rw[yB]
   cases ef:K.find? λu=>decide (u.1=y) with
   |none=>rfl
   |some u=>exact absurd (by have:=qd (y:=y) (K:=K);rw[ef] at this;exact of_decide_eq_true this.symm) hin
  refine .inr ⟨by simp![iq,cR,bv,bF,aC,bz,aD,fM,aA,ay,aZ,be,aG,cu,bB,bC,cr,ck,cv,cw,bw,aE,bx,aB,cj,bE,aJ,aH,bh,aQ,aU,bf,ax,fL,bH,bc,bg,bA,az,aW,bZ,aN,cq,br,bD,aF,bG,aX,aY,aT,k1,g1],λe=>hin ((RK.keys kc y).mpr ?_)⟩
  have:=ro (tl row) row.length
  rw[a1o (by rw[qo];exact a0r _)] at this
  have hP:∀t∈tl row,(Rch (aw (tl row) (j8 row)) x t.1↔Rch (aw (tl row) (j8 row)) x t.2.1):=λt ht=>⟨λh=>h.trans (this t ht),λh=>h.trans (this t ht).symm⟩
  have e2:cT (tl row) x=cT (tl row) y:=by unfold cT;rw[uA];exact e
  exact (ve hP e2).mp .refl
theorem Fq {ns:List Nat}(hn:ns≠[]){k:Nat}:lH (ns.map a2y)+1<=(k:Int)↔∀j∈ns,j<k:=by
 obtain⟨m1,m2⟩:=nX (is:=ns.map a2y) (by rw[a0j];exact a3n.mpr hn)
 constructor
 ·intro h j hj
  have:=m2 _ (a1w (f:=a2y) hj)
  have:(j:Int)<=lH (ns.map a2y):=this
  omega
 ·intro h
  obtain⟨j,hj,e⟩:=a1k.mp m1
  have:=h j hj
  have e:(j:Int)=lH (ns.map a2y):=e
  omega
noncomputable def kg (ns:List Nat):Nat:=if ns=[] then 0 else (lH (ns.map a2y)+1).toNat
theorem mom_le {ns:List Nat}{k:Nat}:kg ns<=k↔∀j∈ns,j<k:=by
 unfold kg
 split
 ·next e=>subst e;exact⟨λ_ _ h=>(by cases h),λ_=>a3i _⟩
 ·next e=>rw[←Fq e];omega
theorem wI (ns:List Nat):hW [.tup (ai ns)]=some (.v (.int (kg ns:Nat))):=by
 have e1:gv (ai ns)=some (ns.map a2y):=wD ns
 by_cases e:ns=[]
 ·subst e
  simp![mF,gP,bF,aC,bz,aD,fM,aA,ay,aZ,be,aG,cu,bB,bC,cr,ck,cv,cw,bw,aE,bx,aB,cj,bE,aJ,aH,bh,aQ,aU,bf,ax,fL,bH,bc,bg,bA,az,aW,bZ,aN,cq,br,bD,aF,bG,aX,aY,aT,e1]
  rfl
 ·have hl:(ns.map a2y).length≠0:=by rw[a0j];exact λz=>e (a1m.mp z)
  obtain⟨m1,_⟩:=nX (is:=ns.map a2y) (by omega)
  obtain⟨j,hj,ej⟩:=a1k.mp m1
  have ej:(j:Int)=lH (ns.map a2y):=ej
  have em:((kg ns:Nat):Int)=lH (ns.map a2y)+1:=by
   unfold kg;rw[if_neg e];omega
  simp![mF,gP,bF,aC,bz,aD,fM,aA,ay,aZ,be,aG,cu,bB,bC,cr,ck,cv,cw,bw,aE,bx,aB,cj,bE,aJ,aH,bh,aQ,aU,bf,ax,fL,bH,bc,bg,bA,az,aW,bZ,aN,cq,br,bD,aF,bG,aX,aY,aT,e1,if_neg hl,em]
theorem Dz {n:Nat}(hn:n<=40){row:List (Nat×Nat)}(hr:∀p∈row,p.1<n/\p.2<n)(h60:row.length<=60):i4 [.int (n:Nat),.tup (aO row)]=some (.n (ai (j8 row))):=by
 obtain⟨z4,z5,z6,e⟩:=vP hn (AB hr) (by rw[qo];exact h60) (s0:=some (.val (.int (n:Nat)))) (s1:=some (.val (.tup (aO row)))) (tl row) [] [] none none none (by simp)
 have e0:(a0m n).map (cS [])=a0m n:=a5q _
 rw[e0,uA,a3b,qo] at e
 have e':bn (ff 2 (gC (gN 4) (gC (ff 2 (gC (gN 5) (gC (gN 6) g0))) g0))) cW (cc 0 (aO row)) [some (.val (.int (n:Nat))),some (.val (.tup (aO row))),some (.val (.lst (ai (a0m n)))),some (.own []),none,none,none]=_:=e
 simp![so,jm,eE,cW,bF,aC,bz,aD,fM,aA,ay,aZ,be,aG,cu,bB,bC,cr,ck,cv,cw,bw,aE,bx,aB,cj,bE,aJ,aH,bh,aQ,aU,bf,ax,fL,bH,bc,bg,bA,az,aW,bZ,aN,cq,br,bD,aF,bG,aX,aY,aT,K1 (n:=n) (by omega),e']
theorem nQ {row:List (Nat×Nat)}{m:Nat}(h:m<=row.length):mB (aO row) none (some (m:Int))=aO (row.take m):=by
 rw[I9 _ (by rw[kh];exact h)]
 unfold aO;rw[a4y]
theorem F4 {n m:Nat}{row:List (Nat×Nat)}(hr:∀p∈row,p.1<n/\p.2<n):∀p∈row.take m,p.1<n/\p.2<n:=λp hp=>hr p (a4j _ _ hp)
noncomputable def tg (row:List (Nat×Nat))(x y m:Nat):Bool:=decide (dW (row.take m) id x=dW (row.take m) id y)
theorem xn {n:Nat}(h1:1<=n)(h2:n<=40){row:List (Nat×Nat)}(hr:∀p∈row,p.1<n/\p.2<n):je [.int n,.tup (aO row),.int (row.length:Nat)]=some (.v (.tup (ai (rU n row)))):=by
 have a0:∀a b:PV,L2.c8 [a,b] 0=some a:=λa b=>rfl
 have c:=nQ (row:=row) (a0r row.length)
 rw[a4h] at c
 simp![rO,jw,jM,c,L0 h1 h2 hr,a0]
theorem KO {n:Nat}(h1:1<=n)(h2:n<=40){row:List (Nat×Nat)}(hr:∀p∈row,p.1<n/\p.2<n){x:Nat}(hx:x<n):iF [.tup (ai (rU n row)),.int x]=some (.v (.tup (ai (cl n (dW row id) x)))):=by
 obtain⟨_,f,lu,_⟩:=CG h1 h2 hr
 rw[xD f (by omega),lu]
 have K:Ik n (rU n row) (dW row id):=yT row 0 _ _ _ id (Df h1 h2) hr (MP h1 h2)
 rw[Dm λy hy=>K y x hy hx]
noncomputable def M1 (ns:List Nat):PV:=.tup [.str "one",.int (kg ns:Nat),.tup (ai ns)]
noncomputable def Nl (n:Nat)(row:List (Nat×Nat))(x:Nat):PV:=.tup [.str "apart",.tup (ai (cl n (dW row id) x))]
theorem zM {n:Nat}(h1:1<=n)(h2:n<=40){row:List (Nat×Nat)}(hr:∀p∈row,p.1<n/\p.2<n)(h60:row.length<=100){x y:Nat}(hx:x<n)(hy:y<n) :
  (∃ns,cX [.int (n:Nat),.tup (aO row),.int (x:Nat),.int (y:Nat)]=some (.v (M1 ns))/\Road row x y ns/\ns.length<40/\dW row id x=dW row id y) ∨
  (cX [.int (n:Nat),.tup (aO row),.int (x:Nat),.int (y:Nat)]=some (.v (Nl n row x))/\dW row id x≠dW row id y):=by
 have c1:=nY (m:=(n:Int)) (x:=(x:Int)) (by omega) (by omega)
 have c2:=nY (m:=(n:Int)) (x:=(y:Int)) (by omega) (by omega)
 rcases sY h2 hr h60 hx hy with ⟨ns,b1,R,hn,hc⟩|⟨b1,hc⟩
 ·refine .inl ⟨ns,?_,R,hn,hc⟩
  simp![jV,eL,M1,bF,aC,bz,aD,fM,aA,ay,aZ,be,aG,cu,bB,bC,cr,ck,cv,cw,bw,aE,bx,aB,cj,bE,aJ,aH,bh,aQ,aU,bf,ax,fL,bH,bc,bg,bA,az,aW,bZ,aN,cq,br,bD,aF,bG,aX,aY,aT,vF h1 h2 hr,c1,c2,nW h1 h2 hr h60,b1,wI]
 ·refine .inr ⟨?_,hc⟩
  simp![jV,eL,Nl,bF,aC,bz,aD,fM,aA,ay,aZ,be,aG,cu,bB,bC,cr,ck,cv,cw,bw,aE,bx,aB,cj,bE,aJ,aH,bh,aQ,aU,bf,ax,fL,bH,bc,bg,bA,az,aW,bZ,aN,cq,br,bD,aF,bG,aX,aY,aT,vF h1 h2 hr,c1,c2,nW h1 h2 hr h60,b1,kh,xn h1 h2 hr,KO h1 h2 hr hx]
end Dp
end
section
namespace Dp
open PySem L2 Fo Pt
noncomputable def fa (f:List Int)(j:Nat):Int:=f.getD j 0
noncomputable def pz (P:Nat->Bool)(a:Nat):Int:=if P a=true then 1 else 0
noncomputable def net (P:Nat->Bool):List (Nat×Nat)->List Int->Int
 |p::row,v::f=>v * (pz P p.1 - pz P p.2)+net P row f
 |_,_=>0
noncomputable def iZ (P:Nat->Bool)(row:List (Nat×Nat)):Nat:=(row.filter λp=>P p.1 != P p.2).length
theorem Ki {f:List Int}{i j:Nat}{v:Int}(h:i<f.length):fa (f.set i v) j=if j=i then v else fa f j:=by
 unfold fa
 rw[a0k,a0k,a3c]
 by_cases e:i=j
 ·rw[if_pos e,if_pos (e▸h),if_pos e.symm];rfl
 ·rw[if_neg e,if_neg (λz=>e z.symm)]
theorem yM {P:Nat->Bool}:∀{row:List (Nat×Nat)} {f:List Int} {j:Nat} {p:Nat×Nat} (d:Int),row[j]?=some p->j<f.length->net P row (f.set j (fa f j+d))=net P row f+d * (pz P p.1 - pz P p.2)
 |[],_,_,_,_,h,_=>by simp at h
 |_::_,[],_,_,_,_,h=>by simp at h
 |q::row,v::f,0,p,d,h,_=>by
  simp at h;subst h
  show (v+d) * _+net P row f=v * _+net P row f+_
  rw[Int.add_mul];omega
 |q::row,v::f,j+1,p,d,h,hl=>by
  have i:=yM (P:=P) (row:=row) (f:=f) (j:=j) d (by simpa using h) (by simpa using hl)
  show v * _+net P row (f.set j (fa f j+d))=v * _+net P row f+_
  rw[i];omega
theorem Ob (P:Nat->Bool)(a:Nat):pz P a=0\/pz P a=1:=by unfold pz;split<;>simp
theorem qD {P:Nat->Bool}{p:Nat×Nat}{row:List (Nat×Nat)}:(iZ P (p::row):Int)=(if P p.1=P p.2 then 0 else 1)+(iZ P row:Int):=by
 unfold iZ
 rw[a4k]
 by_cases e:P p.1=P p.2
 ·rw[if_pos e,if_neg (by rw[e];simp)];omega
 ·rw[if_neg e,if_pos (by simpa using e),a0o];omega
theorem MB {P:Nat->Bool}{a b:Nat}:(P a=P b↔pz P a=pz P b)/\(P a=true↔pz P a=1):=by
 unfold pz
 cases P a<;>cases P b<;>simp
theorem Gy {P:Nat->Bool}{p:Nat×Nat}{v:Int}(h:-1<=v/\v<=1):v * (pz P p.1 - pz P p.2)<=if P p.1=P p.2 then 0 else 1:=by
 have e:=MB (P:=P) (a:=p.1) (b:=p.2)
 rcases Ob P p.1 with h1|h1<;>rcases Ob P p.2 with h2|h2<;>rw[h1,h2]
 ·rw[if_pos (e.1.mpr (by rw[h1,h2]))];omega
 ·rw[if_neg (λz=>by have:=e.1.mp z;omega)];omega
 ·rw[if_neg (λz=>by have:=e.1.mp z;omega)];omega
 ·rw[if_pos (e.1.mpr (by rw[h1,h2]))];omega
theorem G8 {v:Int}{f:List Int}(h:∀j,-1<=fa (v::f) j/\fa (v::f) j<=1):(-1<=v/\v<=1)/\∀j,-1<=fa f j/\fa f j<=1:=⟨h 0,λj=>h (j+1)⟩
theorem BN {P:Nat->Bool}:∀{row:List (Nat×Nat)} {f:List Int},(∀j,-1<=fa f j/\fa f j<=1)->net P row f<=iZ P row
 |[],_,_=>by show (0:Int)<=_;omega
 |_::_,[],_=>by show (0:Int)<=_;omega
 |p::row,v::f,h=>by
  obtain⟨h1,h2⟩:=G8 h
  have i:=BN (P:=P) (row:=row) h2
  have t:=Gy (P:=P) (p:=p) h1
  rw[qD]
  show v * _+net P row f<=_
  omega
noncomputable def Stp2 (row:List (Nat×Nat))(j:Nat)(s:Int)(a e:Nat):Prop:=∃p,row[j]?=some p/\((s=1/\a=p.1/\e=p.2)\/(s = -1/\a=p.2/\e=p.1))
theorem wY {P:Nat->Bool}:∀{row:List (Nat×Nat)} {f:List Int},f.length=row.length->(∀j s a e,Stp2 row j s a e->P a=true->P e=false->fa f j * s=1)->net P row f=iZ P row
 |[],[],_,_=>rfl
 |[],_::_,h,_=>by cases h
 |_::_,[],h,_=>by cases h
 |p::row,v::f,hl,h=>by
  have i:=wY (P:=P) (row:=row) (f:=f) (by simpa using hl) λj s a e ⟨q,h1,h2⟩=>h (j+1) s a e ⟨q,by simpa using h1,h2⟩
  rw[qD]
  show v * _+net P row f=_
  rw[i]
  have a1:=h 0 1 p.1 p.2 ⟨p,rfl,.inl ⟨rfl,rfl,rfl⟩⟩
  have a2:=h 0 (-1) p.2 p.1 ⟨p,rfl,.inr ⟨rfl,rfl,rfl⟩⟩
  have a1:P p.1=true->P p.2=false->v * 1=1:=a1
  have a2:P p.2=true->P p.1=false->v * -1=1:=a2
  unfold pz
  cases h1:P p.1<;>cases h2:P p.2<;>rw[h1,h2] at a1 a2<;>simp at a1 a2 ⊢<;>omega
theorem D5 {P:Nat->Bool}:∀{row:List (Nat×Nat)} {f:List Int},(∀j s a e,Stp2 row j s a e->P a=true->P e=false->fa f j * s<=0)->net P row f<=0
 |[],_,_=>a3k _
 |_::_,[],_=>a3k _
 |p::row,v::f,h=>by
  have i:=D5 (P:=P) (row:=row) (f:=f) λj s a e ⟨q,h1,h2⟩=>h (j+1) s a e ⟨q,by simpa using h1,h2⟩
  show v * _+net P row f<=0
  have a1:P p.1=true->P p.2=false->v * 1<=0:=h 0 1 p.1 p.2 ⟨p,rfl,.inl ⟨rfl,rfl,rfl⟩⟩
  have a2:P p.2=true->P p.1=false->v * -1<=0:=h 0 (-1) p.2 p.1 ⟨p,rfl,.inr ⟨rfl,rfl,rfl⟩⟩
  unfold pz
  cases h1:P p.1<;>cases h2:P p.2<;>rw[h1,h2] at a1 a2<;>simp at a1 a2 ⊢<;>omega
theorem DO {P:Nat->Bool}:∀{row:List (Nat×Nat)} {f:List Int},(∀j s a e,Stp2 row j s a e->P a=false->P e=true->fa f j * s<=0)->0<=net P row f
 |[],_,_=>a3k _
 |_::_,[],_=>a3k _
 |p::row,v::f,h=>by
  have i:=DO (P:=P) (row:=row) (f:=f) λj s a e ⟨q,h1,h2⟩=>h (j+1) s a e ⟨q,by simpa using h1,h2⟩
  show 0<=v * _+net P row f
  have a1:P p.1=false->P p.2=true->v * 1<=0:=h 0 1 p.1 p.2 ⟨p,rfl,.inl ⟨rfl,rfl,rfl⟩⟩
  have a2:P p.2=false->P p.1=true->v * -1<=0:=h 0 (-1) p.2 p.1 ⟨p,rfl,.inr ⟨rfl,rfl,rfl⟩⟩
  unfold pz
  cases h1:P p.1<;>cases h2:P p.2<;>rw[h1,h2] at a1 a2<;>simp at a1 a2 ⊢<;>omega
noncomputable def F9:PV->Int
 |.tup [_,.int s]=>s
 |_=>0
theorem ig (j:Nat)(s:Int):F9 (jE j s)=s:=rfl
noncomputable def kQ (σ:Int)(f:List Int)(l:PV):List Int:=f.set (jZ l) (fa f (jZ l)+σ * F9 l)
noncomputable def iU (σ:Int)(f:List Int)(r:List PV):List Int:=r.foldl (kQ σ) f
theorem AU (σ:Int)(f:List Int)(r:List PV)(l:PV):iU σ f (r++[l])=kQ σ (iU σ f r) l:=by unfold iU;rw[a4v];rfl
theorem nR (σ:Int):∀(r:List PV) (f:List Int),(iU σ f r).length=f.length
 |[],_=>rfl
 |l::r,f=>by
  show (iU σ (kQ σ f l) r).length=_
  rw[nR σ r];exact a1c ..
noncomputable def Lr (row:List (Nat×Nat))(C:Nat->Int->Prop)(S:List Sg):Prop:=∀t∈S,∃j s,t.2.2=jE j s/\Stp2 row j s t.1 t.2.1/\C j s
theorem Stp2.lt {row:List (Nat×Nat)}{j:Nat}{s:Int}{a e:Nat}(h:Stp2 row j s a e):j<row.length:=by
 obtain⟨p,h,_⟩:=h
 exact (a0i.mp h).1
theorem Stp2.pm {row:List (Nat×Nat)}{j:Nat}{s:Int}{a e:Nat}(h:Stp2 row j s a e):s=1\/s = -1:=by
 obtain⟨p,_,h|h⟩:=h
 ·exact .inl h.1
 ·exact .inr h.1
theorem Stp2.two {row:List (Nat×Nat)}{j:Nat}{s s':Int}{a e a' e':Nat}(h:Stp2 row j s a e)(h':Stp2 row j s' a' e'):(s=s'/\a=a'/\e=e')\/(s = -s'/\a=e'/\e=a'):=by
 obtain⟨p,h1,h2⟩:=h
 obtain⟨q,h3,h4⟩:=h'
 rw[h1] at h3;cases h3
 rcases h2 with ⟨rfl,rfl,rfl⟩|⟨rfl,rfl,rfl⟩<;>rcases h4 with ⟨rfl,rfl,rfl⟩|⟨rfl,rfl,rfl⟩<;>simp
theorem Trk.net {row:List (Nat×Nat)}{C:Nat->Int->Prop}{S:List Sg}{x e:Nat}{r:List PV}{vs:List Nat}{f:List Int}{σ:Int}{P:Nat->Bool}(hS:Lr row C S)(hl:f.length=row.length)(t:Trk S x e r vs) :
  Dp.net P row (iU σ f r)=Dp.net P row f+σ * (pz P x - pz P e):=by
 induction t with
 |nil=>show Dp.net P row f=_;rw[Int.sub_self,Int.mul_zero,Int.add_zero]
 | @snoc a e l r vs t q ih=>
  obtain⟨j,s,rfl,st,_⟩:=hS _ q
  have hj:=st.lt
  rw[AU]
  unfold kQ
  obtain⟨p,hp,d⟩:=st
  rw[c7,ig,yM (p:=p) (σ * s) hp (by rw[nR,hl];exact hj),ih]
  have e1:σ * s * (pz P p.1 - pz P p.2)=σ * (pz P a - pz P e):=by
   rcases d with ⟨rfl,rfl,rfl⟩|⟨rfl,rfl,rfl⟩
   ·rw[a5s]
   ·rw[Int.mul_assoc,Int.neg_mul,Int.one_mul,Int.neg_sub]
  have e2:σ * (pz P x - pz P e)=σ * (pz P x - pz P a)+σ * (pz P a - pz P e):=by rw[←Int.mul_add];congr 1;omega
  rw[e1,e2];omega
theorem Trk.labs {row:List (Nat×Nat)}{C:Nat->Int->Prop}{S:List Sg}{x e:Nat}{r:List PV}{vs:List Nat}(hS:Lr row C S)(t:Trk S x e r vs):vs.Nodup →
  x∈vs/\e∈vs/\(r.map jZ).Nodup/\∀l∈r,∃j s a e,l=jE j s/\Stp2 row j s a e/\C j s/\a∈vs/\e∈vs/\e≠x:=by
 induction t with
 |nil=>exact λ_=>⟨a0f.mpr rfl,a0f.mpr rfl,.nil,λl hl=>by cases hl⟩
 | @snoc a e l r vs t q ih=>
  intro nd
  obtain⟨Hu,_,nd2⟩:=a1q.mp nd
  have ne:e∉vs:=λh=>nd2 e h e (a0f.mpr rfl) rfl
  obtain⟨ix,ie,id,il⟩:=ih Hu
  obtain⟨j,s,hl,st,c⟩:=hS _ q
  have hl:l=jE j s:=hl
  refine⟨a0w _ ix,a0p _ (a0f.mpr rfl),?_,λl' h=>?_⟩
  ·rw[a0z,a1q]
   refine⟨id,by simp,λb hb c hc e'=>?_⟩
   obtain⟨l',hl',rfl⟩:=a1k.mp hb
   obtain⟨j',s',a',e'',rfl,st',_,m1,m2,_⟩:=il l' hl'
   have:c=jZ l:=by simpa using hc
   rw[this,hl,c7,c7] at e'
   subst e'
   rcases st.two st' with ⟨_,h1,h2⟩|⟨_,h1,h2⟩
   ·exact ne (by rw[show e=e'' from h2];exact m2)
   ·exact ne (by rw[show e=a' from h2];exact m1)
  ·rcases a0u.mp h with h|h
   ·obtain⟨j',s',a',e',h1,h2,h3,h4,h5,h6⟩:=il l' h
    exact⟨j',s',a',e',h1,h2,h3,a0w _ h4,a0w _ h5,h6⟩
   ·rw[a0f.mp h]
    exact⟨j,s,a,e,hl,st,c,a0w _ ie,a0p _ (a0f.mpr rfl),λz=>ne (z▸ix)⟩
theorem tX {σ:Int}{n:Nat}:∀(r:List PV) (f:List Int),(∀l∈r,jZ l<f.length)->(r.map jZ).Nodup->∀j,(j∉r.map jZ/\fa (iU σ f r) j=fa f j)\/∃l∈r,jZ l=j/\fa (iU σ f r) j=fa f j+σ * F9 l
 |[],f,_,_,j=>.inl ⟨by simp,rfl⟩
 |l::r,f,hl,nd,j=>by
  rw[a1f,a1s] at nd
  have h0:=hl l a0e
  have i:=tX (σ:=σ) (n:=n) r (kQ σ f l) (λq hq=>by unfold kQ;rw[a1c];exact hl q (a0c _ hq)) nd.2 j
  have e1:fa (kQ σ f l) j=if j=jZ l then fa f (jZ l)+σ * F9 l else fa f j:=Ki h0
  rw[e1] at i
  show (j∉jZ l::r.map jZ/\fa (iU σ (kQ σ f l) r) j=fa f j)\/_
  by_cases q:j=jZ l
  ·subst q
   rw[if_pos rfl] at i
   rcases i with ⟨_,i2⟩|⟨l',h1,h2,_⟩
   ·exact .inr ⟨l,a0e,rfl,i2⟩
   ·exact absurd (h2▸a1w h1) nd.1
  ·rw[if_neg q] at i
   rcases i with ⟨i1,i2⟩|⟨l',h1,h2,h3⟩
   ·exact .inl ⟨λh=>by rcases a0t.mp h with h|h;exact q h;exact i1 h,i2⟩
   ·exact .inr ⟨l',a0c _ h1,h2,h3⟩
structure Fl (row:List (Nat×Nat))(x y:Nat)(k:Int)(f:List Int):Prop where
 len:f.length=row.length
 rg:∀j,-1<=fa f j/\fa f j<=1
 nt:∀P,net P row f=k * (pz P x - pz P y)
 ni:∀j s a,Stp2 row j s a x->fa f j * s<=0
section
variable {row:List (Nat×Nat)}{x y:Nat}{k:Int}{f:List Int}{S:List Sg}{r:List PV}{vs:List Nat}
theorem D0 {C:Nat->Int->Prop}(hS:Lr row C S)(t:Trk S x y r vs)(nd:vs.Nodup):∀l∈r,jZ l<row.length:=λl hl=>by
 obtain⟨j,s,a,e,rfl,st,_⟩:=(t.labs hS nd).2.2.2 l hl
 rw[c7];exact st.lt
theorem Fl.more (F:Fl row x y k f)(hS:Lr row (λj s=>fa f j * s<1) S)(t:Trk S x y r vs)(nd:vs.Nodup):Fl row x y (k+1) (iU 1 f r):=by
 obtain⟨_,_,ln,ll⟩:=t.labs hS nd
 have at':=tX (σ:=1) (n:=0) r f (λl hl=>by rw[F.len];exact D0 hS t nd l hl) ln
 refine⟨by rw[nR];exact F.len,λj=>?_,λP=>?_,λj s a st=>?_⟩
 ·rcases at' j with ⟨_,e⟩|⟨l,hl,h1,e⟩
  ·rw[e];exact F.rg j
  ·obtain⟨j',s,a,b,rfl,st,c,_⟩:=ll l hl
   rw[c7] at h1;subst h1
   rw[e,ig]
   have:=F.rg j'
   rcases st.pm with rfl|rfl<;>omega
 ·rw[t.net hS F.len,F.nt P,Int.add_mul]
 ·rcases at' j with ⟨_,e⟩|⟨l,hl,h1,e⟩
  ·rw[e];exact F.ni j s a st
  ·obtain⟨j',s',a',b',rfl,st',c,_,_,ne⟩:=ll l hl
   rw[c7] at h1;subst h1
   rw[e,ig]
   have:=F.ni j' s a st
   rcases st.two st' with ⟨_,_,h⟩|⟨h,_,_⟩
   ·exact absurd h.symm ne
   ·subst h
    rcases st'.pm with rfl|rfl<;>omega
theorem Fl.less (F:Fl row x y k f)(hS:Lr row (λj s=>fa f j * s=1) S)(t:Trk S x y r vs)(nd:vs.Nodup):Fl row x y (k - 1) (iU (-1) f r)/\(∀l∈r,fa (iU (-1) f r) (jZ l)=0/\fa f (jZ l)≠0)/\∀j,fa f j=0->fa (iU (-1) f r) j=0:=by
 obtain⟨_,_,ln,ll⟩:=t.labs hS nd
 have at':=tX (σ:=-1) (n:=0) r f (λl hl=>by rw[F.len];exact D0 hS t nd l hl) ln
 refine⟨⟨by rw[nR];exact F.len,λj=>?_,λP=>?_,λj s a st=>?_⟩,λl hl=>?_,λj hj=>?_⟩
 ·rcases at' j with ⟨_,e⟩|⟨l,hl,h1,e⟩
  ·rw[e];exact F.rg j
  ·obtain⟨j',s,a,b,rfl,st,c,_⟩:=ll l hl
   rw[c7] at h1;subst h1
   rw[e,ig]
   have:=F.rg j'
   rcases st.pm with rfl|rfl<;>omega
 ·rw[t.net hS F.len,F.nt P,Int.sub_mul];omega
 ·rcases at' j with ⟨_,e⟩|⟨l,hl,h1,e⟩
  ·rw[e];exact F.ni j s a st
  ·obtain⟨j',s',a',b',rfl,st',c,_,_,ne⟩:=ll l hl
   rw[c7] at h1;subst h1
   rw[e,ig]
   have:=F.ni j' s a st
   rcases st.two st' with ⟨_,_,h⟩|⟨h,_,_⟩
   ·exact absurd h.symm ne
   ·subst h
    rcases st'.pm with rfl|rfl<;>omega
 ·rcases at' (jZ l) with ⟨h,_⟩|⟨l',hl',h1,e⟩
  ·exact absurd (a1w hl) h
  ·obtain⟨j',s',a',b',rfl,st',c,_⟩:=ll l' hl'
   rw[c7] at h1
   rw[e,ig,←h1]
   rcases st'.pm with rfl|rfl<;>omega
 ·rcases at' j with ⟨_,e⟩|⟨l,hl,h1,e⟩
  ·rw[e];exact hj
  ·obtain⟨j',s',a',b',rfl,st',c,_⟩:=ll l hl
   rw[c7] at h1;subst h1
   rw[hj] at c;simp at c
theorem Fl.nil:Fl row x y 0 (a0l row.length 0):=by
 have z:∀j,fa (a0l row.length 0) j=0:=λj=>by
  unfold fa
  rw[a0k,a2j]
  split<;>rfl
 refine⟨a1n ..,λj=>by rw[z];omega,λP=>?_,λj s a _=>by rw[z];omega⟩
 rw[Int.zero_mul]
 have:∀row:List (Nat×Nat),net P row (a0l row.length 0)=0:=λrow=>by
  induction row with
  |nil=>rfl
  |cons p row ih=>show 0 * _+net P row (a0l row.length 0)=0;rw[ih,Int.zero_mul];rfl
 exact this row
theorem Fl.nn (F:Fl row x y k f)(ne:x≠y):0<=k:=by
 have h:=DO (P:=λv=>decide (v=x)) (row:=row) (f:=f) λj s a e st _ he=>by
  have:e=x:=of_decide_eq_true he
  subst this;exact F.ni j s a st
 rw[F.nt] at h
 have e1:pz (λv=>decide (v=x)) x=1:=by unfold pz;exact if_pos (decide_eq_true rfl)
 have e2:pz (λv=>decide (v=x)) y=0:=by unfold pz;exact if_neg (λz=>ne (of_decide_eq_true z).symm)
 rw[e1,e2] at h;omega
structure MinC (row:List (Nat×Nat))(x y k:Nat):Prop where
 is:∃P:Nat->Bool,P x=true/\P y=false/\iZ P row=k
 le:∀P:Nat->Bool,P x=true->P y=false->k<=iZ P row
theorem Fl.le (F:Fl row x y k f){P:Nat->Bool}(hx:P x=true)(hy:P y=false):net P row f=k/\k<=iZ P row:=by
 have h:=F.nt P
 have e1:pz P x=1:=by unfold pz;rw[hx,if_pos rfl]
 have e2:pz P y=0:=by unfold pz;rw[hy,if_neg a0y]
 rw[e1,e2] at h
 have:=BN (P:=P) (row:=row) F.rg
 omega
theorem Fl.min (F:Fl row x y k f){P:Nat->Bool}(hx:P x=true)(hy:P y=false)(h:∀j s a e,Stp2 row j s a e->P a=true->P e=false->fa f j * s=1):(iZ P row:Int)=k/\MinC row x y (iZ P row):=by
 have h1:=wY F.len h
 have h2:=(F.le hx hy).1
 refine⟨by omega,⟨P,hx,hy,rfl⟩,λQ qx qy=>?_⟩
 have:=(F.le qx qy).2
 omega
theorem MinC.uniq {k k':Nat}(a:MinC row x y k)(b:MinC row x y k'):k=k':=by
 obtain⟨P,h1,h2,h3⟩:=a.is
 obtain⟨Q,q1,q2,q3⟩:=b.is
 have:=a.le Q q1 q2
 have:=b.le P h1 h2
 omega
end
noncomputable def iV (f:List Int):List PV:=f.map PV.int
theorem Hl {f:List Int}{j:Nat}(h:j<f.length):L2.c8 (iV f) (j:Int)=some (.int (fa f j)):=Dp.gF (by
 unfold iV fa
 rw[a0s,a0k,a0h h];rfl)
theorem DC (f:List Int)(j:Nat)(v:Int):(iV f).set j (.int v)=iV (f.set j v):=by unfold iV;rw[a5t]
theorem Eg {row:List (Nat×Nat)}{js:List Nat}(hj:∀j∈js,j<row.length)(hl:js.length<=400):dz [.tup (aO row),.lst (ai js)]=some (.n ((aw (tl row) js).map jG)):=by
 obtain⟨z3,z4,z5,e⟩:=mV (row:=row) (s1:=some (.val (.lst (ai js)))) js [] none none none hj (by simp;omega)
 have e:bn (gN 3) bR (ai js) [some (.val (.tup (aO row))),some (.val (.lst (ai js))),some (.own []),none,none,none]=_:=e
 simp![kJ,fx,bR,bF,aC,bz,aD,fM,aA,ay,aZ,be,aG,cu,bB,bC,cr,ck,cv,cw,bw,aE,bx,aB,cj,bE,aJ,aH,bh,aQ,aU,bf,ax,fL,bH,bc,bg,bA,az,aW,bZ,aN,cq,br,bD,aF,bG,aX,aY,aT,e,a3b]
theorem H5 {row:List (Nat×Nat)}(hl:row.length<=400):d9 [.tup (aO row)]=some (.n ((aw (tl row) (a0m row.length)).map jG)):=by
 have h:=Eg (row:=row) (js:=a0m row.length) (λj hj=>a1b.mp hj) (by rw[a0v];exact hl)
 have lp:(aO row).length=row.length:=a0j ..
 simp![oP,gz,bF,aC,bz,aD,fM,aA,ay,aZ,be,aG,cu,bB,bC,cr,ck,cv,cw,bw,aE,bx,aB,cj,bE,aJ,aH,bh,aQ,aU,bf,ax,fL,bH,bc,bg,bA,az,aW,bZ,aN,cq,br,bD,aF,bG,aX,aY,aT,lp,(K1 (n:=row.length) (by omega)).2,h]
noncomputable def gy (row:List (Nat×Nat))(c:Nat->Int->Bool):List Sg:=(aw (tl row) (a0m row.length)).filter λt=>c (jZ t.2.2) (F9 t.2.2)
theorem Ax {row:List (Nat×Nat)}{a e:Nat}{l:PV}(h:(a,e,l)∈aw (tl row) (a0m row.length)):∃j s,l=jE j s/\Stp2 row j s a e:=by
 obtain⟨j,s,t,hj,et,rfl,d⟩:=iC h
 have hj:=a1b.mp hj
 have ep:row[j]?=some row[j]:=a0h hj
 have:=sF ep
 rw[this] at et;cases et
 exact⟨j,s,rfl,row[j],ep,d⟩
theorem mem_lySt {row:List (Nat×Nat)}{c:Nat->Int->Bool}{a e:Nat}{l:PV}:(a,e,l)∈gy row c↔∃j s,l=jE j s/\Stp2 row j s a e/\c j s=true:=by
 unfold gy
 rw[a2s]
 constructor
 ·rintro⟨h1,h2⟩
  obtain⟨j,s,rfl,st⟩:=Ax h1
  rw[c7,ig] at h2
  exact⟨j,s,rfl,st,h2⟩
 ·rintro⟨j,s,rfl,⟨p,hp,d⟩,h⟩
  refine⟨?_,by rw[c7,ig];exact h⟩
  have hj:j<row.length:=(a0i.mp hp).1
  have m:=lM (a1b.mpr hj) (sF hp)
  rcases d with ⟨rfl,rfl,rfl⟩|⟨rfl,rfl,rfl⟩
  ·exact m.1
  ·exact m.2
theorem kS {row:List (Nat×Nat)}{c:Nat->Int->Bool}:Lr row (λj s=>c j s=true) (gy row c):=λ⟨a,e,l⟩ ht=>mem_lySt.mp ht
theorem Gs {n:Nat}{row:List (Nat×Nat)}(hr:∀p∈row,p.1<n/\p.2<n){c:Nat->Int->Bool}:∀t∈gy row c,t.1<n/\t.2.1<n:=λt ht=>qR (AB hr) t (a2s.mp ht).1
noncomputable def nV (f:List Int)(j:Nat)(s:Int):Bool:=decide (fa f j * s<1)
noncomputable def oE (f:List Int)(j:Nat)(s:Int):Bool:=decide (fa f j * s=1)
theorem yp {row:List (Nat×Nat)}{f:List Int}(hl:f.length=row.length){c:Nat->Int->Bool}{t:FT}{cd:FB}{ex:FE}{ρ:aq}(h:∀(a e j:Nat) (s:Int),s=1\/s = -1->j<f.length->∃ρ2,t (.tup [.int (a:Nat),.int (e:Nat),jE j s]) ρ=some ρ2/\cd ρ2=some (c j s)/\(c j s=true->(ex ρ2).bind RV.fr=some (.tup [.int (a:Nat),.int (e:Nat),jE j s]))) :
  pP t cd ex ρ ((aw (tl row) (a0m row.length)).map jG)=some ((gy row c).map jG):=by
 have gen:∀S:List Sg,(∀q∈S,q∈aw (tl row) (a0m row.length))->pP t cd ex ρ (S.map jG)=some ((S.filter λt=>c (jZ t.2.2) (F9 t.2.2)).map jG):=λS hS=>by
  rw[jK (λp=>match p with|.tup [_,_,l]=>c (jZ l) (F9 l)|_=>false) (λp=>p) λp hp=>by
   obtain⟨⟨a,e,l⟩,hq,rfl⟩:=a1k.mp hp
   obtain⟨j,s,rfl,st⟩:=Ax (hS _ hq)
   obtain⟨ρ2,h1,h2,h3⟩:=h a e j s st.pm (by rw[hl];exact st.lt)
   refine⟨ρ2,h1,?_,λhb=>h3 ?_⟩
   ·show _=some (c (jZ (jE j s)) (F9 (jE j s)))
    rw[c7,ig];exact h2
   ·have hb:c (jZ (jE j s)) (F9 (jE j s))=true:=hb
    rwa [c7,ig] at hb]
  rw[List.map_id',a3e]
  rfl
 exact gen _ λ_ h=>h
theorem sA {row:List (Nat×Nat)}:(aw (tl row) (a0m row.length)).length<=2 * row.length:=by
 unfold aw
 rw[List.length_flatMap]
 have:∀l:List Nat,(l.map λj=>(Bv (tl row) j).length).sum<=2 * l.length:=λl=>by
  induction l with
  |nil=>simp
  |cons j l ih=>
   rw[a1f,List.sum_cons,a0o]
   have:(Bv (tl row) j).length<=2:=by unfold Bv;split<;>simp
   omega
 have:=this (a0m row.length)
 rwa [a0v] at this
theorem xh {row:List (Nat×Nat)}(h60:row.length<=130){f:List Int}(hl:f.length=row.length):eO [.tup (aO row),.lst (iV f)]=some (.n ((gy row (nV f)).map jG)):=by
 have g:pP (ff 3 (gC (gN 0) (gC (gN 1) (gC (ff 2 (gC (gN 2) (gC (gN 3) g0))) g0)))) fu fA [none,none,none,none,some (.val (.lst (iV f)))] ((aw (tl row) (a0m row.length)).map jG)=some ((gy row (nV f)).map jG):=yp hl λa e j s hs hj=>by
  refine⟨[some (.val (.int (a:Nat))),some (.val (.int (e:Nat))),some (.val (.int (j:Nat))),some (.val (.int s)),some (.val (.lst (iV f)))],?_,?_,λ_=>?_⟩
  ·simp![jE]
  ·have m:(fa f j).natAbs<2 ^ 64\/s.natAbs<2 ^ 64:=.inr (by rcases hs with rfl|rfl<;>decide)
   simp![fu,Hl hj,if_pos m,nV]
  ·simp![fA,jE]
 have ls:((aw (tl row) (a0m row.length)).map jG).length<1000:=by
  rw[a0j]
  have:=sA (row:=row)
  omega
 simp![pZ,iK,fu,fA,H5 (row:=row) (by omega),ls,g]
theorem BU {row:List (Nat×Nat)}(h60:row.length<=130){f:List Int}(hl:f.length=row.length):fO [.tup (aO row),.lst (iV f)]=some (.n ((gy row (oE f)).map jG)):=by
 have g:pP (ff 3 (gC (gN 0) (gC (gN 1) (gC (ff 2 (gC (gN 2) (gC (gN 3) g0))) g0)))) fF fD [none,none,none,none,some (.val (.lst (iV f)))] ((aw (tl row) (a0m row.length)).map jG)=some ((gy row (oE f)).map jG):=yp hl λa e j s hs hj=>by
  refine⟨[some (.val (.int (a:Nat))),some (.val (.int (e:Nat))),some (.val (.int (j:Nat))),some (.val (.int s)),some (.val (.lst (iV f)))],?_,?_,λ_=>?_⟩
  ·simp![jE]
  ·have m:(fa f j).natAbs<2 ^ 64\/s.natAbs<2 ^ 64:=.inr (by rcases hs with rfl|rfl<;>decide)
   simp![fF,Hl hj,if_pos m,oE]
  ·simp![fD,jE]
 have ls:((aw (tl row) (a0m row.length)).map jG).length<1000:=by
  rw[a0j]
  have:=sA (row:=row)
  omega
 simp![qB,iJ,fF,fD,H5 (row:=row) (by omega),ls,g]
noncomputable def OV (n:Nat)(row:List (Nat×Nat))(c:Nat->Int->Bool)(x y:Nat)(v:PV):Prop:=
 (v=.non/\¬Rch (gy row c) x y)\/∃q vs,v=.tup q/\Trk (gy row c) x y q vs/\vs.Nodup/\q.length<n
theorem kT {n:Nat}(h2:n<=40){row:List (Nat×Nat)}(hr:∀p∈row,p.1<n/\p.2<n){c:Nat->Int->Bool}{x:Nat}(hx:x<n)(y:Nat) :
  ∃K v,cM [.lst ((gy row c).map jG),.int (x:Nat)]=some (.v (rD K))/\k6 (rD K) [.int (y:Nat)]=some (.fz v)/\OV n row c x y v/\(∀e,e∈K.map (·.1)↔Rch (gy row c) x e)/\K.length<=n:=by
 obtain⟨K,k1,RK,kc⟩:=uY h2 hx (Gs hr (c:=c))
 by_cases hin:y∈K.map (·.1)
 ·obtain⟨q,fq,mq⟩:=oe hin
  obtain⟨vs,tr,nd,_⟩:=RK.tr _ mq
  exact⟨K,.tup q,k1,by rw[yB,fq];rfl,.inr ⟨q,vs,rfl,tr,nd,RK.rlen mq⟩,RK.keys kc,RK.len⟩
 ·refine⟨K,.non,k1,?_,.inl ⟨rfl,λh=>hin ((RK.keys kc y).mpr h)⟩,RK.keys kc,RK.len⟩
  rw[yB]
  cases ef:K.find? λu=>decide (u.1=y) with
  |none=>rfl
  |some u=>exact absurd (by have:=qd (y:=y) (K:=K);rw[ef] at this;exact of_decide_eq_true this.symm) hin
theorem AD {s0 s1 s2 s4:Option Sl}:∀(q:List PV) (f:List Int) (z5 z6:Option Sl),(∀l∈q,∃j s,l=jE j s/\j<f.length)->∃w5 w6,bn (ff 2 (gC (gN 5) (gC (gN 6) g0))) gH q [s0,s1,s2,some (.own (iV f)),s4,z5,z6]=.nx [s0,s1,s2,some (.own (iV (iU 1 f q))),s4,w5,w6]
 |[],f,z5,z6,_=>⟨z5,z6,rfl⟩
 |l::q,f,z5,z6,h=>by
  obtain⟨j,s,rfl,hj⟩:=h l a0e
  obtain⟨w5,w6,e⟩:=AD (s0:=s0) (s1:=s1) (s2:=s2) (s4:=s4) q (kQ 1 f (jE j s)) (some (.val (.int (j:Nat)))) (some (.val (.int s))) λl hl=>by
   obtain⟨i,u,e,hi⟩:=h l (a0c _ hl)
   exact⟨i,u,e,by unfold kQ;rw[a1c];exact hi⟩
  refine⟨w5,w6,?_⟩
  have e0:(iV f)[j]?=some (.int (fa f j)):=by unfold iV fa;rw[a0s,a0k,a0h hj];rfl
  have h0:(0:Int)<=(j:Int):=by omega
  have ea:kQ 1 f (jE j s)=f.set j (fa f j+s):=by unfold kQ;rw[c7,ig,Int.one_mul]
  rw[ea] at e
  show _=Out.nx [s0,s1,s2,some (.own (iV (iU 1 (kQ 1 f (jE j s)) q))),s4,w5,w6]
  rw[ea,←e,dI]
  simp![gH,jE,a1e,if_pos h0,e0,DC]
theorem zg {s0 s1 s2 s3 s5 s6:Option Sl}:∀(q:List PV) (f:List Int) (z5 z6:Option Sl),(∀l∈q,∃j s,l=jE j s/\j<f.length)->∃w5 w6,bn (ff 2 (gC (gN 7) (gC (gN 8) g0))) gQ q [s0,s1,s2,s3,some (.own (iV f)),s5,s6,z5,z6]=.nx [s0,s1,s2,s3,some (.own (iV (iU (-1) f q))),s5,s6,w5,w6]
 |[],f,z5,z6,_=>⟨z5,z6,rfl⟩
 |l::q,f,z5,z6,h=>by
  obtain⟨j,s,rfl,hj⟩:=h l a0e
  obtain⟨w5,w6,e⟩:=zg (s0:=s0) (s1:=s1) (s2:=s2) (s3:=s3) (s5:=s5) (s6:=s6) q (kQ (-1) f (jE j s)) (some (.val (.int (j:Nat)))) (some (.val (.int s))) λl hl=>by
   obtain⟨i,u,e,hi⟩:=h l (a0c _ hl)
   exact⟨i,u,e,by unfold kQ;rw[a1c];exact hi⟩
  refine⟨w5,w6,?_⟩
  have e0:(iV f)[j]?=some (.int (fa f j)):=by unfold iV fa;rw[a0s,a0k,a0h hj];rfl
  have h0:(0:Int)<=(j:Int):=by omega
  have ea:kQ (-1) f (jE j s)=f.set j (fa f j - s):=by unfold kQ;rw[c7,ig];congr 1;omega
  rw[ea] at e
  show _=Out.nx [s0,s1,s2,s3,some (.own (iV (iU (-1) (kQ (-1) f (jE j s)) q))),s5,s6,w5,w6]
  rw[ea,←e,dI]
  simp![gQ,jE,a1e,if_pos h0,e0,DC]
theorem lz {row:List (Nat×Nat)}{c:Nat->Int->Bool}:xa ((gy row c).map jG)=true:=by
 have:∀S:List Sg,(∀t∈S,tf t.2.2=true)->xa (S.map jG)=true:=λS=>by
  induction S with
  |nil=>intro _;rfl
  |cons t S ih=>
   intro h
   rw[a1f,xa,ih λu hu=>h u (a0c _ hu),Bool.and_true]
   unfold jG
   rw[tf,xa,xa,xa,h t a0e];rfl
 refine this _ λt ht=>?_
 obtain⟨j,s,e,_⟩:=kS t ht
 rw[e];rfl
section
variable {n:Nat}{row:List (Nat×Nat)}{x y:Nat}
theorem xT (P:Nat->Bool)(row:List (Nat×Nat)):iZ P row<=row.length:=a4z _ _
theorem xL {c:Nat->Int->Bool}{q:List PV}{vs:List Nat}(t:Trk (gy row c) x y q vs)(nd:vs.Nodup):∀l∈q,∃j s,l=jE j s/\j<row.length:=λl hl=>by
 obtain⟨j,s,a,e,h,st,_⟩:=(t.labs kS nd).2.2.2 l hl
 exact⟨j,s,h,st.lt⟩
theorem qh (h2:n<=40)(hr:∀p∈row,p.1<n/\p.2<n)(h60:row.length<=130)(hx:x<n)(ne:x≠y):∀(d fuel:Nat) (k:Int) (f:List Int) (v:PV) (z5 z6:Option Sl),(row.length:Int) - k<=d->d<fuel->Fl row x y k f->OV n row (nV f) x y v →
  ∃k' f' w5 w6,bP dr eY fuel [some (.val (.tup (aO row))),some (.val (.int (x:Nat))),some (.val (.int (y:Nat))),some (.own (iV f)),some (.val v),z5,z6]=.nx [some (.val (.tup (aO row))),some (.val (.int (x:Nat))),some (.val (.int (y:Nat))),some (.own (iV f')),some (.val .non),w5,w6]/\Fl row x y k' f'/\¬Rch (gy row (nV f')) x y
 |d,0,_,_,_,_,_,_,h,_,_=>by omega
 |d,fuel+1,k,f,v,z5,z6,hd,hf,F,R=>by
  rcases R with ⟨rfl,R⟩|⟨q,vs,rfl,t,nd,hq⟩
  ·refine⟨k,f,z5,z6,?_,F,R⟩
   rw[cO]
   simp![dr]
  ·have F':=F.more (λs hs=>by obtain⟨j,u,h1,h2,h3⟩:=kS (row:=row) (c:=nV f) s hs;exact⟨j,u,h1,h2,of_decide_eq_true h3⟩) t nd
   obtain⟨a5,a6,e1⟩:=AD (s0:=some (.val (.tup (aO row)))) (s1:=some (.val (.int (x:Nat)))) (s2:=some (.val (.int (y:Nat)))) (s4:=some (.val (.tup q))) q f z5 z6 λl hl=>by
    obtain⟨j,s,h,hj⟩:=xL t nd l hl
    exact⟨j,s,h,by rw[F.len];exact hj⟩
   obtain⟨K,v',k1,k2,R',_,_⟩:=kT h2 hr (c:=nV (iU 1 f q)) hx y
   have kb:k+1<=row.length:=by
    have:=(F'.le (P:=λv=>decide (v=x)) (decide_eq_true rfl) (decide_eq_false λz=>ne z.symm)).2
    have:=xT (λv=>decide (v=x)) row
    omega
   obtain⟨k',f',w5,w6,e2,F2,R2⟩:=qh h2 hr h60 hx ne (d - 1) fuel (k+1) (iU 1 f q) v' a5 a6 (by omega) (by omega) F' R'
   refine⟨k',f',w5,w6,?_,F2,R2⟩
   rw[cO]
   have lq:q.length<=1000:=by omega
   have tl:=xh h60 F'.len
   simp![dr,eY,bF,aC,bz,aD,fM,aA,ay,aZ,be,aG,cu,bB,bC,cr,ck,cv,cw,bw,aE,bx,aB,cj,bE,aJ,aH,bh,aQ,aU,bf,ax,fL,bH,bc,bg,bA,az,aW,bZ,aN,cq,br,bD,aF,bG,aX,aY,aT,e1,tl,lz,k1,k2]
   exact e2
theorem OT {m:Nat}(h:m<=1000):gh (.lst [.int 0]) (.int m)=some (.nw (iV (a0l m 0))):=by
 have e:iV (a0l m 0)=ai (a0l m 0):=by unfold iV ai;rw[a5j,a5j];rfl
 rw[e];exact Pk h
theorem Lj (h2:n<=40)(hr:∀p∈row,p.1<n/\p.2<n)(h60:row.length<=130)(hx:x<n)(ne:x≠y):∃k f,ke [.tup (aO row),.int (x:Nat),.int (y:Nat)]=some (.n (iV f))/\Fl row x y k f/\¬Rch (gy row (nV f)) x y:=by
 obtain⟨K,v,k1,k2,R,_,_⟩:=kT h2 hr (c:=nV (a0l row.length 0)) hx y
 obtain⟨k,f,w5,w6,e,F,R'⟩:=qh h2 hr h60 hx ne row.length 10000 0 (a0l row.length 0) v none none (by omega) (by omega) Fl.nil R
 have e:bP dr eY 10000 [some (.val (.tup (aO row))),some (.val (.int (x:Nat))),some (.val (.int (y:Nat))),some (.own (iV (a0l row.length 0))),some (.val v),none,none]=_:=e
 refine⟨k,f,?_,F,R'⟩
 have lp:(aO row).length=row.length:=a0j ..
 have tl:=xh (row:=row) h60 (f:=a0l row.length 0) (a1n ..)
 simp![tW,kA,gH,dr,eY,bF,aC,bz,aD,fM,aA,ay,aZ,be,aG,cu,bB,bC,cr,ck,cv,cw,bw,aE,bx,aB,cj,bE,aJ,aH,bh,aQ,aU,bf,ax,fL,bH,bc,bg,bA,az,aW,bZ,aN,cq,br,bD,aF,bG,aX,aY,aT,lp,OT (show row.length<=1000 by omega),tl,lz,k1,k2,e]
noncomputable def u8 (P:Nat->Bool)(row:List (Nat×Nat)):List Nat:=(a0m row.length).filter λj=>P (row.getD j (0,0)).1 != P (row.getD j (0,0)).2
theorem uW (P:Nat->Bool)(row:List (Nat×Nat)):(u8 P row).length=iZ P row:=by
 unfold u8 iZ
 induction row with
 |nil=>rfl
 |cons p row ih=>
  rw[a0o,a2k,a4k,a4k]
  have t:((List.map Nat.succ (a0m row.length)).filter λj=>P ((p::row).getD j (0,0)).1 != P ((p::row).getD j (0,0)).2).length=((a0m row.length).filter λj=>P (row.getD j (0,0)).1 != P (row.getD j (0,0)).2).length:=by
   rw[a3e,a0j];rfl
  by_cases q:(P p.1 != P p.2)=true
  ·rw[if_pos (show (P ((p::row).getD 0 (0,0)).1 != P ((p::row).getD 0 (0,0)).2)=true from q),if_pos q,a0o,a0o,t,ih]
  ·rw[if_neg (show ¬(P ((p::row).getD 0 (0,0)).1 != P ((p::row).getD 0 (0,0)).2)=true from q),if_neg q,t,ih]
theorem A4 (h2:n<=40)(hr:∀p∈row,p.1<n/\p.2<n)(h60:row.length<=130)(hx:x<n)(ne:x≠y){k:Int}{f:List Int}(F:Fl row x y k f)(R:¬Rch (gy row (nV f)) x y) :
  ∃P,iz [.tup (aO row),.lst (iV f),.int (x:Nat)]=some (.v (.tup (ai (u8 P row))))/\P x=true/\P y=false/\(iZ P row:Int)=k/\MinC row x y (iZ P row):=by
 obtain⟨K,v,k1,k2,_,hk,kl⟩:=kT h2 hr (c:=nV f) hx y
 have hP:∀e,decide (e∈K.map (·.1))=true↔Rch (gy row (nV f)) x e:=λe=>decide_eq_true_iff.trans (hk e)
 have px:decide (x∈K.map (·.1))=true:=(hP x).mpr .refl
 have py:decide (y∈K.map (·.1))=false:=by
  rw[a3f];exact λh=>R ((hP y).mp h)
 have m:=F.min (P:=λe=>decide (e∈K.map (·.1))) px py λj s a e st ha he=>by
  have r:=(hP a).mp ha
  by_cases q:nV f j s=true
  ·have:Rch (gy row (nV f)) x e:=r.step (mem_lySt.mpr ⟨j,s,rfl,st,q⟩)
   rw[(hP e).mpr this] at he;cases he
  ·have q:¬fa f j * s<1:=λz=>q (decide_eq_true z)
   have:=F.rg j
   rcases st.pm with rfl|rfl<;>omega
 refine⟨λe=>decide (e∈K.map (·.1)),?_,px,py,m.1,m.2⟩
 have dk:∀a:Nat,(o6 (rK K) (rP K) (.inl ((a:Nat):Int))).isSome=decide (a∈K.map (·.1)):=λa=>by
  rw[wO,a5u];exact qd
 have g:pP (ff 2 (gC (gN 0) (gC (ff 2 (gC (gN 1) (gC (gN 2) g0))) g0))) df ft [none,none,none,some (.val (rD K))] (cc 0 (aO row))=some (ai (u8 (λe=>decide (e∈K.map (·.1))) row)):=by
  have en:cc 0 (aO row)=(a0m row.length).map λj=>.tup [.int (j:Nat),.tup [.int ((row.getD j (0,0)).1:Nat),.int ((row.getD j (0,0)).2:Nat)]]:=by
   have gen:∀(row:List (Nat×Nat)) (s:Nat),cc s (aO row)=(a0m row.length).map λj=>.tup [.int ((s+j:Nat):Nat),.tup [.int ((row.getD j (0,0)).1:Nat),.int ((row.getD j (0,0)).2:Nat)]]:=λrow=>by
    induction row with
    |nil=>intro s;rfl
    |cons p row ih=>
     intro s
     rw[a0o,a2k,a1f,a1u]
     show PV.tup [.int (s:Nat),.tup [.int (p.1:Nat),.int (p.2:Nat)]]::cc (s+1) (aO row)=_
     rw[ih (s+1)]
     refine congr (congrArg _ rfl) (a1v λj _=>?_)
     show PV.tup [.int ((s+1+j:Nat):Nat),_]=PV.tup [.int ((s+(j+1):Nat):Nat),_]
     rw[show s+1+j=s+(j+1) by omega];rfl
   rw[gen row 0]
   exact a1v λj _=>by rw[a2z]
  rw[en,jK (λp=>match p with|.tup [_,.tup [.int a,.int b]]=>decide (a.toNat∈K.map (·.1)) != decide (b.toNat∈K.map (·.1))|_=>false) (λp=>match p with|.tup [j,_]=>j|p=>p) λp hp=>by
   obtain⟨j,_,rfl⟩:=a1k.mp hp
   generalize row.getD j (0,0)=q
   refine⟨[some (.val (.int (j:Nat))),some (.val (.int (q.1:Nat))),some (.val (.int (q.2:Nat))),some (.val (rD K))],?_,?_,λ_=>?_⟩
   ·simp![true_and]
   ·have e1:wz (.int (q.1:Nat)) (rD K)=some (.fz (.bl (decide (q.1∈K.map (·.1))))):=by rw[rD,aQ,dk]
    have e2:wz (.int (q.2:Nat)) (rD K)=some (.fz (.bl (decide (q.2∈K.map (·.1))))):=by rw[rD,aQ,dk]
    show df _=some (decide (q.1∈K.map (·.1)) != decide (q.2∈K.map (·.1)))
    simp![df,e1,e2]
    cases decide (q.1∈K.map (·.1))<;>cases decide (q.2∈K.map (·.1))<;>rfl
   ·simp![ft]]
  refine congrArg some ?_
  unfold u8 ai
  rw[a3e,a1u]
  rfl
 have tl:=xh h60 F.len
 have l0:(u8 (λe=>decide (e∈K.map (·.1))) row).length<=130:=by rw[uW];exact a1z (xT _ _) h60
 have l1:(cc 0 (aO row)).length<1000:=by rw[lY,show (aO row).length=row.length from a0j ..];omega
 simp![qQ,iP,df,ft,bF,aC,bz,aD,fM,aA,ay,aZ,be,aG,cu,bB,bC,cr,ck,cv,cw,bw,aE,bx,aB,cj,bE,aJ,aH,bh,aQ,aU,bf,ax,fL,bH,bc,bg,bA,az,aW,bZ,aN,cq,br,bD,aF,bG,aX,aY,aT,tl,lz,k1,l1,g]
structure Rds2 (row:List (Nat×Nat))(x y:Nat)(f:List Int)(rs:List (List Nat)):Prop where
 rd:∀r∈rs,r.length<40/\∃vs,Rq (tl row) r vs/\vs.Nodup/\vs.head?=some x/\vs.getLast?=some y/\∀j∈r,j<row.length
 nd:rs.flatten.Nodup
 zr:∀j∈rs.flatten,fa f j=0
theorem Ej (row:List (Nat×Nat))(c:Nat->Int->Bool):∀t∈gy row c,t∈aw (tl row) (a0m row.length):=λt ht=>(a2s.mp ht).1
theorem KB {c:Nat->Int->Bool}{q:List PV}{vs:List Nat}(t:Trk (gy row c) x y q vs):Rq (tl row) (q.map jZ) vs/\vs.head?=some x/\vs.getLast?=some y/\∀j∈q.map jZ,j<row.length:=by
 obtain⟨h1,h2,h3,h4⟩:=(t.mono (Ej row c)).rq
 exact⟨h1,h2,h3,λj hj=>a1b.mp (h4 j hj)⟩
theorem JW {r:List PV}(h:∀l∈r,∃j s,l=jE j s):pP (ff 2 (gC (gN 0) (gC (gN 1) g0))) n5 gJ [none,none] r=some (ai (r.map jZ)):=by
 rw[uo (λl=>.int (jZ l:Nat)) λl hl=>by
  obtain⟨j,s,rfl⟩:=h l hl
  simp![gJ,jE];rfl]
 unfold ai;rw[a1u];rfl
theorem wx (h2:n<=40)(hr:∀p∈row,p.1<n/\p.2<n)(h60:row.length<=130)(hx:x<n)(ne:x≠y){s1:Option Sl}:∀(d fuel:Nat) (k:Int) (f:List Int) (rs:List (List Nat)) (v:PV) (z7 z8:Option Sl),k<=d->d<fuel->rs.length+d<=1000->Fl row x y k f->Rds2 row x y f rs->OV n row (oE f) x y v →
  ∃f' rs' w7 w8,bP dD e9 fuel [some (.val (.tup (aO row))),s1,some (.val (.int (x:Nat))),some (.val (.int (y:Nat))),some (.own (iV f)),some (.own (mL rs)),some (.val v),z7,z8]=.nx [some (.val (.tup (aO row))),s1,some (.val (.int (x:Nat))),some (.val (.int (y:Nat))),some (.own (iV f')),some (.own (mL rs')),some (.val .non),w7,w8]/\Rds2 row x y f' rs'/\(rs'.length:Int)=rs.length+k
 |d,0,_,_,_,_,_,_,_,h,_,_,_,_=>by omega
 |d,fuel+1,k,f,rs,v,z7,z8,hd,hf,hl,F,D,R=>by
  have k0:=F.nn ne
  rcases R with ⟨rfl,R⟩|⟨q,vs,rfl,t,nd,hq⟩
  ·have kz:k<=0:=by
    have px:∀e,(a1j (Rch (gy row (oE f)) x e)).decide=true↔Rch (gy row (oE f)) x e:=λe=>@decide_eq_true_iff _ (a1j _)
    have h:=D5 (P:=λe=>(a1j (Rch (gy row (oE f)) x e)).decide) (row:=row) (f:=f) λj s a e st ha he=>by
     have r:=(px a).mp ha
     by_cases q:oE f j s=true
     ·rw[(px e).mpr (r.step (mem_lySt.mpr ⟨j,s,rfl,st,q⟩))] at he;cases he
     ·have q:¬fa f j * s=1:=λz=>q (decide_eq_true z)
      have:=F.rg j
      rcases st.pm with rfl|rfl<;>omega
    have py:(a1j (Rch (gy row (oE f)) x y)).decide=false:=by
     rw[a3f];exact λh=>R ((px y).mp h)
    have:=(F.le (P:=λe=>(a1j (Rch (gy row (oE f)) x e)).decide) ((px x).mpr .refl) py).1
    omega
   refine⟨f,rs,z7,z8,?_,D,by omega⟩
   rw[cO]
   simp![dD]
  ·obtain⟨F',Z1,Z2⟩:=F.less (λs hs=>by obtain⟨j,u,h1,h2,h3⟩:=kS (row:=row) (c:=oE f) s hs;exact⟨j,u,h1,h2,of_decide_eq_true h3⟩) t nd
   have k1:=F'.nn ne
   obtain⟨r1,r2,r3,r4⟩:=KB t
   have ln:=(t.labs kS nd).2.2.1
   have D':Rds2 row x y (iU (-1) f q) (rs++[q.map jZ]):=by
    refine⟨λr hr'=>?_,?_,λj hj=>?_⟩
    ·rcases a0u.mp hr' with h|h
     ·exact D.rd r h
     ·rw[a0f.mp h]
      exact⟨by rw[a0j];omega,vs,r1,nd,r2,r3,r4⟩
    ·rw[a5e,a1q]
     refine⟨D.nd,by simpa using ln,λa ha b hb e=>?_⟩
     have hb:b∈q.map jZ:=by simpa using hb
     obtain⟨l,hl,rfl⟩:=a1k.mp hb
     exact (Z1 l hl).2 (e▸D.zr a ha)
    ·rw[a5e] at hj
     rcases a0u.mp hj with h|h
     ·exact Z2 j (D.zr j h)
     ·have h:j∈q.map jZ:=by simpa using h
      obtain⟨l,hl,rfl⟩:=a1k.mp h
      exact (Z1 l hl).1
   obtain⟨a7,a8,e1⟩:=zg (s0:=some (.val (.tup (aO row)))) (s1:=s1) (s2:=some (.val (.int (x:Nat)))) (s3:=some (.val (.int (y:Nat)))) (s5:=some (.own (mL (rs++[q.map jZ])))) (s6:=some (.val (.tup q))) q f z7 z8 λl hl=>by
    obtain⟨j,s,h,hj⟩:=xL t nd l hl
    exact⟨j,s,h,by rw[F.len];exact hj⟩
   obtain⟨K,v',j1,j2,R',_,_⟩:=kT h2 hr (c:=oE (iU (-1) f q)) hx y
   obtain⟨f',rs',w7,w8,e2,D2,L2⟩:=wx h2 hr h60 hx ne (s1:=s1) (d - 1) fuel (k - 1) (iU (-1) f q) (rs++[q.map jZ]) v' a7 a8 (by omega) (by omega) (by rw[a0n,a1h];omega) F' D' R'
   refine⟨f',rs',w7,w8,?_,D2,by rw[L2,a0n,a1h];omega⟩
   rw[cO]
   have lq:q.length<1000:=by omega
   have lt:(mL rs).length<=100000:=by rw[sX];omega
   have tl:=BU h60 F'.len
   have g:=JW (r:=q) λl hl=>by obtain⟨j,s,h,_⟩:=xL t nd l hl;exact⟨j,s,h⟩
   have ea:mL rs++[.tup (ai (q.map jZ))]=mL (rs++[q.map jZ]):=by unfold mL;rw[a0z];rfl
   simp![dD,e9,bF,aC,bz,aD,fM,aA,ay,aZ,be,aG,cu,bB,bC,cr,ck,cv,cw,bw,aE,bx,aB,cj,bE,aJ,aH,bh,aQ,aU,bf,ax,fL,bH,bc,bg,bA,az,aW,bZ,aN,cq,br,bD,aF,bG,aX,aY,aT,lq,g,lt,if_true,ea,e1,tl,lz,j1,j2]
   exact e2
theorem AJ (h2:n<=40)(hr:∀p∈row,p.1<n/\p.2<n)(h60:row.length<=130)(hx:x<n)(ne:x≠y){k:Int}{f:List Int}(F:Fl row x y k f):∃f' rs,kr [.tup (aO row),.lst (iV f),.int (x:Nat),.int (y:Nat)]=some (.v (.tup (mL rs)))/\Rds2 row x y f' rs/\(rs.length:Int)=k:=by
 have kb:k<=row.length:=by
  have:=(F.le (P:=λv=>decide (v=x)) (decide_eq_true rfl) (decide_eq_false λz=>ne z.symm)).2
  have:=xT (λv=>decide (v=x)) row
  omega
 obtain⟨K,v,k1,k2,R,_,_⟩:=kT h2 hr (c:=oE f) hx y
 obtain⟨f',rs,w7,w8,e,D,L⟩:=wx h2 hr h60 hx ne (s1:=some (.val (.lst (iV f)))) row.length 10000 k f [] v none none kb (by omega) (by simp;omega) F ⟨λr h=>(by cases h),.nil,λj h=>(by cases h)⟩ R
 have e:bP dD e9 10000 [some (.val (.tup (aO row))),some (.val (.lst (iV f))),some (.val (.int (x:Nat))),some (.val (.int (y:Nat))),some (.own (iV f)),some (.own []),some (.val v),none,none]=_:=e
 have tl:=BU h60 F.len
 exact⟨f',rs,by simp![uh,kx,gJ,gQ,dD,e9,bF,aC,bz,aD,fM,aA,ay,aZ,be,aG,cu,bB,bC,cr,ck,cv,cw,bw,aE,bx,aB,cj,bE,aJ,aH,bh,aQ,aU,bf,ax,fL,bH,bc,bg,bA,az,aW,bZ,aN,cq,br,bD,aF,bG,aX,aY,aT,tl,lz,k1,k2,e],D,by simpa using L⟩
structure Strk (row:List (Nat×Nat))(x y:Nat)(ss:List Nat)(rs:List (List Nat)):Prop where
 mB:∃P,P x=true/\P y=false/\ss=u8 P row
 min:MinC row x y ss.length
 cnt:rs.length=ss.length
 rd:∀r∈rs,r.length<40/\∃vs,Rq (tl row) r vs/\vs.Nodup/\vs.head?=some x/\vs.getLast?=some y/\∀j∈r,j<row.length
 nd:rs.flatten.Nodup
theorem Fx (h1:1<=n)(h2:n<=40)(hr:∀p∈row,p.1<n/\p.2<n)(h60:row.length<=130)(hx:x<n)(hy:y<n)(ne:x≠y):∃ss rs,fw [.int (n:Nat),.tup (aO row),.int (x:Nat),.int (y:Nat)]=some (.v (.tup [.tup (ai ss),.tup (mL rs)]))/\Strk row x y ss rs:=by
 obtain⟨k,f,e1,F,R⟩:=Lj h2 hr h60 hx ne
 obtain⟨P,e2,px,py,pk,pm⟩:=A4 h2 hr h60 hx ne F R
 obtain⟨f',rs,e3,D,L⟩:=AJ h2 hr h60 hx ne F
 refine⟨u8 P row,rs,?_,⟨⟨P,px,py,rfl⟩,by rw[uW];exact pm,by rw[uW];omega,D.rd,D.nd⟩⟩
 have d:decide ((x:Int)=(y:Int))=false:=decide_eq_false (by omega)
 simp![og,fX,vF h1 h2 hr,nY (show (0:Int)<=(x:Int) by omega) (show (x:Int)<(n:Int) by omega),nY (show (0:Int)<=(y:Int) by omega) (show (y:Int)<(n:Int) by omega),d,e1,e2,e3]
end
theorem ji (P:Nat->Bool)(a b:List (Nat×Nat)):iZ P (a++b)=iZ P a+iZ P b:=by unfold iZ;rw[a5i,a0n]
theorem uz (P:Nat->Bool)(p:Nat×Nat):iZ P [p]=if P p.1=P p.2 then 0 else 1:=by
 unfold iZ
 rw[a4k]
 by_cases e:P p.1=P p.2
 ·rw[if_pos e,if_neg (by rw[e];simp)];rfl
 ·rw[if_neg e,if_pos (by simpa using e)];rfl
theorem zG (P:Nat->Bool)(row:List (Nat×Nat)):iZ (λv=>!P v) row=iZ P row:=by
 unfold iZ
 congr 1
 exact a4t λp _=>by show ((!P p.1) != (!P p.2))=(P p.1 != P p.2);cases P p.1<;>cases P p.2<;>rfl
theorem yu (row:List Tl):∀k,(cs row k).Pairwise (· < ·)
 |0=>.nil
 |k+1=>by
  have ih:=yu row k
  have lt:=(kj row k).1
  unfold cs
  split
  ·split
   ·exact ih
   ·exact List.pairwise_append.mpr ⟨ih,by simp,λa ha b hb=>by rw[a0f.mp hb];exact lt a ha⟩
  ·exact ih
section
variable {row row':List (Nat×Nat)}{x y k k':Nat}
theorem MinC.sym (m:MinC row x y k):MinC row y x k:=by
 obtain⟨P,h1,h2,h3⟩:=m.is
 refine⟨⟨λv=>!P v,by simp[h2],by simp[h1],by rw[zG];exact h3⟩,λQ q1 q2=>?_⟩
 rw[←zG]
 exact m.le _ (by simp[q2]) (by simp[q1])
theorem MinC.diff {d:Nat}(m:MinC row x y k)(m':MinC row' x y k')(h:∀P:Nat->Bool,P x=true->P y=false->iZ P row<=iZ P row'/\iZ P row'<=iZ P row+d):k<=k'/\k'<=k+d:=by
 obtain⟨P,h1,h2,h3⟩:=m.is
 obtain⟨Q,q1,q2,q3⟩:=m'.is
 have a:=m.le Q q1 q2
 have b:=m'.le P h1 h2
 have c:=h P h1 h2
 have e:=h Q q1 q2
 omega
theorem MinC.dbl (m:MinC row x y k):MinC (row++row) x y (2 * k):=by
 obtain⟨P,h1,h2,h3⟩:=m.is
 refine⟨⟨P,h1,h2,by rw[ji,h3];omega⟩,λQ q1 q2=>?_⟩
 have:=m.le Q q1 q2
 rw[ji];omega
theorem GF {P:Nat->Bool}(h:iZ P row=0){a b:Nat}(e:dW row id a=dW row id b):P a=P b:=by
 have hp:∀p∈row,(if P p.1=true then 1 else 0:Nat)=if P p.2=true then 1 else 0:=λp hp=>by
  have z:P p.1=P p.2:=by
   have h0:=a2u.mp (a1m.mp h) p hp
   simpa using h0
  rw[z]
 have h:=lh (f:=λv=>(if P v=true then 1 else 0:Nat)) row id hp (λa b e=>by rw[show a=b from e]) a b e
 have h:(if P a=true then 1 else 0:Nat)=(if P b=true then 1 else 0):=h
 cases ha:P a<;>cases hb:P b<;>rw[ha,hb] at h<;>first|rfl|(simp at h)
theorem GG (c:Nat):iZ (λv=>decide (dW row id v=c)) row=0:=by
 unfold iZ
 rw[a1m,a2u]
 intro p hp
 show ¬((decide (dW row id p.1=c) != decide (dW row id p.2=c))=true)
 rw[jL row id p.1 p.2 hp];simp
theorem MinC.zero (m:MinC row x y k):k=0↔dW row id x≠dW row id y:=by
 constructor
 ·intro h e
  obtain⟨P,h1,h2,h3⟩:=m.is
  have:=GF (by rw[h3,h]) e
  rw[h1,h2] at this;cases this
 ·intro ne
  have:=m.le (λv=>decide (dW row id v=dW row id x)) (decide_eq_true rfl) (decide_eq_false λz=>ne z.symm)
  rw[GG] at this;omega
theorem MinC.third {z a b:Nat}(m:MinC row x y k)(m1:MinC row x z a)(m2:MinC row z y b):min a b<=k:=by
 obtain⟨P,h1,h2,h3⟩:=m.is
 cases hz:P z with
 |true=>have:=m2.le P hz h2;omega
 |false=>have:=m1.le P h1 hz;omega
theorem MinC.at_x (m:MinC row x y k)(ne:x≠y):k<=(row.filter λp=>!decide (p.1=p.2)&&(decide (p.1=x) || decide (p.2=x))).length:=by
 have h:=m.le (λv=>decide (v=x)) (decide_eq_true rfl) (decide_eq_false λz=>ne z.symm)
 refine a1z h (Nat.le_of_eq ?_)
 unfold iZ
 congr 1
 refine a4t λp _=>?_
 by_cases h1:p.1=x<;>by_cases h2:p.2=x
 ·simp[h1,h2]
 ·simp[h1,h2];exact λz=>h2 z.symm
 ·simp[h1,h2]
 ·simp[h1,h2]
noncomputable def v5 (row:List (Nat×Nat)):List (Nat×Nat):=(j8 row).map λj=>row.getD j (0,0)
theorem zQ {j:Nat}(h:j∈j8 row):j<row.length:=by have:=(mem_real.mp h).1;exact this
theorem JZ {n:Nat}(hr:∀p∈row,p.1<n/\p.2<n):∀p∈v5 row,p.1<n/\p.2<n:=λp hp=>by
 obtain⟨j,hj,rfl⟩:=a1k.mp hp
 have:=zQ hj
 rw[a0k,a0h this]
 exact hr _ (a3o this)
theorem AI {js:List Nat}{a e:Nat}{l:PV}(h:(a,e,l)∈aw (tl row) js):∃j s,l=jE j s/\j∈js/\Stp2 row j s a e:=by
 obtain⟨j,s,t,hj,et,rfl,d⟩:=iC h
 have hl:j<row.length:=by have:=(a0i.mp et).1;rwa [qo] at this
 have ep:row[j]?=some row[j]:=a0h hl
 have:=sF ep
 rw[this] at et;cases et
 exact⟨j,s,rfl,hj,row[j],ep,d⟩
theorem sK {js:List Nat}{j:Nat}{s:Int}{a e:Nat}(hj:j∈js)(st:Stp2 row j s a e):(a,e,jE j s)∈aw (tl row) js:=by
 obtain⟨p,hp,d⟩:=st
 have m:=lM hj (sF hp)
 rcases d with ⟨rfl,rfl,rfl⟩|⟨rfl,rfl,rfl⟩
 ·exact m.1
 ·exact m.2
theorem G3 {n:Nat}{P:Nat->Bool}(h:∀j∈j8 row,P (row.getD j (0,0)).1=P (row.getD j (0,0)).2)(e:dW row id x=dW row id y):P x=P y:=by
 have rc:∀t∈tl row,Rch (aw (tl row) (j8 row)) t.1 t.2.1:=λt ht=>by
  have:=ro (tl row) row.length
  rw[a1o (by rw[qo];exact a0r _)] at this
  exact this t ht
 have cl:∀a b,Rch (aw (tl row) (j8 row)) a b->P a=P b:=λa b r=>by
  induction r with
  |refl=>rfl
  | @step c d l _ q ih=>
   obtain⟨j,s,rfl,hj,p,hp,d⟩:=AI q
   have hh:=h j hj
   rw[a0k,hp] at hh
   have hh:P p.1=P p.2:=hh
   rw[ih]
   rcases d with ⟨_,rfl,rfl⟩|⟨_,rfl,rfl⟩
   ·exact hh
   ·exact hh.symm
 have e2:cT (tl row) x=cT (tl row) y:=by unfold cT;rw[uA];exact e
 exact cl _ _ (HQ rc e2)
theorem MinC.real {n:Nat}(h2:n<=40)(hr:∀p∈row,p.1<n/\p.2<n)(hx:x<n)(hy:y<n){ns:List Nat}(m:MinC (v5 row) x y k')(hR:dW row id x=dW row id y->Road row x y ns/\ns≠[])(hk:k=0↔dW row id x≠dW row id y):k'=min 1 k:=by
 by_cases e:dW row id x=dW row id y
 ·have k1:1<=k:=by
   rcases a4n k with h|h
   ·exact absurd e (hk.mp h)
   ·exact h
  rw[a4g k1]
  obtain⟨R,hne⟩:=hR e
  obtain⟨J,hJ⟩:=List.exists_mem_of_ne_nil ns hne
  have hJr:J∈j8 row:=mem_real.mpr (R.rl J hJ)
  have lo:1<=k':=by
   rcases a4n k' with h|h
   ·obtain⟨P,p1,p2,p3⟩:=m.is
    rw[h] at p3
    have:P x=P y:=G3 (n:=n) (row:=row) (λj hj=>by
     have h0:=a2u.mp (a1m.mp p3) (row.getD j (0,0)) (a1w hj)
     simpa using h0) e
    rw[p1,p2] at this;cases this
   ·exact h
  have hp:∀v,(a1j (Rch (aw (tl row) ((j8 row).filter λj=>decide (j≠J))) x v)).decide=true↔Rch (aw (tl row) ((j8 row).filter λj=>decide (j≠J))) x v:=λv=>@decide_eq_true_iff _ (a1j _)
  have ny:¬Rch (aw (tl row) ((j8 row).filter λj=>decide (j≠J))) x y:=λr=>by
   obtain⟨K,_,RK,kc⟩:=uY h2 hx (qR (AB hr) (js:=(j8 row).filter λj=>decide (j≠J)))
   obtain⟨q,_,mq⟩:=oe ((RK.keys kc y).mpr r)
   obtain⟨vs,tr,nd,_⟩:=RK.tr _ mq
   obtain⟨r1,r2,r3,r4⟩:=tr.rq
   have R2:Road row x y (q.map jZ):=⟨⟨vs,r1,nd,r2,r3⟩,λj hj=>mem_real.mp (a2s.mp (r4 j hj)).1⟩
   rw[R.uniq R2] at hJ
   have:=of_decide_eq_true (a2s.mp (r4 J hJ)).2
   exact this rfl
  have hi:=m.le (λv=>(a1j (Rch (aw (tl row) ((j8 row).filter λj=>decide (j≠J))) x v)).decide) ((hp x).mpr .refl) (by rw[a3f];exact λz=>ny ((hp y).mp z))
  have le1:∀js:List Nat,js.Nodup->(∀j∈js,j∈j8 row)->iZ (λv=>(a1j (Rch (aw (tl row) ((j8 row).filter λj=>decide (j≠J))) x v)).decide) (js.map λj=>row.getD j (0,0))<=if J∈js then 1 else 0:=λjs=>by
   induction js with
   |nil=>intro _ _;exact a3i _
   |cons j js ih=>
    intro nd hj
    rw[a1s] at nd
    have i:=ih nd.2 λi hi=>hj i (a0c _ hi)
    have c:=qD (P:=λv=>(a1j (Rch (aw (tl row) ((j8 row).filter λj=>decide (j≠J))) x v)).decide) (p:=row.getD j (0,0)) (row:=js.map λj=>row.getD j (0,0))
    rw[a1f]
    by_cases q:j=J
    ·subst q
     rw[if_pos a0e]
     rw[if_neg nd.1] at i
     split at c<;>omega
    ·have hl:=zQ (hj j a0e)
     have ep:row[j]?=some row[j]:=a0h hl
     have eg:row.getD j (0,0)=row[j]:=by rw[a0k,ep];rfl
     have mj:j∈(j8 row).filter λj=>decide (j≠J):=a2s.mpr ⟨hj j a0e,decide_eq_true q⟩
     have same:(a1j (Rch (aw (tl row) ((j8 row).filter λj=>decide (j≠J))) x row[j].1)).decide=(a1j (Rch (aw (tl row) ((j8 row).filter λj=>decide (j≠J))) x row[j].2)).decide:=by
      rw[a3x,hp,hp]
      exact⟨λr=>r.step (sK mj ⟨row[j],ep,.inl ⟨rfl,rfl,rfl⟩⟩),λr=>r.step (sK mj ⟨row[j],ep,.inr ⟨rfl,rfl,rfl⟩⟩)⟩
     rw[eg] at c
     rw[if_pos same] at c
     have e2:(J∈j::js)↔J∈js:=⟨λh=>(a0t.mp h).elim (λz=>absurd z.symm q) id,a0c _⟩
     by_cases w:J∈js
     ·rw[if_pos (e2.mpr w)];rw[if_pos w] at i;rw[eg];omega
     ·rw[if_neg (λz=>w (e2.mp z))];rw[if_neg w] at i;rw[eg];omega
  have:=le1 (j8 row) (by
   have:(j8 row).Pairwise (· < ·):=yu (tl row) row.length
   exact this.imp λh=>a1d h) λ_ h=>h
  rw[if_pos hJr] at this
  have:iZ _ (v5 row)<=1:=this
  omega
 ·have k0:=hk.mpr e
  have le:=m.le (λv=>decide (dW row id v=dW row id x)) (decide_eq_true rfl) (decide_eq_false λz=>e z.symm)
  have z:iZ (λv=>decide (dW row id v=dW row id x)) (v5 row)=0:=by
   unfold iZ
   rw[a1m,a2u]
   intro p hp
   obtain⟨j,hj,rfl⟩:=a1k.mp hp
   have hl:=zQ hj
   have:=jL row id (row.getD j (0,0)).1 (row.getD j (0,0)).2 (by rw[a0k,a0h hl];exact a3o hl)
   show ¬((decide (dW row id (row.getD j (0,0)).1=dW row id x) != decide (dW row id (row.getD j (0,0)).2=dW row id x))=true)
   rw[this];simp
  rw[z] at le
  omega
end
end Dp
end
section
namespace Dp
open PySem PySem.Spec L2 Fo Pt
noncomputable def EM (n:Nat)(qs:List (Nat×Nat)):Prop:=∀p∈qs,p.1<n/\p.2<n/\p.1≠p.2
noncomputable abbrev KQ:=Nat×Nat×List Nat
noncomputable def EO (t:KQ):PV:=.tup [.int (t.1:Nat),.int (t.2.1:Nat),.tup (ai t.2.2)]
structure Cl (row qs:List (Nat×Nat))(k:Nat)(M:List KQ):Prop where
 mem:∀t∈M,t.2.1<k/\∃p,qs[t.2.1]?=some p/\Road row p.1 p.2 t.2.2/\t.1=kg t.2.2
 all:∀i p,i<k->qs[i]?=some p->dW row id p.1=dW row id p.2->∃t∈M,t.2.1=i
 nd:(M.map λt=>t.2.1).Nodup
 len:M.length<=k
theorem xC {n:Nat}(h2:n<=40){row qs:List (Nat×Nat)}(hr:∀p∈row,p.1<n/\p.2<n)(h60:row.length<=60)(hq:∀p∈qs,p.1<n/\p.2<n)(hl:qs.length<=60){s0 s1 s2 z9:Option Sl}:∀(ts pre:List (Nat×Nat)) (M:List KQ) (z5 z6 z7 z8:Option Sl),qs=pre++ts->Cl row qs pre.length M →
  ∃M' w5 w6 w7 w8,bn (ff 2 (gC (gN 5) (gC (ff 2 (gC (gN 6) (gC (gN 7) g0))) g0))) bS (cc pre.length (aO ts)) [s0,s1,s2,some (.val (.lst ((aw (tl row) (j8 row)).map jG))),some (.own (M.map EO)),z5,z6,z7,z8,z9] =
   .nx [s0,s1,s2,some (.val (.lst ((aw (tl row) (j8 row)).map jG))),some (.own (M'.map EO)),w5,w6,w7,w8,z9]/\Cl row qs qs.length M'
 |[],pre,M,z5,z6,z7,z8,e0,C=>⟨M,z5,z6,z7,z8,by rw[show aO []=[] from rfl,cc,ud],by rw[e0,a1x];rw[e0,a1x] at C;exact C⟩
 |p::ts,pre,M,z5,z6,z7,z8,e0,C=>by
  have e1:qs=(pre++[p])++ts:=by rw[e0,a2g];rfl
  have hm:p∈qs:=by rw[e0];exact a0p _ a0e
  have ep:qs[pre.length]?=some p:=by rw[e0,a2m (a0r _),Nat.sub_self];rfl
  have hpl:pre.length<qs.length:=(a0i.mp ep).1
  have pl:(pre++[p]).length=pre.length+1:=by rw[a0n];rfl
  obtain⟨hx,hy⟩:=hq p hm
  have hML:=C.len
  rcases sY h2 hr (by omega) hx hy with ⟨ns,b1,R,hn,hc⟩|⟨b1,hc⟩
  ·have C':Cl row qs (pre++[p]).length (M++[(kg ns,pre.length,ns)]):=by
    rw[pl]
    refine⟨λt ht=>?_,λi q hi hq' hl'=>?_,?_,by rw[a0n,a1h];omega⟩
    ·rcases a0u.mp ht with ht|ht
     ·exact⟨by have:=(C.mem t ht).1;omega,(C.mem t ht).2⟩
     ·rw[a0f.mp ht];exact⟨a2h _,p,ep,R,rfl⟩
    ·rcases a2f (a2x hi) with z|z
     ·obtain⟨t,ht,e⟩:=C.all i q z hq' hl'
      exact⟨t,a0w _ ht,e⟩
     ·exact⟨_,a0p _ (a0f.mpr rfl),z.symm⟩
    ·rw[a0z,a1q]
     refine⟨C.nd,by simp,λu hu v hv=>?_⟩
     rw[show v=pre.length by simpa using hv]
     obtain⟨t,ht,rfl⟩:=a1k.mp hu
     have:=(C.mem t ht).1
     omega
   obtain⟨M',w5,w6,w7,w8,e,C2⟩:=xC h2 hr h60 hq hl (s0:=s0) (s1:=s1) (s2:=s2) (z9:=z9) ts (pre++[p]) (M++[(kg ns,pre.length,ns)]) (some (.val (.int (pre.length:Nat)))) (some (.val (.int (p.1:Nat)))) (some (.val (.int (p.2:Nat)))) (some (.val (.tup (ai ns)))) e1 C'
   refine⟨M',w5,w6,w7,w8,?_,C2⟩
   rw[show aO (p::ts)=.tup [.int (p.1:Nat),.int (p.2:Nat)]::aO ts from rfl,cc,dI]
   rw[pl] at e
   have l1:(M.map EO).length<=100000:=by rw[a0j];omega
   have ea:M.map EO++[.tup [.int (kg ns:Nat),.int (pre.length:Nat),.tup (ai ns)]]=(M++[(kg ns,pre.length,ns)]).map EO:=by rw[a0z];rfl
   simp![bS,bF,aC,bz,aD,fM,aA,ay,aZ,be,aG,cu,bB,bC,cr,ck,cv,cw,bw,aE,bx,aB,cj,bE,aJ,aH,bh,aQ,aU,bf,ax,fL,bH,bc,bg,bA,az,aW,bZ,aN,cq,br,bD,aF,bG,aX,aY,aT,b1,wI,if_pos l1,ea]
   exact e
  ·have C':Cl row qs (pre++[p]).length M:=by
    rw[pl]
    refine⟨λt ht=>⟨by have:=(C.mem t ht).1;omega,(C.mem t ht).2⟩,λi q hi hq' hl'=>?_,C.nd,by omega⟩
    rcases a2f (a2x hi) with z|z
    ·exact C.all i q z hq' hl'
    ·rw[z,ep] at hq';cases hq';exact absurd hl' hc
   obtain⟨M',w5,w6,w7,w8,e,C2⟩:=xC h2 hr h60 hq hl (s0:=s0) (s1:=s1) (s2:=s2) (z9:=z9) ts (pre++[p]) M (some (.val (.int (pre.length:Nat)))) (some (.val (.int (p.1:Nat)))) (some (.val (.int (p.2:Nat)))) (some (.val .non)) e1 C'
   refine⟨M',w5,w6,w7,w8,?_,C2⟩
   rw[show aO (p::ts)=.tup [.int (p.1:Nat),.int (p.2:Nat)]::aO ts from rfl,cc,dI]
   rw[pl] at e
   simp![bS,bF,aC,bz,aD,fM,aA,ay,aZ,be,aG,cu,bB,bC,cr,ck,cv,cw,bw,aE,bx,aB,cj,bE,aJ,aH,bh,aQ,aU,bf,ax,fL,bH,bc,bg,bA,az,aW,bZ,aN,cq,br,bD,aF,bG,aX,aY,aT,b1]
   exact e
noncomputable def Ot (a b:Int×Int):Prop:=a.1<b.1\/a.1=b.1/\a.2<=b.2
theorem MK (ks:List (Int×Int)):∀k j,j<=k->Ot (ks.getD (argBest (zR ks) k) (0,0)) (ks.getD j (0,0))
 |0,j,h=>by
  rw[show j=0 by omega];exact .inr ⟨rfl,a3k _⟩
 |k+1,j,h=>by
  have ih:=MK ks k
  rw[argBest]
  generalize argBest (zR ks) k=A at ih ⊢
  by_cases q:zR ks (k+1) A=true
  ·rw[if_pos q]
   rcases a2f h with z|z
   ·have:=ih j (by omega)
    unfold zR at q
    unfold Ot at this ⊢
    split at q
    ·have:=of_decide_eq_true q;omega
    ·have:=of_decide_eq_true q;omega
   ·rw[z];exact .inr ⟨rfl,a3k _⟩
  ·rw[if_neg q]
   rcases a2f h with z|z
   ·exact ih j (by omega)
   ·rw[z]
    unfold zR at q
    unfold Ot
    split at q
    ·have:=of_decide_eq_false (a3f.mpr q);omega
    ·have:=of_decide_eq_false (a3f.mpr q);omega
theorem wH:∀M:List KQ,qq (M.map EO)=some (M.map λt=>((t.1:Int),(t.2.1:Int)))
 |[]=>rfl
 |t::M=>by
  show (DS (EO t)).bind (λk=>(qq (M.map EO)).map λks=>k::ks)=_
  rw[wH M];rfl
theorem I6 {M:List KQ}(hM:M≠[])(nd:(M.map λt=>t.2.1).Nodup):∃t∈M,(∀u∈M,t.1<u.1\/t.1=u.1/\t.2.1<=u.2.1)/\sO [.lst (M.map EO)]=some (.fz (.tup [.int (t.1:Nat),.int (t.2.1:Nat),.tup (ai t.2.2)])):=by
 have pos:0<M.length:=a3n.mpr hM
 have hks:(M.map λt=>((t.1:Int),(t.2.1:Int))).length=M.length:=a0j ..
 generalize hk:(M.map λt=>((t.1:Int),(t.2.1:Int)))=ks at hks
 have hi:=kH (zR ks) (ks.length - 1)
 have hb:=MK ks (ks.length - 1)
 generalize hI:argBest (zR ks) (ks.length - 1)=I at hi hb
 have at':∀j (hj:j<M.length),ks.getD j (0,0)=((M[j].1:Int),(M[j].2.1:Int)):=λj hj=>by
  rw[←hk,a0k,a0s,a0h hj];rfl
 have hIl:I<M.length:=by omega
 refine⟨M[I],a3o hIl,λu hu=>?_,?_⟩
 ·obtain⟨j,hj,rfl⟩:=a2t hu
  have:=hb j (by omega)
  rw[at' I hIl,at' j hj] at this
  unfold Ot at this
  omega
 ·have nd2:(ks.map (·.2)).Nodup:=by
   rw[←hk,a1u]
   rw[show (λk:Int×Int=>k.2) ∘ (λt:KQ=>((t.1:Int),(t.2.1:Int)))=(λi:Nat=>(i:Int)) ∘ λt:KQ=>t.2.1 from rfl,←a1u]
   exact nd.map _ λa b h e=>h (by have e:(a:Int)=(b:Int):=e;omega)
  rw[aT]
  show (qq (M.map EO)).bind _=_
  rw[wH,hk,Option.bind_some,if_pos ⟨by omega,nd2⟩,hI,a0k,a0s,a0h hIl]
  rfl
theorem vB {n:Nat}{qs:List (Nat×Nat)}(hq:EM n qs)(hl:qs.length<=60):gE [.int (n:Nat),.tup (aO qs)]=some (.v .non):=by
 have e:=uo (t:=gN 0) (f:=eM) (ρ:=[none,some (.val (.int (n:Nat)))]) (λ_=>PV.bl true) (its:=aO qs) λp hp=>by
  obtain⟨q,hq',rfl⟩:=a1k.mp hp
  obtain⟨hx,hy,ne⟩:=hq q hq'
  have d:decide ((q.1:Int)=(q.2:Int))=false:=decide_eq_false (by omega)
  have a0:∀a b:PV,L2.c8 [a,b] 0=some a:=λa b=>rfl
  have a1:∀a b:PV,L2.c8 [a,b] 1=some b:=λa b=>rfl
  have e1:eN [.int (n:Nat),.tup [.int (q.1:Nat),.int (q.2:Nat)]]=some (.v (.bl true)):=by
   simp![mX,fH,BR hx hy,a0,a1,d]
  simp![eM,e1]
 have l1:(aO qs).length<1000:=by rw[kh];omega
 simp![pB,io,eM,bF,aC,bz,aD,fM,aA,ay,aZ,be,aG,cu,bB,bC,cr,ck,cv,cw,bw,aE,bx,aB,cj,bE,aJ,aH,bh,aQ,aU,bf,ax,fL,bH,bc,bg,bA,az,aW,bZ,aN,cq,br,bD,aF,bG,aX,aY,aT,if_pos l1,e,MO,NL]
theorem GA {n:Nat}(h1:1<=n)(h2:n<=40){row qs:List (Nat×Nat)}(hr:∀p∈row,p.1<n/\p.2<n)(h60:row.length<=60)(hq:EM n qs)(hl:qs.length<=60):∃M,Cl row qs qs.length M/\(M=[]->bK [.int (n:Nat),.tup (aO row),.tup (aO qs)]=some (.v (.tup [.str "none"]))) ∧
  (M≠[]->∃t∈M,(∀u∈M,t.1<u.1\/t.1=u.1/\t.2.1<=u.2.1)/\bK [.int (n:Nat),.tup (aO row),.tup (aO qs)]=some (.v (.tup [.str "clash",.int (t.1:Nat),.int (t.2.1:Nat),.tup (ai t.2.2)]))):=by
 obtain⟨M,w5,w6,w7,w8,e,C⟩:=xC h2 hr h60 (λp hp=>⟨(hq p hp).1,(hq p hp).2.1⟩) hl (s0:=some (.val (.int (n:Nat)))) (s1:=some (.val (.tup (aO row)))) (s2:=some (.val (.tup (aO qs)))) (z9:=none) qs [] [] none none none none rfl ⟨λ_ h=>(by cases h),λ_ _ h=>absurd h (a2p _),by simp,a0r _⟩
 have e':bn (ff 2 (gC (gN 5) (gC (ff 2 (gC (gN 6) (gC (gN 7) g0))) g0))) bS (cc 0 (aO qs)) [some (.val (.int (n:Nat))),some (.val (.tup (aO row))),some (.val (.tup (aO qs))),some (.val (.lst ((aw (tl row) (j8 row)).map jG))),some (.own []),none,none,none,none,none]=_:=e
 refine⟨M,C,λhM=>?_,λhM=>?_⟩
 ·subst hM
  simp![kO,fE,bS,bF,aC,bz,aD,fM,aA,ay,aZ,be,aG,cu,bB,bC,cr,ck,cv,cw,bw,aE,bx,aB,cj,bE,aJ,aH,bh,aQ,aU,bf,ax,fL,bH,bc,bg,bA,az,aW,bZ,aN,cq,br,bD,aF,bG,aX,aY,aT,vF h1 h2 hr,vB hq hl,nW h1 h2 hr (show row.length<=100 by omega),e',a3h]
  rfl
 ·obtain⟨t,ht,hmin,em⟩:=I6 hM C.nd
  refine⟨t,ht,hmin,?_⟩
  have d0:decide ((M.length:Int)=0)=false:=decide_eq_false (by have:=a3n.mpr hM;omega)
  simp![kO,fE,bS,vF h1 h2 hr,vB hq hl,nW h1 h2 hr (show row.length<=100 by omega),e',a0j,d0,em]
end Dp
end
section
set_option maxHeartbeats 2000000
namespace K44
open PySem L2 Fo Dp Pt
section
variable {n:Nat}{row:List (Nat×Nat)}{x y:Nat}
theorem j9 (h1:1<=n)(h2:n<=40)(hr:∀p∈row,p.1<n/\p.2<n)(h60:row.length<=130)(hx:x<n)(hy:y<n)(ne:x≠y):∃K:Nat,MinC row x y K/\bL [.int (n:Nat),.tup (aO row),.int (x:Nat),.int (y:Nat)]=some (.v (.int (K:Nat))):=by
 obtain⟨ss,rs,e,S⟩:=Fx h1 h2 hr h60 hx hy ne
 refine⟨ss.length,S.min,?_⟩
 have d:decide (((ss.length:Nat):Int)=((rs.length:Nat):Int))=true:=decide_eq_true (by rw[S.cnt])
 simp![uT,kD,e,fS,sX,d,LB]
theorem DG (h1:1<=n)(h2:n<=40)(hr:∀p∈row,p.1<n/\p.2<n)(h60:row.length<=130)(hx:x<n)(hy:y<n)(ne:x≠y){K:Nat}(m:MinC row x y K):bL [.int (n:Nat),.tup (aO row),.int (x:Nat),.int (y:Nat)]=some (.v (.int (K:Nat))):=by
 obtain⟨K',m',e⟩:=j9 h1 h2 hr h60 hx hy ne
 rw[m.uniq m'];exact e
theorem Ao (row:List (Nat×Nat))(k:Nat):mB (aO row) (some ((k:Nat):Int)) none=aO (row.drop k):=by
 rw[pW];unfold aO;rw[a5p]
theorem lO (a b:List (Nat×Nat)):aO a++aO b=aO (a++b):=by unfold aO;rw[a0z]
theorem uL (P:Nat->Bool)(p:Nat×Nat)(k:Nat):iZ P (row.take k++[p]++row.drop k)=iZ P row+iZ P [p]:=by
 rw[ji,ji]
 have:=ji P (row.take k) (row.drop k)
 rw[a4a] at this
 omega
theorem FW (P:Nat->Bool)(k:Nat):iZ P (row.take k++row.drop (k+1))<=iZ P row/\iZ P row<=iZ P (row.take k++row.drop (k+1))+1:=by
 rw[ji]
 have h:=ji P (row.take k) (row.drop k)
 rw[a4a] at h
 by_cases q:k<row.length
 ·rw[a3d q,show row[k]::row.drop (k+1)=[row[k]]++row.drop (k+1) from rfl,ji,uz] at h
  split at h<;>omega
 ·rw[a2b (by omega)] at h
  rw[a2b (by omega)]
  have z:iZ P []=0:=rfl
  omega
theorem DJ (hr:∀p∈row,p.1<n/\p.2<n){p:Nat×Nat}(hp:p.1<n/\p.2<n)(k:Nat):∀q∈row.take k++[p]++row.drop k,q.1<n/\q.2<n:=λq hq=>by
 rcases a0u.mp hq with hq|hq
 ·rcases a0u.mp hq with hq|hq
  ·exact hr q (a4j _ _ hq)
  ·rw[a0f.mp hq];exact hp
 ·exact hr q (List.drop_subset _ _ hq)
theorem Kh (hr:∀p∈row,p.1<n/\p.2<n)(k:Nat):∀q∈row.take k++row.drop (k+1),q.1<n/\q.2<n:=λq hq=>by
 rcases a0u.mp hq with hq|hq
 ·exact hr q (a4j _ _ hq)
 ·exact hr q (List.drop_subset _ _ hq)
theorem yW {p:Nat×Nat}{k:Nat}:(row.take k++[p]++row.drop k).length=row.length+1:=by
 have:=congrArg a5w (a4a k row)
 rw[a0n] at this
 rw[a0n,a0n,a1h];omega
theorem Ge {k:Nat}:(row.take k++row.drop (k+1)).length<=row.length:=by
 rw[a0n,a1p,a2e];omega
theorem Go (hr:∀p∈row,p.1<n/\p.2<n):pP (gN 0) n5 cA [none,some (.val (.tup (aO row)))] (ai (j8 row))=some (aO (v5 row)):=by
 rw[zJ (λj=>.tup [.int ((row.getD j (0,0)).1:Nat),.int ((row.getD j (0,0)).2:Nat)]) λj hj=>by
  have hl:=zQ hj
  have e1:=yN (row:=row) (j:=j) (p:=row.getD j (0,0)) (by rw[a0k,a0h hl];rfl)
  simp![cA,e1]]
 unfold v5 aO
 rw[a1u];rfl
theorem NJ {x:Nat}:pP (gN 0) cB cI [none,some (.val (.int (x:Nat)))] (aO row)=some (aO (row.filter λp=>!decide (p.1=p.2)&&(decide (p.1=x) || decide (p.2=x)))):=by
 have a0:∀a b:PV,L2.c8 [a,b] 0=some a:=λ_ _=>rfl
 have a1:∀a b:PV,L2.c8 [a,b] 1=some b:=λ_ _=>rfl
 rw[jK (λp=>match p with|.tup [.int a,.int b]=>!decide (a.toNat=b.toNat)&&(decide (a.toNat=x) || decide (b.toNat=x))|_=>false) (λp=>p) λp hp=>by
  obtain⟨q,_,rfl⟩:=a1k.mp hp
  refine⟨[some (.val (.tup [.int (q.1:Nat),.int (q.2:Nat)])),some (.val (.int (x:Nat)))],rfl,?_,λ_=>by simp![cI]⟩
  show _=some (!decide (q.1=q.2)&&(decide (q.1=x) || decide (q.2=x)))
  have d1:decide ((q.1:Int)=(q.2:Int))=decide (q.1=q.2):=decide_eq_decide.mpr (by omega)
  have d2:pin (.int (x:Nat)) [.int (q.1:Nat),.int (q.2:Nat)]=(decide (q.1=x) || decide (q.2=x)):=by
   unfold pin
   rw[a3j,a3j,List.any_nil,Bool.or_false,pQ,pQ]
   rw[show decide ((q.1:Int)=(x:Int))=decide (q.1=x) from decide_eq_decide.mpr (by omega),show decide ((q.2:Int)=(x:Int))=decide (q.2=x) from decide_eq_decide.mpr (by omega)]
  simp![cB,a0,a1,d1,d2]
  cases decide (q.1=q.2)<;>cases (decide (q.1=x) || decide (q.2=x))<;>rfl]
 refine congrArg some ?_
 unfold aO
 rw[List.map_id',a3e]
 rfl
theorem s9:decide (("one" : Str) = "apart")=false/\decide (("apart" : Str) = "apart")=true:=⟨by decide,by decide⟩
theorem IT (h1:2<=n)(h2:n<=40)(hr:∀p∈row,p.1<n/\p.2<n)(h30:row.length<=30)(hx:x<n)(hy:y<n)(ne:x≠y){xs:List Nat}(hxs:3<=xs.length):dO [.int (n:Nat),.tup (aO row),.int (x:Nat),.int (y:Nat),.lst (ai xs)]=some (.v (.bl true)):=by
 have g1:1<=n:=by omega
 obtain⟨K,m,eK⟩:=j9 g1 h2 hr (by omega) hx hy ne
 have eB:=DG g1 h2 hr (by omega) hy hx (λz=>ne z.symm) m.sym
 have i0:L2.c8 (ai xs) 0=some (.int (up xs 0:Nat)):=au (x:=0) (by omega)
 have i1:L2.c8 (ai xs) 1=some (.int (up xs 1:Nat)):=au (x:=1) (by omega)
 have i2:L2.c8 (ai xs) 2=some (.int (up xs 2:Nat)):=au (x:=2) (by omega)
 generalize hj0:up xs 0 % n=j0
 generalize hj1:up xs 1 % n=j1
 have b0:j0<n:=by rw[←hj0];exact a2c _ (by omega)
 have b1:j1<n:=by rw[←hj1];exact a2c _ (by omega)
 generalize hk:up xs 2 % (row.length+1)=k
 have kb:k<=row.length:=by have:=a2c (up xs 2) (show 0<row.length+1 by omega);omega
 have m0:((up xs 0:Nat):Int) % ((n:Nat):Int)=((j0:Nat):Int):=by rw[←hj0];omega
 have m1:((up xs 1:Nat):Int) % ((n:Nat):Int)=((j1:Nat):Int):=by rw[←hj1];omega
 have mk:((up xs 2:Nat):Int) % (((row.length:Nat):Int)+1)=((k:Nat):Int):=by rw[←hk];exact (a1y _ _).symm
 have lp:(aO row).length=row.length:=a0j ..
 have cT:=nQ kb
 have cD:=Ao row k
 have cD1:mB (aO row) (some (((k:Nat):Int)+1)) none=aO (row.drop (k+1)):=Ao row (k+1)
 have eA:aO (row.take k)++[.tup [.int ((j0:Nat):Int),.int ((j1:Nat):Int)]]++aO (row.drop k)=aO (row.take k++[(j0,j1)]++row.drop k):=by rw[←lO,←lO];rfl
 have eS:aO (row.take k)++[.tup [.int ((j0:Nat):Int),.int ((j0:Nat):Int)]]++aO (row.drop k)=aO (row.take k++[(j0,j0)]++row.drop k):=by rw[←lO,←lO];rfl
 have eD:aO (row.take k)++aO (row.drop (k+1))=aO (row.take k++row.drop (k+1)):=lO _ _
 have eW:aO row++aO row=aO (row++row):=lO _ _
 obtain⟨Km,mm,em⟩:=j9 (row:=row.take k++[(j0,j1)]++row.drop k) g1 h2 (DJ hr ⟨b0,b1⟩ k) (by rw[yW];omega) hx hy ne
 obtain⟨Kf,mf,ef⟩:=j9 (row:=row.take k++row.drop (k+1)) g1 h2 (Kh hr k) (by have:=Ge (row:=row) (k:=k);omega) hx hy ne
 obtain⟨Ks,ms,es⟩:=j9 (row:=row.take k++[(j0,j0)]++row.drop k) g1 h2 (DJ hr ⟨b0,b0⟩ k) (by rw[yW];omega) hx hy ne
 have ew:=DG (row:=row++row) g1 h2 (λp hp=>(a0u.mp hp).elim (hr p) (hr p)) (by rw[a0n];omega) hx hy ne m.dbl
 obtain⟨Kr,mr,er⟩:=j9 (row:=v5 row) g1 h2 (JZ hr) (by have:=(kj (tl row) row.length).2;have e:(v5 row).length=(cs (tl row) row.length).length:=a0j ..;omega) hx hy ne
 have q1:=m.diff (d:=1) mm λP _ _=>by
  have c:=uL (row:=row) P (j0,j1) k
  have:=uz P (j0,j1)
  split at this<;>omega
 have q2:=mf.diff (d:=1) m λP _ _=>FW P k
 have q3:Ks=K:=ms.uniq ⟨(let ⟨P,p1,p2,p3⟩:=m.is;⟨P,p1,p2,by rw[uL,uz,if_pos rfl];exact p3⟩),λP p1 p2=>by rw[uL];have:=m.le P p1 p2;omega⟩
 subst q3
 have kz:=m.zero
 obtain⟨fm,sa,ns,ef1,ef2,ef3,hR⟩:∃(fm:PV) (sa:Str) (ns:List Nat),cX [.int (n:Nat),.tup (aO row),.int (x:Nat),.int (y:Nat)]=some (.v fm)/\bo fm (.int 0)=some (.fz (.str sa))/\decide (sa = "apart")=decide (((Ks:Nat):Int)=0)/\(dW row id x=dW row id y->Road row x y ns/\ns≠[]):=by
  rcases zM g1 h2 hr (show row.length<=100 by omega) hx hy with ⟨ns,e,R,_,hc⟩|⟨e,hc⟩
  ·refine⟨_,"one",ns,e,rfl,?_,λ_=>⟨R,λz=>?_⟩⟩
   ·rw[s9.1]
    exact (decide_eq_false (by have:=λz=>kz.mp z hc;omega)).symm
   ·obtain⟨vs,r1,_,r3,r4⟩:=R.ex
    rw[z] at r1
    cases vs with
    |nil=>exact r1
    |cons a vs=>
     cases vs with
     |nil=>
      have e1:a=x:=by simpa using r3
      have e2:a=y:=by simpa using r4
      exact ne (e1.symm.trans e2)
     |cons b vs=>exact r1
  ·refine⟨_,"apart",[],e,rfl,?_,λz=>absurd z hc⟩
   rw[s9.2]
   exact (decide_eq_true (by have:=kz.mpr hc;omega)).symm
 have q4:=mr.real (k:=Ks) h2 hr hx hy hR kz
 have q5:=m.at_x ne
 have d0:decide (((Ks:Nat):Int)<0)=false:=decide_eq_false (by omega)
 have d1:decide (((Ks:Nat):Int)=((Ks:Nat):Int))=true:=decide_eq_true rfl
 have d2:decide (((Ks:Nat):Int)<=((Km:Nat):Int))=true:=decide_eq_true (by omega)
 have d3:decide (((Km:Nat):Int)<=((Ks:Nat):Int)+1)=true:=decide_eq_true (by omega)
 have d4:decide (((Ks:Nat):Int) - 1<=((Kf:Nat):Int))=true:=decide_eq_true (by omega)
 have d5:decide (((Kf:Nat):Int)<=((Ks:Nat):Int))=true:=decide_eq_true (by omega)
 have d6:decide (((2 * Ks:Nat):Int)=2 * ((Ks:Nat):Int))=true:=decide_eq_true (by omega)
 have d7:decide (((Kr:Nat):Int)=(if ((Ks:Nat):Int)<1 then ((Ks:Nat):Int) else 1))=true:=decide_eq_true (by split<;>omega)
 have d8:decide (((Ks:Nat):Int)<=(((row.filter λp=>!decide (p.1=p.2)&&(decide (p.1=x) || decide (p.2=x))).length:Nat):Int))=true:=decide_eq_true (by omega)
 have a0:∀a b:PV,L2.c8 [a,b] 0=some a:=λ_ _=>rfl
 have a1:∀a b:PV,L2.c8 [a,b] 1=some b:=λ_ _=>rfl
 have lt:(aO (row.take k)).length=k:=by rw[show (aO (row.take k)).length=(row.take k).length from a0j ..,a1p];omega
 have gr:=Go hr
 have ga:=NJ (row:=row) (x:=x)
 have rl:=Dz h2 hr (show row.length<=60 by omega)
 have np:(0:Int)<((n:Nat):Int):=by omega
 have rp:(0:Int)<((row.length:Nat):Int)+1:=by omega
 have le1:(aO (row.take k)).length<=99999:=by omega
 have ldr:(aO (row.drop k)).length<=30:=by rw[show (aO (row.drop k)).length=(row.drop k).length from a0j ..,a2e];omega
 have ldr1:(aO (row.drop (k+1))).length<=30:=by rw[show (aO (row.drop (k+1))).length=(row.drop (k+1)).length from a0j ..,a2e];omega
 have le2:(aO (row.take k)).length+1+(aO (row.drop k)).length<=100000:=by omega
 have le3:(aO (row.take k)).length+(aO (row.drop (k+1))).length<=100000:=by omega
 have le4:row.length+row.length<=100000:=by omega
 have rlen:(j8 row).length<1000:=by have h:(j8 row).length<=row.length:=(kj (tl row) row.length).2;omega
 have lr1:row.length<1000:=by omega
 have lf:(aO (row.filter λp=>!decide (p.1=p.2)&&(decide (p.1=x) || decide (p.2=x)))).length=(row.filter λp=>!decide (p.1=p.2)&&(decide (p.1=x) || decide (p.2=x))).length:=a0j ..
 have mr2:((2:Int).natAbs<2 ^ 64\/((Ks:Nat):Int).natAbs<2 ^ 64):=.inl (by decide)
 simp![l7,eU,cA,cB,cI,eK,eB,d0,d1,ef1,ef2,ef3,i0,i1,i2,m0,m1,mk,lp,jM,cT,cD,cD1,if_pos le1,a0n,a0o,a2o,if_pos le2,if_pos le3,if_pos le4,eA,eS,eD,eW,em,ef,es,ew,d2,d3,d4,d5,d6,d7,d8,a0,a1,if_pos mr2,rl,fS,rlen,lr1,gr,ga,er,lf,beq_self_eq_true,if_pos np,if_pos rp]
theorem F6 (h1:2<=n)(h2:n<=40)(hr:∀p∈row,p.1<n/\p.2<n)(h30:row.length<=30)(hx:x<n)(hy:y<n)(ne:x≠y){z:Nat}(hz:z<n):c5 [.int (n:Nat),.tup (aO row),.int (x:Nat),.int (y:Nat),.int (z:Nat)]=some (.v (.bl true)):=by
 have g1:1<=n:=by omega
 by_cases q:z=x
 ·have d:decide (((z:Nat):Int)=((x:Nat):Int))=true:=decide_eq_true (by omega)
  simp![dZ,bU,d]
 ·have d:decide (((z:Nat):Int)=((x:Nat):Int))=false:=decide_eq_false (by omega)
  by_cases q2:z=y
  ·have d2:decide (((z:Nat):Int)=((y:Nat):Int))=true:=decide_eq_true (by omega)
   simp![dZ,bU,d,d2]
  ·have d2:decide (((z:Nat):Int)=((y:Nat):Int))=false:=decide_eq_false (by omega)
   obtain⟨K,m,e⟩:=j9 g1 h2 hr (by omega) hx hy ne
   obtain⟨A,ma,ea⟩:=j9 g1 h2 hr (by omega) hx hz (λw=>q w.symm)
   obtain⟨B,mb,eb⟩:=j9 g1 h2 hr (by omega) hz hy q2
   have t:=m.third ma mb
   have d3:decide (((K:Nat):Int) >= (if ((B:Nat):Int)<((A:Nat):Int) then ((B:Nat):Int) else ((A:Nat):Int)))=true:=decide_eq_true (by split<;>omega)
   simp![dZ,bU,d,d2,e,ea,eb,d3]
theorem Av {m:Nat}:∀{ns vs:List Nat},Rq (tl (row.take m)) ns vs->Rq (tl row) ns vs
 |[],[_],_=>trivial
 |[],[],h=>h
 |[],_::_::_,h=>h
 |_::_,[],h=>h
 |_::_,[_],h=>h
 |j::ns,a::e::vs,⟨h1,h2⟩=>by
  refine⟨?_,Av h2⟩
  obtain⟨t,et,d⟩:=h1
  rw[←um,a2w] at et
  split at et
  ·exact⟨t,et,d⟩
  ·cases et
theorem FN {m j:Nat}(hj:j<m):Rl (tl (row.take m)) j↔Rl (tl row) j:=by
 unfold Rl
 rw[←um,a2w,if_pos hj,List.take_take,a4g (by omega)]
theorem lT {m:Nat}{ns:List Nat}(R:Road (row.take m) x y ns):Road row x y ns:=by
 obtain⟨vs,r1,r2,r3,r4⟩:=R.ex
 refine⟨⟨vs,Av r1,r2,r3,r4⟩,λj hj=>?_⟩
 obtain⟨h1,h2⟩:=R.rl j hj
 rw[a1p] at h1
 exact⟨by omega,(FN (by omega)).mp h2⟩
theorem CV {m:Nat}{ns:List Nat}(R:Road (row.take m) x y ns):kg ns<=m:=mom_le.mpr λj hj=>by
 have:=(R.rl j hj).1
 rw[a1p] at this;omega
theorem GO (h1:1<=n)(h2:n<=40)(hr:∀p∈row,p.1<n/\p.2<n)(h60:row.length<=100)(hx:x<n)(hy:y<n)(hc:dW row id x=dW row id y):∃ns,Road row x y ns:=by
 rcases zM h1 h2 hr h60 hx hy with ⟨ns,_,R,_,_⟩|⟨_,h⟩
 ·exact⟨ns,R⟩
 ·exact absurd hc h
theorem nT {ns:List Nat}(R:Road row x y ns):dW row id x=dW row id y:=by
 have:=(R.when (k:=row.length)).mpr λj hj=>(R.rl j hj).1
 rwa [a4h] at this
structure Tld (n:Nat)(row qs:List (Nat×Nat))(V:PV):Prop where
 e:bK [.int (n:Nat),.tup (aO row),.tup (aO qs)]=some (.v V)
 d:(V=.tup [.str "none"]/\∀p∈qs,dW row id p.1≠dW row id p.2) ∨
  ∃i p ns,V=.tup [.str "clash",.int (kg ns:Nat),.int (i:Nat),.tup (ai ns)]/\qs[i]?=some p/\Road row p.1 p.2 ns/\∀j q ns',qs[j]?=some q->Road row q.1 q.2 ns'->kg ns<kg ns'\/kg ns=kg ns'/\i<=j
theorem m7 (h1:1<=n)(h2:n<=40){qs:List (Nat×Nat)}(hr:∀p∈row,p.1<n/\p.2<n)(h60:row.length<=60)(hq:EM n qs)(hl:qs.length<=60):∃V,Tld n row qs V:=by
 obtain⟨M,C,e0,e1⟩:=GA h1 h2 hr h60 hq hl
 by_cases hM:M=[]
 ·refine⟨_,e0 hM,.inl ⟨rfl,λp hp hc=>?_⟩⟩
  obtain⟨i,hi,ei⟩:=a2t hp
  obtain⟨t,ht,_⟩:=C.all i p hi (by rw[a0h hi,ei]) hc
  rw[hM] at ht;cases ht
 ·obtain⟨t,ht,hmin,e⟩:=e1 hM
  obtain⟨_,p,ep,R,em⟩:=C.mem t ht
  refine⟨_,e,.inr ⟨t.2.1,p,t.2.2,by rw[em],ep,R,λj q ns' eq R'=>?_⟩⟩
  have hj:j<qs.length:=(a0i.mp eq).1
  obtain⟨u,hu,ej⟩:=C.all j q hj eq (nT R')
  obtain⟨_,q',eq',Ru,eu⟩:=C.mem u hu
  rw[ej,eq] at eq';cases eq'
  rw[←R'.uniq Ru] at eu
  have:=hmin u hu
  rw[em,eu,ej] at this
  exact this
theorem Hu:decide (("none" : Str) = "clash")=false/\decide (("clash" : Str) = "clash")=true/\decide (("clash" : Str) = "none")=false/\decide (("none" : Str) = "none")=true:=⟨by decide,by decide,by decide,by decide⟩
noncomputable abbrev Qg:PV:=.tup [.str "none"]
noncomputable abbrev Ov (m i:Nat)(ns:List Nat):PV:=.tup [.str "clash",.int (m:Nat),.int (i:Nat),.tup (ai ns)]
theorem CD {qs:List (Nat×Nat)}(h:EM n qs)(k:Nat):EM n (qs.take k):=λp hp=>h p (a4j _ _ hp)
theorem JF (h1:1<=n)(h2:n<=40){qs:List (Nat×Nat)}(hr:∀p∈row,p.1<n/\p.2<n)(h60:row.length<=60)(hq:EM n qs)(hl:qs.length<=60){V:PV}(T:Tld n row qs V){k:Nat}(hk:k<=qs.length){z5 z6:Option Sl} :
  ∃w5,aM [some (.val (.int (n:Nat))),some (.val (.tup (aO row))),some (.val (.tup (aO qs))),some (.val V),some (.val (.int (k:Nat))),z5,z6]=.nx [some (.val (.int (n:Nat))),some (.val (.tup (aO row))),some (.val (.tup (aO qs))),some (.val V),some (.val (.int (k:Nat))),w5,z6]:=by
 obtain⟨W,e,d⟩:=m7 h1 h2 (qs:=qs.take k) hr h60 (CD hq k) (by rw[a1p];omega)
 have ec:=nQ hk
 have b0:L2.c8 [PV.str "none"] 0=some (.str "none"):=rfl
 have a0:∀a b c d:PV,L2.c8 [a,b,c,d] 0=some a:=λ_ _ _ _=>rfl
 have a1:∀a b c d:PV,L2.c8 [a,b,c,d] 1=some b:=λ_ _ _ _=>rfl
 rcases d with ⟨rfl,_⟩|⟨i,p,ns,rfl,ep,R,hm⟩
 ·refine⟨some (.val Qg),?_⟩
  simp![aM,Qg,jM,ec,e,b0,Hu.1]
 ·have ei:qs[i]?=some p:=by
   rw[a2w] at ep
   split at ep
   ·exact ep
   ·cases ep
  rcases T.d with ⟨rfl,hn⟩|⟨i',p',ns',rfl,ep',R',hm'⟩
  ·obtain⟨hi,e2⟩:=a0i.mp ei
   exact absurd (nT R) (hn p (e2▸a3o hi))
  ·have le:=hm' i p ns ei R
   have d1:decide (((kg ns':Nat):Int) > ((kg ns:Nat):Int))=false:=decide_eq_false (by omega)
   refine⟨some (.val (Ov (kg ns) i ns)),?_⟩
   simp![aM,Ov,jM,ec,e,a0,a1,Hu.2.1,Hu.2.2.1,d1]
theorem zB (h1:1<=n)(h2:n<=40){qs:List (Nat×Nat)}(hr:∀p∈row,p.1<n/\p.2<n)(h60:row.length<=60)(hq:EM n qs)(hl:qs.length<=60){V:PV}(T:Tld n row qs V):∀(ks:List Nat) (z4 z5 z6:Option Sl),(∀k∈ks,k<=qs.length) →
  ∃w4 w5,bn (gN 4) aM (ai ks) [some (.val (.int (n:Nat))),some (.val (.tup (aO row))),some (.val (.tup (aO qs))),some (.val V),z4,z5,z6]=.nx [some (.val (.int (n:Nat))),some (.val (.tup (aO row))),some (.val (.tup (aO qs))),some (.val V),w4,w5,z6]
 |[],z4,z5,z6,_=>⟨z4,z5,rfl⟩
 |k::ks,z4,z5,z6,h=>by
  obtain⟨a5,e1⟩:=JF h1 h2 hr h60 hq hl T (h k a0e) (z5:=z5) (z6:=z6)
  obtain⟨w4,w5,e2⟩:=zB h1 h2 hr h60 hq hl T ks (some (.val (.int (k:Nat)))) a5 z6 λq hq'=>h q (a0c _ hq')
  refine⟨w4,w5,?_⟩
  show bn (gN 4) aM (.int (k:Nat)::ai ks) _=_
  rw[dI]
  simp![e1]
  exact e2
theorem GJ (qs:List (Nat×Nat)):(aO qs).reverse=aO qs.reverse:=by unfold aO;rw[List.map_reverse]
theorem F8 {ns:List Nat}(R:Road row x y ns)(ne:x≠y):1<=kg ns:=by
 rcases a4n (kg ns) with h|h
 ·have hz:=mom_le.mp (Nat.le_of_eq h)
  have:ns=[]:=by
   cases ns with
   |nil=>rfl
   |cons j ns=>exact absurd (hz j a0e) (by omega)
  obtain⟨vs,r1,_,r3,r4⟩:=R.ex
  rw[this] at r1
  cases vs with
  |nil=>exact r1.elim
  |cons a vs=>
   cases vs with
   |nil=>
    have e1:a=x:=by simpa using r3
    have e2:a=y:=by simpa using r4
    exact absurd (e1.symm.trans e2) ne
   |cons b vs=>exact r1.elim
 ·exact h
theorem Bn {ns:List Nat}(R:Road row x y ns):kg ns<=row.length:=mom_le.mpr λj hj=>(R.rl j hj).1
theorem Fw (h1:1<=n)(h2:n<=40){qs:List (Nat×Nat)}(hr:∀p∈row,p.1<n/\p.2<n)(h60:row.length<=60)(hq:EM n qs)(hl:qs.length<=60):c9 [.int (n:Nat),.tup (aO row),.tup (aO qs)]=some (.v (.bl true)):=by
 obtain⟨V,T⟩:=m7 h1 h2 hr h60 hq hl
 obtain⟨W,TW⟩:=m7 h1 h2 (qs:=qs.reverse) hr h60 (λp hp=>hq p (a3p.mp hp)) (by rw[a2q];exact hl)
 obtain⟨w4,w5,el⟩:=zB h1 h2 hr h60 hq hl T (a0m qs.length) none none none λk hk=>a3y (a1b.mp hk)
 have eV:=T.e
 have eW:=TW.e
 rw[←GJ] at eW
 have lq:(aO qs).length=qs.length:=a0j ..
 have r1:=(K1 (n:=qs.length) (by omega)).1
 have b0:L2.c8 [PV.str "none"] 0=some (.str "none"):=rfl
 have a0:∀a b c d:PV,L2.c8 [a,b,c,d] 0=some a:=λ_ _ _ _=>rfl
 have a1:∀a b c d:PV,L2.c8 [a,b,c,d] 1=some b:=λ_ _ _ _=>rfl
 have rv:∀{i:Nat} {p:Nat×Nat},qs.reverse[i]?=some p->∃j,qs[j]?=some p:=λ{i p} h=>by
  have hm:p∈qs:=a3p.mp (a1i h)
  obtain⟨j,hj,e⟩:=a2t hm
  exact⟨j,by rw[a0h hj,e]⟩
 have rw':∀{j:Nat} {p:Nat×Nat},qs[j]?=some p->∃i,qs.reverse[i]?=some p:=λ{j p} h=>by
  have hm:p∈qs.reverse:=a3p.mpr (a1i h)
  obtain⟨i,hi,e⟩:=a2t hm
  exact⟨i,by rw[a0h hi,e]⟩
 rcases T.d with ⟨rfl,hn⟩|⟨i,p,ns,rfl,ep,R,hm⟩
 ·rcases TW.d with ⟨rfl,_⟩|⟨i',p',ns',rfl,ep',R',_⟩
  ·simp![gZ,cG,aM,eV,lq,r1,el,eW,b0,Hu.2.2.2]
  ·exact absurd (nT R') (hn p' (a3p.mp (a1i ep')))
 ·have hp:=hq p (a1i ep)
  have m1:=F8 R hp.2.2
  have m2:=Bn R
  rcases TW.d with ⟨rfl,hn⟩|⟨i',p',ns',rfl,ep',R',hm'⟩
  ·exact absurd (nT R) (hn p (a3p.mpr (a1i ep)))
  ·-- at the same moment
   obtain⟨j,ej⟩:=rv ep'
   obtain⟨j',ej'⟩:=rw' ep
   have c1:=hm j p' ns' ej R'
   have c2:=hm' j' p ns ej' R
   have em:kg ns'=kg ns:=by omega
   have hr1:∀m,∀p∈row.take m,p.1<n/\p.2<n:=λm=>F4 hr
   have hl1:∀m,(row.take m).length<=60:=λm=>by rw[a1p];omega
   obtain⟨A,eA,dA⟩:=m7 h1 h2 (row:=row.take (kg ns - 1)) (qs:=qs) (hr1 _) (hl1 _) hq hl
   have hA:A=.tup [.str "none"]:=by
    rcases dA with ⟨rfl,_⟩|⟨i2,p2,ns2,_,ep2,R2,_⟩
    ·rfl
    ·have:=CV R2
     have:=hm i2 p2 ns2 ep2 (lT R2)
     omega
   subst hA
   obtain⟨B,eB,dB⟩:=m7 h1 h2 (row:=row.take (kg ns)) (qs:=qs) (hr1 _) (hl1 _) hq hl
   have hc:=(R.when (k:=kg ns)).mpr (mom_le.mp (a0r _))
   have hB:B=Ov (kg ns) i ns:=by
    rcases dB with ⟨_,hn⟩|⟨i2,p2,ns2,rfl,ep2,R2,hm2⟩
    ·exact absurd hc (hn p (a1i ep))
    ·obtain⟨ns3,R3⟩:=GO h1 h2 (hr1 (kg ns)) (by have:=hl1 (kg ns);omega) hp.1 hp.2.1 hc
     have e3:=(lT R3).uniq R
     subst e3
     have l1:=hm2 i p ns3 ep R3
     have l2:=hm i2 p2 ns2 ep2 (lT R2)
     have e4:kg ns2=kg ns3/\i2=i:=by omega
     obtain⟨e4,rfl⟩:=e4
     rw[ep] at ep2;cases ep2
     have e5:=(lT R2).uniq R
     subst e5
     rfl
   subst hB
   have mi:((kg ns:Nat):Int) - 1=((kg ns - 1:Nat):Int):=by omega
   have ca:=nQ (row:=row) (m:=kg ns - 1) (by omega)
   have cb:=nQ (row:=row) (m:=kg ns) m2
   have pq:ii (ai ns) (ai ns)=true:=lP (ja ns)
   have d1:decide (((kg ns:Nat):Int)=((kg ns:Nat):Int))=true:=decide_eq_true rfl
   rw[em] at eW
   simp![gZ,cG,aM,Ov,eV,lq,r1,el,eW,a0,a1,Hu.2.2.1,Hu.2.1,mi,jM,ca,eA,cb,eB,d1,pq]
end
theorem zv {a m:Nat}(h:a<m)(b:Nat)(hm:2<=m):(a+1+b % (m - 1)) % m≠a:=by
 have:b % (m - 1)<m - 1:=a2c _ (by omega)
 generalize b % (m - 1)=c at *
 rcases Nat.lt_or_ge (a+1+c) m with q|q
 ·rw[Nat.mod_eq_of_lt q];omega
 ·rw[Nat.mod_eq_sub_mod q,Nat.mod_eq_of_lt (by omega)];omega
theorem Jk {n:Nat}(h1:2<=n){hs:List Nat}(hx:hs.length=20){k:Nat}(hk:k<=4){qs:List (Nat×Nat)}(hl:qs.length<=100){s0 s1 s4 s5 s6 z9:Option Sl}:∃p:Nat×Nat,∃w9,(p.1<n/\p.2<n/\p.1≠p.2)/\iE [s0,s1,some (.val (.lst (ai hs))),some (.val (.int (n:Nat))),s4,s5,s6,some (.own (aO qs)),some (.val (.int (k:Nat))),z9]=.nx [s0,s1,some (.val (.lst (ai hs))),some (.val (.int (n:Nat))),s4,s5,s6,some (.own (aO (qs++[p]))),some (.val (.int (k:Nat))),w9]:=by
 have i9:L2.c8 (ai hs) (9+(k:Int))=some (.int (up hs (9+k):Nat)):=au (x:=9+k) (by omega)
 have i14:L2.c8 (ai hs) (14+(k:Int))=some (.int (up hs (14+k):Nat)):=au (x:=14+k) (by omega)
 generalize ha:up hs (9+k) % n=a
 have ab:a<n:=by rw[←ha];exact a2c _ (by omega)
 have ma:((up hs (9+k):Nat):Int) % ((n:Nat):Int)=((a:Nat):Int):=by rw[←ha];exact (a1y _ _).symm
 generalize hb:(a+1+up hs (14+k) % (n - 1)) % n=b
 have bb:b<n:=by rw[←hb];exact a2c _ (by omega)
 have n1:((n:Nat):Int) - 1=((n - 1:Nat):Int):=by omega
 have mb:(((a:Nat):Int)+1+((up hs (14+k):Nat):Int) % (((n - 1:Nat):Int))) % ((n:Nat):Int)=((b:Nat):Int):=by
  rw[←hb]
  rw[a1y,a4l,a4l,a1y];rfl
 have ne:=zv ab (up hs (14+k)) h1
 rw[hb] at ne
 refine⟨(a,b),some (.val (.int (a:Nat))),⟨ab,bb,λe=>ne e.symm⟩,?_⟩
 have p1:(0:Int)<((n:Nat):Int):=by omega
 have p2:(0:Int)<((n - 1:Nat):Int):=by omega
 have lq:(aO qs).length<=100000:=by rw[kh];omega
 have ea:aO qs++[.tup [.int ((a:Nat):Int),.int ((b:Nat):Int)]]=aO (qs++[(a,b)]):=by unfold aO;rw[a0z];rfl
 simp![iE,i9,if_pos p1,ma,i14,n1,if_pos p2,mb,lq,if_true,ea]
theorem ED {n:Nat}(h1:2<=n){hs:List Nat}(hx:hs.length=20){s0 s1 s4 s5 s6:Option Sl}:∀(ks:List Nat) (qs:List (Nat×Nat)) (z8 z9:Option Sl),(∀k∈ks,k<=4)->qs.length+ks.length<=60->EM n qs →
  ∃qs' w8 w9,EM n qs'/\qs'.length<=60/\bn (gN 8) iE (ai ks) [s0,s1,some (.val (.lst (ai hs))),some (.val (.int (n:Nat))),s4,s5,s6,some (.own (aO qs)),z8,z9]=.nx [s0,s1,some (.val (.lst (ai hs))),some (.val (.int (n:Nat))),s4,s5,s6,some (.own (aO qs')),w8,w9]
 |[],qs,z8,z9,_,hl,hq=>⟨qs,z8,z9,hq,by simp at hl;omega,rfl⟩
 |k::ks,qs,z8,z9,hk,hl,hq=>by
  rw[a0o] at hl
  obtain⟨p,a9,hp,e1⟩:=Jk h1 hx (hk k a0e) (qs:=qs) (by omega) (s0:=s0) (s1:=s1) (s4:=s4) (s5:=s5) (s6:=s6) (z9:=z9)
  obtain⟨qs',w8,w9,u,l,e2⟩:=ED h1 hx (s0:=s0) (s1:=s1) (s4:=s4) (s5:=s5) (s6:=s6) ks (qs++[p]) (some (.val (.int (k:Nat)))) a9 (λq hq'=>hk q (a0c _ hq')) (by rw[a0n,a1h];omega) (λq hq'=>by
   rcases a0u.mp hq' with h|h
   ·exact hq q h
   ·rw[a0f.mp h];exact hp)
  refine⟨qs',w8,w9,u,l,?_⟩
  show bn (gN 8) iE (.int (k:Nat)::ai ks) _=_
  rw[dI]
  simp![e1]
  exact e2
theorem CP {ns:List Int}{a:Nat}(ha:a<=2){z2 z3 z4 z5 z6 z7 z8 z9:Option Sl}:∃w2 w3 w4 w5 w6 w7 w8 w9,jY [some (.val (.src (iL ns))),some (.val (.int (a:Nat))),z2,z3,z4,z5,z6,z7,z8,z9]=.nx [some (.val (.src (iL ns))),some (.val (.int (a:Nat))),w2,w3,w4,w5,w6,w7,w8,w9]:=by
 obtain⟨c,ec⟩:=yc ns (60+(a:Int)) (by omega) (by omega)
 obtain⟨hs,hx,ex⟩:=ou c 20 (by decide) (by decide)
 have hx:hs.length=20:=hx
 obtain⟨n0,n1,n2,en⟩:=F1 (up hs 0)
 have i0:L2.c8 (ai hs) 0=some (.int (up hs 0:Nat)):=au (x:=0) (by omega)
 have i1:L2.c8 (ai hs) 1=some (.int (up hs 1:Nat)):=au (x:=1) (by omega)
 have i2:L2.c8 (ai hs) 2=some (.int (up hs 2:Nat)):=au (x:=2) (by omega)
 have i3:L2.c8 (ai hs) 3=some (.int (up hs 3:Nat)):=au (x:=3) (by omega)
 have i8:L2.c8 (ai hs) 8=some (.int (up hs 8:Nat)):=au (x:=8) (by omega)
 obtain⟨n,hn,h1,h2⟩:∃n:Nat,(if ((n0:Nat):Int) > 2 then ((n0:Nat):Int) else 2)=((n:Nat):Int)/\2<=n/\n<=40:=by
  by_cases q:n0 > 2
  ·exact⟨n0,if_pos (by omega),by omega,n2⟩
  ·exact⟨2,if_neg (by omega),by omega,by omega⟩
 obtain⟨row,hr,hl,er⟩:=CF ns (at':=a) (m:=30) (show 1<=n by omega) h2 (by omega) (by decide)
 have er:fW [.src (iL ns),.int (a:Nat),.int (n:Nat),.int 30]=some (.v (.tup (aO row))):=er
 generalize hxx:up hs 1 % n=x
 have xb:x<n:=by rw[←hxx];exact a2c _ (by omega)
 have mx:((up hs 1:Nat):Int) % ((n:Nat):Int)=((x:Nat):Int):=by rw[←hxx];exact (a1y _ _).symm
 generalize hy:(x+1+up hs 2 % (n - 1)) % n=y
 have yb:y<n:=by rw[←hy];exact a2c _ (by omega)
 have n1':((n:Nat):Int) - 1=((n - 1:Nat):Int):=by omega
 have my:(((x:Nat):Int)+1+((up hs 2:Nat):Int) % (((n - 1:Nat):Int))) % ((n:Nat):Int)=((y:Nat):Int):=by
  rw[←hy]
  rw[a1y,a4l,a4l,a1y];rfl
 have ne:=zv xb (up hs 2) h1
 rw[hy] at ne
 generalize hz:up hs 3 % n=z
 have zb:z<n:=by rw[←hz];exact a2c _ (by omega)
 have mz:((up hs 3:Nat):Int) % ((n:Nat):Int)=((z:Nat):Int):=by rw[←hz];exact (a1y _ _).symm
 have m8:((up hs 8:Nat):Int) % 5=((up hs 8 % 5:Nat):Int):=(a1y _ _).symm
 have b8:up hs 8 % 5<5:=a2c _ (by decide)
 have ect:mB (ai hs) (some 4) none=ai (hs.drop 4):=by rw[vR];exact congrArg ai (pW hs 4)
 have e1:=IT h1 h2 hr hl xb yb (λe=>ne e.symm) (xs:=hs.drop 4) (by rw[a2e];omega)
 have e2:=F6 h1 h2 hr hl xb yb (λe=>ne e.symm) zb
 obtain⟨qs,w8,w9,uq,lq,e3⟩:=ED h1 hx (s0:=some (.val (.src (iL ns)))) (s1:=some (.val (.int (a:Nat)))) (s4:=some (.val (.tup (aO row)))) (s5:=some (.val (.int (x:Nat)))) (s6:=some (.val (.int (y:Nat)))) (a0m (up hs 8 % 5)) [] z8 z9 (λk hk=>by have:=a1b.mp hk;omega) (by rw[a0v];simp;omega) (λp hp=>by cases hp)
 have e3:bn (gN 8) iE (ai (a0m (up hs 8 % 5))) [some (.val (.src (iL ns))),some (.val (.int (a:Nat))),some (.val (.lst (ai hs))),some (.val (.int (n:Nat))),some (.val (.tup (aO row))),some (.val (.int (x:Nat))),some (.val (.int (y:Nat))),some (.own []),z8,z9]=_:=e3
 have e4:=Fw (show 1<=n by omega) h2 (row:=row) hr (by omega) uq lq
 have p1:(0:Int)<((n:Nat):Int):=by omega
 have p2:(0:Int)<((n - 1:Nat):Int):=by omega
 have r1:=(K1 (n:=up hs 8 % 5) (by omega)).1
 refine⟨some (.val (.lst (ai hs))),some (.val (.int (n:Nat))),some (.val (.tup (aO row))),some (.val (.int (x:Nat))),some (.val (.int (y:Nat))),some (.own (aO qs)),w8,w9,?_⟩
 simp![jY,ec,ex,i0,en,hn,er,i1,if_pos p1,mx,i2,n1',if_pos p2,my,ect,e1,i3,mz,e2,i8,m8,r1,e3,e4]
theorem wf {ns:List Int}:∀(ks:List Nat) (z1 z2 z3 z4 z5 z6 z7 z8 z9:Option Sl),(∀k∈ks,k<=2)->∃w1 w2 w3 w4 w5 w6 w7 w8 w9,bn (gN 1) jY (ai ks) [some (.val (.src (iL ns))),z1,z2,z3,z4,z5,z6,z7,z8,z9]=.nx [some (.val (.src (iL ns))),w1,w2,w3,w4,w5,w6,w7,w8,w9]
 |[],z1,z2,z3,z4,z5,z6,z7,z8,z9,_=>⟨z1,z2,z3,z4,z5,z6,z7,z8,z9,rfl⟩
 |k::ks,z1,z2,z3,z4,z5,z6,z7,z8,z9,h=>by
  obtain⟨a2,a3,a4,a5,a6,a7,a8,a9,e1⟩:=CP (ns:=ns) (h k a0e) (z2:=z2) (z3:=z3) (z4:=z4) (z5:=z5) (z6:=z6) (z7:=z7) (z8:=z8) (z9:=z9)
  obtain⟨w1,w2,w3,w4,w5,w6,w7,w8,w9,e2⟩:=wf (ns:=ns) ks (some (.val (.int (k:Nat)))) a2 a3 a4 a5 a6 a7 a8 a9 λq hq=>h q (a0c _ hq)
  refine⟨w1,w2,w3,w4,w5,w6,w7,w8,w9,?_⟩
  show bn (gN 1) jY (.int (k:Nat)::ai ks) _=_
  rw[dI]
  simp![e1]
  exact e2
theorem DF:∀ns:List Int,ns.length<=63->Aq [.src (ns.map PV.int)]=some (.v (.bl true)):=λns hn=>by
 obtain⟨j,j2,ej⟩:∃j:Nat,j<=2/\(if (if (2:Int)<((iL ns).length:Int) then (2:Int) else ((iL ns).length:Int)) > 1 then (if (2:Int)<((iL ns).length:Int) then (2:Int) else ((iL ns).length:Int)) else 1)=(j:Int):=by
  refine⟨(if (if (2:Int)<((iL ns).length:Int) then (2:Int) else ((iL ns).length:Int)) > 1 then (if (2:Int)<((iL ns).length:Int) then (2:Int) else ((iL ns).length:Int)) else 1).toNat,?_,?_⟩<;>split<;>split<;>omega
 obtain⟨w1,w2,w3,w4,w5,w6,w7,w8,w9,e⟩:=wf (ns:=ns) (a0m j) none none none none none none none none none (λk hk=>by have:=a1b.mp hk;omega)
 have r:=(K1 (n:=j) (by omega)).1
 show Aq [.src (iL ns)]=_
 simp![E9,ug,iE,jY,ej,r,e]
end K44
end
section
namespace PySem.W.Fast
def tw6813995086824870425:=()
def tw10013914780707815739:=()
def tw17527962101213284830:=()
def tw16614112682479493754:=()
def tw8557481162729904278:=()
def tw7049674578800310750:=()
def tw9643638743604529062:=()
def tw7262199742234066820:=()
def tw7922374375039736929:=()
def tw8246651918263335548:=()
def tw16133314294114556079:=()
def tw2918022670961502563:=()
def tw11588276893320522648:=()
def tw8136101901522331794:=()
def tw12190802011795857212:=()
def tw18155954958338356515:=()
def tw3967847299997941617:=()
def tw6005569179769556541:=()
def tw7773209413398125769:=()
def tw1947347589656902927:=()
def tw9242899718338813189:=()
def tw16694335504454338670:=()
def tw5714408757090648405:=()
def tw8709099468740183379:=()
def tw17566045098489297528:=()
def tw7880007125046973812:=()
def tw14975157431443832530:=()
def tw1976617446855179742:=()
def tw8639469795848951078:=()
def tw10536092665076430385:=()
def tw1840723297446617403:=()
def tw2292646230612574350:=()
def tw3918767200663842984:=()
def tw14020777778611345779:=()
def tw16806516317065571407:=()
def tw15161930638385518816:=()
def tw4121376422000221539:=()
def tw18367826723906484766:=()
def tw16912555055702006986:=()
def tw8051627603014499330:=()
def tw12011132354554104314:=()
def tw8503783873365816994:=()
def tw13637126758606991879:=()
def tw18213293748575050521:=()
def tw2664292569625608643:=()
def tw16844943308603321936:=()
def tw16363887434644892083:=()
def tw13625376180511485773:=()
def tw11904316493561171909:=()
def tw10962178964732371875:=()
def tw5825270801656122123:=()
def tw7321729492837209645:=()
def tw16144326437697353673:=()
def tw13645656654456544109:=()
def tw12483060390840542004:=()
def tw4492427643408713632:=()
def tw17888398168308044178:=()
def tw7588920284530674975:=()
def tw692725472541240502:=()
def tw10230204706921749437:=()
def tw14548992621914059573:=()
def tw15701677123713151644:=()
def tw12611435330204773605:=()
def tw2029664135802363770:=()
def tw13823572590500304032:=()
def tw13102240228517577655:=()
def tw9879227144067299967:=()
def tw8139657947157939983:=()
def tw13192828115760677258:=()
def tw76471709716015865:=()
def tw17230801832012118696:=()
def tw14519395214355945049:=()
def tw13358630100925888557:=()
def tw15001552151239143134:=()
def tw17627556739109086473:=()
def tw4487123615780679166:=()
def tw14305761356300745631:=()
def tw11729254658342670418:=()
def tw13878736704531057386:=()
def tw463643850804521221:=()
def tw2440809562186084740:=()
def tw13434880251610499688:=()
def tw17119885144009285966:=()
def tw5436542263623374592:=()
def tw6858770091388564824:=()
def tw4217312564263690587:=()
def tw17840585947525662244:=()
def tw17235911550987804493:=()
def tw17663098898227732420:=()
def tw12514300856887780242:=()
def tw8661926065172144857:=()
def tw14655028365863786366:=()
def tw10108299465425344703:=()
def tw14928462524267367096:=()
def tw6646590320333579847:=()
def tw17548520053470539567:=()
def tw17718099213704052825:=()
def tw15712226017679589804:=()
def tw5213202733602194203:=()
def tw5321815289071445304:=()
def tw11138701089755309916:=()
def tw6236262430604474686:=()
def tw3071056875903983500:=()
def tw13300361023544457399:=()
def tw1225885830235935319:=()
def tw11820984394387779609:=()
def tw17526036568941603110:=()
def tw13226629466049569580:=()
def tw7742082307590822621:=()
def tw8785649272771415208:=()
def tw5928395793373850488:=()
def tw15156520255623284432:=()
def tw4725640607396164451:=()
def tw1672693271102821649:=()
def tw1735402047231978141:=()
def tw5660718163106434171:=()
def tw1207152409860355535:=()
def tw3531187683220124669:=()
def tw16394199070130474841:=()
def tw10243151868623875692:=()
def tw1001026660551046853:=()
def tw10042077074924896972:=()
def tw3345458237072867398:=()
def tw10681527754413441036:=()
def tw6420290988464770223:=()
def tw1073665706009388189:=()
def tw17539569942765553997:=()
def tw2956033426709347521:=()
def tw11165684852457695557:=()
def tw17144828861725852360:=()
def tw9266660561325480828:=()
def tw13054840088941899648:=()
def tw17178912070796580265:=()
def tw2504734449407488390:=()
def tw12720708396387741867:=()
def tw3930106387041297424:=()
def tw7404907722795148498:=()
def tw6098312474593905523:=()
def tw16861596006118616490:=()
def tw13523510081610268231:=()
def tw13358371850051691080:=()
def tw13983335543688628861:=()
def tw15042319048000570337:=()
def tw6188111564559769439:=()
def tw7861653117256751610:=()
def tw6164449402355913543:=()
def tw17205666214603212865:=()
def tw1642533079395793620:=()
def tw7439247244711274224:=()
def tw3197829262671985789:=()
def tw14907881683353786627:=()
def tw2753741572327240445:=()
def tw1701369444169382584:=()
def tw12136362181880341910:=()
def tw8834294195058739271:=()
def tw12755107046292672592:=()
def tw4457075286781786524:=()
def tw14639778506379804120:=()
def tw11395077646949108217:=()
def tw6674972349866390206:=()
def tw14561298978206591141:=()
def tw13428137742370903403:=()
def tw3727222067224997223:=()
def tw16162929076156188331:=()
def tw16489447528962241107:=()
def tw10122172017224562903:=()
def tw6018616756475590049:=()
def tw8032500685056691113:=()
def tw5457672298542334670:=()
def tw9562247595488658532:=()
def tw18168472817746425863:=()
def tw13379403220843834296:=()
def tw14361357186287921656:=()
def tw16492595612246957311:=()
def tw6463896061784575423:=()
def tw6502541552577664691:=()
def tw692486522882657374:=()
def tw14912524482586651983:=()
def tw13343929192617556641:=()
def tw2889487459380483145:=()
def tw14103129649804889959:=()
def tw9147278838043497622:=()
def tw8797971758184519864:=()
def tw238931971873394141:=()
def tw3027100485552317994:=()
def tw17613654114663944098:=()
def tw14183210256942801978:=()
def tw785670070541342463:=()
def tw2527754194710323199:=()
def tw9153575758709714699:=()
def tw12120168136117089075:=()
def tw15374924547858980934:=()
def tw9779228858741489910:=()
def tw7719878314285845179:=()
def tw11054517730028132456:=()
def tw18104678721323032230:=()
def tw9231015603856136542:=()
def tw14351942049458972792:=()
def tw13004863368981607827:=()
def tw16699156335742240850:=()
def tw2487783126725127882:=()
def tw8998675151206253811:=()
def tw4091009485367154070:=()
def tw11358480062399405446:=()
def tw17787924437469703579:=()
def tw9093561771837248957:=()
def tw6982490510634696616:=()
def tw12845576718859772599:=()
def tw8972392810393497663:=()
def tw16548990837003833270:=()
def tw15969496291772344111:=()
def tw2940526865995746396:=()
def tw3333081290766241126:=()
def tw6728450387438977585:=()
def tw13018982034060507078:=()
def tw11308470238303417224:=()
def tw4086209845675669470:=()
def tw2034750615880367599:=()
def tw11690117005014239107:=()
def tw11948574460366159164:=()
def tw13717441150998240644:=()
def tw6125003493836221871:=()
def tw9373562445270949475:=()
def tw14324003338933959849:=()
def tw357151633401254706:=()
def tw10230572728951883094:=()
def tw1690572357741334766:=()
def tw7849091461723551622:=()
def tw9973257641017688735:=()
def tw15560139785063959190:=()
def tw17070818143995671681:=()
def tw9946558291138658004:=()
def tw1684878254811091108:=()
def tw7502456733161615643:=()
def tw8299951711292595256:=()
def tw8948010392546397308:=()
def tw5033371441490219969:=()
def tw12381471549508602173:=()
def tw13304817533448079822:=()
def tw16451221758396653378:=()
def tw18135533723989060915:=()
def tw10204508107533905815:=()
def tw2734981558346111053:=()
def tw9029305738967593362:=()
def tw10614127529041464074:=()
def tw6953174966558905433:=()
def tw1187601770178854667:=()
def tw484603404072751269:=()
def tw9289303279423680144:=()
def tw6051113735376682072:=()
def tw6843106140839122457:=()
def tw2834781166552411013:=()
def tw4143857451352815719:=()
def tw9677768889008559398:=()
def tw14635317128804599377:=()
def tw9004259313496441307:=()
def tw16425259173999323362:=()
def tw5349158590691781681:=()
def tw7449692024237496283:=()
def tw9387437217012271829:=()
def tw7024225829194092998:=()
def tw7245778345807410505:=()
def tw4962735944608039777:=()
def tw12328840295997972197:=()
def tw5437709949084868404:=()
def tw10695177341115426116:=()
def tw11475145357027968366:=()
def tw12840977695780878660:=()
def tw13982849496384616469:=()
def tw17193593805128103850:=()
def tw17641633962716597109:=()
def tw10788728674292676191:=()
def tw3913021096387311700:=()
def tw12742225456101532107:=()
def tw4221586783399283001:=()
def tw9415291893947264821:=()
def tw4118759890065336992:=()
def tw8144874610011767644:=()
def tw6621935344261357291:=()
def tw12790721500428935566:=()
def tw15572328942487137722:=()
def tw5138500694603840576:=()
def tw8519839974450919753:=()
def tw1222250578340731417:=()
def tw123830180940140006:=()
def tw13499869920339824308:=()
def tw15532847644175165198:=()
def tw3946104708117596883:=()
def tw5773900182322794704:=()
def tw6521995699338090147:=()
def tw861432611099442046:=()
def tw9881833127275276713:=()
def tw18303527183194937229:=()
def tw10747269029128760059:=()
def tw8035911708668566434:=()
def tw3115294445760210830:=()
def tw5103993344747828285:=()
def tw8404140488559007277:=()
def tw7588360059020430555:=()
def tw6640212703855960891:=()
def tw5285889365590715229:=()
def tw8890398398910662909:=()
def tw3175878418110031620:=()
def tw16844828380796619214:=()
def tw10964025523728157615:=()
def tw124304418381301334:=()
def tw13367638360100527138:=()
def tw16307327987590108880:=()
def tw4369766132879099302:=()
def tw3021862801044123538:=()
def tw5554988290758408221:=()
def tw6691045200571946160:=()
def tw10209142400648674467:=()
def tw10802519445066308839:=()
def tw14885569035532048327:=()
def tw18127835907198575294:=()
def tw429893586123806793:=()
def tw6281132946645958509:=()
def tw6657656998236849782:=()
def tw6657788241821814453:=()
def tw9693821579447037077:=()
def tw13300719330269470095:=()
def tw1384872044884521736:=()
def tw14174812968280023239:=()
def tw294778460131105825:=()
def tw4526697398192985293:=()
def tw5773935762533833915:=()
def tw6717613373893113286:=()
def tw3093388065671318835:=()
def tw11402147391051356616:=()
def tw12730622952370275143:=()
def tw13740003582012553022:=()
def tw13967839556273444998:=()
def tw17810128929353186723:=()
def tw6091611877978662208:=()
def tw9402073822503047054:=()
def tw10208960697385915501:=()
def tw12116916156962945353:=()
def tw12681735044427348995:=()
def tw1454564267913705646:=()
def tw14926970305402289608:=()
def tw4448954061609416221:=()
def tw8936543297635644847:=()
def tw6961080640518055979:=()
def tw12676840839088451846:=()
def tw10031820380098191456:=()
def tw10485729659987551706:=()
def tw1050814728275348567:=()
def tw10525141380010294764:=()
def tw10754946133900817648:=()
def tw1083864336490841694:=()
def tw10995398707573199084:=()
def tw11034892924676163573:=()
def tw11132284246797088964:=()
def tw11364331608338139851:=()
def tw11786355413896821574:=()
def tw11963200597531524282:=()
def tw11966565955066377045:=()
def tw12024995944065058942:=()
def tw12416617694841047268:=()
def tw12788623256436416874:=()
def tw12879282312866826917:=()
def tw13001454343992325245:=()
def tw13016871417319132322:=()
def tw13180731630697418422:=()
def tw1318103881403791019:=()
def tw13474591097506354678:=()
def tw13632408509173410249:=()
def tw1373110708428243979:=()
def tw14281918826552999892:=()
def tw14283658750825731866:=()
def tw14496908519187120431:=()
def tw14675513260058212830:=()
def tw14862319532140071633:=()
def tw1495749198971344631:=()
def tw15305564956161568102:=()
def tw15327569782534579575:=()
def tw15730949999188948324:=()
def tw15904512619628389538:=()
def tw16094492572394055751:=()
def tw16319627023708482945:=()
def tw1634751880847688072:=()
def tw16382601245776954026:=()
def tw16525992869771809815:=()
def tw16705144692696037550:=()
def tw16738460876247780011:=()
def tw16742261201160964208:=()
def tw16796169742346566983:=()
def tw16989051452786713793:=()
def tw17015302009700549004:=()
def tw17090738493610897016:=()
def tw1712972237383064677:=()
def tw17154830181696372855:=()
def tw17386215331625443118:=()
def tw17399126518308926622:=()
def tw17457448839011240215:=()
def tw17460044433557220705:=()
def tw17711857893670642017:=()
def tw17721014024265578969:=()
def tw17972709908220527144:=()
def tw18121579360169215919:=()
def tw18224238417873095475:=()
def tw1937641316179670544:=()
def tw2105063608486837965:=()
def tw2400361590134720919:=()
def tw2437679765633147054:=()
def tw2444986963372392167:=()
def tw2445366574607630202:=()
def tw256813282625562671:=()
def tw2729006048342584572:=()
def tw2953075943692526303:=()
def tw2988416624225881394:=()
def tw3007153451078822632:=()
def tw3043162405870985458:=()
def tw3076365057793976900:=()
def tw3459540147676504422:=()
def tw3507829610949830075:=()
def tw3785185335618762647:=()
def tw4024145834897510648:=()
def tw4026414860717600339:=()
def tw403339435530272601:=()
def tw4177680417065725614:=()
def tw420933113190083750:=()
def tw4239438436591220459:=()
def tw4250386359421044049:=()
def tw42694857069967920:=()
def tw4493673945845830427:=()
def tw4702816768079781814:=()
def tw4831463389279077926:=()
def tw4833830631208196112:=()
def tw4938041350215291143:=()
def tw5130772419632432856:=()
def tw5267107569260769870:=()
def tw5288407207632628405:=()
def tw5382222543047883915:=()
def tw5423398408679330633:=()
def tw5461303021601054798:=()
def tw5469229731352952744:=()
def tw5856723991405960649:=()
def tw6059081148363804556:=()
def tw6158764693052937366:=()
def tw6397806369124969236:=()
def tw6429481875436987206:=()
def tw6533430694555943513:=()
def tw6624358651567056997:=()
def tw7338465310814037876:=()
def tw7451000647689707488:=()
def tw7530199913590640922:=()
def tw7650419186758211764:=()
def tw7739041385429019840:=()
def tw7866207472882213810:=()
def tw7889228604183588925:=()
def tw7933433145403141315:=()
def tw7977378693914501241:=()
def tw8146841855914453914:=()
def tw8152193456381709677:=()
def tw8564221065950036390:=()
def tw8801761736716871695:=()
def tw8909407570299176504:=()
def tw8974305330313120004:=()
def tw9209965643020014418:=()
def tw9351662863613388600:=()
def tw9367006634103601927:=()
def tw9823577089625765824:=()
end PySem.W.Fast
open PySem PySem.W PyProof.Rows
set_option maxRecDepth 100000 in
set_option maxHeartbeats 0 in
theorem PySem.Challenge.cw_lotheads_k44_whole_strikes_go_along_holds : PySem.Challenge.rw_lotheads_k44_whole_strikes_go_along.Holds := by
 w_on;o_law;k_head;(case hw=>w_witness2)
 k_fill
 refine Dp.Og (k:=11) (by decide) (l:=PySem.Challenge.rw_lotheads_k44_whole_strikes_go_along) rfl rfl (λw h Y=>PySem.W.kIn_of Y) K44.DF ?F
 case F=>
  intro w mg fa h KX G hmg
  refine' K44.JL KX G hmg ?a0 ?a1 ?a2 ?a3 ?a4 ?a5 ?a6 ?a7 ?a8 ?a9 ?a10 ?a11 ?a12 ?a13 ?a14 ?a15 ?a16 ?a17 ?a18 ?a19 ?a20 ?a21 ?a22 ?a23 ?a24 ?a25 ?a26 ?a27 ?a28 ?a29 ?a30 ?a31 ?a32 ?a33 ?a34 ?a35 ?a36 ?a37 ?a38 ?a39 ?a40 ?a41 ?a42 ?a43 ?a44 ?a45 ?a46 ?a47 ?a48 ?a49 ?a50 ?a51 ?a52 ?a53 ?a54 ?a55 ?a56 ?z_abs ?z_all ?z_bool ?z_enumerate ?z_int ?z_isinstance ?z_len ?z_list ?z_max ?z_min ?z_range ?z_str ?z_tuple ?z_is_deed ?z_is_telling ?z_is_tie ?y_MOST_THINGS ?yk0 ?lk0 ?yk1 ?LK ?sk1
  (case a0=>apply Dp.gm<;>k_is)
  (case a1=>apply Dp.gm<;>k_is)
  (case a2=>apply Dp.gm<;>k_is)
  (case a3=>apply Dp.gm<;>k_is)
  (case a4=>apply Dp.gm<;>k_is)
  (case a5=>apply Dp.gm<;>k_is)
  (case a6=>apply Dp.gm<;>k_is)
  (case a7=>apply Dp.gm<;>k_is)
  (case a8=>apply Dp.gm<;>k_is)
  (case a9=>apply Dp.gm<;>k_is)
  (case a10=>apply Dp.gm<;>k_is)
  (case a11=>apply Dp.gm<;>k_is)
  (case a12=>apply Dp.gm<;>k_is)
  (case a13=>apply Dp.gm<;>k_is)
  (case a14=>apply Dp.gm<;>k_is)
  (case a15=>apply Dp.gm<;>k_is)
  (case a16=>apply Dp.gm<;>k_is)
  (case a17=>apply Dp.gm<;>k_is)
  (case a18=>apply Dp.gm<;>k_is)
  (case a19=>apply Dp.gm<;>k_is)
  (case a20=>apply Dp.gm<;>k_is)
  (case a21=>apply Dp.gm<;>k_is)
  (case a22=>apply Dp.gm<;>k_is)
  (case a23=>apply Dp.gm<;>k_is)
  (case a24=>apply Dp.gm<;>k_is)
  (case a25=>apply Dp.gm<;>k_is)
  (case a26=>apply Dp.gm<;>k_is)
  (case a27=>apply Dp.gm<;>k_is)
  (case a28=>apply Dp.gm<;>k_is)
  (case a29=>apply Dp.gm<;>k_is)
  (case a30=>apply Dp.gm<;>k_is)
  (case a31=>apply Dp.gm<;>k_is)
  (case a32=>apply Dp.gm<;>k_is)
  (case a33=>apply Dp.gm<;>k_is)
  (case a34=>apply Dp.gm<;>k_is)
  (case a35=>apply Dp.gm<;>k_is)
  (case a36=>apply Dp.gm<;>k_is)
  (case a37=>apply Dp.gm<;>k_is)
  (case a38=>apply Dp.gm<;>k_is)
  (case a39=>apply Dp.gm<;>k_is)
  (case a40=>apply Dp.gm<;>k_is)
  (case a41=>apply Dp.gm<;>k_is)
  (case a42=>apply Dp.gm<;>k_is)
  (case a43=>apply Dp.gm<;>k_is)
  (case a44=>apply Dp.gm<;>k_is)
  (case a45=>apply Dp.gm<;>k_is)
  (case a46=>apply Dp.gm<;>k_is)
  (case a47=>apply Dp.gm<;>k_is)
  (case a48=>apply Dp.gm<;>k_is)
  (case a49=>apply Dp.gm<;>k_is)
  (case a50=>apply Dp.gm<;>k_is)
  (case a51=>apply Dp.gm<;>k_is)
  (case a52=>apply Dp.gm<;>k_is)
  (case a53=>apply Dp.gm<;>k_is)
  (case a54=>apply Dp.gm<;>k_is)
  (case a55=>apply Dp.gm<;>k_is)
  (case a56=>apply Dp.gm<;>k_is)
  (case z_abs=>k_is)
  (case z_all=>k_is)
  (case z_bool=>k_is)
  (case z_enumerate=>k_is)
  (case z_int=>k_is)
  (case z_isinstance=>k_is)
  (case z_len=>k_is)
  (case z_list=>k_is)
  (case z_max=>k_is)
  (case z_min=>k_is)
  (case z_range=>k_is)
  (case z_str=>k_is)
  (case z_tuple=>k_is)
  (case z_is_deed=>k_is)
  (case z_is_telling=>k_is)
  (case z_is_tie=>k_is)
  (case y_MOST_THINGS=>k_is)
  (case yk0=>k_is)
  (case lk0=>k_is)
  (case yk1=>k_is)
  (case LK=>k_is)
  (case sk1=>rfl)
end