import PyProof.Rows.All
import Wide.All
import OpenK.AllK
import Wide.FinOn
import Lean
import PyProof.EqAt
import PyProof.EqKinds
import PyProof.TupleCall
import PyProof.NeKinds
import KE.KLam
import KE.KNestM
import PySem.Challenge.RW_fourway_k70_whole_sets_of_pivoted_tables
set_option Elab.async false
set_option linter.all false
set_option maxRecDepth 100000
open Array renaming getElem?_eq_some_iff->qBa,length_toList->qEb,toList_append->qEd,toList->qGj
open Bool renaming false_ne_true->qAe,and_eq_true->qB2,and_false->qCj,eq_iff_iff->qCs,and_true->qDc,or_true->qDu,and_eq_false_iff->qE0,not_eq_true'->qEv,or_eq_true->qFe,false_and->qFm
open Char renaming toNat->qGv
open Classical renaming propDecidable->qA3
open Eq renaming trans->qE3
open False renaming elim->qA6
open ForInStep renaming yield->qC1
open Int renaming toNat_natCast->qBc,emod_lt_of_pos->qBr,mul_one->qBz,emod_nonneg->qC5,one_mul->qCx,zero_mul->qD2,natCast_pos->qDz,mul_emod->qGo,ofNat_lt->qGp,mul_sub->qGq
open List renaming getD_eq_getElem?_getD->qA0,getElem?_eq_some_iff->qA2,range->qA4,getElem?_eq_getElem->qA7,getElem?_set_self->qA8,replicate->qA9,getElem?_set_ne->qAb,getElem?_append_left->qAc,getElem?_append_right->qAd,getElem?_map->qAf,mem_filter->qAg,mem_cons->qAh,length_map->qAi,size_toArray->qAk,mem_map->qAl,map_cons->qAm,mem_append_right->qAn,length_cons->qAo,mem_cons_of_mem->qAr,mem_append->qAs,mem_singleton->qAu,map_map->qAw,mem_or_eq_of_mem_set->qAz,length_append->qB0,map_congr_left->qB3,length_filter_le->qB5,getElem?_replicate->qB7,mem_append_left->qB8,lookup_cons->qB9,mem_range->qBe,nodup_cons->qBf,mem_cons_self->qBg,contains_cons->qBh,mem_of_getElem?->qBi,getElem?_cons_succ->qBk,getElem?_cons_zero->qBl,getElem?_eq_none->qBq,pairwise_cons->qBs,drop_eq_getElem_cons->qBt,append_nil->qBu,map_append->qBv,eq_nil_of_length_eq_zero->qBy,of_mem_zip->qC0,map_set->qC4,getElem?_set->qC7,filter_cons->qCa,all_cons->qCc,any_cons->qCd,take_succ_eq_append_getElem->qCe,ext_getElem?->qCh,length_replicate->qCk,set_getElem_self->qCl,length_take->qCn,ext_getElem->qCo,filterMap_cons->qCq,length_set->qCt,lookup->qCu,getElem_range->qCz,drop_zero->qD3,getElem?_take_of_lt->qD7,append_assoc->qD8,nodup_append->qD9,eq_of_mem_replicate->qDa,lookup_eq_none_iff->qDd,pairwise_mergeSort->qDf,length_drop->qDh,all_eq_true->qDk,cons_append->qDl,drop_length->qDm,range_succ_eq_map->qDn,take_of_length_le->qDo,length_pos_of_mem->qDp,pairwise_lt_range->qDq,length_singleton->qDt,set_append_right->qDv,set_set->qDx,mem_iff_getElem->qE4,mem_of_mem_drop->qE5,range_eq_range'->qE6,pairwise_append->qE7,mem_map_of_mem->qEe,mergeSort_perm->qEf,mem_filterMap->qEh,zip_cons_cons->qEk,lookup_append->qEl,drop->qEn,set_cons_succ->qEo,set_cons_zero->qEp,reverse_cons->qEx,pairwise_map->qEy,filter_congr->qEz,length_range->qF0,all_map->qF3,getElem_inj->qF7,take_length->qFb,range'_succ->qFc,range_succ->qFf,nil_append->qFg,length_nil->qFk,filter_map->qFl,set_comm->qGg,map_nil->qGk,cons->qGm,range'->qGr
open List.Pairwise renaming nil->qCg,filter->qE8,imp_of_mem->qGd,imp->qGw
open Nat renaming le_refl->qA5,lt_of_lt_of_le->qAa,le_trans->qAj,ne_of_lt->qAp,zero_le->qAt,lt_irrefl->qBj,le_of_lt->qBn,ne_of_gt->qBo,le_succ->qC2,zero_add->qC3,pow_le_pow_iff_right->qCb,le_of_eq->qCm,mul_le_mul_left->qCw,le_add_right->qDj,le_antisymm->qDy,lt_of_le_of_lt->qEi,lt_succ_of_lt->qEu,min_self->qF4,mul_comm->qF5,lt_or_ge->qF6,lt_succ_self->qFa,le_zero->qFh,min_eq_left->qFj,mul_assoc->qGh,pow_succ->qGn,pow_add->qGs
open Nat.succ renaming inj->qGl
open Ne renaming symm->qCr
open Option renaming isSome_iff_exists->qD6,getD_some->qDi,map_some->qDw,none->qEc,getD_none->qF9
open Option.some renaming inj->qAx,injEq->qGu
open Or renaming inr->qGc,inl->qGt
open Prod renaming fst->qE2
open PyProof.Rows renaming callWith_type1->qB6,isInt->qD1,callWith_builtin1->qF2
open PySem renaming mem_of_lookup->qBb,call->qEw,Within->qGi
open PySem.Challenge renaming rw_fourway_k70_whole_sets_of_pivoted_tables->qBd,pw_fourway_k70_whole_sets_of_pivoted_tables->qCi
open PySem.EqMixed renaming eq_bool_str->qFq,eq_str_bool->qFr,ne_bool_str->qFv,ne_str_bool->qFw,eq_int_str->qG3,eq_str_int->qG5,ne_int_str->qG9,ne_str_int->qGb
open PySem.EqNone renaming eq_none_none->qFn,eq_none_bool->qFo,eq_bool_none->qFp,ne_none_none->qFs,ne_none_bool->qFt,ne_bool_none->qFu,eq_none_int->qG0,eq_none_str->qG1,eq_int_none->qG2,eq_str_none->qG4,ne_none_int->qG6,ne_none_str->qG7,ne_int_none->qG8,ne_str_none->qGa
open PySem.F renaming plainAttrs_list->qBm,slot_list_append->qBw,type_list_append->qBx,slot_list_index->qDe
open PySem.W renaming Frag->qA1,findIn->qAq,keepIn->qAv,codeHdIn->qAy,kia_one->qB1,fnOf->qB4,nsIn->qBp,specialIn->qC6,codeIn->qC8,kla_fn->qC9,cellsFrom_some->qCf,mg_of->qCp,OpenLaw->qCv,callWith_K->qCy,envX->qD0,methodObj->qD4,hasDictIn->qD5,mroIn->qDb,subIn->qDg,instObj->qDr,takesIn->qDs,lookIn->qE9,tabObj->qEa,codeHd_of_K->qEg,clsIn->qEj,WalkO->qEm,kitx_list->qEs,kitx_dict->qEt,isFn->qF1,plainGet->qF8,makesIn->qFd,kf_ints->qFi,kitOne->qFx,kmHook->qFy,typeIn->qFz,Looks->qGe,kf_at->qGf
open Sum renaming inl->qEq,inr->qEr
open True renaming intro->qE1
set_option compiler.extract_closed false
set_option genSizeOf false
set_option genSizeOfSpec false
set_option bootstrap.genMatcherCode false
noncomputable section
namespace L2
open PySem PySem.Spec PyProof.Rows
abbrev Key:=Sum Int Str
noncomputable def zXY:Key->Value->Bool
 |.inl k,v=>Value.isInt k v
 |.inr x,v=>Value.isStrOf x v
noncomputable def keyH(w:World):Key->Int
 |.inl k=>hashInt k
 |.inr x=>hashStr w x
theorem zBJ:∀{k:Key}{v:Value},zXY k v=true->(∃i t,k=qEq i/\v=Value.int i t)\/(∃x t,k=qEr x/\v=Value.str x t)
 |.inl i,v,h=>by
  obtain⟨t,e⟩:=Value.isInt_shape (k:=i) (v:=v) h;exact .inl ⟨i,t,rfl,e⟩
 |.inr x,v,h=>by
  obtain⟨t,e⟩:=Value.isStrOf_shape (x:=x) (v:=v) h;exact .inr ⟨x,t,rfl,e⟩
theorem zXX(a b:Int):decide ((qEq a:Key)=qEq b)=(a==b):=by
 by_cases e:a=b
 ·subst e;simp
 ·have h:¬(qEq a:Key)=qEq b:=fun q=>e (Sum.inl.inj q)
  rw[decide_eq_false h];exact(beq_eq_false_iff_ne.mpr e).symm
theorem zXU(a b:Str):decide ((qEr a:Key)=qEr b)=decide (a=b):=by
 by_cases e:a=b
 ·subst e;simp
 ·have h:¬(qEr a:Key)=qEr b:=fun q=>e (Sum.inr.inj q)
  rw[decide_eq_false h,decide_eq_false e]
theorem zXW(a:Int)(b:Str):decide ((qEq a:Key)=qEr b)=false:=decide_eq_false (fun q=>nomatch q)
theorem zXV(a:Str)(b:Int):decide ((qEr a:Key)=qEq b)=false:=decide_eq_false (fun q=>nomatch q)
def zLS(prog:Program)(w:World):PySem.KeyKind prog w Key where
 is:=zXY
 hash:=keyH w
 inj:=fun v a b ha hb=>by
  rcases zBJ ha with⟨i,t,rfl,rfl⟩|⟨x,t,rfl,rfl⟩
  ·rcases zBJ hb with⟨j,u,rfl,e⟩|⟨y,u,rfl,e⟩
   ·injection e with e1 _;rw[e1]
   ·exact nomatch e
  ·rcases zBJ hb with⟨j,u,rfl,e⟩|⟨y,u,rfl,e⟩
   ·exact nomatch e
   ·injection e with e1 _;rw[e1]
 byValue:=fun k v h=>by
  rcases zBJ h with⟨i,t,rfl,rfl⟩|⟨x,t,rfl,rfl⟩<;>rfl
 pyHash:=fun hv h=>by
  rcases zBJ hv with⟨i,t,rfl,rfl⟩|⟨x,t,rfl,rfl⟩
  ·exact wpAny_pyHash_int h
  ·exact wpAny_pyHash_str h
 eqBool:=fun hu hv h=>by
  rcases zBJ hu with⟨i,t,rfl,rfl⟩|⟨x,t,rfl,rfl⟩
  ·rcases zBJ hv with⟨j,u,rfl,rfl⟩|⟨y,u,rfl,rfl⟩
   ·rw[zXX]at h;exact wpAny_eqBool_int h
   ·rw[zXW]at h;exact SeqAt.EqAt.int_str i t y u _ _ _ _ h
  ·rcases zBJ hv with⟨j,u,rfl,rfl⟩|⟨y,u,rfl,rfl⟩
   ·rw[zXV]at h;exact SeqAt.EqAt.str_int x t j u _ _ _ _ h
   ·rw[zXU]at h;exact wpAny_eqBool_str h
 «strs»:=fun k x t v h=>by
  rcases zBJ h with⟨i,u,rfl,e⟩|⟨y,u,rfl,e⟩
  ·exact nomatch e
  ·injection e with e1 _
   subst e1;cases v<;>rfl
inductive V where
 |non|bl (b:Bool)|int (i:Int)|str (x:Str)|byt (b:Array UInt8)|flt (b:UInt64)|ref (a:Addr)|ty (n:String)
 deriving DecidableEq
noncomputable def RelV:V->Value->Prop
 |.non,u=>u=Value.none
 |.bl b,u=>u=Value.bool b
 |.int i,u=>∃t,u=Value.int i t
 |.str x,u=>∃t,u=Value.str x t
 |.byt b,u=>∃t,u=Value.bytes b t
 |.flt b,u=>∃t,u=Value.float b t
 |.ref a,u=>u=Value.ref a
 |.ty n,u=>u=Value.type n
abbrev Vals:List V->List Value->Prop:=Paired RelV
theorem Vals.length{xs:List V}{us:List Value}(r:Vals xs us):xs.length=us.length:=Paired.length r
theorem Vals.get:∀{xs:List V}{us:List Value}{i:Nat}{x:V},Vals xs us->xs[i]?=some x->∃u,us[i]?=some u/\RelV x u
 |_,_,_,_,.nil,e=>by simp at e
 |_,_,0,_,.cons r _,e=>by simp at e;subst e;exact⟨_,rfl,r⟩
 |_,_,i+1,x,.cons _ t,e=>by
  obtain⟨u,h1,h2⟩:=Vals.get (i:=i) (x:=x) t (by simpa using e);exact⟨u,by simpa using h1,h2⟩
theorem Vals.set{x:V}{u:Value}(r:RelV x u):∀{xs:List V}{us:List Value}(i:Nat),Vals xs us->Vals (xs.set i x) (us.set i u)
 |_,_,_,.nil=>.nil
 |_,_,0,.cons _ t=>.cons r t
 |_,_,i+1,.cons q t=>.cons q (Vals.set r i t)
theorem Vals.append:∀{xs ys:List V}{us ws:List Value},Vals xs us->Vals ys ws->Vals (xs++ys) (us++ws)
 |_,_,_,_,.nil,s=>s
 |_,_,_,_,.cons r t,s=>.cons r (Vals.append t s)
theorem Vals.take:∀{xs:List V}{us:List Value}(n:Nat),Vals xs us->Vals (xs.take n) (us.take n)
 |_,_,0,_=>.nil
 |_,_,_+1,.nil=>.nil
 |_,_,n+1,.cons r t=>.cons r (Vals.take n t)
theorem Vals.drop:∀{xs:List V}{us:List Value}(n:Nat),Vals xs us->Vals (xs.drop n) (us.drop n)
 |_,_,0,r=>r
 |_,_,_+1,.nil=>.nil
 |_,_,n+1,.cons _ t=>Vals.drop n t
def RelO:Option V->Option Value->Prop
 |some v,some u=>RelV v u
 |none,none=>True
 |_,_=>False
def KV{κ:Type}:List (κ×V)->List (κ×Value)->Prop:=Paired fun(p:κ×V)(q:κ×Value)=>p.1=q.1/\RelV p.2 q.2
noncomputable def kV:Key->V
 |.inl i=>.int i
 |.inr x=>.str x
inductive HO where
 |lst (xs:List V)
 |tup (xs:List V)
 |dK (kvs:List (Key×V))|dT (kvs:List (List Key×V))
 |set (S:Int->Bool) (n:Nat)
 |ins (C dx:Addr) (fs:List (Str×V))
 |own (x:Addr)
 |xd (fs:List (Str×V))
 |met (f x:Addr)
 |rng (lo hi:Int)
 |frz (o:Obj) (u:HO)
 |tbl (ps:Array Value)
 |lam (q:Str)
 |fn (o:Obj) (q:Str)
 |ext (φ:Heap->Prop)
abbrev Hp:=Addr->Option HO
noncomputable def upd(H:Hp)(a:Addr)(o:HO):Hp:=fun b=>if b=a then some o else H b
theorem zAJ{H:Hp}{a:Addr}{o:HO}:upd H a o a=some o:=by unfold upd;rw[if_pos rfl]
theorem zAC{H:Hp}{a b:Addr}{o:HO}(h:b≠a):upd H a o b=H b:=by unfold upd;rw[if_neg h]
theorem zKB{H:Hp}{a b:Addr}{o u:HO}(h:H a=some o)(h':H b=some u)(d:o≠u):a≠b:=by
 intro e;subst e;rw[h]at h';exact d (qAx h')
theorem zAI{H:Hp}{a b:Addr}{o:HO}(h:H a=some o)(h':H b=none):a≠b:=by
 intro e;subst e;rw[h]at h';cases h'
def CodR(o:Obj)(q:Str):Prop:=∃vs t,o.data=.fields vs/\vs[1]?=some (.str q t)
section
variable(P:Program)(w:World)
def ObjOk(H:Hp)(h:Heap)(a:Addr):HO->Prop
 |.lst xs=>xs.length<=sizeLine/\∃(its:List Value)(n:Nat),Vals xs its/\h.get? a=some { cls:=.type "list",data:=.seq its.toArray n }
 |.tup xs=>xs.length<=sizeLine/\∃its:List Value,Vals xs its/\IsTup h a its.toArray
 |.dK kvs=>kvs.length<=sizeLine/\(a==sysModules)=false/\∃vs,KV kvs vs/\h.DictOf (zLS P w) a vs
 |.dT kvs=>kvs.length<=sizeLine/\(a==sysModules)=false/\∃xs:List (List Key×Addr×Value),
   Paired (fun(p:List Key×V)(q:List Key×Addr×Value)=>p.1=q.1/\H q.2.1=some (.tup (p.1.map kV))/\RelV p.2 q.2.2) kvs xs /\
   ∃o es ep,h.get? a=some o/\o.ExactDict/\o.data=.dict es ep/\es.toList=xs.map (entryOfKey (tupleKind (zLS P w)))/\(xs.map (·.1)).Nodup
 |.set S n=>h.SetOf (intKind P w) a S n
 |.ins C dx fs=>H dx=some (.own a)/\fs.length<=1000/\dx≠a/\h.get? a=some (qDr C dx) /\
   ∃mA,h.Ns1 dx mA/\(∀f,RelO (fs.lookup f) (mA f))/\qGi mA (fs.map (·.1))
 |.own _=>∃o,h.get? a=some o
 |.xd fs=>∃mA,h.Ns1 a mA/\∀f,RelO (fs.lookup f) (mA f)
 |.rng lo hi=>∃t u v,h.get? a=some { cls:=.type "range",data:=.fields #[.int lo t,.int hi u,.int 1 v] }
 |.frz o u=>h.get? a=some o/\ObjOk H h a u
 |.tbl ps=>h.get? a=some { cls:=.none,data:=.fields ps }
 |.lam q=>∃ps:Array Value,h.get? a=some { cls:=.none,data:=.fields ps }/\TriplesOk ps.toList/\∀pos cv,codeAmong pos ps.toList=some cv->∃c oc u,cv=.ref c/\H c=some (.frz oc u)/\CodR oc q
 |.fn o q=>h.get? a=some o/\∃fd c oc u,o.data=.func fd/\fd.code=.ref c/\H c=some (.frz oc u)/\CodR oc q
 |.met f x=>h.get? a=some (qD4 (.ref f) (.ref x))
 |.ext φ=>φ h/\(∃o,h.get? a=some o)/\∀h1 h2:Heap,φ h1->(∀o,h1.get? a=some o->h2.get? a=some o)->φ h2
def HOk(H:Hp)(h:Heap):Prop:=∀a o,H a=some o->ObjOk P w H h a o
end
section
variable{P:Program}{w:World}{H H':Hp}{h h':Heap}{a:Addr}{o:HO}
theorem ObjOk.lt(x:ObjOk P w H h a o):a<h.objs.size:=by
 cases o with
 |lst xs=>obtain⟨_,_,_,_,e⟩:=x;exact Heap.lt_size e
 |tup xs=>obtain⟨_,_,_,p⟩:=x;exact p.lt
 |dK kvs=>obtain⟨_,_,_,_,o,_,_,e,_⟩:=x;exact Heap.lt_size e
 |dT kvs=>obtain⟨_,_,_,_,o,_,_,e,_⟩:=x;exact Heap.lt_size e
 |set S n=>obtain⟨o,_,_,_,e,_⟩:=x;exact Heap.lt_size e
 |ins C dx fs=>obtain⟨_,_,_,e,_⟩:=x;exact Heap.lt_size e
 |own y=>obtain⟨_,e⟩:=x;exact Heap.lt_size e
 |xd fs=>obtain⟨_,⟨_,_,_,e,_⟩,_⟩:=x;exact Heap.lt_size e
 |rng lo hi=>obtain⟨_,_,_,e⟩:=x;exact Heap.lt_size e
 |frz ob u=>obtain⟨e,_⟩:=x;exact Heap.lt_size e
 |tbl ps=>exact Heap.lt_size (show h.get? a=some _ from x)
 |lam q=>obtain⟨_,e,_⟩:=x;exact Heap.lt_size e
 |fn ob q=>obtain⟨e,_⟩:=x;exact Heap.lt_size e
 |met f y=>exact Heap.lt_size (show h.get? a=some _ from x)
 |ext φ=>obtain⟨_,⟨_,e⟩,_⟩:=x;exact Heap.lt_size e
theorem Paired.mapP{α β:Type}{F G:α->β->Prop}:∀{l₁:List α}{l₂:List β},Paired F l₁ l₂->(∀a b,F a b->G a b)->Paired G l₁ l₂
 |_,_,.nil,_=>.nil
 |_,_,.cons r t,f=>.cons (f _ _ r) (Paired.mapP t f)
theorem ObjOk.stay(x:ObjOk P w H h a o)(k:∀b u,(b=a\/H b=some (.own a))->h.get? b=some u->h'.get? b=some u)
  (ho:∀b,H b=some (.own a)->H' b=some (.own a)) (ht:∀b xs,H b=some (.tup xs)->H' b=some (.tup xs)) (hf:∀b o u,H b=some (.frz o u)->(∃vs,o.data=.fields vs)->H' b=some (.frz o u)):ObjOk P w H' h' a o:=by
 induction o with
 |lst xs=>obtain⟨z,its,n,r,e⟩:=x;exact⟨z,its,n,r,k _ _ (.inl rfl) e⟩
 |tup xs=>obtain⟨z,its,r,ob,e,c⟩:=x;exact⟨z,its,r,ob,k _ _ (.inl rfl) e,c⟩
 |dK kvs=>obtain⟨z,y,vs,r,ob,es,ep,e,c⟩:=x;exact⟨z,y,vs,r,ob,es,ep,k _ _ (.inl rfl) e,c⟩
 |dT kvs=>
  obtain⟨z,y,xs,r,ob,es,ep,e,c⟩:=x;exact⟨z,y,xs,Paired.mapP r fun p q z=>⟨z.1,ht _ _ z.2.1,z.2.2⟩,ob,es,ep,k _ _ (.inl rfl) e,c⟩
 |set S n=>obtain⟨ob,es,ep,t,e,c⟩:=x;exact⟨ob,es,ep,t,k _ _ (.inl rfl) e,c⟩
 |ins C dx fs=>
  obtain⟨d,z,ne,e,mA,⟨od,es,ep,e2,c⟩,r⟩:=x;exact⟨ho _ d,z,ne,k _ _ (.inl rfl) e,mA,⟨od,es,ep,k _ _ (.inr d) e2,c⟩,r⟩
 |own y=>obtain⟨ob,e⟩:=x;exact⟨ob,k _ _ (.inl rfl) e⟩
 |xd fs=>obtain⟨mA,⟨od,es,ep,e,c⟩,r⟩:=x;exact⟨mA,⟨od,es,ep,k _ _ (.inl rfl) e,c⟩,r⟩
 |rng lo hi=>obtain⟨t,u,v,e⟩:=x;exact⟨t,u,v,k _ _ (.inl rfl) e⟩
 |frz ob u ih=>obtain⟨e,q⟩:=x;exact⟨k _ _ (.inl rfl) e,ih q⟩
 |tbl ps=>
  have e:h.get? a=some { cls:=.none,data:=.fields ps }:=x;show h'.get? a=some { cls:=.none,data:=.fields ps };exact k a _ (.inl rfl) e
 |lam q=>
  obtain⟨ps,e,t,r⟩:=x;exact⟨ps,k _ _ (.inl rfl) e,t,fun pos cv z=>let⟨c,oc,u,e1,e2,e3⟩:=r pos cv z;⟨c,oc,u,e1,hf _ _ _ e2 (let⟨vs,_,d,_⟩:=e3;⟨vs,d⟩),e3⟩⟩
 |fn ob q=>
  obtain⟨e,fd,c,oc,u,e1,e2,e3,e4⟩:=x;exact⟨k _ _ (.inl rfl) e,fd,c,oc,u,e1,e2,hf _ _ _ e3 (let⟨vs,_,d,_⟩:=e4;⟨vs,d⟩),e4⟩
 |met f y=>
  have e:h.get? a=some (qD4 (.ref f) (.ref y)):=x;show h'.get? a=some (qD4 (.ref f) (.ref y));exact k a _ (.inl rfl) e
 |ext φ=>obtain⟨p,⟨o,e⟩,st⟩:=x;exact⟨st _ _ p fun o q=>k _ _ (.inl rfl) q,⟨o,k _ _ (.inl rfl) e⟩,st⟩
theorem HOk.lt(x:HOk P w H h)(e:H a=some o):a<h.objs.size:=(x a o e).lt
theorem HOk.fresh(x:HOk P w H h)(e:h.objs.size<=a):H a=none:=by
 cases q:H a with
 |none=>rfl
 |some u=>exact absurd (qAa (x.lt q) e) (qBj _)
theorem HOk.kept(x:HOk P w H h)(k:∀b u,h.get? b=some u->h'.get? b=some u):HOk P w H h':=fun a o e=>
 (x a o e).stay (fun b u _ q=>k b u q) (fun _ q=>q) (fun _ _ q=>q) fun _ _ _ q _=>q
theorem HOk.laid(x:HOk P w H h)(k:∀b u,h.get? b=some u->h'.get? b=some u)(hp:h.objs.size<=a)(new:ObjOk P w (upd H a o) h' a o):HOk P w (upd H a o) h':=fun b u e=>by
 have hn:=x.fresh hp
 by_cases hb:b=a
 ·subst hb;rw[zAJ]at e;cases e;exact new
 ·rw[zAC hb]at e;exact(x b u e).stay (fun c v _ q=>k c v q) (fun c q=>by rw[zAC (zAI q hn)];exact q) (fun c xs q=>by rw[zAC (zAI q hn)];exact q) fun c _ _ q _=>by rw[zAC (zAI q hn)];exact q
end
def Rd(H:Hp)(a:Addr)(u:HO):Prop:=H a=some u\/∃o,H a=some (.frz o u)
theorem Rd.ok{P:Program}{w:World}{H:Hp}{h:Heap}{a:Addr}{u:HO}(r:Rd H a u)(x:HOk P w H h):ObjOk P w H h a u:=by
 rcases r with r|⟨o,r⟩
 ·exact x a u r
 ·obtain⟨_,q⟩:=x a _ r;exact q
noncomputable def Mut:Option HO->Prop
 |some (.lst _)=>True
 |some (.dK _)=>True
 |some (.dT _)=>True
 |some (.set _ _)=>True
 |some (.ins _ _ _)=>True
 |some (.ext _)=>True
 |some (.lam _)=>True
 |_=>False
section
variable{P:Program}{w:World}{H:Hp}{h h':Heap}{x e:Addr}{o':HO}
theorem HOk.write(ok:HOk P w H h)(mu:Mut (H x))(he:e=x\/H e=some (.own x))(k:∀b u,b≠e->h.get? b=some u->h'.get? b=some u)(heo:∃u,h'.get? e=some u)
  (new:ObjOk P w (upd H x o') h' x o'):HOk P w (upd H x o') h':=fun b u q=>by
 have nown:∀c y,H c=some (.own y)->c≠x:=fun c y r z=>by subst z;rw[r]at mu;exact mu
 have ntup:∀c xs,H c=some (.tup xs)->c≠x:=fun c xs r z=>by subst z;rw[r]at mu;exact mu
 have nfrz:∀c o v,H c=some (.frz o v)->c≠x:=fun c o v r z=>by subst z;rw[r]at mu;exact mu
 by_cases hb:b=x
 ·subst hb;rw[zAJ]at q;cases q;exact new
 ·rw[zAC hb]at q
  by_cases hbe:b=e
  ·have q':H b=some (.own x):=by
    rcases he with z|z
    ·exact absurd (hbe.trans z) hb
    ·rw[hbe];exact z
   rw[q]at q';cases q';obtain⟨v,hv⟩:=heo;exact⟨v,by rw[hbe];exact hv⟩
  ·refine(ok b u q).stay (fun c v hc r=>k c v ?_ r) (fun c r=>by rw[zAC (nown c b r)];exact r) (fun c xs r=>by rw[zAC (ntup c xs r)];exact r) fun c o v r _=>by rw[zAC (nfrz c o v r)];exact r
   rcases hc with rfl|hc
   ·exact hbe
   ·rintro rfl
    rcases he with z|z
    ·exact nown c b hc z
    ·rw[hc]at z;cases z;exact hb rfl
end
structure Un(fs ex:List Addr)(H H':Hp)(h h':Heap):Prop where
 keep:∀b o,h.get? b=some o->H b=none->b∉fs->b∉ex->h'.get? b=some o
 slot:∀b o,h.get? b=some o->H b=none->b∈fs->b∉ex->∃sl,h'.get? b=some { o with slots:=sl }
 free:∀b o,h.get? b=some o->H b=none->b∉ex->H' b=none
 there:∀b o,h.get? b=some o->b∉ex->∃o',h'.get? b=some o'
 tups:∀b xs,H b=some (.tup xs)->H' b=some (.tup xs)
 frzs:∀b o u,H b=some (.frz o u)->H' b=some (.frz o u)
 tbls:∀b ps,H b=some (.tbl ps)->∃more,H' b=some (.tbl (ps++more))
section
variable{fs fs' ex ex':List Addr}{H H1 H2:Hp}{h h1 h2 h':Heap}{a x e:Addr}{o:HO}
theorem Un.any(u:Un fs ex H H1 h h1){b:Addr}{ob:Obj}(q:h.get? b=some ob)(n:H b=none)(hx:b∉ex):∃sl,h1.get? b=some { ob with slots:=sl }:=by
 by_cases hb:b∈fs
 ·exact u.slot b ob q n hb hx
 ·exact⟨ob.slots,u.keep b ob q n hb hx⟩
theorem Un.kept(k:∀b u,h.get? b=some u->h'.get? b=some u):Un fs ex H H h h':=
 ⟨fun b ob q _ _ _=>k b ob q,fun b ob q _ _ _=>⟨ob.slots,k b ob q⟩,fun _ _ _ n _=>n,fun b ob q _=>⟨ob,k b ob q⟩,fun _ _ q=>q,fun _ _ _ q=>q,fun _ ps q=>⟨#[],by rw[q];simp⟩⟩
theorem Un.refl:Un fs ex H H h h:=Un.kept fun _ _ q=>q
theorem Un.laid(k:∀b u,h.get? b=some u->h'.get? b=some u)(hp:h.objs.size<=a)(hn:H a=none):Un fs ex H (upd H a o) h h' where
 keep:=fun b u q _ _ _=>k b u q
 slot:=fun b u q _ _ _=>⟨u.slots,k b u q⟩
 free:=fun b u q n _=>by rw[zAC (qAp (qAa (Heap.lt_size q) hp))];exact n
 there:=fun b u q _=>⟨u,k b u q⟩
 tups:=fun b xs q=>by rw[zAC (zAI q hn)];exact q
 frzs:=fun b u xs q=>by rw[zAC (zAI q hn)];exact q
 tbls:=fun b ps q=>⟨#[],by rw[zAC (zAI q hn),q];simp⟩
theorem Un.write(mu:Mut (H x))(he:e=x\/H e=some (.own x))(k:∀b u,b≠e->h.get? b=some u->h'.get? b=some u)(heo:∃u,h'.get? e=some u):Un fs ex H (upd H x o) h h':=by
 have hx:∀b,H b=none->b≠x:=fun b n z=>by subst z;rw[n]at mu;exact mu
 have hb:∀b,H b=none->b≠e:=fun b n z=>by
  subst z
  rcases he with r|r
  ·exact hx b n r
  ·rw[n]at r;cases r
 have hm:∀b u,H b=some u->¬Mut (some u)->b≠x:=fun b u q nm z=>by subst z;rw[q]at mu;exact nm mu
 refine⟨fun b u q n _ _=>k b u (hb b n) q,fun b u q n _ _=>⟨u.slots,k b u (hb b n) q⟩,fun b u q n _=>by rw[zAC (hx b n)];exact n,fun b u q _=>?_,
  fun b xs q=>by rw[zAC (hm b _ q fun z=>z)];exact q,fun b u xs q=>by rw[zAC (hm b _ q fun z=>z)];exact q,fun b ps q=>⟨#[],by rw[zAC (hm b _ q fun z=>z),q];simp⟩⟩
 by_cases hbe:b=e
 ·subst hbe;exact heo
 ·exact⟨u,k b u hbe q⟩
end
noncomputable def trk(h:Heap)(H:Hp):List Addr:=(qA4 h.objs.size).filter fun a=>(H a).isSome
def hidT(h:Heap)(H:Hp):Heap:=PySem.W.hideAll h (trk h H)
theorem zQ1(h:Heap)(H:Hp):(hidT h H).objs.size=h.objs.size:=PySem.W.hideAll_size _ _
theorem zSD{h:Heap}{H:Hp}{b:Addr}{o:Obj}(e:h.get? b=some o)(n:H b=none):(hidT h H).get? b=some o:=
 PySem.W.hideAll_get _ e fun hm=>by
  have q:(H b).isSome=true:=(qAg.mp hm).2;rw[n]at q;simp at q
theorem zV8{h:Heap}{H:Hp}{b:Addr}{o:Obj}(e:(hidT h H).get? b=some o):h.get? b=some o/\H b=none:=by
 have e':h.get? b=some o:=PySem.W.of_hideAll (trk h H) e;refine⟨e',?_⟩;cases q:H b with
 |none=>rfl
 |some x=>
  have hm:b∈trk h H:=qAg.mpr ⟨qBe.mpr (Heap.lt_size e'),by simp[q]⟩;have z:(hidT h H).get? b=none:=PySem.W.hideAll_none (trk h H) hm;rw[z]at e;cases e
noncomputable def zWA(g h:Heap)(L:Addr):List (Addr×Obj):=(qA4 h.objs.size).filterMap fun a=>if a=L\/(g.get? a).isSome=true then none else(h.get? a).map fun o=>(a,o)
def rest(g h:Heap)(L d:Addr):List (Addr×Obj):=(zWA g h L).filter fun p=>decide (p.1≠d)
end L2
namespace L2
open PySem PySem.Spec PyProof.Rows
structure Mod(K:qA1)(mg:Str->Option Value)(base:Heap):Prop where
 kin:K.In base
 glob:base.Ns mainGlobals mg
 blt:∃mb,base.Ns builtinsNs mb/\∀x:Str,x≠"__name__"->mb x=bootBuiltins x
 nolimit:base.NoLimit
 bm:∃bm ob,mg "__builtins__" = some (.ref bm)/\bm≠builtinsNs/\base.get? bm=some ob/\ob.cls=.type "module"/\ob.dict=some builtinsNs/\ob.data=.plain
structure Cx where
 prog:Program
 w:World
 K:qA1
 mg:Str->Option Value
 base:Heap
 A:Around
 N:List Str
 s₀:Shared
 H₀:Hp
 env:Env
 outer:List Env
 stack:List Env
 ex:List Addr
 fn:Str->Bool
 calm:Bool
 pn:List (Addr×Obj)
 xe:Value->Shared->Prop
noncomputable def frs(l:List Env):List Addr:=l.filterMap (·.frame)
abbrev Cx.fs(X:Cx):List Addr:=frs X.outer
def Vis(sc:Scope)(x:Str):Prop:=sc.names.lookup x=some .local\/sc.names.lookup x=some .cell\/sc.names.lookup x=some .free
def Loc(sc:Scope)(x:Str):Prop:=sc.names.lookup x=some .local\/sc.names.lookup x=some .cell
def Look(env:Env)(h:Heap)(m:Str->Option Value)(x:Str)(u:Value):Prop:=
 (env.kindOf x=some .local/\m x=some u)\/((env.kindOf x=some .cell\/env.kindOf x=some .free)/\∃c,env.cells.lookup x=some c/\h.IsCell c (some u))
structure Cx.Ok(X:Cx):Prop where
 mod:Mod X.K X.mg X.base
 kind:X.env.scope.kind=.function
 glob:X.env.globals=mainGlobals
 blt:X.env.builtins=builtinsNs
 above:X.s₀.heap.objs.size<=X.env.locals
 inj:∀x y c,X.env.cells.lookup x=some c->X.env.cells.lookup y=some c->x=y
 has:∀x,(X.env.kindOf x=some .cell\/X.env.kindOf x=some .free)->∃c,X.env.cells.lookup x=some c
 cab:∀x c,X.fn x=true->X.env.cells.lookup x=some c->X.s₀.heap.objs.size<=c
 hd:X.calm=true->X.A.handled=none
 frames:X.A.frames=some X.stack
 stk:X.stack=X.outer\/(X.stack=X.env::X.outer/\X.env.frame=some X.env.locals)
 exf:∀b∈X.ex,b≠X.env.locals/\∀x c,X.env.cells.lookup x=some c->c≠b
 bs:∀b o,X.base.get? b=some o->X.s₀.heap.get? b=some o/\X.H₀ b=none
 bsz:X.base.objs.size<=X.s₀.heap.objs.size
 noex:∀b o,X.base.get? b=some o->b∉X.ex
 exfs:∀b∈X.ex,b∉X.fs
 funs:X.s₀.heap.FunFrames X.base X.outer
 frf:∀b∈X.fs,X.H₀ b=none
structure Inv(X:Cx)(pins:List (Addr×Obj))(σ:List (Option V))(H:Hp)(s:Shared):Prop where
 ok:X.Ok
 os:s.os=X.s₀.os
 bare:AllBare s.gens
 base:Un X.fs X.ex X.H₀ H X.s₀.heap s.heap
 loc:∃m,s.heap.Ns X.env.locals m/\∀(i:Nat)(x:Str)(v:V),X.N[i]?=some x->σ[i]?=some (some v)->Vis X.env.scope x->∃u,RelV v u/\Look X.env s.heap m x u
 cell:∀x c,X.env.cells.lookup x=some c->∃v,s.heap.IsCell c v
 free:H X.env.locals=none
 freeC:∀x c,X.env.cells.lookup x=some c->H c=none
 pin:∀p∈X.pn++pins,s.heap.get? p.1=some p.2/\H p.1=none/\p.1≠X.env.locals/\p.1∉X.fs/\∀v,p.2.data≠.cell v
 hok:HOk X.prog X.w H s.heap
 len:σ.length=X.N.length
section
variable{X:Cx}{pins:List (Addr×Obj)}{σ:List (Option V)}{H H':Hp}{s:Shared}{h':Heap}
theorem Cx.Ok.nofr(ok:X.Ok){b:Addr}{o:Obj}(e:X.base.get? b=some o):b∉X.fs:=fun hb=>by
 have:=(ok.funs.mem hb).1
 rw[e]at this;cases this
theorem Inv.bs(I:Inv X pins σ H s):∀b o,X.base.get? b=some o->s.heap.get? b=some o/\H b=none:=fun b o e=>
 ⟨I.base.keep b o (I.ok.bs b o e).1 (I.ok.bs b o e).2 (I.ok.nofr e) (I.ok.noex b o e),I.base.free b o (I.ok.bs b o e).1 (I.ok.bs b o e).2 (I.ok.noex b o e)⟩
theorem Inv.bk(I:Inv X pins σ H s):∀b o,X.base.get? b=some o->s.heap.get? b=some o:=fun b o e=>(I.bs b o e).1
theorem Inv.mod(I:Inv X pins σ H s):Mod X.K X.mg X.base:=I.ok.mod
theorem Inv.kIn(I:Inv X pins σ H s):X.K.In s.heap:=I.ok.mod.kin.keeps I.bk
theorem Inv.nolimit(I:Inv X pins σ H s):s.heap.NoLimit:=I.ok.mod.nolimit.keeps I.bk
theorem Inv.fr(I:Inv X pins σ H s):∃m,Fr X.base X.env.locals s.heap m:=
 let⟨m,hn,_⟩:=I.loc
 ⟨m,hn,I.bk,qAj I.ok.bsz I.ok.above⟩
theorem Inv.lt(I:Inv X pins σ H s):X.env.locals<s.heap.objs.size:=let⟨_,hn,_⟩:=I.loc;hn.lt
theorem Inv.sz(I:Inv X pins σ H s):X.s₀.heap.objs.size<=s.heap.objs.size:=qAj I.ok.above (qBn I.lt)
theorem Inv.nofs(I:Inv X pins σ H s){a:Addr}(h:s.heap.objs.size<=a):a∉X.fs:=fun hb=>by
 obtain⟨_,o,ho,_⟩:=I.ok.funs.mem hb;exact absurd (qAa (Heap.lt_size ho) (qAj I.sz h)) (qBj _)
theorem Inv.cne(I:Inv X pins σ H s):∀x c,X.env.cells.lookup x=some c->c≠X.env.locals:=fun x c e z=>by
 obtain⟨v,o,ho,hd⟩:=I.cell x c e;obtain⟨m,⟨o',es,ep,ho',hd',_⟩,_⟩:=I.loc;rw[z,ho']at ho;cases ho;rw[hd']at hd;cases hd
theorem Inv.funs(I:Inv X pins σ H s):s.heap.FunFrames X.base X.outer:=by
 have all:∀(l:List Env),(∀b∈frs l,b∈X.fs)->X.s₀.heap.FunFrames X.base l->s.heap.FunFrames X.base l:=by
  intro l
  induction l with
  |nil=>intro _ _;trivial
  |cons env r ih=>
   intro hs hl;obtain⟨hk,⟨L,o,hf,hn,ho,hd⟩,hr⟩:=hl;have hL:L∈X.fs:=hs L (by unfold frs;rw[qCq,hf];exact qBg);obtain⟨sl,e⟩:=I.base.slot L o ho (I.ok.frf L hL) hL fun z=>I.ok.exfs L z hL
   exact⟨hk,⟨L,_,hf,hn,e,hd⟩,ih (fun b hb=>hs b (by unfold frs;rw[qCq,hf];exact qAr _ hb)) hr⟩
 exact all X.outer (fun _ hb=>hb) I.ok.funs
theorem Inv.stack(I:Inv X pins σ H s):s.heap.FunFrames X.base X.stack:=by
 rcases I.ok.stk with e|⟨e,hf⟩
 ·rw[e];exact I.funs
 ·rw[e];obtain⟨m,hn,_⟩:=I.loc;refine .cons (by rw[I.ok.kind];decide) hf hn ?_ I.funs;exact Heap.get?_none_of_le (qAj I.ok.bsz I.ok.above)
theorem Inv.stkSub(I:Inv X pins σ H s):∀b∈frs X.stack,b∈X.env.locals::X.fs:=fun b hb=>by
 rcases I.ok.stk with e|⟨e,hf⟩
 ·rw[e]at hb;exact qAr _ hb
 ·rw[e]at hb;unfold frs at hb;rw[qCq,hf]at hb;exact hb
theorem Inv.stkFree(I:Inv X pins σ H s):∀b∈frs X.stack,H b=none:=fun b hb=>by
 rcases qAh.mp (I.stkSub b hb)with e|hb
 ·rw[e];exact I.free
 ·obtain⟨_,o,ho,_⟩:=I.ok.funs.mem hb;exact I.base.free b o ho (I.ok.frf b hb) fun z=>I.ok.exfs b z hb
theorem Inv.step{g':Array GenState}{t':Nat}{d':Drawn}{ch:List Addr}(I:Inv X pins σ H s)
  (hch:∀b∈ch,(b∈X.ex\/X.s₀.heap.objs.size<=b)/\b≠X.env.locals/\(∀x c,X.env.cells.lookup x=some c->c≠b)/\∀p∈X.pn++pins,p.1≠b)
  (keep:∀b o,b≠X.env.locals->b∉X.fs->b∉ch->s.heap.get? b=some o->H b=none->h'.get? b=some o)
  (slot:∀b o,b≠X.env.locals->b∈X.fs->b∉ch->s.heap.get? b=some o->H b=none->∃sl,h'.get? b=some { o with slots:=sl }) (free:∀b o,b∉ch->s.heap.get? b=some o->H b=none->H' b=none)
  (there:∀b o,b∉ch->s.heap.get? b=some o->∃o',h'.get? b=some o')
  (tups:∀b xs,H b=some (.tup xs)->H' b=some (.tup xs)) (frzs:∀b o u,H b=some (.frz o u)->H' b=some (.frz o u)) (tbls:∀b ps,H b=some (.tbl ps)->∃more,H' b=some (.tbl (ps++more)))
  (ns:∀m,s.heap.Ns X.env.locals m->h'.Ns X.env.locals m) (hok:HOk X.prog X.w H' h') (hg:AllBare g') :
  Inv X pins σ H' { s with heap:=h',gens:=g',drawn:=d',toks:=t' }:=by
 have neL:∀b o,X.s₀.heap.get? b=some o->b≠X.env.locals:=fun b o e=>qAp (qAa (Heap.lt_size e) I.ok.above)
 have neC:∀b o,X.s₀.heap.get? b=some o->b∉X.ex->b∉ch:=fun b o e hx hb=>by
  rcases(hch b hb).1 with z|z
  ·exact hx z
  ·exact absurd (qAa (Heap.lt_size e) z) (qBj _)
 have cellK:∀x c,X.env.cells.lookup x=some c->∀v,s.heap.IsCell c v->h'.IsCell c v:=fun x c e v ⟨o,ho,hd⟩=>by
  have nch:c∉ch:=fun z=>(hch c z).2.2.1 x c e rfl
  by_cases hc:c∈X.fs
  ·obtain⟨sl,q⟩:=slot c o (I.cne x c e) hc nch ho (I.freeC x c e);exact⟨_,q,hd⟩
  ·exact⟨o,keep c o (I.cne x c e) hc nch ho (I.freeC x c e),hd⟩
 refine⟨I.ok,I.os,hg,⟨fun b o e n hb hx=>?_,fun b o e n hb hx=>?_,fun b o e n hx=>?_,fun b o e hx=>?_,fun b xs e=>tups b xs (I.base.tups b xs e),fun b o xs e=>frzs b o xs (I.base.frzs b o xs e),fun b ps e=>?_⟩,?_,fun x c e=>?_,?_,fun x c e=>?_,fun p hp=>?_,hok,I.len⟩
 ·exact keep b o (neL b o e) hb (neC b o e hx) (I.base.keep b o e n hb hx) (I.base.free b o e n hx)
 ·obtain⟨sl,e1⟩:=I.base.slot b o e n hb hx;obtain⟨sl',e2⟩:=slot b _ (neL b o e) hb (neC b o e hx) e1 (I.base.free b o e n hx);exact⟨sl',e2⟩
 ·obtain⟨o',e1⟩:=I.base.there b o e hx;exact free b o' (neC b o e hx) e1 (I.base.free b o e n hx)
 ·obtain⟨o',e1⟩:=I.base.there b o e hx;exact there b o' (neC b o e hx) e1
 ·obtain⟨m1,e1⟩:=I.base.tbls b ps e;obtain⟨m2,e2⟩:=tbls b _ e1;exact⟨m1++m2,by rw[e2,Array.append_assoc]⟩
 ·obtain⟨m,hn,hl⟩:=I.loc;refine⟨m,ns m hn,fun i x v e1 e2 e3=>?_⟩;obtain⟨u,r,l⟩:=hl i x v e1 e2 e3;refine⟨u,r,?_⟩
  rcases l with l|⟨k,c,e,z⟩
  ·exact .inl l
  ·exact .inr ⟨k,c,e,cellK x c e _ z⟩
 ·obtain⟨v,z⟩:=I.cell x c e;exact⟨v,cellK x c e v z⟩
 ·obtain⟨m,⟨o,_,_,ho,_⟩,_⟩:=I.loc;exact free _ o (fun z=>(hch _ z).2.1 rfl) ho I.free
 ·obtain⟨v,o,ho,hd⟩:=I.cell x c e;exact free c o (fun z=>(hch c z).2.2.1 x c e rfl) ho (I.freeC x c e)
 ·obtain⟨e,n,ne,nf,d⟩:=I.pin p hp;have nch:p.1∉ch:=fun z=>(hch p.1 z).2.2.2 p hp rfl
  exact⟨keep p.1 p.2 ne nf nch e n,free p.1 p.2 nch e n,ne,nf,d⟩
theorem Inv.un{t':Nat}(I:Inv X pins σ H s)(u:Un X.fs [] H H' s.heap h')(hok:HOk X.prog X.w H' h'):Inv X pins σ H' { s with heap:=h',toks:=t' }:=by
 obtain⟨m,⟨o,es,ep,ho,r⟩,_⟩:=id I.loc;obtain⟨sl,hL⟩:=u.any ho I.free (by simp);exact I.step (g':=s.gens) (d':=s.drawn) (ch:=[]) (fun _ z=>nomatch z) (fun b o _ hb _ e n=>u.keep b o e n hb (by simp)) (fun b o _ hb _ e n=>u.slot b o e n hb (by simp)) (fun b o _ e n=>u.free b o e n (by simp)) (fun b o _ e=>u.there b o e (by simp)) u.tups u.frzs u.tbls (fun m' hm=>by
  obtain⟨o',es',ep',ho',r'⟩:=hm;rw[ho]at ho';cases ho';exact⟨_,es',ep',hL,r'⟩) hok I.bare
theorem Inv.call{g':Array GenState}{t':Nat}{d':Drawn}{ch:List Addr}(I:Inv X pins σ H s)(u:Un (frs X.stack) ch H H' s.heap h')(hok:HOk X.prog X.w H' h')(hg:AllBare g')
  (hch:∀b∈ch,(b∈X.ex\/X.s₀.heap.objs.size<=b)/\b≠X.env.locals/\(∀x c,X.env.cells.lookup x=some c->c≠b)/\∀p∈X.pn++pins,p.1≠b) :
  Inv X pins σ H' { s with heap:=h',gens:=g',drawn:=d',toks:=t' }:=by
 obtain⟨m,⟨o,es,ep,ho,r⟩,_⟩:=id I.loc;obtain⟨sl,hL⟩:=u.any ho I.free fun z=>(hch _ z).2.1 rfl
 exact I.step (ch:=ch) hch (fun b o hL hb hc e n=>u.keep b o e n (fun z=>(qAh.mp (I.stkSub b z)).elim hL hb) hc) (fun b o _ _ hc e n=>u.any e n hc) (fun b o hc e n=>u.free b o e n hc) (fun b o hc e=>u.there b o e hc) u.tups u.frzs u.tbls (fun m' hm=>by
  obtain⟨o',es',ep',ho',r'⟩:=hm;rw[ho]at ho';cases ho';exact⟨_,es',ep',hL,r'⟩) hok hg
theorem Inv.turned{t':Nat}{it:Addr}(I:Inv X pins σ H s)(k:∀b o,b≠it->s.heap.get? b=some o->h'.get? b=some o)(hn:H it=none)(hL:it≠X.env.locals)
  (h1:it∈X.ex\/X.s₀.heap.objs.size<=it) (h2:∀x c,X.env.cells.lookup x=some c->c≠it) (h3:∀p∈X.pn++pins,p.1≠it):Inv X pins σ H { s with heap:=h',toks:=t' }:=by
 have nit:∀b u,H b=some u->b≠it:=fun b u e z=>by rw[z,hn]at e;cases e
 refine I.step (g':=s.gens) (d':=s.drawn) (ch:=[it]) (fun b hb=>?_) (fun b o _ _ hc e _=>k b o (fun z=>hc (by simp[z])) e) (fun b o _ _ hc e _=>⟨o.slots,k b o (fun z=>hc (by simp[z])) e⟩) (fun _ _ _ _ n=>n)
  (fun b o hc e=>⟨o,k b o (fun z=>hc (by simp[z])) e⟩) (fun _ _ e=>e) (fun _ _ _ e=>e) (fun b ps e=>⟨#[],by rw[e];simp⟩) (fun m hm=>?_) (fun b u e=>?_) I.bare
 ·have e:b=it:=by simpa using hb
  subst e;exact⟨h1,hL,h2,h3⟩
 ·obtain⟨o,es,ep,ho,r⟩:=hm;exact⟨o,es,ep,k _ o (qCr hL) ho,r⟩
 ·refine(I.hok b u e).stay (fun c v hc q=>k c v ?_ q) (fun _ q=>q) (fun _ _ q=>q) fun _ _ _ q _=>q
  rcases hc with z|z
  ·rw[z];exact nit b u e
  ·exact nit c _ z
theorem Inv.tok(I:Inv X pins σ H s)(t:Nat):Inv X pins σ H { s with toks:=t }:=I.un (h':=s.heap) (t':=t) Un.refl I.hok
theorem Inv.kept{t':Nat}(I:Inv X pins σ H s)(k:∀b u,s.heap.get? b=some u->h'.get? b=some u):Inv X pins σ H { s with heap:=h',toks:=t' }:=I.un (Un.kept k) (I.hok.kept k)
theorem Inv.laid{a:Addr}{o:HO}{t':Nat}(I:Inv X pins σ H s)(k:∀b u,s.heap.get? b=some u->h'.get? b=some u)(hp:s.heap.objs.size<=a)(new:ObjOk X.prog X.w (upd H a o) h' a o) :
  Inv X pins σ (upd H a o) { s with heap:=h',toks:=t' }:=I.un (Un.laid k hp (I.hok.fresh hp)) (I.hok.laid k hp new)
theorem Inv.write{x e:Addr}{o:HO}{t':Nat}(I:Inv X pins σ H s)(mu:Mut (H x))(he:e=x\/H e=some (.own x))(k:∀b u,b≠e->s.heap.get? b=some u->h'.get? b=some u)(heo:∃u,h'.get? e=some u)
  (new:ObjOk X.prog X.w (upd H x o) h' x o):Inv X pins σ (upd H x o) { s with heap:=h',toks:=t' }:=I.un (Un.write mu he k heo) (I.hok.write mu he k heo new)
theorem Inv.weak{σ':List (Option V)}(I:Inv X pins σ H s)(hl:σ'.length=σ.length)(w:∀(i:Nat) v,σ'[i]?=some (some v)->σ[i]?=some (some v)):Inv X pins σ' H s:=
 ⟨I.ok,I.os,I.bare,I.base,let⟨m,hn,hl'⟩:=I.loc;⟨m,hn,fun i x v e1 e2 e3=>hl' i x v e1 (w i v e2) e3⟩,I.cell,I.free,I.freeC,I.pin,I.hok,hl.trans I.len⟩
theorem Inv.pins_of{pins':List (Addr×Obj)}(I:Inv X pins σ H s)(h:∀p∈pins',s.heap.get? p.1=some p.2/\H p.1=none/\p.1≠X.env.locals/\p.1∉X.fs/\∀v,p.2.data≠.cell v):Inv X pins' σ H s:=
 ⟨I.ok,I.os,I.bare,I.base,I.loc,I.cell,I.free,I.freeC,fun p hp=>(qAs.mp hp).elim (fun z=>I.pin p (qB8 _ z)) (h p),I.hok,I.len⟩
theorem zMV{N:List Str}(hN:N.Nodup){i j:Nat}{x:Str}(a:N[i]?=some x)(b:N[j]?=some x):i=j:=by
 obtain⟨h1,e1⟩:=qA2.mp a;obtain⟨h2,e2⟩:=qA2.mp b;exact(qF7 hN).mp (e1.trans e2.symm)
theorem zJS{M:Model}{A:Around}{E:Value->Shared->Prop}{i:Nat}{x:Str}{v:V}{u:Value}{Q:Unit->Shared->Prop}(I:Inv X pins σ H s)(hN:X.N.Nodup)(hi:X.N[i]?=some x)(hx:Loc X.env.scope x)(r:RelV v u)
  (h:∀s',Inv X pins (σ.set i (some v)) H s'->(∃a,Heap.SameBut a s.heap s'.heap/\(a=X.env.locals\/X.env.cells.lookup x=some a))->Q () s') (hf:X.fn x=true\/X.env.scope.names.lookup x=some .local:=by first|exact .inl rfl|exact .inr rfl|assumption):wpAny M A (storeName X.env x u) Q E s:=by
 obtain⟨m,hn,hl⟩:=id I.loc;have hcls:(X.env.scope.kind==.class||(X.env.scope.kind==.module&&X.env.locals != X.env.globals))=false:=by rw[I.ok.kind];rfl
 have hiσ:i<σ.length:=by rw[I.len];exact(qA2.mp hi).1
 have cne:=I.cne;have tracked:∀{a:Addr}{h':Heap},(∃o,s.heap.get? a=some o/\H a=none)->Heap.SameBut a s.heap h'->HOk X.prog X.w H h':=fun{a h'} ha hs b ob e=>by
  obtain⟨_,_,hfree⟩:=ha;refine(I.hok b ob e).stay (fun c w' hc q=>(hs.2 c ?_).trans q) (fun _ q=>q) (fun _ _ q=>q) fun _ _ _ q _=>q
  rintro rfl
  rcases hc with rfl|hc
  ·rw[hfree]at e;cases e
  ·rw[hfree]at hc;cases hc
 rcases hx with hk|hk
 ·refine wpAny_storeName_local hk hn (fun h' hn' hs=>?_) hcls;obtain⟨oL,_,_,hoL,_⟩:=id hn;refine h _ ⟨I.ok,I.os,I.bare,⟨fun b o e n hb hx=>?_,fun b o e n hb hx=>?_,I.base.free,fun b o e hx=>?_,I.base.tups,I.base.frzs,I.base.tbls⟩,⟨_,hn',fun j y v' e1 e2 e3=>?_⟩,fun y c e=>?_,I.free,I.freeC,fun p hp=>?_,tracked ⟨oL,hoL,I.free⟩ hs,by simpa using I.len⟩ ⟨_,hs,.inl rfl⟩
  ·exact(hs.2 b (qAp (qAa (Heap.lt_size e) I.ok.above))).trans (I.base.keep b o e n hb hx)
  ·obtain⟨sl,e1⟩:=I.base.slot b o e n hb hx;exact⟨sl,(hs.2 b (qAp (qAa (Heap.lt_size e) I.ok.above))).trans e1⟩
  ·obtain⟨o',e1⟩:=I.base.there b o e hx;exact⟨o',(hs.2 b (qAp (qAa (Heap.lt_size e) I.ok.above))).trans e1⟩
  ·by_cases hj:j=i
   ·subst hj;rw[hi]at e1;cases e1;rw[qA8 hiσ]at e2;cases e2;exact⟨u,r,.inl ⟨hk,by simp⟩⟩
   ·rw[qAb (qCr hj)]at e2;obtain⟨u',r',q⟩:=hl j y v' e1 e2 e3;refine⟨u',r',?_⟩
    rcases q with⟨k,e⟩|⟨k,c,e,z⟩
    ·refine .inl ⟨k,?_⟩
     have:y≠x:=fun e=>hj (zMV hN e1 (e▸hi))
     simp[this,e]
    ·exact .inr ⟨k,c,e,z.sameBut hs (cne y c e)⟩
  ·obtain⟨w',z⟩:=I.cell y c e;exact⟨w',z.sameBut hs (cne y c e)⟩
  ·obtain⟨e,n,ne,nf,d⟩:=I.pin p hp;exact⟨(hs.2 p.1 ne).trans e,n,ne,nf,d⟩
 ·have hfn:X.fn x=true:=by
   rcases hf with z|z
   ·exact z
   ·rw[z]at hk;cases hk
  obtain⟨c,hc⟩:=I.ok.has x (.inl hk);obtain⟨w',z⟩:=I.cell x c hc;refine wpAny_storeName_cell I.ok.kind hk hc z (fun h' hc' hs=>?_);obtain⟨oc,hoc,hocd⟩:=id z;refine h { s with heap:=h' } ⟨I.ok,I.os,I.bare,⟨fun b o e n hb hx=>?_,fun b o e n hb hx=>?_,I.base.free,fun b o e hx=>?_,I.base.tups,I.base.frzs,I.base.tbls⟩,⟨m,hn.sameBut hs (qCr (cne x c hc)),fun j y v' e1 e2 e3=>?_⟩,fun y c' e=>?_,I.free,I.freeC,fun p hp=>?_,tracked ⟨oc,hoc,I.freeC x c hc⟩ hs,by simpa using I.len⟩ ⟨c,hs,.inr hc⟩
  ·exact(hs.2 b (qAp (qAa (Heap.lt_size e) (I.ok.cab x c hfn hc)))).trans (I.base.keep b o e n hb hx)
  ·obtain⟨sl,e1⟩:=I.base.slot b o e n hb hx;exact⟨sl,(hs.2 b (qAp (qAa (Heap.lt_size e) (I.ok.cab x c hfn hc)))).trans e1⟩
  ·obtain⟨o',e1⟩:=I.base.there b o e hx;exact⟨o',(hs.2 b (qAp (qAa (Heap.lt_size e) (I.ok.cab x c hfn hc)))).trans e1⟩
  ·by_cases hj:j=i
   ·subst hj;rw[hi]at e1;cases e1;rw[qA8 hiσ]at e2;cases e2;exact⟨u,r,.inr ⟨.inl hk,c,hc,hc'⟩⟩
   ·rw[qAb (qCr hj)]at e2;obtain⟨u',r',q⟩:=hl j y v' e1 e2 e3;refine⟨u',r',?_⟩
    rcases q with q|⟨k,c',e,z'⟩
    ·exact .inl q
    ·refine .inr ⟨k,c',e,z'.sameBut hs ?_⟩
     rintro rfl
     exact hj (zMV hN e1 (I.ok.inj _ _ _ e hc▸hi))
  ·by_cases hcc:c'=c
   ·subst hcc;exact⟨_,hc'⟩
   ·obtain⟨w2,z2⟩:=I.cell y c' e;exact⟨w2,z2.sameBut hs hcc⟩
  ·obtain⟨e,n,ne,nf,d⟩:=I.pin p hp;refine⟨(hs.2 p.1 ?_).trans e,n,ne,nf,d⟩;intro q;rw[q,hoc]at e;have q':oc=p.2:=qAx e;exact d w' (by rw[<- q'];exact hocd)
theorem zMJ{M:Model}{A:Around}{E:Value->Shared->Prop}{i:Nat}{x:Str}{v:V}{u:Value}{Q:Unit->Shared->Prop}(I:Inv X pins σ H s)(hN:X.N.Nodup)(hi:X.N[i]?=some x)(hx:Loc X.env.scope x)(r:RelV v u)
  (h:∀s',Inv X pins (σ.set i (some v)) H s'->Q () s') (hf:X.fn x=true\/X.env.scope.names.lookup x=some .local:=by first|exact .inl rfl|exact .inr rfl|assumption):wpAny M A (storeName X.env x u) Q E s:=
 zJS I hN hi hx r (fun s' I' _=>h s' I') hf
theorem Inv.call'{s':Shared}{ch:List Addr}(I:Inv X pins σ H s)(ho:s'.os=s.os)(u:Un (frs X.stack) ch H H' s.heap s'.heap)(hok:HOk X.prog X.w H' s'.heap)(hg:AllBare s'.gens)
  (hch:∀b∈ch,(b∈X.ex\/X.s₀.heap.objs.size<=b)/\b≠X.env.locals/\(∀x c,X.env.cells.lookup x=some c->c≠b)/\∀p∈X.pn++pins,p.1≠b):Inv X pins σ H' s':=by
 obtain⟨h',g',d',t',o'⟩:=s';have e:o'=s.os:=ho;subst e;exact I.call (g':=g') (t':=t') (d':=d') u hok hg hch
end
abbrev XK:=Value->Option Addr->Hp->Prop
abbrev St:=List (Option V)
abbrev VK:=V->Hp->Prop
abbrev TE:=St->Hp->VK->Prop
abbrev TT:=St->Hp->(Bool->Hp->Prop)->Prop
abbrev TA:=St->Hp->(List V->Hp->Prop)->Prop
structure Ends where
 nx:St->Hp->Prop
 rt:VK
 bk:St->Hp->Prop:=fun _ _=>False
 ct:St->Hp->Prop:=fun _ _=>False
abbrev TS:=Ends->St->Hp->Prop
def EP(X:Cx)(pins:List (Addr×Obj))(σ:St)(Q:VK)(u:Value)(s':Shared):Prop:=∃v H',Inv X pins σ H' s'/\RelV v u/\Q v H'
def TP(X:Cx)(pins:List (Addr×Obj))(σ:St)(Q:Bool->Hp->Prop)(b:Bool)(s':Shared):Prop:=∃H',Inv X pins σ H' s'/\Q b H'
def AP(X:Cx)(pins:List (Addr×Obj))(σ:St)(Q:List V->Hp->Prop)(us:List Value)(s':Shared):Prop:=∃vs H',Inv X pins σ H' s'/\Vals vs us/\Q vs H'
def SP(X:Cx)(pins:List (Addr×Obj))(D:Ends)(f:Flow)(s':Shared):Prop:=
 match f with
 |.next=>∃σ' H',Inv X pins σ' H' s'/\D.nx σ' H'
 |.brk=>∃σ' H',Inv X pins σ' H' s'/\D.bk σ' H'
 |.cont=>∃σ' H',Inv X pins σ' H' s'/\D.ct σ' H'
 |.ret u=>∃v σ' H',Inv X pins σ' H' s'/\RelV v u/\D.rt v H'
def PE(X:Cx)(e:Expr)(t:TE):Prop:=
 ∀(pins:List (Addr×Obj))(s:Shared)(σ:St)(H:Hp)(Q:VK),Inv X pins σ H s->t σ H Q->wpAny (model X.prog X.w) X.A (eval e X.env) (EP X pins σ Q) X.xe s
def PT(X:Cx)(e:Expr)(t:TT):Prop:=
 ∀(pins:List (Addr×Obj))(s:Shared)(σ:St)(H:Hp)(Q:Bool->Hp->Prop),Inv X pins σ H s->t σ H Q->wpAny (model X.prog X.w) X.A (isTrue e X.env (eval e X.env)) (TP X pins σ Q) X.xe s
def PW(X:Cx)(e:Expr)(t:TT):Prop:=
 ∀(whole:Sem Value)(pins:List (Addr×Obj))(s:Shared)(σ:St)(H:Hp)(Q:Bool->Hp->Prop),Inv X pins σ H s->t σ H Q->wpAny (model X.prog X.w) X.A (isTrue e X.env whole) (TP X pins σ Q) X.xe s
theorem PW.pt{X:Cx}{e:Expr}{t:TT}(h:PW X e t):PT X e t:=h _
def PA(X:Cx)(es:List Expr)(t:TA):Prop:=
 ∀(pos:Pos)(pins:List (Addr×Obj))(s:Shared)(σ:St)(H:Hp)(Q:List V->Hp->Prop),Inv X pins σ H s->t σ H Q->wpAny (model X.prog X.w) X.A (spliced (backTo pos (starEach es X.env))) (AP X pins σ Q) X.xe s
def PS(X:Cx)(st:Stmt)(t:TS):Prop:=
 ∀(pins:List (Addr×Obj))(s:Shared)(σ:St)(H:Hp)(D:Ends),Inv X pins σ H s->t D σ H->wpAny (model X.prog X.w) X.A (exec st X.env) (SP X pins D) X.xe s
def PSs(X:Cx)(st:List Stmt)(t:TS):Prop:=
 ∀(pins:List (Addr×Obj))(s:Shared)(σ:St)(H:Hp)(D:Ends),Inv X pins σ H s->t D σ H->wpAny (model X.prog X.w) X.A (execs st X.env) (SP X pins D) X.xe s
theorem thn{α:Type}{t:Sem α}{Q Q':α->Shared->Prop}{M:Model}{A:Around}{E:Value->Shared->Prop}{s:Shared}(h:wpAny M A t Q E s)(hQ:∀a s,Q a s->Q' a s):wpAny M A t Q' E s:=wpAny_mono h hQ fun _ _ x=>x
end L2
namespace L2
open PySem PySem.Spec PyProof.Rows
section
variable{X:Cx}
noncomputable def tVar(i:Nat):TE:=fun σ H Q=>∃v,σ[i]?=some (some v)/\Q v H
noncomputable def tC(v:V):TE:=fun _ H Q=>Q v H
theorem zTL{i:Nat}{x:Str}{pos:Pos}(hN:X.N[i]?=some x)(hv:Vis X.env.scope x)(hd:(x==("__debug__":Str))=false:=by decide)(hcd:(x==("__classdict__":Str))=false:=by decide):PE X (.Name x pos) (tVar i):=by
 intro pins s σ H Q I h;obtain⟨v,e,h⟩:=h;obtain⟨m,hn,hl⟩:=I.loc;obtain⟨u,r,l⟩:=hl i x v hN e hv;have fin:EP X pins σ Q u s:=⟨v,H,I,r,h⟩
 rcases l with⟨hk,hm⟩|⟨hk,c,hc,hcell⟩
 ·exact wpAny_Name (wpAny_loadName_local I.ok.kind hk hn hm fin) hd
 ·rcases hk with hk|hk
  ·exact wpAny_Name (wpAny_loadName_cell I.ok.kind hk hc hcell fin) hd
  ·exact wpAny_Name (wpAny_loadName_free I.ok.kind hk hc hcell fin hcd) hd
theorem zA8{i j pos}:PE X (.Constant (.int i) j pos) (tC (.int i)):=fun _ _ _ H _ I h=>wpAny_Constant_int ⟨.int i,H,I.tok _,⟨_,rfl⟩,h⟩
theorem zV1{b j pos}:PE X (.Constant (.bool b) j pos) (tC (.bl b)):=fun _ _ _ H _ I h=>Constant_bool ⟨.bl b,H,I,rfl,h⟩
theorem zTN{j pos}:PE X (.Constant .none j pos) (tC .non):=fun _ _ _ H _ I h=>Constant_none ⟨.non,H,I,rfl,h⟩
theorem zTM{x j pos}:PE X (.Constant (.str x) j pos) (tC (.str x)):=fun _ _ _ H _ I h=>Calls.Constant_str ⟨.str x,H,I.tok _,⟨_,rfl⟩,h⟩
def Gl(X:Cx)(x:Str):Prop:=X.env.kindOf x=some .globalImplicit
theorem zLU{E:Value->Shared->Prop}{pins:List (Addr×Obj)}{s:Shared}{σ:St}{H:Hp}{x:Str}{u:Value}{pos:Pos}{Q:Value->Shared->Prop}(I:Inv X pins σ H s)(hg:Gl X x)(hm:X.mg x=some u)(h:Q u s)
  (hd:(x==("__debug__":Str))=false:=by decide):wpAny (model X.prog X.w) X.A (eval (.Name x pos) X.env) Q E s:=
 Calls.Name_function_global I.ok.kind hg (Calls.loadGlobal_global (by rw[I.ok.glob];exact I.mod.glob.keeps I.bk) hm h) hd
theorem zH8{E:Value->Shared->Prop}{pins:List (Addr×Obj)}{s:Shared}{σ:St}{H:Hp}{x:Str}{u:Value}{pos:Pos}{Q:Value->Shared->Prop}(I:Inv X pins σ H s)(hg:Gl X x)(hm:X.mg x=none)(hv:bootBuiltins x=some u)(h:Q u s)
  (hn:x≠"__name__":=by decide) (hd:(x==("__debug__":Str))=false:=by decide):wpAny (model X.prog X.w) X.A (eval (.Name x pos) X.env) Q E s:=by
 obtain⟨mb,h1,h2⟩:=I.mod.blt;exact Calls.Name_function_global I.ok.kind hg (Calls.loadGlobal_builtin (by rw[I.ok.glob];exact I.mod.glob.keeps I.bk) hm (by rw[I.ok.blt];exact h1.keeps I.bk) ((h2 x hn).trans hv) h) hd
theorem zLM{x:Str}{v:V}{u:Value}{pos:Pos}(hg:Gl X x)(hm:X.mg x=none)(hv:bootBuiltins x=some u)(r:RelV v u)(hn:x≠"__name__":=by decide)(hd:(x==("__debug__":Str))=false:=by decide):PE X (.Name x pos) (tC v):=
 fun _ _ _ H _ I h=>zH8 I hg hm hv ⟨v,H,I,r,h⟩ hn hd
variable{a b:Expr}{ta tb:TE}{pos:Pos}
noncomputable def tB(t:TE):TT:=fun σ H Q=>t σ H fun x H1=>∃c,x=.bl c/\Q c H1
variable{tA tB':TT}{rest:List Expr}
noncomputable def tAnd(t u:TT):TT:=fun σ H Q=>t σ H fun c H1=>if c=true then u σ H1 Q else Q false H1
noncomputable def tOr(t u:TT):TT:=fun σ H Q=>t σ H fun c H1=>if c=true then Q true H1 else u σ H1 Q
noncomputable def tNot(t:TT):TT:=fun σ H Q=>t σ H fun c H1=>Q (!c) H1
theorem zIV(ha:PT X a tA):PW X (.BoolOp .And [a] pos) tA:=by
 intro wh pins s σ H Q I h;refine isTrue_and (thn (ha pins s σ H Q I h) fun c s1 e=>?_);cases c with
 |true=>exact isTrue_and_nil e
 |false=>exact e
theorem zXB(ha:PT X a tA):PW X (.BoolOp .Or [a] pos) tA:=by
 intro wh pins s σ H Q I h;refine isTrue_or (thn (ha pins s σ H Q I h) fun c s1 e=>?_);cases c with
 |false=>exact isTrue_or_nil e
 |true=>exact e
theorem zK2(ha:PT X a tA)(hb:PW X (.BoolOp .And (b::rest) pos) tB'):PW X (.BoolOp .And (a::b::rest) pos) (tAnd tA tB'):=by
 intro wh pins s σ H Q I h;refine isTrue_and (thn (ha pins s σ H _ I h) fun c s1 z0=>?_);obtain⟨H1,I1,q1⟩:=z0;cases c with
 |true=>exact hb wh pins s1 σ H1 Q I1 q1
 |false=>exact⟨H1,I1,q1⟩
theorem zZF(ha:PT X a tA)(hb:PW X (.BoolOp .Or (b::rest) pos) tB'):PW X (.BoolOp .Or (a::b::rest) pos) (tOr tA tB'):=by
 intro wh pins s σ H Q I h;refine isTrue_or (thn (ha pins s σ H _ I h) fun c s1 z0=>?_);obtain⟨H1,I1,q1⟩:=z0;cases c with
 |true=>exact⟨H1,I1,q1⟩
 |false=>exact hb wh pins s1 σ H1 Q I1 q1
theorem zP5(ha:PT X a tA):PT X (.UnaryOp .Not a pos) (tNot tA):=by
 intro pins s σ H Q I h;exact isTrue_not (ha pins s σ H (fun c H1=>Q (!c) H1) I h)
theorem zI6{op}{t:TE}(h:PE X a t):PE X (.BoolOp op [a] pos) t:=fun pins s σ H Q I hw=>BoolOp_one (h pins s σ H Q I hw)
noncomputable def tIf(t:TT)(ta tb:TE):TE:=fun σ H Q=>t σ H fun c H1=>if c=true then ta σ H1 Q else tb σ H1 Q
theorem zF6{c:Expr}(hc:PT X c tA)(ha:PE X a ta)(hb:PE X b tb):PE X (.IfExp c a b pos) (tIf tA ta tb):=by
 intro pins s σ H Q I h;refine wpAny_IfExp (thn (hc pins s σ H _ I h) fun d s1 z0=>?_);obtain⟨H1,I1,q1⟩:=z0;cases d with
 |true=>exact ha pins s1 σ H1 Q I1 q1
 |false=>exact hb pins s1 σ H1 Q I1 q1
end
end L2
namespace L2
open PySem PySem.Spec PyProof.Rows
def SqL(K:qA1)(H:Hp)(a:Addr)(xs:List V):Prop:=
 Rd H a (.lst xs) \/
  ∃(o:Obj)(its:Array Value)(n:Nat),K.lookup a=some o/\o.cls=.type "list"/\o.dict=none/\o.data=.seq its n/\its.size<=sizeLine/\Vals xs its.toList
def SqT(K:qA1)(H:Hp)(a:Addr)(xs:List V):Prop:=
 Rd H a (.tup xs) \/
  ∃(o:Obj)(its:Array Value)(n:Nat),K.lookup a=some o/\o.cls=.type "tuple"/\o.data=.seq its n/\its.size<=sizeLine/\Vals xs its.toList
noncomputable def absV:Value->Option V
 |.none=>some .non
 |.bool b=>some (.bl b)
 |.int i _=>some (.int i)
 |.str x _=>some (.str x)
 |.bytes b _=>some (.byt b)
 |.float b _=>some (.flt b)
 |.ref a=>some (.ref a)
 |.type n=>some (.ty n)
 |_=>none
theorem RelV.abs{x:V}{u:Value}(r:RelV x u):absV u=some x:=by
 cases x with
 |non=>cases r;rfl
 |bl _=>cases r;rfl
 |int _=>obtain⟨t,rfl⟩:=r;rfl
 |str _=>obtain⟨t,rfl⟩:=r;rfl
 |byt _=>obtain⟨t,rfl⟩:=r;rfl
 |flt _=>obtain⟨t,rfl⟩:=r;rfl
 |ref _=>cases r;rfl
 |ty _=>cases r;rfl
theorem RelV.inj{x y:V}{u:Value}(r:RelV x u)(q:RelV y u):x=y:=qAx (r.abs.symm.trans q.abs)
theorem Vals.inj:∀{xs ys:List V}{us:List Value},Vals xs us->Vals ys us->xs=ys
 |_,_,_,.nil,.nil=>rfl
 |_,_,_,.cons r t,.cons r' t'=>by rw[r.inj r',Vals.inj t t']
section
variable{X:Cx}{pins:List (Addr×Obj)}{σ:St}{H:Hp}{s:Shared}{a:Addr}{xs ys:List V}
theorem SqL.of{K:qA1}(h:H a=some (.lst xs)):SqL K H a xs:=.inl (.inl h)
theorem SqT.of{K:qA1}(h:H a=some (.tup xs)):SqT K H a xs:=.inl (.inl h)
theorem Inv.list(I:Inv X pins σ H s)(h:SqL X.K H a xs):∃its:List Value,Vals xs its/\PlainL s.heap a its.toArray/\xs.length<=sizeLine:=by
 rcases h with h|⟨o,its,n,hk,hc,hd,hs,hz,r⟩
 ·obtain⟨z,its,n,r,e⟩:=h.ok I.hok;exact⟨its,r,⟨_,n,e,rfl,rfl,rfl⟩,z⟩
 ·refine⟨its.toList,r,⟨o,n,I.kIn a o hk,hc,hd,by simpa using hs⟩,?_⟩;have e:=r.length;simp only[qEb]at e
  lia
theorem Inv.tuple(I:Inv X pins σ H s)(h:SqT X.K H a xs):∃its:List Value,Vals xs its/\IsTup s.heap a its.toArray/\xs.length<=sizeLine:=by
 rcases h with h|⟨o,its,n,hk,hc,hs,hz,r⟩
 ·obtain⟨z,its,r,p⟩:=h.ok I.hok;exact⟨its,r,p,z⟩
 ·refine⟨its.toList,r,⟨o,I.kIn a o hk,hc,n,by simpa using hs⟩,?_⟩;have e:=r.length;simp only[qEb]at e
  lia
theorem Inv.list_inj(I:Inv X pins σ H s)(h:SqL X.K H a xs)(h':SqL X.K H a ys):xs=ys:=by
 obtain⟨its,r,⟨o,n,e,_,_,d⟩,_⟩:=I.list h;obtain⟨its',r',⟨o',n',e',_,_,d'⟩,_⟩:=I.list h';rw[e]at e';cases e';rw[d]at d'
 injection d' with d1 _
 have:its=its':=by simpa using congrArg qGj d1
 subst this;exact r.inj r'
theorem Inv.tuple_inj(I:Inv X pins σ H s)(h:SqT X.K H a xs)(h':SqT X.K H a ys):xs=ys:=by
 obtain⟨its,r,⟨o,e,_,n,d⟩,_⟩:=I.tuple h;obtain⟨its',r',⟨o',e',_,n',d'⟩,_⟩:=I.tuple h';rw[e]at e';cases e';rw[d]at d'
 injection d' with d1 _
 have:its=its':=by simpa using congrArg qGj d1
 subst this;exact r.inj r'
end
abbrev Cx.wish(X:Cx)(E:Value->Shared->Prop):Cx:={ X with xe:=E }
abbrev Cx.nox(X:Cx):Cx:=X.wish fun _ _=>False
theorem Cx.Ok.wish{X:Cx}(ok:X.Ok)(E:Value->Shared->Prop):(X.wish E).Ok:=
 ⟨ok.mod,ok.kind,ok.glob,ok.blt,ok.above,ok.inj,ok.has,ok.cab,ok.hd,ok.frames,ok.stk,ok.exf,ok.bs,ok.bsz,ok.noex,ok.exfs,ok.funs,ok.frf⟩
theorem Cx.Ok.unwish{X:Cx}{E:Value->Shared->Prop}(ok:(X.wish E).Ok):X.Ok:=
 ⟨ok.mod,ok.kind,ok.glob,ok.blt,ok.above,ok.inj,ok.has,ok.cab,ok.hd,ok.frames,ok.stk,ok.exf,ok.bs,ok.bsz,ok.noex,ok.exfs,ok.funs,ok.frf⟩
section
variable{X:Cx}{pins:List (Addr×Obj)}{σ:St}{H:Hp}{s:Shared}{E:Value->Shared->Prop}
theorem Inv.wish(I:Inv X pins σ H s)(E:Value->Shared->Prop):Inv (X.wish E) pins σ H s:=⟨I.ok.wish E,I.os,I.bare,I.base,I.loc,I.cell,I.free,I.freeC,I.pin,I.hok,I.len⟩
theorem Inv.unwish(I:Inv (X.wish E) pins σ H s):Inv X pins σ H s:=⟨I.ok.unwish,I.os,I.bare,I.base,I.loc,I.cell,I.free,I.freeC,I.pin,I.hok,I.len⟩
theorem SP.unwish{D:Ends}{f:Flow}{s':Shared}(h:SP (X.wish E) pins D f s'):SP X pins D f s':=by
 cases f with
 |next=>obtain⟨σ',H',I,q⟩:=h;exact⟨σ',H',I.unwish,q⟩
 |brk=>obtain⟨σ',H',I,q⟩:=h;exact⟨σ',H',I.unwish,q⟩
 |cont=>obtain⟨σ',H',I,q⟩:=h;exact⟨σ',H',I.unwish,q⟩
 |ret u=>obtain⟨v,σ',H',I,r,q⟩:=h;exact⟨v,σ',H',I.unwish,r,q⟩
theorem PSs.nox{st:List Stmt}{t:TS}(h:PSs X.nox st t):PSs X st t:=fun pins s σ H D I hw=>
 wpAny_mono (h pins s σ H D (I.wish _) hw) (fun _ _ q=>q.unwish) fun _ _ z=>qA6 z
end
section
variable{X:Cx}{st:Stmt}{rest:List Stmt}{t u:TS}{e:Expr}{te:TE}{pos:Pos}
noncomputable def zWQ:TS:=fun D σ H=>D.nx σ H
noncomputable def tSeq(t u:TS):TS:=fun D σ H=>t { D with nx:=u D } σ H
theorem zBN:PSs X [] zWQ:=fun _ _ σ H _ I h=>wpAny_execs_nil ⟨σ,H,I,h⟩
theorem zA4(h1:PS X st t)(h2:PSs X rest u):PSs X (st::rest) (tSeq t u):=by
 intro pins s σ H D I h;refine wpAny_execs_cons (thn (h1 pins s σ H { D with nx:=u D } I h) fun f s1 q=>?_);cases f with
 |next=>
  obtain⟨σ',H',I',q⟩:=q;exact h2 pins s1 σ' H' D I' q
 |ret v=>exact q
 |brk=>exact q
 |cont=>exact q
theorem zAD(h1:PS X st t):PSs X [st] t:=by
 intro pins s σ H D I h;refine wpAny_execs_cons (thn (h1 pins s σ H D I h) fun f s1 q=>?_);cases f with
 |next=>exact wpAny_execs_nil q
 |ret v=>exact q
 |brk=>exact q
 |cont=>exact q
theorem Inv.quiet{pins:List (Addr×Obj)}{σ:St}{H:Hp}{s:Shared}(I:Inv X pins σ H s):interactive X.env=false:=by simp[interactive,I.ok.kind]
noncomputable def zOO(te:TE):TS:=fun D σ H=>te σ H fun _ H1=>D.nx σ H1
theorem zIW(he:PE X e te)(hs:swapsWith e none pos.line X.env=pure false:=by rfl):PS X (.Expr e pos) (zOO te):=by
 intro pins s σ H D I h;exact wpAny_Expr_any (thn (he pins s σ H _ I h) fun v s1 ⟨x,H1,I1,r1,q1⟩=>⟨σ,H1,I1,q1⟩) I.quiet hs
noncomputable def tRet(te:TE):TS:=fun D σ H=>te σ H D.rt
theorem zAZ(he:PE X e te):PS X (.Return (some e) pos) (tRet te):=by
 intro pins s σ H D I h;exact wpAny_Return_some (thn (he pins s σ H _ I h) fun v s1 ⟨x,H1,I1,r1,q1⟩=>⟨x,σ,H1,I1,r1,q1⟩)
noncomputable def tIfS(c:TT)(t u:TS):TS:=fun D σ H=>c σ H fun b H1=>if b=true then t D σ H1 else u D σ H1
theorem zDO{c:Expr}{a b:List Stmt}{tc:TT}(hc:PT X c tc)(ha:PSs X a t)(hb:PSs X b u):PS X (.If c a b pos) (tIfS tc t u):=by
 intro pins s σ H D I h;refine wpAny_If (thn (hc pins s σ H _ I h) fun d s1 z0=>?_);obtain⟨H1,I1,q1⟩:=z0;cases d with
 |true=>exact ha pins s1 σ H1 D I1 q1
 |false=>exact hb pins s1 σ H1 D I1 q1
end
abbrev TG:=V->St->Hp->(St->Hp->Prop)->Prop
abbrev TGs:=List V->St->Hp->(St->Hp->Prop)->Prop
def PG(X:Cx)(target:Expr)(t:TG):Prop:=
 ∀(pins:List (Addr×Obj))(s:Shared)(σ:St)(H:Hp)(v:V)(u:Value)(Q:St->Hp->Prop),Inv X pins σ H s->RelV v u->t v σ H Q ->
  wpAny (model X.prog X.w) X.A (assign target X.env u) (fun _ s'=>∃σ' H',Inv X pins σ' H' s'/\Q σ' H') X.xe s
def PGs(X:Cx)(ts:List Expr)(t:TGs):Prop:=
 ∀(pins:List (Addr×Obj))(s:Shared)(σ:St)(H:Hp)(vs:List V)(us:List Value)(Q:St->Hp->Prop),Inv X pins σ H s->Vals vs us->t vs σ H Q ->
  wpAny (model X.prog X.w) X.A (assignInOrder ((assignEach ts X.env).map (·.2)) us) (fun _ s'=>∃σ' H',Inv X pins σ' H' s'/\Q σ' H') X.xe s
abbrev TSet:=V->V->V->Hp->(Hp->Prop)->Prop
def PSet(X:Cx)(t:TSet):Prop:=
 ∀(pins:List (Addr×Obj))(s:Shared)(σ:St)(H:Hp)(o i v:V)(ov iv u:Value)(Q:Hp->Prop),Inv X pins σ H s->RelV o ov->RelV i iv->RelV v u->t o i v H Q ->
  wpAny (model X.prog X.w) X.A (setItem ov iv u) (fun _ s'=>∃H',Inv X pins σ H' s'/\Q H') X.xe s
section
variable{X:Cx}{pos:Pos}
noncomputable def zFR(i:Nat):TG:=fun v σ H Q=>Q (σ.set i (some v)) H
theorem zC0{i:Nat}{x:Str}(hN:X.N.Nodup)(hi:X.N[i]?=some x)(hx:Loc X.env.scope x)(hf:X.fn x=true\/X.env.scope.names.lookup x=some .local:=by first|exact .inl rfl|exact .inr rfl|assumption):PG X (.Name x pos) (zFR i):=by
 intro pins s σ H v u Q I r h;exact wpAny_assign_Name (zMJ I hN hi hx r (fun s' I'=>⟨_,H,I',h⟩) hf)
noncomputable def gNil:TGs:=fun vs σ H Q=>vs=[]/\Q σ H
noncomputable def zYA(t:TG)(u:TGs):TGs:=fun vs σ H Q=>∃v r,vs=v::r/\t v σ H fun σ' H'=>u r σ' H' Q
theorem zLK:PGs X [] gNil:=by
 intro pins s σ H vs us Q I r h;obtain⟨e,h⟩:=h;subst e;cases r;exact assignInOrder_nil ⟨σ,H,I,h⟩
theorem zEI{e:Expr}{es:List Expr}{t:TG}{u:TGs}(h1:PG X e t)(h2:PGs X es u)
  (hs:(assignEach (e::es) X.env).map (·.2)=assign e X.env::(assignEach es X.env).map (·.2):=by rfl):PGs X (e::es) (zYA t u):=by
 intro pins s σ H vs us Q I r h;obtain⟨v,vr,e1,h⟩:=h;subst e1;cases r with
 |cons r rr=>
  rw[hs];refine assignInOrder_cons (thn (h1 pins s σ H _ _ _ I r h) fun _ s1 z0=>?_);obtain⟨σ1,H1,I1,q1⟩:=z0;exact h2 pins s1 σ1 H1 _ _ Q I1 rr q1
noncomputable def gTup(K:qA1)(n:Nat)(t:TGs):TG:=fun v σ H Q=>∃a xs,v=.ref a/\SqT K H a xs/\xs.length=n/\t xs σ H Q
theorem zXG{es:List Expr}{k:Nat}{t:TGs}{n:Nat}(hc:X.calm=true)(h:PGs X es t)
  (hn:(assignEach es X.env).length=n:=by rfl) (hst:(assignEach es X.env).findIdx? (·.1)=none:=by rfl):PG X (.Tuple es k pos) (gTup X.K n t):=by
 intro pins s σ H v u Q I r hw;obtain⟨a,xs,e1,hq,hl,hw⟩:=hw;subst e1;cases r;obtain⟨its,rv,ht,hz⟩:=I.tuple hq;refine assign_Tuple_tuple (I.ok.hd hc) ht (by simp[hn,<- hl,rv.length]) hst fun h' hx=>?_
 have I1:Inv X pins σ H { s with heap:=h' }:=I.kept (t':=s.toks) fun b o e=>hx b o (qAp (Heap.lt_size e)) e
 exact h pins _ σ H xs _ Q I1 (by simpa using rv) hw
noncomputable def gSub(to ti:TE)(t:TSet):TG:=fun v σ H Q=>to σ H fun o H1=>ti σ H1 fun i H2=>t o i v H2 fun H3=>Q σ H3
theorem zDI{o i:Expr}{to ti:TE}{t:TSet}(ho:PE X o to)(hi:PE X i ti)(hs:PSet X t)
  (ha:∀v,assign (.Subscript o i pos) X.env v=(do
   let ov <- holding [v] (eval o X.env)
   let iv <- holding [v,ov] (eval i X.env)
   standAt pos
   holding [v,ov,iv] (setItem ov iv v)
   release [v,ov,iv] []):=by intro _;rfl):PG X (.Subscript o i pos) (gSub to ti t):=by
 intro pins s σ H v u Q I r h;rw[ha];refine wpAny_bind (wpAny_holding (thn (ho pins s σ H _ I h) fun ov s1 z0=>?_));obtain⟨x,H1,I1,r1,q1⟩:=z0;refine wpAny_bind (wpAny_holding (thn (hi pins s1 σ H1 _ I1 q1) fun iv s2 z0=>?_));obtain⟨y,H2,I2,r2,q2⟩:=z0;refine wpAny_bind (wpAny_standAt (wpAny_bind (wpAny_holding (thn (hs pins s2 σ H2 x y v ov iv u _ I2 r1 r2 r q2) fun _ s3 z0=>?_))));obtain⟨H3,I3,q3⟩:=z0;exact wpAny_release ⟨σ,H3,I3,q3⟩
noncomputable def tAsg(te:TE)(g:TG):TS:=fun D σ H=>te σ H fun x H1=>g x σ H1 D.nx
theorem zDH{tg e:Expr}{te:TE}{g:TG}(he:PE X e te)(hg:PG X tg g)(hs:swapsWithSole [tg] e pos.line X.env=pure false:=by rfl)(hw:swappedStores [tg] e X.env=pure none:=by rfl)
  (h1:(assignEach [tg] X.env).map (·.2)=[assign tg X.env]:=by rfl):PS X (.Assign [tg] e pos) (tAsg te g):=by
 intro pins s σ H D I h;refine wpAny_Assign_stores (thn (he pins s σ H _ I h) fun v s1 z0=>?_) hs hw;obtain⟨x,H1,I1,r1,q1⟩:=z0;rw[h1];exact thn (hg pins s1 σ H1 x v _ I1 r1 q1) fun _ s2 q=>q
theorem zTI{i:Nat}{x:Str}{e:Expr}{te:TE}{pos':Pos}(hN:X.N.Nodup)(hi:X.N[i]?=some x)(hx:Loc X.env.scope x)(he:PE X e te)(hs:swapsWith e (some (.Name x pos')) pos.line X.env=pure false:=by rfl)(hf:X.fn x=true\/X.env.scope.names.lookup x=some .local:=by first|exact .inl rfl|exact .inr rfl|assumption) :
  PS X (.Assign [.Name x pos'] e pos) (tAsg te (zFR i)):=by
 intro pins s σ H D I h;refine wpAny_Assign_Name (thn (he pins s σ H _ I h) fun v s1 z0=>?_) hs;obtain⟨y,H1,I1,r1,q1⟩:=z0;exact zMJ I1 hN hi hx r1 (fun s2 I2=>⟨_,H1,I2,q1⟩) hf
noncomputable def zOL(c:TT)(tb:TS):TS:=fun D σ H=>∃W:Nat->St->Hp->Prop,(∃m,W m σ H)/\∀m σ H,W m σ H ->
 c σ H fun b H1=>if b=true then ∃N:St->Hp->Prop,(∀σ' H',N σ' H'->∃m',m'<m/\W m' σ' H')/\tb { D with nx:=N,ct:=N,bk:=D.nx } σ H1 else D.nx σ H1
theorem zRQ{c:Expr}{body:List Stmt}{tc:TT}{tb:TS}(hp:PassesOwn (model X.prog X.w) X.A X.env X.xe)(hc:PT X c tc)(hb:PSs X body tb):PS X (.While c body [] pos) (zOL tc tb):=by
 intro pins s σ H D I h;obtain⟨W,⟨m0,w0⟩,turn⟩:=h;refine wpAny_While (codeAny_whileLoop (fun n s'=>∃σ' H',Inv X pins σ' H' s'/\W n σ' H') ?_ m0 ⟨σ,H,I,w0⟩)
 rintro n s1 ⟨σ1,H1,I1,w1⟩
 refine wpAny_passesOwn hp (thn (hc pins s1 σ1 H1 _ I1 (turn n σ1 H1 w1)) fun b s2 z0=>?_);obtain⟨H2,I2,q2⟩:=z0;cases b with
 |true=>
  obtain⟨N,hN,q2⟩:=q2;rw[if_pos rfl];refine wpAny_passesOwn hp (thn (hb pins s2 σ1 H2 _ I2 q2) fun f s3 q3=>?_);cases f with
  |next=>
   obtain⟨σ3,H3,I3,n3⟩:=q3;obtain⟨m',hm,w3⟩:=hN σ3 H3 n3;exact⟨m',hm,σ3,H3,I3,w3⟩
  |cont=>
   obtain⟨σ3,H3,I3,n3⟩:=q3;obtain⟨m',hm,w3⟩:=hN σ3 H3 n3;exact⟨m',hm,σ3,H3,I3,w3⟩
  |brk=>exact q3
  |ret v=>exact q3
 |false=>
  rw[if_neg qAe];exact wpAny_execs_nil ⟨σ1,H2,I2,q2⟩
end
structure It where
 go:Nat->Hp->Prop
 yld:Nat->Hp->V->Hp->Prop
 stop:Nat->Hp->Prop
def FpOk(X:Cx)(pins:List (Addr×Obj))(H:Hp)(b:Addr):Prop:=
 H b=none/\b≠X.env.locals/\b∉X.fs/\(b∈X.ex\/X.s₀.heap.objs.size<=b)/\(∀x c,X.env.cells.lookup x=some c->c≠b)/\∀p∈X.pn++pins,p.1≠b
theorem Inv.fpOk{X:Cx}{pins:List (Addr×Obj)}{σ:St}{H H':Hp}{s:Shared}{b:Addr}(I:Inv X pins σ H s)(hb:s.heap.objs.size<=b)(hn:H' b=none):FpOk X pins H' b:=by
 refine⟨hn,qBo (qAa I.lt hb),I.nofs hb,.inr (qAj I.sz hb),fun x c e z=>?_,fun p hp z=>?_⟩
 ·obtain⟨v,q⟩:=I.cell x c e;exact absurd (qAa q.lt (by rw[z];exact hb)) (qBj _)
 ·exact absurd (qAa (Heap.lt_size (I.pin p hp).1) (by rw[z];exact hb)) (qBj _)
structure Turn(P:Program)(w:World)(K:qA1)(tg:Expr)(J:It)(fp:List Addr)(it:Addr)(tn:Nat->Heap->Prop):Prop where
 mem:it∈fp
 obj:∀i h,tn i h->∀b∈fp,∃o,h.get? b=some o/\∀v,o.data≠.cell v
 keep:∀i h h',tn i h->(∀b∈fp,∀o,h.get? b=some o->h'.get? b=some o)->tn i h'
 item:∀(X:Cx),X.prog=P->X.w=w->X.K=K->X.calm=true->∀(i:Nat)(pins:List (Addr×Obj))(s:Shared)(σ:St)(H:Hp)(E:Value->Shared->Prop),Inv X pins σ H s->(∀b∈fp,FpOk X pins H b)->tn i s.heap->J.go i H ->
  wpAny (model P w) X.A (pyNext (.ref it)) (fun r s1=>∃u,r=some u /\
   wpAny (model P w) X.A (letOwnedTupleGo tg (.ref it) u) (fun _ s2=>∃x H',Inv X pins σ H' s2/\RelV x u/\J.yld i H x H'/\tn (i+1) s2.heap/\∀b∈fp,H' b=none) E s1) E s
 done:∀(X:Cx),X.prog=P->X.w=w->X.K=K->X.calm=true->∀(i:Nat)(pins:List (Addr×Obj))(s:Shared)(σ:St)(H:Hp)(E:Value->Shared->Prop),Inv X pins σ H s->(∀b∈fp,FpOk X pins H b)->tn i s.heap->J.stop i H ->
  wpAny (model P w) X.A (pyNext (.ref it)) (fun r s1=>r=none/\Inv X pins σ H s1) E s
 self:∀(A:Around)(i:Nat)(s:Shared)(Q:Value->Shared->Prop)(E:Value->Shared->Prop),tn i s.heap->Q (.ref it) s->wpAny (model P w) A (pyIter (.ref it)) Q E s
abbrev TI:=St->Hp->(It->Hp->Prop)->Prop
def PIE(X:Cx)(pins:List (Addr×Obj))(σ:St)(tg:Expr)(R:It->Hp->Prop)(itv:Value)(s2:Shared):Prop:=
 ∃(it:Addr)(fp:List Addr)(tn:Nat->Heap->Prop)(J:It)(H':Hp),itv=.ref it/\Inv X pins σ H' s2/\Turn X.prog X.w X.K tg J fp it tn/\tn 0 s2.heap/\(∀b∈fp,FpOk X pins H' b)/\R J H'
def PI(X:Cx)(tg iter:Expr)(wi:TI):Prop:=
 ∀(pins:List (Addr×Obj))(s:Shared)(σ:St)(H:Hp)(R:It->Hp->Prop),Inv X pins σ H s->wi σ H R ->
  wpAny (model X.prog X.w) X.A (eval iter X.env) (fun v s1=>wpAny (model X.prog X.w) X.A (pyIter v) (PIE X pins σ tg R) X.xe s1) X.xe s
theorem zSF{M:Model}{A:Around}{E:Value->Shared->Prop}{s:Shared}{tg:Expr}{it:Addr}{u:Value}{o:Obj}{n:String}{vs:Array Value}{Q:Unit->Shared->Prop}(ho:s.heap.get? it=some o)(hc:o.cls=.type n)(hd:o.data=.fields vs)
  (hn:["enumerate","zip","dict_itemiterator","dict_reverseitemiterator","odict_iterator","itertools.zip_longest","itertools.pairwise"].contains n=false) (hQ:Q () s):wpAny M A (letOwnedTupleGo tg (.ref it) u) Q E s:=by
 unfold letOwnedTupleGo;cases tg<;>first
  |exact wpAny_pure hQ
  |(cases u<;>first
    |exact wpAny_pure hQ
    |(refine wpAny_bind (wpAny_load ho ?_)
      rw[hc,hd];show wpAny M A (if(["enumerate","zip","dict_itemiterator","dict_reverseitemiterator","odict_iterator","itertools.zip_longest","itertools.pairwise"].contains n&&vs[0]?==some (rawInt _))=true then _ else _) Q E s;rw[if_neg (by intro h;rw[hn,qFm]at h;cases h)];exact wpAny_pure hQ))
noncomputable def Itl(K:qA1)(a:Addr):It:=
 ⟨fun i H=>∃xs x,SqL K H a xs/\xs[i]?=some x,fun i H x H'=>H'=H/\∀xs,SqL K H a xs->xs[i]?=some x,fun i H=>∃xs,SqL K H a xs/\xs.length<=i⟩
noncomputable def Itt(K:qA1)(a:Addr):It:=
 ⟨fun i H=>∃xs x,SqT K H a xs/\xs[i]?=some x,fun i H x H'=>H'=H/\∀xs,SqT K H a xs->xs[i]?=some x,fun i H=>∃xs,SqT K H a xs/\xs.length<=i⟩
noncomputable def Itr(lo:Int)(n:Nat):It:=⟨fun i _=>i<n,fun i H x H'=>H'=H/\x=.int (lo+i),fun i _=>n<=i⟩
theorem zOI{P:Program}{w:World}{K:qA1}{tg:Expr}(a it:Addr):Turn P w K tg (Itl K a) [it] it (fun i h=>h.IsListIter it a i) where
 mem:=by simp
 obj:=fun i h st b hb=>by
  have e:b=it:=by simpa using hb
  subst e;obtain⟨o,e,c,d⟩:=st;exact⟨o,e,fun v z=>by rw[d]at z;cases z⟩
 keep:=fun i h h' st k=>st.at fun o e=>k it (by simp) o e
 item:=by
  intro X hP hw hK hc i pins s σ H E I hf st hg;subst hP hw hK;obtain⟨xs,x,hq,hx⟩:=hg;obtain⟨its,rv,p,hz⟩:=I.list hq;obtain⟨u,hu,ru⟩:=rv.get hx;obtain⟨f0,f1,f2,f3,f4,f5⟩:=hf it (by simp);refine wpAny_pyNext_list_item st p.isList (x:=u) (by simpa using hu) fun h' st' sb=>?_
  have I1:Inv X pins σ H { s with heap:=h' }:=I.turned (t':=s.toks) (fun b o hb e=>(sb.2 b hb).trans e) f0 f1 f3 f4 f5;obtain⟨o,e,c,d⟩:=id st';exact⟨u,rfl,zSF (s:={ s with heap:=h' }) e c d (by decide) ⟨x,H,I1,ru,⟨rfl,fun ys hy=>by rw[I.list_inj hy hq];exact hx⟩,st',fun b hb=>(hf b hb).1⟩⟩
 done:=by
  intro X hP hw hK hc i pins s σ H E I hf st hg;subst hP hw hK;obtain⟨xs,hq,hx⟩:=hg;obtain⟨its,rv,p,hz⟩:=I.list hq;obtain⟨f0,f1,f2,f3,f4,f5⟩:=hf it (by simp);have hl:=rv.length;exact wpAny_pyNext_list_end (I.ok.hd hc) st p.isList (by simp;lia) fun h' eb=>⟨rfl,I.turned (t':=s.toks) (fun b o hb e=>eb b o hb e) f0 f1 f3 f4 f5⟩
 self:=fun _ _ _ _ _ st h=>wpAny_pyIter_listiter st h
theorem zNJ{P:Program}{w:World}{K:qA1}{tg:Expr}(a it:Addr):Turn P w K tg (Itt K a) [it] it (fun i h=>h.IsTupleIter it a i) where
 mem:=by simp
 obj:=fun i h st b hb=>by
  have e:b=it:=by simpa using hb
  subst e;obtain⟨o,e,c,d⟩:=st;exact⟨o,e,fun v z=>by rw[d]at z;cases z⟩
 keep:=fun i h h' st k=>st.at fun o e=>k it (by simp) o e
 item:=by
  intro X hP hw hK hc i pins s σ H E I hf st hg;subst hP hw hK;obtain⟨xs,x,hq,hx⟩:=hg;obtain⟨its,rv,p,hz⟩:=I.tuple hq;obtain⟨u,hu,ru⟩:=rv.get hx;obtain⟨f0,f1,f2,f3,f4,f5⟩:=hf it (by simp);refine wpAny_pyNext_tuple_item st (show s.heap.IsTuple a its.toArray from p) (x:=u) (by simpa using hu) fun h' st' sb=>?_
  have I1:Inv X pins σ H { s with heap:=h' }:=I.turned (t':=s.toks) (fun b o hb e=>(sb.2 b hb).trans e) f0 f1 f3 f4 f5;obtain⟨o,e,c,d⟩:=id st';exact⟨u,rfl,zSF (s:={ s with heap:=h' }) e c d (by decide) ⟨x,H,I1,ru,⟨rfl,fun ys hy=>by rw[I.tuple_inj hy hq];exact hx⟩,st',fun b hb=>(hf b hb).1⟩⟩
 done:=by
  intro X hP hw hK hc i pins s σ H E I hf st hg;subst hP hw hK;obtain⟨xs,hq,hx⟩:=hg;obtain⟨its,rv,p,hz⟩:=I.tuple hq;obtain⟨f0,f1,f2,f3,f4,f5⟩:=hf it (by simp);have hl:=rv.length;exact wpAny_pyNext_tuple_end (I.ok.hd hc) st (show s.heap.IsTuple a its.toArray from p) (by simp;lia) fun h' eb=>⟨rfl,I.turned (t':=s.toks) (fun b o hb e=>eb b o hb e) f0 f1 f3 f4 f5⟩
 self:=fun _ _ _ _ _ st h=>wpAny_pyIter_tupleiter st h
theorem zNK{P:Program}{w:World}{K:qA1}{tg:Expr}(it:Addr)(lo:Int)(n:Nat):Turn P w K tg (Itr lo n) [it] it (fun i h=>IsRangeIter h it (lo+(i:Nat)*1) ((n:Int)-(i:Nat)) 1) where
 mem:=by simp
 obj:=fun i h st b hb=>by
  have e:b=it:=by simpa using hb
  subst e;exact⟨_,st,fun v z=>by
   have z':Data.fields _=Data.cell v:=z;cases z'⟩
 keep:=fun i h h' st k=>k it (by simp) _ st
 item:=by
  intro X hP hw hK hc i pins s σ H E I hf st hg;subst hP hw hK;obtain⟨f0,f1,f2,f3,f4,f5⟩:=hf it (by simp);have W:=Walks.range (prog:=X.prog) (w:=X.w) (I.ok.hd hc) it lo 1 n;refine W.item i s _ _ hg st fun v h' tk hv st' kk=>?_
  obtain⟨t,rfl⟩:=hv;have I1:Inv X pins σ H { s with heap:=h',toks:=tk }:=I.turned (fun b o hb e=>kk b o (by simpa using hb) e) f0 f1 f3 f4 f5;refine⟨_,rfl,zSF (s:={ s with heap:=h',toks:=tk }) (n:="range_iterator") st' rfl rfl (by decide) ⟨.int (lo+i),H,I1,⟨t,?_⟩,⟨rfl,rfl⟩,st',fun b hb=>(hf b hb).1⟩⟩;rw[qBz]
 done:=by
  intro X hP hw hK hc i pins s σ H E I hf st hg;subst hP hw hK;obtain⟨f0,f1,f2,f3,f4,f5⟩:=hf it (by simp);exact wpAny_pyNext_range_end (I.ok.hd hc) st (by have:n<=i:=hg;lia) fun h' eb=>⟨rfl,I.turned (t':=s.toks) (fun b o hb e=>eb b o hb e) f0 f1 f3 f4 f5⟩
 self:=fun _ _ _ _ _ st h=>wpAny_pyIter_rangeiter st h
end L2
namespace L2
open PySem PySem.Spec PyProof.Rows
section
variable{X:Cx}{tg:Expr}
theorem zMO{pins:List (Addr×Obj)}{σ:St}{H:Hp}{s:Shared}{R:It->Hp->Prop}{E:Value->Shared->Prop}{lo hi:Int}{t u v:Tok}{tk:Nat}(I:Inv X pins σ H s)(h1:-(2 ^ 62)<=lo)(h2:lo<2 ^ 62)(h3:-(2 ^ 62)<=hi)(h4:hi<2 ^ 62)
  (q:R (Itr lo (hi-lo).toNat) H):wpAny (model X.prog X.w) X.A (pyIter (.ref s.heap.objs.size)) (PIE X pins σ tg R) E { s with heap:=s.heap.push { cls:=.type "range",data:=.fields #[.int lo t,.int hi u,.int 1 v] },toks:=tk }:=by
 refine wpAny_pyIter_range (IsRange.new ..) (small_one h1 h2 h3 h4) ?_;have I1:Inv X pins σ H { s with heap:=s.heap.push { cls:=.type "range",data:=.fields #[.int lo t,.int hi u,.int 1 v] },toks:=tk }:=I.kept fun b o e=>Heap.get?_push_of_some _ e
 refine⟨(s.heap.push { cls:=.type "range",data:=.fields #[.int lo t,.int hi u,.int 1 v] }).objs.size,[(s.heap.push { cls:=.type "range",data:=.fields #[.int lo t,.int hi u,.int 1 v] }).objs.size],_,_,H,rfl,
  I1.kept (t':=tk) fun b o e=>Heap.get?_push_of_some _ e,zNK _ lo (hi-lo).toNat,?_,fun b hb=>?_,q⟩
 ·have e1:lo+((0:Nat):Int)*1=lo:=by simp
  have e2:(((hi-lo).toNat:Nat):Int)-((0:Nat):Int)=Builtin.Range.rangeSize lo hi 1:=by rw[rangeSize_one];split<;>lia
  show IsRangeIter _ _ (lo+((0:Nat):Int)*1) ((((hi-lo).toNat:Nat):Int)-((0:Nat):Int)) 1;rw[e1,e2];exact Heap.get?_push_size _ rfl
 ·have e:b=(s.heap.push { cls:=.type "range",data:=.fields #[.int lo t,.int hi u,.int 1 v] }).objs.size:=by simpa using hb
  subst e;exact I1.fpOk (qA5 _) (I1.hok.fresh (qA5 _))
def zY8(ta:TA):TI:=fun σ H R=>ta σ H fun vs H1=>∃j:Int,vs=[.int j]/\-(2 ^ 62)<=j/\j<2 ^ 62/\R (Itr 0 j.toNat) H1
def zY7(ta:TA):TI:=fun σ H R=>ta σ H fun vs H1=>∃i j:Int,vs=[.int i,.int j]/\(-(2 ^ 62)<=i/\i<2 ^ 62/\-(2 ^ 62)<=j/\j<2 ^ 62)/\R (Itr i (j-i).toNat) H1
theorem zAN{a:Expr}{ta:TA}{p pos:Pos}(hg:Gl X "range")(hm:X.mg "range" = none)(ha:PA X [a] ta)(hs:starEach [a] X.env=[(false,eval a X.env)]:=by rfl):PI X tg (.Call (.Name "range" p) [a] [] pos) (zY8 ta):=by
 intro pins s σ H R I h;refine Call_ (zH8 I hg hm boot_range (qB6 (thn (ha pos pins s σ H _ I h) fun us s1 z0=>?_) hs rfl));obtain⟨vs,H1,I1,r1,q1⟩:=z0;obtain⟨j,e,q1,q2,q⟩:=q1;subst e;cases r1 with
 |cons r rr=>
  cases rr;obtain⟨t,rfl⟩:=r;exact call_range_1 (zMO I1 (by lia) (by lia) q1 q2 (by simpa using q))
theorem zK3{a b:Expr}{ta:TA}{p pos:Pos}(hg:Gl X "range")(hm:X.mg "range" = none)(ha:PA X [a,b] ta)(hs:starEach [a,b] X.env=[(false,eval a X.env),(false,eval b X.env)]:=by rfl)(hs2:starEach [b] X.env=[(false,eval b X.env)]:=by rfl) :
  PI X tg (.Call (.Name "range" p) [a,b] [] pos) (zY7 ta):=by
 intro pins s σ H R I h;refine Call_ (zH8 I hg hm boot_range (qB6 (thn (ha pos pins s σ H _ I h) fun us s1 z0=>?_) (by rw[hs,hs2]) (by rw[hs2];rfl)));obtain⟨vs,H1,I1,r1,q1⟩:=z0;obtain⟨i,j,e,⟨q1,q2,q3,q4⟩,q⟩:=q1;subst e;cases r1 with
 |cons r rr=>
  cases rr with
  |cons r' rr=>
   cases rr;obtain⟨t,rfl⟩:=r;obtain⟨t',rfl⟩:=r';exact call_range_2 (zMO I1 q1 q2 q3 q4 q)
noncomputable def tFor(wi:TI)(g:TG)(tb:TS):TS:=fun D σ H=>wi σ H fun J H1=>∃W:Nat->Nat->St->Hp->Prop,(∃m,W 0 m σ H1)/\∀i m σ H,W i m σ H ->
 (J.stop i H/\D.nx σ H)\/(J.go i H/\∃N:St->Hp->Prop,(∀σ' H',N σ' H'->∃m',m'<m/\W (i+1) m' σ' H')/\∀x H',J.yld i H x H'->g x σ H' fun σ2 H2=>tb { D with nx:=N,ct:=N,bk:=D.nx } σ2 H2)
noncomputable def zI5(fp:List Addr)(h:Heap):List (Addr×Obj):=fp.filterMap fun b=>(h.get? b).map fun o=>(b,o)
theorem zEJ{fp:List Addr}{h:Heap}{b:Addr}{o:Obj}(hb:b∈fp)(e:h.get? b=some o):(b,o)∈zI5 fp h:=qEh.mpr ⟨b,hb,by rw[e];rfl⟩
theorem zPK{fp:List Addr}{h:Heap}{p:Addr×Obj}(hp:p∈zI5 fp h):p.1∈fp/\h.get? p.1=some p.2:=by
 obtain⟨b,hb,e⟩:=qEh.mp hp;cases q:h.get? b with
 |none=>rw[q]at e;cases e
 |some o=>
  rw[q]at e;have e':(b,o)=p:=qAx e;subst e';exact⟨hb,q⟩
theorem Inv.pinned{pins:List (Addr×Obj)}{σ:St}{H:Hp}{s:Shared}{fp:List Addr}(I:Inv X pins σ H s)(hf:∀b∈fp,FpOk X pins H b)(ho:∀b∈fp,∃o,s.heap.get? b=some o/\∀v,o.data≠.cell v):Inv X (pins++zI5 fp s.heap) σ H s:=
 I.pins_of fun p hp=>(qAs.mp hp).elim (fun z=>I.pin p (qAn _ z)) fun z=>by
  obtain⟨hb,e⟩:=zPK z;obtain⟨f0,f1,f2,_⟩:=hf p.1 hb;obtain⟨o,e',d⟩:=ho p.1 hb;rw[e]at e';cases e';exact⟨e,f0,f1,f2,d⟩
theorem Inv.unpinned{pins pl:List (Addr×Obj)}{σ:St}{H:Hp}{s:Shared}(I:Inv X (pins++pl) σ H s):Inv X pins σ H s:=I.pins_of fun p hp=>I.pin p (qAn _ (qB8 _ hp))
theorem zXE{iter:Expr}{body:List Stmt}{wi:TI}{g:TG}{tb:TS}{pos:Pos}(hp:PassesOwn (model X.prog X.w) X.A X.env X.xe)(hc:X.calm=true)(hi:PI X tg iter wi)(hg:PG X tg g)(hb:PSs X body tb)
  (hs:∀x,foldedSetIterable iter X.env x=pure x:=by intro _;rfl):PS X (.For tg iter body [] pos) (tFor wi g tb):=by
 intro pins s σ H D I h;refine wpAny_For (thn (hi pins s σ H _ I h) fun v s1 h1=>thn h1 fun itv s2 h2=>?_) hs;obtain⟨it,fp,tn,J,H2,e,I2,T,st2,f2,W,⟨m0,w0⟩,turn⟩:=h2;subst e;have stat:∀{H':Hp},(∀b∈fp,H' b=none)->∀b∈fp,FpOk X pins H' b:=fun hn b hb=>⟨hn b hb,(f2 b hb).2⟩
 refine codeAny_forLoop_any (fun n s'=>∃i σ' H',Inv X pins σ' H' s'/\tn i s'.heap/\(∀b∈fp,H' b=none)/\W i n σ' H') ?_ m0 ⟨0,σ,H2,I2,st2,fun b hb=>(f2 b hb).1,w0⟩
 rintro n s3 ⟨i,σ3,H3,I3,st3,fr3,w3⟩
 rcases turn i n σ3 H3 w3 with⟨stop,qn⟩|⟨go,N,hN,step⟩
 ·refine wpAny_passesOwn hp (thn (T.done X rfl rfl rfl hc i pins s3 σ3 H3 X.xe I3 (stat fr3) st3 stop) fun r s4 z0=>?_);obtain⟨hr,I4⟩:=z0;subst hr;exact wpAny_execs_nil ⟨σ3,H3,I4,qn⟩
 ·refine wpAny_passesOwn hp (thn (T.item X rfl rfl rfl hc i pins s3 σ3 H3 X.xe I3 (stat fr3) st3 go) fun r s4 z0=>?_);obtain⟨u,hr,h4⟩:=z0;subst hr;refine wpAny_passesOwn hp (thn h4 fun _ s5 z0=>?_);obtain⟨x,H5,I5,r5,y5,st5,fr5⟩:=z0;have I5':=I5.pinned (stat fr5) (T.obj _ _ st5);refine wpAny_passesOwn hp (thn (hg _ s5 σ3 H5 x u _ I5' r5 (step x H5 y5)) fun _ s6 z0=>?_);obtain⟨σ6,H6,I6,q6⟩:=z0;refine wpAny_passesOwn hp (thn (hb _ s6 σ6 H6 _ I6 q6) fun f s7 q7=>?_);have again:∀{σ7:St}{H7:Hp},Inv X (pins++zI5 fp s5.heap) σ7 H7 s7->N σ7 H7->∃m,m<n/\∃i σ' H',Inv X pins σ' H' s7/\tn i s7.heap/\(∀b∈fp,H' b=none)/\W i m σ' H':=fun{σ7 H7} I7 n7=>by
   obtain⟨m',hm,w7⟩:=hN σ7 H7 n7;refine⟨m',hm,i+1,σ7,H7,I7.unpinned,T.keep _ _ _ st5 fun b hb o e=>(I7.pin (b,o) (qAn _ (qAn _ (zEJ hb e)))).1,fun b hb=>?_,w7⟩;obtain⟨o,e,d⟩:=T.obj _ _ st5 b hb;exact(I7.pin (b,o) (qAn _ (qAn _ (zEJ hb e)))).2.1
  cases f with
  |next=>obtain⟨σ7,H7,I7,n7⟩:=q7;exact again I7 n7
  |cont=>obtain⟨σ7,H7,I7,n7⟩:=q7;exact again I7 n7
  |brk=>obtain⟨σ7,H7,I7,q7⟩:=q7;exact⟨σ7,H7,I7.unpinned,q7⟩
  |ret v=>obtain⟨x7,σ7,H7,I7,r7,q7⟩:=q7;exact⟨x7,σ7,H7,I7.unpinned,r7,q7⟩
end
end L2
namespace L2
open PySem PySem.Spec PyProof.Rows
abbrev R2:=V->V->Hp->VK->Prop
def OpR(X:Cx)(f:Value->Value->Sem Value)(r:R2):Prop:=
 ∀(pins:List (Addr×Obj))(s:Shared)(σ:St)(H:Hp)(x y:V)(v u:Value)(Q:VK),Inv X pins σ H s->RelV x v->RelV y u->r x y H Q ->
  wpAny (model X.prog X.w) X.A (f v u) (EP X pins σ Q) X.xe s
def zDM(X:Cx)(f:Value)(r:List V->Hp->VK->Prop):Prop:=
 ∀(pins:List (Addr×Obj))(s:Shared)(σ:St)(H:Hp)(xs:List V)(us:List Value)(Q:VK),Inv X pins σ H s->Vals xs us->r xs H Q ->
  wpAny (model X.prog X.w) X.A (call f us) (EP X pins σ Q) X.xe s
def TruR(X:Cx)(r:V->Hp->(Bool->Hp->Prop)->Prop):Prop:=
 ∀(pins:List (Addr×Obj))(s:Shared)(σ:St)(H:Hp)(x:V)(v:Value)(Q:Bool->Hp->Prop),Inv X pins σ H s->RelV x v->r x H Q ->
  wpAny (model X.prog X.w) X.A (truthy v) (TP X pins σ Q) X.xe s
noncomputable def tOp(r:R2)(ta tb:TE):TE:=fun σ H Q=>ta σ H fun x H1=>tb σ H1 fun y H2=>r x y H2 Q
noncomputable def rI(C:Int->Int->Prop)(g:Int->Int->V):R2:=fun x y H Q=>∃i j,x=.int i/\y=.int j/\C i j/\Q (g i j) H
noncomputable def rI0(g:Int->Int->V):R2:=fun x y H Q=>∃i j,x=.int i/\y=.int j/\Q (g i j) H
section
variable{X:Cx}{a b c:Expr}{ta tb tc:TE}{pos:Pos}
theorem binT(ha:PE X a ta)(hb:PE X b tb){pins:List (Addr×Obj)}{s:Shared}{σ:St}{H:Hp}{R:V->V->Hp->Prop}(I:Inv X pins σ H s)
  (h:ta σ H fun x H1=>tb σ H1 fun y H2=>R x y H2) {Q:Value->Shared->Prop} {f:Value->Value->Sem Value}
  (hf:∀v u s2 x y H2,Inv X pins σ H2 s2->RelV x v->RelV y u->R x y H2->wpAny (model X.prog X.w) X.A (f v u) Q X.xe s2) :
  wpAny (model X.prog X.w) X.A (eval a X.env) (fun v s₁=>wpAny (model X.prog X.w) X.A (eval b X.env) (fun u s₂=>wpAny (model X.prog X.w) X.A (f v u) Q X.xe s₂) X.xe s₁) X.xe s:=by
 refine thn (ha pins s σ H _ I h) fun v s1 z0=>?_
 obtain⟨x,H1,I1,r1,q1⟩:=z0;refine thn (hb pins s1 σ H1 _ I1 q1) fun u s2 z0=>?_
 obtain⟨y,H2,I2,r2,q2⟩:=z0;exact hf v u s2 x y H2 I2 r1 r2 q2
theorem zAO{op:Operator}{r:R2}(ho:OpR X (binaryOp op) r)(ha:PE X a ta)(hb:PE X b tb):PE X (.BinOp a op b pos) (tOp r ta tb):=by
 intro pins s σ H Q I h;exact wpAny_BinOp (binT ha hb I h fun v u s2 x y H2 I2 rx ry q=>ho pins s2 σ H2 x y v u Q I2 rx ry q)
theorem opI{f:Value->Value->Sem Value}{C:Int->Int->Prop}{g:Int->Int->Int}
  (rule:∀(i j:Int)(t u:Tok)(s:Shared)(Q:Value->Shared->Prop)(E:Value->Shared->Prop),C i j->Q (.int (g i j) s.toks) { s with toks:=s.toks+1 }->wpAny (model X.prog X.w) X.A (f (.int i t) (.int j u)) Q E s) :
  OpR X f (rI C fun i j=>.int (g i j)):=by
 intro pins s σ H x y v u Q I rx ry h;obtain⟨i,j,rfl,rfl,hc,q⟩:=h;obtain⟨t,rfl⟩:=rx;obtain⟨t',rfl⟩:=ry;exact rule i j t t' s _ _ hc ⟨.int (g i j),H,I.tok _,⟨_,rfl⟩,q⟩
theorem opI0{f:Value->Value->Sem Value}{g:Int->Int->Int}
  (rule:∀(i j:Int)(t u:Tok)(s:Shared)(Q:Value->Shared->Prop)(E:Value->Shared->Prop),Q (.int (g i j) s.toks) { s with toks:=s.toks+1 }->wpAny (model X.prog X.w) X.A (f (.int i t) (.int j u)) Q E s) :
  OpR X f (rI0 fun i j=>.int (g i j)):=by
 intro pins s σ H x y v u Q I rx ry h;obtain⟨i,j,rfl,rfl,q⟩:=h;obtain⟨t,rfl⟩:=rx;obtain⟨t',rfl⟩:=ry;exact rule i j t t' s _ _ ⟨.int (g i j),H,I.tok _,⟨_,rfl⟩,q⟩
theorem opB0{f:Value->Value->Sem Value}{g:Int->Int->Bool}
  (rule:∀(i j:Int)(t u:Tok)(s:Shared)(Q:Value->Shared->Prop)(E:Value->Shared->Prop),Q (.bool (g i j)) s->wpAny (model X.prog X.w) X.A (f (.int i t) (.int j u)) Q E s) :
  OpR X f (rI0 fun i j=>.bl (g i j)):=by
 intro pins s σ H x y v u Q I rx ry h;obtain⟨i,j,rfl,rfl,q⟩:=h;obtain⟨t,rfl⟩:=rx;obtain⟨t',rfl⟩:=ry;exact rule i j t t' s _ _ ⟨.bl (g i j),H,I,rfl,q⟩
def CPow(i j:Int):Prop:=0<=j/\j<=1000000/\i.natAbs<2 ^ 64
def CMul(i j:Int):Prop:=(-(2 ^ 64)<i/\i<2 ^ 64)\/(-(2 ^ 64)<j/\j<2 ^ 64)
theorem CMul.ok{i j:Int}(h:CMul i j):IntMulOk i j:=by
 rcases h with⟨h1,h2⟩|⟨h1,h2⟩
 ·exact .of_left (intBits_le_64 h1 h2)
 ·exact .of_right (intBits_le_64 h1 h2)
theorem zXR:OpR X (binaryOp .Add) (rI0 fun i j=>.int (i+j)):=opI0 fun _ _ _ _ _ _ _ q=>add_int q
theorem zXL:OpR X (binaryOp .Sub) (rI0 fun i j=>.int (i-j)):=opI0 fun _ _ _ _ _ _ _ q=>sub_int q
theorem zXO:OpR X (binaryOp .Mod) (rI (fun _ j=>0<j) fun i j=>.int (i%j)):=opI fun i j _ _ _ _ _ hc q=>by
 have h1:(0:Int)<j:=hc;exact mod_int' (by lia) (by rw[Int.fmod_eq_emod_of_nonneg i (by lia)];exact q)
theorem zXM:OpR X (binaryOp .Pow) (rI CPow fun i j=>.int (i ^ j.toNat)):=opI fun _ _ _ _ _ _ _ hc q=>pow_int_small hc.1 hc.2.1 hc.2.2 q
theorem zXK:OpR X (binaryOp .BitXor) (rI0 fun i j=>.int (Builtin.bitXor i j)):=opI0 fun _ _ _ _ _ _ _ q=>xor_int q
end
noncomputable def scal:V->V->Bool
 |.non,.non=>true | .non,.int _=>true | .int _,.non=>true | .non,.bl _=>true | .bl _,.non=>true | .non,.str _=>true | .str _,.non=>true
 |.int _,.int _=>true | .bl _,.bl _=>true | .str _,.str _=>true | .byt _,.byt _=>true
 |.int _,.str _=>true | .str _,.int _=>true | .bl _,.str _=>true | .str _,.bl _=>true
 |_,_=>false
def rEq:R2:=fun x y H Q=>scal x y=true/\Q (.bl (decide (x=y))) H
def rNe:R2:=fun x y H Q=>scal x y=true/\Q (.bl (!decide (x=y))) H
theorem zQD{i j:Int}:decide (V.int i=V.int j)=(i==j):=by
 rw[qCs];simp
theorem dec_bl{i j:Bool}:decide (V.bl i=V.bl j)=(i==j):=by
 rw[qCs];simp
theorem zQC{i j:Str}:decide (V.str i=V.str j)=(i==j):=by
 rw[qCs];simp
theorem zQE{i j:Array UInt8}:decide (V.byt i=V.byt j)=(i.toList==j.toList):=by
 rw[qCs];cases i;cases j;simp
section
variable{X:Cx}{a b c:Expr}{ta tb tc:TE}{pos:Pos}
theorem fin_bl{pins:List (Addr×Obj)}{σ:St}{H:Hp}{s:Shared}{Q:VK}{k k':Bool}(I:Inv X pins σ H s)(q:Q (.bl k) H)(e:k=k'):EP X pins σ Q (.bool k') s:=by
 subst e;exact⟨.bl k,H,I,rfl,q⟩
theorem zZM:OpR X (compareOp .Eq) rEq:=by
 intro pins s σ H x y v u Q I rx ry h;obtain⟨hs,q⟩:=h;cases x with
 |non=>
  cases rx;cases y with
  |non=>cases ry;exact qFn (fin_bl I q (by simp))
  |bl j=>cases ry;exact qFo (fin_bl I q (by simp))
  |int j=>obtain⟨t',rfl⟩:=ry;exact qG0 (fin_bl I q (by simp))
  |str j=>obtain⟨t',rfl⟩:=ry;exact qG1 (fin_bl I q (by simp))
  |_=>exact absurd (show false=true from hs) qAe
 |bl i=>
  cases rx;cases y with
  |non=>cases ry;exact qFp (fin_bl I q (by simp))
  |bl j=>cases ry;exact eq_bool (fin_bl I q dec_bl)
  |str j=>obtain⟨t',rfl⟩:=ry;exact qFq (fin_bl I q (by simp))
  |_=>exact absurd (show false=true from hs) qAe
 |int i=>
  obtain⟨t,rfl⟩:=rx;cases y with
  |non=>cases ry;exact qG2 (fin_bl I q (by simp))
  |int j=>obtain⟨t',rfl⟩:=ry;exact eq_int (fin_bl I q zQD)
  |str j=>obtain⟨t',rfl⟩:=ry;exact qG3 (fin_bl I q (by simp))
  |_=>exact absurd (show false=true from hs) qAe
 |str i=>
  obtain⟨t,rfl⟩:=rx;cases y with
  |non=>cases ry;exact qG4 (fin_bl I q (by simp))
  |bl j=>cases ry;exact qFr (fin_bl I q (by simp))
  |int j=>obtain⟨t',rfl⟩:=ry;exact qG5 (fin_bl I q (by simp))
  |str j=>obtain⟨t',rfl⟩:=ry;exact eq_str (fin_bl I q zQC)
  |_=>exact absurd (show false=true from hs) qAe
 |byt i=>
  obtain⟨t,rfl⟩:=rx;cases y with
  |byt j=>obtain⟨t',rfl⟩:=ry;exact PySem.W.eq_bytes (fin_bl I q zQE)
  |_=>exact absurd (show false=true from hs) qAe
 |_=>cases y<;>exact absurd (show false=true from hs) qAe
theorem zZI:OpR X (compareOp .NotEq) rNe:=by
 intro pins s σ H x y v u Q I rx ry h;obtain⟨hs,q⟩:=h;cases x with
 |non=>
  cases rx;cases y with
  |non=>cases ry;exact qFs (fin_bl I q (by simp))
  |bl j=>cases ry;exact qFt (fin_bl I q (by simp))
  |int j=>obtain⟨t',rfl⟩:=ry;exact qG6 (fin_bl I q (by simp))
  |str j=>obtain⟨t',rfl⟩:=ry;exact qG7 (fin_bl I q (by simp))
  |_=>exact absurd (show false=true from hs) qAe
 |bl i=>
  cases rx;cases y with
  |non=>cases ry;exact qFu (fin_bl I q (by simp))
  |bl j=>cases ry;exact ne_bool (fin_bl I q (congrArg not dec_bl))
  |str j=>obtain⟨t',rfl⟩:=ry;exact qFv (fin_bl I q (by simp))
  |_=>exact absurd (show false=true from hs) qAe
 |int i=>
  obtain⟨t,rfl⟩:=rx;cases y with
  |non=>cases ry;exact qG8 (fin_bl I q (by simp))
  |int j=>obtain⟨t',rfl⟩:=ry;exact ne_int (fin_bl I q (congrArg not zQD))
  |str j=>obtain⟨t',rfl⟩:=ry;exact qG9 (fin_bl I q (by simp))
  |_=>exact absurd (show false=true from hs) qAe
 |str i=>
  obtain⟨t,rfl⟩:=rx;cases y with
  |non=>cases ry;exact qGa (fin_bl I q (by simp))
  |bl j=>cases ry;exact qFw (fin_bl I q (by simp))
  |int j=>obtain⟨t',rfl⟩:=ry;exact qGb (fin_bl I q (by simp))
  |str j=>obtain⟨t',rfl⟩:=ry;exact ne_str (fin_bl I q (congrArg not zQC))
  |_=>exact absurd (show false=true from hs) qAe
 |byt i=>
  obtain⟨t,rfl⟩:=rx;cases y with
  |byt j=>obtain⟨t',rfl⟩:=ry;exact PySem.W.ne_bytes (fin_bl I q (congrArg not zQE))
  |_=>exact absurd (show false=true from hs) qAe
 |_=>cases y<;>exact absurd (show false=true from hs) qAe
theorem zZJ:OpR X (compareOp .Lt) (rI0 fun i j=>.bl (decide (i<j))):=opB0 fun _ _ _ _ _ _ _ q=>lt_int q
theorem zZK:OpR X (compareOp .LtE) (rI0 fun i j=>.bl (decide (i<=j))):=opB0 fun _ _ _ _ _ _ _ q=>le_int q
theorem zZL:OpR X (compareOp .Gt) (rI0 fun i j=>.bl (decide (j<i))):=opB0 fun _ _ _ _ _ _ _ q=>gt_int q
theorem zPH:OpR X (compareOp .In) (fun x y H Q=>∃i j,x=.str i/\y=.str j/\Q (.bl (!(Builtin.Str.occurrences j i 0 j.length 1).isEmpty)) H):=by
 intro pins s σ H x y v u Q I rx ry h;obtain⟨i,j,rfl,rfl,q⟩:=h;obtain⟨t,rfl⟩:=rx;obtain⟨t',rfl⟩:=ry;exact in_str (fin_bl I q rfl)
theorem zV3:OpR X (compareOp .IsNot) (fun x y H Q=>y=.non/\Q (.bl (!decide (x=.non))) H):=by
 intro pins s σ H x y v u Q I rx ry h;obtain⟨rfl,q⟩:=h;cases ry;refine isnot_none_gen (fin_bl I q ?_);cases x<;>first
  |(cases rx;rfl)
  |(obtain⟨t,rfl⟩:=rx;rfl)
theorem zB0(b:Expr){op:CmpOp}(h:op≠.In:=by decide)(h2:op≠.NotIn:=by decide):behindInMarks op b=false:=by
 have e1:(op==CmpOp.In)=false:=by cases op<;>first|rfl|exact absurd rfl h
 have e2:(op==CmpOp.NotIn)=false:=by cases op<;>first|rfl|exact absurd rfl h2
 cases b<;>simp[behindInMarks,e1,e2]
theorem zDP{op:CmpOp}{r:R2}(ho:OpR X (compareOp op) r)(ha:PE X a ta)(hb:PE X b tb)(hm:behindInMarks op b=false):PE X (.Compare a [op] [b] pos) (tOp r ta tb):=by
 intro pins s σ H Q I h;exact wpAny_Compare1 (binT ha hb I h fun v u s2 x y H2 I2 rx ry q=>ho pins s2 σ H2 x y v u Q I2 rx ry q) hm
def TruV(K:qA1)(x:V)(H:Hp)(k:Bool):Prop:=
 match x with
 |.non=>k=false
 |.bl b=>k=b
 |.int i=>k=(i != 0)
 |.str y=>y.length<=sizeLine/\k=((y.length:Int) != 0)
 |.byt y=>y.size<=sizeLine/\k=((y.size:Int) != 0)
 |.ref p=>(∃xs,SqL K H p xs/\k = !xs.isEmpty)\/(∃xs,SqT K H p xs/\k = !xs.isEmpty)\/∃kvs,H p=some (.dK kvs)/\k = !kvs.isEmpty
 |_=>False
theorem zO2{κ:Type}{kvs:List (κ×V)}{vs:List (κ×Value)}(r:KV kvs vs):(!vs.isEmpty) = !kvs.isEmpty:=by
 cases r<;>rfl
theorem zIB{xs:List V}{its:List Value}(r:Vals xs its):(!its.toArray.isEmpty) = !xs.isEmpty:=by
 cases r<;>simp
theorem zH7:(sizeLine:Nat)<2 ^ 63:=by rw[sizeLine_eq];decide
theorem zTB:TruR X (fun x H Q=>∃k,TruV X.K x H k/\Q k H):=by
 intro pins s σ H x v Q I rx h;obtain⟨k,e,q⟩:=h;have hl:=zH7;have hs:sizeLine=16777216:=sizeLine_eq;cases x with
 |non=>
  cases rx;have e':k=false:=e;subst e';exact truthy_none ⟨H,I,q⟩
 |bl b=>
  cases rx;have e':k=b:=e;subst e';exact wpAny_truthy_bool ⟨H,I,q⟩
 |int i=>
  obtain⟨t,rfl⟩:=rx;have e':k=(i != 0):=e;subst e';exact PySem.P.truthy_int ⟨H,I,q⟩
 |str y=>
  obtain⟨t,rfl⟩:=rx;obtain⟨hy,e'⟩:y.length<=sizeLine/\k=((y.length:Int) != 0):=e;subst e';exact PySem.P.truthy_str (by lia) ⟨H,I.tok _,q⟩
 |byt y=>
  obtain⟨t,rfl⟩:=rx;obtain⟨hy,e'⟩:y.size<=sizeLine/\k=((y.size:Int) != 0):=e;subst e';exact PySem.W.truthy_bytes (by lia) ⟨H,I.tok _,q⟩
 |ref p=>
  cases rx;have e':(∃xs,SqL X.K H p xs/\k = !xs.isEmpty)\/(∃xs,SqT X.K H p xs/\k = !xs.isEmpty)\/∃kvs,H p=some (.dK kvs)/\k = !kvs.isEmpty:=e
  rcases e' with⟨xs,hx,e'⟩|⟨xs,hx,e'⟩|⟨kvs,hx,e'⟩
  ·subst e';obtain⟨its,r,pl,hz⟩:=I.list hx;have hlen:=r.length;exact wpAny_truthy_list pl.isList (by simp only[qAk];lia) ⟨H,I.tok _,by rw[zIB r];exact q⟩
  ·subst e';obtain⟨its,r,pl,hz⟩:=I.tuple hx;have hlen:=r.length;exact truthy_tuple pl (by simp only[qAk];lia) ⟨H,I.tok _,by rw[zIB r];exact q⟩
  ·subst e';obtain⟨hz,hS,vs,r,m⟩:kvs.length<=sizeLine/\(p==sysModules)=false/\∃vs,KV kvs vs/\s.heap.DictOf (zLS X.prog X.w) p vs:=I.hok p _ hx;have hlen:kvs.length=vs.length:=Paired.length r;exact wpAny_truthy_dict hS m (by lia) ⟨H,I.tok _,by rw[zO2 r];exact q⟩
 |_=>exact(show False from e).elim
theorem zNQ:OpR X (binaryOp .Add) (fun x y H Q=>∃i j,x=.str i/\y=.str j/\i.length+j.length<=sizeLine/\Q (.str (i++j)) H):=by
 intro pins s σ H x y v u Q I rx ry h;obtain⟨i,j,rfl,rfl,hz,q⟩:=h;obtain⟨t,rfl⟩:=rx;obtain⟨t',rfl⟩:=ry;exact add_str (fun t' tk=>⟨.str (i++j),H,I.tok _,⟨_,rfl⟩,q⟩) hz
theorem zHQ{x:V}{us:List Value}(r:Vals [x] us):∃u,us=[u]/\RelV x u:=by
 cases r with
 |cons r1 r2=>cases r2;exact⟨_,rfl,r1⟩
theorem zR2{x y:V}{us:List Value}(r:Vals [x,y] us):∃u w',us=[u,w']/\RelV x u/\RelV y w':=by
 cases r with
 |cons r1 r2=>
  cases r2 with
  |cons r3 r4=>cases r4;exact⟨_,_,rfl,r1,r3⟩
theorem zT2:zDM X (.builtin "abs") (fun xs H Q=>∃i,xs=[.int i]/\Q (.int (if i<0 then -i else i)) H):=by
 intro pins s σ H xs us Q I r h;obtain⟨i,rfl,q⟩:=h;obtain⟨u,rfl,t,rfl⟩:=zHQ r;exact call_abs_int fun u tk=>⟨.int (if i<0 then -i else i),H,I.tok _,⟨_,rfl⟩,q⟩
theorem zQO(hc:X.calm=true):zDM X (.builtin "min") (fun xs H Q=>∃i j,xs=[.int i,.int j]/\Q (.int (if j<i then j else i)) H):=by
 intro pins s σ H xs us Q I r h;obtain⟨i,j,rfl,q⟩:=h;obtain⟨u,w',rfl,⟨t,rfl⟩,⟨t',rfl⟩⟩:=zR2 r;refine min_two_ints (I.ok.hd hc) fun h' tk k=>⟨_,H,I.kept k,?_,q⟩
 by_cases hj:j<i
 ·rw[if_pos hj,if_pos hj];exact⟨_,rfl⟩
 ·rw[if_neg hj,if_neg hj];exact⟨_,rfl⟩
end
end L2
namespace L2
open PySem PySem.Spec PyProof.Rows
structure ObjM(h:Heap)(x dx C:Addr)(mA:Str->Option Value):Prop where
 obj:h.get? x=some (qDr C dx)
 ns:h.Ns1 dx mA
 ne:dx≠x
theorem zPM{h:Heap}{dx:Addr}{mA:Str->Option Value}(n:h.Ns1 dx mA):∃od,h.get? dx=some od/\∀name,qE9 name od=some (mA name):=by
 obtain⟨o,es,ep,ho,hd,hk,_,hm⟩:=n;refine⟨o,ho,fun name=>?_⟩;have e:=hm name;unfold nsFind findBy at e;rw[<- Array.find?_toList]at e;unfold qE9;rw[hd];dsimp only
 split
 ·rename_i y q
  rw[q]at e;exact congrArg some e
 ·rename_i q
  rw[q]at e;have a:es.toList.any (·.refKey)=false:=by
   rw[List.any_eq_false];intro y hy;obtain⟨z,t,hkey⟩:=hk y (Array.mem_toList_iff.mp hy);simp[DictEntry.refKey,hkey]
  have a':¬es.toList.any (·.refKey)=true:=by rw[a];exact qAe
  rw[if_neg a'];exact congrArg some e
theorem ObjM.look{h:Heap}{x dx C:Addr}{mA:Str->Option Value}(I:ObjM h x dx C mA):∃od,PySem.W.InstAt h x (qDr C dx) C (some od)/\∀name,qE9 name od=some (mA name):=
 let⟨od,ho,hl⟩:=zPM I.ns
 ⟨od,⟨I.obj,rfl,rfl,ho⟩,hl⟩
section
variable{prog:Program}{w:World}{A:Around}{E:Value->Shared->Prop}{s:Shared}{K:qA1}{x dx C f:Addr}{mA:Str->Option Value}{name:Str}{v:Value}
end
section
variable{P:Program}{w:World}{H H':Hp}{h h':Heap}{a C dx:Addr}{fs fs':List (Str×V)}
theorem zVQ(hok:HOk P w H h)(e:H a=some (.ins C dx fs)):∃mA,ObjM h a dx C mA/\(∀f,RelO (fs.lookup f) (mA f))/\qGi mA (fs.map (·.1))/\fs.length<=1000/\H dx=some (.own a):=by
 obtain⟨d,z,ne,ob,mA,n,r,q⟩:=(show ObjOk P w H h a (.ins C dx fs) from hok a _ e)
 exact⟨mA,⟨ob,n,ne⟩,r,q,z,d⟩
end
structure Cls(K:qA1)(C:Addr):Prop where
 pg:qF8 K C Str.empty=true
 hd:qD5 K C=true
 po:PySem.W.plainOver K C=true
 sa:qAq K (.ref C) "__setattr__" = some (some (.builtin "object.__setattr__"))
theorem Cls.get{K:qA1}{C:Addr}(c:Cls K C)(f:Str):qF8 K C f=true:=c.pg
def zUB(K:qA1)(C:Addr)(f:Str):Prop:=qAq K (.ref C) f=some none
structure Con(K:qA1)(C:Addr)(f:Str)(v:V)(u:Value):Prop where
 at_:qAq K (.ref C) f=some (some u)
 rel:RelV v u
 get:qC6 K u "__get__" = some none
 cp:PySem.W.copiedNames.contains f=false
structure Meth(K:qA1)(C:Addr)(m:Str)(f:Addr):Prop where
 at_:qAq K (.ref C) m=some (some (.ref f))
 fn:qF1 K (.ref f)=true
 kp:qAv K (.ref f)=true
section
variable{X:Cx}{pins:List (Addr×Obj)}{σ:St}{H:Hp}{s:Shared}{a C dx:Addr}{fs:List (Str×V)}{f:Str}{v:V}{A:Around}{E:Value->Shared->Prop}
end
section
variable{X:Cx}{o e value:Expr}{f:Str}{pos pos' tpos:Pos}{ta tv:TE}
end
section
variable{X:Cx}{pins:List (Addr×Obj)}{σ:St}{H:Hp}{s:Shared}{A:Around}{E:Value->Shared->Prop}{Q:Value->Shared->Prop}{c:Value}{b:Bool}
inductive TyOf(K:qA1)(H:Hp):V->Value->Prop where
 |non:TyOf K H .non (.type "NoneType")
 |bl (x:Bool):TyOf K H (.bl x) (.type "bool")
 |int (i:Int):TyOf K H (.int i) (.type "int")
 |str (x:Str):TyOf K H (.str x) (.type "str")
 |flt (x:UInt64):TyOf K H (.flt x) (.type "float")
 |lst {a:Addr} {xs:List V} (e:H a=some (.lst xs)):TyOf K H (.ref a) (.type "list")
 |frz {a:Addr} {o:Obj} {xs:List V} (e:H a=some (.frz o (.lst xs))):TyOf K H (.ref a) (.type "list")
 |tup {a:Addr} {xs:List V} (e:H a=some (.tup xs)):TyOf K H (.ref a) (.type "tuple")
 |dK {a:Addr} {kvs:List (Key×V)} (e:H a=some (.dK kvs)):TyOf K H (.ref a) (.type "dict")
 |dT {a:Addr} {kvs:List (List Key×V)} (e:H a=some (.dT kvs)):TyOf K H (.ref a) (.type "dict")
 |ins {a C dx:Addr} {fs:List (Str×V)} (e:H a=some (.ins C dx fs)) (cl:Cls K C) (ha:qAq K (.ref C) "__class__" = some (some (.builtin "object.__class__")))
   (hn:qC6 K (.builtin "object.__class__") "__get__" = some (some (.builtin "getset_descriptor.__get__"))) (htk:qDs K (.builtin "object.__class__")=some true)
   (hm:qDb K C (.type "object")=some true):TyOf K H (.ref a) (.ref C)
theorem zPW{x:V}{u t:Value}(I:Inv X pins σ H s)(rx:RelV x u)(ty:TyOf X.K H x t)(e:qFx X.K t c=some b)(h:∀tk,Q (.bool b) { s with toks:=tk }) :
  wpAny (model X.prog X.w) A (call (.builtin "isinstance") [u,c]) Q E s:=by
 cases ty with
 |non=>cases(show u=Value.none from rx);exact qB1 PySem.W.kitx_none I.kIn qE1 e (fun z=>nomatch z) h
 |bl y=>cases(show u=Value.bool y from rx);exact qB1 PySem.W.kitx_bool I.kIn qE1 e (fun z=>nomatch z) h
 |int i=>obtain⟨t,q⟩:=(show ∃t,u=Value.int i t from rx);cases q;exact qB1 PySem.W.kitx_int I.kIn qE1 e (fun z=>nomatch z) h
 |str y=>obtain⟨t,q⟩:=(show ∃t,u=Value.str y t from rx);cases q;exact qB1 PySem.W.kitx_str I.kIn qE1 e (fun z=>nomatch z) h
 |flt y=>obtain⟨t,q⟩:=(show ∃t,u=Value.float y t from rx);cases q;exact qB1 PySem.W.kitx_float I.kIn qE1 e (fun z=>nomatch z) h
 |@lst a xs ea=>
  cases(show u=Value.ref a from rx)
  obtain⟨_,_,n,_,h1⟩:=(show ObjOk X.prog X.w H s.heap a (.lst xs) from I.hok a _ ea)
  exact qB1 qEs I.kIn ⟨_,h1,rfl⟩ e (fun z=>nomatch z) h
 |@frz a ob xs ea=>
  cases(show u=Value.ref a from rx)
  obtain⟨_,_,_,n,_,h1⟩:=(show ObjOk X.prog X.w H s.heap a (.frz ob (.lst xs)) from I.hok a _ ea)
  exact qB1 qEs I.kIn ⟨_,h1,rfl⟩ e (fun z=>nomatch z) h
 |@tup a xs ea=>
  cases(show u=Value.ref a from rx)
  obtain⟨_,_,_,p⟩:=(show ObjOk X.prog X.w H s.heap a (.tup xs) from I.hok a _ ea)
  obtain⟨o,h1,h2,_⟩:=p;exact qB1 PySem.W.kitx_tuple I.kIn ⟨o,h1,h2⟩ e (fun z=>nomatch z) h
 |@dK a kvs ea=>
  cases(show u=Value.ref a from rx)
  obtain⟨_,_,vs,_,p⟩:=(show ObjOk X.prog X.w H s.heap a (.dK kvs) from I.hok a _ ea)
  obtain⟨o,es,ep,h1,h2,_⟩:=p;exact qB1 qEt I.kIn ⟨o,h1,h2.1⟩ e (fun z=>nomatch z) h
 |@dT a kvs ea=>
  cases(show u=Value.ref a from rx)
  obtain⟨_,_,xs,_,o,es,ep,h1,h2,_⟩:=(show ObjOk X.prog X.w H s.heap a (.dT kvs) from I.hok a _ ea)
  exact qB1 qEt I.kIn ⟨o,h1,h2.1⟩ e (fun z=>nomatch z) h
 |@ins a C dx fs ea cl ha hn htk hm=>
  cases(show u=Value.ref a from rx)
  obtain⟨mA,O,_⟩:=zVQ I.hok ea;obtain⟨od,J,_⟩:=O.look;exact qB1 (PySem.W.kitx_own (cl.get _) cl.hd ha hn htk hm) I.kIn J e (fun z=>nomatch z) h
end
end L2
namespace L2
open PySem PySem.Spec PyProof.Rows
structure Room(k:Nat)(A:Around):Prop where
 hd:A.handled=none
 dp:A.depth+3*k+5<recursionLimit
 un:A.units+16*k+200<cLine
theorem Room.mono{j k:Nat}{A:Around}(r:Room k A)(h:j<=k):Room j A:=⟨r.hd,by have:=r.dp;lia,by have:=r.un;lia⟩
theorem Room.deeper{k:Nat}{A:Around}(r:Room (k+1) A)(env:Env):Room k (A.deeper env):=
 ⟨r.hd,by have:=r.dp;show A.depth+1+3*k+5<_;lia,by have:=r.un;show A.units+3+16*k+200<_;lia⟩
theorem Room.depth{k:Nat}{A:Around}(r:Room k A):A.depth<recursionLimit:=by have:=r.dp;lia
theorem Room.units{k:Nat}{A:Around}(r:Room k A):A.units+64<cLine:=by have:=r.un;lia
noncomputable def tNil:TA:=fun _ H Q=>Q [] H
noncomputable def zGR(ta:TE)(tr:TA):TA:=fun σ H Q=>ta σ H fun x H1=>tr σ H1 fun xs H2=>Q (x::xs) H2
section
variable{X:Cx}{e:Expr}{es:List Expr}{te:TE}{t:TA}{pos:Pos}
theorem zA5:PA X [] tNil:=fun _ _ _ _ H Q I h=>Calls.spliced_nil ⟨[],H,I,.nil,h⟩
theorem zA1(ha:PE X e te)(hr:PA X es t)(hs:starEach (e::es) X.env=(false,eval e X.env)::starEach es X.env:=by rfl):PA X (e::es) (zGR te t):=by
 intro pos pins s σ H Q I h;rw[hs];show wpAny _ _ (spliced ((false,eval e X.env)::backTo pos (starEach es X.env))) _ _ s;refine Calls.spliced_cons (thn (ha pins s σ H _ I h) fun u s1 z0=>?_);obtain⟨x,H1,I1,r1,q1⟩:=z0;exact thn (hr pos pins s1 σ H1 _ I1 q1) fun us s2 ⟨xs,H2,I2,r2,q2⟩=>⟨x::xs,H2,I2,.cons r1 r2,q2⟩
def tTup(t:TA):TE:=fun σ H Q=>t σ H fun xs H1=>xs.length<=sizeLine/\∀p,H1 p=none->Q (.ref p) (upd H1 p (.tup xs))
def tLst(t:TA):TE:=fun σ H Q=>t σ H fun xs H1=>xs.length<=sizeLine/\∀p,H1 p=none->Q (.ref p) (upd H1 p (.lst xs))
theorem zPB{x1}(h:PA X es t):PE X (.Tuple es x1 pos) (tTup t):=by
 intro pins s σ H Q I hq;refine wpAny_Tuple_spliced (thn (h pos pins s σ H _ I hq) fun us s1 ⟨xs,H1,I1,r,z,q⟩=>⟨by rw[<- r.length];exact z,?_⟩);have hf:H1 s1.heap.objs.size=none:=I1.hok.fresh (qA5 _);refine⟨.ref s1.heap.objs.size,upd H1 s1.heap.objs.size (.tup xs),I1.laid (t':=s1.toks) (fun b u e=>Heap.get?_push_of_some _ e) (qA5 _) ?_,rfl,q _ hf⟩;exact⟨z,us,r,⟨_,Heap.get?_push_size _ rfl,rfl,_,rfl⟩⟩
theorem zFZ(h:PA X es t):PE X (.List es pos) (tLst t):=by
 intro pins s σ H Q I hq;refine wpAny_List_spliced (thn (h pos pins s σ H _ I hq) fun us s1 ⟨xs,H1,I1,r,z,q⟩=>⟨by rw[<- r.length];exact z,?_⟩);have hf:H1 s1.heap.objs.size=none:=I1.hok.fresh (qA5 _);refine⟨.ref s1.heap.objs.size,upd H1 s1.heap.objs.size (.lst xs),I1.laid (t':=s1.toks) (fun b u e=>Heap.get?_push_of_some _ e) (qA5 _) ?_,rfl,q _ hf⟩;exact⟨z,us,0,r,Heap.get?_push_size _ rfl⟩
end
abbrev Sp:=List V->Hp->VK->XK->Prop
abbrev CXT:=List Env->Hp->Shared->XK->Value->Shared->Prop
structure Env0(P:Program)(w:World)(K:qA1)(mg:Str->Option Value)(base:Heap)(A:Around)(outer:List Env)(s:Shared)(H:Hp):Prop where
 frames:A.frames=some outer
 mod:Mod K mg base
 bs:∀b o,base.get? b=some o->s.heap.get? b=some o/\H b=none
 bsz:base.objs.size<=s.heap.objs.size
 funs:s.heap.FunFrames base outer
 frf:∀b∈frs outer,H b=none
 hok:HOk P w H s.heap
 bare:AllBare s.gens
def CE(outer:List Env)(P:Program)(w:World)(H:Hp)(s:Shared)(Q:VK)(u:Value)(s':Shared):Prop:=
 ∃v H',s'.os=s.os/\AllBare s'.gens/\Un (frs outer) [] H H' s.heap s'.heap/\HOk P w H' s'.heap/\RelV v u/\Q v H'
def CR(CX:CXT)(outer:List Env)(P:Program)(w:World)(H:Hp)(s:Shared)(Q:VK)(E:XK)(r:Result)(s':Shared):Prop:=
 match r with
 |.ok (.ret u)=>CE outer P w H s Q u s'
 |.ok _=>False
 |.error e=>CX outer H s E e s'
structure FnOk(P:Program)(w:World)(K:qA1)(mg:Str->Option Value)(base:Heap)(CX:CXT)(k:Nat)(f:Addr)(fd:FuncData)(ps:List Str)(sp:Sp):Prop where
 len:∀vs H Q E,sp vs H Q E->vs.length=ps.length
 run:∀(A:Around)(outer:List Env)(s:Shared)(H:Hp)(args:Args)(us:List Value)(vs:List V)(Q:VK)(E:XK),Room k A->Env0 P w K mg base A outer s H->BindsTo s fd args (ps.zip us)->Vals vs us->sp vs H Q E ->
  codeAny (model P w) A (.call (.ref f) args) (CR CX outer P w H s Q E) s
theorem FnOk.imp{P:Program}{w:World}{K:qA1}{mg:Str->Option Value}{base:Heap}{CX:CXT}{k:Nat}{f:Addr}{fd:FuncData}{ps:List Str}{sp sp':Sp}(F:FnOk P w K mg base CX k f fd ps sp)
  (h:∀vs H Q E,sp' vs H Q E->sp vs H Q E):FnOk P w K mg base CX k f fd ps sp':=
 ⟨fun vs H Q E q=>F.len vs H Q E (h _ _ _ _ q),fun A outer s H args us vs Q E hr he hb hv hs=>F.run A outer s H args us vs Q E hr he hb hv (h _ _ _ _ hs)⟩
section
variable{X:Cx}{pins:List (Addr×Obj)}{σ:St}{H:Hp}{s s':Shared}
theorem Inv.env0(I:Inv X pins σ H s):Env0 X.prog X.w X.K X.mg X.base X.A X.stack s H:=
 ⟨I.ok.frames,I.ok.mod,I.bs,qAj I.ok.bsz I.sz,I.stack,I.stkFree,I.hok,I.bare⟩
theorem Inv.after{Q:VK}{u:Value}(I:Inv X pins σ H s)(h:CE X.stack X.prog X.w H s Q u s'):EP X pins σ Q u s':=by
 obtain⟨v,H',os,bare,un,hok,r,q⟩:=h;obtain⟨hh,g,d,t,os'⟩:=s';obtain rfl:os'=s.os:=os;exact⟨v,H',I.call (h':=hh) (g':=g) (d':=d) (t':=t) (ch:=[]) un hok bare (fun b z=>absurd z (by simp)),r,q⟩
end
noncomputable def zLC(sp:Sp)(dvs:List V)(E:XK)(t:TA):TE:=fun σ H Q=>t σ H fun vs H1=>sp (vs++dvs) H1 Q E
def Binds(K:qA1)(fd:FuncData)(ps:List Str)(ds:List Value):Prop:=
 ∀(s:Shared)(us:List Value),K.In s.heap->(us++ds).length=ps.length->BindsTo s fd ⟨us,[]⟩ (ps.zip (us++ds))
theorem Binds.all{K:qA1}{fd:FuncData}{ps:List Str}(h:∀us:List Value,us.length=ps.length->bindArgs fd ⟨us,[]⟩=pure (ps.zip us)):Binds K fd ps []:=fun s us _ hl=>by
 rw[qBu]at hl ⊢;exact .of_eq (h us hl)
def zNF(CX:CXT)(X:Cx)(E:XK):Prop:=∀(pins:List (Addr×Obj))(σ:St)(H:Hp)(s:Shared)(e:Value)(s':Shared),Inv X pins σ H s->CX X.stack H s E e s'->X.xe e s'
section
variable{X:Cx}{CX:CXT}{k:Nat}{f C:Addr}{fd:FuncData}{ps:List Str}{sp:Sp}{dvs:List V}{ds:List Value}{E:XK}{x m:Str}{p pos apos:Pos}{e o:Expr}{es:List Expr}{ta:TE}{t:TA}
theorem zX0{pins:List (Addr×Obj)}{σ:St}{H:Hp}{s:Shared}{Q:VK}{us:List Value}{vs:List V}(F:FnOk X.prog X.w X.K X.mg X.base CX k f fd ps sp)(hr:Room k X.A)(hb:Binds X.K fd ps ds)(hd:Vals dvs ds)(hx:zNF CX X E)
  (I:Inv X pins σ H s) (r:Vals vs us) (h:sp (vs++dvs) H Q E):wpAny (model X.prog X.w) X.A (call (.ref f) us) (EP X pins σ Q) X.xe s:=by
 have r2:Vals (vs++dvs) (us++ds):=r.append hd;have hl:(us++ds).length=ps.length:=by rw[<- r2.length];exact F.len _ _ _ _ h
 refine wpAny_call (codeAny_mono (F.run X.A X.stack s H ⟨us,[]⟩ (us++ds) (vs++dvs) Q E hr I.env0 (hb s us I.kIn hl) r2 h) fun r s' hq=>?_);cases r with
 |error e=>exact hx pins σ H s e s' I hq
 |ok fl=>
  cases fl with
  |ret u=>exact I.after hq
  |next=>exact qA6 hq
  |brk=>exact qA6 hq
  |cont=>exact qA6 hq
theorem zPF(F:FnOk X.prog X.w X.K X.mg X.base CX k f fd ps sp)(hr:Room k X.A)(hg:Gl X x)(hm:X.mg x=some (.ref f))(hk:qAv X.K (.ref f)=true)(hb:Binds X.K fd ps ds)(hd:Vals dvs ds)(hx:zNF CX X E)
  (ha:PA X (e::es) t) (hdb:(x==("__debug__":Str))=false:=by decide) (he:starEach (e::es) X.env=(false,eval e X.env)::starEach es X.env:=by rfl) (hpl:(backTo pos (starEach es X.env)).any (·.1)=false:=by rfl) :
  PE X (.Call (.Name x p) (e::es) [] pos) (zLC sp dvs E t):=by
 intro pins s σ H Q I h;refine wpAny_Call_Name_kw (zLU I hg hm ?_ hdb);refine qCy (h₀:=X.base) I.ok.mod.kin hk (thn (ha pos pins s σ H _ I h) fun us s1 ⟨vs,H1,I1,r,q⟩=>⟨I1.kIn,?_⟩) he hpl;exact zX0 F hr hb hd hx I1 r q
structure Mk(K:qA1)(C f:Addr):Prop where
 makes:qFd K C=true
 init:qAq K (.ref C) "__init__" = some (some (.ref f))
 fn:qF1 K (.ref f)=true
 kp:qAv K (.ref C)=true
end
section
variable{X:Cx}{CX:CXT}{k:Nat}{f C:Addr}{fd:FuncData}{ps ks:List Str}{sp:Sp}{E:XK}{x m:Str}{p pos apos kpos:Pos}{e o:Expr}{es:List Expr}{kws:List Keyword}{te ta:TE}{t tk:TA}{nm:Option Str}
structure KBinds(K:qA1)(fd:FuncData)(ps ks:List Str)(g:List Value->List Value->List Value)(gV:List V->List V->List V):Prop where
 to:∀(s:Shared)(us ws:List Value),K.In s.heap->(g us ws).length=ps.length->BindsTo s fd ⟨us,ks.zip ws⟩ (ps.zip (g us ws))
 rel:∀{vs:List V}{us:List Value}{zs:List V}{ws:List Value},Vals vs us->Vals zs ws->Vals (gV vs zs) (g us ws)
variable{g:List Value->List Value->List Value}{gV:List V->List V->List V}
end
structure FnScope(N P:List Str)(sc:Scope):Prop where
 kind:sc.kind=.function
 co:sc.isCoroutine=false
 gen:sc.isGenerator=false
 nd:N.Nodup
 pre:N.take P.length=P
 par:∀x∈P,sc.names.lookup x=some .local\/sc.names.lookup x=some .cell
 nofree:∀y∈sc.names,y.2≠.free
theorem zKW{kindOf:Str->Option NameKind}{x:Str}:∀{binds:List (Str×Value)}{m:Str->Option Value},(∀v,(x,v)∉binds)->bindL kindOf binds m x=m x
 |[],_,_=>rfl
 |(n,v)::r,m,h=>by
  unfold bindL;rw[zKW fun w hw=>h w (qAr _ hw)]
  split
  ·have:x≠n:=by rintro rfl;exact h v qBg
   simp[this]
  ·rfl
theorem zKY{kindOf:Str->Option NameKind}{x:Str}:∀{binds:List (Str×Value)}{m:Str->Option Value},(∀v,(x,v)∉binds)->bindC kindOf binds m x=m x
 |[],_,_=>rfl
 |(n,v)::r,m,h=>by
  unfold bindC;rw[zKY fun w hw=>h w (qAr _ hw)]
  split
  ·rfl
  ·have:x≠n:=by rintro rfl;exact h v qBg
   simp[this]
theorem zKX{kindOf:Str->Option NameKind}{x:Str}{v:Value}:∀{P:List Str}{vs:List Value}{i:Nat}{m:Str->Option Value},P.Nodup->P[i]?=some x->vs[i]?=some v->kindOf x=some .local ->
  bindL kindOf (P.zip vs) m x=some v
 |[],_,_,_,_,h,_,_=>by simp at h
 |_::_,[],_,_,_,_,h,_=>by simp at h
 |p::P,w::vs,0,m,nd,h1,h2,hk=>by
  simp at h1 h2;subst h1;subst h2;show bindL kindOf ((p,w)::P.zip vs) m p=_;unfold bindL;rw[zKW fun v hv=>(qBf.mp nd).1 (qC0 hv).1,if_pos hk];simp
 |p::P,w::vs,i+1,m,nd,h1,h2,hk=>by
  show bindL kindOf ((p,w)::P.zip vs) m x=_;unfold bindL;exact zKX (i:=i) (qBf.mp nd).2 (by simpa using h1) (by simpa using h2) hk
theorem zKZ{kindOf:Str->Option NameKind}{x:Str}{v:Value}:∀{P:List Str}{vs:List Value}{i:Nat}{m:Str->Option Value},P.Nodup->P[i]?=some x->vs[i]?=some v->kindOf x≠some .local ->
  bindC kindOf (P.zip vs) m x=some v
 |[],_,_,_,_,h,_,_=>by simp at h
 |_::_,[],_,_,_,_,h,_=>by simp at h
 |p::P,w::vs,0,m,nd,h1,h2,hk=>by
  simp at h1 h2;subst h1;subst h2;show bindC kindOf ((p,w)::P.zip vs) m p=_;unfold bindC;rw[zKY fun v hv=>(qBf.mp nd).1 (qC0 hv).1,if_neg hk];simp
 |p::P,w::vs,i+1,m,nd,h1,h2,hk=>by
  show bindC kindOf ((p,w)::P.zip vs) m x=_;unfold bindC;exact zKZ (i:=i) (qBf.mp nd).2 (by simpa using h1) (by simpa using h2) hk
noncomputable def start(N:List Str)(vs:List V):St:=vs.map some++qA9 (N.length-vs.length) none
noncomputable def cxOf(CX:CXT)(P:Program)(w:World)(K:qA1)(mg:Str->Option Value)(base:Heap)(N:List Str)(qual:Str)(scope:Scope)(f:Addr)(cd:Value)(A:Around)(outer:List Env)(s:Shared)(H:Hp)(E:XK):Cx where
 prog:=P
 w:=w
 K:=K
 mg:=mg
 base:=base
 A:=A.deeper (envOfC qual scope s.heap.objs.size f cd)
 N:=N
 s₀:=s
 H₀:=H
 env:=envOfC qual scope s.heap.objs.size f cd
 outer:=outer
 stack:=envOfC qual scope s.heap.objs.size f cd::outer
 ex:=[]
 calm:=true
 fn:=fun _=>true
 pn:=[]
 xe:=fun e s'=>wpAny (model P w) (A.deeper (envOfC qual scope s.heap.objs.size f cd)) (leaving (envOfC qual scope s.heap.objs.size f cd) e) (fun _ s''=>CX outer H s E e s'') (fun e' s''=>CX outer H s E e' s'') s'
theorem zNA{sc:Scope}{n:Nat}{x:Str}(h:sc.names.lookup x=some .cell):∃c,(cellsFrom n sc.names []).lookup x=some c:=by
 have q:=qCf sc.names n [] (.inl h);exact qD6.mp q
theorem zPY{CX:CXT}{P:Program}{w:World}{K:qA1}{mg:Str->Option Value}{base:Heap}{N ps:List Str}{qual:Str}{scope:Scope}{f:Addr}{cd:Value}{A:Around}{outer:List Env}{s s1:Shared}{H:Hp}{E:XK}{us:List Value}{vs:List V}
  (S:FnScope N ps scope) (hd:A.handled=none) (e0:Env0 P w K mg base A outer s H) (hl:vs.length=ps.length) (r:Vals vs us)
  (x:InCallC s s.heap.objs.size (bindL (envOfC qual scope s.heap.objs.size f cd).kindOf (ps.zip us) fun _=>none) (cellsFrom (s.heap.objs.size+1) scope.names []) (bindC (envOfC qual scope s.heap.objs.size f cd).kindOf (ps.zip us) fun _=>none) s1) :
  Inv (cxOf CX P w K mg base N qual scope f cd A outer s H E) [] (start N vs) H s1:=by
 have hpl:ps.length<=N.length:=by have:=congrArg List.length S.pre;rw[qCn]at this;lia
 obtain⟨h1,tk,rfl,hk⟩:=x.done;have noA:∀b:Addr,b∉(cxOf CX P w K mg base N qual scope f cd A outer s H E).ex:=fun b z=>absurd (show b∈([]:List Addr) from z) (by simp)
 refine⟨⟨e0.mod,S.kind,rfl,rfl,qA5 _,fun y z c h1 h2=>?_,fun y hy=>?_,fun y c _ h=>?_,fun _=>hd,Around.frames_deeper e0.frames,.inr ⟨rfl,rfl⟩,fun b z=>absurd z (noA b),e0.bs,e0.bsz,fun b _ _=>noA b,fun b z=>absurd z (noA b),e0.funs,e0.frf⟩,
  rfl,e0.bare,Un.kept hk,⟨_,x.toInCall.ns,fun i y v h1 h2 h3=>?_⟩,fun y c h=>⟨_,x.cell y c h⟩,e0.hok.fresh (qA5 _),fun y c h=>?_,fun p hp=>absurd (show p∈([]:List (Addr×Obj)) from hp) (by simp),e0.hok.kept hk,?_⟩
 ·exact name_of_addr x.apart (qBb h1) (qBb h2)
 ·have hy:scope.names.lookup y=some .cell\/scope.names.lookup y=some .free:=hy
  rcases hy with hy|hy
  ·exact zNA hy
  ·exact absurd rfl (S.nofree _ (qBb hy))
 ·exact qBn (x.above y c (qBb h))
 ·have hi:i<vs.length:=by
   unfold start at h2
   by_cases hi:i<vs.length
   ·exact hi
   ·rw[qAd (by simpa using hi)]at h2;rw[qB7]at h2
    split at h2<;>cases h2
  have ha:vs[i]?=some v:=by
   unfold start at h2;rw[qAc (by simpa using hi),qAf]at h2;cases e:vs[i]? with
   |none=>rw[e]at h2;cases h2
   |some a=>rw[e]at h2;cases h2;rfl
  obtain⟨u,hu,rv⟩:=r.get ha;have hp:ps[i]?=some y:=by
   rw[<- S.pre,qD7 (by lia)];exact h1
  have ndP:ps.Nodup:=by rw[<- S.pre];exact S.nd.sublist (List.take_sublist _ _)
  refine⟨u,rv,?_⟩
  rcases S.par y (qBi hp)with k|k
  ·exact .inl ⟨k,zKX ndP hp hu k⟩
  ·obtain⟨c,e⟩:=zNA (n:=s.heap.objs.size+1) k;refine .inr ⟨.inl k,c,e,?_⟩;have q:=x.cell y c e;rw[zKZ ndP hp hu (by show scope.names.lookup y≠_;rw[k];decide)]at q;exact q
 ·exact e0.hok.fresh (qBn (x.above y c (qBb h)))
 ·unfold start;show _=N.length;rw[qB0,qAi,qCk]
  lia
theorem zVV{CX:CXT}{P:Program}{w:World}{K:qA1}{mg:Str->Option Value}{base:Heap}{k:Nat}{f:Addr}{name qual:Str}{params:Arguments}{body:List Stmt}{scope:Scope}{dV kV doc pm cdv ct oc:Value}{an od:Option Addr}
  {osl:Array (Option Value)} {N ps:List Str} {sp:Sp} (lk:K.lookup f=some ⟨oc,od,.func (qB4 name qual params body scope dV kV doc pm an cdv ct),osl⟩) (hcd:qC8 K cdv qual=true) (S:FnScope N ps scope)
  (len:∀vs H Q E,sp vs H Q E->vs.length=ps.length)
  (hbody:∀(A:Around)(outer:List Env)(s:Shared)(H:Hp)(vs:List V)(Q:VK)(E:XK),Room k (A.deeper (envOfC qual scope s.heap.objs.size f cdv))->sp vs H Q E ->
   ∃t,PSs (cxOf CX P w K mg base N qual scope f cdv A outer s H E) body t/\t { nx:=fun _ H'=>Q .non H',rt:=Q } (start N vs) H) :
  FnOk P w K mg base CX (k+1) f (qB4 name qual params body scope dV kV doc pm an cdv ct) ps sp:=by
 refine⟨len,fun A outer s H args us vs Q E hr e0 hb r hsp=>?_⟩;have hl:=len _ _ _ _ hsp;have KX:K.In s.heap:=e0.mod.kin.keeps fun b o e=>(e0.bs b o e).1
 have lim:s.heap.NoLimit:=e0.mod.nolimit.keeps fun b o e=>(e0.bs b o e).1
 have hkind:∀y∈ps.zip us,scope.names.lookup y.1=some .local\/(scope.names.lookup y.1=some .cell/\((cellsFrom (s.heap.objs.size+1) scope.names []).lookup y.1).isSome=true):=fun⟨n,v⟩ hy=>by
  rcases S.par n (qC0 hy).1 with q|q
  ·exact .inl q
  ·exact .inr ⟨q,qCf _ _ _ (.inl q)⟩
 refine codeAny_call_function hr.depth (KX _ _ lk) rfl S.co S.gen rfl (PySem.W.codeRec_of KX hcd) (hb _ _ _ _ ?_);refine wpAny_newFunctionEnv_cells S.kind hkind fun env he s1 x=>?_
 subst he;refine⟨lim.keeps x.toInCall.keep,codeAny_func ?_⟩;obtain⟨t,ht,hq⟩:=hbody A outer s H vs Q E (hr.deeper _) hsp;have I:Inv (cxOf CX P w K mg base N qual scope f cdv A outer s H E) [] (start N vs) H s1:=zPY S hr.hd e0 hl r x;refine wpAny_mono (ht [] s1 (start N vs) H _ I hq) (fun fl s' hs=>?_) fun e s' hs=>hs
 have fin:∀{σ':St}{H':Hp}{v:V}{u:Value},Inv (cxOf CX P w K mg base N qual scope f cdv A outer s H E) [] σ' H' s'->RelV v u->Q v H'->CE outer P w H s Q u s':=
  fun{σ' H' v u} J rv q=>⟨v,H',J.os,J.bare,J.base,J.hok,rv,q⟩
 cases fl with
 |ret u=>
  obtain⟨v,σ',H',J,rv,q⟩:=hs;exact fin J rv q
 |next=>
  obtain⟨σ',H',J,q⟩:=hs;exact fin (v:=V.non) (u:=Value.none) J rfl q
 |brk=>
  obtain⟨_,_,_,q⟩:=hs;exact qA6 q
 |cont=>
  obtain⟨_,_,_,q⟩:=hs;exact qA6 q
end L2
namespace L2
open PySem PySem.Spec PyProof.Rows
section
variable{X:Cx}{x:Str}{p pos:Pos}{e:Expr}{es:List Expr}{t:TA}{id T:String}{r:List V->Hp->VK->Prop}
noncomputable def tCB(r:List V->Hp->VK->Prop)(t:TA):TE:=fun σ H Q=>t σ H fun vs H1=>r vs H1 Q
theorem zAK(hc:zDM X (.builtin id) r)(hg:Gl X x)(hm:X.mg x=none)(hv:bootBuiltins x=some (.builtin id))(ha:PA X (e::es) t)(hn:x≠"__name__":=by decide)(hdb:(x==("__debug__":Str))=false:=by decide)
  (he:starEach (e::es) X.env=(false,eval e X.env)::starEach es X.env:=by rfl) (hpl:(backTo pos (starEach es X.env)).any (·.1)=false:=by rfl):PE X (.Call (.Name x p) (e::es) [] pos) (tCB r t):=by
 intro pins s σ H Q I h;refine wpAny_Call_Name_kw (zH8 I hg hm hv ?_ hn hdb);exact qF2 (thn (ha pos pins s σ H _ I h) fun us s1 ⟨vs,H1,I1,r1,q1⟩=>hc pins s1 σ H1 vs us Q I1 r1 q1) he hpl
theorem zCM(hc:zDM X (.type T) r)(hg:Gl X x)(hm:X.mg x=none)(hv:bootBuiltins x=some (.type T))(ha:PA X (e::es) t)(hn:x≠"__name__":=by decide)(hdb:(x==("__debug__":Str))=false:=by decide)
  (he:starEach (e::es) X.env=(false,eval e X.env)::starEach es X.env:=by rfl) (hpl:(backTo pos (starEach es X.env)).any (·.1)=false:=by rfl):PE X (.Call (.Name x p) (e::es) [] pos) (tCB r t):=by
 intro pins s σ H Q I h;refine wpAny_Call_Name_kw (zH8 I hg hm hv ?_ hn hdb);exact qB6 (thn (ha pos pins s σ H _ I h) fun us s1 ⟨vs,H1,I1,r1,q1⟩=>hc pins s1 σ H1 vs us Q I1 r1 q1) he hpl
end
end L2
namespace HT
open PySem PyProof.Rows
section
open PySem.SeqAt
open PySem.AutoSeq1 (wpAny_loadPart')
open PySem.MeetsSeq PySem.MeetsSeq2 PySem.MeetsSeq3
end
section
variable{prog:Program}{w:World}{A:Around}{E:Value->Shared->Prop}{s:Shared}
noncomputable def sIx(n d:Nat):Option Int->Nat
 |none=>d
 |some v=>if v<0 then(v+(n:Int)).toNat else min v.toNat n
end
end HT
namespace L2
open PySem PySem.Spec PyProof.Rows
abbrev TO:=St->Hp->(Option Int->Hp->Prop)->Prop
def PO(X:Cx)(e:Option Expr)(t:TO):Prop:=
 ∀(pins:List (Addr×Obj))(s:Shared)(σ:St)(H:Hp)(Q:Option Int->Hp->Prop),Inv X pins σ H s->t σ H Q ->
  wpAny (model X.prog X.w) X.A (evalPart e X.env) (fun u s'=>∃o H',Inv X pins σ H' s'/\IsPart u o/\Q o H') X.xe s
noncomputable def zOM:TO:=fun _ H Q=>Q none H
noncomputable def zWP(t:TE):TO:=fun σ H Q=>t σ H fun x H1=>∃i,x=.int i/\Q (some i) H1
section
variable{X:Cx}{e:Expr}{te:TE}{lo hi:Option Expr}{tl th:TO}{pos p2:Pos}
theorem zP9:PO X none zOM:=by
 intro pins s σ H Q I h;rw[evalPart_none];exact wpAny_pure ⟨none,H,I,.none,h⟩
theorem zP8(h:PE X e te):PO X (some e) (zWP te):=by
 intro pins s σ H Q I hw;rw[evalPart_some];refine thn (h pins s σ H _ I hw) fun u s1 z0=>?_
 obtain⟨x,H1,I1,r1,q1⟩:=z0;obtain⟨i,rfl,q⟩:=q1;obtain⟨t,rfl⟩:=r1;exact⟨some i,H1,I1,.int i t,q⟩
def SlR(X:Cx)(r:V->Option Int->Option Int->Hp->VK->Prop):Prop:=
 ∀(pins:List (Addr×Obj))(s:Shared)(σ:St)(H:Hp)(x:V)(v vl vu:Value)(lo hi:Option Int)(sl:Addr)(Q:VK),Inv X pins σ H s->RelV x v->s.heap.IsSliceOf sl vl vu .none->IsPart vl lo->IsPart vu hi->r x lo hi H Q ->
  ∃T id,typeLookup (.type T) "__getitem__" = pure (some (.builtin id))/\s.TypeIs v T/\wpAny (model X.prog X.w) X.A (getItem v (.ref sl)) (EP X pins σ Q) X.xe s
noncomputable def tSl(r:V->Option Int->Option Int->Hp->VK->Prop)(te:TE)(tl th:TO):TE:=fun σ H Q=>te σ H fun x H1=>tl σ H1 fun l H2=>th σ H2 fun u H3=>r x l u H3 Q
theorem zMT{r:V->Option Int->Option Int->Hp->VK->Prop}(hr:SlR X r)(he:PE X e te)(hl:PO X lo tl)(hu:PO X hi th):PE X (.Subscript e (.Slice lo hi none p2) pos) (tSl r te tl th):=by
 intro pins s σ H Q I h;refine Subscript_ (thn (he pins s σ H _ I h) fun v s1 z0=>?_);obtain⟨x,H1,I1,r1,q1⟩:=z0;refine wpAny_Slice (thn (hl pins s1 σ H1 _ I1 q1) fun vl s2 ⟨l,H2,I2,pl,q2⟩=>thn (hu pins s2 σ H2 _ I2 q2) fun vu s3 ⟨u,H3,I3,pu,q3⟩=>?_);rw[evalPart_none];refine wpAny_pure ?_;have I4:Inv X pins σ H3 { s3 with heap:=s3.heap.push { cls:=.type "slice",data:=.fields #[vl,vu,.none] } }:=I3.kept (t':=s3.toks) fun b ob q=>Heap.get?_push_of_some _ q
 obtain⟨T,id,hT,ht,hg⟩:=hr pins { s3 with heap:=s3.heap.push { cls:=.type "slice",data:=.fields #[vl,vu,.none] } } σ H3 x v vl vu l u s3.heap.objs.size Q I4 r1 (Heap.IsSliceOf.new ..) pl pu q3;show wpAny (model X.prog X.w) X.A (subscriptTail e (.Slice lo hi none p2) v (.ref s3.heap.objs.size)) (EP X pins σ Q) X.xe { s3 with heap:=s3.heap.push { cls:=.type "slice",data:=.fields #[vl,vu,.none] } };exact tail_any (ops:=[.ref s3.heap.objs.size,v]) ht hT hg (by with_unfolding_all rfl)
def cutV(xs:List V)(lo hi:Option Int):List V:=(xs.drop (HT.sIx xs.length 0 lo)).take (HT.sIx xs.length xs.length hi-HT.sIx xs.length 0 lo)
theorem zM3(xs:List V)(lo hi:Option Int):(cutV xs lo hi).length<=xs.length:=by
 unfold cutV;rw[qCn,qDh]
 lia
end
end L2
namespace L2
open PySem PySem.Spec PyProof.Rows
noncomputable def ixN(n:Nat)(i:Int):Option Nat:=if 0<=i then(if i<n then some i.toNat else none)else if -(n:Int)<=i then some (i+n).toNat else none
def atI{α:Type}(xs:List α)(i:Int):Option α:=(ixN xs.length i).bind fun j=>xs[j]?
theorem zPT{n:Nat}{i:Int}{j:Nat}(h:ixN n i=some j):seqIndex? i n=some j/\j<n/\-(n:Int)<=i/\i<n:=by
 unfold ixN at h
 by_cases h0:0<=i
 ·rw[if_pos h0]at h
  by_cases h1:i<n
  ·rw[if_pos h1]at h;have e:i.toNat=j:=qAx h;exact⟨by rw[seqIndex_of h0 h1,e],by lia,by lia,h1⟩
  ·rw[if_neg h1]at h;cases h
 ·rw[if_neg h0]at h
  by_cases h1:-(n:Int)<=i
  ·rw[if_pos h1]at h;have e:(i+n).toNat=j:=qAx h;exact⟨by rw[seqIndex_neg (by lia) h1,e],by lia,h1,by lia⟩
  ·rw[if_neg h1]at h;cases h
theorem zM9{α:Type}{xs:List α}{i:Int}{v:α}(h:atI xs i=some v):∃j,seqIndex? i xs.length=some j/\xs[j]?=some v/\j<xs.length/\-(xs.length:Int)<=i/\i<xs.length:=by
 unfold atI at h;cases e:ixN xs.length i with
 |none=>rw[e]at h;cases h
 |some j=>
  rw[e]at h;obtain⟨h1,h2,h3,h4⟩:=zPT e;exact⟨j,h1,h,h2,h3,h4⟩
def zWD(b:Expr):Prop:=∀o i,subscripted b false o i=operate [o,i] (getItem o i)
def IxR(X:Cx)(r:R2):Prop:=
 ∀(value slice:Expr)(pins:List (Addr×Obj))(s:Shared)(σ:St)(H:Hp)(x y:V)(v u:Value)(Q:VK),Inv X pins σ H s->RelV x v->RelV y u->r x y H Q ->
  subscripted slice false v u=operate [v,u] (getItem v u)->wpAny (model X.prog X.w) X.A (subscriptTail value slice v u) (EP X pins σ Q) X.xe s
def MtR(X:Cx)(id:String)(r:V->List V->Hp->VK->Prop):Prop:=
 ∀(pins:List (Addr×Obj))(s:Shared)(σ:St)(H:Hp)(x:V)(xs:List V)(v:Value)(us:List Value)(Q:VK),Inv X pins σ H s->RelV x v->Vals xs us->r x xs H Q ->
  wpAny (model X.prog X.w) X.A (call (.builtin id) (v::us)) (EP X pins σ Q) X.xe s
section
variable{X:Cx}{a b:Expr}{ta tb:TE}{pos:Pos}
theorem zAU{r:R2}(hr:IxR X r)(ha:PE X a ta)(hb:PE X b tb)(hs:zWD b):PE X (.Subscript a b pos) (tOp r ta tb):=by
 intro pins s σ H Q I h;exact Subscript_ (binT ha hb I h fun v u s2 x y H2 I2 rx ry q=>hr a b pins s2 σ H2 x y v u Q I2 rx ry q (hs _ _))
def rIxL(K:qA1):R2:=fun x y H Q=>∃p xs i v,x=.ref p/\y=.int i/\SqL K H p xs/\atI xs i=some v/\Q v H
def rIxT(K:qA1):R2:=fun x y H Q=>∃p xs i v,x=.ref p/\y=.int i/\SqT K H p xs/\atI xs i=some v/\Q v H
def rIxS:R2:=fun x y H Q=>∃z i c,x=.str z/\y=.int i/\z.length<=sizeLine/\atI z.cps.toList i=some c/\Q (.str ⟨#[c]⟩) H
theorem zVN:IxR X (rIxL X.K):=by
 intro value slice pins s σ H x y v u Q I rx ry h hs;obtain⟨p,xs,i,z,rfl,rfl,hq,he,q⟩:=h;cases rx;obtain⟨t,rfl⟩:=ry;obtain⟨its,r,pl,hz⟩:=I.list hq;obtain⟨j,h1,h2,h3,h4,h5⟩:=zM9 he;obtain⟨w,ew,rw'⟩:=r.get h2;have hl:=r.length;have hn:=zH7;have fin:EP X pins σ Q w s:=⟨z,H,I,rw',q⟩
 by_cases h0:0<=i
 ·have hj:i.toNat=j:=by
   rw[seqIndex_of h0 h5]at h1;exact qAx h1
  exact item_listR pl.isList h0 (by lia) (by rw[hj];simpa using ew) fin hs
 ·have hj:(i+(its.toArray.size:Int)).toNat=j:=by
   rw[seqIndex_neg (by lia) h4]at h1;rw[qAk,<- hl];exact qAx h1
  exact subscriptTail_builtinR (x:=w) pl.isList.typeIs slot_list_getitem.lookup
   (wpAny_getItem_list_neg (Q:=fun r s'=>r=w/\EP X pins σ Q r s') pl.isList (by lia) (by rw[qAk]<;>lia) (by lia) (by rw[hj];simpa using ew) ⟨rfl,fin⟩) hs
theorem zY1:IxR X (rIxT X.K):=by
 intro value slice pins s σ H x y v u Q I rx ry h hs;obtain⟨p,xs,i,z,rfl,rfl,hq,he,q⟩:=h;cases rx;obtain⟨t,rfl⟩:=ry;obtain⟨its,r,pl,hz⟩:=I.tuple hq;obtain⟨j,h1,h2,h3,h4,h5⟩:=zM9 he;obtain⟨w,ew,rw'⟩:=r.get h2;have hl:=r.length;have hn:=zH7;have fin:EP X pins σ Q w s:=⟨z,H,I,rw',q⟩
 exact subscriptTail_builtinR (x:=w) pl.typeIs slot_tuple_getitem.lookup
  (getItem_tuple (j:=j) (Q:=fun r s'=>r=w/\EP X pins σ Q r s') pl (by lia) (by lia) (by rw[qAk,<- hl];exact h1) (by simpa using ew) ⟨rfl,fin⟩) hs
theorem zY3:IxR X rIxS:=by
 intro value slice pins s σ H x y v u Q I rx ry h hs;obtain⟨z,i,c,rfl,rfl,hz,he,q⟩:=h;obtain⟨t,rfl⟩:=rx;obtain⟨t',rfl⟩:=ry;obtain⟨j,h1,h2,h3,h4,h5⟩:=zM9 he;have hl:z.cps.toList.length=z.length:=by simp[Str.length]
 rw[hl]at h1 h4 h5;have hn:=zH7;exact tail_any (typeIs_str s z t) slot_str_getitem.lookup (getItem_str (c:=c) (by
  have e1:decide (i < -(2 ^ 63:Int))=false:=decide_eq_false (by lia);have e2:decide (i>=2 ^ 63)=false:=decide_eq_false (by lia);rw[e1,e2,Bool.or_false]) (by rw[h1];simpa using h2) ⟨.str ⟨#[c]⟩,H,I.tok _,⟨_,rfl⟩,q⟩) hs
theorem zO0(its:List Value)(n j:Nat)(u:Value):Obj.mapSeq (·.setIfInBounds j u) { cls:=.type "list",data:=.seq its.toArray n }={ cls:=.type "list",data:=.seq (its.set j u).toArray n }:=by
 simp[Obj.mapSeq]
theorem Inv.lst{pins:List (Addr×Obj)}{σ:St}{H:Hp}{s:Shared}{p:Addr}{xs:List V}(I:Inv X pins σ H s)(h:H p=some (.lst xs)) :
  ∃(its:List Value)(n:Nat),Vals xs its/\s.heap.get? p=some { cls:=.type "list",data:=.seq its.toArray n }/\xs.length<=sizeLine:=by
 obtain⟨z,its,n,r,e⟩:=I.hok p _ h;exact⟨its,n,r,e,z⟩
theorem Inv.lstUpd{pins:List (Addr×Obj)}{σ:St}{H:Hp}{s:Shared}{p:Addr}{xs ys:List V}{its its':List Value}{n n':Nat}{f:Obj->Obj}(I:Inv X pins σ H s)(h:H p=some (.lst xs))
  (ho:s.heap.get? p=some { cls:=.type "list",data:=.seq its.toArray n }) (hf:f { cls:=.type "list",data:=.seq its.toArray n }={ cls:=.type "list",data:=.seq its'.toArray n' }) (r:Vals ys its') (hz:ys.length<=sizeLine) (t:Nat) :
  Inv X pins σ (upd H p (.lst ys)) { s with heap:=s.heap.update p f,toks:=t }:=by
 have e:(s.heap.update p f).get? p=some { cls:=.type "list",data:=.seq its'.toArray n' }:=by
  rw[Heap.get?_update_self f ho (by rw[hf]<;>rfl),hf]
 refine I.write (x:=p) (e:=p) (by rw[h];trivial) (.inl rfl) (fun b u hb q=>(Heap.get?_update_other _ _ (qCr hb)).trans q) ⟨_,e⟩ ?_;exact⟨hz,its',n',r,e⟩
def zZE:V->V->V->Hp->(Hp->Prop)->Prop:=fun o i v H Q=>∃p xs k j,o=.ref p/\i=.int k/\H p=some (.lst xs)/\ixN xs.length k=some j/\Q (upd H p (.lst (xs.set j v)))
theorem zRE:PSet X zZE:=by
 intro pins s σ H o i v ov iv u Q I ro ri rv h;obtain⟨p,xs,k,j,rfl,rfl,hp,hj,q⟩:=h;cases ro;obtain⟨t,rfl⟩:=ri;obtain⟨its,n,r,ho,hz⟩:=I.lst hp;obtain⟨h1,h2,h3,h4⟩:=zPT hj;have hl:=r.length;have hn:=zH7;have I':Inv X pins σ (upd H p (.lst (xs.set j v))) { s with heap:=s.heap.update p (Obj.mapSeq (·.setIfInBounds j u)) }:=
  I.lstUpd hp ho (zO0 its n j u) (r.set rv j) (by rw[qCt];exact hz) s.toks
 by_cases h0:0<=k
 ·have hk:k.toNat=j:=by
   rw[seqIndex_of h0 h4]at h1;exact qAx h1
  exact PySem.W.ki_setAt ho h0 (by lia) (by rw[qAk,<- hl];exact h4) (by rw[hk];exact⟨_,I',q⟩)
 ·have hk:(k+(its.toArray.size:Int)).toNat=j:=by
   rw[seqIndex_neg (by lia) h3]at h1;rw[qAk,<- hl];exact qAx h1
  exact PySem.W.ki_setBack ho (by lia) (by rw[qAk,<- hl];exact h3) (by lia) (by rw[hk];exact⟨_,I',q⟩)
theorem zJU(lo hi:Option Int)(n:Nat):(sliceBounds lo hi none n).1=((HT.sIx n 0 lo:Nat):Int)/\(sliceBounds lo hi none n).2.1=((HT.sIx n n hi:Nat):Int)/\(sliceBounds lo hi none n).2.2=1:=by
 refine⟨?_,?_,rfl⟩
 ·cases lo with
  |none=>simp[sliceBounds,HT.sIx]
  |some i=>
   simp only[sliceBounds,HT.sIx,qF9,show(1:Int)>0 by decide,if_true]
   by_cases h:i<0
   ·simp only[h,if_true]<;>lia
   ·simp only[h,if_false]<;>lia
 ·cases hi with
  |none=>simp[sliceBounds,HT.sIx]
  |some i=>
   simp only[sliceBounds,HT.sIx,qF9,show(1:Int)>0 by decide,if_true]
   by_cases h:i<0
   ·simp only[h,if_true]<;>lia
   ·simp only[h,if_false]<;>lia
theorem zIP(its:List Value)(lo hi:Option Int):slicePick its.toArray lo hi none=((its.drop (HT.sIx its.length 0 lo)).take (HT.sIx its.length its.length hi-HT.sIx its.length 0 lo)).toArray:=by
 obtain⟨h1,h2,h3⟩:=zJU lo hi its.toArray.size;unfold slicePick;rw[h1,h2,h3];simp only[sliceRange_one,pick_run,qAk]<;>rfl
def rSlL(K:qA1):V->Option Int->Option Int->Hp->VK->Prop:=fun x lo hi H Q=>∃a xs,x=.ref a/\SqL K H a xs/\∀p,H p=none->Q (.ref p) (upd H p (.lst (cutV xs lo hi)))
theorem zUO:SlR X (rSlL X.K):=by
 intro pins s σ H x v vl vu lo hi sl Q I rx hs pl pu h;obtain⟨a,xs,rfl,hx,q⟩:=h;cases rx;obtain⟨its,r,ht,hz⟩:=I.list hx;have hlen:=r.length;refine⟨"list",_,slot_list_getitem.lookup,ht.isList.typeIs,?_⟩;refine wpAny_getItem_list_slice ht.isList hs pl pu .none (by simp) ?_ (by rw[qAk]<;>lia);rw[zIP,<- hlen];refine⟨.ref s.heap.objs.size,_,I.laid (t':=s.toks) (o:=.lst (cutV xs lo hi)) (fun b ob q=>Heap.get?_push_of_some _ q) (qA5 _) ?_,rfl,q _ (I.hok.fresh (qA5 _))⟩;exact⟨qAj (zM3 xs lo hi) hz,_,0,(r.drop (HT.sIx xs.length 0 lo)).take (HT.sIx xs.length xs.length hi-HT.sIx xs.length 0 lo),Heap.get?_push_size _ rfl⟩
noncomputable def zFS:V->Bool
 |.non=>true
 |.bl _=>true
 |.int _=>true
 |.str _=>true
 |_=>false
noncomputable def eqV:V->V->Bool
 |.non,.non=>true
 |.bl a,.bl b=>a==b
 |.bl a,.int b=>(if a then 1 else 0)==b
 |.int a,.bl b=>a==(if b then 1 else 0)
 |.int a,.int b=>a==b
 |.str a,.str b=>a==b
 |_,_=>false
theorem zU1{A:Around}{s:Shared}{y x:V}{u v:Value}(ry:RelV y u)(rx:RelV x v)(fy:zFS y=true)(fx:zFS x=true):SeqAt.EqAt A s u v (eqV y x):=by
 cases y with
 |non=>
  cases ry;cases x with
  |non=>cases rx;exact SeqAt.EqAt.same _
  |bl b=>cases rx;exact SeqAt.EqAt.none_bool b
  |int b=>obtain⟨t,rfl⟩:=rx;exact SeqAt.EqAt.none_int b t
  |str b=>obtain⟨t,rfl⟩:=rx;exact SeqAt.EqAt.none_str b t
  |_=>exact absurd (show false=true from fx) qAe
 |bl a=>
  cases ry;cases x with
  |non=>cases rx;exact SeqAt.EqAt.bool_none a
  |bl b=>cases rx;exact SeqAt.EqAt.bool_bool a b
  |int b=>obtain⟨t,rfl⟩:=rx;exact SeqAt.EqAt.bool_int a b t
  |str b=>obtain⟨t,rfl⟩:=rx;exact SeqAt.EqAt.bool_str a b t
  |_=>exact absurd (show false=true from fx) qAe
 |int a=>
  obtain⟨t',rfl⟩:=ry;cases x with
  |non=>cases rx;exact SeqAt.EqAt.int_none a t'
  |bl b=>cases rx;exact SeqAt.EqAt.int_bool a t' b
  |int b=>obtain⟨t,rfl⟩:=rx;exact SeqAt.EqAt.int_int a t' b t
  |str b=>obtain⟨t,rfl⟩:=rx;exact SeqAt.EqAt.int_str a t' b t
  |_=>exact absurd (show false=true from fx) qAe
 |str a=>
  obtain⟨t',rfl⟩:=ry;cases x with
  |non=>cases rx;exact SeqAt.EqAt.str_none a t'
  |bl b=>cases rx;exact SeqAt.EqAt.str_bool a t' b
  |int b=>obtain⟨t,rfl⟩:=rx;exact SeqAt.EqAt.str_int a t' b t
  |str b=>obtain⟨t,rfl⟩:=rx;exact SeqAt.EqAt.str_str a t' b t
  |_=>exact absurd (show false=true from fx) qAe
 |_=>exact absurd (show false=true from fy) qAe
def eqU(x:V)(u:Value):Bool:=match u with
 |.none=>eqV .non x
 |.bool b=>eqV (.bl b) x
 |.int i _=>eqV (.int i) x
 |.str z _=>eqV (.str z) x
 |_=>false
theorem zU0{x y:V}{u:Value}(r:RelV y u)(f:zFS y=true):eqU x u=eqV y x:=by
 cases y with
 |non=>cases r;rfl
 |bl b=>cases r;rfl
 |int i=>obtain⟨t,rfl⟩:=r;rfl
 |str z=>obtain⟨t,rfl⟩:=r;rfl
 |_=>exact absurd (show false=true from f) qAe
theorem zHP{x:V}:∀{xs:List V}{us:List Value},Vals xs us->xs.all zFS=true->us.any (eqU x)=xs.any fun y=>eqV y x
 |_,_,.nil,_=>rfl
 |y::xs,u::us,.cons r t,f=>by
  rw[qCc,qB2]at f;rw[qCd,qCd,zU0 r f.1,zHP t f.2]
theorem zF9{A:Around}{s:Shared}{x:V}{v:Value}(rx:RelV x v)(fx:zFS x=true):∀{xs:List V}{us:List Value},Vals xs us->xs.all zFS=true->∀u∈us,SeqAt.EqAt A s u v (eqU x u)
 |_,_,.nil,_=>fun u hu=>by cases hu
 |y::xs,u::us,.cons r t,f=>fun u' hu=>by
  rw[qCc,qB2]at f
  rcases qAh.mp hu with rfl|hu
  ·rw[zU0 r f.1];exact zU1 r rx f.1 fx
  ·exact zF9 rx fx t f.2 u' hu
def inV(x:V)(xs:List V):Bool:=xs.any fun y=>eqV y x
def rIn(K:qA1)(neg:Bool):R2:=fun x y H Q=>∃p xs,y=.ref p/\(SqL K H p xs\/SqT K H p xs)/\zFS x=true/\xs.all zFS=true/\Q (.bl (if neg then !inV x xs else inV x xs)) H
theorem zPI:OpR X (compareOp .In) (rIn X.K false):=by
 intro pins s σ H x y v u Q I rx ry h;obtain⟨p,xs,rfl,hq,fx,fs,q⟩:=h;cases ry
 rcases hq with hq|hq
 ·obtain⟨its,r,pl,hz⟩:=I.list hq;refine SeqAt.in_listAt (eqU x) pl.isList (fun w hw=>zF9 rx fx r fs w (by simpa using hw)) ⟨.bl _,H,I,rfl,?_⟩;rw[show its.toArray.any (eqU x)=its.any (eqU x) by simp,zHP r fs];exact q
 ·obtain⟨its,r,pl,hz⟩:=I.tuple hq;refine SeqAt.in_tupleAt (eqU x) pl (fun w hw=>zF9 rx fx r fs w (by simpa using hw)) ⟨.bl _,H,I,rfl,?_⟩;rw[show its.toArray.any (eqU x)=its.any (eqU x) by simp,zHP r fs];exact q
theorem zK5:OpR X (compareOp .NotIn) (rIn X.K true):=by
 intro pins s σ H x y v u Q I rx ry h;obtain⟨p,xs,rfl,hq,fx,fs,q⟩:=h;cases ry
 rcases hq with hq|hq
 ·obtain⟨its,r,pl,hz⟩:=I.list hq;refine SeqAt.notIn_listAt (eqU x) pl.isList (fun w hw=>zF9 rx fx r fs w (by simpa using hw)) ⟨.bl _,H,I,rfl,?_⟩;rw[show its.toArray.any (eqU x)=its.any (eqU x) by simp,zHP r fs];exact q
 ·obtain⟨its,r,pl,hz⟩:=I.tuple hq;refine SeqAt.notIn_tupleAt (eqU x) pl (fun w hw=>zF9 rx fx r fs w (by simpa using hw)) ⟨.bl _,H,I,rfl,?_⟩;rw[show its.toArray.any (eqU x)=its.any (eqU x) by simp,zHP r fs];exact q
theorem zK4:OpR X (compareOp .NotIn) (fun x y H Q=>∃i j,x=.str i/\y=.str j/\Q (.bl (!(!(Builtin.Str.occurrences j i 0 j.length 1).isEmpty))) H):=by
 intro pins s σ H x y v u Q I rx ry h;obtain⟨i,j,rfl,rfl,q⟩:=h;obtain⟨t,rfl⟩:=rx;obtain⟨t',rfl⟩:=ry;exact notIn_str ⟨.bl _,H,I,rfl,q⟩
theorem zKU:zDM X (.builtin "len") (fun xs H Q=>∃p ys,xs=[.ref p]/\(SqL X.K H p ys\/SqT X.K H p ys)/\Q (.int ys.length) H):=by
 intro pins s σ H xs us Q I r h;obtain⟨p,ys,rfl,hq,q⟩:=h;obtain⟨u,rfl,rx⟩:=zHQ r;cases rx;have hn:=zH7
 rcases hq with hq|hq
 ·obtain⟨its,r',pl,hz⟩:=I.list hq;have hlen:=r'.length;exact Calls.call_len_list pl.isList (by simp only[qAk]<;>lia) ⟨.int ys.length,H,I.tok _,⟨s.toks+1,by rw[qAk,hlen]⟩,q⟩
 ·obtain⟨its,r',pl,hz⟩:=I.tuple hq;have hlen:=r'.length;exact len_tuple pl (by simp only[qAk]<;>lia) ⟨.int ys.length,H,I.tok _,⟨s.toks+1,by rw[qAk,hlen]⟩,q⟩
theorem zKT:zDM X (.builtin "len") (fun xs H Q=>∃z,xs=[.str z]/\z.length<=sizeLine/\Q (.int z.length) H):=by
 intro pins s σ H xs us Q I r h;obtain⟨z,rfl,hz,q⟩:=h;obtain⟨u,rfl,t,rfl⟩:=zHQ r;have hn:=zH7;exact len_str (by lia) ⟨.int z.length,H,I.tok _,⟨_,rfl⟩,q⟩
theorem zKS:zDM X (.type "list") (fun xs H Q=>∃p ys,xs=[.ref p]/\(SqL X.K H p ys\/SqT X.K H p ys)/\∀l,H l=none->Q (.ref l) (upd H l (.lst ys))):=by
 intro pins s σ H xs us Q I r h;obtain⟨p,ys,rfl,hq,q⟩:=h;obtain⟨u,rfl,rx⟩:=zHQ r;cases rx;have fin:∀(its:List Value),Vals ys its->ys.length<=sizeLine->∀(h':Heap)(c':Nat),(∀b o',s.heap.get? b=some o'->h'.get? b=some o') ->
   h'.get? s.heap.objs.size=some { cls:=.type "list",dict:=none,data:=.seq its.toArray c',slots:=#[] }->EP X pins σ Q (.ref s.heap.objs.size) { s with heap:=h' }:=fun its r' hz h' c' kp e=>
  ⟨.ref s.heap.objs.size,_,I.laid (t':=s.toks) kp (qA5 _) (show ObjOk X.prog X.w _ h' _ (.lst ys) from⟨hz,its,c',r',e⟩),rfl,q _ (I.hok.fresh (qA5 _))⟩
 rcases hq with hq|hq
 ·obtain⟨its,r',pl,hz⟩:=I.list hq;have hlen:=r'.length;obtain⟨o,ho,hc,n,hd⟩:=pl.isList;exact call_list_seq p (.inl rfl) ho hc hd (fun h' c' kp e=>fin its r' hz h' c' kp e) (by simp only[qAk]<;>lia)
 ·obtain⟨its,r',pl,hz⟩:=I.tuple hq;have hlen:=r'.length;obtain⟨o,ho,hc,n,hd⟩:=pl;exact call_list_seq p (.inr rfl) ho hc hd (fun h' c' kp e=>fin its r' hz h' c' kp e) (by simp only[qAk]<;>lia)
def tyV(K:qA1)(T:String)(x:V)(H:Hp):Prop:=match x with
 |.str _=>T = "str"
 |.int _=>T = "int"
 |.ref p=>(T = "list"/\∃xs,SqL K H p xs)\/(T = "tuple"/\∃o,K.lookup p=some o/\o.cls=.type "tuple"/\o.dict=none) \/
   (T = "dict"/\((∃kvs,H p=some (.dK kvs))\/∃kvs,H p=some (.dT kvs)))\/(T = "set"/\∃S n,H p=some (.set S n))
 |_=>False
theorem zWN{pins:List (Addr×Obj)}{σ:St}{H:Hp}{s:Shared}{T:String}{x:V}{v:Value}(I:Inv X pins σ H s)(r:RelV x v)(ty:tyV X.K T x H) :
  s.TypeIs v T/\∀a,v=.ref a->∃ob,s.heap.get? a=some ob/\ob.dict=none:=by
 cases x with
 |str z=>
  obtain⟨t,rfl⟩:=r
  cases(show T = "str" from ty)
  exact⟨typeIs_str s z t,fun _ e=>nomatch e⟩
 |int i=>
  obtain⟨t,rfl⟩:=r
  cases(show T = "int" from ty)
  exact⟨typeIs_int s i t,fun _ e=>nomatch e⟩
 |ref p=>
  cases r
  rcases ty with⟨rfl,xs,hq⟩|⟨rfl,o,hk,hc,hd⟩|⟨rfl,hk⟩|⟨rfl,S,n,hk⟩
  ·obtain⟨its,_,pl,_⟩:=I.list hq;refine⟨pl.isList.typeIs,fun a e=>?_⟩;cases e;obtain⟨o,n,e,c,hd,_⟩:=pl;exact⟨o,e,hd⟩
  ·refine⟨⟨o,I.kIn p o hk,hc⟩,fun a e=>?_⟩;cases e;exact⟨o,I.kIn _ o hk,hd⟩
  ·have z:∃o,s.heap.get? p=some o/\o.ExactDict:=by
    rcases hk with⟨kvs,hk⟩|⟨kvs,hk⟩
    ·obtain⟨_,_,_,_,o,_,_,e,ex,_⟩:=I.hok p _ hk;exact⟨o,e,ex⟩
    ·obtain⟨_,_,_,_,o,_,_,e,ex,_⟩:=I.hok p _ hk;exact⟨o,e,ex⟩
   obtain⟨o,e,ex⟩:=z;refine⟨⟨o,e,ex.1⟩,fun a e2=>?_⟩;cases e2;exact⟨o,e,ex.2.1⟩
  ·obtain⟨o,_,_,_,e,ex,_⟩:=I.hok p _ hk;refine⟨⟨o,e,ex.1⟩,fun a e2=>?_⟩;cases e2;exact⟨o,e,ex.2.1⟩
 |_=>exact qA6 ty
variable{o e:Expr}{es:List Expr}{to:TE}{t:TA}{name:Str}{apos cpos:Pos}{T id:String}{r:V->List V->Hp->VK->Prop}
end
end L2
namespace L2
open PySem PySem.Spec PyProof.Rows
def MtM(X:Cx)(id:String)(r:V->List V->Hp->VK->Prop):Prop:=
 ∀(pins:List (Addr×Obj))(s:Shared)(σ:St)(H:Hp)(x:V)(xs:List V)(v:Value)(us:List Value)(Q:VK),Inv X pins σ H s->RelV x v->Vals xs us->r x xs H Q ->
  wpAny (model X.prog X.w) X.A (call (.builtin id) (v::us)) (EP X pins σ Q) X.xe s
theorem Vals.one:∀{x:V}{us:List Value},Vals [x] us->∃u,us=[u]/\RelV x u
 |_,_,.cons r .nil=>⟨_,rfl,r⟩
section
variable{X:Cx}{pins:List (Addr×Obj)}{σ:St}{H:Hp}{s:Shared}{l b:Addr}{xs ys zs:List V}
theorem Inv.lset{its its':List Value}{n:Nat}{f:Array Value->Array Value}{t':Nat}(I:Inv X pins σ H s)(hH:H l=some (.lst xs))
  (e:s.heap.get? l=some { cls:=.type "list",data:=.seq its.toArray n }) (hf:f its.toArray=its'.toArray) (hv:Vals ys its') (hz:ys.length<=sizeLine) :
  Inv X pins σ (upd H l (.lst ys)) { s with heap:=s.heap.update l (Obj.mapSeq f),toks:=t' }:=by
 have q:=PySem.IsL.update e f;rw[hf]at q;refine I.write (x:=l) (e:=l) (by rw[hH];exact trivial) (.inl rfl) (fun b' u hb hu=>(Heap.get?_update_other s.heap (Obj.mapSeq f) (qCr hb)).trans hu) ⟨_,q⟩ ?_;exact⟨hz,its',_,hv,q⟩
theorem Inv.lnew{its:List Value}{t':Nat}(I:Inv X pins σ H s)(hv:Vals ys its)(hz:ys.length<=sizeLine) :
  Inv X pins σ (upd H s.heap.objs.size (.lst ys)) { s with heap:=s.heap.push { cls:=.type "list",data:=.seq its.toArray },toks:=t' }:=
 I.laid (fun _ _ q=>Heap.get?_push_of_some _ q) (qA5 _) ⟨hz,its,0,hv,Heap.get?_push_size _ rfl⟩
theorem Inv.fresh(I:Inv X pins σ H s):H s.heap.objs.size=none:=I.hok.fresh (qA5 _)
theorem Inv.lstM(I:Inv X pins σ H s)(hH:H l=some (.lst xs)):xs.length<=sizeLine/\∃(its:List Value)(n:Nat),Vals xs its/\xs.length=its.length/\s.heap.get? l=some { cls:=.type "list",data:=.seq its.toArray n }:=by
 obtain⟨z,its,n,r,e⟩:=I.hok l _ hH;exact⟨z,its,n,r,r.length,e⟩
end
section
variable{X:Cx}
def zUV:V->List V->Hp->VK->Prop:=fun x vs H Q=>∃l xs y,x=.ref l/\vs=[y]/\H l=some (.lst xs)/\xs.length<sizeLine/\Q .non (upd H l (.lst (xs++[y])))
theorem zPL:MtM X "list.append" zUV:=by
 intro pins s σ H x vs v us Q I rx rv h;obtain⟨l,xs,y,rfl,rfl,hH,hz,q⟩:=h;cases rx;obtain⟨u,rfl,ru⟩:=rv.one;obtain⟨z,its,n,r,hl,e⟩:=I.lstM hH;refine call_meets F.slot_list_append ⟨_,e,rfl⟩ F.entry_list_append (F.args_list_append_2 _ _) (PySem.list_append l its.toArray n u (by rw[qAk];lia)) ⟨e,?_⟩;refine⟨.non,_,I.lset (its':=its++[u]) hH e (by simp) (r.append (.cons ru .nil)) ?_,rfl,q⟩;rw[qB0,qDt]
 lia
def rCat:R2:=fun x y H Q=>∃l b xs zs,x=.ref l/\y=.ref b/\H l=some (.lst xs)/\H b=some (.lst zs)/\xs.length+zs.length<=sizeLine/\∀p,H p=none->Q (.ref p) (upd H p (.lst (xs++zs)))
theorem zXQ:OpR X (binaryOp .Add) rCat:=by
 intro pins s σ H x y v u Q I rx ry h;obtain⟨l,b,xs,zs,rfl,rfl,hH,hB,hz,q⟩:=h;cases rx;cases ry;obtain⟨z,its,n,r,hl,e⟩:=I.lstM hH;obtain⟨z2,its2,n2,r2,hl2,e2⟩:=I.lstM hB;refine PySem.P.add_list e e2 ?_ (by rw[qAk,qAk];lia);have ea:its.toArray++its2.toArray=(its++its2).toArray:=by simp
 rw[ea];exact⟨.ref _,_,I.lnew (t':=s.toks) (r.append r2) (by rw[qB0];lia),rfl,q _ I.fresh⟩
end
section
variable{prog:Program}{w:World}{A:Around}{E:Value->Shared->Prop}{s:Shared}
end
section
variable{X:Cx}
end
end L2
namespace L2
open PySem PySem.Spec PyProof.Rows
section
variable{κ:Type}[DecidableEq κ]
noncomputable def zYH(kvs:List (κ×V))(k:κ):List (κ×V):=kvs.filter fun kv=>decide (kv.1≠k)
theorem KV.drop{kvs:List (κ×V)}{vs:List (κ×Value)}(r:KV kvs vs)(k:κ):KV (zYH kvs k) (without vs k):=by
 unfold KV at r ⊢;unfold zYH without
 induction r with
 |nil=>exact .nil
 |@cons p q ps qs h t ih=>
  obtain⟨h1,h2⟩:=h;rw[qCa,qCa]
  by_cases e:p.1=k
  ·have a:¬decide (p.1≠k)=true:=by simp[e]
   have b:¬decide (q.1≠k)=true:=by simp[h1.symm.trans e]
   rw[if_neg a,if_neg b];exact ih
  ·have e':¬q.1=k:=fun z=>e (h1.trans z)
   have a:decide (p.1≠k)=true:=by simp[e]
   have b:decide (q.1≠k)=true:=by simp[e']
   rw[if_pos a,if_pos b];exact .cons ⟨h1,h2⟩ ih
end
section
variable{P:Program}{w:World}{H:Hp}{h:Heap}{a:Addr}
end
section
variable{X:Cx}{pins:List (Addr×Obj)}{σ:St}{H:Hp}{s:Shared}{a:Addr}{y v:V}{u r:Value}{o:Option V}{A:Around}{E:Value->Shared->Prop}
end
section
variable{X:Cx}{pins:List (Addr×Obj)}{σ:St}{H:Hp}{s:Shared}{a:Addr}{kvs:List (Key×V)}{k:Key}{u:Value}{A:Around}{E:Value->Shared->Prop}
end
section
variable{X:Cx}{o i e value:Expr}{pos pos' tpos:Pos}{td ty tv:TE}
end
section
variable{X:Cx}{pos:Pos}
end
structure M1(X:Cx)(o:Expr)(m:Str)(apos:Pos)(e:Expr)(cpos:Pos):Prop where
 base:attributeBase o m X.env (eval o X.env)=eval o X.env
 few:((backTo cpos (starEach [e] X.env)).all (fun x=>!x.1)&&(backToKw cpos (keywordEach [] X.env)).all (fun x=>x.1.isSome)
  && decide (([e]:List Expr).length+([]:List Keyword).length+(if([]:List Keyword).isEmpty then 0 else 1)<30))=true
 line:(apos.endLine==cpos.line)=true
 trees:backTo cpos (starEach [e] X.env)=[(false,eval e X.env)]
structure M2(X:Cx)(o:Expr)(m:Str)(apos:Pos)(e f:Expr)(cpos:Pos):Prop where
 base:attributeBase o m X.env (eval o X.env)=eval o X.env
 few:((backTo cpos (starEach [e,f] X.env)).all (fun x=>!x.1)&&(backToKw cpos (keywordEach [] X.env)).all (fun x=>x.1.isSome)
  && decide (([e,f]:List Expr).length+([]:List Keyword).length+(if([]:List Keyword).isEmpty then 0 else 1)<30))=true
 line:(apos.endLine==cpos.line)=true
 trees:backTo cpos (starEach [e,f] X.env)=[(false,eval e X.env),(false,eval f X.env)]
section
variable{X:Cx}{pins:List (Addr×Obj)}{σ:St}{H:Hp}{s:Shared}{a:Addr}{y d:V}{u r:Value}{o:Option V}{A:Around}{E:Value->Shared->Prop}
end
section
variable{X:Cx}{o e f:Expr}{apos cpos:Pos}{td ty tx:TE}
end
section
variable{X:Cx}{pins:List (Addr×Obj)}{σ:St}{H:Hp}{s:Shared}{a:Addr}{kvs:List (Key×V)}{A:Around}{E:Value->Shared->Prop}
end
section
variable{X:Cx}{pins:List (Addr×Obj)}{σ:St}{H:Hp}{s:Shared}{a:Addr}{y:V}{u:Value}{A:Around}{E:Value->Shared->Prop}
end
end L2
namespace Att
open PySem PySem.W PySem.Calls PyProof.Rows
theorem zHA{P:Params}{h:Heap}:∀(ns:List Int)(vs:List Value),WellAll P h vs (ns.map WData.int)->IntsAre vs ns:=by
 intro ns
 induction ns with
 |nil=>
  intro vs w;rw[qGk]at w;cases w;exact .nil
 |cons n ns ih=>
  intro vs w;rw[qAm]at w;cases w with
  |cons a b=>
   cases a;exact .cons _ _ (ih _ b)
theorem zOU{l:OpenLaw}{n:Nat}(hn:l.most=some n){P:Params}{h:Heap}{args:List WData}{vals:List Value}
  (hpre:l.row.toRowW.claim.pre args=true) (hwl:WellAll P h vals args) :
  ∃a vs ns,vals=[Value.ref a]/\args=[WData.list (ns.map WData.int)]/\h.get? a=some { cls:=.type "list",data:=.seq vs.toArray }/\IntsAre vs ns/\ns.length<=n:=by
 have hsh:WShape.hasAll [] args [.list .int]=true:=(pre_splitW hpre).1;have hc:l.pre.holds [] { args:=args }=true:=(pre_splitW hpre).2;obtain⟨d,r,rfl,h1,h2⟩:=hasAllW_cons hsh;obtain rfl:=hasAllW_nil h2;obtain⟨xs,rfl,h3⟩:=hasW_list h1;obtain⟨ns,rfl⟩:=items_int h3;have hlen:ns.length<=n:=by
  unfold OpenLaw.pre at hc;have h4:(WTm.not (.lt (.lit (.int (n:Int))) (.len (.arg 0)))).holds [] { args:=[.list (ns.map .int)] }=true:=by
   have h4:=(holds_andW hc).1;rw[hn]at h4;exact h4
  have h5:=condW_of h4 (w_not (w_lt w_lit (w_len_list (w_arg rfl))));rw[qAi]at h5;refine Nat.le_of_not_lt fun q=>?_
  have q':(n:Int)<((ns.length:Nat):Int):=by lia
  first
   |(rw[decide_eq_true q']at h5;exact absurd h5 (by decide))
   |(simp at h5;omega)
 cases hwl with
 |cons w1 w2=>
  cases w2;cases w1 with
  |list ho hall=>exact⟨_,_,ns,rfl,rfl,ho,zHA ns _ hall,hlen⟩
theorem zP6(l:OpenLaw)(args:List WData):l.row.toRowW.claim.post args (.bool true) args=true:=
 postW_of (r:=l.row.toRowW) (X:=(true==true))
  (show WShape.has [] (.bool true) .bool=true by first|rfl|decide|simp[WShape.has,WShape.arms,WShape.armsAll])
  (show(WTm.eq .res (.lit (.bool true))).value [] { args:=args,res:=some (.bool true),after:=args }=some (.bool (true==true)) from w_eq_bool (w_res rfl) w_lit) rfl
section
variable{prog:Program}{w:World}{A:Around}{E:Value->Shared->Prop}{s:Shared}{K:Frag}
end
end Att
namespace L2
open PySem PySem.Spec PyProof.Rows
theorem zJN:∀{vs:List Value}{ns:List Int},IntsAre vs ns->Vals (ns.map V.int) vs
 |_,_,.nil=>.nil
 |_,_,.cons n t h=>.cons ⟨t,rfl⟩ (zJN h)
noncomputable def zCP(s:Stmt):Arguments:=match s with
 |.FunctionDef _ a _ _ _ _ _ _ _ _=>a
 |_=>{ posonlyargs:=[],args:=[],vararg:=none,kwonlyargs:=[],kw_defaults:=[],kwarg:=none,defaults:=[] }
noncomputable def zBC(s:Stmt):List Stmt:=match s with
 |.FunctionDef _ _ b _ _ _ _ _ _ _=>b
 |_=>[]
noncomputable def zAA(s:Stmt):Scope:=match s with
 |.FunctionDef _ _ _ _ _ _ sc _ _ _=>sc
 |_=>{ kind:=.function,names:=[],isGenerator:=false,isCoroutine:=false }
abbrev CX0:CXT:=fun _ _ _ _ _ _=>False
abbrev E0:XK:=fun _ _ _=>False
theorem zZH{X:Cx}:zNF CX0 X E0:=fun _ _ _ _ _ _ _ h=>h.elim
structure Fun(K:qA1)(x qual:Str)(st:Stmt)(f:Addr)(fd:FuncData):Prop where
 ex:∃(oc:Value)(od:Option Addr)(kV doc pm:Value)(an:Option Addr)(cdv ct:Value)(osl:Array (Option Value)),
  fd=qB4 x qual (zCP st) (zBC st) (zAA st) .none kV doc pm an cdv ct/\K.lookup f=some ⟨oc,od,.func fd,osl⟩/\qC8 K cdv qual=true
 kp:qAv K (.ref f)=true
section
variable{P:Program}{w:World}{K:qA1}{mg:Str->Option Value}{base:Heap}
theorem Fun.ok{x qual:Str}{st:Stmt}{f:Addr}{fd:FuncData}{N ps:List Str}{k:Nat}{sp:Sp}(F:Fun K x qual st f fd)(S:FnScope N ps (zAA st))(len:∀vs H Q E,sp vs H Q E->vs.length=ps.length)
  (hbody:∀(cdv:Value)(A:Around)(outer:List Env)(s:Shared)(H:Hp)(vs:List V)(Q:VK)(E:XK),Room k (A.deeper (envOfC qual (zAA st) s.heap.objs.size f cdv))->sp vs H Q E ->
   ∃t,PSs (cxOf CX0 P w K mg base N qual (zAA st) f cdv A outer s H E).nox (zBC st) t/\t { nx:=fun _ H'=>Q .non H',rt:=Q } (start N vs) H):FnOk P w K mg base CX0 (k+1) f fd ps sp:=by
 obtain⟨oc,od,kV,doc,pm,an,cdv,ct,osl,rfl,lk,hcd⟩:=F.ex;refine zVV lk hcd S len fun A outer s H vs Q E hr hsp=>?_
 obtain⟨t,h,q⟩:=hbody cdv A outer s H vs Q E hr hsp;exact⟨t,h.nox,q⟩
theorem Fun.binds{x qual:Str}{st:Stmt}{f:Addr}{fd:FuncData}{ps:List Str}(F:Fun K x qual st f fd)
  (h:∀(kV doc pm:Value)(an:Option Addr)(cdv ct:Value)(us:List Value),us.length=ps.length->bindArgs (qB4 x qual (zCP st) (zBC st) (zAA st) .none kV doc pm an cdv ct) ⟨us,[]⟩=pure (ps.zip us)):Binds K fd ps []:=by
 obtain⟨oc,od,kV,doc,pm,an,cdv,ct,osl,rfl,lk,hcd⟩:=F.ex;exact .all (h kV doc pm an cdv ct)
theorem zQ3{x qual:Str}{st:Stmt}{f:Addr}{oc:Value}{od an:Option Addr}{osl:Array (Option Value)}{kV doc pm cdv ct:Value}(l:K.lookup f=some ⟨oc,od,.func (qB4 x qual (zCP st) (zBC st) (zAA st) .none kV doc pm an cdv ct),osl⟩)
  (c:qC8 K cdv qual=true) (k:qAv K (.ref f)=true):Fun K x qual st f (qB4 x qual (zCP st) (zBC st) (zAA st) .none kV doc pm an cdv ct):=⟨⟨oc,od,kV,doc,pm,an,cdv,ct,osl,rfl,l,c⟩,k⟩
end
section
variable{X:Cx}
end
def Same(H H':Hp):Prop:=∀b o,H b=some o->H' b=some o
theorem Same.refl(H:Hp):Same H H:=fun _ _ h=>h
theorem Same.trans{H H1 H2:Hp}(a:Same H H1)(b:Same H1 H2):Same H H2:=fun c o h=>b c o (a c o h)
theorem Same.free{H H':Hp}(e:Same H H'){l:Addr}(h:H' l=qEc):H l=qEc:=by
 cases q:H l with
 |none=>rfl
 |some o=>
  rw[e l o q]at h;cases h
theorem Same.seq{K:qA1}{H H':Hp}{a:Addr}{xs:List V}(e:Same H H')(h:SqL K H a xs):SqL K H' a xs:=by
 rcases h with(h|⟨o,h⟩)|h
 ·exact .inl (.inl (e _ _ h))
 ·exact .inl (.inr ⟨o,e _ _ h⟩)
 ·exact .inr h
section
variable{κ:Type}[DecidableEq κ]
end
end L2
namespace L2
open PySem PySem.Spec PyProof.Rows
theorem asN{a b:Nat}(h:a<b):a<b:=h
theorem asL{a b:Nat}(h:a<=b):a<=b:=h
theorem asE{a b:Nat}(h:a=b):a=b:=h
noncomputable def clos(cells:List (Str×Addr)):List (Str×NameKind)->List (Str×Addr)->List (Str×Addr)
 |[],acc=>acc
 |(n,k)::r,acc=>if k==.free then clos cells r ((n,(cells.lookup n).getD 0)::acc)else clos cells r acc
theorem zEO(cells:List (Str×Addr)):∀(names:List (Str×NameKind))(acc:List (Str×Addr)),clos cells names acc=clos cells names []++acc
 |[],_=>rfl
 |(n,k)::r,acc=>by
  unfold clos
  split
  ·rw[zEO cells r (_::acc),zEO cells r [_],qD8];rfl
  ·exact zEO cells r acc
theorem zGM{cells:List (Str×Addr)}{x:Str}{c:Addr}:∀{names:List (Str×NameKind)},(x,c)∈clos cells names []->(x,NameKind.free)∈names/\c=(cells.lookup x).getD 0
 |[],h=>by simp[clos]at h
 |(n,k)::r,h=>by
  unfold clos at h
  split at h
  ·rename_i hk
   rw[zEO]at h
   rcases qAs.mp h with h|h
   ·obtain⟨h1,h2⟩:=zGM h;exact⟨qAr _ h1,h2⟩
   ·have e:=qAu.mp h
    injection e with e1 e2
    subst e1;have hk':k=.free:=by simpa using hk
    subst hk';exact⟨qBg,e2⟩
  ·obtain⟨h1,h2⟩:=zGM h;exact⟨qAr _ h1,h2⟩
theorem zJF{cells:List (Str×Addr)}{x:Str}:∀{names:List (Str×NameKind)},(x,NameKind.free)∈names->(x,(cells.lookup x).getD 0)∈clos cells names []
 |[],h=>by simp at h
 |(n,k)::r,h=>by
  unfold clos
  rcases qAh.mp h with e|h
  ·injection e with e1 e2
   subst e1;subst e2;rw[if_pos (by rfl),zEO];exact qAn _ (by simp)
  ·split
   ·rw[zEO];exact qB8 _ (zJF h)
   ·exact zJF h
theorem zBY:∀(names:List (Str×NameKind))(n:Nat)(acc:List (Str×Addr)),cellsFrom n names acc=cellsFrom n names []++acc
 |[],_,_=>rfl
 |(x,k)::r,n,acc=>by
  unfold cellsFrom
  split
  ·rw[zBY r (n+1) (_::acc),zBY r (n+1) [_],qD8];rfl
  ·exact zBY r n acc
theorem zCR{x:Str}{c:Addr}:∀{names:List (Str×NameKind)}{n:Nat},(x,c)∈cellsFrom n names []->(x,NameKind.cell)∈names
 |[],_,h=>by simp[cellsFrom]at h
 |(y,k)::r,n,h=>by
  unfold cellsFrom at h
  split at h
  ·rename_i hk
   rw[zBY]at h
   rcases qAs.mp h with h|h
   ·exact qAr _ (zCR h)
   ·have e:=qAu.mp h
    injection e with e1 e2
    subst e1;have hk':k=.cell:=by simpa using hk
    subst hk';exact qBg
  ·exact qAr _ (zCR h)
theorem zCF{α:Type}{x:Str}{a:α}:∀{l:List (Str×α)},(l.map (·.1)).Nodup->(x,a)∈l->l.lookup x=some a
 |[],_,h=>by simp at h
 |(y,b)::r,nd,h=>by
  have nd':(y::r.map (·.1)).Nodup:=nd;obtain⟨h1,h2⟩:=qBf.mp nd'
  rcases qAh.mp h with e|hm
  ·injection e with e1 e2
   subst e1;subst e2;rw[qB9,beq_self_eq_true]
  ·have hne:(x==y)=false:=by
    rw[beq_eq_false_iff_ne]
    rintro rfl
    exact h1 (qAl.mpr ⟨(x,a),hm,rfl⟩)
   rw[qB9,hne];exact zCF h2 hm
theorem zET{α:Type}{x:Str}:∀{l:List (Str×α)},(∀a,(x,a)∉l)->l.lookup x=none
 |[],_=>rfl
 |(y,b)::r,h=>by
  have hne:(x==y)=false:=by
   rw[beq_eq_false_iff_ne]
   rintro rfl
   exact h b qBg
  rw[qB9,hne];exact zET fun a m=>h a (qAr _ m)
theorem zES{α:Type}{x:Str}{a:α}:∀{l:List (Str×α)},(x,a)∈l->∃b,l.lookup x=some b
 |[],h=>by simp at h
 |(y,b)::r,h=>by
  rw[qB9];cases e:x==y with
  |true=>exact⟨b,rfl⟩
  |false=>
   rcases qAh.mp h with q|q
   ·injection q with q1 _
    subst q1;rw[beq_self_eq_true]at e;cases e
   ·exact zES q
theorem zI9{α:Type}{x:Str}:∀(l k:List (Str×α)),(l++k).lookup x=(l.lookup x).or (k.lookup x)
 |[],k=>by simp
 |(y,b)::r,k=>by
  show qCu x ((y,b)::(r++k))=_;rw[qB9,qB9];cases x==y with
  |true=>rfl
  |false=>exact zI9 r k
def zYX(sc:Scope)(env:Env):Prop:=∀x,(x,NameKind.free)∈sc.names->env.kindOf x=some .cell\/env.kindOf x=some .free
theorem zFJ{sc:Scope}{env:Env}(h:∀x,(x,NameKind.free)∈sc.names->∃c,env.cells.lookup x=some c):closureFor sc env=pure (clos env.cells sc.names []):=by
 have go:∀(names:List (Str×NameKind))(acc:List (Str×Addr)),(∀x,(x,NameKind.free)∈names->∃c,env.cells.lookup x=some c) ->
   (forIn names acc fun(x:Str×NameKind)(cs:List (Str×Addr))=>(match x with|(name,kind)=>if(kind==NameKind.free)=true then(do let c <- cellOf env name;pure (qC1 ((name,c)::cs)))else pure (qC1 cs):Sem (ForInStep (List (Str×Addr)))))=pure (clos env.cells names acc):=by
  intro names
  induction names with
  |nil=>intro acc _;rfl
  |cons p r ih=>
   intro acc hn;obtain⟨n,k⟩:=p;have hr:∀x,(x,NameKind.free)∈r->∃c,env.cells.lookup x=some c:=fun x hx=>hn x (qAr _ hx)
   rw[List.forIn_cons];unfold clos
   by_cases hk:(k==NameKind.free)=true
   ·have hk':k=.free:=by simpa using hk
    subst hk';obtain⟨c,hc⟩:=hn n qBg;have e:cellOf env n=pure c:=by unfold cellOf;rw[hc]
    rw[if_pos (by rfl)];simp only[if_pos (show(NameKind.free==NameKind.free)=true from rfl),e,hc,qDi,pure_bind];exact ih _ hr
   ·rw[if_neg hk];simp only[if_neg hk,pure_bind];exact ih _ hr
 unfold closureFor;have q:=go sc.names [] h
 first
  |(rw[show(forIn sc.names ([]:List (Str×Addr)) _:Sem (List (Str×Addr)))=_ from q];rfl)
  |(refine(congrArg (fun z=>z >>= pure) q).trans ?_;rfl)
  |(simp only[q];rfl)
  |exact q
def zEN(sc:Scope)(C:Addr)(env:Env):Env:=
 { scope:=relabel sc env,locals:=C,globals:=env.globals,cells:=cellsFrom (C+1) sc.names (clos env.cells sc.names []),qual:=env.qual,func:=none,code:=env.code,frame:=env.frame,builtins:=env.builtins }
theorem zF4{M:Model}{A:Around}{E:Value->Shared->Prop}{s:Shared}{sc:Scope}{env:Env}{cl:List (Str×Addr)}{Q:Env->Shared->Prop}
  (hQ:Q { scope:=sc,locals:=s.heap.objs.size,globals:=env.globals,cells:=cellsFrom (s.heap.objs.size+1) sc.names cl,qual:=env.qual,func:=none,code:=env.code,frame:=env.frame,builtins:=env.builtins }
   { s with heap:=pushCells (s.heap.push { cls:=.type "dict",data:=.dict #[] }) sc.names }) :
  wpAny M A (newFunctionEnv sc env.globals cl [] env.qual none .none (some env)) Q E s:=by
 simp only[newFunctionEnv,Option.isSome_some,if_true];refine wpAny_bind (wpAny_alloc ?_);refine wpAny_bind (wpAny_layCells _ (fun name kind cells=>by cases hkc:kind==NameKind.cell<;>simp[hkc]) _ _ _ _ ?_);rw[show({ s with heap:=s.heap.push { cls:=.type "dict",data:=.dict #[] } }:Shared).heap.objs.size=s.heap.objs.size+1 from Heap.size_push ..];refine wpAny_bind ?_;rw[List.forIn_nil];exact wpAny_pure (wpAny_pure hQ)
def zDL(X:Cx)(N':List Str)(sc:Scope)(C:Addr)(s:Shared)(H:Hp)(fp:List Addr):Cx:=
 { X with N:=N',s₀:=s,H₀:=H,env:=zEN sc C X.env,outer:=X.stack,stack:=X.stack,ex:=fp,fn:=fun x=>sc.names.lookup x==some .cell,pn:=[],xe:=fun _ _=>False }
def PTs(X:Cx)(ifs:List Expr)(t:TT):Prop:=
 ∀(pins:List (Addr×Obj))(s:Shared)(σ:St)(H:Hp)(Q:Bool->Hp->Prop),Inv X pins σ H s->t σ H Q ->
  wpAny (model X.prog X.w) X.A (forIn ifs true fun c r=>if r=true then do let ok <- isTrue c X.env (eval c X.env);pure (qC1 ok)else pure (qC1 r)) (TP X pins σ Q) X.xe s
noncomputable def tYes:TT:=fun _ H Q=>Q true H
theorem zB6{X:Cx}:PTs X [] tYes:=fun _ _ _ H _ I h=>wpAny_tests_nil ⟨H,I,h⟩
theorem zDB{X:Cx}{c:Expr}{t:TT}(h:PT X c t):PTs X [c] t:=fun pins s σ H Q I q=>wpAny_tests_one (h pins s σ H Q I q)
structure CompNames(N N':List Str)(k:Nat)(sc:Scope)(env:Env):Prop where
 kind:sc.kind=.function
 nd:(sc.names.map (·.1)).Nodup
 len:N'.length=N.length+k
 old:∀(i:Nat)(x:Str),N'[i]?=some x->i<N.length->(x,NameKind.free)∈sc.names/\N[i]?=some x\/sc.names.lookup x=none
 free:zYX sc env
theorem zC3{sc:Scope}{env:Env}{x:Str}{k:NameKind}:∀{names:List (Str×NameKind)},
  (names.map fun(n,k)=>if(k==NameKind.free&&env.scope.kind==.function&&env.kindOf n==some .cell)then(n,NameKind.cell)else(n,k)).lookup x=some k ->
  names.lookup x=some k\/(names.lookup x=some .free/\k=.cell)
 |[],h=>by simp at h
 |(n,j)::r,h=>by
  have ih:=@zC3 sc env x k r;rw[qAm]at h;rw[qB9]
  by_cases hc:(j==NameKind.free&&env.scope.kind==.function&&env.kindOf n==some .cell)=true
  ·have h':qCu x ((n,NameKind.cell)::(r.map fun(n,k)=>if(k==NameKind.free&&env.scope.kind==.function&&env.kindOf n==some .cell)then(n,NameKind.cell)else(n,k)))=some k:=by
    rw[<- h];simp only[if_pos hc]
   rw[qB9]at h';cases e:x==n with
   |true=>
    rw[e]at h';have hk:k=.cell:=(qAx h').symm;have hj:j=.free:=by
     simp only[qB2,beq_iff_eq]at hc;exact hc.1.1
    subst hj;exact .inr ⟨rfl,hk⟩
   |false=>
    rw[e]at h';exact ih h'
  ·have h':qCu x ((n,j)::(r.map fun(n,k)=>if(k==NameKind.free&&env.scope.kind==.function&&env.kindOf n==some .cell)then(n,NameKind.cell)else(n,k)))=some k:=by
    rw[<- h];simp only[if_neg hc]
   rw[qB9]at h';cases e:x==n with
   |true=>rw[e]at h';exact .inl h'
   |false=>rw[e]at h';exact ih h'
section
variable{X:Cx}{N':List Str}{k:Nat}{sc:Scope}{pins:List (Addr×Obj)}{σ:St}{H:Hp}{s:Shared}
theorem zO5{C:Addr}{x:Str}{c:Addr}(nd:(sc.names.map (·.1)).Nodup)(h:(zEN sc C X.env).cells.lookup x=some c) :
  ((x,c)∈cellsFrom (C+1) sc.names []/\(x,NameKind.cell)∈sc.names)\/((x,NameKind.free)∈sc.names/\c=(X.env.cells.lookup x).getD 0):=by
 have m:=mem_of_lookup h;have m':(x,c)∈cellsFrom (C+1) sc.names (clos X.env.cells sc.names []):=m;rw[zBY]at m'
 rcases qAs.mp m' with z|z
 ·exact .inl ⟨z,zCR z⟩
 ·exact .inr (zGM z)
theorem zEV{C:Addr}{x:Str}(nd:(sc.names.map (·.1)).Nodup)(h:(x,NameKind.free)∈sc.names):(zEN sc C X.env).cells.lookup x=some ((X.env.cells.lookup x).getD 0):=by
 show(cellsFrom (C+1) sc.names (clos X.env.cells sc.names [])).lookup x=_
 rw[zBY,zI9,zET (fun a m=>?_),Option.none_or]
 ·obtain⟨b,hb⟩:=zES (zJF (cells:=X.env.cells) h)
  have:=(zGM (mem_of_lookup hb)).2
  rw[hb,this]
 ·have e1:=zCF nd (zCR m);rw[zCF nd h]at e1;cases e1
theorem zSB(I:Inv X pins σ H s)(hc:X.calm=true)(S:CompNames X.N N' k sc X.env){fp:List Addr}(hf:∀b∈fp,FpOk X pins H b)(hfo:∀b∈fp,∃o,s.heap.get? b=some o)
  {s4:Shared} {D C:Addr} (eD:D=s.heap.objs.size) (eC:C=s.heap.objs.size+1)
  (e4:s4={ s with heap:=pushCells ((s.heap.push { cls:=.type "list",data:=.seq #[] 0 }).push { cls:=.type "dict",data:=.dict #[] }) sc.names }) :
  Inv (zDL X N' sc C s H fp) [(D,{ cls:=.type "list",data:=.seq #[] 0 })] (σ++qA9 k none) H s4/\∀b∈fp,FpOk (zDL X N' sc C s H fp) [(D,{ cls:=.type "list",data:=.seq #[] 0 })] H b:=by
 subst eD eC e4
 generalize hh1:s.heap.push { cls:=.type "list",data:=.seq #[] 0 }=h1
 generalize hh2:h1.push { cls:=.type "dict",data:=.dict #[] }=h2
 have sz1:h1.objs.size=s.heap.objs.size+1:=by rw[<- hh1];exact Heap.size_push ..
 have sz2:h2.objs.size=s.heap.objs.size+2:=by rw[<- hh2,Heap.size_push,sz1]
 have k1:∀b o,s.heap.get? b=some o->h1.get? b=some o:=fun b o e=>by rw[<- hh1];exact Heap.get?_push_of_some _ e
 have k2:∀b o,h1.get? b=some o->h2.get? b=some o:=fun b o e=>by rw[<- hh2];exact Heap.get?_push_of_some _ e
 have k3:∀b o,h2.get? b=some o->(pushCells h2 sc.names).get? b=some o:=pushCells_keeps sc.names h2;have kk:∀b o,s.heap.get? b=some o->(pushCells h2 sc.names).get? b=some o:=fun b o e=>k3 b o (k2 b o (k1 b o e))
 have own:CellsOk (pushCells h2 sc.names) h2.objs.size (cellsFrom h2.objs.size sc.names []):=cellsFrom_ok sc.names h2 h2.objs.size [] ⟨fun _ _ hm=>(nomatch hm),qCg⟩ (qA5 _);have eC1:s.heap.objs.size+1+1=h2.objs.size:=by rw[sz2]
 have freeCell:∀x,(x,NameKind.free)∈sc.names->∃c,X.env.cells.lookup x=some c:=fun x hx=>I.ok.has x (S.free x hx)
 have cells:∀x c,(zEN sc (s.heap.objs.size+1) X.env).cells.lookup x=some c ->
   ((x,c)∈cellsFrom h2.objs.size sc.names []/\(x,NameKind.cell)∈sc.names/\(pushCells h2 sc.names).IsCell c none/\h2.objs.size<=c)\/((x,NameKind.free)∈sc.names/\X.env.cells.lookup x=some c):=fun x c e=>by
  rcases zO5 S.nd e with⟨m,q⟩|⟨m,q⟩
  ·rw[eC1]at m;exact .inl ⟨m,q,(own.empty x c m).1,(own.empty x c m).2⟩
  ·obtain⟨c',hc'⟩:=freeCell x m;rw[hc',qDi]at q;subst q;exact .inr ⟨m,hc'⟩
 have old:∀x c,X.env.cells.lookup x=some c->c<s.heap.objs.size:=fun x c e=>by
  obtain⟨v,q⟩:=I.cell x c e;exact q.lt
 have fpl:∀b∈fp,b<s.heap.objs.size:=fun b hb=>by
  obtain⟨o,e⟩:=hfo b hb;exact Heap.lt_size e
 have hCn:H (s.heap.objs.size+1)=none:=I.hok.fresh (qC2 _);have hDn:H s.heap.objs.size=none:=I.hok.fresh (qA5 _);have nofs:∀a,s.heap.objs.size<=a->a∉frs X.stack:=fun a ha hb=>by
  rcases qAh.mp (I.stkSub a hb)with e|hb
  ·have t1:=asN I.lt;have t2:=asE e;have t3:=asL ha
   lia
  ·exact I.nofs ha hb
 have fin:∀b∈fp,b∉frs X.stack:=fun b hb z=>by
  obtain⟨f0,f1,f2,f3,f4,f5⟩:=hf b hb
  rcases qAh.mp (I.stkSub b z)with e|z
  ·exact f1 e
  ·exact f2 z
 have ok:(zDL X N' sc (s.heap.objs.size+1) s H fp).Ok:=by
  refine⟨I.ok.mod,S.kind,I.ok.glob,I.ok.blt,qC2 _,?_,?_,?_,I.ok.hd,I.ok.frames,.inl rfl,?_,I.bs,qAj I.ok.bsz I.sz,?_,fin,I.stack,I.stkFree⟩
  ·intro x y c hx hy
   rcases cells x c hx with⟨m1,_,_,g1⟩|⟨m1,g1⟩<;>rcases cells y c hy with⟨m2,_,_,g2⟩|⟨m2,g2⟩
   ·exact name_of_addr own.apart m1 m2
   ·exact absurd (qAa (old y c g2) (qAj (by rw[sz2];exact qDj _ _) g1)) (qBj _)
   ·exact absurd (qAa (old x c g1) (qAj (by rw[sz2];exact qDj _ _) g2)) (qBj _)
   ·exact I.ok.inj x y c g1 g2
  ·intro x hx;have hx:(relabel sc X.env).names.lookup x=some .cell\/(relabel sc X.env).names.lookup x=some .free:=hx;have two:sc.names.lookup x=some .cell\/sc.names.lookup x=some .free:=by
    rcases hx with hx|hx
    ·rcases zC3 (sc:=sc) hx with q|⟨q,_⟩
     ·exact .inl q
     ·exact .inr q
    ·rcases zC3 (sc:=sc) hx with q|⟨_,q⟩
     ·exact .inr q
     ·cases q
   rcases two with q|q
   ·have:=qCf sc.names (s.heap.objs.size+1+1) (clos X.env.cells sc.names []) (.inl q)
    exact qD6.mp this
   ·exact⟨_,zEV S.nd (mem_of_lookup q)⟩
  ·intro x c hx e;have hx:(sc.names.lookup x==some NameKind.cell)=true:=hx;have hx':sc.names.lookup x=some .cell:=by simpa using hx
   rcases cells x c e with⟨_,_,_,g⟩|⟨m,_⟩
   ·show s.heap.objs.size<=c
    lia
   ·rw[zCF S.nd m]at hx';cases hx'
  ·intro b hb;refine⟨?_,fun x c e z=>?_⟩
   ·exact qAp (qEu (fpl b hb))
   ·rcases cells x c e with⟨_,_,_,g⟩|⟨_,g⟩
    ·have t1:=asN (fpl b hb);have t2:=asL g;have t3:=asE z
     lia
    ·exact(hf b hb).2.2.2.2.1 x c g z
  ·intro b o e hb
   rcases(hf b hb).2.2.2.1 with z|z
   ·exact I.ok.noex b o e z
   ·exact absurd (qAa (Heap.lt_size e) (qAj I.ok.bsz z)) (qBj _)
 have ns:(pushCells h2 sc.names).Ns (s.heap.objs.size+1) fun _=>none:=by
  have q:h2.Ns h1.objs.size fun _=>none:=by rw[<- hh2];exact Heap.Ns.new h1 (.type "dict")
  rw[sz1]at q;exact q.keeps k3
 have hD1:h1.get? s.heap.objs.size=some { cls:=.type "list",data:=.seq #[] 0 }:=by rw[<- hh1];exact Heap.get?_push_size _ rfl
 refine⟨⟨ok,rfl,I.bare,Un.kept kk,⟨_,ns,?_⟩,?_,hCn,?_,?_,I.hok.kept kk,?_⟩,?_⟩
 ·intro i x v h1 h2 h3;have hi:i<X.N.length:=by
   rw[<- I.len]
   by_cases hi:i<σ.length
   ·exact hi
   ·rw[qAd (by lia),qB7]at h2
    split at h2<;>cases h2
  have h2':σ[i]?=some (some v):=by
   rw[qAc (by rw[I.len];exact hi)]at h2;exact h2
  have h1:N'[i]?=some x:=h1
  rcases S.old i x h1 hi with⟨m,e⟩|e
  ·obtain⟨mm,hn,hl⟩:=I.loc;have hv:Vis X.env.scope x:=(S.free x m).elim (fun z=>.inr (.inl z)) fun z=>.inr (.inr z)
   obtain⟨u,r,l⟩:=hl i x v e h2' hv;refine⟨u,r,?_⟩
   rcases l with⟨z,_⟩|⟨_,c,hc,hcell⟩
   ·rcases S.free x m with z'|z'<;>rw[z]at z'<;>cases z'
   ·refine .inr ⟨?_,c,?_,hcell.keeps kk⟩
    ·have hv3:(relabel sc X.env).names.lookup x=some .local\/(relabel sc X.env).names.lookup x=some .cell\/(relabel sc X.env).names.lookup x=some .free:=h3
     rcases hv3 with q|q|q
     ·rcases zC3 (sc:=sc) q with q|⟨_,q⟩
      ·rw[zCF S.nd m]at q;cases q
      ·cases q
     ·exact .inl q
     ·exact .inr q
    ·have q:=zEV (X:=X) (C:=s.heap.objs.size+1) S.nd m;rw[hc,qDi]at q;exact q
  ·exfalso
   have hv3:(relabel sc X.env).names.lookup x=some .local\/(relabel sc X.env).names.lookup x=some .cell\/(relabel sc X.env).names.lookup x=some .free:=h3
   rcases hv3 with q|q|q<;>rcases zC3 (sc:=sc) q with q|⟨q,_⟩<;>rw[e]at q<;>cases q
 ·intro x c e
  rcases cells x c e with⟨_,_,g,_⟩|⟨_,g⟩
  ·exact⟨_,g⟩
  ·obtain⟨v,q⟩:=I.cell x c g;exact⟨v,q.keeps kk⟩
 ·intro x c e
  rcases cells x c e with⟨_,_,_,g⟩|⟨_,g⟩
  ·exact I.hok.fresh (by lia)
  ·exact I.freeC x c g
 ·intro p hp;have hp':p=(s.heap.objs.size,{ cls:=.type "list",data:=.seq #[] 0 }):=by
   have:p∈([]++[(s.heap.objs.size,({ cls:=.type "list",data:=.seq #[] 0 }:Obj))]:List (Addr×Obj)):=hp
   simpa using this
  subst hp';refine⟨k3 _ _ (k2 _ _ hD1),hDn,?_,nofs _ (qA5 _),fun v z=>by cases z⟩;show s.heap.objs.size≠s.heap.objs.size+1
  lia
 ·show(σ++qA9 k none).length=N'.length
  rw[qB0,qCk,I.len,S.len]
 ·intro b hb;obtain⟨f0,f1,f2,f3,f4,f5⟩:=hf b hb;refine⟨f0,(ok.exf b hb).1,fin b hb,.inl hb,fun x c e=>(ok.exf b hb).2 x c e,fun p hp=>?_⟩;have hp':p=(s.heap.objs.size,{ cls:=.type "list",data:=.seq #[] 0 }):=by
   have:p∈([]++[(s.heap.objs.size,({ cls:=.type "list",data:=.seq #[] 0 }:Obj))]:List (Addr×Obj)):=hp
   simpa using this
  subst hp';exact qBo (fpl b hb)
end
theorem zEQ{prog:Program}{w:World}{A:Around}{R:Result->Shared->Prop}{s:Shared}{elt target iter:Expr}{ifs:List Expr}{scope:Scope}{pos:Pos}{it acc:Value}{env:Env}(I:Nat->Shared->Prop)
  (turn:∀n s,I n s->wpAny (model prog w) A (pyNext it) (fun r s₁=>match r with
   |none=>R (.ok .next) s₁
   |some v=>wpAny (model prog w) A (letOwnedTupleGo target it v) (fun _ s₂'=>wpAny (model prog w) A (assign target env v) (fun _ s₂=>
     wpAny (model prog w) A (forIn ifs true fun c r=>if r=true then do let ok <- isTrue c env (eval c env);pure (qC1 ok)else pure (qC1 r)) (fun ok s₃=>
      if ok=true then wpAny (model prog w) A (eval elt env) (fun x s₄=>
       wpAny (model prog w) A (call (.builtin "list.append") [acc,x]) (fun _ s₅=>∃m,m<n/\I m s₅) (fun _ _=>False) s₄) (fun _ _=>False) s₃
      else ∃m,m<n/\I m s₃) (fun _ _=>False) s₂) (fun _ _=>False) s₂') (fun _ _=>False) s₁) (fun _ _=>False) s)
  (n:Nat) (h:I n s) :
  codeAny (model prog w) A (.compLoop (.ListComp elt [⟨target,iter,ifs,0⟩] scope pos) 0 it acc env) R s:=by
 refine codeAny_loop rfl I (fun n s hI=>?_) n h;show wpAny _ A ((compTurn (.ListComp elt [⟨target,iter,ifs,0⟩] scope pos) 0 it acc env).onRaise (fun x=>do noteFrame x env;theTreesLotGoes x)) _ _ s;refine wpAny_noted ?_;rw[compTurn_list];refine wpAny_bind (wpAny_standAt (wpAny_bind (wpAny_mono (turn n s hI) (fun r s₁ h₁=>?_) fun _ _ z=>z.elim)));cases r with
 |none=>exact wpAny_pure h₁
 |some v=>
  refine wpAny_bind (wpAny_mono h₁ (fun _ s₂' h₂'=>?_) fun _ _ z=>z.elim);refine wpAny_bind (wpAny_mono h₂' (fun _ s₂ h₂=>wpAny_bind (wpAny_mono h₂ (fun ok s₃ h₃=>?_) fun _ _ z=>z.elim)) fun _ _ z=>z.elim);cases ok with
  |false=>exact wpAny_pure ⟨rfl,h₃⟩
  |true=>
   exact wpAny_bind (wpAny_bind (wpAny_mono h₃ (fun x s₄ h₄=>wpAny_bind (wpAny_mono h₄ (fun _ s₅ h₅=>wpAny_pure (wpAny_pure ⟨rfl,h₅⟩)) fun _ _ z=>z.elim)) fun _ _ z=>z.elim))
def zOP(k:Nat)(g:TG)(tif:TT)(te:TE)(σ:St)(Q:VK)(J:It)(H1:Hp):Prop:=∃W:Nat->Nat->List V->Hp->Prop,(∃m,W 0 m [] H1)/\∀i m acc H,W i m acc H ->
 (J.stop i H/\∀D,H D=none->Q (.ref D) (upd H D (.lst acc))) \/
 (J.go i H/\acc.length<sizeLine/\∃N:List V->Hp->Prop,(∀acc' H',N acc' H'->∃m',m'<m/\W (i+1) m' acc' H')/\∀x H',J.yld i H x H'->g x (σ++qA9 k none) H' fun σ2 H2=>∃own:St,own.length=k/\σ2=σ++own/\tif σ2 H2 fun b H3=>if b=true then te σ2 H3 fun v H4=>N (acc++[v]) H4 else N acc H3)
noncomputable def zUK(wi:TI)(k:Nat)(g:TG)(tif:TT)(te:TE):TE:=fun σ H Q=>wi σ H (zOP k g tif te σ Q)
theorem HOk.track{P:Program}{w:World}{H:Hp}{h:Heap}{a:Addr}{o:HO}(x:HOk P w H h)(hn:H a=none)(new:ObjOk P w (upd H a o) h a o):HOk P w (upd H a o) h:=fun b u e=>by
 by_cases hb:b=a
 ·subst hb;rw[zAJ]at e;cases e;exact new
 ·rw[zAC hb]at e;exact(x b u e).stay (fun c v _ q=>q) (fun c q=>by rw[zAC (zAI q hn)];exact q) (fun c xs q=>by rw[zAC (zAI q hn)];exact q) fun c _ _ q _=>by rw[zAC (zAI q hn)];exact q
section
variable{X:Cx}{N':List Str}{k:Nat}{sc:Scope}{tg iter elt:Expr}{ifs:List Expr}{wi:TI}{g:TG}{tif:TT}{te:TE}{pos:Pos}
theorem zID{pins:List (Addr×Obj)}{σ:St}{H2:Hp}{s2:Shared}{Q:VK}{RR:Value->Addr->Result->Shared->Prop}{E:Value->Shared->Prop}(hc:X.calm=true)(S:CompNames X.N N' k sc X.env)
  (hg:∀C s H fp,PG (zDL X N' sc C s H fp) tg g) (hif:∀C s H fp,PTs (zDL X N' sc C s H fp) ifs tif) (he:∀C s H fp,PE (zDL X N' sc C s H fp) elt te)
  {it:Addr} {fp:List Addr} {tn:Nat->Heap->Prop} {J:It} (I2:Inv X pins σ H2 s2) (T:Turn X.prog X.w X.K tg J fp it tn) (st2:tn 0 s2.heap) (f2:∀b∈fp,FpOk X pins H2 b)
  {W:Nat->Nat->List V->Hp->Prop} {m0:Nat} (w0:W 0 m0 [] H2)
  (turn:∀i m acc H,W i m acc H->(J.stop i H/\∀D,H D=none->Q (.ref D) (upd H D (.lst acc))) \/
   (J.go i H/\acc.length<sizeLine/\∃N:List V->Hp->Prop,(∀acc' H',N acc' H'->∃m',m'<m/\W (i+1) m' acc' H')/\∀x H',J.yld i H x H'->g x (σ++qA9 k none) H' fun σ2 H2=>∃own:St,own.length=k/\σ2=σ++own/\tif σ2 H2 fun b H3=>if b=true then te σ2 H3 fun v H4=>N (acc++[v]) H4 else N acc H3))
  (hRR:∀D C s' H',D<C->s2.heap.objs.size<=D->(∃m,s'.heap.Ns C m)->H' C=none->C∉frs X.stack->Inv X pins σ H' s'->Q (.ref D) H'->RR (.ref D) C (.ok .next) s') :
  wpAny (model X.prog X.w) X.A (newList []) (fun acc s₃=>wpAny (model X.prog X.w) X.A (newFunctionEnv sc X.env.globals (clos X.env.cells sc.names []) [] X.env.qual none .none (some X.env)) (fun cenv s₄=>
   codeAny (model X.prog X.w) X.A (.compStart (.ListComp elt [⟨tg,iter,ifs,0⟩] sc pos) 0 (.ref it) acc { cenv with scope:=relabel sc X.env }) (RR acc cenv.locals) s₄) E s₃) E s2:=by
 refine wpAny_newObj_type (zF4 ?_);show codeAny _ _ (.compStart _ 0 (.ref it) (.ref s2.heap.objs.size) _) _ _;have szp:(s2.heap.push { cls:=.type "list",dict:=none,data:=.seq ([]:List Value).toArray }).objs.size=s2.heap.objs.size+1:=Heap.size_push ..;obtain⟨I4,F4⟩:=zSB (s4:={ s2 with heap:=pushCells ((s2.heap.push { cls:=.type "list",data:=.seq #[] 0 }).push { cls:=.type "dict",data:=.dict #[] }) sc.names }) I2 hc S f2 (fun b hb=>let⟨o,e,_⟩:=T.obj 0 _ st2 b hb;⟨o,e⟩) rfl rfl rfl
 generalize hC:(s2.heap.push { cls:=.type "list",dict:=none,data:=.seq ([]:List Value).toArray }).objs.size=C at *
 have eC:C=s2.heap.objs.size+1:=szp;rw[<- eC]at I4 F4
 generalize hs4:({ s2 with heap:=pushCells ((s2.heap.push { cls:=.type "list",data:=.seq #[] 0 }).push { cls:=.type "dict",data:=.dict #[] }) sc.names }:Shared)=s4 at I4 F4
 have kk:∀b o,s2.heap.get? b=some o->s4.heap.get? b=some o:=fun b o e=>by
  rw[<- hs4];exact pushCells_keeps sc.names _ b o (Heap.get?_push_of_some _ (Heap.get?_push_of_some _ e))
 have st4:tn 0 s4.heap:=T.keep 0 _ _ st2 fun b _ o e=>kk b o e
 generalize hX':zDL X N' sc C s2 H2 fp=X' at I4 F4
 have henv:X'.env=zEN sc C X.env:=by rw[<- hX'];rfl
 have xprog:X'.prog=X.prog:=by rw[<- hX'];rfl
 have xw:X'.w=X.w:=by rw[<- hX'];rfl
 have xK:X'.K=X.K:=by rw[<- hX'];rfl
 have xcalm:X'.calm=true:=by rw[<- hX'];exact hc
 have xA:X'.A=X.A:=by rw[<- hX'];rfl
 have xpn:X'.pn=[]:=by rw[<- hX'];rfl
 have xxe:X'.xe=fun _ _=>False:=by rw[<- hX'];rfl
 have xs0:X'.s₀=s2:=by rw[<- hX'];rfl
 have xH0:X'.H₀=H2:=by rw[<- hX'];rfl
 have xfs:X'.fs=frs X.stack:=by rw[<- hX'];rfl
 have xex:X'.ex=fp:=by rw[<- hX'];rfl
 have hgX:PG X' tg g:=by rw[<- hX'];exact hg C s2 H2 fp
 have hifX:PTs X' ifs tif:=by rw[<- hX'];exact hif C s2 H2 fp
 have heX:PE X' elt te:=by rw[<- hX'];exact he C s2 H2 fp
 have locC:X'.env.locals=C:=by rw[henv];rfl
 generalize hDd:s2.heap.objs.size=D at *
 have loop:codeAny (model X.prog X.w) X.A (.compLoop (.ListComp elt [⟨tg,iter,ifs,0⟩] sc pos) 0 (.ref it) (.ref D) (zEN sc C X.env)) (RR (.ref D) C) s4:=by
  refine zEQ (fun n s'=>∃i H' acc its nn,Inv X' [] (σ++qA9 k none) H' s'/\tn i s'.heap/\(∀b∈fp,H' b=none)/\H' D=none/\W i n acc H'/\acc.length<=sizeLine/\Vals acc its/\s'.heap.get? D=some { cls:=.type "list",data:=.seq its.toArray nn }) ?_ m0 ?_
  ·rintro n s5 ⟨i,H5,acc,its,nn,I5,st5,fr5,hD5,w5,hz5,rv5,hL5⟩
   have hDlt:D<C:=by rw[eC];exact qFa _
   have pinD:Inv X' [(D,{ cls:=.type "list",data:=.seq its.toArray nn })] (σ++qA9 k none) H5 s5:=I5.pins_of fun p hp=>by
    have hp':p=(D,{ cls:=.type "list",data:=.seq its.toArray nn }):=by simpa using hp
    subst hp';refine⟨hL5,hD5,?_,?_,fun v z=>by cases z⟩
    ·rw[locC];exact qAp hDlt
    ·have q:=(I4.pin (D,{ cls:=.type "list",data:=.seq #[] 0 }) (by simp)).2.2.2.1;exact q
   have fpD:∀{H':Hp}{oo:Obj},(∀b∈fp,H' b=none)->∀b∈fp,FpOk X' [(D,oo)] H' b:=fun{H' oo} hn b hb=>by
    obtain⟨f0,f1,f2,f3,f4,f5⟩:=F4 b hb;refine⟨hn b hb,f1,f2,f3,f4,fun p hp=>?_⟩;have hp':p=(D,oo):=by
     rw[xpn]at hp
     simpa using hp
    subst hp';exact f5 (D,{ cls:=.type "list",data:=.seq #[] 0 }) (by simp)
   rcases turn i n acc H5 w5 with⟨stop,q⟩|⟨go,hlt,N,hN,step⟩
   ·have dn:=T.done X' xprog xw xK xcalm i _ s5 _ H5 (fun _ _=>False) pinD (fpD fr5) st5 stop;rw[xA]at dn;refine thn dn fun r s6 z0=>?_
    obtain⟨hr,I6⟩:=z0;subst hr;show RR (.ref D) C (.ok .next) s6;have hL6:=(I6.pin (D,{ cls:=.type "list",data:=.seq its.toArray nn }) (by simp)).1;have un6:Un (frs X.stack) fp H2 H5 s2.heap s6.heap:=by
     have:=I6.base
     rw[xs0,xH0,xfs,xex]at this;exact this
    have hok6:HOk X.prog X.w H5 s6.heap:=by
     have:=I6.hok
     rw[xprog,xw]at this;exact this
    have hDno:s2.heap.get? D=none:=Heap.get?_none_of_le (by rw[hDd];exact qA5 _);have un7:Un (frs X.stack) fp H2 (upd H5 D (.lst acc)) s2.heap s6.heap:=
     ⟨un6.keep,un6.slot,fun b o e n hx=>by
       have hb:b≠D:=by rintro rfl;rw[hDno]at e;cases e
       rw[zAC hb];exact un6.free b o e n hx,un6.there,
      fun b xs e=>by
       have e':=un6.tups b xs e;rw[zAC (zAI e' hD5)];exact e',
      fun b o u e=>by
       have e':=un6.frzs b o u e;rw[zAC (zAI e' hD5)];exact e',
      fun b ps e=>by
       obtain⟨more,e'⟩:=un6.tbls b ps e;exact⟨more,by rw[zAC (zAI e' hD5)];exact e'⟩⟩
    have hok7:HOk X.prog X.w (upd H5 D (.lst acc)) s6.heap:=hok6.track hD5 ⟨hz5,its,nn,rv5,hL6⟩;have os6:s6.os=s2.os:=by have:=I6.os;rw[xs0]at this;exact this
    have I7:Inv X pins σ (upd H5 D (.lst acc)) s6:=I2.call' os6 un7 hok7 I6.bare fun b hb=>by
     obtain⟨f0,f1,f2,f3,f4,f5⟩:=f2 b hb;exact⟨f3,f1,f4,f5⟩
    obtain⟨mm,hn,_⟩:=I6.loc;rw[locC]at hn;have hC5:H5 C=none:=by have:=I6.free;rw[locC]at this;exact this
    refine hRR D C s6 (upd H5 D (.lst acc)) hDlt (qA5 _) ⟨mm,hn⟩ ?_ ?_ I7 (q D hD5)
    ·rw[zAC (qBo hDlt)];exact hC5
    ·intro hb
     rcases qAh.mp (I2.stkSub C hb)with e|hb
     ·have t1:=asN I2.lt;have t2:=asE e;rw[hDd]at t1;have t3:=asN hDlt
      lia
     ·exact I2.nofs (by rw[hDd];exact qBn hDlt) hb
   ·have itm:=T.item X' xprog xw xK xcalm i _ s5 _ H5 (fun _ _=>False) pinD (fpD fr5) st5 go;rw[xA]at itm;refine thn itm fun r s6 z0=>?_
    obtain⟨u,hr,h6⟩:=z0;subst hr;refine thn h6 fun _ s7 z0=>?_
    obtain⟨x,H7,I7,r7,y7,st7,fr7⟩:=z0;have I7':Inv X' ([(D,{ cls:=.type "list",data:=.seq its.toArray nn })]++zI5 fp s7.heap) (σ++qA9 k none) H7 s7:=I7.pinned (fpD fr7) (T.obj _ _ st7);have asg:=hgX _ s7 _ H7 x u _ I7' r7 (step x H7 y7);rw[xprog,xw,xA,henv,xxe]at asg;refine thn asg fun _ s8 z0=>?_
    obtain⟨σ8,H8,I8,own,hown,hσ8,q8⟩:=z0;have weak:∀{pl:List (Addr×Obj)}{H':Hp}{s':Shared},Inv X' pl σ8 H' s'->Inv X' [] (σ++qA9 k none) H' s':=fun{pl H' s'} J'=>by
     have J0:Inv X' [] σ8 H' s':=J'.pins_of (fun p hp=>by simp at hp);refine J0.weak (by rw[hσ8];simp[hown]) fun j v hj=>?_
     rw[hσ8]
     by_cases hjl:j<σ.length
     ·rw[qAc hjl]at hj ⊢;exact hj
     ·rw[qAd (by lia),qB7]at hj
      split at hj<;>cases hj
    have tst:=hifX _ s8 σ8 H8 _ I8 q8;rw[xprog,xw,xA,henv,xxe]at tst;refine thn tst fun b s9 z0=>?_
    obtain⟨H9,I9,q9⟩:=z0;have pin9:∀{σ':St}{H':Hp}{s':Shared},Inv X' ([(D,{ cls:=.type "list",data:=.seq its.toArray nn })]++zI5 fp s7.heap) σ' H' s' ->
      s'.heap.get? D=some { cls:=.type "list",data:=.seq its.toArray nn }/\H' D=none/\tn (i+1) s'.heap/\(∀b∈fp,H' b=none):=fun{σ' H' s'} J'=>by
     have a1:=J'.pin (D,{ cls:=.type "list",data:=.seq its.toArray nn }) (by simp);refine⟨a1.1,a1.2.1,T.keep _ _ _ st7 fun b hb o e=>(J'.pin (b,o) (qAn _ (qAn _ (zEJ hb e)))).1,fun b hb=>?_⟩;obtain⟨o,e,d⟩:=T.obj _ _ st7 b hb;exact(J'.pin (b,o) (qAn _ (qAn _ (zEJ hb e)))).2.1
    cases b with
    |false=>
     rw[if_neg qAe];rw[if_neg qAe]at q9;obtain⟨m',hm,w9⟩:=hN _ _ q9;obtain⟨p1,p2,p3,p4⟩:=pin9 I9;exact⟨m',hm,i+1,H9,acc,its,nn,weak I9,p3,p4,p2,w9,hz5,rv5,p1⟩
    |true=>
     rw[if_pos rfl];rw[if_pos rfl]at q9;have ev:=heX _ s9 σ8 H9 _ I9 q9;rw[xprog,xw,xA,henv,xxe]at ev;refine thn ev fun y s10 z0=>?_
     obtain⟨v,H10,I10,r10,n10⟩:=z0;obtain⟨m',hm,w10⟩:=hN _ _ n10;obtain⟨p1,p2,p3,p4⟩:=pin9 I10;have hlen:its.length=acc.length:=rv5.length.symm;refine wpAny_list_append_plain (items:=its.toArray) ⟨nn,p1⟩ (fun h' hl' hs'=>?_) (by simp only[qAk];lia);have hDfp:D∉fp:=fun hb=>(F4 D hb).2.2.2.2.2 (D,{ cls:=.type "list",data:=.seq #[] 0 }) (by simp) rfl
     have I11:Inv X' [] (σ++qA9 k none) H10 { s10 with heap:=h' }:=by
      have J0:Inv X' [] (σ++qA9 k none) H10 s10:=weak I10;refine J0.turned (t':=s10.toks) (it:=D) (fun b o hb e=>(hs'.2 b hb).trans e) p2 ?_ (.inr ?_) (fun x c e z=>?_) (fun p hp=>?_)
      ·rw[locC];exact qAp hDlt
      ·rw[xs0,hDd];exact qA5 _
      ·obtain⟨v',q⟩:=J0.cell x c e;obtain⟨o,ho,hd⟩:=q;rw[z,p1]at ho;cases ho;cases hd
      ·rw[xpn]at hp;simp at hp
     obtain⟨n',hk⟩:=hl';have hk':h'.get? D=some { cls:=.type "list",data:=.seq (its++[y]).toArray n' }:=by rw[hk];simp
     refine⟨m',hm,i+1,H10,acc++[v],its++[y],n',I11,T.keep _ _ _ p3 fun b hb o e=>(hs'.2 b (fun z=>hDfp (z▸hb))).trans e,p4,p2,w10,?_,rv5.append (.cons r10 .nil),hk'⟩;rw[qB0,qDt]
     lia
  ·refine⟨0,H2,[],[],0,I4.pins_of (fun p hp=>by simp at hp),st4,fun b hb=>(f2 b hb).1,I2.hok.fresh (by rw[hDd];exact qA5 _),w0,qAt _,.nil,?_⟩;exact(I4.pin (D,{ cls:=.type "list",data:=.seq #[] 0 }) (by simp)).1
 exact codeAny_compStart_list loop (T.self _ 0 _ _ _ st4 loop)
theorem zB1(hc:X.calm=true)(S:CompNames X.N N' k sc X.env)(hi:PI X tg iter wi)
  (hg:∀C s H fp,PG (zDL X N' sc C s H fp) tg g) (hif:∀C s H fp,PTs (zDL X N' sc C s H fp) ifs tif) (he:∀C s H fp,PE (zDL X N' sc C s H fp) elt te)
  (hs:∀x,foldedSetIterable iter X.env x=pure x:=by intro _;rfl):PE X (.ListComp elt [⟨tg,iter,ifs,0⟩] sc pos) (zUK wi k g tif te):=by
 intro pins s σ H Q I h;rw[eval_ListComp];have hfree:∀x,(x,NameKind.free)∈sc.names->∃c,X.env.cells.lookup x=some c:=fun x hx=>I.ok.has x (S.free x hx)
 refine wpAny_comprehension_free (use:=none) rfl hs (zFJ hfree) S.kind (fun x hx hl=>?_) ?_
 ·obtain⟨n,kd⟩:=x;dsimp only at hl ⊢;subst hl;exact zCF S.nd hx
 ·refine thn (hi pins s σ H _ I h) fun v s1 h1=>thn h1 fun itv s2 h2=>?_
  obtain⟨it,fp,tn,J,H2,e,I2,T,st2,f2,W,⟨m0,w0⟩,turn⟩:=h2;subst e;refine zID (RR:=fun acc C=>compPost (model X.prog X.w) X.A X.xe none (EP X pins σ Q) acc C) hc S hg hif he I2 T st2 f2 w0 turn ?_;intro D C s' H' hDC hD hn hCn hCf I' q;obtain⟨m,hn⟩:=hn;refine⟨m,hn,fun h' hs'=>⟨.ref D,H',?_,rfl,q⟩⟩;have hCb:s2.heap.objs.size<=C:=qBn (qEi hD hDC);refine I'.turned (t':=s'.toks) (it:=C) (fun b o hb e=>(hs'.2 b hb).trans e) hCn ?_ (.inr (qAj I2.sz hCb)) (fun x c e z=>?_) (fun p hp z=>?_)
  ·exact qBo (qAa I2.lt hCb)
  ·obtain⟨v,q⟩:=I2.cell x c e;exact absurd z (qAp (qAa q.lt hCb))
  ·exact absurd z (qAp (qAa (Heap.lt_size (I2.pin p hp).1) hCb))
theorem zCE{i:Nat}{x:Str}{pos' spos:Pos}(hN:X.N.Nodup)(hi':X.N[i]?=some x)(hx:Loc X.env.scope x)(hc:X.calm=true)(S:CompNames X.N N' k sc X.env)(hi:PI X tg iter wi)
  (hg:∀C s H fp,PG (zDL X N' sc C s H fp) tg g) (hif:∀C s H fp,PTs (zDL X N' sc C s H fp) ifs tif) (he:∀C s H fp,PE (zDL X N' sc C s H fp) elt te)
  (hsw:swapsWith (.ListComp elt [⟨tg,iter,ifs,0⟩] sc pos) (some (.Name x pos')) spos.line X.env=pure true:=by rfl)
  (hs:∀x,foldedSetIterable iter X.env x=pure x:=by intro _;rfl) (hf:X.fn x=true\/X.env.scope.names.lookup x=some .local:=by first|exact .inl rfl|exact .inr rfl|assumption) :
  PS X (.Assign [.Name x pos'] (.ListComp elt [⟨tg,iter,ifs,0⟩] sc pos) spos) (tAsg (zUK wi k g tif te) (zFR i)):=by
 intro pins s σ H Dn I h;rw[exec_Assign_Name_used _ _ _ _ hsw];refine wpAny_bind (wpAny_standAt (wpAny_bind ?_));show wpAny _ X.A (do let _ <- comprehension (.ListComp elt [⟨tg,iter,ifs,0⟩] sc pos) sc X.env _ (newList []) false (eval iter X.env) (some (assign (.Name x pos') X.env))) _ _ s;have hfree:∀x,(x,NameKind.free)∈sc.names->∃c,X.env.cells.lookup x=some c:=fun x hx=>I.ok.has x (S.free x hx)
 refine wpAny_bind (wpAny_mono (wpAny_comprehension_free (use:=some (assign (.Name x pos') X.env)) (Q:=fun _ s'=>SP X pins Dn .next s') rfl hs (zFJ hfree) S.kind (fun x hx hl=>?_) ?_)
  (fun _ s' hq=>wpAny_pure (wpAny_pure hq)) fun _ _ e=>e)
 ·obtain⟨n,kd⟩:=x;dsimp only at hl ⊢;subst hl;exact zCF S.nd hx
 ·refine thn (hi pins s σ H _ I h) fun v s1 h1=>thn h1 fun itv s2 h2=>?_
  obtain⟨it,fp,tn,J,H2,e,I2,T,st2,f2,W,⟨m0,w0⟩,turn⟩:=h2;subst e;refine zID (Q:=fun v H'=>zFR i v σ H' Dn.nx) (RR:=fun acc C=>compPost (model X.prog X.w) X.A X.xe (some (assign (.Name x pos') X.env)) (fun _ s'=>SP X pins Dn .next s') acc C) hc S hg hif he I2 T st2 f2 w0 turn ?_;intro D C s' H' hDC hD hn hCn hCf I' q;obtain⟨m,hn⟩:=hn;show wpAny _ _ (assign (.Name x pos') X.env (.ref D)) _ _ _;have hCb:s2.heap.objs.size<=C:=qBn (qEi hD hDC);have hCL:C≠X.env.locals:=qBo (qAa I2.lt hCb);have hCc:∀x c,X.env.cells.lookup x=some c->c≠C:=fun x c e z=>by
   obtain⟨v,q⟩:=I2.cell x c e;exact absurd z (qAp (qAa q.lt hCb))
  refine wpAny_assign_Name (zJS (v:=.ref D) I' hN hi' hx rfl (fun s'' I'' ⟨a,sb,ha⟩=>?_) hf);have hCa:C≠a:=by
   rcases ha with e|e
   ·rw[e];exact hCL
   ·exact fun z=>hCc x a e z.symm
  refine⟨m,hn.sameBut sb hCa,fun h' hs'=>⟨_,H',?_,q⟩⟩;refine I''.turned (t':=s''.toks) (it:=C) (fun b o hb e=>(hs'.2 b hb).trans e) hCn hCL (.inr (qAj I2.sz hCb)) hCc (fun p hp z=>?_);exact absurd z (qAp (qAa (Heap.lt_size (I2.pin p hp).1) hCb))
theorem zCS{lo:Int}{n:Nat}{σ:St}{H:Hp}{Q:VK}(Pv:Nat->List V->Hp->Prop)(h0:Pv 0 [] H)(hz:∀i acc H,i<n->Pv i acc H->acc.length<sizeLine)
  (hs:∀i acc H,i<n->Pv i acc H->g (.int (lo+i)) (σ++qA9 k none) H fun σ2 H2=>∃own:St,own.length=k/\σ2=σ++own/\tif σ2 H2 fun b H3=>if b=true then te σ2 H3 fun v H4=>Pv (i+1) (acc++[v]) H4 else Pv (i+1) acc H3)
  (hd:∀acc H,Pv n acc H->∀D,H D=none->Q (.ref D) (upd H D (.lst acc))) :
  zOP k g tif te σ Q (Itr lo n) H:=by
 refine⟨fun i m acc H=>m=n-i/\i<=n/\Pv i acc H,⟨n,by simp,qAt _,h0⟩,?_⟩
 rintro i m acc H ⟨rfl,hi,p⟩
 by_cases hlt:i<n
 ·refine .inr ⟨hlt,hz i acc H hlt p,Pv (i+1),fun acc' H' p'=>⟨n-(i+1),by lia,rfl,hlt,p'⟩,fun x H' y=>?_⟩;obtain⟨e,y⟩:=y;subst e y;exact hs i acc _ hlt p
 ·have e:i=n:=by lia
  subst e;exact .inl ⟨qA5 _,hd acc H p⟩
def zON(g:TG)(tb:TS)(D:Ends)(σ:St)(J:It)(H1:Hp):Prop:=∃W:Nat->Nat->St->Hp->Prop,(∃m,W 0 m σ H1)/\∀i m σ H,W i m σ H ->
 (J.stop i H/\D.nx σ H)\/(J.go i H/\∃N:St->Hp->Prop,(∀σ' H',N σ' H'->∃m',m'<m/\W (i+1) m' σ' H')/\∀x H',J.yld i H x H'->g x σ H' fun σ2 H2=>tb { D with nx:=N,ct:=N,bk:=D.nx } σ2 H2)
theorem zCA{body:List Stmt}{tb:TS}(hp:PassesOwn (model X.prog X.w) X.A X.env X.xe)(hc:X.calm=true)(hi:PI X tg iter wi)(hg:PG X tg g)(hb:PSs X body tb)
  (hs:∀x,foldedSetIterable iter X.env x=pure x:=by intro _;rfl):PS X (.For tg iter body [] pos) (fun D σ H=>wi σ H (zON g tb D σ)):=zXE hp hc hi hg hb hs
end
end L2
namespace L2
open PySem PySem.Spec PyProof.Rows
inductive Dat where
 |non|bl (b:Bool)|int (i:Int)|str (x:Str)|lst (xs:List Dat)|tup (xs:List Dat)
mutual
def Dat.dep:Dat->Nat
 |.lst xs=>Dat.depL xs+1
 |.tup xs=>Dat.depL xs+1
 |_=>0
def Dat.depL:List Dat->Nat
 |[]=>0
 |x::r=>max x.dep (Dat.depL r)
end
mutual
def Dat.eq:Dat->Dat->Bool
 |.non,.non=>true
 |.bl a,.bl b=>a==b
 |.bl a,.int b=>(if a then 1 else 0)==b
 |.int a,.bl b=>a==(if b then 1 else 0)
 |.int a,.int b=>a==b
 |.str a,.str b=>a==b
 |.lst xs,.lst ys=>Dat.eqL xs ys
 |.tup xs,.tup ys=>Dat.eqL xs ys
 |_,_=>false
def Dat.eqL:List Dat->List Dat->Bool
 |[],[]=>true
 |x::r,y::q=>Dat.eq x y&&Dat.eqL r q
 |_,_=>false
end
mutual
def Rep(H:Hp):Dat->V->Prop
 |.non,v=>v=.non
 |.bl b,v=>v=.bl b
 |.int i,v=>v=.int i
 |.str x,v=>v=.str x
 |.lst ds,v=>∃a xs,v=.ref a/\H a=some (.lst xs)/\RepL H ds xs
 |.tup ds,v=>∃a xs,v=.ref a/\H a=some (.tup xs)/\RepL H ds xs
def RepL(H:Hp):List Dat->List V->Prop
 |[],xs=>xs=[]
 |d::r,xs=>∃x q,xs=x::q/\Rep H d x/\RepL H r q
end
mutual
theorem Rep.mono{H H':Hp}(s:Same H H'):∀{d:Dat}{v:V},Rep H d v->Rep H' d v
 |.non,_,h=>h
 |.bl _,_,h=>h
 |.int _,_,h=>h
 |.str _,_,h=>h
 |.lst _,_,h=>by obtain⟨a,xs,e,e',r⟩:=h;exact⟨a,xs,e,s _ _ e',RepL.mono s r⟩
 |.tup _,_,h=>by obtain⟨a,xs,e,e',r⟩:=h;exact⟨a,xs,e,s _ _ e',RepL.mono s r⟩
theorem RepL.mono{H H':Hp}(s:Same H H'):∀{ds:List Dat}{xs:List V},RepL H ds xs->RepL H' ds xs
 |[],_,h=>h
 |_::_,_,h=>by obtain⟨x,q,e,r,t⟩:=h;exact⟨x,q,e,Rep.mono s r,RepL.mono s t⟩
end
mutual
theorem Rep.inj{H:Hp}:∀{d e:Dat}{v:V},Rep H d v->Rep H e v->d=e
 |.non,e,v,h,h'=>by cases h;cases e<;>first|rfl|(cases h';done)|(obtain⟨a,xs,z,_⟩:=h';cases z)
 |.bl b,e,v,h,h'=>by cases h;cases e<;>first|(cases h';rfl)|(cases h';done)|(obtain⟨a,xs,z,_⟩:=h';cases z)
 |.int b,e,v,h,h'=>by cases h;cases e<;>first|(cases h';rfl)|(cases h';done)|(obtain⟨a,xs,z,_⟩:=h';cases z)
 |.str b,e,v,h,h'=>by cases h;cases e<;>first|(cases h';rfl)|(cases h';done)|(obtain⟨a,xs,z,_⟩:=h';cases z)
 |.lst ds,e,v,h,h'=>by
  obtain⟨a,xs,rfl,ha,q⟩:=h;cases e with
  |lst es=>
   obtain⟨b,ys,z,hb,q'⟩:=h';cases z;rw[ha]at hb;cases hb;rw[RepL.inj q q']
  |tup es=>
   obtain⟨b,ys,z,hb,q'⟩:=h';cases z;rw[ha]at hb;cases hb
  |_=>cases h'
 |.tup ds,e,v,h,h'=>by
  obtain⟨a,xs,rfl,ha,q⟩:=h;cases e with
  |tup es=>
   obtain⟨b,ys,z,hb,q'⟩:=h';cases z;rw[ha]at hb;cases hb;rw[RepL.inj q q']
  |lst es=>
   obtain⟨b,ys,z,hb,q'⟩:=h';cases z;rw[ha]at hb;cases hb
  |_=>cases h'
theorem RepL.inj{H:Hp}:∀{ds es:List Dat}{xs:List V},RepL H ds xs->RepL H es xs->ds=es
 |[],[],_,_,_=>rfl
 |[],_::_,_,h,h'=>by cases h;obtain⟨x,q,e,_⟩:=h';cases e
 |_::_,[],_,h,h'=>by cases h';obtain⟨x,q,e,_⟩:=h;cases e
 |d::r,e::t,_,h,h'=>by
  obtain⟨x,q,rfl,r1,t1⟩:=h;obtain⟨x',q',z,r2,t2⟩:=h';cases z;rw[Rep.inj r1 r2,RepL.inj t1 t2]
end
mutual
theorem Dat.eq_refl:∀d:Dat,Dat.eq d d=true
 |.non=>by simp[Dat.eq]
 |.bl _=>by simp[Dat.eq]
 |.int _=>by simp[Dat.eq]
 |.str _=>by simp[Dat.eq]
 |.lst xs=>by rw[Dat.eq];exact Dat.eqL_refl xs
 |.tup xs=>by rw[Dat.eq];exact Dat.eqL_refl xs
theorem Dat.eqL_refl:∀ds:List Dat,Dat.eqL ds ds=true
 |[]=>by simp[Dat.eqL]
 |d::r=>by rw[Dat.eqL,Dat.eq_refl d,Dat.eqL_refl r];rfl
end
theorem RepL.length{H:Hp}:∀{ds:List Dat}{xs:List V},RepL H ds xs->xs.length=ds.length
 |[],_,h=>by cases h;rfl
 |_::_,_,h=>by obtain⟨x,q,e,r,t⟩:=h;subst e;simp[RepL.length t]
theorem Dat.eqL_len:∀{xs ys:List Dat},xs.length≠ys.length->Dat.eqL xs ys=false
 |[],[],h=>absurd rfl h
 |[],_::_,_=>by simp[Dat.eqL]
 |_::_,[],_=>by simp[Dat.eqL]
 |x::r,y::q,h=>by
  rw[Dat.eqL,Dat.eqL_len (fun e=>h (by simp[e])),qCj]
theorem Dat.eqL_all:∀{xs ys:List Dat},xs.length=ys.length->∀(e:Nat->Bool),(∀j (h1:j<xs.length) (h2:j<ys.length),e j=Dat.eq xs[j] ys[j])->(qA4 xs.length).all e=Dat.eqL xs ys
 |[],[],_,_,_=>by simp[Dat.eqL]
 |[],_::_,h,_,_=>by simp at h
 |_::_,[],h,_,_=>by simp at h
 |x::r,y::q,h,e,he=>by
  have hl:r.length=q.length:=by simpa using h
  rw[qAo,qDn,qCc,Dat.eqL,he 0 (by simp) (by simp)]
  have:=Dat.eqL_all (xs:=r) (ys:=q) hl (fun j=>e (j+1)) (fun j h1 h2=>by
   rw[he (j+1) (by simpa using h1) (by simpa using h2)];simp)
  rw[<- this,qF3];rfl
theorem RepL.get{H:Hp}:∀{ds:List Dat}{xs:List V}{i:Nat}{x:V},RepL H ds xs->xs[i]?=some x->∃d,ds[i]?=some d/\Rep H d x
 |[],_,_,_,h,e=>by cases h;simp at e
 |d::_,_,0,_,h,e=>by obtain⟨x,q,e1,r,t⟩:=h;subst e1;simp at e;subst e;exact⟨d,rfl,r⟩
 |_::_,_,i+1,_,h,e=>by
  obtain⟨x,q,e1,r,t⟩:=h;subst e1;obtain⟨d',h1,h2⟩:=RepL.get (i:=i) t (by simpa using e);exact⟨d',by simpa using h1,h2⟩
theorem Dat.depL_mem{d:Dat}:∀{ds:List Dat},d∈ds->d.dep<=Dat.depL ds
 |_::_,h=>by
  rw[Dat.depL]
  rcases qAh.mp h with rfl|h
  ·exact Nat.le_max_left _ _
  ·exact qAj (Dat.depL_mem h) (Nat.le_max_right _ _)
section
variable{P:Program}{w:World}{H:Hp}
theorem zEF(A:Around):A.in1.units=A.units+1:=rfl
theorem zB4{s:Shared}{a:Addr}{xs:List V}(ok:HOk P w H s.heap)(h:H a=some (.lst xs)):∃its:List Value,Vals xs its/\s.heap.IsList a its.toArray:=by
 obtain⟨_,its,n,r,e⟩:=ok a _ h;exact⟨its,r,⟨_,e,rfl,n,rfl⟩⟩
theorem zBP{s:Shared}{a:Addr}{xs:List V}(ok:HOk P w H s.heap)(h:H a=some (.tup xs)):∃its:List Value,Vals xs its/\s.heap.IsTuple a its.toArray:=by
 obtain⟨_,its,r,e⟩:=ok a _ h;exact⟨its,r,e⟩
theorem Rep.flat{d:Dat}{v:V}(h:Rep H d v)(hf:d.dep=0):zFS v=true:=by
 cases d with
 |non=>cases h;rfl
 |bl _=>cases h;rfl
 |int _=>cases h;rfl
 |str _=>cases h;rfl
 |lst _=>simp[Dat.dep]at hf
 |tup _=>simp[Dat.dep]at hf
theorem Rep.flatEq{d e:Dat}{v u:V}(h:Rep H d v)(h':Rep H e u)(hf:d.dep=0)(hf':e.dep=0):eqV v u=Dat.eq d e:=by
 cases d<;>cases e<;>first
  |(simp[Dat.dep]at hf;done)
  |(simp[Dat.dep]at hf';done)
  |(cases h;cases h';simp[eqV,Dat.eq];done)
theorem zSI:∀(n:Nat){d e:Dat}{v u:V}{x y:Value}{A:Around}{s:Shared},d.dep<=n->HOk P w H s.heap->Rep H d v->Rep H e u->RelV v x->RelV u y->A.units+n<cLine->SeqAt.EqAt A s x y (Dat.eq d e):=by
 intro n
 induction n with
 |zero=>
  intro d e v u x y A s hd ok h1 h2 r1 r2 hu;have f1:=h1.flat (by lia)
  by_cases he:e.dep=0
  ·have f2:=h2.flat he
   have:=zU1 (A:=A) (s:=s) r1 r2 f1 f2
   rw[h1.flatEq h2 (by lia) he]at this;exact this
  ·have hu':A.units<cLine:=by lia
   cases e with
   |lst ys=>
    obtain⟨a,xs,rfl,ha,_⟩:=h2;obtain⟨its,_,hl⟩:=zB4 ok ha;cases r2;cases d with
    |non=>cases h1;cases r1;exact SeqAt.EqAt.none_list hl hu'
    |bl b=>cases h1;cases r1;exact SeqAt.EqAt.bool_list b hl hu'
    |int i=>cases h1;obtain⟨t,rfl⟩:=r1;exact SeqAt.EqAt.int_list i t hl hu'
    |str z=>cases h1;obtain⟨t,rfl⟩:=r1;exact SeqAt.EqAt.str_list z t hl hu'
    |lst _=>simp[Dat.dep]at hd
    |tup _=>simp[Dat.dep]at hd
   |tup ys=>
    obtain⟨a,xs,rfl,ha,_⟩:=h2;obtain⟨its,_,hl⟩:=zBP ok ha;cases r2;cases d with
    |non=>cases h1;cases r1;exact SeqAt.EqAt.none_tuple hl hu'
    |bl b=>cases h1;cases r1;exact SeqAt.EqAt.bool_tuple b hl hu'
    |int i=>cases h1;obtain⟨t,rfl⟩:=r1;exact SeqAt.EqAt.int_tuple i t hl hu'
    |str z=>cases h1;obtain⟨t,rfl⟩:=r1;exact SeqAt.EqAt.str_tuple z t hl hu'
    |lst _=>simp[Dat.dep]at hd
    |tup _=>simp[Dat.dep]at hd
   |_=>simp[Dat.dep]at he
 |succ n ih=>
  intro d e v u x y A s hd ok h1 h2 r1 r2 hu
  by_cases hd0:d.dep<=n
  ·exact ih hd0 ok h1 h2 r1 r2 (by lia)
  have hu':A.units<cLine:=by lia
  have pairs:∀{ds es:List Dat}{xs ys:List V}{its its2:List Value},Dat.depL ds<=n->RepL H ds xs->RepL H es ys->Vals xs its->Vals ys its2->∀j (h1:j<its.toArray.size) (h2:j<its2.toArray.size),
    SeqAt.EqAt A.in1 s its.toArray[j] its2.toArray[j] (Dat.eq (ds.getD j .non) (es.getD j .non)):=by
   intro ds es xs ys its its2 hdl q1 q2 v1 v2 j j1 j2;have l1:j<xs.length:=by have:=v1.length;simp at j1;lia
   have l2:j<ys.length:=by have:=v2.length;simp at j2;lia
   obtain⟨d',e1,p1⟩:=q1.get (i:=j) (x:=xs[j]) (by simp[l1]);obtain⟨e',e2,p2⟩:=q2.get (i:=j) (x:=ys[j]) (by simp[l2]);obtain⟨w1,g1,z1⟩:=v1.get (i:=j) (x:=xs[j]) (by simp[l1]);obtain⟨w2,g2,z2⟩:=v2.get (i:=j) (x:=ys[j]) (by simp[l2]);have k1:its.toArray[j]=w1:=by
    obtain⟨_,k⟩:=qA2.mp g1
    simpa using k
   have k2:its2.toArray[j]=w2:=by
    obtain⟨_,k⟩:=qA2.mp g2
    simpa using k
   rw[k1,k2,qA0,qA0,e1,e2];exact ih (qAj (Dat.depL_mem (qBi e1)) hdl) ok p1 p2 z1 z2 (by rw[zEF];lia)
  cases d with
  |lst ds=>
   have hdl:Dat.depL ds<=n:=by rw[Dat.dep]at hd;lia
   obtain⟨a,xs,rfl,ha,q1⟩:=h1;obtain⟨its,v1,hl1⟩:=zB4 ok ha;cases r1;cases e with
   |non=>cases h2;cases r2;exact SeqAt.EqAt.list_none hl1 hu'
   |bl b=>cases h2;cases r2;exact SeqAt.EqAt.list_bool b hl1 hu'
   |int i=>cases h2;obtain⟨t,rfl⟩:=r2;exact SeqAt.EqAt.list_int i t hl1 hu'
   |str z=>cases h2;obtain⟨t,rfl⟩:=r2;exact SeqAt.EqAt.list_str z t hl1 hu'
   |tup es=>
    obtain⟨b,ys,rfl,hb,q2⟩:=h2;obtain⟨its2,v2,hl2⟩:=zBP ok hb;cases r2;exact SeqAt.EqAt.of_refs (zKB ha hb (fun z=>nomatch z)) (SeqAt.RcAt.list_tuple hl1 hl2 hu')
   |lst es=>
    obtain⟨b,ys,rfl,hb,q2⟩:=h2;obtain⟨its2,v2,hl2⟩:=zB4 ok hb;cases r2;have len1:its.toArray.size=ds.length:=by have:=v1.length;have:=q1.length;simp;lia
    have len2:its2.toArray.size=es.length:=by have:=v2.length;have:=q2.length;simp;lia
    show SeqAt.EqAt A s (.ref a) (.ref b) (Dat.eqL ds es)
    by_cases hne:a=b
    ·
     subst hne;rw[ha]at hb;cases hb;have same:Dat.eqL ds es=true:=by
      rw[RepL.inj q1 q2];exact Dat.eqL_refl _
     rw[same];exact SeqAt.EqAt.same _
    ·refine SeqAt.EqAt.of_refs hne ?_
     by_cases hs:ds.length=es.length
     ·have:=SeqAt.RcAt.lists (A:=A) (s:=s) hl1 hl2 (by rw[len1,len2,hs]) hu' (pairs hdl q1 q2 v1 v2)
      rw[len1,Dat.eqL_all hs _ (fun j h1 h2=>by rw[qA0,qA0];simp[h1,h2])]at this;exact this
     ·rw[Dat.eqL_len hs];exact SeqAt.RcAt.lists_lengths hl1 hl2 (by rw[len1,len2];simpa using hs) hu'
  |tup ds=>
   have hdl:Dat.depL ds<=n:=by rw[Dat.dep]at hd;lia
   obtain⟨a,xs,rfl,ha,q1⟩:=h1;obtain⟨its,v1,hl1⟩:=zBP ok ha;cases r1;cases e with
   |non=>cases h2;cases r2;exact SeqAt.EqAt.tuple_none hl1 hu'
   |bl b=>cases h2;cases r2;exact SeqAt.EqAt.tuple_bool b hl1 hu'
   |int i=>cases h2;obtain⟨t,rfl⟩:=r2;exact SeqAt.EqAt.tuple_int i t hl1 hu'
   |str z=>cases h2;obtain⟨t,rfl⟩:=r2;exact SeqAt.EqAt.tuple_str z t hl1 hu'
   |lst es=>
    obtain⟨b,ys,rfl,hb,q2⟩:=h2;obtain⟨its2,v2,hl2⟩:=zB4 ok hb;cases r2;exact SeqAt.EqAt.of_refs (zKB ha hb (fun z=>nomatch z)) (SeqAt.RcAt.tuple_list hl1 hl2 hu')
   |tup es=>
    obtain⟨b,ys,rfl,hb,q2⟩:=h2;obtain⟨its2,v2,hl2⟩:=zBP ok hb;cases r2;have len1:its.toArray.size=ds.length:=by have:=v1.length;have:=q1.length;simp;lia
    have len2:its2.toArray.size=es.length:=by have:=v2.length;have:=q2.length;simp;lia
    show SeqAt.EqAt A s (.ref a) (.ref b) (Dat.eqL ds es)
    by_cases hne:a=b
    ·subst hne;rw[ha]at hb;cases hb;have same:Dat.eqL ds es=true:=by
      rw[RepL.inj q1 q2];exact Dat.eqL_refl _
     rw[same];exact SeqAt.EqAt.same _
    ·refine SeqAt.EqAt.of_refs hne ?_
     have:=SeqAt.RcAt.tuples (A:=A) (s:=s) hl1 hl2 hu' (pairs hdl q1 q2 v1 v2)
     by_cases hs:ds.length=es.length
     ·rw[len1,len2,<- hs,qF4,beq_self_eq_true,qDc,Dat.eqL_all hs _ (fun j h1 h2=>by rw[qA0,qA0];simp[h1,h2])]at this;exact this
     ·rw[len1,len2,show(ds.length==es.length)=false by simpa using hs,qCj]at this;rw[Dat.eqL_len hs];exact this
  |_=>simp[Dat.dep]at hd0
theorem zGJ{n:Nat}{A:Around}{s:Shared}(ok:HOk P w H s.heap){ds es:List Dat}{xs ys:List V}{its its2:List Value}(hdl:Dat.depL ds<=n)(hu:A.units+n<cLine)(q1:RepL H ds xs)(q2:RepL H es ys)(v1:Vals xs its)(v2:Vals ys its2) :
  ∀j (h1:j<its.toArray.size) (h2:j<its2.toArray.size),SeqAt.EqAt A s its.toArray[j] its2.toArray[j] (Dat.eq (ds.getD j .non) (es.getD j .non)):=by
 intro j j1 j2;have l1:j<xs.length:=by have:=v1.length;simp at j1;lia
 have l2:j<ys.length:=by have:=v2.length;simp at j2;lia
 obtain⟨d',e1,p1⟩:=q1.get (i:=j) (x:=xs[j]) (by simp[l1]);obtain⟨e',e2,p2⟩:=q2.get (i:=j) (x:=ys[j]) (by simp[l2]);obtain⟨w1,g1,z1⟩:=v1.get (i:=j) (x:=xs[j]) (by simp[l1]);obtain⟨w2,g2,z2⟩:=v2.get (i:=j) (x:=ys[j]) (by simp[l2]);have k1:its.toArray[j]=w1:=by
  obtain⟨_,k⟩:=qA2.mp g1
  simpa using k
 have k2:its2.toArray[j]=w2:=by
  obtain⟨_,k⟩:=qA2.mp g2
  simpa using k
 rw[k1,k2,qA0,qA0,e1,e2];exact zSI n (qAj (Dat.depL_mem (qBi e1)) hdl) ok p1 p2 z1 z2 hu
theorem zRM(n:Nat){d e:Dat}{v u:V}{x y:Value}{A:Around}{s:Shared}(hd:d.dep<=n)(ok:HOk P w H s.heap)(h1:Rep H d v)(h2:Rep H e u)(r1:RelV v x)(r2:RelV u y)(hu:A.units+n<cLine):SeqAt.RcAt A s x y (Dat.eq d e):=by
 have hu':A.units<cLine:=by lia
 cases d with
 |non=>
  cases h1;cases r1;cases e with
  |non=>
   cases h2;cases r2;exact SeqAt.RcAt.none_none
  |bl b=>
   cases h2;cases r2;exact SeqAt.RcAt.none_bool b
  |int b=>
   cases h2;obtain⟨t2,rfl⟩:=r2;exact SeqAt.RcAt.none_int b t2
  |str b=>
   cases h2;obtain⟨t2,rfl⟩:=r2;exact SeqAt.RcAt.none_str b t2
  |lst es=>
   obtain⟨p2,ys,rfl,hb,q2⟩:=h2;obtain⟨its2,v2,hl2⟩:=zB4 ok hb;cases r2;exact SeqAt.RcAt.none_list hl2 hu'
  |tup es=>
   obtain⟨p2,ys,rfl,hb,q2⟩:=h2;obtain⟨its2,v2,hl2⟩:=zBP ok hb;cases r2;exact SeqAt.RcAt.none_tuple hl2 hu'
 |bl a=>
  cases h1;cases r1;cases e with
  |non=>
   cases h2;cases r2;exact SeqAt.RcAt.bool_none a
  |bl b=>
   cases h2;cases r2;exact SeqAt.RcAt.bool_bool a b
  |int b=>
   cases h2;obtain⟨t2,rfl⟩:=r2;exact SeqAt.RcAt.bool_int a b t2
  |str b=>
   cases h2;obtain⟨t2,rfl⟩:=r2;exact SeqAt.RcAt.bool_str a b t2
  |lst es=>
   obtain⟨p2,ys,rfl,hb,q2⟩:=h2;obtain⟨its2,v2,hl2⟩:=zB4 ok hb;cases r2;exact SeqAt.RcAt.bool_list a hl2 hu'
  |tup es=>
   obtain⟨p2,ys,rfl,hb,q2⟩:=h2;obtain⟨its2,v2,hl2⟩:=zBP ok hb;cases r2;exact SeqAt.RcAt.bool_tuple a hl2 hu'
 |int a=>
  cases h1;obtain⟨t1,rfl⟩:=r1;cases e with
  |non=>
   cases h2;cases r2;exact SeqAt.RcAt.int_none a t1
  |bl b=>
   cases h2;cases r2;exact SeqAt.RcAt.int_bool a t1 b
  |int b=>
   cases h2;obtain⟨t2,rfl⟩:=r2;exact SeqAt.RcAt.int_int a t1 b t2
  |str b=>
   cases h2;obtain⟨t2,rfl⟩:=r2;exact SeqAt.RcAt.int_str a t1 b t2
  |lst es=>
   obtain⟨p2,ys,rfl,hb,q2⟩:=h2;obtain⟨its2,v2,hl2⟩:=zB4 ok hb;cases r2;exact SeqAt.RcAt.int_list a t1 hl2 hu'
  |tup es=>
   obtain⟨p2,ys,rfl,hb,q2⟩:=h2;obtain⟨its2,v2,hl2⟩:=zBP ok hb;cases r2;exact SeqAt.RcAt.int_tuple a t1 hl2 hu'
 |str a=>
  cases h1;obtain⟨t1,rfl⟩:=r1;cases e with
  |non=>
   cases h2;cases r2;exact SeqAt.RcAt.str_none a t1
  |bl b=>
   cases h2;cases r2;exact SeqAt.RcAt.str_bool a t1 b
  |int b=>
   cases h2;obtain⟨t2,rfl⟩:=r2;exact SeqAt.RcAt.str_int a t1 b t2
  |str b=>
   cases h2;obtain⟨t2,rfl⟩:=r2;exact SeqAt.RcAt.str_str a t1 b t2
  |lst es=>
   obtain⟨p2,ys,rfl,hb,q2⟩:=h2;obtain⟨its2,v2,hl2⟩:=zB4 ok hb;cases r2;exact SeqAt.RcAt.str_list a t1 hl2 hu'
  |tup es=>
   obtain⟨p2,ys,rfl,hb,q2⟩:=h2;obtain⟨its2,v2,hl2⟩:=zBP ok hb;cases r2;exact SeqAt.RcAt.str_tuple a t1 hl2 hu'
 |lst ds=>
  have hdl:Dat.depL ds+1<=n:=by rw[Dat.dep]at hd;exact hd
  obtain⟨p,xs,rfl,ha,q1⟩:=h1;obtain⟨its,v1,hl1⟩:=zB4 ok ha;cases r1;cases e with
  |non=>
   cases h2;cases r2;exact SeqAt.RcAt.list_none hl1 hu'
  |bl b=>
   cases h2;cases r2;exact SeqAt.RcAt.list_bool b hl1 hu'
  |int b=>
   cases h2;obtain⟨t2,rfl⟩:=r2;exact SeqAt.RcAt.list_int b t2 hl1 hu'
  |str b=>
   cases h2;obtain⟨t2,rfl⟩:=r2;exact SeqAt.RcAt.list_str b t2 hl1 hu'
  |lst es=>
   obtain⟨p2,ys,rfl,hb,q2⟩:=h2;obtain⟨its2,v2,hl2⟩:=zB4 ok hb;cases r2;have len1:its.toArray.size=ds.length:=by have:=v1.length;have:=q1.length;simp;lia
   have len2:its2.toArray.size=es.length:=by have:=v2.length;have:=q2.length;simp;lia
   show SeqAt.RcAt A s (.ref p) (.ref p2) (Dat.eqL ds es)
   by_cases hs:ds.length=es.length
   ·have:=SeqAt.RcAt.lists (A:=A) (s:=s) hl1 hl2 (by rw[len1,len2,hs]) hu' (zGJ ok (by lia) (by rw[zEF];lia:A.in1.units+(n-1)<cLine) q1 q2 v1 v2)
    rw[len1,Dat.eqL_all hs _ (fun j h1 h2=>by rw[qA0,qA0];simp[h1,h2])]at this;exact this
   ·rw[Dat.eqL_len hs];exact SeqAt.RcAt.lists_lengths hl1 hl2 (by rw[len1,len2];simpa using hs) hu'
  |tup es=>
   obtain⟨p2,ys,rfl,hb,q2⟩:=h2;obtain⟨its2,v2,hl2⟩:=zBP ok hb;cases r2;exact SeqAt.RcAt.list_tuple hl1 hl2 hu'
 |tup ds=>
  have hdl:Dat.depL ds+1<=n:=by rw[Dat.dep]at hd;exact hd
  obtain⟨p,xs,rfl,ha,q1⟩:=h1;obtain⟨its,v1,hl1⟩:=zBP ok ha;cases r1;cases e with
  |non=>
   cases h2;cases r2;exact SeqAt.RcAt.tuple_none hl1 hu'
  |bl b=>
   cases h2;cases r2;exact SeqAt.RcAt.tuple_bool b hl1 hu'
  |int b=>
   cases h2;obtain⟨t2,rfl⟩:=r2;exact SeqAt.RcAt.tuple_int b t2 hl1 hu'
  |str b=>
   cases h2;obtain⟨t2,rfl⟩:=r2;exact SeqAt.RcAt.tuple_str b t2 hl1 hu'
  |lst es=>
   obtain⟨p2,ys,rfl,hb,q2⟩:=h2;obtain⟨its2,v2,hl2⟩:=zB4 ok hb;cases r2;exact SeqAt.RcAt.tuple_list hl1 hl2 hu'
  |tup es=>
   obtain⟨p2,ys,rfl,hb,q2⟩:=h2;obtain⟨its2,v2,hl2⟩:=zBP ok hb;cases r2;have len1:its.toArray.size=ds.length:=by have:=v1.length;have:=q1.length;simp;lia
   have len2:its2.toArray.size=es.length:=by have:=v2.length;have:=q2.length;simp;lia
   show SeqAt.RcAt A s (.ref p) (.ref p2) (Dat.eqL ds es)
   have:=SeqAt.RcAt.tuples (A:=A) (s:=s) hl1 hl2 hu' (zGJ ok (by lia) (by rw[zEF];lia:A.in1.units+(n-1)<cLine) q1 q2 v1 v2)
   by_cases hs:ds.length=es.length
   ·rw[len1,len2,<- hs,qF4,beq_self_eq_true,qDc,Dat.eqL_all hs _ (fun j h1 h2=>by rw[qA0,qA0];simp[h1,h2])]at this;exact this
   ·rw[len1,len2,show(ds.length==es.length)=false by simpa using hs,qCj]at this;rw[Dat.eqL_len hs];exact this
theorem zNP(n:Nat){d e:Dat}{v u:V}{x y:Value}{A:Around}{s:Shared}(hd:d.dep<=n)(ok:HOk P w H s.heap)(h1:Rep H d v)(h2:Rep H e u)(r1:RelV v x)(r2:RelV u y)(hu:A.units+n<cLine):SeqAt.RcNeAt A s x y (!Dat.eq d e):=by
 have hu':A.units<cLine:=by lia
 cases d with
 |non=>
  cases h1;cases r1;cases e with
  |non=>
   cases h2;cases r2;exact SeqAt.RcNeAt.none_none
  |bl b=>
   cases h2;cases r2;exact SeqAt.RcNeAt.none_bool b
  |int b=>
   cases h2;obtain⟨t2,rfl⟩:=r2;exact SeqAt.RcNeAt.none_int b t2
  |str b=>
   cases h2;obtain⟨t2,rfl⟩:=r2;exact SeqAt.RcNeAt.none_str b t2
  |lst es=>
   obtain⟨p2,ys,rfl,hb,q2⟩:=h2;obtain⟨its2,v2,hl2⟩:=zB4 ok hb;cases r2;exact SeqAt.RcNeAt.none_list hl2 hu'
  |tup es=>
   obtain⟨p2,ys,rfl,hb,q2⟩:=h2;obtain⟨its2,v2,hl2⟩:=zBP ok hb;cases r2;exact SeqAt.RcNeAt.none_tuple hl2 hu'
 |bl a=>
  cases h1;cases r1;cases e with
  |non=>
   cases h2;cases r2;exact SeqAt.RcNeAt.bool_none a
  |bl b=>
   cases h2;cases r2;exact SeqAt.RcNeAt.bool_bool a b
  |int b=>
   cases h2;obtain⟨t2,rfl⟩:=r2;exact SeqAt.RcNeAt.bool_int a b t2
  |str b=>
   cases h2;obtain⟨t2,rfl⟩:=r2;exact SeqAt.RcNeAt.bool_str a b t2
  |lst es=>
   obtain⟨p2,ys,rfl,hb,q2⟩:=h2;obtain⟨its2,v2,hl2⟩:=zB4 ok hb;cases r2;exact SeqAt.RcNeAt.bool_list a hl2 hu'
  |tup es=>
   obtain⟨p2,ys,rfl,hb,q2⟩:=h2;obtain⟨its2,v2,hl2⟩:=zBP ok hb;cases r2;exact SeqAt.RcNeAt.bool_tuple a hl2 hu'
 |int a=>
  cases h1;obtain⟨t1,rfl⟩:=r1;cases e with
  |non=>
   cases h2;cases r2;exact SeqAt.RcNeAt.int_none a t1
  |bl b=>
   cases h2;cases r2;exact SeqAt.RcNeAt.int_bool a t1 b
  |int b=>
   cases h2;obtain⟨t2,rfl⟩:=r2;exact SeqAt.RcNeAt.int_int a t1 b t2
  |str b=>
   cases h2;obtain⟨t2,rfl⟩:=r2;exact SeqAt.RcNeAt.int_str a t1 b t2
  |lst es=>
   obtain⟨p2,ys,rfl,hb,q2⟩:=h2;obtain⟨its2,v2,hl2⟩:=zB4 ok hb;cases r2;exact SeqAt.RcNeAt.int_list a t1 hl2 hu'
  |tup es=>
   obtain⟨p2,ys,rfl,hb,q2⟩:=h2;obtain⟨its2,v2,hl2⟩:=zBP ok hb;cases r2;exact SeqAt.RcNeAt.int_tuple a t1 hl2 hu'
 |str a=>
  cases h1;obtain⟨t1,rfl⟩:=r1;cases e with
  |non=>
   cases h2;cases r2;exact SeqAt.RcNeAt.str_none a t1
  |bl b=>
   cases h2;cases r2;exact SeqAt.RcNeAt.str_bool a t1 b
  |int b=>
   cases h2;obtain⟨t2,rfl⟩:=r2;exact SeqAt.RcNeAt.str_int a t1 b t2
  |str b=>
   cases h2;obtain⟨t2,rfl⟩:=r2;exact SeqAt.RcNeAt.str_str a t1 b t2
  |lst es=>
   obtain⟨p2,ys,rfl,hb,q2⟩:=h2;obtain⟨its2,v2,hl2⟩:=zB4 ok hb;cases r2;exact SeqAt.RcNeAt.str_list a t1 hl2 hu'
  |tup es=>
   obtain⟨p2,ys,rfl,hb,q2⟩:=h2;obtain⟨its2,v2,hl2⟩:=zBP ok hb;cases r2;exact SeqAt.RcNeAt.str_tuple a t1 hl2 hu'
 |lst ds=>
  have hdl:Dat.depL ds+1<=n:=by rw[Dat.dep]at hd;exact hd
  obtain⟨p,xs,rfl,ha,q1⟩:=h1;obtain⟨its,v1,hl1⟩:=zB4 ok ha;cases r1;cases e with
  |non=>
   cases h2;cases r2;exact SeqAt.RcNeAt.list_none hl1 hu'
  |bl b=>
   cases h2;cases r2;exact SeqAt.RcNeAt.list_bool b hl1 hu'
  |int b=>
   cases h2;obtain⟨t2,rfl⟩:=r2;exact SeqAt.RcNeAt.list_int b t2 hl1 hu'
  |str b=>
   cases h2;obtain⟨t2,rfl⟩:=r2;exact SeqAt.RcNeAt.list_str b t2 hl1 hu'
  |lst es=>
   obtain⟨p2,ys,rfl,hb,q2⟩:=h2;obtain⟨its2,v2,hl2⟩:=zB4 ok hb;cases r2;have len1:its.toArray.size=ds.length:=by have:=v1.length;have:=q1.length;simp;lia
   have len2:its2.toArray.size=es.length:=by have:=v2.length;have:=q2.length;simp;lia
   show SeqAt.RcNeAt A s (.ref p) (.ref p2) (!Dat.eqL ds es)
   by_cases hs:ds.length=es.length
   ·have:=SeqAt.RcNeAt.lists (A:=A) (s:=s) hl1 hl2 (by rw[len1,len2,hs]) hu' (zGJ ok (by lia) (by rw[zEF];lia:A.in1.units+(n-1)<cLine) q1 q2 v1 v2)
    rw[len1,Dat.eqL_all hs _ (fun j h1 h2=>by rw[qA0,qA0];simp[h1,h2])]at this;exact this
   ·rw[Dat.eqL_len hs];exact SeqAt.RcNeAt.lists_lengths hl1 hl2 (by rw[len1,len2];simpa using hs) hu'
  |tup es=>
   obtain⟨p2,ys,rfl,hb,q2⟩:=h2;obtain⟨its2,v2,hl2⟩:=zBP ok hb;cases r2;exact SeqAt.RcNeAt.list_tuple hl1 hl2 hu'
 |tup ds=>
  have hdl:Dat.depL ds+1<=n:=by rw[Dat.dep]at hd;exact hd
  obtain⟨p,xs,rfl,ha,q1⟩:=h1;obtain⟨its,v1,hl1⟩:=zBP ok ha;cases r1;cases e with
  |non=>
   cases h2;cases r2;exact SeqAt.RcNeAt.tuple_none hl1 hu'
  |bl b=>
   cases h2;cases r2;exact SeqAt.RcNeAt.tuple_bool b hl1 hu'
  |int b=>
   cases h2;obtain⟨t2,rfl⟩:=r2;exact SeqAt.RcNeAt.tuple_int b t2 hl1 hu'
  |str b=>
   cases h2;obtain⟨t2,rfl⟩:=r2;exact SeqAt.RcNeAt.tuple_str b t2 hl1 hu'
  |lst es=>
   obtain⟨p2,ys,rfl,hb,q2⟩:=h2;obtain⟨its2,v2,hl2⟩:=zB4 ok hb;cases r2;exact SeqAt.RcNeAt.tuple_list hl1 hl2 hu'
  |tup es=>
   obtain⟨p2,ys,rfl,hb,q2⟩:=h2;obtain⟨its2,v2,hl2⟩:=zBP ok hb;cases r2;have len1:its.toArray.size=ds.length:=by have:=v1.length;have:=q1.length;simp;lia
   have len2:its2.toArray.size=es.length:=by have:=v2.length;have:=q2.length;simp;lia
   show SeqAt.RcNeAt A s (.ref p) (.ref p2) (!Dat.eqL ds es)
   have:=SeqAt.RcNeAt.tuples (A:=A) (s:=s) hl1 hl2 hu' (zGJ ok (by lia) (by rw[zEF];lia:A.in1.units+(n-1)<cLine) q1 q2 v1 v2)
   by_cases hs:ds.length=es.length
   ·rw[len1,len2,<- hs,qF4,beq_self_eq_true,qDc,Dat.eqL_all hs _ (fun j h1 h2=>by rw[qA0,qA0];simp[h1,h2])]at this;exact this
   ·rw[len1,len2,show(ds.length==es.length)=false by simpa using hs,qCj]at this;rw[Dat.eqL_len hs];exact this
end
section
variable{X:Cx}
noncomputable def rEqD:R2:=fun x y H Q=>∃d e,Rep H d x/\Rep H e y/\d.dep<=40/\Q (.bl (Dat.eq d e)) H
noncomputable def rNeD:R2:=fun x y H Q=>∃d e,Rep H d x/\Rep H e y/\d.dep<=40/\Q (.bl (!Dat.eq d e)) H
theorem zXP(hu:X.A.units+64<cLine):OpR X (compareOp .Eq) rEqD:=by
 intro pins s σ H x y v u Q I rx ry h;obtain⟨d,e,h1,h2,hd,q⟩:=h;exact zRM 40 hd I.hok h1 h2 rx ry (by lia) _ _ _ _ ⟨.bl _,H,I,rfl,q⟩
theorem zXN(hu:X.A.units+64<cLine):OpR X (compareOp .NotEq) rNeD:=by
 intro pins s σ H x y v u Q I rx ry h;obtain⟨d,e,h1,h2,hd,q⟩:=h;exact zNP 40 hd I.hok h1 h2 rx ry (by lia) _ _ _ _ ⟨.bl _,H,I,rfl,q⟩
noncomputable def zGQ(H:Hp):V->Option String
 |.non=>some "NoneType"
 |.bl _=>some "bool"
 |.int _=>some "int"
 |.str _=>some "str"
 |.ref a=>match H a with
  |some (.lst _)=>some "list"
  |some (.tup _)=>some "tuple"
  |some (.dK _)=>some "dict"
  |_=>none
 |_=>none
noncomputable def zVP(T n:String):Bool:=T==n||(T == "bool" && n == "int")
theorem zM6:zDM X (.builtin "isinstance") (fun vs H Q=>∃x n T,vs=[x,.ty n]/\zGQ H x=some T/\n∈["int","bool","str","list","tuple","dict"]/\Q (.bl (zVP T n)) H):=by
 intro pins s σ H vs us Q I r h;obtain⟨x,n,T,rfl,ht,hn,q⟩:=h;obtain⟨u,w',rfl,rx,rn⟩:=zR2 r
 cases(show w'=Value.type n from rn)
 have key:∃t,TyOf X.K H x t/\t=.type T:=by
  cases x with
  |non=>cases ht;exact⟨_,.non,rfl⟩
  |bl b=>cases ht;exact⟨_,.bl b,rfl⟩
  |int b=>cases ht;exact⟨_,.int b,rfl⟩
  |str b=>cases ht;exact⟨_,.str b,rfl⟩
  |ref a=>
   unfold zGQ at ht;dsimp only at ht;cases e:H a with
   |none=>rw[e]at ht;cases ht
   |some o=>
    rw[e]at ht;cases o with
    |lst xs=>cases ht;exact⟨_,.lst e,rfl⟩
    |tup xs=>cases ht;exact⟨_,.tup e,rfl⟩
    |dK xs=>cases ht;exact⟨_,.dK e,rfl⟩
    |_=>cases ht
  |_=>cases ht
 obtain⟨t,ty,rfl⟩:=key;have hT:T∈["NoneType","bool","int","str","list","tuple","dict"]:=by
  cases x with
  |non=>cases ht;decide
  |bl b=>cases ht;decide
  |int b=>cases ht;decide
  |str b=>cases ht;decide
  |ref a=>
   unfold zGQ at ht;dsimp only at ht;cases e:H a with
   |none=>rw[e]at ht;cases ht
   |some o=>
    rw[e]at ht;cases o with
    |lst xs=>cases ht;decide
    |tup xs=>cases ht;decide
    |dK xs=>cases ht;decide
    |_=>cases ht
  |_=>cases ht
 have e:qFx X.K (.type T) (.type n)=some (zVP T n):=by
  simp only[qAh,List.mem_nil_iff,or_false]at hT hn
  rcases hT with rfl|rfl|rfl|rfl|rfl|rfl|rfl<;>rcases hn with rfl|rfl|rfl|rfl|rfl|rfl<;>rfl
 exact zPW I rx ty e fun tk=>⟨.bl _,H,I.tok tk,rfl,q⟩
theorem zL9{prog:Program}{w:World}{A:Around}{bs:List Bool}:TruthOf prog w A (fun i v=>(bs.map Value.bool).toArray[i]?=some v) (fun i=>bs.getD i false):=by
 intro i v s Q E hv hq;have hv':(bs[i]?).map Value.bool=some v:=by simpa using hv
 cases e:bs[i]? with
 |none=>rw[e]at hv';cases hv'
 |some b=>
  rw[e]at hv';cases hv';dsimp only at hq;rw[qA0,e]at hq;exact wpAny_truthy_bool hq
theorem zI0:∀{bs:List Bool}{its:List Value},Vals (bs.map V.bl) its->its=bs.map Value.bool
 |[],_,.nil=>rfl
 |b::r,_,.cons h t=>by
  have h':_=Value.bool b:=h;rw[h',zI0 t];rfl
theorem zND:∀(bs:List Bool),(qA4 bs.length).all (fun i=>bs.getD i false)=bs.all id
 |[]=>rfl
 |b::r=>by
  rw[qAo,qDn,qCc,qCc,<- zND r,qF3];rfl
theorem zT1(hc:X.calm=true):zDM X (.builtin "all") (fun vs H Q=>∃(a:Addr)(bs:List Bool),vs=[.ref a]/\H a=some (.lst (bs.map V.bl))/\Q (.bl (bs.all id)) H):=by
 intro pins s σ H vs us Q I r h;obtain⟨a,bs,rfl,ha,q⟩:=h;obtain⟨u,rfl,rx⟩:=zHQ r;cases rx;obtain⟨its,rv,hl⟩:=zB4 I.hok ha;have e:=zI0 rv;subst e;refine call_all_walk (wpAny_pyIter_list hl ?_);have hlt:a<s.heap.objs.size:=by obtain⟨o,ho,_⟩:=hl;exact Heap.lt_size ho
 refine⟨s.heap.objs.size,_,_,_,_,_,fun i=>bs.getD i false,rfl,Walks.list (show X.A.in1.handled=none from I.ok.hd hc) s.heap.objs.size a (qAp hlt) _,
  ⟨⟨_,Heap.get?_push_size _ rfl,rfl,rfl⟩,hl.at fun o e=>Heap.get?_push_of_some _ e⟩,zL9,fun h' tk hk=>?_⟩
 refine⟨.bl _,H,I.kept (t':=tk) fun b o e=>hk b o ?_ (Heap.get?_push_of_some _ e),rfl,?_⟩
 ·have:=Heap.lt_size e
  simp only[qAu];exact qAp this
 ·have:(bs.map Value.bool).toArray.size=bs.length:=by simp
  rw[this,zND];exact q
noncomputable def zH3(lo:Int)(n:Nat):List V:=(qA4 n).map fun i=>.int (lo+(i:Nat))
theorem zGP:∀{xs:List V}{its:List Value},xs.length=its.length->(∀(j:Nat)(x:V)(v:Value),xs[j]?=some x->its[j]?=some v->RelV x v)->Vals xs its
 |[],[],_,_=>.nil
 |[],_::_,h,_=>by simp at h
 |_::_,[],h,_=>by simp at h
 |x::xs,v::its,h,g=>.cons (g 0 x v rfl rfl) (zGP (by simpa using h) fun j y u e1 e2=>g (j+1) y u (by simpa using e1) (by simpa using e2))
theorem zOF{lo:Int}{n:Nat}{its:List Value}(hl:its.length=n)(h:∀(j:Nat) (v:Value),its[j]?=some v->∃t,v=Value.int (lo+(j:Int)*1) t):Vals (zH3 lo n) its:=by
 refine zGP (by simp[zH3,hl]) fun j x v e1 e2=>?_
 unfold zH3 at e1;rw[qAf]at e1;cases e:(qA4 n)[j]? with
 |none=>rw[e]at e1;cases e1
 |some i=>
  rw[e]at e1;cases e1;have hi:i=j:=by
   obtain⟨h1,h2⟩:=qA2.mp e;rw[qCz]at h2;exact h2.symm
  subst hi;obtain⟨t,ht⟩:=h i v e2;exact⟨t,by rw[ht,qBz]⟩
theorem zQN:zDM X (.type "range") (fun vs H Q=>∃j:Int,vs=[.int j]/\∀p,H p=none->Q (.ref p) (upd H p (.rng 0 j))):=by
 intro pins s σ H vs us Q I r h;obtain⟨j,rfl,q⟩:=h;obtain⟨u,rfl,rx⟩:=zHQ r;obtain⟨t,rfl⟩:=rx;exact call_range_1 ⟨.ref _,_,I.laid (o:=.rng 0 j) (fun b o e=>Heap.get?_push_of_some _ e) (qA5 _) ⟨_,_,_,Heap.get?_push_size _ rfl⟩,rfl,q _ I.fresh⟩
theorem zQM:zDM X (.type "range") (fun vs H Q=>∃i j:Int,vs=[.int i,.int j]/\∀p,H p=none->Q (.ref p) (upd H p (.rng i j))):=by
 intro pins s σ H vs us Q I r h;obtain⟨i,j,rfl,q⟩:=h;obtain⟨u,u',rfl,rx,rx'⟩:=zR2 r;obtain⟨t,rfl⟩:=rx;obtain⟨t',rfl⟩:=rx';exact call_range_2 ⟨.ref _,_,I.laid (o:=.rng i j) (fun b o e=>Heap.get?_push_of_some _ e) (qA5 _) ⟨_,_,_,Heap.get?_push_size _ rfl⟩,rfl,q _ I.fresh⟩
theorem zJH(hc:X.calm=true):zDM X (.type "list") (fun vs H Q=>∃p lo hi,vs=[.ref p]/\H p=some (.rng lo hi)/\(-(2 ^ 62)<=lo/\lo<2 ^ 62/\-(2 ^ 62)<=hi/\hi<2 ^ 62)/\hi-lo<=1000000/\∀l,H l=none->Q (.ref l) (upd H l (.lst (zH3 lo (hi-lo).toNat)))):=by
 intro pins s σ H vs us Q I r h;obtain⟨p,lo,hi,rfl,hp,⟨b1,b2,b3,b4⟩,hz,q⟩:=h;obtain⟨u,rfl,rx⟩:=zHQ r;cases rx;obtain⟨t,u,v,e⟩:=(show ObjOk X.prog X.w H s.heap p (.rng lo hi) from I.hok p _ hp)
 have hn:Builtin.Range.rangeSize lo hi 1=(((hi-lo).toNat:Nat):Int):=by rw[rangeSize_one];split<;>lia
 refine call_list_range (n:=(hi-lo).toNat) (I.ok.hd hc) e (small_one b1 b2 b3 b4) hn (by lia) fun h' tk acc' c' hk hS hacc=>?_
 have rv:Vals (zH3 lo (hi-lo).toNat) acc'.toList:=zOF (by simpa using hacc.1) fun j v hj=>hacc.2 j v (by simpa using hj)
 refine⟨.ref _,_,I.laid (o:=.lst (zH3 lo (hi-lo).toNat)) hk (qA5 _) ⟨?_,acc'.toList,c',rv,by simpa using hS⟩,rfl,q _ I.fresh⟩;have hl:(zH3 lo (hi-lo).toNat).length=(hi-lo).toNat:=by simp[zH3]
 rw[hl,sizeLine_eq]
 lia
end
end L2
namespace L2
open PySem PySem.Spec PyProof.Rows
section
variable{X:Cx}
def zXA:R2:=fun x y H Q=>match x,y with
 |.int i,.int j=>Q (.int (i+j)) H
 |.str i,.str j=>i.length+j.length<=sizeLine/\Q (.str (i++j)) H
 |.ref l,.ref b=>∃xs zs,H l=some (.lst xs)/\H b=some (.lst zs)/\xs.length+zs.length<=sizeLine/\∀p,H p=none->Q (.ref p) (upd H p (.lst (xs++zs)))
 |_,_=>False
theorem zDA:OpR X (binaryOp .Add) zXA:=by
 intro pins s σ H x y v u Q I rx ry h;cases x<;>cases y<;>first
  |exact zXR pins s σ H _ _ v u Q I rx ry ⟨_,_,rfl,rfl,h⟩
  |exact zNQ pins s σ H _ _ v u Q I rx ry ⟨_,_,rfl,rfl,h.1,h.2⟩
  |(obtain⟨xs,zs,h1,h2,h3,h4⟩:=h;exact zXQ pins s σ H _ _ v u Q I rx ry ⟨_,_,xs,zs,rfl,rfl,h1,h2,h3,h4⟩)
  |exact qA6 h
noncomputable def rMulU:R2:=fun x y H Q=>match x,y with
 |.int i,.int j=>CMul i j/\Q (.int (i*j)) H
 |_,_=>False
noncomputable def zX3:R2:=fun x y H Q=>match x,y with
 |.int i,.int j=>Q (.int (i-j)) H
 |_,_=>False
theorem zNH:OpR X (binaryOp .Sub) zX3:=by
 intro pins s σ H x y v u Q I rx ry h;cases x<;>cases y<;>first
  |exact zXL pins s σ H _ _ v u Q I rx ry ⟨_,_,rfl,rfl,h⟩
  |exact qA6 h
noncomputable def zX6:R2:=fun x y H Q=>match x,y with
 |.int i,.int j=>0<j/\Q (.int (i%j)) H
 |_,_=>False
theorem zCU:OpR X (binaryOp .Mod) zX6:=by
 intro pins s σ H x y v u Q I rx ry h;cases x<;>cases y<;>first
  |exact zXO pins s σ H _ _ v u Q I rx ry ⟨_,_,rfl,rfl,h.1,h.2⟩
  |exact qA6 h
noncomputable def zX4:R2:=fun x y H Q=>match x,y with
 |.int i,.int j=>CPow i j/\Q (.int (i ^ j.toNat)) H
 |_,_=>False
theorem zWM:OpR X (binaryOp .Pow) zX4:=by
 intro pins s σ H x y v u Q I rx ry h;cases x<;>cases y<;>first
  |exact zXM pins s σ H _ _ v u Q I rx ry ⟨_,_,rfl,rfl,h.1,h.2⟩
  |exact qA6 h
noncomputable def zRO(p:Int->Int->Bool):R2:=fun x y H Q=>match x,y with
 |.int i,.int j=>Q (.bl (p i j)) H
 |_,_=>False
theorem u_lt:OpR X (compareOp .Lt) (zRO fun i j=>decide (i<j)):=by
 intro pins s σ H x y v u Q I rx ry h;cases x<;>cases y<;>first
  |exact zZJ pins s σ H _ _ v u Q I rx ry ⟨_,_,rfl,rfl,h⟩
  |exact qA6 h
theorem u_le:OpR X (compareOp .LtE) (zRO fun i j=>decide (i<=j)):=by
 intro pins s σ H x y v u Q I rx ry h;cases x<;>cases y<;>first
  |exact zZK pins s σ H _ _ v u Q I rx ry ⟨_,_,rfl,rfl,h⟩
  |exact qA6 h
theorem u_gt:OpR X (compareOp .Gt) (zRO fun i j=>decide (j<i)):=by
 intro pins s σ H x y v u Q I rx ry h;cases x<;>cases y<;>first
  |exact zZL pins s σ H _ _ v u Q I rx ry ⟨_,_,rfl,rfl,h⟩
  |exact qA6 h
def rEqU:R2:=fun x y H Q=>match x,y with
 |.int i,.int j=>Q (.bl (decide (i=j))) H
 |.str i,.str j=>Q (.bl (decide (i=j))) H
 |.bl i,.bl j=>Q (.bl (decide (i=j))) H
 |x,y=>rEqD x y H Q
def rNeU:R2:=fun x y H Q=>match x,y with
 |.int i,.int j=>Q (.bl (!decide (i=j))) H
 |.str i,.str j=>Q (.bl (!decide (i=j))) H
 |.bl i,.bl j=>Q (.bl (!decide (i=j))) H
 |x,y=>rNeD x y H Q
theorem u_eq(hu:X.A.units+64<cLine):OpR X (compareOp .Eq) rEqU:=by
 intro pins s σ H x y v u Q I rx ry h;cases x<;>cases y<;>first
  |(refine zZM pins s σ H _ _ v u Q I rx ry ⟨rfl,?_⟩;have h':=h;simp only[rEqU]at h';simpa using h')
  |exact zXP hu pins s σ H _ _ v u Q I rx ry h
theorem u_ne(hu:X.A.units+64<cLine):OpR X (compareOp .NotEq) rNeU:=by
 intro pins s σ H x y v u Q I rx ry h;cases x<;>cases y<;>first
  |(refine zZI pins s σ H _ _ v u Q I rx ry ⟨rfl,?_⟩;have h':=h;simp only[rNeU]at h';simpa using h')
  |exact zXN hu pins s σ H _ _ v u Q I rx ry h
def rIxU(K:qA1):R2:=fun x y H Q=>match x,y with
 |.str z,.int i=>∃c,z.length<=sizeLine/\atI z.cps.toList i=some c/\Q (.str ⟨#[c]⟩) H
 |.ref p,.int i=>∃xs v,(SqL K H p xs\/SqT K H p xs)/\atI xs i=some v/\Q v H
 |_,_=>False
theorem u_ix:IxR X (rIxU X.K):=by
 intro value slice pins s σ H x y v u Q I rx ry h hs;cases x<;>cases y<;>first
  |(obtain⟨c,h1,h2,h3⟩:=h;exact zY3 value slice pins s σ H _ _ v u Q I rx ry ⟨_,_,c,rfl,rfl,h1,h2,h3⟩ hs)
  |(obtain⟨xs,w,h1|h1,h2,h3⟩:=h
    ·exact zVN value slice pins s σ H _ _ v u Q I rx ry ⟨_,xs,_,w,rfl,rfl,h1,h2,h3⟩ hs
    ·exact zY1 value slice pins s σ H _ _ v u Q I rx ry ⟨_,xs,_,w,rfl,rfl,h1,h2,h3⟩ hs)
  |exact qA6 h
def zUU(K:qA1):List V->Hp->VK->Prop:=fun vs H Q=>match vs with
 |[.str z]=>z.length<=sizeLine/\Q (.int z.length) H
 |[.ref p]=>∃xs,(SqL K H p xs\/SqT K H p xs)/\Q (.int xs.length) H
 |_=>False
theorem zZR:zDM X (.builtin "len") (zUU X.K):=by
 intro pins s σ H vs us Q I r h;cases vs with
 |nil=>exact qA6 h
 |cons hd1 tl1=>
  cases hd1 with
  |str z=>
   cases tl1 with
   |nil=>
    exact zKT pins s σ H _ us Q I r ⟨z,rfl,h.1,h.2⟩
   |cons _ _=>exact qA6 h
  |ref p=>
   cases tl1 with
   |nil=>
    obtain⟨xs,h1,h2⟩:=h;exact zKU pins s σ H _ us Q I r ⟨p,xs,rfl,h1,h2⟩
   |cons _ _=>exact qA6 h
  |_=>exact qA6 h
def zI4(K:qA1):List V->Hp->VK->Prop:=fun vs H Q=>match vs with
 |[.ref p]=>(∃xs,(SqL K H p xs\/SqT K H p xs)/\∀l,H l=none->Q (.ref l) (upd H l (.lst xs))) \/
   ∃lo hi,H p=some (.rng lo hi)/\(-(2 ^ 62)<=lo/\lo<2 ^ 62/\-(2 ^ 62)<=hi/\hi<2 ^ 62)/\hi-lo<=1000000/\∀l,H l=none->Q (.ref l) (upd H l (.lst (zH3 lo (hi-lo).toNat)))
 |_=>False
theorem zXZ(hc:X.calm=true):zDM X (.type "list") (zI4 X.K):=by
 intro pins s σ H vs us Q I r h;cases vs with
 |nil=>exact qA6 h
 |cons hd1 tl1=>
  cases hd1 with
  |ref p=>
   cases tl1 with
   |nil=>
    rcases h with⟨xs,h1,h2⟩|⟨lo,hi,h1,h2,h3,h4⟩
    ·exact zKS pins s σ H _ us Q I r ⟨p,xs,rfl,h1,h2⟩
    ·exact zJH hc pins s σ H _ us Q I r ⟨p,lo,hi,rfl,h1,h2,h3,h4⟩
   |cons _ _=>exact qA6 h
  |_=>exact qA6 h
def zP3:List V->Hp->VK->Prop:=fun vs H Q=>match vs with
 |[.int j]=>∀p,H p=none->Q (.ref p) (upd H p (.rng 0 j))
 |[.int i,.int j]=>∀p,H p=none->Q (.ref p) (upd H p (.rng i j))
 |_=>False
theorem zPS:zDM X (.type "range") zP3:=by
 intro pins s σ H vs us Q I r h
 match vs,h with
 |[.int j],h=>exact zQN pins s σ H _ us Q I r ⟨j,rfl,h⟩
 |[.int i,.int j],h=>exact zQM pins s σ H _ us Q I r ⟨i,j,rfl,h⟩
def zX7:List V->Hp->VK->Prop:=fun vs H Q=>match vs with
 |[x,.ty n]=>∃T,zGQ H x=some T/\n∈["int","bool","str","list","tuple","dict"]/\Q (.bl (zVP T n)) H
 |_=>False
theorem zED:zDM X (.builtin "isinstance") zX7:=by
 intro pins s σ H vs us Q I r h;cases vs with
 |nil=>exact qA6 h
 |cons x tl1=>
  cases tl1 with
  |nil=>exact qA6 h
  |cons hd2 tl2=>
   cases hd2 with
   |ty n=>
    cases tl2 with
    |nil=>
     obtain⟨T,h1,h2,h3⟩:=h;exact zM6 pins s σ H _ us Q I r ⟨x,n,T,rfl,h1,h2,h3⟩
    |cons _ _=>exact qA6 h
   |_=>exact qA6 h
def zX9:List V->Hp->VK->Prop:=fun vs H Q=>match vs with
 |[.ref a]=>∃bs:List Bool,H a=some (.lst (bs.map V.bl))/\Q (.bl (bs.all id)) H
 |_=>False
theorem zY0(hc:X.calm=true):zDM X (.builtin "all") zX9:=by
 intro pins s σ H vs us Q I r h;cases vs with
 |nil=>exact qA6 h
 |cons hd1 tl1=>
  cases hd1 with
  |ref a=>
   cases tl1 with
   |nil=>
    obtain⟨bs,h1,h2⟩:=h;exact zT1 hc pins s σ H _ us Q I r ⟨a,bs,rfl,h1,h2⟩
   |cons _ _=>exact qA6 h
  |_=>exact qA6 h
end
noncomputable def zKQ(N N':List Str)(k:Nat)(sc esc:Scope):Bool:=
 (sc.kind==.function)&&decide ((sc.names.map (·.1)).Nodup)&&(N'.length==N.length+k) &&
 ((qA4 N.length).all fun i=>match N'[i]? with
  |none=>true
  |some x=>(sc.names.lookup x==none)||(sc.names.any (fun p=>p.1==x&&p.2==.free)&&N[i]?==some x)) &&
 (sc.names.all fun p=>p.2 != .free||esc.names.lookup p.1==some .cell||esc.names.lookup p.1==some .free)
theorem cn{X:Cx}{sc:Scope}(N':List Str)(k:Nat)(h:zKQ X.N N' k sc X.env.scope=true):CompNames X.N N' k sc X.env:=by
 unfold zKQ at h;simp only[qB2,decide_eq_true_eq,beq_iff_eq]at h;obtain⟨⟨⟨⟨h1,h2⟩,h3⟩,h4⟩,h5⟩:=h;refine⟨h1,h2,h3,fun i x e hi=>?_,fun x hx=>?_⟩
 ·have q:=qDk.mp h4 i (qBe.mpr hi);rw[e]at q;simp only[qFe,qB2,beq_iff_eq,List.any_eq_true]at q
  rcases q with q|⟨⟨p,hp,e1,e2⟩,e3⟩
  ·exact .inr q
  ·obtain⟨y,kk⟩:=p;dsimp only at e1 e2;subst e1;subst e2;exact .inl ⟨hp,e3⟩
 ·have q:=qDk.mp h5 _ hx;simp only[qFe,bne_iff_ne,ne_eq,not_true_eq_false,false_or,beq_iff_eq]at q;exact q
theorem PE.imp{X:Cx}{e:Expr}{t t':TE}(h:PE X e t)(i:∀σ H Q,t' σ H Q->t σ H Q):PE X e t':=fun pins s σ H Q I q=>h pins s σ H Q I (i σ H Q q)
noncomputable def vM(i:Nat):TE:=fun σ H Q=>match σ[i]? with
 |some (some v)=>Q v H
 |_=>False
theorem pn{X:Cx}(i:Nat){x:Str}{pos:Pos}(hN:X.N[i]?=some x:=by rfl)(hv:Vis X.env.scope x:=by first|exact qGt rfl|exact qGc (qGt rfl)|exact qGc (qGc rfl))(hd:(x==("__debug__":Str))=false:=by decide)
  (hcd:(x==("__classdict__":Str))=false:=by decide):PE X (.Name x pos) (vM i):=(zTL hN hv hd hcd).imp fun σ H Q h=>by
 unfold vM at h;cases e:σ[i]? with
 |none=>rw[e]at h;exact qA6 h
 |some w=>
  rw[e]at h;cases w with
  |none=>exact qA6 h
  |some v=>exact⟨v,e,h⟩
noncomputable def bM(t:TE):TT:=fun σ H Q=>t σ H fun x H'=>match x with
 |.bl k=>Q k H'
 |.int i=>Q (i != 0) H'
 |.non=>Q false H'
 |_=>False
section
variable{X:Cx}{a b c:Expr}{ta tb tc:TE}{tA tB:TT}{rest:List Expr}{pos:Pos}
theorem zWO{K:qA1}{x:V}{H:Hp}{Q:Bool->Hp->Prop}(h:match x with | .bl k=>Q k H | .int i=>Q (i != 0) H | .non=>Q false H|_=>False):∃k,TruV K x H k/\Q k H:=by
 cases x with
 |bl k=>exact⟨k,rfl,h⟩
 |int i=>exact⟨_,rfl,h⟩
 |non=>exact⟨_,rfl,h⟩
 |_=>exact qA6 h
theorem pt_m(ha:PE X a ta)(he:∀whole,isTrue a X.env whole=(do let v <- whole;standAt a.pos;holding [v] (truthy v)):=by intro _;rfl):PT X a (bM ta):=by
 intro pins s σ H Q I h;refine isTrue_plain (thn (ha pins s σ H _ I h) fun v s1 z0=>?_) (he _);obtain⟨x,H1,I1,r1,q1⟩:=z0;exact thn (zTB pins s1 σ H1 x v Q I1 r1 (zWO q1)) fun _ _ q=>q
theorem zBM{op:CmpOp}{r:R2}(ho:OpR X (compareOp op) r)(ha:PE X a ta)(hb:PE X b tb)(hm:behindInMarks op b=false):PT X (.Compare a [op] [b] pos) (fun σ H Q=>ta σ H fun x H1=>tb σ H1 fun y H2=>r x y H2 fun z H3=>match z with | .bl k=>Q k H3|_=>False):=by
 intro pins s σ H Q I h;refine wpAny_isTrue_Compare1 (thn (ha pins s σ H _ I h) fun v s1 ⟨x,H1,I1,r1,q1⟩=>thn (hb pins s1 σ H1 _ I1 q1) fun u s2 ⟨y,H2,I2,r2,q2⟩=>
  thn (ho pins s2 σ H2 x y v u _ I2 r1 r2 q2) fun d s3 ⟨z,H3,I3,r3,q3⟩=>?_) hm
 cases z with
 |bl k=>cases r3;exact wpAny_truthy_bool ⟨H3,I3,q3⟩
 |_=>exact qA6 q3
theorem zXJ{op op':CmpOp}{r r':R2}(ho:OpR X (compareOp op) r)(ho':OpR X (compareOp op') r')(ha:PE X a ta)(hb:PE X b tb)(hc:PE X c tc)
  (hm:lastMarks [op,op'] [b,c]=false:=by with_unfolding_all rfl):PE X (.Compare a [op,op'] [b,c] pos) (fun σ H Q=>ta σ H fun x H1=>tb σ H1 fun y H2=>r x y H2 fun z H3=>match z with
   |.bl k=>if k=true then tc σ H3 fun w' H4=>r' y w' H4 Q else Q (.bl false) H3
   |_=>False):=by
 intro pins s σ H Q I h;refine Compare_chain (thn (ha pins s σ H _ I h) fun v s1 ⟨x,H1,I1,r1,q1⟩=>chain_link (thn (hb pins s1 σ H1 _ I1 q1) fun u s2 ⟨y,H2,I2,r2,q2⟩=>
  thn (ho pins s2 σ H2 x y v u _ I2 r1 r2 q2) fun d s3 ⟨z,H3,I3,r3,q3⟩=>?_)) hm
 cases z with
 |bl k=>
  cases r3;refine wpAny_truthy_bool ?_;cases k with
  |false=>exact ite_ff ⟨.bl false,H3,I3,rfl,by simpa using q3⟩
  |true=>exact ite_tt (chain_last (thn (hc pins s3 σ H3 _ I3 (by simpa using q3)) fun w' s4 ⟨z',H4,I4,r4,q4⟩=>ho' pins s4 σ H4 y z' u w' Q I4 r2 r4 q4))
 |_=>exact qA6 q3
theorem zLN(ha:PE X a ta)(hb:PE X (.BoolOp .And (b::rest) pos) tb):PE X (.BoolOp .And (a::b::rest) pos) (fun σ H Q=>ta σ H fun x H1=>match x with | .bl c=>if c=true then tb σ H1 Q else Q (.bl false) H1|_=>False):=by
 intro pins s σ H Q I h;refine BoolOp_and (thn (ha pins s σ H _ I h) fun v s1 z0=>?_);obtain⟨x,H1,I1,r1,q1⟩:=z0;cases x with
 |bl c=>
  cases r1;refine wpAny_truthy_bool ?_;cases c with
  |true=>exact hb pins s1 σ H1 Q I1 (by simpa using q1)
  |false=>exact⟨.bl false,H1,I1,rfl,by simpa using q1⟩
 |_=>exact qA6 q1
theorem zZG(ha:PE X a ta):PE X (.UnaryOp .Not a pos) (fun σ H Q=>ta σ H fun x H1=>match x with | .bl c=>Q (.bl (!c)) H1|_=>False):=by
 intro pins s σ H Q I h;refine UnaryOp_ (thn (ha pins s σ H _ I h) fun v s1 z0=>?_);obtain⟨x,H1,I1,r1,q1⟩:=z0;cases x with
 |bl c=>cases r1;exact not_of (wpAny_truthy_bool ⟨.bl (!c),H1,I1,rfl,q1⟩)
 |_=>exact qA6 q1
def setM:V->V->V->Hp->(Hp->Prop)->Prop:=fun o i v H Q=>match o,i with
 |.ref p,.int k=>∃xs j,H p=some (.lst xs)/\ixN xs.length k=some j/\Q (upd H p (.lst (xs.set j v)))
 |_,_=>False
theorem zFM:PSet X setM:=by
 intro pins s σ H o i v ov iv u Q I ro ri rv h;cases o<;>cases i<;>first
  |(obtain⟨xs,j,h1,h2,h3⟩:=h;exact zRE pins s σ H _ _ v ov iv u Q I ro ri rv ⟨_,xs,_,j,rfl,rfl,h1,h2,h3⟩)
  |exact qA6 h
def appM:V->List V->Hp->VK->Prop:=fun x vs H Q=>match x,vs with
 |.ref l,[y]=>∃xs,H l=some (.lst xs)/\xs.length<sizeLine/\Q .non (upd H l (.lst (xs++[y])))
 |_,_=>False
theorem zJ2:MtR X "list.append" appM:=by
 intro pins s σ H x vs v us Q I rx rv h;cases x with
 |ref l=>
  cases vs with
  |nil=>exact qA6 h
  |cons y t=>
   cases t with
   |nil=>
    obtain⟨xs,h1,h2,h3⟩:=h;exact zPL pins s σ H _ _ v us Q I rx rv ⟨l,xs,y,rfl,rfl,h1,h2,h3⟩
   |cons _ _=>exact qA6 h
 |_=>exact qA6 h
end
theorem pt_w{X:Cx}{e:Expr}{t:TT}(h:PW X e t):PT X e t:=h.pt
def Has(P:Program)(w:World)(K:qA1)(mg:Str->Option Value)(base:Heap)(x:Str)(k:Nat)(ps:List Str)(sp:Sp):Prop:=
 ∃f fd,FnOk P w K mg base CX0 k f fd ps sp/\mg x=some (.ref f)/\qAv K (.ref f)=true/\Binds K fd ps []
def Def(K:qA1)(mg:Str->Option Value)(x:Str)(st:Stmt):Prop:=∃f fd,Fun K x x st f fd/\mg x=some (.ref f)
section
variable{X:Cx}{x:Str}{j k:Nat}{ps:List Str}{sp:Sp}{e:Expr}{es:List Expr}{t:TA}{p pos:Pos}
theorem zBO(h:Has X.prog X.w X.K X.mg X.base x j ps sp)(hjk:j<=k)(hr:Room k X.A)(hg:Gl X x)(ha:PA X (e::es) t)(hdb:(x==("__debug__":Str))=false:=by decide)
  (he:starEach (e::es) X.env=(false,eval e X.env)::starEach es X.env:=by rfl) (hpl:(backTo pos (starEach es X.env)).any (·.1)=false:=by rfl):PE X (.Call (.Name x p) (e::es) [] pos) (zLC sp [] E0 t):=by
 obtain⟨f,fd,G,m,kp,b⟩:=h;exact zPF G (hr.mono hjk) hg m kp b .nil zZH ha hdb he hpl
end
section
variable{P:Program}{w:World}{K:qA1}{mg:Str->Option Value}{base:Heap}
theorem Def.ok{x:Str}{st:Stmt}{N ps:List Str}{k:Nat}{sp:Sp}(D:Def K mg x st)(S:FnScope N ps (zAA st))
  (hb:∀(kV doc pm:Value)(an:Option Addr)(cdv ct:Value)(us:List Value),us.length=ps.length->bindArgs (qB4 x x (zCP st) (zBC st) (zAA st) .none kV doc pm an cdv ct) ⟨us,[]⟩=pure (ps.zip us))
  (len:∀vs H Q E,sp vs H Q E->vs.length=ps.length)
  (hbody:∀(f:Addr)(cdv:Value)(A:Around)(outer:List Env)(s:Shared)(H:Hp)(vs:List V)(Q:VK)(E:XK),Room k (A.deeper (envOfC x (zAA st) s.heap.objs.size f cdv))->sp vs H Q E ->
   ∃t,PSs (cxOf CX0 P w K mg base N x (zAA st) f cdv A outer s H E).nox (zBC st) t/\t { nx:=fun _ H'=>Q .non H',rt:=Q } (start N vs) H):Has P w K mg base x (k+1) ps sp:=by
 obtain⟨f,fd,F,m⟩:=D;exact⟨f,fd,F.ok S len (fun cdv A outer s H vs Q E hr h=>hbody f cdv A outer s H vs Q E hr h),m,F.kp,F.binds hb⟩
end
end L2
namespace L2
open PySem PySem.Spec PyProof.Rows
section
variable{X:Cx}{pins:List (Addr×Obj)}{σ:St}{H:Hp}{s:Shared}
theorem Inv.turnedNew{h':Heap}{t':Nat}{fp:List Addr}{a:Addr}{o:HO}(I:Inv X pins σ H s)(hf:∀b∈fp,FpOk X pins H b)(k:∀b u,b∉fp->s.heap.get? b=some u->h'.get? b=some u)
  (hp:s.heap.objs.size<=a) (new:ObjOk X.prog X.w (upd H a o) h' a o):Inv X pins σ (upd H a o) { s with heap:=h',toks:=t' }:=by
 have hn:H a=none:=I.hok.fresh hp;have ne:∀b u,s.heap.get? b=some u->b≠a:=fun b u e=>qAp (qAa (Heap.lt_size e) hp)
 have nfp:∀b u,H b=some u->b∉fp:=fun b u e z=>by rw[(hf b z).1]at e;cases e
 refine I.step (g':=s.gens) (d':=s.drawn) (ch:=fp) (fun b hb=>⟨(hf b hb).2.2.2.1,(hf b hb).2.1,(hf b hb).2.2.2.2.1,(hf b hb).2.2.2.2.2⟩) (fun b u _ _ hc e _=>k b u hc e) (fun b u _ _ hc e _=>⟨u.slots,k b u hc e⟩)
  (fun b u _ e n=>by rw[zAC (ne b u e)];exact n) (fun b u hc e=>⟨u,k b u hc e⟩) (fun b xs e=>by rw[zAC (zAI e hn)];exact e) (fun b u xs e=>by rw[zAC (zAI e hn)];exact e)
  (fun b ps e=>⟨#[],by rw[zAC (zAI e hn),e];simp⟩) (fun m hm=>?_) (fun b u e=>?_) I.bare
 ·obtain⟨u,es,ep,ho,r⟩:=hm;exact⟨u,es,ep,k _ u (fun z=>(hf _ z).2.1 rfl) ho,r⟩
 ·by_cases hb:b=a
  ·subst hb;rw[zAJ]at e;cases e;exact new
  ·rw[zAC hb]at e;refine(I.hok b u e).stay (fun c v hc q=>k c v ?_ q) (fun c q=>by rw[zAC (zAI q hn)];exact q) (fun c xs q=>by rw[zAC (zAI q hn)];exact q) fun c _ _ q _=>by rw[zAC (zAI q hn)];exact q
   rcases hc with z|z
   ·rw[z];exact nfp b u e
   ·exact nfp c _ z
theorem Inv.turnedL{h':Heap}{t':Nat}{fp:List Addr}(I:Inv X pins σ H s)(hf:∀b∈fp,FpOk X pins H b)(k:∀b u,b∉fp->s.heap.get? b=some u->h'.get? b=some u):Inv X pins σ H { s with heap:=h',toks:=t' }:=by
 have nfp:∀b u,H b=some u->b∉fp:=fun b u e z=>by rw[(hf b z).1]at e;cases e
 refine I.step (g':=s.gens) (d':=s.drawn) (ch:=fp) (fun b hb=>⟨(hf b hb).2.2.2.1,(hf b hb).2.1,(hf b hb).2.2.2.2.1,(hf b hb).2.2.2.2.2⟩) (fun b u _ _ hc e _=>k b u hc e) (fun b u _ _ hc e _=>⟨u.slots,k b u hc e⟩)
  (fun b u _ e n=>n) (fun b u hc e=>⟨u,k b u hc e⟩) (fun b xs e=>e) (fun b u xs e=>e)
  (fun b ps e=>⟨#[],by rw[e];simp⟩) (fun m hm=>?_) (fun b u e=>?_) I.bare
 ·obtain⟨u,es,ep,ho,r⟩:=hm;exact⟨u,es,ep,k _ u (fun z=>(hf _ z).2.1 rfl) ho,r⟩
 ·refine(I.hok b u e).stay (fun c v hc q=>k c v ?_ q) (fun c q=>q) (fun c xs q=>q) fun c _ _ q _=>q
  rcases hc with z|z
  ·rw[z];exact nfp b u e
  ·exact nfp c _ z
def Ite(K:qA1)(a:Addr):It:=
 ⟨fun i H=>∃xs x,SqL K H a xs/\xs[i]?=some x,fun i H x H'=>∃T y,x=.ref T/\H T=none/\H'=upd H T (.tup [.int i,y])/\∀xs,SqL K H a xs->xs[i]?=some y,fun i H=>∃xs,SqL K H a xs/\xs.length<=i⟩
theorem zOJ{P:Program}{w:World}{K:qA1}{ts:List Expr}{kk:Nat}{tp:Pos}(a e it:Addr)(hei:e≠it) :
  Turn P w K (.Tuple ts kk tp) (Ite K a) [e,it] e (fun i h=>(∃old,IsEnum h e it i old)/\h.IsListIter it a i) where
 mem:=by simp
 obj:=fun i h st b hb=>by
  rcases qAh.mp hb with z|z
  ·subst z;obtain⟨⟨old,he⟩,_⟩:=st;exact⟨_,he,fun v z=>by cases z⟩
  ·have z':b=it:=by simpa using z
   subst z';obtain⟨_,o,e,c,d⟩:=st;exact⟨o,e,fun v z=>by rw[d]at z;cases z⟩
 keep:=fun i h h' st k=>⟨by obtain⟨⟨old,he⟩,_⟩:=st;exact⟨old,k e (by simp) _ he⟩,st.2.at fun o x=>k it (by simp) o x⟩
 item:=by
  intro X hP hw hK hc i pins s σ H E I hf st hg;subst hP hw hK;obtain⟨xs,x,hq,hx⟩:=hg;obtain⟨its,rv,p,hz⟩:=I.list hq;obtain⟨u,hu,ru⟩:=rv.get hx;obtain⟨⟨old,he⟩,hit⟩:=st;refine wpAny_pyNext_enum_item he hit p.isList (x:=u) (by simpa using hu) hei fun h' ho hit' hT hsz hk=>?_
  refine⟨_,rfl,wpAny_letOwnedTupleGo_enum ho fun h'' he'' hs''=>?_⟩;have hTe:s.heap.objs.size≠e:=qBo (Heap.lt_size he);have hTi:s.heap.objs.size≠it:=by obtain⟨o,ho',_⟩:=hit;exact qBo (Heap.lt_size ho')
  have kk:∀b u,b∉[e,it]->s.heap.get? b=some u->h''.get? b=some u:=fun b u hb q=>by
   have b1:b≠e:=fun z=>hb (by simp[z])
   have b2:b≠it:=fun z=>hb (by simp[z])
   exact(hs''.2 b b1).trans (hk b u b1 b2 q)
  have hT'':=(hs''.2 _ hTe).trans hT;refine⟨.ref s.heap.objs.size,_,I.turnedNew (t':=s.toks+1) (o:=.tup [.int i,x]) hf kk (qA5 _) ⟨by show 2<=sizeLine;decide,[.int i s.toks,u],.cons ⟨_,rfl⟩ (.cons ru .nil),⟨_,hT'',rfl,_,rfl⟩⟩,rfl,
   ⟨_,x,rfl,I.fresh,rfl,fun ys hy=>by rw[I.list_inj hy hq];exact hx⟩,⟨⟨_,by simpa using he''⟩,hit'.at fun o x=>(hs''.2 it hei.symm).trans x⟩,fun b hb=>?_⟩
  have hbs:b<s.heap.objs.size:=by
   rcases qAh.mp hb with z|z
   ·rw[z];exact Heap.lt_size he
   ·have z':b=it:=by simpa using z
    rw[z'];obtain⟨o,ho',_⟩:=hit;exact Heap.lt_size ho'
  rw[zAC (qAp hbs)];exact(hf b hb).1
 done:=by
  intro X hP hw hK hc i pins s σ H E I hf st hg;subst hP hw hK;obtain⟨xs,hq,hx⟩:=hg;obtain⟨its,rv,p,hz⟩:=I.list hq;have hl:=rv.length;obtain⟨⟨old,he⟩,hit⟩:=st;exact wpAny_pyNext_enum_end (I.ok.hd hc) he hit p.isList (by simp;lia) fun h' eb=>⟨rfl,I.turnedL (t':=s.toks) hf fun b u hb q=>eb b u (fun z=>hb (by simp[z])) q⟩
 self:=fun _ _ _ _ _ st h=>by obtain⟨⟨old,he⟩,_⟩:=st;exact wpAny_pyIter_enum he h
def zVU(K:qA1)(tl:TA):TI:=fun σ H R=>tl σ H fun vs H1=>match vs with
 |[.ref a]=>(∃xs,SqL K H1 a xs)/\R (Ite K a) H1
 |_=>False
theorem zV0{ts:List Expr}{kk:Nat}{tp p pos:Pos}{a:Expr}{ta:TA}(hg:Gl X "enumerate")(hm:X.mg "enumerate" = none)(ha:PA X [a] ta)(hs:starEach [a] X.env=[(false,eval a X.env)]:=by rfl) :
  PI X (.Tuple ts kk tp) (.Call (.Name "enumerate" p) [a] [] pos) (zVU X.K ta):=by
 intro pins s σ H R I h;refine Call_ (zH8 I hg hm boot_enumerate (qB6 (thn (ha pos pins s σ H _ I h) fun us s1 z0=>?_) hs rfl));obtain⟨vs,H1,I1,r1,q1⟩:=z0;cases vs with
 |nil=>exact qA6 q1
 |cons hd1 tl1=>
  cases hd1 with
  |ref l=>
   cases tl1 with
   |nil=>
    obtain⟨⟨xs,hq⟩,q⟩:=q1;obtain⟨u,rfl,rx⟩:=zHQ r1;cases rx;obtain⟨its,rv,pl,hz⟩:=I1.list hq;refine call_enumerate_list pl.isList fun h' he hit hsz hk=>?_
    refine wpAny_pyIter_enum he ?_;have hne:s1.heap.objs.size+1≠s1.heap.objs.size:=by lia
    refine⟨s1.heap.objs.size+1,[s1.heap.objs.size+1,s1.heap.objs.size],_,_,H1,rfl,I1.kept (t':=s1.toks) hk,zOJ l _ _ hne,⟨⟨_,he⟩,hit⟩,fun b hb=>?_,q⟩;have hb':s1.heap.objs.size<=b:=by
     rcases qAh.mp hb with z|z
     ·rw[z];exact qC2 _
     ·have z':b=s1.heap.objs.size:=by simpa using z
      rw[z'];exact qA5 _
    exact I1.fpOk hb' (I1.hok.fresh hb')
   |cons _ _=>exact qA6 q1
  |_=>exact qA6 q1
end
section
variable{X:Cx}{K:qA1}
theorem zBF(hK:X.K=K:=by rfl):zDM X (.builtin "len") (zUU K):=hK▸zZR
theorem zFQ(hc:X.calm=true)(hK:X.K=K:=by rfl):zDM X (.type "list") (zI4 K):=hK▸zXZ hc
theorem zAS(hK:X.K=K:=by rfl):IxR X (rIxU K):=hK▸u_ix
theorem zMS{ts:List Expr}{kk:Nat}{tp p pos:Pos}{a:Expr}{ta:TA}(hg:Gl X "enumerate")(hm:X.mg "enumerate" = none)(ha:PA X [a] ta)(hs:starEach [a] X.env=[(false,eval a X.env)]:=by rfl)(hK:X.K=K:=by rfl) :
  PI X (.Tuple ts kk tp) (.Call (.Name "enumerate" p) [a] [] pos) (zVU K ta):=hK▸zV0 hg hm ha hs
theorem zLL{es:List Expr}{k:Nat}{t:TGs}{n:Nat}{pos:Pos}(hc:X.calm=true)(h:PGs X es t)
  (hn:(assignEach es X.env).length=n:=by rfl) (hst:(assignEach es X.env).findIdx? (·.1)=none:=by rfl) (hK:X.K=K:=by rfl):PG X (.Tuple es k pos) (gTup K n t):=hK▸zXG hc h hn hst
noncomputable def tML(r:V->List V->Hp->VK->Prop)(to:TE)(t:TA):TE:=fun σ H Q=>to σ H fun x H1=>match x with
 |.ref p=>∃xs,H1 p=some (.lst xs)/\t σ H1 fun vs H2=>r x vs H2 Q
 |_=>False
variable{o e:Expr}{es:List Expr}{to:TE}{t:TA}{name:Str}{apos cpos:Pos}{T id:String}{r:V->List V->Hp->VK->Prop}
theorem zPC(pa:PlainAttrs "list")(slot:Slot "list" name id)(hty:typeOf (.builtin id)=pure (.type "method_descriptor"))(hm:MtR X id r)(ho:PE X o to)(ha:PA X (e::es) t)
  (hbase:attributeBase o name X.env (eval o X.env)=eval o X.env:=by rfl)
  (hfew:((backTo cpos (starEach (e::es) X.env)).all (fun x=>!x.1)&&(backToKw cpos (keywordEach [] X.env)).all (fun x=>x.1.isSome)
   && decide ((e::es).length+([]:List Keyword).length+(if([]:List Keyword).isEmpty then 0 else 1)<30))=true:=by rfl)
  (hline:(apos.endLine==cpos.line)=true:=by rfl) (hs:starEach (e::es) X.env=(false,eval e X.env)::starEach es X.env:=by rfl) (hplain:(backTo cpos (starEach es X.env)).any (·.1)=false:=by rfl) :
  PE X (.Call (.Attribute o name apos) (e::es) [] cpos) (tML r to t):=by
 intro pins s σ H Q I h;refine wpAny_Call_method_late hbase hfew hline rfl (thn (ho pins s σ H _ I h) fun v s1 z0=>?_);obtain⟨x,H1,I1,r1,q1⟩:=z0;cases x with
 |ref p=>?_
 |_=>exact qA6 q1
 obtain⟨xs,hx,q1⟩:=q1;obtain⟨h1,h2⟩:=zWN (T:="list") I1 r1 (.inl ⟨rfl,xs,SqL.of hx⟩);refine⟨"list",id,pa,slot,hty,h1,h2,?_⟩;have hA:=ha cpos pins s1 σ H1 _ I1 q1;rw[hs]at hA ⊢;refine Calls.callWith_builtin (by show(false||(backTo cpos (starEach es X.env)).any (·.1))=false;rw[hplain]<;>rfl) (Calls.evalArgs_plain ?_);exact thn hA fun us s2 ⟨vs,H2,I2,r2,q2⟩=>hm pins s2 σ H2 (.ref p) vs v us Q I2 r1 r2 q2
end
end L2
namespace L2
open PySem PySem.Spec PyProof.Rows
theorem same_new{H:Hp}{p:Addr}(h:H p=none)(o:HO):Same H (upd H p o):=fun b u q=>by rw[zAC (zAI q h)];exact q
theorem Same.upd{H H':Hp}{p:Addr}(s:Same H H')(h:H p=none)(o:HO):Same H (upd H' p o):=fun b u q=>by rw[zAC (zAI q h)];exact s b u q
theorem zCX{H:Hp}:∀(ns:List Int),RepL H (ns.map Dat.int) (ns.map V.int)
 |[]=>rfl
 |n::r=>⟨.int n,r.map V.int,rfl,rfl,zCX r⟩
theorem zD4:∀(ns:List Int),Dat.depL (ns.map Dat.int)=0
 |[]=>rfl
 |n::r=>by
  rw[qAm,Dat.depL,zD4 r];rfl
theorem zFE:∀(ns ms:List Int),Dat.eqL (ns.map Dat.int) (ms.map Dat.int)=decide (ns=ms)
 |[],[]=>by simp[Dat.eqL]
 |[],_::_=>by simp[Dat.eqL]
 |_::_,[]=>by simp[Dat.eqL]
 |n::r,m::q=>by
  rw[qAm,qAm,Dat.eqL,zFE r q,Dat.eq]
  by_cases h:n=m
  ·subst h;simp
  ·simp[h]
theorem big{n:Nat}(h:n<=100000):n<sizeLine:=by rw[sizeLine_eq];lia
theorem zKG:∀{ns:List Int}{vs:List Value},Vals (ns.map V.int) vs->IntsAre vs ns
 |[],_,.nil=>.nil
 |n::r,_,.cons h t=>by
  obtain⟨tk,rfl⟩:=h;exact .cons n tk (zKG t)
section
variable{X:Cx}
def rInU(K:qA1)(neg:Bool):R2:=fun x y H Q=>match y with
 |.ref p=>∃xs,(SqL K H p xs\/SqT K H p xs)/\zFS x=true/\xs.all zFS=true/\Q (.bl (if neg then !inV x xs else inV x xs)) H
 |.str j=>match x with
  |.str i=>Q (.bl (if neg then !(!(Builtin.Str.occurrences j i 0 j.length 1).isEmpty)else !(Builtin.Str.occurrences j i 0 j.length 1).isEmpty)) H
  |_=>False
 |_=>False
theorem u_in{K:qA1}(hK:X.K=K:=by rfl):OpR X (compareOp .In) (rInU K false):=by
 subst hK;intro pins s σ H x y v u Q I rx ry h;cases y with
 |ref p=>
  obtain⟨xs,h1,h2,h3,h4⟩:=h;exact zPI pins s σ H _ _ v u Q I rx ry ⟨p,xs,rfl,h1,h2,h3,h4⟩
 |str j=>
  cases x with
  |str i=>exact zPH pins s σ H _ _ v u Q I rx ry ⟨i,j,rfl,rfl,h⟩
  |_=>exact qA6 h
 |_=>exact qA6 h
theorem zOH{K:qA1}(hK:X.K=K:=by rfl):OpR X (compareOp .NotIn) (rInU K true):=by
 subst hK;intro pins s σ H x y v u Q I rx ry h;cases y with
 |ref p=>
  obtain⟨xs,h1,h2,h3,h4⟩:=h;exact zK5 pins s σ H _ _ v u Q I rx ry ⟨p,xs,rfl,h1,h2,h3,h4⟩
 |str j=>
  cases x with
  |str i=>exact zK4 pins s σ H _ _ v u Q I rx ry ⟨i,j,rfl,rfl,h⟩
  |_=>exact qA6 h
 |_=>exact qA6 h
end
theorem zKP{K:qA1}{a:Addr}{xs:List V}{k:Nat}{g:TG}{tif:TT}{te:TE}{σ:St}{H:Hp}{Q:VK}(Pv:Nat->List V->Hp->Prop)(h0:Pv 0 [] H)(hl:∀i acc H,i<=xs.length->Pv i acc H->SqL K H a xs)(hz:∀i acc H,i<xs.length->Pv i acc H->acc.length<sizeLine)
  (hs:∀i x acc H T,xs[i]?=some x->Pv i acc H->H T=none->g (.ref T) (σ++qA9 k none) (upd H T (.tup [.int i,x])) fun σ2 H2=>∃own:St,own.length=k/\σ2=σ++own/\tif σ2 H2 fun b H3=>if b=true then te σ2 H3 fun v H4=>Pv (i+1) (acc++[v]) H4 else Pv (i+1) acc H3)
  (hd:∀acc H,Pv xs.length acc H->∀D,H D=none->Q (.ref D) (upd H D (.lst acc))):zOP k g tif te σ Q (Ite K a) H:=by
 refine⟨fun i m acc H=>m=xs.length-i/\i<=xs.length/\Pv i acc H,⟨xs.length,by simp,qAt _,h0⟩,?_⟩
 rintro i m acc H ⟨rfl,hi,p⟩
 have q:=hl i acc H hi p
 by_cases hlt:i<xs.length
 ·refine .inr ⟨⟨xs,xs[i],q,by simp[hlt]⟩,hz i acc H hlt p,Pv (i+1),fun acc' H' p'=>⟨xs.length-(i+1),by lia,rfl,hlt,p'⟩,fun x H' y=>?_⟩;obtain⟨T,y,e1,e2,e3,e4⟩:=y;subst e1 e3;exact hs i y acc _ T (e4 xs q) p e2
 ·have e:i=xs.length:=by lia
  subst e;exact .inl ⟨⟨xs,q,qA5 _⟩,hd acc H p⟩
end L2
namespace Mi
open PySem
noncomputable section
inductive Sv where
 |i (n:Int)|s (x:Str)
inductive Sw where
 |non|bl (b:Bool)|int (i:Int)|str (x:Str)
inductive Dt where
 |non|bl (b:Bool)|int (i:Int)|str (x:Str)|lst (xs:List Dt)|tup (xs:List Dt)|scr (ns:List Int)|exc (c f:Str) (d:Dt)|ins (c:Str) (fs:List (Str×Sv))|dct (kvs:List (Sum Int Str×Sw))|fn (x:Str) (d:Dt)
mutual
def Dt.dep:Dt->Nat
 |.lst xs=>Dt.depL xs+1
 |.tup xs=>Dt.depL xs+1
 |.scr _=>1000
 |.exc _ _ _=>1000
 |.fn _ _=>1000
 |.ins _ _=>1000
 |.dct _=>1000
 |_=>0
def Dt.depL:List Dt->Nat
 |[]=>0
 |x::r=>max x.dep (Dt.depL r)
end
mutual
def Dt.eq:Dt->Dt->Bool
 |.non,.non=>true
 |.bl a,.bl b=>a==b
 |.bl a,.int b=>(if a then 1 else 0)==b
 |.int a,.bl b=>a==(if b then 1 else 0)
 |.int a,.int b=>a==b
 |.str a,.str b=>a==b
 |.lst xs,.lst ys=>Dt.eqL xs ys
 |.tup xs,.tup ys=>Dt.eqL xs ys
 |_,_=>false
def Dt.eqL:List Dt->List Dt->Bool
 |[],[]=>true
 |x::r,y::q=>Dt.eq x y&&Dt.eqL r q
 |_,_=>false
end
structure Xn where
 cls:Str
 f:Str
 d:Dt
abbrev R(α:Type):=Option (Except Xn α)
noncomputable def okR{α:Type}(a:α):R α:=some (.ok a)
noncomputable def zA3{α β:Type}(x:R α)(f:α->R β):R β:=match x with
 |none=>none
 |some (.error e)=>some (.error e)
 |some (.ok a)=>f a
def optR{α:Type}(o:Option α):R α:=match o with
 |none=>none
 |some a=>okR a
@[simp] theorem zA0{α β:Type}(a:α)(f:α->R β):zA3 (okR a) f=f a:=rfl
@[simp] theorem zAB{α β:Type}(f:α->R β):zA3 none f=none:=rfl
@[simp] theorem zAH{α β:Type}(e:Xn)(f:α->R β):zA3 (some (.error e)) f=some (.error e):=rfl
@[simp] theorem zAE{α:Type}(a:α):optR (some a)=okR a:=rfl
@[simp] theorem zAG{α:Type}:optR (none:Option α)=none:=rfl
abbrev Rh:=List (Option Dt)
abbrev Sl:=Dt×Nat
abbrev Ro:=List (Option Sl)
abbrev EM:=Rh->R Dt
abbrev TM:=Rh->R Bool
abbrev AM:=Rh->R (List Dt)
abbrev FM:=List Dt->R Dt
noncomputable def ixA(n:Nat)(i:Int):Option Nat:=if 0<=i then(if i<n then some i.toNat else none)else if -(n:Int)<=i then some (i+n).toNat else none
def itA{α:Type}(xs:List α)(i:Int):Option α:=(ixA xs.length i).bind fun j=>xs[j]?
noncomputable def addD:Dt->Dt->Option Dt
 |.int i,.int j=>some (.int (i+j))
 |.str i,.str j=>@ite _ (i.length+j.length<=100000) (qA3 _) (some (.str (i++j))) none
 |.lst xs,.lst ys=>@ite _ (xs.length+ys.length<=100000) (qA3 _) (some (.lst (xs++ys))) none
 |_,_=>none
noncomputable def subD:Dt->Dt->Option Dt
 |.int i,.int j=>some (.int (i-j))
 |_,_=>none
noncomputable def mulD:Dt->Dt->Option Dt
 |.int i,.int j=>@ite _ (((-18446744073709551616<i/\i<18446744073709551616)\/(-18446744073709551616<j/\j<18446744073709551616))\/i.natAbs.log2+j.natAbs.log2<=67108864) (qA3 _) (some (.int (i*j))) none
 |_,_=>none
noncomputable def divD:Dt->Dt->Option Dt
 |.int i,.int j=>@ite _ (0<j/\j<1000000000000000000000000) (qA3 _) (some (.int (i/j))) none
 |_,_=>none
noncomputable def modD:Dt->Dt->Option Dt
 |.int i,.int j=>if 0<j then some (.int (i%j))else none
 |_,_=>none
noncomputable def powD:Dt->Dt->Option Dt
 |.int i,.int j=>@ite _ (0<=j/\j<=1000000/\i.natAbs<18446744073709551616) (qA3 _) (some (.int (i ^ j.toNat))) none
 |_,_=>none
noncomputable def negD:Dt->Option Dt
 |.int i=>some (.int (-i))
 |_=>none
noncomputable def cmpD(p:Int->Int->Bool):Dt->Dt->Option Dt
 |.int i,.int j=>some (.bl (p i j))
 |_,_=>none
noncomputable def eqD(x y:Dt):Option Dt:=if x.dep<=40/\y.dep<=40 then some (.bl (Dt.eq x y))else none
noncomputable def neD(x y:Dt):Option Dt:=if x.dep<=40/\y.dep<=40 then some (.bl (!Dt.eq x y))else none
noncomputable def isNonD:Dt->Bool
 |.non=>true
 |_=>false
def isD(x y:Dt):Option Dt:=match y with
 |.non=>some (.bl (isNonD x))
 |_=>none
noncomputable def isntD(x y:Dt):Option Dt:=match y with
 |.non=>some (.bl (!isNonD x))
 |_=>none
def ixD:Dt->Dt->Option Dt
 |.lst xs,.int i=>itA xs i
 |.tup xs,.int i=>itA xs i
 |.scr ns,.int i=>(itA ns i).map .int
 |.str z,.int i=>@ite _ (z.length<=100000) (qA3 _) ((itA z.cps.toList i).map fun c=>.str ⟨#[c]⟩) none
 |_,_=>none
noncomputable def lenD:List Dt->Option Dt
 |[.lst xs]=>some (.int xs.length)
 |[.tup xs]=>some (.int xs.length)
 |[.scr ns]=>some (.int ns.length)
 |[.str z]=>@ite _ (z.length<=100000) (qA3 _) (some (.int z.length)) none
 |_=>none
noncomputable def listD:List Dt->Option Dt
 |[.lst xs]=>some (.lst xs)
 |[.tup xs]=>some (.lst xs)
 |[.scr ns]=>some (.lst (ns.map .int))
 |_=>none
noncomputable def nums(lo:Int)(n:Nat):List Dt:=(qA4 n).map fun i:Nat=>.int (lo+(i:Int))
def rangeD:List Dt->Option Dt
 |[.int j]=>@ite _ ((-4611686018427387904<=j/\j<4611686018427387904)/\j<=100000) (qA3 _) (some (.lst (nums 0 j.toNat))) none
 |[.int i,.int j]=>@ite _ ((-4611686018427387904<=i/\i<4611686018427387904/\-4611686018427387904<=j/\j<4611686018427387904)/\j-i<=100000) (qA3 _) (some (.lst (nums i (j-i).toNat))) none
 |_=>none
noncomputable def tyD:Dt->String
 |.non=>"NoneType"
 |.bl _=>"bool"
 |.int _=>"int"
 |.str _=>"str"
 |.lst _=>"list"
 |.tup _=>"tuple"
 |.scr _=>""
 |.exc _ _ _=>""
 |.fn _ _=>""
 |.ins _ _=>""
 |.dct _=>""
def isiD(n:String)(x:Dt):Option Dt:=if tyD x = "" then none else some (.bl (tyD x==n||(tyD x == "bool" && n == "int")))
noncomputable def boolsD:List Dt->Option (List Bool)
 |[]=>some []
 |.bl b::r=>(boolsD r).map (b::·)
 |_::_=>none
def allD:List Dt->Option Dt
 |[.lst xs]=>(boolsD xs).map fun bs=>.bl (bs.all id)
 |_=>none
noncomputable def maxD:List Dt->Option Dt
 |[.int i,.int j]=>some (.int (if j>i then j else i))
 |_=>none
noncomputable def minD:List Dt->Option Dt
 |[.int i,.int j]=>some (.int (if j<i then j else i))
 |_=>none
noncomputable def absD:List Dt->Option Dt
 |[.int i]=>some (.int (if i<0 then -i else i))
 |_=>none
noncomputable def hasD(x:Dt)(ys:List Dt):Option Bool:=if x.dep=0/\Dt.depL ys=0 then some (ys.any fun y=>Dt.eq y x)else none
def inD(ng:Bool)(x y:Dt):Option Dt:=match y with
 |.lst ys=>(hasD x ys).map fun b=>.bl (if ng=true then !b else b)
 |.tup ys=>(hasD x ys).map fun b=>.bl (if ng=true then !b else b)
 |.str z=>match x with
  |.str y=>match y.cps.toList with
   |[c]=>some (.bl (if ng=true then !decide (c∈z.cps.toList)else decide (c∈z.cps.toList)))
   |_=>none
  |_=>none
 |_=>none
noncomputable def cutIx(n d:Nat):Option Int->Nat
 |none=>d
 |some v=>if v<0 then(v+(n:Int)).toNat else min v.toNat n
def cutA{α:Type}(xs:List α)(lo hi:Option Int):List α:=(xs.drop (cutIx xs.length 0 lo)).take (cutIx xs.length xs.length hi-cutIx xs.length 0 lo)
def slD:Dt->Option Int->Option Int->Option Dt
 |.lst xs,lo,hi=>some (.lst (cutA xs lo hi))
 |.str z,lo,hi=>@ite _ (z.length<=100000) (qA3 _) (some (.str ⟨(cutA z.cps.toList lo hi).toArray⟩)) none
 |_,_,_=>none
abbrev OM:=Rh->R (Option Int)
def oNo:OM:=fun _=>okR none
def oE(e:Rh->R Dt):OM:=fun ρ=>zA3 (e ρ) fun d=>match d with
 |.int i=>okR (some i)
 |_=>none
def eSl(a:Rh->R Dt)(lo hi:OM):Rh->R Dt:=fun ρ=>zA3 (a ρ) fun x=>zA3 (lo ρ) fun l=>zA3 (hi ρ) fun h=>optR (slD x l h)
noncomputable def posC(c:Nat):List Nat->Option Nat
 |[]=>none
 |x::r=>if x=c then some 0 else(posC c r).map (·+1)
def zZU(x:Dt)(ys:List Dt):Option Dt:=match x,ys with
 |.str z,[.str y]=>match y.cps.toList with
  |[c]=>some (.int (match posC c z.cps.toList with|some i=>(i:Int)|none=>-1))
  |_=>none
 |_,_=>none
noncomputable def zYP(x:Dt)(ys:List Dt):Option Dt:=match x,ys with
 |.str z,[.str y]=>match y.cps.toList with
  |[c]=>some (.int (z.cps.toList.count c:Nat))
  |_=>none
 |_,_=>none
noncomputable def zPX:Dt->Bool
 |.str _=>true
 |_=>false
def eMt(f:Dt->List Dt->Option Dt)(a:Rh->R Dt)(am:Rh->R (List Dt)):Rh->R Dt:=fun ρ=>zA3 (a ρ) fun x=>if zPX x=true then zA3 (am ρ) fun xs=>optR (f x xs)else none
noncomputable def signsD(z:Str):List Dt:=z.cps.toList.map fun c=>.str ⟨#[c]⟩
def eC(d:Dt):EM:=fun _=>okR d
def eV(i:Nat):EM:=fun ρ=>match ρ[i]? with
 |some (some d)=>okR d
 |_=>none
def eB(f:Dt->Dt->Option Dt)(a b:EM):EM:=fun ρ=>zA3 (a ρ) fun x=>zA3 (b ρ) fun y=>optR (f x y)
def eU(f:Dt->Option Dt)(a:EM):EM:=fun ρ=>zA3 (a ρ) fun x=>optR (f x)
def eAnd(a b:EM):EM:=fun ρ=>zA3 (a ρ) fun x=>match x with
 |.bl k=>if k=true then b ρ else okR (.bl false)
 |_=>none
def eOr(a b:EM):EM:=fun ρ=>zA3 (a ρ) fun x=>match x with
 |.bl k=>if k=true then okR (.bl true)else b ρ
 |_=>none
def eNot(a:EM):EM:=fun ρ=>zA3 (a ρ) fun x=>match x with
 |.bl k=>okR (.bl (!k))
 |_=>none
def eChain(p q:Dt->Dt->Option Dt)(a b c:EM):EM:=fun ρ=>zA3 (a ρ) fun x=>zA3 (b ρ) fun y=>zA3 (optR (p x y)) fun z=>match z with
 |.bl k=>if k=true then zA3 (c ρ) fun w=>optR (q y w)else okR (.bl false)
 |_=>none
def eIf(c:TM)(a b:EM):EM:=fun ρ=>zA3 (c ρ) fun k=>if k=true then a ρ else b ρ
def aNil:AM:=fun _=>okR []
def aCons(e:EM)(r:AM):AM:=fun ρ=>zA3 (e ρ) fun x=>zA3 (r ρ) fun xs=>okR (x::xs)
def eLst(a:AM):EM:=fun ρ=>zA3 (a ρ) fun xs=>@ite _ (xs.length<=100000) (qA3 _) (okR (.lst xs)) none
def eTup(a:AM):EM:=fun ρ=>zA3 (a ρ) fun xs=>@ite _ (xs.length<=100000) (qA3 _) (okR (.tup xs)) none
def eCall(f:FM)(a:AM):EM:=fun ρ=>zA3 (a ρ) f
def eBi(f:List Dt->Option Dt)(a:AM):EM:=fun ρ=>zA3 (a ρ) fun xs=>optR (f xs)
def eIsi(n:String)(a:EM):EM:=fun ρ=>zA3 (a ρ) fun x=>optR (isiD n x)
def tB(a:EM):TM:=fun ρ=>zA3 (a ρ) fun x=>match x with
 |.bl k=>okR k
 |_=>none
def tM(a:EM):TM:=fun ρ=>zA3 (a ρ) fun x=>match x with
 |.bl k=>okR k
 |.int i=>okR (i != 0)
 |.non=>okR false
 |_=>none
def tAn(a b:TM):TM:=fun ρ=>zA3 (a ρ) fun k=>if k=true then b ρ else okR false
def tOr(a b:TM):TM:=fun ρ=>zA3 (a ρ) fun k=>if k=true then okR true else b ρ
def tNo(a:TM):TM:=fun ρ=>zA3 (a ρ) fun k=>okR (!k)
def tYes:TM:=fun _=>okR true
abbrev IM:=Rh->R (List Dt)
def iSq(e:EM):IM:=fun ρ=>zA3 (e ρ) fun d=>match d with
 |.lst xs=>okR xs
 |.tup xs=>okR xs
 |.scr ns=>okR (ns.map .int)
 |.str z=>okR (signsD z)
 |_=>none
def iR1(e:AM):IM:=fun ρ=>zA3 (e ρ) fun vs=>match vs with
 |[.int j]=>@ite _ (-4611686018427387904<=j/\j<4611686018427387904) (qA3 _) (okR (nums 0 j.toNat)) none
 |_=>none
def iR2(e:AM):IM:=fun ρ=>zA3 (e ρ) fun vs=>match vs with
 |[.int i,.int j]=>@ite _ (-4611686018427387904<=i/\i<4611686018427387904/\-4611686018427387904<=j/\j<4611686018427387904) (qA3 _) (okR (nums i (j-i).toNat)) none
 |_=>none
noncomputable def enumD(n:Nat):List Dt->List Dt
 |[]=>[]
 |x::r=>.tup [.int n,x]::enumD (n+1) r
def iEn(e:AM):IM:=fun ρ=>zA3 (e ρ) fun vs=>match vs with
 |[.lst xs]=>okR (enumD 0 xs)
 |_=>none
noncomputable def zipD:List Dt->List Dt->List Dt
 |x::r,y::q=>.tup [x,y]::zipD r q
 |_,_=>[]
def iZi(e:AM):IM:=fun ρ=>zA3 (e ρ) fun vs=>match vs with
 |[.lst xs,.lst ys]=>okR (zipD xs ys)
 |_=>none
inductive Tg where
 |one (i:Nat)
 |tup (is:List Nat)
noncomputable def zB5:Tg->Dt->Option (List (Nat×Dt))
 |.one i,d=>some [(i,d)]
 |.tup is,.tup ds=>if ds.length=is.length then some (is.zip ds)else none
 |.tup _,_=>none
noncomputable def Tg.idx:Tg->List Nat
 |.one i=>[i]
 |.tup is=>is
noncomputable def zAT:Rh->List (Nat×Dt)->Rh
 |ρ,[]=>ρ
 |ρ,(i,d)::r=>zAT (ρ.set i (some d)) r
noncomputable def zBB:Ro->List (Nat×Dt)->Ro
 |ρ,[]=>ρ
 |ρ,(i,d)::r=>zBB (ρ.set i (some (d,0))) r
def compGo(ρ:Rh)(k:Nat)(tg:Tg)(c:TM)(e:EM):List Dt->List Dt->R (List Dt)
 |[],acc=>okR acc
 |d::ds,acc=>match zB5 tg d with
  |none=>none
  |some bs=>zA3 (c (zAT (ρ++qA9 k none) bs)) fun b=>if b=true then zA3 (e (zAT (ρ++qA9 k none) bs)) fun x=>compGo ρ k tg c e ds (acc++[x])else compGo ρ k tg c e ds acc
def eComp(it:IM)(k:Nat)(tg:Tg)(c:TM)(e:EM):EM:=fun ρ=>zA3 (it ρ) fun ds=>@ite _ (ds.length<=100000/\(tg.idx.all fun i=>decide (ρ.length<=i))=true) (qA3 _) (zA3 (compGo ρ k tg c e ds []) fun es=>okR (.lst es)) none
inductive Out where
 |nx (ρ:Ro)|rt (d:Dt)|bk (ρ:Ro)|ct (ρ:Ro)
abbrev SM:=Ro->R Out
noncomputable def full(ρ:Ro):Rh:=ρ.map fun o=>o.map qE2
noncomputable def frz(ρ:Ro):Rh:=ρ.map fun o=>match o with
 |some (d,n)=>if n=0\/d.dep=0 then some d else none
 |none=>none
noncomputable def frz1(i:Nat)(ρ:Ro):Ro:=match ρ[i]? with
 |some (some (d,_))=>ρ.set i (some (d,0))
 |_=>ρ
def frzAt:List Nat->Ro->Ro
 |[],ρ=>ρ
 |i::r,ρ=>frzAt r (frz1 i ρ)
def sNil:SM:=fun ρ=>okR (.nx ρ)
def sSeq(a b:SM):SM:=fun ρ=>zA3 (a ρ) fun o=>match o with
 |.nx ρ'=>b ρ'
 |o=>okR o
noncomputable def zWY:SM:=fun _=>none
def zWZ:SM:=fun ρ=>okR (.bk ρ)
def zZC:SM:=fun ρ=>okR (.ct ρ)
def sIf(c:TM)(a b:SM):SM:=fun ρ=>zA3 (c (full ρ)) fun k=>if k=true then a ρ else b ρ
def zZA(e:EM):SM:=fun ρ=>zA3 (e (full ρ)) fun _=>okR (.nx ρ)
def sSet(i n:Nat)(vs:List Nat)(e:EM):SM:=fun ρ=>zA3 (e (full ρ)) fun d=>
 if d.dep<=n then okR (.nx (ρ.set i (some (d,n))))else zA3 (e (frz (frzAt vs ρ))) fun d'=>okR (.nx ((frzAt vs ρ).set i (some (d',n))))
def sRet(L n:Nat)(vs:List Nat)(e:EM):SM:=fun ρ=>zA3 (e (full ρ)) fun d=>
 if d.dep<=n/\d.dep<=L then okR (.rt d)else if n=L then zA3 (e (frz (frzAt vs ρ))) fun d'=>okR (.rt d')else none
def zZ8:SM:=fun _=>okR (.rt .non)
def sRetV(L i:Nat):SM:=fun ρ=>match ρ[i]? with
 |some (some (d,k))=>if k=L\/L=0\/(d.dep<=k/\d.dep<=L/\k<1000)then okR (.rt d)else none
 |_=>none
def sApp(i n:Nat)(e:EM):SM:=fun ρ=>match ρ[i]? with
 |some (some (.lst ds,k+1))=>zA3 (e (full ρ)) fun d=>@ite _ (ds.length<=100000/\d.dep<=n/\d.dep<=k) (qA3 _) (okR (.nx (ρ.set i (some (.lst (ds++[d]),k+1))))) none
 |_=>none
def sItem(i n:Nat)(e1 e2:EM):SM:=fun ρ=>zA3 (e2 (full ρ)) fun d=>match ρ[i]? with
 |some (some (.lst ds,k+1))=>zA3 (e1 (full ρ)) fun z=>match z with
  |.int z=>match ixA ds.length z with
   |some q=>if d.dep<=n/\d.dep<=k then okR (.nx (ρ.set i (some (.lst (ds.set q d),k+1))))else none
   |none=>none
  |_=>none
 |_=>none
def sItem2(i n:Nat)(e0 e1 e2:EM):SM:=fun ρ=>zA3 (e2 (full ρ)) fun d=>match ρ[i]? with
 |some (some (.lst rs,k+2))=>zA3 (e0 (full ρ)) fun y=>match y with
  |.int y=>match ixA rs.length y with
   |some p=>match rs[p]? with
    |some (.lst ds)=>zA3 (e1 (full ρ)) fun z=>match z with
     |.int z=>match ixA ds.length z with
      |some q=>if d.dep<=n/\d.dep<=k then okR (.nx (ρ.set i (some (.lst (rs.set p (.lst (ds.set q d))),k+2))))else none
      |none=>none
     |_=>none
    |_=>none
   |none=>none
  |_=>none
 |_=>none
def forGo(tg:Tg)(b:SM):List Dt->SM
 |[],ρ=>okR (.nx ρ)
 |d::ds,ρ=>match zB5 tg d with
  |none=>none
  |some bs=>zA3 (b (zBB ρ bs)) fun o=>match o with
   |.nx ρ'=>forGo tg b ds ρ'
   |.ct ρ'=>forGo tg b ds ρ'
   |.bk ρ'=>okR (.nx ρ')
   |.rt d=>okR (.rt d)
def sFor(vs:List Nat)(it:IM)(tg:Tg)(b:SM):SM:=fun ρ=>zA3 (it (frz (frzAt vs ρ))) fun ds=>forGo tg b ds (frzAt vs ρ)
def sForR(it:IM)(i:Nat)(b:SM):SM:=fun ρ=>zA3 (it (full ρ)) fun ds=>forGo (.one i) b ds ρ
def whGo(c:TM)(b:SM):Nat->SM
 |0,_=>none
 |m+1,ρ=>zA3 (c (full ρ)) fun k=>if k=true then zA3 (b ρ) fun o=>match o with
   |.nx ρ'=>whGo c b m ρ'
   |.ct ρ'=>whGo c b m ρ'
   |.bk ρ'=>okR (.nx ρ')
   |.rt d=>okR (.rt d)
  else okR (.nx ρ)
noncomputable def WNs:{ n:Nat // n=1000000 }:=Classical.choice ⟨⟨1000000,rfl⟩⟩
noncomputable def WN:Nat:=WNs.val
theorem za0:WN=1000000:=WNs.property
def sWhile(c:TM)(b:SM):SM:=fun ρ=>whGo c b WN ρ
noncomputable def startO(n:Nat)(ds:List Dt):Ro:=ds.map (fun d=>some (d,0))++qA9 (n-ds.length) none
def endF:Out->R Dt
 |.nx _=>okR .non
 |.rt d=>okR d
 |_=>none
def runF(P n:Nat)(b:SM):FM:=fun ds=>if ds.length=P then zA3 (b (startO n ds)) endF else none
end
end Mi
namespace L2
open PySem PySem.Spec PyProof.Rows
theorem zU6(n d:Nat)(o:Option Int)(hd:d<=n):HT.sIx n d o<=n:=by
 cases o with
 |none=>exact hd
 |some v=>
  show(if v<0 then(v+(n:Int)).toNat else min v.toNat n)<=n
  split<;>lia
theorem zO3(lo hi:Option Int)(n:Nat):Builtin.Str.strSliceIndices lo hi 1 n=(qA4 (HT.sIx n n hi-HT.sIx n 0 lo)).map fun k=>HT.sIx n 0 lo+k:=by
 unfold Builtin.Str.strSliceIndices sliceRange;have c1:∀(o:Option Int)(d:Nat),(match o with|none=>(d:Int)|some i=>(if(1:Int)>0 then max 0 (min (if i<0 then i+(n:Int)else i) n)else max (-1) (min (if i<0 then i+(n:Int)else i) (n-1))))=((HT.sIx n d o:Nat):Int):=by
  intro o d;cases o with
  |none=>rfl
  |some v=>
   show _=(((if v<0 then(v+(n:Int)).toNat else min v.toNat n:Nat)):Int)
   dsimp only;rw[if_pos (by decide)]
   split<;>lia
 dsimp only;rw[if_pos (show(1:Int)>0 by decide),if_pos (show(1:Int)>0 by decide),if_pos (show(1:Int)>0 by decide)];have e1:=c1 lo 0;have e2:=c1 hi n;rw[show((0:Nat):Int)=0 by rfl]at e1;have h1:∀a b:Int,a=((HT.sIx n 0 lo:Nat):Int)->b=((HT.sIx n n hi:Nat):Int)->(qA4 ((if a<b then(b-a+1-1)/1 else 0).toNat)).map (fun k:Nat=>(a+1*(k:Int)).toNat)=(qA4 (HT.sIx n n hi-HT.sIx n 0 lo)).map fun k=>HT.sIx n 0 lo+k:=by
  intro a b ha hb;subst ha hb;have e:(if((HT.sIx n 0 lo:Nat):Int)<((HT.sIx n n hi:Nat):Int)then(((HT.sIx n n hi:Nat):Int)-((HT.sIx n 0 lo:Nat):Int)+1-1)/1 else 0).toNat=HT.sIx n n hi-HT.sIx n 0 lo:=by
   split
   ·rw[Int.ediv_one];lia
   ·lia
  rw[e];refine qB3 fun k _=>?_
  lia
 exact h1 _ _ e1 e2
theorem zPA:∀(xs:List Nat)(a k:Nat),a+k<=xs.length->((qA4 k).map fun j=>a+j).filterMap (xs[·]?)=(xs.drop a).take k:=by
 intro xs a k h
 induction k with
 |zero=>simp
 |succ k ih=>
  rw[qFf,qBv,List.filterMap_append,ih (by lia),List.take_add_one]
  congr 1
  have:a+k<xs.length:=by lia
  simp[List.getElem?_drop,this]
theorem zRC(z:Str)(lo hi:Option Int):Txt.slice z lo hi=⟨(Mi.cutA z.cps.toList lo hi).toArray⟩:=by
 obtain⟨⟨xs⟩⟩:=z;have hl:(⟨⟨xs⟩⟩:Str).length=xs.length:=rfl;unfold Txt.slice;rw[zO3,hl];have e0:∀o d,Mi.cutIx xs.length d o=HT.sIx xs.length d o:=fun o d=>by cases o<;>rfl
 have hb:=zU6 xs.length xs.length hi (qA5 _);have ha:=zU6 xs.length 0 lo (qAt _);have hc:Mi.cutA xs lo hi=(xs.drop (HT.sIx xs.length 0 lo)).take (HT.sIx xs.length xs.length hi-HT.sIx xs.length 0 lo):=by
  unfold Mi.cutA;rw[e0,e0]
 show _=(⟨(Mi.cutA xs lo hi).toArray⟩:Str)
 rw[hc]
 split
 ·rename_i h
  have h':HT.sIx xs.length xs.length hi-HT.sIx xs.length 0 lo=xs.length:=by simpa using h
  have a0:HT.sIx xs.length 0 lo=0:=by lia
  rw[h',a0,qD3,qFb]
 ·by_cases hle:HT.sIx xs.length 0 lo<=HT.sIx xs.length xs.length hi
  ·have:=zPA xs (HT.sIx xs.length 0 lo) (HT.sIx xs.length xs.length hi-HT.sIx xs.length 0 lo) (by lia)
   rw[<- this];simp
  ·rw[show HT.sIx xs.length xs.length hi-HT.sIx xs.length 0 lo=0 by lia];simp
section
variable{X:Cx}
def rSlU(K:qA1):V->Option Int->Option Int->Hp->VK->Prop:=fun x lo hi H Q=>match x with
 |.str z=>z.length<=sizeLine/\Q (.str ⟨(Mi.cutA z.cps.toList lo hi).toArray⟩) H
 |.ref a=>∃xs,SqL K H a xs/\∀p,H p=none->Q (.ref p) (upd H p (.lst (cutV xs lo hi)))
 |_=>False
theorem zPG{v:Value}{o:Option Int}(h:IsPart v o):∃l:Option (Int×Tok),v=partValue l/\l.map (·.1)=o:=by
 cases h with
 |none=>exact⟨none,rfl,rfl⟩
 |int i t=>exact⟨some (i,t),rfl,rfl⟩
theorem u_sl{K:qA1}(hK:X.K=K:=by rfl):SlR X (rSlU K):=by
 subst hK;intro pins s σ H x v vl vu lo hi sl Q I rx hs pl pu h;cases x with
 |ref a=>
  obtain⟨xs,h1,h2⟩:=h;exact zUO pins s σ H _ v vl vu lo hi sl Q I rx hs pl pu ⟨a,xs,rfl,h1,h2⟩
 |str z=>
  obtain⟨hz,q⟩:=h;obtain⟨t,rfl⟩:=rx;obtain⟨l,rfl,el⟩:=zPG pl;obtain⟨u,rfl,eu⟩:=zPG pu;obtain⟨o,g1,g2,g3⟩:=hs;refine⟨"str",_,F.slot_str_getitem.lookup,typeIs_str _ _ _,wpAny_getItem_str_slice (l:=l) (u:=u) (st:=none) ⟨o,g1,g2,g3⟩ rfl ?_⟩;have hp:(if((1:Int)==1&&(Builtin.Str.strSliceIndices lo hi 1 z.length).length==z.length)=true then Made.val (.str z t)else Made.str ⟨((Builtin.Str.strSliceIndices lo hi 1 z.length).filterMap (z.cps[·]?)).toArray⟩).post (EP X pins σ Q) s:=by
   refine post_val_or_str ⟨qAj (Txt.slice_le z lo hi) hz,fun t' k=>?_⟩;refine⟨.str (Txt.slice z lo hi),H,I.tok _,⟨_,rfl⟩,?_⟩;rw[zRC];exact q
  unfold sliceMade slicePicked;rw[el,eu];exact hp
 |_=>exact qA6 h
end
noncomputable def Its(z:Str):It:=⟨fun i _=>i<z.cps.size,fun i H x H'=>H'=H/\∃c,z.cps[i]?=some c/\x=.str ⟨#[c]⟩,fun i _=>z.cps.size<=i⟩
theorem zR7{P:Program}{w:World}{K:qA1}{tg:Expr}(z:Str)(t:Tok)(it:Addr)(ty:String)(hty:ty=strIterType z):Turn P w K tg (Its z) [it] it (fun i h=>h.IsStrIter it ty z t i) where
 mem:=by simp
 obj:=fun i h st b hb=>by
  have e:b=it:=by simpa using hb
  subst e;obtain⟨o,e,c,d⟩:=st;exact⟨o,e,fun v z=>by rw[d]at z;cases z⟩
 keep:=fun i h h' st k=>by obtain⟨o,ho,r⟩:=st;exact⟨o,k it (by simp) o ho,r⟩
 item:=by
  intro X hP hw hK hc i pins s σ H E I hf st hg;subst hP hw hK;have hi:i<z.cps.size:=hg;have hx:z.cps[i]?=some z.cps[i]:=Array.getElem?_eq_getElem hi;obtain⟨f0,f1,f2,f3,f4,f5⟩:=hf it (by simp);have fin:∀h',h'.IsStrIter it ty z t (i+1)->Heap.SameBut it s.heap h'->∃u,some (Value.str ⟨#[z.cps[i]]⟩ s.toks)=some u/\wpAny (model X.prog X.w) X.A (letOwnedTupleGo tg (.ref it) u) (fun _ s2=>∃x H',Inv X pins σ H' s2/\RelV x u/\(Its z).yld i H x H'/\s2.heap.IsStrIter it ty z t (i+1)/\∀b∈[it],H' b=none) E { s with heap:=h',toks:=s.toks+1 }:=by
   intro h' st' sb;have I1:Inv X pins σ H { s with heap:=h',toks:=s.toks+1 }:=I.turned (t':=s.toks+1) (fun b o hb e=>(sb.2 b hb).trans e) f0 f1 f3 f4 f5;obtain⟨o,e,c,d⟩:=id st';refine⟨_,rfl,zSF (s:={ s with heap:=h',toks:=s.toks+1 }) e c d ?_ ⟨.str ⟨#[z.cps[i]]⟩,H,I1,⟨_,rfl⟩,⟨rfl,_,hx,rfl⟩,st',fun b hb=>(hf b hb).1⟩⟩;rw[hty];unfold strIterType;split<;>decide
  cases ha:z.cps.all (· < 128)
  ·have e:ty = "str_iterator":=by rw[hty];unfold strIterType;rw[ha];rfl
   subst e;exact wpAny_pyNext_wide_item st hx fun h' a b=>fin h' a b
  ·have e:ty = "str_ascii_iterator":=by rw[hty];unfold strIterType;rw[ha];rfl
   subst e;exact wpAny_pyNext_ascii_item st hx fun h' a b=>fin h' a b
 done:=by
  intro X hP hw hK hc i pins s σ H E I hf st hg;subst hP hw hK;have hx:z.cps[i]?=none:=Array.getElem?_eq_none hg;obtain⟨f0,f1,f2,f3,f4,f5⟩:=hf it (by simp);have fin:∀h',Heap.ExtBut it s.heap h'->(none:Option Value)=none/\Inv X pins σ H { s with heap:=h' }:=fun h' eb=>⟨rfl,I.turned (t':=s.toks) (fun b o hb e=>eb b o hb e) f0 f1 f3 f4 f5⟩
  cases ha:z.cps.all (· < 128)
  ·have e:ty = "str_iterator":=by rw[hty];unfold strIterType;rw[ha];rfl
   subst e;exact wpAny_pyNext_wide_end (I.ok.hd hc) st hx fun h' a=>fin h' a
  ·have e:ty = "str_ascii_iterator":=by rw[hty];unfold strIterType;rw[ha];rfl
   subst e;exact wpAny_pyNext_ascii_end (I.ok.hd hc) st hx fun h' a=>fin h' a
 self:=fun A i s Q E st h=>by
  cases ha:z.cps.all (· < 128)
  ·have e:ty = "str_iterator":=by rw[hty];unfold strIterType;rw[ha];rfl
   subst e;exact wpAny_pyIter_striter_wide st h
  ·have e:ty = "str_ascii_iterator":=by rw[hty];unfold strIterType;rw[ha];rfl
   subst e;exact wpAny_pyIter_striter_ascii st h
section
variable{X:Cx}
def iAny(K:qA1)(tl:TE):TI:=fun σ H R=>tl σ H fun x H1=>match x with
 |.ref a=>(∃xs,SqL K H1 a xs)/\R (Itl K a) H1\/(∃xs,SqT K H1 a xs)/\R (Itt K a) H1
 |.str z=>R (Its z) H1
 |_=>False
theorem zCB{K:qA1}{tg l:Expr}{tl:TE}(hl:PE X l tl)(hK:X.K=K:=by rfl):PI X tg l (iAny K tl):=by
 subst hK;intro pins s σ H R I h;refine thn (hl pins s σ H _ I h) fun v s1 z0=>?_
 obtain⟨x,H1,I1,r1,q1⟩:=z0;cases x with
 |ref a=>
  cases r1
  rcases q1 with⟨⟨xs,hq⟩,q⟩|⟨⟨xs,hq⟩,q⟩
  ·obtain⟨its,rv,p,hz⟩:=I1.list hq;refine wpAny_pyIter_list p.isList ?_;refine⟨s1.heap.objs.size,[s1.heap.objs.size],_,_,H1,rfl,I1.kept (t':=s1.toks) fun b o e=>Heap.get?_push_of_some _ e,zOI a _,⟨_,Heap.get?_push_size _ rfl,rfl,rfl⟩,fun b hb=>?_,q⟩;have e:b=s1.heap.objs.size:=by simpa using hb
   subst e;exact I1.fpOk (qA5 _) (I1.hok.fresh (qA5 _))
  ·obtain⟨its,rv,p,hz⟩:=I1.tuple hq;refine wpAny_pyIter_tuple (show s1.heap.IsTuple a its.toArray from p) ?_;refine⟨s1.heap.objs.size,[s1.heap.objs.size],_,_,H1,rfl,I1.kept (t':=s1.toks) fun b o e=>Heap.get?_push_of_some _ e,zNJ a _,⟨_,Heap.get?_push_size _ rfl,rfl,rfl⟩,fun b hb=>?_,q⟩;have e:b=s1.heap.objs.size:=by simpa using hb
   subst e;exact I1.fpOk (qA5 _) (I1.hok.fresh (qA5 _))
 |str z=>
  obtain⟨t,rfl⟩:=r1;refine wpAny_pyIter_strU ?_;refine⟨s1.heap.objs.size,[s1.heap.objs.size],_,_,H1,rfl,I1.kept (t':=s1.toks) fun b o e=>Heap.get?_push_of_some _ e,zR7 z t _ _ rfl,⟨_,Heap.get?_push_size _ rfl,rfl,rfl⟩,fun b hb=>?_,q1⟩;have e:b=s1.heap.objs.size:=by simpa using hb
  subst e;exact I1.fpOk (qA5 _) (I1.hok.fresh (qA5 _))
 |_=>exact qA6 q1
theorem zJQ:∀{ys:List Str}{us:List Value},Vals (ys.map V.str) us->StrsAre us ys
 |[],_,.nil=>.nil
 |y::ys,_,.cons r t=>by obtain⟨k,rfl⟩:=r;exact .cons y k (zJQ t)
end
end L2
namespace L2
open PySem PySem.Spec PyProof.Rows
def Itz(K:qA1)(a b:Addr):It:=
 ⟨fun i H=>∃xs ys x y,SqL K H a xs/\SqL K H b ys/\xs[i]?=some x/\ys[i]?=some y,fun i H v H'=>∃T x y,v=.ref T/\H T=none/\H'=upd H T (.tup [x,y])/\(∀xs,SqL K H a xs->xs[i]?=some x)/\∀ys,SqL K H b ys->ys[i]?=some y,
  fun i H=>∃xs ys,SqL K H a xs/\SqL K H b ys/\(xs.length<=i\/ys.length<=i)⟩
theorem zR6{P:Program}{w:World}{K:qA1}{ts:List Expr}{kk:Nat}{tp:Pos}{a b z TI TO i1 i2:Addr}(D:ZipApart z TI TO i1 i2 a b) :
  Turn P w K (.Tuple ts kk tp) (Itz K a b) [z,TI,TO,i1,i2] z (fun i h=>IsZip h z TI TO .none/\IsPair h TI (.ref i1) (.ref i2)/\(∃x y,IsPair h TO x y)/\h.IsListIter i1 a i/\h.IsListIter i2 b i) where
 mem:=by simp
 obj:=fun i h st c hc=>by
  obtain⟨hz,hTI,⟨x,y,hTO⟩,h1,h2⟩:=st;have five:c=z\/c=TI\/c=TO\/c=i1\/c=i2:=by simpa using hc
  rcases five with e|e|e|e|e<;>subst e
  ·exact⟨_,hz,fun v q=>by cases q⟩
  ·exact⟨_,hTI,fun v q=>by cases q⟩
  ·exact⟨_,hTO,fun v q=>by cases q⟩
  ·obtain⟨o,e,_,d⟩:=h1;exact⟨o,e,fun v q=>by rw[d]at q;cases q⟩
  ·obtain⟨o,e,_,d⟩:=h2;exact⟨o,e,fun v q=>by rw[d]at q;cases q⟩
 keep:=fun i h h' st k=>by
  obtain⟨hz,hTI,⟨x,y,hTO⟩,h1,h2⟩:=st;exact⟨k z (by simp) _ hz,k TI (by simp) _ hTI,⟨x,y,k TO (by simp) _ hTO⟩,h1.at fun o e=>k i1 (by simp) o e,h2.at fun o e=>k i2 (by simp) o e⟩
 item:=by
  intro X hP hw hK hc i pins s σ H E I hf st hg;subst hP hw hK;obtain⟨xs,ys,x,y,hq1,hq2,hx,hy⟩:=hg;obtain⟨its1,rv1,p1,hz1⟩:=I.list hq1;obtain⟨its2,rv2,p2,hz2⟩:=I.list hq2;obtain⟨u1,hu1,ru1⟩:=rv1.get hx;obtain⟨u2,hu2,ru2⟩:=rv2.get hy;obtain⟨hz,hTI,⟨a0,b0,hTO⟩,h1,h2⟩:=st;refine wpAny_pyNext_zip_item D hz hTI hTO h1 h2 p1.isList p2.isList (x:=u1) (y:=u2) (by simpa using hu1) (by simpa using hu2) fun h' g1 g2 g3 g4 g5 g6 g7=>?_
  refine⟨_,rfl,wpAny_letOwnedTupleGo_zip g1 fun h'' hz'' hs''=>?_⟩;have lt:∀{c:Addr}{o:Obj},s.heap.get? c=some o->c<s.heap.objs.size:=fun e=>Heap.lt_size e
  have hzs:=lt hz;have hTz:s.heap.objs.size≠z:=qBo hzs;have kk':∀c u,c∉[z,TI,TO,i1,i2]->s.heap.get? c=some u->h''.get? c=some u:=fun c u hc q=>by
   have c1:c≠z:=fun e=>hc (by simp[e])
   exact(hs''.2 c c1).trans (g7 c u c1 (fun e=>hc (by simp[e])) (fun e=>hc (by simp[e])) (fun e=>hc (by simp[e])) q)
  have hT'':=(hs''.2 _ hTz).trans g5;refine⟨.ref s.heap.objs.size,_,I.turnedNew (t':=s.toks) (o:=.tup [x,y]) hf kk' (qA5 _) ⟨by show 2<=sizeLine;decide,[u1,u2],.cons ru1 (.cons ru2 .nil),⟨_,hT'',rfl,_,rfl⟩⟩,rfl,
   ⟨_,x,y,rfl,I.fresh,rfl,fun zs hy=>by rw[I.list_inj hy hq1];exact hx,fun zs hy'=>by rw[I.list_inj hy' hq2];exact hy⟩,
   ⟨hz'',(hs''.2 _ D.TIz).trans (g7 TI _ D.TIz D.TITO D.TIi1 D.TIi2 hTI),⟨_,_,(hs''.2 _ D.TOz).trans g2⟩,g3.at fun o e=>(hs''.2 _ D.i1z).trans e,g4.at fun o e=>(hs''.2 _ D.i2z).trans e⟩,fun c hc=>?_⟩
  have hcs:c<s.heap.objs.size:=by
   have five:c=z\/c=TI\/c=TO\/c=i1\/c=i2:=by simpa using hc
   rcases five with e|e|e|e|e<;>subst e
   ·exact hzs
   ·exact lt hTI
   ·exact lt hTO
   ·obtain⟨o,e,_⟩:=h1;exact lt e
   ·obtain⟨o,e,_⟩:=h2;exact lt e
  rw[zAC (qAp hcs)];exact(hf c hc).1
 done:=by
  intro X hP hw hK hc i pins s σ H E I hf st hg;subst hP hw hK;obtain⟨xs,ys,hq1,hq2,hle⟩:=hg;obtain⟨its1,rv1,p1,hz1⟩:=I.list hq1;obtain⟨its2,rv2,p2,hz2⟩:=I.list hq2;have l1:=rv1.length;have l2:=rv2.length;obtain⟨hz,hTI,⟨a0,b0,hTO⟩,h1,h2⟩:=st;refine wpAny_pyNext_zip_end (I.ok.hd hc) D hz hTI hTO h1 h2 p1.isList p2.isList ?_ fun h' hk=>⟨rfl,I.turnedL (t':=s.toks) hf fun c u hc q=>hk c u (fun e=>hc (by simp[e])) (fun e=>hc (by simp[e])) (fun e=>hc (by simp[e])) (fun e=>hc (by simp[e])) q⟩
  rcases hle with q|q
  ·exact .inl (by simp;lia)
  ·exact .inr (by simp;lia)
 self:=fun _ _ _ _ _ st h=>wpAny_pyIter_zip st.1 h
section
variable{X:Cx}{K:qA1}
def iZip(K:qA1)(tl:TA):TI:=fun σ H R=>tl σ H fun vs H1=>match vs with
 |[.ref a,.ref b]=>(∃xs,SqL K H1 a xs)/\(∃ys,SqL K H1 b ys)/\R (Itz K a b) H1
 |_=>False
theorem zXF{ts:List Expr}{kk:Nat}{tp p pos:Pos}{a b:Expr}{ta:TA}(hg:Gl X "zip")(hm:X.mg "zip" = none)(ha:PA X [a,b] ta)(hs:starEach [a,b] X.env=(false,eval a X.env)::starEach [b] X.env:=by rfl)(hpl:(backTo pos (starEach [b] X.env)).any (·.1)=false:=by rfl)(hK:X.K=K:=by rfl) :
  PI X (.Tuple ts kk tp) (.Call (.Name "zip" p) [a,b] [] pos) (iZip K ta):=by
 subst hK;intro pins s σ H R I h;refine Call_ (zH8 I hg hm boot_zip (qB6 (thn (ha pos pins s σ H _ I h) fun us s1 z0=>?_) hs hpl));obtain⟨vs,H1,I1,r1,q1⟩:=z0;cases vs with
 |nil=>exact qA6 q1
 |cons hd1 tl1=>
  cases hd1 with
  |ref l1=>
   cases tl1 with
   |nil=>exact qA6 q1
   |cons hd2 tl2=>
    cases hd2 with
    |ref l2=>
     cases tl2 with
     |nil=>
      obtain⟨⟨xs,hq1⟩,⟨ys,hq2⟩,q⟩:=q1;obtain⟨u1,u2,rfl,rx,ry⟩:=zR2 r1;cases rx;cases ry;obtain⟨its1,rv1,p1,hz1⟩:=I1.list hq1;obtain⟨its2,rv2,p2,hz2⟩:=I1.list hq2;have lt1:l1<s1.heap.objs.size:=by obtain⟨o,ho,_⟩:=p1.isList;exact Heap.lt_size ho
      have lt2:l2<s1.heap.objs.size:=by obtain⟨o,ho,_⟩:=p2.isList;exact Heap.lt_size ho
      refine call_zip_2 p1.isList p2.isList fun h' hz hTI hTO h1 h2 hsz hk=>?_
      refine wpAny_pyIter_zip hz ?_;refine⟨s1.heap.objs.size+4,[s1.heap.objs.size+4,s1.heap.objs.size+2,s1.heap.objs.size+3,s1.heap.objs.size,s1.heap.objs.size+1],_,_,H1,rfl,I1.kept (t':=s1.toks) hk,zR6 (zipApart_new lt1 lt2),⟨hz,hTI,⟨_,_,hTO⟩,h1,h2⟩,fun c hc=>?_,q⟩;have hc':s1.heap.objs.size<=c:=by
       have five:c=s1.heap.objs.size+4\/c=s1.heap.objs.size+2\/c=s1.heap.objs.size+3\/c=s1.heap.objs.size\/c=s1.heap.objs.size+1:=by simpa using hc
       rcases five with e|e|e|e|e<;>rw[e]<;>first|exact qA5 _|exact qDj _ _
      exact I1.fpOk hc' (I1.hok.fresh hc')
     |cons _ _=>exact qA6 q1
    |_=>exact qA6 q1
  |_=>exact qA6 q1
end
end L2
namespace L2
open PySem PySem.Spec PyProof.Rows
def XO(e:Addr)(C:Value)(d:Option Addr)(h:Heap):Prop:=∃oe vs,h.get? e=some oe/\oe.cls=C/\oe.dict=d/\oe.data=.fields vs/\1<vs.size
abbrev xo(e:Addr)(C:Value)(d:Option Addr):HO:=.ext (XO e C d)
def Fl(n:Nat)(e:Addr)(C:Value)(d:Option Addr)(mk:Value)(H:Hp)(h:Heap):Prop:=
 ∃oe vs T oT ts,h.get? e=some oe/\oe.cls=C/\oe.dict=d/\oe.data=.fields vs/\vs[1]?=some (.ref T)/\n<=T/\T≠e/\H T=none/\h.get? T=some oT/\oT.data=.fields ts/\ts[3]?=some mk
def Fly(n:Nat)(e:Addr)(C:Value)(d:Option Addr)(H:Hp)(h:Heap):Prop:=
 H e=some (xo e C d)/\((∃oe vs,h.get? e=some oe/\oe.cls=C/\oe.dict=d/\oe.data=.fields vs/\vs[1]?=some .none)\/Fl n e C d .none H h)
def Held(n:Nat)(e:Addr)(C:Value)(d:Option Addr)(L:Addr)(H:Hp)(h:Heap):Prop:=H e=some (xo e C d)/\Fl n e C d (rawInt L) H h
theorem Fly.mono{n n':Nat}{e:Addr}{C:Value}{d:Option Addr}{H:Hp}{h:Heap}(x:Fly n e C d H h)(hn:n'<=n):Fly n' e C d H h:=by
 obtain⟨a,b|⟨oe,vs,T,oT,ts,h1,h2,h3,h4,h5,h6,h7⟩⟩:=x
 ·exact⟨a,.inl b⟩
 ·exact⟨a,.inr ⟨oe,vs,T,oT,ts,h1,h2,h3,h4,h5,qAj hn h6,h7⟩⟩
structure Nt(n:Nat)(fs ch:List Addr)(e:Addr)(H:Hp)(h h':Heap):Prop where
 keep:∀b o,h.get? b=some o->b≠e->b∉fs->b∉ch->h'.get? b=some o
 slot:∀b o,h.get? b=some o->b≠e->b∉ch->∃sl,h'.get? b=some { o with slots:=sl }
 there:∀b o,h.get? b=some o->∃o',h'.get? b=some o'
 old:∀b∈ch,n<=b/\H b=none/\∃o vs,h.get? b=some o/\o.data=.fields vs
section
variable{M:Model}{A:Around}{E:Value->Shared->Prop}{s:Shared}{n:Nat}{e L:Addr}{C:Value}{d:Option Addr}{H:Hp}{base:Heap}{env:Env}{outer:List Env}
theorem zU2{oe:Obj}{vs:Array Value}{head:Value}{hadNext:Bool}{Q:Unit->Shared->Prop}
  (hfr:A.frames=some (env::outer)) (hl:s.heap.FunFrames base (env::outer)) (hf:env.frame=some L)
  (he:s.heap.get? e=some oe) (hc:oe.cls=C) (hdi:oe.dict=d) (hd:oe.data=.fields vs) (hsz:1<vs.size) (hn:n<=s.heap.objs.size) (hH:∀b,s.heap.objs.size<=b->H b=none)
  (h:∀h',(∀b o,s.heap.get? b=some o->b≠e->b∉frs (env::outer)->h'.get? b=some o)->(∀b o,s.heap.get? b=some o->b≠e->∃sl,h'.get? b=some { o with slots:=sl }) ->
   (∃o',h'.get? e=some o')->Fl n e C d (rawInt L) H h'->Q () { s with heap:=h' }) :
  wpAny M A (do let a <- frameOf env;let pl <- entryPlaceOf L hadNext;let b <- EntryCells.newEntry head a .none (rawInt L) .none pl;setField (.ref e) 1 b) Q E s:=by
 have hene:e∉(env::outer).filterMap (·.frame):=fun hm=>by
  obtain⟨_,o,ho,hnf⟩:=hl.mem hm;rw[he]at ho;injection ho with ho;subst ho;exact hnf vs hd
 refine wpAny_bind (wpAny_frameOf_fun hfr hl hf fun h₁ hs₁=>?_);refine wpAny_bind (wpAny_entryPlaceOf fun pl hpl=>?_);unfold EntryCells.newEntry newFields;refine wpAny_bind (wpAny_newObj_type ?_ (hpl.sizeOk5 _ _ _ _ _));have he₁:h₁.get? e=some oe:=(hs₁.2.1 e hene).trans he;have he₂:=Heap.get?_push_of_some (h:=h₁) { cls:=.type "traceback",dict:=none,data:=.fields ([head,.ref L,.none,rawInt L,.none]++(if pl.isEmpty then qA9 6 Value.none else pl)).toArray } he₁;have hTe:h₁.objs.size≠e:=qBo (Heap.lt_size he₁);have hd₃:=Obj.data_mapFields hd (·.setIfInBounds 1 (Value.ref h₁.objs.size));have he₃:=Heap.get?_update_self (Obj.mapFields (·.setIfInBounds 1 (Value.ref h₁.objs.size))) he₂ (Obj.isFreed_of_fields hd₃);have hT₃:=(Heap.get?_update_other (h₁.push { cls:=.type "traceback",dict:=none,data:=.fields ([head,.ref L,.none,rawInt L,.none]++(if pl.isEmpty then qA9 6 Value.none else pl)).toArray })
  (Obj.mapFields (·.setIfInBounds 1 (Value.ref h₁.objs.size))) (qCr hTe)).trans (Heap.get?_push_size h₁ rfl)
 have keep:∀b o,b≠e->h₁.get? b=some o ->
   ((h₁.push { cls:=.type "traceback",dict:=none,data:=.fields ([head,.ref L,.none,rawInt L,.none]++(if pl.isEmpty then qA9 6 Value.none else pl)).toArray }).update e (Obj.mapFields (·.setIfInBounds 1 (Value.ref h₁.objs.size)))).get? b=some o:=
  fun b o hbe hb=>by
   rw[Heap.get?_update_other _ _ (qCr hbe)];exact Heap.get?_push_of_some _ hb
 have hsz1:h₁.objs.size=s.heap.objs.size:=hs₁.1;refine wpAny_setField he₂ hd hsz (h _ (fun b o hb hbe hbf=>keep b o hbe ((hs₁.2.1 b hbf).trans hb)) (fun b o hb hbe=>?_) ⟨_,he₃⟩ ?_)
 ·obtain⟨sl,e1⟩:=hs₁.2.2 b o hb;exact⟨sl,keep b _ hbe e1⟩
 ·have hdo:∀(o:Obj) f,(Obj.mapFields f o).dict=o.dict:=fun o f=>by unfold Obj.mapFields;split<;>rfl
  exact⟨_,_,h₁.objs.size,_,_,he₃,(Obj.cls_mapFields _ _).trans hc,(hdo _ _).trans hdi,hd₃,by simp[hsz],by rw[hsz1];exact hn,hTe,hH _ (by rw[hsz1];exact qA5 _),hT₃,rfl,
   by first|(simp;done)|(rcases hpl with rfl|⟨_,_,_,_,_,_,_,rfl⟩<;>simp)⟩
theorem zVC{Q:Unit->Shared->Prop}(hfr:A.frames=some (env::outer))(hl:s.heap.FunFrames base (env::outer))(hf:env.frame=some L)(x:Fly n e C d H s.heap)(hn:n<=s.heap.objs.size)(hH:∀b,s.heap.objs.size<=b->H b=none)
  (h:∀h' ch,Nt n (frs (env::outer)) ch e H s.heap h'->Held n e C d L H h'->Q () { s with heap:=h' }):wpAny M A (noteFrame (.ref e) env) Q E s:=by
 obtain⟨hx,⟨oe,vs,he,hc,hdi,hd,h1⟩|⟨oe,vs,T,oT,ts,he,hc,hdi,hd,h1,hnT,hTe,hHT,hT,hdT,h3⟩⟩:=x
 ·unfold noteFrame;simp only[hf];refine wpAny_bind (wpAny_field he hd h1 ?_);rw[if_neg (by decide)];refine zU2 hfr hl hf he hc hdi hd (qBa.mp h1).1 hn hH fun h' k1 k2 k3 k4=>?_
  refine h h' [] ⟨fun b o hb hbe hbf _=>k1 b o hb hbe hbf,fun b o hb hbe _=>k2 b o hb hbe,fun b o hb=>?_,fun b hb=>nomatch hb⟩ ⟨hx,k4⟩
  by_cases z:b=e
  ·rw[z];exact k3
  ·obtain⟨sl,q⟩:=k2 b o hb z;exact⟨_,q⟩
 ·unfold noteFrame;simp only[hf];refine wpAny_bind (wpAny_field he hd h1 ?_);rw[if_pos (show(Value.ref T != Value.none)=true from by simp)];refine wpAny_bind (wpAny_field hT hdT h3 ?_);rw[if_neg (show ¬((Value.none==rawInt L)=true) from by simp[rawInt])];refine wpAny_bind (wpAny_setField hT hdT (qBa.mp h3).1 ?_);have other:∀b,b≠T->(s.heap.update T (Obj.mapFields (·.setIfInBounds 3 Value.none))).get? b=s.heap.get? b:=fun b hb=>Heap.get?_update_other _ _ (qCr hb)
  have noRecord:∀b o,s.heap.get? b=some o->(∀vs,o.data≠.fields vs)->b≠T:=fun b o hb hnf q=>by
   rw[q,hT]at hb;injection hb with hb;subst hb;exact hnf ts hdT
  have hl1:=hl.of_keeps (h':=s.heap.update T (Obj.mapFields (·.setIfInBounds 3 Value.none))) fun b o hb hnf=>⟨o,(other b (noRecord b o hb hnf)).trans hb,rfl⟩
  have hself:=Heap.get?_update_self (Obj.mapFields (·.setIfInBounds 3 Value.none)) hT (Obj.isFreed_of_fields (Obj.data_mapFields hdT _));have hsz:(s.heap.update T (Obj.mapFields (·.setIfInBounds 3 Value.none))).objs.size=s.heap.objs.size:=by simp
  refine zU2 (s:={ s with heap:=s.heap.update T (Obj.mapFields (·.setIfInBounds 3 Value.none)) }) hfr hl1 hf ((other e (qCr hTe)).trans he) hc hdi hd (qBa.mp h1).1 (by rw[hsz];exact hn) (by rw[hsz];exact hH) fun h' k1 k2 k3 k4=>?_
  have nT:∀b,b∉[T]->b≠T:=fun b hb z=>hb (by simp[z])
  refine h h' [T] ⟨fun b o hb hbe hbf hc=>k1 b o ((other b (nT b hc)).trans hb) hbe hbf,fun b o hb hbe hc=>k2 b o ((other b (nT b hc)).trans hb) hbe,fun b o hb=>?_,fun b hb=>?_⟩ ⟨hx,k4⟩
  ·by_cases z:b=e
   ·rw[z];exact k3
   ·by_cases z':b=T
    ·rw[z'];obtain⟨sl,q⟩:=k2 T _ hself hTe;exact⟨_,q⟩
    ·obtain⟨sl,q⟩:=k2 b o ((other b z').trans hb) z;exact⟨_,q⟩
  ·obtain rfl:b=T:=by simpa using hb
   exact⟨hnT,hHT,oT,ts,hT,hdT⟩
theorem zVJ{Q:Unit->Shared->Prop}{fs:List Addr}{mk:Value}(x:Fl n e C d mk H s.heap)
  (h:∀h' ch,Nt n fs ch e H s.heap h'->Fl n e C d .none H h'->Q () { s with heap:=h' }):wpAny M A (setFlight (.ref e) none) Q E s:=by
 obtain⟨oe,vs,T,oT,ts,he,hc,hdi,hd,h1,hnT,hTe,hHT,hT,hdT,h3⟩:=x;have hsz3:3<ts.size:=(qBa.mp h3).1;have other:∀b,b≠T->(s.heap.update T (Obj.mapFields (·.setIfInBounds 3 ((none:Option Addr).elim Value.none fun f=>rawInt f)))).get? b=s.heap.get? b:=
  fun b hb=>Heap.get?_update_other _ _ (qCr hb)
 have hself:=Heap.get?_update_self (Obj.mapFields (·.setIfInBounds 3 ((none:Option Addr).elim Value.none fun f=>rawInt f))) hT (Obj.isFreed_of_fields (Obj.data_mapFields hdT _));have nT:∀b,b∉[T]->b≠T:=fun b hb z=>hb (by simp[z])
 unfold setFlight;refine wpAny_bind (wpAny_field he hd h1 ?_);rw[if_pos (show(Value.ref T != Value.none)=true from by simp)];refine wpAny_setField hT hdT hsz3 (h _ [T] ⟨fun b o hb _ _ hc=>(other b (nT b hc)).trans hb,fun b o hb _ hc=>⟨o.slots,(other b (nT b hc)).trans hb⟩,fun b o hb=>?_,fun b hb=>?_⟩ ?_)
 ·by_cases z:b=T
  ·rw[z];exact⟨_,hself⟩
  ·exact⟨o,(other b z).trans hb⟩
 ·obtain rfl:b=T:=by simpa using hb
  exact⟨hnT,hHT,oT,ts,hT,hdT⟩
 ·exact⟨oe,vs,T,_,_,(other e (qCr hTe)).trans he,hc,hdi,hd,h1,hnT,hTe,hHT,hself,Obj.data_mapFields hdT _,by simp[hsz3]⟩
end
section
variable{X:Cx}{pins:List (Addr×Obj)}{σ:St}{H:Hp}{s:Shared}{n:Nat}{e:Addr}{C:Value}{d:Option Addr}{A:Around}{E:Value->Shared->Prop}{fs ch:List Addr}{h h':Heap}
theorem Nt.hok{P:Program}{w:World}(t:Nt n fs ch e H h h')(k:HOk P w H h)(he:H e=some (xo e C d))(hfs:∀b∈fs,H b=none)(f:XO e C d h'):HOk P w H h':=fun a o ha=>by
 by_cases z:a=e
 ·subst z;rw[he]at ha;cases ha;obtain⟨oe,vs,h1,r⟩:=id f;exact⟨f,⟨oe,h1⟩,(k a _ he).2.2⟩
 ·refine(k a o ha).stay (fun b u hb q=>?_) (fun _ q=>q) (fun _ _ q=>q) fun _ _ _ q _=>q
  have hb':H b≠none:=by
   rcases hb with rfl|hb
   ·rw[ha];exact fun z=>by cases z
   ·rw[hb];exact fun z=>by cases z
  have hbe:b≠e:=by
   rcases hb with rfl|hb
   ·exact z
   ·intro y;rw[y,he]at hb;cases hb
  exact t.keep b u q hbe (fun y=>hb' (hfs b y)) fun y=>hb' (t.old b y).2.1
theorem Fl.xo{mk:Value}(f:Fl n e C d mk H h):XO e C d h:=by
 obtain⟨oe,vs,T,oT,ts,h1,h2,h3,h4,h5,_⟩:=f;exact⟨oe,vs,h1,h2,h3,h4,(qBa.mp h5).1⟩
theorem Nt.un(t:Nt n fs ch e H h h')(he:H e=some (xo e C d)):Un fs ch H H h h':=
 ⟨fun b o q hn hf hc=>t.keep b o q (fun z=>by rw[z,he]at hn;cases hn) hf hc,fun b o q hn _ hc=>t.slot b o q (fun z=>by rw[z,he]at hn;cases hn) hc,fun _ _ _ hn _=>hn,fun b o q _=>t.there b o q,fun _ _ q=>q,fun _ _ _ q=>q,fun b ps q=>⟨#[],by simpa using q⟩⟩
theorem Inv.noted(I:Inv X pins σ H s)(t:Nt n (frs X.stack) ch e H s.heap h')(he:H e=some (xo e C d))(f:XO e C d h')(hn:X.s₀.heap.objs.size<=n)(hp:∀p∈X.pn++pins,p.1<n):Inv X pins σ H { s with heap:=h' }:=by
 refine I.call' rfl (t.un he) (t.hok I.hok he I.stkFree f) I.bare fun b hb=>?_
 obtain⟨h1,h2,o,vs,h3,h4⟩:=t.old b hb;refine⟨.inr (qAj hn h1),?_,?_,fun p hp' z=>?_⟩
 ·intro z;obtain⟨m,⟨o',es,ep,ho',hd',_⟩,_⟩:=I.loc;rw[z,ho']at h3;cases h3;rw[hd']at h4;cases h4
 ·intro x c hx z;obtain⟨v,o',ho',hd'⟩:=I.cell x c hx;rw[<- z,ho']at h3;cases h3;rw[hd']at h4;cases h4
 ·have:=hp p hp'
  rw[z]at this;exact absurd h1 (Nat.not_le_of_lt this)
theorem zRY{Q:Unit->Shared->Prop}{M:Model}(I:Inv X pins σ H s)(hA:A.frames=some X.stack)(hs:X.stack=X.env::X.outer/\X.env.frame=some X.env.locals)(x:Fly n e C d H s.heap)(hn:X.s₀.heap.objs.size<=n)(hn':n<=s.heap.objs.size)
  (hp:∀p∈X.pn++pins,p.1<n) (h:∀s',Inv X pins σ H s'->Held n e C d X.env.locals H s'.heap->Q () s'):wpAny M A (noteFrame (.ref e) X.env) Q E s:=by
 have hst:=I.stack;rw[hs.1]at hA hst;refine zVC hA hst hs.2 x hn' (fun b hb=>I.hok.fresh hb) fun h' ch t y=>h _ (I.noted (ch:=ch) (by rw[hs.1];exact t) x.1 y.2.xo hn hp) y
theorem zS1{Q:Unit->Shared->Prop}{M:Model}{mk:Value}(I:Inv X pins σ H s)(hx:H e=some (xo e C d))(x:Fl n e C d mk H s.heap)(hn:X.s₀.heap.objs.size<=n)
  (hp:∀p∈X.pn++pins,p.1<n) (h:∀s',Inv X pins σ H s'->Fl n e C d .none H s'.heap->Q () s'):wpAny M A (setFlight (.ref e) none) Q E s:=
 zVJ (fs:=frs X.stack) x fun h' ch t y=>h _ (I.noted t hx y.xo hn hp) y
theorem zPP{Q:Unit->Shared->Prop}{M:Model}(I:Inv X pins σ H s)(hA:A.frames=some X.stack)(hs:X.stack=X.env::X.outer/\X.env.frame=some X.env.locals)(x:Fly n e C d H s.heap)(hn:X.s₀.heap.objs.size<=n)(hn':n<=s.heap.objs.size)
  (hp:∀p∈X.pn++pins,p.1<n) (h:∀s',Inv X pins σ H s'->Fly n e C d H s'.heap->Q () s'):wpAny M A (leaving X.env (.ref e)) Q E s:=by
 unfold leaving;exact wpAny_bind (zRY I hA hs x hn hn' hp fun s1 I1 y=>zS1 I1 y.1 y.2 hn hp fun s2 I2 z=>h s2 I2 ⟨y.1,.inr z⟩)
end
def CXe(P:Program)(w:World):CXT:=fun outer H s E x s'=>∃e C d H',x=.ref e/\s'.os=s.os/\AllBare s'.gens/\Un (frs outer) [] H H' s.heap s'.heap/\HOk P w H' s'.heap/\Fly s.heap.objs.size e C d H' s'.heap/\s.heap.objs.size<=s'.heap.objs.size/\E x d H'
section
variable{X:Cx}{pins:List (Addr×Obj)}{σ:St}{H:Hp}{s s':Shared}{E E':XK}
theorem Inv.pinlt(I:Inv X pins σ H s):∀p∈X.pn++pins,p.1<s.heap.objs.size:=fun p hp=>Heap.lt_size (I.pin p hp).1
def XP(X:Cx)(pins:List (Addr×Obj))(σ:St)(E:XK)(x:Value)(s':Shared):Prop:=∃n e C d H',x=.ref e/\Inv X pins σ H' s'/\Fly n e C d H' s'.heap/\X.s₀.heap.objs.size<=n/\n<=s'.heap.objs.size/\(∀p∈X.pn++pins,p.1<n)/\E x d H'
theorem Inv.flown{x:Value}(I:Inv X pins σ H s)(h:CXe X.prog X.w X.stack H s E x s'):XP X pins σ E x s':=by
 obtain⟨e,C,d,H',rfl,ho,hb,u,hk,f,hz,q⟩:=h;exact⟨_,e,C,d,H',rfl,I.call' ho u hk hb (fun b z=>absurd z (by simp)),f,I.sz,hz,I.pinlt,q⟩
end
section
variable{P:Program}{w:World}{K:qA1}{mg:Str->Option Value}{base:Heap}{N:List Str}{qual:Str}{scope:Scope}{f:Addr}{cd:Value}{A:Around}{outer:List Env}{s:Shared}{H:Hp}{E E':XK}
theorem zWE{pins:List (Addr×Obj)}{σ:St}{x:Value}{s':Shared}(hE:∀C d H',E' C d H'->E C d H')
  (h:XP (cxOf (CXe P w) P w K mg base N qual scope f cd A outer s H E) pins σ E' x s'):(cxOf (CXe P w) P w K mg base N qual scope f cd A outer s H E).xe x s':=by
 obtain⟨n,e,C,d,H',rfl,I,fl,hn,hz,hp,q⟩:=h;refine zPP I I.ok.frames ⟨rfl,rfl⟩ fl hn hz hp fun s2 I2 f2=>?_
 exact⟨e,C,d,H',rfl,I2.os,I2.bare,I2.base,I2.hok,f2.mono hn,I2.sz,hE _ _ _ q⟩
end
end L2
namespace L2
open PySem PySem.Spec PyProof.Rows
abbrev TEX:=St->Hp->VK->XK->Prop
abbrev TSX:=Ends->(St->XK)->St->Hp->Prop
section
variable{X:Cx}{k:Nat}{f:Addr}{fd:FuncData}{ps:List Str}{sp:Sp}{dvs:List V}{ds:List Value}{x:Str}{p pos:Pos}{e:Expr}{es:List Expr}{t:TA}{te:TE}{tx:TEX}{st:Stmt}{rest:List Stmt}{u u':TSX}
variable{pins:List (Addr×Obj)}{σ:St}{H:Hp}{s:Shared}{a:Addr}
end
end L2
namespace PySem.W
open PySem PySem.Calls PyProof.Rows Builtin Builtin.ObjectAttr
noncomputable def excTail:List Value->Bool
 |.ref _::r=>excTail r
 |[.type a,.type b,.type c,.type d]=>a == "ValueError" && b == "Exception" && c == "BaseException" && d == "object"
 |_=>false
theorem zM1{a b c d:String}(e:excTail [.type a,.type b,.type c,.type d]=true):a = "ValueError"/\b = "Exception"/\c = "BaseException"/\d = "object":=by
 simp only[excTail,qB2,beq_iff_eq]at e;exact⟨e.1.1.1,e.1.1.2,e.1.2,e.2⟩
theorem zFD:∀{l:List Value},excTail l=true->∃as:List Addr,l=as.map Value.ref++[.type "ValueError",.type "Exception",.type "BaseException",.type "object"]
 |.ref a::r,e=>by
  obtain⟨as,rfl⟩:=zFD (l:=r) e;exact⟨a::as,rfl⟩
 |[.type a,.type b,.type c,.type d],e=>by
  obtain⟨rfl,rfl,rfl,rfl⟩:=zM1 e;exact⟨[],rfl⟩
def excOver(K:Frag)(C:Addr):Bool:=(clsIn K C).any fun cd=>excTail cd.mro
section
variable{prog:Program}{w:World}{A:Around}{s:Shared}{K:Frag}{x C:Addr}{R:Result->Shared->Prop}
end
end PySem.W
namespace PySem.Xc
open PySem
section
variable{M:Model}{prog:Program}{w:World}{A:Around}{E:Value->Shared->Prop}{h:Heap}{g:Array GenState}{d:Drawn}{t:Nat}{os:OsState}{R:Result->Shared->Prop}
variable{nm q:Str}{C N:Addr}{bs bm bmB:List Value}{hdct:Bool}{sn:List Str}{sub:List Value}{ab:Bool}{col:Option Bool}{dd:Option Addr}{k0 k1 k2 k3 k5:Option Value}{B newId initId:String}
theorem zO6(F:ExcBaseFacts B newId initId bmB)(hB:bm.contains (.type B)=true){rest:List Value}{Q:Unit->Shared->Prop}(hC:h.get? C=some (excClassObj nm q C N bs bm hdct sn sub ab col dd k0 k1 k2 k3 k5 newId))
  (hq:Q () ⟨h,g,d,t,os⟩):wpAny M A (checkBuiltinCall newId ⟨.ref C::rest,[]⟩) Q E ⟨h,g,d,t,os⟩:=by
 have hcont:(Value.ref C::bm).contains (.type B)=true:=by rw[qBh,hB,qDu]
 have hstar:=F.noStar;simp only[checkBuiltinCall,F.newKind,F.newSplit,F.newRow]
 repeat (first|refine wpAny_loadPart_at hC ?_|(refine wpAny_isSubtype_exc hC ?_;rw[hcont])|refine wpAny_staticBase_exc hC ?_|refine wpAny_madeBy_exc hC ?_|simp only[bne_self_eq_false,Bool.false_eq_true,if_false]|wp_step)
 exact hq
theorem zQI(F:ExcBaseFacts B newId initId bmB)(hB:bm.contains (.type B)=true)(hA:bm.contains (.type "AttributeError")=false)(hN:bm.contains (.type "NameError")=false){rest:List Value}(hC:h.get? C=some (excClassObj nm q C N bs bm hdct sn sub ab col dd k0 k1 k2 k3 k5 newId))
  (hq:R (.ok (.ret (.ref (h.objs.size+1)))) ⟨(h.push { cls:=.type "tuple",data:=.seq rest.toArray }).push
   { cls:=.ref C,data:=.fields #[.ref h.objs.size,.none,.none,.none,.bool false,.none] },g,d,t,os⟩) (hrest:rest.length<=sizeLine) :
  codeAny (model prog w) A (.builtin newId ⟨.ref C::rest,[]⟩) R ⟨h,g,d,t,os⟩:=by
 have hends:=F.ends;have hcB:(Value.ref C::bm).contains (.type B)=true:=by rw[qBh,hB,qDu]
 have hcA:(Value.ref C::bm).contains (.type "AttributeError")=false:=by rw[qBh,hA];rfl
 have hcN:(Value.ref C::bm).contains (.type "NameError")=false:=by rw[qBh,hN];rfl
 refine codeAny_builtinAt F.entry ?_;unfold Builtin.«BaseException.__new__»;refine wpAt_bind ?_;show wpAt _ _ _ (stack >>= _) _ _ _;refine wpAt_bind (wpAt_stack fun p below=>wpAt_of_wpAny ?_)
 wp_walk
 refine wpAt_of_wpAny ?_;rw[F.owner]
 repeat (first|with_reducible refine wpAny_madeHere_exc F.canon hC ?_|with_reducible refine wpAny_loadPart_at hC ?_|(with_reducible refine wpAny_isSubtype_exc hC ?_;first|rw[hcB]|rw[hcA]|rw[hcN])|wp_step)
 show R _ _;rw[Heap.size_push];exact hq
theorem zM5(F:ExcBaseFacts B newId initId bmB)(hB:bm.contains (.type B)=true){e:Addr}{oe:Obj}{rest:List Value}{Q:Unit->Shared->Prop}{newId':String}
  (hC:h.get? C=some (excClassObj nm q C N bs bm hdct sn sub ab col dd k0 k1 k2 k3 k5 newId')) (he:h.get? e=some oe) (hcls:oe.cls=.ref C) (hq:Q () ⟨h,g,d,t,os⟩) :
  wpAny M A (checkBuiltinCall initId ⟨.ref e::rest,[]⟩) Q E ⟨h,g,d,t,os⟩:=by
 have hcB:(Value.ref C::bm).contains (.type B)=true:=by rw[qBh,hB,qDu]
 have hshort:=F.noStar;simp only[checkBuiltinCall,F.initKind,F.initSplit,F.initRow]
 repeat (first|(with_reducible refine wpAny_loadPart_at he ?_;rw[hcls])|with_reducible refine wpAny_loadPart_at hC ?_|(with_reducible refine wpAny_isSubtype_exc hC ?_;rw[hcB])|wp_step)
 refine wpAny_onRaise ?_;rw[show ∀(a b:String)(n:Nat),Bind.check ⟨.positional,"*",B,.self,[⟨"args",.varPos,false⟩]⟩ a b n (List.map (fun x=>x.fst) ({ pos:=Value.ref e::rest }:Args).kw)=pure () from
  fun a b n=>check_star_args _ _ _ _ _ _]
 exact wpAny_pure hq
theorem zNI(F:ExcBaseFacts B newId initId bmB)(hB:bm.contains (.type B)=true)(hA:bm.contains (.type "AttributeError")=false)(hN:bm.contains (.type "NameError")=false){rest:List Value}{Q:Fin->Shared->Prop}
  (hC:h.get? C=some (excClassObj nm q C N bs bm hdct sn sub ab col dd k0 k1 k2 k3 k5 newId)) (hi:qGe (model prog w) h (typeLookup (.ref C) "__init__") (some (.builtin initId)))
  (hq:∀h' e,Heap.MadeExcOf h h' e (.ref C) rest->h.objs.size<=e->Q (.done (.ret (.ref e))) ⟨h',g,d,t,os⟩) (hrest:rest.length<=sizeLine) :
  wpAny (model prog w) A (Builtin.«type.__call__» ⟨.ref C::rest,[]⟩) Q E ⟨h,g,d,t,os⟩:=by
 repeat (first|with_reducible refine wpAny_loadPart_at hC ?_|with_reducible refine wpAny_madeBy_exc hC ?_|wp_step)
 refine codeAny_call_builtin_code (Code.quiet_builtin _ F.quiet) (zO6 F hB hC ?_);refine zQI F hB hA hN hC ?_ hrest;show wpAny _ _ _ _ _ _;have hC₁:=Heap.get?_push_of_some { cls:=.ref C,data:=.fields #[.ref h.objs.size,.none,.none,.none,.bool false,.none] }
  (Heap.get?_push_of_some { cls:=.type "tuple",data:=.seq rest.toArray } hC)
 have hi₁:=hi.keeps (h':=(h.push { cls:=.type "tuple",data:=.seq rest.toArray }).push { cls:=.ref C,data:=.fields #[.ref h.objs.size,.none,.none,.none,.bool false,.none] }) fun b o e=>Heap.get?_push_of_some _ (Heap.get?_push_of_some _ e)
 have hget:((h.push { cls:=.type "tuple",data:=.seq rest.toArray }).push
   { cls:=.ref C,data:=.fields #[.ref h.objs.size,.none,.none,.none,.bool false,.none] }).get? (h.objs.size+1)=some
   { cls:=.ref C,data:=.fields #[.ref h.objs.size,.none,.none,.none,.bool false,.none] }:=by heap_get
 have hcC:(Value.ref C::bm).contains (.ref C)=true:=by simp
 unfold isInstance
 repeat (first|with_reducible refine wpAny_loadPart_at hget ?_|(with_reducible refine wpAny_isSubtype_exc hC₁ ?_;rw[hcC])|wp_step)
 show wpAny _ _ (typeLookup (.ref C) _) _ _ _;refine hi₁.here ?_;refine wpAny_holding (wpAny_bind (wpAny_of_eq (F.init.bind _) ?_));refine wpAny_bind (wpAny_call (codeAny_call_builtin F.init.plain F.initEntry (zM5 F hB hC₁ hget rfl ?_)))
 wp_walk
 refine hq _ _ ⟨fun b o hb=>?_,Heap.get?_none_of_le (qC2 _),h.objs.size+2,?_,Heap.get?_none_of_le (by lia),?_⟩ (qC2 _)
 ·rw[Heap.get?_update_other _ _ (qBo (qEu (Heap.lt_size hb)))];exact Heap.get?_push_of_some _ (Heap.get?_push_of_some _ (Heap.get?_push_of_some _ hb))
 ·rw[Heap.get?_update_self _ (Heap.get?_push_of_some _ hget) rfl];simp only[Heap.size_push];rfl
 ·rw[Heap.get?_update_other _ _ (show h.objs.size+1≠h.objs.size+2 by lia)];exact Heap.get?_push_at (by simp only[Heap.size_push]) rfl
theorem callX(F:ExcBaseFacts B newId initId bmB)(hB:bm.contains (.type B)=true)(hA:bm.contains (.type "AttributeError")=false)(hN:bm.contains (.type "NameError")=false){rest:List Value}{Q:Value->Shared->Prop}
  (hC:h.get? C=some (excClassObj nm q C N bs bm hdct sn sub ab col dd k0 k1 k2 k3 k5 newId)) (hi:qGe (model prog w) h (typeLookup (.ref C) "__init__") (some (.builtin initId)))
  (hq:∀h' e,Heap.MadeExcOf h h' e (.ref C) rest->h.objs.size<=e->Q (.ref e) ⟨h',g,d,t,os⟩) (hrest:rest.length<=sizeLine) :
  wpAny (model prog w) A (call (.ref C) rest) Q E ⟨h,g,d,t,os⟩:=by
 have f1:=tc_lookup;have f2:=tc_bind (.ref C);have hT:(⟨h,g,d,t,os⟩:Shared).TypeIs (.ref C) "type":=⟨_,hC,rfl⟩
 refine wpAny_call (codeAny_of_tree ?_);show wpAny _ _ (callAny (.ref C) _) _ _ _
 repeat (any_goals (first|assumption|with_reducible refine wpAny_loadPart_at hC ?_|wp_step))
 refine⟨rfl,?_⟩;refine codeAny_call_builtin_at (Code.quiet_builtin _ (by decide +kernel)) entry_typeCall (wpAny_check_type_call_sub hC (zNI (hrest:=hrest) F hB hA hN hC hi fun h' e hm hz=>?_));exact hq h' e hm hz
end
end PySem.Xc
namespace PySem.W
open PySem
def xcIn(K:Frag)(C:Addr):Bool:=match K.lookup C with
 |some ⟨.type "type",_,.cls cd,sl⟩=>(match cd.mro,sl.toList with
  |.ref C'::bm,[_,_,_,_,some (.builtin n),_]=>C'==C && !cd.hasDel&&excTail bm&&n == "ValueError.__new__" && cd.hasDict
  |_,_=>false)
 |_=>false
theorem xc_cls{K:Frag}{h:Heap}{C:Addr}(X:K.In h)(q:xcIn K C=true):∃nm qn N bs bm hdct sn sub ab col dd k0 k1 k2 k3 k5,
  h.get? C=some (excClassObj nm qn C N bs bm hdct sn sub ab col dd k0 k1 k2 k3 k5 "ValueError.__new__")/\excTail bm=true:=by
 unfold xcIn at q
 split at q
 ·rename_i dd cd sl ho
  split at q
  ·rename_i C' bm k0 k1 k2 k3 n k5 hm hs
   simp only[qB2,beq_iff_eq,qEv]at q;obtain⟨⟨⟨⟨rfl,hdel⟩,hb⟩,hn⟩,hd⟩:=q;subst hn;obtain⟨nm,bs,mro,ns,qn,hd',sn,sub,ab,col,del⟩:=cd;dsimp only at hm hdel;subst hm hdel;have hsl:sl=#[k0,k1,k2,k3,some (.builtin "ValueError.__new__"),k5]:=by
    obtain⟨l⟩:=sl;simp only at hs;rw[hs]
   subst hsl;exact⟨nm,qn,ns,bs,bm,hd',sn,sub,ab,col,dd,k0,k1,k2,k3,k5,X _ _ ho,hb⟩
  ·cases q
 ·cases q
theorem exc_con{l:List Value}{T:String}{b:Bool}(e:excTail l=true)(hb:List.contains [Value.type "ValueError",.type "Exception",.type "BaseException",.type "object"] (.type T)=b):l.contains (.type T)=b:=by
 obtain⟨as,rfl⟩:=zFD e;clear e
 induction as with
 |nil=>exact hb
 |cons a r ih=>rw[qAm,qDl,qBh,ih];rfl
end PySem.W
namespace PySem.Xc
open PySem
section
variable{M:Model}{A:Around}{E:Value->Shared->Prop}{s:Shared}{env:Env}
variable{nm q:Str}{C N:Addr}{bs bm:List Value}{hdct:Bool}{sn:List Str}{sub:List Value}{ab:Bool}{col:Option Bool}{dd:Option Addr}{k0 k1 k2 k3 k5:Option Value}{newId:String}
theorem raiseX{x:Sem Value}{Q:Flow->Shared->Prop}(hh:A.handled=none)
  (h:wpAny M A x (fun v s₁=>∃e t di nm q C N bs bm hdct sn sub ab col dd k0 k1 k2 k3 k5 newId,v=.ref e/\s₁.heap.get? C=some (excClassObj nm q C N bs bm hdct sn sub ab col dd k0 k1 k2 k3 k5 newId)/\bm.contains (.type "BaseException")=true /\
   s₁.heap.get? e=some { cls:=.ref C,dict:=di,data:=.fields #[.ref t,.none,.none,.none,.bool false,.none] }/\E (.ref e) s₁) E s) :
  wpAny M A (raiseStmt env (some x) none) Q E s:=by
 unfold raiseStmt;refine wpAny_bind (wpAny_mono h (fun v s₁ h₁=>?_) fun _ _ x=>x);obtain⟨e,t,di,nm,q,C,N,bs,bm,hdct,sn,sub,ab,col,dd,k0,k1,k2,k3,k5,newId,rfl,hC,hbase,he,hE⟩:=h₁;have hcB:(Value.ref C::bm).contains (.type "BaseException")=true:=by rw[qBh,hbase,qDu]
 obtain⟨hp,g,d,tk,os⟩:=s₁
 repeat (first|with_reducible refine wpAny_loadPart_at he ?_|with_reducible refine wpAny_loadPart_at hC ?_|(with_reducible refine wpAny_isSubtype_exc hC ?_;rw[hcB])|wp_step)
 exact wpAny_raiseNew_none hh hE
theorem RaiseX{x:Expr}{pos:Pos}{Q:Flow->Shared->Prop}(hh:A.handled=none)
  (h:wpAny M A (eval x env) (fun v s₁=>∃e t di nm q C N bs bm hdct sn sub ab col dd k0 k1 k2 k3 k5 newId,v=.ref e/\s₁.heap.get? C=some (excClassObj nm q C N bs bm hdct sn sub ab col dd k0 k1 k2 k3 k5 newId)/\bm.contains (.type "BaseException")=true /\
   s₁.heap.get? e=some { cls:=.ref C,dict:=di,data:=.fields #[.ref t,.none,.none,.none,.bool false,.none] }/\E (.ref e) s₁) E s) :
  wpAny M A (exec (.Raise (some x) none pos) env) Q E s:=by
 rw[arm_exec_Raise]
 first
  |exact wpAny_bind (wpAny_standAt (raiseX hh (wpAny_bind (wpAny_mono h (fun v s₁ h₁=>wpAny_bind (wpAny_standAt (wpAny_pure h₁))) fun _ _ x=>x))))
  |(simp only[evalOpt,Option.map];exact wpAny_bind (wpAny_standAt (raiseX hh (wpAny_bind (wpAny_mono h (fun v s₁ h₁=>wpAny_bind (wpAny_standAt (wpAny_pure h₁))) fun _ _ x=>x)))))
  |(show wpAny M A (do standAt pos;raiseStmt env (some (do let v <- eval x env;standAt pos;pure v)) none) Q E s;exact wpAny_bind (wpAny_standAt (raiseX hh (wpAny_bind (wpAny_mono h (fun v s₁ h₁=>wpAny_bind (wpAny_standAt (wpAny_pure h₁))) fun _ _ x=>x)))))
end
section
open PySem.W
variable{prog:Program}{w:World}{A:Around}{E:Value->Shared->Prop}{K:Frag}{x C:Addr}{ox:Obj}{od:Option Obj}{name:Str}{expr fill:Bool}{h:Heap}{g:Array GenState}{d:Drawn}{t:Nat}{os:OsState}
end
end PySem.Xc
namespace L2
open PySem PySem.Spec PyProof.Rows
def XN(e:Addr)(C:Value)(d:Option Addr)(h:Heap):Prop:=∃t1,h.get? e=some { cls:=C,dict:=d,data:=.fields #[.ref t1,.none,.none,.none,.bool false,.none] }
abbrev xn(e:Addr)(C:Value)(d:Option Addr):HO:=.ext (XN e C d)
theorem zUE{e:Addr}{C:Value}{d:Option Addr}(h1 h2:Heap)(x:XN e C d h1)(k:∀o,h1.get? e=some o->h2.get? e=some o):XN e C d h2:=let⟨t1,a⟩:=x;⟨t1,k _ a⟩
theorem zUD{e:Addr}{C:Value}{d:Option Addr}(h1 h2:Heap)(x:XO e C d h1)(k:∀o,h1.get? e=some o->h2.get? e=some o):XO e C d h2:=let⟨oe,vs,a,r⟩:=x;⟨oe,vs,k _ a,r⟩
theorem zZO{P:Program}{w:World}{H:Hp}{h:Heap}{e:Addr}{C:Value}{d:Option Addr}(x:XN e C d h):ObjOk P w H h e (xn e C d):=⟨x,let⟨t1,a⟩:=x;⟨_,a⟩,zUE⟩
theorem zZN{P:Program}{w:World}{H:Hp}{h:Heap}{e:Addr}{C:Value}{d:Option Addr}(x:XO e C d h):ObjOk P w H h e (xo e C d):=⟨x,let⟨oe,vs,a,_⟩:=x;⟨_,a⟩,zUD⟩
section
variable{X:Cx}{pins:List (Addr×Obj)}{σ:St}{H:Hp}{s:Shared}{k:Nat}{f C:Addr}{fd:FuncData}{ps:List Str}{sp:Sp}{x:Str}{p pos:Pos}{e:Expr}{es:List Expr}{t:TA}{te:TE}
def zLB(C:Addr)(t:TA):TE:=fun σ H Q=>t σ H fun vs H1=>vs.length<=sizeLine/\∀e,H1 e=none->Q (.ref e) (upd H1 e (xn e (.ref C) none))
theorem Inv.madeX{h':Heap}{e:Addr}{us:List Value}(I:Inv X pins σ H s)(m:Heap.MadeExcOf s.heap h' e (.ref C) us)(hs:s.heap.objs.size<=e):H e=none/\Inv X pins σ (upd H e (xn e (.ref C) none)) { s with heap:=h' }:=by
 obtain⟨t1,h1,_⟩:=m.there;exact⟨I.hok.fresh hs,I.laid (t':=s.toks) m.keeps hs (zZO ⟨t1,h1⟩)⟩
theorem zNO{Q:VK}{us:List Value}{vs:List V}(hc:PySem.W.xcIn X.K C=true)(hi:qAq X.K (.ref C) "__init__" = some (some (.builtin "ValueError.__init__")))
  (I:Inv X pins σ H s) (r:Vals vs us) (hz:vs.length<=sizeLine) (h:∀e,H e=none->Q (.ref e) (upd H e (xn e (.ref C) none))):wpAny (model X.prog X.w) X.A (call (.ref C) us) (EP X pins σ Q) X.xe s:=by
 obtain⟨nm,qn,N,bs,bm,hdct,sn,sub,ab,col,dd,k0,k1,k2,k3,k5,hC,ht⟩:=PySem.W.xc_cls I.kIn hc;have hus:us.length<=sizeLine:=by rw[<- r.length];exact hz
 have key:∀h' e,Heap.MadeExcOf s.heap h' e (.ref C) us->s.heap.objs.size<=e->EP X pins σ Q (.ref e) { s with heap:=h' }:=by
  intro h' e m hs;obtain⟨he,I2⟩:=I.madeX m hs;exact⟨.ref e,_,I2,rfl,h e he⟩
 have hK:=PySem.W.looks_findIn (M:=model X.prog X.w) I.kIn hi;obtain⟨hh,g,d,tk,os⟩:=s;exact Xc.callX PySem.F.excBase_ValueError (PySem.W.exc_con ht (by decide)) (PySem.W.exc_con ht (by decide)) (PySem.W.exc_con ht (by decide)) hC hK key hus
theorem zPD(hc:PySem.W.xcIn X.K C=true)(hi:qAq X.K (.ref C) "__init__" = some (some (.builtin "ValueError.__init__")))(hg:Gl X x)(hm:X.mg x=some (.ref C))(hk:qAv X.K (.ref C)=true)
  (ha:PA X (e::es) t) (hdb:(x==("__debug__":Str))=false:=by decide) (he:starEach (e::es) X.env=(false,eval e X.env)::starEach es X.env:=by rfl) (hpl:(backTo pos (starEach es X.env)).any (·.1)=false:=by rfl) :
  PE X (.Call (.Name x p) (e::es) [] pos) (zLB C t):=by
 intro pins s σ H Q I h;refine wpAny_Call_Name_kw (zLU I hg hm ?_ hdb);refine qCy (h₀:=X.base) I.ok.mod.kin hk (thn (ha pos pins s σ H _ I h) fun us s1 ⟨vs,H1,I1,r,z,q⟩=>⟨I1.kIn,?_⟩) he hpl;exact zNO hc hi I1 r z q
theorem Inv.xn{e:Addr}{d:Option Addr}{Cv:Value}(I:Inv X pins σ H s)(h:H e=some (xn e Cv d)):XN e Cv d s.heap:=(I.hok e _ h).1
theorem XN.xo{h:Heap}{e:Addr}{d:Option Addr}{Cv:Value}(x:XN e Cv d h):XO e Cv d h:=let⟨t1,a⟩:=x;⟨_,_,a,rfl,rfl,rfl,by simp⟩
theorem Inv.raised{e:Addr}{d:Option Addr}(I:Inv X pins σ H s)(h:H e=some (L2.xn e (.ref C) d))(E:XK)(q:E (.ref e) d (upd H e (xo e (.ref C) d))):XP X pins σ E (.ref e) s:=by
 have x:=I.xn h;obtain⟨t1,a⟩:=id x;have I':Inv X pins σ (upd H e (xo e (.ref C) d)) s:=I.write (t':=s.toks) (h':=s.heap) (e:=e) (by rw[h];trivial) (.inl rfl) (fun _ _ _ q=>q) ⟨_,a⟩ (zZN x.xo);exact⟨s.heap.objs.size,e,.ref C,d,_,rfl,I',⟨zAJ,.inl ⟨_,_,a,rfl,rfl,rfl,rfl⟩⟩,I.sz,qA5 _,I.pinlt,q⟩
def Flies(X:Cx)(E:XK):Prop:=∀(pins:List (Addr×Obj))(σ:St)(x:Value)(s':Shared),XP X pins σ E x s'->X.xe x s'
theorem Flies.passes{E:XK}(h:Flies X E):zNF (CXe X.prog X.w) X E:=fun pins σ H s x s' I q=>h pins σ x s' (I.flown q)
def zTC(K:qA1)(E:XK)(te:TE):TS:=fun _ σ H=>te σ H fun v H1=>∃e C d,v=.ref e/\H1 e=some (L2.xn e (.ref C) d)/\PySem.W.xcIn K C=true/\E (.ref e) d (upd H1 e (xo e (.ref C) d))
theorem zMP{E:XK}(he:PE X e te)(hf:Flies X E)(hc:X.calm=true):PS X (.Raise (some e) none pos) (zTC X.K E te):=by
 intro pins s σ H D I h;refine Xc.RaiseX (I.ok.hd hc) (thn (he pins s σ H _ I h) fun v s1 z0=>?_);obtain⟨y,H1,I1,ry,a,C,d,ey,ha,hx,q⟩:=z0;subst ey;cases ry;obtain⟨t1,hg⟩:=I1.xn ha;obtain⟨nm,qn,N,bs,bm,hdct,sn,sub,ab,col,dd,k0,k1,k2,k3,k5,hC,ht⟩:=PySem.W.xc_cls I1.kIn hx;exact⟨a,t1,d,nm,qn,C,N,bs,bm,hdct,sn,sub,ab,col,dd,k0,k1,k2,k3,k5,_,rfl,hC,PySem.W.exc_con ht (by decide),hg,hf pins σ _ _ (I1.raised ha E q)⟩
structure XBase(K:qA1)(B:Addr):Prop where
 ga:qC6 K (.ref B) "__getattribute__" = some (some (.builtin "type.__getattribute__"))
 rd:PySem.W.readsIn K B (.type "type")=true
 fd:PySem.W.findCls K (.ref B) (.type "type") "__init__" = some (.val (.builtin "ValueError.__init__"))
 hi:PySem.W.handedIn (.builtin "ValueError.__init__")=true
structure XSet(K:qA1)(C:Addr)(f:Str):Prop where
 st:qAq K (.ref C) "__setattr__" = some (some (.builtin "object.__setattr__"))
 ov:PySem.W.excOver K C=true
 tk:PySem.W.takerIn K C f=some none
 hd:(qEj K C).any (·.hasDict)=true
end
end L2
namespace PySem.Xc
open PySem PySem.W
section
variable{prog:Program}{w:World}{A:Around}{E:Value->Shared->Prop}{K:Frag}{x C:Addr}{ox:Obj}{od:Option Obj}{name:Str}{expr fill:Bool}{h:Heap}{g:Array GenState}{d:Drawn}{t:Nat}{os:OsState}
end
structure XIs(K:Frag)(C:Addr):Prop where
 xc:xcIn K C=true
 ga:findIn K (.ref C) "__getattribute__" = some (some (.builtin "BaseException.__getattribute__"))
 gg:findIn K (.ref C) "__getattr__" = some none
 hd:hasDictIn K C=true
 ca:findIn K (.ref C) "__class__" = some (some (.builtin "object.__class__"))
 cg:specialIn K (.builtin "object.__class__") "__get__" = some (some (.builtin "getset_descriptor.__get__"))
 ct:takesIn K (.builtin "object.__class__")=some true
 mo:mroIn K C (.type "object")=some true
end PySem.Xc
namespace L2
open PySem PySem.Spec PyProof.Rows
section
variable{X:Cx}{pins:List (Addr×Obj)}{σ:St}{H:Hp}{s:Shared}{C e d:Addr}{f:Str}{pos:Pos}{ta:TE}
def isX(H:Hp)(e C:Addr)(d:Option Addr):Prop:=H e=some (xn e (.ref C) d)\/H e=some (xo e (.ref C) d)
end
end L2
namespace L2
open PySem PySem.Spec PyProof.Rows
def HasX(P:Program)(w:World)(K:qA1)(mg:Str->Option Value)(base:Heap)(x:Str)(k:Nat)(ps:List Str)(sp:Sp):Prop:=
 ∃f fd,FnOk P w K mg base (CXe P w) k f fd ps sp/\mg x=some (.ref f)/\qAv K (.ref f)=true/\Binds K fd ps []
section
variable{P:Program}{w:World}{K:qA1}{mg:Str->Option Value}{base:Heap}{x:Str}{k:Nat}{ps N:List Str}{sp sp':Sp}{st:Stmt}
theorem zKJ{qual:Str}{scope:Scope}{f:Addr}{cd:Value}{A:Around}{outer:List Env}{s:Shared}{H:Hp}{E:XK}:Flies (cxOf (CXe P w) P w K mg base N qual scope f cd A outer s H E) E:=fun _ _ _ _ h=>zWE (fun _ _ _ z=>z) h
end
section
variable{X:Cx}{x:Str}{j k:Nat}{ps:List Str}{sp:Sp}{e:Expr}{es:List Expr}{t:TA}{p pos:Pos}{E:XK}
theorem zYB:Flies X E0:=fun _ _ _ _ z0=>by
 obtain⟨_,_,_,_,_,_,_,_,_,_,_,h⟩:=z0;exact h.elim
theorem zXI(h:HasX X.prog X.w X.K X.mg X.base x j ps sp)(hjk:j<=k)(hr:Room k X.A)(hf:Flies X E)(hg:Gl X x)(ha:PA X (e::es) t)(hdb:(x==("__debug__":Str))=false:=by decide)
  (he:starEach (e::es) X.env=(false,eval e X.env)::starEach es X.env:=by rfl) (hpl:(backTo pos (starEach es X.env)).any (·.1)=false:=by rfl):PE X (.Call (.Name x p) (e::es) [] pos) (zLC sp [] E t):=by
 obtain⟨f,fd,G,m,kp,b⟩:=h;exact zPF G (hr.mono hjk) hg m kp b .nil hf.passes ha hdb he hpl
end
end L2
namespace Att
open PySem PySem.W PySem.Calls PyProof.Rows
theorem zUG{ns:List Int}(h:WData.weightAll (ns.map WData.int)<=2 ^ 20):∀i∈ns,i.natAbs.log2<2 ^ 20:=by
 induction ns with
 |nil=>intro i hi;cases hi
 |cons n r ih=>
  rw[qAm,WData.weightAll]at h;intro i hi
  rcases qAh.mp hi with rfl|hi
  ·rw[WData.weight]at h
   split at h
   ·rename_i z
    have:i=0:=beq_iff_eq.mp z
    subst this
    decide
   ·lia
  ·exact ih (by lia) i hi
theorem attach_callW{l:OpenLaw}{n:Nat}{q:Program}{loose:List Str}{XP:(Str->Option Value)->Heap->Prop}{YP:World->Heap->Prop}{d:DefRec}
  (hn:l.most=some n) (hdf:d.params.defaults=[])
  (call:∀(w:World)(s₀ s₁:Shared)(mg mb:Str->Option Value)(fa:Addr)(o:Obj)(pm cd doc:Value)(a:Addr)(vs:List Value)(ns:List Int),
   Ground q loose [] XP w s₀ mg mb s₁.heap->YP w s₁.heap ->
   s₁.heap.get? fa=some o->o.data=.func (docDef d.name d.params d.body d.scope pm cd doc)->s₁.heap.CodeRec cd d.name->mg d.name=some (.ref fa) ->
   s₁.heap.get? a=some { cls:=.type "list",data:=.seq vs.toArray }->IntsAre vs ns->ns.length<=n->(∀i∈ns,i.natAbs.log2<2 ^ 20)->s₁.gens=#[] ->
   codeAny (model l.prog w) callerA (.call (.ref fa) ⟨[.ref a],[]⟩) (fun r s'=>r=.ok (.ret (.bool true))/\OldK s₁.heap s'.heap/\s'.os=s₁.os/\AllBare s'.gens) s₁) :
  WalkO q loose XP YP l.row.toRowW d [] (fun f vs=>qEw f vs):=by
 intro w s₀ s₁ mg mb G Y fa o pm cd doc dV kV ho hd hcd hD hmg hg args vals as hpre hlay hrd hwl hlo;obtain rfl:dV=.none:=Dflts.none hD hdf;obtain rfl:kV=.none:=Dflts.noKw hD;obtain⟨a,vs,ns,rfl,rfl,hobj,hints,hlen⟩:=zOU hn hpre hwl;have hw:∀i∈ns,i.natAbs.log2<2 ^ 20:=by
  have hl:WData.layableAll [WData.list (ns.map WData.int)]=true:=hlay;simp only[WData.layableAll,qCc,List.all_nil,qDc,WData.layable,qB2,decide_eq_true_eq]at hl;exact zUG (by have:=hl.2;rw[WData.weight]at this;exact this)
 refine enter_call (codeAny_mono (call w s₀ s₁ mg mb fa o pm cd doc a vs ns G Y ho (fd_plain hd) hcd hmg hobj hints hlen hw hg) fun r s' hq=>?_);obtain⟨rfl,h2,h3,h4⟩:=hq;exact⟨.inl ⟨.bool true,.bool true,[],rfl,fun _=>rfl,.bool true,zP6 l _,fun _=>⟨qCg,fun _ hm=>(nomatch hm)⟩⟩,h2,h3,h4⟩
end Att
namespace L2
open PySem PySem.Spec PyProof.Rows
def MulOk(i j:Int):Prop:=((-(2 ^ 64)<i/\i<2 ^ 64)\/(-(2 ^ 64)<j/\j<2 ^ 64))\/i.natAbs.log2+j.natAbs.log2<=67108864
theorem zQP(i:Int):Builtin.Int.intBits i<=i.natAbs.log2+1:=by
 unfold Builtin.Int.intBits
 split<;>lia
theorem MulOk.ok{i j:Int}(h:MulOk i j):IntMulOk i j:=by
 rcases h with h|h
 ·exact CMul.ok h
 ·unfold IntMulOk;have h1:=zQP i;have h2:=zQP j;have h3:Builtin.Int.intTooBig ((Builtin.Int.intBits i:Int)+(Builtin.Int.intBits j:Int))=false:=by
   unfold Builtin.Int.intTooBig
   have:(bitsLine:Int)=134217728:=by decide
   rw[this];simp only[gt_iff_lt,decide_eq_false_iff_not,Int.not_lt]
   lia
  rw[h3,qCj];exact qAe
section
variable{X:Cx}
noncomputable def zX5:R2:=fun x y H Q=>match x,y with
 |.int i,.int j=>MulOk i j/\Q (.int (i*j)) H
 |_,_=>False
theorem zV4:OpR X (binaryOp .Mult) (rI MulOk fun i j=>.int (i*j)):=opI fun _ _ _ _ _ _ _ hc q=>mul_int q hc.ok
theorem zFX:OpR X (binaryOp .Mult) zX5:=by
 intro pins s σ H x y v u Q I rx ry h;cases x<;>cases y<;>first
  |exact zV4 pins s σ H _ _ v u Q I rx ry ⟨_,_,rfl,rfl,h.1,h.2⟩
  |exact qA6 h
noncomputable def zX8:R2:=fun x y H Q=>match x,y with
 |.int i,.int j=>(0<j/\j<1000000000000000000000000)/\Q (.int (i/j)) H
 |_,_=>False
theorem log2_lt{n:Nat}(h:n<1000000000000000000000000):n.log2<9000:=by
 by_cases z:n=0
 ·subst z;decide
 ·have h2:n<2 ^ 80:=by lia
  have:=(Nat.log2_lt z).mpr h2
  lia
theorem zV5:OpR X (binaryOp .FloorDiv) (rI (fun _ j=>0<j/\j<1000000000000000000000000) fun i j=>.int (i/j)):=opI fun i j _ _ _ _ _ hc q=>by
 have h1:(0:Int)<j:=hc.1;have h2:j<1000000000000000000000000:=hc.2;exact floordiv_int (by lia) (by rw[Int.fdiv_eq_ediv_of_nonneg i (by lia)];exact q) (.inl (PyProof.noPylong_of_log2 (log2_lt (by lia))))
theorem zE5:OpR X (binaryOp .FloorDiv) zX8:=by
 intro pins s σ H x y v u Q I rx ry h;cases x<;>cases y<;>first
  |exact zV5 pins s σ H _ _ v u Q I rx ry ⟨_,_,rfl,rfl,h.1,h.2⟩
  |exact qA6 h
end
end L2
namespace L2
open PySem PySem.Spec PyProof.Rows
noncomputable def del(H:Hp)(a:Addr):Hp:=fun b=>if b=a then none else H b
theorem zFH{H:Hp}{a:Addr}:del H a a=none:=by unfold del;rw[if_pos rfl]
theorem zBV{H:Hp}{a b:Addr}(h:b≠a):del H a b=H b:=by unfold del;rw[if_neg h]
theorem zN2{H:Hp}{a b:Addr}{o:HO}(h:del H a b=some o):b≠a/\H b=some o:=by
 by_cases z:b=a
 ·subst z;rw[zFH]at h;cases h
 ·rw[zBV z]at h;exact⟨z,h⟩
theorem zDX{H:Hp}{a b:Addr}(h:H b=none):del H a b=none:=by
 by_cases z:b=a
 ·subst z;exact zFH
 ·rw[zBV z];exact h
abbrev cel(co:Obj):HO:=.frz co (.ext fun _=>True)
theorem cel_ok{P:Program}{w:World}{H:Hp}{h:Heap}{a:Addr}{co:Obj}(e:h.get? a=some co):ObjOk P w H h a (cel co):=⟨e,trivial,⟨co,e⟩,fun _ _ _ _=>trivial⟩
section
variable{P:Program}{w:World}{H H':Hp}{h h':Heap}{a:Addr}{co:Obj}{fs:List Addr}
theorem HOk.known(x:HOk P w H h)(hn:H a=none)(hg:h.get? a=some co):HOk P w (upd H a (cel co)) h:=fun b u e=>by
 by_cases hb:b=a
 ·subst hb;rw[zAJ]at e;cases e;exact cel_ok hg
 ·rw[zAC hb]at e;exact(x b u e).stay (fun _ _ _ q=>q) (fun c q=>by rw[zAC (zAI q hn)];exact q) (fun c xs q=>by rw[zAC (zAI q hn)];exact q) fun c _ _ q _=>by rw[zAC (zAI q hn)];exact q
theorem HOk.untrack(x:HOk P w H h)(hc:H a=some (cel co))(hd:∃v,co.data=.cell v):HOk P w (del H a) h:=fun b u e=>by
 obtain⟨hb,e⟩:=zN2 e;refine(x b u e).stay (fun _ _ _ q=>q) (fun c q=>?_) (fun c xs q=>?_) fun c o v q hf=>?_
 ·rw[zBV (zKB q hc (by simp))];exact q
 ·rw[zBV (zKB q hc (by simp))];exact q
 ·refine(zBV ?_).trans q
  rintro rfl
  rw[q]at hc;cases hc;obtain⟨vs,hf⟩:=hf;obtain⟨v,hd⟩:=hd;rw[hf]at hd;cases hd
theorem Un.untrack(u:Un fs [] (upd H a (cel co)) H' h h')(hn:H a=none)(hg:h.get? a=some co)(hok:HOk P w H' h'):Un fs [] H (del H' a) h h':=by
 have fa:H' a=some (cel co):=u.frzs a co _ zAJ;have ga:h'.get? a=some co:=(hok a _ fa).1;have ne:∀{b:Addr}{o:HO},H b=some o->b≠a:=fun e=>zAI e hn
 refine⟨fun b o q n hb hx=>?_,fun b o q n hb hx=>?_,fun b o q n hx=>?_,fun b o q hx=>u.there b o q hx,fun b xs q=>?_,fun b o v q=>?_,fun b ps q=>?_⟩
 ·by_cases z:b=a
  ·subst z;rw[hg]at q;cases q;exact ga
  ·exact u.keep b o q (by rw[zAC z];exact n) hb hx
 ·by_cases z:b=a
  ·subst z;rw[hg]at q;cases q;exact⟨co.slots,ga⟩
  ·exact u.slot b o q (by rw[zAC z];exact n) hb hx
 ·by_cases z:b=a
  ·subst z;exact zFH
  ·rw[zBV z];exact u.free b o q (by rw[zAC z];exact n) hx
 ·rw[zBV (ne q)];exact u.tups b xs (by rw[zAC (ne q)];exact q)
 ·rw[zBV (ne q)];exact u.frzs b o v (by rw[zAC (ne q)];exact q)
 ·rw[zBV (ne q)];exact u.tbls b ps (by rw[zAC (ne q)];exact q)
theorem Un.retrack(u:Un fs [] (del H a) H' h h')(hc:H a=some (cel co)):Un fs [] H (upd H' a (cel co)) h h':=by
 have ne:∀{b:Addr},H b=none->b≠a:=fun e z=>by subst z;rw[hc]at e;cases e
 refine⟨fun b o q n hb hx=>u.keep b o q (zDX n) hb hx,fun b o q n hb hx=>u.slot b o q (zDX n) hb hx,fun b o q n hx=>?_,fun b o q hx=>u.there b o q hx,fun b xs q=>?_,fun b o v q=>?_,fun b ps q=>?_⟩
 ·rw[zAC (ne n)];exact u.free b o q (zDX n) hx
 ·have z:b≠a:=zKB q hc (by simp);rw[zAC z];exact u.tups b xs (by rw[zBV z];exact q)
 ·by_cases z:b=a
  ·subst z;rw[zAJ,<- hc,q]
  ·rw[zAC z];exact u.frzs b o v (by rw[zBV z];exact q)
 ·have z:b≠a:=zKB q hc (by simp);rw[zAC z];exact u.tbls b ps (by rw[zBV z];exact q)
end
abbrev lamO(q:Str)(params:Arguments)(body:Expr)(scope:Scope)(clos:List (Str×Addr))(pm cdv ctv:Value):Obj:=
 { cls:=.type "function",data:=.func (qC9 "<lambda>" q params body scope clos pm cdv ctv) }
theorem zQW{pos:Pos}{x y:Int}{c cv:Value}(l:List Value)(h:TriplesOk l)(e:codeAmong pos (l++[rawInt x,rawInt y,c])=some cv):codeAmong pos l=some cv\/cv=c:=by
 fun_induction TriplesOk l with
 |case1=>
  simp only[qFg,codeAmong,rawInt]at e
  split at e
  ·cases e;exact .inr rfl
  ·cases e
 |case2 a t b u z rest ih=>
  simp only[qDl,codeAmong]at e ⊢
  split at e
  ·cases e;rename_i hc;rw[if_pos hc];exact .inl rfl
  ·rename_i hc;rw[if_neg hc];exact ih h e
 |case3 l h1 h2=>exact h.elim
def tLam(P:Addr)(q:Str)(params:Arguments)(body:Expr)(scope:Scope)(clos:List (Str×Addr)):TE:=fun _ H Q=>
 H P=some (.lam q)/\∀f pm cdv ctv H1,H f=none->Same H H1->H1 f=some (.fn (lamO q params body scope clos pm cdv ctv) q)->Q (.ref f) H1
section
variable{X:Cx}
theorem zXH{params:Arguments}{body:Expr}{scope:Scope}{pos:Pos}{c P:Addr}{q:Str}{clos:List (Str×Addr)}(hdef:defaultsOf params X.env=([],[]))(hcode:X.env.code=.ref c)(C:PySem.W.CodeHd X.base c P)
  (hq:X.env.qual ++ "<lambda>" = q) (hcl:closureFor scope X.env=pure clos):PE X (.Lambda params body scope pos) (tLam P q params body scope clos):=by
 intro pins s σ H Q I ⟨hP,hQ⟩;refine PySem.W.kla_eval hdef ?_;rw[hq];obtain⟨ps,eP,tO,hrec⟩:=I.hok P _ hP;have C':=C.keeps I.bk;have hg:s.heap.Ns mainGlobals X.mg:=let⟨o,es,ep,e,r⟩:=I.ok.mod.glob;⟨o,es,ep,I.bk _ _ e,r⟩
 have hgP:mainGlobals≠P:=fun z=>by
  obtain⟨o,es,ep,e,r⟩:=I.ok.mod.glob
  have:=(I.bs _ _ e).2
  rw[z,hP]at this;cases this
 have hB:s.heap.BuiltinsAt X.mg P:=by
  obtain⟨bm,ob,e1,e2,e3,e4,e5,e6⟩:=I.ok.mod.bm;refine⟨bm,ob,e1,e2,fun z=>?_,fun z=>?_,I.bk _ _ e3,e4,e5,e6⟩
  ·obtain⟨o,es,ep,e,hd,_⟩:=I.ok.mod.glob;rw[z,e]at e3;cases e3;rw[hd]at e6;cases e6
  ·have:=(I.bs _ _ e3).2
   rw[z,hP]at this;cases this
 cases hit:codeAmong pos ps.toList with
 |some cv=>
  obtain⟨c2,oc,u,rfl,hc2,hcr⟩:=hrec pos cv hit;refine PySem.W.kla_makeFunctionHit hcl I.ok.glob hg hcode C' eP tO hit hB fun ctv h' tk hk hsz=>?_
  have hf:H h'.objs.size=none:=I.hok.fresh hsz;refine⟨.ref h'.objs.size,upd H h'.objs.size (.fn (lamO q params body scope clos ((X.mg "__name__").getD .none) (.ref c2) ctv) q),I.laid (t':=tk) (fun b u e=>Heap.get?_push_of_some _ (hk b u e)) hsz ?_,rfl,hQ h'.objs.size _ _ ctv _ hf (fun b o e=>(zAC (zAI e hf)).trans e) zAJ⟩;exact⟨Heap.get?_push_size _ rfl,_,c2,oc,u,rfl,rfl,by rw[zAC (zAI hc2 hf)];exact hc2,hcr⟩
 |none=>
  refine PySem.W.kla_makeFunction hcl I.ok.glob hg hcode C' eP tO hit hgP hB fun c' ctv h' tk hx hge hlt hrec' htb=>?_
  obtain⟨c2,oc,vs,t,e2,hoc,hd,hv⟩:=hrec';cases e2;have hcr:CodR oc q:=⟨vs,t,hd,hv⟩
  have lt:∀{b:Addr}{o:HO},H b=some o->b<s.heap.objs.size:=fun e=>I.hok.lt e
  have n1:∀{b:Addr},b<s.heap.objs.size->b≠c':=fun z=>qAp (qAa z hge)
  have n2:∀{b:Addr},b<s.heap.objs.size->b≠h'.objs.size:=fun z=>qAp (Nat.lt_trans (qAa z hge) hlt)
  generalize hH1:upd (upd H c' (cel oc)) h'.objs.size (.fn (lamO q params body scope clos ((X.mg "__name__").getD .none) (.ref c') ctv) q)=H1
  have sm:Same H H1:=fun b o e=>by rw[<- hH1,zAC (n2 (lt e)),zAC (n1 (lt e))];exact e
  have ac:H1 c'=some (cel oc):=by rw[<- hH1,zAC (qAp hlt),zAJ]
  have af:H1 h'.objs.size=some (.fn (lamO q params body scope clos ((X.mg "__name__").getD .none) (.ref c') ctv) q):=by rw[<- hH1,zAJ]
  have kp:∀b o,b≠P->s.heap.get? b=some o->(h'.push (PySem.W.kla_obj "<lambda>" q params body scope clos ((X.mg "__name__").getD .none) c' ctv)).get? b=some o:=fun b o z e=>Heap.get?_push_of_some _ (hx b o z e)
  have nP:∀{b:Addr},H b=none->b≠P:=fun e z=>by rw[z,hP]at e;cases e
  refine⟨.ref h'.objs.size,H1,I.un (t':=tk) ⟨fun b o e n _ _=>kp b o (nP n) e,fun b o e n _ _=>⟨o.slots,kp b o (nP n) e⟩,fun b o e n _=>?_,fun b o e _=>?_,fun b xs e=>sm _ _ e,fun b o u e=>sm _ _ e,fun b ts e=>⟨#[],by rw[sm _ _ e];simp⟩⟩ (fun b u e=>?_),rfl,hQ _ _ _ ctv H1 (I.hok.fresh (qAj hge (qBn hlt))) sm af⟩
  ·rw[<- hH1,zAC (n2 (Heap.lt_size e)),zAC (n1 (Heap.lt_size e))];exact n
  ·by_cases z:b=P
   ·subst z;exact⟨_,Heap.get?_push_of_some _ htb⟩
   ·exact⟨o,kp b o z e⟩
  ·by_cases zf:b=h'.objs.size
   ·subst zf;rw[af]at e;cases e;exact⟨Heap.get?_push_size _ rfl,_,c',oc,_,rfl,rfl,ac,hcr⟩
   ·by_cases zc:b=c'
    ·subst zc;rw[ac]at e;cases e;exact cel_ok (Heap.get?_push_of_some _ hoc)
    ·have e':H b=some u:=by rw[<- hH1,zAC zf,zAC zc]at e;exact e
     by_cases zP:b=P
     ·subst zP;rw[hP]at e';cases e';refine⟨_,Heap.get?_push_of_some _ htb,?_,fun pos' cv hcv=>?_⟩
      ·rw[qEd];exact TriplesOk_snoc _ _ _ _ tO
      ·rw[qEd]at hcv
       rcases zQW _ tO hcv with z|z
       ·obtain⟨c3,oc3,u3,z1,z2,z3⟩:=hrec pos' cv z;exact⟨c3,oc3,u3,z1,sm _ _ z2,z3⟩
       ·exact⟨c',oc,_,z,ac,hcr⟩
     ·refine(I.hok b u e').stay (fun c v hc r=>kp c v ?_ r) (fun c r=>sm _ _ r) (fun c xs r=>sm _ _ r) fun c o v r _=>sm _ _ r
      rcases hc with rfl|hc
      ·exact zP
      ·rintro rfl;rw[hP]at hc;cases hc
end
end L2
namespace L2
open PySem PySem.Spec PyProof.Rows
def zMF(sp:Sp)(cl:Addr)(i:Nat)(t:TA):TE:=fun σ H Q=>t σ H fun vs H1=>∃v,σ[i]?=some (some v) /\
 ∀co val,H1 cl=none->co.data=.cell (some val)->RelV v val->sp vs (upd H1 cl (cel co)) (fun w H2=>Q w (del H2 cl)) E0
section
variable{X:Cx}{k:Nat}{f cl:Addr}{fd:FuncData}{ps:List Str}{sp:Sp}{x nm:Str}{p pos:Pos}{e:Expr}{es:List Expr}{t:TA}{i:Nat}
theorem Inv.nocell{pins:List (Addr×Obj)}{σ:St}{H:Hp}{s:Shared}(I:Inv X pins σ H s)(hfn:X.fn nm=true)(hc:X.env.cells.lookup nm=some cl):∀b∈frs X.stack,b≠cl:=fun b hb z=>by
 subst z
 rcases qAh.mp (I.stkSub b hb)with z|z
 ·exact I.cne nm b hc z
 ·obtain⟨_,o,ho,_⟩:=I.ok.funs.mem z;exact absurd (qAa (Heap.lt_size ho) (I.ok.cab nm b hfn hc)) (qBj _)
theorem zRT(F:FnOk X.prog X.w X.K X.mg X.base CX0 k f fd ps sp)(hr:Room k X.A)(hg:Gl X x)(hm:X.mg x=some (.ref f))(hk:qAv X.K (.ref f)=true)(hb:Binds X.K fd ps [])
  (ha:PA X (e::es) t) (hN:X.N[i]?=some nm) (hv:X.env.scope.names.lookup nm=some .cell) (hfn:X.fn nm=true) (hc:X.env.cells.lookup nm=some cl)
  (hdb:(x==("__debug__":Str))=false:=by decide) (he:starEach (e::es) X.env=(false,eval e X.env)::starEach es X.env:=by rfl) (hpl:(backTo pos (starEach es X.env)).any (·.1)=false:=by rfl) :
  PE X (.Call (.Name x p) (e::es) [] pos) (zMF sp cl i t):=by
 intro pins s σ H Q I h;refine wpAny_Call_Name_kw (zLU I hg hm ?_ hdb);refine qCy (h₀:=X.base) I.ok.mod.kin hk (thn (ha pos pins s σ H _ I h) fun us s1 ⟨vs,H1,I1,r,v,hσ,hs⟩=>⟨I1.kIn,?_⟩) he hpl;obtain⟨m,hn,hl⟩:=id I1.loc;obtain⟨u,ru,look⟩:=hl i nm v hN hσ (.inr (.inl hv));have hcell:s1.heap.IsCell cl (some u):=by
  rcases look with⟨z,_⟩|⟨_,c,hc2,z⟩
  ·have z':X.env.scope.names.lookup nm=some .local:=z;rw[hv]at z';cases z'
  ·rw[hc]at hc2;cases hc2;exact z
 obtain⟨co,hco,hd⟩:=hcell;have hn1:=I1.freeC nm cl hc;have sp1:=hs co u hn1 hd ru;have lt:∀b o,X.base.get? b=some o->b≠cl:=fun b o z q=>by
  subst q;exact absurd (qAa (Heap.lt_size z) (qAj I1.ok.bsz (I1.ok.cab nm b hfn hc))) (qBj _)
 have e0:Env0 X.prog X.w X.K X.mg X.base X.A X.stack s1 (upd H1 cl (cel co)):=⟨I1.ok.frames,I1.ok.mod,fun b o z=>⟨(I1.bs b o z).1,by rw[zAC (lt b o z)];exact(I1.bs b o z).2⟩,qAj I1.ok.bsz I1.sz,I1.stack,fun b z=>by rw[zAC (I1.nocell hfn hc b z)];exact I1.stkFree b z,I1.hok.known hn1 hco,I1.bare⟩
 have hl2:(us++([]:List Value)).length=ps.length:=by rw[qBu,<- r.length];exact F.len _ _ _ _ sp1
 have hb1:=hb s1 us I1.kIn hl2;rw[qBu]at hb1;refine wpAny_call (codeAny_mono (F.run X.A X.stack s1 _ ⟨us,[]⟩ us vs _ E0 hr e0 hb1 r sp1) fun r s' hq=>?_);cases r with
 |error e=>exact hq.elim
 |ok fl=>
  cases fl with
  |ret u=>
   obtain⟨w,H2,os,bare,un,hok,rw',q⟩:=hq;have fa:H2 cl=some (cel co):=un.frzs cl co _ zAJ;exact I1.after ⟨w,del H2 cl,os,bare,Un.untrack un hn1 hco hok,HOk.untrack hok fa ⟨_,hd⟩,rw',q⟩
  |next=>exact qA6 hq
  |brk=>exact qA6 hq
  |cont=>exact qA6 hq
end
structure LamScope(ps:List Str)(nm:Str)(sc:Scope):Prop where
 kind:sc.kind=.function
 co:sc.isCoroutine=false
 gen:sc.isGenerator=false
 nd:(ps++[nm]).Nodup
 par:∀x∈ps,sc.names.lookup x=some .local
 held:sc.names.lookup nm=some .free
 nocell:∀y∈sc.names,y.2≠.cell
 only:∀x,sc.names.lookup x=some .free->x=nm
def zST(X:Cx)(N:List Str)(q:Str)(scope:Scope)(f:Addr)(cd:Value)(clos:List (Str×Addr))(s:Shared)(H:Hp):Cx where
 prog:=X.prog
 w:=X.w
 K:=X.K
 mg:=X.mg
 base:=X.base
 A:=X.A.deeper (qD0 q scope s.heap.objs.size f cd clos)
 N:=N
 s₀:=s
 H₀:=H
 env:=qD0 q scope s.heap.objs.size f cd clos
 outer:=X.stack
 stack:=qD0 q scope s.heap.objs.size f cd clos::X.stack
 ex:=[]
 fn:=fun _=>false
 calm:=true
 pn:=[]
 xe:=fun _ _=>False
theorem zOD:∀{ps:List Str}{us:List Value}{i:Nat}{x:Str}{u:Value},ps.Nodup->ps[i]?=some x->us[i]?=some u->(ps.zip us).reverse.lookup x=some u
 |[],_,_,_,_,_,h,_=>by simp at h
 |_::_,[],_,_,_,_,_,h=>by simp at h
 |p::ps,w::us,0,x,u,nd,h1,h2=>by
  simp at h1 h2;subst h1;subst h2;rw[qEk,qEx,qEl]
  have:(ps.zip us).reverse.lookup p=none:=by
   rw[qDd];intro q hq
   have:=(qC0 (a:=q.1) (b:=q.2) (by simpa using hq)).1
   have hne:p≠q.1:=fun z=>(qBf.mp nd).1 (z▸this)
   simpa using hne
  rw[this];simp
 |p::ps,w::us,i+1,x,u,nd,h1,h2=>by
  rw[qEk,qEx,qEl,zOD (i:=i) (qBf.mp nd).2 (by simpa using h1) (by simpa using h2)];rfl
section
variable{X:Cx}{pins:List (Addr×Obj)}{σ:St}{H:Hp}{s:Shared}{Q:VK}{us:List Value}{vs:List V}{f cl:Addr}{q nm:Str}{params:Arguments}{body:Expr}{scope:Scope}{pm cdv ctv:Value}{co:Obj}{val:Value}{v:V}{ps:List Str}
theorem zUR{k:Nat}(hr:Room k X.A)(I:Inv X pins σ H s)(hf:H f=some (.fn (lamO q params body scope [(nm,cl)] pm cdv ctv) q))(hcl:H cl=some (cel co))(hco:co.data=.cell (some val))(rv:RelV v val)(r:Vals vs us)
  (S:LamScope ps nm scope) (hbind:∀us:List Value,us.length=ps.length->bindArgs (qC9 "<lambda>" q params body scope [(nm,cl)] pm cdv ctv) ⟨us,[]⟩=pure (ps.zip us)) (hl:vs.length=ps.length)
  (hbody:∃t,PE (zST X (ps++[nm]) q scope f cdv [(nm,cl)] s (del H cl)) body t/\t (vs.map some++[some v]) (del H cl) (fun w H2=>Q w (upd H2 cl (cel co)))) :
  wpAny (model X.prog X.w) X.A (call (.ref f) us) (EP X pins σ Q) X.xe s:=by
 obtain⟨ef,fd,c,oc,u,e1,e2,e3,e4⟩:=I.hok f _ hf;obtain⟨gcl,_⟩:=I.hok cl _ hcl;have e1':fd=qC9 "<lambda>" q params body scope [(nm,cl)] pm cdv ctv:=by
  have e1:Data.func (qC9 "<lambda>" q params body scope [(nm,cl)] pm cdv ctv)=Data.func fd:=e1
  injection e1 with e1
  exact e1.symm
 subst e1';have hrec:s.heap.CodeRec cdv q:=let⟨ws,t,h1,h2⟩:=e4;⟨c,oc,ws,t,e2,(I.hok c _ e3).1,h1,h2⟩
 have hul:us.length=ps.length:=by rw[<- r.length];exact hl
 obtain⟨t,ht,hq⟩:=hbody;refine wpAny_call (codeAny_mono (R:=fun r s'=>match r with | .ok (.ret u)=>EP X pins σ Q u s' | .ok _=>False | .error _=>False) (PySem.W.kla_callFunE (by have:=hr.dp;lia) ef rfl S.co S.gen rfl hrec ?_) fun r s' hq=>?_)
 ·show wpAny _ _ (bindArgs (qC9 "<lambda>" q params body scope [(nm,cl)] pm cdv ctv) ⟨us,[]⟩) _ _ s;rw[hbind us hul];have hloc:∀y∈ps.zip us,scope.names.lookup y.1=some .local:=fun y hy=>S.par _ (qC0 (a:=y.1) (b:=y.2) hy).1
  refine wpAny_pure (wpAny_newFunctionEnv S.nocell hloc (fun h₁ hns hsb=>⟨(I.nolimit).fresh _ hsb,?_⟩) S.kind);show codeAny _ _ (.expr body (qD0 q scope s.heap.objs.size f cdv [(nm,cl)])) _ _;have hk₁:∀b o,s.heap.get? b=some o->h₁.get? b=some o:=fun b o e=>hsb.extBut b o (qAp (Heap.lt_size e)) (Heap.get?_push_of_some _ e)
  have cells:∀{y:Str}{c:Addr},([(nm,cl)]:List (Str×Addr)).lookup y=some c->y=nm/\c=cl:=fun{y c} e=>by
   simp only[qCu]at e
   split at e
   ·rename_i z;cases e;exact⟨by simpa using z,rfl⟩
   ·cases e
  have noA:∀b:Addr,b∉(zST X (ps++[nm]) q scope f cdv [(nm,cl)] s (del H cl)).ex:=fun b z=>absurd (show b∈([]:List Addr) from z) (by simp)
  have J:Inv (zST X (ps++[nm]) q scope f cdv [(nm,cl)] s (del H cl)) [] (vs.map some++[some v]) (del H cl) { s with heap:=h₁,toks:=s.toks+(ps.zip us).length }:=by
   refine⟨⟨I.ok.mod,S.kind,rfl,rfl,qA5 _,fun y z c h1 h2=>?_,fun y hy=>?_,fun y c z _=>(by cases z),fun _=>hr.hd,Around.frames_deeper I.ok.frames,.inr ⟨rfl,rfl⟩,fun b z=>absurd z (noA b),fun b o z=>⟨(I.bs b o z).1,zDX (I.bs b o z).2⟩,qAj I.ok.bsz I.sz,fun b _ _=>noA b,fun b z=>absurd z (noA b),I.stack,fun b z=>zDX (I.stkFree b z)⟩,
    rfl,I.bare,Un.kept hk₁,⟨_,hns,fun i y w' h1 h2 h3=>?_⟩,fun y c h=>?_,zDX (I.hok.fresh (qA5 _)),fun y c h=>?_,fun p hp=>absurd (show p∈([]:List (Addr×Obj)) from hp) (by simp),(I.hok.untrack hcl ⟨_,hco⟩).kept hk₁,?_⟩
   ·rw[(cells h1).1,(cells h2).1]
   ·have hy:scope.names.lookup y=some .cell\/scope.names.lookup y=some .free:=hy
    rcases hy with hy|hy
    ·exact absurd rfl (S.nocell _ (qBb hy))
    ·rw[S.only y hy];exact⟨cl,by show([(nm,cl)]:List (Str×Addr)).lookup nm=_;simp⟩
   ·have h1:(ps++[nm])[i]?=some y:=h1
    by_cases hi:i<ps.length
    ·rw[qAc hi]at h1;rw[qAc (by simpa[hl]using hi),qAf]at h2;cases ew:vs[i]? with
     |none=>rw[ew]at h2;cases h2
     |some a=>
      rw[ew]at h2;cases h2;obtain⟨u',hu',ru'⟩:=r.get ew;exact⟨u',ru',.inl ⟨S.par y (qBi h1),zOD (qD9.mp S.nd).1 h1 hu'⟩⟩
    ·rw[qAd (by omega)]at h1;rw[qAd (by simpa[hl]using hi)]at h2;have hi2:i-ps.length=0:=by
      cases z:i-ps.length with
      |zero=>rfl
      |succ n=>rw[z]at h1;simp at h1
     rw[hi2]at h1;rw[qAi,hl,hi2]at h2;cases h1;cases h2;exact⟨val,rv,.inr ⟨.inr S.held,cl,by show([(nm,cl)]:List (Str×Addr)).lookup nm=_;simp,co,hk₁ _ _ gcl,hco⟩⟩
   ·obtain⟨_,rfl⟩:=cells h;exact⟨some val,co,hk₁ _ _ gcl,hco⟩
   ·obtain⟨_,rfl⟩:=cells h;exact zFH
   ·show(vs.map some++[some v]).length=(ps++[nm]).length
    simp[hl]
  refine PySem.W.kla_codeExpr (wpAny_mono (ht [] _ _ _ _ J hq) (fun u s' z=>?_) fun _ _ z=>z.elim);obtain⟨w2,H2,J2,ru,q2⟩:=z;have ga:s'.heap.get? cl=some co:=J2.base.keep cl co gcl zFH (fun z=>by have:=I.stkFree cl z;rw[hcl]at this;cases this) (by intro z;exact absurd (show cl∈([]:List Addr) from z) (by simp));exact I.after ⟨w2,upd H2 cl (cel co),J2.os,J2.bare,Un.retrack J2.base hcl,J2.hok.known (J2.freeC nm cl (by show([(nm,cl)]:List (Str×Addr)).lookup nm=_;simp)) ga,ru,q2⟩
 ·cases r with
  |error e=>exact hq.elim
  |ok fl=>
   cases fl with
   |ret u=>exact hq
   |next=>exact qA6 hq
   |brk=>exact qA6 hq
   |cont=>exact qA6 hq
end
noncomputable def zOQ(i:Nat)(r:Addr->List V->Hp->VK->Prop)(t:TA):TE:=fun σ H Q=>∃f o q,σ[i]?=some (some (.ref f))/\H f=some (.fn o q)/\t σ H fun vs H1=>H1 f=some (.fn o q)/\r f vs H1 Q
def LamR(X:Cx)(r:Addr->List V->Hp->VK->Prop):Prop:=∀(pins:List (Addr×Obj))(s:Shared)(σ:St)(H:Hp)(f:Addr)(vs:List V)(us:List Value)(Q:VK),Inv X pins σ H s->Vals vs us->r f vs H Q ->
 wpAny (model X.prog X.w) X.A (call (.ref f) us) (EP X pins σ Q) X.xe s
section
variable{X:Cx}{i:Nat}{x:Str}{p pos:Pos}{e:Expr}{es:List Expr}{t:TA}{r:Addr->List V->Hp->VK->Prop}
theorem fnAt{P:Program}{w:World}{H:Hp}{h:Heap}{f:Addr}{o:Obj}{q:Str}(k:HOk P w H h)(e:H f=some (.fn o q)):PySem.W.FnAt f h:=by
 obtain⟨ef,fd,c,oc,u,e1,_⟩:=k f _ e;obtain⟨oc,od,dt,sl⟩:=o;cases e1;exact⟨oc,od,fd,sl,ef⟩
theorem zRS(hL:LamR X r)(hN:X.N[i]?=some x)(hv:Vis X.env.scope x)(ha:PA X (e::es) t)
  (hd:(x==("__debug__":Str))=false:=by decide) (hcd:(x==("__classdict__":Str))=false:=by decide)
  (he:starEach (e::es) X.env=(false,eval e X.env)::starEach es X.env:=by rfl) (hpl:(backTo pos (starEach es X.env)).any (·.1)=false:=by rfl) :
  PE X (.Call (.Name x p) (e::es) [] pos) (zOQ i r t):=by
 intro pins s σ H Q I h;obtain⟨f,o,q,hσ,hf,ht⟩:=h;refine wpAny_Call_Name_kw (thn (zTL (i:=i) hN hv hd hcd pins s σ H (fun v H'=>v=.ref f/\H'=H) I ⟨_,hσ,rfl,rfl⟩) fun u s1 z=>?_);obtain⟨v,H1,I1,rv,rfl,rfl⟩:=z;cases rv;refine PySem.W.callWith_F (fnAt I1.hok hf) (thn (ha pos pins s1 σ _ _ I1 ht) fun us s2 ⟨vs,H2,I2,r2,hf2,hr⟩=>⟨fnAt I2.hok hf2,?_⟩) he hpl;exact hL pins s2 σ H2 f vs us Q I2 r2 hr
end
end L2
namespace L3
open PySem PySem.Spec
open L2 hiding Rep RepL
open Mi (Dt Xn R okR zA3 optR zA0 zAB zAH zAE zAG Rh Sl Ro EM TM AM FM IM SM Tg Out zB5 zAT zBB full frz frz1 frzAt)
class Kc where
 K:qA1
variable[Kc]
noncomputable def clK(K:qA1)(c:Str):Option Addr:=match qBp K mainGlobals c with
 |some (some (.ref C))=>some C
 |_=>none
def SqR(K:qA1)(H:Hp)(a:Addr)(xs:List V):Prop:=SqL K H a xs\/SqT K H a xs
theorem zGU{K:qA1}{H H':Hp}{a:Addr}{xs:List V}(e:Same H H')(h:SqT K H a xs):SqT K H' a xs:=by
 rcases h with(h|⟨o,h⟩)|h
 ·exact .inl (.inl (e _ _ h))
 ·exact .inl (.inr ⟨o,e _ _ h⟩)
 ·exact .inr h
theorem zF5{K:qA1}{H H':Hp}{a:Addr}{xs:List V}(e:Same H H')(h:SqR K H a xs):SqR K H' a xs:=h.imp (fun z=>e.seq z) fun z=>zGU e z
noncomputable def svV:Mi.Sv->V
 |.i n=>.int n
 |.s x=>.str x
noncomputable def swV:Mi.Sw->V
 |.non=>.non
 |.bl b=>.bl b
 |.int i=>.int i
 |.str x=>.str x
noncomputable def zVW:Expr->Option (Arguments×Expr×Scope×Str)
 |.Call _ [_,.Lambda ps b sc _] _ _=>match sc.names.find? fun p=>p.2==.free with
  |some (x,_)=>some (ps,b,sc,x)
  |none=>none
 |_=>none
def zZ6:Stmt->Option (Arguments×Expr×Scope×Str)
 |.Return (some e) _=>zVW e
 |.Assign _ e _=>zVW e
 |.If _ (_::.Return (some e) _::_) _ _=>zVW e
 |_=>none
def zO1(l:List Stmt):Option (Arguments×Expr×Scope×Str):=l.findSome? zZ6
def lamK(K:qA1)(x:Str):Option (Arguments×Expr×Scope×Str):=match qBp K mainGlobals x with
 |some (some (.ref f))=>match K.lookup f with
  |some o=>match o.data with
   |.func fd=>match fd.body with
    |.stmts b=>zO1 b
    |_=>none
   |_=>none
  |none=>none
 |_=>none
noncomputable def lamQ(x:Str):Str:=x ++ ".<locals>." ++ "<lambda>"
noncomputable def codP(K:qA1)(x:Str):Option Addr:=match qBp K mainGlobals x with
 |some (some (.ref f))=>match K.lookup f with
  |some o=>match o.data with
   |.func fd=>match fd.code with
    |.ref c=>match K.lookup c with
     |some o=>match o.data with
      |.fields vs=>match(vs[11]?:Option Value)with
       |some (.ref P)=>some P
       |_=>none
      |_=>none
     |none=>none
    |_=>none
   |_=>none
  |none=>none
 |_=>none
noncomputable def makers:List Str:=["turned_at","exchanged_at","pivoted"]
def tabK(K:qA1):Hp:=fun P=>(makers.find? fun x=>codP K x==some P&&(lamK K x).isSome).map fun x=>.lam (lamQ x)
mutual
def Rep(H:Hp):Dt->V->Prop
 |.non,v=>v=.non
 |.bl b,v=>v=.bl b
 |.int i,v=>v=.int i
 |.str x,v=>v=.str x
 |.lst ds,v=>∃a xs,v=.ref a/\H a=some (.lst xs)/\RepL H ds xs
 |.tup ds,v=>∃a xs,v=.ref a/\H a=some (.tup xs)/\RepL H ds xs
 |.scr ns,v=>∃a,v=.ref a/\SqR Kc.K H a (ns.map V.int)
 |.exc c f d,v=>∃e C da,v=.ref e/\isX H e C da/\clK Kc.K c=some C/\((da=none/\f = "")\/∃a gs w,da=some a/\H a=some (.xd gs)/\gs.lookup f=some w/\Rep H d w)
 |.ins c fs,v=>∃a C dx,v=.ref a/\clK Kc.K c=some C/\H a=some (.ins C dx (fs.map fun p=>(p.1,svV p.2)))
 |.dct kvs,v=>∃a,v=.ref a/\H a=some (.dK (kvs.map fun p=>(p.1,swV p.2)))
 |.fn x d,v=>∃f,v=.ref f/\∃L cl pm cdv ctv co val w,lamK Kc.K x=some L/\H f=some (.fn (lamO (lamQ x) L.1 L.2.1 L.2.2.1 [(L.2.2.2,cl)] pm cdv ctv) (lamQ x))/\H cl=some (cel co)/\co.data=.cell (some val)/\RelV w val/\Rep H d w
def RepL(H:Hp):List Dt->List V->Prop
 |[],xs=>xs=[]
 |d::r,xs=>∃x q,xs=x::q/\Rep H d x/\RepL H r q
end
mutual
theorem Rep.mono{H H':Hp}(s:Same H H'):∀{d:Dt}{v:V},Rep H d v->Rep H' d v
 |.non,_,h=>h
 |.bl _,_,h=>h
 |.int _,_,h=>h
 |.str _,_,h=>h
 |.lst _,_,h=>by obtain⟨a,xs,e,e',r⟩:=h;exact⟨a,xs,e,s _ _ e',RepL.mono s r⟩
 |.tup _,_,h=>by obtain⟨a,xs,e,e',r⟩:=h;exact⟨a,xs,e,s _ _ e',RepL.mono s r⟩
 |.scr _,_,h=>by obtain⟨a,e,e'⟩:=h;exact⟨a,e,zF5 s e'⟩
 |.exc _ _ _,_,h=>by
  obtain⟨a,C,da,e,e',hc,r⟩:=h;refine⟨a,C,da,e,e'.imp (fun z=>s _ _ z) fun z=>s _ _ z,hc,r.imp (fun z=>z) ?_⟩
  rintro⟨b,gs,w,h1,h2,h3,h4⟩
  exact⟨b,gs,w,h1,s _ _ h2,h3,Rep.mono s h4⟩
 |.ins _ _,_,h=>by obtain⟨a,C,dx,e,hc,h1⟩:=h;exact⟨a,C,dx,e,hc,s _ _ h1⟩
 |.dct _,_,h=>by obtain⟨a,e,h1⟩:=h;exact⟨a,e,s _ _ h1⟩
 |.fn _ _,_,h=>by obtain⟨f,e,L,cl,pm,cdv,ctv,co,val,w,h1,h2,h3,h4,h5,h6⟩:=h;exact⟨f,e,L,cl,pm,cdv,ctv,co,val,w,h1,s _ _ h2,s _ _ h3,h4,h5,Rep.mono s h6⟩
theorem RepL.mono{H H':Hp}(s:Same H H'):∀{ds:List Dt}{xs:List V},RepL H ds xs->RepL H' ds xs
 |[],_,h=>h
 |_::_,_,h=>by obtain⟨x,q,e,r,t⟩:=h;exact⟨x,q,e,Rep.mono s r,RepL.mono s t⟩
end
theorem RepL.length{H:Hp}:∀{ds:List Dt}{xs:List V},RepL H ds xs->xs.length=ds.length
 |[],_,h=>by cases h;rfl
 |_::_,_,h=>by obtain⟨x,q,e,r,t⟩:=h;subst e;simp[RepL.length t]
mutual
def conv:Dt->L2.Dat
 |.non=>.non
 |.bl b=>.bl b
 |.int i=>.int i
 |.str x=>.str x
 |.lst ds=>.lst (convL ds)
 |.tup ds=>.tup (convL ds)
 |.scr _=>.non
 |.exc _ _ _=>.non
 |.fn _ _=>.non
 |.ins _ _=>.non
 |.dct _=>.non
def convL:List Dt->List L2.Dat
 |[]=>[]
 |d::r=>conv d::convL r
end
mutual
theorem zFI:∀{d:Dt},d.dep<=40->(conv d).dep<=d.dep
 |.non,_=>qA5 _
 |.bl _,_=>qA5 _
 |.int _,_=>qA5 _
 |.str _,_=>qA5 _
 |.lst ds,h=>by rw[Dt.dep]at h ⊢;rw[conv,L2.Dat.dep];have:=conv_depL (ds:=ds) (by lia);lia
 |.tup ds,h=>by rw[Dt.dep]at h ⊢;rw[conv,L2.Dat.dep];have:=conv_depL (ds:=ds) (by lia);lia
 |.scr _,h=>by rw[Dt.dep]at h;lia
 |.exc _ _ _,h=>by rw[Dt.dep]at h;lia
 |.fn _ _,h=>by rw[Dt.dep]at h;lia
 |.ins _ _,h=>by rw[Dt.dep]at h;lia
 |.dct _,h=>by rw[Dt.dep]at h;lia
theorem conv_depL:∀{ds:List Dt},Dt.depL ds<=40->L2.Dat.depL (convL ds)<=Dt.depL ds
 |[],_=>qA5 _
 |d::r,h=>by
  rw[Dt.depL]at h ⊢;rw[convL,L2.Dat.depL];have h1:=zFI (d:=d) (by lia);have h2:=conv_depL (ds:=r) (by lia)
  lia
end
mutual
theorem zEM{H:Hp}:∀{d:Dt}{v:V},d.dep<=40->Rep H d v->L2.Rep H (conv d) v
 |.non,_,_,h=>h
 |.bl _,_,_,h=>h
 |.int _,_,_,h=>h
 |.str _,_,_,h=>h
 |.lst ds,_,hd,h=>by obtain⟨a,xs,e,e',r⟩:=h;exact⟨a,xs,e,e',conv_repL (by rw[Dt.dep]at hd;lia) r⟩
 |.tup ds,_,hd,h=>by obtain⟨a,xs,e,e',r⟩:=h;exact⟨a,xs,e,e',conv_repL (by rw[Dt.dep]at hd;lia) r⟩
 |.scr _,_,h,_=>by rw[Dt.dep]at h;lia
 |.exc _ _ _,_,h,_=>by rw[Dt.dep]at h;lia
 |.fn _ _,_,h,_=>by rw[Dt.dep]at h;lia
 |.ins _ _,_,h,_=>by rw[Dt.dep]at h;lia
 |.dct _,_,h,_=>by rw[Dt.dep]at h;lia
theorem conv_repL{H:Hp}:∀{ds:List Dt}{xs:List V},Dt.depL ds<=40->RepL H ds xs->L2.RepL H (convL ds) xs
 |[],_,_,h=>h
 |d::r,_,hd,h=>by
  rw[Dt.depL]at hd;obtain⟨x,q,e,a,b⟩:=h;exact⟨x,q,e,zEM (by lia) a,conv_repL (by lia) b⟩
end
mutual
theorem zM4:∀{d e:Dt},d.dep<=40->e.dep<=40->L2.Dat.eq (conv d) (conv e)=Dt.eq d e
 |.scr _,_,h,_=>by rw[Dt.dep]at h;lia
 |.exc _ _ _,_,h,_=>by rw[Dt.dep]at h;lia
 |.fn _ _,_,h,_=>by rw[Dt.dep]at h;lia
 |.ins _ _,_,h,_=>by rw[Dt.dep]at h;lia
 |.dct _,_,h,_=>by rw[Dt.dep]at h;lia
 |.lst ds,e,h,h'=>by
  rw[Dt.dep]at h;cases e with
  |lst es=>rw[Dt.dep]at h';rw[conv,conv,L2.Dat.eq,Dt.eq];exact conv_eqL (by lia) (by lia)
  |scr _=>rw[Dt.dep]at h';lia
  |exc _ _ _=>rw[Dt.dep]at h';lia
  |fn _ _=>rw[Dt.dep]at h';lia
  |ins _ _=>rw[Dt.dep]at h';lia
  |dct _=>rw[Dt.dep]at h';lia
  |_=>simp[conv,L2.Dat.eq,Dt.eq]
 |.tup ds,e,h,h'=>by
  rw[Dt.dep]at h;cases e with
  |tup es=>rw[Dt.dep]at h';rw[conv,conv,L2.Dat.eq,Dt.eq];exact conv_eqL (by lia) (by lia)
  |scr _=>rw[Dt.dep]at h';lia
  |exc _ _ _=>rw[Dt.dep]at h';lia
  |fn _ _=>rw[Dt.dep]at h';lia
  |ins _ _=>rw[Dt.dep]at h';lia
  |dct _=>rw[Dt.dep]at h';lia
  |_=>simp[conv,L2.Dat.eq,Dt.eq]
 |.non,e,_,h'=>by
  cases e with
  |scr _=>rw[Dt.dep]at h';lia
  |exc _ _ _=>rw[Dt.dep]at h';lia
  |fn _ _=>rw[Dt.dep]at h';lia
  |ins _ _=>rw[Dt.dep]at h';lia
  |dct _=>rw[Dt.dep]at h';lia
  |_=>simp[conv,L2.Dat.eq,Dt.eq]
 |.bl _,e,_,h'=>by
  cases e with
  |scr _=>rw[Dt.dep]at h';lia
  |exc _ _ _=>rw[Dt.dep]at h';lia
  |fn _ _=>rw[Dt.dep]at h';lia
  |ins _ _=>rw[Dt.dep]at h';lia
  |dct _=>rw[Dt.dep]at h';lia
  |_=>simp[conv,L2.Dat.eq,Dt.eq]
 |.int _,e,_,h'=>by
  cases e with
  |scr _=>rw[Dt.dep]at h';lia
  |exc _ _ _=>rw[Dt.dep]at h';lia
  |fn _ _=>rw[Dt.dep]at h';lia
  |ins _ _=>rw[Dt.dep]at h';lia
  |dct _=>rw[Dt.dep]at h';lia
  |_=>simp[conv,L2.Dat.eq,Dt.eq]
 |.str _,e,_,h'=>by
  cases e with
  |scr _=>rw[Dt.dep]at h';lia
  |exc _ _ _=>rw[Dt.dep]at h';lia
  |fn _ _=>rw[Dt.dep]at h';lia
  |ins _ _=>rw[Dt.dep]at h';lia
  |dct _=>rw[Dt.dep]at h';lia
  |_=>simp[conv,L2.Dat.eq,Dt.eq]
theorem conv_eqL:∀{ds es:List Dt},Dt.depL ds<=40->Dt.depL es<=40->L2.Dat.eqL (convL ds) (convL es)=Dt.eqL ds es
 |[],[],_,_=>by simp[convL,L2.Dat.eqL,Dt.eqL]
 |[],_::_,_,_=>by simp[convL,L2.Dat.eqL,Dt.eqL]
 |_::_,[],_,_=>by simp[convL,L2.Dat.eqL,Dt.eqL]
 |d::r,e::t,h,h'=>by
  rw[Dt.depL]at h h';rw[convL,convL,L2.Dat.eqL,Dt.eqL,zM4 (by lia) (by lia),conv_eqL (by lia) (by lia)]
end
theorem zRJ{G:Hp}{ds:List Dt}{xs:List V}(h:RepL G ds xs):xs.length=ds.length:=RepL.length h
theorem zCD{G:Hp}:∀{ds:List Dt}{xs:List V}{q:Nat}{d:Dt}{x:V},RepL G ds xs->ds[q]?=some d->xs[q]?=some x->Rep G d x
 |[],_,_,_,_,_,h,_=>by simp at h
 |d::r,xs,0,e,y,h,h1,h2=>by
  obtain⟨x,t,rfl,a,b⟩:=h;simp at h1 h2;subst h1;subst h2;exact a
 |d::r,xs,q+1,e,y,h,h1,h2=>by
  obtain⟨x,t,rfl,a,b⟩:=h;exact zCD b (by simpa using h1) (by simpa using h2)
theorem zEZ{G:Hp}:∀{ds:List Dt}{xs:List V},xs.length=ds.length->(∀(q:Nat)(d:Dt)(x:V),ds[q]?=some d->xs[q]?=some x->Rep G d x)->RepL G ds xs
 |[],[],_,_=>rfl
 |[],_::_,h,_=>by simp at h
 |_::_,[],h,_=>by simp at h
 |d::r,x::t,h,k=>⟨x,t,rfl,k 0 d x rfl rfl,zEZ (by simpa using h) fun q e y h1 h2=>k (q+1) e y (by simpa using h1) (by simpa using h2)⟩
theorem zF1{n:Nat}:∀{ds:List Dt},Dt.depL ds<=n->∀{q:Nat}{d:Dt},ds[q]?=some d->d.dep<=n
 |[],_,_,_,h=>by simp at h
 |e::r,h,0,d,h1=>by simp at h1;subst h1;rw[Dt.depL]at h;lia
 |e::r,h,q+1,d,h1=>by rw[Dt.depL]at h;exact zF1 (ds:=r) (by lia) (q:=q) (by simpa using h1)
theorem Rep.scalar{G G2:Hp}{d:Dt}{v:V}(h:Rep G d v)(hd:d.dep=0):Rep G2 d v:=by
 cases d with
 |lst ds=>rw[Dt.dep]at hd;lia
 |tup ds=>rw[Dt.dep]at hd;lia
 |scr ns=>rw[Dt.dep]at hd;lia
 |exc _ _ _=>rw[Dt.dep]at hd;lia
 |fn _ _=>rw[Dt.dep]at hd;lia
 |ins _ _=>rw[Dt.dep]at hd;lia
 |dct _=>rw[Dt.dep]at hd;lia
 |_=>exact h
structure Kids(P:(Addr->Prop)->Dt->V->Prop)(S:Addr->Prop)(a:Addr)(ds:List Dt)(xs:List V)(T:Nat->Addr->Prop):Prop where
 len:xs.length=ds.length
 own:∀(q:Nat)(d:Dt)(x:V),ds[q]?=some d->xs[q]?=some x->P (T q) d x
 top:S a
 out:∀q,¬T q a
 dis:∀q r b,T q b->T r b->q=r
 sub:∀q b,T q b->S b
def Own(G H:Hp):Nat->(Addr->Prop)->Dt->V->Prop
 |0,_,d,v=>Rep G d v
 |n+1,S,d,v=>match d with
  |.lst ds=>∃a xs T,v=.ref a/\H a=some (.lst xs)/\Kids (Own G H n) S a ds xs T
  |.tup ds=>∃a xs T,v=.ref a/\H a=some (.tup xs)/\Kids (Own G H n) S a ds xs T
  |.dct kvs=>∃a,v=.ref a/\H a=some (.dK (kvs.map fun p=>(p.1,swV p.2)))/\S a
  |d=>Rep G d v
theorem Kids.imp{P P':(Addr->Prop)->Dt->V->Prop}{S S':Addr->Prop}{a:Addr}{ds:List Dt}{xs:List V}{T:Nat->Addr->Prop}(k:Kids P S a ds xs T)
  (h:∀q d x,ds[q]?=some d->P (T q) d x->P' (T q) d x) (hs:∀b,S b->S' b):Kids P' S' a ds xs T:=
 ⟨k.len,fun q d x h1 h2=>h q d x h1 (k.own q d x h1 h2),hs _ k.top,k.out,k.dis,fun q b t=>hs _ (k.sub q b t)⟩
theorem Own.mono{G G' H H':Hp}(sG:Same G G')(sH:Same H H'):∀{n:Nat}{S:Addr->Prop}{d:Dt}{v:V},Own G H n S d v->Own G' H' n S d v
 |0,S,d,v,h=>Rep.mono sG h
 |n+1,S,d,v,h=>by
  cases d with
  |lst ds=>obtain⟨a,xs,T,e,ha,k⟩:=h;exact⟨a,xs,T,e,sH _ _ ha,k.imp (fun _ _ _ _ p=>Own.mono sG sH p) fun _ z=>z⟩
  |tup ds=>obtain⟨a,xs,T,e,ha,k⟩:=h;exact⟨a,xs,T,e,sH _ _ ha,k.imp (fun _ _ _ _ p=>Own.mono sG sH p) fun _ z=>z⟩
  |dct kvs=>obtain⟨a,e,ha,hs⟩:=h;exact⟨a,e,sH _ _ ha,hs⟩
  |_=>exact Rep.mono sG h
theorem Own.sub{G H:Hp}{n:Nat}{S S':Addr->Prop}{d:Dt}{v:V}(h:Own G H n S d v)(hs:∀b,S b->S' b):Own G H n S' d v:=by
 cases n with
 |zero=>exact h
 |succ n=>
  cases d with
  |lst ds=>obtain⟨a,xs,T,e,ha,k⟩:=h;exact⟨a,xs,T,e,ha,k.imp (fun _ _ _ _ p=>p) hs⟩
  |tup ds=>obtain⟨a,xs,T,e,ha,k⟩:=h;exact⟨a,xs,T,e,ha,k.imp (fun _ _ _ _ p=>p) hs⟩
  |dct kvs=>obtain⟨a,e,ha,h2⟩:=h;exact⟨a,e,ha,hs _ h2⟩
  |_=>exact h
theorem Own.rep{G H J:Hp}(sG:Same G J):∀{n:Nat}{S:Addr->Prop}{d:Dt}{v:V},Own G H n S d v->(∀a o,S a->H a=some o->J a=some o)->Rep J d v
 |0,S,d,v,h,_=>Rep.mono sG h
 |n+1,S,d,v,h,hj=>by
  cases d with
  |lst ds=>obtain⟨a,xs,T,e,ha,k⟩:=h;exact⟨a,xs,e,hj _ _ k.top ha,zEZ k.len fun q d x h1 h2=>Own.rep sG (k.own q d x h1 h2) fun b o t hb=>hj b o (k.sub q b t) hb⟩
  |tup ds=>obtain⟨a,xs,T,e,ha,k⟩:=h;exact⟨a,xs,e,hj _ _ k.top ha,zEZ k.len fun q d x h1 h2=>Own.rep sG (k.own q d x h1 h2) fun b o t hb=>hj b o (k.sub q b t) hb⟩
  |dct kvs=>obtain⟨a,e,ha,hs⟩:=h;exact⟨a,e,hj _ _ hs ha⟩
  |_=>exact Rep.mono sG h
theorem Own.at{G G2 H:Hp}:∀{n k:Nat}{S:Addr->Prop}{d:Dt}{v:V},Own G H n S d v->d.dep<=n->d.dep<=k->n<1000->Own G2 H k S d v
 |n,k,S,d,v,h,hn,hk,hz=>by
  cases d with
  |lst ds=>
   rw[Dt.dep]at hn hk;cases n with
   |zero=>lia
   |succ n=>
    cases k with
    |zero=>lia
    |succ k=>
     obtain⟨a,xs,T,e,ha,kd⟩:=h;refine⟨a,xs,T,e,ha,kd.imp (fun q d x h1 p=>?_) fun _ z=>z⟩;exact Own.at p (zF1 (by lia) h1) (zF1 (by lia) h1) (by lia)
  |tup ds=>
   rw[Dt.dep]at hn hk;cases n with
   |zero=>lia
   |succ n=>
    cases k with
    |zero=>lia
    |succ k=>
     obtain⟨a,xs,T,e,ha,kd⟩:=h;refine⟨a,xs,T,e,ha,kd.imp (fun q d x h1 p=>?_) fun _ z=>z⟩;exact Own.at p (zF1 (by lia) h1) (zF1 (by lia) h1) (by lia)
  |non=>cases n<;>cases k<;>exact h
  |bl b=>cases n<;>cases k<;>exact h
  |int i=>cases n<;>cases k<;>exact h
  |str x=>cases n<;>cases k<;>exact h
  |scr ns=>rw[Dt.dep]at hn;lia
  |exc _ _ _=>rw[Dt.dep]at hn;lia
  |fn _ _=>rw[Dt.dep]at hn;lia
  |ins _ _=>rw[Dt.dep]at hn;lia
  |dct _=>rw[Dt.dep]at hn;lia
termination_by n=>n
theorem Own.scalar{G H G2 H2:Hp}{n k:Nat}{S S2:Addr->Prop}{d:Dt}{v:V}(h:Own G H n S d v)(hd:d.dep=0):Own G2 H2 k S2 d v:=by
 cases d with
 |lst ds=>rw[Dt.dep]at hd;lia
 |tup ds=>rw[Dt.dep]at hd;lia
 |non=>cases n<;>cases k<;>exact h
 |bl b=>cases n<;>cases k<;>exact h
 |int i=>cases n<;>cases k<;>exact h
 |str x=>cases n<;>cases k<;>exact h
 |scr ns=>rw[Dt.dep]at hd;lia
 |exc _ _ _=>rw[Dt.dep]at hd;lia
 |fn _ _=>rw[Dt.dep]at hd;lia
 |ins _ _=>rw[Dt.dep]at hd;lia
 |dct _=>rw[Dt.dep]at hd;lia
theorem zTS{G H:Hp}{n:Nat}{S:Addr->Prop}{d:Dt}{v:V}(h:Rep G d v)(hd:d.dep=0):Own G H n S d v:=Own.scalar (n:=0) (G:=G) (H:=H) (S:=S) h hd
theorem Own.upd{G H:Hp}{p:Addr}{o:HO}:∀{n:Nat}{S:Addr->Prop}{d:Dt}{v:V},Own G H n S d v->¬S p->Own G (upd H p o) n S d v
 |0,S,d,v,h,_=>h
 |n+1,S,d,v,h,hp=>by
  cases d with
  |lst ds=>
   obtain⟨a,xs,T,e,ha,k⟩:=h;have hap:a≠p:=fun z=>hp (z▸k.top)
   exact⟨a,xs,T,e,(zAC hap).trans ha,k.imp (fun q _ _ _ w=>Own.upd w fun z=>hp (k.sub q _ z)) fun _ z=>z⟩
  |tup ds=>
   obtain⟨a,xs,T,e,ha,k⟩:=h;have hap:a≠p:=fun z=>hp (z▸k.top)
   exact⟨a,xs,T,e,(zAC hap).trans ha,k.imp (fun q _ _ _ w=>Own.upd w fun z=>hp (k.sub q _ z)) fun _ z=>z⟩
  |dct kvs=>
   obtain⟨a,e,ha,hs⟩:=h;have hap:a≠p:=fun z=>hp (z▸hs)
   exact⟨a,e,(zAC hap).trans ha,hs⟩
  |_=>exact h
structure Ext(G H G' H':Hp):Prop where
 g:Same G G'
 h:Same H H'
 in':Same G' H'
 old:∀b,H b≠none->G' b=G b
theorem Ext.refl{G H:Hp}(s:Same G H):Ext G H G H:=⟨Same.refl _,Same.refl _,s,fun _ _=>rfl⟩
theorem _root_.L2.Same.some{H H':Hp}(s:Same H H'){b:Addr}(h:H b≠qEc):H' b≠qEc:=by
 cases e:H b with
 |none=>exact absurd e h
 |some o=>rw[s _ _ e];simp
theorem Ext.trans{G H G1 H1 G2 H2:Hp}(a:Ext G H G1 H1)(b:Ext G1 H1 G2 H2):Ext G H G2 H2:=
 ⟨a.g.trans b.g,a.h.trans b.h,b.in',fun c hc=>(b.old c (a.h.some hc)).trans (a.old c hc)⟩
structure Fr(G H G' H':Hp)(S:Addr->Prop):Prop where
 ext:Ext G H G' H'
 new:∀a,S a->H a=none/\G' a=none/\H' a≠none
open Classical in
noncomputable def over(G H:Hp)(S:Addr->Prop):Hp:=fun b=>if S b then H b else G b
theorem zE7{G H:Hp}{S:Addr->Prop}{a:Addr}(h:S a):over G H S a=H a:=by unfold over;rw[if_pos h]
theorem zCI{G H:Hp}{S:Addr->Prop}{a:Addr}(h:¬S a):over G H S a=G a:=by unfold over;rw[if_neg h]
theorem zCY{G H:Hp}{S:Addr->Prop}(s:Same G H):Same G (over G H S)/\Same (over G H S) H:=by
 constructor
 ·intro b o e
  by_cases z:S b
  ·rw[zE7 z];exact s _ _ e
  ·rw[zCI z];exact e
 ·intro b o e
  by_cases z:S b
  ·rw[zE7 z]at e;exact e
  ·rw[zCI z]at e;exact s _ _ e
theorem Fr.frz{G H G' H':Hp}{S:Addr->Prop}{n:Nat}{d:Dt}{v:V}(f:Fr G H G' H' S)(o:Own G' H' n S d v):Ext G H (over G' H' S) H'/\Rep (over G' H' S) d v:=by
 obtain⟨s1,s2⟩:=zCY (S:=S) f.ext.in';refine⟨⟨f.ext.g.trans s1,f.ext.h,s2,fun b hb=>?_⟩,o.rep s1 fun a u ha e=>by rw[zE7 ha];exact e⟩;have z:¬S b:=fun z=>hb (f.new b z).1
 rw[zCI z];exact f.ext.old b hb
structure View(G:Hp)(σ:St)(ρ:Rh):Prop where
 len:ρ.length=σ.length
 «at»:∀(i:Nat)(d:Dt),ρ[i]?=some (some d)->∃v,σ[i]?=some (some v)/\Rep G d v
 tab:Same (tabK Kc.K) G
theorem View.mono{G G':Hp}{σ:St}{ρ:Rh}(s:Same G G')(h:View G σ ρ):View G' σ ρ:=⟨h.len,fun i d e=>let⟨v,a,b⟩:=h.at i d e;⟨v,a,Rep.mono s b⟩,h.tab.trans s⟩
def XRep(mg:Str->Option Value)(x:Xn)(c:Value)(da:Option Addr)(G H:Hp):Prop:=
 ∃e C,c=.ref e/\G e=some (xo e (.ref C) da)/\clK Kc.K x.cls=some C/\((da=none/\x.f = "")\/∃a gs w,da=some a/\G a=some (.xd gs)/\gs.lookup x.f=some w/\Rep G x.d w)
def PostE(mg:Str->Option Value)(E:XK)(G H:Hp)(n:Nat)(r:R Dt)(Q:VK):Prop:=match r with
 |none=>False
 |some (.error x)=>∀c da G' H',Ext G H G' H'->XRep mg x c da G' H'->E c da H'
 |some (.ok d)=>∀v G' H' S,Fr G H G' H' S->Own G' H' n S d v->Q v H'
def PostT(mg:Str->Option Value)(E:XK)(G H:Hp)(r:R Bool)(Q:Bool->Hp->Prop):Prop:=match r with
 |none=>False
 |some (.error x)=>∀c da G' H',Ext G H G' H'->XRep mg x c da G' H'->E c da H'
 |some (.ok b)=>∀H',Same H H'->Q b H'
structure OwnA(G H:Hp)(n:Nat)(S:Addr->Prop)(ds:List Dt)(xs:List V)(T:Nat->Addr->Prop):Prop where
 len:xs.length=ds.length
 own:∀(q:Nat)(d:Dt)(x:V),ds[q]?=some d->xs[q]?=some x->Own G H n (T q) d x
 dis:∀q r b,T q b->T r b->q=r
 sub:∀q b,T q b->S b
def zYW(mg:Str->Option Value)(E:XK)(G H:Hp)(n:Nat)(r:R (List Dt))(Q:List V->Hp->Prop):Prop:=match r with
 |none=>False
 |some (.error x)=>∀c da G' H',Ext G H G' H'->XRep mg x c da G' H'->E c da H'
 |some (.ok ds)=>∀vs G' H' S T,Fr G H G' H' S->OwnA G' H' n S ds vs T->Q vs H'
def DE(mg:Str->Option Value)(E:XK)(t:TE)(m:EM)(n:Nat):Prop:=∀(G H:Hp)(σ:St)(ρ:Rh)(Q:VK),Same G H->View G σ ρ->PostE mg E G H n (m ρ) Q->t σ H Q
def DT(mg:Str->Option Value)(E:XK)(t:TT)(m:TM):Prop:=∀(G H:Hp)(σ:St)(ρ:Rh)(Q:Bool->Hp->Prop),Same G H->View G σ ρ->PostT mg E G H (m ρ) Q->t σ H Q
def DA(mg:Str->Option Value)(E:XK)(t:TA)(m:AM)(n:Nat):Prop:=∀(G H:Hp)(σ:St)(ρ:Rh)(Q:List V->Hp->Prop),Same G H->View G σ ρ->zYW mg E G H n (m ρ) Q->t σ H Q
structure Err(mg:Str->Option Value)(E:XK)(G H:Hp){β:Type}(P:R β->Prop):Prop where
 no:P none->False
 er:∀x,P (some (.error x))->∀c da G' H',Ext G H G' H'->XRep mg x c da G' H'->E c da H'
theorem Ext.same{G H H':Hp}(s:Same G H)(h:Same H H'):Ext G H G H':=⟨Same.refl _,h,s.trans h,fun _ _=>rfl⟩
theorem Err.from{mg:Str->Option Value}{E:XK}{G H G' H':Hp}{β:Type}{P:R β->Prop}(e:Err mg E G H P)(x:Ext G H G' H'):Err mg E G' H' P:=⟨e.no,fun y p c da G2 H2 z w=>e.er y p c da G2 H2 (x.trans z) w⟩
section
variable{mg:Str->Option Value}{E:XK}{n:Nat}
theorem errE{G H:Hp}{Q:VK}:Err mg E G H (fun r=>PostE mg E G H n r Q):=⟨fun h=>h,fun _ h=>h⟩
theorem errT{G H:Hp}{Q:Bool->Hp->Prop}:Err mg E G H (fun r=>PostT mg E G H r Q):=⟨fun h=>h,fun _ h=>h⟩
theorem errA{G H:Hp}{Q:List V->Hp->Prop}:Err mg E G H (fun r=>zYW mg E G H n r Q):=⟨fun h=>h,fun _ h=>h⟩
theorem DE.step{β:Type}{t:TE}{m:EM}(D:DE mg E t m n){G H:Hp}{σ:St}{ρ:Rh}{Q:VK}{P:R β->Prop}{f:Dt->R β}(hE:Err mg E G H P)(s:Same G H)(w:View G σ ρ)(p:P (zA3 (m ρ) f))
  (h:∀d v G' H' S,m ρ=okR d->Fr G H G' H' S->Own G' H' n S d v->P (f d)->Q v H'):t σ H Q:=by
 refine D G H σ ρ Q s w ?_;cases e:m ρ with
 |none=>rw[e]at p;exact hE.no p
 |some r=>
  rw[e]at p;cases r with
  |error x=>exact hE.er x p
  |ok d=>exact fun v G' H' S fr o=>h d v G' H' S e fr o p
theorem DT.step{β:Type}{t:TT}{m:TM}(D:DT mg E t m){G H:Hp}{σ:St}{ρ:Rh}{Q:Bool->Hp->Prop}{P:R β->Prop}{f:Bool->R β}(hE:Err mg E G H P)(s:Same G H)(w:View G σ ρ)(p:P (zA3 (m ρ) f))
  (h:∀b H',m ρ=okR b->Same H H'->P (f b)->Q b H'):t σ H Q:=by
 refine D G H σ ρ Q s w ?_;cases e:m ρ with
 |none=>rw[e]at p;exact hE.no p
 |some r=>
  rw[e]at p;cases r with
  |error x=>exact hE.er x p
  |ok b=>exact fun H' sH=>h b H' e sH p
theorem DA.step{β:Type}{t:TA}{m:AM}(D:DA mg E t m n){G H:Hp}{σ:St}{ρ:Rh}{Q:List V->Hp->Prop}{P:R β->Prop}{f:List Dt->R β}(hE:Err mg E G H P)(s:Same G H)(w:View G σ ρ)(p:P (zA3 (m ρ) f))
  (h:∀ds vs G' H' S T,m ρ=okR ds->Fr G H G' H' S->OwnA G' H' n S ds vs T->P (f ds)->Q vs H'):t σ H Q:=by
 refine D G H σ ρ Q s w ?_;cases e:m ρ with
 |none=>rw[e]at p;exact hE.no p
 |some r=>
  rw[e]at p;cases r with
  |error x=>exact hE.er x p
  |ok ds=>exact fun vs G' H' S T fr o=>h ds vs G' H' S T e fr o p
theorem PostE.from{G H G' H':Hp}{Q:VK}{r:R Dt}(p:PostE mg E G H n r Q)(x:Ext G H G' H'):PostE mg E G' H' n r Q:=by
 cases r with
 |none=>exact p
 |some r=>
  cases r with
  |error y=>exact fun c da G2 H2 z w=>p c da G2 H2 (x.trans z) w
  |ok d=>
   exact fun v G2 H2 S fr o=>p v G2 H2 S ⟨x.trans fr.ext,fun a ha=>⟨x.h.free (fr.new a ha).1,(fr.new a ha).2⟩⟩ o
theorem PostT.from{G H G' H':Hp}{Q:Bool->Hp->Prop}{r:R Bool}(p:PostT mg E G H r Q)(x:Ext G H G' H'):PostT mg E G' H' r Q:=by
 cases r with
 |none=>exact p
 |some r=>
  cases r with
  |error y=>exact fun c da G2 H2 z w=>p c da G2 H2 (x.trans z) w
  |ok d=>exact fun H2 s=>p H2 (x.h.trans s)
theorem Fr.from{G H G1 H1 G2 H2:Hp}{S:Addr->Prop}(x:Ext G H G1 H1)(f:Fr G1 H1 G2 H2 S):Fr G H G2 H2 S:=⟨x.trans f.ext,fun a ha=>⟨x.h.free (f.new a ha).1,(f.new a ha).2⟩⟩
theorem PostE.val{G H G' H':Hp}{d:Dt}{v:V}{Q:VK}(p:PostE mg E G H n (okR d) Q)(x:Ext G H G' H')(hd:d.dep=0)(h:Rep G' d v):Q v H':=
 p v G' H' (fun _=>False) ⟨x,fun _ z=>z.elim⟩ (zTS h hd)
theorem PostE.kept{G H G' H':Hp}{d:Dt}{v:V}{Q:VK}(p:PostE mg E G H 0 (okR d) Q)(x:Ext G H G' H')(h:Rep G' d v):Q v H':=
 p v G' H' (fun _=>False) ⟨x,fun _ z=>z.elim⟩ h
theorem zAW{t:TE}{m:EM}{n:Nat}(D:DE mg E t m n):DE mg E t m 0:=by
 intro G H σ ρ Q s w p;refine D G H σ ρ Q s w ?_;cases e:m ρ with
 |none=>rw[e]at p;exact p
 |some r=>
  rw[e]at p;cases r with
  |error x=>exact p
  |ok d=>
   intro v G' H' S fr o;obtain⟨x,r⟩:=fr.frz o;exact PostE.kept p x r
end
end L3
namespace L3
open PySem PySem.Spec
open L2 hiding Rep RepL
open Mi (Dt Xn R okR zA3 optR zA0 zAB zAH zAE zAG Rh Sl Ro EM TM AM FM IM SM Tg Out zB5 zAT zBB full frz frz1 frzAt)
section
variable[Kc]{mg:Str->Option Value}{E:XK}{n k l:Nat}{ta tb tc:TE}{ma mb mc:EM}
theorem zA9{i:Int}:DE mg E (tC (.int i)) (Mi.eC (.int i)) n:=fun G H σ ρ Q s w p=>PostE.val p (Ext.refl s) rfl rfl
theorem zW3{b:Bool}:DE mg E (tC (.bl b)) (Mi.eC (.bl b)) n:=fun G H σ ρ Q s w p=>PostE.val p (Ext.refl s) rfl rfl
theorem zU5:DE mg E (tC .non) (Mi.eC .non) n:=fun G H σ ρ Q s w p=>PostE.val p (Ext.refl s) rfl rfl
theorem zU4{x:Str}:DE mg E (tC (.str x)) (Mi.eC (.str x)) n:=fun G H σ ρ Q s w p=>PostE.val p (Ext.refl s) rfl rfl
theorem de_v(i:Nat):DE mg E (vM i) (Mi.eV i) 0:=by
 intro G H σ ρ Q s w p;unfold Mi.eV at p;cases e:ρ[i]? with
 |none=>rw[e]at p;exact p.elim
 |some o=>
  rw[e]at p;cases o with
  |none=>exact p.elim
  |some d=>
   obtain⟨v,h1,h2⟩:=w.at i d e;unfold vM;rw[h1];exact PostE.kept p (Ext.refl s) h2
def ROp(r:R2)(f:Dt->Dt->Option Dt)(n:Nat):Prop:=∀(mg:Str->Option Value)(E:XK)(G H:Hp)(d e:Dt)(x y:V)(Q:VK),Same G H->Rep G d x->Rep G e y->PostE mg E G H n (optR (f d e)) Q->r x y H Q
theorem zA7{r:R2}{f:Dt->Dt->Option Dt}(hr:ROp r f n)(A:DE mg E ta ma k)(B:DE mg E tb mb l):DE mg E (tOp r ta tb) (Mi.eB f ma mb) n:=by
 intro G H σ ρ Q s w p;refine(zAW A).step errE s w p fun d v G1 H1 S _ fr o p1=>?_
 refine(zAW B).step (errE.from fr.ext) fr.ext.in' (w.mono fr.ext.g) p1 fun e u G2 H2 S2 _ fr2 o2 p2=>?_
 exact hr mg E G2 H2 d e v u Q fr2.ext.in' (Rep.mono fr2.ext.g o) o2 (PostE.from p2 (fr.ext.trans fr2.ext))
theorem zHG(A:DE mg E ta ma k)(B:DE mg E tb mb n):DE mg E (fun σ H Q=>ta σ H fun x H1=>match x with | .bl c=>if c=true then tb σ H1 Q else Q (.bl false) H1|_=>False) (Mi.eAnd ma mb) n:=by
 intro G H σ ρ Q s w p;refine(zAW A).step errE s w p fun d v G1 H1 S _ fr o p1=>?_
 cases d with
 |bl b=>
  cases(show v=.bl b from o)
  cases b with
  |true=>exact B G1 H1 σ ρ Q fr.ext.in' (w.mono fr.ext.g) (PostE.from p1 fr.ext)
  |false=>exact PostE.val (PostE.from p1 fr.ext) (Ext.refl fr.ext.in') rfl rfl
 |_=>exact p1.elim
theorem zYO(A:DE mg E ta ma k):DE mg E (fun σ H Q=>ta σ H fun x H1=>match x with | .bl c=>Q (.bl (!c)) H1|_=>False) (Mi.eNot ma) n:=by
 intro G H σ ρ Q s w p;refine(zAW A).step errE s w p fun d v G1 H1 S _ fr o p1=>?_
 cases d with
 |bl b=>
  cases(show v=.bl b from o)
  exact PostE.val (PostE.from p1 fr.ext) (Ext.refl fr.ext.in') rfl rfl
 |_=>exact p1.elim
theorem zT3{α β:Type}(o:Option α)(f:α->R β):zA3 (optR o) f=match o with|none=>none|some a=>f a:=by cases o<;>rfl
theorem zSO{r r':R2}{f g:Dt->Dt->Option Dt}(hr:ROp r f 0)(hr':ROp r' g n)(A:DE mg E ta ma k)(B:DE mg E tb mb l){j:Nat}(C:DE mg E tc mc j) :
  DE mg E (fun σ H Q=>ta σ H fun x H1=>tb σ H1 fun y H2=>r x y H2 fun z H3=>match z with
   |.bl k=>if k=true then tc σ H3 fun w' H4=>r' y w' H4 Q else Q (.bl false) H3
   |_=>False) (Mi.eChain f g ma mb mc) n:=by
 intro G H σ ρ Q s w p;refine(zAW A).step errE s w p fun d v G1 H1 S _ fr o p1=>?_
 refine(zAW B).step (errE.from fr.ext) fr.ext.in' (w.mono fr.ext.g) p1 fun e u G2 H2 S2 _ fr2 o2 p2=>?_
 refine hr mg E G2 H2 d e v u _ fr2.ext.in' (Rep.mono fr2.ext.g o) o2 ?_;have p3:=PostE.from p2 (fr.ext.trans fr2.ext);rw[zT3]at p3;cases ez:f d e with
 |none=>rw[ez]at p3;exact p3
 |some z=>
  rw[ez]at p3;intro v3 G3 H3 S3 fr3 o3;obtain⟨x3,r3⟩:=fr3.frz o3;cases z with
  |bl b=>
   cases(show v3=.bl b from r3)
   cases b with
   |false=>exact PostE.val p3 x3 rfl rfl
   |true=>
    refine(zAW C).step (errE.from x3) x3.in' ((w.mono (fr.ext.g.trans fr2.ext.g)).mono x3.g) p3 fun c u4 G4 H4 S4 _ fr4 o4 p4=>?_
    exact hr' mg E G4 H4 e c u u4 Q fr4.ext.in' (Rep.mono (x3.g.trans fr4.ext.g) o2) o4 (PostE.from p4 (x3.trans fr4.ext))
  |_=>exact p3.elim
theorem zKO{tA:TT}{c:TM}(C:DT mg E tA c)(A:DE mg E ta ma n)(B:DE mg E tb mb n):DE mg E (tIf tA ta tb) (Mi.eIf c ma mb) n:=by
 intro G H σ ρ Q s w p;refine C.step errE s w p fun b H' _ sH p1=>?_
 have p2:=PostE.from p1 (Ext.same s sH);cases b with
 |true=>exact A G H' σ ρ Q (s.trans sH) w p2
 |false=>exact B G H' σ ρ Q (s.trans sH) w p2
theorem dt_b(A:DE mg E ta ma k):DT mg E (fun σ H Q=>ta σ H fun z H3=>match z with | .bl k=>Q k H3|_=>False) (Mi.tB ma):=by
 intro G H σ ρ Q s w p;refine(zAW A).step errT s w p fun d v G1 H1 S _ fr o p1=>?_
 cases d with
 |bl b=>
  cases(show v=.bl b from o)
  exact p1 H1 fr.ext.h
 |_=>exact p1.elim
theorem dt_m(A:DE mg E ta ma k):DT mg E (bM ta) (Mi.tM ma):=by
 intro G H σ ρ Q s w p;refine(zAW A).step errT s w p fun d v G1 H1 S _ fr o p1=>?_
 cases d with
 |bl b=>cases(show v=.bl b from o);exact p1 H1 fr.ext.h
 |int b=>cases(show v=.int b from o);exact p1 H1 fr.ext.h
 |non=>cases(show v=.non from o);exact p1 H1 fr.ext.h
 |_=>exact p1.elim
variable{tA tB:TT}{cA cB:TM}
theorem zKM(A:DT mg E tA cA)(B:DT mg E tB cB):DT mg E (L2.tAnd tA tB) (Mi.tAn cA cB):=by
 intro G H σ ρ Q s w p;refine A.step errT s w p fun b H' _ sH p1=>?_
 cases b with
 |true=>exact B G H' σ ρ Q (s.trans sH) w (PostT.from p1 (Ext.same s sH))
 |false=>exact p1 H' sH
theorem zZY(A:DT mg E tA cA)(B:DT mg E tB cB):DT mg E (L2.tOr tA tB) (Mi.tOr cA cB):=by
 intro G H σ ρ Q s w p;refine A.step errT s w p fun b H' _ sH p1=>?_
 cases b with
 |false=>exact B G H' σ ρ Q (s.trans sH) w (PostT.from p1 (Ext.same s sH))
 |true=>exact p1 H' sH
theorem zQ7(A:DT mg E tA cA):DT mg E (L2.tNot tA) (Mi.tNo cA):=by
 intro G H σ ρ Q s w p;exact A.step errT s w p fun b H' _ sH p1=>p1 H' sH
theorem zBK:DT mg E L2.tYes Mi.tYes:=fun G H σ ρ Q s w p=>p H (Same.refl _)
variable{t:TA}{m:AM}
theorem zA6:DA mg E tNil Mi.aNil n:=fun G H σ ρ Q s w p=>p [] G H (fun _=>False) (fun _ _=>False) ⟨Ext.refl s,fun _ z=>z.elim⟩ ⟨rfl,fun q d x h=>by simp at h,fun _ _ _ z=>z.elim,fun _ _ z=>z.elim⟩
theorem zA2(A:DE mg E ta ma n)(B:DA mg E t m n):DA mg E (zGR ta t) (Mi.aCons ma m) n:=by
 intro G H σ ρ Q s w p;refine A.step errA s w p fun d v G1 H1 S1 _ fr o p1=>?_
 refine B.step (errA.from fr.ext) fr.ext.in' (w.mono fr.ext.g) p1 fun ds vs G2 H2 S2 T2 _ fr2 o2 p2=>?_
 refine p2 (v::vs) G2 H2 (fun a=>S1 a\/S2 a) (fun q=>match q with|0=>S1|q+1=>T2 q) ⟨fr.ext.trans fr2.ext,fun a ha=>?_⟩ ⟨by simp[o2.len],fun q d' x h1 h2=>?_,fun q r b h1 h2=>?_,fun q b h=>?_⟩
 ·rcases ha with ha|ha
  ·obtain⟨n1,n2,n3⟩:=fr.new a ha;exact⟨n1,(fr2.ext.old a n3).trans n2,fr2.ext.h.some n3⟩
  ·obtain⟨n1,n2,n3⟩:=fr2.new a ha;exact⟨fr.ext.h.free n1,n2,n3⟩
 ·cases q with
  |zero=>simp at h1 h2;subst h1;subst h2;exact o.mono fr2.ext.g fr2.ext.h
  |succ q=>exact o2.own q d' x (by simpa using h1) (by simpa using h2)
 ·have ap:∀r b,S1 b->T2 r b->False:=fun r b h1 h2=>(fr.new b h1).2.2 (fr2.new b (o2.sub r b h2)).1
  cases q with
  |zero=>
   cases r with
   |zero=>rfl
   |succ r=>exact(ap r b h1 h2).elim
  |succ q=>
   cases r with
   |zero=>exact(ap q b h2 h1).elim
   |succ r=>rw[o2.dis q r b h1 h2]
 ·cases q with
  |zero=>exact .inl h
  |succ q=>exact .inr (o2.sub q b h)
theorem OwnA.repL{G H:Hp}{S:Addr->Prop}{ds:List Dt}{vs:List V}{T:Nat->Addr->Prop}(o:OwnA G H 0 S ds vs T):RepL G ds vs:=zEZ o.len fun q d x h1 h2=>o.own q d x h1 h2
theorem big'{n:Nat}(h:n<=100000):n<=sizeLine:=qBn (L2.big h)
theorem Fr.add{G H G' H':Hp}{S:Addr->Prop}(f:Fr G H G' H' S){p:Addr}(hp:H' p=none)(o:HO):Fr G H G' (upd H' p o) (fun a=>a=p\/S a):=by
 have sn:=L2.same_new hp o;refine⟨⟨f.ext.g,f.ext.h.trans sn,f.ext.in'.trans sn,f.ext.old⟩,fun a ha=>?_⟩
 rcases ha with rfl|ha
 ·exact⟨f.ext.h.free hp,f.ext.in'.free hp,by rw[zAJ];simp⟩
 ·obtain⟨n1,n2,n3⟩:=f.new a ha;exact⟨n1,n2,sn.some n3⟩
theorem OwnA.kids{G' H':Hp}{S:Addr->Prop}{ds:List Dt}{vs:List V}{T:Nat->Addr->Prop}(o:OwnA G' H' n S ds vs T)(hn:∀a,S a->H' a≠none){p:Addr}(hp:H' p=none)(ob:HO) :
  Kids (Own G' (upd H' p ob) n) (fun a=>a=p\/S a) p ds vs T:=
 ⟨o.len,fun q d x h1 h2=>(o.own q d x h1 h2).mono (Same.refl _) (L2.same_new hp ob),.inl rfl,fun q z=>hn p (o.sub q p z) hp,o.dis,fun q b z=>.inr (o.sub q b z)⟩
theorem zG3(A:DA mg E t m n):DE mg E (tLst t) (Mi.eLst m) (n+1):=by
 intro G H σ ρ Q s w p;refine A.step errE s w p fun ds vs G1 H1 S T _ fr o p1=>?_
 by_cases hz:ds.length<=100000
 ·rw[if_pos hz]at p1;refine⟨by rw[o.len];exact big' hz,fun a ha=>?_⟩;exact p1 (.ref a) G1 _ _ (fr.add ha _) ⟨a,vs,T,rfl,zAJ,o.kids (fun b hb=>(fr.new b hb).2.2) ha _⟩
 ·rw[if_neg hz]at p1;exact p1.elim
theorem zQF(A:DA mg E t m n):DE mg E (tTup t) (Mi.eTup m) (n+1):=by
 intro G H σ ρ Q s w p;refine A.step errE s w p fun ds vs G1 H1 S T _ fr o p1=>?_
 by_cases hz:ds.length<=100000
 ·rw[if_pos hz]at p1;refine⟨by rw[o.len];exact big' hz,fun a ha=>?_⟩;exact p1 (.ref a) G1 _ _ (fr.add ha _) ⟨a,vs,T,rfl,zAJ,o.kids (fun b hb=>(fr.new b hb).2.2) ha _⟩
 ·rw[if_neg hz]at p1;exact p1.elim
theorem PostE.lst{G H G' H':Hp}{ds:List Dt}{xs:List V}{Q:VK}(p:PostE mg E G H 1 (okR (.lst ds)) Q)(x:Ext G H G' H')(r:RepL G' ds xs){a:Addr}(ha:H' a=none):Q (.ref a) (upd H' a (.lst xs)):=by
 have fr:Fr G H G' H' (fun _=>False):=⟨x,fun _ z=>z.elim⟩
 refine p (.ref a) G' _ _ (fr.add ha (.lst xs)) ⟨a,xs,fun _ _=>False,rfl,zAJ,⟨r.length,fun q d y h1 h2=>zCD r h1 h2,.inl rfl,fun _ z=>z,fun _ _ _ z=>z.elim,fun _ _ z=>z.elim⟩⟩
def CBi(r:List V->Hp->VK->Prop)(f:List Dt->Option Dt)(n:Nat):Prop:=∀(mg:Str->Option Value)(E:XK)(G H:Hp)(ds:List Dt)(vs:List V)(Q:VK),Same G H->RepL G ds vs->PostE mg E G H n (optR (f ds)) Q->r vs H Q
theorem zBS{r:List V->Hp->VK->Prop}{f:List Dt->Option Dt}(hr:CBi r f n)(A:DA mg E t m 0):DE mg E (tCB r t) (Mi.eBi f m) n:=by
 intro G H σ ρ Q s w p;refine A.step errE s w p fun ds vs G1 H1 S T _ fr o p1=>?_
 exact hr mg E G1 H1 ds vs Q fr.ext.in' o.repL (PostE.from p1 fr.ext)
def spM(mg:Str->Option Value)(L:Nat)(f:FM):Sp:=fun vs H Q E=>∃G ds,Same (tabK Kc.K) G/\Same G H/\RepL G ds vs/\PostE mg E G H L (f ds) Q
theorem zAR{f:FM}(A:DA mg E t m 0):DE mg E (zLC (spM mg n f) [] E t) (Mi.eCall f m) n:=by
 intro G H σ ρ Q s w p;refine A.step errE s w p fun ds vs G1 H1 S T _ fr o p1=>?_
 exact⟨G1,ds,w.tab.trans fr.ext.g,fr.ext.in',by rw[qBu];exact o.repL,PostE.from p1 fr.ext⟩
theorem zRN{G H:Hp}{o:Option Dt}{Q:VK}{d:Dt}{v:V}(s:Same G H)(p:PostE mg E G H n (optR o) Q)(e:o=some d)(hd:d.dep=0)(h:Rep G d v):Q v H:=by
 subst e;exact PostE.val p (Ext.refl s) hd h
theorem zC2:ROp zXA Mi.addD 1:=by
 intro mg E G H d e x y Q s h1 h2 p;cases d with
 |int i=>
  cases e with
  |int j=>cases(show x=.int i from h1);cases(show y=.int j from h2);exact zRN s p rfl rfl rfl
  |_=>exact p.elim
 |str i=>
  cases e with
  |str j=>
   cases(show x=.str i from h1);cases(show y=.str j from h2)
   rw[Mi.addD]at p
   by_cases hz:i.length+j.length<=100000
   ·rw[if_pos hz]at p;exact⟨big' hz,PostE.val p (Ext.refl s) rfl rfl⟩
   ·rw[if_neg hz]at p;exact p.elim
  |_=>exact p.elim
 |lst ds=>
  cases e with
  |lst es=>
   obtain⟨a,xs,rfl,ha,ra⟩:=h1;obtain⟨b,ys,rfl,hb,rb⟩:=h2;rw[Mi.addD]at p
   by_cases hz:ds.length+es.length<=100000
   ·rw[if_pos hz]at p;refine⟨xs,ys,s _ _ ha,s _ _ hb,by rw[ra.length,rb.length];exact big' hz,fun q hq=>?_⟩;refine PostE.lst p (Ext.refl s) (zEZ (by simp[ra.length,rb.length]) fun j d' x' e1 e2=>?_) hq
    by_cases hj:j<ds.length
    ·rw[qAc hj]at e1;rw[qAc (by rw[ra.length];exact hj)]at e2;exact zCD ra e1 e2
    ·rw[qAd (by lia)]at e1;rw[qAd (by rw[ra.length];lia),ra.length]at e2;exact zCD rb e1 e2
   ·rw[if_neg hz]at p;exact p.elim
  |_=>exact p.elim
 |_=>exact p.elim
theorem zI3:ROp zX3 Mi.subD n:=by
 intro mg E G H d e x y Q s h1 h2 p;cases d with
 |int i=>
  cases e with
  |int j=>cases(show x=.int i from h1);cases(show y=.int j from h2);exact zRN s p rfl rfl rfl
  |_=>exact p.elim
 |_=>exact p.elim
theorem zFY:ROp zX5 Mi.mulD n:=by
 intro mg E G H d e x y Q s h1 h2 p;cases d with
 |int i=>
  cases e with
  |int j=>
   cases(show x=.int i from h1);cases(show y=.int j from h2)
   rw[Mi.mulD]at p
   split at p
   ·rename_i hz;exact⟨hz,PostE.val p (Ext.refl s) rfl rfl⟩
   ·exact p.elim
  |_=>exact p.elim
 |_=>exact p.elim
theorem zE6:ROp zX8 Mi.divD n:=by
 intro mg E G H d e x y Q s h1 h2 p;cases d with
 |int i=>
  cases e with
  |int j=>
   cases(show x=.int i from h1);cases(show y=.int j from h2)
   rw[Mi.divD]at p
   split at p
   ·rename_i hz;exact⟨hz,PostE.val p (Ext.refl s) rfl rfl⟩
   ·exact p.elim
  |_=>exact p.elim
 |_=>exact p.elim
theorem zBT:ROp zX6 Mi.modD n:=by
 intro mg E G H d e x y Q s h1 h2 p;cases d with
 |int i=>
  cases e with
  |int j=>
   cases(show x=.int i from h1);cases(show y=.int j from h2)
   rw[Mi.modD]at p
   split at p
   ·rename_i hz;exact⟨hz,PostE.val p (Ext.refl s) rfl rfl⟩
   ·exact p.elim
  |_=>exact p.elim
 |_=>exact p.elim
theorem zTG:ROp zX4 Mi.powD n:=by
 intro mg E G H d e x y Q s h1 h2 p;cases d with
 |int i=>
  cases e with
  |int j=>
   cases(show x=.int i from h1);cases(show y=.int j from h2)
   rw[Mi.powD]at p
   split at p
   ·rename_i hz;exact⟨hz,PostE.val p (Ext.refl s) rfl rfl⟩
   ·exact p.elim
  |_=>exact p.elim
 |_=>exact p.elim
theorem zE1{q:Int->Int->Bool}:ROp (zRO q) (Mi.cmpD q) n:=by
 intro mg E G H d e x y Q s h1 h2 p;cases d with
 |int i=>
  cases e with
  |int j=>cases(show x=.int i from h1);cases(show y=.int j from h2);exact zRN s p rfl rfl rfl
  |_=>exact p.elim
 |_=>exact p.elim
theorem zTZ{G H:Hp}{d e:Dt}{x y:V}{Q:VK}{ng:Bool}(s:Same G H)(h1:Rep G d x)(h2:Rep G e y)(hd:d.dep<=40)(he:e.dep<=40)(q:Q (.bl (if ng then !Dt.eq d e else Dt.eq d e)) H) :
  ∃d' e',L2.Rep H d' x/\L2.Rep H e' y/\d'.dep<=40/\Q (.bl (if ng then !L2.Dat.eq d' e' else L2.Dat.eq d' e')) H:=
 ⟨conv d,conv e,zEM hd (Rep.mono s h1),zEM he (Rep.mono s h2),qAj (zFI hd) hd,by rw[zM4 hd he];exact q⟩
theorem zFU{α:Type}[DecidableEq α](a b:α):(a==b)=decide (a=b):=by
 by_cases h:a=b
 ·subst h;simp
 ·simp[h]
theorem zIS{G:Hp}{d:Dt}{i:Int}(h:Rep G d (.int i)):d=.int i:=by
 cases d with
 |int k=>cases h;rfl
 |non=>cases h
 |bl _=>cases h
 |str _=>cases h
 |lst _=>obtain⟨_,_,z,_⟩:=h;cases z
 |tup _=>obtain⟨_,_,z,_⟩:=h;cases z
 |scr _=>obtain⟨_,z,_⟩:=h;cases z
 |exc _ _ _=>obtain⟨_,_,_,z,_⟩:=h;cases z
 |fn _ _=>obtain⟨_,z,_⟩:=h;cases z
 |ins _ _=>obtain⟨_,_,_,z,_⟩:=h;cases z
 |dct _=>obtain⟨_,z,_⟩:=h;cases z
theorem zIR{G:Hp}{d:Dt}{i:Str}(h:Rep G d (.str i)):d=.str i:=by
 cases d with
 |str k=>cases h;rfl
 |non=>cases h
 |bl _=>cases h
 |int _=>cases h
 |lst _=>obtain⟨_,_,z,_⟩:=h;cases z
 |tup _=>obtain⟨_,_,z,_⟩:=h;cases z
 |scr _=>obtain⟨_,z,_⟩:=h;cases z
 |exc _ _ _=>obtain⟨_,_,_,z,_⟩:=h;cases z
 |fn _ _=>obtain⟨_,z,_⟩:=h;cases z
 |ins _ _=>obtain⟨_,_,_,z,_⟩:=h;cases z
 |dct _=>obtain⟨_,z,_⟩:=h;cases z
theorem zMK{G:Hp}{d:Dt}{i:Bool}(h:Rep G d (.bl i)):d=.bl i:=by
 cases d with
 |bl k=>cases h;rfl
 |non=>cases h
 |str _=>cases h
 |int _=>cases h
 |lst _=>obtain⟨_,_,z,_⟩:=h;cases z
 |tup _=>obtain⟨_,_,z,_⟩:=h;cases z
 |scr _=>obtain⟨_,z,_⟩:=h;cases z
 |exc _ _ _=>obtain⟨_,_,_,z,_⟩:=h;cases z
 |fn _ _=>obtain⟨_,z,_⟩:=h;cases z
 |ins _ _=>obtain⟨_,_,_,z,_⟩:=h;cases z
 |dct _=>obtain⟨_,z,_⟩:=h;cases z
theorem zCQ:ROp rEqU Mi.eqD n:=by
 intro mg E G H d e x y Q s h1 h2 p;unfold Mi.eqD at p
 split at p
 ·rename_i hz
  have q:Q (.bl (Dt.eq d e)) H:=PostE.val p (Ext.refl s) rfl rfl;have g:=zTZ (ng:=false) (Q:=Q) s h1 h2 hz.1 hz.2 q;unfold rEqU
  split
  ·rw[zIS h1,zIS h2,Dt.eq,zFU]at q;exact q
  ·rw[zIR h1,zIR h2,Dt.eq,zFU]at q;exact q
  ·rw[zMK h1,zMK h2,Dt.eq,zFU]at q;exact q
  ·exact g
 ·exact p.elim
theorem zUS:ROp rNeU Mi.neD n:=by
 intro mg E G H d e x y Q s h1 h2 p;unfold Mi.neD at p
 split at p
 ·rename_i hz
  have q:Q (.bl (!Dt.eq d e)) H:=PostE.val p (Ext.refl s) rfl rfl;have g:=zTZ (ng:=true) (Q:=Q) s h1 h2 hz.1 hz.2 q;unfold rNeU
  split
  ·rw[zIS h1,zIS h2,Dt.eq,zFU]at q;exact q
  ·rw[zIR h1,zIR h2,Dt.eq,zFU]at q;exact q
  ·rw[zMK h1,zMK h2,Dt.eq,zFU]at q;exact q
  ·exact g
 ·exact p.elim
theorem zSA{G:Hp}{d:Dt}{x:V}(h:Rep G d x):decide (x=.non)=Mi.isNonD d:=by
 cases d with
 |non=>cases h;rfl
 |bl _=>cases h;rfl
 |int _=>cases h;rfl
 |str _=>cases h;rfl
 |lst _=>obtain⟨_,_,rfl,_⟩:=h;rfl
 |tup _=>obtain⟨_,_,rfl,_⟩:=h;rfl
 |scr _=>obtain⟨_,rfl,_⟩:=h;rfl
 |exc _ _ _=>obtain⟨_,_,_,rfl,_⟩:=h;rfl
 |fn _ _=>obtain⟨_,rfl,_⟩:=h;rfl
 |ins _ _=>obtain⟨_,_,_,rfl,_⟩:=h;rfl
 |dct _=>obtain⟨_,rfl,_⟩:=h;rfl
theorem zUT:ROp (fun x y H Q=>y=.non/\Q (.bl (!decide (x=.non))) H) Mi.isntD n:=by
 intro mg E G H d e x y Q s h1 h2 p;cases e with
 |non=>exact⟨h2,by rw[zSA h1];exact PostE.val p (Ext.refl s) rfl rfl⟩
 |_=>exact p.elim
theorem zIA(n:Nat)(i:Int):Mi.ixA n i=ixN n i:=rfl
theorem zPV{α:Type}(xs:List α)(i:Int):Mi.itA xs i=atI xs i:=rfl
theorem zUA{G:Hp}{ds:List Dt}{xs:List V}{i:Int}{d:Dt}(r:RepL G ds xs)(h:Mi.itA ds i=some d):∃x,atI xs i=some x/\Rep G d x:=by
 rw[zPV]at h;unfold atI at h ⊢;rw[r.length];cases e:ixN ds.length i with
 |none=>rw[e]at h;cases h
 |some j=>
  rw[e]at h;have h':ds[j]?=some d:=h;have hj:j<xs.length:=by rw[r.length];exact(qA2.mp h').1
  exact⟨xs[j],by simp[hj],zCD r h' (by simp[hj])⟩
theorem zB2:ROp (rIxU Kc.K) Mi.ixD 0:=by
 intro mg E G H d e x y Q s h1 h2 p;cases e with
 |int i=>
  cases(show y=.int i from h2)
  cases d with
  |lst ds=>
   obtain⟨a,xs,rfl,ha,ra⟩:=h1;cases er:Mi.itA ds i with
   |none=>rw[Mi.ixD,er]at p;exact p.elim
   |some c=>
    rw[Mi.ixD,er]at p;obtain⟨v,e1,r1⟩:=zUA ra er;exact⟨xs,v,.inl (SqL.of (s _ _ ha)),e1,PostE.kept p (Ext.refl s) r1⟩
  |tup ds=>
   obtain⟨a,xs,rfl,ha,ra⟩:=h1;cases er:Mi.itA ds i with
   |none=>rw[Mi.ixD,er]at p;exact p.elim
   |some c=>
    rw[Mi.ixD,er]at p;obtain⟨v,e1,r1⟩:=zUA ra er;exact⟨xs,v,.inr (SqT.of (s _ _ ha)),e1,PostE.kept p (Ext.refl s) r1⟩
  |scr ns=>
   obtain⟨a,rfl,ha⟩:=h1;cases er:Mi.itA ns i with
   |none=>rw[Mi.ixD,er]at p;exact p.elim
   |some c=>
    rw[Mi.ixD,er]at p;refine⟨ns.map V.int,.int c,zF5 s ha,?_,PostE.kept p (Ext.refl s) rfl⟩;rw[zPV]at er;unfold atI at er ⊢;rw[qAi];cases e:ixN ns.length i with
    |none=>rw[e]at er;cases er
    |some j=>
     rw[e]at er;have er':ns[j]?=some c:=er
     show(ns.map V.int)[j]?=some (.int c)
     rw[qAf,er'];rfl
  |str z=>
   cases(show x=.str z from h1)
   rw[Mi.ixD]at p
   by_cases hz:z.length<=100000
   ·rw[if_pos hz]at p;cases er:Mi.itA z.cps.toList i with
    |none=>rw[er]at p;exact p.elim
    |some c=>rw[er]at p;exact⟨c,big' hz,er,PostE.kept p (Ext.refl s) rfl⟩
   ·rw[if_neg hz]at p;exact p.elim
  |_=>exact p.elim
 |_=>cases d<;>exact p.elim
theorem zF0{G:Hp}{d:Dt}{vs:List V}(h:RepL G [d] vs):∃x,vs=[x]/\Rep G d x:=by
 obtain⟨x,q,rfl,a,b⟩:=h
 cases(show q=[] from b)
 exact⟨x,rfl,a⟩
theorem zRL{G:Hp}{d e:Dt}{vs:List V}(h:RepL G [d,e] vs):∃x y,vs=[x,y]/\Rep G d x/\Rep G e y:=by
 obtain⟨x,q,rfl,a,b⟩:=h;obtain⟨y,rfl,c⟩:=zF0 b;exact⟨x,y,rfl,a,c⟩
theorem zBG:CBi (zUU Kc.K) Mi.lenD n:=by
 intro mg E G H ds vs Q s h p;cases ds with
 |nil=>exact p.elim
 |cons a0 r0=>
  cases r0 with
  |cons _ _=>cases a0<;>exact p.elim
  |nil=>
   cases a0 with
   |lst es=>
    obtain⟨x,rfl,a,xs,rfl,ha,ra⟩:=zF0 h;exact⟨xs,.inl (SqL.of (s _ _ ha)),by rw[ra.length];exact PostE.val p (Ext.refl s) rfl rfl⟩
   |tup es=>
    obtain⟨x,rfl,a,xs,rfl,ha,ra⟩:=zF0 h;exact⟨xs,.inr (SqT.of (s _ _ ha)),by rw[ra.length];exact PostE.val p (Ext.refl s) rfl rfl⟩
   |scr ns=>
    obtain⟨x,rfl,a,rfl,ha⟩:=zF0 h;refine⟨ns.map V.int,zF5 s ha,?_⟩;rw[qAi];exact PostE.val p (Ext.refl s) rfl rfl
   |str z=>
    obtain⟨x,rfl,hx⟩:=zF0 h
    cases(show x=.str z from hx)
    rw[Mi.lenD]at p
    by_cases hz:z.length<=100000
    ·rw[if_pos hz]at p;exact⟨big' hz,PostE.val p (Ext.refl s) rfl rfl⟩
    ·rw[if_neg hz]at p;exact p.elim
   |_=>exact p.elim
theorem zCX{G:Hp}:∀(ns:List Int),RepL G (ns.map Dt.int) (ns.map V.int)
 |[]=>rfl
 |_::r=>⟨_,_,rfl,rfl,zCX r⟩
theorem zJG:CBi (zI4 Kc.K) Mi.listD 1:=by
 intro mg E G H ds vs Q s h p;cases ds with
 |nil=>exact p.elim
 |cons a0 r0=>
  cases r0 with
  |cons _ _=>cases a0<;>exact p.elim
  |nil=>
   cases a0 with
   |lst es=>
    obtain⟨x,rfl,a,xs,rfl,ha,ra⟩:=zF0 h;exact .inl ⟨xs,.inl (SqL.of (s _ _ ha)),fun l hl=>PostE.lst p (Ext.refl s) ra hl⟩
   |tup es=>
    obtain⟨x,rfl,a,xs,rfl,ha,ra⟩:=zF0 h;exact .inl ⟨xs,.inr (SqT.of (s _ _ ha)),fun l hl=>PostE.lst p (Ext.refl s) ra hl⟩
   |scr ns=>
    obtain⟨x,rfl,a,rfl,ha⟩:=zF0 h;exact .inl ⟨ns.map V.int,zF5 s ha,fun l hl=>PostE.lst p (Ext.refl s) (zCX ns) hl⟩
   |_=>exact p.elim
theorem zRI{G:Hp}(lo:Int)(k:Nat):RepL G (Mi.nums lo k) (zH3 lo k):=by
 unfold Mi.nums zH3;refine zEZ (by simp) fun q d x h1 h2=>?_
 rw[qAf]at h1 h2;cases e:(qA4 k)[q]? with
 |none=>rw[e]at h1;cases h1
 |some j=>rw[e]at h1 h2;cases h1;cases h2;rfl
theorem zG4{K:qA1}(A:DA mg E t m 0):DE mg E (tCB (zI4 K) (zGR (tCB zP3 t) tNil)) (Mi.eBi Mi.rangeD m) 1:=by
 intro G H σ ρ Q s w p;refine A.step errE s w p fun ds vs G1 H1 S T _ fr o p1=>?_
 have p2:=PostE.from p1 fr.ext;have r:=o.repL;have s1:=fr.ext.in';have fin:∀(lo hi:Int),(-4611686018427387904<=lo/\lo<4611686018427387904/\-4611686018427387904<=hi/\hi<4611686018427387904)->hi-lo<=100000->PostE mg E G1 H1 1 (okR (.lst (Mi.nums lo (hi-lo).toNat))) Q ->
   ∀q,H1 q=none->zI4 K [.ref q] (upd H1 q (.rng lo hi)) Q:=by
  intro lo hi hb hz pp q hq;refine .inr ⟨lo,hi,zAJ,⟨by lia,by lia,by lia,by lia⟩,by lia,fun l hl=>?_⟩;have sn:=L2.same_new hq (.rng lo hi);exact PostE.lst pp (Ext.same s1 sn) (zRI lo _) hl
 cases ds with
 |nil=>exact p2.elim
 |cons a0 r0=>
  cases a0 with
  |int i=>
   cases r0 with
   |nil=>
    obtain⟨x,rfl,hx⟩:=zF0 r
    cases(show x=.int i from hx)
    rw[Mi.rangeD]at p2
    split at p2
    ·rename_i hz
     intro q hq;refine fin 0 i ⟨by decide,by decide,hz.1.1,hz.1.2⟩ (by lia) ?_ q hq;rw[Int.sub_zero];exact p2
    ·exact p2.elim
   |cons b0 r1=>
    cases r1 with
    |cons _ _=>cases b0<;>exact p2.elim
    |nil=>
     cases b0 with
     |int j=>
      obtain⟨x,y,rfl,hx,hy⟩:=zRL r
      cases(show x=.int i from hx)
      cases(show y=.int j from hy)
      rw[Mi.rangeD]at p2
      split at p2
      ·rename_i hz
       exact fun q hq=>fin i j hz.1 hz.2 p2 q hq
      ·exact p2.elim
     |_=>exact p2.elim
  |_=>rcases r0 with _|⟨_,_|_⟩<;>exact p2.elim
theorem zZ5{G H:Hp}{d:Dt}{x:V}(s:Same G H)(h:Rep G d x)(hd:Mi.tyD d≠""):zGQ H x=some (Mi.tyD d):=by
 cases d with
 |non=>cases h;rfl
 |bl _=>cases h;rfl
 |int _=>cases h;rfl
 |str _=>cases h;rfl
 |lst _=>obtain⟨a,xs,rfl,ha,_⟩:=h;unfold zGQ;dsimp only;rw[s _ _ ha];rfl
 |tup _=>obtain⟨a,xs,rfl,ha,_⟩:=h;unfold zGQ;dsimp only;rw[s _ _ ha];rfl
 |scr _=>exact absurd rfl hd
 |exc _ _ _=>exact absurd rfl hd
 |fn _ _=>exact absurd rfl hd
 |ins _ _=>exact absurd rfl hd
 |dct _=>exact absurd rfl hd
theorem zQG{nm:String}(hn:nm∈["int","bool","str","list","tuple","dict"])(A:DE mg E ta ma k):DE mg E (tCB zX7 (zGR ta (zGR (tC (.ty nm)) tNil))) (Mi.eIsi nm ma) n:=by
 intro G H σ ρ Q s w p;refine(zAW A).step errE s w p fun d v G1 H1 S _ fr o p1=>?_
 have p2:=PostE.from p1 fr.ext;unfold Mi.isiD at p2
 split at p2
 ·exact p2.elim
 ·rename_i hd
  exact⟨Mi.tyD d,zZ5 fr.ext.in' o hd,hn,PostE.val p2 (Ext.refl fr.ext.in') rfl rfl⟩
theorem zKV{G:Hp}:∀{ds:List Dt}{bs:List Bool}{xs:List V},Mi.boolsD ds=some bs->RepL G ds xs->xs=bs.map V.bl
 |[],bs,xs,h,r=>by cases h;exact r
 |.bl b::ds,bs,xs,h,r=>by
  obtain⟨x,q,rfl,a,c⟩:=r;rw[Mi.boolsD]at h;cases e:Mi.boolsD ds with
  |none=>rw[e]at h;cases h
  |some cs=>
   rw[e]at h;cases h;rw[zKV e c,show x=.bl b from a];rfl
 |.non::_,_,_,h,_=>by simp[Mi.boolsD]at h
 |.int _::_,_,_,h,_=>by simp[Mi.boolsD]at h
 |.str _::_,_,_,h,_=>by simp[Mi.boolsD]at h
 |.lst _::_,_,_,h,_=>by simp[Mi.boolsD]at h
 |.tup _::_,_,_,h,_=>by simp[Mi.boolsD]at h
 |.scr _::_,_,_,h,_=>by simp[Mi.boolsD]at h
 |.exc _ _ _::_,_,_,h,_=>by simp[Mi.boolsD]at h
 |.fn _ _::_,_,_,h,_=>by simp[Mi.boolsD]at h
 |.ins _ _::_,_,_,h,_=>by simp[Mi.boolsD]at h
 |.dct _::_,_,_,h,_=>by simp[Mi.boolsD]at h
theorem zU8:CBi zX9 Mi.allD n:=by
 intro mg E G H ds vs Q s h p;cases ds with
 |nil=>exact qA6 p
 |cons hd1 tl1=>
  cases hd1 with
  |lst es=>
   cases tl1 with
   |nil=>
    obtain⟨x,rfl,a,xs,rfl,ha,ra⟩:=zF0 h;rw[Mi.allD]at p;cases e:Mi.boolsD es with
    |none=>rw[e]at p;exact p.elim
    |some bs=>
     rw[e]at p;exact⟨bs,by rw[<- zKV e ra];exact s _ _ ha,PostE.val p (Ext.refl s) rfl rfl⟩
   |cons _ _=>exact qA6 p
  |_=>exact qA6 p
end
end L3
namespace L3
open PySem PySem.Spec
open L2 hiding Rep RepL
open Mi (Dt Xn R okR zA3 optR zA0 zAB zAH zAE zAG Rh Sl Ro EM TM AM FM IM SM Tg Out zB5 zAT zBB full frz frz1 frzAt)
variable[Kc]
def ItOk(J:It)(G:Hp)(ds:List Dt):Prop:=∀(i:Nat)(G1 H1:Hp),Same G G1->Same G1 H1->(i<ds.length->J.go i H1)/\(ds.length<=i->J.stop i H1)/\∀x H2 d,ds[i]?=some d->J.yld i H1 x H2->∃G2,Ext G1 H1 G2 H2/\Rep G2 d x
noncomputable def zQR(ind:Bool)(G:Hp):Hp:=if ind=true then(fun _=>none)else G
def zYV(mg:Str->Option Value)(E:XK)(G H:Hp)(ind:Bool)(r:R (List Dt))(Q:It->Hp->Prop):Prop:=match r with
 |none=>False
 |some (.error x)=>∀c da G' H',Ext G H G' H'->XRep mg x c da G' H'->E c da H'
 |some (.ok ds)=>∀J G' H',Ext G H G' H'->ItOk J (zQR ind G') ds->Q J H'
def DI(mg:Str->Option Value)(E:XK)(t:TI)(m:IM)(ind:Bool):Prop:=∀(G H:Hp)(σ:St)(ρ:Rh)(Q:It->Hp->Prop),Same G H->View G σ ρ->zYV mg E G H ind (m ρ) Q->t σ H Q
section
variable{mg:Str->Option Value}{E:XK}{n k l:Nat}{ta te:TE}{ma me:EM}{t:TA}{m:AM}{ind:Bool}
theorem errI{G H:Hp}{Q:It->Hp->Prop}:Err mg E G H (fun r=>zYV mg E G H ind r Q):=⟨fun h=>h,fun _ h=>h⟩
theorem errB{G H:Hp}{α β:Type}{P:R β->Prop}(e:Err mg E G H P)(g:α->R β):Err mg E G H (fun r=>P (zA3 r g)):=⟨fun h=>e.no h,fun x h=>e.er x h⟩
theorem DI.step{β:Type}{t:TI}{m:IM}(D:DI mg E t m ind){G H:Hp}{σ:St}{ρ:Rh}{Q:It->Hp->Prop}{P:R β->Prop}{f:List Dt->R β}(hE:Err mg E G H P)(s:Same G H)(w:View G σ ρ)(p:P (zA3 (m ρ) f))
  (h:∀ds J G' H',m ρ=okR ds->Ext G H G' H'->ItOk J (zQR ind G') ds->P (f ds)->Q J H'):t σ H Q:=by
 refine D G H σ ρ Q s w ?_;cases e:m ρ with
 |none=>rw[e]at p;exact hE.no p
 |some r=>
  rw[e]at p;cases r with
  |error x=>exact hE.er x p
  |ok ds=>exact fun J G' H' x i=>h ds J G' H' e x i p
theorem zTV{K:qA1}{G:Hp}{a:Addr}{xs:List V}{ds:List Dt}(ha:SqL K G a xs)(r:RepL G ds xs):ItOk (Itl K a) G ds:=by
 intro i G1 H1 s1 s2;have hS:SqL K H1 a xs:=(s1.trans s2).seq ha;refine⟨fun hi=>⟨xs,xs[i]'(by rw[r.length];exact hi),hS,by simp⟩,fun hi=>⟨xs,hS,by rw[r.length];exact hi⟩,fun x H2 d hd hy=>?_⟩;obtain⟨rfl,hy⟩:=hy;exact⟨G1,Ext.refl s2,Rep.mono s1 (zCD r hd (hy xs hS))⟩
theorem zTT{K:qA1}{G:Hp}{a:Addr}{xs:List V}{ds:List Dt}(ha:SqT K G a xs)(r:RepL G ds xs):ItOk (Itt K a) G ds:=by
 intro i G1 H1 s1 s2;have hS:SqT K H1 a xs:=zGU (s1.trans s2) ha;refine⟨fun hi=>⟨xs,xs[i]'(by rw[r.length];exact hi),hS,by simp⟩,fun hi=>⟨xs,hS,by rw[r.length];exact hi⟩,fun x H2 d hd hy=>?_⟩;obtain⟨rfl,hy⟩:=hy;exact⟨G1,Ext.refl s2,Rep.mono s1 (zCD r hd (hy xs hS))⟩
theorem zTU{G:Hp}(lo:Int)(k:Nat):ItOk (Itr lo k) G (Mi.nums lo k):=by
 intro i G1 H1 s1 s2;have hl:(Mi.nums lo k).length=k:=by simp[Mi.nums]
 refine⟨fun hi=>by rw[hl]at hi;exact hi,fun hi=>by rw[hl]at hi;exact hi,fun x H2 d hd hy=>?_⟩;obtain⟨rfl,rfl⟩:=hy;refine⟨G1,Ext.refl s2,?_⟩;unfold Mi.nums at hd;rw[qAf]at hd;cases e:(qA4 k)[i]? with
 |none=>rw[e]at hd;cases hd
 |some j=>
  rw[e]at hd;cases hd;have hj:j=i:=by
   obtain⟨h1,h2⟩:=qA2.mp e;rw[qCz]at h2;exact h2.symm
  subst hj;rfl
theorem zCN(A:DA mg E t m 0):DI mg E (zY8 t) (Mi.iR1 m) true:=by
 intro G H σ ρ Q s w p;refine A.step errI s w p fun ds vs G1 H1 S T _ fr o p1=>?_
 have r:=o.repL;cases ds with
 |nil=>exact qA6 p1
 |cons hd1 tl1=>
  cases hd1 with
  |int j=>
   cases tl1 with
   |nil=>
    obtain⟨x,rfl,hx⟩:=zF0 r
    cases(show x=.int j from hx)
    dsimp only at p1
    split at p1
    ·rename_i hz
     exact⟨j,rfl,by lia,by lia,p1 _ G1 H1 fr.ext (zTU 0 _)⟩
    ·exact p1.elim
   |cons _ _=>exact qA6 p1
  |_=>exact qA6 p1
theorem zYK(A:DA mg E t m 0):DI mg E (zY7 t) (Mi.iR2 m) true:=by
 intro G H σ ρ Q s w p;refine A.step errI s w p fun ds vs G1 H1 S T _ fr o p1=>?_
 have r:=o.repL;cases ds with
 |nil=>exact p1.elim
 |cons a0 r0=>
  cases a0 with
  |int i=>
   cases r0 with
   |nil=>exact p1.elim
   |cons b0 r1=>
    cases r1 with
    |cons _ _=>cases b0<;>exact p1.elim
    |nil=>
     cases b0 with
     |int j=>
      obtain⟨x,y,rfl,hx,hy⟩:=zRL r
      cases(show x=.int i from hx)
      cases(show y=.int j from hy)
      dsimp only at p1
      split at p1
      ·rename_i hz
       exact⟨i,j,rfl,⟨by lia,by lia,by lia,by lia⟩,p1 _ G1 H1 fr.ext (zTU i _)⟩
      ·exact p1.elim
     |_=>exact p1.elim
  |_=>rcases r0 with _|⟨_,_|_⟩<;>exact p1.elim
theorem zKK:∀(ds:List Dt)(n:Nat),(Mi.enumD n ds).length=ds.length
 |[],_=>rfl
 |_::r,n=>by rw[Mi.enumD,qAo,qAo,zKK r]
theorem zKL:∀(ds:List Dt)(n i:Nat)(d:Dt),(Mi.enumD n ds)[i]?=some d->∃e,ds[i]?=some e/\d=.tup [.int ((n+i:Nat):Int),e]
 |[],_,_,_,h=>by simp[Mi.enumD]at h
 |x::r,n,0,d,h=>by simp[Mi.enumD]at h;exact⟨x,by simp,by rw[<- h];rfl⟩
 |x::r,n,i+1,d,h=>by
  rw[Mi.enumD]at h;obtain⟨e,h1,h2⟩:=zKL r (n+1) i d (by simpa using h);exact⟨e,by simpa using h1,by rw[h2,show n+1+i=n+(i+1) by lia]⟩
theorem Ext.new{G H:Hp}(s:Same G H){T:Addr}(hT:H T=none)(o:HO):Ext G H (upd G T o) (upd H T o):=by
 refine⟨L2.same_new (s.free hT) o,L2.same_new hT o,fun b u e=>?_,fun b hb=>zAC fun z=>hb (z▸hT)⟩
 by_cases z:b=T
 ·subst z;rw[zAJ]at e ⊢;exact e
 ·rw[zAC z]at e ⊢;exact s _ _ e
theorem zY6{K:qA1}{G:Hp}{a:Addr}{xs:List V}{ds:List Dt}(ha:G a=some (.lst xs))(r:RepL G ds xs):ItOk (Ite K a) G (Mi.enumD 0 ds):=by
 intro i G1 H1 s1 s2;have hS:SqL K H1 a xs:=SqL.of (s2 _ _ (s1 _ _ ha));rw[zKK];refine⟨fun hi=>⟨xs,xs[i]'(by rw[r.length];exact hi),hS,by simp⟩,fun hi=>⟨xs,hS,by rw[r.length];exact hi⟩,fun x H2 d hd hy=>?_⟩;obtain⟨T,y,rfl,hT,rfl,hy⟩:=hy;obtain⟨e,h1,rfl⟩:=zKL ds 0 i d hd;have x1:=Ext.new s2 hT (.tup [.int i,y]);refine⟨_,x1,T,_,rfl,zAJ,_,_,rfl,?_,_,_,rfl,Rep.mono (s1.trans x1.g) (zCD r h1 (hy xs hS)),rfl⟩;show V.int (i:Int)=.int ((0+i:Nat):Int);rw[qC3]
theorem zYL{K:qA1}(A:DA mg E t m 0):DI mg E (zVU K t) (Mi.iEn m) false:=by
 intro G H σ ρ Q s w p;refine A.step errI s w p fun ds vs G1 H1 S T _ fr o p1=>?_
 have r:=o.repL;cases ds with
 |nil=>exact qA6 p1
 |cons hd1 tl1=>
  cases hd1 with
  |lst es=>
   cases tl1 with
   |nil=>
    obtain⟨x,rfl,a,xs,rfl,ha,ra⟩:=zF0 r;exact⟨⟨xs,SqL.of (fr.ext.in' _ _ ha)⟩,p1 _ G1 H1 fr.ext (zY6 ha ra)⟩
   |cons _ _=>exact qA6 p1
  |_=>exact qA6 p1
noncomputable def zGT:St->List (Nat×V)->St
 |σ,[]=>σ
 |σ,(i,v)::r=>zGT (σ.set i (some v)) r
inductive BsRep(G:Hp):List (Nat×Dt)->List (Nat×V)->Prop
 |nil:BsRep G [] []
 |cons {i d v bs ws}:Rep G d v->BsRep G bs ws->BsRep G ((i,d)::bs) ((i,v)::ws)
theorem View.set{G:Hp}{σ:St}{ρ:Rh}{i:Nat}{d:Dt}{v:V}(w:View G σ ρ)(r:Rep G d v):View G (σ.set i (some v)) (ρ.set i (some d)):=by
 refine⟨by simp[w.len],fun j e h=>?_,w.tab⟩;have hj:j<ρ.length:=by
  have:=(qA2.mp h).1
  simpa using this
 by_cases z:i=j
 ·subst z;rw[qA8 hj]at h;cases h;exact⟨v,qA8 (by rw[<- w.len];exact hj),r⟩
 ·rw[qAb z]at h;obtain⟨u,h1,h2⟩:=w.at j e h;exact⟨u,by rw[qAb z];exact h1,h2⟩
theorem View.sets{G:Hp}{bs ws}(h:BsRep G bs ws):∀{σ:St}{ρ:Rh},View G σ ρ->View G (zGT σ ws) (zAT ρ bs):=by
 induction h with
 |nil=>exact fun w=>w
 |cons r _ ih=>exact fun w=>ih (w.set r)
def TgOk(g:TG)(tg:Tg):Prop:=∀(G H:Hp)(σ:St)(d:Dt)(x:V)(bs:List (Nat×Dt))(Q:St->Hp->Prop),Same G H->Rep G d x->zB5 tg d=some bs->(∀ws,BsRep G bs ws->Q (zGT σ ws) H)->g x σ H Q
def zT7(g:TGs)(is:List Nat):Prop:=∀(G H:Hp)(σ:St)(ds:List Dt)(xs:List V)(Q:St->Hp->Prop),RepL G ds xs->ds.length=is.length->(∀ws,BsRep G (is.zip ds) ws->Q (zGT σ ws) H)->g xs σ H Q
theorem zAP(i:Nat):TgOk (zFR i) (.one i):=by
 intro G H σ d x bs Q s r e h;cases e;exact h [(i,x)] (.cons r .nil)
theorem zLA:zT7 gNil []:=by
 intro G H σ ds xs Q r hl h;cases ds with
 |nil=>cases(show xs=[] from r);exact⟨rfl,h [] .nil⟩
 |cons _ _=>simp at hl
theorem zEH(i:Nat){g:TGs}{is:List Nat}(hg:zT7 g is):zT7 (zYA (zFR i) g) (i::is):=by
 intro G H σ ds xs Q r hl h;cases ds with
 |nil=>simp at hl
 |cons d ds=>
  obtain⟨x,q,rfl,a,b⟩:=r;exact⟨x,q,rfl,hg G H _ ds q Q b (by simpa using hl) fun ws hw=>h ((i,x)::ws) (.cons a hw)⟩
theorem zOK{K:qA1}{g:TGs}{is:List Nat}{k:Nat}(hg:zT7 g is)(hk:is.length=k):TgOk (gTup K k g) (.tup is):=by
 intro G H σ d x bs Q s r e h;cases d with
 |tup ds=>
  obtain⟨a,xs,rfl,ha,ra⟩:=r;rw[zB5]at e
  by_cases hz:ds.length=is.length
  ·rw[if_pos hz]at e;cases e;exact⟨a,xs,rfl,SqT.of (s _ _ ha),by rw[ra.length,hz,hk],hg G H σ ds xs Q ra hz h⟩
  ·rw[if_neg hz]at e;cases e
 |_=>simp[zB5]at e
theorem zJV:∀(ws:List (Nat×V))(σ own:St),(∀p∈ws,σ.length<=p.1)->∃own':St,own'.length=own.length/\zGT (σ++own) ws=σ++own'
 |[],σ,own,_=>⟨own,rfl,rfl⟩
 |(i,v)::r,σ,own,h=>by
  have hi:σ.length<=i:=h (i,v) (by simp);rw[zGT,qDv _ _ hi];obtain⟨o,h1,h2⟩:=zJV r σ (own.set (i-σ.length) (some v)) fun p hp=>h p (by simp[hp])
  exact⟨o,by rw[h1,qCt],h2⟩
theorem BsRep.idx{G:Hp}{bs ws}(h:BsRep G bs ws):ws.map (·.1)=bs.map (·.1):=by
 induction h with
 |nil=>rfl
 |cons _ _ ih=>simp[ih]
theorem zQQ{tg:Tg}{d:Dt}{bs:List (Nat×Dt)}(h:zB5 tg d=some bs):∀i∈bs.map (·.1),i∈tg.idx:=by
 cases tg with
 |one i=>cases h;simp[Tg.idx]
 |tup is=>
  cases d with
  |tup ds=>
   rw[zB5]at h
   split at h
   ·cases h;intro i hi;obtain⟨p,hp,e⟩:=qAl.mp hi;rw[<- e];obtain⟨a,b⟩:=p;exact(qC0 hp).1
   ·cases h
  |_=>simp[zB5]at h
theorem zAQ{wi:TI}{g:TG}{tif:TT}{it:IM}{tg:Tg}{c:TM}(I:DI mg E wi it ind)(hT:TgOk g tg)(C:DT mg E tif c)(B:DE mg E te me n):DE mg E (zUK wi k g tif te) (Mi.eComp it k tg c me) (n+1):=by
 intro G H σ ρ Q s w p;refine I.step errE s w p fun ds J G1 H1 _ x1 io p1=>?_
 by_cases hz:ds.length<=100000/\(tg.idx.all fun i=>decide (ρ.length<=i))=true
 case neg=>rw[if_neg hz]at p1;exact p1.elim
 rw[if_pos hz]at p1;obtain⟨hz,hix⟩:=hz;have hb1:Same (zQR ind G1) G1:=by
  unfold zQR
  split
  ·exact fun b o e=>by cases e
  ·exact Same.refl _
 refine⟨fun i m acc H'=>m=ds.length-i/\i<=ds.length/\∃G' as S T,Fr G H G' H' S/\Same G1 G'/\OwnA G' H' n S as acc T/\as.length<=i/\PostE mg E G H (n+1) (zA3 (Mi.compGo ρ k tg c me (ds.drop i) as) fun es=>okR (.lst es)) Q,
  ⟨_,rfl,qAt _,G1,[],fun _=>False,fun _ _=>False,⟨x1,fun _ z=>z.elim⟩,Same.refl _,⟨rfl,fun q d x h=>by simp at h,fun _ _ _ z=>z.elim,fun _ _ z=>z.elim⟩,qA5 _,by rw[qD3];exact p1⟩,?_⟩
 rintro i m acc H' ⟨rfl,hi,G',as,S,T,fr,sg,o,hl,p⟩
 obtain⟨j1,j2,j3⟩:=io i G' H' (hb1.trans sg) fr.ext.in'
 by_cases hlt:i<ds.length
 ·refine .inr ⟨j1 hlt,by rw[o.len];exact L2.big (by lia),fun acc' H''=>ds.length-(i+1)=ds.length-(i+1)/\i+1<=ds.length/\∃G' as S T,Fr G H G' H'' S/\Same G1 G'/\OwnA G' H'' n S as acc' T/\as.length<=i+1/\PostE mg E G H (n+1) (zA3 (Mi.compGo ρ k tg c me (ds.drop (i+1)) as) fun es=>okR (.lst es)) Q,
   fun acc' H'' q=>⟨ds.length-(i+1),by lia,q⟩,fun x H2 hy=>?_⟩
  have hd:ds[i]?=some ds[i]:=qA7 hlt;obtain⟨G2,x2,r2⟩:=j3 x H2 ds[i] hd hy;rw[qBt hlt,Mi.compGo]at p;cases eb:zB5 tg ds[i]with
  |none=>rw[eb]at p;exact p.elim
  |some bs=>
   rw[eb]at p;dsimp only at p;refine hT G2 H2 _ _ x bs _ x2.in' r2 eb fun ws hb=>?_
   have hsl:∀q∈ws,σ.length<=q.1:=fun q hq=>by
    have h1:q.1∈bs.map (·.1):=by rw[<- hb.idx];exact qEe hq
    have h2:=qDk.mp hix q.1 (zQQ eb q.1 h1);rw[<- w.len];exact of_decide_eq_true h2
   obtain⟨own,ho1,ho2⟩:=zJV ws σ (qA9 k none) hsl;refine⟨own,by rw[ho1,qCk],ho2,?_⟩;have x02:=fr.ext.trans x2;have w2:View G2 (zGT (σ++qA9 k none) ws) (zAT (ρ++qA9 k none) bs):=by
    refine View.sets hb ⟨by simp[w.len],fun j d h=>?_,w.tab.trans x02.g⟩
    by_cases hj:j<ρ.length
    ·rw[qAc hj]at h;obtain⟨v,a,b⟩:=w.at j d h;exact⟨v,by rw[qAc (by rw[<- w.len];exact hj)];exact a,Rep.mono x02.g b⟩
    ·rw[qAd (by lia),qB7]at h
     split at h<;>cases h
   refine C.step ((errB errE _).from x02) x2.in' w2 p fun b H3 _ s3 p3=>?_
   have x3:Ext G2 H2 G2 H3:=Ext.same x2.in' s3;have x03:=x02.trans x3;have newS:∀a,S a->H a=none/\G2 a=none/\H3 a≠none:=fun a ha=>by
    obtain⟨n1,n2,n3⟩:=fr.new a ha;exact⟨n1,(x2.old a n3).trans n2,s3.some (x2.h.some n3)⟩
   have own3:OwnA G2 H3 n S as acc T:=⟨o.len,fun q d y h1 h2=>(o.own q d y h1 h2).mono x2.g (x2.h.trans s3),o.dis,o.sub⟩
   cases b with
   |false=>exact⟨rfl,hlt,G2,as,S,T,⟨x03,newS⟩,sg.trans x2.g,own3,by lia,p3⟩
   |true=>
    refine B.step ((errB errE _).from x03) x3.in' w2 p3 fun e v G4 H4 S4 _ fr4 o4 p4=>?_
    have ap:∀q b,T q b->S4 b->False:=fun q b h1 h2=>(newS b (o.sub q b h1)).2.2 (fr4.new b h2).1
    refine⟨rfl,hlt,G4,as++[e],fun a=>S a\/S4 a,fun q b=>(q<as.length/\T q b)\/(q=as.length/\S4 b),⟨x03.trans fr4.ext,fun a ha=>?_⟩,sg.trans (x2.g.trans fr4.ext.g),⟨by simp[o.len],fun q d y h1 h2=>?_,fun q r b h1 h2=>?_,fun q b h=>?_⟩,by simp;lia,p4⟩
    ·rcases ha with ha|ha
     ·obtain⟨n1,n2,n3⟩:=newS a ha;exact⟨n1,(fr4.ext.old a n3).trans n2,fr4.ext.h.some n3⟩
     ·obtain⟨n1,n2,n3⟩:=fr4.new a ha;exact⟨x03.h.free n1,n2,n3⟩
    ·by_cases hq:q<as.length
     ·rw[qAc hq]at h1;rw[qAc (by rw[o.len];exact hq)]at h2;exact((own3.own q d y h1 h2).mono fr4.ext.g fr4.ext.h).sub fun b z=>.inl ⟨hq,z⟩
     ·rw[qAd (by lia)]at h1;rw[qAd (by rw[o.len];lia),o.len]at h2;have hq0:q-as.length=0:=by
       have:=(qA2.mp h1).1
       simp at this;lia
      rw[hq0]at h1 h2;simp at h1 h2;subst h1;subst h2;exact o4.sub fun b z=>.inr ⟨by lia,z⟩
    ·rcases h1 with⟨a1,t1⟩|⟨a1,t1⟩<;>rcases h2 with⟨a2,t2⟩|⟨a2,t2⟩
     ·exact o.dis q r b t1 t2
     ·exact(ap q b t1 t2).elim
     ·exact(ap r b t2 t1).elim
     ·lia
    ·rcases h with⟨_,z⟩|⟨_,z⟩
     ·exact .inl (o.sub q b z)
     ·exact .inr z
 ·have e:i=ds.length:=by lia
  subst e;refine .inl ⟨j2 (qA5 _),fun D hD=>?_⟩;rw[qDm,Mi.compGo]at p;exact p (.ref D) G' _ _ (fr.add hD _) ⟨D,acc,T,rfl,zAJ,o.kids (fun b hb=>(fr.new b hb).2.2) hD _⟩
end
end L3
namespace L3
open PySem PySem.Spec
open L2 hiding Rep RepL
open Mi (Dt Xn R okR zA3 optR zA0 zAB zAH zAE zAG Rh Sl Ro EM TM AM FM IM SM Tg Out zB5 zAT zBB full frz frz1 frzAt)
variable[Kc]
structure Sat(G0 H0 S0:Hp)(σ:St)(ρ:Ro)(G H:Hp)(As:Nat->Addr->Prop):Prop where
 ext:Ext G0 H0 G H
 stb:Same S0 G
 tab:Same (tabK Kc.K) G0
 len:ρ.length=σ.length
 «at»:∀(i:Nat)(d:Dt)(n:Nat),ρ[i]?=some (some (d,n))->∃v,σ[i]?=some (some v)/\Own G H n (As i) d v
 dis:∀i j a,As i a->As j a->i=j
 new:∀i a,As i a->H0 a=none/\G a=none/\H a≠none
section
variable{G0 H0 S0:Hp}{σ:St}{ρ:Ro}{G H:Hp}{As:Nat->Addr->Prop}
theorem Sat.grow(a:Sat G0 H0 S0 σ ρ G H As){H':Hp}(s:Same H H'):Sat G0 H0 S0 σ ρ G H' As:=
 ⟨a.ext.trans (Ext.same a.ext.in' s),a.stb,a.tab,a.len,fun i d n e=>let⟨v,h1,h2⟩:=a.at i d n e;⟨v,h1,h2.mono (Same.refl _) s⟩,a.dis,fun i b h=>let⟨n1,n2,n3⟩:=a.new i b h;⟨n1,n2,s.some n3⟩⟩
theorem Sat.wider(a:Sat G0 H0 S0 σ ρ G H As){G' H':Hp}(x:Ext G H G' H'):Sat G0 H0 S0 σ ρ G' H' As:=
 ⟨a.ext.trans x,a.stb.trans x.g,a.tab,a.len,fun i d n e=>let⟨v,h1,h2⟩:=a.at i d n e;⟨v,h1,h2.mono x.g x.h⟩,a.dis,fun i b h=>let⟨n1,n2,n3⟩:=a.new i b h;⟨n1,(x.old b n3).trans n2,x.h.some n3⟩⟩
theorem Sat.full(a:Sat G0 H0 S0 σ ρ G H As):∃J,Ext G0 H0 J H/\Same G J/\View J σ (full ρ):=by
 obtain⟨s1,s2⟩:=zCY (S:=fun b=>∃i,As i b) a.ext.in';refine⟨over G H fun b=>∃i,As i b,⟨a.ext.g.trans s1,a.ext.h,s2,fun b hb=>?_⟩,s1,by simp[Mi.full,a.len],fun i d e=>?_,a.tab.trans (a.ext.g.trans s1)⟩
 ·have z:¬ ∃i,As i b:=fun⟨i,z⟩=>hb (a.new i b z).1
  rw[zCI z];exact a.ext.old b hb
 ·unfold Mi.full at e;rw[qAf]at e;cases e1:ρ[i]? with
  |none=>rw[e1]at e;cases e
  |some o=>
   rw[e1]at e;cases o with
   |none=>cases e
   |some sl=>
    obtain⟨d',n⟩:=sl;cases e;obtain⟨v,h1,h2⟩:=a.at i _ n e1;exact⟨v,h1,h2.rep s1 fun b o hb e=>by rw[zE7 ⟨i,hb⟩];exact e⟩
theorem Sat.put(a:Sat G0 H0 S0 σ ρ G H As){i n:Nat}{d:Dt}{v:V}{S:Addr->Prop}(o:Own G H n S d v)(hS:∀b,S b->H0 b=none/\G b=none/\H b≠none)(hd:∀j b,j≠i->As j b->S b->False) :
  Sat G0 H0 S0 (σ.set i (some v)) (ρ.set i (some (d,n))) G H (fun j=>if j=i then S else As j):=by
 refine⟨a.ext,a.stb,a.tab,by simp[a.len],fun j e k h=>?_,fun j l b h1 h2=>?_,fun j b h=>?_⟩
 ·have hj:j<ρ.length:=by
   have:=(qA2.mp h).1
   simpa using this
  by_cases z:i=j
  ·subst z;rw[qA8 hj]at h;cases h;exact⟨v,qA8 (by rw[<- a.len];exact hj),by rw[if_pos rfl];exact o⟩
  ·rw[qAb z]at h;obtain⟨u,h1,h2⟩:=a.at j e k h;exact⟨u,by rw[qAb z];exact h1,by rw[if_neg (fun q=>z q.symm)];exact h2⟩
 ·try dsimp only at h1 h2
  by_cases z1:j=i
  ·by_cases z2:l=i
   ·rw[z1,z2]
   ·rw[if_pos z1]at h1;rw[if_neg z2]at h2;exact(hd l b z2 h2 h1).elim
  ·by_cases z2:l=i
   ·rw[if_neg z1]at h1;rw[if_pos z2]at h2;exact(hd j b z1 h1 h2).elim
   ·rw[if_neg z1]at h1;rw[if_neg z2]at h2;exact a.dis j l b h1 h2
 ·try dsimp only at h
  by_cases z1:j=i
  ·rw[if_pos z1]at h;exact hS b h
  ·rw[if_neg z1]at h;exact a.new j b h
theorem Sat.set(a:Sat G0 H0 S0 σ ρ G H As){H':Hp}{i n:Nat}{d:Dt}{v:V}{S:Addr->Prop}(s:Same H H')(o:Own G H' n S d v)(hS:∀b,S b->H b=none/\G b=none/\H' b≠none) :
  Sat G0 H0 S0 (σ.set i (some v)) (ρ.set i (some (d,n))) G H' (fun j=>if j=i then S else As j):=
 (a.grow s).put o (fun b hb=>⟨a.ext.h.free (hS b hb).1,(hS b hb).2⟩) fun j b _ h1 h2=>(a.new j b h1).2.2 (hS b h2).1
theorem Sat.frz1(a:Sat G0 H0 S0 σ ρ G H As)(i:Nat):∃G1 As1,Sat G0 H0 S0 σ (Mi.frz1 i ρ) G1 H As1:=by
 unfold Mi.frz1;cases e1:ρ[i]? with
 |none=>exact⟨G,As,a⟩
 |some o=>
  cases o with
  |none=>exact⟨G,As,a⟩
  |some sl=>
   obtain⟨d,n⟩:=sl;dsimp only;obtain⟨v,h1,h2⟩:=a.at i d n e1;obtain⟨s1,s2⟩:=zCY (S:=As i) a.ext.in';have x:Ext G0 H0 (over G H (As i)) H:=⟨a.ext.g.trans s1,a.ext.h,s2,fun b hb=>by
    have z:¬As i b:=fun z=>hb (a.new i b z).1
    rw[zCI z];exact a.ext.old b hb⟩
   have hv:(σ.set i (some v))=σ:=by
    have hi:i<σ.length:=(qA2.mp h1).1;have he:=(qA2.mp h1).2;rw[<- he,qCl]
   have b:Sat G0 H0 S0 σ (ρ.set i (some (d,0))) (over G H (As i)) H (fun j b=>j≠i/\As j b):=by
    refine⟨x,a.stb.trans s1,a.tab,by simp[a.len],fun j e k h=>?_,fun j l b p q=>a.dis j l b p.2 q.2,fun j b p=>?_⟩
    ·have hj:j<ρ.length:=by
      have:=(qA2.mp h).1
      simpa using this
     by_cases z:i=j
     ·subst z;rw[qA8 hj]at h;cases h;exact⟨v,h1,h2.rep s1 fun b o hb e=>by rw[zE7 hb];exact e⟩
     ·rw[qAb z]at h;obtain⟨u,q1,q2⟩:=a.at j e k h;exact⟨u,q1,(q2.mono s1 (Same.refl _)).sub fun b hb=>⟨fun q=>z q.symm,hb⟩⟩
    ·obtain⟨n1,n2,n3⟩:=a.new j b p.2;have z:¬As i b:=fun z=>p.1 (a.dis j i b p.2 z)
     exact⟨n1,by rw[zCI z];exact n2,n3⟩
   exact⟨_,_,b⟩
theorem Sat.frzAt:∀(vs:List Nat){ρ:Ro}{G:Hp}{As:Nat->Addr->Prop},Sat G0 H0 S0 σ ρ G H As->∃G1 As1,Sat G0 H0 S0 σ (Mi.frzAt vs ρ) G1 H As1
 |[],_,_,_,a=>⟨_,_,a⟩
 |i::r,_,_,_,a=>by
  obtain⟨G1,As1,b⟩:=a.frz1 i;exact Sat.frzAt r b
theorem Sat.frz(a:Sat G0 H0 S0 σ ρ G H As):View G σ (Mi.frz ρ):=by
 refine⟨by simp[Mi.frz,a.len],fun i d e=>?_,a.tab.trans a.ext.g⟩;unfold Mi.frz at e;rw[qAf]at e;cases e1:ρ[i]? with
 |none=>rw[e1]at e;cases e
 |some o=>
  rw[e1]at e;cases o with
  |none=>cases e
  |some sl=>
   obtain⟨d',n⟩:=sl;obtain⟨v,h1,h2⟩:=a.at i d' n e1;simp only[qDw,qGu]at e
   split at e
   ·rename_i hz
    cases e
    rcases hz with hz|hz
    ·subst hz;exact⟨v,h1,h2⟩
    ·exact⟨v,h1,Own.scalar (k:=0) (G2:=G) (H2:=H) (S2:=fun _=>False) h2 hz⟩
   ·cases e
theorem Sat.store(a:Sat G0 H0 S0 σ ρ G H As){i n:Nat}{d:Dt}{v:V}{p:Addr}{o:HO}{S:Addr->Prop}(hp:As i p)(hv:σ[i]?=some (some v))(w:Own G (upd H p o) n S d v)
  (hS:∀b,S b->As i b\/(H0 b=none/\G b=none/\H b≠none/\∀j,¬As j b)):Sat G0 H0 S0 σ (ρ.set i (some (d,n))) G (upd H p o) (fun j=>if j=i then S else As j):=by
 obtain⟨p1,p2,p3⟩:=a.new i p hp;have hn:∀b,H b≠none->upd H p o b≠none:=fun b hb=>by
  by_cases z:b=p
  ·subst z;rw[zAJ];simp
  ·rw[zAC z];exact hb
 refine⟨⟨a.ext.g,L2.Same.upd a.ext.h p1 o,L2.Same.upd a.ext.in' p2 o,a.ext.old⟩,a.stb,a.tab,by simp[a.len],fun j e k h=>?_,fun j l b h1 h2=>?_,fun j b h=>?_⟩
 ·have hj:j<ρ.length:=by
   have:=(qA2.mp h).1
   simpa using this
  by_cases z:i=j
  ·subst z;rw[qA8 hj]at h;cases h;exact⟨v,hv,by rw[if_pos rfl];exact w⟩
  ·rw[qAb z]at h;obtain⟨u,h1,h2⟩:=a.at j e k h;exact⟨u,h1,by rw[if_neg (fun q=>z q.symm)];exact h2.upd fun q=>z (a.dis i j p hp q)⟩
 ·have key:∀j b,j≠i->As j b->S b->False:=fun j b hj h1 h2=>by
   rcases hS b h2 with q|⟨_,_,_,q⟩
   ·exact hj (a.dis j i b h1 q)
   ·exact q j h1
  try dsimp only at h1 h2
  by_cases z1:j=i
  ·by_cases z2:l=i
   ·rw[z1,z2]
   ·rw[if_pos z1]at h1;rw[if_neg z2]at h2;exact(key l b z2 h2 h1).elim
  ·by_cases z2:l=i
   ·rw[if_neg z1]at h1;rw[if_pos z2]at h2;exact(key j b z1 h1 h2).elim
   ·rw[if_neg z1]at h1;rw[if_neg z2]at h2;exact a.dis j l b h1 h2
 ·try dsimp only at h
  by_cases z1:j=i
  ·rw[if_pos z1]at h
   rcases hS b h with q|⟨q1,q2,q3,_⟩
   ·obtain⟨n1,n2,n3⟩:=a.new i b q;exact⟨n1,n2,hn b n3⟩
   ·exact⟨q1,q2,hn b q3⟩
  ·rw[if_neg z1]at h;obtain⟨n1,n2,n3⟩:=a.new j b h;exact⟨n1,n2,hn b n3⟩
end
def zFW(mg:Str->Option Value)(E:XK)(G0 H0 S0:Hp)(L:Nat)(r:R Out)(D:Ends):Prop:=match r with
 |none=>False
 |some (.error x)=>∀c da G' H',Ext G0 H0 G' H'->XRep mg x c da G' H'->E c da H'
 |some (.ok (.nx ρ))=>∀σ G H As,Sat G0 H0 S0 σ ρ G H As->D.nx σ H
 |some (.ok (.bk ρ))=>∀σ G H As,Sat G0 H0 S0 σ ρ G H As->D.bk σ H
 |some (.ok (.ct ρ))=>∀σ G H As,Sat G0 H0 S0 σ ρ G H As->D.ct σ H
 |some (.ok (.rt d))=>∀v G H S,Fr G0 H0 G H S->Own G H L S d v->D.rt v H
def DS(mg:Str->Option Value)(E:XK)(L:Nat)(t:TS)(m:SM):Prop:=∀(G0 H0 S0:Hp)(σ:St)(ρ:Ro)(G H:Hp)(As:Nat->Addr->Prop)(D:Ends),Sat G0 H0 S0 σ ρ G H As->zFW mg E G0 H0 S0 L (m ρ) D->t D σ H
section
variable{mg:Str->Option Value}{E:XK}{L n k l:Nat}{te ta tb:TE}{e ea eb:EM}{t u:TS}{m m':SM}
theorem errS{G0 H0 S0:Hp}{D:Ends}:Err mg E G0 H0 (fun r=>zFW mg E G0 H0 S0 L r D):=⟨fun h=>h,fun _ h=>h⟩
theorem zCC:DS mg E L zWQ Mi.sNil:=fun G0 H0 S0 σ ρ G H As D a p=>p σ G H As a
theorem zAF(A:DS mg E L t m)(B:DS mg E L u m'):DS mg E L (tSeq t u) (Mi.sSeq m m'):=by
 intro G0 H0 S0 σ ρ G H As D a p;refine A G0 H0 S0 σ ρ G H As _ a ?_;unfold Mi.sSeq at p;cases e:m ρ with
 |none=>rw[e]at p;exact p
 |some r=>
  rw[e]at p;cases r with
  |error x=>exact p
  |ok o=>
   cases o with
   |nx ρ'=>exact fun σ' G' H' As' a'=>B G0 H0 S0 σ' ρ' G' H' As' D a' p
   |rt d=>exact p
   |bk ρ'=>exact p
   |ct ρ'=>exact p
theorem zDW{tc:TT}{c:TM}(C:DT mg E tc c)(A:DS mg E L t m)(B:DS mg E L u m'):DS mg E L (tIfS tc t u) (Mi.sIf c m m'):=by
 intro G0 H0 S0 σ ρ G H As D a p;obtain⟨J,x,s,w⟩:=a.full;refine C.step (errS.from x) x.in' w p fun b H' _ sH p1=>?_
 cases b with
 |true=>exact A G0 H0 S0 σ ρ G H' As D (a.grow sH) p1
 |false=>exact B G0 H0 S0 σ ρ G H' As D (a.grow sH) p1
theorem whole{G0 H0 S0:Hp}{σ:St}{ρ:Ro}{G H J G1 H1:Hp}{As:Nat->Addr->Prop}{S:Addr->Prop}{d:Dt}{v:V}(a:Sat G0 H0 S0 σ ρ G H As)(s:Same G J)(fr:Fr J H G1 H1 S)(o:Own G1 H1 n S d v)(hn:n<1000)(hd:d.dep<=n)(hk:d.dep<=k) :
  Own G H1 k S d v/\∀b,S b->H b=none/\G b=none/\H1 b≠none:=
 ⟨o.at hd hk hn,fun b hb=>let⟨n1,n2,n3⟩:=fr.new b hb;⟨n1,a.ext.in'.free n1,n3⟩⟩
theorem zAL{i:Nat}(vs:List Nat)(A:DE mg E te e n)(hn:n<1000:=by decide):DS mg E L (tAsg te (zFR i)) (Mi.sSet i n vs e):=by
 intro G0 H0 S0 σ ρ G H As D a p;obtain⟨J,x,s,w⟩:=a.full;unfold Mi.sSet at p;cases ee:e (full ρ)with
 |none=>rw[ee]at p;exact p.elim
 |some r=>
  cases r with
  |error y=>exact A.step (errS.from x) x.in' w p fun d v G1 H1 S e1 fr o p1=>by rw[ee]at e1;cases e1
  |ok d=>
   by_cases hd:d.dep<=n
   ·refine A.step (errS.from x) x.in' w p fun d' v G1 H1 S e1 fr o p1=>?_
    rw[ee]at e1;cases e1;rw[if_pos hd]at p1;obtain⟨q1,q2⟩:=whole (k:=n) a s fr o hn hd hd;exact p1 _ G H1 _ (a.set fr.ext.h q1 q2)
   ·rw[ee]at p;have p':zFW mg E G0 H0 S0 L (zA3 (e (frz (frzAt vs ρ))) fun d'=>okR (.nx ((frzAt vs ρ).set i (some (d',n))))) D:=by
     have p2:zFW mg E G0 H0 S0 L (if d.dep<=n then okR (.nx (ρ.set i (some (d,n))))else zA3 (e (frz (frzAt vs ρ))) fun d'=>okR (.nx ((frzAt vs ρ).set i (some (d',n))))) D:=p;rw[if_neg hd]at p2;exact p2
    obtain⟨G1,As1,a1⟩:=Sat.frzAt vs a;refine A.step (errS.from a1.ext) a1.ext.in' a1.frz p' fun d' v G2 H2 S _ fr o p1=>?_
    exact p1 _ G2 H2 _ ((a1.wider fr.ext).put o (fun b hb=>let⟨n1,n2,n3⟩:=fr.new b hb;⟨a1.ext.h.free n1,n2,n3⟩) fun j b _ h1 h2=>(a1.new j b h1).2.2 (fr.new b h2).1)
theorem zBE(vs:List Nat)(A:DE mg E te e n)(hn:n<1000:=by decide):DS mg E L (tRet te) (Mi.sRet L n vs e):=by
 intro G0 H0 S0 σ ρ G H As D a p;obtain⟨J,x,s,w⟩:=a.full;unfold Mi.sRet at p;cases ee:e (full ρ)with
 |none=>rw[ee]at p;exact p.elim
 |some r=>
  cases r with
  |error y=>exact A.step (errS.from x) x.in' w p fun d v G1 H1 S e1 fr o p1=>by rw[ee]at e1;cases e1
  |ok d=>
   by_cases hd:d.dep<=n/\d.dep<=L
   ·refine A.step (errS.from x) x.in' w p fun d' v G1 H1 S e1 fr o p1=>?_
    rw[ee]at e1;cases e1;rw[if_pos hd]at p1;exact p1 v G1 H1 S (Fr.from x fr) (o.at hd.1 hd.2 hn)
   ·rw[ee]at p;have p2:zFW mg E G0 H0 S0 L (if d.dep<=n/\d.dep<=L then okR (.rt d)else if n=L then zA3 (e (frz (frzAt vs ρ))) fun d'=>okR (.rt d')else none) D:=p;rw[if_neg hd]at p2
    by_cases hl:n=L
    ·rw[if_pos hl]at p2;subst hl;obtain⟨G1,As1,a1⟩:=Sat.frzAt vs a;refine A.step (errS.from a1.ext) a1.ext.in' a1.frz p2 fun d' v G2 H2 S _ fr o p1=>?_
     exact p1 v G2 H2 S (Fr.from a1.ext fr) o
    ·rw[if_neg hl]at p2;exact p2.elim
theorem zDV(i:Nat):DS mg E L (tRet (vM i)) (Mi.sRetV L i):=by
 intro G0 H0 S0 σ ρ G H As D a p;unfold Mi.sRetV at p;cases e1:ρ[i]? with
 |none=>rw[e1]at p;exact p.elim
 |some o=>
  rw[e1]at p;cases o with
  |none=>exact p.elim
  |some sl=>
   obtain⟨d,k⟩:=sl;obtain⟨v,h1,h2⟩:=a.at i d k e1;show vM i σ H D.rt;unfold vM;rw[h1];dsimp only at p
   split at p
   ·rename_i hz
    rcases hz with hz|hz|hz
    ·subst hz;exact p v G H (As i) ⟨a.ext,fun b hb=>a.new i b hb⟩ h2
    ·subst hz;obtain⟨s1,s2⟩:=zCY (S:=As i) a.ext.in';refine p v (over G H (As i)) H (fun _=>False) ⟨⟨a.ext.g.trans s1,a.ext.h,s2,fun b hb=>?_⟩,fun _ z=>z.elim⟩ (h2.rep s1 fun b o hb e=>by rw[zE7 hb];exact e);have z:¬As i b:=fun z=>hb (a.new i b z).1
     rw[zCI z];exact a.ext.old b hb
    ·exact p v G H (As i) ⟨a.ext,fun b hb=>a.new i b hb⟩ (h2.at hz.1 hz.2.1 hz.2.2)
   ·exact p.elim
theorem Sat.puts{G0 H0 S0 G H:Hp}{bs:List (Nat×Dt)}{ws:List (Nat×V)}(h:BsRep G bs ws):∀{σ:St}{ρ:Ro}{As:Nat->Addr->Prop},Sat G0 H0 S0 σ ρ G H As->∃As',Sat G0 H0 S0 (zGT σ ws) (zBB ρ bs) G H As':=by
 induction h with
 |nil=>exact fun a=>⟨_,a⟩
 |cons r _ ih=>exact fun a=>ih (a.put (n:=0) (S:=fun _=>False) r (fun _ z=>z.elim) fun _ _ _ _ z=>z.elim)
theorem zQA(i:Nat)(A:DE mg E te e n)(hn:n<1000:=by decide):DS mg E L (zOO (tML appM (vM i) (zGR te tNil))) (Mi.sApp i n e):=by
 intro G0 H0 S0 σ ρ G H As D a p;obtain⟨J,x,s,w⟩:=a.full;unfold Mi.sApp at p;cases e1:ρ[i]? with
 |none=>rw[e1]at p;exact p.elim
 |some o=>
  rw[e1]at p
  match o,e1,p with
  |none,_,p=>exact p.elim
  |some (.lst ds,k+1),e1,p=>
   obtain⟨v,h1,q,xs,T,rfl,hq,kd⟩:=a.at i _ _ e1;unfold zOO tML vM;rw[h1];refine⟨xs,hq,?_⟩;refine A.step (errS.from x) x.in' w p fun d y G1 H1 S _ fr o p1=>?_
   split at p1
   ·rename_i hz
    obtain⟨q1,q2⟩:=whole (k:=k) a s fr o hn hz.2.1 hz.2.2;refine⟨xs,fr.ext.h _ _ hq,by rw[kd.len];exact L2.big (by lia),?_⟩;have hp:=kd.top;have a1:=a.grow fr.ext.h;have nS:¬S q:=fun z=>(a.new i q hp).2.2 (q2 q z).1
    have ap:∀r b,T r b->S b->False:=fun r b h1 h2=>(a.new i b (kd.sub r b h1)).2.2 (q2 b h2).1
    refine p1 σ G _ _ (a1.store (S:=fun b=>As i b\/S b) hp h1 ⟨q,_,fun r b=>(r<ds.length/\T r b)\/(r=ds.length/\S b),rfl,zAJ,⟨by simp[kd.len],fun r d' z g1 g2=>?_,.inl hp,fun r z=>?_,fun r r' b z1 z2=>?_,fun r b z=>?_⟩⟩ fun b z=>?_)
    ·by_cases hr:r<ds.length
     ·rw[qAc hr]at g1;rw[qAc (by rw[kd.len];exact hr)]at g2;exact(((kd.own r d' z g1 g2).mono (Same.refl _) fr.ext.h).upd (kd.out r)).sub fun b z=>.inl ⟨hr,z⟩
     ·rw[qAd (by lia)]at g1;rw[qAd (by rw[kd.len];lia),kd.len]at g2;have hq0:r-ds.length=0:=by
       have:=(qA2.mp g1).1
       simp at this;lia
      rw[hq0]at g1 g2;simp at g1 g2;subst g1;subst g2;exact(q1.upd nS).sub fun b z=>.inr ⟨by lia,z⟩
    ·rcases z with⟨_,z⟩|⟨_,z⟩
     ·exact kd.out r z
     ·exact nS z
    ·rcases z1 with⟨c1,t1⟩|⟨c1,t1⟩<;>rcases z2 with⟨c2,t2⟩|⟨c2,t2⟩
     ·exact kd.dis r r' b t1 t2
     ·exact(ap r b t1 t2).elim
     ·exact(ap r' b t2 t1).elim
     ·lia
    ·rcases z with⟨_,z⟩|⟨_,z⟩
     ·exact .inl (kd.sub r b z)
     ·exact .inr z
    ·rcases z with z|z
     ·exact .inl z
     ·obtain⟨n1,n2,n3⟩:=q2 b z;exact .inr ⟨a.ext.h.free n1,n2,n3,fun j y=>(a.new j b y).2.2 n1⟩
   ·exact p1.elim
  |some (.lst ds,0),_,p=>exact p.elim
  |some (.non,_),_,p=>exact p.elim
  |some (.bl _,_),_,p=>exact p.elim
  |some (.int _,_),_,p=>exact p.elim
  |some (.str _,_),_,p=>exact p.elim
  |some (.tup _,_),_,p=>exact p.elim
  |some (.scr _,_),_,p=>exact p.elim
  |some (.exc _ _ _,_),_,p=>exact p.elim
  |some (.fn _ _,_),_,p=>exact p.elim
  |some (.ins _ _,_),_,p=>exact p.elim
  |some (.dct _,_),_,p=>exact p.elim
end
end L3
namespace L3
open PySem PySem.Spec
open L2 hiding Rep RepL
open Mi (Dt Xn R okR zA3 optR zA0 zAB zAH zAE zAG Rh Sl Ro EM TM AM FM IM SM Tg Out zB5 zAT zBB full frz frz1 frzAt)
section
variable[Kc]{mg:Str->Option Value}{E:XK}{L n k l:Nat}{te ta tb:TE}{e ea eb:EM}{t u:TS}{m m':SM}
theorem Kids.set{G H:Hp}{S:Addr->Prop}{a p:Addr}{ds:List Dt}{xs:List V}{T:Nat->Addr->Prop}{S':Addr->Prop}{d:Dt}{v:V}{o:HO}(k:Kids (Own G H n) S a ds xs T)(q:Nat)(w:Own G (upd H p o) n S' d v)(hp:∀r,r≠q->¬T r p)(ha:¬S' a)
  (hd:∀r b,r≠q->T r b->S' b->False):Kids (Own G (upd H p o) n) (fun b=>S b\/S' b) a (ds.set q d) (xs.set q v) (fun r b=>if r=q then S' b else T r b):=by
 refine⟨by simp[k.len],fun r d' x h1 h2=>?_,.inl k.top,fun r=>?_,fun r r' b z1 z2=>?_,fun r b z=>?_⟩
 ·by_cases z:q=r
  ·subst z;have h:q<ds.length:=by
    have:=(qA2.mp h1).1
    simpa using this
   rw[qA8 h]at h1;rw[qA8 (by rw[k.len];exact h)]at h2;cases h1;cases h2;exact w.sub fun b hb=>by rw[if_pos rfl];exact hb
  ·rw[qAb z]at h1 h2;exact((k.own r d' x h1 h2).upd (hp r fun y=>z y.symm)).sub fun b hb=>by rw[if_neg (fun y=>z y.symm)];exact hb
 ·try dsimp only
  split
  ·exact ha
  ·exact k.out _
 ·try dsimp only at z1 z2
  by_cases h1:r=q<;>by_cases h2:r'=q
  ·rw[h1,h2]
  ·rw[if_pos h1]at z1;rw[if_neg h2]at z2;exact(hd r' b h2 z2 z1).elim
  ·rw[if_neg h1]at z1;rw[if_pos h2]at z2;exact(hd r b h1 z1 z2).elim
  ·rw[if_neg h1]at z1;rw[if_neg h2]at z2;exact k.dis _ _ b z1 z2
 ·try dsimp only at z
  by_cases h1:r=q
  ·rw[if_pos h1]at z;exact .inr z
  ·rw[if_neg h1]at z;exact .inl (k.sub _ b z)
theorem zHD(i:Nat){n1:Nat}{t1 t2:TE}{e1 e2:EM}(A:DE mg E t1 e1 n1)(B:DE mg E t2 e2 n)(hn:n<1000:=by decide):DS mg E L (tAsg t2 (gSub (vM i) t1 setM)) (Mi.sItem i n e1 e2):=by
 intro G0 H0 S0 σ ρ G H As D a p;obtain⟨J,x,s,w⟩:=a.full;refine B.step (errS.from x) x.in' w p fun d y G1 H1 S _ fr o p1=>?_
 cases er:ρ[i]? with
 |none=>rw[er]at p1;exact p1.elim
 |some sl=>
  rw[er]at p1
  match sl,er,p1 with
  |none,_,p=>exact p.elim
  |some (.lst ds,k+1),er,p1=>
   obtain⟨v,h1,q,xs,T,rfl,hq,kd⟩:=a.at i _ _ er;unfold gSub vM;rw[h1];have x1:Ext J H J H1:=Ext.same x.in' fr.ext.h;refine(zAW A).step (errS.from (x.trans x1)) x1.in' w p1 fun z u G2 H2 S2 _ fr2 o2 p2=>?_
   cases z with
   |int z=>
    cases(show u=.int z from o2)
    try dsimp only at p2
    cases ei:Mi.ixA ds.length z with
    |none=>rw[ei]at p2;exact p2.elim
    |some c=>
     rw[ei]at p2
     try dsimp only at p2
     split at p2
     ·rename_i hz
      rw[zIA]at ei;obtain⟨q1,q2⟩:=whole (k:=k) a s fr o hn hz.1 hz.2;have sH:=fr.ext.h.trans fr2.ext.h;refine⟨xs,c,sH _ _ hq,by rw[kd.len];exact ei,?_⟩;have a1:=a.grow sH;have nS:¬S q:=fun z=>(a.new i q kd.top).2.2 (q2 q z).1
      have kd1:Kids (Own G H2 k) (As i) q ds xs T:=kd.imp (fun _ _ _ _ w=>w.mono (Same.refl _) sH) fun _ z=>z
      refine p2 σ G _ _ (a1.store (S:=fun b=>As i b\/S b) kd.top h1 ⟨q,_,_,rfl,zAJ,kd1.set c ((q1.mono (Same.refl _) fr2.ext.h).upd nS) (fun r _=>kd.out r) nS fun r b _ z1 z2=>(a.new i b (kd.sub r b z1)).2.2 (q2 b z2).1⟩ fun b z=>?_)
      rcases z with z|z
      ·exact .inl z
      ·obtain⟨n1,n2,n3⟩:=q2 b z;exact .inr ⟨a.ext.h.free n1,n2,fr2.ext.h.some n3,fun j y=>(a.new j b y).2.2 n1⟩
     ·exact p2.elim
   |_=>exact p2.elim
  |some (.lst ds,0),_,p=>exact p.elim
  |some (.non,_),_,p=>exact p.elim
  |some (.bl _,_),_,p=>exact p.elim
  |some (.int _,_),_,p=>exact p.elim
  |some (.str _,_),_,p=>exact p.elim
  |some (.tup _,_),_,p=>exact p.elim
  |some (.scr _,_),_,p=>exact p.elim
  |some (.exc _ _ _,_),_,p=>exact p.elim
  |some (.fn _ _,_),_,p=>exact p.elim
  |some (.ins _ _,_),_,p=>exact p.elim
  |some (.dct _,_),_,p=>exact p.elim
theorem zTX{G0 H0 S0:Hp}{D:Ends}{g:TG}{tg:Tg}{J:It}{ds:List Dt}{GJ:Hp}(hT:TgOk g tg)(B:DS mg E L t m)(io:ItOk J GJ ds){σ:St}{ρ:Ro}{G H:Hp}{As:Nat->Addr->Prop}(a:Sat G0 H0 S0 σ ρ G H As)(sJ:Same GJ G)
  (p:zFW mg E G0 H0 S0 L (Mi.forGo tg m ds ρ) D):zON g t D σ J H:=by
 refine⟨fun i c σ H=>c=ds.length-i/\i<=ds.length/\∃ρ G As,Sat G0 H0 S0 σ ρ G H As/\Same GJ G/\zFW mg E G0 H0 S0 L (Mi.forGo tg m (ds.drop i) ρ) D,
  ⟨_,rfl,qAt _,ρ,G,As,a,sJ,by rw[qD3];exact p⟩,?_⟩
 rintro i c σ H ⟨rfl,hi,ρ,G,As,a,sJ,p⟩
 obtain⟨j1,j2,j3⟩:=io i G H sJ a.ext.in'
 by_cases hlt:i<ds.length
 ·refine .inr ⟨j1 hlt,fun σ' H'=>i+1<=ds.length/\∃ρ G As,Sat G0 H0 S0 σ' ρ G H' As/\Same GJ G/\zFW mg E G0 H0 S0 L (Mi.forGo tg m (ds.drop (i+1)) ρ) D,fun σ' H' q=>⟨ds.length-(i+1),by lia,rfl,q⟩,fun x H2 hy=>?_⟩;have hd:ds[i]?=some ds[i]:=qA7 hlt;obtain⟨G2,x2,r2⟩:=j3 x H2 ds[i] hd hy;rw[qBt hlt,Mi.forGo]at p;cases eb:zB5 tg ds[i]with
  |none=>rw[eb]at p;exact p.elim
  |some bs=>
   rw[eb]at p
   try dsimp only at p
   refine hT G2 H2 _ _ x bs _ x2.in' r2 eb fun ws hb=>?_
   obtain⟨As2,a2⟩:=Sat.puts hb (a.wider x2);have a3:Sat G0 H0 GJ (zGT σ ws) (zBB ρ bs) G2 H2 As2:=⟨a2.ext,sJ.trans x2.g,a2.tab,a2.len,a2.at,a2.dis,a2.new⟩
   have key:∀(S1:Hp),Same S0 S1->Same GJ S1->Sat G0 H0 S1 (zGT σ ws) (zBB ρ bs) G2 H2 As2->t { D with nx:=fun σ' H'=>i+1<=ds.length/\∃ρ G As,Sat G0 H0 S0 σ' ρ G H' As/\Same GJ G/\zFW mg E G0 H0 S0 L (Mi.forGo tg m (ds.drop (i+1)) ρ) D,ct:=fun σ' H'=>i+1<=ds.length/\∃ρ G As,Sat G0 H0 S0 σ' ρ G H' As/\Same GJ G/\zFW mg E G0 H0 S0 L (Mi.forGo tg m (ds.drop (i+1)) ρ) D,bk:=D.nx } (zGT σ ws) H2:=by
    intro S1 s1 s2 a4;refine B G0 H0 S1 _ _ G2 H2 As2 _ a4 ?_;have back:∀{σ':St}{ρ':Ro}{G' H':Hp}{As':Nat->Addr->Prop},Sat G0 H0 S1 σ' ρ' G' H' As'->Sat G0 H0 S0 σ' ρ' G' H' As'/\Same GJ G':=fun a5=>⟨⟨a5.ext,s1.trans a5.stb,a5.tab,a5.len,a5.at,a5.dis,a5.new⟩,s2.trans a5.stb⟩
    cases em:m (zBB ρ bs)with
    |none=>rw[em]at p;exact p
    |some r=>
     rw[em]at p;cases r with
     |error y=>exact p
     |ok o=>
      cases o with
      |nx ρ'=>exact fun σ' G' H' As' a5=>⟨hlt,ρ',G',As',(back a5).1,(back a5).2,p⟩
      |ct ρ'=>exact fun σ' G' H' As' a5=>⟨hlt,ρ',G',As',(back a5).1,(back a5).2,p⟩
      |bk ρ'=>exact fun σ' G' H' As' a5=>p σ' G' H' As' (back a5).1
      |rt d=>exact p
   exact key G2 a2.stb (sJ.trans x2.g) ⟨a2.ext,Same.refl _,a2.tab,a2.len,a2.at,a2.dis,a2.new⟩
 ·have e:i=ds.length:=by lia
  subst e;rw[qDm,Mi.forGo]at p;exact .inl ⟨j2 (qA5 _),p σ G H As a⟩
theorem zU3{wi:TI}{it:IM}{g:TG}{tg:Tg}(vs:List Nat){ind:Bool}(I:DI mg E wi it ind)(hT:TgOk g tg)(B:DS mg E L t m):DS mg E L (fun D σ H=>wi σ H (zON g t D σ)) (Mi.sFor vs it tg m):=by
 intro G0 H0 S0 σ ρ G H As D a p;obtain⟨G1,As1,a1⟩:=Sat.frzAt vs a;refine I.step (errS.from a1.ext) a1.ext.in' a1.frz p fun ds J G2 H2 _ x2 io p1=>?_
 refine zTX hT B io (a1.wider x2) ?_ p1;unfold zQR
 split
 ·exact fun b o e=>by cases e
 ·exact Same.refl _
theorem zD2{wi:TI}{it:IM}{i:Nat}(I:DI mg E wi it true)(B:DS mg E L t m):DS mg E L (fun D σ H=>wi σ H (zON (zFR i) t D σ)) (Mi.sForR it i m):=by
 intro G0 H0 S0 σ ρ G H As D a p;obtain⟨J,x,s,w⟩:=a.full;refine I.step (errS.from x) x.in' w p fun ds J G2 H2 _ x2 io p1=>?_
 exact zTX (zAP i) B io (a.grow x2.h) (fun b o e=>by cases e) p1
theorem zZ2{G0 H0 S0:Hp}{D:Ends}{tc:TT}{c:TM}(C:DT mg E tc c)(B:DS mg E L t m)(N:Nat){σ:St}{ρ:Ro}{G H:Hp}{As:Nat->Addr->Prop}(a:Sat G0 H0 S0 σ ρ G H As)(p:zFW mg E G0 H0 S0 L (Mi.whGo c m N ρ) D):zOL tc t D σ H:=by
 refine⟨fun i σ H=>∃ρ G As,Sat G0 H0 S0 σ ρ G H As/\zFW mg E G0 H0 S0 L (Mi.whGo c m i ρ) D,⟨N,ρ,G,As,a,p⟩,?_⟩
 rintro i σ H ⟨ρ,G,As,a,p⟩
 cases i with
 |zero=>exact p.elim
 |succ i=>
  obtain⟨J,x,s,w⟩:=a.full;rw[Mi.whGo]at p;refine C.step (errS.from x) x.in' w p fun b H' _ sH p1=>?_
  cases b with
  |false=>exact p1 σ G H' As (a.grow sH)
  |true=>
   rw[if_pos rfl];refine⟨fun σ' H'=>∃ρ G As,Sat G0 H0 S0 σ' ρ G H' As/\zFW mg E G0 H0 S0 L (Mi.whGo c m i ρ) D,fun σ' H' q=>⟨i,qFa i,q⟩,?_⟩;refine B G0 H0 S0 σ ρ G H' As _ (a.grow sH) ?_;rw[if_pos rfl]at p1;cases em:m ρ with
   |none=>rw[em]at p1;exact p1
   |some r=>
    rw[em]at p1;cases r with
    |error y=>exact p1
    |ok o=>
     cases o with
     |nx ρ'=>exact fun σ' G' H' As' a5=>⟨ρ',G',As',a5,p1⟩
     |ct ρ'=>exact fun σ' G' H' As' a5=>⟨ρ',G',As',a5,p1⟩
     |bk ρ'=>exact fun σ' G' H' As' a5=>p1 σ' G' H' As' a5
     |rt d=>exact p1
theorem zSJ{tc:TT}{c:TM}(C:DT mg E tc c)(B:DS mg E L t m):DS mg E L (zOL tc t) (Mi.sWhile c m):=fun G0 H0 S0 σ ρ G H As D a p=>zZ2 C B _ a p
theorem dz(A:DE mg E te e 0):DE mg E te e 0:=A
theorem zIO{P N:Nat}{vs:List V}{H:Hp}{Q:VK}{E:XK}(h:spM mg L (Mi.runF P N m) vs H Q E):vs.length=P:=by
 obtain⟨G,ds,_,s,r,p⟩:=h;rw[r.length];unfold Mi.runF at p
 split at p
 ·rename_i h;exact h
 ·exact p.elim
theorem zB9{P:Nat}{N:List Str}{vs:List V}{H:Hp}{Q:VK}(B:DS mg E L t m)(h:spM mg L (Mi.runF P N.length m) vs H Q E):t { nx:=fun _ H'=>Q .non H',rt:=Q } (L2.start N vs) H:=by
 obtain⟨G,ds,tb,s,r,p⟩:=h;unfold Mi.runF at p
 split at p
 ·refine B G H G _ (Mi.startO N.length ds) G H (fun _ _=>False) _ ⟨Ext.refl s,Same.refl _,tb,?_,fun i d n e=>?_,fun _ _ _ z=>z.elim,fun _ _ z=>z.elim⟩ ?_
  ·unfold Mi.startO L2.start;simp[r.length]
  ·unfold Mi.startO at e
   by_cases hi:i<ds.length
   ·rw[qAc (by simpa using hi),qAf]at e;cases e1:ds[i]? with
    |none=>rw[e1]at e;cases e
    |some d'=>
     rw[e1]at e;cases e;have hv:vs[i]?=some (vs[i]'(by rw[r.length];exact hi)):=by simp
     refine⟨vs[i]'(by rw[r.length];exact hi),?_,zCD r e1 hv⟩;unfold L2.start;rw[qAc (by simpa[r.length]using hi),qAf,hv];rfl
   ·rw[qAd (by simpa using hi),qB7]at e
    split at e<;>cases e
  ·cases em:m (Mi.startO N.length ds)with
   |none=>rw[em]at p;exact p
   |some r=>
    rw[em]at p;cases r with
    |error y=>exact p
    |ok o=>
     cases o with
     |nx ρ'=>exact fun σ' G' H' As' a=>PostE.val (d:=.non) p a.ext rfl rfl
     |rt d=>exact p
     |bk ρ'=>exact p.elim
     |ct ρ'=>exact p.elim
 ·exact p.elim
end
end L3
namespace L3
open PySem PySem.Spec
open L2 hiding Rep RepL
open Mi (Dt FM okR)
def sp0(K:qA1)(mg:Str->Option Value)(L:Nat)(f:FM):Sp:=fun vs H Q _=>@spM ⟨K⟩ mg L f vs H Q E0
end L3
namespace L3
open PySem PySem.Spec
open L2 hiding Rep RepL
open Mi (Dt Xn R okR zA3 optR zA0 zAB zAH zAE zAG Rh Sl Ro EM TM AM FM IM SM OM Tg Out zB5 zAT zBB full frz frz1 frzAt)
section
variable[Kc]{mg:Str->Option Value}{E:XK}{L n k l:Nat}{te ta tb:TE}{e ea eb:EM}{t u:TS}{m m':SM}
theorem zYR{f:List Dt->Option Dt}{g:Int->Int->Int}{r:List V->Hp->VK->Prop}(hr:∀i j H Q,Q (.int (g i j)) H->r [.int i,.int j] H Q)(hf:∀i j,f [.int i,.int j]=some (.int (g i j)))(hn:∀ds,(∀i j,ds≠[.int i,.int j])->f ds=none):CBi r f n:=by
 intro mg E G H ds vs Q s h p
 by_cases hd:∃i j,ds=[.int i,.int j]
 ·obtain⟨i,j,rfl⟩:=hd;obtain⟨x,y,rfl,hx,hy⟩:=zRL h
  cases(show x=.int i from hx)
  cases(show y=.int j from hy)
  rw[hf]at p;exact hr i j H Q (PostE.val p (Ext.refl s) rfl rfl)
 ·rw[hn ds fun i j e=>hd ⟨i,j,e⟩]at p;exact p.elim
theorem zR5{f:List Dt->Option Dt}(h1:f []=none)(h2:∀x,f [x]=none)(h3:∀x y z r,f (x::y::z::r)=none)(h4:∀x y,(∀i j,[x,y]≠[.int i,.int j])->f [x,y]=none):∀ds,(∀i j,ds≠[.int i,.int j])->f ds=none:=by
 intro ds h
 match ds,h with
 |[],_=>exact h1
 |[x],_=>exact h2 x
 |[x,y],h=>exact h4 x y h
 |x::y::z::r,_=>exact h3 x y z r
theorem zYS:CBi (fun xs H Q=>∃i j,xs=[.int i,.int j]/\Q (.int (if j<i then j else i)) H) Mi.minD n:=
 zYR (g:=fun i j=>if j<i then j else i) (fun i j H Q q=>⟨i,j,rfl,q⟩) (fun _ _=>rfl) (zR5 rfl (fun x=>by cases x<;>rfl) (fun x y z r=>by cases x<;>cases y<;>rfl) (fun x y h=>by cases x<;>cases y<;>first|rfl|exact absurd rfl (h _ _)))
theorem zYT:CBi (fun xs H Q=>∃i,xs=[.int i]/\Q (.int (if i<0 then -i else i)) H) Mi.absD n:=by
 intro mg E G H ds vs Q s h p;cases ds with
 |nil=>exact qA6 p
 |cons hd1 tl1=>
  cases hd1 with
  |int i=>
   cases tl1 with
   |nil=>
    obtain⟨x,rfl,hx⟩:=zF0 h
    cases(show x=.int i from hx)
    exact⟨i,rfl,PostE.val p (Ext.refl s) rfl rfl⟩
   |cons _ _=>exact qA6 p
  |_=>exact qA6 p
theorem zM0{G:Hp}{d:Dt}{v:V}(h:Rep G d v)(hd:d.dep=0):zFS v=true:=(zEM (by lia) h).flat (qFh.mp (qAj (zFI (by lia)) (qCm hd)))
theorem zQ5{G:Hp}{d e:Dt}{v u:V}(h:Rep G d v)(h':Rep G e u)(hd:d.dep=0)(he:e.dep=0):eqV v u=Dt.eq d e:=by
 rw[<- zM4 (by lia) (by lia)];exact(zEM (by lia) h).flatEq (zEM (by lia) h') (qFh.mp (qAj (zFI (by lia)) (qCm hd))) (qFh.mp (qAj (zFI (by lia)) (qCm he)))
theorem zVS{G:Hp}{d:Dt}{v:V}(h:Rep G d v)(hd:d.dep=0):∀{ds:List Dt}{vs:List V},RepL G ds vs->Dt.depL ds=0->vs.all zFS=true/\inV v vs=ds.any fun y=>Dt.eq y d
 |[],vs,r,_=>by cases(show vs=[] from r);exact⟨rfl,rfl⟩
 |e::ds,vs,r,hz=>by
  obtain⟨x,q,rfl,a,b⟩:=r;rw[Dt.depL]at hz;obtain⟨h1,h2⟩:=zVS h hd b (by lia);have he:e.dep=0:=by lia
  refine⟨by simp[zM0 a he,h1],?_⟩;unfold inV at h2 ⊢;rw[qCd,qCd,h2,zQ5 a h he hd]
theorem zJW{ng:Bool}:ROp (rInU Kc.K ng) (Mi.inD ng) n:=by
 intro mg E G H d e x y Q s h1 h2 p;cases e with
 |lst ys=>
  obtain⟨a,vs,rfl,ha,r⟩:=h2;unfold Mi.inD Mi.hasD at p;dsimp only at p
  by_cases hz:d.dep=0/\Dt.depL ys=0
  ·rw[if_pos hz]at p;obtain⟨g1,g2⟩:=zVS h1 hz.1 r hz.2;refine⟨vs,.inl (SqL.of (s _ _ ha)),zM0 h1 hz.1,g1,?_⟩;rw[g2];exact PostE.val p (Ext.refl s) rfl rfl
  ·rw[if_neg hz]at p;exact p.elim
 |tup ys=>
  obtain⟨a,vs,rfl,ha,r⟩:=h2;unfold Mi.inD Mi.hasD at p;dsimp only at p
  by_cases hz:d.dep=0/\Dt.depL ys=0
  ·rw[if_pos hz]at p;obtain⟨g1,g2⟩:=zVS h1 hz.1 r hz.2;refine⟨vs,.inr (SqT.of (s _ _ ha)),zM0 h1 hz.1,g1,?_⟩;rw[g2];exact PostE.val p (Ext.refl s) rfl rfl
  ·rw[if_neg hz]at p;exact p.elim
 |str z=>
  cases(show y=.str z from h2)
  cases d with
  |str w=>
   cases(show x=.str w from h1)
   obtain⟨⟨wl⟩⟩:=w;cases wl with
   |nil=>exact qA6 p
   |cons c tl1=>
    cases tl1 with
    |nil=>
     have p':PostE mg E G H n (okR (.bl (if ng=true then !decide (c∈z.cps.toList)else decide (c∈z.cps.toList)))) Q:=p;have q:=PostE.val (v:=.bl (if ng=true then !decide (c∈z.cps.toList)else decide (c∈z.cps.toList))) p' (Ext.refl s) rfl rfl;rw[<- StrLaws.found_one z c]at q;exact q
    |cons _ _=>exact qA6 p
  |_=>exact p.elim
 |_=>exact p.elim
def DO(mg:Str->Option Value)(E:XK)(t:TO)(m:OM):Prop:=∀(G H:Hp)(σ:St)(ρ:Rh)(Q:Option Int->Hp->Prop),Same G H->View G σ ρ ->
 (match m ρ with
  |none=>False
  |some (.error x)=>∀c da G' H',Ext G H G' H'->XRep mg x c da G' H'->E c da H'
  |some (.ok o)=>∀H',Same H H'->Q o H')->t σ H Q
theorem DO.step{β:Type}{t:TO}{m:OM}(D:DO mg E t m){G H:Hp}{σ:St}{ρ:Rh}{Q:Option Int->Hp->Prop}{P:R β->Prop}{f:Option Int->R β}(hE:Err mg E G H P)(s:Same G H)(w:View G σ ρ)(p:P (zA3 (m ρ) f))
  (h:∀b H',m ρ=okR b->Same H H'->P (f b)->Q b H'):t σ H Q:=by
 refine D G H σ ρ Q s w ?_;cases e:m ρ with
 |none=>rw[e]at p;exact hE.no p
 |some r=>
  rw[e]at p;cases r with
  |error x=>exact hE.er x p
  |ok b=>exact fun H' sH=>h b H' e sH p
theorem zYI:DO mg E zOM Mi.oNo:=fun G H σ ρ Q s w p=>p H (Same.refl _)
theorem do_e(A:DE mg E te e k):DO mg E (zWP te) (Mi.oE e):=by
 intro G H σ ρ Q s w p;unfold Mi.oE at p;refine(zAW A).step (P:=fun r=>match r with
  |none=>False
  |some (.error x)=>∀c da G' H',Ext G H G' H'->XRep mg x c da G' H'->E c da H'
  |some (.ok o)=>∀H',Same H H'->Q o H') ⟨fun h=>h,fun _ h=>h⟩ s w p fun d v G1 H1 S _ fr o p1=>?_
 cases d with
 |int i=>exact⟨i,o,p1 H1 fr.ext.h⟩
 |_=>exact p1.elim
theorem zN5(n d:Nat)(o:Option Int):Mi.cutIx n d o=HT.sIx n d o:=by cases o<;>rfl
theorem zK1{G:Hp}:∀{ds:List Dt}{xs:List V}(i:Nat),RepL G ds xs->RepL G (ds.drop i) (xs.drop i)
 |ds,xs,0,r=>by simpa using r
 |[],xs,i+1,r=>by cases(show xs=[] from r);exact rfl
 |d::ds,xs,i+1,r=>by
  obtain⟨x,q,rfl,a,b⟩:=r;exact zK1 i b
theorem zJY{G:Hp}:∀{ds:List Dt}{xs:List V}(i:Nat),RepL G ds xs->RepL G (ds.take i) (xs.take i)
 |ds,xs,0,r=>by simp;exact rfl
 |[],xs,i+1,r=>by cases(show xs=[] from r);exact rfl
 |d::ds,xs,i+1,r=>by
  obtain⟨x,q,rfl,a,b⟩:=r;exact⟨x,_,rfl,a,zJY i b⟩
theorem zRK{G:Hp}{ds:List Dt}{xs:List V}(r:RepL G ds xs)(lo hi:Option Int):RepL G (Mi.cutA ds lo hi) (cutV xs lo hi):=by
 unfold Mi.cutA cutV;rw[zN5,zN5,r.length];exact zJY _ (zK1 _ r)
def RSl(r:V->Option Int->Option Int->Hp->VK->Prop)(n:Nat):Prop:=∀(mg:Str->Option Value)(E:XK)(G H:Hp)(d:Dt)(x:V)(lo hi:Option Int)(Q:VK),Same G H->Rep G d x->PostE mg E G H n (optR (Mi.slD d lo hi)) Q->r x lo hi H Q
theorem zYM{r:V->Option Int->Option Int->Hp->VK->Prop}{tl th:TO}{ml mh:OM}(hr:RSl r n)(A:DE mg E te e k)(B:DO mg E tl ml)(C:DO mg E th mh):DE mg E (tSl r te tl th) (Mi.eSl e ml mh) n:=by
 intro G H σ ρ Q s w p;refine(zAW A).step errE s w p fun d v G1 H1 S _ fr o p1=>?_
 refine B.step (errE.from fr.ext) fr.ext.in' (w.mono fr.ext.g) p1 fun lo H2 _ s2 p2=>?_
 have x2:=fr.ext.trans (Ext.same fr.ext.in' s2);refine C.step (errE.from x2) x2.in' (w.mono fr.ext.g) p2 fun hi H3 _ s3 p3=>?_
 have x3:=x2.trans (Ext.same x2.in' s3);exact hr mg E G1 H3 d v lo hi Q x3.in' o (PostE.from p3 x3)
theorem zFF(i:Nat){n0 n1:Nat}{t0 t1 t2:TE}{e0 e1 e2:EM}(Z:DE mg E t0 e0 n0)(A:DE mg E t1 e1 n1)(B:DE mg E t2 e2 n)(hn:n<1000:=by decide):DS mg E L (tAsg t2 (gSub (tOp (rIxU Kc.K) (vM i) t0) t1 setM)) (Mi.sItem2 i n e0 e1 e2):=by
 intro G0 H0 S0 σ ρ G H As D a p;obtain⟨J,x,s,w⟩:=a.full;refine B.step (errS.from x) x.in' w p fun d y G1 H1 S _ fr o p1=>?_
 cases er:ρ[i]? with
 |none=>rw[er]at p1;exact p1.elim
 |some sl=>
  rw[er]at p1
  match sl,er,p1 with
  |none,_,p=>exact p.elim
  |some (.lst rs,k+2),er,p1=>
   obtain⟨v,h1,q,xs,T,rfl,hq,kd⟩:=a.at i _ _ er;unfold gSub tOp vM;rw[h1];have x1:Ext J H J H1:=Ext.same x.in' fr.ext.h;refine(zAW Z).step (errS.from (x.trans x1)) x1.in' w p1 fun z0 u0 G2 H2 S2 _ fr2 o2 p2=>?_
   cases z0 with
   |int y0=>
    cases(show u0=.int y0 from o2)
    dsimp only at p2;cases ei:Mi.ixA rs.length y0 with
    |none=>rw[ei]at p2;exact p2.elim
    |some c=>
     rw[ei]at p2;dsimp only at p2;cases erow:rs[c]? with
     |none=>rw[erow]at p2;exact p2.elim
     |some row=>
      rw[erow]at p2;cases row with
      |lst ds=>
       have hc:c<xs.length:=by rw[kd.len];exact(qA2.mp erow).1
       have hxc:xs[c]?=some xs[c]:=qA7 hc;obtain⟨qr,ys,U,er2,hqr,kr⟩:=kd.own c _ _ erow hxc;have sH2:=fr.ext.h.trans fr2.ext.h;refine⟨xs,xs[c],.inl (SqL.of (sH2 _ _ hq)),?_,?_⟩
       ·unfold atI;rw[kd.len,<- zIA,ei];exact hxc
       have x2:Ext J H J H2:=Ext.same x.in' sH2;refine(zAW A).step (errS.from (x.trans x2)) x2.in' w p2 fun z u G3 H3 S3 _ fr3 o3 p3=>?_
       cases z with
       |int z=>
        cases(show u=.int z from o3)
        dsimp only at p3;cases ez:Mi.ixA ds.length z with
        |none=>rw[ez]at p3;exact p3.elim
        |some c2=>
         rw[ez]at p3;dsimp only at p3
         split at p3
         ·rename_i hz
          rw[zIA]at ez;obtain⟨q1,q2⟩:=whole (k:=k) a s fr o hn hz.1 hz.2;have sH:=sH2.trans fr3.ext.h;rw[er2];refine⟨ys,c2,sH _ _ hqr,by rw[kr.len];exact ez,?_⟩;have a1:=a.grow sH;have tqr:T c qr:=kr.top;have iqr:As i qr:=kd.sub c qr tqr;have nS:¬S qr:=fun z=>(a.new i qr iqr).2.2 (q2 qr z).1
          have qne:q≠qr:=fun z=>kd.out c (z▸tqr)
          have fresh:∀b,As i b->S b->False:=fun b z1 z2=>(a.new i b z1).2.2 (q2 b z2).1
          have kr1:Kids (Own G H3 k) (T c) qr ds ys U:=kr.imp (fun _ _ _ _ w=>w.mono (Same.refl _) sH) fun _ z=>z
          have rowK:=kr1.set (p:=qr) (o:=.lst (ys.set c2 y)) c2 ((q1.mono (Same.refl _) (fr2.ext.h.trans fr3.ext.h)).upd nS) (fun r _=>kr.out r) nS (fun r b _ z1 z2=>fresh b (kd.sub c b (kr.sub r b z1)) z2);refine p3 σ G _ _ (a1.store (S:=fun b=>As i b\/S b) (d:=.lst (rs.set c (.lst (ds.set c2 d)))) (n:=k+2) (v:=.ref q) iqr h1 ⟨q,xs,fun r b=>if r=c then T c b\/S b else T r b,rfl,(zAC qne).trans (sH _ _ hq),⟨by simp[kd.len],fun r d' xr g1 g2=>?_,.inl kd.top,fun r=>?_,fun r r' b z1 z2=>?_,fun r b z=>?_⟩⟩ fun b z=>?_)
          ·by_cases hr:c=r
           ·subst hr;rw[qA8 (by rw[<- kd.len];exact hc)]at g1;cases g1;rw[hxc]at g2;cases g2;refine⟨qr,_,_,er2,zAJ,rowK.imp (fun _ _ _ _ w=>w) fun b z=>?_⟩;rw[if_pos rfl];exact z
           ·rw[qAb hr]at g1;have nr:¬T r qr:=fun z=>hr (kd.dis c r qr tqr z)
            exact(((kd.own r d' xr g1 g2).mono (Same.refl _) sH).upd nr).sub fun b z=>by rw[if_neg (fun z=>hr z.symm)];exact z
          ·try dsimp only
           split
           ·exact fun z=>z.elim (kd.out c) fun z=>fresh q kd.top z
           ·exact kd.out r
          ·try dsimp only at z1 z2
           by_cases g1:r=c<;>by_cases g2:r'=c
           ·rw[g1,g2]
           ·rw[if_pos g1]at z1;rw[if_neg g2]at z2
            rcases z1 with z1|z1
            ·rw[g1];exact kd.dis c r' b z1 z2
            ·exact(fresh b (kd.sub r' b z2) z1).elim
           ·rw[if_neg g1]at z1;rw[if_pos g2]at z2
            rcases z2 with z2|z2
            ·rw[g2];exact kd.dis r c b z1 z2
            ·exact(fresh b (kd.sub r b z1) z2).elim
           ·rw[if_neg g1]at z1;rw[if_neg g2]at z2;exact kd.dis r r' b z1 z2
          ·try dsimp only at z
           by_cases g1:r=c
           ·rw[if_pos g1]at z
            rcases z with z|z
            ·exact .inl (kd.sub c b z)
            ·exact .inr z
           ·rw[if_neg g1]at z;exact .inl (kd.sub r b z)
          ·rcases z with z|z
           ·exact .inl z
           ·obtain⟨n1,n2,n3⟩:=q2 b z;exact .inr ⟨a.ext.h.free n1,n2,(fr2.ext.h.trans fr3.ext.h).some n3,fun j y=>(a.new j b y).2.2 n1⟩
         ·exact p3.elim
       |_=>exact p3.elim
      |_=>exact p2.elim
   |_=>exact p2.elim
  |some (.lst ds,0),_,p=>exact p.elim
  |some (.lst ds,1),_,p=>exact p.elim
  |some (.non,_),_,p=>exact p.elim
  |some (.bl _,_),_,p=>exact p.elim
  |some (.int _,_),_,p=>exact p.elim
  |some (.str _,_),_,p=>exact p.elim
  |some (.tup _,_),_,p=>exact p.elim
  |some (.scr _,_),_,p=>exact p.elim
  |some (.exc _ _ _,_),_,p=>exact p.elim
  |some (.fn _ _,_),_,p=>exact p.elim
  |some (.ins _ _,_),_,p=>exact p.elim
  |some (.dct _,_),_,p=>exact p.elim
end
end L3
namespace L3
open PySem PySem.Spec
open L2 hiding Rep RepL
open Mi (Dt Xn R okR zA3 optR zA0 zAB zAH zAE zAG Rh Sl Ro EM TM AM FM IM SM OM Tg Out zB5 zAT zBB full frz frz1 frzAt)
section
variable[Kc]{mg:Str->Option Value}{E:XK}{L n k l:Nat}{te ta tb:TE}{e ea eb ma:EM}{t:TA}{m:AM}
theorem rs_u:RSl (rSlU Kc.K) 1:=by
 intro mg E G H d x lo hi Q s h p;cases d with
 |lst ds=>
  obtain⟨a,xs,rfl,ha,r⟩:=h;exact⟨xs,SqL.of (s _ _ ha),fun q hq=>PostE.lst p (Ext.refl s) (zRK r lo hi) hq⟩
 |str z=>
  cases(show x=.str z from h)
  rw[Mi.slD]at p
  by_cases hz:z.length<=100000
  ·rw[if_pos hz]at p;exact⟨big' hz,PostE.val p (Ext.refl s) rfl rfl⟩
  ·rw[if_neg hz]at p;exact p.elim
 |_=>exact p.elim
theorem zYN{tl th:TO}{ml mh:OM}(A:DE mg E te e k)(B:DO mg E tl ml)(C:DO mg E th mh):DE mg E (tSl (rSlU Kc.K) te tl th) (Mi.eSl e ml mh) 1:=zYM rs_u A B C
theorem zY5{G:Hp}(z:Str):ItOk (Its z) G (Mi.signsD z):=by
 intro i G1 H1 s1 s2;have hl:(Mi.signsD z).length=z.cps.size:=by simp[Mi.signsD]
 refine⟨fun hi=>by rw[hl]at hi;exact hi,fun hi=>by rw[hl]at hi;exact hi,fun x H2 d hd hy=>?_⟩;obtain⟨rfl,c,hc,rfl⟩:=hy;refine⟨G1,Ext.refl s2,?_⟩;unfold Mi.signsD at hd;rw[qAf]at hd;have hc':z.cps.toList[i]?=some c:=by simpa using hc
 rw[hc']at hd;cases hd;rfl
theorem zCO(A:DE mg E ta ma k):DI mg E (iAny Kc.K ta) (Mi.iSq ma) false:=by
 intro G H σ ρ Q s w p;refine(zAW A).step errI s w p fun d v G1 H1 S _ fr o p1=>?_
 cases d with
 |lst ds=>
  obtain⟨a,xs,rfl,ha,r⟩:=o;exact .inl ⟨⟨xs,SqL.of (fr.ext.in' _ _ ha)⟩,p1 _ G1 H1 fr.ext (zTV (SqL.of ha) r)⟩
 |tup ds=>
  obtain⟨a,xs,rfl,ha,r⟩:=o;exact .inr ⟨⟨xs,SqT.of (fr.ext.in' _ _ ha)⟩,p1 _ G1 H1 fr.ext (zTT (SqT.of ha) r)⟩
 |scr ns=>
  obtain⟨a,rfl,ha⟩:=o
  rcases ha with ha|ha
  ·exact .inl ⟨⟨_,fr.ext.in'.seq ha⟩,p1 _ G1 H1 fr.ext (zTV ha (zCX ns))⟩
  ·exact .inr ⟨⟨_,zGU fr.ext.in' ha⟩,p1 _ G1 H1 fr.ext (zTT ha (zCX ns))⟩
 |str z=>
  cases(show v=.str z from o)
  exact p1 _ G1 H1 fr.ext (zY5 z)
 |_=>exact p1.elim
theorem zMD:∀(xs ys:List Dt),(Mi.zipD xs ys).length=min xs.length ys.length
 |[],ys=>by simp[Mi.zipD]
 |_::_,[]=>by simp[Mi.zipD]
 |x::r,y::q=>by rw[Mi.zipD,qAo,zMD r q,qAo,qAo];lia
theorem zME:∀(xs ys:List Dt)(i:Nat)(d:Dt),(Mi.zipD xs ys)[i]?=some d->∃x y,xs[i]?=some x/\ys[i]?=some y/\d=.tup [x,y]
 |[],ys,_,_,h=>by simp[Mi.zipD]at h
 |_::_,[],_,_,h=>by simp[Mi.zipD]at h
 |x::r,y::q,0,d,h=>by simp[Mi.zipD]at h;exact⟨x,y,by simp,by simp,h.symm⟩
 |x::r,y::q,i+1,d,h=>by
  rw[Mi.zipD]at h;obtain⟨a,b,h1,h2,h3⟩:=zME r q i d (by simpa using h);exact⟨a,b,by simpa using h1,by simpa using h2,h3⟩
theorem zY4{K:qA1}{G:Hp}{a b:Addr}{xs ys:List V}{ds es:List Dt}(ha:G a=some (.lst xs))(r:RepL G ds xs)(hb:G b=some (.lst ys))(r':RepL G es ys):ItOk (Itz K a b) G (Mi.zipD ds es):=by
 intro i G1 H1 s1 s2;have hS:SqL K H1 a xs:=SqL.of (s2 _ _ (s1 _ _ ha));have hS':SqL K H1 b ys:=SqL.of (s2 _ _ (s1 _ _ hb));have l1:=r.length;have l2:=r'.length;rw[zMD];refine⟨fun hi=>⟨xs,ys,xs[i]'(by lia),ys[i]'(by lia),hS,hS',by simp,by simp⟩,fun hi=>⟨xs,ys,hS,hS',by lia⟩,fun x H2 d hd hy=>?_⟩;obtain⟨T,u,v,rfl,hT,rfl,h1,h2⟩:=hy;obtain⟨p,q,g1,g2,rfl⟩:=zME ds es i d hd;have x1:=Ext.new s2 hT (.tup [u,v]);exact⟨_,x1,T,_,rfl,zAJ,_,_,rfl,Rep.mono (s1.trans x1.g) (zCD r g1 (h1 xs hS)),_,_,rfl,Rep.mono (s1.trans x1.g) (zCD r' g2 (h2 ys hS')),rfl⟩
theorem zYJ(A:DA mg E t m 0):DI mg E (iZip Kc.K t) (Mi.iZi m) false:=by
 intro G H σ ρ Q s w p;refine A.step errI s w p fun ds vs G1 H1 S T _ fr o p1=>?_
 have r:=o.repL;cases ds with
 |nil=>exact p1.elim
 |cons a0 r0=>
  cases a0 with
  |lst xs=>
   cases r0 with
   |nil=>exact p1.elim
   |cons b0 r1=>
    cases r1 with
    |cons _ _=>cases b0<;>exact p1.elim
    |nil=>
     cases b0 with
     |lst ys=>
      obtain⟨x,y,rfl,⟨a,us,rfl,ha,ra⟩,⟨b,ws,rfl,hb,rb⟩⟩:=zRL r;exact⟨⟨us,SqL.of (fr.ext.in' _ _ ha)⟩,⟨ws,SqL.of (fr.ext.in' _ _ hb)⟩,p1 _ G1 H1 fr.ext (zY4 ha ra hb rb)⟩
     |_=>exact p1.elim
  |_=>rcases r0 with _|⟨_,_|_⟩<;>exact p1.elim
end
end L3
namespace Mi
open PySem
noncomputable section
def noE{α:Type}(r:R α):R α:=match r with
 |some (.ok a)=>okR a
 |_=>none
def eCallN(f:FM)(am:AM):EM:=fun ρ=>zA3 (am ρ) fun ds=>noE (f ds)
def eMkX(c f:Str)(am:AM):EM:=fun ρ=>zA3 (am ρ) fun ds=>match ds with
 |[d]=>okR (.exc c f d)
 |_=>none
def zWX(c f:Str)(am:AM):SM:=fun r=>zA3 (am (full r)) fun ds=>match ds with
 |[d]=>some (.error ⟨c,f,d⟩)
 |_=>none
def sRaise0(c:Str)(am:AM):SM:=fun r=>zA3 (am (full r)) fun ds=>@ite _ (ds.length<=1000) (qA3 _) (some (.error ⟨c,"",.non⟩)) none
def eAtX(hs:List Str)(f:Str)(a:EM):EM:=fun ρ=>zA3 (a ρ) fun d=>match d with
 |.exc c g x=>if c∈hs/\g=f then okR x else none
 |_=>none
def eIsX(ys ns:List Str)(a:EM):EM:=fun ρ=>zA3 (a ρ) fun d=>match d with
 |.exc c _ _=>if c∈ys then okR (.bl true)else if c∈ns then okR (.bl false)else none
 |_=>none
noncomputable def zY9(i:Nat):Out->Out
 |.nx r=>.nx (r.set i none)
 |.rt d=>.rt d
 |.bk r=>.bk (r.set i none)
 |.ct r=>.ct (r.set i none)
end
end Mi
namespace L3
open PySem PySem.Spec
open L2 hiding Rep RepL
open Mi (Dt Xn R okR zA3 optR zA0 zAB zAH zAE zAG Rh Sl Ro EM TM AM FM IM SM OM Tg Out zB5 zAT zBB full frz frz1 frzAt)
section
variable[Kc]{mg:Str->Option Value}{E:XK}{L n k l:Nat}{te ta tb:TE}{e ea eb ma:EM}{t:TA}{m:AM}
theorem zSP{f:FM}(A:DA mg E t m 0):DE mg E (zLC (spM mg n f) [] E0 t) (Mi.eCallN f m) n:=by
 intro G H σ ρ Q s w p;refine A.step errE s w p fun ds vs G1 H1 S T _ fr o p1=>?_
 refine⟨G1,ds,w.tab.trans fr.ext.g,fr.ext.in',by rw[qBu];exact o.repL,?_⟩;have p2:=PostE.from p1 fr.ext;cases e:f ds with
 |none=>rw[e]at p2;exact p2
 |some r=>
  rw[e]at p2;cases r with
  |error x=>exact p2.elim
  |ok d=>exact p2
def zWU(K:qA1)(f:Str):Sp:=fun vs H Q _=>∃e C y,vs=[.ref e,y]/\H e=some (xn e (.ref C) none)/\PySem.W.xcIn K C=true/\XSet K C f/\∀d,H d=none->d≠e->Q .non (upd (upd H d (.xd [(f,y)])) e (xn e (.ref C) (some d)))
end
end L3
namespace L3
open PySem PySem.Spec
open L2 hiding Rep RepL
open Mi (Dt Xn R okR zA3 optR zA0 zAB zAH zAE zAG Rh Sl Ro EM TM AM FM IM SM OM Tg Out zB5 zAT zBB full frz frz1 frzAt)
section
variable{K:qA1}{C D:Addr}{dd:Option Addr}{cd:ClassData}{sl:Array (Option Value)}{b:Bool}
def xcD(C:Addr)(cd:ClassData)(sl:Array (Option Value)):Bool:=match cd.mro,sl.toList with
 |.ref C'::bm,[_,_,_,_,some (.builtin n),_]=>C'==C && !cd.hasDel&&PySem.W.excTail bm&&n == "ValueError.__new__" && cd.hasDict
 |_,_=>false
theorem zOE(h:K.lookup C=some ⟨.type "type",dd,.cls cd,sl⟩)(h':xcD C cd sl=true):PySem.W.xcIn K C=true:=by
 unfold PySem.W.xcIn;rw[h];exact h'
end
structure XCls(K:qA1)(mg:Str->Option Value)(c:Str)(C:Addr):Prop where
 cl:clK K c=some C
 gm:mg c=some (.ref C)
 is:Xc.XIs K C
structure XIni(P:Program)(w:World)(K:qA1)(mg:Str->Option Value)(base:Heap)(c f:Str)(C:Addr):Prop extends XCls K mg c C where
 kp:qAv K (.ref C)=true
 st:XSet K C f
 fa:qAq K (.ref C) f=some none
 ini:∃fI fd ps,qAq K (.ref C) "__init__" = some (some (.ref fI))/\qF1 K (.ref fI)=true/\FnOk P w K mg base (CXe P w) 1 fI fd ps (zWU K f)/\Binds K fd ps []
theorem zYQ{K:qA1}{c:Str}{C:Addr}(h:qBp K mainGlobals c=some (some (.ref C))):clK K c=some C:=by unfold clK;rw[h]
def spE(K:qA1)(mg:Str->Option Value)(L:Nat)(f:Mi.FM):Sp:=fun vs H Q E=>@spM ⟨K⟩ mg L f vs H Q E
section
variable[Kc]{mg:Str->Option Value}{E:XK}{L n k l:Nat}{te ta tb:TE}{e ea eb ma:EM}{t:TA}{m:AM}
theorem zGK{f:FM}{E':XK}(A:DA mg E t m 0):DE mg E (zLC (sp0 Kc.K mg n f) [] E' t) (Mi.eCallN f m) n:=zSP A
theorem zSS{f:FM}(A:DA mg E t m 0):DE mg E (zLC (spE Kc.K mg n f) [] E t) (Mi.eCall f m) n:=zAR A
end
def zI1(K:qA1):Sp:=fun vs H Q _=>∃(a:Addr)(ns:List Int),vs=[.ref a]/\Same (tabK K) H/\SqL K H a (ns.map V.int)/\ns.length<=63/\(∀i∈ns,i.natAbs.log2<2 ^ 20)/\∀H',Same (tabK K) H'->Q (.bl true) H'
theorem zS5{K:qA1}{mg:Str->Option Value}{L:Nat}{f:FM}(hf:∀ns:List Int,ns.length<=63->(∀i∈ns,i.natAbs.log2<2 ^ 20)->f [.scr ns]=okR (.bl true)):∀vs H Q E,zI1 K vs H Q E->sp0 K mg L f vs H Q E:=by
 letI:Kc:=⟨K⟩
 rintro vs H Q E ⟨a,ns,rfl,tb,hS,hl,hw,q⟩
 refine⟨H,[.scr ns],tb,Same.refl _,⟨_,_,rfl,⟨a,rfl,.inl hS⟩,rfl⟩,?_⟩;rw[hf ns hl hw];intro v G' H' S fr o
 cases(show v=.bl true by cases L<;>exact o)
 exact q H' (tb.trans fr.ext.h)
end L3
namespace Mi
open PySem
section
variable(ρ:Rh)(r:Ro)(a b c:EM)(s t:SM)(q q':TM)(am:AM)
@[simp] theorem x_eC(d:Dt):eC d ρ=okR d:=rfl
@[simp] theorem x_eV(i:Nat):eV i ρ=match ρ[i]? with|some (some d)=>okR d|_=>none:=rfl
@[simp] theorem x_eB(f:Dt->Dt->Option Dt):eB f a b ρ=zA3 (a ρ) fun x=>zA3 (b ρ) fun y=>optR (f x y):=rfl
@[simp] theorem x_eU(f:Dt->Option Dt):eU f a ρ=zA3 (a ρ) fun x=>optR (f x):=rfl
@[simp] theorem zER:aNil ρ=okR []:=rfl
@[simp] theorem zC6:aCons a am ρ=zA3 (a ρ) fun x=>zA3 (am ρ) fun xs=>okR (x::xs):=rfl
@[simp] theorem zGO(f:FM):eCall f am ρ=zA3 (am ρ) f:=rfl
@[simp] theorem zWI(f:List Dt->Option Dt):eBi f am ρ=zA3 (am ρ) fun xs=>optR (f xs):=rfl
@[simp] theorem x_eLst:eLst am ρ=zA3 (am ρ) fun xs=>@ite _ (xs.length<=100000) (qA3 _) (okR (.lst xs)) none:=rfl
@[simp] theorem x_eTup:eTup am ρ=zA3 (am ρ) fun xs=>@ite _ (xs.length<=100000) (qA3 _) (okR (.tup xs)) none:=rfl
@[simp] theorem x_eIsi(n:String):eIsi n a ρ=zA3 (a ρ) fun x=>optR (isiD n x):=rfl
@[simp] theorem x_eAnd:eAnd a b ρ=zA3 (a ρ) fun x=>match x with | .bl k=>if k=true then b ρ else okR (.bl false)|_=>none:=rfl
@[simp] theorem x_eOr:eOr a b ρ=zA3 (a ρ) fun x=>match x with | .bl k=>if k=true then okR (.bl true)else b ρ|_=>none:=rfl
@[simp] theorem x_eNot:eNot a ρ=zA3 (a ρ) fun x=>match x with | .bl k=>okR (.bl (!k))|_=>none:=rfl
@[simp] theorem x_eChain(f g:Dt->Dt->Option Dt):eChain f g a b c ρ=zA3 (a ρ) fun x=>zA3 (b ρ) fun y=>zA3 (optR (f x y)) fun z=>match z with | .bl k=>if k=true then zA3 (c ρ) fun w=>optR (g y w)else okR (.bl false)|_=>none:=rfl
@[simp] theorem x_eIf:eIf q a b ρ=zA3 (q ρ) fun k=>if k=true then a ρ else b ρ:=rfl
@[simp] theorem x_tB:tB a ρ=zA3 (a ρ) fun x=>match x with | .bl k=>okR k|_=>none:=rfl
@[simp] theorem x_tM:tM a ρ=zA3 (a ρ) fun x=>match x with | .bl k=>okR k | .int i=>okR (i != 0) | .non=>okR false|_=>none:=rfl
@[simp] theorem zWG:tAn q q' ρ=zA3 (q ρ) fun k=>if k=true then q' ρ else okR false:=rfl
@[simp] theorem zYY:tOr q q' ρ=zA3 (q ρ) fun k=>if k=true then okR true else q' ρ:=rfl
@[simp] theorem zYZ:tNo q ρ=zA3 (q ρ) fun k=>okR (!k):=rfl
@[simp] theorem zWF:tYes ρ=okR true:=rfl
@[simp] theorem zT9:sNil r=okR (.nx r):=rfl
@[simp] theorem zHY:sSeq s t r=zA3 (s r) fun o=>match o with | .nx ρ'=>t ρ'|o=>okR o:=rfl
@[simp] theorem zE3:sIf q s t r=zA3 (q (full r)) fun k=>if k=true then s r else t r:=rfl
@[simp] theorem x_sDrop:zZA a r=zA3 (a (full r)) fun _=>okR (.nx r):=rfl
@[simp] theorem x_sBreak:zWZ r=okR (.bk r):=rfl
@[simp] theorem x_sCont:zZC r=okR (.ct r):=rfl
@[simp] theorem x_sNever:zWY r=none:=rfl
@[simp] theorem x_sRetN:zZ8 r=okR (.rt .non):=rfl
@[simp] theorem zHX(i n:Nat)(vs:List Nat):sSet i n vs a r=zA3 (a (full r)) fun d=>if d.dep<=n then okR (.nx (r.set i (some (d,n))))else zA3 (a (frz (frzAt vs r))) fun d'=>okR (.nx ((frzAt vs r).set i (some (d',n)))):=rfl
@[simp] theorem zWH(L n:Nat)(vs:List Nat):sRet L n vs a r=zA3 (a (full r)) fun d=>if d.dep<=n/\d.dep<=L then okR (.rt d)else if n=L then zA3 (a (frz (frzAt vs r))) fun d'=>okR (.rt d')else none:=rfl
@[simp] theorem x_sRetV(L i:Nat):sRetV L i r=match r[i]? with|some (some (d,k))=>if k=L\/L=0\/(d.dep<=k/\d.dep<=L/\k<1000)then okR (.rt d)else none|_=>none:=rfl
@[simp] theorem zHZ:full []=[]:=rfl
@[simp] theorem zGN(o:Option Sl)(r:Ro):full (o::r)=o.map qE2::full r:=rfl
@[simp] theorem x_frz_nil:frz []=[]:=rfl
@[simp] theorem x_frz_none(r:Ro):frz (none::r)=none::frz r:=rfl
@[simp] theorem x_frz_some(d:Dt)(n:Nat)(r:Ro):frz (some (d,n)::r)=(if n=0\/d.dep=0 then some d else none)::frz r:=rfl
@[simp] theorem x_frzAt_nil(r:Ro):frzAt [] r=r:=rfl
@[simp] theorem x_frzAt_cons(i:Nat)(v:List Nat)(r:Ro):frzAt (i::v) r=frzAt v (frz1 i r):=rfl
@[simp] theorem x_frz1(i:Nat)(r:Ro):frz1 i r=match r[i]? with|some (some (d,_))=>r.set i (some (d,0))|_=>r:=rfl
@[simp] theorem x_startO(n:Nat)(ds:List Dt):startO n ds=ds.map (fun d=>some (d,0))++qA9 (n-ds.length) none:=rfl
@[simp] theorem x_runF(P n:Nat)(ds:List Dt):runF P n s ds=if ds.length=P then zA3 (s (startO n ds)) endF else none:=rfl
@[simp] theorem x_end1(r:Ro):endF (.nx r)=okR .non:=rfl
@[simp] theorem x_end2(d:Dt):endF (.rt d)=okR d:=rfl
end
@[simp] theorem zZ4(i j:Int):addD (.int i) (.int j)=some (.int (i+j)):=rfl
@[simp] theorem zWJ(i j:Str):addD (.str i) (.str j)=@ite _ (i.length+j.length<=100000) (qA3 _) (some (.str (i++j))) none:=rfl
@[simp] theorem zTA(i j:List Dt):addD (.lst i) (.lst j)=@ite _ (i.length+j.length<=100000) (qA3 _) (some (.lst (i++j))) none:=rfl
@[simp] theorem zUH(i j:Int):subD (.int i) (.int j)=some (.int (i-j)):=rfl
@[simp] theorem zUJ(i j:Int):mulD (.int i) (.int j)=@ite _ (((-18446744073709551616<i/\i<18446744073709551616)\/(-18446744073709551616<j/\j<18446744073709551616))\/i.natAbs.log2+j.natAbs.log2<=67108864) (qA3 _) (some (.int (i*j))) none:=rfl
@[simp] theorem v_div(i j:Int):divD (.int i) (.int j)=@ite _ (0<j/\j<1000000000000000000000000) (qA3 _) (some (.int (i/j))) none:=rfl
@[simp] theorem v_mod(i j:Int):modD (.int i) (.int j)=if 0<j then some (.int (i%j))else none:=rfl
@[simp] theorem v_pow(i j:Int):powD (.int i) (.int j)=@ite _ (0<=j/\j<=1000000/\i.natAbs<18446744073709551616) (qA3 _) (some (.int (i ^ j.toNat))) none:=rfl
@[simp] theorem v_neg(i:Int):negD (.int i)=some (.int (-i)):=rfl
@[simp] theorem v_cmp(p:Int->Int->Bool)(i j:Int):cmpD p (.int i) (.int j)=some (.bl (p i j)):=rfl
@[simp] theorem v_eq(x y:Dt):eqD x y=if x.dep<=40/\y.dep<=40 then some (.bl (Dt.eq x y))else none:=rfl
@[simp] theorem v_ne(x y:Dt):neD x y=if x.dep<=40/\y.dep<=40 then some (.bl (!Dt.eq x y))else none:=rfl
@[simp] theorem v_is(x:Dt):isD x .non=some (.bl (isNonD x)):=rfl
@[simp] theorem v_isnt(x:Dt):isntD x .non=some (.bl (!isNonD x)):=rfl
@[simp] theorem v_isN1:isNonD .non=true:=rfl
@[simp] theorem v_isN2(i:Int):isNonD (.int i)=false:=rfl
@[simp] theorem v_isN3(i:List Dt):isNonD (.lst i)=false:=rfl
@[simp] theorem v_isN4(i:List Dt):isNonD (.tup i)=false:=rfl
@[simp] theorem v_isN5(i:Str):isNonD (.str i)=false:=rfl
@[simp] theorem v_isN6(i:Bool):isNonD (.bl i)=false:=rfl
@[simp] theorem v_ixL(xs:List Dt)(i:Int):ixD (.lst xs) (.int i)=itA xs i:=rfl
@[simp] theorem v_ixT(xs:List Dt)(i:Int):ixD (.tup xs) (.int i)=itA xs i:=rfl
@[simp] theorem v_ixS(ns:List Int)(i:Int):ixD (.scr ns) (.int i)=(itA ns i).map .int:=rfl
@[simp] theorem v_lenL(xs:List Dt):lenD [.lst xs]=some (.int xs.length):=rfl
@[simp] theorem v_lenT(xs:List Dt):lenD [.tup xs]=some (.int xs.length):=rfl
@[simp] theorem v_lenS(ns:List Int):lenD [.scr ns]=some (.int ns.length):=rfl
@[simp] theorem v_listL(xs:List Dt):listD [.lst xs]=some (.lst xs):=rfl
@[simp] theorem v_listT(xs:List Dt):listD [.tup xs]=some (.lst xs):=rfl
@[simp] theorem v_listS(ns:List Int):listD [.scr ns]=some (.lst (ns.map .int)):=rfl
theorem zUI{j:Int}(h0:0<=j)(h1:j<=100000):rangeD [.int j]=some (.lst (nums 0 j.toNat)):=by
 show(@ite _ ((-4611686018427387904<=j/\j<4611686018427387904)/\j<=100000) (qA3 _) (some (Dt.lst (nums 0 j.toNat))) none)=_
 rw[if_pos ⟨⟨by lia,by lia⟩,h1⟩]
@[simp] theorem v_dn:Dt.non.dep=0:=rfl
@[simp] theorem v_db(b:Bool):(Dt.bl b).dep=0:=rfl
@[simp] theorem v_di(b:Int):(Dt.int b).dep=0:=rfl
@[simp] theorem v_ds(b:Str):(Dt.str b).dep=0:=rfl
@[simp] theorem v_dS(b:List Int):(Dt.scr b).dep=1000:=by rw[Dt.dep]
@[simp] theorem v_dl(xs:List Dt):(Dt.lst xs).dep=Dt.depL xs+1:=by rw[Dt.dep]
@[simp] theorem v_dt(xs:List Dt):(Dt.tup xs).dep=Dt.depL xs+1:=by rw[Dt.dep]
@[simp] theorem v_dnil:Dt.depL []=0:=by rw[Dt.depL]
@[simp] theorem zFL(x:Dt)(r:List Dt):Dt.depL (x::r)=max x.dep (Dt.depL r):=by rw[Dt.depL]
@[simp] theorem v_e1(i j:Int):Dt.eq (.int i) (.int j)=decide (i=j):=by rw[Dt.eq];by_cases h:i=j<;>simp[h]
@[simp] theorem v_e2(i j:Str):Dt.eq (.str i) (.str j)=decide (i=j):=by rw[Dt.eq];by_cases h:i=j<;>simp[h]
@[simp] theorem v_e3(i j:Bool):Dt.eq (.bl i) (.bl j)=decide (i=j):=by rw[Dt.eq];by_cases h:i=j<;>simp[h]
@[simp] theorem v_e4(i j:List Dt):Dt.eq (.lst i) (.lst j)=Dt.eqL i j:=by rw[Dt.eq]
@[simp] theorem v_e5(i j:List Dt):Dt.eq (.tup i) (.tup j)=Dt.eqL i j:=by rw[Dt.eq]
@[simp] theorem v_e6:Dt.eq .non .non=true:=by rw[Dt.eq]
@[simp] theorem zD4:∀(ns:List Int),Dt.depL (ns.map Dt.int)=0
 |[]=>by simp
 |n::r=>by rw[qAm,zFL,zD4 r];rfl
@[simp] theorem zSN:∀(xs ys:List Dt),Dt.depL (xs++ys)=max (Dt.depL xs) (Dt.depL ys)
 |[],ys=>by simp
 |x::r,ys=>by rw[qDl,zFL,zFL,zSN r ys];exact(Nat.max_assoc _ _ _).symm
@[simp] theorem zFE:∀(ns ms:List Int),Dt.eqL (ns.map Dt.int) (ms.map Dt.int)=decide (ns=ms)
 |[],[]=>by simp[Dt.eqL]
 |[],_::_=>by simp[Dt.eqL]
 |_::_,[]=>by simp[Dt.eqL]
 |n::r,m::q=>by rw[qAm,qAm,Dt.eqL,zFE r q,v_e1];simp
theorem zEU{α:Type}{xs:List α}{i:Int}{j:Nat}{v:α}(e:i=(j:Int))(h:xs[j]?=some v):itA xs i=some v:=by
 have hj:j<xs.length:=(qA2.mp h).1;subst e;unfold itA ixA;rw[if_pos (by lia),if_pos (by lia)]
 simpa using h
theorem zG1{n:Nat}{i:Int}(h0:0<=i)(h1:i<n):ixA n i=some i.toNat:=by
 unfold ixA;rw[if_pos h0,if_pos h1]
theorem zS9{ns:List Int}{i:Int}(h0:0<=i)(h1:i<ns.length):itA (ns.map Dt.int) i=some (.int (ns.getD i.toNat 0)):=by
 refine zEU (j:=i.toNat) (by lia) ?_;rw[qAf,qA0,qA7 (by lia)];rfl
theorem zVO{ns:List Int}{i:Int}(h0:0<=i)(h1:i<ns.length):itA ns i=some (ns.getD i.toNat 0):=by
 refine zEU (j:=i.toNat) (by lia) ?_;rw[qA0,qA7 (by lia)];rfl
@[simp] theorem set_int(ns:List Int)(i:Nat)(x:Int):(ns.map Dt.int).set i (.int x)=(ns.set i x).map Dt.int:=by rw[qC4]
theorem zN7{ρ:Rh}{k:Nat}{tg:Tg}{c:TM}{e:EM}(f:Dt->Dt):∀(ds acc:List Dt),(∀d∈ds,∃bs,zB5 tg d=some bs/\c (zAT (ρ++qA9 k none) bs)=okR true/\e (zAT (ρ++qA9 k none) bs)=okR (f d))->compGo ρ k tg c e ds acc=okR (acc++ds.map f)
 |[],acc,_=>by simp[compGo]
 |d::ds,acc,h=>by
  obtain⟨bs,h1,h2,h3⟩:=h d (by simp);rw[compGo,h1];simp only;rw[h2,zA0,if_pos rfl,h3,zA0,zN7 f ds (acc++[f d]) fun d hd=>h d (by simp[hd])];simp
theorem zBA{ρ:Rh}{k:Nat}{tg:Tg}{c:TM}{e:EM}(p:Dt->Bool)(f:Dt->Dt):∀(ds acc:List Dt),(∀d∈ds,∃bs,zB5 tg d=some bs/\c (zAT (ρ++qA9 k none) bs)=okR (p d)/\(p d=true->e (zAT (ρ++qA9 k none) bs)=okR (f d)))->compGo ρ k tg c e ds acc=okR (acc++(ds.filter p).map f)
 |[],acc,_=>by simp[compGo]
 |d::ds,acc,h=>by
  obtain⟨bs,h1,h2,h3⟩:=h d (by simp);rw[compGo,h1];simp only;rw[h2,zA0];cases hp:p d with
  |true=>
   rw[if_pos rfl,h3 hp,zA0,zBA p f ds (acc++[f d]) fun d hd=>h d (by simp[hd])];simp[hp]
  |false=>
   rw[if_neg (by decide),zBA p f ds acc fun d hd=>h d (by simp[hd])];simp[hp]
theorem zJ9{tg:Tg}{b:SM}(Pv:Nat->Ro->Prop):∀(ds:List Dt)(i:Nat)(r:Ro),Pv i r->(∀(j:Nat)(d:Dt)(r:Ro),ds[j]?=some d->Pv (i+j) r->∃bs r',zB5 tg d=some bs/\b (zBB r bs)=okR (.nx r')/\Pv (i+j+1) r') ->
  ∃r',forGo tg b ds r=okR (.nx r')/\Pv (i+ds.length) r'
 |[],i,r,h,_=>⟨r,by simp[forGo],by simpa using h⟩
 |d::ds,i,r,h,hs=>by
  obtain⟨bs,r1,h1,h2,h3⟩:=hs 0 d r (by simp) (by simpa using h);obtain⟨r2,h4,h5⟩:=zJ9 Pv ds (i+1) r1 (by simpa using h3) fun j e r he hp=>by
   have:=hs (j+1) e r (by simpa using he) (by rw[show i+(j+1)=i+1+j by lia];exact hp)
   rw[show i+1+j+1=i+(j+1)+1 by lia];exact this
  refine⟨r2,?_,by rw[qAo,show i+(ds.length+1)=i+1+ds.length by lia];exact h5⟩;rw[forGo,h1];simp only;rw[h2,zA0];exact h4
theorem zJM{c:TM}{b:SM}(Pv:Ro->Prop)(μ:Ro->Nat)(Rv:Ro->Prop)(hc:∀r,Pv r->(c (full r)=okR false/\Rv r)\/(c (full r)=okR true/\∃r',b r=okR (.nx r')/\Pv r'/\μ r'<μ r)) :
  ∀(m:Nat)(r:Ro),Pv r->μ r<m->∃r',whGo c b m r=okR (.nx r')/\Rv r'
 |0,r,_,h=>by lia
 |m+1,r,h,hm=>by
  rw[whGo]
  rcases hc r h with⟨h1,h2⟩|⟨h1,r1,h2,h3,h4⟩
  ·rw[h1,zA0,if_neg (by decide)];exact⟨r,rfl,h2⟩
  ·rw[h1,zA0,if_pos rfl,h2,zA0];exact zJM Pv μ Rv hc m r1 h3 (by lia)
theorem zNN{c:TM}{b:SM}(Pv:Ro->Prop)(μ:Ro->Nat)(Rv:Ro->Prop){r:Ro}(h0:Pv r)(hm:μ r<1000000)(hc:∀r,Pv r->(c (full r)=okR false/\Rv r)\/(c (full r)=okR true/\∃r',b r=okR (.nx r')/\Pv r'/\μ r'<μ r)):∃r',sWhile c b r=okR (.nx r')/\Rv r':=
 zJM Pv μ Rv hc WN r h0 (by rw[za0];exact hm)
end Mi
namespace Mi
open PySem
section
variable(ρ:Rh)(r:Ro)(a:EM)(am:AM)(s:SM)
@[simp] theorem x_noE_ok{α:Type}(x:α):noE (okR x)=okR x:=rfl
@[simp] theorem x_noE_none{α:Type}:noE (none:R α)=none:=rfl
@[simp] theorem x_noE_err{α:Type}(e:Xn):noE (some (.error e):R α)=none:=rfl
@[simp] theorem x_eCallN(f:FM):eCallN f am ρ=zA3 (am ρ) fun ds=>noE (f ds):=rfl
@[simp] theorem x_eMkX(c f:Str):eMkX c f am ρ=zA3 (am ρ) fun ds=>match ds with|[d]=>okR (.exc c f d)|_=>none:=rfl
@[simp] theorem x_sRaise(c f:Str):zWX c f am r=zA3 (am (full r)) fun ds=>match ds with|[d]=>some (.error ⟨c,f,d⟩)|_=>none:=rfl
@[simp] theorem x_eAtX(hs:List Str)(f:Str):eAtX hs f a ρ=zA3 (a ρ) fun d=>match d with | .exc c g x=>if c∈hs/\g=f then okR x else none|_=>none:=rfl
@[simp] theorem x_eIsX(ys ns:List Str):eIsX ys ns a ρ=zA3 (a ρ) fun d=>match d with | .exc c _ _=>if c∈ys then okR (.bl true)else if c∈ns then okR (.bl false)else none|_=>none:=rfl
@[simp] theorem x_gone_nx(i:Nat):zY9 i (.nx r)=.nx (r.set i none):=rfl
@[simp] theorem x_gone_rt(i:Nat)(d:Dt):zY9 i (.rt d)=.rt d:=rfl
end
example (d:Dt):True:=trivial
end Mi
namespace L2
open PySem PySem.Spec PyProof.Rows
section
variable{X:Cx}
noncomputable def zX2:R2:=fun x y H Q=>match x,y with
 |.int i,.int j=>Q (.int (Builtin.bitXor i j)) H
 |_,_=>False
theorem zWL:OpR X (binaryOp .BitXor) zX2:=by
 intro pins s σ H x y v u Q I rx ry h;cases x<;>cases y<;>first
  |exact zXK pins s σ H _ _ v u Q I rx ry ⟨_,_,rfl,rfl,h⟩
  |exact qA6 h
def rRepU:R2:=fun x y H Q=>match x,y with
 |.ref l,.int k=>∃xs,H l=some (.lst xs)/\(-(2 ^ 63)<=k/\k<2 ^ 63)/\xs.length*k.toNat<=sizeLine/\∀p,H p=none->Q (.ref p) (upd H p (.lst (qA9 k.toNat xs).flatten))
 |_,_=>False
noncomputable def bL(K:qA1)(t:TE):TT:=fun σ H Q=>t σ H fun x H'=>match x with
 |.bl k=>Q k H'
 |.int i=>Q (i != 0) H'
 |.non=>Q false H'
 |.ref p=>∃xs,(SqL K H' p xs\/SqT K H' p xs)/\Q (!xs.isEmpty) H'
 |_=>False
theorem pt_l{K:qA1}{a:Expr}{ta:TE}(ha:PE X a ta)(he:∀whole,isTrue a X.env whole=(do let v <- whole;standAt a.pos;holding [v] (truthy v)):=by intro _;rfl)(hK:X.K=K:=by rfl):PT X a (bL K ta):=by
 subst hK;intro pins s σ H Q I h;refine isTrue_plain (thn (ha pins s σ H _ I h) fun v s1 z0=>?_) (he _);obtain⟨x,H1,I1,r1,q1⟩:=z0;refine thn (zTB pins s1 σ H1 x v Q I1 r1 ?_) fun _ _ q=>q
 cases x with
 |bl k=>exact⟨k,rfl,q1⟩
 |int i=>exact⟨_,rfl,q1⟩
 |non=>exact⟨_,rfl,q1⟩
 |ref p=>
  obtain⟨xs,h1|h1,h2⟩:=q1
  ·exact⟨_,.inl ⟨xs,h1,rfl⟩,h2⟩
  ·exact⟨_,.inr (.inl ⟨xs,h1,rfl⟩),h2⟩
 |_=>exact qA6 q1
def extM:V->List V->Hp->VK->Prop:=fun x vs H Q=>match x,vs with
 |.ref l,[.ref b]=>∃xs zs,H l=some (.lst xs)/\H b=some (.lst zs)/\xs.length+zs.length<=sizeLine/\Q .non (upd H l (.lst (xs++zs)))
 |_,_=>False
noncomputable def posI(k:Int):List Int->Option Nat
 |[]=>none
 |x::r=>if x=k then some 0 else(posI k r).map (·+1)
theorem zPZ:∀{ns:List Int}{us:List Value},Vals (ns.map V.int) us->qFi us=true
 |[],_,.nil=>rfl
 |n::r,_,.cons a t=>by obtain⟨k,rfl⟩:=a;have:=zPZ (ns:=r) t;simpa[qFi]using this
theorem zTK{k:Int}:∀{ns:List Int}{us:List Value}{j:Nat},Vals (ns.map V.int) us->posI k ns=some j->qGf k us=some j
 |[],_,_,.nil,h=>by cases h
 |n::r,_,j,.cons a t,h=>by
  obtain⟨q,rfl⟩:=a;unfold posI at h;unfold qGf
  by_cases e:n=k
  ·rw[if_pos e]at h;cases h;subst e;simp[qD1]
  ·rw[if_neg e]at h;cases h':posI k r with
   |none=>rw[h']at h;cases h
   |some z=>
    rw[h']at h;cases h;rw[zTK t h'];have hb:(n==k)=false:=by simpa using e
    simp[qD1,hb]
def lixM:V->List V->Hp->VK->Prop:=fun x vs H Q=>match x,vs with
 |.ref l,[.int k]=>∃ns j,H l=some (.lst (ns.map V.int))/\posI k ns=some j/\Q (.int j) H
 |_,_=>False
theorem zVF:MtR X "list.index" lixM:=by
 intro pins s σ H x vs v us Q I rx rv h;cases x with
 |ref l=>
  cases vs with
  |nil=>exact qA6 h
  |cons hd1 tl1=>
   cases hd1 with
   |int k=>
    cases tl1 with
    |nil=>
     obtain⟨ns,j,h1,h2,h3⟩:=h;cases rx;obtain⟨u,rfl,ru⟩:=zHQ rv;obtain⟨t,rfl⟩:=ru;obtain⟨z,its,n,r,hl,e⟩:=I.lstM h1;obtain⟨a,b,c⟩:=PySem.W.kf_at_spec (zTK r h2);rw[sizeLine_eq]at z;refine call_meets qDe ⟨_,e,rfl⟩ PySem.F.entry_list_index (PySem.F.args_list_index_2 _ _)
      (MeetsSeq.list_index l its.toArray n (.int k t) (qD1 k) (fun y hy=>PySem.W.kf_eq (zPZ r) y (by simpa using hy)) j (by simpa using a) (by lia) (by simpa using b) (fun i hi hlt=>by simpa using c i (by simpa using hi) hlt)) ⟨e,?_⟩
     exact⟨.int _,H,I.tok _,⟨_,rfl⟩,h3⟩
    |cons _ _=>exact qA6 h
   |_=>exact qA6 h
 |_=>exact qA6 h
end
section
variable{X:Cx}{K:qA1}
end
end L2
namespace Mi
open PySem
noncomputable section
noncomputable def xorD:Dt->Dt->Option Dt
 |.int i,.int j=>some (.int (Builtin.bitXor i j))
 |_,_=>none
noncomputable def repD:Dt->Dt->Option Dt
 |.lst xs,.int k=>@ite _ ((-4611686018427387904<=k/\k<4611686018427387904)/\xs.length*k.toNat<=100000) (qA3 _) (some (.lst (qA9 k.toNat xs).flatten)) none
 |_,_=>none
def tL(a:EM):TM:=fun ρ=>zA3 (a ρ) fun x=>match x with
 |.bl k=>okR k
 |.int i=>okR (i != 0)
 |.non=>okR false
 |.lst xs=>okR (!xs.isEmpty)
 |.tup xs=>okR (!xs.isEmpty)
 |_=>none
def iRv(e:AM):IM:=fun ρ=>zA3 (e ρ) fun vs=>match vs with
 |[.lst xs]=>okR xs.reverse
 |_=>none
noncomputable def intsD:List Dt->Option (List Int)
 |[]=>some []
 |.int i::r=>(intsD r).map (i::·)
 |_::_=>none
def posI(k:Int):List Int->Option Nat
 |[]=>none
 |x::r=>if x=k then some 0 else(posI k r).map (·+1)
def eMl(f:List Dt->List Dt->Option Dt)(a:EM)(am:AM):EM:=fun ρ=>zA3 (a ρ) fun x=>match x with
 |.lst xs=>zA3 (am ρ) fun ds=>optR (f xs ds)
 |_=>none
def lixD(xs ds:List Dt):Option Dt:=match ds with
 |[.int k]=>match intsD xs with
  |some ns=>(posI k ns).map fun j=>.int (j:Int)
  |none=>none
 |_=>none
def sExt(i n:Nat)(e:EM):SM:=fun ρ=>match ρ[i]? with
 |some (some (.lst ds,k+1))=>zA3 (e (full ρ)) fun d=>match d with
  |.lst es=>@ite _ (ds.length+es.length<=100000/\Dt.depL es<=n/\Dt.depL es<=k) (qA3 _) (okR (.nx (ρ.set i (some (.lst (ds++es),k+1))))) none
  |_=>none
 |_=>none
noncomputable def low(i:Nat)(ρ:Ro):Ro:=match ρ[i]? with
 |some (some (.lst ds,_+1))=>ρ.set i (some (.lst ds,1))
 |_=>ρ
def sAppF(i:Nat)(vs:List Nat)(e:EM):SM:=fun ρ=>match(frzAt vs (low i ρ))[i]? with
 |some (some (.lst ds,1))=>zA3 (e (frz (frzAt vs (low i ρ)))) fun d=>@ite _ (ds.length<=100000) (qA3 _) (okR (.nx ((frzAt vs (low i ρ)).set i (some (.lst (ds++[d]),1))))) none
 |_=>none
def sItemF(i:Nat)(vs:List Nat)(e1 e2:EM):SM:=fun ρ=>zA3 (e2 (frz (frzAt vs (low i ρ)))) fun d=>match(frzAt vs (low i ρ))[i]? with
 |some (some (.lst ds,1))=>zA3 (e1 (full (frzAt vs (low i ρ)))) fun z=>match z with
  |.int z=>match ixA ds.length z with
   |some q=>okR (.nx ((frzAt vs (low i ρ)).set i (some (.lst (ds.set q d),1))))
   |none=>none
  |_=>none
 |_=>none
def sItemS(i:Nat)(e1 e2:EM):SM:=fun ρ=>match(low i ρ)[i]? with
 |some (some (.lst ds,1))=>zA3 (e2 (full (low i ρ))) fun y=>match y with
  |.int y=>match itA ds y with
   |some d=>zA3 (e1 (full (low i ρ))) fun z=>match z with
    |.int z=>match ixA ds.length z with
     |some q=>okR (.nx ((low i ρ).set i (some (.lst (ds.set q d),1))))
     |none=>none
    |_=>none
   |none=>none
  |_=>none
 |_=>none
end
end Mi
namespace L3
open PySem PySem.Spec
open L2 hiding Rep RepL
open Mi (Dt Xn R okR zA3 optR zA0 zAB zAH zAE zAG Rh Sl Ro EM TM AM FM IM SM Tg Out zB5 zAT zBB full frz frz1 frzAt)
section
variable[Kc]{mg:Str->Option Value}{E:XK}{L n k l:Nat}{te ta tb:TE}{e ea eb ma:EM}{t:TA}{m:AM}
theorem zTF:ROp zX2 Mi.xorD n:=by
 intro mg E G H d e x y Q s h1 h2 p;cases d with
 |int i=>
  cases e with
  |int j=>cases(show x=.int i from h1);cases(show y=.int j from h2);exact zRN s p rfl rfl rfl
  |_=>exact p.elim
 |_=>exact p.elim
theorem zH9{G:Hp}{ds:List Dt}{xs:List V}(r:RepL G ds xs):(!xs.isEmpty) = !ds.isEmpty:=by
 have:=r.length
 cases xs<;>cases ds<;>simp_all
theorem dt_l(A:DE mg E ta ma k):DT mg E (bL Kc.K ta) (Mi.tL ma):=by
 intro G H σ ρ Q s w p;refine(zAW A).step errT s w p fun d v G1 H1 S _ fr o p1=>?_
 cases d with
 |bl b=>cases(show v=.bl b from o);exact p1 H1 fr.ext.h
 |int b=>cases(show v=.int b from o);exact p1 H1 fr.ext.h
 |non=>cases(show v=.non from o);exact p1 H1 fr.ext.h
 |lst ds=>
  obtain⟨a,xs,rfl,ha,r⟩:=o;refine⟨xs,.inl (SqL.of (fr.ext.in' _ _ ha)),?_⟩;rw[zH9 r];exact p1 H1 fr.ext.h
 |tup ds=>
  obtain⟨a,xs,rfl,ha,r⟩:=o;refine⟨xs,.inr (SqT.of (fr.ext.in' _ _ ha)),?_⟩;rw[zH9 r];exact p1 H1 fr.ext.h
 |_=>exact p1.elim
def RMl(r:V->List V->Hp->VK->Prop)(f:List Dt->List Dt->Option Dt)(n:Nat):Prop:=∀(mg:Str->Option Value)(E:XK)(G H:Hp)(a:Addr)(es ds:List Dt)(xs vs:List V)(Q:VK),Same G H->G a=some (.lst xs)->RepL G es xs->RepL G ds vs->PostE mg E G H n (optR (f es ds)) Q->r (.ref a) vs H Q
theorem zZZ{r:V->List V->Hp->VK->Prop}{f:List Dt->List Dt->Option Dt}(hr:RMl r f n)(A:DE mg E te e k)(B:DA mg E t m 0):DE mg E (tML r te t) (Mi.eMl f e m) n:=by
 intro G H σ ρ Q s w p;refine(zAW A).step errE s w p fun d v G1 H1 S _ fr o p1=>?_
 cases d with
 |lst es=>
  obtain⟨a,xs,rfl,ha,ra⟩:=o;refine⟨xs,fr.ext.in' _ _ ha,?_⟩;have p2:PostE mg E G H n (zA3 (m ρ) fun ds=>optR (f es ds)) Q:=p1;refine B.step (errE.from fr.ext) fr.ext.in' (w.mono fr.ext.g) p2 fun ds vs G2 H2 S2 T2 _ fr2 o2 p3=>?_
  exact hr mg E G2 H2 a es ds xs vs Q fr2.ext.in' (fr2.ext.g _ _ ha) (RepL.mono fr2.ext.g ra) o2.repL (PostE.from p3 (fr.ext.trans fr2.ext))
 |_=>exact p1.elim
theorem zP7(k:Int):∀ns:List Int,Mi.posI k ns=L2.posI k ns
 |[]=>rfl
 |x::r=>by unfold Mi.posI L2.posI;rw[zP7 k r]
theorem zHB{G:Hp}:∀{ds:List Dt}{ns:List Int}{xs:List V},Mi.intsD ds=some ns->RepL G ds xs->xs=ns.map V.int
 |[],ns,xs,h,r=>by cases h;exact r
 |d::q,ns,xs,h,r=>by
  cases d with
  |int i=>
   rw[Mi.intsD]at h;cases e:Mi.intsD q with
   |none=>rw[e]at h;cases h
   |some ms=>
    rw[e]at h;cases h;obtain⟨x,t,rfl,a,b⟩:=r
    cases(show x=.int i from a)
    rw[zHB e b];rfl
  |_=>cases h
theorem zRH:RMl lixM Mi.lixD n:=by
 intro mg E G H a es ds xs vs Q s ha ra rv p;cases ds with
 |nil=>exact qA6 p
 |cons hd1 tl1=>
  cases hd1 with
  |int k=>
   cases tl1 with
   |nil=>
    obtain⟨x,rfl,hx⟩:=zF0 rv
    cases(show x=.int k from hx)
    unfold Mi.lixD at p;cases ei:Mi.intsD es with
    |none=>rw[ei]at p;exact p.elim
    |some ns=>
     rw[ei]at p;dsimp only at p;cases ej:Mi.posI k ns with
     |none=>rw[ej]at p;exact p.elim
     |some j=>
      rw[ej]at p;refine⟨ns,j,?_,by rw[<- zP7];exact ej,PostE.val p (Ext.refl s) rfl rfl⟩;rw[s _ _ ha,zHB ei ra]
   |cons _ _=>exact qA6 p
  |_=>exact qA6 p
end
end L3
namespace L3
open PySem PySem.Spec
open L2 hiding Rep RepL
open Mi (Dt Xn R okR zA3 optR zA0 zAB zAH zAE zAG Rh Sl Ro EM TM AM FM IM SM Tg Out zB5 zAT zBB full frz frz1 frzAt)
section
variable[Kc]{G0 H0 S0:Hp}{σ:St}{ρ:Ro}{G H:Hp}{As:Nat->Addr->Prop}
theorem Sat.low(a:Sat G0 H0 S0 σ ρ G H As)(i:Nat):∃G1 As1,Sat G0 H0 S0 σ (Mi.low i ρ) G1 H As1:=by
 unfold Mi.low
 split
 ·rename_i ds k e1
  obtain⟨v,h1,q,xs,T,rfl,hq,kd⟩:=a.at i _ _ e1;obtain⟨s1,s2⟩:=zCY (S:=fun b=>∃r,T r b) a.ext.in';have ui:∀b,(∃r,T r b)->As i b:=fun b ⟨r,z⟩=>kd.sub r b z
  have x:Ext G0 H0 (over G H fun b=>∃r,T r b) H:=⟨a.ext.g.trans s1,a.ext.h,s2,fun b hb=>by
   have z:¬ ∃r,T r b:=fun z=>hb (a.new i b (ui b z)).1
   rw[zCI z];exact a.ext.old b hb⟩
  refine⟨over G H fun b=>∃r,T r b,fun j b=>As j b/\¬ ∃r,T r b,x,a.stb.trans s1,a.tab,by simp[a.len],fun j e n h=>?_,fun j l b p q=>a.dis j l b p.1 q.1,fun j b p=>?_⟩
  ·have hj:j<ρ.length:=by
    have:=(qA2.mp h).1
    simpa using this
   by_cases z:i=j
   ·subst z;rw[qA8 hj]at h;cases h;exact⟨.ref q,h1,q,xs,fun _ _=>False,rfl,hq,⟨kd.len,fun r d x g1 g2=>(kd.own r d x g1 g2).rep s1 fun b o hb e=>by rw[zE7 ⟨r,hb⟩];exact e,⟨kd.top,fun⟨r,z⟩=>kd.out r z⟩,fun _ z=>z,fun _ _ _ z=>z.elim,fun _ _ z=>z.elim⟩⟩
   ·rw[qAb z]at h;obtain⟨u,q1,q2⟩:=a.at j e n h;exact⟨u,q1,(q2.mono s1 (Same.refl _)).sub fun b hb=>⟨hb,fun w=>z (a.dis i j b (ui b w) hb)⟩⟩
  ·obtain⟨n1,n2,n3⟩:=a.new j b p.1;exact⟨n1,by rw[zCI p.2];exact n2,n3⟩
 ·exact⟨G,As,a⟩
end
section
variable[Kc]{mg:Str->Option Value}{E:XK}{L n k l:Nat}{te ta tb:TE}{e ea eb ma:EM}{t:TA}{m:AM}
theorem zVZ(i:Nat)(vs:List Nat)(A:DE mg E te e n):DS mg E L (zOO (tML appM (vM i) (zGR te tNil))) (Mi.sAppF i vs e):=by
 intro G0 H0 S0 σ ρ G H As D a p;obtain⟨G1,As1,a1⟩:=a.low i;obtain⟨G2,As2,a2⟩:=Sat.frzAt vs a1;unfold Mi.sAppF at p
 generalize hρ:frzAt vs (Mi.low i ρ)=ρ2 at p a2
 split at p
 ·rename_i ds e1
  obtain⟨v,h1,q,xs,T,rfl,hq,kd⟩:=a2.at i _ _ e1;unfold zOO tML vM;rw[h1];refine⟨xs,hq,?_⟩;refine(zAW A).step (errS.from a2.ext) a2.ext.in' a2.frz p fun d y G3 H3 S _ fr o p1=>?_
  split at p1
  ·rename_i hz
   refine⟨xs,fr.ext.h _ _ hq,by rw[kd.len];exact L2.big (by lia),?_⟩;have a3:=a2.wider fr.ext;have kd1:Kids (Own G3 H3 0) (As2 i) q ds xs T:=kd.imp (fun _ _ _ _ w=>w.mono fr.ext.g fr.ext.h) fun _ z=>z
   refine p1 σ G3 _ _ (a3.store (S:=As2 i) kd.top h1 ⟨q,_,fun _ _=>False,rfl,zAJ,⟨by simp[kd.len],fun r d' z g1 g2=>?_,kd.top,fun _ z=>z,fun _ _ _ z=>z.elim,fun _ _ z=>z.elim⟩⟩ fun b z=>.inl z)
   by_cases hr:r<ds.length
   ·rw[qAc hr]at g1;rw[qAc (by rw[kd.len];exact hr)]at g2;exact kd1.own r d' z g1 g2
   ·rw[qAd (by lia)]at g1;rw[qAd (by rw[kd.len];lia),kd.len]at g2;have hq0:r-ds.length=0:=by
     have:=(qA2.mp g1).1
     simp at this;lia
    rw[hq0]at g1 g2;simp at g1 g2;subst g1;subst g2;exact o
  ·exact p1.elim
 ·exact p.elim
theorem zSL(i:Nat)(vs:List Nat){n1:Nat}{t1 t2:TE}{e1 e2:EM}(A:DE mg E t1 e1 n1)(B:DE mg E t2 e2 n):DS mg E L (tAsg t2 (gSub (vM i) t1 setM)) (Mi.sItemF i vs e1 e2):=by
 intro G0 H0 S0 σ ρ G H As D a p;obtain⟨G1,As1,a1⟩:=a.low i;obtain⟨G2,As2,a2⟩:=Sat.frzAt vs a1;unfold Mi.sItemF at p
 generalize hρ:frzAt vs (Mi.low i ρ)=ρ2 at p a2
 refine(zAW B).step (errS.from a2.ext) a2.ext.in' a2.frz p fun d y G3 H3 S _ fr o p1=>?_
 have a3:=a2.wider fr.ext
 split at p1
 ·rename_i ds er
  obtain⟨v,h1,q,xs,T,rfl,hq,kd⟩:=a3.at i _ _ er;unfold gSub vM;rw[h1];obtain⟨J,x,s,w⟩:=a3.full;refine(zAW A).step (errS.from x) x.in' w p1 fun z u G4 H4 S2 ee fr2 o2 p2=>?_
  split at p2
  ·rename_i z
   cases(show u=.int z from o2)
   split at p2
   ·rename_i c ei
    rw[zIA]at ei;refine⟨xs,c,fr2.ext.h _ _ hq,by rw[kd.len];exact ei,?_⟩;have a4:=a3.grow fr2.ext.h;refine p2 σ G3 _ _ (a4.store (S:=As2 i) kd.top h1 ⟨q,_,fun _ _=>False,rfl,zAJ,⟨by simp[kd.len],fun r d' z' g1 g2=>?_,kd.top,fun _ z=>z,fun _ _ _ z=>z.elim,fun _ _ z=>z.elim⟩⟩ fun b z=>.inl z)
    by_cases hr:c=r
    ·subst hr;have hc:c<ds.length:=by
      have:=(qA2.mp g1).1
      simpa using this
     rw[qA8 hc]at g1;rw[qA8 (by rw[kd.len];exact hc)]at g2;cases g1;cases g2;exact o
    ·rw[qAb hr]at g1 g2;exact kd.own r d' z' g1 g2
   ·exact p2.elim
  ·exact p2.elim
 ·exact p1.elim
theorem zSK(i:Nat){n1 n2:Nat}{t1 t2:TE}{e1 e2:EM}(A:DE mg E t1 e1 n1)(B:DE mg E t2 e2 n2):DS mg E L (tAsg (tOp (rIxU Kc.K) (vM i) t2) (gSub (vM i) t1 setM)) (Mi.sItemS i e1 e2):=by
 intro G0 H0 S0 σ ρ G H As D a p;obtain⟨G1,As1,a2⟩:=a.low i;unfold Mi.sItemS at p
 generalize hρ:Mi.low i ρ=ρ2 at p a2
 split at p
 ·rename_i ds er
  obtain⟨v,h1,q,xs,T,rfl,hq,kd⟩:=a2.at i _ _ er;unfold tAsg tOp vM;rw[h1];obtain⟨J,x,s,w⟩:=a2.full;refine(zAW B).step (errS.from x) x.in' w p fun z u G4 H4 S2 ee fr2 o2 p2=>?_
  split at p2
  ·rename_i y
   cases(show u=.int y from o2)
   split at p2
   ·rename_i d ed
    have ed':=ed;unfold Mi.itA at ed;cases ej:Mi.ixA ds.length y with
    |none=>rw[ej]at ed;cases ed
    |some j=>
     rw[ej]at ed;have edj:ds[j]?=some d:=ed;have hj:j<xs.length:=by rw[kd.len];exact(qA2.mp edj).1
     refine⟨xs,xs[j],.inl (SqL.of (fr2.ext.h _ _ hq)),?_,?_⟩
     ·rw[<- zPV];unfold Mi.itA;rw[kd.len,ej];exact qA7 hj
     have a3:=a2.grow fr2.ext.h;obtain⟨J3,x3,s3,w3⟩:=a3.full;unfold gSub;dsimp only;rw[h1];refine(zAW A).step (errS.from x3) x3.in' w3 p2 fun z u G5 H5 S3 ee3 fr3 o3 p3=>?_
     split at p3
     ·rename_i z
      cases(show u=.int z from o3)
      split at p3
      ·rename_i c ei
       rw[zIA]at ei;refine⟨xs,c,fr3.ext.h _ _ (fr2.ext.h _ _ hq),by rw[kd.len];exact ei,?_⟩;have a4:=a3.grow fr3.ext.h;refine p3 σ G1 _ _ (a4.store (S:=As1 i) kd.top h1 ⟨q,_,fun _ _=>False,rfl,zAJ,⟨by simp[kd.len],fun r d' z' g1 g2=>?_,kd.top,fun _ z=>z,fun _ _ _ z=>z.elim,fun _ _ z=>z.elim⟩⟩ fun b z=>.inl z)
       by_cases hr:c=r
       ·subst hr;have hc:c<ds.length:=by
         have:=(qA2.mp g1).1
         simpa using this
        rw[qA8 hc]at g1;rw[qA8 (by rw[kd.len];exact hc)]at g2;cases g1;cases g2;exact kd.own j d _ edj (qA7 hj)
       ·rw[qAb hr]at g1 g2;exact kd.own r d' z' g1 g2
      ·exact p3.elim
     ·exact p3.elim
   ·exact p2.elim
  ·exact p2.elim
 ·exact p.elim
end
end L3
namespace L3
open PySem PySem.Spec
open L2 hiding Rep RepL
open Mi (Dt Xn R okR zA3 optR zA0 zAB zAH zAE zAG Rh Sl Ro EM TM AM FM IM SM Tg Out zB5 zAT zBB full frz frz1 frzAt)
structure XNo(K:qA1)(mg:Str->Option Value)(c:Str)(C:Addr):Prop extends XCls K mg c C where
 kp:qAv K (.ref C)=true
 ini:qAq K (.ref C) "__init__" = some (some (.builtin "ValueError.__init__"))
theorem zTO{X:Cx}{c:Str}{C:Addr}{e:Expr}{es:List Expr}{t:TA}{p pos:Pos}(h:XNo X.K X.mg c C)(hg:Gl X c)(ha:PA X (e::es) t)(hdb:(c==("__debug__":Str))=false:=by decide)
  (he:starEach (e::es) X.env=(false,eval e X.env)::starEach es X.env:=by rfl) (hpl:(backTo pos (starEach es X.env)).any (·.1)=false:=by rfl):PE X (.Call (.Name c p) (e::es) [] pos) (zLB C t):=
 zPD h.is.xc h.ini hg h.gm h.kp ha hdb he hpl
section
variable[Kc]{mg:Str->Option Value}{E:XK}{L n k l:Nat}{te ta tb:TE}{e ea eb ma:EM}{t:TA}{m:AM}
theorem zKN{c:Str}{C:Addr}(h:XNo Kc.K mg c C)(A:DA mg E t m 0):DS mg E L (zTC Kc.K E (zLB C t)) (Mi.sRaise0 c m):=by
 intro G0 H0 S0 σ ρ G H As D a p;obtain⟨J,x,s,w⟩:=a.full;refine A.step (errS.from x) x.in' w p fun ds vs G1 H1 S T _ fr o p1=>?_
 split at p1
 ·rename_i hz
  refine⟨by rw[o.len];exact big' (by lia),fun e he=>⟨e,C,none,rfl,zAJ,h.is.xc,?_⟩⟩;have hu:upd (upd H1 e (xn e (.ref C) none)) e (xo e (.ref C) none)=upd H1 e (xo e (.ref C) none):=by
   funext z
   by_cases h1:z=e
   ·rw[h1,zAJ,zAJ]
   ·rw[zAC h1,zAC h1,zAC h1]
  rw[hu];exact p1 (.ref e) none _ _ ((x.trans fr.ext).trans (Ext.new fr.ext.in' he _)) ⟨e,C,rfl,zAJ,h.cl,.inl ⟨rfl,rfl⟩⟩
 ·exact p1.elim
end
end L3
namespace L2
open PySem PySem.Spec PyProof.Rows
section
variable{X:Cx}
noncomputable def zWV(z:Str):List V:=z.cps.toList.map fun c=>.str ⟨#[c]⟩
def rListX(K:qA1):List V->Hp->VK->Prop:=fun vs H Q=>match vs with
 |[.str z]=>z.length<=sizeLine/\∀l,H l=none->Q (.ref l) (upd H l (.lst (zWV z)))
 |_=>zI4 K vs H Q
def rSumU:List V->Hp->VK->Prop:=fun vs H Q=>match vs with
 |[.ref a]=>∃ns:List Int,H a=some (.lst (ns.map V.int))/\ns.length<=100000/\(∀n∈ns,-1000000<=n/\n<=1000000)/\Q (.int ns.sum) H
 |_=>False
def zTH:List V->Hp->VK->Prop:=fun vs H Q=>match vs with
 |[.ref a]=>(∃ns:List Int,H a=some (.lst (ns.map V.int))/\ns.length<64/\∀ms:List Int,ms.Perm ns->ms.Pairwise (·<=·)->∀l,H l=none->Q (.ref l) (upd H l (.lst (ms.map V.int)))) \/
   ∃zs:List Str,H a=some (.lst (zs.map V.str))/\zs.length<64/\∀ys:List Str,ys.Perm zs->sortedS ys=true->∀l,H l=none->Q (.ref l) (upd H l (.lst (ys.map V.str)))
 |_=>False
theorem zKH:∀{ns:List Int}{vs:List Value},IntsAre vs ns->Vals (ns.map V.int) vs
 |_,_,.nil=>.nil
 |_,_,.cons n t h=>.cons ⟨t,rfl⟩ (zKH h)
theorem zJR:∀{ns:List Str}{vs:List Value},StrsAre vs ns->Vals (ns.map V.str) vs
 |_,_,.nil=>.nil
 |_,_,.cons n t h=>.cons ⟨t,rfl⟩ (zJR h)
theorem zS7:zDM X (.builtin "sorted") zTH:=by
 intro pins s σ H vs us Q I r h;cases vs with
 |nil=>exact qA6 h
 |cons hd1 tl1=>
  cases hd1 with
  |ref a=>
   cases tl1 with
   |nil=>
    obtain⟨u,rfl,rx⟩:=zHQ r;cases rx
    rcases h with⟨ns,ha,hz,q⟩|⟨zs,ha,hz,q⟩
    ·obtain⟨its,rv,hl⟩:=zB4 I.hok ha;have hlen:=rv.length;rw[qAi]at hlen;refine sorted_ints hl (zKG rv) (by lia) fun out ms h1 h2 h3=>?_
     obtain⟨e,he⟩:=sortedAll_at s.heap its out;have hz':ms.length<=sizeLine:=by rw[h2.length_eq,sizeLine_eq];lia
     exact⟨.ref _,_,I.laid (t':=s.toks) (o:=.lst (ms.map V.int)) (fun b o q=>sortedAll_old q) (qC2 _) ⟨by rw[qAi];exact hz',out.toList,e,zKH h1,by simpa[seqObj]using he⟩,rfl,q ms h2 h3 _ (I.hok.fresh (qC2 _))⟩
    ·obtain⟨its,rv,hl⟩:=zB4 I.hok ha;have hlen:=rv.length;rw[qAi]at hlen;refine sorted_strs hl (zJQ rv) (by lia) fun out ms h1 h2 h3=>?_
     obtain⟨e,he⟩:=sortedAll_at s.heap its out;have hz':ms.length<=sizeLine:=by rw[h2.length_eq,sizeLine_eq];lia
     exact⟨.ref _,_,I.laid (t':=s.toks) (o:=.lst (ms.map V.str)) (fun b o q=>sortedAll_old q) (qC2 _) ⟨by rw[qAi];exact hz',out.toList,e,zJR h1,by simpa[seqObj]using he⟩,rfl,q ms h2 h3 _ (I.hok.fresh (qC2 _))⟩
   |cons _ _=>exact qA6 h
  |_=>exact qA6 h
end
section
variable{X:Cx}{K:qA1}
end
end L2
namespace Mi
open PySem
noncomputable section
def listXD(ds:List Dt):Option Dt:=match ds with
 |[.str z]=>@ite _ (z.length<=100000) (qA3 _) (some (.lst (signsD z))) none
 |ds=>listD ds
def sumD:List Dt->Option Dt
 |[.lst ds]=>match intsD ds with
  |some ns=>@ite _ (ns.length<=100000/\∀n∈ns,-1000000<=n/\n<=1000000) (qA3 _) (some (.int ns.sum)) none
  |none=>none
 |_=>none
noncomputable def sortI(ns:List Int):List Int:=ns.mergeSort fun a b=>decide (a<=b)
def sortD:List Dt->Option Dt
 |[.lst ds]=>match intsD ds with
  |some ns=>@ite _ (ns.length<64) (qA3 _) (some (.lst ((sortI ns).map .int))) none
  |none=>none
 |_=>none
end
end Mi
namespace L3
open PySem PySem.Spec
open L2 hiding Rep RepL
open Mi (Dt Xn R okR zA3 optR zA0 zAB zAH zAE zAG Rh Sl Ro EM TM AM FM IM SM Tg Out zB5 zAT zBB full frz frz1 frzAt)
section
variable[Kc]{mg:Str->Option Value}{E:XK}{L n k l:Nat}{te ta tb:TE}{e ea eb ma:EM}{t:TA}{m:AM}
theorem zRW{r:List V->Hp->VK->Prop}{f:List Dt->Option Dt}(h0:∀ds,(∀es,ds≠[.lst es])->f ds=none)(h1:∀es,Mi.intsD es=none->f [.lst es]=none)
  (h2:∀(mg:Str->Option Value)(E:XK)(G H:Hp)(a:Addr)(es:List Dt)(ns:List Int)(Q:VK),Same G H->Mi.intsD es=some ns->H a=some (.lst (ns.map V.int))->PostE mg E G H n (optR (f [.lst es])) Q->r [.ref a] H Q):CBi r f n:=by
 intro mg E G H ds vs Q s h p
 by_cases hd:∃es,ds=[.lst es]
 ·obtain⟨es,rfl⟩:=hd;obtain⟨x,rfl,a,xs,rfl,ha,ra⟩:=zF0 h;cases ei:Mi.intsD es with
  |none=>rw[h1 es ei]at p;exact p.elim
  |some ns=>exact h2 mg E G H a es ns Q s ei (by rw[s _ _ ha,zHB ei ra]) p
 ·rw[h0 ds fun es z=>hd ⟨es,z⟩]at p;exact p.elim
theorem zV6{f:List Dt->Option Dt}(h1:f []=none)(h2:∀d,(∀es,d≠.lst es)->f [d]=none)(h3:∀a b r,f (a::b::r)=none):∀ds,(∀es,ds≠[.lst es])->f ds=none:=by
 intro ds h
 match ds,h with
 |[],_=>exact h1
 |[d],h=>exact h2 d fun es z=>h es (by rw[z])
 |a::b::r,_=>exact h3 a b r
theorem zNM(ns:List Int):(Mi.sortI ns).Perm ns:=qEf ns _
theorem zOS(ns:List Int):(Mi.sortI ns).Pairwise (·<=·):=by
 have:=qDf (le:=fun a b:Int=>decide (a<=b)) (fun a b c h1 h2=>by simp at h1 h2 ⊢;lia) (fun a b=>by simp;lia) ns
 exact this.imp fun h=>by simpa using h
theorem zW7:CBi zTH Mi.sortD 1:=by
 refine zRW (zV6 rfl (fun d h=>by cases d<;>first|rfl|exact absurd rfl (h _)) fun a b r=>by cases a<;>rfl) (fun es h=>by rw[Mi.sortD,h]) fun mg E G H a es ns Q s ei ha p=>?_
 rw[Mi.sortD,ei]at p;dsimp only at p
 split at p
 ·rename_i hz
  refine .inl ⟨ns,ha,hz,fun ms h1 h2 l hl=>?_⟩
  have:ms=Mi.sortI ns:=PySem.W.lks_uniq (h1.trans (zNM ns).symm) h2 (zOS ns)
  subst this;exact PostE.lst p (Ext.refl s) (zCX _) hl
 ·exact p.elim
end
end L3
namespace L3
open PySem PySem.Spec
open L2 hiding Rep RepL
open Mi (Dt Xn R okR zA3 optR zA0 zAB zAH zAE zAG Rh Sl Ro EM TM AM FM IM SM Tg Out zB5 zAT zBB full frz frz1 frzAt)
section
variable[Kc]{G0 H0 S0:Hp}{σ:St}{ρ:Ro}{G H:Hp}{As:Nat->Addr->Prop}
theorem Sat.forget(a:Sat G0 H0 S0 σ ρ G H As)(r:Nat)(v:V):Sat G0 H0 S0 (σ.set r (some v)) (ρ.set r none) G H As:=by
 refine⟨a.ext,a.stb,a.tab,by simp[a.len],fun j e k h=>?_,a.dis,a.new⟩
 by_cases z:r=j
 ·subst z;have hj:r<ρ.length:=by
   have:=(qA2.mp h).1
   simpa using this
  rw[qA8 hj]at h;cases h
 ·rw[qAb z]at h;obtain⟨u,h1,h2⟩:=a.at j e k h;exact⟨u,by rw[qAb z];exact h1,h2⟩
theorem Sat.row(a:Sat G0 H0 S0 σ ρ G H As){i k c:Nat}{rs ds:List Dt}{q:Addr}(er:ρ[i]?=some (some (.lst rs,k+2)))(hv:σ[i]?=some (some (.ref q)))(ec:rs[c]?=some (.lst ds)) :
  ∃(xs:List V)(qr:Addr)(ys:List V),H q=some (.lst xs)/\xs.length=rs.length/\xs[c]?=some (.ref qr)/\H qr=some (.lst ys)/\ys.length=ds.length /\
   ∀(ds':List Dt)(ys':List V),ys'.length=ds'.length->(∀(r:Nat)(d:Dt)(z:V),ds'[r]?=some d->ys'[r]?=some z->(ds[r]?=some d/\ys[r]?=some z)\/(d.dep=0/\Rep G d z)) ->
    Sat G0 H0 S0 σ (ρ.set i (some (.lst (rs.set c (.lst ds')),k+2))) G (upd H qr (.lst ys')) As:=by
 obtain⟨v,h1,q',xs,T,rfl,hq,kd⟩:=a.at i _ _ er;rw[hv]at h1;cases h1;have hc:c<xs.length:=by rw[kd.len];exact(qA2.mp ec).1
 have hxc:xs[c]?=some xs[c]:=qA7 hc;obtain⟨qr,ys,U,er2,hqr,kr⟩:=kd.own c _ _ ec hxc;refine⟨xs,qr,ys,hq,kd.len,by rw[hxc,er2],hqr,kr.len,fun ds' ys' hl hs=>?_⟩;have tqr:T c qr:=kr.top;have iqr:As i qr:=kd.sub c qr tqr;have qne:q≠qr:=fun z=>kd.out c (z▸tqr)
 have b:=a.store (S:=As i) (p:=qr) (o:=.lst ys') (d:=.lst (rs.set c (.lst ds'))) (n:=k+2) (v:=.ref q) iqr hv ⟨q,xs,T,rfl,(zAC qne).trans hq,⟨by simp[kd.len],fun r d' xr g1 g2=>?_,kd.top,kd.out,kd.dis,kd.sub⟩⟩ fun b z=>.inl z
 ·refine⟨b.ext,b.stb,b.tab,b.len,fun j d n h=>?_,a.dis,fun j b' h=>?_⟩
  ·obtain⟨v,g1,g2⟩:=b.at j d n h;refine⟨v,g1,?_⟩
   by_cases z:j=i
   ·subst z;rw[if_pos rfl]at g2;exact g2
   ·rw[if_neg z]at g2;exact g2
  ·have:=b.new j b' (by
    by_cases z:j=i
    ·subst z;rw[if_pos rfl];exact h
    ·rw[if_neg z];exact h)
   exact this
 ·by_cases hr:c=r
  ·subst hr;rw[qA8 (by rw[<- kd.len];exact hc)]at g1;cases g1;rw[hxc]at g2;cases g2;refine⟨qr,ys',U,er2,zAJ,⟨hl,fun r d z e1 e2=>?_,tqr,kr.out,kr.dis,kr.sub⟩⟩
   rcases hs r d z e1 e2 with⟨g3,g4⟩|⟨g3,g4⟩
   ·exact(kr.own r d z g3 g4).upd (kr.out r)
   ·exact zTS g4 g3
  ·rw[qAb hr]at g1;exact(kd.own r d' xr g1 g2).upd fun z=>hr (kd.dis c r qr tqr z)
end
section
variable[Kc]{mg:Str->Option Value}{E:XK}{L n k l:Nat}{te ta tb:TE}{e ea eb ma:EM}{t:TA}{m:AM}
end
end L3
namespace L2
open PySem PySem.Spec PyProof.Rows
section
variable{X:Cx}
end
end L2
namespace Mi
open PySem
noncomputable section
end
end Mi
namespace L3
open PySem PySem.Spec
open L2 hiding Rep RepL
open Mi (Dt Xn R okR zA3 optR zA0 zAB zAH zAE zAG Rh Sl Ro EM TM AM FM IM SM Tg Out zB5 zAT zBB full frz frz1 frzAt)
section
variable[Kc]{mg:Str->Option Value}{E:XK}{L n k l:Nat}{te ta tb:TE}{e ea eb ma:EM}{t:TA}{m:AM}
end
end L3
namespace L2
open PySem PySem.Spec PyProof.Rows
structure RoomH(k:Nat)(A:Around):Prop where
 dp:A.depth+3*k+5<recursionLimit
 un:A.units+16*k+200<cLine
structure FnOkH(P:Program)(w:World)(K:qA1)(mg:Str->Option Value)(base:Heap)(k:Nat)(f:Addr)(fd:FuncData)(ps:List Str)(sp:Sp):Prop where
 len:∀vs H Q E,sp vs H Q E->vs.length=ps.length
 run:∀(A:Around)(outer:List Env)(s:Shared)(H:Hp)(args:Args)(us:List Value)(vs:List V)(Q:VK)(E:XK),RoomH k A->Env0 P w K mg base A outer s H->BindsTo s fd args (ps.zip us)->Vals vs us->sp vs H Q E ->
  codeAny (model P w) A (.call (.ref f) args) (CR CX0 outer P w H s Q E) s
section
variable{X:Cx}{x:Str}{j k:Nat}{ps:List Str}{sp:Sp}{e:Expr}{es:List Expr}{t:TA}{p pos:Pos}
end
end L2
namespace L2
open PySem PySem.Spec PyProof.Rows
end L2
namespace Mi
def rowSet(ρ:Rh)(r:Nat)(e1 e2:EM):Dt->Option Dt
 |.lst ds=>match e2 (ρ.set r (some (.lst ds)))with
  |some (.ok (.int v))=>match e1 (ρ.set r (some (.lst ds)))with
   |some (.ok (.int z))=>match ixA ds.length z with
    |some p=>some (.lst (ds.set p (.int v)))
    |none=>none
   |_=>none
  |_=>none
 |_=>none
def rowsSet(ρ:Rh)(r:Nat)(e1 e2:EM):List Dt->Option (List Dt)
 |[]=>some []
 |d::t=>match rowSet ρ r e1 e2 d with
  |some d'=>(rowsSet ρ r e1 e2 t).map (d'::·)
  |none=>none
def sForSet(i r:Nat)(e1 e2:EM):SM:=fun ρ=>match ρ[i]? with
 |some (some (.lst rs,k+2))=>match rowsSet ((full ρ).set i none) r e1 e2 rs with
  |some rs'=>if i≠r/\r<ρ.length then okR (.nx ((ρ.set i (some (.lst rs',k+2))).set r none))else none
  |none=>none
 |_=>none
end Mi
namespace L3
open PySem PySem.Spec
open L2 hiding Rep RepL
open Mi (Dt Xn R okR zA3 optR zA0 zAB zAH zAE zAG Rh Sl Ro EM TM AM FM IM SM Tg Out zB5 zAT zBB full frz frz1 frzAt)
section
variable[Kc]{mg:Str->Option Value}{E:XK}{L n n1:Nat}{t1 t2:TE}{e1 e2:EM}
theorem rowsSet_len{ρ:Rh}{r:Nat}:∀{rs rs':List Dt},Mi.rowsSet ρ r e1 e2 rs=some rs'->rs'.length=rs.length
 |[],rs',h=>by cases h;rfl
 |d::t,rs',h=>by
  rw[Mi.rowsSet]at h
  split at h
  ·cases e:Mi.rowsSet ρ r e1 e2 t with
   |none=>rw[e]at h;cases h
   |some q=>rw[e]at h;cases h;simp[rowsSet_len e]
  ·cases h
theorem zOX{ρ:Rh}{r:Nat}{d d':Dt}(h:Mi.rowSet ρ r e1 e2 d=some d'):∃ds v z p,d=.lst ds/\e2 (ρ.set r (some (.lst ds)))=okR (.int v)/\e1 (ρ.set r (some (.lst ds)))=okR (.int z)/\Mi.ixA ds.length z=some p/\d'=.lst (ds.set p (.int v)):=by
 cases d with
 |lst ds=>
  unfold Mi.rowSet at h;dsimp only at h
  split at h
  ·rename_i v h2
   split at h
   ·rename_i z h1
    split at h
    ·rename_i p hp
     exact⟨ds,v,z,p,rfl,h2,h1,hp,(qAx h).symm⟩
    ·cases h
   ·cases h
  ·cases h
 |_=>cases h
theorem zI2{ρ:Rh}{r:Nat}:∀{rs rs':List Dt}{p:Nat},Mi.rowsSet ρ r e1 e2 rs=some rs'->p<rs.length->∃d d',rs[p]?=some d/\rs'[p]?=some d'/\Mi.rowSet ρ r e1 e2 d=some d'
 |[],rs',p,h,hp=>by simp at hp
 |d::t,rs',p,h,hp=>by
  rw[Mi.rowsSet]at h
  split at h
  ·rename_i d' hd
   cases e:Mi.rowsSet ρ r e1 e2 t with
   |none=>rw[e]at h;cases h
   |some q=>
    rw[e]at h;cases h;cases p with
    |zero=>exact⟨d,d',rfl,rfl,hd⟩
    |succ p=>exact zI2 (p:=p) e (by simpa using hp)
  ·cases h
theorem zQ9(i r:Nat)(A:DE mg E t1 e1 n1)(B:DE mg E t2 e2 n):DS mg E L (fun D σ H=>iAny Kc.K (vM i) σ H (zON (zFR r) (tAsg t2 (gSub (vM r) t1 setM)) D σ)) (Mi.sForSet i r e1 e2):=by
 intro G0 H0 S0 σ ρ G H As D a p;unfold Mi.sForSet at p
 split at p
 ·rename_i rs k e1'
  split at p
  ·rename_i rs' ea
   split at p
   ·rename_i hir
    obtain⟨v,h1,q,xs0,T0,rfl,hq0,kd0⟩:=a.at i _ _ e1';unfold iAny vM;rw[h1];refine .inl ⟨⟨xs0,SqL.of hq0⟩,?_⟩;have hil:i<ρ.length:=(qA2.mp e1').1;have hal:=rowsSet_len ea;refine⟨fun j cc σ H=>cc=rs.length-j/\j<=rs.length/\σ[i]?=some (some (.ref q))/\(j=0->σ.length=ρ.length)/\∃As,Sat G0 H0 S0 σ (if j=0 then ρ else(ρ.set i (some (.lst (rs'.take j++rs.drop j),k+2))).set r none) G H As,
     ⟨_,rfl,qAt _,h1,fun _=>a.len.symm,As,by rw[if_pos rfl];exact a⟩,?_⟩
    rintro j cc σ H ⟨rfl,hj,hv,hsl,As,a⟩
    generalize hρ:(if j=0 then ρ else(ρ.set i (some (.lst (rs'.take j++rs.drop j),k+2))).set r none)=ρj at a
    have er:ρj[i]?=some (some (.lst (rs'.take j++rs.drop j),k+2)):=by
     rw[<- hρ]
     by_cases z:j=0
     ·subst z;rw[if_pos rfl];simpa using e1'
     ·rw[if_neg z,qAb (fun y=>hir.1 y.symm),qA8 hil]
    have hfe:∀d,((full ρj).set i none).set r (some d)=((full ρ).set i none).set r (some d):=fun d=>by
     rw[<- hρ]
     by_cases z:j=0
     ·rw[if_pos z]
     ·rw[if_neg z];unfold Mi.full;rw[qC4,qC4,qGg _ _ (fun y:r=i=>hir.1 y.symm),qDx,qDx]
    obtain⟨v,h2,q',xs,T,e',hq,kd⟩:=a.at i _ _ er;rw[hv]at h2;cases h2;cases e';have hlen:(rs'.take j++rs.drop j).length=rs.length:=by simp[hal];lia
    by_cases hlt:j<rs.length
    ·obtain⟨d0,d1,g1,g2,g3⟩:=zI2 ea hlt;obtain⟨ds,vv,zz,pp,rfl,k2,k1,kp,rfl⟩:=zOX g3;have ec:(rs'.take j++rs.drop j)[j]?=some (.lst ds):=by
      rw[qAd (by simp;lia)];simp[hal,qFj (qBn hlt),g1]
     refine .inr ⟨⟨xs,xs[j]'(by rw[kd.len,hlen];exact hlt),SqL.of hq,by simp⟩,fun σ' H'=>j+1<=rs.length/\σ'[i]?=some (some (.ref q))/\(j+1=0->σ'.length=ρ.length)/\∃As,Sat G0 H0 S0 σ' (if j+1=0 then ρ else(ρ.set i (some (.lst (rs'.take (j+1)++rs.drop (j+1)),k+2))).set r none) G H' As,fun σ' H' y=>⟨rs.length-(j+1),by lia,rfl,y⟩,fun x H2 hy=>?_⟩;obtain⟨rfl,hy⟩:=hy;obtain⟨xs2,qr,ys,w1,w2,w3,w4,w5,_⟩:=a.row er hv ec;have hx:=hy xs2 (SqL.of w1);rw[w3]at hx;cases hx;have hrl:r<σ.length:=by rw[<- a.len,<- hρ];by_cases z:j=0<;>simp[z,hir.2]
     obtain⟨J,xj,sj,wj⟩:=a.full;have rj:Rep J (.lst ds) (.ref qr):=by
      obtain⟨u,u1,u2⟩:=wj.at i (.lst (rs'.take j++rs.drop j)) (by unfold Mi.full;rw[qAf,er];rfl);rw[hv]at u1;cases u1;obtain⟨b,zs,z1,z2,z3⟩:=u2;cases z1;have z4:=xj.in' _ _ z2;rw[w1]at z4;cases z4;exact zCD z3 ec w3
     have wv:View J (σ.set r (some (.ref qr))) (((full ρ).set i none).set r (some (.lst ds))):=by
      rw[<- hfe];refine View.set ⟨by simp[wj.len],fun u d hu=>?_,wj.tab⟩ rj
      by_cases z:i=u
      ·subst z;rw[qA8 (by rw[wj.len];exact(qA2.mp hv).1)]at hu;cases hu
      ·rw[qAb z]at hu;exact wj.at u d hu
     show tAsg t2 (gSub (vM r) t1 setM) _ (σ.set r (some (.ref qr))) _;refine zAW B J H2 _ _ _ xj.in' wv ?_;rw[k2];intro v2 G1 H1 S1 fr2 o2
     cases(show v2=.int vv from o2)
     unfold gSub vM;rw[qA8 hrl];have x1:Ext J H2 J H1:=Ext.same xj.in' fr2.ext.h;refine zAW A J H1 _ _ _ x1.in' wv ?_;rw[k1];intro v3 G3 H3 S3 fr3 o3
     cases(show v3=.int zz from o3)
     have sH:=fr2.ext.h.trans fr3.ext.h;obtain⟨xs3,qr3,ys3,y1,y2,y3,y4,y5,y6⟩:=(a.grow sH).row er hv ec;have y7:=sH _ _ w1;rw[y1]at y7;cases y7;rw[w3]at y3;cases y3;have y8:=sH _ _ w4;rw[y4]at y8;cases y8;refine⟨ys,pp,y4,by rw[y5,<- zIA];exact kp,?_⟩;have a2:=(y6 (ds.set pp (.int vv)) (ys.set pp (.int vv)) (by simp[y5]) fun u d z e3 e4=>by
      by_cases hu:pp=u
      ·subst hu;have h3:=(qA2.mp e3).1;have h4:=(qA2.mp e4).1;rw[qA8 (by simpa using h3)]at e3;rw[qA8 (by simpa using h4)]at e4;cases e3;cases e4;exact .inr ⟨rfl,rfl⟩
      ·rw[qAb hu]at e3 e4;exact .inl ⟨e3,e4⟩).forget r (.ref qr)
     refine⟨hlt,by rw[qAb (fun y=>hir.1 y.symm)];exact hv,fun z=>by lia,As,?_⟩;rw[if_neg (by lia)];have eset:(rs'.take j++rs.drop j).set j (.lst (ds.set pp (.int vv)))=rs'.take (j+1)++rs.drop (j+1):=by
      have hj2:j<rs'.length:=by lia
      have gj:rs'[j]=.lst (ds.set pp (.int vv)):=by
       have:=qA7 hj2
       rw[g2]at this;exact(qAx this).symm
      rw[qDv _ _ (by simp;lia),qCe hj2,gj];simp only[qCn,qFj (qBn hj2),Nat.sub_self];rw[qD8]
      congr 1
      rw[qBt hlt];rfl
     rw[eset]at a2
     by_cases z:j=0
     ·subst z;rw[if_pos rfl]at hρ;subst hρ;exact a2
     ·rw[if_neg z]at hρ;subst hρ;have e5:(((ρ.set i (some (.lst (rs'.take j++rs.drop j),k+2))).set r none).set i (some (.lst (rs'.take (j+1)++rs.drop (j+1)),k+2))).set r none=(ρ.set i (some (.lst (rs'.take (j+1)++rs.drop (j+1)),k+2))).set r none:=by
       rw[qGg _ _ (fun y:r=i=>hir.1 y.symm),qDx,qDx]
      rw[e5]at a2;exact a2
    ·have ej:j=rs.length:=by lia
     subst ej;refine .inl ⟨⟨xs,SqL.of hq,by rw[kd.len,hlen];exact qA5 _⟩,?_⟩;have e6:rs'.take rs.length++rs.drop rs.length=rs':=by rw[<- hal,qFb,hal,qDm,qBu]
     by_cases z:rs.length=0
     ·rw[if_pos z]at hρ;subst hρ;have hrs:rs=[]:=qBy z;subst hrs
      have:rs'=[]:=qBy hal
      subst this;have e7:ρ.set i (some (.lst [],k+2))=ρ:=by
       have:=(qA2.mp e1').2
       rw[<- this,qCl]
      rw[e7]at p;refine p σ G H As ⟨a.ext,a.stb,a.tab,by simp[a.len],fun j d n h=>?_,a.dis,a.new⟩
      by_cases y:r=j
      ·subst y;rw[qA8 hir.2]at h;cases h
      ·rw[qAb y]at h;exact a.at j d n h
     ·rw[if_neg z,e6]at hρ;subst hρ;exact p σ G H As a
   ·exact p.elim
  ·exact p.elim
 ·exact p.elim
end
end L3
namespace Mi
def sSetL(i j:Nat)(vs:List Nat)(e:EM):SM:=fun ρ=>match(frzAt vs (low j ρ))[j]? with
 |some (some (.lst ds,1))=>zA3 (e ((frz (frzAt vs (low j ρ))).set j (some (.lst ds)))) fun d=>match d with
  |.lst es=>if Dt.depL es=0/\es.length≠ds.length then okR (.nx ((frzAt vs (low j ρ)).set i (some (.lst es,0))))else none
  |_=>none
 |_=>none
end Mi
namespace L3
open PySem PySem.Spec
open L2 hiding Rep RepL
open Mi (Dt Xn R okR zA3 optR zA0 zAB zAH zAE zAG Rh Sl Ro EM TM AM FM IM SM Tg Out zB5 zAT zBB full frz frz1 frzAt)
section
variable[Kc]{mg:Str->Option Value}{E:XK}{L n:Nat}{te:TE}{e:EM}
theorem zK0{G G2:Hp}:∀{es:List Dt}{ys:List V},RepL G es ys->Dt.depL es=0->RepL G2 es ys
 |[],_,h,_=>h
 |d::r,_,h,hd=>by
  obtain⟨x,q,rfl,h1,h2⟩:=h;have h3:d.dep=0/\Dt.depL r=0:=by
   simp only[Dt.depL]at hd
   lia
  exact⟨x,q,rfl,h1.scalar h3.1,zK0 h2 h3.2⟩
theorem zGH{G H:Hp}{q:Addr}:over G H (fun b=>b=q) q=H q:=zE7 (S:=fun b=>b=q) rfl
theorem zGX{G H:Hp}{b q:Addr}(h:b≠q):over G H (fun b=>b=q) b=G b:=zCI (S:=fun b=>b=q) h
theorem zQ8(i j:Nat)(vs:List Nat)(A:DE mg E te e n):DS mg E L (tAsg te (zFR i)) (Mi.sSetL i j vs e):=by
 intro G0 H0 S0 σ ρ G H As D a p;unfold Mi.sSetL at p;obtain⟨G1,As1,a1⟩:=Sat.low a j;obtain⟨G2,As2,a2⟩:=Sat.frzAt vs a1
 split at p
 ·rename_i ds e1
  obtain⟨v,h1,q,xs,T,rfl,hq,kd⟩:=a2.at j _ _ e1;obtain⟨nq1,nq2,nq3⟩:=a2.new j q kd.top;obtain⟨s1,s2⟩:=zCY (S:=fun b=>b=q) a2.ext.in';have x3:Ext G0 H0 (over G2 H fun b=>b=q) H:=⟨a2.ext.g.trans s1,a2.ext.h,s2,fun b hb=>by
   rw[zGX (fun z=>hb (by rw[z];exact nq1))];exact a2.ext.old b hb⟩
  have rq:Rep (over G2 H fun b=>b=q) (.lst ds) (.ref q):=⟨q,xs,rfl,by rw[zGH];exact hq,zEZ kd.len fun r d x g1 g2=>Rep.mono s1 (kd.own r d x g1 g2)⟩
  have w:=(View.mono s1 a2.frz)
  have w2:View (over G2 H fun b=>b=q) σ ((frz (frzAt vs (Mi.low j ρ))).set j (some (.lst ds))):=by
   have:=w.set (i:=j) rq
   rwa [show σ.set j (some (.ref q))=σ by
    have:=(qA2.mp h1).2
    rw[<- this,qCl]]at this
  refine(zAW A).step (errS.from x3) s2 w2 p fun d u G4 H4 S4 _ fr o p1=>?_
  split at p1
  ·rename_i es _
   split at p1
   ·rename_i hz
    obtain⟨pa,ys,rfl,k1,k2⟩:=(show Rep G4 (.lst es) u from o)
    have hne:pa≠q:=fun z=>by
     subst z
     have:=fr.ext.old pa nq3
     rw[k1,zGH,hq]at this;cases this;exact hz.2 (by rw[<- zRJ k2,kd.len])
    have hin:Same G2 H4:=a2.ext.in'.trans fr.ext.h;obtain⟨t1,t2⟩:=zCY (S:=fun b=>b=pa) hin;have hpa:H4 pa=some (.lst ys):=fr.ext.in' _ _ k1;have x5:Ext G2 H (over G2 H4 fun b=>b=pa) H4:=⟨t1,fr.ext.h,t2,fun b hb=>by
     by_cases z:b=pa
     ·subst z;have g:=fr.ext.old b hb;rw[k1,zGX hne]at g;rw[zGH,hpa,<- g]
     ·rw[zGX z]⟩
    have o5:Own (over G2 H4 fun b=>b=pa) H4 0 (fun _=>False) (.lst es) (.ref pa):=⟨pa,ys,rfl,by rw[zGH];exact hpa,zK0 k2 hz.1⟩
    exact p1 _ _ H4 _ ((a2.wider x5).put o5 (fun b z=>z.elim) fun _ _ _ _ z=>z.elim)
   ·exact p1.elim
  ·exact p1.elim
 ·exact p.elim
end
end L3
namespace L2
open PySem PySem.Spec PyProof.Rows
section
variable{X:Cx}{e m1:Expr}{te ts:TE}{pos p2:Pos}
end
end L2
namespace Mi
open PySem
noncomputable section
end
end Mi
namespace L3
open PySem PySem.Spec
open PyProof.Rows (risingS sortedS ltCps_eq)
open L2 hiding Rep RepL
open Mi (Dt Xn R okR zA3 optR zA0 zAB zAH zAE zAG Rh Sl Ro EM TM AM FM IM SM OM Tg Out zB5 zAT zBB full frz frz1 frzAt)
section
variable[Kc]{mg:Str->Option Value}{E:XK}{L n k l:Nat}{te ta tb:TE}{e ea eb ma:EM}{t:TA}{m:AM}
end
end L3
namespace L2
open PySem PySem.Spec PyProof.Rows
section
variable{X:Cx}{x:Str}{C:Addr}{p pos:Pos}
end
def zZ7(K:qA1)(fl:List Str):Sp:=fun vs H Q _=>∃(x C dx:Addr)(ys:List V),vs=.ref x::ys/\ys.length=fl.length/\H x=some (.ins C dx [])/\Cls K C/\(∀f∈fl,zUB K C f)/\Q .non (upd H x (.ins C dx (fl.zip ys)))
section
variable{X:Cx}{m:Str}{k:Nat}{E:XK}{o e:Expr}{es:List Expr}{ta:TE}{t:TA}{apos pos:Pos}{tb:List (Addr×Sp)}
end
structure OIs(K:qA1)(C:Addr):Prop where
 cl:Cls K C
 ha:qAq K (.ref C) "__class__" = some (some (.builtin "object.__class__"))
 hn:qC6 K (.builtin "object.__class__") "__get__" = some (some (.builtin "getset_descriptor.__get__"))
 htk:qDs K (.builtin "object.__class__")=some true
 hm:qDb K C (.type "object")=some true
end L2
namespace Mi
open PySem
noncomputable section
noncomputable def svD:Dt->Option Sv
 |.int i=>some (.i i)
 |.str x=>some (.s x)
 |_=>none
def svsD:List Dt->Option (List Sv)
 |[]=>some []
 |d::r=>match svD d,svsD r with
  |some v,some vs=>some (v::vs)
  |_,_=>none
noncomputable def dSv:Sv->Dt
 |.i n=>.int n
 |.s x=>.str x
def eNew(c:Str)(fl:List Str)(am:AM):EM:=fun ρ=>zA3 (am ρ) fun ds=>match svsD ds with
 |some vs=>if vs.length=fl.length then okR (.ins c (fl.zip vs))else none
 |none=>none
def zZW(c:Str):EM:=fun _=>okR (.ins c [])
def eFld(hs:List Str)(f:Str)(e:EM):EM:=fun ρ=>zA3 (e ρ) fun d=>match d with
 |.ins c fs=>if c∈hs then(match fs.lookup f with|some v=>okR (dSv v)|none=>none)else none
 |_=>none
def zZX(tb:List (Str×FM))(m:Str)(e:EM)(am:AM):EM:=fun ρ=>zA3 (e ρ) fun d=>match d with
 |.ins c fs=>match tb.lookup c with
  |some g=>match fs.lookup m with
   |none=>zA3 (am ρ) fun ds=>g (d::ds)
   |some _=>none
  |none=>none
 |_=>none
def eIsO(ys ns:List Str)(e:EM):EM:=fun ρ=>zA3 (e ρ) fun d=>match d with
 |.ins c _=>if c∈ys then okR (.bl true)else if c∈ns then okR (.bl false)else none
 |_=>none
end
end Mi
namespace L3
open PySem PySem.Spec
open L2 hiding Rep RepL
open Mi (Dt Xn R okR zA3 optR zA0 zAB zAH zAE zAG Rh Sl Ro EM TM AM FM IM SM OM Tg Out zB5 zAT zBB full frz frz1 frzAt)
structure OCls(K:qA1)(mg:Str->Option Value)(c:Str)(C:Addr):Prop where
 cl:clK K c=some C
 gm:mg c=some (.ref C)
 is:OIs K C
structure ONew(K:qA1)(mg:Str->Option Value)(c:Str)(C:Addr):Prop extends OCls K mg c C where
 mks:qFd K C=true
 ini:qAq K (.ref C) "__init__" = some (some (.builtin "object.__init__"))
 kp:qAv K (.ref C)=true
structure OIni(P:Program)(w:World)(K:qA1)(mg:Str->Option Value)(base:Heap)(c:Str)(fl:List Str)(C:Addr):Prop extends OCls K mg c C where
 na:∀f∈fl,zUB K C f
 ini:∃fI fd ps,Mk K C fI/\FnOk P w K mg base (CXe P w) 1 fI fd ps (zZ7 K fl)/\Binds K fd ps []
section
variable{X:Cx}{c:Str}{fl:List Str}{C:Addr}{k:Nat}{E:XK}{e:Expr}{es:List Expr}{t:TA}{p pos:Pos}
end
section
variable[Kc]{mg:Str->Option Value}{E:XK}{L n k l:Nat}{te ta tb:TE}{e ea eb ma:EM}{t:TA}{m:AM}
end
end L3
namespace Mi
open PySem
noncomputable section
end
end Mi
namespace L2
open PySem PySem.Spec PyProof.Rows
section
variable{X:Cx}{m:Str}{k:Nat}{o e:Expr}{es:List Expr}{ta:TE}{t:TA}{apos pos:Pos}{tb:List (Addr×Sp)}
end
section
variable{prog:Program}{w:World}{A:Around}{E:Value->Shared->Prop}{s:Shared}
end
section
variable{X:Cx}{pos:Pos}
end
end L2
namespace L3
open PySem PySem.Spec
open L2 hiding Rep RepL
open Mi (Dt Xn R okR zA3 optR zA0 zAB zAH zAE zAG Rh Sl Ro EM TM AM FM IM SM OM Tg Out zB5 zAT zBB full frz frz1 frzAt)
section
variable[Kc]{mg:Str->Option Value}{E:XK}{L n k l:Nat}{te ta tb:TE}{e ea eb ma:EM}{t:TA}{m:AM}
end
end L3
namespace L2
open PySem PySem.Spec PyProof.Rows
section
variable{prog:Program}{w:World}{A:Around}{E:Value->Shared->Prop}{s:Shared}
end
end L2
namespace L2
open PySem PySem.Spec PyProof.Rows
section
variable{prog:Program}{w:World}{A:Around}{R:Result->Shared->Prop}{I:Addr}{fp wr:List Addr}{G:Array GenState->Array GenState->Prop}{n:Nat}{St:Nat->Shared->Prop}{led:Bool}{z:Str}
end
end L2
namespace PySem
open PyProof.Rows
end PySem
namespace L2
open PySem PySem.Spec PyProof.Rows
section
variable{prog:Program}{w:World}{A:Around}{E:Value->Shared->Prop}{s:Shared}
end
end L2
namespace Mi
open PySem
noncomputable section
end
end Mi
namespace L2
open PySem PySem.Spec PyProof.Rows
section
variable{X:Cx}{pins:List (Addr×Obj)}{σ:List (Option V)}{H:Hp}{s:Shared}
end
end L2
namespace L3
open PySem PySem.Spec
open PyProof.Rows (risingS sortedS ltCps_eq)
open L2 hiding Rep RepL
open Mi (Dt Xn R okR zA3 optR zA0 zAB zAH zAE zAG Rh Sl Ro EM TM AM FM IM SM OM Tg Out zB5 zAT zBB full frz frz1 frzAt)
section
variable[Kc]{mg:Str->Option Value}{E:XK}{L n k l:Nat}{te ta tb:TE}{e ea eb ma:EM}{t:TA}{m:AM}
end
end L3
namespace Mi
open PySem
noncomputable section
end
end Mi
namespace PySem
open Builtin Builtin.Str PySem.Spec
end PySem
namespace L2
open PySem PySem.Spec PyProof.Rows
section
variable{X:Cx}{pins:List (Addr×Obj)}{σ:List (Option V)}{H:Hp}{s:Shared}
end
end L2
namespace L3
open PySem PySem.Spec
open PyProof.Rows (risingS sortedS ltCps_eq)
open L2 hiding Rep RepL
open Mi (Dt Xn R okR zA3 optR zA0 zAB zAH zAE zAG Rh Sl Ro EM TM AM FM IM SM OM Tg Out zB5 zAT zBB full frz frz1 frzAt)
section
variable[Kc]{mg:Str->Option Value}{E:XK}{L n k l:Nat}{te ta tb:TE}{e ea eb ma:EM}{t:TA}{m:AM}
end
end L3
namespace Mi
open PySem
noncomputable section
end
end Mi
namespace L2
open PySem PySem.Spec PyProof.Rows
section
variable{prog:Program}{w:World}{A:Around}{E:Value->Shared->Prop}{s:Shared}
end
section
variable{X:Cx}{pins:List (Addr×Obj)}{σ:List (Option V)}{H:Hp}{s:Shared}
end
end L2
namespace L3
open PySem PySem.Spec
open L2 hiding Rep RepL
open Mi (Dt Xn R okR zA3 optR zA0 zAB zAH zAE zAG Rh Sl Ro EM TM AM FM IM SM OM Tg Out zB5 zAT zBB full frz frz1 frzAt)
section
variable[Kc]{mg:Str->Option Value}{E:XK}{L n k l:Nat}{te ta tb:TE}{e ea eb ma:EM}{t:TA}{m:AM}
end
end L3
namespace L2
open PySem PySem.Spec
structure Dr(p:Prop):Prop where
 h:p
section
variable{X:Cx}
end
end L2
namespace Mi
open PySem
noncomputable section
end
end Mi
namespace L2
open PySem PySem.Spec PyProof.Rows
structure Walk1(prog:Program)(w:World)(A:Around)(I:Addr)(fp:List Addr)(n:Nat)(P:Nat->Value->Prop)(St:Nat->Heap->Prop):Prop where
 me:I∈fp
 frame:∀i h h',St i h->(∀b∈fp,∀o,h.get? b=some o->h'.get? b=some o)->St i h'
 item:∀i (s:Shared) (Q:Option Value->Shared->Prop) (E:Value->Shared->Prop),i<n->St i s.heap ->
  (∀v h' tk,P i v->St (i+1) h'->(∀b o,b≠I->s.heap.get? b=some o->h'.get? b=some o)->Q (some v) { s with heap:=h',toks:=tk })->wpAny (model prog w) A (pyNext (.ref I)) Q E s
 done:∀(s:Shared)(Q:Option Value->Shared->Prop)(E:Value->Shared->Prop),St n s.heap ->
  (∀h' tk,(∀b o,b≠I->s.heap.get? b=some o->h'.get? b=some o)->(∃u,h'.get? I=some u)->Q none { s with heap:=h',toks:=tk })->wpAny (model prog w) A (pyNext (.ref I)) Q E s
 self:∀i (s:Shared) (Q:Value->Shared->Prop) (E:Value->Shared->Prop),St i s.heap->Q (.ref I) s->wpAny (model prog w) A (pyIter (.ref I)) Q E s
structure Once(prog:Program)(w:World)(T:String)(r:Addr)(fp:List Addr)(n:Nat)(P:Nat->Value->Prop)(St:Nat->Heap->Prop):Prop where
 ty:∀(s:Shared) i,St i s.heap->s.TypeIs (.ref r) T
 nl:(Value.type T==Value.type "list")=false
 nt:(Value.type T==Value.type "tuple")=false
 me:r∈fp
 hint:∀(A:Around)(E:Value->Shared->Prop)(s:Shared)(Q:Bool->Shared->Prop),A.handled=none->St 0 s.heap->(∀b tk,Q b { s with toks:=tk })->wpAny (model prog w) A (Builtin.List.listLengthHint (.ref r)) Q E s
 walk:∀(A:Around),A.handled=none->Walk1 prog w A r fp n P St
section
variable{prog:Program}{w:World}{A:Around}{E:Value->Shared->Prop}{s:Shared}{T:String}{r:Addr}{fp:List Addr}{n:Nat}{P:Nat->Value->Prop}{St:Nat->Heap->Prop}
end
section
variable{prog:Program}{w:World}{A:Around}{E:Value->Shared->Prop}{s:Shared}{x:Str}{t:Tok}
end
end L2
namespace L2
open PySem PySem.Spec PyProof.Rows
section
variable{X:Cx}{pins:List (Addr×Obj)}{σ:List (Option V)}{H:Hp}{s:Shared}
end
end L2
namespace L3
open PySem PySem.Spec
open L2 hiding Rep RepL
open Mi (Dt Xn R okR zA3 optR zA0 zAB zAH zAE zAG Rh Sl Ro EM TM AM FM IM SM OM Tg Out zB5 zAT zBB full frz frz1 frzAt)
section
variable[Kc]{mg:Str->Option Value}{E:XK}{L n k l:Nat}{te ta tb:TE}{e ea eb ma:EM}{t:TA}{m:AM}
end
end L3
namespace Mi
open PySem
noncomputable section
end
end Mi
namespace L3
open PySem PySem.Spec
open L2 hiding Rep RepL
open Mi (Dt Xn R okR zA3 optR zA0 zAB zAH zAE zAG Rh Sl Ro EM TM AM FM IM SM OM Tg Out zB5 zAT zBB full frz frz1 frzAt)
section
variable[Kc]{mg:Str->Option Value}{E:XK}{L n k l:Nat}
end
end L3
namespace Mi
open PySem
noncomputable section
end
end Mi
namespace PySem
open Builtin Builtin.Str PySem.Spec
end PySem
namespace L2
open PySem PySem.Spec PyProof.Rows
section
variable{X:Cx}{pins:List (Addr×Obj)}{σ:List (Option V)}{H:Hp}{s:Shared}
end
end L2
namespace L3
open PySem PySem.Spec
open L2 hiding Rep RepL
open Mi (Dt Xn R okR zA3 optR zA0 zAB zAH zAE zAG Rh Sl Ro EM TM AM FM IM SM OM Tg Out zB5 zAT zBB full frz frz1 frzAt)
section
variable[Kc]{mg:Str->Option Value}{E:XK}{L n k l:Nat}
end
end L3
namespace PySem
open Sem (wp)
section
variable{prog:Program}{w:World}{A:Around}{K:Type}[DecidableEq K]{knd:KeyKind prog w K}
end
end PySem
namespace Mi
open PySem
noncomputable section
noncomputable def kyD:Dt->Option (Sum Int Str)
 |.int i=>some (.inl i)
 |.str x=>some (.inr x)
 |_=>none
noncomputable def swD:Dt->Option Sw
 |.non=>some .non
 |.bl b=>some (.bl b)
 |.int i=>some (.int i)
 |.str x=>some (.str x)
 |_=>none
noncomputable def getW(kvs:List (Sum Int Str×Sw))(k:Sum Int Str):Option Sw:=(kvs.find? fun p=>decide (p.1=k)).map (·.2)
noncomputable def putW(kvs:List (Sum Int Str×Sw))(k:Sum Int Str)(v:Sw):List (Sum Int Str×Sw):=
 if(kvs.any fun p=>decide (p.1=k))=true then kvs.map (fun p=>if p.1=k then(p.1,v)else p)else kvs++[(k,v)]
def zYG:EM:=fun _=>okR (.dct [])
def dinD(ng:Bool)(x y:Dt):Option Dt:=match y with
 |.dct kvs=>match kyD x with
  |some k=>some (.bl (if ng=true then !(getW kvs k).isSome else(getW kvs k).isSome))
  |none=>none
 |_=>none
def zZB(i:Nat)(e1 e2:EM):SM:=fun ρ=>zA3 (e2 (full ρ)) fun v=>match ρ[i]? with
 |some (some (.dct kvs,k+1))=>zA3 (e1 (full ρ)) fun y=>match kyD y,swD v with
  |some q,some u=>@ite _ (kvs.length<=100000) (qA3 _) (okR (.nx (ρ.set i (some (.dct (putW kvs q u),k+1))))) none
  |_,_=>none
 |_=>none
def zTQ:List Dt->Option (List (Sum Int Str×Sw))
 |[]=>some []
 |.tup [a,b]::r=>match kyD a,swD b,zTQ r with
  |some k,some v,some q=>some ((k,v)::q)
  |_,_,_=>none
 |_::_=>none
def zZ9(i:Nat)(e:EM):SM:=fun ρ=>match ρ[i]? with
 |some (some (.dct kvs,k+1))=>zA3 (e (full ρ)) fun d=>match d with
  |.lst ds=>match zTQ ds with
   |some ps=>@ite _ (kvs.length+ps.length<=50000) (qA3 _) (okR (.nx (ρ.set i (some (.dct (ps.foldl (fun m p=>putW m p.1 p.2) kvs),k+1))))) none
   |none=>none
  |_=>none
 |_=>none
end
end Mi
namespace L2
open PySem PySem.Spec PyProof.Rows
section
variable{X:Cx}
variable{o e:Expr}{es:List Expr}{to:TE}{t:TA}{name:Str}{apos cpos:Pos}{T id:String}{r:V->List V->Hp->VK->Prop}
end
end L2
namespace L3
open PySem PySem.Spec
open L2 hiding Rep RepL
open Mi (Dt Xn R okR zA3 optR zA0 zAB zAH zAE zAG Rh Sl Ro EM TM AM FM IM SM OM Tg Out zB5 zAT zBB full frz frz1 frzAt)
section
variable[Kc]{mg:Str->Option Value}{E:XK}{L n k l:Nat}{te ta tb tx td:TE}{e ea eb ex ed ma:EM}{t:TA}{m:AM}
end
end L3
namespace Mi
open PySem
noncomputable section
end
end Mi
namespace L2
open PySem PySem.Spec PyProof.Rows
section
variable{X:Cx}{pins:List (Addr×Obj)}{σ:List (Option V)}{H:Hp}{s:Shared}
theorem zB8(ns:List Int):(qA4 ns.length).map (fun i=>ns.getD i 0)=ns:=by
 refine qCo (by simp) fun i h1 h2=>?_
 simp[h2]
end
section
variable{X:Cx}
end
end L2
namespace L3
open PySem PySem.Spec
open L2 hiding Rep RepL
open Mi (Dt Xn R okR zA3 optR zA0 zAB zAH zAE zAG Rh Sl Ro EM TM AM FM IM SM OM Tg Out zB5 zAT zBB full frz frz1 frzAt)
section
variable[Kc]{mg:Str->Option Value}{E:XK}{L n k l:Nat}{te ta tb:TE}{e ea eb ma:EM}{t:TA}{m:AM}
end
end L3
namespace Mi
open PySem
noncomputable section
end
end Mi
namespace L2
open PySem PySem.Spec PyProof.Rows
section
variable{X:Cx}{e m1:Expr}{te ts:TE}{pos p2:Pos}
theorem zQ8{pos:Pos}{i:Nat}{x:Str}{es:List Expr}{p:Pos}{te:TE}{pos':Pos}(hN:X.N.Nodup)(hi:X.N[i]?=some x)(hx:Loc X.env.scope x)(he:Dr (PE X (.List es p) te))(hf:X.fn x=true\/X.env.scope.names.lookup x=some .local:=by first|exact .inl rfl|exact .inr rfl|assumption) :
  Dr (PS X (.Assign [.Name x pos'] (.List es p) pos) (tAsg te (zFR i))):=⟨zTI hN hi hx he.h rfl hf⟩
end
end L2
namespace L3
open PySem PySem.Spec
open L2 hiding Rep RepL
open Mi (Dt Xn R okR zA3 optR zA0 zAB zAH zAE zAG Rh Sl Ro EM TM AM FM IM SM OM Tg Out zB5 zAT zBB full frz frz1 frzAt)
section
variable[Kc]{mg:Str->Option Value}{E:XK}{L n k l:Nat}
end
end L3
namespace Mi
open PySem
noncomputable section
end
end Mi
namespace L2
open PySem PySem.Spec PyProof.Rows
section
variable{X:Cx}
end
end L2
namespace L3
open PySem PySem.Spec PyProof.Rows
open L2 hiding Rep RepL
open Mi (Dt R Rh EM TM SM AM IM Xn Sl Ro Out okR zA3 optR full frz frzAt)
section
variable[Kc]{mg:Str->Option Value}{E:XK}{n L:Nat}{te ta tb:TE}{e:EM}{m m':SM}
end
end L3
namespace Mi
open PySem
noncomputable section
end
end Mi
namespace L2
open PySem PySem.Spec PyProof.Rows
section
variable{X:Cx}{tg:Expr}
end
section
variable{prog:Program}{w:World}{A:Around}{E:Value->Shared->Prop}{s:Shared}
end
section
variable{X:Cx}
end
end L2
namespace L3
open PySem PySem.Spec
open PyProof.Rows (risingS sortedS ltCps_eq)
open L2 hiding Rep RepL
open Mi (Dt Xn R okR zA3 optR zA0 zAB zAH zAE zAG Rh Sl Ro EM TM AM FM IM SM OM Tg Out zB5 zAT zBB full frz frz1 frzAt)
section
variable[Kc]{mg:Str->Option Value}{E:XK}{L n k l:Nat}{t:TA}{m:AM}
end
end L3
namespace Mi
open PySem
noncomputable section
end
end Mi
namespace L3
open PySem PySem.Spec
open L2 hiding Rep RepL
open Mi (Dt Xn R okR zA3 optR zA0 zAB zAH zAE zAG Rh Sl Ro EM TM AM FM IM SM OM Tg Out zB5 zAT zBB full frz frz1 frzAt)
section
variable[Kc]{mg:Str->Option Value}{E:XK}{L n k l:Nat}{te:TE}{e:EM}
section
variable{G0 H0 S0:Hp}{σ:St}{ρ:Ro}{G H:Hp}{As:Nat->Addr->Prop}
end
end
end L3
namespace Mi
open PySem
noncomputable section
end
end Mi
namespace L2
open PySem PySem.Spec PyProof.Rows
section
variable{X:Cx}
end
end L2
namespace L3
open PySem PySem.Spec
open L2 hiding Rep RepL
open Mi (Dt Xn R okR zA3 optR zA0 zAB zAH zAE zAG Rh Sl Ro EM TM AM FM IM SM OM Tg Out zB5 zAT zBB full frz frz1 frzAt)
section
variable[Kc]{mg:Str->Option Value}{E:XK}{L n k l:Nat}{te ta tb tx td:TE}{e ea eb ex ed ma:EM}{t:TA}{m:AM}
end
end L3
namespace Mi
open PySem
noncomputable section
end
end Mi
namespace L2
open PySem PySem.Spec PyProof.Rows
section
variable{prog:Program}{w:World}{A:Around}{E:Value->Shared->Prop}{s:Shared}
end
section
variable{X:Cx}
end
end L2
namespace L3
open PySem PySem.Spec
open L2 hiding Rep RepL
open Mi (Dt Xn R okR zA3 optR zA0 zAB zAH zAE zAG Rh Sl Ro EM TM AM FM IM SM OM Tg Out zB5 zAT zBB full frz frz1 frzAt)
section
variable[Kc]{mg:Str->Option Value}{E:XK}{L n k l:Nat}
end
end L3
namespace Mi
open PySem
noncomputable section
end
end Mi
namespace L2
open PySem PySem.Spec PyProof.Rows
section
variable{prog:Program}{w:World}{A:Around}{E:Value->Shared->Prop}{s:Shared}
end
section
variable{X:Cx}{o:Expr}{td:TE}{p apos cpos pos:Pos}
end
end L2
namespace L3
open PySem PySem.Spec
open PyProof.Rows (risingS sortedS ltCps_eq)
open L2 hiding Rep RepL
open Mi (Dt Xn R okR zA3 optR zA0 zAB zAH zAE zAG Rh Sl Ro EM TM AM FM IM SM OM Tg Out zB5 zAT zBB full frz frz1 frzAt)
section
variable[Kc]{mg:Str->Option Value}{E:XK}{L n k l:Nat}{te ta td:TE}{e ea ed:EM}
end
end L3
namespace Mi
open PySem
noncomputable section
end
end Mi
namespace L2
open PySem
end L2
namespace L2
open PySem PySem.Spec PyProof.Rows
section
variable{prog:Program}{w:World}{A:Around}{E:Value->Shared->Prop}{s:Shared}
end
section
variable{prog:Program}{w:World}{A:Around}{R:Result->Shared->Prop}{I:Addr}{fp wr:List Addr}{G:Array GenState->Array GenState->Prop}{n:Nat}{St:Nat->Shared->Prop}{led:Bool}{items:Array Value}{ns:List Int}
end
end L2
namespace PySem
open PyProof.Rows
end PySem
namespace L2
open PySem PySem.Spec PyProof.Rows
section
variable{prog:Program}{w:World}{A:Around}{E:Value->Shared->Prop}{s:Shared}
end
section
variable{X:Cx}{pins:List (Addr×Obj)}{σ:List (Option V)}{H:Hp}{s:Shared}
end
end L2
namespace L3
open PySem PySem.Spec
open L2 hiding Rep RepL
open Mi (Dt Xn R okR zA3 optR zA0 zAB zAH zAE zAG Rh Sl Ro EM TM AM FM IM SM OM Tg Out zB5 zAT zBB full frz frz1 frzAt)
section
variable[Kc]{mg:Str->Option Value}{E:XK}{L n k l:Nat}{te ta tb:TE}{e ea eb ma:EM}{t:TA}{m:AM}
end
end L3
namespace Mi
open PySem
noncomputable section
end
end Mi
namespace L2
open PySem PySem.Spec PyProof.Rows
section
variable{prog:Program}{w:World}{A:Around}{E:Value->Shared->Prop}{s:Shared}
structure ZipX(z TI TO i1 i2:Addr):Prop where
 TIz:TI≠z
 TOz:TO≠z
 i1z:i1≠z
 i2z:i2≠z
 TITO:TI≠TO
 TIi1:TI≠i1
 TIi2:TI≠i2
 TOi1:TO≠i1
 TOi2:TO≠i2
 i12:i1≠i2
end
section
variable{X:Cx}{K:qA1}
end
section
variable{X:Cx}{e m1:Expr}{te ts:TE}{pos p2:Pos}
end
end L2
namespace L2
open PySem PySem.Spec PyProof.Rows
section
variable{prog:Program}{w:World}{A:Around}{R:Result->Shared->Prop}{I:Addr}{fp wr:List Addr}{G:Array GenState->Array GenState->Prop}{n:Nat}{St:Nat->Shared->Prop}{led:Bool}{items:Array Value}{zs:List Str}
end
end L2
namespace PySem
open PyProof.Rows
end PySem
namespace L2
open PySem PySem.Spec PyProof.Rows
section
variable{X:Cx}{pins:List (Addr×Obj)}{σ:List (Option V)}{H:Hp}{s:Shared}
end
end L2
namespace L3
open PySem PySem.Spec
open L2 hiding Rep RepL
open Mi (Dt Xn R okR zA3 optR zA0 zAB zAH zAE zAG Rh Sl Ro EM TM AM FM IM SM OM Tg Out zB5 zAT zBB full frz frz1 frzAt)
section
variable[Kc]{mg:Str->Option Value}{E:XK}{L n k l:Nat}{te ta tb:TE}{e ea eb ma:EM}{t:TA}{m:AM}
end
end L3
namespace L2
open PySem
theorem uw1{P:List Value->Prop}(h:∀a,P [a]):∀us:List Value,us.length=1->P us
 |[a],_=>h a
theorem uw2{P:List Value->Prop}(h:∀a b,P [a,b]):∀us:List Value,us.length=2->P us
 |a::us,hl=>uw1 (P:=fun us=>P (a::us)) (h a) us (qGl hl)
theorem uw3{P:List Value->Prop}(h:∀a b c,P [a,b,c]):∀us:List Value,us.length=3->P us
 |a::us,hl=>uw2 (P:=fun us=>P (a::us)) (h a) us (qGl hl)
theorem oi{p q:Prop}(h:p\/q:=by first|exact qGt rfl|exact qGc rfl):p\/q:=h
end L2
namespace L3
open PySem PyProof.Rows
open L2 hiding Rep RepL
theorem fsc{N P:List Str}{sc:Scope}(a:sc.kind=.function:=by rfl)(b:sc.isCoroutine=false:=by rfl)(c:sc.isGenerator=false:=by rfl)(d:N.Nodup:=by decide +kernel)(e:N.take P.length=P:=by rfl)
  (f:∀x∈P,sc.names.lookup x=some .local\/sc.names.lookup x=some .cell:=by decide +kernel) (g:∀y∈sc.names,y.2≠.free:=by decide +kernel):FnScope N P sc:=⟨a,b,c,d,e,f,g⟩
section
variable{P:Program}{w:World}{K:qA1}{mg:Str->Option Value}{base:Heap}{x:Str}{st:Stmt}{N ps:List Str}{k:Nat}{sp:Sp}
theorem dfM{L n:Nat}{m:Mi.SM}(D:Def K mg x st)(S:FnScope N ps (zAA st))
  (hb:∀(kV doc pm:Value)(an:Option Addr)(cdv ct:Value)(us:List Value),us.length=ps.length->bindArgs (qB4 x x (zCP st) (zBC st) (zAA st) .none kV doc pm an cdv ct) ⟨us,[]⟩=pure (ps.zip us))
  (hbody:∀{f:Addr}{cdv:Value}{A:Around}{outer:List Env}{s:Shared}{H:Hp}{vs:List V}{Q:VK}{E:XK},Room k (A.deeper (envOfC x (zAA st) s.heap.objs.size f cdv))->(A.deeper (envOfC x (zAA st) s.heap.objs.size f cdv)).units+64<cLine->sp0 K mg L (Mi.runF ps.length n m) vs H Q E ->
   ∃t,PSs (cxOf CX0 P w K mg base N x (zAA st) f cdv A outer s H E).nox (zBC st) t/\t { nx:=fun _ H'=>Q .non H',rt:=Q } (start N vs) H):Has P w K mg base x (k+1) ps (sp0 K mg L (Mi.runF ps.length n m)):=
 D.ok S hb (fun _ _ _ _ h=>@zIO ⟨K⟩ _ _ _ _ _ _ _ _ _ h) fun _ _ _ _ _ _ _ _ _ hr h=>hbody hr hr.units h
theorem mkD{K:qA1}{h:Heap}{mg:Str->Option Value}{nm:Str}{st:Stmt}{f:Addr}{oc kV dc pm cd ct:Value}{od an:Option Addr}{sl:Array (Option Value)}(X:K.In h)(G:h.Ns mainGlobals mg)(a:qBp K mainGlobals nm=some (some (.ref f)))(l:K.lookup f=some ⟨oc,od,.func (qB4 nm nm (zCP st) (zBC st) (zAA st) .none kV dc pm an cd ct),sl⟩)(c:qC8 K cd nm=true)(k:qAv K (.ref f)=true):Def K mg nm st:=⟨f,_,zQ3 (st:=st) l c k,qCp X G a⟩
end
section
variable{X:Cx}{pos:Pos}
theorem pgn(i:Nat){x:Str}(hN:decide X.N.Nodup=true:=by kernel_rfl)(hi:X.N[i]?=some x:=by rfl)(hx:Loc X.env.scope x:=by exact oi)(hf:X.fn x=true\/X.env.scope.names.lookup x=some .local:=by first|exact .inl rfl|exact .inr rfl|assumption):PG X (.Name x pos) (zFR i):=zC0 (of_decide_eq_true hN) hi hx hf
theorem pst(i:Nat){x:Str}{e:Expr}{te:TE}{pos':Pos}(hN:X.N.Nodup)(he:PE X e te)(hi:X.N[i]?=some x:=by rfl)(hx:Loc X.env.scope x:=by exact oi)(hs:swapsWith e (some (.Name x pos')) pos.line X.env=pure false:=by rfl)(hf:X.fn x=true\/X.env.scope.names.lookup x=some .local:=by first|exact .inl rfl|exact .inr rfl|assumption):PS X (.Assign [.Name x pos'] e pos) (tAsg te (zFR i)):=zTI hN hi hx he hs hf
end
end L3
namespace Mi
open PySem
noncomputable section
end
end Mi
namespace L3
open PySem PySem.Spec
open L2 hiding Rep RepL
open Mi (Dt Xn R okR zA3 optR zA0 zAB zAH zAE zAG Rh Sl Ro EM TM AM FM IM SM Tg Out zB5 zAT zBB full frz frz1 frzAt)
section
variable[Kc]
section
variable{G0 H0 S0:Hp}{σ:St}{ρ:Ro}{G H:Hp}{As:Nat->Addr->Prop}
end
variable{mg:Str->Option Value}{E:XK}{L n k l:Nat}{te ta tb:TE}{e ea eb ma:EM}{t:TA}{m:AM}
end
end L3
namespace Mi
open PySem
def eCallL(f:FM)(e:EM)(x:Str)(i:Nat):EM:=fun ρ=>zA3 (e ρ) fun d=>match ρ[i]? with
 |some (some c)=>match f [d,.fn x c]with
  |some (.ok r)=>if r.dep<=40 then okR r else none
  |_=>none
 |_=>none
def eCallF(ls:List (Str×FM))(i:Nat)(a:AM):EM:=fun ρ=>match ρ[i]? with
 |some (some (.fn x c))=>match ls.lookup x with
  |some f=>if c.dep<=40 then zA3 (a ρ) fun ds=>if Dt.depL ds=0 then match f (ds++[c])with
    |some (.ok r)=>if r.dep=0 then okR r else none
    |_=>none else none else none
  |none=>none
 |_=>none
noncomputable def lamF(n:Nat)(e:EM):FM:=fun ds=>if ds.length=n then e (ds.map some)else none
end Mi
namespace L3
open PySem PySem.Spec
open L2 hiding Rep RepL
open Mi (Dt Xn R okR zA3 optR zA0 zAB zAH zAE zAG Rh Sl Ro EM TM AM FM IM SM Tg Out zB5 zAT zBB full frz frz1 frzAt)
variable[Kc]
section
variable{G H:Hp}{cl:Addr}{co:Obj}
theorem Same.del{H':Hp}(s:Same H H')(cl:Addr):Same (del H cl) (del H' cl):=fun b o e=>by
 obtain⟨z,e⟩:=zN2 e;rw[zBV z];exact s _ _ e
mutual
theorem Rep.del(hc:G cl=some (cel co)):∀{d:Dt}{v:V},d.dep<=40->Rep G d v->Rep (del G cl) d v
 |.non,_,_,h=>h
 |.bl _,_,_,h=>h
 |.int _,_,_,h=>h
 |.str _,_,_,h=>h
 |.lst ds,_,hd,h=>by
  obtain⟨a,xs,e,e',r⟩:=h;exact⟨a,xs,e,(zBV (zKB e' hc (by simp))).trans e',RepL.del hc (by rw[Dt.dep]at hd;lia) r⟩
 |.tup ds,_,hd,h=>by
  obtain⟨a,xs,e,e',r⟩:=h;exact⟨a,xs,e,(zBV (zKB e' hc (by simp))).trans e',RepL.del hc (by rw[Dt.dep]at hd;lia) r⟩
 |.scr _,_,h,_=>by rw[Dt.dep]at h;lia
 |.exc _ _ _,_,h,_=>by rw[Dt.dep]at h;lia
 |.ins _ _,_,h,_=>by rw[Dt.dep]at h;lia
 |.dct _,_,h,_=>by rw[Dt.dep]at h;lia
 |.fn _ _,_,h,_=>by rw[Dt.dep]at h;lia
theorem RepL.del(hc:G cl=some (cel co)):∀{ds:List Dt}{xs:List V},Dt.depL ds<=40->RepL G ds xs->RepL (del G cl) ds xs
 |[],_,_,h=>h
 |d::r,_,hd,h=>by
  rw[Dt.depL]at hd;obtain⟨x,q,e,a,b⟩:=h;exact⟨x,q,e,Rep.del hc (by lia) a,RepL.del hc (by lia) b⟩
end
theorem Own.del(hc:G cl=some (cel co)):∀{n:Nat}{S:Addr->Prop}{d:Dt}{v:V},d.dep<=40->¬S cl->Own G H n S d v->Own (del G cl) (del H cl) n S d v
 |0,_,_,_,hd,_,h=>Rep.del hc hd h
 |n+1,S,d,v,hd,hs,h=>by
  cases d with
  |lst ds=>
   rw[Dt.dep]at hd;obtain⟨a,xs,T,e,ha,k⟩:=h;have hac:a≠cl:=fun z=>hs (z▸k.top)
   exact⟨a,xs,T,e,(zBV hac).trans ha,k.imp (fun q d x h1 p=>Own.del hc (zF1 (by lia) h1) (fun z=>hs (k.sub q _ z)) p) fun _ z=>z⟩
  |tup ds=>
   rw[Dt.dep]at hd;obtain⟨a,xs,T,e,ha,k⟩:=h;have hac:a≠cl:=fun z=>hs (z▸k.top)
   exact⟨a,xs,T,e,(zBV hac).trans ha,k.imp (fun q d x h1 p=>Own.del hc (zF1 (by lia) h1) (fun z=>hs (k.sub q _ z)) p) fun _ z=>z⟩
  |dct kvs=>rw[Dt.dep]at hd;lia
  |non=>exact h
  |bl _=>exact h
  |int _=>exact h
  |str _=>exact h
  |scr _=>rw[Dt.dep]at hd;lia
  |exc _ _ _=>rw[Dt.dep]at hd;lia
  |ins _ _=>rw[Dt.dep]at hd;lia
  |fn _ _=>rw[Dt.dep]at hd;lia
theorem zJZ:∀{ds:List Dt}{vs:List V}{c:Dt}{w:V},RepL G ds vs->Rep G c w->RepL G (ds++[c]) (vs++[w])
 |[],_,c,w,h,r=>by cases h;exact⟨w,[],rfl,r,rfl⟩
 |d::t,_,c,w,h,r=>by
  obtain⟨x,q,rfl,a,b⟩:=h;exact⟨x,q++[w],rfl,a,zJZ b r⟩
end
variable{mg:Str->Option Value}{E:XK}{n:Nat}
theorem zSQ{f:FM}{te:TE}{e:EM}{x:Str}{L:Arguments×Expr×Scope×Str}{P cl:Addr}{i:Nat}(hL:lamK Kc.K x=some L)(hP:tabK Kc.K P=some (.lam (lamQ x)))(A:DE mg E te e 0) :
  DE mg E (zMF (sp0 Kc.K mg n f) cl i (zGR te (zGR (tLam P (lamQ x) L.1 L.2.1 L.2.2.1 [(L.2.2.2,cl)]) tNil))) (Mi.eCallL f e x i) n:=by
 intro G H σ ρ Q s w p;refine A.step errE s w p fun d v G1 H1 S _ fr o p1=>?_
 refine⟨fr.ext.in' _ _ (fr.ext.g _ _ (w.tab _ _ hP)),fun g pm cdv ctv H2 hf sm h2=>?_⟩;show ∃v',σ[i]?=some (some v')/\_;cases e1:ρ[i]? with
 |none=>rw[e1]at p1;exact p1.elim
 |some oc=>
  cases oc with
  |none=>rw[e1]at p1;exact p1.elim
  |some c=>
   rw[e1]at p1;obtain⟨wv,hσ,rc⟩:=w.at i c e1;refine⟨wv,hσ,fun co val hcl hco rv=>?_⟩;have hH1:H1 cl=none:=by
    cases z:H1 cl with
    |none=>rfl
    |some u=>rw[sm _ _ z]at hcl;cases hcl
   have hG1:G1 cl=none:=by
    cases z:G1 cl with
    |none=>rfl
    |some u=>rw[fr.ext.in' _ _ z]at hH1;cases hH1
   have hGf:G1 g=none:=by
    cases z:G1 g with
    |none=>rfl
    |some u=>rw[fr.ext.in' _ _ z]at hf;cases hf
   have ncf:cl≠g:=fun z=>by rw[z,h2]at hcl;cases hcl
   generalize hG3:upd (upd G1 g (.fn (lamO (lamQ x) L.1 L.2.1 L.2.2.1 [(L.2.2.2,cl)] pm cdv ctv) (lamQ x))) cl (cel co)=G3
   have s13:Same G1 G3:=fun b u z=>by rw[<- hG3,zAC (zAI z hG1),zAC (zAI z hGf)];exact z
   have c3:G3 cl=some (cel co):=by rw[<- hG3,zAJ]
   have f3:G3 g=some (.fn (lamO (lamQ x) L.1 L.2.1 L.2.2.1 [(L.2.2.2,cl)] pm cdv ctv) (lamQ x)):=by rw[<- hG3,zAC ncf.symm,zAJ]
   have s3:Same G3 (upd H2 cl (cel co)):=fun b u z=>by
    by_cases z1:b=cl
    ·subst z1;rw[zAJ,<- c3,z]
    ·rw[zAC z1]
     by_cases z2:b=g
     ·subst z2;rw[h2,<- f3,z]
     ·rw[<- hG3,zAC z1,zAC z2]at z;exact sm _ _ (fr.ext.in' _ _ z)
   have rc3:Rep G3 c wv:=Rep.mono (fr.ext.g.trans s13) rc;refine⟨G3,[d,.fn x c],(w.tab.trans fr.ext.g).trans s13,s3,⟨v,_,rfl,Rep.mono s13 o,.ref g,[],rfl,⟨g,rfl,L,cl,pm,cdv,ctv,co,val,wv,hL,f3,c3,hco,rv,rc3⟩,rfl⟩,?_⟩;have p2:PostE mg E G H n (match f [d,.fn x c]with
    |some (.ok r)=>if r.dep<=40 then okR r else none
    |_=>none) Q:=p1
   cases er:f [d,.fn x c]with
   |none=>rw[er]at p2;exact p2
   |some r=>
    rw[er]at p2;cases r with
    |error y=>exact p2.elim
    |ok r=>
     have p3:PostE mg E G H n (if r.dep<=40 then okR r else none) Q:=p2
     by_cases hd:r.dep<=40
     ·rw[if_pos hd]at p3;intro u G4 H4 S4 fr4 o4;have c4:G4 cl=some (cel co):=fr4.ext.g _ _ c3;have nS:¬S4 cl:=fun z=>by have:=(fr4.new cl z).1;rw[zAJ]at this;cases this
      have neH:∀{b:Addr}{u:HO},H b=some u->b≠cl:=fun z=>zAI (fr.ext.h _ _ z) hH1
      refine p3 u (del G4 cl) (del H4 cl) S4 ⟨⟨fun b u z=>?_,fun b u z=>?_,Same.del fr4.ext.in' cl,fun b hb=>?_⟩,fun a ha=>?_⟩ (Own.del c4 hd nS o4)
      ·have z1:=fr.ext.g _ _ z;rw[zBV (zAI z1 hG1)];exact fr4.ext.g _ _ (s13 _ _ z1)
      ·rw[zBV (neH z)];exact fr4.ext.h _ _ (by rw[zAC (neH z)];exact sm _ _ (fr.ext.h _ _ z))
      ·cases z:H b with
       |none=>exact absurd z hb
       |some u=>
        have z1:=fr.ext.h _ _ z;rw[zBV (neH z),fr4.ext.old b (by rw[zAC (neH z),sm _ _ z1];simp),<- hG3,zAC (neH z),zAC (zAI z1 hf)];exact fr.ext.old b hb
      ·obtain⟨n1,n2,n3⟩:=fr4.new a ha;have za:a≠cl:=fun z=>nS (z▸ha)
       rw[zAC za]at n1;refine⟨?_,zDX n2,by rw[zBV za];exact n3⟩;cases z:H a with
       |none=>rfl
       |some u=>rw[sm _ _ (fr.ext.h _ _ z)]at n1;cases n1
     ·rw[if_neg hd]at p3;exact p3.elim
def rLam(K:qA1)(ls:List (Str×FM)):Addr->List V->Hp->VK->Prop:=fun f vs H Q=>∃x fm c G cl co val w L pm cdv ctv ds r,ls.lookup x=some fm/\lamK K x=some L /\
 H f=some (.fn (lamO (lamQ x) L.1 L.2.1 L.2.2.1 [(L.2.2.2,cl)] pm cdv ctv) (lamQ x))/\H cl=some (cel co)/\co.data=.cell (some val)/\RelV w val/\Same (tabK K) G/\Same G (del H cl)/\@RepL ⟨K⟩ G (ds++[c]) (vs++[w]) /\
 fm (ds++[c])=okR r/\r.dep=0/\∀v H',@Rep ⟨K⟩ (fun _=>none) r v->Same H H'->Q v H'
theorem zSR{ls:List (Str×FM)}{i:Nat}{ta:TA}{a:AM}(A:DA mg E ta a 0):DE mg E (zOQ i (rLam Kc.K ls) ta) (Mi.eCallF ls i a) n:=by
 intro G H σ ρ Q s w p;unfold Mi.eCallF at p
 split at p
 ·rename_i x c e1
  obtain⟨v,hσ,f,rfl,L,cl,pm,cdv,ctv,co,val,wv,h1,h2,h3,h4,h5,h6⟩:=w.at i _ e1
  split at p
  ·rename_i fm hl
   split at p
   ·rename_i hc
    refine⟨f,_,_,hσ,s _ _ h2,?_⟩;refine A.step errE s w p fun ds vs G1 H1 S T _ fr o p1=>?_
    have f1:=fr.ext.h _ _ (s _ _ h2);have c1:G1 cl=some (cel co):=fr.ext.g _ _ h3
    split at p1
    ·rename_i hd
     cases er:fm (ds++[c])with
     |none=>rw[er]at p1;exact p1.elim
     |some r=>
      rw[er]at p1;cases r with
      |error y=>exact p1.elim
      |ok r=>
       have p3:PostE mg E G H n (if r.dep=0 then okR r else none) Q:=p1
       by_cases hd0:r.dep=0
       ·rw[if_pos hd0]at p3;refine⟨f1,x,fm,c,del G1 cl,cl,co,val,wv,L,pm,cdv,ctv,ds,r,hl,h1,f1,fr.ext.in' _ _ c1,h4,h5,fun b u z=>?_,Same.del fr.ext.in' cl,zJZ (RepL.del c1 (by lia) o.repL) (Rep.del c1 hc (Rep.mono fr.ext.g h6)),er,hd0,fun v H' rv sm=>?_⟩
        ·have z1:=fr.ext.g _ _ (w.tab _ _ z);refine(zBV ?_).trans z1
         rintro rfl
         rw[c1]at z1;cases z1;unfold tabK at z;cases y:makers.find? fun x=>codP Kc.K x==some b&&(lamK Kc.K x).isSome with
         |none=>rw[y]at z;cases z
         |some t=>rw[y]at z;cases z
        ·exact PostE.val p3 (fr.ext.trans (Ext.same fr.ext.in' sm)) hd0 (Rep.scalar rv hd0)
       ·rw[if_neg hd0]at p3;exact p3.elim
    ·exact p1.elim
   ·exact p.elim
  ·exact p.elim
 ·exact p.elim
end L3
namespace L3
open PySem PySem.Spec
open L2 hiding Rep RepL
open Mi (Dt EM FM okR)
structure LamOk(K:qA1)(mg:Str->Option Value)(k:Nat)(x:Str)(fm:FM):Prop where
 ex:∃(L:Arguments×Expr×Scope×Str)(ps:List Str)(e:EM),lamK K x=some L/\LamScope ps L.2.2.2 L.2.2.1 /\
  (∀(q:Str)(cl:Addr)(pm cdv ctv:Value)(us:List Value),us.length=ps.length->bindArgs (qC9 "<lambda>" q L.1 L.2.1 L.2.2.1 [(L.2.2.2,cl)] pm cdv ctv) ⟨us,[]⟩=pure (ps.zip us)) /\
  fm=Mi.lamF (ps.length+1) e/\∀(X:Cx)(q:Str)(f:Addr)(cdv:Value)(cl:Addr)(s:Shared)(H:Hp),X.K=K->X.mg=mg->Room k (X.A.deeper (qD0 q L.2.2.1 s.heap.objs.size f cdv [(L.2.2.2,cl)])) ->
   ∃t,PE (zST X (ps++[L.2.2.2]) q L.2.2.1 f cdv [(L.2.2.2,cl)] s H) L.2.1 t/\@DE ⟨K⟩ mg E0 t e 0
theorem lamR{K:qA1}{mg:Str->Option Value}{k:Nat}{ls:List (Str×FM)}{X:Cx}(hK:X.K=K)(hm:X.mg=mg)(hr:Room (k+1) X.A)(h:∀x fm,ls.lookup x=some fm->LamOk K mg k x fm):LamR X (rLam K ls):=by
 letI:Kc:=⟨K⟩
 intro pins s σ H f vs us Q I r ⟨x,fm,c,G,cl,co,val,w,L,pm,cdv,ctv,ds,d,h1,h2,h3,h4,h5,h6,h7,h8,h9,h10,h11,h12⟩;obtain⟨L',ps,e,g1,g2,g3,g4,g5⟩:=(h x fm h1).ex;rw[h2]at g1;cases g1;subst g4;obtain⟨t,ht,D⟩:=g5 X (lamQ x) f cdv cl s (del H cl) hK hm (hr.deeper _);unfold Mi.lamF at h10
 split at h10
 ·rename_i hlen
  have hl:vs.length=ps.length:=by
   have:=RepL.length h9
   simp only[qB0,qAo,qFk]at this hlen
   lia
  refine zUR hr I h3 h4 h5 h6 r g2 (fun us hu=>g3 _ _ _ _ _ us hu) hl ⟨t,ht,?_⟩;refine D G (del H cl) _ ((ds++[c]).map some) _ h8 ⟨?_,fun i d' e1=>?_,h7⟩ ?_
  ·have:=RepL.length h9
   simp only[qB0,qAi,qAo,qFk]at this ⊢
   lia
  ·rw[qAf]at e1;cases e2:(ds++[c])[i]? with
   |none=>rw[e2]at e1;cases e1
   |some d2=>
    rw[e2]at e1;cases e1;have hi:i<(vs++[w]).length:=by rw[RepL.length h9];exact(qA2.mp e2).1
    refine⟨(vs++[w])[i],?_,zCD h9 e2 (qA7 hi)⟩;rw[show vs.map some++[some w]=(vs++[w]).map some by simp,qAf,qA7 hi];rfl
  ·rw[h10];intro v G' H' S fr o;refine h12 v _ (Rep.scalar o h11) fun b u z=>?_
   by_cases zb:b=cl
   ·subst zb;rw[zAJ,<- h4,z]
   ·rw[zAC zb];exact fr.ext.h _ _ (by rw[zBV zb];exact z)
 ·cases h10
end L3
namespace L3
open PySem PySem.Spec PyProof.Rows
open L2 hiding Rep RepL
structure Tabs(K:qA1)(ts:List Addr):Prop where
 no:∀P∈ts,K.lookup P=none
 «in»:∀x∈makers,∀P,codP K x=some P->(lamK K x).isSome=true->P∈ts/\∃c,qAy K c P=true
theorem zJP{K:qA1}{ts:List Addr}(T:Tabs K ts){P:Addr}{u:HO}(h:tabK K P=some u):P∈ts/\(∃q,u=.lam q)/\∃c,qAy K c P=true:=by
 unfold tabK at h;cases e:makers.find? fun x=>codP K x==some P&&(lamK K x).isSome with
 |none=>rw[e]at h;cases h
 |some x=>
  rw[e]at h;cases h;have h1:=List.mem_of_find?_eq_some e;have h2:=List.find?_some e;simp only[qB2,beq_iff_eq]at h2;obtain⟨a,b⟩:=T.in x h1 P h2.1 h2.2;exact⟨a,⟨_,rfl⟩,b⟩
theorem zPR{P:Program}{w:World}{K:qA1}{mg mb:Str->Option Value}{CX:CXT}{k:Nat}{fa a:Addr}{fd:FuncData}{x:Str}{sp:Sp}{s₁:Shared}{vs:List Value}{ns:List Int}{ts:List Addr}
  (KX:K.In s₁.heap) (hT:∀P∈ts,s₁.heap.get? P=some (qEa #[])) (T:Tabs K ts) (hns:s₁.heap.Ns mainGlobals mg) (hb:s₁.heap.Ns builtinsNs mb) (hbb:∀x:Str,x≠"__name__"->mb x=bootBuiltins x) (hlim:s₁.heap.NoLimit)
  (hbm:∃bm ob,mg "__builtins__" = some (.ref bm)/\bm≠builtinsNs/\s₁.heap.get? bm=some ob/\ob.cls=.type "module"/\ob.dict=some builtinsNs/\ob.data=.plain) (hg:s₁.gens=#[])
  (ha:s₁.heap.get? a=some { cls:=.type "list",data:=.seq vs.toArray }) (hi:IntsAre vs ns) (hl:ns.length<=sizeLine) (hr:Room k callerA)
  (F:∀base:Heap,K.In base->base.Ns mainGlobals mg->FnOk P w K mg base CX k fa fd [x] sp) (hbind:∀(s:Shared)(u:Value),BindsTo s fd ⟨[u],[]⟩ [(x,u)])
  (hsp:∀H:Hp,Same (tabK K) H->SqL K H a (ns.map V.int)->sp [.ref a] H (fun v H'=>v=.bl true/\Same (tabK K) H') fun _ _ _=>False)
  (hCX:∀H e s',CX [] H s₁ (fun _ _ _=>False) e s'->False) :
  codeAny (model P w) callerA (.call (.ref fa) ⟨[.ref a],[]⟩) (fun r s'=>r=.ok (.ret (.bool true))/\OldK s₁.heap s'.heap/\s'.os=s₁.os/\AllBare s'.gens) s₁:=by
 have rv:=zJN hi;have lenV:=hi.length;have tabO:∀{b:Addr}{u:HO},tabK K b=some u->s₁.heap.get? b=some (qEa #[]):=fun e=>hT _ (zJP T e).1
 have core:∀H:Hp,(∀b u,H b=some u->(b=a/\∃o xs,u=.frz o (.lst xs))\/tabK K b=some u)->Same (tabK K) H->SqL K H a (ns.map V.int)->HOk P w H s₁.heap->(∀b,H b≠none->K.lookup b=none) ->
   codeAny (model P w) callerA (.call (.ref fa) ⟨[.ref a],[]⟩) (fun r s'=>r=.ok (.ret (.bool true))/\OldK s₁.heap s'.heap/\s'.os=s₁.os/\AllBare s'.gens) s₁:=by
  intro H hO hTab hS hok hK;have base_of:∀{b:Addr}{o:Obj},s₁.heap.get? b=some o->H b=none->(hidT s₁.heap H).get? b=some o:=fun e n=>zSD e n
  have noA:∀{b:Addr}{o:Obj},s₁.heap.get? b=some o->(∀v,o.data≠.fields v)->(∀v n,o.data≠.seq v n)->H b=none:=fun{b o} e d1 d2=>by
   cases q:H b with
   |none=>rfl
   |some u=>
    rcases hO b u q with⟨z,_⟩|z
    ·subst z;rw[ha]at e;cases e;exact absurd rfl (d2 _ _)
    ·rw[tabO z]at e;cases e;exact absurd rfl (d1 _)
  have nsK:∀{b:Addr}{m:Str->Option Value},s₁.heap.Ns b m->(hidT s₁.heap H).Ns b m:=fun{b m} ⟨o,es,ep,e,d,r⟩=>⟨o,es,ep,base_of e (noA e (fun v z=>by rw[d]at z;cases z) fun v n z=>by rw[d]at z;cases z),d,r⟩
  have hKb:K.In (hidT s₁.heap H):=fun b o e=>base_of (KX b o e) (by
   cases q:H b with
   |none=>rfl
   |some u=>rw[hK b (by rw[q];simp)]at e;cases e)
  have hM:Mod K mg (hidT s₁.heap H):=⟨hKb,nsK hns,⟨mb,nsK hb,hbb⟩,let⟨mc,h1,h2⟩:=hlim;⟨mc,nsK h1,h2⟩,let⟨bm,ob,e1,e2,e3,e4,e5,e6⟩:=hbm;⟨bm,ob,e1,e2,base_of e3 (noA e3 (fun v z=>by rw[e6]at z;cases z) fun v n z=>by rw[e6]at z;cases z),e4,e5,e6⟩⟩
  have e0:Env0 P w K mg (hidT s₁.heap H) callerA [] s₁ H:=⟨rfl,hM,fun b o e=>zV8 e,qCm (zQ1 _ _),trivial,fun b hb=>absurd (show b∈([]:List Addr) from hb) (by simp),hok,.of_eq hg⟩
  refine codeAny_mono ((F _ hKb (nsK hns)).run callerA [] s₁ H ⟨[.ref a],[]⟩ [.ref a] [.ref a] _ _ hr e0 (hbind s₁ (.ref a)) (.cons rfl .nil) (hsp H hTab hS)) fun r s' h=>?_
  cases r with
  |error e=>exact(hCX H e s' h).elim
  |ok fl=>
   cases fl with
   |next=>exact qA6 h
   |brk=>exact qA6 h
   |cont=>exact qA6 h
   |ret u=>
    obtain⟨v,H',os,bare,un,hok',r',q,qT⟩:=h;subst q;obtain rfl:u=Value.bool true:=r';refine⟨rfl,⟨fun b o e=>?_,fun b o e=>un.there b o e (by simp)⟩,os,bare⟩;cases q:H b with
    |none=>exact .inl (un.keep b o e q (by intro z;exact absurd (show b∈([]:List Addr) from z) (by simp)) (by simp))
    |some u=>
     rcases hO b u q with⟨_,ob,xs,rfl⟩|z
     ·have z2:=un.frzs b ob _ q;obtain⟨e1,_⟩:=hok b _ q;obtain⟨e2,_⟩:=hok' b _ z2;rw[e]at e1;cases e1;exact .inl e2
     ·obtain⟨hts,⟨qq,rfl⟩,c,hc⟩:=zJP T z;obtain⟨ps,e2,_⟩:=hok' b _ (qT _ _ z);have e3:=hT b hts;rw[e3]at e;cases e;exact .inr (.inl ⟨((qEg KX hc).tab e3).isCodeTable,rfl,#[],ps,rfl,by rw[e2];simp⟩)
 have tOk:∀{H:Hp}{b:Addr}{u:HO},tabK K b=some u->ObjOk P w H s₁.heap b u:=fun{H b u} z=>by
  obtain⟨hts,⟨q,rfl⟩,_⟩:=zJP T z;exact⟨#[],hT b hts,trivial,fun pos cv y=>by simp[codeAmong]at y⟩
 have nta:tabK K a=none:=by
  cases z:tabK K a with
  |none=>rfl
  |some u=>have:=tabO z;rw[ha]at this;cases this
 cases hk:K.lookup a with
 |some o=>
  have e:=KX a o hk;rw[ha]at e;cases e;exact core (tabK K) (fun b u z=>.inr z) (Same.refl _) (.inr ⟨_,vs.toArray,_,hk,rfl,rfl,rfl,by rw[qAk,lenV];exact hl,by simpa using rv⟩) (fun b u z=>tOk z) fun b z=>by
   cases y:tabK K b with
   |none=>exact absurd y z
   |some u=>exact T.no b (zJP T y).1
 |none=>
  refine core (upd (tabK K) a (.frz { cls:=.type "list",data:=.seq vs.toArray } (.lst (ns.map V.int)))) (fun b u z=>?_) (fun b u z=>?_) (.inl (.inr ⟨{ cls:=.type "list",data:=.seq vs.toArray },zAJ⟩)) (fun b u z=>?_) fun b z=>?_
  ·by_cases hb:b=a
   ·subst hb;rw[zAJ]at z;cases z;exact .inl ⟨rfl,_,_,rfl⟩
   ·rw[zAC hb]at z;exact .inr z
  ·rw[zAC (zAI z nta)];exact z
  ·by_cases hb:b=a
   ·subst hb;rw[zAJ]at z;cases z;exact⟨ha,by rw[qAi];exact hl,vs,_,rv,ha⟩
   ·rw[zAC hb]at z;exact tOk z
  ·by_cases hb:b=a
   ·subst hb;exact hk
   ·rw[zAC hb]at z;cases y:tabK K b with
    |none=>exact absurd y z
    |some u=>exact T.no b (zJP T y).1
theorem zR1{l:qCv}{n k:Nat}{q:Program}{loose:List Str}{XP:(Str->Option Value)->Heap->Prop}{YP:World->Heap->Prop}{d:DefRec}{K:Params->qA1}{CX:World->CXT}{sp:World->Sp}{x:Str}{ts:List Addr}
  (hn:l.most=some n) (hn2:n<=sizeLine) (hdf:d.params.defaults=[]) (hr:Room k callerA)
  (hY:∀(w:World)(h:Heap),YP w h->(K w.params).In h/\∀P∈ts,h.get? P=some (qEa #[]))
  (F:∀(w:World)(mg:Str->Option Value)(fa:Addr)(h:Heap),(K w.params).In h->h.Ns mainGlobals mg->mg d.name=some (.ref fa) ->
   Tabs (K w.params) ts/\∃fd:FuncData,(∀(s:Shared)(u:Value),BindsTo s fd ⟨[u],[]⟩ [(x,u)]) /\
    ∀base:Heap,(K w.params).In base->base.Ns mainGlobals mg->FnOk l.prog w (K w.params) mg base (CX w) k fa fd [x] (sp w))
  (hsp:∀(w:World)(H:Hp)(a:Addr)(ns:List Int),ns.length<=n->(∀i∈ns,i.natAbs.log2<2 ^ 20)->Same (tabK (K w.params)) H->SqL (K w.params) H a (ns.map V.int)->sp w [.ref a] H (fun v H'=>v=.bl true/\Same (tabK (K w.params)) H') fun _ _ _=>False)
  (hCX:∀(w:World)(H:Hp)(s:Shared)(e:Value)(s':Shared),CX w [] H s (fun _ _ _=>False) e s'->False) :
  qEm q loose XP YP l.row.toRowW d [] (fun f vs=>qEw f vs):=by
 refine Att.attach_callW hn hdf fun w s₀ s₁ mg mb fa o pm cd doc a vs ns G Y ho hd hcd hmg hobj hints hlen hw hg=>?_
 obtain⟨KX,hT⟩:=hY w _ Y;obtain⟨T,fd,hb,hF⟩:=F w mg fa _ KX G.T.g hmg;exact zPR KX hT T G.T.g G.T.b G.T.builtins G.T.nolimit G.T.bmain hg hobj hints (qAj hlen hn2) hr hF hb (fun H hO hS=>hsp w H a ns hlen hw hO hS) fun H e s'=>hCX w H s₁ e s'
end L3
namespace L2
open PySem PySem.Spec PyProof.Rows
section
variable{X:Cx}
theorem zPE{params:Arguments}{body:Expr}{scope:Scope}{pos:Pos}{c P:Addr}{q:Str}{clos:List (Str×Addr)}(hC:qAy X.K c P=true)(hdef:defaultsOf params X.env=([],[]):=by rfl)(hcode:X.env.code=.ref c:=by rfl)
  (hq:X.env.qual ++ "<lambda>" = q:=by rfl) (hcl:closureFor scope X.env=pure clos:=by rfl):PE X (.Lambda params body scope pos) (tLam P q params body scope clos):=fun pins s σ H Q I h=>
 zXH hdef hcode (qEg I.ok.mod.kin hC) hq hcl pins s σ H Q I h
theorem zTP{x nm:Str}{j k:Nat}{ps:List Str}{sp:Sp}{e:Expr}{es:List Expr}{t:TA}{p pos:Pos}{cl:Addr}(i:Nat)(h:Has X.prog X.w X.K X.mg X.base x j ps sp)(hjk:j<=k)(hr:Room k X.A)(hg:Gl X x)(ha:PA X (e::es) t)
  (hN:X.N[i]?=some nm:=by rfl) (hv:X.env.scope.names.lookup nm=some .cell:=by rfl) (hfn:X.fn nm=true:=by rfl) (hc:X.env.cells.lookup nm=some cl:=by rfl) (hdb:(x==("__debug__":Str))=false:=by decide)
  (he:starEach (e::es) X.env=(false,eval e X.env)::starEach es X.env:=by rfl) (hpl:(backTo pos (starEach es X.env)).any (·.1)=false:=by rfl):PE X (.Call (.Name x p) (e::es) [] pos) (zMF sp cl i t):=by
 obtain⟨f,fd,G,m,kp,b⟩:=h;exact zRT G (hr.mono hjk) hg m kp b ha hN hv hfn hc hdb he hpl
end
end L2
namespace L3
open PySem PyProof.Rows
open L2 hiding Rep RepL
structure Mkr(K:qA1)(mg:Str->Option Value)(x:Str)(st:Stmt)(P:Addr):Prop where
 ex:∃f fd c,Fun K x x st f fd/\mg x=some (.ref f)/\fd.code=.ref c/\qAy K c P=true
 lam:lamK K x=zO1 (zBC st)
 tab:tabK K P=some (.lam (lamQ x))
section
variable{P:Program}{w:World}{K:qA1}{mg:Str->Option Value}{base:Heap}{x:Str}{st:Stmt}{N ps:List Str}{k:Nat}{sp:Sp}{T:Addr}
theorem dfL{L n:Nat}{m:Mi.SM}(D:Mkr K mg x st T)(S:FnScope N ps (zAA st))
  (hb:∀(kV doc pm:Value)(an:Option Addr)(cdv ct:Value)(us:List Value),us.length=ps.length->bindArgs (qB4 x x (zCP st) (zBC st) (zAA st) .none kV doc pm an cdv ct) ⟨us,[]⟩=pure (ps.zip us))
  (hbody:∀{f c:Addr}{A:Around}{outer:List Env}{s:Shared}{H:Hp}{vs:List V}{Q:VK}{E:XK},qAy K c T=true->Room k (A.deeper (envOfC x (zAA st) s.heap.objs.size f (.ref c)))->(A.deeper (envOfC x (zAA st) s.heap.objs.size f (.ref c))).units+64<cLine->sp0 K mg L (Mi.runF ps.length n m) vs H Q E ->
   ∃t,PSs (cxOf CX0 P w K mg base N x (zAA st) f (.ref c) A outer s H E).nox (zBC st) t/\t { nx:=fun _ H'=>Q .non H',rt:=Q } (start N vs) H):Has P w K mg base x (k+1) ps (sp0 K mg L (Mi.runF ps.length n m)):=by
 obtain⟨f,fd,c,F,hm,hc,hC⟩:=D.ex;refine⟨f,fd,?_,hm,F.kp,F.binds hb⟩;obtain⟨oc,od,kV,doc,pm,an,cdv,ct,osl,rfl,lk,hcd⟩:=F.ex;have hc':cdv=.ref c:=hc;subst hc';refine zVV lk hcd S (fun _ _ _ _ h=>@zIO ⟨K⟩ _ _ _ _ _ _ _ _ _ h) fun A outer s H vs Q E hr hsp=>?_
 obtain⟨t,h,q⟩:=hbody hC hr hr.units hsp;exact⟨t,h.nox,q⟩
theorem dfLX{L n:Nat}{m:Mi.SM}(D:Mkr K mg x st T)(S:FnScope N ps (zAA st))
  (hb:∀(kV doc pm:Value)(an:Option Addr)(cdv ct:Value)(us:List Value),us.length=ps.length->bindArgs (qB4 x x (zCP st) (zBC st) (zAA st) .none kV doc pm an cdv ct) ⟨us,[]⟩=pure (ps.zip us))
  (hbody:∀{f c:Addr}{A:Around}{outer:List Env}{s:Shared}{H:Hp}{vs:List V}{Q:VK}{E:XK},qAy K c T=true->Room k (A.deeper (envOfC x (zAA st) s.heap.objs.size f (.ref c)))->(A.deeper (envOfC x (zAA st) s.heap.objs.size f (.ref c))).units+64<cLine->spE K mg L (Mi.runF ps.length n m) vs H Q E ->
   ∃t,PSs (cxOf (CXe P w) P w K mg base N x (zAA st) f (.ref c) A outer s H E) (zBC st) t/\t { nx:=fun _ H'=>Q .non H',rt:=Q } (start N vs) H):HasX P w K mg base x (k+1) ps (spE K mg L (Mi.runF ps.length n m)):=by
 obtain⟨f,fd,c,F,hm,hc,hC⟩:=D.ex;refine⟨f,fd,?_,hm,F.kp,F.binds hb⟩;obtain⟨oc,od,kV,doc,pm,an,cdv,ct,osl,rfl,lk,hcd⟩:=F.ex;have hc':cdv=.ref c:=hc;subst hc';exact zVV lk hcd S (fun _ _ _ _ h=>@zIO ⟨K⟩ _ _ _ _ _ _ _ _ _ h) fun A outer s H vs Q E hr hsp=>hbody hC hr hr.units hsp
end
theorem lsc{ps:List Str}{nm:Str}{sc:Scope}(a:sc.kind=.function:=by rfl)(b:sc.isCoroutine=false:=by rfl)(c:sc.isGenerator=false:=by rfl)(d:(ps++[nm]).Nodup:=by decide +kernel)
  (f:∀x∈ps,sc.names.lookup x=some .local:=by decide +kernel) (g:sc.names.lookup nm=some .free:=by rfl) (h:∀y∈sc.names,y.2≠.cell:=by decide +kernel) (i:∀y∈sc.names,y.2=.free->y.1=nm:=by decide +kernel):LamScope ps nm sc:=
 ⟨a,b,c,d,f,g,h,fun x hx=>i (x,.free) (qBb hx) rfl⟩
theorem lam1{K:qA1}{mg:Str->Option Value}{k:Nat}{x:Str}{fm:Mi.FM}(h:LamOk K mg k x fm):∀y gm,([(x,fm)]:List (Str×Mi.FM)).lookup y=some gm->LamOk K mg k y gm:=fun y gm e=>by
 simp only[qCu]at e
 split at e
 ·rename_i z
  cases e;rw[beq_iff_eq.mp z];exact h
 ·cases e
theorem lam2{K:qA1}{mg:Str->Option Value}{k:Nat}{x:Str}{fm:Mi.FM}{r:List (Str×Mi.FM)}(h:LamOk K mg k x fm)(h2:∀y gm,r.lookup y=some gm->LamOk K mg k y gm):∀y gm,((x,fm)::r).lookup y=some gm->LamOk K mg k y gm:=fun y gm e=>by
 simp only[qCu]at e
 split at e
 ·rename_i z
  cases e;rw[beq_iff_eq.mp z];exact h
 ·exact h2 y gm e
end L3
namespace L3
open PySem PyProof.Rows
open L2 hiding Rep RepL
structure Mk1(K:qA1)(ts:List Addr)(x:Str)(r:Option Addr):Prop where
 cod:codP K x=r
 lam:(lamK K x).isSome=r.isSome
 hd:∀P,r=some P->P∈ts/\∃c,qAy K c P=true
theorem mk1_none{K:qA1}{ts:List Addr}{x:Str}(a:qBp K mainGlobals x=some none):Mk1 K ts x none:=
 ⟨by unfold codP;rw[a],by unfold lamK;rw[a];rfl,fun _ z=>by cases z⟩
structure Tb(K:qA1)(ts:List Addr)(r1 r2 r3:Option Addr):Prop where
 m1:Mk1 K ts "turned_at" r1
 m2:Mk1 K ts "exchanged_at" r2
 m3:Mk1 K ts "pivoted" r3
section
variable{K:qA1}{ts:List Addr}{r1 r2 r3:Option Addr}
theorem Tb.eq(T:Tb K ts r1 r2 r3)(P:Addr):tabK K P=if(r1==some P&&r1.isSome)=true then some (.lam (lamQ "turned_at"))else if(r2==some P&&r2.isSome)=true then some (.lam (lamQ "exchanged_at"))else if(r3==some P&&r3.isSome)=true then some (.lam (lamQ "pivoted"))else none:=by
 unfold tabK makers;simp only[List.find?,T.m1.cod,T.m1.lam,T.m2.cod,T.m2.lam,T.m3.cod,T.m3.lam]
 split
 ·rename_i h;rw[if_pos h];rfl
 ·rename_i h
  rw[if_neg (by rw[h];simp)]
  split
  ·rename_i h;rw[if_pos h];rfl
  ·rename_i h
   rw[if_neg (by rw[h];simp)]
   split
   ·rename_i h;rw[if_pos h];rfl
   ·rename_i h;rw[if_neg (by rw[h];simp)];rfl
theorem Tb.tabs(T:Tb K ts r1 r2 r3)(no:∀P∈ts,K.lookup P=none):Tabs K ts:=⟨no,fun x hx P h _=>by
 unfold makers at hx;simp only[qAh,List.not_mem_nil,or_false]at hx
 rcases hx with rfl|rfl|rfl
 ·exact T.m1.hd P (T.m1.cod.symm.trans h)
 ·exact T.m2.hd P (T.m2.cod.symm.trans h)
 ·exact T.m3.hd P (T.m3.cod.symm.trans h)⟩
end
def TbE(K:qA1)(ts:List Addr):Prop:=∃r1 r2 r3,Tb K ts r1 r2 r3
theorem zZS{K:qA1}{c P:Addr}{d:Option Addr}{vs:Array Value}{s:Array (Option Value)}(lc:K.lookup c=some ⟨.type "code",d,.fields vs,s⟩)(h:qAy [(c,⟨.type "code",d,.fields vs,s⟩)] c P=true):qAy K c P=true:=by
 unfold qAy at h ⊢;rw[lc]
 simpa using h
structure MkS(K:qA1)(mg:Str->Option Value)(ts:List Addr)(x:Str)(st:Stmt)(P:Addr):Prop where
 ex:∃f fd c,Fun K x x st f fd/\mg x=some (.ref f)/\fd.code=.ref c/\qAy K c P=true
 lam:lamK K x=zO1 (zBC st)
 mk1:Mk1 K ts x (some P)
theorem mkS{K:qA1}{h:Heap}{mg:Str->Option Value}{ts:List Addr}{nm:Str}{st:Stmt}{f c P:Addr}{oc kV dc pm ct:Value}{od an d:Option Addr}{sl s:Array (Option Value)}{vs:Array Value}(X:K.In h)(G:h.Ns mainGlobals mg)(a:qBp K mainGlobals nm=some (some (.ref f)))
  (l:K.lookup f=some ⟨oc,od,.func (qB4 nm nm (zCP st) (zBC st) (zAA st) .none kV dc pm an (.ref c) ct),sl⟩) (e:qC8 K (.ref c) nm=true) (k:qAv K (.ref f)=true)
  (lc:K.lookup c=some ⟨.type "code",d,.fields vs,s⟩) (h11:vs[11]?=some (.ref P)) (hh:qAy [(c,⟨.type "code",d,.fields vs,s⟩)] c P=true) (hl:(zO1 (zBC st)).isSome=true) (hP:P∈ts):MkS K mg ts nm st P:=by
 have hC:=zZS lc hh;have hlam:lamK K nm=zO1 (zBC st):=by unfold lamK;rw[a];dsimp only;rw[l]
 refine⟨⟨f,_,c,zQ3 (st:=st) l e k,qCp X G a,rfl,hC⟩,hlam,⟨?_,by rw[hlam,hl];rfl,fun P' z=>by cases z;exact⟨hP,c,hC⟩⟩⟩;unfold codP;rw[a];dsimp only;rw[l];dsimp only;rw[lc];dsimp only;rw[h11]
theorem with1{K:qA1}{mg:Str->Option Value}{ts:List Addr}{x:Str}{st:Stmt}{P:Addr}{C:Prop}(M:MkS K mg ts x st P)(r:MkS K mg ts x st P->TbE K ts/\C):TbE K ts/\C:=r M
def MkrE(K:qA1)(mg:Str->Option Value)(x:Str)(st:Stmt):Prop:=∃P,Mkr K mg x st P
theorem MkS.mkr{K:qA1}{mg:Str->Option Value}{ts:List Addr}{x:Str}{st:Stmt}{P:Addr}(S:MkS K mg ts x st P)(h:tabK K P=some (.lam (lamQ x))):MkrE K mg x st:=⟨P,S.ex,S.lam,h⟩
theorem zZP{K:Params->qA1}{as ts:List Addr}(e:∀P,as=(K P).map (·.1))(h:∀P∈ts,P∉as)(q:Params):∀P∈ts,(K q).lookup P=none:=fun P hP=>by
 rw[qDd];intro p hp
 have:p.1∈as:=by rw[e q];exact qEe hp
 have ne:P≠p.1:=fun z=>h P hP (z▸this)
 simpa using ne
theorem walk_ofM{l:qCv}{n k:Nat}{q:Program}{loose:List Str}{XP:(Str->Option Value)->Heap->Prop}{d:DefRec}{K:Params->qA1}{x:Str}{as ts:List Addr}{e:∀P,as=(K P).map (·.1)}
  (hn:l.most=some n) (h63:n<=63) (hdf:d.params.defaults=[]) (hr:Room k callerA) (hts:∀P∈ts,P∉as)
  (F:∀(w:World)(mg:Str->Option Value)(fa:Addr)(h:Heap),(K w.params).In h->h.Ns mainGlobals mg->mg d.name=some (.ref fa) ->
   TbE (K w.params) ts/\∃fd:FuncData,(∀(s:Shared)(u:Value),BindsTo s fd ⟨[u],[]⟩ [(x,u)]) /\
    ∀base:Heap,(K w.params).In base->base.Ns mainGlobals mg->FnOk l.prog w (K w.params) mg base CX0 k fa fd [x] (zI1 (K w.params))) :
  qEm q loose XP (qFy K as e ts).says l.row.toRowW d [] (fun f vs=>qEw f vs):=
 zR1 (K:=K) (ts:=ts) (CX:=fun _=>CX0) (sp:=fun w=>zI1 (K w.params)) hn (qAj h63 (by decide)) hdf hr (fun w h Y=>⟨PySem.W.km_in_of Y,PySem.W.km_tabs_of Y⟩)
  (fun w mg fa h KX G hm=>let⟨⟨_,_,_,T⟩,r⟩:=F w mg fa h KX G hm;⟨T.tabs (zZP e hts w.params),r⟩)
  (fun _ _ a ns hl hw hT hS=>⟨a,ns,rfl,hT,hS,qAj hl h63,hw,fun _ z=>⟨rfl,z⟩⟩) fun _ _ _ _ _ z=>z
theorem pcf{X:Cx}(i:Nat){x:Str}{p pos:Pos}{e:Expr}{es:List Expr}{t:TA}{r:Addr->List V->Hp->VK->Prop}(hL:LamR X r)(ha:PA X (e::es) t)(hN:X.N[i]?=some x:=by rfl)(hv:Vis X.env.scope x:=by first|exact qGt rfl|exact qGc (qGt rfl)|exact qGc (qGc rfl))
  (hd:(x==("__debug__":Str))=false:=by decide) (hcd:(x==("__classdict__":Str))=false:=by decide)
  (he:starEach (e::es) X.env=(false,eval e X.env)::starEach es X.env:=by rfl) (hpl:(backTo pos (starEach es X.env)).any (·.1)=false:=by rfl) :
  PE X (.Call (.Name x p) (e::es) [] pos) (zOQ i r t):=zRS hL hN hv ha hd hcd he hpl
theorem zN3[Kc]{mg mg':Str->Option Value}{E:XK}{n:Nat}{f:Mi.FM}{te:TE}{e:Mi.EM}{x:Str}{st:Stmt}{ps:Arguments}{b:Expr}{sc:Scope}{nm:Str}{P cl:Addr}{i:Nat}(D:Mkr Kc.K mg' x st P)(A:DE mg E te e 0)(h:zO1 (zBC st)=some (ps,b,sc,nm):=by rfl) :
  DE mg E (zMF (sp0 Kc.K mg n f) cl i (zGR te (zGR (tLam P (lamQ x) ps b sc [(nm,cl)]) tNil))) (Mi.eCallL f e x i) n:=zSQ (L:=(ps,b,sc,nm)) (D.lam.trans h) D.tab A
end L3
namespace Mp
noncomputable section
open Mi PySem
def zG6:SM:=(sRet 0 0 [0] (eAnd (eIsi "int" (eV 0)) (eNot (eIsi "bool" (eV 0)))))
def zC8:FM:=runF 1 1 zG6
def zHO:SM:=(sRet 2 2 [0] (eComp (iSq (eV 0)) 1 (.one 1) Mi.tYes (eBi listD (aCons (eV 1) aNil))))
def zDT:FM:=runF 1 1 zHO
def zG7:SM:=(sRet 1 1 [0,1] (eComp (iZi (aCons (eV 0) (aCons (eV 1) aNil))) 2 (.tup [2,3]) Mi.tYes (eB modD (eB addD (eV 2) (eV 3)) (eC (.int 2)))))
def zAV:FM:=runF 2 2 zG7
def zL1:SM:=(sRet 1 1 [0] (eComp (iR1 (aCons (eBi lenD (aCons (eV 0) aNil)) aNil)) 1 (.one 1) (tB (eB eqD (eB ixD (eV 0) (eV 1)) (eC (.int 1)))) (eV 1)))
def zEB:FM:=runF 1 1 zL1
def zQV:SM:=(sRet 1 1 [0,1] (eComp (iR1 (aCons (eBi lenD (aCons (eV 0) aNil)) aNil)) 1 (.one 2) Mi.tYes (eB xorD (eB ixD (eV 0) (eV 2)) (eB ixD (eV 1) (eV 2)))))
def zFP:FM:=runF 2 2 zQV
def zHN:SM:=(sRet 2 2 [1,0] (eComp (iSq (eV 1)) 1 (.one 2) Mi.tYes (eComp (iSq (eV 1)) 1 (.one 3) Mi.tYes (eB ixD (eB ixD (eV 0) (eV 2)) (eV 3)))))
def zBI:FM:=runF 2 2 zHN
def zEG:SM:=(sSeq (sSet 2 0 [0] (eBi lenD (aCons (eV 0) aNil)))
 (sSeq (sSet 3 0 [1,2] (eB modD (eV 1) (eV 2)))
 (sSeq (sSet 4 0 [2,3,1] (eB modD (eB addD (eB addD (eV 3) (eC (.int 1))) (eB modD (eB divD (eV 1) (eV 2)) (eB subD (eV 2) (eC (.int 1))))) (eV 2)))
 (sSeq (sSet 0 2 [4,5,0,3] (eComp (iEn (aCons (eV 0) aNil)) 2 (.tup [6,7]) Mi.tYes (eIf (tB (eB eqD (eV 6) (eV 4))) (eCall zAV (aCons (eV 7) (aCons (eB ixD (eV 0) (eV 3)) aNil))) (eBi listD (aCons (eV 7) aNil)))))
 (sSeq (sForSet 0 5 (eV 4) (eB modD (eB addD (eB ixD (eV 5) (eV 4)) (eB ixD (eV 5) (eV 3))) (eC (.int 2))))
 (sRetV 0 0))))))
def zBU:FM:=runF 2 6 zEG
def zF3:SM:=(sSeq (sSet 1 2 [0] (eComp (iSq (eV 0)) 1 (.one 6) Mi.tYes (eBi listD (aCons (eV 6) aNil))))
 (sSeq (sSet 2 0 [] (eC (.int 0)))
 (sSeq (sForR (iR1 (aCons (eBi lenD (aCons (eV 0) aNil)) aNil)) 3 (sSeq (sSet 4 1 [1,3] (eComp (iSq (eV 1)) 1 (.one 6) (tB (eB eqD (eB ixD (eV 6) (eV 3)) (eC (.int 1)))) (eV 6)))
 (sIf (tB (eB (cmpD fun i j=>decide (j<i)) (eBi lenD (aCons (eV 4) aNil)) (eC (.int 0)))) (sSeq (sSet 2 1 [2] (eB addD (eV 2) (eC (.int 1))))
 (sSeq (sSet 5 1 [1,3] (eComp (iSq (eV 1)) 1 (.one 6) (tB (eB eqD (eB ixD (eV 6) (eV 3)) (eC (.int 0)))) (eV 6)))
 (sSet 1 1 [5,4] (eB addD (eV 5) (eComp (iSq (eSl (eV 4) (oE (eC (.int 1))) oNo)) 1 (.one 6) Mi.tYes (eCall zAV (aCons (eV 6) (aCons (eB ixD (eV 4) (eC (.int 0))) aNil)))))))) sNil)))
 (sRetV 1 2))))
def zCG:FM:=runF 1 6 zF3
def zL4:SM:=(sSeq (sSet 3 0 [0,2] (eB ixD (eV 0) (eV 2)))
 (sSeq (sSet 4 1 [0,3,1] (eComp (iSq (eV 0)) 1 (.one 5) Mi.tYes (eIf (tB (eB eqD (eB ixD (eV 5) (eV 1)) (eC (.int 1)))) (eCall zFP (aCons (eV 5) (aCons (eV 3) aNil))) (eV 5))))
 (sSeq (sItemS 4 (eV 2) (eV 1))
 (sSeq (sItemF 4 [3] (eV 1) (eV 3))
 (sRetV 1 4)))))
def zEC:FM:=runF 3 5 zL4
def zIE:SM:=(sRet 1 1 [1,0] (eComp (iR1 (aCons (eV 0) aNil)) 1 (.one 2) Mi.tYes (eIf (tB (eB eqD (eV 2) (eV 1))) (eC (.int 1)) (eC (.int 0)))))
def zDJ:FM:=runF 2 2 zIE
def zHL:SM:=(sSeq (sSet 1 0 [0] (eBi lenD (aCons (eV 0) aNil)))
 (sSeq (sSet 2 2 [0,1] (eComp (iR1 (aCons (eV 1) aNil)) 1 (.one 5) Mi.tYes (eB addD (eB ixD (eV 0) (eV 5)) (eCall zDJ (aCons (eV 1) (aCons (eV 5) aNil))))))
 (sSeq (sForR (iR1 (aCons (eV 1) aNil)) 3 (sSeq (sSet 4 1 [3,1,2] (eComp (iR2 (aCons (eV 3) (aCons (eV 1) aNil))) 1 (.one 5) (tB (eB eqD (eB ixD (eB ixD (eV 2) (eV 5)) (eV 3)) (eC (.int 1)))) (eV 5)))
 (sSeq (sIf (tNo (tL (eV 4))) (sRet 2 2 [] (eC .non)) sNil)
 (sSet 2 1 [2,3,4] (eCall zEC (aCons (eV 2) (aCons (eV 3) (aCons (eB ixD (eV 4) (eC (.int 0))) aNil))))))))
 (sRet 2 2 [2,1] (eComp (iSq (eV 2)) 1 (.one 5) Mi.tYes (eSl (eV 5) (oE (eV 1)) oNo))))))
def zE9:FM:=runF 1 5 zHL
def zHM:SM:=(sRet 0 0 [0] (eBi allD (aCons (eComp (iSq (eV 0)) 1 (.one 1) Mi.tYes (eCall zC8 (aCons (eV 1) aNil))) aNil)))
def zDQ:FM:=runF 1 1 zHM
def zNB:SM:=(sRet 0 0 [1,0] (eAnd (eCall zDQ (aCons (eV 1) aNil)) (eB eqD (eV 1) (eComp (iR1 (aCons (eBi lenD (aCons (eV 0) aNil)) aNil)) 1 (.one 2) (tB (eB (inD false) (eV 2) (eV 1))) (eV 2)))))
def zGI:FM:=runF 2 2 zNB
def zIF:SM:=(sRet 0 0 [0,1] (eAnd (eCall zGI (aCons (eV 0) (aCons (eV 1) aNil))) (eB isntD (eCall zE9 (aCons (eCall zBI (aCons (eV 0) (aCons (eV 1) aNil))) aNil)) (eC .non))))
def zEL:FM:=runF 2 2 zIF
def zEW:SM:=(sSeq (sSet 2 0 [0] (eV 0))
 (sSeq (sFor [1] (iSq (eV 1)) (.one 3) (sIf (tB (eB eqD (eB ixD (eV 2) (eMl lixD (eV 3) (aCons (eC (.int 1)) aNil))) (eC (.int 1)))) (sSet 2 1 [2,3] (eCall zFP (aCons (eV 2) (aCons (eV 3) aNil)))) sNil))
 (sRetV 0 2)))
def zC4:FM:=runF 2 4 zEW
def zD5:SM:=(sSeq (sSet 1 9 [] (eLst aNil))
 (sSeq (sSet 2 9 [] (eLst aNil))
 (sSeq (sFor [0] (iEn (aCons (eV 0) aNil)) (.tup [3,4]) (sSeq (sSetL 5 2 [4] (eCall zC4 (aCons (eV 4) (aCons (eV 2) aNil))))
 (sIf (tB (eB (inD false) (eC (.int 1)) (eV 5))) (sSeq (sApp 1 0 (eV 3))
 (sAppF 2 [5] (eV 5))) sNil)))
 (sRetV 9 1))))
def zCZ:FM:=runF 1 6 zD5
def zL0:SM:=(sRet 0 0 [0] (eB subD (eBi lenD (aCons (eV 0) aNil)) (eBi lenD (aCons (eCall zCZ (aCons (eV 0) aNil)) aNil))))
def zDK:FM:=runF 1 1 zL0
def zD7:SM:=(sSeq (sSet 2 2 [1] (eComp (iR1 (aCons (eV 1) aNil)) 1 (.one 6) Mi.tYes (eComp (iR1 (aCons (eV 1) aNil)) 1 (.one 7) Mi.tYes (eC (.int 0)))))
 (sSeq (sSet 3 0 [] (eC (.int 0)))
 (sSeq (sWhile (tB (eB (cmpD fun i j=>decide (i<j)) (eV 3) (eV 1))) (sSeq (sSet 4 0 [0] (eB modD (eV 0) (eC (.int 4))))
 (sSeq (sSet 0 0 [0] (eB divD (eV 0) (eC (.int 4))))
 (sSeq (sIf (tAn (tB (eB (cmpD fun i j=>decide (j<i)) (eV 4) (eC (.int 1)))) (tB (eB (cmpD fun i j=>decide (i<j)) (eB addD (eV 3) (eC (.int 1))) (eV 1)))) (sSeq (sItem2 2 0 (eV 3) (eB addD (eV 3) (eC (.int 1))) (eC (.int 1)))
 (sSeq (sItem2 2 0 (eB addD (eV 3) (eC (.int 1))) (eV 3) (eC (.int 1)))
 (sSet 3 1 [3] (eB addD (eV 3) (eC (.int 1)))))) (sIf (tB (eB (cmpD fun i j=>decide (j<i)) (eV 4) (eC (.int 0)))) (sItem2 2 0 (eV 3) (eV 3) (eC (.int 1))) sNil))
 (sSet 3 1 [3] (eB addD (eV 3) (eC (.int 1))))))))
 (sSeq (sForR (iR1 (aCons (eC (.int 14)) aNil)) 5 (sIf (tB (eB (cmpD fun i j=>decide (j<i)) (eV 1) (eC (.int 1)))) (sSeq (sSet 2 0 [2,0,1] (eCall zBU (aCons (eV 2) (aCons (eB modD (eV 0) (eB mulD (eV 1) (eB subD (eV 1) (eC (.int 1))))) aNil))))
 (sSet 0 0 [0,1] (eB divD (eV 0) (eB mulD (eV 1) (eB subD (eV 1) (eC (.int 1))))))) sNil))
 (sRetV 0 2)))))
def zD1:FM:=runF 2 6 zD7
def zE0:SM:=(sSeq (sSet 2 0 [0,1] (eB modD (eB divD (eV 0) (eC (.int 4))) (eB addD (eV 1) (eC (.int 1)))))
 (sSeq (sSet 3 0 [0,1] (eB divD (eB divD (eV 0) (eC (.int 4))) (eB addD (eV 1) (eC (.int 1)))))
 (sSeq (sIf (tB (eB eqD (eB modD (eV 0) (eC (.int 4))) (eC (.int 3)))) (sRet 0 0 [3,2] (eCall zD1 (aCons (eV 3) (aCons (eV 2) aNil)))) sNil)
 (sSeq (sSet 4 1 [2] (eBi rangeD (aCons (eV 2) aNil)))
 (sSeq (sIf (tB (eB eqD (eB modD (eV 0) (eC (.int 4))) (eC (.int 2)))) (sForR (iR2 (aCons (eC (.int 1)) (aCons (eV 2) aNil))) 5 (sSeq (sItem 4 0 (eV 5) (eIf (tB (eB eqD (eB modD (eB divD (eV 3) (eC (.int 10))) (eC (.int 2))) (eC (.int 1)))) (eB ixD (eV 4) (eB modD (eV 3) (eV 5))) (eV 5)))
 (sSet 3 0 [3] (eB divD (eV 3) (eC (.int 20)))))) sNil)
 (sSeq (sSet 6 2 [7,8,2] (eComp (iR1 (aCons (eV 2) aNil)) 1 (.one 9) Mi.tYes (eComp (iR1 (aCons (eV 2) aNil)) 1 (.one 10) Mi.tYes (eC (.int 0)))))
 (sSeq (sForR (iR1 (aCons (eV 2) aNil)) 7 (sForR (iR1 (aCons (eB addD (eV 7) (eC (.int 1))) aNil)) 8 (sSeq (sItem2 6 0 (eV 7) (eV 8) (eB modD (eV 3) (eC (.int 2))))
 (sSeq (sItem2 6 0 (eV 8) (eV 7) (eB modD (eV 3) (eC (.int 2))))
 (sSet 3 0 [3] (eB divD (eV 3) (eC (.int 2))))))))
 (sRet 0 0 [7,8,2,6,4] (eComp (iR1 (aCons (eV 2) aNil)) 1 (.one 9) Mi.tYes (eComp (iR1 (aCons (eV 2) aNil)) 1 (.one 10) Mi.tYes (eB ixD (eB ixD (eV 6) (eB ixD (eV 4) (eV 9))) (eB ixD (eV 4) (eV 10)))))))))))))
def zDU:FM:=runF 2 9 zE0
def zD6:SM:=(sSeq (sSet 2 0 [] (eC (.int 0)))
 (sSeq (sIf (tB (eB (cmpD fun i j=>decide (j<i)) (eBi lenD (aCons (eV 0) aNil)) (eC (.int 0)))) (sSet 2 0 [0,1] (eB ixD (eV 0) (eB modD (eV 1) (eBi lenD (aCons (eV 0) aNil))))) sNil)
 (sSeq (sSet 3 0 [2,1] (eB modD (eB mulD (eB addD (eB modD (eV 2) (eC (.int 2147483629))) (eB mulD (eC (.int 104729)) (eB addD (eV 1) (eC (.int 1))))) (eC (.int 48271))) (eC (.int 2147483647))))
 (sRet 0 0 [3] (eB modD (eB mulD (eV 3) (eC (.int 69621))) (eC (.int 2147483629)))))))
def zD0:FM:=runF 2 4 zD6
def zDY:SM:=(sSeq (sSet 2 0 [] (eC (.int 0)))
 (sSeq (sIf (tAn (tB (eB (cmpD fun i j=>decide (j<i)) (eBi lenD (aCons (eV 0) aNil)) (eC (.int 0)))) (tB (eB eqD (eB modD (eB ixD (eV 0) (eC (.int 0))) (eC (.int 2))) (eC (.int 1))))) (sSeq (sIf (tB (eB (cmpD fun i j=>decide (i<j)) (eV 1) (eBi lenD (aCons (eV 0) aNil)))) (sSet 2 0 [0,1] (eB divD (eB modD (eB ixD (eV 0) (eV 1)) (eB mulD (eC (.int 2)) (eB powD (eC (.int 10)) (eC (.int 60))))) (eB subD (eC (.int 2)) (eBi minD (aCons (eV 1) (aCons (eC (.int 1)) aNil)))))) sNil)
 (sRetV 1 2)) sNil)
 (sSeq (sForR (iR1 (aCons (eC (.int 7)) aNil)) 3 (sSet 2 1 [2,0,3,1] (eB addD (eB mulD (eV 2) (eC (.int 2147483629))) (eCall zD0 (aCons (eV 0) (aCons (eB addD (eB mulD (eC (.int 7)) (eV 1)) (eV 3)) aNil))))))
 (sRet 1 1 [2] (eB modD (eV 2) (eB powD (eC (.int 10)) (eC (.int 60))))))))
def zBW:FM:=runF 2 4 zDY
def zJK:SM:=(sSeq (sSet 2 0 [0,1] (eB ixD (eLst (aCons (eTup (aCons (eC (.int 1)) (aCons (eC (.int 0)) (aCons (eC (.int 3)) (aCons (eC (.int 2)) aNil))))) (aCons (eTup (aCons (eC (.int 2)) (aCons (eC (.int 3)) (aCons (eC (.int 0)) (aCons (eC (.int 1)) aNil))))) (aCons (eTup (aCons (eC (.int 3)) (aCons (eC (.int 2)) (aCons (eC (.int 1)) (aCons (eC (.int 0)) aNil))))) aNil)))) (eB ixD (eV 0) (eB divD (eV 1) (eC (.int 4))))))
 (sRet 1 1 [1,2] (eB addD (eB subD (eV 1) (eB modD (eV 1) (eC (.int 4)))) (eB ixD (eV 2) (eB modD (eV 1) (eC (.int 4)))))))
def zJ4:FM:=runF 2 3 zJK
def zL5:SM:=(sSeq (sSet 3 9 [] (eLst aNil))
 (sSeq (sSet 4 0 [2] (eV 2))
 (sSeq (sWhile (Mi.tOr (tB (eB eqD (eV 3) (eLst aNil))) (tB (eB neD (eV 4) (eV 2)))) (sSeq (sApp 3 0 (eV 4))
 (sSeq (sApp 3 1 (eCall zJ4 (aCons (eV 1) (aCons (eV 4) aNil))))
 (sSet 4 0 [0,3] (eB ixD (eV 0) (eB ixD (eV 3) (eU negD (eC (.int 1)))))))))
 (sRetV 9 3))))
def zKE:FM:=runF 3 5 zL5
def zJI:SM:=(sSeq (sSet 2 1 [] zYG)
 (sSeq (sSet 3 9 [] (eLst aNil))
 (sSeq (sForR (iR1 (aCons (eBi lenD (aCons (eV 0) aNil)) aNil)) 4 (sIf (tB (eB (dinD true) (eV 4) (eV 2))) (sSeq (sSet 5 9 [0,1,4] (eCall zKE (aCons (eV 0) (aCons (eV 1) (aCons (eV 4) aNil)))))
 (sSeq (sFor [5] (iSq (eV 5)) (.one 6) (zZB 2 (eV 6) (eC (.bl true))))
 (sAppF 3 [5] (eV 5)))) sNil))
 (sRetV 1 3))))
def zJ3:FM:=runF 2 7 zJI
def zT4:SM:=(sRet 0 0 [1,0] (eB xorD (eV 1) (eB addD (eV 0) (eC (.int 1)))))
def zS2:FM:=runF 2 2 zT4
def zL2:SM:=(sSeq (sSet 2 0 [1] (eB divD (eV 1) (eC (.int 4))))
 (sRet 1 1 [2,0,1] (eB addD (eB mulD (eV 2) (eC (.int 4))) (eCall zS2 (aCons (eB ixD (eV 0) (eV 2)) (aCons (eB modD (eV 1) (eC (.int 4))) aNil))))))
def zG0:FM:=runF 2 3 zL2
def zO8:SM:=(sSeq (sSet 3 1 [2,1] (eLst (aCons (eV 2) (aCons (eCall zG0 (aCons (eV 1) (aCons (eV 2) aNil))) aNil))))
 (sSeq (sWhile (tB (eB neD (eB ixD (eV 0) (eB ixD (eV 3) (eU negD (eC (.int 1))))) (eV 2))) (sSeq (sSet 4 0 [0,3] (eB ixD (eV 0) (eB ixD (eV 3) (eU negD (eC (.int 1))))))
 (sExt 3 0 (eLst (aCons (eV 4) (aCons (eCall zG0 (aCons (eV 1) (aCons (eV 4) aNil))) aNil))))))
 (sRetV 1 3)))
def zI7:FM:=runF 3 5 zO8
def zM8:SM:=(sSeq (sSet 2 9 [] (eLst aNil))
 (sSeq (sSet 3 1 [] zYG)
 (sSeq (sForR (iR1 (aCons (eBi lenD (aCons (eV 0) aNil)) aNil)) 4 (sIf (tB (eB (dinD true) (eV 4) (eV 3))) (sSeq (sSet 5 1 [0,1,4] (eCall zI7 (aCons (eV 0) (aCons (eV 1) (aCons (eV 4) aNil)))))
 (sSeq (sAppF 2 [5] (eV 5))
 (zZ9 3 (eComp (iSq (eV 5)) 1 (.one 6) Mi.tYes (eTup (aCons (eV 6) (aCons (eC (.bl true)) aNil))))))) sNil))
 (sRetV 1 2))))
def zLT:FM:=runF 2 6 zM8
def zIG:SM:=(sRet 0 0 [1,0] (eB eqD (eCall zCG (aCons (eCall zBI (aCons (eV 0) (aCons (eV 1) aNil))) aNil)) (eBi lenD (aCons (eV 1) aNil))))
def zI8:FM:=runF 2 2 zIG
def zDZ:SM:=(sSeq (sSet 3 9 [] (eLst aNil))
 (sSeq (sForR (iR1 (aCons (eV 2) aNil)) 4 (sSeq (sApp 3 0 (eB modD (eV 0) (eV 1)))
 (sSet 0 0 [0,1] (eB divD (eV 0) (eV 1)))))
 (sRetV 9 3)))
def zDS:FM:=runF 3 5 zDZ
def zEX:SM:=(sRet 1 1 [0,1] (eBi sortD (aCons (eB addD (eComp (iSq (eV 0)) 1 (.one 2) (tB (eB (inD true) (eV 2) (eV 1))) (eV 2)) (eComp (iSq (eV 1)) 1 (.one 2) (tB (eB (inD true) (eV 2) (eV 0))) (eV 2))) aNil)))
def zCK:FM:=runF 2 2 zEX
def zQT:SM:=(sRet 1 1 [1,0] (eComp (iSq (eCall zEB (aCons (eB ixD (eV 0) (eV 1)) aNil))) 1 (.one 2) (tB (eB neD (eV 2) (eV 1))) (eV 2)))
def zH6:FM:=runF 2 2 zQT
def zAY:FM:=lamF 3 (eAnd (eB (inD false) (eC (.int 1)) (eB ixD (eV 2) (eV 0))) (eAnd (eB (inD false) (eC (.int 1)) (eB ixD (eV 2) (eV 1))) (eB neD (eB ixD (eV 2) (eV 0)) (eB ixD (eV 2) (eV 1)))))
def zBH:FM:=lamF 3 (eAnd (eB (inD false) (eV 0) (eV 2)) (eB (inD false) (eV 1) (eV 2)))
def zJJ:SM:=(sSeq (sSet 1 2 [2,0] (eComp (iR1 (aCons (eBi lenD (aCons (eV 0) aNil)) aNil)) 1 (.one 4) (tB (eB eqD (eB ixD (eB ixD (eV 0) (eV 4)) (eV 4)) (eC (.int 1)))) (eLst (aCons (eV 4) aNil))))
 (sSeq (sForR (iR1 (aCons (eBi lenD (aCons (eV 0) aNil)) aNil)) 2 (sForR (iR1 (aCons (eV 2) aNil)) 3 (sIf (tAn (tB (eB eqD (eB ixD (eB ixD (eV 0) (eV 3)) (eV 2)) (eC (.int 1)))) (tAn (tB (eB eqD (eB ixD (eB ixD (eV 0) (eV 3)) (eV 3)) (eC (.int 0)))) (tB (eB eqD (eB ixD (eB ixD (eV 0) (eV 2)) (eV 2)) (eC (.int 0)))))) (sApp 1 1 (eLst (aCons (eV 3) (aCons (eV 2) aNil)))) sNil)))
 (sRetV 2 1)))
def zDR:FM:=runF 1 4 zJJ
def zFK:SM:=(sSeq (sSet 2 0 [0] (eBi lenD (aCons (eV 0) aNil)))
 (sRet 2 2 [2,0,1] (eComp (iR1 (aCons (eV 2) aNil)) 1 (.one 3) Mi.tYes (eComp (iR1 (aCons (eV 2) aNil)) 1 (.one 4) Mi.tYes (eB xorD (eB ixD (eB ixD (eV 0) (eV 3)) (eV 4)) (eIf (tM (eCallF [("exchanged_at",zAY),("pivoted",zBH)] 1 (aCons (eV 3) (aCons (eV 4) aNil)))) (eC (.int 1)) (eC (.int 0))))))))
def zBR:FM:=runF 2 3 zFK
def zHV:SM:=(sSeq (sSet 3 2 [0,1,2] (eComp (iR1 (aCons (eBi lenD (aCons (eV 0) aNil)) aNil)) 1 (.one 6) Mi.tYes (eTup (aCons (eB ixD (eB ixD (eV 0) (eV 1)) (eV 6)) (aCons (eB ixD (eB ixD (eV 0) (eV 2)) (eV 6)) aNil)))))
 (sSeq (sItem 3 1 (eV 1) (eTup (aCons (eC (.int 0)) (aCons (eC (.int 0)) aNil))))
 (sSeq (sItem 3 1 (eV 2) (eTup (aCons (eC (.int 0)) (aCons (eC (.int 0)) aNil))))
 (sSeq (sSet 4 2 [0,3] (eCallL zBR (eV 0) "exchanged_at" 3))
 (sSeq (sSet 5 1 [0] (eBi rangeD (aCons (eBi lenD (aCons (eV 0) aNil)) aNil)))
 (sSeq (sItem 5 0 (eV 1) (eV 2))
 (sSeq (sItem 5 0 (eV 2) (eV 1))
 (sRet 2 2 [4,5] (eCall zBI (aCons (eV 4) (aCons (eV 5) aNil)))))))))))
def zDE:FM:=runF 3 6 zHV
def zL3:SM:=(sRet 0 0 [1,0] (eAnd (eCall zC8 (aCons (eV 1) aNil)) (eChain (cmpD fun i j=>decide (i<=j)) (cmpD fun i j=>decide (i<j)) (eC (.int 0)) (eV 1) (eBi lenD (aCons (eV 0) aNil)))))
def zD9:FM:=runF 2 2 zL3
def zQS:SM:=(sSeq (sIf (tNo (tM (eBi allD (aCons (eComp (iSq (eV 1)) 1 (.one 3) Mi.tYes (eCallN zD9 (aCons (eV 0) (aCons (eV 3) aNil)))) aNil)))) (sRaise0 "NoPivot" (aCons (eC (.str "the table lacks one of the numbers")) aNil)) sNil)
 (sSeq (sIf (tAn (tB (eB eqD (eBi lenD (aCons (eV 1) aNil)) (eC (.int 1)))) (tB (eB eqD (eB ixD (eB ixD (eV 0) (eB ixD (eV 1) (eC (.int 0)))) (eB ixD (eV 1) (eC (.int 0)))) (eC (.int 1))))) (sSeq (sSet 2 1 [0,1] (eCallN zH6 (aCons (eV 0) (aCons (eB ixD (eV 1) (eC (.int 0))) aNil))))
 (sRet 2 2 [0,2] (eCallL zBR (eV 0) "pivoted" 2))) sNil)
 (sSeq (sIf (tB (eB eqD (eCallN zBI (aCons (eV 0) (aCons (eV 1) aNil))) (eLst (aCons (eLst (aCons (eC (.int 0)) (aCons (eC (.int 1)) aNil))) (aCons (eLst (aCons (eC (.int 1)) (aCons (eC (.int 0)) aNil))) aNil))))) (sRet 2 2 [0,1] (eCallN zDE (aCons (eV 0) (aCons (eB ixD (eV 1) (eC (.int 0))) (aCons (eB ixD (eV 1) (eC (.int 1))) aNil))))) sNil)
 (sRaise0 "NoPivot" (aCons (eC (.str "no pivot at these numbers")) aNil)))))
def zEA:FM:=runF 2 3 zQS
def zQU:SM:=(sSeq (sSet 1 0 [0] (eCall zDU (aCons (eCall zBW (aCons (eV 0) (aCons (eC (.int 0)) aNil))) (aCons (eC (.int 10)) aNil))))
 (sSeq (sSet 2 2 [1] (eCall zDR (aCons (eV 1) aNil)))
 (sSeq (sIf (tB (eB eqD (eBi lenD (aCons (eV 2) aNil)) (eC (.int 0)))) (sRet 0 0 [1] (eB eqD (eCall zDK (aCons (eV 1) aNil)) (eBi lenD (aCons (eV 1) aNil)))) sNil)
 (sSeq (sSet 3 0 [2,0] (eB ixD (eV 2) (eB modD (eCall zBW (aCons (eV 0) (aCons (eC (.int 1)) aNil))) (eBi lenD (aCons (eV 2) aNil)))))
 (sSeq (sSet 4 2 [1,3] (eCall zEA (aCons (eCall zDT (aCons (eV 1) aNil)) (aCons (eBi listD (aCons (eV 3) aNil)) aNil))))
 (sSeq (sIf (tB (eB (cmpD fun i j=>decide (j<i)) (eBi absD (aCons (eB subD (eCall zDK (aCons (eV 4) aNil)) (eCall zDK (aCons (eV 1) aNil))) aNil)) (eBi lenD (aCons (eV 3) aNil)))) (sRet 0 0 [] (eC (.bl false))) sNil)
 (sSeq (sForR (iR1 (aCons (eC (.int 3)) aNil)) 5 (sSeq (sSet 6 9 [0,1,5] (eCall zDS (aCons (eCall zBW (aCons (eV 0) (aCons (eB addD (eC (.int 2)) (eV 5)) aNil))) (aCons (eC (.int 2)) (aCons (eBi lenD (aCons (eV 1) aNil)) aNil)))))
 (sSeq (sSet 7 1 [1,6] (eComp (iR1 (aCons (eBi lenD (aCons (eV 1) aNil)) aNil)) 1 (.one 10) (tB (eB eqD (eB ixD (eV 6) (eV 10)) (eC (.int 1)))) (eV 10)))
 (sSeq (sSet 8 1 [7,3] (eCall zCK (aCons (eV 7) (aCons (eV 3) aNil))))
 (sSeq (sSet 9 0 [4,7] (eCall zEL (aCons (eV 4) (aCons (eV 7) aNil))))
 (sIf (Mi.tOr (tNo (tM (eIsi "bool" (eV 9)))) (tB (eB neD (eV 9) (eB eqD (eCall zCG (aCons (eCall zBI (aCons (eV 1) (aCons (eV 8) aNil))) aNil)) (eBi lenD (aCons (eV 8) aNil)))))) (sRet 0 0 [] (eC (.bl false))) sNil))))))
 (sRet 0 0 [] (eC (.bl true))))))))))
def zKD:FM:=runF 1 10 zQU
end
end Mp
namespace Mp
open Mi PySem
theorem zG2(i:Int):zC8 [.int i]=okR (.bl true):=by
 unfold zC8 zG6;simp[isiD,tyD]
end Mp
namespace Mi
open PySem
section
variable(ρ:Rh)(r:Ro)(a:EM)(am:AM)
@[simp] theorem x_tL:tL a ρ=zA3 (a ρ) fun x=>match x with | .bl k=>okR k | .int i=>okR (i != 0) | .non=>okR false | .lst xs=>okR (!xs.isEmpty) | .tup xs=>okR (!xs.isEmpty)|_=>none:=rfl
@[simp] theorem x_eMl(f:List Dt->List Dt->Option Dt):eMl f a am ρ=zA3 (a ρ) fun x=>match x with | .lst xs=>zA3 (am ρ) fun ds=>optR (f xs ds)|_=>none:=rfl
@[simp] theorem x_iRv:iRv am ρ=zA3 (am ρ) fun vs=>match vs with|[.lst xs]=>okR xs.reverse|_=>none:=rfl
@[simp] theorem zZ3(i j:Int):xorD (.int i) (.int j)=some (.int (Builtin.bitXor i j)):=rfl
@[simp] theorem v_rep(xs:List Dt)(k:Int):repD (.lst xs) (.int k)=@ite _ ((-4611686018427387904<=k/\k<4611686018427387904)/\xs.length*k.toNat<=100000) (qA3 _) (some (.lst (qA9 k.toNat xs).flatten)) none:=rfl
end
end Mi
namespace Mi
open PySem
@[simp] theorem zV7{α:Type}{a b:α}:okR a=okR b↔a=b:=⟨fun h=>by cases h;rfl,fun h=>by rw[h]⟩
@[simp] theorem x_sFor(vs:List Nat)(it:IM)(tg:Tg)(b:SM)(r:Ro):sFor vs it tg b r=zA3 (it (frz (frzAt vs r))) fun ds=>forGo tg b ds (frzAt vs r):=rfl
@[simp] theorem zCT(it:IM)(i:Nat)(b:SM)(r:Ro):sForR it i b r=zA3 (it (full r)) fun ds=>forGo (.one i) b ds r:=rfl
@[simp] theorem x_iSq(e:EM)(ρ:Rh):iSq e ρ=zA3 (e ρ) fun d=>match d with | .lst xs=>okR xs | .tup xs=>okR xs | .scr ns=>okR (ns.map .int) | .str z=>okR (signsD z)|_=>none:=rfl
@[simp] theorem x_iEn(e:AM)(ρ:Rh):iEn e ρ=zA3 (e ρ) fun vs=>match vs with|[.lst xs]=>okR (enumD 0 xs)|_=>none:=rfl
@[simp] theorem x_iZi(e:AM)(ρ:Rh):iZi e ρ=zA3 (e ρ) fun vs=>match vs with|[.lst xs,.lst ys]=>okR (zipD xs ys)|_=>none:=rfl
theorem zCL{e:AM}{ρ:Rh}{n:Nat}(h:e ρ=okR [.int n])(hn:n<=100000):iR1 e ρ=okR (nums 0 n):=by
 unfold iR1;rw[h,zA0];dsimp only;rw[if_pos (by lia)];simp
theorem zCJ(n:Nat):nums 0 n=(qA4 n).map fun i:Nat=>Dt.int (i:Int):=by
 unfold nums;exact qB3 fun i _=>by simp
theorem zKI{α β:Type}{j:Nat}{b:SM}(en:β->Dt)(Enc:α->Ro->Prop)(f:α->β->α):∀(ns:List β)(a:α)(r:Ro),Enc a r->(∀n∈ns,∀a r,Enc a r->∃r',b (r.set j (some (en n,0)))=okR (.nx r')/\Enc (f a n) r')->∃r',forGo (.one j) b (ns.map en) r=okR (.nx r')/\Enc (ns.foldl f a) r'
 |[],a,r,h,_=>⟨r,by simp[forGo],h⟩
 |d::ds,a,r,h,hs=>by
  obtain⟨r1,h2,h3⟩:=hs d (by simp) a r h;obtain⟨r2,h4,h5⟩:=zKI en Enc f ds (f a d) r1 h3 fun e he=>hs e (by simp[he])
  refine⟨r2,?_,h5⟩;rw[qAm,forGo];show zA3 (b (zBB r [(j,en d)])) _=_;show zA3 (b (r.set j (some (en d,0)))) _=_;rw[h2,zA0];exact h4
def nxR(x:R Out)(P:Ro->Prop):Prop:=match x with
 |some (.ok (.nx r))=>P r
 |_=>False
@[simp] theorem x_nxR(r:Ro)(P:Ro->Prop):nxR (okR (.nx r)) P=P r:=rfl
theorem zDD{x:R Out}{P:Ro->Prop}(h:nxR x P):∃r',x=okR (.nx r')/\P r':=by
 unfold nxR at h
 split at h
 ·exact⟨_,rfl,h⟩
 ·exact h.elim
theorem zB7{x:R Out}{P:Ro->Prop}{r:Ro}(h:x=okR (.nx r))(hp:P r):nxR x P:=by rw[h];exact hp
theorem zUF{i n:Nat}{e:EM}{r:Ro}{ds:List Dt}{k:Nat}{d:Dt}(h:r[i]?=some (some (.lst ds,k+1)))(he:e (full r)=okR d)(h1:ds.length<=100000)(h2:d.dep<=n)(h3:d.dep<=k):sApp i n e r=okR (.nx (r.set i (some (.lst (ds++[d]),k+1)))):=by
 unfold sApp;rw[h];dsimp only;rw[he,zA0,if_pos ⟨h1,h2,h3⟩]
theorem zRZ{i j:Int}(h:-18446744073709551616<i)(h':i<18446744073709551616):mulD (.int i) (.int j)=some (.int (i*j)):=by
 rw[zUJ,if_pos (.inl (.inl ⟨h,h'⟩))]
theorem zVE{i j:Int}(h:-18446744073709551616<j)(h':j<18446744073709551616):mulD (.int i) (.int j)=some (.int (i*j)):=by
 rw[zUJ,if_pos (.inl (.inr ⟨h,h'⟩))]
theorem zCS{ρ:Rh}{c:TM}{e:EM}{i:Nat}(g:Nat->Dt)(n:Nat)(hc:c=tYes)(hi:i=ρ.length)(h:∀k,k<n->e (ρ++[some (.int (k:Nat))])=okR (g k))(it:IM)(hit:it ρ=okR (nums 0 n))(hn:n<=100000):eComp it 1 (.one i) c e ρ=okR (.lst ((qA4 n).map g)):=by
 subst hc hi;unfold eComp;rw[hit,zA0,if_pos ⟨by simpa[nums]using hn,by simp[Tg.idx]⟩];rw[zN7 (fun d=>match d with | .int k=>g k.toNat|_=>.non) _ [] fun d hd=>?_]
 ·rw[zA0,zCJ,qAw];simp only[qFg]
  congr 2
 ·rw[zCJ]at hd;obtain⟨k,hk,rfl⟩:=qAl.mp hd;refine⟨_,rfl,rfl,?_⟩
  have:zAT (ρ++qA9 1 none) [(ρ.length,Dt.int (k:Int))]=ρ++[some (.int (k:Nat))]:=by
   simp[zAT]
  rw[this]
  simpa using h k (by simpa using hk)
theorem zBX{ρ:Rh}{c:TM}{e:EM}{i:Nat}{β:Type}(en:β->Dt)(g:β->Dt)(ns:List β)(hc:c=tYes)(hi:i=ρ.length)(h:∀k,k∈ns->e (ρ++[some (en k)])=okR (g k))(it:IM)(hit:it ρ=okR (ns.map en))(hn:ns.length<=100000):eComp it 1 (.one i) c e ρ=okR (.lst (ns.map g)):=by
 subst hc hi;unfold eComp;rw[hit,zA0,if_pos ⟨by simpa using hn,by simp[Tg.idx]⟩]
 have:∀(ns:List β)(acc:List Dt),(∀k,k∈ns->e (ρ++[some (en k)])=okR (g k))->compGo ρ 1 (.one ρ.length) tYes e (ns.map en) acc=okR (acc++ns.map g):=by
  intro ns
  induction ns with
  |nil=>intro acc _;simp[compGo]
  |cons d r ih=>
   intro acc h;rw[qAm,compGo];have e1:zAT (ρ++qA9 1 none) [(ρ.length,en d)]=ρ++[some (en d)]:=by simp[zAT]
   show zA3 (tYes _) _=_;simp only[zWF,zA0,if_true];show zA3 (e (zAT (ρ++qA9 1 none) [(ρ.length,en d)])) _=_;rw[e1,h d (by simp),zA0,ih _ fun k hk=>h k (by simp[hk])];simp
 rw[this ns [] h,zA0];simp
theorem zCW{a b:SM}{r:Ro}{X:R Out}(h:∀bb:SM,bb=b->nxR (a r) fun r1=>bb r1=X):sSeq a b r=X:=by
 obtain⟨r1,h1,h2⟩:=zDD (h b rfl);unfold sSeq;rw[h1,zA0];exact h2
theorem zCV{a b:SM}{r:Ro}{P:Ro->Prop}(h:∀bb:SM,bb=b->nxR (a r) fun r1=>nxR (bb r1) P):nxR (sSeq a b r) P:=by
 obtain⟨r1,h1,h2⟩:=zDD (h b rfl);unfold sSeq;rw[h1,zA0];exact h2
theorem zWW{a b:SM}{r:Ro}{d:Dt}(h:a r=okR (.rt d)):sSeq a b r=okR (.rt d):=by
 unfold sSeq;rw[h,zA0]
theorem zC9{P n:Nat}{b:SM}{ds:List Dt}{d:Dt}(h:ds.length=P)(hb:b (startO n ds)=okR (.rt d)):runF P n b ds=okR d:=by
 unfold runF;rw[if_pos h,hb];rfl
theorem zJ0{j n:Nat}{b:SM}{r:Ro}{X:Ro->Prop}(Pv:Nat->Ro->Prop)(h:Pv 0 r)(hs:∀k,k<n->∀r,Pv k r->nxR (b (r.set j (some (.int (k:Nat),0)))) (Pv (k+1)))(hK:∀r',Pv n r'->X r'):nxR (forGo (.one j) b (nums 0 n) r) X:=by
 obtain⟨r',h1,h2⟩:∃r',forGo (.one j) b (nums 0 n) r=okR (.nx r')/\Pv n r':=by
  obtain⟨r',h1,h2⟩:=zJ9 (tg:=.one j) (b:=b) Pv (nums 0 n) 0 r h fun k d r hd hp=>by
   rw[zCJ,qAf]at hd;cases e:(qA4 n)[k]? with
   |none=>rw[e]at hd;cases hd
   |some q=>
    rw[e]at hd;cases hd;obtain⟨h1,h2⟩:=qA2.mp e;rw[qCz]at h2;subst h2;rw[qC3]at hp;obtain⟨r',g1,g2⟩:=zDD (hs k (by simpa using h1) r hp);exact⟨_,r',rfl,g1,by rw[qC3];exact g2⟩
  exact⟨r',h1,by simpa[nums]using h2⟩
 rw[h1];exact hK r' h2
theorem zVB{γ:Type}{j:Nat}{b:SM}{r:Ro}{X:Ro->Prop}(en:γ->Dt)(ns:List γ)(Pv:Nat->Ro->Prop)(h:Pv 0 r)(hs:∀k x,ns[k]?=some x->∀r,Pv k r->nxR (b (r.set j (some (en x,0)))) (Pv (k+1)))(hK:∀r',Pv ns.length r'->X r'):nxR (forGo (.one j) b (ns.map en) r) X:=by
 obtain⟨r',h1,h2⟩:=zJ9 (tg:=.one j) (b:=b) Pv (ns.map en) 0 r h fun k d r hd hp=>by
  rw[qAf]at hd;cases e:ns[k]? with
  |none=>rw[e]at hd;cases hd
  |some q=>
   rw[e]at hd;cases hd;rw[qC3]at hp;obtain⟨r',g1,g2⟩:=zDD (hs k q e r hp);exact⟨_,r',rfl,g1,by rw[qC3];exact g2⟩
 rw[h1];exact hK r' (by simpa using h2)
theorem zV9{α γ:Type}{j:Nat}{b:SM}{r:Ro}{X:Ro->Prop}(en:γ->Dt)(ns:List γ)(Enc:α->Ro->Prop)(f:α->γ->α)(a:α)(h:Enc a r)(hs:∀n∈ns,∀a r,Enc a r->nxR (b (r.set j (some (en n,0)))) (Enc (f a n)))(hK:∀r',Enc (ns.foldl f a) r'->X r'):nxR (forGo (.one j) b (ns.map en) r) X:=by
 obtain⟨r',h1,h2⟩:=zKI en Enc f ns a r h fun n hn a r hr=>zDD (hs n hn a r hr)
 rw[h1];exact hK r' h2
theorem zRX{c:TM}{b:SM}{r:Ro}{X:Ro->Prop}(Pv:Ro->Prop)(μ:Ro->Nat)(Rv:Ro->Prop)(h0:Pv r)(hm:μ r<1000000)(hc:∀r,Pv r->(c (full r)=okR false/\Rv r)\/(c (full r)=okR true/\nxR (b r) fun r'=>Pv r'/\μ r'<μ r))(hK:∀r',Rv r'->X r'):nxR (sWhile c b r) X:=by
 obtain⟨r',h1,h2⟩:=zNN Pv μ Rv h0 hm fun r hr=>(hc r hr).imp (fun z=>z) fun z=>⟨z.1,zDD z.2⟩
 rw[h1];exact hK r' h2
theorem zKC:∀(a b:List Char),a.map qGv=b.map qGv->a=b
 |[],[],_=>rfl
 |[],_::_,h=>by simp at h
 |_::_,[],h=>by simp at h
 |x::r,y::q,h=>by
  simp only[qAm,List.cons.injEq]at h;rw[zKC r q h.2]
  have:x=y:=Char.toNat_inj.mp h.1
  rw[this]
@[simp] theorem str_inj(a b:String):(Str.ofString a=Str.ofString b)↔a=b:=by
 constructor
 ·intro h;rw[Str.ofString_eq_toList,Str.ofString_eq_toList]at h;simp only[Str.mk.injEq,List.toArray_inj]at h
  have:=zKC _ _ (by simpa using h)
  exact String.toList_inj.mp this
 ·intro h;rw[h]
theorem zN1:∀(ds:List Dt)(n i:Nat)(d:Dt),(enumD n ds)[i]?=some d->∃e,ds[i]?=some e/\d=.tup [.int ((n+i:Nat):Int),e]
 |[],_,_,_,h=>by simp[enumD]at h
 |x::r,n,0,d,h=>by simp[enumD]at h;exact⟨x,by simp,by rw[<- h];rfl⟩
 |x::r,n,i+1,d,h=>by
  rw[enumD]at h;obtain⟨e,h1,h2⟩:=zN1 r (n+1) i d (by simpa using h);exact⟨e,by simpa using h1,by rw[h2,show n+1+i=n+(i+1) by lia]⟩
theorem zJC:∀(ds:List Dt)(n:Nat),(enumD n ds).length=ds.length
 |[],_=>rfl
 |_::r,n=>by rw[enumD,qAo,qAo,zJC r]
theorem zVA{a b:Nat}{s:SM}{r:Ro}{X:Ro->Prop}(xs:List Dt)(Pv:Nat->Ro->Prop)(h:Pv 0 r)(hs:∀k x,xs[k]?=some x->∀r,Pv k r->nxR (s ((r.set a (some (.int (k:Nat),0))).set b (some (x,0)))) (Pv (k+1)))(hK:∀r',Pv xs.length r'->X r'):nxR (forGo (.tup [a,b]) s (enumD 0 xs) r) X:=by
 obtain⟨r',h1,h2⟩:=zJ9 (tg:=.tup [a,b]) (b:=s) Pv (enumD 0 xs) 0 r h fun k d r hd hp=>by
  obtain⟨e,g1,rfl⟩:=zN1 xs 0 k d hd;rw[qC3]at hp;obtain⟨r',g2,g3⟩:=zDD (hs k e g1 r hp);refine⟨_,r',rfl,?_,by rw[qC3];exact g3⟩;rw[qC3];exact g2
 rw[h1];exact hK r' (by simpa[zJC]using h2)
end Mi
namespace Mi
open PySem
section
variable(ρ:Rh)(a:EM)(am:AM)(lo hi:OM)
@[simp] theorem zZ1:eSl a lo hi ρ=zA3 (a ρ) fun x=>zA3 (lo ρ) fun l=>zA3 (hi ρ) fun h=>optR (slD x l h):=rfl
@[simp] theorem zZ0:oNo ρ=okR none:=rfl
@[simp] theorem x_oE:oE a ρ=zA3 (a ρ) fun d=>match d with | .int i=>okR (some i)|_=>none:=rfl
@[simp] theorem x_eMt(f:Dt->List Dt->Option Dt):eMt f a am ρ=zA3 (a ρ) fun x=>if zPX x=true then zA3 (am ρ) fun xs=>optR (f x xs)else none:=rfl
@[simp] theorem v_isStr(z:Str):zPX (.str z)=true:=rfl
end
@[simp] theorem v_slL(xs:List Dt)(l h:Option Int):slD (.lst xs) l h=some (.lst (cutA xs l h)):=rfl
@[simp] theorem v_slS(z:Str)(l h:Option Int):slD (.str z) l h=@ite _ (z.length<=100000) (qA3 _) (some (.str ⟨(cutA z.cps.toList l h).toArray⟩)) none:=rfl
@[simp] theorem v_ixSt(z:Str)(i:Int):ixD (.str z) (.int i)=@ite _ (z.length<=100000) (qA3 _) ((itA z.cps.toList i).map fun c=>.str ⟨#[c]⟩) none:=rfl
@[simp] theorem v_lenSt(z:Str):lenD [.str z]=@ite _ (z.length<=100000) (qA3 _) (some (.int z.length)) none:=rfl
@[simp] theorem v_count1(z:Str)(c:Nat):zYP (.str z) [.str ⟨#[c]⟩]=some (.int (z.cps.toList.count c:Nat)):=rfl
@[simp] theorem v_in1(ng:Bool)(z:Str)(c:Nat):inD ng (.str ⟨#[c]⟩) (.str z)=some (.bl (if ng=true then !decide (c∈z.cps.toList)else decide (c∈z.cps.toList))):=rfl
@[simp] theorem v_find1(z:Str)(c:Nat):zZU (.str z) [.str ⟨#[c]⟩]=some (.int (match posC c z.cps.toList with|some i=>(i:Int)|none=>-1)):=rfl
theorem zN4{α:Type}(xs:List α)(k:Nat):cutA xs (some (k:Int)) none=xs.drop k:=by
 unfold cutA cutIx;dsimp only;rw[if_neg (by lia)]
 by_cases h:k<=xs.length
 ·rw[show min (k:Int).toNat xs.length=k by lia];exact qDo (by simp)
 ·rw[show min (k:Int).toNat xs.length=xs.length by lia];simp
  lia
theorem zUL(a b:Str):(a++b).cps.toList=a.cps.toList++b.cps.toList:=by
 show(Str.mk (a.cps++b.cps)).cps.toList=_
 simp
theorem zVL(z:Str):z.length=z.cps.toList.length:=by
 unfold Str.length;simp
theorem zPO(l:List Nat):(Str.mk l.toArray).length=l.length:=by rw[zVL]
end Mi
namespace Mi
open PySem
end Mi
namespace Mp
open Mi PySem
theorem sg{i n:Nat}{vs:List Nat}{e:EM}{b:SM}{r:Ro}{d:Dt}{X:R Out}(he:e (full r)=okR d)(hd:d.dep<=n)(h:b (r.set i (some (d,n)))=X):sSeq (sSet i n vs e) b r=X:=by
 rw[zHY,zHX,he,zA0,if_pos hd,zA0];exact h
theorem sgf{i n:Nat}{vs:List Nat}{e:EM}{b:SM}{r:Ro}{d:Dt}{X:R Out}(he:e (full r)=okR d)(hd:¬d.dep<=n)(he2:e (frz (frzAt vs r))=okR d)(h:b ((frzAt vs r).set i (some (d,n)))=X):sSeq (sSet i n vs e) b r=X:=by
 rw[zHY,zHX,he,zA0,if_neg hd,he2,zA0,zA0];exact h
theorem sp{c:TM}{a b:SM}{r:Ro}{X:R Out}(hc:c (full r)=okR false)(h:b r=X):sSeq (sIf c a sNil) b r=X:=by
 rw[zHY,zE3,hc,zA0,if_neg (by simp),zT9,zA0];exact h
theorem st{c:TM}{a b:SM}{r r':Ro}{X:R Out}(hc:c (full r)=okR true)(ha:a r=okR (.nx r'))(h:b r'=X):sSeq (sIf c a sNil) b r=X:=by
 rw[zHY,zE3,hc,zA0,if_pos rfl,ha,zA0];exact h
theorem c2{m:FM}{e1 e2:EM}{ρ:Rh}{d1 d2:Dt}{X:R Dt}(h1:e1 ρ=okR d1)(h2:e2 ρ=okR d2)(h:m [d1,d2]=X):eCall m (aCons e1 (aCons e2 aNil)) ρ=X:=by
 simp only[zGO,zC6,zER,h1,h2,zA0];exact h
theorem c1{m:FM}{e1:EM}{ρ:Rh}{d1:Dt}{X:R Dt}(h1:e1 ρ=okR d1)(h:m [d1]=X):eCall m (aCons e1 aNil) ρ=X:=by
 simp only[zGO,zC6,zER,h1,zA0];exact h
theorem c4{m:FM}{e1 e2 e3 e4:EM}{ρ:Rh}{d1 d2 d3 d4:Dt}{X:R Dt}(h1:e1 ρ=okR d1)(h2:e2 ρ=okR d2)(h3:e3 ρ=okR d3)(h4:e4 ρ=okR d4)(h:m [d1,d2,d3,d4]=X):eCall m (aCons e1 (aCons e2 (aCons e3 (aCons e4 aNil)))) ρ=X:=by
 simp only[zGO,zC6,zER,h1,h2,h3,h4,zA0];exact h
theorem b2{o:Dt->Dt->Option Dt}{e1 e2:EM}{ρ:Rh}{d1 d2 d:Dt}(h1:e1 ρ=okR d1)(h2:e2 ρ=okR d2)(h:o d1 d2=some d):eB o e1 e2 ρ=okR d:=by
 rw[x_eB,h1,zA0,h2,zA0,h];rfl
theorem bi1{o:List Dt->Option Dt}{e1:EM}{ρ:Rh}{d1 d:Dt}(h1:e1 ρ=okR d1)(h:o [d1]=some d):eBi o (aCons e1 aNil) ρ=okR d:=by
 simp only[zWI,zC6,zER,h1,zA0,h];rfl
theorem el2{e1 e2:EM}{ρ:Rh}{d1 d2:Dt}(h1:e1 ρ=okR d1)(h2:e2 ρ=okR d2):eLst (aCons e1 (aCons e2 aNil)) ρ=okR (.lst [d1,d2]):=by simp[h1,h2]
theorem el1{e1:EM}{ρ:Rh}{d1:Dt}(h1:e1 ρ=okR d1):eLst (aCons e1 aNil) ρ=okR (.lst [d1]):=by simp[h1]
theorem tb1{e:EM}{ρ:Rh}{k:Bool}(h:e ρ=okR (.bl k)):tB e ρ=okR k:=by rw[x_tB,h,zA0]
theorem tm1{e:EM}{ρ:Rh}{k:Bool}(h:e ρ=okR (.bl k)):tM e ρ=okR k:=by rw[x_tM,h,zA0]
theorem tn1{t:TM}{ρ:Rh}{k:Bool}(h:t ρ=okR k):tNo t ρ=okR (!k):=by rw[zYZ,h,zA0]
theorem to0{t t':TM}{ρ:Rh}{k:Bool}(h:t ρ=okR false)(h':t' ρ=okR k):Mi.tOr t t' ρ=okR k:=by rw[zYY,h,zA0,if_neg (by simp),h']
theorem ta1{t t':TM}{ρ:Rh}{k:Bool}(h:t ρ=okR true)(h':t' ρ=okR k):tAn t t' ρ=okR k:=by rw[zWG,h,zA0,if_pos rfl,h']
theorem ta0{t t':TM}{ρ:Rh}(h:t ρ=okR false):tAn t t' ρ=okR false:=by rw[zWG,h,zA0,if_neg (by simp)]
theorem ss{i n:Nat}{vs:List Nat}{e:EM}{r:Ro}{d:Dt}(he:e (full r)=okR d)(hd:d.dep<=n):sSet i n vs e r=okR (.nx (r.set i (some (d,n)))):=by
 rw[zHX,he,zA0,if_pos hd]
theorem sr{L n:Nat}{vs:List Nat}{e:EM}{r:Ro}{d:Dt}(he:e (full r)=okR d)(hd:d.dep<=n/\d.dep<=L):sRet L n vs e r=okR (.rt d):=by
 rw[zWH,he,zA0,if_pos hd]
theorem tl{k k':Bool}{x:Option Dt}(h:x=some (.bl k))(e:k=k'):x=some (.bl k'):=e▸h
theorem bi2{o:List Dt->Option Dt}{e1 e2:EM}{ρ:Rh}{d1 d2 d:Dt}(h1:e1 ρ=okR d1)(h2:e2 ρ=okR d2)(h:o [d1,d2]=some d):eBi o (aCons e1 (aCons e2 aNil)) ρ=okR d:=by
 simp only[zWI,zC6,zER,h1,h2,zA0,h];rfl
theorem sl1{a b:EM}{ρ:Rh}{x d:Dt}{i:Int}(h1:a ρ=okR x)(h2:b ρ=okR (.int i))(h:slD x (some i) none=some d):eSl a (oE b) oNo ρ=okR d:=by
 rw[zZ1,h1,zA0,x_oE,h2,zA0,zA0,zZ0,zA0,h];rfl
theorem sf{c:TM}{a:SM}{r:Ro}(hc:c (full r)=okR false):sIf c a sNil r=okR (.nx r):=by
 rw[zE3,hc,zA0,if_neg (by simp),zT9]
theorem et2{e1 e2:EM}{ρ:Rh}{d1 d2:Dt}(h1:e1 ρ=okR d1)(h2:e2 ρ=okR d2):eTup (aCons e1 (aCons e2 aNil)) ρ=okR (.tup [d1,d2]):=by simp[h1,h2]
theorem eqi{e1 e2:EM}{ρ:Rh}{a b:Int}{k:Bool}(h1:e1 ρ=okR (.int a))(h2:e2 ρ=okR (.int b))(h:decide (a=b)=k):tB (eB eqD e1 e2) ρ=okR k:=by
 refine tb1 (b2 h1 h2 ?_);rw[<- h];simp[Dt.eq];rfl
theorem nei{e1 e2:EM}{ρ:Rh}{a b:Int}{k:Bool}(h1:e1 ρ=okR (.int a))(h2:e2 ρ=okR (.int b))(h:(!decide (a=b))=k):tB (eB neD e1 e2) ρ=okR k:=by
 refine tb1 (b2 h1 h2 ?_);rw[<- h];simp[Dt.eq];rfl
theorem sx{c:TM}{a b:SM}{r:Ro}{d:Dt}(hc:c (full r)=okR true)(ha:a r=okR (.rt d)):sSeq (sIf c a sNil) b r=okR (.rt d):=by
 rw[zHY,zE3,hc,zA0,if_pos rfl,ha,zA0]
theorem mdi{i j k:Int}(h:0<j)(e:i%j=k):modD (.int i) (.int j)=some (.int k):=by rw[<- e];exact if_pos h
theorem c3{m:FM}{e1 e2 e3:EM}{ρ:Rh}{d1 d2 d3:Dt}{X:R Dt}(h1:e1 ρ=okR d1)(h2:e2 ρ=okR d2)(h3:e3 ρ=okR d3)(h:m [d1,d2,d3]=X):eCall m (aCons e1 (aCons e2 (aCons e3 aNil))) ρ=X:=by
 simp only[zGO,zC6,zER,h1,h2,h3,zA0];exact h
theorem an1{e1 e2:EM}{ρ:Rh}{a b:Bool}(h1:e1 ρ=okR (.bl a))(h2:e2 ρ=okR (.bl b)):eAnd e1 e2 ρ=okR (.bl (a&&b)):=by cases a<;>simp[h1,h2]
theorem sk{c:TM}{a b:SM}{r:Ro}{X:R Out}(hc:c (full r)=okR true)(ha:a r=X):sIf c a b r=X:=by
 rw[zE3,hc,zA0,if_pos rfl];exact ha
theorem sw{s t:SM}{r r':Ro}{X:R Out}(h:s r=okR (.nx r'))(h2:t r'=X):sSeq s t r=X:=by rw[zHY,h,zA0];exact h2
theorem if1{c:TM}{a b:EM}{ρ:Rh}{X:R Dt}(hc:c ρ=okR true)(h:a ρ=X):eIf c a b ρ=X:=by unfold eIf;rw[hc,zA0,if_pos rfl];exact h
theorem if0{c:TM}{a b:EM}{ρ:Rh}{X:R Dt}(hc:c ρ=okR false)(h:b ρ=X):eIf c a b ρ=X:=by unfold eIf;rw[hc,zA0,if_neg qAe];exact h
theorem v1{i:Nat}{ρ:Rh}{d:Dt}(h:ρ[i]?=some (some d)):eV i ρ=okR d:=by rw[x_eV,h]
theorem al0{e:EM}{ρ:Rh}{d:Dt}(h:e ρ=okR d):aCons e aNil ρ=okR [d]:=by rw[zC6,h];rfl
theorem adi{a b c:Int}(h:a+b=c):addD (.int a) (.int b)=some (.int c):=by rw[<- h];rfl
theorem sbi{a b c:Int}(h:a-b=c):subD (.int a) (.int b)=some (.int c):=by rw[<- h];rfl
theorem k1{d d':Dt}{ρ:Rh}(h:d=d'):eC d ρ=okR d':=by rw[<- h];rfl
theorem cmi{p:Int->Int->Bool}{a b:Int}{k:Bool}(h:p a b=k):cmpD p (.int a) (.int b)=some (.bl k):=by rw[<- h];rfl
noncomputable def rowD(r:List Int):Dt:=.lst (r.map .int)
def mat(A:List (List Int)):Dt:=.lst (A.map rowD)
noncomputable def tab(n:Nat)(f:Nat->Nat->Int):List (List Int):=(qA4 n).map fun i=>(qA4 n).map fun j=>f i j
def Bits(n:Nat)(f:Nat->Nat->Int):Prop:=∀i j,i<n->j<n->f i j=0\/f i j=1
def Sym(n:Nat)(f:Nat->Nat->Int):Prop:=∀i j,i<n->j<n->f i j=f j i
@[simp] theorem zDF(r:List Int):(rowD r).dep=1:=by simp[rowD]
theorem ixR{n:Nat}{g:Nat->Int}{j:Nat}(h:j<n):ixD (rowD ((qA4 n).map g)) (.int (j:Int))=some (.int (g j)):=by
 refine zEU rfl ?_;simp[h]
@[simp] theorem lenR(r:List Int):lenD [rowD r]=some (.int r.length):=by
 show some (Dt.int ((r.map Dt.int).length:Int))=_;rw[qAi]
@[simp] theorem zZQ(r:List Int):listD [rowD r]=some (rowD r):=rfl
@[simp] theorem lenM(A:List (List Int)):lenD [mat A]=some (.int A.length):=by
 show some (Dt.int ((A.map rowD).length:Int))=_;rw[qAi]
theorem zHF:∀A:List (List Int),Dt.depL (A.map rowD)<=1
 |[]=>by simp
 |r::A=>by
  have:=zHF A
  rw[qAm,zFL,zDF]
  lia
theorem zC1(A:List (List Int)):(mat A).dep<=2:=by
 have:=zHF A
 unfold mat;rw[v_dl]
 lia
theorem zN0:∀A B:List (List Int),Dt.eqL (A.map rowD) (B.map rowD)=decide (A=B)
 |[],[]=>by simp[Dt.eqL]
 |[],_::_=>by simp[Dt.eqL]
 |_::_,[]=>by simp[Dt.eqL]
 |r::A,q::B=>by
  rw[qAm,qAm,Dt.eqL,zN0 A B];unfold rowD;rw[v_e4,zFE];simp
theorem zYF(A B:List (List Int)):Dt.eq (mat A) (mat B)=decide (A=B):=by
 unfold mat;rw[v_e4,zN0]
theorem zBZ(n:Nat)(f:Nat->Nat->Int):(tab n f).length=n:=by simp[tab]
theorem zEY{n:Nat}{f:Nat->Nat->Int}{i:Nat}(h:i<n):(tab n f)[i]?=some ((qA4 n).map fun j=>f i j):=by
 simp[tab,h]
theorem zY2{n:Nat}{f:Nat->Nat->Int}{i:Nat}(h:i<n):itA ((tab n f).map rowD) (i:Int)=some (rowD ((qA4 n).map fun j=>f i j)):=by
 refine zEU rfl ?_;rw[qAf,zEY h];rfl
theorem ixM{n:Nat}{f:Nat->Nat->Int}{i:Nat}(h:i<n):ixD (mat (tab n f)) (.int (i:Int))=some (rowD ((qA4 n).map fun j=>f i j)):=zY2 h
theorem zYE(a b:List Int):Dt.eq (rowD a) (rowD b)=decide (a=b):=by
 unfold rowD;rw[v_e4,zFE]
theorem zN6{ρ:Rh}{e:EM}{it:IM}{i n:Nat}(g:Nat->Int)(hi:i=ρ.length)(hn:n<=1000)(h1:it ρ=okR (nums 0 n))(h:∀a,a<n->e (ρ++[some (.int (a:Nat))])=okR (.int (g a))):eComp it 1 (.one i) tYes e ρ=okR (rowD ((qA4 n).map g)):=by
 rw[zCS (fun b=>.int (g b)) n rfl hi (fun b hb=>h b hb) it h1 (by lia)];unfold rowD;rw[qAw];rfl
theorem zGL{ρ:Rh}{e:EM}{it it2:IM}{i j n:Nat}(f:Nat->Nat->Int)(hi:i=ρ.length)(hj:j=ρ.length+1)(hn:n<=1000)(h1:it ρ=okR (nums 0 n))(h2:∀a,it2 (ρ++[some (.int (a:Nat))])=okR (nums 0 n))
  (h:∀a b,a<n->b<n->e (ρ++[some (.int (a:Nat))]++[some (.int (b:Nat))])=okR (.int (f a b))):eComp it 1 (.one i) tYes (eComp it2 1 (.one j) tYes e) ρ=okR (mat (tab n f)):=by
 rw[zCS (fun a=>rowD ((qA4 n).map fun b=>f a b)) n rfl hi (fun a ha=>?_) it h1 (by lia)]
 ·unfold mat tab;rw[qAw];rfl
 ·rw[zCS (fun b=>.int (f a b)) n rfl (by rw[hj];simp) (fun b hb=>h a b ha hb) it2 (h2 a) (by lia)];unfold rowD;rw[qAw];rfl
theorem zSV(A:List (List Int))(h:A.length<=1000):zDT [mat A]=okR (mat A):=by
 unfold zDT zHO;have hd:=zHF A;have hc:eComp (iSq (eV 0)) 1 (.one 1) Mi.tYes (eBi listD (aCons (eV 1) aNil)) [some (mat A)]=okR (mat A):=
  zBX rowD rowD A rfl rfl (fun r _=>by simp[rowD]) _ (by simp[mat]) (by lia)
 have hm:(mat A).dep<=2:=zC1 A;simp[hc,hm]
theorem zEE{r:Ro}{i m n:Nat}{l:Nat}{f:Nat->Nat->Int}{a b:Nat}{v:Int}{e0 e1 e2:EM}(h:r[i]?=some (some (mat (tab n f),l+2)))(h0:e0 (full r)=okR (.int (a:Nat)))(h1:e1 (full r)=okR (.int (b:Nat)))(h2:e2 (full r)=okR (.int v))(ha:a<n)(hb:b<n) :
  sItem2 i m e0 e1 e2 r=okR (.nx (r.set i (some (mat (tab n fun x y=>if x=a/\y=b then v else f x y),l+2)))):=by
 have g1:((tab n f).map rowD)[a]?=some (.lst (((qA4 n).map fun j=>f a j).map .int)):=by
  rw[qAf,zEY ha];rfl
 unfold sItem2;rw[h2,zA0,h];show zA3 (e0 (full r)) _=_;rw[h0,zA0];dsimp only;rw[zG1 (by lia) (by simp[tab];lia)];dsimp only;rw[qBc,g1];dsimp only;rw[h1,zA0];dsimp only;rw[zG1 (by lia) (by simp;lia)];dsimp only;rw[if_pos ⟨qAt _,qAt _⟩,qBc]
 congr 5
 unfold mat
 congr 1
 apply qCh
 intro x;rw[qC7]
 by_cases hx:a=x
 ·subst hx;rw[if_pos rfl,if_pos (by simp[tab];lia),qAf,zEY ha];show some _=some _
  congr 1
  unfold rowD
  congr 1
  apply qCh
  intro y;rw[qC7]
  by_cases hy:b=y
  ·subst hy;simp[hb]
  ·rw[if_neg hy]
   by_cases hyn:y<n
   ·simp[hyn,show ¬y=b from fun z=>hy z.symm]
   ·simp[hyn]
 ·rw[if_neg hx,qAf,qAf]
  by_cases hxn:x<n
  ·rw[zEY hxn,zEY hxn];simp[show ¬x=a from fun z=>hx z.symm]
  ·have:(tab n f)[x]?=none:=by simp[tab];lia
   have h':(tab n fun x y=>if x=a/\y=b then v else f x y)[x]?=none:=by simp[tab];lia
   rw[this,h']
def Bit(x:Int):Prop:=x=0\/x=1
def RowN(n:Nat)(r:List Int):Prop:=r.length=n/\∀x∈r,Bit x
theorem zSU(A:List (List Int))(l h:Option Int):cutA (A.map rowD) l h=(cutA A l h).map rowD:=by
 unfold cutA;simp
theorem zQH(r:List Int)(l h:Option Int):slD (rowD r) l h=some (rowD (cutA r l h)):=by
 show some (Dt.lst (cutA (r.map Dt.int) l h))=_;unfold cutA rowD;simp
theorem zW4(A:List (List Int))(l h:Option Int):slD (mat A) l h=some (mat (cutA A l h)):=by
 show some (Dt.lst (cutA (A.map rowD) l h))=_;rw[zSU];rfl
theorem zIJ{n:Nat}{f:Nat->Nat->Int}(hb:Bits n f):∀r∈tab n f,r.length=n/\∀x∈r,Bit x:=by
 intro r hr;unfold tab at hr;obtain⟨i,hi,rfl⟩:=qAl.mp hr;refine⟨by simp,fun x hx=>?_⟩;obtain⟨j,hj,rfl⟩:=qAl.mp hx;exact hb i j (by simpa using hi) (by simpa using hj)
theorem zHU(r:List Int)(i:Nat)(h:i<r.length):ixD (rowD r) (.int (i:Int))=some (.int (r.getD i 0)):=by
 have:=zS9 (ns:=r) (i:=(i:Int)) (by lia) (by lia)
 rw[qBc]at this;exact this
theorem zPU(A:List (List Int))(i:Nat)(h:i<A.length):ixD (mat A) (.int (i:Int))=some (rowD (A.getD i [])):=by
 refine zEU rfl ?_;rw[qAf,qA7 h,qA0,qA7 h];rfl
theorem addR(a b:List Int)(h:a.length+b.length<=100000):addD (rowD a) (rowD b)=some (rowD (a++b)):=by
 show(@ite _ ((a.map Dt.int).length+(b.map Dt.int).length<=100000) (qA3 _) (some (Dt.lst (a.map Dt.int++b.map Dt.int))) none)=_
 rw[if_pos (by simpa using h)];unfold rowD;simp
theorem zUC{a b:Int}(ha:Bit a)(hb:Bit b):Builtin.bitXor a b=(a+b)%2:=by
 rcases ha with rfl|rfl<;>rcases hb with rfl|rfl<;>decide
theorem zFA(n:Nat)(g h:Nat->Int)(hn:n<=10):zAV [rowD ((qA4 n).map g),rowD ((qA4 n).map h)]=okR (rowD ((qA4 n).map fun j=>(g j+h j)%2)):=by
 unfold zAV zG7;have hz:∀(l:List Nat),zipD ((l.map g).map Dt.int) ((l.map h).map Dt.int)=l.map fun j=>Dt.tup [.int (g j),.int (h j)]:=by
  intro l
  induction l with
  |nil=>rfl
  |cons a r ih=>simp only[qAm,zipD,ih]
 have hc:eComp (iZi (aCons (eV 0) (aCons (eV 1) aNil))) 2 (.tup [2,3]) Mi.tYes (eB modD (eB addD (eV 2) (eV 3)) (eC (.int 2))) [some (rowD ((qA4 n).map g)),some (rowD ((qA4 n).map h))]=okR (rowD ((qA4 n).map fun j=>(g j+h j)%2)):=by
  unfold eComp;have hi:iZi (aCons (eV 0) (aCons (eV 1) aNil)) [some (rowD ((qA4 n).map g)),some (rowD ((qA4 n).map h))]=okR ((qA4 n).map fun j=>Dt.tup [.int (g j),.int (h j)]):=by
   simp[rowD]
   have:=hz (qA4 n)
   simpa using this
  rw[hi,zA0,if_pos ⟨by simp;lia,by simp[Tg.idx]⟩];have go:∀(l:List Nat)(acc:List Dt),compGo [some (rowD ((qA4 n).map g)),some (rowD ((qA4 n).map h))] 2 (.tup [2,3]) tYes (eB modD (eB addD (eV 2) (eV 3)) (eC (.int 2))) (l.map fun j=>Dt.tup [.int (g j),.int (h j)]) acc=okR (acc++l.map fun j=>Dt.int ((g j+h j)%2)):=by
   intro l
   induction l with
   |nil=>intro acc;simp[compGo]
   |cons a r ih=>
    intro acc;rw[qAm,compGo];simp[zB5,zAT,ih]
  rw[go,zA0];unfold rowD;rw[qAw];simp
 simp[hc]
noncomputable def sumN(n:Nat)(f:Nat->Int):Int:=((qA4 n).map f).sum
def prod(n:Nat)(f g:Nat->Nat->Int)(i j:Nat):Int:=sumN n (fun k=>f i k*g k j)%2
theorem zRV(n:Nat)(g:Nat->Int)(hn:n<=10):zEB [rowD ((qA4 n).map g)]=okR (.lst (((qA4 n).filter fun k=>decide (g k=1)).map fun k:Nat=>Dt.int (k:Int))):=by
 unfold zEB zL1;have hc:eComp (iR1 (aCons (eBi lenD (aCons (eV 0) aNil)) aNil)) 1 (.one 1) (tB (eB eqD (eB ixD (eV 0) (eV 1)) (eC (.int 1)))) (eV 1) [some (rowD ((qA4 n).map g))]=okR (.lst (((qA4 n).filter fun k=>decide (g k=1)).map fun k:Nat=>Dt.int (k:Int))):=by
  unfold eComp;rw[zCL (n:=n) (by simp) (by lia),zA0,if_pos ⟨by simp[nums];lia,by simp[Tg.idx]⟩,zCJ];have go:∀(l:List Nat)(acc:List Dt),(∀k∈l,k<n)->compGo [some (rowD ((qA4 n).map g))] 1 (.one 1) (tB (eB eqD (eB ixD (eV 0) (eV 1)) (eC (.int 1)))) (eV 1) (l.map fun k:Nat=>Dt.int (k:Int)) acc=okR (acc++(l.filter fun k=>decide (g k=1)).map fun k:Nat=>Dt.int (k:Int)):=by
   intro l
   induction l with
   |nil=>intro acc _;simp[compGo]
   |cons a r ih=>
    intro acc hl;have i1:=ixR (g:=g) (hl a (by simp));have ih':=fun acc=>ih acc fun k hk=>hl k (by simp[hk])
    rw[qAm,compGo]
    by_cases h:g a=1
    ·simp[zB5,zAT,i1,h,ih']
    ·simp[zB5,zAT,i1,h,ih']
  rw[go _ _ fun k hk=>by simpa using hk,zA0];simp
 have hd:Dt.depL (((qA4 n).filter fun k=>decide (g k=1)).map fun k:Nat=>Dt.int (k:Int))=0:=by
  have:=zD4 (((qA4 n).filter fun k=>decide (g k=1)).map fun k:Nat=>(k:Int))
  rw[qAw]at this;exact this
 simp[hc,hd]
theorem zVH(n:Nat)(f:Nat->Nat->Int):mat (tab n f)=.lst ((qA4 n).map fun i=>rowD ((qA4 n).map fun j=>f i j)):=by
 unfold mat tab;rw[qAw];rfl
theorem zZT{ds:List Dt}(h:∀d∈ds,d.dep=0):Dt.depL ds=0:=by
 induction ds with
 |nil=>simp
 |cons a r ih=>rw[zFL,h a (by simp),ih fun d hd=>h d (by simp[hd])];rfl
noncomputable def numL(ks:List Nat):List Int:=ks.map fun k:Nat=>(k:Int)
theorem numD(ks:List Nat):rowD (numL ks)=.lst (ks.map fun k:Nat=>Dt.int (k:Int)):=by
 unfold rowD numL;rw[qAw];rfl
theorem zH5{α:Type}(ks:List Nat)(g:Nat->α):ks.map g=(qA4 ks.length).map fun a=>g (ks.getD a 0):=by
 apply qCo
 ·simp
 ·intro i h1 h2;simp at h1;simp[h1]
theorem zC7{ks:List Nat}{n a:Nat}(hk:∀k∈ks,k<n)(ha:a<ks.length):ks.getD a 0<n:=by
 refine hk _ ?_;rw[qA0,qA7 ha];simp
noncomputable def sub(ks:List Nat)(f:Nat->Nat->Int):Nat->Nat->Int:=fun a b=>f (ks.getD a 0) (ks.getD b 0)
theorem zGG(n:Nat)(f:Nat->Nat->Int)(ks:List Nat)(hk:∀k∈ks,k<n)(hz:ks.length<=1000):zBI [mat (tab n f),rowD (numL ks)]=okR (mat (tab ks.length (sub ks f))):=by
 have hm:mat (tab ks.length (sub ks f))=.lst (ks.map fun i=>rowD (ks.map fun j=>f i j)):=by
  rw[zVH,zH5 ks fun i=>rowD (ks.map fun j=>f i j)]
  congr 1
  refine qB3 fun a ha=>?_
  rw[zH5 ks fun j=>f (ks.getD a 0) j];rfl
 unfold zBI zHN;have hc:eComp (iSq (eV 1)) 1 (.one 2) Mi.tYes (eComp (iSq (eV 1)) 1 (.one 3) Mi.tYes (eB ixD (eB ixD (eV 0) (eV 2)) (eV 3))) [some (mat (tab n f)),some (rowD (numL ks))]=okR (mat (tab ks.length (sub ks f))):=by
  rw[hm];refine zBX (fun k:Nat=>Dt.int (k:Int)) _ ks rfl rfl (fun i hi=>?_) _ (by simp[numD]) (by lia);have h2:=zBX (ρ:=[some (mat (tab n f)),some (rowD (numL ks))]++[some (Dt.int (i:Int))]) (c:=tYes) (i:=3) (e:=eB ixD (eB ixD (eV 0) (eV 2)) (eV 3)) (fun k:Nat=>Dt.int (k:Int)) (fun j=>Dt.int (f i j)) ks rfl rfl (fun j hj=>by
   have e1:=ixM (f:=f) (hk i hi);have e2:=ixR (g:=fun j=>f i j) (hk j hj);simp[e1,e2]) (iSq (eV 1)) (by simp[numD]) (by lia)
  rw[h2];unfold rowD;rw[qAw];rfl
 have hd:=zC1 (tab ks.length (sub ks f));simp[hc,hd]
theorem zO7{α:Type}(l:List α):allD [.lst (l.map fun _=>Dt.bl true)]=some (.bl true):=by
 have hall:∀l:List α,boolsD (l.map fun _=>Dt.bl true)=some (l.map fun _=>true):=by
  intro l
  induction l with
  |nil=>rfl
  |cons a r ih=>simp[boolsD,ih]
 simp[allD,hall]
theorem zLX(l:List Int):intsD (l.map Dt.int)=some l:=by
 induction l with
 |nil=>rfl
 |cons a r ih=>simp[intsD,ih]
noncomputable def sgn(c:Nat):Dt:=.str ⟨#[c]⟩
theorem zSH(cs:List Nat):∀d∈cs.map sgn,d.dep=0:=by
 intro d hd;obtain⟨c,_,rfl⟩:=qAl.mp hd;rfl
@[simp] theorem depL_sgn(cs:List Nat):Dt.depL (cs.map sgn)=0:=zZT (zSH cs)
end Mp
namespace Mp
noncomputable def ords(row:List Nat):List Nat:=row.foldl (fun o p=>if p∈o then o else o++[p]) []
end Mp
namespace Mp
open Mi PySem
theorem zKF{r:Ro}{i m l a:Nat}{xs:List Int}{v:Int}{e1 e2:EM}(h:r[i]?=some (some (rowD xs,l+1)))(h2:e2 (full r)=okR (.int v))(h1:e1 (full r)=okR (.int (a:Nat)))(ha:a<xs.length):sItem i m e1 e2 r=okR (.nx (r.set i (some (rowD (xs.set a v),l+1)))):=by
 unfold sItem;rw[h2,zA0,h];show zA3 (e1 (full r)) _=_;rw[h1,zA0];dsimp only;rw[zG1 (by lia) (by simp;lia)];dsimp only;rw[if_pos ⟨qAt _,qAt _⟩,qBc];unfold rowD;rw[qC4]
end Mp
namespace FW
structure NetL(ns:List Int)(n:Nat):Prop where
 len:ns.length=n
 tie:∀i:Nat,i<n->∃j:Nat,j<n/\j≠i/\ns[i]?=some (j:Int)/\ns[j]?=some (i:Int)
structure Part(left:List Nat)(ns:List Int)(n:Nat):Prop where
 len:ns.length=n
 nd:left.Nodup
 lt:∀i∈left,i<n
 ev:left.length%2=0
 tie:∀i:Nat,i<n->i∉left->∃j:Nat,j<n/\j∉left/\j≠i/\ns[i]?=some (j:Int)/\ns[j]?=some (i:Int)
end FW
namespace Mp
open Mi PySem
noncomputable def itr(f:Nat->Nat):Nat->Nat->Nat
 |0,x=>x
 |k+1,x=>f (itr f k x)
noncomputable def jn(cs:List Nat)(e:Nat):Nat:=e/4*4+(e%4^^^(cs.getD (e/4) 0+1))
noncomputable def nt(ts:List Nat)(e:Nat):Nat:=ts.getD e 0
structure NetN(ts:List Nat)(M:Nat):Prop where
 len:ts.length=M
 lt:∀e,e<M->nt ts e<M
 inv:∀e,e<M->nt ts (nt ts e)=e
def stp(ts cs:List Nat)(e:Nat):Nat:=nt ts (jn cs e)
def zX1(R:List (List Nat)):Dt:=.lst (R.map fun l=>rowD (numL l))
noncomputable def wrd(ls row:List Nat):List Nat:=row.map fun p=>ls.getD p 0
def za1(ls row:List Nat):Prop:=∀x∈row,∀y∈row,ls.getD x 0=ls.getD y 0->x=y
theorem zS3{cs:List Nat}(h:cs.length<=1000):lenD [.str ⟨cs.toArray⟩]=some (.int (cs.length:Int)):=by
 have:=zPO cs
 simp[lenD,this]
 try lia
structure Twice(n:Nat)(row:List Nat):Prop where
 len:row.length=2*n
 cnt:∀v,row.count v=if v<n then 2 else 0
section
variable{n:Nat}{row:List Nat}(t:Twice n row)
include t
end
end Mp
namespace Mp
open Mi PySem
noncomputable def addB:List Int->List Int->List Int
 |a::r,b::s=>(a+b)%2::addB r s
 |_,_=>[]
noncomputable def dot:List Int->List Int->Int
 |a::r,b::x=>a*b+dot r x
 |_,_=>0
theorem zF2(x:Int):Bit (x%2):=by show _%2=0\/_%2=1;lia
theorem zJL:∀(a b:List Int),a.length=b.length->(addB a b).length=a.length
 |[],[],_=>rfl
 |a::r,b::s,h=>by simp[addB,zJL r s (by simpa using h)]
 |[],_::_,h=>by simp at h
 |_::_,[],h=>by simp at h
theorem zNE:∀(a b:List Int),∀x∈addB a b,Bit x
 |[],_,x,h=>by simp[addB]at h
 |_::_,[],x,h=>by simp[addB]at h
 |a::r,b::s,x,h=>by
  rw[addB,qAh]at h
  rcases h with rfl|h
  ·exact zF2 _
  ·exact zNE r s x h
theorem zEP{m:Nat}{a b:List Int}(ha:RowN m a)(hb:RowN m b):RowN m (addB a b):=
 ⟨by rw[zJL a b (by rw[ha.1,hb.1]),ha.1],zNE a b⟩
theorem zC5:∀(a b:List Int)(k:Nat),a.length=b.length->k<a.length->(addB a b).getD k 0=(a.getD k 0+b.getD k 0)%2
 |[],_,k,_,h=>by simp at h
 |_::_,[],k,h,_=>by simp at h
 |a::r,b::s,0,_,_=>rfl
 |a::r,b::s,k+1,h,hk=>by
  have:=zC5 r s k (by simpa using h) (by simpa using hk)
  simpa[addB]using this
theorem zFT:∀(a b x:List Int),a.length=b.length->(∀y∈x,Bit y)->dot (addB a b) x%2=(dot a x+dot b x)%2
 |[],[],x,_,_=>by simp[addB,dot]
 |[],_::_,x,h,_=>by simp at h
 |_::_,[],x,h,_=>by simp at h
 |a::r,b::s,[],_,_=>by simp[addB,dot]
 |a::r,b::s,c::x,h,hx=>by
  have ih:=zFT r s x (by simpa using h) fun y hy=>hx y (by simp[hy])
  simp only[addB,dot]
  rcases hx c (by simp)with rfl|rfl<;>lia
def Ker(A:List (List Int))(x:List Int):Prop:=∀r∈A,dot r x%2=0
noncomputable def ent(A:List (List Int))(i k:Nat):Int:=(A.getD i []).getD k 0
theorem zAM{α:Type}{l:List α}{d:α}{i:Nat}(h:i<l.length):l.getD i d∈l:=by
 rw[qA0,qA7 h];simp
theorem zFB{α:Type}{l:List α}{d a:α}{i j:Nat}(h:i<l.length):(l.set i a).getD j d=if i=j then a else l.getD j d:=by
 simp only[qA0,qC7]
 by_cases z:i=j
 ·subst z;simp[h]
 ·simp[z]
theorem zFC{α β:Type}{l:List α}{d:α}{e:β}{g:α->β}{i:Nat}(h:i<l.length):(l.map g).getD i e=g (l.getD i d):=by
 simp[qA0,qA7 h]
theorem zEK{α:Type}{l:List α}{d x:α}(h:x∈l):∃i,i<l.length/\l.getD i d=x:=by
 obtain⟨i,hi,rfl⟩:=qE4.mp h;exact⟨i,hi,by simp[qA0,qA7 hi]⟩
def oth(A:List (List Int))(c:Nat)(lead:List Int):List (List Int):=A.map fun r=>if r.getD c 0=1 then addB r lead else r
def clr(A:List (List Int))(c t:Nat):List (List Int):=
 ((oth A c (A.getD t [])).set t ((oth A c (A.getD t [])).getD c [])).set c (A.getD t [])
section
variable{A:List (List Int)}{c t m:Nat}(hm:∀r∈A,RowN m r)(ht:t<A.length)(hc:c<=t)(hl:ent A t c=1)(hcm:c<m)
theorem zGY(A:List (List Int))(c:Nat)(l:List Int):(oth A c l).length=A.length:=by simp[oth]
theorem zHJ(A:List (List Int))(c t:Nat):(clr A c t).length=A.length:=by simp[clr,oth]
include hm ht in
theorem zRU:∀r∈oth A c (A.getD t []),RowN m r:=by
 intro r hr;obtain⟨q,hq,rfl⟩:=qAl.mp hr;have h1:=hm q hq;have h2:=hm _ (zAM (d:=[]) ht)
 split
 ·exact zEP h1 h2
 ·exact h1
include hm ht hc in
theorem zSZ:∀r∈clr A c t,RowN m r:=by
 intro r hr;have ho:=zRU (c:=c) hm ht
 rcases qAz hr with hr|rfl
 ·rcases qAz hr with hr|rfl
  ·exact ho r hr
  ·exact ho _ (zAM (by rw[zGY];lia))
 ·exact hm _ (zAM ht)
include ht hc in
theorem zJE(i:Nat)(hi:i<A.length):(clr A c t).getD i []=if c=i then A.getD t []else if t=i then(oth A c (A.getD t [])).getD c []else(oth A c (A.getD t [])).getD i []:=by
 unfold clr;rw[zFB (by simp[zGY];lia),zFB (by rw[zGY];lia)]
include hm ht hc in
theorem zW6(x:List Int)(hx:∀y∈x,Bit y):Ker (clr A c t) x↔Ker A x:=by
 have hlr:=hm _ (zAM (d:=[]) ht);constructor
 ·intro h r hr;have hlead:dot (A.getD t []) x%2=0:=by
   have:=h _ (zAM (d:=[]) (i:=c) (by rw[zHJ];lia))
   rwa [zJE ht hc c (by lia),if_pos rfl]at this
  obtain⟨i,hi,rfl⟩:=zEK (d:=[]) hr
  by_cases hit:t=i
  ·subst hit;exact hlead
  ·have key:(oth A c (A.getD t [])).getD i []∈clr A c t:=by
    by_cases hic:c=i
    ·subst hic
     have:=zAM (l:=clr A c t) (d:=[]) (i:=t) (by rw[zHJ];lia)
     rwa [zJE ht hc t ht,if_neg (fun z=>hit z.symm),if_pos rfl]at this
    ·have:=zAM (l:=clr A c t) (d:=[]) (i:=i) (by rw[zHJ];lia)
     rwa [zJE ht hc i hi,if_neg hic,if_neg hit]at this
   have k2:=h _ key;unfold oth at k2;rw[zFC (d:=[]) hi]at k2
   split at k2
   ·rw[zFT _ _ x (by rw[(hm _ (zAM hi)).1,hlr.1]) hx]at k2
    lia
   ·exact k2
 ·intro h r hr;have hlead:=h _ (zAM (d:=[]) ht);have ho:∀r∈oth A c (A.getD t []),dot r x%2=0:=by
   intro r hr;obtain⟨q,hq,rfl⟩:=qAl.mp hr
   have:=h q hq
   split
   ·rw[zFT _ _ x (by rw[(hm _ hq).1,hlr.1]) hx];lia
   ·exact this
  rcases qAz hr with hr|rfl
  ·rcases qAz hr with hr|rfl
   ·exact ho r hr
   ·exact ho _ (zAM (by rw[zGY];lia))
  ·exact hlead
end
def zWB(A:List (List Int))(c:Nat):Prop:=∀i k,i<A.length->k<c->ent A i k=if i=k then 1 else 0
theorem zHC{A:List (List Int)}{m i k:Nat}(hm:∀r∈A,RowN m r)(hi:i<A.length)(hk:k<m):Bit (ent A i k):=by
 have h:=hm _ (zAM (d:=[]) hi);exact h.2 _ (zAM (by rw[h.1];exact hk))
theorem zV2{A:List (List Int)}{c t m i k:Nat}(hm:∀r∈A,RowN m r)(ht:t<A.length)(hi:i<A.length)(hk:k<m):((oth A c (A.getD t [])).getD i []).getD k 0=if ent A i c=1 then(ent A i k+ent A t k)%2 else ent A i k:=by
 unfold oth;rw[zFC (d:=[]) hi];have h1:=hm _ (zAM (d:=[]) hi);have h2:=hm _ (zAM (d:=[]) ht)
 show(if ent A i c=1 then _ else _:List Int).getD k 0=_
 split
 ·rw[zC5 _ _ k (by rw[h1.1,h2.1]) (by rw[h1.1];exact hk)];rfl
 ·rfl
theorem zSY{A:List (List Int)}{c t m:Nat}(hm:∀r∈A,RowN m r)(ht:t<A.length)(hc:c<=t)(hl:ent A t c=1)(hcm:c<m)(hu:zWB A c):zWB (clr A c t) (c+1):=by
 intro i k hi hk;rw[zHJ]at hi;have hk2:k<m:=by lia
 have e0:∀j,j<A.length->((oth A c (A.getD t [])).getD j []).getD k 0=if k=c then 0 else if j=k then 1 else 0:=by
  intro j hj;rw[zV2 hm ht hj hk2]
  by_cases hkc:k=c
  ·subst hkc;have hb:=zHC (k:=k) hm hj hk2;rw[if_pos rfl]
   split
   ·rename_i h;rw[h,hl];rfl
   ·rename_i h
    rcases hb with hb|hb
    ·exact hb
    ·exact absurd hb h
  ·rw[if_neg hkc];have h1:=hu j k hj (by lia);have h2:=hu t k ht (by lia);rw[if_neg (by lia)]at h2;rw[h1,h2]
   split<;>split<;>rfl
 unfold ent;rw[zJE ht hc i hi]
 by_cases h1:c=i
 ·subst h1;rw[if_pos rfl]
  by_cases hkc:c=k
  ·subst hkc;rw[if_pos rfl];exact hl
  ·rw[if_neg hkc]
   have:=hu t k ht (by lia)
   rw[if_neg (by lia)]at this;exact this
 ·rw[if_neg h1]
  by_cases h2:t=i
  ·subst h2;rw[if_pos rfl,e0 c (by lia)]
   by_cases hkc:k=c
   ·subst hkc;rw[if_pos rfl,if_neg (fun z=>h1 z.symm)]
   ·rw[if_neg hkc,if_neg (fun z=>hkc z.symm),if_neg (by lia)]
  ·rw[if_neg h2,e0 i hi]
   by_cases hkc:k=c
   ·subst hkc;rw[if_pos rfl,if_neg (fun z=>h1 z.symm)]
   ·rw[if_neg hkc]
theorem zAX(n:Nat)(f:Nat->Int):sumN (n+1) f=sumN n f+f n:=by
 unfold sumN;rw[qFf,qBv,List.sum_append];simp
theorem zBD{n:Nat}{f:Nat->Int}(h:∀k,k<n->f k=0):sumN n f=0:=by
 induction n with
 |zero=>rfl
 |succ n ih=>rw[zAX,ih fun k hk=>h k (by lia),h n (by lia)];rfl
theorem zCH{n:Nat}{f:Nat->Int}{j:Nat}(hj:j<n)(h:∀k,k<n->k≠j->f k=0):sumN n f=f j:=by
 induction n with
 |zero=>lia
 |succ n ih=>
  rw[zAX]
  by_cases z:j=n
  ·subst z;rw[zBD fun k hk=>h k (by lia) (by lia)];lia
  ·rw[ih (by lia) fun k hk=>h k (by lia),h n (by lia) (fun y=>z y.symm)];lia
theorem zRA{n:Nat}{f:Nat->Int}{i j:Nat}(hi:i<j)(hj:j<n)(h:∀k,k<n->k≠i->k≠j->f k=0):sumN n f=f i+f j:=by
 induction n with
 |zero=>lia
 |succ n ih=>
  rw[zAX]
  by_cases z:j=n
  ·subst z;rw[zCH hi fun k hk hki=>h k (by lia) hki (by lia)]
  ·rw[ih (by lia) fun k hk=>h k (by lia),h n (by lia) (by lia) (fun y=>z y.symm)];lia
theorem zNL(n:Nat)(f:Nat->Int):sumN (n+1) f=f 0+sumN n fun k=>f (k+1):=by
 induction n with
 |zero=>simp[sumN]
 |succ n ih=>rw[zAX,ih,zAX];lia
theorem zD3:∀(r x:List Int)(m:Nat),x.length<=m->dot r x=sumN m fun k=>r.getD k 0*x.getD k 0
 |[],x,m,_=>by rw[zBD fun k _=>by simp];rfl
 |a::r,[],m,_=>by rw[zBD fun k _=>by simp];rfl
 |a::r,b::x,0,h=>by simp at h
 |a::r,b::x,m+1,h=>by
  rw[dot,zD3 r x m (by simpa using h),zNL];simp
theorem zHE:∀(r x:List Int)(p:Nat)(v:Int),p<x.length->dot r (x.set p v)=dot r x+r.getD p 0*(v-x.getD p 0)
 |[],x,p,v,_=>by simp[dot]
 |a::r,[],p,v,h=>by simp at h
 |a::r,b::x,0,v,_=>by
  simp[dot];rw[qGq]
  lia
 |a::r,b::x,p+1,v,h=>by
  have:=zHE r x p v (by simpa using h)
  simp[dot]at this ⊢;rw[this]
  lia
theorem zJD:∀(a b u v:List Int),a.length=u.length->dot (a++b) (u++v)=dot a u+dot b v
 |[],b,[],v,_=>by simp[dot]
 |[],b,_::_,v,h=>by simp at h
 |_::_,b,[],v,h=>by simp at h
 |a::r,b,c::u,v,h=>by
  have:=zJD r b u v (by simpa using h)
  simp[dot,this]
  lia
theorem zW0(r:List Int):dot r []=0:=by cases r<;>rfl
theorem zLG{n p:Nat}{x:List Int}{v:Int}(hx:RowN n x)(hv:Bit v):RowN n (x.set p v):=
 ⟨by simp[hx.1],fun y hy=>(qAz hy).elim (hx.2 y) fun z=>z▸hv⟩
theorem zBL{n k:Nat}{x:List Int}(hx:RowN n x):Bit (x.getD k 0):=by
 by_cases h:k<x.length
 ·exact hx.2 _ (zAM h)
 ·left;simp[qA0,qBq (by lia:x.length<=k)]
structure Rk(n:Nat)(T A:List (List Int))(p q:Nat):Prop where
 rows:∀r∈A,RowN n r
 zero:∀r∈A,∀k,k<p->r.getD k 0=0
 le:q<=p
 all:q=p->∀x,RowN n x->Ker T x->Ker A x/\((∀j,p<=j->x.getD j 0=0)->∀j,x.getD j 0=0)
 some:q<p->∃x,RowN n x/\Ker T x/\∃j,j<n/\x.getD j 0=1
 lift:∀x,RowN n x->Ker A x->∃y,RowN n y/\Ker T y/\∀j,p<=j->y.getD j 0=x.getD j 0
theorem Rk.start{n:Nat}{T:List (List Int)}(h:∀r∈T,RowN n r):Rk n T T 0 0:=
 ⟨h,fun _ _ k hk=>by lia,qA5 _,fun _ x _ hk=>⟨hk,fun hz j=>hz j (qAt _)⟩,fun z=>by lia,fun x hx hk=>⟨x,hx,hk,fun _ _=>rfl⟩⟩
theorem Rk.miss{n p q:Nat}{T A:List (List Int)}(a:Rk n T A p q)(hp:p<n)(h:∀r∈A,r.getD p 0≠1):Rk n T A (p+1) q:=by
 have h0:∀r∈A,r.getD p 0=0:=fun r hr=>(zBL (k:=p) (a.rows r hr)).elim (fun z=>z) fun z=>absurd z (h r hr)
 refine⟨a.rows,fun r hr k hk=>?_,by have:=a.le;lia,fun z=>by have:=a.le;lia,fun _=>?_,fun x hx hk=>?_⟩
 ·by_cases z:k=p
  ·subst z;exact h0 r hr
  ·exact a.zero r hr k (by lia)
 ·let x:List Int:=(qA9 n 0).set p 1
  have hx:RowN n x:=zLG ⟨by simp,fun y hy=>.inl (qDa hy)⟩ (.inr rfl);obtain⟨y,y1,y2,y3⟩:=a.lift x hx fun r hr=>by
   show dot r ((qA9 n 0).set p 1)%2=0;rw[zHE r _ p 1 (by simp[hp]),h0 r hr,zD3 r (qA9 n 0) n (by simp),zBD fun k hk=>by simp[hk]];simp
  refine⟨y,y1,y2,p,hp,?_⟩;rw[y3 p (qA5 _)]
  show((qA9 n 0).set p 1).getD p 0=(1:Int)
  rw[zFB (by simp[hp]),if_pos rfl]
 ·obtain⟨y,y1,y2,y3⟩:=a.lift x hx hk;exact⟨y,y1,y2,fun j hj=>y3 j (by lia)⟩
def zHT(A:List (List Int))(p:Nat):List (List Int):=
 (A.filter fun r=>decide (r.getD p 0=0))++(((A.filter fun r=>decide (r.getD p 0=1)).drop 1).map fun r=>addB r ((A.filter fun r=>decide (r.getD p 0=1)).getD 0 []))
theorem Rk.hit{n p q:Nat}{T A:List (List Int)}(a:Rk n T A p q)(hp:p<n)(h:∃r∈A,r.getD p 0=1):Rk n T (zHT A p) (p+1) (q+1):=by
 obtain⟨s,l,hs⟩:∃s l,(A.filter fun r=>decide (r.getD p 0=1))=s::l:=by
  cases e:A.filter fun r=>decide (r.getD p 0=1)with
  |nil=>
   obtain⟨r,hr,h1⟩:=h
   have:r∈A.filter fun r=>decide (r.getD p 0=1):=qAg.mpr ⟨hr,by simpa using h1⟩
   rw[e]at this;simp at this
  |cons s l=>exact⟨s,l,rfl⟩
 have hsl:∀r,r∈s::l->r∈A/\r.getD p 0=1:=fun r hr=>by
  rw[<- hs]at hr
  have:=qAg.mp hr
  exact⟨this.1,by simpa using this.2⟩
 have hn:zHT A p=(A.filter fun r=>decide (r.getD p 0=0))++l.map fun r=>addB r s:=by
  unfold zHT;rw[hs];rfl
 have hsA:=(hsl s (by simp)).1;have hs1:=(hsl s (by simp)).2;have hsr:=a.rows s hsA;have hmem:∀r,r∈zHT A p->(r∈A/\r.getD p 0=0)\/∃t∈l,r=addB t s:=fun r hr=>by
  rw[hn]at hr
  rcases qAs.mp hr with hr|hr
  ·have:=qAg.mp hr
   exact .inl ⟨this.1,by simpa using this.2⟩
  ·obtain⟨t,ht,rfl⟩:=qAl.mp hr;exact .inr ⟨t,ht,rfl⟩
 refine⟨fun r hr=>?_,fun r hr k hk=>?_,by have:=a.le;lia,fun z x hx hT=>?_,fun z=>a.some (by lia),fun x hx hk=>?_⟩
 ·rcases hmem r hr with⟨h1,_⟩|⟨t,ht,rfl⟩
  ·exact a.rows r h1
  ·exact zEP (a.rows t (hsl t (by simp[ht])).1) hsr
 ·rcases hmem r hr with⟨h1,h2⟩|⟨t,ht,rfl⟩
  ·by_cases z:k=p
   ·subst z;exact h2
   ·exact a.zero r h1 k (by lia)
  ·have ht':=hsl t (by simp[ht]);have htr:=a.rows t ht'.1;rw[zC5 _ _ k (by rw[htr.1,hsr.1]) (by rw[htr.1];lia)]
   by_cases z:k=p
   ·subst z;rw[ht'.2,hs1];rfl
   ·rw[a.zero t ht'.1 k (by lia),a.zero s hsA k (by lia)];rfl
 ·obtain⟨kA,k2⟩:=a.all (by lia) x hx hT;refine⟨fun r hr=>?_,fun hz=>k2 fun j hj=>?_⟩
  ·rcases hmem r hr with⟨h1,_⟩|⟨t,ht,rfl⟩
   ·exact kA r h1
   ·have ht':=hsl t (by simp[ht]);have htr:=a.rows t ht'.1;have e1:=kA t ht'.1;have e2:=kA s hsA;rw[zFT _ _ x (by rw[htr.1,hsr.1]) hx.2]
    lia
  ·by_cases z:j=p
   ·subst z;have e2:=kA s hsA;rw[zD3 s x n (by rw[hx.1];exact qA5 _),zCH hp fun k hk hkj=>?_,hs1]at e2
    ·have:=zBL (k:=j) hx
     rcases this with w|w
     ·exact w
     ·rw[w]at e2;simp at e2
    ·by_cases w:k<j
     ·rw[a.zero s hsA k w];simp
     ·rw[hz k (by lia)];simp
   ·exact hz j (by lia)
 ·
  let v:Int:=dot s (x.set p 0)%2
  have hv:Bit v:=zF2 _;have hy:RowN n (x.set p v):=zLG hx hv;have hpx:p<x.length:=by rw[hx.1];exact hp
  have free:∀r:List Int,r.getD p 0=0->dot r (x.set p v)=dot r x:=fun r hr=>by
   rw[zHE r x p v hpx,hr];simp
  have es:dot s (x.set p v)%2=0:=by
   have g0:=zHE s x p 0 hpx;have g1:=zHE s x p v hpx;rw[hs1]at g0 g1
   have:v=dot s (x.set p 0)%2:=rfl
   lia
  have kA:Ker A (x.set p v):=fun r hr=>by
   by_cases h0:r.getD p 0=0
   ·rw[free r h0];refine hk r ?_;rw[hn];exact qB8 _ (qAg.mpr ⟨hr,by simpa using h0⟩)
   ·have h1:r.getD p 0=1:=(zBL (k:=p) (a.rows r hr)).elim (fun z=>absurd z h0) fun z=>z
    have hr2:r∈s::l:=by rw[<- hs];exact qAg.mpr ⟨hr,by simpa using h1⟩
    rcases qAh.mp hr2 with rfl|hr2
    ·exact es
    ·have htr:=a.rows r hr;have e1:dot (addB r s) x%2=0:=hk _ (by rw[hn];exact qAn _ (qAl.mpr ⟨r,hr2,rfl⟩));have e2:(addB r s).getD p 0=0:=by rw[zC5 _ _ p (by rw[htr.1,hsr.1]) (by rw[htr.1];exact hp),h1,hs1];rfl
     rw[<- free _ e2,zFT _ _ _ (by rw[htr.1,hsr.1]) hy.2]at e1
     lia
  obtain⟨y,y1,y2,y3⟩:=a.lift _ hy kA;refine⟨y,y1,y2,fun j hj=>?_⟩;rw[y3 j (by lia),zFB hpx,if_neg (by lia)]
end Mp
namespace Mp
open Mi PySem
theorem zDN{r:Ro}{i n:Nat}{vs:List Nat}{e:EM}{d:Dt}{P:Ro->Prop}(h1:e (full r)=okR d)(h2:e (frz (frzAt vs r))=okR d)(p1:P (r.set i (some (d,n))))(p2:P ((frzAt vs r).set i (some (d,n)))):nxR (sSet i n vs e r) P:=by
 unfold sSet;rw[h1,zA0]
 split
 ·exact p1
 ·rw[h2,zA0];exact p2
theorem zBA{ρ:Rh}{c:TM}{e:EM}{i:Nat}{β:Type}(en:β->Dt)(g:β->Dt)(f:β->Bool)(ns:List β)(hi:i=ρ.length)(hc:∀k,k∈ns->c (ρ++[some (en k)])=okR (f k))(h:∀k,k∈ns->f k=true->e (ρ++[some (en k)])=okR (g k))(it:IM)(hit:it ρ=okR (ns.map en))(hn:ns.length<=100000):eComp it 1 (.one i) c e ρ=okR (.lst ((ns.filter f).map g)):=by
 subst hi;unfold eComp;rw[hit,zA0,if_pos ⟨by simpa using hn,by simp[Tg.idx]⟩];have go:∀(l:List β)(acc:List Dt),(∀k∈l,k∈ns)->compGo ρ 1 (.one ρ.length) c e (l.map en) acc=okR (acc++(l.filter f).map g):=by
  intro l
  induction l with
  |nil=>intro acc _;simp[compGo]
  |cons a r ih=>
   intro acc hl;have h1:=hc a (hl a (by simp));have h2:=h a (hl a (by simp));have ih':=fun acc=>ih acc fun k hk=>hl k (by simp[hk])
   have es:zAT (ρ++qA9 1 none) [(ρ.length,en a)]=ρ++[some (en a)]:=by
    simp[zAT]
   rw[qAm,compGo];show zA3 (c (zAT (ρ++qA9 1 none) [(ρ.length,en a)])) _=_;rw[es,h1,zA0];cases hf:f a with
   |true=>
    rw[if_pos rfl];rw[h2 hf,zA0,ih',List.filter_cons_of_pos hf];simp
   |false=>
    rw[if_neg (by simp),ih',List.filter_cons_of_neg (by simp[hf])]
 rw[go _ _ fun k hk=>hk,zA0];simp
theorem zDG{n:Nat}{a:List Int}(h:a.length=n):a=(qA4 n).map fun j=>a.getD j 0:=by
 apply qCo
 ·simp[h]
 ·intro i h1 h2;simp[qA0,qA7 h1]
theorem zIH{n:Nat}{a b:List Int}(h:a.length=n)(h':b.length=n):addB a b=(qA4 n).map fun j=>(a.getD j 0+b.getD j 0)%2:=by
 rw[zDG (n:=n) (a:=addB a b) (by rw[zJL a b (by lia),h])];exact qB3 fun j hj=>zC5 a b j (by lia) (by simp at hj;lia)
theorem zS6{n:Nat}{a b:List Int}(h:a.length=n)(h':b.length=n)(hn:n<=10):zAV [rowD a,rowD b]=okR (rowD (addB a b)):=by
 have:=zFA n (fun j=>a.getD j 0) (fun j=>b.getD j 0) hn
 rw[<- zDG h,<- zDG h',<- zIH h h']at this;exact this
theorem addM(A B:List (List Int))(h:A.length+B.length<=100000):addD (mat A) (mat B)=some (mat (A++B)):=by
 show(@ite _ ((A.map rowD).length+(B.map rowD).length<=100000) (qA3 _) (some (Dt.lst (A.map rowD++B.map rowD))) none)=_
 rw[if_pos (by simpa using h)];unfold mat;simp
theorem zKA(A:List (List Int))(p:Nat):(zHT A p).length<=A.length:=by
 unfold zHT;rw[qB0,qAi,qDh]
 have:(A.filter fun r=>decide (r.getD p 0=0)).length+(A.filter fun r=>decide (r.getD p 0=1)).length<=A.length:=by
  induction A with
  |nil=>simp
  |cons a r ih=>
   rw[qCa,qCa]
   by_cases h0:a.getD p 0=0
   ·have h1:¬a.getD p 0=1:=by lia
    simp only[h0,h1,decide_true,decide_false,if_true,qAo];simp[-qA0]
    lia
   ·by_cases h1:a.getD p 0=1
    ·simp only[h0,h1,decide_true,decide_false,if_true,qAo];simp[-qA0]
     lia
    ·simp only[h0,h1,decide_true,decide_false,qAo];simp[-qA0]
     lia
 lia
def RkS(n:Nat)(T:List (List Int))(k:Nat)(r:Ro):Prop:=∃A q l1 l2 o3 o4 o5,r=[some (mat T,0),some (mat A,l1),some (.int (q:Nat),l2),o3,o4,o5]/\Rk n T A k q/\A.length<=n/\l2<=1
theorem zMN(n:Nat)(T:List (List Int))(hT:T.length=n)(hr:∀r∈T,RowN n r)(hn:n<=10):∃q:Nat,zCG [mat T]=okR (.int (q:Int))/\∃A,Rk n T A n q:=by
 suffices h:∃q:Nat,zF3 [some (mat T,0),none,none,none,none,none]=okR (.rt (.int (q:Int)))/\∃A,Rk n T A n q by
  obtain⟨q,h1,h2⟩:=h;exact⟨q,zC9 rfl h1,h2⟩
 have hc:eComp (iSq (eV 0)) 1 (.one 6) Mi.tYes (eBi listD (aCons (eV 6) aNil)) [some (mat T),none,none,none,none,none]=okR (mat T):=
  zBX rowD rowD T rfl rfl (fun r _=>by simp) _ (by simp[mat]) (by lia)
 have hdT:=zC1 T
 suffices hl:∃q:Nat,∃A l1 l2 o3 o4 o5,Rk n T A n q/\l2<=1/\forGo (.one 3) (sSeq (sSet 4 1 [1,3] (eComp (iSq (eV 1)) 1 (.one 6) (tB (eB eqD (eB ixD (eV 6) (eV 3)) (eC (.int 1)))) (eV 6)))
 (sIf (tB (eB (cmpD fun i j=>decide (j<i)) (eBi lenD (aCons (eV 4) aNil)) (eC (.int 0)))) (sSeq (sSet 2 1 [2] (eB addD (eV 2) (eC (.int 1))))
 (sSeq (sSet 5 1 [1,3] (eComp (iSq (eV 1)) 1 (.one 6) (tB (eB eqD (eB ixD (eV 6) (eV 3)) (eC (.int 0)))) (eV 6)))
 (sSet 1 1 [5,4] (eB addD (eV 5) (eComp (iSq (eSl (eV 4) (oE (eC (.int 1))) oNo)) 1 (.one 6) Mi.tYes (eCall zAV (aCons (eV 6) (aCons (eB ixD (eV 4) (eC (.int 0))) aNil)))))))) sNil)) (nums 0 n) [some (mat T,0),some (mat T,2),some (.int 0,0),none,none,none]=okR (.nx [some (mat T,0),some (mat A,l1),some (.int (q:Int),l2),o3,o4,o5]) by
  obtain⟨q,A,l1,l2,o3,o4,o5,h1,h3,h2⟩:=hl;refine⟨q,?_,A,h1⟩;unfold zF3;refine zCW fun bb hb=>?_
  simp[hc,hdT];subst hb;refine zCW fun bb hb=>?_
  simp;subst hb;refine zCW fun bb hb=>?_
  simp only[zCT];rw[zCL (n:=n) (by simp[hT]) (by lia),zA0,h2];subst hb;show sRetV 1 2 _=_;simp[sRetV]
  lia
 have body:∀k,k<n->∀r,RkS n T k r->nxR ((sSeq (sSet 4 1 [1,3] (eComp (iSq (eV 1)) 1 (.one 6) (tB (eB eqD (eB ixD (eV 6) (eV 3)) (eC (.int 1)))) (eV 6)))
 (sIf (tB (eB (cmpD fun i j=>decide (j<i)) (eBi lenD (aCons (eV 4) aNil)) (eC (.int 0)))) (sSeq (sSet 2 1 [2] (eB addD (eV 2) (eC (.int 1))))
 (sSeq (sSet 5 1 [1,3] (eComp (iSq (eV 1)) 1 (.one 6) (tB (eB eqD (eB ixD (eV 6) (eV 3)) (eC (.int 0)))) (eV 6)))
 (sSet 1 1 [5,4] (eB addD (eV 5) (eComp (iSq (eSl (eV 4) (oE (eC (.int 1))) oNo)) 1 (.one 6) Mi.tYes (eCall zAV (aCons (eV 6) (aCons (eB ixD (eV 4) (eC (.int 0))) aNil)))))))) sNil)) (r.set 3 (some (.int (k:Nat),0)))) (RkS n T (k+1)):=by
  rintro k hk r ⟨A,q,l1,l2,o3,o4,o5,rfl,ha,hlA,hl2⟩
  have hcf:∀(v:Int)(o0 o2 o4 o5:Option Dt),eComp (iSq (eV 1)) 1 (.one 6) (tB (eB eqD (eB ixD (eV 6) (eV 3)) (eC (.int v)))) (eV 6) [o0,some (mat A),o2,some (.int (k:Nat)),o4,o5]=okR (mat (A.filter fun r=>decide (r.getD k 0=v))):=by
   intro v o0 o2 o4 o5;refine zBA rowD rowD (fun r=>decide (r.getD k 0=v)) A rfl (fun r hr=>?_) (fun r hr _=>by simp) _ (by simp[mat]) (by lia);have i1:=zHU r k (by rw[(ha.rows r hr).1];exact hk);simp[i1]
  refine zCV fun bb hb=>?_
  have fin:∀l1 l2 o4 o5,l2<=1->nxR (sIf (tB (eB (cmpD fun i j=>decide (j<i)) (eBi lenD (aCons (eV 4) aNil)) (eC (.int 0)))) (sSeq (sSet 2 1 [2] (eB addD (eV 2) (eC (.int 1))))
 (sSeq (sSet 5 1 [1,3] (eComp (iSq (eV 1)) 1 (.one 6) (tB (eB eqD (eB ixD (eV 6) (eV 3)) (eC (.int 0)))) (eV 6)))
 (sSet 1 1 [5,4] (eB addD (eV 5) (eComp (iSq (eSl (eV 4) (oE (eC (.int 1))) oNo)) 1 (.one 6) Mi.tYes (eCall zAV (aCons (eV 6) (aCons (eB ixD (eV 4) (eC (.int 0))) aNil)))))))) sNil [some (mat T,0),some (mat A,l1),some (.int (q:Nat),l2),some (.int (k:Nat),0),some (mat (A.filter fun r=>decide (r.getD k 0=1)),o4),o5]) (RkS n T (k+1)):=by
   intro l1 l2 l4 o5 hl2
   by_cases h:0<(A.filter fun r=>decide (r.getD k 0=1)).length
   ·have hex:∃r∈A,r.getD k 0=1:=by
     obtain⟨r,hr⟩:=List.exists_mem_of_length_pos h
     have:=qAg.mp hr
     exact⟨r,this.1,by simpa[-qA0]using this.2⟩
    rw[zE3,show tB (eB (cmpD fun i j=>decide (j<i)) (eBi lenD (aCons (eV 4) aNil)) (eC (.int 0))) (full [some (mat T,0),some (mat A,l1),some (.int (q:Nat),l2),some (.int (k:Nat),0),some (mat (A.filter fun r=>decide (r.getD k 0=1)),l4),o5])=okR true by simp[-qA0,h],zA0,if_pos rfl];refine zCV fun bb hb=>?_
    simp;subst hb;refine zCV fun bb hb=>?_
    have fin2:∀l1 l4,nxR (sSet 1 1 [5,4] (eB addD (eV 5) (eComp (iSq (eSl (eV 4) (oE (eC (.int 1))) oNo)) 1 (.one 6) Mi.tYes (eCall zAV (aCons (eV 6) (aCons (eB ixD (eV 4) (eC (.int 0))) aNil))))) [some (mat T,0),some (mat A,l1),some (.int ((q:Int)+1),1),some (.int (k:Nat),0),some (mat (A.filter fun r=>decide (r.getD k 0=1)),l4),some (mat (A.filter fun r=>decide (r.getD k 0=0)),1)]) (RkS n T (k+1)):=by
     intro l1 l4;have hlf:(A.filter fun r=>decide (r.getD k 0=1)).length<=A.length:=qB5 _ _;have hlf0:(A.filter fun r=>decide (r.getD k 0=0)).length<=A.length:=qB5 _ _;have e:∀(o0 o1 o2 o3:Option Dt),eB addD (eV 5) (eComp (iSq (eSl (eV 4) (oE (eC (.int 1))) oNo)) 1 (.one 6) Mi.tYes (eCall zAV (aCons (eV 6) (aCons (eB ixD (eV 4) (eC (.int 0))) aNil)))) [o0,o1,o2,o3,some (mat (A.filter fun r=>decide (r.getD k 0=1))),some (mat (A.filter fun r=>decide (r.getD k 0=0)))]=okR (mat (zHT A k)):=by
      intro o0 o1 o2 o3;have hcc:eComp (iSq (eSl (eV 4) (oE (eC (.int 1))) oNo)) 1 (.one 6) Mi.tYes (eCall zAV (aCons (eV 6) (aCons (eB ixD (eV 4) (eC (.int 0))) aNil))) [o0,o1,o2,o3,some (mat (A.filter fun r=>decide (r.getD k 0=1))),some (mat (A.filter fun r=>decide (r.getD k 0=0)))]=okR (mat (((A.filter fun r=>decide (r.getD k 0=1)).drop 1).map fun r=>addB r ((A.filter fun r=>decide (r.getD k 0=1)).getD 0 []))):=by
       have hin:∀r∈A.filter fun r=>decide (r.getD k 0=1),RowN n r:=fun r hr=>ha.rows r (qAg.mp hr).1
       have h0:=hin _ (zAM (d:=[]) h);have i0:=zPU (A.filter fun r=>decide (r.getD k 0=1)) 0 h;have hsl:slD (mat (A.filter fun r=>decide (r.getD k 0=1))) (some 1) none=some (mat ((A.filter fun r=>decide (r.getD k 0=1)).drop 1)):=by rw[zW4];exact congrArg (fun z=>some (mat z)) (zN4 _ 1)
       generalize(A.filter fun r=>decide (r.getD k 0=1))=S at *
       refine qE3 (zBX (i:=6) rowD (fun r=>rowD (addB r (S.getD 0 []))) (S.drop 1) rfl rfl (fun r hr=>?_) _ ?_ (by simp[-qA0];lia)) ?_
       rotate_left 2
       ·unfold mat;rw[qAw];rfl
       ·have h1:=hin r (qE5 hr);have i0':ixD (mat S) (.int 0)=some (rowD (S.getD 0 [])):=i0
        have:=zS6 h1.1 h0.1 hn
        simp[-qA0,i0',this]
       ·simp[hsl];show okR (S.tail.map rowD)=_;rw[List.map_tail]
      have:=addM (A.filter fun r=>decide (r.getD k 0=0)) (((A.filter fun r=>decide (r.getD k 0=1)).drop 1).map fun r=>addB r ((A.filter fun r=>decide (r.getD k 0=1)).getD 0 [])) (by simp[-qA0];lia)
      show zA3 (okR _) (fun x=>zA3 (eComp _ _ _ _ _ _) fun y=>optR (addD x y))=_;rw[hcc,zA0,zA0,this];rfl
     refine zDN (d:=mat (zHT A k)) (e _ _ _ _) (by simp;exact e _ _ _ _) ?_ ?_
     ·exact⟨zHT A k,q+1,_,_,_,_,_,rfl,ha.hit hk hex,by have:=zKA A k;lia,qA5 _⟩
     ·exact⟨zHT A k,q+1,_,_,_,_,_,rfl,ha.hit hk hex,by have:=zKA A k;lia,qA5 _⟩
    refine zDN (d:=mat (A.filter fun r=>decide (r.getD k 0=0))) ?_ ?_ ?_ ?_
    ·exact hcf 0 _ _ _ _
    ·simp;exact hcf 0 _ _ _ _
    ·subst hb;exact fin2 _ _
    ·subst hb;exact fin2 _ _
   ·have hex:∀r∈A,r.getD k 0≠1:=fun r hr h1=>h (qDp (qAg.mpr ⟨hr,by simpa[-qA0]using h1⟩))
    rw[zE3,show tB (eB (cmpD fun i j=>decide (j<i)) (eBi lenD (aCons (eV 4) aNil)) (eC (.int 0))) (full [some (mat T,0),some (mat A,l1),some (.int (q:Nat),l2),some (.int (k:Nat),0),some (mat (A.filter fun r=>decide (r.getD k 0=1)),l4),o5])=okR false by simp[-qA0,h],zA0,if_neg (by simp[-qA0])];exact⟨A,q,_,_,_,_,_,rfl,ha.miss hk hex,hlA,hl2⟩
  refine zDN (d:=mat (A.filter fun r=>decide (r.getD k 0=1))) ?_ ?_ ?_ ?_
  ·exact hcf 1 _ _ _ _
  ·simp;exact hcf 1 _ _ _ _
  ·subst hb;exact fin _ _ _ _ hl2
  ·subst hb;exact fin _ _ _ _ hl2
 obtain⟨r',h1,A,q,l1,l2,o3,o4,o5,rfl,h2,h3,h4⟩:=zDD (zJ0 (j:=3) (n:=n) (r:=[some (mat T,0),some (mat T,2),some (.int 0,0),none,none,none]) _ ⟨T,0,2,0,none,none,none,rfl,Rk.start hr,by lia,by lia⟩ body (X:=RkS n T n) fun r h=>h);exact⟨q,A,l1,l2,o3,o4,o5,h2,h4,h1⟩
noncomputable def zE4(n i:Nat):List Int:=(qA4 n).map fun j=>if j=i then 1 else 0
theorem zB8{n k:Nat}{g:Nat->Int}(h:k<n):((qA4 n).map g).getD k 0=g k:=by
 simp[qA0,h]
theorem zII(n i:Nat):RowN n (zE4 n i):=⟨by simp[zE4],fun x hx=>by
 obtain⟨k,_,rfl⟩:=qAl.mp hx;show Bit (if _ then 1 else 0)
 split<;>simp[Bit]⟩
theorem zSM{n i:Nat}{v:List Int}(hi:i<n)(hv:v.length=n):dot (zE4 n i) v=v.getD i 0:=by
 rw[zD3 _ v n (by lia),zCH hi fun k hk hki=>?_]
 ·rw[zE4,zB8 hi,if_pos rfl];simp
 ·rw[zE4,zB8 hk,if_neg hki];simp
def aug(n:Nat)(T:List (List Int)):List (List Int):=(qA4 n).map fun i=>T.getD i []++zE4 n i
theorem zW8{n:Nat}{T:List (List Int)}(hT:T.length=n)(hr:∀r∈T,RowN n r){u v:List Int}(hu:u.length=n)(hv:v.length=n):Ker (aug n T) (u++v)↔∀i,i<n->(dot (T.getD i []) u+v.getD i 0)%2=0:=by
 have key:∀i,i<n->dot (T.getD i []++zE4 n i) (u++v)=dot (T.getD i []) u+v.getD i 0:=fun i hi=>by
  rw[zJD _ _ _ _ (by rw[(hr _ (zAM (by lia))).1,hu]),zSM hi hv]
 constructor
 ·intro h i hi;rw[<- key i hi];exact h _ (qAl.mpr ⟨i,by simpa using hi,rfl⟩)
 ·intro h r hr;obtain⟨i,hi,rfl⟩:=qAl.mp hr;have hi':i<n:=by simpa using hi
  rw[key i hi'];exact h i hi'
theorem zT5{n:Nat}{T:List (List Int)}(hT:T.length=n)(hr:∀r∈T,RowN n r){u:List Int}(hu:u.length=n)(h:Ker (aug n T) u):Ker T u:=by
 intro r hrt;obtain⟨i,hi,rfl⟩:=zEK (d:=[]) hrt
 have:=h _ (qAl.mpr ⟨i,by simp;lia,rfl⟩)
 rw[<- qBu u,zJD _ _ _ _ (by rw[(hr _ (zAM hi)).1,hu]),zW0]at this
 simpa using this
structure Un(n:Nat)(T A:List (List Int))(c:Nat):Prop where
 len:A.length=n
 rows:∀r∈A,RowN (n+n) r
 unit:zWB A c
 ker:∀x,(∀y∈x,Bit y)->(Ker A x↔Ker (aug n T) x)
theorem Un.none{n c:Nat}{T A:List (List Int)}(a:Un n T A c)(hT:T.length=n)(hr:∀r∈T,RowN n r)(hc:c<n)(h:∀t,c<=t->t<n->ent A t c≠1):∃x,RowN n x/\Ker T x/\∃j,j<n/\x.getD j 0=1:=by
 let x:List Int:=(qA4 n).map fun k=>if k<c then ent A k c else if k=c then 1 else 0
 have hx:∀k,k<n->x.getD k 0=if k<c then ent A k c else if k=c then 1 else 0:=fun k hk=>zB8 hk
 have hl:=a.len;have hxr:RowN n x:=⟨by simp[x],fun y hy=>by
  obtain⟨k,hk,rfl⟩:=qAl.mp hy;have hk':k<n:=by simpa using hk
  show Bit (if k<c then ent A k c else if k=c then 1 else 0)
  split
  ·exact zHC a.rows (by lia) (by lia)
  ·split<;>simp[Bit]⟩
 refine⟨x,hxr,zT5 hT hr hxr.1 ((a.ker x hxr.2).mp fun r hrA=>?_),c,hc,by rw[hx c hc,if_neg (by lia),if_pos rfl]⟩;obtain⟨i,hi,rfl⟩:=zEK (d:=[]) hrA;rw[zD3 _ x n (by rw[hxr.1];exact qA5 _)]
 by_cases hic:i<c
 ·rw[zRA hic hc fun k hk h1 h2=>?_]
  ·rw[hx i (by lia),if_pos hic,hx c hc,if_neg (by lia),if_pos rfl]
   have:=a.unit i i hi hic
   rw[if_pos rfl]at this
   show(ent A i i*ent A i c+ent A i c*1)%2=0
   rw[this]
   lia
  ·rw[hx k hk]
   by_cases hkc:k<c
   ·have:=a.unit i k hi hkc
    rw[if_neg (fun z=>h1 z.symm)]at this;show ent A i k*_=0;rw[this];simp
   ·rw[if_neg hkc,if_neg h2];simp
 ·rw[zBD fun k hk=>?_]
  ·rfl
  ·rw[hx k hk]
   by_cases hkc:k<c
   ·have:=a.unit i k hi hkc
    rw[if_neg (by lia)]at this;show ent A i k*_=0;rw[this];simp
   ·rw[if_neg hkc]
    by_cases h2:k=c
    ·subst h2;have hb:=zHC (k:=k) a.rows hi (by lia)
     have:ent A i k=0:=hb.elim (fun z=>z) fun z=>absurd z (h i (by lia) (by lia))
     show ent A i k*_=0;rw[this];simp
    ·rw[if_neg h2];simp
theorem Un.full{n:Nat}{T A:List (List Int)}(a:Un n T A n)(hT:T.length=n)(hr:∀r∈T,RowN n r){u v:List Int}(hu:RowN n u)(hv:RowN n v) :
  (∀i,i<n->(dot (T.getD i []) u+v.getD i 0)%2=0)↔∀i,i<n->(u.getD i 0+dot ((A.map (qEn n)).getD i []) v)%2=0:=by
 have hl:=a.len;rw[<- zW8 hT hr hu.1 hv.1,<- a.ker (u++v) fun y hy=>(qAs.mp hy).elim (hu.2 y) (hv.2 y)];have key:∀i,i<n->dot (A.getD i []) (u++v)=u.getD i 0+dot ((A.map (qEn n)).getD i []) v:=fun i hi=>by
  have hrow:=a.rows _ (zAM (d:=[]) (i:=i) (by lia));rw[zFC (d:=[]) (by lia)]
  conv=>lhs;rw[<- List.take_append_drop n (A.getD i [])]
  rw[zJD _ _ _ _ (by rw[hu.1,qCn,hrow.1];lia)]
  congr 1
  rw[zD3 _ u n (by rw[hu.1];exact qA5 _)];have e:∀k,k<n->((A.getD i []).take n).getD k 0=if i=k then 1 else 0:=fun k hk=>by
   have:=a.unit i k (by lia) hk
   unfold ent at this;rw[<- this]
   generalize A.getD i []=row
   rw[qA0,qA0,qD7 hk]
  rw[zCH hi fun k hk hki=>by rw[e k hk,if_neg (fun z=>hki z.symm)];simp,e i hi,if_pos rfl];simp
 constructor
 ·intro h i hi;rw[<- key i hi];exact h _ (zAM (by lia))
 ·intro h r hrA;obtain⟨i,hi,rfl⟩:=zEK (d:=[]) hrA;rw[key i (by lia)];exact h i (by lia)
theorem Un.start{n:Nat}{T:List (List Int)}(hT:T.length=n)(hr:∀r∈T,RowN n r):Un n T (aug n T) 0:=by
 refine⟨by simp[aug],fun r hrA=>?_,fun i k _ hk=>by lia,fun _ _=>Iff.rfl⟩;obtain⟨i,hi,rfl⟩:=qAl.mp hrA;have h1:=hr _ (zAM (d:=[]) (i:=i) (by rw[hT];simpa using hi));have h2:=zII n i;exact⟨by rw[qB0,h1.1,h2.1],fun x hx=>(qAs.mp hx).elim (h1.2 x) (h2.2 x)⟩
theorem Un.step{n c t:Nat}{T A:List (List Int)}(a:Un n T A c)(hc:c<n)(ht:c<=t)(htn:t<n)(h:ent A t c=1):Un n T (clr A c t) (c+1):=by
 have hl:=a.len;exact⟨by rw[zHJ,a.len],zSZ a.rows (by lia) ht,zSY a.rows (by lia) ht h (by lia) a.unit,fun x hx=>(zW6 a.rows (by lia) ht x hx).trans (a.ker x hx)⟩
def eiR(x:R Out)(P:Ro->Prop)(Q:Dt->Prop):Prop:=(∃r,x=okR (.nx r)/\P r)\/∃d,x=okR (.rt d)/\Q d
theorem zD8{x:R Out}{P:Ro->Prop}{Q:Dt->Prop}(h:nxR x P):eiR x P Q:=.inl (zDD h)
theorem zZV{j n:Nat}{b:SM}{r:Ro}(Pv:Nat->Ro->Prop)(Q:Dt->Prop)(h:Pv 0 r)(hs:∀k,k<n->∀r,Pv k r->eiR (b (r.set j (some (.int (k:Nat),0)))) (Pv (k+1)) Q):eiR (forGo (.one j) b (nums 0 n) r) (Pv n) Q:=by
 have go:∀(m k:Nat)(r:Ro),k+m=n->Pv k r->eiR (forGo (.one j) b ((qGr k m).map fun i:Nat=>Dt.int (i:Int)) r) (Pv n) Q:=by
  intro m
  induction m with
  |zero=>intro k r hk hp;exact .inl ⟨r,rfl,by rw[<- hk];exact hp⟩
  |succ m ih=>
   intro k r hk hp;rw[qFc,qAm,forGo];show eiR (zA3 (b (r.set j (some (.int (k:Nat),0)))) _) _ _
   rcases hs k (by lia) r hp with⟨r',e,h'⟩|⟨d,e,hq⟩
   ·rw[e,zA0];exact ih (k+1) r' (by lia) h'
   ·rw[e,zA0];exact .inr ⟨d,rfl,hq⟩
 rw[zCJ,qE6];exact go n 0 r (by lia) h
theorem zBQ{a b:SM}{r:Ro}{P P':Ro->Prop}{Q:Dt->Prop}(h:eiR (a r) P Q)(hb:∀r',P r'->eiR (b r') P' Q):eiR (sSeq a b r) P' Q:=by
 unfold sSeq
 rcases h with⟨r',e,h'⟩|⟨d,e,hq⟩
 ·rw[e,zA0];exact hb r' h'
 ·rw[e,zA0];exact .inr ⟨d,rfl,hq⟩
theorem zL6{n:Nat}{a b:List Int}(h:RowN n a)(h':RowN n b)(hn:n<=1000):zFP [rowD a,rowD b]=okR (rowD (addB a b)):=by
 rw[zIH h.1 h'.1];unfold zFP zQV;have hc:eComp (iR1 (aCons (eBi lenD (aCons (eV 0) aNil)) aNil)) 1 (.one 2) Mi.tYes (eB xorD (eB ixD (eV 0) (eV 2)) (eB ixD (eV 1) (eV 2))) [some (rowD a),some (rowD b)]=okR (rowD ((qA4 n).map fun j=>(a.getD j 0+b.getD j 0)%2)):=by
  refine zN6 _ rfl (by lia) (zCL (by simp[-qA0,h.1]) (by lia)) fun j hj=>?_
  have i1:=zHU a j (by rw[h.1];exact hj);have i2:=zHU b j (by rw[h'.1];exact hj);simp[-qA0,i1,i2,zUC (zBL (k:=j) h) (zBL (k:=j) h')]
 simp[hc]
theorem zOG(n i:Nat)(hn:n<=1000):zDJ [.int (n:Int),.int (i:Int)]=okR (rowD (zE4 n i)):=by
 unfold zDJ zIE;have hc:eComp (iR1 (aCons (eV 0) aNil)) 1 (.one 2) Mi.tYes (eIf (tB (eB eqD (eV 2) (eV 1))) (eC (.int 1)) (eC (.int 0))) [some (.int (n:Int)),some (.int (i:Int))]=okR (rowD (zE4 n i)):=by
  refine zN6 _ rfl (by lia) (zCL (by simp) (by lia)) fun j hj=>?_
  by_cases h:j=i
  ·subst h;simp
  ·simp[h,show ¬(j:Int)=(i:Int) by lia]
 simp[hc]
theorem zKR{A:List (List Int)}{c t m:Nat}(hm:∀r∈A,RowN m r)(ht:t<A.length)(hc:c<=t)(hcm:c<m)(hz:m<=1000)(hA:A.length<=1000):zEC [mat A,.int (c:Int),.int (t:Int)]=okR (mat (clr A c t)):=by
 have hlr:=hm _ (zAM (d:=[]) ht);have hcomp:∀o2 o4:Option Dt,eComp (iSq (eV 0)) 1 (.one 5) Mi.tYes (eIf (tB (eB eqD (eB ixD (eV 5) (eV 1)) (eC (.int 1)))) (eCall zFP (aCons (eV 5) (aCons (eV 3) aNil))) (eV 5)) [some (mat A),some (.int (c:Int)),o2,some (rowD (A.getD t [])),o4]=okR (mat (oth A c (A.getD t []))):=by
  intro o2 o4;refine qE3 (zBX (i:=5) rowD (fun r=>rowD (if r.getD c 0=1 then addB r (A.getD t [])else r)) A rfl rfl (fun r hr=>?_) _ (by simp[mat]) (by lia)) ?_
  ·have h1:=hm r hr;have i1:=zHU r c (by rw[h1.1];exact hcm);have a1:=zL6 h1 hlr hz
   by_cases h:r.getD c 0=1
   ·rw[if_pos h];exact if1 (eqi (b2 rfl rfl i1) rfl (decide_eq_true h)) (c2 rfl rfl a1)
   ·rw[if_neg h];exact if0 (eqi (b2 rfl rfl i1) rfl (decide_eq_false h)) rfl
  ·unfold mat oth;rw[qAw];rfl
 have i0:=zPU A t ht;unfold zEC zL4;refine zC9 rfl (zCW fun bb hb=>?_);simp[startO,i0];subst hb;refine zCW fun bb hb=>?_
 have fin:∀l0 l1 l2 l3,bb [some (mat A,l0),some (.int (c:Int),l1),some (.int (t:Int),l2),some (rowD (A.getD t []),l3),some (mat (oth A c (A.getD t [])),1)]=okR (.rt (mat (clr A c t))):=by
  intro l0 l1 l2 l3;subst hb;have hol:=zGY A c (A.getD t []);have i1:itA ((oth A c (A.getD t [])).map rowD) (c:Int)=some (rowD ((oth A c (A.getD t [])).getD c [])):=zPU (oth A c (A.getD t [])) c (by lia);have q1:ixA (oth A c (A.getD t [])).length (t:Int)=some t:=by rw[zG1 (by lia) (by lia)];simp
  refine zCW fun bb hb=>?_
  refine zB7 (r:=[some (mat A,l0),some (.int (c:Int),l1),some (.int (t:Int),l2),some (rowD (A.getD t []),l3),some (mat ((oth A c (A.getD t [])).set t ((oth A c (A.getD t [])).getD c [])),1)]) ?_ ?_
  ·unfold sItemS;simp only[low,mat,qBk,qBl,qEo,qEp];simp[-qA0,i1,q1]
  subst hb;refine zCW fun bb hb=>?_
  have q2:ixA (oth A c (A.getD t [])).length (c:Int)=some c:=by rw[zG1 (by lia) (by lia)];simp[-qA0]
  refine zB7 (r:=[some (mat A,l0),some (.int (c:Int),l1),some (.int (t:Int),l2),some (rowD (A.getD t []),0),some (mat (clr A c t),1)]) ?_ ?_
  ·unfold sItemF;simp only[low,mat,qBk,qBl,qEo,qEp];simp[-qA0,q2,clr]
  subst hb;simp[sRetV]
 exact zDN (hcomp _ _) (by simp;exact hcomp _ _) (fin _ _ _ _) (fin _ _ _ _)
def UnD(n:Nat)(T:List (List Int))(d:Dt):Prop:=
 (d=.non/\∃x,RowN n x/\Ker T x/\∃j,j<n/\x.getD j 0=1)\/∃R,d=mat R/\R.length=n/\(∀r∈R,RowN n r)/\∀u v,RowN n u->RowN n v->((∀i,i<n->(dot (T.getD i []) u+v.getD i 0)%2=0)↔∀i,i<n->(u.getD i 0+dot (R.getD i []) v)%2=0)
def UnS(n:Nat)(T:List (List Int))(c:Nat)(r:Ro):Prop:=∃A l0 l2 o3 o4,r=[some (mat T,l0),some (.int (n:Int),0),some (mat A,l2),o3,o4]/\Un n T A c
theorem zJO(n:Nat)(T:List (List Int))(hT:T.length=n)(hr:∀r∈T,RowN n r)(hn:n<=10):∃d,zE9 [mat T]=okR d/\UnD n T d:=by
 suffices h:eiR (zHL [some (mat T,0),none,none,none,none]) (fun _=>False) (UnD n T) by
  rcases h with⟨_,_,z⟩|⟨d,h1,h2⟩
  ·exact z.elim
  ·exact⟨d,zC9 rfl h1,h2⟩
 have hlT:lenD [mat T]=some (.int (n:Int)):=by unfold mat;simp[hT]
 unfold zHL;refine zBQ (P:=fun r=>r=[some (mat T,0),some (.int (n:Int),0),none,none,none]) (zD8 (zB7 (ss (bi1 rfl hlT) (qAt 0)) rfl)) ?_
 rintro r rfl
 refine zBQ (P:=UnS n T 0) (zD8 ?_) ?_
 ·have hc:∀o2 o3 o4:Option Dt,eComp (iR1 (aCons (eV 1) aNil)) 1 (.one 5) Mi.tYes (eB addD (eB ixD (eV 0) (eV 5)) (eCall zDJ (aCons (eV 1) (aCons (eV 5) aNil)))) [some (mat T),some (.int (n:Int)),o2,o3,o4]=okR (mat (aug n T)):=by
   intro o2 o3 o4;refine qE3 (zCS (fun i=>rowD (T.getD i []++zE4 n i)) n rfl rfl (fun i hi=>?_) _ (zCL (al0 rfl) (by lia)) (by lia)) ?_
   ·have i0:=zPU T i (by lia);have u0:=zOG n i (by lia);have a0:=addR (T.getD i []) (zE4 n i) (by rw[(hr _ (zAM (by lia))).1,(zII n i).1];lia);exact b2 (b2 rfl rfl i0) (c2 rfl rfl u0) a0
   ·unfold mat aug;rw[qAw];rfl
  exact zDN (hc _ _ _) (hc _ _ _) ⟨aug n T,_,_,_,_,rfl,Un.start hT hr⟩ ⟨aug n T,_,_,_,_,rfl,Un.start hT hr⟩
 intro r hr0;refine zBQ (P:=UnS n T n) ?_ ?_
 ·obtain⟨A,l0,l2,o3,o4,rfl,ha⟩:=hr0;rw[zCT];rw[zCL (n:=n) (al0 rfl) (by lia),zA0];refine zZV (UnS n T) (UnD n T) ⟨A,l0,l2,o3,o4,rfl,ha⟩ ?_
  rintro c hc r ⟨A,l0,l2,o3,o4,rfl,ha⟩
  have hlA:=ha.len
  let ls:List Nat:=((qA4 (n-c)).map fun k=>c+k).filter fun t=>decide (ent A t c=1)
  have hls:∀o0 o4:Option Dt,eComp (iR2 (aCons (eV 3) (aCons (eV 1) aNil))) 1 (.one 5) (tB (eB eqD (eB ixD (eB ixD (eV 2) (eV 5)) (eV 3)) (eC (.int 1)))) (eV 5) [o0,some (.int (n:Int)),some (mat A),some (.int (c:Nat)),o4]=okR (.lst (ls.map fun t:Nat=>Dt.int (t:Int))):=by
   intro o0 o4;refine zBA (fun t:Nat=>Dt.int (t:Int)) _ (fun t=>decide (ent A t c=1)) ((qA4 (n-c)).map fun k=>c+k) rfl (fun t ht=>?_) (fun t ht _=>rfl) _ ?_ (by simp;lia)
   ·obtain⟨k,hk,rfl⟩:=qAl.mp ht;have hk':k<n-c:=by simpa using hk
    have i1:=zPU A (c+k) (by lia);have i2:=zHU (A.getD (c+k) []) c (by rw[(ha.rows _ (zAM (by lia))).1];lia);exact eqi (b2 (b2 rfl rfl i1) rfl i2) rfl rfl
   ·unfold iR2;simp;rw[if_pos (by lia)];unfold nums
    congr 2
  refine zBQ (P:=fun r=>∃l0 l2 o4,r=[some (mat T,l0),some (.int (n:Int),0),some (mat A,l2),some (.int (c:Nat),0),some (.lst (ls.map fun t:Nat=>Dt.int (t:Int)),o4)]) (zD8 ?_) ?_
  ·exact zDN (hls _ _) (hls _ _) ⟨_,_,_,rfl⟩ ⟨_,_,_,rfl⟩
  rintro r ⟨l0,l2,l4,rfl⟩
  cases hlz:ls with
  |nil=>
   refine .inr ⟨.non,zWW ?_,.inl ⟨rfl,ha.none hT hr hc fun t h1 h2 h3=>?_⟩⟩
   ·simp
   ·have:t∈ls:=qAg.mpr ⟨qAl.mpr ⟨t-c,by simp;lia,by lia⟩,by simpa using h3⟩
    rw[hlz]at this;simp at this
  |cons t l=>
   have ht:t∈ls:=by rw[hlz];simp
   obtain⟨g1,g2⟩:=qAg.mp ht;obtain⟨k,g3,rfl⟩:=qAl.mp g1;have g4:k<n-c:=by simpa using g3
   have g5:ent A (c+k) c=1:=by simpa using g2
   refine zBQ (P:=fun r=>r=[some (mat T,l0),some (.int (n:Int),0),some (mat A,l2),some (.int (c:Nat),0),some (.lst (((c+k)::l).map fun t:Nat=>Dt.int (t:Int)),l4)]) (zD8 (by simp)) ?_
   rintro r rfl
   clear hls;have i0:ixD (.lst (((c+k)::l).map fun t:Nat=>Dt.int (t:Int))) (.int 0)=some (.int ((c+k:Nat):Int)):=zEU (i:=0) rfl (by simp);have cl:=zKR (A:=A) (c:=c) (t:=c+k) ha.rows (by lia) (by lia) (by lia) (by lia) (by lia)
   generalize Dt.lst (((c+k)::l).map fun t:Nat=>Dt.int (t:Int))=L at i0
   have he:∀o0 o1:Option Dt,eCall zEC (aCons (eV 2) (aCons (eV 3) (aCons (eB ixD (eV 4) (eC (.int 0))) aNil))) [o0,o1,some (mat A),some (.int (c:Nat)),some L]=okR (mat (clr A c (c+k))):=by
    intro o0 o1;exact c3 rfl rfl (b2 rfl rfl i0) cl
   exact zD8 (zDN (he _ _) (c3 rfl rfl (b2 rfl rfl i0) cl) ⟨_,_,_,_,_,rfl,ha.step hc (by lia) (by lia) g5⟩ ⟨_,_,_,_,_,rfl,ha.step hc (by lia) (by lia) g5⟩)
 ·rintro r ⟨A,l0,l2,o3,o4,rfl,ha⟩
  have hlA:=ha.len;have hc:∀o0 o3 o4:Option Dt,eComp (iSq (eV 2)) 1 (.one 5) Mi.tYes (eSl (eV 5) (oE (eV 1)) oNo) [o0,some (.int (n:Int)),some (mat A),o3,o4]=okR (mat (A.map (qEn n))):=by
   intro o0 o3 o4;refine qE3 (zBX (i:=5) rowD (fun r=>rowD (r.drop n)) A rfl rfl (fun r hrA=>?_) _ (by simp[mat]) (by lia)) ?_
   ·exact sl1 rfl rfl (by rw[zQH,zN4])
   ·unfold mat;rw[qAw];rfl
  have hd:=zC1 (A.map (qEn n));refine .inr ⟨mat (A.map (qEn n)),?_,.inr ⟨_,rfl,by simp[hlA],fun r hrA=>?_,fun u v hu hv=>ha.full hT hr hu hv⟩⟩
  ·simp[hc,hd]
  ·obtain⟨q,hq,rfl⟩:=qAl.mp hrA;have h1:=ha.rows q hq;exact⟨by rw[qDh,h1.1];lia,fun x hx=>h1.2 x (qE5 hx)⟩
theorem zWS{z:Str}{l:List Nat}(h:z.cps.toList=l):z=⟨l.toArray⟩:=by
 cases z with
 |mk a=>subst h;simp
theorem add_str{a b:List Nat}(h:a.length+b.length<=1000):addD (.str ⟨a.toArray⟩) (.str ⟨b.toArray⟩)=some (.str ⟨(a++b).toArray⟩):=by
 rw[zWJ,if_pos (by rw[zPO,zPO];lia)]
 congr 2
 exact zWS (by rw[zUL])
end Mp
namespace Mp
noncomputable def sh(s:Nat)(cs:List Nat):List Nat:=cs.drop s++cs.take s
def wr(cs:List Nat):List Nat:=cs.map fun c=>97+(ords cs).idxOf c
end Mp
namespace Mp
open Mi PySem
@[simp] theorem x_eNew0(c:Str)(ρ:Rh):zZW c ρ=okR (.ins c []):=rfl
@[simp] theorem x_eNew(c:Str)(fl:List Str)(am:AM)(ρ:Rh):eNew c fl am ρ=zA3 (am ρ) fun ds=>match svsD ds with
 |some vs=>if vs.length=fl.length then okR (.ins c (fl.zip vs))else none
 |none=>none:=rfl
@[simp] theorem x_eFld(hs:List Str)(f:Str)(e:EM)(ρ:Rh):eFld hs f e ρ=zA3 (e ρ) fun d=>match d with
 |.ins c fs=>if c∈hs then(match fs.lookup f with|some v=>okR (dSv v)|none=>none)else none
 |_=>none:=rfl
@[simp] theorem x_eMeth(tb:List (Str×FM))(m:Str)(e:EM)(am:AM)(ρ:Rh):zZX tb m e am ρ=zA3 (e ρ) fun d=>match d with
 |.ins c fs=>match tb.lookup c with
  |some g=>match fs.lookup m with
   |none=>zA3 (am ρ) fun ds=>g (d::ds)
   |some _=>none
  |none=>none
 |_=>none:=rfl
@[simp] theorem x_eIsO(ys ns:List Str)(e:EM)(ρ:Rh):eIsO ys ns e ρ=zA3 (e ρ) fun d=>match d with
 |.ins c _=>if c∈ys then okR (.bl true)else if c∈ns then okR (.bl false)else none
 |_=>none:=rfl
@[simp] theorem v_dins(c:Str)(fs:List (Str×Sv)):(Dt.ins c fs).dep=1000:=rfl
theorem len1(x:Nat):lenD [sgn x]=some (.int 1):=zS3 (cs:=[x]) (by simp)
structure Seats(R:List (List Nat))(n:Nat):Prop where
 len:R.length=n
 per:∀l∈R,l.Perm [0,1,2,3]
end Mp
namespace Mp
open Mi PySem
section
variable{R:List (List Nat)}{row:List Nat}{n:Nat}(hS:Seats R n)(tw:Twice n row)
include hS
include tw
omit hS in
omit hS in
omit hS in
omit hS in
omit hS tw in
omit hS tw in
end
end Mp
namespace Mp
open Mi PySem
end Mp
namespace Mp
open Mi PySem
section
variable{ts cs:List Nat}{n e:Nat}(hN:NetN ts (4*n))(hne:∀x,x<4*n->nt ts x≠x)(hl:cs.length=n)(hw:∀c∈cs,c<3)(he:e<4*n)
include hN hne hl hw he
variable{p:Nat}(p3:itr (stp ts cs) p e=e)(p4:∀q,1<=q->q<p->itr (stp ts cs) q e≠e)
include p3 p4
omit hN hne hl hw he p3 p4 in
end
end Mp
namespace Mp
open Mi PySem
structure Rnds(ts cs:List Nat)(n:Nat)(RR:List (List Nat)):Prop where
 prog:zLT [rowD (numL ts),rowD (numL cs)]=okR (zX1 RR)
 law:zJ3 [rowD (numL ts),rowD (numL cs)]=okR (zX1 RR)
 pos:1<=RR.length
 le:RR.length<=4*n
 one:RR.length=1->∃F:List Nat,zI7 [rowD (numL ts),rowD (numL cs),.int 0]=okR (rowD (numL F))/\F.length=4*n/\∀x∈F,x<4*n
def rowW(cs:List Nat):List Nat:=cs.map fun c=>(ords cs).idxOf c
structure Wd(n:Nat)(cs:List Nat):Prop where
 tw:Twice n (rowW cs)
 wr:wrd (ords cs) (rowW cs)=cs
 ap:za1 (ords cs) (rowW cs)
 od:ords (rowW cs)=qA4 n
 ol:(ords cs).length=n
 len:cs.length=2*n
section
variable{n:Nat}{row:List Nat}(t:Twice n row)
include t
end
end Mp
namespace Mp
open Mi PySem
def fm(cs:List Nat)(s:Nat)(b:Bool):List Nat:=if b=true then(sh s cs).reverse else sh s cs
end Mp
namespace Mp
open Mi PySem
section
variable{ts C':List Nat}{n:Nat}(hN:NetN ts (4*n))(hne:∀x,x<4*n->nt ts x≠x)(hl:C'.length=n)(hw:∀c∈C',c<3)(hn:n<=10)(n1:1<=n)
include hN hne hl hw hn n1
end
end Mp
namespace Mp
open Mi PySem
theorem cn2{m:FM}{e1 e2:EM}{ρ:Rh}{d1 d2 d:Dt}(h1:e1 ρ=okR d1)(h2:e2 ρ=okR d2)(h:m [d1,d2]=okR d):eCallN m (aCons e1 (aCons e2 aNil)) ρ=okR d:=by
 unfold eCallN;rw[zC6,h1,zA0,zC6,h2,zA0,zER,zA0,zA0,zA0,h];rfl
theorem cn3{m:FM}{e1 e2 e3:EM}{ρ:Rh}{d1 d2 d3 d:Dt}(h1:e1 ρ=okR d1)(h2:e2 ρ=okR d2)(h3:e3 ρ=okR d3)(h:m [d1,d2,d3]=okR d):eCallN m (aCons e1 (aCons e2 (aCons e3 aNil))) ρ=okR d:=by
 unfold eCallN;rw[zC6,h1,zA0,zC6,h2,zA0,zC6,h3,zA0,zER,zA0,zA0,zA0,zA0,h];rfl
theorem eqI(a b:Int):eqD (.int a) (.int b)=some (.bl (decide (a=b))):=by simp[eqD,Dt.eq];rfl
theorem zKP{ρ:Rh}{e:EM}{i j:Nat}(xs:List Dt)(g:Nat->Dt)(hi:i=ρ.length)(hj:j=ρ.length+1)(it:IM)(hit:it ρ=okR (enumD 0 xs))(hn:xs.length<=100000)(h:∀k x,xs[k]?=some x->e (ρ++[some (.int (k:Nat)),some x])=okR (g k)):eComp it 2 (.tup [i,j]) tYes e ρ=okR (.lst ((qA4 xs.length).map g)):=by
 subst hi hj;unfold eComp;rw[hit,zA0,if_pos ⟨by rw[zJC];exact hn,by simp[Tg.idx]⟩];have go:∀(m k:Nat)(acc:List Dt),k+m=xs.length->compGo ρ 2 (.tup [ρ.length,ρ.length+1]) tYes e (enumD k (xs.drop k)) acc=okR (acc++(qGr k m).map g):=by
  intro m
  induction m with
  |zero=>
   intro k acc hk;rw[List.drop_of_length_le (by lia)];simp[enumD,compGo]
  |succ m ih=>
   intro k acc hk;have hx:xs[k]?=some xs[k]:=qA7 (by lia);rw[qBt (by lia),enumD,compGo];have es:zAT (ρ++qA9 2 none) [(ρ.length,.int (k:Nat)),(ρ.length+1,xs[k])]=ρ++[some (.int (k:Nat)),some xs[k]]:=by
    simp[zAT]
   show zA3 (tYes (zAT (ρ++qA9 2 none) [(ρ.length,.int (k:Nat)),(ρ.length+1,xs[k])])) _=_;rw[es];show zA3 (okR true) _=_;rw[zA0,if_pos rfl];show zA3 (e (zAT (ρ++qA9 2 none) [(ρ.length,.int (k:Nat)),(ρ.length+1,xs[k])])) _=_;rw[es,h k _ hx,zA0,ih (k+1) _ (by lia),qFc];simp
 have:=go xs.length 0 [] (by lia)
 rw[qD3]at this;rw[this,zA0,qE6];simp
noncomputable def rowF(i j:Nat)(f:Nat->Nat->Int):Nat->Nat->Int:=fun a b=>if a=j then(f a b+f i b)%2 else f a b
noncomputable def colF(i j:Nat)(f:Nat->Nat->Int):Nat->Nat->Int:=fun a b=>if b=j then(f a j+f a i)%2 else f a b
theorem zUP{n j:Nat}{g:Nat->Int}{v:Int}(hj:j<n):(((qA4 n).map g).map Dt.int).set j (.int v)=((qA4 n).map fun b=>if b=j then v else g b).map Dt.int:=by
 apply qCh
 intro y;rw[qC7]
 by_cases hy:j=y
 ·subst hy;simp[hj]
 ·rw[if_neg hy]
  by_cases h:y<n
  ·simp[h,show ¬y=j by lia]
  ·simp[h]
theorem zGV{ρ:Rh}{r:Nat}{e1 e2:EM}(f g:Nat->Dt):∀l:List Nat,(∀a∈l,rowSet ρ r e1 e2 (f a)=some (g a))->rowsSet ρ r e1 e2 (l.map f)=some (l.map g)
 |[],_=>rfl
 |a::l,h=>by
  rw[qAm,rowsSet,h a (by simp)];dsimp only;rw[zGV f g l fun b hb=>h b (by simp[hb])];rfl
theorem zOW{ρ:Rh}{r p:Nat}{e1 e2:EM}{ds:List Dt}{v z:Int}(h2:e2 (ρ.set r (some (.lst ds)))=okR (.int v))(h1:e1 (ρ.set r (some (.lst ds)))=okR (.int z))(hp:ixA ds.length z=some p):rowSet ρ r e1 e2 (.lst ds)=some (.lst (ds.set p (.int v))):=by
 unfold rowSet;dsimp only;rw[h2,h1]
 show(match ixA ds.length z with|some p=>some (Dt.lst (ds.set p (.int v)))|none=>none)=_
 rw[hp]
theorem zNY(n:Nat)(f:Nat->Nat->Int)(c:Int)(h1:1<n)(hn:n<=10):∃i j,i<n/\j<n/\i≠j/\zBU [mat (tab n f),.int c]=okR (mat (tab n (colF i j (rowF i j f)))):=by
 have hnp:(0:Int)<(n:Int):=by lia
 have hn1:(0:Int)<(n:Int)-1:=by lia
 obtain⟨i,hi⟩:∃i:Nat,c%(n:Int)=(i:Int):=⟨(c%(n:Int)).toNat,by have:=qC5 c (show(n:Int)≠0 by lia);lia⟩
 have hin:i<n:=by have:=qBr c hnp;lia
 obtain⟨m,hm⟩:∃m:Nat,c/(n:Int)%((n:Int)-1)=(m:Int):=⟨(c/(n:Int)%((n:Int)-1)).toNat,by have:=qC5 (c/(n:Int)) (show(n:Int)-1≠0 by lia);lia⟩
 have hmn:(m:Int)<(n:Int)-1:=by have:=qBr (c/(n:Int)) hn1;lia
 obtain⟨j,hj⟩:∃j:Nat,((i:Int)+1+(m:Int))%(n:Int)=(j:Int):=⟨(((i:Int)+1+(m:Int))%(n:Int)).toNat,by have:=qC5 ((i:Int)+1+(m:Int)) (show(n:Int)≠0 by lia);lia⟩
 have hjn:j<n:=by have:=qBr ((i:Int)+1+(m:Int)) hnp;lia
 have hij:i≠j:=by
  intro z;subst z;have e:=Int.mul_ediv_add_emod ((i:Int)+1+(m:Int)) (n:Int);rw[hj]at e
  generalize hq:((i:Int)+1+(m:Int))/(n:Int)=q at e
  have h2:(n:Int)*q=1+m:=by lia
  have h3:0<q:=by
   by_cases h:0<q
   ·exact h
   ·have:=Int.mul_nonneg (show(0:Int)<=(n:Int) by lia) (show 0<=-q by lia)
    rw[Int.mul_neg]at this
    lia
  have h4:(n:Int)*1<=(n:Int)*q:=Int.mul_le_mul_of_nonneg_left (by lia) (by lia)
  lia
 refine⟨i,j,hin,hjn,hij,?_⟩;unfold zBU zEG;refine zC9 rfl (zCW fun bb hb=>?_);simp[startO,zBZ];subst hb;refine zCW fun bb hb=>?_
 simp[show 0<n by lia,hi];subst hb;refine zCW fun bb hb=>?_
 have d1:divD (.int c) (.int (n:Int))=some (.int (c/(n:Int))):=by simp[hnp,show(n:Int)<1000000000000000000000000 by lia];lia
 have d2:modD (.int (c/(n:Int))) (.int ((n:Int)-1))=some (.int (m:Int)):=by simp[hn1,hm];lia
 have d3:modD (.int ((i:Int)+1+(m:Int))) (.int (n:Int))=some (.int (j:Int)):=by simp[show 0<n by lia,hj]
 simp only[zHX,x_eB,x_eV,x_eC,zGN,zHZ,qBk,qBl,qDw,Option.map_none,zA0];simp only[d1,d2,zAE,zA0,zUH,zZ4,d3];simp;subst hb;refine zCW fun bb hb=>?_
 have hc:eComp (iEn (aCons (eV 0) aNil)) 2 (.tup [6,7]) Mi.tYes (eIf (tB (eB eqD (eV 6) (eV 4))) (eCall zAV (aCons (eV 7) (aCons (eB ixD (eV 0) (eV 3)) aNil))) (eBi listD (aCons (eV 7) aNil))) [some (mat (tab n f)),some (.int c),some (.int (n:Int)),some (.int (i:Int)),some (.int (j:Int)),none]=okR (mat (tab n (rowF i j f))):=by
  refine qE3 (zKP ((tab n f).map rowD) (fun a=>rowD ((qA4 n).map fun b=>rowF i j f a b)) rfl rfl _ (by simp[mat]) (by simp[zBZ];lia) fun k x hx=>?_) ?_
  ·have hk:k<n:=by have:=(qA2.mp hx).1;simpa[zBZ]using this
   rw[qAf,zEY hk]at hx;cases hx;have i0:=ixM (f:=f) hin;have a0:=zFA n (fun b=>f k b) (fun b=>f i b) hn
   by_cases h:k=j
   ·subst h;simp[i0,a0,rowF]
   ·simp[h,show ¬(k:Int)=(j:Int) by lia,rowF]
  ·rw[qAi,zBZ];unfold mat tab;rw[qAw];rfl
 have hd:=zC1 (tab n (rowF i j f));rw[zHX];show nxR (zA3 (eComp _ _ _ _ _ [some (mat (tab n f)),some (.int c),some (.int (n:Int)),some (.int (i:Int)),some (.int (j:Int)),none]) _) _;rw[hc,zA0,if_pos hd];subst hb;show sSeq _ _ [some (mat (tab n (rowF i j f)),2),some (.int c,0),some (.int (n:Int),0),some (.int (i:Int),0),some (.int (j:Int),0),none]=_;refine zCW fun bb hb=>?_
 refine zB7 (r:=[some (mat (tab n (colF i j (rowF i j f))),2),some (.int c,0),some (.int (n:Int),0),some (.int (i:Int),0),some (.int (j:Int),0),none]) ?_ ?_
 ·generalize rowF i j f=g
  have hrs:=zGV (ρ:=[none,some (.int c),some (.int (n:Int)),some (.int (i:Int)),some (.int (j:Int)),none]) (r:=5) (e1:=eV 4) (e2:=eB modD (eB addD (eB ixD (eV 5) (eV 4)) (eB ixD (eV 5) (eV 3))) (eC (.int 2))) (fun a=>rowD ((qA4 n).map fun b=>g a b)) (fun a=>rowD ((qA4 n).map fun b=>colF i j g a b)) (qA4 n) fun a _=>by
   have i1:=ixR (g:=fun b=>g a b) hjn;have i2:=ixR (g:=fun b=>g a b) hin;have hr:rowD ((qA4 n).map fun b=>g a b)=.lst (((qA4 n).map fun b=>g a b).map Dt.int):=rfl;have e2:eB modD (eB addD (eB ixD (eV 5) (eV 4)) (eB ixD (eV 5) (eV 3))) (eC (.int 2)) [none,some (.int c),some (.int (n:Int)),some (.int (i:Int)),some (.int (j:Int)),some (rowD ((qA4 n).map fun b=>g a b))]=okR (.int ((g a j+g a i)%2)):=by
    simp[i1,i2]
   have q1:ixA (((qA4 n).map fun b=>g a b).map Dt.int).length (j:Int)=some j:=by rw[zG1 (by lia) (by simp;lia)];simp
   have:=zOW (ρ:=[none,some (.int c),some (.int (n:Int)),some (.int (i:Int)),some (.int (j:Int)),none]) (r:=5) (e1:=eV 4) (ds:=((qA4 n).map fun b=>g a b).map Dt.int) (z:=(j:Int)) e2 (by simp) q1
   rw[zUP hjn]at this;exact this
  unfold sForSet
  show(match rowsSet [none,some (.int c),some (.int (n:Int)),some (.int (i:Int)),some (.int (j:Int)),none] 5 (eV 4) (eB modD (eB addD (eB ixD (eV 5) (eV 4)) (eB ixD (eV 5) (eV 3))) (eC (.int 2))) ((tab n g).map rowD)with|some rs'=>_|none=>_)=_
  have ht:((tab n g).map rowD)=(qA4 n).map fun a=>rowD ((qA4 n).map fun b=>g a b):=by unfold tab;rw[qAw];rfl
  have ht2:mat (tab n (colF i j g))=.lst ((qA4 n).map fun a=>rowD ((qA4 n).map fun b=>colF i j g a b)):=by unfold mat tab;rw[qAw];rfl
  rw[ht,hrs];simp[ht2]
 subst hb;simp[sRetV]
theorem zFG{n:Nat}{g:Nat->Int}{x:List Int}(hx:x.length=n):dot ((qA4 n).map g) x=sumN n fun k=>g k*x.getD k 0:=by
 rw[zD3 _ x n (by lia)];unfold sumN
 congr 1
 refine qB3 fun k hk=>?_
 rw[zB8 (by simpa using hk)]
def NS(n:Nat)(f:Nat->Nat->Int):Prop:=∀x,RowN n x->(∀a,a<n->sumN n (fun b=>f a b*x.getD b 0)%2=0)->∀j,x.getD j 0=0
theorem zB3{n:Nat}{f g:Nat->Int}(h:∀k,k<n->f k=g k):sumN n f=sumN n g:=by
 unfold sumN
 congr 1
 exact qB3 fun k hk=>h k (by simpa using hk)
theorem zIN{n i:Nat}{f g:Nat->Int}(hi:i<n)(h:∀k,k<n->k≠i->f k=g k):sumN n f=sumN n g+(f i-g i):=by
 induction n with
 |zero=>lia
 |succ n ih=>
  rw[zAX,zAX]
  by_cases z:i=n
  ·subst z;rw[zB3 fun k hk=>h k (by lia) (by lia)];lia
  ·rw[ih (by lia) fun k hk=>h k (by lia),h n (by lia) (fun y=>z y.symm)];lia
theorem zGS{n:Nat}{f g h:Nat->Int}(e:∀k,k<n->f k%2=(g k+h k)%2):sumN n f%2=(sumN n g+sumN n h)%2:=by
 induction n with
 |zero=>rfl
 |succ n ih=>
  rw[zAX,zAX,zAX];have h1:=ih fun k hk=>e k (by lia)
  have h2:=e n (by lia)
  lia
theorem zS0{n i j:Nat}{f:Nat->Nat->Int}(hb:Bits n f)(hi:i<n):Bits n (colF i j (rowF i j f)):=by
 have hr:Bits n (rowF i j f):=fun a b ha hb'=>by
  unfold rowF
  split
  ·exact zF2 _
  ·exact hb a b ha hb'
 intro a b ha hb';unfold colF
 split
 ·exact zF2 _
 ·exact hr a b ha hb'
theorem zVG{n i j:Nat}{f:Nat->Nat->Int}(hs:Sym n f)(hi:i<n)(hj:j<n)(hij:i≠j):Sym n (colF i j (rowF i j f)):=by
 intro a b ha hb;unfold colF rowF
 by_cases h1:a=j
 ·by_cases h2:b=j
  ·rw[h1,h2]
  ·subst h1;simp[h2,hij];rw[hs a b ha hb,hs i b hi hb]
 ·by_cases h2:b=j
  ·subst h2;simp[h1,hij];rw[hs a b ha hb,hs a i ha hi]
  ·simp[h1,h2];exact hs a b ha hb
structure BI(n p:Nat)(fl:Bool)(f:Nat->Nat->Int):Prop where
 le:p<=n
 bits:Bits n f
 sym:Sym n f
 out:∀a b,a<n->b<n->p<=a\/p<=b->f a b=0
 ns:fl=true->∀x,RowN n x->(∀a,a<p->sumN n (fun b=>f a b*x.getD b 0)%2=0)->∀b,b<p->x.getD b 0=0
theorem BI.start(n:Nat)(fl:Bool):BI n 0 fl fun _ _=>0:=
 ⟨qAt _,fun _ _ _ _=>.inl rfl,fun _ _ _ _=>rfl,fun _ _ _ _ _=>rfl,fun _ _ _ _ b hb=>by lia⟩
theorem BI.skip{n p:Nat}{f:Nat->Nat->Int}(a:BI n p false f)(hp:p<n):BI n (p+1) false f:=
 ⟨hp,a.bits,a.sym,fun x y hx hy h=>a.out x y hx hy (by lia),fun z=>by cases z⟩
noncomputable def put1(p q:Nat)(f:Nat->Nat->Int):Nat->Nat->Int:=fun x y=>if x=p/\y=q then 1 else f x y
theorem BI.one{n p:Nat}{fl:Bool}{f:Nat->Nat->Int}(a:BI n p fl f)(hp:p<n):BI n (p+1) fl (put1 p p f):=by
 refine⟨hp,fun x y hx hy=>?_,fun x y hx hy=>?_,fun x y hx hy h=>?_,fun hf x hx hk b hb=>?_⟩
 ·unfold put1;split
  ·exact .inr rfl
  ·exact a.bits x y hx hy
 ·unfold put1;rw[a.sym x y hx hy]
  by_cases h:x=p/\y=p
  ·rw[if_pos h,if_pos ⟨h.2,h.1⟩]
  ·rw[if_neg h,if_neg fun z=>h ⟨z.2,z.1⟩]
 ·unfold put1;rw[if_neg (by lia)];exact a.out x y hx hy (by lia)
 ·by_cases hbp:b=p
  ·subst hbp
   have:=hk b (by lia)
   rw[zCH hp fun k hk' hkb=>?_]at this
   ·unfold put1 at this;rw[if_pos ⟨rfl,rfl⟩]at this
    rcases zBL (k:=b) hx with w|w
    ·exact w
    ·rw[w]at this;simp at this
   ·unfold put1;rw[if_neg fun z=>hkb z.2,a.out b k hp hk' (by lia)];simp
  ·refine a.ns hf x hx (fun c hc=>?_) b (by lia)
   have:=hk c (by lia)
   rw[zB3 (g:=fun b=>f c b*x.getD b 0) fun k _=>by unfold put1;rw[if_neg (by lia)]]at this;exact this
theorem BI.two{n p:Nat}{fl:Bool}{f:Nat->Nat->Int}(a:BI n p fl f)(hp:p+1<n):BI n (p+2) fl (put1 (p+1) p (put1 p (p+1) f)):=by
 refine⟨hp,fun x y hx hy=>?_,fun x y hx hy=>?_,fun x y hx hy h=>?_,fun hf x hx hk b hb=>?_⟩
 ·unfold put1;split
  ·exact .inr rfl
  ·split
   ·exact .inr rfl
   ·exact a.bits x y hx hy
 ·unfold put1;rw[a.sym x y hx hy]
  by_cases h1:x=p+1/\y=p
  ·rw[if_pos h1,if_neg (by lia),if_pos (by lia)]
  ·rw[if_neg h1]
   by_cases h2:x=p/\y=p+1
   ·rw[if_pos h2,if_pos (by lia)]
   ·rw[if_neg h2,if_neg (by lia),if_neg (by lia)]
 ·unfold put1;rw[if_neg (by lia),if_neg (by lia)];exact a.out x y hx hy (by lia)
 ·by_cases hbp:b=p
  ·subst hbp
   have:=hk (b+1) (by lia)
   rw[zCH (j:=b) (by lia) fun k hk' hkb=>?_]at this
   ·unfold put1 at this;rw[if_pos ⟨rfl,rfl⟩]at this
    rcases zBL (k:=b) hx with w|w
    ·exact w
    ·rw[w]at this;simp at this
   ·unfold put1;rw[if_neg (by lia),if_neg (by lia),a.out (b+1) k hp hk' (by lia)];simp
  ·by_cases hbq:b=p+1
   ·subst hbq
    have:=hk p (by lia)
    rw[zCH (j:=p+1) hp fun k hk' hkb=>?_]at this
    ·unfold put1 at this;rw[if_neg (by lia),if_pos ⟨rfl,rfl⟩]at this
     rcases zBL (k:=p+1) hx with w|w
     ·exact w
     ·rw[w]at this;simp at this
    ·unfold put1;rw[if_neg (by lia),if_neg (by lia),a.out p k (by lia) hk' (by lia)];simp
   ·refine a.ns hf x hx (fun c hc=>?_) b (by lia)
    have:=hk c (by lia)
    rw[zB3 (g:=fun b=>f c b*x.getD b 0) fun k _=>by unfold put1;rw[if_neg (by lia),if_neg (by lia)]]at this;exact this
noncomputable def allv:Nat->List (List Int)
 |0=>[[]]
 |n+1=>(allv n).map (qGm 0)++(allv n).map (qGm 1)
theorem zNC:∀n,(allv n).length=2 ^ n
 |0=>rfl
 |n+1=>by simp[allv,zNC n];lia
theorem zF8{α β:Type}{l:List α}{f:α->β}(h:l.Nodup)(hi:∀x∈l,∀y∈l,f x=f y->x=y):(l.map f).Nodup:=by
 unfold List.Nodup;rw[qEy];exact qGd (fun{a b} ha hb hab z=>hab (hi a ha b hb z)) h
theorem zFV:∀n,(allv n).Nodup
 |0=>by simp[allv]
 |n+1=>by
  have ih:=zFV n;rw[allv,qD9];refine⟨zF8 ih fun x _ y _ h=>by simpa using h,zF8 ih fun x _ y _ h=>by simpa using h,fun a ha b hb=>?_⟩;obtain⟨x,_,rfl⟩:=qAl.mp ha;obtain⟨y,_,rfl⟩:=qAl.mp hb;simp
theorem allv_mem:∀{n:Nat}{x:List Int},x∈allv n↔RowN n x
 |0,x=>by
  simp only[allv,qAu];constructor
  ·rintro rfl;exact⟨rfl,fun y hy=>by simp at hy⟩
  ·rintro⟨h,_⟩;exact qBy h
 |n+1,x=>by
  rw[allv,qAs];constructor
  ·rintro(h|h)
   all_goals
    obtain⟨y,hy,rfl⟩:=qAl.mp h
    have:=allv_mem.mp hy
    refine⟨by simp[this.1],fun z hz=>?_⟩
    rcases qAh.mp hz with rfl|hz
    ·simp[Bit]
    ·exact this.2 z hz
  ·rintro⟨h1,h2⟩
   cases x with
   |nil=>simp at h1
   |cons a r=>
    have hr:r∈allv n:=allv_mem.mpr ⟨by simpa using h1,fun z hz=>h2 z (by simp[hz])⟩
    rcases h2 a (by simp)with rfl|rfl
    ·exact .inl (qAl.mpr ⟨r,hr,rfl⟩)
    ·exact .inr (qAl.mpr ⟨r,hr,rfl⟩)
theorem zH4{α:Type}[DecidableEq α]:∀(l1 l2:List α),l1.Nodup->(∀x∈l1,x∈l2)->l1.length<=l2.length
 |[],_,_,_=>by simp
 |a::r,l2,h,hs=>by
  have ha:=hs a (by simp);rw[qBf]at h
  have:=zH4 r (l2.erase a) h.2 fun x hx=>(List.mem_erase_of_ne (fun z:x=a=>h.1 (by rw[<- z];exact hx))).mpr (hs x (by simp[hx]))
  rw[List.length_erase_of_mem ha]at this
  have:=qDp ha
  simp
  lia
noncomputable def cnt(n:Nat)(P:List Int->Prop):Nat:=by
 classical exact((allv n).filter fun x=>decide (P x)).length
theorem zQL(n:Nat):cnt n (fun _=>True)=2 ^ n:=by
 unfold cnt;rw[List.filter_eq_self.mpr (by simp),zNC]
theorem zHI{n:Nat}{P Q:List Int->Prop}(h:∀x,RowN n x->(P x↔Q x)):cnt n P=cnt n Q:=by
 unfold cnt
 congr 1
 refine qEz fun x hx=>?_
 have:=h x (allv_mem.mp hx)
 simp[this]
theorem zU7{n:Nat}{P Q:List Int->Prop}(f:List Int->List Int)(hf:∀x,RowN n x->P x->RowN n (f x)/\Q (f x))(hi:∀x y,RowN n x->RowN n y->f x=f y->x=y):cnt n P<=cnt n Q:=by
 classical
 unfold cnt;have h1:(((allv n).filter fun x=>decide (P x)).map f).Nodup:=zF8 ((zFV n).filter _) fun x hx y hy=>hi x y (allv_mem.mp (qAg.mp hx).1) (allv_mem.mp (qAg.mp hy).1)
 have h2:=zH4 _ ((allv n).filter fun x=>decide (Q x)) h1 fun z hz=>by
  obtain⟨x,hx,rfl⟩:=qAl.mp hz;obtain⟨g1,g2⟩:=qAg.mp hx;obtain⟨k1,k2⟩:=hf x (allv_mem.mp g1) (by simpa using g2);exact qAg.mpr ⟨allv_mem.mpr k1,by simpa using k2⟩
 rw[qAi]at h2;exact h2
theorem zQJ{n:Nat}(P E:List Int->Prop):cnt n P=cnt n (fun x=>P x/\E x)+cnt n (fun x=>P x/\¬E x):=by
 classical
 unfold cnt
 generalize allv n=l
 induction l with
 |nil=>simp
 |cons a r ih=>
  simp only[qCa]
  by_cases h1:P a
  ·by_cases h2:E a
   ·simp[h1,h2,ih];lia
   ·simp[h1,h2,ih];lia
  ·simp[h1,ih]
noncomputable def flp(p:Nat)(x:List Int):List Int:=x.set p (1-x.getD p 0)
theorem zJA{n p:Nat}{x:List Int}(h:RowN n x):RowN n (flp p x):=zLG h (by rcases zBL (k:=p) h with z|z<;>rw[z]<;>simp[Bit])
theorem zJB{n p:Nat}{x:List Int}(h:RowN n x)(hp:p<n)(k:Nat):(flp p x).getD k 0=if p=k then 1-x.getD p 0 else x.getD k 0:=zFB (by rw[h.1];exact hp)
theorem zOV{n:Nat}{x y:List Int}(hx:x.length=n)(hy:y.length=n)(h:∀k,k<n->x.getD k 0=y.getD k 0):x=y:=by
 rw[zDG hx,zDG hy];exact qB3 fun k hk=>h k (by simpa using hk)
theorem zQ4{n p:Nat}(hp:p<n){x y:List Int}(hx:RowN n x)(hy:RowN n y)(h:flp p x=flp p y):x=y:=by
 refine zOV hx.1 hy.1 fun k hk=>?_
 have e:(flp p x).getD k 0=(flp p y).getD k 0:=by rw[h]
 rw[zJB hx hp,zJB hy hp]at e
 by_cases z:p=k
 ·subst z;rw[if_pos rfl,if_pos rfl]at e;lia
 ·rw[if_neg z,if_neg z]at e;exact e
theorem zSX{n p:Nat}(hp:p<n)(P E:List Int->Prop)(h1:∀x,RowN n x->P x->P (flp p x))(h2:∀x,RowN n x->(E (flp p x)↔¬E x)):cnt n P=2*cnt n (fun x=>P x/\E x):=by
 have a:=zQJ (n:=n) P E;have b:cnt n (fun x=>P x/\E x)<=cnt n (fun x=>P x/\¬E x):=zU7 (flp p) (fun x hx h=>⟨zJA hx,h1 x hx h.1,fun z=>(h2 x hx).mp z h.2⟩) fun x y hx hy=>zQ4 hp hx hy
 have c:cnt n (fun x=>P x/\¬E x)<=cnt n (fun x=>P x/\E x):=zU7 (flp p) (fun x hx h=>⟨zJA hx,h1 x hx h.1,(h2 x hx).mpr h.2⟩) fun x y hx hy=>zQ4 hp hx hy
 lia
def Ev(n:Nat)(g:Nat->Int)(x:List Int):Prop:=sumN n (fun k=>g k*x.getD k 0)%2=0
theorem zTY{n p:Nat}{g:Nat->Int}{x:List Int}(h:RowN n x)(hp:p<n):sumN n (fun k=>g k*(flp p x).getD k 0)=sumN n (fun k=>g k*x.getD k 0)+g p*(1-2*x.getD p 0):=by
 rw[zIN (f:=fun k=>g k*(flp p x).getD k 0) (g:=fun k=>g k*x.getD k 0) hp fun k _ hk=>by rw[zJB h hp,if_neg (fun z=>hk z.symm)],zJB h hp,if_pos rfl,<- qGq]
 congr 2
 lia
theorem zVY{n p:Nat}{g:Nat->Int}{x:List Int}(h:RowN n x)(hp:p<n)(hg:g p=0):Ev n g (flp p x)↔Ev n g x:=by
 unfold Ev;rw[zTY h hp,hg];simp
theorem zVX{n p:Nat}{g:Nat->Int}{x:List Int}(h:RowN n x)(hp:p<n)(hg:g p=1):Ev n g (flp p x)↔¬Ev n g x:=by
 unfold Ev;rw[zTY h hp,hg]
 lia
noncomputable def Led(n:Nat):List (List Int)->Prop
 |[]=>True
 |l::r=>(∃p,p<n/\l.getD p 0=1/\∀s∈r,s.getD p 0=0)/\Led n r
theorem zMZ{n:Nat}{r x:List Int}(hx:RowN n x):dot r x%2=0↔Ev n (fun k=>r.getD k 0) x:=by
 unfold Ev;rw[zD3 r x n (by rw[hx.1];exact qA5 _)]
theorem zQK{n:Nat}:∀(ls:List (List Int)),Led n ls->cnt n (Ker ls)*2 ^ ls.length=2 ^ n
 |[],_=>by
  rw[zHI (Q:=fun _=>True) fun x _=>⟨fun _=>trivial,fun _ r hr=>by simp at hr⟩,zQL];simp
 |l::r,h=>by
  obtain⟨⟨p,hp,h1,h0⟩,h2⟩:=h;have ih:=zQK r h2;have hh:=zSX hp (Ker r) (fun x=>dot l x%2=0) (fun x hx hk s hs=>(zMZ (zJA hx)).mpr ((zVY hx hp (h0 s hs)).mpr ((zMZ hx).mp (hk s hs)))) fun x hx=>by
   rw[zMZ (zJA hx),zMZ hx];exact zVX hx hp h1
  have hc:cnt n (Ker (l::r))=cnt n (fun x=>Ker r x/\dot l x%2=0):=zHI fun x _=>⟨fun h=>⟨fun s hs=>h s (by simp[hs]),h l (by simp)⟩,fun h s hs=>(qAh.mp hs).elim (fun z=>z▸h.2) (h.1 s)⟩
  rw[hc,qAo,qGn,<- ih,hh];rw[qF5 (2 ^ r.length) 2,<- qGh,qF5 _ 2]
structure BC(n p q:Nat)(f:Nat->Nat->Int):Prop where
 out:∀a b,a<n->b<n->p<=a\/p<=b->f a b=0
 num:cnt n (fun x=>∀a,a<p->Ev n (f a) x)*2 ^ p=2 ^ (n+q)
def KerF(n:Nat)(f:Nat->Nat->Int)(x:List Int):Prop:=∀a,a<n->Ev n (f a) x
section
variable{n i j:Nat}{f:Nat->Nat->Int}(hb:Bits n f)(hi:i<n)(hj:j<n)(hij:i≠j)
include hi in
include hi hij in
include hb hi hj hij in
include hb hi hj hij in
end
end Mp
namespace Mp
open Mi PySem
noncomputable def frz0(o:Option Sl):Option Dt:=match o with
 |some (d,n)=>if n=0\/d.dep=0 then some d else none
 |none=>none
theorem zSG(o:Option Sl)(r:Ro):frz (o::r)=frz0 o::frz r:=rfl
noncomputable def zNX(i:Nat)(r:Ro):Nat:=match r[i]? with
 |some (some (.int z,_))=>z.toNat
 |_=>0
noncomputable def zW2(i j:Nat):Int:=if i=j then 1 else 0
theorem zRG{n:Nat}{R:List (List Int)}(h:R.length=n)(hr:∀r∈R,RowN n r):R=tab n (ent R):=by
 apply qCo
 ·simp[h,tab]
 ·intro i h1 h2;have e1:R[i]=R.getD i []:=by simp[qA0,qA7 h1]
  have e2:=hr R[i] (List.getElem_mem h1);rw[e1]at e2 ⊢;rw[zDG e2.1];simp[tab,ent]
theorem zIK{n i:Nat}{f:Nat->Nat->Int}(h:i<n):(tab n f).getD i []=(qA4 n).map fun j=>f i j:=by
 rw[qA0,zEY h];rfl
theorem zJ6{n:Nat}{f:Nat->Nat->Int}{x:List Int}(hx:x.length=n):Ker (tab n f) x↔∀a,a<n->sumN n (fun b=>f a b*x.getD b 0)%2=0:=by
 constructor
 ·intro h a ha
  have:=h _ (zAM (d:=[]) (i:=a) (by rw[zBZ];exact ha))
  rw[zIK ha,zFG hx]at this;exact this
 ·intro h r hr;obtain⟨i,hi,rfl⟩:=zEK (d:=[]) hr;rw[zBZ]at hi;rw[zIK hi,zFG hx];exact h i hi
theorem zQB{n j:Nat}{r:List Int}(hj:j<n):dot r (zE4 n j)=r.getD j 0:=by
 rw[zD3 _ _ n (by simp[zE4]),zCH hj fun k hk hkj=>?_]
 ·rw[zE4,zB8 hj,if_pos rfl];simp
 ·rw[zE4,zB8 hk,if_neg hkj];simp
theorem zR4{n:Nat}{f:Nat->Nat->Int}{R:List (List Int)}(hb:Bits n f)(hl:R.length=n)(hr:∀r∈R,RowN n r)(h:∀u v,RowN n u->RowN n v->((∀i,i<n->(dot ((tab n f).getD i []) u+v.getD i 0)%2=0)↔∀i,i<n->(u.getD i 0+dot (R.getD i []) v)%2=0)) :
  ∀i j,i<n->j<n->prod n f (ent R) i j=zW2 i j:=by
 intro i j hi hj
 let u:List Int:=(qA4 n).map fun k=>ent R k j
 have hu:RowN n u:=⟨by simp[u],fun x hx=>by
  obtain⟨k,hk,rfl⟩:=qAl.mp hx;exact zHC hr (by rw[hl];simpa using hk) hj⟩
 have gu:∀k,k<n->u.getD k 0=ent R k j:=fun k hk=>zB8 hk
 have:=(h u (zE4 n j) hu (zII n j)).mpr (fun k hk=>by
  rw[gu k hk,zQB hj]
  show(ent R k j+ent R k j)%2=0
  lia) i hi
 rw[zIK hi,zFG hu.1,zE4,zB8 hi]at this;unfold prod zW2;rw[zB3 (g:=fun k=>f i k*u.getD k 0) fun k hk=>by rw[gu k hk]]
 by_cases hij:i=j
 ·rw[if_pos hij]at this ⊢;lia
 ·rw[if_neg hij]at this ⊢;lia
theorem zWK{n:Nat}{f:Nat->Nat->Int}{R:List (List Int)}(h:∀u v,RowN n u->RowN n v->((∀i,i<n->(dot ((tab n f).getD i []) u+v.getD i 0)%2=0)↔∀i,i<n->(u.getD i 0+dot (R.getD i []) v)%2=0)):NS n f:=by
 intro x hx hk j;have hz:RowN n (qA9 n 0):=⟨by simp,fun y hy=>.inl (qDa hy)⟩
 have gz:∀k,(qA9 n (0:Int)).getD k 0=0:=fun k=>by
  rw[qA0,qB7];split<;>rfl
 by_cases hj:j<n
 ·have:=(h x (qA9 n 0) hx hz).mp (fun i hi=>by
   rw[zIK hi,zFG hx.1,gz]
   have:=hk i hi
   lia) j hj
  rw[zD3 _ (qA9 n 0) n (by simp),zBD fun k _=>by rw[gz];simp]at this
  rcases zBL (k:=j) hx with w|w
  ·exact w
  ·rw[w]at this;simp at this
 ·simp[qA0,qBq (show x.length<=j by rw[hx.1];lia)]
theorem zR3(n:Nat)(f:Nat->Nat->Int)(hn:n<=10)(hb:Bits n f):∃q:Nat,zCG [mat (tab n f)]=okR (.int (q:Int))/\q<=n/\((q<n/\zE9 [mat (tab n f)]=okR .non)\/(q=n/\∃g,Bits n g/\NS n f/\(∀i j,i<n->j<n->prod n f g i j=zW2 i j)/\zE9 [mat (tab n f)]=okR (mat (tab n g)))):=by
 have hT:=zBZ n f;have hr:=zIJ hb;obtain⟨q,r1,A,r2⟩:=zMN n (tab n f) hT hr hn;obtain⟨d,u1,u2⟩:=zJO n (tab n f) hT hr hn;refine⟨q,r1,r2.le,?_⟩
 rcases u2 with⟨rfl,x,x1,x2,j,x3,x4⟩|⟨R,rfl,g1,g2,g3⟩
 ·left
  refine⟨?_,u1⟩
  rcases qF6 q n with h|h
  ·exact h
  ·have:=(r2.all (qDy r2.le h) x x1 x2).2 (fun k hk=>by
    simp[qA0,qBq (show x.length<=k by rw[x1.1];lia)]) j
   rw[x4]at this;simp at this
 ·right
  have hns:=zWK g3;refine⟨?_,ent R,?_,hns,zR4 hb g1 g2 g3,?_⟩
  ·rcases qF6 q n with h|h
   ·obtain⟨x,x1,x2,j,x3,x4⟩:=r2.some h
    have:=hns x x1 ((zJ6 x1.1).mp x2) j
    rw[x4]at this;simp at this
   ·exact qDy r2.le h
  ·intro i j hi hj;exact zHC g2 (by rw[g1];exact hi) hj
  ·rw[<- zRG g1 g2];exact u1
noncomputable def fst1:List Int->Nat
 |[]=>0
 |a::r=>if a=1 then 0 else fst1 r+1
theorem zJ7:∀{l:List Int},1∈l->fst1 l<l.length
 |a::r,h=>by
  unfold fst1
  split
  ·simp
  ·rename_i z
   have:=zJ7 (l:=r) ((qAh.mp h).elim (fun y=>absurd y.symm z) fun y=>y)
   simp;exact this
theorem zJ8:∀{l:List Int},1∈l->l.getD (fst1 l) 0=1
 |a::r,h=>by
  unfold fst1
  split
  ·rename_i z;simp[z]
  ·rename_i z
   have:=zJ8 (l:=r) ((qAh.mp h).elim (fun y=>absurd y.symm z) fun y=>y)
   simpa using this
def red1(left l:List Int):List Int:=if left.getD (fst1 l) 0=1 then addB left l else left
def red(ls:List (List Int))(row:List Int):List Int:=ls.foldl red1 row
section
variable{n:Nat}
theorem zGF{a l:List Int}(ha:RowN n a)(hl:RowN n l):RowN n (red1 a l):=by
 unfold red1
 split
 ·exact zEP ha hl
 ·exact ha
theorem zIT:∀{ls:List (List Int)}{row:List Int},RowN n row->(∀l∈ls,RowN n l)->RowN n (red ls row)
 |[],row,h,_=>h
 |l::r,row,h,hl=>zIT (ls:=r) (zGF h (hl l (by simp))) fun s hs=>hl s (by simp[hs])
theorem zP1{p:Nat}{a l:List Int}(ha:RowN n a)(hl:RowN n l)(hp:p<n)(h1:a.getD p 0=0)(h2:l.getD p 0=0):(red1 a l).getD p 0=0:=by
 unfold red1
 split
 ·rw[zC5 a l p (by rw[ha.1,hl.1]) (by rw[ha.1];exact hp),h1,h2];rfl
 ·exact h1
theorem zMM{p:Nat}(hp:p<n):∀{ls:List (List Int)}{row:List Int},RowN n row->(∀l∈ls,RowN n l)->row.getD p 0=0->(∀l∈ls,l.getD p 0=0)->(red ls row).getD p 0=0
 |[],row,_,_,h,_=>h
 |l::r,row,h,hl,h1,h2=>zMM hp (ls:=r) (zGF h (hl l (by simp))) (fun s hs=>hl s (by simp[hs])) (zP1 h (hl l (by simp)) hp h1 (h2 l (by simp))) fun s hs=>h2 s (by simp[hs])
def Lds(ls:List (List Int)):Prop:=ls.Pairwise fun l s=>s.getD (fst1 l) 0=0
theorem zML:∀{ls:List (List Int)}{row:List Int},RowN n row->(∀l∈ls,RowN n l/\1∈l)->Lds ls->∀l∈ls,(red ls row).getD (fst1 l) 0=0
 |[],row,_,_,_,l,h=>by simp at h
 |a::r,row,h,hl,hp,l,hm=>by
  unfold Lds at hp;rw[qBs]at hp;have ha:=hl a (by simp);have h1:=zGF h ha.1
  rcases qAh.mp hm with rfl|hm
  ·have hlt:fst1 l<n:=by rw[<- ha.1.1];exact zJ7 ha.2
   refine zMM hlt (ls:=r) h1 (fun s hs=>(hl s (by simp[hs])).1) ?_ fun s hs=>hp.1 s hs
   unfold red1
   split
   ·rename_i z
    rw[zC5 row l _ (by rw[h.1,ha.1.1]) (by rw[h.1];exact hlt),z,zJ8 ha.2];rfl
   ·rename_i z
    rcases zBL (k:=fst1 l) h with w|w
    ·exact w
    ·exact absurd w z
  ·exact zML (ls:=r) h1 (fun s hs=>hl s (by simp[hs])) hp.2 l hm
theorem zIU{x:List Int}(hx:RowN n x):∀{ls:List (List Int)}{row:List Int},RowN n row->(∀l∈ls,RowN n l)->Ker ls x->dot (red ls row) x%2=dot row x%2
 |[],row,_,_,_=>rfl
 |l::r,row,h,hl,hk=>by
  have ha:=hl l (by simp);have ih:=zIU hx (ls:=r) (zGF h ha) (fun s hs=>hl s (by simp[hs])) fun s hs=>hk s (by simp[hs])
  show dot (red r (red1 row l)) x%2=_;rw[ih];unfold red1
  split
  ·have:=hk l (by simp)
   rw[zFT row l x (by rw[h.1,ha.1]) hx.2];lia
  ·rfl
theorem zPQ:∀{ls:List (List Int)},(∀l∈ls,RowN n l/\1∈l)->Lds ls->Led n ls
 |[],_,_=>trivial
 |l::r,hl,hp=>by
  unfold Lds at hp;rw[qBs]at hp;have ha:=hl l (by simp);exact⟨⟨fst1 l,by rw[<- ha.1.1];exact zJ7 ha.2,zJ8 ha.2,hp.1⟩,zPQ (fun s hs=>hl s (by simp[hs])) hp.2⟩
structure GP(n:Nat)(T ls:List (List Int))(k:Nat):Prop where
 rows:∀l∈ls,RowN n l/\1∈l
 lds:Lds ls
 le:ls.length<=k
 ker:∀x,RowN n x->(Ker ls x↔Ker (T.take k) x)
theorem GP.start(T:List (List Int)):GP n T [] 0:=⟨fun l h=>by simp at h,qCg,qA5 _,fun x _=>by simp[Ker]⟩
theorem zJ5{T:List (List Int)}{k:Nat}{x:List Int}(hk:k<T.length):Ker (T.take (k+1)) x↔Ker (T.take k) x/\dot (T.getD k []) x%2=0:=by
 have e:T.take (k+1)=T.take k++[T.getD k []]:=by
  rw[qCe hk];simp[qA0,qA7 hk]
 rw[e];unfold Ker;constructor
 ·intro h;exact⟨fun r hr=>h r (qB8 _ hr),h _ (qAn _ (by simp))⟩
 ·rintro⟨h1,h2⟩ r hr
  rcases qAs.mp hr with hr|hr
  ·exact h1 r hr
  ·rw[qAu.mp hr];exact h2
theorem GP.miss{T ls:List (List Int)}{k:Nat}(a:GP n T ls k)(hT:∀r∈T,RowN n r)(hk:k<T.length)(h:¬1∈red ls (T.getD k [])):GP n T ls (k+1):=by
 have hr:=hT _ (zAM (d:=[]) hk);have hrr:RowN n (red ls (T.getD k [])):=zIT hr fun l hl=>(a.rows l hl).1
 refine⟨a.rows,a.lds,by have:=a.le;lia,fun x hx=>?_⟩;rw[zJ5 hk,<- a.ker x hx];refine⟨fun hkr=>⟨hkr,?_⟩,fun z=>z.1⟩;rw[<- zIU hx hr (fun l hl=>(a.rows l hl).1) hkr,zD3 _ x n (by rw[hx.1];exact qA5 _),zBD fun j hj=>?_]
 ·rfl
 ·rcases zBL (k:=j) hrr with w|w
  ·rw[w];simp
  ·exact absurd (by rw[<- w];exact zAM (by rw[hrr.1];exact hj)) h
theorem GP.hit{T ls:List (List Int)}{k:Nat}(a:GP n T ls k)(hT:∀r∈T,RowN n r)(hk:k<T.length)(h:1∈red ls (T.getD k [])):GP n T (ls++[red ls (T.getD k [])]) (k+1):=by
 have hr:=hT _ (zAM (d:=[]) hk);have hrr:RowN n (red ls (T.getD k [])):=zIT hr fun l hl=>(a.rows l hl).1
 refine⟨fun l hl=>?_,?_,by have:=a.le;simp;lia,fun x hx=>?_⟩
 ·rcases qAs.mp hl with hl|hl
  ·exact a.rows l hl
  ·rw[qAu.mp hl];exact⟨hrr,h⟩
 ·unfold Lds;rw[qE7];refine⟨a.lds,by simp,fun l hl s hs=>?_⟩;rw[qAu.mp hs];exact zML hr a.rows a.lds l hl
 ·rw[zJ5 hk,<- a.ker x hx];constructor
  ·intro hkr;have h1:Ker ls x:=fun r hr=>hkr r (qB8 _ hr)
   have h2:=hkr _ (qAn _ (qAu.mpr rfl));rw[zIU hx hr (fun l hl=>(a.rows l hl).1) h1]at h2;exact⟨h1,h2⟩
  ·rintro⟨h1,h2⟩ r hrm
   rcases qAs.mp hrm with hrm|hrm
   ·exact h1 r hrm
   ·rw[qAu.mp hrm,zIU hx hr (fun l hl=>(a.rows l hl).1) h1];exact h2
structure GK(n:Nat)(T:List (List Int))(ks:List Nat)(k:Nat):Prop where
 lt:∀j∈ks,j<k
 up:ks.Pairwise (· < ·)
 ker:∀x,RowN n x->(Ker (ks.map fun j=>T.getD j []) x↔Ker (T.take k) x)
theorem GK.start(T:List (List Int)):GK n T [] 0:=⟨fun j h=>by simp at h,qCg,fun x _=>by simp[Ker]⟩
theorem GK.miss{T ls:List (List Int)}{ks:List Nat}{k:Nat}(b:GK n T ks k)(a:GP n T ls k)(a':GP n T ls (k+1)):GK n T ks (k+1):=
 ⟨fun j hj=>by have:=b.lt j hj;lia,b.up,fun x hx=>by rw[b.ker x hx,<- a.ker x hx,a'.ker x hx]⟩
theorem GK.hit{T:List (List Int)}{ks:List Nat}{k:Nat}(b:GK n T ks k)(hk:k<T.length):GK n T (ks++[k]) (k+1):=by
 refine⟨fun j hj=>?_,?_,fun x hx=>?_⟩
 ·rcases qAs.mp hj with hj|hj
  ·have:=b.lt j hj;lia
  ·rw[qAu.mp hj];lia
 ·rw[qE7];refine⟨b.up,by simp,fun j hj s hs=>?_⟩;rw[qAu.mp hs];exact b.lt j hj
 ·rw[zJ5 hk,<- b.ker x hx,qBv];unfold Ker;constructor
  ·intro h;exact⟨fun r hr=>h r (qB8 _ hr),h _ (qAn _ (by simp))⟩
  ·rintro⟨h1,h2⟩ r hr
   rcases qAs.mp hr with hr|hr
   ·exact h1 r hr
   ·rw[qAm,qGk,qAu]at hr;rw[hr];exact h2
end
end Mp
namespace Mp
open Mi PySem
theorem zMR:∀{l:List Int},1∈l->posI 1 l=some (fst1 l)
 |a::r,h=>by
  unfold posI fst1
  by_cases z:a=1
  ·simp[z]
  ·have:=zMR (l:=r) ((qAh.mp h).elim (fun y=>absurd y.symm z) fun y=>y)
   simp[z,this]
theorem zVK{l:List Int}(h:1∈l):lixD (l.map Dt.int) [.int 1]=some (.int (fst1 l:Nat)):=by
 unfold lixD;dsimp only;rw[zLX];dsimp only;rw[zMR h];rfl
theorem zPN{n:Nat}{row:List Int}{ls:List (List Int)}(hr:RowN n row)(hl:∀l∈ls,RowN n l/\1∈l)(hn:n<=1000):zC4 [rowD row,mat ls]=okR (rowD (red ls row)):=by
 unfold zC4 zEW;refine zC9 rfl (zCW fun bb hb=>?_);simp[startO];subst hb;refine zCW fun bb hb=>?_
 unfold sFor;rw[show iSq (eV 1) (frz (frzAt [1] [some (rowD row,0),some (mat ls,0),some (rowD row,0),none]))=okR (ls.map rowD) by simp[mat],zA0];show nxR (forGo (.one 3) _ (ls.map rowD) [some (rowD row,0),some (mat ls,0),some (rowD row,0),none]) _;refine zV9 rowD ls (fun left r=>RowN n left/\∃l2 o3,r=[some (rowD row,0),some (mat ls,0),some (rowD left,l2),o3]) red1 row ⟨hr,0,none,rfl⟩ (fun l hm left r h=>?_) fun r h=>?_
 ·obtain⟨h1,l2,o3,rfl⟩:=h;obtain⟨h2,h3⟩:=hl l hm;have x1:eMl lixD (eV 3) (aCons (eC (.int 1)) aNil) [some (rowD row),some (mat ls),some (rowD left),some (rowD l)]=okR (.int (fst1 l:Nat)):=by
   have:=zVK h3
   simp[eMl,rowD,this]
  have hlt:fst1 l<n:=by rw[<- h2.1];exact zJ7 h3
  have i1:=zHU left (fst1 l) (by rw[h1.1];exact hlt);have a1:=zL6 h1 h2 hn;rw[zE3];have hc:tB (eB eqD (eB ixD (eV 2) (eMl lixD (eV 3) (aCons (eC (.int 1)) aNil))) (eC (.int 1))) [some (rowD row),some (mat ls),some (rowD left),some (rowD l)]=okR (decide (left.getD (fst1 l) 0=1)):=by
   simp only[x_tB,x_eB,x_eC,x1,zA0];simp[-qA0,i1]
  rw[show full ([some (rowD row,0),some (mat ls,0),some (rowD left,l2),o3].set 3 (some (rowD l,0)))=[some (rowD row),some (mat ls),some (rowD left),some (rowD l)] from rfl,hc,zA0]
  by_cases h:left.getD (fst1 l) 0=1
  ·rw[if_pos (by simpa using h)];have e:red1 left l=addB left l:=by unfold red1;rw[if_pos h]
   rw[e];refine zDN (d:=rowD (addB left l)) ?_ ?_ ⟨zEP h1 h2,_,_,rfl⟩ ⟨zEP h1 h2,_,_,rfl⟩
   ·simp[a1]
   ·simp[a1]
  ·rw[if_neg (by simpa using h)];have e:red1 left l=left:=by unfold red1;rw[if_neg h]
   rw[e];exact⟨h1,_,_,rfl⟩
 ·obtain⟨h1,l2,o3,rfl⟩:=h;subst hb;simp[sRetV,red]
theorem zUQ{i j:Nat}{vs:List Nat}{e:EM}{ρ ρ2:Ro}{ds es:List Dt}(h:frzAt vs (low j ρ)=ρ2)(h1:ρ2[j]?=some (some (.lst ds,1)))(he:e ((frz ρ2).set j (some (.lst ds)))=okR (.lst es))(hz:Dt.depL es=0/\es.length≠ds.length):sSetL i j vs e ρ=okR (.nx (ρ2.set i (some (.lst es,0)))):=by
 unfold sSetL;rw[h,h1];show zA3 (e ((frz ρ2).set j (some (.lst ds)))) _=_;rw[he,zA0];exact if_pos hz
theorem zW9{i:Nat}{vs:List Nat}{e:EM}{ρ ρ2:Ro}{ds:List Dt}{d:Dt}(h:frzAt vs (low i ρ)=ρ2)(h1:ρ2[i]?=some (some (.lst ds,1)))(he:e (frz ρ2)=okR d)(hz:ds.length<=100000):sAppF i vs e ρ=okR (.nx (ρ2.set i (some (.lst (ds++[d]),1)))):=by
 unfold sAppF;rw[h,h1];show zA3 (e (frz ρ2)) _=_;rw[he,zA0,if_pos hz]
def GpS(n:Nat)(T:List (List Int))(k:Nat)(r:Ro):Prop:=∃ls ks l2 o3 o4 o5,r=[some (mat T,0),some (rowD (numL ks),9),some (mat ls,l2+1),o3,o4,o5]/\GP n T ls k/\GK n T ks k/\ks.length=ls.length
theorem zVR(l:List Int):inD false (.int 1) (rowD l)=some (.bl (decide (1∈l))):=by
 show(hasD (.int 1) (l.map Dt.int)).map _=_
 rw[hasD,if_pos ⟨rfl,zD4 _⟩];show some (Dt.bl ((l.map Dt.int).any fun y=>Dt.eq y (.int 1)))=_
 congr 2
 induction l with
 |nil=>rfl
 |cons k r ih=>
  rw[qAm,qCd,ih]
  by_cases h:k=1
  ·subst h;simp
  ·simp[h,show ¬1=k from fun z=>h z.symm]
theorem zO4{n:Nat}{T:List (List Int)}(hT:T.length=n)(hr:∀r∈T,RowN n r)(hn:n<=1000):∃ks ls,zCZ [mat T]=okR (rowD (numL ks))/\ks.length=ls.length/\GP n T ls n/\GK n T ks n:=by
 suffices h:eiR (zD5 [some (mat T,0),none,none,none,none,none]) (fun _=>False) (fun d=>∃ks ls,d=rowD (numL ks)/\ks.length=ls.length/\GP n T ls n/\GK n T ks n) by
  rcases h with⟨_,_,z⟩|⟨d,h1,ks,ls,rfl,h2,h3⟩
  ·exact z.elim
  ·exact⟨ks,ls,zC9 rfl h1,h2,h3⟩
 unfold zD5;refine zBQ (P:=fun r=>r=[some (mat T,0),some (.lst [],9),none,none,none,none]) (zD8 (by simp)) ?_
 rintro r rfl
 refine zBQ (P:=fun r=>r=[some (mat T,0),some (.lst [],9),some (mat [],9),none,none,none]) (zD8 (by simp[mat])) ?_
 rintro r rfl
 refine zBQ (P:=GpS n T n) (zD8 ?_) ?_
 ·unfold sFor;rw[show iEn (aCons (eV 0) aNil) (frz (frzAt [0] [some (mat T,0),some (.lst [],9),some (mat [],9),none,none,none]))=okR (enumD 0 (T.map rowD)) by simp[mat],zA0];show nxR (forGo (.tup [3,4]) _ (enumD 0 (T.map rowD)) [some (mat T,0),some (.lst [],9),some (mat [],9),none,none,none]) _;refine zVA (T.map rowD) (GpS n T) ⟨[],[],8,none,none,none,rfl,GP.start T,GK.start T,rfl⟩ (fun k x hx r h=>?_) fun r h=>by rw[qAi,hT]at h;exact h
  obtain⟨ls,ks,l2,o3,o4,o5,rfl,a,b,hps⟩:=h;have hk:k<T.length:=by have:=(qA2.mp hx).1;simpa using this
  have hx':x=rowD (T.getD k []):=by
   rw[qAf,qA7 hk]at hx;cases hx;simp[qA0,qA7 hk]
  subst hx';have hrow:=hr _ (zAM (d:=[]) hk);have hred:RowN n (red ls (T.getD k [])):=zIT hrow fun l hl=>(a.rows l hl).1
  have lp:=zPN hrow a.rows hn;have hm:=a.miss hr hk;have hh:=a.hit hr hk;have kh:=b.hit hk;have km:=fun z=>b.miss a (hm z)
  have hle:=a.le
  generalize T.getD k []=row at *
  generalize red ls row=left at *
  refine zCV fun bb hb=>?_
  refine zB7 (r:=[some (mat T,0),some (rowD (numL ks),9),some (mat ls,1),some (.int (k:Nat),0),some (rowD row,0),some (rowD left,0)]) ?_ ?_
  ·have hr0:frzAt [4] (low 2 ([some (mat T,0),some (rowD (numL ks),9),some (mat ls,l2+1),some (.int (k:Nat),0),some (rowD row,0),o5]))=[some (mat T,0),some (rowD (numL ks),9),some (mat ls,1),some (.int (k:Nat),0),some (rowD row,0),o5]:=rfl;have he:∀o0 o1 o3 o5:Option Dt,eCall zC4 (aCons (eV 4) (aCons (eV 2) aNil)) [o0,o1,some (mat ls),o3,some (rowD row),o5]=okR (rowD left):=by
    intro o0 o1 o3 o5;simp[lp]
   refine zUQ hr0 rfl (es:=left.map Dt.int) ?_ ⟨zD4 _,by rw[qAi,qAi,hred.1];lia⟩;rw[show(frz [some (mat T,0),some (rowD (numL ks),9),some (mat ls,1),some (.int (k:Nat),0),some (rowD row,0),o5]).set 2 (some (.lst (ls.map rowD)))=[frz0 (some (mat T,0)),frz0 (some (rowD (numL ks),9)),some (mat ls),frz0 (some (.int (k:Nat),0)),some (rowD row),frz0 o5] from rfl];exact he _ _ _ _
  subst hb;rw[zE3];have hin:=zVR left;rw[show tB (eB (inD false) (eC (.int 1)) (eV 5)) (full [some (mat T,0),some (rowD (numL ks),9),some (mat ls,1),some (.int (k:Nat),0),some (rowD row,0),some (rowD left,0)])=okR (decide (1∈left)) by simp[hin],zA0]
  by_cases h:1∈left
  ·rw[if_pos (by simpa using h)];refine zCV fun bb hb=>?_
   refine zB7 (zUF (ds:=(numL ks).map Dt.int) (k:=8) (d:=.int (k:Nat)) rfl (by simp) (by simp[numL];lia) (by simp) (by simp)) ?_;subst hb;rw[show Dt.lst ((numL ks).map Dt.int++[.int (k:Nat)])=rowD (numL (ks++[k])) by unfold rowD numL;simp];refine zB7 (r:=[some (mat T,0),some (rowD (numL (ks++[k])),9),some (mat (ls++[left]),1),some (.int (k:Nat),0),some (rowD row,0),some (rowD left,0)]) ?_ ⟨ls++[left],ks++[k],0,_,_,_,rfl,hh h,kh,by simp[hps]⟩
   have:=zW9 (i:=2) (vs:=[5]) (e:=eV 5) (ρ:=[some (mat T,0),some (rowD (numL (ks++[k])),9),some (mat ls,1),some (.int (k:Nat),0),some (rowD row,0),some (rowD left,0)]) (ρ2:=[some (mat T,0),some (rowD (numL (ks++[k])),9),some (mat ls,1),some (.int (k:Nat),0),some (rowD row,0),some (rowD left,0)]) (ds:=ls.map rowD) (d:=rowD left) rfl rfl (by simp) (by simp;lia)
   rw[show Dt.lst (ls.map rowD++[rowD left])=mat (ls++[left]) by unfold mat;simp]at this;exact this
  ·rw[if_neg (by simpa using h)];exact⟨ls,ks,0,_,_,_,rfl,hm h,km h,hps⟩
 rintro r ⟨ls,ks,l2,o3,o4,o5,rfl,a,b,hps⟩
 exact .inr ⟨rowD (numL ks),by simp[sRetV],ks,ls,rfl,hps,a,b⟩
theorem zJX{n:Nat}{f:Nat->Nat->Int}(hn:n<=10)(hb:Bits n f):∃q:Nat,q<=n/\cnt n (KerF n f)=2 ^ q/\(∃ks,ks.length+q=n/\GK n (tab n f) ks n)/\zDK [mat (tab n f)]=okR (.int (q:Int)):=by
 have hT:=zBZ n f;have hr:=zIJ hb;obtain⟨ks,ls,h1,h2,h3,h4⟩:=zO4 hT hr (by lia);have hle:=h3.le;have hc:=zQK ls (zPQ h3.rows h3.lds);have e:cnt n (Ker ls)=cnt n (KerF n f):=zHI fun x hx=>by
  rw[h3.ker x hx,qDo (by rw[hT];exact qA5 _)];exact zJ6 hx.1
 rw[e]at hc;refine⟨n-ls.length,by lia,?_,⟨ks,by lia,h4⟩,?_⟩
 ·have hp:2 ^ n=2 ^ (n-ls.length)*2 ^ ls.length:=by rw[<- qGs];congr 1;lia
  rw[hp]at hc;exact Nat.eq_of_mul_eq_mul_right (Nat.pow_pos (by lia)) hc
 ·unfold zDK zL0
  have:((n-ls.length:Nat):Int)=(n:Int)-((numL ks).length:Int):=by simp[numL];lia
  simp[startO,h1,hT,this]
theorem zYD{n:Nat}{g:Nat->Int}{x y:List Int}(hx:RowN n x)(hy:RowN n y):sumN n (fun k=>g k*(addB x y).getD k 0)%2=(sumN n (fun k=>g k*x.getD k 0)+sumN n (fun k=>g k*y.getD k 0))%2:=by
 refine zGS fun k hk=>?_
 rw[zC5 x y k (by rw[hx.1,hy.1]) (by rw[hx.1];exact hk)]
 rcases zBL (k:=k) hx with a|a<;>rcases zBL (k:=k) hy with b|b<;>rw[a,b]<;>simp<;>lia
theorem zT6{n:Nat}{x y z:List Int}(hx:RowN n x)(hy:RowN n y)(hz:RowN n z)(h:addB x z=addB y z):x=y:=by
 refine zOV hx.1 hy.1 fun k hk=>?_
 have e:(addB x z).getD k 0=(addB y z).getD k 0:=by rw[h]
 rw[zC5 x z k (by rw[hx.1,hz.1]) (by rw[hx.1];exact hk),zC5 y z k (by rw[hy.1,hz.1]) (by rw[hy.1];exact hk)]at e
 rcases zBL (k:=k) hx with a|a<;>rcases zBL (k:=k) hy with b|b<;>rw[a,b]at e ⊢ <;> lia
theorem zMG{n:Nat}{g:Nat->Int}:∀{ks:List Nat},ks.Nodup->(∀k∈ks,k<n)->(∀k,k<n->k∉ks->g k=0)->sumN n g=(ks.map g).sum
 |[],_,_,h=>by rw[zBD fun k hk=>h k hk (by simp)];rfl
 |a::r,hd,hk,h=>by
  rw[qBf]at hd;have ha:=hk a (by simp);have ih:=zMG (n:=n) (g:=fun k=>if k=a then 0 else g k) (ks:=r) hd.2 (fun k hk'=>hk k (by simp[hk'])) fun k hkn hkr=>by
   split
   ·rfl
   ·rename_i z;exact h k hkn (by simp[z,hkr])
  have u:=zIN (f:=g) (g:=fun k=>if k=a then 0 else g k) ha fun k _ hka=>by rw[if_neg hka]
  rw[u,ih,if_pos rfl];have e:(r.map fun k=>if k=a then 0 else g k)=r.map g:=qB3 fun k hk'=>by rw[if_neg fun z=>hd.1 (by rw[<- z];exact hk')]
  rw[e,qAm,List.sum_cons]
  lia
theorem zR9{ks:List Nat}{g:Nat->Int}:(ks.map g).sum=sumN ks.length fun b=>g (ks.getD b 0):=by
 unfold sumN;rw[zH5 ks g]
theorem zIC{ks:List Nat}{k:Nat}(h:k∈ks):∃b,b<ks.length/\ks.getD b 0=k:=zEK h
theorem zMI(n:Nat)(f g:Nat->Int):sumN n (fun k=>f k+g k)=sumN n f+sumN n g:=by
 induction n with
 |zero=>rfl
 |succ n ih=>rw[zAX,zAX,zAX,ih];lia
theorem zGE(n:Nat)(c:Int)(f:Nat->Int):sumN n (fun k=>c*f k)=c*sumN n f:=by
 induction n with
 |zero=>simp[sumN]
 |succ n ih=>rw[zAX,zAX,ih,Int.mul_add]
theorem zOR(n m:Nat)(G:Nat->Nat->Int):sumN n (fun i=>sumN m fun b=>G b i)=sumN m fun b=>sumN n fun i=>G b i:=by
 induction n with
 |zero=>rw[zBD fun k hk=>by lia,zBD fun b _=>zBD fun k hk=>by lia]
 |succ n ih=>
  rw[zAX,ih,<- zMI];exact zB3 fun b _=>(zAX n fun i=>G b i).symm
theorem zRB{n:Nat}{f g:Nat->Int}(h:∀k,k<n->f k%2=g k%2):sumN n f%2=sumN n g%2:=by
 induction n with
 |zero=>rfl
 |succ n ih=>
  rw[zAX,zAX];have h1:=ih fun k hk=>h k (by lia)
  have h2:=h n (by lia)
  lia
def spr(n:Nat)(ks:List Nat)(e:List Int):List Int:=(qA4 n).map fun k=>sumN ks.length (fun b=>if ks.getD b 0=k then e.getD b 0 else 0)%2
theorem zUN(n:Nat)(ks:List Nat)(e:List Int):RowN n (spr n ks e):=⟨by simp[spr],fun x hx=>by
 obtain⟨k,_,rfl⟩:=qAl.mp hx;exact zF2 _⟩
theorem zUM{n:Nat}{ks:List Nat}(hk:∀k∈ks,k<n)(g:Nat->Int)(e:List Int):sumN n (fun k=>g k*(spr n ks e).getD k 0)%2=sumN ks.length (fun b=>g (ks.getD b 0)*e.getD b 0)%2:=by
 have h1:sumN n (fun k=>g k*(spr n ks e).getD k 0)%2=sumN n (fun k=>sumN ks.length fun b=>if ks.getD b 0=k then g k*e.getD b 0 else 0)%2:=by
  refine zRB fun k hkn=>?_
  have e1:(spr n ks e).getD k 0=sumN ks.length (fun b=>if ks.getD b 0=k then e.getD b 0 else 0)%2:=zB8 hkn;have e2:(sumN ks.length fun b=>if ks.getD b 0=k then g k*e.getD b 0 else 0)=g k*sumN ks.length (fun b=>if ks.getD b 0=k then e.getD b 0 else 0):=by
   rw[<- zGE];exact zB3 fun b _=>by split<;>simp
  rw[e1,e2,qGo,Int.emod_emod,<- qGo]
 rw[h1,zOR]
 congr 1
 refine zB3 fun b hb=>?_
 rw[zCH (j:=ks.getD b 0) (zC7 hk hb) fun k _ hkb=>by rw[if_neg fun z=>hkb z.symm],if_pos rfl]
theorem zGD{ks:List Nat}(h:ks.Pairwise (· < ·)):ks.Nodup:=qGw (fun{a b} hab z=>by lia) h
theorem zLR(k:Int){m:Nat}(hm:0<m):modD (.int k) (.int (m:Int))=some (.int (k%(m:Int))):=by simp[hm]
theorem zNZ(ns:List Int)(k:Int)(h0:0<=k)(h1:k<100000):∃c:Int,zD0 [.scr ns,.int k]=okR (.int c):=by
 have m1:mulD (.int 104729) (.int (k+1))=some (.int (104729*(k+1))):=zRZ (by lia) (by lia);have m2:∀z:Int,mulD (.int z) (.int 48271)=some (.int (z*48271)):=fun z=>zVE (by decide) (by decide)
 have m3:∀z:Int,mulD (.int z) (.int 69621)=some (.int (z*69621)):=fun z=>zVE (by decide) (by decide)
 have d1:∀z:Int,modD (.int z) (.int 2147483629)=some (.int (z%2147483629)):=fun z=>by simp
 have d2:∀z:Int,modD (.int z) (.int 2147483647)=some (.int (z%2147483647)):=fun z=>by simp
 have go:∀z:Int,∃c:Int,sSeq (sSet 3 0 [2,1] (eB modD (eB mulD (eB addD (eB modD (eV 2) (eC (.int 2147483629))) (eB mulD (eC (.int 104729)) (eB addD (eV 1) (eC (.int 1))))) (eC (.int 48271))) (eC (.int 2147483647)))) (sRet 0 0 [3] (eB modD (eB mulD (eV 3) (eC (.int 69621))) (eC (.int 2147483629)))) [some (.scr ns,0),some (.int k,0),some (.int z,0),none]=okR (.rt (.int c)):=fun z=>
  ⟨_,sg (b2 (b2 (b2 (b2 rfl rfl (d1 z)) (b2 rfl (b2 rfl rfl rfl) m1) rfl) rfl (m2 _)) rfl (d2 _)) (qA5 0) (sr (b2 (b2 rfl rfl (m3 _)) rfl (d1 _)) ⟨qA5 0,qA5 0⟩)⟩
 suffices h:∃c:Int,zD6 [some (.scr ns,0),some (.int k,0),none,none]=okR (.rt (.int c)) from h.imp fun c h=>zC9 rfl h
 unfold zD6
 by_cases hk:0<ns.length
 ·have hk':(0:Int)<(ns.length:Int):=qDz.mpr hk;have i1:=zVO (qC5 k (Int.ne_of_gt hk')) (qBr k hk');have d3:=zLR k hk;obtain⟨c,hc⟩:=go (ns[(k%(ns.length:Int)).toNat]?.getD 0);refine⟨c,sg rfl (qA5 0) (st (r':=[some (.scr ns,0),some (.int k,0),some (.int (ns[(k%(ns.length:Int)).toNat]?.getD 0),0),none]) (tb1 (b2 (bi1 rfl rfl) rfl (tl rfl (decide_eq_true hk')))) (ss (b2 rfl (b2 rfl (bi1 rfl rfl) d3) ?_) (qA5 0)) hc)⟩
  show(itA ns _).map _=_
  rw[i1];rfl
 ·have hk':¬(0:Int)<(ns.length:Int):=fun z=>hk (qDz.mp z)
  obtain⟨c,hc⟩:=go 0;exact⟨c,sg rfl (qA5 0) (sp (tb1 (b2 (bi1 rfl rfl) rfl (tl rfl (decide_eq_false hk')))) hc)⟩
def B2S(n:Nat)(r:Ro):Prop:=∃c:Int,∃f p l0 l3 o4,r=[some (.int c,l0),some (.int (n:Int),0),some (mat (tab n f),2),some (.int (p:Nat),l3),o4,none]/\BI n p false f
def M2S(n:Nat)(r:Ro):Prop:=∃c:Int,∃f l0 l2 o3 o4 o5,r=[some (.int c,l0),some (.int (n:Int),0),some (mat (tab n f),l2),o3,o4,o5]/\Bits n f/\Sym n f
theorem zW1(k:Int){m:Nat}(hm:0<m)(hz:m<1000000):divD (.int k) (.int (m:Int))=some (.int (k/(m:Int))):=by
 have:(m:Int)<1000000000000000000000000:=by lia
 simp[hm,this]
theorem zM7(c:Int)(n:Nat)(hn:n<=10):∃f,Bits n f/\Sym n f/\zD1 [.int c,.int (n:Int)]=okR (mat (tab n f)):=by
 suffices h:eiR (zD7 [some (.int c,0),some (.int (n:Int),0),none,none,none,none]) (fun _=>False) (fun d=>∃f,d=mat (tab n f)/\Bits n f/\Sym n f) by
  rcases h with⟨_,_,z⟩|⟨d,h1,f,rfl,h2,h3⟩
  ·exact z.elim
  ·exact⟨f,h2,h3,zC9 rfl h1⟩
 unfold zD7;refine zBQ (P:=fun r=>r=[some (.int c,0),some (.int (n:Int),0),some (mat (tab n fun _ _=>0),2),none,none,none]) (zD8 ?_) ?_
 ·have hc:eComp (iR1 (aCons (eV 1) aNil)) 1 (.one 6) Mi.tYes (eComp (iR1 (aCons (eV 1) aNil)) 1 (.one 7) Mi.tYes (eC (.int 0))) [some (.int c),some (.int (n:Int)),none,none,none,none]=okR (mat (tab n fun _ _=>0)):=
   zGL _ rfl rfl (by lia) (zCL (by simp) (by lia)) (fun a=>zCL (by simp) (by lia)) fun a b ha hb=>by simp
  have hd:=zC1 (tab n fun _ _=>0);simp[hc,hd]
 rintro r rfl
 refine zBQ (P:=fun r=>r=[some (.int c,0),some (.int (n:Int),0),some (mat (tab n fun _ _=>0),2),some (.int 0,0),none,none]) (zD8 (by simp)) ?_
 rintro r rfl
 refine zBQ (P:=M2S n) (zD8 ?_) ?_
 ·refine zRX (B2S n) (fun r=>n-zNX 3 r) (fun r=>B2S n r/\n<=zNX 3 r) ⟨c,_,0,0,0,none,rfl,BI.start n false⟩ (by lia) ?_ ?_
  ·rintro r ⟨c,f,p,l0,l3,o4,rfl,a⟩
   by_cases hp:p<n
   ·refine .inr ⟨by simp[hp],?_⟩;refine zCV fun bb hb=>?_
    simp;subst hb;refine zCV fun bb hb=>?_
    simp
    generalize c/4=c'
    generalize c%4=k
    subst hb;refine zCV fun bb hb=>?_
    rw[zE3]
    by_cases h2:1<k/\p+1<n
    ·rw[show tAn (tB (eB (cmpD fun i j=>decide (j<i)) (eV 4) (eC (.int 1)))) (tB (eB (cmpD fun i j=>decide (i<j)) (eB addD (eV 3) (eC (.int 1))) (eV 1))) (full [some (.int c',0),some (.int (n:Int),0),some (mat (tab n f),2),some (.int (p:Nat),l3),some (.int k,0),none])=okR true by simp[h2.1,show(p:Int)+1<(n:Int) by lia],zA0,if_pos rfl];refine zCV fun b2 hb2=>?_
     refine zB7 (zEE (l:=0) (a:=p) (b:=p+1) (v:=1) rfl (by simp) (by simp) (by simp) hp h2.2) ?_;subst hb2;refine zCV fun b2 hb2=>?_
     refine zB7 (zEE (l:=0) (a:=p+1) (b:=p) (v:=1) rfl (by simp) (by simp) (by simp) h2.2 hp) ?_;subst hb2;refine zB7 (r:=[some (.int c',0),some (.int (n:Int),0),some (mat (tab n (put1 (p+1) p (put1 p (p+1) f))),2),some (.int ((p+1:Nat):Int),1),some (.int k,0),none]) (by simp;rfl) ?_;subst hb;refine zB7 (r:=[some (.int c',0),some (.int (n:Int),0),some (mat (tab n (put1 (p+1) p (put1 p (p+1) f))),2),some (.int ((p+2:Nat):Int),1),some (.int k,0),none]) (by simp;lia) ?_;exact⟨⟨c',_,p+2,_,_,_,rfl,a.two h2.2⟩,by simp[zNX];lia⟩
    ·rw[show tAn (tB (eB (cmpD fun i j=>decide (j<i)) (eV 4) (eC (.int 1)))) (tB (eB (cmpD fun i j=>decide (i<j)) (eB addD (eV 3) (eC (.int 1))) (eV 1))) (full [some (.int c',0),some (.int (n:Int),0),some (mat (tab n f),2),some (.int (p:Nat),l3),some (.int k,0),none])=okR false by
      by_cases z:1<k
      ·simp[z,show ¬(p:Int)+1<(n:Int) by lia]
      ·simp[z],zA0,if_neg (by simp),zE3]
     by_cases h3:0<k
     ·rw[show tB (eB (cmpD fun i j=>decide (j<i)) (eV 4) (eC (.int 0))) (full [some (.int c',0),some (.int (n:Int),0),some (mat (tab n f),2),some (.int (p:Nat),l3),some (.int k,0),none])=okR true by simp[h3],zA0,if_pos rfl];refine zB7 (zEE (l:=0) (a:=p) (b:=p) (v:=1) rfl (by simp) (by simp) (by simp) hp hp) ?_;subst hb;refine zB7 (r:=[some (.int c',0),some (.int (n:Int),0),some (mat (tab n (put1 p p f)),2),some (.int ((p+1:Nat):Int),1),some (.int k,0),none]) (by simp;rfl) ?_;exact⟨⟨c',_,p+1,_,_,_,rfl,a.one hp⟩,by simp[zNX];lia⟩
     ·rw[show tB (eB (cmpD fun i j=>decide (j<i)) (eV 4) (eC (.int 0))) (full [some (.int c',0),some (.int (n:Int),0),some (mat (tab n f),2),some (.int (p:Nat),l3),some (.int k,0),none])=okR false by simp[h3],zA0,if_neg (by simp)];refine zB7 (r:=[some (.int c',0),some (.int (n:Int),0),some (mat (tab n f),2),some (.int (p:Nat),l3),some (.int k,0),none]) rfl ?_;subst hb;refine zB7 (r:=[some (.int c',0),some (.int (n:Int),0),some (mat (tab n f),2),some (.int ((p+1:Nat):Int),1),some (.int k,0),none]) (by simp) ?_;exact⟨⟨c',_,p+1,_,_,_,rfl,a.skip hp⟩,by simp[zNX];lia⟩
   ·exact .inl ⟨by simp[hp],⟨c,f,p,l0,l3,o4,rfl,a⟩,by simp[zNX];lia⟩
  ·rintro r ⟨⟨c,f,p,l0,l3,o4,rfl,a⟩,h⟩
   exact⟨c,f,_,_,_,_,_,rfl,a.bits,a.sym⟩
 intro r hr;refine zBQ (P:=M2S n) (zD8 ?_) ?_
 ·rw[zCT,show iR1 (aCons (eC (.int 14)) aNil) (full r)=okR (nums 0 14) from zCL (n:=14) (by simp) (by lia),zA0];refine zJ0 (fun _=>M2S n) hr (fun k hk r hr=>?_) fun r h=>h
  obtain⟨c,f,l0,l2,o3,o4,o5,rfl,h1,h2⟩:=hr;rw[zE3]
  by_cases h:1<n
  ·rw[show tB (eB (cmpD fun i j=>decide (j<i)) (eV 1) (eC (.int 1))) (full ([some (.int c,l0),some (.int (n:Int),0),some (mat (tab n f),l2),o3,o4,o5].set 5 (some (.int (k:Nat),0))))=okR true by simp;lia,zA0,if_pos rfl];have m1:mulD (.int (n:Int)) (.int ((n:Int)-1))=some (.int ((n*(n-1):Nat):Int)):=by
    rw[zRZ (by lia) (by lia)]
    congr 2
    rw[Int.natCast_mul]
    congr 1
    lia
   have hpos:0<n*(n-1):=Nat.mul_pos (by lia) (by lia);have hle:n*(n-1)<=10*10:=Nat.mul_le_mul (by lia) (by lia)
   generalize n*(n-1)=N at m1 hpos hle
   have d1:=zLR c hpos;have d2:=zW1 c hpos (by lia);obtain⟨i,j,hi,hj,hij,hm⟩:=zNY n f (c%(N:Int)) h hn;have he:∀o3 o4 o5:Option Dt,eCall zBU (aCons (eV 2) (aCons (eB modD (eV 0) (eB mulD (eV 1) (eB subD (eV 1) (eC (.int 1))))) aNil)) [some (.int c),some (.int (n:Int)),some (mat (tab n f)),o3,o4,o5]=okR (mat (tab n (colF i j (rowF i j f)))):=by
    intro o3 o4 o5;simp only[zGO,zC6,zER,x_eV,x_eB,x_eC,qBk,qBl,zA0,zUH,zAE,m1,d1];exact hm
   refine zCV fun bb hb=>?_
   have fin:∀l0 l2 o3 o4 o5,nxR (bb [some (.int c,l0),some (.int (n:Int),0),some (mat (tab n (colF i j (rowF i j f))),l2),o3,o4,o5]) (M2S n):=by
    intro l0 l2 o3 o4 o5;subst hb;refine zB7 (r:=[some (.int (c/(N:Int)),0),some (.int (n:Int),0),some (mat (tab n (colF i j (rowF i j f))),l2),o3,o4,o5]) ?_ ⟨_,_,_,_,_,_,_,rfl,zS0 h1 hi,zVG h2 hi hj hij⟩;simp only[zHX,zGN,zHZ,x_eV,x_eB,x_eC,qBk,qBl,qDw,zA0,zUH,zAE,m1,d2];simp
   exact zDN (he _ _ _) (by simp[zSG,frz0,m1,d1,hm,-zUJ]) (fin _ _ _ _ _) (fin _ _ _ _ _)
  ·rw[show tB (eB (cmpD fun i j=>decide (j<i)) (eV 1) (eC (.int 1))) (full ([some (.int c,l0),some (.int (n:Int),0),some (mat (tab n f),l2),o3,o4,o5].set 5 (some (.int (k:Nat),0))))=okR false by simp;lia,zA0,if_neg (by simp)];exact⟨_,_,_,_,_,_,_,rfl,h1,h2⟩
 rintro r ⟨c,f,l0,l2,o3,o4,o5,rfl,h1,h2⟩
 exact .inr ⟨mat (tab n f),by simp[sRetV],f,rfl,h1,h2⟩
noncomputable def putv(i j:Nat)(v:Int)(f:Nat->Nat->Int):Nat->Nat->Int:=fun x y=>if x=j/\y=i then v else if x=i/\y=j then v else f x y
theorem zP4{n i j:Nat}{v:Int}{f:Nat->Nat->Int}(h:Bits n f)(hv:Bit v):Bits n (putv i j v f):=fun x y hx hy=>by
 unfold putv
 split
 ·exact hv
 ·split
  ·exact hv
  ·exact h x y hx hy
theorem zRP{n i j:Nat}{v:Int}{f:Nat->Nat->Int}(h:Sym n f):Sym n (putv i j v f):=fun x y hx hy=>by
 unfold putv;rw[h x y hx hy]
 by_cases h1:x=j/\y=i
 ·rw[if_pos h1]
  by_cases h2:y=j/\x=i
  ·rw[if_pos h2]
  ·rw[if_neg h2,if_pos ⟨h1.2,h1.1⟩]
 ·rw[if_neg h1]
  by_cases h2:x=i/\y=j
  ·rw[if_pos h2,if_pos ⟨h2.2,h2.1⟩]
  ·rw[if_neg h2,if_neg fun z=>h2 ⟨z.2,z.1⟩,if_neg fun z=>h1 ⟨z.2,z.1⟩]
theorem zS8{r:Ro}{i m l a:Nat}{xs:List Int}{v:Int}{e1 e2:EM}(h:r[i]?=some (some (rowD xs,l+1)))(h2:e2 (full r)=okR (.int v))(h1:e1 (full r)=okR (.int (a:Nat)))(ha:a<xs.length):sItem i m e1 e2 r=okR (.nx (r.set i (some (rowD (xs.set a v),l+1)))):=by
 unfold sItem;rw[h2,zA0,h];show zA3 (e1 (full r)) _=_;rw[h1,zA0];dsimp only;rw[zG1 (by lia) (by simp;lia)];dsimp only;rw[if_pos ⟨qAt _,qAt _⟩,qBc];unfold rowD;rw[qC4]
def Fe(n:Nat)(f:Nat->Nat->Int)(S:Nat->Prop):Prop:=∀x,RowN n x->(∀i,i<n->¬S i->x.getD i 0=0)->(∀i,i<n->S i->Ev n (f i) x)->∀i,i<n->x.getD i 0=0
theorem zMY{n:Nat}{f:Nat->Nat->Int}{S T:Nat->Prop}(h:∀i,i<n->(S i↔T i)):Fe n f S↔Fe n f T:=by
 have one:∀{S T:Nat->Prop},(∀i,i<n->(S i↔T i))->Fe n f S->Fe n f T:=fun{S T} h a x hx h1 h2=>
  a x hx (fun i hi hs=>h1 i hi fun z=>hs ((h i hi).mpr z)) fun i hi hs=>h2 i hi ((h i hi).mp hs)
 exact⟨one h,one fun i hi=>(h i hi).symm⟩
theorem zYC{n:Nat}{f:Nat->Nat->Int}{ks:List Nat}(hd:ks.Nodup)(hk:∀k∈ks,k<n):NS ks.length (sub ks f)↔Fe n f (·∈ks):=by
 constructor
 ·intro hns x hx h1 h2 i hi
  let e:List Int:=(qA4 ks.length).map fun a=>x.getD (ks.getD a 0) 0
  have he:RowN ks.length e:=⟨by simp[e],fun v hv=>by
   obtain⟨a,_,rfl⟩:=qAl.mp hv;exact zBL hx⟩
  have ge:∀a,a<ks.length->e.getD a 0=x.getD (ks.getD a 0) 0:=fun a ha=>zB8 ha
  have h0:=hns e he fun a ha=>by
   have hka:=zC7 hk ha;have hm:ks.getD a 0∈ks:=zAM ha;have e1:=h2 _ hka hm;have e4:=zMG (n:=n) (g:=fun k=>f (ks.getD a 0) k*x.getD k 0) hd hk fun k hkn hkk=>by rw[h1 k hkn hkk];simp
   unfold Ev at e1;rw[e4,zR9]at e1;rw[zB3 (g:=fun b=>f (ks.getD a 0) (ks.getD b 0)*x.getD (ks.getD b 0) 0) fun b hb=>by rw[ge b hb];rfl];exact e1
  by_cases hi':i∈ks
  ·obtain⟨b,hb,rfl⟩:=zIC hi';rw[<- ge b hb];exact h0 b
  ·exact h1 i hi hi'
 ·intro hf e he h j
  by_cases hj:j<ks.length
  ·have hg:∀b,b<ks.length->(spr n ks e).getD (ks.getD b 0) 0=e.getD b 0:=fun b hb=>by
    have e1:(spr n ks e).getD (ks.getD b 0) 0=sumN ks.length (fun c=>if ks.getD c 0=ks.getD b 0 then e.getD c 0 else 0)%2:=zB8 (zC7 hk hb);rw[e1,zCH (j:=b) hb fun c hc hcb=>by
     rw[if_neg fun z=>hcb ?_];have hc':ks[c]?=some ks[c]:=qA7 hc;have hb':ks[b]?=some ks[b]:=qA7 hb;rw[qA0,qA0,hc',hb']at z;exact(qF7 hd).mp (by simpa using z),if_pos rfl]
    rcases zBL (k:=b) he with w|w<;>rw[w]<;>rfl
   have h0:=hf (spr n ks e) (zUN n ks e) (fun i hi hik=>by
    have e1:(spr n ks e).getD i 0=sumN ks.length (fun c=>if ks.getD c 0=i then e.getD c 0 else 0)%2:=zB8 hi;rw[e1,zBD fun c hc=>by rw[if_neg fun z=>hik (by rw[<- z];exact zAM hc)]]
    rfl) (fun i hi hik=>by
    obtain⟨a,ha,rfl⟩:=zIC hik;unfold Ev;rw[zUM hk];exact h a ha)
   rw[<- hg j hj];exact h0 _ (zC7 hk hj)
  ·simp[qA0,qBq (show e.length<=j by rw[he.1];lia)]
def img(n:Nat)(f:Nat->Nat->Int)(x:List Int)(i:Nat):Int:=sumN n (fun k=>f i k*x.getD k 0)%2
theorem zLZ(n:Nat)(f:Nat->Nat->Int)(x:List Int)(i:Nat):Bit (img n f x i):=zF2 _
theorem zVT{n:Nat}{f:Nat->Nat->Int}{x y:List Int}(hx:RowN n x)(hy:RowN n y)(i:Nat):img n f (addB x y) i=(img n f x i+img n f y i)%2:=by
 unfold img;rw[zYD hx hy]
 lia
theorem zJ1(ns:List Int)(k:Nat)(hk:k<100):∃N:Int,zBW [.scr ns,.int (k:Int)]=okR (.int N):=by
 suffices h:eiR (zDY [some (.scr ns,0),some (.int (k:Int),0),none,none]) (fun _=>False) (fun d=>∃N:Int,d=.int N) by
  rcases h with⟨_,_,z⟩|⟨d,h1,N,rfl⟩
  ·exact z.elim
  ·exact⟨N,zC9 rfl h1⟩
 have pw:powD (.int 10) (.int 60)=some (.int 1000000000000000000000000000000000000000000000000000000000000):=by simp
 unfold zDY;refine zBQ (P:=fun r=>r=[some (.scr ns,0),some (.int (k:Int),0),some (.int 0,0),none]) (zD8 (zB7 (ss rfl (qA5 0)) rfl)) ?_
 rintro r rfl
 refine zBQ (P:=fun r=>r=[some (.scr ns,0),some (.int (k:Int),0),some (.int 0,0),none]) ?_ ?_
 ·cases ns with
  |nil=>exact .inl ⟨_,by rw[zE3,ta0 (tb1 (k:=false) (b2 (bi1 rfl rfl) rfl rfl)),zA0,if_neg (by simp)];rfl,rfl⟩
  |cons a t=>
   have i1:ixD (.scr (a::t)) (.int 0)=some (.int a):=by
    show(itA (a::t) 0).map _=_
    rw[show itA (a::t) 0=some a from zEU (j:=0) rfl rfl];rfl
   have hA:tB (eB (cmpD fun i j=>decide (j<i)) (eBi lenD (aCons (eV 0) aNil)) (eC (.int 0))) (full [some (.scr (a::t),0),some (.int (k:Int),0),some (.int 0,0),none])=okR true:=tb1 (b2 (bi1 rfl rfl) rfl (tl rfl (decide_eq_true (qDz.mpr (Nat.succ_pos _)))));have p2:mulD (.int 2) (.int 1000000000000000000000000000000000000000000000000000000000000)=some (.int 2000000000000000000000000000000000000000000000000000000000000):=by rw[zRZ (by decide) (by decide)];rfl
   have hm2:modD (.int a) (.int 2)=some (.int (a%2)):=by simp
   by_cases hp:a%2=1
   ·have hB:tB (eB eqD (eB modD (eB ixD (eV 0) (eC (.int 0))) (eC (.int 2))) (eC (.int 1))) (full [some (.scr (a::t),0),some (.int (k:Int),0),some (.int 0,0),none])=okR true:=tb1 (b2 (b2 (b2 rfl rfl i1) rfl hm2) rfl (by simp[hp]));have hC:tB (eB (cmpD fun i j=>decide (i<j)) (eV 1) (eBi lenD (aCons (eV 0) aNil))) (full [some (.scr (a::t),0),some (.int (k:Int),0),some (.int 0,0),none])=okR (decide ((k:Int)<((a::t).length:Int))):=tb1 (b2 rfl (bi1 rfl rfl) rfl);have rv:∀z:Int,sRetV 1 2 [some (.scr (a::t),0),some (.int (k:Int),0),some (.int z,0),none]=okR (.rt (.int z)):=fun z=>by simp
    by_cases hl:k<(a::t).length
    ·obtain⟨c,hc⟩:∃c,itA (a::t) (k:Int)=some c:=⟨_,zEU (j:=k) rfl (qA7 hl)⟩
     have hc':ixD (.scr (a::t)) (.int (k:Int))=some (.int c):=by
      show(itA (a::t) (k:Int)).map _=_
      rw[hc];rfl
     obtain⟨q,hq,hq1,hq2⟩:∃q:Int,subD (.int 2) (.int (if(1:Int)<(k:Int)then 1 else(k:Int)))=some (.int q)/\0<q/\q<1000000000000000000000000:=⟨2-(if(1:Int)<(k:Int)then 1 else(k:Int)),rfl,by split<;>lia,by split<;>lia⟩
     have d1:∀z:Int,divD (.int z) (.int q)=some (.int (z/q)):=fun z=>by simp[hq1,hq2]
     have d2:modD (.int c) (.int 2000000000000000000000000000000000000000000000000000000000000)=some (.int (c%2000000000000000000000000000000000000000000000000000000000000)):=by simp
     refine .inr ⟨.int (c%2000000000000000000000000000000000000000000000000000000000000/q),?_,_,rfl⟩;rw[zE3,ta1 hA hB,zA0,if_pos rfl];rw[decide_eq_true (qGp.mpr hl)]at hC;exact st (r':=[some (.scr (a::t),0),some (.int (k:Int),0),some (.int (c%2000000000000000000000000000000000000000000000000000000000000/q),0),none]) hC (ss (b2 (b2 (b2 rfl rfl hc') (b2 rfl (b2 rfl rfl pw) p2) d2) (b2 rfl (bi2 rfl rfl rfl) hq) (d1 _)) (qA5 0)) (rv _)
    ·refine .inr ⟨.int 0,?_,_,rfl⟩;rw[zE3,ta1 hA hB,zA0,if_pos rfl];rw[decide_eq_false fun z=>hl (qGp.mp z)]at hC;exact sp hC (rv 0)
   ·refine .inl ⟨_,?_,rfl⟩;have hB:tB (eB eqD (eB modD (eB ixD (eV 0) (eC (.int 0))) (eC (.int 2))) (eC (.int 1))) (full [some (.scr (a::t),0),some (.int (k:Int),0),some (.int 0,0),none])=okR false:=tb1 (b2 (b2 (b2 rfl rfl i1) rfl hm2) rfl (by simp[hp]));rw[zE3,ta1 hA hB,zA0,if_neg (by simp)];rfl
 rintro r rfl
 refine zBQ (P:=fun r=>∃N:Int,∃l2 o3,r=[some (.scr ns,0),some (.int (k:Int),0),some (.int N,l2),o3]) (zD8 ?_) ?_
 ·rw[zCT,show iR1 (aCons (eC (.int 7)) aNil) (full [some (.scr ns,0),some (.int (k:Int),0),some (.int 0,0),none])=okR (nums 0 7) from zCL (n:=7) (by simp) (by decide),zA0];refine zJ0 (fun _ r=>∃N:Int,∃l2 o3,r=[some (.scr ns,0),some (.int (k:Int),0),some (.int N,l2),o3]) ⟨0,0,none,rfl⟩ (fun j hj r hr=>?_) fun r h=>h
  obtain⟨N,l2,o3,rfl⟩:=hr;obtain⟨c,hc⟩:=zNZ ns (7*(k:Int)+(j:Int)) (by lia) (by lia);have m2:mulD (.int N) (.int 2147483629)=some (.int (N*2147483629)):=zVE (by decide) (by decide);have m3:mulD (.int 7) (.int (k:Int))=some (.int (7*(k:Int))):=by rw[zRZ (by decide) (by decide)]
  exact zB7 (ss (b2 (b2 rfl rfl m2) (c2 rfl (b2 (b2 rfl rfl m3) rfl rfl) hc) rfl) (qAt _)) ⟨_,_,_,rfl⟩
 rintro r ⟨N,l2,o3,rfl⟩
 have d3:modD (.int N) (.int 1000000000000000000000000000000000000000000000000000000000000)=some (.int (N%1000000000000000000000000000000000000000000000000000000000000)):=by simp
 exact .inr ⟨_,sr (b2 rfl (b2 rfl rfl pw) d3) ⟨qAt _,qAt _⟩,_,rfl⟩
def KdT(N:Int)(n:Nat)(r:Ro):Prop:=∃c:Int,∃ks:List Nat,∃l3 l4 o5,r=[some (.int N,0),some (.int 10,0),some (.int (n:Int),0),some (.int c,l3),some (rowD (numL ks),l4+1),o5,none,none,none]/\ks.length=n/\∀k∈ks,k<n
def TbT(N:Int)(n:Nat)(ks:List Nat)(r:Ro):Prop:=∃c:Int,∃f l3 l4 o5 o7 o8,r=[some (.int N,0),some (.int 10,0),some (.int (n:Int),0),some (.int c,l3),some (rowD (numL ks),l4),o5,some (mat (tab n f),2),o7,o8]/\Bits n f/\Sym n f
theorem zO9(N:Int):∃n f,n<=10/\Bits n f/\Sym n f/\zDU [.int N,.int 10]=okR (mat (tab n f)):=by
 obtain⟨n,hn⟩:∃n:Nat,N/4%11=(n:Int):=⟨(N/4%11).toNat,by lia⟩
 have hn5:n<=10:=by lia
 suffices h:eiR (zE0 [some (.int N,0),some (.int 10,0),none,none,none,none,none,none,none]) (fun _=>False) (fun d=>∃f,d=mat (tab n f)/\Bits n f/\Sym n f) by
  rcases h with⟨_,_,z⟩|⟨d,h1,f,rfl,h2,h3⟩
  ·exact z.elim
  ·exact⟨n,f,hn5,h2,h3,zC9 rfl h1⟩
 have dv4:divD (.int N) (.int 4)=some (.int (N/4)):=by simp
 have dv11:divD (.int (N/4)) (.int (10+1))=some (.int (N/4/11)):=by simp
 have md11:modD (.int (N/4)) (.int (10+1))=some (.int (n:Int)):=by simp[hn]
 unfold zE0;refine zBQ (P:=fun r=>r=[some (.int N,0),some (.int 10,0),some (.int (n:Int),0),none,none,none,none,none,none]) (zD8 (zB7 (ss (b2 (b2 rfl rfl dv4) (b2 rfl rfl rfl) md11) (qA5 0)) rfl)) ?_
 rintro r rfl
 refine zBQ (P:=fun r=>r=[some (.int N,0),some (.int 10,0),some (.int (n:Int),0),some (.int (N/4/11),0),none,none,none,none,none]) (zD8 (zB7 (ss (b2 (b2 rfl rfl dv4) (b2 rfl rfl rfl) dv11) (qA5 0)) rfl)) ?_
 rintro r rfl
 generalize N/4/11=c
 refine zBQ (P:=fun r=>r=[some (.int N,0),some (.int 10,0),some (.int (n:Int),0),some (.int c,0),none,none,none,none,none]) ?_ ?_
 ·obtain⟨f,h1,h2,h3⟩:=zM7 c n (by lia)
  by_cases h:N%4=3
  ·exact .inr ⟨mat (tab n f),by simp[h,h3],f,rfl,h1,h2⟩
  ·exact .inl ⟨_,by simp[h],rfl⟩
 rintro r rfl
 refine zBQ (P:=fun r=>r=[some (.int N,0),some (.int 10,0),some (.int (n:Int),0),some (.int c,0),some (rowD (numL (qA4 n)),1),none,none,none,none]) (zD8 ?_) ?_
 ·have hr:rangeD [.int (n:Int)]=some (rowD (numL (qA4 n))):=by
   unfold rangeD;dsimp only;rw[if_pos (by lia),numD,qBc,zCJ]
  simp[hr]
 rintro r rfl
 refine zBQ (P:=KdT N n) (zD8 ?_) ?_
 ·rw[zE3]
  by_cases h:N%4=2
  ·rw[show tB (eB eqD (eB modD (eV 0) (eC (.int 4))) (eC (.int 2))) (full [some (.int N,0),some (.int 10,0),some (.int (n:Int),0),some (.int c,0),some (rowD (numL (qA4 n)),1),none,none,none,none])=okR true by simp[h],zA0,if_pos rfl];rw[zCT,show iR2 (aCons (eC (.int 1)) (aCons (eV 2) aNil)) (full [some (.int N,0),some (.int 10,0),some (.int (n:Int),0),some (.int c,0),some (rowD (numL (qA4 n)),1),none,none,none,none])=okR ((qA4 (n-1)).map fun k:Nat=>Dt.int (1+(k:Int))) by
    unfold iR2;simp;rw[if_pos (by lia)]
    rfl,zA0]
   refine zVB (fun k:Nat=>Dt.int (1+(k:Int))) (qA4 (n-1)) (fun _=>KdT N n) ⟨c,qA4 n,0,0,none,rfl,by simp,fun k hk=>by simpa using hk⟩ (fun q k hq r hr=>?_) fun r h=>h
   obtain⟨c,ks,l3,l4,o5,rfl,h1,h2⟩:=hr;have hk:k<n-1:=by have:=qBi hq;simpa using this
   have nl:(numL ks).length=n:=by simp[numL,h1]
   have hpos:0<1+k:=by lia
   have d1:modD (.int c) (.int (1+(k:Int)))=some (.int (c%((1+k:Nat):Int))):=by
    have:=zLR c hpos
    rwa [show((1+k:Nat):Int)=1+(k:Int) by lia]at this ⊢
   obtain⟨w,hw1,hw2⟩:∃w:Nat,w<n/\(eIf (tB (eB eqD (eB modD (eB divD (eV 3) (eC (.int 10))) (eC (.int 2))) (eC (.int 1)))) (eB ixD (eV 4) (eB modD (eV 3) (eV 5))) (eV 5)) [some (.int N),some (.int 10),some (.int (n:Int)),some (.int c),some (rowD (numL ks)),some (.int (1+(k:Int))),none,none,none]=okR (.int (w:Int)):=by
    by_cases h:c/10%2=1
    ·obtain⟨a,ha⟩:∃a:Nat,c%((1+k:Nat):Int)=(a:Int):=⟨(c%((1+k:Nat):Int)).toNat,by have:=qC5 c (show((1+k:Nat):Int)≠0 by lia);lia⟩
     have han:a<n:=by have:=qBr c (show(0:Int)<((1+k:Nat):Int) by lia);lia
     have i1:=zHU (numL ks) a (by lia);have g:(numL ks).getD a 0=((ks.getD a 0:Nat):Int):=by unfold numL;rw[zFC (d:=0) (by lia)]
     rw[g]at i1;rw[ha]at d1;refine⟨ks.getD a 0,zC7 h2 (by lia),?_⟩;simp[-qA0,h,d1,i1]
    ·exact⟨1+k,by lia,by simp[h]⟩
   refine zCV fun bb hb=>?_
   refine zB7 (zS8 (l:=l4) (a:=1+k) (v:=(w:Int)) (xs:=numL ks) rfl hw2 (by simp) (by lia)) ?_;subst hb;refine zB7 (r:=[some (.int N,0),some (.int 10,0),some (.int (n:Int),0),some (.int (c/20),0),some (rowD (numL (ks.set (1+k) w)),l4+1),some (.int (1+(k:Int)),0),none,none,none]) ?_ ⟨_,_,_,_,_,rfl,by simp[h1],fun j hj=>(qAz hj).elim (h2 j) fun z=>by rw[z];exact hw1⟩;have e:numL (ks.set (1+k) w)=(numL ks).set (1+k) (w:Int):=by unfold numL;rw[qC4]
   simp[e]
  ·rw[show tB (eB eqD (eB modD (eV 0) (eC (.int 4))) (eC (.int 2))) (full [some (.int N,0),some (.int 10,0),some (.int (n:Int),0),some (.int c,0),some (rowD (numL (qA4 n)),1),none,none,none,none])=okR false by simp[h],zA0,if_neg (by simp)];exact⟨c,qA4 n,0,0,none,rfl,by simp,fun k hk=>by simpa using hk⟩
 rintro r ⟨c,ks,l3,l4,o5,rfl,hkl,hkn⟩
 refine zBQ (P:=TbT N n ks) (zD8 ?_) ?_
 ·have hc:eComp (iR1 (aCons (eV 2) aNil)) 1 (.one 9) Mi.tYes (eComp (iR1 (aCons (eV 2) aNil)) 1 (.one 10) Mi.tYes (eC (.int 0))) [some (.int N),some (.int 10),some (.int (n:Int)),some (.int c),some (rowD (numL ks)),o5.map qE2,none,none,none]=okR (mat (tab n fun _ _=>0)):=
   zGL _ rfl rfl (by lia) (zCL (by simp) (by lia)) (fun a=>zCL (by simp) (by lia)) fun a b ha hb=>by simp
  have hd:=zC1 (tab n fun _ _=>0);refine zB7 (r:=[some (.int N,0),some (.int 10,0),some (.int (n:Int),0),some (.int c,l3),some (rowD (numL ks),l4+1),o5,some (mat (tab n fun _ _=>0),2),none,none]) ?_ ⟨c,_,_,_,_,_,_,rfl,fun _ _ _ _=>.inl rfl,fun _ _ _ _=>rfl⟩;exact ss hc hd
 intro r hr;refine zBQ (P:=TbT N n ks) (zD8 ?_) ?_
 ·rw[zCT,show iR1 (aCons (eV 2) aNil) (full r)=okR (nums 0 n) by obtain⟨c,f,l3,l4,o5,o7,o8,rfl,_⟩:=hr;exact zCL (by simp) (by lia),zA0];refine zJ0 (fun _=>TbT N n ks) hr (fun i hi r hr=>?_) fun r h=>h
  rw[zCT,show iR1 (aCons (eB addD (eV 7) (eC (.int 1))) aNil) (full (r.set 7 (some (.int (i:Nat),0))))=okR (nums 0 (i+1)) by obtain⟨c,f,l3,l4,o5,o7,o8,rfl,_⟩:=hr;exact zCL (by simp) (by lia),zA0];refine zJ0 (fun _ r=>∃c:Int,∃f l3 l4 o5 o8,r=[some (.int N,0),some (.int 10,0),some (.int (n:Int),0),some (.int c,l3),some (rowD (numL ks),l4),o5,some (mat (tab n f),2),some (.int (i:Nat),0),o8]/\Bits n f/\Sym n f) ?_ (fun j hj r hr=>?_) fun r h=>?_
  ·obtain⟨c,f,l3,l4,o5,o7,o8,rfl,h1,h2⟩:=hr;exact⟨c,f,l3,l4,o5,o8,rfl,h1,h2⟩
  ·obtain⟨c,f,l3,l4,o5,o8,rfl,h1,h2⟩:=hr;have md2:modD (.int c) (.int 2)=some (.int (c%2)):=by simp
   have dv2:divD (.int c) (.int 2)=some (.int (c/2)):=by simp
   refine zCV fun bb hb=>?_
   refine zB7 (zEE (l:=0) (a:=i) (b:=j) (v:=c%2) rfl rfl rfl (b2 rfl rfl md2) hi (by lia)) ?_;subst hb;refine zCV fun bb hb=>?_
   refine zB7 (zEE (l:=0) (a:=j) (b:=i) (v:=c%2) rfl rfl rfl (b2 rfl rfl md2) (by lia) hi) ?_;subst hb;refine zB7 (r:=[some (.int N,0),some (.int 10,0),some (.int (n:Int),0),some (.int (c/2),0),some (rowD (numL ks),l4),o5,some (mat (tab n (putv i j (c%2) f)),2),some (.int (i:Nat),0),some (.int (j:Nat),0)]) (ss (b2 rfl rfl dv2) (qA5 0)) ?_;exact⟨_,_,_,_,_,_,rfl,zP4 h1 (zF2 _),zRP h2⟩
  ·obtain⟨c,f,l3,l4,o5,o8,rfl,h1,h2⟩:=h;exact⟨c,f,l3,l4,o5,_,o8,rfl,h1,h2⟩
 rintro r ⟨c,f,l3,l4,o5,o7,o8,rfl,h1,h2⟩
 have hc:∀o0 o1 o3 o5 o7 o8:Option Dt,eComp (iR1 (aCons (eV 2) aNil)) 1 (.one 9) Mi.tYes (eComp (iR1 (aCons (eV 2) aNil)) 1 (.one 10) Mi.tYes (eB ixD (eB ixD (eV 6) (eB ixD (eV 4) (eV 9))) (eB ixD (eV 4) (eV 10)))) [o0,o1,some (.int (n:Int)),o3,some (rowD (numL ks)),o5,some (mat (tab n f)),o7,o8]=okR (mat (tab n (sub ks f))):=by
  intro o0 o1 o3 o5 o7 o8;refine zGL _ rfl rfl (by lia) (zCL (by simp) (by lia)) (fun a=>zCL (by simp) (by lia)) fun a b ha hb=>?_
  have nl:(numL ks).length=ks.length:=by simp[numL]
  have g:∀a,a<n->(numL ks).getD a 0=((ks.getD a 0:Nat):Int):=fun a ha=>by
   unfold numL;rw[zFC (d:=0) (by lia)]
  have i1:=zHU (numL ks) a (by lia);have i2:=zHU (numL ks) b (by lia);rw[g a ha]at i1;rw[g b hb]at i2;have k1:=zC7 hkn (a:=a) (by lia);have k2:=zC7 hkn (a:=b) (by lia);have i3:=ixM (f:=f) k1;have i4:=ixR (g:=fun j=>f (ks.getD a 0) j) k2;simp only[x_eB,x_eV];simp[-qA0,i1,i2,i3,i4,sub]
 refine .inr ⟨mat (tab n (sub ks f)),?_,sub ks f,rfl,fun i j hi hj=>h1 _ _ (zC7 hkn (by lia)) (zC7 hkn (by lia)),fun i j hi hj=>h2 _ _ (zC7 hkn (by lia)) (zC7 hkn (by lia))⟩;unfold sRet;show zA3 (eComp _ _ _ _ _ [some (.int N),some (.int 10),some (.int (n:Int)),some (.int c),some (rowD (numL ks)),o5.map qE2,some (mat (tab n f)),o7.map qE2,o8.map qE2]) _=_;rw[hc,zA0]
 split
 ·rfl
 ·rw[if_pos rfl]
  rcases o7 with _|⟨d7,n7⟩<;>rcases o8 with _|⟨d8,n8⟩<;>exact congrArg (fun x=>zA3 x fun d'=>okR (Out.rt d')) (hc _ _ _ _ _ _)
noncomputable def pB(p:Prop):Bool:=@decide p (qA3 p)
theorem zTR(p:Prop):pB p=true↔p:=by unfold pB;simp
theorem pB_t{p:Prop}(h:p):pB p=true:=(zTR p).mpr h
theorem pB_f{p:Prop}(h:¬p):pB p=false:=by
 cases e:pB p
 ·rfl
 ·exact absurd ((zTR p).mp e) h
theorem zNG(ks:List Nat)(hz:ks.length<=1000):zDQ [rowD (numL ks)]=okR (.bl true):=by
 unfold zDQ zHM;have hw:=zG2;have hc:eComp (iSq (eV 0)) 1 (.one 1) Mi.tYes (eCall zC8 (aCons (eV 1) aNil)) [some (rowD (numL ks))]=okR (.lst (ks.map fun _=>Dt.bl true)):=by
  refine zBX (fun k:Nat=>Dt.int (k:Int)) _ ks rfl rfl (fun k _=>by simp[hw]) _ (by rw[numD];simp) (by omega)
 have hb:=zO7 ks;simp[startO,hc,hb]
def Rise(n:Nat)(ks:List Nat):Prop:=ks=(qA4 n).filter fun i=>decide (i∈ks)
theorem zGW(n:Nat)(p:Nat->Bool):Rise n ((qA4 n).filter p):=by
 unfold Rise;refine(qEz fun i hi=>?_);simp only[qAg,hi,true_and];cases p i<;>rfl
theorem zOZ:∀{a b:List Nat},a.Pairwise (· < ·)->b.Pairwise (· < ·)->(∀x,x∈a↔x∈b)->a=b
 |[],[],_,_,_=>rfl
 |[],y::b,_,_,h=>by have:=(h y).mpr (by simp);simp at this
 |x::a,[],_,_,h=>by have:=(h x).mp (by simp);simp at this
 |x::a,y::b,ha,hb,h=>by
  obtain⟨a1,a2⟩:=qBs.mp ha;obtain⟨b1,b2⟩:=qBs.mp hb;have hxy:x=y:=by
   have h1:=(h x).mp (by simp);have h2:=(h y).mpr (by simp)
   rcases qAh.mp h1 with z|z
   ·exact z
   ·rcases qAh.mp h2 with w|w
    ·exact w.symm
    ·have:=b1 x z;have:=a1 y w;omega
  subst hxy
  congr 1
  refine zOZ a2 b2 fun z=>⟨fun hz=>?_,fun hz=>?_⟩
  ·rcases qAh.mp ((h z).mp (qAr _ hz))with e|e
   ·have:=a1 z hz;omega
   ·exact e
  ·rcases qAh.mp ((h z).mpr (qAr _ hz))with e|e
   ·have:=b1 z hz;omega
   ·exact e
theorem zOY{n:Nat}{ks:List Nat}(h1:ks.Pairwise (· < ·))(h2:∀k∈ks,k<n):Rise n ks:=by
 refine zOZ h1 (qE8 _ qDq) fun x=>?_
 simp only[qAg,qBe,decide_eq_true_eq];exact⟨fun h=>⟨h2 x h,h⟩,fun h=>h.2⟩
theorem Rise.up{n:Nat}{ks:List Nat}(h:Rise n ks):ks.Pairwise (· < ·):=by
 rw[h];exact qE8 _ qDq
theorem Rise.lt{n:Nat}{ks:List Nat}(h:Rise n ks):∀k∈ks,k<n:=fun k hk=>by
 rw[h]at hk
 simpa using(qAg.mp hk).1
theorem Rise.le{n:Nat}{ks:List Nat}(h:Rise n ks):ks.length<=n:=by
 rw[h];exact qAj (qB5 _ _) (by simp)
theorem zMX(i:Nat)(ks:List Nat):hasD (.int (i:Int)) ((numL ks).map Dt.int)=some (decide (i∈ks)):=by
 rw[hasD,if_pos ⟨rfl,zD4 _⟩]
 congr 1
 unfold numL;rw[qAw]
 induction ks with
 |nil=>rfl
 |cons k r ih=>
  rw[qAm,qCd,ih]
  by_cases h:i=k
  ·subst h;simp
  ·simp[h,show ¬(k:Int)=(i:Int) by omega]
theorem zLY(i:Nat)(ks:List Nat):inD false (.int (i:Int)) (rowD (numL ks))=some (.bl (decide (i∈ks))):=by
 show(hasD (.int (i:Int)) ((numL ks).map Dt.int)).map _=_
 rw[zMX];rfl
theorem zMW(i:Nat)(ks:List Nat):inD true (.int (i:Int)) (rowD (numL ks))=some (.bl (!decide (i∈ks))):=by
 show(hasD (.int (i:Int)) ((numL ks).map Dt.int)).map _=_
 rw[zMX];rfl
theorem zRD(n:Nat)(f:Nat->Nat->Int)(ks:List Nat)(hn:n<=10)(hr:Rise n ks):zGI [mat (tab n f),rowD (numL ks)]=okR (.bl true):=by
 have hz:ks.length<=n:=hr.le;have hw:=zNG ks (by omega);have hc:eComp (iR1 (aCons (eBi lenD (aCons (eV 0) aNil)) aNil)) 1 (.one 2) (tB (eB (inD false) (eV 2) (eV 1))) (eV 2) [some (mat (tab n f)),some (rowD (numL ks))]=okR (rowD (numL ks)):=by
  have:=zBA (ρ:=[some (mat (tab n f)),some (rowD (numL ks))]) (c:=tB (eB (inD false) (eV 2) (eV 1))) (e:=eV 2) (i:=2) (fun k:Nat=>Dt.int (k:Int)) (fun k:Nat=>Dt.int (k:Int)) (fun i=>decide (i∈ks)) (qA4 n) rfl (fun i hi=>by simp[zLY]) (fun i _ _=>by simp) (iR1 (aCons (eBi lenD (aCons (eV 0) aNil)) aNil)) (by rw[zCL (n:=n) (by simp[zBZ]) (by omega),zCJ]) (by simp;omega)
  rw[this,numD];have hr':ks=(qA4 n).filter fun i=>decide (i∈ks):=hr
  rw[<- hr']
 unfold zGI zNB;have he:=zYE (numL ks) (numL ks);simp[startO,hw,hc,he]
theorem zP2{m:Nat}{g:Nat->Nat->Int}(hm:m<=10)(hb:Bits m g):∃q:Nat,zCG [mat (tab m g)]=okR (.int (q:Int))/\(q=m↔NS m g):=by
 obtain⟨q,r1,A,r2⟩:=zMN m (tab m g) (zBZ m g) (zIJ hb) hm;refine⟨q,r1,fun h x hx hk j=>?_,fun h=>?_⟩
 ·exact(r2.all h x hx ((zJ6 hx.1).mpr hk)).2 (fun k hk=>by
   simp[qA0,qBq (show x.length<=k by rw[hx.1];omega)]) j
 ·rcases qF6 q m with z|z
  ·obtain⟨x,x1,x2,j,x3,x4⟩:=r2.some z
   have:=h x x1 ((zJ6 x1.1).mp x2) j
   rw[x4]at this;simp at this
  ·exact qDy r2.le z
theorem zT0(n:Nat)(f:Nat->Nat->Int)(ks:List Nat)(hn:n<=10)(hb:Bits n f)(hr:Rise n ks):zI8 [mat (tab n f),rowD (numL ks)]=okR (.bl (pB (Fe n f (·∈ks))))/\zEL [mat (tab n f),rowD (numL ks)]=okR (.bl (pB (Fe n f (·∈ks)))):=by
 have hz:ks.length<=n:=hr.le;have hk:∀k∈ks,k<n:=hr.lt;have hp:=zGG n f ks hk (by omega);have hbs:Bits ks.length (sub ks f):=fun i j hi hj=>hb _ _ (zC7 hk hi) (zC7 hk hj)
 obtain⟨q,h1,h2,h3⟩:=zR3 ks.length (sub ks f) (by omega) hbs;obtain⟨q',r1,r2⟩:=zP2 (by omega) hbs;have e:q'=q:=by rw[h1,zV7]at r1;injection r1 with r1;omega
 subst e;rw[zYC (zGD hr.up) hk]at r2;have hs:=zRD n f ks hn hr;have hl:(numL ks).length=ks.length:=by simp[numL]
 refine⟨?_,?_⟩
 ·unfold zI8 zIG
  by_cases h:q'=ks.length
  ·rw[pB_t (r2.mp h)];simp[startO,hp,h1,hl,h]
  ·rw[pB_f fun z=>h (r2.mpr z)];simp[startO,hp,h1,hl];omega
 ·unfold zEL zIF
  rcases h3 with⟨h3,h4⟩|⟨h3,g,_,_,_,h4⟩
  ·rw[pB_f fun z=>by have:=r2.mpr z;omega];simp[startO,hs,hp,h4]
  ·have hm:mat (tab ks.length g)=.lst ((tab ks.length g).map rowD):=rfl;rw[pB_t (r2.mp h3)];simp[startO,hs,hp,h4]
   try simp[hm]
noncomputable def sd(n:Nat)(a b:List Nat):List Nat:=(qA4 n).filter fun i=>!decide (decide (i∈a)=decide (i∈b))
theorem zLF(n:Nat)(a b:List Nat):Rise n (sd n a b):=zGW n _
theorem zTD{n:Nat}{a b:List Nat}{i:Nat}:i∈sd n a b↔i<n/\(i∈a↔¬i∈b):=by
 unfold sd;rw[qAg,qBe]
 by_cases h1:i∈a<;>by_cases h2:i∈b<;>simp[h1,h2]
noncomputable def zVD(n:Nat)(f:Nat->Nat->Int)(p:Nat):List Nat:=(qA4 n).filter fun k=>decide (f p k=1)
theorem bitx(a b:Int)(ha:a=0\/a=1)(hb:b=0\/b=1):Builtin.bitXor a b=if b=1 then 1-a else a:=by
 rcases ha with rfl|rfl<;>rcases hb with rfl|rfl<;>decide
theorem zYU{x:Str}{fm:FM}{i:Nat}{e1 e2:EM}{ρ:Rh}{c d1 d2 r:Dt}(h:ρ[i]?=some (some (.fn x c)))(h1:e1 ρ=okR d1)(h2:e2 ρ=okR d2)(hc:c.dep<=40)(z1:d1.dep=0)(z2:d2.dep=0)(hf:fm [d1,d2,c]=okR r)(hr:r.dep=0)(ls:List (Str×FM))(hl:ls.lookup x=some fm):eCallF ls i (aCons e1 (aCons e2 aNil)) ρ=okR r:=by
 unfold eCallF;rw[h];dsimp only;rw[hl];dsimp only;rw[if_pos hc,zC6,h1,zA0,zC6,h2,zA0,zER,zA0,zA0,zA0,if_pos (by simp[Dt.depL,z1,z2])]
 show(match fm [d1,d2,c]with|some (.ok r)=>if r.dep=0 then okR r else none|_=>none)=_
 rw[hf];exact if_pos hr
theorem zU9{f:FM}{e:EM}{x:Str}{i:Nat}{ρ:Rh}{c d r:Dt}(h:e ρ=okR d)(hi:ρ[i]?=some (some c))(hf:f [d,.fn x c]=okR r)(hr:r.dep<=40):eCallL f e x i ρ=okR r:=by
 unfold eCallL;rw[h,zA0,hi]
 show(match f [d,.fn x c]with|some (.ok r)=>if r.dep<=40 then okR r else none|_=>none)=_
 rw[hf];exact if_pos hr
structure LR(n:Nat)(T A:List (List Int))(ps:List (List Int×Nat))(p q:Nat):Prop where
 rows:∀r∈A,RowN n r
 zero:∀r∈A,∀k,k<p->r.getD k 0=0
 one:∀a∈ps,a.1.getD a.2 0=1/\a.2<p
 pw:ps.Pairwise fun a b=>b.1.getD a.2 0=0
 num:ps.length+q=p
 ker:∀x,RowN n x->(Ker T x↔Ker (ps.map qE2) x/\Ker A x)
section
variable{n p q:Nat}{T A:List (List Int)}{ps:List (List Int×Nat)}
end
end Mp
namespace Mp
open Mi PySem
noncomputable def kept(n:Nat)(c:List Int):List Nat:=(qA4 n).filter fun k=>decide (c.getD k 0≠0)
theorem zHH{n m:Nat}{P Q:List Int->Prop}(f:List Int->List Int)(hf:∀x,RowN n x->P x->RowN m (f x)/\Q (f x))(hi:∀x y,RowN n x->P x->RowN n y->P y->f x=f y->x=y):cnt n P<=cnt m Q:=by
 classical
 unfold cnt;have h1:(((allv n).filter fun x=>decide (P x)).map f).Nodup:=zF8 ((zFV n).filter _) fun x hx y hy=>by
  obtain⟨a1,a2⟩:=qAg.mp hx;obtain⟨b1,b2⟩:=qAg.mp hy;exact hi x y (allv_mem.mp a1) (by simpa using a2) (allv_mem.mp b1) (by simpa using b2)
 have h2:=zH4 _ ((allv m).filter fun x=>decide (Q x)) h1 fun z hz=>by
  obtain⟨x,hx,rfl⟩:=qAl.mp hz;obtain⟨g1,g2⟩:=qAg.mp hx;obtain⟨k1,k2⟩:=hf x (allv_mem.mp g1) (by simpa using g2);exact qAg.mpr ⟨allv_mem.mpr k1,by simpa using k2⟩
 rw[qAi]at h2;exact h2
theorem zSW{m:Nat}{P:List Int->Prop}:cnt (m+1) (fun z=>P z.tail)=2*cnt m P:=by
 classical
 unfold cnt;rw[allv,List.filter_append,qB0,qFl,qFl,qAi,qAi];have e:∀b:Int,((fun z:List Int=>decide (P z.tail))∘qGm b)=fun x=>decide (P x):=fun b=>rfl
 rw[e,e]
 lia
structure Cst(ts C:List Nat)(n:Nat)(F:Nat->Int):Prop where
 hb:∀e,Bit (F e)
 hn:∀e,e<4*n->F (nt ts e)=F e
 hj:∀e,e<4*n->F (jn C e)=F e
def Ppt(n:Nat)(f g:Nat->Nat->Int)(S:Nat->Prop):Prop:=∀x,RowN n x->∃y,RowN n y/\∀i,i<n->(S i->y.getD i 0=img n f x i/\img n g y i=x.getD i 0)/\(¬S i->y.getD i 0=x.getD i 0/\img n g y i=img n f x i)
theorem zQ0{n:Nat}{f:Nat->Nat->Int}{x y:List Int}(h:∀k,k<n->x.getD k 0=y.getD k 0)(i:Nat):img n f x i=img n f y i:=by
 unfold img;rw[zB3 fun k hk=>by rw[h k hk]]
theorem zSC{n:Nat}{f:Nat->Nat->Int}{x:List Int}(h:∀k,k<n->x.getD k 0=0)(i:Nat):img n f x i=0:=by
 unfold img;rw[zBD fun k hk=>by rw[h k hk,Int.mul_zero]];rfl
theorem zTJ{n:Nat}{f g:Nat->Nat->Int}{S X:Nat->Prop}(h:Ppt n f g S)(hX:Fe n g X):Fe n f (fun i=>(X i↔¬S i)):=by
 intro x hx h1 h2;obtain⟨y,hy,r⟩:=h x hx;have y0:=hX y hy (fun i hi nx=>by
  by_cases s:S i
  ·rw[((r i hi).1 s).1];exact h2 i hi ⟨fun z=>absurd z nx,fun z=>absurd s z⟩
  ·rw[((r i hi).2 s).1];exact h1 i hi fun z=>nx (z.mpr s)) (fun i hi px=>by
  show img n g y i=0
  by_cases s:S i
  ·rw[((r i hi).1 s).2];exact h1 i hi fun z=>z.mp px s
  ·rw[((r i hi).2 s).2];exact h2 i hi ⟨fun _=>s,fun _=>px⟩)
 intro i hi
 by_cases s:S i
 ·rw[<- ((r i hi).1 s).2];exact zSC y0 i
 ·rw[<- ((r i hi).2 s).1];exact y0 i hi
theorem zUX{n:Nat}{f g:Nat->Nat->Int}{S X:Nat->Prop}(h:Ppt n f g S)(h':Ppt n g f S):Fe n g X↔Fe n f (fun i=>(X i↔¬S i)):=
 ⟨zTJ h,fun z=>(zMY fun i _=>by
  by_cases a:X i<;>by_cases b:S i<;>simp[a,b]).mp (zTJ h' z)⟩
theorem zUW{n:Nat}{f g:Nat->Nat->Int}{S:Nat->Prop}(h:Ppt n f g S){x:List Int}(hx:RowN n x)(hk:KerF n f x)(h0:∀i,i<n->S i->x.getD i 0=0):KerF n g x:=by
 obtain⟨y,hy,r⟩:=h x hx;intro a ha;show img n g x a=0;have e:∀k,k<n->x.getD k 0=y.getD k 0:=fun k hk'=>by
  by_cases s:S k
  ·rw[((r k hk').1 s).1,h0 k hk' s];exact(hk k hk').symm
  ·exact((r k hk').2 s).1.symm
 rw[zQ0 e]
 by_cases s:S a
 ·rw[((r a ha).1 s).2];exact h0 a ha s
 ·rw[((r a ha).2 s).2];exact hk a ha
theorem zHK{n:Nat}{x:List Int}(hx:RowN n x){v:Nat}(hv:v<n):Bit (x.getD v 0):=hx.2 _ (zAM (by rw[hx.1];exact hv))
theorem zW5{n:Nat}{P:List Int->Prop}(hP:∀x y,RowN n x->RowN n y->P x->P y->P (addB x y))(v:Nat)(hv:v<n):cnt n P<=2*cnt n (fun x=>P x/\x.getD v 0=0):=by
 by_cases h:∃k,RowN n k/\P k/\k.getD v 0=1
 ·obtain⟨k0,hk,pk,k1⟩:=h;rw[<- zSW];refine zHH (fun x=>x.getD v 0::(if x.getD v 0=1 then addB x k0 else x)) (fun x hx px=>?_) fun x y hx px hy py e=>?_
  ·have hb:=zHK hx hv
   by_cases z:x.getD v 0=1
   ·rw[if_pos z];have ha:=zEP hx hk;refine⟨⟨by rw[qAo,ha.1],fun w hw=>?_⟩,hP x k0 hx hk px pk,?_⟩
    ·rcases qAh.mp hw with rfl|hw
     ·exact hb
     ·exact ha.2 w hw
    ·show(addB x k0).getD v 0=0
     rw[zC5 x k0 v (by rw[hx.1,hk.1]) (by rw[hx.1];exact hv),z,k1];rfl
   ·rw[if_neg z];refine⟨⟨by rw[qAo,hx.1],fun w hw=>?_⟩,px,?_⟩
    ·rcases qAh.mp hw with rfl|hw
     ·exact hb
     ·exact hx.2 w hw
    ·show x.getD v 0=0
     rcases hb with z'|z'
     ·exact z'
     ·exact absurd z' z
  ·injection e with e1 e2
   by_cases z:x.getD v 0=1
   ·rw[if_pos z,if_pos (by rw[<- e1];exact z)]at e2;exact zT6 hx hy hk e2
   ·rw[if_neg z,if_neg (by rw[<- e1];exact z)]at e2;exact e2
 ·have:cnt n P<=cnt n (fun x=>P x/\x.getD v 0=0):=zHH (fun x=>x) (fun x hx px=>⟨hx,px,by
   rcases zHK hx hv with z|z
   ·exact z
   ·exact absurd ⟨x,hx,px,z⟩ h⟩) fun x y _ _ _ _ e=>e
  lia
theorem zN8{n:Nat}:∀(vs:List Nat){P:List Int->Prop},(∀v∈vs,v<n)->(∀x y,RowN n x->RowN n y->P x->P y->P (addB x y))->cnt n P<=2 ^ vs.length*cnt n (fun x=>P x/\∀v∈vs,x.getD v 0=0)
 |[],P,_,_=>by
  have:cnt n P<=cnt n (fun x=>P x/\∀v∈([]:List Nat),x.getD v 0=0):=zHH (fun x=>x) (fun x hx px=>⟨hx,px,fun v hv=>absurd hv (by simp)⟩) fun x y _ _ _ _ e=>e
  simpa using this
 |v::vs,P,hv,hP=>by
  have hv0:=hv v (by simp);have h1:=zW5 hP v hv0;have h2:=zN8 vs (P:=fun x=>P x/\x.getD v 0=0) (fun w hw=>hv w (by simp[hw])) fun x y hx hy px py=>⟨hP x y hx hy px.1 py.1,by rw[zC5 x y v (by rw[hx.1,hy.1]) (by rw[hx.1];exact hv0),px.2,py.2];rfl⟩
  have h3:cnt n (fun x=>(P x/\x.getD v 0=0)/\∀w∈vs,x.getD w 0=0)<=cnt n (fun x=>P x/\∀w∈v::vs,x.getD w 0=0):=zHH (fun x=>x) (fun x hx px=>⟨hx,px.1.1,fun w hw=>by
   rcases qAh.mp hw with rfl|hw
   ·exact px.1.2
   ·exact px.2 w hw⟩) fun x y _ _ _ _ e=>e
  rw[qAo,qGn]
  calc cnt n P<=2*cnt n (fun x=>P x/\x.getD v 0=0):=h1
   _<=2*(2 ^ vs.length*cnt n (fun x=>P x/\∀w∈v::vs,x.getD w 0=0)):=qCw _ (qAj h2 (qCw _ h3))
   _=_:=by rw[<- qGh,qF5 2]
theorem zVM{n:Nat}{f:Nat->Nat->Int}:∀x y,RowN n x->RowN n y->KerF n f x->KerF n f y->KerF n f (addB x y):=fun x y hx hy h1 h2 a ha=>by
 show img n f (addB x y) a=0;have e1:img n f x a=0:=h1 a ha;have e2:img n f y a=0:=h2 a ha;rw[zVT hx hy,e1,e2];rfl
theorem zUY{n:Nat}{f g:Nat->Nat->Int}{vs:List Nat}(h:Ppt n f g (·∈vs))(hv:∀v∈vs,v<n):cnt n (KerF n f)<=2 ^ vs.length*cnt n (KerF n g):=
 qAj (zN8 vs hv zVM) (qCw _ (zHH (fun x=>x) (fun x hx px=>⟨hx,zUW h hx px.1 fun i _ hi=>px.2 i hi⟩) fun x y _ _ _ _ e=>e))
theorem zMQ{n q q':Nat}{f g:Nat->Nat->Int}{vs:List Nat}(h:Ppt n f g (·∈vs))(hv:∀v∈vs,v<n)(e:cnt n (KerF n f)=2 ^ q)(e':cnt n (KerF n g)=2 ^ q'):q<=q'+vs.length:=by
 have:=zUY h hv
 rw[e,e',<- qGs]at this
 have:=(qCb (by decide:1<2)).mp this
 lia
structure Pv1(n:Nat)(f g:Nat->Nat->Int)(v:Nat):Prop where
 bf:Bits n f
 bg:Bits n g
 lt:v<n
 f1:f v v=1
 g1:g v v=1
 row:∀i,i<n->i≠v->g v i=f v i
 col:∀i,i<n->i≠v->g i v=f i v
 inn:∀i j,i<n->j<n->i≠v->j≠v->g i j%2=(f i j+f i v*f v j)%2
theorem Pv1.symm{n:Nat}{f g:Nat->Nat->Int}{v:Nat}(p:Pv1 n f g v):Pv1 n g f v:=⟨p.bg,p.bf,p.lt,p.g1,p.f1,fun i hi z=>(p.row i hi z).symm,fun i hi z=>(p.col i hi z).symm,fun i j hi hj zi zj=>by
 have h:=p.inn i j hi hj zi zj;rw[p.col i hi zi,p.row j hj zj]
 rcases p.bf i v hi p.lt with a|a<;>rcases p.bf v j p.lt hj with b|b<;>rw[a,b]at h ⊢ <;> lia⟩
theorem zIQ{n:Nat}{x:List Int}(hx:RowN n x)(v:Nat){b:Int}(hb:Bit b):RowN n (x.set v b):=⟨by rw[qCt];exact hx.1,fun w hw=>by
 rcases qAz hw with z|z
 ·exact hx.2 w z
 ·rw[z];exact hb⟩
theorem zLE(x:List Int)(v:Nat)(b:Int)(hv:v<x.length)(i:Nat):(x.set v b).getD i 0=if i=v then b else x.getD i 0:=by
 rw[qA0,qA0]
 by_cases z:i=v
 ·subst z;rw[if_pos rfl,qA8 hv];rfl
 ·rw[if_neg z,qAb fun y=>z y.symm]
theorem zIM{n v:Nat}(hv:v<n)(F:Nat->Int):sumN n F=F v+sumN n (fun k=>if k=v then 0 else F k):=by
 have:=zIN (f:=F) (g:=fun k=>if k=v then 0 else F k) hv fun k _ z=>by rw[if_neg z]
 rw[this,if_pos rfl];lia
theorem Pv1.ppt{n:Nat}{f g:Nat->Nat->Int}{v:Nat}(p:Pv1 n f g v):Ppt n f g (·∈[v]):=by
 intro x hx;refine⟨x.set v (img n f x v),zIQ hx v (zLZ n f x v),?_⟩;have hg:=zLE x v (img n f x v) (by rw[hx.1];exact p.lt);have hxv:=zHK hx p.lt;have eF:∀i,img n f x i=(f i v*x.getD v 0+sumN n (fun k=>if k=v then 0 else f i k*x.getD k 0))%2:=fun i=>by
  unfold img;rw[zIM p.lt]
 have eG:∀i,img n g (x.set v (img n f x v)) i=(g i v*img n f x v+sumN n (fun k=>if k=v then 0 else g i k*x.getD k 0))%2:=fun i=>by
  rw[img,zIM p.lt,hg v,if_pos rfl]
  congr 2
  refine zB3 fun k _=>?_
  by_cases z:k=v
  ·rw[if_pos z,if_pos z]
  ·rw[if_neg z,if_neg z,hg k,if_neg z]
 have yv:=eF v;rw[p.f1,qCx]at yv;intro i hi;constructor
 ·intro s;have s:i=v:=by simpa using s
  subst s;refine⟨by rw[hg,if_pos rfl],?_⟩;rw[eG,p.g1,qCx,zB3 (g:=fun k=>if k=i then 0 else f i k*x.getD k 0) fun k hk=>by
   by_cases z:k=i
   ·rw[if_pos z,if_pos z]
   ·rw[if_neg z,if_neg z,p.row k hk z],yv]
  rcases hxv with z|z<;>rw[z]<;>lia
 ·intro s;have s:i≠v:=by simpa using s
  refine⟨by rw[hg,if_neg s],?_⟩;have h2:=zGS (n:=n) (f:=fun k=>if k=v then 0 else g i k*x.getD k 0) (g:=fun k=>if k=v then 0 else f i k*x.getD k 0) (h:=fun k=>f i v*(if k=v then 0 else f v k*x.getD k 0)) fun k hk=>by
   by_cases z:k=v
   ·rw[if_pos z,if_pos z,if_pos z];simp
   ·rw[if_neg z,if_neg z,if_neg z]
    have:=p.inn i k hi hk s z
    rcases zHK hx hk with w|w<;>rw[w]
    ·simp
    ·rw[qBz,qBz,qBz];exact this
  rw[zGE]at h2;rw[eG,eF i,p.col i hi s]
  generalize sumN n (fun k=>if k=v then 0 else g i k*x.getD k 0)=A at h2 ⊢
  generalize sumN n (fun k=>if k=v then 0 else f i k*x.getD k 0)=B at h2 ⊢
  generalize sumN n (fun k=>if k=v then 0 else f v k*x.getD k 0)=C at h2 yv
  generalize img n f x v=y at yv ⊢
  generalize x.getD v 0=xv at yv ⊢
  rcases p.bf i v hi p.lt with z|z<;>rw[z]at h2 ⊢ <;> lia
structure Pv2(n:Nat)(f g:Nat->Nat->Int)(u v:Nat):Prop where
 bf:Bits n f
 bg:Bits n g
 lu:u<n
 lv:v<n
 ne:u≠v
 fd:f u u=0/\f v v=0/\f u v=1/\f v u=1
 gd:g u u=0/\g v v=0/\g u v=1/\g v u=1
 row:∀i,i<n->i≠u->i≠v->g u i=f v i/\g v i=f u i
 col:∀i,i<n->i≠u->i≠v->g i u=f i v/\g i v=f i u
 inn:∀i j,i<n->j<n->i≠u->i≠v->j≠u->j≠v->g i j%2=(f i j+f i u*f v j+f i v*f u j)%2
theorem Pv2.symm{n:Nat}{f g:Nat->Nat->Int}{u v:Nat}(p:Pv2 n f g u v):Pv2 n g f u v:=⟨p.bg,p.bf,p.lu,p.lv,p.ne,p.gd,p.fd,fun i hi a b=>⟨(p.row i hi a b).2.symm,(p.row i hi a b).1.symm⟩,fun i hi a b=>⟨(p.col i hi a b).2.symm,(p.col i hi a b).1.symm⟩,fun i j hi hj a b c d=>by
 have h:=p.inn i j hi hj a b c d;rw[(p.col i hi a b).1,(p.col i hi a b).2,(p.row j hj c d).1,(p.row j hj c d).2]
 rcases p.bf i u hi p.lu with z|z<;>rcases p.bf i v hi p.lv with w|w<;>rcases p.bf u j p.lu hj with s|s<;>rcases p.bf v j p.lv hj with t|t<;>rw[z,w,s,t]at h ⊢ <;> lia⟩
theorem zMH{n u v:Nat}(hu:u<n)(hv:v<n)(ne:u≠v)(F:Nat->Int):sumN n F=F u+F v+sumN n (fun k=>if k=u\/k=v then 0 else F k):=by
 rw[zIM hu,zIM hv (fun k=>if k=u then 0 else F k),if_neg ne.symm];rw[zB3 (g:=fun k=>if k=u\/k=v then 0 else F k) fun k _=>by
  by_cases a:k=v
  ·rw[if_pos a,if_pos (.inr a)]
  ·rw[if_neg a]
   by_cases b:k=u
   ·rw[if_pos b,if_pos (.inl b)]
   ·rw[if_neg b,if_neg (fun z=>z.elim b a)]]
 lia
theorem Pv2.ppt{n:Nat}{f g:Nat->Nat->Int}{u v:Nat}(p:Pv2 n f g u v):Ppt n f g (·∈[u,v]):=by
 intro x hx;refine⟨(x.set u (img n f x u)).set v (img n f x v),zIQ (zIQ hx u (zLZ n f x u)) v (zLZ n f x v),?_⟩;have hg:∀i,((x.set u (img n f x u)).set v (img n f x v)).getD i 0=if i=v then img n f x v else if i=u then img n f x u else x.getD i 0:=fun i=>by
  rw[zLE _ v _ (by rw[qCt,hx.1];exact p.lv),zLE x u _ (by rw[hx.1];exact p.lu)]
 have hxu:=zHK hx p.lu;have hxv:=zHK hx p.lv;have eF:∀i,img n f x i=(f i u*x.getD u 0+f i v*x.getD v 0+sumN n (fun k=>if k=u\/k=v then 0 else f i k*x.getD k 0))%2:=fun i=>by
  unfold img;rw[zMH p.lu p.lv p.ne]
 have eG:∀i,img n g ((x.set u (img n f x u)).set v (img n f x v)) i=(g i u*img n f x u+g i v*img n f x v+sumN n (fun k=>if k=u\/k=v then 0 else g i k*x.getD k 0))%2:=fun i=>by
  rw[img,zMH p.lu p.lv p.ne,hg u,hg v,if_neg p.ne,if_pos rfl,if_pos rfl]
  congr 2
  refine zB3 fun k _=>?_
  by_cases z:k=u\/k=v
  ·rw[if_pos z,if_pos z]
  ·rw[if_neg z,if_neg z,hg k,if_neg (fun y=>z (.inr y)),if_neg (fun y=>z (.inl y))]
 have yu:=eF u;have yv:=eF v;obtain⟨f1,f2,f3,f4⟩:=p.fd;obtain⟨g1,g2,g3,g4⟩:=p.gd;rw[f1,f3,qD2,qCx]at yu;rw[f4,f2,qD2,qCx]at yv;intro i hi
 by_cases iu:i=u
 ·subst iu;refine⟨fun _=>⟨by rw[hg,if_neg p.ne,if_pos rfl],?_⟩,fun s=>absurd (by simp) s⟩;rw[eG,g1,g3,qD2,qCx,zB3 (g:=fun k=>if k=i\/k=v then 0 else f v k*x.getD k 0) fun k hk=>by
   by_cases z:k=i\/k=v
   ·rw[if_pos z,if_pos z]
   ·rw[if_neg z,if_neg z,(p.row k hk (fun y=>z (.inl y)) fun y=>z (.inr y)).1],yv]
  rcases hxu with z|z<;>rw[z]<;>lia
 ·by_cases iv:i=v
  ·subst iv;refine⟨fun _=>⟨by rw[hg,if_pos rfl],?_⟩,fun s=>absurd (by simp) s⟩;rw[eG,g4,g2,qD2,qCx,zB3 (g:=fun k=>if k=u\/k=i then 0 else f u k*x.getD k 0) fun k hk=>by
    by_cases z:k=u\/k=i
    ·rw[if_pos z,if_pos z]
    ·rw[if_neg z,if_neg z,(p.row k hk (fun y=>z (.inl y)) fun y=>z (.inr y)).2],yu]
   rcases hxv with z|z<;>rw[z]<;>lia
  ·refine⟨fun s=>absurd s (by simp[iu,iv]),fun _=>⟨by rw[hg,if_neg iv,if_neg iu],?_⟩⟩;have h2:=zGS (n:=n) (f:=fun k=>if k=u\/k=v then 0 else g i k*x.getD k 0) (g:=fun k=>if k=u\/k=v then 0 else f i k*x.getD k 0) (h:=fun k=>f i u*(if k=u\/k=v then 0 else f v k*x.getD k 0)+f i v*(if k=u\/k=v then 0 else f u k*x.getD k 0)) fun k hk=>by
    by_cases z:k=u\/k=v
    ·rw[if_pos z,if_pos z,if_pos z,if_pos z];simp
    ·rw[if_neg z,if_neg z,if_neg z,if_neg z]
     have:=p.inn i k hi hk iu iv (fun y=>z (.inl y)) fun y=>z (.inr y)
     rcases zHK hx hk with w|w<;>rw[w]
     ·simp
     ·rw[qBz,qBz,qBz,qBz,<- Int.add_assoc];exact this
   rw[zMI,zGE,zGE]at h2;rw[eG,eF i,(p.col i hi iu iv).1,(p.col i hi iu iv).2]
   generalize sumN n (fun k=>if k=u\/k=v then 0 else g i k*x.getD k 0)=A at h2 ⊢
   generalize sumN n (fun k=>if k=u\/k=v then 0 else f i k*x.getD k 0)=B at h2 ⊢
   generalize sumN n (fun k=>if k=u\/k=v then 0 else f v k*x.getD k 0)=C at h2 yv
   generalize sumN n (fun k=>if k=u\/k=v then 0 else f u k*x.getD k 0)=D at h2 yu
   generalize img n f x u=y1 at yu ⊢
   generalize img n f x v=y2 at yv ⊢
   generalize x.getD u 0=x1 at yv ⊢
   generalize x.getD v 0=x2 at yu ⊢
   rcases p.bf i u hi p.lu with z|z<;>rcases p.bf i v hi p.lv with w|w<;>rw[z,w]at h2 ⊢ <;> lia
noncomputable def zGA(n:Nat)(f:Nat->Nat->Int)(p:Nat):List Nat:=(qA4 n).filter fun k=>decide (f p k=1) && !decide ((k:Int)=(p:Int))
theorem zE8{n:Nat}{f:Nat->Nat->Int}{p k:Nat}(hk:k<n):k∈zGA n f p↔f p k=1/\k≠p:=by
 unfold zGA;simp only[qAg,qBe,qB2,decide_eq_true_eq,qEv,decide_eq_false_iff_not];constructor
 ·rintro⟨_,a,b⟩;exact⟨a,fun z=>b (by lia)⟩
 ·rintro⟨a,b⟩;exact⟨hk,a,fun z=>b (by lia)⟩
theorem zNW(n p:Nat)(f:Nat->Nat->Int)(hn:n<=10)(hp:p<n):zH6 [mat (tab n f),.int (p:Int)]=okR (rowD (numL (zGA n f p))):=by
 have h1:=zRV n (fun j=>f p j) hn;have hc:eComp (iSq (eCall zEB (aCons (eB ixD (eV 0) (eV 1)) aNil))) 1 (.one 2) (tB (eB neD (eV 2) (eV 1))) (eV 2) [some (mat (tab n f)),some (.int (p:Int))]=okR (rowD (numL (zGA n f p))):=by
  rw[zBA (ρ:=[some (mat (tab n f)),some (.int (p:Int))]) (i:=2) (fun k:Nat=>Dt.int (k:Int)) (fun k:Nat=>Dt.int (k:Int)) (fun k=>!decide ((k:Int)=(p:Int))) (zVD n f p) rfl (fun k _=>nei rfl rfl rfl) (fun k _ _=>rfl) _ ?_ ?_]
  ·rw[numD];unfold zVD zGA;rw[List.filter_filter]
   congr 4
   funext k
   rw[Bool.and_comm]
  ·show zA3 _ _=_;rw[c1 (d1:=rowD ((qA4 n).map fun j=>f p j)) (b2 rfl rfl (ixM hp)) h1,zA0];rfl
  ·unfold zVD
   have:=qB5 (fun k=>decide (f p k=1)) (qA4 n)
   rw[qF0]at this
   lia
 exact zC9 rfl (sr hc ⟨by rw[zDF];exact qA5 1,by rw[zDF];exact qA5 1⟩)
noncomputable def chg(f:Nat->Nat->Int)(b:Nat->Nat->Bool):Nat->Nat->Int:=fun i j=>if b i j=true then 1-f i j else f i j
theorem zG5{n:Nat}{f:Nat->Nat->Int}{x:Str}{fm:FM}{c:Dt}(b:Nat->Nat->Bool)(hn:n<=10)(hb:Bits n f)(hl:([("exchanged_at",zAY),("pivoted",zBH)]:List (Str×FM)).lookup x=some fm)(hc:c.dep<=40)(h:∀i j:Nat,i<n->j<n->fm [.int (i:Int),.int (j:Int),c]=okR (.bl (b i j))) :
  zBR [mat (tab n f),.fn x c]=okR (mat (tab n (chg f b))):=by
 have hlen:lenD [mat (tab n f)]=some (.int (n:Int)):=by rw[lenM,zBZ]
 have hd:=zC1 (tab n (chg f b));refine zC9 rfl (sg (bi1 rfl hlen) (qA5 0) (sr ?_ ⟨hd,hd⟩));refine zGL (chg f b) rfl rfl (by lia) (zCL (n:=n) (al0 rfl) (by lia)) (fun a=>zCL (n:=n) (al0 rfl) (by lia)) fun i j hi hj=>?_
 have ht:=tm1 (zYU (ρ:=[some (mat (tab n f)),some (.fn x c),some (.int (n:Int)),some (.int (i:Nat)),some (.int (j:Nat))]) (i:=1) (e1:=eV 3) (e2:=eV 4) rfl rfl rfl hc rfl rfl (h i j hi hj) rfl [("exchanged_at",zAY),("pivoted",zBH)] hl);refine b2 (b2 (b2 rfl rfl (ixM hi)) rfl (ixR hj)) (d2:=.int (if b i j=true then 1 else 0)) ?_ ?_
 ·cases z:b i j with
  |true=>rw[z]at ht;exact if1 ht rfl
  |false=>rw[z]at ht;exact if0 ht rfl
 ·rw[zZ3,bitx _ _ (hb i j hi hj) (by split<;>lia)];unfold chg;cases z:b i j with
  |true=>rw[if_pos rfl,if_pos rfl,if_pos rfl]
  |false=>rw[if_neg qAe,if_neg qAe,if_neg (by lia)]
theorem zN9{n:Nat}{f:Nat->Nat->Int}{b:Nat->Nat->Bool}(h:Bits n f):Bits n (chg f b):=fun i j hi hj=>by
 have:=h i j hi hj
 unfold chg
 split<;>lia
theorem zSE(n:Nat)(f:Nat->Nat->Int)(k:Int):zD9 [mat (tab n f),.int k]=okR (.bl (decide (0<=k)&&decide (k<n))):=by
 have hlen:lenD [mat (tab n f)]=some (.int (n:Int)):=by rw[lenM,zBZ]
 refine zC9 rfl (sr (an1 (a:=true) (c1 rfl (zG2 k)) (b:=decide (0<=k)&&decide (k<n)) ?_) ⟨qAt _,qAt _⟩);show zA3 (okR (Dt.int 0)) _=_;rw[zA0];show zA3 (okR (Dt.int k)) _=_;rw[zA0];show zA3 (okR (Dt.bl (decide (0<=k)))) _=_;rw[zA0]
 by_cases z:0<=k
 ·show(if decide (0<=k)=true then _ else _)=_
  rw[if_pos (decide_eq_true z),bi1 (d1:=mat (tab n f)) rfl hlen,zA0,decide_eq_true z,Bool.true_and];rfl
 ·show(if decide (0<=k)=true then _ else _)=_
  rw[if_neg (by simpa using z),decide_eq_false z,qFm]
theorem alls{l:List Int}{p:Int->Bool}:allD [.lst (l.map fun x=>Dt.bl (p x))]=some (.bl (l.all p)):=by
 show(Mi.boolsD (l.map fun x=>Dt.bl (p x))).map _=_
 have:∀l:List Int,Mi.boolsD (l.map fun x=>Dt.bl (p x))=some (l.map p):=fun l=>by
  induction l with
  |nil=>rfl
  |cons x t ih=>rw[qAm,Mi.boolsD,ih];rfl
 rw[this];show some (Dt.bl ((l.map p).all id))=_;rw[qF3];rfl
theorem zQ2(n:Nat)(f:Nat->Nat->Int)(l:List Int)(hl:l.length<=1000)(o:Option Dt):eBi allD (aCons (eComp (iSq (eV 1)) 1 (.one 3) Mi.tYes (eCallN zD9 (aCons (eV 0) (aCons (eV 3) aNil)))) aNil) [some (mat (tab n f)),some (rowD l),o]=okR (.bl (l.all fun k=>decide (0<=k)&&decide (k<n))):=
 bi1 (zBX Dt.int (fun k=>Dt.bl (decide (0<=k)&&decide (k<n))) l rfl rfl (fun k _=>cn2 rfl rfl (zSE n f k)) _ rfl (by lia)) alls
theorem zGB(ks:List Nat)(i j:Nat):zBH [.int (i:Int),.int (j:Int),rowD (numL ks)]=okR (.bl (decide (i∈ks)&&decide (j∈ks))):=by
 unfold zBH lamF;refine qE3 (if_pos (by rfl)) ?_;exact an1 (b2 rfl rfl (zLY i _)) (b2 rfl rfl (zLY j _))
def pvA(n:Nat)(f:Nat->Nat->Int)(v:Nat):Nat->Nat->Int:=chg f fun i j=>decide (i∈zGA n f v)&&decide (j∈zGA n f v)
theorem zXD{n:Nat}{f:Nat->Nat->Int}{v:Nat}(hb:Bits n f)(hs:Sym n f)(hv:v<n)(h1:f v v=1):Pv1 n f (pvA n f v) v:=by
 have nv:¬v∈zGA n f v:=fun z=>((zE8 hv).mp z).2 rfl
 have out:∀i j,¬(i∈zGA n f v/\j∈zGA n f v)->pvA n f v i j=f i j:=fun i j z=>by
  unfold pvA chg;exact if_neg (by simpa using z)
 refine⟨hb,zN9 hb,hv,h1,by rw[out v v fun z=>nv z.1];exact h1,fun i _ _=>out v i fun z=>nv z.1,fun i _ _=>out i v fun z=>nv z.2,fun i j hi hj zi zj=>?_⟩;rw[hs i v hi hv]
 by_cases z:i∈zGA n f v/\j∈zGA n f v
 ·have e:pvA n f v i j=1-f i j:=by
   unfold pvA chg;exact if_pos (by simpa using z)
  rw[e,((zE8 hi).mp z.1).1,((zE8 hj).mp z.2).1]
  lia
 ·rw[out i j z]
  rcases hb v i hv hi with a|a
  ·rw[a];lia
  ·rcases hb v j hv hj with b|b
   ·rw[b];lia
   ·exact absurd ⟨(zE8 hi).mpr ⟨a,zi⟩,(zE8 hj).mpr ⟨b,zj⟩⟩ z
theorem zLJ{n:Nat}{f:Nat->Nat->Int}{v:Nat}(hn:n<=10)(hb:Bits n f)(hv:v<n)(h1:f v v=1):zEA [mat (tab n f),rowD (numL [v])]=okR (mat (tab n (pvA n f v))):=by
 have hd:=zC1 (tab n (pvA n f v));have hall:=zQ2 n f (numL [v]) (by simp[numL]) none;have ht:(numL [v]).all (fun k=>decide (0<=k)&&decide (k<n))=true:=by
  show(decide ((0:Int)<=(v:Int))&&decide ((v:Int)<n)&&true)=true
  simp
  lia
 rw[ht]at hall;have i0:ixD (rowD (numL [v])) (.int 0)=some (.int (v:Int)):=rfl;refine zC9 rfl (sp (tn1 (tm1 hall)) (sx (ta1 (eqi (bi1 rfl rfl) rfl rfl) (eqi (b2 (b2 rfl (b2 rfl rfl i0) (ixM hv)) (b2 rfl rfl i0) (ixR hv)) rfl (decide_eq_true h1))) ?_));refine sg (cn2 rfl (b2 rfl rfl i0) (zNW n v f hn hv)) (by rw[zDF];exact qA5 1) (sr (zU9 rfl rfl (zG5 _ hn hb rfl (by rw[zDF];decide) fun i j _ _=>zGB _ i j) (by lia)) ⟨hd,hd⟩)
noncomputable def sdD(n:Nat)(a b:Nat->Int):Dt:=.lst ((qA4 n).map fun i=>Dt.tup [.int (a i),.int (b i)])
theorem zRF{n:Nat}{a b:Nat->Int}{i:Nat}(h:i<n):ixD (sdD n a b) (.int (i:Int))=some (.tup [.int (a i),.int (b i)]):=by
 refine zEU rfl ?_;simp[h]
theorem zTE(n:Nat)(a b:Nat->Int):(sdD n a b).dep<=2:=by
 unfold sdD;rw[v_dl]
 have:∀l:List Nat,Dt.depL (l.map fun i=>Dt.tup [.int (a i),.int (b i)])<=1:=fun l=>by
  induction l with
  |nil=>exact qAt _
  |cons x t ih=>
   rw[qAm,zFL]
   have:(Dt.tup [.int (a x),.int (b x)]).dep=1:=by simp
   rw[this];exact Nat.max_le.mpr ⟨qA5 1,ih⟩
 have:=this (qA4 n)
 lia
noncomputable def off(a:Nat->Int)(u:Nat):Nat->Int:=fun i=>if i=u then 0 else a i
theorem zOT{n:Nat}{a b:Nat->Int}{r:Ro}{i u:Nat}{e1:EM}(h:r[i]?=some (some (sdD n a b,2)))(h1:e1 (full r)=okR (.int (u:Int)))(hu:u<n):sItem i 1 e1 (eTup (aCons (eC (.int 0)) (aCons (eC (.int 0)) aNil))) r=okR (.nx (r.set i (some (sdD n (off a u) (off b u),2)))):=by
 unfold sItem;rw[et2 rfl rfl,zA0,h];show zA3 (e1 (full r)) _=_;rw[h1,zA0];dsimp only;rw[zG1 (by lia) (by simp;lia)];dsimp only;rw[if_pos (by simp),qBc]
 congr 5
 unfold sdD
 congr 1
 apply qCh
 intro k;rw[qC7]
 by_cases z:u=k
 ·subst z;rw[if_pos rfl,if_pos (by simp;lia)];simp[hu,off]
 ·rw[if_neg z]
  by_cases hk:k<n
  ·simp[hk,off,show ¬k=u from fun y=>z y.symm]
  ·simp[hk]
noncomputable def exB(a b:Nat->Int)(i j:Nat):Bool:=(decide (a i=1)||decide (b i=1))&&((decide (a j=1)||decide (b j=1)) && !(decide (a i=a j)&&decide (b i=b j)))
theorem zTW(x y:Int):inD false (.int 1) (.tup [.int x,.int y])=some (.bl (decide (x=1)||decide (y=1))):=by
 show(hasD (.int 1) [.int x,.int y]).map _=_
 unfold hasD;rw[if_pos (by simp)];simp[Dt.eq];rfl
theorem zXT(x y z w:Int):neD (.tup [.int x,.int y]) (.tup [.int z,.int w])=some (.bl (!(decide (x=z)&&decide (y=w)))):=by
 unfold neD;rw[if_pos (by simp)];simp[Dt.eq,Dt.eqL];rfl
theorem zLW{n:Nat}{a b:Nat->Int}{i j:Nat}(hi:i<n)(hj:j<n):zAY [.int (i:Int),.int (j:Int),sdD n a b]=okR (.bl (exB a b i j)):=by
 unfold zAY lamF;refine qE3 (if_pos (by rfl)) ?_;exact an1 (b2 rfl (b2 rfl rfl (zRF hi)) (zTW _ _)) (an1 (b2 rfl (b2 rfl rfl (zRF hj)) (zTW _ _)) (b2 (b2 rfl rfl (zRF hi)) (b2 rfl rfl (zRF hj)) (zXT _ _ _ _)))
noncomputable def swp(n u v:Nat):List Nat:=((qA4 n).set u v).set v u
theorem zIL(n u v:Nat):(swp n u v).length=n:=by simp[swp]
theorem zLD{n u v:Nat}(hu:u<n)(hv:v<n){i:Nat}(hi:i<n):(swp n u v).getD i 0=if i=v then u else if i=u then v else i:=by
 unfold swp;rw[qA0]
 by_cases z:i=v
 ·subst z;rw[if_pos rfl,qA8 (by simp;lia)];rfl
 ·rw[if_neg z,qAb fun y=>z y.symm]
  by_cases w:i=u
  ·subst w;rw[if_pos rfl,qA8 (by simp;lia)];rfl
  ·rw[if_neg w,qAb fun y=>w y.symm,List.getElem?_range hi];rfl
theorem zWR{n u v:Nat}(hu:u<n)(hv:v<n):∀k∈swp n u v,k<n:=fun k hk=>by
 obtain⟨i,hi,e⟩:=qE4.mp hk;rw[zIL]at hi
 have:=zLD hu hv hi
 rw[qA0,qA7 (by rw[zIL];exact hi),e]at this;have h2:k=if i=v then u else if i=u then v else i:=this
 rw[h2]
 split
 ·exact hu
 ·split
  ·exact hv
  ·exact hi
def sdA(f:Nat->Nat->Int)(u v:Nat)(w:Nat):Nat->Int:=off (off (f w) u) v
def pvB(n:Nat)(f:Nat->Nat->Int)(u v:Nat):Nat->Nat->Int:=sub (swp n u v) (chg f (exB (sdA f u v u) (sdA f u v v)))
theorem zQ6{n:Nat}{f:Nat->Nat->Int}{u v:Nat}(hn:n<=10)(hb:Bits n f)(hu:u<n)(hv:v<n):zDE [mat (tab n f),.int (u:Int),.int (v:Int)]=okR (mat (tab n (pvB n f u v))):=by
 have hlen:lenD [mat (tab n f)]=some (.int (n:Int)):=by rw[lenM,zBZ]
 have hd:=zC1 (tab n (pvB n f u v));have hd2:=zC1 (tab n (chg f (exB (sdA f u v u) (sdA f u v v))));have hr:rangeD [.int (n:Int)]=some (rowD (numL (qA4 n))):=by
  rw[zUI (by lia) (by lia)];show some (Dt.lst (nums 0 (n:Int).toNat))=_;rw[qBc,zCJ,numD]
 have hc:∀o4 o5:Option Dt,eComp (iR1 (aCons (eBi lenD (aCons (eV 0) aNil)) aNil)) 1 (.one 6) Mi.tYes (eTup (aCons (eB ixD (eB ixD (eV 0) (eV 1)) (eV 6)) (aCons (eB ixD (eB ixD (eV 0) (eV 2)) (eV 6)) aNil))) [some (mat (tab n f)),some (.int (u:Int)),some (.int (v:Int)),none,o4,o5]=okR (sdD n (f u) (f v)):=fun o4 o5=>
  zCS (fun i=>Dt.tup [.int (f u i),.int (f v i)]) n rfl rfl (fun k hk=>et2 (b2 (b2 rfl rfl (ixM hu)) rfl (ixR hk)) (b2 (b2 rfl rfl (ixM hv)) rfl (ixR hk))) _ (zCL (n:=n) (al0 (bi1 rfl hlen)) (by lia)) (by lia)
 have hpart:=zGG n (chg f (exB (sdA f u v u) (sdA f u v v))) (swp n u v) (zWR hu hv) (by rw[zIL];lia);rw[zIL]at hpart;have hcw:=zG5 (x:="exchanged_at") (c:=sdD n (sdA f u v u) (sdA f u v v)) (exB (sdA f u v u) (sdA f u v v)) hn hb rfl (qAj (zTE _ _ _) (by decide)) fun i j hi hj=>zLW hi hj
 have s1:∀a:List Nat,(numL a).set u (v:Int)=numL (a.set u v):=fun a=>by unfold numL;rw[qC4]
 have s2:∀a:List Nat,(numL a).set v (u:Int)=numL (a.set v u):=fun a=>by unfold numL;rw[qC4]
 have it1:=zKF (r:=[some (mat (tab n f),0),some (.int (u:Int),0),some (.int (v:Int),0),some (sdD n (sdA f u v u) (sdA f u v v),2),some (mat (tab n (chg f (exB (sdA f u v u) (sdA f u v v)))),2),some (rowD (numL (qA4 n)),1)]) (i:=5) (m:=0) (l:=0) (a:=u) (xs:=numL (qA4 n)) (v:=(v:Int)) (e1:=eV 1) (e2:=eV 2) rfl rfl rfl (by simp[numL];lia);rw[s1]at it1;have it2:=zKF (r:=[some (mat (tab n f),0),some (.int (u:Int),0),some (.int (v:Int),0),some (sdD n (sdA f u v u) (sdA f u v v),2),some (mat (tab n (chg f (exB (sdA f u v u) (sdA f u v v)))),2),some (rowD (numL ((qA4 n).set u v)),1)]) (i:=5) (m:=0) (l:=0) (a:=v) (xs:=numL ((qA4 n).set u v)) (v:=(u:Int)) (e1:=eV 2) (e2:=eV 1) rfl rfl rfl (by simp[numL];lia);rw[s2]at it2;exact zC9 rfl (sg (hc none none) (zTE _ _ _) (sw (zOT rfl rfl hu) (sw (zOT rfl rfl hv) (sg (zU9 rfl rfl hcw (by lia)) hd2 (sg (bi1 (bi1 rfl hlen) hr) (by rw[zDF];exact qA5 1) (sw it1 (sw it2 (sr (c2 rfl rfl hpart) ⟨hd,hd⟩))))))))
theorem zXC{n:Nat}{f:Nat->Nat->Int}{u v:Nat}(hb:Bits n f)(hs:Sym n f)(hu:u<n)(hv:v<n)(ne:u≠v)(h1:f u u=0)(h2:f v v=0)(h3:f u v=1):Pv2 n f (pvB n f u v) u v:=by
 have h4:f v u=1:=by rw[hs v u hv hu];exact h3
 have a0:∀w x,x=u\/x=v->sdA f u v w x=0:=fun w x hx=>by
  unfold sdA off
  by_cases z:x=v
  ·rw[if_pos z]
  ·rw[if_neg z,if_pos (hx.resolve_right z)]
 have a1:∀w x,x≠u->x≠v->sdA f u v w x=f w x:=fun w x z1 z2=>by
  unfold sdA off;rw[if_neg z2,if_neg z1]
 have out:∀i j,(i=u\/i=v)\/(j=u\/j=v)->chg f (exB (sdA f u v u) (sdA f u v v)) i j=f i j:=fun i j z=>by
  unfold chg;refine if_neg ?_;unfold exB
  rcases z with z|z
  ·rw[a0 u i z,a0 v i z];simp
  ·rw[a0 u j z,a0 v j z];simp
 have at':∀i j,i<n->j<n->pvB n f u v i j=chg f (exB (sdA f u v u) (sdA f u v v)) (if i=v then u else if i=u then v else i) (if j=v then u else if j=u then v else j):=fun i j hi hj=>by
  unfold pvB sub;rw[zLD hu hv hi,zLD hu hv hj]
 have fu:(if u=v then u else if u=u then v else u)=v:=by rw[if_neg ne,if_pos rfl]
 have fv:(if v=v then u else if v=u then v else v)=u:=if_pos rfl;have fo:∀i,i≠u->i≠v->(if i=v then u else if i=u then v else i)=i:=fun i z1 z2=>by rw[if_neg z2,if_neg z1]
 refine⟨hb,fun i j hi hj=>?_,hu,hv,ne,⟨h1,h2,h3,h4⟩,⟨?_,?_,?_,?_⟩,fun i hi z1 z2=>⟨?_,?_⟩,fun i hi z1 z2=>⟨?_,?_⟩,fun i j hi hj z1 z2 z3 z4=>?_⟩
 ·rw[at' i j hi hj];refine zN9 hb _ _ ?_ ?_
  ·split
   ·exact hu
   ·split
    ·exact hv
    ·exact hi
  ·split
   ·exact hu
   ·split
    ·exact hv
    ·exact hj
 ·rw[at' u u hu hu,fu,out v v (.inl (.inr rfl))];exact h2
 ·rw[at' v v hv hv,fv,out u u (.inl (.inl rfl))];exact h1
 ·rw[at' u v hu hv,fu,fv,out v u (.inl (.inr rfl))];exact h4
 ·rw[at' v u hv hu,fu,fv,out u v (.inl (.inl rfl))];exact h3
 ·rw[at' u i hu hi,fu,fo i z1 z2,out v i (.inl (.inr rfl))]
 ·rw[at' v i hv hi,fv,fo i z1 z2,out u i (.inl (.inl rfl))]
 ·rw[at' i u hi hu,fu,fo i z1 z2,out i v (.inr (.inr rfl))]
 ·rw[at' i v hi hv,fv,fo i z1 z2,out i u (.inr (.inl rfl))]
 ·rw[at' i j hi hj,fo i z1 z2,fo j z3 z4,hs i u hi hu,hs i v hi hv];unfold chg exB;rw[a1 u i z1 z2,a1 v i z1 z2,a1 u j z3 z4,a1 v j z3 z4]
  rcases hb u i hu hi with a|a<;>rcases hb v i hv hi with b|b<;>rcases hb u j hu hj with c|c<;>rcases hb v j hv hj with d|d<;>rw[a,b,c,d]<;>simp<;>lia
theorem zLI{n:Nat}{f:Nat->Nat->Int}{u v:Nat}(hn:n<=10)(hb:Bits n f)(hs:Sym n f)(hu:u<n)(hv:v<n)(h1:f u u=0)(h2:f v v=0)(h3:f u v=1):zEA [mat (tab n f),rowD (numL [u,v])]=okR (mat (tab n (pvB n f u v))):=by
 have h4:f v u=1:=by rw[hs v u hv hu];exact h3
 have hd:=zC1 (tab n (pvB n f u v));have hall:=zQ2 n f (numL [u,v]) (by simp[numL]) none;have ht:(numL [u,v]).all (fun k=>decide (0<=k)&&decide (k<n))=true:=by
  show((decide ((0:Int)<=(u:Int))&&decide ((u:Int)<n))&&((decide ((0:Int)<=(v:Int))&&decide ((v:Int)<n))&&true))=true
  simp
  lia
 rw[ht]at hall;have hp:=zGG n f [u,v] (fun k hk=>by simp at hk;lia) (by simp);have e2:mat (tab [u,v].length (sub [u,v] f))=mat [[0,1],[1,0]]:=by
  show mat [[f u u,f u v],[f v u,f v v]]=_;rw[h1,h2,h3,h4]
 rw[e2]at hp;have hl:∀ρ:Rh,eLst (aCons (eLst (aCons (eC (.int 0)) (aCons (eC (.int 1)) aNil))) (aCons (eLst (aCons (eC (.int 1)) (aCons (eC (.int 0)) aNil))) aNil)) ρ=okR (mat [[0,1],[1,0]]):=fun ρ=>el2 (el2 rfl rfl) (el2 rfl rfl)
 have heq:eqD (mat [[0,1],[1,0]]) (mat [[0,1],[1,0]])=some (.bl true):=by
  unfold eqD
  have:=zC1 [[0,1],[1,0]]
  rw[if_pos ⟨by lia,by lia⟩,zYF];rfl
 exact zC9 rfl (sp (tn1 (tm1 hall)) (sp (ta0 (eqi (bi1 rfl rfl) rfl rfl)) (sx (tb1 (b2 (cn2 rfl rfl hp) (hl _) heq)) (sr (cn3 rfl (b2 rfl rfl rfl) (b2 rfl rfl rfl) (zQ6 hn hb hu hv)) ⟨hd,hd⟩))))
theorem zM2(c:Int)(n:Nat)(hn:n<=1000):∃bs:List Int,bs.length=n/\zDS [.int c,.int 2,.int (n:Int)]=okR (rowD bs):=by
 suffices h:eiR (zDZ [some (.int c,0),some (.int 2,0),some (.int (n:Int),0),none,none]) (fun _=>False) (fun d=>∃bs:List Int,bs.length=n/\d=rowD bs) by
  rcases h with⟨_,_,z⟩|⟨d,h1,bs,h2,rfl⟩
  ·exact z.elim
  ·exact⟨bs,h2,zC9 rfl h1⟩
 unfold zDZ;refine zBQ (P:=fun r=>∃bs:List Int,∃c:Int,∃o4,r=[some (.int c,0),some (.int 2,0),some (.int (n:Int),0),some (rowD bs,9),o4]/\bs.length=0) (zD8 ?_) ?_
 ·exact zB7 (r:=[some (.int c,0),some (.int 2,0),some (.int (n:Int),0),some (rowD [],9),none]) (by simp[rowD]) ⟨[],c,none,rfl,rfl⟩
 rintro r ⟨bs,c,o4,rfl,hz⟩
 refine zBQ (P:=fun r=>∃bs:List Int,∃c:Int,∃o4,r=[some (.int c,0),some (.int 2,0),some (.int (n:Int),0),some (rowD bs,9),o4]/\bs.length=n) (zD8 ?_) ?_
 ·rw[zCT,show iR1 (aCons (eV 2) aNil) (full [some (.int c,0),some (.int 2,0),some (.int (n:Int),0),some (rowD bs,9),o4])=okR (nums 0 n) from zCL (n:=n) (by simp) (by omega),zA0];refine zJ0 (fun k r=>∃bs:List Int,∃c:Int,∃o4,r=[some (.int c,0),some (.int 2,0),some (.int (n:Int),0),some (rowD bs,9),o4]/\bs.length=k) ⟨bs,c,o4,rfl,hz⟩ (fun k hk r hr=>?_) fun r h=>h
  obtain⟨bs,c,o4,rfl,hz⟩:=hr;refine zCV fun bb hb=>?_
  refine zB7 (zUF (ds:=bs.map Dt.int) (k:=8) (d:=.int (c%2)) rfl (by simp) (by simp;omega) (by simp) (by simp)) ?_;subst hb;refine zB7 (r:=[some (.int (c/2),0),some (.int 2,0),some (.int (n:Int),0),some (rowD (bs++[c%2]),9),some (.int (k:Nat),0)]) (by simp[rowD]) ⟨_,_,_,rfl,by simp[hz]⟩
 rintro r ⟨bs,c,o4,rfl,hz⟩
 exact .inr ⟨rowD bs,by simp,bs,hz,rfl⟩
theorem zJT:∀{a b:List Int},a.Perm b->a.Pairwise (·<=·)->b.Pairwise (·<=·)->a=b
 |[],b,h,_,_=>by rw[List.nil_perm.mp h]
 |x::a,[],h,_,_=>by have:=h.length_eq;simp at this
 |x::a,y::b,h,ha,hb=>by
  obtain⟨a1,a2⟩:=qBs.mp ha;obtain⟨b1,b2⟩:=qBs.mp hb;have hxy:x=y:=by
   have h1:x∈y::b:=h.mem_iff.mp (by simp);have h2:y∈x::a:=h.mem_iff.mpr (by simp)
   rcases qAh.mp h1 with z|z
   ·exact z
   ·rcases qAh.mp h2 with w|w
    ·exact w.symm
    ·have:=b1 x z;have:=a1 y w;omega
  subst hxy;rw[zJT ((List.perm_cons x).mp h) a2 b2]
theorem zR8(n:Nat)(a b:List Nat)(hn:n<=10)(ha:Rise n a)(hb:Rise n b):zCK [rowD (numL a),rowD (numL b)]=okR (rowD (numL (sd n a b))):=by
 have c1:eComp (iSq (eV 0)) 1 (.one 2) (tB (eB (inD true) (eV 2) (eV 1))) (eV 2) [some (rowD (numL a)),some (rowD (numL b))]=okR (rowD (numL (a.filter fun i=>!decide (i∈b)))):=by
  rw[numD (a.filter _)];exact zBA (fun k:Nat=>Dt.int (k:Int)) (fun k:Nat=>Dt.int (k:Int)) (fun i=>!decide (i∈b)) a rfl (fun i hi=>by simp[-qA0,zMW]) (fun i _ _=>by simp[-qA0]) _ (by rw[numD a];simp[-qA0]) (by have:=ha.le;omega)
 have c2:eComp (iSq (eV 1)) 1 (.one 2) (tB (eB (inD true) (eV 2) (eV 0))) (eV 2) [some (rowD (numL a)),some (rowD (numL b))]=okR (rowD (numL (b.filter fun i=>!decide (i∈a)))):=by
  rw[numD (b.filter _)];exact zBA (fun k:Nat=>Dt.int (k:Int)) (fun k:Nat=>Dt.int (k:Int)) (fun i=>!decide (i∈a)) b rfl (fun i hi=>by simp[-qA0,zMW]) (fun i _ _=>by simp[-qA0]) _ (by rw[numD b];simp[-qA0]) (by have:=hb.le;omega)
 have l1:(a.filter fun i=>!decide (i∈b)).length<=10:=qAj (qB5 _ _) (by have:=ha.le;omega);have l2:(b.filter fun i=>!decide (i∈a)).length<=10:=qAj (qB5 _ _) (by have:=hb.le;omega);have hp:((a.filter fun i=>!decide (i∈b))++(b.filter fun i=>!decide (i∈a))).Perm (sd n a b):=by
  refine(List.perm_ext_iff_of_nodup ?_ (zGD (zLF n a b).up)).mpr fun x=>?_
  ·rw[qD9];refine⟨(zGD ha.up).filter _,(zGD hb.up).filter _,fun x hx y hy e=>?_⟩;subst e;rw[qAg]at hx hy
   have:=hx.2
   simp[hy.1]at this
  ·rw[qAs,qAg,qAg,zTD];have h1:=ha.lt x;have h2:=hb.lt x
   by_cases z1:x∈a<;>by_cases z2:x∈b<;>simp[z1,z2]
   ·exact h1 z1
   ·exact h2 z2
 have hs:sortI (numL (a.filter fun i=>!decide (i∈b))++numL (b.filter fun i=>!decide (i∈a)))=numL (sd n a b):=by
  refine zJT ((qEf _ _).trans ?_) ?_ ?_
  ·unfold numL;rw[<- qBv];exact hp.map _
  ·have h:=qDf (le:=fun a b:Int=>decide (a<=b)) (fun a b c h1 h2=>by simp at *;omega) (fun a b=>by simp;omega) (numL (a.filter fun i=>!decide (i∈b))++numL (b.filter fun i=>!decide (i∈a)));exact h.imp fun h=>by simpa using h
  ·unfold numL;rw[qEy];exact(zLF n a b).up.imp fun h=>by omega
 have hi:∀ns:List Int,intsD (ns.map Dt.int)=some ns:=fun ns=>by
  induction ns with
  |nil=>rfl
  |cons x t ih=>simp[intsD,ih]
 generalize a.filter (fun i=>!decide (i∈b))=p at *
 generalize b.filter (fun i=>!decide (i∈a))=q at *
 have hsd:sortD [rowD (numL p++numL q)]=some (rowD (numL (sd n a b))):=by
  unfold sortD rowD;dsimp only;rw[hi];dsimp only;rw[if_pos (by simp[numL];omega),hs]
 have had:addD (rowD (numL p)) (rowD (numL q))=some (rowD (numL p++numL q)):=by
  unfold rowD;rw[zTA,if_pos (by simp[numL];omega),qBv]
 have hd:(rowD (numL (sd n a b))).dep<=1:=by unfold rowD;simp
 unfold zCK zEX;simp[-qA0,-zTA,startO,c1,c2,had,hsd,hd]
def Piv(n:Nat)(f:Nat->Nat->Int)(ks:List Nat):Prop:=(∃v,v<n/\f v v=1/\ks=[v])\/∃u v,u<v/\v<n/\f u v=1/\f u u=0/\f v v=0/\ks=[u,v]
def rwsI(L:List (List Nat)):List (List Int):=L.map numL
theorem zUZ{n:Nat}{f:Nat->Nat->Int}{ks:List Nat}(h:Piv n f ks):Rise n ks/\∀v∈ks,v<n:=by
 rcases h with⟨v,hv,_,rfl⟩|⟨u,v,huv,hv,_,_,_,rfl⟩
 ·have h:∀x∈[v],x<n:=fun x hx=>by simp at hx;lia
  exact⟨zOY (by simp) h,h⟩
 ·have h:∀x∈[u,v],x<n:=fun x hx=>by simp at hx;lia
  exact⟨zOY (by simp;exact huv) h,h⟩
theorem zLH{n:Nat}{f:Nat->Nat->Int}(hn:n<=10)(hb:Bits n f)(hs:Sym n f):∃L:List (List Nat),zDR [mat (tab n f)]=okR (mat (rwsI L))/\L.length<=200/\(∀ks∈L,Piv n f ks)/\(L=[]->∀i j,i<n->j<n->f i j=0):=by
 have hlen:lenD [mat (tab n f)]=some (.int (n:Int)):=by rw[lenM,zBZ]
 generalize hL0:((qA4 n).filter fun k=>decide (f k k=1)).map (fun k=>[k])=L0
 have hc:eComp (iR1 (aCons (eBi lenD (aCons (eV 0) aNil)) aNil)) 1 (.one 4) (tB (eB eqD (eB ixD (eB ixD (eV 0) (eV 4)) (eV 4)) (eC (.int 1)))) (eLst (aCons (eV 4) aNil)) [some (mat (tab n f)),none,none,none]=okR (mat (rwsI L0)):=by
  rw[zBA (ρ:=[some (mat (tab n f)),none,none,none]) (i:=4) (fun k:Nat=>Dt.int (k:Int)) (fun k:Nat=>rowD (numL [k])) (fun k=>decide (f k k=1)) (qA4 n) rfl (fun k hk=>eqi (b2 (b2 rfl rfl (ixM (qBe.mp hk))) rfl (ixR (qBe.mp hk))) rfl rfl) (fun k _ _=>el1 rfl) _ ?_ ?_]
  ·rw[<- hL0];unfold mat rwsI;rw[qAw,qAw];rfl
  ·rw[zCL (n:=n) (al0 (bi1 rfl hlen)) (by lia),zCJ]
  ·simp;lia
 have l0:L0.length<=n:=by
  rw[<- hL0,qAi]
  have:=qB5 (fun k=>decide (f k k=1)) (qA4 n)
  rw[qF0]at this;exact this
 have p0:∀ks∈L0,Piv n f ks:=fun ks hk=>by
  rw[<- hL0]at hk;obtain⟨k,hk2,rfl⟩:=qAl.mp hk;obtain⟨a,b⟩:=qAg.mp hk2;exact .inl ⟨k,qBe.mp a,by simpa using b,rfl⟩
 have d0:L0=[]->∀k,k<n->f k k=0:=fun e k hk=>by
  rcases hb k k hk hk with z|z
  ·exact z
  ·have:[k]∈L0:=by
    rw[<- hL0];exact qAl.mpr ⟨k,qAg.mpr ⟨qBe.mpr hk,by simpa using z⟩,rfl⟩
   rw[e]at this;exact absurd this (by simp)
 have key:nxR ((sForR (iR1 (aCons (eBi lenD (aCons (eV 0) aNil)) aNil)) 2 (sForR (iR1 (aCons (eV 2) aNil)) 3 (sIf (tAn (tB (eB eqD (eB ixD (eB ixD (eV 0) (eV 3)) (eV 2)) (eC (.int 1)))) (tAn (tB (eB eqD (eB ixD (eB ixD (eV 0) (eV 3)) (eV 3)) (eC (.int 0)))) (tB (eB eqD (eB ixD (eB ixD (eV 0) (eV 2)) (eV 2)) (eC (.int 0)))))) (sApp 1 1 (eLst (aCons (eV 3) (aCons (eV 2) aNil)))) sNil))) [some (mat (tab n f),0),some (mat (rwsI L0),2),none,none])
   (fun r=>∃L o2 o3,r=[some (mat (tab n f),0),some (mat (rwsI L),2),o2,o3]/\L.length<=200/\(∀ks∈L,Piv n f ks)/\(L=[]->L0=[])/\∀v u,v<n->u<v->f u v=1->f u u=0->f v v=0->L≠[]):=by
  rw[zCT,zCL (n:=n) (al0 (bi1 rfl hlen)) (by lia),zA0];refine zJ0 (fun k r=>∃L o2 o3,r=[some (mat (tab n f),0),some (mat (rwsI L),2),o2,o3]/\L.length<=n+10*k/\(∀ks∈L,Piv n f ks)/\(L=[]->L0=[])/\∀v u,v<k->u<v->f u v=1->f u u=0->f v v=0->L≠[]) ⟨L0,none,none,rfl,by lia,p0,fun z=>z,fun v u hv=>by lia⟩ (fun k hk r hr=>?_) fun r hr=>?_
  ·obtain⟨L,o2,o3,rfl,h1,h2,h3,h4⟩:=hr;rw[zCT,zCL (n:=k) (al0 rfl) (by lia),zA0];refine zJ0 (fun m r=>∃L o3,r=[some (mat (tab n f),0),some (mat (rwsI L),2),some (.int (k:Nat),0),o3]/\L.length<=n+10*k+m/\(∀ks∈L,Piv n f ks)/\(L=[]->L0=[])/\(∀v u,v<k->u<v->f u v=1->f u u=0->f v v=0->L≠[])/\∀u,u<m->f u k=1->f u u=0->f k k=0->L≠[]) ⟨L,o3,rfl,by lia,h2,h3,h4,fun u hu=>by lia⟩ (fun m hm r hr=>?_) fun r hr=>?_
   ·obtain⟨L,o3,rfl,h1,h2,h3,h4,h5⟩:=hr;have hmn:m<n:=by lia
    have t1:∀k1 k2 k3:Bool,decide (f m k=1)=k1->decide (f m m=0)=k2->decide (f k k=0)=k3->tAn (tB (eB eqD (eB ixD (eB ixD (eV 0) (eV 3)) (eV 2)) (eC (.int 1)))) (tAn (tB (eB eqD (eB ixD (eB ixD (eV 0) (eV 3)) (eV 3)) (eC (.int 0)))) (tB (eB eqD (eB ixD (eB ixD (eV 0) (eV 2)) (eV 2)) (eC (.int 0))))) (full [some (mat (tab n f),0),some (mat (rwsI L),2),some (.int (k:Nat),0),some (.int (m:Nat),0)])=okR (k1&&(k2&&k3)):=fun k1 k2 k3 e1 e2 e3=>by
     have x1:tB (eB eqD (eB ixD (eB ixD (eV 0) (eV 3)) (eV 2)) (eC (.int 1))) (full [some (mat (tab n f),0),some (mat (rwsI L),2),some (.int (k:Nat),0),some (.int (m:Nat),0)])=okR k1:=eqi (b2 (b2 rfl rfl (ixM hmn)) rfl (ixR hk)) rfl e1;have x2:tB (eB eqD (eB ixD (eB ixD (eV 0) (eV 3)) (eV 3)) (eC (.int 0))) (full [some (mat (tab n f),0),some (mat (rwsI L),2),some (.int (k:Nat),0),some (.int (m:Nat),0)])=okR k2:=eqi (b2 (b2 rfl rfl (ixM hmn)) rfl (ixR hmn)) rfl e2;have x3:tB (eB eqD (eB ixD (eB ixD (eV 0) (eV 2)) (eV 2)) (eC (.int 0))) (full [some (mat (tab n f),0),some (mat (rwsI L),2),some (.int (k:Nat),0),some (.int (m:Nat),0)])=okR k3:=eqi (b2 (b2 rfl rfl (ixM hk)) rfl (ixR hk)) rfl e3;cases k1
     ·exact ta0 x1
     ·cases k2
      ·exact ta1 x1 (ta0 x2)
      ·exact ta1 x1 (ta1 x2 x3)
    by_cases z:f m k=1/\f m m=0/\f k k=0
    ·refine zB7 (sk (t1 true true true (decide_eq_true z.1) (decide_eq_true z.2.1) (decide_eq_true z.2.2)) (zUF (k:=1) rfl (el2 rfl rfl) (by rw[qAi];unfold rwsI;rw[qAi];lia) (by simp) (by simp))) ⟨L++[[m,k]],some (.int (m:Nat),0),?_,by simp;lia,fun ks hk'=>?_,fun e=>by simp at e,fun _ _ _ _ _ _ _ e=>by simp at e,fun _ _ _ _ _ e=>by simp at e⟩
     ·show[_,some (Dt.lst _,2),_,_]=[_,some (mat _,2),_,_]
      unfold mat rwsI;rw[qBv,qBv];rfl
     ·rcases qAs.mp hk' with h|h
      ·exact h2 ks h
      ·have:ks=[m,k]:=by simpa using h
       exact .inr ⟨m,k,hm,hk,z.1,z.2.1,z.2.2,this⟩
    ·refine zB7 (sf ((t1 _ _ _ rfl rfl rfl).trans (congrArg okR ?_))) ⟨L,some (.int (m:Nat),0),rfl,by lia,h2,h3,h4,fun u hu a b c=>?_⟩
     ·rw[qE0,qE0]
      by_cases a:f m k=1
      ·by_cases b:f m m=0
       ·exact .inr (.inr (decide_eq_false fun c=>z ⟨a,b,c⟩))
       ·exact .inr (.inl (decide_eq_false b))
      ·exact .inl (decide_eq_false a)
     ·by_cases e:u=m
      ·subst e;exact absurd ⟨a,b,c⟩ z
      ·exact h5 u (by lia) a b c
   ·obtain⟨L,o3,rfl,h1,h2,h3,h4,h5⟩:=hr;refine⟨L,_,_,rfl,by lia,h2,h3,fun v u hv hu a b c=>?_⟩
    by_cases e:v=k
    ·subst e;exact h5 u hu a b c
    ·exact h4 v u (by lia) hu a b c
  ·obtain⟨L,o2,o3,rfl,h1,h2,h3,h4⟩:=hr;exact⟨L,o2,o3,rfl,by lia,h2,h3,h4⟩
 obtain⟨r',g1,L,o2,o3,rfl,h1,h2,h3,h4⟩:=zDD key;refine⟨L,zC9 rfl (sg hc (zC1 _) (sw g1 ?_)),h1,h2,fun e i j hi hj=>?_⟩
 ·show sRetV 2 1 _=_;unfold sRetV
  show(if _ then _ else _)=_
  rw[if_pos (.inl rfl)]
 ·have dz:=d0 (h3 e)
  by_cases z:i=j
  ·subst z;exact dz i hi
  ·rcases hb i j hi hj with w|w
   ·exact w
   ·by_cases lt:i<j
    ·exact absurd e (h4 j i hj lt w (dz i hi) (dz j hj))
    ·rw[hs i j hi hj]at w;exact absurd e (h4 i j hi (by lia) w (dz j hj) (dz i hi))
theorem zWT{i n:Nat}{vs:List Nat}{e:EM}{r:Ro}{d:Dt}{b:SM}{X:R Out}(he:e (full r)=okR d)(hd:¬d.dep<=n)(he2:e (frz (frzAt vs r))=okR d)(h:b ((frzAt vs r).set i (some (d,n)))=X):sSeq (sSet i n vs e) b r=X:=sgf he hd he2 h
theorem zVI(A:List (List Int)):¬(mat A).dep<=0:=by
 unfold mat;rw[v_dl]
 lia
theorem zP0{n q:Nat}{f:Nat->Nat->Int}(h:∀i j,i<n->j<n->f i j=0)(e:cnt n (KerF n f)=2 ^ q):q=n:=by
 have h1:cnt n (KerF n f)=cnt n (fun _=>True):=by
  congr 1
  funext x
  refine propext ⟨fun _=>trivial,fun _ a ha=>?_⟩;show sumN n _%2=0;rw[zBD fun k hk=>by rw[h a k ha hk,qD2]];rfl
 rw[h1,zQL]at e;have a:=(qCb (by decide:1<2)).mp (qCm e);have b:=(qCb (by decide:1<2)).mp (qCm e.symm)
 lia
theorem zRR{n:Nat}{f:Nat->Nat->Int}{ks:List Nat}(hn:n<=10)(hb:Bits n f)(hs:Sym n f)(h:Piv n f ks):∃g,Bits n g/\zEA [mat (tab n f),rowD (numL ks)]=okR (mat (tab n g))/\Ppt n f g (·∈ks)/\Ppt n g f (·∈ks):=by
 rcases h with⟨v,hv,h1,rfl⟩|⟨u,v,huv,hv,h3,h1,h2,rfl⟩
 ·have p:=zXD hb hs hv h1;exact⟨_,p.bg,zLJ hn hb hv h1,p.ppt,p.symm.ppt⟩
 ·have p:=zXC hb hs (by lia) hv (by lia) h1 h2 h3;exact⟨_,p.bg,zLI hn hb hs (by lia) hv h1 h2 h3,p.ppt,p.symm.ppt⟩
theorem zZD{L:List (List Nat)}{k:Nat}{ks:List Nat}(h:L[k]?=some ks):ixD (mat (rwsI L)) (.int (k:Int))=some (rowD (numL ks)):=by
 refine zEU rfl ?_;unfold rwsI;rw[qAf,qAf,h];rfl
theorem zS4(ns:List Int)(hl:ns.length<=63)(hw:∀i∈ns,i.natAbs.log2<2 ^ 20):zKD [.scr ns]=okR (.bl true):=by
 obtain⟨N0,hN0⟩:=zJ1 ns 0 (by decide);obtain⟨N1,hN1⟩:=zJ1 ns 1 (by decide);obtain⟨n,f,hn,hb,hs,hany⟩:=zO9 N0;obtain⟨L,hL,lL,pL,zL⟩:=zLH hn hb hs;obtain⟨q,_,cq,_,hq⟩:=zJX hn hb;have hlen:∀g:Nat->Nat->Int,lenD [mat (tab n g)]=some (.int (n:Int)):=fun g=>by rw[lenM,zBZ]
 have hlL:lenD [mat (rwsI L)]=some (.int (L.length:Int)):=by rw[lenM];unfold rwsI;rw[qAi]
 refine zC9 rfl (zWT (c2 (c2 rfl rfl hN0) rfl hany) (zVI _) (c2 (c2 rfl rfl hN0) rfl hany) (sg (c1 rfl hL) (zC1 _) ?_))
 by_cases hz:L.length=0
 ·have e:=List.length_eq_zero_iff.mp hz;have hqn:=zP0 (zL e) cq;subst hqn;exact sx (eqi (bi1 rfl hlL) rfl (decide_eq_true (by lia))) (sr (b2 (c1 rfl hq) (bi1 rfl (hlen f)) (by rw[eqI,decide_eq_true rfl])) ⟨qAt _,qAt _⟩)
 ·obtain⟨k,hk⟩:∃k:Nat,(k:Int)=N1%(L.length:Int):=⟨(N1%(L.length:Int)).toNat,by
   have:=qC5 N1 (show(L.length:Int)≠0 by lia)
   lia⟩
  have hkl:k<L.length:=by
   have:=qBr N1 (show(0:Int)<L.length by lia)
   lia
  obtain⟨ks,hks⟩:∃ks,L[k]?=some ks:=⟨_,qA7 hkl⟩
  have pk:=pL ks (qBi hks);obtain⟨rk,lk⟩:=zUZ pk;obtain⟨g,bg,hg,p1,p2⟩:=zRR hn hb hs pk;obtain⟨q',_,cq',_,hq'⟩:=zJX hn bg;have r1:=zMQ p1 lk cq cq';have r2:=zMQ p2 lk cq' cq;have hd:=zC1 (tab n g);have hkd:¬(rowD (numL ks)).dep<=0:=by rw[zDF];decide
  have hix:=zZD hks;have hkn:lenD [rowD (numL ks)]=some (.int (ks.length:Int)):=by rw[lenR];unfold numL;rw[qAi]
  have hcp:=zSV (tab n f) (by rw[zBZ];lia);refine sp (eqi (bi1 rfl hlL) rfl (decide_eq_false (by lia))) (zWT (b2 rfl (b2 (c2 rfl rfl hN1) (bi1 rfl hlL) (mdi (by lia) hk.symm)) hix) hkd (b2 rfl (b2 (c2 rfl rfl hN1) (bi1 rfl hlL) (mdi (by lia) hk.symm)) hix) (sg (c2 (c1 rfl hcp) (bi1 rfl (zZQ _)) hg) hd (sp (tb1 (b2 (bi1 (b2 (c1 rfl hq') (c1 rfl hq) (sbi rfl)) (d:=.int (if(q':Int)-q<0 then -((q':Int)-q)else(q':Int)-q)) ?_) (bi1 rfl hkn) (cmi ?_))) ?_)))
  ·simp[absD]
  ·refine decide_eq_false ?_
   split<;>lia
  ·refine zCW fun bb hbb=>?_
   rw[zCT,zCL (n:=3) (al0 rfl) (by decide),zA0];refine zJ0 (fun _ r=>∃o5 o6 o7 o8 o9,r=[some (.scr ns,0),some (mat (tab n f),0),some (mat (rwsI L),0),some (rowD (numL ks),0),some (mat (tab n g),2),o5,o6,o7,o8,o9]) ⟨none,none,none,none,none,rfl⟩ (fun m hm r hr=>?_) fun r hr=>?_
   ·obtain⟨o5,o6,o7,o8,o9,rfl⟩:=hr;obtain⟨N2,hN2⟩:=zJ1 ns (2+m) (by lia);obtain⟨bs,hbs,hdig⟩:=zM2 N2 n (by lia);have hN2':zBW [.scr ns,.int (2+(m:Int))]=okR (.int N2):=by rw[<- hN2];congr 2
    generalize hch:((qA4 n).filter fun k=>decide (bs.getD k 0=1))=ch
    have rc:Rise n ch:=by rw[<- hch];exact zGW n _
    have htog:=zR8 n ch ks hn rc rk;obtain⟨_,hcan⟩:=zT0 n g ch hn bg rc;have rd:=zLF n ch ks;have hpart:=zGG n f (sd n ch ks) rd.lt (by have:=rd.le;lia);obtain⟨t,hrank,ht⟩:=zP2 (m:=(sd n ch ks).length) (g:=sub (sd n ch ks) f) (by have:=rd.le;lia) (fun a b ha hb'=>hb _ _ (zC7 rd.lt ha) (zC7 rd.lt hb'));have hfe:Fe n g (·∈ch)↔t=(sd n ch ks).length:=by
     rw[ht,zYC (rd.up.imp fun h=>qAp h) rd.lt,zUX p1 p2];exact zMY fun i hi=>by rw[zTD];exact⟨fun z=>⟨hi,z⟩,fun z=>z.2⟩
    have hdl:lenD [rowD (numL (sd n ch ks))]=some (.int ((sd n ch ks).length:Int)):=by rw[lenR];unfold numL;rw[qAi]
    have hcomp:∀ρ:Rh,ρ.length=10->ρ[1]?=some (some (mat (tab n f)))->ρ[6]?=some (some (rowD bs))->eComp (iR1 (aCons (eBi lenD (aCons (eV 1) aNil)) aNil)) 1 (.one 10) (tB (eB eqD (eB ixD (eV 6) (eV 10)) (eC (.int 1)))) (eV 10) ρ=okR (rowD (numL ch)):=fun ρ h0 h1 h6=>by
     have app:∀(d:Dt),(ρ++[some d])[10]?=some (some d):=fun d=>by rw[<- h0,qAd (qA5 _)];simp
     rw[zBA (ρ:=ρ) (i:=10) (fun k:Nat=>Dt.int (k:Int)) (fun k:Nat=>Dt.int (k:Int)) (fun k=>decide (bs.getD k 0=1)) (qA4 n) h0.symm (fun k hk=>eqi (b2 (v1 (by rw[qAc (by lia)];exact h6)) (v1 (app _)) (zHU bs k (by rw[hbs];exact qBe.mp hk))) rfl rfl) (fun k _ _=>v1 (app _)) _ (by rw[zCL (n:=n) (al0 (bi1 (v1 h1) (hlen f))) (by lia),zCJ]) (by simp;lia),hch,numD]
    have e:decide ((t:Int)=((sd n ch ks).length:Int))=pB (Fe n g (·∈ch)):=by
     by_cases z:t=(sd n ch ks).length
     ·rw[decide_eq_true (by lia),pB_t (hfe.mpr z)]
     ·rw[decide_eq_false (by lia),pB_f fun y=>z (hfe.mp y)]
    have hne:neD (.bl (pB (Fe n g (·∈ch)))) (.bl (decide ((t:Int)=((sd n ch ks).length:Int))))=some (.bl false):=by
     rw[e]
     generalize pB (Fe n g (·∈ch))=b
     cases b<;>rfl
    refine zB7 (sg (c3 (c2 rfl (b2 rfl rfl (adi rfl)) hN2') rfl (bi1 rfl (hlen f)) hdig) (by rw[zDF];decide) (sg (hcomp _ rfl rfl rfl) (by rw[zDF];exact qA5 1) (sg (c2 rfl rfl htog) (by rw[zDF];exact qA5 1) (sg (c2 rfl rfl hcan) (qA5 0) (sf (to0 (tn1 (k:=true) (tm1 rfl)) (tb1 (b2 rfl (b2 (c1 (c2 rfl rfl hpart) hrank) (bi1 rfl hdl) (eqI _ _)) hne)))))))) ⟨_,_,_,_,_,rfl⟩
   ·obtain⟨o5,o6,o7,o8,o9,rfl⟩:=hr;subst hbb;exact sr rfl ⟨qA5 0,qA5 0⟩
end Mp
set_option maxHeartbeats 4000000
namespace Q70
open PySem PyProof.Rows
open L2 hiding Rep RepL
open L3
open Mp
noncomputable def top(i:Nat):Stmt:=qCi.main.body.getD i (.Pass ⟨0,0,0,0⟩)
theorem zL8:FnScope ["_law_one","_law_other"] ["_law_one","_law_other"] (zAA (top 30)):=fsc
theorem S__law_mixed_up:FnScope ["_law_table","_law_cell","_law_size","_law_i","_law_j","_law_row"] ["_law_table","_law_cell"] (zAA (top 31)):=fsc
theorem S__law_built:FnScope ["_law_rest","_law_size","_law_table","_law_place","_law_kind","_law_k"] ["_law_rest","_law_size"] (zAA (top 32)):=fsc
theorem S__law_any:FnScope ["_law_number_here","_law_most","_law_size","_law_rest","_law_kind","_law_k","_law_table","_law_i","_law_j"] ["_law_number_here","_law_most"] (zAA (top 33)):=fsc
theorem zMC:FnScope ["_law_table"] ["_law_table"] (zAA (top 34)):=fsc
theorem S__law_digits:FnScope ["_law_rest","_law_base","_law_many","_law_row","_law_k"] ["_law_rest","_law_base","_law_many"] (zAA (top 38)):=fsc
theorem S__law_mixed:FnScope ["_law_script","_law_k","_law_cell","_law_mixed_here"] ["_law_script","_law_k"] (zAA (top 28)):=fsc
theorem S__law_number:FnScope ["_law_script","_law_k","_law_number_here","_law_turn"] ["_law_script","_law_k"] (zAA (top 29)):=fsc
theorem zMB:FnScope ["_law_table","_law_numbers"] ["_law_table","_law_numbers"] (zAA (top 35)):=fsc
theorem S__law_pivots:FnScope ["_law_table","_law_found","_law_v","_law_u"] ["_law_table"] (zAA (top 39)):=fsc
theorem S__law_rank:FnScope ["_law_table","_law_rows","_law_many","_law_place","_law_some","_law_rest"] ["_law_table"] (zAA (top 36)):=fsc
theorem zHW:FnScope ["_law_some","_law_numbers"] ["_law_some","_law_numbers"] (zAA (top 37)):=fsc
theorem zOB:FnScope ["thing"] ["thing"] (zAA (top 4)):=fsc
theorem zMA:FnScope ["numbers"] ["numbers"] (zAA (top 23)):=fsc
theorem zT8:FnScope ["table","numbers"] ["table","numbers"] (zAA (top 18)):=fsc
theorem zQY:FnScope ["table","numbers"] ["table","numbers"] (zAA (top 6)):=fsc
theorem zWC:FnScope ["one","other"] ["one","other"] (zAA (top 8)):=fsc
theorem S_cleared:FnScope ["rows","column","at","lead","others"] ["rows","column","at"] (zAA (top 21)):=fsc
theorem zOA:FnScope ["size","number"] ["size","number"] (zAA (top 22)):=fsc
theorem S_undoing:FnScope ["table","size","rows","column","leads"] ["table"] (zAA (top 16)):=fsc
theorem zOC:FnScope ["table","numbers"] ["table","numbers"] (zAA (top 25)):=fsc
theorem S_changed_where:FnScope ["table","is_changed","size"] ["table","is_changed"] (zAA (top 14)):=fsc
theorem S_exchanged_at:FnScope ["table","one","other","sides","changed","order"] ["table","one","other"] (zAA (top 12)):=fsc
theorem zL7:FnScope ["table","number"] ["table","number"] (zAA (top 7)):=fsc
theorem zQZ:FnScope ["row"] ["row"] (zAA (top 9)):=fsc
theorem zR0:FnScope ["table","number"] ["table","number"] (zAA (top 13)):=fsc
theorem S_pivoted:FnScope ["table","numbers","near"] ["table","numbers"] (zAA (top 11)):=fsc
theorem S_less_leaders:FnScope ["row","leaders","left","leader"] ["row","leaders"] (zAA (top 20)):=fsc
theorem S_greatest_part:FnScope ["table","part","leaders","number","row","left"] ["table"] (zAA (top 19)):=fsc
theorem zQX:FnScope ["table"] ["table"] (zAA (top 17)):=fsc
theorem S_law:FnScope ["_law_script","_law_table","_law_some","_law_numbers","_law_other","_law_k","_law_bits","_law_chosen","_law_due","_law_found"] ["_law_script"] (zAA (top 40)):=fsc
section
variable{P:Program}{w:World}{K:qA1}{mg:Str->Option Value}{base:Heap}
structure Bd(K:qA1)(mg:Str->Option Value):Prop where
 d0:Def K mg "_law_added" (top 30)
 d1:Def K mg "_law_mixed_up" (top 31)
 d2:Def K mg "_law_built" (top 32)
 d3:Def K mg "_law_any" (top 33)
 d4:Def K mg "_law_copy" (top 34)
 d5:Def K mg "_law_digits" (top 38)
 d6:Def K mg "_law_mixed" (top 28)
 d7:Def K mg "_law_number" (top 29)
 d8:Def K mg "_law_part" (top 35)
 d9:Def K mg "_law_pivots" (top 39)
 d10:Def K mg "_law_rank" (top 36)
 d11:Def K mg "_law_toggled" (top 37)
 d12:Def K mg "is_whole" (top 4)
 d13:Def K mg "are_whole" (top 23)
 d14:Def K mg "is_set" (top 18)
 d15:Def K mg "part_at" (top 6)
 d16:Def K mg "added" (top 8)
 d17:Def K mg "cleared" (top 21)
 d18:Def K mg "unit_row" (top 22)
 d19:Def K mg "undoing" (top 16)
 d20:Def K mg "can_undo" (top 25)
 d21:Def K mg "changed_where" (top 14)
 d22:MkrE K mg "exchanged_at" (top 12)
 d23:Def K mg "has_number" (top 7)
 d24:Def K mg "ones_in" (top 9)
 d25:Def K mg "near_to" (top 13)
 d26:MkrE K mg "pivoted" (top 11)
 d27:Def K mg "less_leaders" (top 20)
 d28:Def K mg "greatest_part" (top 19)
 d29:Def K mg "rest_of" (top 17)
 e0:mg "abs" = none
 e1:mg "all" = none
 e2:mg "bool" = none
 e3:mg "enumerate" = none
 e4:mg "int" = none
 e5:mg "isinstance" = none
 e6:mg "len" = none
 e7:mg "list" = none
 e8:mg "min" = none
 e9:mg "range" = none
 e10:mg "sorted" = none
 e11:mg "zip" = none
structure Bn(P:Program)(w:World)(K:qA1)(mg:Str->Option Value)(base:Heap):Type where
 S:Bd K mg
 a_NoPivot:Addr
 z_NoPivot:XNo K mg "NoPivot" a_NoPivot
variable(B:Bn P w K mg base)
include B
theorem zGC:LamOk K mg 0 "exchanged_at" zAY:=by
 obtain⟨T,g⟩:=B.S.d22;refine⟨⟨(_,_,_,"sides"),["i","j"],_,g.lam.trans rfl,lsc,fun _ _ _ _ _=>uw2 fun _ _=>rfl,rfl,?_⟩⟩;intro X q f cdv cl s H hK hm hr;subst hK hm
 letI:Kc:=⟨X.K⟩
 have hu:=hr.units;exact⟨_,(zLN (zDP (u_in (K:=X.K)) zA8 (zAU (zAS (K:=X.K)) (pn 2) (pn 0) (fun _ _=>rfl)) rfl) (zLN (zDP (u_in (K:=X.K)) zA8 (zAU (zAS (K:=X.K)) (pn 2) (pn 1) (fun _ _=>rfl)) rfl) (zI6 (zDP (u_ne hu) (zAU (zAS (K:=X.K)) (pn 2) (pn 0) (fun _ _=>rfl)) (zAU (zAS (K:=X.K)) (pn 2) (pn 1) (fun _ _=>rfl)) (zB0 _))))),(dz (zHG (dz (zA7 zJW (dz zA9) (zA7 zB2 (de_v 2) (de_v 0)))) (zHG (dz (zA7 zJW (dz zA9) (zA7 zB2 (de_v 2) (de_v 1)))) (zA7 zUS (zA7 zB2 (de_v 2) (de_v 0)) (zA7 zB2 (de_v 2) (de_v 1))))))⟩
theorem zLV:LamOk K mg 0 "pivoted" zBH:=by
 obtain⟨T,g⟩:=B.S.d26;refine⟨⟨(_,_,_,"near"),["i","j"],_,g.lam.trans rfl,lsc,fun _ _ _ _ _=>uw2 fun _ _=>rfl,rfl,?_⟩⟩;intro X q f cdv cl s H hK hm hr;subst hK hm
 letI:Kc:=⟨X.K⟩
 have hu:=hr.units;exact⟨_,(zLN (zDP (u_in (K:=X.K)) (pn 0) (pn 2) rfl) (zI6 (zDP (u_in (K:=X.K)) (pn 1) (pn 2) rfl))),(dz (zHG (dz (zA7 zJW (de_v 0) (de_v 2))) (zA7 zJW (de_v 1) (de_v 2))))⟩
theorem lams:∀y gm,([("exchanged_at",zAY),("pivoted",zBH)]:List (Str×Mi.FM)).lookup y=some gm->LamOk K mg 0 y gm:=lam2 (zGC B) (lam1 (zLV B))
theorem zF7:Has P w K mg base "_law_added" 1 ["_law_one","_law_other"] (sp0 K mg 1 zAV):=by
 letI:Kc:=⟨K⟩
 exact dfM B.S.d0 zL8 (fun _ _ _ _ _ _=>uw2 fun _ _=>rfl) fun hr hu h=>⟨_,(zAD (zAZ (zB1 rfl (cn ["0","1","_law_a","_law_b"] 2 (by kernel_rfl)) (zXF (K:=K) rfl B.S.e11 (zA1 (pn 0) (zA1 (pn 1) zA5))) (fun _ _ _ _=>zLL (K:=K) rfl (zEI (pgn 2) (zEI (pgn 3) zLK))) (fun _ _ _ _=>zB6) (fun _ _ _ _=>(zAO zCU (zAO zDA (pn 2) (pn 3)) zA8))))),(zB9 (zBE (n:=1) [0,1] (zAQ (n:=0) (zYJ (zA2 (de_v 0) (zA2 (de_v 1) zA6))) (zOK (zEH 2 (zEH 3 zLA)) rfl) zBK (zA7 zBT (zA7 zC2 (de_v 2) (de_v 3)) (dz zA9)))) h)⟩
theorem zG9:Has P w K mg base "_law_mixed_up" 2 ["_law_table","_law_cell"] (sp0 K mg 0 zBU):=by
 letI:Kc:=⟨K⟩
 exact dfM B.S.d1 S__law_mixed_up (fun _ _ _ _ _ _=>uw2 fun _ _=>rfl) fun hr hu h=>⟨_,(zA4 (pst 2 S__law_mixed_up.nd (zAK (zBF (K:=K)) rfl B.S.e6 boot_len (zA1 (pn 0) zA5)))
   (zA4 (pst 3 S__law_mixed_up.nd (zAO zCU (pn 1) (pn 2)))
   (zA4 (pst 4 S__law_mixed_up.nd (zAO zCU (zAO zDA (zAO zDA (pn 3) zA8) (zAO zCU (zAO zE5 (pn 1) (pn 2)) (zAO zNH (pn 2) zA8))) (pn 2)))
   (zA4 (pst 0 S__law_mixed_up.nd (zB1 rfl (cn ["_law_table","1","2","_law_i","_law_j","5","_law_k","_law_row"] 2 (by kernel_rfl)) (zMS (K:=K) rfl B.S.e3 (zA1 (pn 0) zA5)) (fun _ _ _ _=>zLL (K:=K) rfl (zEI (pgn 6) (zEI (pgn 7) zLK))) (fun _ _ _ _=>zB6) (fun _ _ _ _=>(zF6 (zBM (u_eq hu) (pn 6) (pn 4) (zB0 _)) (zBO (zF7 B) (by decide) hr rfl (zA1 (pn 7) (zA1 (zAU (zAS (K:=K)) (pn 0) (pn 3) (fun _ _=>rfl)) zA5))) (zCM (zFQ (K:=K) rfl) rfl B.S.e7 boot_list (zA1 (pn 7) zA5))))))
   (zA4 (zCA PassesOwn.never rfl (zCB (K:=K) (pn 0)) (zC0 (i:=5) S__law_mixed_up.nd rfl oi) (zAD (zDH (zAO zCU (zAO zDA (zAU (zAS (K:=K)) (pn 5) (pn 4) (fun _ _=>rfl)) (zAU (zAS (K:=K)) (pn 5) (pn 3) (fun _ _=>rfl))) zA8) (zDI (pn 5) (pn 4) zFM))))
   (zAD (zAZ (pn 0)))))))),(zB9 (zAF (zAL (n:=0) [0] (zBS zBG (zA2 (de_v 0) zA6)))
   (zAF (zAL (n:=0) [1,2] (zA7 zBT (de_v 1) (de_v 2)))
   (zAF (zAL (n:=0) [2,3,1] (zA7 zBT (zA7 zC2 (zA7 zC2 (de_v 3) (dz zA9)) (dz (zA7 zBT (dz (zA7 zE6 (de_v 1) (de_v 2))) (dz (zA7 zI3 (de_v 2) (dz zA9)))))) (de_v 2)))
   (zAF (zAL (n:=2) [4,5,0,3] (zAQ (n:=1) (zYL (zA2 (de_v 0) zA6)) (zOK (zEH 6 (zEH 7 zLA)) rfl) zBK (zKO (dt_b (dz (zA7 zCQ (de_v 6) (de_v 4)))) (zAR (zA2 (de_v 7) (zA2 (zA7 zB2 (de_v 0) (de_v 3)) zA6))) (zBS zJG (zA2 (de_v 7) zA6)))))
   (zAF (zQ9 0 5 (de_v 4) (dz (zA7 zBT (zA7 zC2 (zA7 zB2 (de_v 5) (de_v 4)) (zA7 zB2 (de_v 5) (de_v 3))) (dz zA9))))
   (zDV 0)))))) h)⟩
theorem zIZ:Has P w K mg base "_law_built" 3 ["_law_rest","_law_size"] (sp0 K mg 0 zD1):=by
 letI:Kc:=⟨K⟩
 exact dfM B.S.d2 S__law_built (fun _ _ _ _ _ _=>uw2 fun _ _=>rfl) fun hr hu h=>⟨_,(zA4 (zCE (i:=2) S__law_built.nd rfl oi rfl (cn ["0","_law_size","2","3","4","5","_law_i"] 1 (by kernel_rfl)) (zAN rfl B.S.e9 (zA1 (pn 1) zA5)) (fun _ _ _ _=>(pgn 6)) (fun _ _ _ _=>zB6) (fun _ _ _ _=>(zB1 rfl (cn ["0","1","2","3","4","5","6","_law_j"] 1 (by kernel_rfl)) (zAN rfl B.S.e9 (zA1 (pn 1) zA5)) (fun _ _ _ _=>(pgn 7)) (fun _ _ _ _=>zB6) (fun _ _ _ _=>zA8))))
   (zA4 (pst 3 S__law_built.nd zA8)
   (zA4 (zRQ PassesOwn.never (zBM u_lt (pn 3) (pn 1) (zB0 _)) (zA4 (pst 4 S__law_built.nd (zAO zCU (pn 0) zA8))
   (zA4 (pst 0 S__law_built.nd (zAO zE5 (pn 0) zA8))
   (zA4 (zDO (pt_w (zK2 (zBM u_gt (pn 4) zA8 (zB0 _)) (zIV (zBM u_lt (zAO zDA (pn 3) zA8) (pn 1) (zB0 _))))) (zA4 (zDH zA8 (zDI (zAU (zAS (K:=K)) (pn 2) (pn 3) (fun _ _=>rfl)) (zAO zDA (pn 3) zA8) zFM))
   (zA4 (zDH zA8 (zDI (zAU (zAS (K:=K)) (pn 2) (zAO zDA (pn 3) zA8) (fun _ _=>rfl)) (pn 3) zFM))
   (zAD (pst 3 S__law_built.nd (zAO zDA (pn 3) zA8))))) (zAD (zDO (zBM u_gt (pn 4) zA8 (zB0 _)) (zAD (zDH zA8 (zDI (zAU (zAS (K:=K)) (pn 2) (pn 3) (fun _ _=>rfl)) (pn 3) zFM))) zBN)))
   (zAD (pst 3 S__law_built.nd (zAO zDA (pn 3) zA8)))))))
   (zA4 (zCA PassesOwn.never rfl (zAN rfl B.S.e9 (zA1 zA8 zA5)) (zC0 (i:=5) S__law_built.nd rfl oi) (zAD (zDO (zBM u_gt (pn 1) zA8 (zB0 _)) (zA4 (pst 2 S__law_built.nd (zBO (zG9 B) (by decide) hr rfl (zA1 (pn 2) (zA1 (zAO zCU (pn 0) (zAO zFX (pn 1) (zAO zNH (pn 1) zA8))) zA5))))
   (zAD (pst 0 S__law_built.nd (zAO zE5 (pn 0) (zAO zFX (pn 1) (zAO zNH (pn 1) zA8)))))) zBN)))
   (zAD (zAZ (pn 2))))))),(zB9 (zAF (zAL (n:=2) [1] (zAQ (n:=1) (zCN (zA2 (de_v 1) zA6)) (zAP 6) zBK (zAQ (n:=0) (zCN (zA2 (de_v 1) zA6)) (zAP 7) zBK zA9)))
   (zAF (zAL (n:=0) [] zA9)
   (zAF (zSJ (dt_b (dz (zA7 zE1 (de_v 3) (de_v 1)))) (zAF (zAL (n:=0) [0] (zA7 zBT (de_v 0) (dz zA9)))
   (zAF (zAL (n:=0) [0] (zA7 zE6 (de_v 0) (dz zA9)))
   (zAF (zDW (zKM (dt_b (dz (zA7 zE1 (de_v 4) (dz zA9)))) (dt_b (dz (zA7 zE1 (zA7 zC2 (de_v 3) (dz zA9)) (de_v 1))))) (zAF (zFF 2 (n:=0) (de_v 3) (zA7 zC2 (de_v 3) (dz zA9)) zA9)
   (zAF (zFF 2 (n:=0) (zA7 zC2 (de_v 3) (dz zA9)) (de_v 3) zA9)
   (zAL (n:=1) [3] (zA7 zC2 (de_v 3) (dz zA9))))) (zDW (dt_b (dz (zA7 zE1 (de_v 4) (dz zA9)))) (zFF 2 (n:=0) (de_v 3) (de_v 3) zA9) zCC))
   (zAL (n:=1) [3] (zA7 zC2 (de_v 3) (dz zA9)))))))
   (zAF (zD2 (zCN (zA2 zA9 zA6)) (zDW (dt_b (dz (zA7 zE1 (de_v 1) (dz zA9)))) (zAF (zAL (n:=0) [2,0,1] (zAR (zA2 (de_v 2) (zA2 (zA7 zBT (de_v 0) (dz (zA7 zFY (de_v 1) (dz (zA7 zI3 (de_v 1) (dz zA9)))))) zA6))))
   (zAL (n:=0) [0,1] (zA7 zE6 (de_v 0) (dz (zA7 zFY (de_v 1) (dz (zA7 zI3 (de_v 1) (dz zA9)))))))) zCC))
   (zDV 2))))) h)⟩
theorem zLQ:Has P w K mg base "_law_any" 4 ["_law_number_here","_law_most"] (sp0 K mg 0 zDU):=by
 letI:Kc:=⟨K⟩
 exact dfM B.S.d3 S__law_any (fun _ _ _ _ _ _=>uw2 fun _ _=>rfl) fun hr hu h=>⟨_,(zA4 (pst 2 S__law_any.nd (zAO zCU (zAO zE5 (pn 0) zA8) (zAO zDA (pn 1) zA8)))
   (zA4 (pst 3 S__law_any.nd (zAO zE5 (zAO zE5 (pn 0) zA8) (zAO zDA (pn 1) zA8)))
   (zA4 (zDO (zBM (u_eq hu) (zAO zCU (pn 0) zA8) zA8 (zB0 _)) (zAD (zAZ (zBO (zIZ B) (by decide) hr rfl (zA1 (pn 3) (zA1 (pn 2) zA5))))) zBN)
   (zA4 (pst 4 S__law_any.nd (zCM (zFQ (K:=K) rfl) rfl B.S.e7 boot_list (zA1 (zCM zPS rfl B.S.e9 boot_range (zA1 (pn 2) zA5)) zA5)))
   (zA4 (zDO (zBM (u_eq hu) (zAO zCU (pn 0) zA8) zA8 (zB0 _)) (zAD (zCA PassesOwn.never rfl (zK3 rfl B.S.e9 (zA1 zA8 (zA1 (pn 2) zA5))) (zC0 (i:=5) S__law_any.nd rfl oi) (zA4 (zDH (zF6 (zBM (u_eq hu) (zAO zCU (zAO zE5 (pn 3) zA8) zA8) zA8 (zB0 _)) (zAU (zAS (K:=K)) (pn 4) (zAO zCU (pn 3) (pn 5)) (fun _ _=>rfl)) (pn 5)) (zDI (pn 4) (pn 5) zFM))
   (zAD (pst 3 S__law_any.nd (zAO zE5 (pn 3) zA8)))))) zBN)
   (zA4 (pst 6 S__law_any.nd (zB1 rfl (cn ["0","1","_law_size","3","4","5","6","7","_law_j","_law_i"] 1 (by kernel_rfl)) (zAN rfl B.S.e9 (zA1 (pn 2) zA5)) (fun _ _ _ _=>(pgn 9)) (fun _ _ _ _=>zB6) (fun _ _ _ _=>(zB1 rfl (cn ["0","1","2","3","4","5","6","7","8","9","_law_j"] 1 (by kernel_rfl)) (zAN rfl B.S.e9 (zA1 (pn 2) zA5)) (fun _ _ _ _=>(pgn 10)) (fun _ _ _ _=>zB6) (fun _ _ _ _=>zA8)))))
   (zA4 (zCA PassesOwn.never rfl (zAN rfl B.S.e9 (zA1 (pn 2) zA5)) (zC0 (i:=7) S__law_any.nd rfl oi) (zAD (zCA PassesOwn.never rfl (zAN rfl B.S.e9 (zA1 (zAO zDA (pn 7) zA8) zA5)) (zC0 (i:=8) S__law_any.nd rfl oi) (zA4 (zDH (zAO zCU (pn 3) zA8) (zDI (zAU (zAS (K:=K)) (pn 6) (pn 7) (fun _ _=>rfl)) (pn 8) zFM))
   (zA4 (zDH (zAO zCU (pn 3) zA8) (zDI (zAU (zAS (K:=K)) (pn 6) (pn 8) (fun _ _=>rfl)) (pn 7) zFM))
   (zAD (pst 3 S__law_any.nd (zAO zE5 (pn 3) zA8))))))))
   (zAD (zAZ (zB1 rfl (cn ["0","1","_law_size","3","_law_kind","5","_law_table","7","_law_j","_law_i"] 1 (by kernel_rfl)) (zAN rfl B.S.e9 (zA1 (pn 2) zA5)) (fun _ _ _ _=>(pgn 9)) (fun _ _ _ _=>zB6) (fun _ _ _ _=>(zB1 rfl (cn ["0","1","2","3","_law_kind","5","_law_table","7","8","_law_i","_law_j"] 1 (by kernel_rfl)) (zAN rfl B.S.e9 (zA1 (pn 2) zA5)) (fun _ _ _ _=>(pgn 10)) (fun _ _ _ _=>zB6) (fun _ _ _ _=>(zAU (zAS (K:=K)) (zAU (zAS (K:=K)) (pn 6) (zAU (zAS (K:=K)) (pn 4) (pn 9) (fun _ _=>rfl)) (fun _ _=>rfl)) (zAU (zAS (K:=K)) (pn 4) (pn 10) (fun _ _=>rfl)) (fun _ _=>rfl))))))))))))))),(zB9 (zAF (zAL (n:=0) [0,1] (zA7 zBT (dz (zA7 zE6 (de_v 0) (dz zA9))) (zA7 zC2 (de_v 1) (dz zA9))))
   (zAF (zAL (n:=0) [0,1] (zA7 zE6 (dz (zA7 zE6 (de_v 0) (dz zA9))) (zA7 zC2 (de_v 1) (dz zA9))))
   (zAF (zDW (dt_b (dz (zA7 zCQ (dz (zA7 zBT (de_v 0) (dz zA9))) (dz zA9)))) (zBE (n:=0) [3,2] (zAR (zA2 (de_v 3) (zA2 (de_v 2) zA6)))) zCC)
   (zAF (zAL (n:=1) [2] (zG4 (zA2 (de_v 2) zA6)))
   (zAF (zDW (dt_b (dz (zA7 zCQ (dz (zA7 zBT (de_v 0) (dz zA9))) (dz zA9)))) (zD2 (zYK (zA2 zA9 (zA2 (de_v 2) zA6))) (zAF (zHD 4 (n:=0) (de_v 5) (zKO (dt_b (dz (zA7 zCQ (dz (zA7 zBT (dz (zA7 zE6 (de_v 3) (dz zA9))) (dz zA9))) (dz zA9)))) (zA7 zB2 (de_v 4) (dz (zA7 zBT (de_v 3) (de_v 5)))) (de_v 5)))
   (zAL (n:=0) [3] (zA7 zE6 (de_v 3) (dz zA9))))) zCC)
   (zAF (zAL (n:=2) [7,8,2] (zAQ (n:=1) (zCN (zA2 (de_v 2) zA6)) (zAP 9) zBK (zAQ (n:=0) (zCN (zA2 (de_v 2) zA6)) (zAP 10) zBK zA9)))
   (zAF (zD2 (zCN (zA2 (de_v 2) zA6)) (zD2 (zCN (zA2 (zAW (zA7 zC2 (de_v 7) (dz zA9))) zA6)) (zAF (zFF 6 (n:=0) (de_v 7) (de_v 8) (zA7 zBT (de_v 3) (dz zA9)))
   (zAF (zFF 6 (n:=0) (de_v 8) (de_v 7) (zA7 zBT (de_v 3) (dz zA9)))
   (zAL (n:=0) [3] (zA7 zE6 (de_v 3) (dz zA9)))))))
   (zBE (n:=0) [7,8,2,6,4] (zAW (zAQ (n:=1) (zCN (zA2 (de_v 2) zA6)) (zAP 9) zBK (zAQ (n:=0) (zCN (zA2 (de_v 2) zA6)) (zAP 10) zBK (zA7 zB2 (zA7 zB2 (de_v 6) (zA7 zB2 (de_v 4) (de_v 9))) (zA7 zB2 (de_v 4) (de_v 10)))))))))))))) h)⟩
theorem zK9:Has P w K mg base "_law_copy" 1 ["_law_table"] (sp0 K mg 2 zDT):=by
 letI:Kc:=⟨K⟩
 exact dfM B.S.d4 zMC (fun _ _ _ _ _ _=>uw1 fun _=>rfl) fun hr hu h=>⟨_,(zAD (zAZ (zB1 rfl (cn ["0","_law_row"] 1 (by kernel_rfl)) (zCB (K:=K) (pn 0)) (fun _ _ _ _=>(pgn 1)) (fun _ _ _ _=>zB6) (fun _ _ _ _=>(zCM (zFQ (K:=K) rfl) rfl B.S.e7 boot_list (zA1 (pn 1) zA5)))))),(zB9 (zBE (n:=2) [0] (zAQ (n:=1) (zCO (de_v 0)) (zAP 1) zBK (zBS zJG (zA2 (de_v 1) zA6)))) h)⟩
theorem zHS:Has P w K mg base "_law_digits" 1 ["_law_rest","_law_base","_law_many"] (sp0 K mg 9 zDS):=by
 letI:Kc:=⟨K⟩
 exact dfM B.S.d5 S__law_digits (fun _ _ _ _ _ _=>uw3 fun _ _ _=>rfl) fun hr hu h=>⟨_,(zA4 (pst 3 S__law_digits.nd (zFZ zA5))
   (zA4 (zCA PassesOwn.never rfl (zAN rfl B.S.e9 (zA1 (pn 2) zA5)) (zC0 (i:=4) S__law_digits.nd rfl oi) (zA4 (zIW (zPC qBm qBw qBx zJ2 (pn 3) (zA1 (zAO zCU (pn 0) (pn 1)) zA5)))
   (zAD (pst 0 S__law_digits.nd (zAO zE5 (pn 0) (pn 1))))))
   (zAD (zAZ (pn 3))))),(zB9 (zAF (zAL (n:=9) [] (zG3 (n:=8) zA6))
   (zAF (zD2 (zCN (zA2 (de_v 2) zA6)) (zAF (zQA 3 (n:=0) (zA7 zBT (de_v 0) (de_v 1)))
   (zAL (n:=0) [0,1] (zA7 zE6 (de_v 0) (de_v 1)))))
   (zDV 3))) h)⟩
theorem zIY:Has P w K mg base "_law_mixed" 1 ["_law_script","_law_k"] (sp0 K mg 0 zD0):=by
 letI:Kc:=⟨K⟩
 exact dfM B.S.d6 S__law_mixed (fun _ _ _ _ _ _=>uw2 fun _ _=>rfl) fun hr hu h=>⟨_,(zA4 (pst 2 S__law_mixed.nd zA8)
   (zA4 (zDO (zBM u_gt (zAK (zBF (K:=K)) rfl B.S.e6 boot_len (zA1 (pn 0) zA5)) zA8 (zB0 _)) (zAD (pst 2 S__law_mixed.nd (zAU (zAS (K:=K)) (pn 0) (zAO zCU (pn 1) (zAK (zBF (K:=K)) rfl B.S.e6 boot_len (zA1 (pn 0) zA5))) (fun _ _=>rfl)))) zBN)
   (zA4 (pst 3 S__law_mixed.nd (zAO zCU (zAO zFX (zAO zDA (zAO zCU (pn 2) zA8) (zAO zFX zA8 (zAO zDA (pn 1) zA8))) zA8) zA8))
   (zAD (zAZ (zAO zCU (zAO zFX (pn 3) zA8) zA8)))))),(zB9 (zAF (zAL (n:=0) [] zA9)
   (zAF (zDW (dt_b (dz (zA7 zE1 (dz (zBS zBG (zA2 (de_v 0) zA6))) (dz zA9)))) (zAL (n:=0) [0,1] (zA7 zB2 (de_v 0) (dz (zA7 zBT (de_v 1) (dz (zBS zBG (zA2 (de_v 0) zA6))))))) zCC)
   (zAF (zAL (n:=0) [2,1] (zA7 zBT (dz (zA7 zFY (zA7 zC2 (dz (zA7 zBT (de_v 2) (dz zA9))) (dz (zA7 zFY (dz zA9) (zA7 zC2 (de_v 1) (dz zA9))))) (dz zA9))) (dz zA9)))
   (zBE (n:=0) [3] (zA7 zBT (dz (zA7 zFY (de_v 3) (dz zA9))) (dz zA9)))))) h)⟩
theorem zDC:Has P w K mg base "_law_number" 2 ["_law_script","_law_k"] (sp0 K mg 1 zBW):=by
 letI:Kc:=⟨K⟩
 exact dfM B.S.d7 S__law_number (fun _ _ _ _ _ _=>uw2 fun _ _=>rfl) fun hr hu h=>⟨_,(zA4 (pst 2 S__law_number.nd zA8)
   (zA4 (zDO (pt_w (zK2 (zBM u_gt (zAK (zBF (K:=K)) rfl B.S.e6 boot_len (zA1 (pn 0) zA5)) zA8 (zB0 _)) (zIV (zBM (u_eq hu) (zAO zCU (zAU (zAS (K:=K)) (pn 0) zA8 (fun _ _=>rfl)) zA8) zA8 (zB0 _))))) (zA4 (zDO (zBM u_lt (pn 1) (zAK (zBF (K:=K)) rfl B.S.e6 boot_len (zA1 (pn 0) zA5)) (zB0 _)) (zAD (pst 2 S__law_number.nd (zAO zE5 (zAO zCU (zAU (zAS (K:=K)) (pn 0) (pn 1) (fun _ _=>rfl)) (zAO zFX zA8 (zAO zWM zA8 zA8))) (zAO zNH zA8 (zAK (zQO rfl) rfl B.S.e8 boot_min (zA1 (pn 1) (zA1 zA8 zA5))))))) zBN)
   (zAD (zAZ (pn 2)))) zBN)
   (zA4 (zCA PassesOwn.never rfl (zAN rfl B.S.e9 (zA1 zA8 zA5)) (zC0 (i:=3) S__law_number.nd rfl oi) (zAD (pst 2 S__law_number.nd (zAO zDA (zAO zFX (pn 2) zA8) (zBO (zIY B) (by decide) hr rfl (zA1 (pn 0) (zA1 (zAO zDA (zAO zFX zA8 (pn 1)) (pn 3)) zA5)))))))
   (zAD (zAZ (zAO zCU (pn 2) (zAO zWM zA8 zA8))))))),(zB9 (zAF (zAL (n:=0) [] zA9)
   (zAF (zDW (zKM (dt_b (dz (zA7 zE1 (dz (zBS zBG (zA2 (de_v 0) zA6))) (dz zA9)))) (dt_b (dz (zA7 zCQ (dz (zA7 zBT (zA7 zB2 (de_v 0) (dz zA9)) (dz zA9))) (dz zA9))))) (zAF (zDW (dt_b (dz (zA7 zE1 (de_v 1) (dz (zBS zBG (zA2 (de_v 0) zA6)))))) (zAL (n:=0) [0,1] (zA7 zE6 (dz (zA7 zBT (zA7 zB2 (de_v 0) (de_v 1)) (dz (zA7 zFY (dz zA9) (dz (zA7 zTG (dz zA9) (dz zA9))))))) (dz (zA7 zI3 (dz zA9) (dz (zBS zYS (zA2 (de_v 1) (zA2 zA9 zA6)))))))) zCC)
   (zDV 2)) zCC)
   (zAF (zD2 (zCN (zA2 zA9 zA6)) (zAL (n:=1) [2,0,3,1] (zA7 zC2 (dz (zA7 zFY (de_v 2) (dz zA9))) (zAR (zA2 (de_v 0) (zA2 (zAW (zA7 zC2 (dz (zA7 zFY (dz zA9) (de_v 1))) (de_v 3))) zA6))))))
   (zBE (n:=1) [2] (zA7 zBT (de_v 2) (dz (zA7 zTG (dz zA9) (dz zA9)))))))) h)⟩
theorem zK8:Has P w K mg base "_law_part" 1 ["_law_table","_law_numbers"] (sp0 K mg 2 zBI):=by
 letI:Kc:=⟨K⟩
 exact dfM B.S.d8 zMB (fun _ _ _ _ _ _=>uw2 fun _ _=>rfl) fun hr hu h=>⟨_,(zAD (zAZ (zB1 rfl (cn ["_law_table","_law_numbers","_law_i"] 1 (by kernel_rfl)) (zCB (K:=K) (pn 1)) (fun _ _ _ _=>(pgn 2)) (fun _ _ _ _=>zB6) (fun _ _ _ _=>(zB1 rfl (cn ["_law_table","1","_law_i","_law_j"] 1 (by kernel_rfl)) (zCB (K:=K) (pn 1)) (fun _ _ _ _=>(pgn 3)) (fun _ _ _ _=>zB6) (fun _ _ _ _=>(zAU (zAS (K:=K)) (zAU (zAS (K:=K)) (pn 0) (pn 2) (fun _ _=>rfl)) (pn 3) (fun _ _=>rfl)))))))),(zB9 (zBE (n:=2) [1,0] (zAQ (n:=1) (zCO (de_v 1)) (zAP 2) zBK (zAQ (n:=0) (zCO (de_v 1)) (zAP 3) zBK (zA7 zB2 (zA7 zB2 (de_v 0) (de_v 2)) (de_v 3))))) h)⟩
theorem zHR:Has P w K mg base "_law_pivots" 1 ["_law_table"] (sp0 K mg 2 zDR):=by
 letI:Kc:=⟨K⟩
 exact dfM B.S.d9 S__law_pivots (fun _ _ _ _ _ _=>uw1 fun _=>rfl) fun hr hu h=>⟨_,(zA4 (zCE (i:=1) S__law_pivots.nd rfl oi rfl (cn ["_law_table","1","2","3","_law_v"] 1 (by kernel_rfl)) (zAN rfl B.S.e9 (zA1 (zAK (zBF (K:=K)) rfl B.S.e6 boot_len (zA1 (pn 0) zA5)) zA5)) (fun _ _ _ _=>(pgn 4)) (fun _ _ _ _=>zDB (zBM (u_eq hu) (zAU (zAS (K:=K)) (zAU (zAS (K:=K)) (pn 0) (pn 4) (fun _ _=>rfl)) (pn 4) (fun _ _=>rfl)) zA8 (zB0 _))) (fun _ _ _ _=>(zFZ (zA1 (pn 4) zA5))))
   (zA4 (zCA PassesOwn.never rfl (zAN rfl B.S.e9 (zA1 (zAK (zBF (K:=K)) rfl B.S.e6 boot_len (zA1 (pn 0) zA5)) zA5)) (zC0 (i:=2) S__law_pivots.nd rfl oi) (zAD (zCA PassesOwn.never rfl (zAN rfl B.S.e9 (zA1 (pn 2) zA5)) (zC0 (i:=3) S__law_pivots.nd rfl oi) (zAD (zDO (pt_w (zK2 (zBM (u_eq hu) (zAU (zAS (K:=K)) (zAU (zAS (K:=K)) (pn 0) (pn 3) (fun _ _=>rfl)) (pn 2) (fun _ _=>rfl)) zA8 (zB0 _)) (zK2 (zBM (u_eq hu) (zAU (zAS (K:=K)) (zAU (zAS (K:=K)) (pn 0) (pn 3) (fun _ _=>rfl)) (pn 3) (fun _ _=>rfl)) zA8 (zB0 _)) (zIV (zBM (u_eq hu) (zAU (zAS (K:=K)) (zAU (zAS (K:=K)) (pn 0) (pn 2) (fun _ _=>rfl)) (pn 2) (fun _ _=>rfl)) zA8 (zB0 _)))))) (zAD (zIW (zPC qBm qBw qBx zJ2 (pn 1) (zA1 (zFZ (zA1 (pn 3) (zA1 (pn 2) zA5))) zA5)))) zBN)))))
   (zAD (zAZ (pn 1))))),(zB9 (zAF (zAL (n:=2) [2,0] (zAQ (n:=1) (zCN (zA2 (zBS zBG (zA2 (de_v 0) zA6)) zA6)) (zAP 4) (dt_b (dz (zA7 zCQ (zA7 zB2 (zA7 zB2 (de_v 0) (de_v 4)) (de_v 4)) (dz zA9)))) (zG3 (n:=0) (zA2 (de_v 4) zA6))))
   (zAF (zD2 (zCN (zA2 (zBS zBG (zA2 (de_v 0) zA6)) zA6)) (zD2 (zCN (zA2 (de_v 2) zA6)) (zDW (zKM (dt_b (dz (zA7 zCQ (zA7 zB2 (zA7 zB2 (de_v 0) (de_v 3)) (de_v 2)) (dz zA9)))) (zKM (dt_b (dz (zA7 zCQ (zA7 zB2 (zA7 zB2 (de_v 0) (de_v 3)) (de_v 3)) (dz zA9)))) (dt_b (dz (zA7 zCQ (zA7 zB2 (zA7 zB2 (de_v 0) (de_v 2)) (de_v 2)) (dz zA9)))))) (zQA 1 (n:=1) (zG3 (n:=0) (zA2 (de_v 3) (zA2 (de_v 2) zA6)))) zCC)))
   (zDV 1))) h)⟩
theorem zK7:Has P w K mg base "_law_rank" 2 ["_law_table"] (sp0 K mg 1 zCG):=by
 letI:Kc:=⟨K⟩
 exact dfM B.S.d10 S__law_rank (fun _ _ _ _ _ _=>uw1 fun _=>rfl) fun hr hu h=>⟨_,(zA4 (zCE (i:=1) S__law_rank.nd rfl oi rfl (cn ["0","1","2","3","4","5","_law_row"] 1 (by kernel_rfl)) (zCB (K:=K) (pn 0)) (fun _ _ _ _=>(pgn 6)) (fun _ _ _ _=>zB6) (fun _ _ _ _=>(zCM (zFQ (K:=K) rfl) rfl B.S.e7 boot_list (zA1 (pn 6) zA5))))
   (zA4 (pst 2 S__law_rank.nd zA8)
   (zA4 (zCA PassesOwn.never rfl (zAN rfl B.S.e9 (zA1 (zAK (zBF (K:=K)) rfl B.S.e6 boot_len (zA1 (pn 0) zA5)) zA5)) (zC0 (i:=3) S__law_rank.nd rfl oi) (zA4 (pst 4 S__law_rank.nd (zB1 rfl (cn ["0","1","2","_law_place","4","5","_law_row"] 1 (by kernel_rfl)) (zCB (K:=K) (pn 1)) (fun _ _ _ _=>(pgn 6)) (fun _ _ _ _=>zDB (zBM (u_eq hu) (zAU (zAS (K:=K)) (pn 6) (pn 3) (fun _ _=>rfl)) zA8 (zB0 _))) (fun _ _ _ _=>(pn 6))))
   (zAD (zDO (zBM u_gt (zAK (zBF (K:=K)) rfl B.S.e6 boot_len (zA1 (pn 4) zA5)) zA8 (zB0 _)) (zA4 (pst 2 S__law_rank.nd (zAO zDA (pn 2) zA8))
   (zA4 (zCE (i:=5) S__law_rank.nd rfl oi rfl (cn ["0","1","2","_law_place","4","5","_law_row"] 1 (by kernel_rfl)) (zCB (K:=K) (pn 1)) (fun _ _ _ _=>(pgn 6)) (fun _ _ _ _=>zDB (zBM (u_eq hu) (zAU (zAS (K:=K)) (pn 6) (pn 3) (fun _ _=>rfl)) zA8 (zB0 _))) (fun _ _ _ _=>(pn 6)))
   (zAD (pst 1 S__law_rank.nd (zAO zDA (pn 5) (zB1 rfl (cn ["0","1","2","3","_law_some","5","_law_row"] 1 (by kernel_rfl)) (zCB (K:=K) (zMT (u_sl (K:=K)) (pn 4) (zP8 zA8) zP9)) (fun _ _ _ _=>(pgn 6)) (fun _ _ _ _=>zB6) (fun _ _ _ _=>(zBO (zF7 B) (by decide) hr rfl (zA1 (pn 6) (zA1 (zAU (zAS (K:=K)) (pn 4) zA8 (fun _ _=>rfl)) zA5)))))))))) zBN))))
   (zAD (zAZ (pn 2)))))),(zB9 (zAF (zAL (n:=2) [0] (zAQ (n:=1) (zCO (de_v 0)) (zAP 6) zBK (zBS zJG (zA2 (de_v 6) zA6))))
   (zAF (zAL (n:=0) [] zA9)
   (zAF (zD2 (zCN (zA2 (zBS zBG (zA2 (de_v 0) zA6)) zA6)) (zAF (zAL (n:=1) [1,3] (zAQ (n:=0) (zCO (de_v 1)) (zAP 6) (dt_b (dz (zA7 zCQ (zA7 zB2 (de_v 6) (de_v 3)) (dz zA9)))) (de_v 6)))
   (zDW (dt_b (dz (zA7 zE1 (dz (zBS zBG (zA2 (de_v 4) zA6))) (dz zA9)))) (zAF (zAL (n:=1) [2] (zA7 zC2 (de_v 2) (dz zA9)))
   (zAF (zAL (n:=1) [1,3] (zAQ (n:=0) (zCO (de_v 1)) (zAP 6) (dt_b (dz (zA7 zCQ (zA7 zB2 (de_v 6) (de_v 3)) (dz zA9)))) (de_v 6)))
   (zAL (n:=1) [5,4] (zA7 zC2 (de_v 5) (zAQ (n:=1) (zCO (zYN (de_v 4) (do_e (dz zA9)) zYI)) (zAP 6) zBK (zAR (zA2 (de_v 6) (zA2 (zA7 zB2 (de_v 4) (dz zA9)) zA6)))))))) zCC)))
   (zDV 2)))) h)⟩
theorem zH2:Has P w K mg base "_law_toggled" 1 ["_law_some","_law_numbers"] (sp0 K mg 1 zCK):=by
 letI:Kc:=⟨K⟩
 exact dfM B.S.d11 zHW (fun _ _ _ _ _ _=>uw2 fun _ _=>rfl) fun hr hu h=>⟨_,(zAD (zAZ (zAK zS7 rfl B.S.e10 boot_sorted (zA1 (zAO zDA (zB1 rfl (cn ["0","_law_numbers","_law_k"] 1 (by kernel_rfl)) (zCB (K:=K) (pn 0)) (fun _ _ _ _=>(pgn 2)) (fun _ _ _ _=>zDB (zBM (zOH (K:=K)) (pn 2) (pn 1) rfl)) (fun _ _ _ _=>(pn 2))) (zB1 rfl (cn ["_law_some","1","_law_k"] 1 (by kernel_rfl)) (zCB (K:=K) (pn 1)) (fun _ _ _ _=>(pgn 2)) (fun _ _ _ _=>zDB (zBM (zOH (K:=K)) (pn 2) (pn 0) rfl)) (fun _ _ _ _=>(pn 2)))) zA5)))),(zB9 (zBE (n:=1) [0,1] (zBS zW7 (zA2 (zAW (zA7 zC2 (zAQ (n:=0) (zCO (de_v 0)) (zAP 2) (dt_b (dz (zA7 zJW (de_v 2) (de_v 1)))) (de_v 2)) (zAQ (n:=0) (zCO (de_v 1)) (zAP 2) (dt_b (dz (zA7 zJW (de_v 2) (de_v 0)))) (de_v 2)))) zA6))) h)⟩
theorem zH0:Has P w K mg base "is_whole" 1 ["thing"] (sp0 K mg 0 zC8):=by
 letI:Kc:=⟨K⟩
 exact dfM B.S.d12 zOB (fun _ _ _ _ _ _=>uw1 fun _=>rfl) fun hr hu h=>⟨_,(zAD (zAZ (zLN (zAK zED rfl B.S.e5 boot_isinstance (zA1 (pn 0) (zA1 (zLM (v:=.ty "int") rfl B.S.e4 boot_int rfl) zA5))) (zI6 (zZG (zAK zED rfl B.S.e5 boot_isinstance (zA1 (pn 0) (zA1 (zLM (v:=.ty "bool") rfl B.S.e2 boot_bool rfl) zA5)))))))),(zB9 (zBE (n:=0) [0] (zHG (dz (zQG (by decide) (de_v 0))) (zYO (dz (zQG (by decide) (de_v 0)))))) h)⟩
theorem zK6:Has P w K mg base "are_whole" 2 ["numbers"] (sp0 K mg 0 zDQ):=by
 letI:Kc:=⟨K⟩
 exact dfM B.S.d13 zMA (fun _ _ _ _ _ _=>uw1 fun _=>rfl) fun hr hu h=>⟨_,(zAD (zAZ (zAK (zY0 rfl) rfl B.S.e1 boot_all (zA1 (zB1 rfl (cn ["0","number"] 1 (by kernel_rfl)) (zCB (K:=K) (pn 0)) (fun _ _ _ _=>(pgn 1)) (fun _ _ _ _=>zB6) (fun _ _ _ _=>(zBO (zH0 B) (by decide) hr rfl (zA1 (pn 1) zA5)))) zA5)))),(zB9 (zBE (n:=0) [0] (zBS zU8 (zA2 (zAW (zAQ (n:=0) (zCO (de_v 0)) (zAP 1) zBK (zAR (zA2 (de_v 1) zA6)))) zA6))) h)⟩
theorem zPJ:Has P w K mg base "is_set" 3 ["table","numbers"] (sp0 K mg 0 zGI):=by
 letI:Kc:=⟨K⟩
 exact dfM B.S.d14 zT8 (fun _ _ _ _ _ _=>uw2 fun _ _=>rfl) fun hr hu h=>⟨_,(zAD (zAZ (zLN (zBO (zK6 B) (by decide) hr rfl (zA1 (pn 1) zA5)) (zI6 (zDP (u_eq hu) (pn 1) (zB1 rfl (cn ["0","numbers","i"] 1 (by kernel_rfl)) (zAN rfl B.S.e9 (zA1 (zAK (zBF (K:=K)) rfl B.S.e6 boot_len (zA1 (pn 0) zA5)) zA5)) (fun _ _ _ _=>(pgn 2)) (fun _ _ _ _=>zDB (zBM (u_in (K:=K)) (pn 2) (pn 1) rfl)) (fun _ _ _ _=>(pn 2))) (zB0 _)))))),(zB9 (zBE (n:=0) [1,0] (zHG (zAR (zA2 (de_v 1) zA6)) (zA7 zCQ (de_v 1) (zAQ (n:=0) (zCN (zA2 (zBS zBG (zA2 (de_v 0) zA6)) zA6)) (zAP 2) (dt_b (dz (zA7 zJW (de_v 2) (de_v 1)))) (de_v 2))))) h)⟩
theorem zFO:Has P w K mg base "part_at" 1 ["table","numbers"] (sp0 K mg 2 zBI):=by
 letI:Kc:=⟨K⟩
 exact dfM B.S.d15 zQY (fun _ _ _ _ _ _=>uw2 fun _ _=>rfl) fun hr hu h=>⟨_,(zAD (zAZ (zB1 rfl (cn ["table","numbers","i"] 1 (by kernel_rfl)) (zCB (K:=K) (pn 1)) (fun _ _ _ _=>(pgn 2)) (fun _ _ _ _=>zB6) (fun _ _ _ _=>(zB1 rfl (cn ["table","1","i","j"] 1 (by kernel_rfl)) (zCB (K:=K) (pn 1)) (fun _ _ _ _=>(pgn 3)) (fun _ _ _ _=>zB6) (fun _ _ _ _=>(zAU (zAS (K:=K)) (zAU (zAS (K:=K)) (pn 0) (pn 2) (fun _ _=>rfl)) (pn 3) (fun _ _=>rfl)))))))),(zB9 (zBE (n:=2) [1,0] (zAQ (n:=1) (zCO (de_v 1)) (zAP 2) zBK (zAQ (n:=0) (zCO (de_v 1)) (zAP 3) zBK (zA7 zB2 (zA7 zB2 (de_v 0) (de_v 2)) (de_v 3))))) h)⟩
theorem zMU:Has P w K mg base "added" 1 ["one","other"] (sp0 K mg 1 zFP):=by
 letI:Kc:=⟨K⟩
 exact dfM B.S.d16 zWC (fun _ _ _ _ _ _=>uw2 fun _ _=>rfl) fun hr hu h=>⟨_,(zAD (zAZ (zB1 rfl (cn ["one","other","j"] 1 (by kernel_rfl)) (zAN rfl B.S.e9 (zA1 (zAK (zBF (K:=K)) rfl B.S.e6 boot_len (zA1 (pn 0) zA5)) zA5)) (fun _ _ _ _=>(pgn 2)) (fun _ _ _ _=>zB6) (fun _ _ _ _=>(zAO zWL (zAU (zAS (K:=K)) (pn 0) (pn 2) (fun _ _=>rfl)) (zAU (zAS (K:=K)) (pn 1) (pn 2) (fun _ _=>rfl))))))),(zB9 (zBE (n:=1) [0,1] (zAQ (n:=0) (zCN (zA2 (zBS zBG (zA2 (de_v 0) zA6)) zA6)) (zAP 2) zBK (zA7 zTF (zA7 zB2 (de_v 0) (de_v 2)) (zA7 zB2 (de_v 1) (de_v 2))))) h)⟩
theorem zNV:Has P w K mg base "cleared" 2 ["rows","column","at"] (sp0 K mg 1 zEC):=by
 letI:Kc:=⟨K⟩
 exact dfM B.S.d17 S_cleared (fun _ _ _ _ _ _=>uw3 fun _ _ _=>rfl) fun hr hu h=>⟨_,(zA4 (pst 3 S_cleared.nd (zAU (zAS (K:=K)) (pn 0) (pn 2) (fun _ _=>rfl)))
   (zA4 (zCE (i:=4) S_cleared.nd rfl oi rfl (cn ["0","column","2","lead","4","row"] 1 (by kernel_rfl)) (zCB (K:=K) (pn 0)) (fun _ _ _ _=>(pgn 5)) (fun _ _ _ _=>zB6) (fun _ _ _ _=>(zF6 (zBM (u_eq hu) (zAU (zAS (K:=K)) (pn 5) (pn 1) (fun _ _=>rfl)) zA8 (zB0 _)) (zBO (zMU B) (by decide) hr rfl (zA1 (pn 5) (zA1 (pn 3) zA5))) (pn 5))))
   (zA4 (zDH (zAU (zAS (K:=K)) (pn 4) (pn 1) (fun _ _=>rfl)) (zDI (pn 4) (pn 2) zFM))
   (zA4 (zDH (pn 3) (zDI (pn 4) (pn 1) zFM))
   (zAD (zAZ (pn 4))))))),(zB9 (zAF (zAL (n:=0) [0,2] (zA7 zB2 (de_v 0) (de_v 2)))
   (zAF (zAL (n:=1) [0,3,1] (zAQ (n:=0) (zCO (de_v 0)) (zAP 5) zBK (zKO (dt_b (dz (zA7 zCQ (zA7 zB2 (de_v 5) (de_v 1)) (dz zA9)))) (zAW (zAR (zA2 (de_v 5) (zA2 (de_v 3) zA6)))) (de_v 5))))
   (zAF (zSK 4 (de_v 2) (de_v 1))
   (zAF (zSL 4 [3] (de_v 1) (de_v 3))
   (zDV 4))))) h)⟩
theorem zLO:Has P w K mg base "unit_row" 1 ["size","number"] (sp0 K mg 1 zDJ):=by
 letI:Kc:=⟨K⟩
 exact dfM B.S.d18 zOA (fun _ _ _ _ _ _=>uw2 fun _ _=>rfl) fun hr hu h=>⟨_,(zAD (zAZ (zB1 rfl (cn ["0","number","i"] 1 (by kernel_rfl)) (zAN rfl B.S.e9 (zA1 (pn 0) zA5)) (fun _ _ _ _=>(pgn 2)) (fun _ _ _ _=>zB6) (fun _ _ _ _=>(zF6 (zBM (u_eq hu) (pn 2) (pn 1) (zB0 _)) zA8 zA8))))),(zB9 (zBE (n:=1) [1,0] (zAQ (n:=0) (zCN (zA2 (de_v 0) zA6)) (zAP 2) zBK (zKO (dt_b (dz (zA7 zCQ (de_v 2) (de_v 1)))) zA9 zA9))) h)⟩
theorem zNR:Has P w K mg base "undoing" 3 ["table"] (sp0 K mg 2 zE9):=by
 letI:Kc:=⟨K⟩
 exact dfM B.S.d19 S_undoing (fun _ _ _ _ _ _=>uw1 fun _=>rfl) fun hr hu h=>⟨_,(zA4 (pst 1 S_undoing.nd (zAK (zBF (K:=K)) rfl B.S.e6 boot_len (zA1 (pn 0) zA5)))
   (zA4 (pst 2 S_undoing.nd (zB1 rfl (cn ["table","size","2","3","4","i"] 1 (by kernel_rfl)) (zAN rfl B.S.e9 (zA1 (pn 1) zA5)) (fun _ _ _ _=>(pgn 5)) (fun _ _ _ _=>zB6) (fun _ _ _ _=>(zAO zDA (zAU (zAS (K:=K)) (pn 0) (pn 5) (fun _ _=>rfl)) (zBO (zLO B) (by decide) hr rfl (zA1 (pn 1) (zA1 (pn 5) zA5)))))))
   (zA4 (zCA PassesOwn.never rfl (zAN rfl B.S.e9 (zA1 (pn 1) zA5)) (zC0 (i:=3) S_undoing.nd rfl oi) (zA4 (zCE (i:=4) S_undoing.nd rfl oi rfl (cn ["0","1","rows","column","4","at"] 1 (by kernel_rfl)) (zK3 rfl B.S.e9 (zA1 (pn 3) (zA1 (pn 1) zA5))) (fun _ _ _ _=>(pgn 5)) (fun _ _ _ _=>zDB (zBM (u_eq hu) (zAU (zAS (K:=K)) (zAU (zAS (K:=K)) (pn 2) (pn 5) (fun _ _=>rfl)) (pn 3) (fun _ _=>rfl)) zA8 (zB0 _))) (fun _ _ _ _=>(pn 5)))
   (zA4 (zDO (zP5 (pt_l (K:=K) (pn 4))) (zAD (zAZ zTN)) zBN)
   (zAD (pst 2 S_undoing.nd (zBO (zNV B) (by decide) hr rfl (zA1 (pn 2) (zA1 (pn 3) (zA1 (zAU (zAS (K:=K)) (pn 4) zA8 (fun _ _=>rfl)) zA5)))))))))
   (zAD (zAZ (zB1 rfl (cn ["0","size","2","3","4","row"] 1 (by kernel_rfl)) (zCB (K:=K) (pn 2)) (fun _ _ _ _=>(pgn 5)) (fun _ _ _ _=>zB6) (fun _ _ _ _=>(zMT (u_sl (K:=K)) (pn 5) (zP8 (pn 1)) zP9)))))))),(zB9 (zAF (zAL (n:=0) [0] (zBS zBG (zA2 (de_v 0) zA6)))
   (zAF (zAL (n:=2) [0,1] (zAQ (n:=1) (zCN (zA2 (de_v 1) zA6)) (zAP 5) zBK (zA7 zC2 (zA7 zB2 (de_v 0) (de_v 5)) (zAR (zA2 (de_v 1) (zA2 (de_v 5) zA6))))))
   (zAF (zD2 (zCN (zA2 (de_v 1) zA6)) (zAF (zAL (n:=1) [3,1,2] (zAQ (n:=0) (zYK (zA2 (de_v 3) (zA2 (de_v 1) zA6))) (zAP 5) (dt_b (dz (zA7 zCQ (zA7 zB2 (zA7 zB2 (de_v 2) (de_v 5)) (de_v 3)) (dz zA9)))) (de_v 5)))
   (zAF (zDW (zQ7 (dt_l (de_v 4))) (zBE (n:=2) [] zU5) zCC)
   (zAL (n:=1) [2,3,4] (zAR (zA2 (de_v 2) (zA2 (de_v 3) (zA2 (zA7 zB2 (de_v 4) (dz zA9)) zA6))))))))
   (zBE (n:=2) [2,1] (zAQ (n:=1) (zCO (de_v 2)) (zAP 5) zBK (zYN (de_v 5) (do_e (de_v 1)) zYI)))))) h)⟩
theorem zLP:Has P w K mg base "can_undo" 4 ["table","numbers"] (sp0 K mg 0 zEL):=by
 letI:Kc:=⟨K⟩
 exact dfM B.S.d20 zOC (fun _ _ _ _ _ _=>uw2 fun _ _=>rfl) fun hr hu h=>⟨_,(zAD (zAZ (zLN (zBO (zPJ B) (by decide) hr rfl (zA1 (pn 0) (zA1 (pn 1) zA5))) (zI6 (zDP zV3 (zBO (zNR B) (by decide) hr rfl (zA1 (zBO (zFO B) (by decide) hr rfl (zA1 (pn 0) (zA1 (pn 1) zA5))) zA5)) zTN (zB0 _)))))),(zB9 (zBE (n:=0) [0,1] (zHG (zAR (zA2 (de_v 0) (zA2 (de_v 1) zA6))) (zA7 zUT (zAR (zA2 (zAW (zAR (zA2 (de_v 0) (zA2 (de_v 1) zA6)))) zA6)) (dz zU5)))) h)⟩
theorem zE2:Has P w K mg base "changed_where" 2 ["table","is_changed"] (sp0 K mg 2 zBR):=by
 letI:Kc:=⟨K⟩
 exact dfM B.S.d21 S_changed_where (fun _ _ _ _ _ _=>uw2 fun _ _=>rfl) fun hr hu h=>⟨_,(zA4 (pst 2 S_changed_where.nd (zAK (zBF (K:=K)) rfl B.S.e6 boot_len (zA1 (pn 0) zA5)))
   (zAD (zAZ (zB1 rfl (cn ["table","is_changed","size","i"] 1 (by kernel_rfl)) (zAN rfl B.S.e9 (zA1 (pn 2) zA5)) (fun _ _ _ _=>(pgn 3)) (fun _ _ _ _=>zB6) (fun _ _ _ _=>(zB1 rfl (cn ["table","is_changed","2","i","j"] 1 (by kernel_rfl)) (zAN rfl B.S.e9 (zA1 (pn 2) zA5)) (fun _ _ _ _=>(pgn 4)) (fun _ _ _ _=>zB6) (fun _ _ _ _=>(zAO zWL (zAU (zAS (K:=K)) (zAU (zAS (K:=K)) (pn 0) (pn 3) (fun _ _=>rfl)) (pn 4) (fun _ _=>rfl)) (zF6 (pt_m (pcf 1 (lamR rfl rfl (hr.mono (by decide)) (lams B)) (zA1 (pn 3) (zA1 (pn 4) zA5)))) zA8 zA8))))))))),(zB9 (zAF (zAL (n:=0) [0] (zBS zBG (zA2 (de_v 0) zA6)))
   (zBE (n:=2) [2,0,1] (zAQ (n:=1) (zCN (zA2 (de_v 2) zA6)) (zAP 3) zBK (zAQ (n:=0) (zCN (zA2 (de_v 2) zA6)) (zAP 4) zBK (zA7 zTF (zA7 zB2 (zA7 zB2 (de_v 0) (de_v 3)) (de_v 4)) (dz (zKO (dt_m (dz (zSR (zA2 (de_v 3) (zA2 (de_v 4) zA6))))) zA9 zA9))))))) h)⟩
theorem zH1:Has P w K mg base "exchanged_at" 3 ["table","one","other"] (sp0 K mg 2 zDE):=by
 obtain⟨T,g⟩:=B.S.d22
 letI:Kc:=⟨K⟩
 exact dfL g S_exchanged_at (fun _ _ _ _ _ _=>uw3 fun _ _ _=>rfl) fun hC hr hu h=>⟨_,(zA4 (pst 3 S_exchanged_at.nd (zB1 rfl (cn ["table","one","other","3","4","5","i"] 1 (by kernel_rfl)) (zAN rfl B.S.e9 (zA1 (zAK (zBF (K:=K)) rfl B.S.e6 boot_len (zA1 (pn 0) zA5)) zA5)) (fun _ _ _ _=>(pgn 6)) (fun _ _ _ _=>zB6) (fun _ _ _ _=>(zPB (zA1 (zAU (zAS (K:=K)) (zAU (zAS (K:=K)) (pn 0) (pn 1) (fun _ _=>rfl)) (pn 6) (fun _ _=>rfl)) (zA1 (zAU (zAS (K:=K)) (zAU (zAS (K:=K)) (pn 0) (pn 2) (fun _ _=>rfl)) (pn 6) (fun _ _=>rfl)) zA5))))))
   (zA4 (zDH (zPB (zA1 zA8 (zA1 zA8 zA5))) (zDI (pn 3) (pn 1) zFM))
   (zA4 (zDH (zPB (zA1 zA8 (zA1 zA8 zA5))) (zDI (pn 3) (pn 2) zFM))
   (zA4 (pst 4 S_exchanged_at.nd (zTP 3 (zE2 B) (by decide) hr rfl (zA1 (pn 0) (zA1 (zPE hC) zA5))))
   (zA4 (pst 5 S_exchanged_at.nd (zCM (zFQ (K:=K) rfl) rfl B.S.e7 boot_list (zA1 (zCM zPS rfl B.S.e9 boot_range (zA1 (zAK (zBF (K:=K)) rfl B.S.e6 boot_len (zA1 (pn 0) zA5)) zA5)) zA5)))
   (zA4 (zDH (pn 2) (zDI (pn 5) (pn 1) zFM))
   (zA4 (zDH (pn 1) (zDI (pn 5) (pn 2) zFM))
   (zAD (zAZ (zBO (zFO B) (by decide) hr rfl (zA1 (pn 4) (zA1 (pn 5) zA5)))))))))))),(zB9 (zAF (zAL (n:=2) [0,1,2] (zAQ (n:=1) (zCN (zA2 (zBS zBG (zA2 (de_v 0) zA6)) zA6)) (zAP 6) zBK (zQF (n:=0) (zA2 (zA7 zB2 (zA7 zB2 (de_v 0) (de_v 1)) (de_v 6)) (zA2 (zA7 zB2 (zA7 zB2 (de_v 0) (de_v 2)) (de_v 6)) zA6)))))
   (zAF (zHD 3 (n:=1) (de_v 1) (zQF (n:=0) (zA2 zA9 (zA2 zA9 zA6))))
   (zAF (zHD 3 (n:=1) (de_v 2) (zQF (n:=0) (zA2 zA9 (zA2 zA9 zA6))))
   (zAF (zAL (n:=2) [0,3] (zN3 g (de_v 0)))
   (zAF (zAL (n:=1) [0] (zG4 (zA2 (zBS zBG (zA2 (de_v 0) zA6)) zA6)))
   (zAF (zHD 5 (n:=0) (de_v 1) (de_v 2))
   (zAF (zHD 5 (n:=0) (de_v 2) (de_v 1))
   (zBE (n:=2) [4,5] (zAR (zA2 (de_v 4) (zA2 (de_v 5) zA6))))))))))) h)⟩
theorem zIX:Has P w K mg base "has_number" 2 ["table","number"] (sp0 K mg 0 zD9):=by
 letI:Kc:=⟨K⟩
 exact dfM B.S.d23 zL7 (fun _ _ _ _ _ _=>uw2 fun _ _=>rfl) fun hr hu h=>⟨_,(zAD (zAZ (zLN (zBO (zH0 B) (by decide) hr rfl (zA1 (pn 1) zA5)) (zI6 (zXJ u_le u_lt zA8 (pn 1) (zAK (zBF (K:=K)) rfl B.S.e6 boot_len (zA1 (pn 0) zA5))))))),(zB9 (zBE (n:=0) [1,0] (zHG (zAR (zA2 (de_v 1) zA6)) (zSO zE1 zE1 (dz zA9) (de_v 1) (dz (zBS zBG (zA2 (de_v 0) zA6)))))) h)⟩
theorem zNT:Has P w K mg base "ones_in" 1 ["row"] (sp0 K mg 1 zEB):=by
 letI:Kc:=⟨K⟩
 exact dfM B.S.d24 zQZ (fun _ _ _ _ _ _=>uw1 fun _=>rfl) fun hr hu h=>⟨_,(zAD (zAZ (zB1 rfl (cn ["row","j"] 1 (by kernel_rfl)) (zAN rfl B.S.e9 (zA1 (zAK (zBF (K:=K)) rfl B.S.e6 boot_len (zA1 (pn 0) zA5)) zA5)) (fun _ _ _ _=>(pgn 1)) (fun _ _ _ _=>zDB (zBM (u_eq hu) (zAU (zAS (K:=K)) (pn 0) (pn 1) (fun _ _=>rfl)) zA8 (zB0 _))) (fun _ _ _ _=>(pn 1))))),(zB9 (zBE (n:=1) [0] (zAQ (n:=0) (zCN (zA2 (zBS zBG (zA2 (de_v 0) zA6)) zA6)) (zAP 1) (dt_b (dz (zA7 zCQ (zA7 zB2 (de_v 0) (de_v 1)) (dz zA9)))) (de_v 1))) h)⟩
theorem zNU:Has P w K mg base "near_to" 2 ["table","number"] (sp0 K mg 1 zH6):=by
 letI:Kc:=⟨K⟩
 exact dfM B.S.d25 zR0 (fun _ _ _ _ _ _=>uw2 fun _ _=>rfl) fun hr hu h=>⟨_,(zAD (zAZ (zB1 rfl (cn ["0","number","i"] 1 (by kernel_rfl)) (zCB (K:=K) (zBO (zNT B) (by decide) hr rfl (zA1 (zAU (zAS (K:=K)) (pn 0) (pn 1) (fun _ _=>rfl)) zA5))) (fun _ _ _ _=>(pgn 2)) (fun _ _ _ _=>zDB (zBM (u_ne hu) (pn 2) (pn 1) (zB0 _))) (fun _ _ _ _=>(pn 2))))),(zB9 (zBE (n:=1) [1,0] (zAQ (n:=0) (zCO (zAR (zA2 (zA7 zB2 (de_v 0) (de_v 1)) zA6))) (zAP 2) (dt_b (dz (zA7 zUS (de_v 2) (de_v 1)))) (de_v 2))) h)⟩
theorem zNS:HasX P w K mg base "pivoted" 4 ["table","numbers"] (spE K mg 2 zEA):=by
 obtain⟨T,g⟩:=B.S.d26
 letI:Kc:=⟨K⟩
 exact dfLX g S_pivoted (fun _ _ _ _ _ _=>uw2 fun _ _=>rfl) fun hC hr hu h=>⟨_,(zA4 (zDO (zP5 (pt_m (zAK (zY0 rfl) rfl B.S.e1 boot_all (zA1 (zB1 rfl (cn ["table","1","2","number"] 1 (by kernel_rfl)) (zCB (K:=K) (pn 1)) (fun _ _ _ _=>(pgn 3)) (fun _ _ _ _=>zB6) (fun _ _ _ _=>(zBO (zIX B) (by decide) hr rfl (zA1 (pn 0) (zA1 (pn 3) zA5))))) zA5)))) (zAD (zMP (zTO B.z_NoPivot rfl (zA1 zTM zA5)) zKJ rfl)) zBN)
   (zA4 (zDO (pt_w (zK2 (zBM (u_eq hu) (zAK (zBF (K:=K)) rfl B.S.e6 boot_len (zA1 (pn 1) zA5)) zA8 (zB0 _)) (zIV (zBM (u_eq hu) (zAU (zAS (K:=K)) (zAU (zAS (K:=K)) (pn 0) (zAU (zAS (K:=K)) (pn 1) zA8 (fun _ _=>rfl)) (fun _ _=>rfl)) (zAU (zAS (K:=K)) (pn 1) zA8 (fun _ _=>rfl)) (fun _ _=>rfl)) zA8 (zB0 _))))) (zA4 (pst 2 S_pivoted.nd (zBO (zNU B) (by decide) hr rfl (zA1 (pn 0) (zA1 (zAU (zAS (K:=K)) (pn 1) zA8 (fun _ _=>rfl)) zA5))))
   (zAD (zAZ (zTP 2 (zE2 B) (by decide) hr rfl (zA1 (pn 0) (zA1 (zPE hC) zA5)))))) zBN)
   (zA4 (zDO (zBM (u_eq hu) (zBO (zFO B) (by decide) hr rfl (zA1 (pn 0) (zA1 (pn 1) zA5))) (zFZ (zA1 (zFZ (zA1 zA8 (zA1 zA8 zA5))) (zA1 (zFZ (zA1 zA8 (zA1 zA8 zA5))) zA5))) (zB0 _)) (zAD (zAZ (zBO (zH1 B) (by decide) hr rfl (zA1 (pn 0) (zA1 (zAU (zAS (K:=K)) (pn 1) zA8 (fun _ _=>rfl)) (zA1 (zAU (zAS (K:=K)) (pn 1) zA8 (fun _ _=>rfl)) zA5)))))) zBN)
   (zAD (zMP (zTO B.z_NoPivot rfl (zA1 zTM zA5)) zKJ rfl))))),(zB9 (zAF (zDW (zQ7 (dt_m (dz (zBS zU8 (zA2 (zAW (zAQ (n:=0) (zCO (de_v 1)) (zAP 3) zBK (zGK (zA2 (de_v 0) (zA2 (de_v 3) zA6))))) zA6))))) (zKN B.z_NoPivot (zA2 zU4 zA6)) zCC)
   (zAF (zDW (zKM (dt_b (dz (zA7 zCQ (dz (zBS zBG (zA2 (de_v 1) zA6))) (dz zA9)))) (dt_b (dz (zA7 zCQ (zA7 zB2 (zA7 zB2 (de_v 0) (zA7 zB2 (de_v 1) (dz zA9))) (zA7 zB2 (de_v 1) (dz zA9))) (dz zA9))))) (zAF (zAL (n:=1) [0,1] (zGK (zA2 (de_v 0) (zA2 (zA7 zB2 (de_v 1) (dz zA9)) zA6))))
   (zBE (n:=2) [0,2] (zN3 g (de_v 0)))) zCC)
   (zAF (zDW (dt_b (dz (zA7 zCQ (zGK (zA2 (de_v 0) (zA2 (de_v 1) zA6))) (zG3 (n:=1) (zA2 (zG3 (n:=0) (zA2 zA9 (zA2 zA9 zA6))) (zA2 (zG3 (n:=0) (zA2 zA9 (zA2 zA9 zA6))) zA6)))))) (zBE (n:=2) [0,1] (zGK (zA2 (de_v 0) (zA2 (zA7 zB2 (de_v 1) (dz zA9)) (zA2 (zA7 zB2 (de_v 1) (dz zA9)) zA6))))) zCC)
   (zKN B.z_NoPivot (zA2 zU4 zA6))))) h)⟩
theorem zGZ:Has P w K mg base "less_leaders" 2 ["row","leaders"] (sp0 K mg 0 zC4):=by
 letI:Kc:=⟨K⟩
 exact dfM B.S.d27 S_less_leaders (fun _ _ _ _ _ _=>uw2 fun _ _=>rfl) fun hr hu h=>⟨_,(zA4 (pst 2 S_less_leaders.nd (pn 0))
   (zA4 (zCA PassesOwn.never rfl (zCB (K:=K) (pn 1)) (zC0 (i:=3) S_less_leaders.nd rfl oi) (zAD (zDO (zBM (u_eq hu) (zAU (zAS (K:=K)) (pn 2) (zPC qBm qDe PySem.F.type_list_index zVF (pn 3) (zA1 zA8 zA5)) (fun _ _=>rfl)) zA8 (zB0 _)) (zAD (pst 2 S_less_leaders.nd (zBO (zMU B) (by decide) hr rfl (zA1 (pn 2) (zA1 (pn 3) zA5))))) zBN)))
   (zAD (zAZ (pn 2))))),(zB9 (zAF (zAL (n:=0) [0] (de_v 0))
   (zAF (zU3 [1] (zCO (de_v 1)) (zAP 3) (zDW (dt_b (dz (zA7 zCQ (zA7 zB2 (de_v 2) (dz (zZZ zRH (de_v 3) (zA2 zA9 zA6)))) (dz zA9)))) (zAL (n:=1) [2,3] (zAR (zA2 (de_v 2) (zA2 (de_v 3) zA6)))) zCC))
   (zDV 2))) h)⟩
theorem zG8:Has P w K mg base "greatest_part" 3 ["table"] (sp0 K mg 9 zCZ):=by
 letI:Kc:=⟨K⟩
 exact dfM B.S.d28 S_greatest_part (fun _ _ _ _ _ _=>uw1 fun _=>rfl) fun hr hu h=>⟨_,(zA4 (pst 1 S_greatest_part.nd (zFZ zA5))
   (zA4 (pst 2 S_greatest_part.nd (zFZ zA5))
   (zA4 (zCA PassesOwn.never rfl (zMS (K:=K) rfl B.S.e3 (zA1 (pn 0) zA5)) (zLL (K:=K) rfl (zEI (zC0 (i:=3) S_greatest_part.nd rfl oi) (zEI (zC0 (i:=4) S_greatest_part.nd rfl oi) zLK))) (zA4 (pst 5 S_greatest_part.nd (zBO (zGZ B) (by decide) hr rfl (zA1 (pn 4) (zA1 (pn 2) zA5))))
   (zAD (zDO (zBM (u_in (K:=K)) zA8 (pn 5) rfl) (zA4 (zIW (zPC qBm qBw qBx zJ2 (pn 1) (zA1 (pn 3) zA5)))
   (zAD (zIW (zPC qBm qBw qBx zJ2 (pn 2) (zA1 (pn 5) zA5))))) zBN))))
   (zAD (zAZ (pn 1)))))),(zB9 (zAF (zAL (n:=9) [] (zG3 (n:=8) zA6))
   (zAF (zAL (n:=9) [] (zG3 (n:=8) zA6))
   (zAF (zU3 [0] (zYL (zA2 (de_v 0) zA6)) (zOK (zEH 3 (zEH 4 zLA)) rfl) (zAF (zQ8 5 2 [4] (zAR (zA2 (de_v 4) (zA2 (de_v 2) zA6))))
   (zDW (dt_b (dz (zA7 zJW (dz zA9) (de_v 5)))) (zAF (zQA 1 (n:=0) (de_v 3))
   (zVZ 2 [5] (de_v 5))) zCC)))
   (zDV 1)))) h)⟩
theorem zFN:Has P w K mg base "rest_of" 4 ["table"] (sp0 K mg 0 zDK):=by
 letI:Kc:=⟨K⟩
 exact dfM B.S.d29 zQX (fun _ _ _ _ _ _=>uw1 fun _=>rfl) fun hr hu h=>⟨_,(zAD (zAZ (zAO zNH (zAK (zBF (K:=K)) rfl B.S.e6 boot_len (zA1 (pn 0) zA5)) (zAK (zBF (K:=K)) rfl B.S.e6 boot_len (zA1 (zBO (zG8 B) (by decide) hr rfl (zA1 (pn 0) zA5)) zA5))))),(zB9 (zBE (n:=0) [0] (zA7 zI3 (dz (zBS zBG (zA2 (de_v 0) zA6))) (dz (zBS zBG (zA2 (zAW (zAR (zA2 (de_v 0) zA6))) zA6))))) h)⟩
theorem zXS{f:Addr}{fd:FuncData}(F:Fun K "law" "law" (top 40) f fd):FnOk P w K mg base CX0 5 f fd ["_law_script"] (zI1 K):=by
 letI:Kc:=⟨K⟩
 refine(F.ok S_law (sp:=sp0 K mg 0 zKD) (fun vs H Q E h=>zIO h) (fun cdv A outer s H vs Q E hr h=>?_)).imp (zS5 zS4);have hu:=hr.units;exact⟨_,(zA4 (pst 1 S_law.nd (zBO (zLQ B) (by decide) hr rfl (zA1 (zBO (zDC B) (by decide) hr rfl (zA1 (pn 0) (zA1 zA8 zA5))) (zA1 zA8 zA5))))
   (zA4 (pst 2 S_law.nd (zBO (zHR B) (by decide) hr rfl (zA1 (pn 1) zA5)))
   (zA4 (zDO (zBM (u_eq hu) (zAK (zBF (K:=K)) rfl B.S.e6 boot_len (zA1 (pn 2) zA5)) zA8 (zB0 _)) (zAD (zAZ (zDP (u_eq hu) (zBO (zFN B) (by decide) hr rfl (zA1 (pn 1) zA5)) (zAK (zBF (K:=K)) rfl B.S.e6 boot_len (zA1 (pn 1) zA5)) (zB0 _)))) zBN)
   (zA4 (pst 3 S_law.nd (zAU (zAS (K:=K)) (pn 2) (zAO zCU (zBO (zDC B) (by decide) hr rfl (zA1 (pn 0) (zA1 zA8 zA5))) (zAK (zBF (K:=K)) rfl B.S.e6 boot_len (zA1 (pn 2) zA5))) (fun _ _=>rfl)))
   (zA4 (pst 4 S_law.nd (zXI (zNS B) (by decide) hr zYB rfl (zA1 (zBO (zK9 B) (by decide) hr rfl (zA1 (pn 1) zA5)) (zA1 (zCM (zFQ (K:=K) rfl) rfl B.S.e7 boot_list (zA1 (pn 3) zA5)) zA5))))
   (zA4 (zDO (zBM u_gt (zAK zT2 rfl B.S.e0 boot_abs (zA1 (zAO zNH (zBO (zFN B) (by decide) hr rfl (zA1 (pn 4) zA5)) (zBO (zFN B) (by decide) hr rfl (zA1 (pn 1) zA5))) zA5)) (zAK (zBF (K:=K)) rfl B.S.e6 boot_len (zA1 (pn 3) zA5)) (zB0 _)) (zAD (zAZ zV1)) zBN)
   (zA4 (zCA PassesOwn.never rfl (zAN rfl B.S.e9 (zA1 zA8 zA5)) (zC0 (i:=5) S_law.nd rfl oi) (zA4 (pst 6 S_law.nd (zBO (zHS B) (by decide) hr rfl (zA1 (zBO (zDC B) (by decide) hr rfl (zA1 (pn 0) (zA1 (zAO zDA zA8 (pn 5)) zA5))) (zA1 zA8 (zA1 (zAK (zBF (K:=K)) rfl B.S.e6 boot_len (zA1 (pn 1) zA5)) zA5)))))
   (zA4 (zCE (i:=7) S_law.nd rfl oi rfl (cn ["0","1","2","3","4","5","_law_bits","7","8","9","_law_i"] 1 (by kernel_rfl)) (zAN rfl B.S.e9 (zA1 (zAK (zBF (K:=K)) rfl B.S.e6 boot_len (zA1 (pn 1) zA5)) zA5)) (fun _ _ _ _=>(pgn 10)) (fun _ _ _ _=>zDB (zBM (u_eq hu) (zAU (zAS (K:=K)) (pn 6) (pn 10) (fun _ _=>rfl)) zA8 (zB0 _))) (fun _ _ _ _=>(pn 10)))
   (zA4 (pst 8 S_law.nd (zBO (zH2 B) (by decide) hr rfl (zA1 (pn 7) (zA1 (pn 3) zA5))))
   (zA4 (pst 9 S_law.nd (zBO (zLP B) (by decide) hr rfl (zA1 (pn 4) (zA1 (pn 7) zA5))))
   (zAD (zDO (pt_w (zZF (zP5 (pt_m (zAK zED rfl B.S.e5 boot_isinstance (zA1 (pn 9) (zA1 (zLM (v:=.ty "bool") rfl B.S.e2 boot_bool rfl) zA5))))) (zXB (zBM (u_ne hu) (pn 9) (zDP (u_eq hu) (zBO (zK7 B) (by decide) hr rfl (zA1 (zBO (zK8 B) (by decide) hr rfl (zA1 (pn 1) (zA1 (pn 8) zA5))) zA5)) (zAK (zBF (K:=K)) rfl B.S.e6 boot_len (zA1 (pn 8) zA5)) (zB0 _)) (zB0 _))))) (zAD (zAZ zV1)) zBN)))))))
   (zAD (zAZ zV1))))))))),(zB9 (zAF (zAL (n:=0) [0] (zAR (zA2 (zAW (zAR (zA2 (de_v 0) (zA2 zA9 zA6)))) (zA2 zA9 zA6))))
   (zAF (zAL (n:=2) [1] (zAR (zA2 (de_v 1) zA6)))
   (zAF (zDW (dt_b (dz (zA7 zCQ (dz (zBS zBG (zA2 (de_v 2) zA6))) (dz zA9)))) (zBE (n:=0) [1] (zA7 zCQ (zAR (zA2 (de_v 1) zA6)) (dz (zBS zBG (zA2 (de_v 1) zA6))))) zCC)
   (zAF (zAL (n:=0) [2,0] (zA7 zB2 (de_v 2) (dz (zA7 zBT (zAR (zA2 (de_v 0) (zA2 zA9 zA6))) (dz (zBS zBG (zA2 (de_v 2) zA6)))))))
   (zAF (zAL (n:=2) [1,3] (zSS (zA2 (zAW (zAR (zA2 (de_v 1) zA6))) (zA2 (zAW (zBS zJG (zA2 (de_v 3) zA6))) zA6))))
   (zAF (zDW (dt_b (dz (zA7 zE1 (dz (zBS zYT (zA2 (zA7 zI3 (zAR (zA2 (de_v 4) zA6)) (zAR (zA2 (de_v 1) zA6))) zA6))) (dz (zBS zBG (zA2 (de_v 3) zA6)))))) (zBE (n:=0) [] zW3) zCC)
   (zAF (zD2 (zCN (zA2 zA9 zA6)) (zAF (zAL (n:=9) [0,1,5] (zAR (zA2 (zAW (zAR (zA2 (de_v 0) (zA2 (zAW (zA7 zC2 (dz zA9) (de_v 5))) zA6)))) (zA2 zA9 (zA2 (zBS zBG (zA2 (de_v 1) zA6)) zA6)))))
   (zAF (zAL (n:=1) [1,6] (zAQ (n:=0) (zCN (zA2 (zBS zBG (zA2 (de_v 1) zA6)) zA6)) (zAP 10) (dt_b (dz (zA7 zCQ (zA7 zB2 (de_v 6) (de_v 10)) (dz zA9)))) (de_v 10)))
   (zAF (zAL (n:=1) [7,3] (zAR (zA2 (de_v 7) (zA2 (de_v 3) zA6))))
   (zAF (zAL (n:=0) [4,7] (zAR (zA2 (de_v 4) (zA2 (de_v 7) zA6))))
   (zDW (zZY (zQ7 (dt_m (dz (zQG (by decide) (de_v 9))))) (dt_b (dz (zA7 zUS (de_v 9) (dz (zA7 zCQ (zAR (zA2 (zAW (zAR (zA2 (de_v 1) (zA2 (de_v 8) zA6)))) zA6)) (dz (zBS zBG (zA2 (de_v 8) zA6))))))))) (zBE (n:=0) [] zW3) zCC))))))
   (zBE (n:=0) [] zW3)))))))) h)⟩
end
theorem all_mk{l:qCv}{w:World}{K:qA1}{h:Heap}{mg:Str->Option Value}{fa f30 a_RoundError a_NoPivot:Addr}{dd_RoundError dd_NoPivot:Option Addr}{cd_RoundError cd_NoPivot:ClassData}{sl_RoundError sl_NoPivot:Array (Option Value)}(X:K.In h)(G:h.Ns mainGlobals mg)(hfa:mg "law" = some (.ref fa))
  {od30 an30:Option Addr} {sl30:Array (Option Value)} {oc30 kV30 dc30 pm30 cd30 ct30:Value}
  (S:Bd K mg)
  (a30:qBp K mainGlobals "law" = some (some (.ref f30)))
  (l30:K.lookup f30=some ⟨oc30,od30,.func (qB4 "law" "law" (zCP (top 40)) (zBC (top 40)) (zAA (top 40)) .none kV30 dc30 pm30 an30 cd30 ct30),sl30⟩)
  (c30:qC8 K cd30 "law" = true)
  (k30:qAv K (.ref f30)=true)
  (xa_RoundError:qBp K mainGlobals "RoundError" = some (some (.ref a_RoundError)))
  (xl_RoundError:K.lookup a_RoundError=some ⟨.type "type",dd_RoundError,.cls cd_RoundError,sl_RoundError⟩)
  (xd_RoundError:xcD a_RoundError cd_RoundError sl_RoundError=true)
  (xn_RoundError:qEj K a_RoundError=some cd_RoundError)
  (xo_RoundError:PySem.W.excTail cd_RoundError.mro=true)
  (xt_RoundError:qFz K (.ref a_RoundError)=some (.type "type"))
  (xg_RoundError:qAq K (.ref a_RoundError) "__getattribute__" = some (some (.builtin "BaseException.__getattribute__")))
  (xh_RoundError:qAq K (.ref a_RoundError) "__getattr__" = some none)
  (xj_RoundError:qD5 K a_RoundError=true)
  (xm_RoundError:qAq K (.ref a_RoundError) "__class__" = some (some (.builtin "object.__class__")))
  (xp_RoundError:qDb K a_RoundError (.type "object")=some true)
  (xv_RoundError:qDg K (.ref a_RoundError) (.type "ValueError")=some true)
  (xw_RoundError:qDg K (.ref a_RoundError) (.type "BaseException")=some true)
  (xa_NoPivot:qBp K mainGlobals "NoPivot" = some (some (.ref a_NoPivot)))
  (xl_NoPivot:K.lookup a_NoPivot=some ⟨.type "type",dd_NoPivot,.cls cd_NoPivot,sl_NoPivot⟩)
  (xd_NoPivot:xcD a_NoPivot cd_NoPivot sl_NoPivot=true)
  (xn_NoPivot:qEj K a_NoPivot=some cd_NoPivot)
  (xo_NoPivot:PySem.W.excTail cd_NoPivot.mro=true)
  (xt_NoPivot:qFz K (.ref a_NoPivot)=some (.type "type"))
  (xg_NoPivot:qAq K (.ref a_NoPivot) "__getattribute__" = some (some (.builtin "BaseException.__getattribute__")))
  (xh_NoPivot:qAq K (.ref a_NoPivot) "__getattr__" = some none)
  (xj_NoPivot:qD5 K a_NoPivot=true)
  (xm_NoPivot:qAq K (.ref a_NoPivot) "__class__" = some (some (.builtin "object.__class__")))
  (xp_NoPivot:qDb K a_NoPivot (.type "object")=some true)
  (xv_NoPivot:qDg K (.ref a_NoPivot) (.type "ValueError")=some true)
  (xw_NoPivot:qDg K (.ref a_NoPivot) (.type "BaseException")=some true)
  (ycg:qC6 K (.builtin "object.__class__") "__get__" = some (some (.builtin "getset_descriptor.__get__")))
  (yct:qDs K (.builtin "object.__class__")=some true)
  (zk_NoPivot:qAv K (.ref a_NoPivot)=true)
  (zi_NoPivot:qAq K (.ref a_NoPivot) "__init__" = some (some (.builtin "ValueError.__init__")))
  :∃fd:FuncData,(∀(s:Shared)(v:Value),BindsTo s fd ⟨[v],[]⟩ [("_law_script",v)])/\∀base:Heap,K.In base->base.Ns mainGlobals mg->FnOk l.prog w K mg base CX0 5 fa fd ["_law_script"] (zI1 K):=by
 have e:=hfa.symm.trans (qCp X G a30);cases e;have i_RoundError:Xc.XIs K a_RoundError:=⟨zOE xl_RoundError xd_RoundError,xg_RoundError,xh_RoundError,xj_RoundError,xm_RoundError,ycg,yct,xp_RoundError⟩
 have i_NoPivot:Xc.XIs K a_NoPivot:=⟨zOE xl_NoPivot xd_NoPivot,xg_NoPivot,xh_NoPivot,xj_NoPivot,xm_NoPivot,ycg,yct,xp_NoPivot⟩
 have n_RoundError:XCls K mg "RoundError" a_RoundError:=⟨zYQ xa_RoundError,qCp X G xa_RoundError,i_RoundError⟩
 have n_NoPivot:XCls K mg "NoPivot" a_NoPivot:=⟨zYQ xa_NoPivot,qCp X G xa_NoPivot,i_NoPivot⟩
 have z_NoPivot:XNo K mg "NoPivot" a_NoPivot:=⟨n_NoPivot,zk_NoPivot,zi_NoPivot⟩
 refine⟨qB4 "law" "law" (zCP (top 40)) (zBC (top 40)) (zAA (top 40)) .none kV30 dc30 pm30 an30 cd30 ct30,fun s v=>.of_eq rfl,fun base _ _=>?_⟩;exact zXS ⟨S,_,z_NoPivot⟩ (zQ3 (st:=(top 40)) l30 c30 k30)
theorem walk{l:qCv}{q:Program}{loose:List Str}{XP:(Str->Option Value)->Heap->Prop}{d:DefRec}{K:Params->qA1}{as ts:List Addr}{e:∀P,as=(K P).map (·.1)}(hn:l.most=some 63)(hdf:d.params.defaults=[])(hts:∀P∈ts,P∉as)
  (F:∀(w:World)(mg:Str->Option Value)(fa:Addr)(h:Heap),(K w.params).In h->h.Ns mainGlobals mg->mg d.name=some (.ref fa) ->
   TbE (K w.params) ts/\∃fd:FuncData,(∀(s:Shared)(u:Value),BindsTo s fd ⟨[u],[]⟩ [("_law_script",u)])/\∀base:Heap,(K w.params).In base->base.Ns mainGlobals mg->FnOk l.prog w (K w.params) mg base CX0 5 fa fd ["_law_script"] (zI1 (K w.params))) :
  qEm q loose XP (qFy K as e ts).says l.row.toRowW d [] (fun f vs=>qEw f vs):=
 L3.walk_ofM (n:=63) (k:=5) (x:="_law_script") hn (by decide) hdf ⟨rfl,by decide,by decide⟩ hts F
end Q70
open PySem PySem.W PyProof.Rows
set_option maxRecDepth 100000 in
set_option maxHeartbeats 0 in
theorem PySem.Challenge.cw_fourway_k70_whole_sets_of_pivoted_tables_holds : PySem.Challenge.rw_fourway_k70_whole_sets_of_pivoted_tables.Holds := by
 w_on;o_law;k_head;(case hw=>w_witness2)
 k_fill
 refine Q70.walk (l:=qBd) rfl rfl (by decide) ?F
 case F=>
  intro w mg fa h KX G hmg;refine' L3.with1 (L3.mkS (nm:="exchanged_at") (st:=Q70.top 12) KX G (by k_is) (by k_is) (by k_is) (by k_is) (by k_is) (by rfl) (by rfl) (by rfl) (by decide)) ?_;intro M0;refine' L3.with1 (L3.mkS (nm:="pivoted") (st:=Q70.top 11) KX G (by k_is) (by k_is) (by k_is) (by k_is) (by k_is) (by rfl) (by rfl) (by rfl) (by decide)) ?_;intro M1;have T:=L3.Tb.mk (L3.mk1_none (by k_is)) (M0.mk1) (M1.mk1);refine' ⟨⟨_,_,_,T⟩,Q70.all_mk KX G hmg (by constructor<;>first|exact L3.mkD KX G (by k_is) (by k_is) (by k_is) (by k_is)|exact PySem.W.mg_none_of KX G (by k_is)|exact M0.mkr ((T.eq _).trans rfl)|exact M1.mkr ((T.eq _).trans rfl)) (by k_is) (by k_is) (by k_is) (by k_is) (by k_is) (by k_is) (by rfl) (by k_is) (by rfl) (by k_is) (by k_is) (by k_is) (by k_is) (by k_is) (by k_is) (by k_is) (by k_is) (by k_is) (by k_is) (by rfl) (by k_is) (by rfl) (by k_is) (by k_is) (by k_is) (by k_is) (by k_is) (by k_is) (by k_is) (by k_is) (by k_is) (by k_is) (by k_is) (by k_is)⟩
