import PyProof.Rows.All
import Wide.All
import OpenK.AllK
import Wide.FinOn
import Lean
import PyProof.EqAt
import PyProof.EqKinds
import PyProof.TupleCall
import PyProof.NeKinds
import KE.KLam
import KE.KNestM
import PySem.Challenge.RW_fourway_k76_whole_worths_told
set_option Elab.async false
set_option linter.all false
set_option maxRecDepth 100000
open Array renaming getElem?_eq_some_iff->qBc,length_toList->qD1,getElem?_toList->qDx,toList->qGi
open Bool renaming false_ne_true->qAd,and_eq_true->qB5,and_false->qCa,eq_iff_iff->qD2,and_true->qDj,or_true->qDz,or_eq_true->qFf
open Char renaming toNat->qGt
open Classical renaming propDecidable->qA3,not_forall->qE9
open Eq renaming trans->qE6
open False renaming elim->qA5
open ForInStep renaming yield->qC1
open Int renaming mul_zero->qAr,zero_mul->qBg,add_zero->qBj,toNat_natCast->qBr,mul_left_comm->qBs,mul_comm->qBt,emod_nonneg->qC5,natCast_pow->qCj,mul_one->qCn,pow_succ->qCt,mul_assoc->qDm,emod_lt_of_pos->qEq,pow_zero->qF4,mul_add->qFk,natCast_add->qFm,ediv_one->qGj,mul_emod->qGm,add_comm->qGp,one_mul->qGr
open List renaming getD_eq_getElem?_getD->qA0,replicate->qA2,getElem?_eq_some_iff->qA4,getElem?_eq_getElem->qA7,range->qA8,getElem?_append_left->qA9,getElem?_append_right->qAa,size_toArray->qAb,getElem?_map->qAe,mem_map->qAf,map_cons->qAg,length_map->qAh,mem_singleton->qAi,mem_cons->qAk,mem_append_right->qAl,mem_cons_of_mem->qAm,mem_append->qAn,getElem?_set_self->qAo,map_map->qAp,mem_filter->qAq,getElem?_set_ne->qAs,length_cons->qAt,mem_cons_self->qAv,length_append->qAw,replicate_succ->qAx,map_congr_left->qAy,mem_range->qAz,map_append->qB1,sum_cons->qB8,mem_append_left->qB9,lookup_cons->qBb,flatten_cons->qBd,contains_cons->qBh,getElem?_replicate->qBi,idxOf_lt_length_of_mem->qBl,drop_eq_getElem_cons->qBp,mem_of_getElem?->qBq,filter_cons_of_pos->qBv,filter_cons_of_neg->qBw,length_take->qBx,filter_cons->qBy,nodup_cons->qBz,length_replicate->qC0,range_succ->qC2,all_cons->qC6,countP_cons->qCb,getElem?_range->qCc,append_nil->qCf,getElem_range->qCg,length_eq_zero_iff->qCi,take_succ_eq_append_getElem->qCk,take_of_length_le->qCm,append_assoc->qCo,eraseIdxIfInBounds_toArray->qCp,drop_zero->qCs,all_eq_true->qCu,take_length->qCv,ext_getElem->qCw,pairwise_append->qCx,any_cons->qCy,filterMap_cons->qCz,of_mem_zip->qD3,pairwise_cons->qD9,filter_append->qDa,getElem?_set->qDf,filter_congr->qDg,mem_of_mem_eraseIdx->qDh,eq_of_mem_replicate->qDi,drop_length->qDr,range_succ_eq_map->qDt,length_pos_of_mem->qDu,length_singleton->qDw,set_append_right->qE0,set_getElem_self->qE1,getElem?_eq_none->qE3,length_filter_le->qE4,length_eraseIdx->qE7,mem_of_mem_take->qE8,mem_map_of_mem->qEd,map_eq_nil_iff->qEf,filter_eq_self->qEg,mem_filterMap->qEi,map_take->qEp,getElem?_take->qEr,take_add_one->qEx,ext_getElem?->qEz,map_nil->qF1,cons_append->qF7,getElem_map->qF8,map->qFa,length_set->qFc,nil_append->qFd,lookup->qFe,sum_append->qFi,count_cons->qFl,foldl->qGb,getD_nil->qGg,map_set->qGk,cons->qGv
open List.Pairwise renaming nil->qC7,imp_of_mem->qGd
open Nat renaming le_refl->qA6,lt_of_lt_of_le->qAc,le_trans->qAj,ne_of_lt->qAu,le_of_lt->qB6,zero_le->qBk,lt_irrefl->qBm,ne_of_gt->qBn,zero_add->qC3,pow_succ->qC4,pow_le_pow_right->qC9,le_antisymm->qCh,lt_succ_of_lt->qCq,le_succ->qD4,eq_of_mul_eq_mul_right->qD7,le_add_right->qDp,lt_succ_self->qDq,mul_comm->qDy,le_of_eq->qE2,pow_le_pow_left->qEh,lt_of_le_of_lt->qEl,min_self->qF2,log2_two_pow->qF9,le_zero->qFg,pow_pos->qFj,add_zero->qGn,pow_zero->qGo,pow_add->qGq
open Nat.succ renaming inj->qGl
open Ne renaming symm->qD0
open Option renaming isSome_iff_exists->qDe,getD_some->qDo,none->qEc,getD_none->qF6
open Option.some renaming inj->qB3,injEq->qGs
open Or renaming inr->qGu
open Prod renaming fst->qEm
open PyProof.Rows renaming callWith_type1->qB7,isInt->qD8,envOfC->qEe,callWith_builtin1->qF0,preSum_getD->qGc,slot_tuple_getitem->qHr,AllBare->qI6,subscriptTail_builtinR->qIa,IntsAre->qIj
open PySem renaming mem_of_lookup->qBu,wpAny_pyIter_revIter->qD6,call->qEy,Within->qGh,Shared->qGw,Program->qGz,Around->qH1,mainGlobals->qH2,wpAny_loadPart_at->qH7,FuncData->qHb,wpAny_isSubtype_exc->qHg,boot_len->qHh,NameKind->qHj,strIterType->qHm,wpAny_passesOwn->qHo,wpAny_Call_Name_kw->qHq,foldedSetIterable->qHu,GenState->qHv,bootBuiltins->qHx,builtinsNs->qHz,ExcBaseFacts->qI3,behindInMarks->qI8,sizeLine_eq->qI9,wpAny_execs_nil->qIc,codeAny->qId,callerA->qIl,bindArgs->qIo,wpAny_assign_Name->qIq,BindsTo->qIr,slot_list_getitem->qIs,wpAny_pyIter_enum->qIu,seqIndex_neg->qIw,Paired->qJ4,swapsWith->qJ5,Result->qJ6,seqIndex?->qJ7,seqIndex_of->qJ8,sysModules->qJi,wpAny_Name->qJj
open PySem.Challenge renaming rw_fourway_k76_whole_worths_told->qBo,pw_fourway_k76_whole_worths_told->qDb
open PySem.EqMixed renaming eq_bool_str->qFq,eq_str_bool->qFr,ne_bool_str->qFv,ne_str_bool->qFw,eq_int_str->qG2,eq_str_int->qG4,ne_int_str->qG8,ne_str_int->qGa
open PySem.EqNone renaming eq_none_none->qFn,eq_none_bool->qFo,eq_bool_none->qFp,ne_none_none->qFs,ne_none_bool->qFt,ne_bool_none->qFu,eq_none_int->qFz,eq_none_str->qG0,eq_int_none->qG1,eq_str_none->qG3,ne_none_int->qG5,ne_none_str->qG6,ne_int_none->qG7,ne_str_none->qG9
open PySem.F renaming plainAttrs_list->qB2,slot_list_append->qCd,type_list_append->qCe,slot_list_index->qDk,slot_list_count->qDl,entry_list_pop->qIz,slot_list_pop->qJ9,slot_int_rmul->qJa
open PySem.W renaming Frag->qA1,findIn->qB0,kia_one->qB4,fnOf->qBa,keepIn->qBe,nsIn->qBf,mg_of->qC8,cellsFrom_some->qCl,codeIn->qCr,OpenLaw->qD5,methodObj->qDc,hasDictIn->qDd,subIn->qDn,codeHdIn->qDs,instObj->qDv,lookIn->qEa,tabObj->qEb,mroIn->qEj,callWith_K->qEk,clsIn->qEn,WalkO->qEo,specialIn->qEu,kitx_list->qEv,kitx_dict->qEw,envX->qF3,plainGet->qF5,takesIn->qFb,kf_ints->qFh,kitOne->qFx,typeIn->qFy,Looks->qGe,kf_at->qGf
open Sum renaming inl->qEs,inr->qEt
open True renaming intro->qE5
set_option compiler.extract_closed false
set_option genSizeOf false
set_option genSizeOfSpec false
set_option bootstrap.genMatcherCode false
open PySem.Builtin renaming bitXor->qHw
open PySem.Builtin.Int renaming intBits->qHn,intTooBig->qIh
open PySem.Builtin.List renaming listTooLong->qHf
open PySem.Builtin.Range renaming rangeSize->qI7
open PySem.Builtin.Slice renaming slicePlaces->qHe,sliceAdjust->qHl,sliceApplied->qI2,sliceFields->qJf
open PySem.Builtin.Str renaming strSliceIndices->qHa,occurrences->qHp
open PySem.Builtin.Tuple renaming tupleItemsOf->qJd,tupleIsExact->qJe
open PySem.Calls renaming Name_function_global->qI1
open PySem.Code renaming quiet_builtin->qIp
open PySem.EntryCells renaming newEntry->qIk
open PySem.Heap renaming get?_push_of_some->qGx,lt_size->qGy,get?_push_size->qH4,get?_update_other->qH5,get?_update_self->qHc,size_push->qHi,get?_none_of_le->qHk,MadeExcOf->qI4,SameBut->qIv
open PySem.Heap.IsSliceOf renaming new->qJp
open PySem.NameKind renaming free->qH0,cell->qHd
open PySem.Obj renaming mapFields->qH8,data_mapFields->qHt,isFreed_of_fields->qHy,mapSeq->qIi
open PySem.Paired renaming length->qJl
open PySem.PassesOwn renaming never->qH3
open PySem.SeqAt renaming EqAt->qI0,RcNeAt->qIx,RcAt->qJk
open PySem.SeqAt.EqAt renaming of_refs->qHs,same->qIe,int_str->qIm,str_int->qIn
open PySem.SeqAt.RcAt renaming lists_lengths->qI5,list_tuple->qIf,tuple_list->qIg,tuples->qIt,lists->qJ0
open PySem.Str renaming ofString_eq_toList->qIb,ofString->qIy
open PySem.Txt renaming slice->qJm
open PySem.Value renaming ref->qH6,none->qH9,int->qJ2,str->qJ3,bool->qJg,type->qJh,float->qJo
open PySem.W.WData renaming layableAll->qJ1,int->qJb,weightAll->qJc,weight->qJn
open PySem.W.WShape renaming has->qJq
noncomputable section
set_option maxHeartbeats 0 in
def hdZ:PSigma fun H:Prop=>H->PySem.Challenge.rw_fourway_k76_whole_worths_told.Holds:=by
 refine' ⟨_,fun x=>?go⟩
 case' go=>w_on;o_law;refine' And.left (b:=_) ⟨?main,And.intro ?hl ?hc⟩
 case main=>
  k_head
  case hw=>w_witness2
 case hc=>exact x
 case hl=>intro w;unfold PySem.W.openEnds PySem.W.fencedOpening PySem.W.topFrom;rewrite[PySem.W.Fast.te10274390034422433532,PySem.W.Fast.te14289696077712309145,PySem.W.Fast.te14082659384304107361,PySem.W.Fast.te4187177175401517315,PySem.W.Fast.te1435165496053646825,PySem.W.Fast.te14364793385576792824];kernel_rfl
namespace L2
open PySem PySem.Spec PyProof.Rows
abbrev Key:=Sum Int Str
noncomputable def zWD:Key->Value->Bool
 |.inl k,v=>Value.isInt k v
 |.inr x,v=>Value.isStrOf x v
noncomputable def keyH(w:World):Key->Int
 |.inl k=>hashInt k
 |.inr x=>hashStr w x
theorem zB3:∀{k:Key}{v:Value},zWD k v=true->(∃i t,k=qEs i/\v=qJ2 i t)\/(∃x t,k=qEt x/\v=qJ3 x t)
 |.inl i,v,h=>by
  obtain⟨t,e⟩:=Value.isInt_shape (k:=i) (v:=v) h;exact .inl ⟨i,t,rfl,e⟩
 |.inr x,v,h=>by
  obtain⟨t,e⟩:=Value.isStrOf_shape (x:=x) (v:=v) h;exact .inr ⟨x,t,rfl,e⟩
theorem zWC(a b:Int):decide ((qEs a:Key)=qEs b)=(a==b):=by
 by_cases e:a=b
 ·subst e;simp
 ·have h:¬(qEs a:Key)=qEs b:=fun q=>e (Sum.inl.inj q)
  rw[decide_eq_false h];exact(beq_eq_false_iff_ne.mpr e).symm
theorem zW9(a b:Str):decide ((qEt a:Key)=qEt b)=decide (a=b):=by
 by_cases e:a=b
 ·subst e;simp
 ·have h:¬(qEt a:Key)=qEt b:=fun q=>e (Sum.inr.inj q)
  rw[decide_eq_false h,decide_eq_false e]
theorem zWB(a:Int)(b:Str):decide ((qEs a:Key)=qEt b)=false:=decide_eq_false (fun q=>nomatch q)
theorem zWA(a:Str)(b:Int):decide ((qEt a:Key)=qEs b)=false:=decide_eq_false (fun q=>nomatch q)
def zKJ(prog:qGz)(w:World):PySem.KeyKind prog w Key where
 is:=zWD
 hash:=keyH w
 inj:=fun v a b ha hb=>by
  rcases zB3 ha with⟨i,t,rfl,rfl⟩|⟨x,t,rfl,rfl⟩
  ·rcases zB3 hb with⟨j,u,rfl,e⟩|⟨y,u,rfl,e⟩
   ·injection e with e1 _;rw[e1]
   ·exact nomatch e
  ·rcases zB3 hb with⟨j,u,rfl,e⟩|⟨y,u,rfl,e⟩
   ·exact nomatch e
   ·injection e with e1 _;rw[e1]
 byValue:=fun k v h=>by
  rcases zB3 h with⟨i,t,rfl,rfl⟩|⟨x,t,rfl,rfl⟩<;>rfl
 pyHash:=fun hv h=>by
  rcases zB3 hv with⟨i,t,rfl,rfl⟩|⟨x,t,rfl,rfl⟩
  ·exact wpAny_pyHash_int h
  ·exact wpAny_pyHash_str h
 eqBool:=fun hu hv h=>by
  rcases zB3 hu with⟨i,t,rfl,rfl⟩|⟨x,t,rfl,rfl⟩
  ·rcases zB3 hv with⟨j,u,rfl,rfl⟩|⟨y,u,rfl,rfl⟩
   ·rw[zWC]at h;exact wpAny_eqBool_int h
   ·rw[zWB]at h;exact qIm i t y u _ _ _ _ h
  ·rcases zB3 hv with⟨j,u,rfl,rfl⟩|⟨y,u,rfl,rfl⟩
   ·rw[zWA]at h;exact qIn x t j u _ _ _ _ h
   ·rw[zW9]at h;exact wpAny_eqBool_str h
 «strs»:=fun k x t v h=>by
  rcases zB3 h with⟨i,u,rfl,e⟩|⟨y,u,rfl,e⟩
  ·exact nomatch e
  ·injection e with e1 _
   subst e1;cases v<;>rfl
inductive V where
 |non|bl (b:Bool)|int (i:Int)|str (x:Str)|byt (b:Array UInt8)|flt (b:UInt64)|ref (a:Addr)|ty (n:String)
 deriving DecidableEq
noncomputable def RelV:V->Value->Prop
 |.non,u=>u=qH9
 |.bl b,u=>u=qJg b
 |.int i,u=>∃t,u=qJ2 i t
 |.str x,u=>∃t,u=qJ3 x t
 |.byt b,u=>∃t,u=Value.bytes b t
 |.flt b,u=>∃t,u=qJo b t
 |.ref a,u=>u=qH6 a
 |.ty n,u=>u=qJh n
abbrev Vals:List V->List Value->Prop:=qJ4 RelV
theorem Vals.length{xs:List V}{us:List Value}(r:Vals xs us):xs.length=us.length:=qJl r
theorem Vals.get:∀{xs:List V}{us:List Value}{i:Nat}{x:V},Vals xs us->xs[i]?=some x->∃u,us[i]?=some u/\RelV x u
 |_,_,_,_,.nil,e=>by simp at e
 |_,_,0,_,.cons r _,e=>by simp at e;subst e;exact⟨_,rfl,r⟩
 |_,_,i+1,x,.cons _ t,e=>by
  obtain⟨u,h1,h2⟩:=Vals.get (i:=i) (x:=x) t (by simpa using e);exact⟨u,by simpa using h1,h2⟩
theorem Vals.set{x:V}{u:Value}(r:RelV x u):∀{xs:List V}{us:List Value}(i:Nat),Vals xs us->Vals (xs.set i x) (us.set i u)
 |_,_,_,.nil=>.nil
 |_,_,0,.cons _ t=>.cons r t
 |_,_,i+1,.cons q t=>.cons q (Vals.set r i t)
theorem Vals.append:∀{xs ys:List V}{us ws:List Value},Vals xs us->Vals ys ws->Vals (xs++ys) (us++ws)
 |_,_,_,_,.nil,s=>s
 |_,_,_,_,.cons r t,s=>.cons r (Vals.append t s)
theorem Vals.take:∀{xs:List V}{us:List Value}(n:Nat),Vals xs us->Vals (xs.take n) (us.take n)
 |_,_,0,_=>.nil
 |_,_,_+1,.nil=>.nil
 |_,_,n+1,.cons r t=>.cons r (Vals.take n t)
theorem Vals.drop:∀{xs:List V}{us:List Value}(n:Nat),Vals xs us->Vals (xs.drop n) (us.drop n)
 |_,_,0,r=>r
 |_,_,_+1,.nil=>.nil
 |_,_,n+1,.cons _ t=>Vals.drop n t
def RelO:Option V->Option Value->Prop
 |some v,some u=>RelV v u
 |none,none=>True
 |_,_=>False
def KV{κ:Type}:List (κ×V)->List (κ×Value)->Prop:=qJ4 fun(p:κ×V)(q:κ×Value)=>p.1=q.1/\RelV p.2 q.2
noncomputable def kV:Key->V
 |.inl i=>.int i
 |.inr x=>.str x
inductive HO where
 |lst (xs:List V)
 |tup (xs:List V)
 |dK (kvs:List (Key×V))|dT (kvs:List (List Key×V))
 |set (S:Int->Bool) (n:Nat)
 |ins (C dx:Addr) (fs:List (Str×V))
 |own (x:Addr)
 |xd (fs:List (Str×V))
 |met (f x:Addr)
 |rng (lo hi:Int)
 |frz (o:Obj) (u:HO)
 |tbl (ps:Array Value)
 |lam (q:Str)
 |fn (o:Obj) (q:Str)
 |ext (φ:Heap->Prop)
abbrev Hp:=Addr->Option HO
noncomputable def upd(H:Hp)(a:Addr)(o:HO):Hp:=fun b=>if b=a then some o else H b
theorem zAJ{H:Hp}{a:Addr}{o:HO}:upd H a o a=some o:=by unfold upd;rw[if_pos rfl]
theorem zAH{H:Hp}{a b:Addr}{o:HO}(h:b≠a):upd H a o b=H b:=by unfold upd;rw[if_neg h]
theorem zQK{H:Hp}{a b:Addr}{o u:HO}(h:H a=some o)(h':H b=some u)(d:o≠u):a≠b:=by
 intro e;subst e;rw[h]at h';exact d (qB3 h')
theorem zAI{H:Hp}{a b:Addr}{o:HO}(h:H a=some o)(h':H b=none):a≠b:=by
 intro e;subst e;rw[h]at h';cases h'
def CodR(o:Obj)(q:Str):Prop:=∃vs t,o.data=.fields vs/\vs[1]?=some (.str q t)
section
variable(P:qGz)(w:World)
def ObjOk(H:Hp)(h:Heap)(a:Addr):HO->Prop
 |.lst xs=>xs.length<=sizeLine/\∃(its:List Value)(n:Nat),Vals xs its/\h.get? a=some { cls:=.type "list",data:=.seq its.toArray n }
 |.tup xs=>xs.length<=sizeLine/\∃its:List Value,Vals xs its/\IsTup h a its.toArray
 |.dK kvs=>kvs.length<=sizeLine/\(a==qJi)=false/\∃vs,KV kvs vs/\h.DictOf (zKJ P w) a vs
 |.dT kvs=>kvs.length<=sizeLine/\(a==qJi)=false/\∃xs:List (List Key×Addr×Value),
   qJ4 (fun(p:List Key×V)(q:List Key×Addr×Value)=>p.1=q.1/\H q.2.1=some (.tup (p.1.map kV))/\RelV p.2 q.2.2) kvs xs /\
   ∃o es ep,h.get? a=some o/\o.ExactDict/\o.data=.dict es ep/\es.toList=xs.map (entryOfKey (tupleKind (zKJ P w)))/\(xs.map (·.1)).Nodup
 |.set S n=>h.SetOf (intKind P w) a S n
 |.ins C dx fs=>H dx=some (.own a)/\fs.length<=1000/\dx≠a/\h.get? a=some (qDv C dx) /\
   ∃mA,h.Ns1 dx mA/\(∀f,RelO (fs.lookup f) (mA f))/\qGh mA (fs.map (·.1))
 |.own _=>∃o,h.get? a=some o
 |.xd fs=>∃mA,h.Ns1 a mA/\∀f,RelO (fs.lookup f) (mA f)
 |.rng lo hi=>∃t u v,h.get? a=some { cls:=.type "range",data:=.fields #[.int lo t,.int hi u,.int 1 v] }
 |.frz o u=>h.get? a=some o/\ObjOk H h a u
 |.tbl ps=>h.get? a=some { cls:=.none,data:=.fields ps }
 |.lam q=>∃ps:Array Value,h.get? a=some { cls:=.none,data:=.fields ps }/\TriplesOk ps.toList/\∀pos cv,codeAmong pos ps.toList=some cv->∃c oc u,cv=.ref c/\H c=some (.frz oc u)/\CodR oc q
 |.fn o q=>h.get? a=some o/\∃fd c oc u,o.data=.func fd/\fd.code=.ref c/\H c=some (.frz oc u)/\CodR oc q
 |.met f x=>h.get? a=some (qDc (.ref f) (.ref x))
 |.ext φ=>φ h/\(∃o,h.get? a=some o)/\∀h1 h2:Heap,φ h1->(∀o,h1.get? a=some o->h2.get? a=some o)->φ h2
def HOk(H:Hp)(h:Heap):Prop:=∀a o,H a=some o->ObjOk P w H h a o
end
section
variable{P:qGz}{w:World}{H H':Hp}{h h':Heap}{a:Addr}{o:HO}
theorem ObjOk.lt(x:ObjOk P w H h a o):a<h.objs.size:=by
 cases o with
 |lst xs=>obtain⟨_,_,_,_,e⟩:=x;exact qGy e
 |tup xs=>obtain⟨_,_,_,p⟩:=x;exact p.lt
 |dK kvs=>obtain⟨_,_,_,_,o,_,_,e,_⟩:=x;exact qGy e
 |dT kvs=>obtain⟨_,_,_,_,o,_,_,e,_⟩:=x;exact qGy e
 |set S n=>obtain⟨o,_,_,_,e,_⟩:=x;exact qGy e
 |ins C dx fs=>obtain⟨_,_,_,e,_⟩:=x;exact qGy e
 |own y=>obtain⟨_,e⟩:=x;exact qGy e
 |xd fs=>obtain⟨_,⟨_,_,_,e,_⟩,_⟩:=x;exact qGy e
 |rng lo hi=>obtain⟨_,_,_,e⟩:=x;exact qGy e
 |frz ob u=>obtain⟨e,_⟩:=x;exact qGy e
 |tbl ps=>exact qGy (show h.get? a=some _ from x)
 |lam q=>obtain⟨_,e,_⟩:=x;exact qGy e
 |fn ob q=>obtain⟨e,_⟩:=x;exact qGy e
 |met f y=>exact qGy (show h.get? a=some _ from x)
 |ext φ=>obtain⟨_,⟨_,e⟩,_⟩:=x;exact qGy e
theorem qJ4.mapP{α β:Type}{F G:α->β->Prop}:∀{l₁:List α}{l₂:List β},qJ4 F l₁ l₂->(∀a b,F a b->G a b)->qJ4 G l₁ l₂
 |_,_,.nil,_=>.nil
 |_,_,.cons r t,f=>.cons (f _ _ r) (qJ4.mapP t f)
theorem ObjOk.stay(x:ObjOk P w H h a o)(k:∀b u,(b=a\/H b=some (.own a))->h.get? b=some u->h'.get? b=some u)
  (ho:∀b,H b=some (.own a)->H' b=some (.own a)) (ht:∀b xs,H b=some (.tup xs)->H' b=some (.tup xs)) (hf:∀b o u,H b=some (.frz o u)->(∃vs,o.data=.fields vs)->H' b=some (.frz o u)):ObjOk P w H' h' a o:=by
 induction o with
 |lst xs=>obtain⟨z,its,n,r,e⟩:=x;exact⟨z,its,n,r,k _ _ (.inl rfl) e⟩
 |tup xs=>obtain⟨z,its,r,ob,e,c⟩:=x;exact⟨z,its,r,ob,k _ _ (.inl rfl) e,c⟩
 |dK kvs=>obtain⟨z,y,vs,r,ob,es,ep,e,c⟩:=x;exact⟨z,y,vs,r,ob,es,ep,k _ _ (.inl rfl) e,c⟩
 |dT kvs=>
  obtain⟨z,y,xs,r,ob,es,ep,e,c⟩:=x;exact⟨z,y,xs,qJ4.mapP r fun p q z=>⟨z.1,ht _ _ z.2.1,z.2.2⟩,ob,es,ep,k _ _ (.inl rfl) e,c⟩
 |set S n=>obtain⟨ob,es,ep,t,e,c⟩:=x;exact⟨ob,es,ep,t,k _ _ (.inl rfl) e,c⟩
 |ins C dx fs=>
  obtain⟨d,z,ne,e,mA,⟨od,es,ep,e2,c⟩,r⟩:=x;exact⟨ho _ d,z,ne,k _ _ (.inl rfl) e,mA,⟨od,es,ep,k _ _ (.inr d) e2,c⟩,r⟩
 |own y=>obtain⟨ob,e⟩:=x;exact⟨ob,k _ _ (.inl rfl) e⟩
 |xd fs=>obtain⟨mA,⟨od,es,ep,e,c⟩,r⟩:=x;exact⟨mA,⟨od,es,ep,k _ _ (.inl rfl) e,c⟩,r⟩
 |rng lo hi=>obtain⟨t,u,v,e⟩:=x;exact⟨t,u,v,k _ _ (.inl rfl) e⟩
 |frz ob u ih=>obtain⟨e,q⟩:=x;exact⟨k _ _ (.inl rfl) e,ih q⟩
 |tbl ps=>
  have e:h.get? a=some { cls:=.none,data:=.fields ps }:=x;show h'.get? a=some { cls:=.none,data:=.fields ps };exact k a _ (.inl rfl) e
 |lam q=>
  obtain⟨ps,e,t,r⟩:=x;exact⟨ps,k _ _ (.inl rfl) e,t,fun pos cv z=>let⟨c,oc,u,e1,e2,e3⟩:=r pos cv z;⟨c,oc,u,e1,hf _ _ _ e2 (let⟨vs,_,d,_⟩:=e3;⟨vs,d⟩),e3⟩⟩
 |fn ob q=>
  obtain⟨e,fd,c,oc,u,e1,e2,e3,e4⟩:=x;exact⟨k _ _ (.inl rfl) e,fd,c,oc,u,e1,e2,hf _ _ _ e3 (let⟨vs,_,d,_⟩:=e4;⟨vs,d⟩),e4⟩
 |met f y=>
  have e:h.get? a=some (qDc (.ref f) (.ref y)):=x;show h'.get? a=some (qDc (.ref f) (.ref y));exact k a _ (.inl rfl) e
 |ext φ=>obtain⟨p,⟨o,e⟩,st⟩:=x;exact⟨st _ _ p fun o q=>k _ _ (.inl rfl) q,⟨o,k _ _ (.inl rfl) e⟩,st⟩
theorem HOk.lt(x:HOk P w H h)(e:H a=some o):a<h.objs.size:=(x a o e).lt
theorem HOk.fresh(x:HOk P w H h)(e:h.objs.size<=a):H a=none:=by
 cases q:H a with
 |none=>rfl
 |some u=>exact absurd (qAc (x.lt q) e) (qBm _)
theorem HOk.kept(x:HOk P w H h)(k:∀b u,h.get? b=some u->h'.get? b=some u):HOk P w H h':=fun a o e=>
 (x a o e).stay (fun b u _ q=>k b u q) (fun _ q=>q) (fun _ _ q=>q) fun _ _ _ q _=>q
theorem HOk.laid(x:HOk P w H h)(k:∀b u,h.get? b=some u->h'.get? b=some u)(hp:h.objs.size<=a)(new:ObjOk P w (upd H a o) h' a o):HOk P w (upd H a o) h':=fun b u e=>by
 have hn:=x.fresh hp
 by_cases hb:b=a
 ·subst hb;rw[zAJ]at e;cases e;exact new
 ·rw[zAH hb]at e;exact(x b u e).stay (fun c v _ q=>k c v q) (fun c q=>by rw[zAH (zAI q hn)];exact q) (fun c xs q=>by rw[zAH (zAI q hn)];exact q) fun c _ _ q _=>by rw[zAH (zAI q hn)];exact q
end
def Rd(H:Hp)(a:Addr)(u:HO):Prop:=H a=some u\/∃o,H a=some (.frz o u)
theorem Rd.ok{P:qGz}{w:World}{H:Hp}{h:Heap}{a:Addr}{u:HO}(r:Rd H a u)(x:HOk P w H h):ObjOk P w H h a u:=by
 rcases r with r|⟨o,r⟩
 ·exact x a u r
 ·obtain⟨_,q⟩:=x a _ r;exact q
noncomputable def Mut:Option HO->Prop
 |some (.lst _)=>True
 |some (.dK _)=>True
 |some (.dT _)=>True
 |some (.set _ _)=>True
 |some (.ins _ _ _)=>True
 |some (.ext _)=>True
 |some (.lam _)=>True
 |_=>False
section
variable{P:qGz}{w:World}{H:Hp}{h h':Heap}{x e:Addr}{o':HO}
theorem HOk.write(ok:HOk P w H h)(mu:Mut (H x))(he:e=x\/H e=some (.own x))(k:∀b u,b≠e->h.get? b=some u->h'.get? b=some u)(heo:∃u,h'.get? e=some u)
  (new:ObjOk P w (upd H x o') h' x o'):HOk P w (upd H x o') h':=fun b u q=>by
 have nown:∀c y,H c=some (.own y)->c≠x:=fun c y r z=>by subst z;rw[r]at mu;exact mu
 have ntup:∀c xs,H c=some (.tup xs)->c≠x:=fun c xs r z=>by subst z;rw[r]at mu;exact mu
 have nfrz:∀c o v,H c=some (.frz o v)->c≠x:=fun c o v r z=>by subst z;rw[r]at mu;exact mu
 by_cases hb:b=x
 ·subst hb;rw[zAJ]at q;cases q;exact new
 ·rw[zAH hb]at q
  by_cases hbe:b=e
  ·have q':H b=some (.own x):=by
    rcases he with z|z
    ·exact absurd (hbe.trans z) hb
    ·rw[hbe];exact z
   rw[q]at q';cases q';obtain⟨v,hv⟩:=heo;exact⟨v,by rw[hbe];exact hv⟩
  ·refine(ok b u q).stay (fun c v hc r=>k c v ?_ r) (fun c r=>by rw[zAH (nown c b r)];exact r) (fun c xs r=>by rw[zAH (ntup c xs r)];exact r) fun c o v r _=>by rw[zAH (nfrz c o v r)];exact r
   rcases hc with rfl|hc
   ·exact hbe
   ·rintro rfl
    rcases he with z|z
    ·exact nown c b hc z
    ·rw[hc]at z;cases z;exact hb rfl
end
structure Un(fs ex:List Addr)(H H':Hp)(h h':Heap):Prop where
 keep:∀b o,h.get? b=some o->H b=none->b∉fs->b∉ex->h'.get? b=some o
 slot:∀b o,h.get? b=some o->H b=none->b∈fs->b∉ex->∃sl,h'.get? b=some { o with slots:=sl }
 free:∀b o,h.get? b=some o->H b=none->b∉ex->H' b=none
 there:∀b o,h.get? b=some o->b∉ex->∃o',h'.get? b=some o'
 tups:∀b xs,H b=some (.tup xs)->H' b=some (.tup xs)
 frzs:∀b o u,H b=some (.frz o u)->H' b=some (.frz o u)
 tbls:∀b ps,H b=some (.tbl ps)->∃more,H' b=some (.tbl (ps++more))
section
variable{fs fs' ex ex':List Addr}{H H1 H2:Hp}{h h1 h2 h':Heap}{a x e:Addr}{o:HO}
theorem Un.any(u:Un fs ex H H1 h h1){b:Addr}{ob:Obj}(q:h.get? b=some ob)(n:H b=none)(hx:b∉ex):∃sl,h1.get? b=some { ob with slots:=sl }:=by
 by_cases hb:b∈fs
 ·exact u.slot b ob q n hb hx
 ·exact⟨ob.slots,u.keep b ob q n hb hx⟩
theorem Un.kept(k:∀b u,h.get? b=some u->h'.get? b=some u):Un fs ex H H h h':=
 ⟨fun b ob q _ _ _=>k b ob q,fun b ob q _ _ _=>⟨ob.slots,k b ob q⟩,fun _ _ _ n _=>n,fun b ob q _=>⟨ob,k b ob q⟩,fun _ _ q=>q,fun _ _ _ q=>q,fun _ ps q=>⟨#[],by rw[q];simp⟩⟩
theorem Un.refl:Un fs ex H H h h:=Un.kept fun _ _ q=>q
theorem Un.laid(k:∀b u,h.get? b=some u->h'.get? b=some u)(hp:h.objs.size<=a)(hn:H a=none):Un fs ex H (upd H a o) h h' where
 keep:=fun b u q _ _ _=>k b u q
 slot:=fun b u q _ _ _=>⟨u.slots,k b u q⟩
 free:=fun b u q n _=>by rw[zAH (qAu (qAc (qGy q) hp))];exact n
 there:=fun b u q _=>⟨u,k b u q⟩
 tups:=fun b xs q=>by rw[zAH (zAI q hn)];exact q
 frzs:=fun b u xs q=>by rw[zAH (zAI q hn)];exact q
 tbls:=fun b ps q=>⟨#[],by rw[zAH (zAI q hn),q];simp⟩
theorem Un.write(mu:Mut (H x))(he:e=x\/H e=some (.own x))(k:∀b u,b≠e->h.get? b=some u->h'.get? b=some u)(heo:∃u,h'.get? e=some u):Un fs ex H (upd H x o) h h':=by
 have hx:∀b,H b=none->b≠x:=fun b n z=>by subst z;rw[n]at mu;exact mu
 have hb:∀b,H b=none->b≠e:=fun b n z=>by
  subst z
  rcases he with r|r
  ·exact hx b n r
  ·rw[n]at r;cases r
 have hm:∀b u,H b=some u->¬Mut (some u)->b≠x:=fun b u q nm z=>by subst z;rw[q]at mu;exact nm mu
 refine⟨fun b u q n _ _=>k b u (hb b n) q,fun b u q n _ _=>⟨u.slots,k b u (hb b n) q⟩,fun b u q n _=>by rw[zAH (hx b n)];exact n,fun b u q _=>?_,
  fun b xs q=>by rw[zAH (hm b _ q fun z=>z)];exact q,fun b u xs q=>by rw[zAH (hm b _ q fun z=>z)];exact q,fun b ps q=>⟨#[],by rw[zAH (hm b _ q fun z=>z),q];simp⟩⟩
 by_cases hbe:b=e
 ·subst hbe;exact heo
 ·exact⟨u,k b u hbe q⟩
end
noncomputable def trk(h:Heap)(H:Hp):List Addr:=(qA8 h.objs.size).filter fun a=>(H a).isSome
def hidT(h:Heap)(H:Hp):Heap:=PySem.W.hideAll h (trk h H)
theorem zOP(h:Heap)(H:Hp):(hidT h H).objs.size=h.objs.size:=PySem.W.hideAll_size _ _
theorem zQX{h:Heap}{H:Hp}{b:Addr}{o:Obj}(e:h.get? b=some o)(n:H b=none):(hidT h H).get? b=some o:=
 PySem.W.hideAll_get _ e fun hm=>by
  have q:(H b).isSome=true:=(qAq.mp hm).2;rw[n]at q;simp at q
theorem zTC{h:Heap}{H:Hp}{b:Addr}{o:Obj}(e:(hidT h H).get? b=some o):h.get? b=some o/\H b=none:=by
 have e':h.get? b=some o:=PySem.W.of_hideAll (trk h H) e;refine⟨e',?_⟩;cases q:H b with
 |none=>rfl
 |some x=>
  have hm:b∈trk h H:=qAq.mpr ⟨qAz.mpr (qGy e'),by simp[q]⟩;have z:(hidT h H).get? b=none:=PySem.W.hideAll_none (trk h H) hm;rw[z]at e;cases e
noncomputable def zUD(g h:Heap)(L:Addr):List (Addr×Obj):=(qA8 h.objs.size).filterMap fun a=>if a=L\/(g.get? a).isSome=true then none else(h.get? a).map fun o=>(a,o)
def rest(g h:Heap)(L d:Addr):List (Addr×Obj):=(zUD g h L).filter fun p=>decide (p.1≠d)
structure Mod(K:qA1)(mg:Str->Option Value)(base:Heap):Prop where
 kin:K.In base
 glob:base.Ns qH2 mg
 blt:∃mb,base.Ns qHz mb/\∀x:Str,x ≠ "__name__" -> mb x=qHx x
 nolimit:base.NoLimit
 bm:∃bm ob,mg "__builtins__" = some (.ref bm)/\bm≠qHz/\base.get? bm=some ob/\ob.cls=.type "module" /\ ob.dict=some qHz/\ob.data=.plain
structure Cx where
 prog:qGz
 w:World
 K:qA1
 mg:Str->Option Value
 base:Heap
 A:qH1
 N:List Str
 s₀:qGw
 H₀:Hp
 env:Env
 outer:List Env
 stack:List Env
 ex:List Addr
 fn:Str->Bool
 calm:Bool
 pn:List (Addr×Obj)
 xe:Value->qGw->Prop
noncomputable def frs(l:List Env):List Addr:=l.filterMap (·.frame)
abbrev Cx.fs(X:Cx):List Addr:=frs X.outer
def Vis(sc:Scope)(x:Str):Prop:=sc.names.lookup x=some .local\/sc.names.lookup x=some .cell\/sc.names.lookup x=some .free
def Loc(sc:Scope)(x:Str):Prop:=sc.names.lookup x=some .local\/sc.names.lookup x=some .cell
def Look(env:Env)(h:Heap)(m:Str->Option Value)(x:Str)(u:Value):Prop:=
 (env.kindOf x=some .local/\m x=some u)\/((env.kindOf x=some .cell\/env.kindOf x=some .free)/\∃c,env.cells.lookup x=some c/\h.IsCell c (some u))
structure Cx.Ok(X:Cx):Prop where
 mod:Mod X.K X.mg X.base
 kind:X.env.scope.kind=.function
 glob:X.env.globals=qH2
 blt:X.env.builtins=qHz
 above:X.s₀.heap.objs.size<=X.env.locals
 inj:∀x y c,X.env.cells.lookup x=some c->X.env.cells.lookup y=some c->x=y
 has:∀x,(X.env.kindOf x=some .cell\/X.env.kindOf x=some .free)->∃c,X.env.cells.lookup x=some c
 cab:∀x c,X.fn x=true->X.env.cells.lookup x=some c->X.s₀.heap.objs.size<=c
 hd:X.calm=true->X.A.handled=none
 frames:X.A.frames=some X.stack
 stk:X.stack=X.outer\/(X.stack=X.env::X.outer/\X.env.frame=some X.env.locals)
 exf:∀b∈X.ex,b≠X.env.locals/\∀x c,X.env.cells.lookup x=some c->c≠b
 bs:∀b o,X.base.get? b=some o->X.s₀.heap.get? b=some o/\X.H₀ b=none
 bsz:X.base.objs.size<=X.s₀.heap.objs.size
 noex:∀b o,X.base.get? b=some o->b∉X.ex
 exfs:∀b∈X.ex,b∉X.fs
 funs:X.s₀.heap.FunFrames X.base X.outer
 frf:∀b∈X.fs,X.H₀ b=none
structure Inv(X:Cx)(pins:List (Addr×Obj))(σ:List (Option V))(H:Hp)(s:qGw):Prop where
 ok:X.Ok
 os:s.os=X.s₀.os
 bare:qI6 s.gens
 base:Un X.fs X.ex X.H₀ H X.s₀.heap s.heap
 loc:∃m,s.heap.Ns X.env.locals m/\∀(i:Nat)(x:Str)(v:V),X.N[i]?=some x->σ[i]?=some (some v)->Vis X.env.scope x->∃u,RelV v u/\Look X.env s.heap m x u
 cell:∀x c,X.env.cells.lookup x=some c->∃v,s.heap.IsCell c v
 free:H X.env.locals=none
 freeC:∀x c,X.env.cells.lookup x=some c->H c=none
 pin:∀p∈X.pn++pins,s.heap.get? p.1=some p.2/\H p.1=none/\p.1≠X.env.locals/\p.1∉X.fs/\∀v,p.2.data≠.cell v
 hok:HOk X.prog X.w H s.heap
 len:σ.length=X.N.length
section
variable{X:Cx}{pins:List (Addr×Obj)}{σ:List (Option V)}{H H':Hp}{s:qGw}{h':Heap}
theorem Cx.Ok.nofr(ok:X.Ok){b:Addr}{o:Obj}(e:X.base.get? b=some o):b∉X.fs:=fun hb=>by
 have:=(ok.funs.mem hb).1
 rw[e]at this;cases this
theorem Inv.bs(I:Inv X pins σ H s):∀b o,X.base.get? b=some o->s.heap.get? b=some o/\H b=none:=fun b o e=>
 ⟨I.base.keep b o (I.ok.bs b o e).1 (I.ok.bs b o e).2 (I.ok.nofr e) (I.ok.noex b o e),I.base.free b o (I.ok.bs b o e).1 (I.ok.bs b o e).2 (I.ok.noex b o e)⟩
theorem Inv.bk(I:Inv X pins σ H s):∀b o,X.base.get? b=some o->s.heap.get? b=some o:=fun b o e=>(I.bs b o e).1
theorem Inv.mod(I:Inv X pins σ H s):Mod X.K X.mg X.base:=I.ok.mod
theorem Inv.kIn(I:Inv X pins σ H s):X.K.In s.heap:=I.ok.mod.kin.keeps I.bk
theorem Inv.fr(I:Inv X pins σ H s):∃m,Fr X.base X.env.locals s.heap m:=
 let⟨m,hn,_⟩:=I.loc
 ⟨m,hn,I.bk,qAj I.ok.bsz I.ok.above⟩
theorem Inv.lt(I:Inv X pins σ H s):X.env.locals<s.heap.objs.size:=let⟨_,hn,_⟩:=I.loc;hn.lt
theorem Inv.sz(I:Inv X pins σ H s):X.s₀.heap.objs.size<=s.heap.objs.size:=qAj I.ok.above (qB6 I.lt)
theorem Inv.nofs(I:Inv X pins σ H s){a:Addr}(h:s.heap.objs.size<=a):a∉X.fs:=fun hb=>by
 obtain⟨_,o,ho,_⟩:=I.ok.funs.mem hb;exact absurd (qAc (qGy ho) (qAj I.sz h)) (qBm _)
theorem Inv.cne(I:Inv X pins σ H s):∀x c,X.env.cells.lookup x=some c->c≠X.env.locals:=fun x c e z=>by
 obtain⟨v,o,ho,hd⟩:=I.cell x c e;obtain⟨m,⟨o',es,ep,ho',hd',_⟩,_⟩:=I.loc;rw[z,ho']at ho;cases ho;rw[hd']at hd;cases hd
theorem Inv.funs(I:Inv X pins σ H s):s.heap.FunFrames X.base X.outer:=by
 have all:∀(l:List Env),(∀b∈frs l,b∈X.fs)->X.s₀.heap.FunFrames X.base l->s.heap.FunFrames X.base l:=by
  intro l
  induction l with
  |nil=>intro _ _;trivial
  |cons env r ih=>
   intro hs hl;obtain⟨hk,⟨L,o,hf,hn,ho,hd⟩,hr⟩:=hl;have hL:L∈X.fs:=hs L (by unfold frs;rw[qCz,hf];exact qAv);obtain⟨sl,e⟩:=I.base.slot L o ho (I.ok.frf L hL) hL fun z=>I.ok.exfs L z hL
   exact⟨hk,⟨L,_,hf,hn,e,hd⟩,ih (fun b hb=>hs b (by unfold frs;rw[qCz,hf];exact qAm _ hb)) hr⟩
 exact all X.outer (fun _ hb=>hb) I.ok.funs
theorem Inv.stack(I:Inv X pins σ H s):s.heap.FunFrames X.base X.stack:=by
 rcases I.ok.stk with e|⟨e,hf⟩
 ·rw[e];exact I.funs
 ·rw[e];obtain⟨m,hn,_⟩:=I.loc;refine .cons (by rw[I.ok.kind];decide) hf hn ?_ I.funs;exact qHk (qAj I.ok.bsz I.ok.above)
theorem Inv.stkSub(I:Inv X pins σ H s):∀b∈frs X.stack,b∈X.env.locals::X.fs:=fun b hb=>by
 rcases I.ok.stk with e|⟨e,hf⟩
 ·rw[e]at hb;exact qAm _ hb
 ·rw[e]at hb;unfold frs at hb;rw[qCz,hf]at hb;exact hb
theorem Inv.stkFree(I:Inv X pins σ H s):∀b∈frs X.stack,H b=none:=fun b hb=>by
 rcases qAk.mp (I.stkSub b hb)with e|hb
 ·rw[e];exact I.free
 ·obtain⟨_,o,ho,_⟩:=I.ok.funs.mem hb;exact I.base.free b o ho (I.ok.frf b hb) fun z=>I.ok.exfs b z hb
theorem Inv.step{g':Array qHv}{t':Nat}{d':Drawn}{ch:List Addr}(I:Inv X pins σ H s)
  (hch:∀b∈ch,(b∈X.ex\/X.s₀.heap.objs.size<=b)/\b≠X.env.locals/\(∀x c,X.env.cells.lookup x=some c->c≠b)/\∀p∈X.pn++pins,p.1≠b)
  (keep:∀b o,b≠X.env.locals->b∉X.fs->b∉ch->s.heap.get? b=some o->H b=none->h'.get? b=some o)
  (slot:∀b o,b≠X.env.locals->b∈X.fs->b∉ch->s.heap.get? b=some o->H b=none->∃sl,h'.get? b=some { o with slots:=sl }) (free:∀b o,b∉ch->s.heap.get? b=some o->H b=none->H' b=none)
  (there:∀b o,b∉ch->s.heap.get? b=some o->∃o',h'.get? b=some o')
  (tups:∀b xs,H b=some (.tup xs)->H' b=some (.tup xs)) (frzs:∀b o u,H b=some (.frz o u)->H' b=some (.frz o u)) (tbls:∀b ps,H b=some (.tbl ps)->∃more,H' b=some (.tbl (ps++more)))
  (ns:∀m,s.heap.Ns X.env.locals m->h'.Ns X.env.locals m) (hok:HOk X.prog X.w H' h') (hg:qI6 g') :
  Inv X pins σ H' { s with heap:=h',gens:=g',drawn:=d',toks:=t' }:=by
 have neL:∀b o,X.s₀.heap.get? b=some o->b≠X.env.locals:=fun b o e=>qAu (qAc (qGy e) I.ok.above)
 have neC:∀b o,X.s₀.heap.get? b=some o->b∉X.ex->b∉ch:=fun b o e hx hb=>by
  rcases(hch b hb).1 with z|z
  ·exact hx z
  ·exact absurd (qAc (qGy e) z) (qBm _)
 have cellK:∀x c,X.env.cells.lookup x=some c->∀v,s.heap.IsCell c v->h'.IsCell c v:=fun x c e v ⟨o,ho,hd⟩=>by
  have nch:c∉ch:=fun z=>(hch c z).2.2.1 x c e rfl
  by_cases hc:c∈X.fs
  ·obtain⟨sl,q⟩:=slot c o (I.cne x c e) hc nch ho (I.freeC x c e);exact⟨_,q,hd⟩
  ·exact⟨o,keep c o (I.cne x c e) hc nch ho (I.freeC x c e),hd⟩
 refine⟨I.ok,I.os,hg,⟨fun b o e n hb hx=>?_,fun b o e n hb hx=>?_,fun b o e n hx=>?_,fun b o e hx=>?_,fun b xs e=>tups b xs (I.base.tups b xs e),fun b o xs e=>frzs b o xs (I.base.frzs b o xs e),fun b ps e=>?_⟩,?_,fun x c e=>?_,?_,fun x c e=>?_,fun p hp=>?_,hok,I.len⟩
 ·exact keep b o (neL b o e) hb (neC b o e hx) (I.base.keep b o e n hb hx) (I.base.free b o e n hx)
 ·obtain⟨sl,e1⟩:=I.base.slot b o e n hb hx;obtain⟨sl',e2⟩:=slot b _ (neL b o e) hb (neC b o e hx) e1 (I.base.free b o e n hx);exact⟨sl',e2⟩
 ·obtain⟨o',e1⟩:=I.base.there b o e hx;exact free b o' (neC b o e hx) e1 (I.base.free b o e n hx)
 ·obtain⟨o',e1⟩:=I.base.there b o e hx;exact there b o' (neC b o e hx) e1
 ·obtain⟨m1,e1⟩:=I.base.tbls b ps e;obtain⟨m2,e2⟩:=tbls b _ e1;exact⟨m1++m2,by rw[e2,Array.append_assoc]⟩
 ·obtain⟨m,hn,hl⟩:=I.loc;refine⟨m,ns m hn,fun i x v e1 e2 e3=>?_⟩;obtain⟨u,r,l⟩:=hl i x v e1 e2 e3;refine⟨u,r,?_⟩
  rcases l with l|⟨k,c,e,z⟩
  ·exact .inl l
  ·exact .inr ⟨k,c,e,cellK x c e _ z⟩
 ·obtain⟨v,z⟩:=I.cell x c e;exact⟨v,cellK x c e v z⟩
 ·obtain⟨m,⟨o,_,_,ho,_⟩,_⟩:=I.loc;exact free _ o (fun z=>(hch _ z).2.1 rfl) ho I.free
 ·obtain⟨v,o,ho,hd⟩:=I.cell x c e;exact free c o (fun z=>(hch c z).2.2.1 x c e rfl) ho (I.freeC x c e)
 ·obtain⟨e,n,ne,nf,d⟩:=I.pin p hp;have nch:p.1∉ch:=fun z=>(hch p.1 z).2.2.2 p hp rfl
  exact⟨keep p.1 p.2 ne nf nch e n,free p.1 p.2 nch e n,ne,nf,d⟩
theorem Inv.un{t':Nat}(I:Inv X pins σ H s)(u:Un X.fs [] H H' s.heap h')(hok:HOk X.prog X.w H' h'):Inv X pins σ H' { s with heap:=h',toks:=t' }:=by
 obtain⟨m,⟨o,es,ep,ho,r⟩,_⟩:=id I.loc;obtain⟨sl,hL⟩:=u.any ho I.free (by simp);exact I.step (g':=s.gens) (d':=s.drawn) (ch:=[]) (fun _ z=>nomatch z) (fun b o _ hb _ e n=>u.keep b o e n hb (by simp)) (fun b o _ hb _ e n=>u.slot b o e n hb (by simp)) (fun b o _ e n=>u.free b o e n (by simp)) (fun b o _ e=>u.there b o e (by simp)) u.tups u.frzs u.tbls (fun m' hm=>by
  obtain⟨o',es',ep',ho',r'⟩:=hm;rw[ho]at ho';cases ho';exact⟨_,es',ep',hL,r'⟩) hok I.bare
theorem Inv.call{g':Array qHv}{t':Nat}{d':Drawn}{ch:List Addr}(I:Inv X pins σ H s)(u:Un (frs X.stack) ch H H' s.heap h')(hok:HOk X.prog X.w H' h')(hg:qI6 g')
  (hch:∀b∈ch,(b∈X.ex\/X.s₀.heap.objs.size<=b)/\b≠X.env.locals/\(∀x c,X.env.cells.lookup x=some c->c≠b)/\∀p∈X.pn++pins,p.1≠b) :
  Inv X pins σ H' { s with heap:=h',gens:=g',drawn:=d',toks:=t' }:=by
 obtain⟨m,⟨o,es,ep,ho,r⟩,_⟩:=id I.loc;obtain⟨sl,hL⟩:=u.any ho I.free fun z=>(hch _ z).2.1 rfl
 exact I.step (ch:=ch) hch (fun b o hL hb hc e n=>u.keep b o e n (fun z=>(qAk.mp (I.stkSub b z)).elim hL hb) hc) (fun b o _ _ hc e n=>u.any e n hc) (fun b o hc e n=>u.free b o e n hc) (fun b o hc e=>u.there b o e hc) u.tups u.frzs u.tbls (fun m' hm=>by
  obtain⟨o',es',ep',ho',r'⟩:=hm;rw[ho]at ho';cases ho';exact⟨_,es',ep',hL,r'⟩) hok hg
theorem Inv.turned{t':Nat}{it:Addr}(I:Inv X pins σ H s)(k:∀b o,b≠it->s.heap.get? b=some o->h'.get? b=some o)(hn:H it=none)(hL:it≠X.env.locals)
  (h1:it∈X.ex\/X.s₀.heap.objs.size<=it) (h2:∀x c,X.env.cells.lookup x=some c->c≠it) (h3:∀p∈X.pn++pins,p.1≠it):Inv X pins σ H { s with heap:=h',toks:=t' }:=by
 have nit:∀b u,H b=some u->b≠it:=fun b u e z=>by rw[z,hn]at e;cases e
 refine I.step (g':=s.gens) (d':=s.drawn) (ch:=[it]) (fun b hb=>?_) (fun b o _ _ hc e _=>k b o (fun z=>hc (by simp[z])) e) (fun b o _ _ hc e _=>⟨o.slots,k b o (fun z=>hc (by simp[z])) e⟩) (fun _ _ _ _ n=>n)
  (fun b o hc e=>⟨o,k b o (fun z=>hc (by simp[z])) e⟩) (fun _ _ e=>e) (fun _ _ _ e=>e) (fun b ps e=>⟨#[],by rw[e];simp⟩) (fun m hm=>?_) (fun b u e=>?_) I.bare
 ·have e:b=it:=by simpa using hb
  subst e;exact⟨h1,hL,h2,h3⟩
 ·obtain⟨o,es,ep,ho,r⟩:=hm;exact⟨o,es,ep,k _ o (qD0 hL) ho,r⟩
 ·refine(I.hok b u e).stay (fun c v hc q=>k c v ?_ q) (fun _ q=>q) (fun _ _ q=>q) fun _ _ _ q _=>q
  rcases hc with z|z
  ·rw[z];exact nit b u e
  ·exact nit c _ z
theorem Inv.tok(I:Inv X pins σ H s)(t:Nat):Inv X pins σ H { s with toks:=t }:=I.un (h':=s.heap) (t':=t) Un.refl I.hok
theorem Inv.kept{t':Nat}(I:Inv X pins σ H s)(k:∀b u,s.heap.get? b=some u->h'.get? b=some u):Inv X pins σ H { s with heap:=h',toks:=t' }:=I.un (Un.kept k) (I.hok.kept k)
theorem Inv.laid{a:Addr}{o:HO}{t':Nat}(I:Inv X pins σ H s)(k:∀b u,s.heap.get? b=some u->h'.get? b=some u)(hp:s.heap.objs.size<=a)(new:ObjOk X.prog X.w (upd H a o) h' a o) :
  Inv X pins σ (upd H a o) { s with heap:=h',toks:=t' }:=I.un (Un.laid k hp (I.hok.fresh hp)) (I.hok.laid k hp new)
theorem Inv.write{x e:Addr}{o:HO}{t':Nat}(I:Inv X pins σ H s)(mu:Mut (H x))(he:e=x\/H e=some (.own x))(k:∀b u,b≠e->s.heap.get? b=some u->h'.get? b=some u)(heo:∃u,h'.get? e=some u)
  (new:ObjOk X.prog X.w (upd H x o) h' x o):Inv X pins σ (upd H x o) { s with heap:=h',toks:=t' }:=I.un (Un.write mu he k heo) (I.hok.write mu he k heo new)
theorem Inv.weak{σ':List (Option V)}(I:Inv X pins σ H s)(hl:σ'.length=σ.length)(w:∀(i:Nat) v,σ'[i]?=some (some v)->σ[i]?=some (some v)):Inv X pins σ' H s:=
 ⟨I.ok,I.os,I.bare,I.base,let⟨m,hn,hl'⟩:=I.loc;⟨m,hn,fun i x v e1 e2 e3=>hl' i x v e1 (w i v e2) e3⟩,I.cell,I.free,I.freeC,I.pin,I.hok,hl.trans I.len⟩
theorem Inv.pins_of{pins':List (Addr×Obj)}(I:Inv X pins σ H s)(h:∀p∈pins',s.heap.get? p.1=some p.2/\H p.1=none/\p.1≠X.env.locals/\p.1∉X.fs/\∀v,p.2.data≠.cell v):Inv X pins' σ H s:=
 ⟨I.ok,I.os,I.bare,I.base,I.loc,I.cell,I.free,I.freeC,fun p hp=>(qAn.mp hp).elim (fun z=>I.pin p (qB9 _ z)) (h p),I.hok,I.len⟩
theorem zLR{N:List Str}(hN:N.Nodup){i j:Nat}{x:Str}(a:N[i]?=some x)(b:N[j]?=some x):i=j:=by
 obtain⟨h1,e1⟩:=qA4.mp a;obtain⟨h2,e2⟩:=qA4.mp b;exact(List.getElem_inj hN).mp (e1.trans e2.symm)
theorem zIZ{M:Model}{A:qH1}{E:Value->qGw->Prop}{i:Nat}{x:Str}{v:V}{u:Value}{Q:Unit->qGw->Prop}(I:Inv X pins σ H s)(hN:X.N.Nodup)(hi:X.N[i]?=some x)(hx:Loc X.env.scope x)(r:RelV v u)
  (h:∀s',Inv X pins (σ.set i (some v)) H s'->(∃a,qIv a s.heap s'.heap/\(a=X.env.locals\/X.env.cells.lookup x=some a))->Q () s') (hf:X.fn x=true\/X.env.scope.names.lookup x=some .local:=by first|exact .inl rfl|exact .inr rfl|assumption):wpAny M A (storeName X.env x u) Q E s:=by
 obtain⟨m,hn,hl⟩:=id I.loc;have hcls:(X.env.scope.kind==.class||(X.env.scope.kind==.module&&X.env.locals != X.env.globals))=false:=by rw[I.ok.kind];rfl
 have hiσ:i<σ.length:=by rw[I.len];exact(qA4.mp hi).1
 have cne:=I.cne;have tracked:∀{a:Addr}{h':Heap},(∃o,s.heap.get? a=some o/\H a=none)->qIv a s.heap h'->HOk X.prog X.w H h':=fun{a h'} ha hs b ob e=>by
  obtain⟨_,_,hfree⟩:=ha;refine(I.hok b ob e).stay (fun c w' hc q=>(hs.2 c ?_).trans q) (fun _ q=>q) (fun _ _ q=>q) fun _ _ _ q _=>q
  rintro rfl
  rcases hc with rfl|hc
  ·rw[hfree]at e;cases e
  ·rw[hfree]at hc;cases hc
 rcases hx with hk|hk
 ·refine wpAny_storeName_local hk hn (fun h' hn' hs=>?_) hcls;obtain⟨oL,_,_,hoL,_⟩:=id hn;refine h _ ⟨I.ok,I.os,I.bare,⟨fun b o e n hb hx=>?_,fun b o e n hb hx=>?_,I.base.free,fun b o e hx=>?_,I.base.tups,I.base.frzs,I.base.tbls⟩,⟨_,hn',fun j y v' e1 e2 e3=>?_⟩,fun y c e=>?_,I.free,I.freeC,fun p hp=>?_,tracked ⟨oL,hoL,I.free⟩ hs,by simpa using I.len⟩ ⟨_,hs,.inl rfl⟩
  ·exact(hs.2 b (qAu (qAc (qGy e) I.ok.above))).trans (I.base.keep b o e n hb hx)
  ·obtain⟨sl,e1⟩:=I.base.slot b o e n hb hx;exact⟨sl,(hs.2 b (qAu (qAc (qGy e) I.ok.above))).trans e1⟩
  ·obtain⟨o',e1⟩:=I.base.there b o e hx;exact⟨o',(hs.2 b (qAu (qAc (qGy e) I.ok.above))).trans e1⟩
  ·by_cases hj:j=i
   ·subst hj;rw[hi]at e1;cases e1;rw[qAo hiσ]at e2;cases e2;exact⟨u,r,.inl ⟨hk,by simp⟩⟩
   ·rw[qAs (qD0 hj)]at e2;obtain⟨u',r',q⟩:=hl j y v' e1 e2 e3;refine⟨u',r',?_⟩
    rcases q with⟨k,e⟩|⟨k,c,e,z⟩
    ·refine .inl ⟨k,?_⟩
     have:y≠x:=fun e=>hj (zLR hN e1 (e▸hi))
     simp[this,e]
    ·exact .inr ⟨k,c,e,z.sameBut hs (cne y c e)⟩
  ·obtain⟨w',z⟩:=I.cell y c e;exact⟨w',z.sameBut hs (cne y c e)⟩
  ·obtain⟨e,n,ne,nf,d⟩:=I.pin p hp;exact⟨(hs.2 p.1 ne).trans e,n,ne,nf,d⟩
 ·have hfn:X.fn x=true:=by
   rcases hf with z|z
   ·exact z
   ·rw[z]at hk;cases hk
  obtain⟨c,hc⟩:=I.ok.has x (.inl hk);obtain⟨w',z⟩:=I.cell x c hc;refine wpAny_storeName_cell I.ok.kind hk hc z (fun h' hc' hs=>?_);obtain⟨oc,hoc,hocd⟩:=id z;refine h { s with heap:=h' } ⟨I.ok,I.os,I.bare,⟨fun b o e n hb hx=>?_,fun b o e n hb hx=>?_,I.base.free,fun b o e hx=>?_,I.base.tups,I.base.frzs,I.base.tbls⟩,⟨m,hn.sameBut hs (qD0 (cne x c hc)),fun j y v' e1 e2 e3=>?_⟩,fun y c' e=>?_,I.free,I.freeC,fun p hp=>?_,tracked ⟨oc,hoc,I.freeC x c hc⟩ hs,by simpa using I.len⟩ ⟨c,hs,.inr hc⟩
  ·exact(hs.2 b (qAu (qAc (qGy e) (I.ok.cab x c hfn hc)))).trans (I.base.keep b o e n hb hx)
  ·obtain⟨sl,e1⟩:=I.base.slot b o e n hb hx;exact⟨sl,(hs.2 b (qAu (qAc (qGy e) (I.ok.cab x c hfn hc)))).trans e1⟩
  ·obtain⟨o',e1⟩:=I.base.there b o e hx;exact⟨o',(hs.2 b (qAu (qAc (qGy e) (I.ok.cab x c hfn hc)))).trans e1⟩
  ·by_cases hj:j=i
   ·subst hj;rw[hi]at e1;cases e1;rw[qAo hiσ]at e2;cases e2;exact⟨u,r,.inr ⟨.inl hk,c,hc,hc'⟩⟩
   ·rw[qAs (qD0 hj)]at e2;obtain⟨u',r',q⟩:=hl j y v' e1 e2 e3;refine⟨u',r',?_⟩
    rcases q with q|⟨k,c',e,z'⟩
    ·exact .inl q
    ·refine .inr ⟨k,c',e,z'.sameBut hs ?_⟩
     rintro rfl
     exact hj (zLR hN e1 (I.ok.inj _ _ _ e hc▸hi))
  ·by_cases hcc:c'=c
   ·subst hcc;exact⟨_,hc'⟩
   ·obtain⟨w2,z2⟩:=I.cell y c' e;exact⟨w2,z2.sameBut hs hcc⟩
  ·obtain⟨e,n,ne,nf,d⟩:=I.pin p hp;refine⟨(hs.2 p.1 ?_).trans e,n,ne,nf,d⟩;intro q;rw[q,hoc]at e;have q':oc=p.2:=qB3 e;exact d w' (by rw[<- q'];exact hocd)
theorem zLE{M:Model}{A:qH1}{E:Value->qGw->Prop}{i:Nat}{x:Str}{v:V}{u:Value}{Q:Unit->qGw->Prop}(I:Inv X pins σ H s)(hN:X.N.Nodup)(hi:X.N[i]?=some x)(hx:Loc X.env.scope x)(r:RelV v u)
  (h:∀s',Inv X pins (σ.set i (some v)) H s'->Q () s') (hf:X.fn x=true\/X.env.scope.names.lookup x=some .local:=by first|exact .inl rfl|exact .inr rfl|assumption):wpAny M A (storeName X.env x u) Q E s:=
 zIZ I hN hi hx r (fun s' I' _=>h s' I') hf
theorem Inv.call'{s':qGw}{ch:List Addr}(I:Inv X pins σ H s)(ho:s'.os=s.os)(u:Un (frs X.stack) ch H H' s.heap s'.heap)(hok:HOk X.prog X.w H' s'.heap)(hg:qI6 s'.gens)
  (hch:∀b∈ch,(b∈X.ex\/X.s₀.heap.objs.size<=b)/\b≠X.env.locals/\(∀x c,X.env.cells.lookup x=some c->c≠b)/\∀p∈X.pn++pins,p.1≠b):Inv X pins σ H' s':=by
 obtain⟨h',g',d',t',o'⟩:=s';have e:o'=s.os:=ho;subst e;exact I.call (g':=g') (t':=t') (d':=d') u hok hg hch
end
abbrev XK:=Value->Option Addr->Hp->Prop
abbrev St:=List (Option V)
abbrev VK:=V->Hp->Prop
abbrev TE:=St->Hp->VK->Prop
abbrev TT:=St->Hp->(Bool->Hp->Prop)->Prop
abbrev TA:=St->Hp->(List V->Hp->Prop)->Prop
structure Ends where
 nx:St->Hp->Prop
 rt:VK
 bk:St->Hp->Prop:=fun _ _=>False
 ct:St->Hp->Prop:=fun _ _=>False
abbrev TS:=Ends->St->Hp->Prop
def EP(X:Cx)(pins:List (Addr×Obj))(σ:St)(Q:VK)(u:Value)(s':qGw):Prop:=∃v H',Inv X pins σ H' s'/\RelV v u/\Q v H'
def TP(X:Cx)(pins:List (Addr×Obj))(σ:St)(Q:Bool->Hp->Prop)(b:Bool)(s':qGw):Prop:=∃H',Inv X pins σ H' s'/\Q b H'
def AP(X:Cx)(pins:List (Addr×Obj))(σ:St)(Q:List V->Hp->Prop)(us:List Value)(s':qGw):Prop:=∃vs H',Inv X pins σ H' s'/\Vals vs us/\Q vs H'
def SP(X:Cx)(pins:List (Addr×Obj))(D:Ends)(f:Flow)(s':qGw):Prop:=
 match f with
 |.next=>∃σ' H',Inv X pins σ' H' s'/\D.nx σ' H'
 |.brk=>∃σ' H',Inv X pins σ' H' s'/\D.bk σ' H'
 |.cont=>∃σ' H',Inv X pins σ' H' s'/\D.ct σ' H'
 |.ret u=>∃v σ' H',Inv X pins σ' H' s'/\RelV v u/\D.rt v H'
def PE(X:Cx)(e:Expr)(t:TE):Prop:=
 ∀(pins:List (Addr×Obj))(s:qGw)(σ:St)(H:Hp)(Q:VK),Inv X pins σ H s->t σ H Q->wpAny (model X.prog X.w) X.A (eval e X.env) (EP X pins σ Q) X.xe s
def PT(X:Cx)(e:Expr)(t:TT):Prop:=
 ∀(pins:List (Addr×Obj))(s:qGw)(σ:St)(H:Hp)(Q:Bool->Hp->Prop),Inv X pins σ H s->t σ H Q->wpAny (model X.prog X.w) X.A (isTrue e X.env (eval e X.env)) (TP X pins σ Q) X.xe s
def PW(X:Cx)(e:Expr)(t:TT):Prop:=
 ∀(whole:Sem Value)(pins:List (Addr×Obj))(s:qGw)(σ:St)(H:Hp)(Q:Bool->Hp->Prop),Inv X pins σ H s->t σ H Q->wpAny (model X.prog X.w) X.A (isTrue e X.env whole) (TP X pins σ Q) X.xe s
theorem PW.pt{X:Cx}{e:Expr}{t:TT}(h:PW X e t):PT X e t:=h _
def PA(X:Cx)(es:List Expr)(t:TA):Prop:=
 ∀(pos:Pos)(pins:List (Addr×Obj))(s:qGw)(σ:St)(H:Hp)(Q:List V->Hp->Prop),Inv X pins σ H s->t σ H Q->wpAny (model X.prog X.w) X.A (spliced (backTo pos (starEach es X.env))) (AP X pins σ Q) X.xe s
def PS(X:Cx)(st:Stmt)(t:TS):Prop:=
 ∀(pins:List (Addr×Obj))(s:qGw)(σ:St)(H:Hp)(D:Ends),Inv X pins σ H s->t D σ H->wpAny (model X.prog X.w) X.A (exec st X.env) (SP X pins D) X.xe s
def PSs(X:Cx)(st:List Stmt)(t:TS):Prop:=
 ∀(pins:List (Addr×Obj))(s:qGw)(σ:St)(H:Hp)(D:Ends),Inv X pins σ H s->t D σ H->wpAny (model X.prog X.w) X.A (execs st X.env) (SP X pins D) X.xe s
theorem thn{α:Type}{t:Sem α}{Q Q':α->qGw->Prop}{M:Model}{A:qH1}{E:Value->qGw->Prop}{s:qGw}(h:wpAny M A t Q E s)(hQ:∀a s,Q a s->Q' a s):wpAny M A t Q' E s:=wpAny_mono h hQ fun _ _ x=>x
section
variable{X:Cx}
noncomputable def tVar(i:Nat):TE:=fun σ H Q=>∃v,σ[i]?=some (some v)/\Q v H
noncomputable def tC(v:V):TE:=fun _ H Q=>Q v H
theorem zVP{i:Nat}{x:Str}{pos:Pos}(hN:X.N[i]?=some x)(hv:Vis X.env.scope x)(hd:(x==("__debug__":Str))=false:=by decide)(hcd:(x==("__classdict__":Str))=false:=by decide):PE X (.Name x pos) (tVar i):=by
 intro pins s σ H Q I h;obtain⟨v,e,h⟩:=h;obtain⟨m,hn,hl⟩:=I.loc;obtain⟨u,r,l⟩:=hl i x v hN e hv;have fin:EP X pins σ Q u s:=⟨v,H,I,r,h⟩
 rcases l with⟨hk,hm⟩|⟨hk,c,hc,hcell⟩
 ·exact qJj (wpAny_loadName_local I.ok.kind hk hn hm fin) hd
 ·rcases hk with hk|hk
  ·exact qJj (wpAny_loadName_cell I.ok.kind hk hc hcell fin) hd
  ·exact qJj (wpAny_loadName_free I.ok.kind hk hc hcell fin hcd) hd
theorem zAC{i j pos}:PE X (.Constant (.int i) j pos) (tC (.int i)):=fun _ _ _ H _ I h=>wpAny_Constant_int ⟨.int i,H,I.tok _,⟨_,rfl⟩,h⟩
theorem zME{b j pos}:PE X (.Constant (.bool b) j pos) (tC (.bl b)):=fun _ _ _ H _ I h=>Constant_bool ⟨.bl b,H,I,rfl,h⟩
theorem zVQ{x j pos}:PE X (.Constant (.str x) j pos) (tC (.str x)):=fun _ _ _ H _ I h=>Calls.Constant_str ⟨.str x,H,I.tok _,⟨_,rfl⟩,h⟩
def Gl(X:Cx)(x:Str):Prop:=X.env.kindOf x=some .globalImplicit
theorem zKM{E:Value->qGw->Prop}{pins:List (Addr×Obj)}{s:qGw}{σ:St}{H:Hp}{x:Str}{u:Value}{pos:Pos}{Q:Value->qGw->Prop}(I:Inv X pins σ H s)(hg:Gl X x)(hm:X.mg x=some u)(h:Q u s)
  (hd:(x==("__debug__":Str))=false:=by decide):wpAny (model X.prog X.w) X.A (eval (.Name x pos) X.env) Q E s:=
 qI1 I.ok.kind hg (Calls.loadGlobal_global (by rw[I.ok.glob];exact I.mod.glob.keeps I.bk) hm h) hd
theorem zGB{E:Value->qGw->Prop}{pins:List (Addr×Obj)}{s:qGw}{σ:St}{H:Hp}{x:Str}{u:Value}{pos:Pos}{Q:Value->qGw->Prop}(I:Inv X pins σ H s)(hg:Gl X x)(hm:X.mg x=none)(hv:qHx x=some u)(h:Q u s)
  (hn:x ≠ "__name__":=by decide) (hd:(x==("__debug__":Str))=false:=by decide):wpAny (model X.prog X.w) X.A (eval (.Name x pos) X.env) Q E s:=by
 obtain⟨mb,h1,h2⟩:=I.mod.blt;exact qI1 I.ok.kind hg (Calls.loadGlobal_builtin (by rw[I.ok.glob];exact I.mod.glob.keeps I.bk) hm (by rw[I.ok.blt];exact h1.keeps I.bk) ((h2 x hn).trans hv) h) hd
theorem zKG{x:Str}{v:V}{u:Value}{pos:Pos}(hg:Gl X x)(hm:X.mg x=some u)(r:RelV v u)(hd:(x==("__debug__":Str))=false:=by decide):PE X (.Name x pos) (tC v):=
 fun _ _ _ H _ I h=>zKM I hg hm ⟨v,H,I,r,h⟩ hd
theorem zO0{x:Str}{v:V}{u:Value}{pos:Pos}(hg:Gl X x)(hm:X.mg x=none)(hv:qHx x=some u)(r:RelV v u)(hn:x ≠ "__name__":=by decide)(hd:(x==("__debug__":Str))=false:=by decide):PE X (.Name x pos) (tC v):=
 fun _ _ _ H _ I h=>zGB I hg hm hv ⟨v,H,I,r,h⟩ hn hd
variable{a b:Expr}{ta tb:TE}{pos:Pos}
noncomputable def tB(t:TE):TT:=fun σ H Q=>t σ H fun x H1=>∃c,x=.bl c/\Q c H1
variable{tA tB':TT}{rest:List Expr}
noncomputable def tAnd(t u:TT):TT:=fun σ H Q=>t σ H fun c H1=>if c=true then u σ H1 Q else Q false H1
noncomputable def tOr(t u:TT):TT:=fun σ H Q=>t σ H fun c H1=>if c=true then Q true H1 else u σ H1 Q
noncomputable def tNot(t:TT):TT:=fun σ H Q=>t σ H fun c H1=>Q (!c) H1
theorem zT1(ha:PT X a tA):PW X (.BoolOp .And [a] pos) tA:=by
 intro wh pins s σ H Q I h;refine isTrue_and (thn (ha pins s σ H Q I h) fun c s1 e=>?_);cases c with
 |true=>exact isTrue_and_nil e
 |false=>exact e
theorem zLM(ha:PT X a tA):PW X (.BoolOp .Or [a] pos) tA:=by
 intro wh pins s σ H Q I h;refine isTrue_or (thn (ha pins s σ H Q I h) fun c s1 e=>?_);cases c with
 |false=>exact isTrue_or_nil e
 |true=>exact e
theorem zVK(ha:PT X a tA)(hb:PW X (.BoolOp .And (b::rest) pos) tB'):PW X (.BoolOp .And (a::b::rest) pos) (tAnd tA tB'):=by
 intro wh pins s σ H Q I h;refine isTrue_and (thn (ha pins s σ H _ I h) fun c s1 z0=>?_);obtain⟨H1,I1,q1⟩:=z0;cases c with
 |true=>exact hb wh pins s1 σ H1 Q I1 q1
 |false=>exact⟨H1,I1,q1⟩
theorem zQC(ha:PT X a tA)(hb:PW X (.BoolOp .Or (b::rest) pos) tB'):PW X (.BoolOp .Or (a::b::rest) pos) (tOr tA tB'):=by
 intro wh pins s σ H Q I h;refine isTrue_or (thn (ha pins s σ H _ I h) fun c s1 z0=>?_);obtain⟨H1,I1,q1⟩:=z0;cases c with
 |true=>exact⟨H1,I1,q1⟩
 |false=>exact hb wh pins s1 σ H1 Q I1 q1
theorem zNP(ha:PT X a tA):PT X (.UnaryOp .Not a pos) (tNot tA):=by
 intro pins s σ H Q I h;exact isTrue_not (ha pins s σ H (fun c H1=>Q (!c) H1) I h)
theorem zRQ{op}{t:TE}(h:PE X a t):PE X (.BoolOp op [a] pos) t:=fun pins s σ H Q I hw=>BoolOp_one (h pins s σ H Q I hw)
noncomputable def tIf(t:TT)(ta tb:TE):TE:=fun σ H Q=>t σ H fun c H1=>if c=true then ta σ H1 Q else tb σ H1 Q
theorem zQE{c:Expr}(hc:PT X c tA)(ha:PE X a ta)(hb:PE X b tb):PE X (.IfExp c a b pos) (tIf tA ta tb):=by
 intro pins s σ H Q I h;refine wpAny_IfExp (thn (hc pins s σ H _ I h) fun d s1 z0=>?_);obtain⟨H1,I1,q1⟩:=z0;cases d with
 |true=>exact ha pins s1 σ H1 Q I1 q1
 |false=>exact hb pins s1 σ H1 Q I1 q1
end
def SqL(K:qA1)(H:Hp)(a:Addr)(xs:List V):Prop:=
 Rd H a (.lst xs) \/
  ∃(o:Obj)(its:Array Value)(n:Nat),K.lookup a=some o/\o.cls=.type "list" /\ o.dict=none/\o.data=.seq its n/\its.size<=sizeLine/\Vals xs its.toList
def SqT(K:qA1)(H:Hp)(a:Addr)(xs:List V):Prop:=
 Rd H a (.tup xs) \/
  ∃(o:Obj)(its:Array Value)(n:Nat),K.lookup a=some o/\o.cls=.type "tuple" /\ o.data=.seq its n/\its.size<=sizeLine/\Vals xs its.toList
noncomputable def absV:Value->Option V
 |.none=>some .non
 |.bool b=>some (.bl b)
 |.int i _=>some (.int i)
 |.str x _=>some (.str x)
 |.bytes b _=>some (.byt b)
 |.float b _=>some (.flt b)
 |.ref a=>some (.ref a)
 |.type n=>some (.ty n)
 |_=>none
theorem RelV.abs{x:V}{u:Value}(r:RelV x u):absV u=some x:=by
 cases x with
 |non=>cases r;rfl
 |bl _=>cases r;rfl
 |int _=>obtain⟨t,rfl⟩:=r;rfl
 |str _=>obtain⟨t,rfl⟩:=r;rfl
 |byt _=>obtain⟨t,rfl⟩:=r;rfl
 |flt _=>obtain⟨t,rfl⟩:=r;rfl
 |ref _=>cases r;rfl
 |ty _=>cases r;rfl
theorem RelV.inj{x y:V}{u:Value}(r:RelV x u)(q:RelV y u):x=y:=qB3 (r.abs.symm.trans q.abs)
theorem Vals.inj:∀{xs ys:List V}{us:List Value},Vals xs us->Vals ys us->xs=ys
 |_,_,_,.nil,.nil=>rfl
 |_,_,_,.cons r t,.cons r' t'=>by rw[r.inj r',Vals.inj t t']
section
variable{X:Cx}{pins:List (Addr×Obj)}{σ:St}{H:Hp}{s:qGw}{a:Addr}{xs ys:List V}
theorem SqL.of{K:qA1}(h:H a=some (.lst xs)):SqL K H a xs:=.inl (.inl h)
theorem SqT.of{K:qA1}(h:H a=some (.tup xs)):SqT K H a xs:=.inl (.inl h)
theorem Inv.list(I:Inv X pins σ H s)(h:SqL X.K H a xs):∃its:List Value,Vals xs its/\PlainL s.heap a its.toArray/\xs.length<=sizeLine:=by
 rcases h with h|⟨o,its,n,hk,hc,hd,hs,hz,r⟩
 ·obtain⟨z,its,n,r,e⟩:=h.ok I.hok;exact⟨its,r,⟨_,n,e,rfl,rfl,rfl⟩,z⟩
 ·refine⟨its.toList,r,⟨o,n,I.kIn a o hk,hc,hd,by simpa using hs⟩,?_⟩;have e:=r.length;simp only[qD1]at e;omega
theorem Inv.tuple(I:Inv X pins σ H s)(h:SqT X.K H a xs):∃its:List Value,Vals xs its/\IsTup s.heap a its.toArray/\xs.length<=sizeLine:=by
 rcases h with h|⟨o,its,n,hk,hc,hs,hz,r⟩
 ·obtain⟨z,its,r,p⟩:=h.ok I.hok;exact⟨its,r,p,z⟩
 ·refine⟨its.toList,r,⟨o,I.kIn a o hk,hc,n,by simpa using hs⟩,?_⟩;have e:=r.length;simp only[qD1]at e;omega
theorem Inv.list_inj(I:Inv X pins σ H s)(h:SqL X.K H a xs)(h':SqL X.K H a ys):xs=ys:=by
 obtain⟨its,r,⟨o,n,e,_,_,d⟩,_⟩:=I.list h;obtain⟨its',r',⟨o',n',e',_,_,d'⟩,_⟩:=I.list h';rw[e]at e';cases e';rw[d]at d'
 injection d' with d1 _
 have:its=its':=by simpa using congrArg qGi d1
 subst this;exact r.inj r'
theorem Inv.tuple_inj(I:Inv X pins σ H s)(h:SqT X.K H a xs)(h':SqT X.K H a ys):xs=ys:=by
 obtain⟨its,r,⟨o,e,_,n,d⟩,_⟩:=I.tuple h;obtain⟨its',r',⟨o',e',_,n',d'⟩,_⟩:=I.tuple h';rw[e]at e';cases e';rw[d]at d'
 injection d' with d1 _
 have:its=its':=by simpa using congrArg qGi d1
 subst this;exact r.inj r'
end
abbrev Cx.wish(X:Cx)(E:Value->qGw->Prop):Cx:={ X with xe:=E }
abbrev Cx.nox(X:Cx):Cx:=X.wish fun _ _=>False
theorem Cx.Ok.wish{X:Cx}(ok:X.Ok)(E:Value->qGw->Prop):(X.wish E).Ok:=
 ⟨ok.mod,ok.kind,ok.glob,ok.blt,ok.above,ok.inj,ok.has,ok.cab,ok.hd,ok.frames,ok.stk,ok.exf,ok.bs,ok.bsz,ok.noex,ok.exfs,ok.funs,ok.frf⟩
theorem Cx.Ok.unwish{X:Cx}{E:Value->qGw->Prop}(ok:(X.wish E).Ok):X.Ok:=
 ⟨ok.mod,ok.kind,ok.glob,ok.blt,ok.above,ok.inj,ok.has,ok.cab,ok.hd,ok.frames,ok.stk,ok.exf,ok.bs,ok.bsz,ok.noex,ok.exfs,ok.funs,ok.frf⟩
section
variable{X:Cx}{pins:List (Addr×Obj)}{σ:St}{H:Hp}{s:qGw}{E:Value->qGw->Prop}
theorem Inv.wish(I:Inv X pins σ H s)(E:Value->qGw->Prop):Inv (X.wish E) pins σ H s:=⟨I.ok.wish E,I.os,I.bare,I.base,I.loc,I.cell,I.free,I.freeC,I.pin,I.hok,I.len⟩
theorem Inv.unwish(I:Inv (X.wish E) pins σ H s):Inv X pins σ H s:=⟨I.ok.unwish,I.os,I.bare,I.base,I.loc,I.cell,I.free,I.freeC,I.pin,I.hok,I.len⟩
theorem SP.unwish{D:Ends}{f:Flow}{s':qGw}(h:SP (X.wish E) pins D f s'):SP X pins D f s':=by
 cases f with
 |next=>obtain⟨σ',H',I,q⟩:=h;exact⟨σ',H',I.unwish,q⟩
 |brk=>obtain⟨σ',H',I,q⟩:=h;exact⟨σ',H',I.unwish,q⟩
 |cont=>obtain⟨σ',H',I,q⟩:=h;exact⟨σ',H',I.unwish,q⟩
 |ret u=>obtain⟨v,σ',H',I,r,q⟩:=h;exact⟨v,σ',H',I.unwish,r,q⟩
theorem PSs.nox{st:List Stmt}{t:TS}(h:PSs X.nox st t):PSs X st t:=fun pins s σ H D I hw=>
 wpAny_mono (h pins s σ H D (I.wish _) hw) (fun _ _ q=>q.unwish) fun _ _ z=>qA5 z
end
section
variable{X:Cx}{st:Stmt}{rest:List Stmt}{t u:TS}{e:Expr}{te:TE}{pos:Pos}
noncomputable def zUW:TS:=fun D σ H=>D.nx σ H
noncomputable def tSeq(t u:TS):TS:=fun D σ H=>t { D with nx:=u D } σ H
theorem zC5:PSs X [] zUW:=fun _ _ σ H _ I h=>qIc ⟨σ,H,I,h⟩
theorem zA5(h1:PS X st t)(h2:PSs X rest u):PSs X (st::rest) (tSeq t u):=by
 intro pins s σ H D I h;refine wpAny_execs_cons (thn (h1 pins s σ H { D with nx:=u D } I h) fun f s1 q=>?_);cases f with
 |next=>
  obtain⟨σ',H',I',q⟩:=q;exact h2 pins s1 σ' H' D I' q
 |ret v=>exact q
 |brk=>exact q
 |cont=>exact q
theorem zAD(h1:PS X st t):PSs X [st] t:=by
 intro pins s σ H D I h;refine wpAny_execs_cons (thn (h1 pins s σ H D I h) fun f s1 q=>?_);cases f with
 |next=>exact qIc q
 |ret v=>exact q
 |brk=>exact q
 |cont=>exact q
theorem Inv.quiet{pins:List (Addr×Obj)}{σ:St}{H:Hp}{s:qGw}(I:Inv X pins σ H s):interactive X.env=false:=by simp[interactive,I.ok.kind]
noncomputable def zK9(te:TE):TS:=fun D σ H=>te σ H fun _ H1=>D.nx σ H1
theorem zHO(he:PE X e te)(hs:qJ5 e none pos.line X.env=pure false:=by rfl):PS X (.Expr e pos) (zK9 te):=by
 intro pins s σ H D I h;exact wpAny_Expr_any (thn (he pins s σ H _ I h) fun v s1 ⟨x,H1,I1,r1,q1⟩=>⟨σ,H1,I1,q1⟩) I.quiet hs
noncomputable def tRet(te:TE):TS:=fun D σ H=>te σ H D.rt
theorem zB0(he:PE X e te):PS X (.Return (some e) pos) (tRet te):=by
 intro pins s σ H D I h;exact wpAny_Return_some (thn (he pins s σ H _ I h) fun v s1 ⟨x,H1,I1,r1,q1⟩=>⟨x,σ,H1,I1,r1,q1⟩)
noncomputable def tIfS(c:TT)(t u:TS):TS:=fun D σ H=>c σ H fun b H1=>if b=true then t D σ H1 else u D σ H1
theorem zF0{c:Expr}{a b:List Stmt}{tc:TT}(hc:PT X c tc)(ha:PSs X a t)(hb:PSs X b u):PS X (.If c a b pos) (tIfS tc t u):=by
 intro pins s σ H D I h;refine wpAny_If (thn (hc pins s σ H _ I h) fun d s1 z0=>?_);obtain⟨H1,I1,q1⟩:=z0;cases d with
 |true=>exact ha pins s1 σ H1 D I1 q1
 |false=>exact hb pins s1 σ H1 D I1 q1
end
abbrev TG:=V->St->Hp->(St->Hp->Prop)->Prop
abbrev TGs:=List V->St->Hp->(St->Hp->Prop)->Prop
def PG(X:Cx)(target:Expr)(t:TG):Prop:=
 ∀(pins:List (Addr×Obj))(s:qGw)(σ:St)(H:Hp)(v:V)(u:Value)(Q:St->Hp->Prop),Inv X pins σ H s->RelV v u->t v σ H Q ->
  wpAny (model X.prog X.w) X.A (assign target X.env u) (fun _ s'=>∃σ' H',Inv X pins σ' H' s'/\Q σ' H') X.xe s
def PGs(X:Cx)(ts:List Expr)(t:TGs):Prop:=
 ∀(pins:List (Addr×Obj))(s:qGw)(σ:St)(H:Hp)(vs:List V)(us:List Value)(Q:St->Hp->Prop),Inv X pins σ H s->Vals vs us->t vs σ H Q ->
  wpAny (model X.prog X.w) X.A (assignInOrder ((assignEach ts X.env).map (·.2)) us) (fun _ s'=>∃σ' H',Inv X pins σ' H' s'/\Q σ' H') X.xe s
abbrev TSet:=V->V->V->Hp->(Hp->Prop)->Prop
def PSet(X:Cx)(t:TSet):Prop:=
 ∀(pins:List (Addr×Obj))(s:qGw)(σ:St)(H:Hp)(o i v:V)(ov iv u:Value)(Q:Hp->Prop),Inv X pins σ H s->RelV o ov->RelV i iv->RelV v u->t o i v H Q ->
  wpAny (model X.prog X.w) X.A (setItem ov iv u) (fun _ s'=>∃H',Inv X pins σ H' s'/\Q H') X.xe s
section
variable{X:Cx}{pos:Pos}
noncomputable def zF4(i:Nat):TG:=fun v σ H Q=>Q (σ.set i (some v)) H
theorem zB1{i:Nat}{x:Str}(hN:X.N.Nodup)(hi:X.N[i]?=some x)(hx:Loc X.env.scope x)(hf:X.fn x=true\/X.env.scope.names.lookup x=some .local:=by first|exact .inl rfl|exact .inr rfl|assumption):PG X (.Name x pos) (zF4 i):=by
 intro pins s σ H v u Q I r h;exact qIq (zLE I hN hi hx r (fun s' I'=>⟨_,H,I',h⟩) hf)
noncomputable def gNil:TGs:=fun vs σ H Q=>vs=[]/\Q σ H
noncomputable def zWQ(t:TG)(u:TGs):TGs:=fun vs σ H Q=>∃v r,vs=v::r/\t v σ H fun σ' H'=>u r σ' H' Q
theorem zHR:PGs X [] gNil:=by
 intro pins s σ H vs us Q I r h;obtain⟨e,h⟩:=h;subst e;cases r;exact assignInOrder_nil ⟨σ,H,I,h⟩
theorem zCW{e:Expr}{es:List Expr}{t:TG}{u:TGs}(h1:PG X e t)(h2:PGs X es u)
  (hs:(assignEach (e::es) X.env).map (·.2)=assign e X.env::(assignEach es X.env).map (·.2):=by rfl):PGs X (e::es) (zWQ t u):=by
 intro pins s σ H vs us Q I r h;obtain⟨v,vr,e1,h⟩:=h;subst e1;cases r with
 |cons r rr=>
  rw[hs];refine assignInOrder_cons (thn (h1 pins s σ H _ _ _ I r h) fun _ s1 z0=>?_);obtain⟨σ1,H1,I1,q1⟩:=z0;exact h2 pins s1 σ1 H1 _ _ Q I1 rr q1
noncomputable def gTup(K:qA1)(n:Nat)(t:TGs):TG:=fun v σ H Q=>∃a xs,v=.ref a/\SqT K H a xs/\xs.length=n/\t xs σ H Q
theorem zVO{es:List Expr}{k:Nat}{t:TGs}{n:Nat}(hc:X.calm=true)(h:PGs X es t)
  (hn:(assignEach es X.env).length=n:=by rfl) (hst:(assignEach es X.env).findIdx? (·.1)=none:=by rfl):PG X (.Tuple es k pos) (gTup X.K n t):=by
 intro pins s σ H v u Q I r hw;obtain⟨a,xs,e1,hq,hl,hw⟩:=hw;subst e1;cases r;obtain⟨its,rv,ht,hz⟩:=I.tuple hq;refine assign_Tuple_tuple (I.ok.hd hc) ht (by simp[hn,<- hl,rv.length]) hst fun h' hx=>?_
 have I1:Inv X pins σ H { s with heap:=h' }:=I.kept (t':=s.toks) fun b o e=>hx b o (qAu (qGy e)) e
 exact h pins _ σ H xs _ Q I1 (by simpa using rv) hw
noncomputable def gSub(to ti:TE)(t:TSet):TG:=fun v σ H Q=>to σ H fun o H1=>ti σ H1 fun i H2=>t o i v H2 fun H3=>Q σ H3
theorem zG2{o i:Expr}{to ti:TE}{t:TSet}(ho:PE X o to)(hi:PE X i ti)(hs:PSet X t)
  (ha:∀v,assign (.Subscript o i pos) X.env v=(do
   let ov <- holding [v] (eval o X.env)
   let iv <- holding [v,ov] (eval i X.env)
   standAt pos
   holding [v,ov,iv] (setItem ov iv v)
   release [v,ov,iv] []):=by intro _;rfl):PG X (.Subscript o i pos) (gSub to ti t):=by
 intro pins s σ H v u Q I r h;rw[ha];refine wpAny_bind (wpAny_holding (thn (ho pins s σ H _ I h) fun ov s1 z0=>?_));obtain⟨x,H1,I1,r1,q1⟩:=z0;refine wpAny_bind (wpAny_holding (thn (hi pins s1 σ H1 _ I1 q1) fun iv s2 z0=>?_));obtain⟨y,H2,I2,r2,q2⟩:=z0;refine wpAny_bind (wpAny_standAt (wpAny_bind (wpAny_holding (thn (hs pins s2 σ H2 x y v ov iv u _ I2 r1 r2 r q2) fun _ s3 z0=>?_))));obtain⟨H3,I3,q3⟩:=z0;exact wpAny_release ⟨σ,H3,I3,q3⟩
noncomputable def tAsg(te:TE)(g:TG):TS:=fun D σ H=>te σ H fun x H1=>g x σ H1 D.nx
theorem zG0{tg e:Expr}{te:TE}{g:TG}(he:PE X e te)(hg:PG X tg g)(hs:swapsWithSole [tg] e pos.line X.env=pure false:=by rfl)(hw:swappedStores [tg] e X.env=pure none:=by rfl)
  (h1:(assignEach [tg] X.env).map (·.2)=[assign tg X.env]:=by rfl):PS X (.Assign [tg] e pos) (tAsg te g):=by
 intro pins s σ H D I h;refine wpAny_Assign_stores (thn (he pins s σ H _ I h) fun v s1 z0=>?_) hs hw;obtain⟨x,H1,I1,r1,q1⟩:=z0;rw[h1];exact thn (hg pins s1 σ H1 x v _ I1 r1 q1) fun _ s2 q=>q
theorem zRO{i:Nat}{x:Str}{e:Expr}{te:TE}{pos':Pos}(hN:X.N.Nodup)(hi:X.N[i]?=some x)(hx:Loc X.env.scope x)(he:PE X e te)(hs:qJ5 e (some (.Name x pos')) pos.line X.env=pure false:=by rfl)(hf:X.fn x=true\/X.env.scope.names.lookup x=some .local:=by first|exact .inl rfl|exact .inr rfl|assumption) :
  PS X (.Assign [.Name x pos'] e pos) (tAsg te (zF4 i)):=by
 intro pins s σ H D I h;refine wpAny_Assign_Name (thn (he pins s σ H _ I h) fun v s1 z0=>?_) hs;obtain⟨y,H1,I1,r1,q1⟩:=z0;exact zLE I1 hN hi hx r1 (fun s2 I2=>⟨_,H1,I2,q1⟩) hf
end
structure It where
 go:Nat->Hp->Prop
 yld:Nat->Hp->V->Hp->Prop
 stop:Nat->Hp->Prop
def FpOk(X:Cx)(pins:List (Addr×Obj))(H:Hp)(b:Addr):Prop:=
 H b=none/\b≠X.env.locals/\b∉X.fs/\(b∈X.ex\/X.s₀.heap.objs.size<=b)/\(∀x c,X.env.cells.lookup x=some c->c≠b)/\∀p∈X.pn++pins,p.1≠b
theorem Inv.fpOk{X:Cx}{pins:List (Addr×Obj)}{σ:St}{H H':Hp}{s:qGw}{b:Addr}(I:Inv X pins σ H s)(hb:s.heap.objs.size<=b)(hn:H' b=none):FpOk X pins H' b:=by
 refine⟨hn,qBn (qAc I.lt hb),I.nofs hb,.inr (qAj I.sz hb),fun x c e z=>?_,fun p hp z=>?_⟩
 ·obtain⟨v,q⟩:=I.cell x c e;exact absurd (qAc q.lt (by rw[z];exact hb)) (qBm _)
 ·exact absurd (qAc (qGy (I.pin p hp).1) (by rw[z];exact hb)) (qBm _)
structure Turn(P:qGz)(w:World)(K:qA1)(tg:Expr)(J:It)(fp:List Addr)(it:Addr)(tn:Nat->Heap->Prop):Prop where
 mem:it∈fp
 obj:∀i h,tn i h->∀b∈fp,∃o,h.get? b=some o/\∀v,o.data≠.cell v
 keep:∀i h h',tn i h->(∀b∈fp,∀o,h.get? b=some o->h'.get? b=some o)->tn i h'
 item:∀(X:Cx),X.prog=P->X.w=w->X.K=K->X.calm=true->∀(i:Nat)(pins:List (Addr×Obj))(s:qGw)(σ:St)(H:Hp)(E:Value->qGw->Prop),Inv X pins σ H s->(∀b∈fp,FpOk X pins H b)->tn i s.heap->J.go i H ->
  wpAny (model P w) X.A (pyNext (.ref it)) (fun r s1=>∃u,r=some u /\
   wpAny (model P w) X.A (letOwnedTupleGo tg (.ref it) u) (fun _ s2=>∃x H',Inv X pins σ H' s2/\RelV x u/\J.yld i H x H'/\tn (i+1) s2.heap/\∀b∈fp,H' b=none) E s1) E s
 done:∀(X:Cx),X.prog=P->X.w=w->X.K=K->X.calm=true->∀(i:Nat)(pins:List (Addr×Obj))(s:qGw)(σ:St)(H:Hp)(E:Value->qGw->Prop),Inv X pins σ H s->(∀b∈fp,FpOk X pins H b)->tn i s.heap->J.stop i H ->
  wpAny (model P w) X.A (pyNext (.ref it)) (fun r s1=>r=none/\Inv X pins σ H s1) E s
 self:∀(A:qH1)(i:Nat)(s:qGw)(Q:Value->qGw->Prop)(E:Value->qGw->Prop),tn i s.heap->Q (.ref it) s->wpAny (model P w) A (pyIter (.ref it)) Q E s
abbrev TI:=St->Hp->(It->Hp->Prop)->Prop
def PIE(X:Cx)(pins:List (Addr×Obj))(σ:St)(tg:Expr)(R:It->Hp->Prop)(itv:Value)(s2:qGw):Prop:=
 ∃(it:Addr)(fp:List Addr)(tn:Nat->Heap->Prop)(J:It)(H':Hp),itv=.ref it/\Inv X pins σ H' s2/\Turn X.prog X.w X.K tg J fp it tn/\tn 0 s2.heap/\(∀b∈fp,FpOk X pins H' b)/\R J H'
def PI(X:Cx)(tg iter:Expr)(wi:TI):Prop:=
 ∀(pins:List (Addr×Obj))(s:qGw)(σ:St)(H:Hp)(R:It->Hp->Prop),Inv X pins σ H s->wi σ H R ->
  wpAny (model X.prog X.w) X.A (eval iter X.env) (fun v s1=>wpAny (model X.prog X.w) X.A (pyIter v) (PIE X pins σ tg R) X.xe s1) X.xe s
theorem zOQ{M:Model}{A:qH1}{E:Value->qGw->Prop}{s:qGw}{tg:Expr}{it:Addr}{u:Value}{o:Obj}{n:String}{vs:Array Value}{Q:Unit->qGw->Prop}(ho:s.heap.get? it=some o)(hc:o.cls=.type n)(hd:o.data=.fields vs)
  (hn:["enumerate","zip","dict_itemiterator","dict_reverseitemiterator","odict_iterator","itertools.zip_longest","itertools.pairwise"].contains n=false) (hQ:Q () s):wpAny M A (letOwnedTupleGo tg (.ref it) u) Q E s:=by
 unfold letOwnedTupleGo;cases tg<;>first
  |exact wpAny_pure hQ
  |(cases u<;>first
    |exact wpAny_pure hQ
    |(refine wpAny_bind (wpAny_load ho ?_)
      rw[hc,hd];show wpAny M A (if(["enumerate","zip","dict_itemiterator","dict_reverseitemiterator","odict_iterator","itertools.zip_longest","itertools.pairwise"].contains n&&vs[0]?==some (rawInt _))=true then _ else _) Q E s;rw[if_neg (by intro h;rw[hn,Bool.false_and]at h;cases h)];exact wpAny_pure hQ))
noncomputable def Itl(K:qA1)(a:Addr):It:=
 ⟨fun i H=>∃xs x,SqL K H a xs/\xs[i]?=some x,fun i H x H'=>H'=H/\∀xs,SqL K H a xs->xs[i]?=some x,fun i H=>∃xs,SqL K H a xs/\xs.length<=i⟩
noncomputable def Itt(K:qA1)(a:Addr):It:=
 ⟨fun i H=>∃xs x,SqT K H a xs/\xs[i]?=some x,fun i H x H'=>H'=H/\∀xs,SqT K H a xs->xs[i]?=some x,fun i H=>∃xs,SqT K H a xs/\xs.length<=i⟩
noncomputable def Itr(lo:Int)(n:Nat):It:=⟨fun i _=>i<n,fun i H x H'=>H'=H/\x=.int (lo+i),fun i _=>n<=i⟩
theorem zN2{P:qGz}{w:World}{K:qA1}{tg:Expr}(a it:Addr):Turn P w K tg (Itl K a) [it] it (fun i h=>h.IsListIter it a i) where
 mem:=by simp
 obj:=fun i h st b hb=>by
  have e:b=it:=by simpa using hb
  subst e;obtain⟨o,e,c,d⟩:=st;exact⟨o,e,fun v z=>by rw[d]at z;cases z⟩
 keep:=fun i h h' st k=>st.at fun o e=>k it (by simp) o e
 item:=by
  intro X hP hw hK hc i pins s σ H E I hf st hg;subst hP hw hK;obtain⟨xs,x,hq,hx⟩:=hg;obtain⟨its,rv,p,hz⟩:=I.list hq;obtain⟨u,hu,ru⟩:=rv.get hx;obtain⟨f0,f1,f2,f3,f4,f5⟩:=hf it (by simp);refine wpAny_pyNext_list_item st p.isList (x:=u) (by simpa using hu) fun h' st' sb=>?_
  have I1:Inv X pins σ H { s with heap:=h' }:=I.turned (t':=s.toks) (fun b o hb e=>(sb.2 b hb).trans e) f0 f1 f3 f4 f5;obtain⟨o,e,c,d⟩:=id st';exact⟨u,rfl,zOQ (s:={ s with heap:=h' }) e c d (by decide) ⟨x,H,I1,ru,⟨rfl,fun ys hy=>by rw[I.list_inj hy hq];exact hx⟩,st',fun b hb=>(hf b hb).1⟩⟩
 done:=by
  intro X hP hw hK hc i pins s σ H E I hf st hg;subst hP hw hK;obtain⟨xs,hq,hx⟩:=hg;obtain⟨its,rv,p,hz⟩:=I.list hq;obtain⟨f0,f1,f2,f3,f4,f5⟩:=hf it (by simp);have hl:=rv.length;exact wpAny_pyNext_list_end (I.ok.hd hc) st p.isList (by simp;omega) fun h' eb=>⟨rfl,I.turned (t':=s.toks) (fun b o hb e=>eb b o hb e) f0 f1 f3 f4 f5⟩
 self:=fun _ _ _ _ _ st h=>wpAny_pyIter_listiter st h
theorem zMA{P:qGz}{w:World}{K:qA1}{tg:Expr}(a it:Addr):Turn P w K tg (Itt K a) [it] it (fun i h=>h.IsTupleIter it a i) where
 mem:=by simp
 obj:=fun i h st b hb=>by
  have e:b=it:=by simpa using hb
  subst e;obtain⟨o,e,c,d⟩:=st;exact⟨o,e,fun v z=>by rw[d]at z;cases z⟩
 keep:=fun i h h' st k=>st.at fun o e=>k it (by simp) o e
 item:=by
  intro X hP hw hK hc i pins s σ H E I hf st hg;subst hP hw hK;obtain⟨xs,x,hq,hx⟩:=hg;obtain⟨its,rv,p,hz⟩:=I.tuple hq;obtain⟨u,hu,ru⟩:=rv.get hx;obtain⟨f0,f1,f2,f3,f4,f5⟩:=hf it (by simp);refine wpAny_pyNext_tuple_item st (show s.heap.IsTuple a its.toArray from p) (x:=u) (by simpa using hu) fun h' st' sb=>?_
  have I1:Inv X pins σ H { s with heap:=h' }:=I.turned (t':=s.toks) (fun b o hb e=>(sb.2 b hb).trans e) f0 f1 f3 f4 f5;obtain⟨o,e,c,d⟩:=id st';exact⟨u,rfl,zOQ (s:={ s with heap:=h' }) e c d (by decide) ⟨x,H,I1,ru,⟨rfl,fun ys hy=>by rw[I.tuple_inj hy hq];exact hx⟩,st',fun b hb=>(hf b hb).1⟩⟩
 done:=by
  intro X hP hw hK hc i pins s σ H E I hf st hg;subst hP hw hK;obtain⟨xs,hq,hx⟩:=hg;obtain⟨its,rv,p,hz⟩:=I.tuple hq;obtain⟨f0,f1,f2,f3,f4,f5⟩:=hf it (by simp);have hl:=rv.length;exact wpAny_pyNext_tuple_end (I.ok.hd hc) st (show s.heap.IsTuple a its.toArray from p) (by simp;omega) fun h' eb=>⟨rfl,I.turned (t':=s.toks) (fun b o hb e=>eb b o hb e) f0 f1 f3 f4 f5⟩
 self:=fun _ _ _ _ _ st h=>wpAny_pyIter_tupleiter st h
theorem zMB{P:qGz}{w:World}{K:qA1}{tg:Expr}(it:Addr)(lo:Int)(n:Nat):Turn P w K tg (Itr lo n) [it] it (fun i h=>IsRangeIter h it (lo+(i:Nat)*1) ((n:Int)-(i:Nat)) 1) where
 mem:=by simp
 obj:=fun i h st b hb=>by
  have e:b=it:=by simpa using hb
  subst e;exact⟨_,st,fun v z=>by
   have z':Data.fields _=Data.cell v:=z;cases z'⟩
 keep:=fun i h h' st k=>k it (by simp) _ st
 item:=by
  intro X hP hw hK hc i pins s σ H E I hf st hg;subst hP hw hK;obtain⟨f0,f1,f2,f3,f4,f5⟩:=hf it (by simp);have W:=Walks.range (prog:=X.prog) (w:=X.w) (I.ok.hd hc) it lo 1 n;refine W.item i s _ _ hg st fun v h' tk hv st' kk=>?_
  obtain⟨t,rfl⟩:=hv;have I1:Inv X pins σ H { s with heap:=h',toks:=tk }:=I.turned (fun b o hb e=>kk b o (by simpa using hb) e) f0 f1 f3 f4 f5;refine⟨_,rfl,zOQ (s:={ s with heap:=h',toks:=tk }) (n:="range_iterator") st' rfl rfl (by decide) ⟨.int (lo+i),H,I1,⟨t,?_⟩,⟨rfl,rfl⟩,st',fun b hb=>(hf b hb).1⟩⟩;rw[qCn]
 done:=by
  intro X hP hw hK hc i pins s σ H E I hf st hg;subst hP hw hK;obtain⟨f0,f1,f2,f3,f4,f5⟩:=hf it (by simp);exact wpAny_pyNext_range_end (I.ok.hd hc) st (by have:n<=i:=hg;omega) fun h' eb=>⟨rfl,I.turned (t':=s.toks) (fun b o hb e=>eb b o hb e) f0 f1 f3 f4 f5⟩
 self:=fun _ _ _ _ _ st h=>wpAny_pyIter_rangeiter st h
section
variable{X:Cx}{tg:Expr}
theorem zQA{pins:List (Addr×Obj)}{σ:St}{H:Hp}{s:qGw}{R:It->Hp->Prop}{E:Value->qGw->Prop}{lo hi:Int}{t u v:Tok}{tk:Nat}(I:Inv X pins σ H s)(h1:-(2 ^ 62)<=lo)(h2:lo<2 ^ 62)(h3:-(2 ^ 62)<=hi)(h4:hi<2 ^ 62)
  (q:R (Itr lo (hi-lo).toNat) H):wpAny (model X.prog X.w) X.A (pyIter (.ref s.heap.objs.size)) (PIE X pins σ tg R) E { s with heap:=s.heap.push { cls:=.type "range",data:=.fields #[.int lo t,.int hi u,.int 1 v] },toks:=tk }:=by
 refine wpAny_pyIter_range (IsRange.new ..) (small_one h1 h2 h3 h4) ?_;have I1:Inv X pins σ H { s with heap:=s.heap.push { cls:=.type "range",data:=.fields #[.int lo t,.int hi u,.int 1 v] },toks:=tk }:=I.kept fun b o e=>qGx _ e
 refine⟨(s.heap.push { cls:=.type "range",data:=.fields #[.int lo t,.int hi u,.int 1 v] }).objs.size,[(s.heap.push { cls:=.type "range",data:=.fields #[.int lo t,.int hi u,.int 1 v] }).objs.size],_,_,H,rfl,
  I1.kept (t':=tk) fun b o e=>qGx _ e,zMB _ lo (hi-lo).toNat,?_,fun b hb=>?_,q⟩
 ·have e1:lo+((0:Nat):Int)*1=lo:=by simp
  have e2:(((hi-lo).toNat:Nat):Int)-((0:Nat):Int)=qI7 lo hi 1:=by rw[rangeSize_one];split<;>omega
  show IsRangeIter _ _ (lo+((0:Nat):Int)*1) ((((hi-lo).toNat:Nat):Int)-((0:Nat):Int)) 1;rw[e1,e2];exact qH4 _ rfl
 ·have e:b=(s.heap.push { cls:=.type "range",data:=.fields #[.int lo t,.int hi u,.int 1 v] }).objs.size:=by simpa using hb
  subst e;exact I1.fpOk (qA6 _) (I1.hok.fresh (qA6 _))
def zWO(ta:TA):TI:=fun σ H R=>ta σ H fun vs H1=>∃j:Int,vs=[.int j]/\-(2 ^ 62)<=j/\j<2 ^ 62/\R (Itr 0 j.toNat) H1
theorem zAW{a:Expr}{ta:TA}{p pos:Pos}(hg:Gl X "range")(hm:X.mg "range" = none)(ha:PA X [a] ta)(hs:starEach [a] X.env=[(false,eval a X.env)]:=by rfl):PI X tg (.Call (.Name "range" p) [a] [] pos) (zWO ta):=by
 intro pins s σ H R I h;refine Call_ (zGB I hg hm boot_range (qB7 (thn (ha pos pins s σ H _ I h) fun us s1 z0=>?_) hs rfl));obtain⟨vs,H1,I1,r1,q1⟩:=z0;obtain⟨j,e,q1,q2,q⟩:=q1;subst e;cases r1 with
 |cons r rr=>
  cases rr;obtain⟨t,rfl⟩:=r;exact call_range_1 (zQA I1 (by omega) (by omega) q1 q2 (by simpa using q))
noncomputable def tFor(wi:TI)(g:TG)(tb:TS):TS:=fun D σ H=>wi σ H fun J H1=>∃W:Nat->Nat->St->Hp->Prop,(∃m,W 0 m σ H1)/\∀i m σ H,W i m σ H ->
 (J.stop i H/\D.nx σ H)\/(J.go i H/\∃N:St->Hp->Prop,(∀σ' H',N σ' H'->∃m',m'<m/\W (i+1) m' σ' H')/\∀x H',J.yld i H x H'->g x σ H' fun σ2 H2=>tb { D with nx:=N,ct:=N,bk:=D.nx } σ2 H2)
noncomputable def zH1(fp:List Addr)(h:Heap):List (Addr×Obj):=fp.filterMap fun b=>(h.get? b).map fun o=>(b,o)
theorem zDW{fp:List Addr}{h:Heap}{b:Addr}{o:Obj}(hb:b∈fp)(e:h.get? b=some o):(b,o)∈zH1 fp h:=qEi.mpr ⟨b,hb,by rw[e];rfl⟩
theorem zO5{fp:List Addr}{h:Heap}{p:Addr×Obj}(hp:p∈zH1 fp h):p.1∈fp/\h.get? p.1=some p.2:=by
 obtain⟨b,hb,e⟩:=qEi.mp hp;cases q:h.get? b with
 |none=>rw[q]at e;cases e
 |some o=>
  rw[q]at e;have e':(b,o)=p:=qB3 e;subst e';exact⟨hb,q⟩
theorem Inv.pinned{pins:List (Addr×Obj)}{σ:St}{H:Hp}{s:qGw}{fp:List Addr}(I:Inv X pins σ H s)(hf:∀b∈fp,FpOk X pins H b)(ho:∀b∈fp,∃o,s.heap.get? b=some o/\∀v,o.data≠.cell v):Inv X (pins++zH1 fp s.heap) σ H s:=
 I.pins_of fun p hp=>(qAn.mp hp).elim (fun z=>I.pin p (qAl _ z)) fun z=>by
  obtain⟨hb,e⟩:=zO5 z;obtain⟨f0,f1,f2,_⟩:=hf p.1 hb;obtain⟨o,e',d⟩:=ho p.1 hb;rw[e]at e';cases e';exact⟨e,f0,f1,f2,d⟩
theorem Inv.unpinned{pins pl:List (Addr×Obj)}{σ:St}{H:Hp}{s:qGw}(I:Inv X (pins++pl) σ H s):Inv X pins σ H s:=I.pins_of fun p hp=>I.pin p (qAl _ (qB9 _ hp))
theorem zVL{iter:Expr}{body:List Stmt}{wi:TI}{g:TG}{tb:TS}{pos:Pos}(hp:PassesOwn (model X.prog X.w) X.A X.env X.xe)(hc:X.calm=true)(hi:PI X tg iter wi)(hg:PG X tg g)(hb:PSs X body tb)
  (hs:∀x,qHu iter X.env x=pure x:=by intro _;rfl):PS X (.For tg iter body [] pos) (tFor wi g tb):=by
 intro pins s σ H D I h;refine wpAny_For (thn (hi pins s σ H _ I h) fun v s1 h1=>thn h1 fun itv s2 h2=>?_) hs;obtain⟨it,fp,tn,J,H2,e,I2,T,st2,f2,W,⟨m0,w0⟩,turn⟩:=h2;subst e;have stat:∀{H':Hp},(∀b∈fp,H' b=none)->∀b∈fp,FpOk X pins H' b:=fun hn b hb=>⟨hn b hb,(f2 b hb).2⟩
 refine codeAny_forLoop_any (fun n s'=>∃i σ' H',Inv X pins σ' H' s'/\tn i s'.heap/\(∀b∈fp,H' b=none)/\W i n σ' H') ?_ m0 ⟨0,σ,H2,I2,st2,fun b hb=>(f2 b hb).1,w0⟩
 rintro n s3 ⟨i,σ3,H3,I3,st3,fr3,w3⟩
 rcases turn i n σ3 H3 w3 with⟨stop,qn⟩|⟨go,N,hN,step⟩
 ·refine qHo hp (thn (T.done X rfl rfl rfl hc i pins s3 σ3 H3 X.xe I3 (stat fr3) st3 stop) fun r s4 z0=>?_);obtain⟨hr,I4⟩:=z0;subst hr;exact qIc ⟨σ3,H3,I4,qn⟩
 ·refine qHo hp (thn (T.item X rfl rfl rfl hc i pins s3 σ3 H3 X.xe I3 (stat fr3) st3 go) fun r s4 z0=>?_);obtain⟨u,hr,h4⟩:=z0;subst hr;refine qHo hp (thn h4 fun _ s5 z0=>?_);obtain⟨x,H5,I5,r5,y5,st5,fr5⟩:=z0;have I5':=I5.pinned (stat fr5) (T.obj _ _ st5);refine qHo hp (thn (hg _ s5 σ3 H5 x u _ I5' r5 (step x H5 y5)) fun _ s6 z0=>?_);obtain⟨σ6,H6,I6,q6⟩:=z0;refine qHo hp (thn (hb _ s6 σ6 H6 _ I6 q6) fun f s7 q7=>?_);have again:∀{σ7:St}{H7:Hp},Inv X (pins++zH1 fp s5.heap) σ7 H7 s7->N σ7 H7->∃m,m<n/\∃i σ' H',Inv X pins σ' H' s7/\tn i s7.heap/\(∀b∈fp,H' b=none)/\W i m σ' H':=fun{σ7 H7} I7 n7=>by
   obtain⟨m',hm,w7⟩:=hN σ7 H7 n7;refine⟨m',hm,i+1,σ7,H7,I7.unpinned,T.keep _ _ _ st5 fun b hb o e=>(I7.pin (b,o) (qAl _ (qAl _ (zDW hb e)))).1,fun b hb=>?_,w7⟩;obtain⟨o,e,d⟩:=T.obj _ _ st5 b hb;exact(I7.pin (b,o) (qAl _ (qAl _ (zDW hb e)))).2.1
  cases f with
  |next=>obtain⟨σ7,H7,I7,n7⟩:=q7;exact again I7 n7
  |cont=>obtain⟨σ7,H7,I7,n7⟩:=q7;exact again I7 n7
  |brk=>obtain⟨σ7,H7,I7,q7⟩:=q7;exact⟨σ7,H7,I7.unpinned,q7⟩
  |ret v=>obtain⟨x7,σ7,H7,I7,r7,q7⟩:=q7;exact⟨x7,σ7,H7,I7.unpinned,r7,q7⟩
end
abbrev R2:=V->V->Hp->VK->Prop
def OpR(X:Cx)(f:Value->Value->Sem Value)(r:R2):Prop:=
 ∀(pins:List (Addr×Obj))(s:qGw)(σ:St)(H:Hp)(x y:V)(v u:Value)(Q:VK),Inv X pins σ H s->RelV x v->RelV y u->r x y H Q ->
  wpAny (model X.prog X.w) X.A (f v u) (EP X pins σ Q) X.xe s
def UnR(X:Cx)(f:Value->Sem Value)(r:V->Hp->VK->Prop):Prop:=
 ∀(pins:List (Addr×Obj))(s:qGw)(σ:St)(H:Hp)(x:V)(v:Value)(Q:VK),Inv X pins σ H s->RelV x v->r x H Q ->
  wpAny (model X.prog X.w) X.A (f v) (EP X pins σ Q) X.xe s
def zE7(X:Cx)(f:Value)(r:List V->Hp->VK->Prop):Prop:=
 ∀(pins:List (Addr×Obj))(s:qGw)(σ:St)(H:Hp)(xs:List V)(us:List Value)(Q:VK),Inv X pins σ H s->Vals xs us->r xs H Q ->
  wpAny (model X.prog X.w) X.A (call f us) (EP X pins σ Q) X.xe s
def TruR(X:Cx)(r:V->Hp->(Bool->Hp->Prop)->Prop):Prop:=
 ∀(pins:List (Addr×Obj))(s:qGw)(σ:St)(H:Hp)(x:V)(v:Value)(Q:Bool->Hp->Prop),Inv X pins σ H s->RelV x v->r x H Q ->
  wpAny (model X.prog X.w) X.A (truthy v) (TP X pins σ Q) X.xe s
noncomputable def tOp(r:R2)(ta tb:TE):TE:=fun σ H Q=>ta σ H fun x H1=>tb σ H1 fun y H2=>r x y H2 Q
noncomputable def tUn(r:V->Hp->VK->Prop)(ta:TE):TE:=fun σ H Q=>ta σ H fun x H1=>r x H1 Q
noncomputable def rI(C:Int->Int->Prop)(g:Int->Int->V):R2:=fun x y H Q=>∃i j,x=.int i/\y=.int j/\C i j/\Q (g i j) H
noncomputable def rI0(g:Int->Int->V):R2:=fun x y H Q=>∃i j,x=.int i/\y=.int j/\Q (g i j) H
def rU(g:Int->V):V->Hp->VK->Prop:=fun x H Q=>∃i,x=.int i/\Q (g i) H
section
variable{X:Cx}{a b c:Expr}{ta tb tc:TE}{pos:Pos}
theorem binT(ha:PE X a ta)(hb:PE X b tb){pins:List (Addr×Obj)}{s:qGw}{σ:St}{H:Hp}{R:V->V->Hp->Prop}(I:Inv X pins σ H s)
  (h:ta σ H fun x H1=>tb σ H1 fun y H2=>R x y H2) {Q:Value->qGw->Prop} {f:Value->Value->Sem Value}
  (hf:∀v u s2 x y H2,Inv X pins σ H2 s2->RelV x v->RelV y u->R x y H2->wpAny (model X.prog X.w) X.A (f v u) Q X.xe s2) :
  wpAny (model X.prog X.w) X.A (eval a X.env) (fun v s₁=>wpAny (model X.prog X.w) X.A (eval b X.env) (fun u s₂=>wpAny (model X.prog X.w) X.A (f v u) Q X.xe s₂) X.xe s₁) X.xe s:=by
 refine thn (ha pins s σ H _ I h) fun v s1 z0=>?_
 obtain⟨x,H1,I1,r1,q1⟩:=z0;refine thn (hb pins s1 σ H1 _ I1 q1) fun u s2 z0=>?_
 obtain⟨y,H2,I2,r2,q2⟩:=z0;exact hf v u s2 x y H2 I2 r1 r2 q2
theorem zAN{op:Operator}{r:R2}(ho:OpR X (binaryOp op) r)(ha:PE X a ta)(hb:PE X b tb):PE X (.BinOp a op b pos) (tOp r ta tb):=by
 intro pins s σ H Q I h;exact wpAny_BinOp (binT ha hb I h fun v u s2 x y H2 I2 rx ry q=>ho pins s2 σ H2 x y v u Q I2 rx ry q)
theorem zT4{op:UnaryOp}{r:V->Hp->VK->Prop}(ho:UnR X (unaryOp op) r)(ha:PE X a ta):PE X (.UnaryOp op a pos) (tUn r ta):=by
 intro pins s σ H Q I h;exact UnaryOp_ (thn (ha pins s σ H _ I h) fun v s1 ⟨x,H1,I1,r1,q1⟩=>ho pins s1 σ H1 x v Q I1 r1 q1)
theorem opI{f:Value->Value->Sem Value}{C:Int->Int->Prop}{g:Int->Int->Int}
  (rule:∀(i j:Int)(t u:Tok)(s:qGw)(Q:Value->qGw->Prop)(E:Value->qGw->Prop),C i j->Q (.int (g i j) s.toks) { s with toks:=s.toks+1 }->wpAny (model X.prog X.w) X.A (f (.int i t) (.int j u)) Q E s) :
  OpR X f (rI C fun i j=>.int (g i j)):=by
 intro pins s σ H x y v u Q I rx ry h;obtain⟨i,j,rfl,rfl,hc,q⟩:=h;obtain⟨t,rfl⟩:=rx;obtain⟨t',rfl⟩:=ry;exact rule i j t t' s _ _ hc ⟨.int (g i j),H,I.tok _,⟨_,rfl⟩,q⟩
theorem opI0{f:Value->Value->Sem Value}{g:Int->Int->Int}
  (rule:∀(i j:Int)(t u:Tok)(s:qGw)(Q:Value->qGw->Prop)(E:Value->qGw->Prop),Q (.int (g i j) s.toks) { s with toks:=s.toks+1 }->wpAny (model X.prog X.w) X.A (f (.int i t) (.int j u)) Q E s) :
  OpR X f (rI0 fun i j=>.int (g i j)):=by
 intro pins s σ H x y v u Q I rx ry h;obtain⟨i,j,rfl,rfl,q⟩:=h;obtain⟨t,rfl⟩:=rx;obtain⟨t',rfl⟩:=ry;exact rule i j t t' s _ _ ⟨.int (g i j),H,I.tok _,⟨_,rfl⟩,q⟩
theorem opB0{f:Value->Value->Sem Value}{g:Int->Int->Bool}
  (rule:∀(i j:Int)(t u:Tok)(s:qGw)(Q:Value->qGw->Prop)(E:Value->qGw->Prop),Q (.bool (g i j)) s->wpAny (model X.prog X.w) X.A (f (.int i t) (.int j u)) Q E s) :
  OpR X f (rI0 fun i j=>.bl (g i j)):=by
 intro pins s σ H x y v u Q I rx ry h;obtain⟨i,j,rfl,rfl,q⟩:=h;obtain⟨t,rfl⟩:=rx;obtain⟨t',rfl⟩:=ry;exact rule i j t t' s _ _ ⟨.bl (g i j),H,I,rfl,q⟩
def CPow(i j:Int):Prop:=0<=j/\j<=1000000/\i.natAbs<2 ^ 64
def CMul(i j:Int):Prop:=(-(2 ^ 64)<i/\i<2 ^ 64)\/(-(2 ^ 64)<j/\j<2 ^ 64)
theorem CMul.ok{i j:Int}(h:CMul i j):IntMulOk i j:=by
 rcases h with⟨h1,h2⟩|⟨h1,h2⟩
 ·exact .of_left (intBits_le_64 h1 h2)
 ·exact .of_right (intBits_le_64 h1 h2)
theorem zW2:OpR X (binaryOp .Add) (rI0 fun i j=>.int (i+j)):=opI0 fun _ _ _ _ _ _ _ q=>add_int q
theorem zVV:OpR X (binaryOp .Sub) (rI0 fun i j=>.int (i-j)):=opI0 fun _ _ _ _ _ _ _ q=>sub_int q
theorem zVZ:OpR X (binaryOp .Mod) (rI (fun _ j=>0<j) fun i j=>.int (i%j)):=opI fun i j _ _ _ _ _ hc q=>by
 have h1:(0:Int)<j:=hc;exact mod_int' (by omega) (by rw[Int.fmod_eq_emod_of_nonneg i (by omega)];exact q)
theorem zVX:OpR X (binaryOp .Pow) (rI CPow fun i j=>.int (i ^ j.toNat)):=opI fun _ _ _ _ _ _ _ hc q=>pow_int_small hc.1 hc.2.1 hc.2.2 q
theorem zVU:OpR X (binaryOp .BitXor) (rI0 fun i j=>.int (qHw i j)):=opI0 fun _ _ _ _ _ _ _ q=>xor_int q
theorem unI{f:Value->Sem Value}{g:Int->Int}
  (rule:∀(i:Int)(t:Tok)(s:qGw)(Q:Value->qGw->Prop)(E:Value->qGw->Prop),Q (.int (g i) s.toks) { s with toks:=s.toks+1 }->wpAny (model X.prog X.w) X.A (f (.int i t)) Q E s) :
  UnR X f (rU fun i=>.int (g i)):=by
 intro pins s σ H x v Q I rx h;obtain⟨i,rfl,q⟩:=h;obtain⟨t,rfl⟩:=rx;exact rule i t s _ _ ⟨.int (g i),H,I.tok _,⟨_,rfl⟩,q⟩
theorem zUR:UnR X (unaryOp .USub) (rU fun i=>.int (-i)):=unI fun _ _ _ _ _ q=>neg_int q
end
noncomputable def scal:V->V->Bool
 |.non,.non=>true | .non,.int _=>true | .int _,.non=>true | .non,.bl _=>true | .bl _,.non=>true | .non,.str _=>true | .str _,.non=>true
 |.int _,.int _=>true | .bl _,.bl _=>true | .str _,.str _=>true | .byt _,.byt _=>true
 |.int _,.str _=>true | .str _,.int _=>true | .bl _,.str _=>true | .str _,.bl _=>true
 |_,_=>false
def rEq:R2:=fun x y H Q=>scal x y=true/\Q (.bl (decide (x=y))) H
def rNe:R2:=fun x y H Q=>scal x y=true/\Q (.bl (!decide (x=y))) H
theorem zP2{i j:Int}:decide (V.int i=V.int j)=(i==j):=by
 rw[qD2];simp
theorem dec_bl{i j:Bool}:decide (V.bl i=V.bl j)=(i==j):=by
 rw[qD2];simp
theorem zP1{i j:Str}:decide (V.str i=V.str j)=(i==j):=by
 rw[qD2];simp
theorem zP3{i j:Array UInt8}:decide (V.byt i=V.byt j)=(i.toList==j.toList):=by
 rw[qD2];cases i;cases j;simp
section
variable{X:Cx}{a b c:Expr}{ta tb tc:TE}{pos:Pos}
theorem fin_bl{pins:List (Addr×Obj)}{σ:St}{H:Hp}{s:qGw}{Q:VK}{k k':Bool}(I:Inv X pins σ H s)(q:Q (.bl k) H)(e:k=k'):EP X pins σ Q (.bool k') s:=by
 subst e;exact⟨.bl k,H,I,rfl,q⟩
theorem zYC:OpR X (compareOp .Eq) rEq:=by
 intro pins s σ H x y v u Q I rx ry h;obtain⟨hs,q⟩:=h;cases x with
 |non=>
  cases rx;cases y with
  |non=>cases ry;exact qFn (fin_bl I q (by simp))
  |bl j=>cases ry;exact qFo (fin_bl I q (by simp))
  |int j=>obtain⟨t',rfl⟩:=ry;exact qFz (fin_bl I q (by simp))
  |str j=>obtain⟨t',rfl⟩:=ry;exact qG0 (fin_bl I q (by simp))
  |_=>exact absurd (show false=true from hs) qAd
 |bl i=>
  cases rx;cases y with
  |non=>cases ry;exact qFp (fin_bl I q (by simp))
  |bl j=>cases ry;exact eq_bool (fin_bl I q dec_bl)
  |str j=>obtain⟨t',rfl⟩:=ry;exact qFq (fin_bl I q (by simp))
  |_=>exact absurd (show false=true from hs) qAd
 |int i=>
  obtain⟨t,rfl⟩:=rx;cases y with
  |non=>cases ry;exact qG1 (fin_bl I q (by simp))
  |int j=>obtain⟨t',rfl⟩:=ry;exact eq_int (fin_bl I q zP2)
  |str j=>obtain⟨t',rfl⟩:=ry;exact qG2 (fin_bl I q (by simp))
  |_=>exact absurd (show false=true from hs) qAd
 |str i=>
  obtain⟨t,rfl⟩:=rx;cases y with
  |non=>cases ry;exact qG3 (fin_bl I q (by simp))
  |bl j=>cases ry;exact qFr (fin_bl I q (by simp))
  |int j=>obtain⟨t',rfl⟩:=ry;exact qG4 (fin_bl I q (by simp))
  |str j=>obtain⟨t',rfl⟩:=ry;exact eq_str (fin_bl I q zP1)
  |_=>exact absurd (show false=true from hs) qAd
 |byt i=>
  obtain⟨t,rfl⟩:=rx;cases y with
  |byt j=>obtain⟨t',rfl⟩:=ry;exact PySem.W.eq_bytes (fin_bl I q zP3)
  |_=>exact absurd (show false=true from hs) qAd
 |_=>cases y<;>exact absurd (show false=true from hs) qAd
theorem zYA:OpR X (compareOp .NotEq) rNe:=by
 intro pins s σ H x y v u Q I rx ry h;obtain⟨hs,q⟩:=h;cases x with
 |non=>
  cases rx;cases y with
  |non=>cases ry;exact qFs (fin_bl I q (by simp))
  |bl j=>cases ry;exact qFt (fin_bl I q (by simp))
  |int j=>obtain⟨t',rfl⟩:=ry;exact qG5 (fin_bl I q (by simp))
  |str j=>obtain⟨t',rfl⟩:=ry;exact qG6 (fin_bl I q (by simp))
  |_=>exact absurd (show false=true from hs) qAd
 |bl i=>
  cases rx;cases y with
  |non=>cases ry;exact qFu (fin_bl I q (by simp))
  |bl j=>cases ry;exact ne_bool (fin_bl I q (congrArg not dec_bl))
  |str j=>obtain⟨t',rfl⟩:=ry;exact qFv (fin_bl I q (by simp))
  |_=>exact absurd (show false=true from hs) qAd
 |int i=>
  obtain⟨t,rfl⟩:=rx;cases y with
  |non=>cases ry;exact qG7 (fin_bl I q (by simp))
  |int j=>obtain⟨t',rfl⟩:=ry;exact ne_int (fin_bl I q (congrArg not zP2))
  |str j=>obtain⟨t',rfl⟩:=ry;exact qG8 (fin_bl I q (by simp))
  |_=>exact absurd (show false=true from hs) qAd
 |str i=>
  obtain⟨t,rfl⟩:=rx;cases y with
  |non=>cases ry;exact qG9 (fin_bl I q (by simp))
  |bl j=>cases ry;exact qFw (fin_bl I q (by simp))
  |int j=>obtain⟨t',rfl⟩:=ry;exact qGa (fin_bl I q (by simp))
  |str j=>obtain⟨t',rfl⟩:=ry;exact ne_str (fin_bl I q (congrArg not zP1))
  |_=>exact absurd (show false=true from hs) qAd
 |byt i=>
  obtain⟨t,rfl⟩:=rx;cases y with
  |byt j=>obtain⟨t',rfl⟩:=ry;exact PySem.W.ne_bytes (fin_bl I q (congrArg not zP3))
  |_=>exact absurd (show false=true from hs) qAd
 |_=>cases y<;>exact absurd (show false=true from hs) qAd
theorem zYB:OpR X (compareOp .Gt) (rI0 fun i j=>.bl (decide (j<i))):=opB0 fun _ _ _ _ _ _ _ q=>gt_int q
theorem zO2:OpR X (compareOp .In) (fun x y H Q=>∃i j,x=.str i/\y=.str j/\Q (.bl (!(qHp j i 0 j.length 1).isEmpty)) H):=by
 intro pins s σ H x y v u Q I rx ry h;obtain⟨i,j,rfl,rfl,q⟩:=h;obtain⟨t,rfl⟩:=rx;obtain⟨t',rfl⟩:=ry;exact in_str (fin_bl I q rfl)
theorem zC3(b:Expr){op:CmpOp}(h:op≠.In:=by decide)(h2:op≠.NotIn:=by decide):qI8 op b=false:=by
 have e1:(op==CmpOp.In)=false:=by cases op<;>first|rfl|exact absurd rfl h
 have e2:(op==CmpOp.NotIn)=false:=by cases op<;>first|rfl|exact absurd rfl h2
 cases b<;>simp[qI8,e1,e2]
theorem zT5{op:CmpOp}{r:R2}(ho:OpR X (compareOp op) r)(ha:PE X a ta)(hb:PE X b tb)(hm:qI8 op b=false):PE X (.Compare a [op] [b] pos) (tOp r ta tb):=by
 intro pins s σ H Q I h;exact wpAny_Compare1 (binT ha hb I h fun v u s2 x y H2 I2 rx ry q=>ho pins s2 σ H2 x y v u Q I2 rx ry q) hm
def TruV(K:qA1)(x:V)(H:Hp)(k:Bool):Prop:=
 match x with
 |.non=>k=false
 |.bl b=>k=b
 |.int i=>k=(i != 0)
 |.str y=>y.length<=sizeLine/\k=((y.length:Int) != 0)
 |.byt y=>y.size<=sizeLine/\k=((y.size:Int) != 0)
 |.ref p=>(∃xs,SqL K H p xs/\k = !xs.isEmpty)\/(∃xs,SqT K H p xs/\k = !xs.isEmpty)\/∃kvs,H p=some (.dK kvs)/\k = !kvs.isEmpty
 |_=>False
theorem zML{κ:Type}{kvs:List (κ×V)}{vs:List (κ×Value)}(r:KV kvs vs):(!vs.isEmpty) = !kvs.isEmpty:=by
 cases r<;>rfl
theorem zH3{xs:List V}{its:List Value}(r:Vals xs its):(!its.toArray.isEmpty) = !xs.isEmpty:=by
 cases r<;>simp
theorem zG9:(sizeLine:Nat)<2 ^ 63:=by rw[qI9];decide
theorem zUT:TruR X (fun x H Q=>∃k,TruV X.K x H k/\Q k H):=by
 intro pins s σ H x v Q I rx h;obtain⟨k,e,q⟩:=h;have hl:=zG9;have hs:sizeLine=16777216:=qI9;cases x with
 |non=>
  cases rx;have e':k=false:=e;subst e';exact truthy_none ⟨H,I,q⟩
 |bl b=>
  cases rx;have e':k=b:=e;subst e';exact wpAny_truthy_bool ⟨H,I,q⟩
 |int i=>
  obtain⟨t,rfl⟩:=rx;have e':k=(i != 0):=e;subst e';exact PySem.P.truthy_int ⟨H,I,q⟩
 |str y=>
  obtain⟨t,rfl⟩:=rx;obtain⟨hy,e'⟩:y.length<=sizeLine/\k=((y.length:Int) != 0):=e;subst e';exact PySem.P.truthy_str (by omega) ⟨H,I.tok _,q⟩
 |byt y=>
  obtain⟨t,rfl⟩:=rx;obtain⟨hy,e'⟩:y.size<=sizeLine/\k=((y.size:Int) != 0):=e;subst e';exact PySem.W.truthy_bytes (by omega) ⟨H,I.tok _,q⟩
 |ref p=>
  cases rx;have e':(∃xs,SqL X.K H p xs/\k = !xs.isEmpty)\/(∃xs,SqT X.K H p xs/\k = !xs.isEmpty)\/∃kvs,H p=some (.dK kvs)/\k = !kvs.isEmpty:=e
  rcases e' with⟨xs,hx,e'⟩|⟨xs,hx,e'⟩|⟨kvs,hx,e'⟩
  ·subst e';obtain⟨its,r,pl,hz⟩:=I.list hx;have hlen:=r.length;exact wpAny_truthy_list pl.isList (by simp only[qAb];omega) ⟨H,I.tok _,by rw[zH3 r];exact q⟩
  ·subst e';obtain⟨its,r,pl,hz⟩:=I.tuple hx;have hlen:=r.length;exact truthy_tuple pl (by simp only[qAb];omega) ⟨H,I.tok _,by rw[zH3 r];exact q⟩
  ·subst e';obtain⟨hz,hS,vs,r,m⟩:kvs.length<=sizeLine/\(p==qJi)=false/\∃vs,KV kvs vs/\s.heap.DictOf (zKJ X.prog X.w) p vs:=I.hok p _ hx;have hlen:kvs.length=vs.length:=qJl r;exact wpAny_truthy_dict hS m (by omega) ⟨H,I.tok _,by rw[zML r];exact q⟩
 |_=>exact(show False from e).elim
theorem zMF:OpR X (binaryOp .Add) (fun x y H Q=>∃i j,x=.str i/\y=.str j/\i.length+j.length<=sizeLine/\Q (.str (i++j)) H):=by
 intro pins s σ H x y v u Q I rx ry h;obtain⟨i,j,rfl,rfl,hz,q⟩:=h;obtain⟨t,rfl⟩:=rx;obtain⟨t',rfl⟩:=ry;exact add_str (fun t' tk=>⟨.str (i++j),H,I.tok _,⟨_,rfl⟩,q⟩) hz
theorem zGO{x:V}{us:List Value}(r:Vals [x] us):∃u,us=[u]/\RelV x u:=by
 cases r with
 |cons r1 r2=>cases r2;exact⟨_,rfl,r1⟩
theorem zPT{x y:V}{us:List Value}(r:Vals [x,y] us):∃u w',us=[u,w']/\RelV x u/\RelV y w':=by
 cases r with
 |cons r1 r2=>
  cases r2 with
  |cons r3 r4=>cases r4;exact⟨_,_,rfl,r1,r3⟩
theorem zJP(hc:X.calm=true):zE7 X (.builtin "max") (fun xs H Q=>∃i j,xs=[.int i,.int j]/\Q (.int (if j>i then j else i)) H):=by
 intro pins s σ H xs us Q I r h;obtain⟨i,j,rfl,q⟩:=h;obtain⟨u,w',rfl,⟨t,rfl⟩,⟨t',rfl⟩⟩:=zPT r;refine max_two_ints (I.ok.hd hc) fun h' tk k=>⟨_,H,I.kept k,?_,q⟩
 by_cases hj:j>i
 ·rw[if_pos hj,if_pos hj];exact⟨_,rfl⟩
 ·rw[if_neg hj,if_neg hj];exact⟨_,rfl⟩
theorem zPB(hc:X.calm=true):zE7 X (.builtin "min") (fun xs H Q=>∃i j,xs=[.int i,.int j]/\Q (.int (if j<i then j else i)) H):=by
 intro pins s σ H xs us Q I r h;obtain⟨i,j,rfl,q⟩:=h;obtain⟨u,w',rfl,⟨t,rfl⟩,⟨t',rfl⟩⟩:=zPT r;refine min_two_ints (I.ok.hd hc) fun h' tk k=>⟨_,H,I.kept k,?_,q⟩
 by_cases hj:j<i
 ·rw[if_pos hj,if_pos hj];exact⟨_,rfl⟩
 ·rw[if_neg hj,if_neg hj];exact⟨_,rfl⟩
end
structure ObjM(h:Heap)(x dx C:Addr)(mA:Str->Option Value):Prop where
 obj:h.get? x=some (qDv C dx)
 ns:h.Ns1 dx mA
 ne:dx≠x
theorem zOB{h:Heap}{dx:Addr}{mA:Str->Option Value}(n:h.Ns1 dx mA):∃od,h.get? dx=some od/\∀name,qEa name od=some (mA name):=by
 obtain⟨o,es,ep,ho,hd,hk,_,hm⟩:=n;refine⟨o,ho,fun name=>?_⟩;have e:=hm name;unfold nsFind findBy at e;rw[<- Array.find?_toList]at e;unfold qEa;rw[hd];dsimp only
 split
 ·rename_i y q
  rw[q]at e;exact congrArg some e
 ·rename_i q
  rw[q]at e;have a:es.toList.any (·.refKey)=false:=by
   rw[List.any_eq_false];intro y hy;obtain⟨z,t,hkey⟩:=hk y (Array.mem_toList_iff.mp hy);simp[DictEntry.refKey,hkey]
  have a':¬es.toList.any (·.refKey)=true:=by rw[a];exact qAd
  rw[if_neg a'];exact congrArg some e
theorem ObjM.look{h:Heap}{x dx C:Addr}{mA:Str->Option Value}(I:ObjM h x dx C mA):∃od,PySem.W.InstAt h x (qDv C dx) C (some od)/\∀name,qEa name od=some (mA name):=
 let⟨od,ho,hl⟩:=zOB I.ns
 ⟨od,⟨I.obj,rfl,rfl,ho⟩,hl⟩
section
variable{prog:qGz}{w:World}{A:qH1}{E:Value->qGw->Prop}{s:qGw}{K:qA1}{x dx C f:Addr}{mA:Str->Option Value}{name:Str}{v:Value}
end
section
variable{P:qGz}{w:World}{H H':Hp}{h h':Heap}{a C dx:Addr}{fs fs':List (Str×V)}
theorem zTU(hok:HOk P w H h)(e:H a=some (.ins C dx fs)):∃mA,ObjM h a dx C mA/\(∀f,RelO (fs.lookup f) (mA f))/\qGh mA (fs.map (·.1))/\fs.length<=1000/\H dx=some (.own a):=by
 obtain⟨d,z,ne,ob,mA,n,r,q⟩:=(show ObjOk P w H h a (.ins C dx fs) from hok a _ e)
 exact⟨mA,⟨ob,n,ne⟩,r,q,z,d⟩
end
structure Cls(K:qA1)(C:Addr):Prop where
 pg:qF5 K C Str.empty=true
 hd:qDd K C=true
 po:PySem.W.plainOver K C=true
 sa:qB0 K (.ref C) "__setattr__" = some (some (.builtin "object.__setattr__"))
theorem Cls.get{K:qA1}{C:Addr}(c:Cls K C)(f:Str):qF5 K C f=true:=c.pg
def zXK(K:qA1)(C:Addr)(f:Str):Prop:=qB0 K (.ref C) f=some none
section
variable{X:Cx}{pins:List (Addr×Obj)}{σ:St}{H:Hp}{s:qGw}{a C dx:Addr}{fs:List (Str×V)}{f:Str}{v:V}{A:qH1}{E:Value->qGw->Prop}
end
section
variable{X:Cx}{o e value:Expr}{f:Str}{pos pos' tpos:Pos}{ta tv:TE}
end
section
variable{X:Cx}{pins:List (Addr×Obj)}{σ:St}{H:Hp}{s:qGw}{A:qH1}{E:Value->qGw->Prop}{Q:Value->qGw->Prop}{c:Value}{b:Bool}
inductive TyOf(K:qA1)(H:Hp):V->Value->Prop where
 |non:TyOf K H .non (.type "NoneType")
 |bl (x:Bool):TyOf K H (.bl x) (.type "bool")
 |int (i:Int):TyOf K H (.int i) (.type "int")
 |str (x:Str):TyOf K H (.str x) (.type "str")
 |flt (x:UInt64):TyOf K H (.flt x) (.type "float")
 |lst {a:Addr} {xs:List V} (e:H a=some (.lst xs)):TyOf K H (.ref a) (.type "list")
 |frz {a:Addr} {o:Obj} {xs:List V} (e:H a=some (.frz o (.lst xs))):TyOf K H (.ref a) (.type "list")
 |tup {a:Addr} {xs:List V} (e:H a=some (.tup xs)):TyOf K H (.ref a) (.type "tuple")
 |dK {a:Addr} {kvs:List (Key×V)} (e:H a=some (.dK kvs)):TyOf K H (.ref a) (.type "dict")
 |dT {a:Addr} {kvs:List (List Key×V)} (e:H a=some (.dT kvs)):TyOf K H (.ref a) (.type "dict")
 |ins {a C dx:Addr} {fs:List (Str×V)} (e:H a=some (.ins C dx fs)) (cl:Cls K C) (ha:qB0 K (.ref C) "__class__" = some (some (.builtin "object.__class__")))
   (hn:qEu K (.builtin "object.__class__") "__get__" = some (some (.builtin "getset_descriptor.__get__"))) (htk:qFb K (.builtin "object.__class__")=some true)
   (hm:qEj K C (.type "object")=some true):TyOf K H (.ref a) (.ref C)
theorem zOL{x:V}{u t:Value}(I:Inv X pins σ H s)(rx:RelV x u)(ty:TyOf X.K H x t)(e:qFx X.K t c=some b)(h:∀tk,Q (.bool b) { s with toks:=tk }) :
  wpAny (model X.prog X.w) A (call (.builtin "isinstance") [u,c]) Q E s:=by
 cases ty with
 |non=>cases(show u=qH9 from rx);exact qB4 PySem.W.kitx_none I.kIn qE5 e (fun z=>nomatch z) h
 |bl y=>cases(show u=qJg y from rx);exact qB4 PySem.W.kitx_bool I.kIn qE5 e (fun z=>nomatch z) h
 |int i=>obtain⟨t,q⟩:=(show ∃t,u=qJ2 i t from rx);cases q;exact qB4 PySem.W.kitx_int I.kIn qE5 e (fun z=>nomatch z) h
 |str y=>obtain⟨t,q⟩:=(show ∃t,u=qJ3 y t from rx);cases q;exact qB4 PySem.W.kitx_str I.kIn qE5 e (fun z=>nomatch z) h
 |flt y=>obtain⟨t,q⟩:=(show ∃t,u=qJo y t from rx);cases q;exact qB4 PySem.W.kitx_float I.kIn qE5 e (fun z=>nomatch z) h
 |@lst a xs ea=>
  cases(show u=qH6 a from rx)
  obtain⟨_,_,n,_,h1⟩:=(show ObjOk X.prog X.w H s.heap a (.lst xs) from I.hok a _ ea)
  exact qB4 qEv I.kIn ⟨_,h1,rfl⟩ e (fun z=>nomatch z) h
 |@frz a ob xs ea=>
  cases(show u=qH6 a from rx)
  obtain⟨_,_,_,n,_,h1⟩:=(show ObjOk X.prog X.w H s.heap a (.frz ob (.lst xs)) from I.hok a _ ea)
  exact qB4 qEv I.kIn ⟨_,h1,rfl⟩ e (fun z=>nomatch z) h
 |@tup a xs ea=>
  cases(show u=qH6 a from rx)
  obtain⟨_,_,_,p⟩:=(show ObjOk X.prog X.w H s.heap a (.tup xs) from I.hok a _ ea)
  obtain⟨o,h1,h2,_⟩:=p;exact qB4 PySem.W.kitx_tuple I.kIn ⟨o,h1,h2⟩ e (fun z=>nomatch z) h
 |@dK a kvs ea=>
  cases(show u=qH6 a from rx)
  obtain⟨_,_,vs,_,p⟩:=(show ObjOk X.prog X.w H s.heap a (.dK kvs) from I.hok a _ ea)
  obtain⟨o,es,ep,h1,h2,_⟩:=p;exact qB4 qEw I.kIn ⟨o,h1,h2.1⟩ e (fun z=>nomatch z) h
 |@dT a kvs ea=>
  cases(show u=qH6 a from rx)
  obtain⟨_,_,xs,_,o,es,ep,h1,h2,_⟩:=(show ObjOk X.prog X.w H s.heap a (.dT kvs) from I.hok a _ ea)
  exact qB4 qEw I.kIn ⟨o,h1,h2.1⟩ e (fun z=>nomatch z) h
 |@ins a C dx fs ea cl ha hn htk hm=>
  cases(show u=qH6 a from rx)
  obtain⟨mA,O,_⟩:=zTU I.hok ea;obtain⟨od,J,_⟩:=O.look;exact qB4 (PySem.W.kitx_own (cl.get _) cl.hd ha hn htk hm) I.kIn J e (fun z=>nomatch z) h
end
structure Room(k:Nat)(A:qH1):Prop where
 hd:A.handled=none
 dp:A.depth+3*k+5<recursionLimit
 un:A.units+16*k+200<cLine
theorem Room.mono{j k:Nat}{A:qH1}(r:Room k A)(h:j<=k):Room j A:=⟨r.hd,by have:=r.dp;omega,by have:=r.un;omega⟩
theorem Room.deeper{k:Nat}{A:qH1}(r:Room (k+1) A)(env:Env):Room k (A.deeper env):=
 ⟨r.hd,by have:=r.dp;show A.depth+1+3*k+5<_;omega,by have:=r.un;show A.units+3+16*k+200<_;omega⟩
theorem Room.depth{k:Nat}{A:qH1}(r:Room k A):A.depth<recursionLimit:=by have:=r.dp;omega
theorem Room.units{k:Nat}{A:qH1}(r:Room k A):A.units+64<cLine:=by have:=r.un;omega
noncomputable def tNil:TA:=fun _ H Q=>Q [] H
noncomputable def zIY(ta:TE)(tr:TA):TA:=fun σ H Q=>ta σ H fun x H1=>tr σ H1 fun xs H2=>Q (x::xs) H2
section
variable{X:Cx}{e:Expr}{es:List Expr}{te:TE}{t:TA}{pos:Pos}
theorem zA3:PA X [] tNil:=fun _ _ _ _ H Q I h=>Calls.spliced_nil ⟨[],H,I,.nil,h⟩
theorem zA0(ha:PE X e te)(hr:PA X es t)(hs:starEach (e::es) X.env=(false,eval e X.env)::starEach es X.env:=by rfl):PA X (e::es) (zIY te t):=by
 intro pos pins s σ H Q I h;rw[hs];show wpAny _ _ (spliced ((false,eval e X.env)::backTo pos (starEach es X.env))) _ _ s;refine Calls.spliced_cons (thn (ha pins s σ H _ I h) fun u s1 z0=>?_);obtain⟨x,H1,I1,r1,q1⟩:=z0;exact thn (hr pos pins s1 σ H1 _ I1 q1) fun us s2 ⟨xs,H2,I2,r2,q2⟩=>⟨x::xs,H2,I2,.cons r1 r2,q2⟩
def tLst(t:TA):TE:=fun σ H Q=>t σ H fun xs H1=>xs.length<=sizeLine/\∀p,H1 p=none->Q (.ref p) (upd H1 p (.lst xs))
theorem zD5(h:PA X es t):PE X (.List es pos) (tLst t):=by
 intro pins s σ H Q I hq;refine wpAny_List_spliced (thn (h pos pins s σ H _ I hq) fun us s1 ⟨xs,H1,I1,r,z,q⟩=>⟨by rw[<- r.length];exact z,?_⟩);have hf:H1 s1.heap.objs.size=none:=I1.hok.fresh (qA6 _);refine⟨.ref s1.heap.objs.size,upd H1 s1.heap.objs.size (.lst xs),I1.laid (t':=s1.toks) (fun b u e=>qGx _ e) (qA6 _) ?_,rfl,q _ hf⟩;exact⟨z,us,0,r,qH4 _ rfl⟩
end
abbrev Sp:=List V->Hp->VK->XK->Prop
abbrev CXT:=List Env->Hp->qGw->XK->Value->qGw->Prop
structure Env0(P:qGz)(w:World)(K:qA1)(mg:Str->Option Value)(base:Heap)(A:qH1)(outer:List Env)(s:qGw)(H:Hp):Prop where
 frames:A.frames=some outer
 mod:Mod K mg base
 bs:∀b o,base.get? b=some o->s.heap.get? b=some o/\H b=none
 bsz:base.objs.size<=s.heap.objs.size
 funs:s.heap.FunFrames base outer
 frf:∀b∈frs outer,H b=none
 hok:HOk P w H s.heap
 bare:qI6 s.gens
def CE(outer:List Env)(P:qGz)(w:World)(H:Hp)(s:qGw)(Q:VK)(u:Value)(s':qGw):Prop:=
 ∃v H',s'.os=s.os/\qI6 s'.gens/\Un (frs outer) [] H H' s.heap s'.heap/\HOk P w H' s'.heap/\RelV v u/\Q v H'
def CR(CX:CXT)(outer:List Env)(P:qGz)(w:World)(H:Hp)(s:qGw)(Q:VK)(E:XK)(r:qJ6)(s':qGw):Prop:=
 match r with
 |.ok (.ret u)=>CE outer P w H s Q u s'
 |.ok _=>False
 |.error e=>CX outer H s E e s'
structure FnOk(P:qGz)(w:World)(K:qA1)(mg:Str->Option Value)(base:Heap)(CX:CXT)(k:Nat)(f:Addr)(fd:qHb)(ps:List Str)(sp:Sp):Prop where
 len:∀vs H Q E,sp vs H Q E->vs.length=ps.length
 run:∀(A:qH1)(outer:List Env)(s:qGw)(H:Hp)(args:Args)(us:List Value)(vs:List V)(Q:VK)(E:XK),Room k A->Env0 P w K mg base A outer s H->qIr s fd args (ps.zip us)->Vals vs us->sp vs H Q E ->
  qId (model P w) A (.call (.ref f) args) (CR CX outer P w H s Q E) s
theorem FnOk.imp{P:qGz}{w:World}{K:qA1}{mg:Str->Option Value}{base:Heap}{CX:CXT}{k:Nat}{f:Addr}{fd:qHb}{ps:List Str}{sp sp':Sp}(F:FnOk P w K mg base CX k f fd ps sp)
  (h:∀vs H Q E,sp' vs H Q E->sp vs H Q E):FnOk P w K mg base CX k f fd ps sp':=
 ⟨fun vs H Q E q=>F.len vs H Q E (h _ _ _ _ q),fun A outer s H args us vs Q E hr he hb hv hs=>F.run A outer s H args us vs Q E hr he hb hv (h _ _ _ _ hs)⟩
section
variable{X:Cx}{pins:List (Addr×Obj)}{σ:St}{H:Hp}{s s':qGw}
theorem Inv.env0(I:Inv X pins σ H s):Env0 X.prog X.w X.K X.mg X.base X.A X.stack s H:=
 ⟨I.ok.frames,I.ok.mod,I.bs,qAj I.ok.bsz I.sz,I.stack,I.stkFree,I.hok,I.bare⟩
theorem Inv.after{Q:VK}{u:Value}(I:Inv X pins σ H s)(h:CE X.stack X.prog X.w H s Q u s'):EP X pins σ Q u s':=by
 obtain⟨v,H',os,bare,un,hok,r,q⟩:=h;obtain⟨hh,g,d,t,os'⟩:=s';obtain rfl:os'=s.os:=os;exact⟨v,H',I.call (h':=hh) (g':=g) (d':=d) (t':=t) (ch:=[]) un hok bare (fun b z=>absurd z (by simp)),r,q⟩
end
noncomputable def zKA(sp:Sp)(dvs:List V)(E:XK)(t:TA):TE:=fun σ H Q=>t σ H fun vs H1=>sp (vs++dvs) H1 Q E
def Binds(K:qA1)(fd:qHb)(ps:List Str)(ds:List Value):Prop:=
 ∀(s:qGw)(us:List Value),K.In s.heap->(us++ds).length=ps.length->qIr s fd ⟨us,[]⟩ (ps.zip (us++ds))
theorem Binds.all{K:qA1}{fd:qHb}{ps:List Str}(h:∀us:List Value,us.length=ps.length->qIo fd ⟨us,[]⟩=pure (ps.zip us)):Binds K fd ps []:=fun s us _ hl=>by
 rw[qCf]at hl ⊢;exact .of_eq (h us hl)
def zM8(CX:CXT)(X:Cx)(E:XK):Prop:=∀(pins:List (Addr×Obj))(σ:St)(H:Hp)(s:qGw)(e:Value)(s':qGw),Inv X pins σ H s->CX X.stack H s E e s'->X.xe e s'
section
variable{X:Cx}{CX:CXT}{k:Nat}{f C:Addr}{fd:qHb}{ps:List Str}{sp:Sp}{dvs:List V}{ds:List Value}{E:XK}{x m:Str}{p pos apos:Pos}{e o:Expr}{es:List Expr}{ta:TE}{t:TA}
theorem zV2{pins:List (Addr×Obj)}{σ:St}{H:Hp}{s:qGw}{Q:VK}{us:List Value}{vs:List V}(F:FnOk X.prog X.w X.K X.mg X.base CX k f fd ps sp)(hr:Room k X.A)(hb:Binds X.K fd ps ds)(hd:Vals dvs ds)(hx:zM8 CX X E)
  (I:Inv X pins σ H s) (r:Vals vs us) (h:sp (vs++dvs) H Q E):wpAny (model X.prog X.w) X.A (call (.ref f) us) (EP X pins σ Q) X.xe s:=by
 have r2:Vals (vs++dvs) (us++ds):=r.append hd;have hl:(us++ds).length=ps.length:=by rw[<- r2.length];exact F.len _ _ _ _ h
 refine wpAny_call (codeAny_mono (F.run X.A X.stack s H ⟨us,[]⟩ (us++ds) (vs++dvs) Q E hr I.env0 (hb s us I.kIn hl) r2 h) fun r s' hq=>?_);cases r with
 |error e=>exact hx pins σ H s e s' I hq
 |ok fl=>
  cases fl with
  |ret u=>exact I.after hq
  |next=>exact qA5 hq
  |brk=>exact qA5 hq
  |cont=>exact qA5 hq
theorem zNZ(F:FnOk X.prog X.w X.K X.mg X.base CX k f fd ps sp)(hr:Room k X.A)(hg:Gl X x)(hm:X.mg x=some (.ref f))(hk:qBe X.K (.ref f)=true)(hb:Binds X.K fd ps ds)(hd:Vals dvs ds)(hx:zM8 CX X E)
  (ha:PA X (e::es) t) (hdb:(x==("__debug__":Str))=false:=by decide) (he:starEach (e::es) X.env=(false,eval e X.env)::starEach es X.env:=by rfl) (hpl:(backTo pos (starEach es X.env)).any (·.1)=false:=by rfl) :
  PE X (.Call (.Name x p) (e::es) [] pos) (zKA sp dvs E t):=by
 intro pins s σ H Q I h;refine qHq (zKM I hg hm ?_ hdb);refine qEk (h₀:=X.base) I.ok.mod.kin hk (thn (ha pos pins s σ H _ I h) fun us s1 ⟨vs,H1,I1,r,q⟩=>⟨I1.kIn,?_⟩) he hpl;exact zV2 F hr hb hd hx I1 r q
end
section
variable{X:Cx}{CX:CXT}{k:Nat}{f C:Addr}{fd:qHb}{ps ks:List Str}{sp:Sp}{E:XK}{x m:Str}{p pos apos kpos:Pos}{e o:Expr}{es:List Expr}{kws:List Keyword}{te ta:TE}{t tk:TA}{nm:Option Str}
variable{g:List Value->List Value->List Value}{gV:List V->List V->List V}
end
structure FnScope(N P:List Str)(sc:Scope):Prop where
 kind:sc.kind=.function
 co:sc.isCoroutine=false
 gen:sc.isGenerator=false
 nd:N.Nodup
 pre:N.take P.length=P
 par:∀x∈P,sc.names.lookup x=some .local\/sc.names.lookup x=some .cell
 nofree:∀y∈sc.names,y.2≠.free
theorem zJT{kindOf:Str->Option qHj}{x:Str}:∀{binds:List (Str×Value)}{m:Str->Option Value},(∀v,(x,v)∉binds)->bindL kindOf binds m x=m x
 |[],_,_=>rfl
 |(n,v)::r,m,h=>by
  unfold bindL;rw[zJT fun w hw=>h w (qAm _ hw)]
  split
  ·have:x≠n:=by rintro rfl;exact h v qAv
   simp[this]
  ·rfl
theorem zJV{kindOf:Str->Option qHj}{x:Str}:∀{binds:List (Str×Value)}{m:Str->Option Value},(∀v,(x,v)∉binds)->bindC kindOf binds m x=m x
 |[],_,_=>rfl
 |(n,v)::r,m,h=>by
  unfold bindC;rw[zJV fun w hw=>h w (qAm _ hw)]
  split
  ·rfl
  ·have:x≠n:=by rintro rfl;exact h v qAv
   simp[this]
theorem zJU{kindOf:Str->Option qHj}{x:Str}{v:Value}:∀{P:List Str}{vs:List Value}{i:Nat}{m:Str->Option Value},P.Nodup->P[i]?=some x->vs[i]?=some v->kindOf x=some .local ->
  bindL kindOf (P.zip vs) m x=some v
 |[],_,_,_,_,h,_,_=>by simp at h
 |_::_,[],_,_,_,_,h,_=>by simp at h
 |p::P,w::vs,0,m,nd,h1,h2,hk=>by
  simp at h1 h2;subst h1;subst h2;show bindL kindOf ((p,w)::P.zip vs) m p=_;unfold bindL;rw[zJT fun v hv=>(qBz.mp nd).1 (qD3 hv).1,if_pos hk];simp
 |p::P,w::vs,i+1,m,nd,h1,h2,hk=>by
  show bindL kindOf ((p,w)::P.zip vs) m x=_;unfold bindL;exact zJU (i:=i) (qBz.mp nd).2 (by simpa using h1) (by simpa using h2) hk
theorem zJW{kindOf:Str->Option qHj}{x:Str}{v:Value}:∀{P:List Str}{vs:List Value}{i:Nat}{m:Str->Option Value},P.Nodup->P[i]?=some x->vs[i]?=some v->kindOf x≠some .local ->
  bindC kindOf (P.zip vs) m x=some v
 |[],_,_,_,_,h,_,_=>by simp at h
 |_::_,[],_,_,_,_,h,_=>by simp at h
 |p::P,w::vs,0,m,nd,h1,h2,hk=>by
  simp at h1 h2;subst h1;subst h2;show bindC kindOf ((p,w)::P.zip vs) m p=_;unfold bindC;rw[zJV fun v hv=>(qBz.mp nd).1 (qD3 hv).1,if_neg hk];simp
 |p::P,w::vs,i+1,m,nd,h1,h2,hk=>by
  show bindC kindOf ((p,w)::P.zip vs) m x=_;unfold bindC;exact zJW (i:=i) (qBz.mp nd).2 (by simpa using h1) (by simpa using h2) hk
noncomputable def start(N:List Str)(vs:List V):St:=vs.map some++qA2 (N.length-vs.length) none
noncomputable def cxOf(CX:CXT)(P:qGz)(w:World)(K:qA1)(mg:Str->Option Value)(base:Heap)(N:List Str)(qual:Str)(scope:Scope)(f:Addr)(cd:Value)(A:qH1)(outer:List Env)(s:qGw)(H:Hp)(E:XK):Cx where
 prog:=P
 w:=w
 K:=K
 mg:=mg
 base:=base
 A:=A.deeper (envOfC qual scope s.heap.objs.size f cd)
 N:=N
 s₀:=s
 H₀:=H
 env:=envOfC qual scope s.heap.objs.size f cd
 outer:=outer
 stack:=envOfC qual scope s.heap.objs.size f cd::outer
 ex:=[]
 calm:=true
 fn:=fun _=>true
 pn:=[]
 xe:=fun e s'=>wpAny (model P w) (A.deeper (envOfC qual scope s.heap.objs.size f cd)) (leaving (envOfC qual scope s.heap.objs.size f cd) e) (fun _ s''=>CX outer H s E e s'') (fun e' s''=>CX outer H s E e' s'') s'
theorem zM5{sc:Scope}{n:Nat}{x:Str}(h:sc.names.lookup x=some .cell):∃c,(cellsFrom n sc.names []).lookup x=some c:=by
 have q:=qCl sc.names n [] (.inl h);exact qDe.mp q
theorem zON{CX:CXT}{P:qGz}{w:World}{K:qA1}{mg:Str->Option Value}{base:Heap}{N ps:List Str}{qual:Str}{scope:Scope}{f:Addr}{cd:Value}{A:qH1}{outer:List Env}{s s1:qGw}{H:Hp}{E:XK}{us:List Value}{vs:List V}
  (S:FnScope N ps scope) (hd:A.handled=none) (e0:Env0 P w K mg base A outer s H) (hl:vs.length=ps.length) (r:Vals vs us)
  (x:InCallC s s.heap.objs.size (bindL (envOfC qual scope s.heap.objs.size f cd).kindOf (ps.zip us) fun _=>none) (cellsFrom (s.heap.objs.size+1) scope.names []) (bindC (envOfC qual scope s.heap.objs.size f cd).kindOf (ps.zip us) fun _=>none) s1) :
  Inv (cxOf CX P w K mg base N qual scope f cd A outer s H E) [] (start N vs) H s1:=by
 have hpl:ps.length<=N.length:=by have:=congrArg List.length S.pre;rw[qBx]at this;omega
 obtain⟨h1,tk,rfl,hk⟩:=x.done;have noA:∀b:Addr,b∉(cxOf CX P w K mg base N qual scope f cd A outer s H E).ex:=fun b z=>absurd (show b∈([]:List Addr) from z) (by simp)
 refine⟨⟨e0.mod,S.kind,rfl,rfl,qA6 _,fun y z c h1 h2=>?_,fun y hy=>?_,fun y c _ h=>?_,fun _=>hd,Around.frames_deeper e0.frames,.inr ⟨rfl,rfl⟩,fun b z=>absurd z (noA b),e0.bs,e0.bsz,fun b _ _=>noA b,fun b z=>absurd z (noA b),e0.funs,e0.frf⟩,
  rfl,e0.bare,Un.kept hk,⟨_,x.toInCall.ns,fun i y v h1 h2 h3=>?_⟩,fun y c h=>⟨_,x.cell y c h⟩,e0.hok.fresh (qA6 _),fun y c h=>?_,fun p hp=>absurd (show p∈([]:List (Addr×Obj)) from hp) (by simp),e0.hok.kept hk,?_⟩
 ·exact name_of_addr x.apart (qBu h1) (qBu h2)
 ·have hy:scope.names.lookup y=some .cell\/scope.names.lookup y=some .free:=hy
  rcases hy with hy|hy
  ·exact zM5 hy
  ·exact absurd rfl (S.nofree _ (qBu hy))
 ·exact qB6 (x.above y c (qBu h))
 ·have hi:i<vs.length:=by
   unfold start at h2
   by_cases hi:i<vs.length
   ·exact hi
   ·rw[qAa (by simpa using hi)]at h2;rw[qBi]at h2
    split at h2<;>cases h2
  have ha:vs[i]?=some v:=by
   unfold start at h2;rw[qA9 (by simpa using hi),qAe]at h2;cases e:vs[i]? with
   |none=>rw[e]at h2;cases h2
   |some a=>rw[e]at h2;cases h2;rfl
  obtain⟨u,hu,rv⟩:=r.get ha;have hp:ps[i]?=some y:=by
   rw[<- S.pre,List.getElem?_take_of_lt (by omega)];exact h1
  have ndP:ps.Nodup:=by rw[<- S.pre];exact S.nd.sublist (List.take_sublist _ _)
  refine⟨u,rv,?_⟩
  rcases S.par y (qBq hp)with k|k
  ·exact .inl ⟨k,zJU ndP hp hu k⟩
  ·obtain⟨c,e⟩:=zM5 (n:=s.heap.objs.size+1) k;refine .inr ⟨.inl k,c,e,?_⟩;have q:=x.cell y c e;rw[zJW ndP hp hu (by show scope.names.lookup y≠_;rw[k];decide)]at q;exact q
 ·exact e0.hok.fresh (qB6 (x.above y c (qBu h)))
 ·unfold start;show _=N.length;rw[qAw,qAh,qC0];omega
theorem zWR{CX:CXT}{P:qGz}{w:World}{K:qA1}{mg:Str->Option Value}{base:Heap}{k:Nat}{f:Addr}{name qual:Str}{params:Arguments}{body:List Stmt}{scope:Scope}{dV kV doc pm cdv ct oc:Value}{an od:Option Addr}
  {osl:Array (Option Value)} {N ps:List Str} {sp:Sp} (lk:K.lookup f=some ⟨oc,od,.func (qBa name qual params body scope dV kV doc pm an cdv ct),osl⟩) (hcd:qCr K cdv qual=true) (S:FnScope N ps scope)
  (len:∀vs H Q E,sp vs H Q E->vs.length=ps.length)
  (hbody:∀(A:qH1)(outer:List Env)(s:qGw)(H:Hp)(vs:List V)(Q:VK)(E:XK),Room k (A.deeper (envOfC qual scope s.heap.objs.size f cdv))->sp vs H Q E ->
   ∃t,PSs (cxOf CX P w K mg base N qual scope f cdv A outer s H E) body t/\t { nx:=fun _ H'=>Q .non H',rt:=Q } (start N vs) H) :
  FnOk P w K mg base CX (k+1) f (qBa name qual params body scope dV kV doc pm an cdv ct) ps sp:=by
 refine⟨len,fun A outer s H args us vs Q E hr e0 hb r hsp=>?_⟩;have hl:=len _ _ _ _ hsp;have KX:K.In s.heap:=e0.mod.kin.keeps fun b o e=>(e0.bs b o e).1
 have lim:s.heap.NoLimit:=e0.mod.nolimit.keeps fun b o e=>(e0.bs b o e).1
 have hkind:∀y∈ps.zip us,scope.names.lookup y.1=some .local\/(scope.names.lookup y.1=some .cell/\((cellsFrom (s.heap.objs.size+1) scope.names []).lookup y.1).isSome=true):=fun⟨n,v⟩ hy=>by
  rcases S.par n (qD3 hy).1 with q|q
  ·exact .inl q
  ·exact .inr ⟨q,qCl _ _ _ (.inl q)⟩
 refine codeAny_call_function hr.depth (KX _ _ lk) rfl S.co S.gen rfl (PySem.W.codeRec_of KX hcd) (hb _ _ _ _ ?_);refine wpAny_newFunctionEnv_cells S.kind hkind fun env he s1 x=>?_
 subst he;refine⟨lim.keeps x.toInCall.keep,codeAny_func ?_⟩;obtain⟨t,ht,hq⟩:=hbody A outer s H vs Q E (hr.deeper _) hsp;have I:Inv (cxOf CX P w K mg base N qual scope f cdv A outer s H E) [] (start N vs) H s1:=zON S hr.hd e0 hl r x;refine wpAny_mono (ht [] s1 (start N vs) H _ I hq) (fun fl s' hs=>?_) fun e s' hs=>hs
 have fin:∀{σ':St}{H':Hp}{v:V}{u:Value},Inv (cxOf CX P w K mg base N qual scope f cdv A outer s H E) [] σ' H' s'->RelV v u->Q v H'->CE outer P w H s Q u s':=
  fun{σ' H' v u} J rv q=>⟨v,H',J.os,J.bare,J.base,J.hok,rv,q⟩
 cases fl with
 |ret u=>
  obtain⟨v,σ',H',J,rv,q⟩:=hs;exact fin J rv q
 |next=>
  obtain⟨σ',H',J,q⟩:=hs;exact fin (v:=V.non) (u:=qH9) J rfl q
 |brk=>
  obtain⟨_,_,_,q⟩:=hs;exact qA5 q
 |cont=>
  obtain⟨_,_,_,q⟩:=hs;exact qA5 q
section
variable{X:Cx}{x:Str}{p pos:Pos}{e:Expr}{es:List Expr}{t:TA}{id T:String}{r:List V->Hp->VK->Prop}
noncomputable def tCB(r:List V->Hp->VK->Prop)(t:TA):TE:=fun σ H Q=>t σ H fun vs H1=>r vs H1 Q
theorem zAP(hc:zE7 X (.builtin id) r)(hg:Gl X x)(hm:X.mg x=none)(hv:qHx x=some (.builtin id))(ha:PA X (e::es) t)(hn:x ≠ "__name__":=by decide)(hdb:(x==("__debug__":Str))=false:=by decide)
  (he:starEach (e::es) X.env=(false,eval e X.env)::starEach es X.env:=by rfl) (hpl:(backTo pos (starEach es X.env)).any (·.1)=false:=by rfl):PE X (.Call (.Name x p) (e::es) [] pos) (tCB r t):=by
 intro pins s σ H Q I h;refine qHq (zGB I hg hm hv ?_ hn hdb);exact qF0 (thn (ha pos pins s σ H _ I h) fun us s1 ⟨vs,H1,I1,r1,q1⟩=>hc pins s1 σ H1 vs us Q I1 r1 q1) he hpl
theorem zJ7(hc:zE7 X (.type T) r)(hg:Gl X x)(hm:X.mg x=none)(hv:qHx x=some (.type T))(ha:PA X (e::es) t)(hn:x ≠ "__name__":=by decide)(hdb:(x==("__debug__":Str))=false:=by decide)
  (he:starEach (e::es) X.env=(false,eval e X.env)::starEach es X.env:=by rfl) (hpl:(backTo pos (starEach es X.env)).any (·.1)=false:=by rfl):PE X (.Call (.Name x p) (e::es) [] pos) (tCB r t):=by
 intro pins s σ H Q I h;refine qHq (zGB I hg hm hv ?_ hn hdb);exact qB7 (thn (ha pos pins s σ H _ I h) fun us s1 ⟨vs,H1,I1,r1,q1⟩=>hc pins s1 σ H1 vs us Q I1 r1 q1) he hpl
end
end L2
namespace Mi
end Mi
namespace PySem
open PyProof.Rows
end PySem
namespace Mi
open PySem
noncomputable section
end
noncomputable section
end
noncomputable section
end
noncomputable section
end
noncomputable section
end
noncomputable section
end
noncomputable section
end
noncomputable section
end
noncomputable section
end
noncomputable section
end
noncomputable section
end
noncomputable section
end
noncomputable section
end
noncomputable section
end
noncomputable section
end
noncomputable section
end
noncomputable section
end
noncomputable section
end
end Mi
namespace PySem
open Builtin Builtin.Str PySem.Spec
end PySem
namespace HT
open PySem PyProof.Rows
section
open PySem.SeqAt
open PySem.AutoSeq1 (wpAny_loadPart')
open PySem.MeetsSeq PySem.MeetsSeq2 PySem.MeetsSeq3
end
section
variable{prog:qGz}{w:World}{A:qH1}{E:Value->qGw->Prop}{s:qGw}
noncomputable def sIx(n d:Nat):Option Int->Nat
 |none=>d
 |some v=>if v<0 then(v+(n:Int)).toNat else min v.toNat n
end
end HT
namespace L2
open PySem PySem.Spec PyProof.Rows
abbrev TO:=St->Hp->(Option Int->Hp->Prop)->Prop
def PO(X:Cx)(e:Option Expr)(t:TO):Prop:=
 ∀(pins:List (Addr×Obj))(s:qGw)(σ:St)(H:Hp)(Q:Option Int->Hp->Prop),Inv X pins σ H s->t σ H Q ->
  wpAny (model X.prog X.w) X.A (evalPart e X.env) (fun u s'=>∃o H',Inv X pins σ H' s'/\IsPart u o/\Q o H') X.xe s
noncomputable def zN5:TO:=fun _ H Q=>Q none H
noncomputable def zUV(t:TE):TO:=fun σ H Q=>t σ H fun x H1=>∃i,x=.int i/\Q (some i) H1
section
variable{X:Cx}{e:Expr}{te:TE}{lo hi:Option Expr}{tl th:TO}{pos p2:Pos}
theorem zNW:PO X none zN5:=by
 intro pins s σ H Q I h;rw[evalPart_none];exact wpAny_pure ⟨none,H,I,.none,h⟩
theorem zNV(h:PE X e te):PO X (some e) (zUV te):=by
 intro pins s σ H Q I hw;rw[evalPart_some];refine thn (h pins s σ H _ I hw) fun u s1 z0=>?_
 obtain⟨x,H1,I1,r1,q1⟩:=z0;obtain⟨i,rfl,q⟩:=q1;obtain⟨t,rfl⟩:=r1;exact⟨some i,H1,I1,.int i t,q⟩
def SlR(X:Cx)(r:V->Option Int->Option Int->Hp->VK->Prop):Prop:=
 ∀(pins:List (Addr×Obj))(s:qGw)(σ:St)(H:Hp)(x:V)(v vl vu:Value)(lo hi:Option Int)(sl:Addr)(Q:VK),Inv X pins σ H s->RelV x v->s.heap.IsSliceOf sl vl vu .none->IsPart vl lo->IsPart vu hi->r x lo hi H Q ->
  ∃T id,typeLookup (.type T) "__getitem__" = pure (some (.builtin id))/\s.TypeIs v T/\wpAny (model X.prog X.w) X.A (getItem v (.ref sl)) (EP X pins σ Q) X.xe s
noncomputable def tSl(r:V->Option Int->Option Int->Hp->VK->Prop)(te:TE)(tl th:TO):TE:=fun σ H Q=>te σ H fun x H1=>tl σ H1 fun l H2=>th σ H2 fun u H3=>r x l u H3 Q
theorem zLP{r:V->Option Int->Option Int->Hp->VK->Prop}(hr:SlR X r)(he:PE X e te)(hl:PO X lo tl)(hu:PO X hi th):PE X (.Subscript e (.Slice lo hi none p2) pos) (tSl r te tl th):=by
 intro pins s σ H Q I h;refine Subscript_ (thn (he pins s σ H _ I h) fun v s1 z0=>?_);obtain⟨x,H1,I1,r1,q1⟩:=z0;refine wpAny_Slice (thn (hl pins s1 σ H1 _ I1 q1) fun vl s2 ⟨l,H2,I2,pl,q2⟩=>thn (hu pins s2 σ H2 _ I2 q2) fun vu s3 ⟨u,H3,I3,pu,q3⟩=>?_);rw[evalPart_none];refine wpAny_pure ?_;have I4:Inv X pins σ H3 { s3 with heap:=s3.heap.push { cls:=.type "slice",data:=.fields #[vl,vu,.none] } }:=I3.kept (t':=s3.toks) fun b ob q=>qGx _ q
 obtain⟨T,id,hT,ht,hg⟩:=hr pins { s3 with heap:=s3.heap.push { cls:=.type "slice",data:=.fields #[vl,vu,.none] } } σ H3 x v vl vu l u s3.heap.objs.size Q I4 r1 (qJp ..) pl pu q3;show wpAny (model X.prog X.w) X.A (subscriptTail e (.Slice lo hi none p2) v (.ref s3.heap.objs.size)) (EP X pins σ Q) X.xe { s3 with heap:=s3.heap.push { cls:=.type "slice",data:=.fields #[vl,vu,.none] } };exact tail_any (ops:=[.ref s3.heap.objs.size,v]) ht hT hg (by with_unfolding_all rfl)
def cutV(xs:List V)(lo hi:Option Int):List V:=(xs.drop (HT.sIx xs.length 0 lo)).take (HT.sIx xs.length xs.length hi-HT.sIx xs.length 0 lo)
theorem zKQ(xs:List V)(lo hi:Option Int):(cutV xs lo hi).length<=xs.length:=by
 unfold cutV;rw[qBx,List.length_drop];omega
end
noncomputable def ixN(n:Nat)(i:Int):Option Nat:=if 0<=i then(if i<n then some i.toNat else none)else if -(n:Int)<=i then some (i+n).toNat else none
def atI{α:Type}(xs:List α)(i:Int):Option α:=(ixN xs.length i).bind fun j=>xs[j]?
theorem zKO{n:Nat}{i:Int}{j:Nat}(h:ixN n i=some j):qJ7 i n=some j/\j<n/\-(n:Int)<=i/\i<n:=by
 unfold ixN at h
 by_cases h0:0<=i
 ·rw[if_pos h0]at h
  by_cases h1:i<n
  ·rw[if_pos h1]at h;have e:i.toNat=j:=qB3 h;exact⟨by rw[qJ8 h0 h1,e],by omega,by omega,h1⟩
  ·rw[if_neg h1]at h;cases h
 ·rw[if_neg h0]at h
  by_cases h1:-(n:Int)<=i
  ·rw[if_pos h1]at h;have e:(i+n).toNat=j:=qB3 h;exact⟨by rw[qIw (by omega) h1,e],by omega,h1,by omega⟩
  ·rw[if_neg h1]at h;cases h
theorem zL5{α:Type}{xs:List α}{i:Int}{v:α}(h:atI xs i=some v):∃j,qJ7 i xs.length=some j/\xs[j]?=some v/\j<xs.length/\-(xs.length:Int)<=i/\i<xs.length:=by
 unfold atI at h;cases e:ixN xs.length i with
 |none=>rw[e]at h;cases h
 |some j=>
  rw[e]at h;obtain⟨h1,h2,h3,h4⟩:=zKO e;exact⟨j,h1,h,h2,h3,h4⟩
def zUH(b:Expr):Prop:=∀o i,subscripted b false o i=operate [o,i] (getItem o i)
def IxR(X:Cx)(r:R2):Prop:=
 ∀(value slice:Expr)(pins:List (Addr×Obj))(s:qGw)(σ:St)(H:Hp)(x y:V)(v u:Value)(Q:VK),Inv X pins σ H s->RelV x v->RelV y u->r x y H Q ->
  subscripted slice false v u=operate [v,u] (getItem v u)->wpAny (model X.prog X.w) X.A (subscriptTail value slice v u) (EP X pins σ Q) X.xe s
def MtR(X:Cx)(id:String)(r:V->List V->Hp->VK->Prop):Prop:=
 ∀(pins:List (Addr×Obj))(s:qGw)(σ:St)(H:Hp)(x:V)(xs:List V)(v:Value)(us:List Value)(Q:VK),Inv X pins σ H s->RelV x v->Vals xs us->r x xs H Q ->
  wpAny (model X.prog X.w) X.A (call (.builtin id) (v::us)) (EP X pins σ Q) X.xe s
section
variable{X:Cx}{a b:Expr}{ta tb:TE}{pos:Pos}
theorem zC2{r:R2}(hr:IxR X r)(ha:PE X a ta)(hb:PE X b tb)(hs:zUH b):PE X (.Subscript a b pos) (tOp r ta tb):=by
 intro pins s σ H Q I h;exact Subscript_ (binT ha hb I h fun v u s2 x y H2 I2 rx ry q=>hr a b pins s2 σ H2 x y v u Q I2 rx ry q (hs _ _))
def rIxL(K:qA1):R2:=fun x y H Q=>∃p xs i v,x=.ref p/\y=.int i/\SqL K H p xs/\atI xs i=some v/\Q v H
def rIxT(K:qA1):R2:=fun x y H Q=>∃p xs i v,x=.ref p/\y=.int i/\SqT K H p xs/\atI xs i=some v/\Q v H
def rIxS:R2:=fun x y H Q=>∃z i c,x=.str z/\y=.int i/\z.length<=sizeLine/\atI z.cps.toList i=some c/\Q (.str ⟨#[c]⟩) H
theorem zTR:IxR X (rIxL X.K):=by
 intro value slice pins s σ H x y v u Q I rx ry h hs;obtain⟨p,xs,i,z,rfl,rfl,hq,he,q⟩:=h;cases rx;obtain⟨t,rfl⟩:=ry;obtain⟨its,r,pl,hz⟩:=I.list hq;obtain⟨j,h1,h2,h3,h4,h5⟩:=zL5 he;obtain⟨w,ew,rw'⟩:=r.get h2;have hl:=r.length;have hn:=zG9;have fin:EP X pins σ Q w s:=⟨z,H,I,rw',q⟩
 by_cases h0:0<=i
 ·have hj:i.toNat=j:=by
   rw[qJ8 h0 h5]at h1;exact qB3 h1
  exact item_listR pl.isList h0 (by omega) (by rw[hj];simpa using ew) fin hs
 ·have hj:(i+(its.toArray.size:Int)).toNat=j:=by
   rw[qIw (by omega) h4]at h1;rw[qAb,<- hl];exact qB3 h1
  exact qIa (x:=w) pl.isList.typeIs qIs.lookup
   (wpAny_getItem_list_neg (Q:=fun r s'=>r=w/\EP X pins σ Q r s') pl.isList (by omega) (by rw[qAb]<;>omega) (by omega) (by rw[hj];simpa using ew) ⟨rfl,fin⟩) hs
theorem zWG:IxR X (rIxT X.K):=by
 intro value slice pins s σ H x y v u Q I rx ry h hs;obtain⟨p,xs,i,z,rfl,rfl,hq,he,q⟩:=h;cases rx;obtain⟨t,rfl⟩:=ry;obtain⟨its,r,pl,hz⟩:=I.tuple hq;obtain⟨j,h1,h2,h3,h4,h5⟩:=zL5 he;obtain⟨w,ew,rw'⟩:=r.get h2;have hl:=r.length;have hn:=zG9;have fin:EP X pins σ Q w s:=⟨z,H,I,rw',q⟩
 exact qIa (x:=w) pl.typeIs qHr.lookup
  (getItem_tuple (j:=j) (Q:=fun r s'=>r=w/\EP X pins σ Q r s') pl (by omega) (by omega) (by rw[qAb,<- hl];exact h1) (by simpa using ew) ⟨rfl,fin⟩) hs
theorem zWI:IxR X rIxS:=by
 intro value slice pins s σ H x y v u Q I rx ry h hs;obtain⟨z,i,c,rfl,rfl,hz,he,q⟩:=h;obtain⟨t,rfl⟩:=rx;obtain⟨t',rfl⟩:=ry;obtain⟨j,h1,h2,h3,h4,h5⟩:=zL5 he;have hl:z.cps.toList.length=z.length:=by simp[Str.length]
 rw[hl]at h1 h4 h5;have hn:=zG9;exact tail_any (typeIs_str s z t) slot_str_getitem.lookup (getItem_str (c:=c) (by
  have e1:decide (i < -(2 ^ 63:Int))=false:=decide_eq_false (by omega);have e2:decide (i>=2 ^ 63)=false:=decide_eq_false (by omega);rw[e1,e2,Bool.or_false]) (by rw[h1];simpa using h2) ⟨.str ⟨#[c]⟩,H,I.tok _,⟨_,rfl⟩,q⟩) hs
theorem zMI(its:List Value)(n j:Nat)(u:Value):qIi (·.setIfInBounds j u) { cls:=.type "list",data:=.seq its.toArray n }={ cls:=.type "list",data:=.seq (its.set j u).toArray n }:=by
 simp[qIi]
theorem Inv.lst{pins:List (Addr×Obj)}{σ:St}{H:Hp}{s:qGw}{p:Addr}{xs:List V}(I:Inv X pins σ H s)(h:H p=some (.lst xs)) :
  ∃(its:List Value)(n:Nat),Vals xs its/\s.heap.get? p=some { cls:=.type "list",data:=.seq its.toArray n }/\xs.length<=sizeLine:=by
 obtain⟨z,its,n,r,e⟩:=I.hok p _ h;exact⟨its,n,r,e,z⟩
theorem Inv.lstUpd{pins:List (Addr×Obj)}{σ:St}{H:Hp}{s:qGw}{p:Addr}{xs ys:List V}{its its':List Value}{n n':Nat}{f:Obj->Obj}(I:Inv X pins σ H s)(h:H p=some (.lst xs))
  (ho:s.heap.get? p=some { cls:=.type "list",data:=.seq its.toArray n }) (hf:f { cls:=.type "list",data:=.seq its.toArray n }={ cls:=.type "list",data:=.seq its'.toArray n' }) (r:Vals ys its') (hz:ys.length<=sizeLine) (t:Nat) :
  Inv X pins σ (upd H p (.lst ys)) { s with heap:=s.heap.update p f,toks:=t }:=by
 have e:(s.heap.update p f).get? p=some { cls:=.type "list",data:=.seq its'.toArray n' }:=by
  rw[qHc f ho (by rw[hf]<;>rfl),hf]
 refine I.write (x:=p) (e:=p) (by rw[h];trivial) (.inl rfl) (fun b u hb q=>(qH5 _ _ (qD0 hb)).trans q) ⟨_,e⟩ ?_;exact⟨hz,its',n',r,e⟩
def zY7:V->V->V->Hp->(Hp->Prop)->Prop:=fun o i v H Q=>∃p xs k j,o=.ref p/\i=.int k/\H p=some (.lst xs)/\ixN xs.length k=some j/\Q (upd H p (.lst (xs.set j v)))
theorem zQ1:PSet X zY7:=by
 intro pins s σ H o i v ov iv u Q I ro ri rv h;obtain⟨p,xs,k,j,rfl,rfl,hp,hj,q⟩:=h;cases ro;obtain⟨t,rfl⟩:=ri;obtain⟨its,n,r,ho,hz⟩:=I.lst hp;obtain⟨h1,h2,h3,h4⟩:=zKO hj;have hl:=r.length;have hn:=zG9;have I':Inv X pins σ (upd H p (.lst (xs.set j v))) { s with heap:=s.heap.update p (qIi (·.setIfInBounds j u)) }:=
  I.lstUpd hp ho (zMI its n j u) (r.set rv j) (by rw[qFc];exact hz) s.toks
 by_cases h0:0<=k
 ·have hk:k.toNat=j:=by
   rw[qJ8 h0 h4]at h1;exact qB3 h1
  exact PySem.W.ki_setAt ho h0 (by omega) (by rw[qAb,<- hl];exact h4) (by rw[hk];exact⟨_,I',q⟩)
 ·have hk:(k+(its.toArray.size:Int)).toNat=j:=by
   rw[qIw (by omega) h3]at h1;rw[qAb,<- hl];exact qB3 h1
  exact PySem.W.ki_setBack ho (by omega) (by rw[qAb,<- hl];exact h3) (by omega) (by rw[hk];exact⟨_,I',q⟩)
theorem zJ0(lo hi:Option Int)(n:Nat):(sliceBounds lo hi none n).1=((HT.sIx n 0 lo:Nat):Int)/\(sliceBounds lo hi none n).2.1=((HT.sIx n n hi:Nat):Int)/\(sliceBounds lo hi none n).2.2=1:=by
 refine⟨?_,?_,rfl⟩
 ·cases lo with
  |none=>simp[sliceBounds,HT.sIx]
  |some i=>
   simp only[sliceBounds,HT.sIx,qF6,show(1:Int)>0 by decide,if_true]
   by_cases h:i<0
   ·simp only[h,if_true]<;>omega
   ·simp only[h,if_false]<;>omega
 ·cases hi with
  |none=>simp[sliceBounds,HT.sIx]
  |some i=>
   simp only[sliceBounds,HT.sIx,qF6,show(1:Int)>0 by decide,if_true]
   by_cases h:i<0
   ·simp only[h,if_true]<;>omega
   ·simp only[h,if_false]<;>omega
theorem zHE(its:List Value)(lo hi:Option Int):slicePick its.toArray lo hi none=((its.drop (HT.sIx its.length 0 lo)).take (HT.sIx its.length its.length hi-HT.sIx its.length 0 lo)).toArray:=by
 obtain⟨h1,h2,h3⟩:=zJ0 lo hi its.toArray.size;unfold slicePick;rw[h1,h2,h3];simp only[sliceRange_one,pick_run,qAb]<;>rfl
def rSlL(K:qA1):V->Option Int->Option Int->Hp->VK->Prop:=fun x lo hi H Q=>∃a xs,x=.ref a/\SqL K H a xs/\∀p,H p=none->Q (.ref p) (upd H p (.lst (cutV xs lo hi)))
theorem zNB:SlR X (rSlL X.K):=by
 intro pins s σ H x v vl vu lo hi sl Q I rx hs pl pu h;obtain⟨a,xs,rfl,hx,q⟩:=h;cases rx;obtain⟨its,r,ht,hz⟩:=I.list hx;have hlen:=r.length;refine⟨"list",_,qIs.lookup,ht.isList.typeIs,?_⟩;refine wpAny_getItem_list_slice ht.isList hs pl pu .none (by simp) ?_ (by rw[qAb]<;>omega);rw[zHE,<- hlen];refine⟨.ref s.heap.objs.size,_,I.laid (t':=s.toks) (o:=.lst (cutV xs lo hi)) (fun b ob q=>qGx _ q) (qA6 _) ?_,rfl,q _ (I.hok.fresh (qA6 _))⟩;exact⟨qAj (zKQ xs lo hi) hz,_,0,(r.drop (HT.sIx xs.length 0 lo)).take (HT.sIx xs.length xs.length hi-HT.sIx xs.length 0 lo),qH4 _ rfl⟩
noncomputable def zDP:V->Bool
 |.non=>true
 |.bl _=>true
 |.int _=>true
 |.str _=>true
 |_=>false
noncomputable def eqV:V->V->Bool
 |.non,.non=>true
 |.bl a,.bl b=>a==b
 |.bl a,.int b=>(if a then 1 else 0)==b
 |.int a,.bl b=>a==(if b then 1 else 0)
 |.int a,.int b=>a==b
 |.str a,.str b=>a==b
 |_,_=>false
theorem zS3{A:qH1}{s:qGw}{y x:V}{u v:Value}(ry:RelV y u)(rx:RelV x v)(fy:zDP y=true)(fx:zDP x=true):qI0 A s u v (eqV y x):=by
 cases y with
 |non=>
  cases ry;cases x with
  |non=>cases rx;exact qIe _
  |bl b=>cases rx;exact SeqAt.EqAt.none_bool b
  |int b=>obtain⟨t,rfl⟩:=rx;exact SeqAt.EqAt.none_int b t
  |str b=>obtain⟨t,rfl⟩:=rx;exact SeqAt.EqAt.none_str b t
  |_=>exact absurd (show false=true from fx) qAd
 |bl a=>
  cases ry;cases x with
  |non=>cases rx;exact SeqAt.EqAt.bool_none a
  |bl b=>cases rx;exact SeqAt.EqAt.bool_bool a b
  |int b=>obtain⟨t,rfl⟩:=rx;exact SeqAt.EqAt.bool_int a b t
  |str b=>obtain⟨t,rfl⟩:=rx;exact SeqAt.EqAt.bool_str a b t
  |_=>exact absurd (show false=true from fx) qAd
 |int a=>
  obtain⟨t',rfl⟩:=ry;cases x with
  |non=>cases rx;exact SeqAt.EqAt.int_none a t'
  |bl b=>cases rx;exact SeqAt.EqAt.int_bool a t' b
  |int b=>obtain⟨t,rfl⟩:=rx;exact SeqAt.EqAt.int_int a t' b t
  |str b=>obtain⟨t,rfl⟩:=rx;exact qIm a t' b t
  |_=>exact absurd (show false=true from fx) qAd
 |str a=>
  obtain⟨t',rfl⟩:=ry;cases x with
  |non=>cases rx;exact SeqAt.EqAt.str_none a t'
  |bl b=>cases rx;exact SeqAt.EqAt.str_bool a t' b
  |int b=>obtain⟨t,rfl⟩:=rx;exact qIn a t' b t
  |str b=>obtain⟨t,rfl⟩:=rx;exact SeqAt.EqAt.str_str a t' b t
  |_=>exact absurd (show false=true from fx) qAd
 |_=>exact absurd (show false=true from fy) qAd
def eqU(x:V)(u:Value):Bool:=match u with
 |.none=>eqV .non x
 |.bool b=>eqV (.bl b) x
 |.int i _=>eqV (.int i) x
 |.str z _=>eqV (.str z) x
 |_=>false
theorem zOW{x y:V}{u:Value}(r:RelV y u)(f:zDP y=true):eqU x u=eqV y x:=by
 cases y with
 |non=>cases r;rfl
 |bl b=>cases r;rfl
 |int i=>obtain⟨t,rfl⟩:=r;rfl
 |str z=>obtain⟨t,rfl⟩:=r;rfl
 |_=>exact absurd (show false=true from f) qAd
theorem zL6{x:V}:∀{xs:List V}{us:List Value},Vals xs us->xs.all zDP=true->us.any (eqU x)=xs.any fun y=>eqV y x
 |_,_,.nil,_=>rfl
 |y::xs,u::us,.cons r t,f=>by
  rw[qC6,qB5]at f;rw[qCy,qCy,zOW r f.1,zL6 t f.2]
theorem zFO{A:qH1}{s:qGw}{x:V}{v:Value}(rx:RelV x v)(fx:zDP x=true):∀{xs:List V}{us:List Value},Vals xs us->xs.all zDP=true->∀u∈us,qI0 A s u v (eqU x u)
 |_,_,.nil,_=>fun u hu=>by cases hu
 |y::xs,u::us,.cons r t,f=>fun u' hu=>by
  rw[qC6,qB5]at f
  rcases qAk.mp hu with rfl|hu
  ·rw[zOW r f.1];exact zS3 r rx f.1 fx
  ·exact zFO rx fx t f.2 u' hu
def inV(x:V)(xs:List V):Bool:=xs.any fun y=>eqV y x
def rIn(K:qA1)(neg:Bool):R2:=fun x y H Q=>∃p xs,y=.ref p/\(SqL K H p xs\/SqT K H p xs)/\zDP x=true/\xs.all zDP=true/\Q (.bl (if neg then !inV x xs else inV x xs)) H
theorem zO3:OpR X (compareOp .In) (rIn X.K false):=by
 intro pins s σ H x y v u Q I rx ry h;obtain⟨p,xs,rfl,hq,fx,fs,q⟩:=h;cases ry
 rcases hq with hq|hq
 ·obtain⟨its,r,pl,hz⟩:=I.list hq;refine SeqAt.in_listAt (eqU x) pl.isList (fun w hw=>zFO rx fx r fs w (by simpa using hw)) ⟨.bl _,H,I,rfl,?_⟩;rw[show its.toArray.any (eqU x)=its.any (eqU x) by simp,zL6 r fs];exact q
 ·obtain⟨its,r,pl,hz⟩:=I.tuple hq;refine SeqAt.in_tupleAt (eqU x) pl (fun w hw=>zFO rx fx r fs w (by simpa using hw)) ⟨.bl _,H,I,rfl,?_⟩;rw[show its.toArray.any (eqU x)=its.any (eqU x) by simp,zL6 r fs];exact q
theorem zJS:zE7 X (.builtin "len") (fun xs H Q=>∃p ys,xs=[.ref p]/\(SqL X.K H p ys\/SqT X.K H p ys)/\Q (.int ys.length) H):=by
 intro pins s σ H xs us Q I r h;obtain⟨p,ys,rfl,hq,q⟩:=h;obtain⟨u,rfl,rx⟩:=zGO r;cases rx;have hn:=zG9
 rcases hq with hq|hq
 ·obtain⟨its,r',pl,hz⟩:=I.list hq;have hlen:=r'.length;exact Calls.call_len_list pl.isList (by simp only[qAb]<;>omega) ⟨.int ys.length,H,I.tok _,⟨s.toks+1,by rw[qAb,hlen]⟩,q⟩
 ·obtain⟨its,r',pl,hz⟩:=I.tuple hq;have hlen:=r'.length;exact len_tuple pl (by simp only[qAb]<;>omega) ⟨.int ys.length,H,I.tok _,⟨s.toks+1,by rw[qAb,hlen]⟩,q⟩
theorem zJR:zE7 X (.builtin "len") (fun xs H Q=>∃z,xs=[.str z]/\z.length<=sizeLine/\Q (.int z.length) H):=by
 intro pins s σ H xs us Q I r h;obtain⟨z,rfl,hz,q⟩:=h;obtain⟨u,rfl,t,rfl⟩:=zGO r;have hn:=zG9;exact len_str (by omega) ⟨.int z.length,H,I.tok _,⟨_,rfl⟩,q⟩
theorem zJQ:zE7 X (.type "list") (fun xs H Q=>∃p ys,xs=[.ref p]/\(SqL X.K H p ys\/SqT X.K H p ys)/\∀l,H l=none->Q (.ref l) (upd H l (.lst ys))):=by
 intro pins s σ H xs us Q I r h;obtain⟨p,ys,rfl,hq,q⟩:=h;obtain⟨u,rfl,rx⟩:=zGO r;cases rx;have fin:∀(its:List Value),Vals ys its->ys.length<=sizeLine->∀(h':Heap)(c':Nat),(∀b o',s.heap.get? b=some o'->h'.get? b=some o') ->
   h'.get? s.heap.objs.size=some { cls:=.type "list",dict:=none,data:=.seq its.toArray c',slots:=#[] }->EP X pins σ Q (.ref s.heap.objs.size) { s with heap:=h' }:=fun its r' hz h' c' kp e=>
  ⟨.ref s.heap.objs.size,_,I.laid (t':=s.toks) kp (qA6 _) (show ObjOk X.prog X.w _ h' _ (.lst ys) from⟨hz,its,c',r',e⟩),rfl,q _ (I.hok.fresh (qA6 _))⟩
 rcases hq with hq|hq
 ·obtain⟨its,r',pl,hz⟩:=I.list hq;have hlen:=r'.length;obtain⟨o,ho,hc,n,hd⟩:=pl.isList;exact call_list_seq p (.inl rfl) ho hc hd (fun h' c' kp e=>fin its r' hz h' c' kp e) (by simp only[qAb]<;>omega)
 ·obtain⟨its,r',pl,hz⟩:=I.tuple hq;have hlen:=r'.length;obtain⟨o,ho,hc,n,hd⟩:=pl;exact call_list_seq p (.inr rfl) ho hc hd (fun h' c' kp e=>fin its r' hz h' c' kp e) (by simp only[qAb]<;>omega)
def tyV(K:qA1)(T:String)(x:V)(H:Hp):Prop:=match x with
 |.str _=>T = "str"
 |.int _=>T = "int"
 |.ref p=>(T = "list" /\ ∃xs,SqL K H p xs)\/(T = "tuple" /\ ∃o,K.lookup p=some o/\o.cls=.type "tuple" /\ o.dict=none) \/
   (T = "dict" /\ ((∃kvs,H p=some (.dK kvs))\/∃kvs,H p=some (.dT kvs)))\/(T = "set" /\ ∃S n,H p=some (.set S n))
 |_=>False
theorem zUS{pins:List (Addr×Obj)}{σ:St}{H:Hp}{s:qGw}{T:String}{x:V}{v:Value}(I:Inv X pins σ H s)(r:RelV x v)(ty:tyV X.K T x H) :
  s.TypeIs v T/\∀a,v=.ref a->∃ob,s.heap.get? a=some ob/\ob.dict=none:=by
 cases x with
 |str z=>
  obtain⟨t,rfl⟩:=r
  cases(show T = "str" from ty)
  exact⟨typeIs_str s z t,fun _ e=>nomatch e⟩
 |int i=>
  obtain⟨t,rfl⟩:=r
  cases(show T = "int" from ty)
  exact⟨typeIs_int s i t,fun _ e=>nomatch e⟩
 |ref p=>
  cases r
  rcases ty with⟨rfl,xs,hq⟩|⟨rfl,o,hk,hc,hd⟩|⟨rfl,hk⟩|⟨rfl,S,n,hk⟩
  ·obtain⟨its,_,pl,_⟩:=I.list hq;refine⟨pl.isList.typeIs,fun a e=>?_⟩;cases e;obtain⟨o,n,e,c,hd,_⟩:=pl;exact⟨o,e,hd⟩
  ·refine⟨⟨o,I.kIn p o hk,hc⟩,fun a e=>?_⟩;cases e;exact⟨o,I.kIn _ o hk,hd⟩
  ·have z:∃o,s.heap.get? p=some o/\o.ExactDict:=by
    rcases hk with⟨kvs,hk⟩|⟨kvs,hk⟩
    ·obtain⟨_,_,_,_,o,_,_,e,ex,_⟩:=I.hok p _ hk;exact⟨o,e,ex⟩
    ·obtain⟨_,_,_,_,o,_,_,e,ex,_⟩:=I.hok p _ hk;exact⟨o,e,ex⟩
   obtain⟨o,e,ex⟩:=z;refine⟨⟨o,e,ex.1⟩,fun a e2=>?_⟩;cases e2;exact⟨o,e,ex.2.1⟩
  ·obtain⟨o,_,_,_,e,ex,_⟩:=I.hok p _ hk;refine⟨⟨o,e,ex.1⟩,fun a e2=>?_⟩;cases e2;exact⟨o,e,ex.2.1⟩
 |_=>exact qA5 ty
variable{o e:Expr}{es:List Expr}{to:TE}{t:TA}{name:Str}{apos cpos:Pos}{T id:String}{r:V->List V->Hp->VK->Prop}
end
def MtM(X:Cx)(id:String)(r:V->List V->Hp->VK->Prop):Prop:=
 ∀(pins:List (Addr×Obj))(s:qGw)(σ:St)(H:Hp)(x:V)(xs:List V)(v:Value)(us:List Value)(Q:VK),Inv X pins σ H s->RelV x v->Vals xs us->r x xs H Q ->
  wpAny (model X.prog X.w) X.A (call (.builtin id) (v::us)) (EP X pins σ Q) X.xe s
theorem Vals.one:∀{x:V}{us:List Value},Vals [x] us->∃u,us=[u]/\RelV x u
 |_,_,.cons r .nil=>⟨_,rfl,r⟩
theorem Vals.zero:∀{us:List Value},Vals [] us->us=[]
 |_,.nil=>rfl
theorem Vals.dropLast{xs:List V}{us:List Value}(h:Vals xs us):Vals xs.dropLast us.dropLast:=by
 induction h with
 |nil=>exact .nil
 |cons r t ih=>
  cases t with
  |nil=>exact .nil
  |cons q t'=>exact .cons r ih
theorem Vals.eraseIdx:∀{xs:List V}{us:List Value}(i:Nat),Vals xs us->Vals (xs.eraseIdx i) (us.eraseIdx i)
 |_,_,_,.nil=>.nil
 |_,_,0,.cons _ t=>t
 |_,_,i+1,.cons r t=>.cons r (Vals.eraseIdx i t)
theorem Vals.rep{xs:List V}{us:List Value}(h:Vals xs us):∀k:Nat,Vals (qA2 k xs).flatten (qA2 k us).flatten
 |0=>.nil
 |k+1=>by
  rw[qAx,qAx,qBd,qBd];exact Vals.append h (Vals.rep h k)
theorem zMO{α:Type}(l:List α):l.eraseIdx (l.length-1)=l.dropLast:=by
 induction l with
 |nil=>rfl
 |cons a r ih=>
  cases r with
  |nil=>rfl
  |cons b r=>
   have e:(a::b::r).length-1=((b::r).length-1)+1:=by
    have h1:(a::b::r).length=r.length+2:=rfl;have h2:(b::r).length=r.length+1:=rfl;omega
   rw[e,List.eraseIdx_cons_succ,ih]
   all_goals rfl
theorem zGA{α:Type}:∀(l:List α)(i:Nat),(l.eraseIdx i).length<=l.length
 |[],_=>qA6 _
 |_::_,0=>qD4 _
 |_::r,i+1=>Nat.succ_le_succ (zGA r i)
theorem zJJ(its:List Value):∀(k:Nat)(acc:List Value),
  qGb (fun x1 x2=>x1++x2) acc.toArray (qA2 k its.toArray)=(acc++(qA2 k its).flatten).toArray
 |0,acc=>by simp
 |k+1,acc=>by
  have e:acc.toArray++its.toArray=(acc++its).toArray:=by simp
  have e2:(acc++its)++(qA2 k its).flatten=acc++(qA2 (k+1) its).flatten:=by
   rw[qAx,qBd,qCo]
  rw[<- e2,<- zJJ its k (acc++its),<- e,qAx,List.foldl_cons]
section
variable{X:Cx}{pins:List (Addr×Obj)}{σ:St}{H:Hp}{s:qGw}{l b:Addr}{xs ys zs:List V}
theorem Inv.lset{its its':List Value}{n:Nat}{f:Array Value->Array Value}{t':Nat}(I:Inv X pins σ H s)(hH:H l=some (.lst xs))
  (e:s.heap.get? l=some { cls:=.type "list",data:=.seq its.toArray n }) (hf:f its.toArray=its'.toArray) (hv:Vals ys its') (hz:ys.length<=sizeLine) :
  Inv X pins σ (upd H l (.lst ys)) { s with heap:=s.heap.update l (qIi f),toks:=t' }:=by
 have q:=PySem.IsL.update e f;rw[hf]at q;refine I.write (x:=l) (e:=l) (by rw[hH];exact trivial) (.inl rfl) (fun b' u hb hu=>(qH5 s.heap (qIi f) (qD0 hb)).trans hu) ⟨_,q⟩ ?_;exact⟨hz,its',_,hv,q⟩
theorem Inv.lnew{its:List Value}{t':Nat}(I:Inv X pins σ H s)(hv:Vals ys its)(hz:ys.length<=sizeLine) :
  Inv X pins σ (upd H s.heap.objs.size (.lst ys)) { s with heap:=s.heap.push { cls:=.type "list",data:=.seq its.toArray },toks:=t' }:=
 I.laid (fun _ _ q=>qGx _ q) (qA6 _) ⟨hz,its,0,hv,qH4 _ rfl⟩
theorem Inv.fresh(I:Inv X pins σ H s):H s.heap.objs.size=none:=I.hok.fresh (qA6 _)
theorem Inv.lstM(I:Inv X pins σ H s)(hH:H l=some (.lst xs)):xs.length<=sizeLine/\∃(its:List Value)(n:Nat),Vals xs its/\xs.length=its.length/\s.heap.get? l=some { cls:=.type "list",data:=.seq its.toArray n }:=by
 obtain⟨z,its,n,r,e⟩:=I.hok l _ hH;exact⟨z,its,n,r,r.length,e⟩
theorem zLQ{n:Nat}(h:n<=sizeLine):qHf n=false:=by
 unfold qHf;exact decide_eq_false (by omega)
end
section
variable{X:Cx}
def zT0:V->List V->Hp->VK->Prop:=fun x vs H Q=>∃l xs y,x=.ref l/\vs=[y]/\H l=some (.lst xs)/\xs.length<sizeLine/\Q .non (upd H l (.lst (xs++[y])))
theorem zO9:MtM X "list.append" zT0:=by
 intro pins s σ H x vs v us Q I rx rv h;obtain⟨l,xs,y,rfl,rfl,hH,hz,q⟩:=h;cases rx;obtain⟨u,rfl,ru⟩:=rv.one;obtain⟨z,its,n,r,hl,e⟩:=I.lstM hH;refine call_meets F.slot_list_append ⟨_,e,rfl⟩ F.entry_list_append (F.args_list_append_2 _ _) (PySem.list_append l its.toArray n u (by rw[qAb];omega)) ⟨e,?_⟩;refine⟨.non,_,I.lset (its':=its++[u]) hH e (by simp) (r.append (.cons ru .nil)) ?_,rfl,q⟩;rw[qAw,qDw];omega
def zSZ:V->List V->Hp->VK->Prop:=fun x vs H Q=>∃l b xs zs,x=.ref l/\vs=[.ref b]/\H l=some (.lst xs)/\H b=some (.lst zs)/\xs.length+zs.length<=sizeLine/\Q .non (upd H l (.lst (xs++zs)))
theorem zO8:MtM X "list.extend" zSZ:=by
 intro pins s σ H x vs v us Q I rx rv h;obtain⟨l,b,xs,zs,rfl,rfl,hH,hB,hz,q⟩:=h;cases rx;obtain⟨u,rfl,ru⟩:=rv.one;cases ru;obtain⟨z,its,n,r,hl,e⟩:=I.lstM hH;obtain⟨z2,its2,n2,r2,hl2,e2⟩:=I.lstM hB;have hsz:its.toArray.size+its2.toArray.size<=sizeLine:=by rw[qAb,qAb];omega
 have hlong:¬(!its.toArray.isEmpty&&qHf (its.toArray.size+its2.toArray.size))=true:=by
  rw[zLQ hsz,qCa];exact qAd
 refine call_meets F.slot_list_extend ⟨_,e,rfl⟩ F.entry_list_extend (F.args_list_extend_2 _ _)
  (AutoSeq1.list_extend_list_list_0 l its.toArray n b its2.toArray n2 hlong (by rw[qAb];omega) (by omega)) ⟨e,e2,?_⟩
 refine⟨.non,_,I.lset (its':=its++its2) hH e (by simp) (r.append r2) ?_,rfl,q⟩;rw[qAw];omega
def rPop:V->List V->Hp->VK->Prop:=fun x vs H Q=>∃l xs y,x=.ref l/\vs=[]/\H l=some (.lst xs)/\xs[xs.length-1]?=some y/\Q y (upd H l (.lst xs.dropLast))
theorem zW7:MtM X "list.pop" rPop:=by
 intro pins s σ H x vs v us Q I rx rv h;obtain⟨l,xs,y,rfl,rfl,hH,hy,q⟩:=h;cases rx;have hus:=rv.zero;subst hus;obtain⟨z,its,n,r,hl,e⟩:=I.lstM hH;obtain⟨u,hu,ru⟩:=r.get hy;have hy':its.toArray[its.toArray.size-1]?=some u:=by
  show its.toArray[its.length-1]?=some u;rw[<- qDx,<- hl];exact hu
 refine call_meets qJ9 ⟨_,e,rfl⟩ qIz (F.args_list_pop_1 _) (MeetsSeq.list_pop_last l its.toArray n u hy' (by rw[qAb];omega)) ⟨e,?_⟩;refine⟨y,_,I.lset (its':=its.dropLast) hH e ?_ r.dropLast ?_,ru,q⟩
 ·show its.toArray.eraseIdxIfInBounds (its.toArray.size-1)=its.dropLast.toArray;rw[qAb,qCp,zMO]
 ·rw[List.length_dropLast];omega
def zVB:V->List V->Hp->VK->Prop:=fun x vs H Q=>∃l xs i k y,x=.ref l/\vs=[.int i]/\H l=some (.lst xs)/\-(2 ^ 63)<=i/\i<2 ^ 63/\qJ7 i xs.length=some k/\xs[k]?=some y/\Q y (upd H l (.lst (xs.eraseIdx k)))
theorem zQM:MtM X "list.pop" zVB:=by
 intro pins s σ H x vs v us Q I rx rv h;obtain⟨l,xs,i,k,y,rfl,rfl,hH,h1,h2,hk,hy,q⟩:=h;cases rx;obtain⟨u,rfl,ru⟩:=rv.one;obtain⟨t,rfl⟩:=ru;obtain⟨z,its,n,r,hl,e⟩:=I.lstM hH;obtain⟨w,hw,rw'⟩:=r.get hy;refine call_meets qJ9 ⟨_,e,rfl⟩ qIz (F.args_list_pop_2 _ _)
  (MeetsSeq.list_pop_at l its.toArray n i t k w (fitsIndex_both h1 h2) (by rw[qAb,<- hl];exact hk) (by rw[<- qDx];exact hw) (by rw[qAb];omega)) ⟨e,?_⟩
 refine⟨y,_,I.lset (its':=its.eraseIdx k) hH e ?_ (r.eraseIdx k) ?_,rw',q⟩
 ·show its.toArray.eraseIdxIfInBounds k=(its.eraseIdx k).toArray;rw[qCp]
 ·have:=zGA xs k
  omega
def rCat:R2:=fun x y H Q=>∃l b xs zs,x=.ref l/\y=.ref b/\H l=some (.lst xs)/\H b=some (.lst zs)/\xs.length+zs.length<=sizeLine/\∀p,H p=none->Q (.ref p) (upd H p (.lst (xs++zs)))
theorem zW1:OpR X (binaryOp .Add) rCat:=by
 intro pins s σ H x y v u Q I rx ry h;obtain⟨l,b,xs,zs,rfl,rfl,hH,hB,hz,q⟩:=h;cases rx;cases ry;obtain⟨z,its,n,r,hl,e⟩:=I.lstM hH;obtain⟨z2,its2,n2,r2,hl2,e2⟩:=I.lstM hB;refine PySem.P.add_list e e2 ?_ (by rw[qAb,qAb];omega);have ea:its.toArray++its2.toArray=(its++its2).toArray:=by simp
 rw[ea];exact⟨.ref _,_,I.lnew (t':=s.toks) (r.append r2) (by rw[qAw];omega),rfl,q _ I.fresh⟩
def rRep:R2:=fun x y H Q=>∃l k xs,x=.ref l/\y=.int k/\H l=some (.lst xs)/\-(2 ^ 63)<=k/\k<2 ^ 63/\xs.length*k.toNat<=sizeLine /\
 ∀p,H p=none->Q (.ref p) (upd H p (.lst (qA2 k.toNat xs).flatten))
theorem zTP{α:Type}(xs:List α)(k:Nat):(qA2 k xs).flatten.length=k*xs.length:=by
 induction k with
 |zero=>simp
 |succ k ih=>rw[qAx,qBd,qAw,ih,Nat.succ_mul,Nat.add_comm]
theorem zVW:OpR X (binaryOp .Mult) rRep:=by
 intro pins s σ H x y v u Q I rx ry h;obtain⟨l,k,xs,rfl,rfl,hH,h1,h2,hz,q⟩:=h;cases rx;obtain⟨t,rfl⟩:=ry;obtain⟨z,its,n,r,hl,e⟩:=I.lstM hH;have hlen:its.toArray.size*k.toNat<=sizeLine:=by rw[qAb,<- hl];exact hz
 have hcap:¬its.toArray.size*k.toNat>(2 ^ 63-1)/8:=by
  have:(sizeLine:Nat)<=(2 ^ 63-1)/8:=by decide
  omega
 have hfit:¬(!Builtin.List.listFitsIndex k)=true:=by
  rw[fitsIndex_both h1 h2];exact qAd
 have hlong:¬qHf (its.toArray.size*k.toNat)=true:=by
  rw[zLQ hlen];exact qAd
 have hnew:qGb (fun x1 x2=>x1++x2) #[] (qA2 (if its.toArray.isEmpty=true then 0 else k.toNat) its.toArray)=(qA2 k.toNat its).flatten.toArray:=by
  have f0:∀m:Nat,qGb (fun x1 x2=>x1++x2) #[] (qA2 m its.toArray)=(qA2 m its).flatten.toArray:=fun m=>by
   have:=zJJ its m []
   rw[qFd]at this;exact this
  rw[f0];cases its with
  |nil=>simp
  |cons a r'=>rw[if_neg (by simp)]
 refine wpAny_binaryOp_repeat_ref (T:="list") (U:="int") (by decide) ⟨_,e,rfl⟩ (fun s'=>typeIs_int s' k t) noFill_list_mul F.fills_int_mul qJa repeat_list F.slot_int_index.lookup
  (call_meets qJa (typeIs_int s k t) F.entry_int_rmul (F.args_int_rmul_2 _ _) (int___rmul___int_list k t l its.toArray n)
   ⟨e,rfl,⟨_,e,rfl⟩,call_meets F.slot_list_mul ⟨_,e,rfl⟩ F.entry_list_mul (F.args_list_mul_2 _ _) (AutoListH.list___mul___list_int_3 l its.toArray n k t hfit hcap hlong) ⟨e,?_⟩⟩)
 rw[hnew];exact⟨.ref _,_,I.lnew (t':=s.toks) (r.rep k.toNat) (by rw[zTP,qDy];exact hz),rfl,q _ I.fresh⟩
end
section
variable{prog:qGz}{w:World}{A:qH1}{E:Value->qGw->Prop}{s:qGw}
end
section
variable{X:Cx}
end
section
variable{κ:Type}[DecidableEq κ]
noncomputable def zX0(kvs:List (κ×V))(k:κ):List (κ×V):=kvs.filter fun kv=>decide (kv.1≠k)
theorem KV.drop{kvs:List (κ×V)}{vs:List (κ×Value)}(r:KV kvs vs)(k:κ):KV (zX0 kvs k) (without vs k):=by
 unfold KV at r ⊢;unfold zX0 without
 induction r with
 |nil=>exact .nil
 |@cons p q ps qs h t ih=>
  obtain⟨h1,h2⟩:=h;rw[qBy,qBy]
  by_cases e:p.1=k
  ·have a:¬decide (p.1≠k)=true:=by simp[e]
   have b:¬decide (q.1≠k)=true:=by simp[h1.symm.trans e]
   rw[if_neg a,if_neg b];exact ih
  ·have e':¬q.1=k:=fun z=>e (h1.trans z)
   have a:decide (p.1≠k)=true:=by simp[e]
   have b:decide (q.1≠k)=true:=by simp[e']
   rw[if_pos a,if_pos b];exact .cons ⟨h1,h2⟩ ih
end
section
variable{P:qGz}{w:World}{H:Hp}{h:Heap}{a:Addr}
end
section
variable{X:Cx}{pins:List (Addr×Obj)}{σ:St}{H:Hp}{s:qGw}{a:Addr}{y v:V}{u r:Value}{o:Option V}{A:qH1}{E:Value->qGw->Prop}
end
section
variable{X:Cx}{pins:List (Addr×Obj)}{σ:St}{H:Hp}{s:qGw}{a:Addr}{kvs:List (Key×V)}{k:Key}{u:Value}{A:qH1}{E:Value->qGw->Prop}
end
section
variable{X:Cx}{o i e value:Expr}{pos pos' tpos:Pos}{td ty tv:TE}
end
section
variable{X:Cx}{pos:Pos}
end
section
variable{X:Cx}{pins:List (Addr×Obj)}{σ:St}{H:Hp}{s:qGw}{a:Addr}{y d:V}{u r:Value}{o:Option V}{A:qH1}{E:Value->qGw->Prop}
end
section
variable{X:Cx}{o e f:Expr}{apos cpos:Pos}{td ty tx:TE}
end
section
variable{X:Cx}{pins:List (Addr×Obj)}{σ:St}{H:Hp}{s:qGw}{a:Addr}{kvs:List (Key×V)}{A:qH1}{E:Value->qGw->Prop}
end
section
variable{X:Cx}{pins:List (Addr×Obj)}{σ:St}{H:Hp}{s:qGw}{a:Addr}{y:V}{u:Value}{A:qH1}{E:Value->qGw->Prop}
end
end L2
namespace Att
open PySem PySem.W PySem.Calls PyProof.Rows
theorem zGD{P:Params}{h:Heap}:∀(ns:List Int)(vs:List Value),WellAll P h vs (ns.map qJb)->qIj vs ns:=by
 intro ns
 induction ns with
 |nil=>
  intro vs w;rw[qF1]at w;cases w;exact .nil
 |cons n ns ih=>
  intro vs w;rw[qAg]at w;cases w with
  |cons a b=>
   cases a;exact .cons _ _ (ih _ b)
theorem zNE{l:OpenLaw}{n:Nat}(hn:l.most=some n){P:Params}{h:Heap}{args:List WData}{vals:List Value}
  (hpre:l.row.toRowW.claim.pre args=true) (hwl:WellAll P h vals args) :
  ∃a vs ns,vals=[qH6 a]/\args=[WData.list (ns.map qJb)]/\h.get? a=some { cls:=.type "list",data:=.seq vs.toArray }/\qIj vs ns/\ns.length<=n:=by
 have hsh:WShape.hasAll [] args [.list .int]=true:=(pre_splitW hpre).1;have hc:l.pre.holds [] { args:=args }=true:=(pre_splitW hpre).2;obtain⟨d,r,rfl,h1,h2⟩:=hasAllW_cons hsh;obtain rfl:=hasAllW_nil h2;obtain⟨xs,rfl,h3⟩:=hasW_list h1;obtain⟨ns,rfl⟩:=items_int h3;have hlen:ns.length<=n:=by
  unfold OpenLaw.pre at hc;have h4:(WTm.not (.lt (.lit (.int (n:Int))) (.len (.arg 0)))).holds [] { args:=[.list (ns.map .int)] }=true:=by
   have h4:=(holds_andW hc).1;rw[hn]at h4;exact h4
  have h5:=condW_of h4 (w_not (w_lt w_lit (w_len_list (w_arg rfl))));rw[qAh]at h5;refine Nat.le_of_not_lt fun q=>?_
  have q':(n:Int)<((ns.length:Nat):Int):=by omega
  first
   |(rw[decide_eq_true q']at h5;exact absurd h5 (by decide))
   |(simp at h5;omega)
 cases hwl with
 |cons w1 w2=>
  cases w2;cases w1 with
  |list ho hall=>exact⟨_,_,ns,rfl,rfl,ho,zGD ns _ hall,hlen⟩
theorem zNT(l:OpenLaw)(args:List WData):l.row.toRowW.claim.post args (.bool true) args=true:=
 postW_of (r:=l.row.toRowW) (X:=(true==true))
  (show qJq [] (.bool true) .bool=true by first|rfl|decide|simp[qJq,WShape.arms,WShape.armsAll])
  (show(WTm.eq .res (.lit (.bool true))).value [] { args:=args,res:=some (.bool true),after:=args }=some (.bool (true==true)) from w_eq_bool (w_res rfl) w_lit) rfl
section
variable{prog:qGz}{w:World}{A:qH1}{E:Value->qGw->Prop}{s:qGw}{K:Frag}
end
end Att
namespace L2
open PySem PySem.Spec PyProof.Rows
theorem zIV:∀{vs:List Value}{ns:List Int},qIj vs ns->Vals (ns.map V.int) vs
 |_,_,.nil=>.nil
 |_,_,.cons n t h=>.cons ⟨t,rfl⟩ (zIV h)
abbrev KOf{K:qA1}{h:Heap}(_:K.In h):qA1:=K
noncomputable def zCR(s:Stmt):Arguments:=match s with
 |.FunctionDef _ a _ _ _ _ _ _ _ _=>a
 |_=>{ posonlyargs:=[],args:=[],vararg:=none,kwonlyargs:=[],kw_defaults:=[],kwarg:=none,defaults:=[] }
noncomputable def zB7(s:Stmt):List Stmt:=match s with
 |.FunctionDef _ _ b _ _ _ _ _ _ _=>b
 |_=>[]
noncomputable def zA7(s:Stmt):Scope:=match s with
 |.FunctionDef _ _ _ _ _ _ sc _ _ _=>sc
 |_=>{ kind:=.function,names:=[],isGenerator:=false,isCoroutine:=false }
abbrev CX0:CXT:=fun _ _ _ _ _ _=>False
abbrev E0:XK:=fun _ _ _=>False
theorem zY9{X:Cx}:zM8 CX0 X E0:=fun _ _ _ _ _ _ _ h=>h.elim
structure Fun(K:qA1)(x qual:Str)(st:Stmt)(f:Addr)(fd:qHb):Prop where
 ex:∃(oc:Value)(od:Option Addr)(kV doc pm:Value)(an:Option Addr)(cdv ct:Value)(osl:Array (Option Value)),
  fd=qBa x qual (zCR st) (zB7 st) (zA7 st) .none kV doc pm an cdv ct/\K.lookup f=some ⟨oc,od,.func fd,osl⟩/\qCr K cdv qual=true
 kp:qBe K (.ref f)=true
section
variable{P:qGz}{w:World}{K:qA1}{mg:Str->Option Value}{base:Heap}
theorem Fun.ok{x qual:Str}{st:Stmt}{f:Addr}{fd:qHb}{N ps:List Str}{k:Nat}{sp:Sp}(F:Fun K x qual st f fd)(S:FnScope N ps (zA7 st))(len:∀vs H Q E,sp vs H Q E->vs.length=ps.length)
  (hbody:∀(cdv:Value)(A:qH1)(outer:List Env)(s:qGw)(H:Hp)(vs:List V)(Q:VK)(E:XK),Room k (A.deeper (envOfC qual (zA7 st) s.heap.objs.size f cdv))->sp vs H Q E ->
   ∃t,PSs (cxOf CX0 P w K mg base N qual (zA7 st) f cdv A outer s H E).nox (zB7 st) t/\t { nx:=fun _ H'=>Q .non H',rt:=Q } (start N vs) H):FnOk P w K mg base CX0 (k+1) f fd ps sp:=by
 obtain⟨oc,od,kV,doc,pm,an,cdv,ct,osl,rfl,lk,hcd⟩:=F.ex;refine zWR lk hcd S len fun A outer s H vs Q E hr hsp=>?_
 obtain⟨t,h,q⟩:=hbody cdv A outer s H vs Q E hr hsp;exact⟨t,h.nox,q⟩
theorem Fun.binds{x qual:Str}{st:Stmt}{f:Addr}{fd:qHb}{ps:List Str}(F:Fun K x qual st f fd)
  (h:∀(kV doc pm:Value)(an:Option Addr)(cdv ct:Value)(us:List Value),us.length=ps.length->qIo (qBa x qual (zCR st) (zB7 st) (zA7 st) .none kV doc pm an cdv ct) ⟨us,[]⟩=pure (ps.zip us)):Binds K fd ps []:=by
 obtain⟨oc,od,kV,doc,pm,an,cdv,ct,osl,rfl,lk,hcd⟩:=F.ex;exact .all (h kV doc pm an cdv ct)
theorem zRX{x qual:Str}{st:Stmt}{f:Addr}{oc:Value}{od an:Option Addr}{osl:Array (Option Value)}{kV doc pm cdv ct:Value}(l:K.lookup f=some ⟨oc,od,.func (qBa x qual (zCR st) (zB7 st) (zA7 st) .none kV doc pm an cdv ct),osl⟩)
  (c:qCr K cdv qual=true) (k:qBe K (.ref f)=true):Fun K x qual st f (qBa x qual (zCR st) (zB7 st) (zA7 st) .none kV doc pm an cdv ct):=⟨⟨oc,od,kV,doc,pm,an,cdv,ct,osl,rfl,l,c⟩,k⟩
end
section
variable{X:Cx}
end
def Same(H H':Hp):Prop:=∀b o,H b=some o->H' b=some o
theorem Same.refl(H:Hp):Same H H:=fun _ _ h=>h
theorem Same.trans{H H1 H2:Hp}(a:Same H H1)(b:Same H1 H2):Same H H2:=fun c o h=>b c o (a c o h)
theorem Same.free{H H':Hp}(e:Same H H'){l:Addr}(h:H' l=qEc):H l=qEc:=by
 cases q:H l with
 |none=>rfl
 |some o=>
  rw[e l o q]at h;cases h
theorem Same.seq{K:qA1}{H H':Hp}{a:Addr}{xs:List V}(e:Same H H')(h:SqL K H a xs):SqL K H' a xs:=by
 rcases h with(h|⟨o,h⟩)|h
 ·exact .inl (.inl (e _ _ h))
 ·exact .inl (.inr ⟨o,e _ _ h⟩)
 ·exact .inr h
section
variable{κ:Type}[DecidableEq κ]
end
theorem asN{a b:Nat}(h:a<b):a<b:=h
theorem asL{a b:Nat}(h:a<=b):a<=b:=h
theorem asE{a b:Nat}(h:a=b):a=b:=h
noncomputable def clos(cells:List (Str×Addr)):List (Str×qHj)->List (Str×Addr)->List (Str×Addr)
 |[],acc=>acc
 |(n,k)::r,acc=>if k==.free then clos cells r ((n,(cells.lookup n).getD 0)::acc)else clos cells r acc
theorem zE2(cells:List (Str×Addr)):∀(names:List (Str×qHj))(acc:List (Str×Addr)),clos cells names acc=clos cells names []++acc
 |[],_=>rfl
 |(n,k)::r,acc=>by
  unfold clos
  split
  ·rw[zE2 cells r (_::acc),zE2 cells r [_],qCo];rfl
  ·exact zE2 cells r acc
theorem zFR{cells:List (Str×Addr)}{x:Str}{c:Addr}:∀{names:List (Str×qHj)},(x,c)∈clos cells names []->(x,qH0)∈names/\c=(cells.lookup x).getD 0
 |[],h=>by simp[clos]at h
 |(n,k)::r,h=>by
  unfold clos at h
  split at h
  ·rename_i hk
   rw[zE2]at h
   rcases qAn.mp h with h|h
   ·obtain⟨h1,h2⟩:=zFR h;exact⟨qAm _ h1,h2⟩
   ·have e:=qAi.mp h
    injection e with e1 e2
    subst e1;have hk':k=.free:=by simpa using hk
    subst hk';exact⟨qAv,e2⟩
  ·obtain⟨h1,h2⟩:=zFR h;exact⟨qAm _ h1,h2⟩
theorem zIG{cells:List (Str×Addr)}{x:Str}:∀{names:List (Str×qHj)},(x,qH0)∈names->(x,(cells.lookup x).getD 0)∈clos cells names []
 |[],h=>by simp at h
 |(n,k)::r,h=>by
  unfold clos
  rcases qAk.mp h with e|h
  ·injection e with e1 e2
   subst e1;subst e2;rw[if_pos (by rfl),zE2];exact qAl _ (by simp)
  ·split
   ·rw[zE2];exact qB9 _ (zIG h)
   ·exact zIG h
theorem zBA:∀(names:List (Str×qHj))(n:Nat)(acc:List (Str×Addr)),cellsFrom n names acc=cellsFrom n names []++acc
 |[],_,_=>rfl
 |(x,k)::r,n,acc=>by
  unfold cellsFrom
  split
  ·rw[zBA r (n+1) (_::acc),zBA r (n+1) [_],qCo];rfl
  ·exact zBA r n acc
theorem zCD{x:Str}{c:Addr}:∀{names:List (Str×qHj)}{n:Nat},(x,c)∈cellsFrom n names []->(x,qHd)∈names
 |[],_,h=>by simp[cellsFrom]at h
 |(y,k)::r,n,h=>by
  unfold cellsFrom at h
  split at h
  ·rename_i hk
   rw[zBA]at h
   rcases qAn.mp h with h|h
   ·exact qAm _ (zCD h)
   ·have e:=qAi.mp h
    injection e with e1 e2
    subst e1;have hk':k=.cell:=by simpa using hk
    subst hk';exact qAv
  ·exact qAm _ (zCD h)
theorem zBX{α:Type}{x:Str}{a:α}:∀{l:List (Str×α)},(l.map (·.1)).Nodup->(x,a)∈l->l.lookup x=some a
 |[],_,h=>by simp at h
 |(y,b)::r,nd,h=>by
  have nd':(y::r.map (·.1)).Nodup:=nd;obtain⟨h1,h2⟩:=qBz.mp nd'
  rcases qAk.mp h with e|hm
  ·injection e with e1 e2
   subst e1;subst e2;rw[qBb,beq_self_eq_true]
  ·have hne:(x==y)=false:=by
    rw[beq_eq_false_iff_ne]
    rintro rfl
    exact h1 (qAf.mpr ⟨(x,a),hm,rfl⟩)
   rw[qBb,hne];exact zBX h2 hm
theorem zEA{α:Type}{x:Str}:∀{l:List (Str×α)},(∀a,(x,a)∉l)->l.lookup x=none
 |[],_=>rfl
 |(y,b)::r,h=>by
  have hne:(x==y)=false:=by
   rw[beq_eq_false_iff_ne]
   rintro rfl
   exact h b qAv
  rw[qBb,hne];exact zEA fun a m=>h a (qAm _ m)
theorem zE9{α:Type}{x:Str}{a:α}:∀{l:List (Str×α)},(x,a)∈l->∃b,l.lookup x=some b
 |[],h=>by simp at h
 |(y,b)::r,h=>by
  rw[qBb];cases e:x==y with
  |true=>exact⟨b,rfl⟩
  |false=>
   rcases qAk.mp h with q|q
   ·injection q with q1 _
    subst q1;rw[beq_self_eq_true]at e;cases e
   ·exact zE9 q
theorem zH2{α:Type}{x:Str}:∀(l k:List (Str×α)),(l++k).lookup x=(l.lookup x).or (k.lookup x)
 |[],k=>by simp
 |(y,b)::r,k=>by
  show qFe x ((y,b)::(r++k))=_;rw[qBb,qBb];cases x==y with
  |true=>rfl
  |false=>exact zH2 r k
def zXM(sc:Scope)(env:Env):Prop:=∀x,(x,qH0)∈sc.names->env.kindOf x=some .cell\/env.kindOf x=some .free
theorem zEV{sc:Scope}{env:Env}(h:∀x,(x,qH0)∈sc.names->∃c,env.cells.lookup x=some c):closureFor sc env=pure (clos env.cells sc.names []):=by
 have go:∀(names:List (Str×qHj))(acc:List (Str×Addr)),(∀x,(x,qH0)∈names->∃c,env.cells.lookup x=some c) ->
   (forIn names acc fun(x:Str×qHj)(cs:List (Str×Addr))=>(match x with|(name,kind)=>if(kind==qH0)=true then(do let c <- cellOf env name;pure (qC1 ((name,c)::cs)))else pure (qC1 cs):Sem (ForInStep (List (Str×Addr)))))=pure (clos env.cells names acc):=by
  intro names
  induction names with
  |nil=>intro acc _;rfl
  |cons p r ih=>
   intro acc hn;obtain⟨n,k⟩:=p;have hr:∀x,(x,qH0)∈r->∃c,env.cells.lookup x=some c:=fun x hx=>hn x (qAm _ hx)
   rw[List.forIn_cons];unfold clos
   by_cases hk:(k==qH0)=true
   ·have hk':k=.free:=by simpa using hk
    subst hk';obtain⟨c,hc⟩:=hn n qAv;have e:cellOf env n=pure c:=by unfold cellOf;rw[hc]
    rw[if_pos (by rfl)];simp only[if_pos (show(qH0==qH0)=true from rfl),e,hc,qDo,pure_bind];exact ih _ hr
   ·rw[if_neg hk];simp only[if_neg hk,pure_bind];exact ih _ hr
 unfold closureFor;have q:=go sc.names [] h
 first
  |(rw[show(forIn sc.names ([]:List (Str×Addr)) _:Sem (List (Str×Addr)))=_ from q];rfl)
  |(refine(congrArg (fun z=>z >>= pure) q).trans ?_;rfl)
  |(simp only[q];rfl)
  |exact q
def zE1(sc:Scope)(C:Addr)(env:Env):Env:=
 { scope:=relabel sc env,locals:=C,globals:=env.globals,cells:=cellsFrom (C+1) sc.names (clos env.cells sc.names []),qual:=env.qual,func:=none,code:=env.code,frame:=env.frame,builtins:=env.builtins }
theorem zEJ{M:Model}{A:qH1}{E:Value->qGw->Prop}{s:qGw}{sc:Scope}{env:Env}{cl:List (Str×Addr)}{Q:Env->qGw->Prop}
  (hQ:Q { scope:=sc,locals:=s.heap.objs.size,globals:=env.globals,cells:=cellsFrom (s.heap.objs.size+1) sc.names cl,qual:=env.qual,func:=none,code:=env.code,frame:=env.frame,builtins:=env.builtins }
   { s with heap:=pushCells (s.heap.push { cls:=.type "dict",data:=.dict #[] }) sc.names }) :
  wpAny M A (newFunctionEnv sc env.globals cl [] env.qual none .none (some env)) Q E s:=by
 simp only[newFunctionEnv,Option.isSome_some,if_true];refine wpAny_bind (wpAny_alloc ?_);refine wpAny_bind (wpAny_layCells _ (fun name kind cells=>by cases hkc:kind==qHd<;>simp[hkc]) _ _ _ _ ?_);rw[show({ s with heap:=s.heap.push { cls:=.type "dict",data:=.dict #[] } }:qGw).heap.objs.size=s.heap.objs.size+1 from qHi ..];refine wpAny_bind ?_;rw[List.forIn_nil];exact wpAny_pure (wpAny_pure hQ)
def zDB(X:Cx)(N':List Str)(sc:Scope)(C:Addr)(s:qGw)(H:Hp)(fp:List Addr):Cx:=
 { X with N:=N',s₀:=s,H₀:=H,env:=zE1 sc C X.env,outer:=X.stack,stack:=X.stack,ex:=fp,fn:=fun x=>sc.names.lookup x==some .cell,pn:=[],xe:=fun _ _=>False }
def PTs(X:Cx)(ifs:List Expr)(t:TT):Prop:=
 ∀(pins:List (Addr×Obj))(s:qGw)(σ:St)(H:Hp)(Q:Bool->Hp->Prop),Inv X pins σ H s->t σ H Q ->
  wpAny (model X.prog X.w) X.A (forIn ifs true fun c r=>if r=true then do let ok <- isTrue c X.env (eval c X.env);pure (qC1 ok)else pure (qC1 r)) (TP X pins σ Q) X.xe s
noncomputable def tYes:TT:=fun _ H Q=>Q true H
theorem zBW{X:Cx}:PTs X [] tYes:=fun _ _ _ H _ I h=>wpAny_tests_nil ⟨H,I,h⟩
theorem zHN{X:Cx}{c:Expr}{t:TT}(h:PT X c t):PTs X [c] t:=fun pins s σ H Q I q=>wpAny_tests_one (h pins s σ H Q I q)
structure CompNames(N N':List Str)(k:Nat)(sc:Scope)(env:Env):Prop where
 kind:sc.kind=.function
 nd:(sc.names.map (·.1)).Nodup
 len:N'.length=N.length+k
 old:∀(i:Nat)(x:Str),N'[i]?=some x->i<N.length->(x,qH0)∈sc.names/\N[i]?=some x\/sc.names.lookup x=none
 free:zXM sc env
theorem zBD{sc:Scope}{env:Env}{x:Str}{k:qHj}:∀{names:List (Str×qHj)},
  (names.map fun(n,k)=>if(k==qH0&&env.scope.kind==.function&&env.kindOf n==some .cell)then(n,qHd)else(n,k)).lookup x=some k ->
  names.lookup x=some k\/(names.lookup x=some .free/\k=.cell)
 |[],h=>by simp at h
 |(n,j)::r,h=>by
  have ih:=@zBD sc env x k r;rw[qAg]at h;rw[qBb]
  by_cases hc:(j==qH0&&env.scope.kind==.function&&env.kindOf n==some .cell)=true
  ·have h':qFe x ((n,qHd)::(r.map fun(n,k)=>if(k==qH0&&env.scope.kind==.function&&env.kindOf n==some .cell)then(n,qHd)else(n,k)))=some k:=by
    rw[<- h];simp only[if_pos hc]
   rw[qBb]at h';cases e:x==n with
   |true=>
    rw[e]at h';have hk:k=.cell:=(qB3 h').symm;have hj:j=.free:=by
     simp only[qB5,beq_iff_eq]at hc;exact hc.1.1
    subst hj;exact .inr ⟨rfl,hk⟩
   |false=>
    rw[e]at h';exact ih h'
  ·have h':qFe x ((n,j)::(r.map fun(n,k)=>if(k==qH0&&env.scope.kind==.function&&env.kindOf n==some .cell)then(n,qHd)else(n,k)))=some k:=by
    rw[<- h];simp only[if_neg hc]
   rw[qBb]at h';cases e:x==n with
   |true=>rw[e]at h';exact .inl h'
   |false=>rw[e]at h';exact ih h'
section
variable{X:Cx}{N':List Str}{k:Nat}{sc:Scope}{pins:List (Addr×Obj)}{σ:St}{H:Hp}{s:qGw}
theorem zMS{C:Addr}{x:Str}{c:Addr}(nd:(sc.names.map (·.1)).Nodup)(h:(zE1 sc C X.env).cells.lookup x=some c) :
  ((x,c)∈cellsFrom (C+1) sc.names []/\(x,qHd)∈sc.names)\/((x,qH0)∈sc.names/\c=(X.env.cells.lookup x).getD 0):=by
 have m:=mem_of_lookup h;have m':(x,c)∈cellsFrom (C+1) sc.names (clos X.env.cells sc.names []):=m;rw[zBA]at m'
 rcases qAn.mp m' with z|z
 ·exact .inl ⟨z,zCD z⟩
 ·exact .inr (zFR z)
theorem zEC{C:Addr}{x:Str}(nd:(sc.names.map (·.1)).Nodup)(h:(x,qH0)∈sc.names):(zE1 sc C X.env).cells.lookup x=some ((X.env.cells.lookup x).getD 0):=by
 show(cellsFrom (C+1) sc.names (clos X.env.cells sc.names [])).lookup x=_
 rw[zBA,zH2,zEA (fun a m=>?_),Option.none_or]
 ·obtain⟨b,hb⟩:=zE9 (zIG (cells:=X.env.cells) h)
  have:=(zFR (mem_of_lookup hb)).2
  rw[hb,this]
 ·have e1:=zBX nd (zCD m);rw[zBX nd h]at e1;cases e1
theorem zQV(I:Inv X pins σ H s)(hc:X.calm=true)(S:CompNames X.N N' k sc X.env){fp:List Addr}(hf:∀b∈fp,FpOk X pins H b)(hfo:∀b∈fp,∃o,s.heap.get? b=some o)
  {s4:qGw} {D C:Addr} (eD:D=s.heap.objs.size) (eC:C=s.heap.objs.size+1)
  (e4:s4={ s with heap:=pushCells ((s.heap.push { cls:=.type "list",data:=.seq #[] 0 }).push { cls:=.type "dict",data:=.dict #[] }) sc.names }) :
  Inv (zDB X N' sc C s H fp) [(D,{ cls:=.type "list",data:=.seq #[] 0 })] (σ++qA2 k none) H s4/\∀b∈fp,FpOk (zDB X N' sc C s H fp) [(D,{ cls:=.type "list",data:=.seq #[] 0 })] H b:=by
 subst eD eC e4
 generalize hh1:s.heap.push { cls:=.type "list",data:=.seq #[] 0 }=h1
 generalize hh2:h1.push { cls:=.type "dict",data:=.dict #[] }=h2
 have sz1:h1.objs.size=s.heap.objs.size+1:=by rw[<- hh1];exact qHi ..
 have sz2:h2.objs.size=s.heap.objs.size+2:=by rw[<- hh2,qHi,sz1]
 have k1:∀b o,s.heap.get? b=some o->h1.get? b=some o:=fun b o e=>by rw[<- hh1];exact qGx _ e
 have k2:∀b o,h1.get? b=some o->h2.get? b=some o:=fun b o e=>by rw[<- hh2];exact qGx _ e
 have k3:∀b o,h2.get? b=some o->(pushCells h2 sc.names).get? b=some o:=pushCells_keeps sc.names h2;have kk:∀b o,s.heap.get? b=some o->(pushCells h2 sc.names).get? b=some o:=fun b o e=>k3 b o (k2 b o (k1 b o e))
 have own:CellsOk (pushCells h2 sc.names) h2.objs.size (cellsFrom h2.objs.size sc.names []):=cellsFrom_ok sc.names h2 h2.objs.size [] ⟨fun _ _ hm=>(nomatch hm),qC7⟩ (qA6 _);have eC1:s.heap.objs.size+1+1=h2.objs.size:=by rw[sz2]
 have freeCell:∀x,(x,qH0)∈sc.names->∃c,X.env.cells.lookup x=some c:=fun x hx=>I.ok.has x (S.free x hx)
 have cells:∀x c,(zE1 sc (s.heap.objs.size+1) X.env).cells.lookup x=some c ->
   ((x,c)∈cellsFrom h2.objs.size sc.names []/\(x,qHd)∈sc.names/\(pushCells h2 sc.names).IsCell c none/\h2.objs.size<=c)\/((x,qH0)∈sc.names/\X.env.cells.lookup x=some c):=fun x c e=>by
  rcases zMS S.nd e with⟨m,q⟩|⟨m,q⟩
  ·rw[eC1]at m;exact .inl ⟨m,q,(own.empty x c m).1,(own.empty x c m).2⟩
  ·obtain⟨c',hc'⟩:=freeCell x m;rw[hc',qDo]at q;subst q;exact .inr ⟨m,hc'⟩
 have old:∀x c,X.env.cells.lookup x=some c->c<s.heap.objs.size:=fun x c e=>by
  obtain⟨v,q⟩:=I.cell x c e;exact q.lt
 have fpl:∀b∈fp,b<s.heap.objs.size:=fun b hb=>by
  obtain⟨o,e⟩:=hfo b hb;exact qGy e
 have hCn:H (s.heap.objs.size+1)=none:=I.hok.fresh (qD4 _);have hDn:H s.heap.objs.size=none:=I.hok.fresh (qA6 _);have nofs:∀a,s.heap.objs.size<=a->a∉frs X.stack:=fun a ha hb=>by
  rcases qAk.mp (I.stkSub a hb)with e|hb
  ·have t1:=asN I.lt;have t2:=asE e;have t3:=asL ha
   lia
  ·exact I.nofs ha hb
 have fin:∀b∈fp,b∉frs X.stack:=fun b hb z=>by
  obtain⟨f0,f1,f2,f3,f4,f5⟩:=hf b hb
  rcases qAk.mp (I.stkSub b z)with e|z
  ·exact f1 e
  ·exact f2 z
 have ok:(zDB X N' sc (s.heap.objs.size+1) s H fp).Ok:=by
  refine⟨I.ok.mod,S.kind,I.ok.glob,I.ok.blt,qD4 _,?_,?_,?_,I.ok.hd,I.ok.frames,.inl rfl,?_,I.bs,qAj I.ok.bsz I.sz,?_,fin,I.stack,I.stkFree⟩
  ·intro x y c hx hy
   rcases cells x c hx with⟨m1,_,_,g1⟩|⟨m1,g1⟩<;>rcases cells y c hy with⟨m2,_,_,g2⟩|⟨m2,g2⟩
   ·exact name_of_addr own.apart m1 m2
   ·exact absurd (qAc (old y c g2) (qAj (by rw[sz2];exact qDp _ _) g1)) (qBm _)
   ·exact absurd (qAc (old x c g1) (qAj (by rw[sz2];exact qDp _ _) g2)) (qBm _)
   ·exact I.ok.inj x y c g1 g2
  ·intro x hx;have hx:(relabel sc X.env).names.lookup x=some .cell\/(relabel sc X.env).names.lookup x=some .free:=hx;have two:sc.names.lookup x=some .cell\/sc.names.lookup x=some .free:=by
    rcases hx with hx|hx
    ·rcases zBD (sc:=sc) hx with q|⟨q,_⟩
     ·exact .inl q
     ·exact .inr q
    ·rcases zBD (sc:=sc) hx with q|⟨_,q⟩
     ·exact .inr q
     ·cases q
   rcases two with q|q
   ·have:=qCl sc.names (s.heap.objs.size+1+1) (clos X.env.cells sc.names []) (.inl q)
    exact qDe.mp this
   ·exact⟨_,zEC S.nd (mem_of_lookup q)⟩
  ·intro x c hx e;have hx:(sc.names.lookup x==some qHd)=true:=hx;have hx':sc.names.lookup x=some .cell:=by simpa using hx
   rcases cells x c e with⟨_,_,_,g⟩|⟨m,_⟩
   ·show s.heap.objs.size<=c
    lia
   ·rw[zBX S.nd m]at hx';cases hx'
  ·intro b hb;refine⟨?_,fun x c e z=>?_⟩
   ·exact qAu (qCq (fpl b hb))
   ·rcases cells x c e with⟨_,_,_,g⟩|⟨_,g⟩
    ·have t1:=asN (fpl b hb);have t2:=asL g;have t3:=asE z
     lia
    ·exact(hf b hb).2.2.2.2.1 x c g z
  ·intro b o e hb
   rcases(hf b hb).2.2.2.1 with z|z
   ·exact I.ok.noex b o e z
   ·exact absurd (qAc (qGy e) (qAj I.ok.bsz z)) (qBm _)
 have ns:(pushCells h2 sc.names).Ns (s.heap.objs.size+1) fun _=>none:=by
  have q:h2.Ns h1.objs.size fun _=>none:=by rw[<- hh2];exact Heap.Ns.new h1 (.type "dict")
  rw[sz1]at q;exact q.keeps k3
 have hD1:h1.get? s.heap.objs.size=some { cls:=.type "list",data:=.seq #[] 0 }:=by rw[<- hh1];exact qH4 _ rfl
 refine⟨⟨ok,rfl,I.bare,Un.kept kk,⟨_,ns,?_⟩,?_,hCn,?_,?_,I.hok.kept kk,?_⟩,?_⟩
 ·intro i x v h1 h2 h3;have hi:i<X.N.length:=by
   rw[<- I.len]
   by_cases hi:i<σ.length
   ·exact hi
   ·rw[qAa (by lia),qBi]at h2
    split at h2<;>cases h2
  have h2':σ[i]?=some (some v):=by
   rw[qA9 (by rw[I.len];exact hi)]at h2;exact h2
  have h1:N'[i]?=some x:=h1
  rcases S.old i x h1 hi with⟨m,e⟩|e
  ·obtain⟨mm,hn,hl⟩:=I.loc;have hv:Vis X.env.scope x:=(S.free x m).elim (fun z=>.inr (.inl z)) fun z=>.inr (.inr z)
   obtain⟨u,r,l⟩:=hl i x v e h2' hv;refine⟨u,r,?_⟩
   rcases l with⟨z,_⟩|⟨_,c,hc,hcell⟩
   ·rcases S.free x m with z'|z'<;>rw[z]at z'<;>cases z'
   ·refine .inr ⟨?_,c,?_,hcell.keeps kk⟩
    ·have hv3:(relabel sc X.env).names.lookup x=some .local\/(relabel sc X.env).names.lookup x=some .cell\/(relabel sc X.env).names.lookup x=some .free:=h3
     rcases hv3 with q|q|q
     ·rcases zBD (sc:=sc) q with q|⟨_,q⟩
      ·rw[zBX S.nd m]at q;cases q
      ·cases q
     ·exact .inl q
     ·exact .inr q
    ·have q:=zEC (X:=X) (C:=s.heap.objs.size+1) S.nd m;rw[hc,qDo]at q;exact q
  ·exfalso
   have hv3:(relabel sc X.env).names.lookup x=some .local\/(relabel sc X.env).names.lookup x=some .cell\/(relabel sc X.env).names.lookup x=some .free:=h3
   rcases hv3 with q|q|q<;>rcases zBD (sc:=sc) q with q|⟨q,_⟩<;>rw[e]at q<;>cases q
 ·intro x c e
  rcases cells x c e with⟨_,_,g,_⟩|⟨_,g⟩
  ·exact⟨_,g⟩
  ·obtain⟨v,q⟩:=I.cell x c g;exact⟨v,q.keeps kk⟩
 ·intro x c e
  rcases cells x c e with⟨_,_,_,g⟩|⟨_,g⟩
  ·exact I.hok.fresh (by lia)
  ·exact I.freeC x c g
 ·intro p hp;have hp':p=(s.heap.objs.size,{ cls:=.type "list",data:=.seq #[] 0 }):=by
   have:p∈([]++[(s.heap.objs.size,({ cls:=.type "list",data:=.seq #[] 0 }:Obj))]:List (Addr×Obj)):=hp
   simpa using this
  subst hp';refine⟨k3 _ _ (k2 _ _ hD1),hDn,?_,nofs _ (qA6 _),fun v z=>by cases z⟩;show s.heap.objs.size≠s.heap.objs.size+1
  lia
 ·show(σ++qA2 k none).length=N'.length
  rw[qAw,qC0,I.len,S.len]
 ·intro b hb;obtain⟨f0,f1,f2,f3,f4,f5⟩:=hf b hb;refine⟨f0,(ok.exf b hb).1,fin b hb,.inl hb,fun x c e=>(ok.exf b hb).2 x c e,fun p hp=>?_⟩;have hp':p=(s.heap.objs.size,{ cls:=.type "list",data:=.seq #[] 0 }):=by
   have:p∈([]++[(s.heap.objs.size,({ cls:=.type "list",data:=.seq #[] 0 }:Obj))]:List (Addr×Obj)):=hp
   simpa using this
  subst hp';exact qBn (fpl b hb)
end
theorem zE6{prog:qGz}{w:World}{A:qH1}{R:qJ6->qGw->Prop}{s:qGw}{elt target iter:Expr}{ifs:List Expr}{scope:Scope}{pos:Pos}{it acc:Value}{env:Env}(I:Nat->qGw->Prop)
  (turn:∀n s,I n s->wpAny (model prog w) A (pyNext it) (fun r s₁=>match r with
   |none=>R (.ok .next) s₁
   |some v=>wpAny (model prog w) A (letOwnedTupleGo target it v) (fun _ s₂'=>wpAny (model prog w) A (assign target env v) (fun _ s₂=>
     wpAny (model prog w) A (forIn ifs true fun c r=>if r=true then do let ok <- isTrue c env (eval c env);pure (qC1 ok)else pure (qC1 r)) (fun ok s₃=>
      if ok=true then wpAny (model prog w) A (eval elt env) (fun x s₄=>
       wpAny (model prog w) A (call (.builtin "list.append") [acc,x]) (fun _ s₅=>∃m,m<n/\I m s₅) (fun _ _=>False) s₄) (fun _ _=>False) s₃
      else ∃m,m<n/\I m s₃) (fun _ _=>False) s₂) (fun _ _=>False) s₂') (fun _ _=>False) s₁) (fun _ _=>False) s)
  (n:Nat) (h:I n s) :
  qId (model prog w) A (.compLoop (.ListComp elt [⟨target,iter,ifs,0⟩] scope pos) 0 it acc env) R s:=by
 refine codeAny_loop rfl I (fun n s hI=>?_) n h;show wpAny _ A ((compTurn (.ListComp elt [⟨target,iter,ifs,0⟩] scope pos) 0 it acc env).onRaise (fun x=>do noteFrame x env;theTreesLotGoes x)) _ _ s;refine wpAny_noted ?_;rw[compTurn_list];refine wpAny_bind (wpAny_standAt (wpAny_bind (wpAny_mono (turn n s hI) (fun r s₁ h₁=>?_) fun _ _ z=>z.elim)));cases r with
 |none=>exact wpAny_pure h₁
 |some v=>
  refine wpAny_bind (wpAny_mono h₁ (fun _ s₂' h₂'=>?_) fun _ _ z=>z.elim);refine wpAny_bind (wpAny_mono h₂' (fun _ s₂ h₂=>wpAny_bind (wpAny_mono h₂ (fun ok s₃ h₃=>?_) fun _ _ z=>z.elim)) fun _ _ z=>z.elim);cases ok with
  |false=>exact wpAny_pure ⟨rfl,h₃⟩
  |true=>
   exact wpAny_bind (wpAny_bind (wpAny_mono h₃ (fun x s₄ h₄=>wpAny_bind (wpAny_mono h₄ (fun _ s₅ h₅=>wpAny_pure (wpAny_pure ⟨rfl,h₅⟩)) fun _ _ z=>z.elim)) fun _ _ z=>z.elim))
def zRH(k:Nat)(g:TG)(tif:TT)(te:TE)(σ:St)(Q:VK)(J:It)(H1:Hp):Prop:=∃W:Nat->Nat->List V->Hp->Prop,(∃m,W 0 m [] H1)/\∀i m acc H,W i m acc H ->
 (J.stop i H/\∀D,H D=none->Q (.ref D) (upd H D (.lst acc))) \/
 (J.go i H/\acc.length<sizeLine/\∃N:List V->Hp->Prop,(∀acc' H',N acc' H'->∃m',m'<m/\W (i+1) m' acc' H')/\∀x H',J.yld i H x H'->g x (σ++qA2 k none) H' fun σ2 H2=>∃own:St,own.length=k/\σ2=σ++own/\tif σ2 H2 fun b H3=>if b=true then te σ2 H3 fun v H4=>N (acc++[v]) H4 else N acc H3)
noncomputable def zSR(wi:TI)(k:Nat)(g:TG)(tif:TT)(te:TE):TE:=fun σ H Q=>wi σ H (zRH k g tif te σ Q)
theorem HOk.track{P:qGz}{w:World}{H:Hp}{h:Heap}{a:Addr}{o:HO}(x:HOk P w H h)(hn:H a=none)(new:ObjOk P w (upd H a o) h a o):HOk P w (upd H a o) h:=fun b u e=>by
 by_cases hb:b=a
 ·subst hb;rw[zAJ]at e;cases e;exact new
 ·rw[zAH hb]at e;exact(x b u e).stay (fun c v _ q=>q) (fun c q=>by rw[zAH (zAI q hn)];exact q) (fun c xs q=>by rw[zAH (zAI q hn)];exact q) fun c _ _ q _=>by rw[zAH (zAI q hn)];exact q
section
variable{X:Cx}{N':List Str}{k:Nat}{sc:Scope}{tg iter elt:Expr}{ifs:List Expr}{wi:TI}{g:TG}{tif:TT}{te:TE}{pos:Pos}
theorem zH6{pins:List (Addr×Obj)}{σ:St}{H2:Hp}{s2:qGw}{Q:VK}{RR:Value->Addr->qJ6->qGw->Prop}{E:Value->qGw->Prop}(hc:X.calm=true)(S:CompNames X.N N' k sc X.env)
  (hg:∀C s H fp,PG (zDB X N' sc C s H fp) tg g) (hif:∀C s H fp,PTs (zDB X N' sc C s H fp) ifs tif) (he:∀C s H fp,PE (zDB X N' sc C s H fp) elt te)
  {it:Addr} {fp:List Addr} {tn:Nat->Heap->Prop} {J:It} (I2:Inv X pins σ H2 s2) (T:Turn X.prog X.w X.K tg J fp it tn) (st2:tn 0 s2.heap) (f2:∀b∈fp,FpOk X pins H2 b)
  {W:Nat->Nat->List V->Hp->Prop} {m0:Nat} (w0:W 0 m0 [] H2)
  (turn:∀i m acc H,W i m acc H->(J.stop i H/\∀D,H D=none->Q (.ref D) (upd H D (.lst acc))) \/
   (J.go i H/\acc.length<sizeLine/\∃N:List V->Hp->Prop,(∀acc' H',N acc' H'->∃m',m'<m/\W (i+1) m' acc' H')/\∀x H',J.yld i H x H'->g x (σ++qA2 k none) H' fun σ2 H2=>∃own:St,own.length=k/\σ2=σ++own/\tif σ2 H2 fun b H3=>if b=true then te σ2 H3 fun v H4=>N (acc++[v]) H4 else N acc H3))
  (hRR:∀D C s' H',D<C->s2.heap.objs.size<=D->(∃m,s'.heap.Ns C m)->H' C=none->C∉frs X.stack->Inv X pins σ H' s'->Q (.ref D) H'->RR (.ref D) C (.ok .next) s') :
  wpAny (model X.prog X.w) X.A (newList []) (fun acc s₃=>wpAny (model X.prog X.w) X.A (newFunctionEnv sc X.env.globals (clos X.env.cells sc.names []) [] X.env.qual none .none (some X.env)) (fun cenv s₄=>
   qId (model X.prog X.w) X.A (.compStart (.ListComp elt [⟨tg,iter,ifs,0⟩] sc pos) 0 (.ref it) acc { cenv with scope:=relabel sc X.env }) (RR acc cenv.locals) s₄) E s₃) E s2:=by
 refine wpAny_newObj_type (zEJ ?_);show qId _ _ (.compStart _ 0 (.ref it) (.ref s2.heap.objs.size) _) _ _;have szp:(s2.heap.push { cls:=.type "list",dict:=none,data:=.seq ([]:List Value).toArray }).objs.size=s2.heap.objs.size+1:=qHi ..;obtain⟨I4,F4⟩:=zQV (s4:={ s2 with heap:=pushCells ((s2.heap.push { cls:=.type "list",data:=.seq #[] 0 }).push { cls:=.type "dict",data:=.dict #[] }) sc.names }) I2 hc S f2 (fun b hb=>let⟨o,e,_⟩:=T.obj 0 _ st2 b hb;⟨o,e⟩) rfl rfl rfl
 generalize hC:(s2.heap.push { cls:=.type "list",dict:=none,data:=.seq ([]:List Value).toArray }).objs.size=C at *
 have eC:C=s2.heap.objs.size+1:=szp;rw[<- eC]at I4 F4
 generalize hs4:({ s2 with heap:=pushCells ((s2.heap.push { cls:=.type "list",data:=.seq #[] 0 }).push { cls:=.type "dict",data:=.dict #[] }) sc.names }:qGw)=s4 at I4 F4
 have kk:∀b o,s2.heap.get? b=some o->s4.heap.get? b=some o:=fun b o e=>by
  rw[<- hs4];exact pushCells_keeps sc.names _ b o (qGx _ (qGx _ e))
 have st4:tn 0 s4.heap:=T.keep 0 _ _ st2 fun b _ o e=>kk b o e
 generalize hX':zDB X N' sc C s2 H2 fp=X' at I4 F4
 have henv:X'.env=zE1 sc C X.env:=by rw[<- hX'];rfl
 have xprog:X'.prog=X.prog:=by rw[<- hX'];rfl
 have xw:X'.w=X.w:=by rw[<- hX'];rfl
 have xK:X'.K=X.K:=by rw[<- hX'];rfl
 have xcalm:X'.calm=true:=by rw[<- hX'];exact hc
 have xA:X'.A=X.A:=by rw[<- hX'];rfl
 have xpn:X'.pn=[]:=by rw[<- hX'];rfl
 have xxe:X'.xe=fun _ _=>False:=by rw[<- hX'];rfl
 have xs0:X'.s₀=s2:=by rw[<- hX'];rfl
 have xH0:X'.H₀=H2:=by rw[<- hX'];rfl
 have xfs:X'.fs=frs X.stack:=by rw[<- hX'];rfl
 have xex:X'.ex=fp:=by rw[<- hX'];rfl
 have hgX:PG X' tg g:=by rw[<- hX'];exact hg C s2 H2 fp
 have hifX:PTs X' ifs tif:=by rw[<- hX'];exact hif C s2 H2 fp
 have heX:PE X' elt te:=by rw[<- hX'];exact he C s2 H2 fp
 have locC:X'.env.locals=C:=by rw[henv];rfl
 generalize hDd:s2.heap.objs.size=D at *
 have loop:qId (model X.prog X.w) X.A (.compLoop (.ListComp elt [⟨tg,iter,ifs,0⟩] sc pos) 0 (.ref it) (.ref D) (zE1 sc C X.env)) (RR (.ref D) C) s4:=by
  refine zE6 (fun n s'=>∃i H' acc its nn,Inv X' [] (σ++qA2 k none) H' s'/\tn i s'.heap/\(∀b∈fp,H' b=none)/\H' D=none/\W i n acc H'/\acc.length<=sizeLine/\Vals acc its/\s'.heap.get? D=some { cls:=.type "list",data:=.seq its.toArray nn }) ?_ m0 ?_
  ·rintro n s5 ⟨i,H5,acc,its,nn,I5,st5,fr5,hD5,w5,hz5,rv5,hL5⟩
   have hDlt:D<C:=by rw[eC];exact qDq _
   have pinD:Inv X' [(D,{ cls:=.type "list",data:=.seq its.toArray nn })] (σ++qA2 k none) H5 s5:=I5.pins_of fun p hp=>by
    have hp':p=(D,{ cls:=.type "list",data:=.seq its.toArray nn }):=by simpa using hp
    subst hp';refine⟨hL5,hD5,?_,?_,fun v z=>by cases z⟩
    ·rw[locC];exact qAu hDlt
    ·have q:=(I4.pin (D,{ cls:=.type "list",data:=.seq #[] 0 }) (by simp)).2.2.2.1;exact q
   have fpD:∀{H':Hp}{oo:Obj},(∀b∈fp,H' b=none)->∀b∈fp,FpOk X' [(D,oo)] H' b:=fun{H' oo} hn b hb=>by
    obtain⟨f0,f1,f2,f3,f4,f5⟩:=F4 b hb;refine⟨hn b hb,f1,f2,f3,f4,fun p hp=>?_⟩;have hp':p=(D,oo):=by
     rw[xpn]at hp
     simpa using hp
    subst hp';exact f5 (D,{ cls:=.type "list",data:=.seq #[] 0 }) (by simp)
   rcases turn i n acc H5 w5 with⟨stop,q⟩|⟨go,hlt,N,hN,step⟩
   ·have dn:=T.done X' xprog xw xK xcalm i _ s5 _ H5 (fun _ _=>False) pinD (fpD fr5) st5 stop;rw[xA]at dn;refine thn dn fun r s6 z0=>?_
    obtain⟨hr,I6⟩:=z0;subst hr;show RR (.ref D) C (.ok .next) s6;have hL6:=(I6.pin (D,{ cls:=.type "list",data:=.seq its.toArray nn }) (by simp)).1;have un6:Un (frs X.stack) fp H2 H5 s2.heap s6.heap:=by
     have:=I6.base
     rw[xs0,xH0,xfs,xex]at this;exact this
    have hok6:HOk X.prog X.w H5 s6.heap:=by
     have:=I6.hok
     rw[xprog,xw]at this;exact this
    have hDno:s2.heap.get? D=none:=qHk (by rw[hDd];exact qA6 _);have un7:Un (frs X.stack) fp H2 (upd H5 D (.lst acc)) s2.heap s6.heap:=
     ⟨un6.keep,un6.slot,fun b o e n hx=>by
       have hb:b≠D:=by rintro rfl;rw[hDno]at e;cases e
       rw[zAH hb];exact un6.free b o e n hx,un6.there,
      fun b xs e=>by
       have e':=un6.tups b xs e;rw[zAH (zAI e' hD5)];exact e',
      fun b o u e=>by
       have e':=un6.frzs b o u e;rw[zAH (zAI e' hD5)];exact e',
      fun b ps e=>by
       obtain⟨more,e'⟩:=un6.tbls b ps e;exact⟨more,by rw[zAH (zAI e' hD5)];exact e'⟩⟩
    have hok7:HOk X.prog X.w (upd H5 D (.lst acc)) s6.heap:=hok6.track hD5 ⟨hz5,its,nn,rv5,hL6⟩;have os6:s6.os=s2.os:=by have:=I6.os;rw[xs0]at this;exact this
    have I7:Inv X pins σ (upd H5 D (.lst acc)) s6:=I2.call' os6 un7 hok7 I6.bare fun b hb=>by
     obtain⟨f0,f1,f2,f3,f4,f5⟩:=f2 b hb;exact⟨f3,f1,f4,f5⟩
    obtain⟨mm,hn,_⟩:=I6.loc;rw[locC]at hn;have hC5:H5 C=none:=by have:=I6.free;rw[locC]at this;exact this
    refine hRR D C s6 (upd H5 D (.lst acc)) hDlt (qA6 _) ⟨mm,hn⟩ ?_ ?_ I7 (q D hD5)
    ·rw[zAH (qBn hDlt)];exact hC5
    ·intro hb
     rcases qAk.mp (I2.stkSub C hb)with e|hb
     ·have t1:=asN I2.lt;have t2:=asE e;rw[hDd]at t1;have t3:=asN hDlt
      lia
     ·exact I2.nofs (by rw[hDd];exact qB6 hDlt) hb
   ·have itm:=T.item X' xprog xw xK xcalm i _ s5 _ H5 (fun _ _=>False) pinD (fpD fr5) st5 go;rw[xA]at itm;refine thn itm fun r s6 z0=>?_
    obtain⟨u,hr,h6⟩:=z0;subst hr;refine thn h6 fun _ s7 z0=>?_
    obtain⟨x,H7,I7,r7,y7,st7,fr7⟩:=z0;have I7':Inv X' ([(D,{ cls:=.type "list",data:=.seq its.toArray nn })]++zH1 fp s7.heap) (σ++qA2 k none) H7 s7:=I7.pinned (fpD fr7) (T.obj _ _ st7);have asg:=hgX _ s7 _ H7 x u _ I7' r7 (step x H7 y7);rw[xprog,xw,xA,henv,xxe]at asg;refine thn asg fun _ s8 z0=>?_
    obtain⟨σ8,H8,I8,own,hown,hσ8,q8⟩:=z0;have weak:∀{pl:List (Addr×Obj)}{H':Hp}{s':qGw},Inv X' pl σ8 H' s'->Inv X' [] (σ++qA2 k none) H' s':=fun{pl H' s'} J'=>by
     have J0:Inv X' [] σ8 H' s':=J'.pins_of (fun p hp=>by simp at hp);refine J0.weak (by rw[hσ8];simp[hown]) fun j v hj=>?_
     rw[hσ8]
     by_cases hjl:j<σ.length
     ·rw[qA9 hjl]at hj ⊢;exact hj
     ·rw[qAa (by lia),qBi]at hj
      split at hj<;>cases hj
    have tst:=hifX _ s8 σ8 H8 _ I8 q8;rw[xprog,xw,xA,henv,xxe]at tst;refine thn tst fun b s9 z0=>?_
    obtain⟨H9,I9,q9⟩:=z0;have pin9:∀{σ':St}{H':Hp}{s':qGw},Inv X' ([(D,{ cls:=.type "list",data:=.seq its.toArray nn })]++zH1 fp s7.heap) σ' H' s' ->
      s'.heap.get? D=some { cls:=.type "list",data:=.seq its.toArray nn }/\H' D=none/\tn (i+1) s'.heap/\(∀b∈fp,H' b=none):=fun{σ' H' s'} J'=>by
     have a1:=J'.pin (D,{ cls:=.type "list",data:=.seq its.toArray nn }) (by simp);refine⟨a1.1,a1.2.1,T.keep _ _ _ st7 fun b hb o e=>(J'.pin (b,o) (qAl _ (qAl _ (zDW hb e)))).1,fun b hb=>?_⟩;obtain⟨o,e,d⟩:=T.obj _ _ st7 b hb;exact(J'.pin (b,o) (qAl _ (qAl _ (zDW hb e)))).2.1
    cases b with
    |false=>
     rw[if_neg qAd];rw[if_neg qAd]at q9;obtain⟨m',hm,w9⟩:=hN _ _ q9;obtain⟨p1,p2,p3,p4⟩:=pin9 I9;exact⟨m',hm,i+1,H9,acc,its,nn,weak I9,p3,p4,p2,w9,hz5,rv5,p1⟩
    |true=>
     rw[if_pos rfl];rw[if_pos rfl]at q9;have ev:=heX _ s9 σ8 H9 _ I9 q9;rw[xprog,xw,xA,henv,xxe]at ev;refine thn ev fun y s10 z0=>?_
     obtain⟨v,H10,I10,r10,n10⟩:=z0;obtain⟨m',hm,w10⟩:=hN _ _ n10;obtain⟨p1,p2,p3,p4⟩:=pin9 I10;have hlen:its.length=acc.length:=rv5.length.symm;refine wpAny_list_append_plain (items:=its.toArray) ⟨nn,p1⟩ (fun h' hl' hs'=>?_) (by simp only[qAb];lia);have hDfp:D∉fp:=fun hb=>(F4 D hb).2.2.2.2.2 (D,{ cls:=.type "list",data:=.seq #[] 0 }) (by simp) rfl
     have I11:Inv X' [] (σ++qA2 k none) H10 { s10 with heap:=h' }:=by
      have J0:Inv X' [] (σ++qA2 k none) H10 s10:=weak I10;refine J0.turned (t':=s10.toks) (it:=D) (fun b o hb e=>(hs'.2 b hb).trans e) p2 ?_ (.inr ?_) (fun x c e z=>?_) (fun p hp=>?_)
      ·rw[locC];exact qAu hDlt
      ·rw[xs0,hDd];exact qA6 _
      ·obtain⟨v',q⟩:=J0.cell x c e;obtain⟨o,ho,hd⟩:=q;rw[z,p1]at ho;cases ho;cases hd
      ·rw[xpn]at hp;simp at hp
     obtain⟨n',hk⟩:=hl';have hk':h'.get? D=some { cls:=.type "list",data:=.seq (its++[y]).toArray n' }:=by rw[hk];simp
     refine⟨m',hm,i+1,H10,acc++[v],its++[y],n',I11,T.keep _ _ _ p3 fun b hb o e=>(hs'.2 b (fun z=>hDfp (z▸hb))).trans e,p4,p2,w10,?_,rv5.append (.cons r10 .nil),hk'⟩;rw[qAw,qDw]
     lia
  ·refine⟨0,H2,[],[],0,I4.pins_of (fun p hp=>by simp at hp),st4,fun b hb=>(f2 b hb).1,I2.hok.fresh (by rw[hDd];exact qA6 _),w0,qBk _,.nil,?_⟩;exact(I4.pin (D,{ cls:=.type "list",data:=.seq #[] 0 }) (by simp)).1
 exact codeAny_compStart_list loop (T.self _ 0 _ _ _ st4 loop)
theorem zCI(hc:X.calm=true)(S:CompNames X.N N' k sc X.env)(hi:PI X tg iter wi)
  (hg:∀C s H fp,PG (zDB X N' sc C s H fp) tg g) (hif:∀C s H fp,PTs (zDB X N' sc C s H fp) ifs tif) (he:∀C s H fp,PE (zDB X N' sc C s H fp) elt te)
  (hs:∀x,qHu iter X.env x=pure x:=by intro _;rfl):PE X (.ListComp elt [⟨tg,iter,ifs,0⟩] sc pos) (zSR wi k g tif te):=by
 intro pins s σ H Q I h;rw[eval_ListComp];have hfree:∀x,(x,qH0)∈sc.names->∃c,X.env.cells.lookup x=some c:=fun x hx=>I.ok.has x (S.free x hx)
 refine wpAny_comprehension_free (use:=none) rfl hs (zEV hfree) S.kind (fun x hx hl=>?_) ?_
 ·obtain⟨n,kd⟩:=x;dsimp only at hl ⊢;subst hl;exact zBX S.nd hx
 ·refine thn (hi pins s σ H _ I h) fun v s1 h1=>thn h1 fun itv s2 h2=>?_
  obtain⟨it,fp,tn,J,H2,e,I2,T,st2,f2,W,⟨m0,w0⟩,turn⟩:=h2;subst e;refine zH6 (RR:=fun acc C=>compPost (model X.prog X.w) X.A X.xe none (EP X pins σ Q) acc C) hc S hg hif he I2 T st2 f2 w0 turn ?_;intro D C s' H' hDC hD hn hCn hCf I' q;obtain⟨m,hn⟩:=hn;refine⟨m,hn,fun h' hs'=>⟨.ref D,H',?_,rfl,q⟩⟩;have hCb:s2.heap.objs.size<=C:=qB6 (qEl hD hDC);refine I'.turned (t':=s'.toks) (it:=C) (fun b o hb e=>(hs'.2 b hb).trans e) hCn ?_ (.inr (qAj I2.sz hCb)) (fun x c e z=>?_) (fun p hp z=>?_)
  ·exact qBn (qAc I2.lt hCb)
  ·obtain⟨v,q⟩:=I2.cell x c e;exact absurd z (qAu (qAc q.lt hCb))
  ·exact absurd z (qAu (qAc (qGy (I2.pin p hp).1) hCb))
theorem zCE{i:Nat}{x:Str}{pos' spos:Pos}(hN:X.N.Nodup)(hi':X.N[i]?=some x)(hx:Loc X.env.scope x)(hc:X.calm=true)(S:CompNames X.N N' k sc X.env)(hi:PI X tg iter wi)
  (hg:∀C s H fp,PG (zDB X N' sc C s H fp) tg g) (hif:∀C s H fp,PTs (zDB X N' sc C s H fp) ifs tif) (he:∀C s H fp,PE (zDB X N' sc C s H fp) elt te)
  (hsw:qJ5 (.ListComp elt [⟨tg,iter,ifs,0⟩] sc pos) (some (.Name x pos')) spos.line X.env=pure true:=by rfl)
  (hs:∀x,qHu iter X.env x=pure x:=by intro _;rfl) (hf:X.fn x=true\/X.env.scope.names.lookup x=some .local:=by first|exact .inl rfl|exact .inr rfl|assumption) :
  PS X (.Assign [.Name x pos'] (.ListComp elt [⟨tg,iter,ifs,0⟩] sc pos) spos) (tAsg (zSR wi k g tif te) (zF4 i)):=by
 intro pins s σ H Dn I h;rw[exec_Assign_Name_used _ _ _ _ hsw];refine wpAny_bind (wpAny_standAt (wpAny_bind ?_));show wpAny _ X.A (do let _ <- comprehension (.ListComp elt [⟨tg,iter,ifs,0⟩] sc pos) sc X.env _ (newList []) false (eval iter X.env) (some (assign (.Name x pos') X.env))) _ _ s;have hfree:∀x,(x,qH0)∈sc.names->∃c,X.env.cells.lookup x=some c:=fun x hx=>I.ok.has x (S.free x hx)
 refine wpAny_bind (wpAny_mono (wpAny_comprehension_free (use:=some (assign (.Name x pos') X.env)) (Q:=fun _ s'=>SP X pins Dn .next s') rfl hs (zEV hfree) S.kind (fun x hx hl=>?_) ?_)
  (fun _ s' hq=>wpAny_pure (wpAny_pure hq)) fun _ _ e=>e)
 ·obtain⟨n,kd⟩:=x;dsimp only at hl ⊢;subst hl;exact zBX S.nd hx
 ·refine thn (hi pins s σ H _ I h) fun v s1 h1=>thn h1 fun itv s2 h2=>?_
  obtain⟨it,fp,tn,J,H2,e,I2,T,st2,f2,W,⟨m0,w0⟩,turn⟩:=h2;subst e;refine zH6 (Q:=fun v H'=>zF4 i v σ H' Dn.nx) (RR:=fun acc C=>compPost (model X.prog X.w) X.A X.xe (some (assign (.Name x pos') X.env)) (fun _ s'=>SP X pins Dn .next s') acc C) hc S hg hif he I2 T st2 f2 w0 turn ?_;intro D C s' H' hDC hD hn hCn hCf I' q;obtain⟨m,hn⟩:=hn;show wpAny _ _ (assign (.Name x pos') X.env (.ref D)) _ _ _;have hCb:s2.heap.objs.size<=C:=qB6 (qEl hD hDC);have hCL:C≠X.env.locals:=qBn (qAc I2.lt hCb);have hCc:∀x c,X.env.cells.lookup x=some c->c≠C:=fun x c e z=>by
   obtain⟨v,q⟩:=I2.cell x c e;exact absurd z (qAu (qAc q.lt hCb))
  refine qIq (zIZ (v:=.ref D) I' hN hi' hx rfl (fun s'' I'' ⟨a,sb,ha⟩=>?_) hf);have hCa:C≠a:=by
   rcases ha with e|e
   ·rw[e];exact hCL
   ·exact fun z=>hCc x a e z.symm
  refine⟨m,hn.sameBut sb hCa,fun h' hs'=>⟨_,H',?_,q⟩⟩;refine I''.turned (t':=s''.toks) (it:=C) (fun b o hb e=>(hs'.2 b hb).trans e) hCn hCL (.inr (qAj I2.sz hCb)) hCc (fun p hp z=>?_);exact absurd z (qAu (qAc (qGy (I2.pin p hp).1) hCb))
theorem zE0{lo:Int}{n:Nat}{σ:St}{H:Hp}{Q:VK}(Pv:Nat->List V->Hp->Prop)(h0:Pv 0 [] H)(hz:∀i acc H,i<n->Pv i acc H->acc.length<sizeLine)
  (hs:∀i acc H,i<n->Pv i acc H->g (.int (lo+i)) (σ++qA2 k none) H fun σ2 H2=>∃own:St,own.length=k/\σ2=σ++own/\tif σ2 H2 fun b H3=>if b=true then te σ2 H3 fun v H4=>Pv (i+1) (acc++[v]) H4 else Pv (i+1) acc H3)
  (hd:∀acc H,Pv n acc H->∀D,H D=none->Q (.ref D) (upd H D (.lst acc))) :
  zRH k g tif te σ Q (Itr lo n) H:=by
 refine⟨fun i m acc H=>m=n-i/\i<=n/\Pv i acc H,⟨n,by simp,qBk _,h0⟩,?_⟩
 rintro i m acc H ⟨rfl,hi,p⟩
 by_cases hlt:i<n
 ·refine .inr ⟨hlt,hz i acc H hlt p,Pv (i+1),fun acc' H' p'=>⟨n-(i+1),by lia,rfl,hlt,p'⟩,fun x H' y=>?_⟩;obtain⟨e,y⟩:=y;subst e y;exact hs i acc _ hlt p
 ·have e:i=n:=by lia
  subst e;exact .inl ⟨qA6 _,hd acc H p⟩
def zPX(g:TG)(tb:TS)(D:Ends)(σ:St)(J:It)(H1:Hp):Prop:=∃W:Nat->Nat->St->Hp->Prop,(∃m,W 0 m σ H1)/\∀i m σ H,W i m σ H ->
 (J.stop i H/\D.nx σ H)\/(J.go i H/\∃N:St->Hp->Prop,(∀σ' H',N σ' H'->∃m',m'<m/\W (i+1) m' σ' H')/\∀x H',J.yld i H x H'->g x σ H' fun σ2 H2=>tb { D with nx:=N,ct:=N,bk:=D.nx } σ2 H2)
theorem zB6{body:List Stmt}{tb:TS}(hp:PassesOwn (model X.prog X.w) X.A X.env X.xe)(hc:X.calm=true)(hi:PI X tg iter wi)(hg:PG X tg g)(hb:PSs X body tb)
  (hs:∀x,qHu iter X.env x=pure x:=by intro _;rfl):PS X (.For tg iter body [] pos) (fun D σ H=>wi σ H (zPX g tb D σ)):=zVL hp hc hi hg hb hs
end
inductive Dat where
 |non|bl (b:Bool)|int (i:Int)|str (x:Str)|lst (xs:List Dat)|tup (xs:List Dat)
mutual
def Dat.dep:Dat->Nat
 |.lst xs=>Dat.depL xs+1
 |.tup xs=>Dat.depL xs+1
 |_=>0
def Dat.depL:List Dat->Nat
 |[]=>0
 |x::r=>max x.dep (Dat.depL r)
end
mutual
def Dat.eq:Dat->Dat->Bool
 |.non,.non=>true
 |.bl a,.bl b=>a==b
 |.bl a,.int b=>(if a then 1 else 0)==b
 |.int a,.bl b=>a==(if b then 1 else 0)
 |.int a,.int b=>a==b
 |.str a,.str b=>a==b
 |.lst xs,.lst ys=>Dat.eqL xs ys
 |.tup xs,.tup ys=>Dat.eqL xs ys
 |_,_=>false
def Dat.eqL:List Dat->List Dat->Bool
 |[],[]=>true
 |x::r,y::q=>Dat.eq x y&&Dat.eqL r q
 |_,_=>false
end
mutual
def Rep(H:Hp):Dat->V->Prop
 |.non,v=>v=.non
 |.bl b,v=>v=.bl b
 |.int i,v=>v=.int i
 |.str x,v=>v=.str x
 |.lst ds,v=>∃a xs,v=.ref a/\H a=some (.lst xs)/\RepL H ds xs
 |.tup ds,v=>∃a xs,v=.ref a/\H a=some (.tup xs)/\RepL H ds xs
def RepL(H:Hp):List Dat->List V->Prop
 |[],xs=>xs=[]
 |d::r,xs=>∃x q,xs=x::q/\Rep H d x/\RepL H r q
end
mutual
theorem Rep.mono{H H':Hp}(s:Same H H'):∀{d:Dat}{v:V},Rep H d v->Rep H' d v
 |.non,_,h=>h
 |.bl _,_,h=>h
 |.int _,_,h=>h
 |.str _,_,h=>h
 |.lst _,_,h=>by obtain⟨a,xs,e,e',r⟩:=h;exact⟨a,xs,e,s _ _ e',RepL.mono s r⟩
 |.tup _,_,h=>by obtain⟨a,xs,e,e',r⟩:=h;exact⟨a,xs,e,s _ _ e',RepL.mono s r⟩
theorem RepL.mono{H H':Hp}(s:Same H H'):∀{ds:List Dat}{xs:List V},RepL H ds xs->RepL H' ds xs
 |[],_,h=>h
 |_::_,_,h=>by obtain⟨x,q,e,r,t⟩:=h;exact⟨x,q,e,Rep.mono s r,RepL.mono s t⟩
end
mutual
theorem Rep.inj{H:Hp}:∀{d e:Dat}{v:V},Rep H d v->Rep H e v->d=e
 |.non,e,v,h,h'=>by cases h;cases e<;>first|rfl|(cases h';done)|(obtain⟨a,xs,z,_⟩:=h';cases z)
 |.bl b,e,v,h,h'=>by cases h;cases e<;>first|(cases h';rfl)|(cases h';done)|(obtain⟨a,xs,z,_⟩:=h';cases z)
 |.int b,e,v,h,h'=>by cases h;cases e<;>first|(cases h';rfl)|(cases h';done)|(obtain⟨a,xs,z,_⟩:=h';cases z)
 |.str b,e,v,h,h'=>by cases h;cases e<;>first|(cases h';rfl)|(cases h';done)|(obtain⟨a,xs,z,_⟩:=h';cases z)
 |.lst ds,e,v,h,h'=>by
  obtain⟨a,xs,rfl,ha,q⟩:=h;cases e with
  |lst es=>
   obtain⟨b,ys,z,hb,q'⟩:=h';cases z;rw[ha]at hb;cases hb;rw[RepL.inj q q']
  |tup es=>
   obtain⟨b,ys,z,hb,q'⟩:=h';cases z;rw[ha]at hb;cases hb
  |_=>cases h'
 |.tup ds,e,v,h,h'=>by
  obtain⟨a,xs,rfl,ha,q⟩:=h;cases e with
  |tup es=>
   obtain⟨b,ys,z,hb,q'⟩:=h';cases z;rw[ha]at hb;cases hb;rw[RepL.inj q q']
  |lst es=>
   obtain⟨b,ys,z,hb,q'⟩:=h';cases z;rw[ha]at hb;cases hb
  |_=>cases h'
theorem RepL.inj{H:Hp}:∀{ds es:List Dat}{xs:List V},RepL H ds xs->RepL H es xs->ds=es
 |[],[],_,_,_=>rfl
 |[],_::_,_,h,h'=>by cases h;obtain⟨x,q,e,_⟩:=h';cases e
 |_::_,[],_,h,h'=>by cases h';obtain⟨x,q,e,_⟩:=h;cases e
 |d::r,e::t,_,h,h'=>by
  obtain⟨x,q,rfl,r1,t1⟩:=h;obtain⟨x',q',z,r2,t2⟩:=h';cases z;rw[Rep.inj r1 r2,RepL.inj t1 t2]
end
mutual
theorem Dat.eq_refl:∀d:Dat,Dat.eq d d=true
 |.non=>by simp[Dat.eq]
 |.bl _=>by simp[Dat.eq]
 |.int _=>by simp[Dat.eq]
 |.str _=>by simp[Dat.eq]
 |.lst xs=>by rw[Dat.eq];exact Dat.eqL_refl xs
 |.tup xs=>by rw[Dat.eq];exact Dat.eqL_refl xs
theorem Dat.eqL_refl:∀ds:List Dat,Dat.eqL ds ds=true
 |[]=>by simp[Dat.eqL]
 |d::r=>by rw[Dat.eqL,Dat.eq_refl d,Dat.eqL_refl r];rfl
end
theorem RepL.length{H:Hp}:∀{ds:List Dat}{xs:List V},RepL H ds xs->xs.length=ds.length
 |[],_,h=>by cases h;rfl
 |_::_,_,h=>by obtain⟨x,q,e,r,t⟩:=h;subst e;simp[RepL.length t]
theorem Dat.eqL_len:∀{xs ys:List Dat},xs.length≠ys.length->Dat.eqL xs ys=false
 |[],[],h=>absurd rfl h
 |[],_::_,_=>by simp[Dat.eqL]
 |_::_,[],_=>by simp[Dat.eqL]
 |x::r,y::q,h=>by
  rw[Dat.eqL,Dat.eqL_len (fun e=>h (by simp[e])),qCa]
theorem Dat.eqL_all:∀{xs ys:List Dat},xs.length=ys.length->∀(e:Nat->Bool),(∀j (h1:j<xs.length) (h2:j<ys.length),e j=Dat.eq xs[j] ys[j])->(qA8 xs.length).all e=Dat.eqL xs ys
 |[],[],_,_,_=>by simp[Dat.eqL]
 |[],_::_,h,_,_=>by simp at h
 |_::_,[],h,_,_=>by simp at h
 |x::r,y::q,h,e,he=>by
  have hl:r.length=q.length:=by simpa using h
  rw[qAt,qDt,qC6,Dat.eqL,he 0 (by simp) (by simp)]
  have:=Dat.eqL_all (xs:=r) (ys:=q) hl (fun j=>e (j+1)) (fun j h1 h2=>by
   rw[he (j+1) (by simpa using h1) (by simpa using h2)];simp)
  rw[<- this,List.all_map];rfl
theorem RepL.get{H:Hp}:∀{ds:List Dat}{xs:List V}{i:Nat}{x:V},RepL H ds xs->xs[i]?=some x->∃d,ds[i]?=some d/\Rep H d x
 |[],_,_,_,h,e=>by cases h;simp at e
 |d::_,_,0,_,h,e=>by obtain⟨x,q,e1,r,t⟩:=h;subst e1;simp at e;subst e;exact⟨d,rfl,r⟩
 |_::_,_,i+1,_,h,e=>by
  obtain⟨x,q,e1,r,t⟩:=h;subst e1;obtain⟨d',h1,h2⟩:=RepL.get (i:=i) t (by simpa using e);exact⟨d',by simpa using h1,h2⟩
theorem Dat.depL_mem{d:Dat}:∀{ds:List Dat},d∈ds->d.dep<=Dat.depL ds
 |_::_,h=>by
  rw[Dat.depL]
  rcases qAk.mp h with rfl|h
  ·exact Nat.le_max_left _ _
  ·exact qAj (Dat.depL_mem h) (Nat.le_max_right _ _)
section
variable{P:qGz}{w:World}{H:Hp}
theorem zDO(A:qH1):A.in1.units=A.units+1:=rfl
theorem zAU{s:qGw}{a:Addr}{xs:List V}(ok:HOk P w H s.heap)(h:H a=some (.lst xs)):∃its:List Value,Vals xs its/\s.heap.IsList a its.toArray:=by
 obtain⟨_,its,n,r,e⟩:=ok a _ h;exact⟨its,r,⟨_,e,rfl,n,rfl⟩⟩
theorem zB4{s:qGw}{a:Addr}{xs:List V}(ok:HOk P w H s.heap)(h:H a=some (.tup xs)):∃its:List Value,Vals xs its/\s.heap.IsTuple a its.toArray:=by
 obtain⟨_,its,r,e⟩:=ok a _ h;exact⟨its,r,e⟩
theorem Rep.flat{d:Dat}{v:V}(h:Rep H d v)(hf:d.dep=0):zDP v=true:=by
 cases d with
 |non=>cases h;rfl
 |bl _=>cases h;rfl
 |int _=>cases h;rfl
 |str _=>cases h;rfl
 |lst _=>simp[Dat.dep]at hf
 |tup _=>simp[Dat.dep]at hf
theorem Rep.flatEq{d e:Dat}{v u:V}(h:Rep H d v)(h':Rep H e u)(hf:d.dep=0)(hf':e.dep=0):eqV v u=Dat.eq d e:=by
 cases d<;>cases e<;>first
  |(simp[Dat.dep]at hf;done)
  |(simp[Dat.dep]at hf';done)
  |(cases h;cases h';simp[eqV,Dat.eq];done)
theorem zR0:∀(n:Nat){d e:Dat}{v u:V}{x y:Value}{A:qH1}{s:qGw},d.dep<=n->HOk P w H s.heap->Rep H d v->Rep H e u->RelV v x->RelV u y->A.units+n<cLine->qI0 A s x y (Dat.eq d e):=by
 intro n
 induction n with
 |zero=>
  intro d e v u x y A s hd ok h1 h2 r1 r2 hu;have f1:=h1.flat (by lia)
  by_cases he:e.dep=0
  ·have f2:=h2.flat he
   have:=zS3 (A:=A) (s:=s) r1 r2 f1 f2
   rw[h1.flatEq h2 (by lia) he]at this;exact this
  ·have hu':A.units<cLine:=by lia
   cases e with
   |lst ys=>
    obtain⟨a,xs,rfl,ha,_⟩:=h2;obtain⟨its,_,hl⟩:=zAU ok ha;cases r2;cases d with
    |non=>cases h1;cases r1;exact SeqAt.EqAt.none_list hl hu'
    |bl b=>cases h1;cases r1;exact SeqAt.EqAt.bool_list b hl hu'
    |int i=>cases h1;obtain⟨t,rfl⟩:=r1;exact SeqAt.EqAt.int_list i t hl hu'
    |str z=>cases h1;obtain⟨t,rfl⟩:=r1;exact SeqAt.EqAt.str_list z t hl hu'
    |lst _=>simp[Dat.dep]at hd
    |tup _=>simp[Dat.dep]at hd
   |tup ys=>
    obtain⟨a,xs,rfl,ha,_⟩:=h2;obtain⟨its,_,hl⟩:=zB4 ok ha;cases r2;cases d with
    |non=>cases h1;cases r1;exact SeqAt.EqAt.none_tuple hl hu'
    |bl b=>cases h1;cases r1;exact SeqAt.EqAt.bool_tuple b hl hu'
    |int i=>cases h1;obtain⟨t,rfl⟩:=r1;exact SeqAt.EqAt.int_tuple i t hl hu'
    |str z=>cases h1;obtain⟨t,rfl⟩:=r1;exact SeqAt.EqAt.str_tuple z t hl hu'
    |lst _=>simp[Dat.dep]at hd
    |tup _=>simp[Dat.dep]at hd
   |_=>simp[Dat.dep]at he
 |succ n ih=>
  intro d e v u x y A s hd ok h1 h2 r1 r2 hu
  by_cases hd0:d.dep<=n
  ·exact ih hd0 ok h1 h2 r1 r2 (by lia)
  have hu':A.units<cLine:=by lia
  have pairs:∀{ds es:List Dat}{xs ys:List V}{its its2:List Value},Dat.depL ds<=n->RepL H ds xs->RepL H es ys->Vals xs its->Vals ys its2->∀j (h1:j<its.toArray.size) (h2:j<its2.toArray.size),
    qI0 A.in1 s its.toArray[j] its2.toArray[j] (Dat.eq (ds.getD j .non) (es.getD j .non)):=by
   intro ds es xs ys its its2 hdl q1 q2 v1 v2 j j1 j2;have l1:j<xs.length:=by have:=v1.length;simp at j1;lia
   have l2:j<ys.length:=by have:=v2.length;simp at j2;lia
   obtain⟨d',e1,p1⟩:=q1.get (i:=j) (x:=xs[j]) (by simp[l1]);obtain⟨e',e2,p2⟩:=q2.get (i:=j) (x:=ys[j]) (by simp[l2]);obtain⟨w1,g1,z1⟩:=v1.get (i:=j) (x:=xs[j]) (by simp[l1]);obtain⟨w2,g2,z2⟩:=v2.get (i:=j) (x:=ys[j]) (by simp[l2]);have k1:its.toArray[j]=w1:=by
    obtain⟨_,k⟩:=qA4.mp g1
    simpa using k
   have k2:its2.toArray[j]=w2:=by
    obtain⟨_,k⟩:=qA4.mp g2
    simpa using k
   rw[k1,k2,qA0,qA0,e1,e2];exact ih (qAj (Dat.depL_mem (qBq e1)) hdl) ok p1 p2 z1 z2 (by rw[zDO];lia)
  cases d with
  |lst ds=>
   have hdl:Dat.depL ds<=n:=by rw[Dat.dep]at hd;lia
   obtain⟨a,xs,rfl,ha,q1⟩:=h1;obtain⟨its,v1,hl1⟩:=zAU ok ha;cases r1;cases e with
   |non=>cases h2;cases r2;exact SeqAt.EqAt.list_none hl1 hu'
   |bl b=>cases h2;cases r2;exact SeqAt.EqAt.list_bool b hl1 hu'
   |int i=>cases h2;obtain⟨t,rfl⟩:=r2;exact SeqAt.EqAt.list_int i t hl1 hu'
   |str z=>cases h2;obtain⟨t,rfl⟩:=r2;exact SeqAt.EqAt.list_str z t hl1 hu'
   |tup es=>
    obtain⟨b,ys,rfl,hb,q2⟩:=h2;obtain⟨its2,v2,hl2⟩:=zB4 ok hb;cases r2;exact qHs (zQK ha hb (fun z=>nomatch z)) (qIf hl1 hl2 hu')
   |lst es=>
    obtain⟨b,ys,rfl,hb,q2⟩:=h2;obtain⟨its2,v2,hl2⟩:=zAU ok hb;cases r2;have len1:its.toArray.size=ds.length:=by have:=v1.length;have:=q1.length;simp;lia
    have len2:its2.toArray.size=es.length:=by have:=v2.length;have:=q2.length;simp;lia
    show qI0 A s (.ref a) (.ref b) (Dat.eqL ds es)
    by_cases hne:a=b
    ·
     subst hne;rw[ha]at hb;cases hb;have same:Dat.eqL ds es=true:=by
      rw[RepL.inj q1 q2];exact Dat.eqL_refl _
     rw[same];exact qIe _
    ·refine qHs hne ?_
     by_cases hs:ds.length=es.length
     ·have:=qJ0 (A:=A) (s:=s) hl1 hl2 (by rw[len1,len2,hs]) hu' (pairs hdl q1 q2 v1 v2)
      rw[len1,Dat.eqL_all hs _ (fun j h1 h2=>by rw[qA0,qA0];simp[h1,h2])]at this;exact this
     ·rw[Dat.eqL_len hs];exact qI5 hl1 hl2 (by rw[len1,len2];simpa using hs) hu'
  |tup ds=>
   have hdl:Dat.depL ds<=n:=by rw[Dat.dep]at hd;lia
   obtain⟨a,xs,rfl,ha,q1⟩:=h1;obtain⟨its,v1,hl1⟩:=zB4 ok ha;cases r1;cases e with
   |non=>cases h2;cases r2;exact SeqAt.EqAt.tuple_none hl1 hu'
   |bl b=>cases h2;cases r2;exact SeqAt.EqAt.tuple_bool b hl1 hu'
   |int i=>cases h2;obtain⟨t,rfl⟩:=r2;exact SeqAt.EqAt.tuple_int i t hl1 hu'
   |str z=>cases h2;obtain⟨t,rfl⟩:=r2;exact SeqAt.EqAt.tuple_str z t hl1 hu'
   |lst es=>
    obtain⟨b,ys,rfl,hb,q2⟩:=h2;obtain⟨its2,v2,hl2⟩:=zAU ok hb;cases r2;exact qHs (zQK ha hb (fun z=>nomatch z)) (qIg hl1 hl2 hu')
   |tup es=>
    obtain⟨b,ys,rfl,hb,q2⟩:=h2;obtain⟨its2,v2,hl2⟩:=zB4 ok hb;cases r2;have len1:its.toArray.size=ds.length:=by have:=v1.length;have:=q1.length;simp;lia
    have len2:its2.toArray.size=es.length:=by have:=v2.length;have:=q2.length;simp;lia
    show qI0 A s (.ref a) (.ref b) (Dat.eqL ds es)
    by_cases hne:a=b
    ·subst hne;rw[ha]at hb;cases hb;have same:Dat.eqL ds es=true:=by
      rw[RepL.inj q1 q2];exact Dat.eqL_refl _
     rw[same];exact qIe _
    ·refine qHs hne ?_
     have:=qIt (A:=A) (s:=s) hl1 hl2 hu' (pairs hdl q1 q2 v1 v2)
     by_cases hs:ds.length=es.length
     ·rw[len1,len2,<- hs,qF2,beq_self_eq_true,qDj,Dat.eqL_all hs _ (fun j h1 h2=>by rw[qA0,qA0];simp[h1,h2])]at this;exact this
     ·rw[len1,len2,show(ds.length==es.length)=false by simpa using hs,qCa]at this;rw[Dat.eqL_len hs];exact this
  |_=>simp[Dat.dep]at hd0
theorem zFP{n:Nat}{A:qH1}{s:qGw}(ok:HOk P w H s.heap){ds es:List Dat}{xs ys:List V}{its its2:List Value}(hdl:Dat.depL ds<=n)(hu:A.units+n<cLine)(q1:RepL H ds xs)(q2:RepL H es ys)(v1:Vals xs its)(v2:Vals ys its2) :
  ∀j (h1:j<its.toArray.size) (h2:j<its2.toArray.size),qI0 A s its.toArray[j] its2.toArray[j] (Dat.eq (ds.getD j .non) (es.getD j .non)):=by
 intro j j1 j2;have l1:j<xs.length:=by have:=v1.length;simp at j1;lia
 have l2:j<ys.length:=by have:=v2.length;simp at j2;lia
 obtain⟨d',e1,p1⟩:=q1.get (i:=j) (x:=xs[j]) (by simp[l1]);obtain⟨e',e2,p2⟩:=q2.get (i:=j) (x:=ys[j]) (by simp[l2]);obtain⟨w1,g1,z1⟩:=v1.get (i:=j) (x:=xs[j]) (by simp[l1]);obtain⟨w2,g2,z2⟩:=v2.get (i:=j) (x:=ys[j]) (by simp[l2]);have k1:its.toArray[j]=w1:=by
  obtain⟨_,k⟩:=qA4.mp g1
  simpa using k
 have k2:its2.toArray[j]=w2:=by
  obtain⟨_,k⟩:=qA4.mp g2
  simpa using k
 rw[k1,k2,qA0,qA0,e1,e2];exact zR0 n (qAj (Dat.depL_mem (qBq e1)) hdl) ok p1 p2 z1 z2 hu
theorem zQ9(n:Nat){d e:Dat}{v u:V}{x y:Value}{A:qH1}{s:qGw}(hd:d.dep<=n)(ok:HOk P w H s.heap)(h1:Rep H d v)(h2:Rep H e u)(r1:RelV v x)(r2:RelV u y)(hu:A.units+n<cLine):qJk A s x y (Dat.eq d e):=by
 have hu':A.units<cLine:=by lia
 cases d with
 |non=>
  cases h1;cases r1;cases e with
  |non=>
   cases h2;cases r2;exact SeqAt.RcAt.none_none
  |bl b=>
   cases h2;cases r2;exact SeqAt.RcAt.none_bool b
  |int b=>
   cases h2;obtain⟨t2,rfl⟩:=r2;exact SeqAt.RcAt.none_int b t2
  |str b=>
   cases h2;obtain⟨t2,rfl⟩:=r2;exact SeqAt.RcAt.none_str b t2
  |lst es=>
   obtain⟨p2,ys,rfl,hb,q2⟩:=h2;obtain⟨its2,v2,hl2⟩:=zAU ok hb;cases r2;exact SeqAt.RcAt.none_list hl2 hu'
  |tup es=>
   obtain⟨p2,ys,rfl,hb,q2⟩:=h2;obtain⟨its2,v2,hl2⟩:=zB4 ok hb;cases r2;exact SeqAt.RcAt.none_tuple hl2 hu'
 |bl a=>
  cases h1;cases r1;cases e with
  |non=>
   cases h2;cases r2;exact SeqAt.RcAt.bool_none a
  |bl b=>
   cases h2;cases r2;exact SeqAt.RcAt.bool_bool a b
  |int b=>
   cases h2;obtain⟨t2,rfl⟩:=r2;exact SeqAt.RcAt.bool_int a b t2
  |str b=>
   cases h2;obtain⟨t2,rfl⟩:=r2;exact SeqAt.RcAt.bool_str a b t2
  |lst es=>
   obtain⟨p2,ys,rfl,hb,q2⟩:=h2;obtain⟨its2,v2,hl2⟩:=zAU ok hb;cases r2;exact SeqAt.RcAt.bool_list a hl2 hu'
  |tup es=>
   obtain⟨p2,ys,rfl,hb,q2⟩:=h2;obtain⟨its2,v2,hl2⟩:=zB4 ok hb;cases r2;exact SeqAt.RcAt.bool_tuple a hl2 hu'
 |int a=>
  cases h1;obtain⟨t1,rfl⟩:=r1;cases e with
  |non=>
   cases h2;cases r2;exact SeqAt.RcAt.int_none a t1
  |bl b=>
   cases h2;cases r2;exact SeqAt.RcAt.int_bool a t1 b
  |int b=>
   cases h2;obtain⟨t2,rfl⟩:=r2;exact SeqAt.RcAt.int_int a t1 b t2
  |str b=>
   cases h2;obtain⟨t2,rfl⟩:=r2;exact SeqAt.RcAt.int_str a t1 b t2
  |lst es=>
   obtain⟨p2,ys,rfl,hb,q2⟩:=h2;obtain⟨its2,v2,hl2⟩:=zAU ok hb;cases r2;exact SeqAt.RcAt.int_list a t1 hl2 hu'
  |tup es=>
   obtain⟨p2,ys,rfl,hb,q2⟩:=h2;obtain⟨its2,v2,hl2⟩:=zB4 ok hb;cases r2;exact SeqAt.RcAt.int_tuple a t1 hl2 hu'
 |str a=>
  cases h1;obtain⟨t1,rfl⟩:=r1;cases e with
  |non=>
   cases h2;cases r2;exact SeqAt.RcAt.str_none a t1
  |bl b=>
   cases h2;cases r2;exact SeqAt.RcAt.str_bool a t1 b
  |int b=>
   cases h2;obtain⟨t2,rfl⟩:=r2;exact SeqAt.RcAt.str_int a t1 b t2
  |str b=>
   cases h2;obtain⟨t2,rfl⟩:=r2;exact SeqAt.RcAt.str_str a t1 b t2
  |lst es=>
   obtain⟨p2,ys,rfl,hb,q2⟩:=h2;obtain⟨its2,v2,hl2⟩:=zAU ok hb;cases r2;exact SeqAt.RcAt.str_list a t1 hl2 hu'
  |tup es=>
   obtain⟨p2,ys,rfl,hb,q2⟩:=h2;obtain⟨its2,v2,hl2⟩:=zB4 ok hb;cases r2;exact SeqAt.RcAt.str_tuple a t1 hl2 hu'
 |lst ds=>
  have hdl:Dat.depL ds+1<=n:=by rw[Dat.dep]at hd;exact hd
  obtain⟨p,xs,rfl,ha,q1⟩:=h1;obtain⟨its,v1,hl1⟩:=zAU ok ha;cases r1;cases e with
  |non=>
   cases h2;cases r2;exact SeqAt.RcAt.list_none hl1 hu'
  |bl b=>
   cases h2;cases r2;exact SeqAt.RcAt.list_bool b hl1 hu'
  |int b=>
   cases h2;obtain⟨t2,rfl⟩:=r2;exact SeqAt.RcAt.list_int b t2 hl1 hu'
  |str b=>
   cases h2;obtain⟨t2,rfl⟩:=r2;exact SeqAt.RcAt.list_str b t2 hl1 hu'
  |lst es=>
   obtain⟨p2,ys,rfl,hb,q2⟩:=h2;obtain⟨its2,v2,hl2⟩:=zAU ok hb;cases r2;have len1:its.toArray.size=ds.length:=by have:=v1.length;have:=q1.length;simp;lia
   have len2:its2.toArray.size=es.length:=by have:=v2.length;have:=q2.length;simp;lia
   show qJk A s (.ref p) (.ref p2) (Dat.eqL ds es)
   by_cases hs:ds.length=es.length
   ·have:=qJ0 (A:=A) (s:=s) hl1 hl2 (by rw[len1,len2,hs]) hu' (zFP ok (by lia) (by rw[zDO];lia:A.in1.units+(n-1)<cLine) q1 q2 v1 v2)
    rw[len1,Dat.eqL_all hs _ (fun j h1 h2=>by rw[qA0,qA0];simp[h1,h2])]at this;exact this
   ·rw[Dat.eqL_len hs];exact qI5 hl1 hl2 (by rw[len1,len2];simpa using hs) hu'
  |tup es=>
   obtain⟨p2,ys,rfl,hb,q2⟩:=h2;obtain⟨its2,v2,hl2⟩:=zB4 ok hb;cases r2;exact qIf hl1 hl2 hu'
 |tup ds=>
  have hdl:Dat.depL ds+1<=n:=by rw[Dat.dep]at hd;exact hd
  obtain⟨p,xs,rfl,ha,q1⟩:=h1;obtain⟨its,v1,hl1⟩:=zB4 ok ha;cases r1;cases e with
  |non=>
   cases h2;cases r2;exact SeqAt.RcAt.tuple_none hl1 hu'
  |bl b=>
   cases h2;cases r2;exact SeqAt.RcAt.tuple_bool b hl1 hu'
  |int b=>
   cases h2;obtain⟨t2,rfl⟩:=r2;exact SeqAt.RcAt.tuple_int b t2 hl1 hu'
  |str b=>
   cases h2;obtain⟨t2,rfl⟩:=r2;exact SeqAt.RcAt.tuple_str b t2 hl1 hu'
  |lst es=>
   obtain⟨p2,ys,rfl,hb,q2⟩:=h2;obtain⟨its2,v2,hl2⟩:=zAU ok hb;cases r2;exact qIg hl1 hl2 hu'
  |tup es=>
   obtain⟨p2,ys,rfl,hb,q2⟩:=h2;obtain⟨its2,v2,hl2⟩:=zB4 ok hb;cases r2;have len1:its.toArray.size=ds.length:=by have:=v1.length;have:=q1.length;simp;lia
   have len2:its2.toArray.size=es.length:=by have:=v2.length;have:=q2.length;simp;lia
   show qJk A s (.ref p) (.ref p2) (Dat.eqL ds es)
   have:=qIt (A:=A) (s:=s) hl1 hl2 hu' (zFP ok (by lia) (by rw[zDO];lia:A.in1.units+(n-1)<cLine) q1 q2 v1 v2)
   by_cases hs:ds.length=es.length
   ·rw[len1,len2,<- hs,qF2,beq_self_eq_true,qDj,Dat.eqL_all hs _ (fun j h1 h2=>by rw[qA0,qA0];simp[h1,h2])]at this;exact this
   ·rw[len1,len2,show(ds.length==es.length)=false by simpa using hs,qCa]at this;rw[Dat.eqL_len hs];exact this
theorem zMD(n:Nat){d e:Dat}{v u:V}{x y:Value}{A:qH1}{s:qGw}(hd:d.dep<=n)(ok:HOk P w H s.heap)(h1:Rep H d v)(h2:Rep H e u)(r1:RelV v x)(r2:RelV u y)(hu:A.units+n<cLine):qIx A s x y (!Dat.eq d e):=by
 have hu':A.units<cLine:=by lia
 cases d with
 |non=>
  cases h1;cases r1;cases e with
  |non=>
   cases h2;cases r2;exact SeqAt.RcNeAt.none_none
  |bl b=>
   cases h2;cases r2;exact SeqAt.RcNeAt.none_bool b
  |int b=>
   cases h2;obtain⟨t2,rfl⟩:=r2;exact SeqAt.RcNeAt.none_int b t2
  |str b=>
   cases h2;obtain⟨t2,rfl⟩:=r2;exact SeqAt.RcNeAt.none_str b t2
  |lst es=>
   obtain⟨p2,ys,rfl,hb,q2⟩:=h2;obtain⟨its2,v2,hl2⟩:=zAU ok hb;cases r2;exact SeqAt.RcNeAt.none_list hl2 hu'
  |tup es=>
   obtain⟨p2,ys,rfl,hb,q2⟩:=h2;obtain⟨its2,v2,hl2⟩:=zB4 ok hb;cases r2;exact SeqAt.RcNeAt.none_tuple hl2 hu'
 |bl a=>
  cases h1;cases r1;cases e with
  |non=>
   cases h2;cases r2;exact SeqAt.RcNeAt.bool_none a
  |bl b=>
   cases h2;cases r2;exact SeqAt.RcNeAt.bool_bool a b
  |int b=>
   cases h2;obtain⟨t2,rfl⟩:=r2;exact SeqAt.RcNeAt.bool_int a b t2
  |str b=>
   cases h2;obtain⟨t2,rfl⟩:=r2;exact SeqAt.RcNeAt.bool_str a b t2
  |lst es=>
   obtain⟨p2,ys,rfl,hb,q2⟩:=h2;obtain⟨its2,v2,hl2⟩:=zAU ok hb;cases r2;exact SeqAt.RcNeAt.bool_list a hl2 hu'
  |tup es=>
   obtain⟨p2,ys,rfl,hb,q2⟩:=h2;obtain⟨its2,v2,hl2⟩:=zB4 ok hb;cases r2;exact SeqAt.RcNeAt.bool_tuple a hl2 hu'
 |int a=>
  cases h1;obtain⟨t1,rfl⟩:=r1;cases e with
  |non=>
   cases h2;cases r2;exact SeqAt.RcNeAt.int_none a t1
  |bl b=>
   cases h2;cases r2;exact SeqAt.RcNeAt.int_bool a t1 b
  |int b=>
   cases h2;obtain⟨t2,rfl⟩:=r2;exact SeqAt.RcNeAt.int_int a t1 b t2
  |str b=>
   cases h2;obtain⟨t2,rfl⟩:=r2;exact SeqAt.RcNeAt.int_str a t1 b t2
  |lst es=>
   obtain⟨p2,ys,rfl,hb,q2⟩:=h2;obtain⟨its2,v2,hl2⟩:=zAU ok hb;cases r2;exact SeqAt.RcNeAt.int_list a t1 hl2 hu'
  |tup es=>
   obtain⟨p2,ys,rfl,hb,q2⟩:=h2;obtain⟨its2,v2,hl2⟩:=zB4 ok hb;cases r2;exact SeqAt.RcNeAt.int_tuple a t1 hl2 hu'
 |str a=>
  cases h1;obtain⟨t1,rfl⟩:=r1;cases e with
  |non=>
   cases h2;cases r2;exact SeqAt.RcNeAt.str_none a t1
  |bl b=>
   cases h2;cases r2;exact SeqAt.RcNeAt.str_bool a t1 b
  |int b=>
   cases h2;obtain⟨t2,rfl⟩:=r2;exact SeqAt.RcNeAt.str_int a t1 b t2
  |str b=>
   cases h2;obtain⟨t2,rfl⟩:=r2;exact SeqAt.RcNeAt.str_str a t1 b t2
  |lst es=>
   obtain⟨p2,ys,rfl,hb,q2⟩:=h2;obtain⟨its2,v2,hl2⟩:=zAU ok hb;cases r2;exact SeqAt.RcNeAt.str_list a t1 hl2 hu'
  |tup es=>
   obtain⟨p2,ys,rfl,hb,q2⟩:=h2;obtain⟨its2,v2,hl2⟩:=zB4 ok hb;cases r2;exact SeqAt.RcNeAt.str_tuple a t1 hl2 hu'
 |lst ds=>
  have hdl:Dat.depL ds+1<=n:=by rw[Dat.dep]at hd;exact hd
  obtain⟨p,xs,rfl,ha,q1⟩:=h1;obtain⟨its,v1,hl1⟩:=zAU ok ha;cases r1;cases e with
  |non=>
   cases h2;cases r2;exact SeqAt.RcNeAt.list_none hl1 hu'
  |bl b=>
   cases h2;cases r2;exact SeqAt.RcNeAt.list_bool b hl1 hu'
  |int b=>
   cases h2;obtain⟨t2,rfl⟩:=r2;exact SeqAt.RcNeAt.list_int b t2 hl1 hu'
  |str b=>
   cases h2;obtain⟨t2,rfl⟩:=r2;exact SeqAt.RcNeAt.list_str b t2 hl1 hu'
  |lst es=>
   obtain⟨p2,ys,rfl,hb,q2⟩:=h2;obtain⟨its2,v2,hl2⟩:=zAU ok hb;cases r2;have len1:its.toArray.size=ds.length:=by have:=v1.length;have:=q1.length;simp;lia
   have len2:its2.toArray.size=es.length:=by have:=v2.length;have:=q2.length;simp;lia
   show qIx A s (.ref p) (.ref p2) (!Dat.eqL ds es)
   by_cases hs:ds.length=es.length
   ·have:=SeqAt.RcNeAt.lists (A:=A) (s:=s) hl1 hl2 (by rw[len1,len2,hs]) hu' (zFP ok (by lia) (by rw[zDO];lia:A.in1.units+(n-1)<cLine) q1 q2 v1 v2)
    rw[len1,Dat.eqL_all hs _ (fun j h1 h2=>by rw[qA0,qA0];simp[h1,h2])]at this;exact this
   ·rw[Dat.eqL_len hs];exact SeqAt.RcNeAt.lists_lengths hl1 hl2 (by rw[len1,len2];simpa using hs) hu'
  |tup es=>
   obtain⟨p2,ys,rfl,hb,q2⟩:=h2;obtain⟨its2,v2,hl2⟩:=zB4 ok hb;cases r2;exact SeqAt.RcNeAt.list_tuple hl1 hl2 hu'
 |tup ds=>
  have hdl:Dat.depL ds+1<=n:=by rw[Dat.dep]at hd;exact hd
  obtain⟨p,xs,rfl,ha,q1⟩:=h1;obtain⟨its,v1,hl1⟩:=zB4 ok ha;cases r1;cases e with
  |non=>
   cases h2;cases r2;exact SeqAt.RcNeAt.tuple_none hl1 hu'
  |bl b=>
   cases h2;cases r2;exact SeqAt.RcNeAt.tuple_bool b hl1 hu'
  |int b=>
   cases h2;obtain⟨t2,rfl⟩:=r2;exact SeqAt.RcNeAt.tuple_int b t2 hl1 hu'
  |str b=>
   cases h2;obtain⟨t2,rfl⟩:=r2;exact SeqAt.RcNeAt.tuple_str b t2 hl1 hu'
  |lst es=>
   obtain⟨p2,ys,rfl,hb,q2⟩:=h2;obtain⟨its2,v2,hl2⟩:=zAU ok hb;cases r2;exact SeqAt.RcNeAt.tuple_list hl1 hl2 hu'
  |tup es=>
   obtain⟨p2,ys,rfl,hb,q2⟩:=h2;obtain⟨its2,v2,hl2⟩:=zB4 ok hb;cases r2;have len1:its.toArray.size=ds.length:=by have:=v1.length;have:=q1.length;simp;lia
   have len2:its2.toArray.size=es.length:=by have:=v2.length;have:=q2.length;simp;lia
   show qIx A s (.ref p) (.ref p2) (!Dat.eqL ds es)
   have:=SeqAt.RcNeAt.tuples (A:=A) (s:=s) hl1 hl2 hu' (zFP ok (by lia) (by rw[zDO];lia:A.in1.units+(n-1)<cLine) q1 q2 v1 v2)
   by_cases hs:ds.length=es.length
   ·rw[len1,len2,<- hs,qF2,beq_self_eq_true,qDj,Dat.eqL_all hs _ (fun j h1 h2=>by rw[qA0,qA0];simp[h1,h2])]at this;exact this
   ·rw[len1,len2,show(ds.length==es.length)=false by simpa using hs,qCa]at this;rw[Dat.eqL_len hs];exact this
end
section
variable{X:Cx}
noncomputable def rEqD:R2:=fun x y H Q=>∃d e,Rep H d x/\Rep H e y/\d.dep<=40/\Q (.bl (Dat.eq d e)) H
noncomputable def rNeD:R2:=fun x y H Q=>∃d e,Rep H d x/\Rep H e y/\d.dep<=40/\Q (.bl (!Dat.eq d e)) H
theorem zW0(hu:X.A.units+64<cLine):OpR X (compareOp .Eq) rEqD:=by
 intro pins s σ H x y v u Q I rx ry h;obtain⟨d,e,h1,h2,hd,q⟩:=h;exact zQ9 40 hd I.hok h1 h2 rx ry (by lia) _ _ _ _ ⟨.bl _,H,I,rfl,q⟩
theorem zVY(hu:X.A.units+64<cLine):OpR X (compareOp .NotEq) rNeD:=by
 intro pins s σ H x y v u Q I rx ry h;obtain⟨d,e,h1,h2,hd,q⟩:=h;exact zMD 40 hd I.hok h1 h2 rx ry (by lia) _ _ _ _ ⟨.bl _,H,I,rfl,q⟩
noncomputable def zFU(H:Hp):V->Option String
 |.non=>some "NoneType"
 |.bl _=>some "bool"
 |.int _=>some "int"
 |.str _=>some "str"
 |.ref a=>match H a with
  |some (.lst _)=>some "list"
  |some (.tup _)=>some "tuple"
  |some (.dK _)=>some "dict"
  |_=>none
 |_=>none
noncomputable def zTT(T n:String):Bool:=T==n||(T == "bool" && n == "int")
theorem zKV:zE7 X (.builtin "isinstance") (fun vs H Q=>∃x n T,vs=[x,.ty n]/\zFU H x=some T/\n∈["int","bool","str","list","tuple","dict"]/\Q (.bl (zTT T n)) H):=by
 intro pins s σ H vs us Q I r h;obtain⟨x,n,T,rfl,ht,hn,q⟩:=h;obtain⟨u,w',rfl,rx,rn⟩:=zPT r
 cases(show w'=qJh n from rn)
 have key:∃t,TyOf X.K H x t/\t=.type T:=by
  cases x with
  |non=>cases ht;exact⟨_,.non,rfl⟩
  |bl b=>cases ht;exact⟨_,.bl b,rfl⟩
  |int b=>cases ht;exact⟨_,.int b,rfl⟩
  |str b=>cases ht;exact⟨_,.str b,rfl⟩
  |ref a=>
   unfold zFU at ht;dsimp only at ht;cases e:H a with
   |none=>rw[e]at ht;cases ht
   |some o=>
    rw[e]at ht;cases o with
    |lst xs=>cases ht;exact⟨_,.lst e,rfl⟩
    |tup xs=>cases ht;exact⟨_,.tup e,rfl⟩
    |dK xs=>cases ht;exact⟨_,.dK e,rfl⟩
    |_=>cases ht
  |_=>cases ht
 obtain⟨t,ty,rfl⟩:=key;have hT:T∈["NoneType","bool","int","str","list","tuple","dict"]:=by
  cases x with
  |non=>cases ht;decide
  |bl b=>cases ht;decide
  |int b=>cases ht;decide
  |str b=>cases ht;decide
  |ref a=>
   unfold zFU at ht;dsimp only at ht;cases e:H a with
   |none=>rw[e]at ht;cases ht
   |some o=>
    rw[e]at ht;cases o with
    |lst xs=>cases ht;decide
    |tup xs=>cases ht;decide
    |dK xs=>cases ht;decide
    |_=>cases ht
  |_=>cases ht
 have e:qFx X.K (.type T) (.type n)=some (zTT T n):=by
  simp only[qAk,List.mem_nil_iff,or_false]at hT hn
  rcases hT with rfl|rfl|rfl|rfl|rfl|rfl|rfl<;>rcases hn with rfl|rfl|rfl|rfl|rfl|rfl<;>rfl
 exact zOL I rx ty e fun tk=>⟨.bl _,H,I.tok tk,rfl,q⟩
noncomputable def zHW(lo:Int)(n:Nat):List V:=(qA8 n).map fun i=>.int (lo+(i:Nat))
theorem zFS:∀{xs:List V}{its:List Value},xs.length=its.length->(∀(j:Nat)(x:V)(v:Value),xs[j]?=some x->its[j]?=some v->RelV x v)->Vals xs its
 |[],[],_,_=>.nil
 |[],_::_,h,_=>by simp at h
 |_::_,[],h,_=>by simp at h
 |x::xs,v::its,h,g=>.cons (g 0 x v rfl rfl) (zFS (by simpa using h) fun j y u e1 e2=>g (j+1) y u (by simpa using e1) (by simpa using e2))
theorem zN0{lo:Int}{n:Nat}{its:List Value}(hl:its.length=n)(h:∀(j:Nat) (v:Value),its[j]?=some v->∃t,v=qJ2 (lo+(j:Int)*1) t):Vals (zHW lo n) its:=by
 refine zFS (by simp[zHW,hl]) fun j x v e1 e2=>?_
 unfold zHW at e1;rw[qAe]at e1;cases e:(qA8 n)[j]? with
 |none=>rw[e]at e1;cases e1
 |some i=>
  rw[e]at e1;cases e1;have hi:i=j:=by
   obtain⟨h1,h2⟩:=qA4.mp e;rw[qCg]at h2;exact h2.symm
  subst hi;obtain⟨t,ht⟩:=h i v e2;exact⟨t,by rw[ht,qCn]⟩
theorem zIH(hc:X.calm=true):zE7 X (.type "list") (fun vs H Q=>∃p lo hi,vs=[.ref p]/\H p=some (.rng lo hi)/\(-(2 ^ 62)<=lo/\lo<2 ^ 62/\-(2 ^ 62)<=hi/\hi<2 ^ 62)/\hi-lo<=1000000/\∀l,H l=none->Q (.ref l) (upd H l (.lst (zHW lo (hi-lo).toNat)))):=by
 intro pins s σ H vs us Q I r h;obtain⟨p,lo,hi,rfl,hp,⟨b1,b2,b3,b4⟩,hz,q⟩:=h;obtain⟨u,rfl,rx⟩:=zGO r;cases rx;obtain⟨t,u,v,e⟩:=(show ObjOk X.prog X.w H s.heap p (.rng lo hi) from I.hok p _ hp)
 have hn:qI7 lo hi 1=(((hi-lo).toNat:Nat):Int):=by rw[rangeSize_one];split<;>lia
 refine call_list_range (n:=(hi-lo).toNat) (I.ok.hd hc) e (small_one b1 b2 b3 b4) hn (by lia) fun h' tk acc' c' hk hS hacc=>?_
 have rv:Vals (zHW lo (hi-lo).toNat) acc'.toList:=zN0 (by simpa using hacc.1) fun j v hj=>hacc.2 j v (by simpa using hj)
 refine⟨.ref _,_,I.laid (o:=.lst (zHW lo (hi-lo).toNat)) hk (qA6 _) ⟨?_,acc'.toList,c',rv,by simpa using hS⟩,rfl,q _ I.fresh⟩;have hl:(zHW lo (hi-lo).toNat).length=(hi-lo).toNat:=by simp[zHW]
 rw[hl,qI9]
 lia
def zVJ:R2:=fun x y H Q=>match x,y with
 |.int i,.int j=>Q (.int (i+j)) H
 |.str i,.str j=>i.length+j.length<=sizeLine/\Q (.str (i++j)) H
 |.ref l,.ref b=>∃xs zs,H l=some (.lst xs)/\H b=some (.lst zs)/\xs.length+zs.length<=sizeLine/\∀p,H p=none->Q (.ref p) (upd H p (.lst (xs++zs)))
 |_,_=>False
theorem zDC:OpR X (binaryOp .Add) zVJ:=by
 intro pins s σ H x y v u Q I rx ry h;cases x<;>cases y<;>first
  |exact zW2 pins s σ H _ _ v u Q I rx ry ⟨_,_,rfl,rfl,h⟩
  |exact zMF pins s σ H _ _ v u Q I rx ry ⟨_,_,rfl,rfl,h.1,h.2⟩
  |(obtain⟨xs,zs,h1,h2,h3,h4⟩:=h;exact zW1 pins s σ H _ _ v u Q I rx ry ⟨_,_,xs,zs,rfl,rfl,h1,h2,h3,h4⟩)
  |exact qA5 h
noncomputable def rMulU:R2:=fun x y H Q=>match x,y with
 |.int i,.int j=>CMul i j/\Q (.int (i*j)) H
 |_,_=>False
noncomputable def zV8:R2:=fun x y H Q=>match x,y with
 |.int i,.int j=>Q (.int (i-j)) H
 |_,_=>False
theorem zSO:OpR X (binaryOp .Sub) zV8:=by
 intro pins s σ H x y v u Q I rx ry h;cases x<;>cases y<;>first
  |exact zVV pins s σ H _ _ v u Q I rx ry ⟨_,_,rfl,rfl,h⟩
  |exact qA5 h
noncomputable def zVE:R2:=fun x y H Q=>match x,y with
 |.int i,.int j=>0<j/\Q (.int (i%j)) H
 |_,_=>False
theorem zE4:OpR X (binaryOp .Mod) zVE:=by
 intro pins s σ H x y v u Q I rx ry h;cases x<;>cases y<;>first
  |exact zVZ pins s σ H _ _ v u Q I rx ry ⟨_,_,rfl,rfl,h.1,h.2⟩
  |exact qA5 h
noncomputable def zVA:R2:=fun x y H Q=>match x,y with
 |.int i,.int j=>CPow i j/\Q (.int (i ^ j.toNat)) H
 |_,_=>False
theorem zXV:OpR X (binaryOp .Pow) zVA:=by
 intro pins s σ H x y v u Q I rx ry h;cases x<;>cases y<;>first
  |exact zVX pins s σ H _ _ v u Q I rx ry ⟨_,_,rfl,rfl,h.1,h.2⟩
  |exact qA5 h
def zVC:V->Hp->VK->Prop:=fun x H Q=>match x with
 |.int i=>Q (.int (-i)) H
 |_=>False
theorem zSQ:UnR X (unaryOp .USub) zVC:=by
 intro pins s σ H x v Q I rx h;cases x<;>first
  |exact zUR pins s σ H _ v Q I rx ⟨_,rfl,h⟩
  |exact qA5 h
noncomputable def zVI(p:Int->Int->Bool):R2:=fun x y H Q=>match x,y with
 |.int i,.int j=>Q (.bl (p i j)) H
 |_,_=>False
theorem u_gt:OpR X (compareOp .Gt) (zVI fun i j=>decide (j<i)):=by
 intro pins s σ H x y v u Q I rx ry h;cases x<;>cases y<;>first
  |exact zYB pins s σ H _ _ v u Q I rx ry ⟨_,_,rfl,rfl,h⟩
  |exact qA5 h
def rEqU:R2:=fun x y H Q=>match x,y with
 |.int i,.int j=>Q (.bl (decide (i=j))) H
 |.str i,.str j=>Q (.bl (decide (i=j))) H
 |.bl i,.bl j=>Q (.bl (decide (i=j))) H
 |x,y=>rEqD x y H Q
def rNeU:R2:=fun x y H Q=>match x,y with
 |.int i,.int j=>Q (.bl (!decide (i=j))) H
 |.str i,.str j=>Q (.bl (!decide (i=j))) H
 |.bl i,.bl j=>Q (.bl (!decide (i=j))) H
 |x,y=>rNeD x y H Q
theorem u_eq(hu:X.A.units+64<cLine):OpR X (compareOp .Eq) rEqU:=by
 intro pins s σ H x y v u Q I rx ry h;cases x<;>cases y<;>first
  |(refine zYC pins s σ H _ _ v u Q I rx ry ⟨rfl,?_⟩;have h':=h;simp only[rEqU]at h';simpa using h')
  |exact zW0 hu pins s σ H _ _ v u Q I rx ry h
theorem u_ne(hu:X.A.units+64<cLine):OpR X (compareOp .NotEq) rNeU:=by
 intro pins s σ H x y v u Q I rx ry h;cases x<;>cases y<;>first
  |(refine zYA pins s σ H _ _ v u Q I rx ry ⟨rfl,?_⟩;have h':=h;simp only[rNeU]at h';simpa using h')
  |exact zVY hu pins s σ H _ _ v u Q I rx ry h
def rIxU(K:qA1):R2:=fun x y H Q=>match x,y with
 |.str z,.int i=>∃c,z.length<=sizeLine/\atI z.cps.toList i=some c/\Q (.str ⟨#[c]⟩) H
 |.ref p,.int i=>∃xs v,(SqL K H p xs\/SqT K H p xs)/\atI xs i=some v/\Q v H
 |_,_=>False
theorem u_ix:IxR X (rIxU X.K):=by
 intro value slice pins s σ H x y v u Q I rx ry h hs;cases x<;>cases y<;>first
  |(obtain⟨c,h1,h2,h3⟩:=h;exact zWI value slice pins s σ H _ _ v u Q I rx ry ⟨_,_,c,rfl,rfl,h1,h2,h3⟩ hs)
  |(obtain⟨xs,w,h1|h1,h2,h3⟩:=h
    ·exact zTR value slice pins s σ H _ _ v u Q I rx ry ⟨_,xs,_,w,rfl,rfl,h1,h2,h3⟩ hs
    ·exact zWG value slice pins s σ H _ _ v u Q I rx ry ⟨_,xs,_,w,rfl,rfl,h1,h2,h3⟩ hs)
  |exact qA5 h
def zSY(K:qA1):List V->Hp->VK->Prop:=fun vs H Q=>match vs with
 |[.str z]=>z.length<=sizeLine/\Q (.int z.length) H
 |[.ref p]=>∃xs,(SqL K H p xs\/SqT K H p xs)/\Q (.int xs.length) H
 |_=>False
theorem zYJ:zE7 X (.builtin "len") (zSY X.K):=by
 intro pins s σ H vs us Q I r h;cases vs with
 |nil=>exact qA5 h
 |cons hd1 tl1=>
  cases hd1 with
  |str z=>
   cases tl1 with
   |nil=>
    exact zJR pins s σ H _ us Q I r ⟨z,rfl,h.1,h.2⟩
   |cons _ _=>exact qA5 h
  |ref p=>
   cases tl1 with
   |nil=>
    obtain⟨xs,h1,h2⟩:=h;exact zJS pins s σ H _ us Q I r ⟨p,xs,rfl,h1,h2⟩
   |cons _ _=>exact qA5 h
  |_=>exact qA5 h
def zLL(K:qA1):List V->Hp->VK->Prop:=fun vs H Q=>match vs with
 |[.ref p]=>(∃xs,(SqL K H p xs\/SqT K H p xs)/\∀l,H l=none->Q (.ref l) (upd H l (.lst xs))) \/
   ∃lo hi,H p=some (.rng lo hi)/\(-(2 ^ 62)<=lo/\lo<2 ^ 62/\-(2 ^ 62)<=hi/\hi<2 ^ 62)/\hi-lo<=1000000/\∀l,H l=none->Q (.ref l) (upd H l (.lst (zHW lo (hi-lo).toNat)))
 |_=>False
theorem zWF(hc:X.calm=true):zE7 X (.type "list") (zLL X.K):=by
 intro pins s σ H vs us Q I r h;cases vs with
 |nil=>exact qA5 h
 |cons hd1 tl1=>
  cases hd1 with
  |ref p=>
   cases tl1 with
   |nil=>
    rcases h with⟨xs,h1,h2⟩|⟨lo,hi,h1,h2,h3,h4⟩
    ·exact zJQ pins s σ H _ us Q I r ⟨p,xs,rfl,h1,h2⟩
    ·exact zIH hc pins s σ H _ us Q I r ⟨p,lo,hi,rfl,h1,h2,h3,h4⟩
   |cons _ _=>exact qA5 h
  |_=>exact qA5 h
def zVG:List V->Hp->VK->Prop:=fun vs H Q=>match vs with
 |[x,.ty n]=>∃T,zFU H x=some T/\n∈["int","bool","str","list","tuple","dict"]/\Q (.bl (zTT T n)) H
 |_=>False
theorem zFC:zE7 X (.builtin "isinstance") zVG:=by
 intro pins s σ H vs us Q I r h;cases vs with
 |nil=>exact qA5 h
 |cons x tl1=>
  cases tl1 with
  |nil=>exact qA5 h
  |cons hd2 tl2=>
   cases hd2 with
   |ty n=>
    cases tl2 with
    |nil=>
     obtain⟨T,h1,h2,h3⟩:=h;exact zKV pins s σ H _ us Q I r ⟨x,n,T,rfl,h1,h2,h3⟩
    |cons _ _=>exact qA5 h
   |_=>exact qA5 h
end
noncomputable def zJO(N N':List Str)(k:Nat)(sc esc:Scope):Bool:=
 (sc.kind==.function)&&decide ((sc.names.map (·.1)).Nodup)&&(N'.length==N.length+k) &&
 ((qA8 N.length).all fun i=>match N'[i]? with
  |none=>true
  |some x=>(sc.names.lookup x==none)||(sc.names.any (fun p=>p.1==x&&p.2==.free)&&N[i]?==some x)) &&
 (sc.names.all fun p=>p.2 != .free||esc.names.lookup p.1==some .cell||esc.names.lookup p.1==some .free)
theorem cn{X:Cx}{sc:Scope}(N':List Str)(k:Nat)(h:zJO X.N N' k sc X.env.scope=true):CompNames X.N N' k sc X.env:=by
 unfold zJO at h;simp only[qB5,decide_eq_true_eq,beq_iff_eq]at h;obtain⟨⟨⟨⟨h1,h2⟩,h3⟩,h4⟩,h5⟩:=h;refine⟨h1,h2,h3,fun i x e hi=>?_,fun x hx=>?_⟩
 ·have q:=qCu.mp h4 i (qAz.mpr hi);rw[e]at q;simp only[qFf,qB5,beq_iff_eq,List.any_eq_true]at q
  rcases q with q|⟨⟨p,hp,e1,e2⟩,e3⟩
  ·exact .inr q
  ·obtain⟨y,kk⟩:=p;dsimp only at e1 e2;subst e1;subst e2;exact .inl ⟨hp,e3⟩
 ·have q:=qCu.mp h5 _ hx;simp only[qFf,bne_iff_ne,ne_eq,not_true_eq_false,false_or,beq_iff_eq]at q;exact q
theorem PE.imp{X:Cx}{e:Expr}{t t':TE}(h:PE X e t)(i:∀σ H Q,t' σ H Q->t σ H Q):PE X e t':=fun pins s σ H Q I q=>h pins s σ H Q I (i σ H Q q)
noncomputable def vM(i:Nat):TE:=fun σ H Q=>match σ[i]? with
 |some (some v)=>Q v H
 |_=>False
theorem pn{X:Cx}(i:Nat){x:Str}{pos:Pos}(hN:X.N[i]?=some x:=by rfl)(hv:Vis X.env.scope x:=by first|exact Or.inl rfl|exact qGu (Or.inl rfl)|exact qGu (qGu rfl))(hd:(x==("__debug__":Str))=false:=by decide)
  (hcd:(x==("__classdict__":Str))=false:=by decide):PE X (.Name x pos) (vM i):=(zVP hN hv hd hcd).imp fun σ H Q h=>by
 unfold vM at h;cases e:σ[i]? with
 |none=>rw[e]at h;exact qA5 h
 |some w=>
  rw[e]at h;cases w with
  |none=>exact qA5 h
  |some v=>exact⟨v,e,h⟩
noncomputable def bM(t:TE):TT:=fun σ H Q=>t σ H fun x H'=>match x with
 |.bl k=>Q k H'
 |.int i=>Q (i != 0) H'
 |.non=>Q false H'
 |_=>False
section
variable{X:Cx}{a b c:Expr}{ta tb tc:TE}{tA tB:TT}{rest:List Expr}{pos:Pos}
theorem zUU{K:qA1}{x:V}{H:Hp}{Q:Bool->Hp->Prop}(h:match x with | .bl k=>Q k H | .int i=>Q (i != 0) H | .non=>Q false H|_=>False):∃k,TruV K x H k/\Q k H:=by
 cases x with
 |bl k=>exact⟨k,rfl,h⟩
 |int i=>exact⟨_,rfl,h⟩
 |non=>exact⟨_,rfl,h⟩
 |_=>exact qA5 h
theorem pt_m(ha:PE X a ta)(he:∀whole,isTrue a X.env whole=(do let v <- whole;standAt a.pos;holding [v] (truthy v)):=by intro _;rfl):PT X a (bM ta):=by
 intro pins s σ H Q I h;refine isTrue_plain (thn (ha pins s σ H _ I h) fun v s1 z0=>?_) (he _);obtain⟨x,H1,I1,r1,q1⟩:=z0;exact thn (zUT pins s1 σ H1 x v Q I1 r1 (zUU q1)) fun _ _ q=>q
theorem zDL{op:CmpOp}{r:R2}(ho:OpR X (compareOp op) r)(ha:PE X a ta)(hb:PE X b tb)(hm:qI8 op b=false):PT X (.Compare a [op] [b] pos) (fun σ H Q=>ta σ H fun x H1=>tb σ H1 fun y H2=>r x y H2 fun z H3=>match z with | .bl k=>Q k H3|_=>False):=by
 intro pins s σ H Q I h;refine wpAny_isTrue_Compare1 (thn (ha pins s σ H _ I h) fun v s1 ⟨x,H1,I1,r1,q1⟩=>thn (hb pins s1 σ H1 _ I1 q1) fun u s2 ⟨y,H2,I2,r2,q2⟩=>
  thn (ho pins s2 σ H2 x y v u _ I2 r1 r2 q2) fun d s3 ⟨z,H3,I3,r3,q3⟩=>?_) hm
 cases z with
 |bl k=>cases r3;exact wpAny_truthy_bool ⟨H3,I3,q3⟩
 |_=>exact qA5 q3
theorem zT6(ha:PE X a ta)(hb:PE X (.BoolOp .And (b::rest) pos) tb):PE X (.BoolOp .And (a::b::rest) pos) (fun σ H Q=>ta σ H fun x H1=>match x with | .bl c=>if c=true then tb σ H1 Q else Q (.bl false) H1|_=>False):=by
 intro pins s σ H Q I h;refine BoolOp_and (thn (ha pins s σ H _ I h) fun v s1 z0=>?_);obtain⟨x,H1,I1,r1,q1⟩:=z0;cases x with
 |bl c=>
  cases r1;refine wpAny_truthy_bool ?_;cases c with
  |true=>exact hb pins s1 σ H1 Q I1 (by simpa using q1)
  |false=>exact⟨.bl false,H1,I1,rfl,by simpa using q1⟩
 |_=>exact qA5 q1
theorem zY8(ha:PE X a ta):PE X (.UnaryOp .Not a pos) (fun σ H Q=>ta σ H fun x H1=>match x with | .bl c=>Q (.bl (!c)) H1|_=>False):=by
 intro pins s σ H Q I h;refine UnaryOp_ (thn (ha pins s σ H _ I h) fun v s1 z0=>?_);obtain⟨x,H1,I1,r1,q1⟩:=z0;cases x with
 |bl c=>cases r1;exact not_of (wpAny_truthy_bool ⟨.bl (!c),H1,I1,rfl,q1⟩)
 |_=>exact qA5 q1
def setM:V->V->V->Hp->(Hp->Prop)->Prop:=fun o i v H Q=>match o,i with
 |.ref p,.int k=>∃xs j,H p=some (.lst xs)/\ixN xs.length k=some j/\Q (upd H p (.lst (xs.set j v)))
 |_,_=>False
theorem zK7:PSet X setM:=by
 intro pins s σ H o i v ov iv u Q I ro ri rv h;cases o<;>cases i<;>first
  |(obtain⟨xs,j,h1,h2,h3⟩:=h;exact zQ1 pins s σ H _ _ v ov iv u Q I ro ri rv ⟨_,xs,_,j,rfl,rfl,h1,h2,h3⟩)
  |exact qA5 h
def appM:V->List V->Hp->VK->Prop:=fun x vs H Q=>match x,vs with
 |.ref l,[y]=>∃xs,H l=some (.lst xs)/\xs.length<sizeLine/\Q .non (upd H l (.lst (xs++[y])))
 |_,_=>False
theorem zKI:MtR X "list.append" appM:=by
 intro pins s σ H x vs v us Q I rx rv h;cases x with
 |ref l=>
  cases vs with
  |nil=>exact qA5 h
  |cons y t=>
   cases t with
   |nil=>
    obtain⟨xs,h1,h2,h3⟩:=h;exact zO9 pins s σ H _ _ v us Q I rx rv ⟨l,xs,y,rfl,rfl,h1,h2,h3⟩
   |cons _ _=>exact qA5 h
 |_=>exact qA5 h
def popM:V->List V->Hp->VK->Prop:=fun x vs H Q=>match x,vs with
 |.ref l,[.int i]=>∃xs k y,H l=some (.lst xs)/\(-(2 ^ 63)<=i/\i<2 ^ 63)/\qJ7 i xs.length=some k/\xs[k]?=some y/\Q y (upd H l (.lst (xs.eraseIdx k)))
 |.ref l,[]=>∃xs y,H l=some (.lst xs)/\xs[xs.length-1]?=some y/\Q y (upd H l (.lst xs.dropLast))
 |_,_=>False
theorem zTH:MtR X "list.pop" popM:=by
 intro pins s σ H x vs v us Q I rx rv h;cases x with
 |ref l=>
  cases vs with
  |nil=>
   obtain⟨xs,y,h1,h2,h3⟩:=h;exact zW7 pins s σ H _ _ v us Q I rx rv ⟨l,xs,y,rfl,rfl,h1,h2,h3⟩
  |cons y t=>
   cases y with
   |int i=>
    cases t with
    |nil=>
     obtain⟨xs,k,y,h1,h2,h3,h4,h5⟩:=h;exact zQM pins s σ H _ _ v us Q I rx rv ⟨l,xs,i,k,y,rfl,rfl,h1,h2.1,h2.2,h3,h4,h5⟩
    |cons _ _=>exact qA5 h
   |_=>exact qA5 h
 |_=>exact qA5 h
end
theorem pt_w{X:Cx}{e:Expr}{t:TT}(h:PW X e t):PT X e t:=h.pt
def Has(P:qGz)(w:World)(K:qA1)(mg:Str->Option Value)(base:Heap)(x:Str)(k:Nat)(ps:List Str)(sp:Sp):Prop:=
 ∃f fd,FnOk P w K mg base CX0 k f fd ps sp/\mg x=some (.ref f)/\qBe K (.ref f)=true/\Binds K fd ps []
def Def(K:qA1)(mg:Str->Option Value)(x:Str)(st:Stmt):Prop:=∃f fd,Fun K x x st f fd/\mg x=some (.ref f)
section
variable{X:Cx}{x:Str}{j k:Nat}{ps:List Str}{sp:Sp}{e:Expr}{es:List Expr}{t:TA}{p pos:Pos}
theorem zBQ(h:Has X.prog X.w X.K X.mg X.base x j ps sp)(hjk:j<=k)(hr:Room k X.A)(hg:Gl X x)(ha:PA X (e::es) t)(hdb:(x==("__debug__":Str))=false:=by decide)
  (he:starEach (e::es) X.env=(false,eval e X.env)::starEach es X.env:=by rfl) (hpl:(backTo pos (starEach es X.env)).any (·.1)=false:=by rfl):PE X (.Call (.Name x p) (e::es) [] pos) (zKA sp [] E0 t):=by
 obtain⟨f,fd,G,m,kp,b⟩:=h;exact zNZ G (hr.mono hjk) hg m kp b .nil zY9 ha hdb he hpl
end
section
variable{P:qGz}{w:World}{K:qA1}{mg:Str->Option Value}{base:Heap}
theorem Def.ok{x:Str}{st:Stmt}{N ps:List Str}{k:Nat}{sp:Sp}(D:Def K mg x st)(S:FnScope N ps (zA7 st))
  (hb:∀(kV doc pm:Value)(an:Option Addr)(cdv ct:Value)(us:List Value),us.length=ps.length->qIo (qBa x x (zCR st) (zB7 st) (zA7 st) .none kV doc pm an cdv ct) ⟨us,[]⟩=pure (ps.zip us))
  (len:∀vs H Q E,sp vs H Q E->vs.length=ps.length)
  (hbody:∀(f:Addr)(cdv:Value)(A:qH1)(outer:List Env)(s:qGw)(H:Hp)(vs:List V)(Q:VK)(E:XK),Room k (A.deeper (envOfC x (zA7 st) s.heap.objs.size f cdv))->sp vs H Q E ->
   ∃t,PSs (cxOf CX0 P w K mg base N x (zA7 st) f cdv A outer s H E).nox (zB7 st) t/\t { nx:=fun _ H'=>Q .non H',rt:=Q } (start N vs) H):Has P w K mg base x (k+1) ps sp:=by
 obtain⟨f,fd,F,m⟩:=D;exact⟨f,fd,F.ok S len (fun cdv A outer s H vs Q E hr h=>hbody f cdv A outer s H vs Q E hr h),m,F.kp,F.binds hb⟩
end
section
variable{X:Cx}{pins:List (Addr×Obj)}{σ:St}{H:Hp}{s:qGw}
theorem Inv.turnedNew{h':Heap}{t':Nat}{fp:List Addr}{a:Addr}{o:HO}(I:Inv X pins σ H s)(hf:∀b∈fp,FpOk X pins H b)(k:∀b u,b∉fp->s.heap.get? b=some u->h'.get? b=some u)
  (hp:s.heap.objs.size<=a) (new:ObjOk X.prog X.w (upd H a o) h' a o):Inv X pins σ (upd H a o) { s with heap:=h',toks:=t' }:=by
 have hn:H a=none:=I.hok.fresh hp;have ne:∀b u,s.heap.get? b=some u->b≠a:=fun b u e=>qAu (qAc (qGy e) hp)
 have nfp:∀b u,H b=some u->b∉fp:=fun b u e z=>by rw[(hf b z).1]at e;cases e
 refine I.step (g':=s.gens) (d':=s.drawn) (ch:=fp) (fun b hb=>⟨(hf b hb).2.2.2.1,(hf b hb).2.1,(hf b hb).2.2.2.2.1,(hf b hb).2.2.2.2.2⟩) (fun b u _ _ hc e _=>k b u hc e) (fun b u _ _ hc e _=>⟨u.slots,k b u hc e⟩)
  (fun b u _ e n=>by rw[zAH (ne b u e)];exact n) (fun b u hc e=>⟨u,k b u hc e⟩) (fun b xs e=>by rw[zAH (zAI e hn)];exact e) (fun b u xs e=>by rw[zAH (zAI e hn)];exact e)
  (fun b ps e=>⟨#[],by rw[zAH (zAI e hn),e];simp⟩) (fun m hm=>?_) (fun b u e=>?_) I.bare
 ·obtain⟨u,es,ep,ho,r⟩:=hm;exact⟨u,es,ep,k _ u (fun z=>(hf _ z).2.1 rfl) ho,r⟩
 ·by_cases hb:b=a
  ·subst hb;rw[zAJ]at e;cases e;exact new
  ·rw[zAH hb]at e;refine(I.hok b u e).stay (fun c v hc q=>k c v ?_ q) (fun c q=>by rw[zAH (zAI q hn)];exact q) (fun c xs q=>by rw[zAH (zAI q hn)];exact q) fun c _ _ q _=>by rw[zAH (zAI q hn)];exact q
   rcases hc with z|z
   ·rw[z];exact nfp b u e
   ·exact nfp c _ z
theorem Inv.turnedL{h':Heap}{t':Nat}{fp:List Addr}(I:Inv X pins σ H s)(hf:∀b∈fp,FpOk X pins H b)(k:∀b u,b∉fp->s.heap.get? b=some u->h'.get? b=some u):Inv X pins σ H { s with heap:=h',toks:=t' }:=by
 have nfp:∀b u,H b=some u->b∉fp:=fun b u e z=>by rw[(hf b z).1]at e;cases e
 refine I.step (g':=s.gens) (d':=s.drawn) (ch:=fp) (fun b hb=>⟨(hf b hb).2.2.2.1,(hf b hb).2.1,(hf b hb).2.2.2.2.1,(hf b hb).2.2.2.2.2⟩) (fun b u _ _ hc e _=>k b u hc e) (fun b u _ _ hc e _=>⟨u.slots,k b u hc e⟩)
  (fun b u _ e n=>n) (fun b u hc e=>⟨u,k b u hc e⟩) (fun b xs e=>e) (fun b u xs e=>e)
  (fun b ps e=>⟨#[],by rw[e];simp⟩) (fun m hm=>?_) (fun b u e=>?_) I.bare
 ·obtain⟨u,es,ep,ho,r⟩:=hm;exact⟨u,es,ep,k _ u (fun z=>(hf _ z).2.1 rfl) ho,r⟩
 ·refine(I.hok b u e).stay (fun c v hc q=>k c v ?_ q) (fun c q=>q) (fun c xs q=>q) fun c _ _ q _=>q
  rcases hc with z|z
  ·rw[z];exact nfp b u e
  ·exact nfp c _ z
def Ite(K:qA1)(a:Addr):It:=
 ⟨fun i H=>∃xs x,SqL K H a xs/\xs[i]?=some x,fun i H x H'=>∃T y,x=.ref T/\H T=none/\H'=upd H T (.tup [.int i,y])/\∀xs,SqL K H a xs->xs[i]?=some y,fun i H=>∃xs,SqL K H a xs/\xs.length<=i⟩
theorem zN3{P:qGz}{w:World}{K:qA1}{ts:List Expr}{kk:Nat}{tp:Pos}(a e it:Addr)(hei:e≠it) :
  Turn P w K (.Tuple ts kk tp) (Ite K a) [e,it] e (fun i h=>(∃old,IsEnum h e it i old)/\h.IsListIter it a i) where
 mem:=by simp
 obj:=fun i h st b hb=>by
  rcases qAk.mp hb with z|z
  ·subst z;obtain⟨⟨old,he⟩,_⟩:=st;exact⟨_,he,fun v z=>by cases z⟩
  ·have z':b=it:=by simpa using z
   subst z';obtain⟨_,o,e,c,d⟩:=st;exact⟨o,e,fun v z=>by rw[d]at z;cases z⟩
 keep:=fun i h h' st k=>⟨by obtain⟨⟨old,he⟩,_⟩:=st;exact⟨old,k e (by simp) _ he⟩,st.2.at fun o x=>k it (by simp) o x⟩
 item:=by
  intro X hP hw hK hc i pins s σ H E I hf st hg;subst hP hw hK;obtain⟨xs,x,hq,hx⟩:=hg;obtain⟨its,rv,p,hz⟩:=I.list hq;obtain⟨u,hu,ru⟩:=rv.get hx;obtain⟨⟨old,he⟩,hit⟩:=st;refine wpAny_pyNext_enum_item he hit p.isList (x:=u) (by simpa using hu) hei fun h' ho hit' hT hsz hk=>?_
  refine⟨_,rfl,wpAny_letOwnedTupleGo_enum ho fun h'' he'' hs''=>?_⟩;have hTe:s.heap.objs.size≠e:=qBn (qGy he);have hTi:s.heap.objs.size≠it:=by obtain⟨o,ho',_⟩:=hit;exact qBn (qGy ho')
  have kk:∀b u,b∉[e,it]->s.heap.get? b=some u->h''.get? b=some u:=fun b u hb q=>by
   have b1:b≠e:=fun z=>hb (by simp[z])
   have b2:b≠it:=fun z=>hb (by simp[z])
   exact(hs''.2 b b1).trans (hk b u b1 b2 q)
  have hT'':=(hs''.2 _ hTe).trans hT;refine⟨.ref s.heap.objs.size,_,I.turnedNew (t':=s.toks+1) (o:=.tup [.int i,x]) hf kk (qA6 _) ⟨by show 2<=sizeLine;decide,[.int i s.toks,u],.cons ⟨_,rfl⟩ (.cons ru .nil),⟨_,hT'',rfl,_,rfl⟩⟩,rfl,
   ⟨_,x,rfl,I.fresh,rfl,fun ys hy=>by rw[I.list_inj hy hq];exact hx⟩,⟨⟨_,by simpa using he''⟩,hit'.at fun o x=>(hs''.2 it hei.symm).trans x⟩,fun b hb=>?_⟩
  have hbs:b<s.heap.objs.size:=by
   rcases qAk.mp hb with z|z
   ·rw[z];exact qGy he
   ·have z':b=it:=by simpa using z
    rw[z'];obtain⟨o,ho',_⟩:=hit;exact qGy ho'
  rw[zAH (qAu hbs)];exact(hf b hb).1
 done:=by
  intro X hP hw hK hc i pins s σ H E I hf st hg;subst hP hw hK;obtain⟨xs,hq,hx⟩:=hg;obtain⟨its,rv,p,hz⟩:=I.list hq;have hl:=rv.length;obtain⟨⟨old,he⟩,hit⟩:=st;exact wpAny_pyNext_enum_end (I.ok.hd hc) he hit p.isList (by simp;lia) fun h' eb=>⟨rfl,I.turnedL (t':=s.toks) hf fun b u hb q=>eb b u (fun z=>hb (by simp[z])) q⟩
 self:=fun _ _ _ _ _ st h=>by obtain⟨⟨old,he⟩,_⟩:=st;exact qIu he h
def zTZ(K:qA1)(tl:TA):TI:=fun σ H R=>tl σ H fun vs H1=>match vs with
 |[.ref a]=>(∃xs,SqL K H1 a xs)/\R (Ite K a) H1
 |_=>False
theorem zT3{ts:List Expr}{kk:Nat}{tp p pos:Pos}{a:Expr}{ta:TA}(hg:Gl X "enumerate")(hm:X.mg "enumerate" = none)(ha:PA X [a] ta)(hs:starEach [a] X.env=[(false,eval a X.env)]:=by rfl) :
  PI X (.Tuple ts kk tp) (.Call (.Name "enumerate" p) [a] [] pos) (zTZ X.K ta):=by
 intro pins s σ H R I h;refine Call_ (zGB I hg hm boot_enumerate (qB7 (thn (ha pos pins s σ H _ I h) fun us s1 z0=>?_) hs rfl));obtain⟨vs,H1,I1,r1,q1⟩:=z0;cases vs with
 |nil=>exact qA5 q1
 |cons hd1 tl1=>
  cases hd1 with
  |ref l=>
   cases tl1 with
   |nil=>
    obtain⟨⟨xs,hq⟩,q⟩:=q1;obtain⟨u,rfl,rx⟩:=zGO r1;cases rx;obtain⟨its,rv,pl,hz⟩:=I1.list hq;refine call_enumerate_list pl.isList fun h' he hit hsz hk=>?_
    refine qIu he ?_;have hne:s1.heap.objs.size+1≠s1.heap.objs.size:=by lia
    refine⟨s1.heap.objs.size+1,[s1.heap.objs.size+1,s1.heap.objs.size],_,_,H1,rfl,I1.kept (t':=s1.toks) hk,zN3 l _ _ hne,⟨⟨_,he⟩,hit⟩,fun b hb=>?_,q⟩;have hb':s1.heap.objs.size<=b:=by
     rcases qAk.mp hb with z|z
     ·rw[z];exact qD4 _
     ·have z':b=s1.heap.objs.size:=by simpa using z
      rw[z'];exact qA6 _
    exact I1.fpOk hb' (I1.hok.fresh hb')
   |cons _ _=>exact qA5 q1
  |_=>exact qA5 q1
end
section
variable{X:Cx}{K:qA1}
theorem zCA(hK:X.K=K:=by rfl):zE7 X (.builtin "len") (zSY K):=hK▸zYJ
theorem zOK(hc:X.calm=true)(hK:X.K=K:=by rfl):zE7 X (.type "list") (zLL K):=hK▸zWF hc
theorem zC0(hK:X.K=K:=by rfl):IxR X (rIxU K):=hK▸u_ix
theorem zHQ{ts:List Expr}{kk:Nat}{tp p pos:Pos}{a:Expr}{ta:TA}(hg:Gl X "enumerate")(hm:X.mg "enumerate" = none)(ha:PA X [a] ta)(hs:starEach [a] X.env=[(false,eval a X.env)]:=by rfl)(hK:X.K=K:=by rfl) :
  PI X (.Tuple ts kk tp) (.Call (.Name "enumerate" p) [a] [] pos) (zTZ K ta):=hK▸zT3 hg hm ha hs
theorem zHS{es:List Expr}{k:Nat}{t:TGs}{n:Nat}{pos:Pos}(hc:X.calm=true)(h:PGs X es t)
  (hn:(assignEach es X.env).length=n:=by rfl) (hst:(assignEach es X.env).findIdx? (·.1)=none:=by rfl) (hK:X.K=K:=by rfl):PG X (.Tuple es k pos) (gTup K n t):=hK▸zVO hc h hn hst
noncomputable def tML(r:V->List V->Hp->VK->Prop)(to:TE)(t:TA):TE:=fun σ H Q=>to σ H fun x H1=>match x with
 |.ref p=>∃xs,H1 p=some (.lst xs)/\t σ H1 fun vs H2=>r x vs H2 Q
 |_=>False
variable{o e:Expr}{es:List Expr}{to:TE}{t:TA}{name:Str}{apos cpos:Pos}{T id:String}{r:V->List V->Hp->VK->Prop}
theorem zKF(pa:PlainAttrs "list")(slot:Slot "list" name id)(hty:typeOf (.builtin id)=pure (.type "method_descriptor"))(hm:MtR X id r)(ho:PE X o to)(ha:PA X (e::es) t)
  (hbase:attributeBase o name X.env (eval o X.env)=eval o X.env:=by rfl)
  (hfew:((backTo cpos (starEach (e::es) X.env)).all (fun x=>!x.1)&&(backToKw cpos (keywordEach [] X.env)).all (fun x=>x.1.isSome)
   && decide ((e::es).length+([]:List Keyword).length+(if([]:List Keyword).isEmpty then 0 else 1)<30))=true:=by rfl)
  (hline:(apos.endLine==cpos.line)=true:=by rfl) (hs:starEach (e::es) X.env=(false,eval e X.env)::starEach es X.env:=by rfl) (hplain:(backTo cpos (starEach es X.env)).any (·.1)=false:=by rfl) :
  PE X (.Call (.Attribute o name apos) (e::es) [] cpos) (tML r to t):=by
 intro pins s σ H Q I h;refine wpAny_Call_method_late hbase hfew hline rfl (thn (ho pins s σ H _ I h) fun v s1 z0=>?_);obtain⟨x,H1,I1,r1,q1⟩:=z0;cases x with
 |ref p=>?_
 |_=>exact qA5 q1
 obtain⟨xs,hx,q1⟩:=q1;obtain⟨h1,h2⟩:=zUS (T:="list") I1 r1 (.inl ⟨rfl,xs,SqL.of hx⟩);refine⟨"list",id,pa,slot,hty,h1,h2,?_⟩;have hA:=ha cpos pins s1 σ H1 _ I1 q1;rw[hs]at hA ⊢;refine Calls.callWith_builtin (by show(false||(backTo cpos (starEach es X.env)).any (·.1))=false;rw[hplain]<;>rfl) (Calls.evalArgs_plain ?_);exact thn hA fun us s2 ⟨vs,H2,I2,r2,q2⟩=>hm pins s2 σ H2 (.ref p) vs v us Q I2 r1 r2 q2
end
theorem same_new{H:Hp}{p:Addr}(h:H p=none)(o:HO):Same H (upd H p o):=fun b u q=>by rw[zAH (zAI q h)];exact q
theorem Same.upd{H H':Hp}{p:Addr}(s:Same H H')(h:H p=none)(o:HO):Same H (upd H' p o):=fun b u q=>by rw[zAH (zAI q h)];exact s b u q
theorem zD3{H:Hp}:∀(ns:List Int),RepL H (ns.map Dat.int) (ns.map V.int)
 |[]=>rfl
 |n::r=>⟨.int n,r.map V.int,rfl,rfl,zD3 r⟩
theorem zD9:∀(ns:List Int),Dat.depL (ns.map Dat.int)=0
 |[]=>rfl
 |n::r=>by
  rw[qAg,Dat.depL,zD9 r];rfl
theorem zIC:∀(ns ms:List Int),Dat.eqL (ns.map Dat.int) (ms.map Dat.int)=decide (ns=ms)
 |[],[]=>by simp[Dat.eqL]
 |[],_::_=>by simp[Dat.eqL]
 |_::_,[]=>by simp[Dat.eqL]
 |n::r,m::q=>by
  rw[qAg,qAg,Dat.eqL,zIC r q,Dat.eq]
  by_cases h:n=m
  ·subst h;simp
  ·simp[h]
theorem big{n:Nat}(h:n<=100000):n<sizeLine:=by rw[qI9];lia
theorem zGC:∀{ns:List Int}{vs:List Value},Vals (ns.map V.int) vs->qIj vs ns
 |[],_,.nil=>.nil
 |n::r,_,.cons h t=>by
  obtain⟨tk,rfl⟩:=h;exact .cons n tk (zGC t)
section
variable{X:Cx}
def rInU(K:qA1)(neg:Bool):R2:=fun x y H Q=>match y with
 |.ref p=>∃xs,(SqL K H p xs\/SqT K H p xs)/\zDP x=true/\xs.all zDP=true/\Q (.bl (if neg then !inV x xs else inV x xs)) H
 |.str j=>match x with
  |.str i=>Q (.bl (if neg then !(!(qHp j i 0 j.length 1).isEmpty)else !(qHp j i 0 j.length 1).isEmpty)) H
  |_=>False
 |_=>False
theorem u_in{K:qA1}(hK:X.K=K:=by rfl):OpR X (compareOp .In) (rInU K false):=by
 subst hK;intro pins s σ H x y v u Q I rx ry h;cases y with
 |ref p=>
  obtain⟨xs,h1,h2,h3,h4⟩:=h;exact zO3 pins s σ H _ _ v u Q I rx ry ⟨p,xs,rfl,h1,h2,h3,h4⟩
 |str j=>
  cases x with
  |str i=>exact zO2 pins s σ H _ _ v u Q I rx ry ⟨i,j,rfl,rfl,h⟩
  |_=>exact qA5 h
 |_=>exact qA5 h
end
end L2
namespace Mi
open PySem
noncomputable section
inductive Sv where
 |i (n:Int)|s (x:Str)
inductive Sw where
 |non|bl (b:Bool)|int (i:Int)|str (x:Str)
inductive Dt where
 |non|bl (b:Bool)|int (i:Int)|str (x:Str)|lst (xs:List Dt)|tup (xs:List Dt)|scr (ns:List Int)|exc (c f:Str) (d:Dt)|ins (c:Str) (fs:List (Str×Sv))|dct (kvs:List (Sum Int Str×Sw))|fn (x:Str) (d:Dt)
mutual
def Dt.dep:Dt->Nat
 |.lst xs=>Dt.depL xs+1
 |.tup xs=>Dt.depL xs+1
 |.scr _=>1000
 |.exc _ _ _=>1000
 |.fn _ _=>1000
 |.ins _ _=>1000
 |.dct _=>1000
 |_=>0
def Dt.depL:List Dt->Nat
 |[]=>0
 |x::r=>max x.dep (Dt.depL r)
end
mutual
def Dt.eq:Dt->Dt->Bool
 |.non,.non=>true
 |.bl a,.bl b=>a==b
 |.bl a,.int b=>(if a then 1 else 0)==b
 |.int a,.bl b=>a==(if b then 1 else 0)
 |.int a,.int b=>a==b
 |.str a,.str b=>a==b
 |.lst xs,.lst ys=>Dt.eqL xs ys
 |.tup xs,.tup ys=>Dt.eqL xs ys
 |_,_=>false
def Dt.eqL:List Dt->List Dt->Bool
 |[],[]=>true
 |x::r,y::q=>Dt.eq x y&&Dt.eqL r q
 |_,_=>false
end
structure Xn where
 cls:Str
 f:Str
 d:Dt
abbrev R(α:Type):=Option (Except Xn α)
noncomputable def okR{α:Type}(a:α):R α:=some (.ok a)
noncomputable def zA2{α β:Type}(x:R α)(f:α->R β):R β:=match x with
 |none=>none
 |some (.error e)=>some (.error e)
 |some (.ok a)=>f a
def optR{α:Type}(o:Option α):R α:=match o with
 |none=>none
 |some a=>okR a
@[simp] theorem bindR_ok{α β:Type}(a:α)(f:α->R β):zA2 (okR a) f=f a:=rfl
@[simp] theorem zA4{α β:Type}(f:α->R β):zA2 none f=none:=rfl
@[simp] theorem zAA{α β:Type}(e:Xn)(f:α->R β):zA2 (some (.error e)) f=some (.error e):=rfl
@[simp] theorem zA8{α:Type}(a:α):optR (some a)=okR a:=rfl
@[simp] theorem zA9{α:Type}:optR (none:Option α)=none:=rfl
abbrev Rh:=List (Option Dt)
abbrev Sl:=Dt×Nat
abbrev Ro:=List (Option Sl)
abbrev EM:=Rh->R Dt
abbrev TM:=Rh->R Bool
abbrev AM:=Rh->R (List Dt)
abbrev FM:=List Dt->R Dt
noncomputable def ixA(n:Nat)(i:Int):Option Nat:=if 0<=i then(if i<n then some i.toNat else none)else if -(n:Int)<=i then some (i+n).toNat else none
def itA{α:Type}(xs:List α)(i:Int):Option α:=(ixA xs.length i).bind fun j=>xs[j]?
noncomputable def addD:Dt->Dt->Option Dt
 |.int i,.int j=>some (.int (i+j))
 |.str i,.str j=>@ite _ (i.length+j.length<=100000) (qA3 _) (some (.str (i++j))) none
 |.lst xs,.lst ys=>@ite _ (xs.length+ys.length<=100000) (qA3 _) (some (.lst (xs++ys))) none
 |_,_=>none
noncomputable def subD:Dt->Dt->Option Dt
 |.int i,.int j=>some (.int (i-j))
 |_,_=>none
noncomputable def mulD:Dt->Dt->Option Dt
 |.int i,.int j=>@ite _ (((-18446744073709551616<i/\i<18446744073709551616)\/(-18446744073709551616<j/\j<18446744073709551616))\/i.natAbs.log2+j.natAbs.log2<=67108864) (qA3 _) (some (.int (i*j))) none
 |_,_=>none
noncomputable def divD:Dt->Dt->Option Dt
 |.int i,.int j=>@ite _ (0<j/\j<1000000000000000000000000) (qA3 _) (some (.int (i/j))) none
 |_,_=>none
noncomputable def modD:Dt->Dt->Option Dt
 |.int i,.int j=>if 0<j then some (.int (i%j))else none
 |_,_=>none
noncomputable def powD:Dt->Dt->Option Dt
 |.int i,.int j=>@ite _ (0<=j/\j<=1000000/\i.natAbs<18446744073709551616) (qA3 _) (some (.int (i ^ j.toNat))) none
 |_,_=>none
noncomputable def negD:Dt->Option Dt
 |.int i=>some (.int (-i))
 |_=>none
noncomputable def cmpD(p:Int->Int->Bool):Dt->Dt->Option Dt
 |.int i,.int j=>some (.bl (p i j))
 |_,_=>none
noncomputable def eqD(x y:Dt):Option Dt:=if x.dep<=40/\y.dep<=40 then some (.bl (Dt.eq x y))else none
noncomputable def neD(x y:Dt):Option Dt:=if x.dep<=40/\y.dep<=40 then some (.bl (!Dt.eq x y))else none
noncomputable def zEB:Dt->Bool
 |.non=>true
 |_=>false
def isD(x y:Dt):Option Dt:=match y with
 |.non=>some (.bl (zEB x))
 |_=>none
noncomputable def zYL(x y:Dt):Option Dt:=match y with
 |.non=>some (.bl (!zEB x))
 |_=>none
def ixD:Dt->Dt->Option Dt
 |.lst xs,.int i=>itA xs i
 |.tup xs,.int i=>itA xs i
 |.scr ns,.int i=>(itA ns i).map .int
 |.str z,.int i=>@ite _ (z.length<=100000) (qA3 _) ((itA z.cps.toList i).map fun c=>.str ⟨#[c]⟩) none
 |_,_=>none
noncomputable def lenD:List Dt->Option Dt
 |[.lst xs]=>some (.int xs.length)
 |[.tup xs]=>some (.int xs.length)
 |[.scr ns]=>some (.int ns.length)
 |[.str z]=>@ite _ (z.length<=100000) (qA3 _) (some (.int z.length)) none
 |_=>none
noncomputable def listD:List Dt->Option Dt
 |[.lst xs]=>some (.lst xs)
 |[.tup xs]=>some (.lst xs)
 |[.scr ns]=>some (.lst (ns.map .int))
 |_=>none
noncomputable def nums(lo:Int)(n:Nat):List Dt:=(qA8 n).map fun i:Nat=>.int (lo+(i:Int))
noncomputable def tyD:Dt->String
 |.non=>"NoneType"
 |.bl _=>"bool"
 |.int _=>"int"
 |.str _=>"str"
 |.lst _=>"list"
 |.tup _=>"tuple"
 |.scr _=>""
 |.exc _ _ _=>""
 |.fn _ _=>""
 |.ins _ _=>""
 |.dct _=>""
def isiD(n:String)(x:Dt):Option Dt:=if tyD x = "" then none else some (.bl (tyD x==n||(tyD x == "bool" && n == "int")))
noncomputable def zSE:List Dt->Option (List Bool)
 |[]=>some []
 |.bl b::r=>(zSE r).map (b::·)
 |_::_=>none
def allD:List Dt->Option Dt
 |[.lst xs]=>(zSE xs).map fun bs=>.bl (bs.all id)
 |_=>none
noncomputable def maxD:List Dt->Option Dt
 |[.int i,.int j]=>some (.int (if j>i then j else i))
 |_=>none
noncomputable def minD:List Dt->Option Dt
 |[.int i,.int j]=>some (.int (if j<i then j else i))
 |_=>none
noncomputable def absD:List Dt->Option Dt
 |[.int i]=>some (.int (if i<0 then -i else i))
 |_=>none
noncomputable def hasD(x:Dt)(ys:List Dt):Option Bool:=if x.dep=0/\Dt.depL ys=0 then some (ys.any fun y=>Dt.eq y x)else none
def inD(ng:Bool)(x y:Dt):Option Dt:=match y with
 |.lst ys=>(hasD x ys).map fun b=>.bl (if ng=true then !b else b)
 |.tup ys=>(hasD x ys).map fun b=>.bl (if ng=true then !b else b)
 |.str z=>match x with
  |.str y=>match y.cps.toList with
   |[c]=>some (.bl (if ng=true then !decide (c∈z.cps.toList)else decide (c∈z.cps.toList)))
   |_=>none
  |_=>none
 |_=>none
noncomputable def cutIx(n d:Nat):Option Int->Nat
 |none=>d
 |some v=>if v<0 then(v+(n:Int)).toNat else min v.toNat n
def cutA{α:Type}(xs:List α)(lo hi:Option Int):List α:=(xs.drop (cutIx xs.length 0 lo)).take (cutIx xs.length xs.length hi-cutIx xs.length 0 lo)
def slD:Dt->Option Int->Option Int->Option Dt
 |.lst xs,lo,hi=>some (.lst (cutA xs lo hi))
 |.str z,lo,hi=>@ite _ (z.length<=100000) (qA3 _) (some (.str ⟨(cutA z.cps.toList lo hi).toArray⟩)) none
 |_,_,_=>none
abbrev OM:=Rh->R (Option Int)
def oNo:OM:=fun _=>okR none
def oE(e:Rh->R Dt):OM:=fun ρ=>zA2 (e ρ) fun d=>match d with
 |.int i=>okR (some i)
 |_=>none
def eSl(a:Rh->R Dt)(lo hi:OM):Rh->R Dt:=fun ρ=>zA2 (a ρ) fun x=>zA2 (lo ρ) fun l=>zA2 (hi ρ) fun h=>optR (slD x l h)
noncomputable def posC(c:Nat):List Nat->Option Nat
 |[]=>none
 |x::r=>if x=c then some 0 else(posC c r).map (·+1)
def zWS(x:Dt)(ys:List Dt):Option Dt:=match x,ys with
 |.str z,[.str y]=>match y.cps.toList with
  |[c]=>some (.int (match posC c z.cps.toList with|some i=>(i:Int)|none=>-1))
  |_=>none
 |_,_=>none
noncomputable def zS9(x:Dt)(ys:List Dt):Option Dt:=match x,ys with
 |.str z,[.str y]=>match y.cps.toList with
  |[c]=>some (.int (z.cps.toList.count c:Nat))
  |_=>none
 |_,_=>none
noncomputable def zOM:Dt->Bool
 |.str _=>true
 |_=>false
def eMt(f:Dt->List Dt->Option Dt)(a:Rh->R Dt)(am:Rh->R (List Dt)):Rh->R Dt:=fun ρ=>zA2 (a ρ) fun x=>if zOM x=true then zA2 (am ρ) fun xs=>optR (f x xs)else none
noncomputable def signsD(z:Str):List Dt:=z.cps.toList.map fun c=>.str ⟨#[c]⟩
def eC(d:Dt):EM:=fun _=>okR d
def eV(i:Nat):EM:=fun ρ=>match ρ[i]? with
 |some (some d)=>okR d
 |_=>none
def eB(f:Dt->Dt->Option Dt)(a b:EM):EM:=fun ρ=>zA2 (a ρ) fun x=>zA2 (b ρ) fun y=>optR (f x y)
def eU(f:Dt->Option Dt)(a:EM):EM:=fun ρ=>zA2 (a ρ) fun x=>optR (f x)
def eAnd(a b:EM):EM:=fun ρ=>zA2 (a ρ) fun x=>match x with
 |.bl k=>if k=true then b ρ else okR (.bl false)
 |_=>none
def eOr(a b:EM):EM:=fun ρ=>zA2 (a ρ) fun x=>match x with
 |.bl k=>if k=true then okR (.bl true)else b ρ
 |_=>none
def eNot(a:EM):EM:=fun ρ=>zA2 (a ρ) fun x=>match x with
 |.bl k=>okR (.bl (!k))
 |_=>none
def zWW(p q:Dt->Dt->Option Dt)(a b c:EM):EM:=fun ρ=>zA2 (a ρ) fun x=>zA2 (b ρ) fun y=>zA2 (optR (p x y)) fun z=>match z with
 |.bl k=>if k=true then zA2 (c ρ) fun w=>optR (q y w)else okR (.bl false)
 |_=>none
def eIf(c:TM)(a b:EM):EM:=fun ρ=>zA2 (c ρ) fun k=>if k=true then a ρ else b ρ
def aNil:AM:=fun _=>okR []
def aCons(e:EM)(r:AM):AM:=fun ρ=>zA2 (e ρ) fun x=>zA2 (r ρ) fun xs=>okR (x::xs)
def eLst(a:AM):EM:=fun ρ=>zA2 (a ρ) fun xs=>@ite _ (xs.length<=100000) (qA3 _) (okR (.lst xs)) none
def eTup(a:AM):EM:=fun ρ=>zA2 (a ρ) fun xs=>@ite _ (xs.length<=100000) (qA3 _) (okR (.tup xs)) none
def eCall(f:FM)(a:AM):EM:=fun ρ=>zA2 (a ρ) f
def eBi(f:List Dt->Option Dt)(a:AM):EM:=fun ρ=>zA2 (a ρ) fun xs=>optR (f xs)
def eIsi(n:String)(a:EM):EM:=fun ρ=>zA2 (a ρ) fun x=>optR (isiD n x)
def tB(a:EM):TM:=fun ρ=>zA2 (a ρ) fun x=>match x with
 |.bl k=>okR k
 |_=>none
def tM(a:EM):TM:=fun ρ=>zA2 (a ρ) fun x=>match x with
 |.bl k=>okR k
 |.int i=>okR (i != 0)
 |.non=>okR false
 |_=>none
def tAn(a b:TM):TM:=fun ρ=>zA2 (a ρ) fun k=>if k=true then b ρ else okR false
def tOr(a b:TM):TM:=fun ρ=>zA2 (a ρ) fun k=>if k=true then okR true else b ρ
def tNo(a:TM):TM:=fun ρ=>zA2 (a ρ) fun k=>okR (!k)
def tYes:TM:=fun _=>okR true
abbrev IM:=Rh->R (List Dt)
def iSq(e:EM):IM:=fun ρ=>zA2 (e ρ) fun d=>match d with
 |.lst xs=>okR xs
 |.tup xs=>okR xs
 |.scr ns=>okR (ns.map .int)
 |.str z=>okR (signsD z)
 |_=>none
def iR1(e:AM):IM:=fun ρ=>zA2 (e ρ) fun vs=>match vs with
 |[.int j]=>@ite _ (-4611686018427387904<=j/\j<4611686018427387904) (qA3 _) (okR (nums 0 j.toNat)) none
 |_=>none
noncomputable def enumD(n:Nat):List Dt->List Dt
 |[]=>[]
 |x::r=>.tup [.int n,x]::enumD (n+1) r
def iEn(e:AM):IM:=fun ρ=>zA2 (e ρ) fun vs=>match vs with
 |[.lst xs]=>okR (enumD 0 xs)
 |_=>none
noncomputable def zipD:List Dt->List Dt->List Dt
 |x::r,y::q=>.tup [x,y]::zipD r q
 |_,_=>[]
def iZi(e:AM):IM:=fun ρ=>zA2 (e ρ) fun vs=>match vs with
 |[.lst xs,.lst ys]=>okR (zipD xs ys)
 |_=>none
inductive Tg where
 |one (i:Nat)
 |tup (is:List Nat)
noncomputable def zAR:Tg->Dt->Option (List (Nat×Dt))
 |.one i,d=>some [(i,d)]
 |.tup is,.tup ds=>if ds.length=is.length then some (is.zip ds)else none
 |.tup _,_=>none
noncomputable def Tg.idx:Tg->List Nat
 |.one i=>[i]
 |.tup is=>is
noncomputable def zAM:Rh->List (Nat×Dt)->Rh
 |ρ,[]=>ρ
 |ρ,(i,d)::r=>zAM (ρ.set i (some d)) r
noncomputable def zAV:Ro->List (Nat×Dt)->Ro
 |ρ,[]=>ρ
 |ρ,(i,d)::r=>zAV (ρ.set i (some (d,0))) r
def compGo(ρ:Rh)(k:Nat)(tg:Tg)(c:TM)(e:EM):List Dt->List Dt->R (List Dt)
 |[],acc=>okR acc
 |d::ds,acc=>match zAR tg d with
  |none=>none
  |some bs=>zA2 (c (zAM (ρ++qA2 k none) bs)) fun b=>if b=true then zA2 (e (zAM (ρ++qA2 k none) bs)) fun x=>compGo ρ k tg c e ds (acc++[x])else compGo ρ k tg c e ds acc
def eComp(it:IM)(k:Nat)(tg:Tg)(c:TM)(e:EM):EM:=fun ρ=>zA2 (it ρ) fun ds=>@ite _ (ds.length<=100000/\(tg.idx.all fun i=>decide (ρ.length<=i))=true) (qA3 _) (zA2 (compGo ρ k tg c e ds []) fun es=>okR (.lst es)) none
inductive Out where
 |nx (ρ:Ro)|rt (d:Dt)|bk (ρ:Ro)|ct (ρ:Ro)
abbrev SM:=Ro->R Out
noncomputable def full(ρ:Ro):Rh:=ρ.map fun o=>o.map qEm
noncomputable def frz(ρ:Ro):Rh:=ρ.map fun o=>match o with
 |some (d,n)=>if n=0\/d.dep=0 then some d else none
 |none=>none
noncomputable def frz1(i:Nat)(ρ:Ro):Ro:=match ρ[i]? with
 |some (some (d,_))=>ρ.set i (some (d,0))
 |_=>ρ
def frzAt:List Nat->Ro->Ro
 |[],ρ=>ρ
 |i::r,ρ=>frzAt r (frz1 i ρ)
def sNil:SM:=fun ρ=>okR (.nx ρ)
def sSeq(a b:SM):SM:=fun ρ=>zA2 (a ρ) fun o=>match o with
 |.nx ρ'=>b ρ'
 |o=>okR o
noncomputable def zV0:SM:=fun _=>none
def zV1:SM:=fun ρ=>okR (.bk ρ)
def zY5:SM:=fun ρ=>okR (.ct ρ)
def sIf(c:TM)(a b:SM):SM:=fun ρ=>zA2 (c (full ρ)) fun k=>if k=true then a ρ else b ρ
def zY3(e:EM):SM:=fun ρ=>zA2 (e (full ρ)) fun _=>okR (.nx ρ)
def sSet(i n:Nat)(vs:List Nat)(e:EM):SM:=fun ρ=>zA2 (e (full ρ)) fun d=>
 if d.dep<=n then okR (.nx (ρ.set i (some (d,n))))else zA2 (e (frz (frzAt vs ρ))) fun d'=>okR (.nx ((frzAt vs ρ).set i (some (d',n))))
def sUnp(is:List Nat)(vs:List Nat)(e:EM):SM:=fun ρ=>zA2 (e (frz (frzAt vs ρ))) fun d=>match zAR (.tup is) d with
 |none=>none
 |some bs=>okR (.nx (zAV (frzAt vs ρ) bs))
def sRet(L n:Nat)(vs:List Nat)(e:EM):SM:=fun ρ=>zA2 (e (full ρ)) fun d=>
 if d.dep<=n/\d.dep<=L then okR (.rt d)else if n=L then zA2 (e (frz (frzAt vs ρ))) fun d'=>okR (.rt d')else none
def zY1:SM:=fun _=>okR (.rt .non)
def sRetV(L i:Nat):SM:=fun ρ=>match ρ[i]? with
 |some (some (d,k))=>if k=L\/L=0\/(d.dep<=k/\d.dep<=L/\k<1000)then okR (.rt d)else none
 |_=>none
def sApp(i n:Nat)(e:EM):SM:=fun ρ=>match ρ[i]? with
 |some (some (.lst ds,k+1))=>zA2 (e (full ρ)) fun d=>@ite _ (ds.length<=100000/\d.dep<=n/\d.dep<=k) (qA3 _) (okR (.nx (ρ.set i (some (.lst (ds++[d]),k+1))))) none
 |_=>none
def sPop(j i:Nat)(e:EM):SM:=fun ρ=>match ρ[i]? with
 |some (some (.lst ds,k+1))=>zA2 (e (full ρ)) fun d=>match d with
  |.int z=>match ixA ds.length z with
   |some q=>match ds[q]? with
    |some c=>@ite _ (i≠j/\ds.length<=1000000) (qA3 _) (okR (.nx ((ρ.set i (some (.lst (ds.eraseIdx q),k+1))).set j (some (c,k))))) none
    |none=>none
   |none=>none
  |_=>none
 |_=>none
def sItem(i n:Nat)(e1 e2:EM):SM:=fun ρ=>zA2 (e2 (full ρ)) fun d=>match ρ[i]? with
 |some (some (.lst ds,k+1))=>zA2 (e1 (full ρ)) fun z=>match z with
  |.int z=>match ixA ds.length z with
   |some q=>if d.dep<=n/\d.dep<=k then okR (.nx (ρ.set i (some (.lst (ds.set q d),k+1))))else none
   |none=>none
  |_=>none
 |_=>none
def sItem2(i n:Nat)(e0 e1 e2:EM):SM:=fun ρ=>zA2 (e2 (full ρ)) fun d=>match ρ[i]? with
 |some (some (.lst rs,k+2))=>zA2 (e0 (full ρ)) fun y=>match y with
  |.int y=>match ixA rs.length y with
   |some p=>match rs[p]? with
    |some (.lst ds)=>zA2 (e1 (full ρ)) fun z=>match z with
     |.int z=>match ixA ds.length z with
      |some q=>if d.dep<=n/\d.dep<=k then okR (.nx (ρ.set i (some (.lst (rs.set p (.lst (ds.set q d))),k+2))))else none
      |none=>none
     |_=>none
    |_=>none
   |none=>none
  |_=>none
 |_=>none
def forGo(tg:Tg)(b:SM):List Dt->SM
 |[],ρ=>okR (.nx ρ)
 |d::ds,ρ=>match zAR tg d with
  |none=>none
  |some bs=>zA2 (b (zAV ρ bs)) fun o=>match o with
   |.nx ρ'=>forGo tg b ds ρ'
   |.ct ρ'=>forGo tg b ds ρ'
   |.bk ρ'=>okR (.nx ρ')
   |.rt d=>okR (.rt d)
def sFor(vs:List Nat)(it:IM)(tg:Tg)(b:SM):SM:=fun ρ=>zA2 (it (frz (frzAt vs ρ))) fun ds=>forGo tg b ds (frzAt vs ρ)
def sForR(it:IM)(i:Nat)(b:SM):SM:=fun ρ=>zA2 (it (full ρ)) fun ds=>forGo (.one i) b ds ρ
def whGo(c:TM)(b:SM):Nat->SM
 |0,_=>none
 |m+1,ρ=>zA2 (c (full ρ)) fun k=>if k=true then zA2 (b ρ) fun o=>match o with
   |.nx ρ'=>whGo c b m ρ'
   |.ct ρ'=>whGo c b m ρ'
   |.bk ρ'=>okR (.nx ρ')
   |.rt d=>okR (.rt d)
  else okR (.nx ρ)
noncomputable def WNs:{ n:Nat // n=1000000 }:=Classical.choice ⟨⟨1000000,rfl⟩⟩
noncomputable def WN:Nat:=WNs.val
def zRL(c:TM)(b:SM):SM:=fun ρ=>whGo c b WN ρ
noncomputable def startO(n:Nat)(ds:List Dt):Ro:=ds.map (fun d=>some (d,0))++qA2 (n-ds.length) none
def endF:Out->R Dt
 |.nx _=>okR .non
 |.rt d=>okR d
 |_=>none
def runF(P n:Nat)(b:SM):FM:=fun ds=>if ds.length=P then zA2 (b (startO n ds)) endF else none
end
end Mi
namespace L2
open PySem PySem.Spec PyProof.Rows
theorem zS8(n d:Nat)(o:Option Int)(hd:d<=n):HT.sIx n d o<=n:=by
 cases o with
 |none=>exact hd
 |some v=>
  show(if v<0 then(v+(n:Int)).toNat else min v.toNat n)<=n
  split<;>lia
theorem zMM(lo hi:Option Int)(n:Nat):qHa lo hi 1 n=(qA8 (HT.sIx n n hi-HT.sIx n 0 lo)).map fun k=>HT.sIx n 0 lo+k:=by
 unfold qHa sliceRange;have c1:∀(o:Option Int)(d:Nat),(match o with|none=>(d:Int)|some i=>(if(1:Int)>0 then max 0 (min (if i<0 then i+(n:Int)else i) n)else max (-1) (min (if i<0 then i+(n:Int)else i) (n-1))))=((HT.sIx n d o:Nat):Int):=by
  intro o d;cases o with
  |none=>rfl
  |some v=>
   show _=(((if v<0 then(v+(n:Int)).toNat else min v.toNat n:Nat)):Int)
   dsimp only;rw[if_pos (by decide)]
   split<;>lia
 dsimp only;rw[if_pos (show(1:Int)>0 by decide),if_pos (show(1:Int)>0 by decide),if_pos (show(1:Int)>0 by decide)];have e1:=c1 lo 0;have e2:=c1 hi n;rw[show((0:Nat):Int)=0 by rfl]at e1;have h1:∀a b:Int,a=((HT.sIx n 0 lo:Nat):Int)->b=((HT.sIx n n hi:Nat):Int)->(qA8 ((if a<b then(b-a+1-1)/1 else 0).toNat)).map (fun k:Nat=>(a+1*(k:Int)).toNat)=(qA8 (HT.sIx n n hi-HT.sIx n 0 lo)).map fun k=>HT.sIx n 0 lo+k:=by
  intro a b ha hb;subst ha hb;have e:(if((HT.sIx n 0 lo:Nat):Int)<((HT.sIx n n hi:Nat):Int)then(((HT.sIx n n hi:Nat):Int)-((HT.sIx n 0 lo:Nat):Int)+1-1)/1 else 0).toNat=HT.sIx n n hi-HT.sIx n 0 lo:=by
   split
   ·rw[qGj];lia
   ·lia
  rw[e];refine qAy fun k _=>?_
  lia
 exact h1 _ _ e1 e2
theorem zNX:∀(xs:List Nat)(a k:Nat),a+k<=xs.length->((qA8 k).map fun j=>a+j).filterMap (xs[·]?)=(xs.drop a).take k:=by
 intro xs a k h
 induction k with
 |zero=>simp
 |succ k ih=>
  rw[qC2,qB1,List.filterMap_append,ih (by lia),qEx]
  congr 1
  have:a+k<xs.length:=by lia
  simp[List.getElem?_drop,this]
theorem zPZ(z:Str)(lo hi:Option Int):qJm z lo hi=⟨(Mi.cutA z.cps.toList lo hi).toArray⟩:=by
 obtain⟨⟨xs⟩⟩:=z;have hl:(⟨⟨xs⟩⟩:Str).length=xs.length:=rfl;unfold qJm;rw[zMM,hl];have e0:∀o d,Mi.cutIx xs.length d o=HT.sIx xs.length d o:=fun o d=>by cases o<;>rfl
 have hb:=zS8 xs.length xs.length hi (qA6 _);have ha:=zS8 xs.length 0 lo (qBk _);have hc:Mi.cutA xs lo hi=(xs.drop (HT.sIx xs.length 0 lo)).take (HT.sIx xs.length xs.length hi-HT.sIx xs.length 0 lo):=by
  unfold Mi.cutA;rw[e0,e0]
 show _=(⟨(Mi.cutA xs lo hi).toArray⟩:Str)
 rw[hc]
 split
 ·rename_i h
  have h':HT.sIx xs.length xs.length hi-HT.sIx xs.length 0 lo=xs.length:=by simpa using h
  have a0:HT.sIx xs.length 0 lo=0:=by lia
  rw[h',a0,qCs,qCv]
 ·by_cases hle:HT.sIx xs.length 0 lo<=HT.sIx xs.length xs.length hi
  ·have:=zNX xs (HT.sIx xs.length 0 lo) (HT.sIx xs.length xs.length hi-HT.sIx xs.length 0 lo) (by lia)
   rw[<- this];simp
  ·rw[show HT.sIx xs.length xs.length hi-HT.sIx xs.length 0 lo=0 by lia];simp
section
variable{X:Cx}
def rSlU(K:qA1):V->Option Int->Option Int->Hp->VK->Prop:=fun x lo hi H Q=>match x with
 |.str z=>z.length<=sizeLine/\Q (.str ⟨(Mi.cutA z.cps.toList lo hi).toArray⟩) H
 |.ref a=>∃xs,SqL K H a xs/\∀p,H p=none->Q (.ref p) (upd H p (.lst (cutV xs lo hi)))
 |_=>False
theorem zO1{v:Value}{o:Option Int}(h:IsPart v o):∃l:Option (Int×Tok),v=partValue l/\l.map (·.1)=o:=by
 cases h with
 |none=>exact⟨none,rfl,rfl⟩
 |int i t=>exact⟨some (i,t),rfl,rfl⟩
theorem u_sl{K:qA1}(hK:X.K=K:=by rfl):SlR X (rSlU K):=by
 subst hK;intro pins s σ H x v vl vu lo hi sl Q I rx hs pl pu h;cases x with
 |ref a=>
  obtain⟨xs,h1,h2⟩:=h;exact zNB pins s σ H _ v vl vu lo hi sl Q I rx hs pl pu ⟨a,xs,rfl,h1,h2⟩
 |str z=>
  obtain⟨hz,q⟩:=h;obtain⟨t,rfl⟩:=rx;obtain⟨l,rfl,el⟩:=zO1 pl;obtain⟨u,rfl,eu⟩:=zO1 pu;obtain⟨o,g1,g2,g3⟩:=hs;refine⟨"str",_,F.slot_str_getitem.lookup,typeIs_str _ _ _,wpAny_getItem_str_slice (l:=l) (u:=u) (st:=none) ⟨o,g1,g2,g3⟩ rfl ?_⟩;have hp:(if((1:Int)==1&&(qHa lo hi 1 z.length).length==z.length)=true then Made.val (.str z t)else Made.str ⟨((qHa lo hi 1 z.length).filterMap (z.cps[·]?)).toArray⟩).post (EP X pins σ Q) s:=by
   refine post_val_or_str ⟨qAj (Txt.slice_le z lo hi) hz,fun t' k=>?_⟩;refine⟨.str (qJm z lo hi),H,I.tok _,⟨_,rfl⟩,?_⟩;rw[zPZ];exact q
  unfold sliceMade slicePicked;rw[el,eu];exact hp
 |_=>exact qA5 h
end
noncomputable def Its(z:Str):It:=⟨fun i _=>i<z.cps.size,fun i H x H'=>H'=H/\∃c,z.cps[i]?=some c/\x=.str ⟨#[c]⟩,fun i _=>z.cps.size<=i⟩
theorem zPV{P:qGz}{w:World}{K:qA1}{tg:Expr}(z:Str)(t:Tok)(it:Addr)(ty:String)(hty:ty=qHm z):Turn P w K tg (Its z) [it] it (fun i h=>h.IsStrIter it ty z t i) where
 mem:=by simp
 obj:=fun i h st b hb=>by
  have e:b=it:=by simpa using hb
  subst e;obtain⟨o,e,c,d⟩:=st;exact⟨o,e,fun v z=>by rw[d]at z;cases z⟩
 keep:=fun i h h' st k=>by obtain⟨o,ho,r⟩:=st;exact⟨o,k it (by simp) o ho,r⟩
 item:=by
  intro X hP hw hK hc i pins s σ H E I hf st hg;subst hP hw hK;have hi:i<z.cps.size:=hg;have hx:z.cps[i]?=some z.cps[i]:=Array.getElem?_eq_getElem hi;obtain⟨f0,f1,f2,f3,f4,f5⟩:=hf it (by simp);have fin:∀h',h'.IsStrIter it ty z t (i+1)->qIv it s.heap h'->∃u,some (qJ3 ⟨#[z.cps[i]]⟩ s.toks)=some u/\wpAny (model X.prog X.w) X.A (letOwnedTupleGo tg (.ref it) u) (fun _ s2=>∃x H',Inv X pins σ H' s2/\RelV x u/\(Its z).yld i H x H'/\s2.heap.IsStrIter it ty z t (i+1)/\∀b∈[it],H' b=none) E { s with heap:=h',toks:=s.toks+1 }:=by
   intro h' st' sb;have I1:Inv X pins σ H { s with heap:=h',toks:=s.toks+1 }:=I.turned (t':=s.toks+1) (fun b o hb e=>(sb.2 b hb).trans e) f0 f1 f3 f4 f5;obtain⟨o,e,c,d⟩:=id st';refine⟨_,rfl,zOQ (s:={ s with heap:=h',toks:=s.toks+1 }) e c d ?_ ⟨.str ⟨#[z.cps[i]]⟩,H,I1,⟨_,rfl⟩,⟨rfl,_,hx,rfl⟩,st',fun b hb=>(hf b hb).1⟩⟩;rw[hty];unfold qHm;split<;>decide
  cases ha:z.cps.all (· < 128)
  ·have e:ty = "str_iterator":=by rw[hty];unfold qHm;rw[ha];rfl
   subst e;exact wpAny_pyNext_wide_item st hx fun h' a b=>fin h' a b
  ·have e:ty = "str_ascii_iterator":=by rw[hty];unfold qHm;rw[ha];rfl
   subst e;exact wpAny_pyNext_ascii_item st hx fun h' a b=>fin h' a b
 done:=by
  intro X hP hw hK hc i pins s σ H E I hf st hg;subst hP hw hK;have hx:z.cps[i]?=none:=Array.getElem?_eq_none hg;obtain⟨f0,f1,f2,f3,f4,f5⟩:=hf it (by simp);have fin:∀h',Heap.ExtBut it s.heap h'->(none:Option Value)=none/\Inv X pins σ H { s with heap:=h' }:=fun h' eb=>⟨rfl,I.turned (t':=s.toks) (fun b o hb e=>eb b o hb e) f0 f1 f3 f4 f5⟩
  cases ha:z.cps.all (· < 128)
  ·have e:ty = "str_iterator":=by rw[hty];unfold qHm;rw[ha];rfl
   subst e;exact wpAny_pyNext_wide_end (I.ok.hd hc) st hx fun h' a=>fin h' a
  ·have e:ty = "str_ascii_iterator":=by rw[hty];unfold qHm;rw[ha];rfl
   subst e;exact wpAny_pyNext_ascii_end (I.ok.hd hc) st hx fun h' a=>fin h' a
 self:=fun A i s Q E st h=>by
  cases ha:z.cps.all (· < 128)
  ·have e:ty = "str_iterator":=by rw[hty];unfold qHm;rw[ha];rfl
   subst e;exact wpAny_pyIter_striter_wide st h
  ·have e:ty = "str_ascii_iterator":=by rw[hty];unfold qHm;rw[ha];rfl
   subst e;exact wpAny_pyIter_striter_ascii st h
section
variable{X:Cx}
def iAny(K:qA1)(tl:TE):TI:=fun σ H R=>tl σ H fun x H1=>match x with
 |.ref a=>(∃xs,SqL K H1 a xs)/\R (Itl K a) H1\/(∃xs,SqT K H1 a xs)/\R (Itt K a) H1
 |.str z=>R (Its z) H1
 |_=>False
theorem zD4{K:qA1}{tg l:Expr}{tl:TE}(hl:PE X l tl)(hK:X.K=K:=by rfl):PI X tg l (iAny K tl):=by
 subst hK;intro pins s σ H R I h;refine thn (hl pins s σ H _ I h) fun v s1 z0=>?_
 obtain⟨x,H1,I1,r1,q1⟩:=z0;cases x with
 |ref a=>
  cases r1
  rcases q1 with⟨⟨xs,hq⟩,q⟩|⟨⟨xs,hq⟩,q⟩
  ·obtain⟨its,rv,p,hz⟩:=I1.list hq;refine wpAny_pyIter_list p.isList ?_;refine⟨s1.heap.objs.size,[s1.heap.objs.size],_,_,H1,rfl,I1.kept (t':=s1.toks) fun b o e=>qGx _ e,zN2 a _,⟨_,qH4 _ rfl,rfl,rfl⟩,fun b hb=>?_,q⟩;have e:b=s1.heap.objs.size:=by simpa using hb
   subst e;exact I1.fpOk (qA6 _) (I1.hok.fresh (qA6 _))
  ·obtain⟨its,rv,p,hz⟩:=I1.tuple hq;refine wpAny_pyIter_tuple (show s1.heap.IsTuple a its.toArray from p) ?_;refine⟨s1.heap.objs.size,[s1.heap.objs.size],_,_,H1,rfl,I1.kept (t':=s1.toks) fun b o e=>qGx _ e,zMA a _,⟨_,qH4 _ rfl,rfl,rfl⟩,fun b hb=>?_,q⟩;have e:b=s1.heap.objs.size:=by simpa using hb
   subst e;exact I1.fpOk (qA6 _) (I1.hok.fresh (qA6 _))
 |str z=>
  obtain⟨t,rfl⟩:=r1;refine wpAny_pyIter_strU ?_;refine⟨s1.heap.objs.size,[s1.heap.objs.size],_,_,H1,rfl,I1.kept (t':=s1.toks) fun b o e=>qGx _ e,zPV z t _ _ rfl,⟨_,qH4 _ rfl,rfl,rfl⟩,fun b hb=>?_,q1⟩;have e:b=s1.heap.objs.size:=by simpa using hb
  subst e;exact I1.fpOk (qA6 _) (I1.hok.fresh (qA6 _))
 |_=>exact qA5 q1
end
def Itz(K:qA1)(a b:Addr):It:=
 ⟨fun i H=>∃xs ys x y,SqL K H a xs/\SqL K H b ys/\xs[i]?=some x/\ys[i]?=some y,fun i H v H'=>∃T x y,v=.ref T/\H T=none/\H'=upd H T (.tup [x,y])/\(∀xs,SqL K H a xs->xs[i]?=some x)/\∀ys,SqL K H b ys->ys[i]?=some y,
  fun i H=>∃xs ys,SqL K H a xs/\SqL K H b ys/\(xs.length<=i\/ys.length<=i)⟩
theorem zPU{P:qGz}{w:World}{K:qA1}{ts:List Expr}{kk:Nat}{tp:Pos}{a b z TI TO i1 i2:Addr}(D:ZipApart z TI TO i1 i2 a b) :
  Turn P w K (.Tuple ts kk tp) (Itz K a b) [z,TI,TO,i1,i2] z (fun i h=>IsZip h z TI TO .none/\IsPair h TI (.ref i1) (.ref i2)/\(∃x y,IsPair h TO x y)/\h.IsListIter i1 a i/\h.IsListIter i2 b i) where
 mem:=by simp
 obj:=fun i h st c hc=>by
  obtain⟨hz,hTI,⟨x,y,hTO⟩,h1,h2⟩:=st;have five:c=z\/c=TI\/c=TO\/c=i1\/c=i2:=by simpa using hc
  rcases five with e|e|e|e|e<;>subst e
  ·exact⟨_,hz,fun v q=>by cases q⟩
  ·exact⟨_,hTI,fun v q=>by cases q⟩
  ·exact⟨_,hTO,fun v q=>by cases q⟩
  ·obtain⟨o,e,_,d⟩:=h1;exact⟨o,e,fun v q=>by rw[d]at q;cases q⟩
  ·obtain⟨o,e,_,d⟩:=h2;exact⟨o,e,fun v q=>by rw[d]at q;cases q⟩
 keep:=fun i h h' st k=>by
  obtain⟨hz,hTI,⟨x,y,hTO⟩,h1,h2⟩:=st;exact⟨k z (by simp) _ hz,k TI (by simp) _ hTI,⟨x,y,k TO (by simp) _ hTO⟩,h1.at fun o e=>k i1 (by simp) o e,h2.at fun o e=>k i2 (by simp) o e⟩
 item:=by
  intro X hP hw hK hc i pins s σ H E I hf st hg;subst hP hw hK;obtain⟨xs,ys,x,y,hq1,hq2,hx,hy⟩:=hg;obtain⟨its1,rv1,p1,hz1⟩:=I.list hq1;obtain⟨its2,rv2,p2,hz2⟩:=I.list hq2;obtain⟨u1,hu1,ru1⟩:=rv1.get hx;obtain⟨u2,hu2,ru2⟩:=rv2.get hy;obtain⟨hz,hTI,⟨a0,b0,hTO⟩,h1,h2⟩:=st;refine wpAny_pyNext_zip_item D hz hTI hTO h1 h2 p1.isList p2.isList (x:=u1) (y:=u2) (by simpa using hu1) (by simpa using hu2) fun h' g1 g2 g3 g4 g5 g6 g7=>?_
  refine⟨_,rfl,wpAny_letOwnedTupleGo_zip g1 fun h'' hz'' hs''=>?_⟩;have lt:∀{c:Addr}{o:Obj},s.heap.get? c=some o->c<s.heap.objs.size:=fun e=>qGy e
  have hzs:=lt hz;have hTz:s.heap.objs.size≠z:=qBn hzs;have kk':∀c u,c∉[z,TI,TO,i1,i2]->s.heap.get? c=some u->h''.get? c=some u:=fun c u hc q=>by
   have c1:c≠z:=fun e=>hc (by simp[e])
   exact(hs''.2 c c1).trans (g7 c u c1 (fun e=>hc (by simp[e])) (fun e=>hc (by simp[e])) (fun e=>hc (by simp[e])) q)
  have hT'':=(hs''.2 _ hTz).trans g5;refine⟨.ref s.heap.objs.size,_,I.turnedNew (t':=s.toks) (o:=.tup [x,y]) hf kk' (qA6 _) ⟨by show 2<=sizeLine;decide,[u1,u2],.cons ru1 (.cons ru2 .nil),⟨_,hT'',rfl,_,rfl⟩⟩,rfl,
   ⟨_,x,y,rfl,I.fresh,rfl,fun zs hy=>by rw[I.list_inj hy hq1];exact hx,fun zs hy'=>by rw[I.list_inj hy' hq2];exact hy⟩,
   ⟨hz'',(hs''.2 _ D.TIz).trans (g7 TI _ D.TIz D.TITO D.TIi1 D.TIi2 hTI),⟨_,_,(hs''.2 _ D.TOz).trans g2⟩,g3.at fun o e=>(hs''.2 _ D.i1z).trans e,g4.at fun o e=>(hs''.2 _ D.i2z).trans e⟩,fun c hc=>?_⟩
  have hcs:c<s.heap.objs.size:=by
   have five:c=z\/c=TI\/c=TO\/c=i1\/c=i2:=by simpa using hc
   rcases five with e|e|e|e|e<;>subst e
   ·exact hzs
   ·exact lt hTI
   ·exact lt hTO
   ·obtain⟨o,e,_⟩:=h1;exact lt e
   ·obtain⟨o,e,_⟩:=h2;exact lt e
  rw[zAH (qAu hcs)];exact(hf c hc).1
 done:=by
  intro X hP hw hK hc i pins s σ H E I hf st hg;subst hP hw hK;obtain⟨xs,ys,hq1,hq2,hle⟩:=hg;obtain⟨its1,rv1,p1,hz1⟩:=I.list hq1;obtain⟨its2,rv2,p2,hz2⟩:=I.list hq2;have l1:=rv1.length;have l2:=rv2.length;obtain⟨hz,hTI,⟨a0,b0,hTO⟩,h1,h2⟩:=st;refine wpAny_pyNext_zip_end (I.ok.hd hc) D hz hTI hTO h1 h2 p1.isList p2.isList ?_ fun h' hk=>⟨rfl,I.turnedL (t':=s.toks) hf fun c u hc q=>hk c u (fun e=>hc (by simp[e])) (fun e=>hc (by simp[e])) (fun e=>hc (by simp[e])) (fun e=>hc (by simp[e])) q⟩
  rcases hle with q|q
  ·exact .inl (by simp;lia)
  ·exact .inr (by simp;lia)
 self:=fun _ _ _ _ _ st h=>wpAny_pyIter_zip st.1 h
section
variable{X:Cx}{K:qA1}
def iZip(K:qA1)(tl:TA):TI:=fun σ H R=>tl σ H fun vs H1=>match vs with
 |[.ref a,.ref b]=>(∃xs,SqL K H1 a xs)/\(∃ys,SqL K H1 b ys)/\R (Itz K a b) H1
 |_=>False
theorem zVM{ts:List Expr}{kk:Nat}{tp p pos:Pos}{a b:Expr}{ta:TA}(hg:Gl X "zip")(hm:X.mg "zip" = none)(ha:PA X [a,b] ta)(hs:starEach [a,b] X.env=(false,eval a X.env)::starEach [b] X.env:=by rfl)(hpl:(backTo pos (starEach [b] X.env)).any (·.1)=false:=by rfl)(hK:X.K=K:=by rfl) :
  PI X (.Tuple ts kk tp) (.Call (.Name "zip" p) [a,b] [] pos) (iZip K ta):=by
 subst hK;intro pins s σ H R I h;refine Call_ (zGB I hg hm boot_zip (qB7 (thn (ha pos pins s σ H _ I h) fun us s1 z0=>?_) hs hpl));obtain⟨vs,H1,I1,r1,q1⟩:=z0;cases vs with
 |nil=>exact qA5 q1
 |cons hd1 tl1=>
  cases hd1 with
  |ref l1=>
   cases tl1 with
   |nil=>exact qA5 q1
   |cons hd2 tl2=>
    cases hd2 with
    |ref l2=>
     cases tl2 with
     |nil=>
      obtain⟨⟨xs,hq1⟩,⟨ys,hq2⟩,q⟩:=q1;obtain⟨u1,u2,rfl,rx,ry⟩:=zPT r1;cases rx;cases ry;obtain⟨its1,rv1,p1,hz1⟩:=I1.list hq1;obtain⟨its2,rv2,p2,hz2⟩:=I1.list hq2;have lt1:l1<s1.heap.objs.size:=by obtain⟨o,ho,_⟩:=p1.isList;exact qGy ho
      have lt2:l2<s1.heap.objs.size:=by obtain⟨o,ho,_⟩:=p2.isList;exact qGy ho
      refine call_zip_2 p1.isList p2.isList fun h' hz hTI hTO h1 h2 hsz hk=>?_
      refine wpAny_pyIter_zip hz ?_;refine⟨s1.heap.objs.size+4,[s1.heap.objs.size+4,s1.heap.objs.size+2,s1.heap.objs.size+3,s1.heap.objs.size,s1.heap.objs.size+1],_,_,H1,rfl,I1.kept (t':=s1.toks) hk,zPU (zipApart_new lt1 lt2),⟨hz,hTI,⟨_,_,hTO⟩,h1,h2⟩,fun c hc=>?_,q⟩;have hc':s1.heap.objs.size<=c:=by
       have five:c=s1.heap.objs.size+4\/c=s1.heap.objs.size+2\/c=s1.heap.objs.size+3\/c=s1.heap.objs.size\/c=s1.heap.objs.size+1:=by simpa using hc
       rcases five with e|e|e|e|e<;>rw[e]<;>first|exact qA6 _|exact qDp _ _
      exact I1.fpOk hc' (I1.hok.fresh hc')
     |cons _ _=>exact qA5 q1
    |_=>exact qA5 q1
  |_=>exact qA5 q1
end
def XO(e:Addr)(C:Value)(d:Option Addr)(h:Heap):Prop:=∃oe vs,h.get? e=some oe/\oe.cls=C/\oe.dict=d/\oe.data=.fields vs/\1<vs.size
abbrev xo(e:Addr)(C:Value)(d:Option Addr):HO:=.ext (XO e C d)
def Fl(n:Nat)(e:Addr)(C:Value)(d:Option Addr)(mk:Value)(H:Hp)(h:Heap):Prop:=
 ∃oe vs T oT ts,h.get? e=some oe/\oe.cls=C/\oe.dict=d/\oe.data=.fields vs/\vs[1]?=some (.ref T)/\n<=T/\T≠e/\H T=none/\h.get? T=some oT/\oT.data=.fields ts/\ts[3]?=some mk
def Fly(n:Nat)(e:Addr)(C:Value)(d:Option Addr)(H:Hp)(h:Heap):Prop:=
 H e=some (xo e C d)/\((∃oe vs,h.get? e=some oe/\oe.cls=C/\oe.dict=d/\oe.data=.fields vs/\vs[1]?=some .none)\/Fl n e C d .none H h)
def Held(n:Nat)(e:Addr)(C:Value)(d:Option Addr)(L:Addr)(H:Hp)(h:Heap):Prop:=H e=some (xo e C d)/\Fl n e C d (rawInt L) H h
theorem Fly.mono{n n':Nat}{e:Addr}{C:Value}{d:Option Addr}{H:Hp}{h:Heap}(x:Fly n e C d H h)(hn:n'<=n):Fly n' e C d H h:=by
 obtain⟨a,b|⟨oe,vs,T,oT,ts,h1,h2,h3,h4,h5,h6,h7⟩⟩:=x
 ·exact⟨a,.inl b⟩
 ·exact⟨a,.inr ⟨oe,vs,T,oT,ts,h1,h2,h3,h4,h5,qAj hn h6,h7⟩⟩
structure Nt(n:Nat)(fs ch:List Addr)(e:Addr)(H:Hp)(h h':Heap):Prop where
 keep:∀b o,h.get? b=some o->b≠e->b∉fs->b∉ch->h'.get? b=some o
 slot:∀b o,h.get? b=some o->b≠e->b∉ch->∃sl,h'.get? b=some { o with slots:=sl }
 there:∀b o,h.get? b=some o->∃o',h'.get? b=some o'
 old:∀b∈ch,n<=b/\H b=none/\∃o vs,h.get? b=some o/\o.data=.fields vs
section
variable{M:Model}{A:qH1}{E:Value->qGw->Prop}{s:qGw}{n:Nat}{e L:Addr}{C:Value}{d:Option Addr}{H:Hp}{base:Heap}{env:Env}{outer:List Env}
theorem zS4{oe:Obj}{vs:Array Value}{head:Value}{hadNext:Bool}{Q:Unit->qGw->Prop}
  (hfr:A.frames=some (env::outer)) (hl:s.heap.FunFrames base (env::outer)) (hf:env.frame=some L)
  (he:s.heap.get? e=some oe) (hc:oe.cls=C) (hdi:oe.dict=d) (hd:oe.data=.fields vs) (hsz:1<vs.size) (hn:n<=s.heap.objs.size) (hH:∀b,s.heap.objs.size<=b->H b=none)
  (h:∀h',(∀b o,s.heap.get? b=some o->b≠e->b∉frs (env::outer)->h'.get? b=some o)->(∀b o,s.heap.get? b=some o->b≠e->∃sl,h'.get? b=some { o with slots:=sl }) ->
   (∃o',h'.get? e=some o')->Fl n e C d (rawInt L) H h'->Q () { s with heap:=h' }) :
  wpAny M A (do let a <- frameOf env;let pl <- entryPlaceOf L hadNext;let b <- qIk head a .none (rawInt L) .none pl;setField (.ref e) 1 b) Q E s:=by
 have hene:e∉(env::outer).filterMap (·.frame):=fun hm=>by
  obtain⟨_,o,ho,hnf⟩:=hl.mem hm;rw[he]at ho;injection ho with ho;subst ho;exact hnf vs hd
 refine wpAny_bind (wpAny_frameOf_fun hfr hl hf fun h₁ hs₁=>?_);refine wpAny_bind (wpAny_entryPlaceOf fun pl hpl=>?_);unfold qIk newFields;refine wpAny_bind (wpAny_newObj_type ?_ (hpl.sizeOk5 _ _ _ _ _));have he₁:h₁.get? e=some oe:=(hs₁.2.1 e hene).trans he;have he₂:=qGx (h:=h₁) { cls:=.type "traceback",dict:=none,data:=.fields ([head,.ref L,.none,rawInt L,.none]++(if pl.isEmpty then qA2 6 qH9 else pl)).toArray } he₁;have hTe:h₁.objs.size≠e:=qBn (qGy he₁);have hd₃:=qHt hd (·.setIfInBounds 1 (qH6 h₁.objs.size));have he₃:=qHc (qH8 (·.setIfInBounds 1 (qH6 h₁.objs.size))) he₂ (qHy hd₃);have hT₃:=(qH5 (h₁.push { cls:=.type "traceback",dict:=none,data:=.fields ([head,.ref L,.none,rawInt L,.none]++(if pl.isEmpty then qA2 6 qH9 else pl)).toArray })
  (qH8 (·.setIfInBounds 1 (qH6 h₁.objs.size))) (qD0 hTe)).trans (qH4 h₁ rfl)
 have keep:∀b o,b≠e->h₁.get? b=some o ->
   ((h₁.push { cls:=.type "traceback",dict:=none,data:=.fields ([head,.ref L,.none,rawInt L,.none]++(if pl.isEmpty then qA2 6 qH9 else pl)).toArray }).update e (qH8 (·.setIfInBounds 1 (qH6 h₁.objs.size)))).get? b=some o:=
  fun b o hbe hb=>by
   rw[qH5 _ _ (qD0 hbe)];exact qGx _ hb
 have hsz1:h₁.objs.size=s.heap.objs.size:=hs₁.1;refine wpAny_setField he₂ hd hsz (h _ (fun b o hb hbe hbf=>keep b o hbe ((hs₁.2.1 b hbf).trans hb)) (fun b o hb hbe=>?_) ⟨_,he₃⟩ ?_)
 ·obtain⟨sl,e1⟩:=hs₁.2.2 b o hb;exact⟨sl,keep b _ hbe e1⟩
 ·have hdo:∀(o:Obj) f,(qH8 f o).dict=o.dict:=fun o f=>by unfold qH8;split<;>rfl
  exact⟨_,_,h₁.objs.size,_,_,he₃,(Obj.cls_mapFields _ _).trans hc,(hdo _ _).trans hdi,hd₃,by simp[hsz],by rw[hsz1];exact hn,hTe,hH _ (by rw[hsz1];exact qA6 _),hT₃,rfl,
   by first|(simp;done)|(rcases hpl with rfl|⟨_,_,_,_,_,_,_,rfl⟩<;>simp)⟩
theorem zTF{Q:Unit->qGw->Prop}(hfr:A.frames=some (env::outer))(hl:s.heap.FunFrames base (env::outer))(hf:env.frame=some L)(x:Fly n e C d H s.heap)(hn:n<=s.heap.objs.size)(hH:∀b,s.heap.objs.size<=b->H b=none)
  (h:∀h' ch,Nt n (frs (env::outer)) ch e H s.heap h'->Held n e C d L H h'->Q () { s with heap:=h' }):wpAny M A (noteFrame (.ref e) env) Q E s:=by
 obtain⟨hx,⟨oe,vs,he,hc,hdi,hd,h1⟩|⟨oe,vs,T,oT,ts,he,hc,hdi,hd,h1,hnT,hTe,hHT,hT,hdT,h3⟩⟩:=x
 ·unfold noteFrame;simp only[hf];refine wpAny_bind (wpAny_field he hd h1 ?_);rw[if_neg (by decide)];refine zS4 hfr hl hf he hc hdi hd (qBc.mp h1).1 hn hH fun h' k1 k2 k3 k4=>?_
  refine h h' [] ⟨fun b o hb hbe hbf _=>k1 b o hb hbe hbf,fun b o hb hbe _=>k2 b o hb hbe,fun b o hb=>?_,fun b hb=>nomatch hb⟩ ⟨hx,k4⟩
  by_cases z:b=e
  ·rw[z];exact k3
  ·obtain⟨sl,q⟩:=k2 b o hb z;exact⟨_,q⟩
 ·unfold noteFrame;simp only[hf];refine wpAny_bind (wpAny_field he hd h1 ?_);rw[if_pos (show(qH6 T != qH9)=true from by simp)];refine wpAny_bind (wpAny_field hT hdT h3 ?_);rw[if_neg (show ¬((qH9==rawInt L)=true) from by simp[rawInt])];refine wpAny_bind (wpAny_setField hT hdT (qBc.mp h3).1 ?_);have other:∀b,b≠T->(s.heap.update T (qH8 (·.setIfInBounds 3 qH9))).get? b=s.heap.get? b:=fun b hb=>qH5 _ _ (qD0 hb)
  have noRecord:∀b o,s.heap.get? b=some o->(∀vs,o.data≠.fields vs)->b≠T:=fun b o hb hnf q=>by
   rw[q,hT]at hb;injection hb with hb;subst hb;exact hnf ts hdT
  have hl1:=hl.of_keeps (h':=s.heap.update T (qH8 (·.setIfInBounds 3 qH9))) fun b o hb hnf=>⟨o,(other b (noRecord b o hb hnf)).trans hb,rfl⟩
  have hself:=qHc (qH8 (·.setIfInBounds 3 qH9)) hT (qHy (qHt hdT _));have hsz:(s.heap.update T (qH8 (·.setIfInBounds 3 qH9))).objs.size=s.heap.objs.size:=by simp
  refine zS4 (s:={ s with heap:=s.heap.update T (qH8 (·.setIfInBounds 3 qH9)) }) hfr hl1 hf ((other e (qD0 hTe)).trans he) hc hdi hd (qBc.mp h1).1 (by rw[hsz];exact hn) (by rw[hsz];exact hH) fun h' k1 k2 k3 k4=>?_
  have nT:∀b,b∉[T]->b≠T:=fun b hb z=>hb (by simp[z])
  refine h h' [T] ⟨fun b o hb hbe hbf hc=>k1 b o ((other b (nT b hc)).trans hb) hbe hbf,fun b o hb hbe hc=>k2 b o ((other b (nT b hc)).trans hb) hbe,fun b o hb=>?_,fun b hb=>?_⟩ ⟨hx,k4⟩
  ·by_cases z:b=e
   ·rw[z];exact k3
   ·by_cases z':b=T
    ·rw[z'];obtain⟨sl,q⟩:=k2 T _ hself hTe;exact⟨_,q⟩
    ·obtain⟨sl,q⟩:=k2 b o ((other b z').trans hb) z;exact⟨_,q⟩
  ·obtain rfl:b=T:=by simpa using hb
   exact⟨hnT,hHT,oT,ts,hT,hdT⟩
theorem zTM{Q:Unit->qGw->Prop}{fs:List Addr}{mk:Value}(x:Fl n e C d mk H s.heap)
  (h:∀h' ch,Nt n fs ch e H s.heap h'->Fl n e C d .none H h'->Q () { s with heap:=h' }):wpAny M A (setFlight (.ref e) none) Q E s:=by
 obtain⟨oe,vs,T,oT,ts,he,hc,hdi,hd,h1,hnT,hTe,hHT,hT,hdT,h3⟩:=x;have hsz3:3<ts.size:=(qBc.mp h3).1;have other:∀b,b≠T->(s.heap.update T (qH8 (·.setIfInBounds 3 ((none:Option Addr).elim qH9 fun f=>rawInt f)))).get? b=s.heap.get? b:=
  fun b hb=>qH5 _ _ (qD0 hb)
 have hself:=qHc (qH8 (·.setIfInBounds 3 ((none:Option Addr).elim qH9 fun f=>rawInt f))) hT (qHy (qHt hdT _));have nT:∀b,b∉[T]->b≠T:=fun b hb z=>hb (by simp[z])
 unfold setFlight;refine wpAny_bind (wpAny_field he hd h1 ?_);rw[if_pos (show(qH6 T != qH9)=true from by simp)];refine wpAny_setField hT hdT hsz3 (h _ [T] ⟨fun b o hb _ _ hc=>(other b (nT b hc)).trans hb,fun b o hb _ hc=>⟨o.slots,(other b (nT b hc)).trans hb⟩,fun b o hb=>?_,fun b hb=>?_⟩ ?_)
 ·by_cases z:b=T
  ·rw[z];exact⟨_,hself⟩
  ·exact⟨o,(other b z).trans hb⟩
 ·obtain rfl:b=T:=by simpa using hb
  exact⟨hnT,hHT,oT,ts,hT,hdT⟩
 ·exact⟨oe,vs,T,_,_,(other e (qD0 hTe)).trans he,hc,hdi,hd,h1,hnT,hTe,hHT,hself,qHt hdT _,by simp[hsz3]⟩
end
section
variable{X:Cx}{pins:List (Addr×Obj)}{σ:St}{H:Hp}{s:qGw}{n:Nat}{e:Addr}{C:Value}{d:Option Addr}{A:qH1}{E:Value->qGw->Prop}{fs ch:List Addr}{h h':Heap}
theorem Nt.hok{P:qGz}{w:World}(t:Nt n fs ch e H h h')(k:HOk P w H h)(he:H e=some (xo e C d))(hfs:∀b∈fs,H b=none)(f:XO e C d h'):HOk P w H h':=fun a o ha=>by
 by_cases z:a=e
 ·subst z;rw[he]at ha;cases ha;obtain⟨oe,vs,h1,r⟩:=id f;exact⟨f,⟨oe,h1⟩,(k a _ he).2.2⟩
 ·refine(k a o ha).stay (fun b u hb q=>?_) (fun _ q=>q) (fun _ _ q=>q) fun _ _ _ q _=>q
  have hb':H b≠none:=by
   rcases hb with rfl|hb
   ·rw[ha];exact fun z=>by cases z
   ·rw[hb];exact fun z=>by cases z
  have hbe:b≠e:=by
   rcases hb with rfl|hb
   ·exact z
   ·intro y;rw[y,he]at hb;cases hb
  exact t.keep b u q hbe (fun y=>hb' (hfs b y)) fun y=>hb' (t.old b y).2.1
theorem Fl.xo{mk:Value}(f:Fl n e C d mk H h):XO e C d h:=by
 obtain⟨oe,vs,T,oT,ts,h1,h2,h3,h4,h5,_⟩:=f;exact⟨oe,vs,h1,h2,h3,h4,(qBc.mp h5).1⟩
theorem Nt.un(t:Nt n fs ch e H h h')(he:H e=some (xo e C d)):Un fs ch H H h h':=
 ⟨fun b o q hn hf hc=>t.keep b o q (fun z=>by rw[z,he]at hn;cases hn) hf hc,fun b o q hn _ hc=>t.slot b o q (fun z=>by rw[z,he]at hn;cases hn) hc,fun _ _ _ hn _=>hn,fun b o q _=>t.there b o q,fun _ _ q=>q,fun _ _ _ q=>q,fun b ps q=>⟨#[],by simpa using q⟩⟩
theorem Inv.noted(I:Inv X pins σ H s)(t:Nt n (frs X.stack) ch e H s.heap h')(he:H e=some (xo e C d))(f:XO e C d h')(hn:X.s₀.heap.objs.size<=n)(hp:∀p∈X.pn++pins,p.1<n):Inv X pins σ H { s with heap:=h' }:=by
 refine I.call' rfl (t.un he) (t.hok I.hok he I.stkFree f) I.bare fun b hb=>?_
 obtain⟨h1,h2,o,vs,h3,h4⟩:=t.old b hb;refine⟨.inr (qAj hn h1),?_,?_,fun p hp' z=>?_⟩
 ·intro z;obtain⟨m,⟨o',es,ep,ho',hd',_⟩,_⟩:=I.loc;rw[z,ho']at h3;cases h3;rw[hd']at h4;cases h4
 ·intro x c hx z;obtain⟨v,o',ho',hd'⟩:=I.cell x c hx;rw[<- z,ho']at h3;cases h3;rw[hd']at h4;cases h4
 ·have:=hp p hp'
  rw[z]at this;exact absurd h1 (Nat.not_le_of_lt this)
theorem zQJ{Q:Unit->qGw->Prop}{M:Model}(I:Inv X pins σ H s)(hA:A.frames=some X.stack)(hs:X.stack=X.env::X.outer/\X.env.frame=some X.env.locals)(x:Fly n e C d H s.heap)(hn:X.s₀.heap.objs.size<=n)(hn':n<=s.heap.objs.size)
  (hp:∀p∈X.pn++pins,p.1<n) (h:∀s',Inv X pins σ H s'->Held n e C d X.env.locals H s'.heap->Q () s'):wpAny M A (noteFrame (.ref e) X.env) Q E s:=by
 have hst:=I.stack;rw[hs.1]at hA hst;refine zTF hA hst hs.2 x hn' (fun b hb=>I.hok.fresh hb) fun h' ch t y=>h _ (I.noted (ch:=ch) (by rw[hs.1];exact t) x.1 y.2.xo hn hp) y
theorem zQO{Q:Unit->qGw->Prop}{M:Model}{mk:Value}(I:Inv X pins σ H s)(hx:H e=some (xo e C d))(x:Fl n e C d mk H s.heap)(hn:X.s₀.heap.objs.size<=n)
  (hp:∀p∈X.pn++pins,p.1<n) (h:∀s',Inv X pins σ H s'->Fl n e C d .none H s'.heap->Q () s'):wpAny M A (setFlight (.ref e) none) Q E s:=
 zTM (fs:=frs X.stack) x fun h' ch t y=>h _ (I.noted t hx y.xo hn hp) y
theorem zOF{Q:Unit->qGw->Prop}{M:Model}(I:Inv X pins σ H s)(hA:A.frames=some X.stack)(hs:X.stack=X.env::X.outer/\X.env.frame=some X.env.locals)(x:Fly n e C d H s.heap)(hn:X.s₀.heap.objs.size<=n)(hn':n<=s.heap.objs.size)
  (hp:∀p∈X.pn++pins,p.1<n) (h:∀s',Inv X pins σ H s'->Fly n e C d H s'.heap->Q () s'):wpAny M A (leaving X.env (.ref e)) Q E s:=by
 unfold leaving;exact wpAny_bind (zQJ I hA hs x hn hn' hp fun s1 I1 y=>zQO I1 y.1 y.2 hn hp fun s2 I2 z=>h s2 I2 ⟨y.1,.inr z⟩)
end
def CXe(P:qGz)(w:World):CXT:=fun outer H s E x s'=>∃e C d H',x=.ref e/\s'.os=s.os/\qI6 s'.gens/\Un (frs outer) [] H H' s.heap s'.heap/\HOk P w H' s'.heap/\Fly s.heap.objs.size e C d H' s'.heap/\s.heap.objs.size<=s'.heap.objs.size/\E x d H'
section
variable{X:Cx}{pins:List (Addr×Obj)}{σ:St}{H:Hp}{s s':qGw}{E E':XK}
theorem Inv.pinlt(I:Inv X pins σ H s):∀p∈X.pn++pins,p.1<s.heap.objs.size:=fun p hp=>qGy (I.pin p hp).1
def XP(X:Cx)(pins:List (Addr×Obj))(σ:St)(E:XK)(x:Value)(s':qGw):Prop:=∃n e C d H',x=.ref e/\Inv X pins σ H' s'/\Fly n e C d H' s'.heap/\X.s₀.heap.objs.size<=n/\n<=s'.heap.objs.size/\(∀p∈X.pn++pins,p.1<n)/\E x d H'
theorem Inv.flown{x:Value}(I:Inv X pins σ H s)(h:CXe X.prog X.w X.stack H s E x s'):XP X pins σ E x s':=by
 obtain⟨e,C,d,H',rfl,ho,hb,u,hk,f,hz,q⟩:=h;exact⟨_,e,C,d,H',rfl,I.call' ho u hk hb (fun b z=>absurd z (by simp)),f,I.sz,hz,I.pinlt,q⟩
end
section
variable{P:qGz}{w:World}{K:qA1}{mg:Str->Option Value}{base:Heap}{N:List Str}{qual:Str}{scope:Scope}{f:Addr}{cd:Value}{A:qH1}{outer:List Env}{s:qGw}{H:Hp}{E E':XK}
theorem zUK{pins:List (Addr×Obj)}{σ:St}{x:Value}{s':qGw}(hE:∀C d H',E' C d H'->E C d H')
  (h:XP (cxOf (CXe P w) P w K mg base N qual scope f cd A outer s H E) pins σ E' x s'):(cxOf (CXe P w) P w K mg base N qual scope f cd A outer s H E).xe x s':=by
 obtain⟨n,e,C,d,H',rfl,I,fl,hn,hz,hp,q⟩:=h;refine zOF I I.ok.frames ⟨rfl,rfl⟩ fl hn hz hp fun s2 I2 f2=>?_
 exact⟨e,C,d,H',rfl,I2.os,I2.bare,I2.base,I2.hok,f2.mono hn,I2.sz,hE _ _ _ q⟩
end
abbrev TEX:=St->Hp->VK->XK->Prop
abbrev TSX:=Ends->(St->XK)->St->Hp->Prop
section
variable{X:Cx}{k:Nat}{f:Addr}{fd:qHb}{ps:List Str}{sp:Sp}{dvs:List V}{ds:List Value}{x:Str}{p pos:Pos}{e:Expr}{es:List Expr}{t:TA}{te:TE}{tx:TEX}{st:Stmt}{rest:List Stmt}{u u':TSX}
variable{pins:List (Addr×Obj)}{σ:St}{H:Hp}{s:qGw}{a:Addr}
end
end L2
namespace PySem.W
open PySem PySem.Calls PyProof.Rows Builtin Builtin.ObjectAttr
noncomputable def excTail:List Value->Bool
 |.ref _::r=>excTail r
 |[.type a,.type b,.type c,.type d]=>a == "ValueError" && b == "Exception" && c == "BaseException" && d == "object"
 |_=>false
theorem zKP{a b c d:String}(e:excTail [.type a,.type b,.type c,.type d]=true):a = "ValueError" /\ b = "Exception" /\ c = "BaseException" /\ d = "object":=by
 simp only[excTail,qB5,beq_iff_eq]at e;exact⟨e.1.1.1,e.1.1.2,e.1.2,e.2⟩
theorem zEQ:∀{l:List Value},excTail l=true->∃as:List Addr,l=as.map qH6++[.type "ValueError",.type "Exception",.type "BaseException",.type "object"]
 |.ref a::r,e=>by
  obtain⟨as,rfl⟩:=zEQ (l:=r) e;exact⟨a::as,rfl⟩
 |[.type a,.type b,.type c,.type d],e=>by
  obtain⟨rfl,rfl,rfl,rfl⟩:=zKP e;exact⟨[],rfl⟩
def excOver(K:Frag)(C:Addr):Bool:=(clsIn K C).any fun cd=>excTail cd.mro
section
variable{prog:qGz}{w:World}{A:qH1}{s:qGw}{K:Frag}{x C:Addr}{R:qJ6->qGw->Prop}
end
end PySem.W
namespace PySem.W
open PySem
def xcIn(K:Frag)(C:Addr):Bool:=match K.lookup C with
 |some ⟨.type "type",_,.cls cd,sl⟩=>(match cd.mro,sl.toList with
  |.ref C'::bm,[_,_,_,_,some (.builtin n),_]=>C'==C && !cd.hasDel&&excTail bm&&n == "ValueError.__new__" && cd.hasDict
  |_,_=>false)
 |_=>false
theorem xc_cls{K:Frag}{h:Heap}{C:Addr}(X:K.In h)(q:xcIn K C=true):∃nm qn N bs bm hdct sn sub ab col dd k0 k1 k2 k3 k5,
  h.get? C=some (excClassObj nm qn C N bs bm hdct sn sub ab col dd k0 k1 k2 k3 k5 "ValueError.__new__")/\excTail bm=true:=by
 unfold xcIn at q
 split at q
 ·rename_i dd cd sl ho
  split at q
  ·rename_i C' bm k0 k1 k2 k3 n k5 hm hs
   simp only[qB5,beq_iff_eq,Bool.not_eq_true']at q;obtain⟨⟨⟨⟨rfl,hdel⟩,hb⟩,hn⟩,hd⟩:=q;subst hn;obtain⟨nm,bs,mro,ns,qn,hd',sn,sub,ab,col,del⟩:=cd;dsimp only at hm hdel;subst hm hdel;have hsl:sl=#[k0,k1,k2,k3,some (.builtin "ValueError.__new__"),k5]:=by
    obtain⟨l⟩:=sl;simp only at hs;rw[hs]
   subst hsl;exact⟨nm,qn,ns,bs,bm,hd',sn,sub,ab,col,dd,k0,k1,k2,k3,k5,X _ _ ho,hb⟩
  ·cases q
 ·cases q
theorem exc_con{l:List Value}{T:String}{b:Bool}(e:excTail l=true)(hb:List.contains [qJh "ValueError",.type "Exception",.type "BaseException",.type "object"] (.type T)=b):l.contains (.type T)=b:=by
 obtain⟨as,rfl⟩:=zEQ e;clear e
 induction as with
 |nil=>exact hb
 |cons a r ih=>rw[qAg,qF7,qBh,ih];rfl
end PySem.W
namespace PySem.Xc
open PySem
section
variable{M:Model}{prog:qGz}{w:World}{A:qH1}{E:Value->qGw->Prop}{h:Heap}{g:Array qHv}{d:Drawn}{t:Nat}{os:OsState}{R:qJ6->qGw->Prop}
variable{nm q:Str}{C N:Addr}{bs bm bmB:List Value}{hdct:Bool}{sn:List Str}{sub:List Value}{ab:Bool}{col:Option Bool}{dd:Option Addr}{k0 k1 k2 k3 k5:Option Value}{B newId initId:String}
theorem zMT(F:qI3 B newId initId bmB)(hB:bm.contains (.type B)=true){rest:List Value}{Q:Unit->qGw->Prop}(hC:h.get? C=some (excClassObj nm q C N bs bm hdct sn sub ab col dd k0 k1 k2 k3 k5 newId))
  (hq:Q () ⟨h,g,d,t,os⟩):wpAny M A (checkBuiltinCall newId ⟨.ref C::rest,[]⟩) Q E ⟨h,g,d,t,os⟩:=by
 have hcont:(qH6 C::bm).contains (.type B)=true:=by rw[qBh,hB,qDz]
 have hstar:=F.noStar;simp only[checkBuiltinCall,F.newKind,F.newSplit,F.newRow]
 repeat (first|refine qH7 hC ?_|(refine qHg hC ?_;rw[hcont])|refine wpAny_staticBase_exc hC ?_|refine wpAny_madeBy_exc hC ?_|simp only[bne_self_eq_false,Bool.false_eq_true,if_false]|wp_step)
 exact hq
theorem zP6(F:qI3 B newId initId bmB)(hB:bm.contains (.type B)=true)(hA:bm.contains (.type "AttributeError")=false)(hN:bm.contains (.type "NameError")=false){rest:List Value}(hC:h.get? C=some (excClassObj nm q C N bs bm hdct sn sub ab col dd k0 k1 k2 k3 k5 newId))
  (hq:R (.ok (.ret (.ref (h.objs.size+1)))) ⟨(h.push { cls:=.type "tuple",data:=.seq rest.toArray }).push
   { cls:=.ref C,data:=.fields #[.ref h.objs.size,.none,.none,.none,.bool false,.none] },g,d,t,os⟩) (hrest:rest.length<=sizeLine) :
  qId (model prog w) A (.builtin newId ⟨.ref C::rest,[]⟩) R ⟨h,g,d,t,os⟩:=by
 have hends:=F.ends;have hcB:(qH6 C::bm).contains (.type B)=true:=by rw[qBh,hB,qDz]
 have hcA:(qH6 C::bm).contains (.type "AttributeError")=false:=by rw[qBh,hA];rfl
 have hcN:(qH6 C::bm).contains (.type "NameError")=false:=by rw[qBh,hN];rfl
 refine codeAny_builtinAt F.entry ?_;unfold Builtin.«BaseException.__new__»;refine wpAt_bind ?_;show wpAt _ _ _ (stack >>= _) _ _ _;refine wpAt_bind (wpAt_stack fun p below=>wpAt_of_wpAny ?_)
 wp_walk
 refine wpAt_of_wpAny ?_;rw[F.owner]
 repeat (first|with_reducible refine wpAny_madeHere_exc F.canon hC ?_|with_reducible refine qH7 hC ?_|(with_reducible refine qHg hC ?_;first|rw[hcB]|rw[hcA]|rw[hcN])|wp_step)
 show R _ _;rw[qHi];exact hq
theorem zKU(F:qI3 B newId initId bmB)(hB:bm.contains (.type B)=true){e:Addr}{oe:Obj}{rest:List Value}{Q:Unit->qGw->Prop}{newId':String}
  (hC:h.get? C=some (excClassObj nm q C N bs bm hdct sn sub ab col dd k0 k1 k2 k3 k5 newId')) (he:h.get? e=some oe) (hcls:oe.cls=.ref C) (hq:Q () ⟨h,g,d,t,os⟩) :
  wpAny M A (checkBuiltinCall initId ⟨.ref e::rest,[]⟩) Q E ⟨h,g,d,t,os⟩:=by
 have hcB:(qH6 C::bm).contains (.type B)=true:=by rw[qBh,hB,qDz]
 have hshort:=F.noStar;simp only[checkBuiltinCall,F.initKind,F.initSplit,F.initRow]
 repeat (first|(with_reducible refine qH7 he ?_;rw[hcls])|with_reducible refine qH7 hC ?_|(with_reducible refine qHg hC ?_;rw[hcB])|wp_step)
 refine wpAny_onRaise ?_;rw[show ∀(a b:String)(n:Nat),Bind.check ⟨.positional,"*",B,.self,[⟨"args",.varPos,false⟩]⟩ a b n (qFa (fun x=>x.fst) ({ pos:=qH6 e::rest }:Args).kw)=pure () from
  fun a b n=>check_star_args _ _ _ _ _ _]
 exact wpAny_pure hq
theorem zM9(F:qI3 B newId initId bmB)(hB:bm.contains (.type B)=true)(hA:bm.contains (.type "AttributeError")=false)(hN:bm.contains (.type "NameError")=false){rest:List Value}{Q:Fin->qGw->Prop}
  (hC:h.get? C=some (excClassObj nm q C N bs bm hdct sn sub ab col dd k0 k1 k2 k3 k5 newId)) (hi:qGe (model prog w) h (typeLookup (.ref C) "__init__") (some (.builtin initId)))
  (hq:∀h' e,qI4 h h' e (.ref C) rest->h.objs.size<=e->Q (.done (.ret (.ref e))) ⟨h',g,d,t,os⟩) (hrest:rest.length<=sizeLine) :
  wpAny (model prog w) A (Builtin.«type.__call__» ⟨.ref C::rest,[]⟩) Q E ⟨h,g,d,t,os⟩:=by
 repeat (first|with_reducible refine qH7 hC ?_|with_reducible refine wpAny_madeBy_exc hC ?_|wp_step)
 refine codeAny_call_builtin_code (qIp _ F.quiet) (zMT F hB hC ?_);refine zP6 F hB hA hN hC ?_ hrest;show wpAny _ _ _ _ _ _;have hC₁:=qGx { cls:=.ref C,data:=.fields #[.ref h.objs.size,.none,.none,.none,.bool false,.none] }
  (qGx { cls:=.type "tuple",data:=.seq rest.toArray } hC)
 have hi₁:=hi.keeps (h':=(h.push { cls:=.type "tuple",data:=.seq rest.toArray }).push { cls:=.ref C,data:=.fields #[.ref h.objs.size,.none,.none,.none,.bool false,.none] }) fun b o e=>qGx _ (qGx _ e)
 have hget:((h.push { cls:=.type "tuple",data:=.seq rest.toArray }).push
   { cls:=.ref C,data:=.fields #[.ref h.objs.size,.none,.none,.none,.bool false,.none] }).get? (h.objs.size+1)=some
   { cls:=.ref C,data:=.fields #[.ref h.objs.size,.none,.none,.none,.bool false,.none] }:=by heap_get
 have hcC:(qH6 C::bm).contains (.ref C)=true:=by simp
 unfold isInstance
 repeat (first|with_reducible refine qH7 hget ?_|(with_reducible refine qHg hC₁ ?_;rw[hcC])|wp_step)
 show wpAny _ _ (typeLookup (.ref C) _) _ _ _;refine hi₁.here ?_;refine wpAny_holding (wpAny_bind (wpAny_of_eq (F.init.bind _) ?_));refine wpAny_bind (wpAny_call (codeAny_call_builtin F.init.plain F.initEntry (zKU F hB hC₁ hget rfl ?_)))
 wp_walk
 refine hq _ _ ⟨fun b o hb=>?_,qHk (qD4 _),h.objs.size+2,?_,qHk (by lia),?_⟩ (qD4 _)
 ·rw[qH5 _ _ (qBn (qCq (qGy hb)))];exact qGx _ (qGx _ (qGx _ hb))
 ·rw[qHc _ (qGx _ hget) rfl];simp only[qHi];rfl
 ·rw[qH5 _ _ (show h.objs.size+1≠h.objs.size+2 by lia)];exact Heap.get?_push_at (by simp only[qHi]) rfl
theorem callX(F:qI3 B newId initId bmB)(hB:bm.contains (.type B)=true)(hA:bm.contains (.type "AttributeError")=false)(hN:bm.contains (.type "NameError")=false){rest:List Value}{Q:Value->qGw->Prop}
  (hC:h.get? C=some (excClassObj nm q C N bs bm hdct sn sub ab col dd k0 k1 k2 k3 k5 newId)) (hi:qGe (model prog w) h (typeLookup (.ref C) "__init__") (some (.builtin initId)))
  (hq:∀h' e,qI4 h h' e (.ref C) rest->h.objs.size<=e->Q (.ref e) ⟨h',g,d,t,os⟩) (hrest:rest.length<=sizeLine) :
  wpAny (model prog w) A (call (.ref C) rest) Q E ⟨h,g,d,t,os⟩:=by
 have f1:=tc_lookup;have f2:=tc_bind (.ref C);have hT:(⟨h,g,d,t,os⟩:qGw).TypeIs (.ref C) "type":=⟨_,hC,rfl⟩
 refine wpAny_call (codeAny_of_tree ?_);show wpAny _ _ (callAny (.ref C) _) _ _ _
 repeat (any_goals (first|assumption|with_reducible refine qH7 hC ?_|wp_step))
 refine⟨rfl,?_⟩;refine codeAny_call_builtin_at (qIp _ (by decide +kernel)) entry_typeCall (wpAny_check_type_call_sub hC (zM9 (hrest:=hrest) F hB hA hN hC hi fun h' e hm hz=>?_));exact hq h' e hm hz
end
section
variable{M:Model}{A:qH1}{E:Value->qGw->Prop}{s:qGw}{env:Env}
variable{nm q:Str}{C N:Addr}{bs bm:List Value}{hdct:Bool}{sn:List Str}{sub:List Value}{ab:Bool}{col:Option Bool}{dd:Option Addr}{k0 k1 k2 k3 k5:Option Value}{newId:String}
theorem raiseX{x:Sem Value}{Q:Flow->qGw->Prop}(hh:A.handled=none)
  (h:wpAny M A x (fun v s₁=>∃e t di nm q C N bs bm hdct sn sub ab col dd k0 k1 k2 k3 k5 newId,v=.ref e/\s₁.heap.get? C=some (excClassObj nm q C N bs bm hdct sn sub ab col dd k0 k1 k2 k3 k5 newId)/\bm.contains (.type "BaseException")=true /\
   s₁.heap.get? e=some { cls:=.ref C,dict:=di,data:=.fields #[.ref t,.none,.none,.none,.bool false,.none] }/\E (.ref e) s₁) E s) :
  wpAny M A (raiseStmt env (some x) none) Q E s:=by
 unfold raiseStmt;refine wpAny_bind (wpAny_mono h (fun v s₁ h₁=>?_) fun _ _ x=>x);obtain⟨e,t,di,nm,q,C,N,bs,bm,hdct,sn,sub,ab,col,dd,k0,k1,k2,k3,k5,newId,rfl,hC,hbase,he,hE⟩:=h₁;have hcB:(qH6 C::bm).contains (.type "BaseException")=true:=by rw[qBh,hbase,qDz]
 obtain⟨hp,g,d,tk,os⟩:=s₁
 repeat (first|with_reducible refine qH7 he ?_|with_reducible refine qH7 hC ?_|(with_reducible refine qHg hC ?_;rw[hcB])|wp_step)
 exact wpAny_raiseNew_none hh hE
theorem RaiseX{x:Expr}{pos:Pos}{Q:Flow->qGw->Prop}(hh:A.handled=none)
  (h:wpAny M A (eval x env) (fun v s₁=>∃e t di nm q C N bs bm hdct sn sub ab col dd k0 k1 k2 k3 k5 newId,v=.ref e/\s₁.heap.get? C=some (excClassObj nm q C N bs bm hdct sn sub ab col dd k0 k1 k2 k3 k5 newId)/\bm.contains (.type "BaseException")=true /\
   s₁.heap.get? e=some { cls:=.ref C,dict:=di,data:=.fields #[.ref t,.none,.none,.none,.bool false,.none] }/\E (.ref e) s₁) E s) :
  wpAny M A (exec (.Raise (some x) none pos) env) Q E s:=by
 rw[arm_exec_Raise]
 first
  |exact wpAny_bind (wpAny_standAt (raiseX hh (wpAny_bind (wpAny_mono h (fun v s₁ h₁=>wpAny_bind (wpAny_standAt (wpAny_pure h₁))) fun _ _ x=>x))))
  |(simp only[evalOpt,Option.map];exact wpAny_bind (wpAny_standAt (raiseX hh (wpAny_bind (wpAny_mono h (fun v s₁ h₁=>wpAny_bind (wpAny_standAt (wpAny_pure h₁))) fun _ _ x=>x)))))
  |(show wpAny M A (do standAt pos;raiseStmt env (some (do let v <- eval x env;standAt pos;pure v)) none) Q E s;exact wpAny_bind (wpAny_standAt (raiseX hh (wpAny_bind (wpAny_mono h (fun v s₁ h₁=>wpAny_bind (wpAny_standAt (wpAny_pure h₁))) fun _ _ x=>x)))))
end
section
open PySem.W
variable{prog:qGz}{w:World}{A:qH1}{E:Value->qGw->Prop}{K:Frag}{x C:Addr}{ox:Obj}{od:Option Obj}{name:Str}{expr fill:Bool}{h:Heap}{g:Array qHv}{d:Drawn}{t:Nat}{os:OsState}
end
end PySem.Xc
namespace L2
open PySem PySem.Spec PyProof.Rows
def XN(e:Addr)(C:Value)(d:Option Addr)(h:Heap):Prop:=∃t1,h.get? e=some { cls:=C,dict:=d,data:=.fields #[.ref t1,.none,.none,.none,.bool false,.none] }
abbrev xn(e:Addr)(C:Value)(d:Option Addr):HO:=.ext (XN e C d)
theorem zSL{e:Addr}{C:Value}{d:Option Addr}(h1 h2:Heap)(x:XN e C d h1)(k:∀o,h1.get? e=some o->h2.get? e=some o):XN e C d h2:=let⟨t1,a⟩:=x;⟨t1,k _ a⟩
theorem zSK{e:Addr}{C:Value}{d:Option Addr}(h1 h2:Heap)(x:XO e C d h1)(k:∀o,h1.get? e=some o->h2.get? e=some o):XO e C d h2:=let⟨oe,vs,a,r⟩:=x;⟨oe,vs,k _ a,r⟩
theorem zYE{P:qGz}{w:World}{H:Hp}{h:Heap}{e:Addr}{C:Value}{d:Option Addr}(x:XN e C d h):ObjOk P w H h e (xn e C d):=⟨x,let⟨t1,a⟩:=x;⟨_,a⟩,zSL⟩
theorem zYD{P:qGz}{w:World}{H:Hp}{h:Heap}{e:Addr}{C:Value}{d:Option Addr}(x:XO e C d h):ObjOk P w H h e (xo e C d):=⟨x,let⟨oe,vs,a,_⟩:=x;⟨_,a⟩,zSK⟩
section
variable{X:Cx}{pins:List (Addr×Obj)}{σ:St}{H:Hp}{s:qGw}{k:Nat}{f C:Addr}{fd:qHb}{ps:List Str}{sp:Sp}{x:Str}{p pos:Pos}{e:Expr}{es:List Expr}{t:TA}{te:TE}
def zK8(C:Addr)(t:TA):TE:=fun σ H Q=>t σ H fun vs H1=>vs.length<=sizeLine/\∀e,H1 e=none->Q (.ref e) (upd H1 e (xn e (.ref C) none))
theorem Inv.madeX{h':Heap}{e:Addr}{us:List Value}(I:Inv X pins σ H s)(m:qI4 s.heap h' e (.ref C) us)(hs:s.heap.objs.size<=e):H e=none/\Inv X pins σ (upd H e (xn e (.ref C) none)) { s with heap:=h' }:=by
 obtain⟨t1,h1,_⟩:=m.there;exact⟨I.hok.fresh hs,I.laid (t':=s.toks) m.keeps hs (zYE ⟨t1,h1⟩)⟩
theorem zMC{Q:VK}{us:List Value}{vs:List V}(hc:PySem.W.xcIn X.K C=true)(hi:qB0 X.K (.ref C) "__init__" = some (some (.builtin "ValueError.__init__")))
  (I:Inv X pins σ H s) (r:Vals vs us) (hz:vs.length<=sizeLine) (h:∀e,H e=none->Q (.ref e) (upd H e (xn e (.ref C) none))):wpAny (model X.prog X.w) X.A (call (.ref C) us) (EP X pins σ Q) X.xe s:=by
 obtain⟨nm,qn,N,bs,bm,hdct,sn,sub,ab,col,dd,k0,k1,k2,k3,k5,hC,ht⟩:=PySem.W.xc_cls I.kIn hc;have hus:us.length<=sizeLine:=by rw[<- r.length];exact hz
 have key:∀h' e,qI4 s.heap h' e (.ref C) us->s.heap.objs.size<=e->EP X pins σ Q (.ref e) { s with heap:=h' }:=by
  intro h' e m hs;obtain⟨he,I2⟩:=I.madeX m hs;exact⟨.ref e,_,I2,rfl,h e he⟩
 have hK:=PySem.W.looks_findIn (M:=model X.prog X.w) I.kIn hi;obtain⟨hh,g,d,tk,os⟩:=s;exact Xc.callX PySem.F.excBase_ValueError (PySem.W.exc_con ht (by decide)) (PySem.W.exc_con ht (by decide)) (PySem.W.exc_con ht (by decide)) hC hK key hus
theorem zNY(hc:PySem.W.xcIn X.K C=true)(hi:qB0 X.K (.ref C) "__init__" = some (some (.builtin "ValueError.__init__")))(hg:Gl X x)(hm:X.mg x=some (.ref C))(hk:qBe X.K (.ref C)=true)
  (ha:PA X (e::es) t) (hdb:(x==("__debug__":Str))=false:=by decide) (he:starEach (e::es) X.env=(false,eval e X.env)::starEach es X.env:=by rfl) (hpl:(backTo pos (starEach es X.env)).any (·.1)=false:=by rfl) :
  PE X (.Call (.Name x p) (e::es) [] pos) (zK8 C t):=by
 intro pins s σ H Q I h;refine qHq (zKM I hg hm ?_ hdb);refine qEk (h₀:=X.base) I.ok.mod.kin hk (thn (ha pos pins s σ H _ I h) fun us s1 ⟨vs,H1,I1,r,z,q⟩=>⟨I1.kIn,?_⟩) he hpl;exact zMC hc hi I1 r z q
theorem Inv.xn{e:Addr}{d:Option Addr}{Cv:Value}(I:Inv X pins σ H s)(h:H e=some (xn e Cv d)):XN e Cv d s.heap:=(I.hok e _ h).1
theorem XN.xo{h:Heap}{e:Addr}{d:Option Addr}{Cv:Value}(x:XN e Cv d h):XO e Cv d h:=let⟨t1,a⟩:=x;⟨_,_,a,rfl,rfl,rfl,by simp⟩
theorem Inv.raised{e:Addr}{d:Option Addr}(I:Inv X pins σ H s)(h:H e=some (L2.xn e (.ref C) d))(E:XK)(q:E (.ref e) d (upd H e (xo e (.ref C) d))):XP X pins σ E (.ref e) s:=by
 have x:=I.xn h;obtain⟨t1,a⟩:=id x;have I':Inv X pins σ (upd H e (xo e (.ref C) d)) s:=I.write (t':=s.toks) (h':=s.heap) (e:=e) (by rw[h];trivial) (.inl rfl) (fun _ _ _ q=>q) ⟨_,a⟩ (zYD x.xo);exact⟨s.heap.objs.size,e,.ref C,d,_,rfl,I',⟨zAJ,.inl ⟨_,_,a,rfl,rfl,rfl,rfl⟩⟩,I.sz,qA6 _,I.pinlt,q⟩
def Flies(X:Cx)(E:XK):Prop:=∀(pins:List (Addr×Obj))(σ:St)(x:Value)(s':qGw),XP X pins σ E x s'->X.xe x s'
theorem Flies.passes{E:XK}(h:Flies X E):zM8 (CXe X.prog X.w) X E:=fun pins σ H s x s' I q=>h pins σ x s' (I.flown q)
def zRG(K:qA1)(E:XK)(te:TE):TS:=fun _ σ H=>te σ H fun v H1=>∃e C d,v=.ref e/\H1 e=some (L2.xn e (.ref C) d)/\PySem.W.xcIn K C=true/\E (.ref e) d (upd H1 e (xo e (.ref C) d))
theorem zQD{E:XK}(he:PE X e te)(hf:Flies X E)(hc:X.calm=true):PS X (.Raise (some e) none pos) (zRG X.K E te):=by
 intro pins s σ H D I h;refine Xc.RaiseX (I.ok.hd hc) (thn (he pins s σ H _ I h) fun v s1 z0=>?_);obtain⟨y,H1,I1,ry,a,C,d,ey,ha,hx,q⟩:=z0;subst ey;cases ry;obtain⟨t1,hg⟩:=I1.xn ha;obtain⟨nm,qn,N,bs,bm,hdct,sn,sub,ab,col,dd,k0,k1,k2,k3,k5,hC,ht⟩:=PySem.W.xc_cls I1.kIn hx;exact⟨a,t1,d,nm,qn,C,N,bs,bm,hdct,sn,sub,ab,col,dd,k0,k1,k2,k3,k5,_,rfl,hC,PySem.W.exc_con ht (by decide),hg,hf pins σ _ _ (I1.raised ha E q)⟩
structure XSet(K:qA1)(C:Addr)(f:Str):Prop where
 st:qB0 K (.ref C) "__setattr__" = some (some (.builtin "object.__setattr__"))
 ov:PySem.W.excOver K C=true
 tk:PySem.W.takerIn K C f=some none
 hd:(qEn K C).any (·.hasDict)=true
end
section
variable{X:Cx}{pins:List (Addr×Obj)}{σ:St}{H:Hp}{s:qGw}{C e d:Addr}{f:Str}{pos:Pos}{ta:TE}
def isX(H:Hp)(e C:Addr)(d:Option Addr):Prop:=H e=some (xn e (.ref C) d)\/H e=some (xo e (.ref C) d)
end
end L2
namespace PySem.Xc
open PySem PySem.W
section
variable{prog:qGz}{w:World}{A:qH1}{E:Value->qGw->Prop}{K:Frag}{x C:Addr}{ox:Obj}{od:Option Obj}{name:Str}{expr fill:Bool}{h:Heap}{g:Array qHv}{d:Drawn}{t:Nat}{os:OsState}
end
structure XIs(K:Frag)(C:Addr):Prop where
 xc:xcIn K C=true
 ga:findIn K (.ref C) "__getattribute__" = some (some (.builtin "BaseException.__getattribute__"))
 gg:findIn K (.ref C) "__getattr__" = some none
 hd:hasDictIn K C=true
 ca:findIn K (.ref C) "__class__" = some (some (.builtin "object.__class__"))
 cg:specialIn K (.builtin "object.__class__") "__get__" = some (some (.builtin "getset_descriptor.__get__"))
 ct:takesIn K (.builtin "object.__class__")=some true
 mo:mroIn K C (.type "object")=some true
end PySem.Xc
namespace Att
open PySem PySem.W PySem.Calls PyProof.Rows
theorem zSM{ns:List Int}(h:qJc (ns.map qJb)<=2 ^ 20):∀i∈ns,i.natAbs.log2<2 ^ 20:=by
 induction ns with
 |nil=>intro i hi;cases hi
 |cons n r ih=>
  rw[qAg,qJc]at h;intro i hi
  rcases qAk.mp hi with rfl|hi
  ·rw[qJn]at h
   split at h
   ·rename_i z
    have:i=0:=beq_iff_eq.mp z
    subst this
    decide
   ·lia
  ·exact ih (by lia) i hi
theorem attach_callW{l:OpenLaw}{n:Nat}{q:qGz}{loose:List Str}{XP:(Str->Option Value)->Heap->Prop}{YP:World->Heap->Prop}{d:DefRec}
  (hn:l.most=some n) (hdf:d.params.defaults=[])
  (call:∀(w:World)(s₀ s₁:qGw)(mg mb:Str->Option Value)(fa:Addr)(o:Obj)(pm cd doc:Value)(a:Addr)(vs:List Value)(ns:List Int),
   Ground q loose [] XP w s₀ mg mb s₁.heap->YP w s₁.heap ->
   s₁.heap.get? fa=some o->o.data=.func (docDef d.name d.params d.body d.scope pm cd doc)->s₁.heap.CodeRec cd d.name->mg d.name=some (.ref fa) ->
   s₁.heap.get? a=some { cls:=.type "list",data:=.seq vs.toArray }->qIj vs ns->ns.length<=n->(∀i∈ns,i.natAbs.log2<2 ^ 20)->s₁.gens=#[] ->
   qId (model l.prog w) qIl (.call (.ref fa) ⟨[.ref a],[]⟩) (fun r s'=>r=.ok (.ret (.bool true))/\OldK s₁.heap s'.heap/\s'.os=s₁.os/\qI6 s'.gens) s₁) :
  WalkO q loose XP YP l.row.toRowW d [] (fun f vs=>qEy f vs):=by
 intro w s₀ s₁ mg mb G Y fa o pm cd doc dV kV ho hd hcd hD hmg hg args vals as hpre hlay hrd hwl hlo;obtain rfl:dV=.none:=Dflts.none hD hdf;obtain rfl:kV=.none:=Dflts.noKw hD;obtain⟨a,vs,ns,rfl,rfl,hobj,hints,hlen⟩:=zNE hn hpre hwl;have hw:∀i∈ns,i.natAbs.log2<2 ^ 20:=by
  have hl:qJ1 [WData.list (ns.map qJb)]=true:=hlay;simp only[qJ1,qC6,List.all_nil,qDj,WData.layable,qB5,decide_eq_true_eq]at hl;exact zSM (by have:=hl.2;rw[qJn]at this;exact this)
 refine enter_call (codeAny_mono (call w s₀ s₁ mg mb fa o pm cd doc a vs ns G Y ho (fd_plain hd) hcd hmg hobj hints hlen hw hg) fun r s' hq=>?_);obtain⟨rfl,h2,h3,h4⟩:=hq;exact⟨.inl ⟨.bool true,.bool true,[],rfl,fun _=>rfl,.bool true,zNT l _,fun _=>⟨qC7,fun _ hm=>(nomatch hm)⟩⟩,h2,h3,h4⟩
end Att
namespace L2
open PySem PySem.Spec PyProof.Rows
def HasX(P:qGz)(w:World)(K:qA1)(mg:Str->Option Value)(base:Heap)(x:Str)(k:Nat)(ps:List Str)(sp:Sp):Prop:=
 ∃f fd,FnOk P w K mg base (CXe P w) k f fd ps sp/\mg x=some (.ref f)/\qBe K (.ref f)=true/\Binds K fd ps []
section
variable{P:qGz}{w:World}{K:qA1}{mg:Str->Option Value}{base:Heap}{x:Str}{k:Nat}{ps N:List Str}{sp sp':Sp}{st:Stmt}
theorem Fun.okX{y qual:Str}{f:Addr}{fd:qHb}(F:Fun K y qual st f fd)(S:FnScope N ps (zA7 st))(len:∀vs H Q E,sp vs H Q E->vs.length=ps.length)
  (hbody:∀(cdv:Value)(A:qH1)(outer:List Env)(s:qGw)(H:Hp)(vs:List V)(Q:VK)(E:XK),Room k (A.deeper (envOfC qual (zA7 st) s.heap.objs.size f cdv))->sp vs H Q E ->
   ∃t,PSs (cxOf (CXe P w) P w K mg base N qual (zA7 st) f cdv A outer s H E) (zB7 st) t/\t { nx:=fun _ H'=>Q .non H',rt:=Q } (start N vs) H):FnOk P w K mg base (CXe P w) (k+1) f fd ps sp:=by
 obtain⟨oc,od,kV,doc,pm,an,cdv,ct,osl,rfl,lk,hcd⟩:=F.ex;exact zWR lk hcd S len fun A outer s H vs Q E hr hsp=>hbody cdv A outer s H vs Q E hr hsp
theorem Def.okX(D:Def K mg x st)(S:FnScope N ps (zA7 st))
  (hb:∀(kV doc pm:Value)(an:Option Addr)(cdv ct:Value)(us:List Value),us.length=ps.length->qIo (qBa x x (zCR st) (zB7 st) (zA7 st) .none kV doc pm an cdv ct) ⟨us,[]⟩=pure (ps.zip us))
  (len:∀vs H Q E,sp vs H Q E->vs.length=ps.length)
  (hbody:∀(f:Addr)(cdv:Value)(A:qH1)(outer:List Env)(s:qGw)(H:Hp)(vs:List V)(Q:VK)(E:XK),Room k (A.deeper (envOfC x (zA7 st) s.heap.objs.size f cdv))->sp vs H Q E ->
   ∃t,PSs (cxOf (CXe P w) P w K mg base N x (zA7 st) f cdv A outer s H E) (zB7 st) t/\t { nx:=fun _ H'=>Q .non H',rt:=Q } (start N vs) H):HasX P w K mg base x (k+1) ps sp:=by
 obtain⟨f,fd,F,m⟩:=D;exact⟨f,fd,F.okX S len (fun cdv A outer s H vs Q E hr h=>hbody f cdv A outer s H vs Q E hr h),m,F.kp,F.binds hb⟩
theorem zEP{qual:Str}{scope:Scope}{f:Addr}{cd:Value}{A:qH1}{outer:List Env}{s:qGw}{H:Hp}{E:XK}:Flies (cxOf (CXe P w) P w K mg base N qual scope f cd A outer s H E) E:=fun _ _ _ _ h=>zUK (fun _ _ _ z=>z) h
end
section
variable{X:Cx}{x:Str}{j k:Nat}{ps:List Str}{sp:Sp}{e:Expr}{es:List Expr}{t:TA}{p pos:Pos}{E:XK}
theorem zS0:Flies X E0:=fun _ _ _ _ z0=>by
 obtain⟨_,_,_,_,_,_,_,_,_,_,_,h⟩:=z0;exact h.elim
theorem zJ6(h:HasX X.prog X.w X.K X.mg X.base x j ps sp)(hjk:j<=k)(hr:Room k X.A)(hf:Flies X E)(hg:Gl X x)(ha:PA X (e::es) t)(hdb:(x==("__debug__":Str))=false:=by decide)
  (he:starEach (e::es) X.env=(false,eval e X.env)::starEach es X.env:=by rfl) (hpl:(backTo pos (starEach es X.env)).any (·.1)=false:=by rfl):PE X (.Call (.Name x p) (e::es) [] pos) (zKA sp [] E t):=by
 obtain⟨f,fd,G,m,kp,b⟩:=h;exact zNZ G (hr.mono hjk) hg m kp b .nil hf.passes ha hdb he hpl
end
def MulOk(i j:Int):Prop:=((-(2 ^ 64)<i/\i<2 ^ 64)\/(-(2 ^ 64)<j/\j<2 ^ 64))\/i.natAbs.log2+j.natAbs.log2<=67108864
theorem zPC(i:Int):qHn i<=i.natAbs.log2+1:=by
 unfold qHn
 split<;>lia
theorem MulOk.ok{i j:Int}(h:MulOk i j):IntMulOk i j:=by
 rcases h with h|h
 ·exact CMul.ok h
 ·unfold IntMulOk;have h1:=zPC i;have h2:=zPC j;have h3:qIh ((qHn i:Int)+(qHn j:Int))=false:=by
   unfold qIh
   have:(bitsLine:Int)=134217728:=by decide
   rw[this];simp only[gt_iff_lt,decide_eq_false_iff_not,Int.not_lt]
   lia
  rw[h3,qCa];exact qAd
section
variable{X:Cx}
noncomputable def zVD:R2:=fun x y H Q=>match x,y with
 |.int i,.int j=>MulOk i j/\Q (.int (i*j)) H
 |_,_=>False
theorem zT8:OpR X (binaryOp .Mult) (rI MulOk fun i j=>.int (i*j)):=opI fun _ _ _ _ _ _ _ hc q=>mul_int q hc.ok
theorem zCG:OpR X (binaryOp .Mult) zVD:=by
 intro pins s σ H x y v u Q I rx ry h;cases x<;>cases y<;>first
  |exact zT8 pins s σ H _ _ v u Q I rx ry ⟨_,_,rfl,rfl,h.1,h.2⟩
  |exact qA5 h
noncomputable def zVH:R2:=fun x y H Q=>match x,y with
 |.int i,.int j=>(0<j/\j<1000000000000000000000000)/\Q (.int (i/j)) H
 |_,_=>False
theorem log2_lt{n:Nat}(h:n<1000000000000000000000000):n.log2<9000:=by
 by_cases z:n=0
 ·subst z;decide
 ·have h2:n<2 ^ 80:=by lia
  have:=(Nat.log2_lt z).mpr h2
  lia
theorem zT9:OpR X (binaryOp .FloorDiv) (rI (fun _ j=>0<j/\j<1000000000000000000000000) fun i j=>.int (i/j)):=opI fun i j _ _ _ _ _ hc q=>by
 have h1:(0:Int)<j:=hc.1;have h2:j<1000000000000000000000000:=hc.2;exact floordiv_int (by lia) (by rw[Int.fdiv_eq_ediv_of_nonneg i (by lia)];exact q) (.inl (PyProof.noPylong_of_log2 (log2_lt (by lia))))
theorem zN1:OpR X (binaryOp .FloorDiv) zVH:=by
 intro pins s σ H x y v u Q I rx ry h;cases x<;>cases y<;>first
  |exact zT9 pins s σ H _ _ v u Q I rx ry ⟨_,_,rfl,rfl,h.1,h.2⟩
  |exact qA5 h
end
noncomputable def del(H:Hp)(a:Addr):Hp:=fun b=>if b=a then none else H b
theorem zS6{H:Hp}{a b:Addr}(h:b≠a):del H a b=H b:=by unfold del;rw[if_neg h]
abbrev cel(co:Obj):HO:=.frz co (.ext fun _=>True)
section
variable{P:qGz}{w:World}{H H':Hp}{h h':Heap}{a:Addr}{co:Obj}{fs:List Addr}
end
abbrev lamO(q:Str)(params:Arguments)(body:Expr)(scope:Scope)(clos:List (Str×Addr))(pm cdv ctv:Value):Obj:=
 { cls:=.type "function",data:=.func (PySem.W.kla_fn "<lambda>" q params body scope clos pm cdv ctv) }
section
variable{X:Cx}
end
section
variable{X:Cx}{k:Nat}{f cl:Addr}{fd:qHb}{ps:List Str}{sp:Sp}{x nm:Str}{p pos:Pos}{e:Expr}{es:List Expr}{t:TA}{i:Nat}
end
def cxLam(X:Cx)(N:List Str)(q:Str)(scope:Scope)(f:Addr)(cd:Value)(clos:List (Str×Addr))(s:qGw)(H:Hp):Cx where
 prog:=X.prog
 w:=X.w
 K:=X.K
 mg:=X.mg
 base:=X.base
 A:=X.A.deeper (qF3 q scope s.heap.objs.size f cd clos)
 N:=N
 s₀:=s
 H₀:=H
 env:=qF3 q scope s.heap.objs.size f cd clos
 outer:=X.stack
 stack:=qF3 q scope s.heap.objs.size f cd clos::X.stack
 ex:=[]
 fn:=fun _=>false
 calm:=true
 pn:=[]
 xe:=fun _ _=>False
section
variable{X:Cx}{pins:List (Addr×Obj)}{σ:St}{H:Hp}{s:qGw}{Q:VK}{us:List Value}{vs:List V}{f cl:Addr}{q nm:Str}{params:Arguments}{body:Expr}{scope:Scope}{pm cdv ctv:Value}{co:Obj}{val:Value}{v:V}{ps:List Str}
end
section
variable{X:Cx}{i:Nat}{x:Str}{p pos:Pos}{e:Expr}{es:List Expr}{t:TA}{r:Addr->List V->Hp->VK->Prop}
end
end L2
namespace L3
open PySem PySem.Spec
open L2 hiding Rep RepL
open Mi (Dt Xn R okR zA2 optR bindR_ok zA4 zAA zA8 zA9 Rh Sl Ro EM TM AM FM IM SM Tg Out zAR zAM zAV full frz frz1 frzAt)
section
class Kc where
 K:qA1
variable[Kc]
noncomputable def clK(K:qA1)(c:Str):Option Addr:=match qBf K qH2 c with
 |some (some (.ref C))=>some C
 |_=>none
def KTP(K:qA1)(a:Addr)(xs:List V):Prop:=xs≠[]/\∃(o:Obj)(its:Array Value)(n:Nat),K.lookup a=some o/\o.cls=.type "tuple" /\ o.data=.seq its n/\its.size<=sizeLine/\Vals xs its.toList
theorem KTP.t{K:qA1}{H:Hp}{a:Addr}{xs:List V}(h:KTP K a xs):SqT K H a xs:=.inr h.2
def SqR(K:qA1)(H:Hp)(a:Addr)(xs:List V):Prop:=SqL K H a xs\/KTP K a xs
theorem SqR.old{K:qA1}{H:Hp}{a:Addr}{xs:List V}(h:SqR K H a xs):SqL K H a xs\/SqT K H a xs:=h.imp_right fun z=>z.t
theorem zJ2{K:qA1}{H H':Hp}{a:Addr}{xs:List V}(e:Same H H')(h:SqT K H a xs):SqT K H' a xs:=by
 rcases h with(h|⟨o,h⟩)|h
 ·exact .inl (.inl (e _ _ h))
 ·exact .inl (.inr ⟨o,e _ _ h⟩)
 ·exact .inr h
theorem zEK{K:qA1}{H H':Hp}{a:Addr}{xs:List V}(e:Same H H')(h:SqR K H a xs):SqR K H' a xs:=h.imp_left fun z=>e.seq z
noncomputable def svV:Mi.Sv->V
 |.i n=>.int n
 |.s x=>.str x
noncomputable def swV:Mi.Sw->V
 |.non=>.non
 |.bl b=>.bl b
 |.int i=>.int i
 |.str x=>.str x
noncomputable def zU1:Expr->Option (Arguments×Expr×Scope×Str)
 |.Call _ [_,.Lambda ps b sc _] _ _=>match sc.names.find? fun p=>p.2==.free with
  |some (x,_)=>some (ps,b,sc,x)
  |none=>none
 |_=>none
def zXY:Stmt->Option (Arguments×Expr×Scope×Str)
 |.Return (some e) _=>zU1 e
 |.Assign _ e _=>zU1 e
 |.If _ (_::.Return (some e) _::_) _ _=>zU1 e
 |_=>none
def zYH(l:List Stmt):Option (Arguments×Expr×Scope×Str):=l.findSome? zXY
def lamK(K:qA1)(x:Str):Option (Arguments×Expr×Scope×Str):=match qBf K qH2 x with
 |some (some (.ref f))=>match K.lookup f with
  |some o=>match o.data with
   |.func fd=>match fd.body with
    |.stmts b=>zYH b
    |_=>none
   |_=>none
  |none=>none
 |_=>none
noncomputable def lamQ(x:Str):Str:=x ++ ".<locals>." ++ "<lambda>"
noncomputable def codP(K:qA1)(x:Str):Option Addr:=match qBf K qH2 x with
 |some (some (.ref f))=>match K.lookup f with
  |some o=>match o.data with
   |.func fd=>match fd.code with
    |.ref c=>match K.lookup c with
     |some o=>match o.data with
      |.fields vs=>match(vs[11]?:Option Value)with
       |some (.ref P)=>some P
       |_=>none
      |_=>none
     |none=>none
    |_=>none
   |_=>none
  |none=>none
 |_=>none
noncomputable def makers:List Str:=["turned_at","exchanged_at","pivoted"]
def tabK(K:qA1):Hp:=fun P=>(makers.find? fun x=>codP K x==some P&&(lamK K x).isSome).map fun x=>.lam (lamQ x)
mutual
def Rep(H:Hp):Dt->V->Prop
 |.non,v=>v=.non
 |.bl b,v=>v=.bl b
 |.int i,v=>v=.int i
 |.str x,v=>v=.str x
 |.lst ds,v=>∃a xs,v=.ref a/\H a=some (.lst xs)/\RepL H ds xs
 |.tup ds,v=>∃a xs,v=.ref a/\H a=some (.tup xs)/\RepL H ds xs
 |.scr ns,v=>∃a,v=.ref a/\SqR Kc.K H a (ns.map V.int)
 |.exc c f d,v=>∃e C da,v=.ref e/\isX H e C da/\clK Kc.K c=some C/\((da=none/\f = "")\/∃a gs w,da=some a/\H a=some (.xd gs)/\gs.lookup f=some w/\Rep H d w)
 |.ins c fs,v=>∃a C dx,v=.ref a/\clK Kc.K c=some C/\H a=some (.ins C dx (fs.map fun p=>(p.1,svV p.2)))
 |.dct kvs,v=>∃a,v=.ref a/\H a=some (.dK (kvs.map fun p=>(p.1,swV p.2)))
 |.fn x d,v=>∃f,v=.ref f/\∃L cl pm cdv ctv co val w,lamK Kc.K x=some L/\H f=some (.fn (lamO (lamQ x) L.1 L.2.1 L.2.2.1 [(L.2.2.2,cl)] pm cdv ctv) (lamQ x))/\H cl=some (cel co)/\co.data=.cell (some val)/\RelV w val/\Rep H d w
def RepL(H:Hp):List Dt->List V->Prop
 |[],xs=>xs=[]
 |d::r,xs=>∃x q,xs=x::q/\Rep H d x/\RepL H r q
end
mutual
theorem Rep.mono{H H':Hp}(s:Same H H'):∀{d:Dt}{v:V},Rep H d v->Rep H' d v
 |.non,_,h=>h
 |.bl _,_,h=>h
 |.int _,_,h=>h
 |.str _,_,h=>h
 |.lst _,_,h=>by obtain⟨a,xs,e,e',r⟩:=h;exact⟨a,xs,e,s _ _ e',RepL.mono s r⟩
 |.tup _,_,h=>by obtain⟨a,xs,e,e',r⟩:=h;exact⟨a,xs,e,s _ _ e',RepL.mono s r⟩
 |.scr _,_,h=>by obtain⟨a,e,e'⟩:=h;exact⟨a,e,zEK s e'⟩
 |.exc _ _ _,_,h=>by
  obtain⟨a,C,da,e,e',hc,r⟩:=h;refine⟨a,C,da,e,e'.imp (fun z=>s _ _ z) fun z=>s _ _ z,hc,r.imp (fun z=>z) ?_⟩
  rintro⟨b,gs,w,h1,h2,h3,h4⟩
  exact⟨b,gs,w,h1,s _ _ h2,h3,Rep.mono s h4⟩
 |.ins _ _,_,h=>by obtain⟨a,C,dx,e,hc,h1⟩:=h;exact⟨a,C,dx,e,hc,s _ _ h1⟩
 |.dct _,_,h=>by obtain⟨a,e,h1⟩:=h;exact⟨a,e,s _ _ h1⟩
 |.fn _ _,_,h=>by obtain⟨f,e,L,cl,pm,cdv,ctv,co,val,w,h1,h2,h3,h4,h5,h6⟩:=h;exact⟨f,e,L,cl,pm,cdv,ctv,co,val,w,h1,s _ _ h2,s _ _ h3,h4,h5,Rep.mono s h6⟩
theorem RepL.mono{H H':Hp}(s:Same H H'):∀{ds:List Dt}{xs:List V},RepL H ds xs->RepL H' ds xs
 |[],_,h=>h
 |_::_,_,h=>by obtain⟨x,q,e,r,t⟩:=h;exact⟨x,q,e,Rep.mono s r,RepL.mono s t⟩
end
theorem RepL.length{H:Hp}:∀{ds:List Dt}{xs:List V},RepL H ds xs->xs.length=ds.length
 |[],_,h=>by cases h;rfl
 |_::_,_,h=>by obtain⟨x,q,e,r,t⟩:=h;subst e;simp[RepL.length t]
mutual
def conv:Dt->L2.Dat
 |.non=>.non
 |.bl b=>.bl b
 |.int i=>.int i
 |.str x=>.str x
 |.lst ds=>.lst (convL ds)
 |.tup ds=>.tup (convL ds)
 |.scr _=>.non
 |.exc _ _ _=>.non
 |.fn _ _=>.non
 |.ins _ _=>.non
 |.dct _=>.non
def convL:List Dt->List L2.Dat
 |[]=>[]
 |d::r=>conv d::convL r
end
mutual
theorem zEU:∀{d:Dt},d.dep<=40->(conv d).dep<=d.dep
 |.non,_=>qA6 _
 |.bl _,_=>qA6 _
 |.int _,_=>qA6 _
 |.str _,_=>qA6 _
 |.lst ds,h=>by rw[Dt.dep]at h ⊢;rw[conv,L2.Dat.dep];have:=conv_depL (ds:=ds) (by lia);lia
 |.tup ds,h=>by rw[Dt.dep]at h ⊢;rw[conv,L2.Dat.dep];have:=conv_depL (ds:=ds) (by lia);lia
 |.scr _,h=>by rw[Dt.dep]at h;lia
 |.exc _ _ _,h=>by rw[Dt.dep]at h;lia
 |.fn _ _,h=>by rw[Dt.dep]at h;lia
 |.ins _ _,h=>by rw[Dt.dep]at h;lia
 |.dct _,h=>by rw[Dt.dep]at h;lia
theorem conv_depL:∀{ds:List Dt},Dt.depL ds<=40->L2.Dat.depL (convL ds)<=Dt.depL ds
 |[],_=>qA6 _
 |d::r,h=>by
  rw[Dt.depL]at h ⊢;rw[convL,L2.Dat.depL];have h1:=zEU (d:=d) (by lia);have h2:=conv_depL (ds:=r) (by lia)
  lia
end
mutual
theorem zDZ{H:Hp}:∀{d:Dt}{v:V},d.dep<=40->Rep H d v->L2.Rep H (conv d) v
 |.non,_,_,h=>h
 |.bl _,_,_,h=>h
 |.int _,_,_,h=>h
 |.str _,_,_,h=>h
 |.lst ds,_,hd,h=>by obtain⟨a,xs,e,e',r⟩:=h;exact⟨a,xs,e,e',conv_repL (by rw[Dt.dep]at hd;lia) r⟩
 |.tup ds,_,hd,h=>by obtain⟨a,xs,e,e',r⟩:=h;exact⟨a,xs,e,e',conv_repL (by rw[Dt.dep]at hd;lia) r⟩
 |.scr _,_,h,_=>by rw[Dt.dep]at h;lia
 |.exc _ _ _,_,h,_=>by rw[Dt.dep]at h;lia
 |.fn _ _,_,h,_=>by rw[Dt.dep]at h;lia
 |.ins _ _,_,h,_=>by rw[Dt.dep]at h;lia
 |.dct _,_,h,_=>by rw[Dt.dep]at h;lia
theorem conv_repL{H:Hp}:∀{ds:List Dt}{xs:List V},Dt.depL ds<=40->RepL H ds xs->L2.RepL H (convL ds) xs
 |[],_,_,h=>h
 |d::r,_,hd,h=>by
  rw[Dt.depL]at hd;obtain⟨x,q,e,a,b⟩:=h;exact⟨x,q,e,zDZ (by lia) a,conv_repL (by lia) b⟩
end
mutual
theorem zKR:∀{d e:Dt},d.dep<=40->e.dep<=40->L2.Dat.eq (conv d) (conv e)=Dt.eq d e
 |.scr _,_,h,_=>by rw[Dt.dep]at h;lia
 |.exc _ _ _,_,h,_=>by rw[Dt.dep]at h;lia
 |.fn _ _,_,h,_=>by rw[Dt.dep]at h;lia
 |.ins _ _,_,h,_=>by rw[Dt.dep]at h;lia
 |.dct _,_,h,_=>by rw[Dt.dep]at h;lia
 |.lst ds,e,h,h'=>by
  rw[Dt.dep]at h;cases e with
  |lst es=>rw[Dt.dep]at h';rw[conv,conv,L2.Dat.eq,Dt.eq];exact conv_eqL (by lia) (by lia)
  |scr _=>rw[Dt.dep]at h';lia
  |exc _ _ _=>rw[Dt.dep]at h';lia
  |fn _ _=>rw[Dt.dep]at h';lia
  |ins _ _=>rw[Dt.dep]at h';lia
  |dct _=>rw[Dt.dep]at h';lia
  |_=>simp[conv,L2.Dat.eq,Dt.eq]
 |.tup ds,e,h,h'=>by
  rw[Dt.dep]at h;cases e with
  |tup es=>rw[Dt.dep]at h';rw[conv,conv,L2.Dat.eq,Dt.eq];exact conv_eqL (by lia) (by lia)
  |scr _=>rw[Dt.dep]at h';lia
  |exc _ _ _=>rw[Dt.dep]at h';lia
  |fn _ _=>rw[Dt.dep]at h';lia
  |ins _ _=>rw[Dt.dep]at h';lia
  |dct _=>rw[Dt.dep]at h';lia
  |_=>simp[conv,L2.Dat.eq,Dt.eq]
 |.non,e,_,h'=>by
  cases e with
  |scr _=>rw[Dt.dep]at h';lia
  |exc _ _ _=>rw[Dt.dep]at h';lia
  |fn _ _=>rw[Dt.dep]at h';lia
  |ins _ _=>rw[Dt.dep]at h';lia
  |dct _=>rw[Dt.dep]at h';lia
  |_=>simp[conv,L2.Dat.eq,Dt.eq]
 |.bl _,e,_,h'=>by
  cases e with
  |scr _=>rw[Dt.dep]at h';lia
  |exc _ _ _=>rw[Dt.dep]at h';lia
  |fn _ _=>rw[Dt.dep]at h';lia
  |ins _ _=>rw[Dt.dep]at h';lia
  |dct _=>rw[Dt.dep]at h';lia
  |_=>simp[conv,L2.Dat.eq,Dt.eq]
 |.int _,e,_,h'=>by
  cases e with
  |scr _=>rw[Dt.dep]at h';lia
  |exc _ _ _=>rw[Dt.dep]at h';lia
  |fn _ _=>rw[Dt.dep]at h';lia
  |ins _ _=>rw[Dt.dep]at h';lia
  |dct _=>rw[Dt.dep]at h';lia
  |_=>simp[conv,L2.Dat.eq,Dt.eq]
 |.str _,e,_,h'=>by
  cases e with
  |scr _=>rw[Dt.dep]at h';lia
  |exc _ _ _=>rw[Dt.dep]at h';lia
  |fn _ _=>rw[Dt.dep]at h';lia
  |ins _ _=>rw[Dt.dep]at h';lia
  |dct _=>rw[Dt.dep]at h';lia
  |_=>simp[conv,L2.Dat.eq,Dt.eq]
theorem conv_eqL:∀{ds es:List Dt},Dt.depL ds<=40->Dt.depL es<=40->L2.Dat.eqL (convL ds) (convL es)=Dt.eqL ds es
 |[],[],_,_=>by simp[convL,L2.Dat.eqL,Dt.eqL]
 |[],_::_,_,_=>by simp[convL,L2.Dat.eqL,Dt.eqL]
 |_::_,[],_,_=>by simp[convL,L2.Dat.eqL,Dt.eqL]
 |d::r,e::t,h,h'=>by
  rw[Dt.depL]at h h';rw[convL,convL,L2.Dat.eqL,Dt.eqL,zKR (by lia) (by lia),conv_eqL (by lia) (by lia)]
end
theorem zQ6{G:Hp}{ds:List Dt}{xs:List V}(h:RepL G ds xs):xs.length=ds.length:=RepL.length h
theorem zBP{G:Hp}:∀{ds:List Dt}{xs:List V}{q:Nat}{d:Dt}{x:V},RepL G ds xs->ds[q]?=some d->xs[q]?=some x->Rep G d x
 |[],_,_,_,_,_,h,_=>by simp at h
 |d::r,xs,0,e,y,h,h1,h2=>by
  obtain⟨x,t,rfl,a,b⟩:=h;simp at h1 h2;subst h1;subst h2;exact a
 |d::r,xs,q+1,e,y,h,h1,h2=>by
  obtain⟨x,t,rfl,a,b⟩:=h;exact zBP b (by simpa using h1) (by simpa using h2)
theorem zEE{G:Hp}:∀{ds:List Dt}{xs:List V},xs.length=ds.length->(∀(q:Nat)(d:Dt)(x:V),ds[q]?=some d->xs[q]?=some x->Rep G d x)->RepL G ds xs
 |[],[],_,_=>rfl
 |[],_::_,h,_=>by simp at h
 |_::_,[],h,_=>by simp at h
 |d::r,x::t,h,k=>⟨x,t,rfl,k 0 d x rfl rfl,zEE (by simpa using h) fun q e y h1 h2=>k (q+1) e y (by simpa using h1) (by simpa using h2)⟩
theorem zEH{n:Nat}:∀{ds:List Dt},Dt.depL ds<=n->∀{q:Nat}{d:Dt},ds[q]?=some d->d.dep<=n
 |[],_,_,_,h=>by simp at h
 |e::r,h,0,d,h1=>by simp at h1;subst h1;rw[Dt.depL]at h;lia
 |e::r,h,q+1,d,h1=>by rw[Dt.depL]at h;exact zEH (ds:=r) (by lia) (q:=q) (by simpa using h1)
theorem Rep.scalar{G G2:Hp}{d:Dt}{v:V}(h:Rep G d v)(hd:d.dep=0):Rep G2 d v:=by
 cases d with
 |lst ds=>rw[Dt.dep]at hd;lia
 |tup ds=>rw[Dt.dep]at hd;lia
 |scr ns=>rw[Dt.dep]at hd;lia
 |exc _ _ _=>rw[Dt.dep]at hd;lia
 |fn _ _=>rw[Dt.dep]at hd;lia
 |ins _ _=>rw[Dt.dep]at hd;lia
 |dct _=>rw[Dt.dep]at hd;lia
 |_=>exact h
structure Kids(P:(Addr->Prop)->Dt->V->Prop)(S:Addr->Prop)(a:Addr)(ds:List Dt)(xs:List V)(T:Nat->Addr->Prop):Prop where
 len:xs.length=ds.length
 own:∀(q:Nat)(d:Dt)(x:V),ds[q]?=some d->xs[q]?=some x->P (T q) d x
 top:S a
 out:∀q,¬T q a
 dis:∀q r b,T q b->T r b->q=r
 sub:∀q b,T q b->S b
def Own(G H:Hp):Nat->(Addr->Prop)->Dt->V->Prop
 |0,_,d,v=>Rep G d v
 |n+1,S,d,v=>match d with
  |.lst ds=>∃a xs T,v=.ref a/\H a=some (.lst xs)/\Kids (Own G H n) S a ds xs T
  |.tup ds=>∃a xs T,v=.ref a/\H a=some (.tup xs)/\Kids (Own G H n) S a ds xs T
  |.dct kvs=>∃a,v=.ref a/\H a=some (.dK (kvs.map fun p=>(p.1,swV p.2)))/\S a
  |d=>Rep G d v
theorem Kids.imp{P P':(Addr->Prop)->Dt->V->Prop}{S S':Addr->Prop}{a:Addr}{ds:List Dt}{xs:List V}{T:Nat->Addr->Prop}(k:Kids P S a ds xs T)
  (h:∀q d x,ds[q]?=some d->P (T q) d x->P' (T q) d x) (hs:∀b,S b->S' b):Kids P' S' a ds xs T:=
 ⟨k.len,fun q d x h1 h2=>h q d x h1 (k.own q d x h1 h2),hs _ k.top,k.out,k.dis,fun q b t=>hs _ (k.sub q b t)⟩
theorem Own.mono{G G' H H':Hp}(sG:Same G G')(sH:Same H H'):∀{n:Nat}{S:Addr->Prop}{d:Dt}{v:V},Own G H n S d v->Own G' H' n S d v
 |0,S,d,v,h=>Rep.mono sG h
 |n+1,S,d,v,h=>by
  cases d with
  |lst ds=>obtain⟨a,xs,T,e,ha,k⟩:=h;exact⟨a,xs,T,e,sH _ _ ha,k.imp (fun _ _ _ _ p=>Own.mono sG sH p) fun _ z=>z⟩
  |tup ds=>obtain⟨a,xs,T,e,ha,k⟩:=h;exact⟨a,xs,T,e,sH _ _ ha,k.imp (fun _ _ _ _ p=>Own.mono sG sH p) fun _ z=>z⟩
  |dct kvs=>obtain⟨a,e,ha,hs⟩:=h;exact⟨a,e,sH _ _ ha,hs⟩
  |_=>exact Rep.mono sG h
theorem Own.sub{G H:Hp}{n:Nat}{S S':Addr->Prop}{d:Dt}{v:V}(h:Own G H n S d v)(hs:∀b,S b->S' b):Own G H n S' d v:=by
 cases n with
 |zero=>exact h
 |succ n=>
  cases d with
  |lst ds=>obtain⟨a,xs,T,e,ha,k⟩:=h;exact⟨a,xs,T,e,ha,k.imp (fun _ _ _ _ p=>p) hs⟩
  |tup ds=>obtain⟨a,xs,T,e,ha,k⟩:=h;exact⟨a,xs,T,e,ha,k.imp (fun _ _ _ _ p=>p) hs⟩
  |dct kvs=>obtain⟨a,e,ha,h2⟩:=h;exact⟨a,e,ha,hs _ h2⟩
  |_=>exact h
theorem Own.rep{G H J:Hp}(sG:Same G J):∀{n:Nat}{S:Addr->Prop}{d:Dt}{v:V},Own G H n S d v->(∀a o,S a->H a=some o->J a=some o)->Rep J d v
 |0,S,d,v,h,_=>Rep.mono sG h
 |n+1,S,d,v,h,hj=>by
  cases d with
  |lst ds=>obtain⟨a,xs,T,e,ha,k⟩:=h;exact⟨a,xs,e,hj _ _ k.top ha,zEE k.len fun q d x h1 h2=>Own.rep sG (k.own q d x h1 h2) fun b o t hb=>hj b o (k.sub q b t) hb⟩
  |tup ds=>obtain⟨a,xs,T,e,ha,k⟩:=h;exact⟨a,xs,e,hj _ _ k.top ha,zEE k.len fun q d x h1 h2=>Own.rep sG (k.own q d x h1 h2) fun b o t hb=>hj b o (k.sub q b t) hb⟩
  |dct kvs=>obtain⟨a,e,ha,hs⟩:=h;exact⟨a,e,hj _ _ hs ha⟩
  |_=>exact Rep.mono sG h
theorem Own.at{G G2 H:Hp}:∀{n k:Nat}{S:Addr->Prop}{d:Dt}{v:V},Own G H n S d v->d.dep<=n->d.dep<=k->n<1000->Own G2 H k S d v
 |n,k,S,d,v,h,hn,hk,hz=>by
  cases d with
  |lst ds=>
   rw[Dt.dep]at hn hk;cases n with
   |zero=>lia
   |succ n=>
    cases k with
    |zero=>lia
    |succ k=>
     obtain⟨a,xs,T,e,ha,kd⟩:=h;refine⟨a,xs,T,e,ha,kd.imp (fun q d x h1 p=>?_) fun _ z=>z⟩;exact Own.at p (zEH (by lia) h1) (zEH (by lia) h1) (by lia)
  |tup ds=>
   rw[Dt.dep]at hn hk;cases n with
   |zero=>lia
   |succ n=>
    cases k with
    |zero=>lia
    |succ k=>
     obtain⟨a,xs,T,e,ha,kd⟩:=h;refine⟨a,xs,T,e,ha,kd.imp (fun q d x h1 p=>?_) fun _ z=>z⟩;exact Own.at p (zEH (by lia) h1) (zEH (by lia) h1) (by lia)
  |non=>cases n<;>cases k<;>exact h
  |bl b=>cases n<;>cases k<;>exact h
  |int i=>cases n<;>cases k<;>exact h
  |str x=>cases n<;>cases k<;>exact h
  |scr ns=>rw[Dt.dep]at hn;lia
  |exc _ _ _=>rw[Dt.dep]at hn;lia
  |fn _ _=>rw[Dt.dep]at hn;lia
  |ins _ _=>rw[Dt.dep]at hn;lia
  |dct _=>rw[Dt.dep]at hn;lia
termination_by n=>n
theorem Own.scalar{G H G2 H2:Hp}{n k:Nat}{S S2:Addr->Prop}{d:Dt}{v:V}(h:Own G H n S d v)(hd:d.dep=0):Own G2 H2 k S2 d v:=by
 cases d with
 |lst ds=>rw[Dt.dep]at hd;lia
 |tup ds=>rw[Dt.dep]at hd;lia
 |non=>cases n<;>cases k<;>exact h
 |bl b=>cases n<;>cases k<;>exact h
 |int i=>cases n<;>cases k<;>exact h
 |str x=>cases n<;>cases k<;>exact h
 |scr ns=>rw[Dt.dep]at hd;lia
 |exc _ _ _=>rw[Dt.dep]at hd;lia
 |fn _ _=>rw[Dt.dep]at hd;lia
 |ins _ _=>rw[Dt.dep]at hd;lia
 |dct _=>rw[Dt.dep]at hd;lia
theorem zVT{G H:Hp}{n:Nat}{S:Addr->Prop}{d:Dt}{v:V}(h:Rep G d v)(hd:d.dep=0):Own G H n S d v:=Own.scalar (n:=0) (G:=G) (H:=H) (S:=S) h hd
theorem Own.upd{G H:Hp}{p:Addr}{o:HO}:∀{n:Nat}{S:Addr->Prop}{d:Dt}{v:V},Own G H n S d v->¬S p->Own G (upd H p o) n S d v
 |0,S,d,v,h,_=>h
 |n+1,S,d,v,h,hp=>by
  cases d with
  |lst ds=>
   obtain⟨a,xs,T,e,ha,k⟩:=h;have hap:a≠p:=fun z=>hp (z▸k.top)
   exact⟨a,xs,T,e,(zAH hap).trans ha,k.imp (fun q _ _ _ w=>Own.upd w fun z=>hp (k.sub q _ z)) fun _ z=>z⟩
  |tup ds=>
   obtain⟨a,xs,T,e,ha,k⟩:=h;have hap:a≠p:=fun z=>hp (z▸k.top)
   exact⟨a,xs,T,e,(zAH hap).trans ha,k.imp (fun q _ _ _ w=>Own.upd w fun z=>hp (k.sub q _ z)) fun _ z=>z⟩
  |dct kvs=>
   obtain⟨a,e,ha,hs⟩:=h;have hap:a≠p:=fun z=>hp (z▸hs)
   exact⟨a,e,(zAH hap).trans ha,hs⟩
  |_=>exact h
structure Ext(G H G' H':Hp):Prop where
 g:Same G G'
 h:Same H H'
 in':Same G' H'
 old:∀b,H b≠none->G' b=G b
theorem Ext.refl{G H:Hp}(s:Same G H):Ext G H G H:=⟨Same.refl _,Same.refl _,s,fun _ _=>rfl⟩
theorem _root_.L2.Same.some{H H':Hp}(s:Same H H'){b:Addr}(h:H b≠qEc):H' b≠qEc:=by
 cases e:H b with
 |none=>exact absurd e h
 |some o=>rw[s _ _ e];simp
theorem Ext.trans{G H G1 H1 G2 H2:Hp}(a:Ext G H G1 H1)(b:Ext G1 H1 G2 H2):Ext G H G2 H2:=
 ⟨a.g.trans b.g,a.h.trans b.h,b.in',fun c hc=>(b.old c (a.h.some hc)).trans (a.old c hc)⟩
structure Fr(G H G' H':Hp)(S:Addr->Prop):Prop where
 ext:Ext G H G' H'
 new:∀a,S a->H a=none/\G' a=none/\H' a≠none
open Classical in
noncomputable def over(G H:Hp)(S:Addr->Prop):Hp:=fun b=>if S b then H b else G b
theorem zDM{G H:Hp}{S:Addr->Prop}{a:Addr}(h:S a):over G H S a=H a:=by unfold over;rw[if_pos h]
theorem zBZ{G H:Hp}{S:Addr->Prop}{a:Addr}(h:¬S a):over G H S a=G a:=by unfold over;rw[if_neg h]
theorem zCJ{G H:Hp}{S:Addr->Prop}(s:Same G H):Same G (over G H S)/\Same (over G H S) H:=by
 constructor
 ·intro b o e
  by_cases z:S b
  ·rw[zDM z];exact s _ _ e
  ·rw[zBZ z];exact e
 ·intro b o e
  by_cases z:S b
  ·rw[zDM z]at e;exact e
  ·rw[zBZ z]at e;exact s _ _ e
theorem Fr.frz{G H G' H':Hp}{S:Addr->Prop}{n:Nat}{d:Dt}{v:V}(f:Fr G H G' H' S)(o:Own G' H' n S d v):Ext G H (over G' H' S) H'/\Rep (over G' H' S) d v:=by
 obtain⟨s1,s2⟩:=zCJ (S:=S) f.ext.in';refine⟨⟨f.ext.g.trans s1,f.ext.h,s2,fun b hb=>?_⟩,o.rep s1 fun a u ha e=>by rw[zDM ha];exact e⟩;have z:¬S b:=fun z=>hb (f.new b z).1
 rw[zBZ z];exact f.ext.old b hb
structure View(G:Hp)(σ:St)(ρ:Rh):Prop where
 len:ρ.length=σ.length
 «at»:∀(i:Nat)(d:Dt),ρ[i]?=some (some d)->∃v,σ[i]?=some (some v)/\Rep G d v
 tab:Same (tabK Kc.K) G
theorem View.mono{G G':Hp}{σ:St}{ρ:Rh}(s:Same G G')(h:View G σ ρ):View G' σ ρ:=⟨h.len,fun i d e=>let⟨v,a,b⟩:=h.at i d e;⟨v,a,Rep.mono s b⟩,h.tab.trans s⟩
def XRep(mg:Str->Option Value)(x:Xn)(c:Value)(da:Option Addr)(G H:Hp):Prop:=
 ∃e C,c=.ref e/\G e=some (xo e (.ref C) da)/\clK Kc.K x.cls=some C/\((da=none/\x.f = "")\/∃a gs w,da=some a/\G a=some (.xd gs)/\gs.lookup x.f=some w/\Rep G x.d w)
def PostE(mg:Str->Option Value)(E:XK)(G H:Hp)(n:Nat)(r:R Dt)(Q:VK):Prop:=match r with
 |none=>False
 |some (.error x)=>∀c da G' H',Ext G H G' H'->XRep mg x c da G' H'->E c da H'
 |some (.ok d)=>∀v G' H' S,Fr G H G' H' S->Own G' H' n S d v->Q v H'
def PostT(mg:Str->Option Value)(E:XK)(G H:Hp)(r:R Bool)(Q:Bool->Hp->Prop):Prop:=match r with
 |none=>False
 |some (.error x)=>∀c da G' H',Ext G H G' H'->XRep mg x c da G' H'->E c da H'
 |some (.ok b)=>∀H',Same H H'->Q b H'
structure OwnA(G H:Hp)(n:Nat)(S:Addr->Prop)(ds:List Dt)(xs:List V)(T:Nat->Addr->Prop):Prop where
 len:xs.length=ds.length
 own:∀(q:Nat)(d:Dt)(x:V),ds[q]?=some d->xs[q]?=some x->Own G H n (T q) d x
 dis:∀q r b,T q b->T r b->q=r
 sub:∀q b,T q b->S b
def zXJ(mg:Str->Option Value)(E:XK)(G H:Hp)(n:Nat)(r:R (List Dt))(Q:List V->Hp->Prop):Prop:=match r with
 |none=>False
 |some (.error x)=>∀c da G' H',Ext G H G' H'->XRep mg x c da G' H'->E c da H'
 |some (.ok ds)=>∀vs G' H' S T,Fr G H G' H' S->OwnA G' H' n S ds vs T->Q vs H'
def DE(mg:Str->Option Value)(E:XK)(t:TE)(m:EM)(n:Nat):Prop:=∀(G H:Hp)(σ:St)(ρ:Rh)(Q:VK),Same G H->View G σ ρ->PostE mg E G H n (m ρ) Q->t σ H Q
def DT(mg:Str->Option Value)(E:XK)(t:TT)(m:TM):Prop:=∀(G H:Hp)(σ:St)(ρ:Rh)(Q:Bool->Hp->Prop),Same G H->View G σ ρ->PostT mg E G H (m ρ) Q->t σ H Q
def DA(mg:Str->Option Value)(E:XK)(t:TA)(m:AM)(n:Nat):Prop:=∀(G H:Hp)(σ:St)(ρ:Rh)(Q:List V->Hp->Prop),Same G H->View G σ ρ->zXJ mg E G H n (m ρ) Q->t σ H Q
structure Err(mg:Str->Option Value)(E:XK)(G H:Hp){β:Type}(P:R β->Prop):Prop where
 no:P none->False
 er:∀x,P (some (.error x))->∀c da G' H',Ext G H G' H'->XRep mg x c da G' H'->E c da H'
theorem Ext.same{G H H':Hp}(s:Same G H)(h:Same H H'):Ext G H G H':=⟨Same.refl _,h,s.trans h,fun _ _=>rfl⟩
theorem Err.from{mg:Str->Option Value}{E:XK}{G H G' H':Hp}{β:Type}{P:R β->Prop}(e:Err mg E G H P)(x:Ext G H G' H'):Err mg E G' H' P:=⟨e.no,fun y p c da G2 H2 z w=>e.er y p c da G2 H2 (x.trans z) w⟩
section
variable{mg:Str->Option Value}{E:XK}{n:Nat}
theorem errE{G H:Hp}{Q:VK}:Err mg E G H (fun r=>PostE mg E G H n r Q):=⟨fun h=>h,fun _ h=>h⟩
theorem errT{G H:Hp}{Q:Bool->Hp->Prop}:Err mg E G H (fun r=>PostT mg E G H r Q):=⟨fun h=>h,fun _ h=>h⟩
theorem errA{G H:Hp}{Q:List V->Hp->Prop}:Err mg E G H (fun r=>zXJ mg E G H n r Q):=⟨fun h=>h,fun _ h=>h⟩
theorem DE.step{β:Type}{t:TE}{m:EM}(D:DE mg E t m n){G H:Hp}{σ:St}{ρ:Rh}{Q:VK}{P:R β->Prop}{f:Dt->R β}(hE:Err mg E G H P)(s:Same G H)(w:View G σ ρ)(p:P (zA2 (m ρ) f))
  (h:∀d v G' H' S,m ρ=okR d->Fr G H G' H' S->Own G' H' n S d v->P (f d)->Q v H'):t σ H Q:=by
 refine D G H σ ρ Q s w ?_;cases e:m ρ with
 |none=>rw[e]at p;exact hE.no p
 |some r=>
  rw[e]at p;cases r with
  |error x=>exact hE.er x p
  |ok d=>exact fun v G' H' S fr o=>h d v G' H' S e fr o p
theorem DT.step{β:Type}{t:TT}{m:TM}(D:DT mg E t m){G H:Hp}{σ:St}{ρ:Rh}{Q:Bool->Hp->Prop}{P:R β->Prop}{f:Bool->R β}(hE:Err mg E G H P)(s:Same G H)(w:View G σ ρ)(p:P (zA2 (m ρ) f))
  (h:∀b H',m ρ=okR b->Same H H'->P (f b)->Q b H'):t σ H Q:=by
 refine D G H σ ρ Q s w ?_;cases e:m ρ with
 |none=>rw[e]at p;exact hE.no p
 |some r=>
  rw[e]at p;cases r with
  |error x=>exact hE.er x p
  |ok b=>exact fun H' sH=>h b H' e sH p
theorem DA.step{β:Type}{t:TA}{m:AM}(D:DA mg E t m n){G H:Hp}{σ:St}{ρ:Rh}{Q:List V->Hp->Prop}{P:R β->Prop}{f:List Dt->R β}(hE:Err mg E G H P)(s:Same G H)(w:View G σ ρ)(p:P (zA2 (m ρ) f))
  (h:∀ds vs G' H' S T,m ρ=okR ds->Fr G H G' H' S->OwnA G' H' n S ds vs T->P (f ds)->Q vs H'):t σ H Q:=by
 refine D G H σ ρ Q s w ?_;cases e:m ρ with
 |none=>rw[e]at p;exact hE.no p
 |some r=>
  rw[e]at p;cases r with
  |error x=>exact hE.er x p
  |ok ds=>exact fun vs G' H' S T fr o=>h ds vs G' H' S T e fr o p
theorem PostE.from{G H G' H':Hp}{Q:VK}{r:R Dt}(p:PostE mg E G H n r Q)(x:Ext G H G' H'):PostE mg E G' H' n r Q:=by
 cases r with
 |none=>exact p
 |some r=>
  cases r with
  |error y=>exact fun c da G2 H2 z w=>p c da G2 H2 (x.trans z) w
  |ok d=>
   exact fun v G2 H2 S fr o=>p v G2 H2 S ⟨x.trans fr.ext,fun a ha=>⟨x.h.free (fr.new a ha).1,(fr.new a ha).2⟩⟩ o
theorem PostT.from{G H G' H':Hp}{Q:Bool->Hp->Prop}{r:R Bool}(p:PostT mg E G H r Q)(x:Ext G H G' H'):PostT mg E G' H' r Q:=by
 cases r with
 |none=>exact p
 |some r=>
  cases r with
  |error y=>exact fun c da G2 H2 z w=>p c da G2 H2 (x.trans z) w
  |ok d=>exact fun H2 s=>p H2 (x.h.trans s)
theorem Fr.from{G H G1 H1 G2 H2:Hp}{S:Addr->Prop}(x:Ext G H G1 H1)(f:Fr G1 H1 G2 H2 S):Fr G H G2 H2 S:=⟨x.trans f.ext,fun a ha=>⟨x.h.free (f.new a ha).1,(f.new a ha).2⟩⟩
theorem PostE.val{G H G' H':Hp}{d:Dt}{v:V}{Q:VK}(p:PostE mg E G H n (okR d) Q)(x:Ext G H G' H')(hd:d.dep=0)(h:Rep G' d v):Q v H':=
 p v G' H' (fun _=>False) ⟨x,fun _ z=>z.elim⟩ (zVT h hd)
theorem PostE.kept{G H G' H':Hp}{d:Dt}{v:V}{Q:VK}(p:PostE mg E G H 0 (okR d) Q)(x:Ext G H G' H')(h:Rep G' d v):Q v H':=
 p v G' H' (fun _=>False) ⟨x,fun _ z=>z.elim⟩ h
theorem zAX{t:TE}{m:EM}{n:Nat}(D:DE mg E t m n):DE mg E t m 0:=by
 intro G H σ ρ Q s w p;refine D G H σ ρ Q s w ?_;cases e:m ρ with
 |none=>rw[e]at p;exact p
 |some r=>
  rw[e]at p;cases r with
  |error x=>exact p
  |ok d=>
   intro v G' H' S fr o;obtain⟨x,r⟩:=fr.frz o;exact PostE.kept p x r
end
end
section
variable[Kc]{mg:Str->Option Value}{E:XK}{n k l:Nat}{ta tb tc:TE}{ma mb mc:EM}
theorem zAB{i:Int}:DE mg E (tC (.int i)) (Mi.eC (.int i)) n:=fun G H σ ρ Q s w p=>PostE.val p (Ext.refl s) rfl rfl
theorem zMQ{b:Bool}:DE mg E (tC (.bl b)) (Mi.eC (.bl b)) n:=fun G H σ ρ Q s w p=>PostE.val p (Ext.refl s) rfl rfl
theorem zX4{x:Str}:DE mg E (tC (.str x)) (Mi.eC (.str x)) n:=fun G H σ ρ Q s w p=>PostE.val p (Ext.refl s) rfl rfl
theorem de_v(i:Nat):DE mg E (vM i) (Mi.eV i) 0:=by
 intro G H σ ρ Q s w p;unfold Mi.eV at p;cases e:ρ[i]? with
 |none=>rw[e]at p;exact p.elim
 |some o=>
  rw[e]at p;cases o with
  |none=>exact p.elim
  |some d=>
   obtain⟨v,h1,h2⟩:=w.at i d e;unfold vM;rw[h1];exact PostE.kept p (Ext.refl s) h2
def ROp(r:R2)(f:Dt->Dt->Option Dt)(n:Nat):Prop:=∀(mg:Str->Option Value)(E:XK)(G H:Hp)(d e:Dt)(x y:V)(Q:VK),Same G H->Rep G d x->Rep G e y->PostE mg E G H n (optR (f d e)) Q->r x y H Q
theorem zAE{r:R2}{f:Dt->Dt->Option Dt}(hr:ROp r f n)(A:DE mg E ta ma k)(B:DE mg E tb mb l):DE mg E (tOp r ta tb) (Mi.eB f ma mb) n:=by
 intro G H σ ρ Q s w p;refine(zAX A).step errE s w p fun d v G1 H1 S _ fr o p1=>?_
 refine(zAX B).step (errE.from fr.ext) fr.ext.in' (w.mono fr.ext.g) p1 fun e u G2 H2 S2 _ fr2 o2 p2=>?_
 exact hr mg E G2 H2 d e v u Q fr2.ext.in' (Rep.mono fr2.ext.g o) o2 (PostE.from p2 (fr.ext.trans fr2.ext))
def ROp1(r:V->Hp->VK->Prop)(f:Dt->Option Dt)(n:Nat):Prop:=∀(mg:Str->Option Value)(E:XK)(G H:Hp)(d:Dt)(x:V)(Q:VK),Same G H->Rep G d x->PostE mg E G H n (optR (f d)) Q->r x H Q
theorem zU8{r:V->Hp->VK->Prop}{f:Dt->Option Dt}(hr:ROp1 r f n)(A:DE mg E ta ma k):DE mg E (tUn r ta) (Mi.eU f ma) n:=by
 intro G H σ ρ Q s w p;refine(zAX A).step errE s w p fun d v G1 H1 S _ fr o p1=>?_
 exact hr mg E G1 H1 d v Q fr.ext.in' o (PostE.from p1 fr.ext)
theorem zP5(A:DE mg E ta ma k)(B:DE mg E tb mb n):DE mg E (fun σ H Q=>ta σ H fun x H1=>match x with | .bl c=>if c=true then tb σ H1 Q else Q (.bl false) H1|_=>False) (Mi.eAnd ma mb) n:=by
 intro G H σ ρ Q s w p;refine(zAX A).step errE s w p fun d v G1 H1 S _ fr o p1=>?_
 cases d with
 |bl b=>
  cases(show v=.bl b from o)
  cases b with
  |true=>exact B G1 H1 σ ρ Q fr.ext.in' (w.mono fr.ext.g) (PostE.from p1 fr.ext)
  |false=>exact PostE.val (PostE.from p1 fr.ext) (Ext.refl fr.ext.in') rfl rfl
 |_=>exact p1.elim
theorem zX7(A:DE mg E ta ma k):DE mg E (fun σ H Q=>ta σ H fun x H1=>match x with | .bl c=>Q (.bl (!c)) H1|_=>False) (Mi.eNot ma) n:=by
 intro G H σ ρ Q s w p;refine(zAX A).step errE s w p fun d v G1 H1 S _ fr o p1=>?_
 cases d with
 |bl b=>
  cases(show v=.bl b from o)
  exact PostE.val (PostE.from p1 fr.ext) (Ext.refl fr.ext.in') rfl rfl
 |_=>exact p1.elim
theorem zX9{tA:TT}{c:TM}(C:DT mg E tA c)(A:DE mg E ta ma n)(B:DE mg E tb mb n):DE mg E (tIf tA ta tb) (Mi.eIf c ma mb) n:=by
 intro G H σ ρ Q s w p;refine C.step errE s w p fun b H' _ sH p1=>?_
 have p2:=PostE.from p1 (Ext.same s sH);cases b with
 |true=>exact A G H' σ ρ Q (s.trans sH) w p2
 |false=>exact B G H' σ ρ Q (s.trans sH) w p2
theorem dt_b(A:DE mg E ta ma k):DT mg E (fun σ H Q=>ta σ H fun z H3=>match z with | .bl k=>Q k H3|_=>False) (Mi.tB ma):=by
 intro G H σ ρ Q s w p;refine(zAX A).step errT s w p fun d v G1 H1 S _ fr o p1=>?_
 cases d with
 |bl b=>
  cases(show v=.bl b from o)
  exact p1 H1 fr.ext.h
 |_=>exact p1.elim
theorem dt_m(A:DE mg E ta ma k):DT mg E (bM ta) (Mi.tM ma):=by
 intro G H σ ρ Q s w p;refine(zAX A).step errT s w p fun d v G1 H1 S _ fr o p1=>?_
 cases d with
 |bl b=>cases(show v=.bl b from o);exact p1 H1 fr.ext.h
 |int b=>cases(show v=.int b from o);exact p1 H1 fr.ext.h
 |non=>cases(show v=.non from o);exact p1 H1 fr.ext.h
 |_=>exact p1.elim
variable{tA tB:TT}{cA cB:TM}
theorem zWX(A:DT mg E tA cA)(B:DT mg E tB cB):DT mg E (L2.tAnd tA tB) (Mi.tAn cA cB):=by
 intro G H σ ρ Q s w p;refine A.step errT s w p fun b H' _ sH p1=>?_
 cases b with
 |true=>exact B G H' σ ρ Q (s.trans sH) w (PostT.from p1 (Ext.same s sH))
 |false=>exact p1 H' sH
theorem zR1(A:DT mg E tA cA)(B:DT mg E tB cB):DT mg E (L2.tOr tA tB) (Mi.tOr cA cB):=by
 intro G H σ ρ Q s w p;refine A.step errT s w p fun b H' _ sH p1=>?_
 cases b with
 |false=>exact B G H' σ ρ Q (s.trans sH) w (PostT.from p1 (Ext.same s sH))
 |true=>exact p1 H' sH
theorem zOX(A:DT mg E tA cA):DT mg E (L2.tNot tA) (Mi.tNo cA):=by
 intro G H σ ρ Q s w p;exact A.step errT s w p fun b H' _ sH p1=>p1 H' sH
theorem zD7:DT mg E L2.tYes Mi.tYes:=fun G H σ ρ Q s w p=>p H (Same.refl _)
variable{t:TA}{m:AM}
theorem zA6:DA mg E tNil Mi.aNil n:=fun G H σ ρ Q s w p=>p [] G H (fun _=>False) (fun _ _=>False) ⟨Ext.refl s,fun _ z=>z.elim⟩ ⟨rfl,fun q d x h=>by simp at h,fun _ _ _ z=>z.elim,fun _ _ z=>z.elim⟩
theorem zA1(A:DE mg E ta ma n)(B:DA mg E t m n):DA mg E (zIY ta t) (Mi.aCons ma m) n:=by
 intro G H σ ρ Q s w p;refine A.step errA s w p fun d v G1 H1 S1 _ fr o p1=>?_
 refine B.step (errA.from fr.ext) fr.ext.in' (w.mono fr.ext.g) p1 fun ds vs G2 H2 S2 T2 _ fr2 o2 p2=>?_
 refine p2 (v::vs) G2 H2 (fun a=>S1 a\/S2 a) (fun q=>match q with|0=>S1|q+1=>T2 q) ⟨fr.ext.trans fr2.ext,fun a ha=>?_⟩ ⟨by simp[o2.len],fun q d' x h1 h2=>?_,fun q r b h1 h2=>?_,fun q b h=>?_⟩
 ·rcases ha with ha|ha
  ·obtain⟨n1,n2,n3⟩:=fr.new a ha;exact⟨n1,(fr2.ext.old a n3).trans n2,fr2.ext.h.some n3⟩
  ·obtain⟨n1,n2,n3⟩:=fr2.new a ha;exact⟨fr.ext.h.free n1,n2,n3⟩
 ·cases q with
  |zero=>simp at h1 h2;subst h1;subst h2;exact o.mono fr2.ext.g fr2.ext.h
  |succ q=>exact o2.own q d' x (by simpa using h1) (by simpa using h2)
 ·have ap:∀r b,S1 b->T2 r b->False:=fun r b h1 h2=>(fr.new b h1).2.2 (fr2.new b (o2.sub r b h2)).1
  cases q with
  |zero=>
   cases r with
   |zero=>rfl
   |succ r=>exact(ap r b h1 h2).elim
  |succ q=>
   cases r with
   |zero=>exact(ap q b h2 h1).elim
   |succ r=>rw[o2.dis q r b h1 h2]
 ·cases q with
  |zero=>exact .inl h
  |succ q=>exact .inr (o2.sub q b h)
theorem OwnA.repL{G H:Hp}{S:Addr->Prop}{ds:List Dt}{vs:List V}{T:Nat->Addr->Prop}(o:OwnA G H 0 S ds vs T):RepL G ds vs:=zEE o.len fun q d x h1 h2=>o.own q d x h1 h2
theorem big'{n:Nat}(h:n<=100000):n<=sizeLine:=qB6 (L2.big h)
theorem Fr.add{G H G' H':Hp}{S:Addr->Prop}(f:Fr G H G' H' S){p:Addr}(hp:H' p=none)(o:HO):Fr G H G' (upd H' p o) (fun a=>a=p\/S a):=by
 have sn:=L2.same_new hp o;refine⟨⟨f.ext.g,f.ext.h.trans sn,f.ext.in'.trans sn,f.ext.old⟩,fun a ha=>?_⟩
 rcases ha with rfl|ha
 ·exact⟨f.ext.h.free hp,f.ext.in'.free hp,by rw[zAJ];simp⟩
 ·obtain⟨n1,n2,n3⟩:=f.new a ha;exact⟨n1,n2,sn.some n3⟩
theorem OwnA.kids{G' H':Hp}{S:Addr->Prop}{ds:List Dt}{vs:List V}{T:Nat->Addr->Prop}(o:OwnA G' H' n S ds vs T)(hn:∀a,S a->H' a≠none){p:Addr}(hp:H' p=none)(ob:HO) :
  Kids (Own G' (upd H' p ob) n) (fun a=>a=p\/S a) p ds vs T:=
 ⟨o.len,fun q d x h1 h2=>(o.own q d x h1 h2).mono (Same.refl _) (L2.same_new hp ob),.inl rfl,fun q z=>hn p (o.sub q p z) hp,o.dis,fun q b z=>.inr (o.sub q b z)⟩
theorem zDA(A:DA mg E t m n):DE mg E (tLst t) (Mi.eLst m) (n+1):=by
 intro G H σ ρ Q s w p;refine A.step errE s w p fun ds vs G1 H1 S T _ fr o p1=>?_
 by_cases hz:ds.length<=100000
 ·rw[if_pos hz]at p1;refine⟨by rw[o.len];exact big' hz,fun a ha=>?_⟩;exact p1 (.ref a) G1 _ _ (fr.add ha _) ⟨a,vs,T,rfl,zAJ,o.kids (fun b hb=>(fr.new b hb).2.2) ha _⟩
 ·rw[if_neg hz]at p1;exact p1.elim
theorem PostE.lst{G H G' H':Hp}{ds:List Dt}{xs:List V}{Q:VK}(p:PostE mg E G H 1 (okR (.lst ds)) Q)(x:Ext G H G' H')(r:RepL G' ds xs){a:Addr}(ha:H' a=none):Q (.ref a) (upd H' a (.lst xs)):=by
 have fr:Fr G H G' H' (fun _=>False):=⟨x,fun _ z=>z.elim⟩
 refine p (.ref a) G' _ _ (fr.add ha (.lst xs)) ⟨a,xs,fun _ _=>False,rfl,zAJ,⟨r.length,fun q d y h1 h2=>zBP r h1 h2,.inl rfl,fun _ z=>z,fun _ _ _ z=>z.elim,fun _ _ z=>z.elim⟩⟩
def CBi(r:List V->Hp->VK->Prop)(f:List Dt->Option Dt)(n:Nat):Prop:=∀(mg:Str->Option Value)(E:XK)(G H:Hp)(ds:List Dt)(vs:List V)(Q:VK),Same G H->RepL G ds vs->PostE mg E G H n (optR (f ds)) Q->r vs H Q
theorem zCT{r:List V->Hp->VK->Prop}{f:List Dt->Option Dt}(hr:CBi r f n)(A:DA mg E t m 0):DE mg E (tCB r t) (Mi.eBi f m) n:=by
 intro G H σ ρ Q s w p;refine A.step errE s w p fun ds vs G1 H1 S T _ fr o p1=>?_
 exact hr mg E G1 H1 ds vs Q fr.ext.in' o.repL (PostE.from p1 fr.ext)
def spM(mg:Str->Option Value)(L:Nat)(f:FM):Sp:=fun vs H Q E=>∃G ds,Same (tabK Kc.K) G/\Same G H/\RepL G ds vs/\PostE mg E G H L (f ds) Q
theorem zAQ{f:FM}(A:DA mg E t m 0):DE mg E (zKA (spM mg n f) [] E t) (Mi.eCall f m) n:=by
 intro G H σ ρ Q s w p;refine A.step errE s w p fun ds vs G1 H1 S T _ fr o p1=>?_
 exact⟨G1,ds,w.tab.trans fr.ext.g,fr.ext.in',by rw[qCf];exact o.repL,PostE.from p1 fr.ext⟩
theorem zNO{G H:Hp}{o:Option Dt}{Q:VK}{d:Dt}{v:V}(s:Same G H)(p:PostE mg E G H n (optR o) Q)(e:o=some d)(hd:d.dep=0)(h:Rep G d v):Q v H:=by
 subst e;exact PostE.val p (Ext.refl s) hd h
theorem zBO:ROp zVJ Mi.addD 1:=by
 intro mg E G H d e x y Q s h1 h2 p;cases d with
 |int i=>
  cases e with
  |int j=>cases(show x=.int i from h1);cases(show y=.int j from h2);exact zNO s p rfl rfl rfl
  |_=>exact p.elim
 |str i=>
  cases e with
  |str j=>
   cases(show x=.str i from h1);cases(show y=.str j from h2)
   rw[Mi.addD]at p
   by_cases hz:i.length+j.length<=100000
   ·rw[if_pos hz]at p;exact⟨big' hz,PostE.val p (Ext.refl s) rfl rfl⟩
   ·rw[if_neg hz]at p;exact p.elim
  |_=>exact p.elim
 |lst ds=>
  cases e with
  |lst es=>
   obtain⟨a,xs,rfl,ha,ra⟩:=h1;obtain⟨b,ys,rfl,hb,rb⟩:=h2;rw[Mi.addD]at p
   by_cases hz:ds.length+es.length<=100000
   ·rw[if_pos hz]at p;refine⟨xs,ys,s _ _ ha,s _ _ hb,by rw[ra.length,rb.length];exact big' hz,fun q hq=>?_⟩;refine PostE.lst p (Ext.refl s) (zEE (by simp[ra.length,rb.length]) fun j d' x' e1 e2=>?_) hq
    by_cases hj:j<ds.length
    ·rw[qA9 hj]at e1;rw[qA9 (by rw[ra.length];exact hj)]at e2;exact zBP ra e1 e2
    ·rw[qAa (by lia)]at e1;rw[qAa (by rw[ra.length];lia),ra.length]at e2;exact zBP rb e1 e2
   ·rw[if_neg hz]at p;exact p.elim
  |_=>exact p.elim
 |_=>exact p.elim
theorem zNH:ROp zV8 Mi.subD n:=by
 intro mg E G H d e x y Q s h1 h2 p;cases d with
 |int i=>
  cases e with
  |int j=>cases(show x=.int i from h1);cases(show y=.int j from h2);exact zNO s p rfl rfl rfl
  |_=>exact p.elim
 |_=>exact p.elim
theorem zCH:ROp zVD Mi.mulD n:=by
 intro mg E G H d e x y Q s h1 h2 p;cases d with
 |int i=>
  cases e with
  |int j=>
   cases(show x=.int i from h1);cases(show y=.int j from h2)
   rw[Mi.mulD]at p
   split at p
   ·rename_i hz;exact⟨hz,PostE.val p (Ext.refl s) rfl rfl⟩
   ·exact p.elim
  |_=>exact p.elim
 |_=>exact p.elim
theorem zNK:ROp zVH Mi.divD n:=by
 intro mg E G H d e x y Q s h1 h2 p;cases d with
 |int i=>
  cases e with
  |int j=>
   cases(show x=.int i from h1);cases(show y=.int j from h2)
   rw[Mi.divD]at p
   split at p
   ·rename_i hz;exact⟨hz,PostE.val p (Ext.refl s) rfl rfl⟩
   ·exact p.elim
  |_=>exact p.elim
 |_=>exact p.elim
theorem zC9:ROp zVE Mi.modD n:=by
 intro mg E G H d e x y Q s h1 h2 p;cases d with
 |int i=>
  cases e with
  |int j=>
   cases(show x=.int i from h1);cases(show y=.int j from h2)
   rw[Mi.modD]at p
   split at p
   ·rename_i hz;exact⟨hz,PostE.val p (Ext.refl s) rfl rfl⟩
   ·exact p.elim
  |_=>exact p.elim
 |_=>exact p.elim
theorem zV4:ROp zVA Mi.powD n:=by
 intro mg E G H d e x y Q s h1 h2 p;cases d with
 |int i=>
  cases e with
  |int j=>
   cases(show x=.int i from h1);cases(show y=.int j from h2)
   rw[Mi.powD]at p
   split at p
   ·rename_i hz;exact⟨hz,PostE.val p (Ext.refl s) rfl rfl⟩
   ·exact p.elim
  |_=>exact p.elim
 |_=>exact p.elim
theorem zNJ:ROp1 zVC Mi.negD n:=by
 intro mg E G H d x Q s h1 p;cases d with
 |int i=>cases(show x=.int i from h1);exact zNO s p rfl rfl rfl
 |_=>exact p.elim
theorem zNL{q:Int->Int->Bool}:ROp (zVI q) (Mi.cmpD q) n:=by
 intro mg E G H d e x y Q s h1 h2 p;cases d with
 |int i=>
  cases e with
  |int j=>cases(show x=.int i from h1);cases(show y=.int j from h2);exact zNO s p rfl rfl rfl
  |_=>exact p.elim
 |_=>exact p.elim
theorem zS2{G H:Hp}{d e:Dt}{x y:V}{Q:VK}{ng:Bool}(s:Same G H)(h1:Rep G d x)(h2:Rep G e y)(hd:d.dep<=40)(he:e.dep<=40)(q:Q (.bl (if ng then !Dt.eq d e else Dt.eq d e)) H) :
  ∃d' e',L2.Rep H d' x/\L2.Rep H e' y/\d'.dep<=40/\Q (.bl (if ng then !L2.Dat.eq d' e' else L2.Dat.eq d' e')) H:=
 ⟨conv d,conv e,zDZ hd (Rep.mono s h1),zDZ he (Rep.mono s h2),qAj (zEU hd) hd,by rw[zKR hd he];exact q⟩
theorem zF7{α:Type}[DecidableEq α](a b:α):(a==b)=decide (a=b):=by
 by_cases h:a=b
 ·subst h;simp
 ·simp[h]
theorem zHK{G:Hp}{d:Dt}{i:Int}(h:Rep G d (.int i)):d=.int i:=by
 cases d with
 |int k=>cases h;rfl
 |non=>cases h
 |bl _=>cases h
 |str _=>cases h
 |lst _=>obtain⟨_,_,z,_⟩:=h;cases z
 |tup _=>obtain⟨_,_,z,_⟩:=h;cases z
 |scr _=>obtain⟨_,z,_⟩:=h;cases z
 |exc _ _ _=>obtain⟨_,_,_,z,_⟩:=h;cases z
 |fn _ _=>obtain⟨_,z,_⟩:=h;cases z
 |ins _ _=>obtain⟨_,_,_,z,_⟩:=h;cases z
 |dct _=>obtain⟨_,z,_⟩:=h;cases z
theorem zHJ{G:Hp}{d:Dt}{i:Str}(h:Rep G d (.str i)):d=.str i:=by
 cases d with
 |str k=>cases h;rfl
 |non=>cases h
 |bl _=>cases h
 |int _=>cases h
 |lst _=>obtain⟨_,_,z,_⟩:=h;cases z
 |tup _=>obtain⟨_,_,z,_⟩:=h;cases z
 |scr _=>obtain⟨_,z,_⟩:=h;cases z
 |exc _ _ _=>obtain⟨_,_,_,z,_⟩:=h;cases z
 |fn _ _=>obtain⟨_,z,_⟩:=h;cases z
 |ins _ _=>obtain⟨_,_,_,z,_⟩:=h;cases z
 |dct _=>obtain⟨_,z,_⟩:=h;cases z
theorem zLH{G:Hp}{d:Dt}{i:Bool}(h:Rep G d (.bl i)):d=.bl i:=by
 cases d with
 |bl k=>cases h;rfl
 |non=>cases h
 |str _=>cases h
 |int _=>cases h
 |lst _=>obtain⟨_,_,z,_⟩:=h;cases z
 |tup _=>obtain⟨_,_,z,_⟩:=h;cases z
 |scr _=>obtain⟨_,z,_⟩:=h;cases z
 |exc _ _ _=>obtain⟨_,_,_,z,_⟩:=h;cases z
 |fn _ _=>obtain⟨_,z,_⟩:=h;cases z
 |ins _ _=>obtain⟨_,_,_,z,_⟩:=h;cases z
 |dct _=>obtain⟨_,z,_⟩:=h;cases z
theorem zGP:ROp rEqU Mi.eqD n:=by
 intro mg E G H d e x y Q s h1 h2 p;unfold Mi.eqD at p
 split at p
 ·rename_i hz
  have q:Q (.bl (Dt.eq d e)) H:=PostE.val p (Ext.refl s) rfl rfl;have g:=zS2 (ng:=false) (Q:=Q) s h1 h2 hz.1 hz.2 q;unfold rEqU
  split
  ·rw[zHK h1,zHK h2,Dt.eq,zF7]at q;exact q
  ·rw[zHJ h1,zHJ h2,Dt.eq,zF7]at q;exact q
  ·rw[zLH h1,zLH h2,Dt.eq,zF7]at q;exact q
  ·exact g
 ·exact p.elim
theorem zQ2:ROp rNeU Mi.neD n:=by
 intro mg E G H d e x y Q s h1 h2 p;unfold Mi.neD at p
 split at p
 ·rename_i hz
  have q:Q (.bl (!Dt.eq d e)) H:=PostE.val p (Ext.refl s) rfl rfl;have g:=zS2 (ng:=true) (Q:=Q) s h1 h2 hz.1 hz.2 q;unfold rNeU
  split
  ·rw[zHK h1,zHK h2,Dt.eq,zF7]at q;exact q
  ·rw[zHJ h1,zHJ h2,Dt.eq,zF7]at q;exact q
  ·rw[zLH h1,zLH h2,Dt.eq,zF7]at q;exact q
  ·exact g
 ·exact p.elim
theorem zLU(n:Nat)(i:Int):Mi.ixA n i=ixN n i:=rfl
theorem zRW{α:Type}(xs:List α)(i:Int):Mi.itA xs i=atI xs i:=rfl
theorem zSF{G:Hp}{ds:List Dt}{xs:List V}{i:Int}{d:Dt}(r:RepL G ds xs)(h:Mi.itA ds i=some d):∃x,atI xs i=some x/\Rep G d x:=by
 rw[zRW]at h;unfold atI at h ⊢;rw[r.length];cases e:ixN ds.length i with
 |none=>rw[e]at h;cases h
 |some j=>
  rw[e]at h;have h':ds[j]?=some d:=h;have hj:j<xs.length:=by rw[r.length];exact(qA4.mp h').1
  exact⟨xs[j],by simp[hj],zBP r h' (by simp[hj])⟩
theorem zD2:ROp (rIxU Kc.K) Mi.ixD 0:=by
 intro mg E G H d e x y Q s h1 h2 p;cases e with
 |int i=>
  cases(show y=.int i from h2)
  cases d with
  |lst ds=>
   obtain⟨a,xs,rfl,ha,ra⟩:=h1;cases er:Mi.itA ds i with
   |none=>rw[Mi.ixD,er]at p;exact p.elim
   |some c=>
    rw[Mi.ixD,er]at p;obtain⟨v,e1,r1⟩:=zSF ra er;exact⟨xs,v,.inl (SqL.of (s _ _ ha)),e1,PostE.kept p (Ext.refl s) r1⟩
  |tup ds=>
   obtain⟨a,xs,rfl,ha,ra⟩:=h1;cases er:Mi.itA ds i with
   |none=>rw[Mi.ixD,er]at p;exact p.elim
   |some c=>
    rw[Mi.ixD,er]at p;obtain⟨v,e1,r1⟩:=zSF ra er;exact⟨xs,v,.inr (SqT.of (s _ _ ha)),e1,PostE.kept p (Ext.refl s) r1⟩
  |scr ns=>
   obtain⟨a,rfl,ha⟩:=h1;cases er:Mi.itA ns i with
   |none=>rw[Mi.ixD,er]at p;exact p.elim
   |some c=>
    rw[Mi.ixD,er]at p;refine⟨ns.map V.int,.int c,(zEK s ha).old,?_,PostE.kept p (Ext.refl s) rfl⟩;rw[zRW]at er;unfold atI at er ⊢;rw[qAh];cases e:ixN ns.length i with
    |none=>rw[e]at er;cases er
    |some j=>
     rw[e]at er;have er':ns[j]?=some c:=er
     show(ns.map V.int)[j]?=some (.int c)
     rw[qAe,er'];rfl
  |str z=>
   cases(show x=.str z from h1)
   rw[Mi.ixD]at p
   by_cases hz:z.length<=100000
   ·rw[if_pos hz]at p;cases er:Mi.itA z.cps.toList i with
    |none=>rw[er]at p;exact p.elim
    |some c=>rw[er]at p;exact⟨c,big' hz,er,PostE.kept p (Ext.refl s) rfl⟩
   ·rw[if_neg hz]at p;exact p.elim
  |_=>exact p.elim
 |_=>cases d<;>exact p.elim
theorem zEF{G:Hp}{d:Dt}{vs:List V}(h:RepL G [d] vs):∃x,vs=[x]/\Rep G d x:=by
 obtain⟨x,q,rfl,a,b⟩:=h
 cases(show q=[] from b)
 exact⟨x,rfl,a⟩
theorem zSX{G:Hp}{d e:Dt}{vs:List V}(h:RepL G [d,e] vs):∃x y,vs=[x,y]/\Rep G d x/\Rep G e y:=by
 obtain⟨x,q,rfl,a,b⟩:=h;obtain⟨y,rfl,c⟩:=zEF b;exact⟨x,y,rfl,a,c⟩
theorem zCB:CBi (zSY Kc.K) Mi.lenD n:=by
 intro mg E G H ds vs Q s h p;cases ds with
 |nil=>exact p.elim
 |cons a0 r0=>
  cases r0 with
  |cons _ _=>cases a0<;>exact p.elim
  |nil=>
   cases a0 with
   |lst es=>
    obtain⟨x,rfl,a,xs,rfl,ha,ra⟩:=zEF h;exact⟨xs,.inl (SqL.of (s _ _ ha)),by rw[ra.length];exact PostE.val p (Ext.refl s) rfl rfl⟩
   |tup es=>
    obtain⟨x,rfl,a,xs,rfl,ha,ra⟩:=zEF h;exact⟨xs,.inr (SqT.of (s _ _ ha)),by rw[ra.length];exact PostE.val p (Ext.refl s) rfl rfl⟩
   |scr ns=>
    obtain⟨x,rfl,a,rfl,ha⟩:=zEF h;refine⟨ns.map V.int,(zEK s ha).old,?_⟩;rw[qAh];exact PostE.val p (Ext.refl s) rfl rfl
   |str z=>
    obtain⟨x,rfl,hx⟩:=zEF h
    cases(show x=.str z from hx)
    rw[Mi.lenD]at p
    by_cases hz:z.length<=100000
    ·rw[if_pos hz]at p;exact⟨big' hz,PostE.val p (Ext.refl s) rfl rfl⟩
    ·rw[if_neg hz]at p;exact p.elim
   |_=>exact p.elim
theorem zD3{G:Hp}:∀(ns:List Int),RepL G (ns.map Dt.int) (ns.map V.int)
 |[]=>rfl
 |_::r=>⟨_,_,rfl,rfl,zD3 r⟩
theorem zPA:CBi (zLL Kc.K) Mi.listD 1:=by
 intro mg E G H ds vs Q s h p;cases ds with
 |nil=>exact p.elim
 |cons a0 r0=>
  cases r0 with
  |cons _ _=>cases a0<;>exact p.elim
  |nil=>
   cases a0 with
   |lst es=>
    obtain⟨x,rfl,a,xs,rfl,ha,ra⟩:=zEF h;exact .inl ⟨xs,.inl (SqL.of (s _ _ ha)),fun l hl=>PostE.lst p (Ext.refl s) ra hl⟩
   |tup es=>
    obtain⟨x,rfl,a,xs,rfl,ha,ra⟩:=zEF h;exact .inl ⟨xs,.inr (SqT.of (s _ _ ha)),fun l hl=>PostE.lst p (Ext.refl s) ra hl⟩
   |scr ns=>
    obtain⟨x,rfl,a,rfl,ha⟩:=zEF h;exact .inl ⟨ns.map V.int,(zEK s ha).old,fun l hl=>PostE.lst p (Ext.refl s) (zD3 ns) hl⟩
   |_=>exact p.elim
theorem zXW{G H:Hp}{d:Dt}{x:V}(s:Same G H)(h:Rep G d x)(hd:Mi.tyD d ≠ ""):zFU H x=some (Mi.tyD d):=by
 cases d with
 |non=>cases h;rfl
 |bl _=>cases h;rfl
 |int _=>cases h;rfl
 |str _=>cases h;rfl
 |lst _=>obtain⟨a,xs,rfl,ha,_⟩:=h;unfold zFU;dsimp only;rw[s _ _ ha];rfl
 |tup _=>obtain⟨a,xs,rfl,ha,_⟩:=h;unfold zFU;dsimp only;rw[s _ _ ha];rfl
 |scr _=>exact absurd rfl hd
 |exc _ _ _=>exact absurd rfl hd
 |fn _ _=>exact absurd rfl hd
 |ins _ _=>exact absurd rfl hd
 |dct _=>exact absurd rfl hd
theorem zS7{nm:String}(hn:nm∈["int","bool","str","list","tuple","dict"])(A:DE mg E ta ma k):DE mg E (tCB zVG (zIY ta (zIY (tC (.ty nm)) tNil))) (Mi.eIsi nm ma) n:=by
 intro G H σ ρ Q s w p;refine(zAX A).step errE s w p fun d v G1 H1 S _ fr o p1=>?_
 have p2:=PostE.from p1 fr.ext;unfold Mi.isiD at p2
 split at p2
 ·exact p2.elim
 ·rename_i hd
  exact⟨Mi.tyD d,zXW fr.ext.in' o hd,hn,PostE.val p2 (Ext.refl fr.ext.in') rfl rfl⟩
end
section
variable[Kc]
def ItOk(J:It)(G:Hp)(ds:List Dt):Prop:=∀(i:Nat)(G1 H1:Hp),Same G G1->Same G1 H1->(i<ds.length->J.go i H1)/\(ds.length<=i->J.stop i H1)/\∀x H2 d,ds[i]?=some d->J.yld i H1 x H2->∃G2,Ext G1 H1 G2 H2/\Rep G2 d x
noncomputable def zPF(ind:Bool)(G:Hp):Hp:=if ind=true then(fun _=>none)else G
def zXI(mg:Str->Option Value)(E:XK)(G H:Hp)(ind:Bool)(r:R (List Dt))(Q:It->Hp->Prop):Prop:=match r with
 |none=>False
 |some (.error x)=>∀c da G' H',Ext G H G' H'->XRep mg x c da G' H'->E c da H'
 |some (.ok ds)=>∀J G' H',Ext G H G' H'->ItOk J (zPF ind G') ds->Q J H'
def DI(mg:Str->Option Value)(E:XK)(t:TI)(m:IM)(ind:Bool):Prop:=∀(G H:Hp)(σ:St)(ρ:Rh)(Q:It->Hp->Prop),Same G H->View G σ ρ->zXI mg E G H ind (m ρ) Q->t σ H Q
section
variable{mg:Str->Option Value}{E:XK}{n k l:Nat}{ta te:TE}{ma me:EM}{t:TA}{m:AM}{ind:Bool}
theorem errI{G H:Hp}{Q:It->Hp->Prop}:Err mg E G H (fun r=>zXI mg E G H ind r Q):=⟨fun h=>h,fun _ h=>h⟩
theorem errB{G H:Hp}{α β:Type}{P:R β->Prop}(e:Err mg E G H P)(g:α->R β):Err mg E G H (fun r=>P (zA2 r g)):=⟨fun h=>e.no h,fun x h=>e.er x h⟩
theorem DI.step{β:Type}{t:TI}{m:IM}(D:DI mg E t m ind){G H:Hp}{σ:St}{ρ:Rh}{Q:It->Hp->Prop}{P:R β->Prop}{f:List Dt->R β}(hE:Err mg E G H P)(s:Same G H)(w:View G σ ρ)(p:P (zA2 (m ρ) f))
  (h:∀ds J G' H',m ρ=okR ds->Ext G H G' H'->ItOk J (zPF ind G') ds->P (f ds)->Q J H'):t σ H Q:=by
 refine D G H σ ρ Q s w ?_;cases e:m ρ with
 |none=>rw[e]at p;exact hE.no p
 |some r=>
  rw[e]at p;cases r with
  |error x=>exact hE.er x p
  |ok ds=>exact fun J G' H' x i=>h ds J G' H' e x i p
theorem zRV{K:qA1}{G:Hp}{a:Addr}{xs:List V}{ds:List Dt}(ha:SqL K G a xs)(r:RepL G ds xs):ItOk (Itl K a) G ds:=by
 intro i G1 H1 s1 s2;have hS:SqL K H1 a xs:=(s1.trans s2).seq ha;refine⟨fun hi=>⟨xs,xs[i]'(by rw[r.length];exact hi),hS,by simp⟩,fun hi=>⟨xs,hS,by rw[r.length];exact hi⟩,fun x H2 d hd hy=>?_⟩;obtain⟨rfl,hy⟩:=hy;exact⟨G1,Ext.refl s2,Rep.mono s1 (zBP r hd (hy xs hS))⟩
theorem zRU{K:qA1}{G:Hp}{a:Addr}{xs:List V}{ds:List Dt}(ha:SqT K G a xs)(r:RepL G ds xs):ItOk (Itt K a) G ds:=by
 intro i G1 H1 s1 s2;have hS:SqT K H1 a xs:=zJ2 (s1.trans s2) ha;refine⟨fun hi=>⟨xs,xs[i]'(by rw[r.length];exact hi),hS,by simp⟩,fun hi=>⟨xs,hS,by rw[r.length];exact hi⟩,fun x H2 d hd hy=>?_⟩;obtain⟨rfl,hy⟩:=hy;exact⟨G1,Ext.refl s2,Rep.mono s1 (zBP r hd (hy xs hS))⟩
theorem zWM{G:Hp}(lo:Int)(k:Nat):ItOk (Itr lo k) G (Mi.nums lo k):=by
 intro i G1 H1 s1 s2;have hl:(Mi.nums lo k).length=k:=by simp[Mi.nums]
 refine⟨fun hi=>by rw[hl]at hi;exact hi,fun hi=>by rw[hl]at hi;exact hi,fun x H2 d hd hy=>?_⟩;obtain⟨rfl,rfl⟩:=hy;refine⟨G1,Ext.refl s2,?_⟩;unfold Mi.nums at hd;rw[qAe]at hd;cases e:(qA8 k)[i]? with
 |none=>rw[e]at hd;cases hd
 |some j=>
  rw[e]at hd;cases hd;have hj:j=i:=by
   obtain⟨h1,h2⟩:=qA4.mp e;rw[qCg]at h2;exact h2.symm
  subst hj;rfl
theorem zE5(A:DA mg E t m 0):DI mg E (zWO t) (Mi.iR1 m) true:=by
 intro G H σ ρ Q s w p;refine A.step errI s w p fun ds vs G1 H1 S T _ fr o p1=>?_
 have r:=o.repL;cases ds with
 |nil=>exact qA5 p1
 |cons hd1 tl1=>
  cases hd1 with
  |int j=>
   cases tl1 with
   |nil=>
    obtain⟨x,rfl,hx⟩:=zEF r
    cases(show x=.int j from hx)
    dsimp only at p1
    split at p1
    ·rename_i hz
     exact⟨j,rfl,by lia,by lia,p1 _ G1 H1 fr.ext (zWM 0 _)⟩
    ·exact p1.elim
   |cons _ _=>exact qA5 p1
  |_=>exact qA5 p1
theorem zJM:∀(ds:List Dt)(n:Nat),(Mi.enumD n ds).length=ds.length
 |[],_=>rfl
 |_::r,n=>by rw[Mi.enumD,qAt,qAt,zJM r]
theorem zJN:∀(ds:List Dt)(n i:Nat)(d:Dt),(Mi.enumD n ds)[i]?=some d->∃e,ds[i]?=some e/\d=.tup [.int ((n+i:Nat):Int),e]
 |[],_,_,_,h=>by simp[Mi.enumD]at h
 |x::r,n,0,d,h=>by simp[Mi.enumD]at h;exact⟨x,by simp,by rw[<- h];rfl⟩
 |x::r,n,i+1,d,h=>by
  rw[Mi.enumD]at h;obtain⟨e,h1,h2⟩:=zJN r (n+1) i d (by simpa using h);exact⟨e,by simpa using h1,by rw[h2,show n+1+i=n+(i+1) by lia]⟩
theorem Ext.new{G H:Hp}(s:Same G H){T:Addr}(hT:H T=none)(o:HO):Ext G H (upd G T o) (upd H T o):=by
 refine⟨L2.same_new (s.free hT) o,L2.same_new hT o,fun b u e=>?_,fun b hb=>zAH fun z=>hb (z▸hT)⟩
 by_cases z:b=T
 ·subst z;rw[zAJ]at e ⊢;exact e
 ·rw[zAH z]at e ⊢;exact s _ _ e
theorem zWN{K:qA1}{G:Hp}{a:Addr}{xs:List V}{ds:List Dt}(ha:G a=some (.lst xs))(r:RepL G ds xs):ItOk (Ite K a) G (Mi.enumD 0 ds):=by
 intro i G1 H1 s1 s2;have hS:SqL K H1 a xs:=SqL.of (s2 _ _ (s1 _ _ ha));rw[zJM];refine⟨fun hi=>⟨xs,xs[i]'(by rw[r.length];exact hi),hS,by simp⟩,fun hi=>⟨xs,hS,by rw[r.length];exact hi⟩,fun x H2 d hd hy=>?_⟩;obtain⟨T,y,rfl,hT,rfl,hy⟩:=hy;obtain⟨e,h1,rfl⟩:=zJN ds 0 i d hd;have x1:=Ext.new s2 hT (.tup [.int i,y]);refine⟨_,x1,T,_,rfl,zAJ,_,_,rfl,?_,_,_,rfl,Rep.mono (s1.trans x1.g) (zBP r h1 (hy xs hS)),rfl⟩;show V.int (i:Int)=.int ((0+i:Nat):Int);rw[qC3]
theorem zU7{K:qA1}(A:DA mg E t m 0):DI mg E (zTZ K t) (Mi.iEn m) false:=by
 intro G H σ ρ Q s w p;refine A.step errI s w p fun ds vs G1 H1 S T _ fr o p1=>?_
 have r:=o.repL;cases ds with
 |nil=>exact qA5 p1
 |cons hd1 tl1=>
  cases hd1 with
  |lst es=>
   cases tl1 with
   |nil=>
    obtain⟨x,rfl,a,xs,rfl,ha,ra⟩:=zEF r;exact⟨⟨xs,SqL.of (fr.ext.in' _ _ ha)⟩,p1 _ G1 H1 fr.ext (zWN ha ra)⟩
   |cons _ _=>exact qA5 p1
  |_=>exact qA5 p1
noncomputable def zFW:St->List (Nat×V)->St
 |σ,[]=>σ
 |σ,(i,v)::r=>zFW (σ.set i (some v)) r
inductive BsRep(G:Hp):List (Nat×Dt)->List (Nat×V)->Prop
 |nil:BsRep G [] []
 |cons {i d v bs ws}:Rep G d v->BsRep G bs ws->BsRep G ((i,d)::bs) ((i,v)::ws)
theorem View.set{G:Hp}{σ:St}{ρ:Rh}{i:Nat}{d:Dt}{v:V}(w:View G σ ρ)(r:Rep G d v):View G (σ.set i (some v)) (ρ.set i (some d)):=by
 refine⟨by simp[w.len],fun j e h=>?_,w.tab⟩;have hj:j<ρ.length:=by
  have:=(qA4.mp h).1
  simpa using this
 by_cases z:i=j
 ·subst z;rw[qAo hj]at h;cases h;exact⟨v,qAo (by rw[<- w.len];exact hj),r⟩
 ·rw[qAs z]at h;obtain⟨u,h1,h2⟩:=w.at j e h;exact⟨u,by rw[qAs z];exact h1,h2⟩
theorem View.sets{G:Hp}{bs ws}(h:BsRep G bs ws):∀{σ:St}{ρ:Rh},View G σ ρ->View G (zFW σ ws) (zAM ρ bs):=by
 induction h with
 |nil=>exact fun w=>w
 |cons r _ ih=>exact fun w=>ih (w.set r)
def TgOk(g:TG)(tg:Tg):Prop:=∀(G H:Hp)(σ:St)(d:Dt)(x:V)(bs:List (Nat×Dt))(Q:St->Hp->Prop),Same G H->Rep G d x->zAR tg d=some bs->(∀ws,BsRep G bs ws->Q (zFW σ ws) H)->g x σ H Q
def zRB(g:TGs)(is:List Nat):Prop:=∀(G H:Hp)(σ:St)(ds:List Dt)(xs:List V)(Q:St->Hp->Prop),RepL G ds xs->ds.length=is.length->(∀ws,BsRep G (is.zip ds) ws->Q (zFW σ ws) H)->g xs σ H Q
theorem zAZ(i:Nat):TgOk (zF4 i) (.one i):=by
 intro G H σ d x bs Q s r e h;cases e;exact h [(i,x)] (.cons r .nil)
theorem zH8:zRB gNil []:=by
 intro G H σ ds xs Q r hl h;cases ds with
 |nil=>cases(show xs=[] from r);exact⟨rfl,h [] .nil⟩
 |cons _ _=>simp at hl
theorem zCU(i:Nat){g:TGs}{is:List Nat}(hg:zRB g is):zRB (zWQ (zF4 i) g) (i::is):=by
 intro G H σ ds xs Q r hl h;cases ds with
 |nil=>simp at hl
 |cons d ds=>
  obtain⟨x,q,rfl,a,b⟩:=r;exact⟨x,q,rfl,hg G H _ ds q Q b (by simpa using hl) fun ws hw=>h ((i,x)::ws) (.cons a hw)⟩
theorem zLB{K:qA1}{g:TGs}{is:List Nat}{k:Nat}(hg:zRB g is)(hk:is.length=k):TgOk (gTup K k g) (.tup is):=by
 intro G H σ d x bs Q s r e h;cases d with
 |tup ds=>
  obtain⟨a,xs,rfl,ha,ra⟩:=r;rw[zAR]at e
  by_cases hz:ds.length=is.length
  ·rw[if_pos hz]at e;cases e;exact⟨a,xs,rfl,SqT.of (s _ _ ha),by rw[ra.length,hz,hk],hg G H σ ds xs Q ra hz h⟩
  ·rw[if_neg hz]at e;cases e
 |_=>simp[zAR]at e
theorem zJ1:∀(ws:List (Nat×V))(σ own:St),(∀p∈ws,σ.length<=p.1)->∃own':St,own'.length=own.length/\zFW (σ++own) ws=σ++own'
 |[],σ,own,_=>⟨own,rfl,rfl⟩
 |(i,v)::r,σ,own,h=>by
  have hi:σ.length<=i:=h (i,v) (by simp);rw[zFW,qE0 _ _ hi];obtain⟨o,h1,h2⟩:=zJ1 r σ (own.set (i-σ.length) (some v)) fun p hp=>h p (by simp[hp])
  exact⟨o,by rw[h1,qFc],h2⟩
theorem BsRep.idx{G:Hp}{bs ws}(h:BsRep G bs ws):ws.map (·.1)=bs.map (·.1):=by
 induction h with
 |nil=>rfl
 |cons _ _ ih=>simp[ih]
theorem zPE{tg:Tg}{d:Dt}{bs:List (Nat×Dt)}(h:zAR tg d=some bs):∀i∈bs.map (·.1),i∈tg.idx:=by
 cases tg with
 |one i=>cases h;simp[Tg.idx]
 |tup is=>
  cases d with
  |tup ds=>
   rw[zAR]at h
   split at h
   ·cases h;intro i hi;obtain⟨p,hp,e⟩:=qAf.mp hi;rw[<- e];obtain⟨a,b⟩:=p;exact(qD3 hp).1
   ·cases h
  |_=>simp[zAR]at h
theorem zB8{wi:TI}{g:TG}{tif:TT}{it:IM}{tg:Tg}{c:TM}(I:DI mg E wi it ind)(hT:TgOk g tg)(C:DT mg E tif c)(B:DE mg E te me n):DE mg E (zSR wi k g tif te) (Mi.eComp it k tg c me) (n+1):=by
 intro G H σ ρ Q s w p;refine I.step errE s w p fun ds J G1 H1 _ x1 io p1=>?_
 by_cases hz:ds.length<=100000/\(tg.idx.all fun i=>decide (ρ.length<=i))=true
 case neg=>rw[if_neg hz]at p1;exact p1.elim
 rw[if_pos hz]at p1;obtain⟨hz,hix⟩:=hz;have hb1:Same (zPF ind G1) G1:=by
  unfold zPF
  split
  ·exact fun b o e=>by cases e
  ·exact Same.refl _
 refine⟨fun i m acc H'=>m=ds.length-i/\i<=ds.length/\∃G' as S T,Fr G H G' H' S/\Same G1 G'/\OwnA G' H' n S as acc T/\as.length<=i/\PostE mg E G H (n+1) (zA2 (Mi.compGo ρ k tg c me (ds.drop i) as) fun es=>okR (.lst es)) Q,
  ⟨_,rfl,qBk _,G1,[],fun _=>False,fun _ _=>False,⟨x1,fun _ z=>z.elim⟩,Same.refl _,⟨rfl,fun q d x h=>by simp at h,fun _ _ _ z=>z.elim,fun _ _ z=>z.elim⟩,qA6 _,by rw[qCs];exact p1⟩,?_⟩
 rintro i m acc H' ⟨rfl,hi,G',as,S,T,fr,sg,o,hl,p⟩
 obtain⟨j1,j2,j3⟩:=io i G' H' (hb1.trans sg) fr.ext.in'
 by_cases hlt:i<ds.length
 ·refine .inr ⟨j1 hlt,by rw[o.len];exact L2.big (by lia),fun acc' H''=>ds.length-(i+1)=ds.length-(i+1)/\i+1<=ds.length/\∃G' as S T,Fr G H G' H'' S/\Same G1 G'/\OwnA G' H'' n S as acc' T/\as.length<=i+1/\PostE mg E G H (n+1) (zA2 (Mi.compGo ρ k tg c me (ds.drop (i+1)) as) fun es=>okR (.lst es)) Q,
   fun acc' H'' q=>⟨ds.length-(i+1),by lia,q⟩,fun x H2 hy=>?_⟩
  have hd:ds[i]?=some ds[i]:=qA7 hlt;obtain⟨G2,x2,r2⟩:=j3 x H2 ds[i] hd hy;rw[qBp hlt,Mi.compGo]at p;cases eb:zAR tg ds[i]with
  |none=>rw[eb]at p;exact p.elim
  |some bs=>
   rw[eb]at p;dsimp only at p;refine hT G2 H2 _ _ x bs _ x2.in' r2 eb fun ws hb=>?_
   have hsl:∀q∈ws,σ.length<=q.1:=fun q hq=>by
    have h1:q.1∈bs.map (·.1):=by rw[<- hb.idx];exact qEd hq
    have h2:=qCu.mp hix q.1 (zPE eb q.1 h1);rw[<- w.len];exact of_decide_eq_true h2
   obtain⟨own,ho1,ho2⟩:=zJ1 ws σ (qA2 k none) hsl;refine⟨own,by rw[ho1,qC0],ho2,?_⟩;have x02:=fr.ext.trans x2;have w2:View G2 (zFW (σ++qA2 k none) ws) (zAM (ρ++qA2 k none) bs):=by
    refine View.sets hb ⟨by simp[w.len],fun j d h=>?_,w.tab.trans x02.g⟩
    by_cases hj:j<ρ.length
    ·rw[qA9 hj]at h;obtain⟨v,a,b⟩:=w.at j d h;exact⟨v,by rw[qA9 (by rw[<- w.len];exact hj)];exact a,Rep.mono x02.g b⟩
    ·rw[qAa (by lia),qBi]at h
     split at h<;>cases h
   refine C.step ((errB errE _).from x02) x2.in' w2 p fun b H3 _ s3 p3=>?_
   have x3:Ext G2 H2 G2 H3:=Ext.same x2.in' s3;have x03:=x02.trans x3;have newS:∀a,S a->H a=none/\G2 a=none/\H3 a≠none:=fun a ha=>by
    obtain⟨n1,n2,n3⟩:=fr.new a ha;exact⟨n1,(x2.old a n3).trans n2,s3.some (x2.h.some n3)⟩
   have own3:OwnA G2 H3 n S as acc T:=⟨o.len,fun q d y h1 h2=>(o.own q d y h1 h2).mono x2.g (x2.h.trans s3),o.dis,o.sub⟩
   cases b with
   |false=>exact⟨rfl,hlt,G2,as,S,T,⟨x03,newS⟩,sg.trans x2.g,own3,by lia,p3⟩
   |true=>
    refine B.step ((errB errE _).from x03) x3.in' w2 p3 fun e v G4 H4 S4 _ fr4 o4 p4=>?_
    have ap:∀q b,T q b->S4 b->False:=fun q b h1 h2=>(newS b (o.sub q b h1)).2.2 (fr4.new b h2).1
    refine⟨rfl,hlt,G4,as++[e],fun a=>S a\/S4 a,fun q b=>(q<as.length/\T q b)\/(q=as.length/\S4 b),⟨x03.trans fr4.ext,fun a ha=>?_⟩,sg.trans (x2.g.trans fr4.ext.g),⟨by simp[o.len],fun q d y h1 h2=>?_,fun q r b h1 h2=>?_,fun q b h=>?_⟩,by simp;lia,p4⟩
    ·rcases ha with ha|ha
     ·obtain⟨n1,n2,n3⟩:=newS a ha;exact⟨n1,(fr4.ext.old a n3).trans n2,fr4.ext.h.some n3⟩
     ·obtain⟨n1,n2,n3⟩:=fr4.new a ha;exact⟨x03.h.free n1,n2,n3⟩
    ·by_cases hq:q<as.length
     ·rw[qA9 hq]at h1;rw[qA9 (by rw[o.len];exact hq)]at h2;exact((own3.own q d y h1 h2).mono fr4.ext.g fr4.ext.h).sub fun b z=>.inl ⟨hq,z⟩
     ·rw[qAa (by lia)]at h1;rw[qAa (by rw[o.len];lia),o.len]at h2;have hq0:q-as.length=0:=by
       have:=(qA4.mp h1).1
       simp at this;lia
      rw[hq0]at h1 h2;simp at h1 h2;subst h1;subst h2;exact o4.sub fun b z=>.inr ⟨by lia,z⟩
    ·rcases h1 with⟨a1,t1⟩|⟨a1,t1⟩<;>rcases h2 with⟨a2,t2⟩|⟨a2,t2⟩
     ·exact o.dis q r b t1 t2
     ·exact(ap q b t1 t2).elim
     ·exact(ap r b t2 t1).elim
     ·lia
    ·rcases h with⟨_,z⟩|⟨_,z⟩
     ·exact .inl (o.sub q b z)
     ·exact .inr z
 ·have e:i=ds.length:=by lia
  subst e;refine .inl ⟨j2 (qA6 _),fun D hD=>?_⟩;rw[qDr,Mi.compGo]at p;exact p (.ref D) G' _ _ (fr.add hD _) ⟨D,acc,T,rfl,zAJ,o.kids (fun b hb=>(fr.new b hb).2.2) hD _⟩
end
end
section
variable[Kc]
structure Sat(G0 H0 S0:Hp)(σ:St)(ρ:Ro)(G H:Hp)(As:Nat->Addr->Prop):Prop where
 ext:Ext G0 H0 G H
 stb:Same S0 G
 tab:Same (tabK Kc.K) G0
 len:ρ.length=σ.length
 «at»:∀(i:Nat)(d:Dt)(n:Nat),ρ[i]?=some (some (d,n))->∃v,σ[i]?=some (some v)/\Own G H n (As i) d v
 dis:∀i j a,As i a->As j a->i=j
 new:∀i a,As i a->H0 a=none/\G a=none/\H a≠none
section
variable{G0 H0 S0:Hp}{σ:St}{ρ:Ro}{G H:Hp}{As:Nat->Addr->Prop}
theorem Sat.grow(a:Sat G0 H0 S0 σ ρ G H As){H':Hp}(s:Same H H'):Sat G0 H0 S0 σ ρ G H' As:=
 ⟨a.ext.trans (Ext.same a.ext.in' s),a.stb,a.tab,a.len,fun i d n e=>let⟨v,h1,h2⟩:=a.at i d n e;⟨v,h1,h2.mono (Same.refl _) s⟩,a.dis,fun i b h=>let⟨n1,n2,n3⟩:=a.new i b h;⟨n1,n2,s.some n3⟩⟩
theorem Sat.wider(a:Sat G0 H0 S0 σ ρ G H As){G' H':Hp}(x:Ext G H G' H'):Sat G0 H0 S0 σ ρ G' H' As:=
 ⟨a.ext.trans x,a.stb.trans x.g,a.tab,a.len,fun i d n e=>let⟨v,h1,h2⟩:=a.at i d n e;⟨v,h1,h2.mono x.g x.h⟩,a.dis,fun i b h=>let⟨n1,n2,n3⟩:=a.new i b h;⟨n1,(x.old b n3).trans n2,x.h.some n3⟩⟩
theorem Sat.full(a:Sat G0 H0 S0 σ ρ G H As):∃J,Ext G0 H0 J H/\Same G J/\View J σ (full ρ):=by
 obtain⟨s1,s2⟩:=zCJ (S:=fun b=>∃i,As i b) a.ext.in';refine⟨over G H fun b=>∃i,As i b,⟨a.ext.g.trans s1,a.ext.h,s2,fun b hb=>?_⟩,s1,by simp[Mi.full,a.len],fun i d e=>?_,a.tab.trans (a.ext.g.trans s1)⟩
 ·have z:¬ ∃i,As i b:=fun⟨i,z⟩=>hb (a.new i b z).1
  rw[zBZ z];exact a.ext.old b hb
 ·unfold Mi.full at e;rw[qAe]at e;cases e1:ρ[i]? with
  |none=>rw[e1]at e;cases e
  |some o=>
   rw[e1]at e;cases o with
   |none=>cases e
   |some sl=>
    obtain⟨d',n⟩:=sl;cases e;obtain⟨v,h1,h2⟩:=a.at i _ n e1;exact⟨v,h1,h2.rep s1 fun b o hb e=>by rw[zDM ⟨i,hb⟩];exact e⟩
theorem Sat.put(a:Sat G0 H0 S0 σ ρ G H As){i n:Nat}{d:Dt}{v:V}{S:Addr->Prop}(o:Own G H n S d v)(hS:∀b,S b->H0 b=none/\G b=none/\H b≠none)(hd:∀j b,j≠i->As j b->S b->False) :
  Sat G0 H0 S0 (σ.set i (some v)) (ρ.set i (some (d,n))) G H (fun j=>if j=i then S else As j):=by
 refine⟨a.ext,a.stb,a.tab,by simp[a.len],fun j e k h=>?_,fun j l b h1 h2=>?_,fun j b h=>?_⟩
 ·have hj:j<ρ.length:=by
   have:=(qA4.mp h).1
   simpa using this
  by_cases z:i=j
  ·subst z;rw[qAo hj]at h;cases h;exact⟨v,qAo (by rw[<- a.len];exact hj),by rw[if_pos rfl];exact o⟩
  ·rw[qAs z]at h;obtain⟨u,h1,h2⟩:=a.at j e k h;exact⟨u,by rw[qAs z];exact h1,by rw[if_neg (fun q=>z q.symm)];exact h2⟩
 ·try dsimp only at h1 h2
  by_cases z1:j=i
  ·by_cases z2:l=i
   ·rw[z1,z2]
   ·rw[if_pos z1]at h1;rw[if_neg z2]at h2;exact(hd l b z2 h2 h1).elim
  ·by_cases z2:l=i
   ·rw[if_neg z1]at h1;rw[if_pos z2]at h2;exact(hd j b z1 h1 h2).elim
   ·rw[if_neg z1]at h1;rw[if_neg z2]at h2;exact a.dis j l b h1 h2
 ·try dsimp only at h
  by_cases z1:j=i
  ·rw[if_pos z1]at h;exact hS b h
  ·rw[if_neg z1]at h;exact a.new j b h
theorem Sat.set(a:Sat G0 H0 S0 σ ρ G H As){H':Hp}{i n:Nat}{d:Dt}{v:V}{S:Addr->Prop}(s:Same H H')(o:Own G H' n S d v)(hS:∀b,S b->H b=none/\G b=none/\H' b≠none) :
  Sat G0 H0 S0 (σ.set i (some v)) (ρ.set i (some (d,n))) G H' (fun j=>if j=i then S else As j):=
 (a.grow s).put o (fun b hb=>⟨a.ext.h.free (hS b hb).1,(hS b hb).2⟩) fun j b _ h1 h2=>(a.new j b h1).2.2 (hS b h2).1
theorem Sat.frz1(a:Sat G0 H0 S0 σ ρ G H As)(i:Nat):∃G1 As1,Sat G0 H0 S0 σ (Mi.frz1 i ρ) G1 H As1:=by
 unfold Mi.frz1;cases e1:ρ[i]? with
 |none=>exact⟨G,As,a⟩
 |some o=>
  cases o with
  |none=>exact⟨G,As,a⟩
  |some sl=>
   obtain⟨d,n⟩:=sl;dsimp only;obtain⟨v,h1,h2⟩:=a.at i d n e1;obtain⟨s1,s2⟩:=zCJ (S:=As i) a.ext.in';have x:Ext G0 H0 (over G H (As i)) H:=⟨a.ext.g.trans s1,a.ext.h,s2,fun b hb=>by
    have z:¬As i b:=fun z=>hb (a.new i b z).1
    rw[zBZ z];exact a.ext.old b hb⟩
   have hv:(σ.set i (some v))=σ:=by
    have hi:i<σ.length:=(qA4.mp h1).1;have he:=(qA4.mp h1).2;rw[<- he,qE1]
   have b:Sat G0 H0 S0 σ (ρ.set i (some (d,0))) (over G H (As i)) H (fun j b=>j≠i/\As j b):=by
    refine⟨x,a.stb.trans s1,a.tab,by simp[a.len],fun j e k h=>?_,fun j l b p q=>a.dis j l b p.2 q.2,fun j b p=>?_⟩
    ·have hj:j<ρ.length:=by
      have:=(qA4.mp h).1
      simpa using this
     by_cases z:i=j
     ·subst z;rw[qAo hj]at h;cases h;exact⟨v,h1,h2.rep s1 fun b o hb e=>by rw[zDM hb];exact e⟩
     ·rw[qAs z]at h;obtain⟨u,q1,q2⟩:=a.at j e k h;exact⟨u,q1,(q2.mono s1 (Same.refl _)).sub fun b hb=>⟨fun q=>z q.symm,hb⟩⟩
    ·obtain⟨n1,n2,n3⟩:=a.new j b p.2;have z:¬As i b:=fun z=>p.1 (a.dis j i b p.2 z)
     exact⟨n1,by rw[zBZ z];exact n2,n3⟩
   exact⟨_,_,b⟩
theorem Sat.frzAt:∀(vs:List Nat){ρ:Ro}{G:Hp}{As:Nat->Addr->Prop},Sat G0 H0 S0 σ ρ G H As->∃G1 As1,Sat G0 H0 S0 σ (Mi.frzAt vs ρ) G1 H As1
 |[],_,_,_,a=>⟨_,_,a⟩
 |i::r,_,_,_,a=>by
  obtain⟨G1,As1,b⟩:=a.frz1 i;exact Sat.frzAt r b
theorem Sat.frz(a:Sat G0 H0 S0 σ ρ G H As):View G σ (Mi.frz ρ):=by
 refine⟨by simp[Mi.frz,a.len],fun i d e=>?_,a.tab.trans a.ext.g⟩;unfold Mi.frz at e;rw[qAe]at e;cases e1:ρ[i]? with
 |none=>rw[e1]at e;cases e
 |some o=>
  rw[e1]at e;cases o with
  |none=>cases e
  |some sl=>
   obtain⟨d',n⟩:=sl;obtain⟨v,h1,h2⟩:=a.at i d' n e1;simp only[Option.map_some,qGs]at e
   split at e
   ·rename_i hz
    cases e
    rcases hz with hz|hz
    ·subst hz;exact⟨v,h1,h2⟩
    ·exact⟨v,h1,Own.scalar (k:=0) (G2:=G) (H2:=H) (S2:=fun _=>False) h2 hz⟩
   ·cases e
theorem Sat.store(a:Sat G0 H0 S0 σ ρ G H As){i n:Nat}{d:Dt}{v:V}{p:Addr}{o:HO}{S:Addr->Prop}(hp:As i p)(hv:σ[i]?=some (some v))(w:Own G (upd H p o) n S d v)
  (hS:∀b,S b->As i b\/(H0 b=none/\G b=none/\H b≠none/\∀j,¬As j b)):Sat G0 H0 S0 σ (ρ.set i (some (d,n))) G (upd H p o) (fun j=>if j=i then S else As j):=by
 obtain⟨p1,p2,p3⟩:=a.new i p hp;have hn:∀b,H b≠none->upd H p o b≠none:=fun b hb=>by
  by_cases z:b=p
  ·subst z;rw[zAJ];simp
  ·rw[zAH z];exact hb
 refine⟨⟨a.ext.g,L2.Same.upd a.ext.h p1 o,L2.Same.upd a.ext.in' p2 o,a.ext.old⟩,a.stb,a.tab,by simp[a.len],fun j e k h=>?_,fun j l b h1 h2=>?_,fun j b h=>?_⟩
 ·have hj:j<ρ.length:=by
   have:=(qA4.mp h).1
   simpa using this
  by_cases z:i=j
  ·subst z;rw[qAo hj]at h;cases h;exact⟨v,hv,by rw[if_pos rfl];exact w⟩
  ·rw[qAs z]at h;obtain⟨u,h1,h2⟩:=a.at j e k h;exact⟨u,h1,by rw[if_neg (fun q=>z q.symm)];exact h2.upd fun q=>z (a.dis i j p hp q)⟩
 ·have key:∀j b,j≠i->As j b->S b->False:=fun j b hj h1 h2=>by
   rcases hS b h2 with q|⟨_,_,_,q⟩
   ·exact hj (a.dis j i b h1 q)
   ·exact q j h1
  try dsimp only at h1 h2
  by_cases z1:j=i
  ·by_cases z2:l=i
   ·rw[z1,z2]
   ·rw[if_pos z1]at h1;rw[if_neg z2]at h2;exact(key l b z2 h2 h1).elim
  ·by_cases z2:l=i
   ·rw[if_neg z1]at h1;rw[if_pos z2]at h2;exact(key j b z1 h1 h2).elim
   ·rw[if_neg z1]at h1;rw[if_neg z2]at h2;exact a.dis j l b h1 h2
 ·try dsimp only at h
  by_cases z1:j=i
  ·rw[if_pos z1]at h
   rcases hS b h with q|⟨q1,q2,q3,_⟩
   ·obtain⟨n1,n2,n3⟩:=a.new i b q;exact⟨n1,n2,hn b n3⟩
   ·exact⟨q1,q2,hn b q3⟩
  ·rw[if_neg z1]at h;obtain⟨n1,n2,n3⟩:=a.new j b h;exact⟨n1,n2,hn b n3⟩
end
def zGV(mg:Str->Option Value)(E:XK)(G0 H0 S0:Hp)(L:Nat)(r:R Out)(D:Ends):Prop:=match r with
 |none=>False
 |some (.error x)=>∀c da G' H',Ext G0 H0 G' H'->XRep mg x c da G' H'->E c da H'
 |some (.ok (.nx ρ))=>∀σ G H As,Sat G0 H0 S0 σ ρ G H As->D.nx σ H
 |some (.ok (.bk ρ))=>∀σ G H As,Sat G0 H0 S0 σ ρ G H As->D.bk σ H
 |some (.ok (.ct ρ))=>∀σ G H As,Sat G0 H0 S0 σ ρ G H As->D.ct σ H
 |some (.ok (.rt d))=>∀v G H S,Fr G0 H0 G H S->Own G H L S d v->D.rt v H
def DS(mg:Str->Option Value)(E:XK)(L:Nat)(t:TS)(m:SM):Prop:=∀(G0 H0 S0:Hp)(σ:St)(ρ:Ro)(G H:Hp)(As:Nat->Addr->Prop)(D:Ends),Sat G0 H0 S0 σ ρ G H As->zGV mg E G0 H0 S0 L (m ρ) D->t D σ H
section
variable{mg:Str->Option Value}{E:XK}{L n k l:Nat}{te ta tb:TE}{e ea eb:EM}{t u:TS}{m m':SM}
theorem errS{G0 H0 S0:Hp}{D:Ends}:Err mg E G0 H0 (fun r=>zGV mg E G0 H0 S0 L r D):=⟨fun h=>h,fun _ h=>h⟩
theorem zDI:DS mg E L zUW Mi.sNil:=fun G0 H0 S0 σ ρ G H As D a p=>p σ G H As a
theorem zAG(A:DS mg E L t m)(B:DS mg E L u m'):DS mg E L (tSeq t u) (Mi.sSeq m m'):=by
 intro G0 H0 S0 σ ρ G H As D a p;refine A G0 H0 S0 σ ρ G H As _ a ?_;unfold Mi.sSeq at p;cases e:m ρ with
 |none=>rw[e]at p;exact p
 |some r=>
  rw[e]at p;cases r with
  |error x=>exact p
  |ok o=>
   cases o with
   |nx ρ'=>exact fun σ' G' H' As' a'=>B G0 H0 S0 σ' ρ' G' H' As' D a' p
   |rt d=>exact p
   |bk ρ'=>exact p
   |ct ρ'=>exact p
theorem zF5{tc:TT}{c:TM}(C:DT mg E tc c)(A:DS mg E L t m)(B:DS mg E L u m'):DS mg E L (tIfS tc t u) (Mi.sIf c m m'):=by
 intro G0 H0 S0 σ ρ G H As D a p;obtain⟨J,x,s,w⟩:=a.full;refine C.step (errS.from x) x.in' w p fun b H' _ sH p1=>?_
 cases b with
 |true=>exact A G0 H0 S0 σ ρ G H' As D (a.grow sH) p1
 |false=>exact B G0 H0 S0 σ ρ G H' As D (a.grow sH) p1
theorem whole{G0 H0 S0:Hp}{σ:St}{ρ:Ro}{G H J G1 H1:Hp}{As:Nat->Addr->Prop}{S:Addr->Prop}{d:Dt}{v:V}(a:Sat G0 H0 S0 σ ρ G H As)(s:Same G J)(fr:Fr J H G1 H1 S)(o:Own G1 H1 n S d v)(hn:n<1000)(hd:d.dep<=n)(hk:d.dep<=k) :
  Own G H1 k S d v/\∀b,S b->H b=none/\G b=none/\H1 b≠none:=
 ⟨o.at hd hk hn,fun b hb=>let⟨n1,n2,n3⟩:=fr.new b hb;⟨n1,a.ext.in'.free n1,n3⟩⟩
theorem zAO{i:Nat}(vs:List Nat)(A:DE mg E te e n)(hn:n<1000:=by decide):DS mg E L (tAsg te (zF4 i)) (Mi.sSet i n vs e):=by
 intro G0 H0 S0 σ ρ G H As D a p;obtain⟨J,x,s,w⟩:=a.full;unfold Mi.sSet at p;cases ee:e (full ρ)with
 |none=>rw[ee]at p;exact p.elim
 |some r=>
  cases r with
  |error y=>exact A.step (errS.from x) x.in' w p fun d v G1 H1 S e1 fr o p1=>by rw[ee]at e1;cases e1
  |ok d=>
   by_cases hd:d.dep<=n
   ·refine A.step (errS.from x) x.in' w p fun d' v G1 H1 S e1 fr o p1=>?_
    rw[ee]at e1;cases e1;rw[if_pos hd]at p1;obtain⟨q1,q2⟩:=whole (k:=n) a s fr o hn hd hd;exact p1 _ G H1 _ (a.set fr.ext.h q1 q2)
   ·rw[ee]at p;have p':zGV mg E G0 H0 S0 L (zA2 (e (frz (frzAt vs ρ))) fun d'=>okR (.nx ((frzAt vs ρ).set i (some (d',n))))) D:=by
     have p2:zGV mg E G0 H0 S0 L (if d.dep<=n then okR (.nx (ρ.set i (some (d,n))))else zA2 (e (frz (frzAt vs ρ))) fun d'=>okR (.nx ((frzAt vs ρ).set i (some (d',n))))) D:=p;rw[if_neg hd]at p2;exact p2
    obtain⟨G1,As1,a1⟩:=Sat.frzAt vs a;refine A.step (errS.from a1.ext) a1.ext.in' a1.frz p' fun d' v G2 H2 S _ fr o p1=>?_
    exact p1 _ G2 H2 _ ((a1.wider fr.ext).put o (fun b hb=>let⟨n1,n2,n3⟩:=fr.new b hb;⟨a1.ext.h.free n1,n2,n3⟩) fun j b _ h1 h2=>(a1.new j b h1).2.2 (fr.new b h2).1)
theorem zCO(vs:List Nat)(A:DE mg E te e n)(hn:n<1000:=by decide):DS mg E L (tRet te) (Mi.sRet L n vs e):=by
 intro G0 H0 S0 σ ρ G H As D a p;obtain⟨J,x,s,w⟩:=a.full;unfold Mi.sRet at p;cases ee:e (full ρ)with
 |none=>rw[ee]at p;exact p.elim
 |some r=>
  cases r with
  |error y=>exact A.step (errS.from x) x.in' w p fun d v G1 H1 S e1 fr o p1=>by rw[ee]at e1;cases e1
  |ok d=>
   by_cases hd:d.dep<=n/\d.dep<=L
   ·refine A.step (errS.from x) x.in' w p fun d' v G1 H1 S e1 fr o p1=>?_
    rw[ee]at e1;cases e1;rw[if_pos hd]at p1;exact p1 v G1 H1 S (Fr.from x fr) (o.at hd.1 hd.2 hn)
   ·rw[ee]at p;have p2:zGV mg E G0 H0 S0 L (if d.dep<=n/\d.dep<=L then okR (.rt d)else if n=L then zA2 (e (frz (frzAt vs ρ))) fun d'=>okR (.rt d')else none) D:=p;rw[if_neg hd]at p2
    by_cases hl:n=L
    ·rw[if_pos hl]at p2;subst hl;obtain⟨G1,As1,a1⟩:=Sat.frzAt vs a;refine A.step (errS.from a1.ext) a1.ext.in' a1.frz p2 fun d' v G2 H2 S _ fr o p1=>?_
     exact p1 v G2 H2 S (Fr.from a1.ext fr) o
    ·rw[if_neg hl]at p2;exact p2.elim
theorem zC7(i:Nat):DS mg E L (tRet (vM i)) (Mi.sRetV L i):=by
 intro G0 H0 S0 σ ρ G H As D a p;unfold Mi.sRetV at p;cases e1:ρ[i]? with
 |none=>rw[e1]at p;exact p.elim
 |some o=>
  rw[e1]at p;cases o with
  |none=>exact p.elim
  |some sl=>
   obtain⟨d,k⟩:=sl;obtain⟨v,h1,h2⟩:=a.at i d k e1;show vM i σ H D.rt;unfold vM;rw[h1];dsimp only at p
   split at p
   ·rename_i hz
    rcases hz with hz|hz|hz
    ·subst hz;exact p v G H (As i) ⟨a.ext,fun b hb=>a.new i b hb⟩ h2
    ·subst hz;obtain⟨s1,s2⟩:=zCJ (S:=As i) a.ext.in';refine p v (over G H (As i)) H (fun _=>False) ⟨⟨a.ext.g.trans s1,a.ext.h,s2,fun b hb=>?_⟩,fun _ z=>z.elim⟩ (h2.rep s1 fun b o hb e=>by rw[zDM hb];exact e);have z:¬As i b:=fun z=>hb (a.new i b z).1
     rw[zBZ z];exact a.ext.old b hb
    ·exact p v G H (As i) ⟨a.ext,fun b hb=>a.new i b hb⟩ (h2.at hz.1 hz.2.1 hz.2.2)
   ·exact p.elim
theorem Sat.puts{G0 H0 S0 G H:Hp}{bs:List (Nat×Dt)}{ws:List (Nat×V)}(h:BsRep G bs ws):∀{σ:St}{ρ:Ro}{As:Nat->Addr->Prop},Sat G0 H0 S0 σ ρ G H As->∃As',Sat G0 H0 S0 (zFW σ ws) (zAV ρ bs) G H As':=by
 induction h with
 |nil=>exact fun a=>⟨_,a⟩
 |cons r _ ih=>exact fun a=>ih (a.put (n:=0) (S:=fun _=>False) r (fun _ z=>z.elim) fun _ _ _ _ z=>z.elim)
theorem zS5(i:Nat)(A:DE mg E te e n)(hn:n<1000:=by decide):DS mg E L (zK9 (tML appM (vM i) (zIY te tNil))) (Mi.sApp i n e):=by
 intro G0 H0 S0 σ ρ G H As D a p;obtain⟨J,x,s,w⟩:=a.full;unfold Mi.sApp at p;cases e1:ρ[i]? with
 |none=>rw[e1]at p;exact p.elim
 |some o=>
  rw[e1]at p
  match o,e1,p with
  |none,_,p=>exact p.elim
  |some (.lst ds,k+1),e1,p=>
   obtain⟨v,h1,q,xs,T,rfl,hq,kd⟩:=a.at i _ _ e1;unfold zK9 tML vM;rw[h1];refine⟨xs,hq,?_⟩;refine A.step (errS.from x) x.in' w p fun d y G1 H1 S _ fr o p1=>?_
   split at p1
   ·rename_i hz
    obtain⟨q1,q2⟩:=whole (k:=k) a s fr o hn hz.2.1 hz.2.2;refine⟨xs,fr.ext.h _ _ hq,by rw[kd.len];exact L2.big (by lia),?_⟩;have hp:=kd.top;have a1:=a.grow fr.ext.h;have nS:¬S q:=fun z=>(a.new i q hp).2.2 (q2 q z).1
    have ap:∀r b,T r b->S b->False:=fun r b h1 h2=>(a.new i b (kd.sub r b h1)).2.2 (q2 b h2).1
    refine p1 σ G _ _ (a1.store (S:=fun b=>As i b\/S b) hp h1 ⟨q,_,fun r b=>(r<ds.length/\T r b)\/(r=ds.length/\S b),rfl,zAJ,⟨by simp[kd.len],fun r d' z g1 g2=>?_,.inl hp,fun r z=>?_,fun r r' b z1 z2=>?_,fun r b z=>?_⟩⟩ fun b z=>?_)
    ·by_cases hr:r<ds.length
     ·rw[qA9 hr]at g1;rw[qA9 (by rw[kd.len];exact hr)]at g2;exact(((kd.own r d' z g1 g2).mono (Same.refl _) fr.ext.h).upd (kd.out r)).sub fun b z=>.inl ⟨hr,z⟩
     ·rw[qAa (by lia)]at g1;rw[qAa (by rw[kd.len];lia),kd.len]at g2;have hq0:r-ds.length=0:=by
       have:=(qA4.mp g1).1
       simp at this;lia
      rw[hq0]at g1 g2;simp at g1 g2;subst g1;subst g2;exact(q1.upd nS).sub fun b z=>.inr ⟨by lia,z⟩
    ·rcases z with⟨_,z⟩|⟨_,z⟩
     ·exact kd.out r z
     ·exact nS z
    ·rcases z1 with⟨c1,t1⟩|⟨c1,t1⟩<;>rcases z2 with⟨c2,t2⟩|⟨c2,t2⟩
     ·exact kd.dis r r' b t1 t2
     ·exact(ap r b t1 t2).elim
     ·exact(ap r' b t2 t1).elim
     ·lia
    ·rcases z with⟨_,z⟩|⟨_,z⟩
     ·exact .inl (kd.sub r b z)
     ·exact .inr z
    ·rcases z with z|z
     ·exact .inl z
     ·obtain⟨n1,n2,n3⟩:=q2 b z;exact .inr ⟨a.ext.h.free n1,n2,n3,fun j y=>(a.new j b y).2.2 n1⟩
   ·exact p1.elim
  |some (.lst ds,0),_,p=>exact p.elim
  |some (.non,_),_,p=>exact p.elim
  |some (.bl _,_),_,p=>exact p.elim
  |some (.int _,_),_,p=>exact p.elim
  |some (.str _,_),_,p=>exact p.elim
  |some (.tup _,_),_,p=>exact p.elim
  |some (.scr _,_),_,p=>exact p.elim
  |some (.exc _ _ _,_),_,p=>exact p.elim
  |some (.fn _ _,_),_,p=>exact p.elim
  |some (.ins _ _,_),_,p=>exact p.elim
  |some (.dct _,_),_,p=>exact p.elim
theorem Kids.pop{P:(Addr->Prop)->Dt->V->Prop}{S:Addr->Prop}{a:Addr}{ds:List Dt}{xs:List V}{T:Nat->Addr->Prop}(k:Kids P S a ds xs T)(q:Nat) :
  Kids P (fun b=>S b/\¬T q b) a (ds.eraseIdx q) (xs.eraseIdx q) (fun r=>if r<q then T r else T (r+1)):=by
 refine⟨by rw[qE7,qE7,k.len],fun r d x h1 h2=>?_,⟨k.top,k.out q⟩,fun r=>?_,fun r r' b z1 z2=>?_,fun r b z=>?_⟩
 ·rw[List.getElem?_eraseIdx]at h1 h2
  try dsimp only
  by_cases hr:r<q
  ·rw[if_pos hr]at h1 h2 ⊢;exact k.own r d x h1 h2
  ·rw[if_neg hr]at h1 h2 ⊢;exact k.own (r+1) d x h1 h2
 ·try dsimp only
  split
  ·exact k.out _
  ·exact k.out _
 ·try dsimp only at z1 z2
  by_cases h1:r<q<;>by_cases h2:r'<q
  ·rw[if_pos h1]at z1;rw[if_pos h2]at z2;exact k.dis _ _ b z1 z2
  ·rw[if_pos h1]at z1;rw[if_neg h2]at z2;have:=k.dis _ _ b z1 z2;lia
  ·rw[if_neg h1]at z1;rw[if_pos h2]at z2;have:=k.dis _ _ b z1 z2;lia
  ·rw[if_neg h1]at z1;rw[if_neg h2]at z2;have:=k.dis _ _ b z1 z2;lia
 ·try dsimp only at z
  by_cases h1:r<q
  ·rw[if_pos h1]at z;exact⟨k.sub _ b z,fun w=>by have:=k.dis _ _ b z w;lia⟩
  ·rw[if_neg h1]at z;exact⟨k.sub _ b z,fun w=>by have:=k.dis _ _ b z w;lia⟩
theorem zVS{G H:Hp}{p:Addr}{o:HO}{S:Addr->Prop}{a:Addr}{ds:List Dt}{xs:List V}{T:Nat->Addr->Prop}(k:Kids (Own G H n) S a ds xs T)(hp:∀q,¬T q p):Kids (Own G (upd H p o) n) S a ds xs T:=
 ⟨k.len,fun q d x h1 h2=>(k.own q d x h1 h2).upd (hp q),k.top,k.out,k.dis,k.sub⟩
theorem zWY(j i:Nat)(A:DE mg E te e n):DS mg E L (tAsg (tML popM (vM i) (zIY te tNil)) (zF4 j)) (Mi.sPop j i e):=by
 intro G0 H0 S0 σ ρ G H As D a p;obtain⟨J,x,s,w⟩:=a.full;unfold Mi.sPop at p;cases e1:ρ[i]? with
 |none=>rw[e1]at p;exact p.elim
 |some o=>
  rw[e1]at p
  match o,e1,p with
  |none,_,p=>exact p.elim
  |some (.lst ds,k+1),e1,p=>
   obtain⟨v,h1,q,xs,T,rfl,hq,kd⟩:=a.at i _ _ e1;unfold tAsg tML vM;rw[h1];refine⟨xs,hq,?_⟩;refine(zAX A).step (errS.from x) x.in' w p fun d y G1 H1 S _ fr o p1=>?_
   cases d with
   |int z=>
    cases(show y=.int z from o)
    dsimp only at p1;cases ei:Mi.ixA ds.length z with
    |none=>rw[ei]at p1;exact p1.elim
    |some c=>
     rw[ei]at p1;dsimp only at p1;cases ec:ds[c]? with
     |none=>rw[ec]at p1;exact p1.elim
     |some dc=>
      rw[ec]at p1;dsimp only at p1
      split at p1
      ·rename_i hz
       rw[zLU]at ei;obtain⟨g1,g2,g3,g4⟩:=zKO ei;have hc:c<xs.length:=by rw[kd.len];exact g2
       have hx:xs[c]?=some xs[c]:=qA7 hc;refine⟨xs,c,xs[c],fr.ext.h _ _ hq,⟨by lia,by lia⟩,by rw[kd.len];exact g1,hx,?_⟩;have a1:=a.grow fr.ext.h;have kd1:Kids (Own G H1 k) (As i) q ds xs T:=kd.imp (fun _ _ _ _ w=>w.mono (Same.refl _) fr.ext.h) fun _ z=>z
       have a2:=a1.store (o:=.lst (xs.eraseIdx c)) (n:=k+1) (d:=.lst (ds.eraseIdx c)) (S:=fun b=>As i b/\¬T c b) kd.top h1 ⟨q,_,_,rfl,zAJ,zVS (kd1.pop c) fun r=>by split<;>exact kd.out _⟩ fun b z=>.inl z.1
       refine p1 _ G _ _ (a2.put (S:=T c) ((kd1.own c dc _ ec hx).upd (kd.out c)) (fun b hb=>?_) fun l b hl z1 z2=>?_)
       ·obtain⟨n1,n2,n3⟩:=a1.new i b (kd.sub c b hb);refine⟨n1,n2,?_⟩;rw[zAH (fun z:b=q=>kd.out c (z▸hb))];exact n3
       ·try dsimp only at z1
        by_cases z:l=i
        ·rw[if_pos z]at z1;exact z1.2 z2
        ·rw[if_neg z]at z1;exact z (a.dis l i b z1 (kd.sub c b z2))
      ·exact p1.elim
   |_=>exact p1.elim
  |some (.lst ds,0),_,p=>exact p.elim
  |some (.non,_),_,p=>exact p.elim
  |some (.bl _,_),_,p=>exact p.elim
  |some (.int _,_),_,p=>exact p.elim
  |some (.str _,_),_,p=>exact p.elim
  |some (.tup _,_),_,p=>exact p.elim
  |some (.scr _,_),_,p=>exact p.elim
  |some (.exc _ _ _,_),_,p=>exact p.elim
  |some (.fn _ _,_),_,p=>exact p.elim
  |some (.ins _ _,_),_,p=>exact p.elim
  |some (.dct _,_),_,p=>exact p.elim
end
end
section
variable[Kc]{mg:Str->Option Value}{E:XK}{L n k l:Nat}{te ta tb:TE}{e ea eb:EM}{t u:TS}{m m':SM}
theorem Kids.set{G H:Hp}{S:Addr->Prop}{a p:Addr}{ds:List Dt}{xs:List V}{T:Nat->Addr->Prop}{S':Addr->Prop}{d:Dt}{v:V}{o:HO}(k:Kids (Own G H n) S a ds xs T)(q:Nat)(w:Own G (upd H p o) n S' d v)(hp:∀r,r≠q->¬T r p)(ha:¬S' a)
  (hd:∀r b,r≠q->T r b->S' b->False):Kids (Own G (upd H p o) n) (fun b=>S b\/S' b) a (ds.set q d) (xs.set q v) (fun r b=>if r=q then S' b else T r b):=by
 refine⟨by simp[k.len],fun r d' x h1 h2=>?_,.inl k.top,fun r=>?_,fun r r' b z1 z2=>?_,fun r b z=>?_⟩
 ·by_cases z:q=r
  ·subst z;have h:q<ds.length:=by
    have:=(qA4.mp h1).1
    simpa using this
   rw[qAo h]at h1;rw[qAo (by rw[k.len];exact h)]at h2;cases h1;cases h2;exact w.sub fun b hb=>by rw[if_pos rfl];exact hb
  ·rw[qAs z]at h1 h2;exact((k.own r d' x h1 h2).upd (hp r fun y=>z y.symm)).sub fun b hb=>by rw[if_neg (fun y=>z y.symm)];exact hb
 ·try dsimp only
  split
  ·exact ha
  ·exact k.out _
 ·try dsimp only at z1 z2
  by_cases h1:r=q<;>by_cases h2:r'=q
  ·rw[h1,h2]
  ·rw[if_pos h1]at z1;rw[if_neg h2]at z2;exact(hd r' b h2 z2 z1).elim
  ·rw[if_neg h1]at z1;rw[if_pos h2]at z2;exact(hd r b h1 z1 z2).elim
  ·rw[if_neg h1]at z1;rw[if_neg h2]at z2;exact k.dis _ _ b z1 z2
 ·try dsimp only at z
  by_cases h1:r=q
  ·rw[if_pos h1]at z;exact .inr z
  ·rw[if_neg h1]at z;exact .inl (k.sub _ b z)
theorem zU4(i:Nat){n1:Nat}{t1 t2:TE}{e1 e2:EM}(A:DE mg E t1 e1 n1)(B:DE mg E t2 e2 n)(hn:n<1000:=by decide):DS mg E L (tAsg t2 (gSub (vM i) t1 setM)) (Mi.sItem i n e1 e2):=by
 intro G0 H0 S0 σ ρ G H As D a p;obtain⟨J,x,s,w⟩:=a.full;refine B.step (errS.from x) x.in' w p fun d y G1 H1 S _ fr o p1=>?_
 cases er:ρ[i]? with
 |none=>rw[er]at p1;exact p1.elim
 |some sl=>
  rw[er]at p1
  match sl,er,p1 with
  |none,_,p=>exact p.elim
  |some (.lst ds,k+1),er,p1=>
   obtain⟨v,h1,q,xs,T,rfl,hq,kd⟩:=a.at i _ _ er;unfold gSub vM;rw[h1];have x1:Ext J H J H1:=Ext.same x.in' fr.ext.h;refine(zAX A).step (errS.from (x.trans x1)) x1.in' w p1 fun z u G2 H2 S2 _ fr2 o2 p2=>?_
   cases z with
   |int z=>
    cases(show u=.int z from o2)
    try dsimp only at p2
    cases ei:Mi.ixA ds.length z with
    |none=>rw[ei]at p2;exact p2.elim
    |some c=>
     rw[ei]at p2
     try dsimp only at p2
     split at p2
     ·rename_i hz
      rw[zLU]at ei;obtain⟨q1,q2⟩:=whole (k:=k) a s fr o hn hz.1 hz.2;have sH:=fr.ext.h.trans fr2.ext.h;refine⟨xs,c,sH _ _ hq,by rw[kd.len];exact ei,?_⟩;have a1:=a.grow sH;have nS:¬S q:=fun z=>(a.new i q kd.top).2.2 (q2 q z).1
      have kd1:Kids (Own G H2 k) (As i) q ds xs T:=kd.imp (fun _ _ _ _ w=>w.mono (Same.refl _) sH) fun _ z=>z
      refine p2 σ G _ _ (a1.store (S:=fun b=>As i b\/S b) kd.top h1 ⟨q,_,_,rfl,zAJ,kd1.set c ((q1.mono (Same.refl _) fr2.ext.h).upd nS) (fun r _=>kd.out r) nS fun r b _ z1 z2=>(a.new i b (kd.sub r b z1)).2.2 (q2 b z2).1⟩ fun b z=>?_)
      rcases z with z|z
      ·exact .inl z
      ·obtain⟨n1,n2,n3⟩:=q2 b z;exact .inr ⟨a.ext.h.free n1,n2,fr2.ext.h.some n3,fun j y=>(a.new j b y).2.2 n1⟩
     ·exact p2.elim
   |_=>exact p2.elim
  |some (.lst ds,0),_,p=>exact p.elim
  |some (.non,_),_,p=>exact p.elim
  |some (.bl _,_),_,p=>exact p.elim
  |some (.int _,_),_,p=>exact p.elim
  |some (.str _,_),_,p=>exact p.elim
  |some (.tup _,_),_,p=>exact p.elim
  |some (.scr _,_),_,p=>exact p.elim
  |some (.exc _ _ _,_),_,p=>exact p.elim
  |some (.fn _ _,_),_,p=>exact p.elim
  |some (.ins _ _,_),_,p=>exact p.elim
  |some (.dct _,_),_,p=>exact p.elim
theorem zRY{G0 H0 S0:Hp}{D:Ends}{g:TG}{tg:Tg}{J:It}{ds:List Dt}{GJ:Hp}(hT:TgOk g tg)(B:DS mg E L t m)(io:ItOk J GJ ds){σ:St}{ρ:Ro}{G H:Hp}{As:Nat->Addr->Prop}(a:Sat G0 H0 S0 σ ρ G H As)(sJ:Same GJ G)
  (p:zGV mg E G0 H0 S0 L (Mi.forGo tg m ds ρ) D):zPX g t D σ J H:=by
 refine⟨fun i c σ H=>c=ds.length-i/\i<=ds.length/\∃ρ G As,Sat G0 H0 S0 σ ρ G H As/\Same GJ G/\zGV mg E G0 H0 S0 L (Mi.forGo tg m (ds.drop i) ρ) D,
  ⟨_,rfl,qBk _,ρ,G,As,a,sJ,by rw[qCs];exact p⟩,?_⟩
 rintro i c σ H ⟨rfl,hi,ρ,G,As,a,sJ,p⟩
 obtain⟨j1,j2,j3⟩:=io i G H sJ a.ext.in'
 by_cases hlt:i<ds.length
 ·refine .inr ⟨j1 hlt,fun σ' H'=>i+1<=ds.length/\∃ρ G As,Sat G0 H0 S0 σ' ρ G H' As/\Same GJ G/\zGV mg E G0 H0 S0 L (Mi.forGo tg m (ds.drop (i+1)) ρ) D,fun σ' H' q=>⟨ds.length-(i+1),by lia,rfl,q⟩,fun x H2 hy=>?_⟩;have hd:ds[i]?=some ds[i]:=qA7 hlt;obtain⟨G2,x2,r2⟩:=j3 x H2 ds[i] hd hy;rw[qBp hlt,Mi.forGo]at p;cases eb:zAR tg ds[i]with
  |none=>rw[eb]at p;exact p.elim
  |some bs=>
   rw[eb]at p
   try dsimp only at p
   refine hT G2 H2 _ _ x bs _ x2.in' r2 eb fun ws hb=>?_
   obtain⟨As2,a2⟩:=Sat.puts hb (a.wider x2);have a3:Sat G0 H0 GJ (zFW σ ws) (zAV ρ bs) G2 H2 As2:=⟨a2.ext,sJ.trans x2.g,a2.tab,a2.len,a2.at,a2.dis,a2.new⟩
   have key:∀(S1:Hp),Same S0 S1->Same GJ S1->Sat G0 H0 S1 (zFW σ ws) (zAV ρ bs) G2 H2 As2->t { D with nx:=fun σ' H'=>i+1<=ds.length/\∃ρ G As,Sat G0 H0 S0 σ' ρ G H' As/\Same GJ G/\zGV mg E G0 H0 S0 L (Mi.forGo tg m (ds.drop (i+1)) ρ) D,ct:=fun σ' H'=>i+1<=ds.length/\∃ρ G As,Sat G0 H0 S0 σ' ρ G H' As/\Same GJ G/\zGV mg E G0 H0 S0 L (Mi.forGo tg m (ds.drop (i+1)) ρ) D,bk:=D.nx } (zFW σ ws) H2:=by
    intro S1 s1 s2 a4;refine B G0 H0 S1 _ _ G2 H2 As2 _ a4 ?_;have back:∀{σ':St}{ρ':Ro}{G' H':Hp}{As':Nat->Addr->Prop},Sat G0 H0 S1 σ' ρ' G' H' As'->Sat G0 H0 S0 σ' ρ' G' H' As'/\Same GJ G':=fun a5=>⟨⟨a5.ext,s1.trans a5.stb,a5.tab,a5.len,a5.at,a5.dis,a5.new⟩,s2.trans a5.stb⟩
    cases em:m (zAV ρ bs)with
    |none=>rw[em]at p;exact p
    |some r=>
     rw[em]at p;cases r with
     |error y=>exact p
     |ok o=>
      cases o with
      |nx ρ'=>exact fun σ' G' H' As' a5=>⟨hlt,ρ',G',As',(back a5).1,(back a5).2,p⟩
      |ct ρ'=>exact fun σ' G' H' As' a5=>⟨hlt,ρ',G',As',(back a5).1,(back a5).2,p⟩
      |bk ρ'=>exact fun σ' G' H' As' a5=>p σ' G' H' As' (back a5).1
      |rt d=>exact p
   exact key G2 a2.stb (sJ.trans x2.g) ⟨a2.ext,Same.refl _,a2.tab,a2.len,a2.at,a2.dis,a2.new⟩
 ·have e:i=ds.length:=by lia
  subst e;rw[qDr,Mi.forGo]at p;exact .inl ⟨j2 (qA6 _),p σ G H As a⟩
theorem zH4{wi:TI}{it:IM}{g:TG}{tg:Tg}(vs:List Nat){ind:Bool}(I:DI mg E wi it ind)(hT:TgOk g tg)(B:DS mg E L t m):DS mg E L (fun D σ H=>wi σ H (zPX g t D σ)) (Mi.sFor vs it tg m):=by
 intro G0 H0 S0 σ ρ G H As D a p;obtain⟨G1,As1,a1⟩:=Sat.frzAt vs a;refine I.step (errS.from a1.ext) a1.ext.in' a1.frz p fun ds J G2 H2 _ x2 io p1=>?_
 refine zRY hT B io (a1.wider x2) ?_ p1;unfold zPF
 split
 ·exact fun b o e=>by cases e
 ·exact Same.refl _
theorem zCP{wi:TI}{it:IM}{i:Nat}(I:DI mg E wi it true)(B:DS mg E L t m):DS mg E L (fun D σ H=>wi σ H (zPX (zF4 i) t D σ)) (Mi.sForR it i m):=by
 intro G0 H0 S0 σ ρ G H As D a p;obtain⟨J,x,s,w⟩:=a.full;refine I.step (errS.from x) x.in' w p fun ds J G2 H2 _ x2 io p1=>?_
 exact zRY (zAZ i) B io (a.grow x2.h) (fun b o e=>by cases e) p1
theorem dz(A:DE mg E te e 0):DE mg E te e 0:=A
theorem zKC{P N:Nat}{vs:List V}{H:Hp}{Q:VK}{E:XK}(h:spM mg L (Mi.runF P N m) vs H Q E):vs.length=P:=by
 obtain⟨G,ds,_,s,r,p⟩:=h;rw[r.length];unfold Mi.runF at p
 split at p
 ·rename_i h;exact h
 ·exact p.elim
theorem zB5{P:Nat}{N:List Str}{vs:List V}{H:Hp}{Q:VK}(B:DS mg E L t m)(h:spM mg L (Mi.runF P N.length m) vs H Q E):t { nx:=fun _ H'=>Q .non H',rt:=Q } (L2.start N vs) H:=by
 obtain⟨G,ds,tb,s,r,p⟩:=h;unfold Mi.runF at p
 split at p
 ·refine B G H G _ (Mi.startO N.length ds) G H (fun _ _=>False) _ ⟨Ext.refl s,Same.refl _,tb,?_,fun i d n e=>?_,fun _ _ _ z=>z.elim,fun _ _ z=>z.elim⟩ ?_
  ·unfold Mi.startO L2.start;simp[r.length]
  ·unfold Mi.startO at e
   by_cases hi:i<ds.length
   ·rw[qA9 (by simpa using hi),qAe]at e;cases e1:ds[i]? with
    |none=>rw[e1]at e;cases e
    |some d'=>
     rw[e1]at e;cases e;have hv:vs[i]?=some (vs[i]'(by rw[r.length];exact hi)):=by simp
     refine⟨vs[i]'(by rw[r.length];exact hi),?_,zBP r e1 hv⟩;unfold L2.start;rw[qA9 (by simpa[r.length]using hi),qAe,hv];rfl
   ·rw[qAa (by simpa using hi),qBi]at e
    split at e<;>cases e
  ·cases em:m (Mi.startO N.length ds)with
   |none=>rw[em]at p;exact p
   |some r=>
    rw[em]at p;cases r with
    |error y=>exact p
    |ok o=>
     cases o with
     |nx ρ'=>exact fun σ' G' H' As' a=>PostE.val (d:=.non) p a.ext rfl rfl
     |rt d=>exact p
     |bk ρ'=>exact p.elim
     |ct ρ'=>exact p.elim
 ·exact p.elim
end
end L3
namespace L2
open PySem PySem.Spec PyProof.Rows
section
variable{X:Cx}
end
section
variable{prog:qGz}{w:World}{A:qH1}{E:Value->qGw->Prop}{s:qGw}
end
section
variable{X:Cx}{pins:List (Addr×Obj)}{σ:List (Option V)}{H:Hp}{s:qGw}
end
section
variable{prog:qGz}{w:World}{A:qH1}{E:Value->qGw->Prop}{s:qGw}
end
section
variable{X:Cx}{pins:List (Addr×Obj)}{σ:List (Option V)}{H:Hp}{s:qGw}
end
section
variable{X:Cx}
end
section
variable{X:Cx}{tg:Expr}
end
section
variable{prog:qGz}{w:World}{A:qH1}{E:Value->qGw->Prop}{s:qGw}
end
section
variable{X:Cx}
end
section
variable{prog:qGz}{w:World}{A:qH1}{E:Value->qGw->Prop}{s:qGw}
end
section
variable{X:Cx}
end
section
variable{prog:qGz}{w:World}{A:qH1}{E:Value->qGw->Prop}{s:qGw}
end
section
variable{X:Cx}{o:Expr}{td:TE}{p apos cpos pos:Pos}
end
section
variable{prog:qGz}{w:World}{A:qH1}{E:Value->qGw->Prop}{s:qGw}
end
section
variable{X:Cx}{pins:List (Addr×Obj)}{σ:List (Option V)}{H:Hp}{s:qGw}
end
section
variable{X:Cx}
end
end L2
namespace L3
open PySem PySem.Spec
open L2 hiding Rep RepL
open Mi (Dt Xn R okR zA2 optR bindR_ok zA4 zAA zA8 zA9 Rh Sl Ro EM TM AM FM IM SM OM Tg Out zAR zAM zAV full frz frz1 frzAt)
section
variable[Kc]{mg:Str->Option Value}{E:XK}{L n k l:Nat}{te ta tb:TE}{e ea eb:EM}{t u:TS}{m m':SM}
theorem zSD{f:List Dt->Option Dt}{g:Int->Int->Int}{r:List V->Hp->VK->Prop}(hr:∀i j H Q,Q (.int (g i j)) H->r [.int i,.int j] H Q)(hf:∀i j,f [.int i,.int j]=some (.int (g i j)))(hn:∀ds,(∀i j,ds≠[.int i,.int j])->f ds=none):CBi r f n:=by
 intro mg E G H ds vs Q s h p
 by_cases hd:∃i j,ds=[.int i,.int j]
 ·obtain⟨i,j,rfl⟩:=hd;obtain⟨x,y,rfl,hx,hy⟩:=zSX h
  cases(show x=.int i from hx)
  cases(show y=.int j from hy)
  rw[hf]at p;exact hr i j H Q (PostE.val p (Ext.refl s) rfl rfl)
 ·rw[hn ds fun i j e=>hd ⟨i,j,e⟩]at p;exact p.elim
theorem zLA{f:List Dt->Option Dt}(h1:f []=none)(h2:∀x,f [x]=none)(h3:∀x y z r,f (x::y::z::r)=none)(h4:∀x y,(∀i j,[x,y]≠[.int i,.int j])->f [x,y]=none):∀ds,(∀i j,ds≠[.int i,.int j])->f ds=none:=by
 intro ds h
 match ds,h with
 |[],_=>exact h1
 |[x],_=>exact h2 x
 |[x,y],h=>exact h4 x y h
 |x::y::z::r,_=>exact h3 x y z r
theorem zXH:CBi (fun xs H Q=>∃i j,xs=[.int i,.int j]/\Q (.int (if j>i then j else i)) H) Mi.maxD n:=
 zSD (g:=fun i j=>if j>i then j else i) (fun i j H Q q=>⟨i,j,rfl,q⟩) (fun _ _=>rfl) (zLA rfl (fun x=>by cases x<;>rfl) (fun x y z r=>by cases x<;>cases y<;>rfl) (fun x y h=>by cases x<;>cases y<;>first|rfl|exact absurd rfl (h _ _)))
theorem zXG:CBi (fun xs H Q=>∃i j,xs=[.int i,.int j]/\Q (.int (if j<i then j else i)) H) Mi.minD n:=
 zSD (g:=fun i j=>if j<i then j else i) (fun i j H Q q=>⟨i,j,rfl,q⟩) (fun _ _=>rfl) (zLA rfl (fun x=>by cases x<;>rfl) (fun x y z r=>by cases x<;>cases y<;>rfl) (fun x y h=>by cases x<;>cases y<;>first|rfl|exact absurd rfl (h _ _)))
theorem zGF{G:Hp}{d:Dt}{v:V}(h:Rep G d v)(hd:d.dep=0):zDP v=true:=(zDZ (by lia) h).flat (qFg.mp (qAj (zEU (by lia)) (qE2 hd)))
theorem zJK{G:Hp}{d e:Dt}{v u:V}(h:Rep G d v)(h':Rep G e u)(hd:d.dep=0)(he:e.dep=0):eqV v u=Dt.eq d e:=by
 rw[<- zKR (by lia) (by lia)];exact(zDZ (by lia) h).flatEq (zDZ (by lia) h') (qFg.mp (qAj (zEU (by lia)) (qE2 hd))) (qFg.mp (qAj (zEU (by lia)) (qE2 he)))
theorem zTX{G:Hp}{d:Dt}{v:V}(h:Rep G d v)(hd:d.dep=0):∀{ds:List Dt}{vs:List V},RepL G ds vs->Dt.depL ds=0->vs.all zDP=true/\inV v vs=ds.any fun y=>Dt.eq y d
 |[],vs,r,_=>by cases(show vs=[] from r);exact⟨rfl,rfl⟩
 |e::ds,vs,r,hz=>by
  obtain⟨x,q,rfl,a,b⟩:=r;rw[Dt.depL]at hz;obtain⟨h1,h2⟩:=zTX h hd b (by lia);have he:e.dep=0:=by lia
  refine⟨by simp[zGF a he,h1],?_⟩;unfold inV at h2 ⊢;rw[qCy,qCy,h2,zJK a h he hd]
theorem zY6{ng:Bool}:ROp (rInU Kc.K ng) (Mi.inD ng) n:=by
 intro mg E G H d e x y Q s h1 h2 p;cases e with
 |lst ys=>
  obtain⟨a,vs,rfl,ha,r⟩:=h2;unfold Mi.inD Mi.hasD at p;dsimp only at p
  by_cases hz:d.dep=0/\Dt.depL ys=0
  ·rw[if_pos hz]at p;obtain⟨g1,g2⟩:=zTX h1 hz.1 r hz.2;refine⟨vs,.inl (SqL.of (s _ _ ha)),zGF h1 hz.1,g1,?_⟩;rw[g2];exact PostE.val p (Ext.refl s) rfl rfl
  ·rw[if_neg hz]at p;exact p.elim
 |tup ys=>
  obtain⟨a,vs,rfl,ha,r⟩:=h2;unfold Mi.inD Mi.hasD at p;dsimp only at p
  by_cases hz:d.dep=0/\Dt.depL ys=0
  ·rw[if_pos hz]at p;obtain⟨g1,g2⟩:=zTX h1 hz.1 r hz.2;refine⟨vs,.inr (SqT.of (s _ _ ha)),zGF h1 hz.1,g1,?_⟩;rw[g2];exact PostE.val p (Ext.refl s) rfl rfl
  ·rw[if_neg hz]at p;exact p.elim
 |str z=>
  cases(show y=.str z from h2)
  cases d with
  |str w=>
   cases(show x=.str w from h1)
   obtain⟨⟨wl⟩⟩:=w;cases wl with
   |nil=>exact qA5 p
   |cons c tl1=>
    cases tl1 with
    |nil=>
     have p':PostE mg E G H n (okR (.bl (if ng=true then !decide (c∈z.cps.toList)else decide (c∈z.cps.toList)))) Q:=p;have q:=PostE.val (v:=.bl (if ng=true then !decide (c∈z.cps.toList)else decide (c∈z.cps.toList))) p' (Ext.refl s) rfl rfl;rw[<- StrLaws.found_one z c]at q;exact q
    |cons _ _=>exact qA5 p
  |_=>exact p.elim
 |_=>exact p.elim
def DO(mg:Str->Option Value)(E:XK)(t:TO)(m:OM):Prop:=∀(G H:Hp)(σ:St)(ρ:Rh)(Q:Option Int->Hp->Prop),Same G H->View G σ ρ ->
 (match m ρ with
  |none=>False
  |some (.error x)=>∀c da G' H',Ext G H G' H'->XRep mg x c da G' H'->E c da H'
  |some (.ok o)=>∀H',Same H H'->Q o H')->t σ H Q
theorem DO.step{β:Type}{t:TO}{m:OM}(D:DO mg E t m){G H:Hp}{σ:St}{ρ:Rh}{Q:Option Int->Hp->Prop}{P:R β->Prop}{f:Option Int->R β}(hE:Err mg E G H P)(s:Same G H)(w:View G σ ρ)(p:P (zA2 (m ρ) f))
  (h:∀b H',m ρ=okR b->Same H H'->P (f b)->Q b H'):t σ H Q:=by
 refine D G H σ ρ Q s w ?_;cases e:m ρ with
 |none=>rw[e]at p;exact hE.no p
 |some r=>
  rw[e]at p;cases r with
  |error x=>exact hE.er x p
  |ok b=>exact fun H' sH=>h b H' e sH p
theorem zX1:DO mg E zN5 Mi.oNo:=fun G H σ ρ Q s w p=>p H (Same.refl _)
theorem do_e(A:DE mg E te e k):DO mg E (zUV te) (Mi.oE e):=by
 intro G H σ ρ Q s w p;unfold Mi.oE at p;refine(zAX A).step (P:=fun r=>match r with
  |none=>False
  |some (.error x)=>∀c da G' H',Ext G H G' H'->XRep mg x c da G' H'->E c da H'
  |some (.ok o)=>∀H',Same H H'->Q o H') ⟨fun h=>h,fun _ h=>h⟩ s w p fun d v G1 H1 S _ fr o p1=>?_
 cases d with
 |int i=>exact⟨i,o,p1 H1 fr.ext.h⟩
 |_=>exact p1.elim
theorem zM0(n d:Nat)(o:Option Int):Mi.cutIx n d o=HT.sIx n d o:=by cases o<;>rfl
theorem zJ5{G:Hp}:∀{ds:List Dt}{xs:List V}(i:Nat),RepL G ds xs->RepL G (ds.drop i) (xs.drop i)
 |ds,xs,0,r=>by simpa using r
 |[],xs,i+1,r=>by cases(show xs=[] from r);exact rfl
 |d::ds,xs,i+1,r=>by
  obtain⟨x,q,rfl,a,b⟩:=r;exact zJ5 i b
theorem zJ3{G:Hp}:∀{ds:List Dt}{xs:List V}(i:Nat),RepL G ds xs->RepL G (ds.take i) (xs.take i)
 |ds,xs,0,r=>by simp;exact rfl
 |[],xs,i+1,r=>by cases(show xs=[] from r);exact rfl
 |d::ds,xs,i+1,r=>by
  obtain⟨x,q,rfl,a,b⟩:=r;exact⟨x,_,rfl,a,zJ3 i b⟩
theorem zQ7{G:Hp}{ds:List Dt}{xs:List V}(r:RepL G ds xs)(lo hi:Option Int):RepL G (Mi.cutA ds lo hi) (cutV xs lo hi):=by
 unfold Mi.cutA cutV;rw[zM0,zM0,r.length];exact zJ3 _ (zJ5 _ r)
def RSl(r:V->Option Int->Option Int->Hp->VK->Prop)(n:Nat):Prop:=∀(mg:Str->Option Value)(E:XK)(G H:Hp)(d:Dt)(x:V)(lo hi:Option Int)(Q:VK),Same G H->Rep G d x->PostE mg E G H n (optR (Mi.slD d lo hi)) Q->r x lo hi H Q
theorem zX6{r:V->Option Int->Option Int->Hp->VK->Prop}{tl th:TO}{ml mh:OM}(hr:RSl r n)(A:DE mg E te e k)(B:DO mg E tl ml)(C:DO mg E th mh):DE mg E (tSl r te tl th) (Mi.eSl e ml mh) n:=by
 intro G H σ ρ Q s w p;refine(zAX A).step errE s w p fun d v G1 H1 S _ fr o p1=>?_
 refine B.step (errE.from fr.ext) fr.ext.in' (w.mono fr.ext.g) p1 fun lo H2 _ s2 p2=>?_
 have x2:=fr.ext.trans (Ext.same fr.ext.in' s2);refine C.step (errE.from x2) x2.in' (w.mono fr.ext.g) p2 fun hi H3 _ s3 p3=>?_
 have x3:=x2.trans (Ext.same x2.in' s3);exact hr mg E G1 H3 d v lo hi Q x3.in' o (PostE.from p3 x3)
theorem zDY(i:Nat){n0 n1:Nat}{t0 t1 t2:TE}{e0 e1 e2:EM}(Z:DE mg E t0 e0 n0)(A:DE mg E t1 e1 n1)(B:DE mg E t2 e2 n)(hn:n<1000:=by decide):DS mg E L (tAsg t2 (gSub (tOp (rIxU Kc.K) (vM i) t0) t1 setM)) (Mi.sItem2 i n e0 e1 e2):=by
 intro G0 H0 S0 σ ρ G H As D a p;obtain⟨J,x,s,w⟩:=a.full;refine B.step (errS.from x) x.in' w p fun d y G1 H1 S _ fr o p1=>?_
 cases er:ρ[i]? with
 |none=>rw[er]at p1;exact p1.elim
 |some sl=>
  rw[er]at p1
  match sl,er,p1 with
  |none,_,p=>exact p.elim
  |some (.lst rs,k+2),er,p1=>
   obtain⟨v,h1,q,xs,T,rfl,hq,kd⟩:=a.at i _ _ er;unfold gSub tOp vM;rw[h1];have x1:Ext J H J H1:=Ext.same x.in' fr.ext.h;refine(zAX Z).step (errS.from (x.trans x1)) x1.in' w p1 fun z0 u0 G2 H2 S2 _ fr2 o2 p2=>?_
   cases z0 with
   |int y0=>
    cases(show u0=.int y0 from o2)
    dsimp only at p2;cases ei:Mi.ixA rs.length y0 with
    |none=>rw[ei]at p2;exact p2.elim
    |some c=>
     rw[ei]at p2;dsimp only at p2;cases erow:rs[c]? with
     |none=>rw[erow]at p2;exact p2.elim
     |some row=>
      rw[erow]at p2;cases row with
      |lst ds=>
       have hc:c<xs.length:=by rw[kd.len];exact(qA4.mp erow).1
       have hxc:xs[c]?=some xs[c]:=qA7 hc;obtain⟨qr,ys,U,er2,hqr,kr⟩:=kd.own c _ _ erow hxc;have sH2:=fr.ext.h.trans fr2.ext.h;refine⟨xs,xs[c],.inl (SqL.of (sH2 _ _ hq)),?_,?_⟩
       ·unfold atI;rw[kd.len,<- zLU,ei];exact hxc
       have x2:Ext J H J H2:=Ext.same x.in' sH2;refine(zAX A).step (errS.from (x.trans x2)) x2.in' w p2 fun z u G3 H3 S3 _ fr3 o3 p3=>?_
       cases z with
       |int z=>
        cases(show u=.int z from o3)
        dsimp only at p3;cases ez:Mi.ixA ds.length z with
        |none=>rw[ez]at p3;exact p3.elim
        |some c2=>
         rw[ez]at p3;dsimp only at p3
         split at p3
         ·rename_i hz
          rw[zLU]at ez;obtain⟨q1,q2⟩:=whole (k:=k) a s fr o hn hz.1 hz.2;have sH:=sH2.trans fr3.ext.h;rw[er2];refine⟨ys,c2,sH _ _ hqr,by rw[kr.len];exact ez,?_⟩;have a1:=a.grow sH;have tqr:T c qr:=kr.top;have iqr:As i qr:=kd.sub c qr tqr;have nS:¬S qr:=fun z=>(a.new i qr iqr).2.2 (q2 qr z).1
          have qne:q≠qr:=fun z=>kd.out c (z▸tqr)
          have fresh:∀b,As i b->S b->False:=fun b z1 z2=>(a.new i b z1).2.2 (q2 b z2).1
          have kr1:Kids (Own G H3 k) (T c) qr ds ys U:=kr.imp (fun _ _ _ _ w=>w.mono (Same.refl _) sH) fun _ z=>z
          have rowK:=kr1.set (p:=qr) (o:=.lst (ys.set c2 y)) c2 ((q1.mono (Same.refl _) (fr2.ext.h.trans fr3.ext.h)).upd nS) (fun r _=>kr.out r) nS (fun r b _ z1 z2=>fresh b (kd.sub c b (kr.sub r b z1)) z2);refine p3 σ G _ _ (a1.store (S:=fun b=>As i b\/S b) (d:=.lst (rs.set c (.lst (ds.set c2 d)))) (n:=k+2) (v:=.ref q) iqr h1 ⟨q,xs,fun r b=>if r=c then T c b\/S b else T r b,rfl,(zAH qne).trans (sH _ _ hq),⟨by simp[kd.len],fun r d' xr g1 g2=>?_,.inl kd.top,fun r=>?_,fun r r' b z1 z2=>?_,fun r b z=>?_⟩⟩ fun b z=>?_)
          ·by_cases hr:c=r
           ·subst hr;rw[qAo (by rw[<- kd.len];exact hc)]at g1;cases g1;rw[hxc]at g2;cases g2;refine⟨qr,_,_,er2,zAJ,rowK.imp (fun _ _ _ _ w=>w) fun b z=>?_⟩;rw[if_pos rfl];exact z
           ·rw[qAs hr]at g1;have nr:¬T r qr:=fun z=>hr (kd.dis c r qr tqr z)
            exact(((kd.own r d' xr g1 g2).mono (Same.refl _) sH).upd nr).sub fun b z=>by rw[if_neg (fun z=>hr z.symm)];exact z
          ·try dsimp only
           split
           ·exact fun z=>z.elim (kd.out c) fun z=>fresh q kd.top z
           ·exact kd.out r
          ·try dsimp only at z1 z2
           by_cases g1:r=c<;>by_cases g2:r'=c
           ·rw[g1,g2]
           ·rw[if_pos g1]at z1;rw[if_neg g2]at z2
            rcases z1 with z1|z1
            ·rw[g1];exact kd.dis c r' b z1 z2
            ·exact(fresh b (kd.sub r' b z2) z1).elim
           ·rw[if_neg g1]at z1;rw[if_pos g2]at z2
            rcases z2 with z2|z2
            ·rw[g2];exact kd.dis r c b z1 z2
            ·exact(fresh b (kd.sub r b z1) z2).elim
           ·rw[if_neg g1]at z1;rw[if_neg g2]at z2;exact kd.dis r r' b z1 z2
          ·try dsimp only at z
           by_cases g1:r=c
           ·rw[if_pos g1]at z
            rcases z with z|z
            ·exact .inl (kd.sub c b z)
            ·exact .inr z
           ·rw[if_neg g1]at z;exact .inl (kd.sub r b z)
          ·rcases z with z|z
           ·exact .inl z
           ·obtain⟨n1,n2,n3⟩:=q2 b z;exact .inr ⟨a.ext.h.free n1,n2,(fr2.ext.h.trans fr3.ext.h).some n3,fun j y=>(a.new j b y).2.2 n1⟩
         ·exact p3.elim
       |_=>exact p3.elim
      |_=>exact p2.elim
   |_=>exact p2.elim
  |some (.lst ds,0),_,p=>exact p.elim
  |some (.lst ds,1),_,p=>exact p.elim
  |some (.non,_),_,p=>exact p.elim
  |some (.bl _,_),_,p=>exact p.elim
  |some (.int _,_),_,p=>exact p.elim
  |some (.str _,_),_,p=>exact p.elim
  |some (.tup _,_),_,p=>exact p.elim
  |some (.scr _,_),_,p=>exact p.elim
  |some (.exc _ _ _,_),_,p=>exact p.elim
  |some (.fn _ _,_),_,p=>exact p.elim
  |some (.ins _ _,_),_,p=>exact p.elim
  |some (.dct _,_),_,p=>exact p.elim
end
section
variable[Kc]{mg:Str->Option Value}{E:XK}{L n k l:Nat}{te ta tb:TE}{e ea eb ma:EM}{t:TA}{m:AM}
theorem rs_u:RSl (rSlU Kc.K) 1:=by
 intro mg E G H d x lo hi Q s h p;cases d with
 |lst ds=>
  obtain⟨a,xs,rfl,ha,r⟩:=h;exact⟨xs,SqL.of (s _ _ ha),fun q hq=>PostE.lst p (Ext.refl s) (zQ7 r lo hi) hq⟩
 |str z=>
  cases(show x=.str z from h)
  rw[Mi.slD]at p
  by_cases hz:z.length<=100000
  ·rw[if_pos hz]at p;exact⟨big' hz,PostE.val p (Ext.refl s) rfl rfl⟩
  ·rw[if_neg hz]at p;exact p.elim
 |_=>exact p.elim
theorem zYP{tl th:TO}{ml mh:OM}(A:DE mg E te e k)(B:DO mg E tl ml)(C:DO mg E th mh):DE mg E (tSl (rSlU Kc.K) te tl th) (Mi.eSl e ml mh) 1:=zX6 rs_u A B C
theorem zWL{G:Hp}(z:Str):ItOk (Its z) G (Mi.signsD z):=by
 intro i G1 H1 s1 s2;have hl:(Mi.signsD z).length=z.cps.size:=by simp[Mi.signsD]
 refine⟨fun hi=>by rw[hl]at hi;exact hi,fun hi=>by rw[hl]at hi;exact hi,fun x H2 d hd hy=>?_⟩;obtain⟨rfl,c,hc,rfl⟩:=hy;refine⟨G1,Ext.refl s2,?_⟩;unfold Mi.signsD at hd;rw[qAe]at hd;have hc':z.cps.toList[i]?=some c:=by simpa using hc
 rw[hc']at hd;cases hd;rfl
theorem zD8(A:DE mg E ta ma k):DI mg E (iAny Kc.K ta) (Mi.iSq ma) false:=by
 intro G H σ ρ Q s w p;refine(zAX A).step errI s w p fun d v G1 H1 S _ fr o p1=>?_
 cases d with
 |lst ds=>
  obtain⟨a,xs,rfl,ha,r⟩:=o;exact .inl ⟨⟨xs,SqL.of (fr.ext.in' _ _ ha)⟩,p1 _ G1 H1 fr.ext (zRV (SqL.of ha) r)⟩
 |tup ds=>
  obtain⟨a,xs,rfl,ha,r⟩:=o;exact .inr ⟨⟨xs,SqT.of (fr.ext.in' _ _ ha)⟩,p1 _ G1 H1 fr.ext (zRU (SqT.of ha) r)⟩
 |scr ns=>
  obtain⟨a,rfl,ha⟩:=o
  rcases ha.old with ha|ha
  ·exact .inl ⟨⟨_,fr.ext.in'.seq ha⟩,p1 _ G1 H1 fr.ext (zRV ha (zD3 ns))⟩
  ·exact .inr ⟨⟨_,zJ2 fr.ext.in' ha⟩,p1 _ G1 H1 fr.ext (zRU ha (zD3 ns))⟩
 |str z=>
  cases(show v=.str z from o)
  exact p1 _ G1 H1 fr.ext (zWL z)
 |_=>exact p1.elim
theorem zL8:∀(xs ys:List Dt),(Mi.zipD xs ys).length=min xs.length ys.length
 |[],ys=>by simp[Mi.zipD]
 |_::_,[]=>by simp[Mi.zipD]
 |x::r,y::q=>by rw[Mi.zipD,qAt,zL8 r q,qAt,qAt];lia
theorem zL9:∀(xs ys:List Dt)(i:Nat)(d:Dt),(Mi.zipD xs ys)[i]?=some d->∃x y,xs[i]?=some x/\ys[i]?=some y/\d=.tup [x,y]
 |[],ys,_,_,h=>by simp[Mi.zipD]at h
 |_::_,[],_,_,h=>by simp[Mi.zipD]at h
 |x::r,y::q,0,d,h=>by simp[Mi.zipD]at h;exact⟨x,y,by simp,by simp,h.symm⟩
 |x::r,y::q,i+1,d,h=>by
  rw[Mi.zipD]at h;obtain⟨a,b,h1,h2,h3⟩:=zL9 r q i d (by simpa using h);exact⟨a,b,by simpa using h1,by simpa using h2,h3⟩
theorem zWJ{K:qA1}{G:Hp}{a b:Addr}{xs ys:List V}{ds es:List Dt}(ha:G a=some (.lst xs))(r:RepL G ds xs)(hb:G b=some (.lst ys))(r':RepL G es ys):ItOk (Itz K a b) G (Mi.zipD ds es):=by
 intro i G1 H1 s1 s2;have hS:SqL K H1 a xs:=SqL.of (s2 _ _ (s1 _ _ ha));have hS':SqL K H1 b ys:=SqL.of (s2 _ _ (s1 _ _ hb));have l1:=r.length;have l2:=r'.length;rw[zL8];refine⟨fun hi=>⟨xs,ys,xs[i]'(by lia),ys[i]'(by lia),hS,hS',by simp,by simp⟩,fun hi=>⟨xs,ys,hS,hS',by lia⟩,fun x H2 d hd hy=>?_⟩;obtain⟨T,u,v,rfl,hT,rfl,h1,h2⟩:=hy;obtain⟨p,q,g1,g2,rfl⟩:=zL9 ds es i d hd;have x1:=Ext.new s2 hT (.tup [u,v]);exact⟨_,x1,T,_,rfl,zAJ,_,_,rfl,Rep.mono (s1.trans x1.g) (zBP r g1 (h1 xs hS)),_,_,rfl,Rep.mono (s1.trans x1.g) (zBP r' g2 (h2 ys hS')),rfl⟩
theorem zX2(A:DA mg E t m 0):DI mg E (iZip Kc.K t) (Mi.iZi m) false:=by
 intro G H σ ρ Q s w p;refine A.step errI s w p fun ds vs G1 H1 S T _ fr o p1=>?_
 have r:=o.repL;cases ds with
 |nil=>exact p1.elim
 |cons a0 r0=>
  cases a0 with
  |lst xs=>
   cases r0 with
   |nil=>exact p1.elim
   |cons b0 r1=>
    cases r1 with
    |cons _ _=>cases b0<;>exact p1.elim
    |nil=>
     cases b0 with
     |lst ys=>
      obtain⟨x,y,rfl,⟨a,us,rfl,ha,ra⟩,⟨b,ws,rfl,hb,rb⟩⟩:=zSX r;exact⟨⟨us,SqL.of (fr.ext.in' _ _ ha)⟩,⟨ws,SqL.of (fr.ext.in' _ _ hb)⟩,p1 _ G1 H1 fr.ext (zWJ ha ra hb rb)⟩
     |_=>exact p1.elim
  |_=>rcases r0 with _|⟨_,_|_⟩<;>exact p1.elim
end
end L3
namespace L2
open PySem PySem.Spec
structure Dr(p:Prop):Prop where
 h:p
section
variable{X:Cx}
end
end L2
namespace L2
open PySem
end L2
namespace L3
open PySem PySem.Spec
open L2 hiding Rep RepL
open Mi (Dt FM okR)
def sp0(K:qA1)(mg:Str->Option Value)(L:Nat)(f:FM):Sp:=fun vs H Q _=>@spM ⟨K⟩ mg L f vs H Q E0
end L3
namespace Mi
open PySem
noncomputable section
def noE{α:Type}(r:R α):R α:=match r with
 |some (.ok a)=>okR a
 |_=>none
def eCallN(f:FM)(am:AM):EM:=fun ρ=>zA2 (am ρ) fun ds=>noE (f ds)
def eMkX(c f:Str)(am:AM):EM:=fun ρ=>zA2 (am ρ) fun ds=>match ds with
 |[d]=>okR (.exc c f d)
 |_=>none
def zRM(c f:Str)(am:AM):SM:=fun r=>zA2 (am (full r)) fun ds=>match ds with
 |[d]=>some (.error ⟨c,f,d⟩)
 |_=>none
def sRaise0(c:Str)(am:AM):SM:=fun r=>zA2 (am (full r)) fun ds=>@ite _ (ds.length<=1000) (qA3 _) (some (.error ⟨c,"",.non⟩)) none
def eAtX(hs:List Str)(f:Str)(a:EM):EM:=fun ρ=>zA2 (a ρ) fun d=>match d with
 |.exc c g x=>if c∈hs/\g=f then okR x else none
 |_=>none
def eIsX(ys ns:List Str)(a:EM):EM:=fun ρ=>zA2 (a ρ) fun d=>match d with
 |.exc c _ _=>if c∈ys then okR (.bl true)else if c∈ns then okR (.bl false)else none
 |_=>none
noncomputable def zWP(i:Nat):Out->Out
 |.nx r=>.nx (r.set i none)
 |.rt d=>.rt d
 |.bk r=>.bk (r.set i none)
 |.ct r=>.ct (r.set i none)
end
end Mi
namespace L3
open PySem PySem.Spec
open L2 hiding Rep RepL
open Mi (Dt Xn R okR zA2 optR bindR_ok zA4 zAA zA8 zA9 Rh Sl Ro EM TM AM FM IM SM OM Tg Out zAR zAM zAV full frz frz1 frzAt)
section
variable[Kc]{mg:Str->Option Value}{E:XK}{L n k l:Nat}{te ta tb:TE}{e ea eb ma:EM}{t:TA}{m:AM}
theorem zR4{f:FM}(A:DA mg E t m 0):DE mg E (zKA (spM mg n f) [] E0 t) (Mi.eCallN f m) n:=by
 intro G H σ ρ Q s w p;refine A.step errE s w p fun ds vs G1 H1 S T _ fr o p1=>?_
 refine⟨G1,ds,w.tab.trans fr.ext.g,fr.ext.in',by rw[qCf];exact o.repL,?_⟩;have p2:=PostE.from p1 fr.ext;cases e:f ds with
 |none=>rw[e]at p2;exact p2
 |some r=>
  rw[e]at p2;cases r with
  |error x=>exact p2.elim
  |ok d=>exact p2
def spInit(K:qA1)(f:Str):Sp:=fun vs H Q _=>∃e C y,vs=[.ref e,y]/\H e=some (xn e (.ref C) none)/\PySem.W.xcIn K C=true/\XSet K C f/\∀d,H d=none->d≠e->Q .non (upd (upd H d (.xd [(f,y)])) e (xn e (.ref C) (some d)))
end
section
variable{K:qA1}{C D:Addr}{dd:Option Addr}{cd:ClassData}{sl:Array (Option Value)}{b:Bool}
def xcD(C:Addr)(cd:ClassData)(sl:Array (Option Value)):Bool:=match cd.mro,sl.toList with
 |.ref C'::bm,[_,_,_,_,some (.builtin n),_]=>C'==C && !cd.hasDel&&PySem.W.excTail bm&&n == "ValueError.__new__" && cd.hasDict
 |_,_=>false
theorem zMZ(h:K.lookup C=some ⟨.type "type",dd,.cls cd,sl⟩)(h':xcD C cd sl=true):PySem.W.xcIn K C=true:=by
 unfold PySem.W.xcIn;rw[h];exact h'
end
structure XCls(K:qA1)(mg:Str->Option Value)(c:Str)(C:Addr):Prop where
 cl:clK K c=some C
 gm:mg c=some (.ref C)
 is:Xc.XIs K C
theorem zXB{K:qA1}{c:Str}{C:Addr}(h:qBf K qH2 c=some (some (.ref C))):clK K c=some C:=by unfold clK;rw[h]
theorem zT7{P:qGz}{w:World}{K:qA1}{mg:Str->Option Value}{base:Heap}{N:List Str}{qual:Str}{scope:Scope}{f:Addr}{cd:Value}{A:qH1}{outer:List Env}{s:qGw}{H:Hp}{E:XK} :
  PassesOwn (model P w) (A.deeper (qEe qual scope s.heap.objs.size f cd)) (qEe qual scope s.heap.objs.size f cd) (cxOf (CXe P w) P w K mg base N qual scope f cd A outer s H E).xe:=PassesOwn.leaving
def spE(K:qA1)(mg:Str->Option Value)(L:Nat)(f:Mi.FM):Sp:=fun vs H Q E=>@spM ⟨K⟩ mg L f vs H Q E
section
variable[Kc]{mg:Str->Option Value}{E:XK}{L n k l:Nat}{te ta tb:TE}{e ea eb ma:EM}{t:TA}{m:AM}
theorem zIE{f:FM}{E':XK}(A:DA mg E t m 0):DE mg E (zKA (sp0 Kc.K mg n f) [] E' t) (Mi.eCallN f m) n:=zR4 A
theorem zET{f:FM}(A:DA mg E t m 0):DE mg E (zKA (spE Kc.K mg n f) [] E t) (Mi.eCall f m) n:=zAQ A
end
def zGX(K:qA1):Sp:=fun vs H Q _=>∃(a:Addr)(ns:List Int),vs=[.ref a]/\Same (tabK K) H/\SqL K H a (ns.map V.int)/\ns.length<=63/\(∀i∈ns,i.natAbs.log2<2 ^ 20)/\∀H',Same (tabK K) H'->Q (.bl true) H'
theorem zQT{K:qA1}{mg:Str->Option Value}{L:Nat}{f:FM}(hf:∀ns:List Int,ns.length<=63->(∀i∈ns,i.natAbs.log2<2 ^ 20)->f [.scr ns]=okR (.bl true)):∀vs H Q E,zGX K vs H Q E->sp0 K mg L f vs H Q E:=by
 letI:Kc:=⟨K⟩
 rintro vs H Q E ⟨a,ns,rfl,tb,hS,hl,hw,q⟩
 refine⟨H,[.scr ns],tb,Same.refl _,⟨_,_,rfl,⟨a,rfl,.inl hS⟩,rfl⟩,?_⟩;rw[hf ns hl hw];intro v G' H' S fr o
 cases(show v=.bl true by cases L<;>exact o)
 exact q H' (tb.trans fr.ext.h)
end L3
namespace Mi
open PySem
section
variable(ρ:Rh)(r:Ro)(a b c:EM)(s t:SM)(q q':TM)(am:AM)
@[simp] theorem x_eC(d:Dt):eC d ρ=okR d:=rfl
@[simp] theorem x_eV(i:Nat):eV i ρ=match ρ[i]? with|some (some d)=>okR d|_=>none:=rfl
@[simp] theorem x_eB(f:Dt->Dt->Option Dt):eB f a b ρ=zA2 (a ρ) fun x=>zA2 (b ρ) fun y=>optR (f x y):=rfl
@[simp] theorem x_eU(f:Dt->Option Dt):eU f a ρ=zA2 (a ρ) fun x=>optR (f x):=rfl
@[simp] theorem zIR:aNil ρ=okR []:=rfl
@[simp] theorem zEX:aCons a am ρ=zA2 (a ρ) fun x=>zA2 (am ρ) fun xs=>okR (x::xs):=rfl
@[simp] theorem zK6(f:FM):eCall f am ρ=zA2 (am ρ) f:=rfl
@[simp] theorem zUO(f:List Dt->Option Dt):eBi f am ρ=zA2 (am ρ) fun xs=>optR (f xs):=rfl
@[simp] theorem x_eLst:eLst am ρ=zA2 (am ρ) fun xs=>@ite _ (xs.length<=100000) (qA3 _) (okR (.lst xs)) none:=rfl
@[simp] theorem x_eTup:eTup am ρ=zA2 (am ρ) fun xs=>@ite _ (xs.length<=100000) (qA3 _) (okR (.tup xs)) none:=rfl
@[simp] theorem x_eIsi(n:String):eIsi n a ρ=zA2 (a ρ) fun x=>optR (isiD n x):=rfl
@[simp] theorem x_eAnd:eAnd a b ρ=zA2 (a ρ) fun x=>match x with | .bl k=>if k=true then b ρ else okR (.bl false)|_=>none:=rfl
@[simp] theorem x_eOr:eOr a b ρ=zA2 (a ρ) fun x=>match x with | .bl k=>if k=true then okR (.bl true)else b ρ|_=>none:=rfl
@[simp] theorem x_eNot:eNot a ρ=zA2 (a ρ) fun x=>match x with | .bl k=>okR (.bl (!k))|_=>none:=rfl
@[simp] theorem x_eChain(f g:Dt->Dt->Option Dt):zWW f g a b c ρ=zA2 (a ρ) fun x=>zA2 (b ρ) fun y=>zA2 (optR (f x y)) fun z=>match z with | .bl k=>if k=true then zA2 (c ρ) fun w=>optR (g y w)else okR (.bl false)|_=>none:=rfl
@[simp] theorem x_eIf:eIf q a b ρ=zA2 (q ρ) fun k=>if k=true then a ρ else b ρ:=rfl
@[simp] theorem x_tB:tB a ρ=zA2 (a ρ) fun x=>match x with | .bl k=>okR k|_=>none:=rfl
@[simp] theorem x_tM:tM a ρ=zA2 (a ρ) fun x=>match x with | .bl k=>okR k | .int i=>okR (i != 0) | .non=>okR false|_=>none:=rfl
@[simp] theorem zUN:tAn q q' ρ=zA2 (q ρ) fun k=>if k=true then q' ρ else okR false:=rfl
@[simp] theorem zUM:tOr q q' ρ=zA2 (q ρ) fun k=>if k=true then okR true else q' ρ:=rfl
@[simp] theorem zXN:tNo q ρ=zA2 (q ρ) fun k=>okR (!k):=rfl
@[simp] theorem zUL:tYes ρ=okR true:=rfl
@[simp] theorem zRE:sNil r=okR (.nx r):=rfl
@[simp] theorem zFA:sSeq s t r=zA2 (s r) fun o=>match o with | .nx ρ'=>t ρ'|o=>okR o:=rfl
@[simp] theorem zFE:sIf q s t r=zA2 (q (full r)) fun k=>if k=true then s r else t r:=rfl
@[simp] theorem x_sDrop:zY3 a r=zA2 (a (full r)) fun _=>okR (.nx r):=rfl
@[simp] theorem x_sBreak:zV1 r=okR (.bk r):=rfl
@[simp] theorem x_sCont:zY5 r=okR (.ct r):=rfl
@[simp] theorem x_sNever:zV0 r=none:=rfl
@[simp] theorem x_sRetN:zY1 r=okR (.rt .non):=rfl
@[simp] theorem zRC(i n:Nat)(vs:List Nat):sSet i n vs a r=zA2 (a (full r)) fun d=>if d.dep<=n then okR (.nx (r.set i (some (d,n))))else zA2 (a (frz (frzAt vs r))) fun d'=>okR (.nx ((frzAt vs r).set i (some (d',n)))):=rfl
@[simp] theorem zRD(L n:Nat)(vs:List Nat):sRet L n vs a r=zA2 (a (full r)) fun d=>if d.dep<=n/\d.dep<=L then okR (.rt d)else if n=L then zA2 (a (frz (frzAt vs r))) fun d'=>okR (.rt d')else none:=rfl
@[simp] theorem x_sRetV(L i:Nat):sRetV L i r=match r[i]? with|some (some (d,k))=>if k=L\/L=0\/(d.dep<=k/\d.dep<=L/\k<1000)then okR (.rt d)else none|_=>none:=rfl
@[simp] theorem x_full_nil:full []=[]:=rfl
@[simp] theorem x_full_cons(o:Option Sl)(r:Ro):full (o::r)=o.map qEm::full r:=rfl
@[simp] theorem x_frz_nil:frz []=[]:=rfl
@[simp] theorem x_frz_none(r:Ro):frz (none::r)=none::frz r:=rfl
@[simp] theorem x_frz_some(d:Dt)(n:Nat)(r:Ro):frz (some (d,n)::r)=(if n=0\/d.dep=0 then some d else none)::frz r:=rfl
@[simp] theorem x_frzAt_nil(r:Ro):frzAt [] r=r:=rfl
@[simp] theorem x_frzAt_cons(i:Nat)(v:List Nat)(r:Ro):frzAt (i::v) r=frzAt v (frz1 i r):=rfl
@[simp] theorem x_frz1(i:Nat)(r:Ro):frz1 i r=match r[i]? with|some (some (d,_))=>r.set i (some (d,0))|_=>r:=rfl
@[simp] theorem x_startO(n:Nat)(ds:List Dt):startO n ds=ds.map (fun d=>some (d,0))++qA2 (n-ds.length) none:=rfl
@[simp] theorem x_runF(P n:Nat)(ds:List Dt):runF P n s ds=if ds.length=P then zA2 (s (startO n ds)) endF else none:=rfl
@[simp] theorem x_end1(r:Ro):endF (.nx r)=okR .non:=rfl
@[simp] theorem x_end2(d:Dt):endF (.rt d)=okR d:=rfl
end
@[simp] theorem v_add(i j:Int):addD (.int i) (.int j)=some (.int (i+j)):=rfl
@[simp] theorem zUQ(i j:Str):addD (.str i) (.str j)=@ite _ (i.length+j.length<=100000) (qA3 _) (some (.str (i++j))) none:=rfl
@[simp] theorem v_addL(i j:List Dt):addD (.lst i) (.lst j)=@ite _ (i.length+j.length<=100000) (qA3 _) (some (.lst (i++j))) none:=rfl
@[simp] theorem v_sub(i j:Int):subD (.int i) (.int j)=some (.int (i-j)):=rfl
@[simp] theorem zSN(i j:Int):mulD (.int i) (.int j)=@ite _ (((-18446744073709551616<i/\i<18446744073709551616)\/(-18446744073709551616<j/\j<18446744073709551616))\/i.natAbs.log2+j.natAbs.log2<=67108864) (qA3 _) (some (.int (i*j))) none:=rfl
@[simp] theorem v_div(i j:Int):divD (.int i) (.int j)=@ite _ (0<j/\j<1000000000000000000000000) (qA3 _) (some (.int (i/j))) none:=rfl
@[simp] theorem v_mod(i j:Int):modD (.int i) (.int j)=if 0<j then some (.int (i%j))else none:=rfl
@[simp] theorem v_pow(i j:Int):powD (.int i) (.int j)=@ite _ (0<=j/\j<=1000000/\i.natAbs<18446744073709551616) (qA3 _) (some (.int (i ^ j.toNat))) none:=rfl
@[simp] theorem v_neg(i:Int):negD (.int i)=some (.int (-i)):=rfl
@[simp] theorem v_cmp(p:Int->Int->Bool)(i j:Int):cmpD p (.int i) (.int j)=some (.bl (p i j)):=rfl
@[simp] theorem v_eq(x y:Dt):eqD x y=if x.dep<=40/\y.dep<=40 then some (.bl (Dt.eq x y))else none:=rfl
@[simp] theorem v_ne(x y:Dt):neD x y=if x.dep<=40/\y.dep<=40 then some (.bl (!Dt.eq x y))else none:=rfl
@[simp] theorem v_is(x:Dt):isD x .non=some (.bl (zEB x)):=rfl
@[simp] theorem v_isnt(x:Dt):zYL x .non=some (.bl (!zEB x)):=rfl
@[simp] theorem v_isN1:zEB .non=true:=rfl
@[simp] theorem v_isN2(i:Int):zEB (.int i)=false:=rfl
@[simp] theorem v_isN3(i:List Dt):zEB (.lst i)=false:=rfl
@[simp] theorem v_isN4(i:List Dt):zEB (.tup i)=false:=rfl
@[simp] theorem v_isN5(i:Str):zEB (.str i)=false:=rfl
@[simp] theorem v_isN6(i:Bool):zEB (.bl i)=false:=rfl
@[simp] theorem v_ixL(xs:List Dt)(i:Int):ixD (.lst xs) (.int i)=itA xs i:=rfl
@[simp] theorem v_ixT(xs:List Dt)(i:Int):ixD (.tup xs) (.int i)=itA xs i:=rfl
@[simp] theorem v_ixS(ns:List Int)(i:Int):ixD (.scr ns) (.int i)=(itA ns i).map .int:=rfl
@[simp] theorem v_lenL(xs:List Dt):lenD [.lst xs]=some (.int xs.length):=rfl
@[simp] theorem v_lenT(xs:List Dt):lenD [.tup xs]=some (.int xs.length):=rfl
@[simp] theorem v_lenS(ns:List Int):lenD [.scr ns]=some (.int ns.length):=rfl
@[simp] theorem v_listL(xs:List Dt):listD [.lst xs]=some (.lst xs):=rfl
@[simp] theorem v_listT(xs:List Dt):listD [.tup xs]=some (.lst xs):=rfl
@[simp] theorem v_listS(ns:List Int):listD [.scr ns]=some (.lst (ns.map .int)):=rfl
@[simp] theorem v_dn:Dt.non.dep=0:=rfl
@[simp] theorem v_db(b:Bool):(Dt.bl b).dep=0:=rfl
@[simp] theorem v_di(b:Int):(Dt.int b).dep=0:=rfl
@[simp] theorem v_ds(b:Str):(Dt.str b).dep=0:=rfl
@[simp] theorem v_dS(b:List Int):(Dt.scr b).dep=1000:=by rw[Dt.dep]
@[simp] theorem v_dl(xs:List Dt):(Dt.lst xs).dep=Dt.depL xs+1:=by rw[Dt.dep]
@[simp] theorem v_dt(xs:List Dt):(Dt.tup xs).dep=Dt.depL xs+1:=by rw[Dt.dep]
@[simp] theorem v_dnil:Dt.depL []=0:=by rw[Dt.depL]
@[simp] theorem zFT(x:Dt)(r:List Dt):Dt.depL (x::r)=max x.dep (Dt.depL r):=by rw[Dt.depL]
@[simp] theorem v_e1(i j:Int):Dt.eq (.int i) (.int j)=decide (i=j):=by rw[Dt.eq];by_cases h:i=j<;>simp[h]
@[simp] theorem v_e2(i j:Str):Dt.eq (.str i) (.str j)=decide (i=j):=by rw[Dt.eq];by_cases h:i=j<;>simp[h]
@[simp] theorem v_e3(i j:Bool):Dt.eq (.bl i) (.bl j)=decide (i=j):=by rw[Dt.eq];by_cases h:i=j<;>simp[h]
@[simp] theorem v_e4(i j:List Dt):Dt.eq (.lst i) (.lst j)=Dt.eqL i j:=by rw[Dt.eq]
@[simp] theorem v_e5(i j:List Dt):Dt.eq (.tup i) (.tup j)=Dt.eqL i j:=by rw[Dt.eq]
@[simp] theorem v_e6:Dt.eq .non .non=true:=by rw[Dt.eq]
@[simp] theorem zD9:∀(ns:List Int),Dt.depL (ns.map Dt.int)=0
 |[]=>by simp
 |n::r=>by rw[qAg,zFT,zD9 r];rfl
@[simp] theorem zR3:∀(xs ys:List Dt),Dt.depL (xs++ys)=max (Dt.depL xs) (Dt.depL ys)
 |[],ys=>by simp
 |x::r,ys=>by rw[qF7,zFT,zFT,zR3 r ys];exact(Nat.max_assoc _ _ _).symm
@[simp] theorem zIC:∀(ns ms:List Int),Dt.eqL (ns.map Dt.int) (ms.map Dt.int)=decide (ns=ms)
 |[],[]=>by simp[Dt.eqL]
 |[],_::_=>by simp[Dt.eqL]
 |_::_,[]=>by simp[Dt.eqL]
 |n::r,m::q=>by rw[qAg,qAg,Dt.eqL,zIC r q,v_e1];simp
theorem zJI{α:Type}{xs:List α}{i:Int}{j:Nat}{v:α}(e:i=(j:Int))(h:xs[j]?=some v):itA xs i=some v:=by
 have hj:j<xs.length:=(qA4.mp h).1;subst e;unfold itA ixA;rw[if_pos (by lia),if_pos (by lia)]
 simpa using h
theorem zLT{n:Nat}{i:Int}(h0:0<=i)(h1:i<n):ixA n i=some i.toNat:=by
 unfold ixA;rw[if_pos h0,if_pos h1]
theorem zLV{ns:List Int}{i:Int}(h0:0<=i)(h1:i<ns.length):itA (ns.map Dt.int) i=some (.int (ns.getD i.toNat 0)):=by
 refine zJI (j:=i.toNat) (by lia) ?_;rw[qAe,qA0,qA7 (by lia)];rfl
theorem zTS{ns:List Int}{i:Int}(h0:0<=i)(h1:i<ns.length):itA ns i=some (ns.getD i.toNat 0):=by
 refine zJI (j:=i.toNat) (by lia) ?_;rw[qA0,qA7 (by lia)];rfl
@[simp] theorem set_int(ns:List Int)(i:Nat)(x:Int):(ns.map Dt.int).set i (.int x)=(ns.set i x).map Dt.int:=by rw[qGk]
theorem zM4{ρ:Rh}{k:Nat}{tg:Tg}{c:TM}{e:EM}(f:Dt->Dt):∀(ds acc:List Dt),(∀d∈ds,∃bs,zAR tg d=some bs/\c (zAM (ρ++qA2 k none) bs)=okR true/\e (zAM (ρ++qA2 k none) bs)=okR (f d))->compGo ρ k tg c e ds acc=okR (acc++ds.map f)
 |[],acc,_=>by simp[compGo]
 |d::ds,acc,h=>by
  obtain⟨bs,h1,h2,h3⟩:=h d (by simp);rw[compGo,h1];simp only;rw[h2,bindR_ok,if_pos rfl,h3,bindR_ok,zM4 f ds (acc++[f d]) fun d hd=>h d (by simp[hd])];simp
theorem zBY{ρ:Rh}{k:Nat}{tg:Tg}{c:TM}{e:EM}(p:Dt->Bool)(f:Dt->Dt):∀(ds acc:List Dt),(∀d∈ds,∃bs,zAR tg d=some bs/\c (zAM (ρ++qA2 k none) bs)=okR (p d)/\(p d=true->e (zAM (ρ++qA2 k none) bs)=okR (f d)))->compGo ρ k tg c e ds acc=okR (acc++(ds.filter p).map f)
 |[],acc,_=>by simp[compGo]
 |d::ds,acc,h=>by
  obtain⟨bs,h1,h2,h3⟩:=h d (by simp);rw[compGo,h1];simp only;rw[h2,bindR_ok];cases hp:p d with
  |true=>
   rw[if_pos rfl,h3 hp,bindR_ok,zBY p f ds (acc++[f d]) fun d hd=>h d (by simp[hd])];simp[hp]
  |false=>
   rw[if_neg (by decide),zBY p f ds acc fun d hd=>h d (by simp[hd])];simp[hp]
theorem zI8{tg:Tg}{b:SM}(Pv:Nat->Ro->Prop):∀(ds:List Dt)(i:Nat)(r:Ro),Pv i r->(∀(j:Nat)(d:Dt)(r:Ro),ds[j]?=some d->Pv (i+j) r->∃bs r',zAR tg d=some bs/\b (zAV r bs)=okR (.nx r')/\Pv (i+j+1) r') ->
  ∃r',forGo tg b ds r=okR (.nx r')/\Pv (i+ds.length) r'
 |[],i,r,h,_=>⟨r,by simp[forGo],by simpa using h⟩
 |d::ds,i,r,h,hs=>by
  obtain⟨bs,r1,h1,h2,h3⟩:=hs 0 d r (by simp) (by simpa using h);obtain⟨r2,h4,h5⟩:=zI8 Pv ds (i+1) r1 (by simpa using h3) fun j e r he hp=>by
   have:=hs (j+1) e r (by simpa using he) (by rw[show i+(j+1)=i+1+j by lia];exact hp)
   rw[show i+1+j+1=i+(j+1)+1 by lia];exact this
  refine⟨r2,?_,by rw[qAt,show i+(ds.length+1)=i+1+ds.length by lia];exact h5⟩;rw[forGo,h1];simp only;rw[h2,bindR_ok];exact h4
section
variable(ρ:Rh)(r:Ro)(a:EM)(am:AM)(s:SM)
@[simp] theorem x_noE_ok{α:Type}(x:α):noE (okR x)=okR x:=rfl
@[simp] theorem x_noE_none{α:Type}:noE (none:R α)=none:=rfl
@[simp] theorem x_noE_err{α:Type}(e:Xn):noE (some (.error e):R α)=none:=rfl
@[simp] theorem x_eCallN(f:FM):eCallN f am ρ=zA2 (am ρ) fun ds=>noE (f ds):=rfl
@[simp] theorem x_eMkX(c f:Str):eMkX c f am ρ=zA2 (am ρ) fun ds=>match ds with|[d]=>okR (.exc c f d)|_=>none:=rfl
@[simp] theorem x_sRaise(c f:Str):zRM c f am r=zA2 (am (full r)) fun ds=>match ds with|[d]=>some (.error ⟨c,f,d⟩)|_=>none:=rfl
@[simp] theorem x_eAtX(hs:List Str)(f:Str):eAtX hs f a ρ=zA2 (a ρ) fun d=>match d with | .exc c g x=>if c∈hs/\g=f then okR x else none|_=>none:=rfl
@[simp] theorem x_eIsX(ys ns:List Str):eIsX ys ns a ρ=zA2 (a ρ) fun d=>match d with | .exc c _ _=>if c∈ys then okR (.bl true)else if c∈ns then okR (.bl false)else none|_=>none:=rfl
@[simp] theorem x_gone_nx(i:Nat):zWP i (.nx r)=.nx (r.set i none):=rfl
@[simp] theorem x_gone_rt(i:Nat)(d:Dt):zWP i (.rt d)=.rt d:=rfl
end
example (d:Dt):True:=trivial
end Mi
namespace L2
open PySem PySem.Spec PyProof.Rows
section
variable{X:Cx}
noncomputable def zV6:R2:=fun x y H Q=>match x,y with
 |.int i,.int j=>Q (.int (qHw i j)) H
 |_,_=>False
theorem zXT:OpR X (binaryOp .BitXor) zV6:=by
 intro pins s σ H x y v u Q I rx ry h;cases x<;>cases y<;>first
  |exact zVU pins s σ H _ _ v u Q I rx ry ⟨_,_,rfl,rfl,h⟩
  |exact qA5 h
def zV9:R2:=fun x y H Q=>match x,y with
 |.ref l,.int k=>∃xs,H l=some (.lst xs)/\(-(2 ^ 63)<=k/\k<2 ^ 63)/\xs.length*k.toNat<=sizeLine/\∀p,H p=none->Q (.ref p) (upd H p (.lst (qA2 k.toNat xs).flatten))
 |_,_=>False
theorem zSP:OpR X (binaryOp .Mult) zV9:=by
 intro pins s σ H x y v u Q I rx ry h;cases x<;>cases y<;>first
  |(obtain⟨xs,h1,h2,h3,h4⟩:=h;exact zVW pins s σ H _ _ v u Q I rx ry ⟨_,_,xs,rfl,rfl,h1,h2.1,h2.2,h3,h4⟩)
  |exact qA5 h
def extM:V->List V->Hp->VK->Prop:=fun x vs H Q=>match x,vs with
 |.ref l,[.ref b]=>∃xs zs,H l=some (.lst xs)/\H b=some (.lst zs)/\xs.length+zs.length<=sizeLine/\Q .non (upd H l (.lst (xs++zs)))
 |_,_=>False
theorem zTK:MtR X "list.extend" extM:=by
 intro pins s σ H x vs v us Q I rx rv h;cases x with
 |ref l=>
  cases vs with
  |nil=>exact qA5 h
  |cons hd1 tl1=>
   cases hd1 with
   |ref b=>
    cases tl1 with
    |nil=>
     obtain⟨xs,zs,h1,h2,h3,h4⟩:=h;exact zO8 pins s σ H _ _ v us Q I rx rv ⟨l,b,xs,zs,rfl,rfl,h1,h2,h3,h4⟩
    |cons _ _=>exact qA5 h
   |_=>exact qA5 h
 |_=>exact qA5 h
noncomputable def posI(k:Int):List Int->Option Nat
 |[]=>none
 |x::r=>if x=k then some 0 else(posI k r).map (·+1)
theorem zOO:∀{ns:List Int}{us:List Value},Vals (ns.map V.int) us->qFh us=true
 |[],_,.nil=>rfl
 |n::r,_,.cons a t=>by obtain⟨k,rfl⟩:=a;have:=zOO (ns:=r) t;simpa[qFh]using this
theorem zRP{k:Int}:∀{ns:List Int}{us:List Value}{j:Nat},Vals (ns.map V.int) us->posI k ns=some j->qGf k us=some j
 |[],_,_,.nil,h=>by cases h
 |n::r,_,j,.cons a t,h=>by
  obtain⟨q,rfl⟩:=a;unfold posI at h;unfold qGf
  by_cases e:n=k
  ·rw[if_pos e]at h;cases h;subst e;simp[qD8]
  ·rw[if_neg e]at h;cases h':posI k r with
   |none=>rw[h']at h;cases h
   |some z=>
    rw[h']at h;cases h;rw[zRP t h'];have hb:(n==k)=false:=by simpa using e
    simp[qD8,hb]
def lixM:V->List V->Hp->VK->Prop:=fun x vs H Q=>match x,vs with
 |.ref l,[.int k]=>∃ns j,H l=some (.lst (ns.map V.int))/\posI k ns=some j/\Q (.int j) H
 |_,_=>False
theorem zTI:MtR X "list.index" lixM:=by
 intro pins s σ H x vs v us Q I rx rv h;cases x with
 |ref l=>
  cases vs with
  |nil=>exact qA5 h
  |cons hd1 tl1=>
   cases hd1 with
   |int k=>
    cases tl1 with
    |nil=>
     obtain⟨ns,j,h1,h2,h3⟩:=h;cases rx;obtain⟨u,rfl,ru⟩:=zGO rv;obtain⟨t,rfl⟩:=ru;obtain⟨z,its,n,r,hl,e⟩:=I.lstM h1;obtain⟨a,b,c⟩:=PySem.W.kf_at_spec (zRP r h2);rw[qI9]at z;refine call_meets qDk ⟨_,e,rfl⟩ PySem.F.entry_list_index (PySem.F.args_list_index_2 _ _)
      (MeetsSeq.list_index l its.toArray n (.int k t) (qD8 k) (fun y hy=>PySem.W.kf_eq (zOO r) y (by simpa using hy)) j (by simpa using a) (by lia) (by simpa using b) (fun i hi hlt=>by simpa using c i (by simpa using hi) hlt)) ⟨e,?_⟩
     exact⟨.int _,H,I.tok _,⟨_,rfl⟩,h3⟩
    |cons _ _=>exact qA5 h
   |_=>exact qA5 h
 |_=>exact qA5 h
theorem zH5{x:V}:∀{xs:List V}{us:List Value},Vals xs us->xs.all zDP=true->us.countP (eqU x)=xs.countP fun y=>eqV y x
 |_,_,.nil,_=>rfl
 |y::xs,u::us,.cons r t,f=>by
  rw[qC6,qB5]at f;rw[qCb,qCb,zOW r f.1,zH5 t f.2]
def lcoM:V->List V->Hp->VK->Prop:=fun x vs H Q=>match x,vs with
 |.ref l,[y]=>∃xs,H l=some (.lst xs)/\zDP y=true/\xs.all zDP=true/\Q (.int (xs.countP fun z=>eqV z y:Nat)) H
 |_,_=>False
theorem zTJ:MtR X "list.count" lcoM:=by
 intro pins s σ H x vs v us Q I rx rv h;cases x with
 |ref l=>
  cases vs with
  |nil=>exact qA5 h
  |cons y tl1=>
   cases tl1 with
   |nil=>
    obtain⟨xs,h1,h2,h3,h4⟩:=h;cases rx;obtain⟨u,rfl,ru⟩:=zGO rv;obtain⟨z,its,n,r,hl,e⟩:=I.lstM h1;refine call_meets qDl ⟨_,e,rfl⟩ PySem.F.entry_list_count (PySem.F.args_list_count_2 _ _)
     (SeqAt.list_countAt l its.toArray n none #[] u (eqU y)) ⟨e,fun w hw=>zFO ru h2 r h3 w (by simpa using hw),?_⟩
    refine⟨.int _,H,I.tok _,⟨_,rfl⟩,?_⟩;rw[show its.toArray.toList=its from rfl,zH5 r h3];exact h4
   |cons _ _=>exact qA5 h
 |_=>exact qA5 h
end
noncomputable def Itv(K:qA1)(a:Addr)(n:Nat):It:=
 ⟨fun i H=>∃xs x,SqL K H a xs/\i<n/\xs[n-1-i]?=some x,fun i H x H'=>H'=H/\∀xs,SqL K H a xs->xs[n-1-i]?=some x,fun i H=>n<=i⟩
theorem zPW{P:qGz}{w:World}{K:qA1}{tg:Expr}(a it:Addr)(n:Nat):Turn P w K tg (Itv K a n) [it] it (fun i h=>h.IsRevIter it a (((n-i:Nat):Int)-1)) where
 mem:=by simp
 obj:=fun i h st b hb=>by
  have e:b=it:=by simpa using hb
  subst e;obtain⟨o,e,c,d⟩:=st;exact⟨o,e,fun v z=>by rw[d]at z;cases z⟩
 keep:=fun i h h' st k=>st.at fun o e=>k it (by simp) o e
 item:=by
  intro X hP hw hK hc i pins s σ H E I hf st hg;subst hP hw hK;obtain⟨xs,x,hq,hi,hx⟩:=hg;obtain⟨its,rv,p,hz⟩:=I.list hq;obtain⟨u,hu,ru⟩:=rv.get hx;obtain⟨f0,f1,f2,f3,f4,f5⟩:=hf it (by simp);have e1:(((n-i:Nat):Int)-1)=((n-1-i:Nat):Int):=by lia
  rw[e1]at st;refine wpAny_pyNext_rev_item st p.isList (x:=u) (by simpa using hu) fun h' st' sb=>?_
  have I1:Inv X pins σ H { s with heap:=h' }:=I.turned (t':=s.toks) (fun b o hb e=>(sb.2 b hb).trans e) f0 f1 f3 f4 f5;have e2:(((n-1-i:Nat):Int)-1)=((n-(i+1):Nat):Int)-1:=by lia
  rw[e2]at st';obtain⟨o,e,c,d⟩:=id st';exact⟨u,rfl,zOQ (s:={ s with heap:=h' }) e c d (by decide) ⟨x,H,I1,ru,⟨rfl,fun ys hy=>by rw[I.list_inj hy hq];exact hx⟩,st',fun b hb=>(hf b hb).1⟩⟩
 done:=by
  intro X hP hw hK hc i pins s σ H E I hf st hg;subst hP hw hK;obtain⟨f0,f1,f2,f3,f4,f5⟩:=hf it (by simp);have e1:(((n-i:Nat):Int)-1) = -1:=by have:n<=i:=hg;lia
  rw[e1]at st;exact wpAny_pyNext_rev_end (I.ok.hd hc) st fun h' eb=>⟨rfl,I.turned (t':=s.toks) (fun b o hb e=>eb b o hb e) f0 f1 f3 f4 f5⟩
 self:=fun _ _ _ _ _ st h=>qD6 st h
section
variable{X:Cx}{K:qA1}
def iRev(K:qA1)(tl:TA):TI:=fun σ H R=>tl σ H fun vs H1=>match vs with
 |[.ref a]=>∃xs,SqL K H1 a xs/\R (Itv K a xs.length) H1
 |_=>False
theorem zVN{tg:Expr}{p pos:Pos}{a:Expr}{ta:TA}(hg:Gl X "reversed")(hm:X.mg "reversed" = none)(ha:PA X [a] ta)(hs:starEach [a] X.env=(false,eval a X.env)::starEach [] X.env:=by rfl)(hpl:(backTo pos (starEach [] X.env)).any (·.1)=false:=by rfl)(hK:X.K=K:=by rfl) :
  PI X tg (.Call (.Name "reversed" p) [a] [] pos) (iRev K ta):=by
 subst hK;intro pins s σ H R I h;refine Call_ (zGB I hg hm boot_reversed (qB7 (thn (ha pos pins s σ H _ I h) fun us s1 z0=>?_) hs hpl));obtain⟨vs,H1,I1,r1,q1⟩:=z0;cases vs with
 |nil=>exact qA5 q1
 |cons hd1 tl1=>
  cases hd1 with
  |ref l1=>
   cases tl1 with
   |nil=>
    obtain⟨xs,hq1,q⟩:=q1;obtain⟨u1,rfl,rx⟩:=zGO r1;cases rx;obtain⟨its1,rv1,p1,hz1⟩:=I1.list hq1;refine call_reversed_list p1.isList ?_;refine qD6 (l:=l1) (i:=(its1.toArray.size:Int)-1) ⟨_,qH4 _ rfl,rfl,rfl⟩ ?_;refine⟨s1.heap.objs.size,[s1.heap.objs.size],_,_,H1,rfl,I1.kept (t':=s1.toks) fun b o e=>qGx _ e,zPW l1 _ xs.length,⟨_,qH4 _ rfl,rfl,?_⟩,fun b hb=>?_,q⟩
    ·show(revObj l1 _).data=_
     have:=rv1.length
     unfold revObj;simp[this]
    have e:b=s1.heap.objs.size:=by simpa using hb
    subst e;exact I1.fpOk (qA6 _) (I1.hok.fresh (qA6 _))
   |cons _ _=>exact qA5 q1
  |_=>exact qA5 q1
end
end L2
namespace Mi
open PySem
noncomputable section
noncomputable def xorD:Dt->Dt->Option Dt
 |.int i,.int j=>some (.int (qHw i j))
 |_,_=>none
noncomputable def repD:Dt->Dt->Option Dt
 |.lst xs,.int k=>@ite _ ((-4611686018427387904<=k/\k<4611686018427387904)/\xs.length*k.toNat<=100000) (qA3 _) (some (.lst (qA2 k.toNat xs).flatten)) none
 |_,_=>none
def tL(a:EM):TM:=fun ρ=>zA2 (a ρ) fun x=>match x with
 |.bl k=>okR k
 |.int i=>okR (i != 0)
 |.non=>okR false
 |.lst xs=>okR (!xs.isEmpty)
 |.tup xs=>okR (!xs.isEmpty)
 |_=>none
def iRv(e:AM):IM:=fun ρ=>zA2 (e ρ) fun vs=>match vs with
 |[.lst xs]=>okR xs.reverse
 |_=>none
noncomputable def intsD:List Dt->Option (List Int)
 |[]=>some []
 |.int i::r=>(intsD r).map (i::·)
 |_::_=>none
def posI(k:Int):List Int->Option Nat
 |[]=>none
 |x::r=>if x=k then some 0 else(posI k r).map (·+1)
def eMl(f:List Dt->List Dt->Option Dt)(a:EM)(am:AM):EM:=fun ρ=>zA2 (a ρ) fun x=>match x with
 |.lst xs=>zA2 (am ρ) fun ds=>optR (f xs ds)
 |_=>none
def lixD(xs ds:List Dt):Option Dt:=match ds with
 |[.int k]=>match intsD xs with
  |some ns=>(posI k ns).map fun j=>.int (j:Int)
  |none=>none
 |_=>none
noncomputable def lcoD(xs ds:List Dt):Option Dt:=match ds with
 |[d]=>if d.dep=0/\Dt.depL xs=0 then some (.int (xs.countP fun y=>Dt.eq y d:Nat))else none
 |_=>none
def sExt(i n:Nat)(e:EM):SM:=fun ρ=>match ρ[i]? with
 |some (some (.lst ds,k+1))=>zA2 (e (full ρ)) fun d=>match d with
  |.lst es=>@ite _ (ds.length+es.length<=100000/\Dt.depL es<=n/\Dt.depL es<=k) (qA3 _) (okR (.nx (ρ.set i (some (.lst (ds++es),k+1))))) none
  |_=>none
 |_=>none
noncomputable def low(i:Nat)(ρ:Ro):Ro:=match ρ[i]? with
 |some (some (.lst ds,_+1))=>ρ.set i (some (.lst ds,1))
 |_=>ρ
def sAppF(i:Nat)(vs:List Nat)(e:EM):SM:=fun ρ=>match(frzAt vs (low i ρ))[i]? with
 |some (some (.lst ds,1))=>zA2 (e (frz (frzAt vs (low i ρ)))) fun d=>@ite _ (ds.length<=100000) (qA3 _) (okR (.nx ((frzAt vs (low i ρ)).set i (some (.lst (ds++[d]),1))))) none
 |_=>none
end
end Mi
namespace L3
open PySem PySem.Spec
open L2 hiding Rep RepL
open Mi (Dt Xn R okR zA2 optR bindR_ok zA4 zAA zA8 zA9 Rh Sl Ro EM TM AM FM IM SM Tg Out zAR zAM zAV full frz frz1 frzAt)
section
variable[Kc]{mg:Str->Option Value}{E:XK}{L n k l:Nat}{te ta tb:TE}{e ea eb ma:EM}{t:TA}{m:AM}
theorem zV3:ROp zV6 Mi.xorD n:=by
 intro mg E G H d e x y Q s h1 h2 p;cases d with
 |int i=>
  cases e with
  |int j=>cases(show x=.int i from h1);cases(show y=.int j from h2);exact zNO s p rfl rfl rfl
  |_=>exact p.elim
 |_=>exact p.elim
theorem zQ8{G:Hp}{ds es:List Dt}{xs ys:List V}(ra:RepL G ds xs)(rb:RepL G es ys):RepL G (ds++es) (xs++ys):=by
 refine zEE (by simp[ra.length,rb.length]) fun j d' x' e1 e2=>?_
 by_cases hj:j<ds.length
 ·rw[qA9 hj]at e1;rw[qA9 (by rw[ra.length];exact hj)]at e2;exact zBP ra e1 e2
 ·rw[qAa (by lia)]at e1;rw[qAa (by rw[ra.length];lia),ra.length]at e2;exact zBP rb e1 e2
theorem zLI{G:Hp}{ds:List Dt}{xs:List V}(r:RepL G ds xs):∀k:Nat,RepL G (qA2 k ds).flatten (qA2 k xs).flatten
 |0=>rfl
 |k+1=>by rw[qAx,qAx,qBd,qBd];exact zQ8 r (zLI r k)
theorem zNI:ROp zV9 Mi.repD 1:=by
 intro mg E G H d e x y Q s h1 h2 p;cases d with
 |lst ds=>
  cases e with
  |int j=>
   obtain⟨a,xs,rfl,ha,ra⟩:=h1
   cases(show y=.int j from h2)
   rw[Mi.repD]at p
   split at p
   ·rename_i hz
    exact⟨xs,s _ _ ha,⟨by lia,by lia⟩,by rw[ra.length];exact big' hz.2,fun q hq=>PostE.lst p (Ext.refl s) (zLI ra _) hq⟩
   ·exact p.elim
  |_=>exact p.elim
 |_=>exact p.elim
theorem zWK{K:qA1}{G:Hp}{a:Addr}{xs:List V}{ds:List Dt}(ha:G a=some (.lst xs))(r:RepL G ds xs):ItOk (Itv K a xs.length) G ds.reverse:=by
 intro i G1 H1 s1 s2;have hS:SqL K H1 a xs:=SqL.of (s2 _ _ (s1 _ _ ha));have hl:=r.length;rw[List.length_reverse];refine⟨fun hi=>⟨xs,xs[xs.length-1-i]'(by lia),hS,by lia,by simp⟩,fun hi=>(by show xs.length<=i;lia),fun x H2 d hd hy=>?_⟩;obtain⟨rfl,hy⟩:=hy;have hi:i<ds.length:=by
  have:=(qA4.mp hd).1
  simpa using this
 rw[List.getElem?_reverse hi]at hd;exact⟨G1,Ext.refl s2,Rep.mono s1 (zBP r hd (by rw[<- hl];exact hy xs hS))⟩
theorem zX3(A:DA mg E t m 0):DI mg E (iRev Kc.K t) (Mi.iRv m) false:=by
 intro G H σ ρ Q s w p;refine A.step errI s w p fun ds vs G1 H1 S T _ fr o p1=>?_
 have r:=o.repL;cases ds with
 |nil=>exact qA5 p1
 |cons hd1 tl1=>
  cases hd1 with
  |lst es=>
   cases tl1 with
   |nil=>
    obtain⟨x,rfl,a,xs,rfl,ha,ra⟩:=zEF r;exact⟨xs,SqL.of (fr.ext.in' _ _ ha),p1 _ G1 H1 fr.ext (zWK ha ra)⟩
   |cons _ _=>exact qA5 p1
  |_=>exact qA5 p1
def RMl(r:V->List V->Hp->VK->Prop)(f:List Dt->List Dt->Option Dt)(n:Nat):Prop:=∀(mg:Str->Option Value)(E:XK)(G H:Hp)(a:Addr)(es ds:List Dt)(xs vs:List V)(Q:VK),Same G H->G a=some (.lst xs)->RepL G es xs->RepL G ds vs->PostE mg E G H n (optR (f es ds)) Q->r (.ref a) vs H Q
theorem zX8{r:V->List V->Hp->VK->Prop}{f:List Dt->List Dt->Option Dt}(hr:RMl r f n)(A:DE mg E te e k)(B:DA mg E t m 0):DE mg E (tML r te t) (Mi.eMl f e m) n:=by
 intro G H σ ρ Q s w p;refine(zAX A).step errE s w p fun d v G1 H1 S _ fr o p1=>?_
 cases d with
 |lst es=>
  obtain⟨a,xs,rfl,ha,ra⟩:=o;refine⟨xs,fr.ext.in' _ _ ha,?_⟩;have p2:PostE mg E G H n (zA2 (m ρ) fun ds=>optR (f es ds)) Q:=p1;refine B.step (errE.from fr.ext) fr.ext.in' (w.mono fr.ext.g) p2 fun ds vs G2 H2 S2 T2 _ fr2 o2 p3=>?_
  exact hr mg E G2 H2 a es ds xs vs Q fr2.ext.in' (fr2.ext.g _ _ ha) (RepL.mono fr2.ext.g ra) o2.repL (PostE.from p3 (fr.ext.trans fr2.ext))
 |_=>exact p1.elim
theorem zNU(k:Int):∀ns:List Int,Mi.posI k ns=L2.posI k ns
 |[]=>rfl
 |x::r=>by unfold Mi.posI L2.posI;rw[zNU k r]
theorem zEO{G:Hp}:∀{ds:List Dt}{ns:List Int}{xs:List V},Mi.intsD ds=some ns->RepL G ds xs->xs=ns.map V.int
 |[],ns,xs,h,r=>by cases h;exact r
 |d::q,ns,xs,h,r=>by
  cases d with
  |int i=>
   rw[Mi.intsD]at h;cases e:Mi.intsD q with
   |none=>rw[e]at h;cases h
   |some ms=>
    rw[e]at h;cases h;obtain⟨x,t,rfl,a,b⟩:=r
    cases(show x=.int i from a)
    rw[zEO e b];rfl
  |_=>cases h
theorem zQ3:RMl lixM Mi.lixD n:=by
 intro mg E G H a es ds xs vs Q s ha ra rv p;cases ds with
 |nil=>exact qA5 p
 |cons hd1 tl1=>
  cases hd1 with
  |int k=>
   cases tl1 with
   |nil=>
    obtain⟨x,rfl,hx⟩:=zEF rv
    cases(show x=.int k from hx)
    unfold Mi.lixD at p;cases ei:Mi.intsD es with
    |none=>rw[ei]at p;exact p.elim
    |some ns=>
     rw[ei]at p;dsimp only at p;cases ej:Mi.posI k ns with
     |none=>rw[ej]at p;exact p.elim
     |some j=>
      rw[ej]at p;refine⟨ns,j,?_,by rw[<- zNU];exact ej,PostE.val p (Ext.refl s) rfl rfl⟩;rw[s _ _ ha,zEO ei ra]
   |cons _ _=>exact qA5 p
  |_=>exact qA5 p
theorem zM2{G:Hp}{d:Dt}{v:V}(h:Rep G d v)(hd:d.dep=0):∀{ds:List Dt}{vs:List V},RepL G ds vs->Dt.depL ds=0->vs.all zDP=true/\(vs.countP fun z=>eqV z v)=ds.countP fun y=>Dt.eq y d
 |[],_,r,_=>by cases r;exact⟨rfl,rfl⟩
 |e::q,_,r,hz=>by
  obtain⟨x,t,rfl,a,b⟩:=r;rw[Dt.depL]at hz;obtain⟨g1,g2⟩:=zM2 h hd b (by lia);refine⟨by rw[qC6,zGF a (by lia),g1];rfl,?_⟩;rw[qCb,qCb,g2,zJK a h (by lia) hd]
theorem zQ4:RMl lcoM Mi.lcoD n:=by
 intro mg E G H a es ds xs vs Q s ha ra rv p;cases ds with
 |nil=>exact qA5 p
 |cons d tl1=>
  cases tl1 with
  |nil=>
   obtain⟨x,rfl,hx⟩:=zEF rv;unfold Mi.lcoD at p;dsimp only at p
   split at p
   ·rename_i hz
    obtain⟨g1,g2⟩:=zM2 hx hz.1 ra hz.2;refine⟨xs,s _ _ ha,zGF hx hz.1,g1,?_⟩;rw[g2];exact PostE.val p (Ext.refl s) rfl rfl
   ·exact p.elim
  |cons _ _=>exact qA5 p
end
section
variable[Kc]{G0 H0 S0:Hp}{σ:St}{ρ:Ro}{G H:Hp}{As:Nat->Addr->Prop}
theorem Sat.low(a:Sat G0 H0 S0 σ ρ G H As)(i:Nat):∃G1 As1,Sat G0 H0 S0 σ (Mi.low i ρ) G1 H As1:=by
 unfold Mi.low
 split
 ·rename_i ds k e1
  obtain⟨v,h1,q,xs,T,rfl,hq,kd⟩:=a.at i _ _ e1;obtain⟨s1,s2⟩:=zCJ (S:=fun b=>∃r,T r b) a.ext.in';have ui:∀b,(∃r,T r b)->As i b:=fun b ⟨r,z⟩=>kd.sub r b z
  have x:Ext G0 H0 (over G H fun b=>∃r,T r b) H:=⟨a.ext.g.trans s1,a.ext.h,s2,fun b hb=>by
   have z:¬ ∃r,T r b:=fun z=>hb (a.new i b (ui b z)).1
   rw[zBZ z];exact a.ext.old b hb⟩
  refine⟨over G H fun b=>∃r,T r b,fun j b=>As j b/\¬ ∃r,T r b,x,a.stb.trans s1,a.tab,by simp[a.len],fun j e n h=>?_,fun j l b p q=>a.dis j l b p.1 q.1,fun j b p=>?_⟩
  ·have hj:j<ρ.length:=by
    have:=(qA4.mp h).1
    simpa using this
   by_cases z:i=j
   ·subst z;rw[qAo hj]at h;cases h;exact⟨.ref q,h1,q,xs,fun _ _=>False,rfl,hq,⟨kd.len,fun r d x g1 g2=>(kd.own r d x g1 g2).rep s1 fun b o hb e=>by rw[zDM ⟨r,hb⟩];exact e,⟨kd.top,fun⟨r,z⟩=>kd.out r z⟩,fun _ z=>z,fun _ _ _ z=>z.elim,fun _ _ z=>z.elim⟩⟩
   ·rw[qAs z]at h;obtain⟨u,q1,q2⟩:=a.at j e n h;exact⟨u,q1,(q2.mono s1 (Same.refl _)).sub fun b hb=>⟨hb,fun w=>z (a.dis i j b (ui b w) hb)⟩⟩
  ·obtain⟨n1,n2,n3⟩:=a.new j b p.1;exact⟨n1,by rw[zBZ p.2];exact n2,n3⟩
 ·exact⟨G,As,a⟩
end
section
variable[Kc]{mg:Str->Option Value}{E:XK}{L n k l:Nat}{te ta tb:TE}{e ea eb ma:EM}{t:TA}{m:AM}
theorem zU5(i:Nat)(vs:List Nat)(A:DE mg E te e n):DS mg E L (zK9 (tML appM (vM i) (zIY te tNil))) (Mi.sAppF i vs e):=by
 intro G0 H0 S0 σ ρ G H As D a p;obtain⟨G1,As1,a1⟩:=a.low i;obtain⟨G2,As2,a2⟩:=Sat.frzAt vs a1;unfold Mi.sAppF at p
 generalize hρ:frzAt vs (Mi.low i ρ)=ρ2 at p a2
 split at p
 ·rename_i ds e1
  obtain⟨v,h1,q,xs,T,rfl,hq,kd⟩:=a2.at i _ _ e1;unfold zK9 tML vM;rw[h1];refine⟨xs,hq,?_⟩;refine(zAX A).step (errS.from a2.ext) a2.ext.in' a2.frz p fun d y G3 H3 S _ fr o p1=>?_
  split at p1
  ·rename_i hz
   refine⟨xs,fr.ext.h _ _ hq,by rw[kd.len];exact L2.big (by lia),?_⟩;have a3:=a2.wider fr.ext;have kd1:Kids (Own G3 H3 0) (As2 i) q ds xs T:=kd.imp (fun _ _ _ _ w=>w.mono fr.ext.g fr.ext.h) fun _ z=>z
   refine p1 σ G3 _ _ (a3.store (S:=As2 i) kd.top h1 ⟨q,_,fun _ _=>False,rfl,zAJ,⟨by simp[kd.len],fun r d' z g1 g2=>?_,kd.top,fun _ z=>z,fun _ _ _ z=>z.elim,fun _ _ z=>z.elim⟩⟩ fun b z=>.inl z)
   by_cases hr:r<ds.length
   ·rw[qA9 hr]at g1;rw[qA9 (by rw[kd.len];exact hr)]at g2;exact kd1.own r d' z g1 g2
   ·rw[qAa (by lia)]at g1;rw[qAa (by rw[kd.len];lia),kd.len]at g2;have hq0:r-ds.length=0:=by
     have:=(qA4.mp g1).1
     simp at this;lia
    rw[hq0]at g1 g2;simp at g1 g2;subst g1;subst g2;exact o
  ·exact p1.elim
 ·exact p.elim
theorem zWZ(i:Nat)(A:DE mg E te e (n+1))(hn:n<1000:=by decide):DS mg E L (zK9 (tML extM (vM i) (zIY te tNil))) (Mi.sExt i n e):=by
 intro G0 H0 S0 σ ρ G H As D a p;obtain⟨J,x,s,w⟩:=a.full;unfold Mi.sExt at p
 split at p
 ·rename_i ds k e1
  obtain⟨v,h1,q,xs,T,rfl,hq,kd⟩:=a.at i _ _ e1;unfold zK9 tML vM;rw[h1];refine⟨xs,hq,?_⟩;refine A.step (errS.from x) x.in' w p fun d y G1 H1 S _ fr o p1=>?_
  split at p1
  ·rename_i es
   obtain⟨b0,zs,T2,rfl,hb0,kd2⟩:=o
   split at p1
   ·rename_i hz
    refine⟨xs,zs,fr.ext.h _ _ hq,hb0,by rw[kd.len,kd2.len];exact big' (by lia),?_⟩;have hp:=kd.top;have a1:=a.grow fr.ext.h;have q2:∀b,S b->H b=none/\G b=none/\H1 b≠none:=fun b hb=>let⟨n1,n2,n3⟩:=fr.new b hb;⟨n1,a.ext.in'.free n1,n3⟩
    have nS:∀r,¬T2 r q:=fun r z=>(a.new i q hp).2.2 (q2 q (kd2.sub r q z)).1
    have ap:∀r r' b,T r b->T2 r' b->False:=fun r r' b h1 h2=>(a.new i b (kd.sub r b h1)).2.2 (q2 b (kd2.sub r' b h2)).1
    refine p1 σ G _ _ (a1.store (S:=fun b=>As i b\/∃r,T2 r b) hp h1 ⟨q,_,fun r b=>(r<ds.length/\T r b)\/(ds.length<=r/\T2 (r-ds.length) b),rfl,zAJ,⟨by simp[kd.len,kd2.len],fun r d' z g1 g2=>?_,.inl hp,fun r z=>?_,fun r r' b z1 z2=>?_,fun r b z=>?_⟩⟩ fun b z=>?_)
    ·by_cases hr:r<ds.length
     ·rw[qA9 hr]at g1;rw[qA9 (by rw[kd.len];exact hr)]at g2;exact(((kd.own r d' z g1 g2).mono (Same.refl _) fr.ext.h).upd (kd.out r)).sub fun b z=>.inl ⟨hr,z⟩
     ·rw[qAa (by lia)]at g1;rw[qAa (by rw[kd.len];lia),kd.len]at g2;exact(((kd2.own _ d' z g1 g2).at (zEH hz.2.1 g1) (zEH hz.2.2 g1) hn).upd (nS _)).sub fun b z=>.inr ⟨by lia,z⟩
    ·rcases z with⟨_,z⟩|⟨_,z⟩
     ·exact kd.out r z
     ·exact nS _ z
    ·rcases z1 with⟨c1,t1⟩|⟨c1,t1⟩<;>rcases z2 with⟨c2,t2⟩|⟨c2,t2⟩
     ·exact kd.dis r r' b t1 t2
     ·exact(ap _ _ b t1 t2).elim
     ·exact(ap _ _ b t2 t1).elim
     ·have:=kd2.dis _ _ b t1 t2;lia
    ·rcases z with⟨_,z⟩|⟨_,z⟩
     ·exact .inl (kd.sub r b z)
     ·exact .inr ⟨_,z⟩
    ·rcases z with z|⟨r,z⟩
     ·exact .inl z
     ·obtain⟨n1,n2,n3⟩:=q2 b (kd2.sub r b z);exact .inr ⟨a.ext.h.free n1,n2,n3,fun j y=>(a.new j b y).2.2 n1⟩
   ·exact p1.elim
  ·exact p1.elim
 ·exact p.elim
end
structure XNo(K:qA1)(mg:Str->Option Value)(c:Str)(C:Addr):Prop extends XCls K mg c C where
 kp:qBe K (.ref C)=true
 ini:qB0 K (.ref C) "__init__" = some (some (.builtin "ValueError.__init__"))
theorem zVR{X:Cx}{c:Str}{C:Addr}{e:Expr}{es:List Expr}{t:TA}{p pos:Pos}(h:XNo X.K X.mg c C)(hg:Gl X c)(ha:PA X (e::es) t)(hdb:(c==("__debug__":Str))=false:=by decide)
  (he:starEach (e::es) X.env=(false,eval e X.env)::starEach es X.env:=by rfl) (hpl:(backTo pos (starEach es X.env)).any (·.1)=false:=by rfl):PE X (.Call (.Name c p) (e::es) [] pos) (zK8 C t):=
 zNY h.is.xc h.ini hg h.gm h.kp ha hdb he hpl
section
variable[Kc]{mg:Str->Option Value}{E:XK}{L n k l:Nat}{te ta tb:TE}{e ea eb ma:EM}{t:TA}{m:AM}
theorem zOZ{c:Str}{C:Addr}(h:XNo Kc.K mg c C)(A:DA mg E t m 0):DS mg E L (zRG Kc.K E (zK8 C t)) (Mi.sRaise0 c m):=by
 intro G0 H0 S0 σ ρ G H As D a p;obtain⟨J,x,s,w⟩:=a.full;refine A.step (errS.from x) x.in' w p fun ds vs G1 H1 S T _ fr o p1=>?_
 split at p1
 ·rename_i hz
  refine⟨by rw[o.len];exact big' (by lia),fun e he=>⟨e,C,none,rfl,zAJ,h.is.xc,?_⟩⟩;have hu:upd (upd H1 e (xn e (.ref C) none)) e (xo e (.ref C) none)=upd H1 e (xo e (.ref C) none):=by
   funext z
   by_cases h1:z=e
   ·rw[h1,zAJ,zAJ]
   ·rw[zAH h1,zAH h1,zAH h1]
  rw[hu];exact p1 (.ref e) none _ _ ((x.trans fr.ext).trans (Ext.new fr.ext.in' he _)) ⟨e,C,rfl,zAJ,h.cl,.inl ⟨rfl,rfl⟩⟩
 ·exact p1.elim
def KTup(K:qA1)(a:Addr)(ns:List Int):Prop:=KTP K a (ns.map V.int)
theorem zP4{a:Addr}{ns:List Int}(h:KTup Kc.K a ns):DE mg E (tC (.ref a)) (Mi.eC (.scr ns)) 0:=by
 intro G H σ ρ Q s w p;exact PostE.kept p (Ext.refl s) ⟨a,rfl,.inr h⟩
end
theorem zOI{K:qA1}{a:Addr}{o:Obj}{its:Array Value}{n:Nat}{ns:List Int}(h:K.lookup a=some o)(h1:o.cls=.type "tuple")(h2:o.data=.seq its n)(h3:its.size<=sizeLine)(h4:Vals (ns.map V.int) its.toList)(hne:ns≠[]:=by decide):KTup K a ns:=
 ⟨fun z=>hne (qEf.mp z),o,its,n,h,h1,h2,h3,h4⟩
end L3
namespace L2
open PySem PySem.Spec PyProof.Rows
section
variable{X:Cx}
noncomputable def zUY(z:Str):List V:=z.cps.toList.map fun c=>.str ⟨#[c]⟩
def rListX(K:qA1):List V->Hp->VK->Prop:=fun vs H Q=>match vs with
 |[.str z]=>z.length<=sizeLine/\∀l,H l=none->Q (.ref l) (upd H l (.lst (zUY z)))
 |_=>zLL K vs H Q
def rStrU:List V->Hp->VK->Prop:=fun vs H Q=>match vs with
 |[.int i]=>i.natAbs.log2<1920/\Q (.str (toString i)) H
 |_=>False
def zV7:List V->Hp->VK->Prop:=fun vs H Q=>match vs with
 |[.ref a]=>∃ns:List Int,H a=some (.lst (ns.map V.int))/\ns.length<=100000/\(∀n∈ns,-1000000<=n/\n<=1000000)/\Q (.int ns.sum) H
 |_=>False
theorem zRI:∀(ns:List Int),(∀n∈ns,-1000000<=n/\n<=1000000)->-(ns.length*1000000:Int)<=ns.sum/\ns.sum<=(ns.length*1000000:Int)
 |[],_=>by simp
 |n::r,h=>by
  have h1:=zRI r fun m hm=>h m (by simp[hm])
  have h2:=h n (by simp);simp only[qB8,qAt]
  lia
theorem zYI(hc:X.calm=true):zE7 X (.builtin "sum") zV7:=by
 intro pins s σ H vs us Q I r h;cases vs with
 |nil=>exact qA5 h
 |cons hd1 tl1=>
  cases hd1 with
  |ref a=>
   cases tl1 with
   |nil=>
    obtain⟨ns,ha,hz,hb,q⟩:=h;obtain⟨u,rfl,rx⟩:=zGO r;cases rx;obtain⟨its,rv,hl⟩:=zAU I.hok ha;have hi:qIj its ns:=zGC rv;obtain⟨xs,e⟩:=hi.allInts.items;have en:numsOf its=ns:=hi.numsOf;have en2:numsOf (intItems xs).toList=ns:=by rw[<- e];exact en
    rw[nums_intItems]at en2;have hl':s.heap.IsList a (intItems xs):=by rw[<- e];exact hl
    have hx:∀j,numAt xs j=ns.getD j 0:=fun j=>by rw[numAt_eq,en2]
    have hps:∀j,preSum (numAt xs) j=(ns.take j).sum:=fun j=>by
     rw[show numAt xs=fun i=>ns.getD i 0 from funext hx];exact qGc ns j
    have hxl:xs.size=ns.length:=by rw[<- en2];simp
    refine sum_intList (I.ok.hd hc) hl' (fun j hj=>?_) fun h' tk t' hk=>?_
    ·have hj':j<ns.length:=by lia
     rw[hx,hps];have b1:=hb (ns.getD j 0) (by rw[qA0,qA7 hj'];simp);have b2:=zRI (ns.take (j+1)) fun m hm=>hb m (qE8 hm)
     have b3:(ns.take (j+1)).length<=100000:=by rw[qBx];lia
     constructor<;>constructor<;>lia
    ·rw[hps,hxl,qCv];exact⟨.int _,H,I.kept (t':=tk) hk,⟨_,rfl⟩,q⟩
   |cons _ _=>exact qA5 h
  |_=>exact qA5 h
def zVF:List V->Hp->VK->Prop:=fun vs H Q=>match vs with
 |[.int i,.int j]=>Q (.int (if j>i then j else i)) H
 |[.ref a]=>∃ns:List Int,H a=some (.lst (ns.map V.int))/\0<ns.length/\∀M,M∈ns->(∀a,a∈ns->a<=M)->Q (.int M) H
 |_=>False
theorem zWE(hc:X.calm=true):zE7 X (.builtin "max") zVF:=by
 intro pins s σ H vs us Q I r h
 match vs,r,h with
 |[.int i,.int j],r,h=>exact zJP hc pins s σ H _ us Q I r ⟨i,j,rfl,h⟩
 |[.ref a],r,h=>
  obtain⟨ns,ha,hz,q⟩:=h;obtain⟨u,rfl,rx⟩:=zGO r;cases rx;obtain⟨its,rv,hl⟩:=zAU I.hok ha;have hi:qIj its ns:=zGC rv;obtain⟨xs,e⟩:=hi.allInts.items;have en2:numsOf (intItems xs).toList=ns:=by rw[<- e];exact hi.numsOf
  rw[nums_intItems]at en2;have hl':s.heap.IsList a (intItems xs):=by rw[<- e];exact hl
  have hxl:xs.size=ns.length:=by rw[<- en2];simp
  refine max_intList (I.ok.hd hc) hl' (by lia) fun v h' tk hv hk=>?_
  obtain⟨t,rfl⟩:=intItems_at hv;obtain⟨h1,h2⟩:=argBest_gt (numAt xs) (xs.size-1);refine⟨.int _,H,I.kept (t':=tk) hk,⟨_,rfl⟩,q _ ?_ fun b hb=>?_⟩
  ·rw[numAt_eq,en2];exact getD_mem (by lia)
  ·rw[<- en2]at hb;obtain⟨j,hj,rfl⟩:=mem_getD hb;rw[qAh,qD1]at hj;rw[<- numAt_eq];exact h2 j (by lia)
end
section
variable{X:Cx}{K:qA1}
end
section
variable{X:Cx}{e m1:Expr}{te ts:TE}{pos p2:Pos}
end
section
variable{X:Cx}{m:Str}{k:Nat}{o e:Expr}{es:List Expr}{ta:TE}{t:TA}{apos pos:Pos}{tb:List (Addr×Sp)}
end
section
variable{prog:qGz}{w:World}{A:qH1}{E:Value->qGw->Prop}{s:qGw}
end
section
variable{X:Cx}{pos:Pos}
end
section
variable{prog:qGz}{w:World}{A:qH1}{R:qJ6->qGw->Prop}{I:Addr}{fp wr:List Addr}{G:Array qHv->Array qHv->Prop}{n:Nat}{St:Nat->qGw->Prop}{led:Bool}{z:Str}
end
section
variable{X:Cx}
variable{o e:Expr}{es:List Expr}{to:TE}{t:TA}{name:Str}{apos cpos:Pos}{T id:String}{r:V->List V->Hp->VK->Prop}
end
section
variable{prog:qGz}{w:World}{A:qH1}{E:Value->qGw->Prop}{s:qGw}
end
section
variable{prog:qGz}{w:World}{A:qH1}{R:qJ6->qGw->Prop}{I:Addr}{fp wr:List Addr}{G:Array qHv->Array qHv->Prop}{n:Nat}{St:Nat->qGw->Prop}{led:Bool}{items:Array Value}{ns:List Int}
end
section
variable{prog:qGz}{w:World}{A:qH1}{E:Value->qGw->Prop}{s:qGw}
end
section
variable{X:Cx}{K:qA1}
end
section
variable{X:Cx}{e m1:Expr}{te ts:TE}{pos p2:Pos}
end
section
variable{prog:qGz}{w:World}{A:qH1}{R:qJ6->qGw->Prop}{I:Addr}{fp wr:List Addr}{G:Array qHv->Array qHv->Prop}{n:Nat}{St:Nat->qGw->Prop}{led:Bool}{items:Array Value}{zs:List Str}
end
section
variable{X:Cx}{m:Str}{k:Nat}{E:XK}{o:Expr}{ta:TE}{apos pos:Pos}{tb:List (Addr×Sp)}
end
end L2
namespace L3
open PySem PySem.Spec
open L2 hiding Rep RepL
open Mi (Dt Xn R okR zA2 optR bindR_ok zA4 zAA zA8 zA9 Rh Sl Ro EM TM AM FM IM SM OM Tg Out zAR zAM zAV full frz frz1 frzAt)
section
variable{X:Cx}{c:Str}{fl:List Str}{C:Addr}{k:Nat}{E:XK}{e:Expr}{es:List Expr}{t:TA}{p pos:Pos}
end
section
variable[Kc]{mg:Str->Option Value}{E:XK}{L n k l:Nat}{te ta tb:TE}{e ea eb ma:EM}{t:TA}{m:AM}
end
section
variable[Kc]{mg:Str->Option Value}{E:XK}{L n k l:Nat}
end
section
variable[Kc]{mg:Str->Option Value}{E:XK}{L n k l:Nat}{te ta tb tx td:TE}{e ea eb ex ed ma:EM}{t:TA}{m:AM}
end
section
variable[Kc]{mg:Str->Option Value}{E:XK}{L n k l:Nat}{te ta tb:TE}{e ea eb ma:EM}{t:TA}{m:AM}
end
section
variable[Kc]{mg:Str->Option Value}{E:XK}{L n k l:Nat}
end
section
variable[Kc]{mg:Str->Option Value}{E:XK}{L n k l:Nat}{te:TE}{e:EM}
section
variable{G0 H0 S0:Hp}{σ:St}{ρ:Ro}{G H:Hp}{As:Nat->Addr->Prop}
end
end
section
variable[Kc]{mg:Str->Option Value}{E:XK}{L n k l:Nat}{te ta tb tx td:TE}{e ea eb ex ed ma:EM}{t:TA}{m:AM}
end
section
variable[Kc]{mg:Str->Option Value}{E:XK}{L n k l:Nat}
end
section
variable[Kc]{mg:Str->Option Value}{E:XK}{L n k l:Nat}{te ta tb:TE}{e ea eb ma:EM}{t:TA}{m:AM}
end
end L3
namespace L3
open PySem PySem.Spec
open PyProof.Rows (risingS sortedS ltCps_eq)
open L2 hiding Rep RepL
open Mi (Dt Xn R okR zA2 optR bindR_ok zA4 zAA zA8 zA9 Rh Sl Ro EM TM AM FM IM SM OM Tg Out zAR zAM zAV full frz frz1 frzAt)
section
variable[Kc]{mg:Str->Option Value}{E:XK}{L n k l:Nat}{te ta tb:TE}{e ea eb ma:EM}{t:TA}{m:AM}
end
section
variable[Kc]{mg:Str->Option Value}{E:XK}{L n k l:Nat}{t:TA}{m:AM}
end
section
variable[Kc]{mg:Str->Option Value}{E:XK}{L n k l:Nat}{te ta td:TE}{e ea ed:EM}
end
end L3
namespace L3
open PySem PySem.Spec
open L2 hiding Rep RepL
open Mi (Dt Xn R okR zA2 optR bindR_ok zA4 zAA zA8 zA9 Rh Sl Ro EM TM AM FM IM SM Tg Out zAR zAM zAV full frz frz1 frzAt)
section
variable[Kc]{G0 H0 S0:Hp}{σ:St}{ρ:Ro}{G H:Hp}{As:Nat->Addr->Prop}
end
section
variable[Kc]{mg:Str->Option Value}{E:XK}{L n k l:Nat}{te ta tb:TE}{e ea eb ma:EM}{t:TA}{m:AM}
end
section
variable[Kc]{mg:Str->Option Value}{E:XK}{L n n1:Nat}{t1 t2:TE}{e1 e2:EM}
end
section
variable[Kc]
section
variable{G0 H0 S0:Hp}{σ:St}{ρ:Ro}{G H:Hp}{As:Nat->Addr->Prop}
end
variable{mg:Str->Option Value}{E:XK}{L n k l:Nat}{te ta tb:TE}{e ea eb ma:EM}{t:TA}{m:AM}
end
end L3
namespace L3
open PySem PySem.Spec PyProof.Rows
open L2 hiding Rep RepL
open Mi (Dt R Rh EM TM SM AM IM Xn Sl Ro Out okR zA2 optR full frz frzAt)
section
variable[Kc]{mg:Str->Option Value}{E:XK}{n L:Nat}{te ta tb:TE}{e:EM}{m m':SM}
end
end L3
namespace Mi
open PySem
noncomputable section
def listXD(ds:List Dt):Option Dt:=match ds with
 |[.str z]=>@ite _ (z.length<=100000) (qA3 _) (some (.lst (signsD z))) none
 |ds=>listD ds
noncomputable def strD:List Dt->Option Dt
 |[.int i]=>@ite _ (i.natAbs.log2<1920) (qA3 _) (some (.str (toString i:String))) none
 |_=>none
def sumD:List Dt->Option Dt
 |[.lst ds]=>match intsD ds with
  |some ns=>@ite _ (ns.length<=100000/\∀n∈ns,-1000000<=n/\n<=1000000) (qA3 _) (some (.int ns.sum)) none
  |none=>none
 |_=>none
noncomputable def topI:List Int->Int
 |[]=>0
 |[x]=>x
 |x::y::r=>max x (topI (y::r))
def maxL:List Dt->Option Dt
 |[.int i,.int j]=>some (.int (if j>i then j else i))
 |[.lst ds]=>match intsD ds with
  |some (n::ns)=>some (.int (topI (n::ns)))
  |_=>none
 |_=>none
noncomputable def zXZ(ns:List Int):List Int:=ns.mergeSort fun a b=>decide (a<=b)
end
end Mi
namespace L3
open PySem PySem.Spec
open L2 hiding Rep RepL
open Mi (Dt Xn R okR zA2 optR bindR_ok zA4 zAA zA8 zA9 Rh Sl Ro EM TM AM FM IM SM Tg Out zAR zAM zAV full frz frz1 frzAt)
section
variable[Kc]{mg:Str->Option Value}{E:XK}{L n k l:Nat}{te ta tb:TE}{e ea eb ma:EM}{t:TA}{m:AM}
theorem zQG{r:List V->Hp->VK->Prop}{f:List Dt->Option Dt}(h0:∀ds,(∀es,ds≠[.lst es])->f ds=none)(h1:∀es,Mi.intsD es=none->f [.lst es]=none)
  (h2:∀(mg:Str->Option Value)(E:XK)(G H:Hp)(a:Addr)(es:List Dt)(ns:List Int)(Q:VK),Same G H->Mi.intsD es=some ns->H a=some (.lst (ns.map V.int))->PostE mg E G H n (optR (f [.lst es])) Q->r [.ref a] H Q):CBi r f n:=by
 intro mg E G H ds vs Q s h p
 by_cases hd:∃es,ds=[.lst es]
 ·obtain⟨es,rfl⟩:=hd;obtain⟨x,rfl,a,xs,rfl,ha,ra⟩:=zEF h;cases ei:Mi.intsD es with
  |none=>rw[h1 es ei]at p;exact p.elim
  |some ns=>exact h2 mg E G H a es ns Q s ei (by rw[s _ _ ha,zEO ei ra]) p
 ·rw[h0 ds fun es z=>hd ⟨es,z⟩]at p;exact p.elim
theorem zTA{f:List Dt->Option Dt}(h1:f []=none)(h2:∀d,(∀es,d≠.lst es)->f [d]=none)(h3:∀a b r,f (a::b::r)=none):∀ds,(∀es,ds≠[.lst es])->f ds=none:=by
 intro ds h
 match ds,h with
 |[],_=>exact h1
 |[d],h=>exact h2 d fun es z=>h es (by rw[z])
 |a::b::r,_=>exact h3 a b r
theorem zXF:CBi zV7 Mi.sumD n:=by
 refine zQG (zTA rfl (fun d h=>by cases d<;>first|rfl|exact absurd rfl (h _)) fun a b r=>by cases a<;>rfl) (fun es h=>by rw[Mi.sumD,h]) fun mg E G H a es ns Q s ei ha p=>?_
 rw[Mi.sumD,ei]at p;dsimp only at p
 split at p
 ·rename_i hz
  exact⟨ns,ha,hz.1,hz.2,PostE.val p (Ext.refl s) rfl rfl⟩
 ·exact p.elim
theorem zIW:∀(ns:List Int)(M:Int),M∈ns->(∀a,a∈ns->a<=M)->Mi.topI ns=M
 |[],M,h,_=>by cases h
 |[x],M,h,_=>by simp at h;rw[h];rfl
 |x::y::r,M,h,hb=>by
  have hx:=hb x (by simp);show max x (Mi.topI (y::r))=M
  rcases qAk.mp h with rfl|h
  ·have key:∀(l:List Int),l≠[]->(∀a,a∈l->a<=M)->Mi.topI l<=M:=by
    intro l
    induction l with
    |nil=>intro h;exact absurd rfl h
    |cons a q ih=>
     intro _ hb;cases q with
     |nil=>exact hb a (by simp)
     |cons b q=>
      have h1:=ih (by simp) fun c hc=>hb c (by simp[hc])
      have h2:=hb a (by simp);show max a (Mi.topI (b::q))<=M
      lia
   have:=key (y::r) (by simp) fun a ha=>hb a (by simp[ha])
   lia
  ·rw[zIW (y::r) M h fun a ha=>hb a (by simp[ha])]
   lia
theorem zUA:CBi zVF Mi.maxL n:=by
 intro mg E G H ds vs Q s h p;cases ds with
 |nil=>exact p.elim
 |cons a0 r0=>
  cases a0 with
  |int i=>
   cases r0 with
   |nil=>exact p.elim
   |cons b0 r1=>
    cases b0 with
    |int j=>
     cases r1 with
     |nil=>
      obtain⟨x,y,rfl,hx,hy⟩:=zSX h
      cases(show x=.int i from hx)
      cases(show y=.int j from hy)
      exact PostE.val p (Ext.refl s) rfl rfl
     |cons _ _=>exact p.elim
    |_=>cases r1<;>exact p.elim
  |lst es=>
   cases r0 with
   |nil=>
    obtain⟨x,rfl,a,xs,rfl,ha,ra⟩:=zEF h;rw[Mi.maxL]at p;cases ei:Mi.intsD es with
    |none=>rw[ei]at p;exact p.elim
    |some ns=>
     rw[ei]at p;cases ns with
     |nil=>exact p.elim
     |cons q ns=>
      refine⟨q::ns,by rw[s _ _ ha,zEO ei ra],by simp,fun M h1 h2=>?_⟩;rw[<- zIW _ M h1 h2];exact PostE.val p (Ext.refl s) rfl rfl
   |cons _ r1=>cases r1<;>exact p.elim
  |_=>rcases r0 with _|⟨_,_|_⟩<;>exact p.elim
end
end L3
namespace L2
open PySem PySem.Spec PyProof.Rows
section
variable{X:Cx}{x:Str}{j k:Nat}{ps:List Str}{sp:Sp}{e:Expr}{es:List Expr}{t:TA}{p pos:Pos}
end
section
variable{prog:qGz}{w:World}{A:qH1}{E:Value->qGw->Prop}{s:qGw}{T:String}{r:Addr}{fp:List Addr}{n:Nat}{P:Nat->Value->Prop}{St:Nat->Heap->Prop}
end
section
variable{prog:qGz}{w:World}{A:qH1}{E:Value->qGw->Prop}{s:qGw}{x:Str}{t:Tok}
end
end L2
namespace Mi
def sSetL(i j:Nat)(vs:List Nat)(e:EM):SM:=fun ρ=>match(frzAt vs (low j ρ))[j]? with
 |some (some (.lst ds,1))=>zA2 (e ((frz (frzAt vs (low j ρ))).set j (some (.lst ds)))) fun d=>match d with
  |.lst es=>if Dt.depL es=0/\es.length≠ds.length then okR (.nx ((frzAt vs (low j ρ)).set i (some (.lst es,0))))else none
  |_=>none
 |_=>none
end Mi
namespace L3
open PySem PySem.Spec
open L2 hiding Rep RepL
open Mi (Dt Xn R okR zA2 optR bindR_ok zA4 zAA zA8 zA9 Rh Sl Ro EM TM AM FM IM SM Tg Out zAR zAM zAV full frz frz1 frzAt)
section
variable[Kc]{mg:Str->Option Value}{E:XK}{L n:Nat}{te:TE}{e:EM}
theorem zJ4{G G2:Hp}:∀{es:List Dt}{ys:List V},RepL G es ys->Dt.depL es=0->RepL G2 es ys
 |[],_,h,_=>h
 |d::r,_,h,hd=>by
  obtain⟨x,q,rfl,h1,h2⟩:=h;have h3:d.dep=0/\Dt.depL r=0:=by
   simp only[Dt.depL]at hd
   lia
  exact⟨x,q,rfl,h1.scalar h3.1,zJ4 h2 h3.2⟩
theorem zFM{G H:Hp}{q:Addr}:over G H (fun b=>b=q) q=H q:=zDM (S:=fun b=>b=q) rfl
theorem zG3{G H:Hp}{b q:Addr}(h:b≠q):over G H (fun b=>b=q) b=G b:=zBZ (S:=fun b=>b=q) h
theorem zOY(i j:Nat)(vs:List Nat)(A:DE mg E te e n):DS mg E L (tAsg te (zF4 i)) (Mi.sSetL i j vs e):=by
 intro G0 H0 S0 σ ρ G H As D a p;unfold Mi.sSetL at p;obtain⟨G1,As1,a1⟩:=Sat.low a j;obtain⟨G2,As2,a2⟩:=Sat.frzAt vs a1
 split at p
 ·rename_i ds e1
  obtain⟨v,h1,q,xs,T,rfl,hq,kd⟩:=a2.at j _ _ e1;obtain⟨nq1,nq2,nq3⟩:=a2.new j q kd.top;obtain⟨s1,s2⟩:=zCJ (S:=fun b=>b=q) a2.ext.in';have x3:Ext G0 H0 (over G2 H fun b=>b=q) H:=⟨a2.ext.g.trans s1,a2.ext.h,s2,fun b hb=>by
   rw[zG3 (fun z=>hb (by rw[z];exact nq1))];exact a2.ext.old b hb⟩
  have rq:Rep (over G2 H fun b=>b=q) (.lst ds) (.ref q):=⟨q,xs,rfl,by rw[zFM];exact hq,zEE kd.len fun r d x g1 g2=>Rep.mono s1 (kd.own r d x g1 g2)⟩
  have w:=(View.mono s1 a2.frz)
  have w2:View (over G2 H fun b=>b=q) σ ((frz (frzAt vs (Mi.low j ρ))).set j (some (.lst ds))):=by
   have:=w.set (i:=j) rq
   rwa [show σ.set j (some (.ref q))=σ by
    have:=(qA4.mp h1).2
    rw[<- this,qE1]]at this
  refine(zAX A).step (errS.from x3) s2 w2 p fun d u G4 H4 S4 _ fr o p1=>?_
  split at p1
  ·rename_i es _
   split at p1
   ·rename_i hz
    obtain⟨pa,ys,rfl,k1,k2⟩:=(show Rep G4 (.lst es) u from o)
    have hne:pa≠q:=fun z=>by
     subst z
     have:=fr.ext.old pa nq3
     rw[k1,zFM,hq]at this;cases this;exact hz.2 (by rw[<- zQ6 k2,kd.len])
    have hin:Same G2 H4:=a2.ext.in'.trans fr.ext.h;obtain⟨t1,t2⟩:=zCJ (S:=fun b=>b=pa) hin;have hpa:H4 pa=some (.lst ys):=fr.ext.in' _ _ k1;have x5:Ext G2 H (over G2 H4 fun b=>b=pa) H4:=⟨t1,fr.ext.h,t2,fun b hb=>by
     by_cases z:b=pa
     ·subst z;have g:=fr.ext.old b hb;rw[k1,zG3 hne]at g;rw[zFM,hpa,<- g]
     ·rw[zG3 z]⟩
    have o5:Own (over G2 H4 fun b=>b=pa) H4 0 (fun _=>False) (.lst es) (.ref pa):=⟨pa,ys,rfl,by rw[zFM];exact hpa,zJ4 k2 hz.1⟩
    exact p1 _ _ H4 _ ((a2.wider x5).put o5 (fun b z=>z.elim) fun _ _ _ _ z=>z.elim)
   ·exact p1.elim
  ·exact p1.elim
 ·exact p.elim
end
end L3
namespace Mi
open PySem
noncomputable section
noncomputable def revD:Dt->Dt->Option Dt
 |.str z,.int j=>@ite _ (j = -1/\z.length<=100000) (qA3 _) (some (.str ⟨z.cps.toList.reverse.toArray⟩)) none
 |_,_=>none
end
noncomputable section
noncomputable def svD:Dt->Option Sv
 |.int i=>some (.i i)
 |.str x=>some (.s x)
 |_=>none
def svsD:List Dt->Option (List Sv)
 |[]=>some []
 |d::r=>match svD d,svsD r with
  |some v,some vs=>some (v::vs)
  |_,_=>none
noncomputable def dSv:Sv->Dt
 |.i n=>.int n
 |.s x=>.str x
def eNew(c:Str)(fl:List Str)(am:AM):EM:=fun ρ=>zA2 (am ρ) fun ds=>match svsD ds with
 |some vs=>if vs.length=fl.length then okR (.ins c (fl.zip vs))else none
 |none=>none
def zWU(c:Str):EM:=fun _=>okR (.ins c [])
def eFld(hs:List Str)(f:Str)(e:EM):EM:=fun ρ=>zA2 (e ρ) fun d=>match d with
 |.ins c fs=>if c∈hs then(match fs.lookup f with|some v=>okR (dSv v)|none=>none)else none
 |_=>none
def zYO(tb:List (Str×FM))(m:Str)(e:EM)(am:AM):EM:=fun ρ=>zA2 (e ρ) fun d=>match d with
 |.ins c fs=>match tb.lookup c with
  |some g=>match fs.lookup m with
   |none=>zA2 (am ρ) fun ds=>g (d::ds)
   |some _=>none
  |none=>none
 |_=>none
def eIsO(ys ns:List Str)(e:EM):EM:=fun ρ=>zA2 (e ρ) fun d=>match d with
 |.ins c _=>if c∈ys then okR (.bl true)else if c∈ns then okR (.bl false)else none
 |_=>none
end
noncomputable section
def zYG(c:Nat)(l:List Nat):Option Nat:=(posC c l.reverse).map fun i=>l.length-1-i
def zV5(x:Dt)(ys:List Dt):Option Dt:=match x,ys with
 |.str z,[.str y]=>match y.cps.toList with
  |[c]=>some (.int (match zYG c z.cps.toList with|some i=>(i:Int)|none=>-1))
  |_=>none
 |_,_=>none
end
noncomputable section
def sadD(x y:Dt):Option Dt:=match x,y with
 |.tup as,.tup bs=>match intsD as,intsD bs with
  |some ns,some ms=>@ite _ (ns≠[]/\ms≠[]/\ns.length+ms.length<64) (qA3 _) (some (.lst ((zXZ (ns++ms)).map .int))) none
  |_,_=>none
 |_,_=>none
end
noncomputable section
noncomputable def kyD:Dt->Option (Sum Int Str)
 |.int i=>some (.inl i)
 |.str x=>some (.inr x)
 |_=>none
noncomputable def swD:Dt->Option Sw
 |.non=>some .non
 |.bl b=>some (.bl b)
 |.int i=>some (.int i)
 |.str x=>some (.str x)
 |_=>none
noncomputable def getW(kvs:List (Sum Int Str×Sw))(k:Sum Int Str):Option Sw:=(kvs.find? fun p=>decide (p.1=k)).map (·.2)
noncomputable def putW(kvs:List (Sum Int Str×Sw))(k:Sum Int Str)(v:Sw):List (Sum Int Str×Sw):=
 if(kvs.any fun p=>decide (p.1=k))=true then kvs.map (fun p=>if p.1=k then(p.1,v)else p)else kvs++[(k,v)]
def zWV:EM:=fun _=>okR (.dct [])
def dinD(ng:Bool)(x y:Dt):Option Dt:=match y with
 |.dct kvs=>match kyD x with
  |some k=>some (.bl (if ng=true then !(getW kvs k).isSome else(getW kvs k).isSome))
  |none=>none
 |_=>none
def zY4(i:Nat)(e1 e2:EM):SM:=fun ρ=>zA2 (e2 (full ρ)) fun v=>match ρ[i]? with
 |some (some (.dct kvs,k+1))=>zA2 (e1 (full ρ)) fun y=>match kyD y,swD v with
  |some q,some u=>@ite _ (kvs.length<=100000) (qA3 _) (okR (.nx (ρ.set i (some (.dct (putW kvs q u),k+1))))) none
  |_,_=>none
 |_=>none
def zRR:List Dt->Option (List (Sum Int Str×Sw))
 |[]=>some []
 |.tup [a,b]::r=>match kyD a,swD b,zRR r with
  |some k,some v,some q=>some ((k,v)::q)
  |_,_,_=>none
 |_::_=>none
def zY2(i:Nat)(e:EM):SM:=fun ρ=>match ρ[i]? with
 |some (some (.dct kvs,k+1))=>zA2 (e (full ρ)) fun d=>match d with
  |.lst ds=>match zRR ds with
   |some ps=>@ite _ (kvs.length+ps.length<=50000) (qA3 _) (okR (.nx (ρ.set i (some (.dct (ps.foldl (fun m p=>putW m p.1 p.2) kvs),k+1))))) none
   |none=>none
  |_=>none
 |_=>none
end
noncomputable def lamF(n:Nat)(e:EM):FM:=fun ds=>if ds.length=n then e (ds.map some)else none
end Mi
namespace L2
open PySem PySem.Spec PyProof.Rows
section
variable{X:Cx}{x:Str}{C:Addr}{p pos:Pos}
end
def spIns(K:qA1)(fl:List Str):Sp:=fun vs H Q _=>∃(x C dx:Addr)(ys:List V),vs=.ref x::ys/\ys.length=fl.length/\H x=some (.ins C dx [])/\Cls K C/\(∀f∈fl,zXK K C f)/\Q .non (upd H x (.ins C dx (fl.zip ys)))
section
variable{X:Cx}{m:Str}{k:Nat}{E:XK}{o e:Expr}{es:List Expr}{ta:TE}{t:TA}{apos pos:Pos}{tb:List (Addr×Sp)}
end
section
variable{X:Cx}{pins:List (Addr×Obj)}{σ:List (Option V)}{H:Hp}{s:qGw}
theorem zH0(ns:List Int):(qA8 ns.length).map (fun i=>ns.getD i 0)=ns:=by
 refine qCw (by simp) fun i h1 h2=>?_
 simp[h2]
end
section
variable{X:Cx}
end
section
variable{X:Cx}{e m1:Expr}{te ts:TE}{pos p2:Pos}
theorem zOY{pos:Pos}{i:Nat}{x:Str}{es:List Expr}{p:Pos}{te:TE}{pos':Pos}(hN:X.N.Nodup)(hi:X.N[i]?=some x)(hx:Loc X.env.scope x)(he:Dr (PE X (.List es p) te))(hf:X.fn x=true\/X.env.scope.names.lookup x=some .local:=by first|exact .inl rfl|exact .inr rfl|assumption) :
  Dr (PS X (.Assign [.Name x pos'] (.List es p) pos) (tAsg te (zF4 i))):=⟨zRO hN hi hx he.h rfl hf⟩
end
end L2
namespace L2
open PySem
theorem uw1{P:List Value->Prop}(h:∀a,P [a]):∀us:List Value,us.length=1->P us
 |[a],_=>h a
theorem uw2{P:List Value->Prop}(h:∀a b,P [a,b]):∀us:List Value,us.length=2->P us
 |a::us,hl=>uw1 (P:=fun us=>P (a::us)) (h a) us (qGl hl)
theorem uw3{P:List Value->Prop}(h:∀a b c,P [a,b,c]):∀us:List Value,us.length=3->P us
 |a::us,hl=>uw2 (P:=fun us=>P (a::us)) (h a) us (qGl hl)
theorem oi{p q:Prop}(h:p\/q:=by first|exact Or.inl rfl|exact qGu rfl):p\/q:=h
end L2
namespace L3
open PySem PyProof.Rows
open L2 hiding Rep RepL
theorem fsc{N P:List Str}{sc:Scope}(a:sc.kind=.function:=by rfl)(b:sc.isCoroutine=false:=by rfl)(c:sc.isGenerator=false:=by rfl)(d:N.Nodup:=by decide +kernel)(e:N.take P.length=P:=by rfl)
  (f:∀x∈P,sc.names.lookup x=some .local\/sc.names.lookup x=some .cell:=by decide +kernel) (g:∀y∈sc.names,y.2≠.free:=by decide +kernel):FnScope N P sc:=⟨a,b,c,d,e,f,g⟩
section
variable{P:qGz}{w:World}{K:qA1}{mg:Str->Option Value}{base:Heap}{x:Str}{st:Stmt}{N ps:List Str}{k:Nat}{sp:Sp}
theorem dfM{L n:Nat}{m:Mi.SM}(D:Def K mg x st)(S:FnScope N ps (zA7 st))
  (hb:∀(kV doc pm:Value)(an:Option Addr)(cdv ct:Value)(us:List Value),us.length=ps.length->qIo (qBa x x (zCR st) (zB7 st) (zA7 st) .none kV doc pm an cdv ct) ⟨us,[]⟩=pure (ps.zip us))
  (hbody:∀{f:Addr}{cdv:Value}{A:qH1}{outer:List Env}{s:qGw}{H:Hp}{vs:List V}{Q:VK}{E:XK},Room k (A.deeper (envOfC x (zA7 st) s.heap.objs.size f cdv))->(A.deeper (envOfC x (zA7 st) s.heap.objs.size f cdv)).units+64<cLine->sp0 K mg L (Mi.runF ps.length n m) vs H Q E ->
   ∃t,PSs (cxOf CX0 P w K mg base N x (zA7 st) f cdv A outer s H E).nox (zB7 st) t/\t { nx:=fun _ H'=>Q .non H',rt:=Q } (start N vs) H):Has P w K mg base x (k+1) ps (sp0 K mg L (Mi.runF ps.length n m)):=
 D.ok S hb (fun _ _ _ _ h=>@zKC ⟨K⟩ _ _ _ _ _ _ _ _ _ h) fun _ _ _ _ _ _ _ _ _ hr h=>hbody hr hr.units h
theorem dfX{L n:Nat}{m:Mi.SM}(D:Def K mg x st)(S:FnScope N ps (zA7 st))
  (hb:∀(kV doc pm:Value)(an:Option Addr)(cdv ct:Value)(us:List Value),us.length=ps.length->qIo (qBa x x (zCR st) (zB7 st) (zA7 st) .none kV doc pm an cdv ct) ⟨us,[]⟩=pure (ps.zip us))
  (hbody:∀{f:Addr}{cdv:Value}{A:qH1}{outer:List Env}{s:qGw}{H:Hp}{vs:List V}{Q:VK}{E:XK},Room k (A.deeper (envOfC x (zA7 st) s.heap.objs.size f cdv))->(A.deeper (envOfC x (zA7 st) s.heap.objs.size f cdv)).units+64<cLine->spE K mg L (Mi.runF ps.length n m) vs H Q E ->
   ∃t,PSs (cxOf (CXe P w) P w K mg base N x (zA7 st) f cdv A outer s H E) (zB7 st) t/\t { nx:=fun _ H'=>Q .non H',rt:=Q } (start N vs) H):HasX P w K mg base x (k+1) ps (spE K mg L (Mi.runF ps.length n m)):=
 D.okX S hb (fun _ _ _ _ h=>@zKC ⟨K⟩ _ _ _ _ _ _ _ _ _ h) fun _ _ _ _ _ _ _ _ _ hr h=>hbody hr hr.units h
theorem mkD{K:qA1}{h:Heap}{mg:Str->Option Value}{nm:Str}{st:Stmt}{f:Addr}{oc kV dc pm cd ct:Value}{od an:Option Addr}{sl:Array (Option Value)}(X:K.In h)(G:h.Ns qH2 mg)(a:qBf K qH2 nm=some (some (.ref f)))(l:K.lookup f=some ⟨oc,od,.func (qBa nm nm (zCR st) (zB7 st) (zA7 st) .none kV dc pm an cd ct),sl⟩)(c:qCr K cd nm=true)(k:qBe K (.ref f)=true):Def K mg nm st:=⟨f,_,zRX (st:=st) l c k,qC8 X G a⟩
end
section
variable{X:Cx}{pos:Pos}
theorem pgn(i:Nat){x:Str}(hN:decide X.N.Nodup=true:=by kernel_rfl)(hi:X.N[i]?=some x:=by rfl)(hx:Loc X.env.scope x:=by exact oi)(hf:X.fn x=true\/X.env.scope.names.lookup x=some .local:=by first|exact .inl rfl|exact .inr rfl|assumption):PG X (.Name x pos) (zF4 i):=zB1 (of_decide_eq_true hN) hi hx hf
theorem pst(i:Nat){x:Str}{e:Expr}{te:TE}{pos':Pos}(hN:X.N.Nodup)(he:PE X e te)(hi:X.N[i]?=some x:=by rfl)(hx:Loc X.env.scope x:=by exact oi)(hs:qJ5 e (some (.Name x pos')) pos.line X.env=pure false:=by rfl)(hf:X.fn x=true\/X.env.scope.names.lookup x=some .local:=by first|exact .inl rfl|exact .inr rfl|assumption):PS X (.Assign [.Name x pos'] e pos) (tAsg te (zF4 i)):=zRO hN hi hx he hs hf
end
end L3
namespace L3
open PySem PySem.Spec
open L2 hiding Rep RepL
open Mi (Dt Xn R okR zA2 optR bindR_ok zA4 zAA zA8 zA9 Rh Sl Ro EM TM AM FM IM SM Tg Out zAR zAM zAV full frz frz1 frzAt)
variable[Kc]
section
variable{G H:Hp}{cl:Addr}{co:Obj}
mutual
theorem Rep.del(hc:G cl=some (cel co)):∀{d:Dt}{v:V},d.dep<=40->Rep G d v->Rep (del G cl) d v
 |.non,_,_,h=>h
 |.bl _,_,_,h=>h
 |.int _,_,_,h=>h
 |.str _,_,_,h=>h
 |.lst ds,_,hd,h=>by
  obtain⟨a,xs,e,e',r⟩:=h;exact⟨a,xs,e,(zS6 (zQK e' hc (by simp))).trans e',RepL.del hc (by rw[Dt.dep]at hd;lia) r⟩
 |.tup ds,_,hd,h=>by
  obtain⟨a,xs,e,e',r⟩:=h;exact⟨a,xs,e,(zS6 (zQK e' hc (by simp))).trans e',RepL.del hc (by rw[Dt.dep]at hd;lia) r⟩
 |.scr _,_,h,_=>by rw[Dt.dep]at h;lia
 |.exc _ _ _,_,h,_=>by rw[Dt.dep]at h;lia
 |.ins _ _,_,h,_=>by rw[Dt.dep]at h;lia
 |.dct _,_,h,_=>by rw[Dt.dep]at h;lia
 |.fn _ _,_,h,_=>by rw[Dt.dep]at h;lia
theorem RepL.del(hc:G cl=some (cel co)):∀{ds:List Dt}{xs:List V},Dt.depL ds<=40->RepL G ds xs->RepL (del G cl) ds xs
 |[],_,_,h=>h
 |d::r,_,hd,h=>by
  rw[Dt.depL]at hd;obtain⟨x,q,e,a,b⟩:=h;exact⟨x,q,e,Rep.del hc (by lia) a,RepL.del hc (by lia) b⟩
end
end
variable{mg:Str->Option Value}{E:XK}{n:Nat}
end L3
namespace L3
open PySem PySem.Spec
open L2 hiding Rep RepL
open Mi (Dt okR)
section
variable[Kc]{mg:Str->Option Value}{E:XK}{L:Nat}
end
section
variable[Kc]{n:Nat}
end
end L3
namespace L3
open PySem PyProof.Rows
open L2 hiding Rep RepL
section
variable{P:qGz}{w:World}{K:qA1}{mg:Str->Option Value}{base:Heap}{x:Str}{st:Stmt}{N ps:List Str}{k:Nat}{sp:Sp}{T:Addr}
end
end L3
namespace L3
open PySem PySem.Spec PyProof.Rows
open L2 hiding Rep RepL
structure Tabs(K:qA1)(ts:List Addr):Prop where
 no:∀P∈ts,K.lookup P=none
 «in»:∀x∈makers,∀P,codP K x=some P->(lamK K x).isSome=true->P∈ts/\∃c,qDs K c P=true
theorem zIX{K:qA1}{ts:List Addr}(T:Tabs K ts){P:Addr}{u:HO}(h:tabK K P=some u):P∈ts/\(∃q,u=.lam q)/\∃c,qDs K c P=true:=by
 unfold tabK at h;cases e:makers.find? fun x=>codP K x==some P&&(lamK K x).isSome with
 |none=>rw[e]at h;cases h
 |some x=>
  rw[e]at h;cases h;have h1:=List.mem_of_find?_eq_some e;have h2:=List.find?_some e;simp only[qB5,beq_iff_eq]at h2;obtain⟨a,b⟩:=T.in x h1 P h2.1 h2.2;exact⟨a,⟨_,rfl⟩,b⟩
theorem zOH{P:qGz}{w:World}{K:qA1}{mg mb:Str->Option Value}{CX:CXT}{k:Nat}{fa a:Addr}{fd:qHb}{x:Str}{sp:Sp}{s₁:qGw}{vs:List Value}{ns:List Int}{ts:List Addr}
  (KX:K.In s₁.heap) (hT:∀P∈ts,s₁.heap.get? P=some (qEb #[])) (T:Tabs K ts) (hns:s₁.heap.Ns qH2 mg) (hb:s₁.heap.Ns qHz mb) (hbb:∀x:Str,x ≠ "__name__" -> mb x=qHx x) (hlim:s₁.heap.NoLimit)
  (hbm:∃bm ob,mg "__builtins__" = some (.ref bm)/\bm≠qHz/\s₁.heap.get? bm=some ob/\ob.cls=.type "module" /\ ob.dict=some qHz/\ob.data=.plain) (hg:s₁.gens=#[])
  (ha:s₁.heap.get? a=some { cls:=.type "list",data:=.seq vs.toArray }) (hi:qIj vs ns) (hl:ns.length<=sizeLine) (hr:Room k qIl)
  (F:∀base:Heap,K.In base->base.Ns qH2 mg->FnOk P w K mg base CX k fa fd [x] sp) (hbind:∀(s:qGw)(u:Value),qIr s fd ⟨[u],[]⟩ [(x,u)])
  (hsp:∀H:Hp,Same (tabK K) H->SqL K H a (ns.map V.int)->sp [.ref a] H (fun v H'=>v=.bl true/\Same (tabK K) H') fun _ _ _=>False)
  (hCX:∀H e s',CX [] H s₁ (fun _ _ _=>False) e s'->False) :
  qId (model P w) qIl (.call (.ref fa) ⟨[.ref a],[]⟩) (fun r s'=>r=.ok (.ret (.bool true))/\OldK s₁.heap s'.heap/\s'.os=s₁.os/\qI6 s'.gens) s₁:=by
 have rv:=zIV hi;have lenV:=hi.length;have tabO:∀{b:Addr}{u:HO},tabK K b=some u->s₁.heap.get? b=some (qEb #[]):=fun e=>hT _ (zIX T e).1
 have core:∀H:Hp,(∀b u,H b=some u->(b=a/\∃o xs,u=.frz o (.lst xs))\/tabK K b=some u)->Same (tabK K) H->SqL K H a (ns.map V.int)->HOk P w H s₁.heap->(∀b,H b≠none->K.lookup b=none) ->
   qId (model P w) qIl (.call (.ref fa) ⟨[.ref a],[]⟩) (fun r s'=>r=.ok (.ret (.bool true))/\OldK s₁.heap s'.heap/\s'.os=s₁.os/\qI6 s'.gens) s₁:=by
  intro H hO hTab hS hok hK;have base_of:∀{b:Addr}{o:Obj},s₁.heap.get? b=some o->H b=none->(hidT s₁.heap H).get? b=some o:=fun e n=>zQX e n
  have noA:∀{b:Addr}{o:Obj},s₁.heap.get? b=some o->(∀v,o.data≠.fields v)->(∀v n,o.data≠.seq v n)->H b=none:=fun{b o} e d1 d2=>by
   cases q:H b with
   |none=>rfl
   |some u=>
    rcases hO b u q with⟨z,_⟩|z
    ·subst z;rw[ha]at e;cases e;exact absurd rfl (d2 _ _)
    ·rw[tabO z]at e;cases e;exact absurd rfl (d1 _)
  have nsK:∀{b:Addr}{m:Str->Option Value},s₁.heap.Ns b m->(hidT s₁.heap H).Ns b m:=fun{b m} ⟨o,es,ep,e,d,r⟩=>⟨o,es,ep,base_of e (noA e (fun v z=>by rw[d]at z;cases z) fun v n z=>by rw[d]at z;cases z),d,r⟩
  have hKb:K.In (hidT s₁.heap H):=fun b o e=>base_of (KX b o e) (by
   cases q:H b with
   |none=>rfl
   |some u=>rw[hK b (by rw[q];simp)]at e;cases e)
  have hM:Mod K mg (hidT s₁.heap H):=⟨hKb,nsK hns,⟨mb,nsK hb,hbb⟩,let⟨mc,h1,h2⟩:=hlim;⟨mc,nsK h1,h2⟩,let⟨bm,ob,e1,e2,e3,e4,e5,e6⟩:=hbm;⟨bm,ob,e1,e2,base_of e3 (noA e3 (fun v z=>by rw[e6]at z;cases z) fun v n z=>by rw[e6]at z;cases z),e4,e5,e6⟩⟩
  have e0:Env0 P w K mg (hidT s₁.heap H) qIl [] s₁ H:=⟨rfl,hM,fun b o e=>zTC e,qE2 (zOP _ _),trivial,fun b hb=>absurd (show b∈([]:List Addr) from hb) (by simp),hok,.of_eq hg⟩
  refine codeAny_mono ((F _ hKb (nsK hns)).run qIl [] s₁ H ⟨[.ref a],[]⟩ [.ref a] [.ref a] _ _ hr e0 (hbind s₁ (.ref a)) (.cons rfl .nil) (hsp H hTab hS)) fun r s' h=>?_
  cases r with
  |error e=>exact(hCX H e s' h).elim
  |ok fl=>
   cases fl with
   |next=>exact qA5 h
   |brk=>exact qA5 h
   |cont=>exact qA5 h
   |ret u=>
    obtain⟨v,H',os,bare,un,hok',r',q,qT⟩:=h;subst q;obtain rfl:u=qJg true:=r';refine⟨rfl,⟨fun b o e=>?_,fun b o e=>un.there b o e (by simp)⟩,os,bare⟩;cases q:H b with
    |none=>exact .inl (un.keep b o e q (by intro z;exact absurd (show b∈([]:List Addr) from z) (by simp)) (by simp))
    |some u=>
     rcases hO b u q with⟨_,ob,xs,rfl⟩|z
     ·have z2:=un.frzs b ob _ q;obtain⟨e1,_⟩:=hok b _ q;obtain⟨e2,_⟩:=hok' b _ z2;rw[e]at e1;cases e1;exact .inl e2
     ·obtain⟨hts,⟨qq,rfl⟩,c,hc⟩:=zIX T z;obtain⟨ps,e2,_⟩:=hok' b _ (qT _ _ z);have e3:=hT b hts;rw[e3]at e;cases e;exact .inr (.inl ⟨((PySem.W.codeHd_of_K KX hc).tab e3).isCodeTable,rfl,#[],ps,rfl,by rw[e2];simp⟩)
 have tOk:∀{H:Hp}{b:Addr}{u:HO},tabK K b=some u->ObjOk P w H s₁.heap b u:=fun{H b u} z=>by
  obtain⟨hts,⟨q,rfl⟩,_⟩:=zIX T z;exact⟨#[],hT b hts,trivial,fun pos cv y=>by simp[codeAmong]at y⟩
 have nta:tabK K a=none:=by
  cases z:tabK K a with
  |none=>rfl
  |some u=>have:=tabO z;rw[ha]at this;cases this
 cases hk:K.lookup a with
 |some o=>
  have e:=KX a o hk;rw[ha]at e;cases e;exact core (tabK K) (fun b u z=>.inr z) (Same.refl _) (.inr ⟨_,vs.toArray,_,hk,rfl,rfl,rfl,by rw[qAb,lenV];exact hl,by simpa using rv⟩) (fun b u z=>tOk z) fun b z=>by
   cases y:tabK K b with
   |none=>exact absurd y z
   |some u=>exact T.no b (zIX T y).1
 |none=>
  refine core (upd (tabK K) a (.frz { cls:=.type "list",data:=.seq vs.toArray } (.lst (ns.map V.int)))) (fun b u z=>?_) (fun b u z=>?_) (.inl (.inr ⟨{ cls:=.type "list",data:=.seq vs.toArray },zAJ⟩)) (fun b u z=>?_) fun b z=>?_
  ·by_cases hb:b=a
   ·subst hb;rw[zAJ]at z;cases z;exact .inl ⟨rfl,_,_,rfl⟩
   ·rw[zAH hb]at z;exact .inr z
  ·rw[zAH (zAI z nta)];exact z
  ·by_cases hb:b=a
   ·subst hb;rw[zAJ]at z;cases z;exact⟨ha,by rw[qAh];exact hl,vs,_,rv,ha⟩
   ·rw[zAH hb]at z;exact tOk z
  ·by_cases hb:b=a
   ·subst hb;exact hk
   ·rw[zAH hb]at z;cases y:tabK K b with
    |none=>exact absurd y z
    |some u=>exact T.no b (zIX T y).1
theorem zPS{l:qD5}{n k:Nat}{q:qGz}{loose:List Str}{XP:(Str->Option Value)->Heap->Prop}{YP:World->Heap->Prop}{d:DefRec}{K:Params->qA1}{CX:World->CXT}{sp:World->Sp}{x:Str}{ts:List Addr}
  (hn:l.most=some n) (hn2:n<=sizeLine) (hdf:d.params.defaults=[]) (hr:Room k qIl)
  (hY:∀(w:World)(h:Heap),YP w h->(K w.params).In h/\∀P∈ts,h.get? P=some (qEb #[]))
  (F:∀(w:World)(mg:Str->Option Value)(fa:Addr)(h:Heap),(K w.params).In h->h.Ns qH2 mg->mg d.name=some (.ref fa) ->
   Tabs (K w.params) ts/\∃fd:qHb,(∀(s:qGw)(u:Value),qIr s fd ⟨[u],[]⟩ [(x,u)]) /\
    ∀base:Heap,(K w.params).In base->base.Ns qH2 mg->FnOk l.prog w (K w.params) mg base (CX w) k fa fd [x] (sp w))
  (hsp:∀(w:World)(H:Hp)(a:Addr)(ns:List Int),ns.length<=n->(∀i∈ns,i.natAbs.log2<2 ^ 20)->Same (tabK (K w.params)) H->SqL (K w.params) H a (ns.map V.int)->sp w [.ref a] H (fun v H'=>v=.bl true/\Same (tabK (K w.params)) H') fun _ _ _=>False)
  (hCX:∀(w:World)(H:Hp)(s:qGw)(e:Value)(s':qGw),CX w [] H s (fun _ _ _=>False) e s'->False) :
  qEo q loose XP YP l.row.toRowW d [] (fun f vs=>qEy f vs):=by
 refine Att.attach_callW hn hdf fun w s₀ s₁ mg mb fa o pm cd doc a vs ns G Y ho hd hcd hmg hobj hints hlen hw hg=>?_
 obtain⟨KX,hT⟩:=hY w _ Y;obtain⟨T,fd,hb,hF⟩:=F w mg fa _ KX G.T.g hmg;exact zOH KX hT T G.T.g G.T.b G.T.builtins G.T.nolimit G.T.bmain hg hobj hints (qAj hlen hn2) hr hF hb (fun H hO hS=>hsp w H a ns hlen hw hO hS) fun H e s'=>hCX w H s₁ e s'
end L3
namespace L3
open PySem PyProof.Rows
open L2 hiding Rep RepL
structure Mk1(K:qA1)(ts:List Addr)(x:Str)(r:Option Addr):Prop where
 cod:codP K x=r
 lam:(lamK K x).isSome=r.isSome
 hd:∀P,r=some P->P∈ts/\∃c,qDs K c P=true
theorem mk1_none{K:qA1}{ts:List Addr}{x:Str}(a:qBf K qH2 x=some none):Mk1 K ts x none:=
 ⟨by unfold codP;rw[a],by unfold lamK;rw[a];rfl,fun _ z=>by cases z⟩
structure Tb(K:qA1)(ts:List Addr)(r1 r2 r3:Option Addr):Prop where
 m1:Mk1 K ts "turned_at" r1
 m2:Mk1 K ts "exchanged_at" r2
 m3:Mk1 K ts "pivoted" r3
section
variable{K:qA1}{ts:List Addr}{r1 r2 r3:Option Addr}
theorem Tb.tabs(T:Tb K ts r1 r2 r3)(no:∀P∈ts,K.lookup P=none):Tabs K ts:=⟨no,fun x hx P h _=>by
 unfold makers at hx;simp only[qAk,List.not_mem_nil,or_false]at hx
 rcases hx with rfl|rfl|rfl
 ·exact T.m1.hd P (T.m1.cod.symm.trans h)
 ·exact T.m2.hd P (T.m2.cod.symm.trans h)
 ·exact T.m3.hd P (T.m3.cod.symm.trans h)⟩
end
def TbE(K:qA1)(ts:List Addr):Prop:=∃r1 r2 r3,Tb K ts r1 r2 r3
theorem walk_of0{l:qD5}{n k:Nat}{q:qGz}{loose:List Str}{XP:(Str->Option Value)->Heap->Prop}{YP:World->Heap->Prop}{d:DefRec}{K:Params->qA1}{x:Str}
  (hn:l.most=some n) (h63:n<=63) (hdf:d.params.defaults=[]) (hr:Room k qIl) (hY:∀(w:World)(h:Heap),YP w h->(K w.params).In h)
  (F:∀(w:World)(mg:Str->Option Value)(fa:Addr)(h:Heap),(K w.params).In h->h.Ns qH2 mg->mg d.name=some (.ref fa) ->
   TbE (K w.params) []/\∃fd:qHb,(∀(s:qGw)(u:Value),qIr s fd ⟨[u],[]⟩ [(x,u)]) /\
    ∀base:Heap,(K w.params).In base->base.Ns qH2 mg->FnOk l.prog w (K w.params) mg base CX0 k fa fd [x] (zGX (K w.params))) :
  qEo q loose XP YP l.row.toRowW d [] (fun f vs=>qEy f vs):=
 zPS (K:=K) (ts:=[]) (CX:=fun _=>CX0) (sp:=fun w=>zGX (K w.params)) hn (qAj h63 (by decide)) hdf hr (fun w h Y=>⟨hY w h Y,fun P z=>absurd z (by simp)⟩)
  (fun w mg fa h KX G hm=>let⟨⟨_,_,_,T⟩,r⟩:=F w mg fa h KX G hm;⟨T.tabs fun P z=>absurd z (by simp),r⟩)
  (fun _ _ a ns hl hw hT hS=>⟨a,ns,rfl,hT,hS,qAj hl h63,hw,fun _ z=>⟨rfl,z⟩⟩) fun _ _ _ _ _ z=>z
end L3
namespace L3
open PySem PySem.Spec
open L2 hiding Rep RepL
section
variable[Kc]{mg:Str->Option Value}{E:XK}{L:Nat}
end
end L3
namespace L3
open PySem PySem.Spec
open L2 hiding Rep RepL
open Mi (Dt EM FM okR)
end L3
namespace L3
open PySem PySem.Spec
open L2 hiding Rep RepL
open Mi (Dt Xn R okR zA2 optR bindR_ok zA4 zAA zA8 zA9 Rh Sl Ro EM TM AM FM IM SM Tg Out full frz frz1 frzAt)
section
variable[Kc]{mg:Str->Option Value}{E:XK}{L:Nat}{tA tB:TT}{A B:TM}
end
end L3
namespace PySem
open Sem (wp)
section
variable{prog:qGz}{w:World}{A:qH1}{K:Type}[DecidableEq K]{knd:KeyKind prog w K}
end
end PySem
noncomputable section
namespace Mi
noncomputable def slZ:Dt->Option Int->Option Int->Option Dt
 |.scr ns,none,some b=>@ite _ ((ns.length:Int)<=b) (qA3 _) (some (.scr ns)) none
 |_,_,_=>none
def eSlZ(a:EM)(lo hi:OM):EM:=fun ρ=>zA2 (a ρ) fun x=>zA2 (lo ρ) fun l=>zA2 (hi ρ) fun h=>optR (slZ x l h)
end Mi
end
namespace L2
open PySem PySem.Spec PyProof.Rows
section
variable{X:Cx}
theorem zUE{n:Nat}{b:Int}(h:(n:Int)<=b):qHl none (some b) 1 (n:Int)=(0,(n:Int)):=by
 unfold qHl;have h1:¬((1:Int)<0):=by decide
 have h2:¬(b<0):=by omega
 simp only[h1,h2,if_false]
 congr 1
 omega
theorem zT2(n:Nat):qHe 0 (n:Int) 1=n:=by
 unfold qHe;have h1:(1:Int)>0:=by decide
 simp only[h1,if_true,qGj]
 split<;>omega
theorem zUZ{prog:qGz}{w:World}{A:qH1}{E:Value->qGw->Prop}{s:qGw}{sl:Addr}{n:Nat}{b:Int}{u:Tok}{Q:Int×Int×Nat->qGw->Prop}(hs:s.heap.IsSliceOf sl .none (.int b u) .none)(hb:(n:Int)<=b)(h:Q (0,1,n) s):wpAny (model prog w) A (qI2 (.ref sl) (pure (n:Int))) Q E s:=by
 obtain⟨os,hos,hcs,hds⟩:=id hs;unfold qI2 qJf;refine wpAny_bind (wpAny_bind (wpAny_field hos hds (x:=.none) rfl (wpAny_bind (wpAny_field hos hds (x:=.int b u) rfl (wpAny_bind (wpAny_field hos hds (x:=.none) rfl (wpAny_pure ?_)))))));refine wpAny_bind (slicePart_none ?_);show wpAny _ _ (if((1:Int)==0)=true then _ else _) _ _ s;rw[if_neg (by decide)];refine wpAny_bind (slicePart_none (wpAny_bind (slicePart_int (wpAny_bind (wpAny_pure ?_)))));show wpAny _ _ (match qHl none (some b) 1 (n:Int)with|(lo,hi)=>pure (lo,(1:Int),qHe lo hi 1)) _ _ s;rw[zUE hb];show wpAny _ _ (pure ((0:Int),(1:Int),qHe (0:Int) (n:Int) 1)) _ _ s;rw[zT2];exact wpAny_pure h
theorem zU0{prog:qGz}{w:World}{A:qH1}{E:Value->qGw->Prop}{s:qGw}{t sl:Addr}{items:Array Value}{b:Int}{u:Tok}{Q:Value->qGw->Prop}(ht:IsTup s.heap t items)(hs:s.heap.IsSliceOf sl .none (.int b u) .none)(hb:(items.size:Int)<=b)(h:Q (.ref t) s) :
  wpAny (model prog w) A (getItem (.ref t) (.ref sl)) Q E s:=by
 obtain⟨os,hos,hcs,hds⟩:=id hs;have hTs:s.TypeIs (.ref sl) "slice":=⟨os,hos,hcs⟩
 unfold getItem
 try with_reducible refine wpAny_holding ?_
 first|refine wpAny_bind (wpAny_pure ?_)|skip
 refine wpAny_bind (wpAny_sequenceKey ht.typeIs (by decide) ?_);refine wpAny_bind (wpAny_callSpecial?_slot (name:=qIy "__getitem__") ht.typeIs qHr
  (wpAny_call_entry qHr ht.typeIs entry_tuple_getitem ?_ (args_tuple_getitem _ _)))
 show wpAny _ _ (qJd (.ref t) >>= _) _ _ s;refine wpAny_bind (tupleItemsOf_ ht ?_);refine wpAny_bind (wpAny_typeOf hTs ?_);rw[if_pos (by decide)];refine wpAny_bind (zUZ hs hb ?_);show wpAny _ _ (if((0:Int)==0&&(1:Int)==1&&items.size==items.size)=true then _ else _) _ _ s;rw[if_pos (by simp)];unfold qJe;refine wpAny_bind (wpAny_bind (wpAny_typeOf ht.typeIs (wpAny_pure ?_)));rw[if_pos (by decide)];refine wpAny_bind (wpAny_rule ?_);exact wpAny_pure ⟨_,rfl,wpAny_pure h⟩
def rSlZ(K:qA1):V->Option Int->Option Int->Hp->VK->Prop:=fun x lo hi H Q=>∃a xs b,x=.ref a/\lo=none/\hi=some b/\(xs.length:Int)<=b/\((SqL K H a xs/\∀p,H p=none->Q (.ref p) (upd H p (.lst xs)))\/(SqT K H a xs/\Q (.ref a) H))
theorem zU9{xs:List V}{b:Int}(h:(xs.length:Int)<=b):cutV xs none (some b)=xs:=by
 unfold cutV HT.sIx
 have:¬b<0:=by omega
 simp only[this,if_false,qCs,Nat.sub_zero];exact qCm (by omega)
theorem zXU{K:qA1}(hK:X.K=K:=by rfl):SlR X (rSlZ K):=by
 subst hK;intro pins s σ H x v vl vu lo hi sl Q I rx hs pl pu h;obtain⟨a,xs,b,rfl,rfl,rfl,hb,h|⟨h,q⟩⟩:=h
 ·refine zNB pins s σ H _ v vl vu none (some b) sl Q I rx hs pl pu ⟨a,xs,rfl,h.1,fun p hp=>?_⟩;rw[zU9 hb];exact h.2 p hp
 ·cases rx;cases pl;cases pu;obtain⟨its,r,ht,hz⟩:=I.tuple h;have hlen:=r.length;refine⟨"tuple",_,qHr.lookup,ht.typeIs,zU0 ht hs (by rw[qAb,<- hlen];exact hb) ⟨.ref a,H,I,rfl,q⟩⟩
end
end L2
namespace L3
open PySem PySem.Spec
open L2 hiding Rep RepL
open Mi (Dt Xn R okR zA2 optR bindR_ok zA4 zAA zA8 zA9 Rh Sl Ro EM TM AM FM IM SM OM Tg Out zAR zAM zAV full frz frz1 frzAt)
section
variable[Kc]{mg:Str->Option Value}{E:XK}{n k:Nat}{te:TE}{e:EM}
theorem zX5{tl th:TO}{ml mh:OM}(A:DE mg E te e k)(B:DO mg E tl ml)(C:DO mg E th mh):DE mg E (tSl (rSlZ Kc.K) te tl th) (Mi.eSlZ e ml mh) 0:=by
 intro G H σ ρ Q s w p;refine(zAX A).step errE s w p fun d v G1 H1 S _ fr o p1=>?_
 refine B.step (errE.from fr.ext) fr.ext.in' (w.mono fr.ext.g) p1 fun lo H2 _ s2 p2=>?_
 have x2:=fr.ext.trans (Ext.same fr.ext.in' s2);refine C.step (errE.from x2) x2.in' (w.mono fr.ext.g) p2 fun hi H3 _ s3 p3=>?_
 have x3:=x2.trans (Ext.same x2.in' s3);have p4:=PostE.from p3 x3;cases d with
 |scr ns=>
  cases lo with
  |some _=>exact p4.elim
  |none=>
   cases hi with
   |none=>exact p4.elim
   |some b=>
    rw[Mi.slZ]at p4
    by_cases hb:(ns.length:Int)<=b
    ·rw[if_pos hb]at p4;obtain⟨a,rfl,ha⟩:=o;refine⟨a,ns.map V.int,b,rfl,rfl,rfl,by rw[qAh];exact hb,?_⟩
     rcases ha with ha|hk
     ·exact .inl ⟨x3.in'.seq ha,fun q hq=>PostE.kept p4 (Ext.new x3.in' hq _) ⟨q,rfl,.inl (SqL.of zAJ)⟩⟩
     ·exact .inr ⟨hk.t,PostE.kept p4 (Ext.refl x3.in') ⟨a,rfl,.inr hk⟩⟩
    ·rw[if_neg hb]at p4;exact p4.elim
 |_=>exact p4.elim
end
end L3
noncomputable section
namespace Mi
end Mi
end
namespace Mi
open PySem
section
variable(ρ:Rh)(r:Ro)(a:EM)(am:AM)
@[simp] theorem x_tL:tL a ρ=zA2 (a ρ) fun x=>match x with | .bl k=>okR k | .int i=>okR (i != 0) | .non=>okR false | .lst xs=>okR (!xs.isEmpty) | .tup xs=>okR (!xs.isEmpty)|_=>none:=rfl
@[simp] theorem x_eMl(f:List Dt->List Dt->Option Dt):eMl f a am ρ=zA2 (a ρ) fun x=>match x with | .lst xs=>zA2 (am ρ) fun ds=>optR (f xs ds)|_=>none:=rfl
@[simp] theorem x_iRv:iRv am ρ=zA2 (am ρ) fun vs=>match vs with|[.lst xs]=>okR xs.reverse|_=>none:=rfl
@[simp] theorem v_xor(i j:Int):xorD (.int i) (.int j)=some (.int (qHw i j)):=rfl
@[simp] theorem v_rep(xs:List Dt)(k:Int):repD (.lst xs) (.int k)=@ite _ ((-4611686018427387904<=k/\k<4611686018427387904)/\xs.length*k.toNat<=100000) (qA3 _) (some (.lst (qA2 k.toNat xs).flatten)) none:=rfl
end
@[simp] theorem okR_inj{α:Type}{a b:α}:okR a=okR b↔a=b:=⟨fun h=>by cases h;rfl,fun h=>by rw[h]⟩
@[simp] theorem x_sFor(vs:List Nat)(it:IM)(tg:Tg)(b:SM)(r:Ro):sFor vs it tg b r=zA2 (it (frz (frzAt vs r))) fun ds=>forGo tg b ds (frzAt vs r):=rfl
@[simp] theorem zCF(it:IM)(i:Nat)(b:SM)(r:Ro):sForR it i b r=zA2 (it (full r)) fun ds=>forGo (.one i) b ds r:=rfl
@[simp] theorem zXP(e:EM)(ρ:Rh):iSq e ρ=zA2 (e ρ) fun d=>match d with | .lst xs=>okR xs | .tup xs=>okR xs | .scr ns=>okR (ns.map .int) | .str z=>okR (signsD z)|_=>none:=rfl
@[simp] theorem x_iEn(e:AM)(ρ:Rh):iEn e ρ=zA2 (e ρ) fun vs=>match vs with|[.lst xs]=>okR (enumD 0 xs)|_=>none:=rfl
@[simp] theorem x_iZi(e:AM)(ρ:Rh):iZi e ρ=zA2 (e ρ) fun vs=>match vs with|[.lst xs,.lst ys]=>okR (zipD xs ys)|_=>none:=rfl
theorem zE3{e:AM}{ρ:Rh}{n:Nat}(h:e ρ=okR [.int n])(hn:n<=100000):iR1 e ρ=okR (nums 0 n):=by
 unfold iR1;rw[h,bindR_ok];dsimp only;rw[if_pos (by lia)];simp
theorem zFN(n:Nat):nums 0 n=(qA8 n).map fun i:Nat=>Dt.int (i:Int):=by
 unfold nums;exact qAy fun i _=>by simp
theorem zGE{α β:Type}{j:Nat}{b:SM}(en:β->Dt)(Enc:α->Ro->Prop)(f:α->β->α):∀(ns:List β)(a:α)(r:Ro),Enc a r->(∀n∈ns,∀a r,Enc a r->∃r',b (r.set j (some (en n,0)))=okR (.nx r')/\Enc (f a n) r')->∃r',forGo (.one j) b (ns.map en) r=okR (.nx r')/\Enc (ns.foldl f a) r'
 |[],a,r,h,_=>⟨r,by simp[forGo],h⟩
 |d::ds,a,r,h,hs=>by
  obtain⟨r1,h2,h3⟩:=hs d (by simp) a r h;obtain⟨r2,h4,h5⟩:=zGE en Enc f ds (f a d) r1 h3 fun e he=>hs e (by simp[he])
  refine⟨r2,?_,h5⟩;rw[qAg,forGo];show zA2 (b (zAV r [(j,en d)])) _=_;show zA2 (b (r.set j (some (en d,0)))) _=_;rw[h2,bindR_ok];exact h4
theorem zMV{α β γ:Type}(x:R α)(f:α->R β)(g:β->R γ):zA2 (zA2 x f) g=zA2 x fun a=>zA2 (f a) g:=by
 cases x with
 |none=>rfl
 |some r=>cases r<;>rfl
def nxR(x:R Out)(P:Ro->Prop):Prop:=match x with
 |some (.ok (.nx r))=>P r
 |_=>False
@[simp] theorem x_nxR(r:Ro)(P:Ro->Prop):nxR (okR (.nx r)) P=P r:=rfl
theorem zBI{x:R Out}{P:Ro->Prop}(h:nxR x P):∃r',x=okR (.nx r')/\P r':=by
 unfold nxR at h
 split at h
 ·exact⟨_,rfl,h⟩
 ·exact h.elim
theorem zBK{x:R Out}{P:Ro->Prop}{r:Ro}(h:x=okR (.nx r))(hp:P r):nxR x P:=by rw[h];exact hp
theorem zPD{α β γ:Type}{j:Nat}{b:SM}{r:Ro}{K:Out->R β}{X:R β}(en:γ->Dt)(ns:List γ)(Enc:α->Ro->Prop)(f:α->γ->α)(a:α)(h:Enc a r)(hs:∀n∈ns,∀a r,Enc a r->nxR (b (r.set j (some (en n,0)))) (Enc (f a n)))(hK:∀r',Enc (ns.foldl f a) r'->K (.nx r')=X):zA2 (forGo (.one j) b (ns.map en) r) K=X:=by
 obtain⟨r',h1,h2⟩:=zGE en Enc f ns a r h fun n hn a r hr=>zBI (hs n hn a r hr)
 rw[h1,bindR_ok];exact hK r' h2
theorem zXR{i n:Nat}{e:EM}{r:Ro}{ds:List Dt}{k:Nat}{d:Dt}(h:r[i]?=some (some (.lst ds,k+1)))(he:e (full r)=okR d)(h1:ds.length<=100000)(h2:d.dep<=n)(h3:d.dep<=k):sApp i n e r=okR (.nx (r.set i (some (.lst (ds++[d]),k+1)))):=by
 unfold sApp;rw[h];dsimp only;rw[he,bindR_ok,if_pos ⟨h1,h2,h3⟩]
theorem zKH{i j:Int}(h:-18446744073709551616<i)(h':i<18446744073709551616):mulD (.int i) (.int j)=some (.int (i*j)):=by
 rw[zSN,if_pos (.inl (.inl ⟨h,h'⟩))]
theorem zJB{i j:Int}(h:-18446744073709551616<j)(h':j<18446744073709551616):mulD (.int i) (.int j)=some (.int (i*j)):=by
 rw[zSN,if_pos (.inl (.inr ⟨h,h'⟩))]
theorem zE0{ρ:Rh}{c:TM}{e:EM}{i:Nat}(g:Nat->Dt)(n:Nat)(hc:c=tYes)(hi:i=ρ.length)(h:∀k,k<n->e (ρ++[some (.int (k:Nat))])=okR (g k))(it:IM)(hit:it ρ=okR (nums 0 n))(hn:n<=100000):eComp it 1 (.one i) c e ρ=okR (.lst ((qA8 n).map g)):=by
 subst hc hi;unfold eComp;rw[hit,bindR_ok,if_pos ⟨by simpa[nums]using hn,by simp[Tg.idx]⟩];rw[zM4 (fun d=>match d with | .int k=>g k.toNat|_=>.non) _ [] fun d hd=>?_]
 ·rw[bindR_ok,zFN,qAp];simp only[qFd]
  congr 2
 ·rw[zFN]at hd;obtain⟨k,hk,rfl⟩:=qAf.mp hd;refine⟨_,rfl,rfl,?_⟩
  have:zAM (ρ++qA2 1 none) [(ρ.length,Dt.int (k:Int))]=ρ++[some (.int (k:Nat))]:=by
   simp[zAM]
  rw[this]
  simpa using h k (by simpa using hk)
theorem zBN{ρ:Rh}{c:TM}{e:EM}{i:Nat}{β:Type}(en:β->Dt)(g:β->Dt)(ns:List β)(hc:c=tYes)(hi:i=ρ.length)(h:∀k,k∈ns->e (ρ++[some (en k)])=okR (g k))(it:IM)(hit:it ρ=okR (ns.map en))(hn:ns.length<=100000):eComp it 1 (.one i) c e ρ=okR (.lst (ns.map g)):=by
 subst hc hi;unfold eComp;rw[hit,bindR_ok,if_pos ⟨by simpa using hn,by simp[Tg.idx]⟩]
 have:∀(ns:List β)(acc:List Dt),(∀k,k∈ns->e (ρ++[some (en k)])=okR (g k))->compGo ρ 1 (.one ρ.length) tYes e (ns.map en) acc=okR (acc++ns.map g):=by
  intro ns
  induction ns with
  |nil=>intro acc _;simp[compGo]
  |cons d r ih=>
   intro acc h;rw[qAg,compGo];have e1:zAM (ρ++qA2 1 none) [(ρ.length,en d)]=ρ++[some (en d)]:=by simp[zAM]
   show zA2 (tYes _) _=_;simp only[zUL,bindR_ok,if_true];show zA2 (e (zAM (ρ++qA2 1 none) [(ρ.length,en d)])) _=_;rw[e1,h d (by simp),bindR_ok,ih _ fun k hk=>h k (by simp[hk])];simp
 rw[this ns [] h,bindR_ok];simp
theorem zE8{a b:SM}{r:Ro}{X:R Out}(h:∀bb:SM,bb=b->nxR (a r) fun r1=>bb r1=X):sSeq a b r=X:=by
 obtain⟨r1,h1,h2⟩:=zBI (h b rfl);unfold sSeq;rw[h1,bindR_ok];exact h2
theorem zFX{a b:SM}{r:Ro}{P:Ro->Prop}(h:∀bb:SM,bb=b->nxR (a r) fun r1=>nxR (bb r1) P):nxR (sSeq a b r) P:=by
 obtain⟨r1,h1,h2⟩:=zBI (h b rfl);unfold sSeq;rw[h1,bindR_ok];exact h2
theorem zBJ{P n:Nat}{b:SM}{ds:List Dt}{d:Dt}(h:ds.length=P)(hb:b (startO n ds)=okR (.rt d)):runF P n b ds=okR d:=by
 unfold runF;rw[if_pos h,hb];rfl
theorem zG7{j n:Nat}{b:SM}{r:Ro}{X:Ro->Prop}(Pv:Nat->Ro->Prop)(h:Pv 0 r)(hs:∀k,k<n->∀r,Pv k r->nxR (b (r.set j (some (.int (k:Nat),0)))) (Pv (k+1)))(hK:∀r',Pv n r'->X r'):nxR (forGo (.one j) b (nums 0 n) r) X:=by
 obtain⟨r',h1,h2⟩:∃r',forGo (.one j) b (nums 0 n) r=okR (.nx r')/\Pv n r':=by
  obtain⟨r',h1,h2⟩:=zI8 (tg:=.one j) (b:=b) Pv (nums 0 n) 0 r h fun k d r hd hp=>by
   rw[zFN,qAe]at hd;cases e:(qA8 n)[k]? with
   |none=>rw[e]at hd;cases hd
   |some q=>
    rw[e]at hd;cases hd;obtain⟨h1,h2⟩:=qA4.mp e;rw[qCg]at h2;subst h2;rw[qC3]at hp;obtain⟨r',g1,g2⟩:=zBI (hs k (by simpa using h1) r hp);exact⟨_,r',rfl,g1,by rw[qC3];exact g2⟩
  exact⟨r',h1,by simpa[nums]using h2⟩
 rw[h1];exact hK r' h2
theorem zTE{γ:Type}{j:Nat}{b:SM}{r:Ro}{X:Ro->Prop}(en:γ->Dt)(ns:List γ)(Pv:Nat->Ro->Prop)(h:Pv 0 r)(hs:∀k x,ns[k]?=some x->∀r,Pv k r->nxR (b (r.set j (some (en x,0)))) (Pv (k+1)))(hK:∀r',Pv ns.length r'->X r'):nxR (forGo (.one j) b (ns.map en) r) X:=by
 obtain⟨r',h1,h2⟩:=zI8 (tg:=.one j) (b:=b) Pv (ns.map en) 0 r h fun k d r hd hp=>by
  rw[qAe]at hd;cases e:ns[k]? with
  |none=>rw[e]at hd;cases hd
  |some q=>
   rw[e]at hd;cases hd;rw[qC3]at hp;obtain⟨r',g1,g2⟩:=zBI (hs k q e r hp);exact⟨_,r',rfl,g1,by rw[qC3];exact g2⟩
 rw[h1];exact hK r' (by simpa using h2)
theorem zTD{α γ:Type}{j:Nat}{b:SM}{r:Ro}{X:Ro->Prop}(en:γ->Dt)(ns:List γ)(Enc:α->Ro->Prop)(f:α->γ->α)(a:α)(h:Enc a r)(hs:∀n∈ns,∀a r,Enc a r->nxR (b (r.set j (some (en n,0)))) (Enc (f a n)))(hK:∀r',Enc (ns.foldl f a) r'->X r'):nxR (forGo (.one j) b (ns.map en) r) X:=by
 obtain⟨r',h1,h2⟩:=zGE en Enc f ns a r h fun n hn a r hr=>zBI (hs n hn a r hr)
 rw[h1];exact hK r' h2
theorem zJD:∀(a b:List Char),a.map qGt=b.map qGt->a=b
 |[],[],_=>rfl
 |[],_::_,h=>by simp at h
 |_::_,[],h=>by simp at h
 |x::r,y::q,h=>by
  simp only[qAg,List.cons.injEq]at h;rw[zJD r q h.2]
  have:x=y:=Char.toNat_inj.mp h.1
  rw[this]
@[simp] theorem str_inj(a b:String):(qIy a=qIy b)↔a=b:=by
 constructor
 ·intro h;rw[qIb,qIb]at h;simp only[Str.mk.injEq,List.toArray_inj]at h
  have:=zJD _ _ (by simpa using h)
  exact String.toList_inj.mp this
 ·intro h;rw[h]
theorem zLZ:∀(ds:List Dt)(n i:Nat)(d:Dt),(enumD n ds)[i]?=some d->∃e,ds[i]?=some e/\d=.tup [.int ((n+i:Nat):Int),e]
 |[],_,_,_,h=>by simp[enumD]at h
 |x::r,n,0,d,h=>by simp[enumD]at h;exact⟨x,by simp,by rw[<- h];rfl⟩
 |x::r,n,i+1,d,h=>by
  rw[enumD]at h;obtain⟨e,h1,h2⟩:=zLZ r (n+1) i d (by simpa using h);exact⟨e,by simpa using h1,by rw[h2,show n+1+i=n+(i+1) by lia]⟩
theorem zID:∀(ds:List Dt)(n:Nat),(enumD n ds).length=ds.length
 |[],_=>rfl
 |_::r,n=>by rw[enumD,qAt,qAt,zID r]
theorem zO6{a b:Nat}{s:SM}{r:Ro}{X:Ro->Prop}(xs:List Dt)(Pv:Nat->Ro->Prop)(h:Pv 0 r)(hs:∀k x,xs[k]?=some x->∀r,Pv k r->nxR (s ((r.set a (some (.int (k:Nat),0))).set b (some (x,0)))) (Pv (k+1)))(hK:∀r',Pv xs.length r'->X r'):nxR (forGo (.tup [a,b]) s (enumD 0 xs) r) X:=by
 obtain⟨r',h1,h2⟩:=zI8 (tg:=.tup [a,b]) (b:=s) Pv (enumD 0 xs) 0 r h fun k d r hd hp=>by
  obtain⟨e,g1,rfl⟩:=zLZ xs 0 k d hd;rw[qC3]at hp;obtain⟨r',g2,g3⟩:=zBI (hs k e g1 r hp);refine⟨_,r',rfl,?_,by rw[qC3];exact g3⟩;rw[qC3];exact g2
 rw[h1];exact hK r' (by simpa[zID]using h2)
section
variable(ρ:Rh)(a:EM)(am:AM)(lo hi:OM)
@[simp] theorem zXQ:eSl a lo hi ρ=zA2 (a ρ) fun x=>zA2 (lo ρ) fun l=>zA2 (hi ρ) fun h=>optR (slD x l h):=rfl
@[simp] theorem zXO:oNo ρ=okR none:=rfl
@[simp] theorem x_oE:oE a ρ=zA2 (a ρ) fun d=>match d with | .int i=>okR (some i)|_=>none:=rfl
@[simp] theorem x_eMt(f:Dt->List Dt->Option Dt):eMt f a am ρ=zA2 (a ρ) fun x=>if zOM x=true then zA2 (am ρ) fun xs=>optR (f x xs)else none:=rfl
@[simp] theorem v_isStr(z:Str):zOM (.str z)=true:=rfl
end
@[simp] theorem v_slL(xs:List Dt)(l h:Option Int):slD (.lst xs) l h=some (.lst (cutA xs l h)):=rfl
@[simp] theorem v_slS(z:Str)(l h:Option Int):slD (.str z) l h=@ite _ (z.length<=100000) (qA3 _) (some (.str ⟨(cutA z.cps.toList l h).toArray⟩)) none:=rfl
@[simp] theorem v_ixSt(z:Str)(i:Int):ixD (.str z) (.int i)=@ite _ (z.length<=100000) (qA3 _) ((itA z.cps.toList i).map fun c=>.str ⟨#[c]⟩) none:=rfl
@[simp] theorem v_lenSt(z:Str):lenD [.str z]=@ite _ (z.length<=100000) (qA3 _) (some (.int z.length)) none:=rfl
@[simp] theorem v_count1(z:Str)(c:Nat):zS9 (.str z) [.str ⟨#[c]⟩]=some (.int (z.cps.toList.count c:Nat)):=rfl
@[simp] theorem v_in1(ng:Bool)(z:Str)(c:Nat):inD ng (.str ⟨#[c]⟩) (.str z)=some (.bl (if ng=true then !decide (c∈z.cps.toList)else decide (c∈z.cps.toList))):=rfl
@[simp] theorem v_find1(z:Str)(c:Nat):zWS (.str z) [.str ⟨#[c]⟩]=some (.int (match posC c z.cps.toList with|some i=>(i:Int)|none=>-1)):=rfl
theorem zR5{α:Type}(xs:List α)(k:Nat):cutA xs (some (k:Int)) none=xs.drop k:=by
 unfold cutA cutIx;dsimp only;rw[if_neg (by lia)]
 by_cases h:k<=xs.length
 ·rw[show min (k:Int).toNat xs.length=k by lia];exact qCm (by simp)
 ·rw[show min (k:Int).toNat xs.length=xs.length by lia];simp
  lia
theorem zSS(a b:Str):(a++b).cps.toList=a.cps.toList++b.cps.toList:=by
 show(Str.mk (a.cps++b.cps)).cps.toList=_
 simp
theorem zTQ(z:Str):z.length=z.cps.toList.length:=by
 unfold Str.length;simp
theorem zOE(l:List Nat):(Str.mk l.toArray).length=l.length:=by rw[zTQ]
end Mi
namespace Mp
open Mi PySem
theorem sg{i n:Nat}{vs:List Nat}{e:EM}{b:SM}{r:Ro}{d:Dt}{X:R Out}(he:e (full r)=okR d)(hd:d.dep<=n)(h:b (r.set i (some (d,n)))=X):sSeq (sSet i n vs e) b r=X:=by
 rw[zFA,zRC,he,bindR_ok,if_pos hd,bindR_ok];exact h
theorem sp{c:TM}{a b:SM}{r:Ro}{X:R Out}(hc:c (full r)=okR false)(h:b r=X):sSeq (sIf c a sNil) b r=X:=by
 rw[zFA,zFE,hc,bindR_ok,if_neg (by simp),zRE,bindR_ok];exact h
theorem st{c:TM}{a b:SM}{r r':Ro}{X:R Out}(hc:c (full r)=okR true)(ha:a r=okR (.nx r'))(h:b r'=X):sSeq (sIf c a sNil) b r=X:=by
 rw[zFA,zFE,hc,bindR_ok,if_pos rfl,ha,bindR_ok];exact h
theorem su{is vs:List Nat}{e:EM}{b:SM}{r:Ro}{ds:List Dt}{X:R Out}(he:e (frz (frzAt vs r))=okR (.tup ds))(hl:ds.length=is.length)(h:b (zAV (frzAt vs r) (is.zip ds))=X):sSeq (sUnp is vs e) b r=X:=by
 rw[zFA];unfold sUnp;rw[he,bindR_ok,zAR,if_pos hl];exact h
theorem c2{m:FM}{e1 e2:EM}{ρ:Rh}{d1 d2:Dt}{X:R Dt}(h1:e1 ρ=okR d1)(h2:e2 ρ=okR d2)(h:m [d1,d2]=X):eCall m (aCons e1 (aCons e2 aNil)) ρ=X:=by
 simp only[zK6,zEX,zIR,h1,h2,bindR_ok];exact h
theorem c1{m:FM}{e1:EM}{ρ:Rh}{d1:Dt}{X:R Dt}(h1:e1 ρ=okR d1)(h:m [d1]=X):eCall m (aCons e1 aNil) ρ=X:=by
 simp only[zK6,zEX,zIR,h1,bindR_ok];exact h
theorem b2{o:Dt->Dt->Option Dt}{e1 e2:EM}{ρ:Rh}{d1 d2 d:Dt}(h1:e1 ρ=okR d1)(h2:e2 ρ=okR d2)(h:o d1 d2=some d):eB o e1 e2 ρ=okR d:=by
 rw[x_eB,h1,bindR_ok,h2,bindR_ok,h];rfl
theorem bi1{o:List Dt->Option Dt}{e1:EM}{ρ:Rh}{d1 d:Dt}(h1:e1 ρ=okR d1)(h:o [d1]=some d):eBi o (aCons e1 aNil) ρ=okR d:=by
 simp only[zUO,zEX,zIR,h1,bindR_ok,h];rfl
theorem el1{e1:EM}{ρ:Rh}{d1:Dt}(h1:e1 ρ=okR d1):eLst (aCons e1 aNil) ρ=okR (.lst [d1]):=by simp[h1]
theorem tb1{e:EM}{ρ:Rh}{k:Bool}(h:e ρ=okR (.bl k)):tB e ρ=okR k:=by rw[x_tB,h,bindR_ok]
theorem tm1{e:EM}{ρ:Rh}{k:Bool}(h:e ρ=okR (.bl k)):tM e ρ=okR k:=by rw[x_tM,h,bindR_ok]
theorem tn1{t:TM}{ρ:Rh}{k:Bool}(h:t ρ=okR k):tNo t ρ=okR (!k):=by rw[zXN,h,bindR_ok]
theorem to0{t t':TM}{ρ:Rh}{k:Bool}(h:t ρ=okR false)(h':t' ρ=okR k):Mi.tOr t t' ρ=okR k:=by rw[zUM,h,bindR_ok,if_neg (by simp),h']
theorem to1{t t':TM}{ρ:Rh}(h:t ρ=okR true):Mi.tOr t t' ρ=okR true:=by rw[zUM,h,bindR_ok,if_pos rfl]
theorem ta1{t t':TM}{ρ:Rh}{k:Bool}(h:t ρ=okR true)(h':t' ρ=okR k):tAn t t' ρ=okR k:=by rw[zUN,h,bindR_ok,if_pos rfl,h']
theorem ta0{t t':TM}{ρ:Rh}(h:t ρ=okR false):tAn t t' ρ=okR false:=by rw[zUN,h,bindR_ok,if_neg (by simp)]
theorem ss{i n:Nat}{vs:List Nat}{e:EM}{r:Ro}{d:Dt}(he:e (full r)=okR d)(hd:d.dep<=n):sSet i n vs e r=okR (.nx (r.set i (some (d,n)))):=by
 rw[zRC,he,bindR_ok,if_pos hd]
theorem sr{L n:Nat}{vs:List Nat}{e:EM}{r:Ro}{d:Dt}(he:e (full r)=okR d)(hd:d.dep<=n/\d.dep<=L):sRet L n vs e r=okR (.rt d):=by
 rw[zRD,he,bindR_ok,if_pos hd]
theorem tl{k k':Bool}{x:Option Dt}(h:x=some (.bl k))(e:k=k'):x=some (.bl k'):=e▸h
theorem bi2{o:List Dt->Option Dt}{e1 e2:EM}{ρ:Rh}{d1 d2 d:Dt}(h1:e1 ρ=okR d1)(h2:e2 ρ=okR d2)(h:o [d1,d2]=some d):eBi o (aCons e1 (aCons e2 aNil)) ρ=okR d:=by
 simp only[zUO,zEX,zIR,h1,h2,bindR_ok,h];rfl
theorem sl1{a b:EM}{ρ:Rh}{x d:Dt}{i:Int}(h1:a ρ=okR x)(h2:b ρ=okR (.int i))(h:slD x (some i) none=some d):eSl a (oE b) oNo ρ=okR d:=by
 rw[zXQ,h1,bindR_ok,x_oE,h2,bindR_ok,bindR_ok,zXO,bindR_ok,h];rfl
theorem sf{c:TM}{a:SM}{r:Ro}(hc:c (full r)=okR false):sIf c a sNil r=okR (.nx r):=by
 rw[zFE,hc,bindR_ok,if_neg (by simp),zRE]
theorem eqi{e1 e2:EM}{ρ:Rh}{a b:Int}{k:Bool}(h1:e1 ρ=okR (.int a))(h2:e2 ρ=okR (.int b))(h:decide (a=b)=k):tB (eB eqD e1 e2) ρ=okR k:=by
 refine tb1 (b2 h1 h2 ?_);rw[<- h];simp[Dt.eq];rfl
theorem nei{e1 e2:EM}{ρ:Rh}{a b:Int}{k:Bool}(h1:e1 ρ=okR (.int a))(h2:e2 ρ=okR (.int b))(h:(!decide (a=b))=k):tB (eB neD e1 e2) ρ=okR k:=by
 refine tb1 (b2 h1 h2 ?_);rw[<- h];simp[Dt.eq];rfl
theorem sx{c:TM}{a b:SM}{r:Ro}{d:Dt}(hc:c (full r)=okR true)(ha:a r=okR (.rt d)):sSeq (sIf c a sNil) b r=okR (.rt d):=by
 rw[zFA,zFE,hc,bindR_ok,if_pos rfl,ha,bindR_ok]
theorem mdi{i j k:Int}(h:0<j)(e:i%j=k):modD (.int i) (.int j)=some (.int k):=by rw[<- e];exact if_pos h
theorem dvi{i j:Int}(h:0<j/\j<1000000000000000000000000):divD (.int i) (.int j)=some (.int (i/j)):=@if_pos _ (qA3 _) h _ _ _
theorem c3{m:FM}{e1 e2 e3:EM}{ρ:Rh}{d1 d2 d3:Dt}{X:R Dt}(h1:e1 ρ=okR d1)(h2:e2 ρ=okR d2)(h3:e3 ρ=okR d3)(h:m [d1,d2,d3]=X):eCall m (aCons e1 (aCons e2 (aCons e3 aNil))) ρ=X:=by
 simp only[zK6,zEX,zIR,h1,h2,h3,bindR_ok];exact h
theorem sq{c:TM}{r:Ro}{b:Bool}(hc:c (full r)=okR true):sIf c (sRet 0 0 [] (eC (.bl b))) sNil r=okR (.rt (.bl b)):=by
 rw[zFE,hc,bindR_ok,if_pos rfl];exact sr rfl ⟨qA6 0,qA6 0⟩
theorem an1{e1 e2:EM}{ρ:Rh}{a b:Bool}(h1:e1 ρ=okR (.bl a))(h2:e2 ρ=okR (.bl b)):eAnd e1 e2 ρ=okR (.bl (a&&b)):=by cases a<;>simp[h1,h2]
theorem sk{c:TM}{a b:SM}{r:Ro}{X:R Out}(hc:c (full r)=okR true)(ha:a r=X):sIf c a b r=X:=by
 rw[zFE,hc,bindR_ok,if_pos rfl];exact ha
theorem rt1{e:EM}{d:Dt}{ρ:Ro}{vs:List Nat}(h1:e (full ρ)=okR d)(h2:e (frz (frzAt vs ρ))=okR d):sRet 1 1 vs e ρ=okR (.rt d):=by
 rw[zRD,h1,bindR_ok]
 by_cases z:d.dep<=1/\d.dep<=1
 ·rw[if_pos z]
 ·rw[if_neg z,if_pos rfl,h2,bindR_ok]
theorem el0{ρ:Rh}:eLst aNil ρ=okR (.lst []):=by simp
theorem sw{s t:SM}{r r':Ro}{X:R Out}(h:s r=okR (.nx r'))(h2:t r'=X):sSeq s t r=X:=by rw[zFA,h,bindR_ok];exact h2
theorem nif1{c:TM}{a b:SM}{r:Ro}{P:Ro->Prop}(hc:c (full r)=okR true)(h:nxR (a r) P):nxR (sIf c a b r) P:=by rw[zFE,hc,bindR_ok,if_pos rfl];exact h
theorem nsw{s t:SM}{r r':Ro}{P:Ro->Prop}(h:s r=okR (.nx r'))(h2:nxR (t r') P):nxR (sSeq s t r) P:=by rw[zFA,h,bindR_ok];exact h2
theorem v1{i:Nat}{ρ:Rh}{d:Dt}(h:ρ[i]?=some (some d)):eV i ρ=okR d:=by rw[x_eV,h]
theorem al0{e:EM}{ρ:Rh}{d:Dt}(h:e ρ=okR d):aCons e aNil ρ=okR [d]:=by rw[zEX,h];rfl
theorem adi{a b c:Int}(h:a+b=c):addD (.int a) (.int b)=some (.int c):=by rw[<- h];rfl
theorem sbi{a b c:Int}(h:a-b=c):subD (.int a) (.int b)=some (.int c):=by rw[<- h];rfl
theorem k1{d d':Dt}{ρ:Rh}(h:d=d'):eC d ρ=okR d':=by rw[<- h];rfl
theorem cmi{p:Int->Int->Bool}{a b:Int}{k:Bool}(h:p a b=k):cmpD p (.int a) (.int b)=some (.bl k):=by rw[<- h];rfl
noncomputable def rowD(r:List Int):Dt:=.lst (r.map .int)
def mat(A:List (List Int)):Dt:=.lst (A.map rowD)
noncomputable def tab(n:Nat)(f:Nat->Nat->Int):List (List Int):=(qA8 n).map fun i=>(qA8 n).map fun j=>f i j
def Bits(n:Nat)(f:Nat->Nat->Int):Prop:=∀i j,i<n->j<n->f i j=0\/f i j=1
def Sym(n:Nat)(f:Nat->Nat->Int):Prop:=∀i j,i<n->j<n->f i j=f j i
@[simp] theorem zCQ(r:List Int):(rowD r).dep=1:=by simp[rowD]
theorem ixR{n:Nat}{g:Nat->Int}{j:Nat}(h:j<n):ixD (rowD ((qA8 n).map g)) (.int (j:Int))=some (.int (g j)):=by
 refine zJI rfl ?_;simp[h]
@[simp] theorem lenR(r:List Int):lenD [rowD r]=some (.int r.length):=by
 show some (Dt.int ((r.map Dt.int).length:Int))=_;rw[qAh]
@[simp] theorem listR(r:List Int):listD [rowD r]=some (rowD r):=rfl
@[simp] theorem lenM(A:List (List Int)):lenD [mat A]=some (.int A.length):=by
 show some (Dt.int ((A.map rowD).length:Int))=_;rw[qAh]
theorem zGI:∀A:List (List Int),Dt.depL (A.map rowD)<=1
 |[]=>by simp
 |r::A=>by
  have:=zGI A
  rw[qAg,zFT,zCQ]
  lia
theorem zC8(A:List (List Int)):(mat A).dep<=2:=by
 have:=zGI A
 unfold mat;rw[v_dl]
 lia
theorem zEZ(n:Nat)(f:Nat->Nat->Int):(tab n f).length=n:=by simp[tab]
theorem zEY{n:Nat}{f:Nat->Nat->Int}{i:Nat}(h:i<n):(tab n f)[i]?=some ((qA8 n).map fun j=>f i j):=by
 simp[tab,h]
theorem zWH{n:Nat}{f:Nat->Nat->Int}{i:Nat}(h:i<n):itA ((tab n f).map rowD) (i:Int)=some (rowD ((qA8 n).map fun j=>f i j)):=by
 refine zJI rfl ?_;rw[qAe,zEY h];rfl
theorem ixM{n:Nat}{f:Nat->Nat->Int}{i:Nat}(h:i<n):ixD (mat (tab n f)) (.int (i:Int))=some (rowD ((qA8 n).map fun j=>f i j)):=zWH h
theorem zM3{ρ:Rh}{e:EM}{it:IM}{i n:Nat}(g:Nat->Int)(hi:i=ρ.length)(hn:n<=1000)(h1:it ρ=okR (nums 0 n))(h:∀a,a<n->e (ρ++[some (.int (a:Nat))])=okR (.int (g a))):eComp it 1 (.one i) tYes e ρ=okR (rowD ((qA8 n).map g)):=by
 rw[zE0 (fun b=>.int (g b)) n rfl hi (fun b hb=>h b hb) it h1 (by lia)];unfold rowD;rw[qAp];rfl
theorem zJH{r:Ro}{i m n:Nat}{l:Nat}{f:Nat->Nat->Int}{a b:Nat}{v:Int}{e0 e1 e2:EM}(h:r[i]?=some (some (mat (tab n f),l+2)))(h0:e0 (full r)=okR (.int (a:Nat)))(h1:e1 (full r)=okR (.int (b:Nat)))(h2:e2 (full r)=okR (.int v))(ha:a<n)(hb:b<n) :
  sItem2 i m e0 e1 e2 r=okR (.nx (r.set i (some (mat (tab n fun x y=>if x=a/\y=b then v else f x y),l+2)))):=by
 have g1:((tab n f).map rowD)[a]?=some (.lst (((qA8 n).map fun j=>f a j).map .int)):=by
  rw[qAe,zEY ha];rfl
 unfold sItem2;rw[h2,bindR_ok,h];show zA2 (e0 (full r)) _=_;rw[h0,bindR_ok];dsimp only;rw[zLT (by lia) (by simp[tab];lia)];dsimp only;rw[qBr,g1];dsimp only;rw[h1,bindR_ok];dsimp only;rw[zLT (by lia) (by simp;lia)];dsimp only;rw[if_pos ⟨qBk _,qBk _⟩,qBr]
 congr 5
 unfold mat
 congr 1
 apply qEz
 intro x;rw[qDf]
 by_cases hx:a=x
 ·subst hx;rw[if_pos rfl,if_pos (by simp[tab];lia),qAe,zEY ha];show some _=some _
  congr 1
  unfold rowD
  congr 1
  apply qEz
  intro y;rw[qDf]
  by_cases hy:b=y
  ·subst hy;simp[hb]
  ·rw[if_neg hy]
   by_cases hyn:y<n
   ·simp[hyn,show ¬y=b from fun z=>hy z.symm]
   ·simp[hyn]
 ·rw[if_neg hx,qAe,qAe]
  by_cases hxn:x<n
  ·rw[zEY hxn,zEY hxn];simp[show ¬x=a from fun z=>hx z.symm]
  ·have:(tab n f)[x]?=none:=by simp[tab];lia
   have h':(tab n fun x y=>if x=a/\y=b then v else f x y)[x]?=none:=by simp[tab];lia
   rw[this,h']
def Bit(x:Int):Prop:=x=0\/x=1
def RowN(n:Nat)(r:List Int):Prop:=r.length=n/\∀x∈r,Bit x
theorem zLC{n:Nat}{f:Nat->Nat->Int}(hb:Bits n f):∀r∈tab n f,r.length=n/\∀x∈r,Bit x:=by
 intro r hr;unfold tab at hr;obtain⟨i,hi,rfl⟩:=qAf.mp hr;refine⟨by simp,fun x hx=>?_⟩;obtain⟨j,hj,rfl⟩:=qAf.mp hx;exact hb i j (by simpa using hi) (by simpa using hj)
theorem zI3(r:List Int)(i:Nat)(h:i<r.length):ixD (rowD r) (.int (i:Int))=some (.int (r.getD i 0)):=by
 have:=zLV (ns:=r) (i:=(i:Int)) (by lia) (by lia)
 rw[qBr]at this;exact this
theorem zYK(A:List (List Int))(i:Nat)(h:i<A.length):ixD (mat A) (.int (i:Int))=some (rowD (A.getD i [])):=by
 refine zJI rfl ?_;rw[qAe,qA7 h,qA0,qA7 h];rfl
theorem addR(a b:List Int)(h:a.length+b.length<=100000):addD (rowD a) (rowD b)=some (rowD (a++b)):=by
 show(@ite _ ((a.map Dt.int).length+(b.map Dt.int).length<=100000) (qA3 _) (some (Dt.lst (a.map Dt.int++b.map Dt.int))) none)=_
 rw[if_pos (by simpa using h)];unfold rowD;simp
theorem zSJ{a b:Int}(ha:Bit a)(hb:Bit b):qHw a b=(a+b)%2:=by
 rcases ha with rfl|rfl<;>rcases hb with rfl|rfl<;>decide
noncomputable def sumN(n:Nat)(f:Nat->Int):Int:=((qA8 n).map f).sum
theorem zTL(n:Nat)(f:Nat->Nat->Int):mat (tab n f)=.lst ((qA8 n).map fun i=>rowD ((qA8 n).map fun j=>f i j)):=by
 unfold mat tab;rw[qAp];rfl
theorem zYM{ds:List Dt}(h:∀d∈ds,d.dep=0):Dt.depL ds=0:=by
 induction ds with
 |nil=>simp
 |cons a r ih=>rw[zFT,h a (by simp),ih fun d hd=>h d (by simp[hd])];rfl
noncomputable def sgn(c:Nat):Dt:=.str ⟨#[c]⟩
theorem zQZ(cs:List Nat):∀d∈cs.map sgn,d.dep=0:=by
 intro d hd;obtain⟨c,_,rfl⟩:=qAf.mp hd;rfl
@[simp] theorem depL_sgn(cs:List Nat):Dt.depL (cs.map sgn)=0:=zYM (zQZ cs)
noncomputable def itr(f:Nat->Nat):Nat->Nat->Nat
 |0,x=>x
 |k+1,x=>f (itr f k x)
noncomputable def jn(cs:List Nat)(e:Nat):Nat:=e/4*4+(e%4^^^(cs.getD (e/4) 0+1))
noncomputable def nt(ts:List Nat)(e:Nat):Nat:=ts.getD e 0
structure NetN(ts:List Nat)(M:Nat):Prop where
 len:ts.length=M
 lt:∀e,e<M->nt ts e<M
 inv:∀e,e<M->nt ts (nt ts e)=e
def stp(ts cs:List Nat)(e:Nat):Nat:=nt ts (jn cs e)
noncomputable def wrd(ls row:List Nat):List Nat:=row.map fun p=>ls.getD p 0
def Apart(ls row:List Nat):Prop:=∀x∈row,∀y∈row,ls.getD x 0=ls.getD y 0->x=y
theorem zQQ{cs:List Nat}(h:cs.length<=1000):lenD [.str ⟨cs.toArray⟩]=some (.int (cs.length:Int)):=by
 have:=zOE cs
 simp[lenD,this]
 try lia
structure Twice(n:Nat)(row:List Nat):Prop where
 len:row.length=2*n
 cnt:∀v,row.count v=if v<n then 2 else 0
section
variable{n:Nat}{row:List Nat}(t:Twice n row)
include t
end
noncomputable def addB:List Int->List Int->List Int
 |a::r,b::s=>(a+b)%2::addB r s
 |_,_=>[]
noncomputable def dot:List Int->List Int->Int
 |a::r,b::x=>a*b+dot r x
 |_,_=>0
theorem zII(x:Int):Bit (x%2):=by show _%2=0\/_%2=1;lia
theorem zIP:∀(a b:List Int),a.length=b.length->(addB a b).length=a.length
 |[],[],_=>rfl
 |a::r,b::s,h=>by simp[addB,zIP r s (by simpa using h)]
 |[],_::_,h=>by simp at h
 |_::_,[],h=>by simp at h
theorem zM7:∀(a b:List Int),∀x∈addB a b,Bit x
 |[],_,x,h=>by simp[addB]at h
 |_::_,[],x,h=>by simp[addB]at h
 |a::r,b::s,x,h=>by
  rw[addB,qAk]at h
  rcases h with rfl|h
  ·exact zII _
  ·exact zM7 r s x h
theorem addB_row{m:Nat}{a b:List Int}(ha:RowN m a)(hb:RowN m b):RowN m (addB a b):=
 ⟨by rw[zIP a b (by rw[ha.1,hb.1]),ha.1],zM7 a b⟩
theorem zDH:∀(a b:List Int)(k:Nat),a.length=b.length->k<a.length->(addB a b).getD k 0=(a.getD k 0+b.getD k 0)%2
 |[],_,k,_,h=>by simp at h
 |_::_,[],k,h,_=>by simp at h
 |a::r,b::s,0,_,_=>rfl
 |a::r,b::s,k+1,h,hk=>by
  have:=zDH r s k (by simpa using h) (by simpa using hk)
  simpa[addB]using this
theorem zGH:∀(a b x:List Int),a.length=b.length->(∀y∈x,Bit y)->dot (addB a b) x%2=(dot a x+dot b x)%2
 |[],[],x,_,_=>by simp[addB,dot]
 |[],_::_,x,h,_=>by simp at h
 |_::_,[],x,h,_=>by simp at h
 |a::r,b::s,[],_,_=>by simp[addB,dot]
 |a::r,b::s,c::x,h,hx=>by
  have ih:=zGH r s x (by simpa using h) fun y hy=>hx y (by simp[hy])
  simp only[addB,dot]
  rcases hx c (by simp)with rfl|rfl<;>lia
def Ker(A:List (List Int))(x:List Int):Prop:=∀r∈A,dot r x%2=0
noncomputable def ent(A:List (List Int))(i k:Nat):Int:=(A.getD i []).getD k 0
theorem getD_mem{α:Type}{l:List α}{d:α}{i:Nat}(h:i<l.length):l.getD i d∈l:=by
 rw[qA0,qA7 h];simp
theorem zQY{α:Type}{l:List α}{d a:α}{i j:Nat}(h:i<l.length):(l.set i a).getD j d=if i=j then a else l.getD j d:=by
 simp only[qA0,qDf]
 by_cases z:i=j
 ·subst z;simp[h]
 ·simp[z]
theorem zDX{α β:Type}{l:List α}{d:α}{e:β}{g:α->β}{i:Nat}(h:i<l.length):(l.map g).getD i e=g (l.getD i d):=by
 simp[qA0,qA7 h]
theorem mem_getD{α:Type}{l:List α}{d x:α}(h:x∈l):∃i,i<l.length/\l.getD i d=x:=by
 obtain⟨i,hi,rfl⟩:=List.mem_iff_getElem.mp h;exact⟨i,hi,by simp[qA0,qA7 hi]⟩
section
variable{A:List (List Int)}{c t m:Nat}(hm:∀r∈A,RowN m r)(ht:t<A.length)(hc:c<=t)(hl:ent A t c=1)(hcm:c<m)
include hm ht in
include hm ht hc in
include ht hc in
include hm ht hc in
end
def zYR(A:List (List Int))(c:Nat):Prop:=∀i k,i<A.length->k<c->ent A i k=if i=k then 1 else 0
theorem zAF(n:Nat)(f:Nat->Int):sumN (n+1) f=sumN n f+f n:=by
 unfold sumN;rw[qC2,qB1,qFi];simp
theorem zAY{n:Nat}{f:Nat->Int}(h:∀k,k<n->f k=0):sumN n f=0:=by
 induction n with
 |zero=>rfl
 |succ n ih=>rw[zAF,ih fun k hk=>h k (by lia),h n (by lia)];rfl
theorem zHA{n:Nat}{f:Nat->Int}{j:Nat}(hj:j<n)(h:∀k,k<n->k≠j->f k=0):sumN n f=f j:=by
 induction n with
 |zero=>lia
 |succ n ih=>
  rw[zAF]
  by_cases z:j=n
  ·subst z;rw[zAY fun k hk=>h k (by lia) (by lia)];lia
  ·rw[ih (by lia) fun k hk=>h k (by lia),h n (by lia) (fun y=>z y.symm)];lia
theorem zGW(n:Nat)(f:Nat->Int):sumN (n+1) f=f 0+sumN n fun k=>f (k+1):=by
 induction n with
 |zero=>simp[sumN]
 |succ n ih=>rw[zAF,ih,zAF];lia
theorem zGG:∀(r x:List Int)(m:Nat),x.length<=m->dot r x=sumN m fun k=>r.getD k 0*x.getD k 0
 |[],x,m,_=>by rw[zAY fun k _=>by simp];rfl
 |a::r,[],m,_=>by rw[zAY fun k _=>by simp];rfl
 |a::r,b::x,0,h=>by simp at h
 |a::r,b::x,m+1,h=>by
  rw[dot,zGG r x m (by simpa using h),zGW];simp
theorem zSW{n p:Nat}{x:List Int}{v:Int}(hx:RowN n x)(hv:Bit v):RowN n (x.set p v):=
 ⟨by simp[hx.1],fun y hy=>(List.mem_or_eq_of_mem_set hy).elim (hx.2 y) fun z=>z▸hv⟩
theorem zDD{n k:Nat}{x:List Int}(hx:RowN n x):Bit (x.getD k 0):=by
 by_cases h:k<x.length
 ·exact hx.2 _ (getD_mem h)
 ·left;simp[qA0,qE3 (by lia:x.length<=k)]
noncomputable def zXS(n i:Nat):List Int:=(qA8 n).map fun j=>if j=i then 1 else 0
theorem zH0{n k:Nat}{g:Nat->Int}(h:k<n):((qA8 n).map g).getD k 0=g k:=by
 simp[qA0,h]
def aug(n:Nat)(T:List (List Int)):List (List Int):=(qA8 n).map fun i=>T.getD i []++zXS n i
structure Un(n:Nat)(T A:List (List Int))(c:Nat):Prop where
 len:A.length=n
 rows:∀r∈A,RowN (n+n) r
 unit:zYR A c
 ker:∀x,(∀y∈x,Bit y)->(Ker A x↔Ker (aug n T) x)
theorem zUX{z:Str}{l:List Nat}(h:z.cps.toList=l):z=⟨l.toArray⟩:=by
 cases z with
 |mk a=>subst h;simp
theorem add_str{a b:List Nat}(h:a.length+b.length<=1000):addD (.str ⟨a.toArray⟩) (.str ⟨b.toArray⟩)=some (.str ⟨(a++b).toArray⟩):=by
 rw[zUQ,if_pos (by rw[zOE,zOE];lia)]
 congr 2
 exact zUX (by rw[zSS])
structure Seats(R:List (List Nat))(n:Nat):Prop where
 len:R.length=n
 per:∀l∈R,l.Perm [0,1,2,3]
section
variable{R:List (List Nat)}{row:List Nat}{n:Nat}(hS:Seats R n)(tw:Twice n row)
include hS
include tw
omit hS in
omit hS in
omit hS in
omit hS in
omit hS tw in
omit hS tw in
end
section
variable{ts cs:List Nat}{n e:Nat}(hN:NetN ts (4*n))(hne:∀x,x<4*n->nt ts x≠x)(hl:cs.length=n)(hw:∀c∈cs,c<3)(he:e<4*n)
include hN hne hl hw he
variable{p:Nat}(p3:itr (stp ts cs) p e=e)(p4:∀q,1<=q->q<p->itr (stp ts cs) q e≠e)
include p3 p4
omit hN hne hl hw he p3 p4 in
end
section
variable{ts C':List Nat}{n:Nat}(hN:NetN ts (4*n))(hne:∀x,x<4*n->nt ts x≠x)(hl:C'.length=n)(hw:∀c∈C',c<3)(hn:n<=10)(n1:1<=n)
include hN hne hl hw hn n1
end
end Mp
namespace Mp
noncomputable section
open Mi PySem
def zDR:SM:=(sRet 0 0 [0,1] (eAnd (eIsi "int" (eV 0)) (eAnd (eNot (eIsi "bool" (eV 0))) (eB eqD (eV 0) (eV 1)))))
def zAT:FM:=runF 2 2 zDR
def zH7:SM:=(sSeq (sSet 2 0 [] (eC (.int 0)))
 (sSeq (sFor [0] (iRv (aCons (eV 0) aNil)) (.one 3) (sSet 2 1 [3,2,1] (eB addD (eB mulD (eV 2) (eV 1)) (eV 3))))
 (sRetV 1 2)))
def zBL:FM:=runF 2 4 zH7
def zPI:SM:=(sRet 1 1 [0,1] (eComp (iR1 (aCons (eBi lenD (aCons (eV 0) aNil)) aNil)) 1 (.one 2) Mi.tYes (eB xorD (eB ixD (eV 0) (eV 2)) (eB ixD (eV 1) (eV 2)))))
def zHY:FM:=runF 2 2 zPI
def zFD:SM:=(sSeq (sSet 2 9 [] (eLst aNil))
 (sSeq (sFor [0] (iSq (eV 0)) (.one 3) (sExt 2 1 (eComp (iSq (eV 1)) 1 (.one 4) Mi.tYes (eB addD (eV 3) (eLst (aCons (eV 4) aNil))))))
 (sRetV 9 2)))
def zC4:FM:=runF 2 4 zFD
def zDQ:SM:=(sSeq (sIf (tB (eB (cmpD fun i j=>decide (j<i)) (eV 0) (eC (.int 6)))) (sRaise0 "TooMany" (aCons (eC (.str "choices are told for at most six")) aNil)) sNil)
 (sSeq (sSet 2 10 [] (eLst (aCons (eLst aNil) aNil)))
 (sSeq (sForR (iR1 (aCons (eV 0) aNil)) 3 (sSet 2 9 [2,1] (eCallN zC4 (aCons (eV 2) (aCons (eV 1) aNil)))))
 (sRetV 9 2))))
def zBU:FM:=runF 2 4 zDQ
def zGK:SM:=(sRet 2 2 [1,0] (eComp (iSq (eV 1)) 1 (.one 2) Mi.tYes (eComp (iSq (eV 1)) 1 (.one 3) Mi.tYes (eB ixD (eB ixD (eV 0) (eV 2)) (eV 3)))))
def zDG:FM:=runF 2 2 zGK
def zED:SM:=(sSeq (sSet 2 0 [0] (eV 0))
 (sSeq (sFor [1] (iSq (eV 1)) (.one 3) (sIf (tB (eB eqD (eB ixD (eV 2) (eMl lixD (eV 3) (aCons (eC (.int 1)) aNil))) (eC (.int 1)))) (sSet 2 1 [2,3] (eCall zHY (aCons (eV 2) (aCons (eV 3) aNil)))) sNil))
 (sRetV 0 2)))
def zBE:FM:=runF 2 4 zED
def zCS:SM:=(sSeq (sSet 1 9 [] (eLst aNil))
 (sSeq (sSet 2 9 [] (eLst aNil))
 (sSeq (sFor [0] (iEn (aCons (eV 0) aNil)) (.tup [3,4]) (sSeq (sSetL 5 2 [4] (eCall zBE (aCons (eV 4) (aCons (eV 2) aNil))))
 (sIf (tB (eB (inD false) (eC (.int 1)) (eV 5))) (sSeq (sApp 1 0 (eV 3))
 (sAppF 2 [5] (eV 5))) sNil)))
 (sRetV 9 1))))
def zCL:FM:=runF 1 6 zCS
def zJX:SM:=(sRet 0 0 [0] (eB subD (eBi lenD (aCons (eV 0) aNil)) (eBi lenD (aCons (eCall zCL (aCons (eV 0) aNil)) aNil))))
def zD6:FM:=runF 1 1 zJX
def zGT:SM:=(sSeq (sSet 3 2 [1] (eComp (iR1 (aCons (eV 1) aNil)) 1 (.one 7) Mi.tYes (eB repD (eLst (aCons (eC (.int 0)) aNil)) (eV 1))))
 (sSeq (sForR (iR1 (aCons (eV 1) aNil)) 4 (sForR (iR1 (aCons (eB addD (eV 4) (eC (.int 1))) aNil)) 5 (sSeq (sSet 6 0 [0,5,4,1] (eB ixD (eV 0) (eB modD (eB addD (eB mulD (eV 4) (eV 1)) (eV 5)) (eBi lenD (aCons (eV 0) aNil)))))
 (sSeq (sSet 6 0 [6,5,4] (eB modD (eB divD (eV 6) (eB addD (eB addD (eC (.int 1)) (eB mulD (eC (.int 7)) (eV 4))) (eB mulD (eC (.int 61)) (eV 5)))) (eC (.int 2))))
 (sIf (Mi.tOr (tB (eB neD (eV 4) (eV 5))) (tM (eV 2))) (sSeq (sItem2 3 0 (eV 4) (eV 5) (eV 6))
 (sItem2 3 0 (eV 5) (eV 4) (eV 6))) sNil)))))
 (sRetV 2 3)))
def zCZ:FM:=runF 3 7 zGT
def zEI:SM:=(sSeq (sSet 0 2 [0] (eComp (iSq (eV 0)) 1 (.one 6) Mi.tYes (eBi listD (aCons (eV 6) aNil))))
 (sSeq (sSet 1 0 [] (eC (.int 0)))
 (sSeq (sForR (iR1 (aCons (eBi lenD (aCons (eV 0) aNil)) aNil)) 2 (sSeq (sSet 3 1 [5,0,2] (eComp (iEn (aCons (eV 0) aNil)) 2 (.tup [6,7]) (tB (eB eqD (eB ixD (eV 7) (eV 2)) (eC (.int 1)))) (eV 6)))
 (sIf (tB (eB eqD (eBi lenD (aCons (eV 3) aNil)) (eC (.int 0)))) (sSet 1 1 [1] (eB addD (eV 1) (eC (.int 1)))) (sSeq (sPop 4 0 (eB ixD (eV 3) (eC (.int 0))))
 (sForR (iR1 (aCons (eBi lenD (aCons (eV 0) aNil)) aNil)) 5 (sIf (tB (eB eqD (eB ixD (eB ixD (eV 0) (eV 5)) (eV 2)) (eC (.int 1)))) (sItem 0 1 (eV 5) (eComp (iZi (aCons (eB ixD (eV 0) (eV 5)) (aCons (eV 4) aNil))) 2 (.tup [6,7]) Mi.tYes (eB modD (eB addD (eV 6) (eV 7)) (eC (.int 2))))) sNil))))))
 (sRetV 1 1))))
def zDF:FM:=runF 1 6 zEI
def zDJ:SM:=(sRet 1 1 [0] (eComp (iR1 (aCons (eBi lenD (aCons (eV 0) aNil)) aNil)) 1 (.one 1) (tB (eB neD (eB ixD (eV 0) (eV 1)) (eC (.int 0)))) (eV 1)))
def zBF:FM:=runF 1 1 zDJ
def zEW:SM:=(sSeq (sSet 2 1 [1] (eCall zBF (aCons (eV 1) aNil)))
 (sSeq (sSet 3 2 [0,2] (eCall zDG (aCons (eV 0) (aCons (eV 2) aNil))))
 (sSeq (sFor [2] (iEn (aCons (eV 2) aNil)) (.tup [4,5]) (sItem2 3 0 (eV 4) (eV 4) (eIf (tB (eB eqD (eB ixD (eV 1) (eV 5)) (eC (.int 1)))) (eC (.int 1)) (eC (.int 0)))))
 (sRetV 2 3))))
def zBT:FM:=runF 2 6 zEW
def zF8:SM:=(sSeq (sSet 2 9 [1,0] (eCall zBU (aCons (eBi lenD (aCons (eV 0) aNil)) (aCons (eV 1) aNil))))
 (sSeq (sSet 3 1 [2,0] (eComp (iSq (eV 2)) 1 (.one 4) Mi.tYes (eCallN zD6 (aCons (eCallN zBT (aCons (eV 0) (aCons (eV 4) aNil))) aNil))))
 (sRet 1 1 [3] (eComp (iR1 (aCons (eB addD (eBi maxL (aCons (eV 3) aNil)) (eC (.int 1))) aNil)) 1 (.one 4) Mi.tYes (eMl lcoD (eV 3) (aCons (eV 4) aNil))))))
def zB9:FM:=runF 2 4 zF8
def zFH:SM:=(sRet 1 1 [0] (eCall zB9 (aCons (eV 0) (aCons (eC (.scr [0,2])) aNil))))
def zC6:FM:=runF 1 1 zFH
def zGS:SM:=(sRet 1 1 [0] (eCall zB9 (aCons (eV 0) (aCons (eC (.scr [0,1,2])) aNil))))
def zCY:FM:=runF 1 1 zGS
def zPG:SM:=(sSeq (sSet 2 0 [1,0] (eB modD (eV 1) (eBi lenD (aCons (eV 0) aNil))))
 (sRet 1 1 [0,2] (eB addD (eSl (eV 0) (oE (eV 2)) oNo) (eSl (eV 0) oNo (oE (eV 2))))))
def zOA:FM:=runF 2 3 zPG
def zIN:SM:=(sRet 0 0 [1] (eB revD (eV 1) (eU negD (eC (.int 1)))))
def m_Mirror_done:FM:=runF 2 2 zIN
def zK2:SM:=(sRet 0 0 [1,0] (eCallN zOA (aCons (eV 1) (aCons (eFld ["Shift"] "by" (eV 0)) aNil))))
def m_Shift_done:FM:=runF 2 2 zK2
def zIJ:SM:=(sSeq (sIf (Mi.tOr (tB (eB neD (eBi lenD (aCons (eV 1) aNil)) (eC (.int 1)))) (tB (eB (inD true) (eV 1) (eV 0)))) (zRM "NoLetter" "letter" (aCons (eV 1) aNil)) sNil)
 (sRet 0 0 [1,0] (eMt zWS (eV 0) (aCons (eV 1) aNil))))
def zHX:FM:=runF 2 2 zIJ
def zKX:SM:=(sRet 1 1 [0,1] (eTup (aCons (eCall zHX (aCons (eV 0) (aCons (eV 1) aNil))) (aCons (eMt zV5 (eV 0) (aCons (eV 1) aNil)) aNil))))
def zDE:FM:=runF 2 2 zKX
def zL1:SM:=(sSeq (sSet 2 1 [1,0] (eCall zDE (aCons (eV 1) (aCons (eFld ["Turn"] "letter" (eV 0)) aNil))))
 (sSeq (sSet 3 1 [2] (eB addD (eB ixD (eV 2) (eC (.int 0))) (eC (.int 1))))
 (sRet 0 0 [1,3,2] (eB addD (eB addD (eSl (eV 1) oNo (oE (eV 3))) (eB revD (eSl (eV 1) (oE (eV 3)) (oE (eB ixD (eV 2) (eC (.int 1))))) (eU negD (eC (.int 1))))) (eSl (eV 1) (oE (eB ixD (eV 2) (eC (.int 1)))) oNo)))))
def m_Turn_done:FM:=runF 2 4 zL1
def zMX:SM:=(sSeq (sSet 3 1 [0,1] (eCall zDE (aCons (eV 0) (aCons (eV 1) aNil))))
 (sRet 0 0 [2,0,3] (eB eqD (eMt zS9 (eSl (eV 0) (oE (eB addD (eB ixD (eV 3) (eC (.int 0))) (eC (.int 1)))) (oE (eB ixD (eV 3) (eC (.int 1))))) (aCons (eV 2) aNil)) (eC (.int 1)))))
def zMK:FM:=runF 3 4 zMX
def zKY:SM:=(sSeq (sSet 2 1 [0,1] (eSl (eV 0) (oE (eB addD (eB ixD (eV 1) (eC (.int 0))) (eC (.int 1)))) (oE (eB ixD (eV 1) (eC (.int 1))))))
 (sSeq (sSet 3 1 [0,1] (eSl (eV 0) (oE (eB ixD (eV 1) (eC (.int 1)))) (oE (eB addD (eB ixD (eV 1) (eC (.int 2))) (eC (.int 1))))))
 (sSeq (sSet 4 1 [0,1] (eSl (eV 0) (oE (eB addD (eB ixD (eV 1) (eC (.int 2))) (eC (.int 1)))) (oE (eB ixD (eV 1) (eC (.int 3))))))
 (sRet 1 1 [2,0,3,4,1] (eB addD (eB addD (eB addD (eB addD (eSl (eV 0) oNo (oE (eB addD (eB ixD (eV 1) (eC (.int 0))) (eC (.int 1))))) (eV 4)) (eV 3)) (eV 2)) (eSl (eV 0) (oE (eB ixD (eV 1) (eC (.int 3)))) oNo))))))
def zKK:FM:=runF 2 5 zKY
def zL3:SM:=(sSeq (sSet 2 1 [1,0] (eB sadD (eCall zDE (aCons (eV 1) (aCons (eFld ["Swap"] "one" (eV 0)) aNil))) (eCall zDE (aCons (eV 1) (aCons (eFld ["Swap"] "other" (eV 0)) aNil)))))
 (sSeq (sIf (tNo (tM (eCall zMK (aCons (eV 1) (aCons (eFld ["Swap"] "one" (eV 0)) (aCons (eFld ["Swap"] "other" (eV 0)) aNil)))))) (sRaise0 "NoCross" (aCons (eC (.str "the letters do not cross in the word")) aNil)) sNil)
 (sRet 0 0 [1,2] (eCallN zKK (aCons (eV 1) (aCons (eV 2) aNil))))))
def m_Swap_done:FM:=runF 2 3 zL3
def zIM:SM:=(sSeq (sSet 2 0 [0,1] (eB ixD (eLst (aCons (eTup (aCons (eC (.int 1)) (aCons (eC (.int 0)) (aCons (eC (.int 3)) (aCons (eC (.int 2)) aNil))))) (aCons (eTup (aCons (eC (.int 2)) (aCons (eC (.int 3)) (aCons (eC (.int 0)) (aCons (eC (.int 1)) aNil))))) (aCons (eTup (aCons (eC (.int 3)) (aCons (eC (.int 2)) (aCons (eC (.int 1)) (aCons (eC (.int 0)) aNil))))) aNil)))) (eB ixD (eV 0) (eB divD (eV 1) (eC (.int 4))))))
 (sRet 1 1 [1,2] (eB addD (eB subD (eV 1) (eB modD (eV 1) (eC (.int 4)))) (eB ixD (eV 2) (eB modD (eV 1) (eC (.int 4)))))))
def zHZ:FM:=runF 2 3 zIM
def zJZ:SM:=(sSeq (sSet 3 9 [] (eLst aNil))
 (sSeq (sSet 4 0 [2] (eV 2))
 (sSeq (zRL (Mi.tOr (tB (eB eqD (eV 3) (eLst aNil))) (tB (eB neD (eV 4) (eV 2)))) (sSeq (sApp 3 0 (eV 4))
 (sSeq (sApp 3 1 (eCall zHZ (aCons (eV 1) (aCons (eV 4) aNil))))
 (sSet 4 0 [0,3] (eB ixD (eV 0) (eB ixD (eV 3) (eU negD (eC (.int 1)))))))))
 (sRetV 9 3))))
def zJF:FM:=runF 3 5 zJZ
def zIL:SM:=(sSeq (sSet 2 1 [] zWV)
 (sSeq (sSet 3 9 [] (eLst aNil))
 (sSeq (sForR (iR1 (aCons (eBi lenD (aCons (eV 0) aNil)) aNil)) 4 (sIf (tB (eB (dinD true) (eV 4) (eV 2))) (sSeq (sSet 5 9 [0,1,4] (eCall zJF (aCons (eV 0) (aCons (eV 1) (aCons (eV 4) aNil)))))
 (sSeq (sFor [5] (iSq (eV 5)) (.one 6) (zY4 2 (eV 6) (eC (.bl true))))
 (sAppF 3 [5] (eV 5)))) sNil))
 (sRetV 1 3))))
def m__law_rounds:FM:=runF 2 7 zIL
def zR8:SM:=(sRet 0 0 [1,0] (eB xorD (eV 1) (eB addD (eV 0) (eC (.int 1)))))
def zQP:FM:=runF 2 2 zR8
def zJY:SM:=(sSeq (sSet 2 0 [1] (eB divD (eV 1) (eC (.int 4))))
 (sRet 1 1 [2,0,1] (eB addD (eB mulD (eV 2) (eC (.int 4))) (eCall zQP (aCons (eB ixD (eV 0) (eV 2)) (aCons (eB modD (eV 1) (eC (.int 4))) aNil))))))
def zFB:FM:=runF 2 3 zJY
def zMW:SM:=(sSeq (sSet 3 1 [2,1] (eLst (aCons (eV 2) (aCons (eCall zFB (aCons (eV 1) (aCons (eV 2) aNil))) aNil))))
 (sSeq (zRL (tB (eB neD (eB ixD (eV 0) (eB ixD (eV 3) (eU negD (eC (.int 1))))) (eV 2))) (sSeq (sSet 4 0 [0,3] (eB ixD (eV 0) (eB ixD (eV 3) (eU negD (eC (.int 1))))))
 (sExt 3 0 (eLst (aCons (eV 4) (aCons (eCall zFB (aCons (eV 1) (aCons (eV 4) aNil))) aNil))))))
 (sRetV 1 3)))
def zMJ:FM:=runF 3 5 zMW
def zKW:SM:=(sSeq (sSet 2 9 [] (eLst aNil))
 (sSeq (sSet 3 1 [] zWV)
 (sSeq (sForR (iR1 (aCons (eBi lenD (aCons (eV 0) aNil)) aNil)) 4 (sIf (tB (eB (dinD true) (eV 4) (eV 3))) (sSeq (sSet 5 1 [0,1,4] (eCall zMJ (aCons (eV 0) (aCons (eV 1) (aCons (eV 4) aNil)))))
 (sSeq (sAppF 2 [5] (eV 5))
 (zY2 3 (eComp (iSq (eV 5)) 1 (.one 6) Mi.tYes (eTup (aCons (eV 6) (aCons (eC (.bl true)) aNil))))))) sNil))
 (sRetV 1 2))))
def m_rounds_of:FM:=runF 2 6 zKW
def zIO:SM:=(sRet 0 0 [] (zWU "Mirror"))
def m_Mirror_back:FM:=runF 1 1 zIO
def zK3:SM:=(sRet 0 0 [0] (eNew "Shift" ["by"] (aCons (eU negD (eFld ["Shift"] "by" (eV 0))) aNil)))
def m_Shift_back:FM:=runF 1 1 zK3
def zL4:SM:=(sRet 0 0 [0] (eNew "Swap" ["one","other"] (aCons (eFld ["Swap"] "one" (eV 0)) (aCons (eFld ["Swap"] "other" (eV 0)) aNil))))
def m_Swap_back:FM:=runF 1 1 zL4
def zL2:SM:=(sRet 0 0 [0] (eNew "Turn" ["letter"] (aCons (eFld ["Turn"] "letter" (eV 0)) aNil)))
def m_Turn_back:FM:=runF 1 1 zL2
def zIK:SM:=(sSeq (sIf (tM (eIsO ["Turn"] ["Change","Swap","Mirror","Shift"] (eV 0))) (sRet 1 1 [0] (eTup (aCons (eC (.str "turn")) (aCons (eFld ["Turn"] "letter" (eV 0)) aNil)))) sNil)
 (sSeq (sIf (tM (eIsO ["Swap"] ["Change","Turn","Mirror","Shift"] (eV 0))) (sRet 1 1 [0] (eTup (aCons (eC (.str "swap")) (aCons (eFld ["Swap"] "one" (eV 0)) (aCons (eFld ["Swap"] "other" (eV 0)) aNil))))) sNil)
 (sSeq (sIf (tM (eIsO ["Mirror"] ["Change","Turn","Swap","Shift"] (eV 0))) (sRet 1 1 [] (eTup (aCons (eC (.str "mirror")) aNil))) sNil)
 (sSeq (sIf (tM (eIsO ["Shift"] ["Change","Turn","Swap","Mirror"] (eV 0))) (sRet 1 1 [0] (eTup (aCons (eC (.str "shift")) (aCons (eFld ["Shift"] "by" (eV 0)) aNil)))) sNil)
 (sRet 1 1 [] (eTup (aCons (eC (.str "none")) aNil)))))))
def m__law_values:FM:=runF 1 1 zIK
def zGL:SM:=(sSeq (sSet 2 9 [] (eLst aNil))
 (sSeq (sForR (iR1 (aCons (eBi maxD (aCons (eV 1) (aCons (eBi minD (aCons (eC (.int 63)) (aCons (eBi lenD (aCons (eV 0) aNil)) aNil))) aNil))) aNil)) 3 (sSeq (sSet 4 1 [3] (eB addD (eB mulD (eC (.int 7)) (eV 3)) (eC (.int 3))))
 (sSeq (sIf (tB (eB (cmpD fun i j=>decide (j<i)) (eBi lenD (aCons (eV 0) aNil)) (eC (.int 0)))) (sSet 4 0 [0,3] (eB modD (eB ixD (eV 0) (eB modD (eV 3) (eBi lenD (aCons (eV 0) aNil)))) (eC (.int 1000003)))) sNil)
 (sSeq (sSet 5 0 [4,3] (eB modD (eB mulD (eB modD (eB addD (eB mulD (eB addD (eV 4) (eC (.int 1))) (eC (.int 48271))) (eB mulD (eB mulD (eV 3) (eV 3)) (eC (.int 7919)))) (eC (.int 1000000007))) (eC (.int 40692))) (eC (.int 2147483399))))
 (sApp 2 1 (eB addD (eB mulD (eV 5) (eC (.int 2147483647))) (eB modD (eB addD (eB mulD (eV 5) (eC (.int 69621))) (eV 3)) (eC (.int 2147483647)))))))))
 (sRetV 9 2)))
def zBV:FM:=runF 2 6 zGL
def zK1:SM:=(sSeq (sIf (Mi.tOr (tB (eB eqD (eBi lenD (aCons (eV 0) aNil)) (eC (.int 0)))) (tB (eB eqD (eB modD (eB ixD (eV 0) (eC (.int 0))) (eC (.int 2))) (eC (.int 0))))) (sRet 1 9 [0,1] (eCall zBV (aCons (eV 0) (aCons (eV 1) aNil)))) sNil)
 (sSeq (sSet 2 1 [0] (eComp (iSq (eSlZ (eV 0) oNo (oE (eC (.int 63))))) 1 (.one 3) Mi.tYes (eB modD (eV 3) (eB powD (eC (.int 10)) (eC (.int 60))))))
 (sRet 1 1 [2,1] (eB addD (eV 2) (eB repD (eLst (aCons (eC (.int 0)) aNil)) (eB subD (eV 1) (eBi lenD (aCons (eV 2) aNil))))))))
def zDN:FM:=runF 2 3 zK1
def zFI:SM:=(sSeq (sSet 3 2 [1] (eComp (iR1 (aCons (eV 1) aNil)) 1 (.one 6) Mi.tYes (eB repD (eLst (aCons (eC (.int 0)) aNil)) (eV 1))))
 (sSeq (sForR (iR1 (aCons (eV 1) aNil)) 4 (sForR (iR1 (aCons (eB addD (eV 4) (eC (.int 1))) aNil)) 5 (sIf (Mi.tOr (tB (eB neD (eV 4) (eV 5))) (tM (eV 2))) (sSeq (sItem2 3 0 (eV 4) (eV 5) (eB modD (eV 0) (eC (.int 2))))
 (sSeq (sItem2 3 0 (eV 5) (eV 4) (eB modD (eV 0) (eC (.int 2))))
 (sSet 0 0 [0] (eB divD (eV 0) (eC (.int 2)))))) sNil)))
 (sRetV 2 3)))
def zBG:FM:=runF 3 6 zFI
def zL0:SM:=(sSeq (sFor [1] (iSq (eV 1)) (.one 2) (sIf (tB (eB eqD (eB modD (eBi sumD (aCons (eComp (iSq (eV 1)) 1 (.one 3) (tB (eB neD (eV 3) (eV 2))) (eB ixD (eB ixD (eV 0) (eV 2)) (eV 3))) aNil)) (eC (.int 2))) (eC (.int 1)))) (sRet 0 0 [] (eC (.bl false))) sNil))
 (sRet 0 0 [] (eC (.bl true))))
def zCN:FM:=runF 2 3 zL0
def zK0:SM:=(sSeq (sSet 2 0 [] (eC (.int 1)))
 (sSeq (sForR (iR1 (aCons (eV 1) aNil)) 3 (sSet 2 0 [2,0] (eB mulD (eV 2) (eV 0))))
 (sRetV 0 2)))
def zBM:FM:=runF 2 4 zK0
def zKZ:SM:=(sSeq (sSet 1 10 [] (eLst (aCons (eLst aNil) aNil)))
 (sSeq (sForR (iR1 (aCons (eV 0) aNil)) 2 (sSet 1 1 [1,2] (eB addD (eV 1) (eComp (iSq (eV 1)) 1 (.one 3) Mi.tYes (eB addD (eV 3) (eLst (aCons (eV 2) aNil)))))))
 (sRetV 1 1)))
def zCM:FM:=runF 1 3 zKZ
def zPH:SM:=(sSeq (sSet 1 1 [0] (eCall zDN (aCons (eV 0) (aCons (eC (.int 24)) aNil))))
 (sSeq (sSet 2 1 [1] (eB addD (eC (.int 1)) (eB modD (eB divD (eB ixD (eV 1) (eC (.int 0))) (eC (.int 2))) (eC (.int 6)))))
 (sSeq (sSet 3 2 [2,1] (eCall zCZ (aCons (eSl (eV 1) (oE (eC (.int 1))) oNo) (aCons (eV 2) (aCons (eC (.bl true)) aNil)))))
 (sSeq (sIf (tAn (tB (eB (cmpD fun i j=>decide (j<i)) (eBi lenD (aCons (eV 0) aNil)) (eC (.int 0)))) (tB (eB eqD (eB modD (eB ixD (eV 0) (eC (.int 0))) (eC (.int 2))) (eC (.int 1))))) (sSet 3 2 [2,1] (eCall zBG (aCons (eB ixD (eV 1) (eC (.int 1))) (aCons (eV 2) (aCons (eC (.bl true)) aNil))))) sNil)
 (sSeq (sSet 4 0 [2,3] (eBi lenD (aCons (eComp (iSq (eCall zCM (aCons (eV 2) aNil))) 1 (.one 10) (tM (eCall zCN (aCons (eV 3) (aCons (eV 10) aNil)))) (eV 10)) aNil)))
 (sSeq (sSet 5 2 [3] (eComp (iSq (eV 3)) 1 (.one 10) Mi.tYes (eBi listD (aCons (eV 10) aNil))))
 (sSeq (sForR (iR1 (aCons (eV 2) aNil)) 6 (sItem2 5 0 (eV 6) (eV 6) (eC (.int 1))))
 (sSeq (sSet 7 1 [3] (eCall zCY (aCons (eV 3) aNil)))
 (sSeq (sSet 8 1 [3] (eCall zC6 (aCons (eV 3) aNil)))
 (sSeq (sSet 9 0 [5,2] (eB mulD (eCall zBM (aCons (eU negD (eC (.int 2))) (aCons (eCall zDF (aCons (eV 5) aNil)) aNil))) (eB subD (eC (.int 1)) (eB mulD (eC (.int 2)) (eB modD (eV 2) (eC (.int 2)))))))
 (sSeq (sIf (Mi.tOr (tNo (tM (eCall zAT (aCons (eCall zBL (aCons (eV 7) (aCons (eC (.int 1)) aNil))) (aCons (eCall zBM (aCons (eC (.int 3)) (aCons (eV 2) aNil))) aNil))))) (tNo (tM (eCall zAT (aCons (eCall zBL (aCons (eV 7) (aCons (eU negD (eC (.int 2))) aNil))) (aCons (eC (.int 0)) aNil)))))) (sRet 0 0 [] (eC (.bl false))) sNil)
 (sSeq (sIf (tNo (tM (eCall zAT (aCons (eCall zBL (aCons (eV 7) (aCons (eC (.int 2)) aNil))) (aCons (eB mulD (eCall zBM (aCons (eC (.int 2)) (aCons (eV 2) aNil))) (eV 4)) aNil))))) (sRet 0 0 [] (eC (.bl false))) sNil)
 (sRet 0 0 [9,8,2] (eAnd (eCall zAT (aCons (eCall zBL (aCons (eV 8) (aCons (eC (.int 1)) aNil))) (aCons (eCall zBM (aCons (eC (.int 2)) (aCons (eV 2) aNil))) aNil))) (eCall zAT (aCons (eCall zBL (aCons (eV 8) (aCons (eU negD (eC (.int 2))) aNil))) (aCons (eV 9) aNil)))))))))))))))))
def zJE:FM:=runF 1 10 zPH
end
noncomputable def ords(row:List Nat):List Nat:=row.foldl (fun o p=>if p∈o then o else o++[p]) []
noncomputable def sh(s:Nat)(cs:List Nat):List Nat:=cs.drop s++cs.take s
def wr(cs:List Nat):List Nat:=cs.map fun c=>97+(ords cs).idxOf c
end Mp
namespace Mp
open Mi PySem
noncomputable def numL(ks:List Nat):List Int:=ks.map fun k:Nat=>(k:Int)
theorem numD(ks:List Nat):rowD (numL ks)=.lst (ks.map fun k:Nat=>Dt.int (k:Int)):=by
 unfold rowD numL;rw[qAp];rfl
theorem zJC{α:Type}(ks:List Nat)(g:Nat->α):ks.map g=(qA8 ks.length).map fun a=>g (ks.getD a 0):=by
 apply qCw
 ·simp
 ·intro i h1 h2;simp at h1;simp[h1]
theorem zOR{ks:List Nat}{n a:Nat}(hk:∀k∈ks,k<n)(ha:a<ks.length):ks.getD a 0<n:=by
 refine hk _ ?_;rw[qA0,qA7 ha];simp
noncomputable def sub(ks:List Nat)(f:Nat->Nat->Int):Nat->Nat->Int:=fun a b=>f (ks.getD a 0) (ks.getD b 0)
theorem zQF(n:Nat)(f:Nat->Nat->Int)(ks:List Nat)(hk:∀k∈ks,k<n)(hz:ks.length<=1000):zDG [mat (tab n f),rowD (numL ks)]=okR (mat (tab ks.length (sub ks f))):=by
 have hm:mat (tab ks.length (sub ks f))=.lst (ks.map fun i=>rowD (ks.map fun j=>f i j)):=by
  rw[zTL,zJC ks fun i=>rowD (ks.map fun j=>f i j)]
  congr 1
  refine qAy fun a ha=>?_
  rw[zJC ks fun j=>f (ks.getD a 0) j];rfl
 unfold zDG zGK;have hc:eComp (iSq (eV 1)) 1 (.one 2) Mi.tYes (eComp (iSq (eV 1)) 1 (.one 3) Mi.tYes (eB ixD (eB ixD (eV 0) (eV 2)) (eV 3))) [some (mat (tab n f)),some (rowD (numL ks))]=okR (mat (tab ks.length (sub ks f))):=by
  rw[hm];refine zBN (fun k:Nat=>Dt.int (k:Int)) _ ks rfl rfl (fun i hi=>?_) _ (by simp[numD]) (by lia);have h2:=zBN (ρ:=[some (mat (tab n f)),some (rowD (numL ks))]++[some (Dt.int (i:Int))]) (c:=tYes) (i:=3) (e:=eB ixD (eB ixD (eV 0) (eV 2)) (eV 3)) (fun k:Nat=>Dt.int (k:Int)) (fun j=>Dt.int (f i j)) ks rfl rfl (fun j hj=>by
   have e1:=ixM (f:=f) (hk i hi);have e2:=ixR (g:=fun j=>f i j) (hk j hj);simp[e1,e2]) (iSq (eV 1)) (by simp[numD]) (by lia)
  rw[h2];unfold rowD;rw[qAp];rfl
 have hd:=zC8 (tab ks.length (sub ks f));simp[hc,hd]
theorem zEG(l:List Int):intsD (l.map Dt.int)=some l:=by
 induction l with
 |nil=>rfl
 |cons a r ih=>simp[intsD,ih]
def rowsD(R:List (List Nat)):Dt:=.lst (R.map fun l=>rowD (numL l))
theorem zND{r:Ro}{i n:Nat}{vs:List Nat}{e:EM}{d:Dt}{P:Ro->Prop}(h1:e (full r)=okR d)(h2:e (frz (frzAt vs r))=okR d)(p1:P (r.set i (some (d,n))))(p2:P ((frzAt vs r).set i (some (d,n)))):nxR (sSet i n vs e r) P:=by
 unfold sSet;rw[h1,bindR_ok]
 split
 ·exact p1
 ·rw[h2,bindR_ok];exact p2
theorem zBY{ρ:Rh}{c:TM}{e:EM}{i:Nat}{β:Type}(en:β->Dt)(g:β->Dt)(f:β->Bool)(ns:List β)(hi:i=ρ.length)(hc:∀k,k∈ns->c (ρ++[some (en k)])=okR (f k))(h:∀k,k∈ns->f k=true->e (ρ++[some (en k)])=okR (g k))(it:IM)(hit:it ρ=okR (ns.map en))(hn:ns.length<=100000):eComp it 1 (.one i) c e ρ=okR (.lst ((ns.filter f).map g)):=by
 subst hi;unfold eComp;rw[hit,bindR_ok,if_pos ⟨by simpa using hn,by simp[Tg.idx]⟩];have go:∀(l:List β)(acc:List Dt),(∀k∈l,k∈ns)->compGo ρ 1 (.one ρ.length) c e (l.map en) acc=okR (acc++(l.filter f).map g):=by
  intro l
  induction l with
  |nil=>intro acc _;simp[compGo]
  |cons a r ih=>
   intro acc hl;have h1:=hc a (hl a (by simp));have h2:=h a (hl a (by simp));have ih':=fun acc=>ih acc fun k hk=>hl k (by simp[hk])
   have es:zAM (ρ++qA2 1 none) [(ρ.length,en a)]=ρ++[some (en a)]:=by
    simp[zAM]
   rw[qAg,compGo];show zA2 (c (zAM (ρ++qA2 1 none) [(ρ.length,en a)])) _=_;rw[es,h1,bindR_ok];cases hf:f a with
   |true=>
    rw[if_pos rfl];rw[h2 hf,bindR_ok,ih',qBv hf];simp
   |false=>
    rw[if_neg (by simp),ih',qBw (by simp[hf])]
 rw[go _ _ fun k hk=>hk,bindR_ok];simp
theorem zFY{n:Nat}{a:List Int}(h:a.length=n):a=(qA8 n).map fun j=>a.getD j 0:=by
 apply qCw
 ·simp[h]
 ·intro i h1 h2;simp[qA0,qA7 h1]
theorem zMY{n:Nat}{a b:List Int}(h:a.length=n)(h':b.length=n):addB a b=(qA8 n).map fun j=>(a.getD j 0+b.getD j 0)%2:=by
 rw[zFY (n:=n) (a:=addB a b) (by rw[zIP a b (by lia),h])];exact qAy fun j hj=>zDH a b j (by lia) (by simp at hj;lia)
theorem addM(A B:List (List Int))(h:A.length+B.length<=100000):addD (mat A) (mat B)=some (mat (A++B)):=by
 show(@ite _ ((A.map rowD).length+(B.map rowD).length<=100000) (qA3 _) (some (Dt.lst (A.map rowD++B.map rowD))) none)=_
 rw[if_pos (by simpa using h)];unfold mat;simp
def eiR(x:R Out)(P:Ro->Prop)(Q:Dt->Prop):Prop:=(∃r,x=okR (.nx r)/\P r)\/∃d,x=okR (.rt d)/\Q d
theorem zMP{x:R Out}{P:Ro->Prop}{Q:Dt->Prop}(h:nxR x P):eiR x P Q:=.inl (zBI h)
theorem zGY{a b:SM}{r:Ro}{P P':Ro->Prop}{Q:Dt->Prop}(h:eiR (a r) P Q)(hb:∀r',P r'->eiR (b r') P' Q):eiR (sSeq a b r) P' Q:=by
 unfold sSeq
 rcases h with⟨r',e,h'⟩|⟨d,e,hq⟩
 ·rw[e,bindR_ok];exact hb r' h'
 ·rw[e,bindR_ok];exact .inr ⟨d,rfl,hq⟩
theorem zPK{n:Nat}{a b:List Int}(h:RowN n a)(h':RowN n b)(hn:n<=1000):zHY [rowD a,rowD b]=okR (rowD (addB a b)):=by
 rw[zMY h.1 h'.1];unfold zHY zPI;have hc:eComp (iR1 (aCons (eBi lenD (aCons (eV 0) aNil)) aNil)) 1 (.one 2) Mi.tYes (eB xorD (eB ixD (eV 0) (eV 2)) (eB ixD (eV 1) (eV 2))) [some (rowD a),some (rowD b)]=okR (rowD ((qA8 n).map fun j=>(a.getD j 0+b.getD j 0)%2)):=by
  refine zM3 _ rfl (by lia) (zE3 (by simp[-qA0,h.1]) (by lia)) fun j hj=>?_
  have i1:=zI3 a j (by rw[h.1];exact hj);have i2:=zI3 b j (by rw[h'.1];exact hj);simp[-qA0,i1,i2,zSJ (zDD (k:=j) h) (zDD (k:=j) h')]
 simp[hc]
@[simp] theorem x_eNew0(c:Str)(ρ:Rh):zWU c ρ=okR (.ins c []):=rfl
@[simp] theorem x_eNew(c:Str)(fl:List Str)(am:AM)(ρ:Rh):eNew c fl am ρ=zA2 (am ρ) fun ds=>match svsD ds with
 |some vs=>if vs.length=fl.length then okR (.ins c (fl.zip vs))else none
 |none=>none:=rfl
@[simp] theorem x_eFld(hs:List Str)(f:Str)(e:EM)(ρ:Rh):eFld hs f e ρ=zA2 (e ρ) fun d=>match d with
 |.ins c fs=>if c∈hs then(match fs.lookup f with|some v=>okR (dSv v)|none=>none)else none
 |_=>none:=rfl
@[simp] theorem x_eMeth(tb:List (Str×FM))(m:Str)(e:EM)(am:AM)(ρ:Rh):zYO tb m e am ρ=zA2 (e ρ) fun d=>match d with
 |.ins c fs=>match tb.lookup c with
  |some g=>match fs.lookup m with
   |none=>zA2 (am ρ) fun ds=>g (d::ds)
   |some _=>none
  |none=>none
 |_=>none:=rfl
@[simp] theorem x_eIsO(ys ns:List Str)(e:EM)(ρ:Rh):eIsO ys ns e ρ=zA2 (e ρ) fun d=>match d with
 |.ins c _=>if c∈ys then okR (.bl true)else if c∈ns then okR (.bl false)else none
 |_=>none:=rfl
@[simp] theorem v_dins(c:Str)(fs:List (Str×Sv)):(Dt.ins c fs).dep=1000:=rfl
theorem len1(x:Nat):lenD [sgn x]=some (.int 1):=zQQ (cs:=[x]) (by simp)
theorem zLX{l:List Nat}{c:Nat}(h:c∈l):l.getD (l.idxOf c) 0=c:=by
 have hl:=qBl h;rw[qA0,qA7 hl];exact List.getElem_idxOf hl
theorem zI5{l:List Nat}(hn:l.Nodup){v:Nat}(h:v<l.length):l.idxOf (l.getD v 0)=v:=by
 rw[qA0,qA7 h];exact hn.idxOf_getElem v h
def rowW(cs:List Nat):List Nat:=cs.map fun c=>(ords cs).idxOf c
section
variable{n:Nat}{row:List Nat}(t:Twice n row)
include t
end
def fm(cs:List Nat)(s:Nat)(b:Bool):List Nat:=if b=true then(sh s cs).reverse else sh s cs
theorem zEN{r:Ro}{i m n:Nat}{l:Nat}{f:Nat->Nat->Int}(a b:Nat){v:Int}{e0 e1 e2:EM}{P:Ro->Prop}(h:r[i]?=some (some (mat (tab n f),l+2)))(h0:e0 (full r)=okR (.int (a:Nat)))(h1:e1 (full r)=okR (.int (b:Nat)))(h2:e2 (full r)=okR (.int v))(ha:a<n)(hb:b<n)
  (hP:∀g,g=(fun x y=>if x=a/\y=b then v else f x y)->P (r.set i (some (mat (tab n g),l+2)))):nxR (sItem2 i m e0 e1 e2 r) P:=
 zBK (zJH h h0 h1 h2 ha hb) (hP _ rfl)
theorem zES{n:Nat}{g:Nat->Int}{x:List Int}(hx:x.length=n):dot ((qA8 n).map g) x=sumN n fun k=>g k*x.getD k 0:=by
 rw[zGG _ x n (by lia)];unfold sumN
 congr 1
 refine qAy fun k hk=>?_
 rw[zH0 (by simpa using hk)]
theorem zAL{n:Nat}{f g:Nat->Int}(h:∀k,k<n->f k=g k):sumN n f=sumN n g:=by
 unfold sumN
 congr 1
 exact qAy fun k hk=>h k (by simpa using hk)
theorem zH9{n i:Nat}{f g:Nat->Int}(hi:i<n)(h:∀k,k<n->k≠i->f k=g k):sumN n f=sumN n g+(f i-g i):=by
 induction n with
 |zero=>lia
 |succ n ih=>
  rw[zAF,zAF]
  by_cases z:i=n
  ·subst z;rw[zAL fun k hk=>h k (by lia) (by lia)];lia
  ·rw[ih (by lia) fun k hk=>h k (by lia),h n (by lia) (fun y=>z y.symm)];lia
theorem zN8{n:Nat}{f g h:Nat->Int}(e:∀k,k<n->f k%2=(g k+h k)%2):sumN n f%2=(sumN n g+sumN n h)%2:=by
 induction n with
 |zero=>rfl
 |succ n ih=>
  rw[zAF,zAF,zAF];have h1:=ih fun k hk=>e k (by lia)
  have h2:=e n (by lia)
  lia
noncomputable def allv:Nat->List (List Int)
 |0=>[[]]
 |n+1=>(allv n).map (qGv 0)++(allv n).map (qGv 1)
theorem zM6:∀n,(allv n).length=2 ^ n
 |0=>rfl
 |n+1=>by simp[allv,zM6 n];lia
theorem zEM{α β:Type}{l:List α}{f:α->β}(h:l.Nodup)(hi:∀x∈l,∀y∈l,f x=f y->x=y):(l.map f).Nodup:=by
 unfold List.Nodup;rw[List.pairwise_map];exact qGd (fun{a b} ha hb hab z=>hab (hi a ha b hb z)) h
theorem zF9:∀n,(allv n).Nodup
 |0=>by simp[allv]
 |n+1=>by
  have ih:=zF9 n;rw[allv,List.nodup_append];refine⟨zEM ih fun x _ y _ h=>by simpa using h,zEM ih fun x _ y _ h=>by simpa using h,fun a ha b hb=>?_⟩;obtain⟨x,_,rfl⟩:=qAf.mp ha;obtain⟨y,_,rfl⟩:=qAf.mp hb;simp
theorem allv_mem:∀{n:Nat}{x:List Int},x∈allv n↔RowN n x
 |0,x=>by
  simp only[allv,qAi];constructor
  ·rintro rfl;exact⟨rfl,fun y hy=>by simp at hy⟩
  ·rintro⟨h,_⟩;exact List.eq_nil_of_length_eq_zero h
 |n+1,x=>by
  rw[allv,qAn];constructor
  ·rintro(h|h)
   all_goals
    obtain⟨y,hy,rfl⟩:=qAf.mp h
    have:=allv_mem.mp hy
    refine⟨by simp[this.1],fun z hz=>?_⟩
    rcases qAk.mp hz with rfl|hz
    ·simp[Bit]
    ·exact this.2 z hz
  ·rintro⟨h1,h2⟩
   cases x with
   |nil=>simp at h1
   |cons a r=>
    have hr:r∈allv n:=allv_mem.mpr ⟨by simpa using h1,fun z hz=>h2 z (by simp[hz])⟩
    rcases h2 a (by simp)with rfl|rfl
    ·exact .inl (qAf.mpr ⟨r,hr,rfl⟩)
    ·exact .inr (qAf.mpr ⟨r,hr,rfl⟩)
theorem zG8{α:Type}[DecidableEq α]:∀(l1 l2:List α),l1.Nodup->(∀x∈l1,x∈l2)->l1.length<=l2.length
 |[],_,_,_=>by simp
 |a::r,l2,h,hs=>by
  have ha:=hs a (by simp);rw[qBz]at h
  have:=zG8 r (l2.erase a) h.2 fun x hx=>(List.mem_erase_of_ne (fun z:x=a=>h.1 (by rw[<- z];exact hx))).mpr (hs x (by simp[hx]))
  rw[List.length_erase_of_mem ha]at this
  have:=qDu ha
  simp
  lia
noncomputable def cnt(n:Nat)(P:List Int->Prop):Nat:=by
 classical exact((allv n).filter fun x=>decide (P x)).length
theorem cnt_all(n:Nat):cnt n (fun _=>True)=2 ^ n:=by
 unfold cnt;rw[qEg.mpr (by simp),zM6]
theorem zB2{n:Nat}{P Q:List Int->Prop}(h:∀x,RowN n x->(P x↔Q x)):cnt n P=cnt n Q:=by
 unfold cnt
 congr 1
 refine qDg fun x hx=>?_
 have:=h x (allv_mem.mp hx)
 simp[this]
theorem zSB{n:Nat}{P Q:List Int->Prop}(f:List Int->List Int)(hf:∀x,RowN n x->P x->RowN n (f x)/\Q (f x))(hi:∀x y,RowN n x->RowN n y->f x=f y->x=y):cnt n P<=cnt n Q:=by
 classical
 unfold cnt;have h1:(((allv n).filter fun x=>decide (P x)).map f).Nodup:=zEM ((zF9 n).filter _) fun x hx y hy=>hi x y (allv_mem.mp (qAq.mp hx).1) (allv_mem.mp (qAq.mp hy).1)
 have h2:=zG8 _ ((allv n).filter fun x=>decide (Q x)) h1 fun z hz=>by
  obtain⟨x,hx,rfl⟩:=qAf.mp hz;obtain⟨g1,g2⟩:=qAq.mp hx;obtain⟨k1,k2⟩:=hf x (allv_mem.mp g1) (by simpa using g2);exact qAq.mpr ⟨allv_mem.mpr k1,by simpa using k2⟩
 rw[qAh]at h2;exact h2
theorem zGJ{n:Nat}(P E:List Int->Prop):cnt n P=cnt n (fun x=>P x/\E x)+cnt n (fun x=>P x/\¬E x):=by
 classical
 unfold cnt
 generalize allv n=l
 induction l with
 |nil=>simp
 |cons a r ih=>
  simp only[qBy]
  by_cases h1:P a
  ·by_cases h2:E a
   ·simp[h1,h2,ih];lia
   ·simp[h1,h2,ih];lia
  ·simp[h1,ih]
noncomputable def flp(p:Nat)(x:List Int):List Int:=x.set p (1-x.getD p 0)
theorem zI9{n p:Nat}{x:List Int}(h:RowN n x):RowN n (flp p x):=zSW h (by rcases zDD (k:=p) h with z|z<;>rw[z]<;>simp[Bit])
theorem zIA{n p:Nat}{x:List Int}(h:RowN n x)(hp:p<n)(k:Nat):(flp p x).getD k 0=if p=k then 1-x.getD p 0 else x.getD k 0:=zQY (by rw[h.1];exact hp)
theorem zDK{n:Nat}{x y:List Int}(hx:x.length=n)(hy:y.length=n)(h:∀k,k<n->x.getD k 0=y.getD k 0):x=y:=by
 rw[zFY hx,zFY hy];exact qAy fun k hk=>h k (by simpa using hk)
theorem zOS{n p:Nat}(hp:p<n){x y:List Int}(hx:RowN n x)(hy:RowN n y)(h:flp p x=flp p y):x=y:=by
 refine zDK hx.1 hy.1 fun k hk=>?_
 have e:(flp p x).getD k 0=(flp p y).getD k 0:=by rw[h]
 rw[zIA hx hp,zIA hy hp]at e
 by_cases z:p=k
 ·subst z;rw[if_pos rfl,if_pos rfl]at e;lia
 ·rw[if_neg z,if_neg z]at e;exact e
theorem zR6{n p:Nat}(hp:p<n)(P E:List Int->Prop)(h1:∀x,RowN n x->P x->P (flp p x))(h2:∀x,RowN n x->(E (flp p x)↔¬E x)):cnt n P=2*cnt n (fun x=>P x/\E x):=by
 have a:=zGJ (n:=n) P E;have b:cnt n (fun x=>P x/\E x)<=cnt n (fun x=>P x/\¬E x):=zSB (flp p) (fun x hx h=>⟨zI9 hx,h1 x hx h.1,fun z=>(h2 x hx).mp z h.2⟩) fun x y hx hy=>zOS hp hx hy
 have c:cnt n (fun x=>P x/\¬E x)<=cnt n (fun x=>P x/\E x):=zSB (flp p) (fun x hx h=>⟨zI9 hx,h1 x hx h.1,(h2 x hx).mpr h.2⟩) fun x y hx hy=>zOS hp hx hy
 lia
def Ev(n:Nat)(g:Nat->Int)(x:List Int):Prop:=sumN n (fun k=>g k*x.getD k 0)%2=0
theorem zS1{n p:Nat}{g:Nat->Int}{x:List Int}(h:RowN n x)(hp:p<n):sumN n (fun k=>g k*(flp p x).getD k 0)=sumN n (fun k=>g k*x.getD k 0)+g p*(1-2*x.getD p 0):=by
 rw[zH9 (f:=fun k=>g k*(flp p x).getD k 0) (g:=fun k=>g k*x.getD k 0) hp fun k _ hk=>by rw[zIA h hp,if_neg (fun z=>hk z.symm)],zIA h hp,if_pos rfl,<- Int.mul_sub]
 congr 2
 lia
theorem zU3{n p:Nat}{g:Nat->Int}{x:List Int}(h:RowN n x)(hp:p<n)(hg:g p=0):Ev n g (flp p x)↔Ev n g x:=by
 unfold Ev;rw[zS1 h hp,hg];simp
theorem zU2{n p:Nat}{g:Nat->Int}{x:List Int}(h:RowN n x)(hp:p<n)(hg:g p=1):Ev n g (flp p x)↔¬Ev n g x:=by
 unfold Ev;rw[zS1 h hp,hg]
 lia
noncomputable def Led(n:Nat):List (List Int)->Prop
 |[]=>True
 |l::r=>(∃p,p<n/\l.getD p 0=1/\∀s∈r,s.getD p 0=0)/\Led n r
theorem zLY{n:Nat}{r x:List Int}(hx:RowN n x):dot r x%2=0↔Ev n (fun k=>r.getD k 0) x:=by
 unfold Ev;rw[zGG r x n (by rw[hx.1];exact qA6 _)]
theorem zKS{n:Nat}:∀(ls:List (List Int)),Led n ls->cnt n (Ker ls)*2 ^ ls.length=2 ^ n
 |[],_=>by
  rw[zB2 (Q:=fun _=>True) fun x _=>⟨fun _=>trivial,fun _ r hr=>by simp at hr⟩,cnt_all];simp
 |l::r,h=>by
  obtain⟨⟨p,hp,h1,h0⟩,h2⟩:=h;have ih:=zKS r h2;have hh:=zR6 hp (Ker r) (fun x=>dot l x%2=0) (fun x hx hk s hs=>(zLY (zI9 hx)).mpr ((zU3 hx hp (h0 s hs)).mpr ((zLY hx).mp (hk s hs)))) fun x hx=>by
   rw[zLY (zI9 hx),zLY hx];exact zU2 hx hp h1
  have hc:cnt n (Ker (l::r))=cnt n (fun x=>Ker r x/\dot l x%2=0):=zB2 fun x _=>⟨fun h=>⟨fun s hs=>h s (by simp[hs]),h l (by simp)⟩,fun h s hs=>(qAk.mp hs).elim (fun z=>z▸h.2) (h.1 s)⟩
  rw[hc,qAt,qC4,<- ih,hh];rw[qDy (2 ^ r.length) 2,<- Nat.mul_assoc,qDy _ 2]
def KerF(n:Nat)(f:Nat->Nat->Int)(x:List Int):Prop:=∀a,a<n->Ev n (f a) x
section
variable{n i j:Nat}{f:Nat->Nat->Int}(hb:Bits n f)(hi:i<n)(hj:j<n)(hij:i≠j)
include hi in
include hi hij in
include hb hi hj hij in
include hb hi hj hij in
end
noncomputable def frz0(o:Option Sl):Option Dt:=match o with
 |some (d,n)=>if n=0\/d.dep=0 then some d else none
 |none=>none
theorem zN4{n i:Nat}{f:Nat->Nat->Int}(h:i<n):(tab n f).getD i []=(qA8 n).map fun j=>f i j:=by
 rw[qA0,zEY h];rfl
theorem zOJ{n:Nat}{f:Nat->Nat->Int}{x:List Int}(hx:x.length=n):Ker (tab n f) x↔∀a,a<n->sumN n (fun b=>f a b*x.getD b 0)%2=0:=by
 constructor
 ·intro h a ha
  have:=h _ (getD_mem (d:=[]) (i:=a) (by rw[zEZ];exact ha))
  rw[zN4 ha,zES hx]at this;exact this
 ·intro h r hr;obtain⟨i,hi,rfl⟩:=mem_getD (d:=[]) hr;rw[zEZ]at hi;rw[zN4 hi,zES hx];exact h i hi
noncomputable def fst1:List Int->Nat
 |[]=>0
 |a::r=>if a=1 then 0 else fst1 r+1
theorem zI6:∀{l:List Int},1∈l->fst1 l<l.length
 |a::r,h=>by
  unfold fst1
  split
  ·simp
  ·rename_i z
   have:=zI6 (l:=r) ((qAk.mp h).elim (fun y=>absurd y.symm z) fun y=>y)
   simp;exact this
theorem zI7:∀{l:List Int},1∈l->l.getD (fst1 l) 0=1
 |a::r,h=>by
  unfold fst1
  split
  ·rename_i z;simp[z]
  ·rename_i z
   have:=zI7 (l:=r) ((qAk.mp h).elim (fun y=>absurd y.symm z) fun y=>y)
   simpa using this
def red1(left l:List Int):List Int:=if left.getD (fst1 l) 0=1 then addB left l else left
def red(ls:List (List Int))(row:List Int):List Int:=ls.foldl red1 row
section
variable{n:Nat}
theorem zFL{a l:List Int}(ha:RowN n a)(hl:RowN n l):RowN n (red1 a l):=by
 unfold red1
 split
 ·exact addB_row ha hl
 ·exact ha
theorem zHL:∀{ls:List (List Int)}{row:List Int},RowN n row->(∀l∈ls,RowN n l)->RowN n (red ls row)
 |[],row,h,_=>h
 |l::r,row,h,hl=>zHL (ls:=r) (zFL h (hl l (by simp))) fun s hs=>hl s (by simp[hs])
theorem zNN{p:Nat}{a l:List Int}(ha:RowN n a)(hl:RowN n l)(hp:p<n)(h1:a.getD p 0=0)(h2:l.getD p 0=0):(red1 a l).getD p 0=0:=by
 unfold red1
 split
 ·rw[zDH a l p (by rw[ha.1,hl.1]) (by rw[ha.1];exact hp),h1,h2];rfl
 ·exact h1
theorem zLK{p:Nat}(hp:p<n):∀{ls:List (List Int)}{row:List Int},RowN n row->(∀l∈ls,RowN n l)->row.getD p 0=0->(∀l∈ls,l.getD p 0=0)->(red ls row).getD p 0=0
 |[],row,_,_,h,_=>h
 |l::r,row,h,hl,h1,h2=>zLK hp (ls:=r) (zFL h (hl l (by simp))) (fun s hs=>hl s (by simp[hs])) (zNN h (hl l (by simp)) hp h1 (h2 l (by simp))) fun s hs=>h2 s (by simp[hs])
def Lds(ls:List (List Int)):Prop:=ls.Pairwise fun l s=>s.getD (fst1 l) 0=0
theorem zLJ:∀{ls:List (List Int)}{row:List Int},RowN n row->(∀l∈ls,RowN n l/\1∈l)->Lds ls->∀l∈ls,(red ls row).getD (fst1 l) 0=0
 |[],row,_,_,_,l,h=>by simp at h
 |a::r,row,h,hl,hp,l,hm=>by
  unfold Lds at hp;rw[qD9]at hp;have ha:=hl a (by simp);have h1:=zFL h ha.1
  rcases qAk.mp hm with rfl|hm
  ·have hlt:fst1 l<n:=by rw[<- ha.1.1];exact zI6 ha.2
   refine zLK hlt (ls:=r) h1 (fun s hs=>(hl s (by simp[hs])).1) ?_ fun s hs=>hp.1 s hs
   unfold red1
   split
   ·rename_i z
    rw[zDH row l _ (by rw[h.1,ha.1.1]) (by rw[h.1];exact hlt),z,zI7 ha.2];rfl
   ·rename_i z
    rcases zDD (k:=fst1 l) h with w|w
    ·exact w
    ·exact absurd w z
  ·exact zLJ (ls:=r) h1 (fun s hs=>hl s (by simp[hs])) hp.2 l hm
theorem zHM{x:List Int}(hx:RowN n x):∀{ls:List (List Int)}{row:List Int},RowN n row->(∀l∈ls,RowN n l)->Ker ls x->dot (red ls row) x%2=dot row x%2
 |[],row,_,_,_=>rfl
 |l::r,row,h,hl,hk=>by
  have ha:=hl l (by simp);have ih:=zHM hx (ls:=r) (zFL h ha) (fun s hs=>hl s (by simp[hs])) fun s hs=>hk s (by simp[hs])
  show dot (red r (red1 row l)) x%2=_;rw[ih];unfold red1
  split
  ·have:=hk l (by simp)
   rw[zGH row l x (by rw[h.1,ha.1]) hx.2];lia
  ·rfl
theorem zOG:∀{ls:List (List Int)},(∀l∈ls,RowN n l/\1∈l)->Lds ls->Led n ls
 |[],_,_=>trivial
 |l::r,hl,hp=>by
  unfold Lds at hp;rw[qD9]at hp;have ha:=hl l (by simp);exact⟨⟨fst1 l,by rw[<- ha.1.1];exact zI6 ha.2,zI7 ha.2,hp.1⟩,zOG (fun s hs=>hl s (by simp[hs])) hp.2⟩
structure GP(n:Nat)(T ls:List (List Int))(k:Nat):Prop where
 rows:∀l∈ls,RowN n l/\1∈l
 lds:Lds ls
 le:ls.length<=k
 ker:∀x,RowN n x->(Ker ls x↔Ker (T.take k) x)
theorem GP.start(T:List (List Int)):GP n T [] 0:=⟨fun l h=>by simp at h,qC7,qA6 _,fun x _=>by simp[Ker]⟩
theorem zI0{T:List (List Int)}{k:Nat}{x:List Int}(hk:k<T.length):Ker (T.take (k+1)) x↔Ker (T.take k) x/\dot (T.getD k []) x%2=0:=by
 have e:T.take (k+1)=T.take k++[T.getD k []]:=by
  rw[qCk hk];simp[qA0,qA7 hk]
 rw[e];unfold Ker;constructor
 ·intro h;exact⟨fun r hr=>h r (qB9 _ hr),h _ (qAl _ (by simp))⟩
 ·rintro⟨h1,h2⟩ r hr
  rcases qAn.mp hr with hr|hr
  ·exact h1 r hr
  ·rw[qAi.mp hr];exact h2
theorem GP.miss{T ls:List (List Int)}{k:Nat}(a:GP n T ls k)(hT:∀r∈T,RowN n r)(hk:k<T.length)(h:¬1∈red ls (T.getD k [])):GP n T ls (k+1):=by
 have hr:=hT _ (getD_mem (d:=[]) hk);have hrr:RowN n (red ls (T.getD k [])):=zHL hr fun l hl=>(a.rows l hl).1
 refine⟨a.rows,a.lds,by have:=a.le;lia,fun x hx=>?_⟩;rw[zI0 hk,<- a.ker x hx];refine⟨fun hkr=>⟨hkr,?_⟩,fun z=>z.1⟩;rw[<- zHM hx hr (fun l hl=>(a.rows l hl).1) hkr,zGG _ x n (by rw[hx.1];exact qA6 _),zAY fun j hj=>?_]
 ·rfl
 ·rcases zDD (k:=j) hrr with w|w
  ·rw[w];simp
  ·exact absurd (by rw[<- w];exact getD_mem (by rw[hrr.1];exact hj)) h
theorem GP.hit{T ls:List (List Int)}{k:Nat}(a:GP n T ls k)(hT:∀r∈T,RowN n r)(hk:k<T.length)(h:1∈red ls (T.getD k [])):GP n T (ls++[red ls (T.getD k [])]) (k+1):=by
 have hr:=hT _ (getD_mem (d:=[]) hk);have hrr:RowN n (red ls (T.getD k [])):=zHL hr fun l hl=>(a.rows l hl).1
 refine⟨fun l hl=>?_,?_,by have:=a.le;simp;lia,fun x hx=>?_⟩
 ·rcases qAn.mp hl with hl|hl
  ·exact a.rows l hl
  ·rw[qAi.mp hl];exact⟨hrr,h⟩
 ·unfold Lds;rw[qCx];refine⟨a.lds,by simp,fun l hl s hs=>?_⟩;rw[qAi.mp hs];exact zLJ hr a.rows a.lds l hl
 ·rw[zI0 hk,<- a.ker x hx];constructor
  ·intro hkr;have h1:Ker ls x:=fun r hr=>hkr r (qB9 _ hr)
   have h2:=hkr _ (qAl _ (qAi.mpr rfl));rw[zHM hx hr (fun l hl=>(a.rows l hl).1) h1]at h2;exact⟨h1,h2⟩
  ·rintro⟨h1,h2⟩ r hrm
   rcases qAn.mp hrm with hrm|hrm
   ·exact h1 r hrm
   ·rw[qAi.mp hrm,zHM hx hr (fun l hl=>(a.rows l hl).1) h1];exact h2
structure GK(n:Nat)(T:List (List Int))(ks:List Nat)(k:Nat):Prop where
 lt:∀j∈ks,j<k
 up:ks.Pairwise (· < ·)
 ker:∀x,RowN n x->(Ker (ks.map fun j=>T.getD j []) x↔Ker (T.take k) x)
theorem GK.start(T:List (List Int)):GK n T [] 0:=⟨fun j h=>by simp at h,qC7,fun x _=>by simp[Ker]⟩
theorem GK.miss{T ls:List (List Int)}{ks:List Nat}{k:Nat}(b:GK n T ks k)(a:GP n T ls k)(a':GP n T ls (k+1)):GK n T ks (k+1):=
 ⟨fun j hj=>by have:=b.lt j hj;lia,b.up,fun x hx=>by rw[b.ker x hx,<- a.ker x hx,a'.ker x hx]⟩
theorem GK.hit{T:List (List Int)}{ks:List Nat}{k:Nat}(b:GK n T ks k)(hk:k<T.length):GK n T (ks++[k]) (k+1):=by
 refine⟨fun j hj=>?_,?_,fun x hx=>?_⟩
 ·rcases qAn.mp hj with hj|hj
  ·have:=b.lt j hj;lia
  ·rw[qAi.mp hj];lia
 ·rw[qCx];refine⟨b.up,by simp,fun j hj s hs=>?_⟩;rw[qAi.mp hs];exact b.lt j hj
 ·rw[zI0 hk,<- b.ker x hx,qB1];unfold Ker;constructor
  ·intro h;exact⟨fun r hr=>h r (qB9 _ hr),h _ (qAl _ (by simp))⟩
  ·rintro⟨h1,h2⟩ r hr
   rcases qAn.mp hr with hr|hr
   ·exact h1 r hr
   ·rw[qAg,qF1,qAi]at hr;rw[hr];exact h2
end
theorem zLO:∀{l:List Int},1∈l->posI 1 l=some (fst1 l)
 |a::r,h=>by
  unfold posI fst1
  by_cases z:a=1
  ·simp[z]
  ·have:=zLO (l:=r) ((qAk.mp h).elim (fun y=>absurd y.symm z) fun y=>y)
   simp[z,this]
theorem zTO{l:List Int}(h:1∈l):lixD (l.map Dt.int) [.int 1]=some (.int (fst1 l:Nat)):=by
 unfold lixD;dsimp only;rw[zEG];dsimp only;rw[zLO h];rfl
theorem zOC{n:Nat}{row:List Int}{ls:List (List Int)}(hr:RowN n row)(hl:∀l∈ls,RowN n l/\1∈l)(hn:n<=1000):zBE [rowD row,mat ls]=okR (rowD (red ls row)):=by
 unfold zBE zED;refine zBJ rfl (zE8 fun bb hb=>?_);simp[startO];subst hb;refine zE8 fun bb hb=>?_
 unfold sFor;rw[show iSq (eV 1) (frz (frzAt [1] [some (rowD row,0),some (mat ls,0),some (rowD row,0),none]))=okR (ls.map rowD) by simp[mat],bindR_ok];show nxR (forGo (.one 3) _ (ls.map rowD) [some (rowD row,0),some (mat ls,0),some (rowD row,0),none]) _;refine zTD rowD ls (fun left r=>RowN n left/\∃l2 o3,r=[some (rowD row,0),some (mat ls,0),some (rowD left,l2),o3]) red1 row ⟨hr,0,none,rfl⟩ (fun l hm left r h=>?_) fun r h=>?_
 ·obtain⟨h1,l2,o3,rfl⟩:=h;obtain⟨h2,h3⟩:=hl l hm;have x1:eMl lixD (eV 3) (aCons (eC (.int 1)) aNil) [some (rowD row),some (mat ls),some (rowD left),some (rowD l)]=okR (.int (fst1 l:Nat)):=by
   have:=zTO h3
   simp[eMl,rowD,this]
  have hlt:fst1 l<n:=by rw[<- h2.1];exact zI6 h3
  have i1:=zI3 left (fst1 l) (by rw[h1.1];exact hlt);have a1:=zPK h1 h2 hn;rw[zFE];have hc:tB (eB eqD (eB ixD (eV 2) (eMl lixD (eV 3) (aCons (eC (.int 1)) aNil))) (eC (.int 1))) [some (rowD row),some (mat ls),some (rowD left),some (rowD l)]=okR (decide (left.getD (fst1 l) 0=1)):=by
   simp only[x_tB,x_eB,x_eC,x1,bindR_ok];simp[-qA0,i1]
  rw[show full ([some (rowD row,0),some (mat ls,0),some (rowD left,l2),o3].set 3 (some (rowD l,0)))=[some (rowD row),some (mat ls),some (rowD left),some (rowD l)] from rfl,hc,bindR_ok]
  by_cases h:left.getD (fst1 l) 0=1
  ·rw[if_pos (by simpa using h)];have e:red1 left l=addB left l:=by unfold red1;rw[if_pos h]
   rw[e];refine zND (d:=rowD (addB left l)) ?_ ?_ ⟨addB_row h1 h2,_,_,rfl⟩ ⟨addB_row h1 h2,_,_,rfl⟩
   ·simp[a1]
   ·simp[a1]
  ·rw[if_neg (by simpa using h)];have e:red1 left l=left:=by unfold red1;rw[if_neg h]
   rw[e];exact⟨h1,_,_,rfl⟩
 ·obtain⟨h1,l2,o3,rfl⟩:=h;subst hb;simp[sRetV,red]
theorem zSU{i j:Nat}{vs:List Nat}{e:EM}{ρ ρ2:Ro}{ds es:List Dt}(h:frzAt vs (low j ρ)=ρ2)(h1:ρ2[j]?=some (some (.lst ds,1)))(he:e ((frz ρ2).set j (some (.lst ds)))=okR (.lst es))(hz:Dt.depL es=0/\es.length≠ds.length):sSetL i j vs e ρ=okR (.nx (ρ2.set i (some (.lst es,0)))):=by
 unfold sSetL;rw[h,h1];show zA2 (e ((frz ρ2).set j (some (.lst ds)))) _=_;rw[he,bindR_ok];exact if_pos hz
theorem zUB{i:Nat}{vs:List Nat}{e:EM}{ρ ρ2:Ro}{ds:List Dt}{d:Dt}(h:frzAt vs (low i ρ)=ρ2)(h1:ρ2[i]?=some (some (.lst ds,1)))(he:e (frz ρ2)=okR d)(hz:ds.length<=100000):sAppF i vs e ρ=okR (.nx (ρ2.set i (some (.lst (ds++[d]),1)))):=by
 unfold sAppF;rw[h,h1];show zA2 (e (frz ρ2)) _=_;rw[he,bindR_ok,if_pos hz]
def GpS(n:Nat)(T:List (List Int))(k:Nat)(r:Ro):Prop:=∃ls ks l2 o3 o4 o5,r=[some (mat T,0),some (rowD (numL ks),9),some (mat ls,l2+1),o3,o4,o5]/\GP n T ls k/\GK n T ks k/\ks.length=ls.length
theorem zTW(l:List Int):inD false (.int 1) (rowD l)=some (.bl (decide (1∈l))):=by
 show(hasD (.int 1) (l.map Dt.int)).map _=_
 rw[hasD,if_pos ⟨rfl,zD9 _⟩];show some (Dt.bl ((l.map Dt.int).any fun y=>Dt.eq y (.int 1)))=_
 congr 2
 induction l with
 |nil=>rfl
 |cons k r ih=>
  rw[qAg,qCy,ih]
  by_cases h:k=1
  ·subst h;simp
  ·simp[h,show ¬1=k from fun z=>h z.symm]
theorem zMN{n:Nat}{T:List (List Int)}(hT:T.length=n)(hr:∀r∈T,RowN n r)(hn:n<=1000):∃ks ls,zCL [mat T]=okR (rowD (numL ks))/\ks.length=ls.length/\GP n T ls n/\GK n T ks n:=by
 suffices h:eiR (zCS [some (mat T,0),none,none,none,none,none]) (fun _=>False) (fun d=>∃ks ls,d=rowD (numL ks)/\ks.length=ls.length/\GP n T ls n/\GK n T ks n) by
  rcases h with⟨_,_,z⟩|⟨d,h1,ks,ls,rfl,h2,h3⟩
  ·exact z.elim
  ·exact⟨ks,ls,zBJ rfl h1,h2,h3⟩
 unfold zCS;refine zGY (P:=fun r=>r=[some (mat T,0),some (.lst [],9),none,none,none,none]) (zMP (by simp)) ?_
 rintro r rfl
 refine zGY (P:=fun r=>r=[some (mat T,0),some (.lst [],9),some (mat [],9),none,none,none]) (zMP (by simp[mat])) ?_
 rintro r rfl
 refine zGY (P:=GpS n T n) (zMP ?_) ?_
 ·unfold sFor;rw[show iEn (aCons (eV 0) aNil) (frz (frzAt [0] [some (mat T,0),some (.lst [],9),some (mat [],9),none,none,none]))=okR (enumD 0 (T.map rowD)) by simp[mat],bindR_ok];show nxR (forGo (.tup [3,4]) _ (enumD 0 (T.map rowD)) [some (mat T,0),some (.lst [],9),some (mat [],9),none,none,none]) _;refine zO6 (T.map rowD) (GpS n T) ⟨[],[],8,none,none,none,rfl,GP.start T,GK.start T,rfl⟩ (fun k x hx r h=>?_) fun r h=>by rw[qAh,hT]at h;exact h
  obtain⟨ls,ks,l2,o3,o4,o5,rfl,a,b,hps⟩:=h;have hk:k<T.length:=by have:=(qA4.mp hx).1;simpa using this
  have hx':x=rowD (T.getD k []):=by
   rw[qAe,qA7 hk]at hx;cases hx;simp[qA0,qA7 hk]
  subst hx';have hrow:=hr _ (getD_mem (d:=[]) hk);have hred:RowN n (red ls (T.getD k [])):=zHL hrow fun l hl=>(a.rows l hl).1
  have lp:=zOC hrow a.rows hn;have hm:=a.miss hr hk;have hh:=a.hit hr hk;have kh:=b.hit hk;have km:=fun z=>b.miss a (hm z)
  have hle:=a.le
  generalize T.getD k []=row at *
  generalize red ls row=left at *
  refine zFX fun bb hb=>?_
  refine zBK (r:=[some (mat T,0),some (rowD (numL ks),9),some (mat ls,1),some (.int (k:Nat),0),some (rowD row,0),some (rowD left,0)]) ?_ ?_
  ·have hr0:frzAt [4] (low 2 ([some (mat T,0),some (rowD (numL ks),9),some (mat ls,l2+1),some (.int (k:Nat),0),some (rowD row,0),o5]))=[some (mat T,0),some (rowD (numL ks),9),some (mat ls,1),some (.int (k:Nat),0),some (rowD row,0),o5]:=rfl;have he:∀o0 o1 o3 o5:Option Dt,eCall zBE (aCons (eV 4) (aCons (eV 2) aNil)) [o0,o1,some (mat ls),o3,some (rowD row),o5]=okR (rowD left):=by
    intro o0 o1 o3 o5;simp[lp]
   refine zSU hr0 rfl (es:=left.map Dt.int) ?_ ⟨zD9 _,by rw[qAh,qAh,hred.1];lia⟩;rw[show(frz [some (mat T,0),some (rowD (numL ks),9),some (mat ls,1),some (.int (k:Nat),0),some (rowD row,0),o5]).set 2 (some (.lst (ls.map rowD)))=[frz0 (some (mat T,0)),frz0 (some (rowD (numL ks),9)),some (mat ls),frz0 (some (.int (k:Nat),0)),some (rowD row),frz0 o5] from rfl];exact he _ _ _ _
  subst hb;rw[zFE];have hin:=zTW left;rw[show tB (eB (inD false) (eC (.int 1)) (eV 5)) (full [some (mat T,0),some (rowD (numL ks),9),some (mat ls,1),some (.int (k:Nat),0),some (rowD row,0),some (rowD left,0)])=okR (decide (1∈left)) by simp[hin],bindR_ok]
  by_cases h:1∈left
  ·rw[if_pos (by simpa using h)];refine zFX fun bb hb=>?_
   refine zBK (zXR (ds:=(numL ks).map Dt.int) (k:=8) (d:=.int (k:Nat)) rfl (by simp) (by simp[numL];lia) (by simp) (by simp)) ?_;subst hb;rw[show Dt.lst ((numL ks).map Dt.int++[.int (k:Nat)])=rowD (numL (ks++[k])) by unfold rowD numL;simp];refine zBK (r:=[some (mat T,0),some (rowD (numL (ks++[k])),9),some (mat (ls++[left]),1),some (.int (k:Nat),0),some (rowD row,0),some (rowD left,0)]) ?_ ⟨ls++[left],ks++[k],0,_,_,_,rfl,hh h,kh,by simp[hps]⟩
   have:=zUB (i:=2) (vs:=[5]) (e:=eV 5) (ρ:=[some (mat T,0),some (rowD (numL (ks++[k])),9),some (mat ls,1),some (.int (k:Nat),0),some (rowD row,0),some (rowD left,0)]) (ρ2:=[some (mat T,0),some (rowD (numL (ks++[k])),9),some (mat ls,1),some (.int (k:Nat),0),some (rowD row,0),some (rowD left,0)]) (ds:=ls.map rowD) (d:=rowD left) rfl rfl (by simp) (by simp;lia)
   rw[show Dt.lst (ls.map rowD++[rowD left])=mat (ls++[left]) by unfold mat;simp]at this;exact this
  ·rw[if_neg (by simpa using h)];exact⟨ls,ks,0,_,_,_,rfl,hm h,km h,hps⟩
 rintro r ⟨ls,ks,l2,o3,o4,o5,rfl,a,b,hps⟩
 exact .inr ⟨rowD (numL ks),by simp[sRetV],ks,ls,rfl,hps,a,b⟩
theorem zNM{n:Nat}{f:Nat->Nat->Int}(hn:n<=10)(hb:Bits n f):∃q:Nat,q<=n/\cnt n (KerF n f)=2 ^ q/\(∃ks,ks.length+q=n/\GK n (tab n f) ks n)/\zD6 [mat (tab n f)]=okR (.int (q:Int)):=by
 have hT:=zEZ n f;have hr:=zLC hb;obtain⟨ks,ls,h1,h2,h3,h4⟩:=zMN hT hr (by lia);have hle:=h3.le;have hc:=zKS ls (zOG h3.rows h3.lds);have e:cnt n (Ker ls)=cnt n (KerF n f):=zB2 fun x hx=>by
  rw[h3.ker x hx,qCm (by rw[hT];exact qA6 _)];exact zOJ hx.1
 rw[e]at hc;refine⟨n-ls.length,by lia,?_,⟨ks,by lia,h4⟩,?_⟩
 ·have hp:2 ^ n=2 ^ (n-ls.length)*2 ^ ls.length:=by rw[<- qGq];congr 1;lia
  rw[hp]at hc;exact qD7 (qFj (by lia)) hc
 ·unfold zD6 zJX
  have:((n-ls.length:Nat):Int)=(n:Int)-((numL ks).length:Int):=by simp[numL];lia
  simp[startO,h1,hT,this]
theorem zER{n:Nat}{g:Nat->Int}{x y:List Int}(hx:RowN n x)(hy:RowN n y):sumN n (fun k=>g k*(addB x y).getD k 0)%2=(sumN n (fun k=>g k*x.getD k 0)+sumN n (fun k=>g k*y.getD k 0))%2:=by
 refine zN8 fun k hk=>?_
 rw[zDH x y k (by rw[hx.1,hy.1]) (by rw[hx.1];exact hk)]
 rcases zDD (k:=k) hx with a|a<;>rcases zDD (k:=k) hy with b|b<;>rw[a,b]<;>simp<;>lia
theorem zHC(n:Nat)(f g:Nat->Int):sumN n (fun k=>f k+g k)=sumN n f+sumN n g:=by
 induction n with
 |zero=>rfl
 |succ n ih=>rw[zAF,zAF,zAF,ih];lia
theorem zHB(n:Nat)(c:Int)(f:Nat->Int):sumN n (fun k=>c*f k)=c*sumN n f:=by
 induction n with
 |zero=>simp[sumN]
 |succ n ih=>rw[zAF,zAF,ih,qFk]
theorem zN6(n m:Nat)(G:Nat->Nat->Int):sumN n (fun i=>sumN m fun b=>G b i)=sumN m fun b=>sumN n fun i=>G b i:=by
 induction n with
 |zero=>rw[zAY fun k hk=>by lia,zAY fun b _=>zAY fun k hk=>by lia]
 |succ n ih=>
  rw[zAF,ih,<- zHC];exact zAL fun b _=>(zAF n fun i=>G b i).symm
theorem zDV{n:Nat}{f g:Nat->Int}(h:∀k,k<n->f k%2=g k%2):sumN n f%2=sumN n g%2:=by
 induction n with
 |zero=>rfl
 |succ n ih=>
  rw[zAF,zAF];have h1:=ih fun k hk=>h k (by lia)
  have h2:=h n (by lia)
  lia
structure LR(n:Nat)(T A:List (List Int))(ps:List (List Int×Nat))(p q:Nat):Prop where
 rows:∀r∈A,RowN n r
 zero:∀r∈A,∀k,k<p->r.getD k 0=0
 one:∀a∈ps,a.1.getD a.2 0=1/\a.2<p
 pw:ps.Pairwise fun a b=>b.1.getD a.2 0=0
 num:ps.length+q=p
 ker:∀x,RowN n x->(Ker T x↔Ker (ps.map qEm) x/\Ker A x)
section
variable{n p q:Nat}{T A:List (List Int)}{ps:List (List Int×Nat)}
theorem LR.start(h:∀r∈T,RowN n r):LR n T T [] 0 0:=
 ⟨h,fun _ _ k hk=>by lia,fun a ha=>by simp at ha,qC7,rfl,fun x _=>⟨fun z=>⟨fun r hr=>by simp at hr,z⟩,fun z=>z.2⟩⟩
theorem LR.miss(a:LR n T A ps p q)(h:∀r∈A,r.getD p 0≠1):LR n T A ps (p+1) (q+1):=by
 refine⟨a.rows,fun r hr k hk=>?_,fun b hb=>⟨(a.one b hb).1,by have:=(a.one b hb).2;lia⟩,a.pw,by have:=a.num;lia,a.ker⟩
 by_cases z:k=p
 ·subst z;exact(zDD (k:=k) (a.rows r hr)).elim (fun z=>z) fun z=>absurd z (h r hr)
 ·exact a.zero r hr k (by lia)
def tko(A:List (List Int))(p i:Nat):List (List Int):=(A.eraseIdx i).map fun r=>if r.getD p 0=1 then addB r (A.getD i [])else r
theorem LR.hit(a:LR n T A ps p q)(hp:p<n){i:Nat}(hi:i<A.length)(h1:(A.getD i []).getD p 0=1):LR n T (tko A p i) (ps++[(A.getD i [],p)]) (p+1) q:=by
 have hl:=getD_mem (d:=[]) hi;have hlr:=a.rows _ hl;have hmem:∀r∈tko A p i,∃s∈A,r=if s.getD p 0=1 then addB s (A.getD i [])else s:=fun r hr=>by
  obtain⟨s,hs,rfl⟩:=qAf.mp hr;exact⟨s,qDh hs,rfl⟩
 refine⟨fun r hr=>?_,fun r hr k hk=>?_,fun b hb=>?_,?_,by have:=a.num;simp;lia,fun x hx=>?_⟩
 ·obtain⟨s,hs,rfl⟩:=hmem r hr
  split
  ·exact addB_row (a.rows s hs) hlr
  ·exact a.rows s hs
 ·obtain⟨s,hs,rfl⟩:=hmem r hr;have hsr:=a.rows s hs
  split
  ·rename_i z
   rw[zDH _ _ k (by rw[hsr.1,hlr.1]) (by rw[hsr.1];lia)]
   by_cases w:k=p
   ·subst w;rw[z,h1];rfl
   ·rw[a.zero s hs k (by lia),a.zero _ hl k (by lia)];rfl
  ·rename_i z
   by_cases w:k=p
   ·subst w;exact(zDD (k:=k) hsr).elim (fun z=>z) fun y=>absurd y z
   ·exact a.zero s hs k (by lia)
 ·rcases qAn.mp hb with hb|hb
  ·exact⟨(a.one b hb).1,by have:=(a.one b hb).2;lia⟩
  ·rw[qAi.mp hb];exact⟨h1,by lia⟩
 ·rw[qCx];refine⟨a.pw,by simp,fun b hb c hc=>?_⟩;rw[qAi.mp hc];exact a.zero _ hl _ (a.one b hb).2
 ·rw[a.ker x hx,qB1];constructor
  ·rintro⟨k1,k2⟩
   refine⟨fun r hr=>?_,fun r hr=>?_⟩
   ·rcases qAn.mp hr with hr|hr
    ·exact k1 r hr
    ·rw[qAg,qF1,qAi]at hr;rw[hr];exact k2 _ hl
   ·obtain⟨s,hs,rfl⟩:=hmem r hr;have e1:=k2 s hs;have e2:=k2 _ hl
    split
    ·rw[zGH _ _ x (by rw[(a.rows s hs).1,hlr.1]) hx.2];lia
    ·exact e1
  ·rintro⟨k1,k2⟩
   have e2:dot (A.getD i []) x%2=0:=k1 _ (qAl _ (by simp));refine⟨fun r hr=>k1 r (qB9 _ hr),fun r hr=>?_⟩;obtain⟨j,hj,rfl⟩:=mem_getD (d:=[]) hr
   by_cases hji:j=i
   ·subst hji;exact e2
   ·have hjm:A.getD j []∈A.eraseIdx i:=List.mem_eraseIdx_iff_getElem.mpr ⟨j,hj,hji,by simp[qA0,qA7 hj]⟩;have e3:=k2 _ (qAf.mpr ⟨_,hjm,rfl⟩)
    split at e3
    ·rw[zGH _ _ x (by rw[(a.rows _ hr).1,hlr.1]) hx.2]at e3
     lia
    ·exact e3
theorem zRS:∀{ps:List (List Int×Nat)}{n:Nat},(∀a∈ps,a.1.getD a.2 0=1/\a.2<n)->(ps.Pairwise fun a b=>b.1.getD a.2 0=0)->Led n (ps.map qEm)
 |[],_,_,_=>trivial
 |a::r,n,h1,h2=>by
  rw[qD9]at h2;have ha:=h1 a (by simp);refine⟨⟨a.2,ha.2,ha.1,fun s hs=>?_⟩,zRS (fun b hb=>h1 b (by simp[hb])) h2.2⟩;obtain⟨b,hb,rfl⟩:=qAf.mp hs;exact h2.1 b hb
theorem LR.fin(a:LR n T A ps n q):cnt n (Ker T)=2 ^ q:=by
 have h1:=zKS (n:=n) (ps.map qEm) (zRS a.one a.pw);have h2:cnt n (Ker T)=cnt n (Ker (ps.map qEm)):=zB2 fun x hx=>by
  rw[a.ker x hx];refine⟨fun z=>z.1,fun z=>⟨z,fun r hr=>?_⟩⟩;rw[zGG r x n (by rw[hx.1];exact qA6 _),zAY fun k hk=>by rw[a.zero r hr k hk];simp];rfl
 rw[h2];have h3:=a.num;rw[qAh]at h1;have hp:2 ^ n=2 ^ q*2 ^ ps.length:=by rw[<- qGq];congr 1;lia
 rw[hp]at h1;exact qD7 (qFj (by lia)) h1
end
noncomputable def ext1(ws:List Int)(c:List Int):List (List Int):=ws.map fun w=>c++[w]
def lng(ws:List Int)(A:List (List Int)):List (List Int):=(A.map (ext1 ws)).flatten
def chW(ws:List Int):Nat->List (List Int)
 |0=>[[]]
 |n+1=>lng ws (chW ws n)
theorem zKL(ws:List Int):∀A:List (List Int),(lng ws A).length=ws.length*A.length
 |[]=>rfl
 |a::A=>by
  have:=zKL ws A
  unfold lng at this ⊢;rw[qAg,qBd,qAw,this];simp[ext1,Nat.mul_add]
  lia
theorem zF6(ws:List Int):∀n,(chW ws n).length=ws.length ^ n
 |0=>rfl
 |n+1=>by rw[chW,zKL,zF6 ws n,qC4,qDy]
theorem zD1{ws:List Int}:∀{n:Nat}{c:List Int},c∈chW ws n->c.length=n/\∀w∈c,w∈ws
 |0,c,h=>by
  simp[chW]at h;subst h;exact⟨rfl,fun w hw=>by simp at hw⟩
 |n+1,c,h=>by
  obtain⟨l,hl,hc⟩:=List.mem_flatten.mp h;obtain⟨d,hd,rfl⟩:=qAf.mp hl;obtain⟨w,hw,rfl⟩:=qAf.mp hc
  have:=zD1 hd
  refine⟨by simp[this.1],fun v hv=>?_⟩
  rcases qAn.mp hv with hv|hv
  ·exact this.2 v hv
  ·rw[qAi.mp hv];exact hw
theorem zGR(ws:List Int)(A:List (List Int))(hw:ws.length<=3)(hA:A.length<=1000)(hr:∀r∈A,r.length<=100):zC4 [mat A,.scr ws]=okR (mat (lng ws A)):=by
 unfold zC4 zFD;refine zBJ rfl (zE8 fun bb hb=>?_);refine zBK (r:=[some (mat A,0),some (.scr ws,0),some (.lst [],9),none]) (by simp[startO]) ?_;subst hb;refine zE8 fun bb hb=>?_
 unfold sFor;rw[show iSq (eV 0) (frz (frzAt [0] [some (mat A,0),some (.scr ws,0),some (.lst [],9),none]))=okR (A.map rowD) by simp[mat],bindR_ok];show nxR (forGo (.one 3) _ (A.map rowD) [some (mat A,0),some (.scr ws,0),some (mat (lng ws (A.take 0)),9),none]) _;refine zTE rowD A (fun q r=>∃o3,r=[some (mat A,0),some (.scr ws,0),some (mat (lng ws (A.take q)),9),o3]) ⟨none,rfl⟩ (fun q c hq r hr'=>?_) fun r hr'=>?_
 ·obtain⟨o3,rfl⟩:=hr';have hcl:c.length<=100:=hr c (qBq hq);have hqA:q<A.length:=(qA4.mp hq).1;have hc:∀x:Dt,eComp (iSq (eV 1)) 1 (.one 4) Mi.tYes (eB addD (eV 3) (eLst (aCons (eV 4) aNil))) [some (mat A),some (.scr ws),some x,some (rowD c)]=okR (.lst ((ext1 ws c).map rowD)):=by
   intro x;refine qE6 (zBN (i:=4) Dt.int (fun w=>rowD (c++[w])) ws rfl rfl (fun w _=>?_) _ (by simp) (by lia)) ?_
   ·have e1:Dt.lst [.int w]=rowD [w]:=rfl;have e2:=addR c [w] (by simp;lia);simp[e1,e2]
   ·unfold ext1;rw[qAp];rfl
  have hfl:(lng ws (A.take q)).length<=3000:=by
   rw[zKL,qBx]
   have:=Nat.mul_le_mul hw (show min q A.length<=1000 by lia)
   lia
  have hel:(ext1 ws c).length=ws.length:=by simp[ext1]
  have hd3:=zGI (ext1 ws c);refine zBK (r:=[some (mat A,0),some (.scr ws,0),some (mat (lng ws (A.take q)++ext1 ws c),9),some (rowD c,0)]) ?_ ⟨some (rowD c,0),?_⟩
  ·unfold sExt;show zA2 (eComp _ 1 _ _ _ [some (mat A),some (.scr ws),some _,some (rowD c)]) _=_;rw[hc,bindR_ok];dsimp only;rw[if_pos ⟨by rw[qAh,qAh];lia,by lia,by lia⟩];simp[mat]
  ·have ht:A.take (q+1)=A.take q++[c]:=by rw[qEx,hq];rfl
   rw[ht];unfold lng;simp
 ·obtain⟨o3,rfl⟩:=hr';subst hb;rw[qCv];simp[sRetV]
theorem zPJ(ws:List Int)(n:Nat)(hn:n<=6)(hw:ws.length<=3):zBU [.int (n:Int),.scr ws]=okR (mat (chW ws n)):=by
 unfold zBU zDQ;refine zBJ rfl (zE8 fun bb hb=>?_);have h6:¬(6:Int)<n:=by lia
 refine zBK (r:=[some (.int (n:Int),0),some (.scr ws,0),none,none]) (by simp[startO,h6]) ?_;subst hb;refine zE8 fun bb hb=>?_
 refine zBK (r:=[some (.int (n:Int),0),some (.scr ws,0),some (mat (chW ws 0),10),none]) (by
  have:mat (chW ws 0)=.lst [.lst []]:=rfl
  rw[this];simp) ?_
 subst hb;refine zE8 fun bb hb=>?_
 rw[zCF,zE3 (n:=n) (by simp) (by lia),bindR_ok];refine zG7 (fun k r=>∃o3 l,9<=l/\l<=10/\r=[some (.int (n:Int),0),some (.scr ws,0),some (mat (chW ws k),l),o3]) ⟨none,10,by lia,by lia,rfl⟩ (fun k hk r hr=>?_) fun r hr=>?_
 ·obtain⟨o3,l,h1,h2,rfl⟩:=hr;have hlen:(chW ws k).length<=1000:=by
   rw[zF6];have h1:ws.length ^ k<=3 ^ k:=qEh hw k;have h2:3 ^ k<=3 ^ 6:=qC9 (by lia) (by lia)
   lia
  have h:=zGR ws (chW ws k) hw hlen fun r hr=>by rw[(zD1 hr).1];lia
  have hd:=zC8 (chW ws (k+1));have h':zC4 [mat (chW ws k),.scr ws]=okR (mat (chW ws (k+1))):=h;refine zBK (r:=[some (.int (n:Int),0),some (.scr ws,0),some (mat (chW ws (k+1)),9),some (.int (k:Nat),0)]) ?_ ⟨_,9,by lia,by lia,rfl⟩;simp[h',show(mat (chW ws (k+1))).dep<=9 by lia]
 ·obtain⟨o3,l,h1,h2,rfl⟩:=hr;subst hb;have hd:=zC8 (chW ws n);simp[sRetV];intro _ b
  have:=b (by lia) (by lia)
  lia
theorem zMR{ρ:Rh}{e:EM}{c:TM}{i j:Nat}(xs:List Dt)(g:Nat->Dt)(f:Nat->Bool)(hi:i=ρ.length)(hj:j=ρ.length+1)(it:IM)(hit:it ρ=okR (enumD 0 xs))(hn:xs.length<=100000)(hc:∀k x,xs[k]?=some x->c (ρ++[some (.int (k:Nat)),some x])=okR (f k))(h:∀k x,xs[k]?=some x->e (ρ++[some (.int (k:Nat)),some x])=okR (g k)):eComp it 2 (.tup [i,j]) c e ρ=okR (.lst (((qA8 xs.length).filter f).map g)):=by
 subst hi hj;unfold eComp;rw[hit,bindR_ok,if_pos ⟨by rw[zID];exact hn,by simp[Tg.idx]⟩];have go:∀(m k:Nat)(acc:List Dt),k+m=xs.length->compGo ρ 2 (.tup [ρ.length,ρ.length+1]) c e (enumD k (xs.drop k)) acc=okR (acc++((List.range' k m).filter f).map g):=by
  intro m
  induction m with
  |zero=>
   intro k acc hk;rw[List.drop_of_length_le (by lia)];simp[enumD,compGo]
  |succ m ih=>
   intro k acc hk;have hx:xs[k]?=some xs[k]:=qA7 (by lia);rw[qBp (by lia),enumD,compGo];have es:zAM (ρ++qA2 2 none) [(ρ.length,.int (k:Nat)),(ρ.length+1,xs[k])]=ρ++[some (.int (k:Nat)),some xs[k]]:=by
    simp[zAM]
   show zA2 (c (zAM (ρ++qA2 2 none) [(ρ.length,.int (k:Nat)),(ρ.length+1,xs[k])])) _=_;rw[es,hc k _ hx,bindR_ok,List.range'_succ];cases hf:f k with
   |true=>
    rw[if_pos rfl];show zA2 (e (zAM (ρ++qA2 2 none) [(ρ.length,.int (k:Nat)),(ρ.length+1,xs[k])])) _=_;rw[es,h k _ hx,bindR_ok,ih (k+1) _ (by lia),qBv hf];simp
   |false=>
    rw[if_neg (by simp),ih (k+1) _ (by lia),qBw (by simp[hf])]
 have:=go xs.length 0 [] (by lia)
 rw[qCs]at this;rw[this,bindR_ok,List.range_eq_range'];simp
theorem zSI{ρ:Rh}{am:AM}{i j:Nat}(a b:List Int)(hi:i=ρ.length)(hj:j=ρ.length+1)(ha:am ρ=okR [rowD a,rowD b])(hl:a.length=b.length)(hz:a.length<=1000):eComp (iZi am) 2 (.tup [i,j]) Mi.tYes (eB modD (eB addD (eV i) (eV j)) (eC (.int 2))) ρ=okR (rowD (addB a b)):=by
 subst hi hj;have hzl:∀a b:List Int,a.length=b.length->(zipD (a.map Dt.int) (b.map Dt.int)).length=a.length:=by
  intro a
  induction a with
  |nil=>intro b h;cases b with|nil=>rfl|cons=>simp at h
  |cons x a ih=>intro b h;cases b with|nil=>simp at h|cons y b=>simp[zipD,ih b (by simpa using h)]
 unfold eComp;have hit:iZi am ρ=okR (zipD (a.map Dt.int) (b.map Dt.int)):=by
  unfold iZi;rw[ha,bindR_ok];rfl
 rw[hit,bindR_ok,if_pos ⟨by rw[hzl a b hl];lia,by simp[Tg.idx]⟩];have go:∀(a b:List Int)(acc:List Dt),a.length=b.length->compGo ρ 2 (.tup [ρ.length,ρ.length+1]) Mi.tYes (eB modD (eB addD (eV ρ.length) (eV (ρ.length+1))) (eC (.int 2))) (zipD (a.map Dt.int) (b.map Dt.int)) acc=okR (acc++(addB a b).map Dt.int):=by
  intro a
  induction a with
  |nil=>intro b acc h;cases b with|nil=>simp[zipD,compGo,addB]|cons=>simp at h
  |cons x a ih=>
   intro b acc h;cases b with
   |nil=>simp at h
   |cons y b=>
    rw[qAg,qAg,zipD,compGo];have es:zAM (ρ++qA2 2 none) [(ρ.length,.int x),(ρ.length+1,.int y)]=ρ++[some (.int x),some (.int y)]:=by
     simp[zAM]
    show zA2 (okR true) _=_;rw[bindR_ok,if_pos rfl];show zA2 (eB modD (eB addD (eV ρ.length) (eV (ρ.length+1))) (eC (.int 2)) (zAM (ρ++qA2 2 none) [(ρ.length,.int x),(ρ.length+1,.int y)])) _=_;rw[es,show eB modD (eB addD (eV ρ.length) (eV (ρ.length+1))) (eC (.int 2)) (ρ++[some (.int x),some (.int y)])=okR (.int ((x+y)%2)) by simp,bindR_ok,ih b _ (by simpa using h)];simp[addB]
 rw[go a b [] hl,bindR_ok];simp[rowD]
theorem zQU{r:Ro}{i l a:Nat}{A:List (List Int)}{v:List Int}{e1 e2:EM}(h:r[i]?=some (some (mat A,l+2)))(h2:e2 (full r)=okR (rowD v))(h1:e1 (full r)=okR (.int (a:Nat)))(ha:a<A.length):sItem i 1 e1 e2 r=okR (.nx (r.set i (some (mat (A.set a v),l+2)))):=by
 unfold sItem;rw[h2,bindR_ok,h];show zA2 (e1 (full r)) _=_;rw[h1,bindR_ok];dsimp only;rw[zLT (by lia) (by simp;lia)];dsimp only;rw[if_pos ⟨by rw[zCQ];lia,by rw[zCQ];lia⟩,qBr];unfold mat;rw[qGk]
theorem zJL{α β:Type}(f:α->β):∀(l:List α)(i:Nat),(l.eraseIdx i).map f=(l.map f).eraseIdx i
 |[],_=>rfl
 |a::r,0=>rfl
 |a::r,i+1=>by simp[zJL f r i]
def RsS(n:Nat)(T:List (List Int))(p:Nat)(r:Ro):Prop:=∃A ps q l1 o2 o3 o4 o5,r=[some (mat A,2),some (.int (q:Nat),l1),o2,o3,o4,o5]/\LR n T A ps p q/\A.length<=n/\l1<=1
theorem zQ5(n:Nat)(T:List (List Int))(hT:T.length=n)(hr:∀r∈T,RowN n r)(hn:n<=10):∃q:Nat,zDF [mat T]=okR (.int (q:Int))/\cnt n (Ker T)=2 ^ q:=by
 suffices h:eiR (zEI [some (mat T,0),none,none,none,none,none]) (fun _=>False) (fun d=>∃q:Nat,d=.int (q:Int)/\cnt n (Ker T)=2 ^ q) by
  rcases h with⟨_,_,z⟩|⟨d,h1,q,rfl,h2⟩
  ·exact z.elim
  ·exact⟨q,zBJ rfl h1,h2⟩
 unfold zEI;have hc:eComp (iSq (eV 0)) 1 (.one 6) Mi.tYes (eBi listD (aCons (eV 6) aNil)) [some (mat T),none,none,none,none,none]=okR (mat T):=
  zBN rowD rowD T rfl rfl (fun r _=>by simp) _ (by simp[mat]) (by lia)
 have hdT:=zC8 T;refine zGY (P:=fun r=>r=[some (mat T,2),none,none,none,none,none]) (zMP (by simp[hc,hdT])) ?_
 rintro r rfl
 refine zGY (P:=fun r=>r=[some (mat T,2),some (.int 0,0),none,none,none,none]) (zMP (by simp)) ?_
 rintro r rfl
 refine zGY (P:=RsS n T n) (zMP ?_) ?_
 ·rw[zCF,zE3 (n:=n) (by simp[hT]) (by lia),bindR_ok];refine zG7 (RsS n T) ⟨T,[],0,0,none,none,none,none,rfl,LR.start hr,by lia,by lia⟩ (fun p hp r hr0=>?_) fun r h=>h
  obtain⟨A,ps,q,l1,o2,o3,o4,o5,rfl,a,hlA,hl1⟩:=hr0
  let bs:List Nat:=(qA8 A.length).filter fun k=>decide (ent A k p=1)
  have hbs:∀o1 o3 o4 o5:Option Dt,eComp (iEn (aCons (eV 0) aNil)) 2 (.tup [6,7]) (tB (eB eqD (eB ixD (eV 7) (eV 2)) (eC (.int 1)))) (eV 6) [some (mat A),o1,some (.int (p:Nat)),o3,o4,o5]=okR (rowD (numL bs)):=by
   intro o1 o3 o4 o5
   have:=zMR (ρ:=[some (mat A),o1,some (.int (p:Nat)),o3,o4,o5]) (c:=tB (eB eqD (eB ixD (eV 7) (eV 2)) (eC (.int 1)))) (e:=eV 6) (i:=6) (j:=7) (A.map rowD) (fun k=>Dt.int (k:Int)) (fun k=>decide (ent A k p=1)) rfl rfl (iEn (aCons (eV 0) aNil)) (by simp[mat]) (by simp;lia) (fun k x hx=>by
    have hk:k<A.length:=by have:=(qA4.mp hx).1;simpa using this
    have hx':x=rowD (A.getD k []):=by
     rw[qAe,qA7 hk]at hx;cases hx;simp[qA0,qA7 hk]
    subst hx';have i1:=zI3 (A.getD k []) p (by rw[(a.rows _ (getD_mem hk)).1];exact hp);simp[-qA0,i1,ent]
    rfl) (fun k x hx=>by simp)
   rw[this,numD,qAh]
  refine zFX fun bb hb=>?_
  refine zBK (r:=[some (mat A,2),some (.int (q:Nat),l1),some (.int (p:Nat),0),some (rowD (numL bs),1),o4,o5]) (by simp[hbs]) ?_;subst hb;rw[zFE];have hnl:(numL bs).length=bs.length:=by simp[numL]
  by_cases h0:bs.length=0
  ·rw[show tB (eB eqD (eBi lenD (aCons (eV 3) aNil)) (eC (.int 0))) (full [some (mat A,2),some (.int (q:Nat),l1),some (.int (p:Nat),0),some (rowD (numL bs),1),o4,o5])=okR true by simp[hnl,h0],bindR_ok,if_pos rfl];refine zBK (r:=[some (mat A,2),some (.int ((q+1:Nat):Int),1),some (.int (p:Nat),0),some (rowD (numL bs),1),o4,o5]) (by simp) ⟨A,ps,q+1,_,_,_,_,_,rfl,a.miss fun r hrA h1=>?_,hlA,by lia⟩;obtain⟨i,hi,rfl⟩:=mem_getD (d:=[]) hrA
   have:i∈bs:=qAq.mpr ⟨by simpa using hi,by simpa[ent]using h1⟩
   have:=qDu this
   lia
  ·rw[show tB (eB eqD (eBi lenD (aCons (eV 3) aNil)) (eC (.int 0))) (full [some (mat A,2),some (.int (q:Nat),l1),some (.int (p:Nat),0),some (rowD (numL bs),1),o4,o5])=okR false by simp[hnl];intro z;rw[z]at h0;simp at h0,bindR_ok,if_neg (by simp)];obtain⟨i,hbi⟩:∃i,bs.getD 0 0=i:=⟨_,rfl⟩
   have him:i∈bs:=by rw[<- hbi];exact getD_mem (by lia)
   obtain⟨g1,g2⟩:=qAq.mp him;have hi:i<A.length:=by simpa using g1
   have hone:(A.getD i []).getD p 0=1:=of_decide_eq_true g2;have hhit:=a.hit hp hi hone;have hlr:=a.rows _ (getD_mem (d:=[]) hi);have ix0:ixD (rowD (numL bs)) (.int 0)=some (.int (i:Nat)):=by
    have:=zI3 (numL bs) 0 (by lia)
    rw[show(numL bs).getD 0 0=((bs.getD 0 0:Nat):Int) by unfold numL;rw[zDX (d:=0) (by lia)],hbi]at this;exact this
   refine zFX fun bb hb=>?_
   refine zBK (r:=[some (mat (A.eraseIdx i),2),some (.int (q:Nat),l1),some (.int (p:Nat),0),some (rowD (numL bs),1),some (rowD (A.getD i []),1),o5]) ?_ ?_
   ·have hqx:ixA (A.map rowD).length (i:Int)=some i:=by rw[zLT (by lia) (by simp;lia)];simp
    have hge:(A.map rowD)[i]?=some (rowD (A.getD i [])):=by
     rw[qAe,qA7 hi];simp[qA0,qA7 hi]
    unfold sPop;show zA2 (eB ixD (eV 3) (eC (.int 0)) (full [some (mat A,2),some (.int (q:Nat),l1),some (.int (p:Nat),0),some (rowD (numL bs),1),o4,o5])) _=_;rw[show eB ixD (eV 3) (eC (.int 0)) (full [some (mat A,2),some (.int (q:Nat),l1),some (.int (p:Nat),0),some (rowD (numL bs),1),o4,o5])=okR (.int (i:Nat)) by simp[ix0],bindR_ok];dsimp only;rw[hqx];dsimp only;rw[hge];dsimp only;rw[if_pos ⟨by lia,by simp;lia⟩];unfold mat;rw[zJL];rfl
   subst hb
   generalize hlead:A.getD i []=lead at *
   have hEl:(A.eraseIdx i).length<=n:=by have:=List.length_eraseIdx_le A i;lia
   have hEr:∀r∈A.eraseIdx i,RowN n r:=fun r hr'=>a.rows r (qDh hr')
   have hfin:tko A p i=(A.eraseIdx i).map fun r=>if r.getD p 0=1 then addB r lead else r:=by unfold tko;rw[hlead]
   generalize A.eraseIdx i=B at *
   let st:List Int->List Int:=fun r=>if r.getD p 0=1 then addB r lead else r
   rw[zCF,zE3 (n:=B.length) (by simp) (by lia),bindR_ok];refine zG7 (fun k r=>∃o5,r=[some (mat ((B.take k).map st++B.drop k),2),some (.int (q:Nat),l1),some (.int (p:Nat),0),some (rowD (numL bs),1),some (rowD lead,1),o5]) ⟨o5,by simp⟩ (fun k hk r hr'=>?_) fun r hr'=>?_
   ·obtain⟨o5,rfl⟩:=hr';have hBk:=hEr _ (getD_mem (d:=[]) hk);have hCl:((B.take k).map st++B.drop k).length=B.length:=by simp;lia
    have hCk:((B.take k).map st++B.drop k).getD k []=B.getD k []:=by
     rw[qA0,qA0,qAa (by simp;lia)];simp[Nat.min_eq_left (qB6 hk)]
    have hset:((B.take k).map st++B.drop k).set k (st (B.getD k []))=(B.take (k+1)).map st++B.drop (k+1):=by
     have hl:((B.take k).map st).length=k:=by simp;lia
     have hg:B.getD k []=B[k]:=by simp[qA0,qA7 hk]
     rw[qE0 _ _ (by lia),hl,Nat.sub_self,qBp hk,List.set_cons_zero,qCk hk,qB1,qCo,hg];rfl
    have i1:=zYK ((B.take k).map st++B.drop k) k (by lia);rw[hCk]at i1;have i2:=zI3 (B.getD k []) p (by rw[hBk.1];exact hp);rw[zFE]
    by_cases h1:(B.getD k []).getD p 0=1
    ·rw[show tB (eB eqD (eB ixD (eB ixD (eV 0) (eV 5)) (eV 2)) (eC (.int 1))) (full ([some (mat ((B.take k).map st++B.drop k),2),some (.int (q:Nat),l1),some (.int (p:Nat),0),some (rowD (numL bs),1),some (rowD lead,1),o5].set 5 (some (.int (k:Nat),0))))=okR true by simp[-qA0,-qEp,i1,i2,h1],bindR_ok,if_pos rfl];have hz:=zSI (ρ:=[some (mat ((B.take k).map st++B.drop k)),some (.int (q:Nat)),some (.int (p:Nat)),some (rowD (numL bs)),some (rowD lead),some (.int (k:Nat))]) (am:=aCons (eB ixD (eV 0) (eV 5)) (aCons (eV 4) aNil)) (i:=6) (j:=7) (B.getD k []) lead rfl rfl (by simp[-qA0,-qEp,i1]) (by rw[hBk.1,hlr.1]) (by rw[hBk.1];lia);have hst:st (B.getD k [])=addB (B.getD k []) lead:=if_pos h1;refine zBK (zQU (l:=0) (a:=k) (A:=(B.take k).map st++B.drop k) rfl hz (by simp) (by lia)) ⟨some (.int (k:Nat),0),?_⟩;rw[<- hset,hst];rfl
    ·rw[show tB (eB eqD (eB ixD (eB ixD (eV 0) (eV 5)) (eV 2)) (eC (.int 1))) (full ([some (mat ((B.take k).map st++B.drop k),2),some (.int (q:Nat),l1),some (.int (p:Nat),0),some (rowD (numL bs),1),some (rowD lead,1),o5].set 5 (some (.int (k:Nat),0))))=okR false by simp[-qA0,-qEp,i1,i2,h1],bindR_ok,if_neg (by simp)];have hst:st (B.getD k [])=B.getD k []:=if_neg h1;refine⟨some (.int (k:Nat),0),?_⟩;rw[<- hset,hst];rw[show((B.take k).map st++B.drop k).set k (B.getD k [])=(B.take k).map st++B.drop k by
      rw[<- hCk,qA0,qA7 (by lia)]
      simp]
     rfl
   ·obtain⟨o5,rfl⟩:=hr';rw[qCv,qDr,qCf,show B.map st=tko A p i from hfin.symm];exact⟨tko A p i,_,q,l1,_,_,_,_,rfl,hhit,by rw[hfin,qAh];exact hEl,hl1⟩
 rintro r ⟨A,ps,q,l1,o2,o3,o4,o5,rfl,a,_,hl1⟩
 refine .inr ⟨.int (q:Int),?_,q,rfl,a.fin⟩;simp[sRetV]
 lia
noncomputable def dg(v:Nat->Int)(q:Nat)(ks:List Nat)(g:Nat->Nat->Int):Nat->Nat->Int:=fun a b=>if a=b/\a<q then v (ks.getD a 0)else g a b
theorem zP0{T C:Dt}{l0 l1 l2:Nat}{ks:List Nat}{g:Nat->Nat->Int}{e2:EM}(v:Nat->Int)(hz:ks.length<=1000)(he:∀q k X,ks[q]?=some k->e2 [some T,some C,some (rowD (numL ks)),some X,some (.int (q:Nat)),some (.int (k:Nat))]=okR (.int (v k))) :
  nxR (sFor [2] (iEn (aCons (eV 2) aNil)) (.tup [4,5]) (sItem2 3 0 (eV 4) (eV 4) e2) [some (T,l0),some (C,l1),some (rowD (numL ks),l2),some (mat (tab ks.length g),2),none,none]) fun r=>∃o4 o5,r=[some (T,l0),some (C,l1),some (rowD (numL ks),0),some (mat (tab ks.length (dg v ks.length ks g)),2),o4,o5]:=by
 unfold sFor;rw[show iEn (aCons (eV 2) aNil) (frz (frzAt [2] [some (T,l0),some (C,l1),some (rowD (numL ks),l2),some (mat (tab ks.length g),2),none,none]))=okR (enumD 0 (ks.map fun k:Nat=>Dt.int (k:Int))) by simp[numD],bindR_ok];show nxR (forGo (.tup [4,5]) _ (enumD 0 (ks.map fun k:Nat=>Dt.int (k:Int))) [some (T,l0),some (C,l1),some (rowD (numL ks),0),some (mat (tab ks.length g),2),none,none]) _;refine zO6 (ks.map fun k:Nat=>Dt.int (k:Int)) (fun q r=>∃o4 o5,r=[some (T,l0),some (C,l1),some (rowD (numL ks),0),some (mat (tab ks.length (dg v q ks g)),2),o4,o5]) ⟨none,none,?_⟩ (fun q x hx r hr=>?_) fun r h=>by rw[qAh]at h;exact h
 ·have:dg v 0 ks g=g:=by funext a b;unfold dg;rw[if_neg (by lia)]
  rw[this]
 ·obtain⟨o4,o5,rfl⟩:=hr;rw[qAe]at hx;cases hk:ks[q]? with
  |none=>rw[hk]at hx;cases hx
  |some k=>
   rw[hk]at hx;cases hx;have hq:q<ks.length:=(qA4.mp hk).1;refine zBK (zJH (l:=0) (a:=q) (b:=q) (v:=v k) rfl (by simp) (by simp) (he q k _ hk) hq hq) ⟨some (.int (q:Nat),0),some (.int (k:Nat),0),?_⟩
   have:(fun x y=>if x=q/\y=q then v k else dg v q ks g x y)=dg v (q+1) ks g:=by
    funext x y
    unfold dg;have hkq:ks.getD q 0=k:=by rw[qA0,hk];rfl
    by_cases h:x=q/\y=q
    ·rw[if_pos h,if_pos (by lia),h.1,hkq]
    ·rw[if_neg h]
     by_cases h2:x=y/\x<q
     ·rw[if_pos h2,if_pos (by lia)]
     ·rw[if_neg h2,if_neg (by lia)]
   rw[this];rfl
noncomputable def kept(n:Nat)(c:List Int):List Nat:=(qA8 n).filter fun k=>decide (c.getD k 0≠0)
theorem zI1{n:Nat}{c:List Int}:∀k∈kept n c,k<n:=fun k hk=>by
 have:=(qAq.mp hk).1
 simpa using this
theorem zI2(n:Nat)(c:List Int):(kept n c).length<=n:=qAj (qE4 _ _) (by simp)
def cpF(n:Nat)(c:List Int)(f:Nat->Nat->Int):Nat->Nat->Int:=dg (fun k=>if c.getD k 0=1 then 1 else 0) (kept n c).length (kept n c) (sub (kept n c) f)
theorem zKT{n:Nat}{f:Nat->Nat->Int}{c:List Int}(hn:n<=10)(hc:c.length=n):zBT [mat (tab n f),rowD c]=okR (mat (tab (kept n c).length (cpF n c f))):=by
 have hkl:=zI2 n c;have h1:zBF [rowD c]=okR (rowD (numL (kept n c))):=by
  unfold zBF zDJ;have hcc:eComp (iR1 (aCons (eBi lenD (aCons (eV 0) aNil)) aNil)) 1 (.one 1) (tB (eB neD (eB ixD (eV 0) (eV 1)) (eC (.int 0)))) (eV 1) [some (rowD c)]=okR (rowD (numL (kept n c))):=by
   rw[numD];refine zBY (fun k:Nat=>Dt.int (k:Int)) _ (fun k=>decide (c.getD k 0≠0)) (qA8 n) rfl (fun k hk=>?_) (fun k _ _=>by simp) _ (by rw[zE3 (n:=n) (by simp[hc]) (by lia),zFN]) (by simp;lia);have i1:=zI3 c k (by rw[hc];simpa using hk);simp[-qA0,i1]
  simp[startO,hcc]
 have h2:=zQF n f (kept n c) zI1 (by lia);have hd:=zC8 (tab (kept n c).length (sub (kept n c) f));unfold zBT zEW;refine zBJ rfl (zE8 fun bb hb=>?_);refine zBK (r:=[some (mat (tab n f),0),some (rowD c,0),some (rowD (numL (kept n c)),1),none,none,none]) (by simp[startO,h1]) ?_;subst hb;refine zE8 fun bb hb=>?_
 refine zBK (r:=[some (mat (tab n f),0),some (rowD c,0),some (rowD (numL (kept n c)),1),some (mat (tab (kept n c).length (sub (kept n c) f)),2),none,none]) (by simp[h2,hd]) ?_;subst hb;refine zE8 fun bb hb=>?_
 obtain⟨r',g1,o4,o5,rfl⟩:=zBI (zP0 (T:=mat (tab n f)) (C:=rowD c) (l0:=0) (l1:=0) (l2:=1) (ks:=kept n c) (g:=sub (kept n c) f) (e2:=eIf (tB (eB eqD (eB ixD (eV 1) (eV 5)) (eC (.int 1)))) (eC (.int 1)) (eC (.int 0))) (fun k=>if c.getD k 0=1 then 1 else 0) (by lia) fun q k X hk=>by
  have i1:=zI3 c k (by rw[hc];exact zI1 k (qBq hk))
  by_cases h:c.getD k 0=1
  ·simp[-qA0,i1,h]
  ·simp[-qA0,i1,h])
 refine zBK g1 ?_;subst hb;simp[sRetV,cpF]
theorem zD0{n m:Nat}{P Q:List Int->Prop}(f:List Int->List Int)(hf:∀x,RowN n x->P x->RowN m (f x)/\Q (f x))(hi:∀x y,RowN n x->P x->RowN n y->P y->f x=f y->x=y):cnt n P<=cnt m Q:=by
 classical
 unfold cnt;have h1:(((allv n).filter fun x=>decide (P x)).map f).Nodup:=zEM ((zF9 n).filter _) fun x hx y hy=>by
  obtain⟨a1,a2⟩:=qAq.mp hx;obtain⟨b1,b2⟩:=qAq.mp hy;exact hi x y (allv_mem.mp a1) (by simpa using a2) (allv_mem.mp b1) (by simpa using b2)
 have h2:=zG8 _ ((allv m).filter fun x=>decide (Q x)) h1 fun z hz=>by
  obtain⟨x,hx,rfl⟩:=qAf.mp hz;obtain⟨g1,g2⟩:=qAq.mp hx;obtain⟨k1,k2⟩:=hf x (allv_mem.mp g1) (by simpa using g2);exact qAq.mpr ⟨allv_mem.mpr k1,by simpa using k2⟩
 rw[qAh]at h2;exact h2
theorem zDU(g:Nat->Int)(p:Nat->Bool):∀l:List Nat,(∀k∈l,p k=false->g k=0)->(l.map g).sum=((l.filter p).map g).sum
 |[],_=>rfl
 |a::l,h=>by
  have ih:=zDU g p l fun k hk=>h k (by simp[hk])
  rw[qBy];cases e:p a
  ·simp[ih,h a (by simp) e]
  ·simp[ih]
theorem zN7(g:Nat->Int)(ks:List Nat):sumN ks.length (fun a=>g (ks.getD a 0))=(ks.map g).sum:=by
 unfold sumN
 congr 1
 refine qCw (by simp) fun i h1 h2=>?_
 have hi:i<ks.length:=by simpa using h2
 rw[qF8,qF8,qCg,qA0,qA7 hi];rfl
noncomputable def zW6(n:Nat)(f:Nat->Nat->Int)(p:Nat):List Nat:=(qA8 n).filter fun k=>decide (f p k=1) && !decide ((k:Int)=(p:Int))
noncomputable def chg(f:Nat->Nat->Int)(b:Nat->Nat->Bool):Nat->Nat->Int:=fun i j=>if b i j=true then 1-f i j else f i j
def pvA(n:Nat)(f:Nat->Nat->Int)(v:Nat):Nat->Nat->Int:=chg f fun i j=>decide (i∈zW6 n f v)&&decide (j∈zW6 n f v)
noncomputable def off(a:Nat->Int)(u:Nat):Nat->Int:=fun i=>if i=u then 0 else a i
noncomputable def exB(a b:Nat->Int)(i j:Nat):Bool:=(decide (a i=1)||decide (b i=1))&&((decide (a j=1)||decide (b j=1)) && !(decide (a i=a j)&&decide (b i=b j)))
noncomputable def swq(n u v:Nat):List Nat:=((qA8 n).set u v).set v u
def sdA(f:Nat->Nat->Int)(u v:Nat)(w:Nat):Nat->Int:=off (off (f w) u) v
def pvB(n:Nat)(f:Nat->Nat->Int)(u v:Nat):Nat->Nat->Int:=sub (swq n u v) (chg f (exB (sdA f u v u) (sdA f u v v)))
theorem zrow(n:Nat)(hn:n<=1000):repD (.lst [.int 0]) (.int (n:Int))=some (rowD ((qA8 n).map fun _=>(0:Int))):=by
 unfold repD;dsimp only;rw[if_pos ⟨⟨by lia,by lia⟩,by simp;lia⟩,qBr]
 have:∀m:Nat,(qA2 m [Dt.int 0]).flatten=((qA8 m).map fun _=>(0:Int)).map Dt.int:=fun m=>by
  induction m with
  |zero=>rfl
  |succ m ih=>rw[List.replicate_succ',List.flatten_append,ih,qC2,qB1,qB1];rfl
 rw[this];rfl
theorem zYQ{n:Nat}{f:Nat->Nat->Int}{ρ:Rh}{i m:Nat}(hm:m=ρ.length)(hi:ρ[i]?=some (some (mat (tab n f))))(hn:n<=1000):eComp (iSq (eV i)) 1 (.one m) Mi.tYes (eBi listD (aCons (eV m) aNil)) ρ=okR (mat (tab n f)):=by
 refine zBN rowD rowD (tab n f) rfl hm (fun r _=>bi1 (d1:=rowD r) (v1 (by rw[hm,qAa (qA6 _)];simp)) rfl) _ ?_ (by rw[zEZ];lia);show zA2 (eV i ρ) _=_;rw[v1 hi];rfl
def GdA(n:Nat)(f:Nat->Nat->Int)(v:Nat):Prop:=v<n/\f v v=1
def GdB(n:Nat)(f:Nat->Nat->Int)(u v:Nat):Prop:=u<n/\v<n/\u≠v/\f u v=1/\f u u=0/\f v v=0
inductive Du(n:Nat)(f:Nat->Nat->Int):List Int->Option (Nat->Nat->Int)->Prop where
 |one {v:Nat} (h:GdA n f v):Du n f [(v:Int)] (some (pvA n f v))
 |two {u v:Nat} (h:GdB n f u v):Du n f [(u:Int),(v:Int)] (some (pvB n f u v))
 |no {l:List Int} (h1:∀v:Nat,l=[(v:Int)]->¬GdA n f v) (h2:∀u v:Nat,l=[(u:Int),(v:Int)]->¬GdB n f u v):Du n f l none
theorem oo:(("other":Str)==("one":Str))=false:=by decide +kernel
section
variable{P0 P1 P2 P3 P4:List Nat}{a b c d x y:Nat}
noncomputable def q1(P0 P1:List Nat):Nat:=P0.length+1+P1.length
noncomputable def q2(P0 P1 P2:List Nat):Nat:=P0.length+1+P1.length+1+P2.length
noncomputable def q3(P0 P1 P2 P3:List Nat):Nat:=P0.length+1+P1.length+1+P2.length+1+P3.length
end
section
variable{cs u v:List Nat}
end
section
variable{P0 P1 P2 P3 P4:List Nat}{a b c d x y:Nat}
end
theorem app4{r:Ro}{i n k:Nat}{e:EM}{ds:List Dt}{d:Dt}(h:r[i]?=some (some (.lst ds,k+1)))(he:e (full r)=okR d)(hl:ds.length<=100000)(h1:d.dep<=n)(h2:d.dep<=k):sApp i n e r=okR (.nx (r.set i (some (.lst (ds++[d]),k+1)))):=by
 unfold sApp;rw[h];dsimp only;rw[he,bindR_ok];exact if_pos ⟨hl,h1,h2⟩
theorem st4{c:TM}{a:SM}{r:Ro}{X:R Out}(hc:c (full r)=okR true)(ha:a r=X):sIf c a sNil r=X:=by
 rw[zFE,hc,bindR_ok,if_pos rfl,ha]
noncomputable def sh4(b:Int):Dt:=.ins "Shift" [("by",.i b)]
theorem n1:(("Swap":Str)==("Turn":Str))=false:=by decide +kernel
theorem n2:(("Mirror":Str)==("Turn":Str))=false:=by decide +kernel
theorem n3:(("Mirror":Str)==("Swap":Str))=false:=by decide +kernel
theorem n6:(("Shift":Str)==("Mirror":Str))=false:=by decide +kernel
theorem m1:(("done":Str)==("letter":Str))=false:=by decide +kernel
theorem m2:(("done":Str)==("one":Str))=false:=by decide +kernel
theorem m3:(("done":Str)==("other":Str))=false:=by decide +kernel
theorem o1:(("other":Str)==("one":Str))=false:=by decide +kernel
section
variable{P0 P1 P2 P3 P4:List Nat}{a b x y:Nat}
end
theorem cmpl{ns:List Int}{ρ:Rh}{i:Nat}(h:ρ[i]?=some (some (.scr ns))):eBi lenD (aCons (eV i) aNil) ρ=okR (.int (ns.length:Int)):=bi1 (v1 h) rfl
theorem ixS{ns:List Int}{k:Nat}(h:k<ns.length):ixD (.scr ns) (.int (k:Int))=some (.int (ns.getD k 0)):=by
 have:=zTS (ns:=ns) (i:=(k:Int)) (by lia) (by lia)
 rw[qBr]at this
 show(itA ns (k:Int)).map Dt.int=_
 rw[this];rfl
theorem zW8(ns:List Int)(hl:ns.length<=63):∃cl:List Int,zBV [.scr ns,.int 24]=okR (rowD cl)/\24<=cl.length/\cl.length<=63/\∀c∈cl,0<=c:=by
 have hmin:minD [.int 63,.int (ns.length:Int)]=some (.int (ns.length:Int)):=by
  show some (Dt.int (if(ns.length:Int)<63 then(ns.length:Int)else 63))=_
  split
  ·rfl
  ·rw[show(63:Int)=(ns.length:Int) by lia]
 have hmax:maxD [.int 24,.int (ns.length:Int)]=some (.int ((max 24 ns.length:Nat):Int)):=by
  show some (Dt.int (if(ns.length:Int)>24 then(ns.length:Int)else 24))=_;rw[show(if(ns.length:Int)>24 then(ns.length:Int)else 24)=((max 24 ns.length:Nat):Int) by split<;>lia]
 have hm1:24<=max 24 ns.length:=by lia
 have hm2:max 24 ns.length<=63:=by lia
 generalize max 24 ns.length=m at hmax hm1 hm2
 suffices key:nxR (sForR (iR1 (aCons (eBi maxD (aCons (eV 1) (aCons (eBi minD (aCons (eC (.int 63)) (aCons (eBi lenD (aCons (eV 0) aNil)) aNil))) aNil))) aNil)) 3 (sSeq (sSet 4 1 [3] (eB addD (eB mulD (eC (.int 7)) (eV 3)) (eC (.int 3))))
 (sSeq (sIf (tB (eB (cmpD fun i j=>decide (j<i)) (eBi lenD (aCons (eV 0) aNil)) (eC (.int 0)))) (sSet 4 0 [0,3] (eB modD (eB ixD (eV 0) (eB modD (eV 3) (eBi lenD (aCons (eV 0) aNil)))) (eC (.int 1000003)))) sNil)
 (sSeq (sSet 5 0 [4,3] (eB modD (eB mulD (eB modD (eB addD (eB mulD (eB addD (eV 4) (eC (.int 1))) (eC (.int 48271))) (eB mulD (eB mulD (eV 3) (eV 3)) (eC (.int 7919)))) (eC (.int 1000000007))) (eC (.int 40692))) (eC (.int 2147483399))))
 (sApp 2 1 (eB addD (eB mulD (eV 5) (eC (.int 2147483647))) (eB modD (eB addD (eB mulD (eV 5) (eC (.int 69621))) (eV 3)) (eC (.int 2147483647)))))))) [some (.scr ns,0),some (.int 24,0),some (.lst [],8+1),none,none,none]) (fun r=>∃(l:List Int)(o3 o4 o5:Option Sl),l.length=m/\(∀c∈l,0<=c)/\r=[some (.scr ns,0),some (.int 24,0),some (.lst (l.map .int),8+1),o3,o4,o5]) by
  obtain⟨r',g,l,o3,o4,o5,h1,h2,rfl⟩:=zBI key;refine⟨l,zBJ rfl (sg (d:=.lst []) (by simp) (by decide) (sw g ?_)),by lia,by lia,h2⟩;show sRetV 9 2 [some (.scr ns,0),some (.int 24,0),some (.lst (l.map .int),8+1),o3,o4,o5]=_;simp[rowD]
 rw[zCF,zE3 (n:=m) (al0 (bi2 rfl (bi2 rfl (bi1 rfl rfl) hmin) hmax)) (by lia),bindR_ok];refine zG7 (fun k r=>∃(l:List Int)(o3 o4 o5:Option Sl),l.length=k/\(∀c∈l,0<=c)/\r=[some (.scr ns,0),some (.int 24,0),some (.lst (l.map .int),8+1),o3,o4,o5]) ⟨[],none,none,none,rfl,fun c hc=>by simp at hc,rfl⟩ (fun k hk r hr=>?_) fun r hr=>hr
 obtain⟨l,o3,o4,o5,hlk,hl0,rfl⟩:=hr;refine nsw (ss (b2 (b2 rfl rfl (zKH (by decide) (by decide))) rfl (adi rfl)) (qBk _)) ?_;obtain⟨c,lv,hc,hif⟩:∃(c:Int)(lv:Nat),0<=c/\sIf (tB (eB (cmpD fun i j=>decide (j<i)) (eBi lenD (aCons (eV 0) aNil)) (eC (.int 0)))) (sSet 4 0 [0,3] (eB modD (eB ixD (eV 0) (eB modD (eV 3) (eBi lenD (aCons (eV 0) aNil)))) (eC (.int 1000003)))) sNil [some (.scr ns,0),some (.int 24,0),some (.lst (l.map .int),8+1),some (.int (k:Nat),0),some (.int (7*(k:Int)+3),1),o5]=okR (.nx [some (.scr ns,0),some (.int 24,0),some (.lst (l.map .int),8+1),some (.int (k:Nat),0),some (.int c,lv),o5]):=by
  by_cases h:0<ns.length
  ·have a1:=qC5 (k:Int) (show(ns.length:Int)≠0 by lia);have a2:=qEq (k:Int) (show(0:Int)<ns.length by lia);obtain⟨q,hq⟩:∃q:Nat,(k:Int)%(ns.length:Int)=(q:Int):=⟨((k:Int)%(ns.length:Int)).toNat,by lia⟩
   refine⟨ns.getD q 0%1000003,0,qC5 _ (by decide),st4 (tb1 (b2 (cmpl rfl) rfl (cmi (decide_eq_true (show(0:Int)<ns.length by lia))))) (ss (b2 (b2 rfl (b2 rfl (cmpl rfl) (mdi (by lia) hq)) (ixS (by lia))) rfl (mdi (by decide) rfl)) (qA6 0))⟩
  ·exact⟨7*(k:Int)+3,1,by lia,sf (tb1 (b2 (cmpl rfl) rfl (cmi (decide_eq_false (show ¬(0:Int)<ns.length by lia)))))⟩
 refine nsw hif ?_;have h1:mulD (.int (k:Int)) (.int (k:Int))=some (.int ((k:Int)*k)):=zKH (by lia) (by lia);refine nsw (ss (b2 (b2 (b2 (b2 (b2 (b2 rfl rfl (adi rfl)) rfl (zJB (by decide) (by decide))) (b2 (b2 rfl rfl h1) rfl (zJB (by decide) (by decide))) (adi rfl)) rfl (mdi (by decide) rfl)) rfl (zJB (by decide) (by decide))) rfl (mdi (by decide) rfl)) (qA6 0)) ?_;have hf:0<=((c+1)*48271+(k:Int)*k*7919)%1000000007*40692%2147483399:=qC5 _ (by decide)
 generalize((c+1)*48271+(k:Int)*k*7919)%1000000007*40692%2147483399=f at hf
 refine zBK (app4 (d:=.int (f*2147483647+(f*69621+(k:Int))%2147483647)) rfl (b2 (b2 rfl rfl (zJB (by decide) (by decide))) (b2 (b2 (b2 rfl rfl (zJB (by decide) (by decide))) rfl (adi rfl)) rfl (mdi (by decide) rfl)) (adi rfl)) (by simp;lia) (qBk _) (qBk _)) ⟨l++[f*2147483647+(f*69621+(k:Int))%2147483647],_,_,_,by simp;lia,fun z hz=>?_,by rw[qB1];rfl⟩
 rcases qAn.mp hz with h|h
 ·exact hl0 z h
 ·rw[qAi]at h
  have:=qC5 (f*69621+(k:Int)) (show(2147483647:Int)≠0 by decide)
  lia
theorem zXE(ns:List Int)(hl:ns.length<=63):∃cl:List Int,zDN [.scr ns,.int 24]=okR (rowD cl)/\24<=cl.length/\cl.length<=63/\∀c∈cl,0<=c:=by
 obtain⟨cm,em,m1,m2,m3⟩:=zW8 ns hl;have hrm:sRet 1 9 [0,1] (eCall zBV (aCons (eV 0) (aCons (eV 1) aNil))) [some (.scr ns,0),some (.int 24,0),none]=okR (.rt (rowD cm)):=sr (c2 rfl rfl em) ⟨by rw[zCQ];decide,by rw[zCQ];decide⟩
 by_cases h0:ns.length=0
 ·exact⟨cm,zBJ rfl (sx (to1 (eqi (cmpl rfl) rfl (decide_eq_true (by lia)))) hrm),m1,m2,m3⟩
 ·have x0:tB (eB eqD (eBi lenD (aCons (eV 0) aNil)) (eC (.int 0))) (full [some (.scr ns,0),some (.int 24,0),none])=okR false:=eqi (cmpl rfl) rfl (decide_eq_false (by lia))
  by_cases h1:ns.getD 0 0%2=0
  ·exact⟨cm,zBJ rfl (sx (to0 x0 (eqi (b2 (b2 rfl rfl (ixS (k:=0) (by lia))) rfl (mdi (by decide) rfl)) rfl (decide_eq_true h1))) hrm),m1,m2,m3⟩
  ·obtain⟨T,hT,hpw⟩:∃T:Int,0<T/\powD (.int 10) (.int 60)=some (.int T):=⟨10 ^ (60:Int).toNat,by decide,@if_pos _ (qA3 _) ⟨by decide,by decide,by decide⟩ _ _ _⟩
   have hit:∀o:Option Dt,iSq (eSlZ (eV 0) oNo (oE (eC (.int 63)))) [some (.scr ns),some (.int 24),o]=okR (ns.map Dt.int):=fun o=>by
    show zA2 (optR (slZ (.scr ns) none (some 63))) _=_;rw[show slZ (.scr ns) none (some 63)=some (.scr ns) from @if_pos _ (qA3 _) (show(ns.length:Int)<=63 by lia) _ _ _];rfl
   have hc:eComp (iSq (eSlZ (eV 0) oNo (oE (eC (.int 63))))) 1 (.one 3) Mi.tYes (eB modD (eV 3) (eB powD (eC (.int 10)) (eC (.int 60)))) [some (.scr ns),some (.int 24),none]=okR (rowD (ns.map (·%T))):=by
    refine(zBN Dt.int (fun x=>Dt.int (x%T)) ns rfl rfl (fun x _=>b2 rfl (b2 rfl rfl hpw) (mdi hT rfl)) _ (hit none) (by lia)).trans ?_;unfold rowD;rw[qAp];rfl
   have hrep:repD (.lst [.int 0]) (.int (24-((ns.map (·%T)).length:Int)))=some (rowD (qA2 (24-ns.length) 0)):=by
    rw[qAh];unfold repD;dsimp only;rw[if_pos ⟨⟨by lia,by lia⟩,by simp;lia⟩,show(24-(ns.length:Int)).toNat=24-ns.length by lia]
    have:∀m:Nat,(qA2 m [Dt.int 0]).flatten=(qA2 m (0:Int)).map Dt.int:=fun m=>by
     induction m with
     |zero=>rfl
     |succ m ih=>rw[qAx,qBd,ih,qAx];rfl
    rw[this];rfl
   have hadd:addD (rowD (ns.map (·%T))) (rowD (qA2 (24-ns.length) 0))=some (rowD (ns.map (·%T)++qA2 (24-ns.length) 0)):=by
    unfold rowD;rw[qB1];exact @if_pos _ (qA3 _) (by simp;lia) _ _ _
   refine⟨ns.map (·%T)++qA2 (24-ns.length) 0,zBJ rfl (sp (to0 x0 (eqi (b2 (b2 rfl rfl (ixS (k:=0) (by lia))) rfl (mdi (by decide) rfl)) rfl (decide_eq_false h1))) (sg hc (by rw[zCQ];exact qA6 1) (sr (b2 rfl (b2 (el1 rfl) (b2 rfl (bi1 rfl (lenR _)) (sbi rfl)) hrep) hadd) ⟨by rw[zCQ];exact qA6 1,by rw[zCQ];exact qA6 1⟩))),by simp;lia,by simp;lia,fun c hc=>?_⟩
   rcases qAn.mp hc with h|h
   ·obtain⟨x,_,rfl⟩:=qAf.mp h;exact qC5 _ (by lia)
   ·rw[qDi h];exact Int.le_refl 0
noncomputable def rst(m:Nat)(g:Nat->Nat->Int):Nat:=(cnt m (KerF m g)).log2
theorem zRN{m q:Nat}{g:Nat->Nat->Int}(h:cnt m (KerF m g)=2 ^ q):rst m g=q:=by
 unfold rst;rw[h,qF9]
theorem zHI{m:Nat}{g:Nat->Nat->Int}(hm:m<=10)(hb:Bits m g):rst m g<=m/\zD6 [mat (tab m g)]=okR (.int (rst m g:Nat))/\zDF [mat (tab m g)]=okR (.int (rst m g:Nat)):=by
 obtain⟨q,h1,h2,_,h3⟩:=zNM hm hb;obtain⟨q',k1,k2⟩:=zQ5 m (tab m g) (zEZ m g) (zLC hb) hm;have e:cnt m (Ker (tab m g))=cnt m (KerF m g):=zB2 fun x hx=>zOJ hx.1
 rw[e]at k2;have r1:=zRN h2;have r2:=zRN k2;rw[r1];refine⟨h1,h3,?_⟩;rw[k1]
 congr 2
 omega
theorem zM1{n:Nat}{c:List Int}{f:Nat->Nat->Int}(hb:Bits n f):Bits (kept n c).length (cpF n c f):=fun i j hi hj=>by
 unfold cpF dg
 split
 ·dsimp only
  split
  ·exact .inr rfl
  ·exact .inl rfl
 ·exact hb _ _ (zOR zI1 hi) (zOR zI1 hj)
noncomputable def rv(ws:List Int)(n:Nat)(f:Nat->Nat->Int):List Nat:=(chW ws n).map fun c=>rst (kept n c).length (cpF n c f)
noncomputable def mx(rs:List Nat):Nat:=rs.foldr max 0
theorem zTG:∀{rs:List Nat}{x:Nat},x∈rs->x<=mx rs
 |a::r,x,h=>by
  show x<=max a (mx r)
  rcases qAk.mp h with rfl|h
  ·omega
  ·have:=zTG h;omega
theorem zO7:∀{rs:List Nat},rs≠[]->mx rs∈rs
 |[a],_=>by show max a 0∈_;simp
 |a::b::r,_=>by
  have:=zO7 (rs:=b::r) (by simp)
  show max a (mx (b::r))∈_
  rcases Nat.le_total a (mx (b::r))with h|h
  ·rw[Nat.max_eq_right h];exact qAm _ this
  ·rw[Nat.max_eq_left h];simp
theorem zQL{rs:List Nat}{B:Nat}(h:∀x∈rs,x<=B):mx rs<=B:=by
 cases rs with
 |nil=>exact qBk _
 |cons a r=>exact h _ (zO7 (by simp))
def cv(rs:List Nat):List Int:=(qA8 (mx rs+1)).map fun k=>((rs.count k:Nat):Int)
theorem zRF:∀{l:List Int}{m:Int},l≠[]->(∀z∈l,z<=m)->topI l<=m
 |[a],m,_,h=>h a (by simp)
 |a::b::u,m,_,h=>by
  rw[topI];have q1:=h a (by simp);have q2:=zRF (l:=b::u) (by simp) fun z hz=>h z (by simp at hz ⊢;exact .inr hz)
  omega
theorem zRT:∀{l:List Int}{x:Int},x∈l->x<=topI l
 |[a],x,h=>by simp at h;simp[topI,h]
 |a::b::u,x,h=>by
  rw[topI]
  rcases qAk.mp h with rfl|h
  ·omega
  ·have:=zRT h;omega
theorem zQN{rs:List Nat}(h:rs≠[]):maxL [rowD (numL rs)]=some (.int (mx rs:Nat)):=by
 have ht:topI (numL rs)=(mx rs:Nat):=by
  have h1:topI (numL rs)<=(mx rs:Nat):=zRF (by simp[numL,h]) fun z hz=>by
   obtain⟨k,hk,rfl⟩:=qAf.mp hz
   have:=zTG hk
   omega
  have h2:((mx rs:Nat):Int)<=topI (numL rs):=zRT (qAf.mpr ⟨mx rs,zO7 h,rfl⟩);omega
 have hi:=zEG (numL rs);unfold maxL rowD;dsimp only;rw[hi];cases hn:numL rs with
 |nil=>simp[numL]at hn;exact absurd hn h
 |cons a r=>rw[hn]at ht;dsimp only;rw[ht]
theorem zXD{ws:List Int}{n:Nat}(hw:0<ws.length):chW ws n≠[]:=by
 intro z
 have:=zF6 ws n
 rw[z]at this
 have:=qFj (n:=n) hw
 simp at *;omega
theorem zQR(rs:List Nat)(k:Nat):lcoD ((numL rs).map Dt.int) [.int (k:Nat)]=some (.int (rs.count k:Nat)):=by
 unfold lcoD;dsimp only;rw[if_pos ⟨rfl,zD9 _⟩]
 congr 3
 unfold numL;rw[qAp]
 induction rs with
 |nil=>rfl
 |cons a r ih=>
  rw[qAg,qCb,qFl,ih]
  congr 1
  by_cases h:a=k
  ·subst h;simp
  ·simp[h,show ¬(a:Int)=(k:Int) by omega]
noncomputable def f0(f:Nat->Nat->Int):Nat->Nat->Int:=fun i j=>if i=j then 0 else f i j
def im0(n:Nat)(f:Nat->Nat->Int)(x:List Int)(k:Nat):Int:=sumN n (fun j=>f0 f k j*x.getD j 0)
def KC(n:Nat)(c:List Int)(f:Nat->Nat->Int)(x:List Int):Prop:=∀k,k<n->(c.getD k 0=0->x.getD k 0=0)/\(c.getD k 0≠0->(im0 n f x k+(if c.getD k 0=1 then x.getD k 0 else 0))%2=0)
theorem zKN(n:Nat)(c:List Int):(kept n c).Nodup:=List.nodup_range.filter _
theorem kept_mem{n:Nat}{c:List Int}{k:Nat}:k∈kept n c↔k<n/\c.getD k 0≠0:=by
 unfold kept;simp
theorem zLS{n:Nat}{f:Nat->Nat->Int}{c x:List Int}(hz:∀k,k<n->c.getD k 0=0->x.getD k 0=0) :
  KerF (kept n c).length (cpF n c f) ((kept n c).map fun k=>x.getD k 0)↔∀k,k<n->c.getD k 0≠0->(im0 n f x k+(if c.getD k 0=1 then x.getD k 0 else 0))%2=0:=by
 have key:∀a,a<(kept n c).length->(Ev (kept n c).length (cpF n c f a) ((kept n c).map fun k=>x.getD k 0)↔(im0 n f x ((kept n c).getD a 0)+(if c.getD ((kept n c).getD a 0) 0=1 then x.getD ((kept n c).getD a 0) 0 else 0))%2=0):=fun a ha=>by
  have hfil:=zDU (fun k=>f0 f ((kept n c).getD a 0) k*x.getD k 0) (fun k=>decide (c.getD k 0≠0)) (qA8 n) fun k hk e=>by
   show _*_=_;rw[hz k (qAz.mp hk) (by simpa using e),qAr]
  have hdef:kept n c=(qA8 n).filter fun k=>decide (c.getD k 0≠0):=rfl
  rw[<- hdef]at hfil;unfold Ev;rw[zH9 (f:=fun b=>cpF n c f a b*(((kept n c).map fun k=>x.getD k 0).getD b 0)) (g:=fun b=>f0 f ((kept n c).getD a 0) ((kept n c).getD b 0)*x.getD ((kept n c).getD b 0) 0) ha fun b hb hne=>by
   have nab:(kept n c).getD a 0≠(kept n c).getD b 0:=fun z=>hne (by rw[<- zI5 (zKN n c) ha,<- zI5 (zKN n c) hb,z])
   rw[zDX (d:=0) hb];unfold cpF dg sub f0;rw[if_neg fun z=>hne z.1.symm,if_neg nab]]
  rw[zN7 (fun k=>f0 f ((kept n c).getD a 0) k*x.getD k 0),<- hfil,zDX (d:=0) ha];have hd:cpF n c f a a=if c.getD ((kept n c).getD a 0) 0=1 then 1 else 0:=by
   unfold cpF dg;rw[if_pos ⟨rfl,ha⟩]
  have hs:f0 f ((kept n c).getD a 0) ((kept n c).getD a 0)=0:=if_pos rfl;rw[hd,hs];unfold im0 sumN
  generalize((qA8 n).map fun k=>f0 f ((kept n c).getD a 0) k*x.getD k 0).sum=S
  generalize x.getD ((kept n c).getD a 0) 0=y
  split<;>simp
 constructor
 ·intro h k hk hc;have hm:k∈kept n c:=kept_mem.mpr ⟨hk,hc⟩
  have:=(key _ (qBl hm)).mp (h _ (qBl hm))
  rw[zLX hm]at this;exact this
 ·intro h a ha;have hm:=kept_mem.mp (getD_mem (d:=0) ha);exact(key a ha).mpr (h _ hm.1 hm.2)
def exr(n:Nat)(c x:List Int):List Int:=(qA8 n).map fun k=>if k∈kept n c then x.getD ((kept n c).idxOf k) 0 else 0
theorem zOT{n:Nat}{c x:List Int}{k:Nat}(hk:k<n):(exr n c x).getD k 0=if k∈kept n c then x.getD ((kept n c).idxOf k) 0 else 0:=by
 unfold exr;rw[qA0,qAe,qCc hk];rfl
theorem zIB{n:Nat}{c x:List Int}(hx:x.length=(kept n c).length):((kept n c).map fun k=>(exr n c x).getD k 0)=x:=by
 refine zDK (n:=(kept n c).length) (by simp) hx fun a ha=>?_
 have hm:=getD_mem (d:=0) ha;rw[zDX (d:=0) ha,zOT (kept_mem.mp hm).1,if_pos hm,zI5 (zKN n c) ha]
theorem bitD{m:Nat}{x:List Int}(hx:RowN m x)(a:Nat):Bit (x.getD a 0):=by
 by_cases h:a<m
 ·exact hx.2 _ (getD_mem (by rw[hx.1];exact h))
 ·rw[qA0,qE3 (by rw[hx.1];lia)];exact .inl rfl
theorem zR7{n:Nat}{f:Nat->Nat->Int}{c:List Int}:cnt (kept n c).length (KerF (kept n c).length (cpF n c f))=cnt n (KC n c f):=by
 refine qCh ?_ ?_
 ·refine zD0 (exr n c) (fun x hx h=>⟨⟨by simp[exr],fun z hz=>?_⟩,?_⟩) fun x y hx _ hy _ e=>?_
  ·unfold exr at hz;obtain⟨k,_,rfl⟩:=qAf.mp hz
   split
   ·exact bitD hx _
   ·exact .inl rfl
  ·have hz:∀k,k<n->c.getD k 0=0->(exr n c x).getD k 0=0:=fun k hk hc=>by
    rw[zOT hk,if_neg fun z=>(kept_mem.mp z).2 hc]
   have:=(zLS (f:=f) hz).mp (by rw[zIB hx.1];exact h)
   exact fun k hk=>⟨hz k hk,this k hk⟩
  ·rw[<- zIB hx.1,<- zIB hy.1,e]
 ·refine zD0 (fun y=>(kept n c).map fun k=>y.getD k 0) (fun y hy h=>⟨⟨by simp,fun z hz=>?_⟩,(zLS fun k hk hc=>(h k hk).1 hc).mpr fun k hk hc=>(h k hk).2 hc⟩) fun x y hx h hy h' e=>zDK hx.1 hy.1 fun k hk=>?_
  ·obtain⟨k,_,rfl⟩:=qAf.mp hz;exact bitD hy k
  ·by_cases hc:c.getD k 0=0
   ·rw[(h k hk).1 hc,(h' k hk).1 hc]
   ·have hm:k∈kept n c:=kept_mem.mpr ⟨hk,hc⟩;have hi:=qBl hm;have e2:=congrArg (fun l:List Int=>l.getD ((kept n c).idxOf k) 0) e;rw[zDX (d:=0) hi,zDX (d:=0) hi,zLX hm]at e2;exact e2
inductive Spn(n:Nat)(A:List (List Int)):List Int->Prop
 |zero:Spn n A (qA2 n 0)
 |add {r v:List Int} (h:r∈A) (s:Spn n A v):Spn n A (addB r v)
theorem zSH(n:Nat):RowN n (qA2 n 0):=⟨qC0,fun x hx=>by rw[qDi hx];exact .inl rfl⟩
theorem Spn.row{n:Nat}{A:List (List Int)}(hA:∀r∈A,RowN n r){v:List Int}(h:Spn n A v):RowN n v:=by
 induction h with
 |zero=>exact zSH n
 |add h s ih=>exact addB_row (hA _ h) ih
theorem zBC{n:Nat}{a b:List Int}(ha:RowN n a)(hb:RowN n b){k:Nat}(hk:k<n):(addB a b).getD k 0=(a.getD k 0+b.getD k 0)%2:=zDH a b k (by rw[ha.1,hb.1]) (by rw[ha.1];exact hk)
theorem zRA{n:Nat}{a b c:List Int}(ha:RowN n a)(hb:RowN n b)(hc:RowN n c):addB (addB a b) c=addB a (addB b c):=zDK (addB_row (addB_row ha hb) hc).1 (addB_row ha (addB_row hb hc)).1 fun k hk=>by
 rw[zBC (addB_row ha hb) hc hk,zBC ha hb hk,zBC ha (addB_row hb hc) hk,zBC hb hc hk]
 lia
theorem zR9{n:Nat}{a b:List Int}(ha:RowN n a)(hb:RowN n b):addB a (addB b a)=b:=zDK (addB_row ha (addB_row hb ha)).1 hb.1 fun k hk=>by
 rw[zBC ha (addB_row hb ha) hk,zBC hb ha hk]
 rcases bitD hb k with z|z<;>rw[z]<;>lia
theorem dotZ:∀(r:List Int)(n:Nat),dot r (qA2 n 0)=0
 |[],_=>by cases ‹Nat› <;> rfl
 |_::_,0=>rfl
 |a::r,n+1=>by rw[qAx,dot,dotZ r n];lia
theorem Spn.lift{n:Nat}{A B:List (List Int)}(hB:∀r∈B,RowN (n+1) r)(h:∀r'∈A,RowN n r'/\∀u,RowN (n+1) u->Spn (n+1) B u->Spn (n+1) B (addB (0::r') u)){v:List Int}(s:Spn n A v):Spn (n+1) B (0::v):=by
 induction s with
 |zero=>exact .zero
 |@add r u hr s ih=>exact(h r hr).2 _ (ih.row hB) ih
theorem fred:∀(n:Nat)(A:List (List Int))(v:List Int),(∀r∈A,RowN n r)->RowN n v->(∀x,RowN n x->Ker A x->dot v x%2=0)->Spn n A v
 |0,A,v,_,hv,_=>by
  cases qCi.mp hv.1;exact .zero
 |n+1,A,v,hA,hv,h=>by
  have split:∀{r:List Int},RowN (n+1) r->∃a r',r=a::r'/\Bit a/\RowN n r':=fun{r} hr=>by
   cases r with
   |nil=>cases hr.1
   |cons a r'=>exact⟨a,r',rfl,hr.2 a qAv,by have:=hr.1;simpa using this,fun x hx=>hr.2 x (qAm _ hx)⟩
  have cons:∀{a:Int}{r:List Int},Bit a->RowN n r->RowN (n+1) (a::r):=fun{a r} ha hr=>⟨by rw[qAt,hr.1],fun x hx=>by
   rcases qAk.mp hx with rfl|z
   ·exact ha
   ·exact hr.2 x z⟩
  obtain⟨b,v',rfl,hb,hv'⟩:=split hv
  by_cases hp:∃p',(1::p')∈A
  ·obtain⟨p',hp⟩:=hp;have hP:=hA _ hp;have hp':RowN n p':=by obtain⟨_,_,e,_,hr⟩:=split hP;cases e;exact hr
   let rd:List Int->List Int:=fun r=>if r.headD 0=1 then addB r.tail p' else r.tail
   have rdrow:∀{r},RowN (n+1) r->RowN n (rd r):=fun{r} hr=>by
    obtain⟨a,r',rfl,_,hr'⟩:=split hr;show RowN n (if a=1 then addB r' p' else r')
    split
    ·exact addB_row hr' hp'
    ·exact hr'
   have rdadd:∀{r},RowN (n+1) r->(0::rd r)=r\/((0::rd r)=addB r (1::p')/\addB (1::p') (0::rd r)=r):=fun{r} hr=>by
    obtain⟨a,r',rfl,ha,hr'⟩:=split hr
    rcases ha with rfl|rfl
    ·exact .inl rfl
    ·have e:(0::rd (1::r'))=addB (1::r') (1::p'):=rfl;exact .inr ⟨e,by rw[e];exact zR9 hP hr⟩
   have dotrd:∀{r x'},RowN (n+1) r->RowN n x'->dot (rd r) x'%2=dot r ((dot p' x'%2)::x')%2:=fun{r x'} hr hx=>by
    obtain⟨a,r',rfl,ha,hr'⟩:=split hr;show dot (if a=1 then addB r' p' else r') x'%2=(a*(dot p' x'%2)+dot r' x')%2
    rcases ha with rfl|rfl
    ·rw[if_neg (by decide)];lia
    ·rw[if_pos rfl,zGH r' p' x' (by rw[hr'.1,hp'.1]) hx.2];lia
   have ih:=fred n (A.map rd) (rd (b::v')) (fun r hr=>by obtain⟨s,hs,rfl⟩:=qAf.mp hr;exact rdrow (hA s hs)) (rdrow hv) fun x' hx' hk=>by
    rw[dotrd hv hx'];refine h _ (cons (zII _) hx') fun r hr=>?_
    rw[<- dotrd (hA r hr) hx'];exact hk _ (qEd hr)
   have s0:Spn (n+1) A (0::rd (b::v')):=ih.lift hA fun r' hr'=>by
    obtain⟨r,hr,rfl⟩:=qAf.mp hr';refine⟨rdrow (hA r hr),fun u hu su=>?_⟩
    rcases rdadd (hA r hr)with e|⟨e,_⟩
    ·rw[e];exact .add hr su
    ·rw[e,zRA (hA r hr) hP hu];exact .add hr (.add hp su)
   rcases rdadd hv with e|⟨_,e⟩
   ·rw[<- e];exact s0
   ·rw[<- e];exact .add hp s0
  ·have h0:∀r∈A,∃r',r=0::r'/\RowN n r':=fun r hr=>by
    obtain⟨a,r',rfl,ha,hr'⟩:=split (hA r hr)
    rcases ha with rfl|rfl
    ·exact⟨r',rfl,hr'⟩
    ·exact absurd ⟨r',hr⟩ hp
   have hb0:b=0:=by
    have:=h (1::qA2 n 0) (cons (.inr rfl) (zSH n)) fun r hr=>by
     obtain⟨r',rfl,_⟩:=h0 r hr
     show(0*1+dot r' (qA2 n 0))%2=0
     rw[dotZ];rfl
    have e:dot (b::v') (1::qA2 n 0)=b*1+dot v' (qA2 n 0):=rfl;rw[e,dotZ]at this
    rcases hb with z|z<;>lia
   subst hb0;have ih:=fred n (A.map List.tail) v' (fun r hr=>by obtain⟨s,hs,rfl⟩:=qAf.mp hr;obtain⟨r',rfl,hr'⟩:=h0 s hs;exact hr') hv' fun x' hx' hk=>by
    have:=h (0::x') (cons (.inl rfl) hx') fun r hr=>by
     obtain⟨r',rfl,_⟩:=h0 r hr
     have:=hk r' (qAf.mpr ⟨_,hr,rfl⟩)
     show(0*0+dot r' x')%2=0
     lia
    have e:dot (0::v') (0::x')=0*0+dot v' x':=rfl;rw[e]at this
    lia
   exact ih.lift hA fun r' hr'=>by
    obtain⟨r,hr,rfl⟩:=qAf.mp hr';obtain⟨r'',rfl,h''⟩:=h0 r hr;exact⟨h'',fun u _ su=>.add hr su⟩
noncomputable def Gc7(f:Nat->Nat->Int)(c:List Int)(k j:Nat):Int:=if k=j then(if c.getD k 0=1 then 1 else 0)else f k j
def Bx7(n:Nat)(f:Nat->Nat->Int)(c x:List Int)(k:Nat):Int:=sumN n fun j=>Gc7 f c k j*x.getD j 0
noncomputable def dg7(c:List Int)(k:Nat):Int:=if c.getD k 0=1 then 1 else 0
def Sp7(n:Nat)(c x:List Int):Prop:=RowN n x/\∀k,k<n->c.getD k 0=0->x.getD k 0=0
theorem zPR{n:Nat}{f:Nat->Nat->Int}{c x:List Int}{k:Nat}(hk:k<n):Bx7 n f c x k=im0 n f x k+(if c.getD k 0=1 then x.getD k 0 else 0):=by
 unfold Bx7 im0;rw[zH9 (g:=fun j=>f0 f k j*x.getD j 0) hk fun j hj hne=>by unfold Gc7 f0;rw[if_neg fun z=>hne z.symm,if_neg fun z=>hne z.symm]]
 congr 1
 unfold Gc7 f0;rw[if_pos rfl,if_pos rfl]
 split<;>simp
theorem KC7{n:Nat}{f:Nat->Nat->Int}{c x:List Int}:KC n c f x↔∀k,k<n->(c.getD k 0=0->x.getD k 0=0)/\(c.getD k 0≠0->Bx7 n f c x k%2=0):=by
 unfold KC;constructor
 ·exact fun h k hk=>⟨(h k hk).1,fun z=>by rw[zPR hk];exact(h k hk).2 z⟩
 ·exact fun h k hk=>⟨(h k hk).1,fun z=>by rw[<- zPR hk];exact(h k hk).2 z⟩
theorem zL7{N:Nat}{f:Nat->Nat->Int}(hs:Sym N f){c:List Int}{k j:Nat}(hk:k<N)(hj:j<N):Gc7 f c k j=Gc7 f c j k:=by
 unfold Gc7
 by_cases h:k=j
 ·subst h;rfl
 ·rw[if_neg h,if_neg fun z=>h z.symm,hs k j hk hj]
theorem zUI{N:Nat}{f:Nat->Nat->Int}(hb:Bits N f){c:List Int}{k j:Nat}(hk:k<N)(hj:j<N):Bit (Gc7 f c k j):=by
 unfold Gc7
 split
 ·split
  ·exact .inr rfl
  ·exact .inl rfl
 ·exact hb k j hk hj
theorem bil7{N n:Nat}{f:Nat->Nat->Int}(hs:Sym N f)(hn:n<=N)(c x y:List Int):sumN n (fun k=>y.getD k 0*Bx7 n f c x k)=sumN n (fun k=>x.getD k 0*Bx7 n f c y k):=by
 have one:∀x y:List Int,sumN n (fun k=>y.getD k 0*Bx7 n f c x k)=sumN n fun k=>sumN n fun j=>y.getD k 0*(Gc7 f c k j*x.getD j 0):=fun x y=>zAL fun k _=>by rw[zHB];rfl
 rw[one x y,one y x,zN6];refine zAL fun b hb=>zAL fun i hi=>?_
 rw[zL7 hs (qAc hi hn) (qAc hb hn),qBs,qBs (x.getD b 0),qBt (y.getD i 0)]
theorem zQB{N:Nat}{f:Nat->Nat->Int}(hs:Sym N f)(c x:List Int)(hx:∀k,Bit (x.getD k 0)):∀n,n<=N->sumN n (fun k=>x.getD k 0*Bx7 n f c x k)%2=sumN n (fun k=>dg7 c k*x.getD k 0)%2
 |0,_=>rfl
 |n+1,h=>by
  have ih:=zQB hs c x hx n (by lia);have e:∀k,k<n->x.getD k 0*Bx7 (n+1) f c x k=x.getD k 0*Bx7 n f c x k+x.getD n 0*(Gc7 f c n k*x.getD k 0):=fun k hk=>by
   have:Bx7 (n+1) f c x k=Bx7 n f c x k+Gc7 f c k n*x.getD n 0:=zAF _ _
   rw[this,qFk,zL7 hs (show k<N by lia) (show n<N by lia)]
   congr 1
   rw[qBs,qBs (x.getD n 0),qBt (x.getD k 0)]
  rw[zAF,zAF,zAL e,zHC,zHB];have e2:Bx7 (n+1) f c x n=sumN n (fun k=>Gc7 f c n k*x.getD k 0)+dg7 c n*x.getD n 0:=by
   have:Bx7 (n+1) f c x n=sumN n (fun k=>Gc7 f c n k*x.getD k 0)+Gc7 f c n n*x.getD n 0:=zAF _ _
   rw[this]
   congr 2
   unfold Gc7 dg7;rw[if_pos rfl]
  rw[e2]
  generalize sumN n (fun k=>Gc7 f c n k*x.getD k 0)=S
  rcases hx n with z|z<;>rw[z]<;>lia
theorem zDT{n:Nat}{f:Nat->Nat->Int}{c x y:List Int}(hx:RowN n x)(hy:RowN n y)(k:Nat):Bx7 n f c (addB x y) k%2=(Bx7 n f c x k+Bx7 n f c y k)%2:=zER hx hy
theorem zFZ{n:Nat}{x:List Int}{b:Int}(hx:RowN n x)(hb:Bit b):RowN (n+1) (x++[b]):=⟨by simp[hx.1],fun z hz=>by
 rcases qAn.mp hz with h|h
 ·exact hx.2 z h
 ·rw[qAi.mp h];exact hb⟩
theorem zAS{n:Nat}{x:List Int}{b:Int}(hx:x.length=n){k:Nat}(hk:k<n):(x++[b]).getD k 0=x.getD k 0:=by
 rw[qA0,qA0,qA9 (by lia)]
theorem zAK{n:Nat}{x:List Int}{b:Int}(hx:x.length=n):(x++[b]).getD n 0=b:=by
 subst hx;simp
theorem zHD{n:Nat}{x:List Int}(hx:RowN (n+1) x):x=x.take n++[x.getD n 0]/\RowN n (x.take n):=by
 have hl:(x.take n).length=n:=by rw[qBx,hx.1];lia
 refine⟨zDK hx.1 (by simp[hl]) fun k hk=>?_,hl,fun z hz=>hx.2 z (qE8 hz)⟩
 by_cases h:k<n
 ·rw[zAS hl h,qA0,qA0,qEr,if_pos h]
 ·rw[show k=n by lia,zAK hl]
theorem zPY{n:Nat}{x y:List Int}{b:Int}(hx:x.length=n)(hy:y.length=n)(h:x++[b]=y++[b]):x=y:=(List.append_inj h (by rw[hx,hy])).1
theorem zFQ(n:Nat)(P:List Int->Prop):cnt (n+1) P=cnt n (fun x=>P (x++[0]))+cnt n (fun x=>P (x++[1])):=by
 have part:∀(b:Int)(E:List Int->Prop),Bit b->(∀x,RowN (n+1) x->(E x↔x.getD n 0=b))->cnt (n+1) (fun x=>P x/\E x)=cnt n (fun x=>P (x++[b])):=fun b E hb hE=>by
  refine qCh ?_ ?_
  ·refine zD0 (List.take n) (fun x hx h=>?_) fun x y hx h hy h' e=>?_
   ·obtain⟨e,hr⟩:=zHD hx;rw[(hE x hx).mp h.2]at e;exact⟨hr,by rw[<- e];exact h.1⟩
   ·rw[(zHD hx).1,(zHD hy).1,e,(hE x hx).mp h.2,(hE y hy).mp h'.2]
  ·refine zD0 (fun x=>x++[b]) (fun x hx h=>⟨zFZ hx hb,h,(hE _ (zFZ hx hb)).mpr (zAK hx.1)⟩) fun x y hx _ hy _ e=>zPY hx.1 hy.1 e
 rw[zGJ P fun x=>x.getD n 0=0,part 0 _ (.inl rfl) fun x _=>Iff.rfl,part 1 _ (.inr rfl) fun x hx=>?_]
 rcases bitD hx n with z|z<;>rw[z]<;>simp
theorem zDS{n:Nat}{f:Nat->Nat->Int}{c x:List Int}{w b:Int}(hc:c.length=n)(hx:x.length=n) :
  KC (n+1) (c++[w]) f (x++[b])↔(∀k,k<n->(c.getD k 0=0->x.getD k 0=0)/\(c.getD k 0≠0->(Bx7 n f c x k+f k n*b)%2=0))/\(w=0->b=0)/\(w≠0->(sumN n (fun j=>f n j*x.getD j 0)+(if w=1 then b else 0))%2=0):=by
 have e1:∀k,k<n->Bx7 (n+1) f (c++[w]) (x++[b]) k=Bx7 n f c x k+f k n*b:=fun k hk=>by
  have:Bx7 (n+1) f (c++[w]) (x++[b]) k=sumN n (fun j=>Gc7 f (c++[w]) k j*(x++[b]).getD j 0)+Gc7 f (c++[w]) k n*(x++[b]).getD n 0:=zAF _ _
  rw[this,zAK hx]
  congr 1
  ·refine zAL fun j hj=>?_
   rw[zAS hx hj];unfold Gc7;rw[zAS hc hk]
  ·unfold Gc7;rw[if_neg (by lia)]
 have e2:Bx7 (n+1) f (c++[w]) (x++[b]) n=sumN n (fun j=>f n j*x.getD j 0)+(if w=1 then b else 0):=by
  have:Bx7 (n+1) f (c++[w]) (x++[b]) n=sumN n (fun j=>Gc7 f (c++[w]) n j*(x++[b]).getD j 0)+Gc7 f (c++[w]) n n*(x++[b]).getD n 0:=zAF _ _
  rw[this,zAK hx]
  congr 1
  ·refine zAL fun j hj=>?_
   rw[zAS hx hj];unfold Gc7;rw[if_neg (by lia)]
  ·unfold Gc7;rw[if_pos rfl,zAK hc]
   split<;>simp
 rw[KC7];constructor
 ·intro h;refine⟨fun k hk=>?_,?_⟩
  ·have:=h k (by lia)
   rw[zAS hc hk,zAS hx hk,e1 k hk]at this;exact this
  ·have:=h n (by lia)
   rw[zAK hc,zAK hx,e2]at this;exact this
 ·rintro⟨h1,h2⟩ k hk
  by_cases h:k<n
  ·rw[zAS hc h,zAS hx h,e1 k h];exact h1 k h
  ·obtain rfl:k=n:=by lia
   rw[zAK hc,zAK hx,e2];exact h2
def vr7(n:Nat)(f:Nat->Nat->Int)(x:List Int):Int:=sumN n fun j=>f n j*x.getD j 0
def rw7(n:Nat)(f:Nat->Nat->Int)(c:List Int)(k:Nat):List Int:=(qA8 n).map fun j=>if c.getD k 0=0 then(if k=j then 1 else 0)else Gc7 f c k j
theorem zSV{n:Nat}{f:Nat->Nat->Int}{c x:List Int}{k:Nat}(hk:k<n)(hx:x.length=n):dot (rw7 n f c k) x=if c.getD k 0=0 then x.getD k 0 else Bx7 n f c x k:=by
 unfold rw7;rw[zES hx]
 by_cases h:c.getD k 0=0
 ·rw[if_pos h,zHA hk fun j hj hne=>by rw[if_pos h,if_neg fun z=>hne z.symm,qBg],if_pos h,if_pos rfl,qGr]
 ·rw[if_neg h];exact zAL fun j hj=>by rw[if_neg h]
theorem zHH{N n:Nat}{f:Nat->Nat->Int}(hb:Bits N f)(hn:n<=N){c:List Int}{k:Nat}(hk:k<n):RowN n (rw7 n f c k):=⟨by simp[rw7],fun z hz=>by
 unfold rw7 at hz;obtain⟨j,hj,rfl⟩:=qAf.mp hz;have hj:=qAz.mp hj
 split
 ·split
  ·exact .inr rfl
  ·exact .inl rfl
 ·exact zUI hb (by lia) (by lia)⟩
theorem zNF{n:Nat}{f:Nat->Nat->Int}{c:List Int}{k j:Nat}(hj:j<n):(rw7 n f c k).getD j 0=if c.getD k 0=0 then(if k=j then 1 else 0)else Gc7 f c k j:=by
 unfold rw7;rw[qA0,qAe,qCc hj];rfl
theorem ind7(n k:Nat):RowN n ((qA8 n).map fun j=>if k=j then(1:Int)else 0):=⟨by simp,fun z hz=>by
 obtain⟨j,hj,rfl⟩:=qAf.mp hz
 split
 ·exact .inr rfl
 ·exact .inl rfl⟩
theorem zI4{n k j:Nat}(hj:j<n):((qA8 n).map fun j=>if k=j then(1:Int)else 0).getD j 0=if k=j then 1 else 0:=by
 rw[qA0,qAe,qCc hj];rfl
theorem zTV{n:Nat}{f:Nat->Nat->Int}{c:List Int}{k j:Nat}(hk:k<n):Bx7 n f c ((qA8 n).map fun j=>if k=j then(1:Int)else 0) j=Gc7 f c j k:=by
 unfold Bx7;rw[zHA hk fun i hi hne=>by rw[zI4 hi,if_neg fun z=>hne z.symm,qAr],zI4 hk,if_pos rfl,qCn]
theorem spn7{N n:Nat}{f:Nat->Nat->Int}(hs:Sym N f)(hb:Bits N f)(hn:n<=N){c v:List Int}(h:Spn n ((qA8 n).map (rw7 n f c)) v):∃u,Sp7 n c u/\∀k,k<n->c.getD k 0≠0->(Bx7 n f c u k+v.getD k 0)%2=0:=by
 induction h with
 |zero=>exact⟨qA2 n 0,⟨zSH n,fun k hk _=>by simp[qA0,hk]⟩,fun k hk _=>by
   have:Bx7 n f c (qA2 n 0) k=0:=zAY fun j hj=>by simp[qA0,hj]
   rw[this];simp[qA0,hk]⟩
 |@add r v hr s ih=>
  obtain⟨u,⟨hu,h1⟩,h2⟩:=ih;obtain⟨i,hi,rfl⟩:=qAf.mp hr;have hi:=qAz.mp hi;have hv:RowN n v:=s.row fun r hr=>by
   obtain⟨k,hk,rfl⟩:=qAf.mp hr;exact zHH hb hn (qAz.mp hk)
  by_cases h:c.getD i 0=0
  ·refine⟨u,⟨hu,h1⟩,fun k hk hc=>?_⟩
   have:=h2 k hk hc
   have ne:i≠k:=fun z=>hc (by rw[<- z];exact h)
   rw[zBC (zHH hb hn hi) hv hk,zNF hk,if_pos h,if_neg ne]
   lia
  ·refine⟨addB u ((qA8 n).map fun j=>if i=j then(1:Int)else 0),⟨addB_row hu (ind7 n i),fun k hk hc=>?_⟩,fun k hk hc=>?_⟩
   ·have ne:i≠k:=fun z=>h (by rw[z];exact hc)
    rw[zBC hu (ind7 n i) hk,zI4 hk,if_neg ne,h1 k hk hc];rfl
   ·have:=h2 k hk hc
    have e:=zDT (f:=f) (c:=c) hu (ind7 n i) k;rw[zTV hi]at e;rw[zBC (zHH hb hn hi) hv hk,zNF hk,if_neg h,zL7 hs (show i<N by lia) (show k<N by lia)]
    lia
theorem alt7{N n:Nat}{f:Nat->Nat->Int}(hs:Sym N f)(hb:Bits N f)(hn:n<N)(c:List Int) :
  (∃u,Sp7 n c u/\∀k,k<n->c.getD k 0≠0->(Bx7 n f c u k+f n k)%2=0)\/∃z,RowN n z/\KC n c f z/\vr7 n f z%2=1:=by
 by_cases h:∃z,RowN n z/\KC n c f z/\vr7 n f z%2=1
 ·exact .inr h
 ·refine .inl ?_;have hv:RowN n ((qA8 n).map fun j=>f n j):=⟨by simp,fun z hz=>by
   obtain⟨j,hj,rfl⟩:=qAf.mp hz;exact hb n j hn (by have:=qAz.mp hj;lia)⟩
  obtain⟨u,h1,h2⟩:=spn7 hs hb (qB6 hn) (fred n ((qA8 n).map (rw7 n f c)) ((qA8 n).map fun j=>f n j) (fun r hr=>by
   obtain⟨k,hk,rfl⟩:=qAf.mp hr;exact zHH hb (qB6 hn) (qAz.mp hk)) hv fun x hx hk=>by
   rw[zES hx.1];have kc:KC n c f x:=KC7.mpr fun k hkn=>by
    have:=hk _ (qAf.mpr ⟨k,qAz.mpr hkn,rfl⟩)
    rw[zSV hkn hx.1]at this;constructor
    ·intro z;rw[if_pos z]at this
     rcases bitD hx k with y|y
     ·exact y
     ·rw[y]at this;cases this
    ·intro z;rw[if_neg z]at this;exact this
   have:¬vr7 n f x%2=1:=fun z=>h ⟨x,hx,kc,z⟩
   show vr7 n f x%2=0
   lia)
  refine⟨u,h1,fun k hk hc=>?_⟩
  have:=h2 k hk hc
  rw[qA0,qAe,qCc hk]at this;exact this
theorem par7{a b y:Int}(h:(a+b)%2=0)(hy:Bit y):(y*a)%2=(b*y)%2:=by
 rcases hy with z|z<;>rw[z]<;>lia
theorem van7{N n:Nat}{f:Nat->Nat->Int}(hs:Sym N f)(hn:n<=N){c u x:List Int}{g:Nat->Int}(hu:Sp7 n c u)(h:∀k,k<n->c.getD k 0≠0->(Bx7 n f c u k+g k)%2=0)(hx:RowN n x)(hk:KC n c f x):sumN n (fun k=>g k*x.getD k 0)%2=0:=by
 have e:=bil7 hs hn c u x;have e1:sumN n (fun k=>x.getD k 0*Bx7 n f c u k)%2=sumN n (fun k=>g k*x.getD k 0)%2:=zDV fun k hk'=>by
  by_cases z:c.getD k 0=0
  ·rw[(hk k hk').1 z,qBg,qAr]
  ·exact par7 (h k hk' z) (bitD hx k)
 have e2:sumN n (fun k=>u.getD k 0*Bx7 n f c x k)%2=sumN n (fun _=>(0:Int))%2:=zDV fun k hk'=>by
  by_cases z:c.getD k 0=0
  ·rw[hu.2 k hk' z,qBg]
  ·have:=(KC7.mp hk k hk').2 z
   rw[qGm,this,qAr]
 have e3:sumN n (fun _=>(0:Int))=0:=zAY fun _ _=>rfl
 rw[<- e1,e,e2,e3];rfl
theorem zSG{n:Nat}{f:Nat->Nat->Int}{c x y:List Int}(hx:RowN n x)(hy:RowN n y)(h:KC n c f x)(h':KC n c f y):KC n c f (addB x y):=KC7.mpr fun k hk=>by
 have a:=KC7.mp h k hk;have b:=KC7.mp h' k hk;refine⟨fun z=>?_,fun z=>?_⟩
 ·rw[zBC hx hy hk,a.1 z,b.1 z];rfl
 ·rw[zDT hx hy]
  have:=a.2 z
  have:=b.2 z
  lia
theorem zBB{n:Nat}{a b:List Int}(ha:RowN n a)(hb:RowN n b):addB (addB b a) a=b:=zDK (addB_row (addB_row hb ha) ha).1 hb.1 fun k hk=>by
 rw[zBC (addB_row hb ha) ha hk,zBC hb ha hk]
 rcases bitD hb k with z|z<;>rw[z]<;>lia
theorem zSA{n:Nat}{f:Nat->Nat->Int}{c:List Int}(hc:c.length=n):cnt (n+1) (KC (n+1) (c++[0]) f)=cnt n (KC n c f):=by
 rw[zFQ,show cnt n (fun x=>KC (n+1) (c++[0]) f (x++[1]))=0 from ?_,qGn]
 ·refine zB2 fun x hx=>?_
  rw[zDS hc hx.1,KC7];constructor
  ·exact fun h k hk=>by have:=h.1 k hk;rw[qAr,qBj]at this;exact this
  ·exact fun h=>⟨fun k hk=>by rw[qAr,qBj];exact h k hk,fun _=>rfl,fun z=>absurd rfl z⟩
 ·rw[zB2 (Q:=fun _=>False) fun x hx=>by
   rw[zDS hc hx.1];exact⟨fun h=>absurd (h.2.1 rfl) (by decide),fun z=>z.elim⟩]
  unfold cnt;simp
theorem zP8{N n:Nat}{f:Nat->Nat->Int}(hs:Sym N f)(hn:n<N){c u:List Int}(hc:c.length=n)(hu:Sp7 n c u)(h:∀k,k<n->c.getD k 0≠0->(Bx7 n f c u k+f n k)%2=0){w:Int}(hw:w≠0) :
  cnt (n+1) (KC (n+1) (c++[w]) f)=if(vr7 n f u+(if w=1 then 1 else 0))%2=0 then 2*cnt n (KC n c f)else cnt n (KC n c f):=by
 have va:∀x,RowN n x->KC n c f x->vr7 n f x%2=0:=fun x hx hk=>van7 hs (qB6 hn) hu h hx hk
 have vad:∀x y,RowN n x->RowN n y->vr7 n f (addB x y)%2=(vr7 n f x+vr7 n f y)%2:=fun x y hx hy=>zER hx hy
 have p1:cnt n (fun x=>KC (n+1) (c++[w]) f (x++[0]))=cnt n (KC n c f):=zB2 fun x hx=>by
  rw[zDS hc hx.1];constructor
  ·exact fun h=>KC7.mpr fun k hk=>by have:=h.1 k hk;rw[qAr,qBj]at this;exact this
  ·exact fun h=>⟨fun k hk=>by rw[qAr,qBj];exact KC7.mp h k hk,fun _=>rfl,fun _=>by
    have:=va x hx h
    show(vr7 n f x+_)%2=0
    split<;>lia⟩
 have sh:∀x,RowN n x->((∀k,k<n->(c.getD k 0=0->x.getD k 0=0)/\(c.getD k 0≠0->(Bx7 n f c x k+f k n*1)%2=0))↔KC n c f (addB x u)):=fun x hx=>by
  rw[KC7];have one:∀k,k<n->(((c.getD k 0=0->x.getD k 0=0)/\(c.getD k 0≠0->(Bx7 n f c x k+f k n*1)%2=0))↔((c.getD k 0=0->(addB x u).getD k 0=0)/\(c.getD k 0≠0->Bx7 n f c (addB x u) k%2=0))):=fun k hk=>by
   rw[zBC hx hu.1 hk,zDT hx hu.1,hs k n (by lia) hn]
   by_cases z:c.getD k 0=0
   ·rw[hu.2 k hk z,z]
    rcases bitD hx k with y|y<;>rw[y]<;>simp
   ·have:=h k hk z
    simp only[z,false_implies,true_and,not_false_eq_true,ne_eq,forall_const]
    constructor<;>intro<;>lia
  exact⟨fun h k hk=>(one k hk).mp (h k hk),fun h k hk=>(one k hk).mpr (h k hk)⟩
 rw[zFQ,p1]
 by_cases hp:(vr7 n f u+(if w=1 then 1 else 0))%2=0
 ·rw[if_pos hp];have p2:cnt n (fun x=>KC (n+1) (c++[w]) f (x++[1]))=cnt n (KC n c f):=by
   refine qCh ?_ ?_
   ·refine zD0 (fun x=>addB x u) (fun x hx hk=>⟨addB_row hx hu.1,(sh x hx).mp ((zDS hc hx.1).mp hk).1⟩) fun x y hx _ hy _ e=>?_
    rw[<- zBB hu.1 hx,<- zBB hu.1 hy,e]
   ·refine zD0 (fun x=>addB x u) (fun x hx hk=>⟨addB_row hx hu.1,(zDS hc (addB_row hx hu.1).1).mpr ⟨(sh _ (addB_row hx hu.1)).mpr (by rw[zBB hu.1 hx];exact hk),fun z=>absurd z hw,fun _=>?_⟩⟩) fun x y hx _ hy _ e=>?_
    ·have e1:=vad x u hx hu.1;have e2:=va x hx hk
     show(vr7 n f (addB x u)+_)%2=0
     generalize(if w=1 then(1:Int)else 0)=t at *
     lia
    ·rw[<- zBB hu.1 hx,<- zBB hu.1 hy,e]
  rw[p2]
  lia
 ·rw[if_neg hp,show cnt n (fun x=>KC (n+1) (c++[w]) f (x++[1]))=0 from ?_,qGn];rw[zB2 (Q:=fun _=>False) fun x hx=>⟨fun hk=>?_,fun z=>z.elim⟩]
  ·unfold cnt;simp
  ·have g:=(zDS hc hx.1).mp hk;have e2:=va _ (addB_row hx hu.1) ((sh x hx).mp g.1);have e1:=vad x u hx hu.1;have e3:(vr7 n f x+(if w=1 then 1 else 0))%2=0:=g.2.2 hw
   generalize(if w=1 then(1:Int)else 0)=t at *
   lia
theorem zP7{N n:Nat}{f:Nat->Nat->Int}(hs:Sym N f)(hn:n<N){c z:List Int}(hc:c.length=n)(hz:RowN n z)(hk:KC n c f z)(hv:vr7 n f z%2=1){w:Int}(hw:w≠0) :
  2*cnt (n+1) (KC (n+1) (c++[w]) f)=cnt n (KC n c f):=by
 have vad:∀x y,RowN n x->RowN n y->vr7 n f (addB x y)%2=(vr7 n f x+vr7 n f y)%2:=fun x y hx hy=>zER hx hy
 have p2:cnt n (fun x=>KC (n+1) (c++[w]) f (x++[1]))=0:=by
  rw[zB2 (Q:=fun _=>False) fun x hx=>⟨fun hk'=>?_,fun y=>y.elim⟩]
  ·unfold cnt;simp
  ·have g:=(zDS hc hx.1).mp hk'
   have:=van7 hs (qB6 hn) (g:=fun k=>f n k) (u:=x) ⟨hx,fun k hk=>(g.1 k hk).1⟩ (fun k hk hc=>by
    have:=(g.1 k hk).2 hc
    rw[hs k n (by lia) hn,qCn]at this;exact this) hz hk
   have e:vr7 n f z%2=0:=this
   lia
 have p1:cnt n (fun x=>KC (n+1) (c++[w]) f (x++[0]))=cnt n (fun x=>KC n c f x/\vr7 n f x%2=0):=zB2 fun x hx=>by
  rw[zDS hc hx.1];have hi:∀a:Int,(a+(if w=1 then(0:Int)else 0))=a:=fun a=>by split<;>lia
  constructor
  ·exact fun h=>⟨KC7.mpr fun k hk=>by have:=h.1 k hk;rw[qAr,qBj]at this;exact this,by
    have:=h.2.2 hw
    rw[hi]at this;exact this⟩
  ·exact fun h=>⟨fun k hk=>by rw[qAr,qBj];exact KC7.mp h.1 k hk,fun _=>rfl,fun _=>by
    rw[hi];exact h.2⟩
 rw[zFQ,p1,p2,zGJ (KC n c f) fun x=>vr7 n f x%2=0];have e:cnt n (fun x=>KC n c f x/\¬vr7 n f x%2=0)=cnt n (fun x=>KC n c f x/\vr7 n f x%2=0):=by
  refine qCh ?_ ?_
  ·refine zD0 (fun x=>addB x z) (fun x hx h=>⟨addB_row hx hz,zSG hx hz h.1 hk,?_⟩) fun x y hx _ hy _ e=>?_
   ·have:=vad x z hx hz
    have:=h.2
    lia
   ·rw[<- zBB hz hx,<- zBB hz hy,e]
  ·refine zD0 (fun x=>addB x z) (fun x hx h=>⟨addB_row hx hz,zSG hx hz h.1 hk,?_⟩) fun x y hx _ hy _ e=>?_
   ·have:=vad x z hx hz
    have:=h.2
    lia
   ·rw[<- zBB hz hx,<- zBB hz hy,e]
 rw[e]
 lia
theorem BxS{n:Nat}{f:Nat->Nat->Int}{c x:List Int}{w b:Int}(hc:c.length=n)(hx:x.length=n){k:Nat}(hk:k<n):Bx7 (n+1) f (c++[w]) (x++[b]) k=Bx7 n f c x k+f k n*b:=by
 have:Bx7 (n+1) f (c++[w]) (x++[b]) k=sumN n (fun j=>Gc7 f (c++[w]) k j*(x++[b]).getD j 0)+Gc7 f (c++[w]) k n*(x++[b]).getD n 0:=zAF _ _
 rw[this,zAK hx]
 congr 1
 ·refine zAL fun j hj=>?_
  rw[zAS hx hj];unfold Gc7;rw[zAS hc hk]
 ·unfold Gc7;rw[if_neg (by lia)]
theorem BxL{n:Nat}{f:Nat->Nat->Int}{c x:List Int}{w b:Int}(hc:c.length=n)(hx:x.length=n):Bx7 (n+1) f (c++[w]) (x++[b]) n=vr7 n f x+(if w=1 then b else 0):=by
 have:Bx7 (n+1) f (c++[w]) (x++[b]) n=sumN n (fun j=>Gc7 f (c++[w]) n j*(x++[b]).getD j 0)+Gc7 f (c++[w]) n n*(x++[b]).getD n 0:=zAF _ _
 rw[this,zAK hx]
 congr 1
 ·refine zAL fun j hj=>?_
  rw[zAS hx hj];unfold Gc7;rw[if_neg (by lia)]
 ·unfold Gc7;rw[if_pos rfl,zAK hc]
  split<;>simp
theorem zJG{n:Nat}{c:List Int}{w:Int}(hc:c.length=n):(kept (n+1) (c++[w])).length=(kept n c).length+if w=0 then 0 else 1:=by
 unfold kept;rw[qC2,qDa,qAw,qDg (q:=fun k=>decide (c.getD k 0≠0)) fun k hk=>by rw[zAS hc (qAz.mp hk)]]
 congr 1
 rw[qBy,zAK hc]
 by_cases h:w=0<;>simp[h]
def sdg7(n:Nat)(c x:List Int):Int:=sumN n fun k=>dg7 c k*x.getD k 0
theorem zEL{n:Nat}{c x:List Int}{w b:Int}(hc:c.length=n)(hx:x.length=n):sdg7 (n+1) (c++[w]) (x++[b])=sdg7 n c x+(if w=1 then b else 0):=by
 unfold sdg7;rw[zAF,zAK hx]
 congr 1
 ·refine zAL fun j hj=>?_
  rw[zAS hx hj];unfold dg7;rw[zAS hc hj]
 ·unfold dg7;rw[zAK hc]
  split<;>simp
def Dg7(n:Nat)(f:Nat->Nat->Int)(c x:List Int):Prop:=Sp7 n c x/\∀k,k<n->c.getD k 0≠0->(Bx7 n f c x k+dg7 c k)%2=0
theorem zGN{n:Nat}{f:Nat->Nat->Int}{c x:List Int}{w b:Int}(hc:c.length=n)(hx:RowN n x)(hb:Bit b)(h1:∀k,k<n->c.getD k 0=0->x.getD k 0=0)(h2:∀k,k<n->c.getD k 0≠0->(Bx7 n f c x k+f k n*b+dg7 c k)%2=0)(h3:w=0->b=0)(h4:w≠0->(vr7 n f x+(if w=1 then b else 0)+(if w=1 then 1 else 0))%2=0):Dg7 (n+1) f (c++[w]) (x++[b]):=by
 refine⟨⟨zFZ hx hb,fun k hk=>?_⟩,fun k hk=>?_⟩
 ·by_cases h:k<n
  ·rw[zAS hc h,zAS hx.1 h];exact h1 k h
  ·obtain rfl:k=n:=by lia
   rw[zAK hc,zAK hx.1];exact h3
 ·by_cases h:k<n
  ·rw[zAS hc h,BxS hc hx.1 h,show dg7 (c++[w]) k=dg7 c k by unfold dg7;rw[zAS hc h]];exact h2 k h
  ·obtain rfl:k=n:=by lia
   rw[zAK hc,BxL hc hx.1,show dg7 (c++[w]) k=(if w=1 then 1 else 0) by unfold dg7;rw[zAK hc]];exact h4
theorem zsum{n:Nat}{g x:Nat->Int}(h:∀k,k<n->g k%2=0\/x k=0):sumN n (fun k=>g k*x k)%2=0:=by
 have e3:sumN n (fun _=>(0:Int))=0:=zAY fun _ _=>rfl
 rw[zDV (g:=fun _=>0) fun k hk=>?_,e3]
 ·rfl
 ·rcases h k hk with z|z
  ·rw[qGm,z,qBg]
  ·rw[z,qAr]
theorem zXX{N n:Nat}{f:Nat->Nat->Int}(hs:Sym N f)(hb:Bits N f)(hn:n<N){c:List Int}(hc:c.length=n){r:Nat}(hr:cnt n (KC n c f)=2 ^ r){x:List Int}(hx:Dg7 n f c x){w:Int} :
  ∃(r':Nat)(x':List Int),cnt (n+1) (KC (n+1) (c++[w]) f)=2 ^ r'/\Dg7 (n+1) f (c++[w]) x'/\(sdg7 (n+1) (c++[w]) x'+(kept (n+1) (c++[w])).length+r'+(sdg7 n c x+(kept n c).length+r))%2=0:=by
 by_cases h0:w=0
 ·subst h0;refine⟨r,x++[0],by rw[zSA hc,hr],zGN hc hx.1.1 (.inl rfl) hx.1.2 (fun k hk h=>?_) (fun _=>rfl) fun z=>absurd rfl z,?_⟩
  ·rw[qAr,qBj];exact hx.2 k hk h
  ·rw[zEL hc hx.1.1.1,zJG hc,if_pos rfl,if_neg (by decide)]
   lia
 ·have hk:=zJG (w:=w) hc;rw[if_neg h0]at hk;have bx:∀k,Bit (x.getD k 0):=bitD hx.1.1;have hn':=qB6 hn
  rcases alt7 hs hb hn c with⟨u,hu,h⟩|⟨z,hz,hkz,hv⟩
  ·have cu:=zP8 hs hn hc hu h h0;rw[hr]at cu;have q1:vr7 n f u%2=sdg7 n c u%2:=by
    have e:=zQB hs c u (bitD hu.1) n hn';unfold sdg7;rw[<- e];unfold vr7;refine zDV fun k hk=>?_
    by_cases z:c.getD k 0=0
    ·rw[hu.2 k hk z,qBg,qAr]
    ·exact(par7 (h k hk z) (bitD hu.1 k)).symm
   have q2:vr7 n f x%2=sdg7 n c u%2:=by
    have e:=bil7 hs hn' c u x;have e1:sumN n (fun k=>x.getD k 0*Bx7 n f c u k)%2=vr7 n f x%2:=zDV fun k hk=>by
     by_cases z:c.getD k 0=0
     ·rw[hx.1.2 k hk z,qBg,qAr]
     ·exact par7 (h k hk z) (bx k)
    have e2:sumN n (fun k=>u.getD k 0*Bx7 n f c x k)%2=sdg7 n c u%2:=zDV fun k hk=>by
     by_cases z:c.getD k 0=0
     ·rw[hu.2 k hk z,qBg,qAr]
     ·exact par7 (hx.2 k hk z) (bitD hu.1 k)
    rw[<- e1,e,e2]
   generalize ht:(if w=1 then(1:Int)else 0)=t at cu
   by_cases hp:(vr7 n f u+t)%2=0
   ·rw[if_pos hp]at cu;refine⟨r+1,x++[0],by rw[cu,qC4];lia,zGN hc hx.1.1 (.inl rfl) hx.1.2 (fun k hk h=>?_) (fun _=>rfl) fun _=>?_,?_⟩
    ·rw[qAr,qBj];exact hx.2 k hk h
    ·rw[ht,ite_self]
     lia
    ·rw[zEL hc hx.1.1.1,hk,ite_self]
     lia
   ·rw[if_neg hp]at cu;have va:vr7 n f (addB x u)%2=(vr7 n f x+vr7 n f u)%2:=zER hx.1.1 hu.1;have sa:sdg7 n c (addB x u)%2=(sdg7 n c x+sdg7 n c u)%2:=zER hx.1.1 hu.1;have hxu:=addB_row hx.1.1 hu.1;refine⟨r,addB x u++[1],cu,zGN hc hxu (.inr rfl) (fun k hk z=>?_) (fun k hk z=>?_) (fun z=>absurd z h0) fun _=>?_,?_⟩
    ·rw[zBC hx.1.1 hu.1 hk,hx.1.2 k hk z,hu.2 k hk z];rfl
    ·have a:=hx.2 k hk z;have b:=h k hk z;have e:=zDT (f:=f) (c:=c) hx.1.1 hu.1 k;rw[hs k n (by lia) hn]
     lia
    ·rw[ht]
     lia
    ·rw[zEL hc hxu.1,hk,ht]
     lia
  ·have cz:=zP7 hs hn hc hz hkz hv h0;rw[hr]at cz;have sz:sdg7 n c z%2=0:=by
    have e:=zQB hs c z (bitD hz) n hn';unfold sdg7;rw[<- e,show(fun k=>z.getD k 0*Bx7 n f c z k)=(fun k=>Bx7 n f c z k*z.getD k 0) from funext fun k=>qBt _ _];refine zsum fun k hk=>?_
    by_cases y:c.getD k 0=0
    ·exact .inr ((KC7.mp hkz k hk).1 y)
    ·exact .inl ((KC7.mp hkz k hk).2 y)
   cases r with
   |zero=>exfalso;rw[qGo]at cz;lia
   |succ r=>
    rw[qC4]at cz;have cz':cnt (n+1) (KC (n+1) (c++[w]) f)=2 ^ r:=by lia
    have hxz:=addB_row hx.1.1 hz;have va:vr7 n f (addB x z)%2=(vr7 n f x+vr7 n f z)%2:=zER hx.1.1 hz;have sa:sdg7 n c (addB x z)%2=(sdg7 n c x+sdg7 n c z)%2:=zER hx.1.1 hz
    generalize ht:(if w=1 then(1:Int)else 0)=t
    by_cases hp:(vr7 n f x+t)%2=0
    ·refine⟨r,x++[0],cz',zGN hc hx.1.1 (.inl rfl) hx.1.2 (fun k hk h=>?_) (fun _=>rfl) fun _=>?_,?_⟩
     ·rw[qAr,qBj];exact hx.2 k hk h
     ·rw[ht,ite_self]
      lia
     ·rw[zEL hc hx.1.1.1,hk,ite_self]
      lia
    ·refine⟨r,addB x z++[0],cz',zGN hc hxz (.inl rfl) (fun k hk y=>?_) (fun k hk y=>?_) (fun y=>absurd y h0) fun _=>?_,?_⟩
     ·rw[zBC hx.1.1 hz hk,hx.1.2 k hk y,(KC7.mp hkz k hk).1 y];rfl
     ·have a:=hx.2 k hk y;have b:=(KC7.mp hkz k hk).2 y;have e:=zDT (f:=f) (c:=c) hx.1.1 hz k
      lia
     ·have:t=0\/t=1:=by rw[<- ht];split<;>simp
      rw[ht,ite_self]
      lia
     ·rw[zEL hc hxz.1,hk,ite_self]
      lia
theorem pow7{N:Nat}{f:Nat->Nat->Int}(hs:Sym N f)(hb:Bits N f):∀(n:Nat)(c:List Int),n<=N->c.length=n->∃(r:Nat)(x:List Int),cnt n (KC n c f)=2 ^ r/\Dg7 n f c x/\(sdg7 n c x+(kept n c).length+r)%2=0
 |0,c,_,hc=>by
  cases qCi.mp hc;refine⟨0,[],?_,⟨⟨⟨rfl,fun z hz=>by cases hz⟩,fun k hk=>by cases hk⟩,fun k hk=>by cases hk⟩,rfl⟩;rw[zB2 (Q:=fun _=>True) fun x _=>⟨fun _=>trivial,fun _ k hk=>by cases hk⟩,cnt_all]
 |n+1,c,hn,hc=>by
  have hl:(c.take n).length=n:=by rw[qBx,hc];lia
  have e:c=c.take n++[c.getD n 0]:=zDK hc (by simp[hl]) fun k hk=>by
   by_cases h:k<n
   ·rw[zAS hl h,qA0,qA0,qEr,if_pos h]
   ·rw[show k=n by lia,zAK hl]
  obtain⟨r,x,h1,h2,h3⟩:=pow7 hs hb n (c.take n) (by lia) hl;obtain⟨r',x',g1,g2,g3⟩:=zXX hs hb (by lia) hl h1 h2 (w:=c.getD n 0);rw[<- e]at g1 g2 g3;exact⟨r',x',g1,g2,by lia⟩
theorem tri7{N n:Nat}{f:Nat->Nat->Int}(hs:Sym N f)(hb:Bits N f)(hn:n<N){c:List Int}(hc:c.length=n):∃r:Nat,∃r0 r1 r2:Nat,(r0=r/\r1=r/\r2=r+1\/r0=r/\r1=r+1/\r2=r\/r0=r+1/\r1=r/\r2=r)/\cnt (n+1) (KC (n+1) (c++[0]) f)=2 ^ r0/\cnt (n+1) (KC (n+1) (c++[1]) f)=2 ^ r1/\cnt (n+1) (KC (n+1) (c++[2]) f)=2 ^ r2:=by
 obtain⟨r,x,hr,_⟩:=pow7 hs hb n c (qB6 hn) hc;have c0:=zSA (f:=f) hc;rw[hr]at c0
 rcases alt7 hs hb hn c with⟨u,hu,h⟩|⟨z,hz,hkz,hv⟩
 ·have c1:=zP8 hs hn hc hu h (w:=1) (by decide);have c2:=zP8 hs hn hc hu h (w:=2) (by decide);rw[if_pos (show(1:Int)=1 from rfl),hr]at c1;rw[if_neg (show ¬(2:Int)=1 by decide),hr]at c2
  by_cases hp:vr7 n f u%2=0
  ·rw[if_neg (by lia)]at c1;rw[if_pos (by lia)]at c2;exact⟨r,r,r,r+1,.inl ⟨rfl,rfl,rfl⟩,c0,c1,by rw[c2,qC4];lia⟩
  ·rw[if_pos (by lia)]at c1;rw[if_neg (by lia)]at c2;exact⟨r,r,r+1,r,.inr (.inl ⟨rfl,rfl,rfl⟩),c0,by rw[c1,qC4];lia,c2⟩
 ·have c1:=zP7 hs hn hc hz hkz hv (w:=1) (by decide);have c2:=zP7 hs hn hc hz hkz hv (w:=2) (by decide);rw[hr]at c1 c2;cases r with
  |zero=>exfalso;rw[qGo]at c1;lia
  |succ r=>
   rw[qC4]at c1 c2;exact⟨r,r+1,r,r,.inr (.inr ⟨rfl,rfl,rfl⟩),c0,by lia,by lia⟩
section
theorem zNC{α:Type}(F G:α->Int):∀l:List α,(l.map fun c=>F c+G c).sum=(l.map F).sum+(l.map G).sum
 |[]=>rfl
 |a::r=>by rw[qAg,qB8,qAg,qB8,qAg,qB8,zNC F G r];lia
theorem zLF{α:Type}(q:Int)(F:α->Int):∀l:List α,(l.map fun c=>q*F c).sum=q*(l.map F).sum
 |[]=>by simp
 |a::r=>by rw[qAg,qB8,qAg,qB8,zLF q F r,qFk]
theorem zCV{α:Type}{F G:α->Int}{l:List α}(h:∀c∈l,F c=G c):(l.map F).sum=(l.map G).sum:=by rw[qAy h]
theorem zKD{α:Type}{F:α->Int}:∀{l:List α},(∀c∈l,F c=0)->(l.map F).sum=0
 |[],_=>rfl
 |a::r,h=>by rw[qAg,qB8,h a qAv,zKD fun c hc=>h c (qAm _ hc)];rfl
theorem zHF{α β:Type}(G:α->β->Int)(m:List β):∀l:List α,(l.map fun c=>(m.map fun x=>G c x).sum).sum=(m.map fun x=>(l.map fun c=>G c x).sum).sum
 |[]=>(zKD fun _ _=>rfl).symm
 |a::r=>by
  rw[qAg,qB8,zHF G m r,<- zNC];rfl
theorem zRK{α:Type}(F:α->Int)(l m:List α):((l++m).map F).sum=(l.map F).sum+(m.map F).sum:=by rw[qB1,qFi]
theorem zRJ(ws:List Int)(F:List Int->Int):∀A:List (List Int),((lng ws A).map F).sum=(A.map fun c=>(ws.map fun w=>F (c++[w])).sum).sum
 |[]=>rfl
 |a::A=>by
  have e:lng ws (a::A)=ext1 ws a++lng ws A:=rfl;rw[e,zRK,zRJ ws F A,qAg,qB8];unfold ext1;rw[qAp];rfl
theorem zST(ws:List Int)(n:Nat)(F:List Int->Int):((chW ws (n+1)).map F).sum=((chW ws n).map fun c=>(ws.map fun w=>F (c++[w])).sum).sum:=zRJ ws F _
noncomputable def prN:Nat->(Nat->Int)->Int
 |0,_=>1
 |n+1,g=>prN n g*g n
theorem zC1{g h:Nat->Int}:∀{n:Nat},(∀k,k<n->g k=h k)->prN n g=prN n h
 |0,_=>rfl
 |n+1,e=>by rw[prN,prN,zC1 fun k hk=>e k (by lia),e n (by lia)]
theorem zG1(g h:Nat->Int):∀n,prN n (fun k=>g k*h k)=prN n g*prN n h
 |0=>rfl
 |n+1=>by
  rw[prN,prN,prN,zG1 g h n,qDm,qDm]
  congr 1
  rw[qBs]
theorem zHP{g:Nat->Int}:∀{n k:Nat},k<n->g k=0->prN n g=0
 |n+1,k,hk,h=>by
  rw[prN]
  by_cases e:k<n
  ·rw[zHP e h,qBg]
  ·rw[show n=k by lia,h,qAr]
theorem zKE{g:Nat->Int}:∀{n:Nat},(∀k,k<n->g k=1)->prN n g=1
 |0,_=>rfl
 |n+1,h=>by rw[prN,zKE fun k hk=>h k (by lia),h n (by lia)];rfl
theorem zNR(q:Int):∀n,prN n (fun _=>q)=q ^ n
 |0=>(qF4 q).symm
 |n+1=>by rw[prN,zNR q n,qCt]
theorem zR2(ws:List Int)(g:Nat->Int->Int):∀n,((chW ws n).map fun c=>prN n fun k=>g k (c.getD k 0)).sum=prN n fun k=>(ws.map (g k)).sum
 |0=>rfl
 |n+1=>by
  rw[zST,zCV (G:=fun c=>(ws.map (g n)).sum*prN n fun k=>g k (c.getD k 0)) fun c hc=>?_,zLF,zR2 ws g n,prN,qBt];have hl:=(zD1 hc).1;rw[qBt,<- zLF];refine zCV fun w _=>?_
  rw[prN,zAK hl]
  congr 1
  exact zC1 fun k hk=>by rw[zAS hl hk]
def SB(n:Nat)(F:List Int->Int):Int:=((chW [0,1] n).map F).sum
theorem zXC{n:Nat}{x:List Int}(h:x∈chW [0,1] n):RowN n x:=⟨(zD1 h).1,fun z hz=>by simpa[Bit]using(zD1 h).2 z hz⟩
theorem zBH{n:Nat}{F G:List Int->Int}(h:∀x,RowN n x->F x=G x):SB n F=SB n G:=zCV fun x hx=>h x (zXC hx)
theorem zIQ(n:Nat)(F:List Int->Int):SB (n+1) F=SB n (fun x=>F (x++[0]))+SB n (fun x=>F (x++[1])):=by
 unfold SB;rw[zST,<- zNC];refine zCV fun x _=>?_
 simp
open Classical in
theorem zGM(P:List Int->Prop):∀n,((cnt n P:Nat):Int)=SB n fun x=>if P x then 1 else 0
 |0=>by
  have:SB 0 (fun x=>if P x then 1 else 0)=(if P []then 1 else 0)+0:=rfl
  rw[this];unfold cnt allv
  by_cases h:P []<;>simp[h]
 |n+1=>by
  have a:=zGM (fun x=>P (x++[0])) n;have b:=zGM (fun x=>P (x++[1])) n;rw[zFQ,zIQ,<- a,<- b,qFm]
theorem zPO(n:Nat)(q:Int)(F:List Int->Int):SB n (fun x=>q*F x)=q*SB n F:=zLF q F _
theorem zPN(n:Nat)(G:List Int->List Int->Int):SB n (fun x=>SB n (G x))=SB n fun t=>SB n fun x=>G x t:=zHF G _ _
theorem zPQ(g:Nat->Int->Int)(n:Nat):SB n (fun c=>prN n fun k=>g k (c.getD k 0))=prN n fun k=>g k 0+g k 1:=by
 unfold SB;rw[zR2];exact zC1 fun k _=>by simp
theorem zK4:∀{x y:List Int}{a b:Int},x.length=y.length->addB (x++[a]) (y++[b])=addB x y++[(a+b)%2]
 |[],[],_,_,_=>rfl
 |p::x,q::y,a,b,h=>by
  have:=zK4 (a:=a) (b:=b) (show x.length=y.length by simpa using h)
  show(p+q)%2::addB (x++[a]) (y++[b])=(p+q)%2::(addB x y++[(a+b)%2])
  rw[this]
theorem zPP:∀(n:Nat)(t:List Int)(F:List Int->Int),RowN n t->SB n (fun x=>F (addB x t))=SB n F
 |0,t,F,ht=>by
  cases qCi.mp ht.1;rfl
 |n+1,t,F,ht=>by
  obtain⟨e,hr⟩:=zHD ht;have hb:=bitD ht n;have h:∀a:Int,SB n (fun x=>F (addB (x++[a]) t))=SB n fun x=>F (x++[(a+t.getD n 0)%2]):=fun a=>by
   refine qE6 (zBH fun x hx=>?_) (zPP n (t.take n) (fun x=>F (x++[(a+t.getD n 0)%2])) hr);show F (addB (x++[a]) t)=F (addB x (t.take n)++[(a+t.getD n 0)%2]);rw[<- zK4 (by rw[hx.1,hr.1]),<- e]
  rw[zIQ,zIQ,h 0,h 1]
  rcases hb with z|z<;>rw[z]
  ·rfl
  ·exact qGp _ _
noncomputable def rt7(n:Nat)(f:Nat->Nat->Int)(c:List Int):Nat:=(cnt n (KC n c f)).log2
theorem rv7(ws:List Int)(n:Nat)(f:Nat->Nat->Int):rv ws n f=(chW ws n).map (rt7 n f):=by
 unfold rv;refine qAy fun c _=>?_
 unfold rst rt7;rw[zR7]
theorem zGZ{n:Nat}{f:Nat->Nat->Int}{c:List Int}{r:Nat}(h:cnt n (KC n c f)=2 ^ r):rt7 n f c=r:=by
 unfold rt7;rw[h,qF9]
theorem tot7{N n:Nat}{f:Nat->Nat->Int}(hs:Sym N f)(hb:Bits N f)(hn:n<N):((chW [0,1,2] (n+1)).map fun c=>(-2:Int) ^ rt7 (n+1) f c).sum=0:=by
 rw[zST];refine zKD fun c hc=>?_
 obtain⟨r,r0,r1,r2,h,h0,h1,h2⟩:=tri7 hs hb hn (zD1 hc).1
 show((-2:Int) ^ rt7 (n+1) f (c++[0])+((-2) ^ rt7 (n+1) f (c++[1])+((-2) ^ rt7 (n+1) f (c++[2])+0)))=0
 rw[zGZ h0,zGZ h1,zGZ h2]
 rcases h with⟨rfl,rfl,rfl⟩|⟨rfl,rfl,rfl⟩|⟨rfl,rfl,rfl⟩<;>rw[qCt]<;>lia
noncomputable def wo7(x:Int):List Int->Int
 |[]=>0
 |n::r=>n+x*wo7 x r
theorem zIS(x:Int):∀(m:Nat)(g:Nat->Int),wo7 x ((qA8 m).map g)=sumN m fun k=>g k*x ^ k
 |0,_=>rfl
 |m+1,g=>by
  rw[qDt,qAg,qAp,zGW];show g 0+x*wo7 x ((qA8 m).map fun k=>g (k+1))=_;rw[zIS x m fun k=>g (k+1),<- zHB,qF4,qCn]
  congr 1
  refine zAL fun k _=>?_
  rw[qCt,qBs,qBt x]
theorem zP9(x:Int)(m:Nat):∀rs:List Nat,(∀r∈rs,r<m)->sumN m (fun k=>((rs.count k:Nat):Int)*x ^ k)=(rs.map fun r=>x ^ r).sum
 |[],_=>zAY fun k _=>by simp
 |a::rs,h=>by
  rw[qAg,qB8,<- zP9 x m rs fun r hr=>h r (qAm _ hr)];have ha:=h a qAv;have e:sumN m (fun k=>(((a::rs).count k:Nat):Int)*x ^ k)=sumN m (fun k=>(if a=k then x ^ k else 0)+((rs.count k:Nat):Int)*x ^ k):=zAL fun k _=>by
   rw[qFl]
   by_cases z:a=k
   ·subst z;simp;rw[Int.add_mul];lia
   ·simp[z]
  rw[e,zHC,zHA ha fun k _ hne=>if_neg fun z=>hne z.symm,if_pos rfl]
theorem zIT(x:Int)(rs:List Nat):wo7 x (cv rs)=(rs.map fun r=>x ^ r).sum:=by
 unfold cv;rw[zIS];exact zP9 x _ rs fun r hr=>Nat.lt_succ_of_le (zTG hr)
end
section
noncomputable def sg7(a:Int):Int:=if a%2=0 then 1 else -1
theorem zHG{a b:Int}(h:a%2=b%2):sg7 a=sg7 b:=by unfold sg7;rw[h]
theorem zFV(a b:Int):sg7 (a+b)=sg7 a*sg7 b:=by
 unfold sg7
 by_cases h:a%2=0<;>by_cases k:b%2=0
 ·rw[if_pos h,if_pos k,if_pos (by lia)];rfl
 ·rw[if_pos h,if_neg k,if_neg (by lia)];rfl
 ·rw[if_neg h,if_pos k,if_neg (by lia)];rfl
 ·rw[if_neg h,if_neg k,if_pos (by lia)];rfl
theorem zQ0{a:Int}(h:a%2=0):sg7 a=1:=if_pos h
theorem zNQ{x:List Int}(hx:∀k,Bit (x.getD k 0))(a:Nat->Int):∀n,prN n (fun k=>if x.getD k 0=1 then sg7 (a k)else 1)=sg7 (sumN n fun k=>x.getD k 0*a k)
 |0=>rfl
 |n+1=>by
  rw[prN,zNQ hx a n,zAF,zFV]
  congr 1
  rcases hx n with z|z
  ·rw[z,qBg];rfl
  ·rw[z,qGr];rfl
theorem zNS{Q:Nat->Prop}[∀k,Decidable (Q k)]{n:Nat}[Decidable (∀k,k<n->Q k)]:prN n (fun k=>if Q k then(1:Int)else 0)=if ∀k,k<n->Q k then 1 else 0:=by
 by_cases h:∀k,k<n->Q k
 ·rw[if_pos h];exact zKE fun k hk=>if_pos (h k hk)
 ·rw[if_neg h];simp only[qE9]at h;obtain⟨k,hk,h⟩:=h;exact zHP hk (if_neg h)
theorem zUG(P:List Int->Prop)[∀x,Decidable (P x)](n:Nat):((cnt n P:Nat):Int)=SB n fun x=>if P x then 1 else 0:=(zGM P n).trans (zBH fun x _=>by
 by_cases h:P x
 ·rw[if_pos h,if_pos h]
 ·rw[if_neg h,if_neg h])
def Ok7(n:Nat)(f:Nat->Nat->Int)(x:List Int)(k:Nat)(w:Int):Prop:=(w=0->x.getD k 0=0)/\(w≠0->(im0 n f x k+(if w=1 then x.getD k 0 else 0))%2=0)
open Classical in
noncomputable def ok7(n:Nat)(f:Nat->Nat->Int)(x:List Int)(k:Nat)(w:Int):Int:=if Ok7 n f x k w then 1 else 0
open Classical in
theorem zXL{n:Nat}{f:Nat->Nat->Int}{c x:List Int}:(if KC n c f x then(1:Int)else 0)=prN n fun k=>ok7 n f x k (c.getD k 0):=by
 by_cases h:KC n c f x
 ·rw[if_pos h];exact(zKE fun k hk=>if_pos (h k hk)).symm
 ·rw[if_neg h];have h':¬ ∀k,k<n->Ok7 n f x k (c.getD k 0):=h;simp only[qE9]at h';obtain⟨k,hk,h'⟩:=h';exact(zHP hk (if_neg h')).symm
theorem zW5{n:Nat}{f:Nat->Nat->Int}{x:List Int}{k:Nat}(h:Bit (x.getD k 0)):ok7 n f x k 0=if x.getD k 0=1 then 0 else 1:=by
 unfold ok7 Ok7
 rcases h with z|z<;>rw[z]<;>simp
theorem zYF{n:Nat}{f:Nat->Nat->Int}{x:List Int}{k:Nat}(h:Bit (x.getD k 0)):ok7 n f x k 1=if(im0 n f x k+x.getD k 0)%2=0 then 1 else 0:=by
 unfold ok7 Ok7;simp
theorem zW4{n:Nat}{f:Nat->Nat->Int}{x:List Int}{k:Nat}:ok7 n f x k 2=if im0 n f x k%2=0 then 1 else 0:=by
 unfold ok7 Ok7;simp
theorem zXA{N n:Nat}{f:Nat->Nat->Int}(hs:Sym N f)(hb:Bits N f)(hn:n<=N){c:List Int}(hc:c.length=n):cnt n (KC n c f)=2 ^ rt7 n f c:=by
 obtain⟨r,x,h,_⟩:=pow7 hs hb n c hn hc;rw[zGZ h,h]
def Ev7(n:Nat)(f:Nat->Nat->Int)(x:List Int):Prop:=∀k,k<n->x.getD k 0=1->im0 n f x k%2=0
theorem zTY{n:Nat}{f:Nat->Nat->Int}{x y:List Int}(hx:RowN n x)(hy:RowN n y)(k:Nat):im0 n f (addB x y) k%2=(im0 n f x k+im0 n f y k)%2:=zER hx hy
theorem zUJ{n:Nat}{f:Nat->Nat->Int}{x:List Int}{k:Nat}:Bx7 n f [] x k=im0 n f x k:=zAL fun j _=>by
 unfold Gc7 f0;rw[qGg,if_neg (show ¬(0:Int)=1 by decide)]
theorem zQW{n:Nat}{f:Nat->Nat->Int}(hs:Sym n f){x:List Int}(hx:∀k,Bit (x.getD k 0)):sumN n (fun k=>x.getD k 0*im0 n f x k)%2=0:=by
 have:=zQB hs [] x hx n (qA6 n)
 rw[zAL (g:=fun k=>x.getD k 0*im0 n f x k) fun k _=>by rw[zUJ]]at this;rw[this,zAY fun k _=>?_]
 ·rfl
 ·unfold dg7;rw[qGg,if_neg (show ¬(0:Int)=1 by decide),qBg]
theorem mid7{n:Nat}{f:Nat->Nat->Int}(hs:Sym n f):SB n (fun x=>prN n fun k=>if x.getD k 0=1 then 1 else 2+sg7 (im0 n f x k))=SB n fun u=>prN n fun k=>if u.getD k 0=1 then 1+sg7 (im0 n f u k)else 2:=by
 let h:List Int->Nat->Int->Int:=fun x k t=>if t=0 then(if x.getD k 0=1 then 1 else 2)else(if x.getD k 0=1 then 0 else sg7 (im0 n f x k))
 let h':List Int->Nat->Int->Int:=fun u k t=>if t=0 then(if u.getD k 0=1 then 1 else 2)else(if u.getD k 0=1 then sg7 (im0 n f u k)else 0)
 have e1:∀x,(prN n fun k=>if x.getD k 0=1 then 1 else 2+sg7 (im0 n f x k))=SB n fun t=>prN n fun k=>h x k (t.getD k 0):=fun x=>by
  rw[zPQ (h x)];refine zC1 fun k _=>?_
  show _=(if x.getD k 0=1 then(1:Int)else 2)+(if x.getD k 0=1 then 0 else sg7 (im0 n f x k))
  by_cases z:x.getD k 0=1
  ·rw[if_pos z,if_pos z,if_pos z];rfl
  ·rw[if_neg z,if_neg z,if_neg z]
 have e2:∀u,(prN n fun k=>if u.getD k 0=1 then 1+sg7 (im0 n f u k)else 2)=SB n fun t=>prN n fun k=>h' u k (t.getD k 0):=fun x=>by
  rw[zPQ (h' x)];refine zC1 fun k _=>?_
  show _=(if x.getD k 0=1 then(1:Int)else 2)+(if x.getD k 0=1 then sg7 (im0 n f x k)else 0)
  by_cases z:x.getD k 0=1
  ·rw[if_pos z,if_pos z,if_pos z]
  ·rw[if_neg z,if_neg z,if_neg z];rfl
 rw[zBH fun x _=>e1 x,zBH fun u _=>e2 u,zPN n fun x t=>prN n fun k=>h x k (t.getD k 0),zPN n fun x t=>prN n fun k=>h' x k (t.getD k 0)];refine zBH fun t ht=>?_
 rw[<- zPP n t (fun x=>prN n fun k=>h' x k (t.getD k 0)) ht];refine zBH fun x hx=>?_
 have bt:=bitD ht;have e:∀k,k<n->h' (addB x t) k (t.getD k 0)=h x k (t.getD k 0)*(if t.getD k 0=1 then sg7 (im0 n f t k)else 1):=fun k hk=>by
  show(if t.getD k 0=0 then(if(addB x t).getD k 0=1 then(1:Int)else 2)else(if(addB x t).getD k 0=1 then sg7 (im0 n f (addB x t) k)else 0))=(if t.getD k 0=0 then(if x.getD k 0=1 then 1 else 2)else(if x.getD k 0=1 then 0 else sg7 (im0 n f x k)))*_
  rw[zBC hx ht hk,zHG (zTY hx ht k),zFV]
  rcases bt k with z|z<;>rcases bitD hx k with y|y<;>rw[z,y]<;>simp
 show(prN n fun k=>h x k (t.getD k 0))=prN n fun k=>h' (addB x t) k (t.getD k 0)
 rw[zC1 e,zG1,zNQ bt,zQ0 (zQW hs bt),qCn]
open Classical in
theorem two7{n:Nat}{f:Nat->Nat->Int}(hs:Sym n f)(hb:Bits n f):((chW [0,1,2] n).map fun c=>(2:Int) ^ rt7 n f c).sum=2 ^ n*(cnt n (Ev7 n f):Nat):=by
 have e1:((chW [0,1,2] n).map fun c=>(2:Int) ^ rt7 n f c).sum=((chW [0,1,2] n).map fun c=>((chW [0,1] n).map fun x=>prN n fun k=>ok7 n f x k (c.getD k 0)).sum).sum:=zCV fun c hc=>by
  have e:=zXA hs hb (qA6 n) (zD1 hc).1;have e2:=zGM (KC n c f) n;rw[e]at e2;rw[show(2:Int) ^ rt7 n f c=((2 ^ rt7 n f c:Nat):Int) by rw[qCj];rfl,e2];exact zCV fun x _=>zXL
 rw[e1,zHF,zGM,<- zPO];have e3:SB n (fun x=>2 ^ n*(if Ev7 n f x then(1:Int)else 0))=SB n fun u=>prN n fun k=>if u.getD k 0=1 then 1+sg7 (im0 n f u k)else 2:=zBH fun u hu=>by
  have:(fun k=>if u.getD k 0=1 then 1+sg7 (im0 n f u k)else 2)=fun k=>2*(if(u.getD k 0=1->im0 n f u k%2=0)then(1:Int)else 0):=funext fun k=>by
   unfold sg7
   by_cases z:u.getD k 0=1
   ·by_cases y:im0 n f u k%2=0
    ·rw[if_pos z,if_pos y,if_pos fun _=>y];rfl
    ·rw[if_pos z,if_neg y,if_neg fun h=>y (h z)];rfl
   ·rw[if_neg z,if_pos fun h=>absurd h z];rfl
  rw[this,zG1,zNR,zNS]
  by_cases h:Ev7 n f u
  ·rw[if_pos h,if_pos fun k hk z=>h k hk z]
  ·rw[if_neg h,if_neg (show ¬ ∀k,k<n->u.getD k 0=1->im0 n f u k%2=0 from h)]
 rw[e3,<- mid7 hs];refine zBH fun x hx=>?_
 have d:=zR2 [0,1,2] (fun k w=>ok7 n f x k w) n;rw[d];refine zC1 fun k hk=>?_
 have bk:=bitD hx k;show ok7 n f x k 0+(ok7 n f x k 1+(ok7 n f x k 2+0))=_;rw[zW5 bk,zYF bk,zW4];unfold sg7
 rcases bk with z|z<;>rw[z]
 ·rw[qBj (im0 n f x k)]
  by_cases y:im0 n f x k%2=0
  ·rw[if_pos y,if_pos y];simp
  ·rw[if_neg y,if_neg y];simp
 ·by_cases y:im0 n f x k%2=0
  ·rw[if_pos y,if_neg (show ¬(im0 n f x k+1)%2=0 by lia)];simp
  ·rw[if_neg y,if_pos (show(im0 n f x k+1)%2=0 by lia)];simp
theorem zTN:∀r:Nat,(-2:Int) ^ r=sg7 r*2 ^ r
 |0=>rfl
 |r+1=>by
  rw[qCt,zTN r,qCt,show((r+1:Nat):Int)=(r:Int)+1 from rfl,zFV]
  have:sg7 1 = -1:=rfl
  rw[this]
  lia
theorem zLG(c:List Int):∀n,prN n (fun k=>if c.getD k 0=0 then(1:Int)else -1)=sg7 ((kept n c).length:Nat)
 |0=>rfl
 |n+1=>by
  have e:(kept (n+1) c).length=(kept n c).length+if c.getD n 0=0 then 0 else 1:=by
   unfold kept;rw[qC2,qDa,qAw]
   congr 1
   by_cases h:c.getD n 0=0
   ·rw[if_pos h,qBw (by rw[h];decide)];rfl
   ·rw[if_neg h,qBv (p:=fun k=>decide (c.getD k 0≠0)) (decide_eq_true h)];rfl
  rw[prN,zLG c n,e,qFm,zFV]
  congr 1
  by_cases h:c.getD n 0=0
  ·rw[if_pos h,if_pos h];rfl
  ·rw[if_neg h,if_neg h];rfl
theorem zBR{n k:Nat}(hk:k<n):(qA2 n (1:Int)).getD k 0=1:=by simp[qA0,hk]
open Classical in
theorem arr7{n:Nat}{f:Nat->Nat->Int}(hs:Sym n f)(hb:Bits n f):((chW [0,2] n).map fun c=>(-2:Int) ^ rt7 n f c).sum=(-2) ^ rt7 n f (qA2 n 1)*sg7 n:=by
 obtain⟨r,x0,h1,⟨⟨hx0,_⟩,h2⟩,h3⟩:=pow7 hs hb n (qA2 n 1) (qA6 n) (by simp);have hkl:(kept n (qA2 n (1:Int))).length=n:=by
  unfold kept;rw[qEg.mpr fun k hk=>by rw[zBR (qAz.mp hk)];rfl,List.length_range]
 rw[hkl]at h3;have hsd:∀x:List Int,sdg7 n (qA2 n 1) x=sumN n fun k=>x.getD k 0*1:=fun x=>zAL fun k hk=>by
  unfold dg7;rw[zBR hk,if_pos rfl,qBt]
 have hbx:∀(x:List Int)(k:Nat),k<n->Bx7 n f (qA2 n 1) x k=im0 n f x k+x.getD k 0:=fun x k hk=>by rw[zPR hk,zBR hk,if_pos rfl]
 have e1:((chW [0,2] n).map fun c=>(-2:Int) ^ rt7 n f c).sum=((chW [0,2] n).map fun c=>((chW [0,1] n).map fun x=>prN n fun k=>(if c.getD k 0=0 then(1:Int)else -1)*ok7 n f x k (c.getD k 0)).sum).sum:=zCV fun c hc=>by
  have hl:=(zD1 hc).1;obtain⟨q,x,g1,g2,g3⟩:=pow7 hs hb n c (qA6 n) hl;have e2:=zGM (KC n c f) n;rw[g1]at e2;have hz:sdg7 n c x=0:=zAY fun k hk=>by
   have:=(zD1 hc).2 (c.getD k 0) (getD_mem (by rw[hl];exact hk))
   unfold dg7;rw[if_neg fun z=>by rw[z]at this;simp at this,qBg]
  rw[hz]at g3;rw[zGZ g1,zTN,show(2:Int) ^ q=((2 ^ q:Nat):Int) by rw[qCj];rfl,e2,zHG (b:=((kept n c).length:Nat)) (by lia),<- zLG c n,<- zPO];exact zCV fun x _=>by rw[zXL,zG1]
 rw[e1,zHF];have e2:(((chW [0,1] n).map fun x=>((chW [0,2] n).map fun c=>prN n fun k=>(if c.getD k 0=0 then(1:Int)else -1)*ok7 n f x k (c.getD k 0)).sum).sum)=SB n fun x=>sg7 (sumN n fun k=>x0.getD k 0*1)*(if ∀k,k<n->(im0 n f x k+x.getD k 0)%2=1 then(1:Int)else 0):=zBH fun x hx=>by
  have d:=zR2 [0,2] (fun k w=>(if w=0 then(1:Int)else -1)*ok7 n f x k w) n;rw[d];have bx:=bitD hx;have e:∀k,k<n->([0,2].map fun w=>(if w=0 then(1:Int)else -1)*ok7 n f x k w).sum=(if x.getD k 0=1 then sg7 1 else 1)*(if(im0 n f x k+x.getD k 0)%2=1 then(1:Int)else 0):=fun k hk=>by
   show(if(0:Int)=0 then(1:Int)else -1)*ok7 n f x k 0+((if(2:Int)=0 then(1:Int)else -1)*ok7 n f x k 2+0)=_
   rw[zW5 (bx k),zW4,if_pos rfl,if_neg (show ¬(2:Int)=0 by decide),show sg7 1 = -1 from rfl]
   rcases bx k with z|z<;>rw[z]
   ·rw[qBj (im0 n f x k)]
    by_cases y:im0 n f x k%2=0
    ·rw[if_pos y,if_neg (show ¬im0 n f x k%2=1 by lia)];rfl
    ·rw[if_neg y,if_pos (show im0 n f x k%2=1 by lia)];rfl
   ·by_cases y:im0 n f x k%2=0
    ·rw[if_pos y,if_pos (show(im0 n f x k+1)%2=1 by lia)];rfl
    ·rw[if_neg y,if_neg (show ¬(im0 n f x k+1)%2=1 by lia)];rfl
  rw[zC1 e,zG1,zNQ bx,zNS]
  by_cases hO:∀k,k<n->(im0 n f x k+x.getD k 0)%2=1
  ·rw[if_pos hO]
   congr 1
   have kc:KC n (qA2 n 1) f (addB x x0):=KC7.mpr fun k hk=>by
    rw[zBR hk,zDT hx hx0,hbx x k hk];refine⟨fun z=>absurd z (by decide),fun _=>?_⟩;have a:=hO k hk;have b:=h2 k hk (by rw[zBR hk];decide)
    have:dg7 (qA2 n 1) k=1:=by unfold dg7;rw[zBR hk];rfl
    rw[this]at b
    lia
   have v:sdg7 n (qA2 n 1) (addB x x0)%2=0:=van7 hs (qA6 n) (u:=x0) (g:=dg7 (qA2 n 1)) ⟨hx0,fun k hk z=>by rw[zBR hk]at z;cases z⟩ h2 (addB_row hx hx0) kc;have a:sdg7 n (qA2 n 1) (addB x x0)%2=(sdg7 n (qA2 n 1) x+sdg7 n (qA2 n 1) x0)%2:=zER hx hx0;rw[hsd x,hsd x0]at a;exact zHG (by lia)
  ·rw[if_neg hO,qAr,qAr]
 rw[e2,zPO,<- zUG];have e3:cnt n (fun x=>∀k,k<n->(im0 n f x k+x.getD k 0)%2=1)=cnt n (KC n (qA2 n 1) f):=by
  have dk:∀k,k<n->Bx7 n f (qA2 n 1) x0 k%2=1:=fun k hk=>by
   have b:=h2 k hk (by rw[zBR hk];decide)
   have:dg7 (qA2 n 1) k=1:=by unfold dg7;rw[zBR hk];rfl
   rw[this]at b
   lia
  refine qCh ?_ ?_
  ·refine zD0 (fun x=>addB x x0) (fun x hx h=>⟨addB_row hx hx0,KC7.mpr fun k hk=>?_⟩) fun x y hx _ hy _ e=>?_
   ·rw[zBR hk,zDT hx hx0,hbx x k hk];refine⟨fun z=>absurd z (by decide),fun _=>?_⟩;have a:=h k hk;have b:=dk k hk
    lia
   ·rw[<- zBB hx0 hx,<- zBB hx0 hy,e]
  ·refine zD0 (fun x=>addB x x0) (fun x hx h=>⟨addB_row hx hx0,fun k hk=>?_⟩) fun x y hx _ hy _ e=>?_
   ·have a:=(KC7.mp h k hk).2 (by rw[zBR hk];decide);have b:=dk k hk;have e:=zDT (f:=f) (c:=qA2 n 1) hx hx0 k;rw[hbx (addB x x0) k hk]at e
    lia
   ·rw[<- zBB hx0 hx,<- zBB hx0 hy,e]
 rw[hsd x0]at h3;rw[e3,zGZ h1,h1,zTN];rw[zHG (a:=sumN n fun k=>x0.getD k 0*1) (b:=(r:Int)+(n:Int)) (by lia),zFV,qCj,qDm,qDm,qBt (sg7 (n:Int))];rfl
end
def St7(f:Nat->Nat->Int):Prop:=(∀p q,f p q=0\/f p q=1)/\∀p q,f p q=f q p
theorem zNA{f g1 g2:Nat->Nat->Int}{i j:Nat}{y:Int}(w:St7 f)(hv:y=0\/y=1)(hg1:g1=fun p q=>if p=i/\q=j then y else f p q)(hg2:g2=fun p q=>if p=j/\q=i then y else g1 p q):St7 g2:=by
 subst hg1 hg2;refine⟨fun p q=>?_,fun p q=>?_⟩
 ·show(if p=j/\q=i then y else if p=i/\q=j then y else f p q)=0\/(if p=j/\q=i then y else if p=i/\q=j then y else f p q)=1
  split
  ·exact hv
  ·split
   ·exact hv
   ·exact w.1 p q
 ·show(if p=j/\q=i then y else if p=i/\q=j then y else f p q)=(if q=j/\p=i then y else if q=i/\p=j then y else f q p)
  by_cases c1:p=j/\q=i
  ·rw[if_pos c1]
   by_cases c2:q=j/\p=i
   ·rw[if_pos c2]
   ·rw[if_neg c2,if_pos ⟨c1.2,c1.1⟩]
  ·rw[if_neg c1]
   by_cases c2:p=i/\q=j
   ·rw[if_pos c2,if_pos ⟨c2.2,c2.1⟩]
   ·rw[if_neg c2,if_neg (fun z=>c2 ⟨z.2,z.1⟩),if_neg (fun z=>c1 ⟨z.2,z.1⟩)];exact w.2 p q
theorem st0:St7 fun _ _=>0:=⟨fun _ _=>.inl rfl,fun _ _=>rfl⟩
theorem zUC(cs:List Int)(n:Nat)(hn:n<=10)(hc:0<cs.length):∃f,St7 f/\zCZ [rowD cs,.int (n:Int),.bl true]=okR (mat (tab n f)):=by
 have hz:eComp (iR1 (aCons (eV 1) aNil)) 1 (.one 7) Mi.tYes (eB repD (eLst (aCons (eC (.int 0)) aNil)) (eV 1)) [some (rowD cs),some (.int (n:Int)),some (.bl true),none,none,none,none]=okR (mat (tab n fun _ _=>0)):=by
  refine(zE0 (ρ:=[some (rowD cs),some (.int (n:Int)),some (.bl true),none,none,none,none]) (i:=7) (fun _=>rowD ((qA8 n).map fun _=>(0:Int))) n rfl rfl (fun k hk=>b2 (el1 rfl) rfl (zrow n (by lia))) _ (zE3 (n:=n) (al0 rfl) (by lia)) (by lia)).trans ?_;unfold mat tab;rw[qAp];rfl
 suffices key:nxR ((sForR (iR1 (aCons (eV 1) aNil)) 4 (sForR (iR1 (aCons (eB addD (eV 4) (eC (.int 1))) aNil)) 5 (sSeq (sSet 6 0 [0,5,4,1] (eB ixD (eV 0) (eB modD (eB addD (eB mulD (eV 4) (eV 1)) (eV 5)) (eBi lenD (aCons (eV 0) aNil)))))
 (sSeq (sSet 6 0 [6,5,4] (eB modD (eB divD (eV 6) (eB addD (eB addD (eC (.int 1)) (eB mulD (eC (.int 7)) (eV 4))) (eB mulD (eC (.int 61)) (eV 5)))) (eC (.int 2))))
 (sIf (Mi.tOr (tB (eB neD (eV 4) (eV 5))) (tM (eV 2))) (sSeq (sItem2 3 0 (eV 4) (eV 5) (eV 6))
 (sItem2 3 0 (eV 5) (eV 4) (eV 6))) sNil))))) [some (rowD cs,0),some (.int (n:Int),0),some (.bl true,0),some (mat (tab n fun _ _=>0),2),none,none,none]) (fun r=>∃f o4 o5 o6,St7 f/\r=[some (rowD cs,0),some (.int (n:Int),0),some (.bl true,0),some (mat (tab n f),2),o4,o5,o6]) by
  obtain⟨r',g1,f,o4,o5,o6,tf,rfl⟩:=zBI key;refine⟨f,tf,zBJ rfl (sg hz (zC8 _) (sw g1 ?_))⟩;show sRetV 2 3 _=_;unfold sRetV
  show(if _ then _ else _)=_
  rw[if_pos (.inl rfl)]
 rw[zCF,zE3 (n:=n) (al0 rfl) (by lia),bindR_ok];refine zG7 (fun _ r=>∃f o4 o5 o6,St7 f/\r=[some (rowD cs,0),some (.int (n:Int),0),some (.bl true,0),some (mat (tab n f),2),o4,o5,o6]) ⟨_,none,none,none,st0,rfl⟩ (fun i hi r hr=>?_) fun r hr=>hr
 obtain⟨f,o4,o5,o6,tf,rfl⟩:=hr;rw[zCF,zE3 (n:=i+1) (al0 (b2 rfl rfl (adi (by lia)))) (by lia),bindR_ok];refine zG7 (fun _ r=>∃f o5 o6,St7 f/\r=[some (rowD cs,0),some (.int (n:Int),0),some (.bl true,0),some (mat (tab n f),2),some (.int (i:Nat),0),o5,o6]) ⟨f,o5,o6,tf,rfl⟩ (fun j hj r hr=>?_) fun r hr=>?_
 ·obtain⟨f,o5,o6,tf,rfl⟩:=hr;have m1:mulD (.int (i:Int)) (.int (n:Int))=some (.int ((i:Int)*(n:Int))):=zKH (by lia) (by lia);have m2:mulD (.int 7) (.int (i:Int))=some (.int (7*(i:Int))):=zKH (by decide) (by decide);have m3:mulD (.int 61) (.int (j:Int))=some (.int (61*(j:Int))):=zKH (by decide) (by decide);have a1:=qC5 ((i:Int)*(n:Int)+(j:Int)) (show((cs.length:Nat):Int)≠0 by lia);have a2:=qEq ((i:Int)*(n:Int)+(j:Int)) (show(0:Int)<((cs.length:Nat):Int) by lia);have i1:ixD (rowD cs) (.int (((i:Int)*(n:Int)+(j:Int))%(cs.length:Int)))=some (.int (cs.getD (((i:Int)*(n:Int)+(j:Int))%(cs.length:Int)).toNat 0)):=zLV a1 a2
  generalize hw:((i:Int)*(n:Int)+(j:Int))%(cs.length:Int)=w at i1
  generalize cs.getD w.toNat 0=x at i1
  refine nsw (ss (b2 rfl (b2 (b2 (b2 rfl rfl m1) rfl (adi rfl)) (bi1 rfl (lenR cs)) (mdi (by lia) hw)) i1) (qA6 0)) ?_;refine nsw (ss (b2 (b2 rfl (b2 (b2 rfl (b2 rfl rfl m2) (adi rfl)) (b2 rfl rfl m3) (adi rfl)) (dvi ⟨by lia,by lia⟩)) rfl (mdi (by decide) rfl)) (qA6 0)) ?_;have hv:=zII (x/(1+7*(i:Int)+61*(j:Int)))
  generalize x/(1+7*(i:Int)+61*(j:Int))%2=y at hv ⊢
  refine nif1 ?_ (zFX fun bb hb=>zEN (l:=0) (f:=f) i j (v:=y) rfl rfl rfl rfl hi (by lia) fun g1 hg1=>?_)
  ·by_cases h:(i:Int)=j
   ·exact to0 (nei rfl rfl (by rw[decide_eq_true h];rfl)) (tm1 rfl)
   ·exact to1 (nei rfl rfl (by rw[decide_eq_false h];rfl))
  subst hb;exact zEN (l:=0) (f:=g1) j i (v:=y) rfl rfl rfl rfl (by lia) hi fun g2 hg2=>⟨g2,_,_,zNA tf hv hg1 hg2,rfl⟩
 ·obtain⟨f,o5,o6,tf,rfl⟩:=hr;exact⟨f,_,_,_,tf,rfl⟩
theorem zU6(c:Int)(n:Nat)(hn:n<=10):∃f,St7 f/\zBG [.int c,.int (n:Int),.bl true]=okR (mat (tab n f)):=by
 have hz:eComp (iR1 (aCons (eV 1) aNil)) 1 (.one 6) Mi.tYes (eB repD (eLst (aCons (eC (.int 0)) aNil)) (eV 1)) [some (.int c),some (.int (n:Int)),some (.bl true),none,none,none]=okR (mat (tab n fun _ _=>0)):=by
  refine(zE0 (ρ:=[some (.int c),some (.int (n:Int)),some (.bl true),none,none,none]) (i:=6) (fun _=>rowD ((qA8 n).map fun _=>(0:Int))) n rfl rfl (fun k hk=>b2 (el1 rfl) rfl (zrow n (by lia))) _ (zE3 (n:=n) (al0 rfl) (by lia)) (by lia)).trans ?_;unfold mat tab;rw[qAp];rfl
 suffices key:nxR ((sForR (iR1 (aCons (eV 1) aNil)) 4 (sForR (iR1 (aCons (eB addD (eV 4) (eC (.int 1))) aNil)) 5 (sIf (Mi.tOr (tB (eB neD (eV 4) (eV 5))) (tM (eV 2))) (sSeq (sItem2 3 0 (eV 4) (eV 5) (eB modD (eV 0) (eC (.int 2))))
 (sSeq (sItem2 3 0 (eV 5) (eV 4) (eB modD (eV 0) (eC (.int 2))))
 (sSet 0 0 [0] (eB divD (eV 0) (eC (.int 2)))))) sNil))) [some (.int c,0),some (.int (n:Int),0),some (.bl true,0),some (mat (tab n fun _ _=>0),2),none,none]) (fun r=>∃c f o4 o5,St7 f/\r=[some (.int c,0),some (.int (n:Int),0),some (.bl true,0),some (mat (tab n f),2),o4,o5]) by
  obtain⟨r',g1,c',f,o4,o5,tf,rfl⟩:=zBI key;refine⟨f,tf,zBJ rfl (sg hz (zC8 _) (sw g1 ?_))⟩;show sRetV 2 3 _=_;unfold sRetV
  show(if _ then _ else _)=_
  rw[if_pos (.inl rfl)]
 rw[zCF,zE3 (n:=n) (al0 rfl) (by lia),bindR_ok];refine zG7 (fun _ r=>∃c f o4 o5,St7 f/\r=[some (.int c,0),some (.int (n:Int),0),some (.bl true,0),some (mat (tab n f),2),o4,o5]) ⟨c,_,none,none,st0,rfl⟩ (fun i hi r hr=>?_) fun r hr=>hr
 obtain⟨c,f,o4,o5,tf,rfl⟩:=hr;rw[zCF,zE3 (n:=i+1) (al0 (b2 rfl rfl (adi (by lia)))) (by lia),bindR_ok];refine zG7 (fun _ r=>∃c f o5,St7 f/\r=[some (.int c,0),some (.int (n:Int),0),some (.bl true,0),some (mat (tab n f),2),some (.int (i:Nat),0),o5]) ⟨c,f,o5,tf,rfl⟩ (fun j hj r hr=>?_) fun r hr=>?_
 ·obtain⟨c,f,o5,tf,rfl⟩:=hr;refine nif1 ?_ (zFX fun bb hb=>zEN (l:=0) (f:=f) i j (v:=c%2) rfl rfl rfl (b2 rfl rfl (mdi (by decide) rfl)) hi (by lia) fun g1 hg1=>?_)
  ·by_cases h:(i:Int)=j
   ·exact to0 (nei rfl rfl (by rw[decide_eq_true h];rfl)) (tm1 rfl)
   ·exact to1 (nei rfl rfl (by rw[decide_eq_false h];rfl))
  subst hb;refine zFX fun bb hb=>zEN (l:=0) (f:=g1) j i (v:=c%2) rfl rfl rfl (b2 rfl rfl (mdi (by decide) rfl)) (by lia) hi fun g2 hg2=>?_
  subst hb;exact zBK (ss (b2 rfl rfl (dvi (by decide))) (qA6 0)) ⟨_,g2,_,zNA tf (zII c) hg1 hg2,rfl⟩
 ·obtain⟨c,f,o5,tf,rfl⟩:=hr;exact⟨c,f,_,_,tf,rfl⟩
theorem zLN(b:Int)(n:Nat)(hb:-100<b/\b<100)(hn:n<=100):zBM [.int b,.int (n:Int)]=okR (.int (b ^ n)):=by
 suffices key:nxR (sForR (iR1 (aCons (eV 1) aNil)) 3 (sSet 2 0 [2,0] (eB mulD (eV 2) (eV 0))) [some (.int b,0),some (.int (n:Int),0),some (.int 1,0),none]) (fun r=>∃o,r=[some (.int b,0),some (.int (n:Int),0),some (.int (b ^ n),0),o]) by
  obtain⟨r',g1,o,rfl⟩:=zBI key;exact zBJ rfl (sg rfl (qA6 0) (sw g1 rfl))
 rw[zCF,zE3 (n:=n) (al0 rfl) (by lia),bindR_ok];refine zG7 (fun k r=>∃o,r=[some (.int b,0),some (.int (n:Int),0),some (.int (b ^ k),0),o]) ⟨none,by rw[qF4]⟩ (fun k hk r hr=>?_) fun r h=>h
 obtain⟨o,rfl⟩:=hr;exact zBK (ss (b2 rfl rfl (zJB (by lia) (by lia))) (qA6 0)) ⟨_,by rw[qCt];rfl⟩
noncomputable def sts:Nat->List (List Nat)
 |0=>[[]]
 |n+1=>sts n++(sts n).map fun S=>S++[n]
theorem zKB:∀n,(sts n).length=2 ^ n
 |0=>rfl
 |n+1=>by rw[sts,qAw,qAh,zKB n,qC4];lia
theorem zLD:∀{n:Nat}{S:List Nat},S∈sts n->S.length<=n/\∀k∈S,k<n
 |0,S,h=>by
  rw[qAi.mp h];exact⟨qA6 0,fun k hk=>by cases hk⟩
 |n+1,S,h=>by
  rcases qAn.mp h with h|h
  ·have:=zLD h
   exact⟨by lia,fun k hk=>qCq (this.2 k hk)⟩
  ·obtain⟨T,hT,rfl⟩:=qAf.mp h
   have:=zLD hT
   refine⟨by simp;lia,fun k hk=>?_⟩
   rcases qAn.mp hk with h|h
   ·exact qCq (this.2 k h)
   ·rw[qAi.mp h];exact qDq n
theorem zY0(n:Nat)(h1:1<=n)(hn:n<=6):zCM [.int (n:Int)]=okR (mat ((sts n).map numL)):=by
 suffices key:nxR (sForR (iR1 (aCons (eV 0) aNil)) 2 (sSet 1 1 [1,2] (eB addD (eV 1) (eComp (iSq (eV 1)) 1 (.one 3) Mi.tYes (eB addD (eV 3) (eLst (aCons (eV 2) aNil)))))) [some (.int (n:Int),0),some (mat ((sts 0).map numL),10),none]) (fun r=>∃l o,(0<n->l=1)/\r=[some (.int (n:Int),0),some (mat ((sts n).map numL),l),o]) by
  obtain⟨r',g1,l,o,hl,rfl⟩:=zBI key;cases hl h1;refine zBJ rfl (sg (d:=mat ((sts 0).map numL)) (el1 el0) (qAj (zC8 _) (by decide)) (sw g1 ?_));simp[sRetV]
 rw[zCF,zE3 (n:=n) (al0 rfl) (by lia),bindR_ok];refine zG7 (fun k r=>∃l o,(0<k->l=1)/\r=[some (.int (n:Int),0),some (mat ((sts k).map numL),l),o]) ⟨10,none,fun z=>absurd z (qBm 0),rfl⟩ (fun k hk r hr=>?_) fun r h=>h
 obtain⟨l,o,_,rfl⟩:=hr;have hlen:(sts k).length<=100:=by
  rw[zKB]
  have:2 ^ k<=2 ^ 6:=qC9 (by decide) (by lia)
  lia
 have he:eB addD (eV 1) (eComp (iSq (eV 1)) 1 (.one 3) Mi.tYes (eB addD (eV 3) (eLst (aCons (eV 2) aNil)))) [some (.int (n:Int)),some (mat ((sts k).map numL)),some (.int (k:Nat))]=okR (mat ((sts (k+1)).map numL)):=by
  have hc:eComp (iSq (eV 1)) 1 (.one 3) Mi.tYes (eB addD (eV 3) (eLst (aCons (eV 2) aNil))) [some (.int (n:Int)),some (mat ((sts k).map numL)),some (.int (k:Nat))]=okR (mat (((sts k).map fun S=>S++[k]).map numL)):=by
   refine qE6 (zBN (i:=3) (fun S=>rowD (numL S)) (fun S=>rowD (numL (S++[k]))) (sts k) rfl rfl (fun S hS=>?_) _ ?_ (by lia)) ?_
   ·have:=(zLD hS).1
    refine b2 rfl (el1 rfl) ((addR (numL S) [(k:Int)] (by simp[numL];lia)).trans ?_);unfold numL;rw[qB1];rfl
   ·show okR (qFa rowD (qFa numL (sts k)))=_;rw[qAp];rfl
   ·unfold mat;rw[qAp,qAp];rfl
  refine b2 rfl hc ((addM _ _ (by simp;lia)).trans ?_);rw[sts,qB1]
 exact zND he (by cases l<;>exact he) ⟨_,_,fun _=>rfl,rfl⟩ (by cases l<;>exact⟨_,_,fun _=>rfl,rfl⟩)
theorem zRZ{γ:Type}{j:Nat}{b:SM}(en:γ->Dt)(ok:γ->Bool)(Pv:Ro->Prop):∀(ns:List γ)(r:Ro),Pv r->(∀x∈ns,∀r,Pv r->(ok x=true/\∃r',b (r.set j (some (en x,0)))=okR (.nx r')/\Pv r')\/(ok x=false/\b (r.set j (some (en x,0)))=okR (.rt (.bl false)))) ->
  (ns.all ok=true/\∃r',forGo (.one j) b (ns.map en) r=okR (.nx r')/\Pv r')\/(ns.all ok=false/\forGo (.one j) b (ns.map en) r=okR (.rt (.bl false)))
 |[],r,h,_=>.inl ⟨rfl,r,rfl,h⟩
 |x::ns,r,h,hs=>by
  have e:forGo (.one j) b ((x::ns).map en) r=zA2 (b (r.set j (some (en x,0)))) fun o=>match o with | .nx r'=>forGo (.one j) b (ns.map en) r' | .ct r'=>forGo (.one j) b (ns.map en) r' | .bk r'=>okR (.nx r') | .rt d=>okR (.rt d):=rfl
  rw[e,qC6]
  rcases hs x qAv r h with⟨h1,r',h2,h3⟩|⟨h1,h2⟩
  ·rw[h1,h2,bindR_ok,Bool.true_and];exact zRZ en ok Pv ns r' h3 fun y hy=>hs y (qAm _ hy)
  ·rw[h1,h2,bindR_ok];exact .inr ⟨rfl,rfl⟩
noncomputable def ev1(f:Nat->Nat->Int)(S:List Nat)(i:Nat):Int:=((S.filter fun j:Nat=>!decide ((j:Int)=(i:Int))).map fun j=>f i j).sum
def evB(f:Nat->Nat->Int)(S:List Nat):Bool:=S.all fun i=>!decide (ev1 f S i%2=1)
theorem sum7(r:List Int)(h:r.length<=1000)(hb:∀x∈r,Bit x):sumD [rowD r]=some (.int r.sum):=by
 show(match intsD (r.map Dt.int)with|some ns=>_|none=>none)=_
 rw[zEG];dsimp only;rw[if_pos ⟨by lia,fun n hn=>by rcases hb n hn with z|z<;>lia⟩]
theorem zYN{n:Nat}{f:Nat->Nat->Int}(hf:St7 f){S:List Nat}(hS:S.length<=6)(hl:∀k∈S,k<n):zCN [mat (tab n f),rowD (numL S)]=okR (.bl (evB f S)):=by
 have body:∀x∈S,∀r:Ro,(∃o,r=[some (mat (tab n f),0),some (rowD (numL S),0),o])->((!decide (ev1 f S x%2=1))=true/\∃r',(sIf (tB (eB eqD (eB modD (eBi sumD (aCons (eComp (iSq (eV 1)) 1 (.one 3) (tB (eB neD (eV 3) (eV 2))) (eB ixD (eB ixD (eV 0) (eV 2)) (eV 3))) aNil)) (eC (.int 2))) (eC (.int 1)))) (sRet 0 0 [] (eC (.bl false))) sNil) (r.set 2 (some (Dt.int (x:Int),0)))=okR (.nx r')/\∃o,r'=[some (mat (tab n f),0),some (rowD (numL S),0),o])\/((!decide (ev1 f S x%2=1))=false/\(sIf (tB (eB eqD (eB modD (eBi sumD (aCons (eComp (iSq (eV 1)) 1 (.one 3) (tB (eB neD (eV 3) (eV 2))) (eB ixD (eB ixD (eV 0) (eV 2)) (eV 3))) aNil)) (eC (.int 2))) (eC (.int 1)))) (sRet 0 0 [] (eC (.bl false))) sNil) (r.set 2 (some (Dt.int (x:Int),0)))=okR (.rt (.bl false))):=fun x hx r hr=>by
  obtain⟨o,rfl⟩:=hr;have hc:eComp (iSq (eV 1)) 1 (.one 3) (tB (eB neD (eV 3) (eV 2))) (eB ixD (eB ixD (eV 0) (eV 2)) (eV 3)) [some (mat (tab n f)),some (rowD (numL S)),some (.int (x:Int))]=okR (rowD ((S.filter fun j:Nat=>!decide ((j:Int)=(x:Int))).map fun j=>f x j)):=by
   refine qE6 (zBY (i:=3) (fun k:Nat=>Dt.int (k:Int)) (fun j=>Dt.int (f x j)) (fun j:Nat=>!decide ((j:Int)=(x:Int))) S rfl (fun j _=>nei rfl rfl rfl) (fun j hj _=>b2 (b2 rfl rfl (ixM (hl x hx))) rfl (ixR (hl j hj))) _ ?_ (by lia)) ?_
   ·show okR ((numL S).map Dt.int)=_;unfold numL;rw[qAp];rfl
   ·unfold rowD;rw[qAp];rfl
  have ht:tB (eB eqD (eB modD (eBi sumD (aCons (eComp (iSq (eV 1)) 1 (.one 3) (tB (eB neD (eV 3) (eV 2))) (eB ixD (eB ixD (eV 0) (eV 2)) (eV 3))) aNil)) (eC (.int 2))) (eC (.int 1))) [some (mat (tab n f)),some (rowD (numL S)),some (.int (x:Int))]=okR (decide (ev1 f S x%2=1)):=
   eqi (b2 (bi1 hc (sum7 _ (by rw[qAh];exact qAj (qE4 _ _) (by lia)) fun y hy=>by
    obtain⟨j,_,rfl⟩:=qAf.mp hy;exact hf.1 x j)) rfl (mdi (by decide) rfl)) rfl rfl
  by_cases h:ev1 f S x%2=1
  ·rw[decide_eq_true h]at ht ⊢;exact .inr ⟨rfl,sq ht⟩
  ·rw[decide_eq_false h]at ht ⊢;exact .inl ⟨rfl,_,sf ht,_,rfl⟩
 have run:=zRZ (j:=2) (fun k:Nat=>Dt.int (k:Int)) (fun i=>!decide (ev1 f S i%2=1)) (fun r=>∃o,r=[some (mat (tab n f),0),some (rowD (numL S),0),o]) S [some (mat (tab n f),0),some (rowD (numL S),0),none] ⟨none,rfl⟩ body;have ho:(S.map fun k:Nat=>Dt.int (k:Int))=(numL S).map Dt.int:=by unfold numL;rw[qAp];rfl
 rw[ho]at run;unfold evB
 rcases run with⟨h1,r',h2,o,rfl⟩|⟨h1,h2⟩
 ·rw[h1];exact zBJ rfl (sw h2 rfl)
 ·rw[h1];refine zBJ rfl ?_;show sSeq _ _ _=_;rw[zFA]
  have:sFor [1] (iSq (eV 1)) (.one 2) (sIf (tB (eB eqD (eB modD (eBi sumD (aCons (eComp (iSq (eV 1)) 1 (.one 3) (tB (eB neD (eV 3) (eV 2))) (eB ixD (eB ixD (eV 0) (eV 2)) (eV 3))) aNil)) (eC (.int 2))) (eC (.int 1)))) (sRet 0 0 [] (eC (.bl false))) sNil) [some (mat (tab n f),0),some (rowD (numL S),0),none]=okR (.rt (.bl false)):=h2
  show zA2 (sFor _ _ _ _ [some (mat (tab n f),0),some (rowD (numL S),0),none]) _=_;rw[this];rfl
noncomputable def idx7(n:Nat)(x:List Int):List Nat:=(qA8 n).filter fun k=>decide (x.getD k 0=1)
theorem zLW{n:Nat}{x:List Int}{b:Int}(hx:x.length=n):idx7 (n+1) (x++[b])=idx7 n x++if b=1 then[n]else[]:=by
 unfold idx7;rw[qC2,qDa,qDg (q:=fun k=>decide (x.getD k 0=1)) fun k hk=>by rw[zAS hx (qAz.mp hk)]]
 congr 1
 rw[qBy,zAK hx]
 by_cases h:b=1<;>simp[h]
theorem zN9(F:List Nat->Int):∀n,((sts n).map F).sum=SB n fun x=>F (idx7 n x)
 |0=>rfl
 |n+1=>by
  rw[sts,zRK,qAp,zIQ,zN9 F n]
  have:=zN9 (fun S=>F (S++[n])) n
  congr 1
  ·exact zBH fun x hx=>by rw[zLW hx.1,if_neg (by decide),qCf]
  ·refine qE6 this (zBH fun x hx=>by rw[zLW hx.1,if_pos rfl])
theorem zOV{n:Nat}{f:Nat->Nat->Int}{x:List Int}(hx:RowN n x)(i:Nat):ev1 f (idx7 n x) i=im0 n f x i:=by
 have h1:=zDU (fun j=>f0 f i j*x.getD j 0) (fun k=>decide (x.getD k 0=1)) (qA8 n) fun k _ e=>by
  show _*_=_
  rcases bitD hx k with z|z
  ·rw[z,qAr]
  ·rw[z]at e;cases e
 have h2:=zDU (fun j=>f0 f i j*x.getD j 0) (fun j:Nat=>!decide ((j:Int)=(i:Int))) (idx7 n x) fun k _ e=>by
  show _*_=_
  have:k=i:=by simp at e;lia
  unfold f0;rw[if_pos this.symm,qBg]
 have e1:im0 n f x i=((idx7 n x).map fun j=>f0 f i j*x.getD j 0).sum:=h1;rw[e1,h2];unfold ev1;refine congrArg List.sum (qAy fun j hj=>?_);obtain⟨g1,g2⟩:=qAq.mp hj;have g3:x.getD j 0=1:=of_decide_eq_true (qAq.mp g1).2;have g4:i≠j:=fun z=>by rw[z]at g2;simp at g2
 rw[g3,qCn];unfold f0;rw[if_neg g4]
theorem zOU{n:Nat}{f:Nat->Nat->Int}{x:List Int}(hx:RowN n x):evB f (idx7 n x)=true↔Ev7 n f x:=by
 unfold evB Ev7;rw[qCu];constructor
 ·intro h k hk hz
  have:=h k (qAq.mpr ⟨qAz.mpr hk,decide_eq_true hz⟩)
  rw[zOV hx]at this
  have:¬im0 n f x k%2=1:=by simpa using this
  lia
 ·intro h k hk;obtain⟨g1,g2⟩:=qAq.mp hk
  have:=h k (qAz.mp g1) (of_decide_eq_true g2)
  rw[zOV hx,decide_eq_false (by lia)];rfl
theorem zOD{α:Type}(p:α->Bool):∀l:List α,(((l.filter p).length:Nat):Int)=(l.map fun a=>if p a=true then(1:Int)else 0).sum
 |[]=>rfl
 |a::l=>by
  rw[qAg,qB8,<- zOD p l]
  by_cases h:p a=true
  ·rw[qBv h,if_pos h,qAt];lia
  ·rw[qBw h,if_neg h];lia
theorem zWT(n:Nat)(f:Nat->Nat->Int):(((sts n).filter (evB f)).length:Int)=((cnt n (Ev7 n f):Nat):Int):=by
 rw[zOD,zN9,zGM];refine zBH fun x hx=>?_
 by_cases h:Ev7 n f x
 ·rw[if_pos h,if_pos ((zOU hx).mpr h)]
 ·rw[if_neg h,if_neg fun z=>h ((zOU hx).mp z)]
theorem zMU{ws:List Int}{n:Nat}(hw:ws.length<=3)(hn:n<=6):(chW ws n).length<=729:=by
 rw[zF6];have h1:ws.length ^ n<=3 ^ n:=qEh hw n;have h2:3 ^ n<=3 ^ 6:=qC9 (by decide) hn
 lia
theorem zNG{ws:List Int}{n:Nat}{f:Nat->Nat->Int}(hw0:0<ws.length)(hn:n<=6)(hb:Bits n f):rv ws n f≠[]/\∀x∈rv ws n f,x<=10:=by
 refine⟨fun z=>zXD hw0 (qEf.mp z),fun x hx=>?_⟩;obtain⟨c,hc,rfl⟩:=qAf.mp hx;have hk:=zI2 n c
 have:=(zHI (by lia) (zM1 (c:=c) hb)).1
 lia
theorem zIF{ws:List Int}{n:Nat}{f:Nat->Nat->Int}(hw0:0<ws.length)(hw:ws.length<=3)(hn:n<=6)(hb:Bits n f):zB9 [mat (tab n f),.scr ws]=okR (rowD (cv (rv ws n f))):=by
 obtain⟨r1,r2⟩:=zNG hw0 hn hb;have hmx:=zQN r1;have hM:=zQL r2;have ha:=zPJ ws n hn hw;have hcl:=zMU hw hn;have hd:=zC8 (chW ws n);have hc:∀o1 o3:Option Dt,eComp (iSq (eV 2)) 1 (.one 4) Mi.tYes (eCallN zD6 (aCons (eCallN zBT (aCons (eV 0) (aCons (eV 4) aNil))) aNil)) [some (mat (tab n f)),o1,some (mat (chW ws n)),o3]=okR (rowD (numL (rv ws n f))):=by
  intro o1 o3;refine qE6 (zBN (i:=4) rowD (fun c=>Dt.int ((rst (kept n c).length (cpF n c f):Nat):Int)) (chW ws n) rfl rfl (fun c hc=>?_) _ rfl (by lia)) ?_
  ·have hk:=zI2 n c;have e1:=zKT (f:=f) (by lia) (zD1 hc).1;have e2:=(zHI (by lia) (zM1 (c:=c) hb)).2.1;simp[e1,e2]
  ·rw[numD];unfold rv;rw[qAp];rfl
 have hc2:∀o0 o1 o2:Option Dt,eComp (iR1 (aCons (eB addD (eBi maxL (aCons (eV 3) aNil)) (eC (.int 1))) aNil)) 1 (.one 4) Mi.tYes (eMl lcoD (eV 3) (aCons (eV 4) aNil)) [o0,o1,o2,some (rowD (numL (rv ws n f)))]=okR (rowD (cv (rv ws n f))):=by
  intro o0 o1 o2;refine zM3 _ rfl (by lia) (zE3 (al0 (b2 (bi1 rfl hmx) rfl (adi rfl))) (by lia)) fun k hk=>?_
  have:=zQR (rv ws n f) k
  simp[eMl,rowD,this]
 refine zBJ rfl (sg (c2 (bi1 rfl (by rw[lenM,zEZ])) rfl ha) (qAj hd (by decide)) (sg (hc _ _) (by simp) (rt1 (hc2 _ _ _) (hc2 _ _ _))))
theorem zUP(ns:List Int)(x:Int)(hx:-100<x/\x<100):zBL [rowD ns,.int x]=okR (.int (wo7 x ns)):=by
 have fold:∀ns:List Int,ns.reverse.foldl (fun w c=>w*x+c) 0=wo7 x ns:=fun ns=>by
  induction ns with
  |nil=>rfl
  |cons n r ih=>
   rw[List.reverse_cons,List.foldl_append,ih];show wo7 x r*x+n=n+x*wo7 x r;rw[qBt,qGp]
 unfold zBL zH7 rowD;simp[zMV];rw[<- List.map_reverse];have hm:∀w,mulD (.int w) (.int x)=some (.int (w*x)):=fun w=>zJB (by lia) (by lia)
 refine zPD Dt.int ns.reverse (fun(w:Int) r=>∃o l,l<=1/\r=[some (.lst (ns.map .int),0),some (.int x,0),some (.int w,l),o]) (fun w c=>w*x+c) 0 ⟨none,0,by lia,rfl⟩ (fun n _ w r hr=>?_) fun r hr=>?_
 ·obtain⟨o,l,_,rfl⟩:=hr;simp[hm,-zSN];exact⟨_,_,by lia,rfl,rfl⟩
 ·obtain⟨o,l,hl,rfl⟩:=hr;rw[fold];simp[show l<1000 by lia]
theorem zIU(i j:Int)(h:i=j):zAT [.int i,.int j]=okR (.bl true):=by
 subst h;unfold zAT zDR;simp[isiD,tyD]
noncomputable def on7(f:Nat->Nat->Int)(k:Nat):Nat->Nat->Int:=fun p q=>if p=q/\p<k then 1 else f p q
theorem zQH{f:Nat->Nat->Int}(hf:St7 f)(n k:Nat):Bits n (on7 f k):=fun p q _ _=>by
 unfold on7
 split
 ·exact .inr rfl
 ·exact hf.1 p q
theorem zTB{n:Nat}{f:Nat->Nat->Int}:rst n (on7 f n)=rt7 n f (qA2 n 1):=by
 unfold rst rt7
 congr 1
 refine zB2 fun x hx=>?_
 rw[KC7];have e:∀a,a<n->sumN n (fun k=>on7 f n a k*x.getD k 0)=Bx7 n f (qA2 n 1) x a:=fun a ha=>zAL fun k hk=>by
  unfold on7 Gc7
  by_cases z:a=k
  ·rw[if_pos ⟨z,ha⟩,if_pos z,zBR ha,if_pos rfl]
  ·rw[if_neg fun y=>z y.1,if_neg z]
 constructor
 ·intro h a ha;rw[zBR ha,<- e a ha];exact⟨fun z=>absurd z (by decide),fun _=>h a ha⟩
 ·intro h a ha
  have:=(h a ha).2 (by rw[zBR ha];decide)
  rw[<- e a ha]at this;exact this
theorem zSC{cl:List Int}{k:Nat}(h:k<cl.length):ixD (rowD cl) (.int (k:Int))=some (.int (cl.getD k 0)):=zI3 cl k h
theorem zO4{rs:List Nat}:(rs.map fun r=>(1:Int) ^ r).sum=(rs.length:Nat):=by
 induction rs with
 |nil=>rfl
 |cons a r ih=>rw[qAg,qB8,ih,Int.one_pow,qAt];lia
theorem zQS(ns:List Int)(hl:ns.length<=63)(hw:∀i∈ns,i.natAbs.log2<2 ^ 20):zJE [.scr ns]=okR (.bl true):=by
 obtain⟨cl,ec,c24,c63,cn⟩:=zXE ns hl;obtain⟨n,hn⟩:∃n:Nat,1+cl.getD 0 0/2%6=(n:Int):=⟨(1+cl.getD 0 0/2%6).toNat,by lia⟩
 have n1:1<=n:=by lia
 have n6:n<=6:=by lia
 obtain⟨f1,w1,e1⟩:=zUC (cl.drop 1) n (by lia) (by simp;lia);have s1:slD (rowD cl) (some 1) none=some (rowD (cl.drop 1)):=by
  show some (Dt.lst (cutA (cl.map Dt.int) (some ((1:Nat):Int)) none))=_;rw[zR5,<- List.map_drop];rfl
 obtain⟨f,w,hif⟩:∃f:Nat->Nat->Int,St7 f/\sIf (tAn (tB (eB (cmpD fun i j=>decide (j<i)) (eBi lenD (aCons (eV 0) aNil)) (eC (.int 0)))) (tB (eB eqD (eB modD (eB ixD (eV 0) (eC (.int 0))) (eC (.int 2))) (eC (.int 1))))) (sSet 3 2 [2,1] (eCall zBG (aCons (eB ixD (eV 1) (eC (.int 1))) (aCons (eV 2) (aCons (eC (.bl true)) aNil))))) sNil [some (.scr ns,0),some (rowD cl,1),some (.int (n:Int),1),some (mat (tab n f1),2),none,none,none,none,none,none]=okR (.nx [some (.scr ns,0),some (rowD cl,1),some (.int (n:Int),1),some (mat (tab n f),2),none,none,none,none,none,none]):=by
  by_cases h:0<ns.length
  ·have t:∀k:Bool,decide (ns.getD 0 0%2=1)=k->tAn (tB (eB (cmpD fun i j=>decide (j<i)) (eBi lenD (aCons (eV 0) aNil)) (eC (.int 0)))) (tB (eB eqD (eB modD (eB ixD (eV 0) (eC (.int 0))) (eC (.int 2))) (eC (.int 1)))) (full [some (.scr ns,0),some (rowD cl,1),some (.int (n:Int),1),some (mat (tab n f1),2),none,none,none,none,none,none])=okR k:=fun k hk=>ta1 (tb1 (b2 (cmpl rfl) rfl (cmi (decide_eq_true (by lia))))) (eqi (b2 (b2 rfl rfl (ixS (k:=0) h)) rfl (mdi (by decide) rfl)) rfl hk)
   by_cases hp:ns.getD 0 0%2=1
   ·obtain⟨f2,w2,e2⟩:=zU6 (cl.getD 1 0) n (by lia);exact⟨f2,w2,sk (t true (decide_eq_true hp)) (ss (c3 (b2 rfl rfl (zSC (k:=1) (by lia))) rfl rfl e2) (zC8 _))⟩
   ·exact⟨f1,w1,sf (t false (decide_eq_false hp))⟩
  ·exact⟨f1,w1,sf (ta0 (tb1 (b2 (cmpl rfl) rfl (cmi (decide_eq_false (by lia))))))⟩
 have hs:Sym n f:=fun i j _ _=>w.2 i j
 have hb:Bits n f:=fun i j _ _=>w.1 i j
 have p64:(2:Int) ^ n<=64/\0<=(2:Int) ^ n:=by
  have:n=1\/n=2\/n=3\/n=4\/n=5\/n=6:=by lia
  rcases this with rfl|rfl|rfl|rfl|rfl|rfl<;>decide
 have hsets:(sts n).length<=64:=by
  rw[zKB]
  have:2 ^ n<=2 ^ 6:=qC9 (by decide) n6
  lia
 have hev:∀o1 o0:Option Dt,eBi lenD (aCons (eComp (iSq (eCall zCM (aCons (eV 2) aNil))) 1 (.one 10) (tM (eCall zCN (aCons (eV 3) (aCons (eV 10) aNil)))) (eV 10)) aNil) [o0,o1,some (.int (n:Int)),some (mat (tab n f)),none,none,none,none,none,none]=okR (.int ((cnt n (Ev7 n f):Nat):Int)):=fun o1 o0=>by
  have hc:eComp (iSq (eCall zCM (aCons (eV 2) aNil))) 1 (.one 10) (tM (eCall zCN (aCons (eV 3) (aCons (eV 10) aNil)))) (eV 10) [o0,o1,some (.int (n:Int)),some (mat (tab n f)),none,none,none,none,none,none]=okR (mat (((sts n).filter (evB f)).map numL)):=by
   refine qE6 (zBY (i:=10) (fun S=>rowD (numL S)) (fun S=>rowD (numL S)) (evB f) (sts n) rfl (fun S hS=>?_) (fun S _ _=>rfl) _ ?_ (by lia)) ?_
   ·have:=zLD hS
    exact tm1 (c2 rfl rfl (zYN w (by lia) this.2))
   ·rw[zXP,c1 rfl (zY0 n n1 n6),bindR_ok];show okR (qFa rowD (qFa numL (sts n)))=_;rw[qAp];rfl
   ·unfold mat;rw[qAp];rfl
  refine bi1 hc ?_;rw[lenM,qAh,zWT]
 have hones:∀o4:Option Sl,nxR (sForR (iR1 (aCons (eV 2) aNil)) 6 (sItem2 5 0 (eV 6) (eV 6) (eC (.int 1))) [some (.scr ns,0),some (rowD cl,1),some (.int (n:Int),1),some (mat (tab n f),2),o4,some (mat (tab n f),2),none,none,none,none]) (fun r=>∃o6,r=[some (.scr ns,0),some (rowD cl,1),some (.int (n:Int),1),some (mat (tab n f),2),o4,some (mat (tab n (on7 f n)),2),o6,none,none,none]):=fun o4=>by
  rw[zCF,zE3 (n:=n) (al0 rfl) (by lia),bindR_ok];refine zG7 (fun k r=>∃o6,r=[some (.scr ns,0),some (rowD cl,1),some (.int (n:Int),1),some (mat (tab n f),2),o4,some (mat (tab n (on7 f k)),2),o6,none,none,none]) ⟨none,?_⟩ (fun k hk r hr=>?_) fun r h=>h
  ·have:on7 f 0=f:=funext fun p=>funext fun q=>if_neg fun z=>absurd z.2 (Nat.not_lt_zero p)
   rw[this]
  ·obtain⟨o6,rfl⟩:=hr;refine zEN (l:=0) (f:=on7 f k) k k (v:=1) rfl rfl rfl rfl hk hk fun g hg=>⟨some (.int (k:Nat),0),?_⟩
   have:g=on7 f (k+1):=by
    rw[hg]
    funext p q
    unfold on7
    by_cases z:p=k/\q=k
    ·rw[if_pos z,if_pos ⟨z.1.trans z.2.symm,by lia⟩]
    ·rw[if_neg z]
     by_cases y:p=q/\p<k
     ·rw[if_pos y,if_pos ⟨y.1,by lia⟩]
     ·rw[if_neg y,if_neg fun x=>z ⟨by lia,by lia⟩]
   rw[this];rfl
 obtain⟨r6,g6,o6,rfl⟩:=zBI (hones (some (.int ((cnt n (Ev7 n f):Nat):Int),0)));have t3:zCY [mat (tab n f)]=okR (rowD (cv (rv [0,1,2] n f))):=zBJ rfl (rt1 (c2 rfl rfl (zIF (ws:=[0,1,2]) (by decide) (by decide) n6 hb)) (c2 rfl rfl (zIF (ws:=[0,1,2]) (by decide) (by decide) n6 hb)));have t2:zC6 [mat (tab n f)]=okR (rowD (cv (rv [0,2] n f))):=zBJ rfl (rt1 (c2 rfl rfl (zIF (ws:=[0,2]) (by decide) (by decide) n6 hb)) (c2 rfl rfl (zIF (ws:=[0,2]) (by decide) (by decide) n6 hb)));have v31:wo7 1 (cv (rv [0,1,2] n f))=3 ^ n:=by
  rw[zIT,zO4,rv7,qAh,zF6,qCj];rfl
 have v21:wo7 1 (cv (rv [0,2] n f))=2 ^ n:=by
  rw[zIT,zO4,rv7,qAh,zF6,qCj];rfl
 have v3m:wo7 (-2) (cv (rv [0,1,2] n f))=0:=by
  rw[zIT,rv7,qAp];cases n with
  |zero=>cases n1
  |succ m=>exact tot7 hs hb (qDq m)
 have v32:wo7 2 (cv (rv [0,1,2] n f))=2 ^ n*((cnt n (Ev7 n f):Nat):Int):=by
  rw[zIT,rv7,qAp];exact two7 hs hb
 have v2m:wo7 (-2) (cv (rv [0,2] n f))=(-2) ^ rt7 n f (qA2 n 1)*(1-2*((n:Int)%2)):=by
  rw[zIT,rv7,qAp];refine(arr7 hs hb).trans ?_
  congr 1
  unfold sg7
  by_cases h:(n:Int)%2=0
  ·rw[if_pos h,h];rfl
  ·rw[if_neg h,show(n:Int)%2=1 by lia];rfl
 obtain⟨q1,_,q2⟩:=zHI (show n<=10 by lia) (zQH w n n);rw[zTB]at q1 q2
 generalize rt7 n f (qA2 n 1)=r at *
 generalize cv (rv [0,1,2] n f)=D3 at *
 generalize cv (rv [0,2] n f)=D2 at *
 generalize((cnt n (Ev7 n f):Nat):Int)=E at *
 have W:=fun x hx ns=>zUP ns x hx
 refine zBJ rfl (sg (c2 rfl rfl ec) (by rw[zCQ];exact qA6 1) (sg (b2 rfl (b2 (b2 (b2 rfl rfl (zSC (k:=0) (by lia))) rfl (dvi (by decide))) rfl (mdi (by decide) rfl)) (adi hn)) (qBk _) (sg (c3 (sl1 rfl rfl s1) rfl rfl e1) (zC8 _) (sw hif (sg (hev _ _) (qA6 0) (sg (zYQ rfl rfl (by lia)) (zC8 _) (sw g6 (sg (c1 rfl t3) (by rw[zCQ];exact qA6 1) (sg (c1 rfl t2) (by rw[zCQ];exact qA6 1) (sg (b2 (c2 rfl (c1 rfl q2) (zLN (-2) r (by decide) (by lia))) (b2 rfl (b2 rfl (b2 rfl rfl (mdi (by decide) rfl)) (zKH (by decide) (by decide))) (sbi rfl)) (zJB (by lia) (by lia))) (qA6 0) ?_))))))))));refine sp (to0 (tn1 (tm1 (c2 (c2 rfl rfl (W 1 (by decide) D3)) (c2 rfl rfl (zLN 3 n (by decide) (by lia))) (zIU _ _ v31)))) (tn1 (tm1 (c2 (c2 rfl rfl (W (-2) (by decide) D3)) rfl (zIU _ _ v3m))))) ?_;refine sp (tn1 (tm1 (c2 (c2 rfl rfl (W 2 (by decide) D3)) (b2 (c2 rfl rfl (zLN 2 n (by decide) (by lia))) rfl (zKH (by lia) (by lia))) (zIU _ _ v32)))) ?_;exact sr (an1 (c2 (c2 rfl rfl (W 1 (by decide) D2)) (c2 rfl rfl (zLN 2 n (by decide) (by lia))) (zIU _ _ v21)) (c2 (c2 rfl rfl (W (-2) (by decide) D2)) rfl (zIU _ _ v2m))) ⟨qA6 0,qA6 0⟩
end Mp
namespace FW
theorem zGA{l:List Nat}{k:Nat}(h:k<l.length):(l.eraseIdx k).length+1=l.length:=by
 rw[List.length_eraseIdx_of_lt h];lia
end FW
namespace L3
open PySem PySem.Spec
open L2 hiding Rep RepL
open Mi (Dt Xn R okR zA2 optR bindR_ok zA4 zAA zA8 zA9 Rh Sl Ro EM TM AM FM IM SM OM Tg Out zAR zAM zAV full frz frz1 frzAt)
section
variable[Kc]{mg:Str->Option Value}{E:XK}{n k:Nat}{te:TE}{e:EM}
end
end L3
set_option maxHeartbeats 4000000
namespace Q76
open PySem PyProof.Rows
open L2 hiding Rep RepL
open L3
open Mp
noncomputable def top(i:Nat):Stmt:=qDb.main.body.getD i (.Pass ⟨0,0,0,0⟩)
theorem S__law_any_web:FnScope ["_law_cells_here","_law_size","_law_slant","_law_web","_law_i","_law_j","_law_bit"] ["_law_cells_here","_law_size","_law_slant"] (zA7 (top 27)):=fsc
theorem S__law_mixed:FnScope ["_law_script","_law_least","_law_made","_law_k","_law_cell","_law_first"] ["_law_script","_law_least"] (zA7 (top 25)):=fsc
theorem S__law_cells:FnScope ["_law_script","_law_least","_law_made"] ["_law_script","_law_least"] (zA7 (top 26)):=fsc
theorem S__law_digit_web:FnScope ["_law_cell","_law_size","_law_slant","_law_web","_law_i","_law_j"] ["_law_cell","_law_size","_law_slant"] (zA7 (top 28)):=fsc
theorem S__law_even:FnScope ["_law_table","_law_some","_law_i"] ["_law_table","_law_some"] (zA7 (top 31)):=fsc
theorem S__law_power:FnScope ["_law_base","_law_many","_law_whole_here","_law_k"] ["_law_base","_law_many"] (zA7 (top 32)):=fsc
theorem S__law_rest:FnScope ["_law_rows","_law_rest_here","_law_at","_law_begun","_law_first","_law_k"] ["_law_rows"] (zA7 (top 29)):=fsc
theorem S__law_sets:FnScope ["_law_size","_law_found","_law_k"] ["_law_size"] (zA7 (top 30)):=fsc
theorem zK5:FnScope ["_law_found","_law_due"] ["_law_found","_law_due"] (zA7 (top 33)):=fsc
theorem S_lengthened:FnScope ["choices","ways","longer","choice"] ["choices","ways"] (zA7 (top 14)):=fsc
theorem S_choices_among:FnScope ["n","ways","choices","place"] ["n","ways"] (zA7 (top 13)):=fsc
theorem zFJ:FnScope ["choice"] ["choice"] (zA7 (top 17)):=fsc
theorem zPM:FnScope ["table","numbers"] ["table","numbers"] (zA7 (top 4)):=fsc
theorem S_chosen_part:FnScope ["table","choice","numbers","part","at","number"] ["table","choice"] (zA7 (top 16)):=fsc
theorem zUF:FnScope ["one","other"] ["one","other"] (zA7 (top 5)):=fsc
theorem S_less_leaders:FnScope ["row","leaders","left","leader"] ["row","leaders"] (zA7 (top 9)):=fsc
theorem S_greatest_part:FnScope ["table","part","leaders","number","row","left"] ["table"] (zA7 (top 8)):=fsc
theorem zPL:FnScope ["table"] ["table"] (zA7 (top 7)):=fsc
theorem S_counts_by_rests:FnScope ["table","ways","choices","rests"] ["table","ways"] (zA7 (top 23)):=fsc
theorem zFK:FnScope ["table"] ["table"] (zA7 (top 21)):=fsc
theorem zGU:FnScope ["table"] ["table"] (zA7 (top 20)):=fsc
theorem S_worth_at:FnScope ["counts","x","worth","count"] ["counts","x"] (zA7 (top 22)):=fsc
theorem S_law:FnScope ["_law_script","_law_cells_here","_law_size","_law_table","_law_even_here","_law_ones","_law_k","_law_counts","_law_arrowed","_law_due"] ["_law_script"] (zA7 (top 34)):=fsc
section
variable{P:qGz}{w:World}{K:qA1}{mg:Str->Option Value}{base:Heap}
structure Bd(K:qA1)(mg:Str->Option Value):Prop where
 d0:Def K mg "_law_any_web" (top 27)
 d1:Def K mg "_law_mixed" (top 25)
 d2:Def K mg "_law_cells" (top 26)
 d3:Def K mg "_law_digit_web" (top 28)
 d4:Def K mg "_law_even" (top 31)
 d5:Def K mg "_law_power" (top 32)
 d6:Def K mg "_law_rest" (top 29)
 d7:Def K mg "_law_sets" (top 30)
 d8:Def K mg "_law_whole" (top 33)
 d9:Def K mg "lengthened" (top 14)
 d10:Def K mg "choices_among" (top 13)
 d11:Def K mg "chosen_numbers" (top 17)
 d12:Def K mg "part_at" (top 4)
 d13:Def K mg "chosen_part" (top 16)
 d14:Def K mg "added" (top 5)
 d15:Def K mg "less_leaders" (top 9)
 d16:Def K mg "greatest_part" (top 8)
 d17:Def K mg "rest_of" (top 7)
 d18:Def K mg "counts_by_rests" (top 23)
 d19:Def K mg "arrowed_counts" (top 21)
 d20:Def K mg "table_counts" (top 20)
 d21:Def K mg "worth_at" (top 22)
 e0:mg "bool" = none
 e1:mg "enumerate" = none
 e2:mg "int" = none
 e3:mg "isinstance" = none
 e4:mg "len" = none
 e5:mg "list" = none
 e6:mg "max" = none
 e7:mg "min" = none
 e8:mg "range" = none
 e9:mg "reversed" = none
 e10:mg "sum" = none
 e11:mg "zip" = none
structure Bn(P:qGz)(w:World)(K:qA1)(mg:Str->Option Value)(base:Heap):Type where
 S:Bd K mg
 a_TooMany:Addr
 u_MOST_CHOSEN:Value
 u_ARROWED_WAYS:Addr
 u_ALL_WAYS:Addr
 c_MOST_CHOSEN:RelV (V.int 6) u_MOST_CHOSEN/\mg "MOST_CHOSEN" = some u_MOST_CHOSEN
 z_TooMany:XNo K mg "TooMany" a_TooMany
 c_ARROWED_WAYS:KTup K u_ARROWED_WAYS [0,2]/\mg "ARROWED_WAYS" = some (.ref u_ARROWED_WAYS)
 c_ALL_WAYS:KTup K u_ALL_WAYS [0,1,2]/\mg "ALL_WAYS" = some (.ref u_ALL_WAYS)
variable(B:Bn P w K mg base)
include B
theorem zG6:Has P w K mg base "_law_any_web" 1 ["_law_cells_here","_law_size","_law_slant"] (sp0 K mg 2 zCZ):=by
 letI:Kc:=⟨K⟩
 exact dfM B.S.d0 S__law_any_web (fun _ _ _ _ _ _=>uw3 fun _ _ _=>rfl) fun hr hu h=>⟨_,(zA5 (zCE (i:=3) S__law_any_web.nd rfl oi rfl (cn ["0","_law_size","2","3","4","5","6","_law_k"] 1 (by kernel_rfl)) (zAW rfl B.S.e8 (zA0 (pn 1) zA3)) (fun _ _ _ _=>(pgn 7)) (fun _ _ _ _=>zBW) (fun _ _ _ _=>(zAN zSP (zD5 (zA0 zAC zA3)) (pn 1))))
   (zA5 (zB6 qH3 rfl (zAW rfl B.S.e8 (zA0 (pn 1) zA3)) (zB1 (i:=4) S__law_any_web.nd rfl oi) (zAD (zB6 qH3 rfl (zAW rfl B.S.e8 (zA0 (zAN zDC (pn 4) zAC) zA3)) (zB1 (i:=5) S__law_any_web.nd rfl oi) (zA5 (pst 6 S__law_any_web.nd (zC2 (zC0 (K:=K)) (pn 0) (zAN zE4 (zAN zDC (zAN zCG (pn 4) (pn 1)) (pn 5)) (zAP (zCA (K:=K)) rfl B.S.e4 qHh (zA0 (pn 0) zA3))) (fun _ _=>rfl)))
   (zA5 (pst 6 S__law_any_web.nd (zAN zE4 (zAN zN1 (pn 6) (zAN zDC (zAN zDC zAC (zAN zCG zAC (pn 4))) (zAN zCG zAC (pn 5)))) zAC))
   (zAD (zF0 (pt_w (zQC (zDL (u_ne hu) (pn 4) (pn 5) (zC3 _)) (zLM (pt_m (pn 2))))) (zA5 (zG0 (pn 6) (zG2 (zC2 (zC0 (K:=K)) (pn 3) (pn 4) (fun _ _=>rfl)) (pn 5) zK7))
   (zAD (zG0 (pn 6) (zG2 (zC2 (zC0 (K:=K)) (pn 3) (pn 5) (fun _ _=>rfl)) (pn 4) zK7)))) zC5)))))))
   (zAD (zB0 (pn 3))))),(zB5 (zAG (zAO (n:=2) [1] (zB8 (n:=1) (zE5 (zA1 (de_v 1) zA6)) (zAZ 7) zD7 (zAE zNI (zDA (n:=0) (zA1 zAB zA6)) (de_v 1))))
   (zAG (zCP (zE5 (zA1 (de_v 1) zA6)) (zCP (zE5 (zA1 (zAX (zAE zBO (de_v 4) (dz zAB))) zA6)) (zAG (zAO (n:=0) [0,5,4,1] (zAE zD2 (de_v 0) (dz (zAE zC9 (zAE zBO (dz (zAE zCH (de_v 4) (de_v 1))) (de_v 5)) (dz (zCT zCB (zA1 (de_v 0) zA6)))))))
   (zAG (zAO (n:=0) [6,5,4] (zAE zC9 (dz (zAE zNK (de_v 6) (zAE zBO (zAE zBO (dz zAB) (dz (zAE zCH (dz zAB) (de_v 4)))) (dz (zAE zCH (dz zAB) (de_v 5)))))) (dz zAB)))
   (zF5 (zR1 (dt_b (dz (zAE zQ2 (de_v 4) (de_v 5)))) (dt_m (de_v 2))) (zAG (zDY 3 (n:=0) (de_v 4) (de_v 5) (de_v 6))
   (zDY 3 (n:=0) (de_v 5) (de_v 4) (de_v 6))) zDI)))))
   (zC7 3))) h)⟩
theorem zHU:Has P w K mg base "_law_mixed" 1 ["_law_script","_law_least"] (sp0 K mg 9 zBV):=by
 letI:Kc:=⟨K⟩
 exact dfM B.S.d1 S__law_mixed (fun _ _ _ _ _ _=>uw2 fun _ _=>rfl) fun hr hu h=>⟨_,(zA5 (pst 2 S__law_mixed.nd (zD5 zA3))
   (zA5 (zB6 qH3 rfl (zAW rfl B.S.e8 (zA0 (zAP (zJP rfl) rfl B.S.e6 boot_max (zA0 (pn 1) (zA0 (zAP (zPB rfl) rfl B.S.e7 boot_min (zA0 zAC (zA0 (zAP (zCA (K:=K)) rfl B.S.e4 qHh (zA0 (pn 0) zA3)) zA3))) zA3))) zA3)) (zB1 (i:=3) S__law_mixed.nd rfl oi) (zA5 (pst 4 S__law_mixed.nd (zAN zDC (zAN zCG zAC (pn 3)) zAC))
   (zA5 (zF0 (zDL u_gt (zAP (zCA (K:=K)) rfl B.S.e4 qHh (zA0 (pn 0) zA3)) zAC (zC3 _)) (zAD (pst 4 S__law_mixed.nd (zAN zE4 (zC2 (zC0 (K:=K)) (pn 0) (zAN zE4 (pn 3) (zAP (zCA (K:=K)) rfl B.S.e4 qHh (zA0 (pn 0) zA3))) (fun _ _=>rfl)) zAC))) zC5)
   (zA5 (pst 5 S__law_mixed.nd (zAN zE4 (zAN zCG (zAN zE4 (zAN zDC (zAN zCG (zAN zDC (pn 4) zAC) zAC) (zAN zCG (zAN zCG (pn 3) (pn 3)) zAC)) zAC) zAC) zAC))
   (zAD (zHO (zKF qB2 qCd qCe zKI (pn 2) (zA0 (zAN zDC (zAN zCG (pn 5) zAC) (zAN zE4 (zAN zDC (zAN zCG (pn 5) zAC) (pn 3)) zAC)) zA3))))))))
   (zAD (zB0 (pn 2))))),(zB5 (zAG (zAO (n:=9) [] (zDA (n:=8) zA6))
   (zAG (zCP (zE5 (zA1 (zCT zXH (zA1 (de_v 1) (zA1 (zCT zXG (zA1 zAB (zA1 (zCT zCB (zA1 (de_v 0) zA6)) zA6))) zA6))) zA6)) (zAG (zAO (n:=1) [3] (zAE zBO (dz (zAE zCH (dz zAB) (de_v 3))) (dz zAB)))
   (zAG (zF5 (dt_b (dz (zAE zNL (dz (zCT zCB (zA1 (de_v 0) zA6))) (dz zAB)))) (zAO (n:=0) [0,3] (zAE zC9 (zAE zD2 (de_v 0) (dz (zAE zC9 (de_v 3) (dz (zCT zCB (zA1 (de_v 0) zA6)))))) (dz zAB))) zDI)
   (zAG (zAO (n:=0) [4,3] (zAE zC9 (dz (zAE zCH (dz (zAE zC9 (zAE zBO (dz (zAE zCH (zAE zBO (de_v 4) (dz zAB)) (dz zAB))) (dz (zAE zCH (dz (zAE zCH (de_v 3) (de_v 3))) (dz zAB)))) (dz zAB))) (dz zAB))) (dz zAB)))
   (zS5 2 (n:=1) (zAE zBO (dz (zAE zCH (de_v 5) (dz zAB))) (dz (zAE zC9 (zAE zBO (dz (zAE zCH (de_v 5) (dz zAB))) (de_v 3)) (dz zAB)))))))))
   (zC7 2))) h)⟩
theorem zHV:Has P w K mg base "_law_cells" 2 ["_law_script","_law_least"] (sp0 K mg 1 zDN):=by
 letI:Kc:=⟨K⟩
 exact dfM B.S.d2 S__law_cells (fun _ _ _ _ _ _=>uw2 fun _ _=>rfl) fun hr hu h=>⟨_,(zA5 (zF0 (pt_w (zQC (zDL (u_eq hu) (zAP (zCA (K:=K)) rfl B.S.e4 qHh (zA0 (pn 0) zA3)) zAC (zC3 _)) (zLM (zDL (u_eq hu) (zAN zE4 (zC2 (zC0 (K:=K)) (pn 0) zAC (fun _ _=>rfl)) zAC) zAC (zC3 _))))) (zAD (zB0 (zBQ (zHU B) (by decide) hr rfl (zA0 (pn 0) (zA0 (pn 1) zA3))))) zC5)
   (zA5 (zCE (i:=2) S__law_cells.nd rfl oi rfl (cn ["0","1","2","_law_cell"] 1 (by kernel_rfl)) (zD4 (K:=K) (zLP (zXU (K:=K)) (pn 0) zNW (zNV zAC))) (fun _ _ _ _=>(pgn 3)) (fun _ _ _ _=>zBW) (fun _ _ _ _=>(zAN zE4 (pn 3) (zAN zXV zAC zAC))))
   (zAD (zB0 (zAN zDC (pn 2) (zAN zSP (zD5 (zA0 zAC zA3)) (zAN zSO (pn 1) (zAP (zCA (K:=K)) rfl B.S.e4 qHh (zA0 (pn 2) zA3))))))))),(zB5 (zAG (zF5 (zR1 (dt_b (dz (zAE zGP (dz (zCT zCB (zA1 (de_v 0) zA6))) (dz zAB)))) (dt_b (dz (zAE zGP (dz (zAE zC9 (zAE zD2 (de_v 0) (dz zAB)) (dz zAB))) (dz zAB))))) (zCO (n:=9) [0,1] (zAQ (zA1 (de_v 0) (zA1 (de_v 1) zA6)))) zDI)
   (zAG (zAO (n:=1) [0] (zB8 (n:=0) (zD8 (zX5 (de_v 0) zX1 (do_e (dz zAB)))) (zAZ 3) zD7 (zAE zC9 (de_v 3) (dz (zAE zV4 (dz zAB) (dz zAB))))))
   (zCO (n:=1) [2,1] (zAE zBO (de_v 2) (zAE zNI (zDA (n:=0) (zA1 zAB zA6)) (dz (zAE zNH (de_v 1) (dz (zCT zCB (zA1 (de_v 2) zA6)))))))))) h)⟩
theorem zF3:Has P w K mg base "_law_digit_web" 1 ["_law_cell","_law_size","_law_slant"] (sp0 K mg 2 zBG):=by
 letI:Kc:=⟨K⟩
 exact dfM B.S.d3 S__law_digit_web (fun _ _ _ _ _ _=>uw3 fun _ _ _=>rfl) fun hr hu h=>⟨_,(zA5 (zCE (i:=3) S__law_digit_web.nd rfl oi rfl (cn ["0","_law_size","2","3","4","5","_law_k"] 1 (by kernel_rfl)) (zAW rfl B.S.e8 (zA0 (pn 1) zA3)) (fun _ _ _ _=>(pgn 6)) (fun _ _ _ _=>zBW) (fun _ _ _ _=>(zAN zSP (zD5 (zA0 zAC zA3)) (pn 1))))
   (zA5 (zB6 qH3 rfl (zAW rfl B.S.e8 (zA0 (pn 1) zA3)) (zB1 (i:=4) S__law_digit_web.nd rfl oi) (zAD (zB6 qH3 rfl (zAW rfl B.S.e8 (zA0 (zAN zDC (pn 4) zAC) zA3)) (zB1 (i:=5) S__law_digit_web.nd rfl oi) (zAD (zF0 (pt_w (zQC (zDL (u_ne hu) (pn 4) (pn 5) (zC3 _)) (zLM (pt_m (pn 2))))) (zA5 (zG0 (zAN zE4 (pn 0) zAC) (zG2 (zC2 (zC0 (K:=K)) (pn 3) (pn 4) (fun _ _=>rfl)) (pn 5) zK7))
   (zA5 (zG0 (zAN zE4 (pn 0) zAC) (zG2 (zC2 (zC0 (K:=K)) (pn 3) (pn 5) (fun _ _=>rfl)) (pn 4) zK7))
   (zAD (pst 0 S__law_digit_web.nd (zAN zN1 (pn 0) zAC))))) zC5)))))
   (zAD (zB0 (pn 3))))),(zB5 (zAG (zAO (n:=2) [1] (zB8 (n:=1) (zE5 (zA1 (de_v 1) zA6)) (zAZ 6) zD7 (zAE zNI (zDA (n:=0) (zA1 zAB zA6)) (de_v 1))))
   (zAG (zCP (zE5 (zA1 (de_v 1) zA6)) (zCP (zE5 (zA1 (zAX (zAE zBO (de_v 4) (dz zAB))) zA6)) (zF5 (zR1 (dt_b (dz (zAE zQ2 (de_v 4) (de_v 5)))) (dt_m (de_v 2))) (zAG (zDY 3 (n:=0) (de_v 4) (de_v 5) (zAE zC9 (de_v 0) (dz zAB)))
   (zAG (zDY 3 (n:=0) (de_v 5) (de_v 4) (zAE zC9 (de_v 0) (dz zAB)))
   (zAO (n:=0) [0] (zAE zNK (de_v 0) (dz zAB))))) zDI)))
   (zC7 3))) h)⟩
theorem zJA:Has P w K mg base "_law_even" 1 ["_law_table","_law_some"] (sp0 K mg 0 zCN):=by
 letI:Kc:=⟨K⟩
 exact dfM B.S.d4 S__law_even (fun _ _ _ _ _ _=>uw2 fun _ _=>rfl) fun hr hu h=>⟨_,(zA5 (zB6 qH3 rfl (zD4 (K:=K) (pn 1)) (zB1 (i:=2) S__law_even.nd rfl oi) (zAD (zF0 (zDL (u_eq hu) (zAN zE4 (zAP (zYI rfl) rfl B.S.e10 boot_sum (zA0 (zCI rfl (cn ["_law_table","1","_law_i","_law_j"] 1 (by kernel_rfl)) (zD4 (K:=K) (pn 1)) (fun _ _ _ _=>(pgn 3)) (fun _ _ _ _=>zHN (zDL (u_ne hu) (pn 3) (pn 2) (zC3 _))) (fun _ _ _ _=>(zC2 (zC0 (K:=K)) (zC2 (zC0 (K:=K)) (pn 0) (pn 2) (fun _ _=>rfl)) (pn 3) (fun _ _=>rfl)))) zA3)) zAC) zAC (zC3 _)) (zAD (zB0 zME)) zC5)))
   (zAD (zB0 zME))),(zB5 (zAG (zH4 [1] (zD8 (de_v 1)) (zAZ 2) (zF5 (dt_b (dz (zAE zGP (dz (zAE zC9 (dz (zCT zXF (zA1 (zAX (zB8 (n:=0) (zD8 (de_v 1)) (zAZ 3) (dt_b (dz (zAE zQ2 (de_v 3) (de_v 2)))) (zAE zD2 (zAE zD2 (de_v 0) (de_v 2)) (de_v 3)))) zA6))) (dz zAB))) (dz zAB)))) (zCO (n:=0) [] zMQ) zDI))
   (zCO (n:=0) [] zMQ)) h)⟩
theorem zCC:Has P w K mg base "_law_power" 1 ["_law_base","_law_many"] (sp0 K mg 0 zBM):=by
 letI:Kc:=⟨K⟩
 exact dfM B.S.d5 S__law_power (fun _ _ _ _ _ _=>uw2 fun _ _=>rfl) fun hr hu h=>⟨_,(zA5 (pst 2 S__law_power.nd zAC)
   (zA5 (zB6 qH3 rfl (zAW rfl B.S.e8 (zA0 (pn 1) zA3)) (zB1 (i:=3) S__law_power.nd rfl oi) (zAD (pst 2 S__law_power.nd (zAN zCG (pn 2) (pn 0)))))
   (zAD (zB0 (pn 2))))),(zB5 (zAG (zAO (n:=0) [] zAB)
   (zAG (zCP (zE5 (zA1 (de_v 1) zA6)) (zAO (n:=0) [2,0] (zAE zCH (de_v 2) (de_v 0))))
   (zC7 2))) h)⟩
theorem zJ9:Has P w K mg base "_law_rest" 1 ["_law_rows"] (sp0 K mg 1 zDF):=by
 letI:Kc:=⟨K⟩
 exact dfM B.S.d6 S__law_rest (fun _ _ _ _ _ _=>uw1 fun _=>rfl) fun hr hu h=>⟨_,(zA5 (zCE (i:=0) S__law_rest.nd rfl oi rfl (cn ["0","1","2","3","4","5","_law_row"] 1 (by kernel_rfl)) (zD4 (K:=K) (pn 0)) (fun _ _ _ _=>(pgn 6)) (fun _ _ _ _=>zBW) (fun _ _ _ _=>(zJ7 (zOK (K:=K) rfl) rfl B.S.e5 boot_list (zA0 (pn 6) zA3))))
   (zA5 (pst 1 S__law_rest.nd zAC)
   (zA5 (zB6 qH3 rfl (zAW rfl B.S.e8 (zA0 (zAP (zCA (K:=K)) rfl B.S.e4 qHh (zA0 (pn 0) zA3)) zA3)) (zB1 (i:=2) S__law_rest.nd rfl oi) (zA5 (zCE (i:=3) S__law_rest.nd rfl oi rfl (cn ["0","1","_law_at","3","4","5","_law_k","_law_row"] 2 (by kernel_rfl)) (zHQ (K:=K) rfl B.S.e1 (zA0 (pn 0) zA3)) (fun _ _ _ _=>zHS (K:=K) rfl (zCW (pgn 6) (zCW (pgn 7) zHR))) (fun _ _ _ _=>zHN (zDL (u_eq hu) (zC2 (zC0 (K:=K)) (pn 7) (pn 2) (fun _ _=>rfl)) zAC (zC3 _))) (fun _ _ _ _=>(pn 6)))
   (zAD (zF0 (zDL (u_eq hu) (zAP (zCA (K:=K)) rfl B.S.e4 qHh (zA0 (pn 3) zA3)) zAC (zC3 _)) (zAD (pst 1 S__law_rest.nd (zAN zDC (pn 1) zAC))) (zA5 (pst 4 S__law_rest.nd (zKF qB2 PySem.F.slot_list_pop PySem.F.type_list_pop zTH (pn 0) (zA0 (zC2 (zC0 (K:=K)) (pn 3) zAC (fun _ _=>rfl)) zA3)))
   (zAD (zB6 qH3 rfl (zAW rfl B.S.e8 (zA0 (zAP (zCA (K:=K)) rfl B.S.e4 qHh (zA0 (pn 0) zA3)) zA3)) (zB1 (i:=5) S__law_rest.nd rfl oi) (zAD (zF0 (zDL (u_eq hu) (zC2 (zC0 (K:=K)) (zC2 (zC0 (K:=K)) (pn 0) (pn 5) (fun _ _=>rfl)) (pn 2) (fun _ _=>rfl)) zAC (zC3 _)) (zAD (zG0 (zCI rfl (cn ["0","1","2","3","4","5","_law_one","_law_other"] 2 (by kernel_rfl)) (zVM (K:=K) rfl B.S.e11 (zA0 (zC2 (zC0 (K:=K)) (pn 0) (pn 5) (fun _ _=>rfl)) (zA0 (pn 4) zA3))) (fun _ _ _ _=>zHS (K:=K) rfl (zCW (pgn 6) (zCW (pgn 7) zHR))) (fun _ _ _ _=>zBW) (fun _ _ _ _=>(zAN zE4 (zAN zDC (pn 6) (pn 7)) zAC))) (zG2 (pn 0) (pn 5) zK7))) zC5)))))))))
   (zAD (zB0 (pn 1)))))),(zB5 (zAG (zAO (n:=2) [0] (zB8 (n:=1) (zD8 (de_v 0)) (zAZ 6) zD7 (zCT zPA (zA1 (de_v 6) zA6))))
   (zAG (zAO (n:=0) [] zAB)
   (zAG (zCP (zE5 (zA1 (zCT zCB (zA1 (de_v 0) zA6)) zA6)) (zAG (zAO (n:=1) [5,0,2] (zB8 (n:=0) (zU7 (zA1 (de_v 0) zA6)) (zLB (zCU 6 (zCU 7 zH8)) rfl) (dt_b (dz (zAE zGP (zAE zD2 (de_v 7) (de_v 2)) (dz zAB)))) (de_v 6)))
   (zF5 (dt_b (dz (zAE zGP (dz (zCT zCB (zA1 (de_v 3) zA6))) (dz zAB)))) (zAO (n:=1) [1] (zAE zBO (de_v 1) (dz zAB))) (zAG (zWY 4 0 (zAE zD2 (de_v 3) (dz zAB)))
   (zCP (zE5 (zA1 (zCT zCB (zA1 (de_v 0) zA6)) zA6)) (zF5 (dt_b (dz (zAE zGP (zAE zD2 (zAE zD2 (de_v 0) (de_v 5)) (de_v 2)) (dz zAB)))) (zU4 0 (n:=1) (de_v 5) (zB8 (n:=0) (zX2 (zA1 (zAE zD2 (de_v 0) (de_v 5)) (zA1 (de_v 4) zA6))) (zLB (zCU 6 (zCU 7 zH8)) rfl) zD7 (zAE zC9 (zAE zBO (de_v 6) (de_v 7)) (dz zAB)))) zDI))))))
   (zC7 1)))) h)⟩
theorem zJ8:Has P w K mg base "_law_sets" 1 ["_law_size"] (sp0 K mg 1 zCM):=by
 letI:Kc:=⟨K⟩
 exact dfM B.S.d7 S__law_sets (fun _ _ _ _ _ _=>uw1 fun _=>rfl) fun hr hu h=>⟨_,(zA5 (pst 1 S__law_sets.nd (zD5 (zA0 (zD5 zA3) zA3)))
   (zA5 (zB6 qH3 rfl (zAW rfl B.S.e8 (zA0 (pn 0) zA3)) (zB1 (i:=2) S__law_sets.nd rfl oi) (zAD (pst 1 S__law_sets.nd (zAN zDC (pn 1) (zCI rfl (cn ["0","1","_law_k","_law_some"] 1 (by kernel_rfl)) (zD4 (K:=K) (pn 1)) (fun _ _ _ _=>(pgn 3)) (fun _ _ _ _=>zBW) (fun _ _ _ _=>(zAN zDC (pn 3) (zD5 (zA0 (pn 2) zA3)))))))))
   (zAD (zB0 (pn 1))))),(zB5 (zAG (zAO (n:=10) [] (zDA (n:=9) (zA1 (zDA (n:=8) zA6) zA6)))
   (zAG (zCP (zE5 (zA1 (de_v 0) zA6)) (zAO (n:=1) [1,2] (zAE zBO (de_v 1) (zB8 (n:=1) (zD8 (de_v 1)) (zAZ 3) zD7 (zAE zBO (de_v 3) (zDA (n:=0) (zA1 (de_v 2) zA6)))))))
   (zC7 1))) h)⟩
theorem zBS:Has P w K mg base "_law_whole" 1 ["_law_found","_law_due"] (sp0 K mg 0 zAT):=by
 letI:Kc:=⟨K⟩
 exact dfM B.S.d8 zK5 (fun _ _ _ _ _ _=>uw2 fun _ _=>rfl) fun hr hu h=>⟨_,(zAD (zB0 (zT6 (zAP zFC rfl B.S.e3 boot_isinstance (zA0 (pn 0) (zA0 (zO0 (v:=.ty "int") rfl B.S.e2 boot_int rfl) zA3))) (zT6 (zY8 (zAP zFC rfl B.S.e3 boot_isinstance (zA0 (pn 0) (zA0 (zO0 (v:=.ty "bool") rfl B.S.e0 boot_bool rfl) zA3)))) (zRQ (zT5 (u_eq hu) (pn 0) (pn 1) (zC3 _))))))),(zB5 (zCO (n:=0) [0,1] (zP5 (dz (zS7 (by decide) (de_v 0))) (zP5 (dz (zX7 (dz (zS7 (by decide) (de_v 0))))) (zAE zGP (de_v 0) (de_v 1))))) h)⟩
theorem zHT:Has P w K mg base "lengthened" 1 ["choices","ways"] (sp0 K mg 9 zC4):=by
 letI:Kc:=⟨K⟩
 exact dfM B.S.d9 S_lengthened (fun _ _ _ _ _ _=>uw2 fun _ _=>rfl) fun hr hu h=>⟨_,(zA5 (pst 2 S_lengthened.nd (zD5 zA3))
   (zA5 (zB6 qH3 rfl (zD4 (K:=K) (pn 0)) (zB1 (i:=3) S_lengthened.nd rfl oi) (zAD (zHO (zKF qB2 PySem.F.slot_list_extend PySem.F.type_list_extend zTK (pn 2) (zA0 (zCI rfl (cn ["0","1","2","choice","way"] 1 (by kernel_rfl)) (zD4 (K:=K) (pn 1)) (fun _ _ _ _=>(pgn 4)) (fun _ _ _ _=>zBW) (fun _ _ _ _=>(zAN zDC (pn 3) (zD5 (zA0 (pn 4) zA3))))) zA3)))))
   (zAD (zB0 (pn 2))))),(zB5 (zAG (zAO (n:=9) [] (zDA (n:=8) zA6))
   (zAG (zH4 [0] (zD8 (de_v 0)) (zAZ 3) (zWZ 2 (n:=1) (zB8 (n:=1) (zD8 (de_v 1)) (zAZ 4) zD7 (zAE zBO (de_v 3) (zDA (n:=0) (zA1 (de_v 4) zA6))))))
   (zC7 2))) h)⟩
theorem zFG:HasX P w K mg base "choices_among" 3 ["n","ways"] (spE K mg 9 zBU):=by
 letI:Kc:=⟨K⟩
 exact dfX B.S.d10 S_choices_among (fun _ _ _ _ _ _=>uw2 fun _ _=>rfl) fun hr hu h=>⟨_,(zA5 (zF0 (zDL u_gt (pn 0) (zKG rfl B.c_MOST_CHOSEN.2 B.c_MOST_CHOSEN.1) (zC3 _)) (zAD (zQD (zVR B.z_TooMany rfl (zA0 zVQ zA3)) zEP rfl)) zC5)
   (zA5 (pst 2 S_choices_among.nd (zD5 (zA0 (zD5 zA3) zA3)))
   (zA5 (zB6 zT7 rfl (zAW rfl B.S.e8 (zA0 (pn 0) zA3)) (zB1 (i:=3) S_choices_among.nd rfl oi) (zAD (pst 2 S_choices_among.nd (zBQ (zHT B) (by decide) hr rfl (zA0 (pn 2) (zA0 (pn 1) zA3))))))
   (zAD (zB0 (pn 2)))))),(zB5 (zAG (zF5 (dt_b (dz (zAE zNL (de_v 0) (dz zAB)))) (zOZ B.z_TooMany (zA1 zX4 zA6)) zDI)
   (zAG (zAO (n:=10) [] (zDA (n:=9) (zA1 (zDA (n:=8) zA6) zA6)))
   (zAG (zCP (zE5 (zA1 (de_v 0) zA6)) (zAO (n:=9) [2,1] (zIE (zA1 (de_v 2) (zA1 (de_v 1) zA6)))))
   (zC7 2)))) h)⟩
theorem zF1:Has P w K mg base "chosen_numbers" 1 ["choice"] (sp0 K mg 1 zBF):=by
 letI:Kc:=⟨K⟩
 exact dfM B.S.d11 zFJ (fun _ _ _ _ _ _=>uw1 fun _=>rfl) fun hr hu h=>⟨_,(zAD (zB0 (zCI rfl (cn ["choice","number"] 1 (by kernel_rfl)) (zAW rfl B.S.e8 (zA0 (zAP (zCA (K:=K)) rfl B.S.e4 qHh (zA0 (pn 0) zA3)) zA3)) (fun _ _ _ _=>(pgn 1)) (fun _ _ _ _=>zHN (zDL (u_ne hu) (zC2 (zC0 (K:=K)) (pn 0) (pn 1) (fun _ _=>rfl)) zAC (zC3 _))) (fun _ _ _ _=>(pn 1))))),(zB5 (zCO (n:=1) [0] (zB8 (n:=0) (zE5 (zA1 (zCT zCB (zA1 (de_v 0) zA6)) zA6)) (zAZ 1) (dt_b (dz (zAE zQ2 (zAE zD2 (de_v 0) (de_v 1)) (dz zAB)))) (de_v 1))) h)⟩
theorem zMH:Has P w K mg base "part_at" 1 ["table","numbers"] (sp0 K mg 2 zDG):=by
 letI:Kc:=⟨K⟩
 exact dfM B.S.d12 zPM (fun _ _ _ _ _ _=>uw2 fun _ _=>rfl) fun hr hu h=>⟨_,(zAD (zB0 (zCI rfl (cn ["table","numbers","i"] 1 (by kernel_rfl)) (zD4 (K:=K) (pn 1)) (fun _ _ _ _=>(pgn 2)) (fun _ _ _ _=>zBW) (fun _ _ _ _=>(zCI rfl (cn ["table","1","i","j"] 1 (by kernel_rfl)) (zD4 (K:=K) (pn 1)) (fun _ _ _ _=>(pgn 3)) (fun _ _ _ _=>zBW) (fun _ _ _ _=>(zC2 (zC0 (K:=K)) (zC2 (zC0 (K:=K)) (pn 0) (pn 2) (fun _ _=>rfl)) (pn 3) (fun _ _=>rfl)))))))),(zB5 (zCO (n:=2) [1,0] (zB8 (n:=1) (zD8 (de_v 1)) (zAZ 2) zD7 (zB8 (n:=0) (zD8 (de_v 1)) (zAZ 3) zD7 (zAE zD2 (zAE zD2 (de_v 0) (de_v 2)) (de_v 3))))) h)⟩
theorem zGQ:Has P w K mg base "chosen_part" 2 ["table","choice"] (sp0 K mg 2 zBT):=by
 letI:Kc:=⟨K⟩
 exact dfM B.S.d13 S_chosen_part (fun _ _ _ _ _ _=>uw2 fun _ _=>rfl) fun hr hu h=>⟨_,(zA5 (pst 2 S_chosen_part.nd (zBQ (zF1 B) (by decide) hr rfl (zA0 (pn 1) zA3)))
   (zA5 (pst 3 S_chosen_part.nd (zBQ (zMH B) (by decide) hr rfl (zA0 (pn 0) (zA0 (pn 2) zA3))))
   (zA5 (zB6 qH3 rfl (zHQ (K:=K) rfl B.S.e1 (zA0 (pn 2) zA3)) (zHS (K:=K) rfl (zCW (zB1 (i:=4) S_chosen_part.nd rfl oi) (zCW (zB1 (i:=5) S_chosen_part.nd rfl oi) zHR))) (zAD (zG0 (zQE (zDL (u_eq hu) (zC2 (zC0 (K:=K)) (pn 1) (pn 5) (fun _ _=>rfl)) zAC (zC3 _)) zAC zAC) (zG2 (zC2 (zC0 (K:=K)) (pn 3) (pn 4) (fun _ _=>rfl)) (pn 4) zK7))))
   (zAD (zB0 (pn 3)))))),(zB5 (zAG (zAO (n:=1) [1] (zAQ (zA1 (de_v 1) zA6)))
   (zAG (zAO (n:=2) [0,2] (zAQ (zA1 (de_v 0) (zA1 (de_v 2) zA6))))
   (zAG (zH4 [2] (zU7 (zA1 (de_v 2) zA6)) (zLB (zCU 4 (zCU 5 zH8)) rfl) (zDY 3 (n:=0) (de_v 4) (de_v 4) (zX9 (dt_b (dz (zAE zGP (zAE zD2 (de_v 1) (de_v 5)) (dz zAB)))) zAB zAB)))
   (zC7 3)))) h)⟩
theorem zQI:Has P w K mg base "added" 1 ["one","other"] (sp0 K mg 1 zHY):=by
 letI:Kc:=⟨K⟩
 exact dfM B.S.d14 zUF (fun _ _ _ _ _ _=>uw2 fun _ _=>rfl) fun hr hu h=>⟨_,(zAD (zB0 (zCI rfl (cn ["one","other","j"] 1 (by kernel_rfl)) (zAW rfl B.S.e8 (zA0 (zAP (zCA (K:=K)) rfl B.S.e4 qHh (zA0 (pn 0) zA3)) zA3)) (fun _ _ _ _=>(pgn 2)) (fun _ _ _ _=>zBW) (fun _ _ _ _=>(zAN zXT (zC2 (zC0 (K:=K)) (pn 0) (pn 2) (fun _ _=>rfl)) (zC2 (zC0 (K:=K)) (pn 1) (pn 2) (fun _ _=>rfl))))))),(zB5 (zCO (n:=1) [0,1] (zB8 (n:=0) (zE5 (zA1 (zCT zCB (zA1 (de_v 0) zA6)) zA6)) (zAZ 2) zD7 (zAE zV3 (zAE zD2 (de_v 0) (de_v 2)) (zAE zD2 (de_v 1) (de_v 2))))) h)⟩
theorem zG5:Has P w K mg base "less_leaders" 2 ["row","leaders"] (sp0 K mg 0 zBE):=by
 letI:Kc:=⟨K⟩
 exact dfM B.S.d15 S_less_leaders (fun _ _ _ _ _ _=>uw2 fun _ _=>rfl) fun hr hu h=>⟨_,(zA5 (pst 2 S_less_leaders.nd (pn 0))
   (zA5 (zB6 qH3 rfl (zD4 (K:=K) (pn 1)) (zB1 (i:=3) S_less_leaders.nd rfl oi) (zAD (zF0 (zDL (u_eq hu) (zC2 (zC0 (K:=K)) (pn 2) (zKF qB2 qDk PySem.F.type_list_index zTI (pn 3) (zA0 zAC zA3)) (fun _ _=>rfl)) zAC (zC3 _)) (zAD (pst 2 S_less_leaders.nd (zBQ (zQI B) (by decide) hr rfl (zA0 (pn 2) (zA0 (pn 3) zA3))))) zC5)))
   (zAD (zB0 (pn 2))))),(zB5 (zAG (zAO (n:=0) [0] (de_v 0))
   (zAG (zH4 [1] (zD8 (de_v 1)) (zAZ 3) (zF5 (dt_b (dz (zAE zGP (zAE zD2 (de_v 2) (dz (zX8 zQ3 (de_v 3) (zA1 zAB zA6)))) (dz zAB)))) (zAO (n:=1) [2,3] (zAQ (zA1 (de_v 2) (zA1 (de_v 3) zA6)))) zDI))
   (zC7 2))) h)⟩
theorem zFF:Has P w K mg base "greatest_part" 3 ["table"] (sp0 K mg 9 zCL):=by
 letI:Kc:=⟨K⟩
 exact dfM B.S.d16 S_greatest_part (fun _ _ _ _ _ _=>uw1 fun _=>rfl) fun hr hu h=>⟨_,(zA5 (pst 1 S_greatest_part.nd (zD5 zA3))
   (zA5 (pst 2 S_greatest_part.nd (zD5 zA3))
   (zA5 (zB6 qH3 rfl (zHQ (K:=K) rfl B.S.e1 (zA0 (pn 0) zA3)) (zHS (K:=K) rfl (zCW (zB1 (i:=3) S_greatest_part.nd rfl oi) (zCW (zB1 (i:=4) S_greatest_part.nd rfl oi) zHR))) (zA5 (pst 5 S_greatest_part.nd (zBQ (zG5 B) (by decide) hr rfl (zA0 (pn 4) (zA0 (pn 2) zA3))))
   (zAD (zF0 (zDL (u_in (K:=K)) zAC (pn 5) rfl) (zA5 (zHO (zKF qB2 qCd qCe zKI (pn 1) (zA0 (pn 3) zA3)))
   (zAD (zHO (zKF qB2 qCd qCe zKI (pn 2) (zA0 (pn 5) zA3))))) zC5))))
   (zAD (zB0 (pn 1)))))),(zB5 (zAG (zAO (n:=9) [] (zDA (n:=8) zA6))
   (zAG (zAO (n:=9) [] (zDA (n:=8) zA6))
   (zAG (zH4 [0] (zU7 (zA1 (de_v 0) zA6)) (zLB (zCU 3 (zCU 4 zH8)) rfl) (zAG (zOY 5 2 [4] (zAQ (zA1 (de_v 4) (zA1 (de_v 2) zA6))))
   (zF5 (dt_b (dz (zAE zY6 (dz zAB) (de_v 5)))) (zAG (zS5 1 (n:=0) (de_v 3))
   (zU5 2 [5] (de_v 5))) zDI)))
   (zC7 1)))) h)⟩
theorem zMG:Has P w K mg base "rest_of" 4 ["table"] (sp0 K mg 0 zD6):=by
 letI:Kc:=⟨K⟩
 exact dfM B.S.d17 zPL (fun _ _ _ _ _ _=>uw1 fun _=>rfl) fun hr hu h=>⟨_,(zAD (zB0 (zAN zSO (zAP (zCA (K:=K)) rfl B.S.e4 qHh (zA0 (pn 0) zA3)) (zAP (zCA (K:=K)) rfl B.S.e4 qHh (zA0 (zBQ (zFF B) (by decide) hr rfl (zA0 (pn 0) zA3)) zA3))))),(zB5 (zCO (n:=0) [0] (zAE zNH (dz (zCT zCB (zA1 (de_v 0) zA6))) (dz (zCT zCB (zA1 (zAX (zAQ (zA1 (de_v 0) zA6))) zA6))))) h)⟩
theorem zCX:HasX P w K mg base "counts_by_rests" 5 ["table","ways"] (spE K mg 1 zB9):=by
 letI:Kc:=⟨K⟩
 exact dfX B.S.d18 S_counts_by_rests (fun _ _ _ _ _ _=>uw2 fun _ _=>rfl) fun hr hu h=>⟨_,(zA5 (pst 2 S_counts_by_rests.nd (zJ6 (zFG B) (by decide) hr zEP rfl (zA0 (zAP (zCA (K:=K)) rfl B.S.e4 qHh (zA0 (pn 0) zA3)) (zA0 (pn 1) zA3))))
   (zA5 (pst 3 S_counts_by_rests.nd (zCI rfl (cn ["table","1","2","3","choice"] 1 (by kernel_rfl)) (zD4 (K:=K) (pn 2)) (fun _ _ _ _=>(pgn 4)) (fun _ _ _ _=>zBW) (fun _ _ _ _=>(zBQ (zMG B) (by decide) hr rfl (zA0 (zBQ (zGQ B) (by decide) hr rfl (zA0 (pn 0) (zA0 (pn 4) zA3))) zA3)))))
   (zAD (zB0 (zCI rfl (cn ["0","1","2","rests","k"] 1 (by kernel_rfl)) (zAW rfl B.S.e8 (zA0 (zAN zDC (zAP (zWE rfl) rfl B.S.e6 boot_max (zA0 (pn 3) zA3)) zAC) zA3)) (fun _ _ _ _=>(pgn 4)) (fun _ _ _ _=>zBW) (fun _ _ _ _=>(zKF qB2 qDl PySem.F.type_list_count zTJ (pn 3) (zA0 (pn 4) zA3)))))))),(zB5 (zAG (zAO (n:=9) [1,0] (zET (zA1 (zCT zCB (zA1 (de_v 0) zA6)) (zA1 (de_v 1) zA6))))
   (zAG (zAO (n:=1) [2,0] (zB8 (n:=0) (zD8 (de_v 2)) (zAZ 4) zD7 (zIE (zA1 (zAX (zIE (zA1 (de_v 0) (zA1 (de_v 4) zA6)))) zA6))))
   (zCO (n:=1) [3] (zB8 (n:=0) (zE5 (zA1 (zAX (zAE zBO (dz (zCT zUA (zA1 (de_v 3) zA6))) (dz zAB))) zA6)) (zAZ 4) zD7 (zX8 zQ4 (de_v 3) (zA1 (de_v 4) zA6)))))) h)⟩
theorem zF2:HasX P w K mg base "arrowed_counts" 6 ["table"] (spE K mg 1 zC6):=by
 letI:Kc:=⟨K⟩
 exact dfX B.S.d19 zFK (fun _ _ _ _ _ _=>uw1 fun _=>rfl) fun hr hu h=>⟨_,(zAD (zB0 (zJ6 (zCX B) (by decide) hr zEP rfl (zA0 (pn 0) (zA0 (zKG (v:=.ref B.u_ARROWED_WAYS) rfl B.c_ARROWED_WAYS.2 rfl) zA3))))),(zB5 (zCO (n:=1) [0] (zET (zA1 (de_v 0) (zA1 (zP4 B.c_ARROWED_WAYS.1) zA6)))) h)⟩
theorem zG4:HasX P w K mg base "table_counts" 6 ["table"] (spE K mg 1 zCY):=by
 letI:Kc:=⟨K⟩
 exact dfX B.S.d20 zGU (fun _ _ _ _ _ _=>uw1 fun _=>rfl) fun hr hu h=>⟨_,(zAD (zB0 (zJ6 (zCX B) (by decide) hr zEP rfl (zA0 (pn 0) (zA0 (zKG (v:=.ref B.u_ALL_WAYS) rfl B.c_ALL_WAYS.2 rfl) zA3))))),(zB5 (zCO (n:=1) [0] (zET (zA1 (de_v 0) (zA1 (zP4 B.c_ALL_WAYS.1) zA6)))) h)⟩
theorem zCK:Has P w K mg base "worth_at" 1 ["counts","x"] (sp0 K mg 1 zBL):=by
 letI:Kc:=⟨K⟩
 exact dfM B.S.d21 S_worth_at (fun _ _ _ _ _ _=>uw2 fun _ _=>rfl) fun hr hu h=>⟨_,(zA5 (pst 2 S_worth_at.nd zAC)
   (zA5 (zB6 qH3 rfl (zVN (K:=K) rfl B.S.e9 (zA0 (pn 0) zA3)) (zB1 (i:=3) S_worth_at.nd rfl oi) (zAD (pst 2 S_worth_at.nd (zAN zDC (zAN zCG (pn 2) (pn 1)) (pn 3)))))
   (zAD (zB0 (pn 2))))),(zB5 (zAG (zAO (n:=0) [] zAB)
   (zAG (zH4 [0] (zX3 (zA1 (de_v 0) zA6)) (zAZ 3) (zAO (n:=1) [3,2,1] (zAE zBO (dz (zAE zCH (de_v 2) (de_v 1))) (de_v 3))))
   (zC7 2))) h)⟩
theorem zW3{f:Addr}{fd:qHb}(F:Fun K "law" "law" (top 34) f fd):FnOk P w K mg base CX0 7 f fd ["_law_script"] (zGX K):=by
 letI:Kc:=⟨K⟩
 refine(F.ok S_law (sp:=sp0 K mg 0 zJE) (fun vs H Q E h=>zKC h) (fun cdv A outer s H vs Q E hr h=>?_)).imp (zQT zQS);have hu:=hr.units;exact⟨_,(zA5 (pst 1 S_law.nd (zBQ (zHV B) (by decide) hr rfl (zA0 (pn 0) (zA0 zAC zA3))))
   (zA5 (pst 2 S_law.nd (zAN zDC zAC (zAN zE4 (zAN zN1 (zC2 (zC0 (K:=K)) (pn 1) zAC (fun _ _=>rfl)) zAC) zAC)))
   (zA5 (pst 3 S_law.nd (zBQ (zG6 B) (by decide) hr rfl (zA0 (zLP (u_sl (K:=K)) (pn 1) (zNV zAC) zNW) (zA0 (pn 2) (zA0 zME zA3)))))
   (zA5 (zF0 (pt_w (zVK (zDL u_gt (zAP (zCA (K:=K)) rfl B.S.e4 qHh (zA0 (pn 0) zA3)) zAC (zC3 _)) (zT1 (zDL (u_eq hu) (zAN zE4 (zC2 (zC0 (K:=K)) (pn 0) zAC (fun _ _=>rfl)) zAC) zAC (zC3 _))))) (zAD (pst 3 S_law.nd (zBQ (zF3 B) (by decide) hr rfl (zA0 (zC2 (zC0 (K:=K)) (pn 1) zAC (fun _ _=>rfl)) (zA0 (pn 2) (zA0 zME zA3)))))) zC5)
   (zA5 (pst 4 S_law.nd (zAP (zCA (K:=K)) rfl B.S.e4 qHh (zA0 (zCI rfl (cn ["0","1","2","_law_table","4","5","6","7","8","9","_law_some"] 1 (by kernel_rfl)) (zD4 (K:=K) (zBQ (zJ8 B) (by decide) hr rfl (zA0 (pn 2) zA3))) (fun _ _ _ _=>(pgn 10)) (fun _ _ _ _=>zHN (pt_m (zBQ (zJA B) (by decide) hr rfl (zA0 (pn 3) (zA0 (pn 10) zA3))))) (fun _ _ _ _=>(pn 10))) zA3)))
   (zA5 (zCE (i:=5) S_law.nd rfl oi rfl (cn ["0","1","2","3","4","5","6","7","8","9","_law_row"] 1 (by kernel_rfl)) (zD4 (K:=K) (pn 3)) (fun _ _ _ _=>(pgn 10)) (fun _ _ _ _=>zBW) (fun _ _ _ _=>(zJ7 (zOK (K:=K) rfl) rfl B.S.e5 boot_list (zA0 (pn 10) zA3))))
   (zA5 (zB6 qH3 rfl (zAW rfl B.S.e8 (zA0 (pn 2) zA3)) (zB1 (i:=6) S_law.nd rfl oi) (zAD (zG0 zAC (zG2 (zC2 (zC0 (K:=K)) (pn 5) (pn 6) (fun _ _=>rfl)) (pn 6) zK7))))
   (zA5 (pst 7 S_law.nd (zJ6 (zG4 B) (by decide) hr zS0 rfl (zA0 (pn 3) zA3)))
   (zA5 (pst 8 S_law.nd (zJ6 (zF2 B) (by decide) hr zS0 rfl (zA0 (pn 3) zA3)))
   (zA5 (pst 9 S_law.nd (zAN zCG (zBQ (zCC B) (by decide) hr rfl (zA0 (zT4 zSQ zAC) (zA0 (zBQ (zJ9 B) (by decide) hr rfl (zA0 (pn 5) zA3)) zA3))) (zAN zSO zAC (zAN zCG zAC (zAN zE4 (pn 2) zAC)))))
   (zA5 (zF0 (pt_w (zQC (zNP (pt_m (zBQ (zBS B) (by decide) hr rfl (zA0 (zBQ (zCK B) (by decide) hr rfl (zA0 (pn 7) (zA0 zAC zA3))) (zA0 (zBQ (zCC B) (by decide) hr rfl (zA0 zAC (zA0 (pn 2) zA3))) zA3))))) (zLM (zNP (pt_m (zBQ (zBS B) (by decide) hr rfl (zA0 (zBQ (zCK B) (by decide) hr rfl (zA0 (pn 7) (zA0 (zT4 zSQ zAC) zA3))) (zA0 zAC zA3)))))))) (zAD (zB0 zME)) zC5)
   (zA5 (zF0 (zNP (pt_m (zBQ (zBS B) (by decide) hr rfl (zA0 (zBQ (zCK B) (by decide) hr rfl (zA0 (pn 7) (zA0 zAC zA3))) (zA0 (zAN zCG (zBQ (zCC B) (by decide) hr rfl (zA0 zAC (zA0 (pn 2) zA3))) (pn 4)) zA3))))) (zAD (zB0 zME)) zC5)
   (zAD (zB0 (zT6 (zBQ (zBS B) (by decide) hr rfl (zA0 (zBQ (zCK B) (by decide) hr rfl (zA0 (pn 8) (zA0 zAC zA3))) (zA0 (zBQ (zCC B) (by decide) hr rfl (zA0 zAC (zA0 (pn 2) zA3))) zA3))) (zRQ (zBQ (zBS B) (by decide) hr rfl (zA0 (zBQ (zCK B) (by decide) hr rfl (zA0 (pn 8) (zA0 (zT4 zSQ zAC) zA3))) (zA0 (pn 9) zA3))))))))))))))))))),(zB5 (zAG (zAO (n:=1) [0] (zAQ (zA1 (de_v 0) (zA1 zAB zA6))))
   (zAG (zAO (n:=1) [1] (zAE zBO (dz zAB) (dz (zAE zC9 (dz (zAE zNK (zAE zD2 (de_v 1) (dz zAB)) (dz zAB))) (dz zAB)))))
   (zAG (zAO (n:=2) [2,1] (zAQ (zA1 (zAX (zYP (de_v 1) (do_e (dz zAB)) zX1)) (zA1 (de_v 2) (zA1 zMQ zA6)))))
   (zAG (zF5 (zWX (dt_b (dz (zAE zNL (dz (zCT zCB (zA1 (de_v 0) zA6))) (dz zAB)))) (dt_b (dz (zAE zGP (dz (zAE zC9 (zAE zD2 (de_v 0) (dz zAB)) (dz zAB))) (dz zAB))))) (zAO (n:=2) [2,1] (zAQ (zA1 (zAE zD2 (de_v 1) (dz zAB)) (zA1 (de_v 2) (zA1 zMQ zA6))))) zDI)
   (zAG (zAO (n:=0) [2,3] (zCT zCB (zA1 (zAX (zB8 (n:=0) (zD8 (zAQ (zA1 (de_v 2) zA6))) (zAZ 10) (dt_m (zAQ (zA1 (de_v 3) (zA1 (de_v 10) zA6)))) (de_v 10))) zA6)))
   (zAG (zAO (n:=2) [3] (zB8 (n:=1) (zD8 (de_v 3)) (zAZ 10) zD7 (zCT zPA (zA1 (de_v 10) zA6))))
   (zAG (zCP (zE5 (zA1 (de_v 2) zA6)) (zDY 5 (n:=0) (de_v 6) (de_v 6) zAB))
   (zAG (zAO (n:=1) [3] (zET (zA1 (de_v 3) zA6)))
   (zAG (zAO (n:=1) [3] (zET (zA1 (de_v 3) zA6)))
   (zAG (zAO (n:=0) [5,2] (zAE zCH (zAQ (zA1 (zU8 zNJ (dz zAB)) (zA1 (zAX (zAQ (zA1 (de_v 5) zA6))) zA6))) (dz (zAE zNH (dz zAB) (dz (zAE zCH (dz zAB) (dz (zAE zC9 (de_v 2) (dz zAB)))))))))
   (zAG (zF5 (zR1 (zOX (dt_m (zAQ (zA1 (zAX (zAQ (zA1 (de_v 7) (zA1 zAB zA6)))) (zA1 (zAQ (zA1 zAB (zA1 (de_v 2) zA6))) zA6))))) (zOX (dt_m (zAQ (zA1 (zAX (zAQ (zA1 (de_v 7) (zA1 (zU8 zNJ (dz zAB)) zA6)))) (zA1 zAB zA6)))))) (zCO (n:=0) [] zMQ) zDI)
   (zAG (zF5 (zOX (dt_m (zAQ (zA1 (zAX (zAQ (zA1 (de_v 7) (zA1 zAB zA6)))) (zA1 (zAE zCH (zAQ (zA1 zAB (zA1 (de_v 2) zA6))) (de_v 4)) zA6))))) (zCO (n:=0) [] zMQ) zDI)
   (zCO (n:=0) [9,8,2] (zP5 (zAQ (zA1 (zAX (zAQ (zA1 (de_v 8) (zA1 zAB zA6)))) (zA1 (zAQ (zA1 zAB (zA1 (de_v 2) zA6))) zA6))) (zAQ (zA1 (zAX (zAQ (zA1 (de_v 8) (zA1 (zU8 zNJ (dz zAB)) zA6)))) (zA1 (de_v 9) zA6))))))))))))))))) h)⟩
end
theorem all_mk{l:qD5}{w:World}{K:qA1}{h:Heap}{mg:Str->Option Value}{fa f22 a_RoundError a_TooMany:Addr}{dd_RoundError dd_TooMany:Option Addr}{cd_RoundError cd_TooMany:ClassData}{sl_RoundError sl_TooMany:Array (Option Value)}(X:K.In h)(G:h.Ns qH2 mg)(hfa:mg "law" = some (.ref fa))
  {od22 an22:Option Addr} {sl22:Array (Option Value)} {oc22 kV22 dc22 pm22 cd22 ct22:Value} {t2:Tok} {ut0:Addr} {ud0:Option Addr} {un0:Nat} {us0:Array (Option Value)} {tu0_0 tu0_1 tu0_2:Tok} {ut1:Addr} {ud1:Option Addr} {un1:Nat} {us1:Array (Option Value)} {tu1_0 tu1_1:Tok}
  (S:Bd K mg)
  (a22:qBf K qH2 "law" = some (some (.ref f22)))
  (l22:K.lookup f22=some ⟨oc22,od22,.func (qBa "law" "law" (zCR (top 34)) (zB7 (top 34)) (zA7 (top 34)) .none kV22 dc22 pm22 an22 cd22 ct22),sl22⟩)
  (c22:qCr K cd22 "law" = true)
  (k22:qBe K (.ref f22)=true)
  (y0:qBf K qH2 "ALL_WAYS" = some (some (.ref ut0)))
  (yl0:K.lookup ut0=some ⟨.type "tuple",ud0,.seq #[.int 0 tu0_0,.int 1 tu0_1,.int 2 tu0_2] un0,us0⟩)
  (y1:qBf K qH2 "ARROWED_WAYS" = some (some (.ref ut1)))
  (yl1:K.lookup ut1=some ⟨.type "tuple",ud1,.seq #[.int 0 tu1_0,.int 2 tu1_1] un1,us1⟩)
  (y2:qBf K qH2 "MOST_CHOSEN" = some (some (.int 6 t2)))
  (xa_RoundError:qBf K qH2 "RoundError" = some (some (.ref a_RoundError)))
  (xl_RoundError:K.lookup a_RoundError=some ⟨.type "type",dd_RoundError,.cls cd_RoundError,sl_RoundError⟩)
  (xd_RoundError:xcD a_RoundError cd_RoundError sl_RoundError=true)
  (xn_RoundError:qEn K a_RoundError=some cd_RoundError)
  (xo_RoundError:PySem.W.excTail cd_RoundError.mro=true)
  (xt_RoundError:qFy K (.ref a_RoundError)=some (.type "type"))
  (xg_RoundError:qB0 K (.ref a_RoundError) "__getattribute__" = some (some (.builtin "BaseException.__getattribute__")))
  (xh_RoundError:qB0 K (.ref a_RoundError) "__getattr__" = some none)
  (xj_RoundError:qDd K a_RoundError=true)
  (xm_RoundError:qB0 K (.ref a_RoundError) "__class__" = some (some (.builtin "object.__class__")))
  (xp_RoundError:qEj K a_RoundError (.type "object")=some true)
  (xv_RoundError:qDn K (.ref a_RoundError) (.type "ValueError")=some true)
  (xw_RoundError:qDn K (.ref a_RoundError) (.type "BaseException")=some true)
  (xa_TooMany:qBf K qH2 "TooMany" = some (some (.ref a_TooMany)))
  (xl_TooMany:K.lookup a_TooMany=some ⟨.type "type",dd_TooMany,.cls cd_TooMany,sl_TooMany⟩)
  (xd_TooMany:xcD a_TooMany cd_TooMany sl_TooMany=true)
  (xn_TooMany:qEn K a_TooMany=some cd_TooMany)
  (xo_TooMany:PySem.W.excTail cd_TooMany.mro=true)
  (xt_TooMany:qFy K (.ref a_TooMany)=some (.type "type"))
  (xg_TooMany:qB0 K (.ref a_TooMany) "__getattribute__" = some (some (.builtin "BaseException.__getattribute__")))
  (xh_TooMany:qB0 K (.ref a_TooMany) "__getattr__" = some none)
  (xj_TooMany:qDd K a_TooMany=true)
  (xm_TooMany:qB0 K (.ref a_TooMany) "__class__" = some (some (.builtin "object.__class__")))
  (xp_TooMany:qEj K a_TooMany (.type "object")=some true)
  (xv_TooMany:qDn K (.ref a_TooMany) (.type "ValueError")=some true)
  (xw_TooMany:qDn K (.ref a_TooMany) (.type "BaseException")=some true)
  (ycg:qEu K (.builtin "object.__class__") "__get__" = some (some (.builtin "getset_descriptor.__get__")))
  (yct:qFb K (.builtin "object.__class__")=some true)
  (zk_TooMany:qBe K (.ref a_TooMany)=true)
  (zi_TooMany:qB0 K (.ref a_TooMany) "__init__" = some (some (.builtin "ValueError.__init__")))
  :∃fd:qHb,(∀(s:qGw)(v:Value),qIr s fd ⟨[v],[]⟩ [("_law_script",v)])/\∀base:Heap,K.In base->base.Ns qH2 mg->FnOk l.prog w K mg base CX0 7 fa fd ["_law_script"] (zGX K):=by
 have e:=hfa.symm.trans (qC8 X G a22);cases e;have c_ALL_WAYS:KTup K ut0 [0,1,2]/\mg "ALL_WAYS" = some (.ref ut0):=⟨zOI yl0 rfl rfl (by show 3<=sizeLine;decide) ((.cons ⟨_,rfl⟩ (.cons ⟨_,rfl⟩ (.cons ⟨_,rfl⟩ .nil)))),qC8 X G y0⟩
 have c_ARROWED_WAYS:KTup K ut1 [0,2]/\mg "ARROWED_WAYS" = some (.ref ut1):=⟨zOI yl1 rfl rfl (by show 2<=sizeLine;decide) ((.cons ⟨_,rfl⟩ (.cons ⟨_,rfl⟩ .nil))),qC8 X G y1⟩
 have c_MOST_CHOSEN:RelV (V.int 6) (.int 6 t2)/\mg "MOST_CHOSEN" = some (.int 6 t2):=⟨⟨_,rfl⟩,qC8 X G y2⟩
 have i_RoundError:Xc.XIs K a_RoundError:=⟨zMZ xl_RoundError xd_RoundError,xg_RoundError,xh_RoundError,xj_RoundError,xm_RoundError,ycg,yct,xp_RoundError⟩
 have i_TooMany:Xc.XIs K a_TooMany:=⟨zMZ xl_TooMany xd_TooMany,xg_TooMany,xh_TooMany,xj_TooMany,xm_TooMany,ycg,yct,xp_TooMany⟩
 have n_RoundError:XCls K mg "RoundError" a_RoundError:=⟨zXB xa_RoundError,qC8 X G xa_RoundError,i_RoundError⟩
 have n_TooMany:XCls K mg "TooMany" a_TooMany:=⟨zXB xa_TooMany,qC8 X G xa_TooMany,i_TooMany⟩
 have z_TooMany:XNo K mg "TooMany" a_TooMany:=⟨n_TooMany,zk_TooMany,zi_TooMany⟩
 refine⟨qBa "law" "law" (zCR (top 34)) (zB7 (top 34)) (zA7 (top 34)) .none kV22 dc22 pm22 an22 cd22 ct22,fun s v=>.of_eq rfl,fun base _ _=>?_⟩;exact zW3 ⟨S,_,_,_,_,c_MOST_CHOSEN,z_TooMany,c_ARROWED_WAYS,c_ALL_WAYS⟩ (zRX (st:=(top 34)) l22 c22 k22)
theorem walk{l:qD5}{q:qGz}{loose:List Str}{XP:(Str->Option Value)->Heap->Prop}{d:DefRec}{K:Params->qA1}{YP:World->Heap->Prop}(hn:l.most=some 63)(hdf:d.params.defaults=[])(hY:∀(w:World) (h:Heap),YP w h->(K w.params).In h)
  (F:∀(w:World)(mg:Str->Option Value)(fa:Addr)(h:Heap),(K w.params).In h->h.Ns qH2 mg->mg d.name=some (.ref fa) ->
   TbE (K w.params) []/\∃fd:qHb,(∀(s:qGw)(u:Value),qIr s fd ⟨[u],[]⟩ [("_law_script",u)])/\∀base:Heap,(K w.params).In base->base.Ns qH2 mg->FnOk l.prog w (K w.params) mg base CX0 7 fa fd ["_law_script"] (zGX (K w.params))) :
  qEo q loose XP YP l.row.toRowW d [] (fun f vs=>qEy f vs):=
 L3.walk_of0 (n:=63) (k:=7) (x:="_law_script") hn (by decide) hdf ⟨rfl,by decide,by decide⟩ hY F
end Q76
open PySem PySem.W PyProof.Rows
set_option maxRecDepth 100000 in
set_option maxHeartbeats 0 in
theorem PySem.Challenge.cw_fourway_k76_whole_worths_told_holds : PySem.Challenge.rw_fourway_k76_whole_worths_told.Holds := by
 refine hdZ.2 ?_;dsimp only[hdZ]
 k_fill
 refine Q76.walk (l:=qBo) rfl rfl (fun w h Y=>PySem.W.kIn_of Y) ?F
 case F=>
  intro w mg fa h KX G hmg;have T:L3.Tb (L2.KOf KX) [] none none none:=by
   dsimp only[L2.KOf];exact⟨L3.mk1_none (by k_is),L3.mk1_none (by k_is),L3.mk1_none (by k_is)⟩
  refine' ⟨⟨_,_,_,T⟩,Q76.all_mk KX G hmg (by constructor<;>first|exact L3.mkD KX G (by k_is) (by k_is) (by k_is) (by k_is)|exact PySem.W.mg_none_of KX G (by k_is)) (by k_is) (by k_is) (by k_is) (by k_is) (by k_is) (by k_is) (by k_is) (by k_is) (by k_is) (by k_is) (by k_is) (by rfl) (by k_is) (by rfl) (by k_is) (by k_is) (by k_is) (by k_is) (by k_is) (by k_is) (by k_is) (by k_is) (by k_is) (by k_is) (by rfl) (by k_is) (by rfl) (by k_is) (by k_is) (by k_is) (by k_is) (by k_is) (by k_is) (by k_is) (by k_is) (by k_is) (by k_is) (by k_is) (by k_is)⟩
