import PyProof.Rows.All
import Wide.All
import OpenK.AllK
import Wide.FinOn
import Lean
import PyProof.EqAt
import PyProof.EqKinds
import PyProof.TupleCall
import PyProof.NeKinds
import KE.KLam
import KE.KNestM
import PySem.Challenge.RW_fourway_k44_whole_rounds_are_nothings
set_option Elab.async false
set_option linter.all false
set_option maxRecDepth 100000
open Array renaming length_toList->qB9,getElem?_toList->qBg,getElem?_eq_some_iff->qBz,getElem?_eq_getElem->qEv,toList_push->qGz,toList->qH1
open Bool renaming false_ne_true->qAh,and_eq_true->qBi,and_false->qDe,eq_iff_iff->qDm,and_true->qF8,or_true->qFu,false_eq_true->qGo,or_eq_true->qHd,or_false->qIg
open Char renaming toNat->qJ1
open Classical renaming propDecidable->qA6,axiomOfChoice->qFc
open Eq renaming trans->qHa
open False renaming elim->qA3
open ForInStep renaming yield->qD5
open Function renaming comp->qIk
open Int renaming toNat_natCast->qBd,emod_lt_of_pos->qD2,emod_nonneg->qDv,add_zero->qEt,mul_zero->qG4,natCast_pos->qG5,mul_emod->qG6,emod_emod_of_dvd->qGe,ofNat_lt->qIu,mul_one->qIv,add_mul->qIx,mul_add->qIy
open List renaming getD_eq_getElem?_getD->qA0,getElem?_eq_getElem->qA1,range->qA4,getElem?_eq_some_iff->qA5,getElem?_append_right->qA7,replicate->qA8,getElem?_append_left->qA9,getElem?_map->qAb,mem_cons->qAc,map_cons->qAd,length_map->qAe,idxOf_lt_length_of_mem->qAf,size_toArray->qAg,mem_map->qAi,length_cons->qAj,mem_filter->qAm,length_append->qAo,count_eq_zero->qAp,mem_append->qAr,map_congr_left->qAs,getElem?_set_self->qAt,mem_singleton->qAu,mem_append_right->qAw,map_map->qAx,mem_cons_of_mem->qAz,getElem?_set_ne->qB0,flatten_cons->qB2,mem_of_getElem?->qB3,mem_cons_self->qB4,mem_append_left->qB6,count_cons_self->qB7,getElem?_cons_succ->qB8,drop_eq_getElem_cons->qBa,ext_getElem->qBb,count_append->qBe,mem_range->qBf,getElem?_cons_zero->qBh,nodup_cons->qBk,map_append->qBl,not_mem_nil->qBm,pairwise_cons->qBo,getElem_map->qBq,replicate_succ->qBr,length_filter_le->qBu,eraseIdx_cons_succ->qBw,getElem_range->qBx,lookup_cons->qBy,length_eraseIdx_of_lt->qC0,eq_append_cons_of_mem->qC1,append_assoc->qC2,contains_cons->qC6,countP_cons->qCa,getElem_mem->qCb,getElem?_replicate->qCc,any_cons->qCd,count_cons->qCf,length_take->qCg,filter_cons->qCh,nodup_range->qCi,length_replicate->qCk,take_append_drop->qCl,find?_cons->qCo,filter_congr->qCp,idxOf_append->qCq,take_left'->qCs,all_cons->qCx,range_succ_eq_map->qCy,length_pos_of_mem->qCz,count_pos_iff->qD1,append_nil->qD4,range_succ->qD6,sum_cons->qD8,nodup_append->qD9,length_range->qDa,mem_flatten->qDg,mergeSort_perm->qDh,getElem?_range->qDi,length_erase_of_mem->qDj,of_mem_zip->qDn,foldl_cons->qDo,length_eq_zero_iff->qDq,filter_cons_of_neg->qDr,filter_cons_of_pos->qDs,getElem_idxOf->qDt,idxOf_cons->qDu,take_succ_eq_append_getElem->qDx,getElem_cons_succ->qDz,eraseIdxIfInBounds_toArray->qE3,pairwise_map->qE5,countP_congr->qE6,length_singleton->qE9,getElem?_eq_none->qEa,count_cons_of_ne->qEb,length_drop->qEf,take_length->qEg,mem_of_mem_take->qEh,mem_erase_of_ne->qEi,filterMap_cons->qEk,length_set->qEl,lookup->qEm,drop_left'->qEq,drop_zero->qEu,extract_eq_drop_take->qEw,ext_getElem?->qF2,getElem?_set->qF3,foldl_append->qF4,all_eq_true->qFg,any_eq_true->qFh,cons_append->qFi,drop_length->qFj,length_eq_one_iff->qFm,take_of_length_le->qFn,length_nil->qFr,map_nil->qFs,forIn_cons->qFt,set_getElem_self->qFw,getElem?_reverse->qFy,perm_append_comm->qG0,countP_map->qG3,count->qG9,length_eraseIdx->qGb,pairwise_append->qGc,take_zero->qGh,take_succ_cons->qGk,mem_filterMap->qGn,filter_append->qGq,find?_eq_none->qGr,map_singleton->qGs,take_sublist->qGw,take_add_one->qGx,map_inj_left->qH0,map_fst_zip->qH9,nil_append->qHc,range'->qHe,find?_some->qHj,sum_append->qHk,filter_map->qHm,nodup_nil->qHy,foldl->qIc,Nodup->qIf,map_take->qIl,all_map->qIn,any_map->qIo,map_set->qIp,cons->qIs,not_lt->qIw,take->qJ3
open List.Nodup renaming count->qJ2
open List.Pairwise renaming nil->qE4,imp_of_mem->qF5
open List.Perm renaming append_left->qD7,refl->qE7,swap->qEx
open List.cons renaming inj->qIi
open Nat renaming le_refl->qAa,lt_of_lt_of_le->qAk,ne_of_lt->qAl,zero_le->qAn,le_trans->qAq,mod_eq_of_lt->qB1,lt_succ_of_lt->qBn,ne_of_gt->qBs,zero_add->qC4,mod_lt->qC7,le_succ->qC8,lt_succ_self->qC9,lt_irrefl->qCj,add_mod_right->qCr,lt_of_le_of_lt->qD0,le_of_lt->qD3,le_antisymm->qEo,lt_trichotomy->qF1,le_add_right->qFf,succ_mul->qFp,mul_comm->qFq,le_of_eq->qFx,min_eq_left->qG2,pow_lt_pow_right->qGd,le_zero->qGl,min_self->qH2,mod_self->qH4,succ_le_succ->qH7,strongRecOn->qHl,mul_le_mul->qHz,lt_or_ge->qIr,pow_succ->qIt
open Nat.succ renaming inj->qIq
open Ne renaming symm->qCv
open Option renaming map_some->qEn,isSome_iff_exists->qEz,isSome_map->qF0,getD_some->qFe,map_eq_some_iff->qFl,map_none->qG1,none->qGj,getD_none->qH6
open Option.some renaming inj->qBc,injEq->qJ0
open Or renaming inr->qId,inl->qIz
open Prod renaming fst->qIh
open PyProof.Rows renaming callWith_type1->qBv,callWith_builtin1->qE8,isInt->qEs,envOfC->qGm,preSum_getD->qIe,StrsAre->qL3,AllBare->qLe,subscriptTail_builtinR->qLk,boot_isinstance->qLq,IntsAre->qM8,boot_list->qMx
open PyProof.Rows.F renaming plain_set_update_loop->qCe,entry_set_update_loop->qDf
open PySem renaming mem_of_lookup->qCw,call->qGy,Within->qIm,Shared->qJ5,Program->qJ8,Around->qJb,mainGlobals->qJf,wpAny_loadPart_at->qJg,boot_len->qJo,FuncData->qJr,wpAny_isSubtype_exc->qJu,sizeLine_eq->qJw,wpAny_passesOwn->qJx,wpAny_Call_Name_kw->qK3,ExcBaseFacts->qK6,builtinLookup_eq_fast->qK8,sysModules->qK9,behindInMarks->qKa,NameKind->qKb,wpAny_pyIter_enum->qKc,Builtin->qKf,bootBuiltins->qKj,plainId_quiet->qKn,wpAny_Call_method_late->qKo,foldedSetIterable->qKq,codeAny->qKr,GenState->qKt,SetTable->qKu,isSubtype_type->qKv,attributeBase->qKy,builtinsNs->qKz,wpAny_execs_nil->qL2,typeLookup_type->qL4,wpAny_letOwnedTupleGo_enum->qL7,Keyword->qL8,codeAny_call_builtin_code->qL9,codeAny_call_builtin_at->qLh,wpAny_madeBy_exc->qLj,wpAny_isTrue_Compare1->qLl,Paired->qLr,call_enumerate_list->qLt,callerA->qLx,swapsWith->qM1,bindArgs->qM2,wpAny_assign_Name->qM5,BindsTo->qM6,slot_list_getitem->qM7,wpAny_pyIter_slot->qMb,setsByText->qMc,Result->qMg,seqIndex_neg->qMh,PassesOwn->qMo,seqIndex?->qMp,seqIndex_of->qMq,putSet_of->qMv,wpAny_Name->qMz,PlainAttrs->qN1,standAt->qN5,ElemsOf->qN7,entryFor->qN8,slotArgs->qN9
open PySem.Challenge renaming rw_fourway_k44_whole_rounds_are_nothings->qC5,pw_fourway_k44_whole_rounds_are_nothings->qEe
open PySem.EqMixed renaming eq_bool_str->qHq,eq_str_bool->qHr,ne_bool_str->qHv,ne_str_bool->qHw,eq_int_str->qI3,eq_str_int->qI5,ne_int_str->qI9,ne_str_int->qIb
open PySem.EqNone renaming eq_none_none->qHn,eq_none_bool->qHo,eq_bool_none->qHp,ne_none_none->qHs,ne_none_bool->qHt,ne_bool_none->qHu,eq_none_int->qI0,eq_none_str->qI1,eq_int_none->qI2,eq_str_none->qI4,ne_none_int->qI6,ne_none_str->qI7,ne_int_none->qI8,ne_str_none->qIa
open PySem.F renaming plainAttrs_list->qAy,plainAttrs_str->qB5,slot_str_find->qCm,type_str_find->qCn,slot_list_append->qCt,type_list_append->qCu,excBase_ValueError->qDc,slot_list_extend->qDk,type_list_extend->qDl,slot_list_count->qDp,slot_str_join->qEc,type_str_join->qEd,slot_list_index->qFa,plain_list_iadd->qFb,type_list_count->qFd,slot_set_iter->qFz,slot_list_pop->qG7,type_list_pop->qG8,called_set->qK7,slot_list_getattribute->qKl,slot_dict_update->qM4,entry_list_pop->qMk,slot_list_pop->qMr,slot_int_rmul->qMs,plain_set_new->qMw
open PySem.W renaming Frag->qA2,findIn->qAv,keepIn->qBj,kia_one->qBp,fnOf->qBt,nsIn->qC3,mg_of->qDb,codeIn->qDd,subIn->qDw,cellsFrom_some->qDy,hasDictIn->qE0,specialIn->qE1,clsIn->qEj,OpenLaw->qEp,callWith_K->qEr,methodObj->qEy,mroIn->qF7,Looks->qF9,codeHdIn->qFk,instObj->qFo,isFn->qFv,looks_findIn->qGa,lookIn->qGf,tabObj->qGg,typeIn->qGi,WalkO->qGp,kitx_list->qGu,kitx_dict->qGv,envX->qH3,plainGet->qH5,handedIn->qH8,takesIn->qHb,readsIn->qHf,findCls->qHg,takerIn->qHh,kf_ints->qHi,kitOne->qHx,kf_at->qIj
open Sum renaming inl->qF6,inr->qGt
open True renaming intro->qE2
set_option compiler.extract_closed false
set_option genSizeOf false
set_option genSizeOfSpec false
set_option bootstrap.genMatcherCode false
open PySem.Around renaming under_plainId->qJn,under->qMe
open PySem.Builtin renaming bitXor->qKd
open PySem.Builtin.Dict renaming updateFrom->qLi
open PySem.Builtin.Frozenset renaming updateFrom->qMn,newClass->qMy,sizeOf->qN3,slot0->qNa
open PySem.Builtin.Int renaming intBits->qKg,intTooBig->qLp
open PySem.Builtin.List renaming listTooLong->qJy,listExtendWith->qL5,listSameRef->qLc
open PySem.Builtin.Range renaming rangeSize->qLf
open PySem.Builtin.Str renaming occurrences->qJq,subAt->qJs,strSliceIndices->qJt
open PySem.Calls renaming callWith_builtin->qKp,evalArgs_plain->qKx,Name_function_global->qL6
open PySem.CmpOp renaming NotIn->qNh
open PySem.Code renaming quiet_builtin->qK4,isFrame->qMf
open PySem.EntryCells renaming newEntry->qLv
open PySem.Heap renaming get?_push_of_some->qJ4,lt_size->qJ6,get?_push_size->qJ7,get?_update_self->qJ9,get?_update_other->qJa,size_push->qJj,get?_none_of_le->qJp,MadeExcOf->qK0,SameBut->qKw,get?_push_at->qLb,ExtBut->qLu,get?_update_ne->qLw
open PySem.Heap.IsSliceOf renaming new->qNi
open PySem.Heap.SameBut renaming update->qJz
open PySem.NameKind renaming free->qJd,cell->qJv
open PySem.Obj renaming data_mapFields->qJe,mapFields->qJh,isFreed_of_fields->qJl,mapSeq->qKk,cls_mapFields->qKs,putSet->qMa
open PySem.Paired renaming length->qLd
open PySem.PassesOwn renaming never->qJk
open PySem.SeqAt renaming EqAt->qL0,RcNeAt->qMi,RcAt->qN2
open PySem.SeqAt.EqAt renaming of_refs->qKm,same->qLm,int_str->qLz,str_int->qM0
open PySem.SeqAt.RcAt renaming lists_lengths->qLa,list_tuple->qLn,tuple_list->qLo,tuples->qM9,lists->qMl
open PySem.SetTable renaming grown->qK1,below->qKe,orStandIn->qM3
open PySem.SetTable.below renaming go->qMd
open PySem.Str renaming ofString->qJm,ofString_eq_toList->qK2,join->qLg,length->qN0
open PySem.StrLaws renaming occBody->qK5
open PySem.Txt renaming find->qN6,slice->qNb,count->qNc,rfind->qNe
open PySem.Value renaming ref->qJc,none->qJi,bool->qKh,type->qKi,str->qL1,isStrOf_shape->qLs,int->qLy,isStrOf->qN4,isInt->qNf,float->qNg
open PySem.W.WData renaming layableAll->qMm,int->qMt,weightAll->qMu,weight->qNd
open PySem.W.WShape renaming has->qNj
open PySem.pickOrder renaming go->qMj
noncomputable section
set_option maxHeartbeats 0 in
def hdZ:PSigma fun H:Prop=>H->PySem.Challenge.rw_fourway_k44_whole_rounds_are_nothings.Holds:=by
 refine' ⟨_,fun x=>?go⟩
 case' go=>w_on;o_law;refine' And.left (b:=_) ⟨?main,And.intro ?hl ?hc⟩
 case main=>
  k_head
  case hw=>w_witness2
 case hc=>exact x
 case hl=>intro w;unfold PySem.W.openEnds PySem.W.fencedOpening PySem.W.topFrom;rewrite[PySem.W.Fast.te10274390034422433532,PySem.W.Fast.te14289696077712309145,PySem.W.Fast.te14082659384304107361,PySem.W.Fast.te4187177175401517315,PySem.W.Fast.te1435165496053646825,PySem.W.Fast.te14364793385576792824];kernel_rfl
namespace L2
open PySem PySem.Spec PyProof.Rows
abbrev Key:=Sum Int Str
def zQT:Key->Value->Bool
 |.inl k,v=>qNf k v
 |.inr x,v=>qN4 x v
def keyH(w:World):Key->Int
 |.inl k=>hashInt k
 |.inr x=>hashStr w x
def zB9:∀{k:Key}{v:Value},zQT k v=true->(∃i t,k=qF6 i/\v=qLy i t)\/(∃x t,k=qGt x/\v=qL1 x t)
 |.inl i,v,h=>by
  obtain⟨t,e⟩:=Value.isInt_shape (k:=i) (v:=v) h;exact .inl ⟨i,t,rfl,e⟩
 |.inr x,v,h=>by
  obtain⟨t,e⟩:=qLs (x:=x) (v:=v) h;exact .inr ⟨x,t,rfl,e⟩
def zTC(i:Int)(t:Tok):zQT (.inl i) (.int i t)=true:=by simp[zQT,qNf]
def zTB(x:Str)(t:Tok):zQT (.inr x) (.str x t)=true:=by simp[zQT,qN4]
def ze5(a b:Int):decide ((qF6 a:Key)=qF6 b)=(a==b):=by
 by_cases e:a=b
 ·subst e;simp
 ·have h:¬(qF6 a:Key)=qF6 b:=fun q=>e (Sum.inl.inj q)
  rw[decide_eq_false h];exact(beq_eq_false_iff_ne.mpr e).symm
def ze2(a b:Str):decide ((qGt a:Key)=qGt b)=decide (a=b):=by
 by_cases e:a=b
 ·subst e;simp
 ·have h:¬(qGt a:Key)=qGt b:=fun q=>e (Sum.inr.inj q)
  rw[decide_eq_false h,decide_eq_false e]
def ze4(a:Int)(b:Str):decide ((qF6 a:Key)=qGt b)=false:=decide_eq_false (fun q=>nomatch q)
def ze3(a:Str)(b:Int):decide ((qGt a:Key)=qF6 b)=false:=decide_eq_false (fun q=>nomatch q)
def zBP(prog:qJ8)(w:World):PySem.KeyKind prog w Key where
 is:=zQT
 hash:=keyH w
 inj:=fun v a b ha hb=>by
  rcases zB9 ha with⟨i,t,rfl,rfl⟩|⟨x,t,rfl,rfl⟩
  ·rcases zB9 hb with⟨j,u,rfl,e⟩|⟨y,u,rfl,e⟩
   ·injection e with e1 _;rw[e1]
   ·exact nomatch e
  ·rcases zB9 hb with⟨j,u,rfl,e⟩|⟨y,u,rfl,e⟩
   ·exact nomatch e
   ·injection e with e1 _;rw[e1]
 byValue:=fun k v h=>by
  rcases zB9 h with⟨i,t,rfl,rfl⟩|⟨x,t,rfl,rfl⟩<;>rfl
 pyHash:=fun hv h=>by
  rcases zB9 hv with⟨i,t,rfl,rfl⟩|⟨x,t,rfl,rfl⟩
  ·exact wpAny_pyHash_int h
  ·exact wpAny_pyHash_str h
 eqBool:=fun hu hv h=>by
  rcases zB9 hu with⟨i,t,rfl,rfl⟩|⟨x,t,rfl,rfl⟩
  ·rcases zB9 hv with⟨j,u,rfl,rfl⟩|⟨y,u,rfl,rfl⟩
   ·rw[ze5]at h;exact wpAny_eqBool_int h
   ·rw[ze4]at h;exact qLz i t y u _ _ _ _ h
  ·rcases zB9 hv with⟨j,u,rfl,rfl⟩|⟨y,u,rfl,rfl⟩
   ·rw[ze3]at h;exact qM0 x t j u _ _ _ _ h
   ·rw[ze2]at h;exact wpAny_eqBool_str h
 «strs»:=fun k x t v h=>by
  rcases zB9 h with⟨i,u,rfl,e⟩|⟨y,u,rfl,e⟩
  ·exact nomatch e
  ·injection e with e1 _
   subst e1;cases v<;>rfl
def zO6(prog:qJ8)(w:World)(i:Int)(t:Tok):(zBP prog w).is (.inl i) (.int i t)=true:=zTC i t
def zO5(prog:qJ8)(w:World)(x:Str)(t:Tok):(zBP prog w).is (.inr x) (.str x t)=true:=zTB x t
inductive V where
 |non|bl (b:Bool)|int (i:Int)|str (x:Str)|byt (b:Array UInt8)|flt (b:UInt64)|ref (a:Addr)|ty (n:String)
 deriving DecidableEq
def RelV:V->Value->Prop
 |.non,u=>u=qJi
 |.bl b,u=>u=qKh b
 |.int i,u=>∃t,u=qLy i t
 |.str x,u=>∃t,u=qL1 x t
 |.byt b,u=>∃t,u=Value.bytes b t
 |.flt b,u=>∃t,u=qNg b t
 |.ref a,u=>u=qJc a
 |.ty n,u=>u=qKi n
abbrev Vals:List V->List Value->Prop:=qLr RelV
def Vals.length{xs:List V}{us:List Value}(r:Vals xs us):xs.length=us.length:=qLd r
def Vals.get:∀{xs:List V}{us:List Value}{i:Nat}{x:V},Vals xs us->xs[i]?=some x->∃u,us[i]?=some u/\RelV x u
 |_,_,_,_,.nil,e=>by simp at e
 |_,_,0,_,.cons r _,e=>by simp at e;subst e;exact⟨_,rfl,r⟩
 |_,_,i+1,x,.cons _ t,e=>by
  obtain⟨u,h1,h2⟩:=Vals.get (i:=i) (x:=x) t (by simpa using e);exact⟨u,by simpa using h1,h2⟩
def Vals.set{x:V}{u:Value}(r:RelV x u):∀{xs:List V}{us:List Value}(i:Nat),Vals xs us->Vals (xs.set i x) (us.set i u)
 |_,_,_,.nil=>.nil
 |_,_,0,.cons _ t=>.cons r t
 |_,_,i+1,.cons q t=>.cons q (Vals.set r i t)
def Vals.append:∀{xs ys:List V}{us ws:List Value},Vals xs us->Vals ys ws->Vals (xs++ys) (us++ws)
 |_,_,_,_,.nil,s=>s
 |_,_,_,_,.cons r t,s=>.cons r (Vals.append t s)
def Vals.take:∀{xs:List V}{us:List Value}(n:Nat),Vals xs us->Vals (xs.take n) (us.take n)
 |_,_,0,_=>.nil
 |_,_,_+1,.nil=>.nil
 |_,_,n+1,.cons r t=>.cons r (Vals.take n t)
def Vals.drop:∀{xs:List V}{us:List Value}(n:Nat),Vals xs us->Vals (xs.drop n) (us.drop n)
 |_,_,0,r=>r
 |_,_,_+1,.nil=>.nil
 |_,_,n+1,.cons _ t=>Vals.drop n t
def RelO:Option V->Option Value->Prop
 |some v,some u=>RelV v u
 |none,none=>True
 |_,_=>False
def KV{κ:Type}:List (κ×V)->List (κ×Value)->Prop:=qLr fun(p:κ×V)(q:κ×Value)=>p.1=q.1/\RelV p.2 q.2
def kV:Key->V
 |.inl i=>.int i
 |.inr x=>.str x
inductive HO where
 |lst (xs:List V)
 |tup (xs:List V)
 |dK (kvs:List (Key×V))|dT (kvs:List (List Key×V))
 |set (S:Int->Bool) (n:Nat)
 |ins (C dx:Addr) (fs:List (Str×V))
 |own (x:Addr)
 |xd (fs:List (Str×V))
 |met (f x:Addr)
 |rng (lo hi:Int)
 |frz (o:Obj) (u:HO)
 |tbl (ps:Array Value)
 |lam (q:Str)
 |fn (o:Obj) (q:Str)
 |ext (φ:Heap->Prop)
abbrev Hp:=Addr->Option HO
def upd(H:Hp)(a:Addr)(o:HO):Hp:=fun b=>if b=a then some o else H b
def zAA{H:Hp}{a:Addr}{o:HO}:upd H a o a=some o:=by unfold upd;rw[if_pos rfl]
def zAD{H:Hp}{a b:Addr}{o:HO}(h:b≠a):upd H a o b=H b:=by unfold upd;rw[if_neg h]
def zWK{H:Hp}{a b:Addr}{o u:HO}(h:H a=some o)(h':H b=some u)(d:o≠u):a≠b:=by
 intro e;subst e;rw[h]at h';exact d (qBc h')
def zAK{H:Hp}{a b:Addr}{o:HO}(h:H a=some o)(h':H b=none):a≠b:=by
 intro e;subst e;rw[h]at h';cases h'
def CodR(o:Obj)(q:Str):Prop:=∃vs t,o.data=.fields vs/\vs[1]?=some (.str q t)
section
variable(P:qJ8)(w:World)
def ObjOk(H:Hp)(h:Heap)(a:Addr):HO->Prop
 |.lst xs=>xs.length<=sizeLine/\∃(its:List Value)(n:Nat),Vals xs its/\h.get? a=some { cls:=.type "list",data:=.seq its.toArray n }
 |.tup xs=>xs.length<=sizeLine/\∃its:List Value,Vals xs its/\IsTup h a its.toArray
 |.dK kvs=>kvs.length<=sizeLine/\(a==qK9)=false/\∃vs,KV kvs vs/\h.DictOf (zBP P w) a vs
 |.dT kvs=>kvs.length<=sizeLine/\(a==qK9)=false/\∃xs:List (List Key×Addr×Value),
   qLr (fun(p:List Key×V)(q:List Key×Addr×Value)=>p.1=q.1/\H q.2.1=some (.tup (p.1.map kV))/\RelV p.2 q.2.2) kvs xs /\
   ∃o es ep,h.get? a=some o/\o.ExactDict/\o.data=.dict es ep/\es.toList=xs.map (entryOfKey (tupleKind (zBP P w)))/\(xs.map (·.1)).Nodup
 |.set S n=>h.SetOf (intKind P w) a S n
 |.ins C dx fs=>H dx=some (.own a)/\fs.length<=1000/\dx≠a/\h.get? a=some (qFo C dx) /\
   ∃mA,h.Ns1 dx mA/\(∀f,RelO (fs.lookup f) (mA f))/\qIm mA (fs.map (·.1))
 |.own _=>∃o,h.get? a=some o
 |.xd fs=>∃mA,h.Ns1 a mA/\∀f,RelO (fs.lookup f) (mA f)
 |.rng lo hi=>∃t u v,h.get? a=some { cls:=.type "range",data:=.fields #[.int lo t,.int hi u,.int 1 v] }
 |.frz o u=>h.get? a=some o/\ObjOk H h a u
 |.tbl ps=>h.get? a=some { cls:=.none,data:=.fields ps }
 |.lam q=>∃ps:Array Value,h.get? a=some { cls:=.none,data:=.fields ps }/\TriplesOk ps.toList/\∀pos cv,codeAmong pos ps.toList=some cv->∃c oc u,cv=.ref c/\H c=some (.frz oc u)/\CodR oc q
 |.fn o q=>h.get? a=some o/\∃fd c oc u,o.data=.func fd/\fd.code=.ref c/\H c=some (.frz oc u)/\CodR oc q
 |.met f x=>h.get? a=some (qEy (.ref f) (.ref x))
 |.ext φ=>φ h/\(∃o,h.get? a=some o)/\∀h1 h2:Heap,φ h1->(∀o,h1.get? a=some o->h2.get? a=some o)->φ h2
def HOk(H:Hp)(h:Heap):Prop:=∀a o,H a=some o->ObjOk P w H h a o
end
section
variable{P:qJ8}{w:World}{H H':Hp}{h h':Heap}{a:Addr}{o:HO}
def ObjOk.lt(x:ObjOk P w H h a o):a<h.objs.size:=by
 cases o with
 |lst xs=>obtain⟨_,_,_,_,e⟩:=x;exact qJ6 e
 |tup xs=>obtain⟨_,_,_,p⟩:=x;exact p.lt
 |dK kvs=>obtain⟨_,_,_,_,o,_,_,e,_⟩:=x;exact qJ6 e
 |dT kvs=>obtain⟨_,_,_,_,o,_,_,e,_⟩:=x;exact qJ6 e
 |set S n=>obtain⟨o,_,_,_,e,_⟩:=x;exact qJ6 e
 |ins C dx fs=>obtain⟨_,_,_,e,_⟩:=x;exact qJ6 e
 |own y=>obtain⟨_,e⟩:=x;exact qJ6 e
 |xd fs=>obtain⟨_,⟨_,_,_,e,_⟩,_⟩:=x;exact qJ6 e
 |rng lo hi=>obtain⟨_,_,_,e⟩:=x;exact qJ6 e
 |frz ob u=>obtain⟨e,_⟩:=x;exact qJ6 e
 |tbl ps=>exact qJ6 (show h.get? a=some _ from x)
 |lam q=>obtain⟨_,e,_⟩:=x;exact qJ6 e
 |fn ob q=>obtain⟨e,_⟩:=x;exact qJ6 e
 |met f y=>exact qJ6 (show h.get? a=some _ from x)
 |ext φ=>obtain⟨_,⟨_,e⟩,_⟩:=x;exact qJ6 e
def qLr.mapP{α β:Type}{F G:α->β->Prop}:∀{l₁:List α}{l₂:List β},qLr F l₁ l₂->(∀a b,F a b->G a b)->qLr G l₁ l₂
 |_,_,.nil,_=>.nil
 |_,_,.cons r t,f=>.cons (f _ _ r) (qLr.mapP t f)
def ObjOk.stay(x:ObjOk P w H h a o)(k:∀b u,(b=a\/H b=some (.own a))->h.get? b=some u->h'.get? b=some u)
  (ho:∀b,H b=some (.own a)->H' b=some (.own a)) (ht:∀b xs,H b=some (.tup xs)->H' b=some (.tup xs)) (hf:∀b o u,H b=some (.frz o u)->(∃vs,o.data=.fields vs)->H' b=some (.frz o u)):ObjOk P w H' h' a o:=by
 induction o with
 |lst xs=>obtain⟨z,its,n,r,e⟩:=x;exact⟨z,its,n,r,k _ _ (.inl rfl) e⟩
 |tup xs=>obtain⟨z,its,r,ob,e,c⟩:=x;exact⟨z,its,r,ob,k _ _ (.inl rfl) e,c⟩
 |dK kvs=>obtain⟨z,y,vs,r,ob,es,ep,e,c⟩:=x;exact⟨z,y,vs,r,ob,es,ep,k _ _ (.inl rfl) e,c⟩
 |dT kvs=>
  obtain⟨z,y,xs,r,ob,es,ep,e,c⟩:=x;exact⟨z,y,xs,qLr.mapP r fun p q z=>⟨z.1,ht _ _ z.2.1,z.2.2⟩,ob,es,ep,k _ _ (.inl rfl) e,c⟩
 |set S n=>obtain⟨ob,es,ep,t,e,c⟩:=x;exact⟨ob,es,ep,t,k _ _ (.inl rfl) e,c⟩
 |ins C dx fs=>
  obtain⟨d,z,ne,e,mA,⟨od,es,ep,e2,c⟩,r⟩:=x;exact⟨ho _ d,z,ne,k _ _ (.inl rfl) e,mA,⟨od,es,ep,k _ _ (.inr d) e2,c⟩,r⟩
 |own y=>obtain⟨ob,e⟩:=x;exact⟨ob,k _ _ (.inl rfl) e⟩
 |xd fs=>obtain⟨mA,⟨od,es,ep,e,c⟩,r⟩:=x;exact⟨mA,⟨od,es,ep,k _ _ (.inl rfl) e,c⟩,r⟩
 |rng lo hi=>obtain⟨t,u,v,e⟩:=x;exact⟨t,u,v,k _ _ (.inl rfl) e⟩
 |frz ob u ih=>obtain⟨e,q⟩:=x;exact⟨k _ _ (.inl rfl) e,ih q⟩
 |tbl ps=>
  have e:h.get? a=some { cls:=.none,data:=.fields ps }:=x;show h'.get? a=some { cls:=.none,data:=.fields ps };exact k a _ (.inl rfl) e
 |lam q=>
  obtain⟨ps,e,t,r⟩:=x;exact⟨ps,k _ _ (.inl rfl) e,t,fun pos cv z=>let⟨c,oc,u,e1,e2,e3⟩:=r pos cv z;⟨c,oc,u,e1,hf _ _ _ e2 (let⟨vs,_,d,_⟩:=e3;⟨vs,d⟩),e3⟩⟩
 |fn ob q=>
  obtain⟨e,fd,c,oc,u,e1,e2,e3,e4⟩:=x;exact⟨k _ _ (.inl rfl) e,fd,c,oc,u,e1,e2,hf _ _ _ e3 (let⟨vs,_,d,_⟩:=e4;⟨vs,d⟩),e4⟩
 |met f y=>
  have e:h.get? a=some (qEy (.ref f) (.ref y)):=x;show h'.get? a=some (qEy (.ref f) (.ref y));exact k a _ (.inl rfl) e
 |ext φ=>obtain⟨p,⟨o,e⟩,st⟩:=x;exact⟨st _ _ p fun o q=>k _ _ (.inl rfl) q,⟨o,k _ _ (.inl rfl) e⟩,st⟩
def HOk.lt(x:HOk P w H h)(e:H a=some o):a<h.objs.size:=(x a o e).lt
def HOk.fresh(x:HOk P w H h)(e:h.objs.size<=a):H a=none:=by
 cases q:H a with
 |none=>rfl
 |some u=>exact absurd (qAk (x.lt q) e) (qCj _)
def HOk.kept(x:HOk P w H h)(k:∀b u,h.get? b=some u->h'.get? b=some u):HOk P w H h':=fun a o e=>
 (x a o e).stay (fun b u _ q=>k b u q) (fun _ q=>q) (fun _ _ q=>q) fun _ _ _ q _=>q
def HOk.laid(x:HOk P w H h)(k:∀b u,h.get? b=some u->h'.get? b=some u)(hp:h.objs.size<=a)(new:ObjOk P w (upd H a o) h' a o):HOk P w (upd H a o) h':=fun b u e=>by
 have hn:=x.fresh hp;by_cases hb:b=a
 ·subst hb;rw[zAA]at e;cases e;exact new
 ·rw[zAD hb]at e;exact(x b u e).stay (fun c v _ q=>k c v q) (fun c q=>by rw[zAD (zAK q hn)];exact q) (fun c xs q=>by rw[zAD (zAK q hn)];exact q) fun c _ _ q _=>by rw[zAD (zAK q hn)];exact q
end
def Rd(H:Hp)(a:Addr)(u:HO):Prop:=H a=some u\/∃o,H a=some (.frz o u)
def Rd.ok{P:qJ8}{w:World}{H:Hp}{h:Heap}{a:Addr}{u:HO}(r:Rd H a u)(x:HOk P w H h):ObjOk P w H h a u:=by
 rcases r with r|⟨o,r⟩
 ·exact x a u r
 ·obtain⟨_,q⟩:=x a _ r;exact q
def Mut:Option HO->Prop
 |some (.lst _)=>True
 |some (.dK _)=>True
 |some (.dT _)=>True
 |some (.set _ _)=>True
 |some (.ins _ _ _)=>True
 |some (.ext _)=>True
 |some (.lam _)=>True
 |_=>False
section
variable{P:qJ8}{w:World}{H:Hp}{h h':Heap}{x e:Addr}{o':HO}
def HOk.write(ok:HOk P w H h)(mu:Mut (H x))(he:e=x\/H e=some (.own x))(k:∀b u,b≠e->h.get? b=some u->h'.get? b=some u)(heo:∃u,h'.get? e=some u)
  (new:ObjOk P w (upd H x o') h' x o'):HOk P w (upd H x o') h':=fun b u q=>by
 have nown:∀c y,H c=some (.own y)->c≠x:=fun c y r z=>by subst z;rw[r]at mu;exact mu
 have ntup:∀c xs,H c=some (.tup xs)->c≠x:=fun c xs r z=>by subst z;rw[r]at mu;exact mu
 have nfrz:∀c o v,H c=some (.frz o v)->c≠x:=fun c o v r z=>by subst z;rw[r]at mu;exact mu
 by_cases hb:b=x
 ·subst hb;rw[zAA]at q;cases q;exact new
 ·rw[zAD hb]at q
  by_cases hbe:b=e
  ·have q':H b=some (.own x):=by
    rcases he with z|z
    ·exact absurd (hbe.trans z) hb
    ·rw[hbe];exact z
   rw[q]at q';cases q';obtain⟨v,hv⟩:=heo;exact⟨v,by rw[hbe];exact hv⟩
  ·refine(ok b u q).stay (fun c v hc r=>k c v ?_ r) (fun c r=>by rw[zAD (nown c b r)];exact r) (fun c xs r=>by rw[zAD (ntup c xs r)];exact r) fun c o v r _=>by rw[zAD (nfrz c o v r)];exact r
   rcases hc with rfl|hc
   ·exact hbe
   ·rintro rfl
    rcases he with z|z
    ·exact nown c b hc z
    ·rw[hc]at z;cases z;exact hb rfl
end
structure Un(fs ex:List Addr)(H H':Hp)(h h':Heap):Prop where
 keep:∀b o,h.get? b=some o->H b=none->b∉fs->b∉ex->h'.get? b=some o
 slot:∀b o,h.get? b=some o->H b=none->b∈fs->b∉ex->∃sl,h'.get? b=some { o with slots:=sl }
 free:∀b o,h.get? b=some o->H b=none->b∉ex->H' b=none
 there:∀b o,h.get? b=some o->b∉ex->∃o',h'.get? b=some o'
 tups:∀b xs,H b=some (.tup xs)->H' b=some (.tup xs)
 frzs:∀b o u,H b=some (.frz o u)->H' b=some (.frz o u)
 tbls:∀b ps,H b=some (.tbl ps)->∃more,H' b=some (.tbl (ps++more))
section
variable{fs ex:List Addr}{H H1:Hp}{h h1 h':Heap}{a x e:Addr}{o:HO}
def Un.any(u:Un fs ex H H1 h h1){b:Addr}{ob:Obj}(q:h.get? b=some ob)(n:H b=none)(hx:b∉ex):∃sl,h1.get? b=some { ob with slots:=sl }:=by
 by_cases hb:b∈fs
 ·exact u.slot b ob q n hb hx
 ·exact⟨ob.slots,u.keep b ob q n hb hx⟩
def Un.kept(k:∀b u,h.get? b=some u->h'.get? b=some u):Un fs ex H H h h':=
 ⟨fun b ob q _ _ _=>k b ob q,fun b ob q _ _ _=>⟨ob.slots,k b ob q⟩,fun _ _ _ n _=>n,fun b ob q _=>⟨ob,k b ob q⟩,fun _ _ q=>q,fun _ _ _ q=>q,fun _ ps q=>⟨#[],by rw[q];simp⟩⟩
def Un.refl:Un fs ex H H h h:=Un.kept fun _ _ q=>q
def Un.laid(k:∀b u,h.get? b=some u->h'.get? b=some u)(hp:h.objs.size<=a)(hn:H a=none):Un fs ex H (upd H a o) h h' where
 keep:=fun b u q _ _ _=>k b u q
 slot:=fun b u q _ _ _=>⟨u.slots,k b u q⟩
 free:=fun b u q n _=>by rw[zAD (qAl (qAk (qJ6 q) hp))];exact n
 there:=fun b u q _=>⟨u,k b u q⟩
 tups:=fun b xs q=>by rw[zAD (zAK q hn)];exact q
 frzs:=fun b u xs q=>by rw[zAD (zAK q hn)];exact q
 tbls:=fun b ps q=>⟨#[],by rw[zAD (zAK q hn),q];simp⟩
def Un.write(mu:Mut (H x))(he:e=x\/H e=some (.own x))(k:∀b u,b≠e->h.get? b=some u->h'.get? b=some u)(heo:∃u,h'.get? e=some u):Un fs ex H (upd H x o) h h':=by
 have hx:∀b,H b=none->b≠x:=fun b n z=>by subst z;rw[n]at mu;exact mu
 have hb:∀b,H b=none->b≠e:=fun b n z=>by
  subst z;rcases he with r|r
  ·exact hx b n r
  ·rw[n]at r;cases r
 have hm:∀b u,H b=some u->¬Mut (some u)->b≠x:=fun b u q nm z=>by subst z;rw[q]at mu;exact nm mu
 refine⟨fun b u q n _ _=>k b u (hb b n) q,fun b u q n _ _=>⟨u.slots,k b u (hb b n) q⟩,fun b u q n _=>by rw[zAD (hx b n)];exact n,fun b u q _=>?_,
  fun b xs q=>by rw[zAD (hm b _ q fun z=>z)];exact q,fun b u xs q=>by rw[zAD (hm b _ q fun z=>z)];exact q,fun b ps q=>⟨#[],by rw[zAD (hm b _ q fun z=>z),q];simp⟩⟩
 by_cases hbe:b=e
 ·subst hbe;exact heo
 ·exact⟨u,k b u hbe q⟩
end
def trk(h:Heap)(H:Hp):List Addr:=(qA4 h.objs.size).filter fun a=>(H a).isSome
def hidT(h:Heap)(H:Hp):Heap:=PySem.W.hideAll h (trk h H)
def zTS(h:Heap)(H:Hp):(hidT h H).objs.size=h.objs.size:=PySem.W.hideAll_size _ _
def zX4{h:Heap}{H:Hp}{b:Addr}{o:Obj}(e:h.get? b=some o)(n:H b=none):(hidT h H).get? b=some o:=
 PySem.W.hideAll_get _ e fun hm=>by
  have q:(H b).isSome=true:=(qAm.mp hm).2;rw[n]at q;simp at q
def zaE{h:Heap}{H:Hp}{b:Addr}{o:Obj}(e:(hidT h H).get? b=some o):h.get? b=some o/\H b=none:=by
 have e':h.get? b=some o:=PySem.W.of_hideAll (trk h H) e;refine⟨e',?_⟩;cases q:H b with
 |none=>rfl
 |some x=>
  have hm:b∈trk h H:=qAm.mpr ⟨qBf.mpr (qJ6 e'),by simp[q]⟩;have z:(hidT h H).get? b=none:=PySem.W.hideAll_none (trk h H) hm;rw[z]at e;cases e
def zbW(g h:Heap)(L:Addr):List (Addr×Obj):=(qA4 h.objs.size).filterMap fun a=>if a=L\/(g.get? a).isSome=true then none else(h.get? a).map fun o=>(a,o)
def rest(g h:Heap)(L d:Addr):List (Addr×Obj):=(zbW g h L).filter fun p=>decide (p.1≠d)
structure Mod(K:qA2)(mg:Str->Option Value)(base:Heap):Prop where
 kin:K.In base
 glob:base.Ns qJf mg
 blt:∃mb,base.Ns qKz mb/\∀x:Str,x≠"__name__"->mb x=qKj x
 nolimit:base.NoLimit
 bm:∃bm ob,mg "__builtins__" = some (.ref bm)/\bm≠qKz/\base.get? bm=some ob/\ob.cls=.type "module"/\ob.dict=some qKz/\ob.data=.plain
structure Cx where
 prog:qJ8
 w:World
 K:qA2
 mg:Str->Option Value
 base:Heap
 A:qJb
 N:List Str
 s₀:qJ5
 H₀:Hp
 env:Env
 outer:List Env
 stack:List Env
 ex:List Addr
 fn:Str->Bool
 calm:Bool
 pn:List (Addr×Obj)
 xe:Value->qJ5->Prop
def frs(l:List Env):List Addr:=l.filterMap (·.frame)
abbrev Cx.fs(X:Cx):List Addr:=frs X.outer
def Vis(sc:Scope)(x:Str):Prop:=sc.names.lookup x=some .local\/sc.names.lookup x=some .cell\/sc.names.lookup x=some .free
def Loc(sc:Scope)(x:Str):Prop:=sc.names.lookup x=some .local\/sc.names.lookup x=some .cell
def Look(env:Env)(h:Heap)(m:Str->Option Value)(x:Str)(u:Value):Prop:=
 (env.kindOf x=some .local/\m x=some u)\/((env.kindOf x=some .cell\/env.kindOf x=some .free)/\∃c,env.cells.lookup x=some c/\h.IsCell c (some u))
structure Cx.Ok(X:Cx):Prop where
 mod:Mod X.K X.mg X.base
 kind:X.env.scope.kind=.function
 glob:X.env.globals=qJf
 blt:X.env.builtins=qKz
 above:X.s₀.heap.objs.size<=X.env.locals
 inj:∀x y c,X.env.cells.lookup x=some c->X.env.cells.lookup y=some c->x=y
 has:∀x,(X.env.kindOf x=some .cell\/X.env.kindOf x=some .free)->∃c,X.env.cells.lookup x=some c
 cab:∀x c,X.fn x=true->X.env.cells.lookup x=some c->X.s₀.heap.objs.size<=c
 hd:X.calm=true->X.A.handled=none
 frames:X.A.frames=some X.stack
 stk:X.stack=X.outer\/(X.stack=X.env::X.outer/\X.env.frame=some X.env.locals)
 exf:∀b∈X.ex,b≠X.env.locals/\∀x c,X.env.cells.lookup x=some c->c≠b
 bs:∀b o,X.base.get? b=some o->X.s₀.heap.get? b=some o/\X.H₀ b=none
 bsz:X.base.objs.size<=X.s₀.heap.objs.size
 noex:∀b o,X.base.get? b=some o->b∉X.ex
 exfs:∀b∈X.ex,b∉X.fs
 funs:X.s₀.heap.FunFrames X.base X.outer
 frf:∀b∈X.fs,X.H₀ b=none
structure Inv(X:Cx)(pins:List (Addr×Obj))(σ:List (Option V))(H:Hp)(s:qJ5):Prop where
 ok:X.Ok
 os:s.os=X.s₀.os
 bare:qLe s.gens
 base:Un X.fs X.ex X.H₀ H X.s₀.heap s.heap
 loc:∃m,s.heap.Ns X.env.locals m/\∀(i:Nat)(x:Str)(v:V),X.N[i]?=some x->σ[i]?=some (some v)->Vis X.env.scope x->∃u,RelV v u/\Look X.env s.heap m x u
 cell:∀x c,X.env.cells.lookup x=some c->∃v,s.heap.IsCell c v
 free:H X.env.locals=none
 freeC:∀x c,X.env.cells.lookup x=some c->H c=none
 pin:∀p∈X.pn++pins,s.heap.get? p.1=some p.2/\H p.1=none/\p.1≠X.env.locals/\p.1∉X.fs/\∀v,p.2.data≠.cell v
 hok:HOk X.prog X.w H s.heap
 len:σ.length=X.N.length
section
variable{X:Cx}{pins:List (Addr×Obj)}{σ:List (Option V)}{H H':Hp}{s:qJ5}{h':Heap}
def Cx.Ok.nofr(ok:X.Ok){b:Addr}{o:Obj}(e:X.base.get? b=some o):b∉X.fs:=fun hb=>by
 have:=(ok.funs.mem hb).1;rw[e]at this;cases this
def Inv.bs(I:Inv X pins σ H s):∀b o,X.base.get? b=some o->s.heap.get? b=some o/\H b=none:=fun b o e=>
 ⟨I.base.keep b o (I.ok.bs b o e).1 (I.ok.bs b o e).2 (I.ok.nofr e) (I.ok.noex b o e),I.base.free b o (I.ok.bs b o e).1 (I.ok.bs b o e).2 (I.ok.noex b o e)⟩
def Inv.bk(I:Inv X pins σ H s):∀b o,X.base.get? b=some o->s.heap.get? b=some o:=fun b o e=>(I.bs b o e).1
def Inv.mod(I:Inv X pins σ H s):Mod X.K X.mg X.base:=I.ok.mod
def Inv.kIn(I:Inv X pins σ H s):X.K.In s.heap:=I.ok.mod.kin.keeps I.bk
def Inv.fr(I:Inv X pins σ H s):∃m,Fr X.base X.env.locals s.heap m:=
 let⟨m,hn,_⟩:=I.loc
 ⟨m,hn,I.bk,qAq I.ok.bsz I.ok.above⟩
def Inv.lt(I:Inv X pins σ H s):X.env.locals<s.heap.objs.size:=let⟨_,hn,_⟩:=I.loc;hn.lt
def Inv.sz(I:Inv X pins σ H s):X.s₀.heap.objs.size<=s.heap.objs.size:=qAq I.ok.above (qD3 I.lt)
def Inv.nofs(I:Inv X pins σ H s){a:Addr}(h:s.heap.objs.size<=a):a∉X.fs:=fun hb=>by
 obtain⟨_,o,ho,_⟩:=I.ok.funs.mem hb;exact absurd (qAk (qJ6 ho) (qAq I.sz h)) (qCj _)
def Inv.cne(I:Inv X pins σ H s):∀x c,X.env.cells.lookup x=some c->c≠X.env.locals:=fun x c e z=>by
 obtain⟨v,o,ho,hd⟩:=I.cell x c e;obtain⟨m,⟨o',es,ep,ho',hd',_⟩,_⟩:=I.loc;rw[z,ho']at ho;cases ho;rw[hd']at hd;cases hd
def Inv.funs(I:Inv X pins σ H s):s.heap.FunFrames X.base X.outer:=by
 have all:∀(l:List Env),(∀b∈frs l,b∈X.fs)->X.s₀.heap.FunFrames X.base l->s.heap.FunFrames X.base l:=by
  intro l;induction l with
  |nil=>intro _ _;trivial
  |cons env r ih=>
   intro hs hl;obtain⟨hk,⟨L,o,hf,hn,ho,hd⟩,hr⟩:=hl;have hL:L∈X.fs:=hs L (by unfold frs;rw[qEk,hf];exact qB4);obtain⟨sl,e⟩:=I.base.slot L o ho (I.ok.frf L hL) hL fun z=>I.ok.exfs L z hL
   exact⟨hk,⟨L,_,hf,hn,e,hd⟩,ih (fun b hb=>hs b (by unfold frs;rw[qEk,hf];exact qAz _ hb)) hr⟩
 exact all X.outer (fun _ hb=>hb) I.ok.funs
def Inv.stack(I:Inv X pins σ H s):s.heap.FunFrames X.base X.stack:=by
 rcases I.ok.stk with e|⟨e,hf⟩
 ·rw[e];exact I.funs
 ·rw[e];obtain⟨m,hn,_⟩:=I.loc;refine .cons (by rw[I.ok.kind];decide) hf hn ?_ I.funs;exact qJp (qAq I.ok.bsz I.ok.above)
def Inv.stkSub(I:Inv X pins σ H s):∀b∈frs X.stack,b∈X.env.locals::X.fs:=fun b hb=>by
 rcases I.ok.stk with e|⟨e,hf⟩
 ·rw[e]at hb;exact qAz _ hb
 ·rw[e]at hb;unfold frs at hb;rw[qEk,hf]at hb;exact hb
def Inv.stkFree(I:Inv X pins σ H s):∀b∈frs X.stack,H b=none:=fun b hb=>by
 rcases qAc.mp (I.stkSub b hb)with e|hb
 ·rw[e];exact I.free
 ·obtain⟨_,o,ho,_⟩:=I.ok.funs.mem hb;exact I.base.free b o ho (I.ok.frf b hb) fun z=>I.ok.exfs b z hb
def Inv.step{g':Array qKt}{t':Nat}{d':Drawn}{ch:List Addr}(I:Inv X pins σ H s)
  (hch:∀b∈ch,(b∈X.ex\/X.s₀.heap.objs.size<=b)/\b≠X.env.locals/\(∀x c,X.env.cells.lookup x=some c->c≠b)/\∀p∈X.pn++pins,p.1≠b)
  (keep:∀b o,b≠X.env.locals->b∉X.fs->b∉ch->s.heap.get? b=some o->H b=none->h'.get? b=some o)
  (slot:∀b o,b≠X.env.locals->b∈X.fs->b∉ch->s.heap.get? b=some o->H b=none->∃sl,h'.get? b=some { o with slots:=sl }) (free:∀b o,b∉ch->s.heap.get? b=some o->H b=none->H' b=none)
  (there:∀b o,b∉ch->s.heap.get? b=some o->∃o',h'.get? b=some o')
  (tups:∀b xs,H b=some (.tup xs)->H' b=some (.tup xs)) (frzs:∀b o u,H b=some (.frz o u)->H' b=some (.frz o u)) (tbls:∀b ps,H b=some (.tbl ps)->∃more,H' b=some (.tbl (ps++more)))
  (ns:∀m,s.heap.Ns X.env.locals m->h'.Ns X.env.locals m) (hok:HOk X.prog X.w H' h') (hg:qLe g') :
  Inv X pins σ H' { s with heap:=h',gens:=g',drawn:=d',toks:=t' }:=by
 have neL:∀b o,X.s₀.heap.get? b=some o->b≠X.env.locals:=fun b o e=>qAl (qAk (qJ6 e) I.ok.above)
 have neC:∀b o,X.s₀.heap.get? b=some o->b∉X.ex->b∉ch:=fun b o e hx hb=>by
  rcases(hch b hb).1 with z|z
  ·exact hx z
  ·exact absurd (qAk (qJ6 e) z) (qCj _)
 have cellK:∀x c,X.env.cells.lookup x=some c->∀v,s.heap.IsCell c v->h'.IsCell c v:=fun x c e v ⟨o,ho,hd⟩=>by
  have nch:c∉ch:=fun z=>(hch c z).2.2.1 x c e rfl
  by_cases hc:c∈X.fs
  ·obtain⟨sl,q⟩:=slot c o (I.cne x c e) hc nch ho (I.freeC x c e);exact⟨_,q,hd⟩
  ·exact⟨o,keep c o (I.cne x c e) hc nch ho (I.freeC x c e),hd⟩
 refine⟨I.ok,I.os,hg,⟨fun b o e n hb hx=>?_,fun b o e n hb hx=>?_,fun b o e n hx=>?_,fun b o e hx=>?_,fun b xs e=>tups b xs (I.base.tups b xs e),fun b o xs e=>frzs b o xs (I.base.frzs b o xs e),fun b ps e=>?_⟩,?_,fun x c e=>?_,?_,fun x c e=>?_,fun p hp=>?_,hok,I.len⟩
 ·exact keep b o (neL b o e) hb (neC b o e hx) (I.base.keep b o e n hb hx) (I.base.free b o e n hx)
 ·obtain⟨sl,e1⟩:=I.base.slot b o e n hb hx;obtain⟨sl',e2⟩:=slot b _ (neL b o e) hb (neC b o e hx) e1 (I.base.free b o e n hx);exact⟨sl',e2⟩
 ·obtain⟨o',e1⟩:=I.base.there b o e hx;exact free b o' (neC b o e hx) e1 (I.base.free b o e n hx)
 ·obtain⟨o',e1⟩:=I.base.there b o e hx;exact there b o' (neC b o e hx) e1
 ·obtain⟨m1,e1⟩:=I.base.tbls b ps e;obtain⟨m2,e2⟩:=tbls b _ e1;exact⟨m1++m2,by rw[e2,Array.append_assoc]⟩
 ·obtain⟨m,hn,hl⟩:=I.loc;refine⟨m,ns m hn,fun i x v e1 e2 e3=>?_⟩;obtain⟨u,r,l⟩:=hl i x v e1 e2 e3;refine⟨u,r,?_⟩
  rcases l with l|⟨k,c,e,z⟩
  ·exact .inl l
  ·exact .inr ⟨k,c,e,cellK x c e _ z⟩
 ·obtain⟨v,z⟩:=I.cell x c e;exact⟨v,cellK x c e v z⟩
 ·obtain⟨m,⟨o,_,_,ho,_⟩,_⟩:=I.loc;exact free _ o (fun z=>(hch _ z).2.1 rfl) ho I.free
 ·obtain⟨v,o,ho,hd⟩:=I.cell x c e;exact free c o (fun z=>(hch c z).2.2.1 x c e rfl) ho (I.freeC x c e)
 ·obtain⟨e,n,ne,nf,d⟩:=I.pin p hp;have nch:p.1∉ch:=fun z=>(hch p.1 z).2.2.2 p hp rfl
  exact⟨keep p.1 p.2 ne nf nch e n,free p.1 p.2 nch e n,ne,nf,d⟩
def Inv.un{t':Nat}(I:Inv X pins σ H s)(u:Un X.fs [] H H' s.heap h')(hok:HOk X.prog X.w H' h'):Inv X pins σ H' { s with heap:=h',toks:=t' }:=by
 obtain⟨m,⟨o,es,ep,ho,r⟩,_⟩:=id I.loc;obtain⟨sl,hL⟩:=u.any ho I.free (by simp);exact I.step (g':=s.gens) (d':=s.drawn) (ch:=[]) (fun _ z=>nomatch z) (fun b o _ hb _ e n=>u.keep b o e n hb (by simp)) (fun b o _ hb _ e n=>u.slot b o e n hb (by simp)) (fun b o _ e n=>u.free b o e n (by simp)) (fun b o _ e=>u.there b o e (by simp)) u.tups u.frzs u.tbls (fun m' hm=>by
  obtain⟨o',es',ep',ho',r'⟩:=hm;rw[ho]at ho';cases ho';exact⟨_,es',ep',hL,r'⟩) hok I.bare
def Inv.call{g':Array qKt}{t':Nat}{d':Drawn}{ch:List Addr}(I:Inv X pins σ H s)(u:Un (frs X.stack) ch H H' s.heap h')(hok:HOk X.prog X.w H' h')(hg:qLe g')
  (hch:∀b∈ch,(b∈X.ex\/X.s₀.heap.objs.size<=b)/\b≠X.env.locals/\(∀x c,X.env.cells.lookup x=some c->c≠b)/\∀p∈X.pn++pins,p.1≠b) :
  Inv X pins σ H' { s with heap:=h',gens:=g',drawn:=d',toks:=t' }:=by
 obtain⟨m,⟨o,es,ep,ho,r⟩,_⟩:=id I.loc;obtain⟨sl,hL⟩:=u.any ho I.free fun z=>(hch _ z).2.1 rfl
 exact I.step (ch:=ch) hch (fun b o hL hb hc e n=>u.keep b o e n (fun z=>(qAc.mp (I.stkSub b z)).elim hL hb) hc) (fun b o _ _ hc e n=>u.any e n hc) (fun b o hc e n=>u.free b o e n hc) (fun b o hc e=>u.there b o e hc) u.tups u.frzs u.tbls (fun m' hm=>by
  obtain⟨o',es',ep',ho',r'⟩:=hm;rw[ho]at ho';cases ho';exact⟨_,es',ep',hL,r'⟩) hok hg
def Inv.turned{t':Nat}{it:Addr}(I:Inv X pins σ H s)(k:∀b o,b≠it->s.heap.get? b=some o->h'.get? b=some o)(hn:H it=none)(hL:it≠X.env.locals)
  (h1:it∈X.ex\/X.s₀.heap.objs.size<=it) (h2:∀x c,X.env.cells.lookup x=some c->c≠it) (h3:∀p∈X.pn++pins,p.1≠it):Inv X pins σ H { s with heap:=h',toks:=t' }:=by
 have nit:∀b u,H b=some u->b≠it:=fun b u e z=>by rw[z,hn]at e;cases e
 refine I.step (g':=s.gens) (d':=s.drawn) (ch:=[it]) (fun b hb=>?_) (fun b o _ _ hc e _=>k b o (fun z=>hc (by simp[z])) e) (fun b o _ _ hc e _=>⟨o.slots,k b o (fun z=>hc (by simp[z])) e⟩) (fun _ _ _ _ n=>n)
  (fun b o hc e=>⟨o,k b o (fun z=>hc (by simp[z])) e⟩) (fun _ _ e=>e) (fun _ _ _ e=>e) (fun b ps e=>⟨#[],by rw[e];simp⟩) (fun m hm=>?_) (fun b u e=>?_) I.bare
 ·have e:b=it:=by simpa using hb
  subst e;exact⟨h1,hL,h2,h3⟩
 ·obtain⟨o,es,ep,ho,r⟩:=hm;exact⟨o,es,ep,k _ o (qCv hL) ho,r⟩
 ·refine(I.hok b u e).stay (fun c v hc q=>k c v ?_ q) (fun _ q=>q) (fun _ _ q=>q) fun _ _ _ q _=>q
  rcases hc with z|z
  ·rw[z];exact nit b u e
  ·exact nit c _ z
def Inv.tok(I:Inv X pins σ H s)(t:Nat):Inv X pins σ H { s with toks:=t }:=I.un (h':=s.heap) (t':=t) Un.refl I.hok
def Inv.kept{t':Nat}(I:Inv X pins σ H s)(k:∀b u,s.heap.get? b=some u->h'.get? b=some u):Inv X pins σ H { s with heap:=h',toks:=t' }:=I.un (Un.kept k) (I.hok.kept k)
def Inv.laid{a:Addr}{o:HO}{t':Nat}(I:Inv X pins σ H s)(k:∀b u,s.heap.get? b=some u->h'.get? b=some u)(hp:s.heap.objs.size<=a)(new:ObjOk X.prog X.w (upd H a o) h' a o) :
  Inv X pins σ (upd H a o) { s with heap:=h',toks:=t' }:=I.un (Un.laid k hp (I.hok.fresh hp)) (I.hok.laid k hp new)
def Inv.write{x e:Addr}{o:HO}{t':Nat}(I:Inv X pins σ H s)(mu:Mut (H x))(he:e=x\/H e=some (.own x))(k:∀b u,b≠e->s.heap.get? b=some u->h'.get? b=some u)(heo:∃u,h'.get? e=some u)
  (new:ObjOk X.prog X.w (upd H x o) h' x o):Inv X pins σ (upd H x o) { s with heap:=h',toks:=t' }:=I.un (Un.write mu he k heo) (I.hok.write mu he k heo new)
def Inv.weak{σ':List (Option V)}(I:Inv X pins σ H s)(hl:σ'.length=σ.length)(w:∀(i:Nat) v,σ'[i]?=some (some v)->σ[i]?=some (some v)):Inv X pins σ' H s:=
 ⟨I.ok,I.os,I.bare,I.base,let⟨m,hn,hl'⟩:=I.loc;⟨m,hn,fun i x v e1 e2 e3=>hl' i x v e1 (w i v e2) e3⟩,I.cell,I.free,I.freeC,I.pin,I.hok,hl.trans I.len⟩
def Inv.pins_of{pins':List (Addr×Obj)}(I:Inv X pins σ H s)(h:∀p∈pins',s.heap.get? p.1=some p.2/\H p.1=none/\p.1≠X.env.locals/\p.1∉X.fs/\∀v,p.2.data≠.cell v):Inv X pins' σ H s:=
 ⟨I.ok,I.os,I.bare,I.base,I.loc,I.cell,I.free,I.freeC,fun p hp=>(qAr.mp hp).elim (fun z=>I.pin p (qB6 _ z)) (h p),I.hok,I.len⟩
def zPF{N:List Str}(hN:N.Nodup){i j:Nat}{x:Str}(a:N[i]?=some x)(b:N[j]?=some x):i=j:=by
 obtain⟨h1,e1⟩:=qA5.mp a;obtain⟨h2,e2⟩:=qA5.mp b;exact(List.getElem_inj hN).mp (e1.trans e2.symm)
def zLO{M:Model}{A:qJb}{E:Value->qJ5->Prop}{i:Nat}{x:Str}{v:V}{u:Value}{Q:Unit->qJ5->Prop}(I:Inv X pins σ H s)(hN:X.N.Nodup)(hi:X.N[i]?=some x)(hx:Loc X.env.scope x)(r:RelV v u)
  (h:∀s',Inv X pins (σ.set i (some v)) H s'->(∃a,qKw a s.heap s'.heap/\(a=X.env.locals\/X.env.cells.lookup x=some a))->Q () s') (hf:X.fn x=true\/X.env.scope.names.lookup x=some .local:=by first|exact .inl rfl|exact .inr rfl|assumption):wpAny M A (storeName X.env x u) Q E s:=by
 obtain⟨m,hn,hl⟩:=id I.loc;have hcls:(X.env.scope.kind==.class||(X.env.scope.kind==.module&&X.env.locals != X.env.globals))=false:=by rw[I.ok.kind];rfl
 have hiσ:i<σ.length:=by rw[I.len];exact(qA5.mp hi).1
 have cne:=I.cne;have tracked:∀{a:Addr}{h':Heap},(∃o,s.heap.get? a=some o/\H a=none)->qKw a s.heap h'->HOk X.prog X.w H h':=fun{a h'} ha hs b ob e=>by
  obtain⟨_,_,hfree⟩:=ha;refine(I.hok b ob e).stay (fun c w' hc q=>(hs.2 c ?_).trans q) (fun _ q=>q) (fun _ _ q=>q) fun _ _ _ q _=>q
  rintro rfl
  rcases hc with rfl|hc
  ·rw[hfree]at e;cases e
  ·rw[hfree]at hc;cases hc
 rcases hx with hk|hk
 ·refine wpAny_storeName_local hk hn (fun h' hn' hs=>?_) hcls;obtain⟨oL,_,_,hoL,_⟩:=id hn;refine h _ ⟨I.ok,I.os,I.bare,⟨fun b o e n hb hx=>?_,fun b o e n hb hx=>?_,I.base.free,fun b o e hx=>?_,I.base.tups,I.base.frzs,I.base.tbls⟩,⟨_,hn',fun j y v' e1 e2 e3=>?_⟩,fun y c e=>?_,I.free,I.freeC,fun p hp=>?_,tracked ⟨oL,hoL,I.free⟩ hs,by simpa using I.len⟩ ⟨_,hs,.inl rfl⟩
  ·exact(hs.2 b (qAl (qAk (qJ6 e) I.ok.above))).trans (I.base.keep b o e n hb hx)
  ·obtain⟨sl,e1⟩:=I.base.slot b o e n hb hx;exact⟨sl,(hs.2 b (qAl (qAk (qJ6 e) I.ok.above))).trans e1⟩
  ·obtain⟨o',e1⟩:=I.base.there b o e hx;exact⟨o',(hs.2 b (qAl (qAk (qJ6 e) I.ok.above))).trans e1⟩
  ·by_cases hj:j=i
   ·subst hj;rw[hi]at e1;cases e1;rw[qAt hiσ]at e2;cases e2;exact⟨u,r,.inl ⟨hk,by simp⟩⟩
   ·rw[qB0 (qCv hj)]at e2;obtain⟨u',r',q⟩:=hl j y v' e1 e2 e3;refine⟨u',r',?_⟩
    rcases q with⟨k,e⟩|⟨k,c,e,z⟩
    ·refine .inl ⟨k,?_⟩
     have:y≠x:=fun e=>hj (zPF hN e1 (e▸hi))
     simp[this,e]
    ·exact .inr ⟨k,c,e,z.sameBut hs (cne y c e)⟩
  ·obtain⟨w',z⟩:=I.cell y c e;exact⟨w',z.sameBut hs (cne y c e)⟩
  ·obtain⟨e,n,ne,nf,d⟩:=I.pin p hp;exact⟨(hs.2 p.1 ne).trans e,n,ne,nf,d⟩
 ·have hfn:X.fn x=true:=by
   rcases hf with z|z
   ·exact z
   ·rw[z]at hk;cases hk
  obtain⟨c,hc⟩:=I.ok.has x (.inl hk);obtain⟨w',z⟩:=I.cell x c hc;refine wpAny_storeName_cell I.ok.kind hk hc z (fun h' hc' hs=>?_);obtain⟨oc,hoc,hocd⟩:=id z;refine h { s with heap:=h' } ⟨I.ok,I.os,I.bare,⟨fun b o e n hb hx=>?_,fun b o e n hb hx=>?_,I.base.free,fun b o e hx=>?_,I.base.tups,I.base.frzs,I.base.tbls⟩,⟨m,hn.sameBut hs (qCv (cne x c hc)),fun j y v' e1 e2 e3=>?_⟩,fun y c' e=>?_,I.free,I.freeC,fun p hp=>?_,tracked ⟨oc,hoc,I.freeC x c hc⟩ hs,by simpa using I.len⟩ ⟨c,hs,.inr hc⟩
  ·exact(hs.2 b (qAl (qAk (qJ6 e) (I.ok.cab x c hfn hc)))).trans (I.base.keep b o e n hb hx)
  ·obtain⟨sl,e1⟩:=I.base.slot b o e n hb hx;exact⟨sl,(hs.2 b (qAl (qAk (qJ6 e) (I.ok.cab x c hfn hc)))).trans e1⟩
  ·obtain⟨o',e1⟩:=I.base.there b o e hx;exact⟨o',(hs.2 b (qAl (qAk (qJ6 e) (I.ok.cab x c hfn hc)))).trans e1⟩
  ·by_cases hj:j=i
   ·subst hj;rw[hi]at e1;cases e1;rw[qAt hiσ]at e2;cases e2;exact⟨u,r,.inr ⟨.inl hk,c,hc,hc'⟩⟩
   ·rw[qB0 (qCv hj)]at e2;obtain⟨u',r',q⟩:=hl j y v' e1 e2 e3;refine⟨u',r',?_⟩
    rcases q with q|⟨k,c',e,z'⟩
    ·exact .inl q
    ·refine .inr ⟨k,c',e,z'.sameBut hs ?_⟩
     rintro rfl
     exact hj (zPF hN e1 (I.ok.inj _ _ _ e hc▸hi))
  ·by_cases hcc:c'=c
   ·subst hcc;exact⟨_,hc'⟩
   ·obtain⟨w2,z2⟩:=I.cell y c' e;exact⟨w2,z2.sameBut hs hcc⟩
  ·obtain⟨e,n,ne,nf,d⟩:=I.pin p hp;refine⟨(hs.2 p.1 ?_).trans e,n,ne,nf,d⟩;intro q;rw[q,hoc]at e;have q':oc=p.2:=qBc e;exact d w' (by rw[<- q'];exact hocd)
def zOY{M:Model}{A:qJb}{E:Value->qJ5->Prop}{i:Nat}{x:Str}{v:V}{u:Value}{Q:Unit->qJ5->Prop}(I:Inv X pins σ H s)(hN:X.N.Nodup)(hi:X.N[i]?=some x)(hx:Loc X.env.scope x)(r:RelV v u)
  (h:∀s',Inv X pins (σ.set i (some v)) H s'->Q () s') (hf:X.fn x=true\/X.env.scope.names.lookup x=some .local:=by first|exact .inl rfl|exact .inr rfl|assumption):wpAny M A (storeName X.env x u) Q E s:=
 zLO I hN hi hx r (fun s' I' _=>h s' I') hf
def Inv.call'{s':qJ5}{ch:List Addr}(I:Inv X pins σ H s)(ho:s'.os=s.os)(u:Un (frs X.stack) ch H H' s.heap s'.heap)(hok:HOk X.prog X.w H' s'.heap)(hg:qLe s'.gens)
  (hch:∀b∈ch,(b∈X.ex\/X.s₀.heap.objs.size<=b)/\b≠X.env.locals/\(∀x c,X.env.cells.lookup x=some c->c≠b)/\∀p∈X.pn++pins,p.1≠b):Inv X pins σ H' s':=by
 obtain⟨h',g',d',t',o'⟩:=s';have e:o'=s.os:=ho;subst e;exact I.call (g':=g') (t':=t') (d':=d') u hok hg hch
end
abbrev XK:=Value->Option Addr->Hp->Prop
abbrev St:=List (Option V)
abbrev VK:=V->Hp->Prop
abbrev TE:=St->Hp->VK->Prop
abbrev TT:=St->Hp->(Bool->Hp->Prop)->Prop
abbrev TA:=St->Hp->(List V->Hp->Prop)->Prop
structure Ends where
 nx:St->Hp->Prop
 rt:VK
 bk:St->Hp->Prop:=fun _ _=>False
 ct:St->Hp->Prop:=fun _ _=>False
abbrev TS:=Ends->St->Hp->Prop
def EP(X:Cx)(pins:List (Addr×Obj))(σ:St)(Q:VK)(u:Value)(s':qJ5):Prop:=∃v H',Inv X pins σ H' s'/\RelV v u/\Q v H'
def TP(X:Cx)(pins:List (Addr×Obj))(σ:St)(Q:Bool->Hp->Prop)(b:Bool)(s':qJ5):Prop:=∃H',Inv X pins σ H' s'/\Q b H'
def AP(X:Cx)(pins:List (Addr×Obj))(σ:St)(Q:List V->Hp->Prop)(us:List Value)(s':qJ5):Prop:=∃vs H',Inv X pins σ H' s'/\Vals vs us/\Q vs H'
def SP(X:Cx)(pins:List (Addr×Obj))(D:Ends)(f:Flow)(s':qJ5):Prop:=
 match f with
 |.next=>∃σ' H',Inv X pins σ' H' s'/\D.nx σ' H'
 |.brk=>∃σ' H',Inv X pins σ' H' s'/\D.bk σ' H'
 |.cont=>∃σ' H',Inv X pins σ' H' s'/\D.ct σ' H'
 |.ret u=>∃v σ' H',Inv X pins σ' H' s'/\RelV v u/\D.rt v H'
def PE(X:Cx)(e:Expr)(t:TE):Prop:=
 ∀(pins:List (Addr×Obj))(s:qJ5)(σ:St)(H:Hp)(Q:VK),Inv X pins σ H s->t σ H Q->wpAny (model X.prog X.w) X.A (eval e X.env) (EP X pins σ Q) X.xe s
def PT(X:Cx)(e:Expr)(t:TT):Prop:=
 ∀(pins:List (Addr×Obj))(s:qJ5)(σ:St)(H:Hp)(Q:Bool->Hp->Prop),Inv X pins σ H s->t σ H Q->wpAny (model X.prog X.w) X.A (isTrue e X.env (eval e X.env)) (TP X pins σ Q) X.xe s
def PW(X:Cx)(e:Expr)(t:TT):Prop:=
 ∀(whole:Sem Value)(pins:List (Addr×Obj))(s:qJ5)(σ:St)(H:Hp)(Q:Bool->Hp->Prop),Inv X pins σ H s->t σ H Q->wpAny (model X.prog X.w) X.A (isTrue e X.env whole) (TP X pins σ Q) X.xe s
def PW.pt{X:Cx}{e:Expr}{t:TT}(h:PW X e t):PT X e t:=h _
def PA(X:Cx)(es:List Expr)(t:TA):Prop:=
 ∀(pos:Pos)(pins:List (Addr×Obj))(s:qJ5)(σ:St)(H:Hp)(Q:List V->Hp->Prop),Inv X pins σ H s->t σ H Q->wpAny (model X.prog X.w) X.A (spliced (backTo pos (starEach es X.env))) (AP X pins σ Q) X.xe s
def PS(X:Cx)(st:Stmt)(t:TS):Prop:=
 ∀(pins:List (Addr×Obj))(s:qJ5)(σ:St)(H:Hp)(D:Ends),Inv X pins σ H s->t D σ H->wpAny (model X.prog X.w) X.A (exec st X.env) (SP X pins D) X.xe s
def PSs(X:Cx)(st:List Stmt)(t:TS):Prop:=
 ∀(pins:List (Addr×Obj))(s:qJ5)(σ:St)(H:Hp)(D:Ends),Inv X pins σ H s->t D σ H->wpAny (model X.prog X.w) X.A (execs st X.env) (SP X pins D) X.xe s
def thn{α:Type}{t:Sem α}{Q Q':α->qJ5->Prop}{M:Model}{A:qJb}{E:Value->qJ5->Prop}{s:qJ5}(h:wpAny M A t Q E s)(hQ:∀a s,Q a s->Q' a s):wpAny M A t Q' E s:=wpAny_mono h hQ fun _ _ x=>x
section
variable{X:Cx}
def tVar(i:Nat):TE:=fun σ H Q=>∃v,σ[i]?=some (some v)/\Q v H
def tC(v:V):TE:=fun _ H Q=>Q v H
def zYF{i:Nat}{x:Str}{pos:Pos}(hN:X.N[i]?=some x)(hv:Vis X.env.scope x)(hd:(x==("__debug__":Str))=false:=by decide)(hcd:(x==("__classdict__":Str))=false:=by decide):PE X (.Name x pos) (tVar i):=by
 intro pins s σ H Q I h;obtain⟨v,e,h⟩:=h;obtain⟨m,hn,hl⟩:=I.loc;obtain⟨u,r,l⟩:=hl i x v hN e hv;have fin:EP X pins σ Q u s:=⟨v,H,I,r,h⟩;rcases l with⟨hk,hm⟩|⟨hk,c,hc,hcell⟩
 ·exact qMz (wpAny_loadName_local I.ok.kind hk hn hm fin) hd
 ·rcases hk with hk|hk
  ·exact qMz (wpAny_loadName_cell I.ok.kind hk hc hcell fin) hd
  ·exact qMz (wpAny_loadName_free I.ok.kind hk hc hcell fin hcd) hd
def zAH{i j pos}:PE X (.Constant (.int i) j pos) (tC (.int i)):=fun _ _ _ H _ I h=>wpAny_Constant_int ⟨.int i,H,I.tok _,⟨_,rfl⟩,h⟩
def zSG{b j pos}:PE X (.Constant (.bool b) j pos) (tC (.bl b)):=fun _ _ _ H _ I h=>Constant_bool ⟨.bl b,H,I,rfl,h⟩
def zJF{x j pos}:PE X (.Constant (.str x) j pos) (tC (.str x)):=fun _ _ _ H _ I h=>Calls.Constant_str ⟨.str x,H,I.tok _,⟨_,rfl⟩,h⟩
def Gl(X:Cx)(x:Str):Prop:=X.env.kindOf x=some .globalImplicit
def zI1{E:Value->qJ5->Prop}{pins:List (Addr×Obj)}{s:qJ5}{σ:St}{H:Hp}{x:Str}{u:Value}{pos:Pos}{Q:Value->qJ5->Prop}(I:Inv X pins σ H s)(hg:Gl X x)(hm:X.mg x=some u)(h:Q u s)
  (hd:(x==("__debug__":Str))=false:=by decide):wpAny (model X.prog X.w) X.A (eval (.Name x pos) X.env) Q E s:=
 qL6 I.ok.kind hg (Calls.loadGlobal_global (by rw[I.ok.glob];exact I.mod.glob.keeps I.bk) hm h) hd
def zI2{E:Value->qJ5->Prop}{pins:List (Addr×Obj)}{s:qJ5}{σ:St}{H:Hp}{x:Str}{u:Value}{pos:Pos}{Q:Value->qJ5->Prop}(I:Inv X pins σ H s)(hg:Gl X x)(hm:X.mg x=none)(hv:qKj x=some u)(h:Q u s)
  (hn:x≠"__name__":=by decide) (hd:(x==("__debug__":Str))=false:=by decide):wpAny (model X.prog X.w) X.A (eval (.Name x pos) X.env) Q E s:=by
 obtain⟨mb,h1,h2⟩:=I.mod.blt;exact qL6 I.ok.kind hg (Calls.loadGlobal_builtin (by rw[I.ok.glob];exact I.mod.glob.keeps I.bk) hm (by rw[I.ok.blt];exact h1.keeps I.bk) ((h2 x hn).trans hv) h) hd
def zG2{x:Str}{v:V}{u:Value}{pos:Pos}(hg:Gl X x)(hm:X.mg x=some u)(r:RelV v u)(hd:(x==("__debug__":Str))=false:=by decide):PE X (.Name x pos) (tC v):=
 fun _ _ _ H _ I h=>zI1 I hg hm ⟨v,H,I,r,h⟩ hd
def zNY{x:Str}{v:V}{u:Value}{pos:Pos}(hg:Gl X x)(hm:X.mg x=none)(hv:qKj x=some u)(r:RelV v u)(hn:x≠"__name__":=by decide)(hd:(x==("__debug__":Str))=false:=by decide):PE X (.Name x pos) (tC v):=
 fun _ _ _ H _ I h=>zI2 I hg hm hv ⟨v,H,I,r,h⟩ hn hd
variable{a b:Expr}{ta tb:TE}{pos:Pos}
def PC(X:Cx)(op:CmpOp)(a b:Expr)(t:TE):Prop:=
 ∀(pins:List (Addr×Obj))(s:qJ5)(σ:St)(H:Hp)(Q:VK),Inv X pins σ H s->t σ H Q ->
  wpAny (model X.prog X.w) X.A (eval a X.env) (fun v s₁=>wpAny (model X.prog X.w) X.A (eval b X.env) (fun u s₂=>wpAny (model X.prog X.w) X.A (compareOp op v u) (EP X pins σ Q) X.xe s₂) X.xe s₁) X.xe s
def zWI(b:Expr){op:CmpOp}(h:op≠.In)(h2:op≠.NotIn):qKa op b=false:=by
 have e1:(op==CmpOp.In)=false:=by cases op<;>first|rfl|exact absurd rfl h
 have e2:(op==qNh)=false:=by cases op<;>first|rfl|exact absurd rfl h2
 cases b<;>simp[qKa,e1,e2]
def tB(t:TE):TT:=fun σ H Q=>t σ H fun x H1=>∃c,x=.bl c/\Q c H1
def zdF{op:CmpOp}{t:TE}(h:PC X op a b t)(h1:qKa op b=false:=by first|exact zWI _ (by decide) (by decide)|rfl):PT X (.Compare a [op] [b] pos) (tB t):=by
 intro pins s σ H Q I hw;refine qLl (thn (h pins s σ H _ I hw) fun v s1 h1=>thn h1 fun u s2 h2=>thn h2 fun c s3 z0=>?_) h1;obtain⟨x,H1,I1,r1,q1⟩:=z0;obtain⟨d,rfl,q⟩:=q1;cases r1;exact wpAny_truthy_bool ⟨H1,I1,q⟩
variable{tA tB':TT}{rest:List Expr}
def tAnd(t u:TT):TT:=fun σ H Q=>t σ H fun c H1=>if c=true then u σ H1 Q else Q false H1
def tOr(t u:TT):TT:=fun σ H Q=>t σ H fun c H1=>if c=true then Q true H1 else u σ H1 Q
def tNot(t:TT):TT:=fun σ H Q=>t σ H fun c H1=>Q (!c) H1
def za3(ha:PT X a tA):PW X (.BoolOp .And [a] pos) tA:=by
 intro wh pins s σ H Q I h;refine isTrue_and (thn (ha pins s σ H Q I h) fun c s1 e=>?_);cases c with
 |true=>exact isTrue_and_nil e
 |false=>exact e
def zYB(ha:PT X a tA):PW X (.BoolOp .Or [a] pos) tA:=by
 intro wh pins s σ H Q I h;refine isTrue_or (thn (ha pins s σ H Q I h) fun c s1 e=>?_);cases c with
 |false=>exact isTrue_or_nil e
 |true=>exact e
def zdD(ha:PT X a tA)(hb:PW X (.BoolOp .And (b::rest) pos) tB'):PW X (.BoolOp .And (a::b::rest) pos) (tAnd tA tB'):=by
 intro wh pins s σ H Q I h;refine isTrue_and (thn (ha pins s σ H _ I h) fun c s1 z0=>?_);obtain⟨H1,I1,q1⟩:=z0;cases c with
 |true=>exact hb wh pins s1 σ H1 Q I1 q1
 |false=>exact⟨H1,I1,q1⟩
def zdC(ha:PT X a tA)(hb:PW X (.BoolOp .Or (b::rest) pos) tB'):PW X (.BoolOp .Or (a::b::rest) pos) (tOr tA tB'):=by
 intro wh pins s σ H Q I h;refine isTrue_or (thn (ha pins s σ H _ I h) fun c s1 z0=>?_);obtain⟨H1,I1,q1⟩:=z0;cases c with
 |true=>exact⟨H1,I1,q1⟩
 |false=>exact hb wh pins s1 σ H1 Q I1 q1
def zYC(ha:PT X a tA):PT X (.UnaryOp .Not a pos) (tNot tA):=by
 intro pins s σ H Q I h;exact isTrue_not (ha pins s σ H (fun c H1=>Q (!c) H1) I h)
def zYG{op}{t:TE}(h:PE X a t):PE X (.BoolOp op [a] pos) t:=fun pins s σ H Q I hw=>BoolOp_one (h pins s σ H Q I hw)
def tIf(t:TT)(ta tb:TE):TE:=fun σ H Q=>t σ H fun c H1=>if c=true then ta σ H1 Q else tb σ H1 Q
def zKA{c:Expr}(hc:PT X c tA)(ha:PE X a ta)(hb:PE X b tb):PE X (.IfExp c a b pos) (tIf tA ta tb):=by
 intro pins s σ H Q I h;refine wpAny_IfExp (thn (hc pins s σ H _ I h) fun d s1 z0=>?_);obtain⟨H1,I1,q1⟩:=z0;cases d with
 |true=>exact ha pins s1 σ H1 Q I1 q1
 |false=>exact hb pins s1 σ H1 Q I1 q1
end
def SqL(K:qA2)(H:Hp)(a:Addr)(xs:List V):Prop:=
 Rd H a (.lst xs) \/
  ∃(o:Obj)(its:Array Value)(n:Nat),K.lookup a=some o/\o.cls=.type "list"/\o.dict=none/\o.data=.seq its n/\its.size<=sizeLine/\Vals xs its.toList
def SqT(K:qA2)(H:Hp)(a:Addr)(xs:List V):Prop:=
 Rd H a (.tup xs) \/
  ∃(o:Obj)(its:Array Value)(n:Nat),K.lookup a=some o/\o.cls=.type "tuple"/\o.data=.seq its n/\its.size<=sizeLine/\Vals xs its.toList
def absV:Value->Option V
 |.none=>some .non
 |.bool b=>some (.bl b)
 |.int i _=>some (.int i)
 |.str x _=>some (.str x)
 |.bytes b _=>some (.byt b)
 |.float b _=>some (.flt b)
 |.ref a=>some (.ref a)
 |.type n=>some (.ty n)
 |_=>none
def RelV.abs{x:V}{u:Value}(r:RelV x u):absV u=some x:=by
 cases x with
 |non=>cases r;rfl
 |bl _=>cases r;rfl
 |int _=>obtain⟨t,rfl⟩:=r;rfl
 |str _=>obtain⟨t,rfl⟩:=r;rfl
 |byt _=>obtain⟨t,rfl⟩:=r;rfl
 |flt _=>obtain⟨t,rfl⟩:=r;rfl
 |ref _=>cases r;rfl
 |ty _=>cases r;rfl
def RelV.inj{x y:V}{u:Value}(r:RelV x u)(q:RelV y u):x=y:=qBc (r.abs.symm.trans q.abs)
def Vals.inj:∀{xs ys:List V}{us:List Value},Vals xs us->Vals ys us->xs=ys
 |_,_,_,.nil,.nil=>rfl
 |_,_,_,.cons r t,.cons r' t'=>by rw[r.inj r',Vals.inj t t']
section
variable{X:Cx}{pins:List (Addr×Obj)}{σ:St}{H:Hp}{s:qJ5}{a:Addr}{xs ys:List V}
def SqL.of{K:qA2}(h:H a=some (.lst xs)):SqL K H a xs:=.inl (.inl h)
def SqT.of{K:qA2}(h:H a=some (.tup xs)):SqT K H a xs:=.inl (.inl h)
def Inv.list(I:Inv X pins σ H s)(h:SqL X.K H a xs):∃its:List Value,Vals xs its/\PlainL s.heap a its.toArray/\xs.length<=sizeLine:=by
 rcases h with h|⟨o,its,n,hk,hc,hd,hs,hz,r⟩
 ·obtain⟨z,its,n,r,e⟩:=h.ok I.hok;exact⟨its,r,⟨_,n,e,rfl,rfl,rfl⟩,z⟩
 ·refine⟨its.toList,r,⟨o,n,I.kIn a o hk,hc,hd,by simpa using hs⟩,?_⟩;have e:=r.length;simp only[qB9]at e;omega
def Inv.tuple(I:Inv X pins σ H s)(h:SqT X.K H a xs):∃its:List Value,Vals xs its/\IsTup s.heap a its.toArray/\xs.length<=sizeLine:=by
 rcases h with h|⟨o,its,n,hk,hc,hs,hz,r⟩
 ·obtain⟨z,its,r,p⟩:=h.ok I.hok;exact⟨its,r,p,z⟩
 ·refine⟨its.toList,r,⟨o,I.kIn a o hk,hc,n,by simpa using hs⟩,?_⟩;have e:=r.length;simp only[qB9]at e;omega
def Inv.list_inj(I:Inv X pins σ H s)(h:SqL X.K H a xs)(h':SqL X.K H a ys):xs=ys:=by
 obtain⟨its,r,⟨o,n,e,_,_,d⟩,_⟩:=I.list h;obtain⟨its',r',⟨o',n',e',_,_,d'⟩,_⟩:=I.list h';rw[e]at e';cases e';rw[d]at d';injection d' with d1 _
 have:its=its':=by simpa using congrArg qH1 d1
 subst this;exact r.inj r'
def Inv.tuple_inj(I:Inv X pins σ H s)(h:SqT X.K H a xs)(h':SqT X.K H a ys):xs=ys:=by
 obtain⟨its,r,⟨o,e,_,n,d⟩,_⟩:=I.tuple h;obtain⟨its',r',⟨o',e',_,n',d'⟩,_⟩:=I.tuple h';rw[e]at e';cases e';rw[d]at d';injection d' with d1 _
 have:its=its':=by simpa using congrArg qH1 d1
 subst this;exact r.inj r'
end
abbrev Cx.wish(X:Cx)(E:Value->qJ5->Prop):Cx:={ X with xe:=E }
abbrev Cx.nox(X:Cx):Cx:=X.wish fun _ _=>False
def Cx.Ok.wish{X:Cx}(ok:X.Ok)(E:Value->qJ5->Prop):(X.wish E).Ok:=
 ⟨ok.mod,ok.kind,ok.glob,ok.blt,ok.above,ok.inj,ok.has,ok.cab,ok.hd,ok.frames,ok.stk,ok.exf,ok.bs,ok.bsz,ok.noex,ok.exfs,ok.funs,ok.frf⟩
def Cx.Ok.unwish{X:Cx}{E:Value->qJ5->Prop}(ok:(X.wish E).Ok):X.Ok:=
 ⟨ok.mod,ok.kind,ok.glob,ok.blt,ok.above,ok.inj,ok.has,ok.cab,ok.hd,ok.frames,ok.stk,ok.exf,ok.bs,ok.bsz,ok.noex,ok.exfs,ok.funs,ok.frf⟩
section
variable{X:Cx}{pins:List (Addr×Obj)}{σ:St}{H:Hp}{s:qJ5}{E:Value->qJ5->Prop}
def Inv.wish(I:Inv X pins σ H s)(E:Value->qJ5->Prop):Inv (X.wish E) pins σ H s:=⟨I.ok.wish E,I.os,I.bare,I.base,I.loc,I.cell,I.free,I.freeC,I.pin,I.hok,I.len⟩
def Inv.unwish(I:Inv (X.wish E) pins σ H s):Inv X pins σ H s:=⟨I.ok.unwish,I.os,I.bare,I.base,I.loc,I.cell,I.free,I.freeC,I.pin,I.hok,I.len⟩
def SP.unwish{D:Ends}{f:Flow}{s':qJ5}(h:SP (X.wish E) pins D f s'):SP X pins D f s':=by
 cases f with
 |next=>obtain⟨σ',H',I,q⟩:=h;exact⟨σ',H',I.unwish,q⟩
 |brk=>obtain⟨σ',H',I,q⟩:=h;exact⟨σ',H',I.unwish,q⟩
 |cont=>obtain⟨σ',H',I,q⟩:=h;exact⟨σ',H',I.unwish,q⟩
 |ret u=>obtain⟨v,σ',H',I,r,q⟩:=h;exact⟨v,σ',H',I.unwish,r,q⟩
def PSs.nox{st:List Stmt}{t:TS}(h:PSs X.nox st t):PSs X st t:=fun pins s σ H D I hw=>
 wpAny_mono (h pins s σ H D (I.wish _) hw) (fun _ _ q=>q.unwish) fun _ _ z=>qA3 z
end
section
variable{X:Cx}{st:Stmt}{rest:List Stmt}{t u:TS}{e:Expr}{te:TE}{pos:Pos}
def zcP:TS:=fun D σ H=>D.nx σ H
def tSeq(t u:TS):TS:=fun D σ H=>t { D with nx:=u D } σ H
def zC3:PSs X [] zcP:=fun _ _ σ H _ I h=>qL2 ⟨σ,H,I,h⟩
def zA5(h1:PS X st t)(h2:PSs X rest u):PSs X (st::rest) (tSeq t u):=by
 intro pins s σ H D I h;refine wpAny_execs_cons (thn (h1 pins s σ H { D with nx:=u D } I h) fun f s1 q=>?_);cases f with
 |next=>
  obtain⟨σ',H',I',q⟩:=q;exact h2 pins s1 σ' H' D I' q
 |ret v=>exact q
 |brk=>exact q
 |cont=>exact q
def zAE(h1:PS X st t):PSs X [st] t:=by
 intro pins s σ H D I h;refine wpAny_execs_cons (thn (h1 pins s σ H D I h) fun f s1 q=>?_);cases f with
 |next=>exact qL2 q
 |ret v=>exact q
 |brk=>exact q
 |cont=>exact q
def Inv.quiet{pins:List (Addr×Obj)}{σ:St}{H:Hp}{s:qJ5}(I:Inv X pins σ H s):interactive X.env=false:=by simp[interactive,I.ok.kind]
def zGI(te:TE):TS:=fun D σ H=>te σ H fun _ H1=>D.nx σ H1
def zDE(he:PE X e te)(hs:qM1 e none pos.line X.env=pure false:=by rfl):PS X (.Expr e pos) (zGI te):=by
 intro pins s σ H D I h;exact wpAny_Expr_any (thn (he pins s σ H _ I h) fun v s1 ⟨x,H1,I1,r1,q1⟩=>⟨σ,H1,I1,q1⟩) I.quiet hs
def tRet(te:TE):TS:=fun D σ H=>te σ H D.rt
def zAS(he:PE X e te):PS X (.Return (some e) pos) (tRet te):=by
 intro pins s σ H D I h;exact wpAny_Return_some (thn (he pins s σ H _ I h) fun v s1 ⟨x,H1,I1,r1,q1⟩=>⟨x,σ,H1,I1,r1,q1⟩)
def tIfS(c:TT)(t u:TS):TS:=fun D σ H=>c σ H fun b H1=>if b=true then t D σ H1 else u D σ H1
def zFZ{c:Expr}{a b:List Stmt}{tc:TT}(hc:PT X c tc)(ha:PSs X a t)(hb:PSs X b u):PS X (.If c a b pos) (tIfS tc t u):=by
 intro pins s σ H D I h;refine wpAny_If (thn (hc pins s σ H _ I h) fun d s1 z0=>?_);obtain⟨H1,I1,q1⟩:=z0;cases d with
 |true=>exact ha pins s1 σ H1 D I1 q1
 |false=>exact hb pins s1 σ H1 D I1 q1
end
abbrev TG:=V->St->Hp->(St->Hp->Prop)->Prop
abbrev TGs:=List V->St->Hp->(St->Hp->Prop)->Prop
def PG(X:Cx)(target:Expr)(t:TG):Prop:=
 ∀(pins:List (Addr×Obj))(s:qJ5)(σ:St)(H:Hp)(v:V)(u:Value)(Q:St->Hp->Prop),Inv X pins σ H s->RelV v u->t v σ H Q ->
  wpAny (model X.prog X.w) X.A (assign target X.env u) (fun _ s'=>∃σ' H',Inv X pins σ' H' s'/\Q σ' H') X.xe s
def PGs(X:Cx)(ts:List Expr)(t:TGs):Prop:=
 ∀(pins:List (Addr×Obj))(s:qJ5)(σ:St)(H:Hp)(vs:List V)(us:List Value)(Q:St->Hp->Prop),Inv X pins σ H s->Vals vs us->t vs σ H Q ->
  wpAny (model X.prog X.w) X.A (assignInOrder ((assignEach ts X.env).map (·.2)) us) (fun _ s'=>∃σ' H',Inv X pins σ' H' s'/\Q σ' H') X.xe s
abbrev TSet:=V->V->V->Hp->(Hp->Prop)->Prop
def PSet(X:Cx)(t:TSet):Prop:=
 ∀(pins:List (Addr×Obj))(s:qJ5)(σ:St)(H:Hp)(o i v:V)(ov iv u:Value)(Q:Hp->Prop),Inv X pins σ H s->RelV o ov->RelV i iv->RelV v u->t o i v H Q ->
  wpAny (model X.prog X.w) X.A (setItem ov iv u) (fun _ s'=>∃H',Inv X pins σ H' s'/\Q H') X.xe s
section
variable{X:Cx}{pos:Pos}
def zFK(i:Nat):TG:=fun v σ H Q=>Q (σ.set i (some v)) H
def zBO{i:Nat}{x:Str}(hN:X.N.Nodup)(hi:X.N[i]?=some x)(hx:Loc X.env.scope x)(hf:X.fn x=true\/X.env.scope.names.lookup x=some .local:=by first|exact .inl rfl|exact .inr rfl|assumption):PG X (.Name x pos) (zFK i):=by
 intro pins s σ H v u Q I r h;exact qM5 (zOY I hN hi hx r (fun s' I'=>⟨_,H,I',h⟩) hf)
def gNil:TGs:=fun vs σ H Q=>vs=[]/\Q σ H
def zeL(t:TG)(u:TGs):TGs:=fun vs σ H Q=>∃v r,vs=v::r/\t v σ H fun σ' H'=>u r σ' H' Q
def zG0:PGs X [] gNil:=by
 intro pins s σ H vs us Q I r h;obtain⟨e,h⟩:=h;subst e;cases r;exact assignInOrder_nil ⟨σ,H,I,h⟩
def zBN{e:Expr}{es:List Expr}{t:TG}{u:TGs}(h1:PG X e t)(h2:PGs X es u)
  (hs:(assignEach (e::es) X.env).map (·.2)=assign e X.env::(assignEach es X.env).map (·.2):=by rfl):PGs X (e::es) (zeL t u):=by
 intro pins s σ H vs us Q I r h;obtain⟨v,vr,e1,h⟩:=h;subst e1;cases r with
 |cons r rr=>
  rw[hs];refine assignInOrder_cons (thn (h1 pins s σ H _ _ _ I r h) fun _ s1 z0=>?_);obtain⟨σ1,H1,I1,q1⟩:=z0;exact h2 pins s1 σ1 H1 _ _ Q I1 rr q1
def gTup(K:qA2)(n:Nat)(t:TGs):TG:=fun v σ H Q=>∃a xs,v=.ref a/\SqT K H a xs/\xs.length=n/\t xs σ H Q
def zdI{es:List Expr}{k:Nat}{t:TGs}{n:Nat}(hc:X.calm=true)(h:PGs X es t)
  (hn:(assignEach es X.env).length=n:=by rfl) (hst:(assignEach es X.env).findIdx? (·.1)=none:=by rfl):PG X (.Tuple es k pos) (gTup X.K n t):=by
 intro pins s σ H v u Q I r hw;obtain⟨a,xs,e1,hq,hl,hw⟩:=hw;subst e1;cases r;obtain⟨its,rv,ht,hz⟩:=I.tuple hq;refine assign_Tuple_tuple (I.ok.hd hc) ht (by simp[hn,<- hl,rv.length]) hst fun h' hx=>?_
 have I1:Inv X pins σ H { s with heap:=h' }:=I.kept (t':=s.toks) fun b o e=>hx b o (qAl (qJ6 e)) e
 exact h pins _ σ H xs _ Q I1 (by simpa using rv) hw
def gSub(to ti:TE)(t:TSet):TG:=fun v σ H Q=>to σ H fun o H1=>ti σ H1 fun i H2=>t o i v H2 fun H3=>Q σ H3
def zSB{o i:Expr}{to ti:TE}{t:TSet}(ho:PE X o to)(hi:PE X i ti)(hs:PSet X t)
  (ha:∀v,assign (.Subscript o i pos) X.env v=(do
   let ov <- holding [v] (eval o X.env)
   let iv <- holding [v,ov] (eval i X.env)
   qN5 pos
   holding [v,ov,iv] (setItem ov iv v)
   release [v,ov,iv] []):=by intro _;rfl):PG X (.Subscript o i pos) (gSub to ti t):=by
 intro pins s σ H v u Q I r h;rw[ha];refine wpAny_bind (wpAny_holding (thn (ho pins s σ H _ I h) fun ov s1 z0=>?_));obtain⟨x,H1,I1,r1,q1⟩:=z0;refine wpAny_bind (wpAny_holding (thn (hi pins s1 σ H1 _ I1 q1) fun iv s2 z0=>?_));obtain⟨y,H2,I2,r2,q2⟩:=z0;refine wpAny_bind (wpAny_standAt (wpAny_bind (wpAny_holding (thn (hs pins s2 σ H2 x y v ov iv u _ I2 r1 r2 r q2) fun _ s3 z0=>?_))));obtain⟨H3,I3,q3⟩:=z0;exact wpAny_release ⟨σ,H3,I3,q3⟩
def tAsg(te:TE)(g:TG):TS:=fun D σ H=>te σ H fun x H1=>g x σ H1 D.nx
def zS2{tg e:Expr}{te:TE}{g:TG}(he:PE X e te)(hg:PG X tg g)(hs:swapsWithSole [tg] e pos.line X.env=pure false:=by rfl)(hw:swappedStores [tg] e X.env=pure none:=by rfl)
  (h1:(assignEach [tg] X.env).map (·.2)=[assign tg X.env]:=by rfl):PS X (.Assign [tg] e pos) (tAsg te g):=by
 intro pins s σ H D I h;refine wpAny_Assign_stores (thn (he pins s σ H _ I h) fun v s1 z0=>?_) hs hw;obtain⟨x,H1,I1,r1,q1⟩:=z0;rw[h1];exact thn (hg pins s1 σ H1 x v _ I1 r1 q1) fun _ s2 q=>q
def zYD{i:Nat}{x:Str}{e:Expr}{te:TE}{pos':Pos}(hN:X.N.Nodup)(hi:X.N[i]?=some x)(hx:Loc X.env.scope x)(he:PE X e te)(hs:qM1 e (some (.Name x pos')) pos.line X.env=pure false:=by rfl)(hf:X.fn x=true\/X.env.scope.names.lookup x=some .local:=by first|exact .inl rfl|exact .inr rfl|assumption) :
  PS X (.Assign [.Name x pos'] e pos) (tAsg te (zFK i)):=by
 intro pins s σ H D I h;refine wpAny_Assign_Name (thn (he pins s σ H _ I h) fun v s1 z0=>?_) hs;obtain⟨y,H1,I1,r1,q1⟩:=z0;exact zOY I1 hN hi hx r1 (fun s2 I2=>⟨_,H1,I2,q1⟩) hf
def zRH(c:TT)(tb:TS):TS:=fun D σ H=>∃W:Nat->St->Hp->Prop,(∃m,W m σ H)/\∀m σ H,W m σ H ->
 c σ H fun b H1=>if b=true then ∃N:St->Hp->Prop,(∀σ' H',N σ' H'->∃m',m'<m/\W m' σ' H')/\tb { D with nx:=N,ct:=N,bk:=D.nx } σ H1 else D.nx σ H1
def zW4{c:Expr}{body:List Stmt}{tc:TT}{tb:TS}(hp:qMo (model X.prog X.w) X.A X.env X.xe)(hc:PT X c tc)(hb:PSs X body tb):PS X (.While c body [] pos) (zRH tc tb):=by
 intro pins s σ H D I h;obtain⟨W,⟨m0,w0⟩,turn⟩:=h;refine wpAny_While (codeAny_whileLoop (fun n s'=>∃σ' H',Inv X pins σ' H' s'/\W n σ' H') ?_ m0 ⟨σ,H,I,w0⟩)
 rintro n s1 ⟨σ1,H1,I1,w1⟩
 refine qJx hp (thn (hc pins s1 σ1 H1 _ I1 (turn n σ1 H1 w1)) fun b s2 z0=>?_);obtain⟨H2,I2,q2⟩:=z0;cases b with
 |true=>
  obtain⟨N,hN,q2⟩:=q2;rw[if_pos rfl];refine qJx hp (thn (hb pins s2 σ1 H2 _ I2 q2) fun f s3 q3=>?_);cases f with
  |next=>
   obtain⟨σ3,H3,I3,n3⟩:=q3;obtain⟨m',hm,w3⟩:=hN σ3 H3 n3;exact⟨m',hm,σ3,H3,I3,w3⟩
  |cont=>
   obtain⟨σ3,H3,I3,n3⟩:=q3;obtain⟨m',hm,w3⟩:=hN σ3 H3 n3;exact⟨m',hm,σ3,H3,I3,w3⟩
  |brk=>exact q3
  |ret v=>exact q3
 |false=>
  rw[if_neg qAh];exact qL2 ⟨σ1,H2,I2,q2⟩
end
structure It where
 go:Nat->Hp->Prop
 yld:Nat->Hp->V->Hp->Prop
 stop:Nat->Hp->Prop
def FpOk(X:Cx)(pins:List (Addr×Obj))(H:Hp)(b:Addr):Prop:=
 H b=none/\b≠X.env.locals/\b∉X.fs/\(b∈X.ex\/X.s₀.heap.objs.size<=b)/\(∀x c,X.env.cells.lookup x=some c->c≠b)/\∀p∈X.pn++pins,p.1≠b
def Inv.fpOk{X:Cx}{pins:List (Addr×Obj)}{σ:St}{H H':Hp}{s:qJ5}{b:Addr}(I:Inv X pins σ H s)(hb:s.heap.objs.size<=b)(hn:H' b=none):FpOk X pins H' b:=by
 refine⟨hn,qBs (qAk I.lt hb),I.nofs hb,.inr (qAq I.sz hb),fun x c e z=>?_,fun p hp z=>?_⟩
 ·obtain⟨v,q⟩:=I.cell x c e;exact absurd (qAk q.lt (by rw[z];exact hb)) (qCj _)
 ·exact absurd (qAk (qJ6 (I.pin p hp).1) (by rw[z];exact hb)) (qCj _)
structure Turn(P:qJ8)(w:World)(K:qA2)(tg:Expr)(J:It)(fp:List Addr)(it:Addr)(tn:Nat->Heap->Prop):Prop where
 mem:it∈fp
 obj:∀i h,tn i h->∀b∈fp,∃o,h.get? b=some o/\∀v,o.data≠.cell v
 keep:∀i h h',tn i h->(∀b∈fp,∀o,h.get? b=some o->h'.get? b=some o)->tn i h'
 item:∀(X:Cx),X.prog=P->X.w=w->X.K=K->X.calm=true->∀(i:Nat)(pins:List (Addr×Obj))(s:qJ5)(σ:St)(H:Hp)(E:Value->qJ5->Prop),Inv X pins σ H s->(∀b∈fp,FpOk X pins H b)->tn i s.heap->J.go i H ->
  wpAny (model P w) X.A (pyNext (.ref it)) (fun r s1=>∃u,r=some u /\
   wpAny (model P w) X.A (letOwnedTupleGo tg (.ref it) u) (fun _ s2=>∃x H',Inv X pins σ H' s2/\RelV x u/\J.yld i H x H'/\tn (i+1) s2.heap/\∀b∈fp,H' b=none) E s1) E s
 done:∀(X:Cx),X.prog=P->X.w=w->X.K=K->X.calm=true->∀(i:Nat)(pins:List (Addr×Obj))(s:qJ5)(σ:St)(H:Hp)(E:Value->qJ5->Prop),Inv X pins σ H s->(∀b∈fp,FpOk X pins H b)->tn i s.heap->J.stop i H ->
  wpAny (model P w) X.A (pyNext (.ref it)) (fun r s1=>r=none/\Inv X pins σ H s1) E s
 self:∀(A:qJb)(i:Nat)(s:qJ5)(Q:Value->qJ5->Prop)(E:Value->qJ5->Prop),tn i s.heap->Q (.ref it) s->wpAny (model P w) A (pyIter (.ref it)) Q E s
abbrev TI:=St->Hp->(It->Hp->Prop)->Prop
def PIE(X:Cx)(pins:List (Addr×Obj))(σ:St)(tg:Expr)(R:It->Hp->Prop)(itv:Value)(s2:qJ5):Prop:=
 ∃(it:Addr)(fp:List Addr)(tn:Nat->Heap->Prop)(J:It)(H':Hp),itv=.ref it/\Inv X pins σ H' s2/\Turn X.prog X.w X.K tg J fp it tn/\tn 0 s2.heap/\(∀b∈fp,FpOk X pins H' b)/\R J H'
def PI(X:Cx)(tg iter:Expr)(wi:TI):Prop:=
 ∀(pins:List (Addr×Obj))(s:qJ5)(σ:St)(H:Hp)(R:It->Hp->Prop),Inv X pins σ H s->wi σ H R ->
  wpAny (model X.prog X.w) X.A (eval iter X.env) (fun v s1=>wpAny (model X.prog X.w) X.A (pyIter v) (PIE X pins σ tg R) X.xe s1) X.xe s
def zX6{M:Model}{A:qJb}{E:Value->qJ5->Prop}{s:qJ5}{tg:Expr}{it:Addr}{u:Value}{o:Obj}{n:String}{vs:Array Value}{Q:Unit->qJ5->Prop}(ho:s.heap.get? it=some o)(hc:o.cls=.type n)(hd:o.data=.fields vs)
  (hn:["enumerate","zip","dict_itemiterator","dict_reverseitemiterator","odict_iterator","itertools.zip_longest","itertools.pairwise"].contains n=false) (hQ:Q () s):wpAny M A (letOwnedTupleGo tg (.ref it) u) Q E s:=by
 unfold letOwnedTupleGo;cases tg<;>first
  |exact wpAny_pure hQ
  |(cases u<;>first
    |exact wpAny_pure hQ
    |(refine wpAny_bind (wpAny_load ho ?_)
      rw[hc,hd];show wpAny M A (if(["enumerate","zip","dict_itemiterator","dict_reverseitemiterator","odict_iterator","itertools.zip_longest","itertools.pairwise"].contains n&&vs[0]?==some (rawInt _))=true then _ else _) Q E s;rw[if_neg (by intro h;rw[hn,Bool.false_and]at h;cases h)];exact wpAny_pure hQ))
def Itl(K:qA2)(a:Addr):It:=
 ⟨fun i H=>∃xs x,SqL K H a xs/\xs[i]?=some x,fun i H x H'=>H'=H/\∀xs,SqL K H a xs->xs[i]?=some x,fun i H=>∃xs,SqL K H a xs/\xs.length<=i⟩
def Itt(K:qA2)(a:Addr):It:=
 ⟨fun i H=>∃xs x,SqT K H a xs/\xs[i]?=some x,fun i H x H'=>H'=H/\∀xs,SqT K H a xs->xs[i]?=some x,fun i H=>∃xs,SqT K H a xs/\xs.length<=i⟩
def Itr(lo:Int)(n:Nat):It:=⟨fun i _=>i<n,fun i H x H'=>H'=H/\x=.int (lo+i),fun i _=>n<=i⟩
def zRE{P:qJ8}{w:World}{K:qA2}{tg:Expr}(a it:Addr):Turn P w K tg (Itl K a) [it] it (fun i h=>h.IsListIter it a i) where
 mem:=by simp
 obj:=fun i h st b hb=>by
  have e:b=it:=by simpa using hb
  subst e;obtain⟨o,e,c,d⟩:=st;exact⟨o,e,fun v z=>by rw[d]at z;cases z⟩
 keep:=fun i h h' st k=>st.at fun o e=>k it (by simp) o e
 item:=by
  intro X hP hw hK hc i pins s σ H E I hf st hg;subst hP hw hK;obtain⟨xs,x,hq,hx⟩:=hg;obtain⟨its,rv,p,hz⟩:=I.list hq;obtain⟨u,hu,ru⟩:=rv.get hx;obtain⟨f0,f1,f2,f3,f4,f5⟩:=hf it (by simp);refine wpAny_pyNext_list_item st p.isList (x:=u) (by simpa using hu) fun h' st' sb=>?_
  have I1:Inv X pins σ H { s with heap:=h' }:=I.turned (t':=s.toks) (fun b o hb e=>(sb.2 b hb).trans e) f0 f1 f3 f4 f5;obtain⟨o,e,c,d⟩:=id st';exact⟨u,rfl,zX6 (s:={ s with heap:=h' }) e c d (by decide) ⟨x,H,I1,ru,⟨rfl,fun ys hy=>by rw[I.list_inj hy hq];exact hx⟩,st',fun b hb=>(hf b hb).1⟩⟩
 done:=by
  intro X hP hw hK hc i pins s σ H E I hf st hg;subst hP hw hK;obtain⟨xs,hq,hx⟩:=hg;obtain⟨its,rv,p,hz⟩:=I.list hq;obtain⟨f0,f1,f2,f3,f4,f5⟩:=hf it (by simp);have hl:=rv.length;exact wpAny_pyNext_list_end (I.ok.hd hc) st p.isList (by simp;omega) fun h' eb=>⟨rfl,I.turned (t':=s.toks) (fun b o hb e=>eb b o hb e) f0 f1 f3 f4 f5⟩
 self:=fun _ _ _ _ _ st h=>wpAny_pyIter_listiter st h
def zQ3{P:qJ8}{w:World}{K:qA2}{tg:Expr}(a it:Addr):Turn P w K tg (Itt K a) [it] it (fun i h=>h.IsTupleIter it a i) where
 mem:=by simp
 obj:=fun i h st b hb=>by
  have e:b=it:=by simpa using hb
  subst e;obtain⟨o,e,c,d⟩:=st;exact⟨o,e,fun v z=>by rw[d]at z;cases z⟩
 keep:=fun i h h' st k=>st.at fun o e=>k it (by simp) o e
 item:=by
  intro X hP hw hK hc i pins s σ H E I hf st hg;subst hP hw hK;obtain⟨xs,x,hq,hx⟩:=hg;obtain⟨its,rv,p,hz⟩:=I.tuple hq;obtain⟨u,hu,ru⟩:=rv.get hx;obtain⟨f0,f1,f2,f3,f4,f5⟩:=hf it (by simp);refine wpAny_pyNext_tuple_item st (show s.heap.IsTuple a its.toArray from p) (x:=u) (by simpa using hu) fun h' st' sb=>?_
  have I1:Inv X pins σ H { s with heap:=h' }:=I.turned (t':=s.toks) (fun b o hb e=>(sb.2 b hb).trans e) f0 f1 f3 f4 f5;obtain⟨o,e,c,d⟩:=id st';exact⟨u,rfl,zX6 (s:={ s with heap:=h' }) e c d (by decide) ⟨x,H,I1,ru,⟨rfl,fun ys hy=>by rw[I.tuple_inj hy hq];exact hx⟩,st',fun b hb=>(hf b hb).1⟩⟩
 done:=by
  intro X hP hw hK hc i pins s σ H E I hf st hg;subst hP hw hK;obtain⟨xs,hq,hx⟩:=hg;obtain⟨its,rv,p,hz⟩:=I.tuple hq;obtain⟨f0,f1,f2,f3,f4,f5⟩:=hf it (by simp);have hl:=rv.length;exact wpAny_pyNext_tuple_end (I.ok.hd hc) st (show s.heap.IsTuple a its.toArray from p) (by simp;omega) fun h' eb=>⟨rfl,I.turned (t':=s.toks) (fun b o hb e=>eb b o hb e) f0 f1 f3 f4 f5⟩
 self:=fun _ _ _ _ _ st h=>wpAny_pyIter_tupleiter st h
def zQ4{P:qJ8}{w:World}{K:qA2}{tg:Expr}(it:Addr)(lo:Int)(n:Nat):Turn P w K tg (Itr lo n) [it] it (fun i h=>IsRangeIter h it (lo+(i:Nat)*1) ((n:Int)-(i:Nat)) 1) where
 mem:=by simp
 obj:=fun i h st b hb=>by
  have e:b=it:=by simpa using hb
  subst e;exact⟨_,st,fun v z=>by
   have z':Data.fields _=Data.cell v:=z;cases z'⟩
 keep:=fun i h h' st k=>k it (by simp) _ st
 item:=by
  intro X hP hw hK hc i pins s σ H E I hf st hg;subst hP hw hK;obtain⟨f0,f1,f2,f3,f4,f5⟩:=hf it (by simp);have W:=Walks.range (prog:=X.prog) (w:=X.w) (I.ok.hd hc) it lo 1 n;refine W.item i s _ _ hg st fun v h' tk hv st' kk=>?_
  obtain⟨t,rfl⟩:=hv;have I1:Inv X pins σ H { s with heap:=h',toks:=tk }:=I.turned (fun b o hb e=>kk b o (by simpa using hb) e) f0 f1 f3 f4 f5;refine⟨_,rfl,zX6 (s:={ s with heap:=h',toks:=tk }) (n:="range_iterator") st' rfl rfl (by decide) ⟨.int (lo+i),H,I1,⟨t,?_⟩,⟨rfl,rfl⟩,st',fun b hb=>(hf b hb).1⟩⟩;rw[qIv]
 done:=by
  intro X hP hw hK hc i pins s σ H E I hf st hg;subst hP hw hK;obtain⟨f0,f1,f2,f3,f4,f5⟩:=hf it (by simp);exact wpAny_pyNext_range_end (I.ok.hd hc) st (by have:n<=i:=hg;omega) fun h' eb=>⟨rfl,I.turned (t':=s.toks) (fun b o hb e=>eb b o hb e) f0 f1 f3 f4 f5⟩
 self:=fun _ _ _ _ _ st h=>wpAny_pyIter_rangeiter st h
section
variable{X:Cx}{tg:Expr}
def zW1{pins:List (Addr×Obj)}{σ:St}{H:Hp}{s:qJ5}{R:It->Hp->Prop}{E:Value->qJ5->Prop}{lo hi:Int}{t u v:Tok}{tk:Nat}(I:Inv X pins σ H s)(h1:-(2 ^ 62)<=lo)(h2:lo<2 ^ 62)(h3:-(2 ^ 62)<=hi)(h4:hi<2 ^ 62)
  (q:R (Itr lo (hi-lo).toNat) H):wpAny (model X.prog X.w) X.A (pyIter (.ref s.heap.objs.size)) (PIE X pins σ tg R) E { s with heap:=s.heap.push { cls:=.type "range",data:=.fields #[.int lo t,.int hi u,.int 1 v] },toks:=tk }:=by
 refine wpAny_pyIter_range (IsRange.new ..) (small_one h1 h2 h3 h4) ?_;have I1:Inv X pins σ H { s with heap:=s.heap.push { cls:=.type "range",data:=.fields #[.int lo t,.int hi u,.int 1 v] },toks:=tk }:=I.kept fun b o e=>qJ4 _ e
 refine⟨(s.heap.push { cls:=.type "range",data:=.fields #[.int lo t,.int hi u,.int 1 v] }).objs.size,[(s.heap.push { cls:=.type "range",data:=.fields #[.int lo t,.int hi u,.int 1 v] }).objs.size],_,_,H,rfl,
  I1.kept (t':=tk) fun b o e=>qJ4 _ e,zQ4 _ lo (hi-lo).toNat,?_,fun b hb=>?_,q⟩
 ·have e1:lo+((0:Nat):Int)*1=lo:=by simp
  have e2:(((hi-lo).toNat:Nat):Int)-((0:Nat):Int)=qLf lo hi 1:=by rw[rangeSize_one];split<;>omega
  show IsRangeIter _ _ (lo+((0:Nat):Int)*1) ((((hi-lo).toNat:Nat):Int)-((0:Nat):Int)) 1;rw[e1,e2];exact qJ7 _ rfl
 ·have e:b=(s.heap.push { cls:=.type "range",data:=.fields #[.int lo t,.int hi u,.int 1 v] }).objs.size:=by simpa using hb
  subst e;exact I1.fpOk (qAa _) (I1.hok.fresh (qAa _))
def zeJ(ta:TA):TI:=fun σ H R=>ta σ H fun vs H1=>∃j:Int,vs=[.int j]/\-(2 ^ 62)<=j/\j<2 ^ 62/\R (Itr 0 j.toNat) H1
def zBA{a:Expr}{ta:TA}{p pos:Pos}(hg:Gl X "range")(hm:X.mg "range" = none)(ha:PA X [a] ta)(hs:starEach [a] X.env=[(false,eval a X.env)]:=by rfl):PI X tg (.Call (.Name "range" p) [a] [] pos) (zeJ ta):=by
 intro pins s σ H R I h;refine Call_ (zI2 I hg hm boot_range (qBv (thn (ha pos pins s σ H _ I h) fun us s1 z0=>?_) hs rfl));obtain⟨vs,H1,I1,r1,q1⟩:=z0;obtain⟨j,e,q1,q2,q⟩:=q1;subst e;cases r1 with
 |cons r rr=>
  cases rr;obtain⟨t,rfl⟩:=r;exact call_range_1 (zW1 I1 (by omega) (by omega) q1 q2 (by simpa using q))
def tFor(wi:TI)(g:TG)(tb:TS):TS:=fun D σ H=>wi σ H fun J H1=>∃W:Nat->Nat->St->Hp->Prop,(∃m,W 0 m σ H1)/\∀i m σ H,W i m σ H ->
 (J.stop i H/\D.nx σ H)\/(J.go i H/\∃N:St->Hp->Prop,(∀σ' H',N σ' H'->∃m',m'<m/\W (i+1) m' σ' H')/\∀x H',J.yld i H x H'->g x σ H' fun σ2 H2=>tb { D with nx:=N,ct:=N,bk:=D.nx } σ2 H2)
def zJE(fp:List Addr)(h:Heap):List (Addr×Obj):=fp.filterMap fun b=>(h.get? b).map fun o=>(b,o)
def zE5{fp:List Addr}{h:Heap}{b:Addr}{o:Obj}(hb:b∈fp)(e:h.get? b=some o):(b,o)∈zJE fp h:=qGn.mpr ⟨b,hb,by rw[e];rfl⟩
def zSR{fp:List Addr}{h:Heap}{p:Addr×Obj}(hp:p∈zJE fp h):p.1∈fp/\h.get? p.1=some p.2:=by
 obtain⟨b,hb,e⟩:=qGn.mp hp;cases q:h.get? b with
 |none=>rw[q]at e;cases e
 |some o=>
  rw[q]at e;have e':(b,o)=p:=qBc e;subst e';exact⟨hb,q⟩
def Inv.pinned{pins:List (Addr×Obj)}{σ:St}{H:Hp}{s:qJ5}{fp:List Addr}(I:Inv X pins σ H s)(hf:∀b∈fp,FpOk X pins H b)(ho:∀b∈fp,∃o,s.heap.get? b=some o/\∀v,o.data≠.cell v):Inv X (pins++zJE fp s.heap) σ H s:=
 I.pins_of fun p hp=>(qAr.mp hp).elim (fun z=>I.pin p (qAw _ z)) fun z=>by
  obtain⟨hb,e⟩:=zSR z;obtain⟨f0,f1,f2,_⟩:=hf p.1 hb;obtain⟨o,e',d⟩:=ho p.1 hb;rw[e]at e';cases e';exact⟨e,f0,f1,f2,d⟩
def Inv.unpinned{pins pl:List (Addr×Obj)}{σ:St}{H:Hp}{s:qJ5}(I:Inv X (pins++pl) σ H s):Inv X pins σ H s:=I.pins_of fun p hp=>I.pin p (qAw _ (qB6 _ hp))
def zdG{iter:Expr}{body:List Stmt}{wi:TI}{g:TG}{tb:TS}{pos:Pos}(hp:qMo (model X.prog X.w) X.A X.env X.xe)(hc:X.calm=true)(hi:PI X tg iter wi)(hg:PG X tg g)(hb:PSs X body tb)
  (hs:∀x,qKq iter X.env x=pure x:=by intro _;rfl):PS X (.For tg iter body [] pos) (tFor wi g tb):=by
 intro pins s σ H D I h;refine wpAny_For (thn (hi pins s σ H _ I h) fun v s1 h1=>thn h1 fun itv s2 h2=>?_) hs;obtain⟨it,fp,tn,J,H2,e,I2,T,st2,f2,W,⟨m0,w0⟩,turn⟩:=h2;subst e;have stat:∀{H':Hp},(∀b∈fp,H' b=none)->∀b∈fp,FpOk X pins H' b:=fun hn b hb=>⟨hn b hb,(f2 b hb).2⟩
 refine codeAny_forLoop_any (fun n s'=>∃i σ' H',Inv X pins σ' H' s'/\tn i s'.heap/\(∀b∈fp,H' b=none)/\W i n σ' H') ?_ m0 ⟨0,σ,H2,I2,st2,fun b hb=>(f2 b hb).1,w0⟩
 rintro n s3 ⟨i,σ3,H3,I3,st3,fr3,w3⟩
 rcases turn i n σ3 H3 w3 with⟨stop,qn⟩|⟨go,N,hN,step⟩
 ·refine qJx hp (thn (T.done X rfl rfl rfl hc i pins s3 σ3 H3 X.xe I3 (stat fr3) st3 stop) fun r s4 z0=>?_);obtain⟨hr,I4⟩:=z0;subst hr;exact qL2 ⟨σ3,H3,I4,qn⟩
 ·refine qJx hp (thn (T.item X rfl rfl rfl hc i pins s3 σ3 H3 X.xe I3 (stat fr3) st3 go) fun r s4 z0=>?_);obtain⟨u,hr,h4⟩:=z0;subst hr;refine qJx hp (thn h4 fun _ s5 z0=>?_);obtain⟨x,H5,I5,r5,y5,st5,fr5⟩:=z0;have I5':=I5.pinned (stat fr5) (T.obj _ _ st5);refine qJx hp (thn (hg _ s5 σ3 H5 x u _ I5' r5 (step x H5 y5)) fun _ s6 z0=>?_);obtain⟨σ6,H6,I6,q6⟩:=z0;refine qJx hp (thn (hb _ s6 σ6 H6 _ I6 q6) fun f s7 q7=>?_);have again:∀{σ7:St}{H7:Hp},Inv X (pins++zJE fp s5.heap) σ7 H7 s7->N σ7 H7->∃m,m<n/\∃i σ' H',Inv X pins σ' H' s7/\tn i s7.heap/\(∀b∈fp,H' b=none)/\W i m σ' H':=fun{σ7 H7} I7 n7=>by
   obtain⟨m',hm,w7⟩:=hN σ7 H7 n7;refine⟨m',hm,i+1,σ7,H7,I7.unpinned,T.keep _ _ _ st5 fun b hb o e=>(I7.pin (b,o) (qAw _ (qAw _ (zE5 hb e)))).1,fun b hb=>?_,w7⟩;obtain⟨o,e,d⟩:=T.obj _ _ st5 b hb;exact(I7.pin (b,o) (qAw _ (qAw _ (zE5 hb e)))).2.1
  cases f with
  |next=>obtain⟨σ7,H7,I7,n7⟩:=q7;exact again I7 n7
  |cont=>obtain⟨σ7,H7,I7,n7⟩:=q7;exact again I7 n7
  |brk=>obtain⟨σ7,H7,I7,q7⟩:=q7;exact⟨σ7,H7,I7.unpinned,q7⟩
  |ret v=>obtain⟨x7,σ7,H7,I7,r7,q7⟩:=q7;exact⟨x7,σ7,H7,I7.unpinned,r7,q7⟩
end
abbrev R2:=V->V->Hp->VK->Prop
def OpR(X:Cx)(f:Value->Value->Sem Value)(r:R2):Prop:=
 ∀(pins:List (Addr×Obj))(s:qJ5)(σ:St)(H:Hp)(x y:V)(v u:Value)(Q:VK),Inv X pins σ H s->RelV x v->RelV y u->r x y H Q ->
  wpAny (model X.prog X.w) X.A (f v u) (EP X pins σ Q) X.xe s
def UnR(X:Cx)(f:Value->Sem Value)(r:V->Hp->VK->Prop):Prop:=
 ∀(pins:List (Addr×Obj))(s:qJ5)(σ:St)(H:Hp)(x:V)(v:Value)(Q:VK),Inv X pins σ H s->RelV x v->r x H Q ->
  wpAny (model X.prog X.w) X.A (f v) (EP X pins σ Q) X.xe s
def zCY(X:Cx)(f:Value)(r:List V->Hp->VK->Prop):Prop:=
 ∀(pins:List (Addr×Obj))(s:qJ5)(σ:St)(H:Hp)(xs:List V)(us:List Value)(Q:VK),Inv X pins σ H s->Vals xs us->r xs H Q ->
  wpAny (model X.prog X.w) X.A (call f us) (EP X pins σ Q) X.xe s
def TruR(X:Cx)(r:V->Hp->(Bool->Hp->Prop)->Prop):Prop:=
 ∀(pins:List (Addr×Obj))(s:qJ5)(σ:St)(H:Hp)(x:V)(v:Value)(Q:Bool->Hp->Prop),Inv X pins σ H s->RelV x v->r x H Q ->
  wpAny (model X.prog X.w) X.A (truthy v) (TP X pins σ Q) X.xe s
def tOp(r:R2)(ta tb:TE):TE:=fun σ H Q=>ta σ H fun x H1=>tb σ H1 fun y H2=>r x y H2 Q
def tUn(r:V->Hp->VK->Prop)(ta:TE):TE:=fun σ H Q=>ta σ H fun x H1=>r x H1 Q
def rI(C:Int->Int->Prop)(g:Int->Int->V):R2:=fun x y H Q=>∃i j,x=.int i/\y=.int j/\C i j/\Q (g i j) H
def rI0(g:Int->Int->V):R2:=fun x y H Q=>∃i j,x=.int i/\y=.int j/\Q (g i j) H
def rU(g:Int->V):V->Hp->VK->Prop:=fun x H Q=>∃i,x=.int i/\Q (g i) H
section
variable{X:Cx}{a b:Expr}{ta tb:TE}{pos:Pos}
def binT(ha:PE X a ta)(hb:PE X b tb){pins:List (Addr×Obj)}{s:qJ5}{σ:St}{H:Hp}{R:V->V->Hp->Prop}(I:Inv X pins σ H s)
  (h:ta σ H fun x H1=>tb σ H1 fun y H2=>R x y H2) {Q:Value->qJ5->Prop} {f:Value->Value->Sem Value}
  (hf:∀v u s2 x y H2,Inv X pins σ H2 s2->RelV x v->RelV y u->R x y H2->wpAny (model X.prog X.w) X.A (f v u) Q X.xe s2) :
  wpAny (model X.prog X.w) X.A (eval a X.env) (fun v s₁=>wpAny (model X.prog X.w) X.A (eval b X.env) (fun u s₂=>wpAny (model X.prog X.w) X.A (f v u) Q X.xe s₂) X.xe s₁) X.xe s:=by
 refine thn (ha pins s σ H _ I h) fun v s1 z0=>?_
 obtain⟨x,H1,I1,r1,q1⟩:=z0;refine thn (hb pins s1 σ H1 _ I1 q1) fun u s2 z0=>?_
 obtain⟨y,H2,I2,r2,q2⟩:=z0;exact hf v u s2 x y H2 I2 r1 r2 q2
def zAT{op:Operator}{r:R2}(ho:OpR X (binaryOp op) r)(ha:PE X a ta)(hb:PE X b tb):PE X (.BinOp a op b pos) (tOp r ta tb):=by
 intro pins s σ H Q I h;exact wpAny_BinOp (binT ha hb I h fun v u s2 x y H2 I2 rx ry q=>ho pins s2 σ H2 x y v u Q I2 rx ry q)
def za7{op:UnaryOp}{r:V->Hp->VK->Prop}(ho:UnR X (unaryOp op) r)(ha:PE X a ta):PE X (.UnaryOp op a pos) (tUn r ta):=by
 intro pins s σ H Q I h;exact UnaryOp_ (thn (ha pins s σ H _ I h) fun v s1 ⟨x,H1,I1,r1,q1⟩=>ho pins s1 σ H1 x v Q I1 r1 q1)
def opI{f:Value->Value->Sem Value}{C:Int->Int->Prop}{g:Int->Int->Int}
  (rule:∀(i j:Int)(t u:Tok)(s:qJ5)(Q:Value->qJ5->Prop)(E:Value->qJ5->Prop),C i j->Q (.int (g i j) s.toks) { s with toks:=s.toks+1 }->wpAny (model X.prog X.w) X.A (f (.int i t) (.int j u)) Q E s) :
  OpR X f (rI C fun i j=>.int (g i j)):=by
 intro pins s σ H x y v u Q I rx ry h;obtain⟨i,j,rfl,rfl,hc,q⟩:=h;obtain⟨t,rfl⟩:=rx;obtain⟨t',rfl⟩:=ry;exact rule i j t t' s _ _ hc ⟨.int (g i j),H,I.tok _,⟨_,rfl⟩,q⟩
def opI0{f:Value->Value->Sem Value}{g:Int->Int->Int}
  (rule:∀(i j:Int)(t u:Tok)(s:qJ5)(Q:Value->qJ5->Prop)(E:Value->qJ5->Prop),Q (.int (g i j) s.toks) { s with toks:=s.toks+1 }->wpAny (model X.prog X.w) X.A (f (.int i t) (.int j u)) Q E s) :
  OpR X f (rI0 fun i j=>.int (g i j)):=by
 intro pins s σ H x y v u Q I rx ry h;obtain⟨i,j,rfl,rfl,q⟩:=h;obtain⟨t,rfl⟩:=rx;obtain⟨t',rfl⟩:=ry;exact rule i j t t' s _ _ ⟨.int (g i j),H,I.tok _,⟨_,rfl⟩,q⟩
def opB0{f:Value->Value->Sem Value}{g:Int->Int->Bool}
  (rule:∀(i j:Int)(t u:Tok)(s:qJ5)(Q:Value->qJ5->Prop)(E:Value->qJ5->Prop),Q (.bool (g i j)) s->wpAny (model X.prog X.w) X.A (f (.int i t) (.int j u)) Q E s) :
  OpR X f (rI0 fun i j=>.bl (g i j)):=by
 intro pins s σ H x y v u Q I rx ry h;obtain⟨i,j,rfl,rfl,q⟩:=h;obtain⟨t,rfl⟩:=rx;obtain⟨t',rfl⟩:=ry;exact rule i j t t' s _ _ ⟨.bl (g i j),H,I,rfl,q⟩
def CPow(i j:Int):Prop:=0<=j/\j<=1000000/\i.natAbs<2 ^ 64
def CMul(i j:Int):Prop:=(-(2 ^ 64)<i/\i<2 ^ 64)\/(-(2 ^ 64)<j/\j<2 ^ 64)
def CMul.ok{i j:Int}(h:CMul i j):IntMulOk i j:=by
 rcases h with⟨h1,h2⟩|⟨h1,h2⟩
 ·exact .of_left (intBits_le_64 h1 h2)
 ·exact .of_right (intBits_le_64 h1 h2)
def zdV:OpR X (binaryOp .Add) (rI0 fun i j=>.int (i+j)):=opI0 fun _ _ _ _ _ _ _ q=>add_int q
def zdO:OpR X (binaryOp .Sub) (rI0 fun i j=>.int (i-j)):=opI0 fun _ _ _ _ _ _ _ q=>sub_int q
def zdS:OpR X (binaryOp .Mod) (rI (fun _ j=>0<j) fun i j=>.int (i%j)):=opI fun i j _ _ _ _ _ hc q=>by
 have h1:(0:Int)<j:=hc;exact mod_int' (by omega) (by rw[Int.fmod_eq_emod_of_nonneg i (by omega)];exact q)
def zdQ:OpR X (binaryOp .Pow) (rI CPow fun i j=>.int (i ^ j.toNat)):=opI fun _ _ _ _ _ _ _ hc q=>pow_int_small hc.1 hc.2.1 hc.2.2 q
def zdN:OpR X (binaryOp .BitXor) (rI0 fun i j=>.int (qKd i j)):=opI0 fun _ _ _ _ _ _ _ q=>xor_int q
def unI{f:Value->Sem Value}{g:Int->Int}
  (rule:∀(i:Int)(t:Tok)(s:qJ5)(Q:Value->qJ5->Prop)(E:Value->qJ5->Prop),Q (.int (g i) s.toks) { s with toks:=s.toks+1 }->wpAny (model X.prog X.w) X.A (f (.int i t)) Q E s) :
  UnR X f (rU fun i=>.int (g i)):=by
 intro pins s σ H x v Q I rx h;obtain⟨i,rfl,q⟩:=h;obtain⟨t,rfl⟩:=rx;exact rule i t s _ _ ⟨.int (g i),H,I.tok _,⟨_,rfl⟩,q⟩
def zcG:UnR X (unaryOp .USub) (rU fun i=>.int (-i)):=unI fun _ _ _ _ _ q=>neg_int q
end
def scal:V->V->Bool
 |.non,.non=>true | .non,.int _=>true | .int _,.non=>true | .non,.bl _=>true | .bl _,.non=>true | .non,.str _=>true | .str _,.non=>true
 |.int _,.int _=>true | .bl _,.bl _=>true | .str _,.str _=>true | .byt _,.byt _=>true
 |.int _,.str _=>true | .str _,.int _=>true | .bl _,.str _=>true | .str _,.bl _=>true
 |_,_=>false
def rEq:R2:=fun x y H Q=>scal x y=true/\Q (.bl (decide (x=y))) H
def rNe:R2:=fun x y H Q=>scal x y=true/\Q (.bl (!decide (x=y))) H
def zU9{i j:Int}:decide (V.int i=V.int j)=(i==j):=by
 rw[qDm];simp
def dec_bl{i j:Bool}:decide (V.bl i=V.bl j)=(i==j):=by
 rw[qDm];simp
def zU8{i j:Str}:decide (V.str i=V.str j)=(i==j):=by
 rw[qDm];simp
def zUA{i j:Array UInt8}:decide (V.byt i=V.byt j)=(i.toList==j.toList):=by
 rw[qDm];cases i;cases j;simp
section
variable{X:Cx}{a b:Expr}{ta tb:TE}{pos:Pos}
def fin_bl{pins:List (Addr×Obj)}{σ:St}{H:Hp}{s:qJ5}{Q:VK}{k k':Bool}(I:Inv X pins σ H s)(q:Q (.bl k) H)(e:k=k'):EP X pins σ Q (.bool k') s:=by
 subst e;exact⟨.bl k,H,I,rfl,q⟩
def zg6:OpR X (compareOp .Eq) rEq:=by
 intro pins s σ H x y v u Q I rx ry h;obtain⟨hs,q⟩:=h;cases x with
 |non=>
  cases rx;cases y with
  |non=>cases ry;exact qHn (fin_bl I q (by simp))
  |bl j=>cases ry;exact qHo (fin_bl I q (by simp))
  |int j=>obtain⟨t',rfl⟩:=ry;exact qI0 (fin_bl I q (by simp))
  |str j=>obtain⟨t',rfl⟩:=ry;exact qI1 (fin_bl I q (by simp))
  |_=>exact absurd (show false=true from hs) qAh
 |bl i=>
  cases rx;cases y with
  |non=>cases ry;exact qHp (fin_bl I q (by simp))
  |bl j=>cases ry;exact eq_bool (fin_bl I q dec_bl)
  |str j=>obtain⟨t',rfl⟩:=ry;exact qHq (fin_bl I q (by simp))
  |_=>exact absurd (show false=true from hs) qAh
 |int i=>
  obtain⟨t,rfl⟩:=rx;cases y with
  |non=>cases ry;exact qI2 (fin_bl I q (by simp))
  |int j=>obtain⟨t',rfl⟩:=ry;exact eq_int (fin_bl I q zU9)
  |str j=>obtain⟨t',rfl⟩:=ry;exact qI3 (fin_bl I q (by simp))
  |_=>exact absurd (show false=true from hs) qAh
 |str i=>
  obtain⟨t,rfl⟩:=rx;cases y with
  |non=>cases ry;exact qI4 (fin_bl I q (by simp))
  |bl j=>cases ry;exact qHr (fin_bl I q (by simp))
  |int j=>obtain⟨t',rfl⟩:=ry;exact qI5 (fin_bl I q (by simp))
  |str j=>obtain⟨t',rfl⟩:=ry;exact eq_str (fin_bl I q zU8)
  |_=>exact absurd (show false=true from hs) qAh
 |byt i=>
  obtain⟨t,rfl⟩:=rx;cases y with
  |byt j=>obtain⟨t',rfl⟩:=ry;exact PySem.W.eq_bytes (fin_bl I q zUA)
  |_=>exact absurd (show false=true from hs) qAh
 |_=>cases y<;>exact absurd (show false=true from hs) qAh
def zg2:OpR X (compareOp .NotEq) rNe:=by
 intro pins s σ H x y v u Q I rx ry h;obtain⟨hs,q⟩:=h;cases x with
 |non=>
  cases rx;cases y with
  |non=>cases ry;exact qHs (fin_bl I q (by simp))
  |bl j=>cases ry;exact qHt (fin_bl I q (by simp))
  |int j=>obtain⟨t',rfl⟩:=ry;exact qI6 (fin_bl I q (by simp))
  |str j=>obtain⟨t',rfl⟩:=ry;exact qI7 (fin_bl I q (by simp))
  |_=>exact absurd (show false=true from hs) qAh
 |bl i=>
  cases rx;cases y with
  |non=>cases ry;exact qHu (fin_bl I q (by simp))
  |bl j=>cases ry;exact ne_bool (fin_bl I q (congrArg not dec_bl))
  |str j=>obtain⟨t',rfl⟩:=ry;exact qHv (fin_bl I q (by simp))
  |_=>exact absurd (show false=true from hs) qAh
 |int i=>
  obtain⟨t,rfl⟩:=rx;cases y with
  |non=>cases ry;exact qI8 (fin_bl I q (by simp))
  |int j=>obtain⟨t',rfl⟩:=ry;exact ne_int (fin_bl I q (congrArg not zU9))
  |str j=>obtain⟨t',rfl⟩:=ry;exact qI9 (fin_bl I q (by simp))
  |_=>exact absurd (show false=true from hs) qAh
 |str i=>
  obtain⟨t,rfl⟩:=rx;cases y with
  |non=>cases ry;exact qIa (fin_bl I q (by simp))
  |bl j=>cases ry;exact qHw (fin_bl I q (by simp))
  |int j=>obtain⟨t',rfl⟩:=ry;exact qIb (fin_bl I q (by simp))
  |str j=>obtain⟨t',rfl⟩:=ry;exact ne_str (fin_bl I q (congrArg not zU8))
  |_=>exact absurd (show false=true from hs) qAh
 |byt i=>
  obtain⟨t,rfl⟩:=rx;cases y with
  |byt j=>obtain⟨t',rfl⟩:=ry;exact PySem.W.ne_bytes (fin_bl I q (congrArg not zUA))
  |_=>exact absurd (show false=true from hs) qAh
 |_=>cases y<;>exact absurd (show false=true from hs) qAh
def zg3:OpR X (compareOp .Lt) (rI0 fun i j=>.bl (decide (i<j))):=opB0 fun _ _ _ _ _ _ _ q=>lt_int q
def zg4:OpR X (compareOp .LtE) (rI0 fun i j=>.bl (decide (i<=j))):=opB0 fun _ _ _ _ _ _ _ q=>le_int q
def zg5:OpR X (compareOp .Gt) (rI0 fun i j=>.bl (decide (j<i))):=opB0 fun _ _ _ _ _ _ _ q=>gt_int q
def zSM:OpR X (compareOp .In) (fun x y H Q=>∃i j,x=.str i/\y=.str j/\Q (.bl (!(qJq j i 0 j.length 1).isEmpty)) H):=by
 intro pins s σ H x y v u Q I rx ry h;obtain⟨i,j,rfl,rfl,q⟩:=h;obtain⟨t,rfl⟩:=rx;obtain⟨t',rfl⟩:=ry;exact in_str (fin_bl I q rfl)
def zBQ(b:Expr){op:CmpOp}(h:op≠.In:=by decide)(h2:op≠.NotIn:=by decide):qKa op b=false:=by
 have e1:(op==CmpOp.In)=false:=by cases op<;>first|rfl|exact absurd rfl h
 have e2:(op==qNh)=false:=by cases op<;>first|rfl|exact absurd rfl h2
 cases b<;>simp[qKa,e1,e2]
def zHN{op:CmpOp}{r:R2}(ho:OpR X (compareOp op) r)(ha:PE X a ta)(hb:PE X b tb)(hm:qKa op b=false):PE X (.Compare a [op] [b] pos) (tOp r ta tb):=by
 intro pins s σ H Q I h;exact wpAny_Compare1 (binT ha hb I h fun v u s2 x y H2 I2 rx ry q=>ho pins s2 σ H2 x y v u Q I2 rx ry q) hm
def TruV(K:qA2)(x:V)(H:Hp)(k:Bool):Prop:=
 match x with
 |.non=>k=false
 |.bl b=>k=b
 |.int i=>k=(i != 0)
 |.str y=>y.length<=sizeLine/\k=((y.length:Int) != 0)
 |.byt y=>y.size<=sizeLine/\k=((y.size:Int) != 0)
 |.ref p=>(∃xs,SqL K H p xs/\k = !xs.isEmpty)\/(∃xs,SqT K H p xs/\k = !xs.isEmpty)\/∃kvs,H p=some (.dK kvs)/\k = !kvs.isEmpty
 |_=>False
def zQV{κ:Type}{kvs:List (κ×V)}{vs:List (κ×Value)}(r:KV kvs vs):(!vs.isEmpty) = !kvs.isEmpty:=by
 cases r<;>rfl
def zJJ{xs:List V}{its:List Value}(r:Vals xs its):(!its.toArray.isEmpty) = !xs.isEmpty:=by
 cases r<;>simp
def zHY:(sizeLine:Nat)<2 ^ 63:=by rw[qJw];decide
def zcL:TruR X (fun x H Q=>∃k,TruV X.K x H k/\Q k H):=by
 intro pins s σ H x v Q I rx h;obtain⟨k,e,q⟩:=h;have hl:=zHY;have hs:sizeLine=16777216:=qJw;cases x with
 |non=>
  cases rx;have e':k=false:=e;subst e';exact truthy_none ⟨H,I,q⟩
 |bl b=>
  cases rx;have e':k=b:=e;subst e';exact wpAny_truthy_bool ⟨H,I,q⟩
 |int i=>
  obtain⟨t,rfl⟩:=rx;have e':k=(i != 0):=e;subst e';exact PySem.P.truthy_int ⟨H,I,q⟩
 |str y=>
  obtain⟨t,rfl⟩:=rx;obtain⟨hy,e'⟩:y.length<=sizeLine/\k=((y.length:Int) != 0):=e;subst e';exact PySem.P.truthy_str (by omega) ⟨H,I.tok _,q⟩
 |byt y=>
  obtain⟨t,rfl⟩:=rx;obtain⟨hy,e'⟩:y.size<=sizeLine/\k=((y.size:Int) != 0):=e;subst e';exact PySem.W.truthy_bytes (by omega) ⟨H,I.tok _,q⟩
 |ref p=>
  cases rx;have e':(∃xs,SqL X.K H p xs/\k = !xs.isEmpty)\/(∃xs,SqT X.K H p xs/\k = !xs.isEmpty)\/∃kvs,H p=some (.dK kvs)/\k = !kvs.isEmpty:=e
  rcases e' with⟨xs,hx,e'⟩|⟨xs,hx,e'⟩|⟨kvs,hx,e'⟩
  ·subst e';obtain⟨its,r,pl,hz⟩:=I.list hx;have hlen:=r.length;exact wpAny_truthy_list pl.isList (by simp only[qAg];omega) ⟨H,I.tok _,by rw[zJJ r];exact q⟩
  ·subst e';obtain⟨its,r,pl,hz⟩:=I.tuple hx;have hlen:=r.length;exact truthy_tuple pl (by simp only[qAg];omega) ⟨H,I.tok _,by rw[zJJ r];exact q⟩
  ·subst e';obtain⟨hz,hS,vs,r,m⟩:kvs.length<=sizeLine/\(p==qK9)=false/\∃vs,KV kvs vs/\s.heap.DictOf (zBP X.prog X.w) p vs:=I.hok p _ hx;have hlen:kvs.length=vs.length:=qLd r;exact wpAny_truthy_dict hS m (by omega) ⟨H,I.tok _,by rw[zQV r];exact q⟩
 |_=>exact(show False from e).elim
def zQH:OpR X (binaryOp .Add) (fun x y H Q=>∃i j,x=.str i/\y=.str j/\i.length+j.length<=sizeLine/\Q (.str (i++j)) H):=by
 intro pins s σ H x y v u Q I rx ry h;obtain⟨i,j,rfl,rfl,hz,q⟩:=h;obtain⟨t,rfl⟩:=rx;obtain⟨t',rfl⟩:=ry;exact add_str (fun t' tk=>⟨.str (i++j),H,I.tok _,⟨_,rfl⟩,q⟩) hz
def zCX{x:V}{us:List Value}(r:Vals [x] us):∃u,us=[u]/\RelV x u:=by
 cases r with
 |cons r1 r2=>cases r2;exact⟨_,rfl,r1⟩
def zV8{x y:V}{us:List Value}(r:Vals [x,y] us):∃u w',us=[u,w']/\RelV x u/\RelV y w':=by
 cases r with
 |cons r1 r2=>
  cases r2 with
  |cons r3 r4=>cases r4;exact⟨_,_,rfl,r1,r3⟩
def zUQ(hc:X.calm=true):zCY X (.builtin "min") (fun xs H Q=>∃i j,xs=[.int i,.int j]/\Q (.int (if j<i then j else i)) H):=by
 intro pins s σ H xs us Q I r h;obtain⟨i,j,rfl,q⟩:=h;obtain⟨u,w',rfl,⟨t,rfl⟩,⟨t',rfl⟩⟩:=zV8 r;refine min_two_ints (I.ok.hd hc) fun h' tk k=>⟨_,H,I.kept k,?_,q⟩
 by_cases hj:j<i
 ·rw[if_pos hj,if_pos hj];exact⟨_,rfl⟩
 ·rw[if_neg hj,if_neg hj];exact⟨_,rfl⟩
def zUR:zCY X (.type "int") (fun xs H Q=>(∃i,xs=[.int i]/\Q (.int i) H)\/∃k,xs=[.bl k]/\Q (.int (if k then 1 else 0)) H):=by
 intro pins s σ H xs us Q I r h;rcases h with⟨i,rfl,q⟩|⟨k,rfl,q⟩
 ·obtain⟨u,rfl,t,rfl⟩:=zCX r;exact call_int_int ⟨.int i,H,I,⟨_,rfl⟩,q⟩
 ·obtain⟨u,rfl,r1⟩:=zCX r;cases r1;exact call_int_bool ⟨.int (if k then 1 else 0),H,I.tok _,⟨_,rfl⟩,q⟩
end
structure ObjM(h:Heap)(x dx C:Addr)(mA:Str->Option Value):Prop where
 obj:h.get? x=some (qFo C dx)
 ns:h.Ns1 dx mA
 ne:dx≠x
def zT0{h:Heap}{dx:Addr}{mA:Str->Option Value}(n:h.Ns1 dx mA):∃od,h.get? dx=some od/\∀name,qGf name od=some (mA name):=by
 obtain⟨o,es,ep,ho,hd,hk,_,hm⟩:=n;refine⟨o,ho,fun name=>?_⟩;have e:=hm name;unfold nsFind findBy at e;rw[<- Array.find?_toList]at e;unfold qGf;rw[hd];dsimp only
 split
 ·rename_i y q
  rw[q]at e;exact congrArg some e
 ·rename_i q
  rw[q]at e;have a:es.toList.any (·.refKey)=false:=by
   rw[List.any_eq_false];intro y hy;obtain⟨z,t,hkey⟩:=hk y (Array.mem_toList_iff.mp hy);simp[DictEntry.refKey,hkey]
  have a':¬es.toList.any (·.refKey)=true:=by rw[a];exact qAh
  rw[if_neg a'];exact congrArg some e
def ObjM.look{h:Heap}{x dx C:Addr}{mA:Str->Option Value}(I:ObjM h x dx C mA):∃od,PySem.W.InstAt h x (qFo C dx) C (some od)/\∀name,qGf name od=some (mA name):=
 let⟨od,ho,hl⟩:=zT0 I.ns
 ⟨od,⟨I.obj,rfl,rfl,ho⟩,hl⟩
section
end
section
variable{P:qJ8}{w:World}{H:Hp}{h:Heap}{a C dx:Addr}{fs:List (Str×V)}
def zb0(hok:HOk P w H h)(e:H a=some (.ins C dx fs)):∃mA,ObjM h a dx C mA/\(∀f,RelO (fs.lookup f) (mA f))/\qIm mA (fs.map (·.1))/\fs.length<=1000/\H dx=some (.own a):=by
 obtain⟨d,z,ne,ob,mA,n,r,q⟩:=(show ObjOk P w H h a (.ins C dx fs) from hok a _ e)
 exact⟨mA,⟨ob,n,ne⟩,r,q,z,d⟩
end
structure Cls(K:qA2)(C:Addr):Prop where
 pg:qH5 K C Str.empty=true
 hd:qE0 K C=true
 po:PySem.W.plainOver K C=true
 sa:qAv K (.ref C) "__setattr__" = some (some (.builtin "object.__setattr__"))
def Cls.get{K:qA2}{C:Addr}(c:Cls K C)(f:Str):qH5 K C f=true:=c.pg
def zfB(K:qA2)(C:Addr)(f:Str):Prop:=qAv K (.ref C) f=some none
section
end
section
end
section
variable{X:Cx}{pins:List (Addr×Obj)}{σ:St}{H:Hp}{s:qJ5}{A:qJb}{E:Value->qJ5->Prop}{Q:Value->qJ5->Prop}{c:Value}{b:Bool}
inductive TyOf(K:qA2)(H:Hp):V->Value->Prop where
 |non:TyOf K H .non (.type "NoneType")
 |bl (x:Bool):TyOf K H (.bl x) (.type "bool")
 |int (i:Int):TyOf K H (.int i) (.type "int")
 |str (x:Str):TyOf K H (.str x) (.type "str")
 |flt (x:UInt64):TyOf K H (.flt x) (.type "float")
 |lst {a:Addr} {xs:List V} (e:H a=some (.lst xs)):TyOf K H (.ref a) (.type "list")
 |frz {a:Addr} {o:Obj} {xs:List V} (e:H a=some (.frz o (.lst xs))):TyOf K H (.ref a) (.type "list")
 |tup {a:Addr} {xs:List V} (e:H a=some (.tup xs)):TyOf K H (.ref a) (.type "tuple")
 |dK {a:Addr} {kvs:List (Key×V)} (e:H a=some (.dK kvs)):TyOf K H (.ref a) (.type "dict")
 |dT {a:Addr} {kvs:List (List Key×V)} (e:H a=some (.dT kvs)):TyOf K H (.ref a) (.type "dict")
 |ins {a C dx:Addr} {fs:List (Str×V)} (e:H a=some (.ins C dx fs)) (cl:Cls K C) (ha:qAv K (.ref C) "__class__" = some (some (.builtin "object.__class__")))
   (hn:qE1 K (.builtin "object.__class__") "__get__" = some (some (.builtin "getset_descriptor.__get__"))) (htk:qHb K (.builtin "object.__class__")=some true)
   (hm:qF7 K C (.type "object")=some true):TyOf K H (.ref a) (.ref C)
def zTM{x:V}{u t:Value}(I:Inv X pins σ H s)(rx:RelV x u)(ty:TyOf X.K H x t)(e:qHx X.K t c=some b)(h:∀tk,Q (.bool b) { s with toks:=tk }) :
  wpAny (model X.prog X.w) A (call (.builtin "isinstance") [u,c]) Q E s:=by
 cases ty with
 |non=>cases(show u=qJi from rx);exact qBp PySem.W.kitx_none I.kIn qE2 e (fun z=>nomatch z) h
 |bl y=>cases(show u=qKh y from rx);exact qBp PySem.W.kitx_bool I.kIn qE2 e (fun z=>nomatch z) h
 |int i=>obtain⟨t,q⟩:=(show ∃t,u=qLy i t from rx);cases q;exact qBp PySem.W.kitx_int I.kIn qE2 e (fun z=>nomatch z) h
 |str y=>obtain⟨t,q⟩:=(show ∃t,u=qL1 y t from rx);cases q;exact qBp PySem.W.kitx_str I.kIn qE2 e (fun z=>nomatch z) h
 |flt y=>obtain⟨t,q⟩:=(show ∃t,u=qNg y t from rx);cases q;exact qBp PySem.W.kitx_float I.kIn qE2 e (fun z=>nomatch z) h
 |@lst a xs ea=>
  cases(show u=qJc a from rx)
  obtain⟨_,_,n,_,h1⟩:=(show ObjOk X.prog X.w H s.heap a (.lst xs) from I.hok a _ ea)
  exact qBp qGu I.kIn ⟨_,h1,rfl⟩ e (fun z=>nomatch z) h
 |@frz a ob xs ea=>
  cases(show u=qJc a from rx)
  obtain⟨_,_,_,n,_,h1⟩:=(show ObjOk X.prog X.w H s.heap a (.frz ob (.lst xs)) from I.hok a _ ea)
  exact qBp qGu I.kIn ⟨_,h1,rfl⟩ e (fun z=>nomatch z) h
 |@tup a xs ea=>
  cases(show u=qJc a from rx)
  obtain⟨_,_,_,p⟩:=(show ObjOk X.prog X.w H s.heap a (.tup xs) from I.hok a _ ea)
  obtain⟨o,h1,h2,_⟩:=p;exact qBp PySem.W.kitx_tuple I.kIn ⟨o,h1,h2⟩ e (fun z=>nomatch z) h
 |@dK a kvs ea=>
  cases(show u=qJc a from rx)
  obtain⟨_,_,vs,_,p⟩:=(show ObjOk X.prog X.w H s.heap a (.dK kvs) from I.hok a _ ea)
  obtain⟨o,es,ep,h1,h2,_⟩:=p;exact qBp qGv I.kIn ⟨o,h1,h2.1⟩ e (fun z=>nomatch z) h
 |@dT a kvs ea=>
  cases(show u=qJc a from rx)
  obtain⟨_,_,xs,_,o,es,ep,h1,h2,_⟩:=(show ObjOk X.prog X.w H s.heap a (.dT kvs) from I.hok a _ ea)
  exact qBp qGv I.kIn ⟨o,h1,h2.1⟩ e (fun z=>nomatch z) h
 |@ins a C dx fs ea cl ha hn htk hm=>
  cases(show u=qJc a from rx)
  obtain⟨mA,O,_⟩:=zb0 I.hok ea;obtain⟨od,J,_⟩:=O.look;exact qBp (PySem.W.kitx_own (cl.get _) cl.hd ha hn htk hm) I.kIn J e (fun z=>nomatch z) h
end
structure Room(k:Nat)(A:qJb):Prop where
 hd:A.handled=none
 dp:A.depth+3*k+5<recursionLimit
 un:A.units+16*k+200<cLine
def Room.mono{j k:Nat}{A:qJb}(r:Room k A)(h:j<=k):Room j A:=⟨r.hd,by have:=r.dp;omega,by have:=r.un;omega⟩
def Room.deeper{k:Nat}{A:qJb}(r:Room (k+1) A)(env:Env):Room k (A.deeper env):=
 ⟨r.hd,by have:=r.dp;show A.depth+1+3*k+5<_;omega,by have:=r.un;show A.units+3+16*k+200<_;omega⟩
def zQQ{A:qJb}{C:Addr}{us:List Value}{kw:List (Str×Value)}:(A.under (.builtin "type.__call__" ⟨.ref C::us,kw⟩)).depth=A.depth+1:=by
 first|rfl|simp[qMe,Code.weight,Code.isCreation,Code.isGuard,Code.isCaller,Code.frames,qMf,guardIds]
def zQP{A:qJb}{C:Addr}{us:List Value}{kw:List (Str×Value)}:(A.under (.builtin "type.__call__" ⟨.ref C::us,kw⟩)).units=A.units+1:=by
 first|rfl|simp[qMe,Code.cUnits,Code.frames,qMf]
def Room.make{k:Nat}{A:qJb}(r:Room (k+1) A)(C:Addr)(us:List Value)(kw:List (Str×Value)):Room k (A.under (.builtin "type.__call__" ⟨.ref C::us,kw⟩)):=
 ⟨r.hd,by have:=r.dp;rw[zQQ];omega,by have:=r.un;rw[zQP];omega⟩
def Room.depth{k:Nat}{A:qJb}(r:Room k A):A.depth<recursionLimit:=by have:=r.dp;omega
def Room.units{k:Nat}{A:qJb}(r:Room k A):A.units+64<cLine:=by have:=r.un;omega
def tNil:TA:=fun _ H Q=>Q [] H
def zES(ta:TE)(tr:TA):TA:=fun σ H Q=>ta σ H fun x H1=>tr σ H1 fun xs H2=>Q (x::xs) H2
section
variable{X:Cx}{e:Expr}{es:List Expr}{te:TE}{t:TA}{pos:Pos}
def zA4:PA X [] tNil:=fun _ _ _ _ H Q I h=>Calls.spliced_nil ⟨[],H,I,.nil,h⟩
def zA1(ha:PE X e te)(hr:PA X es t)(hs:starEach (e::es) X.env=(false,eval e X.env)::starEach es X.env:=by rfl):PA X (e::es) (zES te t):=by
 intro pos pins s σ H Q I h;rw[hs];show wpAny _ _ (spliced ((false,eval e X.env)::backTo pos (starEach es X.env))) _ _ s;refine Calls.spliced_cons (thn (ha pins s σ H _ I h) fun u s1 z0=>?_);obtain⟨x,H1,I1,r1,q1⟩:=z0;exact thn (hr pos pins s1 σ H1 _ I1 q1) fun us s2 ⟨xs,H2,I2,r2,q2⟩=>⟨x::xs,H2,I2,.cons r1 r2,q2⟩
def tTup(t:TA):TE:=fun σ H Q=>t σ H fun xs H1=>xs.length<=sizeLine/\∀p,H1 p=none->Q (.ref p) (upd H1 p (.tup xs))
def tLst(t:TA):TE:=fun σ H Q=>t σ H fun xs H1=>xs.length<=sizeLine/\∀p,H1 p=none->Q (.ref p) (upd H1 p (.lst xs))
def zSD{x1}(h:PA X es t):PE X (.Tuple es x1 pos) (tTup t):=by
 intro pins s σ H Q I hq;refine wpAny_Tuple_spliced (thn (h pos pins s σ H _ I hq) fun us s1 ⟨xs,H1,I1,r,z,q⟩=>⟨by rw[<- r.length];exact z,?_⟩);have hf:H1 s1.heap.objs.size=none:=I1.hok.fresh (qAa _);refine⟨.ref s1.heap.objs.size,upd H1 s1.heap.objs.size (.tup xs),I1.laid (t':=s1.toks) (fun b u e=>qJ4 _ e) (qAa _) ?_,rfl,q _ hf⟩;exact⟨z,us,r,⟨_,qJ7 _ rfl,rfl,_,rfl⟩⟩
def zDT(h:PA X es t):PE X (.List es pos) (tLst t):=by
 intro pins s σ H Q I hq;refine wpAny_List_spliced (thn (h pos pins s σ H _ I hq) fun us s1 ⟨xs,H1,I1,r,z,q⟩=>⟨by rw[<- r.length];exact z,?_⟩);have hf:H1 s1.heap.objs.size=none:=I1.hok.fresh (qAa _);refine⟨.ref s1.heap.objs.size,upd H1 s1.heap.objs.size (.lst xs),I1.laid (t':=s1.toks) (fun b u e=>qJ4 _ e) (qAa _) ?_,rfl,q _ hf⟩;exact⟨z,us,0,r,qJ7 _ rfl⟩
end
abbrev Sp:=List V->Hp->VK->XK->Prop
abbrev CXT:=List Env->Hp->qJ5->XK->Value->qJ5->Prop
structure Env0(P:qJ8)(w:World)(K:qA2)(mg:Str->Option Value)(base:Heap)(A:qJb)(outer:List Env)(s:qJ5)(H:Hp):Prop where
 frames:A.frames=some outer
 mod:Mod K mg base
 bs:∀b o,base.get? b=some o->s.heap.get? b=some o/\H b=none
 bsz:base.objs.size<=s.heap.objs.size
 funs:s.heap.FunFrames base outer
 frf:∀b∈frs outer,H b=none
 hok:HOk P w H s.heap
 bare:qLe s.gens
def CE(outer:List Env)(P:qJ8)(w:World)(H:Hp)(s:qJ5)(Q:VK)(u:Value)(s':qJ5):Prop:=
 ∃v H',s'.os=s.os/\qLe s'.gens/\Un (frs outer) [] H H' s.heap s'.heap/\HOk P w H' s'.heap/\RelV v u/\Q v H'
def CR(CX:CXT)(outer:List Env)(P:qJ8)(w:World)(H:Hp)(s:qJ5)(Q:VK)(E:XK)(r:qMg)(s':qJ5):Prop:=
 match r with
 |.ok (.ret u)=>CE outer P w H s Q u s'
 |.ok _=>False
 |.error e=>CX outer H s E e s'
structure FnOk(P:qJ8)(w:World)(K:qA2)(mg:Str->Option Value)(base:Heap)(CX:CXT)(k:Nat)(f:Addr)(fd:qJr)(ps:List Str)(sp:Sp):Prop where
 len:∀vs H Q E,sp vs H Q E->vs.length=ps.length
 run:∀(A:qJb)(outer:List Env)(s:qJ5)(H:Hp)(args:Args)(us:List Value)(vs:List V)(Q:VK)(E:XK),Room k A->Env0 P w K mg base A outer s H->qM6 s fd args (ps.zip us)->Vals vs us->sp vs H Q E ->
  qKr (model P w) A (.call (.ref f) args) (CR CX outer P w H s Q E) s
def FnOk.imp{P:qJ8}{w:World}{K:qA2}{mg:Str->Option Value}{base:Heap}{CX:CXT}{k:Nat}{f:Addr}{fd:qJr}{ps:List Str}{sp sp':Sp}(F:FnOk P w K mg base CX k f fd ps sp)
  (h:∀vs H Q E,sp' vs H Q E->sp vs H Q E):FnOk P w K mg base CX k f fd ps sp':=
 ⟨fun vs H Q E q=>F.len vs H Q E (h _ _ _ _ q),fun A outer s H args us vs Q E hr he hb hv hs=>F.run A outer s H args us vs Q E hr he hb hv (h _ _ _ _ hs)⟩
def Env0.make{P:qJ8}{w:World}{K:qA2}{mg:Str->Option Value}{base:Heap}{A:qJb}{outer:List Env}{s:qJ5}{H:Hp}(e:Env0 P w K mg base A outer s H)(C:Addr)(us:List Value)(kw:List (Str×Value)) :
  Env0 P w K mg base (A.under (.builtin "type.__call__" ⟨.ref C::us,kw⟩)) outer s H:=⟨by first|exact e.frames|(simpa[qMe,Code.envs,qMf,pushEnvs]using e.frames),e.mod,e.bs,e.bsz,e.funs,e.frf,e.hok,e.bare⟩
section
variable{X:Cx}{pins:List (Addr×Obj)}{σ:St}{H:Hp}{s s':qJ5}
def Inv.env0(I:Inv X pins σ H s):Env0 X.prog X.w X.K X.mg X.base X.A X.stack s H:=
 ⟨I.ok.frames,I.ok.mod,I.bs,qAq I.ok.bsz I.sz,I.stack,I.stkFree,I.hok,I.bare⟩
def Inv.after{Q:VK}{u:Value}(I:Inv X pins σ H s)(h:CE X.stack X.prog X.w H s Q u s'):EP X pins σ Q u s':=by
 obtain⟨v,H',os,bare,un,hok,r,q⟩:=h;obtain⟨hh,g,d,t,os'⟩:=s';obtain rfl:os'=s.os:=os;exact⟨v,H',I.call (h':=hh) (g':=g) (d':=d) (t':=t) (ch:=[]) un hok bare (fun b z=>absurd z (by simp)),r,q⟩
end
def zLJ(sp:Sp)(dvs:List V)(E:XK)(t:TA):TE:=fun σ H Q=>t σ H fun vs H1=>sp (vs++dvs) H1 Q E
def Binds(K:qA2)(fd:qJr)(ps:List Str)(ds:List Value):Prop:=
 ∀(s:qJ5)(us:List Value),K.In s.heap->(us++ds).length=ps.length->qM6 s fd ⟨us,[]⟩ (ps.zip (us++ds))
def Binds.all{K:qA2}{fd:qJr}{ps:List Str}(h:∀us:List Value,us.length=ps.length->qM2 fd ⟨us,[]⟩=pure (ps.zip us)):Binds K fd ps []:=fun s us _ hl=>by
 rw[qD4]at hl ⊢;exact .of_eq (h us hl)
def zJS(CX:CXT)(X:Cx)(E:XK):Prop:=∀(pins:List (Addr×Obj))(σ:St)(H:Hp)(s:qJ5)(e:Value)(s':qJ5),Inv X pins σ H s->CX X.stack H s E e s'->X.xe e s'
section
variable{X:Cx}{CX:CXT}{k:Nat}{f:Addr}{fd:qJr}{ps:List Str}{sp:Sp}{dvs:List V}{ds:List Value}{E:XK}{x:Str}{p pos:Pos}{e:Expr}{es:List Expr}{t:TA}
def zcU{pins:List (Addr×Obj)}{σ:St}{H:Hp}{s:qJ5}{Q:VK}{us:List Value}{vs:List V}(F:FnOk X.prog X.w X.K X.mg X.base CX k f fd ps sp)(hr:Room k X.A)(hb:Binds X.K fd ps ds)(hd:Vals dvs ds)(hx:zJS CX X E)
  (I:Inv X pins σ H s) (r:Vals vs us) (h:sp (vs++dvs) H Q E):wpAny (model X.prog X.w) X.A (call (.ref f) us) (EP X pins σ Q) X.xe s:=by
 have r2:Vals (vs++dvs) (us++ds):=r.append hd;have hl:(us++ds).length=ps.length:=by rw[<- r2.length];exact F.len _ _ _ _ h
 refine wpAny_call (codeAny_mono (F.run X.A X.stack s H ⟨us,[]⟩ (us++ds) (vs++dvs) Q E hr I.env0 (hb s us I.kIn hl) r2 h) fun r s' hq=>?_);cases r with
 |error e=>exact hx pins σ H s e s' I hq
 |ok fl=>
  cases fl with
  |ret u=>exact I.after hq
  |next=>exact qA3 hq
  |brk=>exact qA3 hq
  |cont=>exact qA3 hq
def zSF(F:FnOk X.prog X.w X.K X.mg X.base CX k f fd ps sp)(hr:Room k X.A)(hg:Gl X x)(hm:X.mg x=some (.ref f))(hk:qBj X.K (.ref f)=true)(hb:Binds X.K fd ps ds)(hd:Vals dvs ds)(hx:zJS CX X E)
  (ha:PA X (e::es) t) (hdb:(x==("__debug__":Str))=false:=by decide) (he:starEach (e::es) X.env=(false,eval e X.env)::starEach es X.env:=by rfl) (hpl:(backTo pos (starEach es X.env)).any (·.1)=false:=by rfl) :
  PE X (.Call (.Name x p) (e::es) [] pos) (zLJ sp dvs E t):=by
 intro pins s σ H Q I h;refine qK3 (zI1 I hg hm ?_ hdb);refine qEr (h₀:=X.base) I.ok.mod.kin hk (thn (ha pos pins s σ H _ I h) fun us s1 ⟨vs,H1,I1,r,q⟩=>⟨I1.kIn,?_⟩) he hpl;exact zcU F hr hb hd hx I1 r q
end
section
end
structure FnScope(N P:List Str)(sc:Scope):Prop where
 kind:sc.kind=.function
 co:sc.isCoroutine=false
 gen:sc.isGenerator=false
 nd:N.Nodup
 pre:N.take P.length=P
 par:∀x∈P,sc.names.lookup x=some .local\/sc.names.lookup x=some .cell
 nofree:∀y∈sc.names,y.2≠.free
def zN7{kindOf:Str->Option qKb}{x:Str}:∀{binds:List (Str×Value)}{m:Str->Option Value},(∀v,(x,v)∉binds)->bindL kindOf binds m x=m x
 |[],_,_=>rfl
 |(n,v)::r,m,h=>by
  unfold bindL;rw[zN7 fun w hw=>h w (qAz _ hw)]
  split
  ·have:x≠n:=by rintro rfl;exact h v qB4
   simp[this]
  ·rfl
def zN9{kindOf:Str->Option qKb}{x:Str}:∀{binds:List (Str×Value)}{m:Str->Option Value},(∀v,(x,v)∉binds)->bindC kindOf binds m x=m x
 |[],_,_=>rfl
 |(n,v)::r,m,h=>by
  unfold bindC;rw[zN9 fun w hw=>h w (qAz _ hw)]
  split
  ·rfl
  ·have:x≠n:=by rintro rfl;exact h v qB4
   simp[this]
def zN8{kindOf:Str->Option qKb}{x:Str}{v:Value}:∀{P:List Str}{vs:List Value}{i:Nat}{m:Str->Option Value},P.Nodup->P[i]?=some x->vs[i]?=some v->kindOf x=some .local ->
  bindL kindOf (P.zip vs) m x=some v
 |[],_,_,_,_,h,_,_=>by simp at h
 |_::_,[],_,_,_,_,h,_=>by simp at h
 |p::P,w::vs,0,m,nd,h1,h2,hk=>by
  simp at h1 h2;subst h1;subst h2;show bindL kindOf ((p,w)::P.zip vs) m p=_;unfold bindL;rw[zN7 fun v hv=>(qBk.mp nd).1 (qDn hv).1,if_pos hk];simp
 |p::P,w::vs,i+1,m,nd,h1,h2,hk=>by
  show bindL kindOf ((p,w)::P.zip vs) m x=_;unfold bindL;exact zN8 (i:=i) (qBk.mp nd).2 (by simpa using h1) (by simpa using h2) hk
def zNA{kindOf:Str->Option qKb}{x:Str}{v:Value}:∀{P:List Str}{vs:List Value}{i:Nat}{m:Str->Option Value},P.Nodup->P[i]?=some x->vs[i]?=some v->kindOf x≠some .local ->
  bindC kindOf (P.zip vs) m x=some v
 |[],_,_,_,_,h,_,_=>by simp at h
 |_::_,[],_,_,_,_,h,_=>by simp at h
 |p::P,w::vs,0,m,nd,h1,h2,hk=>by
  simp at h1 h2;subst h1;subst h2;show bindC kindOf ((p,w)::P.zip vs) m p=_;unfold bindC;rw[zN9 fun v hv=>(qBk.mp nd).1 (qDn hv).1,if_neg hk];simp
 |p::P,w::vs,i+1,m,nd,h1,h2,hk=>by
  show bindC kindOf ((p,w)::P.zip vs) m x=_;unfold bindC;exact zNA (i:=i) (qBk.mp nd).2 (by simpa using h1) (by simpa using h2) hk
def start(N:List Str)(vs:List V):St:=vs.map some++qA8 (N.length-vs.length) none
def cxOf(CX:CXT)(P:qJ8)(w:World)(K:qA2)(mg:Str->Option Value)(base:Heap)(N:List Str)(qual:Str)(scope:Scope)(f:Addr)(cd:Value)(A:qJb)(outer:List Env)(s:qJ5)(H:Hp)(E:XK):Cx where
 prog:=P
 w:=w
 K:=K
 mg:=mg
 base:=base
 A:=A.deeper (envOfC qual scope s.heap.objs.size f cd)
 N:=N
 s₀:=s
 H₀:=H
 env:=envOfC qual scope s.heap.objs.size f cd
 outer:=outer
 stack:=envOfC qual scope s.heap.objs.size f cd::outer
 ex:=[]
 calm:=true
 fn:=fun _=>true
 pn:=[]
 xe:=fun e s'=>wpAny (model P w) (A.deeper (envOfC qual scope s.heap.objs.size f cd)) (leaving (envOfC qual scope s.heap.objs.size f cd) e) (fun _ s''=>CX outer H s E e s'') (fun e' s''=>CX outer H s E e' s'') s'
def zPW{sc:Scope}{n:Nat}{x:Str}(h:sc.names.lookup x=some .cell):∃c,(cellsFrom n sc.names []).lookup x=some c:=by
 have q:=qDy sc.names n [] (.inl h);exact qEz.mp q
def zTN{CX:CXT}{P:qJ8}{w:World}{K:qA2}{mg:Str->Option Value}{base:Heap}{N ps:List Str}{qual:Str}{scope:Scope}{f:Addr}{cd:Value}{A:qJb}{outer:List Env}{s s1:qJ5}{H:Hp}{E:XK}{us:List Value}{vs:List V}
  (S:FnScope N ps scope) (hd:A.handled=none) (e0:Env0 P w K mg base A outer s H) (hl:vs.length=ps.length) (r:Vals vs us)
  (x:InCallC s s.heap.objs.size (bindL (envOfC qual scope s.heap.objs.size f cd).kindOf (ps.zip us) fun _=>none) (cellsFrom (s.heap.objs.size+1) scope.names []) (bindC (envOfC qual scope s.heap.objs.size f cd).kindOf (ps.zip us) fun _=>none) s1) :
  Inv (cxOf CX P w K mg base N qual scope f cd A outer s H E) [] (start N vs) H s1:=by
 have hpl:ps.length<=N.length:=by have:=congrArg List.length S.pre;rw[qCg]at this;omega
 obtain⟨h1,tk,rfl,hk⟩:=x.done;have noA:∀b:Addr,b∉(cxOf CX P w K mg base N qual scope f cd A outer s H E).ex:=fun b z=>absurd (show b∈([]:List Addr) from z) (by simp)
 refine⟨⟨e0.mod,S.kind,rfl,rfl,qAa _,fun y z c h1 h2=>?_,fun y hy=>?_,fun y c _ h=>?_,fun _=>hd,Around.frames_deeper e0.frames,.inr ⟨rfl,rfl⟩,fun b z=>absurd z (noA b),e0.bs,e0.bsz,fun b _ _=>noA b,fun b z=>absurd z (noA b),e0.funs,e0.frf⟩,
  rfl,e0.bare,Un.kept hk,⟨_,x.toInCall.ns,fun i y v h1 h2 h3=>?_⟩,fun y c h=>⟨_,x.cell y c h⟩,e0.hok.fresh (qAa _),fun y c h=>?_,fun p hp=>absurd (show p∈([]:List (Addr×Obj)) from hp) (by simp),e0.hok.kept hk,?_⟩
 ·exact name_of_addr x.apart (qCw h1) (qCw h2)
 ·have hy:scope.names.lookup y=some .cell\/scope.names.lookup y=some .free:=hy
  rcases hy with hy|hy
  ·exact zPW hy
  ·exact absurd rfl (S.nofree _ (qCw hy))
 ·exact qD3 (x.above y c (qCw h))
 ·have hi:i<vs.length:=by
   unfold start at h2;by_cases hi:i<vs.length
   ·exact hi
   ·rw[qA7 (by simpa using hi)]at h2;rw[qCc]at h2
    split at h2<;>cases h2
  have ha:vs[i]?=some v:=by
   unfold start at h2;rw[qA9 (by simpa using hi),qAb]at h2;cases e:vs[i]? with
   |none=>rw[e]at h2;cases h2
   |some a=>rw[e]at h2;cases h2;rfl
  obtain⟨u,hu,rv⟩:=r.get ha;have hp:ps[i]?=some y:=by
   rw[<- S.pre,List.getElem?_take_of_lt (by omega)];exact h1
  have ndP:ps.Nodup:=by rw[<- S.pre];exact S.nd.sublist (qGw _ _)
  refine⟨u,rv,?_⟩;rcases S.par y (qB3 hp)with k|k
  ·exact .inl ⟨k,zN8 ndP hp hu k⟩
  ·obtain⟨c,e⟩:=zPW (n:=s.heap.objs.size+1) k;refine .inr ⟨.inl k,c,e,?_⟩;have q:=x.cell y c e;rw[zNA ndP hp hu (by show scope.names.lookup y≠_;rw[k];decide)]at q;exact q
 ·exact e0.hok.fresh (qD3 (x.above y c (qCw h)))
 ·unfold start;show _=N.length;rw[qAo,qAe,qCk];omega
def zeN{CX:CXT}{P:qJ8}{w:World}{K:qA2}{mg:Str->Option Value}{base:Heap}{k:Nat}{f:Addr}{name qual:Str}{params:Arguments}{body:List Stmt}{scope:Scope}{dV kV doc pm cdv ct oc:Value}{an od:Option Addr}
  {osl:Array (Option Value)} {N ps:List Str} {sp:Sp} (lk:K.lookup f=some ⟨oc,od,.func (qBt name qual params body scope dV kV doc pm an cdv ct),osl⟩) (hcd:qDd K cdv qual=true) (S:FnScope N ps scope)
  (len:∀vs H Q E,sp vs H Q E->vs.length=ps.length)
  (hbody:∀(A:qJb)(outer:List Env)(s:qJ5)(H:Hp)(vs:List V)(Q:VK)(E:XK),Room k (A.deeper (envOfC qual scope s.heap.objs.size f cdv))->sp vs H Q E ->
   ∃t,PSs (cxOf CX P w K mg base N qual scope f cdv A outer s H E) body t/\t { nx:=fun _ H'=>Q .non H',rt:=Q } (start N vs) H) :
  FnOk P w K mg base CX (k+1) f (qBt name qual params body scope dV kV doc pm an cdv ct) ps sp:=by
 refine⟨len,fun A outer s H args us vs Q E hr e0 hb r hsp=>?_⟩;have hl:=len _ _ _ _ hsp;have KX:K.In s.heap:=e0.mod.kin.keeps fun b o e=>(e0.bs b o e).1
 have lim:s.heap.NoLimit:=e0.mod.nolimit.keeps fun b o e=>(e0.bs b o e).1
 have hkind:∀y∈ps.zip us,scope.names.lookup y.1=some .local\/(scope.names.lookup y.1=some .cell/\((cellsFrom (s.heap.objs.size+1) scope.names []).lookup y.1).isSome=true):=fun⟨n,v⟩ hy=>by
  rcases S.par n (qDn hy).1 with q|q
  ·exact .inl q
  ·exact .inr ⟨q,qDy _ _ _ (.inl q)⟩
 refine codeAny_call_function hr.depth (KX _ _ lk) rfl S.co S.gen rfl (PySem.W.codeRec_of KX hcd) (hb _ _ _ _ ?_);refine wpAny_newFunctionEnv_cells S.kind hkind fun env he s1 x=>?_
 subst he;refine⟨lim.keeps x.toInCall.keep,codeAny_func ?_⟩;obtain⟨t,ht,hq⟩:=hbody A outer s H vs Q E (hr.deeper _) hsp;have I:Inv (cxOf CX P w K mg base N qual scope f cdv A outer s H E) [] (start N vs) H s1:=zTN S hr.hd e0 hl r x;refine wpAny_mono (ht [] s1 (start N vs) H _ I hq) (fun fl s' hs=>?_) fun e s' hs=>hs
 have fin:∀{σ':St}{H':Hp}{v:V}{u:Value},Inv (cxOf CX P w K mg base N qual scope f cdv A outer s H E) [] σ' H' s'->RelV v u->Q v H'->CE outer P w H s Q u s':=
  fun{σ' H' v u} J rv q=>⟨v,H',J.os,J.bare,J.base,J.hok,rv,q⟩
 cases fl with
 |ret u=>
  obtain⟨v,σ',H',J,rv,q⟩:=hs;exact fin J rv q
 |next=>
  obtain⟨σ',H',J,q⟩:=hs;exact fin (v:=V.non) (u:=qJi) J rfl q
 |brk=>
  obtain⟨_,_,_,q⟩:=hs;exact qA3 q
 |cont=>
  obtain⟨_,_,_,q⟩:=hs;exact qA3 q
section
variable{X:Cx}{x:Str}{p pos:Pos}{e:Expr}{es:List Expr}{t:TA}{id T:String}{r:List V->Hp->VK->Prop}
def tCB(r:List V->Hp->VK->Prop)(t:TA):TE:=fun σ H Q=>t σ H fun vs H1=>r vs H1 Q
def zAJ(hc:zCY X (.builtin id) r)(hg:Gl X x)(hm:X.mg x=none)(hv:qKj x=some (.builtin id))(ha:PA X (e::es) t)(hn:x≠"__name__":=by decide)(hdb:(x==("__debug__":Str))=false:=by decide)
  (he:starEach (e::es) X.env=(false,eval e X.env)::starEach es X.env:=by rfl) (hpl:(backTo pos (starEach es X.env)).any (·.1)=false:=by rfl):PE X (.Call (.Name x p) (e::es) [] pos) (tCB r t):=by
 intro pins s σ H Q I h;refine qK3 (zI2 I hg hm hv ?_ hn hdb);exact qE8 (thn (ha pos pins s σ H _ I h) fun us s1 ⟨vs,H1,I1,r1,q1⟩=>hc pins s1 σ H1 vs us Q I1 r1 q1) he hpl
def zD9(hc:zCY X (.type T) r)(hg:Gl X x)(hm:X.mg x=none)(hv:qKj x=some (.type T))(ha:PA X (e::es) t)(hn:x≠"__name__":=by decide)(hdb:(x==("__debug__":Str))=false:=by decide)
  (he:starEach (e::es) X.env=(false,eval e X.env)::starEach es X.env:=by rfl) (hpl:(backTo pos (starEach es X.env)).any (·.1)=false:=by rfl):PE X (.Call (.Name x p) (e::es) [] pos) (tCB r t):=by
 intro pins s σ H Q I h;refine qK3 (zI2 I hg hm hv ?_ hn hdb);exact qBv (thn (ha pos pins s σ H _ I h) fun us s1 ⟨vs,H1,I1,r1,q1⟩=>hc pins s1 σ H1 vs us Q I1 r1 q1) he hpl
end
end L2
namespace Mi
end Mi
namespace PySem
open Builtin Builtin.Str PySem.Spec
end PySem
namespace PySem
open PyProof.Rows
end PySem
namespace HT
open PySem PyProof.Rows
section
open PySem.SeqAt
open PySem.AutoSeq1 (wpAny_loadPart')
open PySem.MeetsSeq PySem.MeetsSeq2 PySem.MeetsSeq3
end
section
def sIx(n d:Nat):Option Int->Nat
 |none=>d
 |some v=>if v<0 then(v+(n:Int)).toNat else min v.toNat n
end
end HT
namespace L2
open PySem PySem.Spec PyProof.Rows
abbrev TO:=St->Hp->(Option Int->Hp->Prop)->Prop
def PO(X:Cx)(e:Option Expr)(t:TO):Prop:=
 ∀(pins:List (Addr×Obj))(s:qJ5)(σ:St)(H:Hp)(Q:Option Int->Hp->Prop),Inv X pins σ H s->t σ H Q ->
  wpAny (model X.prog X.w) X.A (evalPart e X.env) (fun u s'=>∃o H',Inv X pins σ H' s'/\IsPart u o/\Q o H') X.xe s
def zRI:TO:=fun _ H Q=>Q none H
def zcO(t:TE):TO:=fun σ H Q=>t σ H fun x H1=>∃i,x=.int i/\Q (some i) H1
section
variable{X:Cx}{e:Expr}{te:TE}{lo hi:Option Expr}{tl th:TO}{pos p2:Pos}
def zS6:PO X none zRI:=by
 intro pins s σ H Q I h;rw[evalPart_none];exact wpAny_pure ⟨none,H,I,.none,h⟩
def zK7(h:PE X e te):PO X (some e) (zcO te):=by
 intro pins s σ H Q I hw;rw[evalPart_some];refine thn (h pins s σ H _ I hw) fun u s1 z0=>?_
 obtain⟨x,H1,I1,r1,q1⟩:=z0;obtain⟨i,rfl,q⟩:=q1;obtain⟨t,rfl⟩:=r1;exact⟨some i,H1,I1,.int i t,q⟩
def SlR(X:Cx)(r:V->Option Int->Option Int->Hp->VK->Prop):Prop:=
 ∀(pins:List (Addr×Obj))(s:qJ5)(σ:St)(H:Hp)(x:V)(v vl vu:Value)(lo hi:Option Int)(sl:Addr)(Q:VK),Inv X pins σ H s->RelV x v->s.heap.IsSliceOf sl vl vu .none->IsPart vl lo->IsPart vu hi->r x lo hi H Q ->
  ∃T id,typeLookup (.type T) "__getitem__" = pure (some (.builtin id))/\s.TypeIs v T/\wpAny (model X.prog X.w) X.A (getItem v (.ref sl)) (EP X pins σ Q) X.xe s
def tSl(r:V->Option Int->Option Int->Hp->VK->Prop)(te:TE)(tl th:TO):TE:=fun σ H Q=>te σ H fun x H1=>tl σ H1 fun l H2=>th σ H2 fun u H3=>r x l u H3 Q
def zK9{r:V->Option Int->Option Int->Hp->VK->Prop}(hr:SlR X r)(he:PE X e te)(hl:PO X lo tl)(hu:PO X hi th):PE X (.Subscript e (.Slice lo hi none p2) pos) (tSl r te tl th):=by
 intro pins s σ H Q I h;refine Subscript_ (thn (he pins s σ H _ I h) fun v s1 z0=>?_);obtain⟨x,H1,I1,r1,q1⟩:=z0;refine wpAny_Slice (thn (hl pins s1 σ H1 _ I1 q1) fun vl s2 ⟨l,H2,I2,pl,q2⟩=>thn (hu pins s2 σ H2 _ I2 q2) fun vu s3 ⟨u,H3,I3,pu,q3⟩=>?_);rw[evalPart_none];refine wpAny_pure ?_;have I4:Inv X pins σ H3 { s3 with heap:=s3.heap.push { cls:=.type "slice",data:=.fields #[vl,vu,.none] } }:=I3.kept (t':=s3.toks) fun b ob q=>qJ4 _ q
 obtain⟨T,id,hT,ht,hg⟩:=hr pins { s3 with heap:=s3.heap.push { cls:=.type "slice",data:=.fields #[vl,vu,.none] } } σ H3 x v vl vu l u s3.heap.objs.size Q I4 r1 (qNi ..) pl pu q3;show wpAny (model X.prog X.w) X.A (subscriptTail e (.Slice lo hi none p2) v (.ref s3.heap.objs.size)) (EP X pins σ Q) X.xe { s3 with heap:=s3.heap.push { cls:=.type "slice",data:=.fields #[vl,vu,.none] } };exact tail_any (ops:=[.ref s3.heap.objs.size,v]) ht hT hg (by with_unfolding_all rfl)
def cutV(xs:List V)(lo hi:Option Int):List V:=(xs.drop (HT.sIx xs.length 0 lo)).take (HT.sIx xs.length xs.length hi-HT.sIx xs.length 0 lo)
def zOG(xs:List V)(lo hi:Option Int):(cutV xs lo hi).length<=xs.length:=by
 unfold cutV;rw[qCg,qEf];omega
end
def ixN(n:Nat)(i:Int):Option Nat:=if 0<=i then(if i<n then some i.toNat else none)else if -(n:Int)<=i then some (i+n).toNat else none
def atI{α:Type}(xs:List α)(i:Int):Option α:=(ixN xs.length i).bind fun j=>xs[j]?
def zKO{n:Nat}{i:Int}{j:Nat}(h:ixN n i=some j):qMp i n=some j/\j<n/\-(n:Int)<=i/\i<n:=by
 unfold ixN at h;by_cases h0:0<=i
 ·rw[if_pos h0]at h
  by_cases h1:i<n
  ·rw[if_pos h1]at h;have e:i.toNat=j:=qBc h;exact⟨by rw[qMq h0 h1,e],by omega,by omega,h1⟩
  ·rw[if_neg h1]at h;cases h
 ·rw[if_neg h0]at h
  by_cases h1:-(n:Int)<=i
  ·rw[if_pos h1]at h;have e:(i+n).toNat=j:=qBc h;exact⟨by rw[qMh (by omega) h1,e],by omega,h1,by omega⟩
  ·rw[if_neg h1]at h;cases h
def zOL{α:Type}{xs:List α}{i:Int}{v:α}(h:atI xs i=some v):∃j,qMp i xs.length=some j/\xs[j]?=some v/\j<xs.length/\-(xs.length:Int)<=i/\i<xs.length:=by
 unfold atI at h;cases e:ixN xs.length i with
 |none=>rw[e]at h;cases h
 |some j=>
  rw[e]at h;obtain⟨h1,h2,h3,h4⟩:=zKO e;exact⟨j,h1,h,h2,h3,h4⟩
def zc0(b:Expr):Prop:=∀o i,subscripted b false o i=operate [o,i] (getItem o i)
def IxR(X:Cx)(r:R2):Prop:=
 ∀(value slice:Expr)(pins:List (Addr×Obj))(s:qJ5)(σ:St)(H:Hp)(x y:V)(v u:Value)(Q:VK),Inv X pins σ H s->RelV x v->RelV y u->r x y H Q ->
  subscripted slice false v u=operate [v,u] (getItem v u)->wpAny (model X.prog X.w) X.A (subscriptTail value slice v u) (EP X pins σ Q) X.xe s
def MtR(X:Cx)(id:String)(r:V->List V->Hp->VK->Prop):Prop:=
 ∀(pins:List (Addr×Obj))(s:qJ5)(σ:St)(H:Hp)(x:V)(xs:List V)(v:Value)(us:List Value)(Q:VK),Inv X pins σ H s->RelV x v->Vals xs us->r x xs H Q ->
  wpAny (model X.prog X.w) X.A (call (.builtin id) (v::us)) (EP X pins σ Q) X.xe s
section
variable{X:Cx}{a b:Expr}{ta tb:TE}{pos:Pos}
def zBX{r:R2}(hr:IxR X r)(ha:PE X a ta)(hb:PE X b tb)(hs:zc0 b):PE X (.Subscript a b pos) (tOp r ta tb):=by
 intro pins s σ H Q I h;exact Subscript_ (binT ha hb I h fun v u s2 x y H2 I2 rx ry q=>hr a b pins s2 σ H2 x y v u Q I2 rx ry q (hs _ _))
def rIxL(K:qA2):R2:=fun x y H Q=>∃p xs i v,x=.ref p/\y=.int i/\SqL K H p xs/\atI xs i=some v/\Q v H
def rIxT(K:qA2):R2:=fun x y H Q=>∃p xs i v,x=.ref p/\y=.int i/\SqT K H p xs/\atI xs i=some v/\Q v H
def rIxS:R2:=fun x y H Q=>∃z i c,x=.str z/\y=.int i/\z.length<=sizeLine/\atI z.cps.toList i=some c/\Q (.str ⟨#[c]⟩) H
def zaW:IxR X (rIxL X.K):=by
 intro value slice pins s σ H x y v u Q I rx ry h hs;obtain⟨p,xs,i,z,rfl,rfl,hq,he,q⟩:=h;cases rx;obtain⟨t,rfl⟩:=ry;obtain⟨its,r,pl,hz⟩:=I.list hq;obtain⟨j,h1,h2,h3,h4,h5⟩:=zOL he;obtain⟨w,ew,rw'⟩:=r.get h2;have hl:=r.length;have hn:=zHY;have fin:EP X pins σ Q w s:=⟨z,H,I,rw',q⟩;by_cases h0:0<=i
 ·have hj:i.toNat=j:=by
   rw[qMq h0 h5]at h1;exact qBc h1
  exact item_listR pl.isList h0 (by omega) (by rw[hj];simpa using ew) fin hs
 ·have hj:(i+(its.toArray.size:Int)).toNat=j:=by
   rw[qMh (by omega) h4]at h1;rw[qAg,<- hl];exact qBc h1
  exact qLk (x:=w) pl.isList.typeIs qM7.lookup
   (wpAny_getItem_list_neg (Q:=fun r s'=>r=w/\EP X pins σ Q r s') pl.isList (by omega) (by rw[qAg]<;>omega) (by omega) (by rw[hj];simpa using ew) ⟨rfl,fin⟩) hs
def zeA:IxR X (rIxT X.K):=by
 intro value slice pins s σ H x y v u Q I rx ry h hs;obtain⟨p,xs,i,z,rfl,rfl,hq,he,q⟩:=h;cases rx;obtain⟨t,rfl⟩:=ry;obtain⟨its,r,pl,hz⟩:=I.tuple hq;obtain⟨j,h1,h2,h3,h4,h5⟩:=zOL he;obtain⟨w,ew,rw'⟩:=r.get h2;have hl:=r.length;have hn:=zHY;have fin:EP X pins σ Q w s:=⟨z,H,I,rw',q⟩;exact qLk (x:=w) pl.typeIs slot_tuple_getitem.lookup
  (getItem_tuple (j:=j) (Q:=fun r s'=>r=w/\EP X pins σ Q r s') pl (by omega) (by omega) (by rw[qAg,<- hl];exact h1) (by simpa using ew) ⟨rfl,fin⟩) hs
def zeC:IxR X rIxS:=by
 intro value slice pins s σ H x y v u Q I rx ry h hs;obtain⟨z,i,c,rfl,rfl,hz,he,q⟩:=h;obtain⟨t,rfl⟩:=rx;obtain⟨t',rfl⟩:=ry;obtain⟨j,h1,h2,h3,h4,h5⟩:=zOL he;have hl:z.cps.toList.length=z.length:=by simp[qN0]
 rw[hl]at h1 h4 h5;have hn:=zHY;exact tail_any (typeIs_str s z t) slot_str_getitem.lookup (getItem_str (c:=c) (by
  have e1:decide (i < -(2 ^ 63:Int))=false:=decide_eq_false (by omega);have e2:decide (i>=2 ^ 63)=false:=decide_eq_false (by omega);rw[e1,e2,qIg]) (by rw[h1];simpa using h2) ⟨.str ⟨#[c]⟩,H,I.tok _,⟨_,rfl⟩,q⟩) hs
def zQO(its:List Value)(n j:Nat)(u:Value):qKk (·.setIfInBounds j u) { cls:=.type "list",data:=.seq its.toArray n }={ cls:=.type "list",data:=.seq (its.set j u).toArray n }:=by
 simp[qKk]
def Inv.lst{pins:List (Addr×Obj)}{σ:St}{H:Hp}{s:qJ5}{p:Addr}{xs:List V}(I:Inv X pins σ H s)(h:H p=some (.lst xs)) :
  ∃(its:List Value)(n:Nat),Vals xs its/\s.heap.get? p=some { cls:=.type "list",data:=.seq its.toArray n }/\xs.length<=sizeLine:=by
 obtain⟨z,its,n,r,e⟩:=I.hok p _ h;exact⟨its,n,r,e,z⟩
def Inv.lstUpd{pins:List (Addr×Obj)}{σ:St}{H:Hp}{s:qJ5}{p:Addr}{xs ys:List V}{its its':List Value}{n n':Nat}{f:Obj->Obj}(I:Inv X pins σ H s)(h:H p=some (.lst xs))
  (ho:s.heap.get? p=some { cls:=.type "list",data:=.seq its.toArray n }) (hf:f { cls:=.type "list",data:=.seq its.toArray n }={ cls:=.type "list",data:=.seq its'.toArray n' }) (r:Vals ys its') (hz:ys.length<=sizeLine) (t:Nat) :
  Inv X pins σ (upd H p (.lst ys)) { s with heap:=s.heap.update p f,toks:=t }:=by
 have e:(s.heap.update p f).get? p=some { cls:=.type "list",data:=.seq its'.toArray n' }:=by
  rw[qJ9 f ho (by rw[hf]<;>rfl),hf]
 refine I.write (x:=p) (e:=p) (by rw[h];trivial) (.inl rfl) (fun b u hb q=>(qJa _ _ (qCv hb)).trans q) ⟨_,e⟩ ?_;exact⟨hz,its',n',r,e⟩
def zfW:V->V->V->Hp->(Hp->Prop)->Prop:=fun o i v H Q=>∃p xs k j,o=.ref p/\i=.int k/\H p=some (.lst xs)/\ixN xs.length k=some j/\Q (upd H p (.lst (xs.set j v)))
def zVM:PSet X zfW:=by
 intro pins s σ H o i v ov iv u Q I ro ri rv h;obtain⟨p,xs,k,j,rfl,rfl,hp,hj,q⟩:=h;cases ro;obtain⟨t,rfl⟩:=ri;obtain⟨its,n,r,ho,hz⟩:=I.lst hp;obtain⟨h1,h2,h3,h4⟩:=zKO hj;have hl:=r.length;have hn:=zHY;have I':Inv X pins σ (upd H p (.lst (xs.set j v))) { s with heap:=s.heap.update p (qKk (·.setIfInBounds j u)) }:=
  I.lstUpd hp ho (zQO its n j u) (r.set rv j) (by rw[qEl];exact hz) s.toks
 by_cases h0:0<=k
 ·have hk:k.toNat=j:=by
   rw[qMq h0 h4]at h1;exact qBc h1
  exact PySem.W.ki_setAt ho h0 (by omega) (by rw[qAg,<- hl];exact h4) (by rw[hk];exact⟨_,I',q⟩)
 ·have hk:(k+(its.toArray.size:Int)).toNat=j:=by
   rw[qMh (by omega) h3]at h1;rw[qAg,<- hl];exact qBc h1
  exact PySem.W.ki_setBack ho (by omega) (by rw[qAg,<- hl];exact h3) (by omega) (by rw[hk];exact⟨_,I',q⟩)
def zLP(lo hi:Option Int)(n:Nat):(sliceBounds lo hi none n).1=((HT.sIx n 0 lo:Nat):Int)/\(sliceBounds lo hi none n).2.1=((HT.sIx n n hi:Nat):Int)/\(sliceBounds lo hi none n).2.2=1:=by
 refine⟨?_,?_,rfl⟩
 ·cases lo with
  |none=>simp[sliceBounds,HT.sIx]
  |some i=>
   simp only[sliceBounds,HT.sIx,qH6,show(1:Int)>0 by decide,if_true]
   by_cases h:i<0
   ·simp only[h,if_true]<;>omega
   ·simp only[h,if_false]<;>omega
 ·cases hi with
  |none=>simp[sliceBounds,HT.sIx]
  |some i=>
   simp only[sliceBounds,HT.sIx,qH6,show(1:Int)>0 by decide,if_true]
   by_cases h:i<0
   ·simp only[h,if_true]<;>omega
   ·simp only[h,if_false]<;>omega
def zJV(its:List Value)(lo hi:Option Int):slicePick its.toArray lo hi none=((its.drop (HT.sIx its.length 0 lo)).take (HT.sIx its.length its.length hi-HT.sIx its.length 0 lo)).toArray:=by
 obtain⟨h1,h2,h3⟩:=zLP lo hi its.toArray.size;unfold slicePick;rw[h1,h2,h3];simp only[sliceRange_one,pick_run,qAg]<;>rfl
def rSlL(K:qA2):V->Option Int->Option Int->Hp->VK->Prop:=fun x lo hi H Q=>∃a xs,x=.ref a/\SqL K H a xs/\∀p,H p=none->Q (.ref p) (upd H p (.lst (cutV xs lo hi)))
def zZS:SlR X (rSlL X.K):=by
 intro pins s σ H x v vl vu lo hi sl Q I rx hs pl pu h;obtain⟨a,xs,rfl,hx,q⟩:=h;cases rx;obtain⟨its,r,ht,hz⟩:=I.list hx;have hlen:=r.length;refine⟨"list",_,qM7.lookup,ht.isList.typeIs,?_⟩;refine wpAny_getItem_list_slice ht.isList hs pl pu .none (by simp) ?_ (by rw[qAg]<;>omega);rw[zJV,<- hlen];refine⟨.ref s.heap.objs.size,_,I.laid (t':=s.toks) (o:=.lst (cutV xs lo hi)) (fun b ob q=>qJ4 _ q) (qAa _) ?_,rfl,q _ (I.hok.fresh (qAa _))⟩;exact⟨qAq (zOG xs lo hi) hz,_,0,(r.drop (HT.sIx xs.length 0 lo)).take (HT.sIx xs.length xs.length hi-HT.sIx xs.length 0 lo),qJ7 _ rfl⟩
def zDZ:V->Bool
 |.non=>true
 |.bl _=>true
 |.int _=>true
 |.str _=>true
 |_=>false
def eqV:V->V->Bool
 |.non,.non=>true
 |.bl a,.bl b=>a==b
 |.bl a,.int b=>(if a then 1 else 0)==b
 |.int a,.bl b=>a==(if b then 1 else 0)
 |.int a,.int b=>a==b
 |.str a,.str b=>a==b
 |_,_=>false
def zYY{A:qJb}{s:qJ5}{y x:V}{u v:Value}(ry:RelV y u)(rx:RelV x v)(fy:zDZ y=true)(fx:zDZ x=true):qL0 A s u v (eqV y x):=by
 cases y with
 |non=>
  cases ry;cases x with
  |non=>cases rx;exact qLm _
  |bl b=>cases rx;exact SeqAt.EqAt.none_bool b
  |int b=>obtain⟨t,rfl⟩:=rx;exact SeqAt.EqAt.none_int b t
  |str b=>obtain⟨t,rfl⟩:=rx;exact SeqAt.EqAt.none_str b t
  |_=>exact absurd (show false=true from fx) qAh
 |bl a=>
  cases ry;cases x with
  |non=>cases rx;exact SeqAt.EqAt.bool_none a
  |bl b=>cases rx;exact SeqAt.EqAt.bool_bool a b
  |int b=>obtain⟨t,rfl⟩:=rx;exact SeqAt.EqAt.bool_int a b t
  |str b=>obtain⟨t,rfl⟩:=rx;exact SeqAt.EqAt.bool_str a b t
  |_=>exact absurd (show false=true from fx) qAh
 |int a=>
  obtain⟨t',rfl⟩:=ry;cases x with
  |non=>cases rx;exact SeqAt.EqAt.int_none a t'
  |bl b=>cases rx;exact SeqAt.EqAt.int_bool a t' b
  |int b=>obtain⟨t,rfl⟩:=rx;exact SeqAt.EqAt.int_int a t' b t
  |str b=>obtain⟨t,rfl⟩:=rx;exact qLz a t' b t
  |_=>exact absurd (show false=true from fx) qAh
 |str a=>
  obtain⟨t',rfl⟩:=ry;cases x with
  |non=>cases rx;exact SeqAt.EqAt.str_none a t'
  |bl b=>cases rx;exact SeqAt.EqAt.str_bool a t' b
  |int b=>obtain⟨t,rfl⟩:=rx;exact qM0 a t' b t
  |str b=>obtain⟨t,rfl⟩:=rx;exact SeqAt.EqAt.str_str a t' b t
  |_=>exact absurd (show false=true from fx) qAh
 |_=>exact absurd (show false=true from fy) qAh
def eqU(x:V)(u:Value):Bool:=match u with
 |.none=>eqV .non x
 |.bool b=>eqV (.bl b) x
 |.int i _=>eqV (.int i) x
 |.str z _=>eqV (.str z) x
 |_=>false
def zTX{x y:V}{u:Value}(r:RelV y u)(f:zDZ y=true):eqU x u=eqV y x:=by
 cases y with
 |non=>cases r;rfl
 |bl b=>cases r;rfl
 |int i=>obtain⟨t,rfl⟩:=r;rfl
 |str z=>obtain⟨t,rfl⟩:=r;rfl
 |_=>exact absurd (show false=true from f) qAh
def zIQ{x:V}:∀{xs:List V}{us:List Value},Vals xs us->xs.all zDZ=true->us.any (eqU x)=xs.any fun y=>eqV y x
 |_,_,.nil,_=>rfl
 |y::xs,u::us,.cons r t,f=>by
  rw[qCx,qBi]at f;rw[qCd,qCd,zTX r f.1,zIQ t f.2]
def zE6{A:qJb}{s:qJ5}{x:V}{v:Value}(rx:RelV x v)(fx:zDZ x=true):∀{xs:List V}{us:List Value},Vals xs us->xs.all zDZ=true->∀u∈us,qL0 A s u v (eqU x u)
 |_,_,.nil,_=>fun u hu=>by cases hu
 |y::xs,u::us,.cons r t,f=>fun u' hu=>by
  rw[qCx,qBi]at f;rcases qAc.mp hu with rfl|hu
  ·rw[zTX r f.1];exact zYY r rx f.1 fx
  ·exact zE6 rx fx t f.2 u' hu
def inV(x:V)(xs:List V):Bool:=xs.any fun y=>eqV y x
def rIn(K:qA2)(neg:Bool):R2:=fun x y H Q=>∃p xs,y=.ref p/\(SqL K H p xs\/SqT K H p xs)/\zDZ x=true/\xs.all zDZ=true/\Q (.bl (if neg then !inV x xs else inV x xs)) H
def zSN:OpR X (compareOp .In) (rIn X.K false):=by
 intro pins s σ H x y v u Q I rx ry h;obtain⟨p,xs,rfl,hq,fx,fs,q⟩:=h;cases ry;rcases hq with hq|hq
 ·obtain⟨its,r,pl,hz⟩:=I.list hq;refine SeqAt.in_listAt (eqU x) pl.isList (fun w hw=>zE6 rx fx r fs w (by simpa using hw)) ⟨.bl _,H,I,rfl,?_⟩;rw[show its.toArray.any (eqU x)=its.any (eqU x) by simp,zIQ r fs];exact q
 ·obtain⟨its,r,pl,hz⟩:=I.tuple hq;refine SeqAt.in_tupleAt (eqU x) pl (fun w hw=>zE6 rx fx r fs w (by simpa using hw)) ⟨.bl _,H,I,rfl,?_⟩;rw[show its.toArray.any (eqU x)=its.any (eqU x) by simp,zIQ r fs];exact q
def zM6:OpR X (compareOp .NotIn) (rIn X.K true):=by
 intro pins s σ H x y v u Q I rx ry h;obtain⟨p,xs,rfl,hq,fx,fs,q⟩:=h;cases ry;rcases hq with hq|hq
 ·obtain⟨its,r,pl,hz⟩:=I.list hq;refine SeqAt.notIn_listAt (eqU x) pl.isList (fun w hw=>zE6 rx fx r fs w (by simpa using hw)) ⟨.bl _,H,I,rfl,?_⟩;rw[show its.toArray.any (eqU x)=its.any (eqU x) by simp,zIQ r fs];exact q
 ·obtain⟨its,r,pl,hz⟩:=I.tuple hq;refine SeqAt.notIn_tupleAt (eqU x) pl (fun w hw=>zE6 rx fx r fs w (by simpa using hw)) ⟨.bl _,H,I,rfl,?_⟩;rw[show its.toArray.any (eqU x)=its.any (eqU x) by simp,zIQ r fs];exact q
def zM5:OpR X (compareOp .NotIn) (fun x y H Q=>∃i j,x=.str i/\y=.str j/\Q (.bl (!(!(qJq j i 0 j.length 1).isEmpty))) H):=by
 intro pins s σ H x y v u Q I rx ry h;obtain⟨i,j,rfl,rfl,q⟩:=h;obtain⟨t,rfl⟩:=rx;obtain⟨t',rfl⟩:=ry;exact notIn_str ⟨.bl _,H,I,rfl,q⟩
def zN5:zCY X (.builtin "len") (fun xs H Q=>∃p ys,xs=[.ref p]/\(SqL X.K H p ys\/SqT X.K H p ys)/\Q (.int ys.length) H):=by
 intro pins s σ H xs us Q I r h;obtain⟨p,ys,rfl,hq,q⟩:=h;obtain⟨u,rfl,rx⟩:=zCX r;cases rx;have hn:=zHY;rcases hq with hq|hq
 ·obtain⟨its,r',pl,hz⟩:=I.list hq;have hlen:=r'.length;exact Calls.call_len_list pl.isList (by simp only[qAg]<;>omega) ⟨.int ys.length,H,I.tok _,⟨s.toks+1,by rw[qAg,hlen]⟩,q⟩
 ·obtain⟨its,r',pl,hz⟩:=I.tuple hq;have hlen:=r'.length;exact len_tuple pl (by simp only[qAg]<;>omega) ⟨.int ys.length,H,I.tok _,⟨s.toks+1,by rw[qAg,hlen]⟩,q⟩
def zN4:zCY X (.builtin "len") (fun xs H Q=>∃z,xs=[.str z]/\z.length<=sizeLine/\Q (.int z.length) H):=by
 intro pins s σ H xs us Q I r h;obtain⟨z,rfl,hz,q⟩:=h;obtain⟨u,rfl,t,rfl⟩:=zCX r;have hn:=zHY;exact len_str (by omega) ⟨.int z.length,H,I.tok _,⟨_,rfl⟩,q⟩
def zN3:zCY X (.type "list") (fun xs H Q=>∃p ys,xs=[.ref p]/\(SqL X.K H p ys\/SqT X.K H p ys)/\∀l,H l=none->Q (.ref l) (upd H l (.lst ys))):=by
 intro pins s σ H xs us Q I r h;obtain⟨p,ys,rfl,hq,q⟩:=h;obtain⟨u,rfl,rx⟩:=zCX r;cases rx;have fin:∀(its:List Value),Vals ys its->ys.length<=sizeLine->∀(h':Heap)(c':Nat),(∀b o',s.heap.get? b=some o'->h'.get? b=some o') ->
   h'.get? s.heap.objs.size=some { cls:=.type "list",dict:=none,data:=.seq its.toArray c',slots:=#[] }->EP X pins σ Q (.ref s.heap.objs.size) { s with heap:=h' }:=fun its r' hz h' c' kp e=>
  ⟨.ref s.heap.objs.size,_,I.laid (t':=s.toks) kp (qAa _) (show ObjOk X.prog X.w _ h' _ (.lst ys) from⟨hz,its,c',r',e⟩),rfl,q _ (I.hok.fresh (qAa _))⟩
 rcases hq with hq|hq
 ·obtain⟨its,r',pl,hz⟩:=I.list hq;have hlen:=r'.length;obtain⟨o,ho,hc,n,hd⟩:=pl.isList;exact call_list_seq p (.inl rfl) ho hc hd (fun h' c' kp e=>fin its r' hz h' c' kp e) (by simp only[qAg]<;>omega)
 ·obtain⟨its,r',pl,hz⟩:=I.tuple hq;have hlen:=r'.length;obtain⟨o,ho,hc,n,hd⟩:=pl;exact call_list_seq p (.inr rfl) ho hc hd (fun h' c' kp e=>fin its r' hz h' c' kp e) (by simp only[qAg]<;>omega)
def tyV(K:qA2)(T:String)(x:V)(H:Hp):Prop:=match x with
 |.str _=>T = "str"
 |.int _=>T = "int"
 |.ref p=>(T = "list"/\∃xs,SqL K H p xs)\/(T = "tuple"/\∃o,K.lookup p=some o/\o.cls=.type "tuple"/\o.dict=none) \/
   (T = "dict"/\((∃kvs,H p=some (.dK kvs))\/∃kvs,H p=some (.dT kvs)))\/(T = "set"/\∃S n,H p=some (.set S n))
 |_=>False
def zY0{pins:List (Addr×Obj)}{σ:St}{H:Hp}{s:qJ5}{T:String}{x:V}{v:Value}(I:Inv X pins σ H s)(r:RelV x v)(ty:tyV X.K T x H) :
  s.TypeIs v T/\∀a,v=.ref a->∃ob,s.heap.get? a=some ob/\ob.dict=none:=by
 cases x with
 |str z=>
  obtain⟨t,rfl⟩:=r;cases(show T = "str" from ty)
  exact⟨typeIs_str s z t,fun _ e=>nomatch e⟩
 |int i=>
  obtain⟨t,rfl⟩:=r;cases(show T = "int" from ty)
  exact⟨typeIs_int s i t,fun _ e=>nomatch e⟩
 |ref p=>
  cases r;rcases ty with⟨rfl,xs,hq⟩|⟨rfl,o,hk,hc,hd⟩|⟨rfl,hk⟩|⟨rfl,S,n,hk⟩
  ·obtain⟨its,_,pl,_⟩:=I.list hq;refine⟨pl.isList.typeIs,fun a e=>?_⟩;cases e;obtain⟨o,n,e,c,hd,_⟩:=pl;exact⟨o,e,hd⟩
  ·refine⟨⟨o,I.kIn p o hk,hc⟩,fun a e=>?_⟩;cases e;exact⟨o,I.kIn _ o hk,hd⟩
  ·have z:∃o,s.heap.get? p=some o/\o.ExactDict:=by
    rcases hk with⟨kvs,hk⟩|⟨kvs,hk⟩
    ·obtain⟨_,_,_,_,o,_,_,e,ex,_⟩:=I.hok p _ hk;exact⟨o,e,ex⟩
    ·obtain⟨_,_,_,_,o,_,_,e,ex,_⟩:=I.hok p _ hk;exact⟨o,e,ex⟩
   obtain⟨o,e,ex⟩:=z;refine⟨⟨o,e,ex.1⟩,fun a e2=>?_⟩;cases e2;exact⟨o,e,ex.2.1⟩
  ·obtain⟨o,_,_,_,e,ex,_⟩:=I.hok p _ hk;refine⟨⟨o,e,ex.1⟩,fun a e2=>?_⟩;cases e2;exact⟨o,e,ex.2.1⟩
 |_=>exact qA3 ty
def tBM(K:qA2)(T:String)(r:V->List V->Hp->VK->Prop)(to:TE)(t:TA):TE:=fun σ H Q=>to σ H fun x H1=>tyV K T x H1/\t σ H1 fun xs H2=>r x xs H2 Q
variable{o e:Expr}{es:List Expr}{to:TE}{t:TA}{name:Str}{apos cpos:Pos}{T id:String}{r:V->List V->Hp->VK->Prop}
def zIU(pa:qN1 T)(slot:Slot T name id)(hty:typeOf (.builtin id)=pure (.type "method_descriptor"))(hm:MtR X id r)(ho:PE X o to)(ha:PA X (e::es) t)
  (hbase:qKy o name X.env (eval o X.env)=eval o X.env:=by rfl)
  (hfew:((backTo cpos (starEach (e::es) X.env)).all (fun x=>!x.1)&&(backToKw cpos (keywordEach [] X.env)).all (fun x=>x.1.isSome)
   && decide ((e::es).length+([]:List qL8).length+(if([]:List qL8).isEmpty then 0 else 1)<30))=true:=by rfl)
  (hline:(apos.endLine==cpos.line)=true:=by rfl) (hs:starEach (e::es) X.env=(false,eval e X.env)::starEach es X.env:=by rfl) (hplain:(backTo cpos (starEach es X.env)).any (·.1)=false:=by rfl) :
  PE X (.Call (.Attribute o name apos) (e::es) [] cpos) (tBM X.K T r to t):=by
 intro pins s σ H Q I h;refine qKo hbase hfew hline rfl (thn (ho pins s σ H _ I h) fun v s1 z0=>?_);obtain⟨x,H1,I1,r1,ty,q1⟩:=z0;obtain⟨h1,h2⟩:=zY0 I1 r1 ty;refine⟨T,id,pa,slot,hty,h1,h2,?_⟩;have hA:=ha cpos pins s1 σ H1 _ I1 q1;rw[hs]at hA ⊢;refine qKp (by show(false||(backTo cpos (starEach es X.env)).any (·.1))=false;rw[hplain]<;>rfl) (qKx ?_);exact thn hA fun us s2 ⟨vs,H2,I2,r2,q2⟩=>hm pins s2 σ H2 x vs v us Q I2 r1 r2 q2
end
def MtM(X:Cx)(id:String)(r:V->List V->Hp->VK->Prop):Prop:=
 ∀(pins:List (Addr×Obj))(s:qJ5)(σ:St)(H:Hp)(x:V)(xs:List V)(v:Value)(us:List Value)(Q:VK),Inv X pins σ H s->RelV x v->Vals xs us->r x xs H Q ->
  wpAny (model X.prog X.w) X.A (call (.builtin id) (v::us)) (EP X pins σ Q) X.xe s
def Vals.one:∀{x:V}{us:List Value},Vals [x] us->∃u,us=[u]/\RelV x u
 |_,_,.cons r .nil=>⟨_,rfl,r⟩
def Vals.zero:∀{us:List Value},Vals [] us->us=[]
 |_,.nil=>rfl
def Vals.dropLast{xs:List V}{us:List Value}(h:Vals xs us):Vals xs.dropLast us.dropLast:=by
 induction h with
 |nil=>exact .nil
 |cons r t ih=>
  cases t with
  |nil=>exact .nil
  |cons q t'=>exact .cons r ih
def Vals.eraseIdx:∀{xs:List V}{us:List Value}(i:Nat),Vals xs us->Vals (xs.eraseIdx i) (us.eraseIdx i)
 |_,_,_,.nil=>.nil
 |_,_,0,.cons _ t=>t
 |_,_,i+1,.cons r t=>.cons r (Vals.eraseIdx i t)
def Vals.rep{xs:List V}{us:List Value}(h:Vals xs us):∀k:Nat,Vals (qA8 k xs).flatten (qA8 k us).flatten
 |0=>.nil
 |k+1=>by
  rw[qBr,qBr,qB2,qB2];exact Vals.append h (Vals.rep h k)
def zR3{α:Type}(l:List α):l.eraseIdx (l.length-1)=l.dropLast:=by
 induction l with
 |nil=>rfl
 |cons a r ih=>
  cases r with
  |nil=>rfl
  |cons b r=>
   have e:(a::b::r).length-1=((b::r).length-1)+1:=by
    have h1:(a::b::r).length=r.length+2:=rfl;have h2:(b::r).length=r.length+1:=rfl;omega
   rw[e,qBw,ih]
   all_goals rfl
def zI0{α:Type}:∀(l:List α)(i:Nat),(l.eraseIdx i).length<=l.length
 |[],_=>qAa _
 |_::_,0=>qC8 _
 |_::r,i+1=>qH7 (zI0 r i)
def zMS(its:List Value):∀(k:Nat)(acc:List Value),
  qIc (fun x1 x2=>x1++x2) acc.toArray (qA8 k its.toArray)=(acc++(qA8 k its).flatten).toArray
 |0,acc=>by simp
 |k+1,acc=>by
  have e:acc.toArray++its.toArray=(acc++its).toArray:=by simp
  have e2:(acc++its)++(qA8 k its).flatten=acc++(qA8 (k+1) its).flatten:=by
   rw[qBr,qB2,qC2]
  rw[<- e2,<- zMS its k (acc++its),<- e,qBr,qDo]
section
variable{X:Cx}{pins:List (Addr×Obj)}{σ:St}{H:Hp}{s:qJ5}{l:Addr}{xs ys:List V}
def Inv.lset{its its':List Value}{n:Nat}{f:Array Value->Array Value}{t':Nat}(I:Inv X pins σ H s)(hH:H l=some (.lst xs))
  (e:s.heap.get? l=some { cls:=.type "list",data:=.seq its.toArray n }) (hf:f its.toArray=its'.toArray) (hv:Vals ys its') (hz:ys.length<=sizeLine) :
  Inv X pins σ (upd H l (.lst ys)) { s with heap:=s.heap.update l (qKk f),toks:=t' }:=by
 have q:=PySem.IsL.update e f;rw[hf]at q;refine I.write (x:=l) (e:=l) (by rw[hH];exact trivial) (.inl rfl) (fun b' u hb hu=>(qJa s.heap (qKk f) (qCv hb)).trans hu) ⟨_,q⟩ ?_;exact⟨hz,its',_,hv,q⟩
def Inv.lnew{its:List Value}{t':Nat}(I:Inv X pins σ H s)(hv:Vals ys its)(hz:ys.length<=sizeLine) :
  Inv X pins σ (upd H s.heap.objs.size (.lst ys)) { s with heap:=s.heap.push { cls:=.type "list",data:=.seq its.toArray },toks:=t' }:=
 I.laid (fun _ _ q=>qJ4 _ q) (qAa _) ⟨hz,its,0,hv,qJ7 _ rfl⟩
def Inv.fresh(I:Inv X pins σ H s):H s.heap.objs.size=none:=I.hok.fresh (qAa _)
def Inv.lstM(I:Inv X pins σ H s)(hH:H l=some (.lst xs)):xs.length<=sizeLine/\∃(its:List Value)(n:Nat),Vals xs its/\xs.length=its.length/\s.heap.get? l=some { cls:=.type "list",data:=.seq its.toArray n }:=by
 obtain⟨z,its,n,r,e⟩:=I.hok l _ hH;exact⟨z,its,n,r,r.length,e⟩
def zPE{n:Nat}(h:n<=sizeLine):qJy n=false:=by
 unfold qJy;exact decide_eq_false (by omega)
end
section
variable{X:Cx}
def za1:V->List V->Hp->VK->Prop:=fun x vs H Q=>∃l xs y,x=.ref l/\vs=[y]/\H l=some (.lst xs)/\xs.length<sizeLine/\Q .non (upd H l (.lst (xs++[y])))
def zSZ:MtM X "list.append" za1:=by
 intro pins s σ H x vs v us Q I rx rv h;obtain⟨l,xs,y,rfl,rfl,hH,hz,q⟩:=h;cases rx;obtain⟨u,rfl,ru⟩:=rv.one;obtain⟨z,its,n,r,hl,e⟩:=I.lstM hH;refine call_meets F.slot_list_append ⟨_,e,rfl⟩ F.entry_list_append (F.args_list_append_2 _ _) (PySem.list_append l its.toArray n u (by rw[qAg];omega)) ⟨e,?_⟩;refine⟨.non,_,I.lset (its':=its++[u]) hH e (by simp) (r.append (.cons ru .nil)) ?_,rfl,q⟩;rw[qAo,qE9];omega
def za0:V->List V->Hp->VK->Prop:=fun x vs H Q=>∃l b xs zs,x=.ref l/\vs=[.ref b]/\H l=some (.lst xs)/\H b=some (.lst zs)/\xs.length+zs.length<=sizeLine/\Q .non (upd H l (.lst (xs++zs)))
def zSX:MtM X "list.extend" za0:=by
 intro pins s σ H x vs v us Q I rx rv h;obtain⟨l,b,xs,zs,rfl,rfl,hH,hB,hz,q⟩:=h;cases rx;obtain⟨u,rfl,ru⟩:=rv.one;cases ru;obtain⟨z,its,n,r,hl,e⟩:=I.lstM hH;obtain⟨z2,its2,n2,r2,hl2,e2⟩:=I.lstM hB;have hsz:its.toArray.size+its2.toArray.size<=sizeLine:=by rw[qAg,qAg];omega
 have hlong:¬(!its.toArray.isEmpty&&qJy (its.toArray.size+its2.toArray.size))=true:=by
  rw[zPE hsz,qDe];exact qAh
 refine call_meets F.slot_list_extend ⟨_,e,rfl⟩ F.entry_list_extend (F.args_list_extend_2 _ _)
  (AutoSeq1.list_extend_list_list_0 l its.toArray n b its2.toArray n2 hlong (by rw[qAg];omega) (by omega)) ⟨e,e2,?_⟩
 refine⟨.non,_,I.lset (its':=its++its2) hH e (by simp) (r.append r2) ?_,rfl,q⟩;rw[qAo];omega
def rPop:V->List V->Hp->VK->Prop:=fun x vs H Q=>∃l xs y,x=.ref l/\vs=[]/\H l=some (.lst xs)/\xs[xs.length-1]?=some y/\Q y (upd H l (.lst xs.dropLast))
def zdY:MtM X "list.pop" rPop:=by
 intro pins s σ H x vs v us Q I rx rv h;obtain⟨l,xs,y,rfl,rfl,hH,hy,q⟩:=h;cases rx;have hus:=rv.zero;subst hus;obtain⟨z,its,n,r,hl,e⟩:=I.lstM hH;obtain⟨u,hu,ru⟩:=r.get hy;have hy':its.toArray[its.toArray.size-1]?=some u:=by
  show its.toArray[its.length-1]?=some u;rw[<- qBg,<- hl];exact hu
 refine call_meets qMr ⟨_,e,rfl⟩ qMk (F.args_list_pop_1 _) (MeetsSeq.list_pop_last l its.toArray n u hy' (by rw[qAg];omega)) ⟨e,?_⟩;refine⟨y,_,I.lset (its':=its.dropLast) hH e ?_ r.dropLast ?_,ru,q⟩
 ·show its.toArray.eraseIdxIfInBounds (its.toArray.size-1)=its.dropLast.toArray;rw[qAg,qE3,zR3]
 ·rw[List.length_dropLast];omega
def zd4:V->List V->Hp->VK->Prop:=fun x vs H Q=>∃l xs i k y,x=.ref l/\vs=[.int i]/\H l=some (.lst xs)/\-(2 ^ 63)<=i/\i<2 ^ 63/\qMp i xs.length=some k/\xs[k]?=some y/\Q y (upd H l (.lst (xs.eraseIdx k)))
def zWM:MtM X "list.pop" zd4:=by
 intro pins s σ H x vs v us Q I rx rv h;obtain⟨l,xs,i,k,y,rfl,rfl,hH,h1,h2,hk,hy,q⟩:=h;cases rx;obtain⟨u,rfl,ru⟩:=rv.one;obtain⟨t,rfl⟩:=ru;obtain⟨z,its,n,r,hl,e⟩:=I.lstM hH;obtain⟨w,hw,rw'⟩:=r.get hy;refine call_meets qMr ⟨_,e,rfl⟩ qMk (F.args_list_pop_2 _ _)
  (MeetsSeq.list_pop_at l its.toArray n i t k w (fitsIndex_both h1 h2) (by rw[qAg,<- hl];exact hk) (by rw[<- qBg];exact hw) (by rw[qAg];omega)) ⟨e,?_⟩
 refine⟨y,_,I.lset (its':=its.eraseIdx k) hH e ?_ (r.eraseIdx k) ?_,rw',q⟩
 ·show its.toArray.eraseIdxIfInBounds k=(its.eraseIdx k).toArray;rw[qE3]
 ·have:=zI0 xs k
  omega
def rCat:R2:=fun x y H Q=>∃l b xs zs,x=.ref l/\y=.ref b/\H l=some (.lst xs)/\H b=some (.lst zs)/\xs.length+zs.length<=sizeLine/\∀p,H p=none->Q (.ref p) (upd H p (.lst (xs++zs)))
def zdU:OpR X (binaryOp .Add) rCat:=by
 intro pins s σ H x y v u Q I rx ry h;obtain⟨l,b,xs,zs,rfl,rfl,hH,hB,hz,q⟩:=h;cases rx;cases ry;obtain⟨z,its,n,r,hl,e⟩:=I.lstM hH;obtain⟨z2,its2,n2,r2,hl2,e2⟩:=I.lstM hB;refine PySem.P.add_list e e2 ?_ (by rw[qAg,qAg];omega);have ea:its.toArray++its2.toArray=(its++its2).toArray:=by simp
 rw[ea];exact⟨.ref _,_,I.lnew (t':=s.toks) (r.append r2) (by rw[qAo];omega),rfl,q _ I.fresh⟩
def rRep:R2:=fun x y H Q=>∃l k xs,x=.ref l/\y=.int k/\H l=some (.lst xs)/\-(2 ^ 63)<=k/\k<2 ^ 63/\xs.length*k.toNat<=sizeLine /\
 ∀p,H p=none->Q (.ref p) (upd H p (.lst (qA8 k.toNat xs).flatten))
def zaQ{α:Type}(xs:List α)(k:Nat):(qA8 k xs).flatten.length=k*xs.length:=by
 induction k with
 |zero=>simp
 |succ k ih=>rw[qBr,qB2,qAo,ih,qFp,Nat.add_comm]
def zdP:OpR X (binaryOp .Mult) rRep:=by
 intro pins s σ H x y v u Q I rx ry h;obtain⟨l,k,xs,rfl,rfl,hH,h1,h2,hz,q⟩:=h;cases rx;obtain⟨t,rfl⟩:=ry;obtain⟨z,its,n,r,hl,e⟩:=I.lstM hH;have hlen:its.toArray.size*k.toNat<=sizeLine:=by rw[qAg,<- hl];exact hz
 have hcap:¬its.toArray.size*k.toNat>(2 ^ 63-1)/8:=by
  have:(sizeLine:Nat)<=(2 ^ 63-1)/8:=by decide
  omega
 have hfit:¬(!Builtin.List.listFitsIndex k)=true:=by
  rw[fitsIndex_both h1 h2];exact qAh
 have hlong:¬qJy (its.toArray.size*k.toNat)=true:=by
  rw[zPE hlen];exact qAh
 have hnew:qIc (fun x1 x2=>x1++x2) #[] (qA8 (if its.toArray.isEmpty=true then 0 else k.toNat) its.toArray)=(qA8 k.toNat its).flatten.toArray:=by
  have f0:∀m:Nat,qIc (fun x1 x2=>x1++x2) #[] (qA8 m its.toArray)=(qA8 m its).flatten.toArray:=fun m=>by
   have:=zMS its m [];rw[qHc]at this;exact this
  rw[f0];cases its with
  |nil=>simp
  |cons a r'=>rw[if_neg (by simp)]
 refine wpAny_binaryOp_repeat_ref (T:="list") (U:="int") (by decide) ⟨_,e,rfl⟩ (fun s'=>typeIs_int s' k t) noFill_list_mul F.fills_int_mul qMs repeat_list F.slot_int_index.lookup
  (call_meets qMs (typeIs_int s k t) F.entry_int_rmul (F.args_int_rmul_2 _ _) (int___rmul___int_list k t l its.toArray n)
   ⟨e,rfl,⟨_,e,rfl⟩,call_meets F.slot_list_mul ⟨_,e,rfl⟩ F.entry_list_mul (F.args_list_mul_2 _ _) (AutoListH.list___mul___list_int_3 l its.toArray n k t hfit hcap hlong) ⟨e,?_⟩⟩)
 rw[hnew];exact⟨.ref _,_,I.lnew (t':=s.toks) (r.rep k.toNat) (by rw[zaQ,qFq];exact hz),rfl,q _ I.fresh⟩
end
section
end
section
end
section
variable{κ:Type}[DecidableEq κ]
def valV(kvs:List (κ×V))(k:κ):Option V:=(kvs.find? fun kv=>decide (kv.1=k)).map (·.2)
def putK(kvs:List (κ×V))(k:κ)(v:V):List (κ×V):=
 if(kvs.any fun kv=>decide (kv.1=k))=true then kvs.map (fun kv=>if kv.1=k then(kv.1,v)else kv)else kvs++[(k,v)]
def zeV(kvs:List (κ×V))(k:κ):List (κ×V):=kvs.filter fun kv=>decide (kv.1≠k)
def zOR{p:κ×V}{r:List (κ×V)}{k:κ}(e:p.1=k):valV (p::r) k=some p.2:=by simp[valV,qCo,e]
def zOS{p:κ×V}{r:List (κ×V)}{k:κ}(e:¬p.1=k):valV (p::r) k=valV r k:=by simp[valV,qCo,e]
def zO7(kvs:List (κ×V))(k:κ)(v:V):(putK kvs k v).length<=kvs.length+1:=by
 unfold putK;split
 ·rw[qAe];omega
 ·rw[qAo,qAj,qFr];omega
def RelO.isSome_eq{o:Option V}{u:Option Value}(r:RelO o u):o.isSome=u.isSome:=by
 cases o with
 |none=>cases u with
  |none=>rfl
  |some _=>exact(show False from r).elim
 |some _=>cases u with
  |none=>exact(show False from r).elim
  |some _=>rfl
def KV.val{kvs:List (κ×V)}{vs:List (κ×Value)}(r:KV kvs vs)(k:κ):RelO (valV kvs k) (valueAt vs k):=by
 unfold KV at r;induction r with
 |nil=>exact qE2
 |@cons p q ps qs h t ih=>
  obtain⟨h1,h2⟩:=h;by_cases e:p.1=k
  ·have e':q.1=k:=h1.symm.trans e;have b:valueAt (q::qs) k=some q.2:=by simp[valueAt,qCo,e']
   rw[zOR e,b];exact h2
  ·have e':¬q.1=k:=fun z=>e (h1.trans z)
   have b:valueAt (q::qs) k=valueAt qs k:=by simp[valueAt,qCo,e']
   rw[zOS e,b];exact ih
def KV.any{kvs:List (κ×V)}{vs:List (κ×Value)}(r:KV kvs vs)(k:κ):(kvs.any fun kv=>decide (kv.1=k))=vs.any fun kv=>decide (kv.1=k):=by
 unfold KV at r;induction r with
 |nil=>rfl
 |cons h t ih=>rw[qCd,qCd,ih,h.1]
def KV.repl{kvs:List (κ×V)}{vs:List (κ×Value)}(r:KV kvs vs)(k:κ){y:V}{u:Value}(ry:RelV y u) :
  KV (kvs.map fun kv=>if kv.1=k then(kv.1,y)else kv) (vs.map fun kv=>if kv.1=k then(kv.1,u)else kv):=by
 unfold KV at r ⊢;induction r with
 |nil=>exact .nil
 |@cons p q ps qs h t ih=>
  rw[qAd,qAd];refine .cons ?_ ih;obtain⟨h1,h2⟩:=h;by_cases e:p.1=k
  ·rw[if_pos e,if_pos (h1.symm.trans e)];exact⟨h1,ry⟩
  ·rw[if_neg e,if_neg (fun z=>e (h1.trans z))];exact⟨h1,h2⟩
def KV.put{kvs:List (κ×V)}{vs:List (κ×Value)}(r:KV kvs vs)(k:κ){y:V}{u:Value}(ry:RelV y u):KV (putK kvs k y) (stored vs k u):=by
 unfold putK stored;rw[r.any k];by_cases e:(vs.any fun kv=>decide (kv.1=k))=true
 ·rw[if_pos e,if_pos e];exact r.repl k ry
 ·rw[if_neg e,if_neg e];exact Paired.snoc r ⟨rfl,ry⟩
def KV.drop{kvs:List (κ×V)}{vs:List (κ×Value)}(r:KV kvs vs)(k:κ):KV (zeV kvs k) (without vs k):=by
 unfold KV at r ⊢;unfold zeV without;induction r with
 |nil=>exact .nil
 |@cons p q ps qs h t ih=>
  obtain⟨h1,h2⟩:=h;rw[qCh,qCh];by_cases e:p.1=k
  ·have a:¬decide (p.1≠k)=true:=by simp[e]
   have b:¬decide (q.1≠k)=true:=by simp[h1.symm.trans e]
   rw[if_neg a,if_neg b];exact ih
  ·have e':¬q.1=k:=fun z=>e (h1.trans z)
   have a:decide (p.1≠k)=true:=by simp[e]
   have b:decide (q.1≠k)=true:=by simp[e']
   rw[if_pos a,if_pos b];exact .cons ⟨h1,h2⟩ ih
def KV.length{kvs:List (κ×V)}{vs:List (κ×Value)}(r:KV kvs vs):kvs.length=vs.length:=qLd r
end
def zaV{P:qJ8}{w:World}{k:Key}{u:Value}(r:RelV (kV k) u):(zBP P w).is k u=true:=by
 cases k with
 |inl i=>obtain⟨t,e⟩:=(show ∃t,u=qLy i t from r);subst e;exact zO6 P w i t
 |inr x=>obtain⟨t,e⟩:=(show ∃t,u=qL1 x t from r);subst e;exact zO5 P w x t
def zMM{P:qJ8}{w:World}:∀{ks:List Key}{us:List Value},Vals (ks.map kV) us->ItemsAre (zBP P w) ks us
 |[],_,r=>by rw[qFs]at r;cases r;exact .nil
 |k::ks,_,r=>by
  rw[qAd]at r;cases r with
  |cons h t=>exact .cons (zaV h) (zMM t)
abbrev KT(H:Hp):List (List Key×V)->List (List Key×Addr×Value)->Prop:=qLr fun p q=>p.1=q.1/\H q.2.1=some (.tup (p.1.map kV))/\RelV p.2 q.2.2
def KT.val{H:Hp}{kvs:List (List Key×V)}{xs:List (List Key×Addr×Value)}(r:KT H kvs xs)(k:List Key):RelO (valV kvs k) ((atKey xs k).map (·.2)):=by
 induction r with
 |nil=>exact qE2
 |@cons p q ps qs h t ih=>
  obtain⟨h1,_,h2⟩:=h;by_cases e:p.1=k
  ·have e':q.1=k:=h1.symm.trans e;have b:atKey (q::qs) k=some q.2:=by simp[atKey,qCo,e']
   rw[zOR e,b];exact h2
  ·have e':¬q.1=k:=fun z=>e (h1.trans z)
   have b:atKey (q::qs) k=atKey qs k:=by simp[atKey,qCo,e']
   rw[zOS e,b];exact ih
section
variable{P:qJ8}{w:World}{H:Hp}{h:Heap}{a:Addr}
def zcX{u:HO}(ok:HOk P w H h)(e:Rd H a u):ObjOk P w H h a u:=e.ok ok
def zbF{kvs:List (Key×V)}(ok:HOk P w H h)(e:Rd H a (.dK kvs)):kvs.length<=sizeLine/\(a==qK9)=false/\∃vs,KV kvs vs/\h.DictOf (zBP P w) a vs:=
 show ObjOk P w H h a (.dK kvs) from zcX ok e
def zgM{kvs:List (Key×V)}(ok:HOk P w H h)(e:H a=some (.dK kvs)):kvs.length<=sizeLine/\(a==qK9)=false/\∃vs,KV kvs vs/\h.DictOf (zBP P w) a vs:=zbF ok (.inl e)
def zYL{ks:List Key}(ok:HOk P w H h)(e:H a=some (.tup (ks.map kV))):(tupleKind (zBP P w)).is h ks a:=by
 obtain⟨_,its,r,o,h1,h2,n,h3⟩:=(show ObjOk P w H h a (.tup (ks.map kV)) from ok a _ e)
 exact⟨o,its.toArray,n,h1,h2,h3,by simpa using zMM r⟩
def zeR{kvs:List (List Key×V)}(ok:HOk P w H h)(e:Rd H a (.dT kvs)):kvs.length<=sizeLine/\(a==qK9)=false /\
  ∃xs,KT H kvs xs/\h.DictOfH (tupleKind (zBP P w)) a xs:=by
 obtain⟨z,y,xs,r,o,es,ep,h1,h2,h3,h4,h5⟩:=(show ObjOk P w H h a (.dT kvs) from zcX ok e)
 refine⟨z,y,xs,r,o,es,ep,h1,h2,h3,h4,fun x hx=>?_,h5⟩;have all:∀{l:List (List Key×V)}{m:List (List Key×Addr×Value)},KT H l m->∀x∈m,(tupleKind (zBP P w)).is h x.1 x.2.1:=by
  intro l m q;induction q with
  |nil=>intro x hx;exact nomatch hx
  |@cons p q ps qs hq t ih=>
   intro x hx;rcases qAc.mp hx with e|hx
   ·subst e;exact zYL ok (by rw[<- hq.1];exact hq.2.1)
   ·exact ih x hx
 exact all r x hx
end
def DGet(H:Hp)(a:Addr)(y:V)(r:Option V):Prop:=
 (∃kvs k,Rd H a (.dK kvs)/\y=kV k/\r=valV kvs k)\/∃kvs k b,Rd H a (.dT kvs)/\y=.ref b/\H b=some (.tup (k.map kV))/\r=valV kvs k
def DGet.k{H:Hp}{a:Addr}{kvs:List (Key×V)}{k:Key}(e:H a=some (.dK kvs)):DGet H a (kV k) (valV kvs k):=.inl ⟨kvs,k,.inl e,rfl,rfl⟩
section
variable{X:Cx}{pins:List (Addr×Obj)}{σ:St}{H:Hp}{s:qJ5}{a:Addr}{y:V}{u:Value}{o:Option V}{A:qJb}{E:Value->qJ5->Prop}
def Inv.big(I:Inv X pins σ H s):qK9<s.heap.objs.size:=by
 have h:qJf<s.heap.objs.size:=(I.mod.glob.keeps I.bk).lt;exact Nat.lt_trans (by decide) h
def zbM{Q:Value->qJ5->Prop}(hu:A.units+1<cLine)(I:Inv X pins σ H s)(g:DGet H a y o)(ry:RelV y u)(h:∀s',Inv X pins σ H s'->Q (.bool (!o.isSome)) s') :
  wpAny (model X.prog X.w) A (compareOp .NotIn u (.ref a)) Q E s:=by
 rcases g with⟨kvs,k,e,ey,l⟩|⟨kvs,k,b,e,ey,eb,l⟩
 ·subst ey;obtain⟨z,hd,vs,rel,dd⟩:=zbF I.hok e;refine wpAny_notIn_of (zaV ry) hd dd.mapOf ?_;rw[<- (rel.val k).isSome_eq,<- l];exact h _ (I.tok _)
 ·subst ey
  cases(show u=qJc b from ry)
  obtain⟨z,hd,xs,rel,dd⟩:=zeR I.hok e;refine wpAny_notIn_heap (tupleKind_room_in1 hu) (zYL I.hok eb) hd dd ?_;have q:=(rel.val k).isSome_eq;rw[qF0]at q;rw[<- q,<- l];exact h _ (I.tok _)
def zeX{P:qJ8}{w:World}{H':Hp}{h':Heap}{kvs:List (Key×V)}{vs:List (Key×Value)}(z:kvs.length<=sizeLine)(hd:(a==qK9)=false)(rel:KV kvs vs)(dd:h'.DictOf (zBP P w) a vs) :
  ObjOk P w H' h' a (.dK kvs):=⟨z,hd,vs,rel,dd⟩
end
section
end
def tDIn(ty td:TE):TE:=fun σ H Q=>ty σ H fun y H1=>td σ H1 fun x H2=>∃a o,x=.ref a/\DGet H2 a y o/\Q (.bl o.isSome) H2
def zRJ(ty td:TE):TE:=fun σ H Q=>ty σ H fun y H1=>td σ H1 fun x H2=>∃a o,x=.ref a/\DGet H2 a y o/\Q (.bl (!o.isSome)) H2
section
variable{X:Cx}{o i:Expr}{td ty:TE}
def zSH(hu:X.A.units+1<cLine)(hi:PE X i ty)(ho:PE X o td):PC X .NotIn i o (zRJ ty td):=by
 intro pins s σ H Q I h;refine thn (hi pins s σ H _ I h) fun iv s1 ⟨y,H1,I1,ry,q1⟩=>thn (ho pins s1 σ H1 _ I1 q1) fun u s2 ⟨x,H2,I2,rx,a,ov,ex,g,q2⟩=>?_
 subst ex;obtain rfl:u=qJc a:=rx;exact zbM hu I2 g ry fun s3 I3=>⟨.bl (!ov.isSome),H2,I3,rfl,q2⟩
end
def zXH{P:qJ8}{w:World}{H:Hp}(h:Heap)(hb:qK9<h.objs.size):ObjOk P w H (h.push { cls:=.type "dict",data:=.dict #[] }) h.objs.size (.dK []):=
 ⟨qAn _,beq_eq_false_iff_ne.mpr (qCv (qAl hb)),[],.nil,Heap.DictOf.new h⟩
def zY1:TE:=fun _ H Q=>∀p,H p=none->Q (.ref p) (upd H p (.dK []))
section
variable{X:Cx}{pos:Pos}
def zWB:PE X (.Dict [] [] pos) zY1:=fun pins s σ H Q I h=>
 wpAny_Dict_empty ⟨.ref s.heap.objs.size,_,I.laid (a:=s.heap.objs.size) (o:=.dK []) (t':=s.toks) (fun _ _ q=>qJ4 _ q) (qAa _) (zXH s.heap I.big),rfl,h _ (I.hok.fresh (qAa _))⟩
end
structure M1(X:Cx)(o:Expr)(m:Str)(apos:Pos)(e:Expr)(cpos:Pos):Prop where
 base:qKy o m X.env (eval o X.env)=eval o X.env
 few:((backTo cpos (starEach [e] X.env)).all (fun x=>!x.1)&&(backToKw cpos (keywordEach [] X.env)).all (fun x=>x.1.isSome)
  && decide (([e]:List Expr).length+([]:List qL8).length+(if([]:List qL8).isEmpty then 0 else 1)<30))=true
 line:(apos.endLine==cpos.line)=true
 trees:backTo cpos (starEach [e] X.env)=[(false,eval e X.env)]
structure M2(X:Cx)(o:Expr)(m:Str)(apos:Pos)(e f:Expr)(cpos:Pos):Prop where
 base:qKy o m X.env (eval o X.env)=eval o X.env
 few:((backTo cpos (starEach [e,f] X.env)).all (fun x=>!x.1)&&(backToKw cpos (keywordEach [] X.env)).all (fun x=>x.1.isSome)
  && decide (([e,f]:List Expr).length+([]:List qL8).length+(if([]:List qL8).isEmpty then 0 else 1)<30))=true
 line:(apos.endLine==cpos.line)=true
 trees:backTo cpos (starEach [e,f] X.env)=[(false,eval e X.env),(false,eval f X.env)]
def IsD(H:Hp)(a:Addr):Prop:=(∃kvs,Rd H a (.dK kvs))\/∃kvs,Rd H a (.dT kvs)
def zeH{X:Cx}{pins:List (Addr×Obj)}{σ:St}{H:Hp}{s:qJ5}{a:Addr}(I:Inv X pins σ H s)(d:IsD H a) :
  s.TypeIs (.ref a) "dict"/\(∀b,qJc a=.ref b->∃ob,s.heap.get? b=some ob/\ob.dict=none)/\(a==qK9)=false:=by
 rcases d with⟨kvs,e⟩|⟨kvs,e⟩
 ·obtain⟨_,hd,vs,_,dd⟩:=zbF I.hok e;refine⟨dd.typeIs,fun b q=>?_,hd⟩;cases q;obtain⟨ob,_,_,h1,h2,_⟩:=dd;exact⟨ob,h1,h2.2.1⟩
 ·obtain⟨_,hd,xs,_,dd⟩:=zeR I.hok e;refine⟨dd.typeIs,fun b q=>?_,hd⟩;cases q;obtain⟨ob,_,_,h1,h2,_⟩:=dd;exact⟨ob,h1,h2.2.1⟩
section
end
section
end
section
end
section
end
end L2
namespace Att
open PySem PySem.W PySem.Calls PyProof.Rows
def zI5{P:Params}{h:Heap}:∀(ns:List Int)(vs:List Value),WellAll P h vs (ns.map qMt)->qM8 vs ns:=by
 intro ns;induction ns with
 |nil=>
  intro vs w;rw[qFs]at w;cases w;exact .nil
 |cons n ns ih=>
  intro vs w;rw[qAd]at w;cases w with
  |cons a b=>
   cases a;exact .cons _ _ (ih _ b)
def zRR{l:OpenLaw}{n:Nat}(hn:l.most=some n){P:Params}{h:Heap}{args:List WData}{vals:List Value}
  (hpre:l.row.toRowW.claim.pre args=true) (hwl:WellAll P h vals args) :
  ∃a vs ns,vals=[qJc a]/\args=[WData.list (ns.map qMt)]/\h.get? a=some { cls:=.type "list",data:=.seq vs.toArray }/\qM8 vs ns/\ns.length<=n:=by
 have hsh:WShape.hasAll [] args [.list .int]=true:=(pre_splitW hpre).1;have hc:l.pre.holds [] { args:=args }=true:=(pre_splitW hpre).2;obtain⟨d,r,rfl,h1,h2⟩:=hasAllW_cons hsh;obtain rfl:=hasAllW_nil h2;obtain⟨xs,rfl,h3⟩:=hasW_list h1;obtain⟨ns,rfl⟩:=items_int h3;have hlen:ns.length<=n:=by
  unfold OpenLaw.pre at hc;have h4:(WTm.not (.lt (.lit (.int (n:Int))) (.len (.arg 0)))).holds [] { args:=[.list (ns.map .int)] }=true:=by
   have h4:=(holds_andW hc).1;rw[hn]at h4;exact h4
  have h5:=condW_of h4 (w_not (w_lt w_lit (w_len_list (w_arg rfl))));rw[qAe]at h5;refine Nat.le_of_not_lt fun q=>?_
  have q':(n:Int)<((ns.length:Nat):Int):=by omega
  first
   |(rw[decide_eq_true q']at h5;exact absurd h5 (by decide))
   |(simp at h5;omega)
 cases hwl with
 |cons w1 w2=>
  cases w2;cases w1 with
  |list ho hall=>exact⟨_,_,ns,rfl,rfl,ho,zI5 ns _ hall,hlen⟩
def zS4(l:OpenLaw)(args:List WData):l.row.toRowW.claim.post args (.bool true) args=true:=
 postW_of (r:=l.row.toRowW) (X:=(true==true))
  (show qNj [] (.bool true) .bool=true by first|rfl|decide|simp[qNj,WShape.arms,WShape.armsAll])
  (show(WTm.eq .res (.lit (.bool true))).value [] { args:=args,res:=some (.bool true),after:=args }=some (.bool (true==true)) from w_eq_bool (w_res rfl) w_lit) rfl
section
end
end Att
namespace L2
open PySem PySem.Spec PyProof.Rows
def zLG:∀{vs:List Value}{ns:List Int},qM8 vs ns->Vals (ns.map V.int) vs
 |_,_,.nil=>.nil
 |_,_,.cons n t h=>.cons ⟨t,rfl⟩ (zLG h)
abbrev KOf{K:qA2}{h:Heap}(_:K.In h):qA2:=K
def zCC(s:Stmt):Arguments:=match s with
 |.FunctionDef _ a _ _ _ _ _ _ _ _=>a
 |_=>{ posonlyargs:=[],args:=[],vararg:=none,kwonlyargs:=[],kw_defaults:=[],kwarg:=none,defaults:=[] }
def zBD(s:Stmt):List Stmt:=match s with
 |.FunctionDef _ _ b _ _ _ _ _ _ _=>b
 |_=>[]
def zA7(s:Stmt):Scope:=match s with
 |.FunctionDef _ _ _ _ _ _ sc _ _ _=>sc
 |_=>{ kind:=.function,names:=[],isGenerator:=false,isCoroutine:=false }
abbrev CX0:CXT:=fun _ _ _ _ _ _=>False
abbrev E0:XK:=fun _ _ _=>False
def zg1{X:Cx}:zJS CX0 X E0:=fun _ _ _ _ _ _ _ h=>h.elim
structure Fun(K:qA2)(x qual:Str)(st:Stmt)(f:Addr)(fd:qJr):Prop where
 ex:∃(oc:Value)(od:Option Addr)(kV doc pm:Value)(an:Option Addr)(cdv ct:Value)(osl:Array (Option Value)),
  fd=qBt x qual (zCC st) (zBD st) (zA7 st) .none kV doc pm an cdv ct/\K.lookup f=some ⟨oc,od,.func fd,osl⟩/\qDd K cdv qual=true
 kp:qBj K (.ref f)=true
section
variable{P:qJ8}{w:World}{K:qA2}{mg:Str->Option Value}{base:Heap}
def Fun.ok{x qual:Str}{st:Stmt}{f:Addr}{fd:qJr}{N ps:List Str}{k:Nat}{sp:Sp}(F:Fun K x qual st f fd)(S:FnScope N ps (zA7 st))(len:∀vs H Q E,sp vs H Q E->vs.length=ps.length)
  (hbody:∀(cdv:Value)(A:qJb)(outer:List Env)(s:qJ5)(H:Hp)(vs:List V)(Q:VK)(E:XK),Room k (A.deeper (envOfC qual (zA7 st) s.heap.objs.size f cdv))->sp vs H Q E ->
   ∃t,PSs (cxOf CX0 P w K mg base N qual (zA7 st) f cdv A outer s H E).nox (zBD st) t/\t { nx:=fun _ H'=>Q .non H',rt:=Q } (start N vs) H):FnOk P w K mg base CX0 (k+1) f fd ps sp:=by
 obtain⟨oc,od,kV,doc,pm,an,cdv,ct,osl,rfl,lk,hcd⟩:=F.ex;refine zeN lk hcd S len fun A outer s H vs Q E hr hsp=>?_
 obtain⟨t,h,q⟩:=hbody cdv A outer s H vs Q E hr hsp;exact⟨t,h.nox,q⟩
def Fun.binds{x qual:Str}{st:Stmt}{f:Addr}{fd:qJr}{ps:List Str}(F:Fun K x qual st f fd)
  (h:∀(kV doc pm:Value)(an:Option Addr)(cdv ct:Value)(us:List Value),us.length=ps.length->qM2 (qBt x qual (zCC st) (zBD st) (zA7 st) .none kV doc pm an cdv ct) ⟨us,[]⟩=pure (ps.zip us)):Binds K fd ps []:=by
 obtain⟨oc,od,kV,doc,pm,an,cdv,ct,osl,rfl,lk,hcd⟩:=F.ex;exact .all (h kV doc pm an cdv ct)
def zTT{x qual:Str}{st:Stmt}{f:Addr}{oc:Value}{od an:Option Addr}{osl:Array (Option Value)}{kV doc pm cdv ct:Value}(l:K.lookup f=some ⟨oc,od,.func (qBt x qual (zCC st) (zBD st) (zA7 st) .none kV doc pm an cdv ct),osl⟩)
  (c:qDd K cdv qual=true) (k:qBj K (.ref f)=true):Fun K x qual st f (qBt x qual (zCC st) (zBD st) (zA7 st) .none kV doc pm an cdv ct):=⟨⟨oc,od,kV,doc,pm,an,cdv,ct,osl,rfl,l,c⟩,k⟩
end
def zgI{A:qJb}{k:Nat}(hr:Room k A):A.units+1<cLine:=qD0 (Nat.add_le_add_left (by decide:1<=64) _) hr.units
section
variable{X:Cx}
def pv(i:Nat){x:Str}{pos:Pos}(hN:X.N[i]?=some x:=by rfl)(hv:Vis X.env.scope x:=by first|exact qIz rfl|exact qId (qIz rfl)|exact qId (qId rfl))(hd:(x==("__debug__":Str))=false:=by decide)
  (hcd:(x==("__classdict__":Str))=false:=by decide):PE X (.Name x pos) (tVar i):=zYF hN hv hd hcd
end
def Same(H H':Hp):Prop:=∀b o,H b=some o->H' b=some o
def Same.refl(H:Hp):Same H H:=fun _ _ h=>h
def Same.trans{H H1 H2:Hp}(a:Same H H1)(b:Same H1 H2):Same H H2:=fun c o h=>b c o (a c o h)
def Same.free{H H':Hp}(e:Same H H'){l:Addr}(h:H' l=qGj):H l=qGj:=by
 cases q:H l with
 |none=>rfl
 |some o=>
  rw[e l o q]at h;cases h
def Same.seq{K:qA2}{H H':Hp}{a:Addr}{xs:List V}(e:Same H H')(h:SqL K H a xs):SqL K H' a xs:=by
 rcases h with(h|⟨o,h⟩)|h
 ·exact .inl (.inl (e _ _ h))
 ·exact .inl (.inr ⟨o,e _ _ h⟩)
 ·exact .inr h
section
variable[DecidableEq κ]
end
def asN{a b:Nat}(h:a<b):a<b:=h
def asL{a b:Nat}(h:a<=b):a<=b:=h
def asE{a b:Nat}(h:a=b):a=b:=h
def clos(cells:List (Str×Addr)):List (Str×qKb)->List (Str×Addr)->List (Str×Addr)
 |[],acc=>acc
 |(n,k)::r,acc=>if k==.free then clos cells r ((n,(cells.lookup n).getD 0)::acc)else clos cells r acc
def zED(cells:List (Str×Addr)):∀(names:List (Str×qKb))(acc:List (Str×Addr)),clos cells names acc=clos cells names []++acc
 |[],_=>rfl
 |(n,k)::r,acc=>by
  unfold clos;split
  ·rw[zED cells r (_::acc),zED cells r [_],qC2];rfl
  ·exact zED cells r acc
def zGY{cells:List (Str×Addr)}{x:Str}{c:Addr}:∀{names:List (Str×qKb)},(x,c)∈clos cells names []->(x,qJd)∈names/\c=(cells.lookup x).getD 0
 |[],h=>by simp[clos]at h
 |(n,k)::r,h=>by
  unfold clos at h;split at h
  ·rename_i hk
   rw[zED]at h;rcases qAr.mp h with h|h
   ·obtain⟨h1,h2⟩:=zGY h;exact⟨qAz _ h1,h2⟩
   ·have e:=qAu.mp h
    injection e with e1 e2
    subst e1;have hk':k=.free:=by simpa using hk
    subst hk';exact⟨qB4,e2⟩
  ·obtain⟨h1,h2⟩:=zGY h;exact⟨qAz _ h1,h2⟩
def zL3{cells:List (Str×Addr)}{x:Str}:∀{names:List (Str×qKb)},(x,qJd)∈names->(x,(cells.lookup x).getD 0)∈clos cells names []
 |[],h=>by simp at h
 |(n,k)::r,h=>by
  unfold clos;rcases qAc.mp h with e|h
  ·injection e with e1 e2
   subst e1;subst e2;rw[if_pos (by rfl),zED];exact qAw _ (by simp)
  ·split
   ·rw[zED];exact qB6 _ (zL3 h)
   ·exact zL3 h
def zBF:∀(names:List (Str×qKb))(n:Nat)(acc:List (Str×Addr)),cellsFrom n names acc=cellsFrom n names []++acc
 |[],_,_=>rfl
 |(x,k)::r,n,acc=>by
  unfold cellsFrom;split
  ·rw[zBF r (n+1) (_::acc),zBF r (n+1) [_],qC2];rfl
  ·exact zBF r n acc
def zCK{x:Str}{c:Addr}:∀{names:List (Str×qKb)}{n:Nat},(x,c)∈cellsFrom n names []->(x,qJv)∈names
 |[],_,h=>by simp[cellsFrom]at h
 |(y,k)::r,n,h=>by
  unfold cellsFrom at h;split at h
  ·rename_i hk
   rw[zBF]at h;rcases qAr.mp h with h|h
   ·exact qAz _ (zCK h)
   ·have e:=qAu.mp h
    injection e with e1 e2
    subst e1;have hk':k=.cell:=by simpa using hk
    subst hk';exact qB4
  ·exact qAz _ (zCK h)
def zC5{α:Type}{x:Str}{a:α}:∀{l:List (Str×α)},(l.map (·.1)).Nodup->(x,a)∈l->l.lookup x=some a
 |[],_,h=>by simp at h
 |(y,b)::r,nd,h=>by
  have nd':(y::r.map (·.1)).Nodup:=nd;obtain⟨h1,h2⟩:=qBk.mp nd';rcases qAc.mp h with e|hm
  ·injection e with e1 e2
   subst e1;subst e2;rw[qBy,beq_self_eq_true]
  ·have hne:(x==y)=false:=by
    rw[beq_eq_false_iff_ne]
    rintro rfl
    exact h1 (qAi.mpr ⟨(x,a),hm,rfl⟩)
   rw[qBy,hne];exact zC5 h2 hm
def zEL{α:Type}{x:Str}:∀{l:List (Str×α)},(∀a,(x,a)∉l)->l.lookup x=none
 |[],_=>rfl
 |(y,b)::r,h=>by
  have hne:(x==y)=false:=by
   rw[beq_eq_false_iff_ne]
   rintro rfl
   exact h b qB4
  rw[qBy,hne];exact zEL fun a m=>h a (qAz _ m)
def zEK{α:Type}{x:Str}{a:α}:∀{l:List (Str×α)},(x,a)∈l->∃b,l.lookup x=some b
 |[],h=>by simp at h
 |(y,b)::r,h=>by
  rw[qBy];cases e:x==y with
  |true=>exact⟨b,rfl⟩
  |false=>
   rcases qAc.mp h with q|q
   ·injection q with q1 _
    subst q1;rw[beq_self_eq_true]at e;cases e
   ·exact zEK q
def zJI{α:Type}{x:Str}:∀(l k:List (Str×α)),(l++k).lookup x=(l.lookup x).or (k.lookup x)
 |[],k=>by simp
 |(y,b)::r,k=>by
  show qEm x ((y,b)::(r++k))=_;rw[qBy,qBy];cases x==y with
  |true=>rfl
  |false=>exact zJI r k
def zfC(sc:Scope)(env:Env):Prop:=∀x,(x,qJd)∈sc.names->env.kindOf x=some .cell\/env.kindOf x=some .free
def zFN{sc:Scope}{env:Env}(h:∀x,(x,qJd)∈sc.names->∃c,env.cells.lookup x=some c):closureFor sc env=pure (clos env.cells sc.names []):=by
 have go:∀(names:List (Str×qKb))(acc:List (Str×Addr)),(∀x,(x,qJd)∈names->∃c,env.cells.lookup x=some c) ->
   (forIn names acc fun(x:Str×qKb)(cs:List (Str×Addr))=>(match x with|(name,kind)=>if(kind==qJd)=true then(do let c <- cellOf env name;pure (qD5 ((name,c)::cs)))else pure (qD5 cs):Sem (ForInStep (List (Str×Addr)))))=pure (clos env.cells names acc):=by
  intro names;induction names with
  |nil=>intro acc _;rfl
  |cons p r ih=>
   intro acc hn;obtain⟨n,k⟩:=p;have hr:∀x,(x,qJd)∈r->∃c,env.cells.lookup x=some c:=fun x hx=>hn x (qAz _ hx)
   rw[qFt];unfold clos;by_cases hk:(k==qJd)=true
   ·have hk':k=.free:=by simpa using hk
    subst hk';obtain⟨c,hc⟩:=hn n qB4;have e:cellOf env n=pure c:=by unfold cellOf;rw[hc]
    rw[if_pos (by rfl)];simp only[if_pos (show(qJd==qJd)=true from rfl),e,hc,qFe,pure_bind];exact ih _ hr
   ·rw[if_neg hk];simp only[if_neg hk,pure_bind];exact ih _ hr
 unfold closureFor;have q:=go sc.names [] h
 first
  |(rw[show(forIn sc.names ([]:List (Str×Addr)) _:Sem (List (Str×Addr)))=_ from q];rfl)
  |(refine(congrArg (fun z=>z >>= pure) q).trans ?_;rfl)
  |(simp only[q];rfl)
  |exact q
def zEC(sc:Scope)(C:Addr)(env:Env):Env:=
 { scope:=relabel sc env,locals:=C,globals:=env.globals,cells:=cellsFrom (C+1) sc.names (clos env.cells sc.names []),qual:=env.qual,func:=none,code:=env.code,frame:=env.frame,builtins:=env.builtins }
def zF4{M:Model}{A:qJb}{E:Value->qJ5->Prop}{s:qJ5}{sc:Scope}{env:Env}{cl:List (Str×Addr)}{Q:Env->qJ5->Prop}
  (hQ:Q { scope:=sc,locals:=s.heap.objs.size,globals:=env.globals,cells:=cellsFrom (s.heap.objs.size+1) sc.names cl,qual:=env.qual,func:=none,code:=env.code,frame:=env.frame,builtins:=env.builtins }
   { s with heap:=pushCells (s.heap.push { cls:=.type "dict",data:=.dict #[] }) sc.names }) :
  wpAny M A (newFunctionEnv sc env.globals cl [] env.qual none .none (some env)) Q E s:=by
 simp only[newFunctionEnv,Option.isSome_some,if_true];refine wpAny_bind (wpAny_alloc ?_);refine wpAny_bind (wpAny_layCells _ (fun name kind cells=>by cases hkc:kind==qJv<;>simp[hkc]) _ _ _ _ ?_);rw[show({ s with heap:=s.heap.push { cls:=.type "dict",data:=.dict #[] } }:qJ5).heap.objs.size=s.heap.objs.size+1 from qJj ..];refine wpAny_bind ?_;rw[List.forIn_nil];exact wpAny_pure (wpAny_pure hQ)
def zDC(X:Cx)(N':List Str)(sc:Scope)(C:Addr)(s:qJ5)(H:Hp)(fp:List Addr):Cx:=
 { X with N:=N',s₀:=s,H₀:=H,env:=zEC sc C X.env,outer:=X.stack,stack:=X.stack,ex:=fp,fn:=fun x=>sc.names.lookup x==some .cell,pn:=[],xe:=fun _ _=>False }
def PTs(X:Cx)(ifs:List Expr)(t:TT):Prop:=
 ∀(pins:List (Addr×Obj))(s:qJ5)(σ:St)(H:Hp)(Q:Bool->Hp->Prop),Inv X pins σ H s->t σ H Q ->
  wpAny (model X.prog X.w) X.A (forIn ifs true fun c r=>if r=true then do let ok <- isTrue c X.env (eval c X.env);pure (qD5 ok)else pure (qD5 r)) (TP X pins σ Q) X.xe s
def tYes:TT:=fun _ H Q=>Q true H
def zBB{X:Cx}:PTs X [] tYes:=fun _ _ _ H _ I h=>wpAny_tests_nil ⟨H,I,h⟩
def zHK{X:Cx}{c:Expr}{t:TT}(h:PT X c t):PTs X [c] t:=fun pins s σ H Q I q=>wpAny_tests_one (h pins s σ H Q I q)
structure CompNames(N N':List Str)(k:Nat)(sc:Scope)(env:Env):Prop where
 kind:sc.kind=.function
 nd:(sc.names.map (·.1)).Nodup
 len:N'.length=N.length+k
 old:∀(i:Nat)(x:Str),N'[i]?=some x->i<N.length->(x,qJd)∈sc.names/\N[i]?=some x\/sc.names.lookup x=none
 free:zfC sc env
def zBH{sc:Scope}{env:Env}{x:Str}{k:qKb}:∀{names:List (Str×qKb)},
  (names.map fun(n,k)=>if(k==qJd&&env.scope.kind==.function&&env.kindOf n==some .cell)then(n,qJv)else(n,k)).lookup x=some k ->
  names.lookup x=some k\/(names.lookup x=some .free/\k=.cell)
 |[],h=>by simp at h
 |(n,j)::r,h=>by
  have ih:=@zBH sc env x k r;rw[qAd]at h;rw[qBy];by_cases hc:(j==qJd&&env.scope.kind==.function&&env.kindOf n==some .cell)=true
  ·have h':qEm x ((n,qJv)::(r.map fun(n,k)=>if(k==qJd&&env.scope.kind==.function&&env.kindOf n==some .cell)then(n,qJv)else(n,k)))=some k:=by
    rw[<- h];simp only[if_pos hc]
   rw[qBy]at h';cases e:x==n with
   |true=>
    rw[e]at h';have hk:k=.cell:=(qBc h').symm;have hj:j=.free:=by
     simp only[qBi,beq_iff_eq]at hc;exact hc.1.1
    subst hj;exact .inr ⟨rfl,hk⟩
   |false=>
    rw[e]at h';exact ih h'
  ·have h':qEm x ((n,j)::(r.map fun(n,k)=>if(k==qJd&&env.scope.kind==.function&&env.kindOf n==some .cell)then(n,qJv)else(n,k)))=some k:=by
    rw[<- h];simp only[if_neg hc]
   rw[qBy]at h';cases e:x==n with
   |true=>rw[e]at h';exact .inl h'
   |false=>rw[e]at h';exact ih h'
section
variable{X:Cx}{N':List Str}{k:Nat}{sc:Scope}{pins:List (Addr×Obj)}{σ:St}{H:Hp}{s:qJ5}
def zR5{C:Addr}{x:Str}{c:Addr}(nd:(sc.names.map (·.1)).Nodup)(h:(zEC sc C X.env).cells.lookup x=some c) :
  ((x,c)∈cellsFrom (C+1) sc.names []/\(x,qJv)∈sc.names)\/((x,qJd)∈sc.names/\c=(X.env.cells.lookup x).getD 0):=by
 have m:=mem_of_lookup h;have m':(x,c)∈cellsFrom (C+1) sc.names (clos X.env.cells sc.names []):=m;rw[zBF]at m';rcases qAr.mp m' with z|z
 ·exact .inl ⟨z,zCK z⟩
 ·exact .inr (zGY z)
def zEP{C:Addr}{x:Str}(nd:(sc.names.map (·.1)).Nodup)(h:(x,qJd)∈sc.names):(zEC sc C X.env).cells.lookup x=some ((X.env.cells.lookup x).getD 0):=by
 show(cellsFrom (C+1) sc.names (clos X.env.cells sc.names [])).lookup x=_;rw[zBF,zJI,zEL (fun a m=>?_),Option.none_or]
 ·obtain⟨b,hb⟩:=zEK (zL3 (cells:=X.env.cells) h)
  have:=(zGY (mem_of_lookup hb)).2;rw[hb,this]
 ·have e1:=zC5 nd (zCK m);rw[zC5 nd h]at e1;cases e1
def zWW(I:Inv X pins σ H s)(hc:X.calm=true)(S:CompNames X.N N' k sc X.env){fp:List Addr}(hf:∀b∈fp,FpOk X pins H b)(hfo:∀b∈fp,∃o,s.heap.get? b=some o)
  {s4:qJ5} {D C:Addr} (eD:D=s.heap.objs.size) (eC:C=s.heap.objs.size+1)
  (e4:s4={ s with heap:=pushCells ((s.heap.push { cls:=.type "list",data:=.seq #[] 0 }).push { cls:=.type "dict",data:=.dict #[] }) sc.names }) :
  Inv (zDC X N' sc C s H fp) [(D,{ cls:=.type "list",data:=.seq #[] 0 })] (σ++qA8 k none) H s4/\∀b∈fp,FpOk (zDC X N' sc C s H fp) [(D,{ cls:=.type "list",data:=.seq #[] 0 })] H b:=by
 subst eD eC e4;generalize hh1:s.heap.push { cls:=.type "list",data:=.seq #[] 0 }=h1;generalize hh2:h1.push { cls:=.type "dict",data:=.dict #[] }=h2;have sz1:h1.objs.size=s.heap.objs.size+1:=by rw[<- hh1];exact qJj ..
 have sz2:h2.objs.size=s.heap.objs.size+2:=by rw[<- hh2,qJj,sz1]
 have k1:∀b o,s.heap.get? b=some o->h1.get? b=some o:=fun b o e=>by rw[<- hh1];exact qJ4 _ e
 have k2:∀b o,h1.get? b=some o->h2.get? b=some o:=fun b o e=>by rw[<- hh2];exact qJ4 _ e
 have k3:∀b o,h2.get? b=some o->(pushCells h2 sc.names).get? b=some o:=pushCells_keeps sc.names h2;have kk:∀b o,s.heap.get? b=some o->(pushCells h2 sc.names).get? b=some o:=fun b o e=>k3 b o (k2 b o (k1 b o e))
 have own:CellsOk (pushCells h2 sc.names) h2.objs.size (cellsFrom h2.objs.size sc.names []):=cellsFrom_ok sc.names h2 h2.objs.size [] ⟨fun _ _ hm=>(nomatch hm),qE4⟩ (qAa _);have eC1:s.heap.objs.size+1+1=h2.objs.size:=by rw[sz2]
 have freeCell:∀x,(x,qJd)∈sc.names->∃c,X.env.cells.lookup x=some c:=fun x hx=>I.ok.has x (S.free x hx)
 have cells:∀x c,(zEC sc (s.heap.objs.size+1) X.env).cells.lookup x=some c ->
   ((x,c)∈cellsFrom h2.objs.size sc.names []/\(x,qJv)∈sc.names/\(pushCells h2 sc.names).IsCell c none/\h2.objs.size<=c)\/((x,qJd)∈sc.names/\X.env.cells.lookup x=some c):=fun x c e=>by
  rcases zR5 S.nd e with⟨m,q⟩|⟨m,q⟩
  ·rw[eC1]at m;exact .inl ⟨m,q,(own.empty x c m).1,(own.empty x c m).2⟩
  ·obtain⟨c',hc'⟩:=freeCell x m;rw[hc',qFe]at q;subst q;exact .inr ⟨m,hc'⟩
 have old:∀x c,X.env.cells.lookup x=some c->c<s.heap.objs.size:=fun x c e=>by
  obtain⟨v,q⟩:=I.cell x c e;exact q.lt
 have fpl:∀b∈fp,b<s.heap.objs.size:=fun b hb=>by
  obtain⟨o,e⟩:=hfo b hb;exact qJ6 e
 have hCn:H (s.heap.objs.size+1)=none:=I.hok.fresh (qC8 _);have hDn:H s.heap.objs.size=none:=I.hok.fresh (qAa _);have nofs:∀a,s.heap.objs.size<=a->a∉frs X.stack:=fun a ha hb=>by
  rcases qAc.mp (I.stkSub a hb)with e|hb
  ·have t1:=asN I.lt;have t2:=asE e;have t3:=asL ha
   lia
  ·exact I.nofs ha hb
 have fin:∀b∈fp,b∉frs X.stack:=fun b hb z=>by
  obtain⟨f0,f1,f2,f3,f4,f5⟩:=hf b hb;rcases qAc.mp (I.stkSub b z)with e|z
  ·exact f1 e
  ·exact f2 z
 have ok:(zDC X N' sc (s.heap.objs.size+1) s H fp).Ok:=by
  refine⟨I.ok.mod,S.kind,I.ok.glob,I.ok.blt,qC8 _,?_,?_,?_,I.ok.hd,I.ok.frames,.inl rfl,?_,I.bs,qAq I.ok.bsz I.sz,?_,fin,I.stack,I.stkFree⟩
  ·intro x y c hx hy
   rcases cells x c hx with⟨m1,_,_,g1⟩|⟨m1,g1⟩<;>rcases cells y c hy with⟨m2,_,_,g2⟩|⟨m2,g2⟩
   ·exact name_of_addr own.apart m1 m2
   ·exact absurd (qAk (old y c g2) (qAq (by rw[sz2];exact qFf _ _) g1)) (qCj _)
   ·exact absurd (qAk (old x c g1) (qAq (by rw[sz2];exact qFf _ _) g2)) (qCj _)
   ·exact I.ok.inj x y c g1 g2
  ·intro x hx;have hx:(relabel sc X.env).names.lookup x=some .cell\/(relabel sc X.env).names.lookup x=some .free:=hx;have two:sc.names.lookup x=some .cell\/sc.names.lookup x=some .free:=by
    rcases hx with hx|hx
    ·rcases zBH (sc:=sc) hx with q|⟨q,_⟩
     ·exact .inl q
     ·exact .inr q
    ·rcases zBH (sc:=sc) hx with q|⟨_,q⟩
     ·exact .inr q
     ·cases q
   rcases two with q|q
   ·have:=qDy sc.names (s.heap.objs.size+1+1) (clos X.env.cells sc.names []) (.inl q)
    exact qEz.mp this
   ·exact⟨_,zEP S.nd (mem_of_lookup q)⟩
  ·intro x c hx e;have hx:(sc.names.lookup x==some qJv)=true:=hx;have hx':sc.names.lookup x=some .cell:=by simpa using hx
   rcases cells x c e with⟨_,_,_,g⟩|⟨m,_⟩
   ·show s.heap.objs.size<=c
    lia
   ·rw[zC5 S.nd m]at hx';cases hx'
  ·intro b hb;refine⟨?_,fun x c e z=>?_⟩
   ·exact qAl (qBn (fpl b hb))
   ·rcases cells x c e with⟨_,_,_,g⟩|⟨_,g⟩
    ·have t1:=asN (fpl b hb);have t2:=asL g;have t3:=asE z
     lia
    ·exact(hf b hb).2.2.2.2.1 x c g z
  ·intro b o e hb
   rcases(hf b hb).2.2.2.1 with z|z
   ·exact I.ok.noex b o e z
   ·exact absurd (qAk (qJ6 e) (qAq I.ok.bsz z)) (qCj _)
 have ns:(pushCells h2 sc.names).Ns (s.heap.objs.size+1) fun _=>none:=by
  have q:h2.Ns h1.objs.size fun _=>none:=by rw[<- hh2];exact Heap.Ns.new h1 (.type "dict")
  rw[sz1]at q;exact q.keeps k3
 have hD1:h1.get? s.heap.objs.size=some { cls:=.type "list",data:=.seq #[] 0 }:=by rw[<- hh1];exact qJ7 _ rfl
 refine⟨⟨ok,rfl,I.bare,Un.kept kk,⟨_,ns,?_⟩,?_,hCn,?_,?_,I.hok.kept kk,?_⟩,?_⟩
 ·intro i x v h1 h2 h3;have hi:i<X.N.length:=by
   rw[<- I.len];by_cases hi:i<σ.length
   ·exact hi
   ·rw[qA7 (by lia),qCc]at h2
    split at h2<;>cases h2
  have h2':σ[i]?=some (some v):=by
   rw[qA9 (by rw[I.len];exact hi)]at h2;exact h2
  have h1:N'[i]?=some x:=h1;rcases S.old i x h1 hi with⟨m,e⟩|e
  ·obtain⟨mm,hn,hl⟩:=I.loc;have hv:Vis X.env.scope x:=(S.free x m).elim (fun z=>.inr (.inl z)) fun z=>.inr (.inr z)
   obtain⟨u,r,l⟩:=hl i x v e h2' hv;refine⟨u,r,?_⟩;rcases l with⟨z,_⟩|⟨_,c,hc,hcell⟩
   ·rcases S.free x m with z'|z'<;>rw[z]at z'<;>cases z'
   ·refine .inr ⟨?_,c,?_,hcell.keeps kk⟩
    ·have hv3:(relabel sc X.env).names.lookup x=some .local\/(relabel sc X.env).names.lookup x=some .cell\/(relabel sc X.env).names.lookup x=some .free:=h3
     rcases hv3 with q|q|q
     ·rcases zBH (sc:=sc) q with q|⟨_,q⟩
      ·rw[zC5 S.nd m]at q;cases q
      ·cases q
     ·exact .inl q
     ·exact .inr q
    ·have q:=zEP (X:=X) (C:=s.heap.objs.size+1) S.nd m;rw[hc,qFe]at q;exact q
  ·exfalso
   have hv3:(relabel sc X.env).names.lookup x=some .local\/(relabel sc X.env).names.lookup x=some .cell\/(relabel sc X.env).names.lookup x=some .free:=h3;rcases hv3 with q|q|q<;>rcases zBH (sc:=sc) q with q|⟨q,_⟩<;>rw[e]at q<;>cases q
 ·intro x c e
  rcases cells x c e with⟨_,_,g,_⟩|⟨_,g⟩
  ·exact⟨_,g⟩
  ·obtain⟨v,q⟩:=I.cell x c g;exact⟨v,q.keeps kk⟩
 ·intro x c e
  rcases cells x c e with⟨_,_,_,g⟩|⟨_,g⟩
  ·exact I.hok.fresh (by lia)
  ·exact I.freeC x c g
 ·intro p hp;have hp':p=(s.heap.objs.size,{ cls:=.type "list",data:=.seq #[] 0 }):=by
   have:p∈([]++[(s.heap.objs.size,({ cls:=.type "list",data:=.seq #[] 0 }:Obj))]:List (Addr×Obj)):=hp;simpa using this
  subst hp';refine⟨k3 _ _ (k2 _ _ hD1),hDn,?_,nofs _ (qAa _),fun v z=>by cases z⟩;show s.heap.objs.size≠s.heap.objs.size+1
  lia
 ·show(σ++qA8 k none).length=N'.length
  rw[qAo,qCk,I.len,S.len]
 ·intro b hb;obtain⟨f0,f1,f2,f3,f4,f5⟩:=hf b hb;refine⟨f0,(ok.exf b hb).1,fin b hb,.inl hb,fun x c e=>(ok.exf b hb).2 x c e,fun p hp=>?_⟩;have hp':p=(s.heap.objs.size,{ cls:=.type "list",data:=.seq #[] 0 }):=by
   have:p∈([]++[(s.heap.objs.size,({ cls:=.type "list",data:=.seq #[] 0 }:Obj))]:List (Addr×Obj)):=hp;simpa using this
  subst hp';exact qBs (fpl b hb)
end
def zEG{prog:qJ8}{w:World}{A:qJb}{R:qMg->qJ5->Prop}{s:qJ5}{elt target iter:Expr}{ifs:List Expr}{scope:Scope}{pos:Pos}{it acc:Value}{env:Env}(I:Nat->qJ5->Prop)
  (turn:∀n s,I n s->wpAny (model prog w) A (pyNext it) (fun r s₁=>match r with
   |none=>R (.ok .next) s₁
   |some v=>wpAny (model prog w) A (letOwnedTupleGo target it v) (fun _ s₂'=>wpAny (model prog w) A (assign target env v) (fun _ s₂=>
     wpAny (model prog w) A (forIn ifs true fun c r=>if r=true then do let ok <- isTrue c env (eval c env);pure (qD5 ok)else pure (qD5 r)) (fun ok s₃=>
      if ok=true then wpAny (model prog w) A (eval elt env) (fun x s₄=>
       wpAny (model prog w) A (call (.builtin "list.append") [acc,x]) (fun _ s₅=>∃m,m<n/\I m s₅) (fun _ _=>False) s₄) (fun _ _=>False) s₃
      else ∃m,m<n/\I m s₃) (fun _ _=>False) s₂) (fun _ _=>False) s₂') (fun _ _=>False) s₁) (fun _ _=>False) s)
  (n:Nat) (h:I n s) :
  qKr (model prog w) A (.compLoop (.ListComp elt [⟨target,iter,ifs,0⟩] scope pos) 0 it acc env) R s:=by
 refine codeAny_loop rfl I (fun n s hI=>?_) n h;show wpAny _ A ((compTurn (.ListComp elt [⟨target,iter,ifs,0⟩] scope pos) 0 it acc env).onRaise (fun x=>do noteFrame x env;theTreesLotGoes x)) _ _ s;refine wpAny_noted ?_;rw[compTurn_list];refine wpAny_bind (wpAny_standAt (wpAny_bind (wpAny_mono (turn n s hI) (fun r s₁ h₁=>?_) fun _ _ z=>z.elim)));cases r with
 |none=>exact wpAny_pure h₁
 |some v=>
  refine wpAny_bind (wpAny_mono h₁ (fun _ s₂' h₂'=>?_) fun _ _ z=>z.elim);refine wpAny_bind (wpAny_mono h₂' (fun _ s₂ h₂=>wpAny_bind (wpAny_mono h₂ (fun ok s₃ h₃=>?_) fun _ _ z=>z.elim)) fun _ _ z=>z.elim);cases ok with
  |false=>exact wpAny_pure ⟨rfl,h₃⟩
  |true=>
   exact wpAny_bind (wpAny_bind (wpAny_mono h₃ (fun x s₄ h₄=>wpAny_bind (wpAny_mono h₄ (fun _ s₅ h₅=>wpAny_pure (wpAny_pure ⟨rfl,h₅⟩)) fun _ _ z=>z.elim)) fun _ _ z=>z.elim))
def zY2(k:Nat)(g:TG)(tif:TT)(te:TE)(σ:St)(Q:VK)(J:It)(H1:Hp):Prop:=∃W:Nat->Nat->List V->Hp->Prop,(∃m,W 0 m [] H1)/\∀i m acc H,W i m acc H ->
 (J.stop i H/\∀D,H D=none->Q (.ref D) (upd H D (.lst acc))) \/
 (J.go i H/\acc.length<sizeLine/\∃N:List V->Hp->Prop,(∀acc' H',N acc' H'->∃m',m'<m/\W (i+1) m' acc' H')/\∀x H',J.yld i H x H'->g x (σ++qA8 k none) H' fun σ2 H2=>∃own:St,own.length=k/\σ2=σ++own/\tif σ2 H2 fun b H3=>if b=true then te σ2 H3 fun v H4=>N (acc++[v]) H4 else N acc H3)
def zZP(wi:TI)(k:Nat)(g:TG)(tif:TT)(te:TE):TE:=fun σ H Q=>wi σ H (zY2 k g tif te σ Q)
def HOk.track{P:qJ8}{w:World}{H:Hp}{h:Heap}{a:Addr}{o:HO}(x:HOk P w H h)(hn:H a=none)(new:ObjOk P w (upd H a o) h a o):HOk P w (upd H a o) h:=fun b u e=>by
 by_cases hb:b=a
 ·subst hb;rw[zAA]at e;cases e;exact new
 ·rw[zAD hb]at e;exact(x b u e).stay (fun c v _ q=>q) (fun c q=>by rw[zAD (zAK q hn)];exact q) (fun c xs q=>by rw[zAD (zAK q hn)];exact q) fun c _ _ q _=>by rw[zAD (zAK q hn)];exact q
section
variable{X:Cx}{N':List Str}{k:Nat}{sc:Scope}{tg iter elt:Expr}{ifs:List Expr}{wi:TI}{g:TG}{tif:TT}{te:TE}{pos:Pos}
def zJO{pins:List (Addr×Obj)}{σ:St}{H2:Hp}{s2:qJ5}{Q:VK}{RR:Value->Addr->qMg->qJ5->Prop}{E:Value->qJ5->Prop}(hc:X.calm=true)(S:CompNames X.N N' k sc X.env)
  (hg:∀C s H fp,PG (zDC X N' sc C s H fp) tg g) (hif:∀C s H fp,PTs (zDC X N' sc C s H fp) ifs tif) (he:∀C s H fp,PE (zDC X N' sc C s H fp) elt te)
  {it:Addr} {fp:List Addr} {tn:Nat->Heap->Prop} {J:It} (I2:Inv X pins σ H2 s2) (T:Turn X.prog X.w X.K tg J fp it tn) (st2:tn 0 s2.heap) (f2:∀b∈fp,FpOk X pins H2 b)
  {W:Nat->Nat->List V->Hp->Prop} {m0:Nat} (w0:W 0 m0 [] H2)
  (turn:∀i m acc H,W i m acc H->(J.stop i H/\∀D,H D=none->Q (.ref D) (upd H D (.lst acc))) \/
   (J.go i H/\acc.length<sizeLine/\∃N:List V->Hp->Prop,(∀acc' H',N acc' H'->∃m',m'<m/\W (i+1) m' acc' H')/\∀x H',J.yld i H x H'->g x (σ++qA8 k none) H' fun σ2 H2=>∃own:St,own.length=k/\σ2=σ++own/\tif σ2 H2 fun b H3=>if b=true then te σ2 H3 fun v H4=>N (acc++[v]) H4 else N acc H3))
  (hRR:∀D C s' H',D<C->s2.heap.objs.size<=D->(∃m,s'.heap.Ns C m)->H' C=none->C∉frs X.stack->Inv X pins σ H' s'->Q (.ref D) H'->RR (.ref D) C (.ok .next) s') :
  wpAny (model X.prog X.w) X.A (newList []) (fun acc s₃=>wpAny (model X.prog X.w) X.A (newFunctionEnv sc X.env.globals (clos X.env.cells sc.names []) [] X.env.qual none .none (some X.env)) (fun cenv s₄=>
   qKr (model X.prog X.w) X.A (.compStart (.ListComp elt [⟨tg,iter,ifs,0⟩] sc pos) 0 (.ref it) acc { cenv with scope:=relabel sc X.env }) (RR acc cenv.locals) s₄) E s₃) E s2:=by
 refine wpAny_newObj_type (zF4 ?_);show qKr _ _ (.compStart _ 0 (.ref it) (.ref s2.heap.objs.size) _) _ _;have szp:(s2.heap.push { cls:=.type "list",dict:=none,data:=.seq ([]:List Value).toArray }).objs.size=s2.heap.objs.size+1:=qJj ..;obtain⟨I4,F4⟩:=zWW (s4:={ s2 with heap:=pushCells ((s2.heap.push { cls:=.type "list",data:=.seq #[] 0 }).push { cls:=.type "dict",data:=.dict #[] }) sc.names }) I2 hc S f2 (fun b hb=>let⟨o,e,_⟩:=T.obj 0 _ st2 b hb;⟨o,e⟩) rfl rfl rfl
 generalize hC:(s2.heap.push { cls:=.type "list",dict:=none,data:=.seq ([]:List Value).toArray }).objs.size=C at *;have eC:C=s2.heap.objs.size+1:=szp;rw[<- eC]at I4 F4;generalize hs4:({ s2 with heap:=pushCells ((s2.heap.push { cls:=.type "list",data:=.seq #[] 0 }).push { cls:=.type "dict",data:=.dict #[] }) sc.names }:qJ5)=s4 at I4 F4
 have kk:∀b o,s2.heap.get? b=some o->s4.heap.get? b=some o:=fun b o e=>by
  rw[<- hs4];exact pushCells_keeps sc.names _ b o (qJ4 _ (qJ4 _ e))
 have st4:tn 0 s4.heap:=T.keep 0 _ _ st2 fun b _ o e=>kk b o e
 generalize hX':zDC X N' sc C s2 H2 fp=X' at I4 F4;have henv:X'.env=zEC sc C X.env:=by rw[<- hX'];rfl
 have xprog:X'.prog=X.prog:=by rw[<- hX'];rfl
 have xw:X'.w=X.w:=by rw[<- hX'];rfl
 have xK:X'.K=X.K:=by rw[<- hX'];rfl
 have xcalm:X'.calm=true:=by rw[<- hX'];exact hc
 have xA:X'.A=X.A:=by rw[<- hX'];rfl
 have xpn:X'.pn=[]:=by rw[<- hX'];rfl
 have xxe:X'.xe=fun _ _=>False:=by rw[<- hX'];rfl
 have xs0:X'.s₀=s2:=by rw[<- hX'];rfl
 have xH0:X'.H₀=H2:=by rw[<- hX'];rfl
 have xfs:X'.fs=frs X.stack:=by rw[<- hX'];rfl
 have xex:X'.ex=fp:=by rw[<- hX'];rfl
 have hgX:PG X' tg g:=by rw[<- hX'];exact hg C s2 H2 fp
 have hifX:PTs X' ifs tif:=by rw[<- hX'];exact hif C s2 H2 fp
 have heX:PE X' elt te:=by rw[<- hX'];exact he C s2 H2 fp
 have locC:X'.env.locals=C:=by rw[henv];rfl
 generalize hDd:s2.heap.objs.size=D at *;have loop:qKr (model X.prog X.w) X.A (.compLoop (.ListComp elt [⟨tg,iter,ifs,0⟩] sc pos) 0 (.ref it) (.ref D) (zEC sc C X.env)) (RR (.ref D) C) s4:=by
  refine zEG (fun n s'=>∃i H' acc its nn,Inv X' [] (σ++qA8 k none) H' s'/\tn i s'.heap/\(∀b∈fp,H' b=none)/\H' D=none/\W i n acc H'/\acc.length<=sizeLine/\Vals acc its/\s'.heap.get? D=some { cls:=.type "list",data:=.seq its.toArray nn }) ?_ m0 ?_
  ·rintro n s5 ⟨i,H5,acc,its,nn,I5,st5,fr5,hD5,w5,hz5,rv5,hL5⟩
   have hDlt:D<C:=by rw[eC];exact qC9 _
   have pinD:Inv X' [(D,{ cls:=.type "list",data:=.seq its.toArray nn })] (σ++qA8 k none) H5 s5:=I5.pins_of fun p hp=>by
    have hp':p=(D,{ cls:=.type "list",data:=.seq its.toArray nn }):=by simpa using hp
    subst hp';refine⟨hL5,hD5,?_,?_,fun v z=>by cases z⟩
    ·rw[locC];exact qAl hDlt
    ·have q:=(I4.pin (D,{ cls:=.type "list",data:=.seq #[] 0 }) (by simp)).2.2.2.1;exact q
   have fpD:∀{H':Hp}{oo:Obj},(∀b∈fp,H' b=none)->∀b∈fp,FpOk X' [(D,oo)] H' b:=fun{H' oo} hn b hb=>by
    obtain⟨f0,f1,f2,f3,f4,f5⟩:=F4 b hb;refine⟨hn b hb,f1,f2,f3,f4,fun p hp=>?_⟩;have hp':p=(D,oo):=by
     rw[xpn]at hp;simpa using hp
    subst hp';exact f5 (D,{ cls:=.type "list",data:=.seq #[] 0 }) (by simp)
   rcases turn i n acc H5 w5 with⟨stop,q⟩|⟨go,hlt,N,hN,step⟩
   ·have dn:=T.done X' xprog xw xK xcalm i _ s5 _ H5 (fun _ _=>False) pinD (fpD fr5) st5 stop;rw[xA]at dn;refine thn dn fun r s6 z0=>?_
    obtain⟨hr,I6⟩:=z0;subst hr;show RR (.ref D) C (.ok .next) s6;have hL6:=(I6.pin (D,{ cls:=.type "list",data:=.seq its.toArray nn }) (by simp)).1;have un6:Un (frs X.stack) fp H2 H5 s2.heap s6.heap:=by
     have:=I6.base;rw[xs0,xH0,xfs,xex]at this;exact this
    have hok6:HOk X.prog X.w H5 s6.heap:=by
     have:=I6.hok;rw[xprog,xw]at this;exact this
    have hDno:s2.heap.get? D=none:=qJp (by rw[hDd];exact qAa _);have un7:Un (frs X.stack) fp H2 (upd H5 D (.lst acc)) s2.heap s6.heap:=
     ⟨un6.keep,un6.slot,fun b o e n hx=>by
       have hb:b≠D:=by rintro rfl;rw[hDno]at e;cases e
       rw[zAD hb];exact un6.free b o e n hx,un6.there,
      fun b xs e=>by
       have e':=un6.tups b xs e;rw[zAD (zAK e' hD5)];exact e',
      fun b o u e=>by
       have e':=un6.frzs b o u e;rw[zAD (zAK e' hD5)];exact e',
      fun b ps e=>by
       obtain⟨more,e'⟩:=un6.tbls b ps e;exact⟨more,by rw[zAD (zAK e' hD5)];exact e'⟩⟩
    have hok7:HOk X.prog X.w (upd H5 D (.lst acc)) s6.heap:=hok6.track hD5 ⟨hz5,its,nn,rv5,hL6⟩;have os6:s6.os=s2.os:=by have:=I6.os;rw[xs0]at this;exact this
    have I7:Inv X pins σ (upd H5 D (.lst acc)) s6:=I2.call' os6 un7 hok7 I6.bare fun b hb=>by
     obtain⟨f0,f1,f2,f3,f4,f5⟩:=f2 b hb;exact⟨f3,f1,f4,f5⟩
    obtain⟨mm,hn,_⟩:=I6.loc;rw[locC]at hn;have hC5:H5 C=none:=by have:=I6.free;rw[locC]at this;exact this
    refine hRR D C s6 (upd H5 D (.lst acc)) hDlt (qAa _) ⟨mm,hn⟩ ?_ ?_ I7 (q D hD5)
    ·rw[zAD (qBs hDlt)];exact hC5
    ·intro hb
     rcases qAc.mp (I2.stkSub C hb)with e|hb
     ·have t1:=asN I2.lt;have t2:=asE e;rw[hDd]at t1;have t3:=asN hDlt
      lia
     ·exact I2.nofs (by rw[hDd];exact qD3 hDlt) hb
   ·have itm:=T.item X' xprog xw xK xcalm i _ s5 _ H5 (fun _ _=>False) pinD (fpD fr5) st5 go;rw[xA]at itm;refine thn itm fun r s6 z0=>?_
    obtain⟨u,hr,h6⟩:=z0;subst hr;refine thn h6 fun _ s7 z0=>?_
    obtain⟨x,H7,I7,r7,y7,st7,fr7⟩:=z0;have I7':Inv X' ([(D,{ cls:=.type "list",data:=.seq its.toArray nn })]++zJE fp s7.heap) (σ++qA8 k none) H7 s7:=I7.pinned (fpD fr7) (T.obj _ _ st7);have asg:=hgX _ s7 _ H7 x u _ I7' r7 (step x H7 y7);rw[xprog,xw,xA,henv,xxe]at asg;refine thn asg fun _ s8 z0=>?_
    obtain⟨σ8,H8,I8,own,hown,hσ8,q8⟩:=z0;have weak:∀{pl:List (Addr×Obj)}{H':Hp}{s':qJ5},Inv X' pl σ8 H' s'->Inv X' [] (σ++qA8 k none) H' s':=fun{pl H' s'} J'=>by
     have J0:Inv X' [] σ8 H' s':=J'.pins_of (fun p hp=>by simp at hp);refine J0.weak (by rw[hσ8];simp[hown]) fun j v hj=>?_
     rw[hσ8];by_cases hjl:j<σ.length
     ·rw[qA9 hjl]at hj ⊢;exact hj
     ·rw[qA7 (by lia),qCc]at hj
      split at hj<;>cases hj
    have tst:=hifX _ s8 σ8 H8 _ I8 q8;rw[xprog,xw,xA,henv,xxe]at tst;refine thn tst fun b s9 z0=>?_
    obtain⟨H9,I9,q9⟩:=z0;have pin9:∀{σ':St}{H':Hp}{s':qJ5},Inv X' ([(D,{ cls:=.type "list",data:=.seq its.toArray nn })]++zJE fp s7.heap) σ' H' s' ->
      s'.heap.get? D=some { cls:=.type "list",data:=.seq its.toArray nn }/\H' D=none/\tn (i+1) s'.heap/\(∀b∈fp,H' b=none):=fun{σ' H' s'} J'=>by
     have a1:=J'.pin (D,{ cls:=.type "list",data:=.seq its.toArray nn }) (by simp);refine⟨a1.1,a1.2.1,T.keep _ _ _ st7 fun b hb o e=>(J'.pin (b,o) (qAw _ (qAw _ (zE5 hb e)))).1,fun b hb=>?_⟩;obtain⟨o,e,d⟩:=T.obj _ _ st7 b hb;exact(J'.pin (b,o) (qAw _ (qAw _ (zE5 hb e)))).2.1
    cases b with
    |false=>
     rw[if_neg qAh];rw[if_neg qAh]at q9;obtain⟨m',hm,w9⟩:=hN _ _ q9;obtain⟨p1,p2,p3,p4⟩:=pin9 I9;exact⟨m',hm,i+1,H9,acc,its,nn,weak I9,p3,p4,p2,w9,hz5,rv5,p1⟩
    |true=>
     rw[if_pos rfl];rw[if_pos rfl]at q9;have ev:=heX _ s9 σ8 H9 _ I9 q9;rw[xprog,xw,xA,henv,xxe]at ev;refine thn ev fun y s10 z0=>?_
     obtain⟨v,H10,I10,r10,n10⟩:=z0;obtain⟨m',hm,w10⟩:=hN _ _ n10;obtain⟨p1,p2,p3,p4⟩:=pin9 I10;have hlen:its.length=acc.length:=rv5.length.symm;refine wpAny_list_append_plain (items:=its.toArray) ⟨nn,p1⟩ (fun h' hl' hs'=>?_) (by simp only[qAg];lia);have hDfp:D∉fp:=fun hb=>(F4 D hb).2.2.2.2.2 (D,{ cls:=.type "list",data:=.seq #[] 0 }) (by simp) rfl
     have I11:Inv X' [] (σ++qA8 k none) H10 { s10 with heap:=h' }:=by
      have J0:Inv X' [] (σ++qA8 k none) H10 s10:=weak I10;refine J0.turned (t':=s10.toks) (it:=D) (fun b o hb e=>(hs'.2 b hb).trans e) p2 ?_ (.inr ?_) (fun x c e z=>?_) (fun p hp=>?_)
      ·rw[locC];exact qAl hDlt
      ·rw[xs0,hDd];exact qAa _
      ·obtain⟨v',q⟩:=J0.cell x c e;obtain⟨o,ho,hd⟩:=q;rw[z,p1]at ho;cases ho;cases hd
      ·rw[xpn]at hp;simp at hp
     obtain⟨n',hk⟩:=hl';have hk':h'.get? D=some { cls:=.type "list",data:=.seq (its++[y]).toArray n' }:=by rw[hk];simp
     refine⟨m',hm,i+1,H10,acc++[v],its++[y],n',I11,T.keep _ _ _ p3 fun b hb o e=>(hs'.2 b (fun z=>hDfp (z▸hb))).trans e,p4,p2,w10,?_,rv5.append (.cons r10 .nil),hk'⟩;rw[qAo,qE9]
     lia
  ·refine⟨0,H2,[],[],0,I4.pins_of (fun p hp=>by simp at hp),st4,fun b hb=>(f2 b hb).1,I2.hok.fresh (by rw[hDd];exact qAa _),w0,qAn _,.nil,?_⟩;exact(I4.pin (D,{ cls:=.type "list",data:=.seq #[] 0 }) (by simp)).1
 exact codeAny_compStart_list loop (T.self _ 0 _ _ _ st4 loop)
def zB5(hc:X.calm=true)(S:CompNames X.N N' k sc X.env)(hi:PI X tg iter wi)
  (hg:∀C s H fp,PG (zDC X N' sc C s H fp) tg g) (hif:∀C s H fp,PTs (zDC X N' sc C s H fp) ifs tif) (he:∀C s H fp,PE (zDC X N' sc C s H fp) elt te)
  (hs:∀x,qKq iter X.env x=pure x:=by intro _;rfl):PE X (.ListComp elt [⟨tg,iter,ifs,0⟩] sc pos) (zZP wi k g tif te):=by
 intro pins s σ H Q I h;rw[eval_ListComp];have hfree:∀x,(x,qJd)∈sc.names->∃c,X.env.cells.lookup x=some c:=fun x hx=>I.ok.has x (S.free x hx)
 refine wpAny_comprehension_free (use:=none) rfl hs (zFN hfree) S.kind (fun x hx hl=>?_) ?_
 ·obtain⟨n,kd⟩:=x;dsimp only at hl ⊢;subst hl;exact zC5 S.nd hx
 ·refine thn (hi pins s σ H _ I h) fun v s1 h1=>thn h1 fun itv s2 h2=>?_
  obtain⟨it,fp,tn,J,H2,e,I2,T,st2,f2,W,⟨m0,w0⟩,turn⟩:=h2;subst e;refine zJO (RR:=fun acc C=>compPost (model X.prog X.w) X.A X.xe none (EP X pins σ Q) acc C) hc S hg hif he I2 T st2 f2 w0 turn ?_;intro D C s' H' hDC hD hn hCn hCf I' q;obtain⟨m,hn⟩:=hn;refine⟨m,hn,fun h' hs'=>⟨.ref D,H',?_,rfl,q⟩⟩;have hCb:s2.heap.objs.size<=C:=qD3 (qD0 hD hDC);refine I'.turned (t':=s'.toks) (it:=C) (fun b o hb e=>(hs'.2 b hb).trans e) hCn ?_ (.inr (qAq I2.sz hCb)) (fun x c e z=>?_) (fun p hp z=>?_)
  ·exact qBs (qAk I2.lt hCb)
  ·obtain⟨v,q⟩:=I2.cell x c e;exact absurd z (qAl (qAk q.lt hCb))
  ·exact absurd z (qAl (qAk (qJ6 (I2.pin p hp).1) hCb))
def zFY{i:Nat}{x:Str}{pos' spos:Pos}(hN:X.N.Nodup)(hi':X.N[i]?=some x)(hx:Loc X.env.scope x)(hc:X.calm=true)(S:CompNames X.N N' k sc X.env)(hi:PI X tg iter wi)
  (hg:∀C s H fp,PG (zDC X N' sc C s H fp) tg g) (hif:∀C s H fp,PTs (zDC X N' sc C s H fp) ifs tif) (he:∀C s H fp,PE (zDC X N' sc C s H fp) elt te)
  (hsw:qM1 (.ListComp elt [⟨tg,iter,ifs,0⟩] sc pos) (some (.Name x pos')) spos.line X.env=pure true:=by rfl)
  (hs:∀x,qKq iter X.env x=pure x:=by intro _;rfl) (hf:X.fn x=true\/X.env.scope.names.lookup x=some .local:=by first|exact .inl rfl|exact .inr rfl|assumption) :
  PS X (.Assign [.Name x pos'] (.ListComp elt [⟨tg,iter,ifs,0⟩] sc pos) spos) (tAsg (zZP wi k g tif te) (zFK i)):=by
 intro pins s σ H Dn I h;rw[exec_Assign_Name_used _ _ _ _ hsw];refine wpAny_bind (wpAny_standAt (wpAny_bind ?_));show wpAny _ X.A (do let _ <- comprehension (.ListComp elt [⟨tg,iter,ifs,0⟩] sc pos) sc X.env _ (newList []) false (eval iter X.env) (some (assign (.Name x pos') X.env))) _ _ s;have hfree:∀x,(x,qJd)∈sc.names->∃c,X.env.cells.lookup x=some c:=fun x hx=>I.ok.has x (S.free x hx)
 refine wpAny_bind (wpAny_mono (wpAny_comprehension_free (use:=some (assign (.Name x pos') X.env)) (Q:=fun _ s'=>SP X pins Dn .next s') rfl hs (zFN hfree) S.kind (fun x hx hl=>?_) ?_)
  (fun _ s' hq=>wpAny_pure (wpAny_pure hq)) fun _ _ e=>e)
 ·obtain⟨n,kd⟩:=x;dsimp only at hl ⊢;subst hl;exact zC5 S.nd hx
 ·refine thn (hi pins s σ H _ I h) fun v s1 h1=>thn h1 fun itv s2 h2=>?_
  obtain⟨it,fp,tn,J,H2,e,I2,T,st2,f2,W,⟨m0,w0⟩,turn⟩:=h2;subst e;refine zJO (Q:=fun v H'=>zFK i v σ H' Dn.nx) (RR:=fun acc C=>compPost (model X.prog X.w) X.A X.xe (some (assign (.Name x pos') X.env)) (fun _ s'=>SP X pins Dn .next s') acc C) hc S hg hif he I2 T st2 f2 w0 turn ?_;intro D C s' H' hDC hD hn hCn hCf I' q;obtain⟨m,hn⟩:=hn;show wpAny _ _ (assign (.Name x pos') X.env (.ref D)) _ _ _;have hCb:s2.heap.objs.size<=C:=qD3 (qD0 hD hDC);have hCL:C≠X.env.locals:=qBs (qAk I2.lt hCb);have hCc:∀x c,X.env.cells.lookup x=some c->c≠C:=fun x c e z=>by
   obtain⟨v,q⟩:=I2.cell x c e;exact absurd z (qAl (qAk q.lt hCb))
  refine qM5 (zLO (v:=.ref D) I' hN hi' hx rfl (fun s'' I'' ⟨a,sb,ha⟩=>?_) hf);have hCa:C≠a:=by
   rcases ha with e|e
   ·rw[e];exact hCL
   ·exact fun z=>hCc x a e z.symm
  refine⟨m,hn.sameBut sb hCa,fun h' hs'=>⟨_,H',?_,q⟩⟩;refine I''.turned (t':=s''.toks) (it:=C) (fun b o hb e=>(hs'.2 b hb).trans e) hCn hCL (.inr (qAq I2.sz hCb)) hCc (fun p hp z=>?_);exact absurd z (qAl (qAk (qJ6 (I2.pin p hp).1) hCb))
def zEB{lo:Int}{n:Nat}{σ:St}{H:Hp}{Q:VK}(Pv:Nat->List V->Hp->Prop)(h0:Pv 0 [] H)(hz:∀i acc H,i<n->Pv i acc H->acc.length<sizeLine)
  (hs:∀i acc H,i<n->Pv i acc H->g (.int (lo+i)) (σ++qA8 k none) H fun σ2 H2=>∃own:St,own.length=k/\σ2=σ++own/\tif σ2 H2 fun b H3=>if b=true then te σ2 H3 fun v H4=>Pv (i+1) (acc++[v]) H4 else Pv (i+1) acc H3)
  (hd:∀acc H,Pv n acc H->∀D,H D=none->Q (.ref D) (upd H D (.lst acc))) :
  zY2 k g tif te σ Q (Itr lo n) H:=by
 refine⟨fun i m acc H=>m=n-i/\i<=n/\Pv i acc H,⟨n,by simp,qAn _,h0⟩,?_⟩
 rintro i m acc H ⟨rfl,hi,p⟩
 by_cases hlt:i<n
 ·refine .inr ⟨hlt,hz i acc H hlt p,Pv (i+1),fun acc' H' p'=>⟨n-(i+1),by lia,rfl,hlt,p'⟩,fun x H' y=>?_⟩;obtain⟨e,y⟩:=y;subst e y;exact hs i acc _ hlt p
 ·have e:i=n:=by lia
  subst e;exact .inl ⟨qAa _,hd acc H p⟩
def zVH(g:TG)(tb:TS)(D:Ends)(σ:St)(J:It)(H1:Hp):Prop:=∃W:Nat->Nat->St->Hp->Prop,(∃m,W 0 m σ H1)/\∀i m σ H,W i m σ H ->
 (J.stop i H/\D.nx σ H)\/(J.go i H/\∃N:St->Hp->Prop,(∀σ' H',N σ' H'->∃m',m'<m/\W (i+1) m' σ' H')/\∀x H',J.yld i H x H'->g x σ H' fun σ2 H2=>tb { D with nx:=N,ct:=N,bk:=D.nx } σ2 H2)
def zCO{body:List Stmt}{tb:TS}(hp:qMo (model X.prog X.w) X.A X.env X.xe)(hc:X.calm=true)(hi:PI X tg iter wi)(hg:PG X tg g)(hb:PSs X body tb)
  (hs:∀x,qKq iter X.env x=pure x:=by intro _;rfl):PS X (.For tg iter body [] pos) (fun D σ H=>wi σ H (zVH g tb D σ)):=zdG hp hc hi hg hb hs
end
inductive Dat where
 |non|bl (b:Bool)|int (i:Int)|str (x:Str)|lst (xs:List Dat)|tup (xs:List Dat)
mutual
def Dat.dep:Dat->Nat
 |.lst xs=>Dat.depL xs+1
 |.tup xs=>Dat.depL xs+1
 |_=>0
def Dat.depL:List Dat->Nat
 |[]=>0
 |x::r=>max x.dep (Dat.depL r)
end
mutual
def Dat.eq:Dat->Dat->Bool
 |.non,.non=>true
 |.bl a,.bl b=>a==b
 |.bl a,.int b=>(if a then 1 else 0)==b
 |.int a,.bl b=>a==(if b then 1 else 0)
 |.int a,.int b=>a==b
 |.str a,.str b=>a==b
 |.lst xs,.lst ys=>Dat.eqL xs ys
 |.tup xs,.tup ys=>Dat.eqL xs ys
 |_,_=>false
def Dat.eqL:List Dat->List Dat->Bool
 |[],[]=>true
 |x::r,y::q=>Dat.eq x y&&Dat.eqL r q
 |_,_=>false
end
mutual
def Rep(H:Hp):Dat->V->Prop
 |.non,v=>v=.non
 |.bl b,v=>v=.bl b
 |.int i,v=>v=.int i
 |.str x,v=>v=.str x
 |.lst ds,v=>∃a xs,v=.ref a/\H a=some (.lst xs)/\RepL H ds xs
 |.tup ds,v=>∃a xs,v=.ref a/\H a=some (.tup xs)/\RepL H ds xs
def RepL(H:Hp):List Dat->List V->Prop
 |[],xs=>xs=[]
 |d::r,xs=>∃x q,xs=x::q/\Rep H d x/\RepL H r q
end
mutual
def Rep.mono{H H':Hp}(s:Same H H'):∀{d:Dat}{v:V},Rep H d v->Rep H' d v
 |.non,_,h=>h
 |.bl _,_,h=>h
 |.int _,_,h=>h
 |.str _,_,h=>h
 |.lst _,_,h=>by obtain⟨a,xs,e,e',r⟩:=h;exact⟨a,xs,e,s _ _ e',RepL.mono s r⟩
 |.tup _,_,h=>by obtain⟨a,xs,e,e',r⟩:=h;exact⟨a,xs,e,s _ _ e',RepL.mono s r⟩
def RepL.mono{H H':Hp}(s:Same H H'):∀{ds:List Dat}{xs:List V},RepL H ds xs->RepL H' ds xs
 |[],_,h=>h
 |_::_,_,h=>by obtain⟨x,q,e,r,t⟩:=h;exact⟨x,q,e,Rep.mono s r,RepL.mono s t⟩
end
mutual
def Rep.inj{H:Hp}:∀{d e:Dat}{v:V},Rep H d v->Rep H e v->d=e
 |.non,e,v,h,h'=>by cases h;cases e<;>first|rfl|(cases h';done)|(obtain⟨a,xs,z,_⟩:=h';cases z)
 |.bl b,e,v,h,h'=>by cases h;cases e<;>first|(cases h';rfl)|(cases h';done)|(obtain⟨a,xs,z,_⟩:=h';cases z)
 |.int b,e,v,h,h'=>by cases h;cases e<;>first|(cases h';rfl)|(cases h';done)|(obtain⟨a,xs,z,_⟩:=h';cases z)
 |.str b,e,v,h,h'=>by cases h;cases e<;>first|(cases h';rfl)|(cases h';done)|(obtain⟨a,xs,z,_⟩:=h';cases z)
 |.lst ds,e,v,h,h'=>by
  obtain⟨a,xs,rfl,ha,q⟩:=h;cases e with
  |lst es=>
   obtain⟨b,ys,z,hb,q'⟩:=h';cases z;rw[ha]at hb;cases hb;rw[RepL.inj q q']
  |tup es=>
   obtain⟨b,ys,z,hb,q'⟩:=h';cases z;rw[ha]at hb;cases hb
  |_=>cases h'
 |.tup ds,e,v,h,h'=>by
  obtain⟨a,xs,rfl,ha,q⟩:=h;cases e with
  |tup es=>
   obtain⟨b,ys,z,hb,q'⟩:=h';cases z;rw[ha]at hb;cases hb;rw[RepL.inj q q']
  |lst es=>
   obtain⟨b,ys,z,hb,q'⟩:=h';cases z;rw[ha]at hb;cases hb
  |_=>cases h'
def RepL.inj{H:Hp}:∀{ds es:List Dat}{xs:List V},RepL H ds xs->RepL H es xs->ds=es
 |[],[],_,_,_=>rfl
 |[],_::_,_,h,h'=>by cases h;obtain⟨x,q,e,_⟩:=h';cases e
 |_::_,[],_,h,h'=>by cases h';obtain⟨x,q,e,_⟩:=h;cases e
 |d::r,e::t,_,h,h'=>by
  obtain⟨x,q,rfl,r1,t1⟩:=h;obtain⟨x',q',z,r2,t2⟩:=h';cases z;rw[Rep.inj r1 r2,RepL.inj t1 t2]
end
mutual
def Dat.eq_refl:∀d:Dat,Dat.eq d d=true
 |.non=>by simp[Dat.eq]
 |.bl _=>by simp[Dat.eq]
 |.int _=>by simp[Dat.eq]
 |.str _=>by simp[Dat.eq]
 |.lst xs=>by rw[Dat.eq];exact Dat.eqL_refl xs
 |.tup xs=>by rw[Dat.eq];exact Dat.eqL_refl xs
def Dat.eqL_refl:∀ds:List Dat,Dat.eqL ds ds=true
 |[]=>by simp[Dat.eqL]
 |d::r=>by rw[Dat.eqL,Dat.eq_refl d,Dat.eqL_refl r];rfl
end
def RepL.length{H:Hp}:∀{ds:List Dat}{xs:List V},RepL H ds xs->xs.length=ds.length
 |[],_,h=>by cases h;rfl
 |_::_,_,h=>by obtain⟨x,q,e,r,t⟩:=h;subst e;simp[RepL.length t]
def Dat.eqL_len:∀{xs ys:List Dat},xs.length≠ys.length->Dat.eqL xs ys=false
 |[],[],h=>absurd rfl h
 |[],_::_,_=>by simp[Dat.eqL]
 |_::_,[],_=>by simp[Dat.eqL]
 |x::r,y::q,h=>by
  rw[Dat.eqL,Dat.eqL_len (fun e=>h (by simp[e])),qDe]
def Dat.eqL_all:∀{xs ys:List Dat},xs.length=ys.length->∀(e:Nat->Bool),(∀j (h1:j<xs.length) (h2:j<ys.length),e j=Dat.eq xs[j] ys[j])->(qA4 xs.length).all e=Dat.eqL xs ys
 |[],[],_,_,_=>by simp[Dat.eqL]
 |[],_::_,h,_,_=>by simp at h
 |_::_,[],h,_,_=>by simp at h
 |x::r,y::q,h,e,he=>by
  have hl:r.length=q.length:=by simpa using h
  rw[qAj,qCy,qCx,Dat.eqL,he 0 (by simp) (by simp)]
  have:=Dat.eqL_all (xs:=r) (ys:=q) hl (fun j=>e (j+1)) (fun j h1 h2=>by
   rw[he (j+1) (by simpa using h1) (by simpa using h2)];simp)
  rw[<- this,qIn];rfl
def RepL.get{H:Hp}:∀{ds:List Dat}{xs:List V}{i:Nat}{x:V},RepL H ds xs->xs[i]?=some x->∃d,ds[i]?=some d/\Rep H d x
 |[],_,_,_,h,e=>by cases h;simp at e
 |d::_,_,0,_,h,e=>by obtain⟨x,q,e1,r,t⟩:=h;subst e1;simp at e;subst e;exact⟨d,rfl,r⟩
 |_::_,_,i+1,_,h,e=>by
  obtain⟨x,q,e1,r,t⟩:=h;subst e1;obtain⟨d',h1,h2⟩:=RepL.get (i:=i) t (by simpa using e);exact⟨d',by simpa using h1,h2⟩
def Dat.depL_mem{d:Dat}:∀{ds:List Dat},d∈ds->d.dep<=Dat.depL ds
 |_::_,h=>by
  rw[Dat.depL];rcases qAc.mp h with rfl|h
  ·exact Nat.le_max_left _ _
  ·exact qAq (Dat.depL_mem h) (Nat.le_max_right _ _)
section
variable{P:qJ8}{w:World}{H:Hp}
def zDX(A:qJb):A.in1.units=A.units+1:=rfl
def zAR{s:qJ5}{a:Addr}{xs:List V}(ok:HOk P w H s.heap)(h:H a=some (.lst xs)):∃its:List Value,Vals xs its/\s.heap.IsList a its.toArray:=by
 obtain⟨_,its,n,r,e⟩:=ok a _ h;exact⟨its,r,⟨_,e,rfl,n,rfl⟩⟩
def zBC{s:qJ5}{a:Addr}{xs:List V}(ok:HOk P w H s.heap)(h:H a=some (.tup xs)):∃its:List Value,Vals xs its/\s.heap.IsTuple a its.toArray:=by
 obtain⟨_,its,r,e⟩:=ok a _ h;exact⟨its,r,e⟩
def Rep.flat{d:Dat}{v:V}(h:Rep H d v)(hf:d.dep=0):zDZ v=true:=by
 cases d with
 |non=>cases h;rfl
 |bl _=>cases h;rfl
 |int _=>cases h;rfl
 |str _=>cases h;rfl
 |lst _=>simp[Dat.dep]at hf
 |tup _=>simp[Dat.dep]at hf
def Rep.flatEq{d e:Dat}{v u:V}(h:Rep H d v)(h':Rep H e u)(hf:d.dep=0)(hf':e.dep=0):eqV v u=Dat.eq d e:=by
 cases d<;>cases e<;>first
  |(simp[Dat.dep]at hf;done)
  |(simp[Dat.dep]at hf';done)
  |(cases h;cases h';simp[eqV,Dat.eq];done)
def zXD:∀(n:Nat){d e:Dat}{v u:V}{x y:Value}{A:qJb}{s:qJ5},d.dep<=n->HOk P w H s.heap->Rep H d v->Rep H e u->RelV v x->RelV u y->A.units+n<cLine->qL0 A s x y (Dat.eq d e):=by
 intro n;induction n with
 |zero=>
  intro d e v u x y A s hd ok h1 h2 r1 r2 hu;have f1:=h1.flat (by lia)
  by_cases he:e.dep=0
  ·have f2:=h2.flat he
   have:=zYY (A:=A) (s:=s) r1 r2 f1 f2;rw[h1.flatEq h2 (by lia) he]at this;exact this
  ·have hu':A.units<cLine:=by lia
   cases e with
   |lst ys=>
    obtain⟨a,xs,rfl,ha,_⟩:=h2;obtain⟨its,_,hl⟩:=zAR ok ha;cases r2;cases d with
    |non=>cases h1;cases r1;exact SeqAt.EqAt.none_list hl hu'
    |bl b=>cases h1;cases r1;exact SeqAt.EqAt.bool_list b hl hu'
    |int i=>cases h1;obtain⟨t,rfl⟩:=r1;exact SeqAt.EqAt.int_list i t hl hu'
    |str z=>cases h1;obtain⟨t,rfl⟩:=r1;exact SeqAt.EqAt.str_list z t hl hu'
    |lst _=>simp[Dat.dep]at hd
    |tup _=>simp[Dat.dep]at hd
   |tup ys=>
    obtain⟨a,xs,rfl,ha,_⟩:=h2;obtain⟨its,_,hl⟩:=zBC ok ha;cases r2;cases d with
    |non=>cases h1;cases r1;exact SeqAt.EqAt.none_tuple hl hu'
    |bl b=>cases h1;cases r1;exact SeqAt.EqAt.bool_tuple b hl hu'
    |int i=>cases h1;obtain⟨t,rfl⟩:=r1;exact SeqAt.EqAt.int_tuple i t hl hu'
    |str z=>cases h1;obtain⟨t,rfl⟩:=r1;exact SeqAt.EqAt.str_tuple z t hl hu'
    |lst _=>simp[Dat.dep]at hd
    |tup _=>simp[Dat.dep]at hd
   |_=>simp[Dat.dep]at he
 |succ n ih=>
  intro d e v u x y A s hd ok h1 h2 r1 r2 hu;by_cases hd0:d.dep<=n
  ·exact ih hd0 ok h1 h2 r1 r2 (by lia)
  have hu':A.units<cLine:=by lia
  have pairs:∀{ds es:List Dat}{xs ys:List V}{its its2:List Value},Dat.depL ds<=n->RepL H ds xs->RepL H es ys->Vals xs its->Vals ys its2->∀j (h1:j<its.toArray.size) (h2:j<its2.toArray.size),
    qL0 A.in1 s its.toArray[j] its2.toArray[j] (Dat.eq (ds.getD j .non) (es.getD j .non)):=by
   intro ds es xs ys its its2 hdl q1 q2 v1 v2 j j1 j2;have l1:j<xs.length:=by have:=v1.length;simp at j1;lia
   have l2:j<ys.length:=by have:=v2.length;simp at j2;lia
   obtain⟨d',e1,p1⟩:=q1.get (i:=j) (x:=xs[j]) (by simp[l1]);obtain⟨e',e2,p2⟩:=q2.get (i:=j) (x:=ys[j]) (by simp[l2]);obtain⟨w1,g1,z1⟩:=v1.get (i:=j) (x:=xs[j]) (by simp[l1]);obtain⟨w2,g2,z2⟩:=v2.get (i:=j) (x:=ys[j]) (by simp[l2]);have k1:its.toArray[j]=w1:=by
    obtain⟨_,k⟩:=qA5.mp g1;simpa using k
   have k2:its2.toArray[j]=w2:=by
    obtain⟨_,k⟩:=qA5.mp g2;simpa using k
   rw[k1,k2,qA0,qA0,e1,e2];exact ih (qAq (Dat.depL_mem (qB3 e1)) hdl) ok p1 p2 z1 z2 (by rw[zDX];lia)
  cases d with
  |lst ds=>
   have hdl:Dat.depL ds<=n:=by rw[Dat.dep]at hd;lia
   obtain⟨a,xs,rfl,ha,q1⟩:=h1;obtain⟨its,v1,hl1⟩:=zAR ok ha;cases r1;cases e with
   |non=>cases h2;cases r2;exact SeqAt.EqAt.list_none hl1 hu'
   |bl b=>cases h2;cases r2;exact SeqAt.EqAt.list_bool b hl1 hu'
   |int i=>cases h2;obtain⟨t,rfl⟩:=r2;exact SeqAt.EqAt.list_int i t hl1 hu'
   |str z=>cases h2;obtain⟨t,rfl⟩:=r2;exact SeqAt.EqAt.list_str z t hl1 hu'
   |tup es=>
    obtain⟨b,ys,rfl,hb,q2⟩:=h2;obtain⟨its2,v2,hl2⟩:=zBC ok hb;cases r2;exact qKm (zWK ha hb (fun z=>nomatch z)) (qLn hl1 hl2 hu')
   |lst es=>
    obtain⟨b,ys,rfl,hb,q2⟩:=h2;obtain⟨its2,v2,hl2⟩:=zAR ok hb;cases r2;have len1:its.toArray.size=ds.length:=by have:=v1.length;have:=q1.length;simp;lia
    have len2:its2.toArray.size=es.length:=by have:=v2.length;have:=q2.length;simp;lia
    show qL0 A s (.ref a) (.ref b) (Dat.eqL ds es);by_cases hne:a=b
    ·
     subst hne;rw[ha]at hb;cases hb;have same:Dat.eqL ds es=true:=by
      rw[RepL.inj q1 q2];exact Dat.eqL_refl _
     rw[same];exact qLm _
    ·refine qKm hne ?_
     by_cases hs:ds.length=es.length
     ·have:=qMl (A:=A) (s:=s) hl1 hl2 (by rw[len1,len2,hs]) hu' (pairs hdl q1 q2 v1 v2)
      rw[len1,Dat.eqL_all hs _ (fun j h1 h2=>by rw[qA0,qA0];simp[h1,h2])]at this;exact this
     ·rw[Dat.eqL_len hs];exact qLa hl1 hl2 (by rw[len1,len2];simpa using hs) hu'
  |tup ds=>
   have hdl:Dat.depL ds<=n:=by rw[Dat.dep]at hd;lia
   obtain⟨a,xs,rfl,ha,q1⟩:=h1;obtain⟨its,v1,hl1⟩:=zBC ok ha;cases r1;cases e with
   |non=>cases h2;cases r2;exact SeqAt.EqAt.tuple_none hl1 hu'
   |bl b=>cases h2;cases r2;exact SeqAt.EqAt.tuple_bool b hl1 hu'
   |int i=>cases h2;obtain⟨t,rfl⟩:=r2;exact SeqAt.EqAt.tuple_int i t hl1 hu'
   |str z=>cases h2;obtain⟨t,rfl⟩:=r2;exact SeqAt.EqAt.tuple_str z t hl1 hu'
   |lst es=>
    obtain⟨b,ys,rfl,hb,q2⟩:=h2;obtain⟨its2,v2,hl2⟩:=zAR ok hb;cases r2;exact qKm (zWK ha hb (fun z=>nomatch z)) (qLo hl1 hl2 hu')
   |tup es=>
    obtain⟨b,ys,rfl,hb,q2⟩:=h2;obtain⟨its2,v2,hl2⟩:=zBC ok hb;cases r2;have len1:its.toArray.size=ds.length:=by have:=v1.length;have:=q1.length;simp;lia
    have len2:its2.toArray.size=es.length:=by have:=v2.length;have:=q2.length;simp;lia
    show qL0 A s (.ref a) (.ref b) (Dat.eqL ds es);by_cases hne:a=b
    ·subst hne;rw[ha]at hb;cases hb;have same:Dat.eqL ds es=true:=by
      rw[RepL.inj q1 q2];exact Dat.eqL_refl _
     rw[same];exact qLm _
    ·refine qKm hne ?_
     have:=qM9 (A:=A) (s:=s) hl1 hl2 hu' (pairs hdl q1 q2 v1 v2);by_cases hs:ds.length=es.length
     ·rw[len1,len2,<- hs,qH2,beq_self_eq_true,qF8,Dat.eqL_all hs _ (fun j h1 h2=>by rw[qA0,qA0];simp[h1,h2])]at this;exact this
     ·rw[len1,len2,show(ds.length==es.length)=false by simpa using hs,qDe]at this;rw[Dat.eqL_len hs];exact this
  |_=>simp[Dat.dep]at hd0
def zGW{n:Nat}{A:qJb}{s:qJ5}(ok:HOk P w H s.heap){ds es:List Dat}{xs ys:List V}{its its2:List Value}(hdl:Dat.depL ds<=n)(hu:A.units+n<cLine)(q1:RepL H ds xs)(q2:RepL H es ys)(v1:Vals xs its)(v2:Vals ys its2) :
  ∀j (h1:j<its.toArray.size) (h2:j<its2.toArray.size),qL0 A s its.toArray[j] its2.toArray[j] (Dat.eq (ds.getD j .non) (es.getD j .non)):=by
 intro j j1 j2;have l1:j<xs.length:=by have:=v1.length;simp at j1;lia
 have l2:j<ys.length:=by have:=v2.length;simp at j2;lia
 obtain⟨d',e1,p1⟩:=q1.get (i:=j) (x:=xs[j]) (by simp[l1]);obtain⟨e',e2,p2⟩:=q2.get (i:=j) (x:=ys[j]) (by simp[l2]);obtain⟨w1,g1,z1⟩:=v1.get (i:=j) (x:=xs[j]) (by simp[l1]);obtain⟨w2,g2,z2⟩:=v2.get (i:=j) (x:=ys[j]) (by simp[l2]);have k1:its.toArray[j]=w1:=by
  obtain⟨_,k⟩:=qA5.mp g1;simpa using k
 have k2:its2.toArray[j]=w2:=by
  obtain⟨_,k⟩:=qA5.mp g2;simpa using k
 rw[k1,k2,qA0,qA0,e1,e2];exact zXD n (qAq (Dat.depL_mem (qB3 e1)) hdl) ok p1 p2 z1 z2 hu
def zW0(n:Nat){d e:Dat}{v u:V}{x y:Value}{A:qJb}{s:qJ5}(hd:d.dep<=n)(ok:HOk P w H s.heap)(h1:Rep H d v)(h2:Rep H e u)(r1:RelV v x)(r2:RelV u y)(hu:A.units+n<cLine):qN2 A s x y (Dat.eq d e):=by
 have hu':A.units<cLine:=by lia
 cases d with
 |non=>
  cases h1;cases r1;cases e with
  |non=>
   cases h2;cases r2;exact SeqAt.RcAt.none_none
  |bl b=>
   cases h2;cases r2;exact SeqAt.RcAt.none_bool b
  |int b=>
   cases h2;obtain⟨t2,rfl⟩:=r2;exact SeqAt.RcAt.none_int b t2
  |str b=>
   cases h2;obtain⟨t2,rfl⟩:=r2;exact SeqAt.RcAt.none_str b t2
  |lst es=>
   obtain⟨p2,ys,rfl,hb,q2⟩:=h2;obtain⟨its2,v2,hl2⟩:=zAR ok hb;cases r2;exact SeqAt.RcAt.none_list hl2 hu'
  |tup es=>
   obtain⟨p2,ys,rfl,hb,q2⟩:=h2;obtain⟨its2,v2,hl2⟩:=zBC ok hb;cases r2;exact SeqAt.RcAt.none_tuple hl2 hu'
 |bl a=>
  cases h1;cases r1;cases e with
  |non=>
   cases h2;cases r2;exact SeqAt.RcAt.bool_none a
  |bl b=>
   cases h2;cases r2;exact SeqAt.RcAt.bool_bool a b
  |int b=>
   cases h2;obtain⟨t2,rfl⟩:=r2;exact SeqAt.RcAt.bool_int a b t2
  |str b=>
   cases h2;obtain⟨t2,rfl⟩:=r2;exact SeqAt.RcAt.bool_str a b t2
  |lst es=>
   obtain⟨p2,ys,rfl,hb,q2⟩:=h2;obtain⟨its2,v2,hl2⟩:=zAR ok hb;cases r2;exact SeqAt.RcAt.bool_list a hl2 hu'
  |tup es=>
   obtain⟨p2,ys,rfl,hb,q2⟩:=h2;obtain⟨its2,v2,hl2⟩:=zBC ok hb;cases r2;exact SeqAt.RcAt.bool_tuple a hl2 hu'
 |int a=>
  cases h1;obtain⟨t1,rfl⟩:=r1;cases e with
  |non=>
   cases h2;cases r2;exact SeqAt.RcAt.int_none a t1
  |bl b=>
   cases h2;cases r2;exact SeqAt.RcAt.int_bool a t1 b
  |int b=>
   cases h2;obtain⟨t2,rfl⟩:=r2;exact SeqAt.RcAt.int_int a t1 b t2
  |str b=>
   cases h2;obtain⟨t2,rfl⟩:=r2;exact SeqAt.RcAt.int_str a t1 b t2
  |lst es=>
   obtain⟨p2,ys,rfl,hb,q2⟩:=h2;obtain⟨its2,v2,hl2⟩:=zAR ok hb;cases r2;exact SeqAt.RcAt.int_list a t1 hl2 hu'
  |tup es=>
   obtain⟨p2,ys,rfl,hb,q2⟩:=h2;obtain⟨its2,v2,hl2⟩:=zBC ok hb;cases r2;exact SeqAt.RcAt.int_tuple a t1 hl2 hu'
 |str a=>
  cases h1;obtain⟨t1,rfl⟩:=r1;cases e with
  |non=>
   cases h2;cases r2;exact SeqAt.RcAt.str_none a t1
  |bl b=>
   cases h2;cases r2;exact SeqAt.RcAt.str_bool a t1 b
  |int b=>
   cases h2;obtain⟨t2,rfl⟩:=r2;exact SeqAt.RcAt.str_int a t1 b t2
  |str b=>
   cases h2;obtain⟨t2,rfl⟩:=r2;exact SeqAt.RcAt.str_str a t1 b t2
  |lst es=>
   obtain⟨p2,ys,rfl,hb,q2⟩:=h2;obtain⟨its2,v2,hl2⟩:=zAR ok hb;cases r2;exact SeqAt.RcAt.str_list a t1 hl2 hu'
  |tup es=>
   obtain⟨p2,ys,rfl,hb,q2⟩:=h2;obtain⟨its2,v2,hl2⟩:=zBC ok hb;cases r2;exact SeqAt.RcAt.str_tuple a t1 hl2 hu'
 |lst ds=>
  have hdl:Dat.depL ds+1<=n:=by rw[Dat.dep]at hd;exact hd
  obtain⟨p,xs,rfl,ha,q1⟩:=h1;obtain⟨its,v1,hl1⟩:=zAR ok ha;cases r1;cases e with
  |non=>
   cases h2;cases r2;exact SeqAt.RcAt.list_none hl1 hu'
  |bl b=>
   cases h2;cases r2;exact SeqAt.RcAt.list_bool b hl1 hu'
  |int b=>
   cases h2;obtain⟨t2,rfl⟩:=r2;exact SeqAt.RcAt.list_int b t2 hl1 hu'
  |str b=>
   cases h2;obtain⟨t2,rfl⟩:=r2;exact SeqAt.RcAt.list_str b t2 hl1 hu'
  |lst es=>
   obtain⟨p2,ys,rfl,hb,q2⟩:=h2;obtain⟨its2,v2,hl2⟩:=zAR ok hb;cases r2;have len1:its.toArray.size=ds.length:=by have:=v1.length;have:=q1.length;simp;lia
   have len2:its2.toArray.size=es.length:=by have:=v2.length;have:=q2.length;simp;lia
   show qN2 A s (.ref p) (.ref p2) (Dat.eqL ds es);by_cases hs:ds.length=es.length
   ·have:=qMl (A:=A) (s:=s) hl1 hl2 (by rw[len1,len2,hs]) hu' (zGW ok (by lia) (by rw[zDX];lia:A.in1.units+(n-1)<cLine) q1 q2 v1 v2)
    rw[len1,Dat.eqL_all hs _ (fun j h1 h2=>by rw[qA0,qA0];simp[h1,h2])]at this;exact this
   ·rw[Dat.eqL_len hs];exact qLa hl1 hl2 (by rw[len1,len2];simpa using hs) hu'
  |tup es=>
   obtain⟨p2,ys,rfl,hb,q2⟩:=h2;obtain⟨its2,v2,hl2⟩:=zBC ok hb;cases r2;exact qLn hl1 hl2 hu'
 |tup ds=>
  have hdl:Dat.depL ds+1<=n:=by rw[Dat.dep]at hd;exact hd
  obtain⟨p,xs,rfl,ha,q1⟩:=h1;obtain⟨its,v1,hl1⟩:=zBC ok ha;cases r1;cases e with
  |non=>
   cases h2;cases r2;exact SeqAt.RcAt.tuple_none hl1 hu'
  |bl b=>
   cases h2;cases r2;exact SeqAt.RcAt.tuple_bool b hl1 hu'
  |int b=>
   cases h2;obtain⟨t2,rfl⟩:=r2;exact SeqAt.RcAt.tuple_int b t2 hl1 hu'
  |str b=>
   cases h2;obtain⟨t2,rfl⟩:=r2;exact SeqAt.RcAt.tuple_str b t2 hl1 hu'
  |lst es=>
   obtain⟨p2,ys,rfl,hb,q2⟩:=h2;obtain⟨its2,v2,hl2⟩:=zAR ok hb;cases r2;exact qLo hl1 hl2 hu'
  |tup es=>
   obtain⟨p2,ys,rfl,hb,q2⟩:=h2;obtain⟨its2,v2,hl2⟩:=zBC ok hb;cases r2;have len1:its.toArray.size=ds.length:=by have:=v1.length;have:=q1.length;simp;lia
   have len2:its2.toArray.size=es.length:=by have:=v2.length;have:=q2.length;simp;lia
   show qN2 A s (.ref p) (.ref p2) (Dat.eqL ds es);have:=qM9 (A:=A) (s:=s) hl1 hl2 hu' (zGW ok (by lia) (by rw[zDX];lia:A.in1.units+(n-1)<cLine) q1 q2 v1 v2)
   by_cases hs:ds.length=es.length
   ·rw[len1,len2,<- hs,qH2,beq_self_eq_true,qF8,Dat.eqL_all hs _ (fun j h1 h2=>by rw[qA0,qA0];simp[h1,h2])]at this;exact this
   ·rw[len1,len2,show(ds.length==es.length)=false by simpa using hs,qDe]at this;rw[Dat.eqL_len hs];exact this
def zQG(n:Nat){d e:Dat}{v u:V}{x y:Value}{A:qJb}{s:qJ5}(hd:d.dep<=n)(ok:HOk P w H s.heap)(h1:Rep H d v)(h2:Rep H e u)(r1:RelV v x)(r2:RelV u y)(hu:A.units+n<cLine):qMi A s x y (!Dat.eq d e):=by
 have hu':A.units<cLine:=by lia
 cases d with
 |non=>
  cases h1;cases r1;cases e with
  |non=>
   cases h2;cases r2;exact SeqAt.RcNeAt.none_none
  |bl b=>
   cases h2;cases r2;exact SeqAt.RcNeAt.none_bool b
  |int b=>
   cases h2;obtain⟨t2,rfl⟩:=r2;exact SeqAt.RcNeAt.none_int b t2
  |str b=>
   cases h2;obtain⟨t2,rfl⟩:=r2;exact SeqAt.RcNeAt.none_str b t2
  |lst es=>
   obtain⟨p2,ys,rfl,hb,q2⟩:=h2;obtain⟨its2,v2,hl2⟩:=zAR ok hb;cases r2;exact SeqAt.RcNeAt.none_list hl2 hu'
  |tup es=>
   obtain⟨p2,ys,rfl,hb,q2⟩:=h2;obtain⟨its2,v2,hl2⟩:=zBC ok hb;cases r2;exact SeqAt.RcNeAt.none_tuple hl2 hu'
 |bl a=>
  cases h1;cases r1;cases e with
  |non=>
   cases h2;cases r2;exact SeqAt.RcNeAt.bool_none a
  |bl b=>
   cases h2;cases r2;exact SeqAt.RcNeAt.bool_bool a b
  |int b=>
   cases h2;obtain⟨t2,rfl⟩:=r2;exact SeqAt.RcNeAt.bool_int a b t2
  |str b=>
   cases h2;obtain⟨t2,rfl⟩:=r2;exact SeqAt.RcNeAt.bool_str a b t2
  |lst es=>
   obtain⟨p2,ys,rfl,hb,q2⟩:=h2;obtain⟨its2,v2,hl2⟩:=zAR ok hb;cases r2;exact SeqAt.RcNeAt.bool_list a hl2 hu'
  |tup es=>
   obtain⟨p2,ys,rfl,hb,q2⟩:=h2;obtain⟨its2,v2,hl2⟩:=zBC ok hb;cases r2;exact SeqAt.RcNeAt.bool_tuple a hl2 hu'
 |int a=>
  cases h1;obtain⟨t1,rfl⟩:=r1;cases e with
  |non=>
   cases h2;cases r2;exact SeqAt.RcNeAt.int_none a t1
  |bl b=>
   cases h2;cases r2;exact SeqAt.RcNeAt.int_bool a t1 b
  |int b=>
   cases h2;obtain⟨t2,rfl⟩:=r2;exact SeqAt.RcNeAt.int_int a t1 b t2
  |str b=>
   cases h2;obtain⟨t2,rfl⟩:=r2;exact SeqAt.RcNeAt.int_str a t1 b t2
  |lst es=>
   obtain⟨p2,ys,rfl,hb,q2⟩:=h2;obtain⟨its2,v2,hl2⟩:=zAR ok hb;cases r2;exact SeqAt.RcNeAt.int_list a t1 hl2 hu'
  |tup es=>
   obtain⟨p2,ys,rfl,hb,q2⟩:=h2;obtain⟨its2,v2,hl2⟩:=zBC ok hb;cases r2;exact SeqAt.RcNeAt.int_tuple a t1 hl2 hu'
 |str a=>
  cases h1;obtain⟨t1,rfl⟩:=r1;cases e with
  |non=>
   cases h2;cases r2;exact SeqAt.RcNeAt.str_none a t1
  |bl b=>
   cases h2;cases r2;exact SeqAt.RcNeAt.str_bool a t1 b
  |int b=>
   cases h2;obtain⟨t2,rfl⟩:=r2;exact SeqAt.RcNeAt.str_int a t1 b t2
  |str b=>
   cases h2;obtain⟨t2,rfl⟩:=r2;exact SeqAt.RcNeAt.str_str a t1 b t2
  |lst es=>
   obtain⟨p2,ys,rfl,hb,q2⟩:=h2;obtain⟨its2,v2,hl2⟩:=zAR ok hb;cases r2;exact SeqAt.RcNeAt.str_list a t1 hl2 hu'
  |tup es=>
   obtain⟨p2,ys,rfl,hb,q2⟩:=h2;obtain⟨its2,v2,hl2⟩:=zBC ok hb;cases r2;exact SeqAt.RcNeAt.str_tuple a t1 hl2 hu'
 |lst ds=>
  have hdl:Dat.depL ds+1<=n:=by rw[Dat.dep]at hd;exact hd
  obtain⟨p,xs,rfl,ha,q1⟩:=h1;obtain⟨its,v1,hl1⟩:=zAR ok ha;cases r1;cases e with
  |non=>
   cases h2;cases r2;exact SeqAt.RcNeAt.list_none hl1 hu'
  |bl b=>
   cases h2;cases r2;exact SeqAt.RcNeAt.list_bool b hl1 hu'
  |int b=>
   cases h2;obtain⟨t2,rfl⟩:=r2;exact SeqAt.RcNeAt.list_int b t2 hl1 hu'
  |str b=>
   cases h2;obtain⟨t2,rfl⟩:=r2;exact SeqAt.RcNeAt.list_str b t2 hl1 hu'
  |lst es=>
   obtain⟨p2,ys,rfl,hb,q2⟩:=h2;obtain⟨its2,v2,hl2⟩:=zAR ok hb;cases r2;have len1:its.toArray.size=ds.length:=by have:=v1.length;have:=q1.length;simp;lia
   have len2:its2.toArray.size=es.length:=by have:=v2.length;have:=q2.length;simp;lia
   show qMi A s (.ref p) (.ref p2) (!Dat.eqL ds es);by_cases hs:ds.length=es.length
   ·have:=SeqAt.RcNeAt.lists (A:=A) (s:=s) hl1 hl2 (by rw[len1,len2,hs]) hu' (zGW ok (by lia) (by rw[zDX];lia:A.in1.units+(n-1)<cLine) q1 q2 v1 v2)
    rw[len1,Dat.eqL_all hs _ (fun j h1 h2=>by rw[qA0,qA0];simp[h1,h2])]at this;exact this
   ·rw[Dat.eqL_len hs];exact SeqAt.RcNeAt.lists_lengths hl1 hl2 (by rw[len1,len2];simpa using hs) hu'
  |tup es=>
   obtain⟨p2,ys,rfl,hb,q2⟩:=h2;obtain⟨its2,v2,hl2⟩:=zBC ok hb;cases r2;exact SeqAt.RcNeAt.list_tuple hl1 hl2 hu'
 |tup ds=>
  have hdl:Dat.depL ds+1<=n:=by rw[Dat.dep]at hd;exact hd
  obtain⟨p,xs,rfl,ha,q1⟩:=h1;obtain⟨its,v1,hl1⟩:=zBC ok ha;cases r1;cases e with
  |non=>
   cases h2;cases r2;exact SeqAt.RcNeAt.tuple_none hl1 hu'
  |bl b=>
   cases h2;cases r2;exact SeqAt.RcNeAt.tuple_bool b hl1 hu'
  |int b=>
   cases h2;obtain⟨t2,rfl⟩:=r2;exact SeqAt.RcNeAt.tuple_int b t2 hl1 hu'
  |str b=>
   cases h2;obtain⟨t2,rfl⟩:=r2;exact SeqAt.RcNeAt.tuple_str b t2 hl1 hu'
  |lst es=>
   obtain⟨p2,ys,rfl,hb,q2⟩:=h2;obtain⟨its2,v2,hl2⟩:=zAR ok hb;cases r2;exact SeqAt.RcNeAt.tuple_list hl1 hl2 hu'
  |tup es=>
   obtain⟨p2,ys,rfl,hb,q2⟩:=h2;obtain⟨its2,v2,hl2⟩:=zBC ok hb;cases r2;have len1:its.toArray.size=ds.length:=by have:=v1.length;have:=q1.length;simp;lia
   have len2:its2.toArray.size=es.length:=by have:=v2.length;have:=q2.length;simp;lia
   show qMi A s (.ref p) (.ref p2) (!Dat.eqL ds es);have:=SeqAt.RcNeAt.tuples (A:=A) (s:=s) hl1 hl2 hu' (zGW ok (by lia) (by rw[zDX];lia:A.in1.units+(n-1)<cLine) q1 q2 v1 v2)
   by_cases hs:ds.length=es.length
   ·rw[len1,len2,<- hs,qH2,beq_self_eq_true,qF8,Dat.eqL_all hs _ (fun j h1 h2=>by rw[qA0,qA0];simp[h1,h2])]at this;exact this
   ·rw[len1,len2,show(ds.length==es.length)=false by simpa using hs,qDe]at this;rw[Dat.eqL_len hs];exact this
end
section
variable{X:Cx}
def rEqD:R2:=fun x y H Q=>∃d e,Rep H d x/\Rep H e y/\d.dep<=40/\Q (.bl (Dat.eq d e)) H
def rNeD:R2:=fun x y H Q=>∃d e,Rep H d x/\Rep H e y/\d.dep<=40/\Q (.bl (!Dat.eq d e)) H
def zdT(hu:X.A.units+64<cLine):OpR X (compareOp .Eq) rEqD:=by
 intro pins s σ H x y v u Q I rx ry h;obtain⟨d,e,h1,h2,hd,q⟩:=h;exact zW0 40 hd I.hok h1 h2 rx ry (by lia) _ _ _ _ ⟨.bl _,H,I,rfl,q⟩
def zdR(hu:X.A.units+64<cLine):OpR X (compareOp .NotEq) rNeD:=by
 intro pins s σ H x y v u Q I rx ry h;obtain⟨d,e,h1,h2,hd,q⟩:=h;exact zQG 40 hd I.hok h1 h2 rx ry (by lia) _ _ _ _ ⟨.bl _,H,I,rfl,q⟩
def zH6(H:Hp):V->Option String
 |.non=>some "NoneType"
 |.bl _=>some "bool"
 |.int _=>some "int"
 |.str _=>some "str"
 |.ref a=>match H a with
  |some (.lst _)=>some "list"
  |some (.tup _)=>some "tuple"
  |some (.dK _)=>some "dict"
  |_=>none
 |_=>none
def zaZ(T n:String):Bool:=T==n||(T == "bool" && n == "int")
def zOJ:zCY X (.builtin "isinstance") (fun vs H Q=>∃x n T,vs=[x,.ty n]/\zH6 H x=some T/\n∈["int","bool","str","list","tuple","dict"]/\Q (.bl (zaZ T n)) H):=by
 intro pins s σ H vs us Q I r h;obtain⟨x,n,T,rfl,ht,hn,q⟩:=h;obtain⟨u,w',rfl,rx,rn⟩:=zV8 r;cases(show w'=qKi n from rn)
 have key:∃t,TyOf X.K H x t/\t=.type T:=by
  cases x with
  |non=>cases ht;exact⟨_,.non,rfl⟩
  |bl b=>cases ht;exact⟨_,.bl b,rfl⟩
  |int b=>cases ht;exact⟨_,.int b,rfl⟩
  |str b=>cases ht;exact⟨_,.str b,rfl⟩
  |ref a=>
   unfold zH6 at ht;dsimp only at ht;cases e:H a with
   |none=>rw[e]at ht;cases ht
   |some o=>
    rw[e]at ht;cases o with
    |lst xs=>cases ht;exact⟨_,.lst e,rfl⟩
    |tup xs=>cases ht;exact⟨_,.tup e,rfl⟩
    |dK xs=>cases ht;exact⟨_,.dK e,rfl⟩
    |_=>cases ht
  |_=>cases ht
 obtain⟨t,ty,rfl⟩:=key;have hT:T∈["NoneType","bool","int","str","list","tuple","dict"]:=by
  cases x with
  |non=>cases ht;decide
  |bl b=>cases ht;decide
  |int b=>cases ht;decide
  |str b=>cases ht;decide
  |ref a=>
   unfold zH6 at ht;dsimp only at ht;cases e:H a with
   |none=>rw[e]at ht;cases ht
   |some o=>
    rw[e]at ht;cases o with
    |lst xs=>cases ht;decide
    |tup xs=>cases ht;decide
    |dK xs=>cases ht;decide
    |_=>cases ht
  |_=>cases ht
 have e:qHx X.K (.type T) (.type n)=some (zaZ T n):=by
  simp only[qAc,List.mem_nil_iff,or_false]at hT hn;rcases hT with rfl|rfl|rfl|rfl|rfl|rfl|rfl<;>rcases hn with rfl|rfl|rfl|rfl|rfl|rfl<;>rfl
 exact zTM I rx ty e fun tk=>⟨.bl _,H,I.tok tk,rfl,q⟩
def zH7{prog:qJ8}{w:World}{A:qJb}{bs:List Bool}:TruthOf prog w A (fun i v=>(bs.map qKh).toArray[i]?=some v) (fun i=>bs.getD i false):=by
 intro i v s Q E hv hq;have hv':(bs[i]?).map qKh=some v:=by simpa using hv
 cases e:bs[i]? with
 |none=>rw[e]at hv';cases hv'
 |some b=>
  rw[e]at hv';cases hv';dsimp only at hq;rw[qA0,e]at hq;exact wpAny_truthy_bool hq
def zFV:∀{bs:List Bool}{its:List Value},Vals (bs.map V.bl) its->its=bs.map qKh
 |[],_,.nil=>rfl
 |b::r,_,.cons h t=>by
  have h':_=qKh b:=h;rw[h',zFV t];rfl
def zQ0:∀(bs:List Bool),(qA4 bs.length).all (fun i=>bs.getD i false)=bs.all id
 |[]=>rfl
 |b::r=>by
  rw[qAj,qCy,qCx,qCx,<- zQ0 r,qIn];rfl
def zPY:∀(bs:List Bool),(qA4 bs.length).any (fun i=>bs.getD i false)=bs.any id
 |[]=>rfl
 |b::r=>by
  rw[qAj,qCy,qCd,qCd,<- zPY r,qIo];rfl
def zXT(hc:X.calm=true):zCY X (.builtin "all") (fun vs H Q=>∃(a:Addr)(bs:List Bool),vs=[.ref a]/\H a=some (.lst (bs.map V.bl))/\Q (.bl (bs.all id)) H):=by
 intro pins s σ H vs us Q I r h;obtain⟨a,bs,rfl,ha,q⟩:=h;obtain⟨u,rfl,rx⟩:=zCX r;cases rx;obtain⟨its,rv,hl⟩:=zAR I.hok ha;have e:=zFV rv;subst e;refine call_all_walk (wpAny_pyIter_list hl ?_);have hlt:a<s.heap.objs.size:=by obtain⟨o,ho,_⟩:=hl;exact qJ6 ho
 refine⟨s.heap.objs.size,_,_,_,_,_,fun i=>bs.getD i false,rfl,Walks.list (show X.A.in1.handled=none from I.ok.hd hc) s.heap.objs.size a (qAl hlt) _,
  ⟨⟨_,qJ7 _ rfl,rfl,rfl⟩,hl.at fun o e=>qJ4 _ e⟩,zH7,fun h' tk hk=>?_⟩
 refine⟨.bl _,H,I.kept (t':=tk) fun b o e=>hk b o ?_ (qJ4 _ e),rfl,?_⟩
 ·have:=qJ6 e
  simp only[qAu];exact qAl this
 ·have:(bs.map qKh).toArray.size=bs.length:=by simp
  rw[this,zQ0];exact q
def zXS(hc:X.calm=true):zCY X (.builtin "any") (fun vs H Q=>∃(a:Addr)(bs:List Bool),vs=[.ref a]/\H a=some (.lst (bs.map V.bl))/\Q (.bl (bs.any id)) H):=by
 intro pins s σ H vs us Q I r h;obtain⟨a,bs,rfl,ha,q⟩:=h;obtain⟨u,rfl,rx⟩:=zCX r;cases rx;obtain⟨its,rv,hl⟩:=zAR I.hok ha;have e:=zFV rv;subst e;refine call_any_walk (wpAny_pyIter_list hl ?_);have hlt:a<s.heap.objs.size:=by obtain⟨o,ho,_⟩:=hl;exact qJ6 ho
 refine⟨s.heap.objs.size,_,_,_,_,_,fun i=>bs.getD i false,rfl,Walks.list (show X.A.in1.handled=none from I.ok.hd hc) s.heap.objs.size a (qAl hlt) _,
  ⟨⟨_,qJ7 _ rfl,rfl,rfl⟩,hl.at fun o e=>qJ4 _ e⟩,zH7,fun h' tk hk=>?_⟩
 refine⟨.bl _,H,I.kept (t':=tk) fun b o e=>hk b o ?_ (qJ4 _ e),rfl,?_⟩
 ·have:=qJ6 e
  simp only[qAu];exact qAl this
 ·have:(bs.map qKh).toArray.size=bs.length:=by simp
  rw[this,zPY];exact q
def zKF(lo:Int)(n:Nat):List V:=(qA4 n).map fun i=>.int (lo+(i:Nat))
def zH2:∀{xs:List V}{its:List Value},xs.length=its.length->(∀(j:Nat)(x:V)(v:Value),xs[j]?=some x->its[j]?=some v->RelV x v)->Vals xs its
 |[],[],_,_=>.nil
 |[],_::_,h,_=>by simp at h
 |_::_,[],h,_=>by simp at h
 |x::xs,v::its,h,g=>.cons (g 0 x v rfl rfl) (zH2 (by simpa using h) fun j y u e1 e2=>g (j+1) y u (by simpa using e1) (by simpa using e2))
def zRC{lo:Int}{n:Nat}{its:List Value}(hl:its.length=n)(h:∀(j:Nat) (v:Value),its[j]?=some v->∃t,v=qLy (lo+(j:Int)*1) t):Vals (zKF lo n) its:=by
 refine zH2 (by simp[zKF,hl]) fun j x v e1 e2=>?_
 unfold zKF at e1;rw[qAb]at e1;cases e:(qA4 n)[j]? with
 |none=>rw[e]at e1;cases e1
 |some i=>
  rw[e]at e1;cases e1;have hi:i=j:=by
   obtain⟨h1,h2⟩:=qA5.mp e;rw[qBx]at h2;exact h2.symm
  subst hi;obtain⟨t,ht⟩:=h i v e2;exact⟨t,by rw[ht,qIv]⟩
def zL4(hc:X.calm=true):zCY X (.type "list") (fun vs H Q=>∃p lo hi,vs=[.ref p]/\H p=some (.rng lo hi)/\(-(2 ^ 62)<=lo/\lo<2 ^ 62/\-(2 ^ 62)<=hi/\hi<2 ^ 62)/\hi-lo<=1000000/\∀l,H l=none->Q (.ref l) (upd H l (.lst (zKF lo (hi-lo).toNat)))):=by
 intro pins s σ H vs us Q I r h;obtain⟨p,lo,hi,rfl,hp,⟨b1,b2,b3,b4⟩,hz,q⟩:=h;obtain⟨u,rfl,rx⟩:=zCX r;cases rx;obtain⟨t,u,v,e⟩:=(show ObjOk X.prog X.w H s.heap p (.rng lo hi) from I.hok p _ hp)
 have hn:qLf lo hi 1=(((hi-lo).toNat:Nat):Int):=by rw[rangeSize_one];split<;>lia
 refine call_list_range (n:=(hi-lo).toNat) (I.ok.hd hc) e (small_one b1 b2 b3 b4) hn (by lia) fun h' tk acc' c' hk hS hacc=>?_
 have rv:Vals (zKF lo (hi-lo).toNat) acc'.toList:=zRC (by simpa using hacc.1) fun j v hj=>hacc.2 j v (by simpa using hj)
 refine⟨.ref _,_,I.laid (o:=.lst (zKF lo (hi-lo).toNat)) hk (qAa _) ⟨?_,acc'.toList,c',rv,by simpa using hS⟩,rfl,q _ I.fresh⟩;have hl:(zKF lo (hi-lo).toNat).length=(hi-lo).toNat:=by simp[zKF]
 rw[hl,qJw];lia
def za2:R2:=fun x y H Q=>match x,y with
 |.int i,.int j=>Q (.int (i+j)) H
 |.str i,.str j=>i.length+j.length<=sizeLine/\Q (.str (i++j)) H
 |.ref l,.ref b=>∃xs zs,H l=some (.lst xs)/\H b=some (.lst zs)/\xs.length+zs.length<=sizeLine/\∀p,H p=none->Q (.ref p) (upd H p (.lst (xs++zs)))
 |_,_=>False
def zEF:OpR X (binaryOp .Add) za2:=by
 intro pins s σ H x y v u Q I rx ry h;cases x<;>cases y<;>first
  |exact zdV pins s σ H _ _ v u Q I rx ry ⟨_,_,rfl,rfl,h⟩
  |exact zQH pins s σ H _ _ v u Q I rx ry ⟨_,_,rfl,rfl,h.1,h.2⟩
  |(obtain⟨xs,zs,h1,h2,h3,h4⟩:=h;exact zdU pins s σ H _ _ v u Q I rx ry ⟨_,_,xs,zs,rfl,rfl,h1,h2,h3,h4⟩)
  |exact qA3 h
def rMulU:R2:=fun x y H Q=>match x,y with
 |.int i,.int j=>CMul i j/\Q (.int (i*j)) H
 |_,_=>False
def zd0:R2:=fun x y H Q=>match x,y with
 |.int i,.int j=>Q (.int (i-j)) H
 |_,_=>False
def zZM:OpR X (binaryOp .Sub) zd0:=by
 intro pins s σ H x y v u Q I rx ry h;cases x<;>cases y<;>first
  |exact zdO pins s σ H _ _ v u Q I rx ry ⟨_,_,rfl,rfl,h⟩
  |exact qA3 h
def zd7:R2:=fun x y H Q=>match x,y with
 |.int i,.int j=>0<j/\Q (.int (i%j)) H
 |_,_=>False
def zF5:OpR X (binaryOp .Mod) zd7:=by
 intro pins s σ H x y v u Q I rx ry h;cases x<;>cases y<;>first
  |exact zdS pins s σ H _ _ v u Q I rx ry ⟨_,_,rfl,rfl,h.1,h.2⟩
  |exact qA3 h
def zd3:R2:=fun x y H Q=>match x,y with
 |.int i,.int j=>CPow i j/\Q (.int (i ^ j.toNat)) H
 |_,_=>False
def zcI:OpR X (binaryOp .Pow) zd3:=by
 intro pins s σ H x y v u Q I rx ry h;cases x<;>cases y<;>first
  |exact zdQ pins s σ H _ _ v u Q I rx ry ⟨_,_,rfl,rfl,h.1,h.2⟩
  |exact qA3 h
def zd5:V->Hp->VK->Prop:=fun x H Q=>match x with
 |.int i=>Q (.int (-i)) H
 |_=>False
def zZO:UnR X (unaryOp .USub) zd5:=by
 intro pins s σ H x v Q I rx h;cases x<;>first
  |exact zcG pins s σ H _ v Q I rx ⟨_,rfl,h⟩
  |exact qA3 h
def zW2(p:Int->Int->Bool):R2:=fun x y H Q=>match x,y with
 |.int i,.int j=>Q (.bl (p i j)) H
 |_,_=>False
def u_lt:OpR X (compareOp .Lt) (zW2 fun i j=>decide (i<j)):=by
 intro pins s σ H x y v u Q I rx ry h;cases x<;>cases y<;>first
  |exact zg3 pins s σ H _ _ v u Q I rx ry ⟨_,_,rfl,rfl,h⟩
  |exact qA3 h
def u_le:OpR X (compareOp .LtE) (zW2 fun i j=>decide (i<=j)):=by
 intro pins s σ H x y v u Q I rx ry h;cases x<;>cases y<;>first
  |exact zg4 pins s σ H _ _ v u Q I rx ry ⟨_,_,rfl,rfl,h⟩
  |exact qA3 h
def u_gt:OpR X (compareOp .Gt) (zW2 fun i j=>decide (j<i)):=by
 intro pins s σ H x y v u Q I rx ry h;cases x<;>cases y<;>first
  |exact zg5 pins s σ H _ _ v u Q I rx ry ⟨_,_,rfl,rfl,h⟩
  |exact qA3 h
def rEqU:R2:=fun x y H Q=>match x,y with
 |.int i,.int j=>Q (.bl (decide (i=j))) H
 |.str i,.str j=>Q (.bl (decide (i=j))) H
 |.bl i,.bl j=>Q (.bl (decide (i=j))) H
 |x,y=>rEqD x y H Q
def rNeU:R2:=fun x y H Q=>match x,y with
 |.int i,.int j=>Q (.bl (!decide (i=j))) H
 |.str i,.str j=>Q (.bl (!decide (i=j))) H
 |.bl i,.bl j=>Q (.bl (!decide (i=j))) H
 |x,y=>rNeD x y H Q
def u_eq(hu:X.A.units+64<cLine):OpR X (compareOp .Eq) rEqU:=by
 intro pins s σ H x y v u Q I rx ry h;cases x<;>cases y<;>first
  |(refine zg6 pins s σ H _ _ v u Q I rx ry ⟨rfl,?_⟩;have h':=h;simp only[rEqU]at h';simpa using h')
  |exact zdT hu pins s σ H _ _ v u Q I rx ry h
def u_ne(hu:X.A.units+64<cLine):OpR X (compareOp .NotEq) rNeU:=by
 intro pins s σ H x y v u Q I rx ry h;cases x<;>cases y<;>first
  |(refine zg2 pins s σ H _ _ v u Q I rx ry ⟨rfl,?_⟩;have h':=h;simp only[rNeU]at h';simpa using h')
  |exact zdR hu pins s σ H _ _ v u Q I rx ry h
def rIxU(K:qA2):R2:=fun x y H Q=>match x,y with
 |.str z,.int i=>∃c,z.length<=sizeLine/\atI z.cps.toList i=some c/\Q (.str ⟨#[c]⟩) H
 |.ref p,.int i=>∃xs v,(SqL K H p xs\/SqT K H p xs)/\atI xs i=some v/\Q v H
 |_,_=>False
def u_ix:IxR X (rIxU X.K):=by
 intro value slice pins s σ H x y v u Q I rx ry h hs;cases x<;>cases y<;>first
  |(obtain⟨c,h1,h2,h3⟩:=h;exact zeC value slice pins s σ H _ _ v u Q I rx ry ⟨_,_,c,rfl,rfl,h1,h2,h3⟩ hs)
  |(obtain⟨xs,w,h1|h1,h2,h3⟩:=h
    ·exact zaW value slice pins s σ H _ _ v u Q I rx ry ⟨_,xs,_,w,rfl,rfl,h1,h2,h3⟩ hs
    ·exact zeA value slice pins s σ H _ _ v u Q I rx ry ⟨_,xs,_,w,rfl,rfl,h1,h2,h3⟩ hs)
  |exact qA3 h
def zZZ(K:qA2):List V->Hp->VK->Prop:=fun vs H Q=>match vs with
 |[.str z]=>z.length<=sizeLine/\Q (.int z.length) H
 |[.ref p]=>∃xs,(SqL K H p xs\/SqT K H p xs)/\Q (.int xs.length) H
 |_=>False
def zgC:zCY X (.builtin "len") (zZZ X.K):=by
 intro pins s σ H vs us Q I r h;cases vs with
 |nil=>exact qA3 h
 |cons hd1 tl1=>
  cases hd1 with
  |str z=>
   cases tl1 with
   |nil=>
    exact zN4 pins s σ H _ us Q I r ⟨z,rfl,h.1,h.2⟩
   |cons _ _=>exact qA3 h
  |ref p=>
   cases tl1 with
   |nil=>
    obtain⟨xs,h1,h2⟩:=h;exact zN5 pins s σ H _ us Q I r ⟨p,xs,rfl,h1,h2⟩
   |cons _ _=>exact qA3 h
  |_=>exact qA3 h
def zP7(K:qA2):List V->Hp->VK->Prop:=fun vs H Q=>match vs with
 |[.ref p]=>(∃xs,(SqL K H p xs\/SqT K H p xs)/\∀l,H l=none->Q (.ref l) (upd H l (.lst xs))) \/
   ∃lo hi,H p=some (.rng lo hi)/\(-(2 ^ 62)<=lo/\lo<2 ^ 62/\-(2 ^ 62)<=hi/\hi<2 ^ 62)/\hi-lo<=1000000/\∀l,H l=none->Q (.ref l) (upd H l (.lst (zKF lo (hi-lo).toNat)))
 |_=>False
def zEM(hc:X.calm=true):zCY X (.type "list") (zP7 X.K):=by
 intro pins s σ H vs us Q I r h;cases vs with
 |nil=>exact qA3 h
 |cons hd1 tl1=>
  cases hd1 with
  |ref p=>
   cases tl1 with
   |nil=>
    rcases h with⟨xs,h1,h2⟩|⟨lo,hi,h1,h2,h3,h4⟩
    ·exact zN3 pins s σ H _ us Q I r ⟨p,xs,rfl,h1,h2⟩
    ·exact zL4 hc pins s σ H _ us Q I r ⟨p,lo,hi,rfl,h1,h2,h3,h4⟩
   |cons _ _=>exact qA3 h
  |_=>exact qA3 h
def zd8:List V->Hp->VK->Prop:=fun vs H Q=>match vs with
 |[x,.ty n]=>∃T,zH6 H x=some T/\n∈["int","bool","str","list","tuple","dict"]/\Q (.bl (zaZ T n)) H
 |_=>False
def zDV:zCY X (.builtin "isinstance") zd8:=by
 intro pins s σ H vs us Q I r h;cases vs with
 |nil=>exact qA3 h
 |cons x tl1=>
  cases tl1 with
  |nil=>exact qA3 h
  |cons hd2 tl2=>
   cases hd2 with
   |ty n=>
    cases tl2 with
    |nil=>
     obtain⟨T,h1,h2,h3⟩:=h;exact zOJ pins s σ H _ us Q I r ⟨x,n,T,rfl,h1,h2,h3⟩
    |cons _ _=>exact qA3 h
   |_=>exact qA3 h
def zdB:List V->Hp->VK->Prop:=fun vs H Q=>match vs with
 |[.ref a]=>∃bs:List Bool,H a=some (.lst (bs.map V.bl))/\Q (.bl (bs.all id)) H
 |_=>False
def zgD(hc:X.calm=true):zCY X (.builtin "all") zdB:=by
 intro pins s σ H vs us Q I r h;cases vs with
 |nil=>exact qA3 h
 |cons hd1 tl1=>
  cases hd1 with
  |ref a=>
   cases tl1 with
   |nil=>
    obtain⟨bs,h1,h2⟩:=h;exact zXT hc pins s σ H _ us Q I r ⟨a,bs,rfl,h1,h2⟩
   |cons _ _=>exact qA3 h
  |_=>exact qA3 h
def zdA:List V->Hp->VK->Prop:=fun vs H Q=>match vs with
 |[.ref a]=>∃bs:List Bool,H a=some (.lst (bs.map V.bl))/\Q (.bl (bs.any id)) H
 |_=>False
def ze6(hc:X.calm=true):zCY X (.builtin "any") zdA:=by
 intro pins s σ H vs us Q I r h;cases vs with
 |nil=>exact qA3 h
 |cons hd1 tl1=>
  cases hd1 with
  |ref a=>
   cases tl1 with
   |nil=>
    obtain⟨bs,h1,h2⟩:=h;exact zXS hc pins s σ H _ us Q I r ⟨a,bs,rfl,h1,h2⟩
   |cons _ _=>exact qA3 h
  |_=>exact qA3 h
end
def zMZ(N N':List Str)(k:Nat)(sc esc:Scope):Bool:=
 (sc.kind==.function)&&decide ((sc.names.map (·.1)).Nodup)&&(N'.length==N.length+k) &&
 ((qA4 N.length).all fun i=>match N'[i]? with
  |none=>true
  |some x=>(sc.names.lookup x==none)||(sc.names.any (fun p=>p.1==x&&p.2==.free)&&N[i]?==some x)) &&
 (sc.names.all fun p=>p.2 != .free||esc.names.lookup p.1==some .cell||esc.names.lookup p.1==some .free)
def cn{X:Cx}{sc:Scope}(N':List Str)(k:Nat)(h:zMZ X.N N' k sc X.env.scope=true):CompNames X.N N' k sc X.env:=by
 unfold zMZ at h;simp only[qBi,decide_eq_true_eq,beq_iff_eq]at h;obtain⟨⟨⟨⟨h1,h2⟩,h3⟩,h4⟩,h5⟩:=h;refine⟨h1,h2,h3,fun i x e hi=>?_,fun x hx=>?_⟩
 ·have q:=qFg.mp h4 i (qBf.mpr hi);rw[e]at q;simp only[qHd,qBi,beq_iff_eq,qFh]at q
  rcases q with q|⟨⟨p,hp,e1,e2⟩,e3⟩
  ·exact .inr q
  ·obtain⟨y,kk⟩:=p;dsimp only at e1 e2;subst e1;subst e2;exact .inl ⟨hp,e3⟩
 ·have q:=qFg.mp h5 _ hx;simp only[qHd,bne_iff_ne,ne_eq,not_true_eq_false,false_or,beq_iff_eq]at q;exact q
def PE.imp{X:Cx}{e:Expr}{t t':TE}(h:PE X e t)(i:∀σ H Q,t' σ H Q->t σ H Q):PE X e t':=fun pins s σ H Q I q=>h pins s σ H Q I (i σ H Q q)
def vM(i:Nat):TE:=fun σ H Q=>match σ[i]? with
 |some (some v)=>Q v H
 |_=>False
def pn{X:Cx}(i:Nat){x:Str}{pos:Pos}(hN:X.N[i]?=some x:=by rfl)(hv:Vis X.env.scope x:=by first|exact qIz rfl|exact qId (qIz rfl)|exact qId (qId rfl))(hd:(x==("__debug__":Str))=false:=by decide)
  (hcd:(x==("__classdict__":Str))=false:=by decide):PE X (.Name x pos) (vM i):=(zYF hN hv hd hcd).imp fun σ H Q h=>by
 unfold vM at h;cases e:σ[i]? with
 |none=>rw[e]at h;exact qA3 h
 |some w=>
  rw[e]at h;cases w with
  |none=>exact qA3 h
  |some v=>exact⟨v,e,h⟩
def bM(t:TE):TT:=fun σ H Q=>t σ H fun x H'=>match x with
 |.bl k=>Q k H'
 |.int i=>Q (i != 0) H'
 |.non=>Q false H'
 |_=>False
section
variable{X:Cx}{a b c:Expr}{ta tb tc:TE}{rest:List Expr}{pos:Pos}
def zcM{K:qA2}{x:V}{H:Hp}{Q:Bool->Hp->Prop}(h:match x with | .bl k=>Q k H | .int i=>Q (i != 0) H | .non=>Q false H|_=>False):∃k,TruV K x H k/\Q k H:=by
 cases x with
 |bl k=>exact⟨k,rfl,h⟩
 |int i=>exact⟨_,rfl,h⟩
 |non=>exact⟨_,rfl,h⟩
 |_=>exact qA3 h
def pt_m(ha:PE X a ta)(he:∀whole,isTrue a X.env whole=(do let v <- whole;qN5 a.pos;holding [v] (truthy v)):=by intro _;rfl):PT X a (bM ta):=by
 intro pins s σ H Q I h;refine isTrue_plain (thn (ha pins s σ H _ I h) fun v s1 z0=>?_) (he _);obtain⟨x,H1,I1,r1,q1⟩:=z0;exact thn (zcL pins s1 σ H1 x v Q I1 r1 (zcM q1)) fun _ _ q=>q
def zDD{op:CmpOp}{r:R2}(ho:OpR X (compareOp op) r)(ha:PE X a ta)(hb:PE X b tb)(hm:qKa op b=false):PT X (.Compare a [op] [b] pos) (fun σ H Q=>ta σ H fun x H1=>tb σ H1 fun y H2=>r x y H2 fun z H3=>match z with | .bl k=>Q k H3|_=>False):=by
 intro pins s σ H Q I h;refine qLl (thn (ha pins s σ H _ I h) fun v s1 ⟨x,H1,I1,r1,q1⟩=>thn (hb pins s1 σ H1 _ I1 q1) fun u s2 ⟨y,H2,I2,r2,q2⟩=>
  thn (ho pins s2 σ H2 x y v u _ I2 r1 r2 q2) fun d s3 ⟨z,H3,I3,r3,q3⟩=>?_) hm
 cases z with
 |bl k=>cases r3;exact wpAny_truthy_bool ⟨H3,I3,q3⟩
 |_=>exact qA3 q3
def zdL{op op':CmpOp}{r r':R2}(ho:OpR X (compareOp op) r)(ho':OpR X (compareOp op') r')(ha:PE X a ta)(hb:PE X b tb)(hc:PE X c tc)
  (hm:lastMarks [op,op'] [b,c]=false:=by with_unfolding_all rfl):PE X (.Compare a [op,op'] [b,c] pos) (fun σ H Q=>ta σ H fun x H1=>tb σ H1 fun y H2=>r x y H2 fun z H3=>match z with
   |.bl k=>if k=true then tc σ H3 fun w' H4=>r' y w' H4 Q else Q (.bl false) H3
   |_=>False):=by
 intro pins s σ H Q I h;refine Compare_chain (thn (ha pins s σ H _ I h) fun v s1 ⟨x,H1,I1,r1,q1⟩=>chain_link (thn (hb pins s1 σ H1 _ I1 q1) fun u s2 ⟨y,H2,I2,r2,q2⟩=>
  thn (ho pins s2 σ H2 x y v u _ I2 r1 r2 q2) fun d s3 ⟨z,H3,I3,r3,q3⟩=>?_)) hm
 cases z with
 |bl k=>
  cases r3;refine wpAny_truthy_bool ?_;cases k with
  |false=>exact ite_ff ⟨.bl false,H3,I3,rfl,by simpa using q3⟩
  |true=>exact ite_tt (chain_last (thn (hc pins s3 σ H3 _ I3 (by simpa using q3)) fun w' s4 ⟨z',H4,I4,r4,q4⟩=>ho' pins s4 σ H4 y z' u w' Q I4 r2 r4 q4))
 |_=>exact qA3 q3
def zdM(ha:PE X a ta)(hb:PE X (.BoolOp .And (b::rest) pos) tb):PE X (.BoolOp .And (a::b::rest) pos) (fun σ H Q=>ta σ H fun x H1=>match x with | .bl c=>if c=true then tb σ H1 Q else Q (.bl false) H1|_=>False):=by
 intro pins s σ H Q I h;refine BoolOp_and (thn (ha pins s σ H _ I h) fun v s1 z0=>?_);obtain⟨x,H1,I1,r1,q1⟩:=z0;cases x with
 |bl c=>
  cases r1;refine wpAny_truthy_bool ?_;cases c with
  |true=>exact hb pins s1 σ H1 Q I1 (by simpa using q1)
  |false=>exact⟨.bl false,H1,I1,rfl,by simpa using q1⟩
 |_=>exact qA3 q1
def zfZ(ha:PE X a ta):PE X (.UnaryOp .Not a pos) (fun σ H Q=>ta σ H fun x H1=>match x with | .bl c=>Q (.bl (!c)) H1|_=>False):=by
 intro pins s σ H Q I h;refine UnaryOp_ (thn (ha pins s σ H _ I h) fun v s1 z0=>?_);obtain⟨x,H1,I1,r1,q1⟩:=z0;cases x with
 |bl c=>cases r1;exact not_of (wpAny_truthy_bool ⟨.bl (!c),H1,I1,rfl,q1⟩)
 |_=>exact qA3 q1
def setM:V->V->V->Hp->(Hp->Prop)->Prop:=fun o i v H Q=>match o,i with
 |.ref p,.int k=>∃xs j,H p=some (.lst xs)/\ixN xs.length k=some j/\Q (upd H p (.lst (xs.set j v)))
 |_,_=>False
def zZN:PSet X setM:=by
 intro pins s σ H o i v ov iv u Q I ro ri rv h;cases o<;>cases i<;>first
  |(obtain⟨xs,j,h1,h2,h3⟩:=h;exact zVM pins s σ H _ _ v ov iv u Q I ro ri rv ⟨_,xs,_,j,rfl,rfl,h1,h2,h3⟩)
  |exact qA3 h
def appM:V->List V->Hp->VK->Prop:=fun x vs H Q=>match x,vs with
 |.ref l,[y]=>∃xs,H l=some (.lst xs)/\xs.length<sizeLine/\Q .non (upd H l (.lst (xs++[y])))
 |_,_=>False
def zKH:MtR X "list.append" appM:=by
 intro pins s σ H x vs v us Q I rx rv h;cases x with
 |ref l=>
  cases vs with
  |nil=>exact qA3 h
  |cons y t=>
   cases t with
   |nil=>
    obtain⟨xs,h1,h2,h3⟩:=h;exact zSZ pins s σ H _ _ v us Q I rx rv ⟨l,xs,y,rfl,rfl,h1,h2,h3⟩
   |cons _ _=>exact qA3 h
 |_=>exact qA3 h
def popM:V->List V->Hp->VK->Prop:=fun x vs H Q=>match x,vs with
 |.ref l,[.int i]=>∃xs k y,H l=some (.lst xs)/\(-(2 ^ 63)<=i/\i<2 ^ 63)/\qMp i xs.length=some k/\xs[k]?=some y/\Q y (upd H l (.lst (xs.eraseIdx k)))
 |.ref l,[]=>∃xs y,H l=some (.lst xs)/\xs[xs.length-1]?=some y/\Q y (upd H l (.lst xs.dropLast))
 |_,_=>False
def zSV:MtR X "list.pop" popM:=by
 intro pins s σ H x vs v us Q I rx rv h;cases x with
 |ref l=>
  cases vs with
  |nil=>
   obtain⟨xs,y,h1,h2,h3⟩:=h;exact zdY pins s σ H _ _ v us Q I rx rv ⟨l,xs,y,rfl,rfl,h1,h2,h3⟩
  |cons y t=>
   cases y with
   |int i=>
    cases t with
    |nil=>
     obtain⟨xs,k,y,h1,h2,h3,h4,h5⟩:=h;exact zWM pins s σ H _ _ v us Q I rx rv ⟨l,xs,i,k,y,rfl,rfl,h1,h2.1,h2.2,h3,h4,h5⟩
    |cons _ _=>exact qA3 h
   |_=>exact qA3 h
 |_=>exact qA3 h
end
def pt_w{X:Cx}{e:Expr}{t:TT}(h:PW X e t):PT X e t:=h.pt
def Has(P:qJ8)(w:World)(K:qA2)(mg:Str->Option Value)(base:Heap)(x:Str)(k:Nat)(ps:List Str)(sp:Sp):Prop:=
 ∃f fd,FnOk P w K mg base CX0 k f fd ps sp/\mg x=some (.ref f)/\qBj K (.ref f)=true/\Binds K fd ps []
def Def(K:qA2)(mg:Str->Option Value)(x:Str)(st:Stmt):Prop:=∃f fd,Fun K x x st f fd/\mg x=some (.ref f)
section
variable{X:Cx}{x:Str}{j k:Nat}{ps:List Str}{sp:Sp}{e:Expr}{es:List Expr}{t:TA}{p pos:Pos}
def zBI(h:Has X.prog X.w X.K X.mg X.base x j ps sp)(hjk:j<=k)(hr:Room k X.A)(hg:Gl X x)(ha:PA X (e::es) t)(hdb:(x==("__debug__":Str))=false:=by decide)
  (he:starEach (e::es) X.env=(false,eval e X.env)::starEach es X.env:=by rfl) (hpl:(backTo pos (starEach es X.env)).any (·.1)=false:=by rfl):PE X (.Call (.Name x p) (e::es) [] pos) (zLJ sp [] E0 t):=by
 obtain⟨f,fd,G,m,kp,b⟩:=h;exact zSF G (hr.mono hjk) hg m kp b .nil zg1 ha hdb he hpl
end
section
variable{P:qJ8}{w:World}{K:qA2}{mg:Str->Option Value}{base:Heap}
def Def.ok{x:Str}{st:Stmt}{N ps:List Str}{k:Nat}{sp:Sp}(D:Def K mg x st)(S:FnScope N ps (zA7 st))
  (hb:∀(kV doc pm:Value)(an:Option Addr)(cdv ct:Value)(us:List Value),us.length=ps.length->qM2 (qBt x x (zCC st) (zBD st) (zA7 st) .none kV doc pm an cdv ct) ⟨us,[]⟩=pure (ps.zip us))
  (len:∀vs H Q E,sp vs H Q E->vs.length=ps.length)
  (hbody:∀(f:Addr)(cdv:Value)(A:qJb)(outer:List Env)(s:qJ5)(H:Hp)(vs:List V)(Q:VK)(E:XK),Room k (A.deeper (envOfC x (zA7 st) s.heap.objs.size f cdv))->sp vs H Q E ->
   ∃t,PSs (cxOf CX0 P w K mg base N x (zA7 st) f cdv A outer s H E).nox (zBD st) t/\t { nx:=fun _ H'=>Q .non H',rt:=Q } (start N vs) H):Has P w K mg base x (k+1) ps sp:=by
 obtain⟨f,fd,F,m⟩:=D;exact⟨f,fd,F.ok S len (fun cdv A outer s H vs Q E hr h=>hbody f cdv A outer s H vs Q E hr h),m,F.kp,F.binds hb⟩
end
section
variable{X:Cx}{pins:List (Addr×Obj)}{σ:St}{H:Hp}{s:qJ5}
def Inv.turnedNew{h':Heap}{t':Nat}{fp:List Addr}{a:Addr}{o:HO}(I:Inv X pins σ H s)(hf:∀b∈fp,FpOk X pins H b)(k:∀b u,b∉fp->s.heap.get? b=some u->h'.get? b=some u)
  (hp:s.heap.objs.size<=a) (new:ObjOk X.prog X.w (upd H a o) h' a o):Inv X pins σ (upd H a o) { s with heap:=h',toks:=t' }:=by
 have hn:H a=none:=I.hok.fresh hp;have ne:∀b u,s.heap.get? b=some u->b≠a:=fun b u e=>qAl (qAk (qJ6 e) hp)
 have nfp:∀b u,H b=some u->b∉fp:=fun b u e z=>by rw[(hf b z).1]at e;cases e
 refine I.step (g':=s.gens) (d':=s.drawn) (ch:=fp) (fun b hb=>⟨(hf b hb).2.2.2.1,(hf b hb).2.1,(hf b hb).2.2.2.2.1,(hf b hb).2.2.2.2.2⟩) (fun b u _ _ hc e _=>k b u hc e) (fun b u _ _ hc e _=>⟨u.slots,k b u hc e⟩)
  (fun b u _ e n=>by rw[zAD (ne b u e)];exact n) (fun b u hc e=>⟨u,k b u hc e⟩) (fun b xs e=>by rw[zAD (zAK e hn)];exact e) (fun b u xs e=>by rw[zAD (zAK e hn)];exact e)
  (fun b ps e=>⟨#[],by rw[zAD (zAK e hn),e];simp⟩) (fun m hm=>?_) (fun b u e=>?_) I.bare
 ·obtain⟨u,es,ep,ho,r⟩:=hm;exact⟨u,es,ep,k _ u (fun z=>(hf _ z).2.1 rfl) ho,r⟩
 ·by_cases hb:b=a
  ·subst hb;rw[zAA]at e;cases e;exact new
  ·rw[zAD hb]at e;refine(I.hok b u e).stay (fun c v hc q=>k c v ?_ q) (fun c q=>by rw[zAD (zAK q hn)];exact q) (fun c xs q=>by rw[zAD (zAK q hn)];exact q) fun c _ _ q _=>by rw[zAD (zAK q hn)];exact q
   rcases hc with z|z
   ·rw[z];exact nfp b u e
   ·exact nfp c _ z
def Inv.turnedL{h':Heap}{t':Nat}{fp:List Addr}(I:Inv X pins σ H s)(hf:∀b∈fp,FpOk X pins H b)(k:∀b u,b∉fp->s.heap.get? b=some u->h'.get? b=some u):Inv X pins σ H { s with heap:=h',toks:=t' }:=by
 have nfp:∀b u,H b=some u->b∉fp:=fun b u e z=>by rw[(hf b z).1]at e;cases e
 refine I.step (g':=s.gens) (d':=s.drawn) (ch:=fp) (fun b hb=>⟨(hf b hb).2.2.2.1,(hf b hb).2.1,(hf b hb).2.2.2.2.1,(hf b hb).2.2.2.2.2⟩) (fun b u _ _ hc e _=>k b u hc e) (fun b u _ _ hc e _=>⟨u.slots,k b u hc e⟩)
  (fun b u _ e n=>n) (fun b u hc e=>⟨u,k b u hc e⟩) (fun b xs e=>e) (fun b u xs e=>e)
  (fun b ps e=>⟨#[],by rw[e];simp⟩) (fun m hm=>?_) (fun b u e=>?_) I.bare
 ·obtain⟨u,es,ep,ho,r⟩:=hm;exact⟨u,es,ep,k _ u (fun z=>(hf _ z).2.1 rfl) ho,r⟩
 ·refine(I.hok b u e).stay (fun c v hc q=>k c v ?_ q) (fun c q=>q) (fun c xs q=>q) fun c _ _ q _=>q
  rcases hc with z|z
  ·rw[z];exact nfp b u e
  ·exact nfp c _ z
def Ite(K:qA2)(a:Addr):It:=
 ⟨fun i H=>∃xs x,SqL K H a xs/\xs[i]?=some x,fun i H x H'=>∃T y,x=.ref T/\H T=none/\H'=upd H T (.tup [.int i,y])/\∀xs,SqL K H a xs->xs[i]?=some y,fun i H=>∃xs,SqL K H a xs/\xs.length<=i⟩
def zLH{P:qJ8}{w:World}{K:qA2}{ts:List Expr}{kk:Nat}{tp:Pos}(a e it:Addr)(hei:e≠it) :
  Turn P w K (.Tuple ts kk tp) (Ite K a) [e,it] e (fun i h=>(∃old,IsEnum h e it i old)/\h.IsListIter it a i) where
 mem:=by simp
 obj:=fun i h st b hb=>by
  rcases qAc.mp hb with z|z
  ·subst z;obtain⟨⟨old,he⟩,_⟩:=st;exact⟨_,he,fun v z=>by cases z⟩
  ·have z':b=it:=by simpa using z
   subst z';obtain⟨_,o,e,c,d⟩:=st;exact⟨o,e,fun v z=>by rw[d]at z;cases z⟩
 keep:=fun i h h' st k=>⟨by obtain⟨⟨old,he⟩,_⟩:=st;exact⟨old,k e (by simp) _ he⟩,st.2.at fun o x=>k it (by simp) o x⟩
 item:=by
  intro X hP hw hK hc i pins s σ H E I hf st hg;subst hP hw hK;obtain⟨xs,x,hq,hx⟩:=hg;obtain⟨its,rv,p,hz⟩:=I.list hq;obtain⟨u,hu,ru⟩:=rv.get hx;obtain⟨⟨old,he⟩,hit⟩:=st;refine wpAny_pyNext_enum_item he hit p.isList (x:=u) (by simpa using hu) hei fun h' ho hit' hT hsz hk=>?_
  refine⟨_,rfl,qL7 ho fun h'' he'' hs''=>?_⟩;have hTe:s.heap.objs.size≠e:=qBs (qJ6 he);have hTi:s.heap.objs.size≠it:=by obtain⟨o,ho',_⟩:=hit;exact qBs (qJ6 ho')
  have kk:∀b u,b∉[e,it]->s.heap.get? b=some u->h''.get? b=some u:=fun b u hb q=>by
   have b1:b≠e:=fun z=>hb (by simp[z])
   have b2:b≠it:=fun z=>hb (by simp[z])
   exact(hs''.2 b b1).trans (hk b u b1 b2 q)
  have hT'':=(hs''.2 _ hTe).trans hT;refine⟨.ref s.heap.objs.size,_,I.turnedNew (t':=s.toks+1) (o:=.tup [.int i,x]) hf kk (qAa _) ⟨by show 2<=sizeLine;decide,[.int i s.toks,u],.cons ⟨_,rfl⟩ (.cons ru .nil),⟨_,hT'',rfl,_,rfl⟩⟩,rfl,
   ⟨_,x,rfl,I.fresh,rfl,fun ys hy=>by rw[I.list_inj hy hq];exact hx⟩,⟨⟨_,by simpa using he''⟩,hit'.at fun o x=>(hs''.2 it hei.symm).trans x⟩,fun b hb=>?_⟩
  have hbs:b<s.heap.objs.size:=by
   rcases qAc.mp hb with z|z
   ·rw[z];exact qJ6 he
   ·have z':b=it:=by simpa using z
    rw[z'];obtain⟨o,ho',_⟩:=hit;exact qJ6 ho'
  rw[zAD (qAl hbs)];exact(hf b hb).1
 done:=by
  intro X hP hw hK hc i pins s σ H E I hf st hg;subst hP hw hK;obtain⟨xs,hq,hx⟩:=hg;obtain⟨its,rv,p,hz⟩:=I.list hq;have hl:=rv.length;obtain⟨⟨old,he⟩,hit⟩:=st;exact wpAny_pyNext_enum_end (I.ok.hd hc) he hit p.isList (by simp;lia) fun h' eb=>⟨rfl,I.turnedL (t':=s.toks) hf fun b u hb q=>eb b u (fun z=>hb (by simp[z])) q⟩
 self:=fun _ _ _ _ _ st h=>by obtain⟨⟨old,he⟩,_⟩:=st;exact qKc he h
def zb4(K:qA2)(tl:TA):TI:=fun σ H R=>tl σ H fun vs H1=>match vs with
 |[.ref a]=>(∃xs,SqL K H1 a xs)/\R (Ite K a) H1
 |_=>False
def za6{ts:List Expr}{kk:Nat}{tp p pos:Pos}{a:Expr}{ta:TA}(hg:Gl X "enumerate")(hm:X.mg "enumerate" = none)(ha:PA X [a] ta)(hs:starEach [a] X.env=[(false,eval a X.env)]:=by rfl) :
  PI X (.Tuple ts kk tp) (.Call (.Name "enumerate" p) [a] [] pos) (zb4 X.K ta):=by
 intro pins s σ H R I h;refine Call_ (zI2 I hg hm boot_enumerate (qBv (thn (ha pos pins s σ H _ I h) fun us s1 z0=>?_) hs rfl));obtain⟨vs,H1,I1,r1,q1⟩:=z0;cases vs with
 |nil=>exact qA3 q1
 |cons hd1 tl1=>
  cases hd1 with
  |ref l=>
   cases tl1 with
   |nil=>
    obtain⟨⟨xs,hq⟩,q⟩:=q1;obtain⟨u,rfl,rx⟩:=zCX r1;cases rx;obtain⟨its,rv,pl,hz⟩:=I1.list hq;refine qLt pl.isList fun h' he hit hsz hk=>?_
    refine qKc he ?_;have hne:s1.heap.objs.size+1≠s1.heap.objs.size:=by lia
    refine⟨s1.heap.objs.size+1,[s1.heap.objs.size+1,s1.heap.objs.size],_,_,H1,rfl,I1.kept (t':=s1.toks) hk,zLH l _ _ hne,⟨⟨_,he⟩,hit⟩,fun b hb=>?_,q⟩;have hb':s1.heap.objs.size<=b:=by
     rcases qAc.mp hb with z|z
     ·rw[z];exact qC8 _
     ·have z':b=s1.heap.objs.size:=by simpa using z
      rw[z'];exact qAa _
    exact I1.fpOk hb' (I1.hok.fresh hb')
   |cons _ _=>exact qA3 q1
  |_=>exact qA3 q1
end
section
variable{X:Cx}{K:qA2}
def zBK(hK:X.K=K:=by rfl):zCY X (.builtin "len") (zZZ K):=hK▸zgC
def zTE(hc:X.calm=true)(hK:X.K=K:=by rfl):zCY X (.type "list") (zP7 K):=hK▸zEM hc
def zBU(hK:X.K=K:=by rfl):IxR X (rIxU K):=hK▸u_ix
def zGR{ts:List Expr}{kk:Nat}{tp p pos:Pos}{a:Expr}{ta:TA}(hg:Gl X "enumerate")(hm:X.mg "enumerate" = none)(ha:PA X [a] ta)(hs:starEach [a] X.env=[(false,eval a X.env)]:=by rfl)(hK:X.K=K:=by rfl) :
  PI X (.Tuple ts kk tp) (.Call (.Name "enumerate" p) [a] [] pos) (zb4 K ta):=hK▸za6 hg hm ha hs
def zG1{es:List Expr}{k:Nat}{t:TGs}{n:Nat}{pos:Pos}(hc:X.calm=true)(h:PGs X es t)
  (hn:(assignEach es X.env).length=n:=by rfl) (hst:(assignEach es X.env).findIdx? (·.1)=none:=by rfl) (hK:X.K=K:=by rfl):PG X (.Tuple es k pos) (gTup K n t):=hK▸zdI hc h hn hst
def tML(r:V->List V->Hp->VK->Prop)(to:TE)(t:TA):TE:=fun σ H Q=>to σ H fun x H1=>match x with
 |.ref p=>∃xs,H1 p=some (.lst xs)/\t σ H1 fun vs H2=>r x vs H2 Q
 |_=>False
variable{o e:Expr}{es:List Expr}{to:TE}{t:TA}{name:Str}{apos cpos:Pos}{id:String}{r:V->List V->Hp->VK->Prop}
def zGJ(pa:qN1 "list")(slot:Slot "list" name id)(hty:typeOf (.builtin id)=pure (.type "method_descriptor"))(hm:MtR X id r)(ho:PE X o to)(ha:PA X (e::es) t)
  (hbase:qKy o name X.env (eval o X.env)=eval o X.env:=by rfl)
  (hfew:((backTo cpos (starEach (e::es) X.env)).all (fun x=>!x.1)&&(backToKw cpos (keywordEach [] X.env)).all (fun x=>x.1.isSome)
   && decide ((e::es).length+([]:List qL8).length+(if([]:List qL8).isEmpty then 0 else 1)<30))=true:=by rfl)
  (hline:(apos.endLine==cpos.line)=true:=by rfl) (hs:starEach (e::es) X.env=(false,eval e X.env)::starEach es X.env:=by rfl) (hplain:(backTo cpos (starEach es X.env)).any (·.1)=false:=by rfl) :
  PE X (.Call (.Attribute o name apos) (e::es) [] cpos) (tML r to t):=by
 intro pins s σ H Q I h;refine qKo hbase hfew hline rfl (thn (ho pins s σ H _ I h) fun v s1 z0=>?_);obtain⟨x,H1,I1,r1,q1⟩:=z0;cases x with
 |ref p=>?_
 |_=>exact qA3 q1
 obtain⟨xs,hx,q1⟩:=q1;obtain⟨h1,h2⟩:=zY0 (T:="list") I1 r1 (.inl ⟨rfl,xs,SqL.of hx⟩);refine⟨"list",id,pa,slot,hty,h1,h2,?_⟩;have hA:=ha cpos pins s1 σ H1 _ I1 q1;rw[hs]at hA ⊢;refine qKp (by show(false||(backTo cpos (starEach es X.env)).any (·.1))=false;rw[hplain]<;>rfl) (qKx ?_);exact thn hA fun us s2 ⟨vs,H2,I2,r2,q2⟩=>hm pins s2 σ H2 (.ref p) vs v us Q I2 r1 r2 q2
end
def same_new{H:Hp}{p:Addr}(h:H p=none)(o:HO):Same H (upd H p o):=fun b u q=>by rw[zAD (zAK q h)];exact q
def Same.upd{H H':Hp}{p:Addr}(s:Same H H')(h:H p=none)(o:HO):Same H (upd H' p o):=fun b u q=>by rw[zAD (zAK q h)];exact s b u q
def zD8{H:Hp}:∀(ns:List Int),RepL H (ns.map Dat.int) (ns.map V.int)
 |[]=>rfl
 |n::r=>⟨.int n,r.map V.int,rfl,rfl,zD8 r⟩
def zBZ:∀(ns:List Int),Dat.depL (ns.map Dat.int)=0
 |[]=>rfl
 |n::r=>by
  rw[qAd,Dat.depL,zBZ r];rfl
def zKW:∀(ns ms:List Int),Dat.eqL (ns.map Dat.int) (ms.map Dat.int)=decide (ns=ms)
 |[],[]=>by simp[Dat.eqL]
 |[],_::_=>by simp[Dat.eqL]
 |_::_,[]=>by simp[Dat.eqL]
 |n::r,m::q=>by
  rw[qAd,qAd,Dat.eqL,zKW r q,Dat.eq];by_cases h:n=m
  ·subst h;simp
  ·simp[h]
def big{n:Nat}(h:n<=100000):n<sizeLine:=by rw[qJw];lia
def zMP:∀{ns:List Int}{vs:List Value},Vals (ns.map V.int) vs->qM8 vs ns
 |[],_,.nil=>.nil
 |n::r,_,.cons h t=>by
  obtain⟨tk,rfl⟩:=h;exact .cons n tk (zMP t)
section
variable{X:Cx}
def rInU(K:qA2)(neg:Bool):R2:=fun x y H Q=>match y with
 |.ref p=>∃xs,(SqL K H p xs\/SqT K H p xs)/\zDZ x=true/\xs.all zDZ=true/\Q (.bl (if neg then !inV x xs else inV x xs)) H
 |.str j=>match x with
  |.str i=>Q (.bl (if neg then !(!(qJq j i 0 j.length 1).isEmpty)else !(qJq j i 0 j.length 1).isEmpty)) H
  |_=>False
 |_=>False
def u_in{K:qA2}(hK:X.K=K:=by rfl):OpR X (compareOp .In) (rInU K false):=by
 subst hK;intro pins s σ H x y v u Q I rx ry h;cases y with
 |ref p=>
  obtain⟨xs,h1,h2,h3,h4⟩:=h;exact zSN pins s σ H _ _ v u Q I rx ry ⟨p,xs,rfl,h1,h2,h3,h4⟩
 |str j=>
  cases x with
  |str i=>exact zSM pins s σ H _ _ v u Q I rx ry ⟨i,j,rfl,rfl,h⟩
  |_=>exact qA3 h
 |_=>exact qA3 h
def zRD{K:qA2}(hK:X.K=K:=by rfl):OpR X (compareOp .NotIn) (rInU K true):=by
 subst hK;intro pins s σ H x y v u Q I rx ry h;cases y with
 |ref p=>
  obtain⟨xs,h1,h2,h3,h4⟩:=h;exact zM6 pins s σ H _ _ v u Q I rx ry ⟨p,xs,rfl,h1,h2,h3,h4⟩
 |str j=>
  cases x with
  |str i=>exact zM5 pins s σ H _ _ v u Q I rx ry ⟨i,j,rfl,rfl,h⟩
  |_=>exact qA3 h
 |_=>exact qA3 h
end
end L2
namespace Mi
open PySem
inductive Sv where
 |i (n:Int)|s (x:Str)
inductive Sw where
 |non|bl (b:Bool)|int (i:Int)|str (x:Str)
inductive Dt where
 |non|bl (b:Bool)|int (i:Int)|str (x:Str)|lst (xs:List Dt)|tup (xs:List Dt)|scr (ns:List Int)|exc (c f:Str) (d:Dt)|ins (c:Str) (fs:List (Str×Sv))|dct (kvs:List (Sum Int Str×Sw))|fn (x:Str) (d:Dt)
mutual
def Dt.dep:Dt->Nat
 |.lst xs=>Dt.depL xs+1
 |.tup xs=>Dt.depL xs+1
 |.scr _=>1000
 |.exc _ _ _=>1000
 |.fn _ _=>1000
 |.ins _ _=>1000
 |.dct _=>1000
 |_=>0
def Dt.depL:List Dt->Nat
 |[]=>0
 |x::r=>max x.dep (Dt.depL r)
end
mutual
def Dt.eq:Dt->Dt->Bool
 |.non,.non=>true
 |.bl a,.bl b=>a==b
 |.bl a,.int b=>(if a then 1 else 0)==b
 |.int a,.bl b=>a==(if b then 1 else 0)
 |.int a,.int b=>a==b
 |.str a,.str b=>a==b
 |.lst xs,.lst ys=>Dt.eqL xs ys
 |.tup xs,.tup ys=>Dt.eqL xs ys
 |_,_=>false
def Dt.eqL:List Dt->List Dt->Bool
 |[],[]=>true
 |x::r,y::q=>Dt.eq x y&&Dt.eqL r q
 |_,_=>false
end
structure Xn where
 cls:Str
 f:Str
 d:Dt
abbrev R(α:Type):=Option (Except Xn α)
def okR{α:Type}(a:α):R α:=some (.ok a)
def zA3{α β:Type}(x:R α)(f:α->R β):R β:=match x with
 |none=>none
 |some (.error e)=>some (.error e)
 |some (.ok a)=>f a
def optR{α:Type}(o:Option α):R α:=match o with
 |none=>none
 |some a=>okR a
@[simp] theorem zA0{α β:Type}(a:α)(f:α->R β):zA3 (okR a) f=f a:=rfl
@[simp] theorem zA9{α β:Type}(f:α->R β):zA3 none f=none:=rfl
@[simp] theorem zAC{α β:Type}(e:Xn)(f:α->R β):zA3 (some (.error e)) f=some (.error e):=rfl
@[simp] theorem zA8{α:Type}(a:α):optR (some a)=okR a:=rfl
@[simp] theorem zAB{α:Type}:optR (none:Option α)=none:=rfl
abbrev Rh:=List (Option Dt)
abbrev Sl:=Dt×Nat
abbrev Ro:=List (Option Sl)
abbrev EM:=Rh->R Dt
abbrev TM:=Rh->R Bool
abbrev AM:=Rh->R (List Dt)
abbrev FM:=List Dt->R Dt
def ixA(n:Nat)(i:Int):Option Nat:=if 0<=i then(if i<n then some i.toNat else none)else if -(n:Int)<=i then some (i+n).toNat else none
def itA{α:Type}(xs:List α)(i:Int):Option α:=(ixA xs.length i).bind fun j=>xs[j]?
def addD:Dt->Dt->Option Dt
 |.int i,.int j=>some (.int (i+j))
 |.str i,.str j=>@ite _ (i.length+j.length<=100000) (qA6 _) (some (.str (i++j))) none
 |.lst xs,.lst ys=>@ite _ (xs.length+ys.length<=100000) (qA6 _) (some (.lst (xs++ys))) none
 |_,_=>none
def subD:Dt->Dt->Option Dt
 |.int i,.int j=>some (.int (i-j))
 |_,_=>none
def mulD:Dt->Dt->Option Dt
 |.int i,.int j=>@ite _ (((-18446744073709551616<i/\i<18446744073709551616)\/(-18446744073709551616<j/\j<18446744073709551616))\/i.natAbs.log2+j.natAbs.log2<=67108864) (qA6 _) (some (.int (i*j))) none
 |_,_=>none
def divD:Dt->Dt->Option Dt
 |.int i,.int j=>@ite _ (0<j/\j<1000000000000000000000000) (qA6 _) (some (.int (i/j))) none
 |_,_=>none
def modD:Dt->Dt->Option Dt
 |.int i,.int j=>if 0<j then some (.int (i%j))else none
 |_,_=>none
def powD:Dt->Dt->Option Dt
 |.int i,.int j=>@ite _ (0<=j/\j<=1000000/\i.natAbs<18446744073709551616) (qA6 _) (some (.int (i ^ j.toNat))) none
 |_,_=>none
def negD:Dt->Option Dt
 |.int i=>some (.int (-i))
 |_=>none
def cmpD(p:Int->Int->Bool):Dt->Dt->Option Dt
 |.int i,.int j=>some (.bl (p i j))
 |_,_=>none
def eqD(x y:Dt):Option Dt:=if x.dep<=40/\y.dep<=40 then some (.bl (Dt.eq x y))else none
def neD(x y:Dt):Option Dt:=if x.dep<=40/\y.dep<=40 then some (.bl (!Dt.eq x y))else none
def zEO:Dt->Bool
 |.non=>true
 |_=>false
def isD(x y:Dt):Option Dt:=match y with
 |.non=>some (.bl (zEO x))
 |_=>none
def zgG(x y:Dt):Option Dt:=match y with
 |.non=>some (.bl (!zEO x))
 |_=>none
def ixD:Dt->Dt->Option Dt
 |.lst xs,.int i=>itA xs i
 |.tup xs,.int i=>itA xs i
 |.scr ns,.int i=>(itA ns i).map .int
 |.str z,.int i=>@ite _ (z.length<=100000) (qA6 _) ((itA z.cps.toList i).map fun c=>.str ⟨#[c]⟩) none
 |_,_=>none
def lenD:List Dt->Option Dt
 |[.lst xs]=>some (.int xs.length)
 |[.tup xs]=>some (.int xs.length)
 |[.scr ns]=>some (.int ns.length)
 |[.str z]=>@ite _ (z.length<=100000) (qA6 _) (some (.int z.length)) none
 |_=>none
def listD:List Dt->Option Dt
 |[.lst xs]=>some (.lst xs)
 |[.tup xs]=>some (.lst xs)
 |[.scr ns]=>some (.lst (ns.map .int))
 |_=>none
def nums(lo:Int)(n:Nat):List Dt:=(qA4 n).map fun i:Nat=>.int (lo+(i:Int))
def tyD:Dt->String
 |.non=>"NoneType"
 |.bl _=>"bool"
 |.int _=>"int"
 |.str _=>"str"
 |.lst _=>"list"
 |.tup _=>"tuple"
 |.scr _=>""
 |.exc _ _ _=>""
 |.fn _ _=>""
 |.ins _ _=>""
 |.dct _=>""
def isiD(n:String)(x:Dt):Option Dt:=if tyD x = "" then none else some (.bl (tyD x==n||(tyD x == "bool" && n == "int")))
def boolsD:List Dt->Option (List Bool)
 |[]=>some []
 |.bl b::r=>(boolsD r).map (b::·)
 |_::_=>none
def allD:List Dt->Option Dt
 |[.lst xs]=>(boolsD xs).map fun bs=>.bl (bs.all id)
 |_=>none
def anyD:List Dt->Option Dt
 |[.lst xs]=>(boolsD xs).map fun bs=>.bl (bs.any id)
 |_=>none
def intD:List Dt->Option Dt
 |[.int i]=>some (.int i)
 |[.bl k]=>some (.int (if k=true then 1 else 0))
 |_=>none
def maxD:List Dt->Option Dt
 |[.int i,.int j]=>some (.int (if j>i then j else i))
 |_=>none
def minD:List Dt->Option Dt
 |[.int i,.int j]=>some (.int (if j<i then j else i))
 |_=>none
def absD:List Dt->Option Dt
 |[.int i]=>some (.int (if i<0 then -i else i))
 |_=>none
def hasD(x:Dt)(ys:List Dt):Option Bool:=if x.dep=0/\Dt.depL ys=0 then some (ys.any fun y=>Dt.eq y x)else none
def inD(ng:Bool)(x y:Dt):Option Dt:=match y with
 |.lst ys=>(hasD x ys).map fun b=>.bl (if ng=true then !b else b)
 |.tup ys=>(hasD x ys).map fun b=>.bl (if ng=true then !b else b)
 |.str z=>match x with
  |.str y=>match y.cps.toList with
   |[c]=>some (.bl (if ng=true then !decide (c∈z.cps.toList)else decide (c∈z.cps.toList)))
   |_=>none
  |_=>none
 |_=>none
def cutIx(n d:Nat):Option Int->Nat
 |none=>d
 |some v=>if v<0 then(v+(n:Int)).toNat else min v.toNat n
def cutA{α:Type}(xs:List α)(lo hi:Option Int):List α:=(xs.drop (cutIx xs.length 0 lo)).take (cutIx xs.length xs.length hi-cutIx xs.length 0 lo)
def slD:Dt->Option Int->Option Int->Option Dt
 |.lst xs,lo,hi=>some (.lst (cutA xs lo hi))
 |.str z,lo,hi=>@ite _ (z.length<=100000) (qA6 _) (some (.str ⟨(cutA z.cps.toList lo hi).toArray⟩)) none
 |_,_,_=>none
abbrev OM:=Rh->R (Option Int)
def oNo:OM:=fun _=>okR none
def oE(e:Rh->R Dt):OM:=fun ρ=>zA3 (e ρ) fun d=>match d with
 |.int i=>okR (some i)
 |_=>none
def eSl(a:Rh->R Dt)(lo hi:OM):Rh->R Dt:=fun ρ=>zA3 (a ρ) fun x=>zA3 (lo ρ) fun l=>zA3 (hi ρ) fun h=>optR (slD x l h)
def posC(c:Nat):List Nat->Option Nat
 |[]=>none
 |x::r=>if x=c then some 0 else(posC c r).map (·+1)
def findD(x:Dt)(ys:List Dt):Option Dt:=match x,ys with
 |.str z,[.str y]=>match y.cps.toList with
  |[c]=>some (.int (match posC c z.cps.toList with|some i=>(i:Int)|none=>-1))
  |_=>none
 |_,_=>none
def countD(x:Dt)(ys:List Dt):Option Dt:=match x,ys with
 |.str z,[.str y]=>match y.cps.toList with
  |[c]=>some (.int (z.cps.toList.count c:Nat))
  |_=>none
 |_,_=>none
def strsD:List Dt->Option (List Str)
 |[]=>some []
 |.str z::r=>(strsD r).map (z::·)
 |_::_=>none
def joinD(x:Dt)(ys:List Dt):Option Dt:=match x,ys with
 |.str z,[.lst ds]=>match strsD ds with
  |some zs=>@ite _ ((zs.map (·.length)).sum+zs.length*z.length<=100000) (qA6 _) (some (.str (qLg z zs))) none
  |none=>none
 |_,_=>none
def zPK:Dt->Bool
 |.str _=>true
 |_=>false
def eMt(f:Dt->List Dt->Option Dt)(a:Rh->R Dt)(am:Rh->R (List Dt)):Rh->R Dt:=fun ρ=>zA3 (a ρ) fun x=>if zPK x=true then zA3 (am ρ) fun xs=>optR (f x xs)else none
def signsD(z:Str):List Dt:=z.cps.toList.map fun c=>.str ⟨#[c]⟩
def eC(d:Dt):EM:=fun _=>okR d
def eV(i:Nat):EM:=fun ρ=>match ρ[i]? with
 |some (some d)=>okR d
 |_=>none
def eB(f:Dt->Dt->Option Dt)(a b:EM):EM:=fun ρ=>zA3 (a ρ) fun x=>zA3 (b ρ) fun y=>optR (f x y)
def eU(f:Dt->Option Dt)(a:EM):EM:=fun ρ=>zA3 (a ρ) fun x=>optR (f x)
def eAnd(a b:EM):EM:=fun ρ=>zA3 (a ρ) fun x=>match x with
 |.bl k=>if k=true then b ρ else okR (.bl false)
 |_=>none
def eOr(a b:EM):EM:=fun ρ=>zA3 (a ρ) fun x=>match x with
 |.bl k=>if k=true then okR (.bl true)else b ρ
 |_=>none
def eNot(a:EM):EM:=fun ρ=>zA3 (a ρ) fun x=>match x with
 |.bl k=>okR (.bl (!k))
 |_=>none
def eChain(p q:Dt->Dt->Option Dt)(a b c:EM):EM:=fun ρ=>zA3 (a ρ) fun x=>zA3 (b ρ) fun y=>zA3 (optR (p x y)) fun z=>match z with
 |.bl k=>if k=true then zA3 (c ρ) fun w=>optR (q y w)else okR (.bl false)
 |_=>none
def eIf(c:TM)(a b:EM):EM:=fun ρ=>zA3 (c ρ) fun k=>if k=true then a ρ else b ρ
def aNil:AM:=fun _=>okR []
def aCons(e:EM)(r:AM):AM:=fun ρ=>zA3 (e ρ) fun x=>zA3 (r ρ) fun xs=>okR (x::xs)
def eLst(a:AM):EM:=fun ρ=>zA3 (a ρ) fun xs=>@ite _ (xs.length<=100000) (qA6 _) (okR (.lst xs)) none
def eTup(a:AM):EM:=fun ρ=>zA3 (a ρ) fun xs=>@ite _ (xs.length<=100000) (qA6 _) (okR (.tup xs)) none
def eCall(f:FM)(a:AM):EM:=fun ρ=>zA3 (a ρ) f
def eBi(f:List Dt->Option Dt)(a:AM):EM:=fun ρ=>zA3 (a ρ) fun xs=>optR (f xs)
def eIsi(n:String)(a:EM):EM:=fun ρ=>zA3 (a ρ) fun x=>optR (isiD n x)
def tB(a:EM):TM:=fun ρ=>zA3 (a ρ) fun x=>match x with
 |.bl k=>okR k
 |_=>none
def tM(a:EM):TM:=fun ρ=>zA3 (a ρ) fun x=>match x with
 |.bl k=>okR k
 |.int i=>okR (i != 0)
 |.non=>okR false
 |_=>none
def tAn(a b:TM):TM:=fun ρ=>zA3 (a ρ) fun k=>if k=true then b ρ else okR false
def tOr(a b:TM):TM:=fun ρ=>zA3 (a ρ) fun k=>if k=true then okR true else b ρ
def tNo(a:TM):TM:=fun ρ=>zA3 (a ρ) fun k=>okR (!k)
def tYes:TM:=fun _=>okR true
abbrev IM:=Rh->R (List Dt)
def iSq(e:EM):IM:=fun ρ=>zA3 (e ρ) fun d=>match d with
 |.lst xs=>okR xs
 |.tup xs=>okR xs
 |.scr ns=>okR (ns.map .int)
 |.str z=>okR (signsD z)
 |_=>none
def iR1(e:AM):IM:=fun ρ=>zA3 (e ρ) fun vs=>match vs with
 |[.int j]=>@ite _ (-4611686018427387904<=j/\j<4611686018427387904) (qA6 _) (okR (nums 0 j.toNat)) none
 |_=>none
def enumD(n:Nat):List Dt->List Dt
 |[]=>[]
 |x::r=>.tup [.int n,x]::enumD (n+1) r
def iEn(e:AM):IM:=fun ρ=>zA3 (e ρ) fun vs=>match vs with
 |[.lst xs]=>okR (enumD 0 xs)
 |_=>none
def zipD:List Dt->List Dt->List Dt
 |x::r,y::q=>.tup [x,y]::zipD r q
 |_,_=>[]
def iZi(e:AM):IM:=fun ρ=>zA3 (e ρ) fun vs=>match vs with
 |[.lst xs,.lst ys]=>okR (zipD xs ys)
 |_=>none
inductive Tg where
 |one (i:Nat)
 |tup (is:List Nat)
def zAV:Tg->Dt->Option (List (Nat×Dt))
 |.one i,d=>some [(i,d)]
 |.tup is,.tup ds=>if ds.length=is.length then some (is.zip ds)else none
 |.tup _,_=>none
def Tg.idx:Tg->List Nat
 |.one i=>[i]
 |.tup is=>is
def zAO:Rh->List (Nat×Dt)->Rh
 |ρ,[]=>ρ
 |ρ,(i,d)::r=>zAO (ρ.set i (some d)) r
def zB0:Ro->List (Nat×Dt)->Ro
 |ρ,[]=>ρ
 |ρ,(i,d)::r=>zB0 (ρ.set i (some (d,0))) r
def compGo(ρ:Rh)(k:Nat)(tg:Tg)(c:TM)(e:EM):List Dt->List Dt->R (List Dt)
 |[],acc=>okR acc
 |d::ds,acc=>match zAV tg d with
  |none=>none
  |some bs=>zA3 (c (zAO (ρ++qA8 k none) bs)) fun b=>if b=true then zA3 (e (zAO (ρ++qA8 k none) bs)) fun x=>compGo ρ k tg c e ds (acc++[x])else compGo ρ k tg c e ds acc
def eComp(it:IM)(k:Nat)(tg:Tg)(c:TM)(e:EM):EM:=fun ρ=>zA3 (it ρ) fun ds=>@ite _ (ds.length<=100000/\(tg.idx.all fun i=>decide (ρ.length<=i))=true) (qA6 _) (zA3 (compGo ρ k tg c e ds []) fun es=>okR (.lst es)) none
inductive Out where
 |nx (ρ:Ro)|rt (d:Dt)|bk (ρ:Ro)|ct (ρ:Ro)
abbrev SM:=Ro->R Out
def full(ρ:Ro):Rh:=ρ.map fun o=>o.map qIh
def frz(ρ:Ro):Rh:=ρ.map fun o=>match o with
 |some (d,n)=>if n=0\/d.dep=0 then some d else none
 |none=>none
def frz1(i:Nat)(ρ:Ro):Ro:=match ρ[i]? with
 |some (some (d,_))=>ρ.set i (some (d,0))
 |_=>ρ
def frzAt:List Nat->Ro->Ro
 |[],ρ=>ρ
 |i::r,ρ=>frzAt r (frz1 i ρ)
def sNil:SM:=fun ρ=>okR (.nx ρ)
def sSeq(a b:SM):SM:=fun ρ=>zA3 (a ρ) fun o=>match o with
 |.nx ρ'=>b ρ'
 |o=>okR o
def zcS:SM:=fun _=>none
def zcT:SM:=fun ρ=>okR (.bk ρ)
def zfV:SM:=fun ρ=>okR (.ct ρ)
def sIf(c:TM)(a b:SM):SM:=fun ρ=>zA3 (c (full ρ)) fun k=>if k=true then a ρ else b ρ
def zfT(e:EM):SM:=fun ρ=>zA3 (e (full ρ)) fun _=>okR (.nx ρ)
def sSet(i n:Nat)(vs:List Nat)(e:EM):SM:=fun ρ=>zA3 (e (full ρ)) fun d=>
 if d.dep<=n then okR (.nx (ρ.set i (some (d,n))))else zA3 (e (frz (frzAt vs ρ))) fun d'=>okR (.nx ((frzAt vs ρ).set i (some (d',n))))
def sRet(L n:Nat)(vs:List Nat)(e:EM):SM:=fun ρ=>zA3 (e (full ρ)) fun d=>
 if d.dep<=n/\d.dep<=L then okR (.rt d)else if n=L then zA3 (e (frz (frzAt vs ρ))) fun d'=>okR (.rt d')else none
def zfS:SM:=fun _=>okR (.rt .non)
def sRetV(L i:Nat):SM:=fun ρ=>match ρ[i]? with
 |some (some (d,k))=>if k=L\/L=0\/(d.dep<=k/\d.dep<=L/\k<1000)then okR (.rt d)else none
 |_=>none
def sApp(i n:Nat)(e:EM):SM:=fun ρ=>match ρ[i]? with
 |some (some (.lst ds,k+1))=>zA3 (e (full ρ)) fun d=>@ite _ (ds.length<=100000/\d.dep<=n/\d.dep<=k) (qA6 _) (okR (.nx (ρ.set i (some (.lst (ds++[d]),k+1))))) none
 |_=>none
def sPop(j i:Nat)(e:EM):SM:=fun ρ=>match ρ[i]? with
 |some (some (.lst ds,k+1))=>zA3 (e (full ρ)) fun d=>match d with
  |.int z=>match ixA ds.length z with
   |some q=>match ds[q]? with
    |some c=>@ite _ (i≠j/\ds.length<=1000000) (qA6 _) (okR (.nx ((ρ.set i (some (.lst (ds.eraseIdx q),k+1))).set j (some (c,k))))) none
    |none=>none
   |none=>none
  |_=>none
 |_=>none
def sItem(i n:Nat)(e1 e2:EM):SM:=fun ρ=>zA3 (e2 (full ρ)) fun d=>match ρ[i]? with
 |some (some (.lst ds,k+1))=>zA3 (e1 (full ρ)) fun z=>match z with
  |.int z=>match ixA ds.length z with
   |some q=>if d.dep<=n/\d.dep<=k then okR (.nx (ρ.set i (some (.lst (ds.set q d),k+1))))else none
   |none=>none
  |_=>none
 |_=>none
def sItem2(i n:Nat)(e0 e1 e2:EM):SM:=fun ρ=>zA3 (e2 (full ρ)) fun d=>match ρ[i]? with
 |some (some (.lst rs,k+2))=>zA3 (e0 (full ρ)) fun y=>match y with
  |.int y=>match ixA rs.length y with
   |some p=>match rs[p]? with
    |some (.lst ds)=>zA3 (e1 (full ρ)) fun z=>match z with
     |.int z=>match ixA ds.length z with
      |some q=>if d.dep<=n/\d.dep<=k then okR (.nx (ρ.set i (some (.lst (rs.set p (.lst (ds.set q d))),k+2))))else none
      |none=>none
     |_=>none
    |_=>none
   |none=>none
  |_=>none
 |_=>none
def forGo(tg:Tg)(b:SM):List Dt->SM
 |[],ρ=>okR (.nx ρ)
 |d::ds,ρ=>match zAV tg d with
  |none=>none
  |some bs=>zA3 (b (zB0 ρ bs)) fun o=>match o with
   |.nx ρ'=>forGo tg b ds ρ'
   |.ct ρ'=>forGo tg b ds ρ'
   |.bk ρ'=>okR (.nx ρ')
   |.rt d=>okR (.rt d)
def sFor(vs:List Nat)(it:IM)(tg:Tg)(b:SM):SM:=fun ρ=>zA3 (it (frz (frzAt vs ρ))) fun ds=>forGo tg b ds (frzAt vs ρ)
def sForR(it:IM)(i:Nat)(b:SM):SM:=fun ρ=>zA3 (it (full ρ)) fun ds=>forGo (.one i) b ds ρ
def whGo(c:TM)(b:SM):Nat->SM
 |0,_=>none
 |m+1,ρ=>zA3 (c (full ρ)) fun k=>if k=true then zA3 (b ρ) fun o=>match o with
   |.nx ρ'=>whGo c b m ρ'
   |.ct ρ'=>whGo c b m ρ'
   |.bk ρ'=>okR (.nx ρ')
   |.rt d=>okR (.rt d)
  else okR (.nx ρ)
def WNs:{ n:Nat // n=1000000 }:=Classical.choice ⟨⟨1000000,rfl⟩⟩
def WN:Nat:=WNs.val
def zgN:WN=1000000:=WNs.property
def sWhile(c:TM)(b:SM):SM:=fun ρ=>whGo c b WN ρ
def startO(n:Nat)(ds:List Dt):Ro:=ds.map (fun d=>some (d,0))++qA8 (n-ds.length) none
def endF:Out->R Dt
 |.nx _=>okR .non
 |.rt d=>okR d
 |_=>none
def runF(P n:Nat)(b:SM):FM:=fun ds=>if ds.length=P then zA3 (b (startO n ds)) endF else none
end Mi
namespace L2
open PySem PySem.Spec PyProof.Rows
def zZ7(n d:Nat)(o:Option Int)(hd:d<=n):HT.sIx n d o<=n:=by
 cases o with
 |none=>exact hd
 |some v=>
  show(if v<0 then(v+(n:Int)).toNat else min v.toNat n)<=n
  split<;>lia
def zQW(lo hi:Option Int)(n:Nat):qJt lo hi 1 n=(qA4 (HT.sIx n n hi-HT.sIx n 0 lo)).map fun k=>HT.sIx n 0 lo+k:=by
 unfold qJt sliceRange;have c1:∀(o:Option Int)(d:Nat),(match o with|none=>(d:Int)|some i=>(if(1:Int)>0 then max 0 (min (if i<0 then i+(n:Int)else i) n)else max (-1) (min (if i<0 then i+(n:Int)else i) (n-1))))=((HT.sIx n d o:Nat):Int):=by
  intro o d;cases o with
  |none=>rfl
  |some v=>
   show _=(((if v<0 then(v+(n:Int)).toNat else min v.toNat n:Nat)):Int)
   dsimp only;rw[if_pos (by decide)]
   split<;>lia
 dsimp only;rw[if_pos (show(1:Int)>0 by decide),if_pos (show(1:Int)>0 by decide),if_pos (show(1:Int)>0 by decide)];have e1:=c1 lo 0;have e2:=c1 hi n;rw[show((0:Nat):Int)=0 by rfl]at e1;have h1:∀a b:Int,a=((HT.sIx n 0 lo:Nat):Int)->b=((HT.sIx n n hi:Nat):Int)->(qA4 ((if a<b then(b-a+1-1)/1 else 0).toNat)).map (fun k:Nat=>(a+1*(k:Int)).toNat)=(qA4 (HT.sIx n n hi-HT.sIx n 0 lo)).map fun k=>HT.sIx n 0 lo+k:=by
  intro a b ha hb;subst ha hb;have e:(if((HT.sIx n 0 lo:Nat):Int)<((HT.sIx n n hi:Nat):Int)then(((HT.sIx n n hi:Nat):Int)-((HT.sIx n 0 lo:Nat):Int)+1-1)/1 else 0).toNat=HT.sIx n n hi-HT.sIx n 0 lo:=by
   split
   ·rw[Int.ediv_one];lia
   ·lia
  rw[e];refine qAs fun k _=>?_
  lia
 exact h1 _ _ e1 e2
def zS9:∀(xs:List Nat)(a k:Nat),a+k<=xs.length->((qA4 k).map fun j=>a+j).filterMap (xs[·]?)=(xs.drop a).take k:=by
 intro xs a k h;induction k with
 |zero=>simp
 |succ k ih=>
  rw[qD6,qBl,List.filterMap_append,ih (by lia),qGx]
  congr 1;have:a+k<xs.length:=by lia
  simp[List.getElem?_drop,this]
def zVK(z:Str)(lo hi:Option Int):qNb z lo hi=⟨(Mi.cutA z.cps.toList lo hi).toArray⟩:=by
 obtain⟨⟨xs⟩⟩:=z;have hl:(⟨⟨xs⟩⟩:Str).length=xs.length:=rfl;unfold qNb;rw[zQW,hl];have e0:∀o d,Mi.cutIx xs.length d o=HT.sIx xs.length d o:=fun o d=>by cases o<;>rfl
 have hb:=zZ7 xs.length xs.length hi (qAa _);have ha:=zZ7 xs.length 0 lo (qAn _);have hc:Mi.cutA xs lo hi=(xs.drop (HT.sIx xs.length 0 lo)).take (HT.sIx xs.length xs.length hi-HT.sIx xs.length 0 lo):=by
  unfold Mi.cutA;rw[e0,e0]
 show _=(⟨(Mi.cutA xs lo hi).toArray⟩:Str);rw[hc];split
 ·rename_i h
  have h':HT.sIx xs.length xs.length hi-HT.sIx xs.length 0 lo=xs.length:=by simpa using h
  have a0:HT.sIx xs.length 0 lo=0:=by lia
  rw[h',a0,qEu,qEg]
 ·by_cases hle:HT.sIx xs.length 0 lo<=HT.sIx xs.length xs.length hi
  ·have:=zS9 xs (HT.sIx xs.length 0 lo) (HT.sIx xs.length xs.length hi-HT.sIx xs.length 0 lo) (by lia)
   rw[<- this];simp
  ·rw[show HT.sIx xs.length xs.length hi-HT.sIx xs.length 0 lo=0 by lia];simp
section
variable{X:Cx}
def rSlU(K:qA2):V->Option Int->Option Int->Hp->VK->Prop:=fun x lo hi H Q=>match x with
 |.str z=>z.length<=sizeLine/\Q (.str ⟨(Mi.cutA z.cps.toList lo hi).toArray⟩) H
 |.ref a=>∃xs,SqL K H a xs/\∀p,H p=none->Q (.ref p) (upd H p (.lst (cutV xs lo hi)))
 |_=>False
def zSI{v:Value}{o:Option Int}(h:IsPart v o):∃l:Option (Int×Tok),v=partValue l/\l.map (·.1)=o:=by
 cases h with
 |none=>exact⟨none,rfl,rfl⟩
 |int i t=>exact⟨some (i,t),rfl,rfl⟩
def u_sl{K:qA2}(hK:X.K=K:=by rfl):SlR X (rSlU K):=by
 subst hK;intro pins s σ H x v vl vu lo hi sl Q I rx hs pl pu h;cases x with
 |ref a=>
  obtain⟨xs,h1,h2⟩:=h;exact zZS pins s σ H _ v vl vu lo hi sl Q I rx hs pl pu ⟨a,xs,rfl,h1,h2⟩
 |str z=>
  obtain⟨hz,q⟩:=h;obtain⟨t,rfl⟩:=rx;obtain⟨l,rfl,el⟩:=zSI pl;obtain⟨u,rfl,eu⟩:=zSI pu;obtain⟨o,g1,g2,g3⟩:=hs;refine⟨"str",_,F.slot_str_getitem.lookup,typeIs_str _ _ _,wpAny_getItem_str_slice (l:=l) (u:=u) (st:=none) ⟨o,g1,g2,g3⟩ rfl ?_⟩;have hp:(if((1:Int)==1&&(qJt lo hi 1 z.length).length==z.length)=true then Made.val (.str z t)else Made.str ⟨((qJt lo hi 1 z.length).filterMap (z.cps[·]?)).toArray⟩).post (EP X pins σ Q) s:=by
   refine post_val_or_str ⟨qAq (Txt.slice_le z lo hi) hz,fun t' k=>?_⟩;refine⟨.str (qNb z lo hi),H,I.tok _,⟨_,rfl⟩,?_⟩;rw[zVK];exact q
  unfold sliceMade slicePicked;rw[el,eu];exact hp
 |_=>exact qA3 h
end
def Its(z:Str):It:=⟨fun i _=>i<z.cps.size,fun i H x H'=>H'=H/\∃c,z.cps[i]?=some c/\x=.str ⟨#[c]⟩,fun i _=>z.cps.size<=i⟩
def zVF{P:qJ8}{w:World}{K:qA2}{tg:Expr}(z:Str)(t:Tok)(it:Addr)(ty:String)(hty:ty=strIterType z):Turn P w K tg (Its z) [it] it (fun i h=>h.IsStrIter it ty z t i) where
 mem:=by simp
 obj:=fun i h st b hb=>by
  have e:b=it:=by simpa using hb
  subst e;obtain⟨o,e,c,d⟩:=st;exact⟨o,e,fun v z=>by rw[d]at z;cases z⟩
 keep:=fun i h h' st k=>by obtain⟨o,ho,r⟩:=st;exact⟨o,k it (by simp) o ho,r⟩
 item:=by
  intro X hP hw hK hc i pins s σ H E I hf st hg;subst hP hw hK;have hi:i<z.cps.size:=hg;have hx:z.cps[i]?=some z.cps[i]:=qEv hi;obtain⟨f0,f1,f2,f3,f4,f5⟩:=hf it (by simp);have fin:∀h',h'.IsStrIter it ty z t (i+1)->qKw it s.heap h'->∃u,some (qL1 ⟨#[z.cps[i]]⟩ s.toks)=some u/\wpAny (model X.prog X.w) X.A (letOwnedTupleGo tg (.ref it) u) (fun _ s2=>∃x H',Inv X pins σ H' s2/\RelV x u/\(Its z).yld i H x H'/\s2.heap.IsStrIter it ty z t (i+1)/\∀b∈[it],H' b=none) E { s with heap:=h',toks:=s.toks+1 }:=by
   intro h' st' sb;have I1:Inv X pins σ H { s with heap:=h',toks:=s.toks+1 }:=I.turned (t':=s.toks+1) (fun b o hb e=>(sb.2 b hb).trans e) f0 f1 f3 f4 f5;obtain⟨o,e,c,d⟩:=id st';refine⟨_,rfl,zX6 (s:={ s with heap:=h',toks:=s.toks+1 }) e c d ?_ ⟨.str ⟨#[z.cps[i]]⟩,H,I1,⟨_,rfl⟩,⟨rfl,_,hx,rfl⟩,st',fun b hb=>(hf b hb).1⟩⟩;rw[hty];unfold strIterType;split<;>decide
  cases ha:z.cps.all (· < 128)
  ·have e:ty = "str_iterator":=by rw[hty];unfold strIterType;rw[ha];rfl
   subst e;exact wpAny_pyNext_wide_item st hx fun h' a b=>fin h' a b
  ·have e:ty = "str_ascii_iterator":=by rw[hty];unfold strIterType;rw[ha];rfl
   subst e;exact wpAny_pyNext_ascii_item st hx fun h' a b=>fin h' a b
 done:=by
  intro X hP hw hK hc i pins s σ H E I hf st hg;subst hP hw hK;have hx:z.cps[i]?=none:=Array.getElem?_eq_none hg;obtain⟨f0,f1,f2,f3,f4,f5⟩:=hf it (by simp);have fin:∀h',qLu it s.heap h'->(none:Option Value)=none/\Inv X pins σ H { s with heap:=h' }:=fun h' eb=>⟨rfl,I.turned (t':=s.toks) (fun b o hb e=>eb b o hb e) f0 f1 f3 f4 f5⟩
  cases ha:z.cps.all (· < 128)
  ·have e:ty = "str_iterator":=by rw[hty];unfold strIterType;rw[ha];rfl
   subst e;exact wpAny_pyNext_wide_end (I.ok.hd hc) st hx fun h' a=>fin h' a
  ·have e:ty = "str_ascii_iterator":=by rw[hty];unfold strIterType;rw[ha];rfl
   subst e;exact wpAny_pyNext_ascii_end (I.ok.hd hc) st hx fun h' a=>fin h' a
 self:=fun A i s Q E st h=>by
  cases ha:z.cps.all (· < 128)
  ·have e:ty = "str_iterator":=by rw[hty];unfold strIterType;rw[ha];rfl
   subst e;exact wpAny_pyIter_striter_wide st h
  ·have e:ty = "str_ascii_iterator":=by rw[hty];unfold strIterType;rw[ha];rfl
   subst e;exact wpAny_pyIter_striter_ascii st h
section
variable{X:Cx}
def iAny(K:qA2)(tl:TE):TI:=fun σ H R=>tl σ H fun x H1=>match x with
 |.ref a=>(∃xs,SqL K H1 a xs)/\R (Itl K a) H1\/(∃xs,SqT K H1 a xs)/\R (Itt K a) H1
 |.str z=>R (Its z) H1
 |_=>False
def zCD{K:qA2}{tg l:Expr}{tl:TE}(hl:PE X l tl)(hK:X.K=K:=by rfl):PI X tg l (iAny K tl):=by
 subst hK;intro pins s σ H R I h;refine thn (hl pins s σ H _ I h) fun v s1 z0=>?_
 obtain⟨x,H1,I1,r1,q1⟩:=z0;cases x with
 |ref a=>
  cases r1;rcases q1 with⟨⟨xs,hq⟩,q⟩|⟨⟨xs,hq⟩,q⟩
  ·obtain⟨its,rv,p,hz⟩:=I1.list hq;refine wpAny_pyIter_list p.isList ?_;refine⟨s1.heap.objs.size,[s1.heap.objs.size],_,_,H1,rfl,I1.kept (t':=s1.toks) fun b o e=>qJ4 _ e,zRE a _,⟨_,qJ7 _ rfl,rfl,rfl⟩,fun b hb=>?_,q⟩;have e:b=s1.heap.objs.size:=by simpa using hb
   subst e;exact I1.fpOk (qAa _) (I1.hok.fresh (qAa _))
  ·obtain⟨its,rv,p,hz⟩:=I1.tuple hq;refine wpAny_pyIter_tuple (show s1.heap.IsTuple a its.toArray from p) ?_;refine⟨s1.heap.objs.size,[s1.heap.objs.size],_,_,H1,rfl,I1.kept (t':=s1.toks) fun b o e=>qJ4 _ e,zQ3 a _,⟨_,qJ7 _ rfl,rfl,rfl⟩,fun b hb=>?_,q⟩;have e:b=s1.heap.objs.size:=by simpa using hb
   subst e;exact I1.fpOk (qAa _) (I1.hok.fresh (qAa _))
 |str z=>
  obtain⟨t,rfl⟩:=r1;refine wpAny_pyIter_strU ?_;refine⟨s1.heap.objs.size,[s1.heap.objs.size],_,_,H1,rfl,I1.kept (t':=s1.toks) fun b o e=>qJ4 _ e,zVF z t _ _ rfl,⟨_,qJ7 _ rfl,rfl,rfl⟩,fun b hb=>?_,q1⟩;have e:b=s1.heap.objs.size:=by simpa using hb
  subst e;exact I1.fpOk (qAa _) (I1.hok.fresh (qAa _))
 |_=>exact qA3 q1
def zeP:V->List V->Hp->VK->Prop:=fun x vs H Q=>match x,vs with
 |.str z,[.str y]=>Q (.int (qN6 z y)) H
 |_,_=>False
def zFG:MtR X "str.find" zeP:=by
 intro pins s σ H x vs v us Q I rx rv h;cases x with
 |str z=>
  cases vs with
  |nil=>exact qA3 h
  |cons y t=>
   cases y with
   |str y=>
    cases t with
    |nil=>
     obtain⟨t,rfl⟩:=rx;obtain⟨u,rfl,ru⟩:=zCX rv;obtain⟨t2,rfl⟩:=ru;exact SC.find ⟨.int _,H,I.tok _,⟨_,rfl⟩,h⟩
    |cons _ _=>exact qA3 h
   |_=>exact qA3 h
 |_=>exact qA3 h
def zZ9:V->List V->Hp->VK->Prop:=fun x vs H Q=>match x,vs with
 |.str z,[.str y]=>Q (.int (qNc z y)) H
 |_,_=>False
def zSY:MtR X "str.count" zZ9:=by
 intro pins s σ H x vs v us Q I rx rv h;cases x with
 |str z=>
  cases vs with
  |nil=>exact qA3 h
  |cons hd1 tl1=>
   cases hd1 with
   |str y=>
    cases tl1 with
    |nil=>
     obtain⟨t,rfl⟩:=rx;obtain⟨u,rfl,ru⟩:=zCX rv;obtain⟨t2,rfl⟩:=ru;exact SC.count ⟨.int _,H,I.tok _,⟨_,rfl⟩,h⟩
    |cons _ _=>exact qA3 h
   |_=>exact qA3 h
 |_=>exact qA3 h
def zLM:∀{ys:List Str}{us:List Value},Vals (ys.map V.str) us->qL3 us ys
 |[],_,.nil=>.nil
 |y::ys,_,.cons r t=>by obtain⟨k,rfl⟩:=r;exact .cons y k (zLM t)
def ze7:V->List V->Hp->VK->Prop:=fun x vs H Q=>match x,vs with
 |.str z,[.ref a]=>∃ys:List Str,H a=some (.lst (ys.map V.str))/\(ys.map (·.length)).sum+ys.length*z.length<=16777216/\Q (.str (qLg z ys)) H
 |_,_=>False
def zKG:MtR X "str.join" ze7:=by
 intro pins s σ H x vs v us Q I rx rv h;cases x with
 |str z=>
  cases vs with
  |nil=>exact qA3 h
  |cons hd1 tl1=>
   cases hd1 with
   |ref a=>
    cases tl1 with
    |nil=>
     obtain⟨t,rfl⟩:=rx;obtain⟨u,rfl,ru⟩:=zCX rv;cases ru;obtain⟨ys,h1,h2,h3⟩:=h;obtain⟨its,rv,hl⟩:=zAR I.hok h1;exact join_list hl (by simpa using zLM rv) h2 fun t' k=>⟨.str (qLg z ys),H,I.tok _,⟨t',by rw[eq_of_beq (join_closes (ys:=ys) (rfl:z=z))]⟩,h3⟩
    |cons _ _=>exact qA3 h
   |_=>exact qA3 h
 |_=>exact qA3 h
end
def zNL(z:Str)(c i:Nat):(i+1<=z.length/\qJs z ⟨#[c]⟩ i=true)↔z.cps.toList[i]?=some c:=by
 obtain⟨⟨xs⟩⟩:=z;unfold qJs;show(i+1<=xs.length/\((⟨xs⟩:Array Nat).extract i (i+1)==#[c])=true)↔xs[i]?=some c;constructor
 ·rintro⟨h1,h2⟩
  have h3:=congrArg qH1 (eq_of_beq h2);simp at h3;have hlt:i<xs.length:=by lia
  rw[qA1 hlt];have h4:(qJ3 1 (List.drop i xs))=[c]:=by
   have:=h3;simpa[qEw]using this
  rw[qBa hlt,qGk]at h4;exact congrArg some (qIi h4).1
 ·intro h;have hlt:i<xs.length:=(qA5.mp h).1;have he:xs[i]=c:=(qA5.mp h).2;refine⟨by lia,?_⟩
  have:(⟨xs⟩:Array Nat).extract i (i+1)=#[c]:=by
   apply Array.toList_inj.mp;simp[qEw];rw[qBa hlt];simp[he]
  rw[this];simp
def zK5(c:Nat):∀(xs:List Nat),(Mi.posC c xs=none/\∀i:Nat,xs[i]?≠some c)\/∃i:Nat,Mi.posC c xs=some i/\xs[i]?=some c/\∀j:Nat,j<i->xs[j]?≠some c
 |[]=>.inl ⟨rfl,fun i=>by simp⟩
 |x::r=>by
  rw[Mi.posC];by_cases h:x=c
  ·rw[if_pos h];exact .inr ⟨0,rfl,by simp[h],fun j hj=>by lia⟩
  ·rw[if_neg h]
   rcases zK5 c r with⟨h1,h2⟩|⟨i,h1,h2,h3⟩
   ·rw[h1];refine .inl ⟨rfl,fun i=>?_⟩;cases i with
    |zero=>simpa using h
    |succ i=>simpa using h2 i
   ·rw[h1];refine .inr ⟨i+1,rfl,by simpa using h2,fun j hj=>?_⟩;cases j with
    |zero=>simpa using h
    |succ j=>simpa using h3 j (by lia)
def zMC(z y:Str)(hi:Nat):∀(l:List Nat)(free:Nat),(∀i∈l,free<=i)->l.Pairwise (· < ·) ->
  ((forIn l ((#[]:Array Nat),free) (qK5 z y hi 1)).run.fst.toList=[]/\∀i∈l,¬(i+y.length<=hi/\qJs z y i=true)) \/
  ∃i,i∈l/\(forIn l ((#[]:Array Nat),free) (qK5 z y hi 1)).run.fst.toList=[i]/\(i+y.length<=hi/\qJs z y i=true)/\∀j∈l,j<i->¬(j+y.length<=hi/\qJs z y j=true)
 |[],free,_,_=>.inl ⟨by simp,fun i h=>by simp at h⟩
 |a::l,free,hf,hp=>by
  rw[qFt];unfold qK5;have ha:free<=a:=hf a qB4;have hp':=qBo.mp hp;by_cases hc:a+y.length<=hi/\qJs z y a=true
  ·have c1:(((#[]:Array Nat),free).fst.size<1/\((#[]:Array Nat),free).snd<=a)/\a+y.length<=hi:=⟨⟨by simp,ha⟩,hc.1⟩
   rw[if_pos ⟨c1,hc.2⟩];refine .inr ⟨a,qB4,?_,hc,fun j hj hlt=>?_⟩
   ·have stay:∀(l:List Nat)(st:Array Nat×Nat),st.fst.size=1->(forIn l st (qK5 z y hi 1)).run.fst=st.fst:=by
     intro l;induction l with
     |nil=>intro st _;rfl
     |cons b l ih=>
      intro st hs;rw[qFt];unfold qK5;rw[if_neg (by rw[hs];intro h;lia)];exact ih (st.fst,st.snd) hs
    have:=stay l (#[a],a+y.length) rfl;show(forIn l (#[a],a+y.length) (qK5 z y hi 1)).run.fst.toList=[a];rw[this]
   ·rcases qAc.mp hj with rfl|hm
    ·lia
    ·have:=hp'.1 j hm;lia
  ·have c2:¬(((((#[]:Array Nat),free).fst.size<1/\((#[]:Array Nat),free).snd<=a)/\a+y.length<=hi)/\qJs z y a=true):=fun h=>hc ⟨h.1.2,h.2⟩
   rw[if_neg c2];rcases zMC z y hi l free (fun i hi'=>hf i (qAz _ hi')) hp'.2 with⟨h1,h2⟩|⟨i,h1,h2,h3,h4⟩
   ·refine .inl ⟨h1,fun i hi'=>?_⟩
    rcases qAc.mp hi' with rfl|hm
    ·exact hc
    ·exact h2 i hm
   ·refine .inr ⟨i,qAz _ h1,h2,h3,fun j hj hlt=>?_⟩
    rcases qAc.mp hj with rfl|hm
    ·exact hc
    ·exact h4 j hm hlt
def zaF(z:Str)(c:Nat):qJq z ⟨#[c]⟩ 0 z.length 1=(match Mi.posC c z.cps.toList with|some i=>[i]|none=>[]):=by
 rw[StrLaws.occ_eq];have hlen:(⟨#[c]⟩:Str).length=1:=rfl;have hzl:z.length=z.cps.toList.length:=by simp[qN0]
 have hm:∀i,i<z.length->i∈qHe 0 (z.length+1-0):=fun i hi=>by simp[List.mem_range'];lia
 rcases zMC z ⟨#[c]⟩ z.length (qHe 0 (z.length+1-0)) 0 (fun _ _=>qAn _) (List.pairwise_lt_range' (s:=0) (n:=z.length+1-0) (step:=1) (by decide))with⟨h1,h2⟩|⟨i,h1,h2,h3,h4⟩
 ·rw[h1]
  rcases zK5 c z.cps.toList with⟨g1,_⟩|⟨j,g1,g2,_⟩
  ·rw[g1]
  ·exact absurd ((zNL z c j).mpr g2) (h2 j (hm j (by rw[hzl];exact(qA5.mp g2).1)))
 ·rw[h2];have hi:=(zNL z c i).mp h3
  rcases zK5 c z.cps.toList with⟨_,g2⟩|⟨j,g1,g2,g3⟩
  ·exact absurd hi (g2 i)
  ·rw[g1];have hj:j<z.length:=by rw[hzl];exact(qA5.mp g2).1
   rcases qF1 i j with q|q|q
   ·exact absurd hi (g3 i q)
   ·rw[q]
   ·exact absurd ((zNL z c j).mpr g2) (h4 j (hm j hj) q)
def zXC(z:Str)(c:Nat):qN6 z ⟨#[c]⟩=(match Mi.posC c z.cps.toList with|some i=>(i:Int)|none=>-1):=by
 unfold qN6;rw[zaF];cases Mi.posC c z.cps.toList<;>rfl
def zUK(z:Str)(c:Nat):qNc z ⟨#[c]⟩=(z.cps.toList.count c:Nat):=by
 rw[count_is];show cnt c z.cps.toList=_;generalize z.cps.toList=xs;induction xs with
 |nil=>rfl
 |cons x r ih=>
  rw[cnt_cons,ih,qCf];by_cases h:x=c<;>simp[h];lia
def Itz(K:qA2)(a b:Addr):It:=
 ⟨fun i H=>∃xs ys x y,SqL K H a xs/\SqL K H b ys/\xs[i]?=some x/\ys[i]?=some y,fun i H v H'=>∃T x y,v=.ref T/\H T=none/\H'=upd H T (.tup [x,y])/\(∀xs,SqL K H a xs->xs[i]?=some x)/\∀ys,SqL K H b ys->ys[i]?=some y,
  fun i H=>∃xs ys,SqL K H a xs/\SqL K H b ys/\(xs.length<=i\/ys.length<=i)⟩
def zVE{P:qJ8}{w:World}{K:qA2}{ts:List Expr}{kk:Nat}{tp:Pos}{a b z TI TO i1 i2:Addr}(D:ZipApart z TI TO i1 i2 a b) :
  Turn P w K (.Tuple ts kk tp) (Itz K a b) [z,TI,TO,i1,i2] z (fun i h=>IsZip h z TI TO .none/\IsPair h TI (.ref i1) (.ref i2)/\(∃x y,IsPair h TO x y)/\h.IsListIter i1 a i/\h.IsListIter i2 b i) where
 mem:=by simp
 obj:=fun i h st c hc=>by
  obtain⟨hz,hTI,⟨x,y,hTO⟩,h1,h2⟩:=st;have five:c=z\/c=TI\/c=TO\/c=i1\/c=i2:=by simpa using hc
  rcases five with e|e|e|e|e<;>subst e
  ·exact⟨_,hz,fun v q=>by cases q⟩
  ·exact⟨_,hTI,fun v q=>by cases q⟩
  ·exact⟨_,hTO,fun v q=>by cases q⟩
  ·obtain⟨o,e,_,d⟩:=h1;exact⟨o,e,fun v q=>by rw[d]at q;cases q⟩
  ·obtain⟨o,e,_,d⟩:=h2;exact⟨o,e,fun v q=>by rw[d]at q;cases q⟩
 keep:=fun i h h' st k=>by
  obtain⟨hz,hTI,⟨x,y,hTO⟩,h1,h2⟩:=st;exact⟨k z (by simp) _ hz,k TI (by simp) _ hTI,⟨x,y,k TO (by simp) _ hTO⟩,h1.at fun o e=>k i1 (by simp) o e,h2.at fun o e=>k i2 (by simp) o e⟩
 item:=by
  intro X hP hw hK hc i pins s σ H E I hf st hg;subst hP hw hK;obtain⟨xs,ys,x,y,hq1,hq2,hx,hy⟩:=hg;obtain⟨its1,rv1,p1,hz1⟩:=I.list hq1;obtain⟨its2,rv2,p2,hz2⟩:=I.list hq2;obtain⟨u1,hu1,ru1⟩:=rv1.get hx;obtain⟨u2,hu2,ru2⟩:=rv2.get hy;obtain⟨hz,hTI,⟨a0,b0,hTO⟩,h1,h2⟩:=st;refine wpAny_pyNext_zip_item D hz hTI hTO h1 h2 p1.isList p2.isList (x:=u1) (y:=u2) (by simpa using hu1) (by simpa using hu2) fun h' g1 g2 g3 g4 g5 g6 g7=>?_
  refine⟨_,rfl,wpAny_letOwnedTupleGo_zip g1 fun h'' hz'' hs''=>?_⟩;have lt:∀{c:Addr}{o:Obj},s.heap.get? c=some o->c<s.heap.objs.size:=fun e=>qJ6 e
  have hzs:=lt hz;have hTz:s.heap.objs.size≠z:=qBs hzs;have kk':∀c u,c∉[z,TI,TO,i1,i2]->s.heap.get? c=some u->h''.get? c=some u:=fun c u hc q=>by
   have c1:c≠z:=fun e=>hc (by simp[e])
   exact(hs''.2 c c1).trans (g7 c u c1 (fun e=>hc (by simp[e])) (fun e=>hc (by simp[e])) (fun e=>hc (by simp[e])) q)
  have hT'':=(hs''.2 _ hTz).trans g5;refine⟨.ref s.heap.objs.size,_,I.turnedNew (t':=s.toks) (o:=.tup [x,y]) hf kk' (qAa _) ⟨by show 2<=sizeLine;decide,[u1,u2],.cons ru1 (.cons ru2 .nil),⟨_,hT'',rfl,_,rfl⟩⟩,rfl,
   ⟨_,x,y,rfl,I.fresh,rfl,fun zs hy=>by rw[I.list_inj hy hq1];exact hx,fun zs hy'=>by rw[I.list_inj hy' hq2];exact hy⟩,
   ⟨hz'',(hs''.2 _ D.TIz).trans (g7 TI _ D.TIz D.TITO D.TIi1 D.TIi2 hTI),⟨_,_,(hs''.2 _ D.TOz).trans g2⟩,g3.at fun o e=>(hs''.2 _ D.i1z).trans e,g4.at fun o e=>(hs''.2 _ D.i2z).trans e⟩,fun c hc=>?_⟩
  have hcs:c<s.heap.objs.size:=by
   have five:c=z\/c=TI\/c=TO\/c=i1\/c=i2:=by simpa using hc
   rcases five with e|e|e|e|e<;>subst e
   ·exact hzs
   ·exact lt hTI
   ·exact lt hTO
   ·obtain⟨o,e,_⟩:=h1;exact lt e
   ·obtain⟨o,e,_⟩:=h2;exact lt e
  rw[zAD (qAl hcs)];exact(hf c hc).1
 done:=by
  intro X hP hw hK hc i pins s σ H E I hf st hg;subst hP hw hK;obtain⟨xs,ys,hq1,hq2,hle⟩:=hg;obtain⟨its1,rv1,p1,hz1⟩:=I.list hq1;obtain⟨its2,rv2,p2,hz2⟩:=I.list hq2;have l1:=rv1.length;have l2:=rv2.length;obtain⟨hz,hTI,⟨a0,b0,hTO⟩,h1,h2⟩:=st;refine wpAny_pyNext_zip_end (I.ok.hd hc) D hz hTI hTO h1 h2 p1.isList p2.isList ?_ fun h' hk=>⟨rfl,I.turnedL (t':=s.toks) hf fun c u hc q=>hk c u (fun e=>hc (by simp[e])) (fun e=>hc (by simp[e])) (fun e=>hc (by simp[e])) (fun e=>hc (by simp[e])) q⟩
  rcases hle with q|q
  ·exact .inl (by simp;lia)
  ·exact .inr (by simp;lia)
 self:=fun _ _ _ _ _ st h=>wpAny_pyIter_zip st.1 h
section
variable{X:Cx}{K:qA2}
def iZip(K:qA2)(tl:TA):TI:=fun σ H R=>tl σ H fun vs H1=>match vs with
 |[.ref a,.ref b]=>(∃xs,SqL K H1 a xs)/\(∃ys,SqL K H1 b ys)/\R (Itz K a b) H1
 |_=>False
def zdH{ts:List Expr}{kk:Nat}{tp p pos:Pos}{a b:Expr}{ta:TA}(hg:Gl X "zip")(hm:X.mg "zip" = none)(ha:PA X [a,b] ta)(hs:starEach [a,b] X.env=(false,eval a X.env)::starEach [b] X.env:=by rfl)(hpl:(backTo pos (starEach [b] X.env)).any (·.1)=false:=by rfl)(hK:X.K=K:=by rfl) :
  PI X (.Tuple ts kk tp) (.Call (.Name "zip" p) [a,b] [] pos) (iZip K ta):=by
 subst hK;intro pins s σ H R I h;refine Call_ (zI2 I hg hm boot_zip (qBv (thn (ha pos pins s σ H _ I h) fun us s1 z0=>?_) hs hpl));obtain⟨vs,H1,I1,r1,q1⟩:=z0;cases vs with
 |nil=>exact qA3 q1
 |cons hd1 tl1=>
  cases hd1 with
  |ref l1=>
   cases tl1 with
   |nil=>exact qA3 q1
   |cons hd2 tl2=>
    cases hd2 with
    |ref l2=>
     cases tl2 with
     |nil=>
      obtain⟨⟨xs,hq1⟩,⟨ys,hq2⟩,q⟩:=q1;obtain⟨u1,u2,rfl,rx,ry⟩:=zV8 r1;cases rx;cases ry;obtain⟨its1,rv1,p1,hz1⟩:=I1.list hq1;obtain⟨its2,rv2,p2,hz2⟩:=I1.list hq2;have lt1:l1<s1.heap.objs.size:=by obtain⟨o,ho,_⟩:=p1.isList;exact qJ6 ho
      have lt2:l2<s1.heap.objs.size:=by obtain⟨o,ho,_⟩:=p2.isList;exact qJ6 ho
      refine call_zip_2 p1.isList p2.isList fun h' hz hTI hTO h1 h2 hsz hk=>?_
      refine wpAny_pyIter_zip hz ?_;refine⟨s1.heap.objs.size+4,[s1.heap.objs.size+4,s1.heap.objs.size+2,s1.heap.objs.size+3,s1.heap.objs.size,s1.heap.objs.size+1],_,_,H1,rfl,I1.kept (t':=s1.toks) hk,zVE (zipApart_new lt1 lt2),⟨hz,hTI,⟨_,_,hTO⟩,h1,h2⟩,fun c hc=>?_,q⟩;have hc':s1.heap.objs.size<=c:=by
       have five:c=s1.heap.objs.size+4\/c=s1.heap.objs.size+2\/c=s1.heap.objs.size+3\/c=s1.heap.objs.size\/c=s1.heap.objs.size+1:=by simpa using hc
       rcases five with e|e|e|e|e<;>rw[e]<;>first|exact qAa _|exact qFf _ _
      exact I1.fpOk hc' (I1.hok.fresh hc')
     |cons _ _=>exact qA3 q1
    |_=>exact qA3 q1
  |_=>exact qA3 q1
end
def XO(e:Addr)(C:Value)(d:Option Addr)(h:Heap):Prop:=∃oe vs,h.get? e=some oe/\oe.cls=C/\oe.dict=d/\oe.data=.fields vs/\1<vs.size
abbrev xo(e:Addr)(C:Value)(d:Option Addr):HO:=.ext (XO e C d)
def Fl(n:Nat)(e:Addr)(C:Value)(d:Option Addr)(mk:Value)(H:Hp)(h:Heap):Prop:=
 ∃oe vs T oT ts,h.get? e=some oe/\oe.cls=C/\oe.dict=d/\oe.data=.fields vs/\vs[1]?=some (.ref T)/\n<=T/\T≠e/\H T=none/\h.get? T=some oT/\oT.data=.fields ts/\ts[3]?=some mk
def Fly(n:Nat)(e:Addr)(C:Value)(d:Option Addr)(H:Hp)(h:Heap):Prop:=
 H e=some (xo e C d)/\((∃oe vs,h.get? e=some oe/\oe.cls=C/\oe.dict=d/\oe.data=.fields vs/\vs[1]?=some .none)\/Fl n e C d .none H h)
def Held(n:Nat)(e:Addr)(C:Value)(d:Option Addr)(L:Addr)(H:Hp)(h:Heap):Prop:=H e=some (xo e C d)/\Fl n e C d (rawInt L) H h
def Fly.mono{n n':Nat}{e:Addr}{C:Value}{d:Option Addr}{H:Hp}{h:Heap}(x:Fly n e C d H h)(hn:n'<=n):Fly n' e C d H h:=by
 obtain⟨a,b|⟨oe,vs,T,oT,ts,h1,h2,h3,h4,h5,h6,h7⟩⟩:=x
 ·exact⟨a,.inl b⟩
 ·exact⟨a,.inr ⟨oe,vs,T,oT,ts,h1,h2,h3,h4,h5,qAq hn h6,h7⟩⟩
structure Nt(n:Nat)(fs ch:List Addr)(e:Addr)(H:Hp)(h h':Heap):Prop where
 keep:∀b o,h.get? b=some o->b≠e->b∉fs->b∉ch->h'.get? b=some o
 slot:∀b o,h.get? b=some o->b≠e->b∉ch->∃sl,h'.get? b=some { o with slots:=sl }
 there:∀b o,h.get? b=some o->∃o',h'.get? b=some o'
 old:∀b∈ch,n<=b/\H b=none/\∃o vs,h.get? b=some o/\o.data=.fields vs
section
variable{M:Model}{A:qJb}{E:Value->qJ5->Prop}{s:qJ5}{n:Nat}{e L:Addr}{C:Value}{d:Option Addr}{H:Hp}{base:Heap}{env:Env}{outer:List Env}
def zYZ{oe:Obj}{vs:Array Value}{head:Value}{hadNext:Bool}{Q:Unit->qJ5->Prop}
  (hfr:A.frames=some (env::outer)) (hl:s.heap.FunFrames base (env::outer)) (hf:env.frame=some L)
  (he:s.heap.get? e=some oe) (hc:oe.cls=C) (hdi:oe.dict=d) (hd:oe.data=.fields vs) (hsz:1<vs.size) (hn:n<=s.heap.objs.size) (hH:∀b,s.heap.objs.size<=b->H b=none)
  (h:∀h',(∀b o,s.heap.get? b=some o->b≠e->b∉frs (env::outer)->h'.get? b=some o)->(∀b o,s.heap.get? b=some o->b≠e->∃sl,h'.get? b=some { o with slots:=sl }) ->
   (∃o',h'.get? e=some o')->Fl n e C d (rawInt L) H h'->Q () { s with heap:=h' }) :
  wpAny M A (do let a <- frameOf env;let pl <- entryPlaceOf L hadNext;let b <- qLv head a .none (rawInt L) .none pl;setField (.ref e) 1 b) Q E s:=by
 have hene:e∉(env::outer).filterMap (·.frame):=fun hm=>by
  obtain⟨_,o,ho,hnf⟩:=hl.mem hm;rw[he]at ho;injection ho with ho;subst ho;exact hnf vs hd
 refine wpAny_bind (wpAny_frameOf_fun hfr hl hf fun h₁ hs₁=>?_);refine wpAny_bind (wpAny_entryPlaceOf fun pl hpl=>?_);unfold qLv newFields;refine wpAny_bind (wpAny_newObj_type ?_ (hpl.sizeOk5 _ _ _ _ _));have he₁:h₁.get? e=some oe:=(hs₁.2.1 e hene).trans he;have he₂:=qJ4 (h:=h₁) { cls:=.type "traceback",dict:=none,data:=.fields ([head,.ref L,.none,rawInt L,.none]++(if pl.isEmpty then qA8 6 qJi else pl)).toArray } he₁;have hTe:h₁.objs.size≠e:=qBs (qJ6 he₁);have hd₃:=qJe hd (·.setIfInBounds 1 (qJc h₁.objs.size));have he₃:=qJ9 (qJh (·.setIfInBounds 1 (qJc h₁.objs.size))) he₂ (qJl hd₃);have hT₃:=(qJa (h₁.push { cls:=.type "traceback",dict:=none,data:=.fields ([head,.ref L,.none,rawInt L,.none]++(if pl.isEmpty then qA8 6 qJi else pl)).toArray })
  (qJh (·.setIfInBounds 1 (qJc h₁.objs.size))) (qCv hTe)).trans (qJ7 h₁ rfl)
 have keep:∀b o,b≠e->h₁.get? b=some o ->
   ((h₁.push { cls:=.type "traceback",dict:=none,data:=.fields ([head,.ref L,.none,rawInt L,.none]++(if pl.isEmpty then qA8 6 qJi else pl)).toArray }).update e (qJh (·.setIfInBounds 1 (qJc h₁.objs.size)))).get? b=some o:=
  fun b o hbe hb=>by
   rw[qJa _ _ (qCv hbe)];exact qJ4 _ hb
 have hsz1:h₁.objs.size=s.heap.objs.size:=hs₁.1;refine wpAny_setField he₂ hd hsz (h _ (fun b o hb hbe hbf=>keep b o hbe ((hs₁.2.1 b hbf).trans hb)) (fun b o hb hbe=>?_) ⟨_,he₃⟩ ?_)
 ·obtain⟨sl,e1⟩:=hs₁.2.2 b o hb;exact⟨sl,keep b _ hbe e1⟩
 ·have hdo:∀(o:Obj) f,(qJh f o).dict=o.dict:=fun o f=>by unfold qJh;split<;>rfl
  exact⟨_,_,h₁.objs.size,_,_,he₃,(qKs _ _).trans hc,(hdo _ _).trans hdi,hd₃,by simp[hsz],by rw[hsz1];exact hn,hTe,hH _ (by rw[hsz1];exact qAa _),hT₃,rfl,
   by first|(simp;done)|(rcases hpl with rfl|⟨_,_,_,_,_,_,_,rfl⟩<;>simp)⟩
def zaI{Q:Unit->qJ5->Prop}(hfr:A.frames=some (env::outer))(hl:s.heap.FunFrames base (env::outer))(hf:env.frame=some L)(x:Fly n e C d H s.heap)(hn:n<=s.heap.objs.size)(hH:∀b,s.heap.objs.size<=b->H b=none)
  (h:∀h' ch,Nt n (frs (env::outer)) ch e H s.heap h'->Held n e C d L H h'->Q () { s with heap:=h' }):wpAny M A (noteFrame (.ref e) env) Q E s:=by
 obtain⟨hx,⟨oe,vs,he,hc,hdi,hd,h1⟩|⟨oe,vs,T,oT,ts,he,hc,hdi,hd,h1,hnT,hTe,hHT,hT,hdT,h3⟩⟩:=x
 ·unfold noteFrame;simp only[hf];refine wpAny_bind (wpAny_field he hd h1 ?_);rw[if_neg (by decide)];refine zYZ hfr hl hf he hc hdi hd (qBz.mp h1).1 hn hH fun h' k1 k2 k3 k4=>?_
  refine h h' [] ⟨fun b o hb hbe hbf _=>k1 b o hb hbe hbf,fun b o hb hbe _=>k2 b o hb hbe,fun b o hb=>?_,fun b hb=>nomatch hb⟩ ⟨hx,k4⟩
  by_cases z:b=e
  ·rw[z];exact k3
  ·obtain⟨sl,q⟩:=k2 b o hb z;exact⟨_,q⟩
 ·unfold noteFrame;simp only[hf];refine wpAny_bind (wpAny_field he hd h1 ?_);rw[if_pos (show(qJc T != qJi)=true from by simp)];refine wpAny_bind (wpAny_field hT hdT h3 ?_);rw[if_neg (show ¬((qJi==rawInt L)=true) from by simp[rawInt])];refine wpAny_bind (wpAny_setField hT hdT (qBz.mp h3).1 ?_);have other:∀b,b≠T->(s.heap.update T (qJh (·.setIfInBounds 3 qJi))).get? b=s.heap.get? b:=fun b hb=>qJa _ _ (qCv hb)
  have noRecord:∀b o,s.heap.get? b=some o->(∀vs,o.data≠.fields vs)->b≠T:=fun b o hb hnf q=>by
   rw[q,hT]at hb;injection hb with hb;subst hb;exact hnf ts hdT
  have hl1:=hl.of_keeps (h':=s.heap.update T (qJh (·.setIfInBounds 3 qJi))) fun b o hb hnf=>⟨o,(other b (noRecord b o hb hnf)).trans hb,rfl⟩
  have hself:=qJ9 (qJh (·.setIfInBounds 3 qJi)) hT (qJl (qJe hdT _));have hsz:(s.heap.update T (qJh (·.setIfInBounds 3 qJi))).objs.size=s.heap.objs.size:=by simp
  refine zYZ (s:={ s with heap:=s.heap.update T (qJh (·.setIfInBounds 3 qJi)) }) hfr hl1 hf ((other e (qCv hTe)).trans he) hc hdi hd (qBz.mp h1).1 (by rw[hsz];exact hn) (by rw[hsz];exact hH) fun h' k1 k2 k3 k4=>?_
  have nT:∀b,b∉[T]->b≠T:=fun b hb z=>hb (by simp[z])
  refine h h' [T] ⟨fun b o hb hbe hbf hc=>k1 b o ((other b (nT b hc)).trans hb) hbe hbf,fun b o hb hbe hc=>k2 b o ((other b (nT b hc)).trans hb) hbe,fun b o hb=>?_,fun b hb=>?_⟩ ⟨hx,k4⟩
  ·by_cases z:b=e
   ·rw[z];exact k3
   ·by_cases z':b=T
    ·rw[z'];obtain⟨sl,q⟩:=k2 T _ hself hTe;exact⟨_,q⟩
    ·obtain⟨sl,q⟩:=k2 b o ((other b z').trans hb) z;exact⟨_,q⟩
  ·obtain rfl:b=T:=by simpa using hb
   exact⟨hnT,hHT,oT,ts,hT,hdT⟩
def zaN{Q:Unit->qJ5->Prop}{fs:List Addr}{mk:Value}(x:Fl n e C d mk H s.heap)
  (h:∀h' ch,Nt n fs ch e H s.heap h'->Fl n e C d .none H h'->Q () { s with heap:=h' }):wpAny M A (setFlight (.ref e) none) Q E s:=by
 obtain⟨oe,vs,T,oT,ts,he,hc,hdi,hd,h1,hnT,hTe,hHT,hT,hdT,h3⟩:=x;have hsz3:3<ts.size:=(qBz.mp h3).1;have other:∀b,b≠T->(s.heap.update T (qJh (·.setIfInBounds 3 ((none:Option Addr).elim qJi fun f=>rawInt f)))).get? b=s.heap.get? b:=
  fun b hb=>qJa _ _ (qCv hb)
 have hself:=qJ9 (qJh (·.setIfInBounds 3 ((none:Option Addr).elim qJi fun f=>rawInt f))) hT (qJl (qJe hdT _));have nT:∀b,b∉[T]->b≠T:=fun b hb z=>hb (by simp[z])
 unfold setFlight;refine wpAny_bind (wpAny_field he hd h1 ?_);rw[if_pos (show(qJc T != qJi)=true from by simp)];refine wpAny_setField hT hdT hsz3 (h _ [T] ⟨fun b o hb _ _ hc=>(other b (nT b hc)).trans hb,fun b o hb _ hc=>⟨o.slots,(other b (nT b hc)).trans hb⟩,fun b o hb=>?_,fun b hb=>?_⟩ ?_)
 ·by_cases z:b=T
  ·rw[z];exact⟨_,hself⟩
  ·exact⟨o,(other b z).trans hb⟩
 ·obtain rfl:b=T:=by simpa using hb
  exact⟨hnT,hHT,oT,ts,hT,hdT⟩
 ·exact⟨oe,vs,T,_,_,(other e (qCv hTe)).trans he,hc,hdi,hd,h1,hnT,hTe,hHT,hself,qJe hdT _,by simp[hsz3]⟩
end
section
variable{X:Cx}{pins:List (Addr×Obj)}{σ:St}{H:Hp}{s:qJ5}{n:Nat}{e:Addr}{C:Value}{d:Option Addr}{A:qJb}{E:Value->qJ5->Prop}{fs ch:List Addr}{h h':Heap}
def Nt.hok{P:qJ8}{w:World}(t:Nt n fs ch e H h h')(k:HOk P w H h)(he:H e=some (xo e C d))(hfs:∀b∈fs,H b=none)(f:XO e C d h'):HOk P w H h':=fun a o ha=>by
 by_cases z:a=e
 ·subst z;rw[he]at ha;cases ha;obtain⟨oe,vs,h1,r⟩:=id f;exact⟨f,⟨oe,h1⟩,(k a _ he).2.2⟩
 ·refine(k a o ha).stay (fun b u hb q=>?_) (fun _ q=>q) (fun _ _ q=>q) fun _ _ _ q _=>q
  have hb':H b≠none:=by
   rcases hb with rfl|hb
   ·rw[ha];exact fun z=>by cases z
   ·rw[hb];exact fun z=>by cases z
  have hbe:b≠e:=by
   rcases hb with rfl|hb
   ·exact z
   ·intro y;rw[y,he]at hb;cases hb
  exact t.keep b u q hbe (fun y=>hb' (hfs b y)) fun y=>hb' (t.old b y).2.1
def Fl.xo{mk:Value}(f:Fl n e C d mk H h):XO e C d h:=by
 obtain⟨oe,vs,T,oT,ts,h1,h2,h3,h4,h5,_⟩:=f;exact⟨oe,vs,h1,h2,h3,h4,(qBz.mp h5).1⟩
def Nt.un(t:Nt n fs ch e H h h')(he:H e=some (xo e C d)):Un fs ch H H h h':=
 ⟨fun b o q hn hf hc=>t.keep b o q (fun z=>by rw[z,he]at hn;cases hn) hf hc,fun b o q hn _ hc=>t.slot b o q (fun z=>by rw[z,he]at hn;cases hn) hc,fun _ _ _ hn _=>hn,fun b o q _=>t.there b o q,fun _ _ q=>q,fun _ _ _ q=>q,fun b ps q=>⟨#[],by simpa using q⟩⟩
def Inv.noted(I:Inv X pins σ H s)(t:Nt n (frs X.stack) ch e H s.heap h')(he:H e=some (xo e C d))(f:XO e C d h')(hn:X.s₀.heap.objs.size<=n)(hp:∀p∈X.pn++pins,p.1<n):Inv X pins σ H { s with heap:=h' }:=by
 refine I.call' rfl (t.un he) (t.hok I.hok he I.stkFree f) I.bare fun b hb=>?_
 obtain⟨h1,h2,o,vs,h3,h4⟩:=t.old b hb;refine⟨.inr (qAq hn h1),?_,?_,fun p hp' z=>?_⟩
 ·intro z;obtain⟨m,⟨o',es,ep,ho',hd',_⟩,_⟩:=I.loc;rw[z,ho']at h3;cases h3;rw[hd']at h4;cases h4
 ·intro x c hx z;obtain⟨v,o',ho',hd'⟩:=I.cell x c hx;rw[<- z,ho']at h3;cases h3;rw[hd']at h4;cases h4
 ·have:=hp p hp'
  rw[z]at this;exact absurd h1 (Nat.not_le_of_lt this)
def zWH{Q:Unit->qJ5->Prop}{M:Model}(I:Inv X pins σ H s)(hA:A.frames=some X.stack)(hs:X.stack=X.env::X.outer/\X.env.frame=some X.env.locals)(x:Fly n e C d H s.heap)(hn:X.s₀.heap.objs.size<=n)(hn':n<=s.heap.objs.size)
  (hp:∀p∈X.pn++pins,p.1<n) (h:∀s',Inv X pins σ H s'->Held n e C d X.env.locals H s'.heap->Q () s'):wpAny M A (noteFrame (.ref e) X.env) Q E s:=by
 have hst:=I.stack;rw[hs.1]at hA hst;refine zaI hA hst hs.2 x hn' (fun b hb=>I.hok.fresh hb) fun h' ch t y=>h _ (I.noted (ch:=ch) (by rw[hs.1];exact t) x.1 y.2.xo hn hp) y
def zWO{Q:Unit->qJ5->Prop}{M:Model}{mk:Value}(I:Inv X pins σ H s)(hx:H e=some (xo e C d))(x:Fl n e C d mk H s.heap)(hn:X.s₀.heap.objs.size<=n)
  (hp:∀p∈X.pn++pins,p.1<n) (h:∀s',Inv X pins σ H s'->Fl n e C d .none H s'.heap->Q () s'):wpAny M A (setFlight (.ref e) none) Q E s:=
 zaN (fs:=frs X.stack) x fun h' ch t y=>h _ (I.noted t hx y.xo hn hp) y
def zT6{Q:Unit->qJ5->Prop}{M:Model}(I:Inv X pins σ H s)(hA:A.frames=some X.stack)(hs:X.stack=X.env::X.outer/\X.env.frame=some X.env.locals)(x:Fly n e C d H s.heap)(hn:X.s₀.heap.objs.size<=n)(hn':n<=s.heap.objs.size)
  (hp:∀p∈X.pn++pins,p.1<n) (h:∀s',Inv X pins σ H s'->Fly n e C d H s'.heap->Q () s'):wpAny M A (leaving X.env (.ref e)) Q E s:=by
 unfold leaving;exact wpAny_bind (zWH I hA hs x hn hn' hp fun s1 I1 y=>zWO I1 y.1 y.2 hn hp fun s2 I2 z=>h s2 I2 ⟨y.1,.inr z⟩)
end
def CXe(P:qJ8)(w:World):CXT:=fun outer H s E x s'=>∃e C d H',x=.ref e/\s'.os=s.os/\qLe s'.gens/\Un (frs outer) [] H H' s.heap s'.heap/\HOk P w H' s'.heap/\Fly s.heap.objs.size e C d H' s'.heap/\s.heap.objs.size<=s'.heap.objs.size/\E x d H'
section
variable{X:Cx}{pins:List (Addr×Obj)}{σ:St}{H:Hp}{s s':qJ5}{E:XK}
def Inv.pinlt(I:Inv X pins σ H s):∀p∈X.pn++pins,p.1<s.heap.objs.size:=fun p hp=>qJ6 (I.pin p hp).1
def XP(X:Cx)(pins:List (Addr×Obj))(σ:St)(E:XK)(x:Value)(s':qJ5):Prop:=∃n e C d H',x=.ref e/\Inv X pins σ H' s'/\Fly n e C d H' s'.heap/\X.s₀.heap.objs.size<=n/\n<=s'.heap.objs.size/\(∀p∈X.pn++pins,p.1<n)/\E x d H'
def Inv.flown{x:Value}(I:Inv X pins σ H s)(h:CXe X.prog X.w X.stack H s E x s'):XP X pins σ E x s':=by
 obtain⟨e,C,d,H',rfl,ho,hb,u,hk,f,hz,q⟩:=h;exact⟨_,e,C,d,H',rfl,I.call' ho u hk hb (fun b z=>absurd z (by simp)),f,I.sz,hz,I.pinlt,q⟩
end
section
variable{P:qJ8}{w:World}{K:qA2}{mg:Str->Option Value}{base:Heap}{N:List Str}{qual:Str}{scope:Scope}{f:Addr}{cd:Value}{A:qJb}{outer:List Env}{s:qJ5}{H:Hp}{E E':XK}
def zc3{pins:List (Addr×Obj)}{σ:St}{x:Value}{s':qJ5}(hE:∀C d H',E' C d H'->E C d H')
  (h:XP (cxOf (CXe P w) P w K mg base N qual scope f cd A outer s H E) pins σ E' x s'):(cxOf (CXe P w) P w K mg base N qual scope f cd A outer s H E).xe x s':=by
 obtain⟨n,e,C,d,H',rfl,I,fl,hn,hz,hp,q⟩:=h;refine zT6 I I.ok.frames ⟨rfl,rfl⟩ fl hn hz hp fun s2 I2 f2=>?_
 exact⟨e,C,d,H',rfl,I2.os,I2.bare,I2.base,I2.hok,f2.mono hn,I2.sz,hE _ _ _ q⟩
end
abbrev TEX:=St->Hp->VK->XK->Prop
abbrev TSX:=Ends->(St->XK)->St->Hp->Prop
section
end
end L2
namespace PySem.W
open PySem PySem.Calls PyProof.Rows Builtin Builtin.ObjectAttr
def excTail:List Value->Bool
 |.ref _::r=>excTail r
 |[.type a,.type b,.type c,.type d]=>a == "ValueError" && b == "Exception" && c == "BaseException" && d == "object"
 |_=>false
def zOE{a b c d:String}(e:excTail [.type a,.type b,.type c,.type d]=true):a = "ValueError"/\b = "Exception"/\c = "BaseException"/\d = "object":=by
 simp only[excTail,qBi,beq_iff_eq]at e;exact⟨e.1.1.1,e.1.1.2,e.1.2,e.2⟩
def zCI:∀{l:List Value},excTail l=true->∃as:List Addr,l=as.map qJc++[.type "ValueError",.type "Exception",.type "BaseException",.type "object"]
 |.ref a::r,e=>by
  obtain⟨as,rfl⟩:=zCI (l:=r) e;exact⟨a::as,rfl⟩
 |[.type a,.type b,.type c,.type d],e=>by
  obtain⟨rfl,rfl,rfl,rfl⟩:=zOE e;exact⟨[],rfl⟩
def zQF(self:Value){l:List Value}(e:excTail l=true):refuseLoop self "__setattr__" l=pure ():=by
 obtain⟨as,rfl⟩:=zCI e;induction as with
 |nil=>exact PySem.F.store_ValueError.passes self
 |cons a r ih=>
  rw[qAd,qFi,refuseLoop_ref];exact ih (by simpa[excTail]using e)
def zb8{l:List Value}(e:excTail l=true):l.contains (.type "object")=true:=by
 obtain⟨as,rfl⟩:=zCI e;rw[List.contains_iff_exists_mem_beq];exact⟨.type "object",by simp,by simp⟩
def excOver(K:Frag)(C:Addr):Bool:=(clsIn K C).any fun cd=>excTail cd.mro
section
variable{prog:qJ8}{w:World}{A:qJb}{s:qJ5}{K:Frag}{x C:Addr}{R:qMg->qJ5->Prop}
def zSJ{ox:Obj}{od:Option Obj}{name:Str}{tk:Tok}{v:Value}{r:Option Value}(X:K.In s.heap)(I:InstAt s.heap x ox C od)(hp:excOver K C=true)(ht:takerIn K C name=some r)
  (h:∀b,wpAny (model prog w) A.in1 (match r with|some a=>setByDescriptor a (.ref x) v|none=>storeInOwnDict (.ref x) (.ref C) (.str name tk) name v b)
   (fun fin s'=>match fin with | .done f=>R (.ok f) s' | .again c'=>c'.quiet=true/\qKr (model prog w) A c' R s') (fun e s'=>R (.error e) s') s) :
  qKr (model prog w) A (.call (.builtin "object.__setattr__") ⟨[.ref x,.str name tk,v],[]⟩) R s:=by
 have SF:=PySem.F.store_object;obtain⟨cd,hc,ho⟩:=any_some hp;have ne:cd.mro.isEmpty=false:=by cases q:cd.mro with|nil=>rw[q]at ho;cases ho|cons _ _=>rfl
 have sub:Looks (model prog w) s.heap (isInstance (.ref x) (.type "object")) true:=I.type.andThen (looks_mroIn X (by unfold mroIn;rw[hc,Option.bind_some,if_neg (by rw[ne];decide),zb8 ho]));refine codeAny_call_builtin SF.slot.plain SF.entry (@check_slot (model prog w) _ _ s "object.__setattr__" "object" "__setattr__" (.ref x) [.str name tk,v] [] _ SF.kind SF.split sub (SF.args (.ref x) (.str name tk) v) ?_);obtain⟨attr,ha,hr⟩:=Option.bind_eq_some_iff.mp ht;have hm:Looks (model prog w) s.heap (mroOf (.ref C)) cd.mro:=(looks_clsIn X hc).andThen .now;have L3:Looks (model prog w) s.heap (storeTaker? attr) r:=by
  cases attr with
  |none=>cases hr;exact .now
  |some a=>
   obtain⟨b,hb,rfl⟩:=qFl.mp hr;refine(looks_takesIn X hb).andThen ?_;cases b<;>exact .now
 rw[osa_eq,refuse_eq];refine wpAny_bind (wpAny_bind (I.type.here (wpAny_bind (hm.here ?_))));rw[zQF _ ho];refine wpAny_pure (wpAny_bind (I.type.here (wpAny_bind ((looks_findIn X ha).here (wpAny_bind (L3.here ?_))))));exact h _
def set_exc{E:Value->qJ5->Prop}{name:Str}{v:Value}{Q:Unit->qJ5->Prop}{vs:Array Value}{sl:Array (Option Value)}(X:K.In s.heap)(hx:s.heap.get? x=some ⟨.ref C,none,.fields vs,sl⟩)
  (hs:findIn K (.ref C) "__setattr__" = some (some (.builtin "object.__setattr__"))) (hp:excOver K C=true) (ht:takerIn K C name=some none) (hh:(clsIn K C).any (·.hasDict)=true)
  (h:∀h' tk',h'.Ns1 s.heap.objs.size (fun y=>if y=name then some v else none)->h'.get? x=some ⟨.ref C,some s.heap.objs.size,.fields vs,sl⟩->(∀b o,b≠x->s.heap.get? b=some o->h'.get? b=some o)->Q () { s with heap:=h',toks:=tk' }) :
  wpAny (model prog w) A (setAttr (.ref x) name v) Q E s:=by
 have I:InstAt s.heap x ⟨.ref C,none,.fields vs,sl⟩ C none:=⟨hx,rfl,rfl,trivial⟩;refine set_plain X I hs (zSJ (s:={ s with toks:=s.toks+1 }) (r:=none) X I hp ht fun b=>?_);obtain⟨cd,hc,hd'⟩:=any_some hh;obtain⟨h0,g,d,t,os⟩:=s;dsimp only at hx X I h ⊢;refine wpAny_bind (wpAny_pure (wpAny_bind (wpAny_bind (wpAny_loadPart hx (wpAny_bind (Looks.here (s:=⟨h0,g,d,t+1,os⟩) (looks_clsIn X hc) ?_))))));rw[hd'];have hx₁:(h0.push { cls:=.type "dict",data:=.dict #[] }).get? x=some ⟨.ref C,none,.fields vs,sl⟩:=qJ4 _ hx;have hxs:x≠h0.objs.size:=qAl (qJ6 hx);refine wpAny_bind (wpAny_alloc' ?_);refine wpAny_bind (wpAny_update' hx₁ ?_);refine wpAny_pure ?_;have hx₂:((h0.push { cls:=.type "dict",data:=.dict #[] }).update x fun o=>{ cls:=o.cls,dict:=some h0.objs.size,data:=o.data,slots:=o.slots }).get? x=some ⟨.ref C,some h0.objs.size,.fields vs,sl⟩:=qJ9 _ hx₁ rfl;have hgd:((h0.push { cls:=.type "dict",data:=.dict #[] }).update x fun o=>{ cls:=o.cls,dict:=some h0.objs.size,data:=o.data,slots:=o.slots }).get? h0.objs.size
   = some { cls:=.type "dict",data:=.dict #[] }:=(qLw _ _ _ _ hxs.symm).trans (qLb rfl rfl)
 have hnd:((h0.push { cls:=.type "dict",data:=.dict #[] }).update x fun o=>{ cls:=o.cls,dict:=some h0.objs.size,data:=o.data,slots:=o.slots }).Ns h0.objs.size (fun _=>none):=
  ⟨_,#[],_,hgd,rfl,fun e he=>absurd he (by simp),fun _=>rfl⟩
 show wpAny _ _ (storeInDict h0.objs.size (.str name t) name v) _ _ _;unfold storeInDict newKeyGuard;refine wpAny_bind (wpAny_pure (wpAny_bind (wpAny_nsSet1 (Heap.Ns1.of_empty hnd) fun h' hn' hs'=>?_)));obtain⟨oD,esD,epD,hoD,hdD,hcD⟩:=hn'.count (Within.cons name v Within.nil);refine wpAny_bind (wpAny_lookBehind hoD (by rw[hdD];exact pastItsLine_dict (qAq hcD (by rw[qAj,qFr,qJw];lia))) ?_);exact wpAny_pure (h h' _ hn' ((hs'.2 x hxs).trans hx₂) fun b ob hbx hb=>(hs'.2 b (qAl (qJ6 hb))).trans ((qLw _ _ _ _ hbx).trans (qJ4 _ hb)))
end
end PySem.W
namespace PySem.W
open PySem
def xcIn(K:Frag)(C:Addr):Bool:=match K.lookup C with
 |some ⟨.type "type",_,.cls cd,sl⟩=>(match cd.mro,sl.toList with
  |.ref C'::bm,[_,_,_,_,some (.builtin n),_]=>C'==C && !cd.hasDel&&excTail bm&&n == "ValueError.__new__" && cd.hasDict
  |_,_=>false)
 |_=>false
def xc_cls{K:Frag}{h:Heap}{C:Addr}(X:K.In h)(q:xcIn K C=true):∃nm qn N bs bm hdct sn sub ab col dd k0 k1 k2 k3 k5,
  h.get? C=some (excClassObj nm qn C N bs bm hdct sn sub ab col dd k0 k1 k2 k3 k5 "ValueError.__new__")/\excTail bm=true:=by
 unfold xcIn at q;split at q
 ·rename_i dd cd sl ho
  split at q
  ·rename_i C' bm k0 k1 k2 k3 n k5 hm hs
   simp only[qBi,beq_iff_eq,Bool.not_eq_true']at q;obtain⟨⟨⟨⟨rfl,hdel⟩,hb⟩,hn⟩,hd⟩:=q;subst hn;obtain⟨nm,bs,mro,ns,qn,hd',sn,sub,ab,col,del⟩:=cd;dsimp only at hm hdel;subst hm hdel;have hsl:sl=#[k0,k1,k2,k3,some (.builtin "ValueError.__new__"),k5]:=by
    obtain⟨l⟩:=sl;simp only at hs;rw[hs]
   subst hsl;exact⟨nm,qn,ns,bs,bm,hd',sn,sub,ab,col,dd,k0,k1,k2,k3,k5,X _ _ ho,hb⟩
  ·cases q
 ·cases q
def exc_con{l:List Value}{T:String}{b:Bool}(e:excTail l=true)(hb:List.contains [qKi "ValueError",.type "Exception",.type "BaseException",.type "object"] (.type T)=b):l.contains (.type T)=b:=by
 obtain⟨as,rfl⟩:=zCI e;clear e;induction as with
 |nil=>exact hb
 |cons a r ih=>rw[qAd,qFi,qC6,ih];rfl
end PySem.W
namespace PySem.Xc
open PySem
section
variable{M:Model}{prog:qJ8}{w:World}{A:qJb}{E:Value->qJ5->Prop}{h:Heap}{g:Array qKt}{d:Drawn}{t:Nat}{os:OsState}{R:qMg->qJ5->Prop}
variable{nm q:Str}{C N:Addr}{bs bm bmB:List Value}{hdct:Bool}{sn:List Str}{sub:List Value}{ab:Bool}{col:Option Bool}{dd:Option Addr}{k0 k1 k2 k3 k5:Option Value}{B newId initId:String}
def zJP(F:qK6 B newId initId bmB)(hB:bm.contains (.type B)=true){rest:List Value}{Q:Unit->qJ5->Prop}(hC:h.get? C=some (excClassObj nm q C N bs bm hdct sn sub ab col dd k0 k1 k2 k3 k5 newId))
  (hq:Q () ⟨h,g,d,t,os⟩):wpAny M A (checkBuiltinCall newId ⟨.ref C::rest,[]⟩) Q E ⟨h,g,d,t,os⟩:=by
 have hcont:(qJc C::bm).contains (.type B)=true:=by rw[qC6,hB,qFu]
 have hstar:=F.noStar;simp only[checkBuiltinCall,F.newKind,F.newSplit,F.newRow]
 repeat (first|refine qJg hC ?_|(refine qJu hC ?_;rw[hcont])|refine wpAny_staticBase_exc hC ?_|refine qLj hC ?_|simp only[bne_self_eq_false,qGo,if_false]|wp_step)
 exact hq
def zN1(F:qK6 B newId initId bmB)(hB:bm.contains (.type B)=true)(hA:bm.contains (.type "AttributeError")=false)(hN:bm.contains (.type "NameError")=false){rest:List Value}(hC:h.get? C=some (excClassObj nm q C N bs bm hdct sn sub ab col dd k0 k1 k2 k3 k5 newId))
  (hq:R (.ok (.ret (.ref (h.objs.size+1)))) ⟨(h.push { cls:=.type "tuple",data:=.seq rest.toArray }).push
   { cls:=.ref C,data:=.fields #[.ref h.objs.size,.none,.none,.none,.bool false,.none] },g,d,t,os⟩) (hrest:rest.length<=sizeLine) :
  qKr (model prog w) A (.builtin newId ⟨.ref C::rest,[]⟩) R ⟨h,g,d,t,os⟩:=by
 have hends:=F.ends;have hcB:(qJc C::bm).contains (.type B)=true:=by rw[qC6,hB,qFu]
 have hcA:(qJc C::bm).contains (.type "AttributeError")=false:=by rw[qC6,hA];rfl
 have hcN:(qJc C::bm).contains (.type "NameError")=false:=by rw[qC6,hN];rfl
 refine codeAny_builtinAt F.entry ?_;unfold qKf.«BaseException.__new__»;refine wpAt_bind ?_;show wpAt _ _ _ (stack >>= _) _ _ _;refine wpAt_bind (wpAt_stack fun p below=>wpAt_of_wpAny ?_)
 wp_walk
 refine wpAt_of_wpAny ?_;rw[F.owner]
 repeat (first|with_reducible refine wpAny_madeHere_exc F.canon hC ?_|with_reducible refine qJg hC ?_|(with_reducible refine qJu hC ?_;first|rw[hcB]|rw[hcA]|rw[hcN])|wp_step)
 show R _ _;rw[qJj];exact hq
def zIL(F:qK6 B newId initId bmB)(hB:bm.contains (.type B)=true){e:Addr}{oe:Obj}{rest:List Value}{Q:Unit->qJ5->Prop}{newId':String}
  (hC:h.get? C=some (excClassObj nm q C N bs bm hdct sn sub ab col dd k0 k1 k2 k3 k5 newId')) (he:h.get? e=some oe) (hcls:oe.cls=.ref C) (hq:Q () ⟨h,g,d,t,os⟩) :
  wpAny M A (checkBuiltinCall initId ⟨.ref e::rest,[]⟩) Q E ⟨h,g,d,t,os⟩:=by
 have hcB:(qJc C::bm).contains (.type B)=true:=by rw[qC6,hB,qFu]
 have hshort:=F.noStar;simp only[checkBuiltinCall,F.initKind,F.initSplit,F.initRow]
 repeat (first|(with_reducible refine qJg he ?_;rw[hcls])|with_reducible refine qJg hC ?_|(with_reducible refine qJu hC ?_;rw[hcB])|wp_step)
 refine wpAny_onRaise ?_;rw[show ∀(a b:String)(n:Nat),Bind.check ⟨.positional,"*",B,.self,[⟨"args",.varPos,false⟩]⟩ a b n (List.map (fun x=>x.fst) ({ pos:=qJc e::rest }:Args).kw)=pure () from
  fun a b n=>check_star_args _ _ _ _ _ _]
 exact wpAny_pure hq
def zH5(F:qK6 B newId initId bmB)(hB:bm.contains (.type B)=true)(hA:bm.contains (.type "AttributeError")=false)(hN:bm.contains (.type "NameError")=false){rest:List Value}{fI:Addr}{oI:Obj}{Q:Fin->qJ5->Prop}
  (hC:h.get? C=some (excClassObj nm q C N bs bm hdct sn sub ab col dd k0 k1 k2 k3 k5 newId)) (hi:qF9 (model prog w) h (typeLookup (.ref C) "__init__") (some (.ref fI)))
  (hfI:h.get? fI=some oI) (hfc:oI.cls=.type "function")
  (hq:∀h' e,qK0 h h' e (.ref C) rest->h.objs.size<=e ->
   wpAny (model prog w) A (call (.ref fI) (.ref e::rest)) (fun r s'=>r=.none/\Q (.done (.ret (.ref e))) s') E ⟨h',g,d,t,os⟩) (hrest:rest.length<=sizeLine) :
  wpAny (model prog w) A (qKf.«type.__call__» ⟨.ref C::rest,[]⟩) Q E ⟨h,g,d,t,os⟩:=by
 repeat (first|with_reducible refine qJg hC ?_|with_reducible refine qLj hC ?_|wp_step)
 refine qL9 (qK4 _ F.quiet) (zJP F hB hC ?_);refine zN1 F hB hA hN hC ?_ hrest;show wpAny _ _ _ _ _ _;have hC₁:=qJ4 { cls:=.ref C,data:=.fields #[.ref h.objs.size,.none,.none,.none,.bool false,.none] }
  (qJ4 { cls:=.type "tuple",data:=.seq rest.toArray } hC)
 have hfI₁:=qJ4 { cls:=.ref C,data:=.fields #[.ref h.objs.size,.none,.none,.none,.bool false,.none] }
  (qJ4 { cls:=.type "tuple",data:=.seq rest.toArray } hfI)
 have hi₁:=hi.keeps (h':=(h.push { cls:=.type "tuple",data:=.seq rest.toArray }).push { cls:=.ref C,data:=.fields #[.ref h.objs.size,.none,.none,.none,.bool false,.none] }) fun b o e=>qJ4 _ (qJ4 _ e)
 have hget:((h.push { cls:=.type "tuple",data:=.seq rest.toArray }).push
   { cls:=.ref C,data:=.fields #[.ref h.objs.size,.none,.none,.none,.bool false,.none] }).get? (h.objs.size+1)=some
   { cls:=.ref C,data:=.fields #[.ref h.objs.size,.none,.none,.none,.bool false,.none] }:=by heap_get
 have hcC:(qJc C::bm).contains (.ref C)=true:=by simp
 unfold isInstance
 repeat (first|with_reducible refine qJg hget ?_|(with_reducible refine qJu hC₁ ?_;rw[hcC])|wp_step)
 show wpAny _ _ (typeLookup (.ref C) _) _ _ _;refine hi₁.here ?_;refine wpAny_holding (wpAny_bind ?_);unfold bindSpecial;refine wpAny_bind (wpAny_typeOf (T:="function") ⟨_,hfI₁,hfc⟩ ?_);rw[if_pos (by decide)];refine wpAny_pure (wpAny_bind (wpAny_mono (hq _ (h.objs.size+1) ⟨fun b o hb=>qJ4 _ (qJ4 _ hb),qJp (qC8 _),h.objs.size,hget,qJp (qAa _),?_⟩ (qC8 _)) (fun r s' hr=>?_) fun _ _ x=>x))
 ·exact qJ4 _ (qLb rfl rfl)
 ·obtain⟨rfl,hQ⟩:=hr
  wp_walk
  exact hQ
def call_initX(F:qK6 B newId initId bmB)(hB:bm.contains (.type B)=true)(hA:bm.contains (.type "AttributeError")=false)(hN:bm.contains (.type "NameError")=false){rest:List Value}{fI:Addr}{oI:Obj}{Q:Value->qJ5->Prop}
  (hC:h.get? C=some (excClassObj nm q C N bs bm hdct sn sub ab col dd k0 k1 k2 k3 k5 newId)) (hi:qF9 (model prog w) h (typeLookup (.ref C) "__init__") (some (.ref fI)))
  (hfI:h.get? fI=some oI) (hfc:oI.cls=.type "function")
  (hq:∀h' e,qK0 h h' e (.ref C) rest->h.objs.size<=e ->
   wpAny (model prog w) (A.under (.builtin "type.__call__" ⟨.ref C::rest,[]⟩)) (call (.ref fI) (.ref e::rest)) (fun r s'=>r=.none/\Q (.ref e) s') E ⟨h',g,d,t,os⟩) (hrest:rest.length<=sizeLine) :
  wpAny (model prog w) A (call (.ref C) rest) Q E ⟨h,g,d,t,os⟩:=by
 have f1:=tc_lookup;have f2:=tc_bind (.ref C);have hT:(⟨h,g,d,t,os⟩:qJ5).TypeIs (.ref C) "type":=⟨_,hC,rfl⟩;refine wpAny_call (codeAny_of_tree ?_);show wpAny _ _ (callAny (.ref C) _) _ _ _
 repeat (any_goals (first|assumption|with_reducible refine qJg hC ?_|wp_step))
 refine⟨rfl,?_⟩;refine qLh (qK4 _ (by decide +kernel)) entry_typeCall (wpAny_check_type_call_sub hC (zH5 (hrest:=hrest) F hB hA hN hC hi hfI hfc fun h' e hm hz=>?_));exact hq h' e hm hz
def zQ2(F:qK6 B newId initId bmB)(hB:bm.contains (.type B)=true)(hA:bm.contains (.type "AttributeError")=false)(hN:bm.contains (.type "NameError")=false){rest:List Value}{Q:Fin->qJ5->Prop}
  (hC:h.get? C=some (excClassObj nm q C N bs bm hdct sn sub ab col dd k0 k1 k2 k3 k5 newId)) (hi:qF9 (model prog w) h (typeLookup (.ref C) "__init__") (some (.builtin initId)))
  (hq:∀h' e,qK0 h h' e (.ref C) rest->h.objs.size<=e->Q (.done (.ret (.ref e))) ⟨h',g,d,t,os⟩) (hrest:rest.length<=sizeLine) :
  wpAny (model prog w) A (qKf.«type.__call__» ⟨.ref C::rest,[]⟩) Q E ⟨h,g,d,t,os⟩:=by
 repeat (first|with_reducible refine qJg hC ?_|with_reducible refine qLj hC ?_|wp_step)
 refine qL9 (qK4 _ F.quiet) (zJP F hB hC ?_);refine zN1 F hB hA hN hC ?_ hrest;show wpAny _ _ _ _ _ _;have hC₁:=qJ4 { cls:=.ref C,data:=.fields #[.ref h.objs.size,.none,.none,.none,.bool false,.none] }
  (qJ4 { cls:=.type "tuple",data:=.seq rest.toArray } hC)
 have hi₁:=hi.keeps (h':=(h.push { cls:=.type "tuple",data:=.seq rest.toArray }).push { cls:=.ref C,data:=.fields #[.ref h.objs.size,.none,.none,.none,.bool false,.none] }) fun b o e=>qJ4 _ (qJ4 _ e)
 have hget:((h.push { cls:=.type "tuple",data:=.seq rest.toArray }).push
   { cls:=.ref C,data:=.fields #[.ref h.objs.size,.none,.none,.none,.bool false,.none] }).get? (h.objs.size+1)=some
   { cls:=.ref C,data:=.fields #[.ref h.objs.size,.none,.none,.none,.bool false,.none] }:=by heap_get
 have hcC:(qJc C::bm).contains (.ref C)=true:=by simp
 unfold isInstance
 repeat (first|with_reducible refine qJg hget ?_|(with_reducible refine qJu hC₁ ?_;rw[hcC])|wp_step)
 show wpAny _ _ (typeLookup (.ref C) _) _ _ _;refine hi₁.here ?_;refine wpAny_holding (wpAny_bind (wpAny_of_eq (F.init.bind _) ?_));refine wpAny_bind (wpAny_call (codeAny_call_builtin F.init.plain F.initEntry (zIL F hB hC₁ hget rfl ?_)))
 wp_walk
 refine hq _ _ ⟨fun b o hb=>?_,qJp (qC8 _),h.objs.size+2,?_,qJp (by lia),?_⟩ (qC8 _)
 ·rw[qJa _ _ (qBs (qBn (qJ6 hb)))];exact qJ4 _ (qJ4 _ (qJ4 _ hb))
 ·rw[qJ9 _ (qJ4 _ hget) rfl];simp only[qJj];rfl
 ·rw[qJa _ _ (show h.objs.size+1≠h.objs.size+2 by lia)];exact qLb (by simp only[qJj]) rfl
def callX(F:qK6 B newId initId bmB)(hB:bm.contains (.type B)=true)(hA:bm.contains (.type "AttributeError")=false)(hN:bm.contains (.type "NameError")=false){rest:List Value}{Q:Value->qJ5->Prop}
  (hC:h.get? C=some (excClassObj nm q C N bs bm hdct sn sub ab col dd k0 k1 k2 k3 k5 newId)) (hi:qF9 (model prog w) h (typeLookup (.ref C) "__init__") (some (.builtin initId)))
  (hq:∀h' e,qK0 h h' e (.ref C) rest->h.objs.size<=e->Q (.ref e) ⟨h',g,d,t,os⟩) (hrest:rest.length<=sizeLine) :
  wpAny (model prog w) A (call (.ref C) rest) Q E ⟨h,g,d,t,os⟩:=by
 have f1:=tc_lookup;have f2:=tc_bind (.ref C);have hT:(⟨h,g,d,t,os⟩:qJ5).TypeIs (.ref C) "type":=⟨_,hC,rfl⟩;refine wpAny_call (codeAny_of_tree ?_);show wpAny _ _ (callAny (.ref C) _) _ _ _
 repeat (any_goals (first|assumption|with_reducible refine qJg hC ?_|wp_step))
 refine⟨rfl,?_⟩;refine qLh (qK4 _ (by decide +kernel)) entry_typeCall (wpAny_check_type_call_sub hC (zQ2 (hrest:=hrest) F hB hA hN hC hi fun h' e hm hz=>?_));exact hq h' e hm hz
def call_baseX(F:qK6 B newId initId bmB)(hB:bm.contains (.type B)=true){e t1:Addr}{di:Option Addr}{rest:List Value}{Q:Value->qJ5->Prop}{newId':String}
  (hC:h.get? C=some (excClassObj nm q C N bs bm hdct sn sub ab col dd k0 k1 k2 k3 k5 newId')) (he:h.get? e=some { cls:=.ref C,dict:=di,data:=.fields #[.ref t1,.none,.none,.none,.bool false,.none] })
  (hq:∀h' t0,(∀b o,b≠e->h.get? b=some o->h'.get? b=some o)->h'.get? e=some { cls:=.ref C,dict:=di,data:=.fields #[.ref t0,.none,.none,.none,.bool false,.none] }->Q .none ⟨h',g,d,t,os⟩) (hrest:rest.length<=sizeLine) :
  wpAny (model prog w) A (call (.builtin initId) (.ref e::rest)) Q E ⟨h,g,d,t,os⟩:=by
 refine wpAny_call (codeAny_call_builtin F.init.plain F.initEntry (zIL F hB hC he rfl ?_))
 wp_walk
 refine hq _ h.objs.size (fun b o hbe hb=>?_) ?_
 ·rw[qJa _ _ (qCv hbe)];exact qJ4 _ hb
 ·rw[qJ9 _ (qJ4 _ he) rfl];rfl
end
section
variable{M:Model}{A:qJb}{E:Value->qJ5->Prop}{s:qJ5}{env:Env}
variable{nm q:Str}{C N:Addr}{bs bm:List Value}{hdct:Bool}{sn:List Str}{sub:List Value}{ab:Bool}{col:Option Bool}{dd:Option Addr}{k0 k1 k2 k3 k5:Option Value}{newId:String}
def raiseX{x:Sem Value}{Q:Flow->qJ5->Prop}(hh:A.handled=none)
  (h:wpAny M A x (fun v s₁=>∃e t di nm q C N bs bm hdct sn sub ab col dd k0 k1 k2 k3 k5 newId,v=.ref e/\s₁.heap.get? C=some (excClassObj nm q C N bs bm hdct sn sub ab col dd k0 k1 k2 k3 k5 newId)/\bm.contains (.type "BaseException")=true /\
   s₁.heap.get? e=some { cls:=.ref C,dict:=di,data:=.fields #[.ref t,.none,.none,.none,.bool false,.none] }/\E (.ref e) s₁) E s) :
  wpAny M A (raiseStmt env (some x) none) Q E s:=by
 unfold raiseStmt;refine wpAny_bind (wpAny_mono h (fun v s₁ h₁=>?_) fun _ _ x=>x);obtain⟨e,t,di,nm,q,C,N,bs,bm,hdct,sn,sub,ab,col,dd,k0,k1,k2,k3,k5,newId,rfl,hC,hbase,he,hE⟩:=h₁;have hcB:(qJc C::bm).contains (.type "BaseException")=true:=by rw[qC6,hbase,qFu]
 obtain⟨hp,g,d,tk,os⟩:=s₁
 repeat (first|with_reducible refine qJg he ?_|with_reducible refine qJg hC ?_|(with_reducible refine qJu hC ?_;rw[hcB])|wp_step)
 exact wpAny_raiseNew_none hh hE
def RaiseX{x:Expr}{pos:Pos}{Q:Flow->qJ5->Prop}(hh:A.handled=none)
  (h:wpAny M A (eval x env) (fun v s₁=>∃e t di nm q C N bs bm hdct sn sub ab col dd k0 k1 k2 k3 k5 newId,v=.ref e/\s₁.heap.get? C=some (excClassObj nm q C N bs bm hdct sn sub ab col dd k0 k1 k2 k3 k5 newId)/\bm.contains (.type "BaseException")=true /\
   s₁.heap.get? e=some { cls:=.ref C,dict:=di,data:=.fields #[.ref t,.none,.none,.none,.bool false,.none] }/\E (.ref e) s₁) E s) :
  wpAny M A (exec (.Raise (some x) none pos) env) Q E s:=by
 rw[arm_exec_Raise]
 first
  |exact wpAny_bind (wpAny_standAt (raiseX hh (wpAny_bind (wpAny_mono h (fun v s₁ h₁=>wpAny_bind (wpAny_standAt (wpAny_pure h₁))) fun _ _ x=>x))))
  |(simp only[evalOpt,Option.map];exact wpAny_bind (wpAny_standAt (raiseX hh (wpAny_bind (wpAny_mono h (fun v s₁ h₁=>wpAny_bind (wpAny_standAt (wpAny_pure h₁))) fun _ _ x=>x)))))
  |(show wpAny M A (do qN5 pos;raiseStmt env (some (do let v <- eval x env;qN5 pos;pure v)) none) Q E s;exact wpAny_bind (wpAny_standAt (raiseX hh (wpAny_bind (wpAny_mono h (fun v s₁ h₁=>wpAny_bind (wpAny_standAt (wpAny_pure h₁))) fun _ _ x=>x)))))
end
section
open PySem.W
end
end PySem.Xc
namespace L2
open PySem PySem.Spec PyProof.Rows
def XN(e:Addr)(C:Value)(d:Option Addr)(h:Heap):Prop:=∃t1,h.get? e=some { cls:=C,dict:=d,data:=.fields #[.ref t1,.none,.none,.none,.bool false,.none] }
abbrev xn(e:Addr)(C:Value)(d:Option Addr):HO:=.ext (XN e C d)
def zZG{e:Addr}{C:Value}{d:Option Addr}(h1 h2:Heap)(x:XN e C d h1)(k:∀o,h1.get? e=some o->h2.get? e=some o):XN e C d h2:=let⟨t1,a⟩:=x;⟨t1,k _ a⟩
def zZF{e:Addr}{C:Value}{d:Option Addr}(h1 h2:Heap)(x:XO e C d h1)(k:∀o,h1.get? e=some o->h2.get? e=some o):XO e C d h2:=let⟨oe,vs,a,r⟩:=x;⟨oe,vs,k _ a,r⟩
def zaD{P:qJ8}{w:World}{H:Hp}{h:Heap}{e:Addr}{C:Value}{d:Option Addr}(x:XN e C d h):ObjOk P w H h e (xn e C d):=⟨x,let⟨t1,a⟩:=x;⟨_,a⟩,zZG⟩
def zg7{P:qJ8}{w:World}{H:Hp}{h:Heap}{e:Addr}{C:Value}{d:Option Addr}(x:XO e C d h):ObjOk P w H h e (xo e C d):=⟨x,let⟨oe,vs,a,_⟩:=x;⟨_,a⟩,zZF⟩
section
variable{X:Cx}{pins:List (Addr×Obj)}{σ:St}{H:Hp}{s:qJ5}{k:Nat}{f C:Addr}{fd:qJr}{ps:List Str}{sp:Sp}{x:Str}{p pos:Pos}{e:Expr}{es:List Expr}{t:TA}{te:TE}
def zOU(C:Addr)(sp:Sp)(E:XK)(t:TA):TE:=fun σ H Q=>t σ H fun vs H1=>vs.length<=sizeLine/\∀e,H1 e=none->sp (.ref e::vs) (upd H1 e (xn e (.ref C) none)) (fun v H2=>v=.non/\Q (.ref e) H2) E
def zNK(C:Addr)(t:TA):TE:=fun σ H Q=>t σ H fun vs H1=>vs.length<=sizeLine/\∀e,H1 e=none->Q (.ref e) (upd H1 e (xn e (.ref C) none))
def Inv.madeX{h':Heap}{e:Addr}{us:List Value}(I:Inv X pins σ H s)(m:qK0 s.heap h' e (.ref C) us)(hs:s.heap.objs.size<=e):H e=none/\Inv X pins σ (upd H e (xn e (.ref C) none)) { s with heap:=h' }:=by
 obtain⟨t1,h1,_⟩:=m.there;exact⟨I.hok.fresh hs,I.laid (t':=s.toks) m.keeps hs (zaD ⟨t1,h1⟩)⟩
def zRS{Q:VK}{E:XK}{us:List Value}{vs:List V}(hc:PySem.W.xcIn X.K C=true)(hi:qAv X.K (.ref C) "__init__" = some (some (.ref f)))(hf:qFv X.K (.ref f)=true)(F:FnOk X.prog X.w X.K X.mg X.base (CXe X.prog X.w) k f fd ps sp)
  (hr:Room (k+1) X.A) (hb:Binds X.K fd ps []) (hx:zJS (CXe X.prog X.w) X E) (I:Inv X pins σ H s) (r:Vals vs us) (hz:vs.length<=sizeLine)
  (h:∀e,H e=none->sp (.ref e::vs) (upd H e (xn e (.ref C) none)) (fun v H2=>v=.non/\Q (.ref e) H2) E) :
  wpAny (model X.prog X.w) X.A (call (.ref C) us) (EP X pins σ Q) X.xe s:=by
 obtain⟨nm,qn,N,bs,bm,hdct,sn,sub,ab,col,dd,k0,k1,k2,k3,k5,hC,ht⟩:=PySem.W.xc_cls I.kIn hc;obtain⟨oI,hfI,hfc⟩:∃oI,s.heap.get? f=some oI/\oI.cls=.type "function":=by
  have hf':=beq_iff_eq.mp hf;obtain⟨o,ho,h2⟩:=qFl.mp (show(X.K.lookup f).map (·.cls)=some (.type "function") from hf');exact⟨o,I.kIn _ _ ho,h2⟩
 have hC':s.heap.get? C=some (excClassObj nm qn C N bs bm hdct sn sub ab col dd k0 k1 k2 k3 k5 "ValueError.__new__"):=hC;have hus:us.length<=sizeLine:=by rw[<- r.length];exact hz
 have key:∀h' e,qK0 s.heap h' e (.ref C) us->s.heap.objs.size<=e->wpAny (model X.prog X.w) (X.A.under (.builtin "type.__call__" ⟨.ref C::us,[]⟩)) (call (.ref f) (.ref e::us)) (fun r s'=>r=.none/\EP X pins σ Q (.ref e) s') X.xe { s with heap:=h' }:=by
  intro h' e m hs;obtain⟨he,I2⟩:=I.madeX m hs;have hq:=h e he;have r2:Vals (V.ref e::vs) (qJc e::us):=.cons rfl r;have hl:(qJc e::us++[]).length=ps.length:=by
   rw[qD4,<- r2.length];exact F.len _ _ _ _ hq
  have hbb:=hb _ (qJc e::us) I2.kIn hl;rw[qD4]at hbb;refine wpAny_call (codeAny_mono (F.run _ X.stack _ _ ⟨qJc e::us,[]⟩ (qJc e::us) _ _ E (hr.make C us []) (I2.env0.make C us []) hbb r2 hq) fun r s' hq'=>?_);cases r with
  |error x=>exact hx pins σ _ _ x s' I2 hq'
  |ok fl=>
   cases fl with
   |ret u=>
    obtain⟨v,H',I3,rv,ev,q3⟩:=I2.after hq';subst ev;exact⟨rv,⟨V.ref e,H',I3,rfl,q3⟩⟩
   |next=>exact qA3 hq'
   |brk=>exact qA3 hq'
   |cont=>exact qA3 hq'
 have hK:=qGa (M:=model X.prog X.w) I.kIn hi;obtain⟨hh,g,d,tk,os⟩:=s;exact Xc.call_initX qDc (PySem.W.exc_con ht (by decide)) (PySem.W.exc_con ht (by decide)) (PySem.W.exc_con ht (by decide)) hC' hK hfI hfc key hus
def zQB{Q:VK}{us:List Value}{vs:List V}(hc:PySem.W.xcIn X.K C=true)(hi:qAv X.K (.ref C) "__init__" = some (some (.builtin "ValueError.__init__")))
  (I:Inv X pins σ H s) (r:Vals vs us) (hz:vs.length<=sizeLine) (h:∀e,H e=none->Q (.ref e) (upd H e (xn e (.ref C) none))):wpAny (model X.prog X.w) X.A (call (.ref C) us) (EP X pins σ Q) X.xe s:=by
 obtain⟨nm,qn,N,bs,bm,hdct,sn,sub,ab,col,dd,k0,k1,k2,k3,k5,hC,ht⟩:=PySem.W.xc_cls I.kIn hc;have hus:us.length<=sizeLine:=by rw[<- r.length];exact hz
 have key:∀h' e,qK0 s.heap h' e (.ref C) us->s.heap.objs.size<=e->EP X pins σ Q (.ref e) { s with heap:=h' }:=by
  intro h' e m hs;obtain⟨he,I2⟩:=I.madeX m hs;exact⟨.ref e,_,I2,rfl,h e he⟩
 have hK:=qGa (M:=model X.prog X.w) I.kIn hi;obtain⟨hh,g,d,tk,os⟩:=s;exact Xc.callX qDc (PySem.W.exc_con ht (by decide)) (PySem.W.exc_con ht (by decide)) (PySem.W.exc_con ht (by decide)) hC hK key hus
def zWA{E:XK}(hc:PySem.W.xcIn X.K C=true)(hi:qAv X.K (.ref C) "__init__" = some (some (.ref f)))(hf:qFv X.K (.ref f)=true)(F:FnOk X.prog X.w X.K X.mg X.base (CXe X.prog X.w) k f fd ps sp)
  (hr:Room (k+1) X.A) (hb:Binds X.K fd ps []) (hx:zJS (CXe X.prog X.w) X E) (hg:Gl X x) (hm:X.mg x=some (.ref C)) (hk:qBj X.K (.ref C)=true)
  (ha:PA X (e::es) t) (hdb:(x==("__debug__":Str))=false:=by decide) (he:starEach (e::es) X.env=(false,eval e X.env)::starEach es X.env:=by rfl) (hpl:(backTo pos (starEach es X.env)).any (·.1)=false:=by rfl) :
  PE X (.Call (.Name x p) (e::es) [] pos) (zOU C sp E t):=by
 intro pins s σ H Q I h;refine qK3 (zI1 I hg hm ?_ hdb);refine qEr (h₀:=X.base) I.ok.mod.kin hk (thn (ha pos pins s σ H _ I h) fun us s1 ⟨vs,H1,I1,r,z,q⟩=>⟨I1.kIn,?_⟩) he hpl;exact zRS hc hi hf F hr hb hx I1 r z q
def zSE(hc:PySem.W.xcIn X.K C=true)(hi:qAv X.K (.ref C) "__init__" = some (some (.builtin "ValueError.__init__")))(hg:Gl X x)(hm:X.mg x=some (.ref C))(hk:qBj X.K (.ref C)=true)
  (ha:PA X (e::es) t) (hdb:(x==("__debug__":Str))=false:=by decide) (he:starEach (e::es) X.env=(false,eval e X.env)::starEach es X.env:=by rfl) (hpl:(backTo pos (starEach es X.env)).any (·.1)=false:=by rfl) :
  PE X (.Call (.Name x p) (e::es) [] pos) (zNK C t):=by
 intro pins s σ H Q I h;refine qK3 (zI1 I hg hm ?_ hdb);refine qEr (h₀:=X.base) I.ok.mod.kin hk (thn (ha pos pins s σ H _ I h) fun us s1 ⟨vs,H1,I1,r,z,q⟩=>⟨I1.kIn,?_⟩) he hpl;exact zQB hc hi I1 r z q
def zVA{e:Addr}{o:HO}(h:H e=some o):upd H e o=H:=by
 funext b;unfold upd;split
 ·rename_i z;rw[z];exact h.symm
 ·rfl
def Inv.xn{e:Addr}{d:Option Addr}{Cv:Value}(I:Inv X pins σ H s)(h:H e=some (xn e Cv d)):XN e Cv d s.heap:=(I.hok e _ h).1
def XN.xo{h:Heap}{e:Addr}{d:Option Addr}{Cv:Value}(x:XN e Cv d h):XO e Cv d h:=let⟨t1,a⟩:=x;⟨_,_,a,rfl,rfl,rfl,by simp⟩
def Inv.raised{e:Addr}{d:Option Addr}(I:Inv X pins σ H s)(h:H e=some (L2.xn e (.ref C) d))(E:XK)(q:E (.ref e) d (upd H e (xo e (.ref C) d))):XP X pins σ E (.ref e) s:=by
 have x:=I.xn h;obtain⟨t1,a⟩:=id x;have I':Inv X pins σ (upd H e (xo e (.ref C) d)) s:=I.write (t':=s.toks) (h':=s.heap) (e:=e) (by rw[h];trivial) (.inl rfl) (fun _ _ _ q=>q) ⟨_,a⟩ (zg7 x.xo);exact⟨s.heap.objs.size,e,.ref C,d,_,rfl,I',⟨zAA,.inl ⟨_,_,a,rfl,rfl,rfl,rfl⟩⟩,I.sz,qAa _,I.pinlt,q⟩
def Flies(X:Cx)(E:XK):Prop:=∀(pins:List (Addr×Obj))(σ:St)(x:Value)(s':qJ5),XP X pins σ E x s'->X.xe x s'
def Flies.passes{E:XK}(h:Flies X E):zJS (CXe X.prog X.w) X E:=fun pins σ H s x s' I q=>h pins σ x s' (I.flown q)
def zOT(K:qA2)(E:XK)(te:TE):TS:=fun _ σ H=>te σ H fun v H1=>∃e C d,v=.ref e/\H1 e=some (L2.xn e (.ref C) d)/\PySem.W.xcIn K C=true/\E (.ref e) d (upd H1 e (xo e (.ref C) d))
def zPA{E:XK}(he:PE X e te)(hf:Flies X E)(hc:X.calm=true):PS X (.Raise (some e) none pos) (zOT X.K E te):=by
 intro pins s σ H D I h;refine Xc.RaiseX (I.ok.hd hc) (thn (he pins s σ H _ I h) fun v s1 z0=>?_);obtain⟨y,H1,I1,ry,a,C,d,ey,ha,hx,q⟩:=z0;subst ey;cases ry;obtain⟨t1,hg⟩:=I1.xn ha;obtain⟨nm,qn,N,bs,bm,hdct,sn,sub,ab,col,dd,k0,k1,k2,k3,k5,hC,ht⟩:=PySem.W.xc_cls I1.kIn hx;exact⟨a,t1,d,nm,qn,C,N,bs,bm,hdct,sn,sub,ab,col,dd,k0,k1,k2,k3,k5,_,rfl,hC,PySem.W.exc_con ht (by decide),hg,hf pins σ _ _ (I1.raised ha E q)⟩
def zY3(K:qA2)(t:TA):TE:=fun σ H Q=>t σ H fun vs H1=>∃e C d rest,vs=.ref e::rest/\H1 e=some (L2.xn e (.ref C) d)/\PySem.W.xcIn K C=true/\rest.length<=sizeLine/\Q .non H1
structure XBase(K:qA2)(B:Addr):Prop where
 ga:qE1 K (.ref B) "__getattribute__" = some (some (.builtin "type.__getattribute__"))
 rd:qHf K B (.type "type")=true
 fd:qHg K (.ref B) (.type "type") "__init__" = some (.val (.builtin "ValueError.__init__"))
 hi:qH8 (.builtin "ValueError.__init__")=true
def zWC{B:Addr}{apos:Pos}{pl:Sem Bool}(hB:XBase X.K B)(hg:Gl X x)(hm:X.mg x=some (.ref B))(ha:PA X (e::es) t)(hdb:(x==("__debug__":Str))=false:=by decide)
  (he:starEach (e::es) X.env=(false,eval e X.env)::starEach es X.env:=by rfl) (hpl:(backTo pos (starEach es X.env)).any (·.1)=false:=by rfl)
  (ht:eval (.Call (.Attribute (.Name x p) "__init__" apos) (e::es) [] pos) X.env=(do
   let ov <- eval (.Name x p) X.env
   qN5 apos.atName
   let(f,first) <- holding [ov] (getMethod ov "__init__" pl)
   callWith pos f first (backTo pos (starEach (e::es) X.env)) (backToKw pos (keywordEach [] X.env))):=by rfl) :
  PE X (.Call (.Attribute (.Name x p) "__init__" apos) (e::es) [] pos) (zY3 X.K t):=by
 intro pins s σ H Q I h;refine PySem.W.methodCall_KW (pl:=pl) (zI1 I hg hm ?_ hdb) ht;refine PySem.W.method_cls I.kIn hB.ga (PySem.W.cls_value I.kIn hB.rd hB.fd hB.hi ?_);have I':=I.tok (s.toks+1);refine qE8 (thn (ha pos pins _ σ H _ I' h) fun us s1 z0=>?_) he hpl;obtain⟨vs,H1,I1,r1,a,C,d,rest,ev,ea,hx,hz,q⟩:=z0;subst ev;cases r1 with
 |cons ru r2=>
  cases ru;obtain⟨t1,hg1⟩:=I1.xn ea;obtain⟨nm,qn,N,bs,bm,hdct,sn,sub,ab,col,dd,k0,k1,k2,k3,k5,hC,htl⟩:=PySem.W.xc_cls I1.kIn hx;have hus:=r2.length;obtain⟨hh,g,dr,tk,os⟩:=s1;refine Xc.call_baseX qDc (PySem.W.exc_con htl (by decide)) hC hg1 (fun h' t0 k1 k2=>?_) (by rw[<- hus];exact hz);have I2:Inv X pins σ (upd H1 a (L2.xn a (.ref C) d)) { heap:=h',gens:=g,drawn:=dr,toks:=tk,os:=os }:=
   I1.write (h':=h') (t':=tk) (e:=a) (by rw[ea];trivial) (.inl rfl) (fun b u hb e=>k1 b u hb e) ⟨_,k2⟩ (zaD ⟨t0,k2⟩)
  rw[zVA ea]at I2;exact⟨.non,H1,I2,rfl,q⟩
structure XSet(K:qA2)(C:Addr)(f:Str):Prop where
 st:qAv K (.ref C) "__setattr__" = some (some (.builtin "object.__setattr__"))
 ov:PySem.W.excOver K C=true
 tk:qHh K C f=some none
 hd:(qEj K C).any (·.hasDict)=true
def zY5(K:qA2)(ta tv:TE)(f:Str):TS:=fun D σ H=>tv σ H fun y H1=>ta σ H1 fun x H2=>∃e C,x=.ref e/\H2 e=some (L2.xn e (.ref C) none)/\XSet K C f /\
 ∀d,H2 d=none->d≠e->D.nx σ (upd (upd H2 d (.xd [(f,y)])) e (L2.xn e (.ref C) (some d)))
def zW5{o value:Expr}{f:Str}{pos':Pos}{ta tv:TE}(ha:PE X o ta)(hv:PE X value tv)(hs:qM1 value (some (.Attribute o f pos')) pos.line X.env=pure false):PS X (.Assign [.Attribute o f pos'] value pos) (zY5 X.K ta tv f):=by
 intro pins s σ H D I h;refine plainObj_wpAny_Assign_Attribute (thn (hv pins s σ H _ I h) fun u s1 ⟨y,H1,I1,ry,q⟩=>thn (ha pins s1 σ H1 _ I1 q) fun ov s2 ⟨x,H2,I2,rx,a,C,ex,ea,c,q2⟩=>?_) hs;subst ex;obtain rfl:ov=qJc a:=rx;obtain⟨t1,hg1⟩:=I2.xn ea;refine PySem.W.set_exc I2.kIn hg1 c.st c.ov c.tk c.hd fun h' tk' n1 g2 k2=>?_
 have hdn:H2 s2.heap.objs.size=none:=I2.hok.fresh (qAa _);have hne:s2.heap.objs.size≠a:=fun z=>by rw[z,ea]at hdn;cases hdn
 refine⟨σ,_,?_,q2 s2.heap.objs.size hdn hne⟩;have nb:∀b,H2 b=none->b≠a:=fun b hb z=>by rw[z,ea]at hb;cases hb
 have ndx:∀b o,s2.heap.get? b=some o->b≠s2.heap.objs.size:=fun b o e=>qAl (qJ6 e)
 have oth:∀b,b≠a->b≠s2.heap.objs.size->upd (upd H2 s2.heap.objs.size (.xd [(f,y)])) a (L2.xn a (.ref C) (some s2.heap.objs.size)) b=H2 b:=fun b h1 h2=>by rw[zAD h1,zAD h2]
 have tr:∀{b:Addr}{o:HO},H2 b=some o->(∀φ,o≠.ext φ)->upd (upd H2 s2.heap.objs.size (.xd [(f,y)])) a (L2.xn a (.ref C) (some s2.heap.objs.size)) b=some o:=fun{b o} hb hn=>by
  rw[oth b (fun z=>by rw[z,ea]at hb;cases hb;exact hn _ rfl) (fun z=>by rw[z,hdn]at hb;cases hb)];exact hb
 refine I2.un (h':=h') (t':=tk') ⟨fun b o e n _ _=>k2 b o (nb b n) e,fun b o e n _ _=>⟨o.slots,k2 b o (nb b n) e⟩,fun b o e n _=>by rw[oth b (nb b n) (ndx b o e)];exact n,fun b o e _=>?_,fun b xs e=>tr e fun _ z=>(by cases z),fun b o u e=>tr e fun _ z=>(by cases z),fun b ps e=>⟨#[],by rw[Array.append_empty];exact tr e fun _ z=>(by cases z)⟩⟩ fun b u e=>?_
 ·by_cases z:b=a
  ·rw[z];exact⟨_,g2⟩
  ·exact⟨o,k2 b o z e⟩
 ·by_cases z:b=a
  ·subst z;rw[zAA]at e;cases e;exact zaD ⟨t1,g2⟩
  ·rw[zAD z]at e
   by_cases z':b=s2.heap.objs.size
   ·subst z';rw[zAA]at e;cases e;refine⟨_,n1,fun g=>?_⟩
    by_cases hgf:g=f
    ·subst hgf;simp[qEm,RelO];exact ry
    ·have hb:(g==f)=false:=beq_eq_false_iff_ne.mpr hgf;simp[qEm,hb,hgf,RelO]
   ·rw[zAD z']at e;refine(I2.hok b u e).stay (fun c w hc q=>k2 c w ?_ q) (fun c q=>?_) (fun c xs q=>tr q fun _ z=>(by cases z)) fun c _ _ q _=>tr q fun _ z=>(by cases z)
    ·rcases hc with rfl|hc
     ·exact z
     ·intro y;rw[y,ea]at hc;cases hc
    ·exact tr q fun _ z=>(by cases z)
end
section
def isX(H:Hp)(e C:Addr)(d:Option Addr):Prop:=H e=some (xn e (.ref C) d)\/H e=some (xo e (.ref C) d)
end
end L2
namespace PySem.Xc
open PySem PySem.W
section
end
structure XIs(K:Frag)(C:Addr):Prop where
 xc:xcIn K C=true
 ga:findIn K (.ref C) "__getattribute__" = some (some (.builtin "BaseException.__getattribute__"))
 gg:findIn K (.ref C) "__getattr__" = some none
 hd:hasDictIn K C=true
 ca:findIn K (.ref C) "__class__" = some (some (.builtin "object.__class__"))
 cg:specialIn K (.builtin "object.__class__") "__get__" = some (some (.builtin "getset_descriptor.__get__"))
 ct:takesIn K (.builtin "object.__class__")=some true
 mo:mroIn K C (.type "object")=some true
end PySem.Xc
namespace Att
open PySem PySem.W PySem.Calls PyProof.Rows
def zZI{ns:List Int}(h:qMu (ns.map qMt)<=2 ^ 20):∀i∈ns,i.natAbs.log2<2 ^ 20:=by
 induction ns with
 |nil=>intro i hi;cases hi
 |cons n r ih=>
  rw[qAd,qMu]at h;intro i hi;rcases qAc.mp hi with rfl|hi
  ·rw[qNd]at h
   split at h
   ·rename_i z
    have:i=0:=beq_iff_eq.mp z;subst this;decide
   ·lia
  ·exact ih (by lia) i hi
def attach_callW{l:OpenLaw}{n:Nat}{q:qJ8}{loose:List Str}{XP:(Str->Option Value)->Heap->Prop}{YP:World->Heap->Prop}{d:DefRec}
  (hn:l.most=some n) (hdf:d.params.defaults=[])
  (call:∀(w:World)(s₀ s₁:qJ5)(mg mb:Str->Option Value)(fa:Addr)(o:Obj)(pm cd doc:Value)(a:Addr)(vs:List Value)(ns:List Int),
   Ground q loose [] XP w s₀ mg mb s₁.heap->YP w s₁.heap ->
   s₁.heap.get? fa=some o->o.data=.func (docDef d.name d.params d.body d.scope pm cd doc)->s₁.heap.CodeRec cd d.name->mg d.name=some (.ref fa) ->
   s₁.heap.get? a=some { cls:=.type "list",data:=.seq vs.toArray }->qM8 vs ns->ns.length<=n->(∀i∈ns,i.natAbs.log2<2 ^ 20)->s₁.gens=#[] ->
   qKr (model l.prog w) qLx (.call (.ref fa) ⟨[.ref a],[]⟩) (fun r s'=>r=.ok (.ret (.bool true))/\OldK s₁.heap s'.heap/\s'.os=s₁.os/\qLe s'.gens) s₁) :
  WalkO q loose XP YP l.row.toRowW d [] (fun f vs=>qGy f vs):=by
 intro w s₀ s₁ mg mb G Y fa o pm cd doc dV kV ho hd hcd hD hmg hg args vals as hpre hlay hrd hwl hlo;obtain rfl:dV=.none:=Dflts.none hD hdf;obtain rfl:kV=.none:=Dflts.noKw hD;obtain⟨a,vs,ns,rfl,rfl,hobj,hints,hlen⟩:=zRR hn hpre hwl;have hw:∀i∈ns,i.natAbs.log2<2 ^ 20:=by
  have hl:qMm [WData.list (ns.map qMt)]=true:=hlay;simp only[qMm,qCx,List.all_nil,qF8,WData.layable,qBi,decide_eq_true_eq]at hl;exact zZI (by have:=hl.2;rw[qNd]at this;exact this)
 refine enter_call (codeAny_mono (call w s₀ s₁ mg mb fa o pm cd doc a vs ns G Y ho (fd_plain hd) hcd hmg hobj hints hlen hw hg) fun r s' hq=>?_);obtain⟨rfl,h2,h3,h4⟩:=hq;exact⟨.inl ⟨.bool true,.bool true,[],rfl,fun _=>rfl,.bool true,zS4 l _,fun _=>⟨qE4,fun _ hm=>(nomatch hm)⟩⟩,h2,h3,h4⟩
end Att
namespace L2
open PySem PySem.Spec PyProof.Rows
def HasX(P:qJ8)(w:World)(K:qA2)(mg:Str->Option Value)(base:Heap)(x:Str)(k:Nat)(ps:List Str)(sp:Sp):Prop:=
 ∃f fd,FnOk P w K mg base (CXe P w) k f fd ps sp/\mg x=some (.ref f)/\qBj K (.ref f)=true/\Binds K fd ps []
section
variable{P:qJ8}{w:World}{K:qA2}{mg:Str->Option Value}{base:Heap}{x:Str}{k:Nat}{ps N:List Str}{sp:Sp}{st:Stmt}
def Fun.okX{y qual:Str}{f:Addr}{fd:qJr}(F:Fun K y qual st f fd)(S:FnScope N ps (zA7 st))(len:∀vs H Q E,sp vs H Q E->vs.length=ps.length)
  (hbody:∀(cdv:Value)(A:qJb)(outer:List Env)(s:qJ5)(H:Hp)(vs:List V)(Q:VK)(E:XK),Room k (A.deeper (envOfC qual (zA7 st) s.heap.objs.size f cdv))->sp vs H Q E ->
   ∃t,PSs (cxOf (CXe P w) P w K mg base N qual (zA7 st) f cdv A outer s H E) (zBD st) t/\t { nx:=fun _ H'=>Q .non H',rt:=Q } (start N vs) H):FnOk P w K mg base (CXe P w) (k+1) f fd ps sp:=by
 obtain⟨oc,od,kV,doc,pm,an,cdv,ct,osl,rfl,lk,hcd⟩:=F.ex;exact zeN lk hcd S len fun A outer s H vs Q E hr hsp=>hbody cdv A outer s H vs Q E hr hsp
def Def.okX(D:Def K mg x st)(S:FnScope N ps (zA7 st))
  (hb:∀(kV doc pm:Value)(an:Option Addr)(cdv ct:Value)(us:List Value),us.length=ps.length->qM2 (qBt x x (zCC st) (zBD st) (zA7 st) .none kV doc pm an cdv ct) ⟨us,[]⟩=pure (ps.zip us))
  (len:∀vs H Q E,sp vs H Q E->vs.length=ps.length)
  (hbody:∀(f:Addr)(cdv:Value)(A:qJb)(outer:List Env)(s:qJ5)(H:Hp)(vs:List V)(Q:VK)(E:XK),Room k (A.deeper (envOfC x (zA7 st) s.heap.objs.size f cdv))->sp vs H Q E ->
   ∃t,PSs (cxOf (CXe P w) P w K mg base N x (zA7 st) f cdv A outer s H E) (zBD st) t/\t { nx:=fun _ H'=>Q .non H',rt:=Q } (start N vs) H):HasX P w K mg base x (k+1) ps sp:=by
 obtain⟨f,fd,F,m⟩:=D;exact⟨f,fd,F.okX S len (fun cdv A outer s H vs Q E hr h=>hbody f cdv A outer s H vs Q E hr h),m,F.kp,F.binds hb⟩
def zCU{qual:Str}{scope:Scope}{f:Addr}{cd:Value}{A:qJb}{outer:List Env}{s:qJ5}{H:Hp}{E:XK}:Flies (cxOf (CXe P w) P w K mg base N qual scope f cd A outer s H E) E:=fun _ _ _ _ h=>zc3 (fun _ _ _ z=>z) h
end
section
variable{X:Cx}{x:Str}{j k:Nat}{ps:List Str}{sp:Sp}{e:Expr}{es:List Expr}{t:TA}{p pos:Pos}{E:XK}
def zTW:Flies X E0:=fun _ _ _ _ z0=>by
 obtain⟨_,_,_,_,_,_,_,_,_,_,_,h⟩:=z0;exact h.elim
def zHM(h:HasX X.prog X.w X.K X.mg X.base x j ps sp)(hjk:j<=k)(hr:Room k X.A)(hf:Flies X E)(hg:Gl X x)(ha:PA X (e::es) t)(hdb:(x==("__debug__":Str))=false:=by decide)
  (he:starEach (e::es) X.env=(false,eval e X.env)::starEach es X.env:=by rfl) (hpl:(backTo pos (starEach es X.env)).any (·.1)=false:=by rfl):PE X (.Call (.Name x p) (e::es) [] pos) (zLJ sp [] E t):=by
 obtain⟨f,fd,G,m,kp,b⟩:=h;exact zSF G (hr.mono hjk) hg m kp b .nil hf.passes ha hdb he hpl
end
def MulOk(i j:Int):Prop:=((-(2 ^ 64)<i/\i<2 ^ 64)\/(-(2 ^ 64)<j/\j<2 ^ 64))\/i.natAbs.log2+j.natAbs.log2<=67108864
def zUS(i:Int):qKg i<=i.natAbs.log2+1:=by
 unfold qKg;split<;>lia
def MulOk.ok{i j:Int}(h:MulOk i j):IntMulOk i j:=by
 rcases h with h|h
 ·exact CMul.ok h
 ·unfold IntMulOk;have h1:=zUS i;have h2:=zUS j;have h3:qLp ((qKg i:Int)+(qKg j:Int))=false:=by
   unfold qLp;have:(bitsLine:Int)=134217728:=by decide
   rw[this];simp only[gt_iff_lt,decide_eq_false_iff_not,Int.not_lt];lia
  rw[h3,qDe];exact qAh
section
variable{X:Cx}
def zd6:R2:=fun x y H Q=>match x,y with
 |.int i,.int j=>MulOk i j/\Q (.int (i*j)) H
 |_,_=>False
def zaA:OpR X (binaryOp .Mult) (rI MulOk fun i j=>.int (i*j)):=opI fun _ _ _ _ _ _ _ hc q=>mul_int q hc.ok
def zEH:OpR X (binaryOp .Mult) zd6:=by
 intro pins s σ H x y v u Q I rx ry h;cases x<;>cases y<;>first
  |exact zaA pins s σ H _ _ v u Q I rx ry ⟨_,_,rfl,rfl,h.1,h.2⟩
  |exact qA3 h
def zd9:R2:=fun x y H Q=>match x,y with
 |.int i,.int j=>(0<j/\j<1000000000000000000000000)/\Q (.int (i/j)) H
 |_,_=>False
def log2_lt{n:Nat}(h:n<1000000000000000000000000):n.log2<9000:=by
 by_cases z:n=0
 ·subst z;decide
 ·have h2:n<2 ^ 80:=by lia
  have:=(Nat.log2_lt z).mpr h2;lia
def zaB:OpR X (binaryOp .FloorDiv) (rI (fun _ j=>0<j/\j<1000000000000000000000000) fun i j=>.int (i/j)):=opI fun i j _ _ _ _ _ hc q=>by
 have h1:(0:Int)<j:=hc.1;have h2:j<1000000000000000000000000:=hc.2;exact floordiv_int (by lia) (by rw[Int.fdiv_eq_ediv_of_nonneg i (by lia)];exact q) (.inl (PyProof.noPylong_of_log2 (log2_lt (by lia))))
def zH4:OpR X (binaryOp .FloorDiv) zd9:=by
 intro pins s σ H x y v u Q I rx ry h;cases x<;>cases y<;>first
  |exact zaB pins s σ H _ _ v u Q I rx ry ⟨_,_,rfl,rfl,h.1,h.2⟩
  |exact qA3 h
end
def del(H:Hp)(a:Addr):Hp:=fun b=>if b=a then none else H b
def zZ4{H:Hp}{a b:Addr}(h:b≠a):del H a b=H b:=by unfold del;rw[if_neg h]
abbrev cel(co:Obj):HO:=.frz co (.ext fun _=>True)
section
end
abbrev lamO(q:Str)(params:Arguments)(body:Expr)(scope:Scope)(clos:List (Str×Addr))(pm cdv ctv:Value):Obj:=
 { cls:=.type "function",data:=.func (PySem.W.kla_fn "<lambda>" q params body scope clos pm cdv ctv) }
section
end
section
end
def cxLam(X:Cx)(N:List Str)(q:Str)(scope:Scope)(f:Addr)(cd:Value)(clos:List (Str×Addr))(s:qJ5)(H:Hp):Cx where
 prog:=X.prog
 w:=X.w
 K:=X.K
 mg:=X.mg
 base:=X.base
 A:=X.A.deeper (qH3 q scope s.heap.objs.size f cd clos)
 N:=N
 s₀:=s
 H₀:=H
 env:=qH3 q scope s.heap.objs.size f cd clos
 outer:=X.stack
 stack:=qH3 q scope s.heap.objs.size f cd clos::X.stack
 ex:=[]
 fn:=fun _=>false
 calm:=true
 pn:=[]
 xe:=fun _ _=>False
section
end
section
end
end L2
namespace L3
open PySem PySem.Spec
open L2 hiding Rep RepL
open Mi (Dt Xn R okR zA3 optR zA0 zA9 zAC zA8 zAB Rh Sl Ro EM TM AM FM IM SM Tg Out zAV zAO zB0 full frz frz1 frzAt)
section
class Kc where
 K:qA2
variable[Kc]
def clK(K:qA2)(c:Str):Option Addr:=match qC3 K qJf c with
 |some (some (.ref C))=>some C
 |_=>none
def SqR(K:qA2)(H:Hp)(a:Addr)(xs:List V):Prop:=SqL K H a xs\/SqT K H a xs
def zHC{K:qA2}{H H':Hp}{a:Addr}{xs:List V}(e:Same H H')(h:SqT K H a xs):SqT K H' a xs:=by
 rcases h with(h|⟨o,h⟩)|h
 ·exact .inl (.inl (e _ _ h))
 ·exact .inl (.inr ⟨o,e _ _ h⟩)
 ·exact .inr h
def zF8{K:qA2}{H H':Hp}{a:Addr}{xs:List V}(e:Same H H')(h:SqR K H a xs):SqR K H' a xs:=h.imp (fun z=>e.seq z) fun z=>zHC e z
def svV:Mi.Sv->V
 |.i n=>.int n
 |.s x=>.str x
def swV:Mi.Sw->V
 |.non=>.non
 |.bl b=>.bl b
 |.int i=>.int i
 |.str x=>.str x
def zb9:Expr->Option (Arguments×Expr×Scope×Str)
 |.Call _ [_,.Lambda ps b sc _] _ _=>match sc.names.find? fun p=>p.2==.free with
  |some (x,_)=>some (ps,b,sc,x)
  |none=>none
 |_=>none
def zfR:Stmt->Option (Arguments×Expr×Scope×Str)
 |.Return (some e) _=>zb9 e
 |.Assign _ e _=>zb9 e
 |.If _ (_::.Return (some e) _::_) _ _=>zb9 e
 |_=>none
def zgA(l:List Stmt):Option (Arguments×Expr×Scope×Str):=l.findSome? zfR
def lamK(K:qA2)(x:Str):Option (Arguments×Expr×Scope×Str):=match qC3 K qJf x with
 |some (some (.ref f))=>match K.lookup f with
  |some o=>match o.data with
   |.func fd=>match fd.body with
    |.stmts b=>zgA b
    |_=>none
   |_=>none
  |none=>none
 |_=>none
def lamQ(x:Str):Str:=x ++ ".<locals>." ++ "<lambda>"
def codP(K:qA2)(x:Str):Option Addr:=match qC3 K qJf x with
 |some (some (.ref f))=>match K.lookup f with
  |some o=>match o.data with
   |.func fd=>match fd.code with
    |.ref c=>match K.lookup c with
     |some o=>match o.data with
      |.fields vs=>match(vs[11]?:Option Value)with
       |some (.ref P)=>some P
       |_=>none
      |_=>none
     |none=>none
    |_=>none
   |_=>none
  |none=>none
 |_=>none
def makers:List Str:=["turned_at","exchanged_at","pivoted"]
def tabK(K:qA2):Hp:=fun P=>(makers.find? fun x=>codP K x==some P&&(lamK K x).isSome).map fun x=>.lam (lamQ x)
mutual
def Rep(H:Hp):Dt->V->Prop
 |.non,v=>v=.non
 |.bl b,v=>v=.bl b
 |.int i,v=>v=.int i
 |.str x,v=>v=.str x
 |.lst ds,v=>∃a xs,v=.ref a/\H a=some (.lst xs)/\RepL H ds xs
 |.tup ds,v=>∃a xs,v=.ref a/\H a=some (.tup xs)/\RepL H ds xs
 |.scr ns,v=>∃a,v=.ref a/\SqR Kc.K H a (ns.map V.int)
 |.exc c f d,v=>∃e C da,v=.ref e/\isX H e C da/\clK Kc.K c=some C/\((da=none/\f = "")\/∃a gs w,da=some a/\H a=some (.xd gs)/\gs.lookup f=some w/\Rep H d w)
 |.ins c fs,v=>∃a C dx,v=.ref a/\clK Kc.K c=some C/\H a=some (.ins C dx (fs.map fun p=>(p.1,svV p.2)))
 |.dct kvs,v=>∃a,v=.ref a/\H a=some (.dK (kvs.map fun p=>(p.1,swV p.2)))
 |.fn x d,v=>∃f,v=.ref f/\∃L cl pm cdv ctv co val w,lamK Kc.K x=some L/\H f=some (.fn (lamO (lamQ x) L.1 L.2.1 L.2.2.1 [(L.2.2.2,cl)] pm cdv ctv) (lamQ x))/\H cl=some (cel co)/\co.data=.cell (some val)/\RelV w val/\Rep H d w
def RepL(H:Hp):List Dt->List V->Prop
 |[],xs=>xs=[]
 |d::r,xs=>∃x q,xs=x::q/\Rep H d x/\RepL H r q
end
mutual
def Rep.mono{H H':Hp}(s:Same H H'):∀{d:Dt}{v:V},Rep H d v->Rep H' d v
 |.non,_,h=>h
 |.bl _,_,h=>h
 |.int _,_,h=>h
 |.str _,_,h=>h
 |.lst _,_,h=>by obtain⟨a,xs,e,e',r⟩:=h;exact⟨a,xs,e,s _ _ e',RepL.mono s r⟩
 |.tup _,_,h=>by obtain⟨a,xs,e,e',r⟩:=h;exact⟨a,xs,e,s _ _ e',RepL.mono s r⟩
 |.scr _,_,h=>by obtain⟨a,e,e'⟩:=h;exact⟨a,e,zF8 s e'⟩
 |.exc _ _ _,_,h=>by
  obtain⟨a,C,da,e,e',hc,r⟩:=h;refine⟨a,C,da,e,e'.imp (fun z=>s _ _ z) fun z=>s _ _ z,hc,r.imp (fun z=>z) ?_⟩
  rintro⟨b,gs,w,h1,h2,h3,h4⟩
  exact⟨b,gs,w,h1,s _ _ h2,h3,Rep.mono s h4⟩
 |.ins _ _,_,h=>by obtain⟨a,C,dx,e,hc,h1⟩:=h;exact⟨a,C,dx,e,hc,s _ _ h1⟩
 |.dct _,_,h=>by obtain⟨a,e,h1⟩:=h;exact⟨a,e,s _ _ h1⟩
 |.fn _ _,_,h=>by obtain⟨f,e,L,cl,pm,cdv,ctv,co,val,w,h1,h2,h3,h4,h5,h6⟩:=h;exact⟨f,e,L,cl,pm,cdv,ctv,co,val,w,h1,s _ _ h2,s _ _ h3,h4,h5,Rep.mono s h6⟩
def RepL.mono{H H':Hp}(s:Same H H'):∀{ds:List Dt}{xs:List V},RepL H ds xs->RepL H' ds xs
 |[],_,h=>h
 |_::_,_,h=>by obtain⟨x,q,e,r,t⟩:=h;exact⟨x,q,e,Rep.mono s r,RepL.mono s t⟩
end
def RepL.length{H:Hp}:∀{ds:List Dt}{xs:List V},RepL H ds xs->xs.length=ds.length
 |[],_,h=>by cases h;rfl
 |_::_,_,h=>by obtain⟨x,q,e,r,t⟩:=h;subst e;simp[RepL.length t]
mutual
def conv:Dt->L2.Dat
 |.non=>.non
 |.bl b=>.bl b
 |.int i=>.int i
 |.str x=>.str x
 |.lst ds=>.lst (convL ds)
 |.tup ds=>.tup (convL ds)
 |.scr _=>.non
 |.exc _ _ _=>.non
 |.fn _ _=>.non
 |.ins _ _=>.non
 |.dct _=>.non
def convL:List Dt->List L2.Dat
 |[]=>[]
 |d::r=>conv d::convL r
end
mutual
def zFM:∀{d:Dt},d.dep<=40->(conv d).dep<=d.dep
 |.non,_=>qAa _
 |.bl _,_=>qAa _
 |.int _,_=>qAa _
 |.str _,_=>qAa _
 |.lst ds,h=>by rw[Dt.dep]at h ⊢;rw[conv,L2.Dat.dep];have:=conv_depL (ds:=ds) (by lia);lia
 |.tup ds,h=>by rw[Dt.dep]at h ⊢;rw[conv,L2.Dat.dep];have:=conv_depL (ds:=ds) (by lia);lia
 |.scr _,h=>by rw[Dt.dep]at h;lia
 |.exc _ _ _,h=>by rw[Dt.dep]at h;lia
 |.fn _ _,h=>by rw[Dt.dep]at h;lia
 |.ins _ _,h=>by rw[Dt.dep]at h;lia
 |.dct _,h=>by rw[Dt.dep]at h;lia
def conv_depL:∀{ds:List Dt},Dt.depL ds<=40->L2.Dat.depL (convL ds)<=Dt.depL ds
 |[],_=>qAa _
 |d::r,h=>by
  rw[Dt.depL]at h ⊢;rw[convL,L2.Dat.depL];have h1:=zFM (d:=d) (by lia);have h2:=conv_depL (ds:=r) (by lia)
  lia
end
mutual
def zEA{H:Hp}:∀{d:Dt}{v:V},d.dep<=40->Rep H d v->L2.Rep H (conv d) v
 |.non,_,_,h=>h
 |.bl _,_,_,h=>h
 |.int _,_,_,h=>h
 |.str _,_,_,h=>h
 |.lst ds,_,hd,h=>by obtain⟨a,xs,e,e',r⟩:=h;exact⟨a,xs,e,e',conv_repL (by rw[Dt.dep]at hd;lia) r⟩
 |.tup ds,_,hd,h=>by obtain⟨a,xs,e,e',r⟩:=h;exact⟨a,xs,e,e',conv_repL (by rw[Dt.dep]at hd;lia) r⟩
 |.scr _,_,h,_=>by rw[Dt.dep]at h;lia
 |.exc _ _ _,_,h,_=>by rw[Dt.dep]at h;lia
 |.fn _ _,_,h,_=>by rw[Dt.dep]at h;lia
 |.ins _ _,_,h,_=>by rw[Dt.dep]at h;lia
 |.dct _,_,h,_=>by rw[Dt.dep]at h;lia
def conv_repL{H:Hp}:∀{ds:List Dt}{xs:List V},Dt.depL ds<=40->RepL H ds xs->L2.RepL H (convL ds) xs
 |[],_,_,h=>h
 |d::r,_,hd,h=>by
  rw[Dt.depL]at hd;obtain⟨x,q,e,a,b⟩:=h;exact⟨x,q,e,zEA (by lia) a,conv_repL (by lia) b⟩
end
mutual
def zOH:∀{d e:Dt},d.dep<=40->e.dep<=40->L2.Dat.eq (conv d) (conv e)=Dt.eq d e
 |.scr _,_,h,_=>by rw[Dt.dep]at h;lia
 |.exc _ _ _,_,h,_=>by rw[Dt.dep]at h;lia
 |.fn _ _,_,h,_=>by rw[Dt.dep]at h;lia
 |.ins _ _,_,h,_=>by rw[Dt.dep]at h;lia
 |.dct _,_,h,_=>by rw[Dt.dep]at h;lia
 |.lst ds,e,h,h'=>by
  rw[Dt.dep]at h;cases e with
  |lst es=>rw[Dt.dep]at h';rw[conv,conv,L2.Dat.eq,Dt.eq];exact conv_eqL (by lia) (by lia)
  |scr _=>rw[Dt.dep]at h';lia
  |exc _ _ _=>rw[Dt.dep]at h';lia
  |fn _ _=>rw[Dt.dep]at h';lia
  |ins _ _=>rw[Dt.dep]at h';lia
  |dct _=>rw[Dt.dep]at h';lia
  |_=>simp[conv,L2.Dat.eq,Dt.eq]
 |.tup ds,e,h,h'=>by
  rw[Dt.dep]at h;cases e with
  |tup es=>rw[Dt.dep]at h';rw[conv,conv,L2.Dat.eq,Dt.eq];exact conv_eqL (by lia) (by lia)
  |scr _=>rw[Dt.dep]at h';lia
  |exc _ _ _=>rw[Dt.dep]at h';lia
  |fn _ _=>rw[Dt.dep]at h';lia
  |ins _ _=>rw[Dt.dep]at h';lia
  |dct _=>rw[Dt.dep]at h';lia
  |_=>simp[conv,L2.Dat.eq,Dt.eq]
 |.non,e,_,h'=>by
  cases e with
  |scr _=>rw[Dt.dep]at h';lia
  |exc _ _ _=>rw[Dt.dep]at h';lia
  |fn _ _=>rw[Dt.dep]at h';lia
  |ins _ _=>rw[Dt.dep]at h';lia
  |dct _=>rw[Dt.dep]at h';lia
  |_=>simp[conv,L2.Dat.eq,Dt.eq]
 |.bl _,e,_,h'=>by
  cases e with
  |scr _=>rw[Dt.dep]at h';lia
  |exc _ _ _=>rw[Dt.dep]at h';lia
  |fn _ _=>rw[Dt.dep]at h';lia
  |ins _ _=>rw[Dt.dep]at h';lia
  |dct _=>rw[Dt.dep]at h';lia
  |_=>simp[conv,L2.Dat.eq,Dt.eq]
 |.int _,e,_,h'=>by
  cases e with
  |scr _=>rw[Dt.dep]at h';lia
  |exc _ _ _=>rw[Dt.dep]at h';lia
  |fn _ _=>rw[Dt.dep]at h';lia
  |ins _ _=>rw[Dt.dep]at h';lia
  |dct _=>rw[Dt.dep]at h';lia
  |_=>simp[conv,L2.Dat.eq,Dt.eq]
 |.str _,e,_,h'=>by
  cases e with
  |scr _=>rw[Dt.dep]at h';lia
  |exc _ _ _=>rw[Dt.dep]at h';lia
  |fn _ _=>rw[Dt.dep]at h';lia
  |ins _ _=>rw[Dt.dep]at h';lia
  |dct _=>rw[Dt.dep]at h';lia
  |_=>simp[conv,L2.Dat.eq,Dt.eq]
def conv_eqL:∀{ds es:List Dt},Dt.depL ds<=40->Dt.depL es<=40->L2.Dat.eqL (convL ds) (convL es)=Dt.eqL ds es
 |[],[],_,_=>by simp[convL,L2.Dat.eqL,Dt.eqL]
 |[],_::_,_,_=>by simp[convL,L2.Dat.eqL,Dt.eqL]
 |_::_,[],_,_=>by simp[convL,L2.Dat.eqL,Dt.eqL]
 |d::r,e::t,h,h'=>by
  rw[Dt.depL]at h h';rw[convL,convL,L2.Dat.eqL,Dt.eqL,zOH (by lia) (by lia),conv_eqL (by lia) (by lia)]
end
def zVX{G:Hp}{ds:List Dt}{xs:List V}(h:RepL G ds xs):xs.length=ds.length:=RepL.length h
def zBV{G:Hp}:∀{ds:List Dt}{xs:List V}{q:Nat}{d:Dt}{x:V},RepL G ds xs->ds[q]?=some d->xs[q]?=some x->Rep G d x
 |[],_,_,_,_,_,h,_=>by simp at h
 |d::r,xs,0,e,y,h,h1,h2=>by
  obtain⟨x,t,rfl,a,b⟩:=h;simp at h1 h2;subst h1;subst h2;exact a
 |d::r,xs,q+1,e,y,h,h1,h2=>by
  obtain⟨x,t,rfl,a,b⟩:=h;exact zBV b (by simpa using h1) (by simpa using h2)
def zEV{G:Hp}:∀{ds:List Dt}{xs:List V},xs.length=ds.length->(∀(q:Nat)(d:Dt)(x:V),ds[q]?=some d->xs[q]?=some x->Rep G d x)->RepL G ds xs
 |[],[],_,_=>rfl
 |[],_::_,h,_=>by simp at h
 |_::_,[],h,_=>by simp at h
 |d::r,x::t,h,k=>⟨x,t,rfl,k 0 d x rfl rfl,zEV (by simpa using h) fun q e y h1 h2=>k (q+1) e y (by simpa using h1) (by simpa using h2)⟩
def zE1{n:Nat}:∀{ds:List Dt},Dt.depL ds<=n->∀{q:Nat}{d:Dt},ds[q]?=some d->d.dep<=n
 |[],_,_,_,h=>by simp at h
 |e::r,h,0,d,h1=>by simp at h1;subst h1;rw[Dt.depL]at h;lia
 |e::r,h,q+1,d,h1=>by rw[Dt.depL]at h;exact zE1 (ds:=r) (by lia) (q:=q) (by simpa using h1)
def Rep.scalar{G G2:Hp}{d:Dt}{v:V}(h:Rep G d v)(hd:d.dep=0):Rep G2 d v:=by
 cases d with
 |lst ds=>rw[Dt.dep]at hd;lia
 |tup ds=>rw[Dt.dep]at hd;lia
 |scr ns=>rw[Dt.dep]at hd;lia
 |exc _ _ _=>rw[Dt.dep]at hd;lia
 |fn _ _=>rw[Dt.dep]at hd;lia
 |ins _ _=>rw[Dt.dep]at hd;lia
 |dct _=>rw[Dt.dep]at hd;lia
 |_=>exact h
structure Kids(P:(Addr->Prop)->Dt->V->Prop)(S:Addr->Prop)(a:Addr)(ds:List Dt)(xs:List V)(T:Nat->Addr->Prop):Prop where
 len:xs.length=ds.length
 own:∀(q:Nat)(d:Dt)(x:V),ds[q]?=some d->xs[q]?=some x->P (T q) d x
 top:S a
 out:∀q,¬T q a
 dis:∀q r b,T q b->T r b->q=r
 sub:∀q b,T q b->S b
def Own(G H:Hp):Nat->(Addr->Prop)->Dt->V->Prop
 |0,_,d,v=>Rep G d v
 |n+1,S,d,v=>match d with
  |.lst ds=>∃a xs T,v=.ref a/\H a=some (.lst xs)/\Kids (Own G H n) S a ds xs T
  |.tup ds=>∃a xs T,v=.ref a/\H a=some (.tup xs)/\Kids (Own G H n) S a ds xs T
  |.dct kvs=>∃a,v=.ref a/\H a=some (.dK (kvs.map fun p=>(p.1,swV p.2)))/\S a
  |d=>Rep G d v
def Kids.imp{P P':(Addr->Prop)->Dt->V->Prop}{S S':Addr->Prop}{a:Addr}{ds:List Dt}{xs:List V}{T:Nat->Addr->Prop}(k:Kids P S a ds xs T)
  (h:∀q d x,ds[q]?=some d->P (T q) d x->P' (T q) d x) (hs:∀b,S b->S' b):Kids P' S' a ds xs T:=
 ⟨k.len,fun q d x h1 h2=>h q d x h1 (k.own q d x h1 h2),hs _ k.top,k.out,k.dis,fun q b t=>hs _ (k.sub q b t)⟩
def Own.mono{G G' H H':Hp}(sG:Same G G')(sH:Same H H'):∀{n:Nat}{S:Addr->Prop}{d:Dt}{v:V},Own G H n S d v->Own G' H' n S d v
 |0,S,d,v,h=>Rep.mono sG h
 |n+1,S,d,v,h=>by
  cases d with
  |lst ds=>obtain⟨a,xs,T,e,ha,k⟩:=h;exact⟨a,xs,T,e,sH _ _ ha,k.imp (fun _ _ _ _ p=>Own.mono sG sH p) fun _ z=>z⟩
  |tup ds=>obtain⟨a,xs,T,e,ha,k⟩:=h;exact⟨a,xs,T,e,sH _ _ ha,k.imp (fun _ _ _ _ p=>Own.mono sG sH p) fun _ z=>z⟩
  |dct kvs=>obtain⟨a,e,ha,hs⟩:=h;exact⟨a,e,sH _ _ ha,hs⟩
  |_=>exact Rep.mono sG h
def Own.sub{G H:Hp}{n:Nat}{S S':Addr->Prop}{d:Dt}{v:V}(h:Own G H n S d v)(hs:∀b,S b->S' b):Own G H n S' d v:=by
 cases n with
 |zero=>exact h
 |succ n=>
  cases d with
  |lst ds=>obtain⟨a,xs,T,e,ha,k⟩:=h;exact⟨a,xs,T,e,ha,k.imp (fun _ _ _ _ p=>p) hs⟩
  |tup ds=>obtain⟨a,xs,T,e,ha,k⟩:=h;exact⟨a,xs,T,e,ha,k.imp (fun _ _ _ _ p=>p) hs⟩
  |dct kvs=>obtain⟨a,e,ha,h2⟩:=h;exact⟨a,e,ha,hs _ h2⟩
  |_=>exact h
def Own.rep{G H J:Hp}(sG:Same G J):∀{n:Nat}{S:Addr->Prop}{d:Dt}{v:V},Own G H n S d v->(∀a o,S a->H a=some o->J a=some o)->Rep J d v
 |0,S,d,v,h,_=>Rep.mono sG h
 |n+1,S,d,v,h,hj=>by
  cases d with
  |lst ds=>obtain⟨a,xs,T,e,ha,k⟩:=h;exact⟨a,xs,e,hj _ _ k.top ha,zEV k.len fun q d x h1 h2=>Own.rep sG (k.own q d x h1 h2) fun b o t hb=>hj b o (k.sub q b t) hb⟩
  |tup ds=>obtain⟨a,xs,T,e,ha,k⟩:=h;exact⟨a,xs,e,hj _ _ k.top ha,zEV k.len fun q d x h1 h2=>Own.rep sG (k.own q d x h1 h2) fun b o t hb=>hj b o (k.sub q b t) hb⟩
  |dct kvs=>obtain⟨a,e,ha,hs⟩:=h;exact⟨a,e,hj _ _ hs ha⟩
  |_=>exact Rep.mono sG h
def Own.at{G G2 H:Hp}:∀{n k:Nat}{S:Addr->Prop}{d:Dt}{v:V},Own G H n S d v->d.dep<=n->d.dep<=k->n<1000->Own G2 H k S d v
 |n,k,S,d,v,h,hn,hk,hz=>by
  cases d with
  |lst ds=>
   rw[Dt.dep]at hn hk;cases n with
   |zero=>lia
   |succ n=>
    cases k with
    |zero=>lia
    |succ k=>
     obtain⟨a,xs,T,e,ha,kd⟩:=h;refine⟨a,xs,T,e,ha,kd.imp (fun q d x h1 p=>?_) fun _ z=>z⟩;exact Own.at p (zE1 (by lia) h1) (zE1 (by lia) h1) (by lia)
  |tup ds=>
   rw[Dt.dep]at hn hk;cases n with
   |zero=>lia
   |succ n=>
    cases k with
    |zero=>lia
    |succ k=>
     obtain⟨a,xs,T,e,ha,kd⟩:=h;refine⟨a,xs,T,e,ha,kd.imp (fun q d x h1 p=>?_) fun _ z=>z⟩;exact Own.at p (zE1 (by lia) h1) (zE1 (by lia) h1) (by lia)
  |non=>cases n<;>cases k<;>exact h
  |bl b=>cases n<;>cases k<;>exact h
  |int i=>cases n<;>cases k<;>exact h
  |str x=>cases n<;>cases k<;>exact h
  |scr ns=>rw[Dt.dep]at hn;lia
  |exc _ _ _=>rw[Dt.dep]at hn;lia
  |fn _ _=>rw[Dt.dep]at hn;lia
  |ins _ _=>rw[Dt.dep]at hn;lia
  |dct _=>rw[Dt.dep]at hn;lia
termination_by n=>n
def Own.scalar{G H G2 H2:Hp}{n k:Nat}{S S2:Addr->Prop}{d:Dt}{v:V}(h:Own G H n S d v)(hd:d.dep=0):Own G2 H2 k S2 d v:=by
 cases d with
 |lst ds=>rw[Dt.dep]at hd;lia
 |tup ds=>rw[Dt.dep]at hd;lia
 |non=>cases n<;>cases k<;>exact h
 |bl b=>cases n<;>cases k<;>exact h
 |int i=>cases n<;>cases k<;>exact h
 |str x=>cases n<;>cases k<;>exact h
 |scr ns=>rw[Dt.dep]at hd;lia
 |exc _ _ _=>rw[Dt.dep]at hd;lia
 |fn _ _=>rw[Dt.dep]at hd;lia
 |ins _ _=>rw[Dt.dep]at hd;lia
 |dct _=>rw[Dt.dep]at hd;lia
def zYI{G H:Hp}{n:Nat}{S:Addr->Prop}{d:Dt}{v:V}(h:Rep G d v)(hd:d.dep=0):Own G H n S d v:=Own.scalar (n:=0) (G:=G) (H:=H) (S:=S) h hd
def Own.upd{G H:Hp}{p:Addr}{o:HO}:∀{n:Nat}{S:Addr->Prop}{d:Dt}{v:V},Own G H n S d v->¬S p->Own G (upd H p o) n S d v
 |0,S,d,v,h,_=>h
 |n+1,S,d,v,h,hp=>by
  cases d with
  |lst ds=>
   obtain⟨a,xs,T,e,ha,k⟩:=h;have hap:a≠p:=fun z=>hp (z▸k.top)
   exact⟨a,xs,T,e,(zAD hap).trans ha,k.imp (fun q _ _ _ w=>Own.upd w fun z=>hp (k.sub q _ z)) fun _ z=>z⟩
  |tup ds=>
   obtain⟨a,xs,T,e,ha,k⟩:=h;have hap:a≠p:=fun z=>hp (z▸k.top)
   exact⟨a,xs,T,e,(zAD hap).trans ha,k.imp (fun q _ _ _ w=>Own.upd w fun z=>hp (k.sub q _ z)) fun _ z=>z⟩
  |dct kvs=>
   obtain⟨a,e,ha,hs⟩:=h;have hap:a≠p:=fun z=>hp (z▸hs)
   exact⟨a,e,(zAD hap).trans ha,hs⟩
  |_=>exact h
structure Ext(G H G' H':Hp):Prop where
 g:Same G G'
 h:Same H H'
 in':Same G' H'
 old:∀b,H b≠none->G' b=G b
def Ext.refl{G H:Hp}(s:Same G H):Ext G H G H:=⟨Same.refl _,Same.refl _,s,fun _ _=>rfl⟩
def _root_.L2.Same.some{H H':Hp}(s:Same H H'){b:Addr}(h:H b≠qGj):H' b≠qGj:=by
 cases e:H b with
 |none=>exact absurd e h
 |some o=>rw[s _ _ e];simp
def Ext.trans{G H G1 H1 G2 H2:Hp}(a:Ext G H G1 H1)(b:Ext G1 H1 G2 H2):Ext G H G2 H2:=
 ⟨a.g.trans b.g,a.h.trans b.h,b.in',fun c hc=>(b.old c (a.h.some hc)).trans (a.old c hc)⟩
structure Fr(G H G' H':Hp)(S:Addr->Prop):Prop where
 ext:Ext G H G' H'
 new:∀a,S a->H a=none/\G' a=none/\H' a≠none
open Classical in
noncomputable def over(G H:Hp)(S:Addr->Prop):Hp:=fun b=>if S b then H b else G b
def zDU{G H:Hp}{S:Addr->Prop}{a:Addr}(h:S a):over G H S a=H a:=by unfold over;rw[if_pos h]
def zC7{G H:Hp}{S:Addr->Prop}{a:Addr}(h:¬S a):over G H S a=G a:=by unfold over;rw[if_neg h]
def zCP{G H:Hp}{S:Addr->Prop}(s:Same G H):Same G (over G H S)/\Same (over G H S) H:=by
 constructor
 ·intro b o e
  by_cases z:S b
  ·rw[zDU z];exact s _ _ e
  ·rw[zC7 z];exact e
 ·intro b o e
  by_cases z:S b
  ·rw[zDU z]at e;exact e
  ·rw[zC7 z]at e;exact s _ _ e
def Fr.frz{G H G' H':Hp}{S:Addr->Prop}{n:Nat}{d:Dt}{v:V}(f:Fr G H G' H' S)(o:Own G' H' n S d v):Ext G H (over G' H' S) H'/\Rep (over G' H' S) d v:=by
 obtain⟨s1,s2⟩:=zCP (S:=S) f.ext.in';refine⟨⟨f.ext.g.trans s1,f.ext.h,s2,fun b hb=>?_⟩,o.rep s1 fun a u ha e=>by rw[zDU ha];exact e⟩;have z:¬S b:=fun z=>hb (f.new b z).1
 rw[zC7 z];exact f.ext.old b hb
structure View(G:Hp)(σ:St)(ρ:Rh):Prop where
 len:ρ.length=σ.length
 «at»:∀(i:Nat)(d:Dt),ρ[i]?=some (some d)->∃v,σ[i]?=some (some v)/\Rep G d v
 tab:Same (tabK Kc.K) G
def View.mono{G G':Hp}{σ:St}{ρ:Rh}(s:Same G G')(h:View G σ ρ):View G' σ ρ:=⟨h.len,fun i d e=>let⟨v,a,b⟩:=h.at i d e;⟨v,a,Rep.mono s b⟩,h.tab.trans s⟩
def XRep(mg:Str->Option Value)(x:Xn)(c:Value)(da:Option Addr)(G H:Hp):Prop:=
 ∃e C,c=.ref e/\G e=some (xo e (.ref C) da)/\clK Kc.K x.cls=some C/\((da=none/\x.f = "")\/∃a gs w,da=some a/\G a=some (.xd gs)/\gs.lookup x.f=some w/\Rep G x.d w)
def PostE(mg:Str->Option Value)(E:XK)(G H:Hp)(n:Nat)(r:R Dt)(Q:VK):Prop:=match r with
 |none=>False
 |some (.error x)=>∀c da G' H',Ext G H G' H'->XRep mg x c da G' H'->E c da H'
 |some (.ok d)=>∀v G' H' S,Fr G H G' H' S->Own G' H' n S d v->Q v H'
def PostT(mg:Str->Option Value)(E:XK)(G H:Hp)(r:R Bool)(Q:Bool->Hp->Prop):Prop:=match r with
 |none=>False
 |some (.error x)=>∀c da G' H',Ext G H G' H'->XRep mg x c da G' H'->E c da H'
 |some (.ok b)=>∀H',Same H H'->Q b H'
structure OwnA(G H:Hp)(n:Nat)(S:Addr->Prop)(ds:List Dt)(xs:List V)(T:Nat->Addr->Prop):Prop where
 len:xs.length=ds.length
 own:∀(q:Nat)(d:Dt)(x:V),ds[q]?=some d->xs[q]?=some x->Own G H n (T q) d x
 dis:∀q r b,T q b->T r b->q=r
 sub:∀q b,T q b->S b
def zfA(mg:Str->Option Value)(E:XK)(G H:Hp)(n:Nat)(r:R (List Dt))(Q:List V->Hp->Prop):Prop:=match r with
 |none=>False
 |some (.error x)=>∀c da G' H',Ext G H G' H'->XRep mg x c da G' H'->E c da H'
 |some (.ok ds)=>∀vs G' H' S T,Fr G H G' H' S->OwnA G' H' n S ds vs T->Q vs H'
def DE(mg:Str->Option Value)(E:XK)(t:TE)(m:EM)(n:Nat):Prop:=∀(G H:Hp)(σ:St)(ρ:Rh)(Q:VK),Same G H->View G σ ρ->PostE mg E G H n (m ρ) Q->t σ H Q
def DT(mg:Str->Option Value)(E:XK)(t:TT)(m:TM):Prop:=∀(G H:Hp)(σ:St)(ρ:Rh)(Q:Bool->Hp->Prop),Same G H->View G σ ρ->PostT mg E G H (m ρ) Q->t σ H Q
def DA(mg:Str->Option Value)(E:XK)(t:TA)(m:AM)(n:Nat):Prop:=∀(G H:Hp)(σ:St)(ρ:Rh)(Q:List V->Hp->Prop),Same G H->View G σ ρ->zfA mg E G H n (m ρ) Q->t σ H Q
structure Err(mg:Str->Option Value)(E:XK)(G H:Hp){β:Type}(P:R β->Prop):Prop where
 no:P none->False
 er:∀x,P (some (.error x))->∀c da G' H',Ext G H G' H'->XRep mg x c da G' H'->E c da H'
def Ext.same{G H H':Hp}(s:Same G H)(h:Same H H'):Ext G H G H':=⟨Same.refl _,h,s.trans h,fun _ _=>rfl⟩
def Err.from{mg:Str->Option Value}{E:XK}{G H G' H':Hp}{β:Type}{P:R β->Prop}(e:Err mg E G H P)(x:Ext G H G' H'):Err mg E G' H' P:=⟨e.no,fun y p c da G2 H2 z w=>e.er y p c da G2 H2 (x.trans z) w⟩
section
variable{mg:Str->Option Value}{E:XK}{n:Nat}
def errE{G H:Hp}{Q:VK}:Err mg E G H (fun r=>PostE mg E G H n r Q):=⟨fun h=>h,fun _ h=>h⟩
def errT{G H:Hp}{Q:Bool->Hp->Prop}:Err mg E G H (fun r=>PostT mg E G H r Q):=⟨fun h=>h,fun _ h=>h⟩
def errA{G H:Hp}{Q:List V->Hp->Prop}:Err mg E G H (fun r=>zfA mg E G H n r Q):=⟨fun h=>h,fun _ h=>h⟩
def DE.step{β:Type}{t:TE}{m:EM}(D:DE mg E t m n){G H:Hp}{σ:St}{ρ:Rh}{Q:VK}{P:R β->Prop}{f:Dt->R β}(hE:Err mg E G H P)(s:Same G H)(w:View G σ ρ)(p:P (zA3 (m ρ) f))
  (h:∀d v G' H' S,m ρ=okR d->Fr G H G' H' S->Own G' H' n S d v->P (f d)->Q v H'):t σ H Q:=by
 refine D G H σ ρ Q s w ?_;cases e:m ρ with
 |none=>rw[e]at p;exact hE.no p
 |some r=>
  rw[e]at p;cases r with
  |error x=>exact hE.er x p
  |ok d=>exact fun v G' H' S fr o=>h d v G' H' S e fr o p
def DT.step{β:Type}{t:TT}{m:TM}(D:DT mg E t m){G H:Hp}{σ:St}{ρ:Rh}{Q:Bool->Hp->Prop}{P:R β->Prop}{f:Bool->R β}(hE:Err mg E G H P)(s:Same G H)(w:View G σ ρ)(p:P (zA3 (m ρ) f))
  (h:∀b H',m ρ=okR b->Same H H'->P (f b)->Q b H'):t σ H Q:=by
 refine D G H σ ρ Q s w ?_;cases e:m ρ with
 |none=>rw[e]at p;exact hE.no p
 |some r=>
  rw[e]at p;cases r with
  |error x=>exact hE.er x p
  |ok b=>exact fun H' sH=>h b H' e sH p
def DA.step{β:Type}{t:TA}{m:AM}(D:DA mg E t m n){G H:Hp}{σ:St}{ρ:Rh}{Q:List V->Hp->Prop}{P:R β->Prop}{f:List Dt->R β}(hE:Err mg E G H P)(s:Same G H)(w:View G σ ρ)(p:P (zA3 (m ρ) f))
  (h:∀ds vs G' H' S T,m ρ=okR ds->Fr G H G' H' S->OwnA G' H' n S ds vs T->P (f ds)->Q vs H'):t σ H Q:=by
 refine D G H σ ρ Q s w ?_;cases e:m ρ with
 |none=>rw[e]at p;exact hE.no p
 |some r=>
  rw[e]at p;cases r with
  |error x=>exact hE.er x p
  |ok ds=>exact fun vs G' H' S T fr o=>h ds vs G' H' S T e fr o p
def PostE.from{G H G' H':Hp}{Q:VK}{r:R Dt}(p:PostE mg E G H n r Q)(x:Ext G H G' H'):PostE mg E G' H' n r Q:=by
 cases r with
 |none=>exact p
 |some r=>
  cases r with
  |error y=>exact fun c da G2 H2 z w=>p c da G2 H2 (x.trans z) w
  |ok d=>
   exact fun v G2 H2 S fr o=>p v G2 H2 S ⟨x.trans fr.ext,fun a ha=>⟨x.h.free (fr.new a ha).1,(fr.new a ha).2⟩⟩ o
def PostT.from{G H G' H':Hp}{Q:Bool->Hp->Prop}{r:R Bool}(p:PostT mg E G H r Q)(x:Ext G H G' H'):PostT mg E G' H' r Q:=by
 cases r with
 |none=>exact p
 |some r=>
  cases r with
  |error y=>exact fun c da G2 H2 z w=>p c da G2 H2 (x.trans z) w
  |ok d=>exact fun H2 s=>p H2 (x.h.trans s)
def Fr.from{G H G1 H1 G2 H2:Hp}{S:Addr->Prop}(x:Ext G H G1 H1)(f:Fr G1 H1 G2 H2 S):Fr G H G2 H2 S:=⟨x.trans f.ext,fun a ha=>⟨x.h.free (f.new a ha).1,(f.new a ha).2⟩⟩
def PostE.val{G H G' H':Hp}{d:Dt}{v:V}{Q:VK}(p:PostE mg E G H n (okR d) Q)(x:Ext G H G' H')(hd:d.dep=0)(h:Rep G' d v):Q v H':=
 p v G' H' (fun _=>False) ⟨x,fun _ z=>z.elim⟩ (zYI h hd)
def PostE.kept{G H G' H':Hp}{d:Dt}{v:V}{Q:VK}(p:PostE mg E G H 0 (okR d) Q)(x:Ext G H G' H')(h:Rep G' d v):Q v H':=
 p v G' H' (fun _=>False) ⟨x,fun _ z=>z.elim⟩ h
def zAL{t:TE}{m:EM}{n:Nat}(D:DE mg E t m n):DE mg E t m 0:=by
 intro G H σ ρ Q s w p;refine D G H σ ρ Q s w ?_;cases e:m ρ with
 |none=>rw[e]at p;exact p
 |some r=>
  rw[e]at p;cases r with
  |error x=>exact p
  |ok d=>
   intro v G' H' S fr o;obtain⟨x,r⟩:=fr.frz o;exact PostE.kept p x r
end
end
section
variable[Kc]{mg:Str->Option Value}{E:XK}{n k l:Nat}{ta tb tc:TE}{ma mb mc:EM}
def zAF{i:Int}:DE mg E (tC (.int i)) (Mi.eC (.int i)) n:=fun G H σ ρ Q s w p=>PostE.val p (Ext.refl s) rfl rfl
def zUF{b:Bool}:DE mg E (tC (.bl b)) (Mi.eC (.bl b)) n:=fun G H σ ρ Q s w p=>PostE.val p (Ext.refl s) rfl rfl
def zJM{x:Str}:DE mg E (tC (.str x)) (Mi.eC (.str x)) n:=fun G H σ ρ Q s w p=>PostE.val p (Ext.refl s) rfl rfl
def de_v(i:Nat):DE mg E (vM i) (Mi.eV i) 0:=by
 intro G H σ ρ Q s w p;unfold Mi.eV at p;cases e:ρ[i]? with
 |none=>rw[e]at p;exact p.elim
 |some o=>
  rw[e]at p;cases o with
  |none=>exact p.elim
  |some d=>
   obtain⟨v,h1,h2⟩:=w.at i d e;unfold vM;rw[h1];exact PostE.kept p (Ext.refl s) h2
def ROp(r:R2)(f:Dt->Dt->Option Dt)(n:Nat):Prop:=∀(mg:Str->Option Value)(E:XK)(G H:Hp)(d e:Dt)(x y:V)(Q:VK),Same G H->Rep G d x->Rep G e y->PostE mg E G H n (optR (f d e)) Q->r x y H Q
def zAG{r:R2}{f:Dt->Dt->Option Dt}(hr:ROp r f n)(A:DE mg E ta ma k)(B:DE mg E tb mb l):DE mg E (tOp r ta tb) (Mi.eB f ma mb) n:=by
 intro G H σ ρ Q s w p;refine(zAL A).step errE s w p fun d v G1 H1 S _ fr o p1=>?_
 refine(zAL B).step (errE.from fr.ext) fr.ext.in' (w.mono fr.ext.g) p1 fun e u G2 H2 S2 _ fr2 o2 p2=>?_
 exact hr mg E G2 H2 d e v u Q fr2.ext.in' (Rep.mono fr2.ext.g o) o2 (PostE.from p2 (fr.ext.trans fr2.ext))
def ROp1(r:V->Hp->VK->Prop)(f:Dt->Option Dt)(n:Nat):Prop:=∀(mg:Str->Option Value)(E:XK)(G H:Hp)(d:Dt)(x:V)(Q:VK),Same G H->Rep G d x->PostE mg E G H n (optR (f d)) Q->r x H Q
def zbG{r:V->Hp->VK->Prop}{f:Dt->Option Dt}(hr:ROp1 r f n)(A:DE mg E ta ma k):DE mg E (tUn r ta) (Mi.eU f ma) n:=by
 intro G H σ ρ Q s w p;refine(zAL A).step errE s w p fun d v G1 H1 S _ fr o p1=>?_
 exact hr mg E G1 H1 d v Q fr.ext.in' o (PostE.from p1 fr.ext)
def zZ6(A:DE mg E ta ma k)(B:DE mg E tb mb n):DE mg E (fun σ H Q=>ta σ H fun x H1=>match x with | .bl c=>if c=true then tb σ H1 Q else Q (.bl false) H1|_=>False) (Mi.eAnd ma mb) n:=by
 intro G H σ ρ Q s w p;refine(zAL A).step errE s w p fun d v G1 H1 S _ fr o p1=>?_
 cases d with
 |bl b=>
  cases(show v=.bl b from o)
  cases b with
  |true=>exact B G1 H1 σ ρ Q fr.ext.in' (w.mono fr.ext.g) (PostE.from p1 fr.ext)
  |false=>exact PostE.val (PostE.from p1 fr.ext) (Ext.refl fr.ext.in') rfl rfl
 |_=>exact p1.elim
def zf1(A:DE mg E ta ma k):DE mg E (fun σ H Q=>ta σ H fun x H1=>match x with | .bl c=>Q (.bl (!c)) H1|_=>False) (Mi.eNot ma) n:=by
 intro G H σ ρ Q s w p;refine(zAL A).step errE s w p fun d v G1 H1 S _ fr o p1=>?_
 cases d with
 |bl b=>
  cases(show v=.bl b from o)
  exact PostE.val (PostE.from p1 fr.ext) (Ext.refl fr.ext.in') rfl rfl
 |_=>exact p1.elim
def zXU{α β:Type}(o:Option α)(f:α->R β):zA3 (optR o) f=match o with|none=>none|some a=>f a:=by cases o<;>rfl
def zXK{r r':R2}{f g:Dt->Dt->Option Dt}(hr:ROp r f 0)(hr':ROp r' g n)(A:DE mg E ta ma k)(B:DE mg E tb mb l){j:Nat}(C:DE mg E tc mc j) :
  DE mg E (fun σ H Q=>ta σ H fun x H1=>tb σ H1 fun y H2=>r x y H2 fun z H3=>match z with
   |.bl k=>if k=true then tc σ H3 fun w' H4=>r' y w' H4 Q else Q (.bl false) H3
   |_=>False) (Mi.eChain f g ma mb mc) n:=by
 intro G H σ ρ Q s w p;refine(zAL A).step errE s w p fun d v G1 H1 S _ fr o p1=>?_
 refine(zAL B).step (errE.from fr.ext) fr.ext.in' (w.mono fr.ext.g) p1 fun e u G2 H2 S2 _ fr2 o2 p2=>?_
 refine hr mg E G2 H2 d e v u _ fr2.ext.in' (Rep.mono fr2.ext.g o) o2 ?_;have p3:=PostE.from p2 (fr.ext.trans fr2.ext);rw[zXU]at p3;cases ez:f d e with
 |none=>rw[ez]at p3;exact p3
 |some z=>
  rw[ez]at p3;intro v3 G3 H3 S3 fr3 o3;obtain⟨x3,r3⟩:=fr3.frz o3;cases z with
  |bl b=>
   cases(show v3=.bl b from r3)
   cases b with
   |false=>exact PostE.val p3 x3 rfl rfl
   |true=>
    refine(zAL C).step (errE.from x3) x3.in' ((w.mono (fr.ext.g.trans fr2.ext.g)).mono x3.g) p3 fun c u4 G4 H4 S4 _ fr4 o4 p4=>?_
    exact hr' mg E G4 H4 e c u u4 Q fr4.ext.in' (Rep.mono (x3.g.trans fr4.ext.g) o2) o4 (PostE.from p4 (x3.trans fr4.ext))
  |_=>exact p3.elim
def zUD{tA:TT}{c:TM}(C:DT mg E tA c)(A:DE mg E ta ma n)(B:DE mg E tb mb n):DE mg E (tIf tA ta tb) (Mi.eIf c ma mb) n:=by
 intro G H σ ρ Q s w p;refine C.step errE s w p fun b H' _ sH p1=>?_
 have p2:=PostE.from p1 (Ext.same s sH);cases b with
 |true=>exact A G H' σ ρ Q (s.trans sH) w p2
 |false=>exact B G H' σ ρ Q (s.trans sH) w p2
def dt_b(A:DE mg E ta ma k):DT mg E (fun σ H Q=>ta σ H fun z H3=>match z with | .bl k=>Q k H3|_=>False) (Mi.tB ma):=by
 intro G H σ ρ Q s w p;refine(zAL A).step errT s w p fun d v G1 H1 S _ fr o p1=>?_
 cases d with
 |bl b=>
  cases(show v=.bl b from o)
  exact p1 H1 fr.ext.h
 |_=>exact p1.elim
def dt_m(A:DE mg E ta ma k):DT mg E (bM ta) (Mi.tM ma):=by
 intro G H σ ρ Q s w p;refine(zAL A).step errT s w p fun d v G1 H1 S _ fr o p1=>?_
 cases d with
 |bl b=>cases(show v=.bl b from o);exact p1 H1 fr.ext.h
 |int b=>cases(show v=.int b from o);exact p1 H1 fr.ext.h
 |non=>cases(show v=.non from o);exact p1 H1 fr.ext.h
 |_=>exact p1.elim
variable{tA tB:TT}{cA cB:TM}
def zeT(A:DT mg E tA cA)(B:DT mg E tB cB):DT mg E (L2.tAnd tA tB) (Mi.tAn cA cB):=by
 intro G H σ ρ Q s w p;refine A.step errT s w p fun b H' _ sH p1=>?_
 cases b with
 |true=>exact B G H' σ ρ Q (s.trans sH) w (PostT.from p1 (Ext.same s sH))
 |false=>exact p1 H' sH
def zeS(A:DT mg E tA cA)(B:DT mg E tB cB):DT mg E (L2.tOr tA tB) (Mi.tOr cA cB):=by
 intro G H σ ρ Q s w p;refine A.step errT s w p fun b H' _ sH p1=>?_
 cases b with
 |false=>exact B G H' σ ρ Q (s.trans sH) w (PostT.from p1 (Ext.same s sH))
 |true=>exact p1 H' sH
def zZ0(A:DT mg E tA cA):DT mg E (L2.tNot tA) (Mi.tNo cA):=by
 intro G H σ ρ Q s w p;exact A.step errT s w p fun b H' _ sH p1=>p1 H' sH
def zC1:DT mg E L2.tYes Mi.tYes:=fun G H σ ρ Q s w p=>p H (Same.refl _)
variable{t:TA}{m:AM}
def zA6:DA mg E tNil Mi.aNil n:=fun G H σ ρ Q s w p=>p [] G H (fun _=>False) (fun _ _=>False) ⟨Ext.refl s,fun _ z=>z.elim⟩ ⟨rfl,fun q d x h=>by simp at h,fun _ _ _ z=>z.elim,fun _ _ z=>z.elim⟩
def zA2(A:DE mg E ta ma n)(B:DA mg E t m n):DA mg E (zES ta t) (Mi.aCons ma m) n:=by
 intro G H σ ρ Q s w p;refine A.step errA s w p fun d v G1 H1 S1 _ fr o p1=>?_
 refine B.step (errA.from fr.ext) fr.ext.in' (w.mono fr.ext.g) p1 fun ds vs G2 H2 S2 T2 _ fr2 o2 p2=>?_
 refine p2 (v::vs) G2 H2 (fun a=>S1 a\/S2 a) (fun q=>match q with|0=>S1|q+1=>T2 q) ⟨fr.ext.trans fr2.ext,fun a ha=>?_⟩ ⟨by simp[o2.len],fun q d' x h1 h2=>?_,fun q r b h1 h2=>?_,fun q b h=>?_⟩
 ·rcases ha with ha|ha
  ·obtain⟨n1,n2,n3⟩:=fr.new a ha;exact⟨n1,(fr2.ext.old a n3).trans n2,fr2.ext.h.some n3⟩
  ·obtain⟨n1,n2,n3⟩:=fr2.new a ha;exact⟨fr.ext.h.free n1,n2,n3⟩
 ·cases q with
  |zero=>simp at h1 h2;subst h1;subst h2;exact o.mono fr2.ext.g fr2.ext.h
  |succ q=>exact o2.own q d' x (by simpa using h1) (by simpa using h2)
 ·have ap:∀r b,S1 b->T2 r b->False:=fun r b h1 h2=>(fr.new b h1).2.2 (fr2.new b (o2.sub r b h2)).1
  cases q with
  |zero=>
   cases r with
   |zero=>rfl
   |succ r=>exact(ap r b h1 h2).elim
  |succ q=>
   cases r with
   |zero=>exact(ap q b h2 h1).elim
   |succ r=>rw[o2.dis q r b h1 h2]
 ·cases q with
  |zero=>exact .inl h
  |succ q=>exact .inr (o2.sub q b h)
def OwnA.repL{G H:Hp}{S:Addr->Prop}{ds:List Dt}{vs:List V}{T:Nat->Addr->Prop}(o:OwnA G H 0 S ds vs T):RepL G ds vs:=zEV o.len fun q d x h1 h2=>o.own q d x h1 h2
def big'{n:Nat}(h:n<=100000):n<=sizeLine:=qD3 (L2.big h)
def Fr.add{G H G' H':Hp}{S:Addr->Prop}(f:Fr G H G' H' S){p:Addr}(hp:H' p=none)(o:HO):Fr G H G' (upd H' p o) (fun a=>a=p\/S a):=by
 have sn:=L2.same_new hp o;refine⟨⟨f.ext.g,f.ext.h.trans sn,f.ext.in'.trans sn,f.ext.old⟩,fun a ha=>?_⟩
 rcases ha with rfl|ha
 ·exact⟨f.ext.h.free hp,f.ext.in'.free hp,by rw[zAA];simp⟩
 ·obtain⟨n1,n2,n3⟩:=f.new a ha;exact⟨n1,n2,sn.some n3⟩
def OwnA.kids{G' H':Hp}{S:Addr->Prop}{ds:List Dt}{vs:List V}{T:Nat->Addr->Prop}(o:OwnA G' H' n S ds vs T)(hn:∀a,S a->H' a≠none){p:Addr}(hp:H' p=none)(ob:HO) :
  Kids (Own G' (upd H' p ob) n) (fun a=>a=p\/S a) p ds vs T:=
 ⟨o.len,fun q d x h1 h2=>(o.own q d x h1 h2).mono (Same.refl _) (L2.same_new hp ob),.inl rfl,fun q z=>hn p (o.sub q p z) hp,o.dis,fun q b z=>.inr (o.sub q b z)⟩
def zE2(A:DA mg E t m n):DE mg E (tLst t) (Mi.eLst m) (n+1):=by
 intro G H σ ρ Q s w p;refine A.step errE s w p fun ds vs G1 H1 S T _ fr o p1=>?_
 by_cases hz:ds.length<=100000
 ·rw[if_pos hz]at p1;refine⟨by rw[o.len];exact big' hz,fun a ha=>?_⟩;exact p1 (.ref a) G1 _ _ (fr.add ha _) ⟨a,vs,T,rfl,zAA,o.kids (fun b hb=>(fr.new b hb).2.2) ha _⟩
 ·rw[if_neg hz]at p1;exact p1.elim
def zUB(A:DA mg E t m n):DE mg E (tTup t) (Mi.eTup m) (n+1):=by
 intro G H σ ρ Q s w p;refine A.step errE s w p fun ds vs G1 H1 S T _ fr o p1=>?_
 by_cases hz:ds.length<=100000
 ·rw[if_pos hz]at p1;refine⟨by rw[o.len];exact big' hz,fun a ha=>?_⟩;exact p1 (.ref a) G1 _ _ (fr.add ha _) ⟨a,vs,T,rfl,zAA,o.kids (fun b hb=>(fr.new b hb).2.2) ha _⟩
 ·rw[if_neg hz]at p1;exact p1.elim
def PostE.lst{G H G' H':Hp}{ds:List Dt}{xs:List V}{Q:VK}(p:PostE mg E G H 1 (okR (.lst ds)) Q)(x:Ext G H G' H')(r:RepL G' ds xs){a:Addr}(ha:H' a=none):Q (.ref a) (upd H' a (.lst xs)):=by
 have fr:Fr G H G' H' (fun _=>False):=⟨x,fun _ z=>z.elim⟩
 refine p (.ref a) G' _ _ (fr.add ha (.lst xs)) ⟨a,xs,fun _ _=>False,rfl,zAA,⟨r.length,fun q d y h1 h2=>zBV r h1 h2,.inl rfl,fun _ z=>z,fun _ _ _ z=>z.elim,fun _ _ z=>z.elim⟩⟩
def CBi(r:List V->Hp->VK->Prop)(f:List Dt->Option Dt)(n:Nat):Prop:=∀(mg:Str->Option Value)(E:XK)(G H:Hp)(ds:List Dt)(vs:List V)(Q:VK),Same G H->RepL G ds vs->PostE mg E G H n (optR (f ds)) Q->r vs H Q
def zBT{r:List V->Hp->VK->Prop}{f:List Dt->Option Dt}(hr:CBi r f n)(A:DA mg E t m 0):DE mg E (tCB r t) (Mi.eBi f m) n:=by
 intro G H σ ρ Q s w p;refine A.step errE s w p fun ds vs G1 H1 S T _ fr o p1=>?_
 exact hr mg E G1 H1 ds vs Q fr.ext.in' o.repL (PostE.from p1 fr.ext)
def spM(mg:Str->Option Value)(L:Nat)(f:FM):Sp:=fun vs H Q E=>∃G ds,Same (tabK Kc.K) G/\Same G H/\RepL G ds vs/\PostE mg E G H L (f ds) Q
def zAU{f:FM}(A:DA mg E t m 0):DE mg E (zLJ (spM mg n f) [] E t) (Mi.eCall f m) n:=by
 intro G H σ ρ Q s w p;refine A.step errE s w p fun ds vs G1 H1 S T _ fr o p1=>?_
 exact⟨G1,ds,w.tab.trans fr.ext.g,fr.ext.in',by rw[qD4];exact o.repL,PostE.from p1 fr.ext⟩
def zRZ{G H:Hp}{o:Option Dt}{Q:VK}{d:Dt}{v:V}(s:Same G H)(p:PostE mg E G H n (optR o) Q)(e:o=some d)(hd:d.dep=0)(h:Rep G d v):Q v H:=by
 subst e;exact PostE.val p (Ext.refl s) hd h
def zCN:ROp za2 Mi.addD 1:=by
 intro mg E G H d e x y Q s h1 h2 p;cases d with
 |int i=>
  cases e with
  |int j=>cases(show x=.int i from h1);cases(show y=.int j from h2);exact zRZ s p rfl rfl rfl
  |_=>exact p.elim
 |str i=>
  cases e with
  |str j=>
   cases(show x=.str i from h1);cases(show y=.str j from h2)
   rw[Mi.addD]at p;by_cases hz:i.length+j.length<=100000
   ·rw[if_pos hz]at p;exact⟨big' hz,PostE.val p (Ext.refl s) rfl rfl⟩
   ·rw[if_neg hz]at p;exact p.elim
  |_=>exact p.elim
 |lst ds=>
  cases e with
  |lst es=>
   obtain⟨a,xs,rfl,ha,ra⟩:=h1;obtain⟨b,ys,rfl,hb,rb⟩:=h2;rw[Mi.addD]at p;by_cases hz:ds.length+es.length<=100000
   ·rw[if_pos hz]at p;refine⟨xs,ys,s _ _ ha,s _ _ hb,by rw[ra.length,rb.length];exact big' hz,fun q hq=>?_⟩;refine PostE.lst p (Ext.refl s) (zEV (by simp[ra.length,rb.length]) fun j d' x' e1 e2=>?_) hq
    by_cases hj:j<ds.length
    ·rw[qA9 hj]at e1;rw[qA9 (by rw[ra.length];exact hj)]at e2;exact zBV ra e1 e2
    ·rw[qA7 (by lia)]at e1;rw[qA7 (by rw[ra.length];lia),ra.length]at e2;exact zBV rb e1 e2
   ·rw[if_neg hz]at p;exact p.elim
  |_=>exact p.elim
 |_=>exact p.elim
def zRU:ROp zd0 Mi.subD n:=by
 intro mg E G H d e x y Q s h1 h2 p;cases d with
 |int i=>
  cases e with
  |int j=>cases(show x=.int i from h1);cases(show y=.int j from h2);exact zRZ s p rfl rfl rfl
  |_=>exact p.elim
 |_=>exact p.elim
def zEI:ROp zd6 Mi.mulD n:=by
 intro mg E G H d e x y Q s h1 h2 p;cases d with
 |int i=>
  cases e with
  |int j=>
   cases(show x=.int i from h1);cases(show y=.int j from h2)
   rw[Mi.mulD]at p;split at p
   ·rename_i hz;exact⟨hz,PostE.val p (Ext.refl s) rfl rfl⟩
   ·exact p.elim
  |_=>exact p.elim
 |_=>exact p.elim
def zHF:ROp zd9 Mi.divD n:=by
 intro mg E G H d e x y Q s h1 h2 p;cases d with
 |int i=>
  cases e with
  |int j=>
   cases(show x=.int i from h1);cases(show y=.int j from h2)
   rw[Mi.divD]at p;split at p
   ·rename_i hz;exact⟨hz,PostE.val p (Ext.refl s) rfl rfl⟩
   ·exact p.elim
  |_=>exact p.elim
 |_=>exact p.elim
def zCZ:ROp zd7 Mi.modD n:=by
 intro mg E G H d e x y Q s h1 h2 p;cases d with
 |int i=>
  cases e with
  |int j=>
   cases(show x=.int i from h1);cases(show y=.int j from h2)
   rw[Mi.modD]at p;split at p
   ·rename_i hz;exact⟨hz,PostE.val p (Ext.refl s) rfl rfl⟩
   ·exact p.elim
  |_=>exact p.elim
 |_=>exact p.elim
def zY7:ROp zd3 Mi.powD n:=by
 intro mg E G H d e x y Q s h1 h2 p;cases d with
 |int i=>
  cases e with
  |int j=>
   cases(show x=.int i from h1);cases(show y=.int j from h2)
   rw[Mi.powD]at p;split at p
   ·rename_i hz;exact⟨hz,PostE.val p (Ext.refl s) rfl rfl⟩
   ·exact p.elim
  |_=>exact p.elim
 |_=>exact p.elim
def zRV:ROp1 zd5 Mi.negD n:=by
 intro mg E G H d x Q s h1 p;cases d with
 |int i=>cases(show x=.int i from h1);exact zRZ s p rfl rfl rfl
 |_=>exact p.elim
def zHG{q:Int->Int->Bool}:ROp (zW2 q) (Mi.cmpD q) n:=by
 intro mg E G H d e x y Q s h1 h2 p;cases d with
 |int i=>
  cases e with
  |int j=>cases(show x=.int i from h1);cases(show y=.int j from h2);exact zRZ s p rfl rfl rfl
  |_=>exact p.elim
 |_=>exact p.elim
def zYX{G H:Hp}{d e:Dt}{x y:V}{Q:VK}{ng:Bool}(s:Same G H)(h1:Rep G d x)(h2:Rep G e y)(hd:d.dep<=40)(he:e.dep<=40)(q:Q (.bl (if ng then !Dt.eq d e else Dt.eq d e)) H) :
  ∃d' e',L2.Rep H d' x/\L2.Rep H e' y/\d'.dep<=40/\Q (.bl (if ng then !L2.Dat.eq d' e' else L2.Dat.eq d' e')) H:=
 ⟨conv d,conv e,zEA hd (Rep.mono s h1),zEA he (Rep.mono s h2),qAq (zFM hd) hd,by rw[zOH hd he];exact q⟩
def zG9{α:Type}[DecidableEq α](a b:α):(a==b)=decide (a=b):=by
 by_cases h:a=b
 ·subst h;simp
 ·simp[h]
def zK2{G:Hp}{d:Dt}{i:Int}(h:Rep G d (.int i)):d=.int i:=by
 cases d with
 |int k=>cases h;rfl
 |non=>cases h
 |bl _=>cases h
 |str _=>cases h
 |lst _=>obtain⟨_,_,z,_⟩:=h;cases z
 |tup _=>obtain⟨_,_,z,_⟩:=h;cases z
 |scr _=>obtain⟨_,z,_⟩:=h;cases z
 |exc _ _ _=>obtain⟨_,_,_,z,_⟩:=h;cases z
 |fn _ _=>obtain⟨_,z,_⟩:=h;cases z
 |ins _ _=>obtain⟨_,_,_,z,_⟩:=h;cases z
 |dct _=>obtain⟨_,z,_⟩:=h;cases z
def zK1{G:Hp}{d:Dt}{i:Str}(h:Rep G d (.str i)):d=.str i:=by
 cases d with
 |str k=>cases h;rfl
 |non=>cases h
 |bl _=>cases h
 |int _=>cases h
 |lst _=>obtain⟨_,_,z,_⟩:=h;cases z
 |tup _=>obtain⟨_,_,z,_⟩:=h;cases z
 |scr _=>obtain⟨_,z,_⟩:=h;cases z
 |exc _ _ _=>obtain⟨_,_,_,z,_⟩:=h;cases z
 |fn _ _=>obtain⟨_,z,_⟩:=h;cases z
 |ins _ _=>obtain⟨_,_,_,z,_⟩:=h;cases z
 |dct _=>obtain⟨_,z,_⟩:=h;cases z
def zP2{G:Hp}{d:Dt}{i:Bool}(h:Rep G d (.bl i)):d=.bl i:=by
 cases d with
 |bl k=>cases h;rfl
 |non=>cases h
 |str _=>cases h
 |int _=>cases h
 |lst _=>obtain⟨_,_,z,_⟩:=h;cases z
 |tup _=>obtain⟨_,_,z,_⟩:=h;cases z
 |scr _=>obtain⟨_,z,_⟩:=h;cases z
 |exc _ _ _=>obtain⟨_,_,_,z,_⟩:=h;cases z
 |fn _ _=>obtain⟨_,z,_⟩:=h;cases z
 |ins _ _=>obtain⟨_,_,_,z,_⟩:=h;cases z
 |dct _=>obtain⟨_,z,_⟩:=h;cases z
def zHE:ROp rEqU Mi.eqD n:=by
 intro mg E G H d e x y Q s h1 h2 p;unfold Mi.eqD at p;split at p
 ·rename_i hz
  have q:Q (.bl (Dt.eq d e)) H:=PostE.val p (Ext.refl s) rfl rfl;have g:=zYX (ng:=false) (Q:=Q) s h1 h2 hz.1 hz.2 q;unfold rEqU;split
  ·rw[zK2 h1,zK2 h2,Dt.eq,zG9]at q;exact q
  ·rw[zK1 h1,zK1 h2,Dt.eq,zG9]at q;exact q
  ·rw[zP2 h1,zP2 h2,Dt.eq,zG9]at q;exact q
  ·exact g
 ·exact p.elim
def zVQ:ROp rNeU Mi.neD n:=by
 intro mg E G H d e x y Q s h1 h2 p;unfold Mi.neD at p;split at p
 ·rename_i hz
  have q:Q (.bl (!Dt.eq d e)) H:=PostE.val p (Ext.refl s) rfl rfl;have g:=zYX (ng:=true) (Q:=Q) s h1 h2 hz.1 hz.2 q;unfold rNeU;split
  ·rw[zK2 h1,zK2 h2,Dt.eq,zG9]at q;exact q
  ·rw[zK1 h1,zK1 h2,Dt.eq,zG9]at q;exact q
  ·rw[zP2 h1,zP2 h2,Dt.eq,zG9]at q;exact q
  ·exact g
 ·exact p.elim
def zML(n:Nat)(i:Int):Mi.ixA n i=ixN n i:=rfl
def zYQ{α:Type}(xs:List α)(i:Int):Mi.itA xs i=atI xs i:=rfl
def zZC{G:Hp}{ds:List Dt}{xs:List V}{i:Int}{d:Dt}(r:RepL G ds xs)(h:Mi.itA ds i=some d):∃x,atI xs i=some x/\Rep G d x:=by
 rw[zYQ]at h;unfold atI at h ⊢;rw[r.length];cases e:ixN ds.length i with
 |none=>rw[e]at h;cases h
 |some j=>
  rw[e]at h;have h':ds[j]?=some d:=h;have hj:j<xs.length:=by rw[r.length];exact(qA5.mp h').1
  exact⟨xs[j],by simp[hj],zBV r h' (by simp[hj])⟩
def zC0:ROp (rIxU Kc.K) Mi.ixD 0:=by
 intro mg E G H d e x y Q s h1 h2 p;cases e with
 |int i=>
  cases(show y=.int i from h2)
  cases d with
  |lst ds=>
   obtain⟨a,xs,rfl,ha,ra⟩:=h1;cases er:Mi.itA ds i with
   |none=>rw[Mi.ixD,er]at p;exact p.elim
   |some c=>
    rw[Mi.ixD,er]at p;obtain⟨v,e1,r1⟩:=zZC ra er;exact⟨xs,v,.inl (SqL.of (s _ _ ha)),e1,PostE.kept p (Ext.refl s) r1⟩
  |tup ds=>
   obtain⟨a,xs,rfl,ha,ra⟩:=h1;cases er:Mi.itA ds i with
   |none=>rw[Mi.ixD,er]at p;exact p.elim
   |some c=>
    rw[Mi.ixD,er]at p;obtain⟨v,e1,r1⟩:=zZC ra er;exact⟨xs,v,.inr (SqT.of (s _ _ ha)),e1,PostE.kept p (Ext.refl s) r1⟩
  |scr ns=>
   obtain⟨a,rfl,ha⟩:=h1;cases er:Mi.itA ns i with
   |none=>rw[Mi.ixD,er]at p;exact p.elim
   |some c=>
    rw[Mi.ixD,er]at p;refine⟨ns.map V.int,.int c,zF8 s ha,?_,PostE.kept p (Ext.refl s) rfl⟩;rw[zYQ]at er;unfold atI at er ⊢;rw[qAe];cases e:ixN ns.length i with
    |none=>rw[e]at er;cases er
    |some j=>
     rw[e]at er;have er':ns[j]?=some c:=er;show(ns.map V.int)[j]?=some (.int c);rw[qAb,er'];rfl
  |str z=>
   cases(show x=.str z from h1)
   rw[Mi.ixD]at p;by_cases hz:z.length<=100000
   ·rw[if_pos hz]at p;cases er:Mi.itA z.cps.toList i with
    |none=>rw[er]at p;exact p.elim
    |some c=>rw[er]at p;exact⟨c,big' hz,er,PostE.kept p (Ext.refl s) rfl⟩
   ·rw[if_neg hz]at p;exact p.elim
  |_=>exact p.elim
 |_=>cases d<;>exact p.elim
def zCB{G:Hp}{d:Dt}{vs:List V}(h:RepL G [d] vs):∃x,vs=[x]/\Rep G d x:=by
 obtain⟨x,q,rfl,a,b⟩:=h;cases(show q=[] from b)
 exact⟨x,rfl,a⟩
def zZY{G:Hp}{d e:Dt}{vs:List V}(h:RepL G [d,e] vs):∃x y,vs=[x,y]/\Rep G d x/\Rep G e y:=by
 obtain⟨x,q,rfl,a,b⟩:=h;obtain⟨y,rfl,c⟩:=zCB b;exact⟨x,y,rfl,a,c⟩
def zBL:CBi (zZZ Kc.K) Mi.lenD n:=by
 intro mg E G H ds vs Q s h p;cases ds with
 |nil=>exact p.elim
 |cons a0 r0=>
  cases r0 with
  |cons _ _=>cases a0<;>exact p.elim
  |nil=>
   cases a0 with
   |lst es=>
    obtain⟨x,rfl,a,xs,rfl,ha,ra⟩:=zCB h;exact⟨xs,.inl (SqL.of (s _ _ ha)),by rw[ra.length];exact PostE.val p (Ext.refl s) rfl rfl⟩
   |tup es=>
    obtain⟨x,rfl,a,xs,rfl,ha,ra⟩:=zCB h;exact⟨xs,.inr (SqT.of (s _ _ ha)),by rw[ra.length];exact PostE.val p (Ext.refl s) rfl rfl⟩
   |scr ns=>
    obtain⟨x,rfl,a,rfl,ha⟩:=zCB h;refine⟨ns.map V.int,zF8 s ha,?_⟩;rw[qAe];exact PostE.val p (Ext.refl s) rfl rfl
   |str z=>
    obtain⟨x,rfl,hx⟩:=zCB h;cases(show x=.str z from hx)
    rw[Mi.lenD]at p;by_cases hz:z.length<=100000
    ·rw[if_pos hz]at p;exact⟨big' hz,PostE.val p (Ext.refl s) rfl rfl⟩
    ·rw[if_neg hz]at p;exact p.elim
   |_=>exact p.elim
def zD8{G:Hp}:∀(ns:List Int),RepL G (ns.map Dt.int) (ns.map V.int)
 |[]=>rfl
 |_::r=>⟨_,_,rfl,rfl,zD8 r⟩
def zIM:CBi (zP7 Kc.K) Mi.listD 1:=by
 intro mg E G H ds vs Q s h p;cases ds with
 |nil=>exact p.elim
 |cons a0 r0=>
  cases r0 with
  |cons _ _=>cases a0<;>exact p.elim
  |nil=>
   cases a0 with
   |lst es=>
    obtain⟨x,rfl,a,xs,rfl,ha,ra⟩:=zCB h;exact .inl ⟨xs,.inl (SqL.of (s _ _ ha)),fun l hl=>PostE.lst p (Ext.refl s) ra hl⟩
   |tup es=>
    obtain⟨x,rfl,a,xs,rfl,ha,ra⟩:=zCB h;exact .inl ⟨xs,.inr (SqT.of (s _ _ ha)),fun l hl=>PostE.lst p (Ext.refl s) ra hl⟩
   |scr ns=>
    obtain⟨x,rfl,a,rfl,ha⟩:=zCB h;exact .inl ⟨ns.map V.int,zF8 s ha,fun l hl=>PostE.lst p (Ext.refl s) (zD8 ns) hl⟩
   |_=>exact p.elim
def zfQ{G H:Hp}{d:Dt}{x:V}(s:Same G H)(h:Rep G d x)(hd:Mi.tyD d≠""):zH6 H x=some (Mi.tyD d):=by
 cases d with
 |non=>cases h;rfl
 |bl _=>cases h;rfl
 |int _=>cases h;rfl
 |str _=>cases h;rfl
 |lst _=>obtain⟨a,xs,rfl,ha,_⟩:=h;unfold zH6;dsimp only;rw[s _ _ ha];rfl
 |tup _=>obtain⟨a,xs,rfl,ha,_⟩:=h;unfold zH6;dsimp only;rw[s _ _ ha];rfl
 |scr _=>exact absurd rfl hd
 |exc _ _ _=>exact absurd rfl hd
 |fn _ _=>exact absurd rfl hd
 |ins _ _=>exact absurd rfl hd
 |dct _=>exact absurd rfl hd
def zUC{nm:String}(hn:nm∈["int","bool","str","list","tuple","dict"])(A:DE mg E ta ma k):DE mg E (tCB zd8 (zES ta (zES (tC (.ty nm)) tNil))) (Mi.eIsi nm ma) n:=by
 intro G H σ ρ Q s w p;refine(zAL A).step errE s w p fun d v G1 H1 S _ fr o p1=>?_
 have p2:=PostE.from p1 fr.ext;unfold Mi.isiD at p2
 split at p2
 ·exact p2.elim
 ·rename_i hd
  exact⟨Mi.tyD d,zfQ fr.ext.in' o hd,hn,PostE.val p2 (Ext.refl fr.ext.in') rfl rfl⟩
def zIO{G:Hp}:∀{ds:List Dt}{bs:List Bool}{xs:List V},Mi.boolsD ds=some bs->RepL G ds xs->xs=bs.map V.bl
 |[],bs,xs,h,r=>by cases h;exact r
 |.bl b::ds,bs,xs,h,r=>by
  obtain⟨x,q,rfl,a,c⟩:=r;rw[Mi.boolsD]at h;cases e:Mi.boolsD ds with
  |none=>rw[e]at h;cases h
  |some cs=>
   rw[e]at h;cases h;rw[zIO e c,show x=.bl b from a];rfl
 |.non::_,_,_,h,_=>by simp[Mi.boolsD]at h
 |.int _::_,_,_,h,_=>by simp[Mi.boolsD]at h
 |.str _::_,_,_,h,_=>by simp[Mi.boolsD]at h
 |.lst _::_,_,_,h,_=>by simp[Mi.boolsD]at h
 |.tup _::_,_,_,h,_=>by simp[Mi.boolsD]at h
 |.scr _::_,_,_,h,_=>by simp[Mi.boolsD]at h
 |.exc _ _ _::_,_,_,h,_=>by simp[Mi.boolsD]at h
 |.fn _ _::_,_,_,h,_=>by simp[Mi.boolsD]at h
 |.ins _ _::_,_,_,h,_=>by simp[Mi.boolsD]at h
 |.dct _::_,_,_,h,_=>by simp[Mi.boolsD]at h
def zf7:CBi zdB Mi.allD n:=by
 intro mg E G H ds vs Q s h p;cases ds with
 |nil=>exact qA3 p
 |cons hd1 tl1=>
  cases hd1 with
  |lst es=>
   cases tl1 with
   |nil=>
    obtain⟨x,rfl,a,xs,rfl,ha,ra⟩:=zCB h;rw[Mi.allD]at p;cases e:Mi.boolsD es with
    |none=>rw[e]at p;exact p.elim
    |some bs=>
     rw[e]at p;exact⟨bs,by rw[<- zIO e ra];exact s _ _ ha,PostE.val p (Ext.refl s) rfl rfl⟩
   |cons _ _=>exact qA3 p
  |_=>exact qA3 p
def zZB:CBi zdA Mi.anyD n:=by
 intro mg E G H ds vs Q s h p;cases ds with
 |nil=>exact qA3 p
 |cons hd1 tl1=>
  cases hd1 with
  |lst es=>
   cases tl1 with
   |nil=>
    obtain⟨x,rfl,a,xs,rfl,ha,ra⟩:=zCB h;rw[Mi.anyD]at p;cases e:Mi.boolsD es with
    |none=>rw[e]at p;exact p.elim
    |some bs=>
     rw[e]at p;exact⟨bs,by rw[<- zIO e ra];exact s _ _ ha,PostE.val p (Ext.refl s) rfl rfl⟩
   |cons _ _=>exact qA3 p
  |_=>exact qA3 p
end
section
variable[Kc]
def ItOk(J:It)(G:Hp)(ds:List Dt):Prop:=∀(i:Nat)(G1 H1:Hp),Same G G1->Same G1 H1->(i<ds.length->J.go i H1)/\(ds.length<=i->J.stop i H1)/\∀x H2 d,ds[i]?=some d->J.yld i H1 x H2->∃G2,Ext G1 H1 G2 H2/\Rep G2 d x
def zUU(ind:Bool)(G:Hp):Hp:=if ind=true then(fun _=>none)else G
def zf9(mg:Str->Option Value)(E:XK)(G H:Hp)(ind:Bool)(r:R (List Dt))(Q:It->Hp->Prop):Prop:=match r with
 |none=>False
 |some (.error x)=>∀c da G' H',Ext G H G' H'->XRep mg x c da G' H'->E c da H'
 |some (.ok ds)=>∀J G' H',Ext G H G' H'->ItOk J (zUU ind G') ds->Q J H'
def DI(mg:Str->Option Value)(E:XK)(t:TI)(m:IM)(ind:Bool):Prop:=∀(G H:Hp)(σ:St)(ρ:Rh)(Q:It->Hp->Prop),Same G H->View G σ ρ->zf9 mg E G H ind (m ρ) Q->t σ H Q
section
variable{mg:Str->Option Value}{E:XK}{n k:Nat}{te:TE}{me:EM}{t:TA}{m:AM}{ind:Bool}
def errI{G H:Hp}{Q:It->Hp->Prop}:Err mg E G H (fun r=>zf9 mg E G H ind r Q):=⟨fun h=>h,fun _ h=>h⟩
def errB{G H:Hp}{α β:Type}{P:R β->Prop}(e:Err mg E G H P)(g:α->R β):Err mg E G H (fun r=>P (zA3 r g)):=⟨fun h=>e.no h,fun x h=>e.er x h⟩
def DI.step{β:Type}{t:TI}{m:IM}(D:DI mg E t m ind){G H:Hp}{σ:St}{ρ:Rh}{Q:It->Hp->Prop}{P:R β->Prop}{f:List Dt->R β}(hE:Err mg E G H P)(s:Same G H)(w:View G σ ρ)(p:P (zA3 (m ρ) f))
  (h:∀ds J G' H',m ρ=okR ds->Ext G H G' H'->ItOk J (zUU ind G') ds->P (f ds)->Q J H'):t σ H Q:=by
 refine D G H σ ρ Q s w ?_;cases e:m ρ with
 |none=>rw[e]at p;exact hE.no p
 |some r=>
  rw[e]at p;cases r with
  |error x=>exact hE.er x p
  |ok ds=>exact fun J G' H' x i=>h ds J G' H' e x i p
def zYO{K:qA2}{G:Hp}{a:Addr}{xs:List V}{ds:List Dt}(ha:SqL K G a xs)(r:RepL G ds xs):ItOk (Itl K a) G ds:=by
 intro i G1 H1 s1 s2;have hS:SqL K H1 a xs:=(s1.trans s2).seq ha;refine⟨fun hi=>⟨xs,xs[i]'(by rw[r.length];exact hi),hS,by simp⟩,fun hi=>⟨xs,hS,by rw[r.length];exact hi⟩,fun x H2 d hd hy=>?_⟩;obtain⟨rfl,hy⟩:=hy;exact⟨G1,Ext.refl s2,Rep.mono s1 (zBV r hd (hy xs hS))⟩
def zYN{K:qA2}{G:Hp}{a:Addr}{xs:List V}{ds:List Dt}(ha:SqT K G a xs)(r:RepL G ds xs):ItOk (Itt K a) G ds:=by
 intro i G1 H1 s1 s2;have hS:SqT K H1 a xs:=zHC (s1.trans s2) ha;refine⟨fun hi=>⟨xs,xs[i]'(by rw[r.length];exact hi),hS,by simp⟩,fun hi=>⟨xs,hS,by rw[r.length];exact hi⟩,fun x H2 d hd hy=>?_⟩;obtain⟨rfl,hy⟩:=hy;exact⟨G1,Ext.refl s2,Rep.mono s1 (zBV r hd (hy xs hS))⟩
def zeG{G:Hp}(lo:Int)(k:Nat):ItOk (Itr lo k) G (Mi.nums lo k):=by
 intro i G1 H1 s1 s2;have hl:(Mi.nums lo k).length=k:=by simp[Mi.nums]
 refine⟨fun hi=>by rw[hl]at hi;exact hi,fun hi=>by rw[hl]at hi;exact hi,fun x H2 d hd hy=>?_⟩;obtain⟨rfl,rfl⟩:=hy;refine⟨G1,Ext.refl s2,?_⟩;unfold Mi.nums at hd;rw[qAb]at hd;cases e:(qA4 k)[i]? with
 |none=>rw[e]at hd;cases hd
 |some j=>
  rw[e]at hd;cases hd;have hj:j=i:=by
   obtain⟨h1,h2⟩:=qA5.mp e;rw[qBx]at h2;exact h2.symm
  subst hj;rfl
def zGM(A:DA mg E t m 0):DI mg E (zeJ t) (Mi.iR1 m) true:=by
 intro G H σ ρ Q s w p;refine A.step errI s w p fun ds vs G1 H1 S T _ fr o p1=>?_
 have r:=o.repL;cases ds with
 |nil=>exact qA3 p1
 |cons hd1 tl1=>
  cases hd1 with
  |int j=>
   cases tl1 with
   |nil=>
    obtain⟨x,rfl,hx⟩:=zCB r;cases(show x=.int j from hx)
    dsimp only at p1;split at p1
    ·rename_i hz
     exact⟨j,rfl,by lia,by lia,p1 _ G1 H1 fr.ext (zeG 0 _)⟩
    ·exact p1.elim
   |cons _ _=>exact qA3 p1
  |_=>exact qA3 p1
def zIC:∀(ds:List Dt)(n:Nat),(Mi.enumD n ds).length=ds.length
 |[],_=>rfl
 |_::r,n=>by rw[Mi.enumD,qAj,qAj,zIC r]
def zID:∀(ds:List Dt)(n i:Nat)(d:Dt),(Mi.enumD n ds)[i]?=some d->∃e,ds[i]?=some e/\d=.tup [.int ((n+i:Nat):Int),e]
 |[],_,_,_,h=>by simp[Mi.enumD]at h
 |x::r,n,0,d,h=>by simp[Mi.enumD]at h;exact⟨x,by simp,by rw[<- h];rfl⟩
 |x::r,n,i+1,d,h=>by
  rw[Mi.enumD]at h;obtain⟨e,h1,h2⟩:=zID r (n+1) i d (by simpa using h);exact⟨e,by simpa using h1,by rw[h2,show n+1+i=n+(i+1) by lia]⟩
def Ext.new{G H:Hp}(s:Same G H){T:Addr}(hT:H T=none)(o:HO):Ext G H (upd G T o) (upd H T o):=by
 refine⟨L2.same_new (s.free hT) o,L2.same_new hT o,fun b u e=>?_,fun b hb=>zAD fun z=>hb (z▸hT)⟩
 by_cases z:b=T
 ·subst z;rw[zAA]at e ⊢;exact e
 ·rw[zAD z]at e ⊢;exact s _ _ e
def zYP{K:qA2}{G:Hp}{a:Addr}{xs:List V}{ds:List Dt}(ha:G a=some (.lst xs))(r:RepL G ds xs):ItOk (Ite K a) G (Mi.enumD 0 ds):=by
 intro i G1 H1 s1 s2;have hS:SqL K H1 a xs:=SqL.of (s2 _ _ (s1 _ _ ha));rw[zIC];refine⟨fun hi=>⟨xs,xs[i]'(by rw[r.length];exact hi),hS,by simp⟩,fun hi=>⟨xs,hS,by rw[r.length];exact hi⟩,fun x H2 d hd hy=>?_⟩;obtain⟨T,y,rfl,hT,rfl,hy⟩:=hy;obtain⟨e,h1,rfl⟩:=zID ds 0 i d hd;have x1:=Ext.new s2 hT (.tup [.int i,y]);refine⟨_,x1,T,_,rfl,zAA,_,_,rfl,?_,_,_,rfl,Rep.mono (s1.trans x1.g) (zBV r h1 (hy xs hS)),rfl⟩;show V.int (i:Int)=.int ((0+i:Nat):Int);rw[qC4]
def zXI{K:qA2}(A:DA mg E t m 0):DI mg E (zb4 K t) (Mi.iEn m) false:=by
 intro G H σ ρ Q s w p;refine A.step errI s w p fun ds vs G1 H1 S T _ fr o p1=>?_
 have r:=o.repL;cases ds with
 |nil=>exact qA3 p1
 |cons hd1 tl1=>
  cases hd1 with
  |lst es=>
   cases tl1 with
   |nil=>
    obtain⟨x,rfl,a,xs,rfl,ha,ra⟩:=zCB r;exact⟨⟨xs,SqL.of (fr.ext.in' _ _ ha)⟩,p1 _ G1 H1 fr.ext (zYP ha ra)⟩
   |cons _ _=>exact qA3 p1
  |_=>exact qA3 p1
def zHA:St->List (Nat×V)->St
 |σ,[]=>σ
 |σ,(i,v)::r=>zHA (σ.set i (some v)) r
inductive BsRep(G:Hp):List (Nat×Dt)->List (Nat×V)->Prop
 |nil:BsRep G [] []
 |cons {i d v bs ws}:Rep G d v->BsRep G bs ws->BsRep G ((i,d)::bs) ((i,v)::ws)
def View.set{G:Hp}{σ:St}{ρ:Rh}{i:Nat}{d:Dt}{v:V}(w:View G σ ρ)(r:Rep G d v):View G (σ.set i (some v)) (ρ.set i (some d)):=by
 refine⟨by simp[w.len],fun j e h=>?_,w.tab⟩;have hj:j<ρ.length:=by
  have:=(qA5.mp h).1;simpa using this
 by_cases z:i=j
 ·subst z;rw[qAt hj]at h;cases h;exact⟨v,qAt (by rw[<- w.len];exact hj),r⟩
 ·rw[qB0 z]at h;obtain⟨u,h1,h2⟩:=w.at j e h;exact⟨u,by rw[qB0 z];exact h1,h2⟩
def View.sets{G:Hp}{bs ws}(h:BsRep G bs ws):∀{σ:St}{ρ:Rh},View G σ ρ->View G (zHA σ ws) (zAO ρ bs):=by
 induction h with
 |nil=>exact fun w=>w
 |cons r _ ih=>exact fun w=>ih (w.set r)
def TgOk(g:TG)(tg:Tg):Prop:=∀(G H:Hp)(σ:St)(d:Dt)(x:V)(bs:List (Nat×Dt))(Q:St->Hp->Prop),Same G H->Rep G d x->zAV tg d=some bs->(∀ws,BsRep G bs ws->Q (zHA σ ws) H)->g x σ H Q
def zXV(g:TGs)(is:List Nat):Prop:=∀(G H:Hp)(σ:St)(ds:List Dt)(xs:List V)(Q:St->Hp->Prop),RepL G ds xs->ds.length=is.length->(∀ws,BsRep G (is.zip ds) ws->Q (zHA σ ws) H)->g xs σ H Q
def zAY(i:Nat):TgOk (zFK i) (.one i):=by
 intro G H σ d x bs Q s r e h;cases e;exact h [(i,x)] (.cons r .nil)
def zFW:zXV gNil []:=by
 intro G H σ ds xs Q r hl h;cases ds with
 |nil=>cases(show xs=[] from r);exact⟨rfl,h [] .nil⟩
 |cons _ _=>simp at hl
def zBM(i:Nat){g:TGs}{is:List Nat}(hg:zXV g is):zXV (zeL (zFK i) g) (i::is):=by
 intro G H σ ds xs Q r hl h;cases ds with
 |nil=>simp at hl
 |cons d ds=>
  obtain⟨x,q,rfl,a,b⟩:=r;exact⟨x,q,rfl,hg G H _ ds q Q b (by simpa using hl) fun ws hw=>h ((i,x)::ws) (.cons a hw)⟩
def zJ7{K:qA2}{g:TGs}{is:List Nat}{k:Nat}(hg:zXV g is)(hk:is.length=k):TgOk (gTup K k g) (.tup is):=by
 intro G H σ d x bs Q s r e h;cases d with
 |tup ds=>
  obtain⟨a,xs,rfl,ha,ra⟩:=r;rw[zAV]at e;by_cases hz:ds.length=is.length
  ·rw[if_pos hz]at e;cases e;exact⟨a,xs,rfl,SqT.of (s _ _ ha),by rw[ra.length,hz,hk],hg G H σ ds xs Q ra hz h⟩
  ·rw[if_neg hz]at e;cases e
 |_=>simp[zAV]at e
def zLT:∀(ws:List (Nat×V))(σ own:St),(∀p∈ws,σ.length<=p.1)->∃own':St,own'.length=own.length/\zHA (σ++own) ws=σ++own'
 |[],σ,own,_=>⟨own,rfl,rfl⟩
 |(i,v)::r,σ,own,h=>by
  have hi:σ.length<=i:=h (i,v) (by simp);rw[zHA,List.set_append_right _ _ hi];obtain⟨o,h1,h2⟩:=zLT r σ (own.set (i-σ.length) (some v)) fun p hp=>h p (by simp[hp])
  exact⟨o,by rw[h1,qEl],h2⟩
def BsRep.idx{G:Hp}{bs ws}(h:BsRep G bs ws):ws.map (·.1)=bs.map (·.1):=by
 induction h with
 |nil=>rfl
 |cons _ _ ih=>simp[ih]
def zUT{tg:Tg}{d:Dt}{bs:List (Nat×Dt)}(h:zAV tg d=some bs):∀i∈bs.map (·.1),i∈tg.idx:=by
 cases tg with
 |one i=>cases h;simp[Tg.idx]
 |tup is=>
  cases d with
  |tup ds=>
   rw[zAV]at h;split at h
   ·cases h;intro i hi;obtain⟨p,hp,e⟩:=qAi.mp hi;rw[<- e];obtain⟨a,b⟩:=p;exact(qDn hp).1
   ·cases h
  |_=>simp[zAV]at h
def zAZ{wi:TI}{g:TG}{tif:TT}{it:IM}{tg:Tg}{c:TM}(I:DI mg E wi it ind)(hT:TgOk g tg)(C:DT mg E tif c)(B:DE mg E te me n):DE mg E (zZP wi k g tif te) (Mi.eComp it k tg c me) (n+1):=by
 intro G H σ ρ Q s w p;refine I.step errE s w p fun ds J G1 H1 _ x1 io p1=>?_
 by_cases hz:ds.length<=100000/\(tg.idx.all fun i=>decide (ρ.length<=i))=true
 case neg=>rw[if_neg hz]at p1;exact p1.elim
 rw[if_pos hz]at p1;obtain⟨hz,hix⟩:=hz;have hb1:Same (zUU ind G1) G1:=by
  unfold zUU;split
  ·exact fun b o e=>by cases e
  ·exact Same.refl _
 refine⟨fun i m acc H'=>m=ds.length-i/\i<=ds.length/\∃G' as S T,Fr G H G' H' S/\Same G1 G'/\OwnA G' H' n S as acc T/\as.length<=i/\PostE mg E G H (n+1) (zA3 (Mi.compGo ρ k tg c me (ds.drop i) as) fun es=>okR (.lst es)) Q,
  ⟨_,rfl,qAn _,G1,[],fun _=>False,fun _ _=>False,⟨x1,fun _ z=>z.elim⟩,Same.refl _,⟨rfl,fun q d x h=>by simp at h,fun _ _ _ z=>z.elim,fun _ _ z=>z.elim⟩,qAa _,by rw[qEu];exact p1⟩,?_⟩
 rintro i m acc H' ⟨rfl,hi,G',as,S,T,fr,sg,o,hl,p⟩
 obtain⟨j1,j2,j3⟩:=io i G' H' (hb1.trans sg) fr.ext.in';by_cases hlt:i<ds.length
 ·refine .inr ⟨j1 hlt,by rw[o.len];exact L2.big (by lia),fun acc' H''=>ds.length-(i+1)=ds.length-(i+1)/\i+1<=ds.length/\∃G' as S T,Fr G H G' H'' S/\Same G1 G'/\OwnA G' H'' n S as acc' T/\as.length<=i+1/\PostE mg E G H (n+1) (zA3 (Mi.compGo ρ k tg c me (ds.drop (i+1)) as) fun es=>okR (.lst es)) Q,
   fun acc' H'' q=>⟨ds.length-(i+1),by lia,q⟩,fun x H2 hy=>?_⟩
  have hd:ds[i]?=some ds[i]:=qA1 hlt;obtain⟨G2,x2,r2⟩:=j3 x H2 ds[i] hd hy;rw[qBa hlt,Mi.compGo]at p;cases eb:zAV tg ds[i]with
  |none=>rw[eb]at p;exact p.elim
  |some bs=>
   rw[eb]at p;dsimp only at p;refine hT G2 H2 _ _ x bs _ x2.in' r2 eb fun ws hb=>?_
   have hsl:∀q∈ws,σ.length<=q.1:=fun q hq=>by
    have h1:q.1∈bs.map (·.1):=by rw[<- hb.idx];exact List.mem_map_of_mem hq
    have h2:=qFg.mp hix q.1 (zUT eb q.1 h1);rw[<- w.len];exact of_decide_eq_true h2
   obtain⟨own,ho1,ho2⟩:=zLT ws σ (qA8 k none) hsl;refine⟨own,by rw[ho1,qCk],ho2,?_⟩;have x02:=fr.ext.trans x2;have w2:View G2 (zHA (σ++qA8 k none) ws) (zAO (ρ++qA8 k none) bs):=by
    refine View.sets hb ⟨by simp[w.len],fun j d h=>?_,w.tab.trans x02.g⟩
    by_cases hj:j<ρ.length
    ·rw[qA9 hj]at h;obtain⟨v,a,b⟩:=w.at j d h;exact⟨v,by rw[qA9 (by rw[<- w.len];exact hj)];exact a,Rep.mono x02.g b⟩
    ·rw[qA7 (by lia),qCc]at h
     split at h<;>cases h
   refine C.step ((errB errE _).from x02) x2.in' w2 p fun b H3 _ s3 p3=>?_
   have x3:Ext G2 H2 G2 H3:=Ext.same x2.in' s3;have x03:=x02.trans x3;have newS:∀a,S a->H a=none/\G2 a=none/\H3 a≠none:=fun a ha=>by
    obtain⟨n1,n2,n3⟩:=fr.new a ha;exact⟨n1,(x2.old a n3).trans n2,s3.some (x2.h.some n3)⟩
   have own3:OwnA G2 H3 n S as acc T:=⟨o.len,fun q d y h1 h2=>(o.own q d y h1 h2).mono x2.g (x2.h.trans s3),o.dis,o.sub⟩
   cases b with
   |false=>exact⟨rfl,hlt,G2,as,S,T,⟨x03,newS⟩,sg.trans x2.g,own3,by lia,p3⟩
   |true=>
    refine B.step ((errB errE _).from x03) x3.in' w2 p3 fun e v G4 H4 S4 _ fr4 o4 p4=>?_
    have ap:∀q b,T q b->S4 b->False:=fun q b h1 h2=>(newS b (o.sub q b h1)).2.2 (fr4.new b h2).1
    refine⟨rfl,hlt,G4,as++[e],fun a=>S a\/S4 a,fun q b=>(q<as.length/\T q b)\/(q=as.length/\S4 b),⟨x03.trans fr4.ext,fun a ha=>?_⟩,sg.trans (x2.g.trans fr4.ext.g),⟨by simp[o.len],fun q d y h1 h2=>?_,fun q r b h1 h2=>?_,fun q b h=>?_⟩,by simp;lia,p4⟩
    ·rcases ha with ha|ha
     ·obtain⟨n1,n2,n3⟩:=newS a ha;exact⟨n1,(fr4.ext.old a n3).trans n2,fr4.ext.h.some n3⟩
     ·obtain⟨n1,n2,n3⟩:=fr4.new a ha;exact⟨x03.h.free n1,n2,n3⟩
    ·by_cases hq:q<as.length
     ·rw[qA9 hq]at h1;rw[qA9 (by rw[o.len];exact hq)]at h2;exact((own3.own q d y h1 h2).mono fr4.ext.g fr4.ext.h).sub fun b z=>.inl ⟨hq,z⟩
     ·rw[qA7 (by lia)]at h1;rw[qA7 (by rw[o.len];lia),o.len]at h2;have hq0:q-as.length=0:=by
       have:=(qA5.mp h1).1;simp at this;lia
      rw[hq0]at h1 h2;simp at h1 h2;subst h1;subst h2;exact o4.sub fun b z=>.inr ⟨by lia,z⟩
    ·rcases h1 with⟨a1,t1⟩|⟨a1,t1⟩<;>rcases h2 with⟨a2,t2⟩|⟨a2,t2⟩
     ·exact o.dis q r b t1 t2
     ·exact(ap q b t1 t2).elim
     ·exact(ap r b t2 t1).elim
     ·lia
    ·rcases h with⟨_,z⟩|⟨_,z⟩
     ·exact .inl (o.sub q b z)
     ·exact .inr z
 ·have e:i=ds.length:=by lia
  subst e;refine .inl ⟨j2 (qAa _),fun D hD=>?_⟩;rw[qFj,Mi.compGo]at p;exact p (.ref D) G' _ _ (fr.add hD _) ⟨D,acc,T,rfl,zAA,o.kids (fun b hb=>(fr.new b hb).2.2) hD _⟩
end
end
section
variable[Kc]
structure Sat(G0 H0 S0:Hp)(σ:St)(ρ:Ro)(G H:Hp)(As:Nat->Addr->Prop):Prop where
 ext:Ext G0 H0 G H
 stb:Same S0 G
 tab:Same (tabK Kc.K) G0
 len:ρ.length=σ.length
 «at»:∀(i:Nat)(d:Dt)(n:Nat),ρ[i]?=some (some (d,n))->∃v,σ[i]?=some (some v)/\Own G H n (As i) d v
 dis:∀i j a,As i a->As j a->i=j
 new:∀i a,As i a->H0 a=none/\G a=none/\H a≠none
section
variable{G0 H0 S0:Hp}{σ:St}{ρ:Ro}{G H:Hp}{As:Nat->Addr->Prop}
def Sat.grow(a:Sat G0 H0 S0 σ ρ G H As){H':Hp}(s:Same H H'):Sat G0 H0 S0 σ ρ G H' As:=
 ⟨a.ext.trans (Ext.same a.ext.in' s),a.stb,a.tab,a.len,fun i d n e=>let⟨v,h1,h2⟩:=a.at i d n e;⟨v,h1,h2.mono (Same.refl _) s⟩,a.dis,fun i b h=>let⟨n1,n2,n3⟩:=a.new i b h;⟨n1,n2,s.some n3⟩⟩
def Sat.wider(a:Sat G0 H0 S0 σ ρ G H As){G' H':Hp}(x:Ext G H G' H'):Sat G0 H0 S0 σ ρ G' H' As:=
 ⟨a.ext.trans x,a.stb.trans x.g,a.tab,a.len,fun i d n e=>let⟨v,h1,h2⟩:=a.at i d n e;⟨v,h1,h2.mono x.g x.h⟩,a.dis,fun i b h=>let⟨n1,n2,n3⟩:=a.new i b h;⟨n1,(x.old b n3).trans n2,x.h.some n3⟩⟩
def Sat.full(a:Sat G0 H0 S0 σ ρ G H As):∃J,Ext G0 H0 J H/\Same G J/\View J σ (full ρ):=by
 obtain⟨s1,s2⟩:=zCP (S:=fun b=>∃i,As i b) a.ext.in';refine⟨over G H fun b=>∃i,As i b,⟨a.ext.g.trans s1,a.ext.h,s2,fun b hb=>?_⟩,s1,by simp[Mi.full,a.len],fun i d e=>?_,a.tab.trans (a.ext.g.trans s1)⟩
 ·have z:¬ ∃i,As i b:=fun⟨i,z⟩=>hb (a.new i b z).1
  rw[zC7 z];exact a.ext.old b hb
 ·unfold Mi.full at e;rw[qAb]at e;cases e1:ρ[i]? with
  |none=>rw[e1]at e;cases e
  |some o=>
   rw[e1]at e;cases o with
   |none=>cases e
   |some sl=>
    obtain⟨d',n⟩:=sl;cases e;obtain⟨v,h1,h2⟩:=a.at i _ n e1;exact⟨v,h1,h2.rep s1 fun b o hb e=>by rw[zDU ⟨i,hb⟩];exact e⟩
def Sat.put(a:Sat G0 H0 S0 σ ρ G H As){i n:Nat}{d:Dt}{v:V}{S:Addr->Prop}(o:Own G H n S d v)(hS:∀b,S b->H0 b=none/\G b=none/\H b≠none)(hd:∀j b,j≠i->As j b->S b->False) :
  Sat G0 H0 S0 (σ.set i (some v)) (ρ.set i (some (d,n))) G H (fun j=>if j=i then S else As j):=by
 refine⟨a.ext,a.stb,a.tab,by simp[a.len],fun j e k h=>?_,fun j l b h1 h2=>?_,fun j b h=>?_⟩
 ·have hj:j<ρ.length:=by
   have:=(qA5.mp h).1;simpa using this
  by_cases z:i=j
  ·subst z;rw[qAt hj]at h;cases h;exact⟨v,qAt (by rw[<- a.len];exact hj),by rw[if_pos rfl];exact o⟩
  ·rw[qB0 z]at h;obtain⟨u,h1,h2⟩:=a.at j e k h;exact⟨u,by rw[qB0 z];exact h1,by rw[if_neg (fun q=>z q.symm)];exact h2⟩
 ·try dsimp only at h1 h2
  by_cases z1:j=i
  ·by_cases z2:l=i
   ·rw[z1,z2]
   ·rw[if_pos z1]at h1;rw[if_neg z2]at h2;exact(hd l b z2 h2 h1).elim
  ·by_cases z2:l=i
   ·rw[if_neg z1]at h1;rw[if_pos z2]at h2;exact(hd j b z1 h1 h2).elim
   ·rw[if_neg z1]at h1;rw[if_neg z2]at h2;exact a.dis j l b h1 h2
 ·try dsimp only at h
  by_cases z1:j=i
  ·rw[if_pos z1]at h;exact hS b h
  ·rw[if_neg z1]at h;exact a.new j b h
def Sat.set(a:Sat G0 H0 S0 σ ρ G H As){H':Hp}{i n:Nat}{d:Dt}{v:V}{S:Addr->Prop}(s:Same H H')(o:Own G H' n S d v)(hS:∀b,S b->H b=none/\G b=none/\H' b≠none) :
  Sat G0 H0 S0 (σ.set i (some v)) (ρ.set i (some (d,n))) G H' (fun j=>if j=i then S else As j):=
 (a.grow s).put o (fun b hb=>⟨a.ext.h.free (hS b hb).1,(hS b hb).2⟩) fun j b _ h1 h2=>(a.new j b h1).2.2 (hS b h2).1
def Sat.frz1(a:Sat G0 H0 S0 σ ρ G H As)(i:Nat):∃G1 As1,Sat G0 H0 S0 σ (Mi.frz1 i ρ) G1 H As1:=by
 unfold Mi.frz1;cases e1:ρ[i]? with
 |none=>exact⟨G,As,a⟩
 |some o=>
  cases o with
  |none=>exact⟨G,As,a⟩
  |some sl=>
   obtain⟨d,n⟩:=sl;dsimp only;obtain⟨v,h1,h2⟩:=a.at i d n e1;obtain⟨s1,s2⟩:=zCP (S:=As i) a.ext.in';have x:Ext G0 H0 (over G H (As i)) H:=⟨a.ext.g.trans s1,a.ext.h,s2,fun b hb=>by
    have z:¬As i b:=fun z=>hb (a.new i b z).1
    rw[zC7 z];exact a.ext.old b hb⟩
   have hv:(σ.set i (some v))=σ:=by
    have hi:i<σ.length:=(qA5.mp h1).1;have he:=(qA5.mp h1).2;rw[<- he,qFw]
   have b:Sat G0 H0 S0 σ (ρ.set i (some (d,0))) (over G H (As i)) H (fun j b=>j≠i/\As j b):=by
    refine⟨x,a.stb.trans s1,a.tab,by simp[a.len],fun j e k h=>?_,fun j l b p q=>a.dis j l b p.2 q.2,fun j b p=>?_⟩
    ·have hj:j<ρ.length:=by
      have:=(qA5.mp h).1;simpa using this
     by_cases z:i=j
     ·subst z;rw[qAt hj]at h;cases h;exact⟨v,h1,h2.rep s1 fun b o hb e=>by rw[zDU hb];exact e⟩
     ·rw[qB0 z]at h;obtain⟨u,q1,q2⟩:=a.at j e k h;exact⟨u,q1,(q2.mono s1 (Same.refl _)).sub fun b hb=>⟨fun q=>z q.symm,hb⟩⟩
    ·obtain⟨n1,n2,n3⟩:=a.new j b p.2;have z:¬As i b:=fun z=>p.1 (a.dis j i b p.2 z)
     exact⟨n1,by rw[zC7 z];exact n2,n3⟩
   exact⟨_,_,b⟩
def Sat.frzAt:∀(vs:List Nat){ρ:Ro}{G:Hp}{As:Nat->Addr->Prop},Sat G0 H0 S0 σ ρ G H As->∃G1 As1,Sat G0 H0 S0 σ (Mi.frzAt vs ρ) G1 H As1
 |[],_,_,_,a=>⟨_,_,a⟩
 |i::r,_,_,_,a=>by
  obtain⟨G1,As1,b⟩:=a.frz1 i;exact Sat.frzAt r b
def Sat.frz(a:Sat G0 H0 S0 σ ρ G H As):View G σ (Mi.frz ρ):=by
 refine⟨by simp[Mi.frz,a.len],fun i d e=>?_,a.tab.trans a.ext.g⟩;unfold Mi.frz at e;rw[qAb]at e;cases e1:ρ[i]? with
 |none=>rw[e1]at e;cases e
 |some o=>
  rw[e1]at e;cases o with
  |none=>cases e
  |some sl=>
   obtain⟨d',n⟩:=sl;obtain⟨v,h1,h2⟩:=a.at i d' n e1;simp only[qEn,qJ0]at e;split at e
   ·rename_i hz
    cases e;rcases hz with hz|hz
    ·subst hz;exact⟨v,h1,h2⟩
    ·exact⟨v,h1,Own.scalar (k:=0) (G2:=G) (H2:=H) (S2:=fun _=>False) h2 hz⟩
   ·cases e
def Sat.store(a:Sat G0 H0 S0 σ ρ G H As){i n:Nat}{d:Dt}{v:V}{p:Addr}{o:HO}{S:Addr->Prop}(hp:As i p)(hv:σ[i]?=some (some v))(w:Own G (upd H p o) n S d v)
  (hS:∀b,S b->As i b\/(H0 b=none/\G b=none/\H b≠none/\∀j,¬As j b)):Sat G0 H0 S0 σ (ρ.set i (some (d,n))) G (upd H p o) (fun j=>if j=i then S else As j):=by
 obtain⟨p1,p2,p3⟩:=a.new i p hp;have hn:∀b,H b≠none->upd H p o b≠none:=fun b hb=>by
  by_cases z:b=p
  ·subst z;rw[zAA];simp
  ·rw[zAD z];exact hb
 refine⟨⟨a.ext.g,L2.Same.upd a.ext.h p1 o,L2.Same.upd a.ext.in' p2 o,a.ext.old⟩,a.stb,a.tab,by simp[a.len],fun j e k h=>?_,fun j l b h1 h2=>?_,fun j b h=>?_⟩
 ·have hj:j<ρ.length:=by
   have:=(qA5.mp h).1;simpa using this
  by_cases z:i=j
  ·subst z;rw[qAt hj]at h;cases h;exact⟨v,hv,by rw[if_pos rfl];exact w⟩
  ·rw[qB0 z]at h;obtain⟨u,h1,h2⟩:=a.at j e k h;exact⟨u,h1,by rw[if_neg (fun q=>z q.symm)];exact h2.upd fun q=>z (a.dis i j p hp q)⟩
 ·have key:∀j b,j≠i->As j b->S b->False:=fun j b hj h1 h2=>by
   rcases hS b h2 with q|⟨_,_,_,q⟩
   ·exact hj (a.dis j i b h1 q)
   ·exact q j h1
  try dsimp only at h1 h2
  by_cases z1:j=i
  ·by_cases z2:l=i
   ·rw[z1,z2]
   ·rw[if_pos z1]at h1;rw[if_neg z2]at h2;exact(key l b z2 h2 h1).elim
  ·by_cases z2:l=i
   ·rw[if_neg z1]at h1;rw[if_pos z2]at h2;exact(key j b z1 h1 h2).elim
   ·rw[if_neg z1]at h1;rw[if_neg z2]at h2;exact a.dis j l b h1 h2
 ·try dsimp only at h
  by_cases z1:j=i
  ·rw[if_pos z1]at h
   rcases hS b h with q|⟨q1,q2,q3,_⟩
   ·obtain⟨n1,n2,n3⟩:=a.new i b q;exact⟨n1,n2,hn b n3⟩
   ·exact⟨q1,q2,hn b q3⟩
  ·rw[if_neg z1]at h;obtain⟨n1,n2,n3⟩:=a.new j b h;exact⟨n1,n2,hn b n3⟩
end
def zGD(mg:Str->Option Value)(E:XK)(G0 H0 S0:Hp)(L:Nat)(r:R Out)(D:Ends):Prop:=match r with
 |none=>False
 |some (.error x)=>∀c da G' H',Ext G0 H0 G' H'->XRep mg x c da G' H'->E c da H'
 |some (.ok (.nx ρ))=>∀σ G H As,Sat G0 H0 S0 σ ρ G H As->D.nx σ H
 |some (.ok (.bk ρ))=>∀σ G H As,Sat G0 H0 S0 σ ρ G H As->D.bk σ H
 |some (.ok (.ct ρ))=>∀σ G H As,Sat G0 H0 S0 σ ρ G H As->D.ct σ H
 |some (.ok (.rt d))=>∀v G H S,Fr G0 H0 G H S->Own G H L S d v->D.rt v H
def DS(mg:Str->Option Value)(E:XK)(L:Nat)(t:TS)(m:SM):Prop:=∀(G0 H0 S0:Hp)(σ:St)(ρ:Ro)(G H:Hp)(As:Nat->Addr->Prop)(D:Ends),Sat G0 H0 S0 σ ρ G H As->zGD mg E G0 H0 S0 L (m ρ) D->t D σ H
section
variable{mg:Str->Option Value}{E:XK}{L n k:Nat}{te:TE}{e:EM}{t u:TS}{m m':SM}
def errS{G0 H0 S0:Hp}{D:Ends}:Err mg E G0 H0 (fun r=>zGD mg E G0 H0 S0 L r D):=⟨fun h=>h,fun _ h=>h⟩
def zDB:DS mg E L zcP Mi.sNil:=fun G0 H0 S0 σ ρ G H As D a p=>p σ G H As a
def zAI(A:DS mg E L t m)(B:DS mg E L u m'):DS mg E L (tSeq t u) (Mi.sSeq m m'):=by
 intro G0 H0 S0 σ ρ G H As D a p;refine A G0 H0 S0 σ ρ G H As _ a ?_;unfold Mi.sSeq at p;cases e:m ρ with
 |none=>rw[e]at p;exact p
 |some r=>
  rw[e]at p;cases r with
  |error x=>exact p
  |ok o=>
   cases o with
   |nx ρ'=>exact fun σ' G' H' As' a'=>B G0 H0 S0 σ' ρ' G' H' As' D a' p
   |rt d=>exact p
   |bk ρ'=>exact p
   |ct ρ'=>exact p
def zG5{tc:TT}{c:TM}(C:DT mg E tc c)(A:DS mg E L t m)(B:DS mg E L u m'):DS mg E L (tIfS tc t u) (Mi.sIf c m m'):=by
 intro G0 H0 S0 σ ρ G H As D a p;obtain⟨J,x,s,w⟩:=a.full;refine C.step (errS.from x) x.in' w p fun b H' _ sH p1=>?_
 cases b with
 |true=>exact A G0 H0 S0 σ ρ G H' As D (a.grow sH) p1
 |false=>exact B G0 H0 S0 σ ρ G H' As D (a.grow sH) p1
def whole{G0 H0 S0:Hp}{σ:St}{ρ:Ro}{G H J G1 H1:Hp}{As:Nat->Addr->Prop}{S:Addr->Prop}{d:Dt}{v:V}(a:Sat G0 H0 S0 σ ρ G H As)(s:Same G J)(fr:Fr J H G1 H1 S)(o:Own G1 H1 n S d v)(hn:n<1000)(hd:d.dep<=n)(hk:d.dep<=k) :
  Own G H1 k S d v/\∀b,S b->H b=none/\G b=none/\H1 b≠none:=
 ⟨o.at hd hk hn,fun b hb=>let⟨n1,n2,n3⟩:=fr.new b hb;⟨n1,a.ext.in'.free n1,n3⟩⟩
def zAM{i:Nat}(vs:List Nat)(A:DE mg E te e n)(hn:n<1000:=by decide):DS mg E L (tAsg te (zFK i)) (Mi.sSet i n vs e):=by
 intro G0 H0 S0 σ ρ G H As D a p;obtain⟨J,x,s,w⟩:=a.full;unfold Mi.sSet at p;cases ee:e (full ρ)with
 |none=>rw[ee]at p;exact p.elim
 |some r=>
  cases r with
  |error y=>exact A.step (errS.from x) x.in' w p fun d v G1 H1 S e1 fr o p1=>by rw[ee]at e1;cases e1
  |ok d=>
   by_cases hd:d.dep<=n
   ·refine A.step (errS.from x) x.in' w p fun d' v G1 H1 S e1 fr o p1=>?_
    rw[ee]at e1;cases e1;rw[if_pos hd]at p1;obtain⟨q1,q2⟩:=whole (k:=n) a s fr o hn hd hd;exact p1 _ G H1 _ (a.set fr.ext.h q1 q2)
   ·rw[ee]at p;have p':zGD mg E G0 H0 S0 L (zA3 (e (frz (frzAt vs ρ))) fun d'=>okR (.nx ((frzAt vs ρ).set i (some (d',n))))) D:=by
     have p2:zGD mg E G0 H0 S0 L (if d.dep<=n then okR (.nx (ρ.set i (some (d,n))))else zA3 (e (frz (frzAt vs ρ))) fun d'=>okR (.nx ((frzAt vs ρ).set i (some (d',n))))) D:=p;rw[if_neg hd]at p2;exact p2
    obtain⟨G1,As1,a1⟩:=Sat.frzAt vs a;refine A.step (errS.from a1.ext) a1.ext.in' a1.frz p' fun d' v G2 H2 S _ fr o p1=>?_
    exact p1 _ G2 H2 _ ((a1.wider fr.ext).put o (fun b hb=>let⟨n1,n2,n3⟩:=fr.new b hb;⟨a1.ext.h.free n1,n2,n3⟩) fun j b _ h1 h2=>(a1.new j b h1).2.2 (fr.new b h2).1)
def zB4(vs:List Nat)(A:DE mg E te e n)(hn:n<1000:=by decide):DS mg E L (tRet te) (Mi.sRet L n vs e):=by
 intro G0 H0 S0 σ ρ G H As D a p;obtain⟨J,x,s,w⟩:=a.full;unfold Mi.sRet at p;cases ee:e (full ρ)with
 |none=>rw[ee]at p;exact p.elim
 |some r=>
  cases r with
  |error y=>exact A.step (errS.from x) x.in' w p fun d v G1 H1 S e1 fr o p1=>by rw[ee]at e1;cases e1
  |ok d=>
   by_cases hd:d.dep<=n/\d.dep<=L
   ·refine A.step (errS.from x) x.in' w p fun d' v G1 H1 S e1 fr o p1=>?_
    rw[ee]at e1;cases e1;rw[if_pos hd]at p1;exact p1 v G1 H1 S (Fr.from x fr) (o.at hd.1 hd.2 hn)
   ·rw[ee]at p;have p2:zGD mg E G0 H0 S0 L (if d.dep<=n/\d.dep<=L then okR (.rt d)else if n=L then zA3 (e (frz (frzAt vs ρ))) fun d'=>okR (.rt d')else none) D:=p;rw[if_neg hd]at p2
    by_cases hl:n=L
    ·rw[if_pos hl]at p2;subst hl;obtain⟨G1,As1,a1⟩:=Sat.frzAt vs a;refine A.step (errS.from a1.ext) a1.ext.in' a1.frz p2 fun d' v G2 H2 S _ fr o p1=>?_
     exact p1 v G2 H2 S (Fr.from a1.ext fr) o
    ·rw[if_neg hl]at p2;exact p2.elim
def zDL(i:Nat):DS mg E L (tRet (vM i)) (Mi.sRetV L i):=by
 intro G0 H0 S0 σ ρ G H As D a p;unfold Mi.sRetV at p;cases e1:ρ[i]? with
 |none=>rw[e1]at p;exact p.elim
 |some o=>
  rw[e1]at p;cases o with
  |none=>exact p.elim
  |some sl=>
   obtain⟨d,k⟩:=sl;obtain⟨v,h1,h2⟩:=a.at i d k e1;show vM i σ H D.rt;unfold vM;rw[h1];dsimp only at p;split at p
   ·rename_i hz
    rcases hz with hz|hz|hz
    ·subst hz;exact p v G H (As i) ⟨a.ext,fun b hb=>a.new i b hb⟩ h2
    ·subst hz;obtain⟨s1,s2⟩:=zCP (S:=As i) a.ext.in';refine p v (over G H (As i)) H (fun _=>False) ⟨⟨a.ext.g.trans s1,a.ext.h,s2,fun b hb=>?_⟩,fun _ z=>z.elim⟩ (h2.rep s1 fun b o hb e=>by rw[zDU hb];exact e);have z:¬As i b:=fun z=>hb (a.new i b z).1
     rw[zC7 z];exact a.ext.old b hb
    ·exact p v G H (As i) ⟨a.ext,fun b hb=>a.new i b hb⟩ (h2.at hz.1 hz.2.1 hz.2.2)
   ·exact p.elim
def Sat.puts{G0 H0 S0 G H:Hp}{bs:List (Nat×Dt)}{ws:List (Nat×V)}(h:BsRep G bs ws):∀{σ:St}{ρ:Ro}{As:Nat->Addr->Prop},Sat G0 H0 S0 σ ρ G H As->∃As',Sat G0 H0 S0 (zHA σ ws) (zB0 ρ bs) G H As':=by
 induction h with
 |nil=>exact fun a=>⟨_,a⟩
 |cons r _ ih=>exact fun a=>ih (a.put (n:=0) (S:=fun _=>False) r (fun _ z=>z.elim) fun _ _ _ _ z=>z.elim)
def zZ2(i:Nat)(A:DE mg E te e n)(hn:n<1000:=by decide):DS mg E L (zGI (tML appM (vM i) (zES te tNil))) (Mi.sApp i n e):=by
 intro G0 H0 S0 σ ρ G H As D a p;obtain⟨J,x,s,w⟩:=a.full;unfold Mi.sApp at p;cases e1:ρ[i]? with
 |none=>rw[e1]at p;exact p.elim
 |some o=>
  rw[e1]at p
  match o,e1,p with
  |none,_,p=>exact p.elim
  |some (.lst ds,k+1),e1,p=>
   obtain⟨v,h1,q,xs,T,rfl,hq,kd⟩:=a.at i _ _ e1;unfold zGI tML vM;rw[h1];refine⟨xs,hq,?_⟩;refine A.step (errS.from x) x.in' w p fun d y G1 H1 S _ fr o p1=>?_
   split at p1
   ·rename_i hz
    obtain⟨q1,q2⟩:=whole (k:=k) a s fr o hn hz.2.1 hz.2.2;refine⟨xs,fr.ext.h _ _ hq,by rw[kd.len];exact L2.big (by lia),?_⟩;have hp:=kd.top;have a1:=a.grow fr.ext.h;have nS:¬S q:=fun z=>(a.new i q hp).2.2 (q2 q z).1
    have ap:∀r b,T r b->S b->False:=fun r b h1 h2=>(a.new i b (kd.sub r b h1)).2.2 (q2 b h2).1
    refine p1 σ G _ _ (a1.store (S:=fun b=>As i b\/S b) hp h1 ⟨q,_,fun r b=>(r<ds.length/\T r b)\/(r=ds.length/\S b),rfl,zAA,⟨by simp[kd.len],fun r d' z g1 g2=>?_,.inl hp,fun r z=>?_,fun r r' b z1 z2=>?_,fun r b z=>?_⟩⟩ fun b z=>?_)
    ·by_cases hr:r<ds.length
     ·rw[qA9 hr]at g1;rw[qA9 (by rw[kd.len];exact hr)]at g2;exact(((kd.own r d' z g1 g2).mono (Same.refl _) fr.ext.h).upd (kd.out r)).sub fun b z=>.inl ⟨hr,z⟩
     ·rw[qA7 (by lia)]at g1;rw[qA7 (by rw[kd.len];lia),kd.len]at g2;have hq0:r-ds.length=0:=by
       have:=(qA5.mp g1).1;simp at this;lia
      rw[hq0]at g1 g2;simp at g1 g2;subst g1;subst g2;exact(q1.upd nS).sub fun b z=>.inr ⟨by lia,z⟩
    ·rcases z with⟨_,z⟩|⟨_,z⟩
     ·exact kd.out r z
     ·exact nS z
    ·rcases z1 with⟨c1,t1⟩|⟨c1,t1⟩<;>rcases z2 with⟨c2,t2⟩|⟨c2,t2⟩
     ·exact kd.dis r r' b t1 t2
     ·exact(ap r b t1 t2).elim
     ·exact(ap r' b t2 t1).elim
     ·lia
    ·rcases z with⟨_,z⟩|⟨_,z⟩
     ·exact .inl (kd.sub r b z)
     ·exact .inr z
    ·rcases z with z|z
     ·exact .inl z
     ·obtain⟨n1,n2,n3⟩:=q2 b z;exact .inr ⟨a.ext.h.free n1,n2,n3,fun j y=>(a.new j b y).2.2 n1⟩
   ·exact p1.elim
  |some (.lst ds,0),_,p=>exact p.elim
  |some (.non,_),_,p=>exact p.elim
  |some (.bl _,_),_,p=>exact p.elim
  |some (.int _,_),_,p=>exact p.elim
  |some (.str _,_),_,p=>exact p.elim
  |some (.tup _,_),_,p=>exact p.elim
  |some (.scr _,_),_,p=>exact p.elim
  |some (.exc _ _ _,_),_,p=>exact p.elim
  |some (.fn _ _,_),_,p=>exact p.elim
  |some (.ins _ _,_),_,p=>exact p.elim
  |some (.dct _,_),_,p=>exact p.elim
def Kids.pop{P:(Addr->Prop)->Dt->V->Prop}{S:Addr->Prop}{a:Addr}{ds:List Dt}{xs:List V}{T:Nat->Addr->Prop}(k:Kids P S a ds xs T)(q:Nat) :
  Kids P (fun b=>S b/\¬T q b) a (ds.eraseIdx q) (xs.eraseIdx q) (fun r=>if r<q then T r else T (r+1)):=by
 refine⟨by rw[qGb,qGb,k.len],fun r d x h1 h2=>?_,⟨k.top,k.out q⟩,fun r=>?_,fun r r' b z1 z2=>?_,fun r b z=>?_⟩
 ·rw[List.getElem?_eraseIdx]at h1 h2
  try dsimp only
  by_cases hr:r<q
  ·rw[if_pos hr]at h1 h2 ⊢;exact k.own r d x h1 h2
  ·rw[if_neg hr]at h1 h2 ⊢;exact k.own (r+1) d x h1 h2
 ·try dsimp only
  split
  ·exact k.out _
  ·exact k.out _
 ·try dsimp only at z1 z2
  by_cases h1:r<q<;>by_cases h2:r'<q
  ·rw[if_pos h1]at z1;rw[if_pos h2]at z2;exact k.dis _ _ b z1 z2
  ·rw[if_pos h1]at z1;rw[if_neg h2]at z2;have:=k.dis _ _ b z1 z2;lia
  ·rw[if_neg h1]at z1;rw[if_pos h2]at z2;have:=k.dis _ _ b z1 z2;lia
  ·rw[if_neg h1]at z1;rw[if_neg h2]at z2;have:=k.dis _ _ b z1 z2;lia
 ·try dsimp only at z
  by_cases h1:r<q
  ·rw[if_pos h1]at z;exact⟨k.sub _ b z,fun w=>by have:=k.dis _ _ b z w;lia⟩
  ·rw[if_neg h1]at z;exact⟨k.sub _ b z,fun w=>by have:=k.dis _ _ b z w;lia⟩
def zYH{G H:Hp}{p:Addr}{o:HO}{S:Addr->Prop}{a:Addr}{ds:List Dt}{xs:List V}{T:Nat->Addr->Prop}(k:Kids (Own G H n) S a ds xs T)(hp:∀q,¬T q p):Kids (Own G (upd H p o) n) S a ds xs T:=
 ⟨k.len,fun q d x h1 h2=>(k.own q d x h1 h2).upd (hp q),k.top,k.out,k.dis,k.sub⟩
def zeU(j i:Nat)(A:DE mg E te e n):DS mg E L (tAsg (tML popM (vM i) (zES te tNil)) (zFK j)) (Mi.sPop j i e):=by
 intro G0 H0 S0 σ ρ G H As D a p;obtain⟨J,x,s,w⟩:=a.full;unfold Mi.sPop at p;cases e1:ρ[i]? with
 |none=>rw[e1]at p;exact p.elim
 |some o=>
  rw[e1]at p
  match o,e1,p with
  |none,_,p=>exact p.elim
  |some (.lst ds,k+1),e1,p=>
   obtain⟨v,h1,q,xs,T,rfl,hq,kd⟩:=a.at i _ _ e1;unfold tAsg tML vM;rw[h1];refine⟨xs,hq,?_⟩;refine(zAL A).step (errS.from x) x.in' w p fun d y G1 H1 S _ fr o p1=>?_
   cases d with
   |int z=>
    cases(show y=.int z from o)
    dsimp only at p1;cases ei:Mi.ixA ds.length z with
    |none=>rw[ei]at p1;exact p1.elim
    |some c=>
     rw[ei]at p1;dsimp only at p1;cases ec:ds[c]? with
     |none=>rw[ec]at p1;exact p1.elim
     |some dc=>
      rw[ec]at p1;dsimp only at p1;split at p1
      ·rename_i hz
       rw[zML]at ei;obtain⟨g1,g2,g3,g4⟩:=zKO ei;have hc:c<xs.length:=by rw[kd.len];exact g2
       have hx:xs[c]?=some xs[c]:=qA1 hc;refine⟨xs,c,xs[c],fr.ext.h _ _ hq,⟨by lia,by lia⟩,by rw[kd.len];exact g1,hx,?_⟩;have a1:=a.grow fr.ext.h;have kd1:Kids (Own G H1 k) (As i) q ds xs T:=kd.imp (fun _ _ _ _ w=>w.mono (Same.refl _) fr.ext.h) fun _ z=>z
       have a2:=a1.store (o:=.lst (xs.eraseIdx c)) (n:=k+1) (d:=.lst (ds.eraseIdx c)) (S:=fun b=>As i b/\¬T c b) kd.top h1 ⟨q,_,_,rfl,zAA,zYH (kd1.pop c) fun r=>by split<;>exact kd.out _⟩ fun b z=>.inl z.1
       refine p1 _ G _ _ (a2.put (S:=T c) ((kd1.own c dc _ ec hx).upd (kd.out c)) (fun b hb=>?_) fun l b hl z1 z2=>?_)
       ·obtain⟨n1,n2,n3⟩:=a1.new i b (kd.sub c b hb);refine⟨n1,n2,?_⟩;rw[zAD (fun z:b=q=>kd.out c (z▸hb))];exact n3
       ·try dsimp only at z1
        by_cases z:l=i
        ·rw[if_pos z]at z1;exact z1.2 z2
        ·rw[if_neg z]at z1;exact z (a.dis l i b z1 (kd.sub c b z2))
      ·exact p1.elim
   |_=>exact p1.elim
  |some (.lst ds,0),_,p=>exact p.elim
  |some (.non,_),_,p=>exact p.elim
  |some (.bl _,_),_,p=>exact p.elim
  |some (.int _,_),_,p=>exact p.elim
  |some (.str _,_),_,p=>exact p.elim
  |some (.tup _,_),_,p=>exact p.elim
  |some (.scr _,_),_,p=>exact p.elim
  |some (.exc _ _ _,_),_,p=>exact p.elim
  |some (.fn _ _,_),_,p=>exact p.elim
  |some (.ins _ _,_),_,p=>exact p.elim
  |some (.dct _,_),_,p=>exact p.elim
end
end
section
variable[Kc]{mg:Str->Option Value}{E:XK}{L n:Nat}{te:TE}{e:EM}{t:TS}{m:SM}
def Kids.set{G H:Hp}{S:Addr->Prop}{a p:Addr}{ds:List Dt}{xs:List V}{T:Nat->Addr->Prop}{S':Addr->Prop}{d:Dt}{v:V}{o:HO}(k:Kids (Own G H n) S a ds xs T)(q:Nat)(w:Own G (upd H p o) n S' d v)(hp:∀r,r≠q->¬T r p)(ha:¬S' a)
  (hd:∀r b,r≠q->T r b->S' b->False):Kids (Own G (upd H p o) n) (fun b=>S b\/S' b) a (ds.set q d) (xs.set q v) (fun r b=>if r=q then S' b else T r b):=by
 refine⟨by simp[k.len],fun r d' x h1 h2=>?_,.inl k.top,fun r=>?_,fun r r' b z1 z2=>?_,fun r b z=>?_⟩
 ·by_cases z:q=r
  ·subst z;have h:q<ds.length:=by
    have:=(qA5.mp h1).1;simpa using this
   rw[qAt h]at h1;rw[qAt (by rw[k.len];exact h)]at h2;cases h1;cases h2;exact w.sub fun b hb=>by rw[if_pos rfl];exact hb
  ·rw[qB0 z]at h1 h2;exact((k.own r d' x h1 h2).upd (hp r fun y=>z y.symm)).sub fun b hb=>by rw[if_neg (fun y=>z y.symm)];exact hb
 ·try dsimp only
  split
  ·exact ha
  ·exact k.out _
 ·try dsimp only at z1 z2
  by_cases h1:r=q<;>by_cases h2:r'=q
  ·rw[h1,h2]
  ·rw[if_pos h1]at z1;rw[if_neg h2]at z2;exact(hd r' b h2 z2 z1).elim
  ·rw[if_neg h1]at z1;rw[if_pos h2]at z2;exact(hd r b h1 z1 z2).elim
  ·rw[if_neg h1]at z1;rw[if_neg h2]at z2;exact k.dis _ _ b z1 z2
 ·try dsimp only at z
  by_cases h1:r=q
  ·rw[if_pos h1]at z;exact .inr z
  ·rw[if_neg h1]at z;exact .inl (k.sub _ b z)
def zU2(i:Nat){n1:Nat}{t1 t2:TE}{e1 e2:EM}(A:DE mg E t1 e1 n1)(B:DE mg E t2 e2 n)(hn:n<1000:=by decide):DS mg E L (tAsg t2 (gSub (vM i) t1 setM)) (Mi.sItem i n e1 e2):=by
 intro G0 H0 S0 σ ρ G H As D a p;obtain⟨J,x,s,w⟩:=a.full;refine B.step (errS.from x) x.in' w p fun d y G1 H1 S _ fr o p1=>?_
 cases er:ρ[i]? with
 |none=>rw[er]at p1;exact p1.elim
 |some sl=>
  rw[er]at p1
  match sl,er,p1 with
  |none,_,p=>exact p.elim
  |some (.lst ds,k+1),er,p1=>
   obtain⟨v,h1,q,xs,T,rfl,hq,kd⟩:=a.at i _ _ er;unfold gSub vM;rw[h1];have x1:Ext J H J H1:=Ext.same x.in' fr.ext.h;refine(zAL A).step (errS.from (x.trans x1)) x1.in' w p1 fun z u G2 H2 S2 _ fr2 o2 p2=>?_
   cases z with
   |int z=>
    cases(show u=.int z from o2)
    try dsimp only at p2
    cases ei:Mi.ixA ds.length z with
    |none=>rw[ei]at p2;exact p2.elim
    |some c=>
     rw[ei]at p2
     try dsimp only at p2
     split at p2
     ·rename_i hz
      rw[zML]at ei;obtain⟨q1,q2⟩:=whole (k:=k) a s fr o hn hz.1 hz.2;have sH:=fr.ext.h.trans fr2.ext.h;refine⟨xs,c,sH _ _ hq,by rw[kd.len];exact ei,?_⟩;have a1:=a.grow sH;have nS:¬S q:=fun z=>(a.new i q kd.top).2.2 (q2 q z).1
      have kd1:Kids (Own G H2 k) (As i) q ds xs T:=kd.imp (fun _ _ _ _ w=>w.mono (Same.refl _) sH) fun _ z=>z
      refine p2 σ G _ _ (a1.store (S:=fun b=>As i b\/S b) kd.top h1 ⟨q,_,_,rfl,zAA,kd1.set c ((q1.mono (Same.refl _) fr2.ext.h).upd nS) (fun r _=>kd.out r) nS fun r b _ z1 z2=>(a.new i b (kd.sub r b z1)).2.2 (q2 b z2).1⟩ fun b z=>?_)
      rcases z with z|z
      ·exact .inl z
      ·obtain⟨n1,n2,n3⟩:=q2 b z;exact .inr ⟨a.ext.h.free n1,n2,fr2.ext.h.some n3,fun j y=>(a.new j b y).2.2 n1⟩
     ·exact p2.elim
   |_=>exact p2.elim
  |some (.lst ds,0),_,p=>exact p.elim
  |some (.non,_),_,p=>exact p.elim
  |some (.bl _,_),_,p=>exact p.elim
  |some (.int _,_),_,p=>exact p.elim
  |some (.str _,_),_,p=>exact p.elim
  |some (.tup _,_),_,p=>exact p.elim
  |some (.scr _,_),_,p=>exact p.elim
  |some (.exc _ _ _,_),_,p=>exact p.elim
  |some (.fn _ _,_),_,p=>exact p.elim
  |some (.ins _ _,_),_,p=>exact p.elim
  |some (.dct _,_),_,p=>exact p.elim
def zYU{G0 H0 S0:Hp}{D:Ends}{g:TG}{tg:Tg}{J:It}{ds:List Dt}{GJ:Hp}(hT:TgOk g tg)(B:DS mg E L t m)(io:ItOk J GJ ds){σ:St}{ρ:Ro}{G H:Hp}{As:Nat->Addr->Prop}(a:Sat G0 H0 S0 σ ρ G H As)(sJ:Same GJ G)
  (p:zGD mg E G0 H0 S0 L (Mi.forGo tg m ds ρ) D):zVH g t D σ J H:=by
 refine⟨fun i c σ H=>c=ds.length-i/\i<=ds.length/\∃ρ G As,Sat G0 H0 S0 σ ρ G H As/\Same GJ G/\zGD mg E G0 H0 S0 L (Mi.forGo tg m (ds.drop i) ρ) D,
  ⟨_,rfl,qAn _,ρ,G,As,a,sJ,by rw[qEu];exact p⟩,?_⟩
 rintro i c σ H ⟨rfl,hi,ρ,G,As,a,sJ,p⟩
 obtain⟨j1,j2,j3⟩:=io i G H sJ a.ext.in';by_cases hlt:i<ds.length
 ·refine .inr ⟨j1 hlt,fun σ' H'=>i+1<=ds.length/\∃ρ G As,Sat G0 H0 S0 σ' ρ G H' As/\Same GJ G/\zGD mg E G0 H0 S0 L (Mi.forGo tg m (ds.drop (i+1)) ρ) D,fun σ' H' q=>⟨ds.length-(i+1),by lia,rfl,q⟩,fun x H2 hy=>?_⟩;have hd:ds[i]?=some ds[i]:=qA1 hlt;obtain⟨G2,x2,r2⟩:=j3 x H2 ds[i] hd hy;rw[qBa hlt,Mi.forGo]at p;cases eb:zAV tg ds[i]with
  |none=>rw[eb]at p;exact p.elim
  |some bs=>
   rw[eb]at p
   try dsimp only at p
   refine hT G2 H2 _ _ x bs _ x2.in' r2 eb fun ws hb=>?_
   obtain⟨As2,a2⟩:=Sat.puts hb (a.wider x2);have a3:Sat G0 H0 GJ (zHA σ ws) (zB0 ρ bs) G2 H2 As2:=⟨a2.ext,sJ.trans x2.g,a2.tab,a2.len,a2.at,a2.dis,a2.new⟩;have key:∀(S1:Hp),Same S0 S1->Same GJ S1->Sat G0 H0 S1 (zHA σ ws) (zB0 ρ bs) G2 H2 As2->t { D with nx:=fun σ' H'=>i+1<=ds.length/\∃ρ G As,Sat G0 H0 S0 σ' ρ G H' As/\Same GJ G/\zGD mg E G0 H0 S0 L (Mi.forGo tg m (ds.drop (i+1)) ρ) D,ct:=fun σ' H'=>i+1<=ds.length/\∃ρ G As,Sat G0 H0 S0 σ' ρ G H' As/\Same GJ G/\zGD mg E G0 H0 S0 L (Mi.forGo tg m (ds.drop (i+1)) ρ) D,bk:=D.nx } (zHA σ ws) H2:=by
    intro S1 s1 s2 a4;refine B G0 H0 S1 _ _ G2 H2 As2 _ a4 ?_;have back:∀{σ':St}{ρ':Ro}{G' H':Hp}{As':Nat->Addr->Prop},Sat G0 H0 S1 σ' ρ' G' H' As'->Sat G0 H0 S0 σ' ρ' G' H' As'/\Same GJ G':=fun a5=>⟨⟨a5.ext,s1.trans a5.stb,a5.tab,a5.len,a5.at,a5.dis,a5.new⟩,s2.trans a5.stb⟩
    cases em:m (zB0 ρ bs)with
    |none=>rw[em]at p;exact p
    |some r=>
     rw[em]at p;cases r with
     |error y=>exact p
     |ok o=>
      cases o with
      |nx ρ'=>exact fun σ' G' H' As' a5=>⟨hlt,ρ',G',As',(back a5).1,(back a5).2,p⟩
      |ct ρ'=>exact fun σ' G' H' As' a5=>⟨hlt,ρ',G',As',(back a5).1,(back a5).2,p⟩
      |bk ρ'=>exact fun σ' G' H' As' a5=>p σ' G' H' As' (back a5).1
      |rt d=>exact p
   exact key G2 a2.stb (sJ.trans x2.g) ⟨a2.ext,Same.refl _,a2.tab,a2.len,a2.at,a2.dis,a2.new⟩
 ·have e:i=ds.length:=by lia
  subst e;rw[qFj,Mi.forGo]at p;exact .inl ⟨j2 (qAa _),p σ G H As a⟩
def zMV{wi:TI}{it:IM}{g:TG}{tg:Tg}(vs:List Nat){ind:Bool}(I:DI mg E wi it ind)(hT:TgOk g tg)(B:DS mg E L t m):DS mg E L (fun D σ H=>wi σ H (zVH g t D σ)) (Mi.sFor vs it tg m):=by
 intro G0 H0 S0 σ ρ G H As D a p;obtain⟨G1,As1,a1⟩:=Sat.frzAt vs a;refine I.step (errS.from a1.ext) a1.ext.in' a1.frz p fun ds J G2 H2 _ x2 io p1=>?_
 refine zYU hT B io (a1.wider x2) ?_ p1;unfold zUU;split
 ·exact fun b o e=>by cases e
 ·exact Same.refl _
def zG6{wi:TI}{it:IM}{i:Nat}(I:DI mg E wi it true)(B:DS mg E L t m):DS mg E L (fun D σ H=>wi σ H (zVH (zFK i) t D σ)) (Mi.sForR it i m):=by
 intro G0 H0 S0 σ ρ G H As D a p;obtain⟨J,x,s,w⟩:=a.full;refine I.step (errS.from x) x.in' w p fun ds J G2 H2 _ x2 io p1=>?_
 exact zYU (zAY i) B io (a.grow x2.h) (fun b o e=>by cases e) p1
def zfJ{G0 H0 S0:Hp}{D:Ends}{tc:TT}{c:TM}(C:DT mg E tc c)(B:DS mg E L t m)(N:Nat){σ:St}{ρ:Ro}{G H:Hp}{As:Nat->Addr->Prop}(a:Sat G0 H0 S0 σ ρ G H As)(p:zGD mg E G0 H0 S0 L (Mi.whGo c m N ρ) D):zRH tc t D σ H:=by
 refine⟨fun i σ H=>∃ρ G As,Sat G0 H0 S0 σ ρ G H As/\zGD mg E G0 H0 S0 L (Mi.whGo c m i ρ) D,⟨N,ρ,G,As,a,p⟩,?_⟩
 rintro i σ H ⟨ρ,G,As,a,p⟩
 cases i with
 |zero=>exact p.elim
 |succ i=>
  obtain⟨J,x,s,w⟩:=a.full;rw[Mi.whGo]at p;refine C.step (errS.from x) x.in' w p fun b H' _ sH p1=>?_
  cases b with
  |false=>exact p1 σ G H' As (a.grow sH)
  |true=>
   rw[if_pos rfl];refine⟨fun σ' H'=>∃ρ G As,Sat G0 H0 S0 σ' ρ G H' As/\zGD mg E G0 H0 S0 L (Mi.whGo c m i ρ) D,fun σ' H' q=>⟨i,qC9 i,q⟩,?_⟩;refine B G0 H0 S0 σ ρ G H' As _ (a.grow sH) ?_;rw[if_pos rfl]at p1;cases em:m ρ with
   |none=>rw[em]at p1;exact p1
   |some r=>
    rw[em]at p1;cases r with
    |error y=>exact p1
    |ok o=>
     cases o with
     |nx ρ'=>exact fun σ' G' H' As' a5=>⟨ρ',G',As',a5,p1⟩
     |ct ρ'=>exact fun σ' G' H' As' a5=>⟨ρ',G',As',a5,p1⟩
     |bk ρ'=>exact fun σ' G' H' As' a5=>p1 σ' G' H' As' a5
     |rt d=>exact p1
def zXE{tc:TT}{c:TM}(C:DT mg E tc c)(B:DS mg E L t m):DS mg E L (zRH tc t) (Mi.sWhile c m):=fun G0 H0 S0 σ ρ G H As D a p=>zfJ C B _ a p
def dz(A:DE mg E te e 0):DE mg E te e 0:=A
def zNO{P N:Nat}{vs:List V}{H:Hp}{Q:VK}{E:XK}(h:spM mg L (Mi.runF P N m) vs H Q E):vs.length=P:=by
 obtain⟨G,ds,_,s,r,p⟩:=h;rw[r.length];unfold Mi.runF at p;split at p
 ·rename_i h;exact h
 ·exact p.elim
def zAX{P:Nat}{N:List Str}{vs:List V}{H:Hp}{Q:VK}(B:DS mg E L t m)(h:spM mg L (Mi.runF P N.length m) vs H Q E):t { nx:=fun _ H'=>Q .non H',rt:=Q } (L2.start N vs) H:=by
 obtain⟨G,ds,tb,s,r,p⟩:=h;unfold Mi.runF at p;split at p
 ·refine B G H G _ (Mi.startO N.length ds) G H (fun _ _=>False) _ ⟨Ext.refl s,Same.refl _,tb,?_,fun i d n e=>?_,fun _ _ _ z=>z.elim,fun _ _ z=>z.elim⟩ ?_
  ·unfold Mi.startO L2.start;simp[r.length]
  ·unfold Mi.startO at e
   by_cases hi:i<ds.length
   ·rw[qA9 (by simpa using hi),qAb]at e;cases e1:ds[i]? with
    |none=>rw[e1]at e;cases e
    |some d'=>
     rw[e1]at e;cases e;have hv:vs[i]?=some (vs[i]'(by rw[r.length];exact hi)):=by simp
     refine⟨vs[i]'(by rw[r.length];exact hi),?_,zBV r e1 hv⟩;unfold L2.start;rw[qA9 (by simpa[r.length]using hi),qAb,hv];rfl
   ·rw[qA7 (by simpa using hi),qCc]at e
    split at e<;>cases e
  ·cases em:m (Mi.startO N.length ds)with
   |none=>rw[em]at p;exact p
   |some r=>
    rw[em]at p;cases r with
    |error y=>exact p
    |ok o=>
     cases o with
     |nx ρ'=>exact fun σ' G' H' As' a=>PostE.val (d:=.non) p a.ext rfl rfl
     |rt d=>exact p
     |bk ρ'=>exact p.elim
     |ct ρ'=>exact p.elim
 ·exact p.elim
end
end L3
namespace L2
open PySem PySem.Spec PyProof.Rows
section
end
end L2
namespace L3
open PySem PySem.Spec
open L2 hiding Rep RepL
open Mi (Dt Xn R okR zA3 optR zA0 zA9 zAC zA8 zAB Rh Sl Ro EM TM AM FM IM SM OM Tg Out zAV zAO zB0 full frz frz1 frzAt)
section
variable[Kc]{mg:Str->Option Value}{E:XK}{L n k:Nat}{te:TE}{e:EM}
def zf6:CBi (fun xs H Q=>(∃i,xs=[.int i]/\Q (.int i) H)\/∃k,xs=[.bl k]/\Q (.int (if k then 1 else 0)) H) Mi.intD n:=by
 intro mg E G H ds vs Q s h p;cases ds with
 |nil=>exact qA3 p
 |cons hd1 tl1=>
  cases hd1 with
  |int i=>
   cases tl1 with
   |nil=>
    obtain⟨x,rfl,hx⟩:=zCB h;cases(show x=.int i from hx)
    exact .inl ⟨i,rfl,PostE.val p (Ext.refl s) rfl rfl⟩
   |cons _ _=>exact qA3 p
  |bl b=>
   cases tl1 with
   |nil=>
    obtain⟨x,rfl,hx⟩:=zCB h;cases(show x=.bl b from hx)
    exact .inr ⟨b,rfl,PostE.val p (Ext.refl s) rfl rfl⟩
   |cons _ _=>exact qA3 p
  |_=>exact qA3 p
def zf2{f:List Dt->Option Dt}{g:Int->Int->Int}{r:List V->Hp->VK->Prop}(hr:∀i j H Q,Q (.int (g i j)) H->r [.int i,.int j] H Q)(hf:∀i j,f [.int i,.int j]=some (.int (g i j)))(hn:∀ds,(∀i j,ds≠[.int i,.int j])->f ds=none):CBi r f n:=by
 intro mg E G H ds vs Q s h p;by_cases hd:∃i j,ds=[.int i,.int j]
 ·obtain⟨i,j,rfl⟩:=hd;obtain⟨x,y,rfl,hx,hy⟩:=zZY h
  cases(show x=.int i from hx)
  cases(show y=.int j from hy)
  rw[hf]at p;exact hr i j H Q (PostE.val p (Ext.refl s) rfl rfl)
 ·rw[hn ds fun i j e=>hd ⟨i,j,e⟩]at p;exact p.elim
def zVD{f:List Dt->Option Dt}(h1:f []=none)(h2:∀x,f [x]=none)(h3:∀x y z r,f (x::y::z::r)=none)(h4:∀x y,(∀i j,[x,y]≠[.int i,.int j])->f [x,y]=none):∀ds,(∀i j,ds≠[.int i,.int j])->f ds=none:=by
 intro ds h
 match ds,h with
 |[],_=>exact h1
 |[x],_=>exact h2 x
 |[x,y],h=>exact h4 x y h
 |x::y::z::r,_=>exact h3 x y z r
def zf5:CBi (fun xs H Q=>∃i j,xs=[.int i,.int j]/\Q (.int (if j<i then j else i)) H) Mi.minD n:=
 zf2 (g:=fun i j=>if j<i then j else i) (fun i j H Q q=>⟨i,j,rfl,q⟩) (fun _ _=>rfl) (zVD rfl (fun x=>by cases x<;>rfl) (fun x y z r=>by cases x<;>cases y<;>rfl) (fun x y h=>by cases x<;>cases y<;>first|rfl|exact absurd rfl (h _ _)))
def zIA{G:Hp}{d:Dt}{v:V}(h:Rep G d v)(hd:d.dep=0):zDZ v=true:=(zEA (by lia) h).flat (qGl.mp (qAq (zFM (by lia)) (qFx hd)))
def zMT{G:Hp}{d e:Dt}{v u:V}(h:Rep G d v)(h':Rep G e u)(hd:d.dep=0)(he:e.dep=0):eqV v u=Dt.eq d e:=by
 rw[<- zOH (by lia) (by lia)];exact(zEA (by lia) h).flatEq (zEA (by lia) h') (qGl.mp (qAq (zFM (by lia)) (qFx hd))) (qGl.mp (qAq (zFM (by lia)) (qFx he)))
def zb2{G:Hp}{d:Dt}{v:V}(h:Rep G d v)(hd:d.dep=0):∀{ds:List Dt}{vs:List V},RepL G ds vs->Dt.depL ds=0->vs.all zDZ=true/\inV v vs=ds.any fun y=>Dt.eq y d
 |[],vs,r,_=>by cases(show vs=[] from r);exact⟨rfl,rfl⟩
 |e::ds,vs,r,hz=>by
  obtain⟨x,q,rfl,a,b⟩:=r;rw[Dt.depL]at hz;obtain⟨h1,h2⟩:=zb2 h hd b (by lia);have he:e.dep=0:=by lia
  refine⟨by simp[zIA a he,h1],?_⟩;unfold inV at h2 ⊢;rw[qCd,qCd,h2,zMT a h he hd]
def zVR{ng:Bool}:ROp (rInU Kc.K ng) (Mi.inD ng) n:=by
 intro mg E G H d e x y Q s h1 h2 p;cases e with
 |lst ys=>
  obtain⟨a,vs,rfl,ha,r⟩:=h2;unfold Mi.inD Mi.hasD at p;dsimp only at p;by_cases hz:d.dep=0/\Dt.depL ys=0
  ·rw[if_pos hz]at p;obtain⟨g1,g2⟩:=zb2 h1 hz.1 r hz.2;refine⟨vs,.inl (SqL.of (s _ _ ha)),zIA h1 hz.1,g1,?_⟩;rw[g2];exact PostE.val p (Ext.refl s) rfl rfl
  ·rw[if_neg hz]at p;exact p.elim
 |tup ys=>
  obtain⟨a,vs,rfl,ha,r⟩:=h2;unfold Mi.inD Mi.hasD at p;dsimp only at p;by_cases hz:d.dep=0/\Dt.depL ys=0
  ·rw[if_pos hz]at p;obtain⟨g1,g2⟩:=zb2 h1 hz.1 r hz.2;refine⟨vs,.inr (SqT.of (s _ _ ha)),zIA h1 hz.1,g1,?_⟩;rw[g2];exact PostE.val p (Ext.refl s) rfl rfl
  ·rw[if_neg hz]at p;exact p.elim
 |str z=>
  cases(show y=.str z from h2)
  cases d with
  |str w=>
   cases(show x=.str w from h1)
   obtain⟨⟨wl⟩⟩:=w;cases wl with
   |nil=>exact qA3 p
   |cons c tl1=>
    cases tl1 with
    |nil=>
     have p':PostE mg E G H n (okR (.bl (if ng=true then !decide (c∈z.cps.toList)else decide (c∈z.cps.toList)))) Q:=p;have q:=PostE.val (v:=.bl (if ng=true then !decide (c∈z.cps.toList)else decide (c∈z.cps.toList))) p' (Ext.refl s) rfl rfl;rw[<- StrLaws.found_one z c]at q;exact q
    |cons _ _=>exact qA3 p
  |_=>exact p.elim
 |_=>exact p.elim
def DO(mg:Str->Option Value)(E:XK)(t:TO)(m:OM):Prop:=∀(G H:Hp)(σ:St)(ρ:Rh)(Q:Option Int->Hp->Prop),Same G H->View G σ ρ ->
 (match m ρ with
  |none=>False
  |some (.error x)=>∀c da G' H',Ext G H G' H'->XRep mg x c da G' H'->E c da H'
  |some (.ok o)=>∀H',Same H H'->Q o H')->t σ H Q
def DO.step{β:Type}{t:TO}{m:OM}(D:DO mg E t m){G H:Hp}{σ:St}{ρ:Rh}{Q:Option Int->Hp->Prop}{P:R β->Prop}{f:Option Int->R β}(hE:Err mg E G H P)(s:Same G H)(w:View G σ ρ)(p:P (zA3 (m ρ) f))
  (h:∀b H',m ρ=okR b->Same H H'->P (f b)->Q b H'):t σ H Q:=by
 refine D G H σ ρ Q s w ?_;cases e:m ρ with
 |none=>rw[e]at p;exact hE.no p
 |some r=>
  rw[e]at p;cases r with
  |error x=>exact hE.er x p
  |ok b=>exact fun H' sH=>h b H' e sH p
def zeW:DO mg E zRI Mi.oNo:=fun G H σ ρ Q s w p=>p H (Same.refl _)
def do_e(A:DE mg E te e k):DO mg E (zcO te) (Mi.oE e):=by
 intro G H σ ρ Q s w p;unfold Mi.oE at p;refine(zAL A).step (P:=fun r=>match r with
  |none=>False
  |some (.error x)=>∀c da G' H',Ext G H G' H'->XRep mg x c da G' H'->E c da H'
  |some (.ok o)=>∀H',Same H H'->Q o H') ⟨fun h=>h,fun _ h=>h⟩ s w p fun d v G1 H1 S _ fr o p1=>?_
 cases d with
 |int i=>exact⟨i,o,p1 H1 fr.ext.h⟩
 |_=>exact p1.elim
def zPR(n d:Nat)(o:Option Int):Mi.cutIx n d o=HT.sIx n d o:=by cases o<;>rfl
def zLY{G:Hp}:∀{ds:List Dt}{xs:List V}(i:Nat),RepL G ds xs->RepL G (ds.drop i) (xs.drop i)
 |ds,xs,0,r=>by simpa using r
 |[],xs,i+1,r=>by cases(show xs=[] from r);exact rfl
 |d::ds,xs,i+1,r=>by
  obtain⟨x,q,rfl,a,b⟩:=r;exact zLY i b
def zLW{G:Hp}:∀{ds:List Dt}{xs:List V}(i:Nat),RepL G ds xs->RepL G (ds.take i) (xs.take i)
 |ds,xs,0,r=>by simp;exact rfl
 |[],xs,i+1,r=>by cases(show xs=[] from r);exact rfl
 |d::ds,xs,i+1,r=>by
  obtain⟨x,q,rfl,a,b⟩:=r;exact⟨x,_,rfl,a,zLW i b⟩
def zVY{G:Hp}{ds:List Dt}{xs:List V}(r:RepL G ds xs)(lo hi:Option Int):RepL G (Mi.cutA ds lo hi) (cutV xs lo hi):=by
 unfold Mi.cutA cutV;rw[zPR,zPR,r.length];exact zLW _ (zLY _ r)
def RSl(r:V->Option Int->Option Int->Hp->VK->Prop)(n:Nat):Prop:=∀(mg:Str->Option Value)(E:XK)(G H:Hp)(d:Dt)(x:V)(lo hi:Option Int)(Q:VK),Same G H->Rep G d x->PostE mg E G H n (optR (Mi.slD d lo hi)) Q->r x lo hi H Q
def zf0{r:V->Option Int->Option Int->Hp->VK->Prop}{tl th:TO}{ml mh:OM}(hr:RSl r n)(A:DE mg E te e k)(B:DO mg E tl ml)(C:DO mg E th mh):DE mg E (tSl r te tl th) (Mi.eSl e ml mh) n:=by
 intro G H σ ρ Q s w p;refine(zAL A).step errE s w p fun d v G1 H1 S _ fr o p1=>?_
 refine B.step (errE.from fr.ext) fr.ext.in' (w.mono fr.ext.g) p1 fun lo H2 _ s2 p2=>?_
 have x2:=fr.ext.trans (Ext.same fr.ext.in' s2);refine C.step (errE.from x2) x2.in' (w.mono fr.ext.g) p2 fun hi H3 _ s3 p3=>?_
 have x3:=x2.trans (Ext.same x2.in' s3);exact hr mg E G1 H3 d v lo hi Q x3.in' o (PostE.from p3 x3)
def zXG(i:Nat){n0 n1:Nat}{t0 t1 t2:TE}{e0 e1 e2:EM}(Z:DE mg E t0 e0 n0)(A:DE mg E t1 e1 n1)(B:DE mg E t2 e2 n)(hn:n<1000:=by decide):DS mg E L (tAsg t2 (gSub (tOp (rIxU Kc.K) (vM i) t0) t1 setM)) (Mi.sItem2 i n e0 e1 e2):=by
 intro G0 H0 S0 σ ρ G H As D a p;obtain⟨J,x,s,w⟩:=a.full;refine B.step (errS.from x) x.in' w p fun d y G1 H1 S _ fr o p1=>?_
 cases er:ρ[i]? with
 |none=>rw[er]at p1;exact p1.elim
 |some sl=>
  rw[er]at p1
  match sl,er,p1 with
  |none,_,p=>exact p.elim
  |some (.lst rs,k+2),er,p1=>
   obtain⟨v,h1,q,xs,T,rfl,hq,kd⟩:=a.at i _ _ er;unfold gSub tOp vM;rw[h1];have x1:Ext J H J H1:=Ext.same x.in' fr.ext.h;refine(zAL Z).step (errS.from (x.trans x1)) x1.in' w p1 fun z0 u0 G2 H2 S2 _ fr2 o2 p2=>?_
   cases z0 with
   |int y0=>
    cases(show u0=.int y0 from o2)
    dsimp only at p2;cases ei:Mi.ixA rs.length y0 with
    |none=>rw[ei]at p2;exact p2.elim
    |some c=>
     rw[ei]at p2;dsimp only at p2;cases erow:rs[c]? with
     |none=>rw[erow]at p2;exact p2.elim
     |some row=>
      rw[erow]at p2;cases row with
      |lst ds=>
       have hc:c<xs.length:=by rw[kd.len];exact(qA5.mp erow).1
       have hxc:xs[c]?=some xs[c]:=qA1 hc;obtain⟨qr,ys,U,er2,hqr,kr⟩:=kd.own c _ _ erow hxc;have sH2:=fr.ext.h.trans fr2.ext.h;refine⟨xs,xs[c],.inl (SqL.of (sH2 _ _ hq)),?_,?_⟩
       ·unfold atI;rw[kd.len,<- zML,ei];exact hxc
       have x2:Ext J H J H2:=Ext.same x.in' sH2;refine(zAL A).step (errS.from (x.trans x2)) x2.in' w p2 fun z u G3 H3 S3 _ fr3 o3 p3=>?_
       cases z with
       |int z=>
        cases(show u=.int z from o3)
        dsimp only at p3;cases ez:Mi.ixA ds.length z with
        |none=>rw[ez]at p3;exact p3.elim
        |some c2=>
         rw[ez]at p3;dsimp only at p3;split at p3
         ·rename_i hz
          rw[zML]at ez;obtain⟨q1,q2⟩:=whole (k:=k) a s fr o hn hz.1 hz.2;have sH:=sH2.trans fr3.ext.h;rw[er2];refine⟨ys,c2,sH _ _ hqr,by rw[kr.len];exact ez,?_⟩;have a1:=a.grow sH;have tqr:T c qr:=kr.top;have iqr:As i qr:=kd.sub c qr tqr;have nS:¬S qr:=fun z=>(a.new i qr iqr).2.2 (q2 qr z).1
          have qne:q≠qr:=fun z=>kd.out c (z▸tqr)
          have fresh:∀b,As i b->S b->False:=fun b z1 z2=>(a.new i b z1).2.2 (q2 b z2).1
          have kr1:Kids (Own G H3 k) (T c) qr ds ys U:=kr.imp (fun _ _ _ _ w=>w.mono (Same.refl _) sH) fun _ z=>z
          have rowK:=kr1.set (p:=qr) (o:=.lst (ys.set c2 y)) c2 ((q1.mono (Same.refl _) (fr2.ext.h.trans fr3.ext.h)).upd nS) (fun r _=>kr.out r) nS (fun r b _ z1 z2=>fresh b (kd.sub c b (kr.sub r b z1)) z2);refine p3 σ G _ _ (a1.store (S:=fun b=>As i b\/S b) (d:=.lst (rs.set c (.lst (ds.set c2 d)))) (n:=k+2) (v:=.ref q) iqr h1 ⟨q,xs,fun r b=>if r=c then T c b\/S b else T r b,rfl,(zAD qne).trans (sH _ _ hq),⟨by simp[kd.len],fun r d' xr g1 g2=>?_,.inl kd.top,fun r=>?_,fun r r' b z1 z2=>?_,fun r b z=>?_⟩⟩ fun b z=>?_)
          ·by_cases hr:c=r
           ·subst hr;rw[qAt (by rw[<- kd.len];exact hc)]at g1;cases g1;rw[hxc]at g2;cases g2;refine⟨qr,_,_,er2,zAA,rowK.imp (fun _ _ _ _ w=>w) fun b z=>?_⟩;rw[if_pos rfl];exact z
           ·rw[qB0 hr]at g1;have nr:¬T r qr:=fun z=>hr (kd.dis c r qr tqr z)
            exact(((kd.own r d' xr g1 g2).mono (Same.refl _) sH).upd nr).sub fun b z=>by rw[if_neg (fun z=>hr z.symm)];exact z
          ·try dsimp only
           split
           ·exact fun z=>z.elim (kd.out c) fun z=>fresh q kd.top z
           ·exact kd.out r
          ·try dsimp only at z1 z2
           by_cases g1:r=c<;>by_cases g2:r'=c
           ·rw[g1,g2]
           ·rw[if_pos g1]at z1;rw[if_neg g2]at z2
            rcases z1 with z1|z1
            ·rw[g1];exact kd.dis c r' b z1 z2
            ·exact(fresh b (kd.sub r' b z2) z1).elim
           ·rw[if_neg g1]at z1;rw[if_pos g2]at z2
            rcases z2 with z2|z2
            ·rw[g2];exact kd.dis r c b z1 z2
            ·exact(fresh b (kd.sub r b z1) z2).elim
           ·rw[if_neg g1]at z1;rw[if_neg g2]at z2;exact kd.dis r r' b z1 z2
          ·try dsimp only at z
           by_cases g1:r=c
           ·rw[if_pos g1]at z
            rcases z with z|z
            ·exact .inl (kd.sub c b z)
            ·exact .inr z
           ·rw[if_neg g1]at z;exact .inl (kd.sub r b z)
          ·rcases z with z|z
           ·exact .inl z
           ·obtain⟨n1,n2,n3⟩:=q2 b z;exact .inr ⟨a.ext.h.free n1,n2,(fr2.ext.h.trans fr3.ext.h).some n3,fun j y=>(a.new j b y).2.2 n1⟩
         ·exact p3.elim
       |_=>exact p3.elim
      |_=>exact p2.elim
   |_=>exact p2.elim
  |some (.lst ds,0),_,p=>exact p.elim
  |some (.lst ds,1),_,p=>exact p.elim
  |some (.non,_),_,p=>exact p.elim
  |some (.bl _,_),_,p=>exact p.elim
  |some (.int _,_),_,p=>exact p.elim
  |some (.str _,_),_,p=>exact p.elim
  |some (.tup _,_),_,p=>exact p.elim
  |some (.scr _,_),_,p=>exact p.elim
  |some (.exc _ _ _,_),_,p=>exact p.elim
  |some (.fn _ _,_),_,p=>exact p.elim
  |some (.ins _ _,_),_,p=>exact p.elim
  |some (.dct _,_),_,p=>exact p.elim
end
section
variable[Kc]{mg:Str->Option Value}{E:XK}{n k:Nat}{te ta:TE}{e ma:EM}{t:TA}{m:AM}
def rs_u:RSl (rSlU Kc.K) 1:=by
 intro mg E G H d x lo hi Q s h p;cases d with
 |lst ds=>
  obtain⟨a,xs,rfl,ha,r⟩:=h;exact⟨xs,SqL.of (s _ _ ha),fun q hq=>PostE.lst p (Ext.refl s) (zVY r lo hi) hq⟩
 |str z=>
  cases(show x=.str z from h)
  rw[Mi.slD]at p;by_cases hz:z.length<=100000
  ·rw[if_pos hz]at p;exact⟨big' hz,PostE.val p (Ext.refl s) rfl rfl⟩
  ·rw[if_neg hz]at p;exact p.elim
 |_=>exact p.elim
def zbH{tl th:TO}{ml mh:OM}(A:DE mg E te e k)(B:DO mg E tl ml)(C:DO mg E th mh):DE mg E (tSl (rSlU Kc.K) te tl th) (Mi.eSl e ml mh) 1:=zf0 rs_u A B C
def zeF{G:Hp}(z:Str):ItOk (Its z) G (Mi.signsD z):=by
 intro i G1 H1 s1 s2;have hl:(Mi.signsD z).length=z.cps.size:=by simp[Mi.signsD]
 refine⟨fun hi=>by rw[hl]at hi;exact hi,fun hi=>by rw[hl]at hi;exact hi,fun x H2 d hd hy=>?_⟩;obtain⟨rfl,c,hc,rfl⟩:=hy;refine⟨G1,Ext.refl s2,?_⟩;unfold Mi.signsD at hd;rw[qAb]at hd;have hc':z.cps.toList[i]?=some c:=by simpa using hc
 rw[hc']at hd;cases hd;rfl
def zCE(A:DE mg E ta ma k):DI mg E (iAny Kc.K ta) (Mi.iSq ma) false:=by
 intro G H σ ρ Q s w p;refine(zAL A).step errI s w p fun d v G1 H1 S _ fr o p1=>?_
 cases d with
 |lst ds=>
  obtain⟨a,xs,rfl,ha,r⟩:=o;exact .inl ⟨⟨xs,SqL.of (fr.ext.in' _ _ ha)⟩,p1 _ G1 H1 fr.ext (zYO (SqL.of ha) r)⟩
 |tup ds=>
  obtain⟨a,xs,rfl,ha,r⟩:=o;exact .inr ⟨⟨xs,SqT.of (fr.ext.in' _ _ ha)⟩,p1 _ G1 H1 fr.ext (zYN (SqT.of ha) r)⟩
 |scr ns=>
  obtain⟨a,rfl,ha⟩:=o;rcases ha with ha|ha
  ·exact .inl ⟨⟨_,fr.ext.in'.seq ha⟩,p1 _ G1 H1 fr.ext (zYO ha (zD8 ns))⟩
  ·exact .inr ⟨⟨_,zHC fr.ext.in' ha⟩,p1 _ G1 H1 fr.ext (zYN ha (zD8 ns))⟩
 |str z=>
  cases(show v=.str z from o)
  exact p1 _ G1 H1 fr.ext (zeF z)
 |_=>exact p1.elim
def zOO:∀(xs ys:List Dt),(Mi.zipD xs ys).length=min xs.length ys.length
 |[],ys=>by simp[Mi.zipD]
 |_::_,[]=>by simp[Mi.zipD]
 |x::r,y::q=>by rw[Mi.zipD,qAj,zOO r q,qAj,qAj];lia
def zOP:∀(xs ys:List Dt)(i:Nat)(d:Dt),(Mi.zipD xs ys)[i]?=some d->∃x y,xs[i]?=some x/\ys[i]?=some y/\d=.tup [x,y]
 |[],ys,_,_,h=>by simp[Mi.zipD]at h
 |_::_,[],_,_,h=>by simp[Mi.zipD]at h
 |x::r,y::q,0,d,h=>by simp[Mi.zipD]at h;exact⟨x,y,by simp,by simp,h.symm⟩
 |x::r,y::q,i+1,d,h=>by
  rw[Mi.zipD]at h;obtain⟨a,b,h1,h2,h3⟩:=zOP r q i d (by simpa using h);exact⟨a,b,by simpa using h1,by simpa using h2,h3⟩
def zeD{K:qA2}{G:Hp}{a b:Addr}{xs ys:List V}{ds es:List Dt}(ha:G a=some (.lst xs))(r:RepL G ds xs)(hb:G b=some (.lst ys))(r':RepL G es ys):ItOk (Itz K a b) G (Mi.zipD ds es):=by
 intro i G1 H1 s1 s2;have hS:SqL K H1 a xs:=SqL.of (s2 _ _ (s1 _ _ ha));have hS':SqL K H1 b ys:=SqL.of (s2 _ _ (s1 _ _ hb));have l1:=r.length;have l2:=r'.length;rw[zOO];refine⟨fun hi=>⟨xs,ys,xs[i]'(by lia),ys[i]'(by lia),hS,hS',by simp,by simp⟩,fun hi=>⟨xs,ys,hS,hS',by lia⟩,fun x H2 d hd hy=>?_⟩;obtain⟨T,u,v,rfl,hT,rfl,h1,h2⟩:=hy;obtain⟨p,q,g1,g2,rfl⟩:=zOP ds es i d hd;have x1:=Ext.new s2 hT (.tup [u,v]);exact⟨_,x1,T,_,rfl,zAA,_,_,rfl,Rep.mono (s1.trans x1.g) (zBV r g1 (h1 xs hS)),_,_,rfl,Rep.mono (s1.trans x1.g) (zBV r' g2 (h2 ys hS')),rfl⟩
def zeY(A:DA mg E t m 0):DI mg E (iZip Kc.K t) (Mi.iZi m) false:=by
 intro G H σ ρ Q s w p;refine A.step errI s w p fun ds vs G1 H1 S T _ fr o p1=>?_
 have r:=o.repL;cases ds with
 |nil=>exact p1.elim
 |cons a0 r0=>
  cases a0 with
  |lst xs=>
   cases r0 with
   |nil=>exact p1.elim
   |cons b0 r1=>
    cases r1 with
    |cons _ _=>cases b0<;>exact p1.elim
    |nil=>
     cases b0 with
     |lst ys=>
      obtain⟨x,y,rfl,⟨a,us,rfl,ha,ra⟩,⟨b,ws,rfl,hb,rb⟩⟩:=zZY r;exact⟨⟨us,SqL.of (fr.ext.in' _ _ ha)⟩,⟨ws,SqL.of (fr.ext.in' _ _ hb)⟩,p1 _ G1 H1 fr.ext (zeD ha ra hb rb)⟩
     |_=>exact p1.elim
  |_=>rcases r0 with _|⟨_,_|_⟩<;>exact p1.elim
def RMt(r:V->List V->Hp->VK->Prop)(f:Dt->List Dt->Option Dt)(n:Nat):Prop:=∀(mg:Str->Option Value)(E:XK)(G H:Hp)(z:Str)(ds:List Dt)(vs:List V)(Q:VK),Same G H->RepL G ds vs->PostE mg E G H n (optR (f (.str z) ds)) Q->r (.str z) vs H Q
def zIZ{r:V->List V->Hp->VK->Prop}{f:Dt->List Dt->Option Dt}(hr:RMt r f n)(A:DE mg E te e k)(B:DA mg E t m 0):DE mg E (tBM Kc.K "str" r te t) (Mi.eMt f e m) n:=by
 intro G H σ ρ Q s w p;refine(zAL A).step errE s w p fun d v G1 H1 S _ fr o p1=>?_
 cases d with
 |str z=>
  cases(show v=.str z from o)
  refine⟨rfl,?_⟩;have p2:PostE mg E G H n (zA3 (m ρ) fun xs=>optR (f (.str z) xs)) Q:=p1;refine B.step (errE.from fr.ext) fr.ext.in' (w.mono fr.ext.g) p2 fun ds vs G2 H2 S2 T2 _ fr2 o2 p3=>?_
  exact hr mg E G2 H2 z ds vs Q fr2.ext.in' o2.repL (PostE.from p3 (fr.ext.trans fr2.ext))
 |_=>exact p1.elim
def zRW{r:V->List V->Hp->VK->Prop}{f:Dt->List Dt->Option Dt}(hf:∀z ds,(∀c,ds≠[.str ⟨#[c]⟩])->f (.str z) ds=none)
  (hr:∀(mg:Str->Option Value)(E:XK)(G H:Hp)(z:Str)(c:Nat)(Q:VK),Same G H->PostE mg E G H n (optR (f (.str z) [.str ⟨#[c]⟩])) Q->r (.str z) [.str ⟨#[c]⟩] H Q):RMt r f n:=by
 intro mg E G H z ds vs Q s h p;by_cases hd:∃c,ds=[.str ⟨#[c]⟩]
 ·obtain⟨c,rfl⟩:=hd;obtain⟨x,rfl,hx⟩:=zCB h
  cases(show x=.str ⟨#[c]⟩ from hx)
  exact hr mg E G H z c Q s p
 ·rw[hf z ds fun c e=>hd ⟨c,e⟩]at p;exact p.elim
def zKB{f:Dt->List Dt->Option Dt}{z:Str}(h1:f (.str z) []=none)(h2:∀d,(∀y,d≠.str y)->f (.str z) [d]=none)(h3:∀d e r,f (.str z) (d::e::r)=none)(h4:f (.str z) [.str ⟨#[]⟩]=none)(h5:∀a b r,f (.str z) [.str ⟨⟨a::b::r⟩⟩]=none) :
  ∀ds,(∀c,ds≠[.str ⟨#[c]⟩])->f (.str z) ds=none:=by
 intro ds h
 match ds,h with
 |[],_=>exact h1
 |[.str ⟨⟨[]⟩⟩],_=>exact h4
 |[.str ⟨⟨[c]⟩⟩],h=>exact absurd rfl (h c)
 |[.str ⟨⟨a::b::r⟩⟩],_=>exact h5 a b r
 |[.non],_=>exact h2 _ fun _ e=>by cases e
 |[.bl _],_=>exact h2 _ fun _ e=>by cases e
 |[.int _],_=>exact h2 _ fun _ e=>by cases e
 |[.lst _],_=>exact h2 _ fun _ e=>by cases e
 |[.tup _],_=>exact h2 _ fun _ e=>by cases e
 |[.scr _],_=>exact h2 _ fun _ e=>by cases e
 |[.exc _ _ _],_=>exact h2 _ fun _ e=>by cases e
 |[.fn _ _],_=>exact h2 _ fun _ e=>by cases e
 |[.ins _ _],_=>exact h2 _ fun _ e=>by cases e
 |[.dct _],_=>exact h2 _ fun _ e=>by cases e
 |d::e::r,_=>exact h3 d e r
def zHH:RMt zeP Mi.findD n:=zRW (fun z=>zKB rfl (fun d h=>by cases d<;>first|rfl|exact absurd rfl (h _)) (fun d e r=>by cases d<;>rfl) rfl fun a b r=>rfl) fun mg E G H z c Q s p=>by
 show Q (.int (qN6 z ⟨#[c]⟩)) H;rw[zXC];exact PostE.val p (Ext.refl s) rfl rfl
def zVT:RMt zZ9 Mi.countD n:=zRW (fun z=>zKB rfl (fun d h=>by cases d<;>first|rfl|exact absurd rfl (h _)) (fun d e r=>by cases d<;>rfl) rfl fun a b r=>rfl) fun mg E G H z c Q s p=>by
 show Q (.int (qNc z ⟨#[c]⟩)) H;rw[zUK];exact PostE.val p (Ext.refl s) rfl rfl
def zOW{G:Hp}:∀{ds:List Dt}{zs:List Str}{xs:List V},Mi.strsD ds=some zs->RepL G ds xs->xs=zs.map V.str
 |[],zs,xs,h,r=>by cases h;exact r
 |.str b::ds,zs,xs,h,r=>by
  obtain⟨x,q,rfl,a,c⟩:=r;rw[Mi.strsD]at h;cases e:Mi.strsD ds with
  |none=>rw[e]at h;cases h
  |some cs=>
   rw[e]at h;cases h;rw[zOW e c,show x=.str b from a];rfl
 |.non::_,_,_,h,_=>by simp[Mi.strsD]at h
 |.int _::_,_,_,h,_=>by simp[Mi.strsD]at h
 |.bl _::_,_,_,h,_=>by simp[Mi.strsD]at h
 |.lst _::_,_,_,h,_=>by simp[Mi.strsD]at h
 |.tup _::_,_,_,h,_=>by simp[Mi.strsD]at h
 |.scr _::_,_,_,h,_=>by simp[Mi.strsD]at h
 |.exc _ _ _::_,_,_,h,_=>by simp[Mi.strsD]at h
 |.fn _ _::_,_,_,h,_=>by simp[Mi.strsD]at h
 |.ins _ _::_,_,_,h,_=>by simp[Mi.strsD]at h
 |.dct _::_,_,_,h,_=>by simp[Mi.strsD]at h
def zNV:RMt ze7 Mi.joinD n:=by
 intro mg E G H z ds vs Q s h p;cases ds with
 |nil=>exact qA3 p
 |cons hd1 tl1=>
  cases hd1 with
  |lst es=>
   cases tl1 with
   |nil=>
    obtain⟨x,rfl,a,xs,rfl,ha,ra⟩:=zCB h;have p':PostE mg E G H n (optR (match Mi.strsD es with
     |some zs=>@ite _ ((zs.map (·.length)).sum+zs.length*z.length<=100000) (qA6 _) (some (.str (qLg z zs))) none
     |none=>none)) Q:=p
    cases e:Mi.strsD es with
    |none=>rw[e]at p';exact p'.elim
    |some zs=>
     rw[e]at p';dsimp only at p';split at p'
     ·rename_i hz
      exact⟨zs,by rw[<- zOW e ra];exact s _ _ ha,by lia,PostE.val p' (Ext.refl s) rfl rfl⟩
     ·exact p'.elim
   |cons _ _=>exact qA3 p
  |_=>exact qA3 p
end
end L3
namespace L3
open PySem PySem.Spec
open L2 hiding Rep RepL
open Mi (Dt FM okR)
def sp0(K:qA2)(mg:Str->Option Value)(L:Nat)(f:FM):Sp:=fun vs H Q _=>@spM ⟨K⟩ mg L f vs H Q E0
end L3
namespace Mi
open PySem
def noE{α:Type}(r:R α):R α:=match r with
 |some (.ok a)=>okR a
 |_=>none
def eCallN(f:FM)(am:AM):EM:=fun ρ=>zA3 (am ρ) fun ds=>noE (f ds)
def eMkX(c f:Str)(am:AM):EM:=fun ρ=>zA3 (am ρ) fun ds=>match ds with
 |[d]=>okR (.exc c f d)
 |_=>none
def sRaise(c f:Str)(am:AM):SM:=fun r=>zA3 (am (full r)) fun ds=>match ds with
 |[d]=>some (.error ⟨c,f,d⟩)
 |_=>none
def sRaise0(c:Str)(am:AM):SM:=fun r=>zA3 (am (full r)) fun ds=>@ite _ (ds.length<=1000) (qA6 _) (some (.error ⟨c,"",.non⟩)) none
def eAtX(hs:List Str)(f:Str)(a:EM):EM:=fun ρ=>zA3 (a ρ) fun d=>match d with
 |.exc c g x=>if c∈hs/\g=f then okR x else none
 |_=>none
def eIsX(ys ns:List Str)(a:EM):EM:=fun ρ=>zA3 (a ρ) fun d=>match d with
 |.exc c _ _=>if c∈ys then okR (.bl true)else if c∈ns then okR (.bl false)else none
 |_=>none
def zeK(i:Nat):Out->Out
 |.nx r=>.nx (r.set i none)
 |.rt d=>.rt d
 |.bk r=>.bk (r.set i none)
 |.ct r=>.ct (r.set i none)
end Mi
namespace L3
open PySem PySem.Spec
open L2 hiding Rep RepL
open Mi (Dt Xn R okR zA3 optR zA0 zA9 zAC zA8 zAB Rh Sl Ro EM TM AM FM IM SM OM Tg Out zAV zAO zB0 full frz frz1 frzAt)
section
variable[Kc]{mg:Str->Option Value}{E:XK}{L n:Nat}{t:TA}{m:AM}
def zPQ{f:FM}(A:DA mg E t m 0):DE mg E (zLJ (spM mg n f) [] E0 t) (Mi.eCallN f m) n:=by
 intro G H σ ρ Q s w p;refine A.step errE s w p fun ds vs G1 H1 S T _ fr o p1=>?_
 refine⟨G1,ds,w.tab.trans fr.ext.g,fr.ext.in',by rw[qD4];exact o.repL,?_⟩;have p2:=PostE.from p1 fr.ext;cases e:f ds with
 |none=>rw[e]at p2;exact p2
 |some r=>
  rw[e]at p2;cases r with
  |error x=>exact p2.elim
  |ok d=>exact p2
def zH9(K:qA2)(f:Str):Sp:=fun vs H Q _=>∃e C y,vs=[.ref e,y]/\H e=some (xn e (.ref C) none)/\PySem.W.xcIn K C=true/\XSet K C f/\∀d,H d=none->d≠e->Q .non (upd (upd H d (.xd [(f,y)])) e (xn e (.ref C) (some d)))
def madeX{G H:Hp}{a e C:Addr}{f:Str}{y:V}{d:Dt}{o:HO}(s:Same G H)(ha:H a=none)(he:H e=none)(hne:a≠e)(r:Rep G d y) :
  Ext G H (upd (upd G a (.xd [(f,y)])) e o) (upd (upd H a (.xd [(f,y)])) e o)/\Rep (upd (upd G a (.xd [(f,y)])) e o) d y:=by
 have sg:Same G (upd (upd G a (.xd [(f,y)])) e o):=fun b u hb=>by
  have h1:b≠e:=fun z=>by rw[z]at hb;rw[s _ _ hb]at he;cases he
  have h2:b≠a:=fun z=>by rw[z]at hb;rw[s _ _ hb]at ha;cases ha
  rw[zAD h1,zAD h2];exact hb
 have sh:Same H (upd (upd H a (.xd [(f,y)])) e o):=fun b u hb=>by
  have h1:b≠e:=fun z=>by rw[z,he]at hb;cases hb
  have h2:b≠a:=fun z=>by rw[z,ha]at hb;cases hb
  rw[zAD h1,zAD h2];exact hb
 refine⟨⟨sg,sh,fun b u hb=>?_,fun b hb=>?_⟩,Rep.mono sg r⟩
 ·by_cases h1:b=e
  ·rw[h1,zAA]at hb;rw[h1,zAA];exact hb
  ·rw[zAD h1]at hb;rw[zAD h1]
   by_cases h2:b=a
   ·rw[h2,zAA]at hb;rw[h2,zAA];exact hb
   ·rw[zAD h2]at hb;rw[zAD h2];exact s _ _ hb
 ·have h1:b≠e:=fun z=>hb (by rw[z];exact he)
  have h2:b≠a:=fun z=>hb (by rw[z];exact ha)
  rw[zAD h1,zAD h2]
def zcW{G:Hp}{ds:List Dt}{vs:List V}(r:RepL G ds vs){d:Dt}(h:ds=[d]):∃y,vs=[y]/\Rep G d y:=by
 subst h;obtain⟨x,q,rfl,a,b⟩:=r;cases(show q=[] from b)
 exact⟨x,rfl,a⟩
def zXF{c f:Str}{C:Addr}{E':XK}(hC:clK Kc.K c=some C)(hx:PySem.W.xcIn Kc.K C=true)(hs:XSet Kc.K C f)(A:DA mg E t m 0):DS mg E L (zOT Kc.K E (zOU C (zH9 Kc.K f) E' t)) (Mi.sRaise c f m):=by
 intro G0 H0 S0 σ ρ G H As D a p;obtain⟨J,x,s,w⟩:=a.full;refine A.step (errS.from x) x.in' w p fun ds vs G1 H1 S T _ fr o p1=>?_
 cases ds with
 |nil=>exact qA3 p1
 |cons d tl1=>
  cases tl1 with
  |nil=>
   obtain⟨y,rfl,r⟩:=zcW o.repL rfl;refine⟨by show 1<=sizeLine;decide,fun e he=>⟨e,C,y,rfl,zAA,hx,hs,fun b hb hne=>⟨rfl,e,C,some b,rfl,zAA,hx,?_⟩⟩⟩;have hb':H1 b=none:=by rw[zAD hne]at hb;exact hb
   have hu:upd (upd (upd (upd H1 e (xn e (.ref C) none)) b (.xd [(f,y)])) e (xn e (.ref C) (some b))) e (xo e (.ref C) (some b))=upd (upd H1 b (.xd [(f,y)])) e (xo e (.ref C) (some b)):=by
    funext z;by_cases h1:z=e
    ·rw[h1,zAA,zAA]
    ·rw[zAD h1,zAD h1,zAD h1]
     by_cases h2:z=b
     ·rw[h2,zAA,zAA]
     ·rw[zAD h2,zAD h2,zAD h1]
   rw[hu];obtain⟨x2,r'⟩:=madeX (C:=C) (f:=f) (o:=xo e (.ref C) (some b)) fr.ext.in' hb' he hne r;exact p1 (.ref e) (some b) _ _ ((x.trans fr.ext).trans x2) ⟨e,C,rfl,zAA,hC,.inr ⟨b,_,y,rfl,by rw[zAD hne,zAA],by simp[qEm],r'⟩⟩
  |cons _ _=>exact qA3 p1
end
section
variable{K:qA2}{C:Addr}{dd:Option Addr}{cd:ClassData}{sl:Array (Option Value)}
def xcD(C:Addr)(cd:ClassData)(sl:Array (Option Value)):Bool:=match cd.mro,sl.toList with
 |.ref C'::bm,[_,_,_,_,some (.builtin n),_]=>C'==C && !cd.hasDel&&PySem.W.excTail bm&&n == "ValueError.__new__" && cd.hasDict
 |_,_=>false
def zNH(h:K.lookup C=some ⟨.type "type",dd,.cls cd,sl⟩)(h':xcD C cd sl=true):PySem.W.xcIn K C=true:=by
 unfold PySem.W.xcIn;rw[h];exact h'
def za9(h:qEj K C=some cd)(h':PySem.W.excTail cd.mro=true):PySem.W.excOver K C=true:=by
 unfold PySem.W.excOver;rw[h];exact h'
end
structure XCls(K:qA2)(mg:Str->Option Value)(c:Str)(C:Addr):Prop where
 cl:clK K c=some C
 gm:mg c=some (.ref C)
 is:Xc.XIs K C
structure XIni(P:qJ8)(w:World)(K:qA2)(mg:Str->Option Value)(base:Heap)(c f:Str)(C:Addr):Prop extends XCls K mg c C where
 kp:qBj K (.ref C)=true
 st:XSet K C f
 fa:qAv K (.ref C) f=some none
 ini:∃fI fd ps,qAv K (.ref C) "__init__" = some (some (.ref fI))/\qFv K (.ref fI)=true/\FnOk P w K mg base (CXe P w) 1 fI fd ps (zH9 K f)/\Binds K fd ps []
def zdJ{X:Cx}{c f:Str}{C:Addr}{k:Nat}{E:XK}{e:Expr}{es:List Expr}{t:TA}{p pos:Pos}(h:XIni X.prog X.w X.K X.mg X.base c f C)(hr:Room k X.A)(hk:2<=k)(hf:Flies X E)(hg:Gl X c)(ha:PA X (e::es) t)(hdb:(c==("__debug__":Str))=false:=by decide)
  (he:starEach (e::es) X.env=(false,eval e X.env)::starEach es X.env:=by rfl) (hpl:(backTo pos (starEach es X.env)).any (·.1)=false:=by rfl):PE X (.Call (.Name c p) (e::es) [] pos) (zOU C (zH9 X.K f) E t):=by
 obtain⟨fI,fd,ps,h1,h2,F,hb⟩:=h.ini;exact zWA h.is.xc h1 h2 F (hr.mono hk) hb hf.passes hg h.gm h.kp ha hdb he hpl
def zWX{K:qA2}{f a0 a1:Str}{vs:List V}{H:Hp}{Q:VK}{E:XK}(h:zH9 K f vs H Q E) :
  tSeq (zGI (zY3 K (zES (tVar 0) (zES (tVar 1) tNil)))) (zY5 K (tVar 0) (tVar 1) f) { nx:=fun _ H'=>Q .non H',rt:=Q } (start [a0,a1] vs) H:=by
 obtain⟨e,C,y,rfl,he,hx,hs,q⟩:=h;exact⟨.ref e,rfl,y,rfl,e,C,none,[y],rfl,he,hx,(by show 1<=sizeLine;decide),y,rfl,.ref e,rfl,e,C,rfl,he,hs,q⟩
def zWY{K:qA2}{f:Str}{ps:List Str}(hp:ps.length=2):∀vs H Q E,zH9 K f vs H Q E->vs.length=ps.length:=by
 rintro vs H Q E ⟨e,C,y,rfl,_⟩
 rw[hp];rfl
def zbT{K:qA2}{c:Str}{C:Addr}(h:qC3 K qJf c=some (some (.ref C))):clK K c=some C:=by unfold clK;rw[h]
def zgJ:qH8 (.builtin "ValueError.__init__")=true:=by decide +kernel
def zgH:Stmt->Stmt
 |.ClassDef _ _ _ body _ _ _ _ _ _ _=>body.getD 0 (.Pass ⟨0,0,0,0⟩)
 |s=>s
def za8{P:qJ8}{w:World}{K:qA2}{mg:Str->Option Value}{base:Heap}{N:List Str}{qual:Str}{scope:Scope}{f:Addr}{cd:Value}{A:qJb}{outer:List Env}{s:qJ5}{H:Hp}{E:XK} :
  qMo (model P w) (A.deeper (qGm qual scope s.heap.objs.size f cd)) (qGm qual scope s.heap.objs.size f cd) (cxOf (CXe P w) P w K mg base N qual scope f cd A outer s H E).xe:=PassesOwn.leaving
def spE(K:qA2)(mg:Str->Option Value)(L:Nat)(f:Mi.FM):Sp:=fun vs H Q E=>@spM ⟨K⟩ mg L f vs H Q E
section
variable[Kc]{mg:Str->Option Value}{E:XK}{L n:Nat}{t:TA}{m:AM}
def zDM{f:FM}{E':XK}(A:DA mg E t m 0):DE mg E (zLJ (sp0 Kc.K mg n f) [] E' t) (Mi.eCallN f m) n:=zPQ A
def zE9{f:FM}(A:DA mg E t m 0):DE mg E (zLJ (spE Kc.K mg n f) [] E t) (Mi.eCall f m) n:=zAU A
def zUE{f:FM}(A:DA mg E t m 0):DE mg E (zLJ (spE Kc.K mg n f) [] E0 t) (Mi.eCallN f m) n:=zPQ A
def zU0{P:qJ8}{w:World}{base:Heap}{c f:Str}{C:Addr}{E':XK}(h:XIni P w Kc.K mg base c f C)(A:DA mg E t m 0):DS mg E L (zOT Kc.K E (zOU C (zH9 Kc.K f) E' t)) (Mi.sRaise c f m):=zXF h.cl h.is.xc h.st A
end
def zJ9(K:qA2):Sp:=fun vs H Q _=>∃(a:Addr)(ns:List Int),vs=[.ref a]/\Same (tabK K) H/\SqL K H a (ns.map V.int)/\ns.length<=63/\(∀i∈ns,i.natAbs.log2<2 ^ 20)/\∀H',Same (tabK K) H'->Q (.bl true) H'
def zWR{K:qA2}{mg:Str->Option Value}{L:Nat}{f:FM}(hf:∀ns:List Int,ns.length<=63->(∀i∈ns,i.natAbs.log2<2 ^ 20)->f [.scr ns]=okR (.bl true)):∀vs H Q E,zJ9 K vs H Q E->sp0 K mg L f vs H Q E:=by
 letI:Kc:=⟨K⟩
 rintro vs H Q E ⟨a,ns,rfl,tb,hS,hl,hw,q⟩
 refine⟨H,[.scr ns],tb,Same.refl _,⟨_,_,rfl,⟨a,rfl,.inl hS⟩,rfl⟩,?_⟩;rw[hf ns hl hw];intro v G' H' S fr o;cases(show v=.bl true by cases L<;>exact o)
 exact q H' (tb.trans fr.ext.h)
end L3
namespace Mi
open PySem
section
variable(ρ:Rh)(r:Ro)(a b c:EM)(s t:SM)(q q':TM)(am:AM)
@[simp] theorem x_eC(d:Dt):eC d ρ=okR d:=rfl
@[simp] theorem x_eV(i:Nat):eV i ρ=match ρ[i]? with|some (some d)=>okR d|_=>none:=rfl
@[simp] theorem x_eB(f:Dt->Dt->Option Dt):eB f a b ρ=zA3 (a ρ) fun x=>zA3 (b ρ) fun y=>optR (f x y):=rfl
@[simp] theorem x_eU(f:Dt->Option Dt):eU f a ρ=zA3 (a ρ) fun x=>optR (f x):=rfl
@[simp] theorem zCM:aNil ρ=okR []:=rfl
@[simp] theorem zB8:aCons a am ρ=zA3 (a ρ) fun x=>zA3 (am ρ) fun xs=>okR (x::xs):=rfl
@[simp] theorem zH0(f:FM):eCall f am ρ=zA3 (am ρ) f:=rfl
@[simp] theorem zV5(f:List Dt->Option Dt):eBi f am ρ=zA3 (am ρ) fun xs=>optR (f xs):=rfl
@[simp] theorem zc9:eLst am ρ=zA3 (am ρ) fun xs=>@ite _ (xs.length<=100000) (qA6 _) (okR (.lst xs)) none:=rfl
@[simp] theorem x_eTup:eTup am ρ=zA3 (am ρ) fun xs=>@ite _ (xs.length<=100000) (qA6 _) (okR (.tup xs)) none:=rfl
@[simp] theorem x_eIsi(n:String):eIsi n a ρ=zA3 (a ρ) fun x=>optR (isiD n x):=rfl
@[simp] theorem x_eAnd:eAnd a b ρ=zA3 (a ρ) fun x=>match x with | .bl k=>if k=true then b ρ else okR (.bl false)|_=>none:=rfl
@[simp] theorem x_eOr:eOr a b ρ=zA3 (a ρ) fun x=>match x with | .bl k=>if k=true then okR (.bl true)else b ρ|_=>none:=rfl
@[simp] theorem x_eNot:eNot a ρ=zA3 (a ρ) fun x=>match x with | .bl k=>okR (.bl (!k))|_=>none:=rfl
@[simp] theorem zV4(f g:Dt->Dt->Option Dt):eChain f g a b c ρ=zA3 (a ρ) fun x=>zA3 (b ρ) fun y=>zA3 (optR (f x y)) fun z=>match z with | .bl k=>if k=true then zA3 (c ρ) fun w=>optR (g y w)else okR (.bl false)|_=>none:=rfl
@[simp] theorem zfI:eIf q a b ρ=zA3 (q ρ) fun k=>if k=true then a ρ else b ρ:=rfl
@[simp] theorem x_tB:tB a ρ=zA3 (a ρ) fun x=>match x with | .bl k=>okR k|_=>none:=rfl
@[simp] theorem x_tM:tM a ρ=zA3 (a ρ) fun x=>match x with | .bl k=>okR k | .int i=>okR (i != 0) | .non=>okR false|_=>none:=rfl
@[simp] theorem zc6:tAn q q' ρ=zA3 (q ρ) fun k=>if k=true then q' ρ else okR false:=rfl
@[simp] theorem zfE:tOr q q' ρ=zA3 (q ρ) fun k=>if k=true then okR true else q' ρ:=rfl
@[simp] theorem zfF:tNo q ρ=zA3 (q ρ) fun k=>okR (!k):=rfl
@[simp] theorem zc5:tYes ρ=okR true:=rfl
@[simp] theorem zXX:sNil r=okR (.nx r):=rfl
@[simp] theorem zDP:sSeq s t r=zA3 (s r) fun o=>match o with | .nx ρ'=>t ρ'|o=>okR o:=rfl
@[simp] theorem zIR:sIf q s t r=zA3 (q (full r)) fun k=>if k=true then s r else t r:=rfl
@[simp] theorem x_sDrop:zfT a r=zA3 (a (full r)) fun _=>okR (.nx r):=rfl
@[simp] theorem x_sBreak:zcT r=okR (.bk r):=rfl
@[simp] theorem x_sCont:zfV r=okR (.ct r):=rfl
@[simp] theorem x_sNever:zcS r=none:=rfl
@[simp] theorem x_sRetN:zfS r=okR (.rt .non):=rfl
@[simp] theorem zOQ(i n:Nat)(vs:List Nat):sSet i n vs a r=zA3 (a (full r)) fun d=>if d.dep<=n then okR (.nx (r.set i (some (d,n))))else zA3 (a (frz (frzAt vs r))) fun d'=>okR (.nx ((frzAt vs r).set i (some (d',n)))):=rfl
@[simp] theorem zR9(L n:Nat)(vs:List Nat):sRet L n vs a r=zA3 (a (full r)) fun d=>if d.dep<=n/\d.dep<=L then okR (.rt d)else if n=L then zA3 (a (frz (frzAt vs r))) fun d'=>okR (.rt d')else none:=rfl
@[simp] theorem x_sRetV(L i:Nat):sRetV L i r=match r[i]? with|some (some (d,k))=>if k=L\/L=0\/(d.dep<=k/\d.dep<=L/\k<1000)then okR (.rt d)else none|_=>none:=rfl
@[simp] theorem zFU:full []=[]:=rfl
@[simp] theorem zER(o:Option Sl)(r:Ro):full (o::r)=o.map qIh::full r:=rfl
@[simp] theorem x_frz_nil:frz []=[]:=rfl
@[simp] theorem x_frz_none(r:Ro):frz (none::r)=none::frz r:=rfl
@[simp] theorem x_frz_some(d:Dt)(n:Nat)(r:Ro):frz (some (d,n)::r)=(if n=0\/d.dep=0 then some d else none)::frz r:=rfl
@[simp] theorem x_frzAt_nil(r:Ro):frzAt [] r=r:=rfl
@[simp] theorem x_frzAt_cons(i:Nat)(v:List Nat)(r:Ro):frzAt (i::v) r=frzAt v (frz1 i r):=rfl
@[simp] theorem x_frz1(i:Nat)(r:Ro):frz1 i r=match r[i]? with|some (some (d,_))=>r.set i (some (d,0))|_=>r:=rfl
@[simp] theorem x_startO(n:Nat)(ds:List Dt):startO n ds=ds.map (fun d=>some (d,0))++qA8 (n-ds.length) none:=rfl
@[simp] theorem x_runF(P n:Nat)(ds:List Dt):runF P n s ds=if ds.length=P then zA3 (s (startO n ds)) endF else none:=rfl
@[simp] theorem x_end1(r:Ro):endF (.nx r)=okR .non:=rfl
@[simp] theorem x_end2(d:Dt):endF (.rt d)=okR d:=rfl
end
@[simp] theorem zfN(i j:Int):addD (.int i) (.int j)=some (.int (i+j)):=rfl
@[simp] theorem zcC(i j:Str):addD (.str i) (.str j)=@ite _ (i.length+j.length<=100000) (qA6 _) (some (.str (i++j))) none:=rfl
@[simp] theorem v_addL(i j:List Dt):addD (.lst i) (.lst j)=@ite _ (i.length+j.length<=100000) (qA6 _) (some (.lst (i++j))) none:=rfl
@[simp] theorem v_sub(i j:Int):subD (.int i) (.int j)=some (.int (i-j)):=rfl
@[simp] theorem zZJ(i j:Int):mulD (.int i) (.int j)=@ite _ (((-18446744073709551616<i/\i<18446744073709551616)\/(-18446744073709551616<j/\j<18446744073709551616))\/i.natAbs.log2+j.natAbs.log2<=67108864) (qA6 _) (some (.int (i*j))) none:=rfl
@[simp] theorem zV9(i j:Int):divD (.int i) (.int j)=@ite _ (0<j/\j<1000000000000000000000000) (qA6 _) (some (.int (i/j))) none:=rfl
@[simp] theorem v_mod(i j:Int):modD (.int i) (.int j)=if 0<j then some (.int (i%j))else none:=rfl
@[simp] theorem v_pow(i j:Int):powD (.int i) (.int j)=@ite _ (0<=j/\j<=1000000/\i.natAbs<18446744073709551616) (qA6 _) (some (.int (i ^ j.toNat))) none:=rfl
@[simp] theorem v_neg(i:Int):negD (.int i)=some (.int (-i)):=rfl
@[simp] theorem v_cmp(p:Int->Int->Bool)(i j:Int):cmpD p (.int i) (.int j)=some (.bl (p i j)):=rfl
@[simp] theorem v_eq(x y:Dt):eqD x y=if x.dep<=40/\y.dep<=40 then some (.bl (Dt.eq x y))else none:=rfl
@[simp] theorem v_ne(x y:Dt):neD x y=if x.dep<=40/\y.dep<=40 then some (.bl (!Dt.eq x y))else none:=rfl
@[simp] theorem v_is(x:Dt):isD x .non=some (.bl (zEO x)):=rfl
@[simp] theorem v_isnt(x:Dt):zgG x .non=some (.bl (!zEO x)):=rfl
@[simp] theorem v_isN1:zEO .non=true:=rfl
@[simp] theorem v_isN2(i:Int):zEO (.int i)=false:=rfl
@[simp] theorem v_isN3(i:List Dt):zEO (.lst i)=false:=rfl
@[simp] theorem v_isN4(i:List Dt):zEO (.tup i)=false:=rfl
@[simp] theorem v_isN5(i:Str):zEO (.str i)=false:=rfl
@[simp] theorem v_isN6(i:Bool):zEO (.bl i)=false:=rfl
@[simp] theorem v_ixL(xs:List Dt)(i:Int):ixD (.lst xs) (.int i)=itA xs i:=rfl
@[simp] theorem zZK(xs:List Dt)(i:Int):ixD (.tup xs) (.int i)=itA xs i:=rfl
@[simp] theorem v_ixS(ns:List Int)(i:Int):ixD (.scr ns) (.int i)=(itA ns i).map .int:=rfl
@[simp] theorem v_lenL(xs:List Dt):lenD [.lst xs]=some (.int xs.length):=rfl
@[simp] theorem v_lenT(xs:List Dt):lenD [.tup xs]=some (.int xs.length):=rfl
@[simp] theorem v_lenS(ns:List Int):lenD [.scr ns]=some (.int ns.length):=rfl
@[simp] theorem v_listL(xs:List Dt):listD [.lst xs]=some (.lst xs):=rfl
@[simp] theorem v_listT(xs:List Dt):listD [.tup xs]=some (.lst xs):=rfl
@[simp] theorem v_listS(ns:List Int):listD [.scr ns]=some (.lst (ns.map .int)):=rfl
@[simp] theorem v_dn:Dt.non.dep=0:=rfl
@[simp] theorem v_db(b:Bool):(Dt.bl b).dep=0:=rfl
@[simp] theorem v_di(b:Int):(Dt.int b).dep=0:=rfl
@[simp] theorem v_ds(b:Str):(Dt.str b).dep=0:=rfl
@[simp] theorem v_dS(b:List Int):(Dt.scr b).dep=1000:=by rw[Dt.dep]
@[simp] theorem v_dl(xs:List Dt):(Dt.lst xs).dep=Dt.depL xs+1:=by rw[Dt.dep]
@[simp] theorem v_dt(xs:List Dt):(Dt.tup xs).dep=Dt.depL xs+1:=by rw[Dt.dep]
@[simp] theorem v_dnil:Dt.depL []=0:=by rw[Dt.depL]
@[simp] theorem zH3(x:Dt)(r:List Dt):Dt.depL (x::r)=max x.dep (Dt.depL r):=by rw[Dt.depL]
@[simp] theorem v_e1(i j:Int):Dt.eq (.int i) (.int j)=decide (i=j):=by rw[Dt.eq];by_cases h:i=j<;>simp[h]
@[simp] theorem v_e2(i j:Str):Dt.eq (.str i) (.str j)=decide (i=j):=by rw[Dt.eq];by_cases h:i=j<;>simp[h]
@[simp] theorem v_e3(i j:Bool):Dt.eq (.bl i) (.bl j)=decide (i=j):=by rw[Dt.eq];by_cases h:i=j<;>simp[h]
@[simp] theorem v_e4(i j:List Dt):Dt.eq (.lst i) (.lst j)=Dt.eqL i j:=by rw[Dt.eq]
@[simp] theorem v_e5(i j:List Dt):Dt.eq (.tup i) (.tup j)=Dt.eqL i j:=by rw[Dt.eq]
@[simp] theorem v_e6:Dt.eq .non .non=true:=by rw[Dt.eq]
@[simp] theorem zBZ:∀(ns:List Int),Dt.depL (ns.map Dt.int)=0
 |[]=>by simp
 |n::r=>by rw[qAd,zH3,zBZ r];rfl
@[simp] theorem zXJ:∀(xs ys:List Dt),Dt.depL (xs++ys)=max (Dt.depL xs) (Dt.depL ys)
 |[],ys=>by simp
 |x::r,ys=>by rw[qFi,zH3,zH3,zXJ r ys];exact(Nat.max_assoc _ _ _).symm
@[simp] theorem zKW:∀(ns ms:List Int),Dt.eqL (ns.map Dt.int) (ms.map Dt.int)=decide (ns=ms)
 |[],[]=>by simp[Dt.eqL]
 |[],_::_=>by simp[Dt.eqL]
 |_::_,[]=>by simp[Dt.eqL]
 |n::r,m::q=>by rw[qAd,qAd,Dt.eqL,zKW r q,v_e1];simp
def zEN{α:Type}{xs:List α}{i:Int}{j:Nat}{v:α}(e:i=(j:Int))(h:xs[j]?=some v):itA xs i=some v:=by
 have hj:j<xs.length:=(qA5.mp h).1;subst e;unfold itA ixA;rw[if_pos (by lia),if_pos (by lia)]
 simpa using h
def zMK{n:Nat}{i:Int}(h0:0<=i)(h1:i<n):ixA n i=some i.toNat:=by
 unfold ixA;rw[if_pos h0,if_pos h1]
def zWV{ns:List Int}{i:Int}(h0:0<=i)(h1:i<ns.length):itA (ns.map Dt.int) i=some (.int (ns.getD i.toNat 0)):=by
 refine zEN (j:=i.toNat) (by lia) ?_;rw[qAb,qA0,qA1 (by lia)];rfl
def zaY{ns:List Int}{i:Int}(h0:0<=i)(h1:i<ns.length):itA ns i=some (ns.getD i.toNat 0):=by
 refine zEN (j:=i.toNat) (by lia) ?_;rw[qA0,qA1 (by lia)];rfl
@[simp] theorem set_int(ns:List Int)(i:Nat)(x:Int):(ns.map Dt.int).set i (.int x)=(ns.set i x).map Dt.int:=by rw[qIp]
def zPV{ρ:Rh}{k:Nat}{tg:Tg}{c:TM}{e:EM}(f:Dt->Dt):∀(ds acc:List Dt),(∀d∈ds,∃bs,zAV tg d=some bs/\c (zAO (ρ++qA8 k none) bs)=okR true/\e (zAO (ρ++qA8 k none) bs)=okR (f d))->compGo ρ k tg c e ds acc=okR (acc++ds.map f)
 |[],acc,_=>by simp[compGo]
 |d::ds,acc,h=>by
  obtain⟨bs,h1,h2,h3⟩:=h d (by simp);rw[compGo,h1];simp only;rw[h2,zA0,if_pos rfl,h3,zA0,zPV f ds (acc++[f d]) fun d hd=>h d (by simp[hd])];simp
def zC6{ρ:Rh}{k:Nat}{tg:Tg}{c:TM}{e:EM}(p:Dt->Bool)(f:Dt->Dt):∀(ds acc:List Dt),(∀d∈ds,∃bs,zAV tg d=some bs/\c (zAO (ρ++qA8 k none) bs)=okR (p d)/\(p d=true->e (zAO (ρ++qA8 k none) bs)=okR (f d)))->compGo ρ k tg c e ds acc=okR (acc++(ds.filter p).map f)
 |[],acc,_=>by simp[compGo]
 |d::ds,acc,h=>by
  obtain⟨bs,h1,h2,h3⟩:=h d (by simp);rw[compGo,h1];simp only;rw[h2,zA0];cases hp:p d with
  |true=>
   rw[if_pos rfl,h3 hp,zA0,zC6 p f ds (acc++[f d]) fun d hd=>h d (by simp[hd])];simp[hp]
  |false=>
   rw[if_neg (by decide),zC6 p f ds acc fun d hd=>h d (by simp[hd])];simp[hp]
def zKT{tg:Tg}{b:SM}(Pv:Nat->Ro->Prop):∀(ds:List Dt)(i:Nat)(r:Ro),Pv i r->(∀(j:Nat)(d:Dt)(r:Ro),ds[j]?=some d->Pv (i+j) r->∃bs r',zAV tg d=some bs/\b (zB0 r bs)=okR (.nx r')/\Pv (i+j+1) r') ->
  ∃r',forGo tg b ds r=okR (.nx r')/\Pv (i+ds.length) r'
 |[],i,r,h,_=>⟨r,by simp[forGo],by simpa using h⟩
 |d::ds,i,r,h,hs=>by
  obtain⟨bs,r1,h1,h2,h3⟩:=hs 0 d r (by simp) (by simpa using h);obtain⟨r2,h4,h5⟩:=zKT Pv ds (i+1) r1 (by simpa using h3) fun j e r he hp=>by
   have:=hs (j+1) e r (by simpa using he) (by rw[show i+(j+1)=i+1+j by lia];exact hp)
   rw[show i+1+j+1=i+(j+1)+1 by lia];exact this
  refine⟨r2,?_,by rw[qAj,show i+(ds.length+1)=i+1+ds.length by lia];exact h5⟩;rw[forGo,h1];simp only;rw[h2,zA0];exact h4
def zLE{c:TM}{b:SM}(Pv:Ro->Prop)(μ:Ro->Nat)(Rv:Ro->Prop)(hc:∀r,Pv r->(c (full r)=okR false/\Rv r)\/(c (full r)=okR true/\∃r',b r=okR (.nx r')/\Pv r'/\μ r'<μ r)) :
  ∀(m:Nat)(r:Ro),Pv r->μ r<m->∃r',whGo c b m r=okR (.nx r')/\Rv r'
 |0,r,_,h=>by lia
 |m+1,r,h,hm=>by
  rw[whGo];rcases hc r h with⟨h1,h2⟩|⟨h1,r1,h2,h3,h4⟩
  ·rw[h1,zA0,if_neg (by decide)];exact⟨r,rfl,h2⟩
  ·rw[h1,zA0,if_pos rfl,h2,zA0];exact zLE Pv μ Rv hc m r1 h3 (by lia)
def zQA{c:TM}{b:SM}(Pv:Ro->Prop)(μ:Ro->Nat)(Rv:Ro->Prop){r:Ro}(h0:Pv r)(hm:μ r<1000000)(hc:∀r,Pv r->(c (full r)=okR false/\Rv r)\/(c (full r)=okR true/\∃r',b r=okR (.nx r')/\Pv r'/\μ r'<μ r)):∃r',sWhile c b r=okR (.nx r')/\Rv r':=
 zLE Pv μ Rv hc WN r h0 (by rw[zgN];exact hm)
section
variable(ρ:Rh)(r:Ro)(a:EM)(am:AM)(s:SM)
@[simp] theorem x_noE_ok{α:Type}(x:α):noE (okR x)=okR x:=rfl
@[simp] theorem x_noE_none{α:Type}:noE (none:R α)=none:=rfl
@[simp] theorem x_noE_err{α:Type}(e:Xn):noE (some (.error e):R α)=none:=rfl
@[simp] theorem x_eCallN(f:FM):eCallN f am ρ=zA3 (am ρ) fun ds=>noE (f ds):=rfl
@[simp] theorem x_eMkX(c f:Str):eMkX c f am ρ=zA3 (am ρ) fun ds=>match ds with|[d]=>okR (.exc c f d)|_=>none:=rfl
@[simp] theorem x_sRaise(c f:Str):sRaise c f am r=zA3 (am (full r)) fun ds=>match ds with|[d]=>some (.error ⟨c,f,d⟩)|_=>none:=rfl
@[simp] theorem x_eAtX(hs:List Str)(f:Str):eAtX hs f a ρ=zA3 (a ρ) fun d=>match d with | .exc c g x=>if c∈hs/\g=f then okR x else none|_=>none:=rfl
@[simp] theorem x_eIsX(ys ns:List Str):eIsX ys ns a ρ=zA3 (a ρ) fun d=>match d with | .exc c _ _=>if c∈ys then okR (.bl true)else if c∈ns then okR (.bl false)else none|_=>none:=rfl
@[simp] theorem x_gone_nx(i:Nat):zeK i (.nx r)=.nx (r.set i none):=rfl
@[simp] theorem x_gone_rt(i:Nat)(d:Dt):zeK i (.rt d)=.rt d:=rfl
end
example (d:Dt):True:=trivial
end Mi
namespace L2
open PySem PySem.Spec PyProof.Rows
section
variable{X:Cx}
def zcY:R2:=fun x y H Q=>match x,y with
 |.int i,.int j=>Q (.int (qKd i j)) H
 |_,_=>False
def zcH:OpR X (binaryOp .BitXor) zcY:=by
 intro pins s σ H x y v u Q I rx ry h;cases x<;>cases y<;>first
  |exact zdN pins s σ H _ _ v u Q I rx ry ⟨_,_,rfl,rfl,h⟩
  |exact qA3 h
def zd2:R2:=fun x y H Q=>match x,y with
 |.ref l,.int k=>∃xs,H l=some (.lst xs)/\(-(2 ^ 63)<=k/\k<2 ^ 63)/\xs.length*k.toNat<=sizeLine/\∀p,H p=none->Q (.ref p) (upd H p (.lst (qA8 k.toNat xs).flatten))
 |_,_=>False
def zfP:OpR X (binaryOp .Mult) zd2:=by
 intro pins s σ H x y v u Q I rx ry h;cases x<;>cases y<;>first
  |(obtain⟨xs,h1,h2,h3,h4⟩:=h;exact zdP pins s σ H _ _ v u Q I rx ry ⟨_,_,xs,rfl,rfl,h1,h2.1,h2.2,h3,h4⟩)
  |exact qA3 h
def extM:V->List V->Hp->VK->Prop:=fun x vs H Q=>match x,vs with
 |.ref l,[.ref b]=>∃xs zs,H l=some (.lst xs)/\H b=some (.lst zs)/\xs.length+zs.length<=sizeLine/\Q .non (upd H l (.lst (xs++zs)))
 |_,_=>False
def zO4:MtR X "list.extend" extM:=by
 intro pins s σ H x vs v us Q I rx rv h;cases x with
 |ref l=>
  cases vs with
  |nil=>exact qA3 h
  |cons hd1 tl1=>
   cases hd1 with
   |ref b=>
    cases tl1 with
    |nil=>
     obtain⟨xs,zs,h1,h2,h3,h4⟩:=h;exact zSX pins s σ H _ _ v us Q I rx rv ⟨l,b,xs,zs,rfl,rfl,h1,h2,h3,h4⟩
    |cons _ _=>exact qA3 h
   |_=>exact qA3 h
 |_=>exact qA3 h
def posI(k:Int):List Int->Option Nat
 |[]=>none
 |x::r=>if x=k then some 0 else(posI k r).map (·+1)
def zTO:∀{ns:List Int}{us:List Value},Vals (ns.map V.int) us->qHi us=true
 |[],_,.nil=>rfl
 |n::r,_,.cons a t=>by obtain⟨k,rfl⟩:=a;have:=zTO (ns:=r) t;simpa[qHi]using this
def zYE{k:Int}:∀{ns:List Int}{us:List Value}{j:Nat},Vals (ns.map V.int) us->posI k ns=some j->qIj k us=some j
 |[],_,_,.nil,h=>by cases h
 |n::r,_,j,.cons a t,h=>by
  obtain⟨q,rfl⟩:=a;unfold posI at h;unfold qIj;by_cases e:n=k
  ·rw[if_pos e]at h;cases h;subst e;simp[qEs]
  ·rw[if_neg e]at h;cases h':posI k r with
   |none=>rw[h']at h;cases h
   |some z=>
    rw[h']at h;cases h;rw[zYE t h'];have hb:(n==k)=false:=by simpa using e
    simp[qEs,hb]
def lixM:V->List V->Hp->VK->Prop:=fun x vs H Q=>match x,vs with
 |.ref l,[.int k]=>∃ns j,H l=some (.lst (ns.map V.int))/\posI k ns=some j/\Q (.int j) H
 |_,_=>False
def zaK:MtR X "list.index" lixM:=by
 intro pins s σ H x vs v us Q I rx rv h;cases x with
 |ref l=>
  cases vs with
  |nil=>exact qA3 h
  |cons hd1 tl1=>
   cases hd1 with
   |int k=>
    cases tl1 with
    |nil=>
     obtain⟨ns,j,h1,h2,h3⟩:=h;cases rx;obtain⟨u,rfl,ru⟩:=zCX rv;obtain⟨t,rfl⟩:=ru;obtain⟨z,its,n,r,hl,e⟩:=I.lstM h1;obtain⟨a,b,c⟩:=PySem.W.kf_at_spec (zYE r h2);rw[qJw]at z;refine call_meets qFa ⟨_,e,rfl⟩ PySem.F.entry_list_index (PySem.F.args_list_index_2 _ _)
      (MeetsSeq.list_index l its.toArray n (.int k t) (qEs k) (fun y hy=>PySem.W.kf_eq (zTO r) y (by simpa using hy)) j (by simpa using a) (by lia) (by simpa using b) (fun i hi hlt=>by simpa using c i (by simpa using hi) hlt)) ⟨e,?_⟩
     exact⟨.int _,H,I.tok _,⟨_,rfl⟩,h3⟩
    |cons _ _=>exact qA3 h
   |_=>exact qA3 h
 |_=>exact qA3 h
def zJN{x:V}:∀{xs:List V}{us:List Value},Vals xs us->xs.all zDZ=true->us.countP (eqU x)=xs.countP fun y=>eqV y x
 |_,_,.nil,_=>rfl
 |y::xs,u::us,.cons r t,f=>by
  rw[qCx,qBi]at f;rw[qCa,qCa,zTX r f.1,zJN t f.2]
def lcoM:V->List V->Hp->VK->Prop:=fun x vs H Q=>match x,vs with
 |.ref l,[y]=>∃xs,H l=some (.lst xs)/\zDZ y=true/\xs.all zDZ=true/\Q (.int (xs.countP fun z=>eqV z y:Nat)) H
 |_,_=>False
def zSW:MtR X "list.count" lcoM:=by
 intro pins s σ H x vs v us Q I rx rv h;cases x with
 |ref l=>
  cases vs with
  |nil=>exact qA3 h
  |cons y tl1=>
   cases tl1 with
   |nil=>
    obtain⟨xs,h1,h2,h3,h4⟩:=h;cases rx;obtain⟨u,rfl,ru⟩:=zCX rv;obtain⟨z,its,n,r,hl,e⟩:=I.lstM h1;refine call_meets qDp ⟨_,e,rfl⟩ PySem.F.entry_list_count (PySem.F.args_list_count_2 _ _)
     (SeqAt.list_countAt l its.toArray n none #[] u (eqU y)) ⟨e,fun w hw=>zE6 ru h2 r h3 w (by simpa using hw),?_⟩
    refine⟨.int _,H,I.tok _,⟨_,rfl⟩,?_⟩;rw[show its.toArray.toList=its from rfl,zJN r h3];exact h4
   |cons _ _=>exact qA3 h
 |_=>exact qA3 h
end
section
end
end L2
namespace Mi
open PySem
def xorD:Dt->Dt->Option Dt
 |.int i,.int j=>some (.int (qKd i j))
 |_,_=>none
def repD:Dt->Dt->Option Dt
 |.lst xs,.int k=>@ite _ ((-4611686018427387904<=k/\k<4611686018427387904)/\xs.length*k.toNat<=100000) (qA6 _) (some (.lst (qA8 k.toNat xs).flatten)) none
 |_,_=>none
def tL(a:EM):TM:=fun ρ=>zA3 (a ρ) fun x=>match x with
 |.bl k=>okR k
 |.int i=>okR (i != 0)
 |.non=>okR false
 |.lst xs=>okR (!xs.isEmpty)
 |.tup xs=>okR (!xs.isEmpty)
 |_=>none
def iRv(e:AM):IM:=fun ρ=>zA3 (e ρ) fun vs=>match vs with
 |[.lst xs]=>okR xs.reverse
 |_=>none
def intsD:List Dt->Option (List Int)
 |[]=>some []
 |.int i::r=>(intsD r).map (i::·)
 |_::_=>none
def posI(k:Int):List Int->Option Nat
 |[]=>none
 |x::r=>if x=k then some 0 else(posI k r).map (·+1)
def eMl(f:List Dt->List Dt->Option Dt)(a:EM)(am:AM):EM:=fun ρ=>zA3 (a ρ) fun x=>match x with
 |.lst xs=>zA3 (am ρ) fun ds=>optR (f xs ds)
 |_=>none
def lixD(xs ds:List Dt):Option Dt:=match ds with
 |[.int k]=>match intsD xs with
  |some ns=>(posI k ns).map fun j=>.int (j:Int)
  |none=>none
 |_=>none
def lcoD(xs ds:List Dt):Option Dt:=match ds with
 |[d]=>if d.dep=0/\Dt.depL xs=0 then some (.int (xs.countP fun y=>Dt.eq y d:Nat))else none
 |_=>none
def sExt(i n:Nat)(e:EM):SM:=fun ρ=>match ρ[i]? with
 |some (some (.lst ds,k+1))=>zA3 (e (full ρ)) fun d=>match d with
  |.lst es=>@ite _ (ds.length+es.length<=100000/\Dt.depL es<=n/\Dt.depL es<=k) (qA6 _) (okR (.nx (ρ.set i (some (.lst (ds++es),k+1))))) none
  |_=>none
 |_=>none
def low(i:Nat)(ρ:Ro):Ro:=match ρ[i]? with
 |some (some (.lst ds,_+1))=>ρ.set i (some (.lst ds,1))
 |_=>ρ
def sAppF(i:Nat)(vs:List Nat)(e:EM):SM:=fun ρ=>match(frzAt vs (low i ρ))[i]? with
 |some (some (.lst ds,1))=>zA3 (e (frz (frzAt vs (low i ρ)))) fun d=>@ite _ (ds.length<=100000) (qA6 _) (okR (.nx ((frzAt vs (low i ρ)).set i (some (.lst (ds++[d]),1))))) none
 |_=>none
end Mi
namespace L3
open PySem PySem.Spec
open L2 hiding Rep RepL
open Mi (Dt Xn R okR zA3 optR zA0 zA9 zAC zA8 zAB Rh Sl Ro EM TM AM FM IM SM Tg Out zAV zAO zB0 full frz frz1 frzAt)
section
variable[Kc]{mg:Str->Option Value}{E:XK}{n k:Nat}{te:TE}{e:EM}{t:TA}{m:AM}
def zY6:ROp zcY Mi.xorD n:=by
 intro mg E G H d e x y Q s h1 h2 p;cases d with
 |int i=>
  cases e with
  |int j=>cases(show x=.int i from h1);cases(show y=.int j from h2);exact zRZ s p rfl rfl rfl
  |_=>exact p.elim
 |_=>exact p.elim
def zVZ{G:Hp}{ds es:List Dt}{xs ys:List V}(ra:RepL G ds xs)(rb:RepL G es ys):RepL G (ds++es) (xs++ys):=by
 refine zEV (by simp[ra.length,rb.length]) fun j d' x' e1 e2=>?_
 by_cases hj:j<ds.length
 ·rw[qA9 hj]at e1;rw[qA9 (by rw[ra.length];exact hj)]at e2;exact zBV ra e1 e2
 ·rw[qA7 (by lia)]at e1;rw[qA7 (by rw[ra.length];lia),ra.length]at e2;exact zBV rb e1 e2
def zP4{G:Hp}{ds:List Dt}{xs:List V}(r:RepL G ds xs):∀k:Nat,RepL G (qA8 k ds).flatten (qA8 k xs).flatten
 |0=>rfl
 |k+1=>by rw[qBr,qBr,qB2,qB2];exact zVZ r (zP4 r k)
def zcV:ROp zd2 Mi.repD 1:=by
 intro mg E G H d e x y Q s h1 h2 p;cases d with
 |lst ds=>
  cases e with
  |int j=>
   obtain⟨a,xs,rfl,ha,ra⟩:=h1;cases(show y=.int j from h2)
   rw[Mi.repD]at p;split at p
   ·rename_i hz
    exact⟨xs,s _ _ ha,⟨by lia,by lia⟩,by rw[ra.length];exact big' hz.2,fun q hq=>PostE.lst p (Ext.refl s) (zP4 ra _) hq⟩
   ·exact p.elim
  |_=>exact p.elim
 |_=>exact p.elim
def RMl(r:V->List V->Hp->VK->Prop)(f:List Dt->List Dt->Option Dt)(n:Nat):Prop:=∀(mg:Str->Option Value)(E:XK)(G H:Hp)(a:Addr)(es ds:List Dt)(xs vs:List V)(Q:VK),Same G H->G a=some (.lst xs)->RepL G es xs->RepL G ds vs->PostE mg E G H n (optR (f es ds)) Q->r (.ref a) vs H Q
def zbI{r:V->List V->Hp->VK->Prop}{f:List Dt->List Dt->Option Dt}(hr:RMl r f n)(A:DE mg E te e k)(B:DA mg E t m 0):DE mg E (tML r te t) (Mi.eMl f e m) n:=by
 intro G H σ ρ Q s w p;refine(zAL A).step errE s w p fun d v G1 H1 S _ fr o p1=>?_
 cases d with
 |lst es=>
  obtain⟨a,xs,rfl,ha,ra⟩:=o;refine⟨xs,fr.ext.in' _ _ ha,?_⟩;have p2:PostE mg E G H n (zA3 (m ρ) fun ds=>optR (f es ds)) Q:=p1;refine B.step (errE.from fr.ext) fr.ext.in' (w.mono fr.ext.g) p2 fun ds vs G2 H2 S2 T2 _ fr2 o2 p3=>?_
  exact hr mg E G2 H2 a es ds xs vs Q fr2.ext.in' (fr2.ext.g _ _ ha) (RepL.mono fr2.ext.g ra) o2.repL (PostE.from p3 (fr.ext.trans fr2.ext))
 |_=>exact p1.elim
def zS5(k:Int):∀ns:List Int,Mi.posI k ns=L2.posI k ns
 |[]=>rfl
 |x::r=>by unfold Mi.posI L2.posI;rw[zS5 k r]
def zI7{G:Hp}:∀{ds:List Dt}{ns:List Int}{xs:List V},Mi.intsD ds=some ns->RepL G ds xs->xs=ns.map V.int
 |[],ns,xs,h,r=>by cases h;exact r
 |d::q,ns,xs,h,r=>by
  cases d with
  |int i=>
   rw[Mi.intsD]at h;cases e:Mi.intsD q with
   |none=>rw[e]at h;cases h
   |some ms=>
    rw[e]at h;cases h;obtain⟨x,t,rfl,a,b⟩:=r;cases(show x=.int i from a)
    rw[zI7 e b];rfl
  |_=>cases h
def zVU:RMl lixM Mi.lixD n:=by
 intro mg E G H a es ds xs vs Q s ha ra rv p;cases ds with
 |nil=>exact qA3 p
 |cons hd1 tl1=>
  cases hd1 with
  |int k=>
   cases tl1 with
   |nil=>
    obtain⟨x,rfl,hx⟩:=zCB rv;cases(show x=.int k from hx)
    unfold Mi.lixD at p;cases ei:Mi.intsD es with
    |none=>rw[ei]at p;exact p.elim
    |some ns=>
     rw[ei]at p;dsimp only at p;cases ej:Mi.posI k ns with
     |none=>rw[ej]at p;exact p.elim
     |some j=>
      rw[ej]at p;refine⟨ns,j,?_,by rw[<- zS5];exact ej,PostE.val p (Ext.refl s) rfl rfl⟩;rw[s _ _ ha,zI7 ei ra]
   |cons _ _=>exact qA3 p
  |_=>exact qA3 p
def zPT{G:Hp}{d:Dt}{v:V}(h:Rep G d v)(hd:d.dep=0):∀{ds:List Dt}{vs:List V},RepL G ds vs->Dt.depL ds=0->vs.all zDZ=true/\(vs.countP fun z=>eqV z v)=ds.countP fun y=>Dt.eq y d
 |[],_,r,_=>by cases r;exact⟨rfl,rfl⟩
 |e::q,_,r,hz=>by
  obtain⟨x,t,rfl,a,b⟩:=r;rw[Dt.depL]at hz;obtain⟨g1,g2⟩:=zPT h hd b (by lia);refine⟨by rw[qCx,zIA a (by lia),g1];rfl,?_⟩;rw[qCa,qCa,g2,zMT a h (by lia) hd]
def zP1:RMl lcoM Mi.lcoD n:=by
 intro mg E G H a es ds xs vs Q s ha ra rv p;cases ds with
 |nil=>exact qA3 p
 |cons d tl1=>
  cases tl1 with
  |nil=>
   obtain⟨x,rfl,hx⟩:=zCB rv;unfold Mi.lcoD at p;dsimp only at p;split at p
   ·rename_i hz
    obtain⟨g1,g2⟩:=zPT hx hz.1 ra hz.2;refine⟨xs,s _ _ ha,zIA hx hz.1,g1,?_⟩;rw[g2];exact PostE.val p (Ext.refl s) rfl rfl
   ·exact p.elim
  |cons _ _=>exact qA3 p
end
section
variable[Kc]{G0 H0 S0:Hp}{σ:St}{ρ:Ro}{G H:Hp}{As:Nat->Addr->Prop}
def Sat.low(a:Sat G0 H0 S0 σ ρ G H As)(i:Nat):∃G1 As1,Sat G0 H0 S0 σ (Mi.low i ρ) G1 H As1:=by
 unfold Mi.low;split
 ·rename_i ds k e1
  obtain⟨v,h1,q,xs,T,rfl,hq,kd⟩:=a.at i _ _ e1;obtain⟨s1,s2⟩:=zCP (S:=fun b=>∃r,T r b) a.ext.in';have ui:∀b,(∃r,T r b)->As i b:=fun b ⟨r,z⟩=>kd.sub r b z
  have x:Ext G0 H0 (over G H fun b=>∃r,T r b) H:=⟨a.ext.g.trans s1,a.ext.h,s2,fun b hb=>by
   have z:¬ ∃r,T r b:=fun z=>hb (a.new i b (ui b z)).1
   rw[zC7 z];exact a.ext.old b hb⟩
  refine⟨over G H fun b=>∃r,T r b,fun j b=>As j b/\¬ ∃r,T r b,x,a.stb.trans s1,a.tab,by simp[a.len],fun j e n h=>?_,fun j l b p q=>a.dis j l b p.1 q.1,fun j b p=>?_⟩
  ·have hj:j<ρ.length:=by
    have:=(qA5.mp h).1;simpa using this
   by_cases z:i=j
   ·subst z;rw[qAt hj]at h;cases h;exact⟨.ref q,h1,q,xs,fun _ _=>False,rfl,hq,⟨kd.len,fun r d x g1 g2=>(kd.own r d x g1 g2).rep s1 fun b o hb e=>by rw[zDU ⟨r,hb⟩];exact e,⟨kd.top,fun⟨r,z⟩=>kd.out r z⟩,fun _ z=>z,fun _ _ _ z=>z.elim,fun _ _ z=>z.elim⟩⟩
   ·rw[qB0 z]at h;obtain⟨u,q1,q2⟩:=a.at j e n h;exact⟨u,q1,(q2.mono s1 (Same.refl _)).sub fun b hb=>⟨hb,fun w=>z (a.dis i j b (ui b w) hb)⟩⟩
  ·obtain⟨n1,n2,n3⟩:=a.new j b p.1;exact⟨n1,by rw[zC7 p.2];exact n2,n3⟩
 ·exact⟨G,As,a⟩
end
section
variable[Kc]{mg:Str->Option Value}{E:XK}{L n:Nat}{te:TE}{e:EM}
def zU3(i:Nat)(vs:List Nat)(A:DE mg E te e n):DS mg E L (zGI (tML appM (vM i) (zES te tNil))) (Mi.sAppF i vs e):=by
 intro G0 H0 S0 σ ρ G H As D a p;obtain⟨G1,As1,a1⟩:=a.low i;obtain⟨G2,As2,a2⟩:=Sat.frzAt vs a1;unfold Mi.sAppF at p;generalize hρ:frzAt vs (Mi.low i ρ)=ρ2 at p a2;split at p
 ·rename_i ds e1
  obtain⟨v,h1,q,xs,T,rfl,hq,kd⟩:=a2.at i _ _ e1;unfold zGI tML vM;rw[h1];refine⟨xs,hq,?_⟩;refine(zAL A).step (errS.from a2.ext) a2.ext.in' a2.frz p fun d y G3 H3 S _ fr o p1=>?_
  split at p1
  ·rename_i hz
   refine⟨xs,fr.ext.h _ _ hq,by rw[kd.len];exact L2.big (by lia),?_⟩;have a3:=a2.wider fr.ext;have kd1:Kids (Own G3 H3 0) (As2 i) q ds xs T:=kd.imp (fun _ _ _ _ w=>w.mono fr.ext.g fr.ext.h) fun _ z=>z
   refine p1 σ G3 _ _ (a3.store (S:=As2 i) kd.top h1 ⟨q,_,fun _ _=>False,rfl,zAA,⟨by simp[kd.len],fun r d' z g1 g2=>?_,kd.top,fun _ z=>z,fun _ _ _ z=>z.elim,fun _ _ z=>z.elim⟩⟩ fun b z=>.inl z)
   by_cases hr:r<ds.length
   ·rw[qA9 hr]at g1;rw[qA9 (by rw[kd.len];exact hr)]at g2;exact kd1.own r d' z g1 g2
   ·rw[qA7 (by lia)]at g1;rw[qA7 (by rw[kd.len];lia),kd.len]at g2;have hq0:r-ds.length=0:=by
     have:=(qA5.mp g1).1;simp at this;lia
    rw[hq0]at g1 g2;simp at g1 g2;subst g1;subst g2;exact o
  ·exact p1.elim
 ·exact p.elim
def zZ1(i:Nat)(A:DE mg E te e (n+1))(hn:n<1000:=by decide):DS mg E L (zGI (tML extM (vM i) (zES te tNil))) (Mi.sExt i n e):=by
 intro G0 H0 S0 σ ρ G H As D a p;obtain⟨J,x,s,w⟩:=a.full;unfold Mi.sExt at p;split at p
 ·rename_i ds k e1
  obtain⟨v,h1,q,xs,T,rfl,hq,kd⟩:=a.at i _ _ e1;unfold zGI tML vM;rw[h1];refine⟨xs,hq,?_⟩;refine A.step (errS.from x) x.in' w p fun d y G1 H1 S _ fr o p1=>?_
  split at p1
  ·rename_i es
   obtain⟨b0,zs,T2,rfl,hb0,kd2⟩:=o;split at p1
   ·rename_i hz
    refine⟨xs,zs,fr.ext.h _ _ hq,hb0,by rw[kd.len,kd2.len];exact big' (by lia),?_⟩;have hp:=kd.top;have a1:=a.grow fr.ext.h;have q2:∀b,S b->H b=none/\G b=none/\H1 b≠none:=fun b hb=>let⟨n1,n2,n3⟩:=fr.new b hb;⟨n1,a.ext.in'.free n1,n3⟩
    have nS:∀r,¬T2 r q:=fun r z=>(a.new i q hp).2.2 (q2 q (kd2.sub r q z)).1
    have ap:∀r r' b,T r b->T2 r' b->False:=fun r r' b h1 h2=>(a.new i b (kd.sub r b h1)).2.2 (q2 b (kd2.sub r' b h2)).1
    refine p1 σ G _ _ (a1.store (S:=fun b=>As i b\/∃r,T2 r b) hp h1 ⟨q,_,fun r b=>(r<ds.length/\T r b)\/(ds.length<=r/\T2 (r-ds.length) b),rfl,zAA,⟨by simp[kd.len,kd2.len],fun r d' z g1 g2=>?_,.inl hp,fun r z=>?_,fun r r' b z1 z2=>?_,fun r b z=>?_⟩⟩ fun b z=>?_)
    ·by_cases hr:r<ds.length
     ·rw[qA9 hr]at g1;rw[qA9 (by rw[kd.len];exact hr)]at g2;exact(((kd.own r d' z g1 g2).mono (Same.refl _) fr.ext.h).upd (kd.out r)).sub fun b z=>.inl ⟨hr,z⟩
     ·rw[qA7 (by lia)]at g1;rw[qA7 (by rw[kd.len];lia),kd.len]at g2;exact(((kd2.own _ d' z g1 g2).at (zE1 hz.2.1 g1) (zE1 hz.2.2 g1) hn).upd (nS _)).sub fun b z=>.inr ⟨by lia,z⟩
    ·rcases z with⟨_,z⟩|⟨_,z⟩
     ·exact kd.out r z
     ·exact nS _ z
    ·rcases z1 with⟨c1,t1⟩|⟨c1,t1⟩<;>rcases z2 with⟨c2,t2⟩|⟨c2,t2⟩
     ·exact kd.dis r r' b t1 t2
     ·exact(ap _ _ b t1 t2).elim
     ·exact(ap _ _ b t2 t1).elim
     ·have:=kd2.dis _ _ b t1 t2;lia
    ·rcases z with⟨_,z⟩|⟨_,z⟩
     ·exact .inl (kd.sub r b z)
     ·exact .inr ⟨_,z⟩
    ·rcases z with z|⟨r,z⟩
     ·exact .inl z
     ·obtain⟨n1,n2,n3⟩:=q2 b (kd2.sub r b z);exact .inr ⟨a.ext.h.free n1,n2,n3,fun j y=>(a.new j b y).2.2 n1⟩
   ·exact p1.elim
  ·exact p1.elim
 ·exact p.elim
end
structure XNo(K:qA2)(mg:Str->Option Value)(c:Str)(C:Addr):Prop extends XCls K mg c C where
 kp:qBj K (.ref C)=true
 ini:qAv K (.ref C) "__init__" = some (some (.builtin "ValueError.__init__"))
def zdK{X:Cx}{c:Str}{C:Addr}{e:Expr}{es:List Expr}{t:TA}{p pos:Pos}(h:XNo X.K X.mg c C)(hg:Gl X c)(ha:PA X (e::es) t)(hdb:(c==("__debug__":Str))=false:=by decide)
  (he:starEach (e::es) X.env=(false,eval e X.env)::starEach es X.env:=by rfl) (hpl:(backTo pos (starEach es X.env)).any (·.1)=false:=by rfl):PE X (.Call (.Name c p) (e::es) [] pos) (zNK C t):=
 zSE h.is.xc h.ini hg h.gm h.kp ha hdb he hpl
section
variable[Kc]{mg:Str->Option Value}{E:XK}{L:Nat}{t:TA}{m:AM}
def zU1{c:Str}{C:Addr}(h:XNo Kc.K mg c C)(A:DA mg E t m 0):DS mg E L (zOT Kc.K E (zNK C t)) (Mi.sRaise0 c m):=by
 intro G0 H0 S0 σ ρ G H As D a p;obtain⟨J,x,s,w⟩:=a.full;refine A.step (errS.from x) x.in' w p fun ds vs G1 H1 S T _ fr o p1=>?_
 split at p1
 ·rename_i hz
  refine⟨by rw[o.len];exact big' (by lia),fun e he=>⟨e,C,none,rfl,zAA,h.is.xc,?_⟩⟩;have hu:upd (upd H1 e (xn e (.ref C) none)) e (xo e (.ref C) none)=upd H1 e (xo e (.ref C) none):=by
   funext z;by_cases h1:z=e
   ·rw[h1,zAA,zAA]
   ·rw[zAD h1,zAD h1,zAD h1]
  rw[hu];exact p1 (.ref e) none _ _ ((x.trans fr.ext).trans (Ext.new fr.ext.in' he _)) ⟨e,C,rfl,zAA,h.cl,.inl ⟨rfl,rfl⟩⟩
 ·exact p1.elim
end
end L3
namespace L2
open PySem PySem.Spec PyProof.Rows
section
variable{X:Cx}
def zJA(z:Str):List V:=z.cps.toList.map fun c=>.str ⟨#[c]⟩
def zQ9{z:Str}{acc:Array Value}(h:ItemsOf (SignAt z) acc z.cps.size):Vals (zJA z) acc.toList:=by
 obtain⟨h1,h2⟩:=h;have key:∀(cs:List Nat)(us:List Value)(k:Nat),us.length=cs.length->(∀(j:Nat)(v:Value),us[j]?=some v->∃(c:Nat)(u:Tok),cs[j]?=some c/\v=qL1 ⟨#[c]⟩ u)->Vals (cs.map fun c=>V.str ⟨#[c]⟩) us:=by
  intro cs;induction cs with
  |nil=>intro us k e _;cases us with
   |nil=>exact .nil
   |cons a r=>simp at e
  |cons c r ih=>
   intro us k e h;cases us with
   |nil=>simp at e
   |cons a q=>
    obtain⟨c',u,e1,e2⟩:=h 0 a rfl;simp at e1;subst e1;exact .cons ⟨u,e2⟩ (ih q k (by simpa using e) fun j v hj=>h (j+1) v (by simpa using hj))
 refine key z.cps.toList acc.toList 0 (by simp[h1]) fun j v hj=>?_
 obtain⟨c,u,e1,e2⟩:=h2 j v (by rw[<- hj,qBg]);exact⟨c,u,by rw[<- e1,qBg],e2⟩
def zYA(K:qA2):List V->Hp->VK->Prop:=fun vs H Q=>match vs with
 |[.str z]=>z.length<=sizeLine/\∀l,H l=none->Q (.ref l) (upd H l (.lst (zJA z)))
 |_=>zP7 K vs H Q
def zaU{K:qA2}(hc:X.calm=true)(hK:X.K=K:=by rfl):zCY X (.type "list") (zYA K):=by
 subst hK;intro pins s σ H vs us Q I r h
 match vs,r,h with
 |[.str z],r,h=>
  obtain⟨hz,q⟩:=h;obtain⟨u,rfl,rx⟩:=zCX r;obtain⟨t,rfl⟩:=rx;refine call_list_str (I.ok.hd hc) z t (fun h' tk acc' c' hk hl hi=>?_) hz;have hv:=zQ9 hi;refine⟨.ref _,_,I.laid (t':=tk) (o:=.lst (zJA z)) hk (qAa _) ⟨?_,acc'.toList,c',hv,by simpa using hl⟩,rfl,q _ I.fresh⟩;simp[zJA];exact hz
 |[],r,h=>exact zEM hc pins s σ H _ us Q I r h
 |[.non],r,h=>exact zEM hc pins s σ H _ us Q I r h
 |[.bl _],r,h=>exact zEM hc pins s σ H _ us Q I r h
 |[.int _],r,h=>exact zEM hc pins s σ H _ us Q I r h
 |[.byt _],r,h=>exact zEM hc pins s σ H _ us Q I r h
 |[.flt _],r,h=>exact zEM hc pins s σ H _ us Q I r h
 |[.ty _],r,h=>exact zEM hc pins s σ H _ us Q I r h
 |[.ref _],r,h=>exact zEM hc pins s σ H _ us Q I r h
 |a::b::c,r,h=>exact zEM hc pins s σ H _ us Q I r (by cases a<;>exact h)
def zcZ:List V->Hp->VK->Prop:=fun vs H Q=>match vs with
 |[.ref a]=>∃ns:List Int,H a=some (.lst (ns.map V.int))/\ns.length<=100000/\(∀n∈ns,-1000000<=n/\n<=1000000)/\Q (.int ns.sum) H
 |_=>False
def zY4:∀(ns:List Int),(∀n∈ns,-1000000<=n/\n<=1000000)->-(ns.length*1000000:Int)<=ns.sum/\ns.sum<=(ns.length*1000000:Int)
 |[],_=>by simp
 |n::r,h=>by
  have h1:=zY4 r fun m hm=>h m (by simp[hm])
  have h2:=h n (by simp);simp only[qD8,qAj]
  lia
def zgB(hc:X.calm=true):zCY X (.builtin "sum") zcZ:=by
 intro pins s σ H vs us Q I r h;cases vs with
 |nil=>exact qA3 h
 |cons hd1 tl1=>
  cases hd1 with
  |ref a=>
   cases tl1 with
   |nil=>
    obtain⟨ns,ha,hz,hb,q⟩:=h;obtain⟨u,rfl,rx⟩:=zCX r;cases rx;obtain⟨its,rv,hl⟩:=zAR I.hok ha;have hi:qM8 its ns:=zMP rv;obtain⟨xs,e⟩:=hi.allInts.items;have en:numsOf its=ns:=hi.numsOf;have en2:numsOf (intItems xs).toList=ns:=by rw[<- e];exact en
    rw[nums_intItems]at en2;have hl':s.heap.IsList a (intItems xs):=by rw[<- e];exact hl
    have hx:∀j,numAt xs j=ns.getD j 0:=fun j=>by rw[numAt_eq,en2]
    have hps:∀j,preSum (numAt xs) j=(ns.take j).sum:=fun j=>by
     rw[show numAt xs=fun i=>ns.getD i 0 from funext hx];exact qIe ns j
    have hxl:xs.size=ns.length:=by rw[<- en2];simp
    refine sum_intList (I.ok.hd hc) hl' (fun j hj=>?_) fun h' tk t' hk=>?_
    ·have hj':j<ns.length:=by lia
     rw[hx,hps];have b1:=hb (ns.getD j 0) (by rw[qA0,qA1 hj'];simp);have b2:=zY4 (ns.take (j+1)) fun m hm=>hb m (qEh hm)
     have b3:(ns.take (j+1)).length<=100000:=by rw[qCg];lia
     constructor<;>constructor<;>lia
    ·rw[hps,hxl,qEg];exact⟨.int _,H,I.kept (t':=tk) hk,⟨_,rfl⟩,q⟩
   |cons _ _=>exact qA3 h
  |_=>exact qA3 h
def zLN:∀{ns:List Str}{vs:List Value},qL3 vs ns->Vals (ns.map V.str) vs
 |_,_,.nil=>.nil
 |_,_,.cons n t h=>.cons ⟨t,rfl⟩ (zLN h)
def zY8:V->List V->Hp->VK->Prop:=fun x vs H Q=>match x,vs with
 |.str z,[.str y]=>Q (.int (qNe z y)) H
 |_,_=>False
def zSU:MtR X "str.rfind" zY8:=by
 intro pins s σ H x vs v us Q I rx rv h;cases x with
 |str z=>
  cases vs with
  |nil=>exact qA3 h
  |cons hd1 tl1=>
   cases hd1 with
   |str y=>
    cases tl1 with
    |nil=>
     obtain⟨t,rfl⟩:=rx;obtain⟨u,rfl,ru⟩:=zCX rv;obtain⟨t2,rfl⟩:=ru;exact SC.rfind ⟨.int _,H,I.tok _,⟨_,rfl⟩,h⟩
    |cons _ _=>exact qA3 h
   |_=>exact qA3 h
 |_=>exact qA3 h
end
def Itw(z:Str):It:=
 ⟨fun i H=>i<z.cps.size,fun i H x H'=>∃T c,x=.ref T/\H T=none/\H'=upd H T (.tup [.int i,.str ⟨#[c]⟩])/\z.cps[i]?=some c,fun i H=>z.cps.size<=i⟩
def zZ3{prog:qJ8}{w:World}{A:qJb}(hh:A.handled=none)(it:Addr)(x:Str)(t:Tok) :
  Draws prog w A it [it] x.cps.size (fun i v=>∃c u,x.cps[i]?=some c/\v=.str ⟨#[c]⟩ u) (fun i h=>h.IsStrIter it (strIterType x) x t i):=by
 unfold strIterType;cases ha:x.cps.all (· < 128)
 ·exact Draws.strWide hh it x t
 ·exact Draws.strAscii hh it x t
def zQ5{P:qJ8}{w:World}{K:qA2}{ts:List Expr}{kk:Nat}{tp:Pos}(z:Str)(t:Tok)(e it:Addr)(hei:e≠it) :
  Turn P w K (.Tuple ts kk tp) (Itw z) [e,it] e (fun i h=>i<=z.cps.size/\(∃old,IsEnum h e it i old)/\h.IsStrIter it (strIterType z) z t i) where
 mem:=by simp
 obj:=fun i h st b hb=>by
  rcases qAc.mp hb with y|y
  ·subst y;obtain⟨_,⟨old,he⟩,_⟩:=st;exact⟨_,he,fun v z=>by cases z⟩
  ·have z':b=it:=by simpa using y
   subst z';obtain⟨_,_,o,e,c,d⟩:=st;exact⟨o,e,fun v z=>by rw[d]at z;cases z⟩
 keep:=fun i h h' st k=>⟨st.1,by obtain⟨_,⟨old,he⟩,_⟩:=st;exact⟨old,k e (by simp) _ he⟩,by obtain⟨_,_,o,ho,r⟩:=st;exact⟨o,k it (by simp) o ho,r⟩⟩
 item:=by
  intro X hP hw hK hc i pins s σ H E I hf st hg;subst hP hw hK;have hi:i<z.cps.size:=hg;obtain⟨_,⟨old,he⟩,hit⟩:=st;have hhd:X.A.in1.handled=none:=I.ok.hd hc;refine wpAny_pyNext_enum_itemD (zZ3 hhd it z t) he hit hi hei (by simpa using hei) fun x h' tk hP ho hit' hT hsz hk=>?_
  obtain⟨c,u,hcx,rfl⟩:=hP;refine⟨_,rfl,qL7 ho fun h'' he'' hs''=>?_⟩;have hTe:s.heap.objs.size≠e:=qBs (qJ6 he);have hTi:s.heap.objs.size≠it:=by obtain⟨o,ho',_⟩:=hit;exact qBs (qJ6 ho')
  have kk:∀b u,b∉[e,it]->s.heap.get? b=some u->h''.get? b=some u:=fun b u hb q=>by
   have b1:b≠e:=fun z=>hb (by simp[z])
   have b2:b≠it:=fun z=>hb (by simp[z])
   exact(hs''.2 b b1).trans (hk b u b1 b2 q)
  have hT'':=(hs''.2 _ hTe).trans hT;refine⟨.ref s.heap.objs.size,_,I.turnedNew (t':=tk+1) (o:=.tup [.int i,.str ⟨#[c]⟩]) hf kk (qAa _) ⟨by show 2<=sizeLine;decide,[.int i tk,.str ⟨#[c]⟩ u],.cons ⟨_,rfl⟩ (.cons ⟨_,rfl⟩ .nil),⟨_,hT'',rfl,_,rfl⟩⟩,rfl,
   ⟨_,c,rfl,I.fresh,rfl,hcx⟩,⟨hi,⟨_,by simpa using he''⟩,by obtain⟨o,ho,r⟩:=hit';exact⟨o,(hs''.2 it hei.symm).trans ho,r⟩⟩,fun b hb=>?_⟩
  have hbs:b<s.heap.objs.size:=by
   rcases qAc.mp hb with z|z
   ·rw[z];exact qJ6 he
   ·have z':b=it:=by simpa using z
    rw[z'];obtain⟨o,ho',_⟩:=hit;exact qJ6 ho'
  rw[zAD (qAl hbs)];exact(hf b hb).1
 done:=by
  intro X hP hw hK hc i pins s σ H E I hf st hg;subst hP hw hK;obtain⟨hle,⟨old,he⟩,hit⟩:=st;have hi:i=z.cps.size:=qEo hle hg;subst hi;have hhd:X.A.in1.handled=none:=I.ok.hd hc;exact wpAny_pyNext_enum_endD (zZ3 hhd it z t) he hit fun h' eb=>⟨rfl,I.turnedL (t':=s.toks) hf fun b u hb q=>eb b u (fun z=>hb (by simp[z])) q⟩
 self:=fun _ _ _ _ _ st h=>by obtain⟨_,⟨old,he⟩,_⟩:=st;exact qKc he h
section
variable{X:Cx}{K:qA2}
def zYT(K:qA2)(tl:TA):TI:=fun σ H R=>tl σ H fun vs H1=>match vs with
 |[.ref a]=>(∃xs,SqL K H1 a xs)/\R (Ite K a) H1
 |[.str z]=>R (Itw z) H1
 |_=>False
def zW7{ts:List Expr}{kk:Nat}{tp p pos:Pos}{a:Expr}{ta:TA}(hg:Gl X "enumerate")(hm:X.mg "enumerate" = none)(ha:PA X [a] ta)(hs:starEach [a] X.env=[(false,eval a X.env)]:=by rfl)(hK:X.K=K:=by rfl) :
  PI X (.Tuple ts kk tp) (.Call (.Name "enumerate" p) [a] [] pos) (zYT K ta):=by
 subst hK;intro pins s σ H R I h;refine Call_ (zI2 I hg hm boot_enumerate (qBv (thn (ha pos pins s σ H _ I h) fun us s1 z0=>?_) hs rfl));obtain⟨vs,H1,I1,r1,q1⟩:=z0;have hne:s1.heap.objs.size+1≠s1.heap.objs.size:=by lia
 have hb':∀b∈[s1.heap.objs.size+1,s1.heap.objs.size],s1.heap.objs.size<=b:=fun b hb=>by
  rcases qAc.mp hb with z|z
  ·rw[z];exact qC8 _
  ·have z':b=s1.heap.objs.size:=by simpa using z
   rw[z'];exact qAa _
 cases vs with
 |nil=>exact qA3 q1
 |cons hd1 tl1=>
  cases hd1 with
  |ref l=>
   cases tl1 with
   |nil=>
    obtain⟨⟨xs,hq⟩,q⟩:=q1;obtain⟨u,rfl,rx⟩:=zCX r1;cases rx;obtain⟨its,rv,pl,hz⟩:=I1.list hq;refine qLt pl.isList fun h' he hit hsz hk=>?_
    refine qKc he ?_;exact⟨s1.heap.objs.size+1,[s1.heap.objs.size+1,s1.heap.objs.size],_,_,H1,rfl,I1.kept (t':=s1.toks) hk,zLH l _ _ hne,⟨⟨_,he⟩,hit⟩,fun b hb=>I1.fpOk (hb' b hb) (I1.hok.fresh (hb' b hb)),q⟩
   |cons _ _=>exact qA3 q1
  |str z=>
   cases tl1 with
   |nil=>
    obtain⟨u,rfl,rx⟩:=zCX r1;obtain⟨t,rfl⟩:=rx;refine call_enumerate_str fun h' he hit hsz hk=>?_
    refine qKc he ?_;exact⟨s1.heap.objs.size+1,[s1.heap.objs.size+1,s1.heap.objs.size],_,_,H1,rfl,I1.kept (t':=s1.toks) hk,zQ5 z t _ _ hne,⟨qAn _,⟨_,he⟩,hit⟩,fun b hb=>I1.fpOk (hb' b hb) (I1.hok.fresh (hb' b hb)),q1⟩
   |cons _ _=>exact qA3 q1
  |_=>exact qA3 q1
end
section
end
end L2
namespace L3
open PySem PySem.Spec
open L2 hiding Rep RepL
open Mi (Dt Xn R okR zA3 optR zA0 zA9 zAC zA8 zAB Rh Sl Ro EM TM AM FM IM SM Tg Out zAV zAO zB0 full frz frz1 frzAt)
section
variable[Kc]
end
section
variable[Kc]
end
section
variable[Kc]
end
end L3
namespace L3
open PySem PySem.Spec
open L2 hiding Rep RepL
open Mi (Dt Xn R okR zA3 optR zA0 zA9 zAC zA8 zAB Rh Sl Ro EM TM AM FM IM SM OM Tg Out zAV zAO zB0 full frz frz1 frzAt)
section
end
section
variable[Kc]
end
end L3
namespace Mi
open PySem
def listXD(ds:List Dt):Option Dt:=match ds with
 |[.str z]=>@ite _ (z.length<=100000) (qA6 _) (some (.lst (signsD z))) none
 |ds=>listD ds
def iEnX(e:AM):IM:=fun ρ=>zA3 (e ρ) fun vs=>match vs with
 |[.lst xs]=>okR (enumD 0 xs)
 |[.str z]=>okR (enumD 0 (signsD z))
 |_=>none
def sumD:List Dt->Option Dt
 |[.lst ds]=>match intsD ds with
  |some ns=>@ite _ (ns.length<=100000/\∀n∈ns,-1000000<=n/\n<=1000000) (qA6 _) (some (.int ns.sum)) none
  |none=>none
 |_=>none
end Mi
namespace L3
open PySem PySem.Spec
open L2 hiding Rep RepL
open Mi (Dt Xn R okR zA3 optR zA0 zA9 zAC zA8 zAB Rh Sl Ro EM TM AM FM IM SM Tg Out zAV zAO zB0 full frz frz1 frzAt)
section
variable[Kc]{mg:Str->Option Value}{E:XK}{n:Nat}{t:TA}{m:AM}
def zQE{G:Hp}(z:Str):RepL G (Mi.signsD z) (zJA z):=by
 unfold Mi.signsD zJA;induction z.cps.toList with
 |nil=>rfl
 |cons c r ih=>exact⟨_,_,rfl,rfl,ih⟩
def zXR:CBi (zYA Kc.K) Mi.listXD 1:=by
 intro mg E G H ds vs Q s h p;cases ds with
 |nil=>exact qA3 p
 |cons hd1 tl1=>
  cases hd1 with
  |str z=>
   cases tl1 with
   |nil=>
    obtain⟨x,rfl,hx⟩:=zCB h;cases(show x=.str z from hx)
    unfold Mi.listXD at p;dsimp only at p;split at p
    ·rename_i hz
     exact⟨big' hz,fun l hl=>PostE.lst p (Ext.refl s) (zQE z) hl⟩
    ·exact p.elim
   |cons _ _=>exact qA3 p
  |lst _=>
   cases tl1 with
   |nil=>
    have q:=zIM mg E G H _ vs Q s h p;obtain⟨x,rfl,a,xs,rfl,ha,ra⟩:=zCB h;exact q
   |cons _ _=>exact qA3 p
  |tup _=>
   cases tl1 with
   |nil=>
    have q:=zIM mg E G H _ vs Q s h p;obtain⟨x,rfl,a,xs,rfl,ha,ra⟩:=zCB h;exact q
   |cons _ _=>exact qA3 p
  |scr _=>
   cases tl1 with
   |nil=>
    have q:=zIM mg E G H _ vs Q s h p;obtain⟨x,rfl,a,rfl,ha⟩:=zCB h;exact q
   |cons _ _=>exact qA3 p
  |_=>exact qA3 p
def zeE{G:Hp}(z:Str):ItOk (Itw z) G (Mi.enumD 0 (Mi.signsD z)):=by
 intro i G1 H1 s1 s2;rw[zIC];have hl:(Mi.signsD z).length=z.cps.size:=by simp[Mi.signsD]
 rw[hl];refine⟨fun hi=>hi,fun hi=>hi,fun x H2 d hd hy=>?_⟩;obtain⟨T,c,rfl,hT,rfl,hc⟩:=hy;obtain⟨e,h1,rfl⟩:=zID _ 0 i d hd;have x1:=Ext.new s2 hT (.tup [.int i,.str ⟨#[c]⟩]);have he:e=.str ⟨#[c]⟩:=by
  unfold Mi.signsD at h1;rw[qAb,qBg,hc]at h1;cases h1;rfl
 subst he;refine⟨_,x1,T,_,rfl,zAA,_,_,rfl,?_,_,_,rfl,rfl,rfl⟩;show V.int (i:Int)=.int ((0+i:Nat):Int);rw[qC4]
def zeZ(A:DA mg E t m 0):DI mg E (zYT Kc.K t) (Mi.iEnX m) false:=by
 intro G H σ ρ Q s w p;refine A.step errI s w p fun ds vs G1 H1 S T _ fr o p1=>?_
 have r:=o.repL;cases ds with
 |nil=>exact qA3 p1
 |cons hd1 tl1=>
  cases hd1 with
  |lst es=>
   cases tl1 with
   |nil=>
    obtain⟨x,rfl,a,xs,rfl,ha,ra⟩:=zCB r;exact⟨⟨xs,SqL.of (fr.ext.in' _ _ ha)⟩,p1 _ G1 H1 fr.ext (zYP ha ra)⟩
   |cons _ _=>exact qA3 p1
  |str z=>
   cases tl1 with
   |nil=>
    obtain⟨x,rfl,hx⟩:=zCB r;cases(show x=.str z from hx)
    exact p1 _ G1 H1 fr.ext (zeE z)
   |cons _ _=>exact qA3 p1
  |_=>exact qA3 p1
def zWE{r:List V->Hp->VK->Prop}{f:List Dt->Option Dt}(h0:∀ds,(∀es,ds≠[.lst es])->f ds=none)(h1:∀es,Mi.intsD es=none->f [.lst es]=none)
  (h2:∀(mg:Str->Option Value)(E:XK)(G H:Hp)(a:Addr)(es:List Dt)(ns:List Int)(Q:VK),Same G H->Mi.intsD es=some ns->H a=some (.lst (ns.map V.int))->PostE mg E G H n (optR (f [.lst es])) Q->r [.ref a] H Q):CBi r f n:=by
 intro mg E G H ds vs Q s h p;by_cases hd:∃es,ds=[.lst es]
 ·obtain⟨es,rfl⟩:=hd;obtain⟨x,rfl,a,xs,rfl,ha,ra⟩:=zCB h;cases ei:Mi.intsD es with
  |none=>rw[h1 es ei]at p;exact p.elim
  |some ns=>exact h2 mg E G H a es ns Q s ei (by rw[s _ _ ha,zI7 ei ra]) p
 ·rw[h0 ds fun es z=>hd ⟨es,z⟩]at p;exact p.elim
def zaC{f:List Dt->Option Dt}(h1:f []=none)(h2:∀d,(∀es,d≠.lst es)->f [d]=none)(h3:∀a b r,f (a::b::r)=none):∀ds,(∀es,ds≠[.lst es])->f ds=none:=by
 intro ds h
 match ds,h with
 |[],_=>exact h1
 |[d],h=>exact h2 d fun es z=>h es (by rw[z])
 |a::b::r,_=>exact h3 a b r
def zf3:CBi zcZ Mi.sumD n:=by
 refine zWE (zaC rfl (fun d h=>by cases d<;>first|rfl|exact absurd rfl (h _)) fun a b r=>by cases a<;>rfl) (fun es h=>by rw[Mi.sumD,h]) fun mg E G H a es ns Q s ei ha p=>?_
 rw[Mi.sumD,ei]at p;dsimp only at p;split at p
 ·rename_i hz
  exact⟨ns,ha,hz.1,hz.2,PostE.val p (Ext.refl s) rfl rfl⟩
 ·exact p.elim
end
end L3
namespace Mi
def sSetL(i j:Nat)(vs:List Nat)(e:EM):SM:=fun ρ=>match(frzAt vs (low j ρ))[j]? with
 |some (some (.lst ds,1))=>zA3 (e ((frz (frzAt vs (low j ρ))).set j (some (.lst ds)))) fun d=>match d with
  |.lst es=>if Dt.depL es=0/\es.length≠ds.length then okR (.nx ((frzAt vs (low j ρ)).set i (some (.lst es,0))))else none
  |_=>none
 |_=>none
end Mi
namespace L2
open PySem PySem.Spec PyProof.Rows
section
def zOX:∀{vs:List Value}{zs:List Str},qL3 vs zs->vs.length=zs.length
 |_,_,.nil=>rfl
 |_,_,.cons _ _ r=>by simp[zOX r]
end
end L2
namespace L3
open PySem PySem.Spec
open L2 hiding Rep RepL
open Mi (Dt Xn R okR zA3 optR zA0 zA9 zAC zA8 zAB Rh Sl Ro EM TM AM FM IM SM Tg Out zAV zAO zB0 full frz frz1 frzAt)
section
variable[Kc]{mg:Str->Option Value}{E:XK}{L n:Nat}{te:TE}{e:EM}
def zLX{G G2:Hp}:∀{es:List Dt}{ys:List V},RepL G es ys->Dt.depL es=0->RepL G2 es ys
 |[],_,h,_=>h
 |d::r,_,h,hd=>by
  obtain⟨x,q,rfl,h1,h2⟩:=h;have h3:d.dep=0/\Dt.depL r=0:=by
   simp only[Dt.depL]at hd;lia
  exact⟨x,q,rfl,h1.scalar h3.1,zLX h2 h3.2⟩
def zGS{G H:Hp}{q:Addr}:over G H (fun b=>b=q) q=H q:=zDU (S:=fun b=>b=q) rfl
def zHP{G H:Hp}{b q:Addr}(h:b≠q):over G H (fun b=>b=q) b=G b:=zC7 (S:=fun b=>b=q) h
def zTZ(i j:Nat)(vs:List Nat)(A:DE mg E te e n):DS mg E L (tAsg te (zFK i)) (Mi.sSetL i j vs e):=by
 intro G0 H0 S0 σ ρ G H As D a p;unfold Mi.sSetL at p;obtain⟨G1,As1,a1⟩:=Sat.low a j;obtain⟨G2,As2,a2⟩:=Sat.frzAt vs a1;split at p
 ·rename_i ds e1
  obtain⟨v,h1,q,xs,T,rfl,hq,kd⟩:=a2.at j _ _ e1;obtain⟨nq1,nq2,nq3⟩:=a2.new j q kd.top;obtain⟨s1,s2⟩:=zCP (S:=fun b=>b=q) a2.ext.in';have x3:Ext G0 H0 (over G2 H fun b=>b=q) H:=⟨a2.ext.g.trans s1,a2.ext.h,s2,fun b hb=>by
   rw[zHP (fun z=>hb (by rw[z];exact nq1))];exact a2.ext.old b hb⟩
  have rq:Rep (over G2 H fun b=>b=q) (.lst ds) (.ref q):=⟨q,xs,rfl,by rw[zGS];exact hq,zEV kd.len fun r d x g1 g2=>Rep.mono s1 (kd.own r d x g1 g2)⟩
  have w:=(View.mono s1 a2.frz);have w2:View (over G2 H fun b=>b=q) σ ((frz (frzAt vs (Mi.low j ρ))).set j (some (.lst ds))):=by
   have:=w.set (i:=j) rq
   rwa [show σ.set j (some (.ref q))=σ by
    have:=(qA5.mp h1).2;rw[<- this,qFw]]at this
  refine(zAL A).step (errS.from x3) s2 w2 p fun d u G4 H4 S4 _ fr o p1=>?_
  split at p1
  ·rename_i es _
   split at p1
   ·rename_i hz
    obtain⟨pa,ys,rfl,k1,k2⟩:=(show Rep G4 (.lst es) u from o)
    have hne:pa≠q:=fun z=>by
     subst z;have:=fr.ext.old pa nq3;rw[k1,zGS,hq]at this;cases this;exact hz.2 (by rw[<- zVX k2,kd.len])
    have hin:Same G2 H4:=a2.ext.in'.trans fr.ext.h;obtain⟨t1,t2⟩:=zCP (S:=fun b=>b=pa) hin;have hpa:H4 pa=some (.lst ys):=fr.ext.in' _ _ k1;have x5:Ext G2 H (over G2 H4 fun b=>b=pa) H4:=⟨t1,fr.ext.h,t2,fun b hb=>by
     by_cases z:b=pa
     ·subst z;have g:=fr.ext.old b hb;rw[k1,zHP hne]at g;rw[zGS,hpa,<- g]
     ·rw[zHP z]⟩
    have o5:Own (over G2 H4 fun b=>b=pa) H4 0 (fun _=>False) (.lst es) (.ref pa):=⟨pa,ys,rfl,by rw[zGS];exact hpa,zLX k2 hz.1⟩
    exact p1 _ _ H4 _ ((a2.wider x5).put o5 (fun b z=>z.elim) fun _ _ _ _ z=>z.elim)
   ·exact p1.elim
  ·exact p1.elim
 ·exact p.elim
end
end L3
namespace Mi
open PySem
def zZR{a b:Str}(h:a.cps.toList=b.cps.toList):a=b:=by
 obtain⟨⟨x⟩⟩:=a;obtain⟨⟨y⟩⟩:=b;have:x=y:=h;rw[this]
def uniqZ:∀{a b:List Str},a.Perm b->a.Pairwise (fun a b=>a.cps.toList<=b.cps.toList)->b.Pairwise (fun a b=>a.cps.toList<=b.cps.toList)->a=b
 |[],b,h,_,_=>(List.nil_perm.mp h).symm
 |x::r,[],h,_,_=>by simpa using h.length_eq
 |x::r,y::q,h,ha,hb=>by
  have e:x=y:=by
   rcases qAc.mp (h.mem_iff.mp (qB4 (a:=x) (l:=r)))with z|z
   ·exact z
   ·rcases qAc.mp (h.mem_iff.mpr (qB4 (a:=y) (l:=q)))with u|u
    ·exact u.symm
    ·exact zZR (List.le_antisymm ((qBo.mp ha).1 y u) ((qBo.mp hb).1 x z))
  subst e;rw[uniqZ (List.Perm.cons_inv h) (qBo.mp ha).2 (qBo.mp hb).2]
end Mi
namespace L3
open PySem PySem.Spec
open PyProof.Rows (risingS sortedS ltCps_eq)
open L2 hiding Rep RepL
open Mi (Dt Xn R okR zA3 optR zA0 zA9 zAC zA8 zAB Rh Sl Ro EM TM AM FM IM SM OM Tg Out zAV zAO zB0 full frz frz1 frzAt)
section
variable[Kc]{l:Nat}
def zLV:∀(l:List Str)(p:Str),risingS p l=true->(p::l).Pairwise (fun a b=>a.cps.toList<=b.cps.toList)
 |[],p,_=>by simp
 |x::r,p,h=>by
  rw[risingS,qBi,ltCps_eq]at h;have h1:p.cps.toList<=x.cps.toList:=by
   have:=h.1;simpa[qIw]using this
  have h2:=zLV r x h.2;refine qBo.mpr ⟨fun y hy=>?_,h2⟩
  rcases qAc.mp hy with rfl|hy
  ·exact h1
  ·exact List.le_trans h1 ((qBo.mp h2).1 y hy)
def zRN{l:List Str}(h:sortedS l=true):l.Pairwise (fun a b=>a.cps.toList<=b.cps.toList):=by
 cases l with
 |nil=>exact .nil
 |cons x r=>exact zLV r x h
end
end L3
namespace Mi
open PySem
def svD:Dt->Option Sv
 |.int i=>some (.i i)
 |.str x=>some (.s x)
 |_=>none
def svsD:List Dt->Option (List Sv)
 |[]=>some []
 |d::r=>match svD d,svsD r with
  |some v,some vs=>some (v::vs)
  |_,_=>none
def dSv:Sv->Dt
 |.i n=>.int n
 |.s x=>.str x
def eNew(c:Str)(fl:List Str)(am:AM):EM:=fun ρ=>zA3 (am ρ) fun ds=>match svsD ds with
 |some vs=>if vs.length=fl.length then okR (.ins c (fl.zip vs))else none
 |none=>none
def zgK(c:Str):EM:=fun _=>okR (.ins c [])
def eFld(hs:List Str)(f:Str)(e:EM):EM:=fun ρ=>zA3 (e ρ) fun d=>match d with
 |.ins c fs=>if c∈hs then(match fs.lookup f with|some v=>okR (dSv v)|none=>none)else none
 |_=>none
def zgL(tb:List (Str×FM))(m:Str)(e:EM)(am:AM):EM:=fun ρ=>zA3 (e ρ) fun d=>match d with
 |.ins c fs=>match tb.lookup c with
  |some g=>match fs.lookup m with
   |none=>zA3 (am ρ) fun ds=>g (d::ds)
   |some _=>none
  |none=>none
 |_=>none
def eIsO(ys ns:List Str)(e:EM):EM:=fun ρ=>zA3 (e ρ) fun d=>match d with
 |.ins c _=>if c∈ys then okR (.bl true)else if c∈ns then okR (.bl false)else none
 |_=>none
def lastC(c:Nat)(l:List Nat):Option Nat:=(posC c l.reverse).map fun i=>l.length-1-i
def rfindD(x:Dt)(ys:List Dt):Option Dt:=match x,ys with
 |.str z,[.str y]=>match y.cps.toList with
  |[c]=>some (.int (match lastC c z.cps.toList with|some i=>(i:Int)|none=>-1))
  |_=>none
 |_,_=>none
end Mi
namespace L2
open PySem PySem.Spec PyProof.Rows
section
end
def spIns(K:qA2)(fl:List Str):Sp:=fun vs H Q _=>∃(x C dx:Addr)(ys:List V),vs=.ref x::ys/\ys.length=fl.length/\H x=some (.ins C dx [])/\Cls K C/\(∀f∈fl,zfB K C f)/\Q .non (upd H x (.ins C dx (fl.zip ys)))
section
end
section
end
section
end
section
end
def zWT(z:Str)(c:Nat):qNe z ⟨#[c]⟩=(match Mi.lastC c z.cps.toList with|some i=>(i:Int)|none=>-1):=by
 have hone:∀i,StrLaws.At z ⟨#[c]⟩ z.length i↔z.cps.toList[i]?=some c:=fun i=>StrLaws.subAt_one z c i
 generalize hl:z.cps.toList=l at hone;have pos_none:∀{r:List Nat},Mi.posC c r=none->c∉r:=by
  intro r;induction r with
  |nil=>intro _ h;simp at h
  |cons a r ih=>
   intro h;have h':(if a=c then some 0 else(Mi.posC c r).map (·+1))=none:=h
   split at h'
   ·cases h'
   ·rename_i hne
    have:=ih (by cases e:Mi.posC c r with|none=>rfl|some _=>rw[e]at h';cases h')
    intro z;rcases qAc.mp z with q|q
    ·exact hne q.symm
    ·exact this q
 have pos_some:∀{r:List Nat}{i:Nat},Mi.posC c r=some i->r[i]?=some c/\∀j,j<i->r[j]?≠some c:=by
  intro r;induction r with
  |nil=>intro i h;cases h
  |cons a r ih=>
   intro i h;have h':(if a=c then some 0 else(Mi.posC c r).map (·+1))=some i:=h
   split at h'
   ·rename_i hac
    cases h';exact⟨by simp[hac],fun j hj=>by lia⟩
   ·rename_i hne
    cases e:Mi.posC c r with
    |none=>rw[e]at h';cases h'
    |some k=>
     rw[e]at h';cases h';obtain⟨q1,q2⟩:=ih e;refine⟨by simpa using q1,fun j hj=>?_⟩;cases j with
     |zero=>simpa using hne
     |succ j=>simpa using q2 j (Nat.lt_of_succ_lt_succ hj)
 unfold Mi.lastC;cases e:Mi.posC c l.reverse with
 |none=>
  have hn:=pos_none e;rcases rfind_whole z ⟨#[c]⟩with⟨h,_⟩|⟨i,_,h,_⟩
  ·exact h
  ·have:=(hone i).mp h
   exact absurd (List.mem_reverse.mpr (qB3 this)) hn
 |some i=>
  obtain⟨q1,q2⟩:=pos_some e;have hil:i<l.length:=by
   have:=(qA5.mp q1).1;simpa using this
  have q3:l[l.length-1-i]?=some c:=by rw[<- q1,qFy hil]
  rcases rfind_whole z ⟨#[c]⟩with⟨_,h⟩|⟨j,h1,h2,h3⟩
  ·exact absurd ((hone _).mpr q3) (h _)
  ·have hj:=(hone j).mp h2;have hjl:j<l.length:=(qA5.mp hj).1;have hle:¬j<l.length-1-i:=fun z=>h3 _ z ((hone _).mpr q3)
   have hge:¬l.length-1-i<j:=fun z=>q2 (l.length-1-j) (by lia) (by rw[qFy (by lia)];rw[show l.length-1-(l.length-1-j)=j by lia];exact hj)
   rw[h1];show(j:Int)=((l.length-1-i:Nat):Int);lia
def zJT{M:Model}{A:qJb}{E:Value->qJ5->Prop}{s:qJ5}{src:Source}{n:Nat}{Q:Nat->qJ5->Prop}(hn:n≠0)(h:∀i d,i<n->Q i { s with drawn:=d }):wpAny M A (choose src n) Q E s:=
 fun Γ p hΓ=>⟨hn,h _ _ (qC7 _ (Nat.pos_of_ne_zero hn))⟩
def zQS(t:qKu)(es:Array (Int×Value))(h:Int)(x:Value):(layNew t es h x).2.1.led=t.led:=by
 unfold layNew;split
 ·dsimp only;unfold qM3
  split<;>rfl
 ·rfl
def zQR(t:qKu)(es:Array (Int×Value))(h:Int)(x:Value)(hp:t.plain=false):(layNew t es h x).2.1.plain=false:=by
 unfold layNew;split
 ·dsimp only;unfold qM3
  split
  ·exact hp
  ·rfl
 ·rfl
def zLZ{t t':qKu}{hs:Array Int}{w:Nat}{o:Array Nat}(h:t.relaid hs w=some (t',o)):t'.led=t.led/\t'.plain=t.plain:=by
 unfold SetTable.relaid SetTable.laid at h;cases e:SetTable.layClean (SetTable.sizeAbove w-1) hs with
 |none=>rw[e]at h;cases h
 |some ow=>
  rw[e]at h;have h':=qBc h;have:=congrArg qIh h';dsimp only at this;rw[<- this];exact⟨rfl,rfl⟩
def zIT(t:qKu)(es:Array (Int×Value))(wanted:Nat):(relayAll t es wanted).2.1.led=t.led/\(t.plain=false->(relayAll t es wanted).2.1.plain=false):=by
 unfold relayAll;split
 ·rename_i t' order e
  obtain⟨h1,h2⟩:=zLZ e;dsimp only;split
  ·exact⟨h1,fun h=>h2.trans h⟩
  ·exact⟨rfl,fun _=>rfl⟩
 ·exact⟨rfl,fun _=>rfl⟩
section
variable{prog:qJ8}{w:World}{A:qJb}{E:Value->qJ5->Prop}{s:qJ5}
def SetZ(prog:qJ8)(w:World)(h:Heap)(a:Addr)(led:Bool)(ks:List Str):Prop:=
 ∃o es ep t,h.get? a=some o/\o.ExactSet/\o.data=.set es ep t/\qN7 (strKind prog w) es.toList/\es.toList.map (fun e=>strOf e.2)=ks/\ks.Nodup/\es.size<scanBound/\t.fits es.size=true/\t.led=led/\(0<es.size->t.plain=false)
def SetZ.at{h h':Heap}{a:Addr}{led:Bool}{ks:List Str}(hS:SetZ prog w h a led ks)(hk:∀o,h.get? a=some o->h'.get? a=some o):SetZ prog w h' a led ks:=by
 obtain⟨o,es,ep,t,ho,r⟩:=hS;exact⟨o,es,ep,t,hk o ho,r⟩
def zI4{k:Str}{v:Value}(h:(strKind prog w).is k v=true):∃t,v=.str k t:=qLs h
def zKZ{es:List (Int×Value)}(h:qN7 (strKind prog w) es){e:Int×Value}(he:e∈es):∃k t,e.2=.str k t:=by
 obtain⟨⟨k,hk,_⟩,_⟩:=h e he;obtain⟨t,e1⟩:=zI4 hk;exact⟨k,t,e1⟩
def zYR{es:List (Int×Value)}(h:qN7 (strKind prog w) es){e:Int×Value}(he:e∈es)(k:Str):(strKind prog w).is k e.2=true↔strOf e.2=k:=by
 obtain⟨k',t,e1⟩:=zKZ h he;rw[e1];constructor
 ·intro z;obtain⟨t',e2⟩:=zI4 z
  injection e2 with e3
 ·rintro rfl
  exact strKind_is prog w _ t
def zVN{a:Addr}{led:Bool}{ks:List Str}{k:Str}{tk:Tok}{Q:Bool->qJ5->Prop}(hS:SetZ prog w s.heap a led ks)(hroom:ks.length+1<scanBound)
  (h:∀h' ks' b,qKw a s.heap h'->SetZ prog w h' a led ks'->(k∈ks->ks'=ks)->(k∉ks->ks'.Perm (ks++[k]))->Q b { s with heap:=h' }) :
  wpAny (model prog w) A (setAddHashed a (.str k tk) ((strKind prog w).hash k)) Q E s:=by
 obtain⟨o,es,ep,t,ho,hex,hd,hel,hks,hnd,hb,hf,hled,hpl⟩:=hS;have hn:es.size=ks.length:=by rw[<- hks,qAe,qB9]
 have hb1:es.size+1<scanBound:=by lia
 have hkey:(strKind prog w).is k (.str k tk)=true:=strKind_is prog w k tk;have hsc:(qL1 k tk).scannable=true:=rfl;unfold setAddHashed setAddHashedIn;refine wpAny_holding (wpAny_bind (wpAny_setState_of ho hd hf ?_));dsimp only;rw[byScan_of hsc hb hel];simp only[↓reduceIte];unfold setAddByScan;refine wpAny_bind ?_;refine wpAny_bind (wpAny_rule ?_);refine wpAny_bind (wpAny_setScan_of hkey ho hd hf hel ?_);cases hr:List.findIdx? (fun e=>(strKind prog w).is k e.2) es.toList with
 |some j=>
  dsimp only;obtain⟨hj,hpj,_⟩:=List.findIdx?_eq_some_iff_getElem.mp hr;have hin:k∈ks:=by
   rw[<- hks];exact qAi.mpr ⟨es.toList[j],qCb hj,(zYR hel (qCb hj) k).mp hpj⟩
  refine wpAny_pure (wpAny_pure ?_);have e:s={ s with heap:=s.heap }:=by cases s;rfl
  rw[e];exact h s.heap ks false (Heap.SameBut.refl a s.heap) ⟨o,es,ep,t,ho,hex,hd,hel,hks,hnd,hb,hf,hled,hpl⟩ (fun _=>rfl) (fun z=>absurd hin z)
 |none=>
  dsimp only;have hnin:k∉ks:=by
   intro z;rw[<- hks]at z;obtain⟨e,he,e1⟩:=qAi.mp z;have:=List.findIdx?_eq_none_iff.mp hr e he;rw[(zYR hel he k).mpr e1]at this;exact Bool.noConfusion this
  have hgw:∀(b:Bool){s₁:qJ5}{Q':Unit->qJ5->Prop},Q' () s₁->wpAny (model prog w) A (match b with|true=>rule "set.scan.the-table-gave-way" | false=>pure ()) Q' E s₁:=
   fun b s₁ Q' hq=>by cases b<;>first|exact wpAny_pure hq|exact wpAny_rule hq
  have hperm:=layNew_perm t es ((strKind prog w).hash k) (.str k tk);have hfits:=layNew_fits t es ((strKind prog w).hash k) (.str k tk);have hled1:=zQS t es ((strKind prog w).hash k) (.str k tk);have hoff1:=zQR t es ((strKind prog w).hash k) (.str k tk);generalize hL:layNew t es ((strKind prog w).hash k) (.str k tk)=L at hperm hfits hled1 hoff1 ⊢;obtain⟨es1,t1,wasDummy,gave⟩:=L;dsimp only at hperm hfits hled1 hoff1 ⊢;rw[qGz]at hperm;have hel1:qN7 (strKind prog w) es1.toList:=(hel.push hkey hsc).perm hperm;have hks1:(es1.toList.map fun e=>strOf e.2).Perm (ks++[k]):=by
   have:=hperm.map fun e:Int×Value=>strOf e.2
   rw[qBl,hks]at this;exact this
  have hnd1:(es1.toList.map fun e=>strOf e.2).Nodup:=hks1.nodup_iff.mpr (by
   rw[qD9];exact⟨hnd,by simp,fun x hx y hy e=>hnin (by rw[qAu]at hy;rw[<- hy,<- e];exact hx)⟩)
  have hb1':es1.size<scanBound:=by rw[<- qB9,hperm.length_eq,qAo,qB9];simpa using hb1
  refine wpAny_bind (hgw _ ?_);have tail:∀t2:qKu,t2.fits es1.size=true->t2.led=led->t2.plain=false->wpAny (model prog w) A (do
    storeSet a es1 t2
    if(!wasDummy&&t2.tooFull)=true then do
      (match(relayAll t2 es1 (qK1 es1.size)).2.2 with|true=>rule "set.scan.the-table-gave-way" | false=>pure ())
      storeSet a (relayAll t2 es1 (qK1 es1.size)).1 (relayAll t2 es1 (qK1 es1.size)).2.1
      pure (some true)
     else pure (some true)) (fun r s'=>wpAny (model prog w) A (match r with|some added=>pure added|none=>setAddHashedIn a (.str k tk) ((strKind prog w).hash k) 99999) Q E s') E s:=by
   intro t2 f2 l2 p2;refine wpAny_bind (wpAny_storeSet_of ho hd ?_ (fits_of_scanBound hb1'));have hg:(s.heap.update a (qMa es1 t2)).get? a=some { o with data:=.set es1 (ep+1) t2 }:=by
    have:=qJ9 (qMa es1 t2) ho (by rw[qMv es1 t2 hd];rfl)
    rw[qMv es1 t2 hd]at this;exact this
   have hsb1:=qJz s.heap a (qMa es1 t2);split
   ·have hp:=relayAll_perm t2 es1 (qK1 es1.size);have hfr:=relayAll_fits t2 es1 (qK1 es1.size);have hkp:=zIT t2 es1 (qK1 es1.size)
    generalize hRl:relayAll t2 es1 (qK1 es1.size)=Rl at hp hfr hkp ⊢;obtain⟨es2,t3,gave2⟩:=Rl;dsimp only at hp hfr hkp ⊢;have hsz:es2.size=es1.size:=by rw[<- qB9,hp.length_eq,qB9]
    refine wpAny_bind (hgw _ ?_);refine wpAny_bind (wpAny_storeSet_of hg rfl ?_ (fits_of_scanBound (by rw[hsz];exact hb1')));have hg2:=qJ9 (qMa es2 t3) hg (by rw[qMv (o:={ o with data:=.set es1 (ep+1) t2 }) es2 t3 rfl];rfl);rw[qMv (o:={ o with data:=.set es1 (ep+1) t2 }) es2 t3 rfl]at hg2;have hks2:=hp.map fun e:Int×Value=>strOf e.2
    refine wpAny_pure (wpAny_pure (h _ (es2.toList.map fun e=>strOf e.2) _ (hsb1.trans (qJz _ a _)) ⟨_,es2,ep+2,t3,hg2,hex,rfl,hel1.perm hp,rfl,hks2.nodup_iff.mpr hnd1,by rw[hsz];exact hb1',hfr,hkp.1.trans l2,fun _=>hkp.2 p2⟩ (fun z=>absurd z hnin) fun _=>hks2.trans hks1))
   ·exact wpAny_pure (wpAny_pure (h _ (es1.toList.map fun e=>strOf e.2) _ hsb1 ⟨_,es1,ep+1,t2,hg,hex,rfl,hel1,rfl,hnd1,hb1',f2,l2,fun _=>p2⟩ (fun z=>absurd z hnin) fun _=>hks1))
  split
  ·refine wpAny_bind ?_;rw[hashByValue_scannable 8 hsc];refine wpAny_pure ?_;exact tail { t1 with plain:=false } (SetTable.fits_plain_off hfits) (hled1.trans hled) rfl
  ·rename_i hp1
   refine wpAny_bind (wpAny_pure ?_);simp only[↓reduceIte];exact tail t1 hfits (hled1.trans hled) (by simpa using hp1)
end
section
variable{prog:qJ8}{w:World}{A:qJb}{R:qMg->qJ5->Prop}{I:Addr}{fp wr:List Addr}{G:Array qKt->Array qKt->Prop}{St:Nat->qJ5->Prop}{led:Bool}{z:Str}
def loopZ(W:WalksS prog w A.in1 I fp wr G z.cps.size (SignAt z) St)(S:Addr)(hSf:S∉fp)(hb:z.cps.size+1<scanBound) :
  ∀(k i:Nat)(s:qJ5)(ks:List Str),z.cps.size-i=k->i<=z.cps.size->St i s->SetZ prog w s.heap S led ks->ks.length<=i->(∀c,c∈ks↔∃j d,j<i/\z.cps[j]?=some d/\c=⟨#[d]⟩) ->
   (∀s' ks',Moved (S::wr) G s s'->SetZ prog w s'.heap S led ks'->(∀c,c∈ks'↔∃j d,j<z.cps.size/\z.cps[j]?=some d/\c=⟨#[d]⟩)->R (.ok (.ret .none)) s') ->
   qKr (model prog w) A (.builtin "set.update.loop" ⟨[.ref S,.ref I],[]⟩) R s:=by
 have hSw:S∉wr:=fun h=>hSf (W.sub _ h)
 have hsub:∀b∈wr,b∈S::wr:=fun b hb=>qAz _ hb
 intro k;induction k with
 |zero=>
  intro i s ks hk hi hst hS hkl hks hR;have hin:i=z.cps.size:=by lia
  subst hin;refine codeAny_builtin qDf ?_;rw[qJn qCe _];show wpAny _ A.in1 (pyNext (.ref I) >>= _) _ _ s;refine wpAny_bind (W.done s _ _ hst fun s' hm=>?_);show wpAny _ A.in1 (ret qJi) _ _ s';exact wpAny_pure (hR s' ks (hm.mono hsub) (hS.at fun o ho=>hm.heap S o hSw ho) hks)
 |succ k ih=>
  intro i s ks hk hi hst hS hkl hks hR;have hlt:i<z.cps.size:=by lia
  refine codeAny_builtin qDf ?_;rw[qJn qCe _];show wpAny _ A.in1 (pyNext (.ref I) >>= _) _ _ s;refine wpAny_bind (W.item i s _ _ hlt hst fun v s' hP hst' hm=>?_);obtain⟨c,u,hc,rfl⟩:=hP;have hS':SetZ prog w s'.heap S led ks:=hS.at fun o ho=>hm.heap S o hSw ho
  show wpAny _ A.in1 (holding [qL1 ⟨#[c]⟩ u] (setAdd S (.str ⟨#[c]⟩ u)) >>= _) _ _ s';refine wpAny_bind (wpAny_holding ?_);unfold setAdd;refine wpAny_holding ?_;refine wpAny_bind ((strKind prog w).pyHash (k:=⟨#[c]⟩) (strKind_is prog w _ _) ?_);refine zVN (s:={ s' with toks:=s'.toks+1 }) hS' (by lia) fun h' ks' b hsb hS2 hin hout=>?_
  have hmem:∀x,x∈ks'↔∃j d,j<i+1/\z.cps[j]?=some d/\x=⟨#[d]⟩:=by
   intro x;have step:x∈ks'↔x∈ks\/x=⟨#[c]⟩:=by
    by_cases h:(⟨#[c]⟩:Str)∈ks
    ·rw[hin h];exact⟨.inl,fun z=>z.elim id fun e=>e▸h⟩
    ·rw[(hout h).mem_iff,qAr,qAu]
   rw[step,hks];constructor
   ·rintro(⟨j,d,hj,e1,e2⟩|rfl)
    ·exact⟨j,d,by lia,e1,e2⟩
    ·exact⟨i,c,by lia,hc,rfl⟩
   ·rintro⟨j,d,hj,e1,e2⟩
    by_cases hji:j=i
    ·subst hji;rw[hc]at e1;cases e1;exact .inr e2
    ·exact .inl ⟨j,d,by lia,e1,e2⟩
  have hlen:ks'.length<=i+1:=by
   by_cases h:(⟨#[c]⟩:Str)∈ks
   ·rw[hin h];lia
   ·rw[(hout h).length_eq,qAo];simp;lia
  refine wpAny_pure ⟨qKn qCe _,ih (i+1) _ ks' (by lia) hlt (W.frame _ s' _ _ hst' (qC8 _) fun b hb o e=>?_) hS2 hlen hmem fun s'' ks'' hm'' hS'' hk''=>?_⟩
  ·rw[hsb.2 b (fun h:b=S=>hSf (by rw[<- h];exact hb))];exact e
  ·refine hR s'' ks'' (Moved.trans W.gtrans ((hm.mono hsub).then_heap (qC8 _) fun b o hb e=>?_) hm'') hS'' hk'';rw[hsb.2 b (fun h:b=S=>hb (by rw[h];exact qB4))];exact e
end
end L2
namespace L3
open PySem PySem.Spec
open L2 hiding Rep RepL
open Mi (Dt Xn R okR zA3 optR zA0 zA9 zAC zA8 zAB Rh Sl Ro EM TM AM FM IM SM OM Tg Out zAV zAO zB0 full frz frz1 frzAt)
section
variable[Kc]{n:Nat}
def zVS:RMt zY8 Mi.rfindD n:=zRW (fun z=>zKB rfl (fun d h=>by cases d<;>first|rfl|exact absurd rfl (h _)) (fun d e r=>by cases d<;>rfl) rfl fun a b r=>rfl) fun mg E G H z c Q s p=>by
 show Q (.int (qNe z ⟨#[c]⟩)) H;rw[zWT];exact PostE.val p (Ext.refl s) rfl rfl
end
end L3
namespace PySem
open PyProof.Rows
def zJX{prog:qJ8}{w:World}{A:qJb}{E:Value->qJ5->Prop}{s:qJ5}(a:Value){Q₁:Value->qJ5->Prop}
  (h:Q₁ (.ref s.heap.objs.size) { s with heap:=s.heap.push { cls:=.type "set",dict:=none,data:=.set #[] 0 (.fresh 0 0 (!w.params.followText "set-order")) } }) :
  qKr (model prog w) A (.call (.builtin "set.__new__") ⟨[.type "set",a],[]⟩) (wants Q₁ E) s:=by
 refine codeAny_of_tree ?_;show wpAny _ A.in1 (do checkBuiltinCall "set.__new__" ⟨[.type "set",a],[]⟩;again (.builtin "set.__new__" ⟨[.type "set",a],[]⟩)) _ _ s;refine wpAny_bind (wpAny_of_eq (F.newCall_set_1 a) (wpAny_pure ⟨qKn qMw _,codeAny_builtin F.entry_set_new ?_⟩));rw[qJn qMw _];unfold qKf.«set.__new__» qMy;have hsub:=sub_set_self;obtain⟨hp,g,d,tk,os⟩:=s;dsimp only
 wp_walk
 refine wpAny_askSetting (wpAny_pure ?_);dsimp only;simp only[newObj];refine wpAny_bind (wpAny_alloc (wpAny_pure ?_));exact wpAny_pure h
def zLU:isSubtype (.type "str") (.type "set")=pure false:=by rw[qKv];kernel_rfl
def zJW:isSubtype (.type "str") (.type "frozenset")=pure false:=by rw[qKv];kernel_rfl
set_option maxHeartbeats 3200000 in
def zJY{prog:qJ8}{w:World}{A:qJb}{E:Value->qJ5->Prop}{s:qJ5}{z:Str}{t:Tok}{Q:Value->qJ5->Prop}
  (hh:A.handled=none) (hb:z.cps.size+1<scanBound)
  (h:∀(h':Heap)(tk:Nat)(ks:List Str),L2.SetZ prog w h' s.heap.objs.size (!w.params.followText "set-order") ks->(∀c,c∈ks↔∃j d,j<z.cps.size/\z.cps[j]?=some d/\c=⟨#[d]⟩) ->
   (∀b o,b<s.heap.objs.size->s.heap.get? b=some o->h'.get? b=some o)->s.heap.objs.size<h'.objs.size->Q (.ref s.heap.objs.size) { s with heap:=h',toks:=tk }) :
  wpAny (model prog w) A (call (.type "set") [.str z t]) Q E s:=by
 obtain⟨c,tl,hmro⟩:=qK7.mro;have hmade:=qK7.made;have hsub:=qK7.sub;refine wpAny_call (codeAny_of_tree ?_);show wpAny _ _ (callAny (.type "set") _) _ _ _;refine wpAny_pure ⟨qK4 _ (by decide +kernel),codeAny_builtin F.entry_type_call ?_⟩;rw[Around.under_plain (weight_type_call_type "set" [.str z t] []) rfl];have h1:=qK7.notType;have h2:=qK7.canCreate;have hct:=F.typeCall_set_1 (.str z t)
 repeat (any_goals (first|assumption|wp_step))
 refine codeAny_mono (zJX (.str z t) (E:=E) (Q₁:=fun obj s₁=>obj=.ref s.heap.objs.size/\s₁={ s with heap:=s.heap.push { cls:=.type "set",dict:=none,data:=.set #[] 0 (.fresh 0 0 (!w.params.followText "set-order")) } }) ⟨rfl,rfl⟩) fun r s₁ hr=>?_
 generalize(!w.params.followText "set-order")=led at hr h;cases r with
 |error e=>exact hr
 |ok fl=>
  cases fl with
  |ret obj=>
   obtain⟨rfl,rfl⟩:=hr;have hS:(s.heap.push { cls:=.type "set",dict:=none,data:=.set #[] 0 (.fresh 0 0 led) }).get? s.heap.objs.size=some { cls:=.type "set",dict:=none,data:=.set #[] 0 (.fresh 0 0 led) }:=qJ7 _ rfl;have hT:Shared.TypeIs { s with heap:=s.heap.push { cls:=.type "set",dict:=none,data:=.set #[] 0 (.fresh 0 0 led) } } (.ref s.heap.objs.size) "set":=⟨_,hS,rfl⟩
   have hli:=qK7.init.lookup;have hbi:=qK7.init.bind (.ref s.heap.objs.size)
   repeat (any_goals (first|assumption|wp_step))
   refine codeAny_mono (codeAny_call_builtin (R:=wants (fun r s₂=>r=.none/\∃h' tk ks,s₂={ s with heap:=h',toks:=tk }/\L2.SetZ prog w h' s.heap.objs.size led ks/\(∀c,c∈ks↔∃j d,j<z.cps.size/\z.cps[j]?=some d/\c=⟨#[d]⟩) /\
     (∀b o,b<s.heap.objs.size->s.heap.get? b=some o->h'.get? b=some o)) E) qK7.init.plain F.entry_set_init (check_set_init_1 hT ?_)) fun r₂ s₂ hr₂=>?_
   ·have hsls:=zLU;have hslf:=zJW;have hne:(qKi "str" == qKi "dict")=false:=by decide
    unfold qKf.«set.__init__» noKeywords qMn;generalize hPI:pyIter=PI
    wp_walk
    subst hPI;refine wpAny_pyIter_str fun o St W hst=>?_
    refine wpAny_bind (wpAny_runValue ?_);have hh3:A.in1.in1.in1.handled=none:=by simp[hh]
    have hSf:s.heap.objs.size∉[(s.heap.push { cls:=.type "set",dict:=none,data:=.set #[] 0 (.fresh 0 0 led) }).objs.size]:=by
     rw[qJj];simp only[qAc,qBm,or_false];exact qAl (qC9 _)
    refine L2.loopZ (led:=led) (W _ hh3).toS s.heap.objs.size hSf hb (z.cps.size-0) 0 _ [] (by lia) (qAn _) hst ?hS0 (qAa _) (fun c=>⟨fun z=>by simp at z,fun⟨j,d,hj,_⟩=>by lia⟩) ?hR
    case hS0=>
     exact⟨_,#[],0,_,qJ4 _ hS,⟨rfl,rfl,rfl⟩,rfl,fun e he=>by simp at he,rfl,.nil,by decide,rfl,rfl,fun z=>by simp at z⟩
    case hR=>
     intro s' ks hm hS' hk;obtain⟨h',g',d',tk',os'⟩:=s';have eg:g'=s.gens:=hm.gens;have ed:d'=s.drawn:=hm.drawn;have eo:os'=s.os:=hm.os;subst eg;subst ed;subst eo;show wpAny _ _ _ _ _ _;refine wpAny_pure ?_;show wpAny _ _ (ret qJi) _ _ _;refine wpAny_pure ⟨rfl,h',tk',ks,rfl,hS',hk,fun b o hb e=>?_⟩;have hb1:b≠s.heap.objs.size:=qAl hb;have hb2:b≠(s.heap.push { cls:=.type "set",dict:=none,data:=.set #[] 0 (.fresh 0 0 led) }).objs.size:=by
      rw[qJj];exact qAl (qBn hb)
     exact hm.heap b o (by simp only[qAc,qBm,or_false,not_or];exact⟨hb1,hb2⟩) (qJ4 _ (qJ4 _ e))
   ·cases r₂ with
    |error e=>exact hr₂
    |ok fl₂=>
     cases fl₂ with
     |ret r=>
      obtain⟨rfl,h',tk,ks,rfl,hS',hk,hk'⟩:=hr₂
      repeat (any_goals (first|assumption|wp_step))
      exact h _ _ ks hS' hk hk' (by obtain⟨o,_,_,_,ho,_⟩:=hS';exact qJ6 ho)
     |_=>exact hr₂.elim
  |_=>exact hr.elim
end PySem
namespace Mp
open Mi PySem
end Mp
namespace L2
open PySem PySem.Spec PyProof.Rows
def slot_si_next:Slot "set_iterator" "__next__" "set_iterator.__next__":=
 .of (owner:="set_iterator") (n:="__next__") (by rw[qL4,qK8];kernel_rfl) (by decide +kernel) (by decide +kernel) (by decide +kernel)
  (by first|exact .inl (by decide +kernel)|exact .inr (by decide +kernel)) (by rw[qKv];kernel_rfl)
def zGE:Slot "set_iterator" "__iter__" "set_iterator.__iter__":=
 .of (owner:="set_iterator") (n:="__iter__") (by rw[qL4,qK8];kernel_rfl) (by decide +kernel) (by decide +kernel) (by decide +kernel)
  (by first|exact .inl (by decide +kernel)|exact .inr (by decide +kernel)) (by rw[qKv];kernel_rfl)
def zCJ:qN8 table "set_iterator.__next__" = some qKf.«set_iterator.__next__»:=entryFor_of_fast (by kernel_rfl)
def zKY:qN8 table "set_iterator.__iter__" = some qKf.«dict_keyiterator.__iter__»:=entryFor_alias (id':="dict_keyiterator.__iter__") (by kernel_rfl) rfl (by decide +kernel) (by kernel_rfl)
def zIE:qN8 table "set.__iter__" = some qKf.«frozenset.__iter__»:=entryFor_alias (id':="frozenset.__iter__") (by kernel_rfl) rfl (by decide +kernel) (by kernel_rfl)
def zD1(a:Value):argsOk "set_iterator.__next__" ⟨[a],[]⟩:=by unfold argsOk;kernel_rfl
def zND(a:Value):argsOk "set_iterator.__iter__" ⟨[a],[]⟩:=by unfold argsOk;kernel_rfl
def IsSI(h:Heap)(it:Addr)(vs:Array Value):Prop:=∃o,h.get? it=some o/\o.cls=.type "set_iterator"/\o.data=.fields vs
section
variable{prog:qJ8}{w:World}{A:qJb}{E:Value->qJ5->Prop}{s:qJ5}
def zRP{it:Addr}{vs:Array Value}{Q:Value->qJ5->Prop}(hit:IsSI s.heap it vs)(h:Q (.ref it) s):wpAny (model prog w) A (pyIter (.ref it)) Q E s:=by
 obtain⟨o,ho,hc,hd⟩:=hit;have hT:s.TypeIs (.ref it) "set_iterator":=⟨o,ho,hc⟩;refine qMb hT zGE (wpAny_call_entry zGE hT zKY ?_ (zND _));show wpAny _ _ (ret (.ref it)) _ _ s;exact wpAny_pure ⟨_,rfl,"set_iterator",_,hT,slot_si_next.lookup,h⟩
def zRO{P:Fin->qJ5->Prop}{E':Value->qJ5->Prop}(hh:A.handled=none)(h:∀x h',qLu s.heap.objs.size s.heap h'->(∀b o,s.heap.get? b=some o->h'.get? b=some o)->(∃ox,h'.get? x=some ox/\ox.cls=.type "StopIteration")->E' (.ref x) { s with heap:=h' }) :
  wpAny (model prog w) A (newExc (.type "StopIteration") [] >>= fun x=>(raiseNew x:Sem Fin)) P E' s:=by
 refine wpAny_bind ?_;simp only[newExc,newTuple];refine wpAny_bind (wpAny_newObj_type ?_ (by size_fits));refine wpAny_bind (m:=firstArgMember _ _) (wpAny_of_eq (a:=qJi) (by first|rfl|(simp only[firstArgMember];rfl)) ?_);refine wpAny_newObj_type ?_ (by size_fits);simp only[raiseNew];refine wpAny_bind (wpAny_handled ?_);rw[hh];refine wpAny_bind (wpAny_pure (wpAny_throw ?_));exact h _ _ (fun b o hb e=>qJ4 _ (qJ4 _ e)) (fun b o e=>qJ4 _ (qJ4 _ e)) ⟨_,qJ7 _ rfl,rfl⟩
def zLQ{it a:Addr}{es:Array (Int×Value)}{ep:Nat}{tb:qKu}{os:Obj}{sl i nx:Nat}{x:Value}{Q:Option Value->qJ5->Prop}(hne:a≠it)
  (hit:IsSI s.heap it #[.int sl 0,.int i 0,.ref a,.int es.size 0,.int ep 0]) (ho:s.heap.get? a=some os) (hd:os.data=.set es ep tb) (hf:tb.fits es.size=true)
  (hN:∀(s:qJ5)(Q:Option (Value×Nat)->qJ5->Prop)(A:qJb)(E:Value->qJ5->Prop),s.heap.get? a=some os->Q (some (x,nx)) s->wpAny (model prog w) A (setNext a sl i ep) Q E s)
  (hQ:∀h',IsSI h' it #[.int nx 0,.int (i+1:Nat) 0,.ref a,.int es.size 0,.int ep 0]->qKw it s.heap h'->Q (some x) { s with heap:=h' }) :
  wpAny (model prog w) A (pyNext (.ref it)) Q E s:=by
 obtain⟨o,hoi,hc,hdi⟩:=hit;have hT:s.TypeIs (.ref it) "set_iterator":=⟨o,hoi,hc⟩;unfold pyNext;refine wpAny_bind (wpAny_attempt (wpAny_callSpecial?_slot (name:=qJm "__next__") hT slot_si_next (wpAny_call_entry slot_si_next hT zCJ ?_ (zD1 _))));unfold qKf.«set_iterator.__next__»;refine wpAny_bind (m:=qN9 "__next__" 0 _) (wpAny_pure ?_);refine wpAny_bind (wpAny_fieldsOf hoi hdi ?_);dsimp only;refine wpAny_bind (wpAny_setEntries_of ho hd hf ?_);rw[if_neg (by simp)];refine wpAny_bind (hN _ _ _ _ ho ?_);dsimp only;refine wpAny_bind (wpAny_setField hoi hdi (by simp) ?_);have e1:=qJ9 (qJh (·.setIfInBounds 0 (rawInt (nx:Nat)))) hoi (qJl (qJe hdi _));refine wpAny_bind (wpAny_setField e1 (qJe hdi _) (by simp) ?_);have e2:=qJ9 (qJh (·.setIfInBounds 1 (rawInt ((i:Int)+1)))) e1 (qJl (qJe (qJe hdi _) _));refine wpAny_pure ⟨x,rfl,wpAny_pure (hQ _ ⟨_,e2,?_,?_⟩ ((qJz ..).trans (qJz ..)))⟩
 ·rw[qKs,qKs,hc]
 ·rw[qJe (qJe hdi _)];simp[rawInt]
def zNQ{it a:Addr}{es:Array (Int×Value)}{ep:Nat}{tb:qKu}{os:Obj}{sl i:Nat}{Q:Option Value->qJ5->Prop}(hh:A.handled=none)(hne:a≠it)
  (hit:IsSI s.heap it #[.int sl 0,.int i 0,.ref a,.int es.size 0,.int ep 0]) (ho:s.heap.get? a=some os) (hd:os.data=.set es ep tb) (hf:tb.fits es.size=true)
  (hN:∀(s:qJ5)(Q:Option (Value×Nat)->qJ5->Prop)(A:qJb)(E:Value->qJ5->Prop),s.heap.get? a=some os->Q none s->wpAny (model prog w) A (setNext a sl i ep) Q E s)
  (hQ:∀h',qLu it s.heap h'->Q none { s with heap:=h' }) :
  wpAny (model prog w) A (pyNext (.ref it)) Q E s:=by
 obtain⟨o,hoi,hc,hdi⟩:=hit;have hT:s.TypeIs (.ref it) "set_iterator":=⟨o,hoi,hc⟩;unfold pyNext;refine wpAny_bind (wpAny_attempt (wpAny_callSpecial?_slot (name:=qJm "__next__") hT slot_si_next (wpAny_call_entry slot_si_next hT zCJ ?_ (zD1 _))));unfold qKf.«set_iterator.__next__»;refine wpAny_bind (m:=qN9 "__next__" 0 _) (wpAny_pure ?_);refine wpAny_bind (wpAny_fieldsOf hoi hdi ?_);dsimp only;refine wpAny_bind (wpAny_setEntries_of ho hd hf ?_);rw[if_neg (by simp)];refine wpAny_bind (hN _ _ _ _ ho ?_);dsimp only;refine wpAny_bind (wpAny_setField hoi hdi (by simp) ?_);refine zRO hh fun x h' _ hk hx=>?_
 obtain⟨ox,hox,hcx⟩:=hx;refine wpAny_bind (wpAny_isInstance (T:="StopIteration") (b:=true) ⟨ox,hox,hcx⟩ isSubtype_stop ?_);exact wpAny_pure (hQ _ fun b o' hb e=>hk b o' ((qJa _ _ (qCv hb)).trans e))
def zLR{it a T:Addr}{es:Array (Int×Value)}{ep:Nat}{tb:qKu}{os:Obj}{i p:Nat}{t0:Tok}{h0:Int}{x:Value}{ps:Array Value}{Q:Option Value->qJ5->Prop}(hne:a≠it)
  (hit:IsSI s.heap it #[.ref T,.int i 0,.ref a,.int es.size 0,.int ep 0]) (ho:s.heap.get? a=some os) (hd:os.data=.set es ep tb) (hf:tb.fits es.size=true)
  (hT0:∃oT n,s.heap.get? T=some oT/\oT.data=.seq ps n) (hp:ps[i]?=some (.int p t0)) (hx:es[p]?=some (h0,x))
  (hQ:∀h',IsSI h' it #[.ref T,.int (i+1:Nat) 0,.ref a,.int es.size 0,.int ep 0]->qKw it s.heap h'->Q (some x) { s with heap:=h' }) :
  wpAny (model prog w) A (pyNext (.ref it)) Q E s:=by
 obtain⟨o,hoi,hc,hdi⟩:=hit;obtain⟨oT,nT,hoT,hdT⟩:=hT0;have hT:s.TypeIs (.ref it) "set_iterator":=⟨o,hoi,hc⟩;unfold pyNext;refine wpAny_bind (wpAny_attempt (wpAny_callSpecial?_slot (name:=qJm "__next__") hT slot_si_next (wpAny_call_entry slot_si_next hT zCJ ?_ (zD1 _))));unfold qKf.«set_iterator.__next__»;refine wpAny_bind (m:=qN9 "__next__" 0 _) (wpAny_pure ?_);refine wpAny_bind (wpAny_fieldsOf hoi hdi ?_);dsimp only;refine wpAny_bind (wpAny_setEntries_of ho hd hf ?_);rw[if_neg (by simp)];refine wpAny_bind (wpAny_seqItems hoT hdT ?_);dsimp only;simp only[qBd,hp];refine wpAny_bind ?_;unfold setNextDrawn;refine wpAny_bind (wpAny_setState_of ho hd hf ?_);dsimp only;rw[if_neg (by simp)];simp only[qBd,hx];refine wpAny_pure ?_;refine wpAny_bind (wpAny_setField hoi hdi (by simp) ?_);have e1:=qJ9 (qJh (·.setIfInBounds 1 (rawInt ((i:Int)+1)))) hoi (qJl (qJe hdi _));refine wpAny_pure ⟨x,rfl,wpAny_pure (hQ _ ⟨_,e1,?_,?_⟩ (qJz ..))⟩
 ·rw[qKs,hc]
 ·rw[qJe hdi];simp[rawInt]
def zNR{it a T:Addr}{es:Array (Int×Value)}{ep:Nat}{tb:qKu}{os:Obj}{i:Nat}{ps:Array Value}{Q:Option Value->qJ5->Prop}(hh:A.handled=none)(hne:a≠it)
  (hit:IsSI s.heap it #[.ref T,.int i 0,.ref a,.int es.size 0,.int ep 0]) (ho:s.heap.get? a=some os) (hd:os.data=.set es ep tb) (hf:tb.fits es.size=true)
  (hT0:∃oT n,s.heap.get? T=some oT/\oT.data=.seq ps n) (hp:ps[i]?=none)
  (hQ:∀h',qLu it s.heap h'->Q none { s with heap:=h' }) :
  wpAny (model prog w) A (pyNext (.ref it)) Q E s:=by
 obtain⟨o,hoi,hc,hdi⟩:=hit;obtain⟨oT,nT,hoT,hdT⟩:=hT0;have hT:s.TypeIs (.ref it) "set_iterator":=⟨o,hoi,hc⟩;unfold pyNext;refine wpAny_bind (wpAny_attempt (wpAny_callSpecial?_slot (name:=qJm "__next__") hT slot_si_next (wpAny_call_entry slot_si_next hT zCJ ?_ (zD1 _))));unfold qKf.«set_iterator.__next__»;refine wpAny_bind (m:=qN9 "__next__" 0 _) (wpAny_pure ?_);refine wpAny_bind (wpAny_fieldsOf hoi hdi ?_);dsimp only;refine wpAny_bind (wpAny_setEntries_of ho hd hf ?_);rw[if_neg (by simp)];refine wpAny_bind (wpAny_seqItems hoT hdT ?_);dsimp only;simp only[qBd,hp];refine wpAny_bind (wpAny_setField hoi hdi (by simp) ?_);have e1:=qJ9 (qJh (·.setIfInBounds 0 (rawInt 0))) hoi (qJl (qJe hdi _));refine wpAny_bind (wpAny_setField e1 (qJe hdi _) (by simp) ?_);refine zRO hh fun x h' _ hk hx=>?_
 obtain⟨ox,hox,hcx⟩:=hx;refine wpAny_bind (wpAny_isInstance (T:="StopIteration") (b:=true) ⟨ox,hox,hcx⟩ isSubtype_stop ?_);exact wpAny_pure (hQ _ fun b o' hb e=>hk b o' ((qJa _ _ (qCv hb)).trans ((qJa _ _ (qCv hb)).trans e)))
def zLF(hh:A.handled=none){it a:Addr}(hne:a≠it){es:Array (Int×Value)}{ep:Nat}{tb:qKu}{os:Obj}(hd:os.data=.set es ep tb)(hf:tb.fits es.size=true)(vs:Nat->Value)(sl:Nat->Nat)
  (hN:∀i,i<es.size->∀(s:qJ5)(Q:Option (Value×Nat)->qJ5->Prop)(A:qJb)(E:Value->qJ5->Prop),s.heap.get? a=some os->Q (some (vs i,sl (i+1))) s->wpAny (model prog w) A (setNext a (sl i) i ep) Q E s)
  (hE:∀(s:qJ5)(Q:Option (Value×Nat)->qJ5->Prop)(A:qJb)(E:Value->qJ5->Prop),s.heap.get? a=some os->Q none s->wpAny (model prog w) A (setNext a (sl es.size) es.size ep) Q E s) :
  Walks prog w A it [it,a] [it] es.size (fun i v=>v=vs i) (fun i h=>IsSI h it #[.int (sl i) 0,.int i 0,.ref a,.int es.size 0,.int ep 0]/\h.get? a=some os) where
 sub:=fun b hb=>by simp at hb;simp[hb]
 frame:=fun i h h' st hk=>⟨let⟨o,ho,r⟩:=st.1;⟨o,hk it (by simp) o ho,r⟩,hk a (by simp) _ st.2⟩
 item:=fun i s Q E hi st hQ=>by
  have hs:s={ s with toks:=s.toks }:=by cases s;rfl
  refine zLQ hne st.1 st.2 hd hf (hN i hi) fun h' hit' hs'=>?_
  exact hQ _ h' s.toks rfl ⟨hit',(hs'.2 a hne).trans st.2⟩ fun b o hb e=>(hs'.2 b fun z=>hb (by simp[z])).trans e
 done:=fun s Q E st hQ=>by
  refine zNQ hh hne st.1 st.2 hd hf hE fun h' he'=>?_
  exact hQ h' s.toks fun b o hb e=>he' b o (fun z=>hb (by simp[z])) e
 self:=fun i s Q E st hQ=>zRP st.1 hQ
def zRB(hh:A.handled=none){it a T:Addr}(hne:a≠it)(hTi:T≠it){es:Array (Int×Value)}{ep:Nat}{tb:qKu}{os oT:Obj}{nT:Nat}(hd:os.data=.set es ep tb)(hf:tb.fits es.size=true)(ps:List Nat)(hps:ps.length=es.size)(hlt:∀p∈ps,p<es.size)(hdT:oT.data=.seq (ps.map fun p:Nat=>rawInt (p:Int)).toArray nT) :
  Walks prog w A it [it,a,T] [it] es.size (fun i v=>∃p h0,ps[i]?=some p/\es[p]?=some (h0,v)) (fun i h=>IsSI h it #[.ref T,.int i 0,.ref a,.int es.size 0,.int ep 0]/\h.get? a=some os/\h.get? T=some oT) where
 sub:=fun b hb=>by simp at hb;simp[hb]
 frame:=fun i h h' st hk=>⟨let⟨o,ho,r⟩:=st.1;⟨o,hk it (by simp) o ho,r⟩,hk a (by simp) _ st.2.1,hk T (by simp) _ st.2.2⟩
 item:=fun i s Q E hi st hQ=>by
  have hpi:ps[i]?=some ps[i]:=qA1 (by lia);have hpl:ps[i]<es.size:=hlt _ (qCb _);have hx:es[ps[i]]?=some (es[ps[i]].1,es[ps[i]].2):=by simp[hpl]
  refine zLR (p:=ps[i]) (t0:=0) hne st.1 st.2.1 hd hf ⟨oT,nT,st.2.2,hdT⟩ (by rw[List.getElem?_toArray,qAb,hpi];rfl) hx fun h' hit' hs'=>?_
  exact hQ _ h' s.toks ⟨_,_,hpi,hx⟩ ⟨hit',(hs'.2 a hne).trans st.2.1,(hs'.2 T hTi).trans st.2.2⟩ fun b o hb e=>(hs'.2 b fun z=>hb (by simp[z])).trans e
 done:=fun s Q E st hQ=>by
  refine zNR hh hne st.1 st.2.1 hd hf ⟨oT,nT,st.2.2,hdT⟩ (by simp[hps]) fun h' he'=>?_
  exact hQ h' s.toks fun b o hb e=>he' b o (fun z=>hb (by simp[z])) e
 self:=fun i s Q E st hQ=>zRP st.1 hQ
def zG4{α:Type}:∀(l:List α){i:Nat}(h:i<l.length),(l[i]::l.eraseIdx i).Perm l
 |a::r,0,h=>by simp
 |a::r,i+1,h=>by
  have:=zG4 r (i:=i) (by simpa using h)
  simp only[qDz,qBw];exact(qEx _ _ _).trans (this.cons a)
def zJL{α:Type}:∀(n:Nat)(xs:List α)(s:qJ5)(Q:List α->qJ5->Prop),xs.length=n->(∀ys d,ys.Perm xs->Q ys { s with drawn:=d })->wpAny (model prog w) A (drawOrder n xs) Q E s
 |0,xs,s,Q,hl,h=>by
  have e:xs=[]:=qDq.mp hl;subst e;unfold drawOrder;have:=h [] s.drawn (qE7 _);exact wpAny_pure this
 |n+1,[],s,Q,hl,h=>by simp at hl
 |n+1,x::xs,s,Q,hl,h=>by
  unfold drawOrder;refine wpAny_bind (zJT (by simp) fun i d hi=>?_);have hget:(x::xs)[i]?=some ((x::xs)[i]'hi):=qA1 hi;rw[hget];dsimp only;refine wpAny_bind (zJL n _ _ _ (by rw[qC0 hi];simp at hl ⊢;lia) fun ys d' hp=>wpAny_pure ?_);exact h _ d' ((hp.cons _).trans (zG4 _ hi))
def zSA{α:Type}(next:Nat->Nat):∀(fuel k:Nat)(left:List α)(out:Array α),left.length=fuel->(qMj next fuel k left out).toList.Perm (out.toList++left)
 |0,k,left,out,hl=>by
  have e:left=[]:=qDq.mp hl;subst e;simp[qMj]
 |fuel+1,k,left,out,hl=>by
  unfold qMj;have hi:next k%left.length<left.length:=qC7 _ (by lia)
  have hget:left[next k%left.length]?=some (left[next k%left.length]'hi):=qA1 hi;rw[hget];dsimp only;refine(zSA next fuel (k+1) _ _ (by rw[qC0 hi];lia)).trans ?_;rw[qGz,qC2];exact qD7 _ (zG4 left hi)
def zHL(next:Nat->Nat){α:Type}(xs:Array α):(pickOrder next xs).toList.Perm xs.toList:=by
 have:=zSA next xs.size 0 xs.toList #[] (by simp)
 unfold pickOrder;simpa using this
def zF7{es:List (Int×Value)}(h:qN7 (strKind prog w) es):qL3 (es.map (·.2)) (es.map fun e=>strOf e.2):=by
 induction es with
 |nil=>exact .nil
 |cons e r ih=>
  obtain⟨k,t,e1⟩:=zKZ h (qB4 ..);have:=ih h.tail;rw[qAd,qAd,e1];exact .cons k t this
def zQ8{vs:List Value}{zs:List Str}{acc:Array Value}{n:Nat}{P:Nat->Value->Prop}(hi:ItemsOf P acc n)(hn:vs.length=n)(hP:∀i v,i<n->P i v->vs[i]?=some v)(hz:qL3 vs zs):qL3 acc.toList zs:=by
 have:acc.toList=vs:=by
  refine qF2 fun i=>?_
  by_cases h:i<n
  ·have hs:i<acc.size:=by rw[hi.1];exact h
   have h1:acc[i]?=some acc[i]:=by simp[hs]
   rw[qBg,h1,hP i _ h (hi.2 i _ h1)]
  ·rw[qEa (by simp[hi.1];lia),qEa (by lia)]
 rw[this];exact hz
def zTK{a:Addr}{ks:List Str}(hS:SetZ prog w s.heap a (!w.params.followText "set-order") ks)(hk:ks≠[]){Q:Value->qJ5->Prop}
  (hQ:∀(it:Addr)(h2:Heap)(d2:Drawn)(fp:List Addr)(St:Nat->Heap->Prop)(P:Nat->Value->Prop)(vs:List Value)(zs:List Str),(∀A':qJb,A'.handled=none->Walks prog w A' it fp [it] ks.length P St)->(∀i v,i<ks.length->P i v->vs[i]?=some v)->vs.length=ks.length->qL3 vs zs->zs.Perm ks ->
   St 0 h2->(∀b∈fp,b<h2.objs.size)->(∀b∈fp,b=a\/s.heap.objs.size<=b)->s.heap.objs.size<=it->(∀b o,s.heap.get? b=some o->h2.get? b=some o)->Q (.ref it) { s with heap:=h2,drawn:=d2 }) :
  wpAny (model prog w) A (pyIter (.ref a)) Q E s:=by
 obtain⟨o,es,ep,t,ho,hex,hd,hel,hks,hnd,hb,hf,hled,hpl⟩:=hS;have hn:es.size=ks.length:=by rw[<- hks,qAe,qB9]
 have hn1:0<es.size:=by rw[hn];exact List.length_pos_iff.mpr hk
 have hpl:=hpl hn1;have hT:s.TypeIs (.ref a) "set":=⟨o,ho,hex.1⟩;have hlt:a<s.heap.objs.size:=qJ6 ho;refine qMb hT qFz (wpAny_call_entry qFz hT zIE ?_ (PySem.F.args_set_iter_1 _));unfold qKf.«frozenset.__iter__»;refine wpAny_bind (m:=qNa "__iter__" _) (wpAny_pure ?_);refine wpAny_bind (m:=qN3 a) (wpAny_bind (wpAny_setEntries_of ho hd hf (wpAny_pure ?_)));refine wpAny_bind (m:=setDrawn a) ?_;unfold setDrawn;refine wpAny_bind (wpAny_setState_of ho hd hf ?_);dsimp only;unfold qMc;refine wpAny_bind (wpAny_bind (wpAny_askSetting (wpAny_pure ?_)));refine wpAny_pure ?_;show wpAny _ _ (if(!w.params.followText "set-order" && (!t.plain&&decide (es.size>1)))=true then _ else _) _ _ _;rw[hpl];have ne1:a≠s.heap.objs.size:=qAl hlt;rw[<- hn]at hQ;cases hbt:w.params.followText "set-order" with
 |true=>
  rw[if_neg (by simp)];refine wpAny_bind (wpAny_pure ?_);refine wpAny_bind (wpAny_setEpoch_of ho hd hf ?_);refine wpAny_bind (wpAny_newObj_type (wpAny_pure ⟨_,rfl,"set_iterator",_,⟨_,qJ7 _ rfl,rfl⟩,slot_si_next.lookup,?_⟩));have hpk:=zHL (w.params.setOrder a ep) es;have hpl':(pickOrder (w.params.setOrder a ep) es).size=es.size:=by rw[<- qB9,hpk.length_eq,qB9]
  generalize hpo:pickOrder (w.params.setOrder a ep) es=pk at hpk hpl';have hnext:∀(i:Nat)(s:qJ5)(Q:Option (Value×Nat)->qJ5->Prop)(A:qJb)(E:Value->qJ5->Prop),s.heap.get? a=some o->Q ((pk[i]?).map fun e=>(e.2,0)) s->wpAny (model prog w) A (setNext a 0 i ep) Q E s:=by
   intro i s Q A E ho' hq;unfold setNext;refine wpAny_bind (wpAny_setState_of ho' hd hf ?_);dsimp only;unfold qMc;refine wpAny_bind (wpAny_bind (wpAny_askSetting (wpAny_pure ?_)));show wpAny _ _ (if w.params.followText "set-order" = true then _ else _) _ _ _;rw[hbt,if_pos rfl];rw[if_neg (by simp)];refine wpAny_bind ?_;unfold setWalk;refine wpAny_bind (wpAny_setState_of ho' hd hf ?_);dsimp only;unfold qMc;refine wpAny_bind (wpAny_bind (wpAny_askSetting (wpAny_pure ?_)));show wpAny _ _ (if w.params.followText "set-order" = true then _ else _) _ _ _;rw[hbt,if_pos rfl];refine wpAny_bind (wpAny_askSetting ?_);refine wpAny_pure ?_;show wpAny _ _ (pure (((pickOrder (w.params.setOrder a ep) es)[i]?).map fun e=>(e.2,0))) _ _ _;rw[hpo];exact wpAny_pure hq
  refine hQ s.heap.objs.size _ s.drawn [s.heap.objs.size,a] _ _ (pk.toList.map (·.2)) (pk.toList.map fun e=>strOf e.2) (fun A' hA'=>zLF hA' ne1 hd hf (fun i=>((pk[i]?).map (·.2)).getD .none) (fun _=>0) (fun i hi s Q A E ho' hq=>hnext i s Q A E ho' ?_) (fun s Q A E ho' hq=>hnext _ s Q A E ho' ?_)) (fun i v hi hv=>?_) (by rw[qAe,qB9,hpl']) (zF7 (hel.perm hpk)) (by rw[<- hks];exact hpk.map _) ⟨⟨_,qJ7 _ rfl,rfl,rfl⟩,qJ4 _ ho⟩ (fun b hb=>?_) (fun b hb=>by simp only[qAc,qBm,or_false]at hb;rcases hb with rfl|rfl;exact .inr (qAa _);exact .inl rfl) (qAa _) (fun b o e=>qJ4 _ e)
  ·have:pk[i]?=some pk[i]:=by simp[hpl',hi]
   rw[this]at hq ⊢;exact hq
  ·have:pk[es.size]?=none:=by simp[hpl']
   rw[this];exact hq
  ·rw[hv,qAb,qBg]
   have:pk[i]?=some pk[i]:=by simp[hpl',hi]
   rw[this];rfl
  ·show b<(s.heap.push _).objs.size;rw[qJj];simp only[qAc,qBm,or_false]at hb
   rcases hb with rfl|rfl
   ·exact qC9 _
   ·exact qBn hlt
 |false=>
  by_cases h2:1<es.size
  ·rw[if_pos (by simp[h2])];refine wpAny_bind (zJL es.size (qA4 es.size) s _ (by simp) fun ps d hps=>?_);have hpn:ps.length=es.size:=by rw[hps.length_eq,qDa]
   refine wpAny_bind (wpAny_newTuple ?_ (hsz:=by rw[qAe,hpn];exact fits_of_scanBound hb));have ho1:(s.heap.push (seqObj "tuple" (ps.map fun i:Nat=>rawInt (i:Int)).toArray 0)).get? a=some o:=qJ4 _ ho;refine wpAny_bind (wpAny_setEpoch_of (s:={ heap:=s.heap.push (seqObj "tuple" (ps.map fun i:Nat=>rawInt (i:Int)).toArray 0),gens:=s.gens,drawn:=d,toks:=s.toks,os:=s.os }) ho1 hd hf ?_);refine wpAny_bind (wpAny_newObj_type (wpAny_pure ⟨_,rfl,"set_iterator",_,⟨_,qJ7 _ rfl,rfl⟩,slot_si_next.lookup,?_⟩));have hsz:(s.heap.push (seqObj "tuple" (ps.map fun i:Nat=>rawInt (i:Int)).toArray 0)).objs.size=s.heap.objs.size+1:=qJj _ _;have hpl3:∀p∈ps,p<es.size:=fun p hp=>qBf.mp (hps.mem_iff.mp hp)
   have hvs:∀(i:Nat)(v:Value),(∃(p:Nat)(h0:Int),ps[i]?=some p/\es[p]?=some (h0,v))->(ps.map fun p=>((es[p]?).map (·.2)).getD .none)[i]?=some v:=fun i v ⟨p,h0,e1,e2⟩=>by
    rw[qAb,e1];show some (((es[p]?).map (·.2)).getD .none)=_;rw[e2];rfl
   have hall:∀f:Int×Value->Str,((qA4 es.size).map fun p=>((es[p]?).map f).getD ⟨#[]⟩)=es.toList.map f:=fun f=>by
    refine qBb (by simp) fun i h1 h2=>?_
    have hi:i<es.size:=by simpa using h1
    simp[hi]
   have hallv:((qA4 es.size).map fun p=>((es[p]?).map (·.2)).getD qJi)=es.toList.map (·.2):=by
    refine qBb (by simp) fun i h1 h2=>?_
    have hi:i<es.size:=by simpa using h1
    simp[hi]
   have hstr:qL3 (ps.map fun p=>((es[p]?).map (·.2)).getD .none) (ps.map fun p=>((es[p]?).map fun e=>strOf e.2).getD ⟨#[]⟩):=by
    have gen:∀l:List Nat,(∀p∈l,p<es.size)->qL3 (l.map fun p=>((es[p]?).map (·.2)).getD .none) (l.map fun p=>((es[p]?).map fun e=>strOf e.2).getD ⟨#[]⟩):=by
     intro l;induction l with
     |nil=>intro _;exact .nil
     |cons p r ih=>
      intro hl;have hp:=hl p (by simp);have hg:es[p]?=some es[p]:=by simp[hp]
      obtain⟨k,tk,e1⟩:=zKZ hel (e:=es[p]) (by rw[<- Array.getElem_toList];exact qCb _);rw[qAd,qAd,hg];show qL3 (es[p].2::_) (strOf es[p].2::_);rw[e1];exact .cons k tk (ih fun q hq=>hl q (by simp[hq]))
    exact gen ps hpl3
   refine hQ (s.heap.push (seqObj "tuple" (ps.map fun i:Nat=>rawInt (i:Int)).toArray 0)).objs.size _ d [(s.heap.push (seqObj "tuple" (ps.map fun i:Nat=>rawInt (i:Int)).toArray 0)).objs.size,a,s.heap.objs.size] _ _ _ _ (fun A' hA'=>zRB (T:=s.heap.objs.size) (oT:=seqObj "tuple" (ps.map fun i:Nat=>rawInt (i:Int)).toArray 0) hA' (by rw[hsz];exact qAl (qBn hlt)) (by rw[hsz];exact qAl (qC9 _)) hd hf ps hpn hpl3 rfl) (fun i v _ hv=>hvs i v hv) (by rw[qAe,hpn]) hstr ?_ ⟨⟨_,qJ7 _ rfl,rfl,rfl⟩,qJ4 _ ho1,qJ4 _ (qJ7 _ rfl)⟩ (fun b hb=>?_) (fun b hb=>by rw[hsz]at hb;simp only[qAc,qBm,or_false]at hb;rcases hb with rfl|rfl|rfl;exact .inr (qC8 _);exact .inl rfl;exact .inr (qAa _)) (by rw[hsz];exact qC8 _) (fun b o e=>qJ4 _ (qJ4 _ e))
   ·rw[<- hks,<- hall];exact hps.map _
   ·show b<(Heap.push _ _).objs.size;rw[qJj,hsz];rw[hsz]at hb;simp only[qAc,qBm,or_false]at hb
    rcases hb with rfl|rfl|rfl
    ·exact qC9 _
    ·exact qBn (qBn hlt)
    ·exact qBn (qC9 _)
  ·rw[if_neg (by simp[h2])];refine wpAny_bind (wpAny_pure ?_);refine wpAny_bind (wpAny_setEpoch_of ho hd hf ?_);refine wpAny_bind (wpAny_newObj_type (wpAny_pure ⟨_,rfl,"set_iterator",_,⟨_,qJ7 _ rfl,rfl⟩,slot_si_next.lookup,?_⟩));have hs1:es.size=1:=by lia
   have hled':t.led=true:=by rw[hled,hbt];rfl
   have hps1:t.place.size=1:=by
    simp only[SetTable.fits,qBi,beq_iff_eq]at hf;rw[hf.1,hs1]
   obtain⟨es0⟩:=es;obtain⟨e0,rfl⟩:∃e0,es0=[e0]:=qFm.mp (by simpa using hs1);obtain⟨j,hj⟩:∃j,t.place=#[j]:=by
    obtain⟨l⟩:Nonempty Unit:=⟨()⟩;have:t.place.toList.length=1:=by simpa using hps1
    obtain⟨j,e⟩:=qFm.mp this;exact⟨j,Array.ext' e⟩
   have b0:qKe t.place 0=0:=by rw[hj];simp[qKe,qMd]
   have b1:qKe t.place (j+1)=1:=by rw[hj];simp[qKe,qMd]
   have hnext:∀(sl i:Nat)(s:qJ5)(Q:Option (Value×Nat)->qJ5->Prop)(A:qJb)(E:Value->qJ5->Prop),s.heap.get? a=some o->Q (match(#[e0]:Array (Int×Value))[qKe t.place sl]?,t.place[qKe t.place sl]? with|some (_,x),some j=>some (x,j+1)|_,_=>none) s->wpAny (model prog w) A (setNext a sl i ep) Q E s:=by
    intro sl i s Q A E ho' hq;unfold setNext;refine wpAny_bind (wpAny_setState_of ho' hd hf ?_);dsimp only;unfold qMc;refine wpAny_bind (wpAny_bind (wpAny_askSetting (wpAny_pure ?_)));show wpAny _ _ (if w.params.followText "set-order" = true then _ else _) _ _ _;rw[hbt,if_neg (by decide)];show wpAny _ _ (if(!t.plain&&decide ((#[e0]:Array (Int×Value)).size>1))=true then _ else _) _ _ _;rw[if_neg (by simp)];refine wpAny_bind ?_;show wpAny _ _ (if(!t.led && !(#[e0]:Array (Int×Value)).isEmpty)=true then _ else _) _ _ _;rw[hled',if_neg (by simp)];exact wpAny_pure (wpAny_pure hq)
   refine hQ s.heap.objs.size _ s.drawn [s.heap.objs.size,a] _ _ [e0.2] [strOf e0.2] (fun A' hA'=>zLF hA' ne1 hd hf (fun _=>e0.2) (fun i=>if i=0 then 0 else j+1) (fun i hi s Q A E ho' hq=>hnext _ i s Q A E ho' ?_) (fun s Q A E ho' hq=>hnext _ _ s Q A E ho' ?_)) (fun i v hi hv=>?_) rfl ?_ (by rw[<- hks];exact qE7 _) ⟨⟨_,qJ7 _ rfl,rfl,rfl⟩,qJ4 _ ho⟩ (fun b hb=>?_) (fun b hb=>by simp only[qAc,qBm,or_false]at hb;rcases hb with rfl|rfl;exact .inr (qAa _);exact .inl rfl) (qAa _) (fun b o e=>qJ4 _ e)
   ·have hi0:i=0:=by simp at hi;exact hi
    subst hi0;rw[if_pos rfl,b0,hj];simpa using hq
   ·simp only[qAg,qAj,qFr,qC4,Nat.one_ne_zero,if_false,b1]
    simpa using hq
   ·have hi0:i=0:=by simp at hi;exact hi
    subst hi0;rw[hv];rfl
   ·have:=zF7 hel
    simpa using this
   ·show b<(s.heap.push _).objs.size;rw[qJj];simp only[qAc,qBm,or_false]at hb
    rcases hb with rfl|rfl
    ·exact qC9 _
    ·exact qBn hlt
end
def zZU:typeLookup (.type "set") "__len__" = pure (some (.builtin "set.__len__")):=by rw[qL4,qK8];kernel_rfl
section
variable{prog:qJ8}{w:World}{A:qJb}{E:Value->qJ5->Prop}{s:qJ5}
def SetZ.type{h:Heap}{a:Addr}{led:Bool}{ks:List Str}(hS:SetZ prog w h a led ks):∃o,h.get? a=some o/\o.cls=.type "set":=by
 obtain⟨o,_,_,_,ho,hex,_⟩:=hS;exact⟨o,ho,hex.1⟩
def zN0{a:Addr}{ks:List Str}(hh:A.handled=none)(hS:SetZ prog w s.heap a (!w.params.followText "set-order") ks)(hk:ks≠[])(hlen:ks.length<=sizeLine){Q:List Value->qJ5->Prop}
  (hQ:∀(h':Heap)(d:Drawn)(tk:Nat)(acc:List Value)(zs:List Str),qL3 acc zs->zs.Perm ks->s.heap.objs.size<h'.objs.size->(∀b o,s.heap.get? b=some o->h'.get? b=some o)->Q acc { s with heap:=h',drawn:=d,toks:=tk }) :
  wpAny (model prog w) A (collect (.ref a)) Q E s:=by
 obtain⟨o0,ho0,hc0⟩:=hS.type;have hlt:a<s.heap.objs.size:=qJ6 ho0;unfold collect;refine wpAny_bind (wpAny_runValue (codeAny_builtin PySem.F.entry_proto_collect ?_));rw[qJn PySem.F.plain_proto_collect _];show wpAny _ A.in1 (newList [] >>= fun l=>again (.builtin "list.__iadd__" ⟨[l,.ref a],[]⟩)) _ _ s;refine wpAny_bind (wpAny_newObj_type ?_);refine wpAny_pure ⟨qKn qFb _,codeAny_builtin PySem.F.entry_list_iadd ?_⟩;rw[qJn qFb _];show wpAny _ A.in1 (qL5 (.ref s.heap.objs.size) (.ref a) (.ref s.heap.objs.size)) _ _ _;unfold qL5;have ho1:(s.heap.push { cls:=.type "list",data:=.seq ([]:List Value).toArray }).get? a=some o0:=qJ4 _ ho0;refine wpAny_bind (wpAny_typeOf (T:="set") ⟨o0,ho1,hc0⟩ ?_);have h1:qLc (.ref s.heap.objs.size) (.ref a)=false:=by simp[qLc];exact qBs hlt
 have h2:(qKi "set" == qKi "list")=false:=by decide
 have h3:(qKi "set" == qKi "tuple")=false:=by decide
 simp only[h1,h2,h3,qIg,qGo,if_false];refine wpAny_bind (zTK (hS.at fun o e=>qJ4 _ e) hk fun it h2 d2 fp St P vs zs W hP hvl hsa hzp hst hfp hfa hit hkeep=>?_);have hS1:h2.get? s.heap.objs.size=some { cls:=.type "list",data:=.seq ([]:List Value).toArray }:=hkeep _ _ (qJ7 _ rfl);have hsz:(s.heap.push { cls:=.type "list",data:=.seq ([]:List Value).toArray }).objs.size=s.heap.objs.size+1:=qJj _ _;have hSf:s.heap.objs.size∉fp:=fun hm=>by
  rcases hfa _ hm with e|e
  ·exact qBs hlt e
  ·rw[hsz]at e;exact Nat.not_succ_le_self _ e
 refine wpAny_bind (wpAny_holding ?_);unfold Builtin.List.listLengthHint;have ho2:h2.get? a=some o0:=hkeep _ _ ho1;refine wpAny_bind (wpAny_specialOf (T:="set") (v:=.ref a) ⟨o0,ho2,hc0⟩ zZU ?_)
 wp_delta
 refine wpAny_bind (wpAny_isInstance (T:="set") (v:=.ref a) (b:=true) ⟨o0,ho2,hc0⟩ (by rw[qKv];kernel_rfl) ?_);show wpAny _ A.in1 (typeOf (qJc a) >>= _) _ _ _;refine wpAny_bind (wpAny_typeOf (T:="set") (v:=.ref a) ⟨o0,ho2,hc0⟩ ?_);refine wpAny_pure ?_;show wpAny _ A.in1 (rule "list.extend.makes-room" >>= fun _=>Builtin.List.listTouch (.ref s.heap.objs.size) >>= fun _=>
  again (.builtin "list.extend.loop" ⟨[.ref s.heap.objs.size,.ref it,.ref s.heap.objs.size],[]⟩)) _ _ _
 refine wpAny_bind (wpAny_rule ?_);refine wpAny_bind ?_;show wpAny _ A.in1 (updateSeq s.heap.objs.size (·.push .none) >>= fun _=>updateSeq s.heap.objs.size (·.pop)) _ _ _;refine wpAny_bind (wpAny_updateSeq hS1 rfl ?_);have hS₂:=qJ9 (qKk (·.push qJi)) hS1 rfl;refine wpAny_updateSeq hS₂ rfl ?_;have hS₃:=qJ9 (qKk (·.pop)) hS₂ rfl;have oth:∀b o,b≠s.heap.objs.size->h2.get? b=some o->((h2.update s.heap.objs.size (qKk (·.push qJi))).update s.heap.objs.size (qKk (·.pop))).get? b=some o:=
  fun b o hb e=>(qJa _ _ (qCv hb)).trans ((qJa _ _ (qCv hb)).trans e)
 refine wpAny_pure ⟨qKn PySem.F.plain_extend_loop _,codeAny_extend_loopS (W A.in1 hh).toS hlen _ hSf _ ks.length 0 _ _ _ rfl (qAn _) ((W A.in1 hh).frame 0 h2 _ hst fun b hb o e=>oth b o (fun z=>hSf (z▸hb)) e) hS₃ (ItemsOf.nil P) fun s' acc' c' hm hS' hacc=>?_⟩;show wpAny _ A (load s.heap.objs.size >>= _) _ _ s';refine wpAny_bind (wpAny_load hS' ?_);obtain⟨h',g',d',tk',os'⟩:=s';have eg:g'=s.gens:=hm.gens;have ed:d'=d2:=hm.drawn;have eo:os'=s.os:=hm.os;subst eg;subst ed;subst eo;refine wpAny_pure (hQ h' d' tk' acc'.toList zs (zQ8 hacc hvl hP hsa) hzp (qJ6 hS') fun b o e=>?_);have hbl:b<s.heap.objs.size:=qJ6 e;refine hm.heap b o (fun hb=>?_) (oth b o (qAl hbl) (hkeep b o (qJ4 _ e)));simp only[qAc,qBm,or_false]at hb
 rcases hb with rfl|rfl
 ·exact qCj _ hbl
 ·rw[hsz]at hit;exact absurd hbl (Nat.not_lt.mpr (Nat.le_of_succ_le hit))
def zNP{a:Addr}{ks:List Str}(hh:A.handled=none)(hS:SetZ prog w s.heap a (!w.params.followText "set-order") ks)(hk:ks≠[])(hlen:ks.length<64){Q:Value->qJ5->Prop}
  (hQ:∀(h':Heap)(d:Drawn)(tk:Nat)(L:Addr)(out:Array Value)(e:Nat)(zs:List Str),qL3 out.toList zs->zs.Perm ks->sortedS zs=true->s.heap.objs.size<=L->h'.get? L=some (seqObj "list" out e)->(∀b o,s.heap.get? b=some o->h'.get? b=some o)->Q (.ref L) { s with heap:=h',drawn:=d,toks:=tk }) :
  wpAny (model prog w) A (call (.builtin "sorted") [.ref a]) Q E s:=by
 refine Calls.call_function_entry kind_sorted plain_sorted entry_sorted (args_sorted1 _) ?_;unfold qKf.«sorted»;refine wpAny_bind (m:=checkCount "sorted" 1 1 _) (wpAny_pure ?_);refine wpAny_bind (zN0 (A:=A.in1) hh hS hk (by rw[qJw];lia) fun h' d tk acc zs hsa hzp hgr hkeep=>?_);have hal:acc.length=ks.length:=by rw[zOX hsa,hzp.length_eq]
 refine wpAny_bind (wpAny_newList ?_ (hsz:=by rw[hal,qJw];lia));have hoL:(h'.push (seqObj "list" acc.toArray 0)).get? h'.objs.size=some (seqObj "list" acc.toArray 0):=qJ7 _ rfl;refine wpAny_bind (wpAny_holding (wpAny_call_entry slot_list_sort ⟨_,hoL,rfl⟩ entry_list_sort (list_sort_treeK strKind_oneLt hoL hsa.keysOf (fun v₁ v₂ rest e=>keyKind_strs (by rw[<- e];exact hsa)) (by lia) fun st' a1 a2=>⟨_,rfl,?_⟩) (args_list_sort _)));obtain⟨zs',b1,b2,b3⟩:=sorted_out_str hsa a1 a2;obtain⟨e,he⟩:=sortedHeap_at (vs:=acc) (out:=(arrOf st').map (·.2)) hoL;refine wpAny_pure ⟨_,rfl,hQ _ d tk h'.objs.size _ e zs' b1 (b2.trans hzp) b3 ?_ he fun b o eb=>?_⟩
 ·exact qD3 hgr
 ·have h1:=hkeep b o eb;have hlt:b<h'.objs.size:=qJ6 h1;rw[sortedHeap_old (qAl hlt) (by rw[size_push'];exact qBn hlt)];exact qJ4 _ h1
end
section
end
section
end
section
end
section
end
section
end
section
end
section
end
section
end
section
end
section
end
section
end
section
end
section
end
section
end
section
end
section
end
section
end
section
end
section
end
section
end
section
end
section
end
section
end
end L2
namespace Mi
open PySem
def ded:List Nat->List Nat
 |[]=>[]
 |a::r=>if a∈ded r then ded r else a::ded r
def sosL(l:List Nat):List Nat:=(ded l).mergeSort fun a b=>decide (a<=b)
def sosD:List Dt->Option Dt
 |[.str z]=>@ite _ (0<z.length/\z.length<=60) (qA6 _) (some (.lst ((sosL z.cps.toList).map fun c=>.str ⟨#[c]⟩))) none
 |_=>none
def zL1(x:Nat):∀l:List Nat,x∈ded l↔x∈l
 |[]=>by simp[ded]
 |a::r=>by
  unfold ded;split
  ·rename_i h
   rw[zL1 x r,qAc];constructor
   ·exact .inr
   ·rintro(rfl|h')
    ·exact(zL1 x r).mp h
    ·exact h'
  ·rw[qAc,qAc,zL1 x r]
def zIG:∀l:List Nat,(ded l).Nodup
 |[]=>by simp[ded]
 |a::r=>by
  unfold ded;split
  ·exact zIG r
  ·rename_i h
   exact qBk.mpr ⟨h,zIG r⟩
def sos_mem(x:Nat)(l:List Nat):x∈sosL l↔x∈l:=by
 unfold sosL;rw[(qDh _ _).mem_iff,zL1]
def sos_nodup(l:List Nat):(sosL l).Nodup:=by
 unfold sosL;exact(qDh _ _).nodup_iff.mpr (zIG l)
def sos_asc(l:List Nat):(sosL l).Pairwise (·<=·):=by
 have:=List.pairwise_mergeSort (le:=fun a b:Nat=>decide (a<=b)) (fun a b c h1 h2=>by simp at h1 h2 ⊢;lia) (fun a b=>by simp;lia) (ded l)
 exact this.imp fun h=>by simpa using h
end Mi
namespace L3
open PySem PySem.Spec
open L2 hiding Rep RepL
open Mi (Dt Xn R okR zA3 optR zA0 zA9 zAC zA8 zAB Rh Sl Ro EM TM AM FM IM SM OM Tg Out zAV zAO zB0 full frz frz1 frzAt)
section
variable[Kc]
end
section
variable[Kc]
end
section
variable[Kc]
end
section
variable[Kc]
end
section
variable[Kc]
section
end
end
section
variable[Kc]
end
section
variable[Kc]
end
section
variable[Kc]
end
end L3
namespace L3
open PySem PySem.Spec
open PyProof.Rows (risingS sortedS ltCps_eq)
open L2 hiding Rep RepL
open Mi (Dt Xn R okR zA3 optR zA0 zA9 zAC zA8 zAB Rh Sl Ro EM TM AM FM IM SM OM Tg Out zAV zAO zB0 full frz frz1 frzAt)
section
variable[Kc]
end
section
variable[Kc]
end
end L3
namespace L2
open PySem PySem.Spec PyProof.Rows
section
variable{X:Cx}{pins:List (Addr×Obj)}{σ:List (Option V)}{H:Hp}{s:qJ5}
def Inv.drawn(I:Inv X pins σ H s)(d:Drawn):Inv X pins σ H { s with drawn:=d }:=⟨I.ok,I.os,I.bare,I.base,I.loc,I.cell,I.free,I.freeC,I.pin,I.hok,I.len⟩
def zRQ(P:qJ8)(w:World)(a:Addr)(ks:List Str):HO:=.ext fun h=>SetZ P w h a (!w.params.followText "set-order") ks
def zd1(P:qJ8)(w:World):List V->Hp->VK->Prop:=fun vs H Q=>match vs with
 |[.str z]=>z.cps.size<=1000/\∀a ks,H a=none->ks.Nodup->(∀c,c∈ks↔∃d∈z.cps.toList,c=(⟨#[d]⟩:Str))->Q (.ref a) (upd H a (zRQ P w a ks))
 |_=>False
def zYM(hc:X.calm=true):zCY X (.type "set") (zd1 X.prog X.w):=by
 intro pins s σ H vs us Q I r h;cases vs with
 |nil=>exact qA3 h
 |cons hd1 tl1=>
  cases hd1 with
  |str z=>
   cases tl1 with
   |nil=>
    obtain⟨hz,q⟩:=h;obtain⟨u,rfl,rx⟩:=zCX r;obtain⟨t,rfl⟩:=rx;refine zJY (I.ok.hd hc) (by unfold scanBound;lia) fun h' tk ks hS hks hk hsz=>?_
    have hS':=hS;obtain⟨o,es,ep,tb,ho,hex,hd,hel,hkse,hnd,_⟩:=hS;refine⟨.ref _,_,I.laid (t':=tk) (o:=zRQ X.prog X.w s.heap.objs.size ks) (fun b u e=>hk b u (qJ6 e) e) (qAa _) ⟨hS',⟨o,ho⟩,fun h1 h2 z f=>z.at f⟩,rfl,q _ ks (I.hok.fresh (qAa _)) hnd fun c=>?_⟩;rw[hks c];constructor
    ·rintro⟨j,d,_,e1,e2⟩
     exact⟨d,by rw[<- qBg]at e1;exact qB3 e1,e2⟩
    ·rintro⟨d,hd',e2⟩
     obtain⟨j,e1⟩:=List.getElem?_of_mem hd';have hj:j<z.cps.size:=by have:=(qA5.mp e1).1;simpa using this
     exact⟨j,d,hj,by rw[<- qBg];exact e1,e2⟩
   |cons _ _=>exact qA3 h
  |_=>exact qA3 h
def zY9(P:qJ8)(w:World):List V->Hp->VK->Prop:=fun vs H Q=>match vs with
 |[.ref a]=>∃ks,H a=some (zRQ P w a ks)/\ks≠[]/\ks.length<64/\∀ys:List Str,ys.Perm ks->sortedS ys=true->∀l,H l=none->Q (.ref l) (upd H l (.lst (ys.map V.str)))
 |_=>False
def zTD(hc:X.calm=true):zCY X (.builtin "sorted") (zY9 X.prog X.w):=by
 intro pins s σ H vs us Q I r h;cases vs with
 |nil=>exact qA3 h
 |cons hd1 tl1=>
  cases hd1 with
  |ref a=>
   cases tl1 with
   |nil=>
    obtain⟨ks,ha,hne,hlen,q⟩:=h;obtain⟨u,rfl,rx⟩:=zCX r;cases rx;have hok:ObjOk X.prog X.w H s.heap a (zRQ X.prog X.w a ks):=I.hok a _ ha;have hS:SetZ X.prog X.w s.heap a (!X.w.params.followText "set-order") ks:=hok.1;refine zNP (I.ok.hd hc) hS hne hlen fun h' d tk L out e zs b1 b2 b3 hL hl hk=>?_
    have I2:Inv X pins σ H { s with drawn:=d }:=I.drawn d;have hz':zs.length<=sizeLine:=by rw[b2.length_eq,qJw];lia
    exact⟨.ref _,_,I2.laid (t':=tk) (o:=.lst (zs.map V.str)) (fun b o e=>hk b o e) hL ⟨by rw[qAe];exact hz',out.toList,e,zLN b1,by simpa[seqObj]using hl⟩,rfl,q zs b2 b3 _ (I2.hok.fresh hL)⟩
   |cons _ _=>exact qA3 h
  |_=>exact qA3 h
end
def zN6:qKj "set" = some (.type "set"):=by decide +kernel
end L2
namespace L2
open PySem PySem.Spec
structure Dr(p:Prop):Prop where
 h:p
section
end
end L2
namespace FW
def zI0{l:List Nat}{k:Nat}(h:k<l.length):(l.eraseIdx k).length+1=l.length:=by
 rw[qC0 h];lia
end FW
namespace L2
open PySem
end L2
namespace L3
open PySem PySem.Spec PyProof.Rows
open L2 hiding Rep RepL
open Mi (Dt R Rh EM TM SM AM IM Xn Sl Ro Out okR zA3 optR full frz frzAt)
section
variable[Kc]
end
end L3
namespace L3
open PySem PySem.Spec
open PyProof.Rows (risingS sortedS ltCps_eq)
open L2 hiding Rep RepL
open Mi (Dt Xn R okR zA3 optR zA0 zA9 zAC zA8 zAB Rh Sl Ro EM TM AM FM IM SM OM Tg Out zAV zAO zB0 full frz frz1 frzAt)
section
variable[Kc]{mg:Str->Option Value}{E:XK}{k l:Nat}{te:TE}{e:EM}
def one_le{c d:Nat}:([c]:List Nat)<=[d]↔c<=d:=by
 constructor
 ·intro h
  by_cases z:c<=d
  ·exact z
  ·exact absurd (show([d]:List Nat) < [c] from .rel (by lia)) (qIw.mpr h)
 ·intro h
  rcases Nat.lt_or_eq_of_le h with h|h
  ·exact List.le_of_lt (.rel h)
  ·rw[h];exact List.le_refl _
def zZT{l:List Nat}(h:l.Nodup):(l.map fun c=>(⟨#[c]⟩:Str)).Nodup:=by
 rw[qIf,qE5];refine h.imp fun hne e=>hne ?_
 have:[_]=[_]:=congrArg (fun s:Str=>s.cps.toList) e
 simpa using this
def zP3{G:Hp}:∀(l:List Nat),RepL G (l.map fun c=>Dt.str ⟨#[c]⟩) ((l.map fun c=>(⟨#[c]⟩:Str)).map V.str)
 |[]=>rfl
 |_::r=>⟨_,_,rfl,rfl,zP3 r⟩
def zZ5{P:qJ8}{w:World}(A:DE mg E te e k):DE mg E (tCB (zY9 P w) (zES (tCB (zd1 P w) (zES te tNil)) tNil)) (Mi.eBi Mi.sosD (Mi.aCons e Mi.aNil)) 1:=by
 intro G H σ ρ Q s w' p;have p0:PostE mg E G H 1 (zA3 (e ρ) fun d=>optR (Mi.sosD [d])) Q:=by
  have:(Mi.eBi Mi.sosD (Mi.aCons e Mi.aNil)) ρ=zA3 (e ρ) fun d=>optR (Mi.sosD [d]):=by
   show zA3 (zA3 (e ρ) fun x=>zA3 (okR []) fun xs=>okR (x::xs)) (fun xs=>optR (Mi.sosD xs))=_;cases e ρ with
   |none=>rfl
   |some r=>cases r<;>rfl
  rw[<- this];exact p
 refine(zAL A).step errE s w' p0 fun d v G1 H1 S _ fr o p1=>?_
 cases d with
 |str z=>
  cases(show v=.str z from o)
  have p2:PostE mg E G H 1 (optR (@ite _ (0<z.length/\z.length<=60) (qA6 _) (some (Dt.lst ((Mi.sosL z.cps.toList).map fun c=>Dt.str ⟨#[c]⟩))) none)) Q:=p1
  split at p2
  ·rename_i hz
   have hzl:z.length=z.cps.size:=rfl;refine⟨by lia,fun a ks ha hnd hks=>?_⟩;have hperm:ks.Perm ((Mi.sosL z.cps.toList).map fun c=>(⟨#[c]⟩:Str)):=by
    refine(List.perm_ext_iff_of_nodup hnd (zZT (Mi.sos_nodup _))).mpr fun c=>?_
    rw[hks c,qAi];constructor
    ·rintro⟨d,hd,rfl⟩;exact⟨d,(Mi.sos_mem d _).mpr hd,rfl⟩
    ·rintro⟨d,hd,rfl⟩;exact⟨d,(Mi.sos_mem d _).mp hd,rfl⟩
   have hsl:(Mi.sosL z.cps.toList).length<=60:=by
    have h1:(Mi.sosL z.cps.toList).length=(Mi.ded z.cps.toList).length:=(qDh _ _).length_eq;have h2:∀l:List Nat,(Mi.ded l).length<=l.length:=by
     intro l;induction l with
     |nil=>exact qAa _
     |cons a r ih=>
      unfold Mi.ded;split
      ·simp only[qAj];lia
      ·simp only[qAj];lia
    have h3:=h2 z.cps.toList;simp at h3;lia
   refine⟨ks,zAA,?_,by rw[hperm.length_eq,qAe];lia,fun ys h1 h2 l hl=>?_⟩
   ·intro hnil;have hz0:0<z.cps.toList.length:=by simp;lia
    have hm:z.cps.toList[0]∈z.cps.toList:=qCb hz0;have:=(hks ⟨#[z.cps.toList[0]]⟩).mpr ⟨_,hm,rfl⟩;rw[hnil]at this;simp at this
   ·have hy:ys=(Mi.sosL z.cps.toList).map fun c=>(⟨#[c]⟩:Str):=by
     refine Mi.uniqZ (h1.trans hperm) (zRN h2) ?_;rw[qE5];exact(Mi.sos_asc _).imp fun h=>one_le.mpr h
    subst hy;have hla:l≠a:=fun z=>by rw[z,zAA]at hl;cases hl
    have hl1:H1 l=none:=by rw[zAD hla]at hl;exact hl
    have x1:Ext G1 H1 G1 (upd H1 a (zRQ P w a ks)):=⟨Same.refl _,fun b o e=>by
      by_cases z:b=a
      ·rw[z,ha]at e;cases e
      ·rw[zAD z];exact e,fun b o e=>by
      have e2:=fr.ext.in' _ _ e;by_cases z:b=a
      ·rw[z,ha]at e2;cases e2
      ·rw[zAD z];exact e2,fun _ _=>rfl⟩
    exact PostE.lst p2 (fr.ext.trans x1) (zP3 _) hl
  ·exact p2.elim
 |_=>exact p1.elim
end
end L3
namespace Mi
open PySem
def index2D(x:Dt)(ys:List Dt):Option Dt:=match x,ys with
 |.str z,[.str y,.int n]=>match y.cps.toList with
  |[c]=>@ite _ (0<=n) (qA6 _) ((posC c (z.cps.toList.drop n.toNat)).map fun i=>.int (n+(i:Int))) none
  |_=>none
 |_,_=>none
def sAddPop(j i:Nat)(e:EM):SM:=fun ρ=>match ρ[j]?,ρ[i]? with
 |some (some (.str z,_)),some (some (.lst ds,k+1))=>zA3 (e (full ρ)) fun d=>match d with
  |.int y=>match ixA ds.length y with
   |some q=>match ds[q]? with
    |some (.str u)=>@ite _ (i≠j/\ds.length<=1000000/\z.length+u.length<=100000) (qA6 _) (okR (.nx ((ρ.set i (some (.lst (ds.eraseIdx q),k+1))).set j (some (.str (z++u),0))))) none
    |_=>none
   |none=>none
  |_=>none
 |_,_=>none
end Mi
namespace L3
open PySem PySem.Spec
open PyProof.Rows (risingS sortedS ltCps_eq)
open L2 hiding Rep RepL
open Mi (Dt Xn R okR zA3 optR zA0 zA9 zAC zA8 zAB Rh Sl Ro EM TM AM FM IM SM OM Tg Out zAV zAO zB0 full frz frz1 frzAt)
section
variable[Kc]{mg:Str->Option Value}{E:XK}{L n:Nat}{te:TE}{e:EM}
def own_str{G H:Hp}{S:Addr->Prop}{u:Str}{v:V}:∀{n:Nat},Own G H n S (.str u) v->v=.str u
 |0,h=>h
 |_+1,h=>h
def zU4(j i:Nat)(A:DE mg E te e n):DS mg E L (tAsg (tOp za2 (vM j) (tML popM (vM i) (zES te tNil))) (zFK j)) (Mi.sAddPop j i e):=by
 intro G0 H0 S0 σ ρ G H As D a p;obtain⟨J,x,s,w⟩:=a.full;unfold Mi.sAddPop at p;cases f1:ρ[j]? with
 |none=>rw[f1]at p;exact p.elim
 |some oj=>
  rw[f1]at p
  match oj,f1,p with
  |none,_,p=>exact p.elim
  |some (.str z0,l0),f1,p=>
   cases e1:ρ[i]? with
   |none=>rw[e1]at p;exact p.elim
   |some o=>
    rw[e1]at p
    match o,e1,p with
    |none,_,p=>exact p.elim
    |some (.lst ds,k+1),e1,p=>
     obtain⟨v',g1,own'⟩:=a.at j _ _ f1;cases own_str own';obtain⟨v,h1,q,xs,T,rfl,hq,kd⟩:=a.at i _ _ e1;unfold tAsg tOp tML vM;rw[g1];dsimp only;rw[h1];refine⟨xs,hq,?_⟩;refine(zAL A).step (errS.from x) x.in' w p fun d y G1 H1 S _ fr o p1=>?_
     cases d with
     |int z=>
      cases(show y=.int z from o)
      try dsimp only at p1
      cases ei:Mi.ixA ds.length z with
      |none=>rw[ei]at p1;exact p1.elim
      |some c=>
       rw[ei]at p1
       try dsimp only at p1
       cases ec:ds[c]? with
       |none=>rw[ec]at p1;exact p1.elim
       |some dc=>
        rw[ec]at p1;cases dc with
        |str u=>
         try dsimp only at p1
         split at p1
         ·rename_i hz
          obtain⟨hij,hz1,hz2⟩:=hz;rw[zML]at ei;obtain⟨b1,b2,b3,b4⟩:=zKO ei;have hc:c<xs.length:=by rw[kd.len];exact b2
          have hx:xs[c]?=some xs[c]:=qA1 hc;refine⟨xs,c,xs[c],fr.ext.h _ _ hq,⟨by lia,by lia⟩,by rw[kd.len];exact b1,hx,?_⟩;have a1:=a.grow fr.ext.h;have kd1:Kids (Own G H1 k) (As i) q ds xs T:=kd.imp (fun _ _ _ _ w=>w.mono (Same.refl _) fr.ext.h) fun _ z=>z
          have a2:=a1.store (o:=.lst (xs.eraseIdx c)) (n:=k+1) (d:=.lst (ds.eraseIdx c)) (S:=fun b=>As i b/\¬T c b) kd.top h1 ⟨q,_,_,rfl,zAA,zYH (kd1.pop c) fun r=>by split<;>exact kd.out _⟩ fun b z=>.inl z.1
          rw[own_str (kd1.own c _ _ ec hx)];refine⟨big' hz2,?_⟩;exact p1 _ G _ _ (a2.put (i:=j) (n:=0) (d:=.str (z0++u)) (v:=.str (z0++u)) (S:=fun _=>False) rfl (fun _ h=>h.elim) fun _ _ _ _ h=>h.elim)
         ·exact p1.elim
        |_=>exact p1.elim
     |_=>exact p1.elim
    |some (.lst ds,0),_,p=>exact p.elim
    |some (.non,_),_,p=>exact p.elim
    |some (.bl _,_),_,p=>exact p.elim
    |some (.int _,_),_,p=>exact p.elim
    |some (.str _,_),_,p=>exact p.elim
    |some (.tup _,_),_,p=>exact p.elim
    |some (.scr _,_),_,p=>exact p.elim
    |some (.exc _ _ _,_),_,p=>exact p.elim
    |some (.fn _ _,_),_,p=>exact p.elim
    |some (.ins _ _,_),_,p=>exact p.elim
    |some (.dct _,_),_,p=>exact p.elim
  |some (.lst ds,_),_,p=>cases e1:ρ[i]?<;>(rw[e1]at p;exact p.elim)
  |some (.non,_),_,p=>cases e1:ρ[i]?<;>(rw[e1]at p;exact p.elim)
  |some (.bl _,_),_,p=>cases e1:ρ[i]?<;>(rw[e1]at p;exact p.elim)
  |some (.int _,_),_,p=>cases e1:ρ[i]?<;>(rw[e1]at p;exact p.elim)
  |some (.tup _,_),_,p=>cases e1:ρ[i]?<;>(rw[e1]at p;exact p.elim)
  |some (.scr _,_),_,p=>cases e1:ρ[i]?<;>(rw[e1]at p;exact p.elim)
  |some (.exc _ _ _,_),_,p=>cases e1:ρ[i]?<;>(rw[e1]at p;exact p.elim)
  |some (.fn _ _,_),_,p=>cases e1:ρ[i]?<;>(rw[e1]at p;exact p.elim)
  |some (.ins _ _,_),_,p=>cases e1:ρ[i]?<;>(rw[e1]at p;exact p.elim)
  |some (.dct _,_),_,p=>cases e1:ρ[i]?<;>(rw[e1]at p;exact p.elim)
end
end L3
namespace Mi
open PySem
def kyD:Dt->Option (Sum Int Str)
 |.int i=>some (.inl i)
 |.str x=>some (.inr x)
 |_=>none
def swD:Dt->Option Sw
 |.non=>some .non
 |.bl b=>some (.bl b)
 |.int i=>some (.int i)
 |.str x=>some (.str x)
 |_=>none
def getW(kvs:List (Sum Int Str×Sw))(k:Sum Int Str):Option Sw:=(kvs.find? fun p=>decide (p.1=k)).map (·.2)
def putW(kvs:List (Sum Int Str×Sw))(k:Sum Int Str)(v:Sw):List (Sum Int Str×Sw):=
 if(kvs.any fun p=>decide (p.1=k))=true then kvs.map (fun p=>if p.1=k then(p.1,v)else p)else kvs++[(k,v)]
def eDct0:EM:=fun _=>okR (.dct [])
def dinD(ng:Bool)(x y:Dt):Option Dt:=match y with
 |.dct kvs=>match kyD x with
  |some k=>some (.bl (if ng=true then !(getW kvs k).isSome else(getW kvs k).isSome))
  |none=>none
 |_=>none
def zfU(i:Nat)(e1 e2:EM):SM:=fun ρ=>zA3 (e2 (full ρ)) fun v=>match ρ[i]? with
 |some (some (.dct kvs,k+1))=>zA3 (e1 (full ρ)) fun y=>match kyD y,swD v with
  |some q,some u=>@ite _ (kvs.length<=100000) (qA6 _) (okR (.nx (ρ.set i (some (.dct (putW kvs q u),k+1))))) none
  |_,_=>none
 |_=>none
def pairsD:List Dt->Option (List (Sum Int Str×Sw))
 |[]=>some []
 |.tup [a,b]::r=>match kyD a,swD b,pairsD r with
  |some k,some v,some q=>some ((k,v)::q)
  |_,_,_=>none
 |_::_=>none
def sDupd(i:Nat)(e:EM):SM:=fun ρ=>match ρ[i]? with
 |some (some (.dct kvs,k+1))=>zA3 (e (full ρ)) fun d=>match d with
  |.lst ds=>match pairsD ds with
   |some ps=>@ite _ (kvs.length+ps.length<=50000) (qA6 _) (okR (.nx (ρ.set i (some (.dct (ps.foldl (fun m p=>putW m p.1 p.2) kvs),k+1))))) none
   |none=>none
  |_=>none
 |_=>none
end Mi
namespace PySem
open Sem (wp)
def zMJ:typeLookup (.type "list") "keys" = pure none:=by rw[qL4,qK8];kernel_rfl
def zME{prog:qJ8}{w:World}{A:qJb}{E:Value->qJ5->Prop}{s:qJ5}{a:Addr}{o:Obj}{xs:Array Value}{k:Nat}{Q:Option Value->qJ5->Prop}
  (hx:s.heap.get? a=some o) (hc:o.cls=.type "list") (hdat:o.data=.seq xs k) (hd:o.dict=none) (hA:A.handled=none)
  (h:∀h' tk,(∀b ob,s.heap.get? b=some ob->h'.get? b=some ob)->Q none { s with heap:=h',toks:=tk }) :
  wpAny (model prog w) A (getAttr? (.ref a) "keys") Q E s:=by
 obtain⟨c,dct,dat,sl⟩:=o;simp only at hc hdat hd;subst hc hdat hd;obtain⟨hp,g,d,tk,os⟩:=s;have hT:∀tk',(⟨hp,g,d,tk',os⟩:qJ5).TypeIs (.ref a) "list":=fun _=>⟨_,hx,rfl⟩
 have f1:=sub_AttributeError;have f3:=qKl.lookup;have f4:=qKl.bind (.ref a);have f5:=am_list_getattr_none;unfold getAttr? getAttrBy? getAttrBy
 repeat (any_goals (first|assumption|exact hT _|((with_reducible show wpAny _ _ (call (Value.builtin "list.__getattribute__") _ _) _ _ _);refine call_meets qKl (hT _) am_entry_list_getattribute (F.args_list_getattribute_2 _ _) (meets_getattribute_miss_list a xs k sl "keys" _ zMJ (by decide +kernel) (by size_fits)) ⟨hx,hA,fun h' tk' e hx'=>?_⟩)|wp_step))
 obtain⟨t',u',he⟩:=hx'.there;have hTe:(⟨h',g,d,tk',os⟩:qJ5).TypeIs (.ref e) "AttributeError":=⟨_,he,rfl⟩;show wpAny _ _ (getattributeRaised _ _ _ _ _ _ _) _ _ _;unfold getattributeRaised
 repeat (any_goals (first|assumption|wp_step))
 exact h h' tk' hx'.keeps
def zE0:qN8 table "dict.update.loop" = some qKf.«dict.update.loop»:=entryFor_of_tree (by kernel_rfl)
def zBW:plainId "dict.update.loop" = true:=by decide +kernel
section
variable{prog:qJ8}{w:World}{A:qJb}{K:Type}[DecidableEq K]{knd:KeyKind prog w K}
def zV1(knd:KeyKind prog w K)(h:Heap)(v:Value)(p:K×Value):Prop:=∃t o n key,v=.ref t/\h.get? t=some o/\o.cls=.type "tuple"/\o.data=.seq #[key,p.2] n/\knd.is p.1 key=true
def zVB{R:qMg->qJ5->Prop}(hh:A.handled=none){d l it:Addr}(hdl:d≠l)(hdi:d≠it)(hli:l≠it){items:Array Value}(ps:List (K×Value))(hps:ps.length=items.size)(result:Value) :
  ∀(n i:Nat)(s:qJ5)(kvs:List (K×Value)),items.size-i=n->i<=items.size->kvs.length+n<=100000->s.heap.DictOf knd d kvs->s.heap.IsListIter it l i->s.heap.IsList l items ->
  (∀(j:Nat) v p,items[j]?=some v->ps[j]?=some p->zV1 knd s.heap v p) ->
  (∀h' tk,h'.DictOf knd d ((ps.drop i).foldl (fun m p=>stored m p.1 p.2) kvs)->(∀b o,b≠d->b≠it->s.heap.get? b=some o->h'.get? b=some o)->(∃o,h'.get? d=some o)->R (.ok (.ret result)) { s with heap:=h',toks:=tk }) ->
  qKr (model prog w) A (.builtin "dict.update.loop" ⟨[.ref d,.ref it,rawInt i,result],[]⟩) R s:=by
 intro n;induction n with
 |zero=>
  intro i s kvs hn hi hz hd hit hl hp hR;have hin:i=items.size:=by lia
  refine codeAny_builtin zE0 ?_;rw[qJn zBW _];show wpAny _ A.in1 (pyNext (.ref it) >>= _) _ _ s;refine wpAny_bind (wpAny_pyNext_list_end hh hit hl (by rw[hin];simp) fun h' hx=>?_);show wpAny _ A.in1 (Builtin.Dict.addKeywords d [] >>= _) _ _ _;refine wpAny_bind (wpAny_of_eq (a:=()) rfl ?_);have hd':h'.DictOf knd d kvs:=by
   obtain⟨o,es,ep,ho,r⟩:=hd;exact⟨o,es,ep,hx _ _ hdi ho,r⟩
  refine wpAny_pure (hR h' s.toks ?_ (fun b o _ hb e=>hx b o hb e) ?_)
  ·rw[hin,<- hps,qFj];exact hd'
  ·obtain⟨o,es,ep,ho,r⟩:=hd';exact⟨o,ho⟩
 |succ n ih=>
  intro i s kvs hn hi hz hd hit hl hp hR;have hlt:i<items.size:=by lia
  have hx:items[i]?=some items[i]:=qEv hlt;have hpi:ps[i]?=some (ps[i]'(by lia)):=qA1 (by lia);obtain⟨t,o,m,key,e1,e2,e3,e4,e5⟩:=hp i _ _ hx hpi;refine codeAny_builtin zE0 ?_;rw[qJn zBW _];show wpAny _ A.in1 (pyNext (.ref it) >>= _) _ _ s;refine wpAny_bind (wpAny_pyNext_list_item hit hl hx fun h1 hit1 hs1=>?_);rw[e1];obtain⟨oi,hoi,hci,hdi'⟩:=id hit;have hti:t≠it:=fun z=>by
   rw[z,hoi]at e2;cases e2;rw[hci]at e3;exact absurd e3 (by decide)
  have htd:t≠d:=fun z=>by
   obtain⟨od,es,ep,ho,hex,hdd,_⟩:=hd;rw[z,ho]at e2;cases e2;rw[hdd]at e4;cases e4
  have e2':h1.get? t=some o:=(hs1.2 t hti).trans e2;have hd1:h1.DictOf knd d kvs:=by
   obtain⟨o,es,ep,ho,r⟩:=hd;exact⟨o,es,ep,(hs1.2 d hdi).trans ho,r⟩
  show wpAny _ A.in1 (holding [.ref t] _ >>= _) _ _ _;refine wpAny_bind (wpAny_holding ?_);refine wpAny_bind (wpAny_tryCatch ?_);unfold Builtin.Dict.pairItems;refine wpAny_bind (wpAny_typeOf (T:="tuple") ⟨o,e2',e3⟩ ?_);rw[if_pos (by decide)];refine wpAny_bind (wpAny_seqItems e2' e4 ?_);refine wpAny_pure ?_;show wpAny _ A.in1 (holding [key,(ps[i]'(by lia)).2] (dictSet d key (ps[i]'(by lia)).2)) _ _ _;refine wpAny_holding (wpAny_dictSet_pairs e5 hd1 (fun h2 hd2 hs2=>?_) (by rw[qJw];lia));refine wpAny_pure ⟨qKn zBW _,?_⟩;have hit2:h2.IsListIter it l (i+1):=hit1.at fun o e=>(hs2.2 it hdi.symm).trans e
  have hl2:h2.IsList l items:=hl.at fun o e=>(hs2.2 l hdl.symm).trans ((hs1.2 l hli).trans e)
  have kp:∀b o,b≠d->b≠it->s.heap.get? b=some o->h2.get? b=some o:=fun b o hb hb2 e=>(hs2.2 b hb).trans ((hs1.2 b hb2).trans e)
  refine ih (i+1) _ (stored kvs (ps[i]'(by lia)).1 (ps[i]'(by lia)).2) (by lia) hlt ?_ hd2 hit2 hl2 (fun j v p h1 h2=>?_) fun h' tk hd' hk he=>?_
  ·have:=stored_length_le kvs (ps[i]'(by lia)).1 (ps[i]'(by lia)).2
   lia
  ·obtain⟨t',o',m',key',f1,f2,f3,f4,f5⟩:=hp j v p h1 h2;refine⟨t',o',m',key',f1,kp _ _ (fun z=>?_) (fun z=>?_) f2,f3,f4,f5⟩
   ·obtain⟨od,es,ep,ho,hex,hdd,_⟩:=hd;rw[z,ho]at f2;cases f2;rw[hdd]at f4;cases f4
   ·rw[z,hoi]at f2;cases f2;rw[hci]at f3;exact absurd f3 (by decide)
  ·refine hR h' tk ?_ (fun b o hb hb2 e=>hk b o hb hb2 (kp b o hb hb2 e)) he;rw[qBa (show i<ps.length by lia)];exact hd'
def zVC{E:Value->qJ5->Prop}{s:qJ5}{Q:Value->qJ5->Prop}(hh:A.handled=none){d l:Addr}(hdl:d≠l){kvs:List (K×Value)}{items:Array Value}(ps:List (K×Value))(hps:ps.length=items.size)(hz:kvs.length+items.size<=100000)
  (hd:s.heap.DictOf knd d kvs) {o:Obj} {n:Nat} (ho:s.heap.get? l=some o) (hc:o.cls=.type "list") (hod:o.dict=none) (hdat:o.data=.seq items n)
  (hp:∀(j:Nat) v p,items[j]?=some v->ps[j]?=some p->zV1 knd s.heap v p)
  (hQ:∀h' tk,h'.DictOf knd d (ps.foldl (fun m p=>stored m p.1 p.2) kvs)->(∀b o,b≠d->s.heap.get? b=some o->h'.get? b=some o)->(∃o,h'.get? d=some o)->Q .none { s with heap:=h',toks:=tk }) :
  wpAny (model prog w) A (call (.builtin "dict.update") [.ref d,.ref l]) Q E s:=by
 refine wpAny_call (codeAny_call_builtin qM4.plain F.entry_dict_update (qM4.check _ _ _ _ _ _ _ _ hd.typeIs (F.args_dict_update_2 _ _) ?_));unfold qKf.«dict.update»;refine wpAny_bind ?_;unfold Builtin.Dict.selfAndRest;refine wpAny_bind (wpAny_notOrdered_dict hd.typeIs ?_);show wpAny _ _ (pure (d,[qJc l])) _ _ s;refine wpAny_pure ?_;show wpAny _ A.in1 (qLi "dict.update" d (.ref l) [] .none) _ _ s;unfold qLi;refine wpAny_bind (wpAny_typeOf (T:="list") ⟨o,ho,hc⟩ ?_);rw[if_pos (by decide)];refine wpAny_bind (zME ho hc hdat hod hh fun h1 tk1 hk1=>?_);show wpAny _ A.in1 (rule _ >>= fun _=>pyIter (.ref l) >>= _) _ _ _;refine wpAny_bind (wpAny_rule ?_);have hl1:h1.IsList l items:=⟨o,hk1 _ _ ho,hc,n,hdat⟩
 refine wpAny_bind (wpAny_pyIter_list hl1 ?_);have hd1:h1.DictOf knd d kvs:=by
  obtain⟨o,es,ep,ho,r⟩:=hd;exact⟨o,es,ep,hk1 _ _ ho,r⟩
 have hdl1:d<h1.objs.size:=by
  obtain⟨o,es,ep,ho,r⟩:=hd1;exact qJ6 ho
 have hll1:l<h1.objs.size:=qJ6 (hk1 _ _ ho);refine wpAny_pure ⟨qKn zBW _,?_⟩;refine zVB (knd:=knd) (l:=l) (it:=h1.objs.size) (items:=items) hh hdl (qAl hdl1) (qAl hll1) ps hps .none items.size 0 _ kvs rfl (qAn _) hz ?_ ⟨_,qJ7 _ rfl,rfl,rfl⟩ (hl1.at fun o e=>qJ4 _ e) (fun j v p a1 a2=>?_) fun h' tk hd' hk he=>?_
 ·obtain⟨o,es,ep,ho,r⟩:=hd1;exact⟨o,es,ep,qJ4 _ ho,r⟩
 ·obtain⟨t',o',m',key',f1,f2,f3⟩:=hp j v p a1 a2;exact⟨t',o',m',key',f1,qJ4 _ (hk1 _ _ f2),f3⟩
 ·exact hQ h' tk hd' (fun b o hb e=>hk b o hb (qAl (qJ6 (hk1 _ _ e))) (qJ4 _ (hk1 _ _ e))) he
end
end PySem
namespace L2
open PySem PySem.Spec PyProof.Rows
section
variable{X:Cx}
def tMD(r:V->List V->Hp->VK->Prop)(to:TE)(t:TA):TE:=fun σ H Q=>to σ H fun x H1=>match x with
 |.ref p=>(∃kvs,H1 p=some (.dK kvs))/\t σ H1 fun vs H2=>r x vs H2 Q
 |_=>False
variable{o e:Expr}{es:List Expr}{to:TE}{t:TA}{name:Str}{apos cpos:Pos}{id:String}{r:V->List V->Hp->VK->Prop}
def zg0(pa:qN1 "dict")(slot:Slot "dict" name id)(hty:typeOf (.builtin id)=pure (.type "method_descriptor"))(hm:MtR X id r)(ho:PE X o to)(ha:PA X (e::es) t)
  (hbase:qKy o name X.env (eval o X.env)=eval o X.env:=by rfl)
  (hfew:((backTo cpos (starEach (e::es) X.env)).all (fun x=>!x.1)&&(backToKw cpos (keywordEach [] X.env)).all (fun x=>x.1.isSome)
   && decide ((e::es).length+([]:List qL8).length+(if([]:List qL8).isEmpty then 0 else 1)<30))=true:=by rfl)
  (hline:(apos.endLine==cpos.line)=true:=by rfl) (hs:starEach (e::es) X.env=(false,eval e X.env)::starEach es X.env:=by rfl) (hplain:(backTo cpos (starEach es X.env)).any (·.1)=false:=by rfl) :
  PE X (.Call (.Attribute o name apos) (e::es) [] cpos) (tMD r to t):=by
 intro pins s σ H Q I h;refine qKo hbase hfew hline rfl (thn (ho pins s σ H _ I h) fun v s1 z0=>?_);obtain⟨x,H1,I1,r1,q1⟩:=z0;cases x with
 |ref p=>?_
 |_=>exact qA3 q1
 obtain⟨⟨kvs,hx⟩,q1⟩:=q1;cases r1;obtain⟨h1,h2,_⟩:=zeH I1 (.inl ⟨kvs,.inl hx⟩);refine⟨"dict",id,pa,slot,hty,h1,h2,?_⟩;have hA:=ha cpos pins s1 σ H1 _ I1 q1;rw[hs]at hA ⊢;refine qKp (by show(false||(backTo cpos (starEach es X.env)).any (·.1))=false;rw[hplain]<;>rfl) (qKx ?_);exact thn hA fun us s2 ⟨vs,H2,I2,r2,q2⟩=>hm pins s2 σ H2 (.ref p) vs _ us Q I2 rfl r2 q2
def zc1(H:Hp)(x:V)(p:Key×V):Prop:=∃t,x=.ref t/\H t=some (.tup [kV p.1,p.2])
def updM:V->List V->Hp->VK->Prop:=fun x vs H Q=>match x,vs with
 |.ref d,[.ref l]=>∃(kvs:List (Key×V))(xs:List V)(ps:List (Key×V)),H d=some (.dK kvs)/\H l=some (.lst xs)/\xs.length=ps.length/\(∀(j:Nat) x p,xs[j]?=some x->ps[j]?=some p->zc1 H x p)/\kvs.length+ps.length<=50000 /\
   Q .non (upd H d (.dK (ps.foldl (fun m p=>putK m p.1 p.2) kvs)))
 |_,_=>False
def zTA:∀{ps:List (Key×V)}{qs:List (Key×Value)}{kvs:List (Key×V)}{vs:List (Key×Value)},KV kvs vs->qLr (fun(p:Key×V)(q:Key×Value)=>p.1=q.1/\RelV p.2 q.2) ps qs->KV (ps.foldl (fun m p=>putK m p.1 p.2) kvs) (qs.foldl (fun m p=>stored m p.1 p.2) vs)
 |_,_,_,_,r,.nil=>r
 |p::ps,q::qs,kvs,vs,r,.cons ⟨e,rp⟩ t=>by
  simp only[qDo];rw[<- e];exact zTA (r.put p.1 rp) t
def za4(kvs:List (Key×V)):∀ps:List (Key×V),(ps.foldl (fun m p=>putK m p.1 p.2) kvs).length<=kvs.length+ps.length:=by
 intro ps;induction ps generalizing kvs with
 |nil=>exact qAa _
 |cons p r ih=>
  have h1:=ih (putK kvs p.1 p.2);have h2:=zO7 kvs p.1 p.2;simp only[qDo,qAj];lia
def zPC{pins:List (Addr×Obj)}{σ:List (Option V)}{H:Hp}{s:qJ5}(I:Inv X pins σ H s):∀{xs:List V}{us:List Value}{ps:List (Key×V)},Vals xs us->xs.length=ps.length->(∀(j:Nat) x p,xs[j]?=some x->ps[j]?=some p->zc1 H x p) ->
  ∃qs:List (Key×Value),qLr (fun(p:Key×V)(q:Key×Value)=>p.1=q.1/\RelV p.2 q.2) ps qs/\qs.length=us.length/\∀(j:Nat) u q,us[j]?=some u->qs[j]?=some q->zV1 (zBP X.prog X.w) s.heap u q
 |_,_,[],.nil,_,_=>⟨[],.nil,rfl,fun j u q h=>by simp at h⟩
 |x::xs,u::us,p::ps,.cons r t,hl,h=>by
  obtain⟨qs,h1,h2,h3⟩:=zPC I (ps:=ps) t (by simpa using hl) fun j x p a b=>h (j+1) x p (by simpa using a) (by simpa using b)
  obtain⟨a,rfl,ha⟩:=h 0 x p rfl rfl;cases r;obtain⟨its,rv,pl,_⟩:=I.tuple (SqT.of ha);obtain⟨key,val,rfl,rk,rval⟩:=zV8 rv;obtain⟨o,ho,hc,n,hd⟩:=pl;refine⟨(p.1,val)::qs,.cons ⟨rfl,rval⟩ h1,by simp[h2],fun j u q a1 a2=>?_⟩;cases j with
  |zero=>
   simp at a1 a2;subst a1 a2;exact⟨a,o,n,key,rfl,ho,hc,hd,zaV rk⟩
  |succ j=>exact h3 j u q (by simpa using a1) (by simpa using a2)
 |[],[],_::_,.nil,hl,_=>by simp at hl
 |_::_,_::_,[],.cons _ _,hl,_=>by simp at hl
def zXL{pins:List (Addr×Obj)}{σ:List (Option V)}{H:Hp}{s:qJ5}{a:Addr}{h':Heap}{t':Nat}{ob:HO}(I:Inv X pins σ H s)(mu:Mut (H a))(hs:∀b o,b≠a->s.heap.get? b=some o->h'.get? b=some o)(he:∃q,h'.get? a=some q)(new:ObjOk X.prog X.w (upd H a ob) h' a ob) :
  Inv X pins σ (upd H a ob) { s with heap:=h',toks:=t' }:=I.write (x:=a) (e:=a) mu (.inl rfl) hs he new
def zaJ(hc:X.calm=true):MtR X "dict.update" updM:=by
 intro pins s σ H x vs v us Q I rx rv h;cases x with
 |ref d=>
  cases vs with
  |nil=>exact qA3 h
  |cons hd1 tl1=>
   cases hd1 with
   |ref l=>
    cases tl1 with
    |nil=>
     obtain⟨kvs,xs,ps,hd,hl,hlen,hp,hz,q⟩:=h;cases rx;obtain⟨u,rfl,ru⟩:=zCX rv;cases ru;obtain⟨z,hds,ws,rel,dd⟩:=zgM I.hok hd;obtain⟨z2,its,n,r,_,e⟩:=I.lstM hl;have hil:=r.length;have hdl:d≠l:=fun z=>by rw[z,hl]at hd;cases hd
     obtain⟨qs,h1,h2,h3⟩:=zPC I r hlen hp;have hpq:=qLd h1;have hrl:=rel.length;refine zVC (knd:=zBP X.prog X.w) (I.ok.hd hc) hdl qs (by simp[h2]) (by simp;lia) dd e rfl rfl rfl (fun j v p a1 a2=>h3 j v p (by simpa using a1) a2) fun h' tk hd' hk he=>?_
     have hfl:=za4 kvs ps;exact⟨.non,_,zXL I (by rw[hd];exact qE2) hk he (zeX (by rw[qJw];lia) hds (zTA rel h1) hd'),rfl,q⟩
    |cons _ _=>exact qA3 h
   |_=>exact qA3 h
 |_=>exact qA3 h
end
section
end
section
end
end L2
namespace L3
open PySem PySem.Spec
open L2 hiding Rep RepL
open Mi (Dt Xn R okR zA3 optR zA0 zA9 zAC zA8 zAB Rh Sl Ro EM TM AM FM IM SM OM Tg Out zAV zAO zB0 full frz frz1 frzAt)
abbrev wk(kvs:List (Sum Int Str×Mi.Sw)):List (Key×V):=kvs.map fun p=>(p.1,swV p.2)
def zcB(kvs:List (Sum Int Str×Mi.Sw))(k:Key):valV (wk kvs) k=(Mi.getW kvs k).map swV:=by
 unfold valV Mi.getW wk;induction kvs with
 |nil=>rfl
 |cons p r ih=>
  simp only[qAd,qCo];by_cases h:p.1=k
  ·simp[h]
  ·simp only[h,decide_false];exact ih
def zfX(kvs:List (Sum Int Str×Mi.Sw))(k:Key)(u:Mi.Sw):putK (wk kvs) k (swV u)=wk (Mi.putW kvs k u):=by
 unfold putK Mi.putW wk;have e:(kvs.map fun p=>((p.1,swV p.2):Key×V)).any (fun kv=>decide (kv.1=k))=kvs.any fun p=>decide (p.1=k):=by
  rw[qIo];rfl
 rw[e];split
 ·rw[qAx,qAx];refine qAs fun p _=>?_
  by_cases h:p.1=k
  ·simp[h]
  ·simp[h]
 ·simp
def zdE(ps:List (Sum Int Str×Mi.Sw)):∀kvs:List (Sum Int Str×Mi.Sw),(wk ps).foldl (fun m p=>putK m p.1 p.2) (wk kvs)=wk (ps.foldl (fun m p=>Mi.putW m p.1 p.2) kvs):=by
 induction ps with
 |nil=>intro kvs;rfl
 |cons p r ih=>
  intro kvs;show(wk r).foldl (fun m p=>putK m p.1 p.2) (putK (wk kvs) p.1 (swV p.2))=_
  rw[zfX,ih];rfl
section
variable[Kc]{mg:Str->Option Value}{E:XK}{L n k l:Nat}{te ta tb:TE}{e ea eb:EM}
def ky_rep{G:Hp}{d:Dt}{v:V}{q:Sum Int Str}(h:Rep G d v)(e:Mi.kyD d=some q):v=kV q:=by
 cases d with
 |int i=>cases e;exact h
 |str x=>cases e;exact h
 |_=>cases e
def sw_rep{G:Hp}{d:Dt}{v:V}{u:Mi.Sw}(h:Rep G d v)(e:Mi.swD d=some u):v=swV u:=by
 cases d with
 |non=>cases e;exact h
 |bl _=>cases e;exact h
 |int i=>cases e;exact h
 |str x=>cases e;exact h
 |_=>cases e
def zbK:DE mg E zY1 Mi.eDct0 1:=by
 intro G H σ ρ Q s w p a ha;have fr:Fr G H G H (fun _=>False):=⟨Ext.refl s,fun _ z=>z.elim⟩
 exact p (.ref a) G _ _ (fr.add ha (.dK [])) ⟨a,rfl,zAA,.inl rfl⟩
def dt_B(A:DE mg E te e k):DT mg E (L2.tB te) (Mi.tB e):=by
 intro G H σ ρ Q s w p;refine(zAL A).step errT s w p fun d v G1 H1 S _ fr o p1=>?_
 cases d with
 |bl b=>
  cases(show v=.bl b from o)
  exact⟨b,rfl,p1 H1 fr.ext.h⟩
 |_=>exact p1.elim
def de_din(A:DE mg E ta ea k)(B:DE mg E tb eb l):DE mg E (tDIn ta tb) (Mi.eB (Mi.dinD false) ea eb) n:=by
 intro G H σ ρ Q s w p;refine(zAL A).step errE s w p fun d v G1 H1 S _ fr o p1=>?_
 refine(zAL B).step (errE.from fr.ext) fr.ext.in' (w.mono fr.ext.g) p1 fun e u G2 H2 S2 _ fr2 o2 p2=>?_
 cases e with
 |dct kvs=>
  obtain⟨a,rfl,ha⟩:=o2;have p3:PostE mg E G H n (optR (match Mi.kyD d with|some k=>some (.bl (if false=true then !(Mi.getW kvs k).isSome else(Mi.getW kvs k).isSome))|none=>none)) Q:=p2;cases ek:Mi.kyD d with
  |none=>rw[ek]at p3;exact p3.elim
  |some q=>
   rw[ek]at p3;cases ky_rep o ek;refine⟨a,_,rfl,DGet.k (fr2.ext.in' _ _ ha),?_⟩;rw[zcB,qF0];exact PostE.val (PostE.from p3 (fr.ext.trans fr2.ext)) (Ext.refl fr2.ext.in') rfl rfl
 |_=>exact p2.elim
def zbJ(A:DE mg E ta ea k)(B:DE mg E tb eb l):DE mg E (zRJ ta tb) (Mi.eB (Mi.dinD true) ea eb) n:=by
 intro G H σ ρ Q s w p;refine(zAL A).step errE s w p fun d v G1 H1 S _ fr o p1=>?_
 refine(zAL B).step (errE.from fr.ext) fr.ext.in' (w.mono fr.ext.g) p1 fun e u G2 H2 S2 _ fr2 o2 p2=>?_
 cases e with
 |dct kvs=>
  obtain⟨a,rfl,ha⟩:=o2;have p3:PostE mg E G H n (optR (match Mi.kyD d with|some k=>some (.bl (if true=true then !(Mi.getW kvs k).isSome else(Mi.getW kvs k).isSome))|none=>none)) Q:=p2;cases ek:Mi.kyD d with
  |none=>rw[ek]at p3;exact p3.elim
  |some q=>
   rw[ek]at p3;cases ky_rep o ek;refine⟨a,_,rfl,DGet.k (fr2.ext.in' _ _ ha),?_⟩;rw[zcB,qF0];exact PostE.val (PostE.from p3 (fr.ext.trans fr2.ext)) (Ext.refl fr2.ext.in') rfl rfl
 |_=>exact p2.elim
def zM1{G:Hp}:∀{ds:List Dt}{xs:List V}{ps:List (Sum Int Str×Mi.Sw)},Mi.pairsD ds=some ps->RepL G ds xs->xs.length=(wk ps).length/\∀(j:Nat) x p,xs[j]?=some x->(wk ps)[j]?=some p->zc1 G x p
 |[],xs,ps,h,r=>by
  cases h;cases r;exact⟨rfl,fun j x p h=>by simp at h⟩
 |.tup [a,b]::ds,xs,ps,h,r=>by
  unfold Mi.pairsD at h;cases ea:Mi.kyD a with
  |none=>rw[ea]at h;cases h
  |some q=>
   cases eb:Mi.swD b with
   |none=>rw[ea,eb]at h;cases h
   |some u=>
    cases er:Mi.pairsD ds with
    |none=>rw[ea,eb,er]at h;cases h
    |some ps'=>
     rw[ea,eb,er]at h;cases h;obtain⟨x,xs',rfl,hx,hr⟩:=r;obtain⟨i1,i2⟩:=zM1 er hr;refine⟨by simp at i1 ⊢;exact i1,fun j y p h1 h2=>?_⟩;cases j with
     |zero=>
      simp at h1 h2;subst h1 h2;obtain⟨t,ys,rfl,ht,hy⟩:=hx;obtain⟨y1,y2,rfl,g1,g2⟩:=zZY hy;cases ky_rep g1 ea;cases sw_rep g2 eb;exact⟨t,rfl,ht⟩
     |succ j=>exact i2 j y p (by simpa using h1) (by simpa using h2)
 |.tup []::ds,_,_,h,_=>by cases h
 |.tup [_]::ds,_,_,h,_=>by cases h
 |.tup (_::_::_::_)::ds,_,_,h,_=>by cases h
 |.lst _::ds,_,_,h,_=>by cases h
 |.non::ds,_,_,h,_=>by cases h
 |.bl _::ds,_,_,h,_=>by cases h
 |.int _::ds,_,_,h,_=>by cases h
 |.str _::ds,_,_,h,_=>by cases h
 |.scr _::ds,_,_,h,_=>by cases h
 |.exc _ _ _::ds,_,_,h,_=>by cases h
 |.fn _ _::ds,_,_,h,_=>by cases h
 |.ins _ _::ds,_,_,h,_=>by cases h
 |.dct _::ds,_,_,h,_=>by cases h
def zbE(i:Nat)(A:DE mg E te e n):DS mg E L (zGI (tMD updM (vM i) (zES te tNil))) (Mi.sDupd i e):=by
 intro G0 H0 S0 σ ρ G H As D a p;obtain⟨J,x,s,w⟩:=a.full;unfold Mi.sDupd at p;split at p
 ·rename_i kvs k e1
  obtain⟨v,h1,q,rfl,hq,hs⟩:=a.at i _ _ e1;unfold zGI tMD vM;rw[h1];refine⟨⟨_,hq⟩,?_⟩;refine(zAL A).step (errS.from x) x.in' w p fun d y G1 H1 S ee fr o p1=>?_
  split at p1
  ·rename_i ds
   split at p1
   ·rename_i ps ep
    split at p1
    ·rename_i hz
     obtain⟨b0,xs,rfl,hb0,rr⟩:=o;obtain⟨i1,i2⟩:=zM1 ep rr;have a1:=a.grow fr.ext.h;refine⟨wk kvs,xs,wk ps,fr.ext.h _ _ hq,fr.ext.in' _ _ hb0,i1,fun j x p g1 g2=>?_,by simpa using hz,?_⟩
     ·obtain⟨t,e1,e2⟩:=i2 j x p g1 g2;exact⟨t,e1,fr.ext.in' _ _ e2⟩
     ·rw[zdE];exact p1 σ G _ _ (a1.store (o:=.dK (wk (ps.foldl (fun m p=>Mi.putW m p.1 p.2) kvs))) (n:=k+1) (d:=.dct (ps.foldl (fun m p=>Mi.putW m p.1 p.2) kvs)) (S:=As i) hs h1 ⟨q,rfl,zAA,hs⟩ fun b z=>.inl z)
    ·exact p1.elim
   ·exact p1.elim
  ·exact p1.elim
 ·exact p.elim
end
end L3
namespace L2
open PySem PySem.Spec PyProof.Rows
section
def zJD(ns:List Int):(qA4 ns.length).map (fun i=>ns.getD i 0)=ns:=by
 refine qBb (by simp) fun i h1 h2=>?_
 simp[h2]
end
section
end
section
variable{X:Cx}
def zTZ{pos:Pos}{i:Nat}{x:Str}{es:List Expr}{p:Pos}{te:TE}{pos':Pos}(hN:X.N.Nodup)(hi:X.N[i]?=some x)(hx:Loc X.env.scope x)(he:Dr (PE X (.List es p) te))(hf:X.fn x=true\/X.env.scope.names.lookup x=some .local:=by first|exact .inl rfl|exact .inr rfl|assumption) :
  Dr (PS X (.Assign [.Name x pos'] (.List es p) pos) (tAsg te (zFK i))):=⟨zYD hN hi hx he.h rfl hf⟩
end
end L2
namespace L2
open PySem
def uw1{P:List Value->Prop}(h:∀a,P [a]):∀us:List Value,us.length=1->P us
 |[a],_=>h a
def uw2{P:List Value->Prop}(h:∀a b,P [a,b]):∀us:List Value,us.length=2->P us
 |a::us,hl=>uw1 (P:=fun us=>P (a::us)) (h a) us (qIq hl)
def uw3{P:List Value->Prop}(h:∀a b c,P [a,b,c]):∀us:List Value,us.length=3->P us
 |a::us,hl=>uw2 (P:=fun us=>P (a::us)) (h a) us (qIq hl)
def oi{p q:Prop}(h:p\/q:=by first|exact qIz rfl|exact qId rfl):p\/q:=h
end L2
namespace L3
open PySem PySem.Spec
open L2 hiding Rep RepL
open Mi (Dt Xn R okR zA3 optR zA0 zA9 zAC zA8 zAB Rh Sl Ro EM TM AM FM IM SM Tg Out zAV zAO zB0 full frz frz1 frzAt)
section
variable[Kc]
section
end
variable{mg:Str->Option Value}{E:XK}{L:Nat}{te:TE}{e:EM}
def zbD(i:Nat)(A:DE mg E te e 0):DS mg E L (zGI (tML extM (vM i) (zES te tNil))) (Mi.sExt i 0 e):=by
 intro G0 H0 S0 σ ρ G H As D a p;obtain⟨J,x,s,w⟩:=a.full;unfold Mi.sExt at p;split at p
 ·rename_i ds k e1
  obtain⟨v,h1,q,xs,T,rfl,hq,kd⟩:=a.at i _ _ e1;unfold zGI tML vM;rw[h1];refine⟨xs,hq,?_⟩;refine A.step (errS.from x) x.in' w p fun d y G1 H1 S _ fr o p1=>?_
  split at p1
  ·rename_i es
   obtain⟨b0,zs,rfl,hb0,rz⟩:=o;split at p1
   ·rename_i hz
    refine⟨xs,zs,fr.ext.h _ _ hq,fr.ext.in' _ _ hb0,by rw[kd.len,rz.length];exact big' (by lia),?_⟩;have hp:=kd.top;have a1:=a.grow fr.ext.h;refine p1 σ G _ _ (a1.store (S:=As i) hp h1 ⟨q,_,fun r b=>r<ds.length/\T r b,rfl,zAA,⟨by simp[kd.len,rz.length],fun r d' z g1 g2=>?_,hp,fun r z=>kd.out r z.2,fun r r' b z1 z2=>kd.dis r r' b z1.2 z2.2,fun r b z=>kd.sub r b z.2⟩⟩ fun b z=>.inl z)
    by_cases hr:r<ds.length
    ·rw[qA9 hr]at g1;rw[qA9 (by rw[kd.len];exact hr)]at g2;exact(((kd.own r d' z g1 g2).mono (Same.refl _) fr.ext.h).upd (kd.out r)).sub fun b z=>⟨hr,z⟩
    ·rw[qA7 (by lia)]at g1;rw[qA7 (by rw[kd.len];lia),kd.len]at g2;have hd:d'.dep=0:=qGl.mp (zE1 hz.2.1 g1);exact zYI (Rep.scalar (zBV rz g1 g2) hd) hd
   ·exact p1.elim
  ·exact p1.elim
 ·exact p.elim
end
section
variable[Kc]
section
variable{G:Hp}{cl:Addr}{co:Obj}
mutual
def Rep.del(hc:G cl=some (cel co)):∀{d:Dt}{v:V},d.dep<=40->Rep G d v->Rep (del G cl) d v
 |.non,_,_,h=>h
 |.bl _,_,_,h=>h
 |.int _,_,_,h=>h
 |.str _,_,_,h=>h
 |.lst ds,_,hd,h=>by
  obtain⟨a,xs,e,e',r⟩:=h;exact⟨a,xs,e,(zZ4 (zWK e' hc (by simp))).trans e',RepL.del hc (by rw[Dt.dep]at hd;lia) r⟩
 |.tup ds,_,hd,h=>by
  obtain⟨a,xs,e,e',r⟩:=h;exact⟨a,xs,e,(zZ4 (zWK e' hc (by simp))).trans e',RepL.del hc (by rw[Dt.dep]at hd;lia) r⟩
 |.scr _,_,h,_=>by rw[Dt.dep]at h;lia
 |.exc _ _ _,_,h,_=>by rw[Dt.dep]at h;lia
 |.ins _ _,_,h,_=>by rw[Dt.dep]at h;lia
 |.dct _,_,h,_=>by rw[Dt.dep]at h;lia
 |.fn _ _,_,h,_=>by rw[Dt.dep]at h;lia
def RepL.del(hc:G cl=some (cel co)):∀{ds:List Dt}{xs:List V},Dt.depL ds<=40->RepL G ds xs->RepL (del G cl) ds xs
 |[],_,_,h=>h
 |d::r,_,hd,h=>by
  rw[Dt.depL]at hd;obtain⟨x,q,e,a,b⟩:=h;exact⟨x,q,e,Rep.del hc (by lia) a,RepL.del hc (by lia) b⟩
end
end
end
end L3
namespace L3
open PySem PyProof.Rows
open L2 hiding Rep RepL
def fsc{N P:List Str}{sc:Scope}(a:sc.kind=.function:=by rfl)(b:sc.isCoroutine=false:=by rfl)(c:sc.isGenerator=false:=by rfl)(d:N.Nodup:=by decide +kernel)(e:N.take P.length=P:=by rfl)
  (f:∀x∈P,sc.names.lookup x=some .local\/sc.names.lookup x=some .cell:=by decide +kernel) (g:∀y∈sc.names,y.2≠.free:=by decide +kernel):FnScope N P sc:=⟨a,b,c,d,e,f,g⟩
section
variable{P:qJ8}{w:World}{K:qA2}{mg:Str->Option Value}{base:Heap}{x:Str}{st:Stmt}{N ps:List Str}{k:Nat}
def dfM{L n:Nat}{m:Mi.SM}(D:Def K mg x st)(S:FnScope N ps (zA7 st))
  (hb:∀(kV doc pm:Value)(an:Option Addr)(cdv ct:Value)(us:List Value),us.length=ps.length->qM2 (qBt x x (zCC st) (zBD st) (zA7 st) .none kV doc pm an cdv ct) ⟨us,[]⟩=pure (ps.zip us))
  (hbody:∀{f:Addr}{cdv:Value}{A:qJb}{outer:List Env}{s:qJ5}{H:Hp}{vs:List V}{Q:VK}{E:XK},Room k (A.deeper (envOfC x (zA7 st) s.heap.objs.size f cdv))->(A.deeper (envOfC x (zA7 st) s.heap.objs.size f cdv)).units+64<cLine->sp0 K mg L (Mi.runF ps.length n m) vs H Q E ->
   ∃t,PSs (cxOf CX0 P w K mg base N x (zA7 st) f cdv A outer s H E).nox (zBD st) t/\t { nx:=fun _ H'=>Q .non H',rt:=Q } (start N vs) H):Has P w K mg base x (k+1) ps (sp0 K mg L (Mi.runF ps.length n m)):=
 D.ok S hb (fun _ _ _ _ h=>@zNO ⟨K⟩ _ _ _ _ _ _ _ _ _ h) fun _ _ _ _ _ _ _ _ _ hr h=>hbody hr hr.units h
def dfX{L n:Nat}{m:Mi.SM}(D:Def K mg x st)(S:FnScope N ps (zA7 st))
  (hb:∀(kV doc pm:Value)(an:Option Addr)(cdv ct:Value)(us:List Value),us.length=ps.length->qM2 (qBt x x (zCC st) (zBD st) (zA7 st) .none kV doc pm an cdv ct) ⟨us,[]⟩=pure (ps.zip us))
  (hbody:∀{f:Addr}{cdv:Value}{A:qJb}{outer:List Env}{s:qJ5}{H:Hp}{vs:List V}{Q:VK}{E:XK},Room k (A.deeper (envOfC x (zA7 st) s.heap.objs.size f cdv))->(A.deeper (envOfC x (zA7 st) s.heap.objs.size f cdv)).units+64<cLine->spE K mg L (Mi.runF ps.length n m) vs H Q E ->
   ∃t,PSs (cxOf (CXe P w) P w K mg base N x (zA7 st) f cdv A outer s H E) (zBD st) t/\t { nx:=fun _ H'=>Q .non H',rt:=Q } (start N vs) H):HasX P w K mg base x (k+1) ps (spE K mg L (Mi.runF ps.length n m)):=
 D.okX S hb (fun _ _ _ _ h=>@zNO ⟨K⟩ _ _ _ _ _ _ _ _ _ h) fun _ _ _ _ _ _ _ _ _ hr h=>hbody hr hr.units h
def mkD{K:qA2}{h:Heap}{mg:Str->Option Value}{nm:Str}{st:Stmt}{f:Addr}{oc kV dc pm cd ct:Value}{od an:Option Addr}{sl:Array (Option Value)}(X:K.In h)(G:h.Ns qJf mg)(a:qC3 K qJf nm=some (some (.ref f)))(l:K.lookup f=some ⟨oc,od,.func (qBt nm nm (zCC st) (zBD st) (zA7 st) .none kV dc pm an cd ct),sl⟩)(c:qDd K cd nm=true)(k:qBj K (.ref f)=true):Def K mg nm st:=⟨f,_,zTT (st:=st) l c k,qDb X G a⟩
end
section
variable{X:Cx}{pos:Pos}
def pgn(i:Nat){x:Str}(hN:decide X.N.Nodup=true:=by kernel_rfl)(hi:X.N[i]?=some x:=by rfl)(hx:Loc X.env.scope x:=by exact oi)(hf:X.fn x=true\/X.env.scope.names.lookup x=some .local:=by first|exact .inl rfl|exact .inr rfl|assumption):PG X (.Name x pos) (zFK i):=zBO (of_decide_eq_true hN) hi hx hf
def pst(i:Nat){x:Str}{e:Expr}{te:TE}{pos':Pos}(hN:X.N.Nodup)(he:PE X e te)(hi:X.N[i]?=some x:=by rfl)(hx:Loc X.env.scope x:=by exact oi)(hs:qM1 e (some (.Name x pos')) pos.line X.env=pure false:=by rfl)(hf:X.fn x=true\/X.env.scope.names.lookup x=some .local:=by first|exact .inl rfl|exact .inr rfl|assumption):PS X (.Assign [.Name x pos'] e pos) (tAsg te (zFK i)):=zYD hN hi hx he hs hf
end
section
end
end L3
namespace L3
open PySem PySem.Spec
open L2 hiding Rep RepL
open Mi (Dt okR)
section
variable[Kc]
end
section
variable[Kc]
end
end L3
namespace L3
open PySem PySem.Spec PyProof.Rows
open L2 hiding Rep RepL
structure Tabs(K:qA2)(ts:List Addr):Prop where
 no:∀P∈ts,K.lookup P=none
 «in»:∀x∈makers,∀P,codP K x=some P->(lamK K x).isSome=true->P∈ts/\∃c,qFk K c P=true
def zLI{K:qA2}{ts:List Addr}(T:Tabs K ts){P:Addr}{u:HO}(h:tabK K P=some u):P∈ts/\(∃q,u=.lam q)/\∃c,qFk K c P=true:=by
 unfold tabK at h;cases e:makers.find? fun x=>codP K x==some P&&(lamK K x).isSome with
 |none=>rw[e]at h;cases h
 |some x=>
  rw[e]at h;cases h;have h1:=List.mem_of_find?_eq_some e;have h2:=qHj e;simp only[qBi,beq_iff_eq]at h2;obtain⟨a,b⟩:=T.in x h1 P h2.1 h2.2;exact⟨a,⟨_,rfl⟩,b⟩
def zT9{P:qJ8}{w:World}{K:qA2}{mg mb:Str->Option Value}{CX:CXT}{k:Nat}{fa a:Addr}{fd:qJr}{x:Str}{sp:Sp}{s₁:qJ5}{vs:List Value}{ns:List Int}{ts:List Addr}
  (KX:K.In s₁.heap) (hT:∀P∈ts,s₁.heap.get? P=some (qGg #[])) (T:Tabs K ts) (hns:s₁.heap.Ns qJf mg) (hb:s₁.heap.Ns qKz mb) (hbb:∀x:Str,x≠"__name__"->mb x=qKj x) (hlim:s₁.heap.NoLimit)
  (hbm:∃bm ob,mg "__builtins__" = some (.ref bm)/\bm≠qKz/\s₁.heap.get? bm=some ob/\ob.cls=.type "module"/\ob.dict=some qKz/\ob.data=.plain) (hg:s₁.gens=#[])
  (ha:s₁.heap.get? a=some { cls:=.type "list",data:=.seq vs.toArray }) (hi:qM8 vs ns) (hl:ns.length<=sizeLine) (hr:Room k qLx)
  (F:∀base:Heap,K.In base->base.Ns qJf mg->FnOk P w K mg base CX k fa fd [x] sp) (hbind:∀(s:qJ5)(u:Value),qM6 s fd ⟨[u],[]⟩ [(x,u)])
  (hsp:∀H:Hp,Same (tabK K) H->SqL K H a (ns.map V.int)->sp [.ref a] H (fun v H'=>v=.bl true/\Same (tabK K) H') fun _ _ _=>False)
  (hCX:∀H e s',CX [] H s₁ (fun _ _ _=>False) e s'->False) :
  qKr (model P w) qLx (.call (.ref fa) ⟨[.ref a],[]⟩) (fun r s'=>r=.ok (.ret (.bool true))/\OldK s₁.heap s'.heap/\s'.os=s₁.os/\qLe s'.gens) s₁:=by
 have rv:=zLG hi;have lenV:=hi.length;have tabO:∀{b:Addr}{u:HO},tabK K b=some u->s₁.heap.get? b=some (qGg #[]):=fun e=>hT _ (zLI T e).1
 have core:∀H:Hp,(∀b u,H b=some u->(b=a/\∃o xs,u=.frz o (.lst xs))\/tabK K b=some u)->Same (tabK K) H->SqL K H a (ns.map V.int)->HOk P w H s₁.heap->(∀b,H b≠none->K.lookup b=none) ->
   qKr (model P w) qLx (.call (.ref fa) ⟨[.ref a],[]⟩) (fun r s'=>r=.ok (.ret (.bool true))/\OldK s₁.heap s'.heap/\s'.os=s₁.os/\qLe s'.gens) s₁:=by
  intro H hO hTab hS hok hK;have base_of:∀{b:Addr}{o:Obj},s₁.heap.get? b=some o->H b=none->(hidT s₁.heap H).get? b=some o:=fun e n=>zX4 e n
  have noA:∀{b:Addr}{o:Obj},s₁.heap.get? b=some o->(∀v,o.data≠.fields v)->(∀v n,o.data≠.seq v n)->H b=none:=fun{b o} e d1 d2=>by
   cases q:H b with
   |none=>rfl
   |some u=>
    rcases hO b u q with⟨z,_⟩|z
    ·subst z;rw[ha]at e;cases e;exact absurd rfl (d2 _ _)
    ·rw[tabO z]at e;cases e;exact absurd rfl (d1 _)
  have nsK:∀{b:Addr}{m:Str->Option Value},s₁.heap.Ns b m->(hidT s₁.heap H).Ns b m:=fun{b m} ⟨o,es,ep,e,d,r⟩=>⟨o,es,ep,base_of e (noA e (fun v z=>by rw[d]at z;cases z) fun v n z=>by rw[d]at z;cases z),d,r⟩
  have hKb:K.In (hidT s₁.heap H):=fun b o e=>base_of (KX b o e) (by
   cases q:H b with
   |none=>rfl
   |some u=>rw[hK b (by rw[q];simp)]at e;cases e)
  have hM:Mod K mg (hidT s₁.heap H):=⟨hKb,nsK hns,⟨mb,nsK hb,hbb⟩,let⟨mc,h1,h2⟩:=hlim;⟨mc,nsK h1,h2⟩,let⟨bm,ob,e1,e2,e3,e4,e5,e6⟩:=hbm;⟨bm,ob,e1,e2,base_of e3 (noA e3 (fun v z=>by rw[e6]at z;cases z) fun v n z=>by rw[e6]at z;cases z),e4,e5,e6⟩⟩
  have e0:Env0 P w K mg (hidT s₁.heap H) qLx [] s₁ H:=⟨rfl,hM,fun b o e=>zaE e,qFx (zTS _ _),trivial,fun b hb=>absurd (show b∈([]:List Addr) from hb) (by simp),hok,.of_eq hg⟩
  refine codeAny_mono ((F _ hKb (nsK hns)).run qLx [] s₁ H ⟨[.ref a],[]⟩ [.ref a] [.ref a] _ _ hr e0 (hbind s₁ (.ref a)) (.cons rfl .nil) (hsp H hTab hS)) fun r s' h=>?_
  cases r with
  |error e=>exact(hCX H e s' h).elim
  |ok fl=>
   cases fl with
   |next=>exact qA3 h
   |brk=>exact qA3 h
   |cont=>exact qA3 h
   |ret u=>
    obtain⟨v,H',os,bare,un,hok',r',q,qT⟩:=h;subst q;obtain rfl:u=qKh true:=r';refine⟨rfl,⟨fun b o e=>?_,fun b o e=>un.there b o e (by simp)⟩,os,bare⟩;cases q:H b with
    |none=>exact .inl (un.keep b o e q (by intro z;exact absurd (show b∈([]:List Addr) from z) (by simp)) (by simp))
    |some u=>
     rcases hO b u q with⟨_,ob,xs,rfl⟩|z
     ·have z2:=un.frzs b ob _ q;obtain⟨e1,_⟩:=hok b _ q;obtain⟨e2,_⟩:=hok' b _ z2;rw[e]at e1;cases e1;exact .inl e2
     ·obtain⟨hts,⟨qq,rfl⟩,c,hc⟩:=zLI T z;obtain⟨ps,e2,_⟩:=hok' b _ (qT _ _ z);have e3:=hT b hts;rw[e3]at e;cases e;exact .inr (.inl ⟨((PySem.W.codeHd_of_K KX hc).tab e3).isCodeTable,rfl,#[],ps,rfl,by rw[e2];simp⟩)
 have tOk:∀{H:Hp}{b:Addr}{u:HO},tabK K b=some u->ObjOk P w H s₁.heap b u:=fun{H b u} z=>by
  obtain⟨hts,⟨q,rfl⟩,_⟩:=zLI T z;exact⟨#[],hT b hts,trivial,fun pos cv y=>by simp[codeAmong]at y⟩
 have nta:tabK K a=none:=by
  cases z:tabK K a with
  |none=>rfl
  |some u=>have:=tabO z;rw[ha]at this;cases this
 cases hk:K.lookup a with
 |some o=>
  have e:=KX a o hk;rw[ha]at e;cases e;exact core (tabK K) (fun b u z=>.inr z) (Same.refl _) (.inr ⟨_,vs.toArray,_,hk,rfl,rfl,rfl,by rw[qAg,lenV];exact hl,by simpa using rv⟩) (fun b u z=>tOk z) fun b z=>by
   cases y:tabK K b with
   |none=>exact absurd y z
   |some u=>exact T.no b (zLI T y).1
 |none=>
  refine core (upd (tabK K) a (.frz { cls:=.type "list",data:=.seq vs.toArray } (.lst (ns.map V.int)))) (fun b u z=>?_) (fun b u z=>?_) (.inl (.inr ⟨{ cls:=.type "list",data:=.seq vs.toArray },zAA⟩)) (fun b u z=>?_) fun b z=>?_
  ·by_cases hb:b=a
   ·subst hb;rw[zAA]at z;cases z;exact .inl ⟨rfl,_,_,rfl⟩
   ·rw[zAD hb]at z;exact .inr z
  ·rw[zAD (zAK z nta)];exact z
  ·by_cases hb:b=a
   ·subst hb;rw[zAA]at z;cases z;exact⟨ha,by rw[qAe];exact hl,vs,_,rv,ha⟩
   ·rw[zAD hb]at z;exact tOk z
  ·by_cases hb:b=a
   ·subst hb;exact hk
   ·rw[zAD hb]at z;cases y:tabK K b with
    |none=>exact absurd y z
    |some u=>exact T.no b (zLI T y).1
def zV7{l:qEp}{n k:Nat}{q:qJ8}{loose:List Str}{XP:(Str->Option Value)->Heap->Prop}{YP:World->Heap->Prop}{d:DefRec}{K:Params->qA2}{CX:World->CXT}{sp:World->Sp}{x:Str}{ts:List Addr}
  (hn:l.most=some n) (hn2:n<=sizeLine) (hdf:d.params.defaults=[]) (hr:Room k qLx)
  (hY:∀(w:World)(h:Heap),YP w h->(K w.params).In h/\∀P∈ts,h.get? P=some (qGg #[]))
  (F:∀(w:World)(mg:Str->Option Value)(fa:Addr)(h:Heap),(K w.params).In h->h.Ns qJf mg->mg d.name=some (.ref fa) ->
   Tabs (K w.params) ts/\∃fd:qJr,(∀(s:qJ5)(u:Value),qM6 s fd ⟨[u],[]⟩ [(x,u)]) /\
    ∀base:Heap,(K w.params).In base->base.Ns qJf mg->FnOk l.prog w (K w.params) mg base (CX w) k fa fd [x] (sp w))
  (hsp:∀(w:World)(H:Hp)(a:Addr)(ns:List Int),ns.length<=n->(∀i∈ns,i.natAbs.log2<2 ^ 20)->Same (tabK (K w.params)) H->SqL (K w.params) H a (ns.map V.int)->sp w [.ref a] H (fun v H'=>v=.bl true/\Same (tabK (K w.params)) H') fun _ _ _=>False)
  (hCX:∀(w:World)(H:Hp)(s:qJ5)(e:Value)(s':qJ5),CX w [] H s (fun _ _ _=>False) e s'->False) :
  qGp q loose XP YP l.row.toRowW d [] (fun f vs=>qGy f vs):=by
 refine Att.attach_callW hn hdf fun w s₀ s₁ mg mb fa o pm cd doc a vs ns G Y ho hd hcd hmg hobj hints hlen hw hg=>?_
 obtain⟨KX,hT⟩:=hY w _ Y;obtain⟨T,fd,hb,hF⟩:=F w mg fa _ KX G.T.g hmg;exact zT9 KX hT T G.T.g G.T.b G.T.builtins G.T.nolimit G.T.bmain hg hobj hints (qAq hlen hn2) hr hF hb (fun H hO hS=>hsp w H a ns hlen hw hO hS) fun H e s'=>hCX w H s₁ e s'
end L3
namespace Mi
open PySem
def lamF(n:Nat)(e:EM):FM:=fun ds=>if ds.length=n then e (ds.map some)else none
section
variable(ρ:Rh)(r:Ro)(a:EM)(am:AM)
@[simp] theorem x_tL:tL a ρ=zA3 (a ρ) fun x=>match x with | .bl k=>okR k | .int i=>okR (i != 0) | .non=>okR false | .lst xs=>okR (!xs.isEmpty) | .tup xs=>okR (!xs.isEmpty)|_=>none:=rfl
@[simp] theorem x_eMl(f:List Dt->List Dt->Option Dt):eMl f a am ρ=zA3 (a ρ) fun x=>match x with | .lst xs=>zA3 (am ρ) fun ds=>optR (f xs ds)|_=>none:=rfl
@[simp] theorem x_iRv:iRv am ρ=zA3 (am ρ) fun vs=>match vs with|[.lst xs]=>okR xs.reverse|_=>none:=rfl
@[simp] theorem v_xor(i j:Int):xorD (.int i) (.int j)=some (.int (qKd i j)):=rfl
@[simp] theorem zfM(xs:List Dt)(k:Int):repD (.lst xs) (.int k)=@ite _ ((-4611686018427387904<=k/\k<4611686018427387904)/\xs.length*k.toNat<=100000) (qA6 _) (some (.lst (qA8 k.toNat xs).flatten)) none:=rfl
end
end Mi
namespace L3
open PySem PyProof.Rows
open L2 hiding Rep RepL
structure Mk1(K:qA2)(ts:List Addr)(x:Str)(r:Option Addr):Prop where
 cod:codP K x=r
 lam:(lamK K x).isSome=r.isSome
 hd:∀P,r=some P->P∈ts/\∃c,qFk K c P=true
def mk1_none{K:qA2}{ts:List Addr}{x:Str}(a:qC3 K qJf x=some none):Mk1 K ts x none:=
 ⟨by unfold codP;rw[a],by unfold lamK;rw[a];rfl,fun _ z=>by cases z⟩
structure Tb(K:qA2)(ts:List Addr)(r1 r2 r3:Option Addr):Prop where
 m1:Mk1 K ts "turned_at" r1
 m2:Mk1 K ts "exchanged_at" r2
 m3:Mk1 K ts "pivoted" r3
section
variable{K:qA2}{ts:List Addr}{r1 r2 r3:Option Addr}
def Tb.tabs(T:Tb K ts r1 r2 r3)(no:∀P∈ts,K.lookup P=none):Tabs K ts:=⟨no,fun x hx P h _=>by
 unfold makers at hx;simp only[qAc,qBm,or_false]at hx;rcases hx with rfl|rfl|rfl
 ·exact T.m1.hd P (T.m1.cod.symm.trans h)
 ·exact T.m2.hd P (T.m2.cod.symm.trans h)
 ·exact T.m3.hd P (T.m3.cod.symm.trans h)⟩
end
def TbE(K:qA2)(ts:List Addr):Prop:=∃r1 r2 r3,Tb K ts r1 r2 r3
def walk_of0{l:qEp}{n k:Nat}{q:qJ8}{loose:List Str}{XP:(Str->Option Value)->Heap->Prop}{YP:World->Heap->Prop}{d:DefRec}{K:Params->qA2}{x:Str}
  (hn:l.most=some n) (h63:n<=63) (hdf:d.params.defaults=[]) (hr:Room k qLx) (hY:∀(w:World)(h:Heap),YP w h->(K w.params).In h)
  (F:∀(w:World)(mg:Str->Option Value)(fa:Addr)(h:Heap),(K w.params).In h->h.Ns qJf mg->mg d.name=some (.ref fa) ->
   TbE (K w.params) []/\∃fd:qJr,(∀(s:qJ5)(u:Value),qM6 s fd ⟨[u],[]⟩ [(x,u)]) /\
    ∀base:Heap,(K w.params).In base->base.Ns qJf mg->FnOk l.prog w (K w.params) mg base CX0 k fa fd [x] (zJ9 (K w.params))) :
  qGp q loose XP YP l.row.toRowW d [] (fun f vs=>qGy f vs):=
 zV7 (K:=K) (ts:=[]) (CX:=fun _=>CX0) (sp:=fun w=>zJ9 (K w.params)) hn (qAq h63 (by decide)) hdf hr (fun w h Y=>⟨hY w h Y,fun P z=>absurd z (by simp)⟩)
  (fun w mg fa h KX G hm=>let⟨⟨_,_,_,T⟩,r⟩:=F w mg fa h KX G hm;⟨T.tabs fun P z=>absurd z (by simp),r⟩)
  (fun _ _ a ns hl hw hT hS=>⟨a,ns,rfl,hT,hS,qAq hl h63,hw,fun _ z=>⟨rfl,z⟩⟩) fun _ _ _ _ _ z=>z
end L3
namespace Mi
open PySem
@[simp] theorem okR_inj{α:Type}{a b:α}:okR a=okR b↔a=b:=⟨fun h=>by cases h;rfl,fun h=>by rw[h]⟩
@[simp] theorem zc7(vs:List Nat)(it:IM)(tg:Tg)(b:SM)(r:Ro):sFor vs it tg b r=zA3 (it (frz (frzAt vs r))) fun ds=>forGo tg b ds (frzAt vs r):=rfl
@[simp] theorem zFS(it:IM)(i:Nat)(b:SM)(r:Ro):sForR it i b r=zA3 (it (full r)) fun ds=>forGo (.one i) b ds r:=rfl
@[simp] theorem zZH(e:EM)(ρ:Rh):iSq e ρ=zA3 (e ρ) fun d=>match d with | .lst xs=>okR xs | .tup xs=>okR xs | .scr ns=>okR (ns.map .int) | .str z=>okR (signsD z)|_=>none:=rfl
@[simp] theorem x_iEn(e:AM)(ρ:Rh):iEn e ρ=zA3 (e ρ) fun vs=>match vs with|[.lst xs]=>okR (enumD 0 xs)|_=>none:=rfl
@[simp] theorem x_iZi(e:AM)(ρ:Rh):iZi e ρ=zA3 (e ρ) fun vs=>match vs with|[.lst xs,.lst ys]=>okR (zipD xs ys)|_=>none:=rfl
def zFT{e:AM}{ρ:Rh}{n:Nat}(h:e ρ=okR [.int n])(hn:n<=100000):iR1 e ρ=okR (nums 0 n):=by
 unfold iR1;rw[h,zA0];dsimp only;rw[if_pos (by lia)];simp
def zFE(n:Nat):nums 0 n=(qA4 n).map fun i:Nat=>Dt.int (i:Int):=by
 unfold nums;exact qAs fun i _=>by simp
def zMR{α β:Type}{j:Nat}{b:SM}(en:β->Dt)(Enc:α->Ro->Prop)(f:α->β->α):∀(ns:List β)(a:α)(r:Ro),Enc a r->(∀n∈ns,∀a r,Enc a r->∃r',b (r.set j (some (en n,0)))=okR (.nx r')/\Enc (f a n) r')->∃r',forGo (.one j) b (ns.map en) r=okR (.nx r')/\Enc (ns.foldl f a) r'
 |[],a,r,h,_=>⟨r,by simp[forGo],h⟩
 |d::ds,a,r,h,hs=>by
  obtain⟨r1,h2,h3⟩:=hs d (by simp) a r h;obtain⟨r2,h4,h5⟩:=zMR en Enc f ds (f a d) r1 h3 fun e he=>hs e (by simp[he])
  refine⟨r2,?_,h5⟩;rw[qAd,forGo];show zA3 (b (zB0 r [(j,en d)])) _=_;show zA3 (b (r.set j (some (en d,0)))) _=_;rw[h2,zA0];exact h4
def nxR(x:R Out)(P:Ro->Prop):Prop:=match x with
 |some (.ok (.nx r))=>P r
 |_=>False
@[simp] theorem x_nxR(r:Ro)(P:Ro->Prop):nxR (okR (.nx r)) P=P r:=rfl
def zC4{x:R Out}{P:Ro->Prop}(h:nxR x P):∃r',x=okR (.nx r')/\P r':=by
 unfold nxR at h;split at h
 ·exact⟨_,rfl,h⟩
 ·exact h.elim
def zAQ{x:R Out}{P:Ro->Prop}{r:Ro}(h:x=okR (.nx r))(hp:P r):nxR x P:=by rw[h];exact hp
def zcA{i n:Nat}{e:EM}{r:Ro}{ds:List Dt}{k:Nat}{d:Dt}(h:r[i]?=some (some (.lst ds,k+1)))(he:e (full r)=okR d)(h1:ds.length<=100000)(h2:d.dep<=n)(h3:d.dep<=k):sApp i n e r=okR (.nx (r.set i (some (.lst (ds++[d]),k+1)))):=by
 unfold sApp;rw[h];dsimp only;rw[he,zA0,if_pos ⟨h1,h2,h3⟩]
def zQM{i j:Int}(h:-18446744073709551616<i)(h':i<18446744073709551616):mulD (.int i) (.int j)=some (.int (i*j)):=by
 rw[zZJ,if_pos (.inl (.inl ⟨h,h'⟩))]
def zWL{i j:Int}(h:-18446744073709551616<j)(h':j<18446744073709551616):mulD (.int i) (.int j)=some (.int (i*j)):=by
 rw[zZJ,if_pos (.inl (.inr ⟨h,h'⟩))]
def zEB{ρ:Rh}{c:TM}{e:EM}{i:Nat}(g:Nat->Dt)(n:Nat)(hc:c=tYes)(hi:i=ρ.length)(h:∀k,k<n->e (ρ++[some (.int (k:Nat))])=okR (g k))(it:IM)(hit:it ρ=okR (nums 0 n))(hn:n<=100000):eComp it 1 (.one i) c e ρ=okR (.lst ((qA4 n).map g)):=by
 subst hc hi;unfold eComp;rw[hit,zA0,if_pos ⟨by simpa[nums]using hn,by simp[Tg.idx]⟩];rw[zPV (fun d=>match d with | .int k=>g k.toNat|_=>.non) _ [] fun d hd=>?_]
 ·rw[zA0,zFE,qAx];simp only[qHc]
  congr 2
 ·rw[zFE]at hd;obtain⟨k,hk,rfl⟩:=qAi.mp hd;refine⟨_,rfl,rfl,?_⟩
  have:zAO (ρ++qA8 1 none) [(ρ.length,Dt.int (k:Int))]=ρ++[some (.int (k:Nat))]:=by
   simp[zAO]
  rw[this];simpa using h k (by simpa using hk)
def zB1{ρ:Rh}{c:TM}{e:EM}{i:Nat}{β:Type}(en:β->Dt)(g:β->Dt)(ns:List β)(hc:c=tYes)(hi:i=ρ.length)(h:∀k,k∈ns->e (ρ++[some (en k)])=okR (g k))(it:IM)(hit:it ρ=okR (ns.map en))(hn:ns.length<=100000):eComp it 1 (.one i) c e ρ=okR (.lst (ns.map g)):=by
 subst hc hi;unfold eComp;rw[hit,zA0,if_pos ⟨by simpa using hn,by simp[Tg.idx]⟩]
 have:∀(ns:List β)(acc:List Dt),(∀k,k∈ns->e (ρ++[some (en k)])=okR (g k))->compGo ρ 1 (.one ρ.length) tYes e (ns.map en) acc=okR (acc++ns.map g):=by
  intro ns;induction ns with
  |nil=>intro acc _;simp[compGo]
  |cons d r ih=>
   intro acc h;rw[qAd,compGo];have e1:zAO (ρ++qA8 1 none) [(ρ.length,en d)]=ρ++[some (en d)]:=by simp[zAO]
   show zA3 (tYes _) _=_;simp only[zc5,zA0,if_true];show zA3 (e (zAO (ρ++qA8 1 none) [(ρ.length,en d)])) _=_;rw[e1,h d (by simp),zA0,ih _ fun k hk=>h k (by simp[hk])];simp
 rw[this ns [] h,zA0];simp
def zBG{a b:SM}{r:Ro}{X:R Out}(h:∀bb:SM,bb=b->nxR (a r) fun r1=>bb r1=X):sSeq a b r=X:=by
 obtain⟨r1,h1,h2⟩:=zC4 (h b rfl);unfold sSeq;rw[h1,zA0];exact h2
def zD7{a b:SM}{r:Ro}{P:Ro->Prop}(h:∀bb:SM,bb=b->nxR (a r) fun r1=>nxR (bb r1) P):nxR (sSeq a b r) P:=by
 obtain⟨r1,h1,h2⟩:=zC4 (h b rfl);unfold sSeq;rw[h1,zA0];exact h2
def zB6{P n:Nat}{b:SM}{ds:List Dt}{d:Dt}(h:ds.length=P)(hb:b (startO n ds)=okR (.rt d)):runF P n b ds=okR d:=by
 unfold runF;rw[if_pos h,hb];rfl
def zQK{j n:Nat}{b:SM}{r:Ro}{X:Ro->Prop}(Pv:Nat->Ro->Prop)(h:Pv 0 r)(hs:∀k,k<n->∀r,Pv k r->nxR (b (r.set j (some (.int (k:Nat),0)))) (Pv (k+1)))(hK:∀r',Pv n r'->X r'):nxR (forGo (.one j) b (nums 0 n) r) X:=by
 obtain⟨r',h1,h2⟩:∃r',forGo (.one j) b (nums 0 n) r=okR (.nx r')/\Pv n r':=by
  obtain⟨r',h1,h2⟩:=zKT (tg:=.one j) (b:=b) Pv (nums 0 n) 0 r h fun k d r hd hp=>by
   rw[zFE,qAb]at hd;cases e:(qA4 n)[k]? with
   |none=>rw[e]at hd;cases hd
   |some q=>
    rw[e]at hd;cases hd;obtain⟨h1,h2⟩:=qA5.mp e;rw[qBx]at h2;subst h2;rw[qC4]at hp;obtain⟨r',g1,g2⟩:=zC4 (hs k (by simpa using h1) r hp);exact⟨_,r',rfl,g1,by rw[qC4];exact g2⟩
  exact⟨r',h1,by simpa[nums]using h2⟩
 rw[h1];exact hK r' h2
def zaH{γ:Type}{j:Nat}{b:SM}{r:Ro}{X:Ro->Prop}(en:γ->Dt)(ns:List γ)(Pv:Nat->Ro->Prop)(h:Pv 0 r)(hs:∀k x,ns[k]?=some x->∀r,Pv k r->nxR (b (r.set j (some (en x,0)))) (Pv (k+1)))(hK:∀r',Pv ns.length r'->X r'):nxR (forGo (.one j) b (ns.map en) r) X:=by
 obtain⟨r',h1,h2⟩:=zKT (tg:=.one j) (b:=b) Pv (ns.map en) 0 r h fun k d r hd hp=>by
  rw[qAb]at hd;cases e:ns[k]? with
  |none=>rw[e]at hd;cases hd
  |some q=>
   rw[e]at hd;cases hd;rw[qC4]at hp;obtain⟨r',g1,g2⟩:=zC4 (hs k q e r hp);exact⟨_,r',rfl,g1,by rw[qC4];exact g2⟩
 rw[h1];exact hK r' (by simpa using h2)
def zaG{α γ:Type}{j:Nat}{b:SM}{r:Ro}{X:Ro->Prop}(en:γ->Dt)(ns:List γ)(Enc:α->Ro->Prop)(f:α->γ->α)(a:α)(h:Enc a r)(hs:∀n∈ns,∀a r,Enc a r->nxR (b (r.set j (some (en n,0)))) (Enc (f a n)))(hK:∀r',Enc (ns.foldl f a) r'->X r'):nxR (forGo (.one j) b (ns.map en) r) X:=by
 obtain⟨r',h1,h2⟩:=zMR en Enc f ns a r h fun n hn a r hr=>zC4 (hs n hn a r hr)
 rw[h1];exact hK r' h2
def zWG{c:TM}{b:SM}{r:Ro}{X:Ro->Prop}(Pv:Ro->Prop)(μ:Ro->Nat)(Rv:Ro->Prop)(h0:Pv r)(hm:μ r<1000000)(hc:∀r,Pv r->(c (full r)=okR false/\Rv r)\/(c (full r)=okR true/\nxR (b r) fun r'=>Pv r'/\μ r'<μ r))(hK:∀r',Rv r'->X r'):nxR (sWhile c b r) X:=by
 obtain⟨r',h1,h2⟩:=zQA Pv μ Rv h0 hm fun r hr=>(hc r hr).imp (fun z=>z) fun z=>⟨z.1,zC4 z.2⟩
 rw[h1];exact hK r' h2
def zMG:∀(a b:List Char),a.map qJ1=b.map qJ1->a=b
 |[],[],_=>rfl
 |[],_::_,h=>by simp at h
 |_::_,[],h=>by simp at h
 |x::r,y::q,h=>by
  simp only[qAd,List.cons.injEq]at h;rw[zMG r q h.2];have:x=y:=Char.toNat_inj.mp h.1;rw[this]
@[simp] theorem str_inj(a b:String):(qJm a=qJm b)↔a=b:=by
 constructor
 ·intro h;rw[qK2,qK2]at h;simp only[Str.mk.injEq,List.toArray_inj]at h
  have:=zMG _ _ (by simpa using h)
  exact String.toList_inj.mp this
 ·intro h;rw[h]
def zPP:∀(ds:List Dt)(n i:Nat)(d:Dt),(enumD n ds)[i]?=some d->∃e,ds[i]?=some e/\d=.tup [.int ((n+i:Nat):Int),e]
 |[],_,_,_,h=>by simp[enumD]at h
 |x::r,n,0,d,h=>by simp[enumD]at h;exact⟨x,by simp,by rw[<- h];rfl⟩
 |x::r,n,i+1,d,h=>by
  rw[enumD]at h;obtain⟨e,h1,h2⟩:=zPP r (n+1) i d (by simpa using h);exact⟨e,by simpa using h1,by rw[h2,show n+1+i=n+(i+1) by lia]⟩
def zKX:∀(ds:List Dt)(n:Nat),(enumD n ds).length=ds.length
 |[],_=>rfl
 |_::r,n=>by rw[enumD,qAj,qAj,zKX r]
def zO3{a b:Nat}{s:SM}{r:Ro}{X:Ro->Prop}(xs:List Dt)(Pv:Nat->Ro->Prop)(h:Pv 0 r)(hs:∀k x,xs[k]?=some x->∀r,Pv k r->nxR (s ((r.set a (some (.int (k:Nat),0))).set b (some (x,0)))) (Pv (k+1)))(hK:∀r',Pv xs.length r'->X r'):nxR (forGo (.tup [a,b]) s (enumD 0 xs) r) X:=by
 obtain⟨r',h1,h2⟩:=zKT (tg:=.tup [a,b]) (b:=s) Pv (enumD 0 xs) 0 r h fun k d r hd hp=>by
  obtain⟨e,g1,rfl⟩:=zPP xs 0 k d hd;rw[qC4]at hp;obtain⟨r',g2,g3⟩:=zC4 (hs k e g1 r hp);refine⟨_,r',rfl,?_,by rw[qC4];exact g3⟩;rw[qC4];exact g2
 rw[h1];exact hK r' (by simpa[zKX]using h2)
section
variable(ρ:Rh)(a:EM)(am:AM)(lo hi:OM)
@[simp] theorem zfH:eSl a lo hi ρ=zA3 (a ρ) fun x=>zA3 (lo ρ) fun l=>zA3 (hi ρ) fun h=>optR (slD x l h):=rfl
@[simp] theorem zfG:oNo ρ=okR none:=rfl
@[simp] theorem x_oE:oE a ρ=zA3 (a ρ) fun d=>match d with | .int i=>okR (some i)|_=>none:=rfl
@[simp] theorem zV3(f:Dt->List Dt->Option Dt):eMt f a am ρ=zA3 (a ρ) fun x=>if zPK x=true then zA3 (am ρ) fun xs=>optR (f x xs)else none:=rfl
@[simp] theorem v_isStr(z:Str):zPK (.str z)=true:=rfl
end
@[simp] theorem v_slL(xs:List Dt)(l h:Option Int):slD (.lst xs) l h=some (.lst (cutA xs l h)):=rfl
@[simp] theorem zfL(z:Str)(l h:Option Int):slD (.str z) l h=@ite _ (z.length<=100000) (qA6 _) (some (.str ⟨(cutA z.cps.toList l h).toArray⟩)) none:=rfl
@[simp] theorem v_ixSt(z:Str)(i:Int):ixD (.str z) (.int i)=@ite _ (z.length<=100000) (qA6 _) ((itA z.cps.toList i).map fun c=>.str ⟨#[c]⟩) none:=rfl
@[simp] theorem v_lenSt(z:Str):lenD [.str z]=@ite _ (z.length<=100000) (qA6 _) (some (.int z.length)) none:=rfl
@[simp] theorem v_count1(z:Str)(c:Nat):countD (.str z) [.str ⟨#[c]⟩]=some (.int (z.cps.toList.count c:Nat)):=rfl
@[simp] theorem v_in1(ng:Bool)(z:Str)(c:Nat):inD ng (.str ⟨#[c]⟩) (.str z)=some (.bl (if ng=true then !decide (c∈z.cps.toList)else decide (c∈z.cps.toList))):=rfl
@[simp] theorem v_find1(z:Str)(c:Nat):findD (.str z) [.str ⟨#[c]⟩]=some (.int (match posC c z.cps.toList with|some i=>(i:Int)|none=>-1)):=rfl
def zXN{α:Type}(xs:List α)(k:Nat):cutA xs (some (k:Int)) none=xs.drop k:=by
 unfold cutA cutIx;dsimp only;rw[if_neg (by lia)]
 by_cases h:k<=xs.length
 ·rw[show min (k:Int).toNat xs.length=k by lia];exact qFn (by simp)
 ·rw[show min (k:Int).toNat xs.length=xs.length by lia];simp
  lia
def zNM(a b:Str):(a++b).cps.toList=a.cps.toList++b.cps.toList:=by
 show(Str.mk (a.cps++b.cps)).cps.toList=_;simp
def zT5(z:Str):z.length=z.cps.toList.length:=by
 unfold qN0;simp
def zHZ(l:List Nat):(Str.mk l.toArray).length=l.length:=by rw[zT5]
end Mi
namespace Mp
open Mi PySem
def sg{n:Nat}{e:EM}{b:SM}{X:R Out}(he:e (full r)=okR d)(hd:d.dep<=n)(h:b (r.set i (some (d,n)))=X):sSeq (sSet i n vs e) b r=X:=by
 rw[zDP,zOQ,he,zA0,if_pos hd,zA0];exact h
def sp{c:TM}{b:SM}{X:R Out}(hc:c (full r)=okR false)(h:b r=X):sSeq (sIf c a sNil) b r=X:=by
 rw[zDP,zIR,hc,zA0,if_neg (by simp),zXX,zA0];exact h
def st{c:TM}{a b:SM}{X:R Out}(hc:c (full r)=okR true)(ha:a r=okR (.nx r'))(h:b r'=X):sSeq (sIf c a sNil) b r=X:=by
 rw[zDP,zIR,hc,zA0,if_pos rfl,ha,zA0];exact h
def c2{m:FM}{e1 e2:EM}{X:R Dt}(h1:e1 ρ=okR d1)(h2:e2 ρ=okR d2)(h:m [d1,d2]=X):eCall m (aCons e1 (aCons e2 aNil)) ρ=X:=by
 simp only[zH0,zB8,zCM,h1,h2,zA0];exact h
def c1{m:FM}{e1:EM}{X:R Dt}(h1:e1 ρ=okR d1)(h:m [d1]=X):eCall m (aCons e1 aNil) ρ=X:=by
 simp only[zH0,zB8,zCM,h1,zA0];exact h
def b2{o:Dt->Dt->Option Dt}{e1 e2:EM}(h1:e1 ρ=okR d1)(h2:e2 ρ=okR d2)(h:o d1 d2=some d):eB o e1 e2 ρ=okR d:=by
 rw[x_eB,h1,zA0,h2,zA0,h];rfl
def bi1{o:List Dt->Option Dt}{e1:EM}(h1:e1 ρ=okR d1)(h:o [d1]=some d):eBi o (aCons e1 aNil) ρ=okR d:=by
 simp only[zV5,zB8,zCM,h1,zA0,h];rfl
def tb1{e:EM}(h:e ρ=okR (.bl k)):tB e ρ=okR k:=by rw[x_tB,h,zA0]
def tm1{e:EM}(h:e ρ=okR (.bl k)):tM e ρ=okR k:=by rw[x_tM,h,zA0]
def tn1{t:TM}(h:t ρ=okR k):tNo t ρ=okR (!k):=by rw[zfF,h,zA0]
def to0{t t':TM}(h:t ρ=okR false)(h':t' ρ=okR k):Mi.tOr t t' ρ=okR k:=by rw[zfE,h,zA0,if_neg (by simp),h']
def ta1{t t':TM}(h:t ρ=okR true)(h':t' ρ=okR k):tAn t t' ρ=okR k:=by rw[zc6,h,zA0,if_pos rfl,h']
def ta0{t:TM}(h:t ρ=okR false):tAn t t' ρ=okR false:=by rw[zc6,h,zA0,if_neg (by simp)]
def ss{n:Nat}{e:EM}(he:e (full r)=okR d)(hd:d.dep<=n):sSet i n vs e r=okR (.nx (r.set i (some (d,n)))):=by
 rw[zOQ,he,zA0,if_pos hd]
def sr{L n:Nat}{e:EM}(he:e (full r)=okR d)(hd:d.dep<=n/\d.dep<=L):sRet L n vs e r=okR (.rt d):=by
 rw[zR9,he,zA0,if_pos hd]
def tl{k':Bool}{x:Option Dt}(h:x=some (.bl k))(e:k=k'):x=some (.bl k'):=e▸h
def bi2{o:List Dt->Option Dt}{e1 e2:EM}(h1:e1 ρ=okR d1)(h2:e2 ρ=okR d2)(h:o [d1,d2]=some d):eBi o (aCons e1 (aCons e2 aNil)) ρ=okR d:=by
 simp only[zV5,zB8,zCM,h1,h2,zA0,h];rfl
def sl0{a b:EM}(h1:a ρ=okR x)(h2:b ρ=okR (.int i))(h:slD x none (some i)=some d):eSl a oNo (oE b) ρ=okR d:=by
 rw[zfH,h1,zA0,zfG,zA0,x_oE,h2,zA0,zA0,h];rfl
def sf{c:TM}(hc:c (full r)=okR false):sIf c a sNil r=okR (.nx r):=by
 rw[zIR,hc,zA0,if_neg (by simp),zXX]
def et2{e1 e2:EM}(h1:e1 ρ=okR d1)(h2:e2 ρ=okR d2):eTup (aCons e1 (aCons e2 aNil)) ρ=okR (.tup [d1,d2]):=by simp[h1,h2]
def mt1{f:Dt->List Dt->Option Dt}{a e:EM}(h1:a ρ=okR x)(hs:zPK x=true)(h2:e ρ=okR y)(h:f x [y]=some d):eMt f a (aCons e aNil) ρ=okR d:=by
 rw[zV3,h1,zA0,if_pos hs,zB8,h2,zA0,zCM,zA0,zA0,h];rfl
def eqi{e1 e2:EM}{k:Bool}(h1:e1 ρ=okR (.int a))(h2:e2 ρ=okR (.int b))(h:decide (a=b)=k):tB (eB eqD e1 e2) ρ=okR k:=by
 refine tb1 (b2 h1 h2 ?_);rw[<- h];simp[Dt.eq];rfl
def nei{e1 e2:EM}{k:Bool}(h1:e1 ρ=okR (.int a))(h2:e2 ρ=okR (.int b))(h:(!decide (a=b))=k):tB (eB neD e1 e2) ρ=okR k:=by
 refine tb1 (b2 h1 h2 ?_);rw[<- h];simp[Dt.eq];rfl
def mdi{i j k:Int}(h:0<j)(e:i%j=k):modD (.int i) (.int j)=some (.int k):=by rw[<- e];exact if_pos h
def dvi{j:Int}(h:0<j/\j<1000000000000000000000000):divD (.int i) (.int j)=some (.int (i/j)):=@if_pos _ (qA6 _) h _ _ _
def c3{m:FM}{e1 e2 e3:EM}{X:R Dt}(h1:e1 ρ=okR d1)(h2:e2 ρ=okR d2)(h3:e3 ρ=okR d3)(h:m [d1,d2,d3]=X):eCall m (aCons e1 (aCons e2 (aCons e3 aNil))) ρ=X:=by
 simp only[zH0,zB8,zCM,h1,h2,h3,zA0];exact h
def an1{e1 e2:EM}(h1:e1 ρ=okR (.bl a))(h2:e2 ρ=okR (.bl b)):eAnd e1 e2 ρ=okR (.bl (a&&b)):=by cases a<;>simp[h1,h2]
def rt1{e:EM}(h1:e (full ρ)=okR d)(h2:e (frz (frzAt vs ρ))=okR d):sRet 1 1 vs e ρ=okR (.rt d):=by
 rw[zR9,h1,zA0];by_cases z:d.dep<=1/\d.dep<=1
 ·rw[if_pos z]
 ·rw[if_neg z,if_pos rfl,h2,zA0]
def el0:eLst aNil ρ=okR (.lst []):=by simp
def v1{i:Nat}{ρ:Rh}(h:ρ[i]?=some (some d)):eV i ρ=okR d:=by rw[x_eV,h]
def al0{e:EM}(h:e ρ=okR d):aCons e aNil ρ=okR [d]:=by rw[zB8,h];rfl
def adi{a b c:Int}(h:a+b=c):addD (.int a) (.int b)=some (.int c):=by rw[<- h];rfl
def k1{d d':Dt}(h:d=d'):eC d ρ=okR d':=by rw[<- h];rfl
def cmi{p:Int->Int->Bool}{k:Bool}(h:p a b=k):cmpD p (.int a) (.int b)=some (.bl k):=by rw[<- h];rfl
def rowD(r:List Int):Dt:=.lst (r.map .int)
def mat(A:List (List Int)):Dt:=.lst (A.map rowD)
def tab(n:Nat)(f:Nat->Nat->Int):List (List Int):=(qA4 n).map fun i=>(qA4 n).map fun j=>f i j
def Bits(n:Nat)(f:Nat->Nat->Int):Prop:=∀i j,i<n->j<n->f i j=0\/f i j=1
def Sym(n:Nat)(f:Nat->Nat->Int):Prop:=∀i j,i<n->j<n->f i j=f j i
@[simp] theorem zIF(r:List Int):(rowD r).dep=1:=by simp[rowD]
def ixR{n:Nat}{j:Nat}(h:j<n):ixD (rowD ((qA4 n).map g)) (.int (j:Int))=some (.int (g j)):=by
 refine zEN rfl ?_;simp[h]
@[simp] theorem lenR(r:List Int):lenD [rowD r]=some (.int r.length):=by
 show some (Dt.int ((r.map Dt.int).length:Int))=_;rw[qAe]
@[simp] theorem listR(r:List Int):listD [rowD r]=some (rowD r):=rfl
@[simp] theorem lenM(A:List (List Int)):lenD [mat A]=some (.int A.length):=by
 show some (Dt.int ((A.map rowD).length:Int))=_;rw[qAe]
def zMX:∀A:List (List Int),Dt.depL (A.map rowD)<=1
 |[]=>by simp
 |r::A=>by
  have:=zMX A;rw[qAd,zH3,zIF];lia
def zG7(A:List (List Int)):(mat A).dep<=2:=by
 have:=zMX A;unfold mat;rw[v_dl];lia
def zJU(n:Nat)(f:Nat->Nat->Int):(tab n f).length=n:=by simp[tab]
def zFX{n:Nat}{i:Nat}(h:i<n):(tab n f)[i]?=some ((qA4 n).map fun j=>f i j):=by
 simp[tab,h]
def zeB{n:Nat}{i:Nat}(h:i<n):itA ((tab n f).map rowD) (i:Int)=some (rowD ((qA4 n).map fun j=>f i j)):=by
 refine zEN rfl ?_;rw[qAb,zFX h];rfl
def ixM{n:Nat}{i:Nat}(h:i<n):ixD (mat (tab n f)) (.int (i:Int))=some (rowD ((qA4 n).map fun j=>f i j)):=zeB h
def zL2{ρ:Rh}{e:EM}{it:IM}{i n:Nat}(g:Nat->Int)(hi:i=ρ.length)(hn:n<=1000)(h1:it ρ=okR (nums 0 n))(h:∀a,a<n->e (ρ++[some (.int (a:Nat))])=okR (.int (g a))):eComp it 1 (.one i) tYes e ρ=okR (rowD ((qA4 n).map g)):=by
 rw[zEB (fun b=>.int (g b)) n rfl hi (fun b hb=>h b hb) it h1 (by lia)];unfold rowD;rw[qAx];rfl
def zTL{r:Ro}{i:Nat}{l:Nat}{a b:Nat}{e0 e1 e2:EM}(h:r[i]?=some (some (mat (tab n f),l+2)))(h0:e0 (full r)=okR (.int (a:Nat)))(h1:e1 (full r)=okR (.int (b:Nat)))(h2:e2 (full r)=okR (.int v))(ha:a<n)(hb:b<n) :
  sItem2 i m e0 e1 e2 r=okR (.nx (r.set i (some (mat (tab n fun x y=>if x=a/\y=b then v else f x y),l+2)))):=by
 have g1:((tab n f).map rowD)[a]?=some (.lst (((qA4 n).map fun j=>f a j).map .int)):=by
  rw[qAb,zFX ha];rfl
 unfold sItem2;rw[h2,zA0,h];show zA3 (e0 (full r)) _=_;rw[h0,zA0];dsimp only;rw[zMK (by lia) (by simp[tab];lia)];dsimp only;rw[qBd,g1];dsimp only;rw[h1,zA0];dsimp only;rw[zMK (by lia) (by simp;lia)];dsimp only;rw[if_pos ⟨qAn _,qAn _⟩,qBd]
 congr 5;unfold mat;congr 1;apply qF2;intro x;rw[qF3];by_cases hx:a=x
 ·subst hx;rw[if_pos rfl,if_pos (by simp[tab];lia),qAb,zFX ha];show some _=some _
  congr 1;unfold rowD;congr 1;apply qF2;intro y;rw[qF3];by_cases hy:b=y
  ·subst hy;simp[hb]
  ·rw[if_neg hy]
   by_cases hyn:y<n
   ·simp[hyn,show ¬y=b from fun z=>hy z.symm]
   ·simp[hyn]
 ·rw[if_neg hx,qAb,qAb]
  by_cases hxn:x<n
  ·rw[zFX hxn,zFX hxn];simp[show ¬x=a from fun z=>hx z.symm]
  ·have:(tab n f)[x]?=none:=by simp[tab];lia
   have h':(tab n fun x y=>if x=a/\y=b then v else f x y)[x]?=none:=by simp[tab];lia
   rw[this,h']
end Mp
namespace L3
open PySem PySem.Spec
open L2 hiding Rep RepL
section
variable[Kc]
end
end L3
namespace L3
open PySem PySem.Spec
open L2 hiding Rep RepL
open Mi (Dt EM FM okR)
end L3
namespace L3
open PySem PySem.Spec
open L2 hiding Rep RepL
open Mi (Dt Xn R okR zA3 optR zA0 zA9 zAC zA8 zAB Rh Sl Ro EM TM AM FM IM SM Tg Out full frz frz1 frzAt)
section
variable[Kc]
end
end L3
namespace Mp
open Mi PySem
def zGG:SM:=(sRet 0 0 [0] (eAnd (eIsi "int" (eV 0)) (eNot (eIsi "bool" (eV 0)))))
def zBS:FM:=runF 1 1 zGG
def zGH:SM:=(sRet 1 1 [0,1] (eComp (iZi (aCons (eV 0) (aCons (eV 1) aNil))) 2 (.tup [2,3]) Mi.tYes (eB modD (eB addD (eV 2) (eV 3)) (eC (.int 2)))))
def zB3:FM:=runF 2 2 zGH
def zUW:SM:=(sRet 1 1 [0,1] (eComp (iR1 (aCons (eBi lenD (aCons (eV 0) aNil)) aNil)) 1 (.one 2) Mi.tYes (eB xorD (eB ixD (eV 0) (eV 2)) (eB ixD (eV 1) (eV 2)))))
def zKK:FM:=runF 2 2 zUW
def zIP:SM:=(sRet 2 2 [1,0] (eComp (iSq (eV 1)) 1 (.one 2) Mi.tYes (eComp (iSq (eV 1)) 1 (.one 3) Mi.tYes (eB ixD (eB ixD (eV 0) (eV 2)) (eV 3)))))
def zDI:FM:=runF 2 2 zIP
def zEQ:SM:=(sSeq (sSet 2 0 [0] (eV 0))
 (sSeq (sFor [1] (iSq (eV 1)) (.one 3) (sIf (tB (eB eqD (eB ixD (eV 2) (eMl lixD (eV 3) (aCons (eC (.int 1)) aNil))) (eC (.int 1)))) (sSet 2 1 [2,3] (eCall zKK (aCons (eV 2) (aCons (eV 3) aNil)))) sNil))
 (sRetV 0 2)))
def zBJ:FM:=runF 2 4 zEQ
def zCV:SM:=(sSeq (sSet 1 9 [] (eLst aNil))
 (sSeq (sSet 2 9 [] (eLst aNil))
 (sSeq (sFor [0] (iEn (aCons (eV 0) aNil)) (.tup [3,4]) (sSeq (sSetL 5 2 [4] (eCall zBJ (aCons (eV 4) (aCons (eV 2) aNil))))
 (sIf (tB (eB (inD false) (eC (.int 1)) (eV 5))) (sSeq (sApp 1 0 (eV 3))
 (sAppF 2 [5] (eV 5))) sNil)))
 (sRetV 9 1))))
def zCR:FM:=runF 1 6 zCV
def zNB:SM:=(sRet 0 0 [0] (eB subD (eBi lenD (aCons (eV 0) aNil)) (eBi lenD (aCons (eCall zCR (aCons (eV 0) aNil)) aNil))))
def zFH:FM:=runF 1 1 zNB
def zCW:SM:=(sSeq (sSet 2 0 [] (eC (.int 0)))
 (sSeq (sIf (tB (eB (cmpD fun i j=>decide (j<i)) (eBi lenD (aCons (eV 0) aNil)) (eC (.int 0)))) (sSet 2 0 [0,1] (eB ixD (eV 0) (eB modD (eV 1) (eBi lenD (aCons (eV 0) aNil))))) sNil)
 (sSeq (sSet 3 0 [2,1] (eB modD (eB mulD (eB addD (eB modD (eV 2) (eC (.int 2147483629))) (eB mulD (eC (.int 104729)) (eB addD (eV 1) (eC (.int 1))))) (eC (.int 48271))) (eC (.int 2147483647))))
 (sRet 0 0 [3] (eB modD (eB mulD (eV 3) (eC (.int 69621))) (eC (.int 2147483629)))))))
def zCT:FM:=runF 2 4 zCW
def zDO:SM:=(sSeq (sSet 2 0 [] (eC (.int 0)))
 (sSeq (sIf (tAn (tB (eB (cmpD fun i j=>decide (j<i)) (eBi lenD (aCons (eV 0) aNil)) (eC (.int 0)))) (tB (eB eqD (eB modD (eB ixD (eV 0) (eC (.int 0))) (eC (.int 2))) (eC (.int 1))))) (sSeq (sIf (tB (eB (cmpD fun i j=>decide (i<j)) (eV 1) (eBi lenD (aCons (eV 0) aNil)))) (sSet 2 0 [0,1] (eB divD (eB modD (eB ixD (eV 0) (eV 1)) (eB mulD (eC (.int 2)) (eB powD (eC (.int 10)) (eC (.int 60))))) (eB subD (eC (.int 2)) (eBi minD (aCons (eV 1) (aCons (eC (.int 1)) aNil)))))) sNil)
 (sRetV 1 2)) sNil)
 (sSeq (sForR (iR1 (aCons (eC (.int 7)) aNil)) 3 (sSet 2 1 [2,0,3,1] (eB addD (eB mulD (eV 2) (eC (.int 2147483629))) (eCall zCT (aCons (eV 0) (aCons (eB addD (eB mulD (eC (.int 7)) (eV 1)) (eV 3)) aNil))))))
 (sRet 1 1 [2] (eB modD (eV 2) (eB powD (eC (.int 10)) (eC (.int 60))))))))
def zCH:FM:=runF 2 4 zDO
def zDQ:SM:=(sRet 1 1 [0] (eComp (iR1 (aCons (eBi lenD (aCons (eV 0) aNil)) aNil)) 1 (.one 1) (tB (eB neD (eB ixD (eV 0) (eV 1)) (eC (.int 0)))) (eV 1)))
def zAW:FM:=runF 1 1 zDQ
def zFQ:SM:=(sSeq (sSet 2 1 [1] (eCall zAW (aCons (eV 1) aNil)))
 (sSeq (sSet 3 2 [0,2] (eCall zDI (aCons (eV 0) (aCons (eV 2) aNil))))
 (sSeq (sFor [2] (iEn (aCons (eV 2) aNil)) (.tup [4,5]) (sItem2 3 0 (eV 4) (eV 4) (eIf (tB (eB eqD (eB ixD (eV 1) (eV 5)) (eC (.int 1)))) (eC (.int 1)) (eC (.int 0)))))
 (sRetV 2 3))))
def zCG:FM:=runF 2 6 zFQ
def zFP:SM:=(sRet 0 0 [0] (eMt joinD (eC (.str "")) (aCons (eComp (iEnX (aCons (eV 0) aNil)) 2 (.tup [1,2]) (tB (eB eqD (eMt findD (eV 0) (aCons (eV 2) aNil)) (eV 1))) (eV 2)) aNil)))
def zAP:FM:=runF 1 1 zFP
def zJQ:SM:=(sSeq (sSet 2 0 [0,1] (eMt findD (eCall zAP (aCons (eV 0) aNil)) (aCons (eB ixD (eV 0) (eV 1)) aNil)))
 (sRet 1 1 [2,1,0] (eB addD (eB mulD (eV 2) (eC (.int 4))) (eIf (tB (eB eqD (eMt findD (eV 0) (aCons (eB ixD (eV 0) (eV 1)) aNil)) (eV 1))) (eC (.int 0)) (eC (.int 2))))))
def zCL:FM:=runF 2 3 zJQ
def zPX:SM:=(sSeq (sIf (tB (eB (cmpD fun i j=>decide (j<i)) (eBi lenD (aCons (eCallN zAP (aCons (eV 0) aNil)) aNil)) (eC (.int 8)))) (sRaise0 "TooMany" (aCons (eC (.str "a net has at most eight places")) aNil)) sNil)
 (sSeq (sSet 1 2 [0,3] (eComp (iR1 (aCons (eBi lenD (aCons (eV 0) aNil)) aNil)) 1 (.one 6) Mi.tYes (eCallN zCL (aCons (eV 0) (aCons (eV 6) aNil)))))
 (sSeq (sSet 2 1 [0] (eB repD (eLst (aCons (eC (.int 0)) aNil)) (eB mulD (eC (.int 2)) (eBi lenD (aCons (eV 0) aNil)))))
 (sSeq (sFor [1] (iEn (aCons (eV 1) aNil)) (.tup [3,4]) (sSeq (sSet 5 1 [1,3] (eB addD (eB ixD (eV 1) (eB subD (eV 3) (eC (.int 1)))) (eC (.int 1))))
 (sSeq (sItem 2 0 (eV 5) (eV 4))
 (sItem 2 0 (eV 4) (eV 5)))))
 (sRetV 1 2)))))
def zDG:FM:=runF 1 6 zPX
def zDN:SM:=(sSeq (sIf (Mi.tOr (tB (eB neD (eBi lenD (aCons (eV 1) aNil)) (eC (.int 1)))) (tB (eB (inD true) (eV 1) (eV 0)))) (sRaise "NoLetter" "letter" (aCons (eV 1) aNil)) sNil)
 (sRet 0 0 [1,0] (eMt findD (eV 0) (aCons (eV 1) aNil))))
def zDH:FM:=runF 2 2 zDN
def zF2:SM:=(sRet 1 1 [0,1] (eTup (aCons (eCall zDH (aCons (eV 0) (aCons (eV 1) aNil))) (aCons (eMt rfindD (eV 0) (aCons (eV 1) aNil)) aNil))))
def zEZ:FM:=runF 2 2 zF2
def zGF:SM:=(sRet 0 0 [0] (eMt joinD (eC (.str "")) (aCons (eBi sosD (aCons (eV 0) aNil)) aNil)))
def zB7:FM:=runF 1 1 zGF
def zGB:SM:=(sSeq (sSet 3 1 [0,1] (eCall zEZ (aCons (eV 0) (aCons (eV 1) aNil))))
 (sRet 0 0 [2,0,3] (eB eqD (eMt countD (eSl (eV 0) (oE (eB addD (eB ixD (eV 3) (eC (.int 0))) (eC (.int 1)))) (oE (eB ixD (eV 3) (eC (.int 1))))) (aCons (eV 2) aNil)) (eC (.int 1)))))
def zE8:FM:=runF 3 4 zGB
def zF3:SM:=(sSeq (sSet 1 0 [0] (eCallN zB7 (aCons (eV 0) aNil)))
 (sRet 2 2 [1,0] (eComp (iSq (eV 1)) 1 (.one 2) Mi.tYes (eComp (iSq (eV 1)) 1 (.one 3) Mi.tYes (eIf (tM (eCallN zE8 (aCons (eV 0) (aCons (eV 2) (aCons (eV 3) aNil))))) (eC (.int 1)) (eC (.int 0)))))))
def zF0:FM:=runF 1 2 zF3
def zJ2:SM:=(sRet 2 2 [1,0] (eCallN zCG (aCons (eCall zF0 (aCons (eV 0) aNil)) (aCons (eV 1) aNil))))
def zD3:FM:=runF 2 2 zJ2
def zL9:SM:=(sSeq (sSet 2 0 [0,1] (eB ixD (eLst (aCons (eTup (aCons (eC (.int 1)) (aCons (eC (.int 0)) (aCons (eC (.int 3)) (aCons (eC (.int 2)) aNil))))) (aCons (eTup (aCons (eC (.int 2)) (aCons (eC (.int 3)) (aCons (eC (.int 0)) (aCons (eC (.int 1)) aNil))))) (aCons (eTup (aCons (eC (.int 3)) (aCons (eC (.int 2)) (aCons (eC (.int 1)) (aCons (eC (.int 0)) aNil))))) aNil)))) (eB ixD (eV 0) (eB divD (eV 1) (eC (.int 4))))))
 (sRet 1 1 [1,2] (eB addD (eB subD (eV 1) (eB modD (eV 1) (eC (.int 4)))) (eB ixD (eV 2) (eB modD (eV 1) (eC (.int 4)))))))
def zKL:FM:=runF 2 3 zL9
def zNC:SM:=(sSeq (sSet 3 9 [] (eLst aNil))
 (sSeq (sSet 4 0 [2] (eV 2))
 (sSeq (sWhile (Mi.tOr (tB (eB eqD (eV 3) (eLst aNil))) (tB (eB neD (eV 4) (eV 2)))) (sSeq (sApp 3 0 (eV 4))
 (sSeq (sApp 3 1 (eCall zKL (aCons (eV 1) (aCons (eV 4) aNil))))
 (sSet 4 0 [0,3] (eB ixD (eV 0) (eB ixD (eV 3) (eU negD (eC (.int 1)))))))))
 (sRetV 9 3))))
def zMI:FM:=runF 3 5 zNC
def zL8:SM:=(sSeq (sSet 2 1 [] eDct0)
 (sSeq (sSet 3 9 [] (eLst aNil))
 (sSeq (sForR (iR1 (aCons (eBi lenD (aCons (eV 0) aNil)) aNil)) 4 (sIf (tB (eB (dinD true) (eV 4) (eV 2))) (sSeq (sSet 5 9 [0,1,4] (eCall zMI (aCons (eV 0) (aCons (eV 1) (aCons (eV 4) aNil)))))
 (sSeq (sFor [5] (iSq (eV 5)) (.one 6) (zfU 2 (eV 6) (eC (.bl true))))
 (sAppF 3 [5] (eV 5)))) sNil))
 (sRetV 1 3))))
def m__law_rounds:FM:=runF 2 7 zL8
def zL7:SM:=(sRet 0 0 [1,0] (eB xorD (eV 1) (eB addD (eV 0) (eC (.int 1)))))
def zKJ:FM:=runF 2 2 zL7
def zE3:SM:=(sSeq (sSet 2 0 [1] (eB divD (eV 1) (eC (.int 4))))
 (sRet 1 1 [2,0,1] (eB addD (eB mulD (eV 2) (eC (.int 4))) (eCall zKJ (aCons (eB ixD (eV 0) (eV 2)) (aCons (eB modD (eV 1) (eC (.int 4))) aNil))))))
def zBE:FM:=runF 2 3 zE3
def zGA:SM:=(sSeq (sSet 3 1 [2,1] (eLst (aCons (eV 2) (aCons (eCall zBE (aCons (eV 1) (aCons (eV 2) aNil))) aNil))))
 (sSeq (sWhile (tB (eB neD (eB ixD (eV 0) (eB ixD (eV 3) (eU negD (eC (.int 1))))) (eV 2))) (sSeq (sSet 4 0 [0,3] (eB ixD (eV 0) (eB ixD (eV 3) (eU negD (eC (.int 1))))))
 (sExt 3 0 (eLst (aCons (eV 4) (aCons (eCall zBE (aCons (eV 1) (aCons (eV 4) aNil))) aNil))))))
 (sRetV 1 3)))
def zE7:FM:=runF 3 5 zGA
def zF1:SM:=(sSeq (sSet 2 9 [] (eLst aNil))
 (sSeq (sSet 3 1 [] eDct0)
 (sSeq (sForR (iR1 (aCons (eBi lenD (aCons (eV 0) aNil)) aNil)) 4 (sIf (tB (eB (dinD true) (eV 4) (eV 3))) (sSeq (sSet 5 1 [0,1,4] (eCall zE7 (aCons (eV 0) (aCons (eV 1) (aCons (eV 4) aNil)))))
 (sSeq (sAppF 2 [5] (eV 5))
 (sDupd 3 (eComp (iSq (eV 5)) 1 (.one 6) Mi.tYes (eTup (aCons (eV 6) (aCons (eC (.bl true)) aNil))))))) sNil))
 (sRetV 1 2))))
def zCQ:FM:=runF 2 6 zF1
def zD5:SM:=(sSeq (sSet 2 1 [0,1] (eB addD (eC (.int 1)) (eB modD (eV 0) (eV 1))))
 (sSeq (sSet 3 0 [0,1] (eB divD (eV 0) (eV 1)))
 (sSeq (sSet 4 1 [] (eBi listXD (aCons (eC (.str "abcdefghijklmnopqrstuvwxyz")) aNil)))
 (sSeq (sSet 5 9 [] (eLst aNil))
 (sSeq (sForR (iR1 (aCons (eV 2) aNil)) 6 (sSeq (sPop 7 4 (eB modD (eV 3) (eBi lenD (aCons (eV 4) aNil))))
 (sSeq (sSet 3 0 [3,4] (eB divD (eV 3) (eB addD (eBi lenD (aCons (eV 4) aNil)) (eC (.int 1)))))
 (sExt 5 0 (eLst (aCons (eV 7) (aCons (eV 7) aNil)))))))
 (sSeq (sSet 8 0 [] (eC (.str "")))
 (sSeq (sForR (iR1 (aCons (eB mulD (eC (.int 2)) (eV 2)) aNil)) 6 (sSeq (sAddPop 8 5 (eB modD (eV 3) (eBi lenD (aCons (eV 5) aNil))))
 (sSet 3 0 [3,5] (eB divD (eV 3) (eB addD (eBi lenD (aCons (eV 5) aNil)) (eC (.int 1)))))))
 (sRetV 0 8))))))))
def zD4:FM:=runF 2 9 zD5
def zLA:SM:=(sSeq (sSet 3 9 [] (eLst aNil))
 (sSeq (sForR (iR1 (aCons (eV 2) aNil)) 4 (sSeq (sApp 3 0 (eB modD (eV 0) (eV 1)))
 (sSet 0 0 [0,1] (eB divD (eV 0) (eV 1)))))
 (sRetV 9 3)))
def zDJ:FM:=runF 3 5 zLA
def zOK:SM:=(sSeq (sSet 2 0 [0] (eCall zB7 (aCons (eV 0) aNil)))
 (sRet 1 1 [1,0,2] (eComp (iSq (eCall zAP (aCons (eV 0) aNil))) 1 (.one 3) Mi.tYes (eB ixD (eV 1) (eMt findD (eV 2) (aCons (eV 3) aNil))))))
def zCS:FM:=runF 2 3 zOK
def zFO:SM:=(sSeq (sSet 3 0 [0] (eCall zB7 (aCons (eV 0) aNil)))
 (sSeq (sSet 4 0 [0] (eCall zAP (aCons (eV 0) aNil)))
 (sSeq (sSet 5 1 [4,2] (eComp (iSq (eV 2)) 1 (.one 6) Mi.tYes (eB ixD (eV 4) (eB divD (eV 6) (eC (.int 4))))))
 (sRet 1 1 [1,5,3] (eComp (iEn (aCons (eCall zAW (aCons (eV 1) aNil)) aNil)) 2 (.tup [6,7]) (tB (eB eqD (eMl lcoD (eV 5) (aCons (eB ixD (eV 3) (eV 7)) aNil)) (eC (.int 2)))) (eV 6))))))
def zB2:FM:=runF 3 6 zFO
def zL6:SM:=(sSeq (sSet 2 1 [0,1] (eCallN zCQ (aCons (eCall zDG (aCons (eV 0) aNil)) (aCons (eCallN zCS (aCons (eV 0) (aCons (eV 1) aNil))) aNil))))
 (sRet 2 2 [0,1,2] (eComp (iSq (eV 2)) 1 (.one 3) Mi.tYes (eCallN zB2 (aCons (eV 0) (aCons (eV 1) (aCons (eV 3) aNil)))))))
def zCF:FM:=runF 2 3 zL6
def zFR:SM:=(sSeq (sSet 0 2 [0,2,1] (eComp (iSq (eV 0)) 1 (.one 5) Mi.tYes (eComp (iR1 (aCons (eV 1) aNil)) 1 (.one 6) Mi.tYes (eBi intD (aCons (eB (inD false) (eV 6) (eV 5)) aNil)))))
 (sSeq (sForR (iR1 (aCons (eV 1) aNil)) 2 (sSeq (sSet 3 1 [0,2] (eComp (iSq (eV 0)) 1 (.one 5) (tB (eB eqD (eB ixD (eV 5) (eV 2)) (eC (.int 1)))) (eV 5)))
 (sIf (tB (eB (cmpD fun i j=>decide (j<i)) (eBi lenD (aCons (eV 3) aNil)) (eC (.int 0)))) (sSeq (sSet 4 1 [0,2] (eComp (iSq (eV 0)) 1 (.one 5) (tB (eB eqD (eB ixD (eV 5) (eV 2)) (eC (.int 0)))) (eV 5)))
 (sSet 0 1 [4,3] (eB addD (eV 4) (eComp (iSq (eSl (eV 3) (oE (eC (.int 1))) oNo)) 1 (.one 5) Mi.tYes (eCall zB3 (aCons (eV 5) (aCons (eB ixD (eV 3) (eC (.int 0))) aNil))))))) sNil)))
 (sRet 0 0 [0] (eB eqD (eV 0) (eLst aNil)))))
def zBY:FM:=runF 2 5 zFR
def zUV:SM:=(sSeq (sSet 1 0 [0] (eCall zD4 (aCons (eCall zCH (aCons (eV 0) (aCons (eC (.int 0)) aNil))) (aCons (eC (.int 8)) aNil))))
 (sSeq (sSet 2 9 [0,1] (eCall zDJ (aCons (eCall zCH (aCons (eV 0) (aCons (eC (.int 1)) aNil))) (aCons (eC (.int 3)) (aCons (eBi lenD (aCons (eCall zB7 (aCons (eV 1) aNil)) aNil)) aNil)))))
 (sSeq (sSet 3 2 [1,2] (eCall zD3 (aCons (eV 1) (aCons (eBi listD (aCons (eV 2) aNil)) aNil))))
 (sSeq (sSet 4 0 [3] (eBi lenD (aCons (eV 3) aNil)))
 (sSeq (sSet 5 2 [1,2] (eCall zCF (aCons (eV 1) (aCons (eBi listD (aCons (eV 2) aNil)) aNil))))
 (sSeq (sIf (Mi.tOr (tNo (tM (eIsi "list" (eV 5)))) (tB (eB neD (eBi lenD (aCons (eV 5) aNil)) (eB addD (eC (.int 1)) (eCall zFH (aCons (eV 3) aNil)))))) (sRet 0 0 [] (eC (.bl false))) sNil)
 (sSeq (sSet 6 9 [] (eLst aNil))
 (sSeq (sFor [5] (iSq (eV 5)) (.one 7) (sSeq (sIf (tNo (tM (eBi allD (aCons (eComp (iSq (eV 7)) 1 (.one 8) Mi.tYes (eAnd (eCall zBS (aCons (eV 8) aNil)) (eChain (cmpD fun i j=>decide (i<=j)) (cmpD fun i j=>decide (i<j)) (eC (.int 0)) (eV 8) (eV 4)))) aNil)))) (sRet 0 0 [] (eC (.bl false))) sNil)
 (sSeq (sIf (tM (eBi anyD (aCons (eComp (iR1 (aCons (eV 4) aNil)) 1 (.one 8) Mi.tYes (eB eqD (eB modD (eBi sumD (aCons (eComp (iSq (eV 7)) 1 (.one 9) Mi.tYes (eB ixD (eB ixD (eV 3) (eV 9)) (eV 8))) aNil)) (eC (.int 2))) (eC (.int 1)))) aNil))) (sRet 0 0 [] (eC (.bl false))) sNil)
 (sExt 6 0 (eV 7)))))
 (sSeq (sIf (tM (eBi anyD (aCons (eComp (iR1 (aCons (eV 4) aNil)) 1 (.one 8) Mi.tYes (eB (inD true) (eMl lcoD (eV 6) (aCons (eV 8) aNil)) (eTup (aCons (eC (.int 0)) (aCons (eC (.int 2)) aNil))))) aNil))) (sRet 0 0 [] (eC (.bl false))) sNil)
 (sRet 0 0 [4,5] (eCall zBY (aCons (eSl (eV 5) oNo (oE (eU negD (eC (.int 1))))) (aCons (eV 4) aNil)))))))))))))
def zMH:FM:=runF 1 8 zUV
end Mp
namespace Mp
open Mi PySem
def zMO(i:Int):zBS [.int i]=okR (.bl true):=by
 unfold zBS zGG;simp[isiD,tyD]
def Bit(x:Int):Prop:=x=0\/x=1
def RowN(n:Nat)(r:List Int):Prop:=r.length=n/\∀x∈r,Bit x
def zXM(A:List (List Int))(l h:Option Int):cutA (A.map rowD) l h=(cutA A l h).map rowD:=by
 unfold cutA;simp
def zbO(A:List (List Int))(l h:Option Int):slD (mat A) l h=some (mat (cutA A l h)):=by
 show some (Dt.lst (cutA (A.map rowD) l h))=_;rw[zXM];rfl
def zVG(hb:Bits n f):∀r∈tab n f,r.length=n/\∀x∈r,Bit x:=by
 intro r hr;unfold tab at hr;obtain⟨i,hi,rfl⟩:=qAi.mp hr;refine⟨by simp,fun x hx=>?_⟩;obtain⟨j,hj,rfl⟩:=qAi.mp hx;exact hb i j (by simpa using hi) (by simpa using hj)
def zO9(r:List Int)(i:Nat)(h:i<r.length):ixD (rowD r) (.int (i:Int))=some (.int (r.getD i 0)):=by
 have:=zWV (ns:=r) (i:=(i:Int)) (by lia) (by lia)
 rw[qBd]at this;exact this
def zgF(A:List (List Int))(i:Nat)(h:i<A.length):ixD (mat A) (.int (i:Int))=some (rowD (A.getD i [])):=by
 refine zEN rfl ?_;rw[qAb,qA1 h,qA0,qA1 h];rfl
def zZE(ha:Bit a)(hb:Bit b):qKd a b=(a+b)%2:=by
 rcases ha with rfl|rfl<;>rcases hb with rfl|rfl<;>decide
def zKM(n:Nat)(g h:Nat->Int)(hn:n<=10):zB3 [rowD ((qA4 n).map g),rowD ((qA4 n).map h)]=okR (rowD ((qA4 n).map fun j=>(g j+h j)%2)):=by
 unfold zB3 zGH;have hz:∀(l:List Nat),zipD ((l.map g).map Dt.int) ((l.map h).map Dt.int)=l.map fun j=>Dt.tup [.int (g j),.int (h j)]:=by
  intro l;induction l with
  |nil=>rfl
  |cons a r ih=>simp only[qAd,zipD,ih]
 have hc:eComp (iZi (aCons (eV 0) (aCons (eV 1) aNil))) 2 (.tup [2,3]) Mi.tYes (eB modD (eB addD (eV 2) (eV 3)) (eC (.int 2))) [some (rowD ((qA4 n).map g)),some (rowD ((qA4 n).map h))]=okR (rowD ((qA4 n).map fun j=>(g j+h j)%2)):=by
  unfold eComp;have hi:iZi (aCons (eV 0) (aCons (eV 1) aNil)) [some (rowD ((qA4 n).map g)),some (rowD ((qA4 n).map h))]=okR ((qA4 n).map fun j=>Dt.tup [.int (g j),.int (h j)]):=by
   simp[rowD];have:=hz (qA4 n);simpa using this
  rw[hi,zA0,if_pos ⟨by simp;lia,by simp[Tg.idx]⟩];have go:∀(l:List Nat)(acc:List Dt),compGo [some (rowD ((qA4 n).map g)),some (rowD ((qA4 n).map h))] 2 (.tup [2,3]) tYes (eB modD (eB addD (eV 2) (eV 3)) (eC (.int 2))) (l.map fun j=>Dt.tup [.int (g j),.int (h j)]) acc=okR (acc++l.map fun j=>Dt.int ((g j+h j)%2)):=by
   intro l;induction l with
   |nil=>intro acc;simp[compGo]
   |cons a r ih=>
    intro acc;rw[qAd,compGo];simp[zAV,zAO,ih]
  rw[go,zA0];unfold rowD;rw[qAx];simp
 simp[hc]
def sumN(n:Nat)(f:Nat->Int):Int:=((qA4 n).map f).sum
def zaM(n:Nat)(f:Nat->Nat->Int):mat (tab n f)=.lst ((qA4 n).map fun i=>rowD ((qA4 n).map fun j=>f i j)):=by
 unfold mat tab;rw[qAx];rfl
def zeO{ds:List Dt}(h:∀d∈ds,d.dep=0):Dt.depL ds=0:=by
 induction ds with
 |nil=>simp
 |cons a r ih=>rw[zH3,h a (by simp),ih fun d hd=>h d (by simp[hd])];rfl
def zg9(i:Nat)(r:Ro):Nat:=match r[i]? with
 |some (some (Dt.lst lf,_))=>lf.length
 |_=>0
def numL(ks:List Nat):List Int:=ks.map fun k:Nat=>(k:Int)
def numD(ks:List Nat):rowD (numL ks)=.lst (ks.map fun k:Nat=>Dt.int (k:Int)):=by
 unfold rowD numL;rw[qAx];rfl
def zMF{α:Type}(ks:List Nat)(g:Nat->α):ks.map g=(qA4 ks.length).map fun a=>g (ks.getD a 0):=by
 apply qBb
 ·simp
 ·intro i h1 h2;simp at h1;simp[h1]
def zI9{ks:List Nat}{n a:Nat}(hk:∀k∈ks,k<n)(ha:a<ks.length):ks.getD a 0<n:=by
 refine hk _ ?_;rw[qA0,qA1 ha];simp
def sub(ks:List Nat)(f:Nat->Nat->Int):Nat->Nat->Int:=fun a b=>f (ks.getD a 0) (ks.getD b 0)
def zWD(n:Nat)(f:Nat->Nat->Int)(ks:List Nat)(hk:∀k∈ks,k<n)(hz:ks.length<=1000):zDI [mat (tab n f),rowD (numL ks)]=okR (mat (tab ks.length (sub ks f))):=by
 have hm:mat (tab ks.length (sub ks f))=.lst (ks.map fun i=>rowD (ks.map fun j=>f i j)):=by
  rw[zaM,zMF ks fun i=>rowD (ks.map fun j=>f i j)]
  congr 1;refine qAs fun a ha=>?_
  rw[zMF ks fun j=>f (ks.getD a 0) j];rfl
 unfold zDI zIP;have hc:eComp (iSq (eV 1)) 1 (.one 2) Mi.tYes (eComp (iSq (eV 1)) 1 (.one 3) Mi.tYes (eB ixD (eB ixD (eV 0) (eV 2)) (eV 3))) [some (mat (tab n f)),some (rowD (numL ks))]=okR (mat (tab ks.length (sub ks f))):=by
  rw[hm];refine zB1 (fun k:Nat=>Dt.int (k:Int)) _ ks rfl rfl (fun i hi=>?_) _ (by simp[numD]) (by lia);have h2:=zB1 (ρ:=[some (mat (tab n f)),some (rowD (numL ks))]++[some (Dt.int (i:Int))]) (c:=tYes) (i:=3) (e:=eB ixD (eB ixD (eV 0) (eV 2)) (eV 3)) (fun k:Nat=>Dt.int (k:Int)) (fun j=>Dt.int (f i j)) ks rfl rfl (fun j hj=>by
   have e1:=ixM (f:=f) (hk i hi);have e2:=ixR (g:=fun j=>f i j) (hk j hj);simp[e1,e2]) (iSq (eV 1)) (by simp[numD]) (by lia)
  rw[h2];unfold rowD;rw[qAx];rfl
 have hd:=zG7 (tab ks.length (sub ks f));simp[hc,hd]
def zR7(l:List α):allD [.lst (l.map fun _=>Dt.bl true)]=some (.bl true):=by
 have hall:∀l:List α,boolsD (l.map fun _=>Dt.bl true)=some (l.map fun _=>true):=by
  intro l;induction l with
  |nil=>rfl
  |cons a r ih=>simp[boolsD,ih]
 simp[allD,hall]
def zI6(l:List Int):intsD (l.map Dt.int)=some l:=by
 induction l with
 |nil=>rfl
 |cons a r ih=>simp[intsD,ih]
def sgn(c:Nat):Dt:=.str ⟨#[c]⟩
def zXA(cs:List Nat):∀d∈cs.map sgn,d.dep=0:=by
 intro d hd;obtain⟨c,_,rfl⟩:=qAi.mp hd;rfl
@[simp] theorem depL_sgn(cs:List Nat):Dt.depL (cs.map sgn)=0:=zeO (zXA cs)
def zOV:∀cs:List Nat,strsD (cs.map sgn)=some (cs.map fun c=>⟨#[c]⟩)
 |[]=>rfl
 |c::r=>by
  show(strsD (r.map sgn)).map _=_;rw[zOV r];rfl
def zII:(qJm "").cps.toList=[]:=by
 rw[qK2];rfl
def zPJ:∀zs:List Str,(qLg (qJm "") zs).cps.toList=(zs.map (·.cps.toList)).flatten
 |[]=>rfl
 |[x]=>by simp[qLg]
 |x::y::r=>by
  rw[qLg,zNM,zNM,zII,zPJ (y::r)]
  ·simp
  ·simp
def zVI(cs:List Nat):((cs.map fun c=>(⟨#[c]⟩:Str)).map (·.length)).sum=cs.length:=by
 induction cs with
 |nil=>rfl
 |cons c r ih=>simp only[qAd,qD8,ih,qAj];show 1+r.length=_;lia
def zT4:(qJm "").length=0:=by rw[zT5,zII];rfl
def zPI(cs:List Nat)(hz:cs.length<=100000):joinD (.str (qJm "")) [.lst (cs.map sgn)]=some (.str ⟨cs.toArray⟩):=by
 show(match strsD (cs.map sgn)with|some zs=>_|none=>none)=_
 rw[zOV];dsimp only;rw[if_pos (by rw[zVI,zT4];lia)]
 congr 2;have h:=zPJ (cs.map fun c=>(⟨#[c]⟩:Str));have e:(List.map (·.cps.toList) (cs.map fun c=>(⟨#[c]⟩:Str))).flatten=cs:=by
  rw[qAx];clear h hz;induction cs with
  |nil=>rfl
  |cons c r ih=>simpa using ih
 rw[e]at h;generalize qLg (qJm "") (cs.map fun c=>(⟨#[c]⟩:Str))=z at h ⊢
 obtain⟨a⟩:=z;simp at h;rw[<- h]
end Mp
namespace Mp
def ords(row:List Nat):List Nat:=row.foldl (fun o p=>if p∈o then o else o++[p]) []
def zFC(row:List Nat)(p:Nat):ords (row++[p])=if p∈ords row then ords row else ords row++[p]:=by
 unfold ords;rw[qF4];rfl
def zHI{α:Type}{P:List α->Prop}(h0:P [])(h1:∀l a,P l->P (l++[a])):∀l,P l:=by
 intro l;have:∀m:List α,P m.reverse:=by
  intro m;induction m with
  |nil=>exact h0
  |cons a r ih=>rw[List.reverse_cons];exact h1 _ _ ih
 have h:=this l.reverse
 rwa [List.reverse_reverse]at h
def ords_mem:∀(row:List Nat)(x:Nat),x∈ords row↔x∈row:=by
 refine zHI (fun x=>by simp[ords]) fun l a ih x=>?_
 rw[zFC];split
 ·rename_i h
  rw[ih x,qAr,qAu];constructor
  ·exact .inl
  ·rintro(h'|rfl)
   ·exact h'
   ·exact(ih x).mp h
 ·rw[qAr,qAr,ih x]
def ords_nodup:∀row:List Nat,(ords row).Nodup:=by
 refine zHI (by simp[ords]) fun l a ih=>?_
 rw[zFC];split
 ·exact ih
 ·rename_i h
  rw[qD9];exact⟨ih,by simp,fun x hx y hy z=>h (by rw[qAu]at hy;rw[<- hy,<- z];exact hx)⟩
def zJG:∀row:List Nat,ords row=((qA4 row.length).filter fun k=>decide (row.idxOf (row.getD k 0)=k)).map fun k=>row.getD k 0:=by
 refine zHI (by simp[ords]) fun l a ih=>?_
 rw[zFC,ih,qAo,qE9,qD6,qGq,qBl];have e1:∀k,k<l.length->(l++[a]).getD k 0=l.getD k 0:=fun k hk=>by
  rw[qA0,qA0,qA9 hk]
 have e2:(l++[a]).getD l.length 0=a:=by
  rw[qA0,qA7 (qAa _)];simp
 have e3:((qA4 l.length).filter fun k=>decide ((l++[a]).idxOf ((l++[a]).getD k 0)=k))=(qA4 l.length).filter fun k=>decide (l.idxOf (l.getD k 0)=k):=by
  refine qCp fun k hk=>?_
  have hk':k<l.length:=by simpa using hk
  have hm:l.getD k 0∈l:=by rw[qA0,qA1 hk'];simp
  rw[e1 k hk',qCq,if_pos hm]
 have e4:(((qA4 l.length).filter fun k=>decide (l.idxOf (l.getD k 0)=k)).map fun k=>(l++[a]).getD k 0)=((qA4 l.length).filter fun k=>decide (l.idxOf (l.getD k 0)=k)).map fun k=>l.getD k 0:=by
  refine qAs fun k hk=>?_
  have:=(qAm.mp hk).1;exact e1 k (by simpa using this)
 rw[e3,e4,<- ih];by_cases h:a∈ords l
 ·have ha:=(ords_mem l a).mp h;rw[if_pos h,qDr]
  ·simp
  ·rw[e2,qCq,if_pos ha]
   have:=qAf ha;simp;lia
 ·have ha:¬a∈l:=fun z=>h ((ords_mem l a).mpr z)
  rw[if_neg h,qDs]
  ·simp[e2]
  ·rw[e2,qCq,if_neg ha];simp
def puts(S:List (Nat×Int))(N:List Int):List Int:=S.foldl (fun N p=>N.set p.1 p.2) N
def zS1{S:List (Nat×Int)}(h:S.Perm S')(hd:∀x∈S,∀y∈S,x.1=y.1->x.2=y.2)(N:List Int):puts S N=puts S' N:=by
 unfold puts;refine List.Perm.foldl_eq' h (fun x hx y hy z=>?_) N
 by_cases e:x.1=y.1
 ·rw[e,hd x hx y hy e,List.set_set]
 ·rw[List.set_comm _ _ e]
def inA(row:List Nat)(a:Nat):Nat:=4*(ords row).idxOf (row.getD a 0)+2*(row.take a).count (row.getD a 0)
def zb3{l:List Nat}{x:Nat}(hx:x∈l)(h:l.idxOf x=l.idxOf y):x=y:=by
 have h1:=qAf hx;have e1:=qDt h1;have h2:l.idxOf y<l.length:=by rw[<- h];exact h1
 have e2:=qDt h2;rw[<- e1,<- e2];congr 1
def zPU{row:List Nat}{a b:Nat}(hab:a<b)(hb:b<row.length)(h:row.getD a 0=row.getD b 0):(row.take a).count (row.getD a 0)<(row.take b).count (row.getD b 0):=by
 have ha:a<row.length:=by lia
 have e:row.take b=row.take a++(row.drop a).take (b-a):=by
  rw[<- List.take_add];congr 1;lia
 rw[<- h,e,qBe];have hd:(row.drop a).take (b-a)=row[a]::(row.drop (a+1)).take (b-a-1):=by
  rw[qBa ha,show b-a=(b-a-1)+1 by lia,qGk];simp
 have hg:row.getD a 0=row[a]:=by rw[qA0,qA1 ha];rfl
 rw[hd,hg,qB7];lia
def zOB{row:List Nat}(h1:∀a,a<row.length->(row.take a).count (row.getD a 0)<=1){a b:Nat}(ha:a<row.length)(hb:b<row.length)(h:inA row a=inA row b):a=b:=by
 unfold inA at h;have ca:=h1 a ha;have cb:=h1 b hb;have hi:(ords row).idxOf (row.getD a 0)=(ords row).idxOf (row.getD b 0):=by lia
 have hc:(row.take a).count (row.getD a 0)=(row.take b).count (row.getD b 0):=by lia
 have hm:row.getD a 0∈ords row:=(ords_mem row _).mpr (by rw[qA0,qA1 ha];simp);have he:=zb3 hm hi
 rcases qF1 a b with z|z|z
 ·have:=zPU z hb he;lia
 ·exact z
 ·have:=zPU z ha he.symm;lia
def tieP(row:List Nat)(a:Nat):List (Nat×Int):=[(inA row ((a+row.length-1)%row.length)+1,(inA row a:Int)),(inA row a,((inA row ((a+row.length-1)%row.length)+1:Nat):Int))]
def zRF{row:List Nat}(h1:∀a,a<row.length->(row.take a).count (row.getD a 0)<=1){a b:Nat}(ha:a<row.length)(hb:b<row.length):∀x∈tieP row a,∀y∈tieP row b,x.1=y.1->x.2=y.2:=by
 have hL:0<row.length:=by lia
 have ma:=qC7 (a+row.length-1) hL;have mb:=qC7 (b+row.length-1) hL;have pinj:(a+row.length-1)%row.length=(b+row.length-1)%row.length->a=b:=fun h=>by
  by_cases za:a=0
  ·subst za;rw[show 0+row.length-1=row.length-1 by lia,qB1 (show row.length-1<row.length by lia)]at h
   by_cases zb:b=0
   ·exact zb.symm
   ·rw[show b+row.length-1=(b-1)+row.length by lia,qCr,qB1 (by lia)]at h
    lia
  ·rw[show a+row.length-1=(a-1)+row.length by lia,qCr,qB1 (by lia)]at h
   by_cases zb:b=0
   ·subst zb;rw[show 0+row.length-1=row.length-1 by lia,qB1 (show row.length-1<row.length by lia)]at h
    lia
   ·rw[show b+row.length-1=(b-1)+row.length by lia,qCr,qB1 (by lia)]at h
    lia
 have ev:∀c,inA row c%2=0:=fun c=>by unfold inA;lia
 intro x hx y hy hxy;simp only[tieP,qAc,qBm,or_false]at hx hy;have eva:=ev a;have evb:=ev b;have evpa:=ev ((a+row.length-1)%row.length);have evpb:=ev ((b+row.length-1)%row.length);rcases hx with rfl|rfl<;>rcases hy with rfl|rfl
 ·have:=pinj (zOB h1 ma mb (by simpa using hxy))
  subst this;rfl
 ·simp at hxy;lia
 ·simp at hxy;lia
 ·have:=zOB h1 ha hb (by simpa using hxy)
  subst this;rfl
end Mp
namespace Mp
open Mi PySem
def zBR{α:Type}[DecidableEq α]:∀(l1 l2:List α),l1.Nodup->(∀x∈l1,x∈l2)->l1.length<=l2.length
 |[],_,_,_=>by simp
 |a::r,l2,h,hs=>by
  have ha:=hs a (by simp);rw[qBk]at h
  have:=zBR r (l2.erase a) h.2 fun x hx=>(qEi (fun z:x=a=>h.1 (by rw[<- z];exact hx))).mpr (hs x (by simp[hx]))
  rw[qDj ha]at this;have:=qCz ha;simp;lia
def zX3(ng:Bool)(i:Nat)(ks:List Nat):inD ng (.int (i:Int)) (rowD (numL ks))=some (.bl (if ng=true then !decide (i∈ks)else decide (i∈ks))):=by
 show(hasD (.int (i:Int)) ((numL ks).map Dt.int)).map _=_;rw[hasD,if_pos ⟨rfl,zBZ _⟩];have:((numL ks).map Dt.int).any (fun y=>Dt.eq y (.int (i:Int)))=decide (i∈ks):=by
  unfold numL;rw[qAx];induction ks with
  |nil=>rfl
  |cons k r ih=>
   rw[qAd,qCd,ih];by_cases h:i=k
   ·subst h;simp
   ·simp[h,show ¬(k:Int)=(i:Int) by lia]
 show some (Dt.bl (if ng=true then !(((numL ks).map Dt.int).any fun y=>Dt.eq y (.int (i:Int)))else((numL ks).map Dt.int).any fun y=>Dt.eq y (.int (i:Int))))=_;rw[this]
def zMN{r:Ro}{i l a:Nat}{e1 e2:EM}(h:r[i]?=some (some (rowD xs,l+1)))(h2:e2 (full r)=okR (.int v))(h1:e1 (full r)=okR (.int (a:Nat)))(ha:a<xs.length):sItem i m e1 e2 r=okR (.nx (r.set i (some (rowD (xs.set a v),l+1)))):=by
 unfold sItem;rw[h2,zA0,h];show zA3 (e1 (full r)) _=_;rw[h1,zA0];dsimp only;rw[zMK (by lia) (by simp;lia)];dsimp only;rw[if_pos ⟨qAn _,qAn _⟩,qBd];unfold rowD;rw[qIp]
def zTG(ks:List Nat)(a:Nat)(h:a<ks.length):ixD (rowD (numL ks)) (.int (a:Int))=some (.int (ks.getD a 0:Nat)):=by
 have i1:=zO9 (numL ks) a (by simp[numL];exact h);rw[show(numL ks).getD a 0=((ks.getD a 0:Nat):Int) by
  unfold numL;simp[qA0,qA1 h]]at i1
 exact i1
def zVW(n:Nat)(hn:n<=10000):repD (.lst [.int 0]) (.int (n:Int))=some (rowD (qA8 n 0)):=by
 rw[zfM,if_pos (by simp;lia)]
 have:∀m:Nat,(qA8 m [Dt.int 0]).flatten=qA8 m (Dt.int 0):=by
  intro m;induction m with
  |zero=>rfl
  |succ m ih=>rw[qBr,qB2,ih];rfl
 rw[qBd,this];unfold rowD;rw[List.map_replicate]
def lawS(row:List Nat)(k:Nat):List (Nat×Int):=((qA4 k).map fun k=>tieP row ((k+1)%row.length)).flatten
def zGQ(S:List (Nat×Int)):∀N:List Int,(puts S N).length=N.length:=by
 unfold puts;induction S with
 |nil=>intro N;rfl
 |cons a r ih=>intro N;rw[qDo,ih,qEl]
def zS3{k L:Nat}(hk:k<L):((k+1)%L+L-1)%L=k:=by
 by_cases h:k+1=L
 ·subst h;rw[qH4,show 0+(k+1)-1=k by lia];exact qB1 (by lia)
 ·rw[qB1 (show k+1<L by lia),show k+1+L-1=k+L by lia,qCr];exact qB1 hk
def zIJ{ρ:Rh}{e:EM}{c:TM}{i j:Nat}(xs:List Dt)(g:Nat->Dt)(f:Nat->Bool)(hi:i=ρ.length)(hj:j=ρ.length+1)(it:IM)(hit:it ρ=okR (enumD 0 xs))(hn:xs.length<=100000)(hc:∀k x,xs[k]?=some x->c (ρ++[some (.int (k:Nat)),some x])=okR (f k))(h:∀k x,xs[k]?=some x->e (ρ++[some (.int (k:Nat)),some x])=okR (g k)):eComp it 2 (.tup [i,j]) c e ρ=okR (.lst (((qA4 xs.length).filter f).map g)):=by
 subst hi hj;unfold eComp;rw[hit,zA0,if_pos ⟨by rw[zKX];exact hn,by simp[Tg.idx]⟩];have go:∀(m k:Nat)(acc:List Dt),k+m=xs.length->compGo ρ 2 (.tup [ρ.length,ρ.length+1]) c e (enumD k (xs.drop k)) acc=okR (acc++((qHe k m).filter f).map g):=by
  intro m;induction m with
  |zero=>
   intro k acc hk;rw[List.drop_of_length_le (by lia)];simp[enumD,compGo]
  |succ m ih=>
   intro k acc hk;have hx:xs[k]?=some xs[k]:=qA1 (by lia);rw[qBa (by lia),enumD,compGo];have es:zAO (ρ++qA8 2 none) [(ρ.length,.int (k:Nat)),(ρ.length+1,xs[k])]=ρ++[some (.int (k:Nat)),some xs[k]]:=by
    simp[zAO]
   show zA3 (c (zAO (ρ++qA8 2 none) [(ρ.length,.int (k:Nat)),(ρ.length+1,xs[k])])) _=_;rw[es,hc k _ hx,zA0,List.range'_succ];cases hf:f k with
   |true=>
    rw[if_pos rfl];show zA3 (e (zAO (ρ++qA8 2 none) [(ρ.length,.int (k:Nat)),(ρ.length+1,xs[k])])) _=_;rw[es,h k _ hx,zA0,ih (k+1) _ (by lia),qDs hf];simp
   |false=>
    rw[if_neg (by simp),ih (k+1) _ (by lia),qDr (by simp[hf])]
 have:=go xs.length 0 [] (by lia)
 rw[qEu]at this;rw[this,zA0,List.range_eq_range'];simp
def wrd(ls row:List Nat):List Nat:=row.map fun p=>ls.getD p 0
def zK6{c:Nat}:∀{l:List Nat},c∈l->posC c l=some (l.idxOf c)
 |a::r,h=>by
  show(if a=c then some 0 else(posC c r).map (·+1))=_
  by_cases z:a=c
  ·subst z;simp
  ·have:=zK6 (l:=r) ((qAc.mp h).elim (fun y=>absurd y.symm z) fun y=>y)
   rw[if_neg z,this,qDu,show(a==c)=false by simpa using z];rfl
def zFL{c:Nat}{cs:List Nat}(h:c∈cs):findD (.str ⟨cs.toArray⟩) [sgn c]=some (.int (cs.idxOf c:Nat)):=by
 show some (Dt.int (match posC c cs with|some i=>(i:Int)|none=>-1))=_;rw[zK6 h]
def zTF{cs:List Nat}{k:Nat}(h:k<cs.length)(hz:cs.length<=1000):ixD (.str ⟨cs.toArray⟩) (.int (k:Int))=some (sgn (cs.getD k 0)):=by
 show(@ite _ ((Str.mk cs.toArray).length<=100000) (qA6 _) ((itA cs (k:Int)).map fun c=>Dt.str ⟨#[c]⟩) none)=_
 rw[if_pos (by rw[zHZ];lia),zEN (j:=k) (v:=cs.getD k 0) rfl (by rw[qA0,qA1 h];rfl)];rfl
def fsts(cs:List Nat):List Nat:=(qA4 cs.length).filter fun k=>decide (cs.idxOf (cs.getD k 0)=k)
def zE4(cs:List Nat)(hz:cs.length<=1000):zAP [.str ⟨cs.toArray⟩]=okR (.str ⟨((fsts cs).map fun k=>cs.getD k 0).toArray⟩):=by
 have hc:eComp (iEnX (aCons (eV 0) aNil)) 2 (.tup [1,2]) (tB (eB eqD (eMt findD (eV 0) (aCons (eV 2) aNil)) (eV 1))) (eV 2) [some (.str ⟨cs.toArray⟩)]=okR (.lst (((fsts cs).map fun k=>cs.getD k 0).map sgn)):=by
  have:=zIJ (ρ:=[some (.str ⟨cs.toArray⟩)]) (c:=tB (eB eqD (eMt findD (eV 0) (aCons (eV 2) aNil)) (eV 1))) (e:=eV 2) (i:=1) (j:=2) (cs.map sgn) (fun k=>sgn (cs.getD k 0)) (fun k=>decide (cs.idxOf (cs.getD k 0)=k)) rfl rfl (iEnX (aCons (eV 0) aNil)) (by simp[iEnX];rfl) (by simp;lia) (fun k x hx=>by
   have hk:k<cs.length:=by have:=(qA5.mp hx).1;simpa using this
   have hx':x=sgn (cs.getD k 0):=by
    rw[qAb,qA1 hk]at hx;cases hx;simp[qA0,qA1 hk]
   subst hx';have hf:=zFL (c:=cs.getD k 0) (cs:=cs) (by rw[qA0,qA1 hk];simp);have hdd:decide (((cs.idxOf (cs.getD k 0):Nat):Int)=(k:Int))=decide (cs.idxOf (cs.getD k 0)=k):=by
    by_cases h:cs.idxOf (cs.getD k 0)=k
    ·rw[h];simp
    ·rw[decide_eq_false h,decide_eq_false (by lia)]
   have hf':eMt findD (eV 0) (aCons (eV 2) aNil) [some (.str ⟨cs.toArray⟩),some (.int (k:Nat)),some (sgn (cs.getD k 0))]=okR (.int (cs.idxOf (cs.getD k 0):Nat)):=by
    simp only[zV3,x_eV,zB8,zCM,qB8,qBh,zA0,hf,zA8];rfl
   generalize cs.idxOf (cs.getD k 0)=w at *;show tB (eB eqD (eMt findD (eV 0) (aCons (eV 2) aNil)) (eV 1)) [some (.str ⟨cs.toArray⟩),some (.int (k:Nat)),some (sgn (cs.getD k 0))]=_;simp only[x_tB,x_eB,hf',zA0,x_eV,qB8,qBh];simp[<- hdd]) (fun k x hx=>by
   have hk:k<cs.length:=by have:=(qA5.mp hx).1;simpa using this
   have hx':x=sgn (cs.getD k 0):=by
    rw[qAb,qA1 hk]at hx;cases hx;simp[qA0,qA1 hk]
   subst hx';simp[-qA0])
  rw[this,qAe,qAx];rfl
 have hfl:(fsts cs).length<=cs.length:=qAq (qBu _ _) (by simp);have hj:=zPI ((fsts cs).map fun k=>cs.getD k 0) (by simp;lia);unfold zAP zFP
 generalize((fsts cs).map fun k=>cs.getD k 0)=out at *
 refine zB6 rfl ?_;simp[startO,hc,hj]
def zOC{f:Nat->Nat}{x:Nat}:∀{l:List Nat},(∀y∈l,f y=f x->y=x)->(l.map f).idxOf (f x)=l.idxOf x
 |[],_=>rfl
 |a::r,h=>by
  rw[qAd,qDu,qDu,zOC (l:=r) fun y hy=>h y (by simp[hy])]
  by_cases z:a=x
  ·subst z;simp
  ·have hne:¬f a=f x:=fun w=>z (h a (by simp) w)
   rw[show(f a==f x)=false by simpa using hne,show(a==x)=false by simpa using z]
def zV2(ls row:List Nat):Prop:=∀x∈row,∀y∈row,ls.getD x 0=ls.getD y 0->x=y
def zH1(ls row:List Nat):(wrd ls row).length=row.length:=by simp[wrd]
def zNJ{row:List Nat}{k:Nat}(h:k<row.length):(wrd ls row).getD k 0=ls.getD (row.getD k 0) 0:=by
 unfold wrd;simp[qA0,qA1 h]
def zF9{row:List Nat}{k:Nat}(h:k<row.length):row.getD k 0∈row:=by
 rw[qA0,qA1 h];simp
def zNI(ha:zV2 ls row){k:Nat}(h:k<row.length):(wrd ls row).idxOf ((wrd ls row).getD k 0)=row.idxOf (row.getD k 0):=by
 rw[zNJ h];exact zOC (f:=fun p=>ls.getD p 0) fun y hy e=>ha y hy _ (zF9 h) e
def zM3(ha:zV2 ls row):((fsts (wrd ls row)).map fun k=>(wrd ls row).getD k 0)=wrd ls (ords row):=by
 have hf:fsts (wrd ls row)=(qA4 row.length).filter fun k=>decide (row.idxOf (row.getD k 0)=k):=by
  unfold fsts;rw[zH1];refine qCp fun k hk=>?_
  rw[zNI ha (by simpa using hk)]
 rw[hf,zJG row];unfold wrd;rw[qAx];refine qAs fun k hk=>?_
 have hk':k<row.length:=by
  have:=(qAm.mp hk).1;simpa using this
 exact zNJ hk'
def zIB{row:List Nat}{a:Nat}(h:a<row.length):row.idxOf (row.getD a 0)=a↔(row.take a).count (row.getD a 0)=0:=by
 have hm:=zF9 h;have hlt:=qAf hm;have e:row[row.idxOf (row.getD a 0)]=row.getD a 0:=qDt hlt;rw[qAp];constructor
 ·intro h1 h2;have h3:=qAf h2;have h4:row.idxOf (row.getD a 0)=(row.take a).idxOf (row.getD a 0):=by
   conv=>lhs;rw[<- qCl a row]
   rw[qCq,if_pos]
   ·rw[qCl]
   ·rw[qCl];exact h2
  rw[h1]at h4;rw[qCg]at h3;lia
 ·intro h1;have h2:row.idxOf (row.getD a 0)<=a:=by
   rcases qIr a (row.idxOf (row.getD a 0))with z|z
   ·have:=List.not_of_lt_findIdx (p:=(·==row.getD a 0)) (xs:=row) (i:=a) z
    rw[show row[a]=row.getD a 0 by rw[qA0,qA1 h];rfl]at this;simp at this
   ·exact z
  rcases qIr (row.idxOf (row.getD a 0)) a with z|z
  ·exfalso
   apply h1;rw[List.mem_take_iff_getElem];exact⟨row.idxOf (row.getD a 0),by lia,e⟩
  ·lia
def zR4(ha:zV2 ls row)(hz:row.length<=100)(hc:∀a,a<row.length->(row.take a).count (row.getD a 0)<=1){a:Nat}(h:a<row.length):zCL [.str ⟨(wrd ls row).toArray⟩,.int (a:Int)]=okR (.int (inA row a:Nat)):=by
 have hwl:=zH1 ls row;have ho:=zE4 (wrd ls row) (by lia);rw[zM3 ha]at ho;have hi:=zTF (cs:=wrd ls row) (k:=a) (by lia) (by lia);have hwm:(wrd ls row).getD a 0∈wrd ls row:=zF9 (by lia);have hom:row.getD a 0∈ords row:=(ords_mem row _).mpr (zF9 h);have hg:=zNJ (ls:=ls) h;have hwo:(wrd ls row).getD a 0∈wrd ls (ords row):=by rw[hg];exact qAi.mpr ⟨_,hom,rfl⟩
 have f1:=zFL hwo;have f2:=zFL hwm;have e1:(wrd ls (ords row)).idxOf ((wrd ls row).getD a 0)=(ords row).idxOf (row.getD a 0):=by
  rw[hg];exact zOC (f:=fun p=>ls.getD p 0) fun y hy e=>ha y ((ords_mem row y).mp hy) _ (zF9 h) e
 have e2:=zNI ha h;rw[e1]at f1;rw[e2]at f2;have hil:(ords row).idxOf (row.getD a 0)<=100:=by
  have h1:=qAf hom;have h2:=zBR (ords row) row (ords_nodup _) fun y hy=>(ords_mem _ y).mp hy
  lia
 have hA:inA row a=4*(ords row).idxOf (row.getD a 0)+2*(row.take a).count (row.getD a 0):=rfl;have hfc:=zIB h;have hca:=hc a h;generalize(wrd ls row).getD a 0=ch at *;generalize row.getD a 0=x at *;generalize(row.take a).count x=cn at *;generalize(ords row).idxOf x=ix at *;generalize row.idxOf x=fx at *;have m1:mulD (.int (ix:Int)) (.int 4)=some (.int ((ix:Int)*4)):=zQM (by lia) (by lia);unfold zCL zJQ;refine zB6 rfl (zBG fun bb hb=>?_);refine zAQ (r:=[some (.str ⟨(wrd ls row).toArray⟩,0),some (.int (a:Int),0),some (.int (ix:Nat),0)]) ?_ ?_
 ·have e:eMt findD (eCall zAP (aCons (eV 0) aNil)) (aCons (eB ixD (eV 0) (eV 1)) aNil) [some (.str ⟨(wrd ls row).toArray⟩),some (.int (a:Int)),none]=okR (.int (ix:Nat)):=by
   simp only[zV3,zH0,x_eV,x_eB,zB8,zCM,qB8,qBh,zA0,ho,hi,f1,zA8];rfl
  show sSet 2 0 [0,1] _ [some (.str ⟨(wrd ls row).toArray⟩,0),some (.int (a:Int),0),none]=_;rw[zOQ];show zA3 (eMt findD (eCall zAP (aCons (eV 0) aNil)) (aCons (eB ixD (eV 0) (eV 1)) aNil) [some (.str ⟨(wrd ls row).toArray⟩),some (.int (a:Int)),none]) _=_;rw[e,zA0];rfl
 subst hb;have e:eMt findD (eV 0) (aCons (eB ixD (eV 0) (eV 1)) aNil) [some (.str ⟨(wrd ls row).toArray⟩),some (.int (a:Int)),some (.int (ix:Nat))]=okR (.int (fx:Nat)):=by
  simp only[zV3,x_eV,x_eB,zB8,zCM,qB8,qBh,zA0,hi,f2,zA8];rfl
 have e3:eB addD (eB mulD (eV 2) (eC (.int 4))) (eIf (tB (eB eqD (eMt findD (eV 0) (aCons (eB ixD (eV 0) (eV 1)) aNil)) (eV 1))) (eC (.int 0)) (eC (.int 2))) [some (.str ⟨(wrd ls row).toArray⟩),some (.int (a:Int)),some (.int (ix:Nat))]=okR (.int (inA row a:Nat)):=by
  simp only[x_eB,zfI,x_tB,e,x_eV,x_eC,qB8,qBh,zA0,m1,zA8];by_cases hf:fx=a
  ·have:cn=0:=hfc.mp hf
   subst hf;simp;lia
  ·have:cn=1:=by
    have:¬cn=0:=fun z=>hf (hfc.mpr z)
    lia
   simp[show ¬(fx:Int)=(a:Int) by lia]
   lia
 show sRet 1 1 [2,1,0] _ [some (.str ⟨(wrd ls row).toArray⟩,0),some (.int (a:Int),0),some (.int (ix:Nat),0)]=_;unfold sRet;show zA3 (eB addD _ _ [some (.str ⟨(wrd ls row).toArray⟩),some (.int (a:Int)),some (.int (ix:Nat))]) _=_;rw[e3,zA0];rfl
def proS(row:List Nat)(k:Nat):List (Nat×Int):=((qA4 k).map (tieP row)).flatten
theorem zSC{α:Type}{l l':List (List α)}(h:l.Perm l'):l.flatten.Perm l'.flatten:=by
 induction h with
 |nil=>exact qE7 _
 |cons x _ ih=>rw[qB2,qB2];exact ih.append_left x
 |swap x y l=>
  rw[qB2,qB2,qB2,qB2,<- qC2,<- qC2];exact qG0.append_right _
 |trans _ _ ih1 ih2=>exact ih1.trans ih2
def zW9(L:Nat):((qA4 L).map fun k=>(k+1)%L).Perm (qA4 L):=by
 cases L with
 |zero=>exact qE7 _
 |succ m=>
  have e:(qA4 (m+1)).map (fun k=>(k+1)%(m+1))=(qA4 m).map (·+1)++[0]:=by
   rw[qD6,qBl];congr 1
   ·refine qAs fun k hk=>?_
    have:k<m:=by simpa using hk
    exact qB1 (by lia)
   ·simp
  rw[e,qCy];exact qG0
theorem zaS{row:List Nat}(h1:∀a,a<row.length->(row.take a).count (row.getD a 0)<=1)(N:List Int):puts (lawS row row.length) N=puts (proS row row.length) N:=by
 refine zS1 ?_ (fun x hx y hy=>?_) N
 ·unfold lawS proS;refine zSC ?_
  have:=(zW9 row.length).map (tieP row);rw[qAx]at this;exact this
 ·obtain⟨l,hl,hx⟩:=qDg.mp hx;obtain⟨k,hk,rfl⟩:=qAi.mp hl;obtain⟨l,hl,hy⟩:=qDg.mp hy;obtain⟨j,hj,rfl⟩:=qAi.mp hl;have hL:0<row.length:=qD0 (qAn k) (by simpa using hk);exact zRF h1 (qC7 _ hL) (qC7 _ hL) x hx y hy
def zGU{cs:List Nat}(h:cs.length<=1000):lenD [.str ⟨cs.toArray⟩]=some (.int (cs.length:Int)):=by
 have:=zHZ cs;simp[lenD,this]
 try lia
def zWJ(ha:zV2 ls row)(h0:0<row.length)(hz:row.length<=100)(hc:∀a,a<row.length->(row.take a).count (row.getD a 0)<=1)(hpos:∀a,a<row.length->inA row a+1<2*row.length)(h8:(ords row).length<=8):zDG [.str ⟨(wrd ls row).toArray⟩]=okR (rowD (puts (lawS row row.length) (qA8 (2*row.length) 0))):=by
 rw[zaS hc];have hwl:=zH1 ls row;have hlen:lenD [.str ⟨(wrd ls row).toArray⟩]=some (.int (row.length:Int)):=by
  rw[zGU (by lia),hwl]
 have ho:=zE4 (wrd ls row) (by lia);rw[zM3 ha]at ho;have hlo:lenD [.str ⟨(wrd ls (ords row)).toArray⟩]=some (.int ((ords row).length:Int)):=by
  rw[zGU (by rw[zH1];lia),zH1]
 have hen:∀o1 o2 o3 o4 o5:Option Dt,eComp (iR1 (aCons (eBi lenD (aCons (eV 0) aNil)) aNil)) 1 (.one 6) Mi.tYes (eCallN zCL (aCons (eV 0) (aCons (eV 6) aNil))) [some (.str ⟨(wrd ls row).toArray⟩),o1,o2,o3,o4,o5]=okR (rowD (numL ((qA4 row.length).map (inA row)))):=by
  intro o1 o2 o3 o4 o5;have:=zL2 (ρ:=[some (.str ⟨(wrd ls row).toArray⟩),o1,o2,o3,o4,o5]) (e:=eCallN zCL (aCons (eV 0) (aCons (eV 6) aNil))) (it:=iR1 (aCons (eBi lenD (aCons (eV 0) aNil)) aNil)) (i:=6) (n:=row.length) (fun k=>((inA row k:Nat):Int)) rfl (by lia) (zFT (by simp[hlen]) (by lia)) fun a h=>by
    have e:=zR4 ha hz hc h;simp[e]
  rw[this];unfold numL;rw[qAx];rfl
 have hrz:=zVW (2*row.length) (by lia);have m3:mulD (.int 2) (.int (row.length:Int))=some (.int ((2*row.length:Nat):Int)):=by
  rw[zQM (by lia) (by lia)]
  congr 2
 unfold zDG zPX;refine zB6 rfl (zBG fun bb hb=>?_);refine zAQ (r:=[some (.str ⟨(wrd ls row).toArray⟩,0),none,none,none,none,none]) (by simp[startO,ho,hlo];lia) ?_;subst hb;refine zBG fun bb hb=>?_
 refine zAQ (r:=[some (.str ⟨(wrd ls row).toArray⟩,0),some (rowD (numL ((qA4 row.length).map (inA row))),2),none,none,none,none]) (by simp[hen]) ?_;subst hb;refine zBG fun bb hb=>?_
 refine zAQ (r:=[some (.str ⟨(wrd ls row).toArray⟩,0),some (rowD (numL ((qA4 row.length).map (inA row))),2),some (rowD (puts (proS row 0) (qA8 (2*row.length) 0)),1),none,none,none]) ?_ ?_
 ·simp only[zOQ,zER,zFU,qEn,qG1,x_eB,x_eC,x_eV,zc9,zB8,zCM,zV5,zA0,qBh,hlen,zA8,m3,hrz];rw[if_pos (by simp)];simp only[zA0,hrz,zA8];rw[if_pos (by rw[zIF];exact qAa _)];rfl
 subst hb;refine zBG fun bb hb=>?_
 unfold sFor;rw[show iEn (aCons (eV 1) aNil) (frz (frzAt [1] [some (.str ⟨(wrd ls row).toArray⟩,0),some (rowD (numL ((qA4 row.length).map (inA row))),2),some (rowD (puts (proS row 0) (qA8 (2*row.length) 0)),1),none,none,none]))=okR (enumD 0 (((qA4 row.length).map (inA row)).map fun k:Nat=>Dt.int (k:Int))) by simp[numD],zA0];show nxR (forGo (.tup [3,4]) _ (enumD 0 (((qA4 row.length).map (inA row)).map fun k:Nat=>Dt.int (k:Int))) [some (.str ⟨(wrd ls row).toArray⟩,0),some (rowD (numL ((qA4 row.length).map (inA row))),0),some (rowD (puts (proS row 0) (qA8 (2*row.length) 0)),1),none,none,none]) _;refine zO3 _ (fun k r=>∃o3 o4 o5,r=[some (.str ⟨(wrd ls row).toArray⟩,0),some (rowD (numL ((qA4 row.length).map (inA row))),0),some (rowD (puts (proS row k) (qA8 (2*row.length) 0)),1),o3,o4,o5]) ⟨none,none,none,rfl⟩ (fun k x hx r hr=>?_) fun r hr=>?_
 ·obtain⟨o3,o4,o5,rfl⟩:=hr;have hk:k<row.length:=by have:=(qA5.mp hx).1;simpa using this
  have hx':x=.int (inA row k:Nat):=by
   rw[qAb,qAb,qDi hk]at hx;cases hx;rfl
  subst hx';have hn:=qC7 (k+row.length-1) h0;have hix:ixD (rowD (numL ((qA4 row.length).map (inA row)))) (.int ((k:Int)-1))=some (.int (inA row ((k+row.length-1)%row.length):Nat)):=by
   have hg:((qA4 row.length).map (inA row)).getD ((k+row.length-1)%row.length) 0=inA row ((k+row.length-1)%row.length):=by simp[qA0,hn]
   by_cases z:k=0
   ·subst z;have hm:(0+row.length-1)%row.length=row.length-1:=by rw[show 0+row.length-1=row.length-1 by lia];exact qB1 (by lia)
    rw[hm];have hq:ixA ((numL ((qA4 row.length).map (inA row))).map Dt.int).length (((0:Nat):Int)-1)=some (row.length-1):=by
     have hl:((numL ((qA4 row.length).map (inA row))).map Dt.int).length=row.length:=by simp[numL]
     rw[hl];unfold ixA;simp;lia
    show itA ((numL ((qA4 row.length).map (inA row))).map Dt.int) (((0:Nat):Int)-1)=_;unfold itA;rw[hq];simp[numL,show row.length-1<row.length by lia]
   ·have:=zTG ((qA4 row.length).map (inA row)) (k-1) (by simp;lia)
    rw[show((k-1:Nat):Int)=(k:Int)-1 by lia]at this;rw[this,show(k+row.length-1)%row.length=k-1 by rw[show k+row.length-1=(k-1)+row.length by lia,qCr];exact qB1 (by lia)];simp[qA0,show k-1<row.length by lia]
  have hp1:=hpos _ hn;have hp2:=hpos _ hk;generalize hw:inA row ((k+row.length-1)%row.length)=w at *;refine zD7 fun b2 hb2=>?_
  refine zAQ (r:=[some (.str ⟨(wrd ls row).toArray⟩,0),some (rowD (numL ((qA4 row.length).map (inA row))),0),some (rowD (puts (proS row k) (qA8 (2*row.length) 0)),1),some (.int (k:Nat),0),some (.int (inA row k:Nat),0),some (.int ((w+1:Nat):Int),1)]) ?_ ?_
  ·simp[hix]
  subst hb2;refine zD7 fun b2 hb2=>?_
  refine zAQ (zMN (l:=0) (a:=w+1) (v:=(inA row k:Nat)) rfl (by simp) (by simp) (by rw[zGQ,qCk];exact hp1)) ?_;subst hb2;refine zAQ (zMN (l:=0) (a:=inA row k) (v:=((w+1:Nat):Int)) rfl (by simp) (by simp) (by rw[qEl,zGQ,qCk];lia)) ⟨some (.int (k:Nat),0),some (.int (inA row k:Nat),0),some (.int ((w+1:Nat):Int),1),?_⟩;have hS:puts (proS row (k+1)) (qA8 (2*row.length) 0)=((puts (proS row k) (qA8 (2*row.length) 0)).set (w+1) (inA row k:Nat)).set (inA row k) ((w+1:Nat):Int):=by
   unfold proS;rw[qD6,qBl,List.flatten_append];unfold puts;rw[qF4];unfold tieP;simp only[qAd,qFs,qB2,List.flatten_nil,qD4,qDo,List.foldl_nil,hw]
  rw[hS];rfl
 ·obtain⟨o3,o4,o5,rfl⟩:=hr;subst hb;simp only[qAe,qDa];simp[sRetV]
structure Twice(n:Nat)(row:List Nat):Prop where
 len:row.length=2*n
 cnt:∀v,row.count v=if v<n then 2 else 0
section
variable{n:Nat}{row:List Nat}(t:Twice n row)
include t
theorem Twice.mem(v:Nat):v∈row↔v<n:=by
 rw[<- qD1,t.cnt v];split<;>lia
theorem Twice.le1{a:Nat}(h:a<row.length):(row.take a).count (row.getD a 0)<=1:=by
 have h1:=t.cnt (row.getD a 0);have hg:row.getD a 0=row[a]:=by rw[qA0,qA1 h];rfl
 have h2:row.count (row.getD a 0)=(row.take a).count (row.getD a 0)+(row.drop a).count (row.getD a 0):=by
  rw[<- qBe,qCl]
 rw[qBa h,hg,qB7]at h2;rw[hg]at h1 ⊢;split at h1<;>lia
theorem Twice.ords:(ords row).length=n:=by
 have h1:=zBR (Mp.ords row) (qA4 n) (ords_nodup row) fun x hx=>by
  have:=(t.mem x).mp ((ords_mem row x).mp hx);simpa using this
 have h2:=zBR (qA4 n) (Mp.ords row) qCi fun x hx=>(ords_mem row x).mpr ((t.mem x).mpr (by simpa using hx))
 simp at h1 h2;lia
theorem Twice.pos{a:Nat}(h:a<row.length):inA row a+1<2*row.length:=by
 have h1:=t.le1 h;have h2:=qAf ((ords_mem row _).mpr (zF9 h));have h3:=t.ords;have h4:=t.len;unfold inA;lia
end
def addB:List Int->List Int->List Int
 |a::r,b::s=>(a+b)%2::addB r s
 |_,_=>[]
def dot:List Int->List Int->Int
 |a::r,b::x=>a*b+dot r x
 |_,_=>0
def zG8(x:Int):Bit (x%2):=by show _%2=0\/_%2=1;lia
def zLB:∀(a b:List Int),a.length=b.length->(addB a b).length=a.length
 |[],[],_=>rfl
 |a::r,b::s,h=>by simp[addB,zLB r s (by simpa using h)]
 |[],_::_,h=>by simp at h
 |_::_,[],h=>by simp at h
def zQ1:∀(a b:List Int),∀x∈addB a b,Bit x
 |[],_,x,h=>by simp[addB]at h
 |_::_,[],x,h=>by simp[addB]at h
 |a::r,b::s,x,h=>by
  rw[addB,qAc]at h;rcases h with rfl|h
  ·exact zG8 _
  ·exact zQ1 r s x h
def zGZ(ha:RowN m a)(hb:RowN m b):RowN m (addB a b):=
 ⟨by rw[zLB a b (by rw[ha.1,hb.1]),ha.1],zQ1 a b⟩
def zEE:∀(a b:List Int)(k:Nat),a.length=b.length->k<a.length->(addB a b).getD k 0=(a.getD k 0+b.getD k 0)%2
 |[],_,k,_,h=>by simp at h
 |_::_,[],k,h,_=>by simp at h
 |a::r,b::s,0,_,_=>rfl
 |a::r,b::s,k+1,h,hk=>by
  have:=zEE r s k (by simpa using h) (by simpa using hk)
  simpa[addB]using this
def zU5:∀(a b x:List Int),a.length=b.length->(∀y∈x,Bit y)->dot (addB a b) x%2=(dot a x+dot b x)%2
 |[],[],x,_,_=>by simp[addB,dot]
 |[],_::_,x,h,_=>by simp at h
 |_::_,[],x,h,_=>by simp at h
 |a::r,b::s,[],_,_=>by simp[addB,dot]
 |a::r,b::s,c::x,h,hx=>by
  have ih:=zU5 r s x (by simpa using h) fun y hy=>hx y (by simp[hy])
  simp only[addB,dot];rcases hx c (by simp)with rfl|rfl<;>lia
def Ker(A:List (List Int))(x:List Int):Prop:=∀r∈A,dot r x%2=0
def ent(A:List (List Int))(i k:Nat):Int:=(A.getD i []).getD k 0
theorem zAN{α:Type}{l:List α}{d:α}{i:Nat}(h:i<l.length):l.getD i d∈l:=by
 rw[qA0,qA1 h];simp
theorem zX9{α:Type}{l:List α}{d a:α}{i j:Nat}(h:i<l.length):(l.set i a).getD j d=if i=j then a else l.getD j d:=by
 simp only[qA0,qF3];by_cases z:i=j
 ·subst z;simp[h]
 ·simp[z]
theorem zGV{α β:Type}{l:List α}{d:α}{e:β}{g:α->β}{i:Nat}(h:i<l.length):(l.map g).getD i e=g (l.getD i d):=by
 simp[qA0,qA1 h]
theorem zD0{α:Type}{l:List α}{d x:α}(h:x∈l):∃i,i<l.length/\l.getD i d=x:=by
 obtain⟨i,hi,rfl⟩:=List.mem_iff_getElem.mp h;exact⟨i,hi,by simp[qA0,qA1 hi]⟩
def oth(A:List (List Int))(c:Nat)(lead:List Int):List (List Int):=A.map fun r=>if r.getD c 0=1 then addB r lead else r
section
variable{A:List (List Int)}{c t m:Nat}(hm:∀r∈A,RowN m r)(ht:t<A.length)(hc:c<=t)(hl:ent A t c=1)(hcm:c<m)
include hm ht in
include hm ht hc in
include ht hc in
include hm ht hc in
end
def zgO(A:List (List Int))(c:Nat):Prop:=∀i k,i<A.length->k<c->ent A i k=if i=k then 1 else 0
theorem zCA(n:Nat)(f:Nat->Int):sumN (n+1) f=sumN n f+f n:=by
 unfold sumN;rw[qD6,qBl,qHk];simp
def zC9{n:Nat}{f:Nat->Int}(h:∀k,k<n->f k=0):sumN n f=0:=by
 induction n with
 |zero=>rfl
 |succ n ih=>rw[zCA,ih fun k hk=>h k (by lia),h n (by lia)];rfl
def zQ6(n:Nat)(f:Nat->Int):sumN (n+1) f=f 0+sumN n fun k=>f (k+1):=by
 induction n with
 |zero=>simp[sumN]
 |succ n ih=>rw[zCA,ih,zCA];lia
def zL0:∀(r x:List Int)(m:Nat),x.length<=m->dot r x=sumN m fun k=>r.getD k 0*x.getD k 0
 |[],x,m,_=>by rw[zC9 fun k _=>by simp];rfl
 |a::r,[],m,_=>by rw[zC9 fun k _=>by simp];rfl
 |a::r,b::x,0,h=>by simp at h
 |a::r,b::x,m+1,h=>by
  rw[dot,zL0 r x m (by simpa using h),zQ6];simp
def zZW(hx:RowN n x)(hv:Bit v):RowN n (x.set p v):=
 ⟨by simp[hx.1],fun y hy=>(List.mem_or_eq_of_mem_set hy).elim (hx.2 y) fun z=>z▸hv⟩
theorem zEU{n k:Nat}{x:List Int}(hx:RowN n x):Bit (x.getD k 0):=by
 by_cases h:k<x.length
 ·exact hx.2 _ (zAN h)
 ·left;simp[qA0,qEa (by lia:x.length<=k)]
def zHW(A:List (List Int))(p:Nat):List (List Int):=
 (A.filter fun r=>decide (r.getD p 0=0))++(((A.filter fun r=>decide (r.getD p 0=1)).drop 1).map fun r=>addB r ((A.filter fun r=>decide (r.getD p 0=1)).getD 0 []))
def zHB{n:Nat}{e:EM}{P:Ro->Prop}(h1:e (full r)=okR d)(h2:e (frz (frzAt vs r))=okR d)(p1:P (r.set i (some (d,n))))(p2:P ((frzAt vs r).set i (some (d,n)))):nxR (sSet i n vs e r) P:=by
 unfold sSet;rw[h1,zA0];split
 ·exact p1
 ·rw[h2,zA0];exact p2
def zC6{ρ:Rh}{c:TM}{e:EM}{i:Nat}{β:Type}(en:β->Dt)(g:β->Dt)(f:β->Bool)(ns:List β)(hi:i=ρ.length)(hc:∀k,k∈ns->c (ρ++[some (en k)])=okR (f k))(h:∀k,k∈ns->f k=true->e (ρ++[some (en k)])=okR (g k))(it:IM)(hit:it ρ=okR (ns.map en))(hn:ns.length<=100000):eComp it 1 (.one i) c e ρ=okR (.lst ((ns.filter f).map g)):=by
 subst hi;unfold eComp;rw[hit,zA0,if_pos ⟨by simpa using hn,by simp[Tg.idx]⟩];have go:∀(l:List β)(acc:List Dt),(∀k∈l,k∈ns)->compGo ρ 1 (.one ρ.length) c e (l.map en) acc=okR (acc++(l.filter f).map g):=by
  intro l;induction l with
  |nil=>intro acc _;simp[compGo]
  |cons a r ih=>
   intro acc hl;have h1:=hc a (hl a (by simp));have h2:=h a (hl a (by simp));have ih':=fun acc=>ih acc fun k hk=>hl k (by simp[hk])
   have es:zAO (ρ++qA8 1 none) [(ρ.length,en a)]=ρ++[some (en a)]:=by
    simp[zAO]
   rw[qAd,compGo];show zA3 (c (zAO (ρ++qA8 1 none) [(ρ.length,en a)])) _=_;rw[es,h1,zA0];cases hf:f a with
   |true=>
    rw[if_pos rfl];rw[h2 hf,zA0,ih',qDs hf];simp
   |false=>
    rw[if_neg (by simp),ih',qDr (by simp[hf])]
 rw[go _ _ fun k hk=>hk,zA0];simp
def zDS{n:Nat}{a:List Int}(h:a.length=n):a=(qA4 n).map fun j=>a.getD j 0:=by
 apply qBb
 ·simp[h]
 ·intro i h1 h2;simp[qA0,qA1 h1]
def zJR{n:Nat}{a b:List Int}(h:a.length=n)(h':b.length=n):addB a b=(qA4 n).map fun j=>(a.getD j 0+b.getD j 0)%2:=by
 rw[zDS (n:=n) (a:=addB a b) (by rw[zLB a b (by lia),h])];exact qAs fun j hj=>zEE a b j (by lia) (by simp at hj;lia)
def zWS{n:Nat}{a b:List Int}(h:a.length=n)(h':b.length=n)(hn:n<=10):zB3 [rowD a,rowD b]=okR (rowD (addB a b)):=by
 have:=zKM n (fun j=>a.getD j 0) (fun j=>b.getD j 0) hn
 rw[<- zDS h,<- zDS h',<- zJR h h']at this;exact this
def addM(A B:List (List Int))(h:A.length+B.length<=100000):addD (mat A) (mat B)=some (mat (A++B)):=by
 show(@ite _ ((A.map rowD).length+(B.map rowD).length<=100000) (qA6 _) (some (Dt.lst (A.map rowD++B.map rowD))) none)=_;rw[if_pos (by simpa using h)];unfold mat;simp
def zST(A:List (List Int))(p:Nat):(zHW A p).length<=A.length:=by
 unfold zHW;rw[qAo,qAe,qEf];have:(A.filter fun r=>decide (r.getD p 0=0)).length+(A.filter fun r=>decide (r.getD p 0=1)).length<=A.length:=by
  induction A with
  |nil=>simp
  |cons a r ih=>
   rw[qCh,qCh];by_cases h0:a.getD p 0=0
   ·have h1:¬a.getD p 0=1:=by lia
    simp only[h0,h1,decide_true,decide_false,if_true,qAj];simp[-qA0];lia
   ·by_cases h1:a.getD p 0=1
    ·simp only[h0,h1,decide_true,decide_false,if_true,qAj];simp[-qA0]
     lia
    ·simp only[h0,h1,decide_true,decide_false,qAj];simp[-qA0]
     lia
 lia
def zfO(n i:Nat):List Int:=(qA4 n).map fun j=>if j=i then 1 else 0
def zJD{n k:Nat}{g:Nat->Int}(h:k<n):((qA4 n).map g).getD k 0=g k:=by
 simp[qA0,h]
def aug(n:Nat)(T:List (List Int)):List (List Int):=(qA4 n).map fun i=>T.getD i []++zfO n i
structure Un(n:Nat)(T A:List (List Int))(c:Nat):Prop where
 len:A.length=n
 rows:∀r∈A,RowN (n+n) r
 unit:zgO A c
 ker:∀x,(∀y∈x,Bit y)->(Ker A x↔Ker (aug n T) x)
def eiR(x:R Out)(P:Ro->Prop)(Q:Dt->Prop):Prop:=(∃r,x=okR (.nx r)/\P r)\/∃d,x=okR (.rt d)/\Q d
def zTY(h:nxR x P):eiR x P Q:=.inl (zC4 h)
def zJB{a b:SM}(h:eiR (a r) P Q)(hb:∀r',P r'->eiR (b r') P' Q):eiR (sSeq a b r) P' Q:=by
 unfold sSeq;rcases h with⟨r',e,h'⟩|⟨d,e,hq⟩
 ·rw[e,zA0];exact hb r' h'
 ·rw[e,zA0];exact .inr ⟨d,rfl,hq⟩
def zUY(h:RowN n a)(h':RowN n b)(hn:n<=1000):zKK [rowD a,rowD b]=okR (rowD (addB a b)):=by
 rw[zJR h.1 h'.1];unfold zKK zUW;have hc:eComp (iR1 (aCons (eBi lenD (aCons (eV 0) aNil)) aNil)) 1 (.one 2) Mi.tYes (eB xorD (eB ixD (eV 0) (eV 2)) (eB ixD (eV 1) (eV 2))) [some (rowD a),some (rowD b)]=okR (rowD ((qA4 n).map fun j=>(a.getD j 0+b.getD j 0)%2)):=by
  refine zL2 _ rfl (by lia) (zFT (by simp[-qA0,h.1]) (by lia)) fun j hj=>?_
  have i1:=zO9 a j (by rw[h.1];exact hj);have i2:=zO9 b j (by rw[h'.1];exact hj);simp[-qA0,i1,i2,zZE (zEU (k:=j) h) (zEU (k:=j) h')]
 simp[hc]
def zRM{z:Str}{l:List Nat}(h:z.cps.toList=l):z=⟨l.toArray⟩:=by
 cases z with
 |mk a=>subst h;simp
def add_str{a b:List Nat}(h:a.length+b.length<=1000):addD (.str ⟨a.toArray⟩) (.str ⟨b.toArray⟩)=some (.str ⟨(a++b).toArray⟩):=by
 rw[zcC,if_pos (by rw[zHZ,zHZ];lia)]
 congr 2;exact zRM (by rw[zNM])
def zcQ{a:List Nat}(l h:Option Int)(hz:a.length<=1000):slD (.str ⟨a.toArray⟩) l h=some (.str ⟨(cutA a l h).toArray⟩):=by
 show(@ite _ ((Str.mk a.toArray).length<=100000) (qA6 _) (some (Dt.str ⟨(cutA a l h).toArray⟩)) none)=_;rw[if_pos (by rw[zHZ];lia)]
def zHL{α:Type}:∀(l:List α){i:Nat}(h:i<l.length),l.Perm (l[i]::l.eraseIdx i)
 |a::r,0,h=>by simp
 |a::r,i+1,h=>by
  have:=zHL r (i:=i) (by simpa using h)
  simp only[qDz,qBw];exact(this.cons a).trans (qEx _ _ _)
def zbY:(qJm "abcdefghijklmnopqrstuvwxyz").cps.toList=(qA4 26).map (97 + ·):=by
 rw[qK2];decide
def zbX:(qJm "abcdefghijklmnopqrstuvwxyz")=⟨((qA4 26).map (97 + ·)).toArray⟩:=zRM zbY
def zHX{α β:Type}(g:α->β):∀(l:List α)(q:Nat),(l.eraseIdx q).map g=(l.map g).eraseIdx q
 |[],_=>rfl
 |_::_,0=>rfl
 |a::r,q+1=>by rw[qBw,qAd,qAd,qBw,zHX g r q]
def zV6{j i:Nat}{e:EM}{r:Ro}{l0 k q:Nat}(hj:r[j]?=some (some (.str z,l0)))(hi:r[i]?=some (some (.lst ds,k+1)))(he:e (full r)=okR (.int (q:Int)))(hd:ds[q]?=some (.str u))(hij:i≠j)(h1:ds.length<=1000000)(h2:z.length+u.length<=100000):sAddPop j i e r=okR (.nx ((r.set i (some (.lst (ds.eraseIdx q),k+1))).set j (some (.str (z++u),0)))):=by
 have hq:q<ds.length:=(qA5.mp hd).1;unfold sAddPop;rw[hj,hi];dsimp only;rw[he,zA0];dsimp only;rw[zMK (by lia) (by lia)];dsimp only;rw[qBd,hd];dsimp only;rw[if_pos ⟨hij,h1,h2⟩]
def zc8{i n:Nat}{e:EM}{r:Ro}{k:Nat}(h:r[i]?=some (some (.lst ds,k+1)))(he:e (full r)=okR (.lst es))(h1:ds.length+es.length<=100000)(h2:Dt.depL es<=n)(h3:Dt.depL es<=k):sExt i n e r=okR (.nx (r.set i (some (.lst (ds++es),k+1)))):=by
 unfold sExt;rw[h];dsimp only;rw[he,zA0];dsimp only;rw[if_pos ⟨h1,h2,h3⟩]
@[simp] theorem x_eNew0(c:Str)(ρ:Rh):zgK c ρ=okR (.ins c []):=rfl
@[simp] theorem x_eNew(c:Str)(fl:List Str)(am:AM)(ρ:Rh):eNew c fl am ρ=zA3 (am ρ) fun ds=>match svsD ds with
 |some vs=>if vs.length=fl.length then okR (.ins c (fl.zip vs))else none
 |none=>none:=rfl
@[simp] theorem x_eFld(hs:List Str)(f:Str)(e:EM)(ρ:Rh):eFld hs f e ρ=zA3 (e ρ) fun d=>match d with
 |.ins c fs=>if c∈hs then(match fs.lookup f with|some v=>okR (dSv v)|none=>none)else none
 |_=>none:=rfl
@[simp] theorem x_eMeth(tb:List (Str×FM))(m:Str)(e:EM)(am:AM)(ρ:Rh):zgL tb m e am ρ=zA3 (e ρ) fun d=>match d with
 |.ins c fs=>match tb.lookup c with
  |some g=>match fs.lookup m with
   |none=>zA3 (am ρ) fun ds=>g (d::ds)
   |some _=>none
  |none=>none
 |_=>none:=rfl
@[simp] theorem x_eIsO(ys ns:List Str)(e:EM)(ρ:Rh):eIsO ys ns e ρ=zA3 (e ρ) fun d=>match d with
 |.ins c _=>if c∈ys then okR (.bl true)else if c∈ns then okR (.bl false)else none
 |_=>none:=rfl
@[simp] theorem v_dins(c:Str)(fs:List (Str×Sv)):(Dt.ins c fs).dep=1000:=rfl
def zeM(o:Option Sl):Option Dt:=match o with
 |some (d,n)=>if n=0\/d.dep=0 then some d else none
 |none=>none
def zTU(o:Option Sl)(r:Ro):frz (o::r)=zeM o::frz r:=by
 cases o with
 |none=>rfl
 |some p=>rfl
def zD6{cs:List Nat}(h:cs.count x=2):∃A B C:List Nat,cs=A++x::(B++x::C)/\x∉A/\x∉B/\x∉C:=by
 have h1:x∈cs:=qD1.mp (by lia);obtain⟨A,R,rfl,hA⟩:=qC1 h1;rw[qBe,qAp.mpr hA,qB7]at h;have h2:x∈R:=qD1.mp (by lia);obtain⟨B,C,rfl,hB⟩:=qC1 h2;rw[qBe,qAp.mpr hB,qB7]at h;exact⟨A,B,C,rfl,hA,hB,qAp.mp (by lia)⟩
def zPM{A R:List Nat}{x:Nat}(h:x∉A):(A++x::R).idxOf x=A.length:=by
 rw[qCq,if_neg h,List.idxOf_cons_self];lia
def zVV{A B C:List Nat}{x:Nat}(hC:x∉C):rfindD (.str ⟨(A++x::(B++x::C)).toArray⟩) [sgn x]=some (.int ((A.length+1+B.length:Nat):Int)):=by
 have hr:(A++x::(B++x::C)).reverse=C.reverse++x::(B.reverse++x::A.reverse):=by simp
 have hp:posC x (A++x::(B++x::C)).reverse=some C.length:=by
  rw[hr,zK6 (by simp),zPM (by simpa using hC),List.length_reverse]
 show some (Dt.int (match lastC x (A++x::(B++x::C))with|some i=>(i:Int)|none=>-1))=_;unfold lastC;rw[hp];show some (Dt.int (((A++x::(B++x::C)).length-1-C.length:Nat):Int))=_
 congr 3;simp;lia
def zb6{A R:List Nat}{x:Nat}(h:x∉A):findD (.str ⟨(A++x::R).toArray⟩) [sgn x]=some (.int (A.length:Int)):=by
 rw[zFL (by simp),zPM h]
def zbN(xs:List α){i j:Nat}(hi:i<=xs.length)(hj:j<=xs.length):cutA xs (some (i:Int)) (some (j:Int))=(xs.drop i).take (j-i):=by
 unfold cutA cutIx;dsimp only;rw[if_neg (by lia),if_neg (by lia)];simp only[qBd];rw[qG2 hi,qG2 hj]
def len1(x:Nat):lenD [sgn x]=some (.int 1):=zGU (cs:=[x]) (by simp)
def zeI(x:Nat)(cs:List Nat):inD true (sgn x) (.str ⟨cs.toArray⟩)=some (.bl (!decide (x∈cs))):=rfl
def zXB{A R:List Nat}{x:Nat}(h:x∉A):zDH [.str ⟨(A++x::R).toArray⟩,sgn x]=okR (.int (A.length:Int)):=by
 have key:zDN [some (.str ⟨(A++x::R).toArray⟩,0),some (sgn x,0)]=okR (.rt (.int (A.length:Int))):=by
  have f:=zb6 (R:=R) h;have i:=zeI x (A++x::R);rw[show(!decide (x∈A++x::R))=false by simp]at i;have l:=len1 x
  generalize(A++x::R)=cs at f i;unfold zDN;refine zBG fun bb hb=>?_
  refine zAQ (r:=[some (.str ⟨cs.toArray⟩,0),some (sgn x,0)]) (by simp[i,l]) ?_;subst hb;simp[f]
 exact zB6 rfl key
def zS8{A B C:List Nat}{x:Nat}(hA:x∉A)(hC:x∉C):zEZ [.str ⟨(A++x::(B++x::C)).toArray⟩,sgn x]=okR (.tup [.int (A.length:Int),.int ((A.length+1+B.length:Nat):Int)]):=by
 have key:zF2 [some (.str ⟨(A++x::(B++x::C)).toArray⟩,0),some (sgn x,0)]=okR (.rt (.tup [.int (A.length:Int),.int ((A.length+1+B.length:Nat):Int)])):=by
  have f:=zXB (R:=B++x::C) hA;have r:=zVV (A:=A) (B:=B) hC;generalize(A++x::(B++x::C))=cs at f r;generalize((A.length+1+B.length:Nat):Int)=b at r ⊢;unfold zF2;simp[f,r]
 exact zB6 rfl key
def cuts{A B C:List Nat}{x:Nat}:(A++x::(B++x::C)).take (A.length+1)=A++[x]/\((A++x::(B++x::C)).drop (A.length+1)).take B.length=B/\(A++x::(B++x::C)).drop (A.length+1+B.length)=x::C:=by
 have e:A++x::(B++x::C)=(A++[x])++(B++x::C):=by simp
 have l:(A++[x]).length=A.length+1:=by simp
 refine⟨?_,?_,?_⟩
 ·rw[e,<- l,qCs];rfl
 ·rw[e,<- l,qEq,qCs]
  ·rfl
  ·rfl
 ·rw[<- List.drop_drop,e,<- l,qEq,qEq]
  ·rfl
  ·rfl
def zMY{ls cs:List Nat}(hp:cs.Perm (ls++ls))(hn:ls.Nodup){x:Nat}(hx:x∈cs):cs.count x=2:=by
 have hl:x∈ls:=by have:=hp.mem_iff.mp hx;simpa using this
 rw[hp.count_eq,qBe,qJ2 hn,if_pos hl]
def zWP{P:Nat->Prop}:∀(n:Nat),P n->∃p,p<=n/\P p/\∀q,q<p->¬P q:=by
 intro n;induction n using qHl with
 |ind n ih=>
  intro h;by_cases hq:∃q,q<n/\P q
  ·obtain⟨q,h1,h2⟩:=hq;obtain⟨p,h3,h4,h5⟩:=ih q h1 h2;exact⟨p,by lia,h4,h5⟩
  ·exact⟨n,qAa _,h,fun q h1 h2=>hq ⟨q,h1,h2⟩⟩
def itr(f:Nat->Nat):Nat->Nat->Nat
 |0,x=>x
 |k+1,x=>f (itr f k x)
def zFJ{f:Nat->Nat}{M:Nat}(hf:∀x,x<M->f x<M){x:Nat}(hx:x<M):∀k,itr f k x<M
 |0=>hx
 |k+1=>hf _ (zFJ hf hx k)
def zKP{f:Nat->Nat}{M:Nat}(hf:∀x,x<M->f x<M)(hi:∀x y,x<M->y<M->f x=f y->x=y){x:Nat}(hx:x<M):∀i d,itr f i x=itr f (i+d) x->itr f d x=x
 |0,d,h=>by rw[qC4]at h;exact h.symm
 |i+1,d,h=>by
  rw[show i+1+d=(i+d)+1 by lia]at h;exact zKP hf hi hx i d (hi _ _ (zFJ hf hx i) (zFJ hf hx (i+d)) h)
def zMD:∀l:List Nat,¬l.Nodup->∃i j,i<j/\j<l.length/\l.getD i 0=l.getD j 0
 |[],h=>absurd qHy h
 |a::l,h=>by
  by_cases ha:a∈l
  ·obtain⟨j,hj,e⟩:=List.getElem_of_mem ha;exact⟨0,j+1,by lia,by simp;lia,by simp[hj,e]⟩
  ·have:¬l.Nodup:=fun hn=>h (qBk.mpr ⟨ha,hn⟩)
   obtain⟨i,j,h1,h2,h3⟩:=zMD l this;exact⟨i+1,j+1,by lia,by simp;lia,by simpa using h3⟩
def zHV:∀{a b:List Nat},a.Nodup->(∀x∈a,x∈b)->a.length<=b.length
 |[],b,_,_=>by simp
 |x::a,b,hn,h=>by
  obtain⟨h1,h2⟩:=qBk.mp hn;have hx:=h x (by simp)
  have:=zHV (b:=b.erase x) h2 fun y hy=>by
   have hne:y≠x:=fun z=>h1 (z▸hy)
   exact(qEi hne).mpr (h y (by simp[hy]))
  rw[qDj hx]at this;have:=qCz hx;simp only[qAj];lia
def zR6{f:Nat->Nat}{M:Nat}(hf:∀x,x<M->f x<M)(hi:∀x y,x<M->y<M->f x=f y->x=y){x:Nat}(hx:x<M):∃p,1<=p/\p<=M/\itr f p x=x/\∀q,1<=q->q<p->itr f q x≠x:=by
 have hn:¬((qA4 (M+1)).map fun k=>itr f k x).Nodup:=fun hn=>by
  have:=zHV (b:=qA4 M) hn fun y hy=>by
   obtain⟨k,_,rfl⟩:=qAi.mp hy;exact qBf.mpr (zFJ hf hx k)
  simp at this;lia
 obtain⟨i,j,h1,h2,h3⟩:=zMD _ hn;simp at h2;have e:itr f i x=itr f j x:=by
  simpa[show i<M+1 by lia,h2]using h3
 have hb:itr f (j-i) x=x:=zKP hf hi hx i (j-i) (by rw[show i+(j-i)=j by lia];exact e);obtain⟨p,h4,h5,h6⟩:=zWP (P:=fun p=>1<=p/\itr f p x=x) (j-i) ⟨by lia,hb⟩;exact⟨p,h5.1,by lia,h5.2,fun q h7 h8 h9=>h6 q h8 ⟨h7,h9⟩⟩
def jn(cs:List Nat)(e:Nat):Nat:=e/4*4+(e%4^^^(cs.getD (e/4) 0+1))
def xor4:∀s,s<4->∀w,w<3->(s^^^(w+1))<4/\((s^^^(w+1))^^^(w+1))=s:=by decide
def zDR{cs:List Nat}{n e:Nat}(hl:cs.length=n)(hw:∀c∈cs,c<3)(he:e<4*n):jn cs e<4*n/\jn cs (jn cs e)=e:=by
 have hc:cs.getD (e/4) 0<3:=zI9 hw (by lia);obtain⟨h1,h2⟩:=xor4 (e%4) (by lia) _ hc;have hq:jn cs e/4=e/4:=by unfold jn;omega
 have hr:jn cs e%4=(e%4^^^(cs.getD (e/4) 0+1)):=by unfold jn;omega
 refine⟨by unfold jn;lia,?_⟩;show jn cs e/4*4+(jn cs e%4^^^(cs.getD (jn cs e/4) 0+1))=e;rw[hq,hr,h2]
 lia
def nt(ts:List Nat)(e:Nat):Nat:=ts.getD e 0
structure NetN(ts:List Nat)(M:Nat):Prop where
 len:ts.length=M
 lt:∀e,e<M->nt ts e<M
 inv:∀e,e<M->nt ts (nt ts e)=e
def stp(ts cs:List Nat)(e:Nat):Nat:=nt ts (jn cs e)
def zH8{cs:List Nat}{n:Nat}(hN:NetN ts (4*n))(hl:cs.length=n)(hw:∀c∈cs,c<3):(∀x,x<4*n->stp ts cs x<4*n)/\∀x y,x<4*n->y<4*n->stp ts cs x=stp ts cs y->x=y:=by
 refine⟨fun x hx=>hN.lt _ (zDR hl hw hx).1,fun x y hx hy e=>?_⟩;have h1:=congrArg (nt ts) e;unfold stp at h1;rw[hN.inv _ (zDR hl hw hx).1,hN.inv _ (zDR hl hw hy).1]at h1;have h2:=congrArg (jn cs) h1;rw[(zDR hl hw hx).2,(zDR hl hw hy).2]at h2;exact h2
def orb(ts cs:List Nat)(e:Nat)(k:Nat):List Nat:=(qA4 k).flatMap fun i=>[itr (stp ts cs) i e,jn cs (itr (stp ts cs) i e)]
def zGT(ts cs:List Nat)(e k:Nat):orb ts cs e (k+1)=orb ts cs e k++[itr (stp ts cs) k e,jn cs (itr (stp ts cs) k e)]:=by
 unfold orb;rw[qD6,List.flatMap_append];simp
def zHQ(ts cs:List Nat)(e:Nat):∀k,(orb ts cs e k).length=2*k
 |0=>rfl
 |k+1=>by rw[zGT,qAo,zHQ ts cs e k];simp;lia
def bx4:∀s:Nat,s<4->∀w:Nat,w<3->qKd (s:Int) ((w:Int)+1)=((s^^^(w+1):Nat):Int):=by decide
def zO8{w s:Nat}(hw:w<3)(hs:s<4):zKJ [.int (w:Int),.int (s:Int)]=okR (.int ((s^^^(w+1):Nat):Int)):=by
 refine zB6 rfl ?_;show zL7 [some (.int (w:Int),0),some (.int (s:Int),0)]=_;unfold zL7;simp[bx4 s hs w hw]
def zI3{cs:List Nat}{n e:Nat}(hl:cs.length=n)(hn:n<=1000)(hw:∀c∈cs,c<3)(he:e<4*n):zBE [rowD (numL cs),.int (e:Int)]=okR (.int (jn cs e:Nat)):=by
 have hx:=zTG cs (e/4) (by lia);have hc:cs.getD (e/4) 0<3:=zI9 hw (by lia);have hj:=zO8 hc (show e%4<4 by lia);have e1:(e:Int)/4=((e/4:Nat):Int):=by lia
 have e2:(e:Int)%4=((e%4:Nat):Int):=by lia
 refine zB6 rfl ?_;show zE3 [some (rowD (numL cs),0),some (.int (e:Int),0),none]=_;unfold zE3;generalize rowD (numL cs)=C at hx ⊢;refine zBG fun bb hb=>zAQ (r:=[some (C,0),some (.int (e:Int),0),some (.int ((e/4:Nat):Int),0)]) (by simp) ?_
 subst hb;have m1:mulD (.int ((e/4:Nat):Int)) (.int 4)=some (.int (((e/4:Nat):Int)*4)):=zWL (by lia) (by lia);have hm:modD (.int (e:Int)) (.int 4)=some (.int ((e%4:Nat):Int)):=by simp
 have ejn:((e/4:Nat):Int)*4+((e%4^^^(cs.getD (e/4) 0+1):Nat):Int)=((jn cs e:Nat):Int):=by unfold jn;lia
 generalize((e/4:Nat):Int)=q at *;generalize((e%4:Nat):Int)=r at *;simp only[zR9,x_eB,x_eV,x_eC,zH0,zB8,zCM,zER,zFU,qEn,qG1,qB8,qBh,zA0,m1,hm,hx,hj,zA8,zfN,ejn];simp
def zaX{l:List Nat}{x:Nat}:ixD (rowD (numL (l++[x]))) (.int (-1))=some (.int (x:Int)):=by
 show itA ((numL (l++[x])).map Dt.int) (-1)=_;unfold itA ixA;simp[numL];rw[if_pos (by lia)];simp;rw[show(-1+((l.length:Int)+1)).toNat=l.length by lia];simp
def zQD{cs:List Nat}{n e:Nat}(hN:NetN ts (4*n))(hl:cs.length=n)(hn:n<=100)(hw:∀c∈cs,c<3)(he:e<4*n){p:Nat}(p1:1<=p)(p2:p<=4*n)(p3:itr (stp ts cs) p e=e)(p4:∀q,1<=q->q<p->itr (stp ts cs) q e≠e) :
  zE7 [rowD (numL ts),rowD (numL cs),.int (e:Int)]=okR (rowD (numL (orb ts cs e p))):=by
 obtain⟨st1,_⟩:=zH8 hN hl hw;have hlt:∀k,itr (stp ts cs) k e<4*n:=zFJ st1 he;have hjn:∀k,zBE [rowD (numL cs),.int ((itr (stp ts cs) k e:Nat):Int)]=okR (.int (jn cs (itr (stp ts cs) k e):Nat)):=fun k=>zI3 hl (by lia) hw (hlt k)
 have hnt:∀k,ixD (rowD (numL ts)) (.int ((jn cs (itr (stp ts cs) k e):Nat):Int))=some (.int ((itr (stp ts cs) (k+1) e:Nat):Int)):=fun k=>zTG ts _ (by rw[hN.len];exact(zDR hl hw (hlt k)).1)
 have hlast:∀k,ixD (rowD (numL (orb ts cs e (k+1)))) (.int (-1))=some (.int ((jn cs (itr (stp ts cs) k e):Nat):Int)):=fun k=>by
  rw[zGT,show orb ts cs e k++[itr (stp ts cs) k e,jn cs (itr (stp ts cs) k e)]=(orb ts cs e k++[itr (stp ts cs) k e])++[jn cs (itr (stp ts cs) k e)] by simp];exact zaX
 have hdr:∀k,(rowD (numL (orb ts cs e k))).dep=1:=fun k=>zIF _
 have hext:∀k:Nat,k<=1000->∀o4,sExt 3 0 (eLst (aCons (eV 4) (aCons (eCall zBE (aCons (eV 1) (aCons (eV 4) aNil))) aNil))) [some (rowD (numL ts),0),some (rowD (numL cs),0),some (.int (e:Int),0),some (rowD (numL (orb ts cs e (k+1))),1),some (.int ((itr (stp ts cs) (k+1) e:Nat):Int),o4)]=okR (.nx [some (rowD (numL ts),0),some (rowD (numL cs),0),some (.int (e:Int),0),some (rowD (numL (orb ts cs e (k+2))),1),some (.int ((itr (stp ts cs) (k+1) e:Nat):Int),o4)]):=by
  intro k hk o4;have hj:=hjn (k+1);have ol:=zHQ ts cs e (k+1);have es:=zGT ts cs e (k+1);generalize rowD (numL cs)=C at hj ⊢;generalize rowD (numL ts)=T;generalize hx:itr (stp ts cs) (k+1) e=x at hj es ⊢;generalize hy:jn cs x=y at hj es ⊢;rw[show k+1+1=k+2 from rfl]at es;rw[es];unfold rowD numL sExt;simp[hj,ol]
  lia
 have key:zGA [some (rowD (numL ts),0),some (rowD (numL cs),0),some (.int (e:Int),0),none,none]=okR (.rt (rowD (numL (orb ts cs e p)))):=by
  unfold zGA;have h0:=hjn 0;refine zBG fun bb hb=>zAQ (r:=[some (rowD (numL ts),0),some (rowD (numL cs),0),some (.int (e:Int),0),some (rowD (numL (orb ts cs e 1)),1),none]) (by
   have eo:rowD (numL (orb ts cs e 1))=.lst [.int (e:Int),.int ((jn cs e:Nat):Int)]:=rfl;replace h0:zBE [rowD (numL cs),.int (e:Int)]=okR (.int ((jn cs e:Nat):Int)):=h0;rw[eo];generalize rowD (numL cs)=C at h0 ⊢;generalize rowD (numL ts)=T;simp[h0]) ?_
  subst hb;refine zBG fun bb hb=>?_
  refine zWG (fun r=>∃k o4,k+1<=p/\r=[some (rowD (numL ts),0),some (rowD (numL cs),0),some (.int (e:Int),0),some (rowD (numL (orb ts cs e (k+1))),1),o4]) (fun r=>1000-zg9 3 r) (fun r=>∃o4,r=[some (rowD (numL ts),0),some (rowD (numL cs),0),some (.int (e:Int),0),some (rowD (numL (orb ts cs e p)),1),o4]) ⟨0,none,by lia,rfl⟩ ?_ ?_ ?_
  ·exact qD0 (Nat.sub_le _ _) (by lia)
  ·rintro r ⟨k,o4,hk,rfl⟩
   have c1:=hlast k;have c2:=hnt k;have hx1:itr (stp ts cs) (k+1) e=e↔k+1=p:=by
    constructor
    ·intro h
     by_cases hkp:k+1=p
     ·exact hkp
     ·exact absurd h (p4 (k+1) (by lia) (by lia))
    ·intro h;rw[h];exact p3
   have hcond:(tB (eB neD (eB ixD (eV 0) (eB ixD (eV 3) (eU negD (eC (.int 1))))) (eV 2))) (full [some (rowD (numL ts),0),some (rowD (numL cs),0),some (.int (e:Int),0),some (rowD (numL (orb ts cs e (k+1))),1),o4])=okR (decide (¬k+1=p)):=by
    have hd:decide (((itr (stp ts cs) (k+1) e:Nat):Int)=(e:Int))=decide (k+1=p):=by
     by_cases h:k+1=p
     ·have:=hx1.mpr h
      rw[this];simp[h]
     ·have:¬itr (stp ts cs) (k+1) e=e:=fun z=>h (hx1.mp z)
      simp[h];lia
    generalize rowD (numL (orb ts cs e (k+1)))=Z at c1 ⊢;generalize rowD (numL cs)=C;generalize rowD (numL ts)=T at c2 ⊢;simp[c1,c2,hd]
   rw[hcond];by_cases hkp:k+1=p
   ·refine .inl ⟨by simp[hkp],o4,?_⟩;rw[hkp]
   ·refine .inr ⟨by simp[hkp],?_⟩;refine zD7 fun bb hb=>zAQ (r:=[some (rowD (numL ts),0),some (rowD (numL cs),0),some (.int (e:Int),0),some (rowD (numL (orb ts cs e (k+1))),1),some (.int ((itr (stp ts cs) (k+1) e:Nat):Int),0)]) (by
     generalize rowD (numL (orb ts cs e (k+1)))=Z at c1 ⊢;generalize rowD (numL cs)=C;generalize rowD (numL ts)=T at c2 ⊢;simp[c1,c2]) ?_
    subst hb;refine zAQ (hext k (by lia) 0) ⟨⟨k+1,_,by lia,rfl⟩,?_⟩;have l1:=zHQ ts cs e (k+1);have l2:=zHQ ts cs e (k+2);show 1000-((numL (orb ts cs e (k+2))).map Dt.int).length<1000-((numL (orb ts cs e (k+1))).map Dt.int).length;simp[numL,l1,l2]
    lia
  ·rintro r ⟨o4,rfl⟩
   subst hb;have:=hdr p;generalize rowD (numL (orb ts cs e p))=Z at this ⊢;generalize rowD (numL cs)=C;generalize rowD (numL ts)=T;simp[this]
 exact zB6 rfl key
abbrev Kv:=List (Sum Int Str×Sw)
def zEY(D:Kv)(l:List Nat):Kv:=l.foldl (fun(m:Kv)(x:Nat)=>putW m (.inl (x:Int)) (.bl true)) D
def zW3(D:Kv)(k:Sum Int Str)(v:Sw):(putW D k v).length<=D.length+1:=by
 unfold putW;split
 ·simp
 ·simp
def zWN(l:List Nat):∀D:Kv,(zEY D l).length<=D.length+l.length:=by
 induction l with
 |nil=>intro D;exact qAa _
 |cons x r ih=>
  intro D;have h1:=ih (putW D (.inl (x:Int)) (.bl true));have h2:=zW3 D (.inl (x:Int)) (.bl true);show(zEY (putW D (.inl (x:Int)) (.bl true)) r).length<=_;simp only[qAj];lia
def rdS(f:Nat->List Nat):Nat->List (List Nat)×Kv
 |0=>([],[])
 |k+1=>if(getW (rdS f k).2 (.inl (k:Int))).isSome=true then rdS f k else((rdS f k).1++[f k],zEY (rdS f k).2 (f k))
def zNW{f:Nat->List Nat}{B:Nat}(hf:∀k,(f k).length<=B):∀k,(rdS f k).1.length<=k/\(rdS f k).2.length<=k*B
 |0=>by simp[rdS]
 |k+1=>by
  obtain⟨h1,h2⟩:=zNW hf k;have hb:=hf k;have hm:=zWN (f k) (rdS f k).2;unfold rdS;split
  ·exact⟨by lia,by rw[qFp];lia⟩
  ·exact⟨by simp;lia,by show(zEY (rdS f k).2 (f k)).length<=_;rw[qFp];lia⟩
def rowsD(R:List (List Nat)):Dt:=.lst (R.map fun l=>rowD (numL l))
def zOZ:∀R:List (List Nat),Dt.depL (R.map fun l=>rowD (numL l))<=1
 |[]=>by simp[Dt.depL]
 |l::R=>by
  have h:=zOZ R;have:=zIF (numL l);simp only[qAd];rw[Dt.depL];lia
def zHD(R:List (List Nat)):(rowsD R).dep<=2:=by
 have:=zOZ R;unfold rowsD;rw[Dt.dep];lia
theorem zUX{r:Ro}{i v:Nat}{R:List (List Nat)}{l:List Nat}{lv lx:Nat}{e:EM}(hi:r[i]?=some (some (rowsD R,lv+1)))(hv:r[v]?=some (some (rowD (numL l),lx)))(hne:v≠i)(he:∀ρ:Rh,ρ[v]?=some (some (rowD (numL l)))->e ρ=okR (rowD (numL l)))(hz:R.length<=1000) :
  sAppF i [v] e r=okR (.nx (((r.set i (some (rowsD R,1))).set v (some (rowD (numL l),0))).set i (some (rowsD (R++[l]),1)))):=by
 have hil:i<r.length:=by
  have:=(qA5.mp hi).1;exact this
 have hvl:v<r.length:=(qA5.mp hv).1;have h1:low i r=r.set i (some (rowsD R,1)):=by
  unfold low;rw[hi];rfl
 have h2:frzAt [v] (r.set i (some (rowsD R,1)))=(r.set i (some (rowsD R,1))).set v (some (rowD (numL l),0)):=by
  show frz1 v _=_;unfold frz1;rw[qB0 (qCv hne),hv]
 unfold sAppF;rw[h1,h2];have h3:((r.set i (some (rowsD R,1))).set v (some (rowD (numL l),0)))[i]?=some (some (rowsD R,1)):=by
  rw[qB0 hne,qAt hil]
 rw[h3];have h4:(frz ((r.set i (some (rowsD R,1))).set v (some (rowD (numL l),0))))[v]?=some (some (rowD (numL l))):=by
  unfold frz;rw[qAb,qAt (by simpa using hvl)];simp
 show zA3 (e _) _=_;rw[he _ h4,zA0,if_pos (by simp;lia)]
 congr 5;simp[rowsD]
def zHO:∀(l:List Nat),pairsD (l.map fun x:Nat=>Dt.tup [.int (x:Int),.bl true])=some (l.map fun x:Nat=>((qF6 (x:Int):Sum Int Str),Sw.bl true))
 |[]=>rfl
 |x::l=>by
  simp only[qAd];unfold pairsD;rw[zHO l];rfl
def zR1(l:List Nat)(D:Kv):(l.map fun x:Nat=>((qF6 (x:Int):Sum Int Str),Sw.bl true)).foldl (fun m p=>putW m p.1 p.2) D=zEY D l:=by
 unfold zEY;rw[List.foldl_map]
theorem zNU{ts cs:List Nat}{n:Nat}(hN:NetN ts (4*n))(hn:n<=30){f:Nat->List Nat}(hf:∀k,(f k).length<=8*n)
  (hr:∀e,e<4*n->zE7 [rowD (numL ts),rowD (numL cs),.int (e:Int)]=okR (rowD (numL (f e)))) :
  zCQ [rowD (numL ts),rowD (numL cs)]=okR (rowsD (rdS f (4*n)).1):=by
 have hlen:lenD [rowD (numL ts)]=some (.int ((4*n:Nat):Int)):=by
  show some (Dt.int (((numL ts).map Dt.int).length:Int))=_;rw[qAe];unfold numL;rw[qAe,hN.len]
 have key:zF1 [some (rowD (numL ts),0),some (rowD (numL cs),0),none,none,none,none]=okR (.rt (rowsD (rdS f (4*n)).1)):=by
  unfold zF1;refine zBG fun bb hb=>zAQ (r:=[some (rowD (numL ts),0),some (rowD (numL cs),0),some (.lst [],9),none,none,none]) (by
   generalize rowD (numL cs)=C;generalize rowD (numL ts)=T;simp) ?_
  subst hb;refine zBG fun bb hb=>zAQ (r:=[some (rowD (numL ts),0),some (rowD (numL cs),0),some (.lst [],9),some (.dct [],1),none,none]) rfl ?_
  subst hb;refine zBG fun bb hb=>?_
  rw[zFS,show iR1 (aCons (eBi lenD (aCons (eV 0) aNil)) aNil) (full [some (rowD (numL ts),0),some (rowD (numL cs),0),some (.lst [],9),some (.dct [],1),none,none])=okR (nums 0 (4*n)) from zFT (n:=4*n) (by
   generalize rowD (numL cs)=C;generalize rowD (numL ts)=T at hlen ⊢;simp only[zB8,zCM,zV5,x_eV,zER,zFU,qEn,qG1,qBh,zA0,hlen,zA8]) (by lia),zA0]
  refine zQK (fun k r=>∃lv o4 o5,(lv=0\/(lv=8/\(rdS f k).1=[]))/\r=[some (rowD (numL ts),0),some (rowD (numL cs),0),some (rowsD (rdS f k).1,lv+1),some (.dct (rdS f k).2,1),o4,o5]) ⟨8,none,none,.inr ⟨rfl,rfl⟩,rfl⟩ (fun k hk r hr=>?_) fun r hr=>?_
  ·obtain⟨lv,o4,o5,hlv,rfl⟩:=hr;obtain⟨l1,l2⟩:=zNW hf k;have hfk:=hf k;show nxR (sIf _ _ _ [some (rowD (numL ts),0),some (rowD (numL cs),0),some (rowsD (rdS f k).1,lv+1),some (.dct (rdS f k).2,1),some (.int (k:Int),0),o5]) _;have hrk:=hr k hk;have hcond:(tB (eB (dinD true) (eV 4) (eV 3))) (full [some (rowD (numL ts),0),some (rowD (numL cs),0),some (rowsD (rdS f k).1,lv+1),some (.dct (rdS f k).2,1),some (.int (k:Int),0),o5])=okR (!(getW (rdS f k).2 (.inl (k:Int))).isSome):=rfl;unfold sIf;rw[hcond,zA0]
   by_cases hg:(getW (rdS f k).2 (.inl (k:Int))).isSome=true
   ·rw[hg];have e1:rdS f (k+1)=rdS f k:=by rw[rdS,if_pos hg]
    refine zAQ (r:=[some (rowD (numL ts),0),some (rowD (numL cs),0),some (rowsD (rdS f k).1,lv+1),some (.dct (rdS f k).2,1),some (.int (k:Int),0),o5]) rfl ⟨lv,_,_,?_,by rw[e1]⟩;rw[e1];exact hlv
   ·have hg':(getW (rdS f k).2 (.inl (k:Int))).isSome=false:=by simpa using hg
    have e1:rdS f (k+1)=((rdS f k).1++[f k],zEY (rdS f k).2 (f k)):=by rw[rdS,if_neg hg]
    rw[hg'];rw[if_pos (by rfl)];have hdl:=zIF (numL (f k));refine zD7 fun bb hb=>zAQ (r:=[some (rowD (numL ts),0),some (rowD (numL cs),0),some (rowsD (rdS f k).1,lv+1),some (.dct (rdS f k).2,1),some (.int (k:Int),0),some (rowD (numL (f k)),1)]) (by
     generalize rowD (numL (f k))=Z at hrk hdl ⊢;generalize rowD (numL cs)=C at hrk ⊢;generalize rowD (numL ts)=T at hrk ⊢;generalize rowsD (rdS f k).1=RR;generalize Dt.dct (rdS f k).2=DD;simp[hrk,hdl]) ?_
    subst hb;refine zD7 fun bb hb=>zAQ (zUX (i:=2) (v:=5) (R:=(rdS f k).1) (l:=f k) (lv:=lv) (lx:=1) rfl rfl (by decide) (fun ρ hρ=>by show(match ρ[5]? with|some (some d)=>okR d|_=>none)=_;rw[hρ]) (by lia)) ?_
    subst hb;show nxR (sDupd 3 _ [some (rowD (numL ts),0),some (rowD (numL cs),0),some (rowsD ((rdS f k).1++[f k]),1),some (.dct (rdS f k).2,1),some (.int (k:Int),0),some (rowD (numL (f k)),0)]) _;have hc:eComp (iSq (eV 5)) 1 (.one 6) Mi.tYes (eTup (aCons (eV 6) (aCons (eC (.bl true)) aNil))) (full [some (rowD (numL ts),0),some (rowD (numL cs),0),some (rowsD ((rdS f k).1++[f k]),1),some (.dct (rdS f k).2,1),some (.int (k:Int),0),some (rowD (numL (f k)),0)])=okR (.lst ((f k).map fun x:Nat=>Dt.tup [.int (x:Int),.bl true])):=by
     refine zB1 (ρ:=full [some (rowD (numL ts),0),some (rowD (numL cs),0),some (rowsD ((rdS f k).1++[f k]),1),some (.dct (rdS f k).2,1),some (.int (k:Int),0),some (rowD (numL (f k)),0)]) (c:=tYes) (i:=6) (fun x:Nat=>Dt.int (x:Int)) (fun x:Nat=>Dt.tup [.int (x:Int),.bl true]) (f k) rfl rfl (fun x _=>?_) _ ?_ (by lia)
     ·generalize rowD (numL (f k))=Z
      generalize rowD (numL cs)=C;generalize rowD (numL ts)=T;generalize rowsD ((rdS f k).1++[f k])=RR;generalize Dt.dct (rdS f k).2=DD;simp
     ·show okR ((numL (f k)).map Dt.int)=_;unfold numL;rw[qAx];rfl
    refine zAQ (r:=[some (rowD (numL ts),0),some (rowD (numL cs),0),some (rowsD ((rdS f k).1++[f k]),1),some (.dct (zEY (rdS f k).2 (f k)),1),some (.int (k:Int),0),some (rowD (numL (f k)),0)]) ?_ ⟨0,_,_,.inl rfl,by rw[e1]⟩;show zA3 (eComp _ _ _ _ _ _) _=_;rw[hc,zA0];dsimp only;rw[zHO];dsimp only;have h8:(rdS f k).2.length<=120*240:=qAq l2 (qHz (by lia) (by lia));rw[if_pos (by rw[qAe];lia),zR1];rfl
  ·obtain⟨lv,o4,o5,hlv,rfl⟩:=hr;subst hb;have hd:=zHD (rdS f (4*n)).1
   rcases hlv with rfl|⟨rfl,he⟩
   ·generalize rowsD (rdS f (4*n)).1=RR at hd ⊢
    generalize rowD (numL cs)=C;generalize rowD (numL ts)=T;simp
   ·rw[he];show sRetV 1 2 [some (rowD (numL ts),0),some (rowD (numL cs),0),some (.lst [],9),some (.dct (rdS f (4*n)).2,1),o4,o5]=okR (.rt (.lst []))
    generalize rowD (numL cs)=C;generalize rowD (numL ts)=T;simp
 exact zB6 rfl key
structure Seats(R:List (List Nat))(n:Nat):Prop where
 len:R.length=n
 per:∀l∈R,l.Perm [0,1,2,3]
section
variable{R:List (List Nat)}{row:List Nat}{n:Nat}(hS:Seats R n)(tw:Twice n row)
include hS
include tw
omit hS in
omit hS in
omit hS in
omit hS in
omit hS tw in
omit hS tw in
end
def zX8(D:Kv)(k q:Sum Int Str)(v:Sw):getW (putW D k v) q=if q=k then some v else getW D q:=by
 unfold putW getW;by_cases h:(D.any fun p=>decide (p.1=k))=true
 ·rw[if_pos h,List.find?_map];have e:((fun p:Sum Int Str×Sw=>decide (p.1=q))∘fun p=>if p.1=k then(p.1,v)else p)=fun p:Sum Int Str×Sw=>decide (p.1=q):=by
   funext p;show decide ((if p.1=k then(p.1,v)else p).1=q)=decide (p.1=q)
   split<;>rfl
  rw[e];cases hf:D.find? fun p:Sum Int Str×Sw=>decide (p.1=q)with
  |none=>
   have hq:¬q=k:=fun z=>by
    subst z;obtain⟨x,hx,hd⟩:=qFh.mp h;have:=qGr.mp hf x hx;exact this hd
   rw[if_neg hq];rfl
  |some x=>
   have hx:x.1=q:=by have:=qHj hf;simpa using this
   by_cases hq:q=k
   ·rw[if_pos hq];simp[hx,hq]
   ·rw[if_neg hq];simp[hx,hq]
 ·rw[if_neg h,List.find?_append];have hn:∀x∈D,¬x.1=k:=fun x hx e=>h (qFh.mpr ⟨x,hx,by simpa using e⟩)
  by_cases hq:q=k
  ·subst hq
   have:(D.find? fun p:Sum Int Str×Sw=>decide (p.1=q))=none:=qGr.mpr fun x hx=>by simpa using hn x hx
   rw[this,if_pos rfl];simp
  ·have hk:¬k=q:=fun z=>hq z.symm
   rw[if_neg hq];cases D.find? fun p:Sum Int Str×Sw=>decide (p.1=q)with
   |none=>simp[hk]
   |some x=>simp
def zc4:∀s,s<4->∀w,w<3->(s^^^(w+1))≠s:=by decide
def zgE{cs:List Nat}{n e:Nat}(hl:cs.length=n)(hw:∀c∈cs,c<3)(he:e<4*n):jn cs e≠e:=fun h=>by
 have hc:cs.getD (e/4) 0<3:=zI9 hw (by lia);have h1:=zc4 (e%4) (by lia) _ hc;unfold jn at h
 lia
def zTJ(f:Nat->Nat)(x p:Nat):∀k,itr f (k+p) x=itr f k (itr f p x)
 |0=>by rw[qC4];rfl
 |k+1=>by rw[show k+1+p=(k+p)+1 by lia];show f (itr f (k+p) x)=_;rw[zTJ f x p k];rfl
section
variable{ts cs:List Nat}{n e:Nat}(hN:NetN ts (4*n))(hne:∀x,x<4*n->nt ts x≠x)(hl:cs.length=n)(hw:∀c∈cs,c<3)(he:e<4*n)
include hN hne hl hw he
theorem zSS:∀d j,itr (stp ts cs) (j+d) e≠jn cs (itr (stp ts cs) j e):=by
 obtain⟨st1,_⟩:=zH8 hN hl hw;have hlt:∀k,itr (stp ts cs) k e<4*n:=zFJ st1 he;intro d
 induction d using qHl with
 |ind d ih=>
  intro j h
  match d,ih,h with
  |0,_,h=>exact zgE hl hw (hlt j) h.symm
  |1,_,h=>
   have:itr (stp ts cs) (j+1) e=nt ts (jn cs (itr (stp ts cs) j e)):=rfl;rw[this]at h;exact hne _ (zDR hl hw (hlt j)).1 h
  |d+2,ih,h=>
   have h1:itr (stp ts cs) (j+(d+2)) e=nt ts (jn cs (itr (stp ts cs) (j+1+d) e)):=by
    rw[show j+(d+2)=(j+1+d)+1 by lia];rfl
   rw[h1]at h;have h2:=congrArg (nt ts) h;rw[hN.inv _ (zDR hl hw (hlt _)).1]at h2;have h3:=congrArg (jn cs) h2;rw[(zDR hl hw (hlt _)).2]at h3;exact ih d (by lia) (j+1) h3
variable{p:Nat}(p3:itr (stp ts cs) p e=e)(p4:∀q,1<=q->q<p->itr (stp ts cs) q e≠e)
include p3 p4
theorem zTI{i j:Nat}(hi:i<j)(hj:j<p):itr (stp ts cs) i e≠itr (stp ts cs) j e:=fun h=>by
 obtain⟨st1,st2⟩:=zH8 hN hl hw;have:=zKP st1 st2 he i (j-i) (by rw[show i+(j-i)=j by lia];exact h)
 exact p4 (j-i) (by lia) (by lia) this
theorem zTH{i j:Nat}(hi:i<p)(hj:j<p):itr (stp ts cs) i e≠jn cs (itr (stp ts cs) j e):=fun h=>by
 by_cases z:j<=i
 ·exact zSS hN hne hl hw he (i-j) j (by rw[show j+(i-j)=i by lia];exact h)
 ·have h1:itr (stp ts cs) (i+p) e=itr (stp ts cs) i e:=by rw[zTJ,p3]
  exact zSS hN hne hl hw he (i+p-j) j (by rw[show j+(i+p-j)=i+p by lia,h1];exact h)
theorem ze9{i j:Nat}(hi:i<j)(hj:j<p):jn cs (itr (stp ts cs) i e)≠jn cs (itr (stp ts cs) j e):=fun h=>by
 obtain⟨st1,st2⟩:=zH8 hN hl hw;have hlt:∀k,itr (stp ts cs) k e<4*n:=zFJ st1 he;have h3:=congrArg (jn cs) h;rw[(zDR hl hw (hlt _)).2,(zDR hl hw (hlt _)).2]at h3;exact zTI hN hne hl hw he p3 p4 hi hj h3
omit hN hne hl hw he p3 p4 in
theorem orb_mem{x:Nat}:x∈orb ts cs e k↔∃i,i<k/\(x=itr (stp ts cs) i e\/x=jn cs (itr (stp ts cs) i e)):=by
 unfold orb;simp[List.mem_flatMap]
theorem zM4:∀k,k<=p->(orb ts cs e k).Nodup
 |0,_=>qHy
 |k+1,hk=>by
  rw[zGT];refine qD9.mpr ⟨zM4 k (by lia),?_,fun x hx y hy hxy=>?_⟩
  ·refine qBk.mpr ⟨fun h=>?_,by simp⟩;simp at h;exact zTH hN hne hl hw he p3 p4 (by lia) (by lia) h
  ·subst hxy;obtain⟨i,hi,e1|e1⟩:=orb_mem.mp hx
   ·simp at hy
    rcases hy with e2|e2
    ·exact zTI hN hne hl hw he p3 p4 hi (by lia) (e1.symm.trans e2)
    ·exact zTH hN hne hl hw he p3 p4 (by lia) (by lia) (e1.symm.trans e2)
   ·simp at hy
    rcases hy with e2|e2
    ·exact zTH hN hne hl hw he p3 p4 (by lia) (by lia) (e2.symm.trans e1)
    ·exact ze9 hN hne hl hw he p3 p4 hi (by lia) (e1.symm.trans e2)
end
def zKI(x:Nat):∀(l:List Nat)(D:Kv),(getW (zEY D l) (.inl (x:Int))).isSome=true↔(getW D (.inl (x:Int))).isSome=true\/x∈l
 |[],D=>by simp[zEY]
 |y::l,D=>by
  show(getW (zEY (putW D (.inl (y:Int)) (.bl true)) l) (.inl (x:Int))).isSome=true↔_;rw[zKI x l,zX8];by_cases h:x=y
  ·subst h;simp
  ·have:¬(qF6 (x:Int):Sum Int Str)=.inl (y:Int):=fun e=>h (by injection e with e;lia)
   rw[if_neg this];simp[h]
def zFA(f:Nat->List Nat)(x:Nat):∀k,(getW (rdS f k).2 (.inl (x:Int))).isSome=true↔∃l∈(rdS f k).1,x∈l
 |0=>by simp[rdS,getW]
 |k+1=>by
  by_cases h:(getW (rdS f k).2 (.inl (k:Int))).isSome=true
  ·have e:rdS f (k+1)=rdS f k:=by rw[rdS,if_pos h]
   rw[e];exact zFA f x k
  ·have e:rdS f (k+1)=((rdS f k).1++[f k],zEY (rdS f k).2 (f k)):=by rw[rdS,if_neg h]
   rw[e];show(getW (zEY (rdS f k).2 (f k)) (.inl (x:Int))).isSome=true↔∃l∈(rdS f k).1++[f k],x∈l
   rw[zKI,zFA f x k];constructor
   ·rintro(⟨l,h1,h2⟩|h1)
    ·exact⟨l,by simp[h1],h2⟩
    ·exact⟨f k,by simp,h1⟩
   ·rintro⟨l,h1,h2⟩
    rcases qAr.mp h1 with h3|h3
    ·exact .inl ⟨l,h3,h2⟩
    ·simp at h3;subst h3;exact .inr h2
def zHJ(f:Nat->List Nat):∀k,(∀e,e<k->e∈f e)->∀e,e<k->(getW (rdS f k).2 (.inl (e:Int))).isSome=true
 |0,_,e,he=>by lia
 |k+1,hf,e,he=>by
  by_cases h:(getW (rdS f k).2 (.inl (k:Int))).isSome=true
  ·have e1:rdS f (k+1)=rdS f k:=by rw[rdS,if_pos h]
   rw[e1];by_cases z:e=k
   ·subst z;exact h
   ·exact zHJ f k (fun e he=>hf e (by lia)) e (by lia)
  ·have e1:rdS f (k+1)=((rdS f k).1++[f k],zEY (rdS f k).2 (f k)):=by rw[rdS,if_neg h]
   rw[e1];show(getW (zEY (rdS f k).2 (f k)) (.inl (e:Int))).isSome=true;rw[zKI];by_cases z:e=k
   ·subst z;exact .inr (hf e (by lia))
   ·exact .inl (zHJ f k (fun e he=>hf e (by lia)) e (by lia))
def zM2(cs:List Nat):((fsts cs).map fun k=>cs.getD k 0)=ords cs:=(zJG cs).symm
def cbW(c ls O:List Nat):List Nat:=O.map fun x=>c.getD (ls.idxOf x) 0
def jn4(c:List Nat){p s:Nat}(hs:s<4):jn c (4*p+s)=4*p+(s^^^(c.getD p 0+1)):=by
 unfold jn;rw[show(4*p+s)/4=p by lia,show(4*p+s)%4=s by lia]
 lia
def nlen(l:List Nat):((numL l).map Dt.int).length=l.length:=by simp[numL]
def zNS(l m:List Nat):rowD (numL (l++m))=.lst ((numL l).map Dt.int++(numL m).map Dt.int):=by
 unfold rowD numL;rw[qBl,qBl]
section
variable{ts C':List Nat}{n:Nat}(hN:NetN ts (4*n))(hne:∀x,x<4*n->nt ts x≠x)(hl:C'.length=n)(hw:∀c∈C',c<3)(hn:n<=10)(n1:1<=n)
include hN hne hl hw hn n1
end
end Mp
namespace Mp
def sh(s:Nat)(cs:List Nat):List Nat:=cs.drop s++cs.take s
def wr(cs:List Nat):List Nat:=cs.map fun c=>97+(ords cs).idxOf c
end Mp
namespace Mp
open Mi PySem
def zSK{g:Nat->Nat}:∀(l:List Nat),(∀x∈l,∀y∈l,g x=g y->x=y)->ords (l.map g)=(ords l).map g:=by
 refine zHI (P:=fun l=>(∀x∈l,∀y∈l,g x=g y->x=y)->ords (l.map g)=(ords l).map g) (fun _=>rfl) (fun l a ih hi=>?_);have ih:=ih fun x hx y hy=>hi x (qB6 _ hx) y (qB6 _ hy)
 rw[qBl,qGs,zFC,zFC,ih];have e:g a∈(ords l).map g↔a∈ords l:=by
  rw[qAi];constructor
  ·rintro⟨b,hb,e⟩
   have hb':=(ords_mem l b).mp hb;rw[<- hi b (qB6 _ hb') a (by simp) e];exact hb
  ·exact fun h=>⟨a,h,rfl⟩
 by_cases h:a∈ords l
 ·rw[if_pos h,if_pos (e.mpr h)]
 ·rw[if_neg h,if_neg fun z=>h (e.mp z),qBl,qGs]
def getD_idx{l:List Nat}{c:Nat}(h:c∈l):l.getD (l.idxOf c) 0=c:=by
 have hl:=qAf h;rw[qA0,qA1 hl];exact qDt hl
def idx_getD{l:List Nat}(hn:l.Nodup){v:Nat}(h:v<l.length):l.idxOf (l.getD v 0)=v:=by
 rw[qA0,qA1 h];exact hn.idxOf_getElem v h
def rowW(cs:List Nat):List Nat:=cs.map fun c=>(ords cs).idxOf c
structure Wd(n:Nat)(cs:List Nat):Prop where
 tw:Twice n (rowW cs)
 wr:wrd (ords cs) (rowW cs)=cs
 ap:zV2 (ords cs) (rowW cs)
 od:ords (rowW cs)=qA4 n
 ol:(ords cs).length=n
 len:cs.length=2*n
theorem zfK{cs ls:List Nat}(hp:cs.Perm (ls++ls))(hn:ls.Nodup):Wd ls.length cs:=by
 have mem:∀x,x∈cs↔x∈ls:=fun x=>by rw[hp.mem_iff,qAr];exact⟨fun h=>h.elim id id,.inl⟩
 have ol:(ords cs).length=ls.length:=qEo
  (zBR _ _ (ords_nodup cs) fun x hx=>(mem x).mp ((ords_mem cs x).mp hx))
  (zBR _ _ hn fun x hx=>(ords_mem cs x).mpr ((mem x).mpr hx))
 have hl:cs.length=2*ls.length:=by rw[hp.length_eq,qAo];lia
 have inj:∀x∈cs,∀y∈cs,(ords cs).idxOf x=(ords cs).idxOf y->x=y:=fun x hx y hy e=>by
  rw[<- getD_idx ((ords_mem cs x).mpr hx),e,getD_idx ((ords_mem cs y).mpr hy)]
 have idl:∀x∈cs,(ords cs).idxOf x<ls.length:=fun x hx=>by rw[<- ol];exact qAf ((ords_mem cs x).mpr hx)
 refine⟨⟨by rw[rowW,qAe,hl],fun v=>?_⟩,?_,?_,?_,ol,hl⟩
 ·by_cases hv:v<ls.length
  ·rw[if_pos hv];have hm:(ords cs).getD v 0∈cs:=(ords_mem cs _).mp (zAN (by lia));rw[<- zMY hp hn hm];unfold rowW;rw[qG9,qG3,qG9];refine qE6 fun c hc=>?_
   simp only[qIk,beq_iff_eq];constructor
   ·intro e;rw[<- e,getD_idx ((ords_mem cs c).mpr hc)]
   ·intro e;rw[e,idx_getD (ords_nodup cs) (by lia)]
  ·rw[if_neg hv];refine qAp.mpr fun h=>?_
   obtain⟨c,hc,rfl⟩:=qAi.mp h;exact hv (idl c hc)
 ·unfold wrd rowW;rw[qAx]
  conv=>rhs;rw[<- List.map_id cs]
  exact qAs fun c hc=>getD_idx ((ords_mem cs c).mpr hc)
 ·intro x hx y hy e;obtain⟨c,hc,rfl⟩:=qAi.mp hx;obtain⟨d,hd,rfl⟩:=qAi.mp hy;rw[getD_idx ((ords_mem cs c).mpr hc),getD_idx ((ords_mem cs d).mpr hd)]at e;rw[e]
 ·unfold rowW;rw[zSK cs inj];refine qBb (by simp[ol]) fun i h1 h2=>?_
  rw[qBq,qBx];exact(ords_nodup cs).idxOf_getElem i (by simpa using h1)
def zQL{α β:Type}{l:List α}{f:α->β}(h:l.Nodup)(hi:∀x∈l,∀y∈l,f x=f y->x=y):(l.map f).Nodup:=by
 unfold qIf;rw[qE5];exact qF5 (fun{a b} ha hb hab z=>hab (hi a ha b hb z)) h
def zZQ{g:Nat->Nat}{N:Nat}(hg:∀k,k<N->g k<N)(hi:∀a b,a<N->b<N->g a=g b->a=b){y:Nat}(hy:y<N):∃k,k<N/\g k=y:=by
 refine Classical.byContradiction fun z=>?_
 have h:=zHV (a:=y::(qA4 N).map g) (b:=qA4 N) ?_ ?_
 ·simp at h;lia
 ·refine qBk.mpr ⟨fun h=>?_,?_⟩
  ·obtain⟨k,hk,e⟩:=qAi.mp h;exact z ⟨k,by simpa using hk,e⟩
  ·exact zQL qCi (fun a ha b hb e=>hi a b (by simpa using ha) (by simpa using hb) e)
 ·intro x hx
  rcases qAc.mp hx with rfl|hx
  ·simpa using hy
  ·obtain⟨k,hk,rfl⟩:=qAi.mp hx
   simpa using hg k (by simpa using hk)
def zP9{e:Nat}{v:Int}:∀(S:List (Nat×Int)),(∀x∈S,∀y∈S,x.1=y.1->x.2=y.2)->(e,v)∈S->∀{N:List Int},e<N.length->(puts S N).getD e 0=v:=by
 refine zHI (P:=fun S=>(∀x∈S,∀y∈S,x.1=y.1->x.2=y.2)->(e,v)∈S->∀{N:List Int},e<N.length->(puts S N).getD e 0=v) (fun _ h=>by simp at h) fun S a ih hc hm N hN=>?_
 have hl:=zGQ S N;have hs:puts (S++[a]) N=(puts S N).set a.1 a.2:=by unfold puts;rw[qF4];rfl
 rw[hs,qA0];by_cases h:a.1=e
 ·have:=hc a (by simp) (e,v) hm h
  rw[h,qAt (by lia),this];rfl
 ·rw[qB0 h,<- qA0];refine ih (fun x hx y hy=>hc x (qB6 _ hx) y (qB6 _ hy)) ?_ hN
  rcases qAr.mp hm with z|z
  ·exact z
  ·rw[qAu]at z;exact absurd (by rw[<- z]) h
def zN(n:Nat):List Int:=qA8 (4*n) 0
def tsW(n:Nat)(row:List Nat):List Nat:=(qA4 (4*n)).map fun e=>((puts (lawS row row.length) (zN n)).getD e 0).toNat
section
variable{n:Nat}{row:List Nat}(t:Twice n row)
include t
theorem zYK:∀x∈lawS row row.length,∀y∈lawS row row.length,x.1=y.1->x.2=y.2:=fun x hx y hy h=>by
 unfold lawS at hx hy;obtain⟨l1,h1,h2⟩:=qDg.mp hx;obtain⟨l2,h3,h4⟩:=qDg.mp hy;obtain⟨a,ha,rfl⟩:=qAi.mp h1;obtain⟨b,hb,rfl⟩:=qAi.mp h3;have la:a<row.length:=by simpa using ha
 exact zRF (fun a h=>t.le1 h) (qC7 _ (by lia)) (qC7 _ (by lia)) x h2 y h4 h
theorem zdZ{k:Nat}(hk:k<row.length):(inA row k+1,(inA row ((k+1)%row.length):Int))∈lawS row row.length/\(inA row ((k+1)%row.length),((inA row k+1:Nat):Int))∈lawS row row.length:=by
 have e:tieP row ((k+1)%row.length)=[(inA row k+1,(inA row ((k+1)%row.length):Int)),(inA row ((k+1)%row.length),((inA row k+1:Nat):Int))]:=by
  unfold tieP;rw[zS3 hk]
 have m:∀x∈tieP row ((k+1)%row.length),x∈lawS row row.length:=fun x hx=>qDg.mpr ⟨_,qAi.mpr ⟨k,by simpa using hk,rfl⟩,hx⟩
 rw[e]at m;exact⟨m _ (by simp),m _ (by simp)⟩
theorem zDW{k:Nat}(hk:k<row.length):inA row k+1<4*n:=by
 have:=t.pos hk;rw[t.len]at this;lia
theorem zG3{k:Nat}(hk:k<row.length):(puts (lawS row row.length) (zN n)).getD (inA row k+1) 0=(inA row ((k+1)%row.length):Int)/\(puts (lawS row row.length) (zN n)).getD (inA row ((k+1)%row.length)) 0=((inA row k+1:Nat):Int):=by
 obtain⟨h1,h2⟩:=zdZ t hk;have l1:=zDW t hk;have l2:=zDW t (qC7 (k+1) (show 0<row.length by lia));exact⟨zP9 _ (zYK t) h1 (by simp[zN];lia),zP9 _ (zYK t) h2 (by simp[zN];lia)⟩
theorem zMU{e:Nat}(he:e<4*n):∃k,k<row.length/\(e=inA row k+1\/e=inA row ((k+1)%row.length)):=by
 have hl:=t.len;have ev:∀k,inA row k%2=0:=fun k=>by unfold inA;lia
 obtain⟨k,hk,e1⟩:=zZQ (g:=fun k=>inA row k/2) (N:=2*n) (fun k hk=>by have:=zDW t (k:=k) (by lia);show inA row k/2<2*n;lia) (fun a b ha hb h=>by
  have h1:=ev a;have h2:=ev b;have h:inA row a/2=inA row b/2:=h;exact zOB (fun a h=>t.le1 h) (by lia) (by lia) (by lia)) (y:=e/2) (by lia)
 have h1:=ev k;have e1:inA row k/2=e/2:=e1;by_cases h:e%2=1
 ·exact⟨k,by lia,.inl (by lia)⟩
 ·have hm:(k+row.length-1)%row.length<row.length:=qC7 _ (by lia);refine⟨(k+row.length-1)%row.length,hm,.inr ?_⟩
  have:((k+row.length-1)%row.length+1)%row.length=k:=by
   by_cases z:k=0
   ·subst z;rw[show 0+row.length-1=row.length-1 by lia,qB1 (show row.length-1<row.length by lia),show row.length-1+1=row.length by lia,qH4]
   ·rw[show k+row.length-1=(k-1)+row.length by lia,qCr,qB1 (show k-1<row.length by lia),show k-1+1=k by lia,qB1 (by lia)]
  rw[this];lia
theorem zJ6{e:Nat}(he:e<4*n):(puts (lawS row row.length) (zN n)).getD e 0=(nt (tsW n row) e:Int)/\nt (tsW n row) e<4*n:=by
 have hv:∃v:Nat,(puts (lawS row row.length) (zN n)).getD e 0=(v:Int)/\v<4*n:=by
  obtain⟨k,hk,rfl|rfl⟩:=zMU t he
  ·exact⟨_,(zG3 t hk).1,by have:=zDW t (qC7 (k+1) (show 0<row.length by lia));lia⟩
  ·exact⟨_,(zG3 t hk).2,zDW t hk⟩
 obtain⟨v,h1,h2⟩:=hv;have:nt (tsW n row) e=v:=by
  unfold nt tsW;rw[qA0,qAb,qDi he];show((puts (lawS row row.length) (zN n)).getD e 0).toNat=v;rw[h1];rfl
 rw[this];exact⟨h1,h2⟩
theorem zcK:numL (tsW n row)=puts (lawS row row.length) (zN n):=by
 have hl:(puts (lawS row row.length) (zN n)).length=4*n:=by rw[zGQ];simp[zN]
 refine qBb (by rw[hl];simp[numL,tsW]) fun i h1 h2=>?_
 have hi:i<4*n:=by lia
 have h:=(zJ6 t hi).1;rw[qA0,qA1 h2]at h;have h3:(numL (tsW n row))[i]?=some (nt (tsW n row) i:Int):=by
  unfold numL nt;rw[qAb,qA0,qA1 (by simp[tsW];exact hi)];rfl
 rw[qA1 h1]at h3;rw[qBc h3,<- h];rfl
theorem zJ5:NetN (tsW n row) (4*n)/\∀x,x<4*n->nt (tsW n row) x≠x:=by
 have ev:∀k,inA row k%2=0:=fun k=>by unfold inA;lia
 have v1:∀{k},k<row.length->nt (tsW n row) (inA row k+1)=inA row ((k+1)%row.length):=fun{k} hk=>by
  have h1:=(zJ6 t (zDW t hk)).1;rw[(zG3 t hk).1]at h1;lia
 have v2:∀{k},k<row.length->nt (tsW n row) (inA row ((k+1)%row.length))=inA row k+1:=fun{k} hk=>by
  have l2:=zDW t (qC7 (k+1) (show 0<row.length by lia));have h1:=(zJ6 t (e:=inA row ((k+1)%row.length)) (by lia)).1;rw[(zG3 t hk).2]at h1
  lia
 refine⟨⟨by simp[tsW],fun e he=>(zJ6 t he).2,fun e he=>?_⟩,fun e he=>?_⟩
 ·obtain⟨k,hk,rfl|rfl⟩:=zMU t he
  ·rw[v1 hk,v2 hk]
  ·rw[v2 hk,v1 hk]
 ·obtain⟨k,hk,rfl|rfl⟩:=zMU t he
  ·rw[v1 hk];have:=ev ((k+1)%row.length);have:=ev k;lia
  ·rw[v2 hk];have:=ev ((k+1)%row.length);have:=ev k;lia
end
def btw(cs:List Nat)(x:Nat):List Nat:=(cs.drop (cs.idxOf x+1)).take ((cs.drop (cs.idxOf x+1)).idxOf x)
def zIN{A B C:List Nat}{x:Nat}(hA:x∉A)(hB:x∉B):btw (A++x::(B++x::C)) x=B:=by
 unfold btw;have e:A++x::(B++x::C)=(A++[x])++(B++x::C):=by simp
 have l:(A++[x]).length=A.length+1:=by simp
 rw[zPM hA,<- l,e,qEq,zPM hB,qCs]
 ·rfl
 ·rfl
def crs(cs:List Nat)(x y:Nat):Int:=if(btw cs x).count y=1 then 1 else 0
def zXO{cs:List Nat}(h:cs.count x=2):crs cs x x=0:=by
 obtain⟨A,B,C,rfl,hA,hB,hC⟩:=zD6 h;unfold crs;rw[zIN hA hB,qAp.mpr hB];rfl
def zZ8{cs:List Nat}(hx:cs.count x=2)(hy:cs.count y=2)(hne:x≠y)(h:(btw cs x).count y=1):(btw cs y).count x=1:=by
 obtain⟨A,B,C,rfl,hA,hB,hC⟩:=zD6 hx;rw[zIN hA hB]at h;have hyB:y∈B:=qD1.mp (by lia);obtain⟨B1,B2,rfl,hB1⟩:=qC1 hyB;rw[qBe,qAp.mpr hB1,qB7]at h;have hB2:y∉B2:=qAp.mp (by lia);have xB1:x∉B1:=fun z=>hB (by simp[z])
 have xB2:x∉B2:=fun z=>hB (by simp[z])
 simp only[qBe,qB7,qEb hne,qEb hne.symm,qAp.mpr hB1,qAp.mpr hB2]at hy;by_cases hyC:y∈C
 ·obtain⟨C1,C2,rfl,hC1⟩:=qC1 hyC;rw[qBe,qB7]at hy;have hyA:y∉A:=qAp.mp (by lia);have xC1:x∉C1:=fun z=>hC (by simp[z])
  have e:A++x::((B1++y::B2)++x::(C1++y::C2))=(A++x::B1)++y::((B2++x::C1)++y::C2):=by simp
  rw[e,zIN (by simp[hyA,hB1,hne.symm]) (by simp[hB2,hC1,hne.symm])];rw[qBe,qB7,qAp.mpr xB2,qAp.mpr xC1]
 ·have c0:=qAp.mpr hyC;have hyA:y∈A:=qD1.mp (by lia);obtain⟨A1,A2,rfl,hA1⟩:=qC1 hyA;rw[qBe,qB7]at hy;have hA2:y∉A2:=qAp.mp (by lia);have xA2:x∉A2:=fun z=>hA (by simp[z])
  have e:(A1++y::A2)++x::((B1++y::B2)++x::C)=A1++y::((A2++x::B1)++y::(B2++x::C)):=by simp
  rw[e,zIN hA1 (by simp[hA2,hB1,hne.symm])];rw[qBe,qB7,qAp.mpr xA2,qAp.mpr xB1]
def zbR{cs:List Nat}(hx:cs.count x=2)(hy:cs.count y=2):crs cs x y=crs cs y x:=by
 by_cases hne:x=y
 ·rw[hne]
 ·unfold crs
  by_cases h:(btw cs x).count y=1
  ·rw[if_pos h,if_pos (zZ8 hx hy hne h)]
  ·rw[if_neg h,if_neg fun z=>h (zZ8 hy hx (fun e=>hne e.symm) z)]
def zUJ(cs:List Nat)(y:Nat):countD (.str ⟨cs.toArray⟩) [sgn y]=some (.int (cs.count y:Nat)):=rfl
def zOF{cs:List Nat}(hz:cs.length<=100)(hx:cs.count x=2):zE8 [.str ⟨cs.toArray⟩,sgn x,sgn y]=okR (.bl (decide ((btw cs x).count y=1))):=by
 obtain⟨A,B,C,rfl,hA,hB,hC⟩:=zD6 hx;rw[zIN hA hB];have p:=zS8 (B:=B) hA hC;obtain⟨c1,c2,c3⟩:=cuts (A:=A) (B:=B) (C:=C) (x:=x);have hl:(A++x::(B++x::C)).length=A.length+1+B.length+1+C.length:=by simp;lia
 have e1:((A.length:Int)+1)=((A.length+1:Nat):Int):=by lia
 have s2:=zcQ (a:=A++x::(B++x::C)) (some ((A.length+1:Nat):Int)) (some ((A.length+1+B.length:Nat):Int)) (by lia);rw[zbN _ (by lia) (by lia),show A.length+1+B.length-(A.length+1)=B.length by lia,c2,<- e1]at s2;have cn:=zUJ B y
 generalize((A.length+1+B.length:Nat):Int)=b at *;generalize(A.length:Int)=a at *;generalize A++x::(B++x::C)=cs at *;have i0:ixD (.tup [.int a,.int b]) (.int 0)=some (.int a):=by rw[zZK];exact zEN (j:=0) rfl rfl
 have i1:ixD (.tup [.int a,.int b]) (.int 1)=some (.int b):=by rw[zZK];exact zEN (j:=1) rfl rfl
 have hd:(decide ((B.count y:Int)=1))=decide (B.count y=1):=decide_eq_decide.mpr (by lia);have key:zGB [some (.str ⟨cs.toArray⟩,0),some (sgn x,0),some (sgn y,0),none]=okR (.rt (.bl (decide (B.count y=1)))):=by
  unfold zGB;refine zBG fun bb hb=>?_
  refine zAQ (r:=[some (.str ⟨cs.toArray⟩,0),some (sgn x,0),some (sgn y,0),some (.tup [.int a,.int b],1)]) (by simp[p]) ?_;subst hb;simp[zTU,zeM,i0,i1,s2,cn,-zfL,-zZK]
  lia
 exact zB6 rfl key
def crsT(cs sl:List Nat):Nat->Nat->Int:=fun i j=>crs cs (sl.getD i 0) (sl.getD j 0)
def zPS(cs sl:List Nat):Dt.lst (sl.map fun x=>Dt.lst (sl.map fun y=>Dt.int (crs cs x y)))=mat (tab sl.length (crsT cs sl)):=by
 have g:∀(h:Nat->Dt),sl.map h=(qA4 sl.length).map fun i=>h (sl.getD i 0):=fun h=>by
  apply qBb
  ·simp
  ·intro i h1 h2;have hi:i<sl.length:=by simpa using h1
   simp[qA0,qA1 hi]
 unfold mat tab;rw[g,qAx];congr 1;refine qAs fun i _=>?_
 show Dt.lst (sl.map fun y=>Dt.int (crs cs (sl.getD i 0) y))=rowD ((qA4 sl.length).map fun j=>crsT cs sl i j);unfold rowD;rw[g,qAx];rfl
def zFI{cs:List Nat}(h0:0<cs.length)(h1:cs.length<=60):zB7 [.str ⟨cs.toArray⟩]=okR (.str ⟨(sosL cs).toArray⟩):=by
 have hso:sosD [.str ⟨cs.toArray⟩]=some (.lst ((sosL cs).map sgn)):=by
  show(@ite _ (0<(⟨cs.toArray⟩:Str).length/\(⟨cs.toArray⟩:Str).length<=60) (qA6 _) (some (Dt.lst ((sosL cs.toArray.toList).map fun c=>Dt.str ⟨#[c]⟩))) none)=_
  rw[if_pos ⟨by show 0<cs.toArray.size;simpa using h0,by show cs.toArray.size<=60;simpa using h1⟩];rfl
 have hsl:(sosL cs).length<=100000:=by
  have h2:(sosL cs).length=(ded cs).length:=(qDh _ _).length_eq;have h3:∀l:List Nat,(ded l).length<=l.length:=by
   intro l;induction l with
   |nil=>exact qAa _
   |cons a r ih=>
    unfold ded;split
    ·simp only[qAj];lia
    ·simp only[qAj];lia
  have h4:=h3 cs;lia
 have hj:=zPI (sosL cs) hsl;unfold zB7 zGF;exact zB6 rfl (by simp[hso,hj])
def zJ0{cs:List Nat}(h0:0<cs.length)(hz:cs.length<=60)(h2:∀x∈cs,cs.count x=2)(hs:(sosL cs).length<=10):zF0 [.str ⟨cs.toArray⟩]=okR (mat (tab (sosL cs).length (crsT cs (sosL cs)))):=by
 have lp:=zFI h0 hz;have hm:=fun x=>sos_mem x cs
 rw[<- zPS];have hd:(Dt.lst ((sosL cs).map fun x=>Dt.lst ((sosL cs).map fun y=>Dt.int (crs cs x y)))).dep<=2:=by rw[zPS];exact zG7 _
 generalize sosL cs=sl at *;have hc:eComp (iSq (eV 1)) 1 (.one 2) Mi.tYes (eComp (iSq (eV 1)) 1 (.one 3) Mi.tYes (eIf (tM (eCallN zE8 (aCons (eV 0) (aCons (eV 2) (aCons (eV 3) aNil))))) (eC (.int 1)) (eC (.int 0)))) [some (.str ⟨cs.toArray⟩),some (.str ⟨sl.toArray⟩)]=okR (.lst (sl.map fun x=>Dt.lst (sl.map fun y=>Dt.int (crs cs x y)))):=by
  refine zB1 (ρ:=[some (.str ⟨cs.toArray⟩),some (.str ⟨sl.toArray⟩)]) sgn (fun x=>Dt.lst (sl.map fun y=>Dt.int (crs cs x y))) sl rfl rfl (fun x hx=>?_) (iSq (eV 1)) rfl (by lia);refine zB1 (ρ:=[some (.str ⟨cs.toArray⟩),some (.str ⟨sl.toArray⟩)]++[some (sgn x)]) sgn (fun y=>Dt.int (crs cs x y)) sl rfl rfl (fun y hy=>?_) (iSq (eV 1)) rfl (by lia)
  have:=zOF (cs:=cs) (x:=x) (y:=y) (by lia) (h2 x ((hm x).mp hx))
  unfold crs;by_cases h:(btw cs x).count y=1
  ·rw[decide_eq_true h]at this;simp[this,h]
  ·rw[decide_eq_false h]at this;simp[this,h]
 generalize Dt.lst (sl.map fun x=>Dt.lst (sl.map fun y=>Dt.int (crs cs x y)))=V at *
 have key:zF3 [some (.str ⟨cs.toArray⟩,0),none]=okR (.rt V):=by
  unfold zF3;refine zBG fun bb hb=>?_
  refine zAQ (r:=[some (.str ⟨cs.toArray⟩,0),some (.str ⟨sl.toArray⟩,0)]) (by simp[lp]) ?_;subst hb;simp[hc,hd]
 exact zB6 rfl key
def fm(cs:List Nat)(s:Nat)(b:Bool):List Nat:=if b=true then(sh s cs).reverse else sh s cs
def zbC(a c:Nat):Dt.eq (sgn a) (sgn c)=decide (a=c):=by
 have:(({ cps:=#[a] }:Str)={ cps:=#[c] })↔a=c:=by
  constructor
  ·intro h
   have:=congrArg (fun s:Str=>s.cps.toList) h
   simpa using this
  ·rintro rfl;rfl
 show Dt.eq (.str _) (.str _)=_;rw[Dt.eq,qDm,beq_iff_eq,decide_eq_true_iff];exact this
def ml1{f:List Dt->List Dt->Option Dt}{a e:EM}(h1:a ρ=okR (.lst ds))(h2:e ρ=okR y)(h:f ds [y]=some d):eMl f a (aCons e aNil) ρ=okR d:=by
 unfold eMl;rw[h1,zA0];dsimp only;rw[zB8,h2,zA0,zCM,zA0,zA0,h];rfl
def zVP(w:Wd n cs){k:Nat}(hk:k<cs.length):(rowW cs).getD k 0=(ords cs).idxOf (cs.getD k 0):=by
 unfold rowW;rw[qA0,qAb,qA0,qA1 hk];rfl
def zTR{v n:Nat}(h:v<n):(qA4 n).idxOf v=v:=by
 have:=qCi.idxOf_getElem v (by simpa using h:v<(qA4 n).length)
 rwa [qBx]at this
def zYS:∀(l:List Nat)(k:Nat),k<l.length->l.idxOf (l.getD k 0)<=k
 |a::l,0,_=>by simp
 |a::l,k+1,h=>by
  have ih:=zYS l k (by simpa using h);rw[qDu]
  show(bif a==l.getD k 0 then 0 else l.idxOf (l.getD k 0)+1)<=k+1;cases a==l.getD k 0
  ·exact qH7 ih
  ·exact qAn _
def zPL(w:Wd n cs){k:Nat}(hk:k<cs.length):inA (rowW cs) k=4*(ords cs).idxOf (cs.getD k 0)+2*(if cs.idxOf (cs.getD k 0)<k then 1 else 0):=by
 have hl:(rowW cs).length=cs.length:=by simp[rowW]
 have hkr:k<(rowW cs).length:=by lia
 have hm:=w.tw.mem ((rowW cs).getD k 0);have hlt:=hm.mp (zF9 hkr);unfold inA;rw[w.od,zTR hlt];have e1:cs.idxOf (cs.getD k 0)=(rowW cs).idxOf ((rowW cs).getD k 0):=by
  have:=zNI w.ap hkr;rw[w.wr]at this;exact this
 have f1:=zIB hkr;have le:=w.tw.le1 hkr;have hle:=zYS (rowW cs) k hkr;rw[<- zVP w hk];rw[e1];split
 ·rename_i h
  have:(qG9 ((rowW cs).getD k 0) (qJ3 k (rowW cs)))≠0:=fun z=>by have:=f1.mpr z;lia
  lia
 ·rename_i h
  have:(rowW cs).idxOf ((rowW cs).getD k 0)=k:=by lia
  rw[f1.mp this]
def zUP(c ls O:List Nat){k:Nat}(h:k<O.length):(cbW c ls O).getD k 0=c.getD (ls.idxOf (O.getD k 0)) 0:=by
 unfold cbW;rw[qA0,qAb,qA0 (l:=O),qA1 h];rfl
def zf8{c ls O:List Nat}{n:Nat}(hw:∀x∈c,x<3)(hc:c.length=n)(hl:ls.length=n)(hO:∀x∈O,x∈ls):∀x∈cbW c ls O,x<3:=fun x hx=>by
 obtain⟨y,hy,rfl⟩:=qAi.mp hx;exact zI9 hw (by rw[hc,<- hl];exact qAf (hO y hy))
def zVL(l:List Nat):(Dt.lst (l.map sgn)).dep<=1:=by
 have:∀l:List Nat,Dt.depL (l.map sgn)=0:=fun l=>by
  induction l with
  |nil=>rfl
  |cons a l ih=>rw[qAd,Dt.depL,ih];rfl
 rw[Dt.dep,this];exact qAa 1
def zMW{n:Nat}{x:List Int}(hx:x.length=n):dot ((qA4 n).map g) x=sumN n fun k=>g k*x.getD k 0:=by
 rw[zL0 _ x n (by lia)];unfold sumN
 congr 1;refine qAs fun k hk=>?_
 rw[zJD (by simpa using hk)]
def zQ7{n:Nat}{f g:Nat->Int}(h:∀k,k<n->f k=g k):sumN n f=sumN n g:=by
 unfold sumN;congr 1;exact qAs fun k hk=>h k (by simpa using hk)
def zGO{n i:Nat}{f g:Nat->Int}(hi:i<n)(h:∀k,k<n->k≠i->f k=g k):sumN n f=sumN n g+(f i-g i):=by
 induction n with
 |zero=>lia
 |succ n ih=>
  rw[zCA,zCA];by_cases z:i=n
  ·subst z;rw[zQ7 fun k hk=>h k (by lia) (by lia)];lia
  ·rw[ih (by lia) fun k hk=>h k (by lia),h n (by lia) (fun y=>z y.symm)];lia
def zLL{n:Nat}{f g h:Nat->Int}(e:∀k,k<n->f k%2=(g k+h k)%2):sumN n f%2=(sumN n g+sumN n h)%2:=by
 induction n with
 |zero=>rfl
 |succ n ih=>
  rw[zCA,zCA,zCA];have h1:=ih fun k hk=>e k (by lia)
  have h2:=e n (by lia)
  lia
def allv:Nat->List (List Int)
 |0=>[[]]
 |n+1=>(allv n).map (qIs 0)++(allv n).map (qIs 1)
def zPZ:∀n,(allv n).length=2 ^ n
 |0=>rfl
 |n+1=>by simp[allv,zPZ n];lia
def zFF{α β:Type}{l:List α}{f:α->β}(h:l.Nodup)(hi:∀x∈l,∀y∈l,f x=f y->x=y):(l.map f).Nodup:=by
 unfold qIf;rw[qE5];exact qF5 (fun{a b} ha hb hab z=>hab (hi a ha b hb z)) h
def zGC:∀n,(allv n).Nodup
 |0=>by simp[allv]
 |n+1=>by
  have ih:=zGC n;rw[allv,qD9];refine⟨zFF ih fun x _ y _ h=>by simpa using h,zFF ih fun x _ y _ h=>by simpa using h,fun a ha b hb=>?_⟩;obtain⟨x,_,rfl⟩:=qAi.mp ha;obtain⟨y,_,rfl⟩:=qAi.mp hb;simp
def allv_mem:∀{n:Nat}{x:List Int},x∈allv n↔RowN n x
 |0,x=>by
  simp only[allv,qAu];constructor
  ·rintro rfl;exact⟨rfl,fun y hy=>by simp at hy⟩
  ·rintro⟨h,_⟩;exact List.eq_nil_of_length_eq_zero h
 |n+1,x=>by
  rw[allv,qAr];constructor
  ·rintro(h|h)
   all_goals
    obtain⟨y,hy,rfl⟩:=qAi.mp h;have:=allv_mem.mp hy;refine⟨by simp[this.1],fun z hz=>?_⟩
    rcases qAc.mp hz with rfl|hz
    ·simp[Bit]
    ·exact this.2 z hz
  ·rintro⟨h1,h2⟩
   cases x with
   |nil=>simp at h1
   |cons a r=>
    have hr:r∈allv n:=allv_mem.mpr ⟨by simpa using h1,fun z hz=>h2 z (by simp[hz])⟩
    rcases h2 a (by simp)with rfl|rfl
    ·exact .inl (qAi.mpr ⟨r,hr,rfl⟩)
    ·exact .inr (qAi.mpr ⟨r,hr,rfl⟩)
def zHU{α:Type}[DecidableEq α]:∀(l1 l2:List α),l1.Nodup->(∀x∈l1,x∈l2)->l1.length<=l2.length
 |[],_,_,_=>by simp
 |a::r,l2,h,hs=>by
  have ha:=hs a (by simp);rw[qBk]at h
  have:=zHU r (l2.erase a) h.2 fun x hx=>(qEi (fun z:x=a=>h.1 (by rw[<- z];exact hx))).mpr (hs x (by simp[hx]))
  rw[qDj ha]at this;have:=qCz ha;simp;lia
noncomputable def cnt(n:Nat)(P:List Int->Prop):Nat:=by
 classical exact((allv n).filter fun x=>decide (P x)).length
def zUO(n:Nat):cnt n (fun _=>True)=2 ^ n:=by
 unfold cnt;rw[List.filter_eq_self.mpr (by simp),zPZ]
def zIK{P Q:List Int->Prop}(h:∀x,RowN n x->(P x↔Q x)):cnt n P=cnt n Q:=by
 unfold cnt;congr 1;refine qCp fun x hx=>?_
 have:=h x (allv_mem.mp hx);simp[this]
def zZA{P Q:List Int->Prop}(f:List Int->List Int)(hf:∀x,RowN n x->P x->RowN n (f x)/\Q (f x))(hi:∀x y,RowN n x->RowN n y->f x=f y->x=y):cnt n P<=cnt n Q:=by
 classical
 unfold cnt;have h1:(((allv n).filter fun x=>decide (P x)).map f).Nodup:=zFF ((zGC n).filter _) fun x hx y hy=>hi x y (allv_mem.mp (qAm.mp hx).1) (allv_mem.mp (qAm.mp hy).1)
 have h2:=zHU _ ((allv n).filter fun x=>decide (Q x)) h1 fun z hz=>by
  obtain⟨x,hx,rfl⟩:=qAi.mp hz;obtain⟨g1,g2⟩:=qAm.mp hx;obtain⟨k1,k2⟩:=hf x (allv_mem.mp g1) (by simpa using g2);exact qAm.mpr ⟨allv_mem.mpr k1,by simpa using k2⟩
 rw[qAe]at h2;exact h2
def zUL(P E:List Int->Prop):cnt n P=cnt n (fun x=>P x/\E x)+cnt n (fun x=>P x/\¬E x):=by
 classical
 unfold cnt;generalize allv n=l;induction l with
 |nil=>simp
 |cons a r ih=>
  simp only[qCh];by_cases h1:P a
  ·by_cases h2:E a
   ·simp[h1,h2,ih];lia
   ·simp[h1,h2,ih];lia
  ·simp[h1,ih]
def flp(p:Nat)(x:List Int):List Int:=x.set p (1-x.getD p 0)
def zKU(h:RowN n x):RowN n (flp p x):=zZW h (by rcases zEU (k:=p) h with z|z<;>rw[z]<;>simp[Bit])
theorem zKV{n p:Nat}{x:List Int}(h:RowN n x)(hp:p<n)(k:Nat):(flp p x).getD k 0=if p=k then 1-x.getD p 0 else x.getD k 0:=zX9 (by rw[h.1];exact hp)
def zZX{n:Nat}{x y:List Int}(hx:x.length=n)(hy:y.length=n)(h:∀k,k<n->x.getD k 0=y.getD k 0):x=y:=by
 rw[zDS hx,zDS hy];exact qAs fun k hk=>h k (by simpa using hk)
def zTV{n p:Nat}(hp:p<n)(hx:RowN n x)(hy:RowN n y)(h:flp p x=flp p y):x=y:=by
 refine zZX hx.1 hy.1 fun k hk=>?_
 have e:(flp p x).getD k 0=(flp p y).getD k 0:=by rw[h]
 rw[zKV hx hp,zKV hy hp]at e;by_cases z:p=k
 ·subst z;rw[if_pos rfl,if_pos rfl]at e;lia
 ·rw[if_neg z,if_neg z]at e;exact e
def zXQ{n p:Nat}(hp:p<n)(P E:List Int->Prop)(h1:∀x,RowN n x->P x->P (flp p x))(h2:∀x,RowN n x->(E (flp p x)↔¬E x)):cnt n P=2*cnt n (fun x=>P x/\E x):=by
 have a:=zUL (n:=n) P E;have b:cnt n (fun x=>P x/\E x)<=cnt n (fun x=>P x/\¬E x):=zZA (flp p) (fun x hx h=>⟨zKU hx,h1 x hx h.1,fun z=>(h2 x hx).mp z h.2⟩) fun x y hx hy=>zTV hp hx hy
 have c:cnt n (fun x=>P x/\¬E x)<=cnt n (fun x=>P x/\E x):=zZA (flp p) (fun x hx h=>⟨zKU hx,h1 x hx h.1,(h2 x hx).mpr h.2⟩) fun x y hx hy=>zTV hp hx hy
 lia
def Ev(n:Nat)(g:Nat->Int)(x:List Int):Prop:=sumN n (fun k=>g k*x.getD k 0)%2=0
def zYW{p:Nat}{g:Nat->Int}(h:RowN n x)(hp:p<n):sumN n (fun k=>g k*(flp p x).getD k 0)=sumN n (fun k=>g k*x.getD k 0)+g p*(1-2*x.getD p 0):=by
 rw[zGO (f:=fun k=>g k*(flp p x).getD k 0) (g:=fun k=>g k*x.getD k 0) hp fun k _ hk=>by rw[zKV h hp,if_neg (fun z=>hk z.symm)],zKV h hp,if_pos rfl,<- Int.mul_sub]
 congr 2;lia
def zbB{p:Nat}{g:Nat->Int}(h:RowN n x)(hp:p<n)(hg:g p=0):Ev n g (flp p x)↔Ev n g x:=by
 unfold Ev;rw[zYW h hp,hg];simp
def zbA{p:Nat}{g:Nat->Int}(h:RowN n x)(hp:p<n)(hg:g p=1):Ev n g (flp p x)↔¬Ev n g x:=by
 unfold Ev;rw[zYW h hp,hg];lia
def Led(n:Nat):List (List Int)->Prop
 |[]=>True
 |l::r=>(∃p,p<n/\l.getD p 0=1/\∀s∈r,s.getD p 0=0)/\Led n r
def zPO(hx:RowN n x):dot r x%2=0↔Ev n (fun k=>r.getD k 0) x:=by
 unfold Ev;rw[zL0 r x n (by rw[hx.1];exact qAa _)]
def zUM{n:Nat}:∀(ls:List (List Int)),Led n ls->cnt n (Ker ls)*2 ^ ls.length=2 ^ n
 |[],_=>by
  rw[zIK (Q:=fun _=>True) fun x _=>⟨fun _=>trivial,fun _ r hr=>by simp at hr⟩,zUO];simp
 |l::r,h=>by
  obtain⟨⟨p,hp,h1,h0⟩,h2⟩:=h;have ih:=zUM r h2;have hh:=zXQ hp (Ker r) (fun x=>dot l x%2=0) (fun x hx hk s hs=>(zPO (zKU hx)).mpr ((zbB hx hp (h0 s hs)).mpr ((zPO hx).mp (hk s hs)))) fun x hx=>by
   rw[zPO (zKU hx),zPO hx];exact zbA hx hp h1
  have hc:cnt n (Ker (l::r))=cnt n (fun x=>Ker r x/\dot l x%2=0):=zIK fun x _=>⟨fun h=>⟨fun s hs=>h s (by simp[hs]),h l (by simp)⟩,fun h s hs=>(qAc.mp hs).elim (fun z=>z▸h.2) (h.1 s)⟩
  rw[hc,qAj,qIt,<- ih,hh];rw[qFq (2 ^ r.length) 2,<- Nat.mul_assoc,qFq _ 2]
def KerF(n:Nat)(f:Nat->Nat->Int)(x:List Int):Prop:=∀a,a<n->Ev n (f a) x
section
variable{n i j:Nat}{f:Nat->Nat->Int}(hb:Bits n f)(hi:i<n)(hj:j<n)(hij:i≠j)
include hi in
include hi hij in
include hb hi hj hij in
include hb hi hj hij in
end
def frz0(o:Option Sl):Option Dt:=match o with
 |some (d,n)=>if n=0\/d.dep=0 then some d else none
 |none=>none
theorem zRG{n i:Nat}(h:i<n):(tab n f).getD i []=(qA4 n).map fun j=>f i j:=by
 rw[qA0,zFX h];rfl
theorem zaT{n:Nat}{f:Nat->Nat->Int}{x:List Int}(hx:x.length=n):Ker (tab n f) x↔∀a,a<n->sumN n (fun b=>f a b*x.getD b 0)%2=0:=by
 constructor
 ·intro h a ha
  have:=h _ (zAN (d:=[]) (i:=a) (by rw[zJU];exact ha))
  rw[zRG ha,zMW hx]at this;exact this
 ·intro h r hr;obtain⟨i,hi,rfl⟩:=zD0 (d:=[]) hr;rw[zJU]at hi;rw[zRG hi,zMW hx];exact h i hi
def fst1:List Int->Nat
 |[]=>0
 |a::r=>if a=1 then 0 else fst1 r+1
def zKQ:∀{l:List Int},1∈l->fst1 l<l.length
 |a::r,h=>by
  unfold fst1;split
  ·simp
  ·rename_i z
   have:=zKQ (l:=r) ((qAc.mp h).elim (fun y=>absurd y.symm z) fun y=>y)
   simp;exact this
def zKR:∀{l:List Int},1∈l->l.getD (fst1 l) 0=1
 |a::r,h=>by
  unfold fst1;split
  ·rename_i z;simp[z]
  ·rename_i z
   have:=zKR (l:=r) ((qAc.mp h).elim (fun y=>absurd y.symm z) fun y=>y)
   simpa using this
def red1(left l:List Int):List Int:=if left.getD (fst1 l) 0=1 then addB left l else left
def red(ls:List (List Int))(row:List Int):List Int:=ls.foldl red1 row
section
variable{n:Nat}
def zGP(ha:RowN n a)(hl:RowN n l):RowN n (red1 a l):=by
 unfold red1;split
 ·exact zGZ ha hl
 ·exact ha
def zK3:∀{ls:List (List Int)}{row:List Int},RowN n row->(∀l∈ls,RowN n l)->RowN n (red ls row)
 |[],row,h,_=>h
 |l::r,row,h,hl=>zK3 (ls:=r) (zGP h (hl l (by simp))) fun s hs=>hl s (by simp[hs])
def zRY{p:Nat}(ha:RowN n a)(hl:RowN n l)(hp:p<n)(h1:a.getD p 0=0)(h2:l.getD p 0=0):(red1 a l).getD p 0=0:=by
 unfold red1;split
 ·rw[zEE a l p (by rw[ha.1,hl.1]) (by rw[ha.1];exact hp),h1,h2];rfl
 ·exact h1
def zP6{p:Nat}(hp:p<n):∀{ls:List (List Int)}{row:List Int},RowN n row->(∀l∈ls,RowN n l)->row.getD p 0=0->(∀l∈ls,l.getD p 0=0)->(red ls row).getD p 0=0
 |[],row,_,_,h,_=>h
 |l::r,row,h,hl,h1,h2=>zP6 hp (ls:=r) (zGP h (hl l (by simp))) (fun s hs=>hl s (by simp[hs])) (zRY h (hl l (by simp)) hp h1 (h2 l (by simp))) fun s hs=>h2 s (by simp[hs])
def Lds(ls:List (List Int)):Prop:=ls.Pairwise fun l s=>s.getD (fst1 l) 0=0
def zP5:∀{ls:List (List Int)}{row:List Int},RowN n row->(∀l∈ls,RowN n l/\1∈l)->Lds ls->∀l∈ls,(red ls row).getD (fst1 l) 0=0
 |[],row,_,_,_,l,h=>by simp at h
 |a::r,row,h,hl,hp,l,hm=>by
  unfold Lds at hp;rw[qBo]at hp;have ha:=hl a (by simp);have h1:=zGP h ha.1
  rcases qAc.mp hm with rfl|hm
  ·have hlt:fst1 l<n:=by rw[<- ha.1.1];exact zKQ ha.2
   refine zP6 hlt (ls:=r) h1 (fun s hs=>(hl s (by simp[hs])).1) ?_ fun s hs=>hp.1 s hs
   unfold red1;split
   ·rename_i z
    rw[zEE row l _ (by rw[h.1,ha.1.1]) (by rw[h.1];exact hlt),z,zKR ha.2];rfl
   ·rename_i z
    rcases zEU (k:=fst1 l) h with w|w
    ·exact w
    ·exact absurd w z
  ·exact zP5 (ls:=r) h1 (fun s hs=>hl s (by simp[hs])) hp.2 l hm
def zK4{x:List Int}(hx:RowN n x):∀{ls:List (List Int)}{row:List Int},RowN n row->(∀l∈ls,RowN n l)->Ker ls x->dot (red ls row) x%2=dot row x%2
 |[],row,_,_,_=>rfl
 |l::r,row,h,hl,hk=>by
  have ha:=hl l (by simp);have ih:=zK4 hx (ls:=r) (zGP h ha) (fun s hs=>hl s (by simp[hs])) fun s hs=>hk s (by simp[hs])
  show dot (red r (red1 row l)) x%2=_;rw[ih];unfold red1;split
  ·have:=hk l (by simp)
   rw[zU5 row l x (by rw[h.1,ha.1]) hx.2];lia
  ·rfl
def zT7:∀{ls:List (List Int)},(∀l∈ls,RowN n l/\1∈l)->Lds ls->Led n ls
 |[],_,_=>trivial
 |l::r,hl,hp=>by
  unfold Lds at hp;rw[qBo]at hp;have ha:=hl l (by simp);exact⟨⟨fst1 l,by rw[<- ha.1.1];exact zKQ ha.2,zKR ha.2,hp.1⟩,zT7 (fun s hs=>hl s (by simp[hs])) hp.2⟩
structure GP(n:Nat)(T ls:List (List Int))(k:Nat):Prop where
 rows:∀l∈ls,RowN n l/\1∈l
 lds:Lds ls
 le:ls.length<=k
 ker:∀x,RowN n x->(Ker ls x↔Ker (T.take k) x)
def GP.start(T:List (List Int)):GP n T [] 0:=⟨fun l h=>by simp at h,qE4,qAa _,fun x _=>by simp[Ker]⟩
def zKN{T:List (List Int)}{k:Nat}(hk:k<T.length):Ker (T.take (k+1)) x↔Ker (T.take k) x/\dot (T.getD k []) x%2=0:=by
 have e:T.take (k+1)=T.take k++[T.getD k []]:=by
  rw[qDx hk];simp[qA0,qA1 hk]
 rw[e];unfold Ker;constructor
 ·intro h;exact⟨fun r hr=>h r (qB6 _ hr),h _ (qAw _ (by simp))⟩
 ·rintro⟨h1,h2⟩ r hr
  rcases qAr.mp hr with hr|hr
  ·exact h1 r hr
  ·rw[qAu.mp hr];exact h2
theorem GP.miss{T ls:List (List Int)}{k:Nat}(a:GP n T ls k)(hT:∀r∈T,RowN n r)(hk:k<T.length)(h:¬1∈red ls (T.getD k [])):GP n T ls (k+1):=by
 have hr:=hT _ (zAN (d:=[]) hk);have hrr:RowN n (red ls (T.getD k [])):=zK3 hr fun l hl=>(a.rows l hl).1
 refine⟨a.rows,a.lds,by have:=a.le;lia,fun x hx=>?_⟩;rw[zKN hk,<- a.ker x hx];refine⟨fun hkr=>⟨hkr,?_⟩,fun z=>z.1⟩;rw[<- zK4 hx hr (fun l hl=>(a.rows l hl).1) hkr,zL0 _ x n (by rw[hx.1];exact qAa _),zC9 fun j hj=>?_]
 ·rfl
 ·rcases zEU (k:=j) hrr with w|w
  ·rw[w];simp
  ·exact absurd (by rw[<- w];exact zAN (by rw[hrr.1];exact hj)) h
theorem GP.hit{T ls:List (List Int)}{k:Nat}(a:GP n T ls k)(hT:∀r∈T,RowN n r)(hk:k<T.length)(h:1∈red ls (T.getD k [])):GP n T (ls++[red ls (T.getD k [])]) (k+1):=by
 have hr:=hT _ (zAN (d:=[]) hk);have hrr:RowN n (red ls (T.getD k [])):=zK3 hr fun l hl=>(a.rows l hl).1
 refine⟨fun l hl=>?_,?_,by have:=a.le;simp;lia,fun x hx=>?_⟩
 ·rcases qAr.mp hl with hl|hl
  ·exact a.rows l hl
  ·rw[qAu.mp hl];exact⟨hrr,h⟩
 ·unfold Lds;rw[qGc];refine⟨a.lds,by simp,fun l hl s hs=>?_⟩;rw[qAu.mp hs];exact zP5 hr a.rows a.lds l hl
 ·rw[zKN hk,<- a.ker x hx];constructor
  ·intro hkr;have h1:Ker ls x:=fun r hr=>hkr r (qB6 _ hr)
   have h2:=hkr _ (qAw _ (qAu.mpr rfl));rw[zK4 hx hr (fun l hl=>(a.rows l hl).1) h1]at h2;exact⟨h1,h2⟩
  ·rintro⟨h1,h2⟩ r hrm
   rcases qAr.mp hrm with hrm|hrm
   ·exact h1 r hrm
   ·rw[qAu.mp hrm,zK4 hx hr (fun l hl=>(a.rows l hl).1) h1];exact h2
structure GK(n:Nat)(T:List (List Int))(ks:List Nat)(k:Nat):Prop where
 lt:∀j∈ks,j<k
 up:ks.Pairwise (· < ·)
 ker:∀x,RowN n x->(Ker (ks.map fun j=>T.getD j []) x↔Ker (T.take k) x)
def GK.start(T:List (List Int)):GK n T [] 0:=⟨fun j h=>by simp at h,qE4,fun x _=>by simp[Ker]⟩
def GK.miss(b:GK n T ks k)(a:GP n T ls k)(a':GP n T ls (k+1)):GK n T ks (k+1):=
 ⟨fun j hj=>by have:=b.lt j hj;lia,b.up,fun x hx=>by rw[b.ker x hx,<- a.ker x hx,a'.ker x hx]⟩
def GK.hit(b:GK n T ks k)(hk:k<T.length):GK n T (ks++[k]) (k+1):=by
 refine⟨fun j hj=>?_,?_,fun x hx=>?_⟩
 ·rcases qAr.mp hj with hj|hj
  ·have:=b.lt j hj;lia
  ·rw[qAu.mp hj];lia
 ·rw[qGc];refine⟨b.up,by simp,fun j hj s hs=>?_⟩;rw[qAu.mp hs];exact b.lt j hj
 ·rw[zKN hk,<- b.ker x hx,qBl];unfold Ker;constructor
  ·intro h;exact⟨fun r hr=>h r (qB6 _ hr),h _ (qAw _ (by simp))⟩
  ·rintro⟨h1,h2⟩ r hr
   rcases qAr.mp hr with hr|hr
   ·exact h1 r hr
   ·rw[qAd,qFs,qAu]at hr;rw[hr];exact h2
end
def zPB:∀{l:List Int},1∈l->posI 1 l=some (fst1 l)
 |a::r,h=>by
  unfold posI fst1;by_cases z:a=1
  ·simp[z]
  ·have:=zPB (l:=r) ((qAc.mp h).elim (fun y=>absurd y.symm z) fun y=>y)
   simp[z,this]
def zaO{l:List Int}(h:1∈l):lixD (l.map Dt.int) [.int 1]=some (.int (fst1 l:Nat)):=by
 unfold lixD;dsimp only;rw[zI6];dsimp only;rw[zPB h];rfl
def zT3{ls:List (List Int)}(hr:RowN n row)(hl:∀l∈ls,RowN n l/\1∈l)(hn:n<=1000):zBJ [rowD row,mat ls]=okR (rowD (red ls row)):=by
 unfold zBJ zEQ;refine zB6 rfl (zBG fun bb hb=>?_);simp[startO];subst hb;refine zBG fun bb hb=>?_
 unfold sFor;rw[show iSq (eV 1) (frz (frzAt [1] [some (rowD row,0),some (mat ls,0),some (rowD row,0),none]))=okR (ls.map rowD) by simp[mat],zA0];show nxR (forGo (.one 3) _ (ls.map rowD) [some (rowD row,0),some (mat ls,0),some (rowD row,0),none]) _;refine zaG rowD ls (fun left r=>RowN n left/\∃l2 o3,r=[some (rowD row,0),some (mat ls,0),some (rowD left,l2),o3]) red1 row ⟨hr,0,none,rfl⟩ (fun l hm left r h=>?_) fun r h=>?_
 ·obtain⟨h1,l2,o3,rfl⟩:=h;obtain⟨h2,h3⟩:=hl l hm;have x1:eMl lixD (eV 3) (aCons (eC (.int 1)) aNil) [some (rowD row),some (mat ls),some (rowD left),some (rowD l)]=okR (.int (fst1 l:Nat)):=by
   have:=zaO h3;simp[eMl,rowD,this]
  have hlt:fst1 l<n:=by rw[<- h2.1];exact zKQ h3
  have i1:=zO9 left (fst1 l) (by rw[h1.1];exact hlt);have a1:=zUY h1 h2 hn;rw[zIR];have hc:tB (eB eqD (eB ixD (eV 2) (eMl lixD (eV 3) (aCons (eC (.int 1)) aNil))) (eC (.int 1))) [some (rowD row),some (mat ls),some (rowD left),some (rowD l)]=okR (decide (left.getD (fst1 l) 0=1)):=by
   simp only[x_tB,x_eB,x_eC,x1,zA0];simp[-qA0,i1]
  rw[show full ([some (rowD row,0),some (mat ls,0),some (rowD left,l2),o3].set 3 (some (rowD l,0)))=[some (rowD row),some (mat ls),some (rowD left),some (rowD l)] from rfl,hc,zA0]
  by_cases h:left.getD (fst1 l) 0=1
  ·rw[if_pos (by simpa using h)];have e:red1 left l=addB left l:=by unfold red1;rw[if_pos h]
   rw[e];refine zHB (d:=rowD (addB left l)) ?_ ?_ ⟨zGZ h1 h2,_,_,rfl⟩ ⟨zGZ h1 h2,_,_,rfl⟩
   ·simp[a1]
   ·simp[a1]
  ·rw[if_neg (by simpa using h)];have e:red1 left l=left:=by unfold red1;rw[if_neg h]
   rw[e];exact⟨h1,_,_,rfl⟩
 ·obtain⟨h1,l2,o3,rfl⟩:=h;subst hb;simp[sRetV,red]
def zZV{e:EM}{ρ2:Ro}(h:frzAt vs (low j ρ)=ρ2)(h1:ρ2[j]?=some (some (.lst ds,1)))(he:e ((frz ρ2).set j (some (.lst ds)))=okR (.lst es))(hz:Dt.depL es=0/\es.length≠ds.length):sSetL i j vs e ρ=okR (.nx (ρ2.set i (some (.lst es,0)))):=by
 unfold sSetL;rw[h,h1];show zA3 (e ((frz ρ2).set j (some (.lst ds)))) _=_;rw[he,zA0];exact if_pos hz
def zbV{e:EM}{ρ2:Ro}(h:frzAt vs (low i ρ)=ρ2)(h1:ρ2[i]?=some (some (.lst ds,1)))(he:e (frz ρ2)=okR d)(hz:ds.length<=100000):sAppF i vs e ρ=okR (.nx (ρ2.set i (some (.lst (ds++[d]),1)))):=by
 unfold sAppF;rw[h,h1];show zA3 (e (frz ρ2)) _=_;rw[he,zA0,if_pos hz]
def GpS(n:Nat)(T:List (List Int))(k:Nat)(r:Ro):Prop:=∃ls ks l2 o3 o4 o5,r=[some (mat T,0),some (rowD (numL ks),9),some (mat ls,l2+1),o3,o4,o5]/\GP n T ls k/\GK n T ks k/\ks.length=ls.length
def zb1(l:List Int):inD false (.int 1) (rowD l)=some (.bl (decide (1∈l))):=by
 show(hasD (.int 1) (l.map Dt.int)).map _=_;rw[hasD,if_pos ⟨rfl,zBZ _⟩];show some (Dt.bl ((l.map Dt.int).any fun y=>Dt.eq y (.int 1)))=_
 congr 2;induction l with
 |nil=>rfl
 |cons k r ih=>
  rw[qAd,qCd,ih];by_cases h:k=1
  ·subst h;simp
  ·simp[h,show ¬1=k from fun z=>h z.symm]
theorem zR0{n:Nat}{T:List (List Int)}(hT:T.length=n)(hr:∀r∈T,RowN n r)(hn:n<=1000):∃ks ls,zCR [mat T]=okR (rowD (numL ks))/\ks.length=ls.length/\GP n T ls n/\GK n T ks n:=by
 suffices h:eiR (zCV [some (mat T,0),none,none,none,none,none]) (fun _=>False) (fun d=>∃ks ls,d=rowD (numL ks)/\ks.length=ls.length/\GP n T ls n/\GK n T ks n) by
  rcases h with⟨_,_,z⟩|⟨d,h1,ks,ls,rfl,h2,h3⟩
  ·exact z.elim
  ·exact⟨ks,ls,zB6 rfl h1,h2,h3⟩
 unfold zCV;refine zJB (P:=fun r=>r=[some (mat T,0),some (.lst [],9),none,none,none,none]) (zTY (by simp)) ?_
 rintro r rfl
 refine zJB (P:=fun r=>r=[some (mat T,0),some (.lst [],9),some (mat [],9),none,none,none]) (zTY (by simp[mat])) ?_
 rintro r rfl
 refine zJB (P:=GpS n T n) (zTY ?_) ?_
 ·unfold sFor;rw[show iEn (aCons (eV 0) aNil) (frz (frzAt [0] [some (mat T,0),some (.lst [],9),some (mat [],9),none,none,none]))=okR (enumD 0 (T.map rowD)) by simp[mat],zA0];show nxR (forGo (.tup [3,4]) _ (enumD 0 (T.map rowD)) [some (mat T,0),some (.lst [],9),some (mat [],9),none,none,none]) _;refine zO3 (T.map rowD) (GpS n T) ⟨[],[],8,none,none,none,rfl,GP.start T,GK.start T,rfl⟩ (fun k x hx r h=>?_) fun r h=>by rw[qAe,hT]at h;exact h
  obtain⟨ls,ks,l2,o3,o4,o5,rfl,a,b,hps⟩:=h;have hk:k<T.length:=by have:=(qA5.mp hx).1;simpa using this
  have hx':x=rowD (T.getD k []):=by
   rw[qAb,qA1 hk]at hx;cases hx;simp[qA0,qA1 hk]
  subst hx';have hrow:=hr _ (zAN (d:=[]) hk);have hred:RowN n (red ls (T.getD k [])):=zK3 hrow fun l hl=>(a.rows l hl).1
  have lp:=zT3 hrow a.rows hn;have hm:=a.miss hr hk;have hh:=a.hit hr hk;have kh:=b.hit hk;have km:=fun z=>b.miss a (hm z)
  have hle:=a.le;generalize T.getD k []=row at *;generalize red ls row=left at *;refine zD7 fun bb hb=>?_
  refine zAQ (r:=[some (mat T,0),some (rowD (numL ks),9),some (mat ls,1),some (.int (k:Nat),0),some (rowD row,0),some (rowD left,0)]) ?_ ?_
  ·have hr0:frzAt [4] (low 2 ([some (mat T,0),some (rowD (numL ks),9),some (mat ls,l2+1),some (.int (k:Nat),0),some (rowD row,0),o5]))=[some (mat T,0),some (rowD (numL ks),9),some (mat ls,1),some (.int (k:Nat),0),some (rowD row,0),o5]:=rfl;have he:∀o0 o1 o3 o5:Option Dt,eCall zBJ (aCons (eV 4) (aCons (eV 2) aNil)) [o0,o1,some (mat ls),o3,some (rowD row),o5]=okR (rowD left):=by
    intro o0 o1 o3 o5;simp[lp]
   refine zZV hr0 rfl (es:=left.map Dt.int) ?_ ⟨zBZ _,by rw[qAe,qAe,hred.1];lia⟩;rw[show(frz [some (mat T,0),some (rowD (numL ks),9),some (mat ls,1),some (.int (k:Nat),0),some (rowD row,0),o5]).set 2 (some (.lst (ls.map rowD)))=[frz0 (some (mat T,0)),frz0 (some (rowD (numL ks),9)),some (mat ls),frz0 (some (.int (k:Nat),0)),some (rowD row),frz0 o5] from rfl];exact he _ _ _ _
  subst hb;rw[zIR];have hin:=zb1 left;rw[show tB (eB (inD false) (eC (.int 1)) (eV 5)) (full [some (mat T,0),some (rowD (numL ks),9),some (mat ls,1),some (.int (k:Nat),0),some (rowD row,0),some (rowD left,0)])=okR (decide (1∈left)) by simp[hin],zA0]
  by_cases h:1∈left
  ·rw[if_pos (by simpa using h)];refine zD7 fun bb hb=>?_
   refine zAQ (zcA (ds:=(numL ks).map Dt.int) (k:=8) (d:=.int (k:Nat)) rfl (by simp) (by simp[numL];lia) (by simp) (by simp)) ?_;subst hb;rw[show Dt.lst ((numL ks).map Dt.int++[.int (k:Nat)])=rowD (numL (ks++[k])) by unfold rowD numL;simp];refine zAQ (r:=[some (mat T,0),some (rowD (numL (ks++[k])),9),some (mat (ls++[left]),1),some (.int (k:Nat),0),some (rowD row,0),some (rowD left,0)]) ?_ ⟨ls++[left],ks++[k],0,_,_,_,rfl,hh h,kh,by simp[hps]⟩
   have:=zbV (i:=2) (vs:=[5]) (e:=eV 5) (ρ:=[some (mat T,0),some (rowD (numL (ks++[k])),9),some (mat ls,1),some (.int (k:Nat),0),some (rowD row,0),some (rowD left,0)]) (ρ2:=[some (mat T,0),some (rowD (numL (ks++[k])),9),some (mat ls,1),some (.int (k:Nat),0),some (rowD row,0),some (rowD left,0)]) (ds:=ls.map rowD) (d:=rowD left) rfl rfl (by simp) (by simp;lia)
   rw[show Dt.lst (ls.map rowD++[rowD left])=mat (ls++[left]) by unfold mat;simp]at this;exact this
  ·rw[if_neg (by simpa using h)];exact⟨ls,ks,0,_,_,_,rfl,hm h,km h,hps⟩
 rintro r ⟨ls,ks,l2,o3,o4,o5,rfl,a,b,hps⟩
 exact .inr ⟨rowD (numL ks),by simp[sRetV],ks,ls,rfl,hps,a,b⟩
def za5{a b:Nat}(h:2 ^ a=2 ^ b):a=b:=by
 rcases qF1 a b with z|z|z
 ·have:=qGd (show 1<2 by lia) z;lia
 ·exact z
 ·have:=qGd (show 1<2 by lia) z;lia
def zRX{n:Nat}(hn:n<=10)(hb:Bits n f):∃q:Nat,q<=n/\cnt n (KerF n f)=2 ^ q/\(∃ks,ks.length+q=n/\GK n (tab n f) ks n)/\zFH [mat (tab n f)]=okR (.int (q:Int)):=by
 have hT:=zJU n f;have hr:=zVG hb;obtain⟨ks,ls,h1,h2,h3,h4⟩:=zR0 hT hr (by lia);have hle:=h3.le;have hc:=zUM ls (zT7 h3.rows h3.lds);have e:cnt n (Ker ls)=cnt n (KerF n f):=zIK fun x hx=>by
  rw[h3.ker x hx,qFn (by rw[hT];exact qAa _)];exact zaT hx.1
 rw[e]at hc;refine⟨n-ls.length,by lia,?_,⟨ks,by lia,h4⟩,?_⟩
 ·have hp:2 ^ n=2 ^ (n-ls.length)*2 ^ ls.length:=by rw[<- Nat.pow_add];congr 1;lia
  rw[hp]at hc;exact Nat.eq_of_mul_eq_mul_right (Nat.pow_pos (by lia)) hc
 ·unfold zFH zNB
  have:((n-ls.length:Nat):Int)=(n:Int)-((numL ks).length:Int):=by simp[numL];lia
  simp[startO,h1,hT,this]
section
end
def dg(v:Nat->Int)(q:Nat)(ks:List Nat)(g:Nat->Nat->Int):Nat->Nat->Int:=fun a b=>if a=b/\a<q then v (ks.getD a 0)else g a b
def zU7{l0 l1 l2:Nat}{ks:List Nat}{e2:EM}(v:Nat->Int)(hz:ks.length<=1000)(he:∀q k X,ks[q]?=some k->e2 [some T,some C,some (rowD (numL ks)),some X,some (.int (q:Nat)),some (.int (k:Nat))]=okR (.int (v k))) :
  nxR (sFor [2] (iEn (aCons (eV 2) aNil)) (.tup [4,5]) (sItem2 3 0 (eV 4) (eV 4) e2) [some (T,l0),some (C,l1),some (rowD (numL ks),l2),some (mat (tab ks.length g),2),none,none]) fun r=>∃o4 o5,r=[some (T,l0),some (C,l1),some (rowD (numL ks),0),some (mat (tab ks.length (dg v ks.length ks g)),2),o4,o5]:=by
 unfold sFor;rw[show iEn (aCons (eV 2) aNil) (frz (frzAt [2] [some (T,l0),some (C,l1),some (rowD (numL ks),l2),some (mat (tab ks.length g),2),none,none]))=okR (enumD 0 (ks.map fun k:Nat=>Dt.int (k:Int))) by simp[numD],zA0];show nxR (forGo (.tup [4,5]) _ (enumD 0 (ks.map fun k:Nat=>Dt.int (k:Int))) [some (T,l0),some (C,l1),some (rowD (numL ks),0),some (mat (tab ks.length g),2),none,none]) _;refine zO3 (ks.map fun k:Nat=>Dt.int (k:Int)) (fun q r=>∃o4 o5,r=[some (T,l0),some (C,l1),some (rowD (numL ks),0),some (mat (tab ks.length (dg v q ks g)),2),o4,o5]) ⟨none,none,?_⟩ (fun q x hx r hr=>?_) fun r h=>by rw[qAe]at h;exact h
 ·have:dg v 0 ks g=g:=by funext a b;unfold dg;rw[if_neg (by lia)]
  rw[this]
 ·obtain⟨o4,o5,rfl⟩:=hr;rw[qAb]at hx;cases hk:ks[q]? with
  |none=>rw[hk]at hx;cases hx
  |some k=>
   rw[hk]at hx;cases hx;have hq:q<ks.length:=(qA5.mp hk).1;refine zAQ (zTL (l:=0) (a:=q) (b:=q) (v:=v k) rfl (by simp) (by simp) (he q k _ hk) hq hq) ⟨some (.int (q:Nat),0),some (.int (k:Nat),0),?_⟩
   have:(fun x y=>if x=q/\y=q then v k else dg v q ks g x y)=dg v (q+1) ks g:=by
    funext x y;unfold dg;have hkq:ks.getD q 0=k:=by rw[qA0,hk];rfl
    by_cases h:x=q/\y=q
    ·rw[if_pos h,if_pos (by lia),h.1,hkq]
    ·rw[if_neg h]
     by_cases h2:x=y/\x<q
     ·rw[if_pos h2,if_pos (by lia)]
     ·rw[if_neg h2,if_neg (by lia)]
   rw[this];rfl
def kept(n:Nat)(c:List Int):List Nat:=(qA4 n).filter fun k=>decide (c.getD k 0≠0)
def zDK:∀k∈kept n c,k<n:=fun k hk=>by
 have:=(qAm.mp hk).1;simpa using this
def zPH(n:Nat)(c:List Int):(kept n c).length<=n:=qAq (qBu _ _) (by simp)
def cpF(n:Nat)(c:List Int)(f:Nat->Nat->Int):Nat->Nat->Int:=dg (fun k=>if c.getD k 0=1 then 1 else 0) (kept n c).length (kept n c) (sub (kept n c) f)
def zOI{n:Nat}{c:List Int}(hn:n<=10)(hc:c.length=n):zCG [mat (tab n f),rowD c]=okR (mat (tab (kept n c).length (cpF n c f))):=by
 have hkl:=zPH n c;have h1:zAW [rowD c]=okR (rowD (numL (kept n c))):=by
  unfold zAW zDQ;have hcc:eComp (iR1 (aCons (eBi lenD (aCons (eV 0) aNil)) aNil)) 1 (.one 1) (tB (eB neD (eB ixD (eV 0) (eV 1)) (eC (.int 0)))) (eV 1) [some (rowD c)]=okR (rowD (numL (kept n c))):=by
   rw[numD];refine zC6 (fun k:Nat=>Dt.int (k:Int)) _ (fun k=>decide (c.getD k 0≠0)) (qA4 n) rfl (fun k hk=>?_) (fun k _ _=>by simp) _ (by rw[zFT (n:=n) (by simp[hc]) (by lia),zFE]) (by simp;lia);have i1:=zO9 c k (by rw[hc];simpa using hk);simp[-qA0,i1]
  simp[startO,hcc]
 have h2:=zWD n f (kept n c) zDK (by lia);have hd:=zG7 (tab (kept n c).length (sub (kept n c) f));unfold zCG zFQ;refine zB6 rfl (zBG fun bb hb=>?_);refine zAQ (r:=[some (mat (tab n f),0),some (rowD c,0),some (rowD (numL (kept n c)),1),none,none,none]) (by simp[startO,h1]) ?_;subst hb;refine zBG fun bb hb=>?_
 refine zAQ (r:=[some (mat (tab n f),0),some (rowD c,0),some (rowD (numL (kept n c)),1),some (mat (tab (kept n c).length (sub (kept n c) f)),2),none,none]) (by simp[h2,hd]) ?_;subst hb;refine zBG fun bb hb=>?_
 obtain⟨r',g1,o4,o5,rfl⟩:=zC4 (zU7 (T:=mat (tab n f)) (C:=rowD c) (l0:=0) (l1:=0) (l2:=1) (ks:=kept n c) (g:=sub (kept n c) f) (e2:=eIf (tB (eB eqD (eB ixD (eV 1) (eV 5)) (eC (.int 1)))) (eC (.int 1)) (eC (.int 0))) (fun k=>if c.getD k 0=1 then 1 else 0) (by lia) fun q k X hk=>by
  have i1:=zO9 c k (by rw[hc];exact zDK k (qB3 hk))
  by_cases h:c.getD k 0=1
  ·simp[-qA0,i1,h]
  ·simp[-qA0,i1,h])
 refine zAQ g1 ?_;subst hb;simp[sRetV,cpF]
def zUN{P Q:List Int->Prop}(f:List Int->List Int)(hf:∀x,RowN n x->P x->RowN m (f x)/\Q (f x))(hi:∀x y,RowN n x->P x->RowN n y->P y->f x=f y->x=y):cnt n P<=cnt m Q:=by
 classical
 unfold cnt;have h1:(((allv n).filter fun x=>decide (P x)).map f).Nodup:=zFF ((zGC n).filter _) fun x hx y hy=>by
  obtain⟨a1,a2⟩:=qAm.mp hx;obtain⟨b1,b2⟩:=qAm.mp hy;exact hi x y (allv_mem.mp a1) (by simpa using a2) (allv_mem.mp b1) (by simpa using b2)
 have h2:=zHU _ ((allv m).filter fun x=>decide (Q x)) h1 fun z hz=>by
  obtain⟨x,hx,rfl⟩:=qAi.mp hz;obtain⟨g1,g2⟩:=qAm.mp hx;obtain⟨k1,k2⟩:=hf x (allv_mem.mp g1) (by simpa using g2);exact qAm.mpr ⟨allv_mem.mpr k1,by simpa using k2⟩
 rw[qAe]at h2;exact h2
def zXP{m:Nat}{P:List Int->Prop}:cnt (m+1) (fun z=>P z.tail)=2*cnt m P:=by
 classical
 unfold cnt;rw[allv,qGq,qAo,qHm,qHm,qAe,qAe];have e:∀b:Int,((fun z:List Int=>decide (P z.tail))∘qIs b)=fun x=>decide (P x):=fun b=>rfl
 rw[e,e];lia
def sY(Y:Nat->Int)(l:List Nat):Int:=(l.map Y).sum
def zJC(Y:Nat->Int)(a b:List Nat):sY Y (a++b)=sY Y a+sY Y b:=by simp[sY]
def zET(Y:Nat->Int)(a:Nat)(l:List Nat):sY Y (a::l)=Y a+sY Y l:=by simp[sY]
def zJZ(Y:Nat->Int){sl:List Nat}(hn:sl.Nodup):∀B:List Nat,(∀b∈B,b∈sl)->sY Y B=sumN sl.length (fun i=>(B.count (sl.getD i 0):Int)*Y (sl.getD i 0))
 |[],_=>by rw[zC9 fun k _=>by simp];rfl
 |b::B,h=>by
  have ih:=zJZ Y hn B fun x hx=>h x (by simp[hx])
  have hb:=h b (by simp);have hi:=qAf hb;have eb:=getD_idx hb;rw[zET,ih,zGO (f:=fun i=>((b::B).count (sl.getD i 0):Int)*Y (sl.getD i 0)) (g:=fun i=>(B.count (sl.getD i 0):Int)*Y (sl.getD i 0)) hi fun k hk hne=>?_]
  ·rw[eb,qB7]
   have:((B.count b+1:Nat):Int)*Y b=(B.count b:Int)*Y b+Y b:=by rw[Int.natCast_add,qIx];simp
   rw[this];lia
  ·have:b≠sl.getD k 0:=fun z=>hne (by rw[z,idx_getD hn hk])
   rw[qEb this]
def zF6{n:Nat}{f g:Nat->Int}(e:∀k,k<n->f k%2=g k%2):sumN n f%2=sumN n g%2:=by
 have:=zLL (n:=n) (f:=f) (g:=g) (h:=fun _=>0) (fun k hk=>by rw[e k hk,qEt])
 rw[this,zC9 (f:=fun _=>0) fun _ _=>rfl,qEt]
def zbU(Y:Nat->Int){cs sl:List Nat}(hn:sl.Nodup)(hm:∀b∈cs,b∈sl)(h2:∀x∈cs,cs.count x=2)(x:Nat):sY Y (btw cs x)%2=sumN sl.length (fun i=>crs cs x (sl.getD i 0)*Y (sl.getD i 0))%2:=by
 have hs:(btw cs x).Sublist cs:=by unfold btw;exact(qGw _ _).trans (List.drop_sublist _ _)
 rw[zJZ Y hn _ fun b hb=>hm b (hs.subset hb)];refine zF6 fun k hk=>?_
 have hle:(btw cs x).count (sl.getD k 0)<=2:=by
  have h:=hs.count_le (sl.getD k 0);by_cases z:sl.getD k 0∈cs
  ·rw[h2 _ z]at h;exact h
  ·rw[qAp.mpr z]at h;lia
 unfold crs;generalize Y (sl.getD k 0)=y;generalize(btw cs x).count (sl.getD k 0)=q at hle;have hq:q=0\/q=1\/q=2:=by lia
 rcases hq with rfl|rfl|rfl<;>simp
def zJ8(g:Nat->Int)(p:Nat->Bool):∀l:List Nat,(∀k∈l,p k=false->g k=0)->(l.map g).sum=((l.filter p).map g).sum
 |[],_=>rfl
 |a::l,h=>by
  have ih:=zJ8 g p l fun k hk=>h k (by simp[hk])
  rw[qCh];cases e:p a
  ·simp[ih,h a (by simp) e]
  ·simp[ih]
def zRL(g:Nat->Int)(ks:List Nat):sumN ks.length (fun a=>g (ks.getD a 0))=(ks.map g).sum:=by
 unfold sumN;congr 1;refine qBb (by simp) fun i h1 h2=>?_
 have hi:i<ks.length:=by simpa using h2
 rw[qBq,qBq,qBx,qA0,qA1 hi];rfl
theorem zPG{Y:Nat->Int}{cs sl:List Nat}{ci:List Int}(hn:sl.Nodup)(hm:∀b,b∈cs↔b∈sl)(h2:∀x∈cs,cs.count x=2)(hz:∀k,k<sl.length->ci.getD k 0=0->Y (sl.getD k 0)=0) :
  KerF (kept sl.length ci).length (cpF sl.length ci (crsT cs sl)) ((kept sl.length ci).map fun k=>Y (sl.getD k 0))↔∀k,k<sl.length->ci.getD k 0≠0->(sY Y (btw cs (sl.getD k 0))+(if ci.getD k 0=1 then Y (sl.getD k 0)else 0))%2=0:=by
 have key:∀a,a<(kept sl.length ci).length->(Ev (kept sl.length ci).length (cpF sl.length ci (crsT cs sl) a) ((kept sl.length ci).map fun k=>Y (sl.getD k 0))↔(sY Y (btw cs (sl.getD ((kept sl.length ci).getD a 0) 0))+(if ci.getD ((kept sl.length ci).getD a 0) 0=1 then Y (sl.getD ((kept sl.length ci).getD a 0) 0)else 0))%2=0):=fun a ha=>by
  have hka:=zDK (n:=sl.length) (c:=ci) _ (zAN (d:=0) ha);have hfil:=zJ8 (fun k=>crsT cs sl ((kept sl.length ci).getD a 0) k*Y (sl.getD k 0)) (fun k=>decide (ci.getD k 0≠0)) (qA4 sl.length) fun k hk e=>by
   show _*_=_;rw[hz k (qBf.mp hk) (by simpa using e),qG4]
  have hpar:=zbU Y hn (fun b hb=>(hm b).mp hb) h2 (sl.getD ((kept sl.length ci).getD a 0) 0);have hself:crsT cs sl ((kept sl.length ci).getD a 0) ((kept sl.length ci).getD a 0)=0:=zXO (h2 _ ((hm _).mpr (zAN hka)));have hdef:kept sl.length ci=(qA4 sl.length).filter fun k=>decide (ci.getD k 0≠0):=rfl
  rw[<- hdef]at hfil;unfold Ev;rw[zGO (f:=fun b=>cpF sl.length ci (crsT cs sl) a b*(((kept sl.length ci).map fun k=>Y (sl.getD k 0)).getD b 0)) (g:=fun b=>crsT cs sl ((kept sl.length ci).getD a 0) ((kept sl.length ci).getD b 0)*Y (sl.getD ((kept sl.length ci).getD b 0) 0)) ha fun b hb hne=>by
   rw[zGV (d:=0) hb];unfold cpF dg sub;rw[if_neg fun z=>hne z.1.symm]]
  rw[zRL (fun k=>crsT cs sl ((kept sl.length ci).getD a 0) k*Y (sl.getD k 0)),<- hfil,hself,zGV (d:=0) ha];have hd:cpF sl.length ci (crsT cs sl) a a=if ci.getD ((kept sl.length ci).getD a 0) 0=1 then 1 else 0:=by
   unfold cpF dg;rw[if_pos ⟨rfl,ha⟩]
  rw[hd];unfold sumN at hpar;have hs:((qA4 sl.length).map fun i=>crs cs (sl.getD ((kept sl.length ci).getD a 0) 0) (sl.getD i 0)*Y (sl.getD i 0))=(qA4 sl.length).map fun k=>crsT cs sl ((kept sl.length ci).getD a 0) k*Y (sl.getD k 0):=rfl
  rw[hs]at hpar;generalize((qA4 sl.length).map fun k=>crsT cs sl ((kept sl.length ci).getD a 0) k*Y (sl.getD k 0)).sum=S at hpar ⊢
  generalize sY Y (btw cs (sl.getD ((kept sl.length ci).getD a 0) 0))=T at hpar ⊢;generalize Y (sl.getD ((kept sl.length ci).getD a 0) 0)=y;split<;>lia
 constructor
 ·intro h k hk hc;have hmk:k∈kept sl.length ci:=qAm.mpr ⟨by simpa using hk,by simpa using hc⟩;obtain⟨a,ha,e⟩:=zD0 (d:=0) hmk
  have:=(key a ha).mp (h a ha);rw[e]at this;exact this
 ·intro h a ha;have hmk:(kept sl.length ci).getD a 0∈kept sl.length ci:=zAN ha;obtain⟨h3,h4⟩:=qAm.mp hmk;exact(key a ha).mpr (h _ (by simpa using h3) (by simpa using h4))
structure Cst(ts C:List Nat)(n:Nat)(F:Nat->Int):Prop where
 hb:∀e,Bit (F e)
 hn:∀e,e<4*n->F (nt ts e)=F e
 hj:∀e,e<4*n->F (jn C e)=F e
def ze8{C:List Nat}{p n:Nat}{F:Nat->Int}(hp:p<n)(hw:C.getD p 0<3):(∀e,e<4*n->e/4=p->F (jn C e)=F e)↔(C.getD p 0=0->F (4*p)=F (4*p+1)/\F (4*p+2)=F (4*p+3))/\(C.getD p 0=1->F (4*p)=F (4*p+2)/\F (4*p+1)=F (4*p+3))/\(C.getD p 0=2->F (4*p)=F (4*p+3)/\F (4*p+1)=F (4*p+2)):=by
 have hs:∀s,s<4->jn C (4*p+s)=4*p+(s^^^(C.getD p 0+1)):=fun s h=>jn4 C h
 generalize C.getD p 0=w at hw hs;constructor
 ·intro h;have g:∀s,s<4->F (4*p+(s^^^(w+1)))=F (4*p+s):=fun s hs4=>by rw[<- hs s hs4];exact h _ (by lia) (by lia)
  have hw':w=0\/w=1\/w=2:=by lia
  rcases hw' with rfl|rfl|rfl
  ·exact⟨fun _=>⟨(g 0 (by lia)).symm,(g 2 (by lia)).symm⟩,fun z=>by lia,fun z=>by lia⟩
  ·exact⟨fun z=>by lia,fun _=>⟨(g 0 (by lia)).symm,(g 1 (by lia)).symm⟩,fun z=>by lia⟩
  ·exact⟨fun z=>by lia,fun z=>by lia,fun _=>⟨(g 0 (by lia)).symm,(g 1 (by lia)).symm⟩⟩
 ·intro h e he hep;have hw':w=0\/w=1\/w=2:=by lia
  have hs4:e%4=0\/e%4=1\/e%4=2\/e%4=3:=by lia
  have ee:e=4*p+e%4:=by lia
  rw[ee,hs _ (by lia)]
  rcases hw' with rfl|rfl|rfl
  ·obtain⟨a,b⟩:=h.1 rfl
   rcases hs4 with z|z|z|z<;>rw[z]
   ·exact a.symm
   ·exact a
   ·exact b.symm
   ·exact b
  ·obtain⟨a,b⟩:=h.2.1 rfl
   rcases hs4 with z|z|z|z<;>rw[z]
   ·exact a.symm
   ·exact b.symm
   ·exact a
   ·exact b
  ·obtain⟨a,b⟩:=h.2.2 rfl
   rcases hs4 with z|z|z|z<;>rw[z]
   ·exact a.symm
   ·exact b.symm
   ·exact b
   ·exact a
def zW6{cs:List Nat}{k:Nat}(hg:cs[k]?=some x)(h2:cs.count x=2):∃A B C:List Nat,cs=A++x::(B++x::C)/\x∉A/\x∉B/\x∉C/\(k=A.length\/k=A.length+1+B.length):=by
 obtain⟨A,B,C,e,hA,hB,hC⟩:=zD6 h2;refine⟨A,B,C,e,hA,hB,hC,?_⟩;rw[e]at hg;by_cases h1:k<A.length
 ·rw[qA9 h1]at hg;exact absurd (qB3 hg) hA
 ·rw[qA7 (by lia)]at hg;cases hj:k-A.length with
  |zero=>exact .inl (by lia)
  |succ j=>
   rw[hj,qB8]at hg;by_cases h3:j<B.length
   ·rw[qA9 h3]at hg;exact absurd (qB3 hg) hB
   ·rw[qA7 (by lia)]at hg;cases hi:j-B.length with
    |zero=>exact .inr (by lia)
    |succ i=>
     rw[hi,qB8]at hg;exact absurd (qB3 hg) hC
def zcN(A B C:List Nat)(x:Nat):(A++x::(B++x::C)).take A.length=A/\(A++x::(B++x::C)).take (A.length+1)=A++[x]/\(A++x::(B++x::C)).take (A.length+1+B.length)=A++x::B/\(A++x::(B++x::C)).take (A.length+1+B.length+1)=A++x::(B++[x]):=by
 refine⟨qCs rfl,?_,?_,?_⟩
 ·rw[show A++x::(B++x::C)=(A++[x])++(B++x::C) by simp];exact qCs (by simp)
 ·rw[show A++x::(B++x::C)=(A++x::B)++(x::C) by simp];exact qCs (by simp;lia)
 ·rw[show A++x::(B++x::C)=(A++x::(B++[x]))++C by simp];exact qCs (by simp;lia)
def zMQ{A R:List Nat}{x:Nat}(h:x∉A):(A++x::R).idxOf x=A.length:=by
 rw[qCq,if_neg h];simp
def fW(cs O:List Nat)(Y:Nat->Int)(b:Int)(e:Nat):Int:=(b+sY Y (cs.take (cs.idxOf (O.getD (e/4) 0)))+(if e%4=0 then 0 else if e%4=1 then Y (O.getD (e/4) 0)else if e%4=2 then Y (O.getD (e/4) 0)+sY Y (btw cs (O.getD (e/4) 0))else Y (O.getD (e/4) 0)+sY Y (btw cs (O.getD (e/4) 0))+Y (O.getD (e/4) 0)))%2
def zYV(cs O:List Nat)(Y:Nat->Int)(b:Int)(e:Nat):Bit (fW cs O Y b e):=zG8 _
section
variable{n:Nat}{cs:List Nat}(w:Wd n cs)(h2:∀x∈cs,cs.count x=2)
include w h2
theorem zb7(Y:Nat->Int)(b:Int){k:Nat}(hk:k<cs.length):fW cs (ords cs) Y b (inA (rowW cs) k)=(b+sY Y (cs.take k))%2/\fW cs (ords cs) Y b (inA (rowW cs) k+1)=(b+sY Y (cs.take (k+1)))%2:=by
 have hm:=zF9 hk;have hg:cs[k]?=some (cs.getD k 0):=by rw[qA0,qA1 hk];rfl
 have hv:=zPL w hk;have hO:=getD_idx ((ords_mem cs _).mpr hm);generalize cs.getD k 0=x at hm hg hv hO;obtain⟨A,B,C,e,hA,hB,hC,hk2⟩:=zW6 hg (h2 x hm);have hidx:cs.idxOf x=A.length:=by rw[e];exact zMQ hA
 have hbt:btw cs x=B:=by rw[e];exact zIN hA hB
 obtain⟨t0,t1,t2,t3⟩:=zcN A B C x;rw[<- e]at t0 t1 t2 t3;rw[hidx]at hv;unfold fW;rcases hk2 with rfl|rfl
 ·rw[if_neg (by lia)]at hv;rw[hv,show(4*(ords cs).idxOf x+2*0)/4=(ords cs).idxOf x by lia,show(4*(ords cs).idxOf x+2*0+1)/4=(ords cs).idxOf x by lia,show(4*(ords cs).idxOf x+2*0)%4=0 by lia,show(4*(ords cs).idxOf x+2*0+1)%4=1 by lia,hO,hidx,t0,t1,zJC,zET];refine⟨by simp,?_⟩;rw[if_neg (by lia),if_pos rfl];simp[sY]
  lia
 ·rw[if_pos (by lia)]at hv;rw[hv,show(4*(ords cs).idxOf x+2*1)/4=(ords cs).idxOf x by lia,show(4*(ords cs).idxOf x+2*1+1)/4=(ords cs).idxOf x by lia,show(4*(ords cs).idxOf x+2*1)%4=2 by lia,show(4*(ords cs).idxOf x+2*1+1)%4=3 by lia,hO,hidx,hbt,t0,t2,t3];rw[zJC,zJC,zET,zET,zJC,zET];rw[if_neg (by lia),if_neg (by lia),if_pos rfl,if_neg (by lia),if_neg (by lia),if_neg (by lia)]
  have:sY Y []=0:=rfl;rw[this];exact⟨by lia,by lia⟩
theorem zVJ(Y:Nat->Int):sY Y cs%2=0:=by
 rw[zJZ Y (ords_nodup cs) cs fun b hb=>(ords_mem cs b).mpr hb];rw[zF6 (g:=fun _=>0) fun k hk=>?_]
 ·rw[zC9 fun _ _=>rfl];rfl
 ·rw[h2 _ ((ords_mem cs _).mp (zAN hk))]
  generalize Y ((ords cs).getD k 0)=y;lia
end
theorem zYJ{n:Nat}{row:List Nat}(t:Twice n row){k:Nat}(hk:k<row.length):nt (tsW n row) (inA row k+1)=inA row ((k+1)%row.length)/\nt (tsW n row) (inA row ((k+1)%row.length))=inA row k+1:=by
 have h1:=(zJ6 t (zDW t hk)).1;rw[(zG3 t hk).1]at h1;have l2:=zDW t (qC7 (k+1) (show 0<row.length by lia));have h2:=(zJ6 t (e:=inA row ((k+1)%row.length)) (by lia)).1;rw[(zG3 t hk).2]at h2;exact⟨by lia,by lia⟩
section
variable{n:Nat}{cs c:List Nat}(w:Wd n cs)(h2:∀x∈cs,cs.count x=2)(n1:1<=n)(hc:c.length=n)(hw:∀x∈c,x<3)(hsl:(sosL cs).length=n)
include w h2 n1 hc hw hsl
theorem zXY{p:Nat}(hp:p<n):(ords cs).getD p 0∈cs/\(cbW c (sosL cs) (ords cs)).getD p 0=c.getD ((sosL cs).idxOf ((ords cs).getD p 0)) 0/\(cbW c (sosL cs) (ords cs)).getD p 0<3:=by
 have ho:=w.ol;have hm:=zAN (d:=0) (show p<(ords cs).length by lia);refine⟨(ords_mem cs _).mp hm,zUP c (sosL cs) (ords cs) (by lia),?_⟩;rw[zUP c (sosL cs) (ords cs) (by lia)];exact zI9 hw (by rw[hc,<- hsl];exact qAf ((sos_mem _ cs).mpr ((ords_mem cs _).mp hm)))
theorem zeQ{Y:Nat->Int}{b:Int}(h0:∀x∈cs,c.getD ((sosL cs).idxOf x) 0=0->Y x=0)(h1:∀x∈cs,c.getD ((sosL cs).idxOf x) 0=1->(sY Y (btw cs x)+Y x)%2=0)(h3:∀x∈cs,c.getD ((sosL cs).idxOf x) 0=2->sY Y (btw cs x)%2=0):Cst (tsW n (rowW cs)) (cbW c (sosL cs) (ords cs)) n (fW cs (ords cs) Y b):=by
 have hrl:(rowW cs).length=cs.length:=by simp[rowW]
 have hl:=w.len;refine⟨zYV _ _ _ _,fun e he=>?_,fun e he=>?_⟩
 ·obtain⟨k,hk,he2⟩:=zMU w.tw he;have hkc:k<cs.length:=by lia
  have hm:(k+1)%(rowW cs).length<cs.length:=by rw[<- hrl];exact qC7 _ (by lia)
  have key:fW cs (ords cs) Y b (inA (rowW cs) ((k+1)%(rowW cs).length))=fW cs (ords cs) Y b (inA (rowW cs) k+1):=by
   rw[(zb7 w h2 Y b hkc).2,(zb7 w h2 Y b hm).1];by_cases z:k+1=cs.length
   ·rw[hrl,z,qH4,qGh,qEg]
    have:=zVJ w h2 Y;have e0:sY Y []=0:=rfl;rw[e0];lia
   ·rw[hrl,qB1 (by lia)]
  obtain⟨a1,a2⟩:=zYJ w.tw hk;rcases he2 with rfl|rfl
  ·rw[a1];exact key
  ·rw[a2];exact key.symm
 ·have hp:e/4<n:=by lia
  obtain⟨m,g1,g2⟩:=zXY w h2 n1 hc hw hsl hp;refine(ze8 (n:=n) (F:=fW cs (ords cs) Y b) hp g2).mpr ?_ e he rfl;generalize e/4=p at hp m g1 g2;have q0:=h0 _ m;have q1:=h1 _ m;have q3:=h3 _ m;rw[<- g1]at q0 q1 q3;have v:∀s,s<4->fW cs (ords cs) Y b (4*p+s)=(b+sY Y (cs.take (cs.idxOf ((ords cs).getD p 0)))+(if s=0 then 0 else if s=1 then Y ((ords cs).getD p 0)else if s=2 then Y ((ords cs).getD p 0)+sY Y (btw cs ((ords cs).getD p 0))else Y ((ords cs).getD p 0)+sY Y (btw cs ((ords cs).getD p 0))+Y ((ords cs).getD p 0)))%2:=fun s hs=>by
   unfold fW;rw[show(4*p+s)/4=p by lia,show(4*p+s)%4=s by lia]
  have v0:=v 0 (by lia);have v1:=v 1 (by lia);have v2:=v 2 (by lia);have v3:=v 3 (by lia);rw[if_pos rfl]at v0;rw[if_neg (by lia),if_pos rfl]at v1;rw[if_neg (by lia),if_neg (by lia),if_pos rfl]at v2;rw[if_neg (by lia),if_neg (by lia),if_neg (by lia)]at v3;rw[Nat.add_zero]at v0;rw[v0,v1,v2,v3]
  generalize Y ((ords cs).getD p 0)=y at q0 q1 q3;generalize sY Y (btw cs ((ords cs).getD p 0))=z at q1 q3;generalize sY Y (cs.take (cs.idxOf ((ords cs).getD p 0)))=t;refine⟨fun h=>?_,fun h=>?_,fun h=>?_⟩
  ·have:=q0 h;subst this;exact⟨by lia,by lia⟩
  ·have:=q1 h;exact⟨by lia,by lia⟩
  ·have:=q3 h;exact⟨by lia,by lia⟩
end
def yF(cs:List Nat)(F:Nat->Int)(x:Nat):Int:=(F (4*(ords cs).idxOf x)+F (4*(ords cs).idxOf x+1))%2
section
variable{n:Nat}{cs c:List Nat}{F:Nat->Int}(w:Wd n cs)(h2:∀x∈cs,cs.count x=2)(n1:1<=n)(hc:c.length=n)(hw:∀x∈c,x<3)(hsl:(sosL cs).length=n)(hF:Cst (tsW n (rowW cs)) (cbW c (sosL cs) (ords cs)) n F)
include w h2 n1 hc hw hsl hF
theorem zKS{x:Nat}(hx:x∈cs):(c.getD ((sosL cs).idxOf x) 0=0->F (4*(ords cs).idxOf x)=F (4*(ords cs).idxOf x+1)/\F (4*(ords cs).idxOf x+2)=F (4*(ords cs).idxOf x+3))/\(c.getD ((sosL cs).idxOf x) 0=1->F (4*(ords cs).idxOf x)=F (4*(ords cs).idxOf x+2)/\F (4*(ords cs).idxOf x+1)=F (4*(ords cs).idxOf x+3))/\(c.getD ((sosL cs).idxOf x) 0=2->F (4*(ords cs).idxOf x)=F (4*(ords cs).idxOf x+3)/\F (4*(ords cs).idxOf x+1)=F (4*(ords cs).idxOf x+2))/\c.getD ((sosL cs).idxOf x) 0<3:=by
 have hi:(ords cs).idxOf x<n:=by rw[<- w.ol];exact qAf ((ords_mem cs x).mpr hx)
 obtain⟨_,g1,g2⟩:=zXY w h2 n1 hc hw hsl hi;rw[getD_idx ((ords_mem cs x).mpr hx)]at g1;have:=(ze8 (n:=n) (F:=F) hi g2).mp fun e he _=>hF.hj e he
 rw[g1]at this g2;exact⟨this.1,this.2.1,this.2.2,g2⟩
theorem zNN{k:Nat}(hk:k<cs.length):F (inA (rowW cs) ((k+1)%cs.length))=F (inA (rowW cs) k+1)/\(F (inA (rowW cs) k)+F (inA (rowW cs) k+1))%2=yF cs F (cs.getD k 0):=by
 have hrl:(rowW cs).length=cs.length:=by simp[rowW]
 have hkr:k<(rowW cs).length:=by lia
 refine⟨?_,?_⟩
 ·have:=hF.hn _ (zDW w.tw hkr)
  rw[(zYJ w.tw hkr).1,hrl]at this;exact this
 ·have hv:=zPL w hk;obtain⟨f0,f1,f2,f3⟩:=zKS w h2 n1 hc hw hsl hF (zF9 hk);unfold yF
  generalize cs.getD k 0=x at hv f0 f1 f2 f3;generalize c.getD ((sosL cs).idxOf x) 0=u at f0 f1 f2 f3;by_cases z:cs.idxOf x<k
  ·rw[if_pos z]at hv;rw[hv];have hu:u=0\/u=1\/u=2:=by lia
   rcases hu with rfl|rfl|rfl
   ·obtain⟨a,b⟩:=f0 rfl
    show(F (4*(ords cs).idxOf x+2)+F (4*(ords cs).idxOf x+3))%2=_;rw[a,b];lia
   ·obtain⟨a,b⟩:=f1 rfl
    show(F (4*(ords cs).idxOf x+2)+F (4*(ords cs).idxOf x+3))%2=_;rw[a,b]
   ·obtain⟨a,b⟩:=f2 rfl
    show(F (4*(ords cs).idxOf x+2)+F (4*(ords cs).idxOf x+3))%2=_;rw[a,b,Int.add_comm]
  ·rw[if_neg z]at hv;rw[hv];rfl
theorem zLK:∀{k:Nat},k<=cs.length->F (inA (rowW cs) (k%cs.length))%2=(F (inA (rowW cs) 0)+sY (yF cs F) (cs.take k))%2
 |0,_=>by rw[Nat.zero_mod,qGh];show _=(_+0)%2;rw[qEt]
 |k+1,hk=>by
  have ih:=zLK (k:=k) (by lia);rw[qB1 (show k<cs.length by lia)]at ih;obtain⟨s1,s2⟩:=zNN w h2 n1 hc hw hsl hF (show k<cs.length by lia);have ht:cs.take (k+1)=cs.take k++[cs.getD k 0]:=by
   rw[qDx (show k<cs.length by lia),qA0,qA1 (show k<cs.length by lia)];rfl
  rw[s1,ht,zJC,zET,<- s2];have e0:sY (yF cs F) []=0:=rfl;rw[e0];lia
theorem zIH{x:Nat}(hx:x∈cs):(c.getD ((sosL cs).idxOf x) 0=0->yF cs F x=0)/\(c.getD ((sosL cs).idxOf x) 0=1->(sY (yF cs F) (btw cs x)+yF cs F x)%2=0)/\(c.getD ((sosL cs).idxOf x) 0=2->sY (yF cs F) (btw cs x)%2=0):=by
 obtain⟨f0,f1,f2,_⟩:=zKS w h2 n1 hc hw hsl hF hx;obtain⟨A,B,C,e,hA,hB,hC⟩:=zD6 (h2 x hx);have hidx:cs.idxOf x=A.length:=by rw[e];exact zMQ hA
 have hbt:btw cs x=B:=by rw[e];exact zIN hA hB
 obtain⟨t0,t1,t2,t3⟩:=zcN A B C x;rw[<- e]at t0 t1 t2 t3;have hlen:cs.length=A.length+1+B.length+1+C.length:=by rw[e];simp;lia
 have ga:cs.getD A.length 0=x:=by rw[e,qA0,qA7 (qAa _)];simp
 have gb:cs.getD (A.length+1+B.length) 0=x:=by
  rw[e,qA0,qA7 (by lia),show A.length+1+B.length-A.length=B.length+1 by lia,qB8,qA7 (qAa _)];simp
 have ia:=zPL w (k:=A.length) (by lia);have ib:=zPL w (k:=A.length+1+B.length) (by lia);rw[ga,hidx,if_neg (by lia)]at ia;rw[gb,hidx,if_pos (by lia)]at ib;have sa:=zLK w h2 n1 hc hw hsl hF (k:=A.length) (by lia);have sb:=zLK w h2 n1 hc hw hsl hF (k:=A.length+1+B.length) (by lia);rw[qB1 (by lia),t0,ia]at sa;rw[qB1 (by lia),t2,ib,zJC,zET]at sb;have ea:4*(ords cs).idxOf x+2*0=4*(ords cs).idxOf x:=by lia
 have eb:4*(ords cs).idxOf x+2*1=4*(ords cs).idxOf x+2:=by lia
 rw[ea]at sa;rw[eb]at sb;rw[hbt];have hy:yF cs F x=(F (4*(ords cs).idxOf x)+F (4*(ords cs).idxOf x+1))%2:=rfl;generalize sY (yF cs F) A=SA at sa sb;generalize sY (yF cs F) B=SB at sb ⊢;generalize yF cs F x=y at hy sb ⊢;refine⟨fun h=>?_,fun h=>?_,fun h=>?_⟩
 ·have:=(f0 h).1;rw[hy,this];lia
 ·have:=(f1 h).1;lia
 ·have:=(f2 h).2;lia
end
section
variable{ts C:List Nat}{n:Nat}(hN:NetN ts (4*n))(hl:C.length=n)(hw:∀c∈C,c<3)
include hN hl hw
theorem zJH{e p x:Nat}(he:e<4*n)(p1:1<=p)(p3:itr (stp ts C) p e=e)(hx:x∈orb ts C e p):nt ts x∈orb ts C e p/\jn C x∈orb ts C e p/\x<4*n:=by
 obtain⟨st1,_⟩:=zH8 hN hl hw;have lt:∀j,itr (stp ts C) j e<4*n:=zFJ st1 he;obtain⟨i,hi,rfl|rfl⟩:=orb_mem.mp hx
 ·refine⟨?_,orb_mem.mpr ⟨i,hi,.inr rfl⟩,lt i⟩;cases i with
  |zero=>
   refine orb_mem.mpr ⟨p-1,by lia,.inr ?_⟩;have h:itr (stp ts C) (p-1+1) e=e:=by rw[show p-1+1=p by lia];exact p3
   show nt ts e=_
   conv=>lhs;rw[<- h]
   exact hN.inv _ (zDR hl hw (lt (p-1))).1
  |succ j=>exact orb_mem.mpr ⟨j,by lia,.inr (hN.inv _ (zDR hl hw (lt j)).1)⟩
 ·refine⟨?_,orb_mem.mpr ⟨i,hi,.inl (zDR hl hw (lt i)).2⟩,(zDR hl hw (lt i)).1⟩
  by_cases z:i+1=p
  ·refine orb_mem.mpr ⟨0,by lia,.inl ?_⟩;show itr (stp ts C) (i+1) e=e;rw[z];exact p3
  ·exact orb_mem.mpr ⟨i+1,by lia,.inl rfl⟩
theorem zbQ(hF:Cst ts C n F){e x:Nat}(he:e<4*n)(hx:x∈orb ts C e p):F x=F e:=by
 obtain⟨st1,_⟩:=zH8 hN hl hw;have lt:∀j,itr (stp ts C) j e<4*n:=zFJ st1 he;have hi:∀j,F (itr (stp ts C) j e)=F e:=fun j=>by
  induction j with
  |zero=>rfl
  |succ j ih=>
   show F (nt ts (jn C (itr (stp ts C) j e)))=_;rw[hF.hn _ (zDR hl hw (lt j)).1,hF.hj _ (lt j),ih]
 obtain⟨i,_,rfl|rfl⟩:=orb_mem.mp hx
 ·exact hi i
 ·rw[hF.hj _ (lt i),hi i]
end
theorem zFB(f:Nat->List Nat):∀k r,r<(rdS f k).1.length->∃e,e<k/\(rdS f k).1.getD r []=f e/\∀i,i<r->e∉(rdS f k).1.getD i []
 |0,r,h=>by simp[rdS]at h
 |k+1,r,h=>by
  by_cases hg:(getW (rdS f k).2 (.inl (k:Int))).isSome=true
  ·have e:rdS f (k+1)=rdS f k:=by rw[rdS,if_pos hg]
   rw[e]at h ⊢;obtain⟨x,h1,h2⟩:=zFB f k r h;exact⟨x,by lia,h2⟩
  ·have e:(rdS f (k+1)).1=(rdS f k).1++[f k]:=by rw[rdS,if_neg hg]
   rw[e]at h ⊢;have gl:∀i,i<(rdS f k).1.length->((rdS f k).1++[f k]).getD i []=(rdS f k).1.getD i []:=fun i hi=>by
    rw[qA0,qA9 hi,qA0]
   by_cases z:r<(rdS f k).1.length
   ·obtain⟨x,h1,h2,h3⟩:=zFB f k r z;refine⟨x,by lia,by rw[gl r z];exact h2,fun i hi=>?_⟩;rw[gl i (by lia)];exact h3 i hi
   ·have hr:r=(rdS f k).1.length:=by simp at h;lia
    subst hr;refine⟨k,by lia,?_,fun i hi hm=>?_⟩
    ·rw[qA0,qA7 (qAa _)];simp
    ·rw[gl i hi]at hm;exact hg ((zFA f k k).mpr ⟨_,zAN hi,hm⟩)
def rI(R:List (List Nat))(e:Nat):Nat:=(R.map fun l=>decide (e∈l)).idxOf true
def zP8{R:List (List Nat)}{e e':Nat}(h:∀l∈R,e∈l↔e'∈l):rI R e=rI R e':=by
 unfold rI;congr 1;exact qAs fun l hl=>by simp[h l hl]
def zS0:∀{R:List (List Nat)}{r e:Nat},r<R.length->e∈R.getD r []->(∀i,i<r->e∉R.getD i [])->rI R e=r
 |[],r,e,h,_,_=>by simp at h
 |l::R,0,e,_,hm,_=>by
  have:e∈l:=hm;simp[rI,this]
 |l::R,r+1,e,h,hm,hn=>by
  have h0:e∉l:=hn 0 (by lia);have ih:=zS0 (R:=R) (r:=r) (e:=e) (by simpa using h) hm fun i hi=>hn (i+1) (by lia)
  unfold rI at ih ⊢;rw[qAd,decide_eq_false h0,qDu];show(bif false==true then 0 else _)=_;rw[show((false==true)=false) from rfl,cond_false,ih]
def zD2(c:List Nat)(k:Nat):(numL c).getD k 0=((c.getD k 0:Nat):Int):=by
 unfold numL;rw[qA0,qAb,qA0];cases c[k]?<;>rfl
def mem_kept{k:Nat}:k∈kept n c↔k<n/\c.getD k 0≠0:=by
 unfold kept;rw[qAm,qBf,decide_eq_true_iff]
def zQU(n:Nat)(c:List Int):(kept n c).Nodup:=qCi.filter _
def dat(cs c:List Nat)(F:Nat->Int):List Int:=F (inA (rowW cs) 0)::(kept (sosL cs).length (numL c)).map fun k=>yF cs F ((sosL cs).getD k 0)
section
variable{n:Nat}{cs:List Nat}(w:Wd n cs)
include w
theorem zfD(Y:Nat->Int)(b:Int){x:Nat}(hx:x∈cs):yF cs (fW cs (ords cs) Y b) x=Y x%2:=by
 have hO:=getD_idx ((ords_mem cs x).mpr hx);unfold yF fW;generalize(ords cs).idxOf x=i at hO;rw[show 4*i/4=i by lia,show(4*i+1)/4=i by lia,show 4*i%4=0 by lia,show(4*i+1)%4=1 by lia,hO,if_pos rfl,if_neg (by lia),if_pos rfl]
 lia
end
section
variable{n:Nat}{cs c:List Nat}{F:Nat->Int}(w:Wd n cs)(h2:∀x∈cs,cs.count x=2)(n1:1<=n)(hc:c.length=n)(hw:∀x∈c,x<3)(hsl:(sosL cs).length=n)(hF:Cst (tsW n (rowW cs)) (cbW c (sosL cs) (ords cs)) n F)
include w h2 n1 hc hw hsl hF
theorem zUI{G:Nat->Int}(hG:Cst (tsW n (rowW cs)) (cbW c (sosL cs) (ords cs)) n G)(h0:F (inA (rowW cs) 0)=G (inA (rowW cs) 0))(hy:∀x∈cs,yF cs F x=yF cs G x){e:Nat}(he:e<4*n):F e=G e:=by
 have hrl:(rowW cs).length=cs.length:=by simp[rowW]
 have sy:∀k,sY (yF cs F) (cs.take k)=sY (yF cs G) (cs.take k):=fun k=>by
  unfold sY;congr 1;exact qAs fun x hx=>hy x (qEh hx)
 have key:∀k,k<=cs.length->F (inA (rowW cs) (k%cs.length))=G (inA (rowW cs) (k%cs.length)):=fun k hk=>by
  have a:=zLK w h2 n1 hc hw hsl hF hk;have b:=zLK w h2 n1 hc hw hsl hG hk;rw[sy k,h0,<- b]at a;rcases hF.hb (inA (rowW cs) (k%cs.length))with z|z<;>rcases hG.hb (inA (rowW cs) (k%cs.length))with y|y<;>lia
 obtain⟨k,hk,h⟩:=zMU w.tw he;have h1:=key (k+1) (by lia)
 rcases h with rfl|rfl
 ·rw[(zNN w h2 n1 hc hw hsl hF (by lia)).1,(zNN w h2 n1 hc hw hsl hG (by lia)).1]at h1;exact h1
 ·rw[hrl];exact h1
theorem zUG:RowN ((kept (sosL cs).length (numL c)).length+1) (dat cs c F)/\KerF (kept (sosL cs).length (numL c)).length (cpF (sosL cs).length (numL c) (crsT cs (sosL cs))) (dat cs c F).tail:=by
 refine⟨⟨by simp[dat],fun x hx=>?_⟩,?_⟩
 ·rcases qAc.mp hx with rfl|hx
  ·exact hF.hb _
  ·obtain⟨k,_,rfl⟩:=qAi.mp hx;exact zG8 _
 have at_:∀k,k<(sosL cs).length->(sosL cs).getD k 0∈cs/\(sosL cs).idxOf ((sosL cs).getD k 0)=k:=fun k hk=>⟨(sos_mem _ cs).mp (zAN hk),idx_getD (sos_nodup cs) hk⟩
 refine(zPG (Y:=yF cs F) (sos_nodup cs) (fun b=>(sos_mem b cs).symm) h2 fun k hk h=>?_).mpr fun k hk h=>?_
 ·obtain⟨m,e⟩:=at_ k hk;obtain⟨d0,_,_⟩:=zIH w h2 n1 hc hw hsl hF m;rw[e]at d0;rw[zD2]at h;exact d0 (by lia)
 ·obtain⟨m,e⟩:=at_ k hk;obtain⟨_,d1,d2⟩:=zIH w h2 n1 hc hw hsl hF m;have h3:=(zKS w h2 n1 hc hw hsl hF m).2.2.2;rw[e]at d1 d2 h3;rw[zD2]at h ⊢
  by_cases z:c.getD k 0=1
  ·rw[if_pos (by lia)];exact d1 z
  ·rw[if_neg (by lia),qEt];exact d2 (by lia)
theorem zbL{G:Nat->Int}(hG:Cst (tsW n (rowW cs)) (cbW c (sosL cs) (ords cs)) n G)(h:dat cs c F=dat cs c G){e:Nat}(he:e<4*n):F e=G e:=by
 unfold dat at h;obtain⟨h0,ht⟩:=qIi h;refine zUI w h2 n1 hc hw hsl hF hG h0 (fun x hx=>?_) he;have hi:=qAf ((sos_mem x cs).mpr hx);have ex:=getD_idx ((sos_mem x cs).mpr hx)
 by_cases z:c.getD ((sosL cs).idxOf x) 0=0
 ·rw[(zIH w h2 n1 hc hw hsl hF hx).1 z,(zIH w h2 n1 hc hw hsl hG hx).1 z]
 ·have hm:(sosL cs).idxOf x∈kept (sosL cs).length (numL c):=mem_kept.mpr ⟨hi,by rw[zD2];lia⟩
  have:=qH0.mp ht _ hm;rw[ex]at this;exact this
end
def yZ(cs:List Nat)(ks:List Nat)(z:List Int)(x:Nat):Int:=if(sosL cs).idxOf x∈ks then z.getD (ks.idxOf ((sosL cs).idxOf x)+1) 0 else 0
def zZD{ks:List Nat}{z:List Int}(hk:∀k∈ks,k<(sosL cs).length)(hn:ks.Nodup)(hz:z.length=ks.length+1):(ks.map fun k=>yZ cs ks z ((sosL cs).getD k 0))=z.tail:=by
 refine qBb (by simp[hz]) fun i h1 h2=>?_
 have hi:i<ks.length:=by simpa using h1
 rw[qBq,List.getElem_tail];unfold yZ;rw[idx_getD (sos_nodup cs) (hk _ (qCb hi)),if_pos (qCb hi),hn.idxOf_getElem i hi,qA0,qA1 (by lia)];rfl
def zc2{z:List Int}(hz:∀x∈z,Bit x)(x:Nat):Bit (yZ cs ks z x):=by
 unfold yZ;split
 ·rw[qA0];cases h:z[ks.idxOf ((sosL cs).idxOf x)+1]? with
  |none=>exact .inl rfl
  |some y=>exact hz y (qB3 h)
 ·exact .inl rfl
section
variable{n:Nat}{cs c:List Nat}(w:Wd n cs)(h2:∀x∈cs,cs.count x=2)(n1:1<=n)(hc:c.length=n)(hw:∀x∈c,x<3)(hsl:(sosL cs).length=n)
include w h2 n1 hc hw hsl
theorem zRT{z:List Int}(hz:RowN ((kept (sosL cs).length (numL c)).length+1) z)(hk:KerF (kept (sosL cs).length (numL c)).length (cpF (sosL cs).length (numL c) (crsT cs (sosL cs))) z.tail) :
  Cst (tsW n (rowW cs)) (cbW c (sosL cs) (ords cs)) n (fW cs (ords cs) (yZ cs (kept (sosL cs).length (numL c)) z) (z.getD 0 0))/\dat cs c (fW cs (ords cs) (yZ cs (kept (sosL cs).length (numL c)) z) (z.getD 0 0))=z:=by
 have yt:=zZD (cs:=cs) (ks:=kept (sosL cs).length (numL c)) (z:=z) (fun k h=>zDK k h) (zQU _ _) hz.1;have y0:∀x∈cs,c.getD ((sosL cs).idxOf x) 0=0->yZ cs (kept (sosL cs).length (numL c)) z x=0:=fun x hx h=>by
  unfold yZ;exact if_neg fun hm=>(mem_kept.mp hm).2 (by rw[zD2,h];rfl)
 have yb:=zc2 (cs:=cs) (ks:=kept (sosL cs).length (numL c)) hz.2;generalize yZ cs (kept (sosL cs).length (numL c)) z=Y at yt y0 yb ⊢;rw[<- yt]at hk;have hkw:=(zPG (Y:=Y) (sos_nodup cs) (fun b=>(sos_mem b cs).symm) h2 fun k hk h=>by
  rw[zD2]at h;refine y0 _ ((sos_mem _ cs).mp (zAN hk)) ?_;rw[idx_getD (sos_nodup cs) hk];lia).mp hk
 have at_:∀x∈cs,c.getD ((sosL cs).idxOf x) 0≠0->(sY Y (btw cs x)+(if c.getD ((sosL cs).idxOf x) 0=1 then Y x else 0))%2=0:=fun x hx h=>by
  have hi:=qAf ((sos_mem x cs).mpr hx);have:=hkw _ hi (by rw[zD2];lia)
  rw[zD2,getD_idx ((sos_mem x cs).mpr hx)]at this;by_cases e:c.getD ((sosL cs).idxOf x) 0=1
  ·rw[if_pos (by lia)]at this;rw[if_pos e];exact this
  ·rw[if_neg (by lia)]at this;rw[if_neg e];exact this
 refine⟨zeQ w h2 n1 hc hw hsl y0 (fun x hx h=>?_) fun x hx h=>?_,?_⟩
 ·have:=at_ x hx (by lia)
  rw[if_pos h]at this;exact this
 ·have:=at_ x hx (by lia)
  rw[if_neg (by lia),qEt]at this;exact this
 ·have hl:=w.len;unfold dat;rw[(zb7 w h2 Y (z.getD 0 0) (k:=0) (by lia)).1,qGh];have e1:((kept (sosL cs).length (numL c)).map fun k=>yF cs (fW cs (ords cs) Y (z.getD 0 0)) ((sosL cs).getD k 0))=(kept (sosL cs).length (numL c)).map fun k=>Y ((sosL cs).getD k 0):=qAs fun k hk=>by
   rw[zfD w Y _ ((sos_mem _ cs).mp (zAN (zDK k hk)))];rcases yb ((sosL cs).getD k 0)with e|e<;>rw[e]<;>rfl
  rw[e1,yt];have hzl:=hz.1;cases z with
  |nil=>simp at hzl
  |cons b t=>
   have hb:=hz.2 b (by simp)
   show(b+0)%2::t=_;congr 1;rcases hb with e|e<;>rw[e]<;>rfl
end
def zP0(hx:RowN m x)(hy:RowN m y)(h:∀r,r<m->x.getD r 0=y.getD r 0):x=y:=by
 have h1:=hx.1;have h2:=hy.1;refine qBb (by lia) fun i g1 g2=>?_
 have:=h i (by lia)
 rw[qA0,qA1 g1,qA0,qA1 g2]at this;exact this
def zK0(hx:RowN m x)(r:Nat):Bit (x.getD r 0):=by
 rw[qA0];cases h:x[r]? with
 |none=>exact .inl rfl
 |some y=>exact hx.2 y (qB3 h)
structure Hds(ts C:List Nat)(n:Nat)(R:List (List Nat))(hd:Nat->Nat):Prop where
 lt:∀r,r<R.length->hd r<4*n
 mem:∀r,r<R.length->hd r∈R.getD r []
 fst:∀r,r<R.length->∀i,i<r->hd r∉R.getD i []
 same:∀r,r<R.length->∀e,e∈R.getD r []->∀F,Cst ts C n F->F e=F (hd r)
 cls:∀r,r<R.length->∀e,e∈R.getD r []->nt ts e∈R.getD r []/\jn C e∈R.getD r []
 cov:∀e,e<4*n->∃r,r<R.length/\e∈R.getD r []
section
variable{ts C:List Nat}{n:Nat}(hN:NetN ts (4*n))(hl:C.length=n)(hw:∀c∈C,c<3)
include hN hl hw
theorem zX5{f:Nat->List Nat}{g:Nat->Nat}(hf:∀e,e<4*n->f e=orb ts C e (g e)/\1<=g e/\g e<=4*n/\itr (stp ts C) (g e) e=e/\∀q,1<=q->q<g e->itr (stp ts C) q e≠e):∃hd,Hds ts C n (rdS f (4*n)).1 hd:=by
 have h1:∀r:Nat,∃e,r<(rdS f (4*n)).1.length->e<4*n/\(rdS f (4*n)).1.getD r []=f e/\∀i,i<r->e∉(rdS f (4*n)).1.getD i []:=fun r=>by
  by_cases h:r<(rdS f (4*n)).1.length
  ·obtain⟨e,he⟩:=zFB f (4*n) r h;exact⟨e,fun _=>he⟩
  ·exact⟨0,fun z=>absurd z h⟩
 obtain⟨hd,hh⟩:=qFc h1;have self:∀e,e<4*n->e∈f e:=fun e he=>by
  obtain⟨a,b,_⟩:=hf e he;rw[a];exact orb_mem.mpr ⟨0,by lia,.inl rfl⟩
 refine⟨hd,fun r h=>(hh r h).1,fun r h=>?_,fun r h=>(hh r h).2.2,fun r h e he F hF=>?_,fun r h e he=>?_,fun e he=>?_⟩
 ·obtain⟨a,b,_⟩:=hh r h;rw[b];exact self _ a
 ·obtain⟨a,b,_⟩:=hh r h;rw[b,(hf _ a).1]at he;exact zbQ hN hl hw hF a he
 ·obtain⟨a,b,_⟩:=hh r h;obtain⟨q0,q1,_,q3,_⟩:=hf _ a;rw[b,q0]at he ⊢;obtain⟨c1,c2,_⟩:=zJH hN hl hw a q1 q3 he;exact⟨c1,c2⟩
 ·obtain⟨l,hm,hx⟩:=(zFA f e (4*n)).mp (zHJ f (4*n) self e he);obtain⟨r,hr,rfl⟩:=zD0 (d:=[]) hm;exact⟨r,hr,hx⟩
variable{R:List (List Nat)}{hd:Nat->Nat}(H:Hds ts C n R hd)
include H
theorem zb5(hF:Cst ts C n F)(hG:Cst ts C n G)(h:∀r,r<R.length->F (hd r)=G (hd r)){e:Nat}(he:e<4*n):F e=G e:=by
 obtain⟨r,hr,hm⟩:=H.cov e he;rw[H.same r hr e hm F hF,H.same r hr e hm G hG,h r hr]
theorem zOD{x:List Int}(hx:RowN R.length x):Cst ts C n (fun e=>x.getD (rI R e) 0)/\∀r,r<R.length->x.getD (rI R (hd r)) 0=x.getD r 0:=by
 refine⟨⟨fun e=>zK0 hx _,fun e he=>?_,fun e he=>?_⟩,fun r hr=>?_⟩
 ·show x.getD (rI R (nt ts e)) 0=_;rw[zP8 (e:=nt ts e) (e':=e) fun l hm=>?_];obtain⟨r,hr,rfl⟩:=zD0 (d:=[]) hm;refine⟨fun h=>?_,fun h=>(H.cls r hr _ h).1⟩
  have:=(H.cls r hr _ h).1;rw[hN.inv e he]at this;exact this
 ·show x.getD (rI R (jn C e)) 0=_;rw[zP8 (e:=jn C e) (e':=e) fun l hm=>?_];obtain⟨r,hr,rfl⟩:=zD0 (d:=[]) hm;refine⟨fun h=>?_,fun h=>(H.cls r hr _ h).2⟩
  have:=(H.cls r hr _ h).2;rw[(zDR hl hw he).2]at this;exact this
 ·rw[zS0 hr (H.mem r hr) (H.fst r hr)]
end
theorem zQC{n:Nat}{cs c:List Nat}{R:List (List Nat)}{hd:Nat->Nat}(w:Wd n cs)(h2:∀x∈cs,cs.count x=2)(n1:1<=n)(hc:c.length=n)(hw:∀x∈c,x<3)(hsl:(sosL cs).length=n)
  (hlC:(cbW c (sosL cs) (ords cs)).length=n) (hwC:∀x∈cbW c (sosL cs) (ords cs),x<3) (H:Hds (tsW n (rowW cs)) (cbW c (sosL cs) (ords cs)) n R hd):2 ^ R.length=2*cnt (kept (sosL cs).length (numL c)).length (KerF (kept (sosL cs).length (numL c)).length (cpF (sosL cs).length (numL c) (crsT cs (sosL cs)))):=by
 have hN:=(zJ5 w.tw).1;rw[<- zXP,<- zUO];refine qEo (zUN (fun x=>dat cs c fun e=>x.getD (rI R e) 0) (fun x hx _=>?_) fun x y hx _ hy _ he=>?_) (zUN (fun z=>(qA4 R.length).map fun r=>fW cs (ords cs) (yZ cs (kept (sosL cs).length (numL c)) z) (z.getD 0 0) (hd r)) (fun z hz hk=>?_) fun y z hy ky hz kz he=>?_)
 ·exact zUG w h2 n1 hc hw hsl (zOD hN hlC hwC H hx).1
 ·obtain⟨c1,g1⟩:=zOD hN hlC hwC H hx;obtain⟨c2,g2⟩:=zOD hN hlC hwC H hy;refine zP0 hx hy fun r hr=>?_
  rw[<- g1 r hr,<- g2 r hr];exact zbL w h2 n1 hc hw hsl c1 c2 he (H.lt r hr)
 ·refine⟨⟨by simp,fun x hx=>?_⟩,trivial⟩;obtain⟨r,_,rfl⟩:=qAi.mp hx;exact zYV _ _ _ _ _
 ·obtain⟨c1,d1⟩:=zRT w h2 n1 hc hw hsl hy ky;obtain⟨c2,d2⟩:=zRT w h2 n1 hc hw hsl hz kz;rw[<- d1,<- d2];have eq:∀e,e<4*n->fW cs (ords cs) (yZ cs (kept (sosL cs).length (numL c)) y) (y.getD 0 0) e=fW cs (ords cs) (yZ cs (kept (sosL cs).length (numL c)) z) (z.getD 0 0) e:=fun e he2=>zb5 hN hlC hwC H c1 c2 (fun r hr=>qH0.mp he r (qBf.mpr hr)) he2
  generalize fW cs (ords cs) (yZ cs (kept (sosL cs).length (numL c)) y) (y.getD 0 0)=F at eq;generalize fW cs (ords cs) (yZ cs (kept (sosL cs).length (numL c)) z) (z.getD 0 0)=G at eq;have hlen:=w.len;have hrl:(rowW cs).length=cs.length:=by simp[rowW]
  unfold dat;have e0:=eq _ (show inA (rowW cs) 0<4*n by have:=zDW w.tw (k:=0) (by lia);lia);rw[e0]
  congr 1;refine qAs fun k hk=>?_
  have hx:=(sos_mem _ cs).mp (zAN (d:=0) (zDK k hk));have hi:(ords cs).idxOf ((sosL cs).getD k 0)<n:=by rw[<- w.ol];exact qAf ((ords_mem cs _).mpr hx)
  unfold yF;rw[eq _ (by lia),eq _ (by lia)]
theorem zNT{n q:Nat}{cs c:List Nat}{R:List (List Nat)}{hd:Nat->Nat}(w:Wd n cs)(h2:∀x∈cs,cs.count x=2)(n1:1<=n)(hc:c.length=n)(hw:∀x∈c,x<3)(hsl:(sosL cs).length=n)
  (hlC:(cbW c (sosL cs) (ords cs)).length=n) (hwC:∀x∈cbW c (sosL cs) (ords cs),x<3) (H:Hds (tsW n (rowW cs)) (cbW c (sosL cs) (ords cs)) n R hd)
  (hq:cnt (kept (sosL cs).length (numL c)).length (KerF (kept (sosL cs).length (numL c)).length (cpF (sosL cs).length (numL c) (crsT cs (sosL cs))))=2 ^ q):R.length=q+1:=by
 have h:=zQC w h2 n1 hc hw hsl hlC hwC H;rw[hq,qFq,<- qIt]at h;exact za5 h
def zaL(k:Int){m:Nat}(hm:0<m):modD (.int k) (.int (m:Int))=some (.int (k%(m:Int))):=by simp[hm]
def zQN(ns:List Int)(k:Int)(h0:0<=k)(h1:k<100000):∃c:Int,zCT [.scr ns,.int k]=okR (.int c):=by
 have m1:mulD (.int 104729) (.int (k+1))=some (.int (104729*(k+1))):=zQM (by lia) (by lia);have m2:∀z:Int,mulD (.int z) (.int 48271)=some (.int (z*48271)):=fun z=>zWL (by decide) (by decide)
 have m3:∀z:Int,mulD (.int z) (.int 69621)=some (.int (z*69621)):=fun z=>zWL (by decide) (by decide)
 have d1:∀z:Int,modD (.int z) (.int 2147483629)=some (.int (z%2147483629)):=fun z=>by simp
 have d2:∀z:Int,modD (.int z) (.int 2147483647)=some (.int (z%2147483647)):=fun z=>by simp
 have go:∀z:Int,∃c:Int,sSeq (sSet 3 0 [2,1] (eB modD (eB mulD (eB addD (eB modD (eV 2) (eC (.int 2147483629))) (eB mulD (eC (.int 104729)) (eB addD (eV 1) (eC (.int 1))))) (eC (.int 48271))) (eC (.int 2147483647)))) (sRet 0 0 [3] (eB modD (eB mulD (eV 3) (eC (.int 69621))) (eC (.int 2147483629)))) [some (.scr ns,0),some (.int k,0),some (.int z,0),none]=okR (.rt (.int c)):=fun z=>
  ⟨_,sg (b2 (b2 (b2 (b2 rfl rfl (d1 z)) (b2 rfl (b2 rfl rfl rfl) m1) rfl) rfl (m2 _)) rfl (d2 _)) (qAa 0) (sr (b2 (b2 rfl rfl (m3 _)) rfl (d1 _)) ⟨qAa 0,qAa 0⟩)⟩
 suffices h:∃c:Int,zCW [some (.scr ns,0),some (.int k,0),none,none]=okR (.rt (.int c)) from h.imp fun c h=>zB6 rfl h
 unfold zCW;by_cases hk:0<ns.length
 ·have hk':(0:Int)<(ns.length:Int):=qG5.mpr hk;have i1:=zaY (qDv k (Int.ne_of_gt hk')) (qD2 k hk');have d3:=zaL k hk;obtain⟨c,hc⟩:=go (ns[(k%(ns.length:Int)).toNat]?.getD 0);refine⟨c,sg rfl (qAa 0) (st (r':=[some (.scr ns,0),some (.int k,0),some (.int (ns[(k%(ns.length:Int)).toNat]?.getD 0),0),none]) (tb1 (b2 (bi1 rfl rfl) rfl (tl rfl (decide_eq_true hk')))) (ss (b2 rfl (b2 rfl (bi1 rfl rfl) d3) ?_) (qAa 0)) hc)⟩
  show(itA ns _).map _=_;rw[i1];rfl
 ·have hk':¬(0:Int)<(ns.length:Int):=fun z=>hk (qG5.mp z)
  obtain⟨c,hc⟩:=go 0;exact⟨c,sg rfl (qAa 0) (sp (tb1 (b2 (bi1 rfl rfl) rfl (tl rfl (decide_eq_false hk')))) hc)⟩
def zfY{r:Ro}{j i l:Nat}{e:EM}(h:r[i]?=some (some (.lst ds,l+1)))(he:e (full r)=okR (.int z))(h0:0<=z)(h1:z<ds.length)(hc:ds[z.toNat]?=some c)(hij:i≠j)(hz:ds.length<=1000) :
  sPop j i e r=okR (.nx ((r.set i (some (.lst (ds.eraseIdx z.toNat),l+1))).set j (some (c,l)))):=by
 unfold sPop;rw[h];dsimp only;rw[he,zA0];dsimp only;rw[zMK h0 h1];dsimp only;rw[hc];dsimp only;rw[if_pos ⟨hij,by lia⟩]
def zK8{α:Type}:∀(l:List α){i:Nat}(h:i<l.length),l.Perm (l[i]::l.eraseIdx i)
 |a::r,0,h=>by simp
 |a::r,i+1,h=>by
  have:=zK8 r (i:=i) (by simpa using h)
  simp only[qDz,qBw];exact(this.cons a).trans (qEx _ _ _)
abbrev abcL:List Nat:=(qA4 26).map (97 + ·)
def zR8:abcL.Nodup:=by decide
def zT1:listXD [.str "abcdefghijklmnopqrstuvwxyz"]=some (.lst (abcL.map sgn)):=by
 rw[zbX];show(@ite _ ((⟨abcL.toArray⟩:Str).length<=100000) (qA6 _) (some (Dt.lst (signsD ⟨abcL.toArray⟩))) none)=_;rw[if_pos (by rw[zHZ];decide)];rfl
def zRA(M:Nat)(M1:1<=M)(M2:M<=10)(N:Int):∃cs ls:List Nat,zD4 [.int N,.int (M:Int)]=okR (.str ⟨cs.toArray⟩)/\cs.Perm (ls++ls)/\ls.Nodup/\1<=ls.length/\ls.length<=M:=by
 have e0:(qJm "")=⟨([]:List Nat).toArray⟩:=zRM zII;have z0:=qDv N (show(M:Int)≠0 by lia);have z1:=qD2 N (show(0:Int)<(M:Int) by lia);obtain⟨n,hn⟩:∃n:Nat,1+N%(M:Int)=(n:Int):=⟨(1+N%(M:Int)).toNat,by lia⟩
 have hn1:1<=n:=by lia
 have hn2:n<=M:=by lia
 have hla:=zT1;have key:∃cs ls:List Nat,(cs.Perm (ls++ls)/\ls.Nodup/\ls.length=n)/\zD5 [some (.int N,0),some (.int (M:Int),0),none,none,none,none,none,none,none]=okR (.rt (.str ⟨cs.toArray⟩)):=by
  have L1:nxR (forGo (.one 6) (sSeq (sPop 7 4 (eB modD (eV 3) (eBi lenD (aCons (eV 4) aNil)))) (sSeq (sSet 3 0 [3,4] (eB divD (eV 3) (eB addD (eBi lenD (aCons (eV 4) aNil)) (eC (.int 1))))) (sExt 5 0 (eLst (aCons (eV 7) (aCons (eV 7) aNil)))))) (nums 0 n) [some (.int N,0),some (.int (M:Int),0),some (.int (n:Int),1),some (.int (N/(M:Int)),0),some (.lst (abcL.map sgn),1),some (.lst [],9),none,none,none]) fun r=>∃(w:Int)(ls lf ps:List Nat)(o6 o7:Option Sl),r=[some (.int N,0),some (.int (M:Int),0),some (.int (n:Int),1),some (.int w,0),some (.lst (lf.map sgn),1),some (.lst (ps.map sgn),9),o6,o7,none]/\ps.Perm (ls++ls)/\(ls++lf).Perm abcL/\ls.length=n:=by
   refine zQK (fun i r=>∃(w:Int)(ls lf ps:List Nat)(o6 o7:Option Sl),r=[some (.int N,0),some (.int (M:Int),0),some (.int (n:Int),1),some (.int w,0),some (.lst (lf.map sgn),1),some (.lst (ps.map sgn),9),o6,o7,none]/\ps.Perm (ls++ls)/\(ls++lf).Perm abcL/\ls.length=i) ⟨_,[],abcL,[],_,_,rfl,by simp,by simp,rfl⟩ (fun i hi r hr=>?_) fun r h=>h
   obtain⟨w,ls,lf,ps,o6,o7,rfl,hps,hlf,hll⟩:=hr;have hpl:=hps.length_eq;have hfl:=hlf.length_eq;simp only[qAo,qAe,qDa]at hpl hfl;obtain⟨q,hq⟩:∃q:Nat,w%(lf.length:Int)=(q:Int):=⟨(w%(lf.length:Int)).toNat,by have:=qDv w (show(lf.length:Int)≠0 by lia);lia⟩
   have hql:q<lf.length:=by have:=qD2 w (show(0:Int)<lf.length by lia);lia
   have hlen:lenD [.lst (lf.map sgn)]=some (.int (lf.length:Int)):=by simp
   have hp:(0:Int)<(lf.length:Int):=by lia
   have hpop:=zfY (r:=[some (.int N,0),some (.int (M:Int),0),some (.int (n:Int),1),some (.int w,0),some (.lst (lf.map sgn),1),some (.lst (ps.map sgn),9),some (.int (i:Nat),0),o7,none]) (j:=7) (i:=4) (l:=0) (e:=eB modD (eV 3) (eBi lenD (aCons (eV 4) aNil))) (z:=(q:Int)) (ds:=lf.map sgn) (c:=sgn lf[q]) rfl (by
    generalize Dt.lst (lf.map sgn)=LF at hlen ⊢;generalize Dt.lst (ps.map sgn)=PS;generalize(lf.length:Int)=K at hlen hp hq ⊢;simp[hlen,hp,hq]) (by lia) (by simp;lia) (by rw[qBd,qAb,qA1 hql];rfl) (by decide) (by simp;lia)
   rw[qBd,<- zHX]at hpop;refine zD7 fun bb hb=>?_
   refine zAQ (r:=[some (.int N,0),some (.int (M:Int),0),some (.int (n:Int),1),some (.int w,0),some (.lst ((lf.eraseIdx q).map sgn),1),some (.lst (ps.map sgn),9),some (.int (i:Nat),0),some (sgn lf[q],0),none]) hpop ?_;subst hb;have hel:(lf.eraseIdx q).length=lf.length-1:=qC0 hql;have hlen2:lenD [.lst ((lf.eraseIdx q).map sgn)]=some (.int ((lf.eraseIdx q).length:Int)):=by simp
   have hdiv:divD (.int w) (.int (((lf.eraseIdx q).length:Int)+1))=some (.int (w/(((lf.eraseIdx q).length:Int)+1))):=by
    simp only[zV9];rw[if_pos];lia
   refine zD7 fun bb hb=>?_
   refine zAQ (r:=[some (.int N,0),some (.int (M:Int),0),some (.int (n:Int),1),some (.int (w/(((lf.eraseIdx q).length:Int)+1)),0),some (.lst ((lf.eraseIdx q).map sgn),1),some (.lst (ps.map sgn),9),some (.int (i:Nat),0),some (sgn lf[q],0),none]) (by
    generalize Dt.lst ((lf.eraseIdx q).map sgn)=LF at hlen2 ⊢;generalize Dt.lst (ps.map sgn)=PS;generalize((lf.eraseIdx q).length:Int)=K at hlen2 hdiv ⊢;generalize sgn lf[q]=S;simp[hlen2,hdiv,-zV9]) ?_
   subst hb;refine zAQ (r:=[some (.int N,0),some (.int (M:Int),0),some (.int (n:Int),1),some (.int (w/(((lf.eraseIdx q).length:Int)+1)),0),some (.lst ((lf.eraseIdx q).map sgn),1),some (.lst ((ps++[lf[q],lf[q]]).map sgn),9),some (.int (i:Nat),0),some (sgn lf[q],0),none]) (by
    rw[zc8 (n:=0) (ds:=ps.map sgn) (es:=[sgn lf[q],sgn lf[q]]) (k:=8) rfl (by simp) (by simp;lia) (qAa _) (qAn _)]
    simp) ⟨_,ls++[lf[q]],lf.eraseIdx q,ps++[lf[q],lf[q]],_,_,rfl,?_,?_,by simp;lia⟩
   ·generalize lf[q]=x
    refine(List.Perm.append_right _ hps).trans ?_;have e1:ls++ls++[x,x]=ls++(ls++[x,x]):=by simp
    have e2:ls++[x]++(ls++[x])=ls++([x]++(ls++[x])):=by simp
    rw[e1,e2];refine qD7 _ ?_;have e3:ls++[x,x]=ls++x::[x]:=rfl;rw[e3];refine List.perm_middle.trans ?_;simp
   ·rw[qC2];refine(qD7 _ ?_).trans hlf;exact(zK8 lf hql).symm
  obtain⟨r1,g1,w,ls,lf,ps,o6,o7,rfl,hps,hlf,hll⟩:=zC4 L1;have hpl:=hps.length_eq;simp only[qAo]at hpl;have hnd:ls.Nodup:=(qD9.mp (hlf.nodup_iff.mpr zR8)).1;have L2:nxR (forGo (.one 6) (sSeq (sAddPop 8 5 (eB modD (eV 3) (eBi lenD (aCons (eV 5) aNil)))) (sSet 3 0 [3,5] (eB divD (eV 3) (eB addD (eBi lenD (aCons (eV 5) aNil)) (eC (.int 1)))))) (nums 0 (2*n)) [some (.int N,0),some (.int (M:Int),0),some (.int (n:Int),1),some (.int w,0),some (.lst (lf.map sgn),1),some (.lst (ps.map sgn),9),o6,o7,some (.str ⟨([]:List Nat).toArray⟩,0)]) fun r=>∃(w:Int)(ws:List Nat)(o5 o6:Option Sl),r=[some (.int N,0),some (.int (M:Int),0),some (.int (n:Int),1),some (.int w,0),some (.lst (lf.map sgn),1),o5,o6,o7,some (.str ⟨ws.toArray⟩,0)]/\ws.Perm ps:=by
   refine zQK (fun i r=>∃(w:Int)(o6:Option Sl)(qs ws:List Nat),r=[some (.int N,0),some (.int (M:Int),0),some (.int (n:Int),1),some (.int w,0),some (.lst (lf.map sgn),1),some (.lst (qs.map sgn),9),o6,o7,some (.str ⟨ws.toArray⟩,0)]/\(ws++qs).Perm ps/\qs.length+i=2*n) ⟨w,o6,ps,[],rfl,by simp,by lia⟩ (fun i hi r hr=>?_) fun r hr=>?_
   ·obtain⟨w,o6,qs,ws,rfl,hw,hq⟩:=hr;have hwl:=hw.length_eq;simp only[qAo]at hwl;obtain⟨q,hqe⟩:∃q:Nat,w%(qs.length:Int)=(q:Int):=⟨(w%(qs.length:Int)).toNat,by have:=qDv w (show(qs.length:Int)≠0 by lia);lia⟩
    have hql:q<qs.length:=by have:=qD2 w (show(0:Int)<qs.length by lia);lia
    have hlen:lenD [.lst (qs.map sgn)]=some (.int (qs.length:Int)):=by simp
    have hp:(0:Int)<(qs.length:Int):=by lia
    have hel:(qs.eraseIdx q).length=qs.length-1:=qC0 hql;refine zD7 fun bb hb=>?_
    refine zAQ (r:=[some (.int N,0),some (.int (M:Int),0),some (.int (n:Int),1),some (.int w,0),some (.lst (lf.map sgn),1),some (.lst ((qs.eraseIdx q).map sgn),9),some (.int (i:Nat),0),o7,some (.str ⟨(ws++[qs[q]]).toArray⟩,0)]) (by
     show(sAddPop 8 5 (eB modD (eV 3) (eBi lenD (aCons (eV 5) aNil)))) [some (.int N,0),some (.int (M:Int),0),some (.int (n:Int),1),some (.int w,0),some (.lst (lf.map sgn),1),some (.lst (qs.map sgn),9),some (.int (i:Nat),0),o7,some (.str ⟨ws.toArray⟩,0)]=_;rw[zV6 (ds:=qs.map sgn) (k:=8) (q:=q) (z:=⟨ws.toArray⟩) (u:=⟨#[qs[q]]⟩) (l0:=0) rfl rfl (by
       generalize Dt.lst (qs.map sgn)=QS at hlen ⊢;generalize Dt.lst (lf.map sgn)=LF;generalize(qs.length:Int)=M at hlen hp hqe ⊢;simp[hlen,hp,hqe]) (by rw[qAb,qA1 hql];rfl) (by decide) (by simp;lia) (by
       rw[zHZ];show ws.length+1<=_;lia)]
     have ez:(⟨ws.toArray⟩:Str)++⟨#[qs[q]]⟩=⟨(ws++[qs[q]]).toArray⟩:=by
      show(⟨ws.toArray++#[qs[q]]⟩:Str)=_;simp
     rw[ez,zHX];rfl) ?_
    subst hb;have hlen2:lenD [.lst ((qs.eraseIdx q).map sgn)]=some (.int ((qs.eraseIdx q).length:Int)):=by simp
    have hdiv:divD (.int w) (.int (((qs.eraseIdx q).length:Int)+1))=some (.int (w/(((qs.eraseIdx q).length:Int)+1))):=by
     simp only[zV9];rw[if_pos];lia
    refine zAQ (r:=[some (.int N,0),some (.int (M:Int),0),some (.int (n:Int),1),some (.int (w/(((qs.eraseIdx q).length:Int)+1)),0),some (.lst (lf.map sgn),1),some (.lst ((qs.eraseIdx q).map sgn),9),some (.int (i:Nat),0),o7,some (.str ⟨(ws++[qs[q]]).toArray⟩,0)]) (by
     generalize Dt.lst ((qs.eraseIdx q).map sgn)=QS at hlen2 ⊢;generalize Dt.lst (lf.map sgn)=LF;generalize((qs.eraseIdx q).length:Int)=M at hlen2 hdiv ⊢;generalize Dt.str ⟨(ws++[qs[q]]).toArray⟩=S;simp[hlen2,hdiv,-zV9]) ⟨_,_,_,_,rfl,?_,by lia⟩
    rw[qC2];refine(qD7 _ ?_).trans hw;exact(zK8 qs hql).symm
   ·obtain⟨w,o6,qs,ws,rfl,hw,hq⟩:=hr
    have:qs=[]:=qDq.mp (by lia)
    subst this;exact⟨w,ws,_,_,rfl,by simpa using hw⟩
  obtain⟨r2,g2,w',ws,o5,o6',rfl,hws⟩:=zC4 L2;refine⟨ws,ls,⟨hws.trans hps,hnd,hll⟩,?_⟩;unfold zD5;have s1:sSet 2 1 [0,1] (eB addD (eC (.int 1)) (eB modD (eV 0) (eV 1))) [some (.int N,0),some (.int (M:Int),0),none,none,none,none,none,none,none]=okR (.nx [some (.int N,0),some (.int (M:Int),0),some (.int (n:Int),1),none,none,none,none,none,none]):=by
   exact ss (b2 rfl (b2 rfl rfl (mdi (by lia) rfl)) (adi hn)) (qAn 1)
  have s2:sSet 3 0 [0,1] (eB divD (eV 0) (eV 1)) [some (.int N,0),some (.int (M:Int),0),some (.int (n:Int),1),none,none,none,none,none,none]=okR (.nx [some (.int N,0),some (.int (M:Int),0),some (.int (n:Int),1),some (.int (N/(M:Int)),0),none,none,none,none,none]):=by
   exact ss (b2 rfl rfl (dvi ⟨by lia,by lia⟩)) (qAn 0)
  have dA:(Dt.lst (abcL.map sgn)).dep<=1:=by
   rw[Dt.dep,zeO (by intro d hd;obtain⟨l,_,rfl⟩:=qAi.mp hd;rfl)]
   lia
  have s3:sSet 4 1 [] (eBi listXD (aCons (eC (.str "abcdefghijklmnopqrstuvwxyz")) aNil)) [some (.int N,0),some (.int (M:Int),0),some (.int (n:Int),1),some (.int (N/(M:Int)),0),none,none,none,none,none]=okR (.nx [some (.int N,0),some (.int (M:Int),0),some (.int (n:Int),1),some (.int (N/(M:Int)),0),some (.lst (abcL.map sgn),1),none,none,none,none]):=by
   generalize Dt.lst (abcL.map sgn)=AB at hla dA ⊢;generalize Dt.str "abcdefghijklmnopqrstuvwxyz" = Z at hla ⊢;simp[hla,dA]
  have s4:sSet 5 9 [] (eLst aNil) [some (.int N,0),some (.int (M:Int),0),some (.int (n:Int),1),some (.int (N/(M:Int)),0),some (.lst (abcL.map sgn),1),none,none,none,none]=okR (.nx [some (.int N,0),some (.int (M:Int),0),some (.int (n:Int),1),some (.int (N/(M:Int)),0),some (.lst (abcL.map sgn),1),some (.lst [],9),none,none,none]):=by
   generalize Dt.lst (abcL.map sgn)=AB;simp
  have s6:sSet 8 0 [] (eC (.str "")) [some (.int N,0),some (.int (M:Int),0),some (.int (n:Int),1),some (.int w,0),some (.lst (lf.map sgn),1),some (.lst (ps.map sgn),9),o6,o7,none]=okR (.nx [some (.int N,0),some (.int (M:Int),0),some (.int (n:Int),1),some (.int w,0),some (.lst (lf.map sgn),1),some (.lst (ps.map sgn),9),o6,o7,some (.str ⟨([]:List Nat).toArray⟩,0)]):=by
   rw[e0];generalize Dt.lst (lf.map sgn)=LF;generalize Dt.lst (ps.map sgn)=PS;simp
  have i1:iR1 (aCons (eV 2) aNil) (full [some (.int N,0),some (.int (M:Int),0),some (.int (n:Int),1),some (.int (N/(M:Int)),0),some (.lst (abcL.map sgn),1),some (.lst [],9),none,none,none])=okR (nums 0 n):=zFT (n:=n) (by
   generalize Dt.lst (abcL.map sgn)=AB;simp) (by lia)
  have i2:iR1 (aCons (eB mulD (eC (.int 2)) (eV 2)) aNil) (full [some (.int N,0),some (.int (M:Int),0),some (.int (n:Int),1),some (.int w,0),some (.lst (lf.map sgn),1),some (.lst (ps.map sgn),9),o6,o7,some (.str ⟨([]:List Nat).toArray⟩,0)])=okR (nums 0 (2*n)):=zFT (n:=2*n) (by
   have m2:mulD (.int 2) (.int (n:Int))=some (.int ((2*n:Nat):Int)):=by rw[zQM (by lia) (by lia)];congr 2
   generalize Dt.lst (lf.map sgn)=LF;generalize Dt.lst (ps.map sgn)=PS;generalize((2*n:Nat):Int)=M at m2 ⊢;generalize(n:Int)=K at m2 ⊢;simp[m2,-zZJ]) (by lia)
  rw[zDP,s1,zA0];dsimp only;rw[zDP,s2,zA0];dsimp only;rw[zDP,s3,zA0];dsimp only;rw[zDP,s4,zA0];dsimp only;rw[zDP,zFS,i1,zA0,g1,zA0];dsimp only;rw[zDP,s6,zA0];dsimp only;rw[zDP,zFS,i2,zA0,g2,zA0];rfl
 obtain⟨cs,ls,⟨h1,h2,h3⟩,h4⟩:=key;exact⟨cs,ls,zB6 rfl h4,h1,h2,by lia,by lia⟩
def cn2{m:FM}{e1 e2:EM}(h1:e1 ρ=okR d1)(h2:e2 ρ=okR d2)(h:m [d1,d2]=okR d):eCallN m (aCons e1 (aCons e2 aNil)) ρ=okR d:=by
 unfold eCallN;rw[zB8,h1,zA0,zB8,h2,zA0,zCM,zA0,zA0,zA0,h];rfl
def cn3{m:FM}{e1 e2 e3:EM}(h1:e1 ρ=okR d1)(h2:e2 ρ=okR d2)(h3:e3 ρ=okR d3)(h:m [d1,d2,d3]=okR d):eCallN m (aCons e1 (aCons e2 (aCons e3 aNil))) ρ=okR d:=by
 unfold eCallN;rw[zB8,h1,zA0,zB8,h2,zA0,zB8,h3,zA0,zCM,zA0,zA0,zA0,zA0,h];rfl
def zLS:∀l:List Nat,Dt.depL (l.map sgn)=0
 |[]=>rfl
 |a::l=>by rw[qAd,Dt.depL,zLS l];rfl
def zaR(l:List Nat)(x:Nat):lcoD (l.map sgn) [sgn x]=some (.int (l.count x:Nat)):=by
 show(if(sgn x).dep=0/\Dt.depL (l.map sgn)=0 then some (Dt.int ((l.map sgn).countP fun y=>Dt.eq y (sgn x):Nat))else none)=_
 rw[if_pos ⟨rfl,zLS l⟩,qG3,qG9];congr 3;refine qE6 fun y _=>?_
 show Dt.eq (sgn y) (sgn x)=true↔(y==x)=true;rw[zbC];simp
def knw(c:List Nat):List Nat:=(qA4 c.length).filter fun k=>decide (c.getD k 0≠0)
def plc(O es:List Nat):List Nat:=es.map fun e=>O.getD (e/4) 0
def onc(c ls O es:List Nat):List Nat:=(qA4 (knw c).length).filter fun i=>decide ((plc O es).count (ls.getD ((knw c).getD i 0) 0)=2)
def zN2(c:List Nat)(hz:c.length<=1000):zAW [rowD (numL c)]=okR (rowD (numL (knw c))):=by
 have hl:lenD [rowD (numL c)]=some (.int (c.length:Int)):=by unfold rowD;simp[numL]
 have hc:=zC6 (ρ:=[some (rowD (numL c))]) (c:=tB (eB neD (eB ixD (eV 0) (eV 1)) (eC (.int 0)))) (e:=eV 1) (i:=1) (fun k:Nat=>Dt.int (k:Int)) (fun k:Nat=>Dt.int (k:Int)) (fun k:Nat=>decide (c.getD k 0≠0)) (qA4 c.length) rfl (fun k hk=>by
  have hk:k<c.length:=by simpa using hk
  refine nei (b2 rfl rfl (zTG c k hk)) rfl ?_;by_cases z:c.getD k 0=0
  ·rw[decide_eq_true (by lia),decide_eq_false (fun y=>y z)];rfl
  ·rw[decide_eq_false (by lia),decide_eq_true z];rfl) (fun k _ _=>rfl) (iR1 (aCons (eBi lenD (aCons (eV 0) aNil)) aNil)) (by rw[zFT (n:=c.length) (al0 (bi1 rfl hl)) (by lia),zFE]) (by simp;lia)
 have hc2:eComp (iR1 (aCons (eBi lenD (aCons (eV 0) aNil)) aNil)) 1 (.one 1) (tB (eB neD (eB ixD (eV 0) (eV 1)) (eC (.int 0)))) (eV 1) [some (rowD (numL c))]=okR (rowD (numL (knw c))):=by
  rw[hc,numD];rfl
 exact zB6 rfl (rt1 hc2 hc2)
def zNX{O:List Nat}{n i j k:Nat}{ρ:Rh}(hO:ρ[j]?=some (some F))(hE:ρ[k]?=some (some (rowD (numL es))))(hi:i=ρ.length)(hF:∀p,p<n->ixD F (.int (p:Int))=some (sgn (O.getD p 0)))(he:∀e∈es,e<4*n)(hz:es.length<=1000)(hj:j<ρ.length)(hk:k<ρ.length) :
  eComp (iSq (eV k)) 1 (.one i) Mi.tYes (eB ixD (eV j) (eB divD (eV i) (eC (.int 4)))) ρ=okR (.lst ((plc O es).map sgn)):=by
 have:=zB1 (ρ:=ρ) (c:=tYes) (i:=i) (e:=eB ixD (eV j) (eB divD (eV i) (eC (.int 4)))) (fun e:Nat=>Dt.int (e:Int)) (fun e:Nat=>sgn (O.getD (e/4) 0)) es rfl hi (fun e hm=>?_) (iSq (eV k)) ?_ (by lia)
 ·rw[this];unfold plc;rw[qAx];rfl
 ·have h4:=hF (e/4) (by have:=he e hm;lia);have g1:(ρ++[some (Dt.int (e:Int))])[j]?=some (some F):=by rw[qA9 hj];exact hO
  have g2:(ρ++[some (Dt.int (e:Int))])[i]?=some (some (Dt.int (e:Int))):=by rw[hi,qA7 (qAa _)];simp
  exact b2 (v1 g1) (b2 (v1 g2) rfl (dvi (by decide))) h4
 ·rw[zZH,v1 hE,zA0,numD]
def zSO{ls:List Nat}{ρ:Rh}{i j k:Nat}(hP:ρ[k]?=some (some (.lst ((plc O es).map sgn))))(hi:i=ρ.length)(hj:j=ρ.length+1)(hk:k<ρ.length){it:IM}{e:EM}(xs:List Dt)(hxl:xs.length=(knw c).length)(hit:it ρ=okR (enumD 0 xs))
  (he:∀q x,xs[q]?=some x->e (ρ++[some (.int (q:Nat)),some x])=okR (sgn (ls.getD ((knw c).getD q 0) 0))) (hz:(knw c).length<=1000) :
  eComp it 2 (.tup [i,j]) (tB (eB eqD (eMl lcoD (eV k) (aCons e aNil)) (eC (.int 2)))) (eV i) ρ=okR (rowD (numL (onc c ls O es))):=by
 have:=zIJ (ρ:=ρ) (c:=tB (eB eqD (eMl lcoD (eV k) (aCons e aNil)) (eC (.int 2)))) (e:=eV i) (i:=i) (j:=j) xs (fun q=>Dt.int (q:Int)) (fun q=>decide ((plc O es).count (ls.getD ((knw c).getD q 0) 0)=2)) hi hj it hit (by lia) (fun q x hx=>?_) (fun q x hx=>?_)
 ·rw[this,hxl,numD];rfl
 ·have g1:(ρ++[some (Dt.int (q:Nat)),some x])[k]?=some (some (.lst ((plc O es).map sgn))):=by rw[qA9 hk];exact hP
  refine eqi (ml1 (v1 g1) (he q x hx) (zaR _ _)) rfl ?_;exact decide_eq_decide.mpr ⟨fun h=>by lia,fun h=>by lia⟩
 ·exact v1 (by rw[hi,qA7 (qAa _)];simp)
def zPD(ns:List Int)(k:Nat)(hk:k<100):∃N:Int,zCH [.scr ns,.int (k:Int)]=okR (.int N):=by
 suffices h:eiR (zDO [some (.scr ns,0),some (.int (k:Int),0),none,none]) (fun _=>False) (fun d=>∃N:Int,d=.int N) by
  rcases h with⟨_,_,z⟩|⟨d,h1,N,rfl⟩
  ·exact z.elim
  ·exact⟨N,zB6 rfl h1⟩
 have pw:powD (.int 10) (.int 60)=some (.int 1000000000000000000000000000000000000000000000000000000000000):=by simp
 unfold zDO;refine zJB (P:=fun r=>r=[some (.scr ns,0),some (.int (k:Int),0),some (.int 0,0),none]) (zTY (zAQ (ss rfl (qAa 0)) rfl)) ?_
 rintro r rfl
 refine zJB (P:=fun r=>r=[some (.scr ns,0),some (.int (k:Int),0),some (.int 0,0),none]) ?_ ?_
 ·cases ns with
  |nil=>exact .inl ⟨_,by rw[zIR,ta0 (tb1 (k:=false) (b2 (bi1 rfl rfl) rfl rfl)),zA0,if_neg (by simp)];rfl,rfl⟩
  |cons a t=>
   have i1:ixD (.scr (a::t)) (.int 0)=some (.int a):=by
    show(itA (a::t) 0).map _=_;rw[show itA (a::t) 0=some a from zEN (j:=0) rfl rfl];rfl
   have hA:tB (eB (cmpD fun i j=>decide (j<i)) (eBi lenD (aCons (eV 0) aNil)) (eC (.int 0))) (full [some (.scr (a::t),0),some (.int (k:Int),0),some (.int 0,0),none])=okR true:=tb1 (b2 (bi1 rfl rfl) rfl (tl rfl (decide_eq_true (qG5.mpr (Nat.succ_pos _)))));have p2:mulD (.int 2) (.int 1000000000000000000000000000000000000000000000000000000000000)=some (.int 2000000000000000000000000000000000000000000000000000000000000):=by rw[zQM (by decide) (by decide)];rfl
   have hm2:modD (.int a) (.int 2)=some (.int (a%2)):=by simp
   by_cases hp:a%2=1
   ·have hB:tB (eB eqD (eB modD (eB ixD (eV 0) (eC (.int 0))) (eC (.int 2))) (eC (.int 1))) (full [some (.scr (a::t),0),some (.int (k:Int),0),some (.int 0,0),none])=okR true:=tb1 (b2 (b2 (b2 rfl rfl i1) rfl hm2) rfl (by simp[hp]));have hC:tB (eB (cmpD fun i j=>decide (i<j)) (eV 1) (eBi lenD (aCons (eV 0) aNil))) (full [some (.scr (a::t),0),some (.int (k:Int),0),some (.int 0,0),none])=okR (decide ((k:Int)<((a::t).length:Int))):=tb1 (b2 rfl (bi1 rfl rfl) rfl);have rv:∀z:Int,sRetV 1 2 [some (.scr (a::t),0),some (.int (k:Int),0),some (.int z,0),none]=okR (.rt (.int z)):=fun z=>by simp
    by_cases hl:k<(a::t).length
    ·obtain⟨c,hc⟩:∃c,itA (a::t) (k:Int)=some c:=⟨_,zEN (j:=k) rfl (qA1 hl)⟩
     have hc':ixD (.scr (a::t)) (.int (k:Int))=some (.int c):=by
      show(itA (a::t) (k:Int)).map _=_;rw[hc];rfl
     obtain⟨q,hq,hq1,hq2⟩:∃q:Int,subD (.int 2) (.int (if(1:Int)<(k:Int)then 1 else(k:Int)))=some (.int q)/\0<q/\q<1000000000000000000000000:=⟨2-(if(1:Int)<(k:Int)then 1 else(k:Int)),rfl,by split<;>lia,by split<;>lia⟩
     have d1:∀z:Int,divD (.int z) (.int q)=some (.int (z/q)):=fun z=>by simp[hq1,hq2]
     have d2:modD (.int c) (.int 2000000000000000000000000000000000000000000000000000000000000)=some (.int (c%2000000000000000000000000000000000000000000000000000000000000)):=by simp
     refine .inr ⟨.int (c%2000000000000000000000000000000000000000000000000000000000000/q),?_,_,rfl⟩;rw[zIR,ta1 hA hB,zA0,if_pos rfl];rw[decide_eq_true (qIu.mpr hl)]at hC;exact st (r':=[some (.scr (a::t),0),some (.int (k:Int),0),some (.int (c%2000000000000000000000000000000000000000000000000000000000000/q),0),none]) hC (ss (b2 (b2 (b2 rfl rfl hc') (b2 rfl (b2 rfl rfl pw) p2) d2) (b2 rfl (bi2 rfl rfl rfl) hq) (d1 _)) (qAa 0)) (rv _)
    ·refine .inr ⟨.int 0,?_,_,rfl⟩;rw[zIR,ta1 hA hB,zA0,if_pos rfl];rw[decide_eq_false fun z=>hl (qIu.mp z)]at hC;exact sp hC (rv 0)
   ·refine .inl ⟨_,?_,rfl⟩;have hB:tB (eB eqD (eB modD (eB ixD (eV 0) (eC (.int 0))) (eC (.int 2))) (eC (.int 1))) (full [some (.scr (a::t),0),some (.int (k:Int),0),some (.int 0,0),none])=okR false:=tb1 (b2 (b2 (b2 rfl rfl i1) rfl hm2) rfl (by simp[hp]));rw[zIR,ta1 hA hB,zA0,if_neg (by simp)];rfl
 rintro r rfl
 refine zJB (P:=fun r=>∃N:Int,∃l2 o3,r=[some (.scr ns,0),some (.int (k:Int),0),some (.int N,l2),o3]) (zTY ?_) ?_
 ·rw[zFS,show iR1 (aCons (eC (.int 7)) aNil) (full [some (.scr ns,0),some (.int (k:Int),0),some (.int 0,0),none])=okR (nums 0 7) from zFT (n:=7) (by simp) (by decide),zA0];refine zQK (fun _ r=>∃N:Int,∃l2 o3,r=[some (.scr ns,0),some (.int (k:Int),0),some (.int N,l2),o3]) ⟨0,0,none,rfl⟩ (fun j hj r hr=>?_) fun r h=>h
  obtain⟨N,l2,o3,rfl⟩:=hr;obtain⟨c,hc⟩:=zQN ns (7*(k:Int)+(j:Int)) (by lia) (by lia);have m2:mulD (.int N) (.int 2147483629)=some (.int (N*2147483629)):=zWL (by decide) (by decide);have m3:mulD (.int 7) (.int (k:Int))=some (.int (7*(k:Int))):=by rw[zQM (by decide) (by decide)]
  exact zAQ (ss (b2 (b2 rfl rfl m2) (c2 rfl (b2 (b2 rfl rfl m3) rfl rfl) hc) rfl) (qAn _)) ⟨_,_,_,rfl⟩
 rintro r ⟨N,l2,o3,rfl⟩
 have d3:modD (.int N) (.int 1000000000000000000000000000000000000000000000000000000000000)=some (.int (N%1000000000000000000000000000000000000000000000000000000000000)):=by simp
 exact .inr ⟨_,sr (b2 rfl (b2 rfl rfl pw) d3) ⟨qAn _,qAn _⟩,_,rfl⟩
def zSL{C:List Nat}{n:Nat}(hN:NetN ts (4*n))(hl:C.length=n)(hw:∀c∈C,c<3):∃(f:Nat->List Nat)(g:Nat->Nat),(∀e,e<4*n->f e=orb ts C e (g e)/\1<=g e/\g e<=4*n/\itr (stp ts C) (g e) e=e/\∀q,1<=q->q<g e->itr (stp ts C) q e≠e)/\∀k,(f k).length<=8*n:=by
 obtain⟨s1,s2⟩:=zH8 hN hl hw;have hg:∀e:Nat,∃p,e<4*n->1<=p/\p<=4*n/\itr (stp ts C) p e=e/\∀q,1<=q->q<p->itr (stp ts C) q e≠e:=fun e=>by
  by_cases he:e<4*n
  ·obtain⟨p,h⟩:=zR6 s1 s2 he;exact⟨p,fun _=>h⟩
  ·exact⟨0,fun z=>absurd z he⟩
 obtain⟨g,hg⟩:=qFc hg;have h1:∀e,e<4*n->(if e<4*n then orb ts C e (g e)else[])=orb ts C e (g e):=fun e he=>if_pos he
 refine⟨fun e=>if e<4*n then orb ts C e (g e)else[],g,fun e he=>⟨h1 e he,hg e he⟩,fun k=>?_⟩
 show(if k<4*n then orb ts C k (g k)else[]).length<=_
 by_cases z:k<4*n
 ·rw[h1 k z,zHQ]
  have:=(hg k z).2.1;lia
 ·rw[if_neg z];exact qAn _
section
variable{n:Nat}{cs c:List Nat}(w:Wd n cs)(n1:1<=n)(hn:n<=10)(hc:c.length=n)(hw:∀x∈c,x<3)(hsl:(sosL cs).length=n)
include w n1 hn hc hw hsl
theorem zf4:(cbW c (sosL cs) (ords cs)).length=n/\∀x∈cbW c (sosL cs) (ords cs),x<3:=by
 refine⟨?_,zf8 (ls:=sosL cs) (O:=ords cs) hw hc hsl fun x hx=>(sos_mem x cs).mpr ((ords_mem cs x).mp hx)⟩;unfold cbW;rw[qAe,w.ol]
end
def zcR(w:Wd n cs):(sosL cs).length=n:=by
 rw[<- w.ol];exact qEo (zBR _ _ (sos_nodup cs) fun x hx=>(ords_mem cs x).mpr ((sos_mem x cs).mp hx)) (zBR _ _ (ords_nodup cs) fun x hx=>(sos_mem x cs).mpr ((ords_mem cs x).mp hx))
def zU6(N:Int){b:Nat}(b1:1<=b)(b2':b<=10)(n:Nat)(hn:n<=1000):∃c:List Nat,c.length=n/\(∀x∈c,x<b)/\zDJ [.int N,.int (b:Int),.int (n:Int)]=okR (rowD (numL c)):=by
 suffices key:nxR (forGo (.one 4) (sSeq (sApp 3 0 (eB modD (eV 0) (eV 1))) (sSet 0 0 [0,1] (eB divD (eV 0) (eV 1)))) (nums 0 n) [some (.int N,0),some (.int (b:Int),0),some (.int (n:Int),0),some (rowD (numL []),9),none]) fun r=>∃(c:List Nat)(M:Int)(o:Option Sl),r=[some (.int M,0),some (.int (b:Int),0),some (.int (n:Int),0),some (rowD (numL c),9),o]/\c.length=n/\∀x∈c,x<b by
  obtain⟨r,h1,c,M,o,rfl,h2,h3⟩:=zC4 key;refine⟨c,h2,h3,zB6 rfl (sg el0 (by simp) ?_)⟩;rw[zDP,zFS,zFT (n:=n) (al0 rfl) (by lia),zA0];refine qHa (congrArg (fun z=>zA3 z _) h1) ?_;rfl
 refine zQK (fun k r=>∃(c:List Nat)(M:Int)(o:Option Sl),r=[some (.int M,0),some (.int (b:Int),0),some (.int (n:Int),0),some (rowD (numL c),9),o]/\c.length=k/\∀x∈c,x<b) ⟨[],N,none,rfl,rfl,fun x hx=>by cases hx⟩ (fun k hk r hr=>?_) fun r h=>h
 obtain⟨c,M,o,rfl,h2,h3⟩:=hr;obtain⟨d,hd⟩:∃d:Nat,M%(b:Int)=(d:Int):=⟨(M%(b:Int)).toNat,by have:=qDv M (show(b:Int)≠0 by lia);lia⟩
 have hdl:d<b:=by have:=qD2 M (show(0:Int)<b by lia);lia
 refine zD7 fun bb hb=>zAQ (zcA (ds:=(numL c).map Dt.int) (k:=8) (d:=.int (d:Int)) rfl (b2 rfl rfl (mdi (by lia) hd)) (by simp[numL];lia) (qAn _) (qAn _)) ?_
 subst hb;refine zAQ (ss (d:=.int (M/(b:Int))) (b2 rfl rfl (dvi ⟨by lia,by lia⟩)) (qAn 0)) ⟨c++[d],M/(b:Int),some (.int (k:Nat),0),?_,by simp[h2],fun x hx=>?_⟩
 ·have e:rowD (numL (c++[d]))=.lst ((numL c).map Dt.int++[.int (d:Int)]):=by
   unfold rowD numL;simp
  rw[e];rfl
 ·rcases qAr.mp hx with h|h
  ·exact h3 x h
  ·rw[qAu.mp h];exact hdl
def zUH{cs:List Nat}{c:List Int}(h0:0<cs.length)(hz:cs.length<=60)(h2:∀x∈cs,cs.count x=2)(hs:(sosL cs).length<=10)(hc:c.length=(sosL cs).length):zD3 [.str ⟨cs.toArray⟩,rowD c]=okR (mat (tab (kept (sosL cs).length c).length (cpF (sosL cs).length c (crsT cs (sosL cs))))):=by
 have g2:=zJ0 h0 hz h2 hs;have g3:=zOI (f:=crsT cs (sosL cs)) hs hc;have hd:=zG7 (tab (kept (sosL cs).length c).length (cpF (sosL cs).length c (crsT cs (sosL cs))));exact zB6 rfl (sr (cn2 (c1 rfl g2) rfl g3) ⟨hd,hd⟩)
def zbS(n:Nat)(c:List Int)(cs sl:List Nat):Bits (kept n c).length (cpF n c (crsT cs sl)):=fun i j _ _=>by
 unfold cpF dg;split
 ·by_cases z:c.getD ((kept n c).getD i 0) 0=1
  ·exact .inr (if_pos z)
  ·exact .inl (if_neg z)
 ·show crs cs _ _=0\/crs cs _ _=1;unfold crs
  split
  ·exact .inr rfl
  ·exact .inl rfl
theorem ze0{c:List Nat}{q:Nat}(h:q<(knw c).length):(knw c).getD q 0<c.length:=by
 have hm:(knw c).getD q 0∈(qA4 c.length).filter fun k=>decide (c.getD k 0≠0):=zAN (d:=0) h
 exact qBf.mp (qAm.mp hm).1
def ien{e:EM}(h:e ρ=okR (.lst xs)):iEn (aCons e aNil) ρ=okR (enumD 0 xs):=by
 unfold iEn;rw[al0 h,zA0]
def zX7{q:Nat}(h:((numL l).map Dt.int)[q]?=some x):q<l.length/\x=.int (l.getD q 0:Nat):=by
 obtain⟨hk,e⟩:=qA5.mp h;have hk:q<l.length:=by simpa[numL]using hk
 refine⟨hk,?_⟩;rw[<- e,qBq,qA0,qA1 hk];simp[numL]
section
variable{n:Nat}{cs c:List Nat}(w:Wd n cs)(n1:1<=n)(hn:n<=10)(hc:c.length=n)(hsl:(sosL cs).length=n)
include w n1 hn hc hsl
theorem ze1:(knw c).length<=10:=by
 have:=qBu (fun k=>decide (c.getD k 0≠0)) (qA4 c.length)
 rw[qDa]at this;have:(knw c).length<=c.length:=this;lia
theorem zIS{es:List Nat}(he:∀e∈es,e<4*n)(hz:es.length<=1000):zB2 [.str ⟨cs.toArray⟩,rowD (numL c),rowD (numL es)]=okR (rowD (numL (onc c (sosL cs) (ords cs) es))):=by
 have hlen:=w.len;have hk:=ze1 w n1 hn hc hsl;have hL:=zFI (cs:=cs) (by lia) (by lia);have hO:=zE4 cs (by lia);rw[zM2]at hO;have hch:=zN2 c (by lia);have H:∀ρ:Rh,ρ.length=6->ρ[1]?=some (some (rowD (numL c)))->ρ[3]?=some (some (.str ⟨(sosL cs).toArray⟩))->ρ[5]?=some (some (.lst ((plc (ords cs) es).map sgn)))->eComp (iEn (aCons (eCall zAW (aCons (eV 1) aNil)) aNil)) 2 (.tup [6,7]) (tB (eB eqD (eMl lcoD (eV 5) (aCons (eB ixD (eV 3) (eV 7)) aNil)) (eC (.int 2)))) (eV 6) ρ=okR (rowD (numL (onc c (sosL cs) (ords cs) es))):=fun ρ hl h1 h3 h5=>by
  refine zSO h5 (by lia) (by lia) (by lia) ((numL (knw c)).map Dt.int) (by simp[numL]) (ien (c1 (v1 h1) hch)) (fun q x hx=>?_) (by lia);obtain⟨hq,rfl⟩:=zX7 hx;have hlt:=ze0 hq;refine b2 (v1 ?_) (v1 ?_) (zTF (by lia) (by lia))
  ·rw[qA9 (by lia)];exact h3
  ·rw[qA7 (by lia),hl];rfl
 have hP:=fun ρ h4 h2 hl=>zNX (O:=ords cs) (es:=es) (n:=n) (i:=6) (j:=4) (k:=2) (ρ:=ρ) (F:=.str ⟨(ords cs).toArray⟩) h4 h2 hl (fun p hp=>zTF (by rw[w.ol];exact hp) (by rw[w.ol];lia)) he hz
 exact zB6 rfl (sg (c1 rfl hL) (qAn 0) (sg (c1 rfl hO) (qAn 0) (sg (hP _ rfl rfl rfl (show 4<6 by decide) (show 2<6 by decide)) (zVL _) (rt1 (H _ rfl rfl rfl rfl) (H _ rfl rfl rfl rfl)))))
theorem zJ1(hw:∀x∈c,x<3):zCS [.str ⟨cs.toArray⟩,rowD (numL c)]=okR (rowD (numL (cbW c (sosL cs) (ords cs)))):=by
 have hlen:=w.len;have hL:=zFI (cs:=cs) (by lia) (by lia);have hO:=zE4 cs (by lia);rw[zM2]at hO;have H:∀ρ:Rh,ρ.length=3->ρ[0]?=some (some (.str ⟨cs.toArray⟩))->ρ[1]?=some (some (rowD (numL c)))->ρ[2]?=some (some (.str ⟨(sosL cs).toArray⟩))->eComp (iSq (eCall zAP (aCons (eV 0) aNil))) 1 (.one 3) Mi.tYes (eB ixD (eV 1) (eMt findD (eV 2) (aCons (eV 3) aNil))) ρ=okR (rowD (numL (cbW c (sosL cs) (ords cs)))):=fun ρ hl h0 h1 h2=>by
  have:=zB1 (ρ:=ρ) (c:=tYes) (i:=3) (e:=eB ixD (eV 1) (eMt findD (eV 2) (aCons (eV 3) aNil))) sgn (fun x:Nat=>Dt.int ((c.getD ((sosL cs).idxOf x) 0:Nat):Int)) (ords cs) rfl (by lia) (fun x hx=>?_) (iSq (eCall zAP (aCons (eV 0) aNil))) ?_ (by rw[w.ol];lia)
  ·rw[this,numD];unfold cbW;rw[qAx];rfl
  ·have hm:=(sos_mem x cs).mpr ((ords_mem cs x).mp hx);have hi:=qAf hm;refine b2 (v1 ?_) (mt1 (v1 ?_) rfl (v1 ?_) (zFL hm)) (zTG c _ (by lia))
   ·rw[qA9 (by lia)];exact h1
   ·rw[qA9 (by lia)];exact h2
   ·rw[qA7 (by lia),hl];rfl
  ·rw[zZH,c1 (v1 h0) hO,zA0];rfl
 exact zB6 rfl (sg (c1 rfl hL) (qAn 0) (rt1 (H _ rfl rfl rfl rfl) (H _ rfl rfl rfl rfl)))
theorem zg8(h8:n<=8):zDG [.str ⟨cs.toArray⟩]=okR (rowD (numL (tsW n (rowW cs)))):=by
 have hlen:=w.len;have hrl:(rowW cs).length=2*n:=w.tw.len;have h:=zWJ w.ap (by lia) (by lia) (fun a h=>w.tw.le1 h) (fun a h=>w.tw.pos h) (by rw[w.od];simpa using h8);rw[w.wr]at h;rw[h,zcK w.tw];unfold zN;rw[show 2*(rowW cs).length=4*n by lia]
theorem zNZ{R:List (List Nat)}(hnet:zDG [.str ⟨cs.toArray⟩]=okR (rowD (numL (tsW n (rowW cs)))))(hcb:zCS [.str ⟨cs.toArray⟩,rowD (numL c)]=okR (rowD (numL (cbW c (sosL cs) (ords cs)))))
  (hro:zCQ [rowD (numL (tsW n (rowW cs))),rowD (numL (cbW c (sosL cs) (ords cs)))]=okR (rowsD R)) (hR:R.length<=1000) (he:∀l∈R,(∀e∈l,e<4*n)/\l.length<=1000) :
  zCF [.str ⟨cs.toArray⟩,rowD (numL c)]=okR (rowsD (R.map (onc c (sosL cs) (ords cs)))):=by
 have H:∀ρ:Rh,ρ.length=3->ρ[0]?=some (some (.str ⟨cs.toArray⟩))->ρ[1]?=some (some (rowD (numL c)))->ρ[2]?=some (some (rowsD R))->eComp (iSq (eV 2)) 1 (.one 3) Mi.tYes (eCallN zB2 (aCons (eV 0) (aCons (eV 1) (aCons (eV 3) aNil)))) ρ=okR (rowsD (R.map (onc c (sosL cs) (ords cs)))):=fun ρ hl h0 h1 h2=>by
  have:=zB1 (ρ:=ρ) (c:=tYes) (i:=3) (e:=eCallN zB2 (aCons (eV 0) (aCons (eV 1) (aCons (eV 3) aNil)))) (fun l:List Nat=>rowD (numL l)) (fun l:List Nat=>rowD (numL (onc c (sosL cs) (ords cs) l))) R rfl (by lia) (fun l hm=>?_) (iSq (eV 2)) ?_ (by lia)
  ·rw[this];unfold rowsD;rw[qAx];rfl
  ·refine cn3 (v1 ?_) (v1 ?_) (v1 ?_) (zIS w n1 hn hc hsl (he l hm).1 (he l hm).2)
   ·rw[qA9 (by lia)];exact h0
   ·rw[qA9 (by lia)];exact h1
   ·rw[qA7 (by lia),hl];rfl
  ·rw[zZH,v1 h2,zA0];rfl
 have d:=zHD (R.map (onc c (sosL cs) (ords cs)));refine zB6 rfl (zBG fun bb hb=>?_);have h:=cn2 (m:=zCQ) (e1:=eCall zDG (aCons (eV 0) aNil)) (e2:=eCallN zCS (aCons (eV 0) (aCons (eV 1) aNil))) (ρ:=[some (.str ⟨cs.toArray⟩),some (rowD (numL c)),none]) (c1 rfl hnet) (cn2 rfl rfl hcb) hro;refine zHB (d:=rowsD R) h h ?_ ?_
 ·subst hb;exact sr (H _ rfl rfl rfl rfl) ⟨d,d⟩
 ·subst hb;exact sr (H _ rfl rfl rfl rfl) ⟨d,d⟩
end
def inR(R:List (List Nat))(r e:Nat):Int:=if e∈R.getD r []then 1 else 0
def zOA(R:List (List Nat))(r e:Nat):Bit (inR R r e):=by
 unfold inR;split
 ·exact .inr rfl
 ·exact .inl rfl
def zDY[Decidable p][Decidable q](h:p↔q):(if p then(1:Int)else 0)=if q then 1 else 0:=by
 by_cases z:p
 ·rw[if_pos z,if_pos (h.mp z)]
 ·rw[if_neg z,if_neg fun y=>z (h.mpr y)]
section
variable{ts C:List Nat}{n:Nat}(hN:NetN ts (4*n))(hl:C.length=n)(hw:∀c∈C,c<3){R:List (List Nat)}{hd:Nat->Nat}(H:Hds ts C n R hd)
include hN hl hw H
theorem zI8{r:Nat}(hr:r<R.length):Cst ts C n (inR R r):=by
 refine⟨zOA R r,fun e he=>zDY ⟨fun h=>?_,fun h=>(H.cls r hr _ h).1⟩,fun e he=>zDY ⟨fun h=>?_,fun h=>(H.cls r hr _ h).2⟩⟩
 ·have:=(H.cls r hr _ h).1
  rw[hN.inv e he]at this;exact this
 ·have:=(H.cls r hr _ h).2
  rw[(zDR hl hw he).2]at this;exact this
theorem zTP{r s e:Nat}(hr:r<R.length)(hs:s<R.length)(h1:e∈R.getD r [])(h2:e∈R.getD s []):r=s:=by
 have key:∀{r s:Nat},r<R.length->s<R.length->e∈R.getD r []->e∈R.getD s []->¬r<s:=fun{r s} hr hs h1 h2 z=>by
  have:=H.same s hs e h2 _ (zI8 hN hl hw H hr);unfold inR at this;rw[if_pos h1,if_neg (H.fst s hs r z)]at this;exact absurd this (by decide)
 have a:=key hr hs h1 h2;have b:=key hs hr h2 h1;omega
theorem zTQ{r s:Nat}(hr:r<R.length)(hs:s<R.length):inR R r (hd s)=if r=s then 1 else 0:=
 zDY ⟨fun h=>zTP hN hl hw H hr hs h (H.mem s hs),fun h=>by rw[h];exact H.mem s hs⟩
end
def zJK(v:Nat):∀es:List Nat,es.countP (fun e=>decide (e/4=v))=es.count (4*v)+es.count (4*v+1)+es.count (4*v+2)+es.count (4*v+3)
 |[]=>rfl
 |e::es=>by
  have ih:=zJK v es;rw[qCa,ih,qCf,qCf,qCf,qCf];by_cases z:e/4=v
  ·have hs:e=4*v\/e=4*v+1\/e=4*v+2\/e=4*v+3:=by omega
   rcases hs with h|h|h|h<;>subst h<;>simp[z]<;>omega
  ·have h0:e≠4*v:=by omega
   have h1:e≠4*v+1:=by omega
   have h2:e≠4*v+2:=by omega
   have h3:e≠4*v+3:=by omega
   simp[z,h0,h1,h2,h3]
def zGX{es:List Nat}(h:es.Nodup)(e:Nat):(es.count e:Int)=if e∈es then 1 else 0:=by
 by_cases z:e∈es
 ·rw[if_pos z,h.count,if_pos z];rfl
 ·rw[if_neg z,qAp.mpr z];rfl
def zS7{O es:List Nat}{n x:Nat}(hO:O.Nodup)(ol:O.length=n)(hx:x∈O)(he:∀e∈es,e<4*n):(plc O es).count x=es.countP fun e=>decide (e/4=O.idxOf x):=by
 unfold plc;rw[qG9,qG3];refine qE6 fun e hm=>?_
 have hl:=he e hm;simp only[qIk,beq_iff_eq,decide_eq_true_eq];constructor
 ·intro h;rw[<- h,idx_getD hO (by omega)]
 ·intro h;rw[h,getD_idx hx]
def vR(cs c:List Nat)(R:List (List Nat))(r:Nat):List Int:=(kept (sosL cs).length (numL c)).map fun k=>yF cs (inR R r) ((sosL cs).getD k 0)
section
variable{n:Nat}{cs c:List Nat}(w:Wd n cs)(h2:∀x∈cs,cs.count x=2)(n1:1<=n)(hc:c.length=n)(hw:∀x∈c,x<3)(hsl:(sosL cs).length=n)
 (hlC:(cbW c (sosL cs) (ords cs)).length=n) (hwC:∀x∈cbW c (sosL cs) (ords cs),x<3) {R:List (List Nat)} {hd:Nat->Nat} (H:Hds (tsW n (rowW cs)) (cbW c (sosL cs) (ords cs)) n R hd)
def zXZ(r:Nat):RowN (kept (sosL cs).length (numL c)).length (vR cs c R r):=⟨by simp[vR],fun x hx=>by
 obtain⟨k,_,rfl⟩:=qAi.mp hx;exact zG8 _⟩
theorem zZL{r i:Nat}(hi:i<(kept (sosL cs).length (numL c)).length):(vR cs c R r).getD i 0=yF cs (inR R r) ((sosL cs).getD ((kept (sosL cs).length (numL c)).getD i 0) 0):=by
 unfold vR;rw[zGV (d:=0) hi]
include w h2 n1 hc hw hsl in
theorem zWU:knw c=kept (sosL cs).length (numL c):=by
 unfold knw kept;rw[hsl,hc];refine qCp fun k _=>?_
 rw[zD2];by_cases z:c.getD k 0=0
 ·rw[decide_eq_false (by omega),decide_eq_false (by omega)]
 ·rw[decide_eq_true z,decide_eq_true (by omega)]
include w h2 n1 hc hw hsl hlC hwC H
theorem zcE{r:Nat}(hr:r<R.length):KerF (kept (sosL cs).length (numL c)).length (cpF (sosL cs).length (numL c) (crsT cs (sosL cs))) (vR cs c R r):=
 (zUG w h2 n1 hc hw hsl (zI8 (zJ5 w.tw).1 hlC hwC H hr)).2
theorem zdW{r:Nat}(hr:r<R.length)(hnd:(R.getD r []).Nodup)(hlt:∀e∈R.getD r [],e<4*n):onc c (sosL cs) (ords cs) (R.getD r [])=(qA4 (kept (sosL cs).length (numL c)).length).filter fun i=>decide ((vR cs c R r).getD i 0=1):=by
 unfold onc;rw[zWU w h2 n1 hc hw hsl];refine qCp fun i hi=>?_
 have hi:=qBf.mp hi;have hkm:=zAN (d:=0) hi;obtain⟨hk1,hk2⟩:=mem_kept.mp hkm;rw[zZL hi];generalize(kept (sosL cs).length (numL c)).getD i 0=k at hk1 hk2;have hx:=(sos_mem _ cs).mp (zAN (d:=0) hk1);have hix:=idx_getD (sos_nodup cs) hk1;generalize(sosL cs).getD k 0=x at hx hix;have hcst:=zI8 (zJ5 w.tw).1 hlC hwC H hr;obtain⟨_,f1,f2,f3⟩:=zKS w h2 n1 hc hw hsl hcst hx;rw[zD2]at hk2;rw[hix]at f1 f2 f3;have hcnt:=zS7 (ords_nodup cs) w.ol ((ords_mem cs x).mpr hx) hlt;rw[zJK]at hcnt;have e0:=zGX hnd (4*(ords cs).idxOf x);have e1:=zGX hnd (4*(ords cs).idxOf x+1);have e2:=zGX hnd (4*(ords cs).idxOf x+2);have e3:=zGX hnd (4*(ords cs).idxOf x+3);have b0:=zOA R r (4*(ords cs).idxOf x);have b1:=zOA R r (4*(ords cs).idxOf x+1);unfold yF;have q:∀e,(if e∈R.getD r []then(1:Int)else 0)=inR R r e:=fun e=>rfl
 rw[q]at e0 e1 e2 e3;generalize inR R r (4*(ords cs).idxOf x)=F0 at *;generalize inR R r (4*(ords cs).idxOf x+1)=F1 at *;generalize inR R r (4*(ords cs).idxOf x+2)=F2 at *;generalize inR R r (4*(ords cs).idxOf x+3)=F3 at *;rw[hcnt];generalize(R.getD r []).count (4*(ords cs).idxOf x)=g0 at *;generalize(R.getD r []).count (4*(ords cs).idxOf x+1)=g1 at *;generalize(R.getD r []).count (4*(ords cs).idxOf x+2)=g2 at *;generalize(R.getD r []).count (4*(ords cs).idxOf x+3)=g3 at *;have key:F2+F3=F0+F1:=by
  by_cases z:c.getD k 0=1
  ·obtain⟨a,b⟩:=f1 z;omega
  ·obtain⟨a,b⟩:=f2 (by omega);omega
 have hb0:F0=0\/F0=1:=b0;have hb1:F1=0\/F1=1:=b1;by_cases z:(F0+F1)%2=1
 ·rw[decide_eq_true z,decide_eq_true (by omega)]
 ·rw[decide_eq_false z,decide_eq_false (by omega)]
end
def zRK{l:List Int}(h:l.Perm l'):l.sum=l'.sum:=by
 induction h with
 |nil=>rfl
 |cons x _ ih=>simp[ih]
 |swap x y l=>simp;omega
 |trans _ _ a b=>rw[a,b]
def lin(b:List Int)(V:List (List Int))(j:Nat):Int:=((b.zip V).map fun p=>p.1*p.2.getD j 0).sum
def Ind(m:Nat)(V:List (List Int)):Prop:=∀b:List Int,b.length=V.length->(∀j,j<m->lin b V j%2=0)->∀x∈b,x%2=0
def zW8{V:List (List Int)}(h:V.Perm W):∀c:List Int,c.length=W.length->∃b:List Int,b.length=V.length/\(b.zip V).Perm (c.zip W):=by
 induction h with
 |nil=>exact fun c hc=>⟨c,hc,qE7 _⟩
 |cons x _ ih=>
  intro c hc;cases c with
  |nil=>simp at hc
  |cons a c=>
   obtain⟨b,h1,h2⟩:=ih c (by simpa using hc);exact⟨a::b,by simp[h1],List.Perm.cons _ h2⟩
 |swap x y l=>
  intro c hc;cases c with
  |nil=>simp at hc
  |cons a c=>
   cases c with
   |nil=>simp at hc
   |cons b c=>exact⟨b::a::c,by simpa using hc,qEx _ _ _⟩
 |trans _ _ i1 i2=>
  intro c hc;obtain⟨b2,h1,h2⟩:=i2 c hc;obtain⟨b,h3,h4⟩:=i1 b2 h1;exact⟨b,h3,h4.trans h2⟩
def zX1{V:List (List Int)}(h:V.Perm W)(hi:Ind m V):Ind m W:=fun c hc hl x hx=>by
 obtain⟨b,h1,h2⟩:=zW8 h c hc;refine hi b h1 (fun j hj=>?_) x ?_
 ·have:lin b V j=lin c W j:=zRK (h2.map _)
  rw[this];exact hl j hj
 ·have e:=h2.map qIh;rw[qH9 (by omega),qH9 (by omega)]at e;exact e.mem_iff.mpr hx
def zaP{b1 b2:List Int}{A B:List (List Int)}(h:b1.length=A.length)(j:Nat):lin (b1++b2) (A++B) j=lin b1 A j+lin b2 B j:=by
 unfold lin;rw[List.zip_append h,qBl,qHk]
def zT2{m:Nat}{s:List Int}(hs:RowN m s){j:Nat}(hj:j<m):∀(b:List Int)(B:List (List Int)),b.length=B.length->(∀r∈B,RowN m r)->lin b (B.map fun r=>addB r s) j%2=(lin b B j+b.sum*s.getD j 0)%2
 |[],[],_,_=>by simp[lin]
 |a::b,r::B,h,hr=>by
  have ih:=zT2 hs hj b B (by simpa using h) fun r' h'=>hr r' (by simp[h'])
  have hrr:=hr r (by simp);have e1:lin (a::b) (r::B) j=a*r.getD j 0+lin b B j:=by simp[lin]
  have e2:lin (a::b) ((r::B).map fun r=>addB r s) j=a*(addB r s).getD j 0+lin b (B.map fun r=>addB r s) j:=by simp[lin]
  rw[e1,e2,zEE r s j (by rw[hrr.1,hs.1]) (by rw[hrr.1];exact hj),qD8,qIx];have q:(a*((r.getD j 0+s.getD j 0)%2))%2=(a*(r.getD j 0+s.getD j 0))%2:=by
   rw[qG6,qGe _ (by decide:(2:Int) ∣ 2),<- qG6]
  rw[qIy]at q;omega
 |[],_::_,h,_=>by simp at h
 |_::_,[],h,_=>by simp at h
def zX0{A B:List (List Int)}(hs:RowN m s)(hB:∀r∈B,RowN m r)(hi:Ind m (A++s::B)):Ind m (A++B.map fun r=>addB r s):=fun b hb hl x hx=>by
 rw[qAo,qAe]at hb;have e:b=b.take A.length++b.drop A.length:=(qCl _ _).symm;have l1:(b.take A.length).length=A.length:=by rw[qCg];omega
 have l2:(b.drop A.length).length=B.length:=by rw[qEf];omega
 generalize b.take A.length=b1 at e l1;generalize b.drop A.length=b2 at e l2;subst e;have:=hi (b1++b2.sum::b2) (by simp[l1,l2]) (fun j hj=>?_)
 ·rcases qAr.mp hx with h|h
  ·exact this x (qAr.mpr (.inl h))
  ·exact this x (qAr.mpr (.inr (qAz _ h)))
 ·have h0:=hl j hj;rw[zaP l1]at h0 ⊢;have h1:=zT2 hs hj b2 B l2 hB;have e1:lin (b2.sum::b2) (s::B) j=b2.sum*s.getD j 0+lin b2 B j:=by simp[lin]
  rw[e1];omega
def zWZ(hi:Ind m V)(hz:∀r∈V,∀j,j<m->r.getD j 0=0):V=[]:=by
 cases V with
 |nil=>rfl
 |cons v V=>
  have e:∀(b:List Int)(W:List (List Int)),(∀r∈W,∀j,j<m->r.getD j 0=0)->∀j,j<m->lin b W j=0:=fun b W hW j hj=>by
   unfold lin;have h0:∀p∈b.zip W,p.1*p.2.getD j 0=0:=fun p hp=>by rw[hW p.2 (qDn hp).2 j hj,qG4]
   generalize b.zip W=z at h0;induction z with
   |nil=>rfl
   |cons p z ih=>rw[qAd,qD8,h0 p (by simp),ih fun q hq=>h0 q (by simp[hq])];rfl
  have:=hi (qA8 (v::V).length 1) (by simp) (fun j hj=>by rw[e _ _ hz j hj];rfl) 1 (by simp)
  exact absurd this (by decide)
def zX2{k:Nat}{A:List (List Int)}(hr:∀r∈A,RowN m r)(hi:Ind m A)(hz:∀r∈A,∀j,j<k->r.getD j 0=0)(hk:k<m)(h:∃r∈A,r.getD k 0=1):Ind m (zHW A k)/\(∀r∈zHW A k,RowN m r)/\∀r∈zHW A k,∀j,j<k+1->r.getD j 0=0:=by
 have hp:(A.filter (fun r=>decide (r.getD k 0=0))++A.filter fun r=>decide (r.getD k 0=1)).Perm A:=by
  have h1:=List.filter_append_perm (fun r:List Int=>decide (r.getD k 0=0)) A;have h2:A.filter (fun r=>!decide (r.getD k 0=0))=A.filter fun r=>decide (r.getD k 0=1):=qCp fun r hm=>by
   rcases zEU (k:=k) (hr r hm)with e|e<;>rw[e]<;>rfl
  rw[h2]at h1;exact h1
 have hi2:=zX1 hp.symm hi;obtain⟨s,l,hs⟩:∃s l,(A.filter fun r=>decide (r.getD k 0=1))=s::l:=by
  obtain⟨r,hr1,hr2⟩:=h;have hm:r∈A.filter fun r=>decide (r.getD k 0=1):=qAm.mpr ⟨hr1,decide_eq_true hr2⟩
  cases hq:A.filter fun r=>decide (r.getD k 0=1)with
  |nil=>rw[hq]at hm;cases hm
  |cons s l=>exact⟨s,l,rfl⟩
 have m1:∀r∈s::l,RowN m r/\r.getD k 0=1/\∀j,j<k->r.getD j 0=0:=fun r hm=>by
  rw[<- hs]at hm;obtain⟨a,b⟩:=qAm.mp hm;exact⟨hr r a,of_decide_eq_true b,hz r a⟩
 have e:zHW A k=(A.filter fun r=>decide (r.getD k 0=0))++l.map fun r=>addB r s:=by
  unfold zHW;rw[hs];rfl
 rw[hs]at hi2;rw[e];obtain⟨s1,s2,s3⟩:=m1 s (by simp);refine⟨zX0 s1 (fun r hm=>(m1 r (by simp[hm])).1) hi2,fun r hm=>?_,fun r hm j hj=>?_⟩
 ·rcases qAr.mp hm with h|h
  ·exact hr r (qAm.mp h).1
  ·obtain⟨t,ht,rfl⟩:=qAi.mp h;exact zGZ (m1 t (by simp[ht])).1 s1
 ·rcases qAr.mp hm with h|h
  ·obtain⟨a,b⟩:=qAm.mp h
   by_cases z:j=k
   ·rw[z];exact of_decide_eq_true b
   ·exact hz r a j (by omega)
  ·obtain⟨t,ht,rfl⟩:=qAi.mp h;obtain⟨t1,t2,t3⟩:=m1 t (by simp[ht]);rw[zEE t s j (by rw[t1.1,s1.1]) (by rw[t1.1];omega)]
   by_cases z:j=k
   ·rw[z,t2,s2];rfl
   ·rw[t3 j (by omega),s3 j (by omega)];rfl
def IdS(m:Nat)(k:Nat)(r:Ro):Prop:=∃A l0 o2 o3 o4,r=[some (mat A,l0),some (.int (m:Int),0),o2,o3,o4]/\Ind m A/\(∀r∈A,RowN m r)/\(∀r∈A,∀j,j<k->r.getD j 0=0)/\A.length<=1000
theorem zQY{m:Nat}(hm:m<=10){A:List (List Int)}(hi:Ind m A)(hr:∀r∈A,RowN m r)(hz:A.length<=1000):nxR (forGo (.one 2) (sSeq (sSet 3 1 [0,2] (eComp (iSq (eV 0)) 1 (.one 5) (tB (eB eqD (eB ixD (eV 5) (eV 2)) (eC (.int 1)))) (eV 5)))
 (sIf (tB (eB (cmpD fun i j=>decide (j<i)) (eBi lenD (aCons (eV 3) aNil)) (eC (.int 0)))) (sSeq (sSet 4 1 [0,2] (eComp (iSq (eV 0)) 1 (.one 5) (tB (eB eqD (eB ixD (eV 5) (eV 2)) (eC (.int 0)))) (eV 5)))
 (sSet 0 1 [4,3] (eB addD (eV 4) (eComp (iSq (eSl (eV 3) (oE (eC (.int 1))) oNo)) 1 (.one 5) Mi.tYes (eCall zB3 (aCons (eV 5) (aCons (eB ixD (eV 3) (eC (.int 0))) aNil))))))) sNil)) (nums 0 m) [some (mat A,2),some (.int (m:Int),0),none,none,none]) (IdS m m):=by
 refine zQK (IdS m) ⟨A,2,none,none,none,rfl,hi,hr,fun _ _ j hj=>by omega,hz⟩ (fun k hk r hr=>?_) fun r h=>h
 obtain⟨A,l0,o2,o3,o4,rfl,hi,hr,hz0,hz⟩:=hr;have hcf:∀(v:Int)(o1 o3 o4:Option Dt),eComp (iSq (eV 0)) 1 (.one 5) (tB (eB eqD (eB ixD (eV 5) (eV 2)) (eC (.int v)))) (eV 5) [some (mat A),o1,some (.int (k:Nat)),o3,o4]=okR (mat (A.filter fun r=>decide (r.getD k 0=v))):=fun v o1 o3 o4=>by
  refine zC6 rowD rowD (fun r=>decide (r.getD k 0=v)) A rfl (fun r hm=>?_) (fun r _ _=>rfl) _ (by unfold iSq;rfl) (by omega);exact eqi (b2 rfl rfl (zO9 r k (by rw[(hr r hm).1];exact hk))) rfl rfl
 have lS:lenD [mat (A.filter fun r=>decide (r.getD k 0=1))]=some (.int ((A.filter fun r=>decide (r.getD k 0=1)).length:Int)):=by unfold mat;simp
 have hf1:(A.filter fun r=>decide (r.getD k 0=1)).length<=A.length:=qBu _ _;have hf0:(A.filter fun r=>decide (r.getD k 0=0)).length<=A.length:=qBu _ _;have fin:∀l0 l3 o4,nxR (sIf (tB (eB (cmpD fun i j=>decide (j<i)) (eBi lenD (aCons (eV 3) aNil)) (eC (.int 0)))) (sSeq (sSet 4 1 [0,2] (eComp (iSq (eV 0)) 1 (.one 5) (tB (eB eqD (eB ixD (eV 5) (eV 2)) (eC (.int 0)))) (eV 5)))
 (sSet 0 1 [4,3] (eB addD (eV 4) (eComp (iSq (eSl (eV 3) (oE (eC (.int 1))) oNo)) 1 (.one 5) Mi.tYes (eCall zB3 (aCons (eV 5) (aCons (eB ixD (eV 3) (eC (.int 0))) aNil))))))) sNil [some (mat A,l0),some (.int (m:Int),0),some (.int (k:Nat),0),some (mat (A.filter fun r=>decide (r.getD k 0=1)),l3),o4]) (IdS m (k+1)):=fun l0 l3 o4=>by
  by_cases h:0<(A.filter fun r=>decide (r.getD k 0=1)).length
  ·have hex:∃r∈A,r.getD k 0=1:=by
    obtain⟨r,hm⟩:=List.exists_mem_of_length_pos h;obtain⟨a,b⟩:=qAm.mp hm;exact⟨r,a,of_decide_eq_true b⟩
   obtain⟨n1,n2,n3⟩:=zX2 hr hi hz0 hk hex;have nl:=zST A k;rw[zIR,show tB (eB (cmpD fun i j=>decide (j<i)) (eBi lenD (aCons (eV 3) aNil)) (eC (.int 0))) (full [some (mat A,l0),some (.int (m:Int),0),some (.int (k:Nat),0),some (mat (A.filter fun r=>decide (r.getD k 0=1)),l3),o4])=okR true from tb1 (b2 (bi1 rfl lS) rfl (cmi (decide_eq_true (by omega)))),zA0,if_pos rfl];refine zD7 fun bb hb=>?_
   have e:∀(o0 o1 o2:Option Dt),eB addD (eV 4) (eComp (iSq (eSl (eV 3) (oE (eC (.int 1))) oNo)) 1 (.one 5) Mi.tYes (eCall zB3 (aCons (eV 5) (aCons (eB ixD (eV 3) (eC (.int 0))) aNil)))) [o0,o1,o2,some (mat (A.filter fun r=>decide (r.getD k 0=1))),some (mat (A.filter fun r=>decide (r.getD k 0=0)))]=okR (mat (zHW A k)):=by
    intro o0 o1 o2;have ha:=addM (A.filter fun r=>decide (r.getD k 0=0)) (((A.filter fun r=>decide (r.getD k 0=1)).drop 1).map fun r=>addB r ((A.filter fun r=>decide (r.getD k 0=1)).getD 0 [])) (by simp[-qA0];omega);refine b2 rfl ?_ ha;have hin:∀r∈A.filter fun r=>decide (r.getD k 0=1),RowN m r:=fun r hm=>hr r (qAm.mp hm).1
    have h0:=hin _ (zAN (d:=[]) h);have i0:=zgF (A.filter fun r=>decide (r.getD k 0=1)) 0 h;have hsl:slD (mat (A.filter fun r=>decide (r.getD k 0=1))) (some 1) none=some (mat ((A.filter fun r=>decide (r.getD k 0=1)).drop 1)):=by rw[zbO];exact congrArg (fun z=>some (mat z)) (zXN _ 1)
    generalize(A.filter fun r=>decide (r.getD k 0=1))=S at hin h0 i0 hsl hf1
    refine qHa (zB1 (i:=5) rowD (fun r=>rowD (addB r (S.getD 0 []))) (S.drop 1) rfl rfl (fun r hq=>?_) _ ?_ (by rw[qEf];omega)) ?_
    rotate_left 2
    ·unfold mat;rw[qAx];rfl
    ·exact c2 rfl (b2 rfl rfl i0) (zWS (hin r (List.mem_of_mem_drop hq)).1 h0.1 hm)
    ·simp[hsl];show okR (S.tail.map rowD)=_;rw[List.map_tail]
   have fin2:∀l0 l3 l4,nxR (sSet 0 1 [4,3] (eB addD (eV 4) (eComp (iSq (eSl (eV 3) (oE (eC (.int 1))) oNo)) 1 (.one 5) Mi.tYes (eCall zB3 (aCons (eV 5) (aCons (eB ixD (eV 3) (eC (.int 0))) aNil))))) [some (mat A,l0),some (.int (m:Int),0),some (.int (k:Nat),0),some (mat (A.filter fun r=>decide (r.getD k 0=1)),l3),some (mat (A.filter fun r=>decide (r.getD k 0=0)),l4)]) (IdS m (k+1)):=fun l0 l3 l4=>
    zHB (d:=mat (zHW A k)) (e _ _ _) (e _ _ _) ⟨zHW A k,_,_,_,_,rfl,n1,n2,n3,by omega⟩ ⟨zHW A k,_,_,_,_,rfl,n1,n2,n3,by omega⟩
   subst hb;exact zHB (d:=mat (A.filter fun r=>decide (r.getD k 0=0))) (hcf 0 _ _ _) (hcf 0 _ _ _) (fin2 _ _ _) (fin2 _ _ _)
  ·have hex:∀r∈A,r.getD k 0=0:=fun r hm=>(zEU (k:=k) (hr r hm)).elim id fun h1=>absurd (qCz (qAm.mpr ⟨hm,decide_eq_true h1⟩)) h
   refine zAQ (sf (tb1 (b2 (bi1 rfl lS) rfl (cmi (decide_eq_false (by omega)))))) ⟨A,_,_,_,_,rfl,hi,hr,fun r hm j hj=>?_,hz⟩
   by_cases z:j=k
   ·rw[z];exact hex r hm
   ·exact hz0 r hm j (by omega)
 refine zD7 fun bb hb=>?_
 subst hb;exact zHB (d:=mat (A.filter fun r=>decide (r.getD k 0=1))) (hcf 1 _ _ _) (hcf 1 _ _ _) (fin _ _ _) (fin _ _ _)
def indV(m:Nat)(l:List Nat):List Int:=(qA4 m).map fun i=>if i∈l then 1 else 0
def zQX{m:Nat}(hm:m<=10){Ls:List (List Nat)}(hz:Ls.length<=1000)(hi:Ind m (Ls.map (indV m))):zBY [rowsD Ls,.int (m:Int)]=okR (.bl true):=by
 have hc:eComp (iSq (eV 0)) 1 (.one 5) Mi.tYes (eComp (iR1 (aCons (eV 1) aNil)) 1 (.one 6) Mi.tYes (eBi intD (aCons (eB (inD false) (eV 6) (eV 5)) aNil))) [some (rowsD Ls),some (.int (m:Int)),none,none,none]=okR (mat (Ls.map (indV m))):=by
  refine qHa (zB1 (i:=5) (fun l:List Nat=>rowD (numL l)) (fun l=>rowD (indV m l)) Ls rfl rfl (fun l hl=>?_) (iSq (eV 0)) rfl (by omega)) ?_
  rotate_left
  ·unfold mat;rw[qAx];rfl
  ·refine zL2 (fun i=>if i∈l then 1 else 0) rfl (by omega) (zFT (al0 rfl) (by omega)) fun i hi=>?_
   refine bi1 (b2 rfl rfl (zX3 false i l)) ?_;by_cases z:i∈l
   ·rw[if_pos z,if_neg (by simp),decide_eq_true z];rfl
   ·rw[if_neg z,if_neg (by simp),decide_eq_false z];rfl
 obtain⟨r,h1,A,l0,o2,o3,o4,rfl,a1,a2,a3,a4⟩:=zC4 (zQY hm hi (fun r hr=>by
  obtain⟨l,_,rfl⟩:=qAi.mp hr;refine⟨by simp[indV],fun x hx=>?_⟩;obtain⟨i,_,rfl⟩:=qAi.mp hx
  split
  ·exact .inr rfl
  ·exact .inl rfl) (by simpa using hz))
 have hA:=zWZ a1 a3;subst hA;refine zB6 rfl (sg hc (zG7 _) ?_);rw[zDP,zFS,zFT (n:=m) (al0 rfl) (by omega),zA0];refine qHa (congrArg (fun z=>zA3 z _) h1) ?_;refine sr (b2 rfl el0 ?_) ⟨qAn _,qAn _⟩;simp[mat,eqD,Dt.eq,Dt.eqL,Dt.dep,Dt.depL]
def zcJ{r0 r1 L:Nat}(h0:r0<L)(h1:r1<L):(qA4 L).countP (fun r=>decide (((if r=r0 then 1 else 0)+(if r=r1 then 1 else 0):Int)%2=1))=0\/(qA4 L).countP (fun r=>decide (((if r=r0 then 1 else 0)+(if r=r1 then 1 else 0):Int)%2=1))=2:=by
 by_cases z:r0=r1
 ·left
  rw[List.countP_eq_zero];intro r _;subst z;by_cases e:r=r0
  ·rw[if_pos e];decide
  ·rw[if_neg e];decide
 ·right
  have key:∀l:List Nat,l.countP (fun r=>decide (((if r=r0 then 1 else 0)+(if r=r1 then 1 else 0):Int)%2=1))=l.count r0+l.count r1:=fun l=>by
   induction l with
   |nil=>rfl
   |cons a l ih=>
    rw[qCa,ih,qCf,qCf];by_cases e:a=r0
    ·have e1:a≠r1:=fun y=>z (by rw[<- e,<- y])
     simp[e,z];omega
    ·by_cases e1:a=r1
     ·have:¬r1=r0:=fun y=>z y.symm
      simp[e1,this];omega
     ·simp[e,e1]
  rw[key,qCi.count,qCi.count,if_pos (qBf.mpr h0),if_pos (qBf.mpr h1)]
def zPN{i m:Nat}(hi:i<m)(P:Nat->Nat->Bool):∀l:List Nat,((l.map fun r=>(qA4 m).filter (P r)).flatten).count i=l.countP fun r=>P r i
 |[]=>rfl
 |a::l=>by
  rw[qAd,qB2,qBe,zPN hi P l,qCa];have:((qA4 m).filter (P a)).count i=if P a i=true then 1 else 0:=by
   by_cases z:P a i=true
   ·rw[if_pos z,List.count_filter z,qCi.count,if_pos (qBf.mpr hi)]
   ·rw[if_neg z];exact qAp.mpr fun h=>z (qAm.mp h).2
  rw[this];omega
theorem zQZ{m:Nat}{v:List Int}(hv:RowN m v):indV m ((qA4 m).filter fun i=>decide (v.getD i 0=1))=v:=by
 refine zP0 (m:=m) ⟨by simp[indV],fun x hx=>?_⟩ hv fun r hr=>?_
 ·obtain⟨i,_,rfl⟩:=qAi.mp hx
  split
  ·exact .inr rfl
  ·exact .inl rfl
 ·unfold indV;rw[zGV (d:=0) (by simpa using hr),qA0,qDi hr]
  show(if r∈_ then(1:Int)else 0)=_
  rcases zK0 hv r with e|e
  ·rw[e,if_neg fun h=>?_]
   have:=of_decide_eq_true (qAm.mp h).2;rw[e]at this;exact absurd this (by decide)
  ·rw[e,if_pos (qAm.mpr ⟨qBf.mpr hr,by rw[e];rfl⟩)]
def zR2(hv:RowN m v)(g:Nat->Int):(((qA4 m).filter fun i=>decide (v.getD i 0=1)).map g).sum=sumN m fun k=>g k*v.getD k 0:=by
 unfold sumN;generalize qA4 m=l;induction l with
 |nil=>rfl
 |cons a l ih=>
  rw[qCh];rcases zK0 hv a with e|e
  ·rw[if_neg (by rw[e];decide),ih,qAd,qD8,e];omega
  ·rw[if_pos (by rw[e];rfl),qAd,qD8,ih,qAd,qD8,e];omega
section
variable{n:Nat}{cs c:List Nat}(w:Wd n cs)(h2:∀x∈cs,cs.count x=2)(n1:1<=n)(hc:c.length=n)(hw:∀x∈c,x<3)(hsl:(sosL cs).length=n)
 (hlC:(cbW c (sosL cs) (ords cs)).length=n) (hwC:∀x∈cbW c (sosL cs) (ords cs),x<3) {R:List (List Nat)} {hd:Nat->Nat} (H:Hds (tsW n (rowW cs)) (cbW c (sosL cs) (ords cs)) n R hd)
include w h2 n1 hc hw hsl hlC hwC H
theorem zcD{i:Nat}(hi:i<(kept (sosL cs).length (numL c)).length):(qA4 R.length).countP (fun r=>decide ((vR cs c R r).getD i 0=1))=0\/(qA4 R.length).countP (fun r=>decide ((vR cs c R r).getD i 0=1))=2:=by
 have hN:=(zJ5 w.tw).1;have hx:=(sos_mem _ cs).mp (zAN (d:=0) (zDK _ (zAN (d:=0) hi)));have hv:∀r,(vR cs c R r).getD i 0=yF cs (inR R r) ((sosL cs).getD ((kept (sosL cs).length (numL c)).getD i 0) 0):=fun r=>zZL hi
 generalize(sosL cs).getD ((kept (sosL cs).length (numL c)).getD i 0) 0=x at hx hv;have hix:(ords cs).idxOf x<n:=by rw[<- w.ol];exact qAf ((ords_mem cs x).mpr hx)
 obtain⟨r0,l0,m0⟩:=H.cov (4*(ords cs).idxOf x) (by omega);obtain⟨r1,l1,m1⟩:=H.cov (4*(ords cs).idxOf x+1) (by omega);have e:(qA4 R.length).countP (fun r=>decide ((vR cs c R r).getD i 0=1))=(qA4 R.length).countP (fun r=>decide (((if r=r0 then 1 else 0)+(if r=r1 then 1 else 0):Int)%2=1)):=by
  refine qE6 fun r hr=>?_
  have hr:=qBf.mp hr;have e0:inR R r (4*(ords cs).idxOf x)=if r=r0 then 1 else 0:=zDY ⟨fun h=>zTP hN hlC hwC H hr l0 h m0,fun h=>by rw[h];exact m0⟩
  have e1:inR R r (4*(ords cs).idxOf x+1)=if r=r1 then 1 else 0:=zDY ⟨fun h=>zTP hN hlC hwC H hr l1 h m1,fun h=>by rw[h];exact m1⟩
  rw[hv r];unfold yF;rw[e0,e1]
 rw[e];exact zcJ l0 l1
theorem zcF:Ind (kept (sosL cs).length (numL c)).length ((qA4 (R.length-1)).map (vR cs c R)):=by
 intro b hb hl x hx;have hN:=(zJ5 w.tw).1;rw[qAe,qDa]at hb;have hL:0<R.length:=by
  obtain⟨r,hr,_⟩:=H.cov 0 (by omega);omega
 have lin_eq:∀j,lin b ((qA4 (R.length-1)).map (vR cs c R)) j=sumN (R.length-1) fun r=>b.getD r 0*(vR cs c R r).getD j 0:=fun j=>by
  unfold lin sumN;congr 1;refine qBb (by simp[hb]) fun i h1 h2=>?_
  have hi:i<R.length-1:=by simpa using h2
  rw[qBq,List.getElem_zip,qBq,qBq,qBx];have eb:b.getD i 0=b[i]'(by omega):=by rw[qA0,qA1 (show i<b.length by omega)];rfl
  rw[eb]
 have hG:Cst (tsW n (rowW cs)) (cbW c (sosL cs) (ords cs)) n (fun e=>(sumN (R.length-1) fun r=>b.getD r 0*inR R r e)%2):=by
  refine⟨fun e=>zG8 _,fun e he=>?_,fun e he=>?_⟩
  ·exact zF6 fun r hr=>by rw[(zI8 hN hlC hwC H (r:=r) (by omega)).hn e he]
  ·exact zF6 fun r hr=>by rw[(zI8 hN hlC hwC H (r:=r) (by omega)).hj e he]
 have hd0:∀r,r<R.length-1->((sumN (R.length-1) fun k=>b.getD k 0*inR R k (hd r))%2)=b.getD r 0%2:=fun r hr=>by
  rw[zGO (f:=fun k=>b.getD k 0*inR R k (hd r)) (g:=fun _=>0) hr fun k hk hne=>by rw[zTQ hN hlC hwC H (by omega) (by omega),if_neg hne,qG4]];rw[zC9 fun _ _=>rfl,zTQ hN hlC hwC H (by omega) (by omega),if_pos rfl];omega
 have hdl:((sumN (R.length-1) fun k=>b.getD k 0*inR R k (hd (R.length-1)))%2)=0:=by
  rw[zC9 fun k hk=>by rw[zTQ hN hlC hwC H (by omega) (by omega),if_neg (by omega),qG4]];rfl
 have hy:∀x∈cs,yF cs (fun e=>(sumN (R.length-1) fun r=>b.getD r 0*inR R r e)%2) x=0:=fun x hx=>by
  have hi:=qAf ((sos_mem x cs).mpr hx);by_cases z:c.getD ((sosL cs).idxOf x) 0=0
  ·exact(zIH w h2 n1 hc hw hsl hG hx).1 z
  ·have hm:(sosL cs).idxOf x∈kept (sosL cs).length (numL c):=mem_kept.mpr ⟨hi,by rw[zD2];omega⟩;obtain⟨j,hj,ej⟩:=zD0 (d:=0) hm;have h0:=hl j hj;rw[lin_eq]at h0;have ev:∀r,(vR cs c R r).getD j 0=yF cs (inR R r) x:=fun r=>by rw[zZL hj,ej,getD_idx ((sos_mem x cs).mpr hx)]
   have:sumN (R.length-1) (fun r=>b.getD r 0*(vR cs c R r).getD j 0)%2=(sumN (R.length-1) (fun r=>b.getD r 0*inR R r (4*(ords cs).idxOf x))+sumN (R.length-1) (fun r=>b.getD r 0*inR R r (4*(ords cs).idxOf x+1)))%2:=by
    refine zLL fun r hr=>?_
    rw[ev r];unfold yF;rw[<- qIy,qG6,qGe _ (by decide:(2:Int) ∣ 2),<- qG6]
   rw[h0]at this;show(_%2+_%2)%2=0;omega
 have hK:∀v:Int,Bit v->Cst (tsW n (rowW cs)) (cbW c (sosL cs) (ords cs)) n (fun _=>v):=fun v hv=>⟨fun _=>hv,fun _ _=>rfl,fun _ _=>rfl⟩
 have all:∀e,e<4*n->((sumN (R.length-1) fun r=>b.getD r 0*inR R r e)%2)=((sumN (R.length-1) fun r=>b.getD r 0*inR R r (inA (rowW cs) 0))%2):=fun e he=>
  zUI w h2 n1 hc hw hsl hG (hK _ (zG8 _)) rfl (fun x hx=>by
   rw[hy x hx];show(0:Int)=(_%2+_%2)%2;omega) he
 have e1:=all _ (H.lt (R.length-1) (by omega));rw[hdl]at e1;obtain⟨r,hr,rfl⟩:=zD0 (d:=0) hx;have e2:=all _ (H.lt r (by omega));rw[hd0 r (by omega),<- e1]at e2;exact e2
end
section
variable{n:Nat}{cs c:List Nat}(w:Wd n cs)(n1:1<=n)(hn:n<=10)(hc:c.length=n)(hsl:(sosL cs).length=n)
include w n1 hn hc hsl
end
def zT8(rs:List Nat)(k:Nat):lcoD ((numL rs).map Dt.int) [.int (k:Nat)]=some (.int (rs.count k:Nat)):=by
 unfold lcoD;dsimp only;rw[if_pos ⟨rfl,zBZ _⟩];congr 3;unfold numL;rw[qAx];induction rs with
 |nil=>rfl
 |cons a r ih=>
  rw[qAd,qCa,qCf,ih];congr 1;by_cases h:a=k
  ·subst h;simp
  ·have h':¬(a:Int)=(k:Int):=by omega
   simp[h,h',Dt.eq]
def zL5{α:Type}:∀l:List α,anyD [.lst (l.map fun _=>Dt.bl false)]=some (.bl false)
 |[]=>rfl
 |a::l=>by
  have ih:=zL5 l;unfold anyD at ih ⊢;dsimp only at ih ⊢;rw[qAd,boolsD];cases e:boolsD (l.map fun _=>Dt.bl false)with
  |none=>rw[e]at ih;cases ih
  |some bs=>
   rw[e]at ih;simpa using ih
def chn{a b c:EM}(h1:a ρ=okR (.int x))(h2:b ρ=okR (.int y))(h3:c ρ=okR (.int z))(l1:x<=y)(l2:y<z):eChain (cmpD fun i j=>decide (i<=j)) (cmpD fun i j=>decide (i<j)) a b c ρ=okR (.bl true):=by
 rw[zV4,h1,zA0,h2,zA0,show cmpD (fun i j=>decide (i<=j)) (.int x) (.int y)=some (.bl true) from cmi (decide_eq_true l1)];show zA3 (c ρ) _=_;rw[h3,zA0,show cmpD (fun i j=>decide (i<j)) (.int y) (.int z)=some (.bl true) from cmi (decide_eq_true l2)];rfl
def zbP(xs:List α)(h:0<xs.length):cutA xs none (some (-1))=xs.take (xs.length-1):=by
 unfold cutA cutIx;simp;congr 1;omega
section
variable{n:Nat}{cs c:List Nat}(w:Wd n cs)(n1:1<=n)(hn:n<=8)(hc:c.length=n)(hw:∀x∈c,x<3)(hsl:(sosL cs).length=n)
include w n1 hn hc hw hsl
theorem zM0:∃(R:List (List Nat))(hd:Nat->Nat),Hds (tsW n (rowW cs)) (cbW c (sosL cs) (ords cs)) n R hd/\R.length<=4*n/\(∀l∈R,l.Nodup/\(∀e∈l,e<4*n)/\l.length<=1000)/\zCF [.str ⟨cs.toArray⟩,rowD (numL c)]=okR (rowsD (R.map (onc c (sosL cs) (ords cs)))):=by
 obtain⟨hN,hne⟩:=zJ5 w.tw;obtain⟨hlC,hwC⟩:=zf4 w n1 (by omega) hc hw hsl;obtain⟨f,g,hf,hfl⟩:=zSL hN hlC hwC;obtain⟨hd,H⟩:=zX5 hN hlC hwC hf;have hro:=zNU hN (by omega) hfl fun e he=>by
  obtain⟨p0,p1,p2,p3,p4⟩:=hf e he;rw[p0];exact zQD hN hlC (by omega) hwC he p1 p2 p3 p4
 have hRe:∀l∈(rdS f (4*n)).1,l.Nodup/\(∀e∈l,e<4*n)/\l.length<=1000:=fun l hm=>by
  obtain⟨r,hr,rfl⟩:=zD0 (d:=[]) hm;obtain⟨j,hj,e,_⟩:=zFB f (4*n) r hr;rw[e];obtain⟨p0,p1,p2,p3,p4⟩:=hf j hj;refine⟨?_,fun x hx=>?_,by have:=hfl j;omega⟩
  ·rw[p0];exact zM4 hN hne hlC hwC hj p3 p4 _ (qAa _)
  ·rw[p0]at hx;exact(zJH hN hlC hwC hj p1 p3 hx).2.2
 have hRl:=(zNW (f:=f) (B:=8*n) hfl (4*n)).1;exact⟨_,hd,H,hRl,hRe,zNZ w n1 (by omega) hc hsl (zg8 w n1 (by omega) hc hsl hn) (zJ1 w n1 (by omega) hc hsl hw) hro (by omega) fun l hm=>(hRe l hm).2⟩
end
def zVO{m:Nat}(hm:m<=10)(hb:Bits m f)(hv:RowN m v)(hk:∀j,j<m->((((qA4 m).filter fun i=>decide (v.getD i 0=1)).map fun i=>f i j).sum)%2=0){a0 a1 a2 a5 a6:Dt}{s:SM}{l0 l1 l2 l3 l5 l6:Nat}{P:Ro->Prop}
  (h:s [some (a0,l0),some (a1,l1),some (a2,l2),some (mat (tab m f),l3),some (.int (m:Int),0),some (a5,l5),some (a6,l6),some (rowD (numL ((qA4 m).filter fun i=>decide (v.getD i 0=1))),0)]=okR (.nx r)/\P r) :
  nxR ((sSeq (sIf (tNo (tM (eBi allD (aCons (eComp (iSq (eV 7)) 1 (.one 8) Mi.tYes (eAnd (eCall zBS (aCons (eV 8) aNil)) (eChain (cmpD fun i j=>decide (i<=j)) (cmpD fun i j=>decide (i<j)) (eC (.int 0)) (eV 8) (eV 4)))) aNil)))) (sRet 0 0 [] (eC (.bl false))) sNil)
 (sSeq (sIf (tM (eBi anyD (aCons (eComp (iR1 (aCons (eV 4) aNil)) 1 (.one 8) Mi.tYes (eB eqD (eB modD (eBi sumD (aCons (eComp (iSq (eV 7)) 1 (.one 9) Mi.tYes (eB ixD (eB ixD (eV 3) (eV 9)) (eV 8))) aNil)) (eC (.int 2))) (eC (.int 1)))) aNil))) (sRet 0 0 [] (eC (.bl false))) sNil) s)) [some (a0,l0),some (a1,l1),some (a2,l2),some (mat (tab m f),l3),some (.int (m:Int),0),some (a5,l5),some (a6,l6),some (rowD (numL ((qA4 m).filter fun i=>decide (v.getD i 0=1))),0)]) P:=by
 have hlt:∀i∈(qA4 m).filter fun i=>decide (v.getD i 0=1),i<m:=fun i hi=>qBf.mp (qAm.mp hi).1
 have hll:((qA4 m).filter fun i=>decide (v.getD i 0=1)).length<=m:=qAq (qBu _ _) (by simp)
 generalize(qA4 m).filter (fun i=>decide (v.getD i 0=1))=ks at hlt hll hk h
 have hA:=zB1 (ρ:=full [some (a0,l0),some (a1,l1),some (a2,l2),some (mat (tab m f),l3),some (.int (m:Int),0),some (a5,l5),some (a6,l6),some (rowD (numL ks),0)]) (c:=tYes) (i:=8) (e:=eAnd (eCall zBS (aCons (eV 8) aNil)) (eChain (cmpD fun i j=>decide (i<=j)) (cmpD fun i j=>decide (i<j)) (eC (.int 0)) (eV 8) (eV 4))) (fun k:Nat=>Dt.int (k:Int)) (fun _=>Dt.bl true) ks rfl rfl (fun k hk=>an1 (c1 rfl (zMO _)) (chn rfl rfl rfl (by omega) (by have:=hlt k hk;omega))) (iSq (eV 7)) (by
   show okR ((numL ks).map Dt.int)=_;unfold numL;rw[qAx];rfl) (by omega)
 have hB:=zEB (ρ:=full [some (a0,l0),some (a1,l1),some (a2,l2),some (mat (tab m f),l3),some (.int (m:Int),0),some (a5,l5),some (a6,l6),some (rowD (numL ks),0)]) (c:=tYes) (i:=8) (e:=eB eqD (eB modD (eBi sumD (aCons (eComp (iSq (eV 7)) 1 (.one 9) Mi.tYes (eB ixD (eB ixD (eV 3) (eV 9)) (eV 8))) aNil)) (eC (.int 2))) (eC (.int 1))) (fun _=>Dt.bl false) m rfl rfl (fun j hj=>by
   have h2:=zB1 (ρ:=full [some (a0,l0),some (a1,l1),some (a2,l2),some (mat (tab m f),l3),some (.int (m:Int),0),some (a5,l5),some (a6,l6),some (rowD (numL ks),0)]++[some (Dt.int (j:Int))]) (c:=tYes) (i:=9) (e:=eB ixD (eB ixD (eV 3) (eV 9)) (eV 8)) (fun k:Nat=>Dt.int (k:Int)) (fun i=>Dt.int (f i j)) ks rfl rfl (fun i hi=>b2 (b2 rfl rfl (ixM (f:=f) (hlt i hi))) rfl (ixR (g:=fun j=>f i j) hj)) (iSq (eV 7)) (by
    show okR ((numL ks).map Dt.int)=_;unfold numL;rw[qAx];rfl) (by omega)
   have e3:(ks.map fun i=>Dt.int (f i j))=(ks.map fun i=>f i j).map Dt.int:=by rw[qAx];rfl
   rw[e3]at h2;have hsum:sumD [.lst ((ks.map fun i=>f i j).map Dt.int)]=some (.int (ks.map fun i=>f i j).sum):=by
    show(match intsD ((ks.map fun i=>f i j).map Dt.int)with|some ns=>_|none=>none)=_
    rw[zI6];dsimp only;rw[if_pos ⟨by simp;omega,fun x hx=>by
     obtain⟨i,hi,rfl⟩:=qAi.mp hx;have:=hb i j (hlt i hi) hj;omega⟩]
   exact b2 (b2 (bi1 h2 hsum) rfl (mdi (by omega) (hk j hj))) rfl rfl) (iR1 (aCons (eV 4) aNil)) (zFT (al0 rfl) (by omega)) (by omega)
 refine zAQ (r:=r) ?_ h.2;exact sp (tn1 (k:=true) (tm1 (bi1 hA (zR7 _)))) (sp (tm1 (bi1 hB (zL5 _))) h.1)
theorem zWQ(ns:List Int)(hl:ns.length<=63)(hw:∀i∈ns,i.natAbs.log2<2 ^ 20):zMH [.scr ns]=okR (.bl true):=by
 obtain⟨N0,hN0⟩:=zPD ns 0 (by omega);obtain⟨N1,hN1⟩:=zPD ns 1 (by omega);obtain⟨cs,ls,hword,hp,hnd,n1,hn⟩:=zRA 8 (by omega) (by omega) N0;have w:=zfK hp hnd;have h2:∀x∈cs,cs.count x=2:=fun x hx=>zMY hp hnd hx
 have hlen:=w.len;generalize ls.length=n at w hlen n1 hn;have hsl:=zcR w;have hL:=zFI (cs:=cs) (by omega) (by omega);have lL:lenD [.str ⟨(sosL cs).toArray⟩]=some (.int (n:Int)):=by rw[zGU (by omega),hsl]
 obtain⟨c,hc,hc3,hdig⟩:=zU6 N1 (b:=3) (by omega) (by omega) n (by omega);obtain⟨R,hd,H,hRl,hRe,hpa⟩:=zM0 w n1 hn hc hc3 hsl;obtain⟨hlC,hwC⟩:=zf4 w n1 (by omega) hc hc3 hsl;have hct:=zUH (cs:=cs) (c:=numL c) (by omega) (by omega) h2 (by omega) (by rw[hsl];simp[numL,hc]);have hkl:=zPH (sosL cs).length (numL c);have hbt:=zbS (sosL cs).length (numL c) cs (sosL cs);obtain⟨q,_,hq,_,hrest⟩:=zRX (by omega) hbt;have hR:=zNT w h2 n1 hc hc3 hsl hlC hwC H hq;have hM:R.map (onc c (sosL cs) (ords cs))=(qA4 R.length).map fun r=>(qA4 (kept (sosL cs).length (numL c)).length).filter fun i=>decide ((vR cs c R r).getD i 0=1):=by
  refine qBb (by simp) fun i g1 g2=>?_
  have hi:i<R.length:=by simpa using g1
  rw[qBq,qBq,qBx];have e:R[i]=R.getD i []:=by rw[qA0,qA1 hi];rfl
  obtain⟨d1,d2,_⟩:=hRe R[i] (qCb hi);rw[e]at d1 d2 ⊢;exact zdW w h2 n1 hc hc3 hsl hlC hwC H hi d1 d2
 have hsym:∀i j,i<(kept (sosL cs).length (numL c)).length->j<(kept (sosL cs).length (numL c)).length->cpF (sosL cs).length (numL c) (crsT cs (sosL cs)) i j=cpF (sosL cs).length (numL c) (crsT cs (sosL cs)) j i:=fun i j hi hj=>by
  have hx:=h2 _ ((sos_mem _ cs).mp (zAN (d:=0) (zDK _ (zAN (d:=0) hi))));have hy:=h2 _ ((sos_mem _ cs).mp (zAN (d:=0) (zDK _ (zAN (d:=0) hj))));unfold cpF dg;by_cases z:i=j
  ·subst z;rfl
  ·rw[if_neg fun y=>z y.1,if_neg fun y=>z y.1.symm];exact zbR hx hy
 have hker:∀r,r<R.length->∀j,j<(kept (sosL cs).length (numL c)).length->(((qA4 (kept (sosL cs).length (numL c)).length).filter fun i=>decide ((vR cs c R r).getD i 0=1)).map fun i=>cpF (sosL cs).length (numL c) (crsT cs (sosL cs)) i j).sum%2=0:=fun r hr j hj=>by
  rw[zR2 (zXZ r)];have:=zcE w h2 n1 hc hc3 hsl hlC hwC H hr j hj;unfold Ev at this;exact qHa (zF6 fun k hk=>by rw[hsym k j hk hj]) this
 have htwo:∀i,i<(kept (sosL cs).length (numL c)).length->(R.map (onc c (sosL cs) (ords cs))).flatten.count i=0\/(R.map (onc c (sosL cs) (ords cs))).flatten.count i=2:=fun i hi=>by
  rw[hM,zPN hi fun r i=>decide ((vR cs c R r).getD i 0=1)];exact zcD w h2 n1 hc hc3 hsl hlC hwC H hi
 have hind:=zcF w h2 n1 hc hc3 hsl hlC hwC H;have hrow:=fun r=>zXZ (cs:=cs) (c:=c) (R:=R) r
 have hL0:0<R.length:=by omega
 have hml:(kept (sosL cs).length (numL c)).length<=10:=by omega
 generalize hT:cpF (sosL cs).length (numL c) (crsT cs (sosL cs))=f at *;generalize hmm:(kept (sosL cs).length (numL c)).length=m at *;generalize R.map (onc c (sosL cs) (ords cs))=M at hpa hM htwo;have hMl:M.length=R.length:=by rw[hM];simp
 have hMe:∀l∈M,l.length<=m:=fun l hl=>by
  rw[hM]at hl;obtain⟨r,_,rfl⟩:=qAi.mp hl;exact qAq (qBu _ _) (by simp)
 have hfl:∀k,(M.take k).flatten.length<=k*m:=fun k=>by
  have hq:∀l∈M.take k,l.length<=m:=fun l hl=>hMe l (qEh hl)
  have hk:(M.take k).length<=k:=by rw[qCg];omega
  generalize M.take k=A at hq hk;refine qAq ?_ (Nat.mul_le_mul_right m hk);clear hk;induction A with
  |nil=>simp
  |cons a A ih=>
   have h1:=ih fun l hl=>hq l (by simp[hl])
   have h2:=hq a (by simp);rw[qB2,qAo,qAj,qFp];omega
 have lM:lenD [rowsD M]=some (.int ((q:Int)+1)):=by
  unfold rowsD;simp[hMl,hR]
 have lT:lenD [mat (tab m f)]=some (.int (m:Int)):=by unfold mat;simp[zJU]
 have dl:∀(l:List Int) k,(rowD l).dep<=k+1:=fun l k=>by unfold rowD;simp
 have hcut:slD (rowsD M) none (some (-1))=some (rowsD (M.take (M.length-1))):=by
  show some (Dt.lst (cutA (M.map fun l=>rowD (numL l)) none (some (-1))))=_;rw[zbP _ (by rw[qAe];omega),qAe,<- qIl];rfl
 have hin2:=zQX hml (Ls:=M.take (M.length-1)) (by rw[qCg];omega) (by
  have e:(M.take (M.length-1)).map (indV m)=(qA4 (R.length-1)).map (vR cs c R):=by
   rw[hMl,hM,<- qIl,List.take_range,qAx,qG2 (by omega)];exact qAs fun r _=>zQZ (hrow r)
  rw[e];exact hind)
 refine zB6 rfl (sg (c2 (c2 rfl rfl hN0) rfl hword) (qAn 0) (sg (c3 (c2 rfl rfl hN1) rfl (bi1 (c1 rfl hL) lL) hdig) (dl _ 8) (sg (c2 rfl (bi1 rfl rfl) hct) (zG7 _) (sg (bi1 rfl lT) (qAn 0) (sg (c2 rfl (bi1 rfl rfl) hpa) (zHD _) (sp (to0 (tn1 (k:=true) (tm1 rfl)) (nei (bi1 rfl lM) (b2 rfl (c1 rfl hrest) (adi rfl)) (by rw[decide_eq_true (by omega)];rfl))) (sg el0 (by simp) ?_)))))));refine zBG fun bb hb=>?_
 rw[zc7];show nxR (zA3 (okR (M.map fun l=>rowD (numL l))) _) _;rw[zA0];refine zaH (fun l=>rowD (numL l)) M (fun k r=>∃o7,r=[some (.scr ns,0),some (.str ⟨cs.toArray⟩,0),some (rowD (numL c),9),some (mat (tab m f),2),some (.int (m:Int),0),some (rowsD M,0),some (rowD (numL (M.take k).flatten),9),o7]) ⟨none,rfl⟩ (fun k l hkl r hr=>?_) fun r hr=>?_
 ·obtain⟨o7,rfl⟩:=hr;have hkM:=(qA5.mp hkl).1;have hl:l=(qA4 m).filter fun i=>decide ((vR cs c R k).getD i 0=1):=by
   rw[hM,qAb,qDi (by omega)]at hkl;exact(qBc hkl).symm
  have hll:=hMe l (qB3 hkl);have ht:(M.take (k+1)).flatten=(M.take k).flatten++l:=by
   rw[qGx,hkl];simp
  have hf:=hfl k;have hkm:k*m<=32*10:=qHz (by omega) hml;have hx:sExt 6 0 (eV 7) [some (.scr ns,0),some (.str ⟨cs.toArray⟩,0),some (rowD (numL c),9),some (mat (tab m f),2),some (.int (m:Int),0),some (rowsD M,0),some (rowD (numL (M.take k).flatten),9),some (rowD (numL l),0)]=okR (.nx [some (.scr ns,0),some (.str ⟨cs.toArray⟩,0),some (rowD (numL c),9),some (mat (tab m f),2),some (.int (m:Int),0),some (rowsD M,0),some (rowD (numL (M.take (k+1)).flatten),9),some (rowD (numL l),0)]):=by
   rw[ht,zNS];exact zc8 (k:=8) (ds:=(numL (M.take k).flatten).map Dt.int) (es:=(numL l).map Dt.int) rfl rfl (by rw[nlen,nlen];omega) (by rw[zBZ];exact qAn _) (by rw[zBZ];exact qAn _)
  subst hl;exact zVO hml hbt (hrow k) (hker k (by omega)) ⟨hx,_,rfl⟩
 ·obtain⟨o7,rfl⟩:=hr;subst hb;rw[qEg];have hB:=zEB (ρ:=full [some (.scr ns,0),some (.str ⟨cs.toArray⟩,0),some (rowD (numL c),9),some (mat (tab m f),2),some (.int (m:Int),0),some (rowsD M,0),some (rowD (numL M.flatten),9),o7]) (c:=tYes) (i:=8) (e:=eB (inD true) (eMl lcoD (eV 6) (aCons (eV 8) aNil)) (eTup (aCons (eC (.int 0)) (aCons (eC (.int 2)) aNil)))) (fun _=>Dt.bl false) m rfl rfl (fun j hj=>by
   refine b2 (ml1 rfl rfl (zT8 _ j)) (et2 rfl rfl) ?_;rcases htwo j hj with e|e<;>rw[e]<;>rfl) (iR1 (aCons (eV 4) aNil)) (zFT (al0 rfl) (by omega)) (by omega)
  exact sp (tm1 (bi1 hB (zL5 _))) (sr (c2 (sl0 rfl rfl hcut) rfl hin2) ⟨qAn _,qAn _⟩)
end Mp
set_option maxHeartbeats 4000000
namespace Q44
open PySem PyProof.Rows
open L2 hiding Rep RepL
open L3
open Mp
def top(i:Nat):Stmt:=qEe.main.body.getD i (.Pass ⟨0,0,0,0⟩)
def wK:FnScope ["_law_rest","_law_base","_law_many","_law_row","_law_k"] ["_law_rest","_law_base","_law_many"] (zA7 (top 42)):=fsc
def zNG:FnScope ["_law_one","_law_other"] ["_law_one","_law_other"] (zA7 (top 43)):=fsc
def wD:FnScope ["_law_rows","_law_size","_law_place","_law_some","_law_rest"] ["_law_rows","_law_size"] (zA7 (top 44)):=fsc
def zJ4:FnScope ["_law_word_here"] ["_law_word_here"] (zA7 (top 41)):=fsc
def wM:FnScope ["_law_script","_law_k","_law_cell","_law_mixed_here"] ["_law_script","_law_k"] (zA7 (top 38)):=fsc
def wH:FnScope ["_law_script","_law_k","_law_number_here","_law_turn"] ["_law_script","_law_k"] (zA7 (top 39)):=fsc
def zNF:FnScope ["_law_found"] ["_law_found"] (zA7 (top 37)):=fsc
def wC:FnScope ["_law_number_here","_law_most","_law_many","_law_rest","_law_left","_law_pool","_law_k","_law_letter","_law_word_here"] ["_law_number_here","_law_most"] (zA7 (top 40)):=fsc
def zGN:FnScope ["choice"] ["choice"] (zA7 (top 34)):=fsc
def zV0:FnScope ["table","numbers"] ["table","numbers"] (zA7 (top 12)):=fsc
def wG:FnScope ["table","choice","numbers","part","at","number"] ["table","choice"] (zA7 (top 33)):=fsc
def zLD:FnScope ["text","letter"] ["text","letter"] (zA7 (top 9)):=fsc
def zON:FnScope ["word","letter"] ["word","letter"] (zA7 (top 8)):=fsc
def uG:FnScope ["word","one","other","places"] ["word","one","other"] (zA7 (top 14)):=fsc
def zNE:FnScope ["word"] ["word"] (zA7 (top 7)):=fsc
def uA:FnScope ["word","letters"] ["word"] (zA7 (top 11)):=fsc
def zJ3:FnScope ["word","choice"] ["word","choice"] (zA7 (top 31)):=fsc
def zLC:FnScope ["word"] ["word"] (zA7 (top 27)):=fsc
def wX:FnScope ["word","choice","letters"] ["word","choice"] (zA7 (top 28)):=fsc
def uC:FnScope ["word","at","place"] ["word","at"] (zA7 (top 29)):=fsc
def wO:FnScope ["word","entries","net","at","entry","out"] ["word"] (zA7 (top 26)):=fsc
def zXW:FnScope ["way","seat"] ["way","seat"] (zA7 (top 20)):=fsc
def wV:FnScope ["choice","end","place"] ["choice","end"] (zA7 (top 24)):=fsc
def wU:FnScope ["net","choice","end","ends","come"] ["net","choice","end"] (zA7 (top 22)):=fsc
def wL:FnScope ["net","choice","rounds","passed","end","ends"] ["net","choice"] (zA7 (top 23)):=fsc
def wF:FnScope ["word","choice","ends","letters","order","passed"] ["word","choice","ends"] (zA7 (top 35)):=fsc
def wR:FnScope ["word","choice","rounds"] ["word","choice"] (zA7 (top 32)):=fsc
def zbZ:FnScope ["one","other"] ["one","other"] (zA7 (top 13)):=fsc
def wI:FnScope ["row","leaders","left","leader"] ["row","leaders"] (zA7 (top 18)):=fsc
def wE:FnScope ["table","part","leaders","number","row","left"] ["table"] (zA7 (top 17)):=fsc
def zUZ:FnScope ["table"] ["table"] (zA7 (top 16)):=fsc
def wW:FnScope ["_law_script","_law_word_here","_law_choice","_law_table","_law_size","_law_lists","_law_all_told","_law_row"] ["_law_script"] (zA7 (top 45)):=fsc
section
variable{P:qJ8}{w:World}{K:qA2}{mg:Str->Option Value}{base:Heap}
abbrev zC2:Stmt:=zgH (top 2)
def zOM:FnScope ["self","letter"] ["self","letter"] (zA7 zC2):=⟨rfl,rfl,rfl,by decide +kernel,rfl,by decide +kernel,by decide +kernel⟩
def zGK{f:Addr}{fd:qJr}(F:Fun K "__init__" "NoLetter.__init__" zC2 f fd){B:Addr}(hB:XBase K B)(hm:mg "RoundError" = some (.ref B)):FnOk P w K mg base (CXe P w) 1 f fd ["self","letter"] (zH9 K "letter"):=by
 refine F.okX (k:=0) zOM (zWY rfl) (fun cdv A outer s H vs Q E hr h=>?_);exact⟨_,zA5 (zDE (zWC hB rfl hm (zA1 (pv 0) (zA1 (pv 1) zA4)))) (zAE (zW5 (pv 0) (pv 1) rfl)),zWX h⟩
structure Bd(K:qA2)(mg:Str->Option Value):Prop where
 d0:Def K mg "_law_digits" (top 42)
 d1:Def K mg "_law_added" (top 43)
 d2:Def K mg "_law_independent" (top 44)
 d3:Def K mg "_law_letters" (top 41)
 d4:Def K mg "_law_mixed" (top 38)
 d5:Def K mg "_law_number" (top 39)
 d6:Def K mg "_law_whole" (top 37)
 d7:Def K mg "_law_word" (top 40)
 d8:Def K mg "chosen_numbers" (top 34)
 d9:Def K mg "part_at" (top 12)
 d10:Def K mg "chosen_part" (top 33)
 d11:Def K mg "first_place" (top 9)
 d12:Def K mg "places_of" (top 8)
 d13:Def K mg "do_cross" (top 14)
 d14:Def K mg "letters_of" (top 7)
 d15:Def K mg "crossings" (top 11)
 d16:Def K mg "choice_table" (top 31)
 d17:Def K mg "place_order" (top 27)
 d18:Def K mg "choice_by" (top 28)
 d19:Def K mg "entry_at" (top 29)
 d20:Def K mg "net_by" (top 26)
 d21:Def K mg "joined" (top 20)
 d22:Def K mg "joined_end" (top 24)
 d23:Def K mg "round_of" (top 22)
 d24:Def K mg "rounds_of" (top 23)
 d25:Def K mg "rows_passed_once" (top 35)
 d26:Def K mg "passed_once" (top 32)
 d27:Def K mg "added" (top 13)
 d28:Def K mg "less_leaders" (top 18)
 d29:Def K mg "greatest_part" (top 17)
 d30:Def K mg "rest_of" (top 16)
 e0:mg "all" = none
 e1:mg "any" = none
 e2:mg "bool" = none
 e3:mg "enumerate" = none
 e4:mg "int" = none
 e5:mg "isinstance" = none
 e6:mg "len" = none
 e7:mg "list" = none
 e8:mg "min" = none
 e9:mg "range" = none
 e10:mg "set" = none
 e11:mg "sorted" = none
 e12:mg "sum" = none
 e13:mg "zip" = none
structure Bn(P:qJ8)(w:World)(K:qA2)(mg:Str->Option Value)(base:Heap):Type where
 S:Bd K mg
 wA:Addr
 yX:Value
 wB:Addr
 wQ:Value
 x_NoLetter:XIni P w K mg base "NoLetter" "letter" wA
 c_SEATS:RelV (V.int 4) yX/\mg "SEATS" = some yX
 c_MOST_PLACES:RelV (V.int 8) wQ/\mg "MOST_PLACES" = some wQ
 z_TooMany:XNo K mg "TooMany" wB
variable(B:Bn P w K mg base)
include B
theorem zIY:Has P w K mg base "_law_digits" 1 ["_law_rest","_law_base","_law_many"] (sp0 K mg 9 zDJ):=by
 letI:Kc:=⟨K⟩;exact dfM B.S.d0 wK (fun _ _ _ _ _ _=>uw3 fun _ _ _=>rfl) fun hr hu h=>⟨_,(zA5 (pst 3 wK.nd (zDT zA4))
   (zA5 (zCO qJk rfl (zBA rfl B.S.e9 (zA1 (pn 2) zA4)) (zBO (i:=4) wK.nd rfl oi) (zA5 (zDE (zGJ qAy qCt qCu zKH (pn 3) (zA1 (zAT zF5 (pn 0) (pn 1)) zA4)))
   (zAE (pst 0 wK.nd (zAT zH4 (pn 0) (pn 1))))))
   (zAE (zAS (pn 3))))),(zAX (zAI (zAM (n:=9) [] (zE2 (n:=8) zA6))
   (zAI (zG6 (zGM (zA2 (de_v 2) zA6)) (zAI (zZ2 3 (n:=0) (zAG zCZ (de_v 0) (de_v 1)))
   (zAM (n:=0) [0,1] (zAG zHF (de_v 0) (de_v 1)))))
   (zDL 3))) h)⟩
theorem zKE:Has P w K mg base "_law_added" 1 ["_law_one","_law_other"] (sp0 K mg 1 zB3):=by
 letI:Kc:=⟨K⟩;exact dfM B.S.d1 zNG (fun _ _ _ _ _ _=>uw2 fun _ _=>rfl) fun hr hu h=>⟨_,(zAE (zAS (zB5 rfl (cn ["0","1","_law_a","_law_b"] 2 (by kernel_rfl)) (zdH (K:=K) rfl B.S.e13 (zA1 (pn 0) (zA1 (pn 1) zA4))) (fun _ _ _ _=>zG1 (K:=K) rfl (zBN (pgn 2) (zBN (pgn 3) zG0))) (fun _ _ _ _=>zBB) (fun _ _ _ _=>(zAT zF5 (zAT zEF (pn 2) (pn 3)) zAH))))),(zAX (zB4 (n:=1) [0,1] (zAZ (n:=0) (zeY (zA2 (de_v 0) (zA2 (de_v 1) zA6))) (zJ7 (zBM 2 (zBM 3 zFW)) rfl) zC1 (zAG zCZ (zAG zCN (de_v 2) (de_v 3)) (dz zAF)))) h)⟩
theorem zEX:Has P w K mg base "_law_independent" 2 ["_law_rows","_law_size"] (sp0 K mg 0 zBY):=by
 letI:Kc:=⟨K⟩;exact dfM B.S.d2 wD (fun _ _ _ _ _ _=>uw2 fun _ _=>rfl) fun hr hu h=>⟨_,(zA5 (zFY (i:=0) wD.nd rfl oi rfl (cn ["0","_law_size","_law_place","3","4","_law_row"] 1 (by kernel_rfl)) (zCD (K:=K) (pn 0)) (fun _ _ _ _=>(pgn 5)) (fun _ _ _ _=>zBB) (fun _ _ _ _=>(zB5 rfl (cn ["0","1","2","3","4","_law_row","_law_place"] 1 (by kernel_rfl)) (zBA rfl B.S.e9 (zA1 (pn 1) zA4)) (fun _ _ _ _=>(pgn 6)) (fun _ _ _ _=>zBB) (fun _ _ _ _=>(zD9 zUR rfl B.S.e4 boot_int (zA1 (zHN (u_in (K:=K)) (pn 6) (pn 5) rfl) zA4))))))
   (zA5 (zCO qJk rfl (zBA rfl B.S.e9 (zA1 (pn 1) zA4)) (zBO (i:=2) wD.nd rfl oi) (zA5 (pst 3 wD.nd (zB5 rfl (cn ["0","1","_law_place","3","4","_law_row"] 1 (by kernel_rfl)) (zCD (K:=K) (pn 0)) (fun _ _ _ _=>(pgn 5)) (fun _ _ _ _=>zHK (zDD (u_eq hu) (zBX (zBU (K:=K)) (pn 5) (pn 2) (fun _ _=>rfl)) zAH (zBQ _))) (fun _ _ _ _=>(pn 5))))
   (zAE (zFZ (zDD u_gt (zAJ (zBK (K:=K)) rfl B.S.e6 qJo (zA1 (pn 3) zA4)) zAH (zBQ _)) (zA5 (zFY (i:=4) wD.nd rfl oi rfl (cn ["0","1","_law_place","3","4","_law_row"] 1 (by kernel_rfl)) (zCD (K:=K) (pn 0)) (fun _ _ _ _=>(pgn 5)) (fun _ _ _ _=>zHK (zDD (u_eq hu) (zBX (zBU (K:=K)) (pn 5) (pn 2) (fun _ _=>rfl)) zAH (zBQ _))) (fun _ _ _ _=>(pn 5)))
   (zAE (pst 0 wD.nd (zAT zEF (pn 4) (zB5 rfl (cn ["0","1","2","_law_some","4","_law_row"] 1 (by kernel_rfl)) (zCD (K:=K) (zK9 (u_sl (K:=K)) (pn 3) (zK7 zAH) zS6)) (fun _ _ _ _=>(pgn 5)) (fun _ _ _ _=>zBB) (fun _ _ _ _=>(zBI (zKE B) (by decide) hr rfl (zA1 (pn 5) (zA1 (zBX (zBU (K:=K)) (pn 3) zAH (fun _ _=>rfl)) zA4))))))))) zC3))))
   (zAE (zAS (zHN (u_eq hu) (pn 0) (zDT zA4) (zBQ _)))))),(zAX (zAI (zAM (n:=2) [0,2,1] (zAZ (n:=1) (zCE (de_v 0)) (zAY 5) zC1 (zAZ (n:=0) (zGM (zA2 (de_v 1) zA6)) (zAY 6) zC1 (zBT zf6 (zA2 (zAG zVR (de_v 6) (de_v 5)) zA6)))))
   (zAI (zG6 (zGM (zA2 (de_v 1) zA6)) (zAI (zAM (n:=1) [0,2] (zAZ (n:=0) (zCE (de_v 0)) (zAY 5) (dt_b (dz (zAG zHE (zAG zC0 (de_v 5) (de_v 2)) (dz zAF)))) (de_v 5)))
   (zG5 (dt_b (dz (zAG zHG (dz (zBT zBL (zA2 (de_v 3) zA6))) (dz zAF)))) (zAI (zAM (n:=1) [0,2] (zAZ (n:=0) (zCE (de_v 0)) (zAY 5) (dt_b (dz (zAG zHE (zAG zC0 (de_v 5) (de_v 2)) (dz zAF)))) (de_v 5)))
   (zAM (n:=1) [4,3] (zAG zCN (de_v 4) (zAZ (n:=1) (zCE (zbH (de_v 3) (do_e (dz zAF)) zeW)) (zAY 5) zC1 (zAU (zA2 (de_v 5) (zA2 (zAG zC0 (de_v 3) (dz zAF)) zA6))))))) zDB)))
   (zB4 (n:=0) [0] (zAG zHE (de_v 0) (zE2 (n:=8) zA6))))) h)⟩
theorem zHT:Has P w K mg base "_law_letters" 1 ["_law_word_here"] (sp0 K mg 0 zB7):=by
 letI:Kc:=⟨K⟩;exact dfM B.S.d3 zJ4 (fun _ _ _ _ _ _=>uw1 fun _=>rfl) fun hr hu h=>⟨_,(zAE (zAS (zIU qB5 qEc qEd zKG zJF (zA1 (zAJ (zTD rfl) rfl B.S.e11 boot_sorted (zA1 (zD9 (zYM rfl) rfl B.S.e10 zN6 (zA1 (pn 0) zA4)) zA4)) zA4)))),(zAX (zB4 (n:=0) [0] (zIZ zNV (dz zJM) (zA2 (zAL (zZ5 (de_v 0))) zA6))) h)⟩
theorem zKD:Has P w K mg base "_law_mixed" 1 ["_law_script","_law_k"] (sp0 K mg 0 zCT):=by
 letI:Kc:=⟨K⟩;exact dfM B.S.d4 wM (fun _ _ _ _ _ _=>uw2 fun _ _=>rfl) fun hr hu h=>⟨_,(zA5 (pst 2 wM.nd zAH)
   (zA5 (zFZ (zDD u_gt (zAJ (zBK (K:=K)) rfl B.S.e6 qJo (zA1 (pn 0) zA4)) zAH (zBQ _)) (zAE (pst 2 wM.nd (zBX (zBU (K:=K)) (pn 0) (zAT zF5 (pn 1) (zAJ (zBK (K:=K)) rfl B.S.e6 qJo (zA1 (pn 0) zA4))) (fun _ _=>rfl)))) zC3)
   (zA5 (pst 3 wM.nd (zAT zF5 (zAT zEH (zAT zEF (zAT zF5 (pn 2) zAH) (zAT zEH zAH (zAT zEF (pn 1) zAH))) zAH) zAH))
   (zAE (zAS (zAT zF5 (zAT zEH (pn 3) zAH) zAH)))))),(zAX (zAI (zAM (n:=0) [] zAF)
   (zAI (zG5 (dt_b (dz (zAG zHG (dz (zBT zBL (zA2 (de_v 0) zA6))) (dz zAF)))) (zAM (n:=0) [0,1] (zAG zC0 (de_v 0) (dz (zAG zCZ (de_v 1) (dz (zBT zBL (zA2 (de_v 0) zA6))))))) zDB)
   (zAI (zAM (n:=0) [2,1] (zAG zCZ (dz (zAG zEI (zAG zCN (dz (zAG zCZ (de_v 2) (dz zAF))) (dz (zAG zEI (dz zAF) (zAG zCN (de_v 1) (dz zAF))))) (dz zAF))) (dz zAF)))
   (zB4 (n:=0) [3] (zAG zCZ (dz (zAG zEI (de_v 3) (dz zAF))) (dz zAF)))))) h)⟩
theorem zEJ:Has P w K mg base "_law_number" 2 ["_law_script","_law_k"] (sp0 K mg 1 zCH):=by
 letI:Kc:=⟨K⟩;exact dfM B.S.d5 wH (fun _ _ _ _ _ _=>uw2 fun _ _=>rfl) fun hr hu h=>⟨_,(zA5 (pst 2 wH.nd zAH)
   (zA5 (zFZ (pt_w (zdD (zDD u_gt (zAJ (zBK (K:=K)) rfl B.S.e6 qJo (zA1 (pn 0) zA4)) zAH (zBQ _)) (za3 (zDD (u_eq hu) (zAT zF5 (zBX (zBU (K:=K)) (pn 0) zAH (fun _ _=>rfl)) zAH) zAH (zBQ _))))) (zA5 (zFZ (zDD u_lt (pn 1) (zAJ (zBK (K:=K)) rfl B.S.e6 qJo (zA1 (pn 0) zA4)) (zBQ _)) (zAE (pst 2 wH.nd (zAT zH4 (zAT zF5 (zBX (zBU (K:=K)) (pn 0) (pn 1) (fun _ _=>rfl)) (zAT zEH zAH (zAT zcI zAH zAH))) (zAT zZM zAH (zAJ (zUQ rfl) rfl B.S.e8 boot_min (zA1 (pn 1) (zA1 zAH zA4))))))) zC3)
   (zAE (zAS (pn 2)))) zC3)
   (zA5 (zCO qJk rfl (zBA rfl B.S.e9 (zA1 zAH zA4)) (zBO (i:=3) wH.nd rfl oi) (zAE (pst 2 wH.nd (zAT zEF (zAT zEH (pn 2) zAH) (zBI (zKD B) (by decide) hr rfl (zA1 (pn 0) (zA1 (zAT zEF (zAT zEH zAH (pn 1)) (pn 3)) zA4)))))))
   (zAE (zAS (zAT zF5 (pn 2) (zAT zcI zAH zAH))))))),(zAX (zAI (zAM (n:=0) [] zAF)
   (zAI (zG5 (zeT (dt_b (dz (zAG zHG (dz (zBT zBL (zA2 (de_v 0) zA6))) (dz zAF)))) (dt_b (dz (zAG zHE (dz (zAG zCZ (zAG zC0 (de_v 0) (dz zAF)) (dz zAF))) (dz zAF))))) (zAI (zG5 (dt_b (dz (zAG zHG (de_v 1) (dz (zBT zBL (zA2 (de_v 0) zA6)))))) (zAM (n:=0) [0,1] (zAG zHF (dz (zAG zCZ (zAG zC0 (de_v 0) (de_v 1)) (dz (zAG zEI (dz zAF) (dz (zAG zY7 (dz zAF) (dz zAF))))))) (dz (zAG zRU (dz zAF) (dz (zBT zf5 (zA2 (de_v 1) (zA2 zAF zA6)))))))) zDB)
   (zDL 2)) zDB)
   (zAI (zG6 (zGM (zA2 zAF zA6)) (zAM (n:=1) [2,0,3,1] (zAG zCN (dz (zAG zEI (de_v 2) (dz zAF))) (zAU (zA2 (de_v 0) (zA2 (zAL (zAG zCN (dz (zAG zEI (dz zAF) (de_v 1))) (de_v 3))) zA6))))))
   (zB4 (n:=1) [2] (zAG zCZ (de_v 2) (dz (zAG zY7 (dz zAF) (dz zAF)))))))) h)⟩
theorem zKC:Has P w K mg base "_law_whole" 1 ["_law_found"] (sp0 K mg 0 zBS):=by
 letI:Kc:=⟨K⟩;exact dfM B.S.d6 zNF (fun _ _ _ _ _ _=>uw1 fun _=>rfl) fun hr hu h=>⟨_,(zAE (zAS (zdM (zAJ zDV rfl B.S.e5 qLq (zA1 (pn 0) (zA1 (zNY (v:=.ty "int") rfl B.S.e4 boot_int rfl) zA4))) (zYG (zfZ (zAJ zDV rfl B.S.e5 qLq (zA1 (pn 0) (zA1 (zNY (v:=.ty "bool") rfl B.S.e2 boot_bool rfl) zA4)))))))),(zAX (zB4 (n:=0) [0] (zZ6 (dz (zUC (by decide) (de_v 0))) (zf1 (dz (zUC (by decide) (de_v 0)))))) h)⟩
theorem zMB:Has P w K mg base "_law_word" 1 ["_law_number_here","_law_most"] (sp0 K mg 0 zD4):=by
 letI:Kc:=⟨K⟩;exact dfM B.S.d7 wC (fun _ _ _ _ _ _=>uw2 fun _ _=>rfl) fun hr hu h=>⟨_,(zA5 (pst 2 wC.nd (zAT zEF zAH (zAT zF5 (pn 0) (pn 1))))
   (zA5 (pst 3 wC.nd (zAT zH4 (pn 0) (pn 1)))
   (zA5 (pst 4 wC.nd (zD9 (zaU (K:=K) rfl) rfl B.S.e7 qMx (zA1 zJF zA4)))
   (zA5 (pst 5 wC.nd (zDT zA4))
   (zA5 (zCO qJk rfl (zBA rfl B.S.e9 (zA1 (pn 2) zA4)) (zBO (i:=6) wC.nd rfl oi) (zA5 (pst 7 wC.nd (zGJ qAy qG7 qG8 zSV (pn 4) (zA1 (zAT zF5 (pn 3) (zAJ (zBK (K:=K)) rfl B.S.e6 qJo (zA1 (pn 4) zA4))) zA4)))
   (zA5 (pst 3 wC.nd (zAT zH4 (pn 3) (zAT zEF (zAJ (zBK (K:=K)) rfl B.S.e6 qJo (zA1 (pn 4) zA4)) zAH)))
   (zAE (zDE (zGJ qAy qDk qDl zO4 (pn 5) (zA1 (zDT (zA1 (pn 7) (zA1 (pn 7) zA4))) zA4)))))))
   (zA5 (pst 8 wC.nd zJF)
   (zA5 (zCO qJk rfl (zBA rfl B.S.e9 (zA1 (zAT zEH zAH (pn 2)) zA4)) (zBO (i:=6) wC.nd rfl oi) (zA5 (pst 8 wC.nd (zAT zEF (pn 8) (zGJ qAy qG7 qG8 zSV (pn 5) (zA1 (zAT zF5 (pn 3) (zAJ (zBK (K:=K)) rfl B.S.e6 qJo (zA1 (pn 5) zA4))) zA4))))
   (zAE (pst 3 wC.nd (zAT zH4 (pn 3) (zAT zEF (zAJ (zBK (K:=K)) rfl B.S.e6 qJo (zA1 (pn 5) zA4)) zAH))))))
   (zAE (zAS (pn 8)))))))))),(zAX (zAI (zAM (n:=1) [0,1] (zAG zCN (dz zAF) (dz (zAG zCZ (de_v 0) (de_v 1)))))
   (zAI (zAM (n:=0) [0,1] (zAG zHF (de_v 0) (de_v 1)))
   (zAI (zAM (n:=1) [] (zBT zXR (zA2 zJM zA6)))
   (zAI (zAM (n:=9) [] (zE2 (n:=8) zA6))
   (zAI (zG6 (zGM (zA2 (de_v 2) zA6)) (zAI (zeU 7 4 (dz (zAG zCZ (de_v 3) (dz (zBT zBL (zA2 (de_v 4) zA6))))))
   (zAI (zAM (n:=0) [3,4] (zAG zHF (de_v 3) (zAG zCN (dz (zBT zBL (zA2 (de_v 4) zA6))) (dz zAF))))
   (zZ1 5 (n:=0) (zE2 (n:=0) (zA2 (de_v 7) (zA2 (de_v 7) zA6)))))))
   (zAI (zAM (n:=0) [] zJM)
   (zAI (zG6 (zGM (zA2 (zAG zEI (dz zAF) (de_v 2)) zA6)) (zAI (zU4 8 5 (dz (zAG zCZ (de_v 3) (dz (zBT zBL (zA2 (de_v 5) zA6))))))
   (zAM (n:=0) [3,5] (zAG zHF (de_v 3) (zAG zCN (dz (zBT zBL (zA2 (de_v 5) zA6))) (dz zAF))))))
   (zDL 8)))))))) h)⟩
theorem zDA:Has P w K mg base "chosen_numbers" 1 ["choice"] (sp0 K mg 1 zAW):=by
 letI:Kc:=⟨K⟩;exact dfM B.S.d8 zGN (fun _ _ _ _ _ _=>uw1 fun _=>rfl) fun hr hu h=>⟨_,(zAE (zAS (zB5 rfl (cn ["choice","number"] 1 (by kernel_rfl)) (zBA rfl B.S.e9 (zA1 (zAJ (zBK (K:=K)) rfl B.S.e6 qJo (zA1 (pn 0) zA4)) zA4)) (fun _ _ _ _=>(pgn 1)) (fun _ _ _ _=>zHK (zDD (u_ne hu) (zBX (zBU (K:=K)) (pn 0) (pn 1) (fun _ _=>rfl)) zAH (zBQ _))) (fun _ _ _ _=>(pn 1))))),(zAX (zB4 (n:=1) [0] (zAZ (n:=0) (zGM (zA2 (zBT zBL (zA2 (de_v 0) zA6)) zA6)) (zAY 1) (dt_b (dz (zAG zVQ (zAG zC0 (de_v 0) (de_v 1)) (dz zAF)))) (de_v 1))) h)⟩
theorem zQJ:Has P w K mg base "part_at" 1 ["table","numbers"] (sp0 K mg 2 zDI):=by
 letI:Kc:=⟨K⟩;exact dfM B.S.d9 zV0 (fun _ _ _ _ _ _=>uw2 fun _ _=>rfl) fun hr hu h=>⟨_,(zAE (zAS (zB5 rfl (cn ["table","numbers","i"] 1 (by kernel_rfl)) (zCD (K:=K) (pn 1)) (fun _ _ _ _=>(pgn 2)) (fun _ _ _ _=>zBB) (fun _ _ _ _=>(zB5 rfl (cn ["table","1","i","j"] 1 (by kernel_rfl)) (zCD (K:=K) (pn 1)) (fun _ _ _ _=>(pgn 3)) (fun _ _ _ _=>zBB) (fun _ _ _ _=>(zBX (zBU (K:=K)) (zBX (zBU (K:=K)) (pn 0) (pn 2) (fun _ _=>rfl)) (pn 3) (fun _ _=>rfl)))))))),(zAX (zB4 (n:=2) [1,0] (zAZ (n:=1) (zCE (de_v 1)) (zAY 2) zC1 (zAZ (n:=0) (zCE (de_v 1)) (zAY 3) zC1 (zAG zC0 (zAG zC0 (de_v 0) (de_v 2)) (de_v 3))))) h)⟩
theorem zIX:Has P w K mg base "chosen_part" 2 ["table","choice"] (sp0 K mg 2 zCG):=by
 letI:Kc:=⟨K⟩;exact dfM B.S.d10 wG (fun _ _ _ _ _ _=>uw2 fun _ _=>rfl) fun hr hu h=>⟨_,(zA5 (pst 2 wG.nd (zBI (zDA B) (by decide) hr rfl (zA1 (pn 1) zA4)))
   (zA5 (pst 3 wG.nd (zBI (zQJ B) (by decide) hr rfl (zA1 (pn 0) (zA1 (pn 2) zA4))))
   (zA5 (zCO qJk rfl (zGR (K:=K) rfl B.S.e3 (zA1 (pn 2) zA4)) (zG1 (K:=K) rfl (zBN (zBO (i:=4) wG.nd rfl oi) (zBN (zBO (i:=5) wG.nd rfl oi) zG0))) (zAE (zS2 (zKA (zDD (u_eq hu) (zBX (zBU (K:=K)) (pn 1) (pn 5) (fun _ _=>rfl)) zAH (zBQ _)) zAH zAH) (zSB (zBX (zBU (K:=K)) (pn 3) (pn 4) (fun _ _=>rfl)) (pn 4) zZN))))
   (zAE (zAS (pn 3)))))),(zAX (zAI (zAM (n:=1) [1] (zAU (zA2 (de_v 1) zA6)))
   (zAI (zAM (n:=2) [0,2] (zAU (zA2 (de_v 0) (zA2 (de_v 2) zA6))))
   (zAI (zMV [2] (zXI (zA2 (de_v 2) zA6)) (zJ7 (zBM 4 (zBM 5 zFW)) rfl) (zXG 3 (n:=0) (de_v 4) (de_v 4) (zUD (dt_b (dz (zAG zHE (zAG zC0 (de_v 1) (de_v 5)) (dz zAF)))) zAF zAF)))
   (zDL 3)))) h)⟩
theorem zIW:HasX P w K mg base "first_place" 3 ["text","letter"] (spE K mg 0 zDH):=by
 letI:Kc:=⟨K⟩;exact dfX B.S.d11 zLD (fun _ _ _ _ _ _=>uw2 fun _ _=>rfl) fun hr hu h=>⟨_,(zA5 (zFZ (pt_w (zdC (zDD (u_ne hu) (zAJ (zBK (K:=K)) rfl B.S.e6 qJo (zA1 (pn 1) zA4)) zAH (zBQ _)) (zYB (zDD (zRD (K:=K)) (pn 1) (pn 0) rfl)))) (zAE (zPA (zdJ B.x_NoLetter hr (by decide) zCU rfl (zA1 (pn 1) zA4)) zCU rfl)) zC3)
   (zAE (zAS (zIU qB5 qCm qCn zFG (pn 0) (zA1 (pn 1) zA4))))),(zAX (zAI (zG5 (zeS (dt_b (dz (zAG zVQ (dz (zBT zBL (zA2 (de_v 1) zA6))) (dz zAF)))) (dt_b (dz (zAG zVR (de_v 1) (de_v 0))))) (zU0 B.x_NoLetter (zA2 (de_v 1) zA6)) zDB)
   (zB4 (n:=0) [1,0] (zIZ zHH (de_v 0) (zA2 (de_v 1) zA6)))) h)⟩
theorem zM8:HasX P w K mg base "places_of" 4 ["word","letter"] (spE K mg 1 zEZ):=by
 letI:Kc:=⟨K⟩;exact dfX B.S.d12 zON (fun _ _ _ _ _ _=>uw2 fun _ _=>rfl) fun hr hu h=>⟨_,(zAE (zAS (zSD (zA1 (zHM (zIW B) (by decide) hr zCU rfl (zA1 (pn 0) (zA1 (pn 1) zA4))) (zA1 (zIU qB5 PySem.F.slot_str_rfind PySem.F.type_str_rfind zSU (pn 0) (zA1 (pn 1) zA4)) zA4))))),(zAX (zB4 (n:=1) [0,1] (zUB (n:=0) (zA2 (zE9 (zA2 (de_v 0) (zA2 (de_v 1) zA6))) (zA2 (zIZ zVS (de_v 0) (zA2 (de_v 1) zA6)) zA6)))) h)⟩
theorem zO2:HasX P w K mg base "do_cross" 5 ["word","one","other"] (spE K mg 0 zE8):=by
 letI:Kc:=⟨K⟩;exact dfX B.S.d13 uG (fun _ _ _ _ _ _=>uw3 fun _ _ _=>rfl) fun hr hu h=>⟨_,(zA5 (pst 3 uG.nd (zHM (zM8 B) (by decide) hr zCU rfl (zA1 (pn 0) (zA1 (pn 1) zA4))))
   (zAE (zAS (zHN (u_eq hu) (zIU qB5 PySem.F.slot_str_count PySem.F.type_str_count zSY (zK9 (u_sl (K:=K)) (pn 0) (zK7 (zAT zEF (zBX (zBU (K:=K)) (pn 3) zAH (fun _ _=>rfl)) zAH)) (zK7 (zBX (zBU (K:=K)) (pn 3) zAH (fun _ _=>rfl)))) (zA1 (pn 2) zA4)) zAH (zBQ _))))),(zAX (zAI (zAM (n:=1) [0,1] (zE9 (zA2 (de_v 0) (zA2 (de_v 1) zA6))))
   (zB4 (n:=0) [2,0,3] (zAG zHE (dz (zIZ zVT (zbH (de_v 0) (do_e (zAG zCN (zAG zC0 (de_v 3) (dz zAF)) (dz zAF))) (do_e (zAG zC0 (de_v 3) (dz zAF)))) (zA2 (de_v 2) zA6))) (dz zAF)))) h)⟩
theorem zDF:Has P w K mg base "letters_of" 1 ["word"] (sp0 K mg 0 zB7):=by
 letI:Kc:=⟨K⟩;exact dfM B.S.d14 zNE (fun _ _ _ _ _ _=>uw1 fun _=>rfl) fun hr hu h=>⟨_,(zAE (zAS (zIU qB5 qEc qEd zKG zJF (zA1 (zAJ (zTD rfl) rfl B.S.e11 boot_sorted (zA1 (zD9 (zYM rfl) rfl B.S.e10 zN6 (zA1 (pn 0) zA4)) zA4)) zA4)))),(zAX (zB4 (n:=0) [0] (zIZ zNV (dz zJM) (zA2 (zAL (zZ5 (de_v 0))) zA6))) h)⟩
theorem zM9:HasX P w K mg base "crossings" 6 ["word"] (spE K mg 2 zF0):=by
 letI:Kc:=⟨K⟩;exact dfX B.S.d15 uA (fun _ _ _ _ _ _=>uw1 fun _=>rfl) fun hr hu h=>⟨_,(zA5 (pst 1 uA.nd (zBI (zDF B) (by decide) hr rfl (zA1 (pn 0) zA4)))
   (zAE (zAS (zB5 rfl (cn ["word","letters","one"] 1 (by kernel_rfl)) (zCD (K:=K) (pn 1)) (fun _ _ _ _=>(pgn 2)) (fun _ _ _ _=>zBB) (fun _ _ _ _=>(zB5 rfl (cn ["word","1","one","other"] 1 (by kernel_rfl)) (zCD (K:=K) (pn 1)) (fun _ _ _ _=>(pgn 3)) (fun _ _ _ _=>zBB) (fun _ _ _ _=>(zKA (pt_m (zHM (zO2 B) (by decide) hr zTW rfl (zA1 (pn 0) (zA1 (pn 2) (zA1 (pn 3) zA4))))) zAH zAH)))))))),(zAX (zAI (zAM (n:=0) [0] (zDM (zA2 (de_v 0) zA6)))
   (zB4 (n:=2) [1,0] (zAZ (n:=1) (zCE (de_v 1)) (zAY 2) zC1 (zAZ (n:=0) (zCE (de_v 1)) (zAY 3) zC1 (zUD (dt_m (zUE (zA2 (de_v 0) (zA2 (de_v 2) (zA2 (de_v 3) zA6))))) zAF zAF))))) h)⟩
theorem zHS:HasX P w K mg base "choice_table" 7 ["word","choice"] (spE K mg 2 zD3):=by
 letI:Kc:=⟨K⟩;exact dfX B.S.d16 zJ3 (fun _ _ _ _ _ _=>uw2 fun _ _=>rfl) fun hr hu h=>⟨_,(zAE (zAS (zBI (zIX B) (by decide) hr rfl (zA1 (zHM (zM9 B) (by decide) hr zCU rfl (zA1 (pn 0) zA4)) (zA1 (pn 1) zA4))))),(zAX (zB4 (n:=2) [1,0] (zDM (zA2 (zAL (zE9 (zA2 (de_v 0) zA6))) (zA2 (de_v 1) zA6)))) h)⟩
theorem zC8:Has P w K mg base "place_order" 1 ["word"] (sp0 K mg 0 zAP):=by
 letI:Kc:=⟨K⟩;exact dfM B.S.d17 zLC (fun _ _ _ _ _ _=>uw1 fun _=>rfl) fun hr hu h=>⟨_,(zAE (zAS (zIU qB5 qEc qEd zKG zJF (zA1 (zB5 rfl (cn ["word","at","sign"] 2 (by kernel_rfl)) (zW7 (K:=K) rfl B.S.e3 (zA1 (pn 0) zA4)) (fun _ _ _ _=>zG1 (K:=K) rfl (zBN (pgn 1) (zBN (pgn 2) zG0))) (fun _ _ _ _=>zHK (zDD (u_eq hu) (zIU qB5 qCm qCn zFG (pn 0) (zA1 (pn 2) zA4)) (pn 1) (zBQ _))) (fun _ _ _ _=>(pn 2))) zA4)))),(zAX (zB4 (n:=0) [0] (zIZ zNV (dz zJM) (zA2 (zAL (zAZ (n:=0) (zeZ (zA2 (de_v 0) zA6)) (zJ7 (zBM 1 (zBM 2 zFW)) rfl) (dt_b (dz (zAG zHE (dz (zIZ zHH (de_v 0) (zA2 (de_v 2) zA6))) (de_v 1)))) (de_v 2))) zA6))) h)⟩
theorem zMA:Has P w K mg base "choice_by" 2 ["word","choice"] (sp0 K mg 1 zCS):=by
 letI:Kc:=⟨K⟩;exact dfM B.S.d18 wX (fun _ _ _ _ _ _=>uw2 fun _ _=>rfl) fun hr hu h=>⟨_,(zA5 (pst 2 wX.nd (zBI (zDF B) (by decide) hr rfl (zA1 (pn 0) zA4)))
   (zAE (zAS (zB5 rfl (cn ["0","choice","letters","letter"] 1 (by kernel_rfl)) (zCD (K:=K) (zBI (zC8 B) (by decide) hr rfl (zA1 (pn 0) zA4))) (fun _ _ _ _=>(pgn 3)) (fun _ _ _ _=>zBB) (fun _ _ _ _=>(zBX (zBU (K:=K)) (pn 1) (zIU qB5 qCm qCn zFG (pn 2) (zA1 (pn 3) zA4)) (fun _ _=>rfl))))))),(zAX (zAI (zAM (n:=0) [0] (zAU (zA2 (de_v 0) zA6)))
   (zB4 (n:=1) [1,0,2] (zAZ (n:=0) (zCE (zAU (zA2 (de_v 0) zA6))) (zAY 3) zC1 (zAG zC0 (de_v 1) (dz (zIZ zHH (de_v 2) (zA2 (de_v 3) zA6))))))) h)⟩
theorem zO1:Has P w K mg base "entry_at" 2 ["word","at"] (sp0 K mg 1 zCL):=by
 letI:Kc:=⟨K⟩;exact dfM B.S.d19 uC (fun _ _ _ _ _ _=>uw2 fun _ _=>rfl) fun hr hu h=>⟨_,(zA5 (pst 2 uC.nd (zIU qB5 qCm qCn zFG (zBI (zC8 B) (by decide) hr rfl (zA1 (pn 0) zA4)) (zA1 (zBX (zBU (K:=K)) (pn 0) (pn 1) (fun _ _=>rfl)) zA4)))
   (zAE (zAS (zAT zEF (zAT zEH (pn 2) (zG2 rfl B.c_SEATS.2 B.c_SEATS.1)) (zKA (zDD (u_eq hu) (zIU qB5 qCm qCn zFG (pn 0) (zA1 (zBX (zBU (K:=K)) (pn 0) (pn 1) (fun _ _=>rfl)) zA4)) (pn 1) (zBQ _)) zAH zAH))))),(zAX (zAI (zAM (n:=0) [0,1] (zIZ zHH (zAU (zA2 (de_v 0) zA6)) (zA2 (zAG zC0 (de_v 0) (de_v 1)) zA6)))
   (zB4 (n:=1) [2,1,0] (zAG zCN (dz (zAG zEI (de_v 2) (dz zAF))) (dz (zUD (dt_b (dz (zAG zHE (dz (zIZ zHH (de_v 0) (zA2 (zAG zC0 (de_v 0) (de_v 1)) zA6))) (de_v 1)))) zAF zAF))))) h)⟩
theorem zSP:HasX P w K mg base "net_by" 3 ["word"] (spE K mg 1 zDG):=by
 letI:Kc:=⟨K⟩;exact dfX B.S.d20 wO (fun _ _ _ _ _ _=>uw1 fun _=>rfl) fun hr hu h=>⟨_,(zA5 (zFZ (zDD u_gt (zAJ (zBK (K:=K)) rfl B.S.e6 qJo (zA1 (zBI (zC8 B) (by decide) hr rfl (zA1 (pn 0) zA4)) zA4)) (zG2 rfl B.c_MOST_PLACES.2 B.c_MOST_PLACES.1) (zBQ _)) (zAE (zPA (zdK B.z_TooMany rfl (zA1 zJF zA4)) zCU rfl)) zC3)
   (zA5 (zFY (i:=1) wO.nd rfl oi rfl (cn ["word","1","2","3","4","5","at"] 1 (by kernel_rfl)) (zBA rfl B.S.e9 (zA1 (zAJ (zBK (K:=K)) rfl B.S.e6 qJo (zA1 (pn 0) zA4)) zA4)) (fun _ _ _ _=>(pgn 6)) (fun _ _ _ _=>zBB) (fun _ _ _ _=>(zBI (zO1 B) (by decide) hr rfl (zA1 (pn 0) (zA1 (pn 6) zA4)))))
   (zA5 (pst 2 wO.nd (zAT zfP (zDT (zA1 zAH zA4)) (zAT zEH zAH (zAJ (zBK (K:=K)) rfl B.S.e6 qJo (zA1 (pn 0) zA4)))))
   (zA5 (zCO za8 rfl (zGR (K:=K) rfl B.S.e3 (zA1 (pn 1) zA4)) (zG1 (K:=K) rfl (zBN (zBO (i:=3) wO.nd rfl oi) (zBN (zBO (i:=4) wO.nd rfl oi) zG0))) (zA5 (pst 5 wO.nd (zAT zEF (zBX (zBU (K:=K)) (pn 1) (zAT zZM (pn 3) zAH) (fun _ _=>rfl)) zAH))
   (zA5 (zS2 (pn 4) (zSB (pn 2) (pn 5) zZN))
   (zAE (zS2 (pn 5) (zSB (pn 2) (pn 4) zZN))))))
   (zAE (zAS (pn 2))))))),(zAX (zAI (zG5 (dt_b (dz (zAG zHG (dz (zBT zBL (zA2 (zDM (zA2 (de_v 0) zA6)) zA6))) (dz zAF)))) (zU1 B.z_TooMany (zA2 zJM zA6)) zDB)
   (zAI (zAM (n:=2) [0,3] (zAZ (n:=1) (zGM (zA2 (zBT zBL (zA2 (de_v 0) zA6)) zA6)) (zAY 6) zC1 (zDM (zA2 (de_v 0) (zA2 (de_v 6) zA6)))))
   (zAI (zAM (n:=1) [0] (zAG zcV (zE2 (n:=0) (zA2 zAF zA6)) (dz (zAG zEI (dz zAF) (dz (zBT zBL (zA2 (de_v 0) zA6)))))))
   (zAI (zMV [1] (zXI (zA2 (de_v 1) zA6)) (zJ7 (zBM 3 (zBM 4 zFW)) rfl) (zAI (zAM (n:=1) [1,3] (zAG zCN (zAG zC0 (de_v 1) (dz (zAG zRU (de_v 3) (dz zAF)))) (dz zAF)))
   (zAI (zU2 2 (n:=0) (de_v 5) (de_v 4))
   (zU2 2 (n:=0) (de_v 4) (de_v 5)))))
   (zDL 2))))) h)⟩
theorem zSQ:Has P w K mg base "joined" 1 ["way","seat"] (sp0 K mg 0 zKJ):=by
 letI:Kc:=⟨K⟩;exact dfM B.S.d21 zXW (fun _ _ _ _ _ _=>uw2 fun _ _=>rfl) fun hr hu h=>⟨_,(zAE (zAS (zAT zcH (pn 1) (zAT zEF (pn 0) zAH)))),(zAX (zB4 (n:=0) [1,0] (zAG zY6 (de_v 1) (zAG zCN (de_v 0) (dz zAF)))) h)⟩
theorem zFD:Has P w K mg base "joined_end" 2 ["choice","end"] (sp0 K mg 1 zBE):=by
 letI:Kc:=⟨K⟩;exact dfM B.S.d22 wV (fun _ _ _ _ _ _=>uw2 fun _ _=>rfl) fun hr hu h=>⟨_,(zA5 (pst 2 wV.nd (zAT zH4 (pn 1) (zG2 rfl B.c_SEATS.2 B.c_SEATS.1)))
   (zAE (zAS (zAT zEF (zAT zEH (pn 2) (zG2 rfl B.c_SEATS.2 B.c_SEATS.1)) (zBI (zSQ B) (by decide) hr rfl (zA1 (zBX (zBU (K:=K)) (pn 0) (pn 2) (fun _ _=>rfl)) (zA1 (zAT zF5 (pn 1) (zG2 rfl B.c_SEATS.2 B.c_SEATS.1)) zA4))))))),(zAX (zAI (zAM (n:=0) [1] (zAG zHF (de_v 1) (dz zAF)))
   (zB4 (n:=1) [2,0,1] (zAG zCN (dz (zAG zEI (de_v 2) (dz zAF))) (zAU (zA2 (zAG zC0 (de_v 0) (de_v 2)) (zA2 (zAG zCZ (de_v 1) (dz zAF)) zA6)))))) h)⟩
theorem zO0:Has P w K mg base "round_of" 3 ["net","choice","end"] (sp0 K mg 1 zE7):=by
 letI:Kc:=⟨K⟩;exact dfM B.S.d23 wU (fun _ _ _ _ _ _=>uw3 fun _ _ _=>rfl) fun hr hu h=>⟨_,(zA5 (pst 3 wU.nd (zDT (zA1 (pn 2) (zA1 (zBI (zFD B) (by decide) hr rfl (zA1 (pn 1) (zA1 (pn 2) zA4))) zA4))))
   (zA5 (zW4 qJk (zDD (u_ne hu) (zBX (zBU (K:=K)) (pn 0) (zBX (zBU (K:=K)) (pn 3) (za7 zZO zAH) (fun _ _=>rfl)) (fun _ _=>rfl)) (pn 2) (zBQ _)) (zA5 (pst 4 wU.nd (zBX (zBU (K:=K)) (pn 0) (zBX (zBU (K:=K)) (pn 3) (za7 zZO zAH) (fun _ _=>rfl)) (fun _ _=>rfl)))
   (zAE (zDE (zGJ qAy qDk qDl zO4 (pn 3) (zA1 (zDT (zA1 (pn 4) (zA1 (zBI (zFD B) (by decide) hr rfl (zA1 (pn 1) (zA1 (pn 4) zA4))) zA4))) zA4))))))
   (zAE (zAS (pn 3))))),(zAX (zAI (zAM (n:=1) [2,1] (zE2 (n:=0) (zA2 (de_v 2) (zA2 (zAL (zAU (zA2 (de_v 1) (zA2 (de_v 2) zA6)))) zA6))))
   (zAI (zXE (dt_b (dz (zAG zVQ (zAG zC0 (de_v 0) (zAG zC0 (de_v 3) (dz (zbG zRV (dz zAF))))) (de_v 2)))) (zAI (zAM (n:=0) [0,3] (zAG zC0 (de_v 0) (zAG zC0 (de_v 3) (dz (zbG zRV (dz zAF))))))
   (zZ1 3 (n:=0) (zE2 (n:=0) (zA2 (de_v 4) (zA2 (zAL (zAU (zA2 (de_v 1) (zA2 (de_v 4) zA6)))) zA6))))))
   (zDL 3))) h)⟩
theorem zM7:Has P w K mg base "rounds_of" 4 ["net","choice"] (sp0 K mg 1 zCQ):=by
 letI:Kc:=⟨K⟩;exact dfM B.S.d24 wL (fun _ _ _ _ _ _=>uw2 fun _ _=>rfl) fun hr hu h=>⟨_,(zA5 (pst 2 wL.nd (zDT zA4))
   (zA5 (pst 3 wL.nd zWB)
   (zA5 (zCO qJk rfl (zBA rfl B.S.e9 (zA1 (zAJ (zBK (K:=K)) rfl B.S.e6 qJo (zA1 (pn 0) zA4)) zA4)) (zBO (i:=4) wL.nd rfl oi) (zAE (zFZ (zdF (zSH (zgI hr) (pn 4) (pn 3))) (zA5 (pst 5 wL.nd (zBI (zO0 B) (by decide) hr rfl (zA1 (pn 0) (zA1 (pn 1) (zA1 (pn 4) zA4)))))
   (zA5 (zDE (zGJ qAy qCt qCu zKH (pn 2) (zA1 (pn 5) zA4)))
   (zAE (zDE (zg0 PySem.F.plainAttrs_dict PySem.F.slot_dict_update PySem.F.type_dict_update (zaJ rfl) (pn 3) (zA1 (zB5 rfl (cn ["0","1","2","3","4","5","met"] 1 (by kernel_rfl)) (zCD (K:=K) (pn 5)) (fun _ _ _ _=>(pgn 6)) (fun _ _ _ _=>zBB) (fun _ _ _ _=>(zSD (zA1 (pn 6) (zA1 zSG zA4))))) zA4)))))) zC3)))
   (zAE (zAS (pn 2)))))),(zAX (zAI (zAM (n:=9) [] (zE2 (n:=8) zA6))
   (zAI (zAM (n:=1) [] zbK)
   (zAI (zG6 (zGM (zA2 (zBT zBL (zA2 (de_v 0) zA6)) zA6)) (zG5 (dt_B (dz (zbJ (de_v 4) (de_v 3)))) (zAI (zAM (n:=1) [0,1,4] (zAU (zA2 (de_v 0) (zA2 (de_v 1) (zA2 (de_v 4) zA6)))))
   (zAI (zU3 2 [5] (de_v 5))
   (zbE 3 (zAZ (n:=1) (zCE (de_v 5)) (zAY 6) zC1 (zUB (n:=0) (zA2 (de_v 6) (zA2 zUF zA6))))))) zDB))
   (zDL 2)))) h)⟩
theorem zEW:Has P w K mg base "rows_passed_once" 2 ["word","choice","ends"] (sp0 K mg 1 zB2):=by
 letI:Kc:=⟨K⟩;exact dfM B.S.d25 wF (fun _ _ _ _ _ _=>uw3 fun _ _ _=>rfl) fun hr hu h=>⟨_,(zA5 (pst 3 wF.nd (zBI (zDF B) (by decide) hr rfl (zA1 (pn 0) zA4)))
   (zA5 (pst 4 wF.nd (zBI (zC8 B) (by decide) hr rfl (zA1 (pn 0) zA4)))
   (zA5 (pst 5 wF.nd (zB5 rfl (cn ["0","1","2","3","order","5","end"] 1 (by kernel_rfl)) (zCD (K:=K) (pn 2)) (fun _ _ _ _=>(pgn 6)) (fun _ _ _ _=>zBB) (fun _ _ _ _=>(zBX (zBU (K:=K)) (pn 4) (zAT zH4 (pn 6) (zG2 rfl B.c_SEATS.2 B.c_SEATS.1)) (fun _ _=>rfl)))))
   (zAE (zAS (zB5 rfl (cn ["0","1","2","letters","4","passed","row","number"] 2 (by kernel_rfl)) (zGR (K:=K) rfl B.S.e3 (zA1 (zBI (zDA B) (by decide) hr rfl (zA1 (pn 1) zA4)) zA4)) (fun _ _ _ _=>zG1 (K:=K) rfl (zBN (pgn 6) (zBN (pgn 7) zG0))) (fun _ _ _ _=>zHK (zDD (u_eq hu) (zGJ qAy qDp qFd zSW (pn 5) (zA1 (zBX (zBU (K:=K)) (pn 3) (pn 7) (fun _ _=>rfl)) zA4)) zAH (zBQ _))) (fun _ _ _ _=>(pn 6)))))))),(zAX (zAI (zAM (n:=0) [0] (zAU (zA2 (de_v 0) zA6)))
   (zAI (zAM (n:=0) [0] (zAU (zA2 (de_v 0) zA6)))
   (zAI (zAM (n:=1) [4,2] (zAZ (n:=0) (zCE (de_v 2)) (zAY 6) zC1 (zAG zC0 (de_v 4) (dz (zAG zHF (de_v 6) (dz zAF))))))
   (zB4 (n:=1) [1,5,3] (zAZ (n:=0) (zXI (zA2 (zAL (zAU (zA2 (de_v 1) zA6))) zA6)) (zJ7 (zBM 6 (zBM 7 zFW)) rfl) (dt_b (dz (zAG zHE (dz (zbI zP1 (de_v 5) (zA2 (zAG zC0 (de_v 3) (de_v 7)) zA6))) (dz zAF)))) (de_v 6)))))) h)⟩
theorem zIV:HasX P w K mg base "passed_once" 5 ["word","choice"] (spE K mg 2 zCF):=by
 letI:Kc:=⟨K⟩;exact dfX B.S.d26 wR (fun _ _ _ _ _ _=>uw2 fun _ _=>rfl) fun hr hu h=>⟨_,(zA5 (pst 2 wR.nd (zBI (zM7 B) (by decide) hr rfl (zA1 (zHM (zSP B) (by decide) hr zCU rfl (zA1 (pn 0) zA4)) (zA1 (zBI (zMA B) (by decide) hr rfl (zA1 (pn 0) (zA1 (pn 1) zA4))) zA4))))
   (zAE (zAS (zB5 rfl (cn ["word","choice","2","ends"] 1 (by kernel_rfl)) (zCD (K:=K) (pn 2)) (fun _ _ _ _=>(pgn 3)) (fun _ _ _ _=>zBB) (fun _ _ _ _=>(zBI (zEW B) (by decide) hr rfl (zA1 (pn 0) (zA1 (pn 1) (zA1 (pn 3) zA4))))))))),(zAX (zAI (zAM (n:=1) [0,1] (zDM (zA2 (zAL (zE9 (zA2 (de_v 0) zA6))) (zA2 (zAL (zDM (zA2 (de_v 0) (zA2 (de_v 1) zA6)))) zA6))))
   (zB4 (n:=2) [0,1,2] (zAZ (n:=1) (zCE (de_v 2)) (zAY 3) zC1 (zDM (zA2 (de_v 0) (zA2 (de_v 1) (zA2 (de_v 3) zA6))))))) h)⟩
theorem zWF:Has P w K mg base "added" 1 ["one","other"] (sp0 K mg 1 zKK):=by
 letI:Kc:=⟨K⟩;exact dfM B.S.d27 zbZ (fun _ _ _ _ _ _=>uw2 fun _ _=>rfl) fun hr hu h=>⟨_,(zAE (zAS (zB5 rfl (cn ["one","other","j"] 1 (by kernel_rfl)) (zBA rfl B.S.e9 (zA1 (zAJ (zBK (K:=K)) rfl B.S.e6 qJo (zA1 (pn 0) zA4)) zA4)) (fun _ _ _ _=>(pgn 2)) (fun _ _ _ _=>zBB) (fun _ _ _ _=>(zAT zcH (zBX (zBU (K:=K)) (pn 0) (pn 2) (fun _ _=>rfl)) (zBX (zBU (K:=K)) (pn 1) (pn 2) (fun _ _=>rfl))))))),(zAX (zB4 (n:=1) [0,1] (zAZ (n:=0) (zGM (zA2 (zBT zBL (zA2 (de_v 0) zA6)) zA6)) (zAY 2) zC1 (zAG zY6 (zAG zC0 (de_v 0) (de_v 2)) (zAG zC0 (de_v 1) (de_v 2))))) h)⟩
theorem zHR:Has P w K mg base "less_leaders" 2 ["row","leaders"] (sp0 K mg 0 zBJ):=by
 letI:Kc:=⟨K⟩;exact dfM B.S.d28 wI (fun _ _ _ _ _ _=>uw2 fun _ _=>rfl) fun hr hu h=>⟨_,(zA5 (pst 2 wI.nd (pn 0))
   (zA5 (zCO qJk rfl (zCD (K:=K) (pn 1)) (zBO (i:=3) wI.nd rfl oi) (zAE (zFZ (zDD (u_eq hu) (zBX (zBU (K:=K)) (pn 2) (zGJ qAy qFa PySem.F.type_list_index zaK (pn 3) (zA1 zAH zA4)) (fun _ _=>rfl)) zAH (zBQ _)) (zAE (pst 2 wI.nd (zBI (zWF B) (by decide) hr rfl (zA1 (pn 2) (zA1 (pn 3) zA4))))) zC3)))
   (zAE (zAS (pn 2))))),(zAX (zAI (zAM (n:=0) [0] (de_v 0))
   (zAI (zMV [1] (zCE (de_v 1)) (zAY 3) (zG5 (dt_b (dz (zAG zHE (zAG zC0 (de_v 2) (dz (zbI zVU (de_v 3) (zA2 zAF zA6)))) (dz zAF)))) (zAM (n:=1) [2,3] (zAU (zA2 (de_v 2) (zA2 (de_v 3) zA6)))) zDB))
   (zDL 2))) h)⟩
theorem zGL:Has P w K mg base "greatest_part" 3 ["table"] (sp0 K mg 9 zCR):=by
 letI:Kc:=⟨K⟩;exact dfM B.S.d29 wE (fun _ _ _ _ _ _=>uw1 fun _=>rfl) fun hr hu h=>⟨_,(zA5 (pst 1 wE.nd (zDT zA4))
   (zA5 (pst 2 wE.nd (zDT zA4))
   (zA5 (zCO qJk rfl (zGR (K:=K) rfl B.S.e3 (zA1 (pn 0) zA4)) (zG1 (K:=K) rfl (zBN (zBO (i:=3) wE.nd rfl oi) (zBN (zBO (i:=4) wE.nd rfl oi) zG0))) (zA5 (pst 5 wE.nd (zBI (zHR B) (by decide) hr rfl (zA1 (pn 4) (zA1 (pn 2) zA4))))
   (zAE (zFZ (zDD (u_in (K:=K)) zAH (pn 5) rfl) (zA5 (zDE (zGJ qAy qCt qCu zKH (pn 1) (zA1 (pn 3) zA4)))
   (zAE (zDE (zGJ qAy qCt qCu zKH (pn 2) (zA1 (pn 5) zA4))))) zC3))))
   (zAE (zAS (pn 1)))))),(zAX (zAI (zAM (n:=9) [] (zE2 (n:=8) zA6))
   (zAI (zAM (n:=9) [] (zE2 (n:=8) zA6))
   (zAI (zMV [0] (zXI (zA2 (de_v 0) zA6)) (zJ7 (zBM 3 (zBM 4 zFW)) rfl) (zAI (zTZ 5 2 [4] (zAU (zA2 (de_v 4) (zA2 (de_v 2) zA6))))
   (zG5 (dt_b (dz (zAG zVR (dz zAF) (de_v 5)))) (zAI (zZ2 1 (n:=0) (de_v 3))
   (zU3 2 [5] (de_v 5))) zDB)))
   (zDL 1)))) h)⟩
theorem zQI:Has P w K mg base "rest_of" 4 ["table"] (sp0 K mg 0 zFH):=by
 letI:Kc:=⟨K⟩;exact dfM B.S.d30 zUZ (fun _ _ _ _ _ _=>uw1 fun _=>rfl) fun hr hu h=>⟨_,(zAE (zAS (zAT zZM (zAJ (zBK (K:=K)) rfl B.S.e6 qJo (zA1 (pn 0) zA4)) (zAJ (zBK (K:=K)) rfl B.S.e6 qJo (zA1 (zBI (zGL B) (by decide) hr rfl (zA1 (pn 0) zA4)) zA4))))),(zAX (zB4 (n:=0) [0] (zAG zRU (dz (zBT zBL (zA2 (de_v 0) zA6))) (dz (zBT zBL (zA2 (zAL (zAU (zA2 (de_v 0) zA6))) zA6))))) h)⟩
theorem zdX{f:Addr}{fd:qJr}(F:Fun K "law" "law" (top 45) f fd):FnOk P w K mg base CX0 8 f fd ["_law_script"] (zJ9 K):=by
 letI:Kc:=⟨K⟩;refine(F.ok wW (sp:=sp0 K mg 0 zMH) (fun vs H Q E h=>zNO h) (fun cdv A outer s H vs Q E hr h=>?_)).imp (zWR zWQ);have hu:=hr.units;exact⟨_,(zA5 (pst 1 wW.nd (zBI (zMB B) (by decide) hr rfl (zA1 (zBI (zEJ B) (by decide) hr rfl (zA1 (pn 0) (zA1 zAH zA4))) (zA1 zAH zA4))))
   (zA5 (pst 2 wW.nd (zBI (zIY B) (by decide) hr rfl (zA1 (zBI (zEJ B) (by decide) hr rfl (zA1 (pn 0) (zA1 zAH zA4))) (zA1 zAH (zA1 (zAJ (zBK (K:=K)) rfl B.S.e6 qJo (zA1 (zBI (zHT B) (by decide) hr rfl (zA1 (pn 1) zA4)) zA4)) zA4)))))
   (zA5 (pst 3 wW.nd (zHM (zHS B) (by decide) hr zTW rfl (zA1 (pn 1) (zA1 (zD9 (zTE (K:=K) rfl) rfl B.S.e7 qMx (zA1 (pn 2) zA4)) zA4))))
   (zA5 (pst 4 wW.nd (zAJ (zBK (K:=K)) rfl B.S.e6 qJo (zA1 (pn 3) zA4)))
   (zA5 (pst 5 wW.nd (zHM (zIV B) (by decide) hr zTW rfl (zA1 (pn 1) (zA1 (zD9 (zTE (K:=K) rfl) rfl B.S.e7 qMx (zA1 (pn 2) zA4)) zA4))))
   (zA5 (zFZ (pt_w (zdC (zYC (pt_m (zAJ zDV rfl B.S.e5 qLq (zA1 (pn 5) (zA1 (zNY (v:=.ty "list") rfl B.S.e7 qMx rfl) zA4))))) (zYB (zDD (u_ne hu) (zAJ (zBK (K:=K)) rfl B.S.e6 qJo (zA1 (pn 5) zA4)) (zAT zEF zAH (zBI (zQI B) (by decide) hr rfl (zA1 (pn 3) zA4))) (zBQ _))))) (zAE (zAS zSG)) zC3)
   (zA5 (pst 6 wW.nd (zDT zA4))
   (zA5 (zCO qJk rfl (zCD (K:=K) (pn 5)) (zBO (i:=7) wW.nd rfl oi) (zA5 (zFZ (zYC (pt_m (zAJ (zgD rfl) rfl B.S.e0 boot_all (zA1 (zB5 rfl (cn ["0","1","2","3","_law_size","5","6","7","_law_i"] 1 (by kernel_rfl)) (zCD (K:=K) (pn 7)) (fun _ _ _ _=>(pgn 8)) (fun _ _ _ _=>zBB) (fun _ _ _ _=>(zdM (zBI (zKC B) (by decide) hr rfl (zA1 (pn 8) zA4)) (zYG (zdL u_le u_lt zAH (pn 8) (pn 4)))))) zA4)))) (zAE (zAS zSG)) zC3)
   (zA5 (zFZ (pt_m (zAJ (ze6 rfl) rfl B.S.e1 boot_any (zA1 (zB5 rfl (cn ["0","1","2","_law_table","4","5","6","_law_row","_law_j"] 1 (by kernel_rfl)) (zBA rfl B.S.e9 (zA1 (pn 4) zA4)) (fun _ _ _ _=>(pgn 8)) (fun _ _ _ _=>zBB) (fun _ _ _ _=>(zHN (u_eq hu) (zAT zF5 (zAJ (zgB rfl) rfl B.S.e12 boot_sum (zA1 (zB5 rfl (cn ["0","1","2","_law_table","4","5","6","7","_law_j","_law_i"] 1 (by kernel_rfl)) (zCD (K:=K) (pn 7)) (fun _ _ _ _=>(pgn 9)) (fun _ _ _ _=>zBB) (fun _ _ _ _=>(zBX (zBU (K:=K)) (zBX (zBU (K:=K)) (pn 3) (pn 9) (fun _ _=>rfl)) (pn 8) (fun _ _=>rfl)))) zA4)) zAH) zAH (zBQ _)))) zA4))) (zAE (zAS zSG)) zC3)
   (zAE (zDE (zGJ qAy qDk qDl zO4 (pn 6) (zA1 (pn 7) zA4)))))))
   (zA5 (zFZ (pt_m (zAJ (ze6 rfl) rfl B.S.e1 boot_any (zA1 (zB5 rfl (cn ["0","1","2","3","4","5","_law_all_told","7","_law_i"] 1 (by kernel_rfl)) (zBA rfl B.S.e9 (zA1 (pn 4) zA4)) (fun _ _ _ _=>(pgn 8)) (fun _ _ _ _=>zBB) (fun _ _ _ _=>(zHN (zRD (K:=K)) (zGJ qAy qDp qFd zSW (pn 6) (zA1 (pn 8) zA4)) (zSD (zA1 zAH (zA1 zAH zA4))) rfl))) zA4))) (zAE (zAS zSG)) zC3)
   (zAE (zAS (zBI (zEX B) (by decide) hr rfl (zA1 (zK9 (u_sl (K:=K)) (pn 5) zS6 (zK7 (za7 zZO zAH))) (zA1 (pn 4) zA4)))))))))))))),(zAX (zAI (zAM (n:=0) [0] (zAU (zA2 (zAL (zAU (zA2 (de_v 0) (zA2 zAF zA6)))) (zA2 zAF zA6))))
   (zAI (zAM (n:=9) [0,1] (zAU (zA2 (zAL (zAU (zA2 (de_v 0) (zA2 zAF zA6)))) (zA2 zAF (zA2 (zBT zBL (zA2 (zAU (zA2 (de_v 1) zA6)) zA6)) zA6)))))
   (zAI (zAM (n:=2) [1,2] (zE9 (zA2 (de_v 1) (zA2 (zAL (zBT zIM (zA2 (de_v 2) zA6))) zA6))))
   (zAI (zAM (n:=0) [3] (zBT zBL (zA2 (de_v 3) zA6)))
   (zAI (zAM (n:=2) [1,2] (zE9 (zA2 (de_v 1) (zA2 (zAL (zBT zIM (zA2 (de_v 2) zA6))) zA6))))
   (zAI (zG5 (zeS (zZ0 (dt_m (dz (zUC (by decide) (de_v 5))))) (dt_b (dz (zAG zVQ (dz (zBT zBL (zA2 (de_v 5) zA6))) (zAG zCN (dz zAF) (zAU (zA2 (de_v 3) zA6))))))) (zB4 (n:=0) [] zUF) zDB)
   (zAI (zAM (n:=9) [] (zE2 (n:=8) zA6))
   (zAI (zMV [5] (zCE (de_v 5)) (zAY 7) (zAI (zG5 (zZ0 (dt_m (dz (zBT zf7 (zA2 (zAL (zAZ (n:=0) (zCE (de_v 7)) (zAY 8) zC1 (zZ6 (zAU (zA2 (de_v 8) zA6)) (zXK zHG zHG (dz zAF) (de_v 8) (de_v 4))))) zA6))))) (zB4 (n:=0) [] zUF) zDB)
   (zAI (zG5 (dt_m (dz (zBT zZB (zA2 (zAL (zAZ (n:=0) (zGM (zA2 (de_v 4) zA6)) (zAY 8) zC1 (zAG zHE (dz (zAG zCZ (dz (zBT zf3 (zA2 (zAL (zAZ (n:=0) (zCE (de_v 7)) (zAY 9) zC1 (zAG zC0 (zAG zC0 (de_v 3) (de_v 9)) (de_v 8)))) zA6))) (dz zAF))) (dz zAF)))) zA6)))) (zB4 (n:=0) [] zUF) zDB)
   (zbD 6 (de_v 7)))))
   (zAI (zG5 (dt_m (dz (zBT zZB (zA2 (zAL (zAZ (n:=0) (zGM (zA2 (de_v 4) zA6)) (zAY 8) zC1 (zAG zVR (dz (zbI zP1 (de_v 6) (zA2 (de_v 8) zA6))) (zUB (n:=0) (zA2 zAF (zA2 zAF zA6)))))) zA6)))) (zB4 (n:=0) [] zUF) zDB)
   (zB4 (n:=0) [4,5] (zAU (zA2 (zAL (zbH (de_v 5) zeW (do_e (dz (zbG zRV (dz zAF)))))) (zA2 (de_v 4) zA6))))))))))))) h)⟩
end
def all_mk{l:qEp}{w:World}{K:qA2}{h:Heap}{mg:Str->Option Value}{fa f31 f32 a_RoundError wA wB:Addr}{uN yC yU:Option Addr}{wJ wN wP:ClassData}{wT wZ uE:Array (Option Value)}(X:K.In h)(G:h.Ns qJf mg)(hfa:mg "law" = some (.ref fa))
  {od31 an31 od32 an32:Option Addr} {sl31 sl32:Array (Option Value)} {oc31 kV31 dc31 pm31 cd31 ct31 oc32 kV32 dc32 pm32 cd32 ct32:Value} {t0 t1:Tok}
  (S:Bd K mg)
  (a31:qC3 K qJf "law" = some (some (.ref f31)))
  (l31:K.lookup f31=some ⟨oc31,od31,.func (qBt "law" "law" (zCC (top 45)) (zBD (top 45)) (zA7 (top 45)) .none kV31 dc31 pm31 an31 cd31 ct31),sl31⟩)
  (c31:qDd K cd31 "law" = true)
  (k31:qBj K (.ref f31)=true)
  (y0:qC3 K qJf "MOST_PLACES" = some (some (.int 8 t0)))
  (y1:qC3 K qJf "SEATS" = some (some (.int 4 t1)))
  (wS:qC3 K qJf "RoundError" = some (some (.ref a_RoundError)))
  (uJ:K.lookup a_RoundError=some ⟨.type "type",uN,.cls wJ,wT⟩)
  (uI:xcD a_RoundError wJ wT=true)
  (wA1:qEj K a_RoundError=some wJ)
  (wA5:PySem.W.excTail wJ.mro=true)
  (wA2:qGi K (.ref a_RoundError)=some (.type "type"))
  (uK:qAv K (.ref a_RoundError) "__getattribute__" = some (some (.builtin "BaseException.__getattribute__")))
  (uL:qAv K (.ref a_RoundError) "__getattr__" = some none)
  (uM:qE0 K a_RoundError=true)
  (uP:qAv K (.ref a_RoundError) "__class__" = some (some (.builtin "object.__class__")))
  (uO:qF7 K a_RoundError (.type "object")=some true)
  (wA4:qDw K (.ref a_RoundError) (.type "ValueError")=some true)
  (wA3:qDw K (.ref a_RoundError) (.type "BaseException")=some true)
  (wY:qC3 K qJf "NoLetter" = some (some (.ref wA)))
  (yI:K.lookup wA=some ⟨.type "type",yC,.cls wN,wZ⟩)
  (yE:xcD wA wN wZ=true)
  (uY:qEj K wA=some wN)
  (uX:PySem.W.excTail wN.mro=true)
  (wA6:qGi K (.ref wA)=some (.type "type"))
  (yA:qAv K (.ref wA) "__getattribute__" = some (some (.builtin "BaseException.__getattribute__")))
  (yJ:qAv K (.ref wA) "__getattr__" = some none)
  (uB:qE0 K wA=true)
  (uZ:qAv K (.ref wA) "__class__" = some (some (.builtin "object.__class__")))
  (uV:qF7 K wA (.type "object")=some true)
  (wA7:qDw K (.ref wA) (.type "ValueError")=some true)
  (wA8:qDw K (.ref wA) (.type "BaseException")=some true)
  (uF:qC3 K qJf "TooMany" = some (some (.ref wB)))
  (yQ:K.lookup wB=some ⟨.type "type",yU,.cls wP,uE⟩)
  (yR:xcD wB wP uE=true)
  (wAa:qEj K wB=some wP)
  (wAb:PySem.W.excTail wP.mro=true)
  (wAc:qGi K (.ref wB)=some (.type "type"))
  (yP:qAv K (.ref wB) "__getattribute__" = some (some (.builtin "BaseException.__getattribute__")))
  (yV:qAv K (.ref wB) "__getattr__" = some none)
  (yN:qE0 K wB=true)
  (yS:qAv K (.ref wB) "__class__" = some (some (.builtin "object.__class__")))
  (yM:qF7 K wB (.type "object")=some true)
  (wA9:qDw K (.ref wB) (.type "ValueError")=some true)
  (wAd:qDw K (.ref wB) (.type "BaseException")=some true)
  (ycg:qE1 K (.builtin "object.__class__") "__get__" = some (some (.builtin "getset_descriptor.__get__")))
  (yct:qHb K (.builtin "object.__class__")=some true)
  (yT:qBj K (.ref wB)=true)
  (yL:qAv K (.ref wB) "__init__" = some (some (.builtin "ValueError.__init__")))
  (yK:qAv K (.ref wA) "__setattr__" = some (some (.builtin "object.__setattr__")))
  (yB:qHh K wA "letter" = some none)
  (yG:qAv K (.ref wA) "letter" = some none)
  (uW:qBj K (.ref wA)=true)
  (yH:qAv K (.ref wA) "__init__" = some (some (.ref f32)))
  (yD:qFv K (.ref f32)=true)
  (l32:K.lookup f32=some ⟨oc32,od32,.func (qBt "__init__" "NoLetter.__init__" (zCC zC2) (zBD zC2) (zA7 zC2) .none kV32 dc32 pm32 an32 cd32 ct32),sl32⟩)
  (c32:qDd K cd32 "NoLetter.__init__" = true)
  (k32:qBj K (.ref f32)=true)
  (uH:qE1 K (.ref a_RoundError) "__getattribute__" = some (some (.builtin "type.__getattribute__")))
  (uR:qHf K a_RoundError (.type "type")=true)
  (uQ:qHg K (.ref a_RoundError) (.type "type") "__init__" = some (.val (.builtin "ValueError.__init__")))
  :∃fd:qJr,(∀(s:qJ5)(v:Value),qM6 s fd ⟨[v],[]⟩ [("_law_script",v)])/\∀base:Heap,K.In base->base.Ns qJf mg->FnOk l.prog w K mg base CX0 8 fa fd ["_law_script"] (zJ9 K):=by
 have e:=hfa.symm.trans (qDb X G a31);cases e;have c_MOST_PLACES:RelV (V.int 8) (.int 8 t0)/\mg "MOST_PLACES" = some (.int 8 t0):=⟨⟨_,rfl⟩,qDb X G y0⟩;have c_SEATS:RelV (V.int 4) (.int 4 t1)/\mg "SEATS" = some (.int 4 t1):=⟨⟨_,rfl⟩,qDb X G y1⟩;have uU:Xc.XIs K a_RoundError:=⟨zNH uJ uI,uK,uL,uM,uP,ycg,yct,uO⟩;have yO:Xc.XIs K wA:=⟨zNH yI yE,yA,yJ,uB,uZ,ycg,yct,uV⟩;have yY:Xc.XIs K wB:=⟨zNH yQ yR,yP,yV,yN,yS,ycg,yct,yM⟩;have uS:XCls K mg "RoundError" a_RoundError:=⟨zbT wS,qDb X G wS,uU⟩;have yW:XCls K mg "NoLetter" wA:=⟨zbT wY,qDb X G wY,yO⟩;have wA0:XCls K mg "TooMany" wB:=⟨zbT uF,qDb X G uF,yY⟩;have z_TooMany:XNo K mg "TooMany" wB:=⟨wA0,yT,yL⟩;have uT:XBase K a_RoundError:=⟨uH,uR,uQ,zgJ⟩;refine⟨qBt "law" "law" (zCC (top 45)) (zBD (top 45)) (zA7 (top 45)) .none kV31 dc31 pm31 an31 cd31 ct31,fun s v=>.of_eq rfl,fun base _ _=>?_⟩;have uD:=zTT (x:="__init__") (qual:="NoLetter.__init__") (st:=zC2) l32 c32 k32;have x_NoLetter:XIni l.prog w K mg base "NoLetter" "letter" wA:=⟨yW,uW,⟨yK,za9 uY uX,yB,uB⟩,yG,f32,_,["self","letter"],yH,yD,zGK uD uT uS.gm,uD.binds (fun _ _ _ _ _ _=>uw2 fun _ _=>rfl)⟩
 exact zdX ⟨S,_,_,_,_,x_NoLetter,c_SEATS,c_MOST_PLACES,z_TooMany⟩ (zTT (st:=(top 45)) l31 c31 k31)
def walk{l:qEp}{q:qJ8}{loose:List Str}{XP:(Str->Option Value)->Heap->Prop}{d:DefRec}{K:Params->qA2}{YP:World->Heap->Prop}(hn:l.most=some 63)(hdf:d.params.defaults=[])(hY:∀(w:World) (h:Heap),YP w h->(K w.params).In h)
  (F:∀(w:World)(mg:Str->Option Value)(fa:Addr)(h:Heap),(K w.params).In h->h.Ns qJf mg->mg d.name=some (.ref fa) ->
   TbE (K w.params) []/\∃fd:qJr,(∀(s:qJ5)(u:Value),qM6 s fd ⟨[u],[]⟩ [("_law_script",u)])/\∀base:Heap,(K w.params).In base->base.Ns qJf mg->FnOk l.prog w (K w.params) mg base CX0 8 fa fd ["_law_script"] (zJ9 (K w.params))) :
  qGp q loose XP YP l.row.toRowW d [] (fun f vs=>qGy f vs):=
 L3.walk_of0 (n:=63) (k:=8) (x:="_law_script") hn (by decide) hdf ⟨rfl,by decide,by decide⟩ hY F
end Q44
open PySem PySem.W PyProof.Rows
set_option maxRecDepth 100000 in
set_option maxHeartbeats 0 in
theorem PySem.Challenge.cw_fourway_k44_whole_rounds_are_nothings_holds : PySem.Challenge.rw_fourway_k44_whole_rounds_are_nothings.Holds := by
 refine hdZ.2 ?_;dsimp only[hdZ]
 k_fill
 refine Q44.walk (l:=qC5) rfl rfl (fun w h Y=>PySem.W.kIn_of Y) ?F
 case F=>
  intro w mg fa h KX G hmg;have T:L3.Tb (L2.KOf KX) [] none none none:=by
   dsimp only[L2.KOf];exact⟨L3.mk1_none (by k_is),L3.mk1_none (by k_is),L3.mk1_none (by k_is)⟩
  refine' ⟨⟨_,_,_,T⟩,Q44.all_mk KX G hmg (by constructor<;>first|exact L3.mkD KX G (by k_is) (by k_is) (by k_is) (by k_is)|exact PySem.W.mg_none_of KX G (by k_is)) (by k_is) (by k_is) (by k_is) (by k_is) (by k_is) (by k_is) (by k_is) (by k_is) (by rfl) (by k_is) (by rfl) (by k_is) (by k_is) (by k_is) (by k_is) (by k_is) (by k_is) (by k_is) (by k_is) (by k_is) (by k_is) (by rfl) (by k_is) (by rfl) (by k_is) (by k_is) (by k_is) (by k_is) (by k_is) (by k_is) (by k_is) (by k_is) (by k_is) (by k_is) (by rfl) (by k_is) (by rfl) (by k_is) (by k_is) (by k_is) (by k_is) (by k_is) (by k_is) (by k_is) (by k_is) (by k_is) (by k_is) (by k_is) (by k_is) (by k_is) (by k_is) (by k_is) (by k_is) (by k_is) (by k_is) (by k_is) (by k_is) (by k_is) (by k_is) (by k_is) (by k_is)⟩
