import PyProof.Rows.All
import Wide.All
import OpenK.AllK
import Wide.FinOn
import Lean
import PyProof.EqAt
import PyProof.EqKinds
import PyProof.TupleCall
import PyProof.NeKinds
import KE.KLam
import KE.KNestM
import PySem.Challenge.RW_fourway_k77_whole_parted_nets
set_option Elab.async false
set_option linter.all false
set_option maxRecDepth 100000
open Array renaming getElem?_toList->qB9,getElem?_eq_some_iff->qBc,length_toList->qC2,getElem?_eq_getElem->qCd,getElem?_eq_none->qEw,toList_append->qFf,size_push->qGt,size_zip->qHh,toList->qI6
open Array.Perm renaming refl->qGv
open Bool renaming false_ne_true->qAe,and_eq_true->qC6,false_eq_true->qC8,and_false->qDf,eq_iff_iff->qDw,and_true->qEk,or_true->qF1,or_false->qFo,or_eq_true->qGq
open Char renaming toNat->qIq
open Classical renaming propDecidable->qA2
open False renaming elim->qAa
open ForInStep renaming yield->qCp
open Function renaming comp_def->qDb
open Int renaming toNat_natCast->qB0,emod_nonneg->qBv,emod_lt_of_pos->qCl,mul_comm->qDm,mul_assoc->qFy,mul_one->qGn,natCast_add->qH2,ediv_one->qI9,add_zero->qIf,add_comm->qIg,le_refl->qIi
open List renaming getD_eq_getElem?_getD->qA0,getElem?_eq_some_iff->qA3,replicate->qA4,getElem?_eq_getElem->qA5,range->qA7,getElem?_map->qA8,getElem?_append_left->qA9,mem_map->qAb,mem_cons_of_mem->qAc,getElem?_append_right->qAd,mem_cons->qAf,size_toArray->qAh,length_map->qAi,mem_cons_self->qAj,map_cons->qAk,getElem?_set_self->qAl,getElem?_set_ne->qAm,map_map->qAn,map_congr_left->qAo,mem_append_right->qAp,length_cons->qAr,mem_singleton->qAt,nodup_cons->qAv,mem_of_getElem?->qAw,ext_getElem->qAx,getElem_mem->qAy,mem_append->qAz,flatMap_cons->qB1,length_append->qB2,replicate_succ->qB3,append_assoc->qB6,map_append->qBa,mem_flatMap->qBf,mem_range->qBh,mem_filter->qBi,getElem?_replicate->qBj,range'->qBk,lookup_cons->qBn,all_eq_true->qBo,take_succ_eq_append_getElem->qBp,flatten_cons->qBr,getElem?_range->qBs,append_nil->qBu,getElem_range->qBw,contains_cons->qBx,nodup_range->qBy,getElem?_cons_succ->qBz,getElem?_cons_zero->qC0,nodup_append->qC1,of_mem_zip->qC4,take_of_length_le->qC5,getElem?_eq_none->qCa,foldl_cons->qCf,nil_append->qCg,find?_cons->qCh,getElem_map->qCj,eq_nil_of_length_eq_zero->qCk,length_set->qCn,lookup->qCo,reverse_cons->qCs,range_eq_range'->qCu,drop_zero->qCv,drop_eq_getElem_cons->qCx,length_take->qCz,take_length->qD0,length_pos_iff->qD1,eq_of_mem_replicate->qD3,eraseIdx_cons_succ->qD4,count_eq_zero->qD6,drop_of_length_le->qD8,length->qD9,eraseIdxIfInBounds_toArray->qDa,pairwise_map->qDc,length_range->qDd,foldl_append->qDe,length_replicate->qDg,getElem?_reverse->qDj,cons_append->qDn,flatMap_nil->qDo,take_append_of_le_length->qDp,drop_append_of_le_length->qDq,mem_append_left->qDr,mem_iff_getElem->qDs,mem_of_mem_tail->qDt,filterMap_cons->qDv,count_cons->qDz,idxOf_lt_length_of_mem->qE0,perm_ext_iff_of_nodup->qE2,map_set->qE4,zip_cons_cons->qE6,getElem?_take->qE8,mem_or_eq_of_mem_set->qEb,foldl_nil->qEc,exists_mem_of_ne_nil->qEd,cons->qEi,lookup_eq_none_iff->qEl,getElem_inj->qEp,filter_cons->qEq,not_mem_nil->qEr,range'_succ->qEs,flatMap_map->qEt,length_singleton->qEz,length_nil->qF0,perm_append_comm->qF5,eq_replicate_iff->qF6,length_eraseIdx->qF9,mem_map_of_mem->qFg,map_eq_nil_iff->qFi,mergeSort_perm->qFk,mem_filterMap->qFl,getElem?_drop->qFq,lookup_append->qFs,findIdx?_cons->qFu,flatMap_assoc->qFw,any_eq_false->qFz,take_add_one->qG4,getElem?_set->qG6,count_append->qG7,length_drop->qGb,any_eq_true->qGf,drop_length->qGg,getElem_zip->qGh,perm_middle->qGi,map_flatMap->qGj,getElem_set->qGk,map_reverse->qGl,forIn_cons->qGp,range_succ->qGr,all_append->qGu,length_zip->qGw,filter_map->qGz,nodup_nil->qHe,forIn_nil->qHf,foldl->qHv,all_cons->qHz,nil_perm->qI3,perm_nil->qI4,map_nil->qI8,take->qIc,filter->qIh,map_id->qIj,map->qIn,Nodup->qIr,drop->qIt
open List.Pairwise renaming nil->qG3,imp_of_mem->qHx,imp->qIp
open List.Perm renaming refl->qCy,append_left->qDl,cons->qFc
open List.cons renaming injEq->qGx
open Nat renaming le_refl->qA6,lt_of_lt_of_le->qAg,ne_of_lt->qAq,le_trans->qAs,zero_le->qAu,zero_add->qB8,ne_of_gt->qBm,lt_irrefl->qC7,le_of_lt->qCm,le_antisymm->qD5,min_self->qDi,le_of_eq->qDk,pow_le_pow_right->qDu,le_succ->qDx,lt_of_le_of_lt->qE3,lt_succ_of_lt->qEh,log2_two_pow->qEu,add_zero->qF3,pow_succ->qF4,mul_assoc->qFv,add_assoc->qFx,mul_comm->qG9,le_add_right->qGd,lt_succ_self->qGe,log2->qGm,min_eq_left->qGy,one_mul->qH0,pow_add->qH1,max_assoc->qI1,lt_trans->qI7,sub_zero->qIb,pow_zero->qIe,mul_one->qIk,mul_add->qIl
open Nat.succ renaming inj->qIa
open Ne renaming symm->qCe
open Option renaming getD_some->qCi,isSome_iff_exists->qEg,none->qFe,isSome_some->qFp,getD_none->qGc,map->qHw
open Option.some renaming inj->qBd,injEq->qIo
open Or renaming inr->qIm,inl->qIs
open Prod renaming fst->qF7,snd->qF8
open PyProof.Rows renaming callWith_type1->qC3,isInt->qE7,envOfC->qFh,callWith_builtin1->qG8,boot_list->qK5,slot_tuple_getitem->qKb,boot_range->qKd,IntsAre->qKg,boot_isinstance->qKt,AllBare->qL8,subscriptTail_builtinR->qLb,boot_tuple->qMj,Subscript_->qMz
open PySem renaming mem_of_lookup->qBq,wpAny_pyIter_revIter->qE1,call->qG5,KeyKind->qHy,Within->qI5,Fin->qId,Shared->qIv,Program->qIy,mainGlobals->qJ1,Around->qJ2,builtinLookup_eq_fast->qJ8,sizeLine_eq->qJa,wpAny_loadPart_at->qJd,boot_len->qJg,wpAny_ite_split->qJi,FuncData->qJl,typeLookup_type->qJn,wpAny_isSubtype_exc->qJs,isSubtype_type->qJu,wpAny_Call_Name_kw->qJv,bootBuiltins->qJx,sysModules->qJz,NameKind->qK0,firstArgMember->qK3,strIterType->qK6,wpAny_passesOwn->qKa,foldedSetIterable->qKe,codeAny->qKf,GenState->qKh,Builtin->qKm,plainId_quiet->qKo,builtinsNs->qKr,ExcBaseFacts->qL0,codeAmong->qL2,behindInMarks->qL9,Paired->qLa,wpAny_execs_nil->qLf,seqIndex?->qLg,Result->qLr,isSubtype_stop->qLs,callerA->qM3,swapsWith->qM4,rangeSize_one->qM5,call_reversed_list->qM7,signature?_of->qM8,wpAny_assign_Name->qMa,wpAny_truthy_bool->qMb,BindsTo->qMd,slot_list_getitem->qMe,closureFor->qMf,wpAny_pyIter_enum->qMh,wpAny_pyIter_slot->qMi,seqIndex_neg->qMk,seqIndex_of->qMq,wpAny_Name->qMy,Params->qN1,standAt->qN4,Keyword->qN5,ItemsOf->qN6,argsOk->qN9
open PySem.Challenge renaming rw_fourway_k77_whole_parted_nets->qCb,pw_fourway_k77_whole_parted_nets->qE9
open PySem.EqMixed renaming eq_bool_str->qH6,eq_str_bool->qH7,ne_bool_str->qHb,ne_str_bool->qHc,eq_int_str->qHm,eq_str_int->qHo,ne_int_str->qHs,ne_str_int->qHu
open PySem.EqNone renaming eq_none_none->qH3,eq_none_bool->qH4,eq_bool_none->qH5,ne_none_none->qH8,ne_none_bool->qH9,ne_bool_none->qHa,eq_none_int->qHj,eq_none_str->qHk,eq_int_none->qHl,eq_str_none->qHn,ne_none_int->qHp,ne_none_str->qHq,ne_int_none->qHr,ne_str_none->qHt
open PySem.F renaming plainAttrs_list->qBl,plain_extend_loop->qBt,slot_list_pop->qCq,type_list_pop->qCr,plain_reversed_new->qCt,slot_dict_get->qDh,entry_extend_loop->qEa,args_dict_get_3->qEj,slot_list_index->qEm,plain_list_iadd->qEn,entry_dict_get->qEv,slot_lri_next->qF2,slot_dict_keyiterator_next->qJe,slot_NoneType_hash->qK1,args_dict_keyiterator_next_1->qKk,slot_bool_hash->qKl,entry_dict_keyiterator_next->qKn,entry_list_pop->qMm,slot_dict_iter->qMp,slot_list_pop->qMr,slot_int_rmul->qMs
open PySem.W renaming Frag->qA1,findIn->qB4,keepIn->qB5,fnOf->qB7,codeHdIn->qBb,kia_one->qBe,nsIn->qBg,mg_of->qC9,codeIn->qCc,kla_fn->qCw,cellsFrom_some->qD7,OpenLaw->qDy,envX->qE5,methodObj->qEe,hasDictIn->qEf,subIn->qEo,instObj->qEy,lookIn->qFa,tabObj->qFb,codeHd_of_K->qFj,mroIn->qFm,callWith_K->qFn,clsIn->qFr,WalkO->qFt,specialIn->qG0,kitx_list->qG1,kitx_dict->qG2,plainGet->qGa,takesIn->qGo,kf_ints->qGs,kitOne->qHd,kmHook->qHg,typeIn->qHi,Looks->qI0,kf_at->qI2
open Sum renaming inl->qEx,inr->qFd
open True renaming intro->qD2
set_option compiler.extract_closed false
set_option genSizeOf false
set_option genSizeOfSpec false
set_option bootstrap.genMatcherCode false
set_option maxHeartbeats 4000000
open PyProof.Rows.SortSt renaming mk'->qNg
open PySem.Around renaming under_plainId->qJq,frames_deeper->qLp
open PySem.Builtin renaming bitXor->qKi
open PySem.Builtin.Dict renaming showsAll->qLk
open PySem.Builtin.Dict_items renaming ownsTuple->qKp
open PySem.Builtin.Int renaming intBits->qK7,intTooBig->qLj
open PySem.Builtin.List renaming listExtendWith->qJf,listTooLong->qJk,listLengthHint->qJy,listFitsIndex->qKv,listSameRef->qL6,listItems->qLd
open PySem.Builtin.Range renaming rangeSize->qJr,small->qNd
open PySem.Builtin.Slice renaming slicePlaces->qJp,sliceAdjust->qK4,sliceApplied->qKw,sliceFields->qMx
open PySem.Builtin.Str renaming strSliceIndices->qJm
open PySem.Builtin.Tuple renaming tupleItemsOf->qMv,tupleIsExact->qMw
open PySem.Calls renaming Name_function_global->qKu,spliced_cons->qKz,callWith_builtin->qLc,evalArgs_plain->qLq,spliced_nil->qMc
open PySem.Code renaming quiet_builtin->qM6
open PySem.EntryCells renaming newEntry->qM2
open PySem.Heap renaming get?_push_of_some->qIu,get?_push_size->qIw,lt_size->qIx,get?_update_other->qIz,get?_update_self->qJ3,size_push->qJt,get?_none_of_le->qK2,SameBut->qKj,MadeExcOf->qL1,ExtBut->qM1
open PySem.Heap.IsSliceOf renaming new->qNe
open PySem.Heap.SameBut renaming update->qJb
open PySem.NameKind renaming free->qJ5,cell->qJo
open PySem.Obj renaming mapFields->qJ6,data_mapFields->qJ7,isFreed_of_fields->qJc,mapSeq->qJh,cls_mapFields->qL5
open PySem.Paired renaming length->qK9
open PySem.PassesOwn renaming never->qJ9
open PySem.SeqAt renaming EqAt->qL3,RcNeAt->qMl,RcAt->qN2
open PySem.SeqAt.EqAt renaming of_refs->qKc,same->qKs,int_str->qKx,str_int->qKy,none_bool->qLm,bool_none->qLn,bool_bool->qLo,none_int->qLt,none_str->qLu,bool_int->qLv,bool_str->qLw,int_none->qLx,int_bool->qLy,str_none->qLz,str_bool->qM0
open PySem.SeqAt.RcAt renaming lists_lengths->qL4,list_tuple->qLh,tuple_list->qLi,tuples->qMg,lists->qMn
open PySem.Slot renaming of->qNc
open PySem.Str renaming ofString->qJj,ofString_eq_toList->qLe,length->qN0
open PySem.Txt renaming slice->qN7
open PySem.Value renaming ref->qJ0,none->qJ4,int->qJw,str->qK8,type->qKq,builtin->qL7,bool->qLl,isStrOf->qN3,isInt->qNa,float->qNb
open PySem.W.WData renaming layableAll->qMo,int->qMt,weightAll->qMu,weight->qN8
open PySem.W.WShape renaming has->qNf
open PySem.Walks renaming listRev->qM9
noncomputable section
set_option maxHeartbeats 0 in
def hdZ:PSigma fun H:Prop=>H->PySem.Challenge.rw_fourway_k77_whole_parted_nets.Holds:=by
 refine' ⟨_,fun x=>?go⟩
 case' go=>w_on;o_law;refine' And.left (b:=_) ⟨?main,And.intro ?hl ?hc⟩
 case main=>
  k_head
  case hw=>w_witness2
 case hc=>exact x
 case hl=>intro w;unfold PySem.W.openEnds PySem.W.fencedOpening PySem.W.topFrom;rewrite[PySem.W.Fast.te10274390034422433532,PySem.W.Fast.te14289696077712309145,PySem.W.Fast.te14082659384304107361,PySem.W.Fast.te4187177175401517315,PySem.W.Fast.te1435165496053646825,PySem.W.Fast.te14364793385576792824];kernel_rfl
namespace L2
open PySem PySem.Spec PyProof.Rows
abbrev Key:=Sum Int Str
noncomputable def zI3:Key->Value->Bool
 |.inl k,v=>qNa k v
 |.inr x,v=>qN3 x v
noncomputable def keyH(w:World):Key->Int
 |.inl k=>hashInt k
 |.inr x=>hashStr w x
theorem zAY:∀{k:Key}{v:Value},zI3 k v=true->(∃i t,k=qEx i/\v=qJw i t)\/(∃x t,k=qFd x/\v=qK8 x t)
 |.inl i,v,h=>by
  obtain⟨t,e⟩:=Value.isInt_shape (k:=i) (v:=v) h;exact .inl ⟨i,t,rfl,e⟩
 |.inr x,v,h=>by
  obtain⟨t,e⟩:=Value.isStrOf_shape (x:=x) (v:=v) h;exact .inr ⟨x,t,rfl,e⟩
theorem zJI(i:Int)(t:Tok):zI3 (.inl i) (.int i t)=true:=by simp[zI3,qNa]
theorem zJH(x:Str)(t:Tok):zI3 (.inr x) (.str x t)=true:=by simp[zI3,qN3]
theorem zMC(a b:Int):decide ((qEx a:Key)=qEx b)=(a==b):=by
 by_cases e:a=b
 ·subst e;simp
 ·have h:¬(qEx a:Key)=qEx b:=fun q=>e (Sum.inl.inj q)
  rw[decide_eq_false h];exact(beq_eq_false_iff_ne.mpr e).symm
theorem zU6(a b:Str):decide ((qFd a:Key)=qFd b)=decide (a=b):=by
 by_cases e:a=b
 ·subst e;simp
 ·have h:¬(qFd a:Key)=qFd b:=fun q=>e (Sum.inr.inj q)
  rw[decide_eq_false h,decide_eq_false e]
theorem zU8(a:Int)(b:Str):decide ((qEx a:Key)=qFd b)=false:=decide_eq_false (fun q=>nomatch q)
theorem zU7(a:Str)(b:Int):decide ((qFd a:Key)=qEx b)=false:=decide_eq_false (fun q=>nomatch q)
def zE2(prog:qIy)(w:World):qHy prog w Key where
 is:=zI3
 hash:=keyH w
 inj:=fun v a b ha hb=>by
  rcases zAY ha with⟨i,t,rfl,rfl⟩|⟨x,t,rfl,rfl⟩
  ·rcases zAY hb with⟨j,u,rfl,e⟩|⟨y,u,rfl,e⟩
   ·injection e with e1 _;rw[e1]
   ·exact nomatch e
  ·rcases zAY hb with⟨j,u,rfl,e⟩|⟨y,u,rfl,e⟩
   ·exact nomatch e
   ·injection e with e1 _;rw[e1]
 byValue:=fun k v h=>by
  rcases zAY h with⟨i,t,rfl,rfl⟩|⟨x,t,rfl,rfl⟩<;>rfl
 pyHash:=fun hv h=>by
  rcases zAY hv with⟨i,t,rfl,rfl⟩|⟨x,t,rfl,rfl⟩
  ·exact wpAny_pyHash_int h
  ·exact wpAny_pyHash_str h
 eqBool:=fun hu hv h=>by
  rcases zAY hu with⟨i,t,rfl,rfl⟩|⟨x,t,rfl,rfl⟩
  ·rcases zAY hv with⟨j,u,rfl,rfl⟩|⟨y,u,rfl,rfl⟩
   ·rw[zMC]at h;exact wpAny_eqBool_int h
   ·rw[zU8]at h;exact qKx i t y u _ _ _ _ h
  ·rcases zAY hv with⟨j,u,rfl,rfl⟩|⟨y,u,rfl,rfl⟩
   ·rw[zU7]at h;exact qKy x t j u _ _ _ _ h
   ·rw[zU6]at h;exact wpAny_eqBool_str h
 «strs»:=fun k x t v h=>by
  rcases zAY h with⟨i,u,rfl,e⟩|⟨y,u,rfl,e⟩
  ·exact nomatch e
  ·injection e with e1 _
   subst e1;cases v<;>rfl
theorem zKU(prog:qIy)(w:World)(i:Int)(t:Tok):(zE2 prog w).is (.inl i) (.int i t)=true:=zJI i t
theorem zKT(prog:qIy)(w:World)(x:Str)(t:Tok):(zE2 prog w).is (.inr x) (.str x t)=true:=zJH x t
abbrev KeyN:=Option Key
noncomputable def zJZ(b:Bool):Int:=if b then 1 else 0
def zG6:KeyN->Value->Bool
 |none,.none=>true
 |some (.inl i),.bool b=>i==zJZ b
 |some k,v=>zI3 k v
 |_,_=>false
def zbG(w:World):KeyN->Int
 |none=>4238894112
 |some k=>keyH w k
theorem zBF:∀{k:KeyN}{v:Value},zG6 k v=true->(k=none/\v=qJ4)\/(∃b,k=some (qEx (zJZ b))/\v=qLl b)\/(∃i t,k=some (qEx i)/\v=qJw i t)\/(∃x t,k=some (qFd x)/\v=qK8 x t)
 |none,v,h=>by
  cases v<;>first|exact .inl ⟨rfl,rfl⟩|exact nomatch h
 |some (.inl i),v,h=>by
  by_cases hb:∃b,v=.bool b
  ·obtain⟨b,rfl⟩:=hb;have e:i=zJZ b:=by simpa[zG6]using h
   subst e;exact .inr (.inl ⟨b,rfl,rfl⟩)
  ·have h':zI3 (.inl i) v=true:=by
    cases v<;>first|exact h|exact absurd ⟨_,rfl⟩ hb
   rcases zAY h' with⟨j,t,e1,e2⟩|⟨x,t,e1,e2⟩
   ·exact .inr (.inr (.inl ⟨j,t,by rw[e1],e2⟩))
   ·cases e1
 |some (.inr x),v,h=>by
  have h':zI3 (.inr x) v=true:=by
   cases v<;>exact h
  rcases zAY h' with⟨j,t,e1,e2⟩|⟨y,t,e1,e2⟩
  ·cases e1
  ·exact .inr (.inr (.inr ⟨y,t,by rw[e1],e2⟩))
theorem zNP(i:Int)(t:Tok):zG6 (some (.inl i)) (.int i t)=true:=zJI i t
theorem zNO(x:Str)(t:Tok):zG6 (some (.inr x)) (.str x t)=true:=zJH x t
theorem zPJ(b:Bool):zG6 (some (.inl (zJZ b))) (.bool b)=true:=by simp[zG6]
theorem zPV{prog:qIy}{w:World}{A:qJ2}{E:Value->qIv->Prop}{s:qIv}{Q:Int->qIv->Prop}(h:Q 4238894112 { s with toks:=s.toks+1 }):wpAny (model prog w) A (pyHash .none) Q E s:=by
 unfold pyHash;have hT:s.TypeIs .none "NoneType":=rfl;refine wpAny_bind ?_;rw[cRoomFor,if_neg (by exact qAe)];refine wpAny_pure ?_;refine wpAny_bind (wpAny_specialOf hT qK1.lookup ?_);show wpAny _ _ (if(some (qL7 "NoneType.__hash__")==some qJ4)=true then _ else _) Q E s;rw[if_neg (by rw[beq_builtin_none];exact qAe)];refine wpAny_bind (wpAny_specialOf hT qK1.lookup ?_);show wpAny _ _ (callSpecialIfBoundUnlessNone? .none "__hash__" _ >>= _) Q E s;refine wpAny_bind (wpAny_callSpecialIfBoundUnlessNone?_slot hT qK1
  (wpAny_call_entry qK1 hT F.entry_NoneType_hash
   (show wpAny _ _ (do ret (<- mkInt 0xFCA86420)) _ _ s from wpAny_ret_mkInt ?_) (F.args_NoneType_hash_1 _)))
 exact wpAny_pure h
theorem zPW{prog:qIy}{w:World}{A:qJ2}{E:Value->qIv->Prop}{s:qIv}{b:Bool}{Q:Int->qIv->Prop}(h:Q (hashInt (zJZ b)) { s with toks:=s.toks+1 }):wpAny (model prog w) A (pyHash (.bool b)) Q E s:=by
 unfold pyHash;have hT:s.TypeIs (.bool b) "bool":=rfl;refine wpAny_bind ?_;rw[cRoomFor,if_neg (by exact qAe)];refine wpAny_pure ?_;refine wpAny_bind (wpAny_specialOf hT qKl.lookup ?_);show wpAny _ _ (if(some (qL7 "int.__hash__")==some qJ4)=true then _ else _) Q E s;rw[if_neg (by rw[beq_builtin_none];exact qAe)];refine wpAny_bind (wpAny_specialOf hT qKl.lookup ?_);show wpAny _ _ (callSpecialIfBoundUnlessNone? (.bool b) "__hash__" _ >>= _) Q E s;refine wpAny_bind (wpAny_callSpecialIfBoundUnlessNone?_slot hT qKl
  (wpAny_call_entry qKl hT entry_int_hash
   (show wpAny _ _ (do ret (<- mkInt (rawHash (zJZ b)))) _ _ s by cases b<;>exact wpAny_ret_mkInt (wpAny_pure h)) (args_int_hash _)))
theorem eqN(a b:KeyN):decide (a=b)=match a,b with|none,none=>true|some x,some y=>decide (x=y)|_,_=>false:=by
 cases a<;>cases b<;>simp
def mixN(prog:qIy)(w:World):qHy prog w KeyN where
 is:=zG6
 hash:=zbG w
 inj:=fun v a b ha hb=>by
  rcases zBF ha with⟨rfl,rfl⟩|⟨x,rfl,rfl⟩|⟨i,t,rfl,rfl⟩|⟨x,t,rfl,rfl⟩<;>rcases zBF hb with⟨rfl,e⟩|⟨y,rfl,e⟩|⟨j,u,rfl,e⟩|⟨y,u,rfl,e⟩<;>first|rfl|(cases e;done)|(cases e;rfl)
 byValue:=fun k v h=>by
  rcases zBF h with⟨rfl,rfl⟩|⟨x,rfl,rfl⟩|⟨i,t,rfl,rfl⟩|⟨x,t,rfl,rfl⟩<;>rfl
 pyHash:=fun hv h=>by
  rcases zBF hv with⟨rfl,rfl⟩|⟨x,rfl,rfl⟩|⟨i,t,rfl,rfl⟩|⟨x,t,rfl,rfl⟩
  ·exact zPV h
  ·exact zPW h
  ·exact wpAny_pyHash_int h
  ·exact wpAny_pyHash_str h
 eqBool:=fun hu hv h=>by
  rw[eqN]at h;rcases zBF hu with⟨rfl,rfl⟩|⟨x,rfl,rfl⟩|⟨i,t,rfl,rfl⟩|⟨x,t,rfl,rfl⟩<;>rcases zBF hv with⟨rfl,rfl⟩|⟨y,rfl,rfl⟩|⟨j,u,rfl,rfl⟩|⟨y,u,rfl,rfl⟩
  ·exact qKs _ _ _ _ _ h
  ·exact qLm _ _ _ _ _ h
  ·exact qLt _ _ _ _ _ _ h
  ·exact qLu _ _ _ _ _ _ h
  ·exact qLn _ _ _ _ _ h
  ·refine qLo _ _ _ _ _ _ ?_;cases x<;>cases y<;>exact h
  ·refine qLv _ _ _ _ _ _ _ ?_;dsimp only at h;rw[zMC]at h;exact h
  ·exact qLw _ _ _ _ _ _ _ h
  ·exact qLx _ _ _ _ _ _ h
  ·refine qLy _ _ _ _ _ _ _ ?_;dsimp only at h;rw[zMC]at h;exact h
  ·dsimp only at h;rw[zMC]at h;exact wpAny_eqBool_int h
  ·dsimp only at h;rw[zU8]at h;exact qKx _ _ _ _ _ _ _ _ h
  ·exact qLz _ _ _ _ _ _ h
  ·exact qM0 _ _ _ _ _ _ _ h
  ·dsimp only at h;rw[zU7]at h;exact qKy _ _ _ _ _ _ _ _ h
  ·dsimp only at h;rw[zU6]at h;exact wpAny_eqBool_str h
 «strs»:=fun k x t v h=>by
  rcases zBF h with⟨rfl,e⟩|⟨x,rfl,e⟩|⟨i,u,rfl,e⟩|⟨y,u,rfl,e⟩
  ·exact nomatch e
  ·exact nomatch e
  ·exact nomatch e
  ·injection e with e1 _
   subst e1;cases v<;>rfl
inductive V where
 |non|bl (b:Bool)|int (i:Int)|str (x:Str)|byt (b:Array UInt8)|flt (b:UInt64)|ref (a:Addr)|ty (n:String)
 deriving DecidableEq
noncomputable def RelV:V->Value->Prop
 |.non,u=>u=qJ4
 |.bl b,u=>u=qLl b
 |.int i,u=>∃t,u=qJw i t
 |.str x,u=>∃t,u=qK8 x t
 |.byt b,u=>∃t,u=Value.bytes b t
 |.flt b,u=>∃t,u=qNb b t
 |.ref a,u=>u=qJ0 a
 |.ty n,u=>u=qKq n
abbrev Vals:List V->List Value->Prop:=qLa RelV
theorem Vals.length{xs:List V}{us:List Value}(r:Vals xs us):xs.length=us.length:=qK9 r
theorem Vals.get:∀{xs:List V}{us:List Value}{i:Nat}{x:V},Vals xs us->xs[i]?=some x->∃u,us[i]?=some u/\RelV x u
 |_,_,_,_,.nil,e=>by simp at e
 |_,_,0,_,.cons r _,e=>by simp at e;subst e;exact⟨_,rfl,r⟩
 |_,_,i+1,x,.cons _ t,e=>by
  obtain⟨u,h1,h2⟩:=Vals.get (i:=i) (x:=x) t (by simpa using e);exact⟨u,by simpa using h1,h2⟩
theorem Vals.set{x:V}{u:Value}(r:RelV x u):∀{xs:List V}{us:List Value}(i:Nat),Vals xs us->Vals (xs.set i x) (us.set i u)
 |_,_,_,.nil=>.nil
 |_,_,0,.cons _ t=>.cons r t
 |_,_,i+1,.cons q t=>.cons q (Vals.set r i t)
theorem Vals.append:∀{xs ys:List V}{us ws:List Value},Vals xs us->Vals ys ws->Vals (xs++ys) (us++ws)
 |_,_,_,_,.nil,s=>s
 |_,_,_,_,.cons r t,s=>.cons r (Vals.append t s)
theorem Vals.take:∀{xs:List V}{us:List Value}(n:Nat),Vals xs us->Vals (xs.take n) (us.take n)
 |_,_,0,_=>.nil
 |_,_,_+1,.nil=>.nil
 |_,_,n+1,.cons r t=>.cons r (Vals.take n t)
theorem Vals.drop:∀{xs:List V}{us:List Value}(n:Nat),Vals xs us->Vals (xs.drop n) (us.drop n)
 |_,_,0,r=>r
 |_,_,_+1,.nil=>.nil
 |_,_,n+1,.cons _ t=>Vals.drop n t
def RelO:Option V->Option Value->Prop
 |some v,some u=>RelV v u
 |none,none=>True
 |_,_=>False
def KV{κ:Type}:List (κ×V)->List (κ×Value)->Prop:=qLa fun(p:κ×V)(q:κ×Value)=>p.1=q.1/\RelV p.2 q.2
noncomputable def kV:Key->V
 |.inl i=>.int i
 |.inr x=>.str x
def vN:V->Option KeyN
 |.non=>some none
 |.bl b=>some (some (.inl (zJZ b)))
 |.int i=>some (some (.inl i))
 |.str x=>some (some (.inr x))
 |_=>none
abbrev KsOf:List V->List KeyN->Prop:=qLa fun v k=>vN v=some k
inductive HO where
 |lst (xs:List V)
 |tup (xs:List V)
 |dK (kvs:List (Key×V))|dT (T:Addr->Prop) (e0:Nat) (kvs:List (List KeyN×V))
 |set (S:Int->Bool) (n:Nat)
 |ins (C dx:Addr) (fs:List (Str×V))
 |own (x:Addr)
 |xd (fs:List (Str×V))
 |met (f x:Addr)
 |rng (lo hi:Int)
 |frz (o:Obj) (u:HO)
 |tbl (ps:Array Value)
 |lam (q:Str)
 |fn (o:Obj) (q:Str)
 |ext (φ:Heap->Prop)
abbrev Hp:=Addr->Option HO
noncomputable def upd(H:Hp)(a:Addr)(o:HO):Hp:=fun b=>if b=a then some o else H b
theorem zAG{H:Hp}{a:Addr}{o:HO}:upd H a o a=some o:=by unfold upd;rw[if_pos rfl]
theorem zAE{H:Hp}{a b:Addr}{o:HO}(h:b≠a):upd H a o b=H b:=by unfold upd;rw[if_neg h]
theorem zNI{H:Hp}{a b:Addr}{o u:HO}(h:H a=some o)(h':H b=some u)(d:o≠u):a≠b:=by
 intro e;subst e;rw[h]at h';exact d (qBd h')
theorem zAH{H:Hp}{a b:Addr}{o:HO}(h:H a=some o)(h':H b=none):a≠b:=by
 intro e;subst e;rw[h]at h';cases h'
def TupK(H:Hp)(b:Addr)(k:List KeyN):Prop:=∃vs,H b=some (.tup vs)/\KsOf vs k
theorem TupK.keeps{H H':Hp}{b:Addr}{k:List KeyN}(x:TupK H b k)(ht:∀b xs,H b=some (.tup xs)->H' b=some (.tup xs)):TupK H' b k:=let⟨vs,e,r⟩:=x;⟨vs,ht _ _ e,r⟩
def CodR(o:Obj)(q:Str):Prop:=∃vs t,o.data=.fields vs/\vs[1]?=some (.str q t)
section
variable(P:qIy)(w:World)
def ObjOk(H:Hp)(h:Heap)(a:Addr):HO->Prop
 |.lst xs=>xs.length<=sizeLine/\∃(its:List Value)(n:Nat),Vals xs its/\h.get? a=some { cls:=.type "list",data:=.seq its.toArray n }
 |.tup xs=>xs.length<=sizeLine/\∃its:List Value,Vals xs its/\IsTup h a its.toArray
 |.dK kvs=>kvs.length<=sizeLine/\(a==qJz)=false/\∃vs,KV kvs vs/\h.DictOf (zE2 P w) a vs
 |.dT T e0 kvs=>kvs.length<=sizeLine/\(a==qJz)=false/\∃xs:List (List KeyN×Addr×Value),
   qLa (fun(p:List KeyN×V)(q:List KeyN×Addr×Value)=>p.1=q.1/\(TupK H q.2.1 p.1/\T q.2.1)/\RelV p.2 q.2.2) kvs xs /\
   ∃o es ep,h.get? a=some o/\o.ExactDict/\o.data=.dict es ep/\es.toList=xs.map (entryOfKey (tupleKind (mixN P w)))/\(xs.map (·.1)).Nodup/\ep=e0
 |.set S n=>h.SetOf (intKind P w) a S n
 |.ins C dx fs=>H dx=some (.own a)/\fs.length<=1000/\dx≠a/\h.get? a=some (qEy C dx) /\
   ∃mA,h.Ns1 dx mA/\(∀f,RelO (fs.lookup f) (mA f))/\qI5 mA (fs.map (·.1))
 |.own _=>∃o,h.get? a=some o
 |.xd fs=>∃mA,h.Ns1 a mA/\∀f,RelO (fs.lookup f) (mA f)
 |.rng lo hi=>∃t u v,h.get? a=some { cls:=.type "range",data:=.fields #[.int lo t,.int hi u,.int 1 v] }
 |.frz o u=>h.get? a=some o/\ObjOk H h a u
 |.tbl ps=>h.get? a=some { cls:=.none,data:=.fields ps }
 |.lam q=>∃ps:Array Value,h.get? a=some { cls:=.none,data:=.fields ps }/\TriplesOk ps.toList/\∀pos cv,qL2 pos ps.toList=some cv->∃c oc u,cv=.ref c/\H c=some (.frz oc u)/\CodR oc q
 |.fn o q=>h.get? a=some o/\∃fd c oc u,o.data=.func fd/\fd.code=.ref c/\H c=some (.frz oc u)/\CodR oc q
 |.met f x=>h.get? a=some (qEe (.ref f) (.ref x))
 |.ext φ=>φ h/\(∃o,h.get? a=some o)/\∀h1 h2:Heap,φ h1->(∀o,h1.get? a=some o->h2.get? a=some o)->φ h2
def HOk(H:Hp)(h:Heap):Prop:=∀a o,H a=some o->ObjOk P w H h a o
end
section
variable{P:qIy}{w:World}{H H':Hp}{h h':Heap}{a:Addr}{o:HO}
theorem ObjOk.lt(x:ObjOk P w H h a o):a<h.objs.size:=by
 cases o with
 |lst xs=>obtain⟨_,_,_,_,e⟩:=x;exact qIx e
 |tup xs=>obtain⟨_,_,_,p⟩:=x;exact p.lt
 |dK kvs=>obtain⟨_,_,_,_,o,_,_,e,_⟩:=x;exact qIx e
 |dT T e0 kvs=>obtain⟨_,_,_,_,o,_,_,e,_⟩:=x;exact qIx e
 |set S n=>obtain⟨o,_,_,_,e,_⟩:=x;exact qIx e
 |ins C dx fs=>obtain⟨_,_,_,e,_⟩:=x;exact qIx e
 |own y=>obtain⟨_,e⟩:=x;exact qIx e
 |xd fs=>obtain⟨_,⟨_,_,_,e,_⟩,_⟩:=x;exact qIx e
 |rng lo hi=>obtain⟨_,_,_,e⟩:=x;exact qIx e
 |frz ob u=>obtain⟨e,_⟩:=x;exact qIx e
 |tbl ps=>exact qIx (show h.get? a=some _ from x)
 |lam q=>obtain⟨_,e,_⟩:=x;exact qIx e
 |fn ob q=>obtain⟨e,_⟩:=x;exact qIx e
 |met f y=>exact qIx (show h.get? a=some _ from x)
 |ext φ=>obtain⟨_,⟨_,e⟩,_⟩:=x;exact qIx e
theorem qLa.mapP{α β:Type}{F G:α->β->Prop}:∀{l₁:List α}{l₂:List β},qLa F l₁ l₂->(∀a b,F a b->G a b)->qLa G l₁ l₂
 |_,_,.nil,_=>.nil
 |_,_,.cons r t,f=>.cons (f _ _ r) (qLa.mapP t f)
theorem ObjOk.stay(x:ObjOk P w H h a o)(k:∀b u,(b=a\/H b=some (.own a))->h.get? b=some u->h'.get? b=some u)
  (ho:∀b,H b=some (.own a)->H' b=some (.own a)) (ht:∀b xs,H b=some (.tup xs)->H' b=some (.tup xs)) (hf:∀b o u,H b=some (.frz o u)->(∃vs,o.data=.fields vs)->H' b=some (.frz o u)):ObjOk P w H' h' a o:=by
 induction o with
 |lst xs=>obtain⟨z,its,n,r,e⟩:=x;exact⟨z,its,n,r,k _ _ (.inl rfl) e⟩
 |tup xs=>obtain⟨z,its,r,ob,e,c⟩:=x;exact⟨z,its,r,ob,k _ _ (.inl rfl) e,c⟩
 |dK kvs=>obtain⟨z,y,vs,r,ob,es,ep,e,c⟩:=x;exact⟨z,y,vs,r,ob,es,ep,k _ _ (.inl rfl) e,c⟩
 |dT T e0 kvs=>
  obtain⟨z,y,xs,r,ob,es,ep,e,c⟩:=x;exact⟨z,y,xs,qLa.mapP r fun p q z=>⟨z.1,⟨z.2.1.1.keeps ht,z.2.1.2⟩,z.2.2⟩,ob,es,ep,k _ _ (.inl rfl) e,c⟩
 |set S n=>obtain⟨ob,es,ep,t,e,c⟩:=x;exact⟨ob,es,ep,t,k _ _ (.inl rfl) e,c⟩
 |ins C dx fs=>
  obtain⟨d,z,ne,e,mA,⟨od,es,ep,e2,c⟩,r⟩:=x;exact⟨ho _ d,z,ne,k _ _ (.inl rfl) e,mA,⟨od,es,ep,k _ _ (.inr d) e2,c⟩,r⟩
 |own y=>obtain⟨ob,e⟩:=x;exact⟨ob,k _ _ (.inl rfl) e⟩
 |xd fs=>obtain⟨mA,⟨od,es,ep,e,c⟩,r⟩:=x;exact⟨mA,⟨od,es,ep,k _ _ (.inl rfl) e,c⟩,r⟩
 |rng lo hi=>obtain⟨t,u,v,e⟩:=x;exact⟨t,u,v,k _ _ (.inl rfl) e⟩
 |frz ob u ih=>obtain⟨e,q⟩:=x;exact⟨k _ _ (.inl rfl) e,ih q⟩
 |tbl ps=>
  have e:h.get? a=some { cls:=.none,data:=.fields ps }:=x;show h'.get? a=some { cls:=.none,data:=.fields ps };exact k a _ (.inl rfl) e
 |lam q=>
  obtain⟨ps,e,t,r⟩:=x;exact⟨ps,k _ _ (.inl rfl) e,t,fun pos cv z=>let⟨c,oc,u,e1,e2,e3⟩:=r pos cv z;⟨c,oc,u,e1,hf _ _ _ e2 (let⟨vs,_,d,_⟩:=e3;⟨vs,d⟩),e3⟩⟩
 |fn ob q=>
  obtain⟨e,fd,c,oc,u,e1,e2,e3,e4⟩:=x;exact⟨k _ _ (.inl rfl) e,fd,c,oc,u,e1,e2,hf _ _ _ e3 (let⟨vs,_,d,_⟩:=e4;⟨vs,d⟩),e4⟩
 |met f y=>
  have e:h.get? a=some (qEe (.ref f) (.ref y)):=x;show h'.get? a=some (qEe (.ref f) (.ref y));exact k a _ (.inl rfl) e
 |ext φ=>obtain⟨p,⟨o,e⟩,st⟩:=x;exact⟨st _ _ p fun o q=>k _ _ (.inl rfl) q,⟨o,k _ _ (.inl rfl) e⟩,st⟩
theorem HOk.lt(x:HOk P w H h)(e:H a=some o):a<h.objs.size:=(x a o e).lt
theorem HOk.fresh(x:HOk P w H h)(e:h.objs.size<=a):H a=none:=by
 cases q:H a with
 |none=>rfl
 |some u=>exact absurd (qAg (x.lt q) e) (qC7 _)
theorem HOk.kept(x:HOk P w H h)(k:∀b u,h.get? b=some u->h'.get? b=some u):HOk P w H h':=fun a o e=>
 (x a o e).stay (fun b u _ q=>k b u q) (fun _ q=>q) (fun _ _ q=>q) fun _ _ _ q _=>q
theorem HOk.laid(x:HOk P w H h)(k:∀b u,h.get? b=some u->h'.get? b=some u)(hp:h.objs.size<=a)(new:ObjOk P w (upd H a o) h' a o):HOk P w (upd H a o) h':=fun b u e=>by
 have hn:=x.fresh hp;by_cases hb:b=a
 ·subst hb;rw[zAG]at e;cases e;exact new
 ·rw[zAE hb]at e;exact(x b u e).stay (fun c v _ q=>k c v q) (fun c q=>by rw[zAE (zAH q hn)];exact q) (fun c xs q=>by rw[zAE (zAH q hn)];exact q) fun c _ _ q _=>by rw[zAE (zAH q hn)];exact q
end
def Rd(H:Hp)(a:Addr)(u:HO):Prop:=H a=some u\/∃o,H a=some (.frz o u)
theorem Rd.ok{P:qIy}{w:World}{H:Hp}{h:Heap}{a:Addr}{u:HO}(r:Rd H a u)(x:HOk P w H h):ObjOk P w H h a u:=by
 rcases r with r|⟨o,r⟩
 ·exact x a u r
 ·obtain⟨_,q⟩:=x a _ r;exact q
noncomputable def Mut:Option HO->Prop
 |some (.lst _)=>True
 |some (.dK _)=>True
 |some (.dT _ _ _)=>True
 |some (.set _ _)=>True
 |some (.ins _ _ _)=>True
 |some (.ext _)=>True
 |some (.lam _)=>True
 |_=>False
section
variable{P:qIy}{w:World}{H:Hp}{h h':Heap}{x e:Addr}{o':HO}
theorem HOk.write(ok:HOk P w H h)(mu:Mut (H x))(he:e=x\/H e=some (.own x))(k:∀b u,b≠e->h.get? b=some u->h'.get? b=some u)(heo:∃u,h'.get? e=some u)
  (new:ObjOk P w (upd H x o') h' x o'):HOk P w (upd H x o') h':=fun b u q=>by
 have nown:∀c y,H c=some (.own y)->c≠x:=fun c y r z=>by subst z;rw[r]at mu;exact mu
 have ntup:∀c xs,H c=some (.tup xs)->c≠x:=fun c xs r z=>by subst z;rw[r]at mu;exact mu
 have nfrz:∀c o v,H c=some (.frz o v)->c≠x:=fun c o v r z=>by subst z;rw[r]at mu;exact mu
 by_cases hb:b=x
 ·subst hb;rw[zAG]at q;cases q;exact new
 ·rw[zAE hb]at q
  by_cases hbe:b=e
  ·have q':H b=some (.own x):=by
    rcases he with z|z
    ·exact absurd (hbe.trans z) hb
    ·rw[hbe];exact z
   rw[q]at q';cases q';obtain⟨v,hv⟩:=heo;exact⟨v,by rw[hbe];exact hv⟩
  ·refine(ok b u q).stay (fun c v hc r=>k c v ?_ r) (fun c r=>by rw[zAE (nown c b r)];exact r) (fun c xs r=>by rw[zAE (ntup c xs r)];exact r) fun c o v r _=>by rw[zAE (nfrz c o v r)];exact r
   rcases hc with rfl|hc
   ·exact hbe
   ·rintro rfl
    rcases he with z|z
    ·exact nown c b hc z
    ·rw[hc]at z;cases z;exact hb rfl
end
structure Un(fs ex:List Addr)(H H':Hp)(h h':Heap):Prop where
 keep:∀b o,h.get? b=some o->H b=none->b∉fs->b∉ex->h'.get? b=some o
 slot:∀b o,h.get? b=some o->H b=none->b∈fs->b∉ex->∃sl,h'.get? b=some { o with slots:=sl }
 free:∀b o,h.get? b=some o->H b=none->b∉ex->H' b=none
 there:∀b o,h.get? b=some o->b∉ex->∃o',h'.get? b=some o'
 tups:∀b xs,H b=some (.tup xs)->H' b=some (.tup xs)
 frzs:∀b o u,H b=some (.frz o u)->H' b=some (.frz o u)
 tbls:∀b ps,H b=some (.tbl ps)->∃more,H' b=some (.tbl (ps++more))
section
variable{fs fs' ex ex':List Addr}{H H1 H2:Hp}{h h1 h2 h':Heap}{a x e:Addr}{o:HO}
theorem Un.any(u:Un fs ex H H1 h h1){b:Addr}{ob:Obj}(q:h.get? b=some ob)(n:H b=none)(hx:b∉ex):∃sl,h1.get? b=some { ob with slots:=sl }:=by
 by_cases hb:b∈fs
 ·exact u.slot b ob q n hb hx
 ·exact⟨ob.slots,u.keep b ob q n hb hx⟩
theorem Un.kept(k:∀b u,h.get? b=some u->h'.get? b=some u):Un fs ex H H h h':=
 ⟨fun b ob q _ _ _=>k b ob q,fun b ob q _ _ _=>⟨ob.slots,k b ob q⟩,fun _ _ _ n _=>n,fun b ob q _=>⟨ob,k b ob q⟩,fun _ _ q=>q,fun _ _ _ q=>q,fun _ ps q=>⟨#[],by rw[q];simp⟩⟩
theorem Un.refl:Un fs ex H H h h:=Un.kept fun _ _ q=>q
theorem Un.laid(k:∀b u,h.get? b=some u->h'.get? b=some u)(hp:h.objs.size<=a)(hn:H a=none):Un fs ex H (upd H a o) h h' where
 keep:=fun b u q _ _ _=>k b u q
 slot:=fun b u q _ _ _=>⟨u.slots,k b u q⟩
 free:=fun b u q n _=>by rw[zAE (qAq (qAg (qIx q) hp))];exact n
 there:=fun b u q _=>⟨u,k b u q⟩
 tups:=fun b xs q=>by rw[zAE (zAH q hn)];exact q
 frzs:=fun b u xs q=>by rw[zAE (zAH q hn)];exact q
 tbls:=fun b ps q=>⟨#[],by rw[zAE (zAH q hn),q];simp⟩
theorem Un.write(mu:Mut (H x))(he:e=x\/H e=some (.own x))(k:∀b u,b≠e->h.get? b=some u->h'.get? b=some u)(heo:∃u,h'.get? e=some u):Un fs ex H (upd H x o) h h':=by
 have hx:∀b,H b=none->b≠x:=fun b n z=>by subst z;rw[n]at mu;exact mu
 have hb:∀b,H b=none->b≠e:=fun b n z=>by
  subst z;rcases he with r|r
  ·exact hx b n r
  ·rw[n]at r;cases r
 have hm:∀b u,H b=some u->¬Mut (some u)->b≠x:=fun b u q nm z=>by subst z;rw[q]at mu;exact nm mu
 refine⟨fun b u q n _ _=>k b u (hb b n) q,fun b u q n _ _=>⟨u.slots,k b u (hb b n) q⟩,fun b u q n _=>by rw[zAE (hx b n)];exact n,fun b u q _=>?_,
  fun b xs q=>by rw[zAE (hm b _ q fun z=>z)];exact q,fun b u xs q=>by rw[zAE (hm b _ q fun z=>z)];exact q,fun b ps q=>⟨#[],by rw[zAE (hm b _ q fun z=>z),q];simp⟩⟩
 by_cases hbe:b=e
 ·subst hbe;exact heo
 ·exact⟨u,k b u hbe q⟩
end
noncomputable def trk(h:Heap)(H:Hp):List Addr:=(qA7 h.objs.size).filter fun a=>(H a).isSome
def hidT(h:Heap)(H:Hp):Heap:=PySem.W.hideAll h (trk h H)
theorem zPU(h:Heap)(H:Hp):(hidT h H).objs.size=h.objs.size:=PySem.W.hideAll_size _ _
theorem zSU{h:Heap}{H:Hp}{b:Addr}{o:Obj}(e:h.get? b=some o)(n:H b=none):(hidT h H).get? b=some o:=
 PySem.W.hideAll_get _ e fun hm=>by
  have q:(H b).isSome=true:=(qBi.mp hm).2;rw[n]at q;simp at q
theorem zVT{h:Heap}{H:Hp}{b:Addr}{o:Obj}(e:(hidT h H).get? b=some o):h.get? b=some o/\H b=none:=by
 have e':h.get? b=some o:=PySem.W.of_hideAll (trk h H) e;refine⟨e',?_⟩;cases q:H b with
 |none=>rfl
 |some x=>
  have hm:b∈trk h H:=qBi.mpr ⟨qBh.mpr (qIx e'),by simp[q]⟩;have z:(hidT h H).get? b=none:=PySem.W.hideAll_none (trk h H) hm;rw[z]at e;cases e
noncomputable def zWX(g h:Heap)(L:Addr):List (Addr×Obj):=(qA7 h.objs.size).filterMap fun a=>if a=L\/(g.get? a).isSome=true then none else(h.get? a).map fun o=>(a,o)
def rest(g h:Heap)(L d:Addr):List (Addr×Obj):=(zWX g h L).filter fun p=>decide (p.1≠d)
structure Mod(K:qA1)(mg:Str->Option Value)(base:Heap):Prop where
 kin:K.In base
 glob:base.Ns qJ1 mg
 blt:∃mb,base.Ns qKr mb/\∀x:Str,x≠"__name__"->mb x=qJx x
 nolimit:base.NoLimit
 bm:∃bm ob,mg "__builtins__" = some (.ref bm)/\bm≠qKr/\base.get? bm=some ob/\ob.cls=.type "module"/\ob.dict=some qKr/\ob.data=.plain
structure Cx where
 prog:qIy
 w:World
 K:qA1
 mg:Str->Option Value
 base:Heap
 A:qJ2
 N:List Str
 s₀:qIv
 H₀:Hp
 env:Env
 outer:List Env
 stack:List Env
 ex:List Addr
 fn:Str->Bool
 calm:Bool
 pn:List (Addr×Obj)
 xe:Value->qIv->Prop
noncomputable def frs(l:List Env):List Addr:=l.filterMap (·.frame)
abbrev Cx.fs(X:Cx):List Addr:=frs X.outer
def Vis(sc:Scope)(x:Str):Prop:=sc.names.lookup x=some .local\/sc.names.lookup x=some .cell\/sc.names.lookup x=some .free
def Loc(sc:Scope)(x:Str):Prop:=sc.names.lookup x=some .local\/sc.names.lookup x=some .cell
def Look(env:Env)(h:Heap)(m:Str->Option Value)(x:Str)(u:Value):Prop:=
 (env.kindOf x=some .local/\m x=some u)\/((env.kindOf x=some .cell\/env.kindOf x=some .free)/\∃c,env.cells.lookup x=some c/\h.IsCell c (some u))
structure Cx.Ok(X:Cx):Prop where
 mod:Mod X.K X.mg X.base
 kind:X.env.scope.kind=.function
 glob:X.env.globals=qJ1
 blt:X.env.builtins=qKr
 above:X.s₀.heap.objs.size<=X.env.locals
 inj:∀x y c,X.env.cells.lookup x=some c->X.env.cells.lookup y=some c->x=y
 has:∀x,(X.env.kindOf x=some .cell\/X.env.kindOf x=some .free)->∃c,X.env.cells.lookup x=some c
 cab:∀x c,X.fn x=true->X.env.cells.lookup x=some c->X.s₀.heap.objs.size<=c
 hd:X.calm=true->X.A.handled=none
 frames:X.A.frames=some X.stack
 stk:X.stack=X.outer\/(X.stack=X.env::X.outer/\X.env.frame=some X.env.locals)
 exf:∀b∈X.ex,b≠X.env.locals/\∀x c,X.env.cells.lookup x=some c->c≠b
 bs:∀b o,X.base.get? b=some o->X.s₀.heap.get? b=some o/\X.H₀ b=none
 bsz:X.base.objs.size<=X.s₀.heap.objs.size
 noex:∀b o,X.base.get? b=some o->b∉X.ex
 exfs:∀b∈X.ex,b∉X.fs
 funs:X.s₀.heap.FunFrames X.base X.outer
 frf:∀b∈X.fs,X.H₀ b=none
structure Inv(X:Cx)(pins:List (Addr×Obj))(σ:List (Option V))(H:Hp)(s:qIv):Prop where
 ok:X.Ok
 os:s.os=X.s₀.os
 bare:qL8 s.gens
 base:Un X.fs X.ex X.H₀ H X.s₀.heap s.heap
 loc:∃m,s.heap.Ns X.env.locals m/\∀(i:Nat)(x:Str)(v:V),X.N[i]?=some x->σ[i]?=some (some v)->Vis X.env.scope x->∃u,RelV v u/\Look X.env s.heap m x u
 cell:∀x c,X.env.cells.lookup x=some c->∃v,s.heap.IsCell c v
 free:H X.env.locals=none
 freeC:∀x c,X.env.cells.lookup x=some c->H c=none
 pin:∀p∈X.pn++pins,s.heap.get? p.1=some p.2/\H p.1=none/\p.1≠X.env.locals/\p.1∉X.fs/\∀v,p.2.data≠.cell v
 hok:HOk X.prog X.w H s.heap
 len:σ.length=X.N.length
section
variable{X:Cx}{pins:List (Addr×Obj)}{σ:List (Option V)}{H H':Hp}{s:qIv}{h':Heap}
theorem Cx.Ok.nofr(ok:X.Ok){b:Addr}{o:Obj}(e:X.base.get? b=some o):b∉X.fs:=fun hb=>by
 have:=(ok.funs.mem hb).1;rw[e]at this;cases this
theorem Inv.bs(I:Inv X pins σ H s):∀b o,X.base.get? b=some o->s.heap.get? b=some o/\H b=none:=fun b o e=>
 ⟨I.base.keep b o (I.ok.bs b o e).1 (I.ok.bs b o e).2 (I.ok.nofr e) (I.ok.noex b o e),I.base.free b o (I.ok.bs b o e).1 (I.ok.bs b o e).2 (I.ok.noex b o e)⟩
theorem Inv.bk(I:Inv X pins σ H s):∀b o,X.base.get? b=some o->s.heap.get? b=some o:=fun b o e=>(I.bs b o e).1
theorem Inv.mod(I:Inv X pins σ H s):Mod X.K X.mg X.base:=I.ok.mod
theorem Inv.kIn(I:Inv X pins σ H s):X.K.In s.heap:=I.ok.mod.kin.keeps I.bk
theorem Inv.nolimit(I:Inv X pins σ H s):s.heap.NoLimit:=I.ok.mod.nolimit.keeps I.bk
theorem Inv.fr(I:Inv X pins σ H s):∃m,Fr X.base X.env.locals s.heap m:=
 let⟨m,hn,_⟩:=I.loc
 ⟨m,hn,I.bk,qAs I.ok.bsz I.ok.above⟩
theorem Inv.lt(I:Inv X pins σ H s):X.env.locals<s.heap.objs.size:=let⟨_,hn,_⟩:=I.loc;hn.lt
theorem Inv.sz(I:Inv X pins σ H s):X.s₀.heap.objs.size<=s.heap.objs.size:=qAs I.ok.above (qCm I.lt)
theorem Inv.nofs(I:Inv X pins σ H s){a:Addr}(h:s.heap.objs.size<=a):a∉X.fs:=fun hb=>by
 obtain⟨_,o,ho,_⟩:=I.ok.funs.mem hb;exact absurd (qAg (qIx ho) (qAs I.sz h)) (qC7 _)
theorem Inv.cne(I:Inv X pins σ H s):∀x c,X.env.cells.lookup x=some c->c≠X.env.locals:=fun x c e z=>by
 obtain⟨v,o,ho,hd⟩:=I.cell x c e;obtain⟨m,⟨o',es,ep,ho',hd',_⟩,_⟩:=I.loc;rw[z,ho']at ho;cases ho;rw[hd']at hd;cases hd
theorem Inv.funs(I:Inv X pins σ H s):s.heap.FunFrames X.base X.outer:=by
 have all:∀(l:List Env),(∀b∈frs l,b∈X.fs)->X.s₀.heap.FunFrames X.base l->s.heap.FunFrames X.base l:=by
  intro l;induction l with
  |nil=>intro _ _;trivial
  |cons env r ih=>
   intro hs hl;obtain⟨hk,⟨L,o,hf,hn,ho,hd⟩,hr⟩:=hl;have hL:L∈X.fs:=hs L (by unfold frs;rw[qDv,hf];exact qAj);obtain⟨sl,e⟩:=I.base.slot L o ho (I.ok.frf L hL) hL fun z=>I.ok.exfs L z hL
   exact⟨hk,⟨L,_,hf,hn,e,hd⟩,ih (fun b hb=>hs b (by unfold frs;rw[qDv,hf];exact qAc _ hb)) hr⟩
 exact all X.outer (fun _ hb=>hb) I.ok.funs
theorem Inv.stack(I:Inv X pins σ H s):s.heap.FunFrames X.base X.stack:=by
 rcases I.ok.stk with e|⟨e,hf⟩
 ·rw[e];exact I.funs
 ·rw[e];obtain⟨m,hn,_⟩:=I.loc;refine .cons (by rw[I.ok.kind];decide) hf hn ?_ I.funs;exact qK2 (qAs I.ok.bsz I.ok.above)
theorem Inv.stkSub(I:Inv X pins σ H s):∀b∈frs X.stack,b∈X.env.locals::X.fs:=fun b hb=>by
 rcases I.ok.stk with e|⟨e,hf⟩
 ·rw[e]at hb;exact qAc _ hb
 ·rw[e]at hb;unfold frs at hb;rw[qDv,hf]at hb;exact hb
theorem Inv.stkFree(I:Inv X pins σ H s):∀b∈frs X.stack,H b=none:=fun b hb=>by
 rcases qAf.mp (I.stkSub b hb)with e|hb
 ·rw[e];exact I.free
 ·obtain⟨_,o,ho,_⟩:=I.ok.funs.mem hb;exact I.base.free b o ho (I.ok.frf b hb) fun z=>I.ok.exfs b z hb
theorem Inv.step{g':Array qKh}{t':Nat}{d':Drawn}{ch:List Addr}(I:Inv X pins σ H s)
  (hch:∀b∈ch,(b∈X.ex\/X.s₀.heap.objs.size<=b)/\b≠X.env.locals/\(∀x c,X.env.cells.lookup x=some c->c≠b)/\∀p∈X.pn++pins,p.1≠b)
  (keep:∀b o,b≠X.env.locals->b∉X.fs->b∉ch->s.heap.get? b=some o->H b=none->h'.get? b=some o)
  (slot:∀b o,b≠X.env.locals->b∈X.fs->b∉ch->s.heap.get? b=some o->H b=none->∃sl,h'.get? b=some { o with slots:=sl }) (free:∀b o,b∉ch->s.heap.get? b=some o->H b=none->H' b=none)
  (there:∀b o,b∉ch->s.heap.get? b=some o->∃o',h'.get? b=some o')
  (tups:∀b xs,H b=some (.tup xs)->H' b=some (.tup xs)) (frzs:∀b o u,H b=some (.frz o u)->H' b=some (.frz o u)) (tbls:∀b ps,H b=some (.tbl ps)->∃more,H' b=some (.tbl (ps++more)))
  (ns:∀m,s.heap.Ns X.env.locals m->h'.Ns X.env.locals m) (hok:HOk X.prog X.w H' h') (hg:qL8 g') :
  Inv X pins σ H' { s with heap:=h',gens:=g',drawn:=d',toks:=t' }:=by
 have neL:∀b o,X.s₀.heap.get? b=some o->b≠X.env.locals:=fun b o e=>qAq (qAg (qIx e) I.ok.above)
 have neC:∀b o,X.s₀.heap.get? b=some o->b∉X.ex->b∉ch:=fun b o e hx hb=>by
  rcases(hch b hb).1 with z|z
  ·exact hx z
  ·exact absurd (qAg (qIx e) z) (qC7 _)
 have cellK:∀x c,X.env.cells.lookup x=some c->∀v,s.heap.IsCell c v->h'.IsCell c v:=fun x c e v ⟨o,ho,hd⟩=>by
  have nch:c∉ch:=fun z=>(hch c z).2.2.1 x c e rfl
  by_cases hc:c∈X.fs
  ·obtain⟨sl,q⟩:=slot c o (I.cne x c e) hc nch ho (I.freeC x c e);exact⟨_,q,hd⟩
  ·exact⟨o,keep c o (I.cne x c e) hc nch ho (I.freeC x c e),hd⟩
 refine⟨I.ok,I.os,hg,⟨fun b o e n hb hx=>?_,fun b o e n hb hx=>?_,fun b o e n hx=>?_,fun b o e hx=>?_,fun b xs e=>tups b xs (I.base.tups b xs e),fun b o xs e=>frzs b o xs (I.base.frzs b o xs e),fun b ps e=>?_⟩,?_,fun x c e=>?_,?_,fun x c e=>?_,fun p hp=>?_,hok,I.len⟩
 ·exact keep b o (neL b o e) hb (neC b o e hx) (I.base.keep b o e n hb hx) (I.base.free b o e n hx)
 ·obtain⟨sl,e1⟩:=I.base.slot b o e n hb hx;obtain⟨sl',e2⟩:=slot b _ (neL b o e) hb (neC b o e hx) e1 (I.base.free b o e n hx);exact⟨sl',e2⟩
 ·obtain⟨o',e1⟩:=I.base.there b o e hx;exact free b o' (neC b o e hx) e1 (I.base.free b o e n hx)
 ·obtain⟨o',e1⟩:=I.base.there b o e hx;exact there b o' (neC b o e hx) e1
 ·obtain⟨m1,e1⟩:=I.base.tbls b ps e;obtain⟨m2,e2⟩:=tbls b _ e1;exact⟨m1++m2,by rw[e2,Array.append_assoc]⟩
 ·obtain⟨m,hn,hl⟩:=I.loc;refine⟨m,ns m hn,fun i x v e1 e2 e3=>?_⟩;obtain⟨u,r,l⟩:=hl i x v e1 e2 e3;refine⟨u,r,?_⟩
  rcases l with l|⟨k,c,e,z⟩
  ·exact .inl l
  ·exact .inr ⟨k,c,e,cellK x c e _ z⟩
 ·obtain⟨v,z⟩:=I.cell x c e;exact⟨v,cellK x c e v z⟩
 ·obtain⟨m,⟨o,_,_,ho,_⟩,_⟩:=I.loc;exact free _ o (fun z=>(hch _ z).2.1 rfl) ho I.free
 ·obtain⟨v,o,ho,hd⟩:=I.cell x c e;exact free c o (fun z=>(hch c z).2.2.1 x c e rfl) ho (I.freeC x c e)
 ·obtain⟨e,n,ne,nf,d⟩:=I.pin p hp;have nch:p.1∉ch:=fun z=>(hch p.1 z).2.2.2 p hp rfl
  exact⟨keep p.1 p.2 ne nf nch e n,free p.1 p.2 nch e n,ne,nf,d⟩
theorem Inv.un{t':Nat}(I:Inv X pins σ H s)(u:Un X.fs [] H H' s.heap h')(hok:HOk X.prog X.w H' h'):Inv X pins σ H' { s with heap:=h',toks:=t' }:=by
 obtain⟨m,⟨o,es,ep,ho,r⟩,_⟩:=id I.loc;obtain⟨sl,hL⟩:=u.any ho I.free (by simp);exact I.step (g':=s.gens) (d':=s.drawn) (ch:=[]) (fun _ z=>nomatch z) (fun b o _ hb _ e n=>u.keep b o e n hb (by simp)) (fun b o _ hb _ e n=>u.slot b o e n hb (by simp)) (fun b o _ e n=>u.free b o e n (by simp)) (fun b o _ e=>u.there b o e (by simp)) u.tups u.frzs u.tbls (fun m' hm=>by
  obtain⟨o',es',ep',ho',r'⟩:=hm;rw[ho]at ho';cases ho';exact⟨_,es',ep',hL,r'⟩) hok I.bare
theorem Inv.call{g':Array qKh}{t':Nat}{d':Drawn}{ch:List Addr}(I:Inv X pins σ H s)(u:Un (frs X.stack) ch H H' s.heap h')(hok:HOk X.prog X.w H' h')(hg:qL8 g')
  (hch:∀b∈ch,(b∈X.ex\/X.s₀.heap.objs.size<=b)/\b≠X.env.locals/\(∀x c,X.env.cells.lookup x=some c->c≠b)/\∀p∈X.pn++pins,p.1≠b) :
  Inv X pins σ H' { s with heap:=h',gens:=g',drawn:=d',toks:=t' }:=by
 obtain⟨m,⟨o,es,ep,ho,r⟩,_⟩:=id I.loc;obtain⟨sl,hL⟩:=u.any ho I.free fun z=>(hch _ z).2.1 rfl
 exact I.step (ch:=ch) hch (fun b o hL hb hc e n=>u.keep b o e n (fun z=>(qAf.mp (I.stkSub b z)).elim hL hb) hc) (fun b o _ _ hc e n=>u.any e n hc) (fun b o hc e n=>u.free b o e n hc) (fun b o hc e=>u.there b o e hc) u.tups u.frzs u.tbls (fun m' hm=>by
  obtain⟨o',es',ep',ho',r'⟩:=hm;rw[ho]at ho';cases ho';exact⟨_,es',ep',hL,r'⟩) hok hg
theorem Inv.turned{t':Nat}{it:Addr}(I:Inv X pins σ H s)(k:∀b o,b≠it->s.heap.get? b=some o->h'.get? b=some o)(hn:H it=none)(hL:it≠X.env.locals)
  (h1:it∈X.ex\/X.s₀.heap.objs.size<=it) (h2:∀x c,X.env.cells.lookup x=some c->c≠it) (h3:∀p∈X.pn++pins,p.1≠it):Inv X pins σ H { s with heap:=h',toks:=t' }:=by
 have nit:∀b u,H b=some u->b≠it:=fun b u e z=>by rw[z,hn]at e;cases e
 refine I.step (g':=s.gens) (d':=s.drawn) (ch:=[it]) (fun b hb=>?_) (fun b o _ _ hc e _=>k b o (fun z=>hc (by simp[z])) e) (fun b o _ _ hc e _=>⟨o.slots,k b o (fun z=>hc (by simp[z])) e⟩) (fun _ _ _ _ n=>n)
  (fun b o hc e=>⟨o,k b o (fun z=>hc (by simp[z])) e⟩) (fun _ _ e=>e) (fun _ _ _ e=>e) (fun b ps e=>⟨#[],by rw[e];simp⟩) (fun m hm=>?_) (fun b u e=>?_) I.bare
 ·have e:b=it:=by simpa using hb
  subst e;exact⟨h1,hL,h2,h3⟩
 ·obtain⟨o,es,ep,ho,r⟩:=hm;exact⟨o,es,ep,k _ o (qCe hL) ho,r⟩
 ·refine(I.hok b u e).stay (fun c v hc q=>k c v ?_ q) (fun _ q=>q) (fun _ _ q=>q) fun _ _ _ q _=>q
  rcases hc with z|z
  ·rw[z];exact nit b u e
  ·exact nit c _ z
theorem Inv.tok(I:Inv X pins σ H s)(t:Nat):Inv X pins σ H { s with toks:=t }:=I.un (h':=s.heap) (t':=t) Un.refl I.hok
theorem Inv.kept{t':Nat}(I:Inv X pins σ H s)(k:∀b u,s.heap.get? b=some u->h'.get? b=some u):Inv X pins σ H { s with heap:=h',toks:=t' }:=I.un (Un.kept k) (I.hok.kept k)
theorem Inv.laid{a:Addr}{o:HO}{t':Nat}(I:Inv X pins σ H s)(k:∀b u,s.heap.get? b=some u->h'.get? b=some u)(hp:s.heap.objs.size<=a)(new:ObjOk X.prog X.w (upd H a o) h' a o) :
  Inv X pins σ (upd H a o) { s with heap:=h',toks:=t' }:=I.un (Un.laid k hp (I.hok.fresh hp)) (I.hok.laid k hp new)
theorem Inv.write{x e:Addr}{o:HO}{t':Nat}(I:Inv X pins σ H s)(mu:Mut (H x))(he:e=x\/H e=some (.own x))(k:∀b u,b≠e->s.heap.get? b=some u->h'.get? b=some u)(heo:∃u,h'.get? e=some u)
  (new:ObjOk X.prog X.w (upd H x o) h' x o):Inv X pins σ (upd H x o) { s with heap:=h',toks:=t' }:=I.un (Un.write mu he k heo) (I.hok.write mu he k heo new)
theorem Inv.weak{σ':List (Option V)}(I:Inv X pins σ H s)(hl:σ'.length=σ.length)(w:∀(i:Nat) v,σ'[i]?=some (some v)->σ[i]?=some (some v)):Inv X pins σ' H s:=
 ⟨I.ok,I.os,I.bare,I.base,let⟨m,hn,hl'⟩:=I.loc;⟨m,hn,fun i x v e1 e2 e3=>hl' i x v e1 (w i v e2) e3⟩,I.cell,I.free,I.freeC,I.pin,I.hok,hl.trans I.len⟩
theorem Inv.pins_of{pins':List (Addr×Obj)}(I:Inv X pins σ H s)(h:∀p∈pins',s.heap.get? p.1=some p.2/\H p.1=none/\p.1≠X.env.locals/\p.1∉X.fs/\∀v,p.2.data≠.cell v):Inv X pins' σ H s:=
 ⟨I.ok,I.os,I.bare,I.base,I.loc,I.cell,I.free,I.freeC,fun p hp=>(qAz.mp hp).elim (fun z=>I.pin p (qDr _ z)) (h p),I.hok,I.len⟩
theorem zM9{N:List Str}(hN:N.Nodup){i j:Nat}{x:Str}(a:N[i]?=some x)(b:N[j]?=some x):i=j:=by
 obtain⟨h1,e1⟩:=qA3.mp a;obtain⟨h2,e2⟩:=qA3.mp b;exact(qEp hN).mp (e1.trans e2.symm)
theorem zIV{M:Model}{A:qJ2}{E:Value->qIv->Prop}{i:Nat}{x:Str}{v:V}{u:Value}{Q:Unit->qIv->Prop}(I:Inv X pins σ H s)(hN:X.N.Nodup)(hi:X.N[i]?=some x)(hx:Loc X.env.scope x)(r:RelV v u)
  (h:∀s',Inv X pins (σ.set i (some v)) H s'->(∃a,qKj a s.heap s'.heap/\(a=X.env.locals\/X.env.cells.lookup x=some a))->Q () s') (hf:X.fn x=true\/X.env.scope.names.lookup x=some .local:=by first|exact .inl rfl|exact .inr rfl|assumption):wpAny M A (storeName X.env x u) Q E s:=by
 obtain⟨m,hn,hl⟩:=id I.loc;have hcls:(X.env.scope.kind==.class||(X.env.scope.kind==.module&&X.env.locals != X.env.globals))=false:=by rw[I.ok.kind];rfl
 have hiσ:i<σ.length:=by rw[I.len];exact(qA3.mp hi).1
 have cne:=I.cne;have tracked:∀{a:Addr}{h':Heap},(∃o,s.heap.get? a=some o/\H a=none)->qKj a s.heap h'->HOk X.prog X.w H h':=fun{a h'} ha hs b ob e=>by
  obtain⟨_,_,hfree⟩:=ha;refine(I.hok b ob e).stay (fun c w' hc q=>(hs.2 c ?_).trans q) (fun _ q=>q) (fun _ _ q=>q) fun _ _ _ q _=>q
  rintro rfl
  rcases hc with rfl|hc
  ·rw[hfree]at e;cases e
  ·rw[hfree]at hc;cases hc
 rcases hx with hk|hk
 ·refine wpAny_storeName_local hk hn (fun h' hn' hs=>?_) hcls;obtain⟨oL,_,_,hoL,_⟩:=id hn;refine h _ ⟨I.ok,I.os,I.bare,⟨fun b o e n hb hx=>?_,fun b o e n hb hx=>?_,I.base.free,fun b o e hx=>?_,I.base.tups,I.base.frzs,I.base.tbls⟩,⟨_,hn',fun j y v' e1 e2 e3=>?_⟩,fun y c e=>?_,I.free,I.freeC,fun p hp=>?_,tracked ⟨oL,hoL,I.free⟩ hs,by simpa using I.len⟩ ⟨_,hs,.inl rfl⟩
  ·exact(hs.2 b (qAq (qAg (qIx e) I.ok.above))).trans (I.base.keep b o e n hb hx)
  ·obtain⟨sl,e1⟩:=I.base.slot b o e n hb hx;exact⟨sl,(hs.2 b (qAq (qAg (qIx e) I.ok.above))).trans e1⟩
  ·obtain⟨o',e1⟩:=I.base.there b o e hx;exact⟨o',(hs.2 b (qAq (qAg (qIx e) I.ok.above))).trans e1⟩
  ·by_cases hj:j=i
   ·subst hj;rw[hi]at e1;cases e1;rw[qAl hiσ]at e2;cases e2;exact⟨u,r,.inl ⟨hk,by simp⟩⟩
   ·rw[qAm (qCe hj)]at e2;obtain⟨u',r',q⟩:=hl j y v' e1 e2 e3;refine⟨u',r',?_⟩
    rcases q with⟨k,e⟩|⟨k,c,e,z⟩
    ·refine .inl ⟨k,?_⟩
     have:y≠x:=fun e=>hj (zM9 hN e1 (e▸hi))
     simp[this,e]
    ·exact .inr ⟨k,c,e,z.sameBut hs (cne y c e)⟩
  ·obtain⟨w',z⟩:=I.cell y c e;exact⟨w',z.sameBut hs (cne y c e)⟩
  ·obtain⟨e,n,ne,nf,d⟩:=I.pin p hp;exact⟨(hs.2 p.1 ne).trans e,n,ne,nf,d⟩
 ·have hfn:X.fn x=true:=by
   rcases hf with z|z
   ·exact z
   ·rw[z]at hk;cases hk
  obtain⟨c,hc⟩:=I.ok.has x (.inl hk);obtain⟨w',z⟩:=I.cell x c hc;refine wpAny_storeName_cell I.ok.kind hk hc z (fun h' hc' hs=>?_);obtain⟨oc,hoc,hocd⟩:=id z;refine h { s with heap:=h' } ⟨I.ok,I.os,I.bare,⟨fun b o e n hb hx=>?_,fun b o e n hb hx=>?_,I.base.free,fun b o e hx=>?_,I.base.tups,I.base.frzs,I.base.tbls⟩,⟨m,hn.sameBut hs (qCe (cne x c hc)),fun j y v' e1 e2 e3=>?_⟩,fun y c' e=>?_,I.free,I.freeC,fun p hp=>?_,tracked ⟨oc,hoc,I.freeC x c hc⟩ hs,by simpa using I.len⟩ ⟨c,hs,.inr hc⟩
  ·exact(hs.2 b (qAq (qAg (qIx e) (I.ok.cab x c hfn hc)))).trans (I.base.keep b o e n hb hx)
  ·obtain⟨sl,e1⟩:=I.base.slot b o e n hb hx;exact⟨sl,(hs.2 b (qAq (qAg (qIx e) (I.ok.cab x c hfn hc)))).trans e1⟩
  ·obtain⟨o',e1⟩:=I.base.there b o e hx;exact⟨o',(hs.2 b (qAq (qAg (qIx e) (I.ok.cab x c hfn hc)))).trans e1⟩
  ·by_cases hj:j=i
   ·subst hj;rw[hi]at e1;cases e1;rw[qAl hiσ]at e2;cases e2;exact⟨u,r,.inr ⟨.inl hk,c,hc,hc'⟩⟩
   ·rw[qAm (qCe hj)]at e2;obtain⟨u',r',q⟩:=hl j y v' e1 e2 e3;refine⟨u',r',?_⟩
    rcases q with q|⟨k,c',e,z'⟩
    ·exact .inl q
    ·refine .inr ⟨k,c',e,z'.sameBut hs ?_⟩
     rintro rfl
     exact hj (zM9 hN e1 (I.ok.inj _ _ _ e hc▸hi))
  ·by_cases hcc:c'=c
   ·subst hcc;exact⟨_,hc'⟩
   ·obtain⟨w2,z2⟩:=I.cell y c' e;exact⟨w2,z2.sameBut hs hcc⟩
  ·obtain⟨e,n,ne,nf,d⟩:=I.pin p hp;refine⟨(hs.2 p.1 ?_).trans e,n,ne,nf,d⟩;intro q;rw[q,hoc]at e;have q':oc=p.2:=qBd e;exact d w' (by rw[<- q'];exact hocd)
theorem zLR{M:Model}{A:qJ2}{E:Value->qIv->Prop}{i:Nat}{x:Str}{v:V}{u:Value}{Q:Unit->qIv->Prop}(I:Inv X pins σ H s)(hN:X.N.Nodup)(hi:X.N[i]?=some x)(hx:Loc X.env.scope x)(r:RelV v u)
  (h:∀s',Inv X pins (σ.set i (some v)) H s'->Q () s') (hf:X.fn x=true\/X.env.scope.names.lookup x=some .local:=by first|exact .inl rfl|exact .inr rfl|assumption):wpAny M A (storeName X.env x u) Q E s:=
 zIV I hN hi hx r (fun s' I' _=>h s' I') hf
theorem Inv.call'{s':qIv}{ch:List Addr}(I:Inv X pins σ H s)(ho:s'.os=s.os)(u:Un (frs X.stack) ch H H' s.heap s'.heap)(hok:HOk X.prog X.w H' s'.heap)(hg:qL8 s'.gens)
  (hch:∀b∈ch,(b∈X.ex\/X.s₀.heap.objs.size<=b)/\b≠X.env.locals/\(∀x c,X.env.cells.lookup x=some c->c≠b)/\∀p∈X.pn++pins,p.1≠b):Inv X pins σ H' s':=by
 obtain⟨h',g',d',t',o'⟩:=s';have e:o'=s.os:=ho;subst e;exact I.call (g':=g') (t':=t') (d':=d') u hok hg hch
end
abbrev XK:=Value->Option Addr->Hp->Prop
abbrev St:=List (Option V)
abbrev VK:=V->Hp->Prop
abbrev TE:=St->Hp->VK->Prop
abbrev TT:=St->Hp->(Bool->Hp->Prop)->Prop
abbrev TA:=St->Hp->(List V->Hp->Prop)->Prop
structure Ends where
 nx:St->Hp->Prop
 rt:VK
 bk:St->Hp->Prop:=fun _ _=>False
 ct:St->Hp->Prop:=fun _ _=>False
abbrev TS:=Ends->St->Hp->Prop
def EP(X:Cx)(pins:List (Addr×Obj))(σ:St)(Q:VK)(u:Value)(s':qIv):Prop:=∃v H',Inv X pins σ H' s'/\RelV v u/\Q v H'
def TP(X:Cx)(pins:List (Addr×Obj))(σ:St)(Q:Bool->Hp->Prop)(b:Bool)(s':qIv):Prop:=∃H',Inv X pins σ H' s'/\Q b H'
def AP(X:Cx)(pins:List (Addr×Obj))(σ:St)(Q:List V->Hp->Prop)(us:List Value)(s':qIv):Prop:=∃vs H',Inv X pins σ H' s'/\Vals vs us/\Q vs H'
def SP(X:Cx)(pins:List (Addr×Obj))(D:Ends)(f:Flow)(s':qIv):Prop:=
 match f with
 |.next=>∃σ' H',Inv X pins σ' H' s'/\D.nx σ' H'
 |.brk=>∃σ' H',Inv X pins σ' H' s'/\D.bk σ' H'
 |.cont=>∃σ' H',Inv X pins σ' H' s'/\D.ct σ' H'
 |.ret u=>∃v σ' H',Inv X pins σ' H' s'/\RelV v u/\D.rt v H'
def PE(X:Cx)(e:Expr)(t:TE):Prop:=
 ∀(pins:List (Addr×Obj))(s:qIv)(σ:St)(H:Hp)(Q:VK),Inv X pins σ H s->t σ H Q->wpAny (model X.prog X.w) X.A (eval e X.env) (EP X pins σ Q) X.xe s
def PT(X:Cx)(e:Expr)(t:TT):Prop:=
 ∀(pins:List (Addr×Obj))(s:qIv)(σ:St)(H:Hp)(Q:Bool->Hp->Prop),Inv X pins σ H s->t σ H Q->wpAny (model X.prog X.w) X.A (isTrue e X.env (eval e X.env)) (TP X pins σ Q) X.xe s
def PW(X:Cx)(e:Expr)(t:TT):Prop:=
 ∀(whole:Sem Value)(pins:List (Addr×Obj))(s:qIv)(σ:St)(H:Hp)(Q:Bool->Hp->Prop),Inv X pins σ H s->t σ H Q->wpAny (model X.prog X.w) X.A (isTrue e X.env whole) (TP X pins σ Q) X.xe s
theorem PW.pt{X:Cx}{e:Expr}{t:TT}(h:PW X e t):PT X e t:=h _
def PA(X:Cx)(es:List Expr)(t:TA):Prop:=
 ∀(pos:Pos)(pins:List (Addr×Obj))(s:qIv)(σ:St)(H:Hp)(Q:List V->Hp->Prop),Inv X pins σ H s->t σ H Q->wpAny (model X.prog X.w) X.A (spliced (backTo pos (starEach es X.env))) (AP X pins σ Q) X.xe s
def PS(X:Cx)(st:Stmt)(t:TS):Prop:=
 ∀(pins:List (Addr×Obj))(s:qIv)(σ:St)(H:Hp)(D:Ends),Inv X pins σ H s->t D σ H->wpAny (model X.prog X.w) X.A (exec st X.env) (SP X pins D) X.xe s
def PSs(X:Cx)(st:List Stmt)(t:TS):Prop:=
 ∀(pins:List (Addr×Obj))(s:qIv)(σ:St)(H:Hp)(D:Ends),Inv X pins σ H s->t D σ H->wpAny (model X.prog X.w) X.A (execs st X.env) (SP X pins D) X.xe s
theorem thn{α:Type}{t:Sem α}{Q Q':α->qIv->Prop}{M:Model}{A:qJ2}{E:Value->qIv->Prop}{s:qIv}(h:wpAny M A t Q E s)(hQ:∀a s,Q a s->Q' a s):wpAny M A t Q' E s:=wpAny_mono h hQ fun _ _ x=>x
section
variable{X:Cx}
noncomputable def tVar(i:Nat):TE:=fun σ H Q=>∃v,σ[i]?=some (some v)/\Q v H
noncomputable def tC(v:V):TE:=fun _ H Q=>Q v H
theorem zYD{i:Nat}{x:Str}{pos:Pos}(hN:X.N[i]?=some x)(hv:Vis X.env.scope x)(hd:(x==("__debug__":Str))=false:=by decide)(hcd:(x==("__classdict__":Str))=false:=by decide):PE X (.Name x pos) (tVar i):=by
 intro pins s σ H Q I h;obtain⟨v,e,h⟩:=h;obtain⟨m,hn,hl⟩:=I.loc;obtain⟨u,r,l⟩:=hl i x v hN e hv;have fin:EP X pins σ Q u s:=⟨v,H,I,r,h⟩;rcases l with⟨hk,hm⟩|⟨hk,c,hc,hcell⟩
 ·exact qMy (wpAny_loadName_local I.ok.kind hk hn hm fin) hd
 ·rcases hk with hk|hk
  ·exact qMy (wpAny_loadName_cell I.ok.kind hk hc hcell fin) hd
  ·exact qMy (wpAny_loadName_free I.ok.kind hk hc hcell fin hcd) hd
theorem zAC{i j pos}:PE X (.Constant (.int i) j pos) (tC (.int i)):=fun _ _ _ H _ I h=>wpAny_Constant_int ⟨.int i,H,I.tok _,⟨_,rfl⟩,h⟩
theorem zS7{b j pos}:PE X (.Constant (.bool b) j pos) (tC (.bl b)):=fun _ _ _ H _ I h=>Constant_bool ⟨.bl b,H,I,rfl,h⟩
theorem zM6{j pos}:PE X (.Constant .none j pos) (tC .non):=fun _ _ _ H _ I h=>Constant_none ⟨.non,H,I,rfl,h⟩
theorem zYE{x j pos}:PE X (.Constant (.str x) j pos) (tC (.str x)):=fun _ _ _ H _ I h=>Calls.Constant_str ⟨.str x,H,I.tok _,⟨_,rfl⟩,h⟩
def Gl(X:Cx)(x:Str):Prop:=X.env.kindOf x=some .globalImplicit
theorem zKW{E:Value->qIv->Prop}{pins:List (Addr×Obj)}{s:qIv}{σ:St}{H:Hp}{x:Str}{u:Value}{pos:Pos}{Q:Value->qIv->Prop}(I:Inv X pins σ H s)(hg:Gl X x)(hm:X.mg x=some u)(h:Q u s)
  (hd:(x==("__debug__":Str))=false:=by decide):wpAny (model X.prog X.w) X.A (eval (.Name x pos) X.env) Q E s:=
 qKu I.ok.kind hg (Calls.loadGlobal_global (by rw[I.ok.glob];exact I.mod.glob.keeps I.bk) hm h) hd
theorem zG5{E:Value->qIv->Prop}{pins:List (Addr×Obj)}{s:qIv}{σ:St}{H:Hp}{x:Str}{u:Value}{pos:Pos}{Q:Value->qIv->Prop}(I:Inv X pins σ H s)(hg:Gl X x)(hm:X.mg x=none)(hv:qJx x=some u)(h:Q u s)
  (hn:x≠"__name__":=by decide) (hd:(x==("__debug__":Str))=false:=by decide):wpAny (model X.prog X.w) X.A (eval (.Name x pos) X.env) Q E s:=by
 obtain⟨mb,h1,h2⟩:=I.mod.blt;exact qKu I.ok.kind hg (Calls.loadGlobal_builtin (by rw[I.ok.glob];exact I.mod.glob.keeps I.bk) hm (by rw[I.ok.blt];exact h1.keeps I.bk) ((h2 x hn).trans hv) h) hd
theorem zEY{x:Str}{v:V}{u:Value}{pos:Pos}(hg:Gl X x)(hm:X.mg x=some u)(r:RelV v u)(hd:(x==("__debug__":Str))=false:=by decide):PE X (.Name x pos) (tC v):=
 fun _ _ _ H _ I h=>zKW I hg hm ⟨v,H,I,r,h⟩ hd
theorem zHU{x:Str}{v:V}{u:Value}{pos:Pos}(hg:Gl X x)(hm:X.mg x=none)(hv:qJx x=some u)(r:RelV v u)(hn:x≠"__name__":=by decide)(hd:(x==("__debug__":Str))=false:=by decide):PE X (.Name x pos) (tC v):=
 fun _ _ _ H _ I h=>zG5 I hg hm hv ⟨v,H,I,r,h⟩ hn hd
variable{a b:Expr}{ta tb:TE}{pos:Pos}
noncomputable def tB(t:TE):TT:=fun σ H Q=>t σ H fun x H1=>∃c,x=.bl c/\Q c H1
variable{tA tB':TT}{rest:List Expr}
noncomputable def tAnd(t u:TT):TT:=fun σ H Q=>t σ H fun c H1=>if c=true then u σ H1 Q else Q false H1
noncomputable def tOr(t u:TT):TT:=fun σ H Q=>t σ H fun c H1=>if c=true then Q true H1 else u σ H1 Q
noncomputable def tNot(t:TT):TT:=fun σ H Q=>t σ H fun c H1=>Q (!c) H1
theorem zVG(ha:PT X a tA):PW X (.BoolOp .And [a] pos) tA:=by
 intro wh pins s σ H Q I h;refine isTrue_and (thn (ha pins s σ H Q I h) fun c s1 e=>?_);cases c with
 |true=>exact isTrue_and_nil e
 |false=>exact e
theorem zJ6(ha:PT X a tA):PW X (.BoolOp .Or [a] pos) tA:=by
 intro wh pins s σ H Q I h;refine isTrue_or (thn (ha pins s σ H Q I h) fun c s1 e=>?_);cases c with
 |false=>exact isTrue_or_nil e
 |true=>exact e
theorem zY7(ha:PT X a tA)(hb:PW X (.BoolOp .And (b::rest) pos) tB'):PW X (.BoolOp .And (a::b::rest) pos) (tAnd tA tB'):=by
 intro wh pins s σ H Q I h;refine isTrue_and (thn (ha pins s σ H _ I h) fun c s1 z0=>?_);obtain⟨H1,I1,q1⟩:=z0;cases c with
 |true=>exact hb wh pins s1 σ H1 Q I1 q1
 |false=>exact⟨H1,I1,q1⟩
theorem zOR(ha:PT X a tA)(hb:PW X (.BoolOp .Or (b::rest) pos) tB'):PW X (.BoolOp .Or (a::b::rest) pos) (tOr tA tB'):=by
 intro wh pins s σ H Q I h;refine isTrue_or (thn (ha pins s σ H _ I h) fun c s1 z0=>?_);obtain⟨H1,I1,q1⟩:=z0;cases c with
 |true=>exact⟨H1,I1,q1⟩
 |false=>exact hb wh pins s1 σ H1 Q I1 q1
theorem zGW(ha:PT X a tA):PT X (.UnaryOp .Not a pos) (tNot tA):=by
 intro pins s σ H Q I h;exact isTrue_not (ha pins s σ H (fun c H1=>Q (!c) H1) I h)
noncomputable def tIf(t:TT)(ta tb:TE):TE:=fun σ H Q=>t σ H fun c H1=>if c=true then ta σ H1 Q else tb σ H1 Q
theorem zHS{c:Expr}(hc:PT X c tA)(ha:PE X a ta)(hb:PE X b tb):PE X (.IfExp c a b pos) (tIf tA ta tb):=by
 intro pins s σ H Q I h;refine wpAny_IfExp (thn (hc pins s σ H _ I h) fun d s1 z0=>?_);obtain⟨H1,I1,q1⟩:=z0;cases d with
 |true=>exact ha pins s1 σ H1 Q I1 q1
 |false=>exact hb pins s1 σ H1 Q I1 q1
end
def SqL(K:qA1)(H:Hp)(a:Addr)(xs:List V):Prop:=
 Rd H a (.lst xs) \/
  ∃(o:Obj)(its:Array Value)(n:Nat),K.lookup a=some o/\o.cls=.type "list"/\o.dict=none/\o.data=.seq its n/\its.size<=sizeLine/\Vals xs its.toList
def SqT(K:qA1)(H:Hp)(a:Addr)(xs:List V):Prop:=
 Rd H a (.tup xs) \/
  ∃(o:Obj)(its:Array Value)(n:Nat),K.lookup a=some o/\o.cls=.type "tuple"/\o.data=.seq its n/\its.size<=sizeLine/\Vals xs its.toList
noncomputable def absV:Value->Option V
 |.none=>some .non
 |.bool b=>some (.bl b)
 |.int i _=>some (.int i)
 |.str x _=>some (.str x)
 |.bytes b _=>some (.byt b)
 |.float b _=>some (.flt b)
 |.ref a=>some (.ref a)
 |.type n=>some (.ty n)
 |_=>none
theorem RelV.abs{x:V}{u:Value}(r:RelV x u):absV u=some x:=by
 cases x with
 |non=>cases r;rfl
 |bl _=>cases r;rfl
 |int _=>obtain⟨t,rfl⟩:=r;rfl
 |str _=>obtain⟨t,rfl⟩:=r;rfl
 |byt _=>obtain⟨t,rfl⟩:=r;rfl
 |flt _=>obtain⟨t,rfl⟩:=r;rfl
 |ref _=>cases r;rfl
 |ty _=>cases r;rfl
theorem RelV.inj{x y:V}{u:Value}(r:RelV x u)(q:RelV y u):x=y:=qBd (r.abs.symm.trans q.abs)
theorem Vals.inj:∀{xs ys:List V}{us:List Value},Vals xs us->Vals ys us->xs=ys
 |_,_,_,.nil,.nil=>rfl
 |_,_,_,.cons r t,.cons r' t'=>by rw[r.inj r',Vals.inj t t']
section
variable{X:Cx}{pins:List (Addr×Obj)}{σ:St}{H:Hp}{s:qIv}{a:Addr}{xs ys:List V}
theorem SqL.of{K:qA1}(h:H a=some (.lst xs)):SqL K H a xs:=.inl (.inl h)
theorem SqT.of{K:qA1}(h:H a=some (.tup xs)):SqT K H a xs:=.inl (.inl h)
theorem Inv.list(I:Inv X pins σ H s)(h:SqL X.K H a xs):∃its:List Value,Vals xs its/\PlainL s.heap a its.toArray/\xs.length<=sizeLine:=by
 rcases h with h|⟨o,its,n,hk,hc,hd,hs,hz,r⟩
 ·obtain⟨z,its,n,r,e⟩:=h.ok I.hok;exact⟨its,r,⟨_,n,e,rfl,rfl,rfl⟩,z⟩
 ·refine⟨its.toList,r,⟨o,n,I.kIn a o hk,hc,hd,by simpa using hs⟩,?_⟩;have e:=r.length;simp only[qC2]at e
  lia
theorem Inv.tuple(I:Inv X pins σ H s)(h:SqT X.K H a xs):∃its:List Value,Vals xs its/\IsTup s.heap a its.toArray/\xs.length<=sizeLine:=by
 rcases h with h|⟨o,its,n,hk,hc,hs,hz,r⟩
 ·obtain⟨z,its,r,p⟩:=h.ok I.hok;exact⟨its,r,p,z⟩
 ·refine⟨its.toList,r,⟨o,I.kIn a o hk,hc,n,by simpa using hs⟩,?_⟩;have e:=r.length;simp only[qC2]at e
  lia
theorem Inv.list_inj(I:Inv X pins σ H s)(h:SqL X.K H a xs)(h':SqL X.K H a ys):xs=ys:=by
 obtain⟨its,r,⟨o,n,e,_,_,d⟩,_⟩:=I.list h;obtain⟨its',r',⟨o',n',e',_,_,d'⟩,_⟩:=I.list h';rw[e]at e';cases e';rw[d]at d';injection d' with d1 _
 have:its=its':=by simpa using congrArg qI6 d1
 subst this;exact r.inj r'
theorem Inv.tuple_inj(I:Inv X pins σ H s)(h:SqT X.K H a xs)(h':SqT X.K H a ys):xs=ys:=by
 obtain⟨its,r,⟨o,e,_,n,d⟩,_⟩:=I.tuple h;obtain⟨its',r',⟨o',e',_,n',d'⟩,_⟩:=I.tuple h';rw[e]at e';cases e';rw[d]at d';injection d' with d1 _
 have:its=its':=by simpa using congrArg qI6 d1
 subst this;exact r.inj r'
end
abbrev Cx.wish(X:Cx)(E:Value->qIv->Prop):Cx:={ X with xe:=E }
abbrev Cx.nox(X:Cx):Cx:=X.wish fun _ _=>False
theorem Cx.Ok.wish{X:Cx}(ok:X.Ok)(E:Value->qIv->Prop):(X.wish E).Ok:=
 ⟨ok.mod,ok.kind,ok.glob,ok.blt,ok.above,ok.inj,ok.has,ok.cab,ok.hd,ok.frames,ok.stk,ok.exf,ok.bs,ok.bsz,ok.noex,ok.exfs,ok.funs,ok.frf⟩
theorem Cx.Ok.unwish{X:Cx}{E:Value->qIv->Prop}(ok:(X.wish E).Ok):X.Ok:=
 ⟨ok.mod,ok.kind,ok.glob,ok.blt,ok.above,ok.inj,ok.has,ok.cab,ok.hd,ok.frames,ok.stk,ok.exf,ok.bs,ok.bsz,ok.noex,ok.exfs,ok.funs,ok.frf⟩
section
variable{X:Cx}{pins:List (Addr×Obj)}{σ:St}{H:Hp}{s:qIv}{E:Value->qIv->Prop}
theorem Inv.wish(I:Inv X pins σ H s)(E:Value->qIv->Prop):Inv (X.wish E) pins σ H s:=⟨I.ok.wish E,I.os,I.bare,I.base,I.loc,I.cell,I.free,I.freeC,I.pin,I.hok,I.len⟩
theorem Inv.unwish(I:Inv (X.wish E) pins σ H s):Inv X pins σ H s:=⟨I.ok.unwish,I.os,I.bare,I.base,I.loc,I.cell,I.free,I.freeC,I.pin,I.hok,I.len⟩
theorem SP.unwish{D:Ends}{f:Flow}{s':qIv}(h:SP (X.wish E) pins D f s'):SP X pins D f s':=by
 cases f with
 |next=>obtain⟨σ',H',I,q⟩:=h;exact⟨σ',H',I.unwish,q⟩
 |brk=>obtain⟨σ',H',I,q⟩:=h;exact⟨σ',H',I.unwish,q⟩
 |cont=>obtain⟨σ',H',I,q⟩:=h;exact⟨σ',H',I.unwish,q⟩
 |ret u=>obtain⟨v,σ',H',I,r,q⟩:=h;exact⟨v,σ',H',I.unwish,r,q⟩
theorem PSs.nox{st:List Stmt}{t:TS}(h:PSs X.nox st t):PSs X st t:=fun pins s σ H D I hw=>
 wpAny_mono (h pins s σ H D (I.wish _) hw) (fun _ _ q=>q.unwish) fun _ _ z=>qAa z
end
section
variable{X:Cx}{st:Stmt}{rest:List Stmt}{t u:TS}{e:Expr}{te:TE}{pos:Pos}
noncomputable def zXE:TS:=fun D σ H=>D.nx σ H
noncomputable def tSeq(t u:TS):TS:=fun D σ H=>t { D with nx:=u D } σ H
theorem zCE:PSs X [] zXE:=fun _ _ σ H _ I h=>qLf ⟨σ,H,I,h⟩
theorem zA5(h1:PS X st t)(h2:PSs X rest u):PSs X (st::rest) (tSeq t u):=by
 intro pins s σ H D I h;refine wpAny_execs_cons (thn (h1 pins s σ H { D with nx:=u D } I h) fun f s1 q=>?_);cases f with
 |next=>
  obtain⟨σ',H',I',q⟩:=q;exact h2 pins s1 σ' H' D I' q
 |ret v=>exact q
 |brk=>exact q
 |cont=>exact q
theorem zAK(h1:PS X st t):PSs X [st] t:=by
 intro pins s σ H D I h;refine wpAny_execs_cons (thn (h1 pins s σ H D I h) fun f s1 q=>?_);cases f with
 |next=>exact qLf q
 |ret v=>exact q
 |brk=>exact q
 |cont=>exact q
theorem Inv.quiet{pins:List (Addr×Obj)}{σ:St}{H:Hp}{s:qIv}(I:Inv X pins σ H s):interactive X.env=false:=by simp[interactive,I.ok.kind]
noncomputable def zUX(te:TE):TS:=fun D σ H=>te σ H fun _ H1=>D.nx σ H1
theorem zVJ(he:PE X e te)(hs:qM4 e none pos.line X.env=pure false:=by rfl):PS X (.Expr e pos) (zUX te):=by
 intro pins s σ H D I h;exact wpAny_Expr_any (thn (he pins s σ H _ I h) fun v s1 ⟨x,H1,I1,r1,q1⟩=>⟨σ,H1,I1,q1⟩) I.quiet hs
noncomputable def tRet(te:TE):TS:=fun D σ H=>te σ H D.rt
theorem zBC(he:PE X e te):PS X (.Return (some e) pos) (tRet te):=by
 intro pins s σ H D I h;exact wpAny_Return_some (thn (he pins s σ H _ I h) fun v s1 ⟨x,H1,I1,r1,q1⟩=>⟨x,σ,H1,I1,r1,q1⟩)
noncomputable def tIfS(c:TT)(t u:TS):TS:=fun D σ H=>c σ H fun b H1=>if b=true then t D σ H1 else u D σ H1
theorem zFV{c:Expr}{a b:List Stmt}{tc:TT}(hc:PT X c tc)(ha:PSs X a t)(hb:PSs X b u):PS X (.If c a b pos) (tIfS tc t u):=by
 intro pins s σ H D I h;refine wpAny_If (thn (hc pins s σ H _ I h) fun d s1 z0=>?_);obtain⟨H1,I1,q1⟩:=z0;cases d with
 |true=>exact ha pins s1 σ H1 D I1 q1
 |false=>exact hb pins s1 σ H1 D I1 q1
end
abbrev TG:=V->St->Hp->(St->Hp->Prop)->Prop
abbrev TGs:=List V->St->Hp->(St->Hp->Prop)->Prop
def PG(X:Cx)(target:Expr)(t:TG):Prop:=
 ∀(pins:List (Addr×Obj))(s:qIv)(σ:St)(H:Hp)(v:V)(u:Value)(Q:St->Hp->Prop),Inv X pins σ H s->RelV v u->t v σ H Q ->
  wpAny (model X.prog X.w) X.A (assign target X.env u) (fun _ s'=>∃σ' H',Inv X pins σ' H' s'/\Q σ' H') X.xe s
def PGs(X:Cx)(ts:List Expr)(t:TGs):Prop:=
 ∀(pins:List (Addr×Obj))(s:qIv)(σ:St)(H:Hp)(vs:List V)(us:List Value)(Q:St->Hp->Prop),Inv X pins σ H s->Vals vs us->t vs σ H Q ->
  wpAny (model X.prog X.w) X.A (assignInOrder ((assignEach ts X.env).map (·.2)) us) (fun _ s'=>∃σ' H',Inv X pins σ' H' s'/\Q σ' H') X.xe s
abbrev TSet:=V->V->V->Hp->(Hp->Prop)->Prop
def PSet(X:Cx)(t:TSet):Prop:=
 ∀(pins:List (Addr×Obj))(s:qIv)(σ:St)(H:Hp)(o i v:V)(ov iv u:Value)(Q:Hp->Prop),Inv X pins σ H s->RelV o ov->RelV i iv->RelV v u->t o i v H Q ->
  wpAny (model X.prog X.w) X.A (setItem ov iv u) (fun _ s'=>∃H',Inv X pins σ H' s'/\Q H') X.xe s
section
variable{X:Cx}{pos:Pos}
noncomputable def zEN(i:Nat):TG:=fun v σ H Q=>Q (σ.set i (some v)) H
theorem zBM{i:Nat}{x:Str}(hN:X.N.Nodup)(hi:X.N[i]?=some x)(hx:Loc X.env.scope x)(hf:X.fn x=true\/X.env.scope.names.lookup x=some .local:=by first|exact .inl rfl|exact .inr rfl|assumption):PG X (.Name x pos) (zEN i):=by
 intro pins s σ H v u Q I r h;exact qMa (zLR I hN hi hx r (fun s' I'=>⟨_,H,I',h⟩) hf)
noncomputable def gNil:TGs:=fun vs σ H Q=>vs=[]/\Q σ H
noncomputable def zZJ(t:TG)(u:TGs):TGs:=fun vs σ H Q=>∃v r,vs=v::r/\t v σ H fun σ' H'=>u r σ' H' Q
theorem zKN:PGs X [] gNil:=by
 intro pins s σ H vs us Q I r h;obtain⟨e,h⟩:=h;subst e;cases r;exact assignInOrder_nil ⟨σ,H,I,h⟩
theorem zDI{e:Expr}{es:List Expr}{t:TG}{u:TGs}(h1:PG X e t)(h2:PGs X es u)
  (hs:(assignEach (e::es) X.env).map (·.2)=assign e X.env::(assignEach es X.env).map (·.2):=by rfl):PGs X (e::es) (zZJ t u):=by
 intro pins s σ H vs us Q I r h;obtain⟨v,vr,e1,h⟩:=h;subst e1;cases r with
 |cons r rr=>
  rw[hs];refine assignInOrder_cons (thn (h1 pins s σ H _ _ _ I r h) fun _ s1 z0=>?_);obtain⟨σ1,H1,I1,q1⟩:=z0;exact h2 pins s1 σ1 H1 _ _ Q I1 rr q1
noncomputable def gTup(K:qA1)(n:Nat)(t:TGs):TG:=fun v σ H Q=>∃a xs,v=.ref a/\SqT K H a xs/\xs.length=n/\t xs σ H Q
theorem zYC{es:List Expr}{k:Nat}{t:TGs}{n:Nat}(hc:X.calm=true)(h:PGs X es t)
  (hn:(assignEach es X.env).length=n:=by rfl) (hst:(assignEach es X.env).findIdx? (·.1)=none:=by rfl):PG X (.Tuple es k pos) (gTup X.K n t):=by
 intro pins s σ H v u Q I r hw;obtain⟨a,xs,e1,hq,hl,hw⟩:=hw;subst e1;cases r;obtain⟨its,rv,ht,hz⟩:=I.tuple hq;refine assign_Tuple_tuple (I.ok.hd hc) ht (by simp[hn,<- hl,rv.length]) hst fun h' hx=>?_
 have I1:Inv X pins σ H { s with heap:=h' }:=I.kept (t':=s.toks) fun b o e=>hx b o (qAq (qIx e)) e
 exact h pins _ σ H xs _ Q I1 (by simpa using rv) hw
noncomputable def gSub(to ti:TE)(t:TSet):TG:=fun v σ H Q=>to σ H fun o H1=>ti σ H1 fun i H2=>t o i v H2 fun H3=>Q σ H3
theorem zDR{o i:Expr}{to ti:TE}{t:TSet}(ho:PE X o to)(hi:PE X i ti)(hs:PSet X t)
  (ha:∀v,assign (.Subscript o i pos) X.env v=(do
   let ov <- holding [v] (eval o X.env)
   let iv <- holding [v,ov] (eval i X.env)
   qN4 pos
   holding [v,ov,iv] (setItem ov iv v)
   release [v,ov,iv] []):=by intro _;rfl):PG X (.Subscript o i pos) (gSub to ti t):=by
 intro pins s σ H v u Q I r h;rw[ha];refine wpAny_bind (wpAny_holding (thn (ho pins s σ H _ I h) fun ov s1 z0=>?_));obtain⟨x,H1,I1,r1,q1⟩:=z0;refine wpAny_bind (wpAny_holding (thn (hi pins s1 σ H1 _ I1 q1) fun iv s2 z0=>?_));obtain⟨y,H2,I2,r2,q2⟩:=z0;refine wpAny_bind (wpAny_standAt (wpAny_bind (wpAny_holding (thn (hs pins s2 σ H2 x y v ov iv u _ I2 r1 r2 r q2) fun _ s3 z0=>?_))));obtain⟨H3,I3,q3⟩:=z0;exact wpAny_release ⟨σ,H3,I3,q3⟩
noncomputable def tAsg(te:TE)(g:TG):TS:=fun D σ H=>te σ H fun x H1=>g x σ H1 D.nx
theorem zDQ{tg e:Expr}{te:TE}{g:TG}(he:PE X e te)(hg:PG X tg g)(hs:swapsWithSole [tg] e pos.line X.env=pure false:=by rfl)(hw:swappedStores [tg] e X.env=pure none:=by rfl)
  (h1:(assignEach [tg] X.env).map (·.2)=[assign tg X.env]:=by rfl):PS X (.Assign [tg] e pos) (tAsg te g):=by
 intro pins s σ H D I h;refine wpAny_Assign_stores (thn (he pins s σ H _ I h) fun v s1 z0=>?_) hs hw;obtain⟨x,H1,I1,r1,q1⟩:=z0;rw[h1];exact thn (hg pins s1 σ H1 x v _ I1 r1 q1) fun _ s2 q=>q
theorem zY8{i:Nat}{x:Str}{e:Expr}{te:TE}{pos':Pos}(hN:X.N.Nodup)(hi:X.N[i]?=some x)(hx:Loc X.env.scope x)(he:PE X e te)(hs:qM4 e (some (.Name x pos')) pos.line X.env=pure false:=by rfl)(hf:X.fn x=true\/X.env.scope.names.lookup x=some .local:=by first|exact .inl rfl|exact .inr rfl|assumption) :
  PS X (.Assign [.Name x pos'] e pos) (tAsg te (zEN i)):=by
 intro pins s σ H D I h;refine wpAny_Assign_Name (thn (he pins s σ H _ I h) fun v s1 z0=>?_) hs;obtain⟨y,H1,I1,r1,q1⟩:=z0;exact zLR I1 hN hi hx r1 (fun s2 I2=>⟨_,H1,I2,q1⟩) hf
end
structure It where
 go:Nat->Hp->Prop
 yld:Nat->Hp->V->Hp->Prop
 stop:Nat->Hp->Prop
def FpOk(X:Cx)(pins:List (Addr×Obj))(H:Hp)(b:Addr):Prop:=
 H b=none/\b≠X.env.locals/\b∉X.fs/\(b∈X.ex\/X.s₀.heap.objs.size<=b)/\(∀x c,X.env.cells.lookup x=some c->c≠b)/\∀p∈X.pn++pins,p.1≠b
theorem Inv.fpOk{X:Cx}{pins:List (Addr×Obj)}{σ:St}{H H':Hp}{s:qIv}{b:Addr}(I:Inv X pins σ H s)(hb:s.heap.objs.size<=b)(hn:H' b=none):FpOk X pins H' b:=by
 refine⟨hn,qBm (qAg I.lt hb),I.nofs hb,.inr (qAs I.sz hb),fun x c e z=>?_,fun p hp z=>?_⟩
 ·obtain⟨v,q⟩:=I.cell x c e;exact absurd (qAg q.lt (by rw[z];exact hb)) (qC7 _)
 ·exact absurd (qAg (qIx (I.pin p hp).1) (by rw[z];exact hb)) (qC7 _)
structure Turn(P:qIy)(w:World)(K:qA1)(tg:Expr)(J:It)(fp:List Addr)(it:Addr)(tn:Nat->Heap->Prop):Prop where
 mem:it∈fp
 obj:∀i h,tn i h->∀b∈fp,∃o,h.get? b=some o/\∀v,o.data≠.cell v
 keep:∀i h h',tn i h->(∀b∈fp,∀o,h.get? b=some o->h'.get? b=some o)->tn i h'
 item:∀(X:Cx),X.prog=P->X.w=w->X.K=K->X.calm=true->∀(i:Nat)(pins:List (Addr×Obj))(s:qIv)(σ:St)(H:Hp)(E:Value->qIv->Prop),Inv X pins σ H s->(∀b∈fp,FpOk X pins H b)->tn i s.heap->J.go i H ->
  wpAny (model P w) X.A (pyNext (.ref it)) (fun r s1=>∃u,r=some u /\
   wpAny (model P w) X.A (letOwnedTupleGo tg (.ref it) u) (fun _ s2=>∃x H',Inv X pins σ H' s2/\RelV x u/\J.yld i H x H'/\tn (i+1) s2.heap/\∀b∈fp,H' b=none) E s1) E s
 done:∀(X:Cx),X.prog=P->X.w=w->X.K=K->X.calm=true->∀(i:Nat)(pins:List (Addr×Obj))(s:qIv)(σ:St)(H:Hp)(E:Value->qIv->Prop),Inv X pins σ H s->(∀b∈fp,FpOk X pins H b)->tn i s.heap->J.stop i H ->
  wpAny (model P w) X.A (pyNext (.ref it)) (fun r s1=>r=none/\Inv X pins σ H s1) E s
 self:∀(A:qJ2)(i:Nat)(s:qIv)(Q:Value->qIv->Prop)(E:Value->qIv->Prop),tn i s.heap->Q (.ref it) s->wpAny (model P w) A (pyIter (.ref it)) Q E s
abbrev TI:=St->Hp->(It->Hp->Prop)->Prop
def PIE(X:Cx)(pins:List (Addr×Obj))(σ:St)(tg:Expr)(R:It->Hp->Prop)(itv:Value)(s2:qIv):Prop:=
 ∃(it:Addr)(fp:List Addr)(tn:Nat->Heap->Prop)(J:It)(H':Hp),itv=.ref it/\Inv X pins σ H' s2/\Turn X.prog X.w X.K tg J fp it tn/\tn 0 s2.heap/\(∀b∈fp,FpOk X pins H' b)/\R J H'
def PI(X:Cx)(tg iter:Expr)(wi:TI):Prop:=
 ∀(pins:List (Addr×Obj))(s:qIv)(σ:St)(H:Hp)(R:It->Hp->Prop),Inv X pins σ H s->wi σ H R ->
  wpAny (model X.prog X.w) X.A (eval iter X.env) (fun v s1=>wpAny (model X.prog X.w) X.A (pyIter v) (PIE X pins σ tg R) X.xe s1) X.xe s
theorem zNS{M:Model}{A:qJ2}{E:Value->qIv->Prop}{s:qIv}{tg:Expr}{it:Addr}{u:Value}{o:Obj}{n:String}{vs:Array Value}{Q:Unit->qIv->Prop}(ho:s.heap.get? it=some o)(hc:o.cls=.type n)(hd:o.data=.fields vs)
  (hn:["enumerate","zip","dict_itemiterator","dict_reverseitemiterator","odict_iterator","itertools.zip_longest","itertools.pairwise"].contains n=false) (hQ:Q () s):wpAny M A (letOwnedTupleGo tg (.ref it) u) Q E s:=by
 unfold letOwnedTupleGo;cases tg<;>first
  |exact wpAny_pure hQ
  |(cases u<;>first
    |exact wpAny_pure hQ
    |(refine wpAny_bind (wpAny_load ho ?_)
      rw[hc,hd];show wpAny M A (if(["enumerate","zip","dict_itemiterator","dict_reverseitemiterator","odict_iterator","itertools.zip_longest","itertools.pairwise"].contains n&&vs[0]?==some (rawInt _))=true then _ else _) Q E s;rw[if_neg (by intro h;rw[hn,Bool.false_and]at h;cases h)];exact wpAny_pure hQ))
noncomputable def Itl(K:qA1)(a:Addr):It:=
 ⟨fun i H=>∃xs x,SqL K H a xs/\xs[i]?=some x,fun i H x H'=>H'=H/\∀xs,SqL K H a xs->xs[i]?=some x,fun i H=>∃xs,SqL K H a xs/\xs.length<=i⟩
noncomputable def Itt(K:qA1)(a:Addr):It:=
 ⟨fun i H=>∃xs x,SqT K H a xs/\xs[i]?=some x,fun i H x H'=>H'=H/\∀xs,SqT K H a xs->xs[i]?=some x,fun i H=>∃xs,SqT K H a xs/\xs.length<=i⟩
noncomputable def Itr(lo:Int)(n:Nat):It:=⟨fun i _=>i<n,fun i H x H'=>H'=H/\x=.int (lo+i),fun i _=>n<=i⟩
theorem zO5{P:qIy}{w:World}{K:qA1}{tg:Expr}(a it:Addr):Turn P w K tg (Itl K a) [it] it (fun i h=>h.IsListIter it a i) where
 mem:=by simp
 obj:=fun i h st b hb=>by
  have e:b=it:=by simpa using hb
  subst e;obtain⟨o,e,c,d⟩:=st;exact⟨o,e,fun v z=>by rw[d]at z;cases z⟩
 keep:=fun i h h' st k=>st.at fun o e=>k it (by simp) o e
 item:=by
  intro X hP hw hK hc i pins s σ H E I hf st hg;subst hP hw hK;obtain⟨xs,x,hq,hx⟩:=hg;obtain⟨its,rv,p,hz⟩:=I.list hq;obtain⟨u,hu,ru⟩:=rv.get hx;obtain⟨f0,f1,f2,f3,f4,f5⟩:=hf it (by simp);refine wpAny_pyNext_list_item st p.isList (x:=u) (by simpa using hu) fun h' st' sb=>?_
  have I1:Inv X pins σ H { s with heap:=h' }:=I.turned (t':=s.toks) (fun b o hb e=>(sb.2 b hb).trans e) f0 f1 f3 f4 f5;obtain⟨o,e,c,d⟩:=id st';exact⟨u,rfl,zNS (s:={ s with heap:=h' }) e c d (by decide) ⟨x,H,I1,ru,⟨rfl,fun ys hy=>by rw[I.list_inj hy hq];exact hx⟩,st',fun b hb=>(hf b hb).1⟩⟩
 done:=by
  intro X hP hw hK hc i pins s σ H E I hf st hg;subst hP hw hK;obtain⟨xs,hq,hx⟩:=hg;obtain⟨its,rv,p,hz⟩:=I.list hq;obtain⟨f0,f1,f2,f3,f4,f5⟩:=hf it (by simp);have hl:=rv.length;exact wpAny_pyNext_list_end (I.ok.hd hc) st p.isList (by simp;lia) fun h' eb=>⟨rfl,I.turned (t':=s.toks) (fun b o hb e=>eb b o hb e) f0 f1 f3 f4 f5⟩
 self:=fun _ _ _ _ _ st h=>wpAny_pyIter_listiter st h
theorem zN7{P:qIy}{w:World}{K:qA1}{tg:Expr}(a it:Addr):Turn P w K tg (Itt K a) [it] it (fun i h=>h.IsTupleIter it a i) where
 mem:=by simp
 obj:=fun i h st b hb=>by
  have e:b=it:=by simpa using hb
  subst e;obtain⟨o,e,c,d⟩:=st;exact⟨o,e,fun v z=>by rw[d]at z;cases z⟩
 keep:=fun i h h' st k=>st.at fun o e=>k it (by simp) o e
 item:=by
  intro X hP hw hK hc i pins s σ H E I hf st hg;subst hP hw hK;obtain⟨xs,x,hq,hx⟩:=hg;obtain⟨its,rv,p,hz⟩:=I.tuple hq;obtain⟨u,hu,ru⟩:=rv.get hx;obtain⟨f0,f1,f2,f3,f4,f5⟩:=hf it (by simp);refine wpAny_pyNext_tuple_item st (show s.heap.IsTuple a its.toArray from p) (x:=u) (by simpa using hu) fun h' st' sb=>?_
  have I1:Inv X pins σ H { s with heap:=h' }:=I.turned (t':=s.toks) (fun b o hb e=>(sb.2 b hb).trans e) f0 f1 f3 f4 f5;obtain⟨o,e,c,d⟩:=id st';exact⟨u,rfl,zNS (s:={ s with heap:=h' }) e c d (by decide) ⟨x,H,I1,ru,⟨rfl,fun ys hy=>by rw[I.tuple_inj hy hq];exact hx⟩,st',fun b hb=>(hf b hb).1⟩⟩
 done:=by
  intro X hP hw hK hc i pins s σ H E I hf st hg;subst hP hw hK;obtain⟨xs,hq,hx⟩:=hg;obtain⟨its,rv,p,hz⟩:=I.tuple hq;obtain⟨f0,f1,f2,f3,f4,f5⟩:=hf it (by simp);have hl:=rv.length;exact wpAny_pyNext_tuple_end (I.ok.hd hc) st (show s.heap.IsTuple a its.toArray from p) (by simp;lia) fun h' eb=>⟨rfl,I.turned (t':=s.toks) (fun b o hb e=>eb b o hb e) f0 f1 f3 f4 f5⟩
 self:=fun _ _ _ _ _ st h=>wpAny_pyIter_tupleiter st h
theorem zN8{P:qIy}{w:World}{K:qA1}{tg:Expr}(it:Addr)(lo:Int)(n:Nat):Turn P w K tg (Itr lo n) [it] it (fun i h=>IsRangeIter h it (lo+(i:Nat)*1) ((n:Int)-(i:Nat)) 1) where
 mem:=by simp
 obj:=fun i h st b hb=>by
  have e:b=it:=by simpa using hb
  subst e;exact⟨_,st,fun v z=>by
   have z':Data.fields _=Data.cell v:=z;cases z'⟩
 keep:=fun i h h' st k=>k it (by simp) _ st
 item:=by
  intro X hP hw hK hc i pins s σ H E I hf st hg;subst hP hw hK;obtain⟨f0,f1,f2,f3,f4,f5⟩:=hf it (by simp);have W:=Walks.range (prog:=X.prog) (w:=X.w) (I.ok.hd hc) it lo 1 n;refine W.item i s _ _ hg st fun v h' tk hv st' kk=>?_
  obtain⟨t,rfl⟩:=hv;have I1:Inv X pins σ H { s with heap:=h',toks:=tk }:=I.turned (fun b o hb e=>kk b o (by simpa using hb) e) f0 f1 f3 f4 f5;refine⟨_,rfl,zNS (s:={ s with heap:=h',toks:=tk }) (n:="range_iterator") st' rfl rfl (by decide) ⟨.int (lo+i),H,I1,⟨t,?_⟩,⟨rfl,rfl⟩,st',fun b hb=>(hf b hb).1⟩⟩;rw[qGn]
 done:=by
  intro X hP hw hK hc i pins s σ H E I hf st hg;subst hP hw hK;obtain⟨f0,f1,f2,f3,f4,f5⟩:=hf it (by simp);exact wpAny_pyNext_range_end (I.ok.hd hc) st (by have:n<=i:=hg;lia) fun h' eb=>⟨rfl,I.turned (t':=s.toks) (fun b o hb e=>eb b o hb e) f0 f1 f3 f4 f5⟩
 self:=fun _ _ _ _ _ st h=>wpAny_pyIter_rangeiter st h
section
variable{X:Cx}{tg:Expr}
theorem zRU{pins:List (Addr×Obj)}{σ:St}{H:Hp}{s:qIv}{R:It->Hp->Prop}{E:Value->qIv->Prop}{lo hi:Int}{t u v:Tok}{tk:Nat}(I:Inv X pins σ H s)(h1:-(2 ^ 62)<=lo)(h2:lo<2 ^ 62)(h3:-(2 ^ 62)<=hi)(h4:hi<2 ^ 62)
  (q:R (Itr lo (hi-lo).toNat) H):wpAny (model X.prog X.w) X.A (pyIter (.ref s.heap.objs.size)) (PIE X pins σ tg R) E { s with heap:=s.heap.push { cls:=.type "range",data:=.fields #[.int lo t,.int hi u,.int 1 v] },toks:=tk }:=by
 refine wpAny_pyIter_range (IsRange.new ..) (small_one h1 h2 h3 h4) ?_;have I1:Inv X pins σ H { s with heap:=s.heap.push { cls:=.type "range",data:=.fields #[.int lo t,.int hi u,.int 1 v] },toks:=tk }:=I.kept fun b o e=>qIu _ e
 refine⟨(s.heap.push { cls:=.type "range",data:=.fields #[.int lo t,.int hi u,.int 1 v] }).objs.size,[(s.heap.push { cls:=.type "range",data:=.fields #[.int lo t,.int hi u,.int 1 v] }).objs.size],_,_,H,rfl,
  I1.kept (t':=tk) fun b o e=>qIu _ e,zN8 _ lo (hi-lo).toNat,?_,fun b hb=>?_,q⟩
 ·have e1:lo+((0:Nat):Int)*1=lo:=by simp
  have e2:(((hi-lo).toNat:Nat):Int)-((0:Nat):Int)=qJr lo hi 1:=by rw[qM5];split<;>lia
  show IsRangeIter _ _ (lo+((0:Nat):Int)*1) ((((hi-lo).toNat:Nat):Int)-((0:Nat):Int)) 1;rw[e1,e2];exact qIw _ rfl
 ·have e:b=(s.heap.push { cls:=.type "range",data:=.fields #[.int lo t,.int hi u,.int 1 v] }).objs.size:=by simpa using hb
  subst e;exact I1.fpOk (qA6 _) (I1.hok.fresh (qA6 _))
def zZG(ta:TA):TI:=fun σ H R=>ta σ H fun vs H1=>∃j:Int,vs=[.int j]/\-(2 ^ 62)<=j/\j<2 ^ 62/\R (Itr 0 j.toNat) H1
theorem zC3{a:Expr}{ta:TA}{p pos:Pos}(hg:Gl X "range")(hm:X.mg "range" = none)(ha:PA X [a] ta)(hs:starEach [a] X.env=[(false,eval a X.env)]:=by rfl):PI X tg (.Call (.Name "range" p) [a] [] pos) (zZG ta):=by
 intro pins s σ H R I h;refine Call_ (zG5 I hg hm qKd (qC3 (thn (ha pos pins s σ H _ I h) fun us s1 z0=>?_) hs rfl));obtain⟨vs,H1,I1,r1,q1⟩:=z0;obtain⟨j,e,q1,q2,q⟩:=q1;subst e;cases r1 with
 |cons r rr=>
  cases rr;obtain⟨t,rfl⟩:=r;exact call_range_1 (zRU I1 (by lia) (by lia) q1 q2 (by simpa using q))
noncomputable def tFor(wi:TI)(g:TG)(tb:TS):TS:=fun D σ H=>wi σ H fun J H1=>∃W:Nat->Nat->St->Hp->Prop,(∃m,W 0 m σ H1)/\∀i m σ H,W i m σ H ->
 (J.stop i H/\D.nx σ H)\/(J.go i H/\∃N:St->Hp->Prop,(∀σ' H',N σ' H'->∃m',m'<m/\W (i+1) m' σ' H')/\∀x H',J.yld i H x H'->g x σ H' fun σ2 H2=>tb { D with nx:=N,ct:=N,bk:=D.nx } σ2 H2)
noncomputable def zGY(fp:List Addr)(h:Heap):List (Addr×Obj):=fp.filterMap fun b=>(h.get? b).map fun o=>(b,o)
theorem zDK{fp:List Addr}{h:Heap}{b:Addr}{o:Obj}(hb:b∈fp)(e:h.get? b=some o):(b,o)∈zGY fp h:=qFl.mpr ⟨b,hb,by rw[e];rfl⟩
theorem zP4{fp:List Addr}{h:Heap}{p:Addr×Obj}(hp:p∈zGY fp h):p.1∈fp/\h.get? p.1=some p.2:=by
 obtain⟨b,hb,e⟩:=qFl.mp hp;cases q:h.get? b with
 |none=>rw[q]at e;cases e
 |some o=>
  rw[q]at e;have e':(b,o)=p:=qBd e;subst e';exact⟨hb,q⟩
theorem Inv.pinned{pins:List (Addr×Obj)}{σ:St}{H:Hp}{s:qIv}{fp:List Addr}(I:Inv X pins σ H s)(hf:∀b∈fp,FpOk X pins H b)(ho:∀b∈fp,∃o,s.heap.get? b=some o/\∀v,o.data≠.cell v):Inv X (pins++zGY fp s.heap) σ H s:=
 I.pins_of fun p hp=>(qAz.mp hp).elim (fun z=>I.pin p (qAp _ z)) fun z=>by
  obtain⟨hb,e⟩:=zP4 z;obtain⟨f0,f1,f2,_⟩:=hf p.1 hb;obtain⟨o,e',d⟩:=ho p.1 hb;rw[e]at e';cases e';exact⟨e,f0,f1,f2,d⟩
theorem Inv.unpinned{pins pl:List (Addr×Obj)}{σ:St}{H:Hp}{s:qIv}(I:Inv X (pins++pl) σ H s):Inv X pins σ H s:=I.pins_of fun p hp=>I.pin p (qAp _ (qDr _ hp))
theorem zY9{iter:Expr}{body:List Stmt}{wi:TI}{g:TG}{tb:TS}{pos:Pos}(hp:PassesOwn (model X.prog X.w) X.A X.env X.xe)(hc:X.calm=true)(hi:PI X tg iter wi)(hg:PG X tg g)(hb:PSs X body tb)
  (hs:∀x,qKe iter X.env x=pure x:=by intro _;rfl):PS X (.For tg iter body [] pos) (tFor wi g tb):=by
 intro pins s σ H D I h;refine wpAny_For (thn (hi pins s σ H _ I h) fun v s1 h1=>thn h1 fun itv s2 h2=>?_) hs;obtain⟨it,fp,tn,J,H2,e,I2,T,st2,f2,W,⟨m0,w0⟩,turn⟩:=h2;subst e;have stat:∀{H':Hp},(∀b∈fp,H' b=none)->∀b∈fp,FpOk X pins H' b:=fun hn b hb=>⟨hn b hb,(f2 b hb).2⟩
 refine codeAny_forLoop_any (fun n s'=>∃i σ' H',Inv X pins σ' H' s'/\tn i s'.heap/\(∀b∈fp,H' b=none)/\W i n σ' H') ?_ m0 ⟨0,σ,H2,I2,st2,fun b hb=>(f2 b hb).1,w0⟩
 rintro n s3 ⟨i,σ3,H3,I3,st3,fr3,w3⟩
 rcases turn i n σ3 H3 w3 with⟨stop,qn⟩|⟨go,N,hN,step⟩
 ·refine qKa hp (thn (T.done X rfl rfl rfl hc i pins s3 σ3 H3 X.xe I3 (stat fr3) st3 stop) fun r s4 z0=>?_);obtain⟨hr,I4⟩:=z0;subst hr;exact qLf ⟨σ3,H3,I4,qn⟩
 ·refine qKa hp (thn (T.item X rfl rfl rfl hc i pins s3 σ3 H3 X.xe I3 (stat fr3) st3 go) fun r s4 z0=>?_);obtain⟨u,hr,h4⟩:=z0;subst hr;refine qKa hp (thn h4 fun _ s5 z0=>?_);obtain⟨x,H5,I5,r5,y5,st5,fr5⟩:=z0;have I5':=I5.pinned (stat fr5) (T.obj _ _ st5);refine qKa hp (thn (hg _ s5 σ3 H5 x u _ I5' r5 (step x H5 y5)) fun _ s6 z0=>?_);obtain⟨σ6,H6,I6,q6⟩:=z0;refine qKa hp (thn (hb _ s6 σ6 H6 _ I6 q6) fun f s7 q7=>?_);have again:∀{σ7:St}{H7:Hp},Inv X (pins++zGY fp s5.heap) σ7 H7 s7->N σ7 H7->∃m,m<n/\∃i σ' H',Inv X pins σ' H' s7/\tn i s7.heap/\(∀b∈fp,H' b=none)/\W i m σ' H':=fun{σ7 H7} I7 n7=>by
   obtain⟨m',hm,w7⟩:=hN σ7 H7 n7;refine⟨m',hm,i+1,σ7,H7,I7.unpinned,T.keep _ _ _ st5 fun b hb o e=>(I7.pin (b,o) (qAp _ (qAp _ (zDK hb e)))).1,fun b hb=>?_,w7⟩;obtain⟨o,e,d⟩:=T.obj _ _ st5 b hb;exact(I7.pin (b,o) (qAp _ (qAp _ (zDK hb e)))).2.1
  cases f with
  |next=>obtain⟨σ7,H7,I7,n7⟩:=q7;exact again I7 n7
  |cont=>obtain⟨σ7,H7,I7,n7⟩:=q7;exact again I7 n7
  |brk=>obtain⟨σ7,H7,I7,q7⟩:=q7;exact⟨σ7,H7,I7.unpinned,q7⟩
  |ret v=>obtain⟨x7,σ7,H7,I7,r7,q7⟩:=q7;exact⟨x7,σ7,H7,I7.unpinned,r7,q7⟩
end
abbrev R2:=V->V->Hp->VK->Prop
def OpR(X:Cx)(f:Value->Value->Sem Value)(r:R2):Prop:=
 ∀(pins:List (Addr×Obj))(s:qIv)(σ:St)(H:Hp)(x y:V)(v u:Value)(Q:VK),Inv X pins σ H s->RelV x v->RelV y u->r x y H Q ->
  wpAny (model X.prog X.w) X.A (f v u) (EP X pins σ Q) X.xe s
def zCO(X:Cx)(f:Value)(r:List V->Hp->VK->Prop):Prop:=
 ∀(pins:List (Addr×Obj))(s:qIv)(σ:St)(H:Hp)(xs:List V)(us:List Value)(Q:VK),Inv X pins σ H s->Vals xs us->r xs H Q ->
  wpAny (model X.prog X.w) X.A (call f us) (EP X pins σ Q) X.xe s
def TruR(X:Cx)(r:V->Hp->(Bool->Hp->Prop)->Prop):Prop:=
 ∀(pins:List (Addr×Obj))(s:qIv)(σ:St)(H:Hp)(x:V)(v:Value)(Q:Bool->Hp->Prop),Inv X pins σ H s->RelV x v->r x H Q ->
  wpAny (model X.prog X.w) X.A (truthy v) (TP X pins σ Q) X.xe s
noncomputable def tOp(r:R2)(ta tb:TE):TE:=fun σ H Q=>ta σ H fun x H1=>tb σ H1 fun y H2=>r x y H2 Q
noncomputable def rI(C:Int->Int->Prop)(g:Int->Int->V):R2:=fun x y H Q=>∃i j,x=.int i/\y=.int j/\C i j/\Q (g i j) H
noncomputable def rI0(g:Int->Int->V):R2:=fun x y H Q=>∃i j,x=.int i/\y=.int j/\Q (g i j) H
section
variable{X:Cx}{a b c:Expr}{ta tb tc:TE}{pos:Pos}
theorem binT(ha:PE X a ta)(hb:PE X b tb){pins:List (Addr×Obj)}{s:qIv}{σ:St}{H:Hp}{R:V->V->Hp->Prop}(I:Inv X pins σ H s)
  (h:ta σ H fun x H1=>tb σ H1 fun y H2=>R x y H2) {Q:Value->qIv->Prop} {f:Value->Value->Sem Value}
  (hf:∀v u s2 x y H2,Inv X pins σ H2 s2->RelV x v->RelV y u->R x y H2->wpAny (model X.prog X.w) X.A (f v u) Q X.xe s2) :
  wpAny (model X.prog X.w) X.A (eval a X.env) (fun v s₁=>wpAny (model X.prog X.w) X.A (eval b X.env) (fun u s₂=>wpAny (model X.prog X.w) X.A (f v u) Q X.xe s₂) X.xe s₁) X.xe s:=by
 refine thn (ha pins s σ H _ I h) fun v s1 z0=>?_
 obtain⟨x,H1,I1,r1,q1⟩:=z0;refine thn (hb pins s1 σ H1 _ I1 q1) fun u s2 z0=>?_
 obtain⟨y,H2,I2,r2,q2⟩:=z0;exact hf v u s2 x y H2 I2 r1 r2 q2
theorem zAI{op:Operator}{r:R2}(ho:OpR X (binaryOp op) r)(ha:PE X a ta)(hb:PE X b tb):PE X (.BinOp a op b pos) (tOp r ta tb):=by
 intro pins s σ H Q I h;exact wpAny_BinOp (binT ha hb I h fun v u s2 x y H2 I2 rx ry q=>ho pins s2 σ H2 x y v u Q I2 rx ry q)
theorem opI{f:Value->Value->Sem Value}{C:Int->Int->Prop}{g:Int->Int->Int}
  (rule:∀(i j:Int)(t u:Tok)(s:qIv)(Q:Value->qIv->Prop)(E:Value->qIv->Prop),C i j->Q (.int (g i j) s.toks) { s with toks:=s.toks+1 }->wpAny (model X.prog X.w) X.A (f (.int i t) (.int j u)) Q E s) :
  OpR X f (rI C fun i j=>.int (g i j)):=by
 intro pins s σ H x y v u Q I rx ry h;obtain⟨i,j,rfl,rfl,hc,q⟩:=h;obtain⟨t,rfl⟩:=rx;obtain⟨t',rfl⟩:=ry;exact rule i j t t' s _ _ hc ⟨.int (g i j),H,I.tok _,⟨_,rfl⟩,q⟩
theorem opI0{f:Value->Value->Sem Value}{g:Int->Int->Int}
  (rule:∀(i j:Int)(t u:Tok)(s:qIv)(Q:Value->qIv->Prop)(E:Value->qIv->Prop),Q (.int (g i j) s.toks) { s with toks:=s.toks+1 }->wpAny (model X.prog X.w) X.A (f (.int i t) (.int j u)) Q E s) :
  OpR X f (rI0 fun i j=>.int (g i j)):=by
 intro pins s σ H x y v u Q I rx ry h;obtain⟨i,j,rfl,rfl,q⟩:=h;obtain⟨t,rfl⟩:=rx;obtain⟨t',rfl⟩:=ry;exact rule i j t t' s _ _ ⟨.int (g i j),H,I.tok _,⟨_,rfl⟩,q⟩
theorem opB0{f:Value->Value->Sem Value}{g:Int->Int->Bool}
  (rule:∀(i j:Int)(t u:Tok)(s:qIv)(Q:Value->qIv->Prop)(E:Value->qIv->Prop),Q (.bool (g i j)) s->wpAny (model X.prog X.w) X.A (f (.int i t) (.int j u)) Q E s) :
  OpR X f (rI0 fun i j=>.bl (g i j)):=by
 intro pins s σ H x y v u Q I rx ry h;obtain⟨i,j,rfl,rfl,q⟩:=h;obtain⟨t,rfl⟩:=rx;obtain⟨t',rfl⟩:=ry;exact rule i j t t' s _ _ ⟨.bl (g i j),H,I,rfl,q⟩
def CPow(i j:Int):Prop:=0<=j/\j<=1000000/\i.natAbs<2 ^ 64
def CMul(i j:Int):Prop:=(-(2 ^ 64)<i/\i<2 ^ 64)\/(-(2 ^ 64)<j/\j<2 ^ 64)
theorem CMul.ok{i j:Int}(h:CMul i j):IntMulOk i j:=by
 rcases h with⟨h1,h2⟩|⟨h1,h2⟩
 ·exact .of_left (intBits_le_64 h1 h2)
 ·exact .of_right (intBits_le_64 h1 h2)
theorem zYS:OpR X (binaryOp .Add) (rI0 fun i j=>.int (i+j)):=opI0 fun _ _ _ _ _ _ _ q=>add_int q
theorem zYK:OpR X (binaryOp .Sub) (rI0 fun i j=>.int (i-j)):=opI0 fun _ _ _ _ _ _ _ q=>sub_int q
theorem zYO:OpR X (binaryOp .Mod) (rI (fun _ j=>0<j) fun i j=>.int (i%j)):=opI fun i j _ _ _ _ _ hc q=>by
 have h1:(0:Int)<j:=hc;exact mod_int' (by lia) (by rw[Int.fmod_eq_emod_of_nonneg i (by lia)];exact q)
theorem zYM:OpR X (binaryOp .Pow) (rI CPow fun i j=>.int (i ^ j.toNat)):=opI fun _ _ _ _ _ _ _ hc q=>pow_int_small hc.1 hc.2.1 hc.2.2 q
theorem zYJ:OpR X (binaryOp .BitXor) (rI0 fun i j=>.int (qKi i j)):=opI0 fun _ _ _ _ _ _ _ q=>xor_int q
end
noncomputable def scal:V->V->Bool
 |.non,.non=>true | .non,.int _=>true | .int _,.non=>true | .non,.bl _=>true | .bl _,.non=>true | .non,.str _=>true | .str _,.non=>true
 |.int _,.int _=>true | .bl _,.bl _=>true | .str _,.str _=>true | .byt _,.byt _=>true
 |.int _,.str _=>true | .str _,.int _=>true | .bl _,.str _=>true | .str _,.bl _=>true
 |_,_=>false
def rEq:R2:=fun x y H Q=>scal x y=true/\Q (.bl (decide (x=y))) H
def rNe:R2:=fun x y H Q=>scal x y=true/\Q (.bl (!decide (x=y))) H
theorem zQE{i j:Int}:decide (V.int i=V.int j)=(i==j):=by
 rw[qDw];simp
theorem dec_bl{i j:Bool}:decide (V.bl i=V.bl j)=(i==j):=by
 rw[qDw];simp
theorem zQD{i j:Str}:decide (V.str i=V.str j)=(i==j):=by
 rw[qDw];simp
theorem zQF{i j:Array UInt8}:decide (V.byt i=V.byt j)=(i.toList==j.toList):=by
 rw[qDw];cases i;cases j;simp
section
variable{X:Cx}{a b c:Expr}{ta tb tc:TE}{pos:Pos}
theorem fin_bl{pins:List (Addr×Obj)}{σ:St}{H:Hp}{s:qIv}{Q:VK}{k k':Bool}(I:Inv X pins σ H s)(q:Q (.bl k) H)(e:k=k'):EP X pins σ Q (.bool k') s:=by
 subst e;exact⟨.bl k,H,I,rfl,q⟩
theorem zb6:OpR X (compareOp .Eq) rEq:=by
 intro pins s σ H x y v u Q I rx ry h;obtain⟨hs,q⟩:=h;cases x with
 |non=>
  cases rx;cases y with
  |non=>cases ry;exact qH3 (fin_bl I q (by simp))
  |bl j=>cases ry;exact qH4 (fin_bl I q (by simp))
  |int j=>obtain⟨t',rfl⟩:=ry;exact qHj (fin_bl I q (by simp))
  |str j=>obtain⟨t',rfl⟩:=ry;exact qHk (fin_bl I q (by simp))
  |_=>exact absurd (show false=true from hs) qAe
 |bl i=>
  cases rx;cases y with
  |non=>cases ry;exact qH5 (fin_bl I q (by simp))
  |bl j=>cases ry;exact eq_bool (fin_bl I q dec_bl)
  |str j=>obtain⟨t',rfl⟩:=ry;exact qH6 (fin_bl I q (by simp))
  |_=>exact absurd (show false=true from hs) qAe
 |int i=>
  obtain⟨t,rfl⟩:=rx;cases y with
  |non=>cases ry;exact qHl (fin_bl I q (by simp))
  |int j=>obtain⟨t',rfl⟩:=ry;exact eq_int (fin_bl I q zQE)
  |str j=>obtain⟨t',rfl⟩:=ry;exact qHm (fin_bl I q (by simp))
  |_=>exact absurd (show false=true from hs) qAe
 |str i=>
  obtain⟨t,rfl⟩:=rx;cases y with
  |non=>cases ry;exact qHn (fin_bl I q (by simp))
  |bl j=>cases ry;exact qH7 (fin_bl I q (by simp))
  |int j=>obtain⟨t',rfl⟩:=ry;exact qHo (fin_bl I q (by simp))
  |str j=>obtain⟨t',rfl⟩:=ry;exact eq_str (fin_bl I q zQD)
  |_=>exact absurd (show false=true from hs) qAe
 |byt i=>
  obtain⟨t,rfl⟩:=rx;cases y with
  |byt j=>obtain⟨t',rfl⟩:=ry;exact PySem.W.eq_bytes (fin_bl I q zQF)
  |_=>exact absurd (show false=true from hs) qAe
 |_=>cases y<;>exact absurd (show false=true from hs) qAe
theorem zb3:OpR X (compareOp .NotEq) rNe:=by
 intro pins s σ H x y v u Q I rx ry h;obtain⟨hs,q⟩:=h;cases x with
 |non=>
  cases rx;cases y with
  |non=>cases ry;exact qH8 (fin_bl I q (by simp))
  |bl j=>cases ry;exact qH9 (fin_bl I q (by simp))
  |int j=>obtain⟨t',rfl⟩:=ry;exact qHp (fin_bl I q (by simp))
  |str j=>obtain⟨t',rfl⟩:=ry;exact qHq (fin_bl I q (by simp))
  |_=>exact absurd (show false=true from hs) qAe
 |bl i=>
  cases rx;cases y with
  |non=>cases ry;exact qHa (fin_bl I q (by simp))
  |bl j=>cases ry;exact ne_bool (fin_bl I q (congrArg not dec_bl))
  |str j=>obtain⟨t',rfl⟩:=ry;exact qHb (fin_bl I q (by simp))
  |_=>exact absurd (show false=true from hs) qAe
 |int i=>
  obtain⟨t,rfl⟩:=rx;cases y with
  |non=>cases ry;exact qHr (fin_bl I q (by simp))
  |int j=>obtain⟨t',rfl⟩:=ry;exact ne_int (fin_bl I q (congrArg not zQE))
  |str j=>obtain⟨t',rfl⟩:=ry;exact qHs (fin_bl I q (by simp))
  |_=>exact absurd (show false=true from hs) qAe
 |str i=>
  obtain⟨t,rfl⟩:=rx;cases y with
  |non=>cases ry;exact qHt (fin_bl I q (by simp))
  |bl j=>cases ry;exact qHc (fin_bl I q (by simp))
  |int j=>obtain⟨t',rfl⟩:=ry;exact qHu (fin_bl I q (by simp))
  |str j=>obtain⟨t',rfl⟩:=ry;exact ne_str (fin_bl I q (congrArg not zQD))
  |_=>exact absurd (show false=true from hs) qAe
 |byt i=>
  obtain⟨t,rfl⟩:=rx;cases y with
  |byt j=>obtain⟨t',rfl⟩:=ry;exact PySem.W.ne_bytes (fin_bl I q (congrArg not zQF))
  |_=>exact absurd (show false=true from hs) qAe
 |_=>cases y<;>exact absurd (show false=true from hs) qAe
theorem zb4:OpR X (compareOp .Lt) (rI0 fun i j=>.bl (decide (i<j))):=opB0 fun _ _ _ _ _ _ _ q=>lt_int q
theorem zb5:OpR X (compareOp .Gt) (rI0 fun i j=>.bl (decide (j<i))):=opB0 fun _ _ _ _ _ _ _ q=>gt_int q
theorem zYP:OpR X (compareOp .Is) (fun x y H Q=>y=.non/\Q (.bl (decide (x=.non))) H):=by
 intro pins s σ H x y v u Q I rx ry h;obtain⟨rfl,q⟩:=h;cases ry;refine is_none_gen (fin_bl I q ?_);cases x<;>first
  |(cases rx;rfl)
  |(obtain⟨t,rfl⟩:=rx;rfl)
theorem zCG(b:Expr){op:CmpOp}(h:op≠.In:=by decide)(h2:op≠.NotIn:=by decide):qL9 op b=false:=by
 have e1:(op==CmpOp.In)=false:=by cases op<;>first|rfl|exact absurd rfl h
 have e2:(op==CmpOp.NotIn)=false:=by cases op<;>first|rfl|exact absurd rfl h2
 cases b<;>simp[qL9,e1,e2]
theorem zKP{op:CmpOp}{r:R2}(ho:OpR X (compareOp op) r)(ha:PE X a ta)(hb:PE X b tb)(hm:qL9 op b=false):PE X (.Compare a [op] [b] pos) (tOp r ta tb):=by
 intro pins s σ H Q I h;exact wpAny_Compare1 (binT ha hb I h fun v u s2 x y H2 I2 rx ry q=>ho pins s2 σ H2 x y v u Q I2 rx ry q) hm
def TruV(K:qA1)(x:V)(H:Hp)(k:Bool):Prop:=
 match x with
 |.non=>k=false
 |.bl b=>k=b
 |.int i=>k=(i != 0)
 |.str y=>y.length<=sizeLine/\k=((y.length:Int) != 0)
 |.byt y=>y.size<=sizeLine/\k=((y.size:Int) != 0)
 |.ref p=>(∃xs,SqL K H p xs/\k = !xs.isEmpty)\/(∃xs,SqT K H p xs/\k = !xs.isEmpty)\/∃kvs,H p=some (.dK kvs)/\k = !kvs.isEmpty
 |_=>False
theorem zNQ{κ:Type}{kvs:List (κ×V)}{vs:List (κ×Value)}(r:KV kvs vs):(!vs.isEmpty) = !kvs.isEmpty:=by
 cases r<;>rfl
theorem zH1{xs:List V}{its:List Value}(r:Vals xs its):(!its.toArray.isEmpty) = !xs.isEmpty:=by
 cases r<;>simp
theorem zDV:(sizeLine:Nat)<2 ^ 63:=by rw[qJa];decide
theorem zXB:TruR X (fun x H Q=>∃k,TruV X.K x H k/\Q k H):=by
 intro pins s σ H x v Q I rx h;obtain⟨k,e,q⟩:=h;have hl:=zDV;have hs:sizeLine=16777216:=qJa;cases x with
 |non=>
  cases rx;have e':k=false:=e;subst e';exact truthy_none ⟨H,I,q⟩
 |bl b=>
  cases rx;have e':k=b:=e;subst e';exact qMb ⟨H,I,q⟩
 |int i=>
  obtain⟨t,rfl⟩:=rx;have e':k=(i != 0):=e;subst e';exact PySem.P.truthy_int ⟨H,I,q⟩
 |str y=>
  obtain⟨t,rfl⟩:=rx;obtain⟨hy,e'⟩:y.length<=sizeLine/\k=((y.length:Int) != 0):=e;subst e';exact PySem.P.truthy_str (by lia) ⟨H,I.tok _,q⟩
 |byt y=>
  obtain⟨t,rfl⟩:=rx;obtain⟨hy,e'⟩:y.size<=sizeLine/\k=((y.size:Int) != 0):=e;subst e';exact PySem.W.truthy_bytes (by lia) ⟨H,I.tok _,q⟩
 |ref p=>
  cases rx;have e':(∃xs,SqL X.K H p xs/\k = !xs.isEmpty)\/(∃xs,SqT X.K H p xs/\k = !xs.isEmpty)\/∃kvs,H p=some (.dK kvs)/\k = !kvs.isEmpty:=e
  rcases e' with⟨xs,hx,e'⟩|⟨xs,hx,e'⟩|⟨kvs,hx,e'⟩
  ·subst e';obtain⟨its,r,pl,hz⟩:=I.list hx;have hlen:=r.length;exact wpAny_truthy_list pl.isList (by simp only[qAh];lia) ⟨H,I.tok _,by rw[zH1 r];exact q⟩
  ·subst e';obtain⟨its,r,pl,hz⟩:=I.tuple hx;have hlen:=r.length;exact truthy_tuple pl (by simp only[qAh];lia) ⟨H,I.tok _,by rw[zH1 r];exact q⟩
  ·subst e';obtain⟨hz,hS,vs,r,m⟩:kvs.length<=sizeLine/\(p==qJz)=false/\∃vs,KV kvs vs/\s.heap.DictOf (zE2 X.prog X.w) p vs:=I.hok p _ hx;have hlen:kvs.length=vs.length:=qK9 r;exact wpAny_truthy_dict hS m (by lia) ⟨H,I.tok _,by rw[zNQ r];exact q⟩
 |_=>exact(show False from e).elim
theorem zNH:OpR X (binaryOp .Add) (fun x y H Q=>∃i j,x=.str i/\y=.str j/\i.length+j.length<=sizeLine/\Q (.str (i++j)) H):=by
 intro pins s σ H x y v u Q I rx ry h;obtain⟨i,j,rfl,rfl,hz,q⟩:=h;obtain⟨t,rfl⟩:=rx;obtain⟨t',rfl⟩:=ry;exact add_str (fun t' tk=>⟨.str (i++j),H,I.tok _,⟨_,rfl⟩,q⟩) hz
theorem zEU{x:V}{us:List Value}(r:Vals [x] us):∃u,us=[u]/\RelV x u:=by
 cases r with
 |cons r1 r2=>cases r2;exact⟨_,rfl,r1⟩
theorem zR8{x y:V}{us:List Value}(r:Vals [x,y] us):∃u w',us=[u,w']/\RelV x u/\RelV y w':=by
 cases r with
 |cons r1 r2=>
  cases r2 with
  |cons r3 r4=>cases r4;exact⟨_,_,rfl,r1,r3⟩
theorem zJV(hc:X.calm=true):zCO X (.builtin "max") (fun xs H Q=>∃i j,xs=[.int i,.int j]/\Q (.int (if j>i then j else i)) H):=by
 intro pins s σ H xs us Q I r h;obtain⟨i,j,rfl,q⟩:=h;obtain⟨u,w',rfl,⟨t,rfl⟩,⟨t',rfl⟩⟩:=zR8 r;refine max_two_ints (I.ok.hd hc) fun h' tk k=>⟨_,H,I.kept k,?_,q⟩
 by_cases hj:j>i
 ·rw[if_pos hj,if_pos hj];exact⟨_,rfl⟩
 ·rw[if_neg hj,if_neg hj];exact⟨_,rfl⟩
theorem zQT(hc:X.calm=true):zCO X (.builtin "min") (fun xs H Q=>∃i j,xs=[.int i,.int j]/\Q (.int (if j<i then j else i)) H):=by
 intro pins s σ H xs us Q I r h;obtain⟨i,j,rfl,q⟩:=h;obtain⟨u,w',rfl,⟨t,rfl⟩,⟨t',rfl⟩⟩:=zR8 r;refine min_two_ints (I.ok.hd hc) fun h' tk k=>⟨_,H,I.kept k,?_,q⟩
 by_cases hj:j<i
 ·rw[if_pos hj,if_pos hj];exact⟨_,rfl⟩
 ·rw[if_neg hj,if_neg hj];exact⟨_,rfl⟩
end
structure ObjM(h:Heap)(x dx C:Addr)(mA:Str->Option Value):Prop where
 obj:h.get? x=some (qEy C dx)
 ns:h.Ns1 dx mA
 ne:dx≠x
theorem zPE{h:Heap}{dx:Addr}{mA:Str->Option Value}(n:h.Ns1 dx mA):∃od,h.get? dx=some od/\∀name,qFa name od=some (mA name):=by
 obtain⟨o,es,ep,ho,hd,hk,_,hm⟩:=n;refine⟨o,ho,fun name=>?_⟩;have e:=hm name;unfold nsFind findBy at e;rw[<- Array.find?_toList]at e;unfold qFa;rw[hd];dsimp only
 split
 ·rename_i y q
  rw[q]at e;exact congrArg some e
 ·rename_i q
  rw[q]at e;have a:es.toList.any (·.refKey)=false:=by
   rw[qFz];intro y hy;obtain⟨z,t,hkey⟩:=hk y (Array.mem_toList_iff.mp hy);simp[DictEntry.refKey,hkey]
  have a':¬es.toList.any (·.refKey)=true:=by rw[a];exact qAe
  rw[if_neg a'];exact congrArg some e
theorem ObjM.look{h:Heap}{x dx C:Addr}{mA:Str->Option Value}(I:ObjM h x dx C mA):∃od,PySem.W.InstAt h x (qEy C dx) C (some od)/\∀name,qFa name od=some (mA name):=
 let⟨od,ho,hl⟩:=zPE I.ns
 ⟨od,⟨I.obj,rfl,rfl,ho⟩,hl⟩
section
variable{prog:qIy}{w:World}{A:qJ2}{E:Value->qIv->Prop}{s:qIv}{K:qA1}{x dx C f:Addr}{mA:Str->Option Value}{name:Str}{v:Value}
end
theorem RelO.some_of{v:V}{o:Option Value}(r:RelO (some v) o):∃u,o=some u/\RelV v u:=by
 cases o with
 |none=>exact(show False from r).elim
 |some u=>exact⟨u,rfl,r⟩
section
variable{P:qIy}{w:World}{H H':Hp}{h h':Heap}{a C dx:Addr}{fs fs':List (Str×V)}
theorem zWE(hok:HOk P w H h)(e:H a=some (.ins C dx fs)):∃mA,ObjM h a dx C mA/\(∀f,RelO (fs.lookup f) (mA f))/\qI5 mA (fs.map (·.1))/\fs.length<=1000/\H dx=some (.own a):=by
 obtain⟨d,z,ne,ob,mA,n,r,q⟩:=(show ObjOk P w H h a (.ins C dx fs) from hok a _ e)
 exact⟨mA,⟨ob,n,ne⟩,r,q,z,d⟩
end
structure Cls(K:qA1)(C:Addr):Prop where
 pg:qGa K C Str.empty=true
 hd:qEf K C=true
 po:PySem.W.plainOver K C=true
 sa:qB4 K (.ref C) "__setattr__" = some (some (.builtin "object.__setattr__"))
theorem Cls.get{K:qA1}{C:Addr}(c:Cls K C)(f:Str):qGa K C f=true:=c.pg
def zaG(K:qA1)(C:Addr)(f:Str):Prop:=qB4 K (.ref C) f=some none
section
variable{X:Cx}{pins:List (Addr×Obj)}{σ:St}{H:Hp}{s:qIv}{a C dx:Addr}{fs:List (Str×V)}{f:Str}{v:V}{A:qJ2}{E:Value->qIv->Prop}
end
section
variable{X:Cx}{o e value:Expr}{f:Str}{pos pos' tpos:Pos}{ta tv:TE}
end
section
variable{X:Cx}{pins:List (Addr×Obj)}{σ:St}{H:Hp}{s:qIv}{A:qJ2}{E:Value->qIv->Prop}{Q:Value->qIv->Prop}{c:Value}{b:Bool}
inductive TyOf(K:qA1)(H:Hp):V->Value->Prop where
 |non:TyOf K H .non (.type "NoneType")
 |bl (x:Bool):TyOf K H (.bl x) (.type "bool")
 |int (i:Int):TyOf K H (.int i) (.type "int")
 |str (x:Str):TyOf K H (.str x) (.type "str")
 |flt (x:UInt64):TyOf K H (.flt x) (.type "float")
 |lst {a:Addr} {xs:List V} (e:H a=some (.lst xs)):TyOf K H (.ref a) (.type "list")
 |frz {a:Addr} {o:Obj} {xs:List V} (e:H a=some (.frz o (.lst xs))):TyOf K H (.ref a) (.type "list")
 |tup {a:Addr} {xs:List V} (e:H a=some (.tup xs)):TyOf K H (.ref a) (.type "tuple")
 |dK {a:Addr} {kvs:List (Key×V)} (e:H a=some (.dK kvs)):TyOf K H (.ref a) (.type "dict")
 |dT {a:Addr} {T:Addr->Prop} {e0:Nat} {kvs:List (List KeyN×V)} (e:H a=some (.dT T e0 kvs)):TyOf K H (.ref a) (.type "dict")
 |ins {a C dx:Addr} {fs:List (Str×V)} (e:H a=some (.ins C dx fs)) (cl:Cls K C) (ha:qB4 K (.ref C) "__class__" = some (some (.builtin "object.__class__")))
   (hn:qG0 K (.builtin "object.__class__") "__get__" = some (some (.builtin "getset_descriptor.__get__"))) (htk:qGo K (.builtin "object.__class__")=some true)
   (hm:qFm K C (.type "object")=some true):TyOf K H (.ref a) (.ref C)
theorem zPP{x:V}{u t:Value}(I:Inv X pins σ H s)(rx:RelV x u)(ty:TyOf X.K H x t)(e:qHd X.K t c=some b)(h:∀tk,Q (.bool b) { s with toks:=tk }) :
  wpAny (model X.prog X.w) A (call (.builtin "isinstance") [u,c]) Q E s:=by
 cases ty with
 |non=>cases(show u=qJ4 from rx);exact qBe PySem.W.kitx_none I.kIn qD2 e (fun z=>nomatch z) h
 |bl y=>cases(show u=qLl y from rx);exact qBe PySem.W.kitx_bool I.kIn qD2 e (fun z=>nomatch z) h
 |int i=>obtain⟨t,q⟩:=(show ∃t,u=qJw i t from rx);cases q;exact qBe PySem.W.kitx_int I.kIn qD2 e (fun z=>nomatch z) h
 |str y=>obtain⟨t,q⟩:=(show ∃t,u=qK8 y t from rx);cases q;exact qBe PySem.W.kitx_str I.kIn qD2 e (fun z=>nomatch z) h
 |flt y=>obtain⟨t,q⟩:=(show ∃t,u=qNb y t from rx);cases q;exact qBe PySem.W.kitx_float I.kIn qD2 e (fun z=>nomatch z) h
 |@lst a xs ea=>
  cases(show u=qJ0 a from rx)
  obtain⟨_,_,n,_,h1⟩:=(show ObjOk X.prog X.w H s.heap a (.lst xs) from I.hok a _ ea)
  exact qBe qG1 I.kIn ⟨_,h1,rfl⟩ e (fun z=>nomatch z) h
 |@frz a ob xs ea=>
  cases(show u=qJ0 a from rx)
  obtain⟨_,_,_,n,_,h1⟩:=(show ObjOk X.prog X.w H s.heap a (.frz ob (.lst xs)) from I.hok a _ ea)
  exact qBe qG1 I.kIn ⟨_,h1,rfl⟩ e (fun z=>nomatch z) h
 |@tup a xs ea=>
  cases(show u=qJ0 a from rx)
  obtain⟨_,_,_,p⟩:=(show ObjOk X.prog X.w H s.heap a (.tup xs) from I.hok a _ ea)
  obtain⟨o,h1,h2,_⟩:=p;exact qBe PySem.W.kitx_tuple I.kIn ⟨o,h1,h2⟩ e (fun z=>nomatch z) h
 |@dK a kvs ea=>
  cases(show u=qJ0 a from rx)
  obtain⟨_,_,vs,_,p⟩:=(show ObjOk X.prog X.w H s.heap a (.dK kvs) from I.hok a _ ea)
  obtain⟨o,es,ep,h1,h2,_⟩:=p;exact qBe qG2 I.kIn ⟨o,h1,h2.1⟩ e (fun z=>nomatch z) h
 |@dT a T e0 kvs ea=>
  cases(show u=qJ0 a from rx)
  obtain⟨_,_,xs,_,o,es,ep,h1,h2,_⟩:=(show ObjOk X.prog X.w H s.heap a (.dT T e0 kvs) from I.hok a _ ea)
  exact qBe qG2 I.kIn ⟨o,h1,h2.1⟩ e (fun z=>nomatch z) h
 |@ins a C dx fs ea cl ha hn htk hm=>
  cases(show u=qJ0 a from rx)
  obtain⟨mA,O,_⟩:=zWE I.hok ea;obtain⟨od,J,_⟩:=O.look;exact qBe (PySem.W.kitx_own (cl.get _) cl.hd ha hn htk hm) I.kIn J e (fun z=>nomatch z) h
end
structure Room(k:Nat)(A:qJ2):Prop where
 hd:A.handled=none
 dp:A.depth+3*k+5<recursionLimit
 un:A.units+16*k+200<cLine
theorem Room.mono{j k:Nat}{A:qJ2}(r:Room k A)(h:j<=k):Room j A:=⟨r.hd,by have:=r.dp;lia,by have:=r.un;lia⟩
theorem Room.deeper{k:Nat}{A:qJ2}(r:Room (k+1) A)(env:Env):Room k (A.deeper env):=
 ⟨r.hd,by have:=r.dp;show A.depth+1+3*k+5<_;lia,by have:=r.un;show A.units+3+16*k+200<_;lia⟩
theorem Room.in1{k:Nat}{A:qJ2}(r:Room (k+1) A):Room k A.in1:=
 ⟨r.hd,by have:=r.dp;show A.depth+3*k+5<_;lia,by have:=r.un;show A.units+1+16*k+200<_;lia⟩
theorem Room.depth{k:Nat}{A:qJ2}(r:Room k A):A.depth<recursionLimit:=by have:=r.dp;lia
theorem Room.units{k:Nat}{A:qJ2}(r:Room k A):A.units+64<cLine:=by have:=r.un;lia
noncomputable def tNil:TA:=fun _ H Q=>Q [] H
noncomputable def zEA(ta:TE)(tr:TA):TA:=fun σ H Q=>ta σ H fun x H1=>tr σ H1 fun xs H2=>Q (x::xs) H2
section
variable{X:Cx}{e:Expr}{es:List Expr}{te:TE}{t:TA}{pos:Pos}
theorem zA6:PA X [] tNil:=fun _ _ _ _ H Q I h=>qMc ⟨[],H,I,.nil,h⟩
theorem zA1(ha:PE X e te)(hr:PA X es t)(hs:starEach (e::es) X.env=(false,eval e X.env)::starEach es X.env:=by rfl):PA X (e::es) (zEA te t):=by
 intro pos pins s σ H Q I h;rw[hs];show wpAny _ _ (spliced ((false,eval e X.env)::backTo pos (starEach es X.env))) _ _ s;refine qKz (thn (ha pins s σ H _ I h) fun u s1 z0=>?_);obtain⟨x,H1,I1,r1,q1⟩:=z0;exact thn (hr pos pins s1 σ H1 _ I1 q1) fun us s2 ⟨xs,H2,I2,r2,q2⟩=>⟨x::xs,H2,I2,.cons r1 r2,q2⟩
def tTup(t:TA):TE:=fun σ H Q=>t σ H fun xs H1=>xs.length<=sizeLine/\∀p,H1 p=none->Q (.ref p) (upd H1 p (.tup xs))
def tLst(t:TA):TE:=fun σ H Q=>t σ H fun xs H1=>xs.length<=sizeLine/\∀p,H1 p=none->Q (.ref p) (upd H1 p (.lst xs))
theorem zOY{x1}(h:PA X es t):PE X (.Tuple es x1 pos) (tTup t):=by
 intro pins s σ H Q I hq;refine wpAny_Tuple_spliced (thn (h pos pins s σ H _ I hq) fun us s1 ⟨xs,H1,I1,r,z,q⟩=>⟨by rw[<- r.length];exact z,?_⟩);have hf:H1 s1.heap.objs.size=none:=I1.hok.fresh (qA6 _);refine⟨.ref s1.heap.objs.size,upd H1 s1.heap.objs.size (.tup xs),I1.laid (t':=s1.toks) (fun b u e=>qIu _ e) (qA6 _) ?_,rfl,q _ hf⟩;exact⟨z,us,r,⟨_,qIw _ rfl,rfl,_,rfl⟩⟩
theorem zDS(h:PA X es t):PE X (.List es pos) (tLst t):=by
 intro pins s σ H Q I hq;refine wpAny_List_spliced (thn (h pos pins s σ H _ I hq) fun us s1 ⟨xs,H1,I1,r,z,q⟩=>⟨by rw[<- r.length];exact z,?_⟩);have hf:H1 s1.heap.objs.size=none:=I1.hok.fresh (qA6 _);refine⟨.ref s1.heap.objs.size,upd H1 s1.heap.objs.size (.lst xs),I1.laid (t':=s1.toks) (fun b u e=>qIu _ e) (qA6 _) ?_,rfl,q _ hf⟩;exact⟨z,us,0,r,qIw _ rfl⟩
end
abbrev Sp:=List V->Hp->VK->XK->Prop
abbrev CXT:=List Env->Hp->qIv->XK->Value->qIv->Prop
structure Env0(P:qIy)(w:World)(K:qA1)(mg:Str->Option Value)(base:Heap)(A:qJ2)(outer:List Env)(s:qIv)(H:Hp):Prop where
 frames:A.frames=some outer
 mod:Mod K mg base
 bs:∀b o,base.get? b=some o->s.heap.get? b=some o/\H b=none
 bsz:base.objs.size<=s.heap.objs.size
 funs:s.heap.FunFrames base outer
 frf:∀b∈frs outer,H b=none
 hok:HOk P w H s.heap
 bare:qL8 s.gens
def CE(outer:List Env)(P:qIy)(w:World)(H:Hp)(s:qIv)(Q:VK)(u:Value)(s':qIv):Prop:=
 ∃v H',s'.os=s.os/\qL8 s'.gens/\Un (frs outer) [] H H' s.heap s'.heap/\HOk P w H' s'.heap/\RelV v u/\Q v H'
def CR(CX:CXT)(outer:List Env)(P:qIy)(w:World)(H:Hp)(s:qIv)(Q:VK)(E:XK)(r:qLr)(s':qIv):Prop:=
 match r with
 |.ok (.ret u)=>CE outer P w H s Q u s'
 |.ok _=>False
 |.error e=>CX outer H s E e s'
structure FnOk(P:qIy)(w:World)(K:qA1)(mg:Str->Option Value)(base:Heap)(CX:CXT)(k:Nat)(f:Addr)(fd:qJl)(ps:List Str)(sp:Sp):Prop where
 len:∀vs H Q E,sp vs H Q E->vs.length=ps.length
 run:∀(A:qJ2)(outer:List Env)(s:qIv)(H:Hp)(args:Args)(us:List Value)(vs:List V)(Q:VK)(E:XK),Room k A->Env0 P w K mg base A outer s H->qMd s fd args (ps.zip us)->Vals vs us->sp vs H Q E ->
  qKf (model P w) A (.call (.ref f) args) (CR CX outer P w H s Q E) s
theorem FnOk.imp{P:qIy}{w:World}{K:qA1}{mg:Str->Option Value}{base:Heap}{CX:CXT}{k:Nat}{f:Addr}{fd:qJl}{ps:List Str}{sp sp':Sp}(F:FnOk P w K mg base CX k f fd ps sp)
  (h:∀vs H Q E,sp' vs H Q E->sp vs H Q E):FnOk P w K mg base CX k f fd ps sp':=
 ⟨fun vs H Q E q=>F.len vs H Q E (h _ _ _ _ q),fun A outer s H args us vs Q E hr he hb hv hs=>F.run A outer s H args us vs Q E hr he hb hv (h _ _ _ _ hs)⟩
section
variable{X:Cx}{pins:List (Addr×Obj)}{σ:St}{H:Hp}{s s':qIv}
theorem Inv.env0(I:Inv X pins σ H s):Env0 X.prog X.w X.K X.mg X.base X.A X.stack s H:=
 ⟨I.ok.frames,I.ok.mod,I.bs,qAs I.ok.bsz I.sz,I.stack,I.stkFree,I.hok,I.bare⟩
theorem Inv.after{Q:VK}{u:Value}(I:Inv X pins σ H s)(h:CE X.stack X.prog X.w H s Q u s'):EP X pins σ Q u s':=by
 obtain⟨v,H',os,bare,un,hok,r,q⟩:=h;obtain⟨hh,g,d,t,os'⟩:=s';obtain rfl:os'=s.os:=os;exact⟨v,H',I.call (h':=hh) (g':=g) (d':=d) (t':=t) (ch:=[]) un hok bare (fun b z=>absurd z (by simp)),r,q⟩
end
noncomputable def zEB(sp:Sp)(dvs:List V)(E:XK)(t:TA):TE:=fun σ H Q=>t σ H fun vs H1=>sp (vs++dvs) H1 Q E
def Binds(K:qA1)(fd:qJl)(ps:List Str)(ds:List Value):Prop:=
 ∀(s:qIv)(us:List Value),K.In s.heap->(us++ds).length=ps.length->qMd s fd ⟨us,[]⟩ (ps.zip (us++ds))
theorem Binds.all{K:qA1}{fd:qJl}{ps:List Str}(h:∀us:List Value,us.length=ps.length->bindArgs fd ⟨us,[]⟩=pure (ps.zip us)):Binds K fd ps []:=fun s us _ hl=>by
 rw[qBu]at hl ⊢;exact .of_eq (h us hl)
def zN2(CX:CXT)(X:Cx)(E:XK):Prop:=∀(pins:List (Addr×Obj))(σ:St)(H:Hp)(s:qIv)(e:Value)(s':qIv),Inv X pins σ H s->CX X.stack H s E e s'->X.xe e s'
section
variable{X:Cx}{CX:CXT}{k:Nat}{f C:Addr}{fd:qJl}{ps:List Str}{sp:Sp}{dvs:List V}{ds:List Value}{E:XK}{x m:Str}{p pos apos:Pos}{e o:Expr}{es:List Expr}{ta:TE}{t:TA}
theorem zXO{pins:List (Addr×Obj)}{σ:St}{H:Hp}{s:qIv}{Q:VK}{us:List Value}{vs:List V}(F:FnOk X.prog X.w X.K X.mg X.base CX k f fd ps sp)(hr:Room k X.A)(hb:Binds X.K fd ps ds)(hd:Vals dvs ds)(hx:zN2 CX X E)
  (I:Inv X pins σ H s) (r:Vals vs us) (h:sp (vs++dvs) H Q E):wpAny (model X.prog X.w) X.A (call (.ref f) us) (EP X pins σ Q) X.xe s:=by
 have r2:Vals (vs++dvs) (us++ds):=r.append hd;have hl:(us++ds).length=ps.length:=by rw[<- r2.length];exact F.len _ _ _ _ h
 refine wpAny_call (codeAny_mono (F.run X.A X.stack s H ⟨us,[]⟩ (us++ds) (vs++dvs) Q E hr I.env0 (hb s us I.kIn hl) r2 h) fun r s' hq=>?_);cases r with
 |error e=>exact hx pins σ H s e s' I hq
 |ok fl=>
  cases fl with
  |ret u=>exact I.after hq
  |next=>exact qAa hq
  |brk=>exact qAa hq
  |cont=>exact qAa hq
theorem zKQ(F:FnOk X.prog X.w X.K X.mg X.base CX k f fd ps sp)(hr:Room k X.A)(hg:Gl X x)(hm:X.mg x=some (.ref f))(hk:qB5 X.K (.ref f)=true)(hb:Binds X.K fd ps ds)(hd:Vals dvs ds)(hx:zN2 CX X E)
  (ha:PA X (e::es) t) (hdb:(x==("__debug__":Str))=false:=by decide) (he:starEach (e::es) X.env=(false,eval e X.env)::starEach es X.env:=by rfl) (hpl:(backTo pos (starEach es X.env)).any (·.1)=false:=by rfl) :
  PE X (.Call (.Name x p) (e::es) [] pos) (zEB sp dvs E t):=by
 intro pins s σ H Q I h;refine qJv (zKW I hg hm ?_ hdb);refine qFn (h₀:=X.base) I.ok.mod.kin hk (thn (ha pos pins s σ H _ I h) fun us s1 ⟨vs,H1,I1,r,q⟩=>⟨I1.kIn,?_⟩) he hpl;exact zXO F hr hb hd hx I1 r q
end
section
variable{X:Cx}{CX:CXT}{k:Nat}{f C:Addr}{fd:qJl}{ps ks:List Str}{sp:Sp}{E:XK}{x m:Str}{p pos apos kpos:Pos}{e o:Expr}{es:List Expr}{kws:List qN5}{te ta:TE}{t tk:TA}{nm:Option Str}
variable{g:List Value->List Value->List Value}{gV:List V->List V->List V}
end
structure FnScope(N P:List Str)(sc:Scope):Prop where
 kind:sc.kind=.function
 co:sc.isCoroutine=false
 gen:sc.isGenerator=false
 nd:N.Nodup
 pre:N.take P.length=P
 par:∀x∈P,sc.names.lookup x=some .local\/sc.names.lookup x=some .cell
 nofree:∀y∈sc.names,y.2≠.free
theorem zK0{kindOf:Str->Option qK0}{x:Str}:∀{binds:List (Str×Value)}{m:Str->Option Value},(∀v,(x,v)∉binds)->bindL kindOf binds m x=m x
 |[],_,_=>rfl
 |(n,v)::r,m,h=>by
  unfold bindL;rw[zK0 fun w hw=>h w (qAc _ hw)]
  split
  ·have:x≠n:=by rintro rfl;exact h v qAj
   simp[this]
  ·rfl
theorem zK2{kindOf:Str->Option qK0}{x:Str}:∀{binds:List (Str×Value)}{m:Str->Option Value},(∀v,(x,v)∉binds)->bindC kindOf binds m x=m x
 |[],_,_=>rfl
 |(n,v)::r,m,h=>by
  unfold bindC;rw[zK2 fun w hw=>h w (qAc _ hw)]
  split
  ·rfl
  ·have:x≠n:=by rintro rfl;exact h v qAj
   simp[this]
theorem zK1{kindOf:Str->Option qK0}{x:Str}{v:Value}:∀{P:List Str}{vs:List Value}{i:Nat}{m:Str->Option Value},P.Nodup->P[i]?=some x->vs[i]?=some v->kindOf x=some .local ->
  bindL kindOf (P.zip vs) m x=some v
 |[],_,_,_,_,h,_,_=>by simp at h
 |_::_,[],_,_,_,_,h,_=>by simp at h
 |p::P,w::vs,0,m,nd,h1,h2,hk=>by
  simp at h1 h2;subst h1;subst h2;show bindL kindOf ((p,w)::P.zip vs) m p=_;unfold bindL;rw[zK0 fun v hv=>(qAv.mp nd).1 (qC4 hv).1,if_pos hk];simp
 |p::P,w::vs,i+1,m,nd,h1,h2,hk=>by
  show bindL kindOf ((p,w)::P.zip vs) m x=_;unfold bindL;exact zK1 (i:=i) (qAv.mp nd).2 (by simpa using h1) (by simpa using h2) hk
theorem zK3{kindOf:Str->Option qK0}{x:Str}{v:Value}:∀{P:List Str}{vs:List Value}{i:Nat}{m:Str->Option Value},P.Nodup->P[i]?=some x->vs[i]?=some v->kindOf x≠some .local ->
  bindC kindOf (P.zip vs) m x=some v
 |[],_,_,_,_,h,_,_=>by simp at h
 |_::_,[],_,_,_,_,h,_=>by simp at h
 |p::P,w::vs,0,m,nd,h1,h2,hk=>by
  simp at h1 h2;subst h1;subst h2;show bindC kindOf ((p,w)::P.zip vs) m p=_;unfold bindC;rw[zK2 fun v hv=>(qAv.mp nd).1 (qC4 hv).1,if_neg hk];simp
 |p::P,w::vs,i+1,m,nd,h1,h2,hk=>by
  show bindC kindOf ((p,w)::P.zip vs) m x=_;unfold bindC;exact zK3 (i:=i) (qAv.mp nd).2 (by simpa using h1) (by simpa using h2) hk
noncomputable def start(N:List Str)(vs:List V):St:=vs.map some++qA4 (N.length-vs.length) none
noncomputable def cxOf(CX:CXT)(P:qIy)(w:World)(K:qA1)(mg:Str->Option Value)(base:Heap)(N:List Str)(qual:Str)(scope:Scope)(f:Addr)(cd:Value)(A:qJ2)(outer:List Env)(s:qIv)(H:Hp)(E:XK):Cx where
 prog:=P
 w:=w
 K:=K
 mg:=mg
 base:=base
 A:=A.deeper (envOfC qual scope s.heap.objs.size f cd)
 N:=N
 s₀:=s
 H₀:=H
 env:=envOfC qual scope s.heap.objs.size f cd
 outer:=outer
 stack:=envOfC qual scope s.heap.objs.size f cd::outer
 ex:=[]
 calm:=true
 fn:=fun _=>true
 pn:=[]
 xe:=fun e s'=>wpAny (model P w) (A.deeper (envOfC qual scope s.heap.objs.size f cd)) (leaving (envOfC qual scope s.heap.objs.size f cd) e) (fun _ s''=>CX outer H s E e s'') (fun e' s''=>CX outer H s E e' s'') s'
theorem zMX{sc:Scope}{n:Nat}{x:Str}(h:sc.names.lookup x=some .cell):∃c,(cellsFrom n sc.names []).lookup x=some c:=by
 have q:=qD7 sc.names n [] (.inl h);exact qEg.mp q
theorem zPR{CX:CXT}{P:qIy}{w:World}{K:qA1}{mg:Str->Option Value}{base:Heap}{N ps:List Str}{qual:Str}{scope:Scope}{f:Addr}{cd:Value}{A:qJ2}{outer:List Env}{s s1:qIv}{H:Hp}{E:XK}{us:List Value}{vs:List V}
  (S:FnScope N ps scope) (hd:A.handled=none) (e0:Env0 P w K mg base A outer s H) (hl:vs.length=ps.length) (r:Vals vs us)
  (x:InCallC s s.heap.objs.size (bindL (envOfC qual scope s.heap.objs.size f cd).kindOf (ps.zip us) fun _=>none) (cellsFrom (s.heap.objs.size+1) scope.names []) (bindC (envOfC qual scope s.heap.objs.size f cd).kindOf (ps.zip us) fun _=>none) s1) :
  Inv (cxOf CX P w K mg base N qual scope f cd A outer s H E) [] (start N vs) H s1:=by
 have hpl:ps.length<=N.length:=by have:=congrArg qD9 S.pre;rw[qCz]at this;lia
 obtain⟨h1,tk,rfl,hk⟩:=x.done;have noA:∀b:Addr,b∉(cxOf CX P w K mg base N qual scope f cd A outer s H E).ex:=fun b z=>absurd (show b∈([]:List Addr) from z) (by simp)
 refine⟨⟨e0.mod,S.kind,rfl,rfl,qA6 _,fun y z c h1 h2=>?_,fun y hy=>?_,fun y c _ h=>?_,fun _=>hd,qLp e0.frames,.inr ⟨rfl,rfl⟩,fun b z=>absurd z (noA b),e0.bs,e0.bsz,fun b _ _=>noA b,fun b z=>absurd z (noA b),e0.funs,e0.frf⟩,
  rfl,e0.bare,Un.kept hk,⟨_,x.toInCall.ns,fun i y v h1 h2 h3=>?_⟩,fun y c h=>⟨_,x.cell y c h⟩,e0.hok.fresh (qA6 _),fun y c h=>?_,fun p hp=>absurd (show p∈([]:List (Addr×Obj)) from hp) (by simp),e0.hok.kept hk,?_⟩
 ·exact name_of_addr x.apart (qBq h1) (qBq h2)
 ·have hy:scope.names.lookup y=some .cell\/scope.names.lookup y=some .free:=hy
  rcases hy with hy|hy
  ·exact zMX hy
  ·exact absurd rfl (S.nofree _ (qBq hy))
 ·exact qCm (x.above y c (qBq h))
 ·have hi:i<vs.length:=by
   unfold start at h2;by_cases hi:i<vs.length
   ·exact hi
   ·rw[qAd (by simpa using hi)]at h2;rw[qBj]at h2
    split at h2<;>cases h2
  have ha:vs[i]?=some v:=by
   unfold start at h2;rw[qA9 (by simpa using hi),qA8]at h2;cases e:vs[i]? with
   |none=>rw[e]at h2;cases h2
   |some a=>rw[e]at h2;cases h2;rfl
  obtain⟨u,hu,rv⟩:=r.get ha;have hp:ps[i]?=some y:=by
   rw[<- S.pre,List.getElem?_take_of_lt (by lia)];exact h1
  have ndP:ps.Nodup:=by rw[<- S.pre];exact S.nd.sublist (List.take_sublist _ _)
  refine⟨u,rv,?_⟩;rcases S.par y (qAw hp)with k|k
  ·exact .inl ⟨k,zK1 ndP hp hu k⟩
  ·obtain⟨c,e⟩:=zMX (n:=s.heap.objs.size+1) k;refine .inr ⟨.inl k,c,e,?_⟩;have q:=x.cell y c e;rw[zK3 ndP hp hu (by show scope.names.lookup y≠_;rw[k];decide)]at q;exact q
 ·exact e0.hok.fresh (qCm (x.above y c (qBq h)))
 ·unfold start;show _=N.length;rw[qB2,qAi,qDg]
  lia
theorem zWI{CX:CXT}{P:qIy}{w:World}{K:qA1}{mg:Str->Option Value}{base:Heap}{k:Nat}{f:Addr}{name qual:Str}{params:Arguments}{body:List Stmt}{scope:Scope}{dV kV doc pm cdv ct oc:Value}{an od:Option Addr}
  {osl:Array (Option Value)} {N ps:List Str} {sp:Sp} (lk:K.lookup f=some ⟨oc,od,.func (qB7 name qual params body scope dV kV doc pm an cdv ct),osl⟩) (hcd:qCc K cdv qual=true) (S:FnScope N ps scope)
  (len:∀vs H Q E,sp vs H Q E->vs.length=ps.length)
  (hbody:∀(A:qJ2)(outer:List Env)(s:qIv)(H:Hp)(vs:List V)(Q:VK)(E:XK),Room k (A.deeper (envOfC qual scope s.heap.objs.size f cdv))->sp vs H Q E ->
   ∃t,PSs (cxOf CX P w K mg base N qual scope f cdv A outer s H E) body t/\t { nx:=fun _ H'=>Q .non H',rt:=Q } (start N vs) H) :
  FnOk P w K mg base CX (k+1) f (qB7 name qual params body scope dV kV doc pm an cdv ct) ps sp:=by
 refine⟨len,fun A outer s H args us vs Q E hr e0 hb r hsp=>?_⟩;have hl:=len _ _ _ _ hsp;have KX:K.In s.heap:=e0.mod.kin.keeps fun b o e=>(e0.bs b o e).1
 have lim:s.heap.NoLimit:=e0.mod.nolimit.keeps fun b o e=>(e0.bs b o e).1
 have hkind:∀y∈ps.zip us,scope.names.lookup y.1=some .local\/(scope.names.lookup y.1=some .cell/\((cellsFrom (s.heap.objs.size+1) scope.names []).lookup y.1).isSome=true):=fun⟨n,v⟩ hy=>by
  rcases S.par n (qC4 hy).1 with q|q
  ·exact .inl q
  ·exact .inr ⟨q,qD7 _ _ _ (.inl q)⟩
 refine codeAny_call_function hr.depth (KX _ _ lk) rfl S.co S.gen rfl (PySem.W.codeRec_of KX hcd) (hb _ _ _ _ ?_);refine wpAny_newFunctionEnv_cells S.kind hkind fun env he s1 x=>?_
 subst he;refine⟨lim.keeps x.toInCall.keep,codeAny_func ?_⟩;obtain⟨t,ht,hq⟩:=hbody A outer s H vs Q E (hr.deeper _) hsp;have I:Inv (cxOf CX P w K mg base N qual scope f cdv A outer s H E) [] (start N vs) H s1:=zPR S hr.hd e0 hl r x;refine wpAny_mono (ht [] s1 (start N vs) H _ I hq) (fun fl s' hs=>?_) fun e s' hs=>hs
 have fin:∀{σ':St}{H':Hp}{v:V}{u:Value},Inv (cxOf CX P w K mg base N qual scope f cdv A outer s H E) [] σ' H' s'->RelV v u->Q v H'->CE outer P w H s Q u s':=
  fun{σ' H' v u} J rv q=>⟨v,H',J.os,J.bare,J.base,J.hok,rv,q⟩
 cases fl with
 |ret u=>
  obtain⟨v,σ',H',J,rv,q⟩:=hs;exact fin J rv q
 |next=>
  obtain⟨σ',H',J,q⟩:=hs;exact fin (v:=V.non) (u:=qJ4) J rfl q
 |brk=>
  obtain⟨_,_,_,q⟩:=hs;exact qAa q
 |cont=>
  obtain⟨_,_,_,q⟩:=hs;exact qAa q
section
variable{X:Cx}{x:Str}{p pos:Pos}{e:Expr}{es:List Expr}{t:TA}{id T:String}{r:List V->Hp->VK->Prop}
noncomputable def tCB(r:List V->Hp->VK->Prop)(t:TA):TE:=fun σ H Q=>t σ H fun vs H1=>r vs H1 Q
theorem zAL(hc:zCO X (.builtin id) r)(hg:Gl X x)(hm:X.mg x=none)(hv:qJx x=some (.builtin id))(ha:PA X (e::es) t)(hn:x≠"__name__":=by decide)(hdb:(x==("__debug__":Str))=false:=by decide)
  (he:starEach (e::es) X.env=(false,eval e X.env)::starEach es X.env:=by rfl) (hpl:(backTo pos (starEach es X.env)).any (·.1)=false:=by rfl):PE X (.Call (.Name x p) (e::es) [] pos) (tCB r t):=by
 intro pins s σ H Q I h;refine qJv (zG5 I hg hm hv ?_ hn hdb);exact qG8 (thn (ha pos pins s σ H _ I h) fun us s1 ⟨vs,H1,I1,r1,q1⟩=>hc pins s1 σ H1 vs us Q I1 r1 q1) he hpl
theorem zAP(hc:zCO X (.type T) r)(hg:Gl X x)(hm:X.mg x=none)(hv:qJx x=some (.type T))(ha:PA X (e::es) t)(hn:x≠"__name__":=by decide)(hdb:(x==("__debug__":Str))=false:=by decide)
  (he:starEach (e::es) X.env=(false,eval e X.env)::starEach es X.env:=by rfl) (hpl:(backTo pos (starEach es X.env)).any (·.1)=false:=by rfl):PE X (.Call (.Name x p) (e::es) [] pos) (tCB r t):=by
 intro pins s σ H Q I h;refine qJv (zG5 I hg hm hv ?_ hn hdb);exact qC3 (thn (ha pos pins s σ H _ I h) fun us s1 ⟨vs,H1,I1,r1,q1⟩=>hc pins s1 σ H1 vs us Q I1 r1 q1) he hpl
end
section
variable{X:Cx}{K:qA1}
end
end L2
namespace Mi
end Mi
namespace PySem
open PyProof.Rows
end PySem
namespace Mi
open PySem
noncomputable def sortI(ns:List Int):List Int:=ns.mergeSort fun a b=>decide (a<=b)
noncomputable def ded:List Nat->List Nat
 |[]=>[]
 |a::r=>if a∈ded r then ded r else a::ded r
def sosL(l:List Nat):List Nat:=(ded l).mergeSort fun a b=>decide (a<=b)
end Mi
namespace PySem
open Builtin Builtin.Str PySem.Spec
end PySem
namespace HT
open PySem PyProof.Rows
section
open PySem.SeqAt
open PySem.AutoSeq1 (wpAny_loadPart')
open PySem.MeetsSeq PySem.MeetsSeq2 PySem.MeetsSeq3
end
section
variable{prog:qIy}{w:World}{A:qJ2}{E:Value->qIv->Prop}{s:qIv}
noncomputable def sIx(n d:Nat):Option Int->Nat
 |none=>d
 |some v=>if v<0 then(v+(n:Int)).toNat else min v.toNat n
end
end HT
namespace L2
open PySem PySem.Spec PyProof.Rows
abbrev TO:=St->Hp->(Option Int->Hp->Prop)->Prop
def PO(X:Cx)(e:Option Expr)(t:TO):Prop:=
 ∀(pins:List (Addr×Obj))(s:qIv)(σ:St)(H:Hp)(Q:Option Int->Hp->Prop),Inv X pins σ H s->t σ H Q ->
  wpAny (model X.prog X.w) X.A (evalPart e X.env) (fun u s'=>∃o H',Inv X pins σ H' s'/\IsPart u o/\Q o H') X.xe s
noncomputable def zOC:TO:=fun _ H Q=>Q none H
noncomputable def zXD(t:TE):TO:=fun σ H Q=>t σ H fun x H1=>∃i,x=.int i/\Q (some i) H1
section
variable{X:Cx}{e:Expr}{te:TE}{lo hi:Option Expr}{tl th:TO}{pos p2:Pos}
theorem zKM:PO X none zOC:=by
 intro pins s σ H Q I h;rw[evalPart_none];exact wpAny_pure ⟨none,H,I,.none,h⟩
theorem zDZ(h:PE X e te):PO X (some e) (zXD te):=by
 intro pins s σ H Q I hw;rw[evalPart_some];refine thn (h pins s σ H _ I hw) fun u s1 z0=>?_
 obtain⟨x,H1,I1,r1,q1⟩:=z0;obtain⟨i,rfl,q⟩:=q1;obtain⟨t,rfl⟩:=r1;exact⟨some i,H1,I1,.int i t,q⟩
def SlR(X:Cx)(r:V->Option Int->Option Int->Hp->VK->Prop):Prop:=
 ∀(pins:List (Addr×Obj))(s:qIv)(σ:St)(H:Hp)(x:V)(v vl vu:Value)(lo hi:Option Int)(sl:Addr)(Q:VK),Inv X pins σ H s->RelV x v->s.heap.IsSliceOf sl vl vu .none->IsPart vl lo->IsPart vu hi->r x lo hi H Q ->
  ∃T id,typeLookup (.type T) "__getitem__" = pure (some (.builtin id))/\s.TypeIs v T/\wpAny (model X.prog X.w) X.A (getItem v (.ref sl)) (EP X pins σ Q) X.xe s
noncomputable def tSl(r:V->Option Int->Option Int->Hp->VK->Prop)(te:TE)(tl th:TO):TE:=fun σ H Q=>te σ H fun x H1=>tl σ H1 fun l H2=>th σ H2 fun u H3=>r x l u H3 Q
theorem zEH{r:V->Option Int->Option Int->Hp->VK->Prop}(hr:SlR X r)(he:PE X e te)(hl:PO X lo tl)(hu:PO X hi th):PE X (.Subscript e (.Slice lo hi none p2) pos) (tSl r te tl th):=by
 intro pins s σ H Q I h;refine qMz (thn (he pins s σ H _ I h) fun v s1 z0=>?_);obtain⟨x,H1,I1,r1,q1⟩:=z0;refine wpAny_Slice (thn (hl pins s1 σ H1 _ I1 q1) fun vl s2 ⟨l,H2,I2,pl,q2⟩=>thn (hu pins s2 σ H2 _ I2 q2) fun vu s3 ⟨u,H3,I3,pu,q3⟩=>?_);rw[evalPart_none];refine wpAny_pure ?_;have I4:Inv X pins σ H3 { s3 with heap:=s3.heap.push { cls:=.type "slice",data:=.fields #[vl,vu,.none] } }:=I3.kept (t':=s3.toks) fun b ob q=>qIu _ q
 obtain⟨T,id,hT,ht,hg⟩:=hr pins { s3 with heap:=s3.heap.push { cls:=.type "slice",data:=.fields #[vl,vu,.none] } } σ H3 x v vl vu l u s3.heap.objs.size Q I4 r1 (qNe ..) pl pu q3;show wpAny (model X.prog X.w) X.A (subscriptTail e (.Slice lo hi none p2) v (.ref s3.heap.objs.size)) (EP X pins σ Q) X.xe { s3 with heap:=s3.heap.push { cls:=.type "slice",data:=.fields #[vl,vu,.none] } };exact tail_any (ops:=[.ref s3.heap.objs.size,v]) ht hT hg (by with_unfolding_all rfl)
def cutV(xs:List V)(lo hi:Option Int):List V:=(xs.drop (HT.sIx xs.length 0 lo)).take (HT.sIx xs.length xs.length hi-HT.sIx xs.length 0 lo)
theorem zL8(xs:List V)(lo hi:Option Int):(cutV xs lo hi).length<=xs.length:=by
 unfold cutV;rw[qCz,qGb];lia
end
noncomputable def ixN(n:Nat)(i:Int):Option Nat:=if 0<=i then(if i<n then some i.toNat else none)else if -(n:Int)<=i then some (i+n).toNat else none
def atI{α:Type}(xs:List α)(i:Int):Option α:=(ixN xs.length i).bind fun j=>xs[j]?
theorem zL1{n:Nat}{i:Int}{j:Nat}(h:ixN n i=some j):qLg i n=some j/\j<n/\-(n:Int)<=i/\i<n:=by
 unfold ixN at h;by_cases h0:0<=i
 ·rw[if_pos h0]at h
  by_cases h1:i<n
  ·rw[if_pos h1]at h;have e:i.toNat=j:=qBd h;exact⟨by rw[qMq h0 h1,e],by lia,by lia,h1⟩
  ·rw[if_neg h1]at h;cases h
 ·rw[if_neg h0]at h
  by_cases h1:-(n:Int)<=i
  ·rw[if_pos h1]at h;have e:(i+n).toNat=j:=qBd h;exact⟨by rw[qMk (by lia) h1,e],by lia,h1,by lia⟩
  ·rw[if_neg h1]at h;cases h
theorem zLL{α:Type}{xs:List α}{i:Int}{v:α}(h:atI xs i=some v):∃j,qLg i xs.length=some j/\xs[j]?=some v/\j<xs.length/\-(xs.length:Int)<=i/\i<xs.length:=by
 unfold atI at h;cases e:ixN xs.length i with
 |none=>rw[e]at h;cases h
 |some j=>
  rw[e]at h;obtain⟨h1,h2,h3,h4⟩:=zL1 e;exact⟨j,h1,h,h2,h3,h4⟩
def zWZ(b:Expr):Prop:=∀o i,subscripted b false o i=operate [o,i] (getItem o i)
def IxR(X:Cx)(r:R2):Prop:=
 ∀(value slice:Expr)(pins:List (Addr×Obj))(s:qIv)(σ:St)(H:Hp)(x y:V)(v u:Value)(Q:VK),Inv X pins σ H s->RelV x v->RelV y u->r x y H Q ->
  subscripted slice false v u=operate [v,u] (getItem v u)->wpAny (model X.prog X.w) X.A (subscriptTail value slice v u) (EP X pins σ Q) X.xe s
def MtR(X:Cx)(id:String)(r:V->List V->Hp->VK->Prop):Prop:=
 ∀(pins:List (Addr×Obj))(s:qIv)(σ:St)(H:Hp)(x:V)(xs:List V)(v:Value)(us:List Value)(Q:VK),Inv X pins σ H s->RelV x v->Vals xs us->r x xs H Q ->
  wpAny (model X.prog X.w) X.A (call (.builtin id) (v::us)) (EP X pins σ Q) X.xe s
section
variable{X:Cx}{a b:Expr}{ta tb:TE}{pos:Pos}
theorem zBW{r:R2}(hr:IxR X r)(ha:PE X a ta)(hb:PE X b tb)(hs:zWZ b):PE X (.Subscript a b pos) (tOp r ta tb):=by
 intro pins s σ H Q I h;exact qMz (binT ha hb I h fun v u s2 x y H2 I2 rx ry q=>hr a b pins s2 σ H2 x y v u Q I2 rx ry q (hs _ _))
def rIxL(K:qA1):R2:=fun x y H Q=>∃p xs i v,x=.ref p/\y=.int i/\SqL K H p xs/\atI xs i=some v/\Q v H
def rIxT(K:qA1):R2:=fun x y H Q=>∃p xs i v,x=.ref p/\y=.int i/\SqT K H p xs/\atI xs i=some v/\Q v H
def rIxS:R2:=fun x y H Q=>∃z i c,x=.str z/\y=.int i/\z.length<=sizeLine/\atI z.cps.toList i=some c/\Q (.str ⟨#[c]⟩) H
theorem zW9:IxR X (rIxL X.K):=by
 intro value slice pins s σ H x y v u Q I rx ry h hs;obtain⟨p,xs,i,z,rfl,rfl,hq,he,q⟩:=h;cases rx;obtain⟨t,rfl⟩:=ry;obtain⟨its,r,pl,hz⟩:=I.list hq;obtain⟨j,h1,h2,h3,h4,h5⟩:=zLL he;obtain⟨w,ew,rw'⟩:=r.get h2;have hl:=r.length;have hn:=zDV;have fin:EP X pins σ Q w s:=⟨z,H,I,rw',q⟩;by_cases h0:0<=i
 ·have hj:i.toNat=j:=by
   rw[qMq h0 h5]at h1;exact qBd h1
  exact item_listR pl.isList h0 (by lia) (by rw[hj];simpa using ew) fin hs
 ·have hj:(i+(its.toArray.size:Int)).toNat=j:=by
   rw[qMk (by lia) h4]at h1;rw[qAh,<- hl];exact qBd h1
  exact qLb (x:=w) pl.isList.typeIs qMe.lookup
   (wpAny_getItem_list_neg (Q:=fun r s'=>r=w/\EP X pins σ Q r s') pl.isList (by lia) (by rw[qAh]<;>lia) (by lia) (by rw[hj];simpa using ew) ⟨rfl,fin⟩) hs
theorem zZ8:IxR X (rIxT X.K):=by
 intro value slice pins s σ H x y v u Q I rx ry h hs;obtain⟨p,xs,i,z,rfl,rfl,hq,he,q⟩:=h;cases rx;obtain⟨t,rfl⟩:=ry;obtain⟨its,r,pl,hz⟩:=I.tuple hq;obtain⟨j,h1,h2,h3,h4,h5⟩:=zLL he;obtain⟨w,ew,rw'⟩:=r.get h2;have hl:=r.length;have hn:=zDV;have fin:EP X pins σ Q w s:=⟨z,H,I,rw',q⟩;exact qLb (x:=w) pl.typeIs qKb.lookup
  (getItem_tuple (j:=j) (Q:=fun r s'=>r=w/\EP X pins σ Q r s') pl (by lia) (by lia) (by rw[qAh,<- hl];exact h1) (by simpa using ew) ⟨rfl,fin⟩) hs
theorem zZ9:IxR X rIxS:=by
 intro value slice pins s σ H x y v u Q I rx ry h hs;obtain⟨z,i,c,rfl,rfl,hz,he,q⟩:=h;obtain⟨t,rfl⟩:=rx;obtain⟨t',rfl⟩:=ry;obtain⟨j,h1,h2,h3,h4,h5⟩:=zLL he;have hl:z.cps.toList.length=z.length:=by simp[qN0]
 rw[hl]at h1 h4 h5;have hn:=zDV;exact tail_any (typeIs_str s z t) slot_str_getitem.lookup (getItem_str (c:=c) (by
  have e1:decide (i < -(2 ^ 63:Int))=false:=decide_eq_false (by lia);have e2:decide (i>=2 ^ 63)=false:=decide_eq_false (by lia);rw[e1,e2,qFo]) (by rw[h1];simpa using h2) ⟨.str ⟨#[c]⟩,H,I.tok _,⟨_,rfl⟩,q⟩) hs
theorem zNK(its:List Value)(n j:Nat)(u:Value):qJh (·.setIfInBounds j u) { cls:=.type "list",data:=.seq its.toArray n }={ cls:=.type "list",data:=.seq (its.set j u).toArray n }:=by
 simp[qJh]
theorem Inv.lst{pins:List (Addr×Obj)}{σ:St}{H:Hp}{s:qIv}{p:Addr}{xs:List V}(I:Inv X pins σ H s)(h:H p=some (.lst xs)) :
  ∃(its:List Value)(n:Nat),Vals xs its/\s.heap.get? p=some { cls:=.type "list",data:=.seq its.toArray n }/\xs.length<=sizeLine:=by
 obtain⟨z,its,n,r,e⟩:=I.hok p _ h;exact⟨its,n,r,e,z⟩
theorem Inv.lstUpd{pins:List (Addr×Obj)}{σ:St}{H:Hp}{s:qIv}{p:Addr}{xs ys:List V}{its its':List Value}{n n':Nat}{f:Obj->Obj}(I:Inv X pins σ H s)(h:H p=some (.lst xs))
  (ho:s.heap.get? p=some { cls:=.type "list",data:=.seq its.toArray n }) (hf:f { cls:=.type "list",data:=.seq its.toArray n }={ cls:=.type "list",data:=.seq its'.toArray n' }) (r:Vals ys its') (hz:ys.length<=sizeLine) (t:Nat) :
  Inv X pins σ (upd H p (.lst ys)) { s with heap:=s.heap.update p f,toks:=t }:=by
 have e:(s.heap.update p f).get? p=some { cls:=.type "list",data:=.seq its'.toArray n' }:=by
  rw[qJ3 f ho (by rw[hf]<;>rfl),hf]
 refine I.write (x:=p) (e:=p) (by rw[h];trivial) (.inl rfl) (fun b u hb q=>(qIz _ _ (qCe hb)).trans q) ⟨_,e⟩ ?_;exact⟨hz,its',n',r,e⟩
def zb0:V->V->V->Hp->(Hp->Prop)->Prop:=fun o i v H Q=>∃p xs k j,o=.ref p/\i=.int k/\H p=some (.lst xs)/\ixN xs.length k=some j/\Q (upd H p (.lst (xs.set j v)))
theorem zRI:PSet X zb0:=by
 intro pins s σ H o i v ov iv u Q I ro ri rv h;obtain⟨p,xs,k,j,rfl,rfl,hp,hj,q⟩:=h;cases ro;obtain⟨t,rfl⟩:=ri;obtain⟨its,n,r,ho,hz⟩:=I.lst hp;obtain⟨h1,h2,h3,h4⟩:=zL1 hj;have hl:=r.length;have hn:=zDV;have I':Inv X pins σ (upd H p (.lst (xs.set j v))) { s with heap:=s.heap.update p (qJh (·.setIfInBounds j u)) }:=
  I.lstUpd hp ho (zNK its n j u) (r.set rv j) (by rw[qCn];exact hz) s.toks
 by_cases h0:0<=k
 ·have hk:k.toNat=j:=by
   rw[qMq h0 h4]at h1;exact qBd h1
  exact PySem.W.ki_setAt ho h0 (by lia) (by rw[qAh,<- hl];exact h4) (by rw[hk];exact⟨_,I',q⟩)
 ·have hk:(k+(its.toArray.size:Int)).toNat=j:=by
   rw[qMk (by lia) h3]at h1;rw[qAh,<- hl];exact qBd h1
  exact PySem.W.ki_setBack ho (by lia) (by rw[qAh,<- hl];exact h3) (by lia) (by rw[hk];exact⟨_,I',q⟩)
theorem zIW(lo hi:Option Int)(n:Nat):(sliceBounds lo hi none n).1=((HT.sIx n 0 lo:Nat):Int)/\(sliceBounds lo hi none n).2.1=((HT.sIx n n hi:Nat):Int)/\(sliceBounds lo hi none n).2.2=1:=by
 refine⟨?_,?_,rfl⟩
 ·cases lo with
  |none=>simp[sliceBounds,HT.sIx]
  |some i=>
   simp only[sliceBounds,HT.sIx,qGc,show(1:Int)>0 by decide,if_true]
   by_cases h:i<0
   ·simp only[h,if_true]<;>lia
   ·simp only[h,if_false]<;>lia
 ·cases hi with
  |none=>simp[sliceBounds,HT.sIx]
  |some i=>
   simp only[sliceBounds,HT.sIx,qGc,show(1:Int)>0 by decide,if_true]
   by_cases h:i<0
   ·simp only[h,if_true]<;>lia
   ·simp only[h,if_false]<;>lia
theorem zHK(its:List Value)(lo hi:Option Int):slicePick its.toArray lo hi none=((its.drop (HT.sIx its.length 0 lo)).take (HT.sIx its.length its.length hi-HT.sIx its.length 0 lo)).toArray:=by
 obtain⟨h1,h2,h3⟩:=zIW lo hi its.toArray.size;unfold slicePick;rw[h1,h2,h3];simp only[sliceRange_one,pick_run,qAh]<;>rfl
def rSlL(K:qA1):V->Option Int->Option Int->Hp->VK->Prop:=fun x lo hi H Q=>∃a xs,x=.ref a/\SqL K H a xs/\∀p,H p=none->Q (.ref p) (upd H p (.lst (cutV xs lo hi)))
theorem zOH:SlR X (rSlL X.K):=by
 intro pins s σ H x v vl vu lo hi sl Q I rx hs pl pu h;obtain⟨a,xs,rfl,hx,q⟩:=h;cases rx;obtain⟨its,r,ht,hz⟩:=I.list hx;have hlen:=r.length;refine⟨"list",_,qMe.lookup,ht.isList.typeIs,?_⟩;refine wpAny_getItem_list_slice ht.isList hs pl pu .none (by simp) ?_ (by rw[qAh]<;>lia);rw[zHK,<- hlen];refine⟨.ref s.heap.objs.size,_,I.laid (t':=s.toks) (o:=.lst (cutV xs lo hi)) (fun b ob q=>qIu _ q) (qA6 _) ?_,rfl,q _ (I.hok.fresh (qA6 _))⟩;exact⟨qAs (zL8 xs lo hi) hz,_,0,(r.drop (HT.sIx xs.length 0 lo)).take (HT.sIx xs.length xs.length hi-HT.sIx xs.length 0 lo),qIw _ rfl⟩
noncomputable def zWJ:V->Bool
 |.non=>true
 |.bl _=>true
 |.int _=>true
 |.str _=>true
 |_=>false
noncomputable def eqV:V->V->Bool
 |.non,.non=>true
 |.bl a,.bl b=>a==b
 |.bl a,.int b=>(if a then 1 else 0)==b
 |.int a,.bl b=>a==(if b then 1 else 0)
 |.int a,.int b=>a==b
 |.str a,.str b=>a==b
 |_,_=>false
theorem zZM{A:qJ2}{s:qIv}{y x:V}{u v:Value}(ry:RelV y u)(rx:RelV x v)(fy:zWJ y=true)(fx:zWJ x=true):qL3 A s u v (eqV y x):=by
 cases y with
 |non=>
  cases ry;cases x with
  |non=>cases rx;exact qKs _
  |bl b=>cases rx;exact qLm b
  |int b=>obtain⟨t,rfl⟩:=rx;exact qLt b t
  |str b=>obtain⟨t,rfl⟩:=rx;exact qLu b t
  |_=>exact absurd (show false=true from fx) qAe
 |bl a=>
  cases ry;cases x with
  |non=>cases rx;exact qLn a
  |bl b=>cases rx;exact qLo a b
  |int b=>obtain⟨t,rfl⟩:=rx;exact qLv a b t
  |str b=>obtain⟨t,rfl⟩:=rx;exact qLw a b t
  |_=>exact absurd (show false=true from fx) qAe
 |int a=>
  obtain⟨t',rfl⟩:=ry;cases x with
  |non=>cases rx;exact qLx a t'
  |bl b=>cases rx;exact qLy a t' b
  |int b=>obtain⟨t,rfl⟩:=rx;exact SeqAt.EqAt.int_int a t' b t
  |str b=>obtain⟨t,rfl⟩:=rx;exact qKx a t' b t
  |_=>exact absurd (show false=true from fx) qAe
 |str a=>
  obtain⟨t',rfl⟩:=ry;cases x with
  |non=>cases rx;exact qLz a t'
  |bl b=>cases rx;exact qM0 a t' b
  |int b=>obtain⟨t,rfl⟩:=rx;exact qKy a t' b t
  |str b=>obtain⟨t,rfl⟩:=rx;exact SeqAt.EqAt.str_str a t' b t
  |_=>exact absurd (show false=true from fx) qAe
 |_=>exact absurd (show false=true from fy) qAe
theorem zJY:zCO X (.builtin "len") (fun xs H Q=>∃p ys,xs=[.ref p]/\(SqL X.K H p ys\/SqT X.K H p ys)/\Q (.int ys.length) H):=by
 intro pins s σ H xs us Q I r h;obtain⟨p,ys,rfl,hq,q⟩:=h;obtain⟨u,rfl,rx⟩:=zEU r;cases rx;have hn:=zDV;rcases hq with hq|hq
 ·obtain⟨its,r',pl,hz⟩:=I.list hq;have hlen:=r'.length;exact Calls.call_len_list pl.isList (by simp only[qAh]<;>lia) ⟨.int ys.length,H,I.tok _,⟨s.toks+1,by rw[qAh,hlen]⟩,q⟩
 ·obtain⟨its,r',pl,hz⟩:=I.tuple hq;have hlen:=r'.length;exact len_tuple pl (by simp only[qAh]<;>lia) ⟨.int ys.length,H,I.tok _,⟨s.toks+1,by rw[qAh,hlen]⟩,q⟩
theorem zJX:zCO X (.builtin "len") (fun xs H Q=>∃z,xs=[.str z]/\z.length<=sizeLine/\Q (.int z.length) H):=by
 intro pins s σ H xs us Q I r h;obtain⟨z,rfl,hz,q⟩:=h;obtain⟨u,rfl,t,rfl⟩:=zEU r;have hn:=zDV;exact len_str (by lia) ⟨.int z.length,H,I.tok _,⟨_,rfl⟩,q⟩
theorem zJW:zCO X (.type "list") (fun xs H Q=>∃p ys,xs=[.ref p]/\(SqL X.K H p ys\/SqT X.K H p ys)/\∀l,H l=none->Q (.ref l) (upd H l (.lst ys))):=by
 intro pins s σ H xs us Q I r h;obtain⟨p,ys,rfl,hq,q⟩:=h;obtain⟨u,rfl,rx⟩:=zEU r;cases rx;have fin:∀(its:List Value),Vals ys its->ys.length<=sizeLine->∀(h':Heap)(c':Nat),(∀b o',s.heap.get? b=some o'->h'.get? b=some o') ->
   h'.get? s.heap.objs.size=some { cls:=.type "list",dict:=none,data:=.seq its.toArray c',slots:=#[] }->EP X pins σ Q (.ref s.heap.objs.size) { s with heap:=h' }:=fun its r' hz h' c' kp e=>
  ⟨.ref s.heap.objs.size,_,I.laid (t':=s.toks) kp (qA6 _) (show ObjOk X.prog X.w _ h' _ (.lst ys) from⟨hz,its,c',r',e⟩),rfl,q _ (I.hok.fresh (qA6 _))⟩
 rcases hq with hq|hq
 ·obtain⟨its,r',pl,hz⟩:=I.list hq;have hlen:=r'.length;obtain⟨o,ho,hc,n,hd⟩:=pl.isList;exact call_list_seq p (.inl rfl) ho hc hd (fun h' c' kp e=>fin its r' hz h' c' kp e) (by simp only[qAh]<;>lia)
 ·obtain⟨its,r',pl,hz⟩:=I.tuple hq;have hlen:=r'.length;obtain⟨o,ho,hc,n,hd⟩:=pl;exact call_list_seq p (.inr rfl) ho hc hd (fun h' c' kp e=>fin its r' hz h' c' kp e) (by simp only[qAh]<;>lia)
theorem zIC:zCO X (.type "tuple") (fun xs H Q=>∃p ys,xs=[.ref p]/\((SqL X.K H p ys/\∀l,H l=none->Q (.ref l) (upd H l (.tup ys)))\/(SqT X.K H p ys/\Q (.ref p) H))):=by
 intro pins s σ H xs us Q I r h;obtain⟨p,ys,rfl,h⟩:=h;obtain⟨u,rfl,rx⟩:=zEU r;cases rx;rcases h with⟨hq,q⟩|⟨hq,q⟩
 ·obtain⟨its,r',pl,hz⟩:=I.list hq;have hlen:=r'.length;refine call_tuple_list pl.isList (fun h' kp=>?_) (by simp only[qAh]<;>lia);have I1:Inv X pins σ H { s with heap:=h' }:=I.kept (t':=s.toks) kp;have I2:Inv X pins σ (upd H h'.objs.size (.tup ys)) { s with heap:=h'.push { cls:=.type "tuple",data:=.seq its.toArray } }:=
   I1.laid (t':=s.toks) (fun b o e=>qIu _ e) (qA6 _) (show ObjOk X.prog X.w _ _ _ (.tup ys) from⟨hz,its,r',IsTup.new _ _⟩)
  exact⟨.ref h'.objs.size,_,I2,rfl,q _ (I1.hok.fresh (qA6 _))⟩
 ·obtain⟨its,r',pl,hz⟩:=I.tuple hq;exact call_tuple_same pl ⟨.ref p,H,I,rfl,q⟩
def tyV(K:qA1)(T:String)(x:V)(H:Hp):Prop:=match x with
 |.str _=>T = "str"
 |.int _=>T = "int"
 |.ref p=>(T = "list"/\∃xs,SqL K H p xs)\/(T = "tuple"/\∃o,K.lookup p=some o/\o.cls=.type "tuple"/\o.dict=none) \/
   (T = "dict"/\((∃kvs,H p=some (.dK kvs))\/∃T e0 kvs,H p=some (.dT T e0 kvs)))\/(T = "set"/\∃S n,H p=some (.set S n))
 |_=>False
theorem zXA{pins:List (Addr×Obj)}{σ:St}{H:Hp}{s:qIv}{T:String}{x:V}{v:Value}(I:Inv X pins σ H s)(r:RelV x v)(ty:tyV X.K T x H) :
  s.TypeIs v T/\∀a,v=.ref a->∃ob,s.heap.get? a=some ob/\ob.dict=none:=by
 cases x with
 |str z=>
  obtain⟨t,rfl⟩:=r;cases(show T = "str" from ty)
  exact⟨typeIs_str s z t,fun _ e=>nomatch e⟩
 |int i=>
  obtain⟨t,rfl⟩:=r;cases(show T = "int" from ty)
  exact⟨typeIs_int s i t,fun _ e=>nomatch e⟩
 |ref p=>
  cases r;rcases ty with⟨rfl,xs,hq⟩|⟨rfl,o,hk,hc,hd⟩|⟨rfl,hk⟩|⟨rfl,S,n,hk⟩
  ·obtain⟨its,_,pl,_⟩:=I.list hq;refine⟨pl.isList.typeIs,fun a e=>?_⟩;cases e;obtain⟨o,n,e,c,hd,_⟩:=pl;exact⟨o,e,hd⟩
  ·refine⟨⟨o,I.kIn p o hk,hc⟩,fun a e=>?_⟩;cases e;exact⟨o,I.kIn _ o hk,hd⟩
  ·have z:∃o,s.heap.get? p=some o/\o.ExactDict:=by
    rcases hk with⟨kvs,hk⟩|⟨_,_,kvs,hk⟩
    ·obtain⟨_,_,_,_,o,_,_,e,ex,_⟩:=I.hok p _ hk;exact⟨o,e,ex⟩
    ·obtain⟨_,_,_,_,o,_,_,e,ex,_⟩:=I.hok p _ hk;exact⟨o,e,ex⟩
   obtain⟨o,e,ex⟩:=z;refine⟨⟨o,e,ex.1⟩,fun a e2=>?_⟩;cases e2;exact⟨o,e,ex.2.1⟩
  ·obtain⟨o,_,_,_,e,ex,_⟩:=I.hok p _ hk;refine⟨⟨o,e,ex.1⟩,fun a e2=>?_⟩;cases e2;exact⟨o,e,ex.2.1⟩
 |_=>exact qAa ty
variable{o e:Expr}{es:List Expr}{to:TE}{t:TA}{name:Str}{apos cpos:Pos}{T id:String}{r:V->List V->Hp->VK->Prop}
end
def MtM(X:Cx)(id:String)(r:V->List V->Hp->VK->Prop):Prop:=
 ∀(pins:List (Addr×Obj))(s:qIv)(σ:St)(H:Hp)(x:V)(xs:List V)(v:Value)(us:List Value)(Q:VK),Inv X pins σ H s->RelV x v->Vals xs us->r x xs H Q ->
  wpAny (model X.prog X.w) X.A (call (.builtin id) (v::us)) (EP X pins σ Q) X.xe s
theorem Vals.one:∀{x:V}{us:List Value},Vals [x] us->∃u,us=[u]/\RelV x u
 |_,_,.cons r .nil=>⟨_,rfl,r⟩
theorem Vals.zero:∀{us:List Value},Vals [] us->us=[]
 |_,.nil=>rfl
theorem Vals.dropLast{xs:List V}{us:List Value}(h:Vals xs us):Vals xs.dropLast us.dropLast:=by
 induction h with
 |nil=>exact .nil
 |cons r t ih=>
  cases t with
  |nil=>exact .nil
  |cons q t'=>exact .cons r ih
theorem Vals.eraseIdx:∀{xs:List V}{us:List Value}(i:Nat),Vals xs us->Vals (xs.eraseIdx i) (us.eraseIdx i)
 |_,_,_,.nil=>.nil
 |_,_,0,.cons _ t=>t
 |_,_,i+1,.cons r t=>.cons r (Vals.eraseIdx i t)
theorem Vals.rep{xs:List V}{us:List Value}(h:Vals xs us):∀k:Nat,Vals (qA4 k xs).flatten (qA4 k us).flatten
 |0=>.nil
 |k+1=>by
  rw[qB3,qB3,qBr,qBr];exact Vals.append h (Vals.rep h k)
theorem zNT{α:Type}(l:List α):l.eraseIdx (l.length-1)=l.dropLast:=by
 induction l with
 |nil=>rfl
 |cons a r ih=>
  cases r with
  |nil=>rfl
  |cons b r=>
   have e:(a::b::r).length-1=((b::r).length-1)+1:=by
    have h1:(a::b::r).length=r.length+2:=rfl;have h2:(b::r).length=r.length+1:=rfl;lia
   rw[e,qD4,ih]
   all_goals rfl
theorem len_erase{α:Type}:∀(l:List α)(i:Nat),(l.eraseIdx i).length<=l.length
 |[],_=>qA6 _
 |_::_,0=>qDx _
 |_::r,i+1=>Nat.succ_le_succ (len_erase r i)
theorem zJM(its:List Value):∀(k:Nat)(acc:List Value),
  qHv (fun x1 x2=>x1++x2) acc.toArray (qA4 k its.toArray)=(acc++(qA4 k its).flatten).toArray
 |0,acc=>by simp
 |k+1,acc=>by
  have e:acc.toArray++its.toArray=(acc++its).toArray:=by simp
  have e2:(acc++its)++(qA4 k its).flatten=acc++(qA4 (k+1) its).flatten:=by
   rw[qB3,qBr,qB6]
  rw[<- e2,<- zJM its k (acc++its),<- e,qB3,qCf]
section
variable{X:Cx}{pins:List (Addr×Obj)}{σ:St}{H:Hp}{s:qIv}{l b:Addr}{xs ys zs:List V}
theorem Inv.lset{its its':List Value}{n:Nat}{f:Array Value->Array Value}{t':Nat}(I:Inv X pins σ H s)(hH:H l=some (.lst xs))
  (e:s.heap.get? l=some { cls:=.type "list",data:=.seq its.toArray n }) (hf:f its.toArray=its'.toArray) (hv:Vals ys its') (hz:ys.length<=sizeLine) :
  Inv X pins σ (upd H l (.lst ys)) { s with heap:=s.heap.update l (qJh f),toks:=t' }:=by
 have q:=PySem.IsL.update e f;rw[hf]at q;refine I.write (x:=l) (e:=l) (by rw[hH];exact trivial) (.inl rfl) (fun b' u hb hu=>(qIz s.heap (qJh f) (qCe hb)).trans hu) ⟨_,q⟩ ?_;exact⟨hz,its',_,hv,q⟩
theorem Inv.lnew{its:List Value}{t':Nat}(I:Inv X pins σ H s)(hv:Vals ys its)(hz:ys.length<=sizeLine) :
  Inv X pins σ (upd H s.heap.objs.size (.lst ys)) { s with heap:=s.heap.push { cls:=.type "list",data:=.seq its.toArray },toks:=t' }:=
 I.laid (fun _ _ q=>qIu _ q) (qA6 _) ⟨hz,its,0,hv,qIw _ rfl⟩
theorem Inv.fresh(I:Inv X pins σ H s):H s.heap.objs.size=none:=I.hok.fresh (qA6 _)
theorem Inv.lstM(I:Inv X pins σ H s)(hH:H l=some (.lst xs)):xs.length<=sizeLine/\∃(its:List Value)(n:Nat),Vals xs its/\xs.length=its.length/\s.heap.get? l=some { cls:=.type "list",data:=.seq its.toArray n }:=by
 obtain⟨z,its,n,r,e⟩:=I.hok l _ hH;exact⟨z,its,n,r,r.length,e⟩
theorem zSB{n:Nat}(h:n<=sizeLine):qJk n=false:=by
 unfold qJk;exact decide_eq_false (by lia)
end
section
variable{X:Cx}
def zVE:V->List V->Hp->VK->Prop:=fun x vs H Q=>∃l xs y,x=.ref l/\vs=[y]/\H l=some (.lst xs)/\xs.length<sizeLine/\Q .non (upd H l (.lst (xs++[y])))
theorem zPC:MtM X "list.append" zVE:=by
 intro pins s σ H x vs v us Q I rx rv h;obtain⟨l,xs,y,rfl,rfl,hH,hz,q⟩:=h;cases rx;obtain⟨u,rfl,ru⟩:=rv.one;obtain⟨z,its,n,r,hl,e⟩:=I.lstM hH;refine call_meets F.slot_list_append ⟨_,e,rfl⟩ F.entry_list_append (F.args_list_append_2 _ _) (PySem.list_append l its.toArray n u (by rw[qAh];lia)) ⟨e,?_⟩;refine⟨.non,_,I.lset (its':=its++[u]) hH e (by simp) (r.append (.cons ru .nil)) ?_,rfl,q⟩;rw[qB2,qEz]
 lia
def rPop:V->List V->Hp->VK->Prop:=fun x vs H Q=>∃l xs y,x=.ref l/\vs=[]/\H l=some (.lst xs)/\xs[xs.length-1]?=some y/\Q y (upd H l (.lst xs.dropLast))
theorem zYY:MtM X "list.pop" rPop:=by
 intro pins s σ H x vs v us Q I rx rv h;obtain⟨l,xs,y,rfl,rfl,hH,hy,q⟩:=h;cases rx;have hus:=rv.zero;subst hus;obtain⟨z,its,n,r,hl,e⟩:=I.lstM hH;obtain⟨u,hu,ru⟩:=r.get hy;have hy':its.toArray[its.toArray.size-1]?=some u:=by
  show its.toArray[its.length-1]?=some u;rw[<- qB9,<- hl];exact hu
 refine call_meets qMr ⟨_,e,rfl⟩ qMm (F.args_list_pop_1 _) (MeetsSeq.list_pop_last l its.toArray n u hy' (by rw[qAh];lia)) ⟨e,?_⟩;refine⟨y,_,I.lset (its':=its.dropLast) hH e ?_ r.dropLast ?_,ru,q⟩
 ·show its.toArray.eraseIdxIfInBounds (its.toArray.size-1)=its.dropLast.toArray;rw[qAh,qDa,zNT]
 ·rw[List.length_dropLast]
  lia
def zY1:V->List V->Hp->VK->Prop:=fun x vs H Q=>∃l xs i k y,x=.ref l/\vs=[.int i]/\H l=some (.lst xs)/\-(2 ^ 63)<=i/\i<2 ^ 63/\qLg i xs.length=some k/\xs[k]?=some y/\Q y (upd H l (.lst (xs.eraseIdx k)))
theorem zSE:MtM X "list.pop" zY1:=by
 intro pins s σ H x vs v us Q I rx rv h;obtain⟨l,xs,i,k,y,rfl,rfl,hH,h1,h2,hk,hy,q⟩:=h;cases rx;obtain⟨u,rfl,ru⟩:=rv.one;obtain⟨t,rfl⟩:=ru;obtain⟨z,its,n,r,hl,e⟩:=I.lstM hH;obtain⟨w,hw,rw'⟩:=r.get hy;refine call_meets qMr ⟨_,e,rfl⟩ qMm (F.args_list_pop_2 _ _)
  (MeetsSeq.list_pop_at l its.toArray n i t k w (fitsIndex_both h1 h2) (by rw[qAh,<- hl];exact hk) (by rw[<- qB9];exact hw) (by rw[qAh];lia)) ⟨e,?_⟩
 refine⟨y,_,I.lset (its':=its.eraseIdx k) hH e ?_ (r.eraseIdx k) ?_,rw',q⟩
 ·show its.toArray.eraseIdxIfInBounds k=(its.eraseIdx k).toArray;rw[qDa]
 ·have:=len_erase xs k
  lia
def rCat:R2:=fun x y H Q=>∃l b xs zs,x=.ref l/\y=.ref b/\H l=some (.lst xs)/\H b=some (.lst zs)/\xs.length+zs.length<=sizeLine/\∀p,H p=none->Q (.ref p) (upd H p (.lst (xs++zs)))
theorem zYR:OpR X (binaryOp .Add) rCat:=by
 intro pins s σ H x y v u Q I rx ry h;obtain⟨l,b,xs,zs,rfl,rfl,hH,hB,hz,q⟩:=h;cases rx;cases ry;obtain⟨z,its,n,r,hl,e⟩:=I.lstM hH;obtain⟨z2,its2,n2,r2,hl2,e2⟩:=I.lstM hB;refine PySem.P.add_list e e2 ?_ (by rw[qAh,qAh];lia);have ea:its.toArray++its2.toArray=(its++its2).toArray:=by simp
 rw[ea];exact⟨.ref _,_,I.lnew (t':=s.toks) (r.append r2) (by rw[qB2];lia),rfl,q _ I.fresh⟩
def rRep:R2:=fun x y H Q=>∃l k xs,x=.ref l/\y=.int k/\H l=some (.lst xs)/\-(2 ^ 63)<=k/\k<2 ^ 63/\xs.length*k.toNat<=sizeLine /\
 ∀p,H p=none->Q (.ref p) (upd H p (.lst (qA4 k.toNat xs).flatten))
theorem zW1{α:Type}(xs:List α)(k:Nat):(qA4 k xs).flatten.length=k*xs.length:=by
 induction k with
 |zero=>simp
 |succ k ih=>rw[qB3,qBr,qB2,ih,Nat.succ_mul,Nat.add_comm]
theorem zYL:OpR X (binaryOp .Mult) rRep:=by
 intro pins s σ H x y v u Q I rx ry h;obtain⟨l,k,xs,rfl,rfl,hH,h1,h2,hz,q⟩:=h;cases rx;obtain⟨t,rfl⟩:=ry;obtain⟨z,its,n,r,hl,e⟩:=I.lstM hH;have hlen:its.toArray.size*k.toNat<=sizeLine:=by rw[qAh,<- hl];exact hz
 have hcap:¬its.toArray.size*k.toNat>(2 ^ 63-1)/8:=by
  have:(sizeLine:Nat)<=(2 ^ 63-1)/8:=by decide
  lia
 have hfit:¬(!Builtin.List.listFitsIndex k)=true:=by
  rw[fitsIndex_both h1 h2];exact qAe
 have hlong:¬qJk (its.toArray.size*k.toNat)=true:=by
  rw[zSB hlen];exact qAe
 have hnew:qHv (fun x1 x2=>x1++x2) #[] (qA4 (if its.toArray.isEmpty=true then 0 else k.toNat) its.toArray)=(qA4 k.toNat its).flatten.toArray:=by
  have f0:∀m:Nat,qHv (fun x1 x2=>x1++x2) #[] (qA4 m its.toArray)=(qA4 m its).flatten.toArray:=fun m=>by
   have:=zJM its m [];rw[qCg]at this;exact this
  rw[f0];cases its with
  |nil=>simp
  |cons a r'=>rw[if_neg (by simp)]
 refine wpAny_binaryOp_repeat_ref (T:="list") (U:="int") (by decide) ⟨_,e,rfl⟩ (fun s'=>typeIs_int s' k t) noFill_list_mul F.fills_int_mul qMs repeat_list F.slot_int_index.lookup
  (call_meets qMs (typeIs_int s k t) F.entry_int_rmul (F.args_int_rmul_2 _ _) (int___rmul___int_list k t l its.toArray n)
   ⟨e,rfl,⟨_,e,rfl⟩,call_meets F.slot_list_mul ⟨_,e,rfl⟩ F.entry_list_mul (F.args_list_mul_2 _ _) (AutoListH.list___mul___list_int_3 l its.toArray n k t hfit hcap hlong) ⟨e,?_⟩⟩)
 rw[hnew];exact⟨.ref _,_,I.lnew (t':=s.toks) (r.rep k.toNat) (by rw[zW1,qG9];exact hz),rfl,q _ I.fresh⟩
end
section
variable{prog:qIy}{w:World}{A:qJ2}{E:Value->qIv->Prop}{s:qIv}
end
section
variable{X:Cx}
end
section
variable{κ:Type}[DecidableEq κ]
noncomputable def valV(kvs:List (κ×V))(k:κ):Option V:=(kvs.find? fun kv=>decide (kv.1=k)).map (·.2)
noncomputable def putK(kvs:List (κ×V))(k:κ)(v:V):List (κ×V):=
 if(kvs.any fun kv=>decide (kv.1=k))=true then kvs.map (fun kv=>if kv.1=k then(kv.1,v)else kv)else kvs++[(k,v)]
noncomputable def zZT(kvs:List (κ×V))(k:κ):List (κ×V):=kvs.filter fun kv=>decide (kv.1≠k)
theorem zHC{p:κ×V}{r:List (κ×V)}{k:κ}(e:p.1=k):valV (p::r) k=some p.2:=by simp[valV,qCh,e]
theorem zHD{p:κ×V}{r:List (κ×V)}{k:κ}(e:¬p.1=k):valV (p::r) k=valV r k:=by simp[valV,qCh,e]
theorem zLP(k:κ):∀kvs:List (κ×V),(kvs.any fun kv=>decide (kv.1=k))=(valV kvs k).isSome
 |[]=>rfl
 |p::r=>by
  rw[List.any_cons];by_cases e:p.1=k
  ·simp only[zHC e,decide_eq_true e,Bool.true_or,qFp]
  ·rw[zHD e,decide_eq_false e,Bool.false_or];exact zLP k r
theorem zG4(kvs:List (κ×V))(k:κ)(v:V):(putK kvs k v).length<=kvs.length+1:=by
 unfold putK;split
 ·rw[qAi];lia
 ·rw[qB2,qAr,qF0];lia
theorem RelO.isSome_eq{o:Option V}{u:Option Value}(r:RelO o u):o.isSome=u.isSome:=by
 cases o with
 |none=>cases u with
  |none=>rfl
  |some _=>exact(show False from r).elim
 |some _=>cases u with
  |none=>exact(show False from r).elim
  |some _=>rfl
theorem RelO.getD{o:Option V}{u:Option Value}{d:V}{d':Value}(r:RelO o u)(rd:RelV d d'):RelV (o.getD d) (u.getD d'):=by
 cases o with
 |none=>cases u with
  |none=>exact rd
  |some _=>exact(show False from r).elim
 |some _=>cases u with
  |none=>exact(show False from r).elim
  |some _=>exact r
theorem KV.val{kvs:List (κ×V)}{vs:List (κ×Value)}(r:KV kvs vs)(k:κ):RelO (valV kvs k) (valueAt vs k):=by
 unfold KV at r;induction r with
 |nil=>exact qD2
 |@cons p q ps qs h t ih=>
  obtain⟨h1,h2⟩:=h;by_cases e:p.1=k
  ·have e':q.1=k:=h1.symm.trans e;have b:valueAt (q::qs) k=some q.2:=by simp[valueAt,qCh,e']
   rw[zHC e,b];exact h2
  ·have e':¬q.1=k:=fun z=>e (h1.trans z)
   have b:valueAt (q::qs) k=valueAt qs k:=by simp[valueAt,qCh,e']
   rw[zHD e,b];exact ih
theorem KV.drop{kvs:List (κ×V)}{vs:List (κ×Value)}(r:KV kvs vs)(k:κ):KV (zZT kvs k) (without vs k):=by
 unfold KV at r ⊢;unfold zZT without;induction r with
 |nil=>exact .nil
 |@cons p q ps qs h t ih=>
  obtain⟨h1,h2⟩:=h;rw[qEq,qEq];by_cases e:p.1=k
  ·have a:¬decide (p.1≠k)=true:=by simp[e]
   have b:¬decide (q.1≠k)=true:=by simp[h1.symm.trans e]
   rw[if_neg a,if_neg b];exact ih
  ·have e':¬q.1=k:=fun z=>e (h1.trans z)
   have a:decide (p.1≠k)=true:=by simp[e]
   have b:decide (q.1≠k)=true:=by simp[e']
   rw[if_pos a,if_pos b];exact .cons ⟨h1,h2⟩ ih
end
theorem zZ2{P:qIy}{w:World}{k:Key}{u:Value}(r:RelV (kV k) u):(zE2 P w).is k u=true:=by
 cases k with
 |inl i=>obtain⟨t,e⟩:=(show ∃t,u=qJw i t from r);subst e;exact zKU P w i t
 |inr x=>obtain⟨t,e⟩:=(show ∃t,u=qK8 x t from r);subst e;exact zKT P w x t
theorem zaL{P:qIy}{w:World}{v:V}{k:KeyN}{u:Value}(e:vN v=some k)(r:RelV v u):(mixN P w).is k u=true:=by
 cases v with
 |non=>cases e;cases(show u=qJ4 from r);rfl
 |bl b=>cases e;cases(show u=qLl b from r);exact zPJ b
 |int i=>cases e;obtain⟨t,z⟩:=(show ∃t,u=qJw i t from r);subst z;exact zNP i t
 |str x=>cases e;obtain⟨t,z⟩:=(show ∃t,u=qK8 x t from r);subst z;exact zNO x t
 |_=>exact nomatch e
theorem zPO{P:qIy}{w:World}{vs:List V}{ks:List KeyN}(q:KsOf vs ks):∀{us:List Value},Vals vs us->ItemsAre (mixN P w) ks us:=by
 induction q with
 |nil=>intro us r;cases r;exact .nil
 |cons h t ih=>
  intro us r;cases r with
  |cons h' t'=>exact .cons (zaL h h') (ih t')
abbrev KT(H:Hp)(T:Addr->Prop):List (List KeyN×V)->List (List KeyN×Addr×Value)->Prop:=qLa fun p q=>p.1=q.1/\(TupK H q.2.1 p.1/\T q.2.1)/\RelV p.2 q.2.2
theorem KT.val{H:Hp}{T:Addr->Prop}{kvs:List (List KeyN×V)}{xs:List (List KeyN×Addr×Value)}(r:KT H T kvs xs)(k:List KeyN):RelO (valV kvs k) ((atKey xs k).map (·.2)):=by
 induction r with
 |nil=>exact qD2
 |@cons p q ps qs h t ih=>
  obtain⟨h1,_,h2⟩:=h;by_cases e:p.1=k
  ·have e':q.1=k:=h1.symm.trans e;have b:atKey (q::qs) k=some q.2:=by simp[atKey,qCh,e']
   rw[zHC e,b];exact h2
  ·have e':¬q.1=k:=fun z=>e (h1.trans z)
   have b:atKey (q::qs) k=atKey qs k:=by simp[atKey,qCh,e']
   rw[zHD e,b];exact ih
theorem KT.repl{H:Hp}{T:Addr->Prop}{kvs:List (List KeyN×V)}{xs:List (List KeyN×Addr×Value)}(r:KT H T kvs xs)(k:List KeyN){y:V}{u:Value}(ry:RelV y u) :
  KT H T (kvs.map fun kv=>if kv.1=k then(kv.1,y)else kv) (xs.map (putAt k u)):=by
 induction r with
 |nil=>exact .nil
 |@cons p q ps qs h t ih=>
  rw[qAk,qAk];refine .cons ?_ ih;obtain⟨h1,h2,h3⟩:=h;unfold putAt;by_cases e:p.1=k
  ·rw[if_pos e,if_pos (h1.symm.trans e)];exact⟨h1,h2,ry⟩
  ·rw[if_neg e,if_neg (fun z=>e (h1.trans z))];exact⟨h1,h2,h3⟩
theorem KT.wk{H:Hp}{T T':Addr->Prop}{kvs:List (List KeyN×V)}{xs:List (List KeyN×Addr×Value)}(r:KT H T kvs xs)(h:∀c,T c->T' c):KT H T' kvs xs:=qLa.mapP r fun _ _ z=>⟨z.1,⟨z.2.1.1,h _ z.2.1.2⟩,z.2.2⟩
theorem KT.put{H:Hp}{T:Addr->Prop}{kvs:List (List KeyN×V)}{xs:List (List KeyN×Addr×Value)}(r:KT H T kvs xs)(k:List KeyN){b:Addr}{y:V}{u:Value}(hb:TupK H b k)(ry:RelV y u) :
  KT H (fun c=>T c\/c=b) (putK kvs k y) (storedH xs k b u):=by
 have e:(kvs.any fun kv=>decide (kv.1=k))=(atKey xs k).isSome:=by
  rw[zLP,(r.val k).isSome_eq,Option.isSome_map]
 unfold putK storedH;rw[e];by_cases q:(atKey xs k).isSome=true
 ·rw[if_pos q,if_pos q];exact(r.repl k ry).wk fun _ z=>.inl z
 ·rw[if_neg q,if_neg q];exact Paired.snoc (KT.wk (T':=fun c=>T c\/c=b) r fun _ z=>qIs z) ⟨rfl,⟨hb,qIm rfl⟩,ry⟩
theorem KT.keeps{H H':Hp}{T:Addr->Prop}{kvs:List (List KeyN×V)}{xs:List (List KeyN×Addr×Value)}(r:KT H T kvs xs)(ht:∀b ys,H b=some (.tup ys)->H' b=some (.tup ys)):KT H' T kvs xs:=
 qLa.mapP r fun _ _ z=>⟨z.1,⟨z.2.1.1.keeps ht,z.2.1.2⟩,z.2.2⟩
section
variable{P:qIy}{w:World}{H:Hp}{h:Heap}{a:Addr}
theorem zXU{u:HO}(ok:HOk P w H h)(e:Rd H a u):ObjOk P w H h a u:=e.ok ok
theorem zT3{kvs:List (Key×V)}(ok:HOk P w H h)(e:Rd H a (.dK kvs)):kvs.length<=sizeLine/\(a==qJz)=false/\∃vs,KV kvs vs/\h.DictOf (zE2 P w) a vs:=
 show ObjOk P w H h a (.dK kvs) from zXU ok e
theorem zJG{ks:List KeyN}(ok:HOk P w H h)(e:TupK H a ks):(tupleKind (mixN P w)).is h ks a:=by
 obtain⟨vs,e,q⟩:=e;obtain⟨_,its,r,o,h1,h2,n,h3⟩:=(show ObjOk P w H h a (.tup vs) from ok a _ e)
 exact⟨o,its.toArray,n,h1,h2,h3,by simpa using zPO q r⟩
theorem zQ6{T:Addr->Prop}{e0:Nat}{kvs:List (List KeyN×V)}(ok:HOk P w H h)(e:Rd H a (.dT T e0 kvs)):kvs.length<=sizeLine/\(a==qJz)=false /\
  ∃xs,KT H T kvs xs/\h.DictOfH (tupleKind (mixN P w)) a xs:=by
 obtain⟨z,y,xs,r,o,es,ep,h1,h2,h3,h4,h5⟩:=(show ObjOk P w H h a (.dT T e0 kvs) from zXU ok e)
 refine⟨z,y,xs,r,o,es,ep,h1,h2,h3,h4,fun x hx=>?_,h5.1⟩;have all:∀{l:List (List KeyN×V)}{m:List (List KeyN×Addr×Value)},KT H T l m->∀x∈m,(tupleKind (mixN P w)).is h x.1 x.2.1:=by
  intro l m q;induction q with
  |nil=>intro x hx;exact nomatch hx
  |@cons p q ps qs hq t ih=>
   intro x hx;rcases qAf.mp hx with e|hx
   ·subst e;exact zJG ok (by rw[<- hq.1];exact hq.2.1.1)
   ·exact ih x hx
 exact all r x hx
theorem zZQ{T:Addr->Prop}{e0:Nat}{kvs:List (List KeyN×V)}(ok:HOk P w H h)(e:H a=some (.dT T e0 kvs)):kvs.length<=sizeLine/\(a==qJz)=false /\
  ∃xs,KT H T kvs xs/\h.DictOfH (tupleKind (mixN P w)) a xs:=zQ6 ok (.inl e)
end
def DGet(H:Hp)(a:Addr)(y:V)(r:Option V):Prop:=
 (∃kvs k,Rd H a (.dK kvs)/\y=kV k/\r=valV kvs k)\/∃T e0 kvs k b,Rd H a (.dT T e0 kvs)/\y=.ref b/\TupK H b k/\r=valV kvs k
theorem DGet.t{H:Hp}{a b:Addr}{T:Addr->Prop}{e0:Nat}{kvs:List (List KeyN×V)}{k:List KeyN}(e:H a=some (.dT T e0 kvs))(eb:TupK H b k):DGet H a (.ref b) (valV kvs k):=.inr ⟨T,e0,kvs,k,b,.inl e,rfl,eb,rfl⟩
section
variable{X:Cx}{pins:List (Addr×Obj)}{σ:St}{H:Hp}{s:qIv}{a:Addr}{y v:V}{u r:Value}{o:Option V}{A:qJ2}{E:Value->qIv->Prop}
theorem Inv.big(I:Inv X pins σ H s):qJz<s.heap.objs.size:=by
 have h:qJ1<s.heap.objs.size:=(I.mod.glob.keeps I.bk).lt;exact qI7 (by decide) h
theorem zQJ{Q:Value->qIv->Prop}(hu:A.units+1<cLine)(I:Inv X pins σ H s)(g:DGet H a y (some v))(ry:RelV y u)(h:∀w' s',Inv X pins σ H s'->RelV v w'->Q w' s') :
  wpAny (model X.prog X.w) A (getItem (.ref a) u) Q E s:=by
 rcases g with⟨kvs,k,e,ey,l⟩|⟨T,e0,kvs,k,b,e,ey,eb,l⟩
 ·subst ey;obtain⟨z,hd,vs,rel,dd⟩:=zT3 I.hok e;obtain⟨w',hw,rw'⟩:=RelO.some_of (v:=v) (o:=valueAt vs k) (by rw[l];exact rel.val k);exact wpAny_getItem_of (zZ2 ry) dd.mapOf hw (h w' _ (I.tok _) rw')
 ·subst ey
  cases(show u=qJ0 b from ry)
  obtain⟨z,hd,xs,rel,dd⟩:=zQ6 I.hok e;obtain⟨w',hw,rw'⟩:=RelO.some_of (v:=v) (o:=(atKey xs k).map (·.2)) (by rw[l];exact rel.val k);obtain⟨p,hp,hp2⟩:=Option.map_eq_some_iff.mp hw;refine wpAny_getItem_heap (tupleKind_room_in1 hu) (zJG I.hok eb) dd hp ?_;rw[hp2];exact h w' _ (I.tok _) rw'
theorem zQI{h':Heap}{t':Nat}{ob:HO}(I:Inv X pins σ H s)(mu:Mut (H a))(hs:qKj a s.heap h')(he:∃q,h'.get? a=some q)(new:ObjOk X.prog X.w (upd H a ob) h' a ob) :
  Inv X pins σ (upd H a ob) { s with heap:=h',toks:=t' }:=
 I.write (x:=a) (e:=a) mu (.inl rfl) (fun b q hb z=>(hs.2 b hb).trans z) he new
end
section
variable{X:Cx}{pins:List (Addr×Obj)}{σ:St}{H:Hp}{s:qIv}{a:Addr}{kvs:List (Key×V)}{k:Key}{u:Value}{A:qJ2}{E:Value->qIv->Prop}
end
def NoSl(i:Expr):Prop:=∀ov iv,subscripted i false ov iv=operate [ov,iv] (getItem ov iv)
theorem zV0{prog:qIy}{w:World}{A:qJ2}{E:Value->qIv->Prop}{s:qIv}{env:Env}{value slice:Expr}{pos:Pos}{T id:String}{Q:Value->qIv->Prop}
  (hl:typeLookup (.type T) "__getitem__" = pure (some (.builtin id))) (hs:NoSl slice)
  (h:wpAny (model prog w) A (eval value env) (fun o s₁=>wpAny (model prog w) A (eval slice env) (fun i s₂=>s₂.TypeIs o T/\wpAny (model prog w) A (getItem o i) Q E s₂) E s₁) E s) :
  wpAny (model prog w) A (eval (.Subscript value slice pos) env) Q E s:=by
 refine qMz (wpAny_mono h (fun o s₁ h₁=>wpAny_mono h₁ (fun i s₂ h₂=>?_) fun _ _ x=>x) fun _ _ x=>x);obtain⟨hT,h₂⟩:=h₂;unfold subscriptTail;refine wpAny_bind ?_;rw[getitemInPython_of_ne hT.not_modules];refine wpAny_bind (wpAny_specialOf hT hl ?_);have fin:wpAny (model prog w) A (subscripted slice false o i) (fun r s₃=>wpAny (model prog w) A (letTemporaryGo value o r >>= fun _=>pure r) Q E s₃) E s₂:=by
  rw[hs o i];exact wpAny_operating (wpAny_mono h₂ (fun r s₃ h₃=>wpAny_bind (wpAny_letTemporaryGo (wpAny_pure h₃))) fun _ _ x=>x)
 first
  |exact wpAny_pure (wpAny_bind fin)
  |exact wpAny_bind (wpAny_pure (wpAny_bind fin))
  |exact wpAny_bind fin
theorem zL6{X:Cx}{pins:List (Addr×Obj)}{σ:St}{H:Hp}{s:qIv}{a:Addr}{y:V}{o:Option V}(I:Inv X pins σ H s)(g:DGet H a y o):s.TypeIs (.ref a) "dict":=by
 rcases g with⟨kvs,k,e,_,_⟩|⟨T,e0,kvs,k,b,e,_,_,_⟩
 ·obtain⟨_,_,vs,_,dd⟩:=zT3 I.hok e;exact dd.typeIs
 ·obtain⟨_,_,xs,_,dd⟩:=zQ6 I.hok e;exact dd.typeIs
noncomputable def zOD(td ty:TE):TE:=fun σ H Q=>td σ H fun x H1=>ty σ H1 fun y H2=>∃a v,x=.ref a/\DGet H2 a y (some v)/\Q v H2
noncomputable def tDIn(ty td:TE):TE:=fun σ H Q=>ty σ H fun y H1=>td σ H1 fun x H2=>∃a o,x=.ref a/\DGet H2 a y o/\Q (.bl o.isSome) H2
section
variable{X:Cx}{o i e value:Expr}{pos pos' tpos:Pos}{td ty tv:TE}
theorem zP0(hu:X.A.units+1<cLine)(ho:PE X o td)(hi:PE X i ty)(hs:NoSl i):PE X (.Subscript o i pos) (zOD td ty):=by
 intro pins s σ H Q I h;refine zV0 PySem.F.slot_dict_getitem.lookup hs (thn (ho pins s σ H _ I h) fun u s1 ⟨x,H1,I1,rx,q1⟩=>thn (hi pins s1 σ H1 _ I1 q1) fun iv s2 ⟨y,H2,I2,ry,a,v,ex,g,q2⟩=>?_);subst ex;obtain rfl:u=qJ0 a:=rx;exact⟨zL6 I2 g,zQJ hu I2 g ry fun w' s3 I3 rw'=>⟨v,H2,I3,rw',q2⟩⟩
end
theorem zMM{P:qIy}{w:World}{H:Hp}(h:Heap)(hb:qJz<h.objs.size):ObjOk P w H (h.push { cls:=.type "dict",data:=.dict #[] }) h.objs.size (.dT (fun _=>False) 0 []):=
 ⟨qAu _,beq_eq_false_iff_ne.mpr (qCe (qAq hb)),[],.nil,_,#[],0,qIw _ rfl,⟨rfl,rfl,rfl⟩,rfl,rfl,qHe,rfl⟩
def zTS:TE:=fun _ H Q=>∀p,H p=none->Q (.ref p) (upd H p (.dT (fun _=>False) 0 []))
section
variable{X:Cx}{pos:Pos}
theorem zS4:PE X (.Dict [] [] pos) zTS:=fun pins s σ H Q I h=>
 wpAny_Dict_empty ⟨.ref s.heap.objs.size,_,I.laid (a:=s.heap.objs.size) (o:=.dT (fun _=>False) 0 []) (t':=s.toks) (fun _ _ q=>qIu _ q) (qA6 _) (zMM s.heap I.big),rfl,h _ (I.hok.fresh (qA6 _))⟩
end
noncomputable def zOB:List (TE×TE)->St->Hp->(List (V×V)->Hp->Prop)->Prop
 |[],_,H,Q=>Q [] H
 |(tk,tv)::r,σ,H,Q=>tk σ H fun x H1=>tv σ H1 fun y H2=>zOB r σ H2 fun ps H3=>Q ((x,y)::ps) H3
abbrev VV:List (V×V)->List (Value×Value)->Prop:=qLa fun p q=>RelV p.1 q.1/\RelV p.2 q.2
def PPs(X:Cx)(pos:Pos)(keys:List (Option Expr))(values:List Expr)(trs:List (TE×TE)):Prop:=
 ∀(pins:List (Addr×Obj))(s:qIv)(σ:St)(H:Hp)(Q:List (V×V)->Hp->Prop),Inv X pins σ H s->zOB trs σ H Q ->
  wpAny (model X.prog X.w) X.A (evalPairs (pairTrees keys values X.env pos)) (fun vs s'=>∃ps H',Inv X pins σ H' s'/\VV ps vs/\Q ps H') X.xe s
theorem zVK{X:Cx}{pos:Pos}:PPs X pos [] [] []:=fun pins s σ H Q I h=>pairTrees_nil_walk ⟨[],H,I,.nil,h⟩
theorem zS2{X:Cx}{pos:Pos}{k v:Expr}{ks:List (Option Expr)}{vs:List Expr}{tk tv:TE}{trs:List (TE×TE)}(hk:PE X k tk)(hv:PE X v tv)(hr:PPs X pos ks vs trs) :
  PPs X pos (some k::ks) (v::vs) ((tk,tv)::trs):=fun pins s σ H Q I h=>
 pairTrees_cons_walk (thn (hk pins s σ H _ I h) fun u s1 ⟨x,H1,I1,rx,q1⟩=>thn (hv pins s1 σ H1 _ I1 q1) fun w2 s2 ⟨y,H2,I2,ry,q2⟩=>
  thn (hr pins s2 σ H2 _ I2 q2) fun ws s3 ⟨ps,H3,I3,rel,q3⟩=>⟨(x,y)::ps,H3,I3,.cons ⟨rx,ry⟩ rel,q3⟩)
structure M2(X:Cx)(o:Expr)(m:Str)(apos:Pos)(e f:Expr)(cpos:Pos):Prop where
 base:attributeBase o m X.env (eval o X.env)=eval o X.env
 few:((backTo cpos (starEach [e,f] X.env)).all (fun x=>!x.1)&&(backToKw cpos (keywordEach [] X.env)).all (fun x=>x.1.isSome)
  && decide (([e,f]:List Expr).length+([]:List qN5).length+(if([]:List qN5).isEmpty then 0 else 1)<30))=true
 line:(apos.endLine==cpos.line)=true
 trees:backTo cpos (starEach [e,f] X.env)=[(false,eval e X.env),(false,eval f X.env)]
def IsD(H:Hp)(a:Addr):Prop:=(∃kvs,Rd H a (.dK kvs))\/∃T e0 kvs,Rd H a (.dT T e0 kvs)
theorem zZF{X:Cx}{pins:List (Addr×Obj)}{σ:St}{H:Hp}{s:qIv}{a:Addr}(I:Inv X pins σ H s)(d:IsD H a) :
  s.TypeIs (.ref a) "dict"/\(∀b,qJ0 a=.ref b->∃ob,s.heap.get? b=some ob/\ob.dict=none)/\(a==qJz)=false:=by
 rcases d with⟨kvs,e⟩|⟨_,_,kvs,e⟩
 ·obtain⟨_,hd,vs,_,dd⟩:=zT3 I.hok e;refine⟨dd.typeIs,fun b q=>?_,hd⟩;cases q;obtain⟨ob,_,_,h1,h2,_⟩:=dd;exact⟨ob,h1,h2.2.1⟩
 ·obtain⟨_,hd,xs,_,dd⟩:=zQ6 I.hok e;refine⟨dd.typeIs,fun b q=>?_,hd⟩;cases q;obtain⟨ob,_,_,h1,h2,_⟩:=dd;exact⟨ob,h1,h2.2.1⟩
section
variable{X:Cx}{pins:List (Addr×Obj)}{σ:St}{H:Hp}{s:qIv}{a:Addr}{y d:V}{u r:Value}{o:Option V}{A:qJ2}{E:Value->qIv->Prop}
theorem za4{Q:Value->qIv->Prop}(hu:A.units+1<cLine)(I:Inv X pins σ H s)(g:DGet H a y o)(ry:RelV y u)(rd:RelV d r)(h:∀w' s',Inv X pins σ H s'->RelV (o.getD d) w'->Q w' s') :
  wpAny (model X.prog X.w) A (call (.builtin "dict.get") [.ref a,u,r]) Q E s:=by
 rcases g with⟨kvs,k,e,ey,l⟩|⟨T,e0,kvs,k,b,e,ey,eb,l⟩
 ·subst ey;obtain⟨z,hd,vs,rel,dd⟩:=zT3 I.hok e;refine call_meetsIn qDh dd.typeIs qEv (qEj _ _ _) (meets_dict_get_default (zE2 X.prog X.w) a (zZ2 ry) hd r) ⟨_,dd.mapOf,h _ _ (I.tok _) ?_⟩;rw[l];exact(rel.val k).getD rd
 ·subst ey
  cases(show u=qJ0 b from ry)
  obtain⟨z,hd,xs,rel,dd⟩:=zQ6 I.hok e;refine call_meetsIn qDh dd.typeIs qEv (qEj _ _ _) (meetsH_dict_get_default (tupleKind (mixN X.prog X.w)) a b hd r) ⟨tupleKind_room_in1 hu,k,xs,zJG I.hok eb,dd,h _ _ (I.tok _) ?_⟩;rw[l];exact(rel.val k).getD rd
end
noncomputable def zTT(td ty tx:TE):TE:=fun σ H Q=>td σ H fun x H1=>∃a,x=.ref a/\IsD H1 a/\ty σ H1 fun y H2=>tx σ H2 fun z H3=>∃o,DGet H3 a y o/\Q (o.getD z) H3
section
variable{X:Cx}{o e f:Expr}{apos cpos:Pos}{td ty tx:TE}
theorem zS6(hu:X.A.units+1<cLine)(ho:PE X o td)(he:PE X e ty)(hf:PE X f tx)(m:M2 X o "get" apos e f cpos):PE X (.Call (.Attribute o "get" apos) [e,f] [] cpos) (zTT td ty tx):=by
 intro pins s σ H Q I h;refine wpAny_Call_method m.base m.few m.line PySem.F.plainAttrs_dict qDh PySem.F.type_dict_get (thn (ho pins s σ H _ I h) fun u s1 z0=>?_);obtain⟨x,H1,I1,rx,a,ex,d,q1⟩:=z0;subst ex;obtain rfl:u=qJ0 a:=rx;obtain⟨t1,t2,_⟩:=zZF I1 d;refine⟨t1,t2,?_⟩;rw[m.trees];refine qLc rfl (qLq (qKz (thn (he pins s1 σ H1 _ I1 q1) fun iv s2 ⟨y,H2,I2,ry,q2⟩=>
  qKz (thn (hf pins s2 σ H2 _ I2 q2) fun fv s3 ⟨z,H3,I3,rz,ov,g,q3⟩=>qMc ?_))))
 exact za4 hu I3 g ry rz fun w' s4 I4 rw'=>⟨_,H3,I4,rw',q3⟩
end
section
variable{X:Cx}{pins:List (Addr×Obj)}{σ:St}{H:Hp}{s:qIv}{a:Addr}{kvs:List (Key×V)}{A:qJ2}{E:Value->qIv->Prop}
end
section
variable{X:Cx}{pins:List (Addr×Obj)}{σ:St}{H:Hp}{s:qIv}{a:Addr}{y:V}{u:Value}{A:qJ2}{E:Value->qIv->Prop}
end
end L2
namespace Att
open PySem PySem.W PySem.Calls PyProof.Rows
theorem zG8{P:qN1}{h:Heap}:∀(ns:List Int)(vs:List Value),WellAll P h vs (ns.map qMt)->qKg vs ns:=by
 intro ns;induction ns with
 |nil=>
  intro vs w;rw[qI8]at w;cases w;exact .nil
 |cons n ns ih=>
  intro vs w;rw[qAk]at w;cases w with
  |cons a b=>
   cases a;exact .cons _ _ (ih _ b)
theorem zOK{l:OpenLaw}{n:Nat}(hn:l.most=some n){P:qN1}{h:Heap}{args:List WData}{vals:List Value}
  (hpre:l.row.toRowW.claim.pre args=true) (hwl:WellAll P h vals args) :
  ∃a vs ns,vals=[qJ0 a]/\args=[WData.list (ns.map qMt)]/\h.get? a=some { cls:=.type "list",data:=.seq vs.toArray }/\qKg vs ns/\ns.length<=n:=by
 have hsh:WShape.hasAll [] args [.list .int]=true:=(pre_splitW hpre).1;have hc:l.pre.holds [] { args:=args }=true:=(pre_splitW hpre).2;obtain⟨d,r,rfl,h1,h2⟩:=hasAllW_cons hsh;obtain rfl:=hasAllW_nil h2;obtain⟨xs,rfl,h3⟩:=hasW_list h1;obtain⟨ns,rfl⟩:=items_int h3;have hlen:ns.length<=n:=by
  unfold OpenLaw.pre at hc;have h4:(WTm.not (.lt (.lit (.int (n:Int))) (.len (.arg 0)))).holds [] { args:=[.list (ns.map .int)] }=true:=by
   have h4:=(holds_andW hc).1;rw[hn]at h4;exact h4
  have h5:=condW_of h4 (w_not (w_lt w_lit (w_len_list (w_arg rfl))));rw[qAi]at h5;refine Nat.le_of_not_lt fun q=>?_
  have q':(n:Int)<((ns.length:Nat):Int):=by lia
  first
   |(rw[decide_eq_true q']at h5;exact absurd h5 (by decide))
   |(simp at h5;omega)
 cases hwl with
 |cons w1 w2=>
  cases w2;cases w1 with
  |list ho hall=>exact⟨_,_,ns,rfl,rfl,ho,zG8 ns _ hall,hlen⟩
theorem zOV(l:OpenLaw)(args:List WData):l.row.toRowW.claim.post args (.bool true) args=true:=
 postW_of (r:=l.row.toRowW) (X:=(true==true))
  (show qNf [] (.bool true) .bool=true by first|rfl|decide|simp[qNf,WShape.arms,WShape.armsAll])
  (show(WTm.eq .res (.lit (.bool true))).value [] { args:=args,res:=some (.bool true),after:=args }=some (.bool (true==true)) from w_eq_bool (w_res rfl) w_lit) rfl
section
variable{prog:qIy}{w:World}{A:qJ2}{E:Value->qIv->Prop}{s:qIv}{K:Frag}
end
end Att
namespace L2
open PySem PySem.Spec PyProof.Rows
theorem zIR:∀{vs:List Value}{ns:List Int},qKg vs ns->Vals (ns.map V.int) vs
 |_,_,.nil=>.nil
 |_,_,.cons n t h=>.cons ⟨t,rfl⟩ (zIR h)
noncomputable def zAW(s:Stmt):Arguments:=match s with
 |.FunctionDef _ a _ _ _ _ _ _ _ _=>a
 |_=>{ posonlyargs:=[],args:=[],vararg:=none,kwonlyargs:=[],kw_defaults:=[],kwarg:=none,defaults:=[] }
noncomputable def zAT(s:Stmt):List Stmt:=match s with
 |.FunctionDef _ _ b _ _ _ _ _ _ _=>b
 |_=>[]
noncomputable def zAB(s:Stmt):Scope:=match s with
 |.FunctionDef _ _ _ _ _ _ sc _ _ _=>sc
 |_=>{ kind:=.function,names:=[],isGenerator:=false,isCoroutine:=false }
abbrev CX0:CXT:=fun _ _ _ _ _ _=>False
abbrev E0:XK:=fun _ _ _=>False
theorem zb2{X:Cx}:zN2 CX0 X E0:=fun _ _ _ _ _ _ _ h=>h.elim
structure Fun(K:qA1)(x qual:Str)(st:Stmt)(f:Addr)(fd:qJl):Prop where
 ex:∃(oc:Value)(od:Option Addr)(kV doc pm:Value)(an:Option Addr)(cdv ct:Value)(osl:Array (Option Value)),
  fd=qB7 x qual (zAW st) (zAT st) (zAB st) .none kV doc pm an cdv ct/\K.lookup f=some ⟨oc,od,.func fd,osl⟩/\qCc K cdv qual=true
 kp:qB5 K (.ref f)=true
section
variable{P:qIy}{w:World}{K:qA1}{mg:Str->Option Value}{base:Heap}
theorem Fun.ok{x qual:Str}{st:Stmt}{f:Addr}{fd:qJl}{N ps:List Str}{k:Nat}{sp:Sp}(F:Fun K x qual st f fd)(S:FnScope N ps (zAB st))(len:∀vs H Q E,sp vs H Q E->vs.length=ps.length)
  (hbody:∀(cdv:Value)(A:qJ2)(outer:List Env)(s:qIv)(H:Hp)(vs:List V)(Q:VK)(E:XK),Room k (A.deeper (envOfC qual (zAB st) s.heap.objs.size f cdv))->sp vs H Q E ->
   ∃t,PSs (cxOf CX0 P w K mg base N qual (zAB st) f cdv A outer s H E).nox (zAT st) t/\t { nx:=fun _ H'=>Q .non H',rt:=Q } (start N vs) H):FnOk P w K mg base CX0 (k+1) f fd ps sp:=by
 obtain⟨oc,od,kV,doc,pm,an,cdv,ct,osl,rfl,lk,hcd⟩:=F.ex;refine zWI lk hcd S len fun A outer s H vs Q E hr hsp=>?_
 obtain⟨t,h,q⟩:=hbody cdv A outer s H vs Q E hr hsp;exact⟨t,h.nox,q⟩
theorem Fun.binds{x qual:Str}{st:Stmt}{f:Addr}{fd:qJl}{ps:List Str}(F:Fun K x qual st f fd)
  (h:∀(kV doc pm:Value)(an:Option Addr)(cdv ct:Value)(us:List Value),us.length=ps.length->bindArgs (qB7 x qual (zAW st) (zAT st) (zAB st) .none kV doc pm an cdv ct) ⟨us,[]⟩=pure (ps.zip us)):Binds K fd ps []:=by
 obtain⟨oc,od,kV,doc,pm,an,cdv,ct,osl,rfl,lk,hcd⟩:=F.ex;exact .all (h kV doc pm an cdv ct)
theorem zQ0{x qual:Str}{st:Stmt}{f:Addr}{oc:Value}{od an:Option Addr}{osl:Array (Option Value)}{kV doc pm cdv ct:Value}(l:K.lookup f=some ⟨oc,od,.func (qB7 x qual (zAW st) (zAT st) (zAB st) .none kV doc pm an cdv ct),osl⟩)
  (c:qCc K cdv qual=true) (k:qB5 K (.ref f)=true):Fun K x qual st f (qB7 x qual (zAW st) (zAT st) (zAB st) .none kV doc pm an cdv ct):=⟨⟨oc,od,kV,doc,pm,an,cdv,ct,osl,rfl,l,c⟩,k⟩
end
theorem zPT{A:qJ2}{k:Nat}(hr:Room k A):A.units+1<cLine:=qE3 (Nat.add_le_add_left (by decide:1<=64) _) hr.units
section
variable{X:Cx}
end
def Same(H H':Hp):Prop:=∀b o,H b=some o->H' b=some o
theorem Same.refl(H:Hp):Same H H:=fun _ _ h=>h
theorem Same.trans{H H1 H2:Hp}(a:Same H H1)(b:Same H1 H2):Same H H2:=fun c o h=>b c o (a c o h)
theorem Same.free{H H':Hp}(e:Same H H'){l:Addr}(h:H' l=qFe):H l=qFe:=by
 cases q:H l with
 |none=>rfl
 |some o=>
  rw[e l o q]at h;cases h
theorem Same.seq{K:qA1}{H H':Hp}{a:Addr}{xs:List V}(e:Same H H')(h:SqL K H a xs):SqL K H' a xs:=by
 rcases h with(h|⟨o,h⟩)|h
 ·exact .inl (.inl (e _ _ h))
 ·exact .inl (.inr ⟨o,e _ _ h⟩)
 ·exact .inr h
section
variable{κ:Type}[DecidableEq κ]
end
theorem asN{a b:Nat}(h:a<b):a<b:=h
theorem asL{a b:Nat}(h:a<=b):a<=b:=h
theorem asE{a b:Nat}(h:a=b):a=b:=h
noncomputable def clos(cells:List (Str×Addr)):List (Str×qK0)->List (Str×Addr)->List (Str×Addr)
 |[],acc=>acc
 |(n,k)::r,acc=>if k==.free then clos cells r ((n,(cells.lookup n).getD 0)::acc)else clos cells r acc
theorem zDM(cells:List (Str×Addr)):∀(names:List (Str×qK0))(acc:List (Str×Addr)),clos cells names acc=clos cells names []++acc
 |[],_=>rfl
 |(n,k)::r,acc=>by
  unfold clos;split
  ·rw[zDM cells r (_::acc),zDM cells r [_],qB6];rfl
  ·exact zDM cells r acc
theorem zFM{cells:List (Str×Addr)}{x:Str}{c:Addr}:∀{names:List (Str×qK0)},(x,c)∈clos cells names []->(x,qJ5)∈names/\c=(cells.lookup x).getD 0
 |[],h=>by simp[clos]at h
 |(n,k)::r,h=>by
  unfold clos at h;split at h
  ·rename_i hk
   rw[zDM]at h;rcases qAz.mp h with h|h
   ·obtain⟨h1,h2⟩:=zFM h;exact⟨qAc _ h1,h2⟩
   ·have e:=qAt.mp h
    injection e with e1 e2
    subst e1;have hk':k=.free:=by simpa using hk
    subst hk';exact⟨qAj,e2⟩
  ·obtain⟨h1,h2⟩:=zFM h;exact⟨qAc _ h1,h2⟩
theorem zIB{cells:List (Str×Addr)}{x:Str}:∀{names:List (Str×qK0)},(x,qJ5)∈names->(x,(cells.lookup x).getD 0)∈clos cells names []
 |[],h=>by simp at h
 |(n,k)::r,h=>by
  unfold clos;rcases qAf.mp h with e|h
  ·injection e with e1 e2
   subst e1;subst e2;rw[if_pos (by rfl),zDM];exact qAp _ (by simp)
  ·split
   ·rw[zDM];exact qDr _ (zIB h)
   ·exact zIB h
theorem zBH:∀(names:List (Str×qK0))(n:Nat)(acc:List (Str×Addr)),cellsFrom n names acc=cellsFrom n names []++acc
 |[],_,_=>rfl
 |(x,k)::r,n,acc=>by
  unfold cellsFrom;split
  ·rw[zBH r (n+1) (_::acc),zBH r (n+1) [_],qB6];rfl
  ·exact zBH r n acc
theorem zC9{x:Str}{c:Addr}:∀{names:List (Str×qK0)}{n:Nat},(x,c)∈cellsFrom n names []->(x,qJo)∈names
 |[],_,h=>by simp[cellsFrom]at h
 |(y,k)::r,n,h=>by
  unfold cellsFrom at h;split at h
  ·rename_i hk
   rw[zBH]at h;rcases qAz.mp h with h|h
   ·exact qAc _ (zC9 h)
   ·have e:=qAt.mp h
    injection e with e1 e2
    subst e1;have hk':k=.cell:=by simpa using hk
    subst hk';exact qAj
  ·exact qAc _ (zC9 h)
theorem zBX{α:Type}{x:Str}{a:α}:∀{l:List (Str×α)},(l.map (·.1)).Nodup->(x,a)∈l->l.lookup x=some a
 |[],_,h=>by simp at h
 |(y,b)::r,nd,h=>by
  have nd':(y::r.map (·.1)).Nodup:=nd;obtain⟨h1,h2⟩:=qAv.mp nd';rcases qAf.mp h with e|hm
  ·injection e with e1 e2
   subst e1;subst e2;rw[qBn,beq_self_eq_true]
  ·have hne:(x==y)=false:=by
    rw[beq_eq_false_iff_ne]
    rintro rfl
    exact h1 (qAb.mpr ⟨(x,a),hm,rfl⟩)
   rw[qBn,hne];exact zBX h2 hm
theorem zDU{α:Type}{x:Str}:∀{l:List (Str×α)},(∀a,(x,a)∉l)->l.lookup x=none
 |[],_=>rfl
 |(y,b)::r,h=>by
  have hne:(x==y)=false:=by
   rw[beq_eq_false_iff_ne]
   rintro rfl
   exact h b qAj
  rw[qBn,hne];exact zDU fun a m=>h a (qAc _ m)
theorem zDT{α:Type}{x:Str}{a:α}:∀{l:List (Str×α)},(x,a)∈l->∃b,l.lookup x=some b
 |[],h=>by simp at h
 |(y,b)::r,h=>by
  rw[qBn];cases e:x==y with
  |true=>exact⟨b,rfl⟩
  |false=>
   rcases qAf.mp h with q|q
   ·injection q with q1 _
    subst q1;rw[beq_self_eq_true]at e;cases e
   ·exact zDT q
theorem zGZ{α:Type}{x:Str}:∀(l k:List (Str×α)),(l++k).lookup x=(l.lookup x).or (k.lookup x)
 |[],k=>by simp
 |(y,b)::r,k=>by
  show qCo x ((y,b)::(r++k))=_;rw[qBn,qBn];cases x==y with
  |true=>rfl
  |false=>exact zGZ r k
def zaI(sc:Scope)(env:Env):Prop:=∀x,(x,qJ5)∈sc.names->env.kindOf x=some .cell\/env.kindOf x=some .free
theorem zES{sc:Scope}{env:Env}(h:∀x,(x,qJ5)∈sc.names->∃c,env.cells.lookup x=some c):qMf sc env=pure (clos env.cells sc.names []):=by
 have go:∀(names:List (Str×qK0))(acc:List (Str×Addr)),(∀x,(x,qJ5)∈names->∃c,env.cells.lookup x=some c) ->
   (forIn names acc fun(x:Str×qK0)(cs:List (Str×Addr))=>(match x with|(name,kind)=>if(kind==qJ5)=true then(do let c <- cellOf env name;pure (qCp ((name,c)::cs)))else pure (qCp cs):Sem (ForInStep (List (Str×Addr)))))=pure (clos env.cells names acc):=by
  intro names;induction names with
  |nil=>intro acc _;rfl
  |cons p r ih=>
   intro acc hn;obtain⟨n,k⟩:=p;have hr:∀x,(x,qJ5)∈r->∃c,env.cells.lookup x=some c:=fun x hx=>hn x (qAc _ hx)
   rw[qGp];unfold clos;by_cases hk:(k==qJ5)=true
   ·have hk':k=.free:=by simpa using hk
    subst hk';obtain⟨c,hc⟩:=hn n qAj;have e:cellOf env n=pure c:=by unfold cellOf;rw[hc]
    rw[if_pos (by rfl)];simp only[if_pos (show(qJ5==qJ5)=true from rfl),e,hc,qCi,pure_bind];exact ih _ hr
   ·rw[if_neg hk];simp only[if_neg hk,pure_bind];exact ih _ hr
 unfold qMf;have q:=go sc.names [] h
 first
  |(rw[show(forIn sc.names ([]:List (Str×Addr)) _:Sem (List (Str×Addr)))=_ from q];rfl)
  |(refine(congrArg (fun z=>z >>= pure) q).trans ?_;rfl)
  |(simp only[q];rfl)
  |exact q
def zDL(sc:Scope)(C:Addr)(env:Env):Env:=
 { scope:=relabel sc env,locals:=C,globals:=env.globals,cells:=cellsFrom (C+1) sc.names (clos env.cells sc.names []),qual:=env.qual,func:=none,code:=env.code,frame:=env.frame,builtins:=env.builtins }
theorem zE9{M:Model}{A:qJ2}{E:Value->qIv->Prop}{s:qIv}{sc:Scope}{env:Env}{cl:List (Str×Addr)}{Q:Env->qIv->Prop}
  (hQ:Q { scope:=sc,locals:=s.heap.objs.size,globals:=env.globals,cells:=cellsFrom (s.heap.objs.size+1) sc.names cl,qual:=env.qual,func:=none,code:=env.code,frame:=env.frame,builtins:=env.builtins }
   { s with heap:=pushCells (s.heap.push { cls:=.type "dict",data:=.dict #[] }) sc.names }) :
  wpAny M A (newFunctionEnv sc env.globals cl [] env.qual none .none (some env)) Q E s:=by
 simp only[newFunctionEnv,qFp,if_true];refine wpAny_bind (wpAny_alloc ?_);refine wpAny_bind (wpAny_layCells _ (fun name kind cells=>by cases hkc:kind==qJo<;>simp[hkc]) _ _ _ _ ?_);rw[show({ s with heap:=s.heap.push { cls:=.type "dict",data:=.dict #[] } }:qIv).heap.objs.size=s.heap.objs.size+1 from qJt ..];refine wpAny_bind ?_;rw[qHf];exact wpAny_pure (wpAny_pure hQ)
def zCR(X:Cx)(N':List Str)(sc:Scope)(C:Addr)(s:qIv)(H:Hp)(fp:List Addr):Cx:=
 { X with N:=N',s₀:=s,H₀:=H,env:=zDL sc C X.env,outer:=X.stack,stack:=X.stack,ex:=fp,fn:=fun x=>sc.names.lookup x==some .cell,pn:=[],xe:=fun _ _=>False }
def PTs(X:Cx)(ifs:List Expr)(t:TT):Prop:=
 ∀(pins:List (Addr×Obj))(s:qIv)(σ:St)(H:Hp)(Q:Bool->Hp->Prop),Inv X pins σ H s->t σ H Q ->
  wpAny (model X.prog X.w) X.A (forIn ifs true fun c r=>if r=true then do let ok <- isTrue c X.env (eval c X.env);pure (qCp ok)else pure (qCp r)) (TP X pins σ Q) X.xe s
noncomputable def tYes:TT:=fun _ H Q=>Q true H
theorem zEX{X:Cx}:PTs X [] tYes:=fun _ _ _ H _ I h=>wpAny_tests_nil ⟨H,I,h⟩
structure CompNames(N N':List Str)(k:Nat)(sc:Scope)(env:Env):Prop where
 kind:sc.kind=.function
 nd:(sc.names.map (·.1)).Nodup
 len:N'.length=N.length+k
 old:∀(i:Nat)(x:Str),N'[i]?=some x->i<N.length->(x,qJ5)∈sc.names/\N[i]?=some x\/sc.names.lookup x=none
 free:zaI sc env
theorem zBK{sc:Scope}{env:Env}{x:Str}{k:qK0}:∀{names:List (Str×qK0)},
  (names.map fun(n,k)=>if(k==qJ5&&env.scope.kind==.function&&env.kindOf n==some .cell)then(n,qJo)else(n,k)).lookup x=some k ->
  names.lookup x=some k\/(names.lookup x=some .free/\k=.cell)
 |[],h=>by simp at h
 |(n,j)::r,h=>by
  have ih:=@zBK sc env x k r;rw[qAk]at h;rw[qBn];by_cases hc:(j==qJ5&&env.scope.kind==.function&&env.kindOf n==some .cell)=true
  ·have h':qCo x ((n,qJo)::(r.map fun(n,k)=>if(k==qJ5&&env.scope.kind==.function&&env.kindOf n==some .cell)then(n,qJo)else(n,k)))=some k:=by
    rw[<- h];simp only[if_pos hc]
   rw[qBn]at h';cases e:x==n with
   |true=>
    rw[e]at h';have hk:k=.cell:=(qBd h').symm;have hj:j=.free:=by
     simp only[qC6,beq_iff_eq]at hc;exact hc.1.1
    subst hj;exact .inr ⟨rfl,hk⟩
   |false=>
    rw[e]at h';exact ih h'
  ·have h':qCo x ((n,j)::(r.map fun(n,k)=>if(k==qJ5&&env.scope.kind==.function&&env.kindOf n==some .cell)then(n,qJo)else(n,k)))=some k:=by
    rw[<- h];simp only[if_neg hc]
   rw[qBn]at h';cases e:x==n with
   |true=>rw[e]at h';exact .inl h'
   |false=>rw[e]at h';exact ih h'
section
variable{X:Cx}{N':List Str}{k:Nat}{sc:Scope}{pins:List (Addr×Obj)}{σ:St}{H:Hp}{s:qIv}
theorem zNV{C:Addr}{x:Str}{c:Addr}(nd:(sc.names.map (·.1)).Nodup)(h:(zDL sc C X.env).cells.lookup x=some c) :
  ((x,c)∈cellsFrom (C+1) sc.names []/\(x,qJo)∈sc.names)\/((x,qJ5)∈sc.names/\c=(X.env.cells.lookup x).getD 0):=by
 have m:=mem_of_lookup h;have m':(x,c)∈cellsFrom (C+1) sc.names (clos X.env.cells sc.names []):=m;rw[zBH]at m';rcases qAz.mp m' with z|z
 ·exact .inl ⟨z,zC9 z⟩
 ·exact .inr (zFM z)
theorem zDY{C:Addr}{x:Str}(nd:(sc.names.map (·.1)).Nodup)(h:(x,qJ5)∈sc.names):(zDL sc C X.env).cells.lookup x=some ((X.env.cells.lookup x).getD 0):=by
 show(cellsFrom (C+1) sc.names (clos X.env.cells sc.names [])).lookup x=_;rw[zBH,zGZ,zDU (fun a m=>?_),Option.none_or]
 ·obtain⟨b,hb⟩:=zDT (zIB (cells:=X.env.cells) h)
  have:=(zFM (mem_of_lookup hb)).2;rw[hb,this]
 ·have e1:=zBX nd (zC9 m);rw[zBX nd h]at e1;cases e1
theorem zSS(I:Inv X pins σ H s)(hc:X.calm=true)(S:CompNames X.N N' k sc X.env){fp:List Addr}(hf:∀b∈fp,FpOk X pins H b)(hfo:∀b∈fp,∃o,s.heap.get? b=some o)
  {s4:qIv} {D C:Addr} (eD:D=s.heap.objs.size) (eC:C=s.heap.objs.size+1)
  (e4:s4={ s with heap:=pushCells ((s.heap.push { cls:=.type "list",data:=.seq #[] 0 }).push { cls:=.type "dict",data:=.dict #[] }) sc.names }) :
  Inv (zCR X N' sc C s H fp) [(D,{ cls:=.type "list",data:=.seq #[] 0 })] (σ++qA4 k none) H s4/\∀b∈fp,FpOk (zCR X N' sc C s H fp) [(D,{ cls:=.type "list",data:=.seq #[] 0 })] H b:=by
 subst eD eC e4;generalize hh1:s.heap.push { cls:=.type "list",data:=.seq #[] 0 }=h1;generalize hh2:h1.push { cls:=.type "dict",data:=.dict #[] }=h2;have sz1:h1.objs.size=s.heap.objs.size+1:=by rw[<- hh1];exact qJt ..
 have sz2:h2.objs.size=s.heap.objs.size+2:=by rw[<- hh2,qJt,sz1]
 have k1:∀b o,s.heap.get? b=some o->h1.get? b=some o:=fun b o e=>by rw[<- hh1];exact qIu _ e
 have k2:∀b o,h1.get? b=some o->h2.get? b=some o:=fun b o e=>by rw[<- hh2];exact qIu _ e
 have k3:∀b o,h2.get? b=some o->(pushCells h2 sc.names).get? b=some o:=pushCells_keeps sc.names h2;have kk:∀b o,s.heap.get? b=some o->(pushCells h2 sc.names).get? b=some o:=fun b o e=>k3 b o (k2 b o (k1 b o e))
 have own:CellsOk (pushCells h2 sc.names) h2.objs.size (cellsFrom h2.objs.size sc.names []):=cellsFrom_ok sc.names h2 h2.objs.size [] ⟨fun _ _ hm=>(nomatch hm),qG3⟩ (qA6 _);have eC1:s.heap.objs.size+1+1=h2.objs.size:=by rw[sz2]
 have freeCell:∀x,(x,qJ5)∈sc.names->∃c,X.env.cells.lookup x=some c:=fun x hx=>I.ok.has x (S.free x hx)
 have cells:∀x c,(zDL sc (s.heap.objs.size+1) X.env).cells.lookup x=some c ->
   ((x,c)∈cellsFrom h2.objs.size sc.names []/\(x,qJo)∈sc.names/\(pushCells h2 sc.names).IsCell c none/\h2.objs.size<=c)\/((x,qJ5)∈sc.names/\X.env.cells.lookup x=some c):=fun x c e=>by
  rcases zNV S.nd e with⟨m,q⟩|⟨m,q⟩
  ·rw[eC1]at m;exact .inl ⟨m,q,(own.empty x c m).1,(own.empty x c m).2⟩
  ·obtain⟨c',hc'⟩:=freeCell x m;rw[hc',qCi]at q;subst q;exact .inr ⟨m,hc'⟩
 have old:∀x c,X.env.cells.lookup x=some c->c<s.heap.objs.size:=fun x c e=>by
  obtain⟨v,q⟩:=I.cell x c e;exact q.lt
 have fpl:∀b∈fp,b<s.heap.objs.size:=fun b hb=>by
  obtain⟨o,e⟩:=hfo b hb;exact qIx e
 have hCn:H (s.heap.objs.size+1)=none:=I.hok.fresh (qDx _);have hDn:H s.heap.objs.size=none:=I.hok.fresh (qA6 _);have nofs:∀a,s.heap.objs.size<=a->a∉frs X.stack:=fun a ha hb=>by
  rcases qAf.mp (I.stkSub a hb)with e|hb
  ·have t1:=asN I.lt;have t2:=asE e;have t3:=asL ha
   lia
  ·exact I.nofs ha hb
 have fin:∀b∈fp,b∉frs X.stack:=fun b hb z=>by
  obtain⟨f0,f1,f2,f3,f4,f5⟩:=hf b hb;rcases qAf.mp (I.stkSub b z)with e|z
  ·exact f1 e
  ·exact f2 z
 have ok:(zCR X N' sc (s.heap.objs.size+1) s H fp).Ok:=by
  refine⟨I.ok.mod,S.kind,I.ok.glob,I.ok.blt,qDx _,?_,?_,?_,I.ok.hd,I.ok.frames,.inl rfl,?_,I.bs,qAs I.ok.bsz I.sz,?_,fin,I.stack,I.stkFree⟩
  ·intro x y c hx hy
   rcases cells x c hx with⟨m1,_,_,g1⟩|⟨m1,g1⟩<;>rcases cells y c hy with⟨m2,_,_,g2⟩|⟨m2,g2⟩
   ·exact name_of_addr own.apart m1 m2
   ·exact absurd (qAg (old y c g2) (qAs (by rw[sz2];exact qGd _ _) g1)) (qC7 _)
   ·exact absurd (qAg (old x c g1) (qAs (by rw[sz2];exact qGd _ _) g2)) (qC7 _)
   ·exact I.ok.inj x y c g1 g2
  ·intro x hx;have hx:(relabel sc X.env).names.lookup x=some .cell\/(relabel sc X.env).names.lookup x=some .free:=hx;have two:sc.names.lookup x=some .cell\/sc.names.lookup x=some .free:=by
    rcases hx with hx|hx
    ·rcases zBK (sc:=sc) hx with q|⟨q,_⟩
     ·exact .inl q
     ·exact .inr q
    ·rcases zBK (sc:=sc) hx with q|⟨_,q⟩
     ·exact .inr q
     ·cases q
   rcases two with q|q
   ·have:=qD7 sc.names (s.heap.objs.size+1+1) (clos X.env.cells sc.names []) (.inl q)
    exact qEg.mp this
   ·exact⟨_,zDY S.nd (mem_of_lookup q)⟩
  ·intro x c hx e;have hx:(sc.names.lookup x==some qJo)=true:=hx;have hx':sc.names.lookup x=some .cell:=by simpa using hx
   rcases cells x c e with⟨_,_,_,g⟩|⟨m,_⟩
   ·show s.heap.objs.size<=c
    lia
   ·rw[zBX S.nd m]at hx';cases hx'
  ·intro b hb;refine⟨?_,fun x c e z=>?_⟩
   ·exact qAq (qEh (fpl b hb))
   ·rcases cells x c e with⟨_,_,_,g⟩|⟨_,g⟩
    ·have t1:=asN (fpl b hb);have t2:=asL g;have t3:=asE z
     lia
    ·exact(hf b hb).2.2.2.2.1 x c g z
  ·intro b o e hb
   rcases(hf b hb).2.2.2.1 with z|z
   ·exact I.ok.noex b o e z
   ·exact absurd (qAg (qIx e) (qAs I.ok.bsz z)) (qC7 _)
 have ns:(pushCells h2 sc.names).Ns (s.heap.objs.size+1) fun _=>none:=by
  have q:h2.Ns h1.objs.size fun _=>none:=by rw[<- hh2];exact Heap.Ns.new h1 (.type "dict")
  rw[sz1]at q;exact q.keeps k3
 have hD1:h1.get? s.heap.objs.size=some { cls:=.type "list",data:=.seq #[] 0 }:=by rw[<- hh1];exact qIw _ rfl
 refine⟨⟨ok,rfl,I.bare,Un.kept kk,⟨_,ns,?_⟩,?_,hCn,?_,?_,I.hok.kept kk,?_⟩,?_⟩
 ·intro i x v h1 h2 h3;have hi:i<X.N.length:=by
   rw[<- I.len];by_cases hi:i<σ.length
   ·exact hi
   ·rw[qAd (by lia),qBj]at h2
    split at h2<;>cases h2
  have h2':σ[i]?=some (some v):=by
   rw[qA9 (by rw[I.len];exact hi)]at h2;exact h2
  have h1:N'[i]?=some x:=h1;rcases S.old i x h1 hi with⟨m,e⟩|e
  ·obtain⟨mm,hn,hl⟩:=I.loc;have hv:Vis X.env.scope x:=(S.free x m).elim (fun z=>.inr (.inl z)) fun z=>.inr (.inr z)
   obtain⟨u,r,l⟩:=hl i x v e h2' hv;refine⟨u,r,?_⟩;rcases l with⟨z,_⟩|⟨_,c,hc,hcell⟩
   ·rcases S.free x m with z'|z'<;>rw[z]at z'<;>cases z'
   ·refine .inr ⟨?_,c,?_,hcell.keeps kk⟩
    ·have hv3:(relabel sc X.env).names.lookup x=some .local\/(relabel sc X.env).names.lookup x=some .cell\/(relabel sc X.env).names.lookup x=some .free:=h3
     rcases hv3 with q|q|q
     ·rcases zBK (sc:=sc) q with q|⟨_,q⟩
      ·rw[zBX S.nd m]at q;cases q
      ·cases q
     ·exact .inl q
     ·exact .inr q
    ·have q:=zDY (X:=X) (C:=s.heap.objs.size+1) S.nd m;rw[hc,qCi]at q;exact q
  ·exfalso
   have hv3:(relabel sc X.env).names.lookup x=some .local\/(relabel sc X.env).names.lookup x=some .cell\/(relabel sc X.env).names.lookup x=some .free:=h3;rcases hv3 with q|q|q<;>rcases zBK (sc:=sc) q with q|⟨q,_⟩<;>rw[e]at q<;>cases q
 ·intro x c e
  rcases cells x c e with⟨_,_,g,_⟩|⟨_,g⟩
  ·exact⟨_,g⟩
  ·obtain⟨v,q⟩:=I.cell x c g;exact⟨v,q.keeps kk⟩
 ·intro x c e
  rcases cells x c e with⟨_,_,_,g⟩|⟨_,g⟩
  ·exact I.hok.fresh (by lia)
  ·exact I.freeC x c g
 ·intro p hp;have hp':p=(s.heap.objs.size,{ cls:=.type "list",data:=.seq #[] 0 }):=by
   have:p∈([]++[(s.heap.objs.size,({ cls:=.type "list",data:=.seq #[] 0 }:Obj))]:List (Addr×Obj)):=hp;simpa using this
  subst hp';refine⟨k3 _ _ (k2 _ _ hD1),hDn,?_,nofs _ (qA6 _),fun v z=>by cases z⟩;show s.heap.objs.size≠s.heap.objs.size+1
  lia
 ·show(σ++qA4 k none).length=N'.length
  rw[qB2,qDg,I.len,S.len]
 ·intro b hb;obtain⟨f0,f1,f2,f3,f4,f5⟩:=hf b hb;refine⟨f0,(ok.exf b hb).1,fin b hb,.inl hb,fun x c e=>(ok.exf b hb).2 x c e,fun p hp=>?_⟩;have hp':p=(s.heap.objs.size,{ cls:=.type "list",data:=.seq #[] 0 }):=by
   have:p∈([]++[(s.heap.objs.size,({ cls:=.type "list",data:=.seq #[] 0 }:Obj))]:List (Addr×Obj)):=hp;simpa using this
  subst hp';exact qBm (fpl b hb)
end
theorem zDN{prog:qIy}{w:World}{A:qJ2}{R:qLr->qIv->Prop}{s:qIv}{elt target iter:Expr}{ifs:List Expr}{scope:Scope}{pos:Pos}{it acc:Value}{env:Env}(I:Nat->qIv->Prop)
  (turn:∀n s,I n s->wpAny (model prog w) A (pyNext it) (fun r s₁=>match r with
   |none=>R (.ok .next) s₁
   |some v=>wpAny (model prog w) A (letOwnedTupleGo target it v) (fun _ s₂'=>wpAny (model prog w) A (assign target env v) (fun _ s₂=>
     wpAny (model prog w) A (forIn ifs true fun c r=>if r=true then do let ok <- isTrue c env (eval c env);pure (qCp ok)else pure (qCp r)) (fun ok s₃=>
      if ok=true then wpAny (model prog w) A (eval elt env) (fun x s₄=>
       wpAny (model prog w) A (call (.builtin "list.append") [acc,x]) (fun _ s₅=>∃m,m<n/\I m s₅) (fun _ _=>False) s₄) (fun _ _=>False) s₃
      else ∃m,m<n/\I m s₃) (fun _ _=>False) s₂) (fun _ _=>False) s₂') (fun _ _=>False) s₁) (fun _ _=>False) s)
  (n:Nat) (h:I n s) :
  qKf (model prog w) A (.compLoop (.ListComp elt [⟨target,iter,ifs,0⟩] scope pos) 0 it acc env) R s:=by
 refine codeAny_loop rfl I (fun n s hI=>?_) n h;show wpAny _ A ((compTurn (.ListComp elt [⟨target,iter,ifs,0⟩] scope pos) 0 it acc env).onRaise (fun x=>do noteFrame x env;theTreesLotGoes x)) _ _ s;refine wpAny_noted ?_;rw[compTurn_list];refine wpAny_bind (wpAny_standAt (wpAny_bind (wpAny_mono (turn n s hI) (fun r s₁ h₁=>?_) fun _ _ z=>z.elim)));cases r with
 |none=>exact wpAny_pure h₁
 |some v=>
  refine wpAny_bind (wpAny_mono h₁ (fun _ s₂' h₂'=>?_) fun _ _ z=>z.elim);refine wpAny_bind (wpAny_mono h₂' (fun _ s₂ h₂=>wpAny_bind (wpAny_mono h₂ (fun ok s₃ h₃=>?_) fun _ _ z=>z.elim)) fun _ _ z=>z.elim);cases ok with
  |false=>exact wpAny_pure ⟨rfl,h₃⟩
  |true=>
   exact wpAny_bind (wpAny_bind (wpAny_mono h₃ (fun x s₄ h₄=>wpAny_bind (wpAny_mono h₄ (fun _ s₅ h₅=>wpAny_pure (wpAny_pure ⟨rfl,h₅⟩)) fun _ _ z=>z.elim)) fun _ _ z=>z.elim))
def zTU(k:Nat)(g:TG)(tif:TT)(te:TE)(σ:St)(Q:VK)(J:It)(H1:Hp):Prop:=∃W:Nat->Nat->List V->Hp->Prop,(∃m,W 0 m [] H1)/\∀i m acc H,W i m acc H ->
 (J.stop i H/\∀D,H D=none->Q (.ref D) (upd H D (.lst acc))) \/
 (J.go i H/\acc.length<sizeLine/\∃N:List V->Hp->Prop,(∀acc' H',N acc' H'->∃m',m'<m/\W (i+1) m' acc' H')/\∀x H',J.yld i H x H'->g x (σ++qA4 k none) H' fun σ2 H2=>∃own:St,own.length=k/\σ2=σ++own/\tif σ2 H2 fun b H3=>if b=true then te σ2 H3 fun v H4=>N (acc++[v]) H4 else N acc H3)
noncomputable def zUY(wi:TI)(k:Nat)(g:TG)(tif:TT)(te:TE):TE:=fun σ H Q=>wi σ H (zTU k g tif te σ Q)
theorem HOk.track{P:qIy}{w:World}{H:Hp}{h:Heap}{a:Addr}{o:HO}(x:HOk P w H h)(hn:H a=none)(new:ObjOk P w (upd H a o) h a o):HOk P w (upd H a o) h:=fun b u e=>by
 by_cases hb:b=a
 ·subst hb;rw[zAG]at e;cases e;exact new
 ·rw[zAE hb]at e;exact(x b u e).stay (fun c v _ q=>q) (fun c q=>by rw[zAE (zAH q hn)];exact q) (fun c xs q=>by rw[zAE (zAH q hn)];exact q) fun c _ _ q _=>by rw[zAE (zAH q hn)];exact q
section
variable{X:Cx}{N':List Str}{k:Nat}{sc:Scope}{tg iter elt:Expr}{ifs:List Expr}{wi:TI}{g:TG}{tif:TT}{te:TE}{pos:Pos}
theorem zH7{pins:List (Addr×Obj)}{σ:St}{H2:Hp}{s2:qIv}{Q:VK}{RR:Value->Addr->qLr->qIv->Prop}{E:Value->qIv->Prop}(hc:X.calm=true)(S:CompNames X.N N' k sc X.env)
  (hg:∀C s H fp,PG (zCR X N' sc C s H fp) tg g) (hif:∀C s H fp,PTs (zCR X N' sc C s H fp) ifs tif) (he:∀C s H fp,PE (zCR X N' sc C s H fp) elt te)
  {it:Addr} {fp:List Addr} {tn:Nat->Heap->Prop} {J:It} (I2:Inv X pins σ H2 s2) (T:Turn X.prog X.w X.K tg J fp it tn) (st2:tn 0 s2.heap) (f2:∀b∈fp,FpOk X pins H2 b)
  {W:Nat->Nat->List V->Hp->Prop} {m0:Nat} (w0:W 0 m0 [] H2)
  (turn:∀i m acc H,W i m acc H->(J.stop i H/\∀D,H D=none->Q (.ref D) (upd H D (.lst acc))) \/
   (J.go i H/\acc.length<sizeLine/\∃N:List V->Hp->Prop,(∀acc' H',N acc' H'->∃m',m'<m/\W (i+1) m' acc' H')/\∀x H',J.yld i H x H'->g x (σ++qA4 k none) H' fun σ2 H2=>∃own:St,own.length=k/\σ2=σ++own/\tif σ2 H2 fun b H3=>if b=true then te σ2 H3 fun v H4=>N (acc++[v]) H4 else N acc H3))
  (hRR:∀D C s' H',D<C->s2.heap.objs.size<=D->(∃m,s'.heap.Ns C m)->H' C=none->C∉frs X.stack->Inv X pins σ H' s'->Q (.ref D) H'->RR (.ref D) C (.ok .next) s') :
  wpAny (model X.prog X.w) X.A (newList []) (fun acc s₃=>wpAny (model X.prog X.w) X.A (newFunctionEnv sc X.env.globals (clos X.env.cells sc.names []) [] X.env.qual none .none (some X.env)) (fun cenv s₄=>
   qKf (model X.prog X.w) X.A (.compStart (.ListComp elt [⟨tg,iter,ifs,0⟩] sc pos) 0 (.ref it) acc { cenv with scope:=relabel sc X.env }) (RR acc cenv.locals) s₄) E s₃) E s2:=by
 refine wpAny_newObj_type (zE9 ?_);show qKf _ _ (.compStart _ 0 (.ref it) (.ref s2.heap.objs.size) _) _ _;have szp:(s2.heap.push { cls:=.type "list",dict:=none,data:=.seq ([]:List Value).toArray }).objs.size=s2.heap.objs.size+1:=qJt ..;obtain⟨I4,F4⟩:=zSS (s4:={ s2 with heap:=pushCells ((s2.heap.push { cls:=.type "list",data:=.seq #[] 0 }).push { cls:=.type "dict",data:=.dict #[] }) sc.names }) I2 hc S f2 (fun b hb=>let⟨o,e,_⟩:=T.obj 0 _ st2 b hb;⟨o,e⟩) rfl rfl rfl
 generalize hC:(s2.heap.push { cls:=.type "list",dict:=none,data:=.seq ([]:List Value).toArray }).objs.size=C at *;have eC:C=s2.heap.objs.size+1:=szp;rw[<- eC]at I4 F4;generalize hs4:({ s2 with heap:=pushCells ((s2.heap.push { cls:=.type "list",data:=.seq #[] 0 }).push { cls:=.type "dict",data:=.dict #[] }) sc.names }:qIv)=s4 at I4 F4
 have kk:∀b o,s2.heap.get? b=some o->s4.heap.get? b=some o:=fun b o e=>by
  rw[<- hs4];exact pushCells_keeps sc.names _ b o (qIu _ (qIu _ e))
 have st4:tn 0 s4.heap:=T.keep 0 _ _ st2 fun b _ o e=>kk b o e
 generalize hX':zCR X N' sc C s2 H2 fp=X' at I4 F4;have henv:X'.env=zDL sc C X.env:=by rw[<- hX'];rfl
 have xprog:X'.prog=X.prog:=by rw[<- hX'];rfl
 have xw:X'.w=X.w:=by rw[<- hX'];rfl
 have xK:X'.K=X.K:=by rw[<- hX'];rfl
 have xcalm:X'.calm=true:=by rw[<- hX'];exact hc
 have xA:X'.A=X.A:=by rw[<- hX'];rfl
 have xpn:X'.pn=[]:=by rw[<- hX'];rfl
 have xxe:X'.xe=fun _ _=>False:=by rw[<- hX'];rfl
 have xs0:X'.s₀=s2:=by rw[<- hX'];rfl
 have xH0:X'.H₀=H2:=by rw[<- hX'];rfl
 have xfs:X'.fs=frs X.stack:=by rw[<- hX'];rfl
 have xex:X'.ex=fp:=by rw[<- hX'];rfl
 have hgX:PG X' tg g:=by rw[<- hX'];exact hg C s2 H2 fp
 have hifX:PTs X' ifs tif:=by rw[<- hX'];exact hif C s2 H2 fp
 have heX:PE X' elt te:=by rw[<- hX'];exact he C s2 H2 fp
 have locC:X'.env.locals=C:=by rw[henv];rfl
 generalize hDd:s2.heap.objs.size=D at *;have loop:qKf (model X.prog X.w) X.A (.compLoop (.ListComp elt [⟨tg,iter,ifs,0⟩] sc pos) 0 (.ref it) (.ref D) (zDL sc C X.env)) (RR (.ref D) C) s4:=by
  refine zDN (fun n s'=>∃i H' acc its nn,Inv X' [] (σ++qA4 k none) H' s'/\tn i s'.heap/\(∀b∈fp,H' b=none)/\H' D=none/\W i n acc H'/\acc.length<=sizeLine/\Vals acc its/\s'.heap.get? D=some { cls:=.type "list",data:=.seq its.toArray nn }) ?_ m0 ?_
  ·rintro n s5 ⟨i,H5,acc,its,nn,I5,st5,fr5,hD5,w5,hz5,rv5,hL5⟩
   have hDlt:D<C:=by rw[eC];exact qGe _
   have pinD:Inv X' [(D,{ cls:=.type "list",data:=.seq its.toArray nn })] (σ++qA4 k none) H5 s5:=I5.pins_of fun p hp=>by
    have hp':p=(D,{ cls:=.type "list",data:=.seq its.toArray nn }):=by simpa using hp
    subst hp';refine⟨hL5,hD5,?_,?_,fun v z=>by cases z⟩
    ·rw[locC];exact qAq hDlt
    ·have q:=(I4.pin (D,{ cls:=.type "list",data:=.seq #[] 0 }) (by simp)).2.2.2.1;exact q
   have fpD:∀{H':Hp}{oo:Obj},(∀b∈fp,H' b=none)->∀b∈fp,FpOk X' [(D,oo)] H' b:=fun{H' oo} hn b hb=>by
    obtain⟨f0,f1,f2,f3,f4,f5⟩:=F4 b hb;refine⟨hn b hb,f1,f2,f3,f4,fun p hp=>?_⟩;have hp':p=(D,oo):=by
     rw[xpn]at hp;simpa using hp
    subst hp';exact f5 (D,{ cls:=.type "list",data:=.seq #[] 0 }) (by simp)
   rcases turn i n acc H5 w5 with⟨stop,q⟩|⟨go,hlt,N,hN,step⟩
   ·have dn:=T.done X' xprog xw xK xcalm i _ s5 _ H5 (fun _ _=>False) pinD (fpD fr5) st5 stop;rw[xA]at dn;refine thn dn fun r s6 z0=>?_
    obtain⟨hr,I6⟩:=z0;subst hr;show RR (.ref D) C (.ok .next) s6;have hL6:=(I6.pin (D,{ cls:=.type "list",data:=.seq its.toArray nn }) (by simp)).1;have un6:Un (frs X.stack) fp H2 H5 s2.heap s6.heap:=by
     have:=I6.base;rw[xs0,xH0,xfs,xex]at this;exact this
    have hok6:HOk X.prog X.w H5 s6.heap:=by
     have:=I6.hok;rw[xprog,xw]at this;exact this
    have hDno:s2.heap.get? D=none:=qK2 (by rw[hDd];exact qA6 _);have un7:Un (frs X.stack) fp H2 (upd H5 D (.lst acc)) s2.heap s6.heap:=
     ⟨un6.keep,un6.slot,fun b o e n hx=>by
       have hb:b≠D:=by rintro rfl;rw[hDno]at e;cases e
       rw[zAE hb];exact un6.free b o e n hx,un6.there,
      fun b xs e=>by
       have e':=un6.tups b xs e;rw[zAE (zAH e' hD5)];exact e',
      fun b o u e=>by
       have e':=un6.frzs b o u e;rw[zAE (zAH e' hD5)];exact e',
      fun b ps e=>by
       obtain⟨more,e'⟩:=un6.tbls b ps e;exact⟨more,by rw[zAE (zAH e' hD5)];exact e'⟩⟩
    have hok7:HOk X.prog X.w (upd H5 D (.lst acc)) s6.heap:=hok6.track hD5 ⟨hz5,its,nn,rv5,hL6⟩;have os6:s6.os=s2.os:=by have:=I6.os;rw[xs0]at this;exact this
    have I7:Inv X pins σ (upd H5 D (.lst acc)) s6:=I2.call' os6 un7 hok7 I6.bare fun b hb=>by
     obtain⟨f0,f1,f2,f3,f4,f5⟩:=f2 b hb;exact⟨f3,f1,f4,f5⟩
    obtain⟨mm,hn,_⟩:=I6.loc;rw[locC]at hn;have hC5:H5 C=none:=by have:=I6.free;rw[locC]at this;exact this
    refine hRR D C s6 (upd H5 D (.lst acc)) hDlt (qA6 _) ⟨mm,hn⟩ ?_ ?_ I7 (q D hD5)
    ·rw[zAE (qBm hDlt)];exact hC5
    ·intro hb
     rcases qAf.mp (I2.stkSub C hb)with e|hb
     ·have t1:=asN I2.lt;have t2:=asE e;rw[hDd]at t1;have t3:=asN hDlt
      lia
     ·exact I2.nofs (by rw[hDd];exact qCm hDlt) hb
   ·have itm:=T.item X' xprog xw xK xcalm i _ s5 _ H5 (fun _ _=>False) pinD (fpD fr5) st5 go;rw[xA]at itm;refine thn itm fun r s6 z0=>?_
    obtain⟨u,hr,h6⟩:=z0;subst hr;refine thn h6 fun _ s7 z0=>?_
    obtain⟨x,H7,I7,r7,y7,st7,fr7⟩:=z0;have I7':Inv X' ([(D,{ cls:=.type "list",data:=.seq its.toArray nn })]++zGY fp s7.heap) (σ++qA4 k none) H7 s7:=I7.pinned (fpD fr7) (T.obj _ _ st7);have asg:=hgX _ s7 _ H7 x u _ I7' r7 (step x H7 y7);rw[xprog,xw,xA,henv,xxe]at asg;refine thn asg fun _ s8 z0=>?_
    obtain⟨σ8,H8,I8,own,hown,hσ8,q8⟩:=z0;have weak:∀{pl:List (Addr×Obj)}{H':Hp}{s':qIv},Inv X' pl σ8 H' s'->Inv X' [] (σ++qA4 k none) H' s':=fun{pl H' s'} J'=>by
     have J0:Inv X' [] σ8 H' s':=J'.pins_of (fun p hp=>by simp at hp);refine J0.weak (by rw[hσ8];simp[hown]) fun j v hj=>?_
     rw[hσ8];by_cases hjl:j<σ.length
     ·rw[qA9 hjl]at hj ⊢;exact hj
     ·rw[qAd (by lia),qBj]at hj
      split at hj<;>cases hj
    have tst:=hifX _ s8 σ8 H8 _ I8 q8;rw[xprog,xw,xA,henv,xxe]at tst;refine thn tst fun b s9 z0=>?_
    obtain⟨H9,I9,q9⟩:=z0;have pin9:∀{σ':St}{H':Hp}{s':qIv},Inv X' ([(D,{ cls:=.type "list",data:=.seq its.toArray nn })]++zGY fp s7.heap) σ' H' s' ->
      s'.heap.get? D=some { cls:=.type "list",data:=.seq its.toArray nn }/\H' D=none/\tn (i+1) s'.heap/\(∀b∈fp,H' b=none):=fun{σ' H' s'} J'=>by
     have a1:=J'.pin (D,{ cls:=.type "list",data:=.seq its.toArray nn }) (by simp);refine⟨a1.1,a1.2.1,T.keep _ _ _ st7 fun b hb o e=>(J'.pin (b,o) (qAp _ (qAp _ (zDK hb e)))).1,fun b hb=>?_⟩;obtain⟨o,e,d⟩:=T.obj _ _ st7 b hb;exact(J'.pin (b,o) (qAp _ (qAp _ (zDK hb e)))).2.1
    cases b with
    |false=>
     rw[if_neg qAe];rw[if_neg qAe]at q9;obtain⟨m',hm,w9⟩:=hN _ _ q9;obtain⟨p1,p2,p3,p4⟩:=pin9 I9;exact⟨m',hm,i+1,H9,acc,its,nn,weak I9,p3,p4,p2,w9,hz5,rv5,p1⟩
    |true=>
     rw[if_pos rfl];rw[if_pos rfl]at q9;have ev:=heX _ s9 σ8 H9 _ I9 q9;rw[xprog,xw,xA,henv,xxe]at ev;refine thn ev fun y s10 z0=>?_
     obtain⟨v,H10,I10,r10,n10⟩:=z0;obtain⟨m',hm,w10⟩:=hN _ _ n10;obtain⟨p1,p2,p3,p4⟩:=pin9 I10;have hlen:its.length=acc.length:=rv5.length.symm;refine wpAny_list_append_plain (items:=its.toArray) ⟨nn,p1⟩ (fun h' hl' hs'=>?_) (by simp only[qAh];lia);have hDfp:D∉fp:=fun hb=>(F4 D hb).2.2.2.2.2 (D,{ cls:=.type "list",data:=.seq #[] 0 }) (by simp) rfl
     have I11:Inv X' [] (σ++qA4 k none) H10 { s10 with heap:=h' }:=by
      have J0:Inv X' [] (σ++qA4 k none) H10 s10:=weak I10;refine J0.turned (t':=s10.toks) (it:=D) (fun b o hb e=>(hs'.2 b hb).trans e) p2 ?_ (.inr ?_) (fun x c e z=>?_) (fun p hp=>?_)
      ·rw[locC];exact qAq hDlt
      ·rw[xs0,hDd];exact qA6 _
      ·obtain⟨v',q⟩:=J0.cell x c e;obtain⟨o,ho,hd⟩:=q;rw[z,p1]at ho;cases ho;cases hd
      ·rw[xpn]at hp;simp at hp
     obtain⟨n',hk⟩:=hl';have hk':h'.get? D=some { cls:=.type "list",data:=.seq (its++[y]).toArray n' }:=by rw[hk];simp
     refine⟨m',hm,i+1,H10,acc++[v],its++[y],n',I11,T.keep _ _ _ p3 fun b hb o e=>(hs'.2 b (fun z=>hDfp (z▸hb))).trans e,p4,p2,w10,?_,rv5.append (.cons r10 .nil),hk'⟩;rw[qB2,qEz]
     lia
  ·refine⟨0,H2,[],[],0,I4.pins_of (fun p hp=>by simp at hp),st4,fun b hb=>(f2 b hb).1,I2.hok.fresh (by rw[hDd];exact qA6 _),w0,qAu _,.nil,?_⟩;exact(I4.pin (D,{ cls:=.type "list",data:=.seq #[] 0 }) (by simp)).1
 exact codeAny_compStart_list loop (T.self _ 0 _ _ _ st4 loop)
theorem zHT(hc:X.calm=true)(S:CompNames X.N N' k sc X.env)(hi:PI X tg iter wi)
  (hg:∀C s H fp,PG (zCR X N' sc C s H fp) tg g) (hif:∀C s H fp,PTs (zCR X N' sc C s H fp) ifs tif) (he:∀C s H fp,PE (zCR X N' sc C s H fp) elt te)
  (hs:∀x,qKe iter X.env x=pure x:=by intro _;rfl):PE X (.ListComp elt [⟨tg,iter,ifs,0⟩] sc pos) (zUY wi k g tif te):=by
 intro pins s σ H Q I h;rw[eval_ListComp];have hfree:∀x,(x,qJ5)∈sc.names->∃c,X.env.cells.lookup x=some c:=fun x hx=>I.ok.has x (S.free x hx)
 refine wpAny_comprehension_free (use:=none) rfl hs (zES hfree) S.kind (fun x hx hl=>?_) ?_
 ·obtain⟨n,kd⟩:=x;dsimp only at hl ⊢;subst hl;exact zBX S.nd hx
 ·refine thn (hi pins s σ H _ I h) fun v s1 h1=>thn h1 fun itv s2 h2=>?_
  obtain⟨it,fp,tn,J,H2,e,I2,T,st2,f2,W,⟨m0,w0⟩,turn⟩:=h2;subst e;refine zH7 (RR:=fun acc C=>compPost (model X.prog X.w) X.A X.xe none (EP X pins σ Q) acc C) hc S hg hif he I2 T st2 f2 w0 turn ?_;intro D C s' H' hDC hD hn hCn hCf I' q;obtain⟨m,hn⟩:=hn;refine⟨m,hn,fun h' hs'=>⟨.ref D,H',?_,rfl,q⟩⟩;have hCb:s2.heap.objs.size<=C:=qCm (qE3 hD hDC);refine I'.turned (t':=s'.toks) (it:=C) (fun b o hb e=>(hs'.2 b hb).trans e) hCn ?_ (.inr (qAs I2.sz hCb)) (fun x c e z=>?_) (fun p hp z=>?_)
  ·exact qBm (qAg I2.lt hCb)
  ·obtain⟨v,q⟩:=I2.cell x c e;exact absurd z (qAq (qAg q.lt hCb))
  ·exact absurd z (qAq (qAg (qIx (I2.pin p hp).1) hCb))
theorem zGX{i:Nat}{x:Str}{pos' spos:Pos}(hN:X.N.Nodup)(hi':X.N[i]?=some x)(hx:Loc X.env.scope x)(hc:X.calm=true)(S:CompNames X.N N' k sc X.env)(hi:PI X tg iter wi)
  (hg:∀C s H fp,PG (zCR X N' sc C s H fp) tg g) (hif:∀C s H fp,PTs (zCR X N' sc C s H fp) ifs tif) (he:∀C s H fp,PE (zCR X N' sc C s H fp) elt te)
  (hsw:qM4 (.ListComp elt [⟨tg,iter,ifs,0⟩] sc pos) (some (.Name x pos')) spos.line X.env=pure true:=by rfl)
  (hs:∀x,qKe iter X.env x=pure x:=by intro _;rfl) (hf:X.fn x=true\/X.env.scope.names.lookup x=some .local:=by first|exact .inl rfl|exact .inr rfl|assumption) :
  PS X (.Assign [.Name x pos'] (.ListComp elt [⟨tg,iter,ifs,0⟩] sc pos) spos) (tAsg (zUY wi k g tif te) (zEN i)):=by
 intro pins s σ H Dn I h;rw[exec_Assign_Name_used _ _ _ _ hsw];refine wpAny_bind (wpAny_standAt (wpAny_bind ?_));show wpAny _ X.A (do let _ <- comprehension (.ListComp elt [⟨tg,iter,ifs,0⟩] sc pos) sc X.env _ (newList []) false (eval iter X.env) (some (assign (.Name x pos') X.env))) _ _ s;have hfree:∀x,(x,qJ5)∈sc.names->∃c,X.env.cells.lookup x=some c:=fun x hx=>I.ok.has x (S.free x hx)
 refine wpAny_bind (wpAny_mono (wpAny_comprehension_free (use:=some (assign (.Name x pos') X.env)) (Q:=fun _ s'=>SP X pins Dn .next s') rfl hs (zES hfree) S.kind (fun x hx hl=>?_) ?_)
  (fun _ s' hq=>wpAny_pure (wpAny_pure hq)) fun _ _ e=>e)
 ·obtain⟨n,kd⟩:=x;dsimp only at hl ⊢;subst hl;exact zBX S.nd hx
 ·refine thn (hi pins s σ H _ I h) fun v s1 h1=>thn h1 fun itv s2 h2=>?_
  obtain⟨it,fp,tn,J,H2,e,I2,T,st2,f2,W,⟨m0,w0⟩,turn⟩:=h2;subst e;refine zH7 (Q:=fun v H'=>zEN i v σ H' Dn.nx) (RR:=fun acc C=>compPost (model X.prog X.w) X.A X.xe (some (assign (.Name x pos') X.env)) (fun _ s'=>SP X pins Dn .next s') acc C) hc S hg hif he I2 T st2 f2 w0 turn ?_;intro D C s' H' hDC hD hn hCn hCf I' q;obtain⟨m,hn⟩:=hn;show wpAny _ _ (assign (.Name x pos') X.env (.ref D)) _ _ _;have hCb:s2.heap.objs.size<=C:=qCm (qE3 hD hDC);have hCL:C≠X.env.locals:=qBm (qAg I2.lt hCb);have hCc:∀x c,X.env.cells.lookup x=some c->c≠C:=fun x c e z=>by
   obtain⟨v,q⟩:=I2.cell x c e;exact absurd z (qAq (qAg q.lt hCb))
  refine qMa (zIV (v:=.ref D) I' hN hi' hx rfl (fun s'' I'' ⟨a,sb,ha⟩=>?_) hf);have hCa:C≠a:=by
   rcases ha with e|e
   ·rw[e];exact hCL
   ·exact fun z=>hCc x a e z.symm
  refine⟨m,hn.sameBut sb hCa,fun h' hs'=>⟨_,H',?_,q⟩⟩;refine I''.turned (t':=s''.toks) (it:=C) (fun b o hb e=>(hs'.2 b hb).trans e) hCn hCL (.inr (qAs I2.sz hCb)) hCc (fun p hp z=>?_);exact absurd z (qAq (qAg (qIx (I2.pin p hp).1) hCb))
def zRD(g:TG)(tb:TS)(D:Ends)(σ:St)(J:It)(H1:Hp):Prop:=∃W:Nat->Nat->St->Hp->Prop,(∃m,W 0 m σ H1)/\∀i m σ H,W i m σ H ->
 (J.stop i H/\D.nx σ H)\/(J.go i H/\∃N:St->Hp->Prop,(∀σ' H',N σ' H'->∃m',m'<m/\W (i+1) m' σ' H')/\∀x H',J.yld i H x H'->g x σ H' fun σ2 H2=>tb { D with nx:=N,ct:=N,bk:=D.nx } σ2 H2)
theorem zBV{body:List Stmt}{tb:TS}(hp:PassesOwn (model X.prog X.w) X.A X.env X.xe)(hc:X.calm=true)(hi:PI X tg iter wi)(hg:PG X tg g)(hb:PSs X body tb)
  (hs:∀x,qKe iter X.env x=pure x:=by intro _;rfl):PS X (.For tg iter body [] pos) (fun D σ H=>wi σ H (zRD g tb D σ)):=zY9 hp hc hi hg hb hs
end
inductive Dat where
 |non|bl (b:Bool)|int (i:Int)|str (x:Str)|lst (xs:List Dat)|tup (xs:List Dat)
mutual
def Dat.dep:Dat->Nat
 |.lst xs=>Dat.depL xs+1
 |.tup xs=>Dat.depL xs+1
 |_=>0
def Dat.depL:List Dat->Nat
 |[]=>0
 |x::r=>max x.dep (Dat.depL r)
end
mutual
def Dat.eq:Dat->Dat->Bool
 |.non,.non=>true
 |.bl a,.bl b=>a==b
 |.bl a,.int b=>(if a then 1 else 0)==b
 |.int a,.bl b=>a==(if b then 1 else 0)
 |.int a,.int b=>a==b
 |.str a,.str b=>a==b
 |.lst xs,.lst ys=>Dat.eqL xs ys
 |.tup xs,.tup ys=>Dat.eqL xs ys
 |_,_=>false
def Dat.eqL:List Dat->List Dat->Bool
 |[],[]=>true
 |x::r,y::q=>Dat.eq x y&&Dat.eqL r q
 |_,_=>false
end
mutual
def Rep(H:Hp):Dat->V->Prop
 |.non,v=>v=.non
 |.bl b,v=>v=.bl b
 |.int i,v=>v=.int i
 |.str x,v=>v=.str x
 |.lst ds,v=>∃a xs,v=.ref a/\H a=some (.lst xs)/\RepL H ds xs
 |.tup ds,v=>∃a xs,v=.ref a/\H a=some (.tup xs)/\RepL H ds xs
def RepL(H:Hp):List Dat->List V->Prop
 |[],xs=>xs=[]
 |d::r,xs=>∃x q,xs=x::q/\Rep H d x/\RepL H r q
end
mutual
theorem Rep.mono{H H':Hp}(s:Same H H'):∀{d:Dat}{v:V},Rep H d v->Rep H' d v
 |.non,_,h=>h
 |.bl _,_,h=>h
 |.int _,_,h=>h
 |.str _,_,h=>h
 |.lst _,_,h=>by obtain⟨a,xs,e,e',r⟩:=h;exact⟨a,xs,e,s _ _ e',RepL.mono s r⟩
 |.tup _,_,h=>by obtain⟨a,xs,e,e',r⟩:=h;exact⟨a,xs,e,s _ _ e',RepL.mono s r⟩
theorem RepL.mono{H H':Hp}(s:Same H H'):∀{ds:List Dat}{xs:List V},RepL H ds xs->RepL H' ds xs
 |[],_,h=>h
 |_::_,_,h=>by obtain⟨x,q,e,r,t⟩:=h;exact⟨x,q,e,Rep.mono s r,RepL.mono s t⟩
end
mutual
theorem Rep.inj{H:Hp}:∀{d e:Dat}{v:V},Rep H d v->Rep H e v->d=e
 |.non,e,v,h,h'=>by cases h;cases e<;>first|rfl|(cases h';done)|(obtain⟨a,xs,z,_⟩:=h';cases z)
 |.bl b,e,v,h,h'=>by cases h;cases e<;>first|(cases h';rfl)|(cases h';done)|(obtain⟨a,xs,z,_⟩:=h';cases z)
 |.int b,e,v,h,h'=>by cases h;cases e<;>first|(cases h';rfl)|(cases h';done)|(obtain⟨a,xs,z,_⟩:=h';cases z)
 |.str b,e,v,h,h'=>by cases h;cases e<;>first|(cases h';rfl)|(cases h';done)|(obtain⟨a,xs,z,_⟩:=h';cases z)
 |.lst ds,e,v,h,h'=>by
  obtain⟨a,xs,rfl,ha,q⟩:=h;cases e with
  |lst es=>
   obtain⟨b,ys,z,hb,q'⟩:=h';cases z;rw[ha]at hb;cases hb;rw[RepL.inj q q']
  |tup es=>
   obtain⟨b,ys,z,hb,q'⟩:=h';cases z;rw[ha]at hb;cases hb
  |_=>cases h'
 |.tup ds,e,v,h,h'=>by
  obtain⟨a,xs,rfl,ha,q⟩:=h;cases e with
  |tup es=>
   obtain⟨b,ys,z,hb,q'⟩:=h';cases z;rw[ha]at hb;cases hb;rw[RepL.inj q q']
  |lst es=>
   obtain⟨b,ys,z,hb,q'⟩:=h';cases z;rw[ha]at hb;cases hb
  |_=>cases h'
theorem RepL.inj{H:Hp}:∀{ds es:List Dat}{xs:List V},RepL H ds xs->RepL H es xs->ds=es
 |[],[],_,_,_=>rfl
 |[],_::_,_,h,h'=>by cases h;obtain⟨x,q,e,_⟩:=h';cases e
 |_::_,[],_,h,h'=>by cases h';obtain⟨x,q,e,_⟩:=h;cases e
 |d::r,e::t,_,h,h'=>by
  obtain⟨x,q,rfl,r1,t1⟩:=h;obtain⟨x',q',z,r2,t2⟩:=h';cases z;rw[Rep.inj r1 r2,RepL.inj t1 t2]
end
mutual
theorem Dat.eq_refl:∀d:Dat,Dat.eq d d=true
 |.non=>by simp[Dat.eq]
 |.bl _=>by simp[Dat.eq]
 |.int _=>by simp[Dat.eq]
 |.str _=>by simp[Dat.eq]
 |.lst xs=>by rw[Dat.eq];exact Dat.eqL_refl xs
 |.tup xs=>by rw[Dat.eq];exact Dat.eqL_refl xs
theorem Dat.eqL_refl:∀ds:List Dat,Dat.eqL ds ds=true
 |[]=>by simp[Dat.eqL]
 |d::r=>by rw[Dat.eqL,Dat.eq_refl d,Dat.eqL_refl r];rfl
end
theorem RepL.length{H:Hp}:∀{ds:List Dat}{xs:List V},RepL H ds xs->xs.length=ds.length
 |[],_,h=>by cases h;rfl
 |_::_,_,h=>by obtain⟨x,q,e,r,t⟩:=h;subst e;simp[RepL.length t]
theorem Dat.eqL_len:∀{xs ys:List Dat},xs.length≠ys.length->Dat.eqL xs ys=false
 |[],[],h=>absurd rfl h
 |[],_::_,_=>by simp[Dat.eqL]
 |_::_,[],_=>by simp[Dat.eqL]
 |x::r,y::q,h=>by
  rw[Dat.eqL,Dat.eqL_len (fun e=>h (by simp[e])),qDf]
theorem Dat.eqL_all:∀{xs ys:List Dat},xs.length=ys.length->∀(e:Nat->Bool),(∀j (h1:j<xs.length) (h2:j<ys.length),e j=Dat.eq xs[j] ys[j])->(qA7 xs.length).all e=Dat.eqL xs ys
 |[],[],_,_,_=>by simp[Dat.eqL]
 |[],_::_,h,_,_=>by simp at h
 |_::_,[],h,_,_=>by simp at h
 |x::r,y::q,h,e,he=>by
  have hl:r.length=q.length:=by simpa using h
  rw[qAr,List.range_succ_eq_map,qHz,Dat.eqL,he 0 (by simp) (by simp)]
  have:=Dat.eqL_all (xs:=r) (ys:=q) hl (fun j=>e (j+1)) (fun j h1 h2=>by
   rw[he (j+1) (by simpa using h1) (by simpa using h2)];simp)
  rw[<- this,List.all_map];rfl
theorem RepL.get{H:Hp}:∀{ds:List Dat}{xs:List V}{i:Nat}{x:V},RepL H ds xs->xs[i]?=some x->∃d,ds[i]?=some d/\Rep H d x
 |[],_,_,_,h,e=>by cases h;simp at e
 |d::_,_,0,_,h,e=>by obtain⟨x,q,e1,r,t⟩:=h;subst e1;simp at e;subst e;exact⟨d,rfl,r⟩
 |_::_,_,i+1,_,h,e=>by
  obtain⟨x,q,e1,r,t⟩:=h;subst e1;obtain⟨d',h1,h2⟩:=RepL.get (i:=i) t (by simpa using e);exact⟨d',by simpa using h1,h2⟩
theorem Dat.depL_mem{d:Dat}:∀{ds:List Dat},d∈ds->d.dep<=Dat.depL ds
 |_::_,h=>by
  rw[Dat.depL];rcases qAf.mp h with rfl|h
  ·exact Nat.le_max_left _ _
  ·exact qAs (Dat.depL_mem h) (Nat.le_max_right _ _)
section
variable{P:qIy}{w:World}{H:Hp}
theorem zDB(A:qJ2):A.in1.units=A.units+1:=rfl
theorem zAZ{s:qIv}{a:Addr}{xs:List V}(ok:HOk P w H s.heap)(h:H a=some (.lst xs)):∃its:List Value,Vals xs its/\s.heap.IsList a its.toArray:=by
 obtain⟨_,its,n,r,e⟩:=ok a _ h;exact⟨its,r,⟨_,e,rfl,n,rfl⟩⟩
theorem zB9{s:qIv}{a:Addr}{xs:List V}(ok:HOk P w H s.heap)(h:H a=some (.tup xs)):∃its:List Value,Vals xs its/\s.heap.IsTuple a its.toArray:=by
 obtain⟨_,its,r,e⟩:=ok a _ h;exact⟨its,r,e⟩
theorem Rep.flat{d:Dat}{v:V}(h:Rep H d v)(hf:d.dep=0):zWJ v=true:=by
 cases d with
 |non=>cases h;rfl
 |bl _=>cases h;rfl
 |int _=>cases h;rfl
 |str _=>cases h;rfl
 |lst _=>simp[Dat.dep]at hf
 |tup _=>simp[Dat.dep]at hf
theorem Rep.flatEq{d e:Dat}{v u:V}(h:Rep H d v)(h':Rep H e u)(hf:d.dep=0)(hf':e.dep=0):eqV v u=Dat.eq d e:=by
 cases d<;>cases e<;>first
  |(simp[Dat.dep]at hf;done)
  |(simp[Dat.dep]at hf';done)
  |(cases h;cases h';simp[eqV,Dat.eq];done)
theorem zT1:∀(n:Nat){d e:Dat}{v u:V}{x y:Value}{A:qJ2}{s:qIv},d.dep<=n->HOk P w H s.heap->Rep H d v->Rep H e u->RelV v x->RelV u y->A.units+n<cLine->qL3 A s x y (Dat.eq d e):=by
 intro n;induction n with
 |zero=>
  intro d e v u x y A s hd ok h1 h2 r1 r2 hu;have f1:=h1.flat (by lia)
  by_cases he:e.dep=0
  ·have f2:=h2.flat he
   have:=zZM (A:=A) (s:=s) r1 r2 f1 f2;rw[h1.flatEq h2 (by lia) he]at this;exact this
  ·have hu':A.units<cLine:=by lia
   cases e with
   |lst ys=>
    obtain⟨a,xs,rfl,ha,_⟩:=h2;obtain⟨its,_,hl⟩:=zAZ ok ha;cases r2;cases d with
    |non=>cases h1;cases r1;exact SeqAt.EqAt.none_list hl hu'
    |bl b=>cases h1;cases r1;exact SeqAt.EqAt.bool_list b hl hu'
    |int i=>cases h1;obtain⟨t,rfl⟩:=r1;exact SeqAt.EqAt.int_list i t hl hu'
    |str z=>cases h1;obtain⟨t,rfl⟩:=r1;exact SeqAt.EqAt.str_list z t hl hu'
    |lst _=>simp[Dat.dep]at hd
    |tup _=>simp[Dat.dep]at hd
   |tup ys=>
    obtain⟨a,xs,rfl,ha,_⟩:=h2;obtain⟨its,_,hl⟩:=zB9 ok ha;cases r2;cases d with
    |non=>cases h1;cases r1;exact SeqAt.EqAt.none_tuple hl hu'
    |bl b=>cases h1;cases r1;exact SeqAt.EqAt.bool_tuple b hl hu'
    |int i=>cases h1;obtain⟨t,rfl⟩:=r1;exact SeqAt.EqAt.int_tuple i t hl hu'
    |str z=>cases h1;obtain⟨t,rfl⟩:=r1;exact SeqAt.EqAt.str_tuple z t hl hu'
    |lst _=>simp[Dat.dep]at hd
    |tup _=>simp[Dat.dep]at hd
   |_=>simp[Dat.dep]at he
 |succ n ih=>
  intro d e v u x y A s hd ok h1 h2 r1 r2 hu;by_cases hd0:d.dep<=n
  ·exact ih hd0 ok h1 h2 r1 r2 (by lia)
  have hu':A.units<cLine:=by lia
  have pairs:∀{ds es:List Dat}{xs ys:List V}{its its2:List Value},Dat.depL ds<=n->RepL H ds xs->RepL H es ys->Vals xs its->Vals ys its2->∀j (h1:j<its.toArray.size) (h2:j<its2.toArray.size),
    qL3 A.in1 s its.toArray[j] its2.toArray[j] (Dat.eq (ds.getD j .non) (es.getD j .non)):=by
   intro ds es xs ys its its2 hdl q1 q2 v1 v2 j j1 j2;have l1:j<xs.length:=by have:=v1.length;simp at j1;lia
   have l2:j<ys.length:=by have:=v2.length;simp at j2;lia
   obtain⟨d',e1,p1⟩:=q1.get (i:=j) (x:=xs[j]) (by simp[l1]);obtain⟨e',e2,p2⟩:=q2.get (i:=j) (x:=ys[j]) (by simp[l2]);obtain⟨w1,g1,z1⟩:=v1.get (i:=j) (x:=xs[j]) (by simp[l1]);obtain⟨w2,g2,z2⟩:=v2.get (i:=j) (x:=ys[j]) (by simp[l2]);have k1:its.toArray[j]=w1:=by
    obtain⟨_,k⟩:=qA3.mp g1;simpa using k
   have k2:its2.toArray[j]=w2:=by
    obtain⟨_,k⟩:=qA3.mp g2;simpa using k
   rw[k1,k2,qA0,qA0,e1,e2];exact ih (qAs (Dat.depL_mem (qAw e1)) hdl) ok p1 p2 z1 z2 (by rw[zDB];lia)
  cases d with
  |lst ds=>
   have hdl:Dat.depL ds<=n:=by rw[Dat.dep]at hd;lia
   obtain⟨a,xs,rfl,ha,q1⟩:=h1;obtain⟨its,v1,hl1⟩:=zAZ ok ha;cases r1;cases e with
   |non=>cases h2;cases r2;exact SeqAt.EqAt.list_none hl1 hu'
   |bl b=>cases h2;cases r2;exact SeqAt.EqAt.list_bool b hl1 hu'
   |int i=>cases h2;obtain⟨t,rfl⟩:=r2;exact SeqAt.EqAt.list_int i t hl1 hu'
   |str z=>cases h2;obtain⟨t,rfl⟩:=r2;exact SeqAt.EqAt.list_str z t hl1 hu'
   |tup es=>
    obtain⟨b,ys,rfl,hb,q2⟩:=h2;obtain⟨its2,v2,hl2⟩:=zB9 ok hb;cases r2;exact qKc (zNI ha hb (fun z=>nomatch z)) (qLh hl1 hl2 hu')
   |lst es=>
    obtain⟨b,ys,rfl,hb,q2⟩:=h2;obtain⟨its2,v2,hl2⟩:=zAZ ok hb;cases r2;have len1:its.toArray.size=ds.length:=by have:=v1.length;have:=q1.length;simp;lia
    have len2:its2.toArray.size=es.length:=by have:=v2.length;have:=q2.length;simp;lia
    show qL3 A s (.ref a) (.ref b) (Dat.eqL ds es);by_cases hne:a=b
    ·
     subst hne;rw[ha]at hb;cases hb;have same:Dat.eqL ds es=true:=by
      rw[RepL.inj q1 q2];exact Dat.eqL_refl _
     rw[same];exact qKs _
    ·refine qKc hne ?_
     by_cases hs:ds.length=es.length
     ·have:=qMn (A:=A) (s:=s) hl1 hl2 (by rw[len1,len2,hs]) hu' (pairs hdl q1 q2 v1 v2)
      rw[len1,Dat.eqL_all hs _ (fun j h1 h2=>by rw[qA0,qA0];simp[h1,h2])]at this;exact this
     ·rw[Dat.eqL_len hs];exact qL4 hl1 hl2 (by rw[len1,len2];simpa using hs) hu'
  |tup ds=>
   have hdl:Dat.depL ds<=n:=by rw[Dat.dep]at hd;lia
   obtain⟨a,xs,rfl,ha,q1⟩:=h1;obtain⟨its,v1,hl1⟩:=zB9 ok ha;cases r1;cases e with
   |non=>cases h2;cases r2;exact SeqAt.EqAt.tuple_none hl1 hu'
   |bl b=>cases h2;cases r2;exact SeqAt.EqAt.tuple_bool b hl1 hu'
   |int i=>cases h2;obtain⟨t,rfl⟩:=r2;exact SeqAt.EqAt.tuple_int i t hl1 hu'
   |str z=>cases h2;obtain⟨t,rfl⟩:=r2;exact SeqAt.EqAt.tuple_str z t hl1 hu'
   |lst es=>
    obtain⟨b,ys,rfl,hb,q2⟩:=h2;obtain⟨its2,v2,hl2⟩:=zAZ ok hb;cases r2;exact qKc (zNI ha hb (fun z=>nomatch z)) (qLi hl1 hl2 hu')
   |tup es=>
    obtain⟨b,ys,rfl,hb,q2⟩:=h2;obtain⟨its2,v2,hl2⟩:=zB9 ok hb;cases r2;have len1:its.toArray.size=ds.length:=by have:=v1.length;have:=q1.length;simp;lia
    have len2:its2.toArray.size=es.length:=by have:=v2.length;have:=q2.length;simp;lia
    show qL3 A s (.ref a) (.ref b) (Dat.eqL ds es);by_cases hne:a=b
    ·subst hne;rw[ha]at hb;cases hb;have same:Dat.eqL ds es=true:=by
      rw[RepL.inj q1 q2];exact Dat.eqL_refl _
     rw[same];exact qKs _
    ·refine qKc hne ?_
     have:=qMg (A:=A) (s:=s) hl1 hl2 hu' (pairs hdl q1 q2 v1 v2);by_cases hs:ds.length=es.length
     ·rw[len1,len2,<- hs,qDi,beq_self_eq_true,qEk,Dat.eqL_all hs _ (fun j h1 h2=>by rw[qA0,qA0];simp[h1,h2])]at this;exact this
     ·rw[len1,len2,show(ds.length==es.length)=false by simpa using hs,qDf]at this;rw[Dat.eqL_len hs];exact this
  |_=>simp[Dat.dep]at hd0
theorem zFJ{n:Nat}{A:qJ2}{s:qIv}(ok:HOk P w H s.heap){ds es:List Dat}{xs ys:List V}{its its2:List Value}(hdl:Dat.depL ds<=n)(hu:A.units+n<cLine)(q1:RepL H ds xs)(q2:RepL H es ys)(v1:Vals xs its)(v2:Vals ys its2) :
  ∀j (h1:j<its.toArray.size) (h2:j<its2.toArray.size),qL3 A s its.toArray[j] its2.toArray[j] (Dat.eq (ds.getD j .non) (es.getD j .non)):=by
 intro j j1 j2;have l1:j<xs.length:=by have:=v1.length;simp at j1;lia
 have l2:j<ys.length:=by have:=v2.length;simp at j2;lia
 obtain⟨d',e1,p1⟩:=q1.get (i:=j) (x:=xs[j]) (by simp[l1]);obtain⟨e',e2,p2⟩:=q2.get (i:=j) (x:=ys[j]) (by simp[l2]);obtain⟨w1,g1,z1⟩:=v1.get (i:=j) (x:=xs[j]) (by simp[l1]);obtain⟨w2,g2,z2⟩:=v2.get (i:=j) (x:=ys[j]) (by simp[l2]);have k1:its.toArray[j]=w1:=by
  obtain⟨_,k⟩:=qA3.mp g1;simpa using k
 have k2:its2.toArray[j]=w2:=by
  obtain⟨_,k⟩:=qA3.mp g2;simpa using k
 rw[k1,k2,qA0,qA0,e1,e2];exact zT1 n (qAs (Dat.depL_mem (qAw e1)) hdl) ok p1 p2 z1 z2 hu
theorem zRT(n:Nat){d e:Dat}{v u:V}{x y:Value}{A:qJ2}{s:qIv}(hd:d.dep<=n)(ok:HOk P w H s.heap)(h1:Rep H d v)(h2:Rep H e u)(r1:RelV v x)(r2:RelV u y)(hu:A.units+n<cLine):qN2 A s x y (Dat.eq d e):=by
 have hu':A.units<cLine:=by lia
 cases d with
 |non=>
  cases h1;cases r1;cases e with
  |non=>
   cases h2;cases r2;exact SeqAt.RcAt.none_none
  |bl b=>
   cases h2;cases r2;exact SeqAt.RcAt.none_bool b
  |int b=>
   cases h2;obtain⟨t2,rfl⟩:=r2;exact SeqAt.RcAt.none_int b t2
  |str b=>
   cases h2;obtain⟨t2,rfl⟩:=r2;exact SeqAt.RcAt.none_str b t2
  |lst es=>
   obtain⟨p2,ys,rfl,hb,q2⟩:=h2;obtain⟨its2,v2,hl2⟩:=zAZ ok hb;cases r2;exact SeqAt.RcAt.none_list hl2 hu'
  |tup es=>
   obtain⟨p2,ys,rfl,hb,q2⟩:=h2;obtain⟨its2,v2,hl2⟩:=zB9 ok hb;cases r2;exact SeqAt.RcAt.none_tuple hl2 hu'
 |bl a=>
  cases h1;cases r1;cases e with
  |non=>
   cases h2;cases r2;exact SeqAt.RcAt.bool_none a
  |bl b=>
   cases h2;cases r2;exact SeqAt.RcAt.bool_bool a b
  |int b=>
   cases h2;obtain⟨t2,rfl⟩:=r2;exact SeqAt.RcAt.bool_int a b t2
  |str b=>
   cases h2;obtain⟨t2,rfl⟩:=r2;exact SeqAt.RcAt.bool_str a b t2
  |lst es=>
   obtain⟨p2,ys,rfl,hb,q2⟩:=h2;obtain⟨its2,v2,hl2⟩:=zAZ ok hb;cases r2;exact SeqAt.RcAt.bool_list a hl2 hu'
  |tup es=>
   obtain⟨p2,ys,rfl,hb,q2⟩:=h2;obtain⟨its2,v2,hl2⟩:=zB9 ok hb;cases r2;exact SeqAt.RcAt.bool_tuple a hl2 hu'
 |int a=>
  cases h1;obtain⟨t1,rfl⟩:=r1;cases e with
  |non=>
   cases h2;cases r2;exact SeqAt.RcAt.int_none a t1
  |bl b=>
   cases h2;cases r2;exact SeqAt.RcAt.int_bool a t1 b
  |int b=>
   cases h2;obtain⟨t2,rfl⟩:=r2;exact SeqAt.RcAt.int_int a t1 b t2
  |str b=>
   cases h2;obtain⟨t2,rfl⟩:=r2;exact SeqAt.RcAt.int_str a t1 b t2
  |lst es=>
   obtain⟨p2,ys,rfl,hb,q2⟩:=h2;obtain⟨its2,v2,hl2⟩:=zAZ ok hb;cases r2;exact SeqAt.RcAt.int_list a t1 hl2 hu'
  |tup es=>
   obtain⟨p2,ys,rfl,hb,q2⟩:=h2;obtain⟨its2,v2,hl2⟩:=zB9 ok hb;cases r2;exact SeqAt.RcAt.int_tuple a t1 hl2 hu'
 |str a=>
  cases h1;obtain⟨t1,rfl⟩:=r1;cases e with
  |non=>
   cases h2;cases r2;exact SeqAt.RcAt.str_none a t1
  |bl b=>
   cases h2;cases r2;exact SeqAt.RcAt.str_bool a t1 b
  |int b=>
   cases h2;obtain⟨t2,rfl⟩:=r2;exact SeqAt.RcAt.str_int a t1 b t2
  |str b=>
   cases h2;obtain⟨t2,rfl⟩:=r2;exact SeqAt.RcAt.str_str a t1 b t2
  |lst es=>
   obtain⟨p2,ys,rfl,hb,q2⟩:=h2;obtain⟨its2,v2,hl2⟩:=zAZ ok hb;cases r2;exact SeqAt.RcAt.str_list a t1 hl2 hu'
  |tup es=>
   obtain⟨p2,ys,rfl,hb,q2⟩:=h2;obtain⟨its2,v2,hl2⟩:=zB9 ok hb;cases r2;exact SeqAt.RcAt.str_tuple a t1 hl2 hu'
 |lst ds=>
  have hdl:Dat.depL ds+1<=n:=by rw[Dat.dep]at hd;exact hd
  obtain⟨p,xs,rfl,ha,q1⟩:=h1;obtain⟨its,v1,hl1⟩:=zAZ ok ha;cases r1;cases e with
  |non=>
   cases h2;cases r2;exact SeqAt.RcAt.list_none hl1 hu'
  |bl b=>
   cases h2;cases r2;exact SeqAt.RcAt.list_bool b hl1 hu'
  |int b=>
   cases h2;obtain⟨t2,rfl⟩:=r2;exact SeqAt.RcAt.list_int b t2 hl1 hu'
  |str b=>
   cases h2;obtain⟨t2,rfl⟩:=r2;exact SeqAt.RcAt.list_str b t2 hl1 hu'
  |lst es=>
   obtain⟨p2,ys,rfl,hb,q2⟩:=h2;obtain⟨its2,v2,hl2⟩:=zAZ ok hb;cases r2;have len1:its.toArray.size=ds.length:=by have:=v1.length;have:=q1.length;simp;lia
   have len2:its2.toArray.size=es.length:=by have:=v2.length;have:=q2.length;simp;lia
   show qN2 A s (.ref p) (.ref p2) (Dat.eqL ds es);by_cases hs:ds.length=es.length
   ·have:=qMn (A:=A) (s:=s) hl1 hl2 (by rw[len1,len2,hs]) hu' (zFJ ok (by lia) (by rw[zDB];lia:A.in1.units+(n-1)<cLine) q1 q2 v1 v2)
    rw[len1,Dat.eqL_all hs _ (fun j h1 h2=>by rw[qA0,qA0];simp[h1,h2])]at this;exact this
   ·rw[Dat.eqL_len hs];exact qL4 hl1 hl2 (by rw[len1,len2];simpa using hs) hu'
  |tup es=>
   obtain⟨p2,ys,rfl,hb,q2⟩:=h2;obtain⟨its2,v2,hl2⟩:=zB9 ok hb;cases r2;exact qLh hl1 hl2 hu'
 |tup ds=>
  have hdl:Dat.depL ds+1<=n:=by rw[Dat.dep]at hd;exact hd
  obtain⟨p,xs,rfl,ha,q1⟩:=h1;obtain⟨its,v1,hl1⟩:=zB9 ok ha;cases r1;cases e with
  |non=>
   cases h2;cases r2;exact SeqAt.RcAt.tuple_none hl1 hu'
  |bl b=>
   cases h2;cases r2;exact SeqAt.RcAt.tuple_bool b hl1 hu'
  |int b=>
   cases h2;obtain⟨t2,rfl⟩:=r2;exact SeqAt.RcAt.tuple_int b t2 hl1 hu'
  |str b=>
   cases h2;obtain⟨t2,rfl⟩:=r2;exact SeqAt.RcAt.tuple_str b t2 hl1 hu'
  |lst es=>
   obtain⟨p2,ys,rfl,hb,q2⟩:=h2;obtain⟨its2,v2,hl2⟩:=zAZ ok hb;cases r2;exact qLi hl1 hl2 hu'
  |tup es=>
   obtain⟨p2,ys,rfl,hb,q2⟩:=h2;obtain⟨its2,v2,hl2⟩:=zB9 ok hb;cases r2;have len1:its.toArray.size=ds.length:=by have:=v1.length;have:=q1.length;simp;lia
   have len2:its2.toArray.size=es.length:=by have:=v2.length;have:=q2.length;simp;lia
   show qN2 A s (.ref p) (.ref p2) (Dat.eqL ds es);have:=qMg (A:=A) (s:=s) hl1 hl2 hu' (zFJ ok (by lia) (by rw[zDB];lia:A.in1.units+(n-1)<cLine) q1 q2 v1 v2)
   by_cases hs:ds.length=es.length
   ·rw[len1,len2,<- hs,qDi,beq_self_eq_true,qEk,Dat.eqL_all hs _ (fun j h1 h2=>by rw[qA0,qA0];simp[h1,h2])]at this;exact this
   ·rw[len1,len2,show(ds.length==es.length)=false by simpa using hs,qDf]at this;rw[Dat.eqL_len hs];exact this
theorem zNE(n:Nat){d e:Dat}{v u:V}{x y:Value}{A:qJ2}{s:qIv}(hd:d.dep<=n)(ok:HOk P w H s.heap)(h1:Rep H d v)(h2:Rep H e u)(r1:RelV v x)(r2:RelV u y)(hu:A.units+n<cLine):qMl A s x y (!Dat.eq d e):=by
 have hu':A.units<cLine:=by lia
 cases d with
 |non=>
  cases h1;cases r1;cases e with
  |non=>
   cases h2;cases r2;exact SeqAt.RcNeAt.none_none
  |bl b=>
   cases h2;cases r2;exact SeqAt.RcNeAt.none_bool b
  |int b=>
   cases h2;obtain⟨t2,rfl⟩:=r2;exact SeqAt.RcNeAt.none_int b t2
  |str b=>
   cases h2;obtain⟨t2,rfl⟩:=r2;exact SeqAt.RcNeAt.none_str b t2
  |lst es=>
   obtain⟨p2,ys,rfl,hb,q2⟩:=h2;obtain⟨its2,v2,hl2⟩:=zAZ ok hb;cases r2;exact SeqAt.RcNeAt.none_list hl2 hu'
  |tup es=>
   obtain⟨p2,ys,rfl,hb,q2⟩:=h2;obtain⟨its2,v2,hl2⟩:=zB9 ok hb;cases r2;exact SeqAt.RcNeAt.none_tuple hl2 hu'
 |bl a=>
  cases h1;cases r1;cases e with
  |non=>
   cases h2;cases r2;exact SeqAt.RcNeAt.bool_none a
  |bl b=>
   cases h2;cases r2;exact SeqAt.RcNeAt.bool_bool a b
  |int b=>
   cases h2;obtain⟨t2,rfl⟩:=r2;exact SeqAt.RcNeAt.bool_int a b t2
  |str b=>
   cases h2;obtain⟨t2,rfl⟩:=r2;exact SeqAt.RcNeAt.bool_str a b t2
  |lst es=>
   obtain⟨p2,ys,rfl,hb,q2⟩:=h2;obtain⟨its2,v2,hl2⟩:=zAZ ok hb;cases r2;exact SeqAt.RcNeAt.bool_list a hl2 hu'
  |tup es=>
   obtain⟨p2,ys,rfl,hb,q2⟩:=h2;obtain⟨its2,v2,hl2⟩:=zB9 ok hb;cases r2;exact SeqAt.RcNeAt.bool_tuple a hl2 hu'
 |int a=>
  cases h1;obtain⟨t1,rfl⟩:=r1;cases e with
  |non=>
   cases h2;cases r2;exact SeqAt.RcNeAt.int_none a t1
  |bl b=>
   cases h2;cases r2;exact SeqAt.RcNeAt.int_bool a t1 b
  |int b=>
   cases h2;obtain⟨t2,rfl⟩:=r2;exact SeqAt.RcNeAt.int_int a t1 b t2
  |str b=>
   cases h2;obtain⟨t2,rfl⟩:=r2;exact SeqAt.RcNeAt.int_str a t1 b t2
  |lst es=>
   obtain⟨p2,ys,rfl,hb,q2⟩:=h2;obtain⟨its2,v2,hl2⟩:=zAZ ok hb;cases r2;exact SeqAt.RcNeAt.int_list a t1 hl2 hu'
  |tup es=>
   obtain⟨p2,ys,rfl,hb,q2⟩:=h2;obtain⟨its2,v2,hl2⟩:=zB9 ok hb;cases r2;exact SeqAt.RcNeAt.int_tuple a t1 hl2 hu'
 |str a=>
  cases h1;obtain⟨t1,rfl⟩:=r1;cases e with
  |non=>
   cases h2;cases r2;exact SeqAt.RcNeAt.str_none a t1
  |bl b=>
   cases h2;cases r2;exact SeqAt.RcNeAt.str_bool a t1 b
  |int b=>
   cases h2;obtain⟨t2,rfl⟩:=r2;exact SeqAt.RcNeAt.str_int a t1 b t2
  |str b=>
   cases h2;obtain⟨t2,rfl⟩:=r2;exact SeqAt.RcNeAt.str_str a t1 b t2
  |lst es=>
   obtain⟨p2,ys,rfl,hb,q2⟩:=h2;obtain⟨its2,v2,hl2⟩:=zAZ ok hb;cases r2;exact SeqAt.RcNeAt.str_list a t1 hl2 hu'
  |tup es=>
   obtain⟨p2,ys,rfl,hb,q2⟩:=h2;obtain⟨its2,v2,hl2⟩:=zB9 ok hb;cases r2;exact SeqAt.RcNeAt.str_tuple a t1 hl2 hu'
 |lst ds=>
  have hdl:Dat.depL ds+1<=n:=by rw[Dat.dep]at hd;exact hd
  obtain⟨p,xs,rfl,ha,q1⟩:=h1;obtain⟨its,v1,hl1⟩:=zAZ ok ha;cases r1;cases e with
  |non=>
   cases h2;cases r2;exact SeqAt.RcNeAt.list_none hl1 hu'
  |bl b=>
   cases h2;cases r2;exact SeqAt.RcNeAt.list_bool b hl1 hu'
  |int b=>
   cases h2;obtain⟨t2,rfl⟩:=r2;exact SeqAt.RcNeAt.list_int b t2 hl1 hu'
  |str b=>
   cases h2;obtain⟨t2,rfl⟩:=r2;exact SeqAt.RcNeAt.list_str b t2 hl1 hu'
  |lst es=>
   obtain⟨p2,ys,rfl,hb,q2⟩:=h2;obtain⟨its2,v2,hl2⟩:=zAZ ok hb;cases r2;have len1:its.toArray.size=ds.length:=by have:=v1.length;have:=q1.length;simp;lia
   have len2:its2.toArray.size=es.length:=by have:=v2.length;have:=q2.length;simp;lia
   show qMl A s (.ref p) (.ref p2) (!Dat.eqL ds es);by_cases hs:ds.length=es.length
   ·have:=SeqAt.RcNeAt.lists (A:=A) (s:=s) hl1 hl2 (by rw[len1,len2,hs]) hu' (zFJ ok (by lia) (by rw[zDB];lia:A.in1.units+(n-1)<cLine) q1 q2 v1 v2)
    rw[len1,Dat.eqL_all hs _ (fun j h1 h2=>by rw[qA0,qA0];simp[h1,h2])]at this;exact this
   ·rw[Dat.eqL_len hs];exact SeqAt.RcNeAt.lists_lengths hl1 hl2 (by rw[len1,len2];simpa using hs) hu'
  |tup es=>
   obtain⟨p2,ys,rfl,hb,q2⟩:=h2;obtain⟨its2,v2,hl2⟩:=zB9 ok hb;cases r2;exact SeqAt.RcNeAt.list_tuple hl1 hl2 hu'
 |tup ds=>
  have hdl:Dat.depL ds+1<=n:=by rw[Dat.dep]at hd;exact hd
  obtain⟨p,xs,rfl,ha,q1⟩:=h1;obtain⟨its,v1,hl1⟩:=zB9 ok ha;cases r1;cases e with
  |non=>
   cases h2;cases r2;exact SeqAt.RcNeAt.tuple_none hl1 hu'
  |bl b=>
   cases h2;cases r2;exact SeqAt.RcNeAt.tuple_bool b hl1 hu'
  |int b=>
   cases h2;obtain⟨t2,rfl⟩:=r2;exact SeqAt.RcNeAt.tuple_int b t2 hl1 hu'
  |str b=>
   cases h2;obtain⟨t2,rfl⟩:=r2;exact SeqAt.RcNeAt.tuple_str b t2 hl1 hu'
  |lst es=>
   obtain⟨p2,ys,rfl,hb,q2⟩:=h2;obtain⟨its2,v2,hl2⟩:=zAZ ok hb;cases r2;exact SeqAt.RcNeAt.tuple_list hl1 hl2 hu'
  |tup es=>
   obtain⟨p2,ys,rfl,hb,q2⟩:=h2;obtain⟨its2,v2,hl2⟩:=zB9 ok hb;cases r2;have len1:its.toArray.size=ds.length:=by have:=v1.length;have:=q1.length;simp;lia
   have len2:its2.toArray.size=es.length:=by have:=v2.length;have:=q2.length;simp;lia
   show qMl A s (.ref p) (.ref p2) (!Dat.eqL ds es);have:=SeqAt.RcNeAt.tuples (A:=A) (s:=s) hl1 hl2 hu' (zFJ ok (by lia) (by rw[zDB];lia:A.in1.units+(n-1)<cLine) q1 q2 v1 v2)
   by_cases hs:ds.length=es.length
   ·rw[len1,len2,<- hs,qDi,beq_self_eq_true,qEk,Dat.eqL_all hs _ (fun j h1 h2=>by rw[qA0,qA0];simp[h1,h2])]at this;exact this
   ·rw[len1,len2,show(ds.length==es.length)=false by simpa using hs,qDf]at this;rw[Dat.eqL_len hs];exact this
end
section
variable{X:Cx}
noncomputable def rEqD:R2:=fun x y H Q=>∃d e,Rep H d x/\Rep H e y/\d.dep<=40/\Q (.bl (Dat.eq d e)) H
noncomputable def rNeD:R2:=fun x y H Q=>∃d e,Rep H d x/\Rep H e y/\d.dep<=40/\Q (.bl (!Dat.eq d e)) H
theorem zYQ(hu:X.A.units+64<cLine):OpR X (compareOp .Eq) rEqD:=by
 intro pins s σ H x y v u Q I rx ry h;obtain⟨d,e,h1,h2,hd,q⟩:=h;exact zRT 40 hd I.hok h1 h2 rx ry (by lia) _ _ _ _ ⟨.bl _,H,I,rfl,q⟩
theorem zYN(hu:X.A.units+64<cLine):OpR X (compareOp .NotEq) rNeD:=by
 intro pins s σ H x y v u Q I rx ry h;obtain⟨d,e,h1,h2,hd,q⟩:=h;exact zNE 40 hd I.hok h1 h2 rx ry (by lia) _ _ _ _ ⟨.bl _,H,I,rfl,q⟩
noncomputable def zFR(H:Hp):V->Option String
 |.non=>some "NoneType"
 |.bl _=>some "bool"
 |.int _=>some "int"
 |.str _=>some "str"
 |.ref a=>match H a with
  |some (.lst _)=>some "list"
  |some (.tup _)=>some "tuple"
  |some (.dK _)=>some "dict"
  |_=>none
 |_=>none
noncomputable def zWD(T n:String):Bool:=T==n||(T == "bool" && n == "int")
theorem zLC:zCO X (.builtin "isinstance") (fun vs H Q=>∃x n T,vs=[x,.ty n]/\zFR H x=some T/\n∈["int","bool","str","list","tuple","dict"]/\Q (.bl (zWD T n)) H):=by
 intro pins s σ H vs us Q I r h;obtain⟨x,n,T,rfl,ht,hn,q⟩:=h;obtain⟨u,w',rfl,rx,rn⟩:=zR8 r;cases(show w'=qKq n from rn)
 have key:∃t,TyOf X.K H x t/\t=.type T:=by
  cases x with
  |non=>cases ht;exact⟨_,.non,rfl⟩
  |bl b=>cases ht;exact⟨_,.bl b,rfl⟩
  |int b=>cases ht;exact⟨_,.int b,rfl⟩
  |str b=>cases ht;exact⟨_,.str b,rfl⟩
  |ref a=>
   unfold zFR at ht;dsimp only at ht;cases e:H a with
   |none=>rw[e]at ht;cases ht
   |some o=>
    rw[e]at ht;cases o with
    |lst xs=>cases ht;exact⟨_,.lst e,rfl⟩
    |tup xs=>cases ht;exact⟨_,.tup e,rfl⟩
    |dK xs=>cases ht;exact⟨_,.dK e,rfl⟩
    |_=>cases ht
  |_=>cases ht
 obtain⟨t,ty,rfl⟩:=key;have hT:T∈["NoneType","bool","int","str","list","tuple","dict"]:=by
  cases x with
  |non=>cases ht;decide
  |bl b=>cases ht;decide
  |int b=>cases ht;decide
  |str b=>cases ht;decide
  |ref a=>
   unfold zFR at ht;dsimp only at ht;cases e:H a with
   |none=>rw[e]at ht;cases ht
   |some o=>
    rw[e]at ht;cases o with
    |lst xs=>cases ht;decide
    |tup xs=>cases ht;decide
    |dK xs=>cases ht;decide
    |_=>cases ht
  |_=>cases ht
 have e:qHd X.K (.type T) (.type n)=some (zWD T n):=by
  simp only[qAf,List.mem_nil_iff,or_false]at hT hn;rcases hT with rfl|rfl|rfl|rfl|rfl|rfl|rfl<;>rcases hn with rfl|rfl|rfl|rfl|rfl|rfl<;>rfl
 exact zPP I rx ty e fun tk=>⟨.bl _,H,I.tok tk,rfl,q⟩
noncomputable def zFE(lo:Int)(n:Nat):List V:=(qA7 n).map fun i=>.int (lo+(i:Nat))
theorem zFQ:∀{xs:List V}{its:List Value},xs.length=its.length->(∀(j:Nat)(x:V)(v:Value),xs[j]?=some x->its[j]?=some v->RelV x v)->Vals xs its
 |[],[],_,_=>.nil
 |[],_::_,h,_=>by simp at h
 |_::_,[],h,_=>by simp at h
 |x::xs,v::its,h,g=>.cons (g 0 x v rfl rfl) (zFQ (by simpa using h) fun j y u e1 e2=>g (j+1) y u (by simpa using e1) (by simpa using e2))
theorem zIQ{lo:Int}{n:Nat}{its:List Value}(hl:its.length=n)(h:∀(j:Nat) (v:Value),its[j]?=some v->∃t,v=qJw (lo+(j:Int)*1) t):Vals (zFE lo n) its:=by
 refine zFQ (by simp[zFE,hl]) fun j x v e1 e2=>?_
 unfold zFE at e1;rw[qA8]at e1;cases e:(qA7 n)[j]? with
 |none=>rw[e]at e1;cases e1
 |some i=>
  rw[e]at e1;cases e1;have hi:i=j:=by
   obtain⟨h1,h2⟩:=qA3.mp e;rw[qBw]at h2;exact h2.symm
  subst hi;obtain⟨t,ht⟩:=h i v e2;exact⟨t,by rw[ht,qGn]⟩
theorem zQS:zCO X (.type "range") (fun vs H Q=>∃j:Int,vs=[.int j]/\∀p,H p=none->Q (.ref p) (upd H p (.rng 0 j))):=by
 intro pins s σ H vs us Q I r h;obtain⟨j,rfl,q⟩:=h;obtain⟨u,rfl,rx⟩:=zEU r;obtain⟨t,rfl⟩:=rx;exact call_range_1 ⟨.ref _,_,I.laid (o:=.rng 0 j) (fun b o e=>qIu _ e) (qA6 _) ⟨_,_,_,qIw _ rfl⟩,rfl,q _ I.fresh⟩
theorem zQR:zCO X (.type "range") (fun vs H Q=>∃i j:Int,vs=[.int i,.int j]/\∀p,H p=none->Q (.ref p) (upd H p (.rng i j))):=by
 intro pins s σ H vs us Q I r h;obtain⟨i,j,rfl,q⟩:=h;obtain⟨u,u',rfl,rx,rx'⟩:=zR8 r;obtain⟨t,rfl⟩:=rx;obtain⟨t',rfl⟩:=rx';exact call_range_2 ⟨.ref _,_,I.laid (o:=.rng i j) (fun b o e=>qIu _ e) (qA6 _) ⟨_,_,_,qIw _ rfl⟩,rfl,q _ I.fresh⟩
theorem zID(hc:X.calm=true):zCO X (.type "list") (fun vs H Q=>∃p lo hi,vs=[.ref p]/\H p=some (.rng lo hi)/\(-(2 ^ 62)<=lo/\lo<2 ^ 62/\-(2 ^ 62)<=hi/\hi<2 ^ 62)/\hi-lo<=1000000/\∀l,H l=none->Q (.ref l) (upd H l (.lst (zFE lo (hi-lo).toNat)))):=by
 intro pins s σ H vs us Q I r h;obtain⟨p,lo,hi,rfl,hp,⟨b1,b2,b3,b4⟩,hz,q⟩:=h;obtain⟨u,rfl,rx⟩:=zEU r;cases rx;obtain⟨t,u,v,e⟩:=(show ObjOk X.prog X.w H s.heap p (.rng lo hi) from I.hok p _ hp)
 have hn:qJr lo hi 1=(((hi-lo).toNat:Nat):Int):=by rw[qM5];split<;>lia
 refine call_list_range (n:=(hi-lo).toNat) (I.ok.hd hc) e (small_one b1 b2 b3 b4) hn (by lia) fun h' tk acc' c' hk hS hacc=>?_
 have rv:Vals (zFE lo (hi-lo).toNat) acc'.toList:=zIQ (by simpa using hacc.1) fun j v hj=>hacc.2 j v (by simpa using hj)
 refine⟨.ref _,_,I.laid (o:=.lst (zFE lo (hi-lo).toNat)) hk (qA6 _) ⟨?_,acc'.toList,c',rv,by simpa using hS⟩,rfl,q _ I.fresh⟩;have hl:(zFE lo (hi-lo).toNat).length=(hi-lo).toNat:=by simp[zFE]
 rw[hl,qJa];lia
def zVF:R2:=fun x y H Q=>match x,y with
 |.int i,.int j=>Q (.int (i+j)) H
 |.str i,.str j=>i.length+j.length<=sizeLine/\Q (.str (i++j)) H
 |.ref l,.ref b=>∃xs zs,H l=some (.lst xs)/\H b=some (.lst zs)/\xs.length+zs.length<=sizeLine/\∀p,H p=none->Q (.ref p) (upd H p (.lst (xs++zs)))
 |_,_=>False
theorem zBO:OpR X (binaryOp .Add) zVF:=by
 intro pins s σ H x y v u Q I rx ry h;cases x<;>cases y<;>first
  |exact zYS pins s σ H _ _ v u Q I rx ry ⟨_,_,rfl,rfl,h⟩
  |exact zNH pins s σ H _ _ v u Q I rx ry ⟨_,_,rfl,rfl,h.1,h.2⟩
  |(obtain⟨xs,zs,h1,h2,h3,h4⟩:=h;exact zYR pins s σ H _ _ v u Q I rx ry ⟨_,_,xs,zs,rfl,rfl,h1,h2,h3,h4⟩)
  |exact qAa h
noncomputable def rMulU:R2:=fun x y H Q=>match x,y with
 |.int i,.int j=>CMul i j/\Q (.int (i*j)) H
 |_,_=>False
noncomputable def zXX:R2:=fun x y H Q=>match x,y with
 |.int i,.int j=>Q (.int (i-j)) H
 |_,_=>False
theorem zRA:OpR X (binaryOp .Sub) zXX:=by
 intro pins s σ H x y v u Q I rx ry h;cases x<;>cases y<;>first
  |exact zYK pins s σ H _ _ v u Q I rx ry ⟨_,_,rfl,rfl,h⟩
  |exact qAa h
noncomputable def zY4:R2:=fun x y H Q=>match x,y with
 |.int i,.int j=>0<j/\Q (.int (i%j)) H
 |_,_=>False
theorem zD1:OpR X (binaryOp .Mod) zY4:=by
 intro pins s σ H x y v u Q I rx ry h;cases x<;>cases y<;>first
  |exact zYO pins s σ H _ _ v u Q I rx ry ⟨_,_,rfl,rfl,h.1,h.2⟩
  |exact qAa h
noncomputable def zY0:R2:=fun x y H Q=>match x,y with
 |.int i,.int j=>CPow i j/\Q (.int (i ^ j.toNat)) H
 |_,_=>False
theorem zaP:OpR X (binaryOp .Pow) zY0:=by
 intro pins s σ H x y v u Q I rx ry h;cases x<;>cases y<;>first
  |exact zYM pins s σ H _ _ v u Q I rx ry ⟨_,_,rfl,rfl,h.1,h.2⟩
  |exact qAa h
noncomputable def zVD(p:Int->Int->Bool):R2:=fun x y H Q=>match x,y with
 |.int i,.int j=>Q (.bl (p i j)) H
 |_,_=>False
theorem u_lt:OpR X (compareOp .Lt) (zVD fun i j=>decide (i<j)):=by
 intro pins s σ H x y v u Q I rx ry h;cases x<;>cases y<;>first
  |exact zb4 pins s σ H _ _ v u Q I rx ry ⟨_,_,rfl,rfl,h⟩
  |exact qAa h
theorem u_gt:OpR X (compareOp .Gt) (zVD fun i j=>decide (j<i)):=by
 intro pins s σ H x y v u Q I rx ry h;cases x<;>cases y<;>first
  |exact zb5 pins s σ H _ _ v u Q I rx ry ⟨_,_,rfl,rfl,h⟩
  |exact qAa h
def rEqU:R2:=fun x y H Q=>match x,y with
 |.int i,.int j=>Q (.bl (decide (i=j))) H
 |.str i,.str j=>Q (.bl (decide (i=j))) H
 |.bl i,.bl j=>Q (.bl (decide (i=j))) H
 |x,y=>rEqD x y H Q
def rNeU:R2:=fun x y H Q=>match x,y with
 |.int i,.int j=>Q (.bl (!decide (i=j))) H
 |.str i,.str j=>Q (.bl (!decide (i=j))) H
 |.bl i,.bl j=>Q (.bl (!decide (i=j))) H
 |x,y=>rNeD x y H Q
theorem u_eq(hu:X.A.units+64<cLine):OpR X (compareOp .Eq) rEqU:=by
 intro pins s σ H x y v u Q I rx ry h;cases x<;>cases y<;>first
  |(refine zb6 pins s σ H _ _ v u Q I rx ry ⟨rfl,?_⟩;have h':=h;simp only[rEqU]at h';simpa using h')
  |exact zYQ hu pins s σ H _ _ v u Q I rx ry h
theorem u_ne(hu:X.A.units+64<cLine):OpR X (compareOp .NotEq) rNeU:=by
 intro pins s σ H x y v u Q I rx ry h;cases x<;>cases y<;>first
  |(refine zb3 pins s σ H _ _ v u Q I rx ry ⟨rfl,?_⟩;have h':=h;simp only[rNeU]at h';simpa using h')
  |exact zYN hu pins s σ H _ _ v u Q I rx ry h
def rIxU(K:qA1):R2:=fun x y H Q=>match x,y with
 |.str z,.int i=>∃c,z.length<=sizeLine/\atI z.cps.toList i=some c/\Q (.str ⟨#[c]⟩) H
 |.ref p,.int i=>∃xs v,(SqL K H p xs\/SqT K H p xs)/\atI xs i=some v/\Q v H
 |_,_=>False
theorem u_ix:IxR X (rIxU X.K):=by
 intro value slice pins s σ H x y v u Q I rx ry h hs;cases x<;>cases y<;>first
  |(obtain⟨c,h1,h2,h3⟩:=h;exact zZ9 value slice pins s σ H _ _ v u Q I rx ry ⟨_,_,c,rfl,rfl,h1,h2,h3⟩ hs)
  |(obtain⟨xs,w,h1|h1,h2,h3⟩:=h
    ·exact zW9 value slice pins s σ H _ _ v u Q I rx ry ⟨_,xs,_,w,rfl,rfl,h1,h2,h3⟩ hs
    ·exact zZ8 value slice pins s σ H _ _ v u Q I rx ry ⟨_,xs,_,w,rfl,rfl,h1,h2,h3⟩ hs)
  |exact qAa h
def zVC(K:qA1):List V->Hp->VK->Prop:=fun vs H Q=>match vs with
 |[.str z]=>z.length<=sizeLine/\Q (.int z.length) H
 |[.ref p]=>∃xs,(SqL K H p xs\/SqT K H p xs)/\Q (.int xs.length) H
 |_=>False
theorem zbI:zCO X (.builtin "len") (zVC X.K):=by
 intro pins s σ H vs us Q I r h;cases vs with
 |nil=>exact qAa h
 |cons hd1 tl1=>
  cases hd1 with
  |str z=>
   cases tl1 with
   |nil=>
    exact zJX pins s σ H _ us Q I r ⟨z,rfl,h.1,h.2⟩
   |cons _ _=>exact qAa h
  |ref p=>
   cases tl1 with
   |nil=>
    obtain⟨xs,h1,h2⟩:=h;exact zJY pins s σ H _ us Q I r ⟨p,xs,rfl,h1,h2⟩
   |cons _ _=>exact qAa h
  |_=>exact qAa h
def zJ5(K:qA1):List V->Hp->VK->Prop:=fun vs H Q=>match vs with
 |[.ref p]=>(∃xs,(SqL K H p xs\/SqT K H p xs)/\∀l,H l=none->Q (.ref l) (upd H l (.lst xs))) \/
   ∃lo hi,H p=some (.rng lo hi)/\(-(2 ^ 62)<=lo/\lo<2 ^ 62/\-(2 ^ 62)<=hi/\hi<2 ^ 62)/\hi-lo<=1000000/\∀l,H l=none->Q (.ref l) (upd H l (.lst (zFE lo (hi-lo).toNat)))
 |_=>False
theorem zZ1(hc:X.calm=true):zCO X (.type "list") (zJ5 X.K):=by
 intro pins s σ H vs us Q I r h;cases vs with
 |nil=>exact qAa h
 |cons hd1 tl1=>
  cases hd1 with
  |ref p=>
   cases tl1 with
   |nil=>
    rcases h with⟨xs,h1,h2⟩|⟨lo,hi,h1,h2,h3,h4⟩
    ·exact zJW pins s σ H _ us Q I r ⟨p,xs,rfl,h1,h2⟩
    ·exact zID hc pins s σ H _ us Q I r ⟨p,lo,hi,rfl,h1,h2,h3,h4⟩
   |cons _ _=>exact qAa h
  |_=>exact qAa h
def zHR:List V->Hp->VK->Prop:=fun vs H Q=>match vs with
 |[.int j]=>∀p,H p=none->Q (.ref p) (upd H p (.rng 0 j))
 |[.int i,.int j]=>∀p,H p=none->Q (.ref p) (upd H p (.rng i j))
 |_=>False
theorem zE3:zCO X (.type "range") zHR:=by
 intro pins s σ H vs us Q I r h
 match vs,h with
 |[.int j],h=>exact zQS pins s σ H _ us Q I r ⟨j,rfl,h⟩
 |[.int i,.int j],h=>exact zQR pins s σ H _ us Q I r ⟨i,j,rfl,h⟩
def zY5:List V->Hp->VK->Prop:=fun vs H Q=>match vs with
 |[x,.ty n]=>∃T,zFR H x=some T/\n∈["int","bool","str","list","tuple","dict"]/\Q (.bl (zWD T n)) H
 |_=>False
theorem zCM:zCO X (.builtin "isinstance") zY5:=by
 intro pins s σ H vs us Q I r h;cases vs with
 |nil=>exact qAa h
 |cons x tl1=>
  cases tl1 with
  |nil=>exact qAa h
  |cons hd2 tl2=>
   cases hd2 with
   |ty n=>
    cases tl2 with
    |nil=>
     obtain⟨T,h1,h2,h3⟩:=h;exact zLC pins s σ H _ us Q I r ⟨x,n,T,rfl,h1,h2,h3⟩
    |cons _ _=>exact qAa h
   |_=>exact qAa h
end
noncomputable def zJT(N N':List Str)(k:Nat)(sc esc:Scope):Bool:=
 (sc.kind==.function)&&decide ((sc.names.map (·.1)).Nodup)&&(N'.length==N.length+k) &&
 ((qA7 N.length).all fun i=>match N'[i]? with
  |none=>true
  |some x=>(sc.names.lookup x==none)||(sc.names.any (fun p=>p.1==x&&p.2==.free)&&N[i]?==some x)) &&
 (sc.names.all fun p=>p.2 != .free||esc.names.lookup p.1==some .cell||esc.names.lookup p.1==some .free)
theorem cn{X:Cx}{sc:Scope}(N':List Str)(k:Nat)(h:zJT X.N N' k sc X.env.scope=true):CompNames X.N N' k sc X.env:=by
 unfold zJT at h;simp only[qC6,decide_eq_true_eq,beq_iff_eq]at h;obtain⟨⟨⟨⟨h1,h2⟩,h3⟩,h4⟩,h5⟩:=h;refine⟨h1,h2,h3,fun i x e hi=>?_,fun x hx=>?_⟩
 ·have q:=qBo.mp h4 i (qBh.mpr hi);rw[e]at q;simp only[qGq,qC6,beq_iff_eq,qGf]at q
  rcases q with q|⟨⟨p,hp,e1,e2⟩,e3⟩
  ·exact .inr q
  ·obtain⟨y,kk⟩:=p;dsimp only at e1 e2;subst e1;subst e2;exact .inl ⟨hp,e3⟩
 ·have q:=qBo.mp h5 _ hx;simp only[qGq,bne_iff_ne,ne_eq,not_true_eq_false,false_or,beq_iff_eq]at q;exact q
theorem PE.imp{X:Cx}{e:Expr}{t t':TE}(h:PE X e t)(i:∀σ H Q,t' σ H Q->t σ H Q):PE X e t':=fun pins s σ H Q I q=>h pins s σ H Q I (i σ H Q q)
noncomputable def vM(i:Nat):TE:=fun σ H Q=>match σ[i]? with
 |some (some v)=>Q v H
 |_=>False
theorem pn{X:Cx}(i:Nat){x:Str}{pos:Pos}(hN:X.N[i]?=some x:=by rfl)(hv:Vis X.env.scope x:=by first|exact qIs rfl|exact qIm (qIs rfl)|exact qIm (qIm rfl))(hd:(x==("__debug__":Str))=false:=by decide)
  (hcd:(x==("__classdict__":Str))=false:=by decide):PE X (.Name x pos) (vM i):=(zYD hN hv hd hcd).imp fun σ H Q h=>by
 unfold vM at h;cases e:σ[i]? with
 |none=>rw[e]at h;exact qAa h
 |some w=>
  rw[e]at h;cases w with
  |none=>exact qAa h
  |some v=>exact⟨v,e,h⟩
noncomputable def bM(t:TE):TT:=fun σ H Q=>t σ H fun x H'=>match x with
 |.bl k=>Q k H'
 |.int i=>Q (i != 0) H'
 |.non=>Q false H'
 |_=>False
section
variable{X:Cx}{a b c:Expr}{ta tb tc:TE}{tA tB:TT}{rest:List Expr}{pos:Pos}
theorem zXC{K:qA1}{x:V}{H:Hp}{Q:Bool->Hp->Prop}(h:match x with | .bl k=>Q k H | .int i=>Q (i != 0) H | .non=>Q false H|_=>False):∃k,TruV K x H k/\Q k H:=by
 cases x with
 |bl k=>exact⟨k,rfl,h⟩
 |int i=>exact⟨_,rfl,h⟩
 |non=>exact⟨_,rfl,h⟩
 |_=>exact qAa h
theorem pt_m(ha:PE X a ta)(he:∀whole,isTrue a X.env whole=(do let v <- whole;qN4 a.pos;holding [v] (truthy v)):=by intro _;rfl):PT X a (bM ta):=by
 intro pins s σ H Q I h;refine isTrue_plain (thn (ha pins s σ H _ I h) fun v s1 z0=>?_) (he _);obtain⟨x,H1,I1,r1,q1⟩:=z0;exact thn (zXB pins s1 σ H1 x v Q I1 r1 (zXC q1)) fun _ _ q=>q
theorem zFC{op:CmpOp}{r:R2}(ho:OpR X (compareOp op) r)(ha:PE X a ta)(hb:PE X b tb)(hm:qL9 op b=false):PT X (.Compare a [op] [b] pos) (fun σ H Q=>ta σ H fun x H1=>tb σ H1 fun y H2=>r x y H2 fun z H3=>match z with | .bl k=>Q k H3|_=>False):=by
 intro pins s σ H Q I h;refine wpAny_isTrue_Compare1 (thn (ha pins s σ H _ I h) fun v s1 ⟨x,H1,I1,r1,q1⟩=>thn (hb pins s1 σ H1 _ I1 q1) fun u s2 ⟨y,H2,I2,r2,q2⟩=>
  thn (ho pins s2 σ H2 x y v u _ I2 r1 r2 q2) fun d s3 ⟨z,H3,I3,r3,q3⟩=>?_) hm
 cases z with
 |bl k=>cases r3;exact qMb ⟨H3,I3,q3⟩
 |_=>exact qAa q3
def setM:V->V->V->Hp->(Hp->Prop)->Prop:=fun o i v H Q=>match o,i with
 |.ref p,.int k=>∃xs j,H p=some (.lst xs)/\ixN xs.length k=some j/\Q (upd H p (.lst (xs.set j v)))
 |_,_=>False
theorem zGK:PSet X setM:=by
 intro pins s σ H o i v ov iv u Q I ro ri rv h;cases o<;>cases i<;>first
  |(obtain⟨xs,j,h1,h2,h3⟩:=h;exact zRI pins s σ H _ _ v ov iv u Q I ro ri rv ⟨_,xs,_,j,rfl,rfl,h1,h2,h3⟩)
  |exact qAa h
def appM:V->List V->Hp->VK->Prop:=fun x vs H Q=>match x,vs with
 |.ref l,[y]=>∃xs,H l=some (.lst xs)/\xs.length<sizeLine/\Q .non (upd H l (.lst (xs++[y])))
 |_,_=>False
theorem zVY:MtR X "list.append" appM:=by
 intro pins s σ H x vs v us Q I rx rv h;cases x with
 |ref l=>
  cases vs with
  |nil=>exact qAa h
  |cons y t=>
   cases t with
   |nil=>
    obtain⟨xs,h1,h2,h3⟩:=h;exact zPC pins s σ H _ _ v us Q I rx rv ⟨l,xs,y,rfl,rfl,h1,h2,h3⟩
   |cons _ _=>exact qAa h
 |_=>exact qAa h
def popM:V->List V->Hp->VK->Prop:=fun x vs H Q=>match x,vs with
 |.ref l,[.int i]=>∃xs k y,H l=some (.lst xs)/\(-(2 ^ 63)<=i/\i<2 ^ 63)/\qLg i xs.length=some k/\xs[k]?=some y/\Q y (upd H l (.lst (xs.eraseIdx k)))
 |.ref l,[]=>∃xs y,H l=some (.lst xs)/\xs[xs.length-1]?=some y/\Q y (upd H l (.lst xs.dropLast))
 |_,_=>False
theorem zHY:MtR X "list.pop" popM:=by
 intro pins s σ H x vs v us Q I rx rv h;cases x with
 |ref l=>
  cases vs with
  |nil=>
   obtain⟨xs,y,h1,h2,h3⟩:=h;exact zYY pins s σ H _ _ v us Q I rx rv ⟨l,xs,y,rfl,rfl,h1,h2,h3⟩
  |cons y t=>
   cases y with
   |int i=>
    cases t with
    |nil=>
     obtain⟨xs,k,y,h1,h2,h3,h4,h5⟩:=h;exact zSE pins s σ H _ _ v us Q I rx rv ⟨l,xs,i,k,y,rfl,rfl,h1,h2.1,h2.2,h3,h4,h5⟩
    |cons _ _=>exact qAa h
   |_=>exact qAa h
 |_=>exact qAa h
end
theorem pt_w{X:Cx}{e:Expr}{t:TT}(h:PW X e t):PT X e t:=h.pt
def Has(P:qIy)(w:World)(K:qA1)(mg:Str->Option Value)(base:Heap)(x:Str)(k:Nat)(ps:List Str)(sp:Sp):Prop:=
 ∃f fd,FnOk P w K mg base CX0 k f fd ps sp/\mg x=some (.ref f)/\qB5 K (.ref f)=true/\Binds K fd ps []
def Def(K:qA1)(mg:Str->Option Value)(x:Str)(st:Stmt):Prop:=∃f fd,Fun K x x st f fd/\mg x=some (.ref f)
section
variable{X:Cx}{x:Str}{j k:Nat}{ps:List Str}{sp:Sp}{e:Expr}{es:List Expr}{t:TA}{p pos:Pos}
theorem zCF(h:Has X.prog X.w X.K X.mg X.base x j ps sp)(hjk:j<=k)(hr:Room k X.A)(hg:Gl X x)(ha:PA X (e::es) t)(hdb:(x==("__debug__":Str))=false:=by decide)
  (he:starEach (e::es) X.env=(false,eval e X.env)::starEach es X.env:=by rfl) (hpl:(backTo pos (starEach es X.env)).any (·.1)=false:=by rfl):PE X (.Call (.Name x p) (e::es) [] pos) (zEB sp [] E0 t):=by
 obtain⟨f,fd,G,m,kp,b⟩:=h;exact zKQ G (hr.mono hjk) hg m kp b .nil zb2 ha hdb he hpl
end
section
variable{P:qIy}{w:World}{K:qA1}{mg:Str->Option Value}{base:Heap}
theorem Def.ok{x:Str}{st:Stmt}{N ps:List Str}{k:Nat}{sp:Sp}(D:Def K mg x st)(S:FnScope N ps (zAB st))
  (hb:∀(kV doc pm:Value)(an:Option Addr)(cdv ct:Value)(us:List Value),us.length=ps.length->bindArgs (qB7 x x (zAW st) (zAT st) (zAB st) .none kV doc pm an cdv ct) ⟨us,[]⟩=pure (ps.zip us))
  (len:∀vs H Q E,sp vs H Q E->vs.length=ps.length)
  (hbody:∀(f:Addr)(cdv:Value)(A:qJ2)(outer:List Env)(s:qIv)(H:Hp)(vs:List V)(Q:VK)(E:XK),Room k (A.deeper (envOfC x (zAB st) s.heap.objs.size f cdv))->sp vs H Q E ->
   ∃t,PSs (cxOf CX0 P w K mg base N x (zAB st) f cdv A outer s H E).nox (zAT st) t/\t { nx:=fun _ H'=>Q .non H',rt:=Q } (start N vs) H):Has P w K mg base x (k+1) ps sp:=by
 obtain⟨f,fd,F,m⟩:=D;exact⟨f,fd,F.ok S len (fun cdv A outer s H vs Q E hr h=>hbody f cdv A outer s H vs Q E hr h),m,F.kp,F.binds hb⟩
end
section
variable{X:Cx}{pins:List (Addr×Obj)}{σ:St}{H:Hp}{s:qIv}
theorem Inv.turnedNew{h':Heap}{t':Nat}{fp:List Addr}{a:Addr}{o:HO}(I:Inv X pins σ H s)(hf:∀b∈fp,FpOk X pins H b)(k:∀b u,b∉fp->s.heap.get? b=some u->h'.get? b=some u)
  (hp:s.heap.objs.size<=a) (new:ObjOk X.prog X.w (upd H a o) h' a o):Inv X pins σ (upd H a o) { s with heap:=h',toks:=t' }:=by
 have hn:H a=none:=I.hok.fresh hp;have ne:∀b u,s.heap.get? b=some u->b≠a:=fun b u e=>qAq (qAg (qIx e) hp)
 have nfp:∀b u,H b=some u->b∉fp:=fun b u e z=>by rw[(hf b z).1]at e;cases e
 refine I.step (g':=s.gens) (d':=s.drawn) (ch:=fp) (fun b hb=>⟨(hf b hb).2.2.2.1,(hf b hb).2.1,(hf b hb).2.2.2.2.1,(hf b hb).2.2.2.2.2⟩) (fun b u _ _ hc e _=>k b u hc e) (fun b u _ _ hc e _=>⟨u.slots,k b u hc e⟩)
  (fun b u _ e n=>by rw[zAE (ne b u e)];exact n) (fun b u hc e=>⟨u,k b u hc e⟩) (fun b xs e=>by rw[zAE (zAH e hn)];exact e) (fun b u xs e=>by rw[zAE (zAH e hn)];exact e)
  (fun b ps e=>⟨#[],by rw[zAE (zAH e hn),e];simp⟩) (fun m hm=>?_) (fun b u e=>?_) I.bare
 ·obtain⟨u,es,ep,ho,r⟩:=hm;exact⟨u,es,ep,k _ u (fun z=>(hf _ z).2.1 rfl) ho,r⟩
 ·by_cases hb:b=a
  ·subst hb;rw[zAG]at e;cases e;exact new
  ·rw[zAE hb]at e;refine(I.hok b u e).stay (fun c v hc q=>k c v ?_ q) (fun c q=>by rw[zAE (zAH q hn)];exact q) (fun c xs q=>by rw[zAE (zAH q hn)];exact q) fun c _ _ q _=>by rw[zAE (zAH q hn)];exact q
   rcases hc with z|z
   ·rw[z];exact nfp b u e
   ·exact nfp c _ z
theorem Inv.turnedL{h':Heap}{t':Nat}{fp:List Addr}(I:Inv X pins σ H s)(hf:∀b∈fp,FpOk X pins H b)(k:∀b u,b∉fp->s.heap.get? b=some u->h'.get? b=some u):Inv X pins σ H { s with heap:=h',toks:=t' }:=by
 have nfp:∀b u,H b=some u->b∉fp:=fun b u e z=>by rw[(hf b z).1]at e;cases e
 refine I.step (g':=s.gens) (d':=s.drawn) (ch:=fp) (fun b hb=>⟨(hf b hb).2.2.2.1,(hf b hb).2.1,(hf b hb).2.2.2.2.1,(hf b hb).2.2.2.2.2⟩) (fun b u _ _ hc e _=>k b u hc e) (fun b u _ _ hc e _=>⟨u.slots,k b u hc e⟩)
  (fun b u _ e n=>n) (fun b u hc e=>⟨u,k b u hc e⟩) (fun b xs e=>e) (fun b u xs e=>e)
  (fun b ps e=>⟨#[],by rw[e];simp⟩) (fun m hm=>?_) (fun b u e=>?_) I.bare
 ·obtain⟨u,es,ep,ho,r⟩:=hm;exact⟨u,es,ep,k _ u (fun z=>(hf _ z).2.1 rfl) ho,r⟩
 ·refine(I.hok b u e).stay (fun c v hc q=>k c v ?_ q) (fun c q=>q) (fun c xs q=>q) fun c _ _ q _=>q
  rcases hc with z|z
  ·rw[z];exact nfp b u e
  ·exact nfp c _ z
def Ite(K:qA1)(a:Addr):It:=
 ⟨fun i H=>∃xs x,SqL K H a xs/\xs[i]?=some x,fun i H x H'=>∃T y,x=.ref T/\H T=none/\H'=upd H T (.tup [.int i,y])/\∀xs,SqL K H a xs->xs[i]?=some y,fun i H=>∃xs,SqL K H a xs/\xs.length<=i⟩
theorem zO6{P:qIy}{w:World}{K:qA1}{ts:List Expr}{kk:Nat}{tp:Pos}(a e it:Addr)(hei:e≠it) :
  Turn P w K (.Tuple ts kk tp) (Ite K a) [e,it] e (fun i h=>(∃old,IsEnum h e it i old)/\h.IsListIter it a i) where
 mem:=by simp
 obj:=fun i h st b hb=>by
  rcases qAf.mp hb with z|z
  ·subst z;obtain⟨⟨old,he⟩,_⟩:=st;exact⟨_,he,fun v z=>by cases z⟩
  ·have z':b=it:=by simpa using z
   subst z';obtain⟨_,o,e,c,d⟩:=st;exact⟨o,e,fun v z=>by rw[d]at z;cases z⟩
 keep:=fun i h h' st k=>⟨by obtain⟨⟨old,he⟩,_⟩:=st;exact⟨old,k e (by simp) _ he⟩,st.2.at fun o x=>k it (by simp) o x⟩
 item:=by
  intro X hP hw hK hc i pins s σ H E I hf st hg;subst hP hw hK;obtain⟨xs,x,hq,hx⟩:=hg;obtain⟨its,rv,p,hz⟩:=I.list hq;obtain⟨u,hu,ru⟩:=rv.get hx;obtain⟨⟨old,he⟩,hit⟩:=st;refine wpAny_pyNext_enum_item he hit p.isList (x:=u) (by simpa using hu) hei fun h' ho hit' hT hsz hk=>?_
  refine⟨_,rfl,wpAny_letOwnedTupleGo_enum ho fun h'' he'' hs''=>?_⟩;have hTe:s.heap.objs.size≠e:=qBm (qIx he);have hTi:s.heap.objs.size≠it:=by obtain⟨o,ho',_⟩:=hit;exact qBm (qIx ho')
  have kk:∀b u,b∉[e,it]->s.heap.get? b=some u->h''.get? b=some u:=fun b u hb q=>by
   have b1:b≠e:=fun z=>hb (by simp[z])
   have b2:b≠it:=fun z=>hb (by simp[z])
   exact(hs''.2 b b1).trans (hk b u b1 b2 q)
  have hT'':=(hs''.2 _ hTe).trans hT;refine⟨.ref s.heap.objs.size,_,I.turnedNew (t':=s.toks+1) (o:=.tup [.int i,x]) hf kk (qA6 _) ⟨by show 2<=sizeLine;decide,[.int i s.toks,u],.cons ⟨_,rfl⟩ (.cons ru .nil),⟨_,hT'',rfl,_,rfl⟩⟩,rfl,
   ⟨_,x,rfl,I.fresh,rfl,fun ys hy=>by rw[I.list_inj hy hq];exact hx⟩,⟨⟨_,by simpa using he''⟩,hit'.at fun o x=>(hs''.2 it hei.symm).trans x⟩,fun b hb=>?_⟩
  have hbs:b<s.heap.objs.size:=by
   rcases qAf.mp hb with z|z
   ·rw[z];exact qIx he
   ·have z':b=it:=by simpa using z
    rw[z'];obtain⟨o,ho',_⟩:=hit;exact qIx ho'
  rw[zAE (qAq hbs)];exact(hf b hb).1
 done:=by
  intro X hP hw hK hc i pins s σ H E I hf st hg;subst hP hw hK;obtain⟨xs,hq,hx⟩:=hg;obtain⟨its,rv,p,hz⟩:=I.list hq;have hl:=rv.length;obtain⟨⟨old,he⟩,hit⟩:=st;exact wpAny_pyNext_enum_end (I.ok.hd hc) he hit p.isList (by simp;lia) fun h' eb=>⟨rfl,I.turnedL (t':=s.toks) hf fun b u hb q=>eb b u (fun z=>hb (by simp[z])) q⟩
 self:=fun _ _ _ _ _ st h=>by obtain⟨⟨old,he⟩,_⟩:=st;exact qMh he h
def zWF(K:qA1)(tl:TA):TI:=fun σ H R=>tl σ H fun vs H1=>match vs with
 |[.ref a]=>(∃xs,SqL K H1 a xs)/\R (Ite K a) H1
 |_=>False
theorem zVM{ts:List Expr}{kk:Nat}{tp p pos:Pos}{a:Expr}{ta:TA}(hg:Gl X "enumerate")(hm:X.mg "enumerate" = none)(ha:PA X [a] ta)(hs:starEach [a] X.env=[(false,eval a X.env)]:=by rfl) :
  PI X (.Tuple ts kk tp) (.Call (.Name "enumerate" p) [a] [] pos) (zWF X.K ta):=by
 intro pins s σ H R I h;refine Call_ (zG5 I hg hm boot_enumerate (qC3 (thn (ha pos pins s σ H _ I h) fun us s1 z0=>?_) hs rfl));obtain⟨vs,H1,I1,r1,q1⟩:=z0;cases vs with
 |nil=>exact qAa q1
 |cons hd1 tl1=>
  cases hd1 with
  |ref l=>
   cases tl1 with
   |nil=>
    obtain⟨⟨xs,hq⟩,q⟩:=q1;obtain⟨u,rfl,rx⟩:=zEU r1;cases rx;obtain⟨its,rv,pl,hz⟩:=I1.list hq;refine call_enumerate_list pl.isList fun h' he hit hsz hk=>?_
    refine qMh he ?_;have hne:s1.heap.objs.size+1≠s1.heap.objs.size:=by lia
    refine⟨s1.heap.objs.size+1,[s1.heap.objs.size+1,s1.heap.objs.size],_,_,H1,rfl,I1.kept (t':=s1.toks) hk,zO6 l _ _ hne,⟨⟨_,he⟩,hit⟩,fun b hb=>?_,q⟩;have hb':s1.heap.objs.size<=b:=by
     rcases qAf.mp hb with z|z
     ·rw[z];exact qDx _
     ·have z':b=s1.heap.objs.size:=by simpa using z
      rw[z'];exact qA6 _
    exact I1.fpOk hb' (I1.hok.fresh hb')
   |cons _ _=>exact qAa q1
  |_=>exact qAa q1
end
section
variable{X:Cx}{K:qA1}
theorem zBA(hK:X.K=K:=by rfl):zCO X (.builtin "len") (zVC K):=hK▸zbI
theorem zDA(hc:X.calm=true)(hK:X.K=K:=by rfl):zCO X (.type "list") (zJ5 K):=hK▸zZ1 hc
theorem zBT(hK:X.K=K:=by rfl):IxR X (rIxU K):=hK▸u_ix
theorem zM5{ts:List Expr}{kk:Nat}{tp p pos:Pos}{a:Expr}{ta:TA}(hg:Gl X "enumerate")(hm:X.mg "enumerate" = none)(ha:PA X [a] ta)(hs:starEach [a] X.env=[(false,eval a X.env)]:=by rfl)(hK:X.K=K:=by rfl) :
  PI X (.Tuple ts kk tp) (.Call (.Name "enumerate" p) [a] [] pos) (zWF K ta):=hK▸zVM hg hm ha hs
theorem zKO{es:List Expr}{k:Nat}{t:TGs}{n:Nat}{pos:Pos}(hc:X.calm=true)(h:PGs X es t)
  (hn:(assignEach es X.env).length=n:=by rfl) (hst:(assignEach es X.env).findIdx? (·.1)=none:=by rfl) (hK:X.K=K:=by rfl):PG X (.Tuple es k pos) (gTup K n t):=hK▸zYC hc h hn hst
noncomputable def tML(r:V->List V->Hp->VK->Prop)(to:TE)(t:TA):TE:=fun σ H Q=>to σ H fun x H1=>match x with
 |.ref p=>∃xs,H1 p=some (.lst xs)/\t σ H1 fun vs H2=>r x vs H2 Q
 |_=>False
variable{o e:Expr}{es:List Expr}{to:TE}{t:TA}{name:Str}{apos cpos:Pos}{T id:String}{r:V->List V->Hp->VK->Prop}
theorem zNG(pa:PlainAttrs "list")(slot:Slot "list" name id)(hty:typeOf (.builtin id)=pure (.type "method_descriptor"))(hm:MtR X id r)(ho:PE X o to)(ha:PA X (e::es) t)
  (hbase:attributeBase o name X.env (eval o X.env)=eval o X.env:=by rfl)
  (hfew:((backTo cpos (starEach (e::es) X.env)).all (fun x=>!x.1)&&(backToKw cpos (keywordEach [] X.env)).all (fun x=>x.1.isSome)
   && decide ((e::es).length+([]:List qN5).length+(if([]:List qN5).isEmpty then 0 else 1)<30))=true:=by rfl)
  (hline:(apos.endLine==cpos.line)=true:=by rfl) (hs:starEach (e::es) X.env=(false,eval e X.env)::starEach es X.env:=by rfl) (hplain:(backTo cpos (starEach es X.env)).any (·.1)=false:=by rfl) :
  PE X (.Call (.Attribute o name apos) (e::es) [] cpos) (tML r to t):=by
 intro pins s σ H Q I h;refine wpAny_Call_method_late hbase hfew hline rfl (thn (ho pins s σ H _ I h) fun v s1 z0=>?_);obtain⟨x,H1,I1,r1,q1⟩:=z0;cases x with
 |ref p=>?_
 |_=>exact qAa q1
 obtain⟨xs,hx,q1⟩:=q1;obtain⟨h1,h2⟩:=zXA (T:="list") I1 r1 (.inl ⟨rfl,xs,SqL.of hx⟩);refine⟨"list",id,pa,slot,hty,h1,h2,?_⟩;have hA:=ha cpos pins s1 σ H1 _ I1 q1;rw[hs]at hA ⊢;refine qLc (by show(false||(backTo cpos (starEach es X.env)).any (·.1))=false;rw[hplain]<;>rfl) (qLq ?_);exact thn hA fun us s2 ⟨vs,H2,I2,r2,q2⟩=>hm pins s2 σ H2 (.ref p) vs v us Q I2 r1 r2 q2
end
theorem same_new{H:Hp}{p:Addr}(h:H p=none)(o:HO):Same H (upd H p o):=fun b u q=>by rw[zAE (zAH q h)];exact q
theorem Same.upd{H H':Hp}{p:Addr}(s:Same H H')(h:H p=none)(o:HO):Same H (upd H' p o):=fun b u q=>by rw[zAE (zAH q h)];exact s b u q
theorem SqL.sq{K:qA1}{H H':Hp}{a:Addr}{xs:List V}(h:SqL K H a xs)(s:Same H H'):SqL K H' a xs:=s.seq h
theorem zCD{H:Hp}:∀(ns:List Int),RepL H (ns.map Dat.int) (ns.map V.int)
 |[]=>rfl
 |n::r=>⟨.int n,r.map V.int,rfl,rfl,zCD r⟩
theorem zGD:∀(ns:List Int),Dat.depL (ns.map Dat.int)=0
 |[]=>rfl
 |n::r=>by
  rw[qAk,Dat.depL,zGD r];rfl
theorem zFK:∀(ns ms:List Int),Dat.eqL (ns.map Dat.int) (ms.map Dat.int)=decide (ns=ms)
 |[],[]=>by simp[Dat.eqL]
 |[],_::_=>by simp[Dat.eqL]
 |_::_,[]=>by simp[Dat.eqL]
 |n::r,m::q=>by
  rw[qAk,qAk,Dat.eqL,zFK r q,Dat.eq];by_cases h:n=m
  ·subst h;simp
  ·simp[h]
theorem zLT{ns:List Int}{i:Nat}{x:Int}:(ns.map V.int).set i (.int x)=(ns.set i x).map V.int:=by
 rw[qE4]
theorem big{n:Nat}(h:n<=100000):n<sizeLine:=by rw[qJa];lia
section
variable{X:Cx}
end
theorem zGF{K:qA1}{a:Addr}{xs:List V}{k:Nat}{g:TG}{tif:TT}{te:TE}{σ:St}{H:Hp}{Q:VK}(Pv:Nat->List V->Hp->Prop)(h0:Pv 0 [] H)(hl:∀i acc H,i<=xs.length->Pv i acc H->SqL K H a xs)(hz:∀i acc H,i<xs.length->Pv i acc H->acc.length<sizeLine)
  (hs:∀i x acc H T,xs[i]?=some x->Pv i acc H->H T=none->g (.ref T) (σ++qA4 k none) (upd H T (.tup [.int i,x])) fun σ2 H2=>∃own:St,own.length=k/\σ2=σ++own/\tif σ2 H2 fun b H3=>if b=true then te σ2 H3 fun v H4=>Pv (i+1) (acc++[v]) H4 else Pv (i+1) acc H3)
  (hd:∀acc H,Pv xs.length acc H->∀D,H D=none->Q (.ref D) (upd H D (.lst acc))):zTU k g tif te σ Q (Ite K a) H:=by
 refine⟨fun i m acc H=>m=xs.length-i/\i<=xs.length/\Pv i acc H,⟨xs.length,by simp,qAu _,h0⟩,?_⟩
 rintro i m acc H ⟨rfl,hi,p⟩
 have q:=hl i acc H hi p;by_cases hlt:i<xs.length
 ·refine .inr ⟨⟨xs,xs[i],q,by simp[hlt]⟩,hz i acc H hlt p,Pv (i+1),fun acc' H' p'=>⟨xs.length-(i+1),by lia,rfl,hlt,p'⟩,fun x H' y=>?_⟩;obtain⟨T,y,e1,e2,e3,e4⟩:=y;subst e1 e3;exact hs i y acc _ T (e4 xs q) p e2
 ·have e:i=xs.length:=by lia
  subst e;exact .inl ⟨⟨xs,q,qA6 _⟩,hd acc H p⟩
end L2
namespace Mi
open PySem
inductive Sv where
 |i (n:Int)|s (x:Str)
inductive Sw where
 |non|bl (b:Bool)|int (i:Int)|str (x:Str)
inductive Dt where
 |non|bl (b:Bool)|int (i:Int)|str (x:Str)|lst (xs:List Dt)|tup (xs:List Dt)|scr (ns:List Int)|exc (c f:Str) (d:Dt)|ins (c:Str) (fs:List (Str×Sv))|dct (kvs:List (Sum Int Str×Sw))|fn (x:Str) (d:Dt)|dtt (ks:List (List Sw)) (xs:List Dt)|loc (a:Nat) (d:Dt)|dsk (w:Str) (ws:List Str)|fnc (x:Str)
mutual
def Dt.dep:Dt->Nat
 |.lst xs=>Dt.depL xs+1
 |.tup xs=>Dt.depL xs+1
 |.scr _=>1000
 |.exc _ _ _=>1000
 |.fn _ _=>1000
 |.dtt _ _=>1000
 |.loc _ _=>1000
 |.dsk _ _=>1000
 |.fnc _=>1000
 |.ins _ _=>1000
 |.dct _=>1000
 |_=>0
def Dt.depL:List Dt->Nat
 |[]=>0
 |x::r=>max x.dep (Dt.depL r)
end
mutual
def Dt.eq:Dt->Dt->Bool
 |.non,.non=>true
 |.bl a,.bl b=>a==b
 |.bl a,.int b=>(if a then 1 else 0)==b
 |.int a,.bl b=>a==(if b then 1 else 0)
 |.int a,.int b=>a==b
 |.str a,.str b=>a==b
 |.lst xs,.lst ys=>Dt.eqL xs ys
 |.tup xs,.tup ys=>Dt.eqL xs ys
 |_,_=>false
def Dt.eqL:List Dt->List Dt->Bool
 |[],[]=>true
 |x::r,y::q=>Dt.eq x y&&Dt.eqL r q
 |_,_=>false
end
structure Xn where
 cls:Str
 f:Str
 d:Dt
abbrev R(α:Type):=Option (Except Xn α)
noncomputable def okR{α:Type}(a:α):R α:=some (.ok a)
noncomputable def zA2{α β:Type}(x:R α)(f:α->R β):R β:=match x with
 |none=>none
 |some (.error e)=>some (.error e)
 |some (.ok a)=>f a
def optR{α:Type}(o:Option α):R α:=match o with
 |none=>none
 |some a=>okR a
@[simp] theorem zA0{α β:Type}(a:α)(f:α->R β):zA2 (okR a) f=f a:=rfl
@[simp] theorem zA4{α β:Type}(f:α->R β):zA2 none f=none:=rfl
@[simp] theorem zA9{α β:Type}(e:Xn)(f:α->R β):zA2 (some (.error e)) f=some (.error e):=rfl
@[simp] theorem zA7{α:Type}(a:α):optR (some a)=okR a:=rfl
@[simp] theorem zA8{α:Type}:optR (none:Option α)=none:=rfl
abbrev Rh:=List (Option Dt)
abbrev Sl:=Dt×Nat
abbrev Ro:=List (Option Sl)
abbrev EM:=Rh->R Dt
abbrev TM:=Rh->R Bool
abbrev AM:=Rh->R (List Dt)
abbrev FM:=List Dt->R Dt
noncomputable def ixA(n:Nat)(i:Int):Option Nat:=if 0<=i then(if i<n then some i.toNat else none)else if -(n:Int)<=i then some (i+n).toNat else none
def itA{α:Type}(xs:List α)(i:Int):Option α:=(ixA xs.length i).bind fun j=>xs[j]?
noncomputable def addD:Dt->Dt->Option Dt
 |.int i,.int j=>some (.int (i+j))
 |.str i,.str j=>@ite _ (i.length+j.length<=100000) (qA2 _) (some (.str (i++j))) none
 |.lst xs,.lst ys=>@ite _ (xs.length+ys.length<=100000) (qA2 _) (some (.lst (xs++ys))) none
 |_,_=>none
noncomputable def subD:Dt->Dt->Option Dt
 |.int i,.int j=>some (.int (i-j))
 |_,_=>none
noncomputable def mulD:Dt->Dt->Option Dt
 |.int i,.int j=>@ite _ (((-18446744073709551616<i/\i<18446744073709551616)\/(-18446744073709551616<j/\j<18446744073709551616))\/i.natAbs.log2+j.natAbs.log2<=67108864) (qA2 _) (some (.int (i*j))) none
 |_,_=>none
noncomputable def divD:Dt->Dt->Option Dt
 |.int i,.int j=>@ite _ (0<j/\j<1000000000000000000000000) (qA2 _) (some (.int (i/j))) none
 |_,_=>none
noncomputable def modD:Dt->Dt->Option Dt
 |.int i,.int j=>if 0<j then some (.int (i%j))else none
 |_,_=>none
noncomputable def powD:Dt->Dt->Option Dt
 |.int i,.int j=>@ite _ (0<=j/\j<=1000000/\i.natAbs<18446744073709551616) (qA2 _) (some (.int (i ^ j.toNat))) none
 |_,_=>none
noncomputable def negD:Dt->Option Dt
 |.int i=>some (.int (-i))
 |_=>none
noncomputable def cmpD(p:Int->Int->Bool):Dt->Dt->Option Dt
 |.int i,.int j=>some (.bl (p i j))
 |_,_=>none
noncomputable def eqD(x y:Dt):Option Dt:=if x.dep<=40/\y.dep<=40 then some (.bl (Dt.eq x y))else none
noncomputable def neD(x y:Dt):Option Dt:=if x.dep<=40/\y.dep<=40 then some (.bl (!Dt.eq x y))else none
noncomputable def isNonD:Dt->Bool
 |.non=>true
 |_=>false
def isD(x y:Dt):Option Dt:=match y with
 |.non=>some (.bl (isNonD x))
 |_=>none
noncomputable def zbJ(x y:Dt):Option Dt:=match y with
 |.non=>some (.bl (!isNonD x))
 |_=>none
def ixD:Dt->Dt->Option Dt
 |.lst xs,.int i=>itA xs i
 |.tup xs,.int i=>itA xs i
 |.scr ns,.int i=>(itA ns i).map .int
 |.str z,.int i=>@ite _ (z.length<=100000) (qA2 _) ((itA z.cps.toList i).map fun c=>.str ⟨#[c]⟩) none
 |_,_=>none
noncomputable def lenD:List Dt->Option Dt
 |[.lst xs]=>some (.int xs.length)
 |[.tup xs]=>some (.int xs.length)
 |[.scr ns]=>some (.int ns.length)
 |[.str z]=>@ite _ (z.length<=100000) (qA2 _) (some (.int z.length)) none
 |_=>none
noncomputable def listD:List Dt->Option Dt
 |[.lst xs]=>some (.lst xs)
 |[.tup xs]=>some (.lst xs)
 |[.scr ns]=>some (.lst (ns.map .int))
 |_=>none
noncomputable def nums(lo:Int)(n:Nat):List Dt:=(qA7 n).map fun i:Nat=>.int (lo+(i:Int))
def rangeD:List Dt->Option Dt
 |[.int j]=>@ite _ ((-4611686018427387904<=j/\j<4611686018427387904)/\j<=100000) (qA2 _) (some (.lst (nums 0 j.toNat))) none
 |[.int i,.int j]=>@ite _ ((-4611686018427387904<=i/\i<4611686018427387904/\-4611686018427387904<=j/\j<4611686018427387904)/\j-i<=100000) (qA2 _) (some (.lst (nums i (j-i).toNat))) none
 |_=>none
noncomputable def tyD:Dt->String
 |.non=>"NoneType"
 |.bl _=>"bool"
 |.int _=>"int"
 |.str _=>"str"
 |.lst _=>"list"
 |.tup _=>"tuple"
 |.scr _=>""
 |.exc _ _ _=>""
 |.fn _ _=>""
 |.dtt _ _=>""
 |.loc _ _=>""
 |.dsk _ _=>""
 |.fnc _=>""
 |.ins _ _=>""
 |.dct _=>""
def isiD(n:String)(x:Dt):Option Dt:=if tyD x = "" then none else some (.bl (tyD x==n||(tyD x == "bool" && n == "int")))
noncomputable def zUO:List Dt->Option (List Bool)
 |[]=>some []
 |.bl b::r=>(zUO r).map (b::·)
 |_::_=>none
def allD:List Dt->Option Dt
 |[.lst xs]=>(zUO xs).map fun bs=>.bl (bs.all id)
 |_=>none
noncomputable def maxD:List Dt->Option Dt
 |[.int i,.int j]=>some (.int (if j>i then j else i))
 |_=>none
noncomputable def minD:List Dt->Option Dt
 |[.int i,.int j]=>some (.int (if j<i then j else i))
 |_=>none
noncomputable def absD:List Dt->Option Dt
 |[.int i]=>some (.int (if i<0 then -i else i))
 |_=>none
noncomputable def hasD(x:Dt)(ys:List Dt):Option Bool:=if x.dep=0/\Dt.depL ys=0 then some (ys.any fun y=>Dt.eq y x)else none
def inD(ng:Bool)(x y:Dt):Option Dt:=match y with
 |.lst ys=>(hasD x ys).map fun b=>.bl (if ng=true then !b else b)
 |.tup ys=>(hasD x ys).map fun b=>.bl (if ng=true then !b else b)
 |.str z=>match x with
  |.str y=>match y.cps.toList with
   |[c]=>some (.bl (if ng=true then !decide (c∈z.cps.toList)else decide (c∈z.cps.toList)))
   |_=>none
  |_=>none
 |_=>none
noncomputable def cutIx(n d:Nat):Option Int->Nat
 |none=>d
 |some v=>if v<0 then(v+(n:Int)).toNat else min v.toNat n
def cutA{α:Type}(xs:List α)(lo hi:Option Int):List α:=(xs.drop (cutIx xs.length 0 lo)).take (cutIx xs.length xs.length hi-cutIx xs.length 0 lo)
def slD:Dt->Option Int->Option Int->Option Dt
 |.lst xs,lo,hi=>some (.lst (cutA xs lo hi))
 |.str z,lo,hi=>@ite _ (z.length<=100000) (qA2 _) (some (.str ⟨(cutA z.cps.toList lo hi).toArray⟩)) none
 |_,_,_=>none
abbrev OM:=Rh->R (Option Int)
def oNo:OM:=fun _=>okR none
def oE(e:Rh->R Dt):OM:=fun ρ=>zA2 (e ρ) fun d=>match d with
 |.int i=>okR (some i)
 |_=>none
def eSl(a:Rh->R Dt)(lo hi:OM):Rh->R Dt:=fun ρ=>zA2 (a ρ) fun x=>zA2 (lo ρ) fun l=>zA2 (hi ρ) fun h=>optR (slD x l h)
noncomputable def posC(c:Nat):List Nat->Option Nat
 |[]=>none
 |x::r=>if x=c then some 0 else(posC c r).map (·+1)
def zZK(x:Dt)(ys:List Dt):Option Dt:=match x,ys with
 |.str z,[.str y]=>match y.cps.toList with
  |[c]=>some (.int (match posC c z.cps.toList with|some i=>(i:Int)|none=>-1))
  |_=>none
 |_,_=>none
noncomputable def zUK(x:Dt)(ys:List Dt):Option Dt:=match x,ys with
 |.str z,[.str y]=>match y.cps.toList with
  |[c]=>some (.int (z.cps.toList.count c:Nat))
  |_=>none
 |_,_=>none
noncomputable def zPQ:Dt->Bool
 |.str _=>true
 |_=>false
def eMt(f:Dt->List Dt->Option Dt)(a:Rh->R Dt)(am:Rh->R (List Dt)):Rh->R Dt:=fun ρ=>zA2 (a ρ) fun x=>if zPQ x=true then zA2 (am ρ) fun xs=>optR (f x xs)else none
noncomputable def signsD(z:Str):List Dt:=z.cps.toList.map fun c=>.str ⟨#[c]⟩
def eC(d:Dt):EM:=fun _=>okR d
def eV(i:Nat):EM:=fun ρ=>match ρ[i]? with
 |some (some d)=>okR d
 |_=>none
def eB(f:Dt->Dt->Option Dt)(a b:EM):EM:=fun ρ=>zA2 (a ρ) fun x=>zA2 (b ρ) fun y=>optR (f x y)
def eU(f:Dt->Option Dt)(a:EM):EM:=fun ρ=>zA2 (a ρ) fun x=>optR (f x)
def eAnd(a b:EM):EM:=fun ρ=>zA2 (a ρ) fun x=>match x with
 |.bl k=>if k=true then b ρ else okR (.bl false)
 |_=>none
def eOr(a b:EM):EM:=fun ρ=>zA2 (a ρ) fun x=>match x with
 |.bl k=>if k=true then okR (.bl true)else b ρ
 |_=>none
def eNot(a:EM):EM:=fun ρ=>zA2 (a ρ) fun x=>match x with
 |.bl k=>okR (.bl (!k))
 |_=>none
def zZP(p q:Dt->Dt->Option Dt)(a b c:EM):EM:=fun ρ=>zA2 (a ρ) fun x=>zA2 (b ρ) fun y=>zA2 (optR (p x y)) fun z=>match z with
 |.bl k=>if k=true then zA2 (c ρ) fun w=>optR (q y w)else okR (.bl false)
 |_=>none
def eIf(c:TM)(a b:EM):EM:=fun ρ=>zA2 (c ρ) fun k=>if k=true then a ρ else b ρ
def aNil:AM:=fun _=>okR []
def aCons(e:EM)(r:AM):AM:=fun ρ=>zA2 (e ρ) fun x=>zA2 (r ρ) fun xs=>okR (x::xs)
def eLst(a:AM):EM:=fun ρ=>zA2 (a ρ) fun xs=>@ite _ (xs.length<=100000) (qA2 _) (okR (.lst xs)) none
def eTup(a:AM):EM:=fun ρ=>zA2 (a ρ) fun xs=>@ite _ (xs.length<=100000) (qA2 _) (okR (.tup xs)) none
def eCall(f:FM)(a:AM):EM:=fun ρ=>zA2 (a ρ) f
def eBi(f:List Dt->Option Dt)(a:AM):EM:=fun ρ=>zA2 (a ρ) fun xs=>optR (f xs)
def eIsi(n:String)(a:EM):EM:=fun ρ=>zA2 (a ρ) fun x=>optR (isiD n x)
def tB(a:EM):TM:=fun ρ=>zA2 (a ρ) fun x=>match x with
 |.bl k=>okR k
 |_=>none
def tM(a:EM):TM:=fun ρ=>zA2 (a ρ) fun x=>match x with
 |.bl k=>okR k
 |.int i=>okR (i != 0)
 |.non=>okR false
 |_=>none
def tAn(a b:TM):TM:=fun ρ=>zA2 (a ρ) fun k=>if k=true then b ρ else okR false
def tOr(a b:TM):TM:=fun ρ=>zA2 (a ρ) fun k=>if k=true then okR true else b ρ
def tNo(a:TM):TM:=fun ρ=>zA2 (a ρ) fun k=>okR (!k)
def tYes:TM:=fun _=>okR true
abbrev IM:=Rh->R (List Dt)
def iSq(e:EM):IM:=fun ρ=>zA2 (e ρ) fun d=>match d with
 |.lst xs=>okR xs
 |.tup xs=>okR xs
 |.scr ns=>okR (ns.map .int)
 |.str z=>okR (signsD z)
 |_=>none
def iR1(e:AM):IM:=fun ρ=>zA2 (e ρ) fun vs=>match vs with
 |[.int j]=>@ite _ (-4611686018427387904<=j/\j<4611686018427387904) (qA2 _) (okR (nums 0 j.toNat)) none
 |_=>none
noncomputable def enumD(n:Nat):List Dt->List Dt
 |[]=>[]
 |x::r=>.tup [.int n,x]::enumD (n+1) r
def iEn(e:AM):IM:=fun ρ=>zA2 (e ρ) fun vs=>match vs with
 |[.lst xs]=>okR (enumD 0 xs)
 |_=>none
noncomputable def zipD:List Dt->List Dt->List Dt
 |x::r,y::q=>.tup [x,y]::zipD r q
 |_,_=>[]
def iZi(e:AM):IM:=fun ρ=>zA2 (e ρ) fun vs=>match vs with
 |[.lst xs,.lst ys]=>okR (zipD xs ys)
 |_=>none
inductive Tg where
 |one (i:Nat)
 |tup (is:List Nat)
noncomputable def zAO:Tg->Dt->Option (List (Nat×Dt))
 |.one i,d=>some [(i,d)]
 |.tup is,.tup ds=>if ds.length=is.length then some (is.zip ds)else none
 |.tup _,_=>none
noncomputable def Tg.idx:Tg->List Nat
 |.one i=>[i]
 |.tup is=>is
noncomputable def zAN:Rh->List (Nat×Dt)->Rh
 |ρ,[]=>ρ
 |ρ,(i,d)::r=>zAN (ρ.set i (some d)) r
noncomputable def zAQ:Ro->List (Nat×Dt)->Ro
 |ρ,[]=>ρ
 |ρ,(i,d)::r=>zAQ (ρ.set i (some (d,0))) r
def compGo(ρ:Rh)(k:Nat)(tg:Tg)(c:TM)(e:EM):List Dt->List Dt->R (List Dt)
 |[],acc=>okR acc
 |d::ds,acc=>match zAO tg d with
  |none=>none
  |some bs=>zA2 (c (zAN (ρ++qA4 k none) bs)) fun b=>if b=true then zA2 (e (zAN (ρ++qA4 k none) bs)) fun x=>compGo ρ k tg c e ds (acc++[x])else compGo ρ k tg c e ds acc
def eComp(it:IM)(k:Nat)(tg:Tg)(c:TM)(e:EM):EM:=fun ρ=>zA2 (it ρ) fun ds=>@ite _ (ds.length<=100000/\(tg.idx.all fun i=>decide (ρ.length<=i))=true) (qA2 _) (zA2 (compGo ρ k tg c e ds []) fun es=>okR (.lst es)) none
inductive Out where
 |nx (ρ:Ro)|rt (d:Dt)|bk (ρ:Ro)|ct (ρ:Ro)
abbrev SM:=Ro->R Out
noncomputable def full(ρ:Ro):Rh:=ρ.map fun o=>o.map qF7
noncomputable def frz(ρ:Ro):Rh:=ρ.map fun o=>match o with
 |some (d,n)=>if n=0\/d.dep=0 then some d else none
 |none=>none
noncomputable def frz1(i:Nat)(ρ:Ro):Ro:=match ρ[i]? with
 |some (some (d,_))=>ρ.set i (some (d,0))
 |_=>ρ
def frzAt:List Nat->Ro->Ro
 |[],ρ=>ρ
 |i::r,ρ=>frzAt r (frz1 i ρ)
def sNil:SM:=fun ρ=>okR (.nx ρ)
def sSeq(a b:SM):SM:=fun ρ=>zA2 (a ρ) fun o=>match o with
 |.nx ρ'=>b ρ'
 |o=>okR o
noncomputable def zXL:SM:=fun _=>none
def zXM:SM:=fun ρ=>okR (.bk ρ)
def zaX:SM:=fun ρ=>okR (.ct ρ)
def sIf(c:TM)(a b:SM):SM:=fun ρ=>zA2 (c (full ρ)) fun k=>if k=true then a ρ else b ρ
def zaV(e:EM):SM:=fun ρ=>zA2 (e (full ρ)) fun _=>okR (.nx ρ)
def sSet(i n:Nat)(vs:List Nat)(e:EM):SM:=fun ρ=>zA2 (e (full ρ)) fun d=>
 if d.dep<=n then okR (.nx (ρ.set i (some (d,n))))else zA2 (e (frz (frzAt vs ρ))) fun d'=>okR (.nx ((frzAt vs ρ).set i (some (d',n))))
def sRet(L n:Nat)(vs:List Nat)(e:EM):SM:=fun ρ=>zA2 (e (full ρ)) fun d=>
 if d.dep<=n/\d.dep<=L then okR (.rt d)else if n=L then zA2 (e (frz (frzAt vs ρ))) fun d'=>okR (.rt d')else none
def zaT:SM:=fun _=>okR (.rt .non)
def sRetV(L i:Nat):SM:=fun ρ=>match ρ[i]? with
 |some (some (d,k))=>if k=L\/L=0\/(d.dep<=k/\d.dep<=L/\k<1000)then okR (.rt d)else none
 |_=>none
def sApp(i n:Nat)(e:EM):SM:=fun ρ=>match ρ[i]? with
 |some (some (.lst ds,k+1))=>zA2 (e (full ρ)) fun d=>@ite _ (ds.length<=100000/\d.dep<=n/\d.dep<=k) (qA2 _) (okR (.nx (ρ.set i (some (.lst (ds++[d]),k+1))))) none
 |_=>none
def sPop(j i:Nat)(e:EM):SM:=fun ρ=>match ρ[i]? with
 |some (some (.lst ds,k+1))=>zA2 (e (full ρ)) fun d=>match d with
  |.int z=>match ixA ds.length z with
   |some q=>match ds[q]? with
    |some c=>@ite _ (i≠j/\ds.length<=1000000) (qA2 _) (okR (.nx ((ρ.set i (some (.lst (ds.eraseIdx q),k+1))).set j (some (c,k))))) none
    |none=>none
   |none=>none
  |_=>none
 |_=>none
def sItem(i n:Nat)(e1 e2:EM):SM:=fun ρ=>zA2 (e2 (full ρ)) fun d=>match ρ[i]? with
 |some (some (.lst ds,k+1))=>zA2 (e1 (full ρ)) fun z=>match z with
  |.int z=>match ixA ds.length z with
   |some q=>if d.dep<=n/\d.dep<=k then okR (.nx (ρ.set i (some (.lst (ds.set q d),k+1))))else none
   |none=>none
  |_=>none
 |_=>none
def forGo(tg:Tg)(b:SM):List Dt->SM
 |[],ρ=>okR (.nx ρ)
 |d::ds,ρ=>match zAO tg d with
  |none=>none
  |some bs=>zA2 (b (zAQ ρ bs)) fun o=>match o with
   |.nx ρ'=>forGo tg b ds ρ'
   |.ct ρ'=>forGo tg b ds ρ'
   |.bk ρ'=>okR (.nx ρ')
   |.rt d=>okR (.rt d)
def sFor(vs:List Nat)(it:IM)(tg:Tg)(b:SM):SM:=fun ρ=>zA2 (it (frz (frzAt vs ρ))) fun ds=>forGo tg b ds (frzAt vs ρ)
def sForR(it:IM)(i:Nat)(b:SM):SM:=fun ρ=>zA2 (it (full ρ)) fun ds=>forGo (.one i) b ds ρ
def whGo(c:TM)(b:SM):Nat->SM
 |0,_=>none
 |m+1,ρ=>zA2 (c (full ρ)) fun k=>if k=true then zA2 (b ρ) fun o=>match o with
   |.nx ρ'=>whGo c b m ρ'
   |.ct ρ'=>whGo c b m ρ'
   |.bk ρ'=>okR (.nx ρ')
   |.rt d=>okR (.rt d)
  else okR (.nx ρ)
noncomputable def WNs:{ n:Nat // n=1000000 }:=Classical.choice ⟨⟨1000000,rfl⟩⟩
noncomputable def WN:Nat:=WNs.val
def zTW(c:TM)(b:SM):SM:=fun ρ=>whGo c b WN ρ
noncomputable def startO(n:Nat)(ds:List Dt):Ro:=ds.map (fun d=>some (d,0))++qA4 (n-ds.length) none
def endF:Out->R Dt
 |.nx _=>okR .non
 |.rt d=>okR d
 |_=>none
def runF(P n:Nat)(b:SM):FM:=fun ds=>if ds.length=P then zA2 (b (startO n ds)) endF else none
end Mi
namespace L2
open PySem PySem.Spec PyProof.Rows
theorem zUI(n d:Nat)(o:Option Int)(hd:d<=n):HT.sIx n d o<=n:=by
 cases o with
 |none=>exact hd
 |some v=>
  show(if v<0 then(v+(n:Int)).toNat else min v.toNat n)<=n
  split<;>lia
theorem zNR(lo hi:Option Int)(n:Nat):qJm lo hi 1 n=(qA7 (HT.sIx n n hi-HT.sIx n 0 lo)).map fun k=>HT.sIx n 0 lo+k:=by
 unfold qJm sliceRange;have c1:∀(o:Option Int)(d:Nat),(match o with|none=>(d:Int)|some i=>(if(1:Int)>0 then max 0 (min (if i<0 then i+(n:Int)else i) n)else max (-1) (min (if i<0 then i+(n:Int)else i) (n-1))))=((HT.sIx n d o:Nat):Int):=by
  intro o d;cases o with
  |none=>rfl
  |some v=>
   show _=(((if v<0 then(v+(n:Int)).toNat else min v.toNat n:Nat)):Int)
   dsimp only;rw[if_pos (by decide)]
   split<;>lia
 dsimp only;rw[if_pos (show(1:Int)>0 by decide),if_pos (show(1:Int)>0 by decide),if_pos (show(1:Int)>0 by decide)];have e1:=c1 lo 0;have e2:=c1 hi n;rw[show((0:Nat):Int)=0 by rfl]at e1;have h1:∀a b:Int,a=((HT.sIx n 0 lo:Nat):Int)->b=((HT.sIx n n hi:Nat):Int)->(qA7 ((if a<b then(b-a+1-1)/1 else 0).toNat)).map (fun k:Nat=>(a+1*(k:Int)).toNat)=(qA7 (HT.sIx n n hi-HT.sIx n 0 lo)).map fun k=>HT.sIx n 0 lo+k:=by
  intro a b ha hb;subst ha hb;have e:(if((HT.sIx n 0 lo:Nat):Int)<((HT.sIx n n hi:Nat):Int)then(((HT.sIx n n hi:Nat):Int)-((HT.sIx n 0 lo:Nat):Int)+1-1)/1 else 0).toNat=HT.sIx n n hi-HT.sIx n 0 lo:=by
   split
   ·rw[qI9];lia
   ·lia
  rw[e];refine qAo fun k _=>?_
  lia
 exact h1 _ _ e1 e2
theorem zOX:∀(xs:List Nat)(a k:Nat),a+k<=xs.length->((qA7 k).map fun j=>a+j).filterMap (xs[·]?)=(xs.drop a).take k:=by
 intro xs a k h;induction k with
 |zero=>simp
 |succ k ih=>
  rw[qGr,qBa,List.filterMap_append,ih (by lia),qG4]
  congr 1;have:a+k<xs.length:=by lia
  simp[qFq,this]
theorem zRH(z:Str)(lo hi:Option Int):qN7 z lo hi=⟨(Mi.cutA z.cps.toList lo hi).toArray⟩:=by
 obtain⟨⟨xs⟩⟩:=z;have hl:(⟨⟨xs⟩⟩:Str).length=xs.length:=rfl;unfold qN7;rw[zNR,hl];have e0:∀o d,Mi.cutIx xs.length d o=HT.sIx xs.length d o:=fun o d=>by cases o<;>rfl
 have hb:=zUI xs.length xs.length hi (qA6 _);have ha:=zUI xs.length 0 lo (qAu _);have hc:Mi.cutA xs lo hi=(xs.drop (HT.sIx xs.length 0 lo)).take (HT.sIx xs.length xs.length hi-HT.sIx xs.length 0 lo):=by
  unfold Mi.cutA;rw[e0,e0]
 show _=(⟨(Mi.cutA xs lo hi).toArray⟩:Str);rw[hc];split
 ·rename_i h
  have h':HT.sIx xs.length xs.length hi-HT.sIx xs.length 0 lo=xs.length:=by simpa using h
  have a0:HT.sIx xs.length 0 lo=0:=by lia
  rw[h',a0,qCv,qD0]
 ·by_cases hle:HT.sIx xs.length 0 lo<=HT.sIx xs.length xs.length hi
  ·have:=zOX xs (HT.sIx xs.length 0 lo) (HT.sIx xs.length xs.length hi-HT.sIx xs.length 0 lo) (by lia)
   rw[<- this];simp
  ·rw[show HT.sIx xs.length xs.length hi-HT.sIx xs.length 0 lo=0 by lia];simp
section
variable{X:Cx}
def rSlU(K:qA1):V->Option Int->Option Int->Hp->VK->Prop:=fun x lo hi H Q=>match x with
 |.str z=>z.length<=sizeLine/\Q (.str ⟨(Mi.cutA z.cps.toList lo hi).toArray⟩) H
 |.ref a=>∃xs,SqL K H a xs/\∀p,H p=none->Q (.ref p) (upd H p (.lst (cutV xs lo hi)))
 |_=>False
theorem zP1{v:Value}{o:Option Int}(h:IsPart v o):∃l:Option (Int×Tok),v=partValue l/\l.map (·.1)=o:=by
 cases h with
 |none=>exact⟨none,rfl,rfl⟩
 |int i t=>exact⟨some (i,t),rfl,rfl⟩
theorem u_sl{K:qA1}(hK:X.K=K:=by rfl):SlR X (rSlU K):=by
 subst hK;intro pins s σ H x v vl vu lo hi sl Q I rx hs pl pu h;cases x with
 |ref a=>
  obtain⟨xs,h1,h2⟩:=h;exact zOH pins s σ H _ v vl vu lo hi sl Q I rx hs pl pu ⟨a,xs,rfl,h1,h2⟩
 |str z=>
  obtain⟨hz,q⟩:=h;obtain⟨t,rfl⟩:=rx;obtain⟨l,rfl,el⟩:=zP1 pl;obtain⟨u,rfl,eu⟩:=zP1 pu;obtain⟨o,g1,g2,g3⟩:=hs;refine⟨"str",_,F.slot_str_getitem.lookup,typeIs_str _ _ _,wpAny_getItem_str_slice (l:=l) (u:=u) (st:=none) ⟨o,g1,g2,g3⟩ rfl ?_⟩;have hp:(if((1:Int)==1&&(qJm lo hi 1 z.length).length==z.length)=true then Made.val (.str z t)else Made.str ⟨((qJm lo hi 1 z.length).filterMap (z.cps[·]?)).toArray⟩).post (EP X pins σ Q) s:=by
   refine post_val_or_str ⟨qAs (Txt.slice_le z lo hi) hz,fun t' k=>?_⟩;refine⟨.str (qN7 z lo hi),H,I.tok _,⟨_,rfl⟩,?_⟩;rw[zRH];exact q
  unfold sliceMade slicePicked;rw[el,eu];exact hp
 |_=>exact qAa h
end
noncomputable def Its(z:Str):It:=⟨fun i _=>i<z.cps.size,fun i H x H'=>H'=H/\∃c,z.cps[i]?=some c/\x=.str ⟨#[c]⟩,fun i _=>z.cps.size<=i⟩
theorem zRB{P:qIy}{w:World}{K:qA1}{tg:Expr}(z:Str)(t:Tok)(it:Addr)(ty:String)(hty:ty=qK6 z):Turn P w K tg (Its z) [it] it (fun i h=>h.IsStrIter it ty z t i) where
 mem:=by simp
 obj:=fun i h st b hb=>by
  have e:b=it:=by simpa using hb
  subst e;obtain⟨o,e,c,d⟩:=st;exact⟨o,e,fun v z=>by rw[d]at z;cases z⟩
 keep:=fun i h h' st k=>by obtain⟨o,ho,r⟩:=st;exact⟨o,k it (by simp) o ho,r⟩
 item:=by
  intro X hP hw hK hc i pins s σ H E I hf st hg;subst hP hw hK;have hi:i<z.cps.size:=hg;have hx:z.cps[i]?=some z.cps[i]:=qCd hi;obtain⟨f0,f1,f2,f3,f4,f5⟩:=hf it (by simp);have fin:∀h',h'.IsStrIter it ty z t (i+1)->qKj it s.heap h'->∃u,some (qK8 ⟨#[z.cps[i]]⟩ s.toks)=some u/\wpAny (model X.prog X.w) X.A (letOwnedTupleGo tg (.ref it) u) (fun _ s2=>∃x H',Inv X pins σ H' s2/\RelV x u/\(Its z).yld i H x H'/\s2.heap.IsStrIter it ty z t (i+1)/\∀b∈[it],H' b=none) E { s with heap:=h',toks:=s.toks+1 }:=by
   intro h' st' sb;have I1:Inv X pins σ H { s with heap:=h',toks:=s.toks+1 }:=I.turned (t':=s.toks+1) (fun b o hb e=>(sb.2 b hb).trans e) f0 f1 f3 f4 f5;obtain⟨o,e,c,d⟩:=id st';refine⟨_,rfl,zNS (s:={ s with heap:=h',toks:=s.toks+1 }) e c d ?_ ⟨.str ⟨#[z.cps[i]]⟩,H,I1,⟨_,rfl⟩,⟨rfl,_,hx,rfl⟩,st',fun b hb=>(hf b hb).1⟩⟩;rw[hty];unfold qK6;split<;>decide
  cases ha:z.cps.all (· < 128)
  ·have e:ty = "str_iterator":=by rw[hty];unfold qK6;rw[ha];rfl
   subst e;exact wpAny_pyNext_wide_item st hx fun h' a b=>fin h' a b
  ·have e:ty = "str_ascii_iterator":=by rw[hty];unfold qK6;rw[ha];rfl
   subst e;exact wpAny_pyNext_ascii_item st hx fun h' a b=>fin h' a b
 done:=by
  intro X hP hw hK hc i pins s σ H E I hf st hg;subst hP hw hK;have hx:z.cps[i]?=none:=qEw hg;obtain⟨f0,f1,f2,f3,f4,f5⟩:=hf it (by simp);have fin:∀h',qM1 it s.heap h'->(none:Option Value)=none/\Inv X pins σ H { s with heap:=h' }:=fun h' eb=>⟨rfl,I.turned (t':=s.toks) (fun b o hb e=>eb b o hb e) f0 f1 f3 f4 f5⟩
  cases ha:z.cps.all (· < 128)
  ·have e:ty = "str_iterator":=by rw[hty];unfold qK6;rw[ha];rfl
   subst e;exact wpAny_pyNext_wide_end (I.ok.hd hc) st hx fun h' a=>fin h' a
  ·have e:ty = "str_ascii_iterator":=by rw[hty];unfold qK6;rw[ha];rfl
   subst e;exact wpAny_pyNext_ascii_end (I.ok.hd hc) st hx fun h' a=>fin h' a
 self:=fun A i s Q E st h=>by
  cases ha:z.cps.all (· < 128)
  ·have e:ty = "str_iterator":=by rw[hty];unfold qK6;rw[ha];rfl
   subst e;exact wpAny_pyIter_striter_wide st h
  ·have e:ty = "str_ascii_iterator":=by rw[hty];unfold qK6;rw[ha];rfl
   subst e;exact wpAny_pyIter_striter_ascii st h
section
variable{X:Cx}
def iAny(K:qA1)(tl:TE):TI:=fun σ H R=>tl σ H fun x H1=>match x with
 |.ref a=>(∃xs,SqL K H1 a xs)/\R (Itl K a) H1\/(∃xs,SqT K H1 a xs)/\R (Itt K a) H1
 |.str z=>R (Its z) H1
 |_=>False
theorem zFX{K:qA1}{tg l:Expr}{tl:TE}(hl:PE X l tl)(hK:X.K=K:=by rfl):PI X tg l (iAny K tl):=by
 subst hK;intro pins s σ H R I h;refine thn (hl pins s σ H _ I h) fun v s1 z0=>?_
 obtain⟨x,H1,I1,r1,q1⟩:=z0;cases x with
 |ref a=>
  cases r1;rcases q1 with⟨⟨xs,hq⟩,q⟩|⟨⟨xs,hq⟩,q⟩
  ·obtain⟨its,rv,p,hz⟩:=I1.list hq;refine wpAny_pyIter_list p.isList ?_;refine⟨s1.heap.objs.size,[s1.heap.objs.size],_,_,H1,rfl,I1.kept (t':=s1.toks) fun b o e=>qIu _ e,zO5 a _,⟨_,qIw _ rfl,rfl,rfl⟩,fun b hb=>?_,q⟩;have e:b=s1.heap.objs.size:=by simpa using hb
   subst e;exact I1.fpOk (qA6 _) (I1.hok.fresh (qA6 _))
  ·obtain⟨its,rv,p,hz⟩:=I1.tuple hq;refine wpAny_pyIter_tuple (show s1.heap.IsTuple a its.toArray from p) ?_;refine⟨s1.heap.objs.size,[s1.heap.objs.size],_,_,H1,rfl,I1.kept (t':=s1.toks) fun b o e=>qIu _ e,zN7 a _,⟨_,qIw _ rfl,rfl,rfl⟩,fun b hb=>?_,q⟩;have e:b=s1.heap.objs.size:=by simpa using hb
   subst e;exact I1.fpOk (qA6 _) (I1.hok.fresh (qA6 _))
 |str z=>
  obtain⟨t,rfl⟩:=r1;refine wpAny_pyIter_strU ?_;refine⟨s1.heap.objs.size,[s1.heap.objs.size],_,_,H1,rfl,I1.kept (t':=s1.toks) fun b o e=>qIu _ e,zRB z t _ _ rfl,⟨_,qIw _ rfl,rfl,rfl⟩,fun b hb=>?_,q1⟩;have e:b=s1.heap.objs.size:=by simpa using hb
  subst e;exact I1.fpOk (qA6 _) (I1.hok.fresh (qA6 _))
 |_=>exact qAa q1
end
def XO(e:Addr)(C:Value)(d:Option Addr)(h:Heap):Prop:=∃oe vs,h.get? e=some oe/\oe.cls=C/\oe.dict=d/\oe.data=.fields vs/\1<vs.size
abbrev xo(e:Addr)(C:Value)(d:Option Addr):HO:=.ext (XO e C d)
def Fl(n:Nat)(e:Addr)(C:Value)(d:Option Addr)(mk:Value)(H:Hp)(h:Heap):Prop:=
 ∃oe vs T oT ts,h.get? e=some oe/\oe.cls=C/\oe.dict=d/\oe.data=.fields vs/\vs[1]?=some (.ref T)/\n<=T/\T≠e/\H T=none/\h.get? T=some oT/\oT.data=.fields ts/\ts[3]?=some mk
def Fly(n:Nat)(e:Addr)(C:Value)(d:Option Addr)(H:Hp)(h:Heap):Prop:=
 H e=some (xo e C d)/\((∃oe vs,h.get? e=some oe/\oe.cls=C/\oe.dict=d/\oe.data=.fields vs/\vs[1]?=some .none)\/Fl n e C d .none H h)
def Held(n:Nat)(e:Addr)(C:Value)(d:Option Addr)(L:Addr)(H:Hp)(h:Heap):Prop:=H e=some (xo e C d)/\Fl n e C d (rawInt L) H h
theorem Fly.mono{n n':Nat}{e:Addr}{C:Value}{d:Option Addr}{H:Hp}{h:Heap}(x:Fly n e C d H h)(hn:n'<=n):Fly n' e C d H h:=by
 obtain⟨a,b|⟨oe,vs,T,oT,ts,h1,h2,h3,h4,h5,h6,h7⟩⟩:=x
 ·exact⟨a,.inl b⟩
 ·exact⟨a,.inr ⟨oe,vs,T,oT,ts,h1,h2,h3,h4,h5,qAs hn h6,h7⟩⟩
structure Nt(n:Nat)(fs ch:List Addr)(e:Addr)(H:Hp)(h h':Heap):Prop where
 keep:∀b o,h.get? b=some o->b≠e->b∉fs->b∉ch->h'.get? b=some o
 slot:∀b o,h.get? b=some o->b≠e->b∉ch->∃sl,h'.get? b=some { o with slots:=sl }
 there:∀b o,h.get? b=some o->∃o',h'.get? b=some o'
 old:∀b∈ch,n<=b/\H b=none/\∃o vs,h.get? b=some o/\o.data=.fields vs
section
variable{M:Model}{A:qJ2}{E:Value->qIv->Prop}{s:qIv}{n:Nat}{e L:Addr}{C:Value}{d:Option Addr}{H:Hp}{base:Heap}{env:Env}{outer:List Env}
theorem zUG{oe:Obj}{vs:Array Value}{head:Value}{hadNext:Bool}{Q:Unit->qIv->Prop}
  (hfr:A.frames=some (env::outer)) (hl:s.heap.FunFrames base (env::outer)) (hf:env.frame=some L)
  (he:s.heap.get? e=some oe) (hc:oe.cls=C) (hdi:oe.dict=d) (hd:oe.data=.fields vs) (hsz:1<vs.size) (hn:n<=s.heap.objs.size) (hH:∀b,s.heap.objs.size<=b->H b=none)
  (h:∀h',(∀b o,s.heap.get? b=some o->b≠e->b∉frs (env::outer)->h'.get? b=some o)->(∀b o,s.heap.get? b=some o->b≠e->∃sl,h'.get? b=some { o with slots:=sl }) ->
   (∃o',h'.get? e=some o')->Fl n e C d (rawInt L) H h'->Q () { s with heap:=h' }) :
  wpAny M A (do let a <- frameOf env;let pl <- entryPlaceOf L hadNext;let b <- qM2 head a .none (rawInt L) .none pl;setField (.ref e) 1 b) Q E s:=by
 have hene:e∉(env::outer).filterMap (·.frame):=fun hm=>by
  obtain⟨_,o,ho,hnf⟩:=hl.mem hm;rw[he]at ho;injection ho with ho;subst ho;exact hnf vs hd
 refine wpAny_bind (wpAny_frameOf_fun hfr hl hf fun h₁ hs₁=>?_);refine wpAny_bind (wpAny_entryPlaceOf fun pl hpl=>?_);unfold qM2 newFields;refine wpAny_bind (wpAny_newObj_type ?_ (hpl.sizeOk5 _ _ _ _ _));have he₁:h₁.get? e=some oe:=(hs₁.2.1 e hene).trans he;have he₂:=qIu (h:=h₁) { cls:=.type "traceback",dict:=none,data:=.fields ([head,.ref L,.none,rawInt L,.none]++(if pl.isEmpty then qA4 6 qJ4 else pl)).toArray } he₁;have hTe:h₁.objs.size≠e:=qBm (qIx he₁);have hd₃:=qJ7 hd (·.setIfInBounds 1 (qJ0 h₁.objs.size));have he₃:=qJ3 (qJ6 (·.setIfInBounds 1 (qJ0 h₁.objs.size))) he₂ (qJc hd₃);have hT₃:=(qIz (h₁.push { cls:=.type "traceback",dict:=none,data:=.fields ([head,.ref L,.none,rawInt L,.none]++(if pl.isEmpty then qA4 6 qJ4 else pl)).toArray })
  (qJ6 (·.setIfInBounds 1 (qJ0 h₁.objs.size))) (qCe hTe)).trans (qIw h₁ rfl)
 have keep:∀b o,b≠e->h₁.get? b=some o ->
   ((h₁.push { cls:=.type "traceback",dict:=none,data:=.fields ([head,.ref L,.none,rawInt L,.none]++(if pl.isEmpty then qA4 6 qJ4 else pl)).toArray }).update e (qJ6 (·.setIfInBounds 1 (qJ0 h₁.objs.size)))).get? b=some o:=
  fun b o hbe hb=>by
   rw[qIz _ _ (qCe hbe)];exact qIu _ hb
 have hsz1:h₁.objs.size=s.heap.objs.size:=hs₁.1;refine wpAny_setField he₂ hd hsz (h _ (fun b o hb hbe hbf=>keep b o hbe ((hs₁.2.1 b hbf).trans hb)) (fun b o hb hbe=>?_) ⟨_,he₃⟩ ?_)
 ·obtain⟨sl,e1⟩:=hs₁.2.2 b o hb;exact⟨sl,keep b _ hbe e1⟩
 ·have hdo:∀(o:Obj) f,(qJ6 f o).dict=o.dict:=fun o f=>by unfold qJ6;split<;>rfl
  exact⟨_,_,h₁.objs.size,_,_,he₃,(qL5 _ _).trans hc,(hdo _ _).trans hdi,hd₃,by simp[hsz],by rw[hsz1];exact hn,hTe,hH _ (by rw[hsz1];exact qA6 _),hT₃,rfl,
   by first|(simp;done)|(rcases hpl with rfl|⟨_,_,_,_,_,_,_,rfl⟩<;>simp)⟩
theorem zVV{Q:Unit->qIv->Prop}(hfr:A.frames=some (env::outer))(hl:s.heap.FunFrames base (env::outer))(hf:env.frame=some L)(x:Fly n e C d H s.heap)(hn:n<=s.heap.objs.size)(hH:∀b,s.heap.objs.size<=b->H b=none)
  (h:∀h' ch,Nt n (frs (env::outer)) ch e H s.heap h'->Held n e C d L H h'->Q () { s with heap:=h' }):wpAny M A (noteFrame (.ref e) env) Q E s:=by
 obtain⟨hx,⟨oe,vs,he,hc,hdi,hd,h1⟩|⟨oe,vs,T,oT,ts,he,hc,hdi,hd,h1,hnT,hTe,hHT,hT,hdT,h3⟩⟩:=x
 ·unfold noteFrame;simp only[hf];refine wpAny_bind (wpAny_field he hd h1 ?_);rw[if_neg (by decide)];refine zUG hfr hl hf he hc hdi hd (qBc.mp h1).1 hn hH fun h' k1 k2 k3 k4=>?_
  refine h h' [] ⟨fun b o hb hbe hbf _=>k1 b o hb hbe hbf,fun b o hb hbe _=>k2 b o hb hbe,fun b o hb=>?_,fun b hb=>nomatch hb⟩ ⟨hx,k4⟩
  by_cases z:b=e
  ·rw[z];exact k3
  ·obtain⟨sl,q⟩:=k2 b o hb z;exact⟨_,q⟩
 ·unfold noteFrame;simp only[hf];refine wpAny_bind (wpAny_field he hd h1 ?_);rw[if_pos (show(qJ0 T != qJ4)=true from by simp)];refine wpAny_bind (wpAny_field hT hdT h3 ?_);rw[if_neg (show ¬((qJ4==rawInt L)=true) from by simp[rawInt])];refine wpAny_bind (wpAny_setField hT hdT (qBc.mp h3).1 ?_);have other:∀b,b≠T->(s.heap.update T (qJ6 (·.setIfInBounds 3 qJ4))).get? b=s.heap.get? b:=fun b hb=>qIz _ _ (qCe hb)
  have noRecord:∀b o,s.heap.get? b=some o->(∀vs,o.data≠.fields vs)->b≠T:=fun b o hb hnf q=>by
   rw[q,hT]at hb;injection hb with hb;subst hb;exact hnf ts hdT
  have hl1:=hl.of_keeps (h':=s.heap.update T (qJ6 (·.setIfInBounds 3 qJ4))) fun b o hb hnf=>⟨o,(other b (noRecord b o hb hnf)).trans hb,rfl⟩
  have hself:=qJ3 (qJ6 (·.setIfInBounds 3 qJ4)) hT (qJc (qJ7 hdT _));have hsz:(s.heap.update T (qJ6 (·.setIfInBounds 3 qJ4))).objs.size=s.heap.objs.size:=by simp
  refine zUG (s:={ s with heap:=s.heap.update T (qJ6 (·.setIfInBounds 3 qJ4)) }) hfr hl1 hf ((other e (qCe hTe)).trans he) hc hdi hd (qBc.mp h1).1 (by rw[hsz];exact hn) (by rw[hsz];exact hH) fun h' k1 k2 k3 k4=>?_
  have nT:∀b,b∉[T]->b≠T:=fun b hb z=>hb (by simp[z])
  refine h h' [T] ⟨fun b o hb hbe hbf hc=>k1 b o ((other b (nT b hc)).trans hb) hbe hbf,fun b o hb hbe hc=>k2 b o ((other b (nT b hc)).trans hb) hbe,fun b o hb=>?_,fun b hb=>?_⟩ ⟨hx,k4⟩
  ·by_cases z:b=e
   ·rw[z];exact k3
   ·by_cases z':b=T
    ·rw[z'];obtain⟨sl,q⟩:=k2 T _ hself hTe;exact⟨_,q⟩
    ·obtain⟨sl,q⟩:=k2 b o ((other b z').trans hb) z;exact⟨_,q⟩
  ·obtain rfl:b=T:=by simpa using hb
   exact⟨hnT,hHT,oT,ts,hT,hdT⟩
theorem zVZ{Q:Unit->qIv->Prop}{fs:List Addr}{mk:Value}(x:Fl n e C d mk H s.heap)
  (h:∀h' ch,Nt n fs ch e H s.heap h'->Fl n e C d .none H h'->Q () { s with heap:=h' }):wpAny M A (setFlight (.ref e) none) Q E s:=by
 obtain⟨oe,vs,T,oT,ts,he,hc,hdi,hd,h1,hnT,hTe,hHT,hT,hdT,h3⟩:=x;have hsz3:3<ts.size:=(qBc.mp h3).1;have other:∀b,b≠T->(s.heap.update T (qJ6 (·.setIfInBounds 3 ((none:Option Addr).elim qJ4 fun f=>rawInt f)))).get? b=s.heap.get? b:=
  fun b hb=>qIz _ _ (qCe hb)
 have hself:=qJ3 (qJ6 (·.setIfInBounds 3 ((none:Option Addr).elim qJ4 fun f=>rawInt f))) hT (qJc (qJ7 hdT _));have nT:∀b,b∉[T]->b≠T:=fun b hb z=>hb (by simp[z])
 unfold setFlight;refine wpAny_bind (wpAny_field he hd h1 ?_);rw[if_pos (show(qJ0 T != qJ4)=true from by simp)];refine wpAny_setField hT hdT hsz3 (h _ [T] ⟨fun b o hb _ _ hc=>(other b (nT b hc)).trans hb,fun b o hb _ hc=>⟨o.slots,(other b (nT b hc)).trans hb⟩,fun b o hb=>?_,fun b hb=>?_⟩ ?_)
 ·by_cases z:b=T
  ·rw[z];exact⟨_,hself⟩
  ·exact⟨o,(other b z).trans hb⟩
 ·obtain rfl:b=T:=by simpa using hb
  exact⟨hnT,hHT,oT,ts,hT,hdT⟩
 ·exact⟨oe,vs,T,_,_,(other e (qCe hTe)).trans he,hc,hdi,hd,h1,hnT,hTe,hHT,hself,qJ7 hdT _,by simp[hsz3]⟩
end
section
variable{X:Cx}{pins:List (Addr×Obj)}{σ:St}{H:Hp}{s:qIv}{n:Nat}{e:Addr}{C:Value}{d:Option Addr}{A:qJ2}{E:Value->qIv->Prop}{fs ch:List Addr}{h h':Heap}
theorem Nt.hok{P:qIy}{w:World}(t:Nt n fs ch e H h h')(k:HOk P w H h)(he:H e=some (xo e C d))(hfs:∀b∈fs,H b=none)(f:XO e C d h'):HOk P w H h':=fun a o ha=>by
 by_cases z:a=e
 ·subst z;rw[he]at ha;cases ha;obtain⟨oe,vs,h1,r⟩:=id f;exact⟨f,⟨oe,h1⟩,(k a _ he).2.2⟩
 ·refine(k a o ha).stay (fun b u hb q=>?_) (fun _ q=>q) (fun _ _ q=>q) fun _ _ _ q _=>q
  have hb':H b≠none:=by
   rcases hb with rfl|hb
   ·rw[ha];exact fun z=>by cases z
   ·rw[hb];exact fun z=>by cases z
  have hbe:b≠e:=by
   rcases hb with rfl|hb
   ·exact z
   ·intro y;rw[y,he]at hb;cases hb
  exact t.keep b u q hbe (fun y=>hb' (hfs b y)) fun y=>hb' (t.old b y).2.1
theorem Fl.xo{mk:Value}(f:Fl n e C d mk H h):XO e C d h:=by
 obtain⟨oe,vs,T,oT,ts,h1,h2,h3,h4,h5,_⟩:=f;exact⟨oe,vs,h1,h2,h3,h4,(qBc.mp h5).1⟩
theorem Nt.un(t:Nt n fs ch e H h h')(he:H e=some (xo e C d)):Un fs ch H H h h':=
 ⟨fun b o q hn hf hc=>t.keep b o q (fun z=>by rw[z,he]at hn;cases hn) hf hc,fun b o q hn _ hc=>t.slot b o q (fun z=>by rw[z,he]at hn;cases hn) hc,fun _ _ _ hn _=>hn,fun b o q _=>t.there b o q,fun _ _ q=>q,fun _ _ _ q=>q,fun b ps q=>⟨#[],by simpa using q⟩⟩
theorem Inv.noted(I:Inv X pins σ H s)(t:Nt n (frs X.stack) ch e H s.heap h')(he:H e=some (xo e C d))(f:XO e C d h')(hn:X.s₀.heap.objs.size<=n)(hp:∀p∈X.pn++pins,p.1<n):Inv X pins σ H { s with heap:=h' }:=by
 refine I.call' rfl (t.un he) (t.hok I.hok he I.stkFree f) I.bare fun b hb=>?_
 obtain⟨h1,h2,o,vs,h3,h4⟩:=t.old b hb;refine⟨.inr (qAs hn h1),?_,?_,fun p hp' z=>?_⟩
 ·intro z;obtain⟨m,⟨o',es,ep,ho',hd',_⟩,_⟩:=I.loc;rw[z,ho']at h3;cases h3;rw[hd']at h4;cases h4
 ·intro x c hx z;obtain⟨v,o',ho',hd'⟩:=I.cell x c hx;rw[<- z,ho']at h3;cases h3;rw[hd']at h4;cases h4
 ·have:=hp p hp'
  rw[z]at this;exact absurd h1 (Nat.not_le_of_lt this)
theorem zSA{Q:Unit->qIv->Prop}{M:Model}(I:Inv X pins σ H s)(hA:A.frames=some X.stack)(hs:X.stack=X.env::X.outer/\X.env.frame=some X.env.locals)(x:Fly n e C d H s.heap)(hn:X.s₀.heap.objs.size<=n)(hn':n<=s.heap.objs.size)
  (hp:∀p∈X.pn++pins,p.1<n) (h:∀s',Inv X pins σ H s'->Held n e C d X.env.locals H s'.heap->Q () s'):wpAny M A (noteFrame (.ref e) X.env) Q E s:=by
 have hst:=I.stack;rw[hs.1]at hA hst;refine zVV hA hst hs.2 x hn' (fun b hb=>I.hok.fresh hb) fun h' ch t y=>h _ (I.noted (ch:=ch) (by rw[hs.1];exact t) x.1 y.2.xo hn hp) y
theorem zSF{Q:Unit->qIv->Prop}{M:Model}{mk:Value}(I:Inv X pins σ H s)(hx:H e=some (xo e C d))(x:Fl n e C d mk H s.heap)(hn:X.s₀.heap.objs.size<=n)
  (hp:∀p∈X.pn++pins,p.1<n) (h:∀s',Inv X pins σ H s'->Fl n e C d .none H s'.heap->Q () s'):wpAny M A (setFlight (.ref e) none) Q E s:=
 zVZ (fs:=frs X.stack) x fun h' ch t y=>h _ (I.noted t hx y.xo hn hp) y
theorem zPG{Q:Unit->qIv->Prop}{M:Model}(I:Inv X pins σ H s)(hA:A.frames=some X.stack)(hs:X.stack=X.env::X.outer/\X.env.frame=some X.env.locals)(x:Fly n e C d H s.heap)(hn:X.s₀.heap.objs.size<=n)(hn':n<=s.heap.objs.size)
  (hp:∀p∈X.pn++pins,p.1<n) (h:∀s',Inv X pins σ H s'->Fly n e C d H s'.heap->Q () s'):wpAny M A (leaving X.env (.ref e)) Q E s:=by
 unfold leaving;exact wpAny_bind (zSA I hA hs x hn hn' hp fun s1 I1 y=>zSF I1 y.1 y.2 hn hp fun s2 I2 z=>h s2 I2 ⟨y.1,.inr z⟩)
end
def CXe(P:qIy)(w:World):CXT:=fun outer H s E x s'=>∃e C d H',x=.ref e/\s'.os=s.os/\qL8 s'.gens/\Un (frs outer) [] H H' s.heap s'.heap/\HOk P w H' s'.heap/\Fly s.heap.objs.size e C d H' s'.heap/\s.heap.objs.size<=s'.heap.objs.size/\E x d H'
section
variable{X:Cx}{pins:List (Addr×Obj)}{σ:St}{H:Hp}{s s':qIv}{E E':XK}
theorem Inv.pinlt(I:Inv X pins σ H s):∀p∈X.pn++pins,p.1<s.heap.objs.size:=fun p hp=>qIx (I.pin p hp).1
def XP(X:Cx)(pins:List (Addr×Obj))(σ:St)(E:XK)(x:Value)(s':qIv):Prop:=∃n e C d H',x=.ref e/\Inv X pins σ H' s'/\Fly n e C d H' s'.heap/\X.s₀.heap.objs.size<=n/\n<=s'.heap.objs.size/\(∀p∈X.pn++pins,p.1<n)/\E x d H'
theorem Inv.flown{x:Value}(I:Inv X pins σ H s)(h:CXe X.prog X.w X.stack H s E x s'):XP X pins σ E x s':=by
 obtain⟨e,C,d,H',rfl,ho,hb,u,hk,f,hz,q⟩:=h;exact⟨_,e,C,d,H',rfl,I.call' ho u hk hb (fun b z=>absurd z (by simp)),f,I.sz,hz,I.pinlt,q⟩
end
section
variable{P:qIy}{w:World}{K:qA1}{mg:Str->Option Value}{base:Heap}{N:List Str}{qual:Str}{scope:Scope}{f:Addr}{cd:Value}{A:qJ2}{outer:List Env}{s:qIv}{H:Hp}{E E':XK}
theorem zX2{pins:List (Addr×Obj)}{σ:St}{x:Value}{s':qIv}(hE:∀C d H',E' C d H'->E C d H')
  (h:XP (cxOf (CXe P w) P w K mg base N qual scope f cd A outer s H E) pins σ E' x s'):(cxOf (CXe P w) P w K mg base N qual scope f cd A outer s H E).xe x s':=by
 obtain⟨n,e,C,d,H',rfl,I,fl,hn,hz,hp,q⟩:=h;refine zPG I I.ok.frames ⟨rfl,rfl⟩ fl hn hz hp fun s2 I2 f2=>?_
 exact⟨e,C,d,H',rfl,I2.os,I2.bare,I2.base,I2.hok,f2.mono hn,I2.sz,hE _ _ _ q⟩
end
abbrev TEX:=St->Hp->VK->XK->Prop
abbrev TSX:=Ends->(St->XK)->St->Hp->Prop
section
variable{X:Cx}{k:Nat}{f:Addr}{fd:qJl}{ps:List Str}{sp:Sp}{dvs:List V}{ds:List Value}{x:Str}{p pos:Pos}{e:Expr}{es:List Expr}{t:TA}{te:TE}{tx:TEX}{st:Stmt}{rest:List Stmt}{u u':TSX}
variable{pins:List (Addr×Obj)}{σ:St}{H:Hp}{s:qIv}{a:Addr}
end
end L2
namespace PySem.W
open PySem PySem.Calls PyProof.Rows Builtin Builtin.ObjectAttr
noncomputable def excTail:List Value->Bool
 |.ref _::r=>excTail r
 |[.type a,.type b,.type c,.type d]=>a == "ValueError" && b == "Exception" && c == "BaseException" && d == "object"
 |_=>false
theorem zL5{a b c d:String}(e:excTail [.type a,.type b,.type c,.type d]=true):a = "ValueError"/\b = "Exception"/\c = "BaseException"/\d = "object":=by
 simp only[excTail,qC6,beq_iff_eq]at e;exact⟨e.1.1.1,e.1.1.2,e.1.2,e.2⟩
theorem zEO:∀{l:List Value},excTail l=true->∃as:List Addr,l=as.map qJ0++[.type "ValueError",.type "Exception",.type "BaseException",.type "object"]
 |.ref a::r,e=>by
  obtain⟨as,rfl⟩:=zEO (l:=r) e;exact⟨a::as,rfl⟩
 |[.type a,.type b,.type c,.type d],e=>by
  obtain⟨rfl,rfl,rfl,rfl⟩:=zL5 e;exact⟨[],rfl⟩
def excOver(K:Frag)(C:Addr):Bool:=(clsIn K C).any fun cd=>excTail cd.mro
section
variable{prog:qIy}{w:World}{A:qJ2}{s:qIv}{K:Frag}{x C:Addr}{R:qLr->qIv->Prop}
end
end PySem.W
namespace PySem.W
open PySem
def xcIn(K:Frag)(C:Addr):Bool:=match K.lookup C with
 |some ⟨.type "type",_,.cls cd,sl⟩=>(match cd.mro,sl.toList with
  |.ref C'::bm,[_,_,_,_,some (.builtin n),_]=>C'==C && !cd.hasDel&&excTail bm&&n == "ValueError.__new__" && cd.hasDict
  |_,_=>false)
 |_=>false
theorem xc_cls{K:Frag}{h:Heap}{C:Addr}(X:K.In h)(q:xcIn K C=true):∃nm qn N bs bm hdct sn sub ab col dd k0 k1 k2 k3 k5,
  h.get? C=some (excClassObj nm qn C N bs bm hdct sn sub ab col dd k0 k1 k2 k3 k5 "ValueError.__new__")/\excTail bm=true:=by
 unfold xcIn at q;split at q
 ·rename_i dd cd sl ho
  split at q
  ·rename_i C' bm k0 k1 k2 k3 n k5 hm hs
   simp only[qC6,beq_iff_eq,Bool.not_eq_true']at q;obtain⟨⟨⟨⟨rfl,hdel⟩,hb⟩,hn⟩,hd⟩:=q;subst hn;obtain⟨nm,bs,mro,ns,qn,hd',sn,sub,ab,col,del⟩:=cd;dsimp only at hm hdel;subst hm hdel;have hsl:sl=#[k0,k1,k2,k3,some (.builtin "ValueError.__new__"),k5]:=by
    obtain⟨l⟩:=sl;simp only at hs;rw[hs]
   subst hsl;exact⟨nm,qn,ns,bs,bm,hd',sn,sub,ab,col,dd,k0,k1,k2,k3,k5,X _ _ ho,hb⟩
  ·cases q
 ·cases q
theorem exc_con{l:List Value}{T:String}{b:Bool}(e:excTail l=true)(hb:List.contains [qKq "ValueError",.type "Exception",.type "BaseException",.type "object"] (.type T)=b):l.contains (.type T)=b:=by
 obtain⟨as,rfl⟩:=zEO e;clear e;induction as with
 |nil=>exact hb
 |cons a r ih=>rw[qAk,qDn,qBx,ih];rfl
end PySem.W
namespace PySem.Xc
open PySem
section
variable{M:Model}{prog:qIy}{w:World}{A:qJ2}{E:Value->qIv->Prop}{h:Heap}{g:Array qKh}{d:Drawn}{t:Nat}{os:OsState}{R:qLr->qIv->Prop}
variable{nm q:Str}{C N:Addr}{bs bm bmB:List Value}{hdct:Bool}{sn:List Str}{sub:List Value}{ab:Bool}{col:Option Bool}{dd:Option Addr}{k0 k1 k2 k3 k5:Option Value}{B newId initId:String}
theorem zNW(F:qL0 B newId initId bmB)(hB:bm.contains (.type B)=true){rest:List Value}{Q:Unit->qIv->Prop}(hC:h.get? C=some (excClassObj nm q C N bs bm hdct sn sub ab col dd k0 k1 k2 k3 k5 newId))
  (hq:Q () ⟨h,g,d,t,os⟩):wpAny M A (checkBuiltinCall newId ⟨.ref C::rest,[]⟩) Q E ⟨h,g,d,t,os⟩:=by
 have hcont:(qJ0 C::bm).contains (.type B)=true:=by rw[qBx,hB,qF1]
 have hstar:=F.noStar;simp only[checkBuiltinCall,F.newKind,F.newSplit,F.newRow]
 repeat (first|refine qJd hC ?_|(refine qJs hC ?_;rw[hcont])|refine wpAny_staticBase_exc hC ?_|refine wpAny_madeBy_exc hC ?_|simp only[bne_self_eq_false,qC8,if_false]|wp_step)
 exact hq
theorem zQL(F:qL0 B newId initId bmB)(hB:bm.contains (.type B)=true)(hA:bm.contains (.type "AttributeError")=false)(hN:bm.contains (.type "NameError")=false){rest:List Value}(hC:h.get? C=some (excClassObj nm q C N bs bm hdct sn sub ab col dd k0 k1 k2 k3 k5 newId))
  (hq:R (.ok (.ret (.ref (h.objs.size+1)))) ⟨(h.push { cls:=.type "tuple",data:=.seq rest.toArray }).push
   { cls:=.ref C,data:=.fields #[.ref h.objs.size,.none,.none,.none,.bool false,.none] },g,d,t,os⟩) (hrest:rest.length<=sizeLine) :
  qKf (model prog w) A (.builtin newId ⟨.ref C::rest,[]⟩) R ⟨h,g,d,t,os⟩:=by
 have hends:=F.ends;have hcB:(qJ0 C::bm).contains (.type B)=true:=by rw[qBx,hB,qF1]
 have hcA:(qJ0 C::bm).contains (.type "AttributeError")=false:=by rw[qBx,hA];rfl
 have hcN:(qJ0 C::bm).contains (.type "NameError")=false:=by rw[qBx,hN];rfl
 refine codeAny_builtinAt F.entry ?_;unfold qKm.«BaseException.__new__»;refine wpAt_bind ?_;show wpAt _ _ _ (stack >>= _) _ _ _;refine wpAt_bind (wpAt_stack fun p below=>wpAt_of_wpAny ?_)
 wp_walk
 refine wpAt_of_wpAny ?_;rw[F.owner]
 repeat (first|with_reducible refine wpAny_madeHere_exc F.canon hC ?_|with_reducible refine qJd hC ?_|(with_reducible refine qJs hC ?_;first|rw[hcB]|rw[hcA]|rw[hcN])|wp_step)
 show R _ _;rw[qJt];exact hq
theorem zLB(F:qL0 B newId initId bmB)(hB:bm.contains (.type B)=true){e:Addr}{oe:Obj}{rest:List Value}{Q:Unit->qIv->Prop}{newId':String}
  (hC:h.get? C=some (excClassObj nm q C N bs bm hdct sn sub ab col dd k0 k1 k2 k3 k5 newId')) (he:h.get? e=some oe) (hcls:oe.cls=.ref C) (hq:Q () ⟨h,g,d,t,os⟩) :
  wpAny M A (checkBuiltinCall initId ⟨.ref e::rest,[]⟩) Q E ⟨h,g,d,t,os⟩:=by
 have hcB:(qJ0 C::bm).contains (.type B)=true:=by rw[qBx,hB,qF1]
 have hshort:=F.noStar;simp only[checkBuiltinCall,F.initKind,F.initSplit,F.initRow]
 repeat (first|(with_reducible refine qJd he ?_;rw[hcls])|with_reducible refine qJd hC ?_|(with_reducible refine qJs hC ?_;rw[hcB])|wp_step)
 refine wpAny_onRaise ?_;rw[show ∀(a b:String)(n:Nat),Bind.check ⟨.positional,"*",B,.self,[⟨"args",.varPos,false⟩]⟩ a b n (qIn (fun x=>x.fst) ({ pos:=qJ0 e::rest }:Args).kw)=pure () from
  fun a b n=>check_star_args _ _ _ _ _ _]
 exact wpAny_pure hq
theorem zN6(F:qL0 B newId initId bmB)(hB:bm.contains (.type B)=true)(hA:bm.contains (.type "AttributeError")=false)(hN:bm.contains (.type "NameError")=false){rest:List Value}{Q:Fin->qIv->Prop}
  (hC:h.get? C=some (excClassObj nm q C N bs bm hdct sn sub ab col dd k0 k1 k2 k3 k5 newId)) (hi:qI0 (model prog w) h (typeLookup (.ref C) "__init__") (some (.builtin initId)))
  (hq:∀h' e,qL1 h h' e (.ref C) rest->h.objs.size<=e->Q (.done (.ret (.ref e))) ⟨h',g,d,t,os⟩) (hrest:rest.length<=sizeLine) :
  wpAny (model prog w) A (qKm.«type.__call__» ⟨.ref C::rest,[]⟩) Q E ⟨h,g,d,t,os⟩:=by
 repeat (first|with_reducible refine qJd hC ?_|with_reducible refine wpAny_madeBy_exc hC ?_|wp_step)
 refine codeAny_call_builtin_code (qM6 _ F.quiet) (zNW F hB hC ?_);refine zQL F hB hA hN hC ?_ hrest;show wpAny _ _ _ _ _ _;have hC₁:=qIu { cls:=.ref C,data:=.fields #[.ref h.objs.size,.none,.none,.none,.bool false,.none] }
  (qIu { cls:=.type "tuple",data:=.seq rest.toArray } hC)
 have hi₁:=hi.keeps (h':=(h.push { cls:=.type "tuple",data:=.seq rest.toArray }).push { cls:=.ref C,data:=.fields #[.ref h.objs.size,.none,.none,.none,.bool false,.none] }) fun b o e=>qIu _ (qIu _ e)
 have hget:((h.push { cls:=.type "tuple",data:=.seq rest.toArray }).push
   { cls:=.ref C,data:=.fields #[.ref h.objs.size,.none,.none,.none,.bool false,.none] }).get? (h.objs.size+1)=some
   { cls:=.ref C,data:=.fields #[.ref h.objs.size,.none,.none,.none,.bool false,.none] }:=by heap_get
 have hcC:(qJ0 C::bm).contains (.ref C)=true:=by simp
 unfold isInstance
 repeat (first|with_reducible refine qJd hget ?_|(with_reducible refine qJs hC₁ ?_;rw[hcC])|wp_step)
 show wpAny _ _ (typeLookup (.ref C) _) _ _ _;refine hi₁.here ?_;refine wpAny_holding (wpAny_bind (wpAny_of_eq (F.init.bind _) ?_));refine wpAny_bind (wpAny_call (codeAny_call_builtin F.init.plain F.initEntry (zLB F hB hC₁ hget rfl ?_)))
 wp_walk
 refine hq _ _ ⟨fun b o hb=>?_,qK2 (qDx _),h.objs.size+2,?_,qK2 (by lia),?_⟩ (qDx _)
 ·rw[qIz _ _ (qBm (qEh (qIx hb)))];exact qIu _ (qIu _ (qIu _ hb))
 ·rw[qJ3 _ (qIu _ hget) rfl];simp only[qJt];rfl
 ·rw[qIz _ _ (show h.objs.size+1≠h.objs.size+2 by lia)];exact Heap.get?_push_at (by simp only[qJt]) rfl
theorem callX(F:qL0 B newId initId bmB)(hB:bm.contains (.type B)=true)(hA:bm.contains (.type "AttributeError")=false)(hN:bm.contains (.type "NameError")=false){rest:List Value}{Q:Value->qIv->Prop}
  (hC:h.get? C=some (excClassObj nm q C N bs bm hdct sn sub ab col dd k0 k1 k2 k3 k5 newId)) (hi:qI0 (model prog w) h (typeLookup (.ref C) "__init__") (some (.builtin initId)))
  (hq:∀h' e,qL1 h h' e (.ref C) rest->h.objs.size<=e->Q (.ref e) ⟨h',g,d,t,os⟩) (hrest:rest.length<=sizeLine) :
  wpAny (model prog w) A (call (.ref C) rest) Q E ⟨h,g,d,t,os⟩:=by
 have f1:=tc_lookup;have f2:=tc_bind (.ref C);have hT:(⟨h,g,d,t,os⟩:qIv).TypeIs (.ref C) "type":=⟨_,hC,rfl⟩;refine wpAny_call (codeAny_of_tree ?_);show wpAny _ _ (callAny (.ref C) _) _ _ _
 repeat (any_goals (first|assumption|with_reducible refine qJd hC ?_|wp_step))
 refine⟨rfl,?_⟩;refine codeAny_call_builtin_at (qM6 _ (by decide +kernel)) entry_typeCall (wpAny_check_type_call_sub hC (zN6 (hrest:=hrest) F hB hA hN hC hi fun h' e hm hz=>?_));exact hq h' e hm hz
end
section
variable{M:Model}{A:qJ2}{E:Value->qIv->Prop}{s:qIv}{env:Env}
variable{nm q:Str}{C N:Addr}{bs bm:List Value}{hdct:Bool}{sn:List Str}{sub:List Value}{ab:Bool}{col:Option Bool}{dd:Option Addr}{k0 k1 k2 k3 k5:Option Value}{newId:String}
theorem raiseX{x:Sem Value}{Q:Flow->qIv->Prop}(hh:A.handled=none)
  (h:wpAny M A x (fun v s₁=>∃e t di nm q C N bs bm hdct sn sub ab col dd k0 k1 k2 k3 k5 newId,v=.ref e/\s₁.heap.get? C=some (excClassObj nm q C N bs bm hdct sn sub ab col dd k0 k1 k2 k3 k5 newId)/\bm.contains (.type "BaseException")=true /\
   s₁.heap.get? e=some { cls:=.ref C,dict:=di,data:=.fields #[.ref t,.none,.none,.none,.bool false,.none] }/\E (.ref e) s₁) E s) :
  wpAny M A (raiseStmt env (some x) none) Q E s:=by
 unfold raiseStmt;refine wpAny_bind (wpAny_mono h (fun v s₁ h₁=>?_) fun _ _ x=>x);obtain⟨e,t,di,nm,q,C,N,bs,bm,hdct,sn,sub,ab,col,dd,k0,k1,k2,k3,k5,newId,rfl,hC,hbase,he,hE⟩:=h₁;have hcB:(qJ0 C::bm).contains (.type "BaseException")=true:=by rw[qBx,hbase,qF1]
 obtain⟨hp,g,d,tk,os⟩:=s₁
 repeat (first|with_reducible refine qJd he ?_|with_reducible refine qJd hC ?_|(with_reducible refine qJs hC ?_;rw[hcB])|wp_step)
 exact wpAny_raiseNew_none hh hE
theorem RaiseX{x:Expr}{pos:Pos}{Q:Flow->qIv->Prop}(hh:A.handled=none)
  (h:wpAny M A (eval x env) (fun v s₁=>∃e t di nm q C N bs bm hdct sn sub ab col dd k0 k1 k2 k3 k5 newId,v=.ref e/\s₁.heap.get? C=some (excClassObj nm q C N bs bm hdct sn sub ab col dd k0 k1 k2 k3 k5 newId)/\bm.contains (.type "BaseException")=true /\
   s₁.heap.get? e=some { cls:=.ref C,dict:=di,data:=.fields #[.ref t,.none,.none,.none,.bool false,.none] }/\E (.ref e) s₁) E s) :
  wpAny M A (exec (.Raise (some x) none pos) env) Q E s:=by
 rw[arm_exec_Raise]
 first
  |exact wpAny_bind (wpAny_standAt (raiseX hh (wpAny_bind (wpAny_mono h (fun v s₁ h₁=>wpAny_bind (wpAny_standAt (wpAny_pure h₁))) fun _ _ x=>x))))
  |(simp only[evalOpt,qHw];exact wpAny_bind (wpAny_standAt (raiseX hh (wpAny_bind (wpAny_mono h (fun v s₁ h₁=>wpAny_bind (wpAny_standAt (wpAny_pure h₁))) fun _ _ x=>x)))))
  |(show wpAny M A (do qN4 pos;raiseStmt env (some (do let v <- eval x env;qN4 pos;pure v)) none) Q E s;exact wpAny_bind (wpAny_standAt (raiseX hh (wpAny_bind (wpAny_mono h (fun v s₁ h₁=>wpAny_bind (wpAny_standAt (wpAny_pure h₁))) fun _ _ x=>x)))))
end
section
open PySem.W
variable{prog:qIy}{w:World}{A:qJ2}{E:Value->qIv->Prop}{K:Frag}{x C:Addr}{ox:Obj}{od:Option Obj}{name:Str}{expr fill:Bool}{h:Heap}{g:Array qKh}{d:Drawn}{t:Nat}{os:OsState}
end
end PySem.Xc
namespace L2
open PySem PySem.Spec PyProof.Rows
def XN(e:Addr)(C:Value)(d:Option Addr)(h:Heap):Prop:=∃t1,h.get? e=some { cls:=C,dict:=d,data:=.fields #[.ref t1,.none,.none,.none,.bool false,.none] }
abbrev xn(e:Addr)(C:Value)(d:Option Addr):HO:=.ext (XN e C d)
theorem zUS{e:Addr}{C:Value}{d:Option Addr}(h1 h2:Heap)(x:XN e C d h1)(k:∀o,h1.get? e=some o->h2.get? e=some o):XN e C d h2:=let⟨t1,a⟩:=x;⟨t1,k _ a⟩
theorem zUR{e:Addr}{C:Value}{d:Option Addr}(h1 h2:Heap)(x:XO e C d h1)(k:∀o,h1.get? e=some o->h2.get? e=some o):XO e C d h2:=let⟨oe,vs,a,r⟩:=x;⟨oe,vs,k _ a,r⟩
theorem zb8{P:qIy}{w:World}{H:Hp}{h:Heap}{e:Addr}{C:Value}{d:Option Addr}(x:XN e C d h):ObjOk P w H h e (xn e C d):=⟨x,let⟨t1,a⟩:=x;⟨_,a⟩,zUS⟩
theorem zb7{P:qIy}{w:World}{H:Hp}{h:Heap}{e:Addr}{C:Value}{d:Option Addr}(x:XO e C d h):ObjOk P w H h e (xo e C d):=⟨x,let⟨oe,vs,a,_⟩:=x;⟨_,a⟩,zUR⟩
section
variable{X:Cx}{pins:List (Addr×Obj)}{σ:St}{H:Hp}{s:qIv}{k:Nat}{f C:Addr}{fd:qJl}{ps:List Str}{sp:Sp}{x:Str}{p pos:Pos}{e:Expr}{es:List Expr}{t:TA}{te:TE}
def zKF(C:Addr)(t:TA):TE:=fun σ H Q=>t σ H fun vs H1=>vs.length<=sizeLine/\∀e,H1 e=none->Q (.ref e) (upd H1 e (xn e (.ref C) none))
theorem Inv.madeX{h':Heap}{e:Addr}{us:List Value}(I:Inv X pins σ H s)(m:qL1 s.heap h' e (.ref C) us)(hs:s.heap.objs.size<=e):H e=none/\Inv X pins σ (upd H e (xn e (.ref C) none)) { s with heap:=h' }:=by
 obtain⟨t1,h1,_⟩:=m.there;exact⟨I.hok.fresh hs,I.laid (t':=s.toks) m.keeps hs (zb8 ⟨t1,h1⟩)⟩
theorem zNC{Q:VK}{us:List Value}{vs:List V}(hc:PySem.W.xcIn X.K C=true)(hi:qB4 X.K (.ref C) "__init__" = some (some (.builtin "ValueError.__init__")))
  (I:Inv X pins σ H s) (r:Vals vs us) (hz:vs.length<=sizeLine) (h:∀e,H e=none->Q (.ref e) (upd H e (xn e (.ref C) none))):wpAny (model X.prog X.w) X.A (call (.ref C) us) (EP X pins σ Q) X.xe s:=by
 obtain⟨nm,qn,N,bs,bm,hdct,sn,sub,ab,col,dd,k0,k1,k2,k3,k5,hC,ht⟩:=PySem.W.xc_cls I.kIn hc;have hus:us.length<=sizeLine:=by rw[<- r.length];exact hz
 have key:∀h' e,qL1 s.heap h' e (.ref C) us->s.heap.objs.size<=e->EP X pins σ Q (.ref e) { s with heap:=h' }:=by
  intro h' e m hs;obtain⟨he,I2⟩:=I.madeX m hs;exact⟨.ref e,_,I2,rfl,h e he⟩
 have hK:=PySem.W.looks_findIn (M:=model X.prog X.w) I.kIn hi;obtain⟨hh,g,d,tk,os⟩:=s;exact Xc.callX PySem.F.excBase_ValueError (PySem.W.exc_con ht (by decide)) (PySem.W.exc_con ht (by decide)) (PySem.W.exc_con ht (by decide)) hC hK key hus
theorem zOZ(hc:PySem.W.xcIn X.K C=true)(hi:qB4 X.K (.ref C) "__init__" = some (some (.builtin "ValueError.__init__")))(hg:Gl X x)(hm:X.mg x=some (.ref C))(hk:qB5 X.K (.ref C)=true)
  (ha:PA X (e::es) t) (hdb:(x==("__debug__":Str))=false:=by decide) (he:starEach (e::es) X.env=(false,eval e X.env)::starEach es X.env:=by rfl) (hpl:(backTo pos (starEach es X.env)).any (·.1)=false:=by rfl) :
  PE X (.Call (.Name x p) (e::es) [] pos) (zKF C t):=by
 intro pins s σ H Q I h;refine qJv (zKW I hg hm ?_ hdb);refine qFn (h₀:=X.base) I.ok.mod.kin hk (thn (ha pos pins s σ H _ I h) fun us s1 ⟨vs,H1,I1,r,z,q⟩=>⟨I1.kIn,?_⟩) he hpl;exact zNC hc hi I1 r z q
theorem Inv.xn{e:Addr}{d:Option Addr}{Cv:Value}(I:Inv X pins σ H s)(h:H e=some (xn e Cv d)):XN e Cv d s.heap:=(I.hok e _ h).1
theorem XN.xo{h:Heap}{e:Addr}{d:Option Addr}{Cv:Value}(x:XN e Cv d h):XO e Cv d h:=let⟨t1,a⟩:=x;⟨_,_,a,rfl,rfl,rfl,by simp⟩
theorem Inv.raised{e:Addr}{d:Option Addr}(I:Inv X pins σ H s)(h:H e=some (L2.xn e (.ref C) d))(E:XK)(q:E (.ref e) d (upd H e (xo e (.ref C) d))):XP X pins σ E (.ref e) s:=by
 have x:=I.xn h;obtain⟨t1,a⟩:=id x;have I':Inv X pins σ (upd H e (xo e (.ref C) d)) s:=I.write (t':=s.toks) (h':=s.heap) (e:=e) (by rw[h];trivial) (.inl rfl) (fun _ _ _ q=>q) ⟨_,a⟩ (zb7 x.xo);exact⟨s.heap.objs.size,e,.ref C,d,_,rfl,I',⟨zAG,.inl ⟨_,_,a,rfl,rfl,rfl,rfl⟩⟩,I.sz,qA6 _,I.pinlt,q⟩
def Flies(X:Cx)(E:XK):Prop:=∀(pins:List (Addr×Obj))(σ:St)(x:Value)(s':qIv),XP X pins σ E x s'->X.xe x s'
theorem Flies.passes{E:XK}(h:Flies X E):zN2 (CXe X.prog X.w) X E:=fun pins σ H s x s' I q=>h pins σ x s' (I.flown q)
def zTQ(K:qA1)(E:XK)(te:TE):TS:=fun _ σ H=>te σ H fun v H1=>∃e C d,v=.ref e/\H1 e=some (L2.xn e (.ref C) d)/\PySem.W.xcIn K C=true/\E (.ref e) d (upd H1 e (xo e (.ref C) d))
theorem zRZ{E:XK}(he:PE X e te)(hf:Flies X E)(hc:X.calm=true):PS X (.Raise (some e) none pos) (zTQ X.K E te):=by
 intro pins s σ H D I h;refine Xc.RaiseX (I.ok.hd hc) (thn (he pins s σ H _ I h) fun v s1 z0=>?_);obtain⟨y,H1,I1,ry,a,C,d,ey,ha,hx,q⟩:=z0;subst ey;cases ry;obtain⟨t1,hg⟩:=I1.xn ha;obtain⟨nm,qn,N,bs,bm,hdct,sn,sub,ab,col,dd,k0,k1,k2,k3,k5,hC,ht⟩:=PySem.W.xc_cls I1.kIn hx;exact⟨a,t1,d,nm,qn,C,N,bs,bm,hdct,sn,sub,ab,col,dd,k0,k1,k2,k3,k5,_,rfl,hC,PySem.W.exc_con ht (by decide),hg,hf pins σ _ _ (I1.raised ha E q)⟩
structure XSet(K:qA1)(C:Addr)(f:Str):Prop where
 st:qB4 K (.ref C) "__setattr__" = some (some (.builtin "object.__setattr__"))
 ov:PySem.W.excOver K C=true
 tk:PySem.W.takerIn K C f=some none
 hd:(qFr K C).any (·.hasDict)=true
end
section
variable{X:Cx}{pins:List (Addr×Obj)}{σ:St}{H:Hp}{s:qIv}{C e d:Addr}{f:Str}{pos:Pos}{ta:TE}
def isX(H:Hp)(e C:Addr)(d:Option Addr):Prop:=H e=some (xn e (.ref C) d)\/H e=some (xo e (.ref C) d)
end
def HasX(P:qIy)(w:World)(K:qA1)(mg:Str->Option Value)(base:Heap)(x:Str)(k:Nat)(ps:List Str)(sp:Sp):Prop:=
 ∃f fd,FnOk P w K mg base (CXe P w) k f fd ps sp/\mg x=some (.ref f)/\qB5 K (.ref f)=true/\Binds K fd ps []
section
variable{P:qIy}{w:World}{K:qA1}{mg:Str->Option Value}{base:Heap}{x:Str}{k:Nat}{ps N:List Str}{sp sp':Sp}{st:Stmt}
theorem zQ3{qual:Str}{scope:Scope}{f:Addr}{cd:Value}{A:qJ2}{outer:List Env}{s:qIv}{H:Hp}{E:XK}:Flies (cxOf (CXe P w) P w K mg base N qual scope f cd A outer s H E) E:=fun _ _ _ _ h=>zX2 (fun _ _ _ z=>z) h
end
section
variable{X:Cx}{x:Str}{j k:Nat}{ps:List Str}{sp:Sp}{e:Expr}{es:List Expr}{t:TA}{p pos:Pos}{E:XK}
theorem zJN:Flies X E0:=fun _ _ _ _ z0=>by
 obtain⟨_,_,_,_,_,_,_,_,_,_,_,h⟩:=z0;exact h.elim
theorem zYH(h:HasX X.prog X.w X.K X.mg X.base x j ps sp)(hjk:j<=k)(hr:Room k X.A)(hf:Flies X E)(hg:Gl X x)(ha:PA X (e::es) t)(hdb:(x==("__debug__":Str))=false:=by decide)
  (he:starEach (e::es) X.env=(false,eval e X.env)::starEach es X.env:=by rfl) (hpl:(backTo pos (starEach es X.env)).any (·.1)=false:=by rfl):PE X (.Call (.Name x p) (e::es) [] pos) (zEB sp [] E t):=by
 obtain⟨f,fd,G,m,kp,b⟩:=h;exact zKQ G (hr.mono hjk) hg m kp b .nil hf.passes ha hdb he hpl
end
end L2
namespace PySem.Xc
open PySem PySem.W
section
variable{prog:qIy}{w:World}{A:qJ2}{E:Value->qIv->Prop}{K:Frag}{x C:Addr}{ox:Obj}{od:Option Obj}{name:Str}{expr fill:Bool}{h:Heap}{g:Array qKh}{d:Drawn}{t:Nat}{os:OsState}
end
structure XIs(K:Frag)(C:Addr):Prop where
 xc:xcIn K C=true
 ga:findIn K (.ref C) "__getattribute__" = some (some (.builtin "BaseException.__getattribute__"))
 gg:findIn K (.ref C) "__getattr__" = some none
 hd:hasDictIn K C=true
 ca:findIn K (.ref C) "__class__" = some (some (.builtin "object.__class__"))
 cg:specialIn K (.builtin "object.__class__") "__get__" = some (some (.builtin "getset_descriptor.__get__"))
 ct:takesIn K (.builtin "object.__class__")=some true
 mo:mroIn K C (.type "object")=some true
end PySem.Xc
namespace Att
open PySem PySem.W PySem.Calls PyProof.Rows
theorem zUV{ns:List Int}(h:qMu (ns.map qMt)<=2 ^ 20):∀i∈ns,i.natAbs.log2<2 ^ 20:=by
 induction ns with
 |nil=>intro i hi;cases hi
 |cons n r ih=>
  rw[qAk,qMu]at h;intro i hi;rcases qAf.mp hi with rfl|hi
  ·rw[qN8]at h
   split at h
   ·rename_i z
    have:i=0:=beq_iff_eq.mp z;subst this;decide
   ·lia
  ·exact ih (by lia) i hi
theorem attach_callW{l:OpenLaw}{n:Nat}{q:qIy}{loose:List Str}{XP:(Str->Option Value)->Heap->Prop}{YP:World->Heap->Prop}{d:DefRec}
  (hn:l.most=some n) (hdf:d.params.defaults=[])
  (call:∀(w:World)(s₀ s₁:qIv)(mg mb:Str->Option Value)(fa:Addr)(o:Obj)(pm cd doc:Value)(a:Addr)(vs:List Value)(ns:List Int),
   Ground q loose [] XP w s₀ mg mb s₁.heap->YP w s₁.heap ->
   s₁.heap.get? fa=some o->o.data=.func (docDef d.name d.params d.body d.scope pm cd doc)->s₁.heap.CodeRec cd d.name->mg d.name=some (.ref fa) ->
   s₁.heap.get? a=some { cls:=.type "list",data:=.seq vs.toArray }->qKg vs ns->ns.length<=n->(∀i∈ns,i.natAbs.log2<2 ^ 20)->s₁.gens=#[] ->
   qKf (model l.prog w) qM3 (.call (.ref fa) ⟨[.ref a],[]⟩) (fun r s'=>r=.ok (.ret (.bool true))/\OldK s₁.heap s'.heap/\s'.os=s₁.os/\qL8 s'.gens) s₁) :
  WalkO q loose XP YP l.row.toRowW d [] (fun f vs=>qG5 f vs):=by
 intro w s₀ s₁ mg mb G Y fa o pm cd doc dV kV ho hd hcd hD hmg hg args vals as hpre hlay hrd hwl hlo;obtain rfl:dV=.none:=Dflts.none hD hdf;obtain rfl:kV=.none:=Dflts.noKw hD;obtain⟨a,vs,ns,rfl,rfl,hobj,hints,hlen⟩:=zOK hn hpre hwl;have hw:∀i∈ns,i.natAbs.log2<2 ^ 20:=by
  have hl:qMo [WData.list (ns.map qMt)]=true:=hlay;simp only[qMo,qHz,List.all_nil,qEk,WData.layable,qC6,decide_eq_true_eq]at hl;exact zUV (by have:=hl.2;rw[qN8]at this;exact this)
 refine enter_call (codeAny_mono (call w s₀ s₁ mg mb fa o pm cd doc a vs ns G Y ho (fd_plain hd) hcd hmg hobj hints hlen hw hg) fun r s' hq=>?_);obtain⟨rfl,h2,h3,h4⟩:=hq;exact⟨.inl ⟨.bool true,.bool true,[],rfl,fun _=>rfl,.bool true,zOV l _,fun _=>⟨qG3,fun _ hm=>(nomatch hm)⟩⟩,h2,h3,h4⟩
end Att
namespace L2
open PySem PySem.Spec PyProof.Rows
def MulOk(i j:Int):Prop:=((-(2 ^ 64)<i/\i<2 ^ 64)\/(-(2 ^ 64)<j/\j<2 ^ 64))\/i.natAbs.log2+j.natAbs.log2<=67108864
theorem zQV(i:Int):qK7 i<=i.natAbs.log2+1:=by
 unfold qK7;split<;>lia
theorem MulOk.ok{i j:Int}(h:MulOk i j):IntMulOk i j:=by
 rcases h with h|h
 ·exact CMul.ok h
 ·unfold IntMulOk;have h1:=zQV i;have h2:=zQV j;have h3:qLj ((qK7 i:Int)+(qK7 j:Int))=false:=by
   unfold qLj;have:(bitsLine:Int)=134217728:=by decide
   rw[this];simp only[gt_iff_lt,decide_eq_false_iff_not,Int.not_lt];lia
  rw[h3,qDf];exact qAe
section
variable{X:Cx}
noncomputable def zY3:R2:=fun x y H Q=>match x,y with
 |.int i,.int j=>MulOk i j/\Q (.int (i*j)) H
 |_,_=>False
theorem zVR:OpR X (binaryOp .Mult) (rI MulOk fun i j=>.int (i*j)):=opI fun _ _ _ _ _ _ _ hc q=>mul_int q hc.ok
theorem zB6:OpR X (binaryOp .Mult) zY3:=by
 intro pins s σ H x y v u Q I rx ry h;cases x<;>cases y<;>first
  |exact zVR pins s σ H _ _ v u Q I rx ry ⟨_,_,rfl,rfl,h.1,h.2⟩
  |exact qAa h
noncomputable def zY6:R2:=fun x y H Q=>match x,y with
 |.int i,.int j=>(0<j/\j<1000000000000000000000000)/\Q (.int (i/j)) H
 |_,_=>False
theorem log2_lt{n:Nat}(h:n<1000000000000000000000000):n.log2<9000:=by
 by_cases z:n=0
 ·subst z;decide
 ·have h2:n<2 ^ 80:=by lia
  have:=(Nat.log2_lt z).mpr h2;lia
theorem zVS:OpR X (binaryOp .FloorDiv) (rI (fun _ j=>0<j/\j<1000000000000000000000000) fun i j=>.int (i/j)):=opI fun i j _ _ _ _ _ hc q=>by
 have h1:(0:Int)<j:=hc.1;have h2:j<1000000000000000000000000:=hc.2;exact floordiv_int (by lia) (by rw[Int.fdiv_eq_ediv_of_nonneg i (by lia)];exact q) (.inl (PyProof.noPylong_of_log2 (log2_lt (by lia))))
theorem zCY:OpR X (binaryOp .FloorDiv) zY6:=by
 intro pins s σ H x y v u Q I rx ry h;cases x<;>cases y<;>first
  |exact zVS pins s σ H _ _ v u Q I rx ry ⟨_,_,rfl,rfl,h.1,h.2⟩
  |exact qAa h
end
noncomputable def del(H:Hp)(a:Addr):Hp:=fun b=>if b=a then none else H b
theorem zUH{H:Hp}{a b:Addr}(h:b≠a):del H a b=H b:=by unfold del;rw[if_neg h]
abbrev cel(co:Obj):HO:=.frz co (.ext fun _=>True)
theorem zaA{P:qIy}{w:World}{H:Hp}{h:Heap}{a:Addr}{co:Obj}(e:h.get? a=some co):ObjOk P w H h a (cel co):=⟨e,trivial,⟨co,e⟩,fun _ _ _ _=>trivial⟩
section
variable{P:qIy}{w:World}{H H':Hp}{h h':Heap}{a:Addr}{co:Obj}{fs:List Addr}
end
abbrev lamO(q:Str)(params:Arguments)(body:Expr)(scope:Scope)(clos:List (Str×Addr))(pm cdv ctv:Value):Obj:=
 { cls:=.type "function",data:=.func (qCw "<lambda>" q params body scope clos pm cdv ctv) }
theorem zR3{pos:Pos}{x y:Int}{c cv:Value}(l:List Value)(h:TriplesOk l)(e:qL2 pos (l++[rawInt x,rawInt y,c])=some cv):qL2 pos l=some cv\/cv=c:=by
 fun_induction TriplesOk l with
 |case1=>
  simp only[qCg,qL2,rawInt]at e;split at e
  ·cases e;exact .inr rfl
  ·cases e
 |case2 a t b u z rest ih=>
  simp only[qDn,qL2]at e ⊢;split at e
  ·cases e;rename_i hc;rw[if_pos hc];exact .inl rfl
  ·rename_i hc;rw[if_neg hc];exact ih h e
 |case3 l h1 h2=>exact h.elim
def tLam(P:Addr)(q:Str)(params:Arguments)(body:Expr)(scope:Scope)(clos:List (Str×Addr)):TE:=fun _ H Q=>
 H P=some (.lam q)/\∀f pm cdv ctv H1,H f=none->Same H H1->H1 f=some (.fn (lamO q params body scope clos pm cdv ctv) q)->Q (.ref f) H1
section
variable{X:Cx}
theorem zYG{params:Arguments}{body:Expr}{scope:Scope}{pos:Pos}{c P:Addr}{q:Str}{clos:List (Str×Addr)}(hdef:defaultsOf params X.env=([],[]))(hcode:X.env.code=.ref c)(C:PySem.W.CodeHd X.base c P)
  (hq:X.env.qual ++ "<lambda>" = q) (hcl:qMf scope X.env=pure clos):PE X (.Lambda params body scope pos) (tLam P q params body scope clos):=by
 intro pins s σ H Q I ⟨hP,hQ⟩;refine PySem.W.kla_eval hdef ?_;rw[hq];obtain⟨ps,eP,tO,hrec⟩:=I.hok P _ hP;have C':=C.keeps I.bk;have hg:s.heap.Ns qJ1 X.mg:=let⟨o,es,ep,e,r⟩:=I.ok.mod.glob;⟨o,es,ep,I.bk _ _ e,r⟩;have hgP:qJ1≠P:=fun z=>by
  obtain⟨o,es,ep,e,r⟩:=I.ok.mod.glob;have:=(I.bs _ _ e).2;rw[z,hP]at this;cases this
 have hB:s.heap.BuiltinsAt X.mg P:=by
  obtain⟨bm,ob,e1,e2,e3,e4,e5,e6⟩:=I.ok.mod.bm;refine⟨bm,ob,e1,e2,fun z=>?_,fun z=>?_,I.bk _ _ e3,e4,e5,e6⟩
  ·obtain⟨o,es,ep,e,hd,_⟩:=I.ok.mod.glob;rw[z,e]at e3;cases e3;rw[hd]at e6;cases e6
  ·have:=(I.bs _ _ e3).2
   rw[z,hP]at this;cases this
 cases hit:qL2 pos ps.toList with
 |some cv=>
  obtain⟨c2,oc,u,rfl,hc2,hcr⟩:=hrec pos cv hit;refine PySem.W.kla_makeFunctionHit hcl I.ok.glob hg hcode C' eP tO hit hB fun ctv h' tk hk hsz=>?_
  have hf:H h'.objs.size=none:=I.hok.fresh hsz;refine⟨.ref h'.objs.size,upd H h'.objs.size (.fn (lamO q params body scope clos ((X.mg "__name__").getD .none) (.ref c2) ctv) q),I.laid (t':=tk) (fun b u e=>qIu _ (hk b u e)) hsz ?_,rfl,hQ h'.objs.size _ _ ctv _ hf (fun b o e=>(zAE (zAH e hf)).trans e) zAG⟩;exact⟨qIw _ rfl,_,c2,oc,u,rfl,rfl,by rw[zAE (zAH hc2 hf)];exact hc2,hcr⟩
 |none=>
  refine PySem.W.kla_makeFunction hcl I.ok.glob hg hcode C' eP tO hit hgP hB fun c' ctv h' tk hx hge hlt hrec' htb=>?_
  obtain⟨c2,oc,vs,t,e2,hoc,hd,hv⟩:=hrec';cases e2;have hcr:CodR oc q:=⟨vs,t,hd,hv⟩;have lt:∀{b:Addr}{o:HO},H b=some o->b<s.heap.objs.size:=fun e=>I.hok.lt e
  have n1:∀{b:Addr},b<s.heap.objs.size->b≠c':=fun z=>qAq (qAg z hge)
  have n2:∀{b:Addr},b<s.heap.objs.size->b≠h'.objs.size:=fun z=>qAq (qI7 (qAg z hge) hlt)
  generalize hH1:upd (upd H c' (cel oc)) h'.objs.size (.fn (lamO q params body scope clos ((X.mg "__name__").getD .none) (.ref c') ctv) q)=H1;have sm:Same H H1:=fun b o e=>by rw[<- hH1,zAE (n2 (lt e)),zAE (n1 (lt e))];exact e
  have ac:H1 c'=some (cel oc):=by rw[<- hH1,zAE (qAq hlt),zAG]
  have af:H1 h'.objs.size=some (.fn (lamO q params body scope clos ((X.mg "__name__").getD .none) (.ref c') ctv) q):=by rw[<- hH1,zAG]
  have kp:∀b o,b≠P->s.heap.get? b=some o->(h'.push (PySem.W.kla_obj "<lambda>" q params body scope clos ((X.mg "__name__").getD .none) c' ctv)).get? b=some o:=fun b o z e=>qIu _ (hx b o z e)
  have nP:∀{b:Addr},H b=none->b≠P:=fun e z=>by rw[z,hP]at e;cases e
  refine⟨.ref h'.objs.size,H1,I.un (t':=tk) ⟨fun b o e n _ _=>kp b o (nP n) e,fun b o e n _ _=>⟨o.slots,kp b o (nP n) e⟩,fun b o e n _=>?_,fun b o e _=>?_,fun b xs e=>sm _ _ e,fun b o u e=>sm _ _ e,fun b ts e=>⟨#[],by rw[sm _ _ e];simp⟩⟩ (fun b u e=>?_),rfl,hQ _ _ _ ctv H1 (I.hok.fresh (qAs hge (qCm hlt))) sm af⟩
  ·rw[<- hH1,zAE (n2 (qIx e)),zAE (n1 (qIx e))];exact n
  ·by_cases z:b=P
   ·subst z;exact⟨_,qIu _ htb⟩
   ·exact⟨o,kp b o z e⟩
  ·by_cases zf:b=h'.objs.size
   ·subst zf;rw[af]at e;cases e;exact⟨qIw _ rfl,_,c',oc,_,rfl,rfl,ac,hcr⟩
   ·by_cases zc:b=c'
    ·subst zc;rw[ac]at e;cases e;exact zaA (qIu _ hoc)
    ·have e':H b=some u:=by rw[<- hH1,zAE zf,zAE zc]at e;exact e
     by_cases zP:b=P
     ·subst zP;rw[hP]at e';cases e';refine⟨_,qIu _ htb,?_,fun pos' cv hcv=>?_⟩
      ·rw[qFf];exact TriplesOk_snoc _ _ _ _ tO
      ·rw[qFf]at hcv
       rcases zR3 _ tO hcv with z|z
       ·obtain⟨c3,oc3,u3,z1,z2,z3⟩:=hrec pos' cv z;exact⟨c3,oc3,u3,z1,sm _ _ z2,z3⟩
       ·exact⟨c',oc,_,z,ac,hcr⟩
     ·refine(I.hok b u e').stay (fun c v hc r=>kp c v ?_ r) (fun c r=>sm _ _ r) (fun c xs r=>sm _ _ r) fun c o v r _=>sm _ _ r
      rcases hc with rfl|hc
      ·exact zP
      ·rintro rfl;rw[hP]at hc;cases hc
end
section
variable{X:Cx}{k:Nat}{f cl:Addr}{fd:qJl}{ps:List Str}{sp:Sp}{x nm:Str}{p pos:Pos}{e:Expr}{es:List Expr}{t:TA}{i:Nat}
end
structure LamScope(ps:List Str)(nm:Str)(sc:Scope):Prop where
 kind:sc.kind=.function
 co:sc.isCoroutine=false
 gen:sc.isGenerator=false
 nd:(ps++[nm]).Nodup
 par:∀x∈ps,sc.names.lookup x=some .local
 held:sc.names.lookup nm=some .free
 nocell:∀y∈sc.names,y.2≠.cell
 only:∀x,sc.names.lookup x=some .free->x=nm
def zTD(X:Cx)(N:List Str)(q:Str)(scope:Scope)(f:Addr)(cd:Value)(clos:List (Str×Addr))(s:qIv)(H:Hp):Cx where
 prog:=X.prog
 w:=X.w
 K:=X.K
 mg:=X.mg
 base:=X.base
 A:=X.A.deeper (qE5 q scope s.heap.objs.size f cd clos)
 N:=N
 s₀:=s
 H₀:=H
 env:=qE5 q scope s.heap.objs.size f cd clos
 outer:=X.stack
 stack:=qE5 q scope s.heap.objs.size f cd clos::X.stack
 ex:=[]
 fn:=fun _=>false
 calm:=true
 pn:=[]
 xe:=fun _ _=>False
theorem zO1:∀{ps:List Str}{us:List Value}{i:Nat}{x:Str}{u:Value},ps.Nodup->ps[i]?=some x->us[i]?=some u->(ps.zip us).reverse.lookup x=some u
 |[],_,_,_,_,_,h,_=>by simp at h
 |_::_,[],_,_,_,_,_,h=>by simp at h
 |p::ps,w::us,0,x,u,nd,h1,h2=>by
  simp at h1 h2;subst h1;subst h2;rw[qE6,qCs,qFs];have:(ps.zip us).reverse.lookup p=none:=by
   rw[qEl];intro q hq;have:=(qC4 (a:=q.1) (b:=q.2) (by simpa using hq)).1
   have hne:p≠q.1:=fun z=>(qAv.mp nd).1 (z▸this)
   simpa using hne
  rw[this];simp
 |p::ps,w::us,i+1,x,u,nd,h1,h2=>by
  rw[qE6,qCs,qFs,zO1 (i:=i) (qAv.mp nd).2 (by simpa using h1) (by simpa using h2)];rfl
section
variable{X:Cx}{pins:List (Addr×Obj)}{σ:St}{H:Hp}{s:qIv}{Q:VK}{us:List Value}{vs:List V}{f cl:Addr}{q nm:Str}{params:Arguments}{body:Expr}{scope:Scope}{pm cdv ctv:Value}{co:Obj}{val:Value}{v:V}{ps:List Str}
end
section
variable{X:Cx}{i:Nat}{x:Str}{p pos:Pos}{e:Expr}{es:List Expr}{t:TA}{r:Addr->List V->Hp->VK->Prop}
end
end L2
namespace L3
open PySem PySem.Spec
open L2 hiding Rep RepL
open Mi (Dt Xn R okR zA2 optR zA0 zA4 zA9 zA7 zA8 Rh Sl Ro EM TM AM FM IM SM Tg Out zAO zAN zAQ full frz frz1 frzAt)
section
class Kc where
 K:qA1
variable[Kc]
noncomputable def clK(K:qA1)(c:Str):Option Addr:=match qBg K qJ1 c with
 |some (some (.ref C))=>some C
 |_=>none
def KTP(K:qA1)(a:Addr)(xs:List V):Prop:=xs≠[]/\∃(o:Obj)(its:Array Value)(n:Nat),K.lookup a=some o/\o.cls=.type "tuple"/\o.data=.seq its n/\its.size<=sizeLine/\Vals xs its.toList
theorem KTP.t{K:qA1}{H:Hp}{a:Addr}{xs:List V}(h:KTP K a xs):SqT K H a xs:=.inr h.2
def SqR(K:qA1)(H:Hp)(a:Addr)(xs:List V):Prop:=SqL K H a xs\/KTP K a xs
theorem SqR.old{K:qA1}{H:Hp}{a:Addr}{xs:List V}(h:SqR K H a xs):SqL K H a xs\/SqT K H a xs:=h.imp_right fun z=>z.t
theorem zIY{K:qA1}{H H':Hp}{a:Addr}{xs:List V}(e:Same H H')(h:SqT K H a xs):SqT K H' a xs:=by
 rcases h with(h|⟨o,h⟩)|h
 ·exact .inl (.inl (e _ _ h))
 ·exact .inl (.inr ⟨o,e _ _ h⟩)
 ·exact .inr h
theorem zED{K:qA1}{H H':Hp}{a:Addr}{xs:List V}(e:Same H H')(h:SqR K H a xs):SqR K H' a xs:=h.imp_left fun z=>e.seq z
noncomputable def svV:Mi.Sv->V
 |.i n=>.int n
 |.s x=>.str x
noncomputable def swV:Mi.Sw->V
 |.non=>.non
 |.bl b=>.bl b
 |.int i=>.int i
 |.str x=>.str x
def kNw:Mi.Sw->KeyN
 |.non=>none
 |.bl b=>some (.inl (zJZ b))
 |.int i=>some (.inl i)
 |.str x=>some (.inr x)
noncomputable def noBw:Mi.Sw->Bool
 |.bl _=>false
 |_=>true
def noBk(ks:List (List Mi.Sw)):Bool:=ks.all fun k=>k.all noBw
noncomputable def isBl:V->Bool
 |.bl _=>true
 |_=>false
def KeyT(H:Hp)(T:Addr->Prop)(ks:List (List Mi.Sw)):Prop:=(ks.map fun k=>k.map kNw).Nodup/\∀c,T c->∃ys,H c=some (.tup ys)/\(noBk ks=true->∀y∈ys,isBl y=false)
theorem KeyT.mono{H H':Hp}{T:Addr->Prop}{ks:List (List Mi.Sw)}(s:Same H H')(h:KeyT H T ks):KeyT H' T ks:=⟨h.1,fun c t=>let⟨ys,e,n⟩:=h.2 c t;⟨ys,s _ _ e,n⟩⟩
abbrev kzip(ks:List (List Mi.Sw))(xs:List V):List (List KeyN×V):=(ks.map fun k=>k.map kNw).zip xs
noncomputable def zT0:Expr->Option (Arguments×Expr×Scope×Str)
 |.Call _ [_,.Lambda ps b sc _] _ _=>match sc.names.find? fun p=>p.2==.free with
  |some (x,_)=>some (ps,b,sc,x)
  |none=>none
 |.Call _ [_] [⟨_,.Lambda ps b sc _,_⟩] _=>match sc.names.find? fun p=>p.2==.free with
  |some (x,_)=>some (ps,b,sc,x)
  |none=>none
 |_=>none
def zaS:Stmt->Option (Arguments×Expr×Scope×Str)
 |.Return (some e) _=>zT0 e
 |.Assign _ e _=>zT0 e
 |.If _ (.Assign _ e _::_) _ _=>zT0 e
 |.If _ (_::.Return (some e) _::_) _ _=>zT0 e
 |_=>none
def zKX(l:List Stmt):Option (Arguments×Expr×Scope×Str):=l.findSome? zaS
def lamK(K:qA1)(x:Str):Option (Arguments×Expr×Scope×Str):=match qBg K qJ1 x with
 |some (some (.ref f))=>match K.lookup f with
  |some o=>match o.data with
   |.func fd=>match fd.body with
    |.stmts b=>zKX b
    |_=>none
   |_=>none
  |none=>none
 |_=>none
noncomputable def lamQ(x:Str):Str:=x ++ ".<locals>." ++ "<lambda>"
noncomputable def codP(K:qA1)(x:Str):Option Addr:=match qBg K qJ1 x with
 |some (some (.ref f))=>match K.lookup f with
  |some o=>match o.data with
   |.func fd=>match fd.code with
    |.ref c=>match K.lookup c with
     |some o=>match o.data with
      |.fields vs=>match(vs[11]?:Option Value)with
       |some (.ref P)=>some P
       |_=>none
      |_=>none
     |none=>none
    |_=>none
   |_=>none
  |none=>none
 |_=>none
noncomputable def makers:List Str:=["turned_at","exchanged_at","pivoted","_law_beside"]
def tabK(K:qA1):Hp:=fun P=>(makers.find? fun x=>codP K x==some P&&(lamK K x).isSome).map fun x=>.lam (lamQ x)
def dskO(H:Hp)(w:Str)(ws:List Str)(a b C dx:Addr):Prop:=H a=some (.ins C dx [("word",.str w),("ahead",.ref b)])/\H b=some (.lst (ws.map V.str))
mutual
def Rep(H:Hp):Dt->V->Prop
 |.non,v=>v=.non
 |.bl b,v=>v=.bl b
 |.int i,v=>v=.int i
 |.str x,v=>v=.str x
 |.lst ds,v=>∃a xs,v=.ref a/\H a=some (.lst xs)/\RepL H ds xs
 |.tup ds,v=>∃a xs,v=.ref a/\H a=some (.tup xs)/\RepL H ds xs
 |.scr ns,v=>∃a,v=.ref a/\SqR Kc.K H a (ns.map V.int)
 |.exc c f d,v=>∃e C da,v=.ref e/\isX H e C da/\clK Kc.K c=some C/\((da=none/\f = "")\/∃a gs w,da=some a/\H a=some (.xd gs)/\gs.lookup f=some w/\Rep H d w)
 |.ins c fs,v=>∃a C dx,v=.ref a/\clK Kc.K c=some C/\H a=some (.ins C dx (fs.map fun p=>(p.1,svV p.2)))
 |.dct kvs,v=>∃a,v=.ref a/\H a=some (.dK (kvs.map fun p=>(p.1,swV p.2)))
 |.fn x d,v=>∃f,v=.ref f/\∃L cl pm cdv ctv co val w,lamK Kc.K x=some L/\H f=some (.fn (lamO (lamQ x) L.1 L.2.1 L.2.2.1 [(L.2.2.2,cl)] pm cdv ctv) (lamQ x))/\H cl=some (cel co)/\co.data=.cell (some val)/\RelV w val/\Rep H d w
 |.dtt ks ds,v=>∃a T e0 xs,v=.ref a/\H a=some (.dT T e0 (kzip ks xs))/\ks.length=ds.length/\KeyT H T ks/\RepL H ds xs
 |.loc a d,v=>v=.ref a/\Rep H d v
 |.dsk w ws,v=>∃a,v=.ref a/\∃b C dx,clK Kc.K "Desk" = some C/\dskO H w ws a b C dx
 |.fnc x,v=>∃a,v=.ref a/\clK Kc.K x=some a
def RepL(H:Hp):List Dt->List V->Prop
 |[],xs=>xs=[]
 |d::r,xs=>∃x q,xs=x::q/\Rep H d x/\RepL H r q
end
mutual
theorem Rep.mono{H H':Hp}(s:Same H H'):∀{d:Dt}{v:V},Rep H d v->Rep H' d v
 |.non,_,h=>h
 |.bl _,_,h=>h
 |.int _,_,h=>h
 |.str _,_,h=>h
 |.lst _,_,h=>by obtain⟨a,xs,e,e',r⟩:=h;exact⟨a,xs,e,s _ _ e',RepL.mono s r⟩
 |.tup _,_,h=>by obtain⟨a,xs,e,e',r⟩:=h;exact⟨a,xs,e,s _ _ e',RepL.mono s r⟩
 |.scr _,_,h=>by obtain⟨a,e,e'⟩:=h;exact⟨a,e,zED s e'⟩
 |.exc _ _ _,_,h=>by
  obtain⟨a,C,da,e,e',hc,r⟩:=h;refine⟨a,C,da,e,e'.imp (fun z=>s _ _ z) fun z=>s _ _ z,hc,r.imp (fun z=>z) ?_⟩
  rintro⟨b,gs,w,h1,h2,h3,h4⟩
  exact⟨b,gs,w,h1,s _ _ h2,h3,Rep.mono s h4⟩
 |.ins _ _,_,h=>by obtain⟨a,C,dx,e,hc,h1⟩:=h;exact⟨a,C,dx,e,hc,s _ _ h1⟩
 |.dct _,_,h=>by obtain⟨a,e,h1⟩:=h;exact⟨a,e,s _ _ h1⟩
 |.fn _ _,_,h=>by obtain⟨f,e,L,cl,pm,cdv,ctv,co,val,w,h1,h2,h3,h4,h5,h6⟩:=h;exact⟨f,e,L,cl,pm,cdv,ctv,co,val,w,h1,s _ _ h2,s _ _ h3,h4,h5,Rep.mono s h6⟩
 |.dtt _ _,_,h=>by obtain⟨a,T,e0,xs,e,e',hl,ht,r⟩:=h;exact⟨a,T,e0,xs,e,s _ _ e',hl,ht.mono s,RepL.mono s r⟩
 |.loc _ _,_,h=>⟨h.1,Rep.mono s h.2⟩
 |.dsk _ _,_,h=>by obtain⟨a,e,b,C,dx,h1,h2,h3⟩:=h;exact⟨a,e,b,C,dx,h1,s _ _ h2,s _ _ h3⟩
 |.fnc _,_,h=>h
theorem RepL.mono{H H':Hp}(s:Same H H'):∀{ds:List Dt}{xs:List V},RepL H ds xs->RepL H' ds xs
 |[],_,h=>h
 |_::_,_,h=>by obtain⟨x,q,e,r,t⟩:=h;exact⟨x,q,e,Rep.mono s r,RepL.mono s t⟩
end
theorem RepL.length{H:Hp}:∀{ds:List Dt}{xs:List V},RepL H ds xs->xs.length=ds.length
 |[],_,h=>by cases h;rfl
 |_::_,_,h=>by obtain⟨x,q,e,r,t⟩:=h;subst e;simp[RepL.length t]
mutual
def conv:Dt->L2.Dat
 |.non=>.non
 |.bl b=>.bl b
 |.int i=>.int i
 |.str x=>.str x
 |.lst ds=>.lst (convL ds)
 |.tup ds=>.tup (convL ds)
 |.scr _=>.non
 |.exc _ _ _=>.non
 |.fn _ _=>.non
 |.dsk _ _=>.non
 |.fnc _=>.non
 |.dtt _ _=>.non
 |.loc _ _=>.non
 |.ins _ _=>.non
 |.dct _=>.non
def convL:List Dt->List L2.Dat
 |[]=>[]
 |d::r=>conv d::convL r
end
mutual
theorem zMS:∀{d:Dt},d.dep<=40->(conv d).dep<=d.dep
 |.non,_=>qA6 _
 |.bl _,_=>qA6 _
 |.int _,_=>qA6 _
 |.str _,_=>qA6 _
 |.lst ds,h=>by rw[Dt.dep]at h ⊢;rw[conv,L2.Dat.dep];have:=conv_depL (ds:=ds) (by lia);lia
 |.tup ds,h=>by rw[Dt.dep]at h ⊢;rw[conv,L2.Dat.dep];have:=conv_depL (ds:=ds) (by lia);lia
 |.scr _,h=>by rw[Dt.dep]at h;lia
 |.exc _ _ _,h=>by rw[Dt.dep]at h;lia
 |.fn _ _,h=>by rw[Dt.dep]at h;lia
 |.dsk _ _,h=>by rw[Dt.dep]at h;lia
 |.fnc _,h=>by rw[Dt.dep]at h;lia
 |.dtt _ _,h=>by rw[Dt.dep]at h;lia
 |.loc _ _,h=>by rw[Dt.dep]at h;lia
 |.ins _ _,h=>by rw[Dt.dep]at h;lia
 |.dct _,h=>by rw[Dt.dep]at h;lia
theorem conv_depL:∀{ds:List Dt},Dt.depL ds<=40->L2.Dat.depL (convL ds)<=Dt.depL ds
 |[],_=>qA6 _
 |d::r,h=>by
  rw[Dt.depL]at h ⊢;rw[convL,L2.Dat.depL];have h1:=zMS (d:=d) (by lia);have h2:=conv_depL (ds:=r) (by lia)
  lia
end
mutual
theorem zI8{H:Hp}:∀{d:Dt}{v:V},d.dep<=40->Rep H d v->L2.Rep H (conv d) v
 |.non,_,_,h=>h
 |.bl _,_,_,h=>h
 |.int _,_,_,h=>h
 |.str _,_,_,h=>h
 |.lst ds,_,hd,h=>by obtain⟨a,xs,e,e',r⟩:=h;exact⟨a,xs,e,e',conv_repL (by rw[Dt.dep]at hd;lia) r⟩
 |.tup ds,_,hd,h=>by obtain⟨a,xs,e,e',r⟩:=h;exact⟨a,xs,e,e',conv_repL (by rw[Dt.dep]at hd;lia) r⟩
 |.scr _,_,h,_=>by rw[Dt.dep]at h;lia
 |.exc _ _ _,_,h,_=>by rw[Dt.dep]at h;lia
 |.fn _ _,_,h,_=>by rw[Dt.dep]at h;lia
 |.dsk _ _,_,h,_=>by rw[Dt.dep]at h;lia
 |.fnc _,_,h,_=>by rw[Dt.dep]at h;lia
 |.dtt _ _,_,h,_=>by rw[Dt.dep]at h;lia
 |.loc _ _,_,h,_=>by rw[Dt.dep]at h;lia
 |.ins _ _,_,h,_=>by rw[Dt.dep]at h;lia
 |.dct _,_,h,_=>by rw[Dt.dep]at h;lia
theorem conv_repL{H:Hp}:∀{ds:List Dt}{xs:List V},Dt.depL ds<=40->RepL H ds xs->L2.RepL H (convL ds) xs
 |[],_,_,h=>h
 |d::r,_,hd,h=>by
  rw[Dt.depL]at hd;obtain⟨x,q,e,a,b⟩:=h;exact⟨x,q,e,zI8 (by lia) a,conv_repL (by lia) b⟩
end
mutual
theorem zQK:∀{d e:Dt},d.dep<=40->e.dep<=40->L2.Dat.eq (conv d) (conv e)=Dt.eq d e
 |.scr _,_,h,_=>by rw[Dt.dep]at h;lia
 |.exc _ _ _,_,h,_=>by rw[Dt.dep]at h;lia
 |.fn _ _,_,h,_=>by rw[Dt.dep]at h;lia
 |.dsk _ _,_,h,_=>by rw[Dt.dep]at h;lia
 |.fnc _,_,h,_=>by rw[Dt.dep]at h;lia
 |.dtt _ _,_,h,_=>by rw[Dt.dep]at h;lia
 |.loc _ _,_,h,_=>by rw[Dt.dep]at h;lia
 |.ins _ _,_,h,_=>by rw[Dt.dep]at h;lia
 |.dct _,_,h,_=>by rw[Dt.dep]at h;lia
 |.lst ds,e,h,h'=>by
  rw[Dt.dep]at h;cases e with
  |lst es=>rw[Dt.dep]at h';rw[conv,conv,L2.Dat.eq,Dt.eq];exact conv_eqL (by lia) (by lia)
  |scr _=>rw[Dt.dep]at h';lia
  |exc _ _ _=>rw[Dt.dep]at h';lia
  |fn _ _=>rw[Dt.dep]at h';lia
  |dsk _ _=>rw[Dt.dep]at h';lia
  |fnc _=>rw[Dt.dep]at h';lia
  |dtt _ _=>rw[Dt.dep]at h';lia
  |loc _ _=>rw[Dt.dep]at h';lia
  |ins _ _=>rw[Dt.dep]at h';lia
  |dct _=>rw[Dt.dep]at h';lia
  |_=>simp[conv,L2.Dat.eq,Dt.eq]
 |.tup ds,e,h,h'=>by
  rw[Dt.dep]at h;cases e with
  |tup es=>rw[Dt.dep]at h';rw[conv,conv,L2.Dat.eq,Dt.eq];exact conv_eqL (by lia) (by lia)
  |scr _=>rw[Dt.dep]at h';lia
  |exc _ _ _=>rw[Dt.dep]at h';lia
  |fn _ _=>rw[Dt.dep]at h';lia
  |dsk _ _=>rw[Dt.dep]at h';lia
  |fnc _=>rw[Dt.dep]at h';lia
  |dtt _ _=>rw[Dt.dep]at h';lia
  |loc _ _=>rw[Dt.dep]at h';lia
  |ins _ _=>rw[Dt.dep]at h';lia
  |dct _=>rw[Dt.dep]at h';lia
  |_=>simp[conv,L2.Dat.eq,Dt.eq]
 |.non,e,_,h'=>by
  cases e with
  |scr _=>rw[Dt.dep]at h';lia
  |exc _ _ _=>rw[Dt.dep]at h';lia
  |fn _ _=>rw[Dt.dep]at h';lia
  |dsk _ _=>rw[Dt.dep]at h';lia
  |fnc _=>rw[Dt.dep]at h';lia
  |dtt _ _=>rw[Dt.dep]at h';lia
  |loc _ _=>rw[Dt.dep]at h';lia
  |ins _ _=>rw[Dt.dep]at h';lia
  |dct _=>rw[Dt.dep]at h';lia
  |_=>simp[conv,L2.Dat.eq,Dt.eq]
 |.bl _,e,_,h'=>by
  cases e with
  |scr _=>rw[Dt.dep]at h';lia
  |exc _ _ _=>rw[Dt.dep]at h';lia
  |fn _ _=>rw[Dt.dep]at h';lia
  |dsk _ _=>rw[Dt.dep]at h';lia
  |fnc _=>rw[Dt.dep]at h';lia
  |dtt _ _=>rw[Dt.dep]at h';lia
  |loc _ _=>rw[Dt.dep]at h';lia
  |ins _ _=>rw[Dt.dep]at h';lia
  |dct _=>rw[Dt.dep]at h';lia
  |_=>simp[conv,L2.Dat.eq,Dt.eq]
 |.int _,e,_,h'=>by
  cases e with
  |scr _=>rw[Dt.dep]at h';lia
  |exc _ _ _=>rw[Dt.dep]at h';lia
  |fn _ _=>rw[Dt.dep]at h';lia
  |dsk _ _=>rw[Dt.dep]at h';lia
  |fnc _=>rw[Dt.dep]at h';lia
  |dtt _ _=>rw[Dt.dep]at h';lia
  |loc _ _=>rw[Dt.dep]at h';lia
  |ins _ _=>rw[Dt.dep]at h';lia
  |dct _=>rw[Dt.dep]at h';lia
  |_=>simp[conv,L2.Dat.eq,Dt.eq]
 |.str _,e,_,h'=>by
  cases e with
  |scr _=>rw[Dt.dep]at h';lia
  |exc _ _ _=>rw[Dt.dep]at h';lia
  |fn _ _=>rw[Dt.dep]at h';lia
  |dsk _ _=>rw[Dt.dep]at h';lia
  |fnc _=>rw[Dt.dep]at h';lia
  |dtt _ _=>rw[Dt.dep]at h';lia
  |loc _ _=>rw[Dt.dep]at h';lia
  |ins _ _=>rw[Dt.dep]at h';lia
  |dct _=>rw[Dt.dep]at h';lia
  |_=>simp[conv,L2.Dat.eq,Dt.eq]
theorem conv_eqL:∀{ds es:List Dt},Dt.depL ds<=40->Dt.depL es<=40->L2.Dat.eqL (convL ds) (convL es)=Dt.eqL ds es
 |[],[],_,_=>by simp[convL,L2.Dat.eqL,Dt.eqL]
 |[],_::_,_,_=>by simp[convL,L2.Dat.eqL,Dt.eqL]
 |_::_,[],_,_=>by simp[convL,L2.Dat.eqL,Dt.eqL]
 |d::r,e::t,h,h'=>by
  rw[Dt.depL]at h h';rw[convL,convL,L2.Dat.eqL,Dt.eqL,zQK (by lia) (by lia),conv_eqL (by lia) (by lia)]
end
theorem zBI{G:Hp}:∀{ds:List Dt}{xs:List V}{q:Nat}{d:Dt}{x:V},RepL G ds xs->ds[q]?=some d->xs[q]?=some x->Rep G d x
 |[],_,_,_,_,_,h,_=>by simp at h
 |d::r,xs,0,e,y,h,h1,h2=>by
  obtain⟨x,t,rfl,a,b⟩:=h;simp at h1 h2;subst h1;subst h2;exact a
 |d::r,xs,q+1,e,y,h,h1,h2=>by
  obtain⟨x,t,rfl,a,b⟩:=h;exact zBI b (by simpa using h1) (by simpa using h2)
theorem zD4{G:Hp}:∀{ds:List Dt}{xs:List V},xs.length=ds.length->(∀(q:Nat)(d:Dt)(x:V),ds[q]?=some d->xs[q]?=some x->Rep G d x)->RepL G ds xs
 |[],[],_,_=>rfl
 |[],_::_,h,_=>by simp at h
 |_::_,[],h,_=>by simp at h
 |d::r,x::t,h,k=>⟨x,t,rfl,k 0 d x rfl rfl,zD4 (by simpa using h) fun q e y h1 h2=>k (q+1) e y (by simpa using h1) (by simpa using h2)⟩
theorem zGC{n:Nat}:∀{ds:List Dt},Dt.depL ds<=n->∀{q:Nat}{d:Dt},ds[q]?=some d->d.dep<=n
 |[],_,_,_,h=>by simp at h
 |e::r,h,0,d,h1=>by simp at h1;subst h1;rw[Dt.depL]at h;lia
 |e::r,h,q+1,d,h1=>by rw[Dt.depL]at h;exact zGC (ds:=r) (by lia) (q:=q) (by simpa using h1)
theorem Rep.scalar{G G2:Hp}{d:Dt}{v:V}(h:Rep G d v)(hd:d.dep=0):Rep G2 d v:=by
 cases d with
 |lst ds=>rw[Dt.dep]at hd;lia
 |tup ds=>rw[Dt.dep]at hd;lia
 |scr ns=>rw[Dt.dep]at hd;lia
 |exc _ _ _=>rw[Dt.dep]at hd;lia
 |fn _ _=>rw[Dt.dep]at hd;lia
 |dsk _ _=>rw[Dt.dep]at hd;lia
 |fnc _=>rw[Dt.dep]at hd;lia
 |dtt _ _=>rw[Dt.dep]at hd;lia
 |loc _ _=>rw[Dt.dep]at hd;lia
 |ins _ _=>rw[Dt.dep]at hd;lia
 |dct _=>rw[Dt.dep]at hd;lia
 |_=>exact h
structure Kids(P:(Addr->Prop)->Dt->V->Prop)(S:Addr->Prop)(a:Addr)(ds:List Dt)(xs:List V)(T:Nat->Addr->Prop):Prop where
 len:xs.length=ds.length
 own:∀(q:Nat)(d:Dt)(x:V),ds[q]?=some d->xs[q]?=some x->P (T q) d x
 top:S a
 out:∀q,¬T q a
 dis:∀q r b,T q b->T r b->q=r
 sub:∀q b,T q b->S b
def Own(G H:Hp):Nat->(Addr->Prop)->Dt->V->Prop
 |0,_,d,v=>Rep G d v
 |n+1,S,d,v=>match d with
  |.lst ds=>∃a xs T,v=.ref a/\H a=some (.lst xs)/\Kids (Own G H n) S a ds xs T
  |.tup ds=>∃a xs T,v=.ref a/\H a=some (.tup xs)/\Kids (Own G H n) S a ds xs T
  |.dct kvs=>∃a,v=.ref a/\H a=some (.dK (kvs.map fun p=>(p.1,swV p.2)))/\S a
  |.dtt ks ds=>∃a T0 e0 xs T,v=.ref a/\H a=some (.dT T0 e0 (kzip ks xs))/\ks.length=ds.length/\KeyT G T0 ks/\Kids (Own G H n) S a ds xs T
  |.loc a d=>v=.ref a/\Own G H n S d v
  |.dsk w ws=>∃a,v=.ref a/\∃b C dx,clK Kc.K "Desk" = some C/\dskO H w ws a b C dx/\S a/\S b
  |d=>Rep G d v
theorem Kids.imp{P P':(Addr->Prop)->Dt->V->Prop}{S S':Addr->Prop}{a:Addr}{ds:List Dt}{xs:List V}{T:Nat->Addr->Prop}(k:Kids P S a ds xs T)
  (h:∀q d x,ds[q]?=some d->P (T q) d x->P' (T q) d x) (hs:∀b,S b->S' b):Kids P' S' a ds xs T:=
 ⟨k.len,fun q d x h1 h2=>h q d x h1 (k.own q d x h1 h2),hs _ k.top,k.out,k.dis,fun q b t=>hs _ (k.sub q b t)⟩
theorem Own.mono{G G' H H':Hp}(sG:Same G G')(sH:Same H H'):∀{n:Nat}{S:Addr->Prop}{d:Dt}{v:V},Own G H n S d v->Own G' H' n S d v
 |0,S,d,v,h=>Rep.mono sG h
 |n+1,S,d,v,h=>by
  cases d with
  |lst ds=>obtain⟨a,xs,T,e,ha,k⟩:=h;exact⟨a,xs,T,e,sH _ _ ha,k.imp (fun _ _ _ _ p=>Own.mono sG sH p) fun _ z=>z⟩
  |tup ds=>obtain⟨a,xs,T,e,ha,k⟩:=h;exact⟨a,xs,T,e,sH _ _ ha,k.imp (fun _ _ _ _ p=>Own.mono sG sH p) fun _ z=>z⟩
  |dct kvs=>obtain⟨a,e,ha,hs⟩:=h;exact⟨a,e,sH _ _ ha,hs⟩
  |dtt ks ds=>obtain⟨a,T0,e0,xs,T,e,ha,hl,ht,k⟩:=h;exact⟨a,T0,e0,xs,T,e,sH _ _ ha,hl,ht.mono sG,k.imp (fun _ _ _ _ p=>Own.mono sG sH p) fun _ z=>z⟩
  |loc a d=>exact⟨h.1,Own.mono sG sH h.2⟩
  |dsk w ws=>obtain⟨a,e,b,C,dx,h1,⟨h2,h3⟩,h4⟩:=h;exact⟨a,e,b,C,dx,h1,⟨sH _ _ h2,sH _ _ h3⟩,h4⟩
  |_=>exact Rep.mono sG h
theorem Own.sub{G H:Hp}:∀{n:Nat}{S S':Addr->Prop}{d:Dt}{v:V},Own G H n S d v->(∀b,S b->S' b)->Own G H n S' d v
 |0,_,_,_,_,h,_=>h
 |n+1,S,S',d,v,h,hs=>by
  cases d with
  |lst ds=>obtain⟨a,xs,T,e,ha,k⟩:=h;exact⟨a,xs,T,e,ha,k.imp (fun _ _ _ _ p=>p) hs⟩
  |tup ds=>obtain⟨a,xs,T,e,ha,k⟩:=h;exact⟨a,xs,T,e,ha,k.imp (fun _ _ _ _ p=>p) hs⟩
  |dct kvs=>obtain⟨a,e,ha,h2⟩:=h;exact⟨a,e,ha,hs _ h2⟩
  |dtt ks ds=>obtain⟨a,T0,e0,xs,T,e,ha,hl,ht,k⟩:=h;exact⟨a,T0,e0,xs,T,e,ha,hl,ht,k.imp (fun _ _ _ _ p=>p) hs⟩
  |loc a d=>exact⟨h.1,Own.sub h.2 hs⟩
  |dsk w ws=>obtain⟨a,e,b,C,dx,h1,h2,h3,h4⟩:=h;exact⟨a,e,b,C,dx,h1,h2,hs _ h3,hs _ h4⟩
  |_=>exact h
theorem Own.rep{G H J:Hp}(sG:Same G J):∀{n:Nat}{S:Addr->Prop}{d:Dt}{v:V},Own G H n S d v->(∀a o,S a->H a=some o->J a=some o)->Rep J d v
 |0,S,d,v,h,_=>Rep.mono sG h
 |n+1,S,d,v,h,hj=>by
  cases d with
  |lst ds=>obtain⟨a,xs,T,e,ha,k⟩:=h;exact⟨a,xs,e,hj _ _ k.top ha,zD4 k.len fun q d x h1 h2=>Own.rep sG (k.own q d x h1 h2) fun b o t hb=>hj b o (k.sub q b t) hb⟩
  |tup ds=>obtain⟨a,xs,T,e,ha,k⟩:=h;exact⟨a,xs,e,hj _ _ k.top ha,zD4 k.len fun q d x h1 h2=>Own.rep sG (k.own q d x h1 h2) fun b o t hb=>hj b o (k.sub q b t) hb⟩
  |dct kvs=>obtain⟨a,e,ha,hs⟩:=h;exact⟨a,e,hj _ _ hs ha⟩
  |dtt ks ds=>obtain⟨a,T0,e0,xs,T,e,ha,hl,ht,k⟩:=h;exact⟨a,T0,e0,xs,e,hj _ _ k.top ha,hl,ht.mono sG,zD4 k.len fun q d x h1 h2=>Own.rep sG (k.own q d x h1 h2) fun b o t hb=>hj b o (k.sub q b t) hb⟩
  |loc a d=>exact⟨h.1,Own.rep sG h.2 hj⟩
  |dsk w ws=>obtain⟨a,e,b,C,dx,h1,⟨h2,h3⟩,h4,h5⟩:=h;exact⟨a,e,b,C,dx,h1,hj _ _ h4 h2,hj _ _ h5 h3⟩
  |_=>exact Rep.mono sG h
theorem Own.at{G G2 H:Hp}:∀{n k:Nat}{S:Addr->Prop}{d:Dt}{v:V},Own G H n S d v->d.dep<=n->d.dep<=k->n<1000->Own G2 H k S d v
 |n,k,S,d,v,h,hn,hk,hz=>by
  cases d with
  |lst ds=>
   rw[Dt.dep]at hn hk;cases n with
   |zero=>lia
   |succ n=>
    cases k with
    |zero=>lia
    |succ k=>
     obtain⟨a,xs,T,e,ha,kd⟩:=h;refine⟨a,xs,T,e,ha,kd.imp (fun q d x h1 p=>?_) fun _ z=>z⟩;exact Own.at p (zGC (by lia) h1) (zGC (by lia) h1) (by lia)
  |tup ds=>
   rw[Dt.dep]at hn hk;cases n with
   |zero=>lia
   |succ n=>
    cases k with
    |zero=>lia
    |succ k=>
     obtain⟨a,xs,T,e,ha,kd⟩:=h;refine⟨a,xs,T,e,ha,kd.imp (fun q d x h1 p=>?_) fun _ z=>z⟩;exact Own.at p (zGC (by lia) h1) (zGC (by lia) h1) (by lia)
  |non=>cases n<;>cases k<;>exact h
  |bl b=>cases n<;>cases k<;>exact h
  |int i=>cases n<;>cases k<;>exact h
  |str x=>cases n<;>cases k<;>exact h
  |scr ns=>rw[Dt.dep]at hn;lia
  |exc _ _ _=>rw[Dt.dep]at hn;lia
  |fn _ _=>rw[Dt.dep]at hn;lia
  |dsk _ _=>rw[Dt.dep]at hn;lia
  |fnc _=>rw[Dt.dep]at hn;lia
  |dtt _ _=>rw[Dt.dep]at hn;lia
  |loc _ _=>rw[Dt.dep]at hn;lia
  |ins _ _=>rw[Dt.dep]at hn;lia
  |dct _=>rw[Dt.dep]at hn;lia
termination_by n=>n
theorem Own.scalar{G H G2 H2:Hp}{n k:Nat}{S S2:Addr->Prop}{d:Dt}{v:V}(h:Own G H n S d v)(hd:d.dep=0):Own G2 H2 k S2 d v:=by
 cases d with
 |lst ds=>rw[Dt.dep]at hd;lia
 |tup ds=>rw[Dt.dep]at hd;lia
 |non=>cases n<;>cases k<;>exact h
 |bl b=>cases n<;>cases k<;>exact h
 |int i=>cases n<;>cases k<;>exact h
 |str x=>cases n<;>cases k<;>exact h
 |scr ns=>rw[Dt.dep]at hd;lia
 |exc _ _ _=>rw[Dt.dep]at hd;lia
 |fn _ _=>rw[Dt.dep]at hd;lia
 |dsk _ _=>rw[Dt.dep]at hd;lia
 |fnc _=>rw[Dt.dep]at hd;lia
 |dtt _ _=>rw[Dt.dep]at hd;lia
 |loc _ _=>rw[Dt.dep]at hd;lia
 |ins _ _=>rw[Dt.dep]at hd;lia
 |dct _=>rw[Dt.dep]at hd;lia
theorem zM8{G H:Hp}{n:Nat}{S:Addr->Prop}{d:Dt}{v:V}(h:Rep G d v)(hd:d.dep=0):Own G H n S d v:=Own.scalar (n:=0) (G:=G) (H:=H) (S:=S) h hd
theorem Own.upd{G H:Hp}{p:Addr}{o:HO}:∀{n:Nat}{S:Addr->Prop}{d:Dt}{v:V},Own G H n S d v->¬S p->Own G (upd H p o) n S d v
 |0,S,d,v,h,_=>h
 |n+1,S,d,v,h,hp=>by
  cases d with
  |lst ds=>
   obtain⟨a,xs,T,e,ha,k⟩:=h;have hap:a≠p:=fun z=>hp (z▸k.top)
   exact⟨a,xs,T,e,(zAE hap).trans ha,k.imp (fun q _ _ _ w=>Own.upd w fun z=>hp (k.sub q _ z)) fun _ z=>z⟩
  |tup ds=>
   obtain⟨a,xs,T,e,ha,k⟩:=h;have hap:a≠p:=fun z=>hp (z▸k.top)
   exact⟨a,xs,T,e,(zAE hap).trans ha,k.imp (fun q _ _ _ w=>Own.upd w fun z=>hp (k.sub q _ z)) fun _ z=>z⟩
  |dct kvs=>
   obtain⟨a,e,ha,hs⟩:=h;have hap:a≠p:=fun z=>hp (z▸hs)
   exact⟨a,e,(zAE hap).trans ha,hs⟩
  |dtt ks ds=>
   obtain⟨a,T0,e0,xs,T,e,ha,hl,ht,k⟩:=h;have hap:a≠p:=fun z=>hp (z▸k.top)
   exact⟨a,T0,e0,xs,T,e,(zAE hap).trans ha,hl,ht,k.imp (fun q _ _ _ w=>Own.upd w fun z=>hp (k.sub q _ z)) fun _ z=>z⟩
  |loc a d=>exact⟨h.1,Own.upd h.2 hp⟩
  |dsk w ws=>
   obtain⟨a,e,b,C,dx,h1,⟨h2,h3⟩,h4,h5⟩:=h;have h6:a≠p:=fun z=>hp (z▸h4)
   have h7:b≠p:=fun z=>hp (z▸h5)
   exact⟨a,e,b,C,dx,h1,⟨(zAE h6).trans h2,(zAE h7).trans h3⟩,h4,h5⟩
  |_=>exact h
structure Ext(G H G' H':Hp):Prop where
 g:Same G G'
 h:Same H H'
 in':Same G' H'
 old:∀b,H b≠none->G' b=G b
theorem Ext.refl{G H:Hp}(s:Same G H):Ext G H G H:=⟨Same.refl _,Same.refl _,s,fun _ _=>rfl⟩
theorem _root_.L2.Same.some{H H':Hp}(s:Same H H'){b:Addr}(h:H b≠qFe):H' b≠qFe:=by
 cases e:H b with
 |none=>exact absurd e h
 |some o=>rw[s _ _ e];simp
theorem Ext.trans{G H G1 H1 G2 H2:Hp}(a:Ext G H G1 H1)(b:Ext G1 H1 G2 H2):Ext G H G2 H2:=
 ⟨a.g.trans b.g,a.h.trans b.h,b.in',fun c hc=>(b.old c (a.h.some hc)).trans (a.old c hc)⟩
structure Fr(G H G' H':Hp)(S:Addr->Prop):Prop where
 ext:Ext G H G' H'
 new:∀a,S a->H a=none/\G' a=none/\H' a≠none
open Classical in
noncomputable def over(G H:Hp)(S:Addr->Prop):Hp:=fun b=>if S b then H b else G b
theorem zEZ{G H:Hp}{S:Addr->Prop}{a:Addr}(h:S a):over G H S a=H a:=by unfold over;rw[if_pos h]
theorem zCK{G H:Hp}{S:Addr->Prop}{a:Addr}(h:¬S a):over G H S a=G a:=by unfold over;rw[if_neg h]
theorem zEI{G H:Hp}{S:Addr->Prop}(s:Same G H):Same G (over G H S)/\Same (over G H S) H:=by
 constructor
 ·intro b o e
  by_cases z:S b
  ·rw[zEZ z];exact s _ _ e
  ·rw[zCK z];exact e
 ·intro b o e
  by_cases z:S b
  ·rw[zEZ z]at e;exact e
  ·rw[zCK z]at e;exact s _ _ e
theorem Fr.frz{G H G' H':Hp}{S:Addr->Prop}{n:Nat}{d:Dt}{v:V}(f:Fr G H G' H' S)(o:Own G' H' n S d v):Ext G H (over G' H' S) H'/\Rep (over G' H' S) d v:=by
 obtain⟨s1,s2⟩:=zEI (S:=S) f.ext.in';refine⟨⟨f.ext.g.trans s1,f.ext.h,s2,fun b hb=>?_⟩,o.rep s1 fun a u ha e=>by rw[zEZ ha];exact e⟩;have z:¬S b:=fun z=>hb (f.new b z).1
 rw[zCK z];exact f.ext.old b hb
structure View(G:Hp)(σ:St)(ρ:Rh):Prop where
 len:ρ.length=σ.length
 «at»:∀(i:Nat)(d:Dt),ρ[i]?=some (some d)->∃v,σ[i]?=some (some v)/\Rep G d v
 tab:Same (tabK Kc.K) G
theorem View.mono{G G':Hp}{σ:St}{ρ:Rh}(s:Same G G')(h:View G σ ρ):View G' σ ρ:=⟨h.len,fun i d e=>let⟨v,a,b⟩:=h.at i d e;⟨v,a,Rep.mono s b⟩,h.tab.trans s⟩
def XRep(mg:Str->Option Value)(x:Xn)(c:Value)(da:Option Addr)(G H:Hp):Prop:=
 ∃e C,c=.ref e/\G e=some (xo e (.ref C) da)/\clK Kc.K x.cls=some C/\((da=none/\x.f = "")\/∃a gs w,da=some a/\G a=some (.xd gs)/\gs.lookup x.f=some w/\Rep G x.d w)
def PostE(mg:Str->Option Value)(E:XK)(G H:Hp)(n:Nat)(r:R Dt)(Q:VK):Prop:=match r with
 |none=>False
 |some (.error x)=>∀c da G' H',Ext G H G' H'->XRep mg x c da G' H'->E c da H'
 |some (.ok d)=>∀v G' H' S,Fr G H G' H' S->Own G' H' n S d v->Q v H'
def PostT(mg:Str->Option Value)(E:XK)(G H:Hp)(r:R Bool)(Q:Bool->Hp->Prop):Prop:=match r with
 |none=>False
 |some (.error x)=>∀c da G' H',Ext G H G' H'->XRep mg x c da G' H'->E c da H'
 |some (.ok b)=>∀H',Same H H'->Q b H'
structure OwnA(G H:Hp)(n:Nat)(S:Addr->Prop)(ds:List Dt)(xs:List V)(T:Nat->Addr->Prop):Prop where
 len:xs.length=ds.length
 own:∀(q:Nat)(d:Dt)(x:V),ds[q]?=some d->xs[q]?=some x->Own G H n (T q) d x
 dis:∀q r b,T q b->T r b->q=r
 sub:∀q b,T q b->S b
def zaF(mg:Str->Option Value)(E:XK)(G H:Hp)(n:Nat)(r:R (List Dt))(Q:List V->Hp->Prop):Prop:=match r with
 |none=>False
 |some (.error x)=>∀c da G' H',Ext G H G' H'->XRep mg x c da G' H'->E c da H'
 |some (.ok ds)=>∀vs G' H' S T,Fr G H G' H' S->OwnA G' H' n S ds vs T->Q vs H'
def DE(mg:Str->Option Value)(E:XK)(t:TE)(m:EM)(n:Nat):Prop:=∀(G H:Hp)(σ:St)(ρ:Rh)(Q:VK),Same G H->View G σ ρ->PostE mg E G H n (m ρ) Q->t σ H Q
def DT(mg:Str->Option Value)(E:XK)(t:TT)(m:TM):Prop:=∀(G H:Hp)(σ:St)(ρ:Rh)(Q:Bool->Hp->Prop),Same G H->View G σ ρ->PostT mg E G H (m ρ) Q->t σ H Q
def DA(mg:Str->Option Value)(E:XK)(t:TA)(m:AM)(n:Nat):Prop:=∀(G H:Hp)(σ:St)(ρ:Rh)(Q:List V->Hp->Prop),Same G H->View G σ ρ->zaF mg E G H n (m ρ) Q->t σ H Q
structure Err(mg:Str->Option Value)(E:XK)(G H:Hp){β:Type}(P:R β->Prop):Prop where
 no:P none->False
 er:∀x,P (some (.error x))->∀c da G' H',Ext G H G' H'->XRep mg x c da G' H'->E c da H'
theorem Ext.same{G H H':Hp}(s:Same G H)(h:Same H H'):Ext G H G H':=⟨Same.refl _,h,s.trans h,fun _ _=>rfl⟩
theorem Err.from{mg:Str->Option Value}{E:XK}{G H G' H':Hp}{β:Type}{P:R β->Prop}(e:Err mg E G H P)(x:Ext G H G' H'):Err mg E G' H' P:=⟨e.no,fun y p c da G2 H2 z w=>e.er y p c da G2 H2 (x.trans z) w⟩
section
variable{mg:Str->Option Value}{E:XK}{n:Nat}
theorem errE{G H:Hp}{Q:VK}:Err mg E G H (fun r=>PostE mg E G H n r Q):=⟨fun h=>h,fun _ h=>h⟩
theorem errT{G H:Hp}{Q:Bool->Hp->Prop}:Err mg E G H (fun r=>PostT mg E G H r Q):=⟨fun h=>h,fun _ h=>h⟩
theorem errA{G H:Hp}{Q:List V->Hp->Prop}:Err mg E G H (fun r=>zaF mg E G H n r Q):=⟨fun h=>h,fun _ h=>h⟩
theorem DE.step{β:Type}{t:TE}{m:EM}(D:DE mg E t m n){G H:Hp}{σ:St}{ρ:Rh}{Q:VK}{P:R β->Prop}{f:Dt->R β}(hE:Err mg E G H P)(s:Same G H)(w:View G σ ρ)(p:P (zA2 (m ρ) f))
  (h:∀d v G' H' S,m ρ=okR d->Fr G H G' H' S->Own G' H' n S d v->P (f d)->Q v H'):t σ H Q:=by
 refine D G H σ ρ Q s w ?_;cases e:m ρ with
 |none=>rw[e]at p;exact hE.no p
 |some r=>
  rw[e]at p;cases r with
  |error x=>exact hE.er x p
  |ok d=>exact fun v G' H' S fr o=>h d v G' H' S e fr o p
theorem DT.step{β:Type}{t:TT}{m:TM}(D:DT mg E t m){G H:Hp}{σ:St}{ρ:Rh}{Q:Bool->Hp->Prop}{P:R β->Prop}{f:Bool->R β}(hE:Err mg E G H P)(s:Same G H)(w:View G σ ρ)(p:P (zA2 (m ρ) f))
  (h:∀b H',m ρ=okR b->Same H H'->P (f b)->Q b H'):t σ H Q:=by
 refine D G H σ ρ Q s w ?_;cases e:m ρ with
 |none=>rw[e]at p;exact hE.no p
 |some r=>
  rw[e]at p;cases r with
  |error x=>exact hE.er x p
  |ok b=>exact fun H' sH=>h b H' e sH p
theorem DA.step{β:Type}{t:TA}{m:AM}(D:DA mg E t m n){G H:Hp}{σ:St}{ρ:Rh}{Q:List V->Hp->Prop}{P:R β->Prop}{f:List Dt->R β}(hE:Err mg E G H P)(s:Same G H)(w:View G σ ρ)(p:P (zA2 (m ρ) f))
  (h:∀ds vs G' H' S T,m ρ=okR ds->Fr G H G' H' S->OwnA G' H' n S ds vs T->P (f ds)->Q vs H'):t σ H Q:=by
 refine D G H σ ρ Q s w ?_;cases e:m ρ with
 |none=>rw[e]at p;exact hE.no p
 |some r=>
  rw[e]at p;cases r with
  |error x=>exact hE.er x p
  |ok ds=>exact fun vs G' H' S T fr o=>h ds vs G' H' S T e fr o p
theorem PostE.from{G H G' H':Hp}{Q:VK}{r:R Dt}(p:PostE mg E G H n r Q)(x:Ext G H G' H'):PostE mg E G' H' n r Q:=by
 cases r with
 |none=>exact p
 |some r=>
  cases r with
  |error y=>exact fun c da G2 H2 z w=>p c da G2 H2 (x.trans z) w
  |ok d=>
   exact fun v G2 H2 S fr o=>p v G2 H2 S ⟨x.trans fr.ext,fun a ha=>⟨x.h.free (fr.new a ha).1,(fr.new a ha).2⟩⟩ o
theorem PostT.from{G H G' H':Hp}{Q:Bool->Hp->Prop}{r:R Bool}(p:PostT mg E G H r Q)(x:Ext G H G' H'):PostT mg E G' H' r Q:=by
 cases r with
 |none=>exact p
 |some r=>
  cases r with
  |error y=>exact fun c da G2 H2 z w=>p c da G2 H2 (x.trans z) w
  |ok d=>exact fun H2 s=>p H2 (x.h.trans s)
theorem Fr.from{G H G1 H1 G2 H2:Hp}{S:Addr->Prop}(x:Ext G H G1 H1)(f:Fr G1 H1 G2 H2 S):Fr G H G2 H2 S:=⟨x.trans f.ext,fun a ha=>⟨x.h.free (f.new a ha).1,(f.new a ha).2⟩⟩
theorem PostE.val{G H G' H':Hp}{d:Dt}{v:V}{Q:VK}(p:PostE mg E G H n (okR d) Q)(x:Ext G H G' H')(hd:d.dep=0)(h:Rep G' d v):Q v H':=
 p v G' H' (fun _=>False) ⟨x,fun _ z=>z.elim⟩ (zM8 h hd)
theorem PostE.kept{G H G' H':Hp}{d:Dt}{v:V}{Q:VK}(p:PostE mg E G H 0 (okR d) Q)(x:Ext G H G' H')(h:Rep G' d v):Q v H':=
 p v G' H' (fun _=>False) ⟨x,fun _ z=>z.elim⟩ h
theorem zAS{t:TE}{m:EM}{n:Nat}(D:DE mg E t m n):DE mg E t m 0:=by
 intro G H σ ρ Q s w p;refine D G H σ ρ Q s w ?_;cases e:m ρ with
 |none=>rw[e]at p;exact p
 |some r=>
  rw[e]at p;cases r with
  |error x=>exact p
  |ok d=>
   intro v G' H' S fr o;obtain⟨x,r⟩:=fr.frz o;exact PostE.kept p x r
end
end
section
variable[Kc]{mg:Str->Option Value}{E:XK}{n k l:Nat}{ta tb tc:TE}{ma mb mc:EM}
theorem zAA{i:Int}:DE mg E (tC (.int i)) (Mi.eC (.int i)) n:=fun G H σ ρ Q s w p=>PostE.val p (Ext.refl s) rfl rfl
theorem zTC{b:Bool}:DE mg E (tC (.bl b)) (Mi.eC (.bl b)) n:=fun G H σ ρ Q s w p=>PostE.val p (Ext.refl s) rfl rfl
theorem zMP:DE mg E (tC .non) (Mi.eC .non) n:=fun G H σ ρ Q s w p=>PostE.val p (Ext.refl s) rfl rfl
theorem za0{x:Str}:DE mg E (tC (.str x)) (Mi.eC (.str x)) n:=fun G H σ ρ Q s w p=>PostE.val p (Ext.refl s) rfl rfl
theorem de_v(i:Nat):DE mg E (vM i) (Mi.eV i) 0:=by
 intro G H σ ρ Q s w p;unfold Mi.eV at p;cases e:ρ[i]? with
 |none=>rw[e]at p;exact p.elim
 |some o=>
  rw[e]at p;cases o with
  |none=>exact p.elim
  |some d=>
   obtain⟨v,h1,h2⟩:=w.at i d e;unfold vM;rw[h1];exact PostE.kept p (Ext.refl s) h2
def ROp(r:R2)(f:Dt->Dt->Option Dt)(n:Nat):Prop:=∀(mg:Str->Option Value)(E:XK)(G H:Hp)(d e:Dt)(x y:V)(Q:VK),Same G H->Rep G d x->Rep G e y->PostE mg E G H n (optR (f d e)) Q->r x y H Q
theorem zAF{r:R2}{f:Dt->Dt->Option Dt}(hr:ROp r f n)(A:DE mg E ta ma k)(B:DE mg E tb mb l):DE mg E (tOp r ta tb) (Mi.eB f ma mb) n:=by
 intro G H σ ρ Q s w p;refine(zAS A).step errE s w p fun d v G1 H1 S _ fr o p1=>?_
 refine(zAS B).step (errE.from fr.ext) fr.ext.in' (w.mono fr.ext.g) p1 fun e u G2 H2 S2 _ fr2 o2 p2=>?_
 exact hr mg E G2 H2 d e v u Q fr2.ext.in' (Rep.mono fr2.ext.g o) o2 (PostE.from p2 (fr.ext.trans fr2.ext))
theorem de_and(A:DE mg E ta ma k)(B:DE mg E tb mb n):DE mg E (fun σ H Q=>ta σ H fun x H1=>match x with | .bl c=>if c=true then tb σ H1 Q else Q (.bl false) H1|_=>False) (Mi.eAnd ma mb) n:=by
 intro G H σ ρ Q s w p;refine(zAS A).step errE s w p fun d v G1 H1 S _ fr o p1=>?_
 cases d with
 |bl b=>
  cases(show v=.bl b from o)
  cases b with
  |true=>exact B G1 H1 σ ρ Q fr.ext.in' (w.mono fr.ext.g) (PostE.from p1 fr.ext)
  |false=>exact PostE.val (PostE.from p1 fr.ext) (Ext.refl fr.ext.in') rfl rfl
 |_=>exact p1.elim
theorem zQH{tA:TT}{c:TM}(C:DT mg E tA c)(A:DE mg E ta ma n)(B:DE mg E tb mb n):DE mg E (tIf tA ta tb) (Mi.eIf c ma mb) n:=by
 intro G H σ ρ Q s w p;refine C.step errE s w p fun b H' _ sH p1=>?_
 have p2:=PostE.from p1 (Ext.same s sH);cases b with
 |true=>exact A G H' σ ρ Q (s.trans sH) w p2
 |false=>exact B G H' σ ρ Q (s.trans sH) w p2
theorem dt_b(A:DE mg E ta ma k):DT mg E (fun σ H Q=>ta σ H fun z H3=>match z with | .bl k=>Q k H3|_=>False) (Mi.tB ma):=by
 intro G H σ ρ Q s w p;refine(zAS A).step errT s w p fun d v G1 H1 S _ fr o p1=>?_
 cases d with
 |bl b=>
  cases(show v=.bl b from o)
  exact p1 H1 fr.ext.h
 |_=>exact p1.elim
theorem dt_m(A:DE mg E ta ma k):DT mg E (bM ta) (Mi.tM ma):=by
 intro G H σ ρ Q s w p;refine(zAS A).step errT s w p fun d v G1 H1 S _ fr o p1=>?_
 cases d with
 |bl b=>cases(show v=.bl b from o);exact p1 H1 fr.ext.h
 |int b=>cases(show v=.int b from o);exact p1 H1 fr.ext.h
 |non=>cases(show v=.non from o);exact p1 H1 fr.ext.h
 |_=>exact p1.elim
variable{tA tB:TT}{cA cB:TM}
theorem zZR(A:DT mg E tA cA)(B:DT mg E tB cB):DT mg E (L2.tAnd tA tB) (Mi.tAn cA cB):=by
 intro G H σ ρ Q s w p;refine A.step errT s w p fun b H' _ sH p1=>?_
 cases b with
 |true=>exact B G H' σ ρ Q (s.trans sH) w (PostT.from p1 (Ext.same s sH))
 |false=>exact p1 H' sH
theorem zQ7(A:DT mg E tA cA)(B:DT mg E tB cB):DT mg E (L2.tOr tA tB) (Mi.tOr cA cB):=by
 intro G H σ ρ Q s w p;refine A.step errT s w p fun b H' _ sH p1=>?_
 cases b with
 |false=>exact B G H' σ ρ Q (s.trans sH) w (PostT.from p1 (Ext.same s sH))
 |true=>exact p1 H' sH
theorem zH5(A:DT mg E tA cA):DT mg E (L2.tNot tA) (Mi.tNo cA):=by
 intro G H σ ρ Q s w p;exact A.step errT s w p fun b H' _ sH p1=>p1 H' sH
theorem zH4:DT mg E L2.tYes Mi.tYes:=fun G H σ ρ Q s w p=>p H (Same.refl _)
variable{t:TA}{m:AM}
theorem zAD:DA mg E tNil Mi.aNil n:=fun G H σ ρ Q s w p=>p [] G H (fun _=>False) (fun _ _=>False) ⟨Ext.refl s,fun _ z=>z.elim⟩ ⟨rfl,fun q d x h=>by simp at h,fun _ _ _ z=>z.elim,fun _ _ z=>z.elim⟩
theorem zA3(A:DE mg E ta ma n)(B:DA mg E t m n):DA mg E (zEA ta t) (Mi.aCons ma m) n:=by
 intro G H σ ρ Q s w p;refine A.step errA s w p fun d v G1 H1 S1 _ fr o p1=>?_
 refine B.step (errA.from fr.ext) fr.ext.in' (w.mono fr.ext.g) p1 fun ds vs G2 H2 S2 T2 _ fr2 o2 p2=>?_
 refine p2 (v::vs) G2 H2 (fun a=>S1 a\/S2 a) (fun q=>match q with|0=>S1|q+1=>T2 q) ⟨fr.ext.trans fr2.ext,fun a ha=>?_⟩ ⟨by simp[o2.len],fun q d' x h1 h2=>?_,fun q r b h1 h2=>?_,fun q b h=>?_⟩
 ·rcases ha with ha|ha
  ·obtain⟨n1,n2,n3⟩:=fr.new a ha;exact⟨n1,(fr2.ext.old a n3).trans n2,fr2.ext.h.some n3⟩
  ·obtain⟨n1,n2,n3⟩:=fr2.new a ha;exact⟨fr.ext.h.free n1,n2,n3⟩
 ·cases q with
  |zero=>simp at h1 h2;subst h1;subst h2;exact o.mono fr2.ext.g fr2.ext.h
  |succ q=>exact o2.own q d' x (by simpa using h1) (by simpa using h2)
 ·have ap:∀r b,S1 b->T2 r b->False:=fun r b h1 h2=>(fr.new b h1).2.2 (fr2.new b (o2.sub r b h2)).1
  cases q with
  |zero=>
   cases r with
   |zero=>rfl
   |succ r=>exact(ap r b h1 h2).elim
  |succ q=>
   cases r with
   |zero=>exact(ap q b h2 h1).elim
   |succ r=>rw[o2.dis q r b h1 h2]
 ·cases q with
  |zero=>exact .inl h
  |succ q=>exact .inr (o2.sub q b h)
theorem OwnA.repL{G H:Hp}{S:Addr->Prop}{ds:List Dt}{vs:List V}{T:Nat->Addr->Prop}(o:OwnA G H 0 S ds vs T):RepL G ds vs:=zD4 o.len fun q d x h1 h2=>o.own q d x h1 h2
theorem big'{n:Nat}(h:n<=100000):n<=sizeLine:=qCm (L2.big h)
theorem Fr.add{G H G' H':Hp}{S:Addr->Prop}(f:Fr G H G' H' S){p:Addr}(hp:H' p=none)(o:HO):Fr G H G' (upd H' p o) (fun a=>a=p\/S a):=by
 have sn:=L2.same_new hp o;refine⟨⟨f.ext.g,f.ext.h.trans sn,f.ext.in'.trans sn,f.ext.old⟩,fun a ha=>?_⟩
 rcases ha with rfl|ha
 ·exact⟨f.ext.h.free hp,f.ext.in'.free hp,by rw[zAG];simp⟩
 ·obtain⟨n1,n2,n3⟩:=f.new a ha;exact⟨n1,n2,sn.some n3⟩
theorem OwnA.kids{G' H':Hp}{S:Addr->Prop}{ds:List Dt}{vs:List V}{T:Nat->Addr->Prop}(o:OwnA G' H' n S ds vs T)(hn:∀a,S a->H' a≠none){p:Addr}(hp:H' p=none)(ob:HO) :
  Kids (Own G' (upd H' p ob) n) (fun a=>a=p\/S a) p ds vs T:=
 ⟨o.len,fun q d x h1 h2=>(o.own q d x h1 h2).mono (Same.refl _) (L2.same_new hp ob),.inl rfl,fun q z=>hn p (o.sub q p z) hp,o.dis,fun q b z=>.inr (o.sub q b z)⟩
theorem zDX(A:DA mg E t m n):DE mg E (tLst t) (Mi.eLst m) (n+1):=by
 intro G H σ ρ Q s w p;refine A.step errE s w p fun ds vs G1 H1 S T _ fr o p1=>?_
 by_cases hz:ds.length<=100000
 ·rw[if_pos hz]at p1;refine⟨by rw[o.len];exact big' hz,fun a ha=>?_⟩;exact p1 (.ref a) G1 _ _ (fr.add ha _) ⟨a,vs,T,rfl,zAG,o.kids (fun b hb=>(fr.new b hb).2.2) ha _⟩
 ·rw[if_neg hz]at p1;exact p1.elim
theorem zQG(A:DA mg E t m n):DE mg E (tTup t) (Mi.eTup m) (n+1):=by
 intro G H σ ρ Q s w p;refine A.step errE s w p fun ds vs G1 H1 S T _ fr o p1=>?_
 by_cases hz:ds.length<=100000
 ·rw[if_pos hz]at p1;refine⟨by rw[o.len];exact big' hz,fun a ha=>?_⟩;exact p1 (.ref a) G1 _ _ (fr.add ha _) ⟨a,vs,T,rfl,zAG,o.kids (fun b hb=>(fr.new b hb).2.2) ha _⟩
 ·rw[if_neg hz]at p1;exact p1.elim
theorem PostE.lst{G H G' H':Hp}{ds:List Dt}{xs:List V}{Q:VK}(p:PostE mg E G H 1 (okR (.lst ds)) Q)(x:Ext G H G' H')(r:RepL G' ds xs){a:Addr}(ha:H' a=none):Q (.ref a) (upd H' a (.lst xs)):=by
 have fr:Fr G H G' H' (fun _=>False):=⟨x,fun _ z=>z.elim⟩
 refine p (.ref a) G' _ _ (fr.add ha (.lst xs)) ⟨a,xs,fun _ _=>False,rfl,zAG,⟨r.length,fun q d y h1 h2=>zBI r h1 h2,.inl rfl,fun _ z=>z,fun _ _ _ z=>z.elim,fun _ _ z=>z.elim⟩⟩
def CBi(r:List V->Hp->VK->Prop)(f:List Dt->Option Dt)(n:Nat):Prop:=∀(mg:Str->Option Value)(E:XK)(G H:Hp)(ds:List Dt)(vs:List V)(Q:VK),Same G H->RepL G ds vs->PostE mg E G H n (optR (f ds)) Q->r vs H Q
theorem zBJ{r:List V->Hp->VK->Prop}{f:List Dt->Option Dt}(hr:CBi r f n)(A:DA mg E t m 0):DE mg E (tCB r t) (Mi.eBi f m) n:=by
 intro G H σ ρ Q s w p;refine A.step errE s w p fun ds vs G1 H1 S T _ fr o p1=>?_
 exact hr mg E G1 H1 ds vs Q fr.ext.in' o.repL (PostE.from p1 fr.ext)
def spM(mg:Str->Option Value)(L:Nat)(f:FM):Sp:=fun vs H Q E=>∃G ds,Same (tabK Kc.K) G/\Same G H/\RepL G ds vs/\PostE mg E G H L (f ds) Q
theorem zB5{f:FM}(A:DA mg E t m 0):DE mg E (zEB (spM mg n f) [] E t) (Mi.eCall f m) n:=by
 intro G H σ ρ Q s w p;refine A.step errE s w p fun ds vs G1 H1 S T _ fr o p1=>?_
 exact⟨G1,ds,w.tab.trans fr.ext.g,fr.ext.in',by rw[qBu];exact o.repL,PostE.from p1 fr.ext⟩
theorem zRV{G H:Hp}{o:Option Dt}{Q:VK}{d:Dt}{v:V}(s:Same G H)(p:PostE mg E G H n (optR o) Q)(e:o=some d)(hd:d.dep=0)(h:Rep G d v):Q v H:=by
 subst e;exact PostE.val p (Ext.refl s) hd h
theorem zB2:ROp zVF Mi.addD 1:=by
 intro mg E G H d e x y Q s h1 h2 p;cases d with
 |int i=>
  cases e with
  |int j=>cases(show x=.int i from h1);cases(show y=.int j from h2);exact zRV s p rfl rfl rfl
  |_=>exact p.elim
 |str i=>
  cases e with
  |str j=>
   cases(show x=.str i from h1);cases(show y=.str j from h2)
   rw[Mi.addD]at p;by_cases hz:i.length+j.length<=100000
   ·rw[if_pos hz]at p;exact⟨big' hz,PostE.val p (Ext.refl s) rfl rfl⟩
   ·rw[if_neg hz]at p;exact p.elim
  |_=>exact p.elim
 |lst ds=>
  cases e with
  |lst es=>
   obtain⟨a,xs,rfl,ha,ra⟩:=h1;obtain⟨b,ys,rfl,hb,rb⟩:=h2;rw[Mi.addD]at p;by_cases hz:ds.length+es.length<=100000
   ·rw[if_pos hz]at p;refine⟨xs,ys,s _ _ ha,s _ _ hb,by rw[ra.length,rb.length];exact big' hz,fun q hq=>?_⟩;refine PostE.lst p (Ext.refl s) (zD4 (by simp[ra.length,rb.length]) fun j d' x' e1 e2=>?_) hq
    by_cases hj:j<ds.length
    ·rw[qA9 hj]at e1;rw[qA9 (by rw[ra.length];exact hj)]at e2;exact zBI ra e1 e2
    ·rw[qAd (by lia)]at e1;rw[qAd (by rw[ra.length];lia),ra.length]at e2;exact zBI rb e1 e2
   ·rw[if_neg hz]at p;exact p.elim
  |_=>exact p.elim
 |_=>exact p.elim
theorem zLX:ROp zXX Mi.subD n:=by
 intro mg E G H d e x y Q s h1 h2 p;cases d with
 |int i=>
  cases e with
  |int j=>cases(show x=.int i from h1);cases(show y=.int j from h2);exact zRV s p rfl rfl rfl
  |_=>exact p.elim
 |_=>exact p.elim
theorem zB7:ROp zY3 Mi.mulD n:=by
 intro mg E G H d e x y Q s h1 h2 p;cases d with
 |int i=>
  cases e with
  |int j=>
   cases(show x=.int i from h1);cases(show y=.int j from h2)
   rw[Mi.mulD]at p;split at p
   ·rename_i hz;exact⟨hz,PostE.val p (Ext.refl s) rfl rfl⟩
   ·exact p.elim
  |_=>exact p.elim
 |_=>exact p.elim
theorem zCZ:ROp zY6 Mi.divD n:=by
 intro mg E G H d e x y Q s h1 h2 p;cases d with
 |int i=>
  cases e with
  |int j=>
   cases(show x=.int i from h1);cases(show y=.int j from h2)
   rw[Mi.divD]at p;split at p
   ·rename_i hz;exact⟨hz,PostE.val p (Ext.refl s) rfl rfl⟩
   ·exact p.elim
  |_=>exact p.elim
 |_=>exact p.elim
theorem zBS:ROp zY4 Mi.modD n:=by
 intro mg E G H d e x y Q s h1 h2 p;cases d with
 |int i=>
  cases e with
  |int j=>
   cases(show x=.int i from h1);cases(show y=.int j from h2)
   rw[Mi.modD]at p;split at p
   ·rename_i hz;exact⟨hz,PostE.val p (Ext.refl s) rfl rfl⟩
   ·exact p.elim
  |_=>exact p.elim
 |_=>exact p.elim
theorem zXQ:ROp zY0 Mi.powD n:=by
 intro mg E G H d e x y Q s h1 h2 p;cases d with
 |int i=>
  cases e with
  |int j=>
   cases(show x=.int i from h1);cases(show y=.int j from h2)
   rw[Mi.powD]at p;split at p
   ·rename_i hz;exact⟨hz,PostE.val p (Ext.refl s) rfl rfl⟩
   ·exact p.elim
  |_=>exact p.elim
 |_=>exact p.elim
theorem zGU{q:Int->Int->Bool}:ROp (zVD q) (Mi.cmpD q) n:=by
 intro mg E G H d e x y Q s h1 h2 p;cases d with
 |int i=>
  cases e with
  |int j=>cases(show x=.int i from h1);cases(show y=.int j from h2);exact zRV s p rfl rfl rfl
  |_=>exact p.elim
 |_=>exact p.elim
theorem zUF{G H:Hp}{d e:Dt}{x y:V}{Q:VK}{ng:Bool}(s:Same G H)(h1:Rep G d x)(h2:Rep G e y)(hd:d.dep<=40)(he:e.dep<=40)(q:Q (.bl (if ng then !Dt.eq d e else Dt.eq d e)) H) :
  ∃d' e',L2.Rep H d' x/\L2.Rep H e' y/\d'.dep<=40/\Q (.bl (if ng then !L2.Dat.eq d' e' else L2.Dat.eq d' e')) H:=
 ⟨conv d,conv e,zI8 hd (Rep.mono s h1),zI8 he (Rep.mono s h2),qAs (zMS hd) hd,by rw[zQK hd he];exact q⟩
theorem zF5{α:Type}[DecidableEq α](a b:α):(a==b)=decide (a=b):=by
 by_cases h:a=b
 ·subst h;simp
 ·simp[h]
theorem zHP{G:Hp}{d:Dt}{i:Int}(h:Rep G d (.int i)):d=.int i:=by
 cases d with
 |int k=>cases h;rfl
 |non=>cases h
 |bl _=>cases h
 |str _=>cases h
 |lst _=>obtain⟨_,_,z,_⟩:=h;cases z
 |tup _=>obtain⟨_,_,z,_⟩:=h;cases z
 |scr _=>obtain⟨_,z,_⟩:=h;cases z
 |exc _ _ _=>obtain⟨_,_,_,z,_⟩:=h;cases z
 |fn _ _=>obtain⟨_,z,_⟩:=h;cases z
 |dsk _ _=>obtain⟨_,z,_⟩:=h;cases z
 |fnc _=>obtain⟨_,z,_⟩:=h;cases z
 |dtt _ _=>obtain⟨_,_,_,_,z,_⟩:=h;cases z
 |loc _ _=>obtain⟨z,_⟩:=h;cases z
 |ins _ _=>obtain⟨_,_,_,z,_⟩:=h;cases z
 |dct _=>obtain⟨_,z,_⟩:=h;cases z
theorem zHO{G:Hp}{d:Dt}{i:Str}(h:Rep G d (.str i)):d=.str i:=by
 cases d with
 |str k=>cases h;rfl
 |non=>cases h
 |bl _=>cases h
 |int _=>cases h
 |lst _=>obtain⟨_,_,z,_⟩:=h;cases z
 |tup _=>obtain⟨_,_,z,_⟩:=h;cases z
 |scr _=>obtain⟨_,z,_⟩:=h;cases z
 |exc _ _ _=>obtain⟨_,_,_,z,_⟩:=h;cases z
 |fn _ _=>obtain⟨_,z,_⟩:=h;cases z
 |dsk _ _=>obtain⟨_,z,_⟩:=h;cases z
 |fnc _=>obtain⟨_,z,_⟩:=h;cases z
 |dtt _ _=>obtain⟨_,_,_,_,z,_⟩:=h;cases z
 |loc _ _=>obtain⟨z,_⟩:=h;cases z
 |ins _ _=>obtain⟨_,_,_,z,_⟩:=h;cases z
 |dct _=>obtain⟨_,z,_⟩:=h;cases z
theorem zLY{G:Hp}{d:Dt}{i:Bool}(h:Rep G d (.bl i)):d=.bl i:=by
 cases d with
 |bl k=>cases h;rfl
 |non=>cases h
 |str _=>cases h
 |int _=>cases h
 |lst _=>obtain⟨_,_,z,_⟩:=h;cases z
 |tup _=>obtain⟨_,_,z,_⟩:=h;cases z
 |scr _=>obtain⟨_,z,_⟩:=h;cases z
 |exc _ _ _=>obtain⟨_,_,_,z,_⟩:=h;cases z
 |fn _ _=>obtain⟨_,z,_⟩:=h;cases z
 |dsk _ _=>obtain⟨_,z,_⟩:=h;cases z
 |fnc _=>obtain⟨_,z,_⟩:=h;cases z
 |dtt _ _=>obtain⟨_,_,_,_,z,_⟩:=h;cases z
 |loc _ _=>obtain⟨z,_⟩:=h;cases z
 |ins _ _=>obtain⟨_,_,_,z,_⟩:=h;cases z
 |dct _=>obtain⟨_,z,_⟩:=h;cases z
theorem zKL:ROp rEqU Mi.eqD n:=by
 intro mg E G H d e x y Q s h1 h2 p;unfold Mi.eqD at p;split at p
 ·rename_i hz
  have q:Q (.bl (Dt.eq d e)) H:=PostE.val p (Ext.refl s) rfl rfl;have g:=zUF (ng:=false) (Q:=Q) s h1 h2 hz.1 hz.2 q;unfold rEqU;split
  ·rw[zHP h1,zHP h2,Dt.eq,zF5]at q;exact q
  ·rw[zHO h1,zHO h2,Dt.eq,zF5]at q;exact q
  ·rw[zLY h1,zLY h2,Dt.eq,zF5]at q;exact q
  ·exact g
 ·exact p.elim
theorem zaY:ROp rNeU Mi.neD n:=by
 intro mg E G H d e x y Q s h1 h2 p;unfold Mi.neD at p;split at p
 ·rename_i hz
  have q:Q (.bl (!Dt.eq d e)) H:=PostE.val p (Ext.refl s) rfl rfl;have g:=zUF (ng:=true) (Q:=Q) s h1 h2 hz.1 hz.2 q;unfold rNeU;split
  ·rw[zHP h1,zHP h2,Dt.eq,zF5]at q;exact q
  ·rw[zHO h1,zHO h2,Dt.eq,zF5]at q;exact q
  ·rw[zLY h1,zLY h2,Dt.eq,zF5]at q;exact q
  ·exact g
 ·exact p.elim
theorem zSR{G:Hp}{d:Dt}{x:V}(h:Rep G d x):decide (x=.non)=Mi.isNonD d:=by
 cases d with
 |non=>cases h;rfl
 |bl _=>cases h;rfl
 |int _=>cases h;rfl
 |str _=>cases h;rfl
 |lst _=>obtain⟨_,_,rfl,_⟩:=h;rfl
 |tup _=>obtain⟨_,_,rfl,_⟩:=h;rfl
 |scr _=>obtain⟨_,rfl,_⟩:=h;rfl
 |exc _ _ _=>obtain⟨_,_,_,rfl,_⟩:=h;rfl
 |fn _ _=>obtain⟨_,rfl,_⟩:=h;rfl
 |dsk _ _=>obtain⟨_,rfl,_⟩:=h;rfl
 |fnc _=>obtain⟨_,rfl,_⟩:=h;rfl
 |dtt _ _=>obtain⟨_,_,_,_,rfl,_⟩:=h;rfl
 |loc _ _=>obtain⟨rfl,_⟩:=h;rfl
 |ins _ _=>obtain⟨_,_,_,rfl,_⟩:=h;rfl
 |dct _=>obtain⟨_,rfl,_⟩:=h;rfl
theorem zaZ:ROp (fun x y H Q=>y=.non/\Q (.bl (decide (x=.non))) H) Mi.isD n:=by
 intro mg E G H d e x y Q s h1 h2 p;cases e with
 |non=>exact⟨h2,by rw[zSR h1];exact PostE.val p (Ext.refl s) rfl rfl⟩
 |_=>exact p.elim
theorem zPN(n:Nat)(i:Int):Mi.ixA n i=ixN n i:=rfl
theorem zUC{α:Type}(xs:List α)(i:Int):Mi.itA xs i=atI xs i:=rfl
theorem zUP{G:Hp}{ds:List Dt}{xs:List V}{i:Int}{d:Dt}(r:RepL G ds xs)(h:Mi.itA ds i=some d):∃x,atI xs i=some x/\Rep G d x:=by
 rw[zUC]at h;unfold atI at h ⊢;rw[r.length];cases e:ixN ds.length i with
 |none=>rw[e]at h;cases h
 |some j=>
  rw[e]at h;have h':ds[j]?=some d:=h;have hj:j<xs.length:=by rw[r.length];exact(qA3.mp h').1
  exact⟨xs[j],by simp[hj],zBI r h' (by simp[hj])⟩
theorem zBU:ROp (rIxU Kc.K) Mi.ixD 0:=by
 intro mg E G H d e x y Q s h1 h2 p;cases e with
 |int i=>
  cases(show y=.int i from h2)
  cases d with
  |lst ds=>
   obtain⟨a,xs,rfl,ha,ra⟩:=h1;cases er:Mi.itA ds i with
   |none=>rw[Mi.ixD,er]at p;exact p.elim
   |some c=>
    rw[Mi.ixD,er]at p;obtain⟨v,e1,r1⟩:=zUP ra er;exact⟨xs,v,.inl (SqL.of (s _ _ ha)),e1,PostE.kept p (Ext.refl s) r1⟩
  |tup ds=>
   obtain⟨a,xs,rfl,ha,ra⟩:=h1;cases er:Mi.itA ds i with
   |none=>rw[Mi.ixD,er]at p;exact p.elim
   |some c=>
    rw[Mi.ixD,er]at p;obtain⟨v,e1,r1⟩:=zUP ra er;exact⟨xs,v,.inr (SqT.of (s _ _ ha)),e1,PostE.kept p (Ext.refl s) r1⟩
  |scr ns=>
   obtain⟨a,rfl,ha⟩:=h1;cases er:Mi.itA ns i with
   |none=>rw[Mi.ixD,er]at p;exact p.elim
   |some c=>
    rw[Mi.ixD,er]at p;refine⟨ns.map V.int,.int c,(zED s ha).old,?_,PostE.kept p (Ext.refl s) rfl⟩;rw[zUC]at er;unfold atI at er ⊢;rw[qAi];cases e:ixN ns.length i with
    |none=>rw[e]at er;cases er
    |some j=>
     rw[e]at er;have er':ns[j]?=some c:=er;show(ns.map V.int)[j]?=some (.int c);rw[qA8,er'];rfl
  |str z=>
   cases(show x=.str z from h1)
   rw[Mi.ixD]at p;by_cases hz:z.length<=100000
   ·rw[if_pos hz]at p;cases er:Mi.itA z.cps.toList i with
    |none=>rw[er]at p;exact p.elim
    |some c=>rw[er]at p;exact⟨c,big' hz,er,PostE.kept p (Ext.refl s) rfl⟩
   ·rw[if_neg hz]at p;exact p.elim
  |_=>exact p.elim
 |_=>cases d<;>exact p.elim
theorem zD5{G:Hp}{d:Dt}{vs:List V}(h:RepL G [d] vs):∃x,vs=[x]/\Rep G d x:=by
 obtain⟨x,q,rfl,a,b⟩:=h;cases(show q=[] from b)
 exact⟨x,rfl,a⟩
theorem zXS{G:Hp}{d e:Dt}{vs:List V}(h:RepL G [d,e] vs):∃x y,vs=[x,y]/\Rep G d x/\Rep G e y:=by
 obtain⟨x,q,rfl,a,b⟩:=h;obtain⟨y,rfl,c⟩:=zD5 b;exact⟨x,y,rfl,a,c⟩
theorem zBB:CBi (zVC Kc.K) Mi.lenD n:=by
 intro mg E G H ds vs Q s h p;cases ds with
 |nil=>exact p.elim
 |cons a0 r0=>
  cases r0 with
  |cons _ _=>cases a0<;>exact p.elim
  |nil=>
   cases a0 with
   |lst es=>
    obtain⟨x,rfl,a,xs,rfl,ha,ra⟩:=zD5 h;exact⟨xs,.inl (SqL.of (s _ _ ha)),by rw[ra.length];exact PostE.val p (Ext.refl s) rfl rfl⟩
   |tup es=>
    obtain⟨x,rfl,a,xs,rfl,ha,ra⟩:=zD5 h;exact⟨xs,.inr (SqT.of (s _ _ ha)),by rw[ra.length];exact PostE.val p (Ext.refl s) rfl rfl⟩
   |scr ns=>
    obtain⟨x,rfl,a,rfl,ha⟩:=zD5 h;refine⟨ns.map V.int,(zED s ha).old,?_⟩;rw[qAi];exact PostE.val p (Ext.refl s) rfl rfl
   |str z=>
    obtain⟨x,rfl,hx⟩:=zD5 h;cases(show x=.str z from hx)
    rw[Mi.lenD]at p;by_cases hz:z.length<=100000
    ·rw[if_pos hz]at p;exact⟨big' hz,PostE.val p (Ext.refl s) rfl rfl⟩
    ·rw[if_neg hz]at p;exact p.elim
   |_=>exact p.elim
theorem zCD{G:Hp}:∀(ns:List Int),RepL G (ns.map Dt.int) (ns.map V.int)
 |[]=>rfl
 |_::r=>⟨_,_,rfl,rfl,zCD r⟩
theorem zQQ:CBi (zJ5 Kc.K) Mi.listD 1:=by
 intro mg E G H ds vs Q s h p;cases ds with
 |nil=>exact p.elim
 |cons a0 r0=>
  cases r0 with
  |cons _ _=>cases a0<;>exact p.elim
  |nil=>
   cases a0 with
   |lst es=>
    obtain⟨x,rfl,a,xs,rfl,ha,ra⟩:=zD5 h;exact .inl ⟨xs,.inl (SqL.of (s _ _ ha)),fun l hl=>PostE.lst p (Ext.refl s) ra hl⟩
   |tup es=>
    obtain⟨x,rfl,a,xs,rfl,ha,ra⟩:=zD5 h;exact .inl ⟨xs,.inr (SqT.of (s _ _ ha)),fun l hl=>PostE.lst p (Ext.refl s) ra hl⟩
   |scr ns=>
    obtain⟨x,rfl,a,rfl,ha⟩:=zD5 h;exact .inl ⟨ns.map V.int,(zED s ha).old,fun l hl=>PostE.lst p (Ext.refl s) (zCD ns) hl⟩
   |_=>exact p.elim
theorem zRQ{G:Hp}(lo:Int)(k:Nat):RepL G (Mi.nums lo k) (zFE lo k):=by
 unfold Mi.nums zFE;refine zD4 (by simp) fun q d x h1 h2=>?_
 rw[qA8]at h1 h2;cases e:(qA7 k)[q]? with
 |none=>rw[e]at h1;cases h1
 |some j=>rw[e]at h1 h2;cases h1;cases h2;rfl
theorem zBN{K:qA1}(A:DA mg E t m 0):DE mg E (tCB (zJ5 K) (zEA (tCB zHR t) tNil)) (Mi.eBi Mi.rangeD m) 1:=by
 intro G H σ ρ Q s w p;refine A.step errE s w p fun ds vs G1 H1 S T _ fr o p1=>?_
 have p2:=PostE.from p1 fr.ext;have r:=o.repL;have s1:=fr.ext.in';have fin:∀(lo hi:Int),(-4611686018427387904<=lo/\lo<4611686018427387904/\-4611686018427387904<=hi/\hi<4611686018427387904)->hi-lo<=100000->PostE mg E G1 H1 1 (okR (.lst (Mi.nums lo (hi-lo).toNat))) Q ->
   ∀q,H1 q=none->zJ5 K [.ref q] (upd H1 q (.rng lo hi)) Q:=by
  intro lo hi hb hz pp q hq;refine .inr ⟨lo,hi,zAG,⟨by lia,by lia,by lia,by lia⟩,by lia,fun l hl=>?_⟩;have sn:=L2.same_new hq (.rng lo hi);exact PostE.lst pp (Ext.same s1 sn) (zRQ lo _) hl
 cases ds with
 |nil=>exact p2.elim
 |cons a0 r0=>
  cases a0 with
  |int i=>
   cases r0 with
   |nil=>
    obtain⟨x,rfl,hx⟩:=zD5 r;cases(show x=.int i from hx)
    rw[Mi.rangeD]at p2;split at p2
    ·rename_i hz
     intro q hq;refine fin 0 i ⟨by decide,by decide,hz.1.1,hz.1.2⟩ (by lia) ?_ q hq;rw[Int.sub_zero];exact p2
    ·exact p2.elim
   |cons b0 r1=>
    cases r1 with
    |cons _ _=>cases b0<;>exact p2.elim
    |nil=>
     cases b0 with
     |int j=>
      obtain⟨x,y,rfl,hx,hy⟩:=zXS r;cases(show x=.int i from hx)
      cases(show y=.int j from hy)
      rw[Mi.rangeD]at p2;split at p2
      ·rename_i hz
       exact fun q hq=>fin i j hz.1 hz.2 p2 q hq
      ·exact p2.elim
     |_=>exact p2.elim
  |_=>rcases r0 with _|⟨_,_|_⟩<;>exact p2.elim
theorem zaQ{G H:Hp}{d:Dt}{x:V}(s:Same G H)(h:Rep G d x)(hd:Mi.tyD d≠""):zFR H x=some (Mi.tyD d):=by
 cases d with
 |non=>cases h;rfl
 |bl _=>cases h;rfl
 |int _=>cases h;rfl
 |str _=>cases h;rfl
 |lst _=>obtain⟨a,xs,rfl,ha,_⟩:=h;unfold zFR;dsimp only;rw[s _ _ ha];rfl
 |tup _=>obtain⟨a,xs,rfl,ha,_⟩:=h;unfold zFR;dsimp only;rw[s _ _ ha];rfl
 |scr _=>exact absurd rfl hd
 |exc _ _ _=>exact absurd rfl hd
 |fn _ _=>exact absurd rfl hd
 |dsk _ _=>exact absurd rfl hd
 |fnc _=>exact absurd rfl hd
 |dtt _ _=>exact absurd rfl hd
 |loc _ _=>exact absurd rfl hd
 |ins _ _=>exact absurd rfl hd
 |dct _=>exact absurd rfl hd
theorem zMQ{nm:String}(hn:nm∈["int","bool","str","list","tuple","dict"])(A:DE mg E ta ma k):DE mg E (tCB zY5 (zEA ta (zEA (tC (.ty nm)) tNil))) (Mi.eIsi nm ma) n:=by
 intro G H σ ρ Q s w p;refine(zAS A).step errE s w p fun d v G1 H1 S _ fr o p1=>?_
 have p2:=PostE.from p1 fr.ext;unfold Mi.isiD at p2
 split at p2
 ·exact p2.elim
 ·rename_i hd
  exact⟨Mi.tyD d,zaQ fr.ext.in' o hd,hn,PostE.val p2 (Ext.refl fr.ext.in') rfl rfl⟩
end
section
variable[Kc]
def ItOk(J:It)(G:Hp)(ds:List Dt):Prop:=∀(i:Nat)(G1 H1:Hp),Same G G1->Same G1 H1->(i<ds.length->J.go i H1)/\(ds.length<=i->J.stop i H1)/\∀x H2 d,ds[i]?=some d->J.yld i H1 x H2->∃G2,Ext G1 H1 G2 H2/\Rep G2 d x
noncomputable def zR0(ind:Bool)(G:Hp):Hp:=if ind=true then(fun _=>none)else G
def zaE(mg:Str->Option Value)(E:XK)(G H:Hp)(ind:Bool)(r:R (List Dt))(Q:It->Hp->Prop):Prop:=match r with
 |none=>False
 |some (.error x)=>∀c da G' H',Ext G H G' H'->XRep mg x c da G' H'->E c da H'
 |some (.ok ds)=>∀J G' H',Ext G H G' H'->ItOk J (zR0 ind G') ds->Q J H'
def DI(mg:Str->Option Value)(E:XK)(t:TI)(m:IM)(ind:Bool):Prop:=∀(G H:Hp)(σ:St)(ρ:Rh)(Q:It->Hp->Prop),Same G H->View G σ ρ->zaE mg E G H ind (m ρ) Q->t σ H Q
section
variable{mg:Str->Option Value}{E:XK}{n k l:Nat}{ta te:TE}{ma me:EM}{t:TA}{m:AM}{ind:Bool}
theorem errI{G H:Hp}{Q:It->Hp->Prop}:Err mg E G H (fun r=>zaE mg E G H ind r Q):=⟨fun h=>h,fun _ h=>h⟩
theorem errB{G H:Hp}{α β:Type}{P:R β->Prop}(e:Err mg E G H P)(g:α->R β):Err mg E G H (fun r=>P (zA2 r g)):=⟨fun h=>e.no h,fun x h=>e.er x h⟩
theorem DI.step{β:Type}{t:TI}{m:IM}(D:DI mg E t m ind){G H:Hp}{σ:St}{ρ:Rh}{Q:It->Hp->Prop}{P:R β->Prop}{f:List Dt->R β}(hE:Err mg E G H P)(s:Same G H)(w:View G σ ρ)(p:P (zA2 (m ρ) f))
  (h:∀ds J G' H',m ρ=okR ds->Ext G H G' H'->ItOk J (zR0 ind G') ds->P (f ds)->Q J H'):t σ H Q:=by
 refine D G H σ ρ Q s w ?_;cases e:m ρ with
 |none=>rw[e]at p;exact hE.no p
 |some r=>
  rw[e]at p;cases r with
  |error x=>exact hE.er x p
  |ok ds=>exact fun J G' H' x i=>h ds J G' H' e x i p
theorem zUB{K:qA1}{G:Hp}{a:Addr}{xs:List V}{ds:List Dt}(ha:SqL K G a xs)(r:RepL G ds xs):ItOk (Itl K a) G ds:=by
 intro i G1 H1 s1 s2;have hS:SqL K H1 a xs:=(s1.trans s2).seq ha;refine⟨fun hi=>⟨xs,xs[i]'(by rw[r.length];exact hi),hS,by simp⟩,fun hi=>⟨xs,hS,by rw[r.length];exact hi⟩,fun x H2 d hd hy=>?_⟩;obtain⟨rfl,hy⟩:=hy;exact⟨G1,Ext.refl s2,Rep.mono s1 (zBI r hd (hy xs hS))⟩
theorem zUA{K:qA1}{G:Hp}{a:Addr}{xs:List V}{ds:List Dt}(ha:SqT K G a xs)(r:RepL G ds xs):ItOk (Itt K a) G ds:=by
 intro i G1 H1 s1 s2;have hS:SqT K H1 a xs:=zIY (s1.trans s2) ha;refine⟨fun hi=>⟨xs,xs[i]'(by rw[r.length];exact hi),hS,by simp⟩,fun hi=>⟨xs,hS,by rw[r.length];exact hi⟩,fun x H2 d hd hy=>?_⟩;obtain⟨rfl,hy⟩:=hy;exact⟨G1,Ext.refl s2,Rep.mono s1 (zBI r hd (hy xs hS))⟩
theorem zZC{G:Hp}(lo:Int)(k:Nat):ItOk (Itr lo k) G (Mi.nums lo k):=by
 intro i G1 H1 s1 s2;have hl:(Mi.nums lo k).length=k:=by simp[Mi.nums]
 refine⟨fun hi=>by rw[hl]at hi;exact hi,fun hi=>by rw[hl]at hi;exact hi,fun x H2 d hd hy=>?_⟩;obtain⟨rfl,rfl⟩:=hy;refine⟨G1,Ext.refl s2,?_⟩;unfold Mi.nums at hd;rw[qA8]at hd;cases e:(qA7 k)[i]? with
 |none=>rw[e]at hd;cases hd
 |some j=>
  rw[e]at hd;cases hd;have hj:j=i:=by
   obtain⟨h1,h2⟩:=qA3.mp e;rw[qBw]at h2;exact h2.symm
  subst hj;rfl
theorem zJR(A:DA mg E t m 0):DI mg E (zZG t) (Mi.iR1 m) true:=by
 intro G H σ ρ Q s w p;refine A.step errI s w p fun ds vs G1 H1 S T _ fr o p1=>?_
 have r:=o.repL;cases ds with
 |nil=>exact qAa p1
 |cons hd1 tl1=>
  cases hd1 with
  |int j=>
   cases tl1 with
   |nil=>
    obtain⟨x,rfl,hx⟩:=zD5 r;cases(show x=.int j from hx)
    dsimp only at p1;split at p1
    ·rename_i hz
     exact⟨j,rfl,by lia,by lia,p1 _ G1 H1 fr.ext (zZC 0 _)⟩
    ·exact p1.elim
   |cons _ _=>exact qAa p1
  |_=>exact qAa p1
theorem zJP:∀(ds:List Dt)(n:Nat),(Mi.enumD n ds).length=ds.length
 |[],_=>rfl
 |_::r,n=>by rw[Mi.enumD,qAr,qAr,zJP r]
theorem zJQ:∀(ds:List Dt)(n i:Nat)(d:Dt),(Mi.enumD n ds)[i]?=some d->∃e,ds[i]?=some e/\d=.tup [.int ((n+i:Nat):Int),e]
 |[],_,_,_,h=>by simp[Mi.enumD]at h
 |x::r,n,0,d,h=>by simp[Mi.enumD]at h;exact⟨x,by simp,by rw[<- h];rfl⟩
 |x::r,n,i+1,d,h=>by
  rw[Mi.enumD]at h;obtain⟨e,h1,h2⟩:=zJQ r (n+1) i d (by simpa using h);exact⟨e,by simpa using h1,by rw[h2,show n+1+i=n+(i+1) by lia]⟩
theorem Ext.new{G H:Hp}(s:Same G H){T:Addr}(hT:H T=none)(o:HO):Ext G H (upd G T o) (upd H T o):=by
 refine⟨L2.same_new (s.free hT) o,L2.same_new hT o,fun b u e=>?_,fun b hb=>zAE fun z=>hb (z▸hT)⟩
 by_cases z:b=T
 ·subst z;rw[zAG]at e ⊢;exact e
 ·rw[zAE z]at e ⊢;exact s _ _ e
theorem zZD{K:qA1}{G:Hp}{a:Addr}{xs:List V}{ds:List Dt}(ha:G a=some (.lst xs))(r:RepL G ds xs):ItOk (Ite K a) G (Mi.enumD 0 ds):=by
 intro i G1 H1 s1 s2;have hS:SqL K H1 a xs:=SqL.of (s2 _ _ (s1 _ _ ha));rw[zJP];refine⟨fun hi=>⟨xs,xs[i]'(by rw[r.length];exact hi),hS,by simp⟩,fun hi=>⟨xs,hS,by rw[r.length];exact hi⟩,fun x H2 d hd hy=>?_⟩;obtain⟨T,y,rfl,hT,rfl,hy⟩:=hy;obtain⟨e,h1,rfl⟩:=zJQ ds 0 i d hd;have x1:=Ext.new s2 hT (.tup [.int i,y]);refine⟨_,x1,T,_,rfl,zAG,_,_,rfl,?_,_,_,rfl,Rep.mono (s1.trans x1.g) (zBI r h1 (hy xs hS)),rfl⟩;show V.int (i:Int)=.int ((0+i:Nat):Int);rw[qB8]
theorem zZW{K:qA1}(A:DA mg E t m 0):DI mg E (zWF K t) (Mi.iEn m) false:=by
 intro G H σ ρ Q s w p;refine A.step errI s w p fun ds vs G1 H1 S T _ fr o p1=>?_
 have r:=o.repL;cases ds with
 |nil=>exact qAa p1
 |cons hd1 tl1=>
  cases hd1 with
  |lst es=>
   cases tl1 with
   |nil=>
    obtain⟨x,rfl,a,xs,rfl,ha,ra⟩:=zD5 r;exact⟨⟨xs,SqL.of (fr.ext.in' _ _ ha)⟩,p1 _ G1 H1 fr.ext (zZD ha ra)⟩
   |cons _ _=>exact qAa p1
  |_=>exact qAa p1
noncomputable def zFT:St->List (Nat×V)->St
 |σ,[]=>σ
 |σ,(i,v)::r=>zFT (σ.set i (some v)) r
inductive BsRep(G:Hp):List (Nat×Dt)->List (Nat×V)->Prop
 |nil:BsRep G [] []
 |cons {i d v bs ws}:Rep G d v->BsRep G bs ws->BsRep G ((i,d)::bs) ((i,v)::ws)
theorem View.set{G:Hp}{σ:St}{ρ:Rh}{i:Nat}{d:Dt}{v:V}(w:View G σ ρ)(r:Rep G d v):View G (σ.set i (some v)) (ρ.set i (some d)):=by
 refine⟨by simp[w.len],fun j e h=>?_,w.tab⟩;have hj:j<ρ.length:=by
  have:=(qA3.mp h).1;simpa using this
 by_cases z:i=j
 ·subst z;rw[qAl hj]at h;cases h;exact⟨v,qAl (by rw[<- w.len];exact hj),r⟩
 ·rw[qAm z]at h;obtain⟨u,h1,h2⟩:=w.at j e h;exact⟨u,by rw[qAm z];exact h1,h2⟩
theorem View.sets{G:Hp}{bs ws}(h:BsRep G bs ws):∀{σ:St}{ρ:Rh},View G σ ρ->View G (zFT σ ws) (zAN ρ bs):=by
 induction h with
 |nil=>exact fun w=>w
 |cons r _ ih=>exact fun w=>ih (w.set r)
def TgOk(g:TG)(tg:Tg):Prop:=∀(G H:Hp)(σ:St)(d:Dt)(x:V)(bs:List (Nat×Dt))(Q:St->Hp->Prop),Same G H->Rep G d x->zAO tg d=some bs->(∀ws,BsRep G bs ws->Q (zFT σ ws) H)->g x σ H Q
def zTK(g:TGs)(is:List Nat):Prop:=∀(G H:Hp)(σ:St)(ds:List Dt)(xs:List V)(Q:St->Hp->Prop),RepL G ds xs->ds.length=is.length->(∀ws,BsRep G (is.zip ds) ws->Q (zFT σ ws) H)->g xs σ H Q
theorem zCB(i:Nat):TgOk (zEN i) (.one i):=by
 intro G H σ d x bs Q s r e h;cases e;exact h [(i,x)] (.cons r .nil)
theorem zKE:zTK gNil []:=by
 intro G H σ ds xs Q r hl h;cases ds with
 |nil=>cases(show xs=[] from r);exact⟨rfl,h [] .nil⟩
 |cons _ _=>simp at hl
theorem zDG(i:Nat){g:TGs}{is:List Nat}(hg:zTK g is):zTK (zZJ (zEN i) g) (i::is):=by
 intro G H σ ds xs Q r hl h;cases ds with
 |nil=>simp at hl
 |cons d ds=>
  obtain⟨x,q,rfl,a,b⟩:=r;exact⟨x,q,rfl,hg G H _ ds q Q b (by simpa using hl) fun ws hw=>h ((i,x)::ws) (.cons a hw)⟩
theorem zO8{K:qA1}{g:TGs}{is:List Nat}{k:Nat}(hg:zTK g is)(hk:is.length=k):TgOk (gTup K k g) (.tup is):=by
 intro G H σ d x bs Q s r e h;cases d with
 |tup ds=>
  obtain⟨a,xs,rfl,ha,ra⟩:=r;rw[zAO]at e;by_cases hz:ds.length=is.length
  ·rw[if_pos hz]at e;cases e;exact⟨a,xs,rfl,SqT.of (s _ _ ha),by rw[ra.length,hz,hk],hg G H σ ds xs Q ra hz h⟩
  ·rw[if_neg hz]at e;cases e
 |_=>simp[zAO]at e
theorem zIX:∀(ws:List (Nat×V))(σ own:St),(∀p∈ws,σ.length<=p.1)->∃own':St,own'.length=own.length/\zFT (σ++own) ws=σ++own'
 |[],σ,own,_=>⟨own,rfl,rfl⟩
 |(i,v)::r,σ,own,h=>by
  have hi:σ.length<=i:=h (i,v) (by simp);rw[zFT,List.set_append_right _ _ hi];obtain⟨o,h1,h2⟩:=zIX r σ (own.set (i-σ.length) (some v)) fun p hp=>h p (by simp[hp])
  exact⟨o,by rw[h1,qCn],h2⟩
theorem BsRep.idx{G:Hp}{bs ws}(h:BsRep G bs ws):ws.map (·.1)=bs.map (·.1):=by
 induction h with
 |nil=>rfl
 |cons _ _ ih=>simp[ih]
theorem zQY{tg:Tg}{d:Dt}{bs:List (Nat×Dt)}(h:zAO tg d=some bs):∀i∈bs.map (·.1),i∈tg.idx:=by
 cases tg with
 |one i=>cases h;simp[Tg.idx]
 |tup is=>
  cases d with
  |tup ds=>
   rw[zAO]at h;split at h
   ·cases h;intro i hi;obtain⟨p,hp,e⟩:=qAb.mp hi;rw[<- e];obtain⟨a,b⟩:=p;exact(qC4 hp).1
   ·cases h
  |_=>simp[zAO]at h
theorem zF3{wi:TI}{g:TG}{tif:TT}{it:IM}{tg:Tg}{c:TM}(I:DI mg E wi it ind)(hT:TgOk g tg)(C:DT mg E tif c)(B:DE mg E te me n):DE mg E (zUY wi k g tif te) (Mi.eComp it k tg c me) (n+1):=by
 intro G H σ ρ Q s w p;refine I.step errE s w p fun ds J G1 H1 _ x1 io p1=>?_
 by_cases hz:ds.length<=100000/\(tg.idx.all fun i=>decide (ρ.length<=i))=true
 case neg=>rw[if_neg hz]at p1;exact p1.elim
 rw[if_pos hz]at p1;obtain⟨hz,hix⟩:=hz;have hb1:Same (zR0 ind G1) G1:=by
  unfold zR0;split
  ·exact fun b o e=>by cases e
  ·exact Same.refl _
 refine⟨fun i m acc H'=>m=ds.length-i/\i<=ds.length/\∃G' as S T,Fr G H G' H' S/\Same G1 G'/\OwnA G' H' n S as acc T/\as.length<=i/\PostE mg E G H (n+1) (zA2 (Mi.compGo ρ k tg c me (ds.drop i) as) fun es=>okR (.lst es)) Q,
  ⟨_,rfl,qAu _,G1,[],fun _=>False,fun _ _=>False,⟨x1,fun _ z=>z.elim⟩,Same.refl _,⟨rfl,fun q d x h=>by simp at h,fun _ _ _ z=>z.elim,fun _ _ z=>z.elim⟩,qA6 _,by rw[qCv];exact p1⟩,?_⟩
 rintro i m acc H' ⟨rfl,hi,G',as,S,T,fr,sg,o,hl,p⟩
 obtain⟨j1,j2,j3⟩:=io i G' H' (hb1.trans sg) fr.ext.in';by_cases hlt:i<ds.length
 ·refine .inr ⟨j1 hlt,by rw[o.len];exact L2.big (by lia),fun acc' H''=>ds.length-(i+1)=ds.length-(i+1)/\i+1<=ds.length/\∃G' as S T,Fr G H G' H'' S/\Same G1 G'/\OwnA G' H'' n S as acc' T/\as.length<=i+1/\PostE mg E G H (n+1) (zA2 (Mi.compGo ρ k tg c me (ds.drop (i+1)) as) fun es=>okR (.lst es)) Q,
   fun acc' H'' q=>⟨ds.length-(i+1),by lia,q⟩,fun x H2 hy=>?_⟩
  have hd:ds[i]?=some ds[i]:=qA5 hlt;obtain⟨G2,x2,r2⟩:=j3 x H2 ds[i] hd hy;rw[qCx hlt,Mi.compGo]at p;cases eb:zAO tg ds[i]with
  |none=>rw[eb]at p;exact p.elim
  |some bs=>
   rw[eb]at p;dsimp only at p;refine hT G2 H2 _ _ x bs _ x2.in' r2 eb fun ws hb=>?_
   have hsl:∀q∈ws,σ.length<=q.1:=fun q hq=>by
    have h1:q.1∈bs.map (·.1):=by rw[<- hb.idx];exact qFg hq
    have h2:=qBo.mp hix q.1 (zQY eb q.1 h1);rw[<- w.len];exact of_decide_eq_true h2
   obtain⟨own,ho1,ho2⟩:=zIX ws σ (qA4 k none) hsl;refine⟨own,by rw[ho1,qDg],ho2,?_⟩;have x02:=fr.ext.trans x2;have w2:View G2 (zFT (σ++qA4 k none) ws) (zAN (ρ++qA4 k none) bs):=by
    refine View.sets hb ⟨by simp[w.len],fun j d h=>?_,w.tab.trans x02.g⟩
    by_cases hj:j<ρ.length
    ·rw[qA9 hj]at h;obtain⟨v,a,b⟩:=w.at j d h;exact⟨v,by rw[qA9 (by rw[<- w.len];exact hj)];exact a,Rep.mono x02.g b⟩
    ·rw[qAd (by lia),qBj]at h
     split at h<;>cases h
   refine C.step ((errB errE _).from x02) x2.in' w2 p fun b H3 _ s3 p3=>?_
   have x3:Ext G2 H2 G2 H3:=Ext.same x2.in' s3;have x03:=x02.trans x3;have newS:∀a,S a->H a=none/\G2 a=none/\H3 a≠none:=fun a ha=>by
    obtain⟨n1,n2,n3⟩:=fr.new a ha;exact⟨n1,(x2.old a n3).trans n2,s3.some (x2.h.some n3)⟩
   have own3:OwnA G2 H3 n S as acc T:=⟨o.len,fun q d y h1 h2=>(o.own q d y h1 h2).mono x2.g (x2.h.trans s3),o.dis,o.sub⟩
   cases b with
   |false=>exact⟨rfl,hlt,G2,as,S,T,⟨x03,newS⟩,sg.trans x2.g,own3,by lia,p3⟩
   |true=>
    refine B.step ((errB errE _).from x03) x3.in' w2 p3 fun e v G4 H4 S4 _ fr4 o4 p4=>?_
    have ap:∀q b,T q b->S4 b->False:=fun q b h1 h2=>(newS b (o.sub q b h1)).2.2 (fr4.new b h2).1
    refine⟨rfl,hlt,G4,as++[e],fun a=>S a\/S4 a,fun q b=>(q<as.length/\T q b)\/(q=as.length/\S4 b),⟨x03.trans fr4.ext,fun a ha=>?_⟩,sg.trans (x2.g.trans fr4.ext.g),⟨by simp[o.len],fun q d y h1 h2=>?_,fun q r b h1 h2=>?_,fun q b h=>?_⟩,by simp;lia,p4⟩
    ·rcases ha with ha|ha
     ·obtain⟨n1,n2,n3⟩:=newS a ha;exact⟨n1,(fr4.ext.old a n3).trans n2,fr4.ext.h.some n3⟩
     ·obtain⟨n1,n2,n3⟩:=fr4.new a ha;exact⟨x03.h.free n1,n2,n3⟩
    ·by_cases hq:q<as.length
     ·rw[qA9 hq]at h1;rw[qA9 (by rw[o.len];exact hq)]at h2;exact((own3.own q d y h1 h2).mono fr4.ext.g fr4.ext.h).sub fun b z=>.inl ⟨hq,z⟩
     ·rw[qAd (by lia)]at h1;rw[qAd (by rw[o.len];lia),o.len]at h2;have hq0:q-as.length=0:=by
       have:=(qA3.mp h1).1;simp at this;lia
      rw[hq0]at h1 h2;simp at h1 h2;subst h1;subst h2;exact o4.sub fun b z=>.inr ⟨by lia,z⟩
    ·rcases h1 with⟨a1,t1⟩|⟨a1,t1⟩<;>rcases h2 with⟨a2,t2⟩|⟨a2,t2⟩
     ·exact o.dis q r b t1 t2
     ·exact(ap q b t1 t2).elim
     ·exact(ap r b t2 t1).elim
     ·lia
    ·rcases h with⟨_,z⟩|⟨_,z⟩
     ·exact .inl (o.sub q b z)
     ·exact .inr z
 ·have e:i=ds.length:=by lia
  subst e;refine .inl ⟨j2 (qA6 _),fun D hD=>?_⟩;rw[qGg,Mi.compGo]at p;exact p (.ref D) G' _ _ (fr.add hD _) ⟨D,acc,T,rfl,zAG,o.kids (fun b hb=>(fr.new b hb).2.2) hD _⟩
end
end
section
variable[Kc]
structure Sat(G0 H0 S0:Hp)(σ:St)(ρ:Ro)(G H:Hp)(As:Nat->Addr->Prop):Prop where
 ext:Ext G0 H0 G H
 stb:Same S0 G
 tab:Same (tabK Kc.K) G0
 len:ρ.length=σ.length
 «at»:∀(i:Nat)(d:Dt)(n:Nat),ρ[i]?=some (some (d,n))->∃v,σ[i]?=some (some v)/\Own G H n (As i) d v
 dis:∀i j a,As i a->As j a->i=j
 new:∀i a,As i a->H0 a=none/\G a=none/\H a≠none
section
variable{G0 H0 S0:Hp}{σ:St}{ρ:Ro}{G H:Hp}{As:Nat->Addr->Prop}
theorem Sat.grow(a:Sat G0 H0 S0 σ ρ G H As){H':Hp}(s:Same H H'):Sat G0 H0 S0 σ ρ G H' As:=
 ⟨a.ext.trans (Ext.same a.ext.in' s),a.stb,a.tab,a.len,fun i d n e=>let⟨v,h1,h2⟩:=a.at i d n e;⟨v,h1,h2.mono (Same.refl _) s⟩,a.dis,fun i b h=>let⟨n1,n2,n3⟩:=a.new i b h;⟨n1,n2,s.some n3⟩⟩
theorem Sat.wider(a:Sat G0 H0 S0 σ ρ G H As){G' H':Hp}(x:Ext G H G' H'):Sat G0 H0 S0 σ ρ G' H' As:=
 ⟨a.ext.trans x,a.stb.trans x.g,a.tab,a.len,fun i d n e=>let⟨v,h1,h2⟩:=a.at i d n e;⟨v,h1,h2.mono x.g x.h⟩,a.dis,fun i b h=>let⟨n1,n2,n3⟩:=a.new i b h;⟨n1,(x.old b n3).trans n2,x.h.some n3⟩⟩
theorem Sat.full(a:Sat G0 H0 S0 σ ρ G H As):∃J,Ext G0 H0 J H/\Same G J/\View J σ (full ρ):=by
 obtain⟨s1,s2⟩:=zEI (S:=fun b=>∃i,As i b) a.ext.in';refine⟨over G H fun b=>∃i,As i b,⟨a.ext.g.trans s1,a.ext.h,s2,fun b hb=>?_⟩,s1,by simp[Mi.full,a.len],fun i d e=>?_,a.tab.trans (a.ext.g.trans s1)⟩
 ·have z:¬ ∃i,As i b:=fun⟨i,z⟩=>hb (a.new i b z).1
  rw[zCK z];exact a.ext.old b hb
 ·unfold Mi.full at e;rw[qA8]at e;cases e1:ρ[i]? with
  |none=>rw[e1]at e;cases e
  |some o=>
   rw[e1]at e;cases o with
   |none=>cases e
   |some sl=>
    obtain⟨d',n⟩:=sl;cases e;obtain⟨v,h1,h2⟩:=a.at i _ n e1;exact⟨v,h1,h2.rep s1 fun b o hb e=>by rw[zEZ ⟨i,hb⟩];exact e⟩
theorem Sat.put(a:Sat G0 H0 S0 σ ρ G H As){i n:Nat}{d:Dt}{v:V}{S:Addr->Prop}(o:Own G H n S d v)(hS:∀b,S b->H0 b=none/\G b=none/\H b≠none)(hd:∀j b,j≠i->As j b->S b->False) :
  Sat G0 H0 S0 (σ.set i (some v)) (ρ.set i (some (d,n))) G H (fun j=>if j=i then S else As j):=by
 refine⟨a.ext,a.stb,a.tab,by simp[a.len],fun j e k h=>?_,fun j l b h1 h2=>?_,fun j b h=>?_⟩
 ·have hj:j<ρ.length:=by
   have:=(qA3.mp h).1;simpa using this
  by_cases z:i=j
  ·subst z;rw[qAl hj]at h;cases h;exact⟨v,qAl (by rw[<- a.len];exact hj),by rw[if_pos rfl];exact o⟩
  ·rw[qAm z]at h;obtain⟨u,h1,h2⟩:=a.at j e k h;exact⟨u,by rw[qAm z];exact h1,by rw[if_neg (fun q=>z q.symm)];exact h2⟩
 ·try dsimp only at h1 h2
  by_cases z1:j=i
  ·by_cases z2:l=i
   ·rw[z1,z2]
   ·rw[if_pos z1]at h1;rw[if_neg z2]at h2;exact(hd l b z2 h2 h1).elim
  ·by_cases z2:l=i
   ·rw[if_neg z1]at h1;rw[if_pos z2]at h2;exact(hd j b z1 h1 h2).elim
   ·rw[if_neg z1]at h1;rw[if_neg z2]at h2;exact a.dis j l b h1 h2
 ·try dsimp only at h
  by_cases z1:j=i
  ·rw[if_pos z1]at h;exact hS b h
  ·rw[if_neg z1]at h;exact a.new j b h
theorem Sat.set(a:Sat G0 H0 S0 σ ρ G H As){H':Hp}{i n:Nat}{d:Dt}{v:V}{S:Addr->Prop}(s:Same H H')(o:Own G H' n S d v)(hS:∀b,S b->H b=none/\G b=none/\H' b≠none) :
  Sat G0 H0 S0 (σ.set i (some v)) (ρ.set i (some (d,n))) G H' (fun j=>if j=i then S else As j):=
 (a.grow s).put o (fun b hb=>⟨a.ext.h.free (hS b hb).1,(hS b hb).2⟩) fun j b _ h1 h2=>(a.new j b h1).2.2 (hS b h2).1
theorem Sat.frz1(a:Sat G0 H0 S0 σ ρ G H As)(i:Nat):∃G1 As1,Sat G0 H0 S0 σ (Mi.frz1 i ρ) G1 H As1:=by
 unfold Mi.frz1;cases e1:ρ[i]? with
 |none=>exact⟨G,As,a⟩
 |some o=>
  cases o with
  |none=>exact⟨G,As,a⟩
  |some sl=>
   obtain⟨d,n⟩:=sl;dsimp only;obtain⟨v,h1,h2⟩:=a.at i d n e1;obtain⟨s1,s2⟩:=zEI (S:=As i) a.ext.in';have x:Ext G0 H0 (over G H (As i)) H:=⟨a.ext.g.trans s1,a.ext.h,s2,fun b hb=>by
    have z:¬As i b:=fun z=>hb (a.new i b z).1
    rw[zCK z];exact a.ext.old b hb⟩
   have hv:(σ.set i (some v))=σ:=by
    have hi:i<σ.length:=(qA3.mp h1).1;have he:=(qA3.mp h1).2;rw[<- he,List.set_getElem_self]
   have b:Sat G0 H0 S0 σ (ρ.set i (some (d,0))) (over G H (As i)) H (fun j b=>j≠i/\As j b):=by
    refine⟨x,a.stb.trans s1,a.tab,by simp[a.len],fun j e k h=>?_,fun j l b p q=>a.dis j l b p.2 q.2,fun j b p=>?_⟩
    ·have hj:j<ρ.length:=by
      have:=(qA3.mp h).1;simpa using this
     by_cases z:i=j
     ·subst z;rw[qAl hj]at h;cases h;exact⟨v,h1,h2.rep s1 fun b o hb e=>by rw[zEZ hb];exact e⟩
     ·rw[qAm z]at h;obtain⟨u,q1,q2⟩:=a.at j e k h;exact⟨u,q1,(q2.mono s1 (Same.refl _)).sub fun b hb=>⟨fun q=>z q.symm,hb⟩⟩
    ·obtain⟨n1,n2,n3⟩:=a.new j b p.2;have z:¬As i b:=fun z=>p.1 (a.dis j i b p.2 z)
     exact⟨n1,by rw[zCK z];exact n2,n3⟩
   exact⟨_,_,b⟩
theorem Sat.frzAt:∀(vs:List Nat){ρ:Ro}{G:Hp}{As:Nat->Addr->Prop},Sat G0 H0 S0 σ ρ G H As->∃G1 As1,Sat G0 H0 S0 σ (Mi.frzAt vs ρ) G1 H As1
 |[],_,_,_,a=>⟨_,_,a⟩
 |i::r,_,_,_,a=>by
  obtain⟨G1,As1,b⟩:=a.frz1 i;exact Sat.frzAt r b
theorem Sat.frz(a:Sat G0 H0 S0 σ ρ G H As):View G σ (Mi.frz ρ):=by
 refine⟨by simp[Mi.frz,a.len],fun i d e=>?_,a.tab.trans a.ext.g⟩;unfold Mi.frz at e;rw[qA8]at e;cases e1:ρ[i]? with
 |none=>rw[e1]at e;cases e
 |some o=>
  rw[e1]at e;cases o with
  |none=>cases e
  |some sl=>
   obtain⟨d',n⟩:=sl;obtain⟨v,h1,h2⟩:=a.at i d' n e1;simp only[Option.map_some,qIo]at e;split at e
   ·rename_i hz
    cases e;rcases hz with hz|hz
    ·subst hz;exact⟨v,h1,h2⟩
    ·exact⟨v,h1,Own.scalar (k:=0) (G2:=G) (H2:=H) (S2:=fun _=>False) h2 hz⟩
   ·cases e
theorem Sat.store(a:Sat G0 H0 S0 σ ρ G H As){i n:Nat}{d:Dt}{v:V}{p:Addr}{o:HO}{S:Addr->Prop}(hp:As i p)(hv:σ[i]?=some (some v))(w:Own G (upd H p o) n S d v)
  (hS:∀b,S b->As i b\/(H0 b=none/\G b=none/\H b≠none/\∀j,¬As j b)):Sat G0 H0 S0 σ (ρ.set i (some (d,n))) G (upd H p o) (fun j=>if j=i then S else As j):=by
 obtain⟨p1,p2,p3⟩:=a.new i p hp;have hn:∀b,H b≠none->upd H p o b≠none:=fun b hb=>by
  by_cases z:b=p
  ·subst z;rw[zAG];simp
  ·rw[zAE z];exact hb
 refine⟨⟨a.ext.g,L2.Same.upd a.ext.h p1 o,L2.Same.upd a.ext.in' p2 o,a.ext.old⟩,a.stb,a.tab,by simp[a.len],fun j e k h=>?_,fun j l b h1 h2=>?_,fun j b h=>?_⟩
 ·have hj:j<ρ.length:=by
   have:=(qA3.mp h).1;simpa using this
  by_cases z:i=j
  ·subst z;rw[qAl hj]at h;cases h;exact⟨v,hv,by rw[if_pos rfl];exact w⟩
  ·rw[qAm z]at h;obtain⟨u,h1,h2⟩:=a.at j e k h;exact⟨u,h1,by rw[if_neg (fun q=>z q.symm)];exact h2.upd fun q=>z (a.dis i j p hp q)⟩
 ·have key:∀j b,j≠i->As j b->S b->False:=fun j b hj h1 h2=>by
   rcases hS b h2 with q|⟨_,_,_,q⟩
   ·exact hj (a.dis j i b h1 q)
   ·exact q j h1
  try dsimp only at h1 h2
  by_cases z1:j=i
  ·by_cases z2:l=i
   ·rw[z1,z2]
   ·rw[if_pos z1]at h1;rw[if_neg z2]at h2;exact(key l b z2 h2 h1).elim
  ·by_cases z2:l=i
   ·rw[if_neg z1]at h1;rw[if_pos z2]at h2;exact(key j b z1 h1 h2).elim
   ·rw[if_neg z1]at h1;rw[if_neg z2]at h2;exact a.dis j l b h1 h2
 ·try dsimp only at h
  by_cases z1:j=i
  ·rw[if_pos z1]at h
   rcases hS b h with q|⟨q1,q2,q3,_⟩
   ·obtain⟨n1,n2,n3⟩:=a.new i b q;exact⟨n1,n2,hn b n3⟩
   ·exact⟨q1,q2,hn b q3⟩
  ·rw[if_neg z1]at h;obtain⟨n1,n2,n3⟩:=a.new j b h;exact⟨n1,n2,hn b n3⟩
end
def zE8(mg:Str->Option Value)(E:XK)(G0 H0 S0:Hp)(L:Nat)(r:R Out)(D:Ends):Prop:=match r with
 |none=>False
 |some (.error x)=>∀c da G' H',Ext G0 H0 G' H'->XRep mg x c da G' H'->E c da H'
 |some (.ok (.nx ρ))=>∀σ G H As,Sat G0 H0 S0 σ ρ G H As->D.nx σ H
 |some (.ok (.bk ρ))=>∀σ G H As,Sat G0 H0 S0 σ ρ G H As->D.bk σ H
 |some (.ok (.ct ρ))=>∀σ G H As,Sat G0 H0 S0 σ ρ G H As->D.ct σ H
 |some (.ok (.rt d))=>∀v G H S,Fr G0 H0 G H S->Own G H L S d v->D.rt v H
def DS(mg:Str->Option Value)(E:XK)(L:Nat)(t:TS)(m:SM):Prop:=∀(G0 H0 S0:Hp)(σ:St)(ρ:Ro)(G H:Hp)(As:Nat->Addr->Prop)(D:Ends),Sat G0 H0 S0 σ ρ G H As->zE8 mg E G0 H0 S0 L (m ρ) D->t D σ H
section
variable{mg:Str->Option Value}{E:XK}{L n k l:Nat}{te ta tb:TE}{e ea eb:EM}{t u:TS}{m m':SM}
theorem errS{G0 H0 S0:Hp}{D:Ends}:Err mg E G0 H0 (fun r=>zE8 mg E G0 H0 S0 L r D):=⟨fun h=>h,fun _ h=>h⟩
theorem zDC:DS mg E L zXE Mi.sNil:=fun G0 H0 S0 σ ρ G H As D a p=>p σ G H As a
theorem zAJ(A:DS mg E L t m)(B:DS mg E L u m'):DS mg E L (tSeq t u) (Mi.sSeq m m'):=by
 intro G0 H0 S0 σ ρ G H As D a p;refine A G0 H0 S0 σ ρ G H As _ a ?_;unfold Mi.sSeq at p;cases e:m ρ with
 |none=>rw[e]at p;exact p
 |some r=>
  rw[e]at p;cases r with
  |error x=>exact p
  |ok o=>
   cases o with
   |nx ρ'=>exact fun σ' G' H' As' a'=>B G0 H0 S0 σ' ρ' G' H' As' D a' p
   |rt d=>exact p
   |bk ρ'=>exact p
   |ct ρ'=>exact p
theorem zGQ{tc:TT}{c:TM}(C:DT mg E tc c)(A:DS mg E L t m)(B:DS mg E L u m'):DS mg E L (tIfS tc t u) (Mi.sIf c m m'):=by
 intro G0 H0 S0 σ ρ G H As D a p;obtain⟨J,x,s,w⟩:=a.full;refine C.step (errS.from x) x.in' w p fun b H' _ sH p1=>?_
 cases b with
 |true=>exact A G0 H0 S0 σ ρ G H' As D (a.grow sH) p1
 |false=>exact B G0 H0 S0 σ ρ G H' As D (a.grow sH) p1
theorem whole{G0 H0 S0:Hp}{σ:St}{ρ:Ro}{G H J G1 H1:Hp}{As:Nat->Addr->Prop}{S:Addr->Prop}{d:Dt}{v:V}(a:Sat G0 H0 S0 σ ρ G H As)(s:Same G J)(fr:Fr J H G1 H1 S)(o:Own G1 H1 n S d v)(hn:n<1000)(hd:d.dep<=n)(hk:d.dep<=k) :
  Own G H1 k S d v/\∀b,S b->H b=none/\G b=none/\H1 b≠none:=
 ⟨o.at hd hk hn,fun b hb=>let⟨n1,n2,n3⟩:=fr.new b hb;⟨n1,a.ext.in'.free n1,n3⟩⟩
theorem zAM{i:Nat}(vs:List Nat)(A:DE mg E te e n)(hn:n<1000:=by decide):DS mg E L (tAsg te (zEN i)) (Mi.sSet i n vs e):=by
 intro G0 H0 S0 σ ρ G H As D a p;obtain⟨J,x,s,w⟩:=a.full;unfold Mi.sSet at p;cases ee:e (full ρ)with
 |none=>rw[ee]at p;exact p.elim
 |some r=>
  cases r with
  |error y=>exact A.step (errS.from x) x.in' w p fun d v G1 H1 S e1 fr o p1=>by rw[ee]at e1;cases e1
  |ok d=>
   by_cases hd:d.dep<=n
   ·refine A.step (errS.from x) x.in' w p fun d' v G1 H1 S e1 fr o p1=>?_
    rw[ee]at e1;cases e1;rw[if_pos hd]at p1;obtain⟨q1,q2⟩:=whole (k:=n) a s fr o hn hd hd;exact p1 _ G H1 _ (a.set fr.ext.h q1 q2)
   ·rw[ee]at p;have p':zE8 mg E G0 H0 S0 L (zA2 (e (frz (frzAt vs ρ))) fun d'=>okR (.nx ((frzAt vs ρ).set i (some (d',n))))) D:=by
     have p2:zE8 mg E G0 H0 S0 L (if d.dep<=n then okR (.nx (ρ.set i (some (d,n))))else zA2 (e (frz (frzAt vs ρ))) fun d'=>okR (.nx ((frzAt vs ρ).set i (some (d',n))))) D:=p;rw[if_neg hd]at p2;exact p2
    obtain⟨G1,As1,a1⟩:=Sat.frzAt vs a;refine A.step (errS.from a1.ext) a1.ext.in' a1.frz p' fun d' v G2 H2 S _ fr o p1=>?_
    exact p1 _ G2 H2 _ ((a1.wider fr.ext).put o (fun b hb=>let⟨n1,n2,n3⟩:=fr.new b hb;⟨a1.ext.h.free n1,n2,n3⟩) fun j b _ h1 h2=>(a1.new j b h1).2.2 (fr.new b h2).1)
theorem zD0(vs:List Nat)(A:DE mg E te e n)(hn:n<1000:=by decide):DS mg E L (tRet te) (Mi.sRet L n vs e):=by
 intro G0 H0 S0 σ ρ G H As D a p;obtain⟨J,x,s,w⟩:=a.full;unfold Mi.sRet at p;cases ee:e (full ρ)with
 |none=>rw[ee]at p;exact p.elim
 |some r=>
  cases r with
  |error y=>exact A.step (errS.from x) x.in' w p fun d v G1 H1 S e1 fr o p1=>by rw[ee]at e1;cases e1
  |ok d=>
   by_cases hd:d.dep<=n/\d.dep<=L
   ·refine A.step (errS.from x) x.in' w p fun d' v G1 H1 S e1 fr o p1=>?_
    rw[ee]at e1;cases e1;rw[if_pos hd]at p1;exact p1 v G1 H1 S (Fr.from x fr) (o.at hd.1 hd.2 hn)
   ·rw[ee]at p;have p2:zE8 mg E G0 H0 S0 L (if d.dep<=n/\d.dep<=L then okR (.rt d)else if n=L then zA2 (e (frz (frzAt vs ρ))) fun d'=>okR (.rt d')else none) D:=p;rw[if_neg hd]at p2
    by_cases hl:n=L
    ·rw[if_pos hl]at p2;subst hl;obtain⟨G1,As1,a1⟩:=Sat.frzAt vs a;refine A.step (errS.from a1.ext) a1.ext.in' a1.frz p2 fun d' v G2 H2 S _ fr o p1=>?_
     exact p1 v G2 H2 S (Fr.from a1.ext fr) o
    ·rw[if_neg hl]at p2;exact p2.elim
theorem zE6(i:Nat):DS mg E L (tRet (vM i)) (Mi.sRetV L i):=by
 intro G0 H0 S0 σ ρ G H As D a p;unfold Mi.sRetV at p;cases e1:ρ[i]? with
 |none=>rw[e1]at p;exact p.elim
 |some o=>
  rw[e1]at p;cases o with
  |none=>exact p.elim
  |some sl=>
   obtain⟨d,k⟩:=sl;obtain⟨v,h1,h2⟩:=a.at i d k e1;show vM i σ H D.rt;unfold vM;rw[h1];dsimp only at p;split at p
   ·rename_i hz
    rcases hz with hz|hz|hz
    ·subst hz;exact p v G H (As i) ⟨a.ext,fun b hb=>a.new i b hb⟩ h2
    ·subst hz;obtain⟨s1,s2⟩:=zEI (S:=As i) a.ext.in';refine p v (over G H (As i)) H (fun _=>False) ⟨⟨a.ext.g.trans s1,a.ext.h,s2,fun b hb=>?_⟩,fun _ z=>z.elim⟩ (h2.rep s1 fun b o hb e=>by rw[zEZ hb];exact e);have z:¬As i b:=fun z=>hb (a.new i b z).1
     rw[zCK z];exact a.ext.old b hb
    ·exact p v G H (As i) ⟨a.ext,fun b hb=>a.new i b hb⟩ (h2.at hz.1 hz.2.1 hz.2.2)
   ·exact p.elim
theorem Sat.puts{G0 H0 S0 G H:Hp}{bs:List (Nat×Dt)}{ws:List (Nat×V)}(h:BsRep G bs ws):∀{σ:St}{ρ:Ro}{As:Nat->Addr->Prop},Sat G0 H0 S0 σ ρ G H As->∃As',Sat G0 H0 S0 (zFT σ ws) (zAQ ρ bs) G H As':=by
 induction h with
 |nil=>exact fun a=>⟨_,a⟩
 |cons r _ ih=>exact fun a=>ih (a.put (n:=0) (S:=fun _=>False) r (fun _ z=>z.elim) fun _ _ _ _ z=>z.elim)
theorem zZS(i:Nat)(A:DE mg E te e n)(hn:n<1000:=by decide):DS mg E L (zUX (tML appM (vM i) (zEA te tNil))) (Mi.sApp i n e):=by
 intro G0 H0 S0 σ ρ G H As D a p;obtain⟨J,x,s,w⟩:=a.full;unfold Mi.sApp at p;cases e1:ρ[i]? with
 |none=>rw[e1]at p;exact p.elim
 |some o=>
  rw[e1]at p
  match o,e1,p with
  |none,_,p=>exact p.elim
  |some (.lst ds,k+1),e1,p=>
   obtain⟨v,h1,q,xs,T,rfl,hq,kd⟩:=a.at i _ _ e1;unfold zUX tML vM;rw[h1];refine⟨xs,hq,?_⟩;refine A.step (errS.from x) x.in' w p fun d y G1 H1 S _ fr o p1=>?_
   split at p1
   ·rename_i hz
    obtain⟨q1,q2⟩:=whole (k:=k) a s fr o hn hz.2.1 hz.2.2;refine⟨xs,fr.ext.h _ _ hq,by rw[kd.len];exact L2.big (by lia),?_⟩;have hp:=kd.top;have a1:=a.grow fr.ext.h;have nS:¬S q:=fun z=>(a.new i q hp).2.2 (q2 q z).1
    have ap:∀r b,T r b->S b->False:=fun r b h1 h2=>(a.new i b (kd.sub r b h1)).2.2 (q2 b h2).1
    refine p1 σ G _ _ (a1.store (S:=fun b=>As i b\/S b) hp h1 ⟨q,_,fun r b=>(r<ds.length/\T r b)\/(r=ds.length/\S b),rfl,zAG,⟨by simp[kd.len],fun r d' z g1 g2=>?_,.inl hp,fun r z=>?_,fun r r' b z1 z2=>?_,fun r b z=>?_⟩⟩ fun b z=>?_)
    ·by_cases hr:r<ds.length
     ·rw[qA9 hr]at g1;rw[qA9 (by rw[kd.len];exact hr)]at g2;exact(((kd.own r d' z g1 g2).mono (Same.refl _) fr.ext.h).upd (kd.out r)).sub fun b z=>.inl ⟨hr,z⟩
     ·rw[qAd (by lia)]at g1;rw[qAd (by rw[kd.len];lia),kd.len]at g2;have hq0:r-ds.length=0:=by
       have:=(qA3.mp g1).1;simp at this;lia
      rw[hq0]at g1 g2;simp at g1 g2;subst g1;subst g2;exact(q1.upd nS).sub fun b z=>.inr ⟨by lia,z⟩
    ·rcases z with⟨_,z⟩|⟨_,z⟩
     ·exact kd.out r z
     ·exact nS z
    ·rcases z1 with⟨c1,t1⟩|⟨c1,t1⟩<;>rcases z2 with⟨c2,t2⟩|⟨c2,t2⟩
     ·exact kd.dis r r' b t1 t2
     ·exact(ap r b t1 t2).elim
     ·exact(ap r' b t2 t1).elim
     ·lia
    ·rcases z with⟨_,z⟩|⟨_,z⟩
     ·exact .inl (kd.sub r b z)
     ·exact .inr z
    ·rcases z with z|z
     ·exact .inl z
     ·obtain⟨n1,n2,n3⟩:=q2 b z;exact .inr ⟨a.ext.h.free n1,n2,n3,fun j y=>(a.new j b y).2.2 n1⟩
   ·exact p1.elim
  |some (.lst ds,0),_,p=>exact p.elim
  |some (.non,_),_,p=>exact p.elim
  |some (.bl _,_),_,p=>exact p.elim
  |some (.int _,_),_,p=>exact p.elim
  |some (.str _,_),_,p=>exact p.elim
  |some (.tup _,_),_,p=>exact p.elim
  |some (.scr _,_),_,p=>exact p.elim
  |some (.exc _ _ _,_),_,p=>exact p.elim
  |some (.fn _ _,_),_,p=>exact p.elim
  |some (.dsk _ _,_),_,p=>exact p.elim
  |some (.fnc _,_),_,p=>exact p.elim
  |some (.dtt _ _,_),_,p=>exact p.elim
  |some (.loc _ _,_),_,p=>exact p.elim
  |some (.ins _ _,_),_,p=>exact p.elim
  |some (.dct _,_),_,p=>exact p.elim
theorem Kids.pop{P:(Addr->Prop)->Dt->V->Prop}{S:Addr->Prop}{a:Addr}{ds:List Dt}{xs:List V}{T:Nat->Addr->Prop}(k:Kids P S a ds xs T)(q:Nat) :
  Kids P (fun b=>S b/\¬T q b) a (ds.eraseIdx q) (xs.eraseIdx q) (fun r=>if r<q then T r else T (r+1)):=by
 refine⟨by rw[qF9,qF9,k.len],fun r d x h1 h2=>?_,⟨k.top,k.out q⟩,fun r=>?_,fun r r' b z1 z2=>?_,fun r b z=>?_⟩
 ·rw[List.getElem?_eraseIdx]at h1 h2
  try dsimp only
  by_cases hr:r<q
  ·rw[if_pos hr]at h1 h2 ⊢;exact k.own r d x h1 h2
  ·rw[if_neg hr]at h1 h2 ⊢;exact k.own (r+1) d x h1 h2
 ·try dsimp only
  split
  ·exact k.out _
  ·exact k.out _
 ·try dsimp only at z1 z2
  by_cases h1:r<q<;>by_cases h2:r'<q
  ·rw[if_pos h1]at z1;rw[if_pos h2]at z2;exact k.dis _ _ b z1 z2
  ·rw[if_pos h1]at z1;rw[if_neg h2]at z2;have:=k.dis _ _ b z1 z2;lia
  ·rw[if_neg h1]at z1;rw[if_pos h2]at z2;have:=k.dis _ _ b z1 z2;lia
  ·rw[if_neg h1]at z1;rw[if_neg h2]at z2;have:=k.dis _ _ b z1 z2;lia
 ·try dsimp only at z
  by_cases h1:r<q
  ·rw[if_pos h1]at z;exact⟨k.sub _ b z,fun w=>by have:=k.dis _ _ b z w;lia⟩
  ·rw[if_neg h1]at z;exact⟨k.sub _ b z,fun w=>by have:=k.dis _ _ b z w;lia⟩
theorem zYI{G H:Hp}{p:Addr}{o:HO}{S:Addr->Prop}{a:Addr}{ds:List Dt}{xs:List V}{T:Nat->Addr->Prop}(k:Kids (Own G H n) S a ds xs T)(hp:∀q,¬T q p):Kids (Own G (upd H p o) n) S a ds xs T:=
 ⟨k.len,fun q d x h1 h2=>(k.own q d x h1 h2).upd (hp q),k.top,k.out,k.dis,k.sub⟩
theorem zMN(j i:Nat)(A:DE mg E te e n):DS mg E L (tAsg (tML popM (vM i) (zEA te tNil)) (zEN j)) (Mi.sPop j i e):=by
 intro G0 H0 S0 σ ρ G H As D a p;obtain⟨J,x,s,w⟩:=a.full;unfold Mi.sPop at p;cases e1:ρ[i]? with
 |none=>rw[e1]at p;exact p.elim
 |some o=>
  rw[e1]at p
  match o,e1,p with
  |none,_,p=>exact p.elim
  |some (.lst ds,k+1),e1,p=>
   obtain⟨v,h1,q,xs,T,rfl,hq,kd⟩:=a.at i _ _ e1;unfold tAsg tML vM;rw[h1];refine⟨xs,hq,?_⟩;refine(zAS A).step (errS.from x) x.in' w p fun d y G1 H1 S _ fr o p1=>?_
   cases d with
   |int z=>
    cases(show y=.int z from o)
    dsimp only at p1;cases ei:Mi.ixA ds.length z with
    |none=>rw[ei]at p1;exact p1.elim
    |some c=>
     rw[ei]at p1;dsimp only at p1;cases ec:ds[c]? with
     |none=>rw[ec]at p1;exact p1.elim
     |some dc=>
      rw[ec]at p1;dsimp only at p1;split at p1
      ·rename_i hz
       rw[zPN]at ei;obtain⟨g1,g2,g3,g4⟩:=zL1 ei;have hc:c<xs.length:=by rw[kd.len];exact g2
       have hx:xs[c]?=some xs[c]:=qA5 hc;refine⟨xs,c,xs[c],fr.ext.h _ _ hq,⟨by lia,by lia⟩,by rw[kd.len];exact g1,hx,?_⟩;have a1:=a.grow fr.ext.h;have kd1:Kids (Own G H1 k) (As i) q ds xs T:=kd.imp (fun _ _ _ _ w=>w.mono (Same.refl _) fr.ext.h) fun _ z=>z
       have a2:=a1.store (o:=.lst (xs.eraseIdx c)) (n:=k+1) (d:=.lst (ds.eraseIdx c)) (S:=fun b=>As i b/\¬T c b) kd.top h1 ⟨q,_,_,rfl,zAG,zYI (kd1.pop c) fun r=>by split<;>exact kd.out _⟩ fun b z=>.inl z.1
       refine p1 _ G _ _ (a2.put (S:=T c) ((kd1.own c dc _ ec hx).upd (kd.out c)) (fun b hb=>?_) fun l b hl z1 z2=>?_)
       ·obtain⟨n1,n2,n3⟩:=a1.new i b (kd.sub c b hb);refine⟨n1,n2,?_⟩;rw[zAE (fun z:b=q=>kd.out c (z▸hb))];exact n3
       ·try dsimp only at z1
        by_cases z:l=i
        ·rw[if_pos z]at z1;exact z1.2 z2
        ·rw[if_neg z]at z1;exact z (a.dis l i b z1 (kd.sub c b z2))
      ·exact p1.elim
   |_=>exact p1.elim
  |some (.lst ds,0),_,p=>exact p.elim
  |some (.non,_),_,p=>exact p.elim
  |some (.bl _,_),_,p=>exact p.elim
  |some (.int _,_),_,p=>exact p.elim
  |some (.str _,_),_,p=>exact p.elim
  |some (.tup _,_),_,p=>exact p.elim
  |some (.scr _,_),_,p=>exact p.elim
  |some (.exc _ _ _,_),_,p=>exact p.elim
  |some (.fn _ _,_),_,p=>exact p.elim
  |some (.dsk _ _,_),_,p=>exact p.elim
  |some (.fnc _,_),_,p=>exact p.elim
  |some (.dtt _ _,_),_,p=>exact p.elim
  |some (.loc _ _,_),_,p=>exact p.elim
  |some (.ins _ _,_),_,p=>exact p.elim
  |some (.dct _,_),_,p=>exact p.elim
end
end
section
variable[Kc]{mg:Str->Option Value}{E:XK}{L n k l:Nat}{te ta tb:TE}{e ea eb:EM}{t u:TS}{m m':SM}
theorem Kids.set{G H:Hp}{S:Addr->Prop}{a p:Addr}{ds:List Dt}{xs:List V}{T:Nat->Addr->Prop}{S':Addr->Prop}{d:Dt}{v:V}{o:HO}(k:Kids (Own G H n) S a ds xs T)(q:Nat)(w:Own G (upd H p o) n S' d v)(hp:∀r,r≠q->¬T r p)(ha:¬S' a)
  (hd:∀r b,r≠q->T r b->S' b->False):Kids (Own G (upd H p o) n) (fun b=>S b\/S' b) a (ds.set q d) (xs.set q v) (fun r b=>if r=q then S' b else T r b):=by
 refine⟨by simp[k.len],fun r d' x h1 h2=>?_,.inl k.top,fun r=>?_,fun r r' b z1 z2=>?_,fun r b z=>?_⟩
 ·by_cases z:q=r
  ·subst z;have h:q<ds.length:=by
    have:=(qA3.mp h1).1;simpa using this
   rw[qAl h]at h1;rw[qAl (by rw[k.len];exact h)]at h2;cases h1;cases h2;exact w.sub fun b hb=>by rw[if_pos rfl];exact hb
  ·rw[qAm z]at h1 h2;exact((k.own r d' x h1 h2).upd (hp r fun y=>z y.symm)).sub fun b hb=>by rw[if_neg (fun y=>z y.symm)];exact hb
 ·try dsimp only
  split
  ·exact ha
  ·exact k.out _
 ·try dsimp only at z1 z2
  by_cases h1:r=q<;>by_cases h2:r'=q
  ·rw[h1,h2]
  ·rw[if_pos h1]at z1;rw[if_neg h2]at z2;exact(hd r' b h2 z2 z1).elim
  ·rw[if_neg h1]at z1;rw[if_pos h2]at z2;exact(hd r b h1 z1 z2).elim
  ·rw[if_neg h1]at z1;rw[if_neg h2]at z2;exact k.dis _ _ b z1 z2
 ·try dsimp only at z
  by_cases h1:r=q
  ·rw[if_pos h1]at z;exact .inr z
  ·rw[if_neg h1]at z;exact .inl (k.sub _ b z)
theorem zF1(i:Nat){n1:Nat}{t1 t2:TE}{e1 e2:EM}(A:DE mg E t1 e1 n1)(B:DE mg E t2 e2 n)(hn:n<1000:=by decide):DS mg E L (tAsg t2 (gSub (vM i) t1 setM)) (Mi.sItem i n e1 e2):=by
 intro G0 H0 S0 σ ρ G H As D a p;obtain⟨J,x,s,w⟩:=a.full;refine B.step (errS.from x) x.in' w p fun d y G1 H1 S _ fr o p1=>?_
 cases er:ρ[i]? with
 |none=>rw[er]at p1;exact p1.elim
 |some sl=>
  rw[er]at p1
  match sl,er,p1 with
  |none,_,p=>exact p.elim
  |some (.lst ds,k+1),er,p1=>
   obtain⟨v,h1,q,xs,T,rfl,hq,kd⟩:=a.at i _ _ er;unfold gSub vM;rw[h1];have x1:Ext J H J H1:=Ext.same x.in' fr.ext.h;refine(zAS A).step (errS.from (x.trans x1)) x1.in' w p1 fun z u G2 H2 S2 _ fr2 o2 p2=>?_
   cases z with
   |int z=>
    cases(show u=.int z from o2)
    try dsimp only at p2
    cases ei:Mi.ixA ds.length z with
    |none=>rw[ei]at p2;exact p2.elim
    |some c=>
     rw[ei]at p2
     try dsimp only at p2
     split at p2
     ·rename_i hz
      rw[zPN]at ei;obtain⟨q1,q2⟩:=whole (k:=k) a s fr o hn hz.1 hz.2;have sH:=fr.ext.h.trans fr2.ext.h;refine⟨xs,c,sH _ _ hq,by rw[kd.len];exact ei,?_⟩;have a1:=a.grow sH;have nS:¬S q:=fun z=>(a.new i q kd.top).2.2 (q2 q z).1
      have kd1:Kids (Own G H2 k) (As i) q ds xs T:=kd.imp (fun _ _ _ _ w=>w.mono (Same.refl _) sH) fun _ z=>z
      refine p2 σ G _ _ (a1.store (S:=fun b=>As i b\/S b) kd.top h1 ⟨q,_,_,rfl,zAG,kd1.set c ((q1.mono (Same.refl _) fr2.ext.h).upd nS) (fun r _=>kd.out r) nS fun r b _ z1 z2=>(a.new i b (kd.sub r b z1)).2.2 (q2 b z2).1⟩ fun b z=>?_)
      rcases z with z|z
      ·exact .inl z
      ·obtain⟨n1,n2,n3⟩:=q2 b z;exact .inr ⟨a.ext.h.free n1,n2,fr2.ext.h.some n3,fun j y=>(a.new j b y).2.2 n1⟩
     ·exact p2.elim
   |_=>exact p2.elim
  |some (.lst ds,0),_,p=>exact p.elim
  |some (.non,_),_,p=>exact p.elim
  |some (.bl _,_),_,p=>exact p.elim
  |some (.int _,_),_,p=>exact p.elim
  |some (.str _,_),_,p=>exact p.elim
  |some (.tup _,_),_,p=>exact p.elim
  |some (.scr _,_),_,p=>exact p.elim
  |some (.exc _ _ _,_),_,p=>exact p.elim
  |some (.fn _ _,_),_,p=>exact p.elim
  |some (.dsk _ _,_),_,p=>exact p.elim
  |some (.fnc _,_),_,p=>exact p.elim
  |some (.dtt _ _,_),_,p=>exact p.elim
  |some (.loc _ _,_),_,p=>exact p.elim
  |some (.ins _ _,_),_,p=>exact p.elim
  |some (.dct _,_),_,p=>exact p.elim
theorem zUE{G0 H0 S0:Hp}{D:Ends}{g:TG}{tg:Tg}{J:It}{ds:List Dt}{GJ:Hp}(hT:TgOk g tg)(B:DS mg E L t m)(io:ItOk J GJ ds){σ:St}{ρ:Ro}{G H:Hp}{As:Nat->Addr->Prop}(a:Sat G0 H0 S0 σ ρ G H As)(sJ:Same GJ G)
  (p:zE8 mg E G0 H0 S0 L (Mi.forGo tg m ds ρ) D):zRD g t D σ J H:=by
 refine⟨fun i c σ H=>c=ds.length-i/\i<=ds.length/\∃ρ G As,Sat G0 H0 S0 σ ρ G H As/\Same GJ G/\zE8 mg E G0 H0 S0 L (Mi.forGo tg m (ds.drop i) ρ) D,
  ⟨_,rfl,qAu _,ρ,G,As,a,sJ,by rw[qCv];exact p⟩,?_⟩
 rintro i c σ H ⟨rfl,hi,ρ,G,As,a,sJ,p⟩
 obtain⟨j1,j2,j3⟩:=io i G H sJ a.ext.in';by_cases hlt:i<ds.length
 ·refine .inr ⟨j1 hlt,fun σ' H'=>i+1<=ds.length/\∃ρ G As,Sat G0 H0 S0 σ' ρ G H' As/\Same GJ G/\zE8 mg E G0 H0 S0 L (Mi.forGo tg m (ds.drop (i+1)) ρ) D,fun σ' H' q=>⟨ds.length-(i+1),by lia,rfl,q⟩,fun x H2 hy=>?_⟩;have hd:ds[i]?=some ds[i]:=qA5 hlt;obtain⟨G2,x2,r2⟩:=j3 x H2 ds[i] hd hy;rw[qCx hlt,Mi.forGo]at p;cases eb:zAO tg ds[i]with
  |none=>rw[eb]at p;exact p.elim
  |some bs=>
   rw[eb]at p
   try dsimp only at p
   refine hT G2 H2 _ _ x bs _ x2.in' r2 eb fun ws hb=>?_
   obtain⟨As2,a2⟩:=Sat.puts hb (a.wider x2);have a3:Sat G0 H0 GJ (zFT σ ws) (zAQ ρ bs) G2 H2 As2:=⟨a2.ext,sJ.trans x2.g,a2.tab,a2.len,a2.at,a2.dis,a2.new⟩;have key:∀(S1:Hp),Same S0 S1->Same GJ S1->Sat G0 H0 S1 (zFT σ ws) (zAQ ρ bs) G2 H2 As2->t { D with nx:=fun σ' H'=>i+1<=ds.length/\∃ρ G As,Sat G0 H0 S0 σ' ρ G H' As/\Same GJ G/\zE8 mg E G0 H0 S0 L (Mi.forGo tg m (ds.drop (i+1)) ρ) D,ct:=fun σ' H'=>i+1<=ds.length/\∃ρ G As,Sat G0 H0 S0 σ' ρ G H' As/\Same GJ G/\zE8 mg E G0 H0 S0 L (Mi.forGo tg m (ds.drop (i+1)) ρ) D,bk:=D.nx } (zFT σ ws) H2:=by
    intro S1 s1 s2 a4;refine B G0 H0 S1 _ _ G2 H2 As2 _ a4 ?_;have back:∀{σ':St}{ρ':Ro}{G' H':Hp}{As':Nat->Addr->Prop},Sat G0 H0 S1 σ' ρ' G' H' As'->Sat G0 H0 S0 σ' ρ' G' H' As'/\Same GJ G':=fun a5=>⟨⟨a5.ext,s1.trans a5.stb,a5.tab,a5.len,a5.at,a5.dis,a5.new⟩,s2.trans a5.stb⟩
    cases em:m (zAQ ρ bs)with
    |none=>rw[em]at p;exact p
    |some r=>
     rw[em]at p;cases r with
     |error y=>exact p
     |ok o=>
      cases o with
      |nx ρ'=>exact fun σ' G' H' As' a5=>⟨hlt,ρ',G',As',(back a5).1,(back a5).2,p⟩
      |ct ρ'=>exact fun σ' G' H' As' a5=>⟨hlt,ρ',G',As',(back a5).1,(back a5).2,p⟩
      |bk ρ'=>exact fun σ' G' H' As' a5=>p σ' G' H' As' (back a5).1
      |rt d=>exact p
   exact key G2 a2.stb (sJ.trans x2.g) ⟨a2.ext,Same.refl _,a2.tab,a2.len,a2.at,a2.dis,a2.new⟩
 ·have e:i=ds.length:=by lia
  subst e;rw[qGg,Mi.forGo]at p;exact .inl ⟨j2 (qA6 _),p σ G H As a⟩
theorem zGA{wi:TI}{it:IM}{g:TG}{tg:Tg}(vs:List Nat){ind:Bool}(I:DI mg E wi it ind)(hT:TgOk g tg)(B:DS mg E L t m):DS mg E L (fun D σ H=>wi σ H (zRD g t D σ)) (Mi.sFor vs it tg m):=by
 intro G0 H0 S0 σ ρ G H As D a p;obtain⟨G1,As1,a1⟩:=Sat.frzAt vs a;refine I.step (errS.from a1.ext) a1.ext.in' a1.frz p fun ds J G2 H2 _ x2 io p1=>?_
 refine zUE hT B io (a1.wider x2) ?_ p1;unfold zR0;split
 ·exact fun b o e=>by cases e
 ·exact Same.refl _
theorem zF2{wi:TI}{it:IM}{i:Nat}(I:DI mg E wi it true)(B:DS mg E L t m):DS mg E L (fun D σ H=>wi σ H (zRD (zEN i) t D σ)) (Mi.sForR it i m):=by
 intro G0 H0 S0 σ ρ G H As D a p;obtain⟨J,x,s,w⟩:=a.full;refine I.step (errS.from x) x.in' w p fun ds J G2 H2 _ x2 io p1=>?_
 exact zUE (zCB i) B io (a.grow x2.h) (fun b o e=>by cases e) p1
theorem dz(A:DE mg E te e 0):DE mg E te e 0:=A
theorem zHJ{P N:Nat}{vs:List V}{H:Hp}{Q:VK}{E:XK}(h:spM mg L (Mi.runF P N m) vs H Q E):vs.length=P:=by
 obtain⟨G,ds,_,s,r,p⟩:=h;rw[r.length];unfold Mi.runF at p;split at p
 ·rename_i h;exact h
 ·exact p.elim
theorem zCC{P:Nat}{N:List Str}{vs:List V}{H:Hp}{Q:VK}(B:DS mg E L t m)(h:spM mg L (Mi.runF P N.length m) vs H Q E):t { nx:=fun _ H'=>Q .non H',rt:=Q } (L2.start N vs) H:=by
 obtain⟨G,ds,tb,s,r,p⟩:=h;unfold Mi.runF at p;split at p
 ·refine B G H G _ (Mi.startO N.length ds) G H (fun _ _=>False) _ ⟨Ext.refl s,Same.refl _,tb,?_,fun i d n e=>?_,fun _ _ _ z=>z.elim,fun _ _ z=>z.elim⟩ ?_
  ·unfold Mi.startO L2.start;simp[r.length]
  ·unfold Mi.startO at e
   by_cases hi:i<ds.length
   ·rw[qA9 (by simpa using hi),qA8]at e;cases e1:ds[i]? with
    |none=>rw[e1]at e;cases e
    |some d'=>
     rw[e1]at e;cases e;have hv:vs[i]?=some (vs[i]'(by rw[r.length];exact hi)):=by simp
     refine⟨vs[i]'(by rw[r.length];exact hi),?_,zBI r e1 hv⟩;unfold L2.start;rw[qA9 (by simpa[r.length]using hi),qA8,hv];rfl
   ·rw[qAd (by simpa using hi),qBj]at e
    split at e<;>cases e
  ·cases em:m (Mi.startO N.length ds)with
   |none=>rw[em]at p;exact p
   |some r=>
    rw[em]at p;cases r with
    |error y=>exact p
    |ok o=>
     cases o with
     |nx ρ'=>exact fun σ' G' H' As' a=>PostE.val (d:=.non) p a.ext rfl rfl
     |rt d=>exact p
     |bk ρ'=>exact p.elim
     |ct ρ'=>exact p.elim
 ·exact p.elim
end
end L3
namespace L2
open PySem PySem.Spec PyProof.Rows
section
variable{X:Cx}
end
section
variable{X:Cx}{e m1:Expr}{te ts:TE}{pos p2:Pos}
end
section
variable{prog:qIy}{w:World}{A:qJ2}{E:Value->qIv->Prop}{s:qIv}
end
section
variable{X:Cx}{pins:List (Addr×Obj)}{σ:List (Option V)}{H:Hp}{s:qIv}
end
section
variable{prog:qIy}{w:World}{A:qJ2}{E:Value->qIv->Prop}{s:qIv}
end
section
variable{X:Cx}{pins:List (Addr×Obj)}{σ:List (Option V)}{H:Hp}{s:qIv}
end
section
variable{X:Cx}
variable{o e:Expr}{es:List Expr}{to:TE}{t:TA}{name:Str}{apos cpos:Pos}{T id:String}{r:V->List V->Hp->VK->Prop}
end
section
variable{X:Cx}{pins:List (Addr×Obj)}{σ:List (Option V)}{H:Hp}{s:qIv}
end
section
variable{X:Cx}
end
section
variable{X:Cx}{e m1:Expr}{te ts:TE}{pos p2:Pos}
end
section
variable{X:Cx}
end
section
variable{X:Cx}{tg:Expr}
end
section
variable{prog:qIy}{w:World}{A:qJ2}{E:Value->qIv->Prop}{s:qIv}
end
section
variable{X:Cx}
end
section
variable{prog:qIy}{w:World}{A:qJ2}{E:Value->qIv->Prop}{s:qIv}
end
section
variable{X:Cx}{o:Expr}{td:TE}{p apos cpos pos:Pos}
end
section
variable{prog:qIy}{w:World}{A:qJ2}{E:Value->qIv->Prop}{s:qIv}
end
section
variable{X:Cx}{pins:List (Addr×Obj)}{σ:List (Option V)}{H:Hp}{s:qIv}
end
section
variable{prog:qIy}{w:World}{A:qJ2}{E:Value->qIv->Prop}{s:qIv}
end
section
variable{X:Cx}{K:qA1}
end
section
variable{X:Cx}{e m1:Expr}{te ts:TE}{pos p2:Pos}
end
section
variable{X:Cx}{pins:List (Addr×Obj)}{σ:List (Option V)}{H:Hp}{s:qIv}
end
section
variable{X:Cx}
end
end L2
namespace L3
open PySem PySem.Spec
open L2 hiding Rep RepL
open Mi (Dt Xn R okR zA2 optR zA0 zA4 zA9 zA7 zA8 Rh Sl Ro EM TM AM FM IM SM OM Tg Out zAO zAN zAQ full frz frz1 frzAt)
section
variable[Kc]{mg:Str->Option Value}{E:XK}{L n k l:Nat}{te ta tb:TE}{e ea eb:EM}{t u:TS}{m m':SM}
theorem zUM{f:List Dt->Option Dt}{g:Int->Int->Int}{r:List V->Hp->VK->Prop}(hr:∀i j H Q,Q (.int (g i j)) H->r [.int i,.int j] H Q)(hf:∀i j,f [.int i,.int j]=some (.int (g i j)))(hn:∀ds,(∀i j,ds≠[.int i,.int j])->f ds=none):CBi r f n:=by
 intro mg E G H ds vs Q s h p;by_cases hd:∃i j,ds=[.int i,.int j]
 ·obtain⟨i,j,rfl⟩:=hd;obtain⟨x,y,rfl,hx,hy⟩:=zXS h
  cases(show x=.int i from hx)
  cases(show y=.int j from hy)
  rw[hf]at p;exact hr i j H Q (PostE.val p (Ext.refl s) rfl rfl)
 ·rw[hn ds fun i j e=>hd ⟨i,j,e⟩]at p;exact p.elim
theorem zLQ{f:List Dt->Option Dt}(h1:f []=none)(h2:∀x,f [x]=none)(h3:∀x y z r,f (x::y::z::r)=none)(h4:∀x y,(∀i j,[x,y]≠[.int i,.int j])->f [x,y]=none):∀ds,(∀i j,ds≠[.int i,.int j])->f ds=none:=by
 intro ds h
 match ds,h with
 |[],_=>exact h1
 |[x],_=>exact h2 x
 |[x,y],h=>exact h4 x y h
 |x::y::z::r,_=>exact h3 x y z r
theorem zUN:CBi (fun xs H Q=>∃i j,xs=[.int i,.int j]/\Q (.int (if j>i then j else i)) H) Mi.maxD n:=
 zUM (g:=fun i j=>if j>i then j else i) (fun i j H Q q=>⟨i,j,rfl,q⟩) (fun _ _=>rfl) (zLQ rfl (fun x=>by cases x<;>rfl) (fun x y z r=>by cases x<;>cases y<;>rfl) (fun x y h=>by cases x<;>cases y<;>first|rfl|exact absurd rfl (h _ _)))
theorem zaB:CBi (fun xs H Q=>∃i j,xs=[.int i,.int j]/\Q (.int (if j<i then j else i)) H) Mi.minD n:=
 zUM (g:=fun i j=>if j<i then j else i) (fun i j H Q q=>⟨i,j,rfl,q⟩) (fun _ _=>rfl) (zLQ rfl (fun x=>by cases x<;>rfl) (fun x y z r=>by cases x<;>cases y<;>rfl) (fun x y h=>by cases x<;>cases y<;>first|rfl|exact absurd rfl (h _ _)))
def DO(mg:Str->Option Value)(E:XK)(t:TO)(m:OM):Prop:=∀(G H:Hp)(σ:St)(ρ:Rh)(Q:Option Int->Hp->Prop),Same G H->View G σ ρ ->
 (match m ρ with
  |none=>False
  |some (.error x)=>∀c da G' H',Ext G H G' H'->XRep mg x c da G' H'->E c da H'
  |some (.ok o)=>∀H',Same H H'->Q o H')->t σ H Q
theorem DO.step{β:Type}{t:TO}{m:OM}(D:DO mg E t m){G H:Hp}{σ:St}{ρ:Rh}{Q:Option Int->Hp->Prop}{P:R β->Prop}{f:Option Int->R β}(hE:Err mg E G H P)(s:Same G H)(w:View G σ ρ)(p:P (zA2 (m ρ) f))
  (h:∀b H',m ρ=okR b->Same H H'->P (f b)->Q b H'):t σ H Q:=by
 refine D G H σ ρ Q s w ?_;cases e:m ρ with
 |none=>rw[e]at p;exact hE.no p
 |some r=>
  rw[e]at p;cases r with
  |error x=>exact hE.er x p
  |ok b=>exact fun H' sH=>h b H' e sH p
theorem zWM:DO mg E zOC Mi.oNo:=fun G H σ ρ Q s w p=>p H (Same.refl _)
theorem do_e(A:DE mg E te e k):DO mg E (zXD te) (Mi.oE e):=by
 intro G H σ ρ Q s w p;unfold Mi.oE at p;refine(zAS A).step (P:=fun r=>match r with
  |none=>False
  |some (.error x)=>∀c da G' H',Ext G H G' H'->XRep mg x c da G' H'->E c da H'
  |some (.ok o)=>∀H',Same H H'->Q o H') ⟨fun h=>h,fun _ h=>h⟩ s w p fun d v G1 H1 S _ fr o p1=>?_
 cases d with
 |int i=>exact⟨i,o,p1 H1 fr.ext.h⟩
 |_=>exact p1.elim
theorem zMR(n d:Nat)(o:Option Int):Mi.cutIx n d o=HT.sIx n d o:=by cases o<;>rfl
theorem zJ4{G:Hp}:∀{ds:List Dt}{xs:List V}(i:Nat),RepL G ds xs->RepL G (ds.drop i) (xs.drop i)
 |ds,xs,0,r=>by simpa using r
 |[],xs,i+1,r=>by cases(show xs=[] from r);exact rfl
 |d::ds,xs,i+1,r=>by
  obtain⟨x,q,rfl,a,b⟩:=r;exact zJ4 i b
theorem zJ3{G:Hp}:∀{ds:List Dt}{xs:List V}(i:Nat),RepL G ds xs->RepL G (ds.take i) (xs.take i)
 |ds,xs,0,r=>by simp;exact rfl
 |[],xs,i+1,r=>by cases(show xs=[] from r);exact rfl
 |d::ds,xs,i+1,r=>by
  obtain⟨x,q,rfl,a,b⟩:=r;exact⟨x,_,rfl,a,zJ3 i b⟩
theorem zRR{G:Hp}{ds:List Dt}{xs:List V}(r:RepL G ds xs)(lo hi:Option Int):RepL G (Mi.cutA ds lo hi) (cutV xs lo hi):=by
 unfold Mi.cutA cutV;rw[zMR,zMR,r.length];exact zJ3 _ (zJ4 _ r)
def RSl(r:V->Option Int->Option Int->Hp->VK->Prop)(n:Nat):Prop:=∀(mg:Str->Option Value)(E:XK)(G H:Hp)(d:Dt)(x:V)(lo hi:Option Int)(Q:VK),Same G H->Rep G d x->PostE mg E G H n (optR (Mi.slD d lo hi)) Q->r x lo hi H Q
theorem za2{r:V->Option Int->Option Int->Hp->VK->Prop}{tl th:TO}{ml mh:OM}(hr:RSl r n)(A:DE mg E te e k)(B:DO mg E tl ml)(C:DO mg E th mh):DE mg E (tSl r te tl th) (Mi.eSl e ml mh) n:=by
 intro G H σ ρ Q s w p;refine(zAS A).step errE s w p fun d v G1 H1 S _ fr o p1=>?_
 refine B.step (errE.from fr.ext) fr.ext.in' (w.mono fr.ext.g) p1 fun lo H2 _ s2 p2=>?_
 have x2:=fr.ext.trans (Ext.same fr.ext.in' s2);refine C.step (errE.from x2) x2.in' (w.mono fr.ext.g) p2 fun hi H3 _ s3 p3=>?_
 have x3:=x2.trans (Ext.same x2.in' s3);exact hr mg E G1 H3 d v lo hi Q x3.in' o (PostE.from p3 x3)
end
section
variable[Kc]{mg:Str->Option Value}{E:XK}{L n k l:Nat}{te ta tb:TE}{e ea eb ma:EM}{t:TA}{m:AM}
theorem rs_u:RSl (rSlU Kc.K) 1:=by
 intro mg E G H d x lo hi Q s h p;cases d with
 |lst ds=>
  obtain⟨a,xs,rfl,ha,r⟩:=h;exact⟨xs,SqL.of (s _ _ ha),fun q hq=>PostE.lst p (Ext.refl s) (zRR r lo hi) hq⟩
 |str z=>
  cases(show x=.str z from h)
  rw[Mi.slD]at p;by_cases hz:z.length<=100000
  ·rw[if_pos hz]at p;exact⟨big' hz,PostE.val p (Ext.refl s) rfl rfl⟩
  ·rw[if_neg hz]at p;exact p.elim
 |_=>exact p.elim
theorem zT8{tl th:TO}{ml mh:OM}(A:DE mg E te e k)(B:DO mg E tl ml)(C:DO mg E th mh):DE mg E (tSl (rSlU Kc.K) te tl th) (Mi.eSl e ml mh) 1:=za2 rs_u A B C
theorem zZB{G:Hp}(z:Str):ItOk (Its z) G (Mi.signsD z):=by
 intro i G1 H1 s1 s2;have hl:(Mi.signsD z).length=z.cps.size:=by simp[Mi.signsD]
 refine⟨fun hi=>by rw[hl]at hi;exact hi,fun hi=>by rw[hl]at hi;exact hi,fun x H2 d hd hy=>?_⟩;obtain⟨rfl,c,hc,rfl⟩:=hy;refine⟨G1,Ext.refl s2,?_⟩;unfold Mi.signsD at hd;rw[qA8]at hd;have hc':z.cps.toList[i]?=some c:=by simpa using hc
 rw[hc']at hd;cases hd;rfl
theorem zGB(A:DE mg E ta ma k):DI mg E (iAny Kc.K ta) (Mi.iSq ma) false:=by
 intro G H σ ρ Q s w p;refine(zAS A).step errI s w p fun d v G1 H1 S _ fr o p1=>?_
 cases d with
 |lst ds=>
  obtain⟨a,xs,rfl,ha,r⟩:=o;exact .inl ⟨⟨xs,SqL.of (fr.ext.in' _ _ ha)⟩,p1 _ G1 H1 fr.ext (zUB (SqL.of ha) r)⟩
 |tup ds=>
  obtain⟨a,xs,rfl,ha,r⟩:=o;exact .inr ⟨⟨xs,SqT.of (fr.ext.in' _ _ ha)⟩,p1 _ G1 H1 fr.ext (zUA (SqT.of ha) r)⟩
 |scr ns=>
  obtain⟨a,rfl,ha⟩:=o;rcases ha.old with ha|ha
  ·exact .inl ⟨⟨_,fr.ext.in'.seq ha⟩,p1 _ G1 H1 fr.ext (zUB ha (zCD ns))⟩
  ·exact .inr ⟨⟨_,zIY fr.ext.in' ha⟩,p1 _ G1 H1 fr.ext (zUA ha (zCD ns))⟩
 |str z=>
  cases(show v=.str z from o)
  exact p1 _ G1 H1 fr.ext (zZB z)
 |_=>exact p1.elim
end
end L3
namespace L2
open PySem PySem.Spec PyProof.Rows
section
variable{X:Cx}
noncomputable def zEC(z:Str):List V:=z.cps.toList.map fun c=>.str ⟨#[c]⟩
end
section
variable{X:Cx}{K:qA1}
end
end L2
namespace L2
open PySem PySem.Spec
section
variable{X:Cx}
end
end L2
namespace L2
open PySem
end L2
namespace L3
open PySem PySem.Spec
open L2 hiding Rep RepL
open Mi (Dt FM okR)
def sp0(K:qA1)(mg:Str->Option Value)(L:Nat)(f:FM):Sp:=fun vs H Q _=>@spM ⟨K⟩ mg L f vs H Q E0
end L3
namespace Mi
open PySem
def noE{α:Type}(r:R α):R α:=match r with
 |some (.ok a)=>okR a
 |_=>none
def eCallN(f:FM)(am:AM):EM:=fun ρ=>zA2 (am ρ) fun ds=>noE (f ds)
def eMkX(c f:Str)(am:AM):EM:=fun ρ=>zA2 (am ρ) fun ds=>match ds with
 |[d]=>okR (.exc c f d)
 |_=>none
def zTX(c f:Str)(am:AM):SM:=fun r=>zA2 (am (full r)) fun ds=>match ds with
 |[d]=>some (.error ⟨c,f,d⟩)
 |_=>none
def sRaise0(c:Str)(am:AM):SM:=fun r=>zA2 (am (full r)) fun ds=>@ite _ (ds.length<=1000) (qA2 _) (some (.error ⟨c,"",.non⟩)) none
def eAtX(hs:List Str)(f:Str)(a:EM):EM:=fun ρ=>zA2 (a ρ) fun d=>match d with
 |.exc c g x=>if c∈hs/\g=f then okR x else none
 |_=>none
def eIsX(ys ns:List Str)(a:EM):EM:=fun ρ=>zA2 (a ρ) fun d=>match d with
 |.exc c _ _=>if c∈ys then okR (.bl true)else if c∈ns then okR (.bl false)else none
 |_=>none
noncomputable def zZI(i:Nat):Out->Out
 |.nx r=>.nx (r.set i none)
 |.rt d=>.rt d
 |.bk r=>.bk (r.set i none)
 |.ct r=>.ct (r.set i none)
end Mi
namespace L3
open PySem PySem.Spec
open L2 hiding Rep RepL
open Mi (Dt Xn R okR zA2 optR zA0 zA4 zA9 zA7 zA8 Rh Sl Ro EM TM AM FM IM SM OM Tg Out zAO zAN zAQ full frz frz1 frzAt)
section
variable[Kc]{mg:Str->Option Value}{E:XK}{L n k l:Nat}{te ta tb:TE}{e ea eb ma:EM}{t:TA}{m:AM}
theorem zT9{f:FM}(A:DA mg E t m 0):DE mg E (zEB (spM mg n f) [] E0 t) (Mi.eCallN f m) n:=by
 intro G H σ ρ Q s w p;refine A.step errE s w p fun ds vs G1 H1 S T _ fr o p1=>?_
 refine⟨G1,ds,w.tab.trans fr.ext.g,fr.ext.in',by rw[qBu];exact o.repL,?_⟩;have p2:=PostE.from p1 fr.ext;cases e:f ds with
 |none=>rw[e]at p2;exact p2
 |some r=>
  rw[e]at p2;cases r with
  |error x=>exact p2.elim
  |ok d=>exact p2
def spInit(K:qA1)(f:Str):Sp:=fun vs H Q _=>∃e C y,vs=[.ref e,y]/\H e=some (xn e (.ref C) none)/\PySem.W.xcIn K C=true/\XSet K C f/\∀d,H d=none->d≠e->Q .non (upd (upd H d (.xd [(f,y)])) e (xn e (.ref C) (some d)))
end
section
variable{K:qA1}{C D:Addr}{dd:Option Addr}{cd:ClassData}{sl:Array (Option Value)}{b:Bool}
def xcD(C:Addr)(cd:ClassData)(sl:Array (Option Value)):Bool:=match cd.mro,sl.toList with
 |.ref C'::bm,[_,_,_,_,some (.builtin n),_]=>C'==C && !cd.hasDel&&PySem.W.excTail bm&&n == "ValueError.__new__" && cd.hasDict
 |_,_=>false
theorem zO2(h:K.lookup C=some ⟨.type "type",dd,.cls cd,sl⟩)(h':xcD C cd sl=true):PySem.W.xcIn K C=true:=by
 unfold PySem.W.xcIn;rw[h];exact h'
end
structure XCls(K:qA1)(mg:Str->Option Value)(c:Str)(C:Addr):Prop where
 cl:clK K c=some C
 gm:mg c=some (.ref C)
 is:Xc.XIs K C
theorem za7{K:qA1}{c:Str}{C:Addr}(h:qBg K qJ1 c=some (some (.ref C))):clK K c=some C:=by unfold clK;rw[h]
theorem zVP{P:qIy}{w:World}{K:qA1}{mg:Str->Option Value}{base:Heap}{N:List Str}{qual:Str}{scope:Scope}{f:Addr}{cd:Value}{A:qJ2}{outer:List Env}{s:qIv}{H:Hp}{E:XK} :
  PassesOwn (model P w) (A.deeper (qFh qual scope s.heap.objs.size f cd)) (qFh qual scope s.heap.objs.size f cd) (cxOf (CXe P w) P w K mg base N qual scope f cd A outer s H E).xe:=PassesOwn.leaving
def spE(K:qA1)(mg:Str->Option Value)(L:Nat)(f:Mi.FM):Sp:=fun vs H Q E=>@spM ⟨K⟩ mg L f vs H Q E
section
variable[Kc]{mg:Str->Option Value}{E:XK}{L n k l:Nat}{te ta tb:TE}{e ea eb ma:EM}{t:TA}{m:AM}
theorem zI7{f:FM}{E':XK}(A:DA mg E t m 0):DE mg E (zEB (sp0 Kc.K mg n f) [] E' t) (Mi.eCallN f m) n:=zT9 A
theorem zTA{f:FM}(A:DA mg E t m 0):DE mg E (zEB (spE Kc.K mg n f) [] E t) (Mi.eCall f m) n:=zB5 A
end
def zGS(K:qA1):Sp:=fun vs H Q _=>∃(a:Addr)(ns:List Int),vs=[.ref a]/\Same (tabK K) H/\SqL K H a (ns.map V.int)/\ns.length<=63/\(∀i∈ns,i.natAbs.log2<2 ^ 20)/\∀H',Same (tabK K) H'->Q (.bl true) H'
theorem zSL{K:qA1}{mg:Str->Option Value}{L:Nat}{f:FM}(hf:∀ns:List Int,ns.length<=63->(∀i∈ns,i.natAbs.log2<2 ^ 20)->f [.scr ns]=okR (.bl true)):∀vs H Q E,zGS K vs H Q E->sp0 K mg L f vs H Q E:=by
 letI:Kc:=⟨K⟩
 rintro vs H Q E ⟨a,ns,rfl,tb,hS,hl,hw,q⟩
 refine⟨H,[.scr ns],tb,Same.refl _,⟨_,_,rfl,⟨a,rfl,.inl hS⟩,rfl⟩,?_⟩;rw[hf ns hl hw];intro v G' H' S fr o;cases(show v=.bl true by cases L<;>exact o)
 exact q H' (tb.trans fr.ext.h)
end L3
namespace Mi
open PySem
section
variable(ρ:Rh)(r:Ro)(a b c:EM)(s t:SM)(q q':TM)(am:AM)
@[simp] theorem x_eC(d:Dt):eC d ρ=okR d:=rfl
@[simp] theorem x_eV(i:Nat):eV i ρ=match ρ[i]? with|some (some d)=>okR d|_=>none:=rfl
@[simp] theorem x_eB(f:Dt->Dt->Option Dt):eB f a b ρ=zA2 (a ρ) fun x=>zA2 (b ρ) fun y=>optR (f x y):=rfl
@[simp] theorem x_eU(f:Dt->Option Dt):eU f a ρ=zA2 (a ρ) fun x=>optR (f x):=rfl
@[simp] theorem zC8:aNil ρ=okR []:=rfl
@[simp] theorem zB8:aCons a am ρ=zA2 (a ρ) fun x=>zA2 (am ρ) fun xs=>okR (x::xs):=rfl
@[simp] theorem zKB(f:FM):eCall f am ρ=zA2 (am ρ) f:=rfl
@[simp] theorem zX8(f:List Dt->Option Dt):eBi f am ρ=zA2 (am ρ) fun xs=>optR (f xs):=rfl
@[simp] theorem x_eLst:eLst am ρ=zA2 (am ρ) fun xs=>@ite _ (xs.length<=100000) (qA2 _) (okR (.lst xs)) none:=rfl
@[simp] theorem x_eTup:eTup am ρ=zA2 (am ρ) fun xs=>@ite _ (xs.length<=100000) (qA2 _) (okR (.tup xs)) none:=rfl
@[simp] theorem x_eIsi(n:String):eIsi n a ρ=zA2 (a ρ) fun x=>optR (isiD n x):=rfl
@[simp] theorem x_eAnd:eAnd a b ρ=zA2 (a ρ) fun x=>match x with | .bl k=>if k=true then b ρ else okR (.bl false)|_=>none:=rfl
@[simp] theorem x_eOr:eOr a b ρ=zA2 (a ρ) fun x=>match x with | .bl k=>if k=true then okR (.bl true)else b ρ|_=>none:=rfl
@[simp] theorem x_eNot:eNot a ρ=zA2 (a ρ) fun x=>match x with | .bl k=>okR (.bl (!k))|_=>none:=rfl
@[simp] theorem x_eChain(f g:Dt->Dt->Option Dt):zZP f g a b c ρ=zA2 (a ρ) fun x=>zA2 (b ρ) fun y=>zA2 (optR (f x y)) fun z=>match z with | .bl k=>if k=true then zA2 (c ρ) fun w=>optR (g y w)else okR (.bl false)|_=>none:=rfl
@[simp] theorem x_eIf:eIf q a b ρ=zA2 (q ρ) fun k=>if k=true then a ρ else b ρ:=rfl
@[simp] theorem x_tB:tB a ρ=zA2 (a ρ) fun x=>match x with | .bl k=>okR k|_=>none:=rfl
@[simp] theorem x_tM:tM a ρ=zA2 (a ρ) fun x=>match x with | .bl k=>okR k | .int i=>okR (i != 0) | .non=>okR false|_=>none:=rfl
@[simp] theorem zX5:tAn q q' ρ=zA2 (q ρ) fun k=>if k=true then q' ρ else okR false:=rfl
@[simp] theorem zX4:tOr q q' ρ=zA2 (q ρ) fun k=>if k=true then okR true else q' ρ:=rfl
@[simp] theorem zaJ:tNo q ρ=zA2 (q ρ) fun k=>okR (!k):=rfl
@[simp] theorem zX3:tYes ρ=okR true:=rfl
@[simp] theorem zTO:sNil r=okR (.nx r):=rfl
@[simp] theorem zDO:sSeq s t r=zA2 (s r) fun o=>match o with | .nx ρ'=>t ρ'|o=>okR o:=rfl
@[simp] theorem zIM:sIf q s t r=zA2 (q (full r)) fun k=>if k=true then s r else t r:=rfl
@[simp] theorem x_sDrop:zaV a r=zA2 (a (full r)) fun _=>okR (.nx r):=rfl
@[simp] theorem x_sBreak:zXM r=okR (.bk r):=rfl
@[simp] theorem x_sCont:zaX r=okR (.ct r):=rfl
@[simp] theorem x_sNever:zXL r=none:=rfl
@[simp] theorem x_sRetN:zaT r=okR (.rt .non):=rfl
@[simp] theorem zIL(i n:Nat)(vs:List Nat):sSet i n vs a r=zA2 (a (full r)) fun d=>if d.dep<=n then okR (.nx (r.set i (some (d,n))))else zA2 (a (frz (frzAt vs r))) fun d'=>okR (.nx ((frzAt vs r).set i (some (d',n)))):=rfl
@[simp] theorem zX6(L n:Nat)(vs:List Nat):sRet L n vs a r=zA2 (a (full r)) fun d=>if d.dep<=n/\d.dep<=L then okR (.rt d)else if n=L then zA2 (a (frz (frzAt vs r))) fun d'=>okR (.rt d')else none:=rfl
@[simp] theorem x_sRetV(L i:Nat):sRetV L i r=match r[i]? with|some (some (d,k))=>if k=L\/L=0\/(d.dep<=k/\d.dep<=L/\k<1000)then okR (.rt d)else none|_=>none:=rfl
@[simp] theorem x_full_nil:full []=[]:=rfl
@[simp] theorem x_full_cons(o:Option Sl)(r:Ro):full (o::r)=o.map qF7::full r:=rfl
@[simp] theorem x_frz_nil:frz []=[]:=rfl
@[simp] theorem x_frz_none(r:Ro):frz (none::r)=none::frz r:=rfl
@[simp] theorem x_frz_some(d:Dt)(n:Nat)(r:Ro):frz (some (d,n)::r)=(if n=0\/d.dep=0 then some d else none)::frz r:=rfl
@[simp] theorem x_frzAt_nil(r:Ro):frzAt [] r=r:=rfl
@[simp] theorem x_frzAt_cons(i:Nat)(v:List Nat)(r:Ro):frzAt (i::v) r=frzAt v (frz1 i r):=rfl
@[simp] theorem x_frz1(i:Nat)(r:Ro):frz1 i r=match r[i]? with|some (some (d,_))=>r.set i (some (d,0))|_=>r:=rfl
@[simp] theorem x_startO(n:Nat)(ds:List Dt):startO n ds=ds.map (fun d=>some (d,0))++qA4 (n-ds.length) none:=rfl
@[simp] theorem x_runF(P n:Nat)(ds:List Dt):runF P n s ds=if ds.length=P then zA2 (s (startO n ds)) endF else none:=rfl
@[simp] theorem x_end1(r:Ro):endF (.nx r)=okR .non:=rfl
@[simp] theorem x_end2(d:Dt):endF (.rt d)=okR d:=rfl
end
@[simp] theorem v_add(i j:Int):addD (.int i) (.int j)=some (.int (i+j)):=rfl
@[simp] theorem zX9(i j:Str):addD (.str i) (.str j)=@ite _ (i.length+j.length<=100000) (qA2 _) (some (.str (i++j))) none:=rfl
@[simp] theorem v_addL(i j:List Dt):addD (.lst i) (.lst j)=@ite _ (i.length+j.length<=100000) (qA2 _) (some (.lst (i++j))) none:=rfl
@[simp] theorem v_sub(i j:Int):subD (.int i) (.int j)=some (.int (i-j)):=rfl
@[simp] theorem zUW(i j:Int):mulD (.int i) (.int j)=@ite _ (((-18446744073709551616<i/\i<18446744073709551616)\/(-18446744073709551616<j/\j<18446744073709551616))\/i.natAbs.log2+j.natAbs.log2<=67108864) (qA2 _) (some (.int (i*j))) none:=rfl
@[simp] theorem v_div(i j:Int):divD (.int i) (.int j)=@ite _ (0<j/\j<1000000000000000000000000) (qA2 _) (some (.int (i/j))) none:=rfl
@[simp] theorem v_mod(i j:Int):modD (.int i) (.int j)=if 0<j then some (.int (i%j))else none:=rfl
@[simp] theorem v_pow(i j:Int):powD (.int i) (.int j)=@ite _ (0<=j/\j<=1000000/\i.natAbs<18446744073709551616) (qA2 _) (some (.int (i ^ j.toNat))) none:=rfl
@[simp] theorem v_neg(i:Int):negD (.int i)=some (.int (-i)):=rfl
@[simp] theorem v_cmp(p:Int->Int->Bool)(i j:Int):cmpD p (.int i) (.int j)=some (.bl (p i j)):=rfl
@[simp] theorem v_eq(x y:Dt):eqD x y=if x.dep<=40/\y.dep<=40 then some (.bl (Dt.eq x y))else none:=rfl
@[simp] theorem v_ne(x y:Dt):neD x y=if x.dep<=40/\y.dep<=40 then some (.bl (!Dt.eq x y))else none:=rfl
@[simp] theorem v_is(x:Dt):isD x .non=some (.bl (isNonD x)):=rfl
@[simp] theorem v_isnt(x:Dt):zbJ x .non=some (.bl (!isNonD x)):=rfl
@[simp] theorem v_isN1:isNonD .non=true:=rfl
@[simp] theorem v_isN2(i:Int):isNonD (.int i)=false:=rfl
@[simp] theorem v_isN3(i:List Dt):isNonD (.lst i)=false:=rfl
@[simp] theorem v_isN4(i:List Dt):isNonD (.tup i)=false:=rfl
@[simp] theorem v_isN5(i:Str):isNonD (.str i)=false:=rfl
@[simp] theorem v_isN6(i:Bool):isNonD (.bl i)=false:=rfl
@[simp] theorem v_ixL(xs:List Dt)(i:Int):ixD (.lst xs) (.int i)=itA xs i:=rfl
@[simp] theorem v_ixT(xs:List Dt)(i:Int):ixD (.tup xs) (.int i)=itA xs i:=rfl
@[simp] theorem v_ixS(ns:List Int)(i:Int):ixD (.scr ns) (.int i)=(itA ns i).map .int:=rfl
@[simp] theorem v_lenL(xs:List Dt):lenD [.lst xs]=some (.int xs.length):=rfl
@[simp] theorem v_lenT(xs:List Dt):lenD [.tup xs]=some (.int xs.length):=rfl
@[simp] theorem v_lenS(ns:List Int):lenD [.scr ns]=some (.int ns.length):=rfl
@[simp] theorem v_listL(xs:List Dt):listD [.lst xs]=some (.lst xs):=rfl
@[simp] theorem v_listT(xs:List Dt):listD [.tup xs]=some (.lst xs):=rfl
@[simp] theorem v_listS(ns:List Int):listD [.scr ns]=some (.lst (ns.map .int)):=rfl
theorem zKD{j:Int}(h0:0<=j)(h1:j<=100000):rangeD [.int j]=some (.lst (nums 0 j.toNat)):=by
 show(@ite _ ((-4611686018427387904<=j/\j<4611686018427387904)/\j<=100000) (qA2 _) (some (Dt.lst (nums 0 j.toNat))) none)=_;rw[if_pos ⟨⟨by lia,by lia⟩,h1⟩]
@[simp] theorem v_dn:Dt.non.dep=0:=rfl
@[simp] theorem v_db(b:Bool):(Dt.bl b).dep=0:=rfl
@[simp] theorem v_di(b:Int):(Dt.int b).dep=0:=rfl
@[simp] theorem v_ds(b:Str):(Dt.str b).dep=0:=rfl
@[simp] theorem v_dS(b:List Int):(Dt.scr b).dep=1000:=by rw[Dt.dep]
@[simp] theorem v_dl(xs:List Dt):(Dt.lst xs).dep=Dt.depL xs+1:=by rw[Dt.dep]
@[simp] theorem v_dt(xs:List Dt):(Dt.tup xs).dep=Dt.depL xs+1:=by rw[Dt.dep]
@[simp] theorem v_dnil:Dt.depL []=0:=by rw[Dt.depL]
@[simp] theorem zHE(x:Dt)(r:List Dt):Dt.depL (x::r)=max x.dep (Dt.depL r):=by rw[Dt.depL]
@[simp] theorem v_e1(i j:Int):Dt.eq (.int i) (.int j)=decide (i=j):=by rw[Dt.eq];by_cases h:i=j<;>simp[h]
@[simp] theorem v_e2(i j:Str):Dt.eq (.str i) (.str j)=decide (i=j):=by rw[Dt.eq];by_cases h:i=j<;>simp[h]
@[simp] theorem v_e3(i j:Bool):Dt.eq (.bl i) (.bl j)=decide (i=j):=by rw[Dt.eq];by_cases h:i=j<;>simp[h]
@[simp] theorem v_e4(i j:List Dt):Dt.eq (.lst i) (.lst j)=Dt.eqL i j:=by rw[Dt.eq]
@[simp] theorem v_e5(i j:List Dt):Dt.eq (.tup i) (.tup j)=Dt.eqL i j:=by rw[Dt.eq]
@[simp] theorem v_e6:Dt.eq .non .non=true:=by rw[Dt.eq]
@[simp] theorem zGD:∀(ns:List Int),Dt.depL (ns.map Dt.int)=0
 |[]=>by simp
 |n::r=>by rw[qAk,zHE,zGD r];rfl
@[simp] theorem zT5:∀(xs ys:List Dt),Dt.depL (xs++ys)=max (Dt.depL xs) (Dt.depL ys)
 |[],ys=>by simp
 |x::r,ys=>by rw[qDn,zHE,zHE,zT5 r ys];exact(qI1 _ _ _).symm
@[simp] theorem zFK:∀(ns ms:List Int),Dt.eqL (ns.map Dt.int) (ms.map Dt.int)=decide (ns=ms)
 |[],[]=>by simp[Dt.eqL]
 |[],_::_=>by simp[Dt.eqL]
 |_::_,[]=>by simp[Dt.eqL]
 |n::r,m::q=>by rw[qAk,qAk,Dt.eqL,zFK r q,v_e1];simp
theorem zME{α:Type}{xs:List α}{i:Int}{j:Nat}{v:α}(e:i=(j:Int))(h:xs[j]?=some v):itA xs i=some v:=by
 have hj:j<xs.length:=(qA3.mp h).1;subst e;unfold itA ixA;rw[if_pos (by lia),if_pos (by lia)]
 simpa using h
theorem zPM{n:Nat}{i:Int}(h0:0<=i)(h1:i<n):ixA n i=some i.toNat:=by
 unfold ixA;rw[if_pos h0,if_pos h1]
theorem zMF{ns:List Int}{i:Int}(h0:0<=i)(h1:i<ns.length):itA (ns.map Dt.int) i=some (.int (ns.getD i.toNat 0)):=by
 refine zME (j:=i.toNat) (by lia) ?_;rw[qA8,qA0,qA5 (by lia)];rfl
theorem zWC{ns:List Int}{i:Int}(h0:0<=i)(h1:i<ns.length):itA ns i=some (ns.getD i.toNat 0):=by
 refine zME (j:=i.toNat) (by lia) ?_;rw[qA0,qA5 (by lia)];rfl
@[simp] theorem set_int(ns:List Int)(i:Nat)(x:Int):(ns.map Dt.int).set i (.int x)=(ns.set i x).map Dt.int:=by rw[qE4]
theorem zI9{ρ:Rh}{k:Nat}{tg:Tg}{c:TM}{e:EM}(f:Dt->Dt):∀(ds acc:List Dt),(∀d∈ds,∃bs,zAO tg d=some bs/\c (zAN (ρ++qA4 k none) bs)=okR true/\e (zAN (ρ++qA4 k none) bs)=okR (f d))->compGo ρ k tg c e ds acc=okR (acc++ds.map f)
 |[],acc,_=>by simp[compGo]
 |d::ds,acc,h=>by
  obtain⟨bs,h1,h2,h3⟩:=h d (by simp);rw[compGo,h1];simp only;rw[h2,zA0,if_pos rfl,h3,zA0,zI9 f ds (acc++[f d]) fun d hd=>h d (by simp[hd])];simp
theorem zE5{tg:Tg}{b:SM}(Pv:Nat->Ro->Prop):∀(ds:List Dt)(i:Nat)(r:Ro),Pv i r->(∀(j:Nat)(d:Dt)(r:Ro),ds[j]?=some d->Pv (i+j) r->∃bs r',zAO tg d=some bs/\b (zAQ r bs)=okR (.nx r')/\Pv (i+j+1) r') ->
  ∃r',forGo tg b ds r=okR (.nx r')/\Pv (i+ds.length) r'
 |[],i,r,h,_=>⟨r,by simp[forGo],by simpa using h⟩
 |d::ds,i,r,h,hs=>by
  obtain⟨bs,r1,h1,h2,h3⟩:=hs 0 d r (by simp) (by simpa using h);obtain⟨r2,h4,h5⟩:=zE5 Pv ds (i+1) r1 (by simpa using h3) fun j e r he hp=>by
   have:=hs (j+1) e r (by simpa using he) (by rw[show i+(j+1)=i+1+j by lia];exact hp)
   rw[show i+1+j+1=i+(j+1)+1 by lia];exact this
  refine⟨r2,?_,by rw[qAr,show i+(ds.length+1)=i+1+ds.length by lia];exact h5⟩;rw[forGo,h1];simp only;rw[h2,zA0];exact h4
section
variable(ρ:Rh)(r:Ro)(a:EM)(am:AM)(s:SM)
@[simp] theorem x_noE_ok{α:Type}(x:α):noE (okR x)=okR x:=rfl
@[simp] theorem x_noE_none{α:Type}:noE (none:R α)=none:=rfl
@[simp] theorem x_noE_err{α:Type}(e:Xn):noE (some (.error e):R α)=none:=rfl
@[simp] theorem zLN(f:FM):eCallN f am ρ=zA2 (am ρ) fun ds=>noE (f ds):=rfl
@[simp] theorem x_eMkX(c f:Str):eMkX c f am ρ=zA2 (am ρ) fun ds=>match ds with|[d]=>okR (.exc c f d)|_=>none:=rfl
@[simp] theorem x_sRaise(c f:Str):zTX c f am r=zA2 (am (full r)) fun ds=>match ds with|[d]=>some (.error ⟨c,f,d⟩)|_=>none:=rfl
@[simp] theorem x_eAtX(hs:List Str)(f:Str):eAtX hs f a ρ=zA2 (a ρ) fun d=>match d with | .exc c g x=>if c∈hs/\g=f then okR x else none|_=>none:=rfl
@[simp] theorem x_eIsX(ys ns:List Str):eIsX ys ns a ρ=zA2 (a ρ) fun d=>match d with | .exc c _ _=>if c∈ys then okR (.bl true)else if c∈ns then okR (.bl false)else none|_=>none:=rfl
@[simp] theorem x_gone_nx(i:Nat):zZI i (.nx r)=.nx (r.set i none):=rfl
@[simp] theorem x_gone_rt(i:Nat)(d:Dt):zZI i (.rt d)=.rt d:=rfl
end
example (d:Dt):True:=trivial
end Mi
namespace L2
open PySem PySem.Spec PyProof.Rows
section
variable{X:Cx}
noncomputable def zXV:R2:=fun x y H Q=>match x,y with
 |.int i,.int j=>Q (.int (qKi i j)) H
 |_,_=>False
theorem zaN:OpR X (binaryOp .BitXor) zXV:=by
 intro pins s σ H x y v u Q I rx ry h;cases x<;>cases y<;>first
  |exact zYJ pins s σ H _ _ v u Q I rx ry ⟨_,_,rfl,rfl,h⟩
  |exact qAa h
def zXZ:R2:=fun x y H Q=>match x,y with
 |.ref l,.int k=>∃xs,H l=some (.lst xs)/\(-(2 ^ 63)<=k/\k<2 ^ 63)/\xs.length*k.toNat<=sizeLine/\∀p,H p=none->Q (.ref p) (upd H p (.lst (qA4 k.toNat xs).flatten))
 |_,_=>False
theorem zN5:OpR X (binaryOp .Mult) zXZ:=by
 intro pins s σ H x y v u Q I rx ry h;cases x<;>cases y<;>first
  |(obtain⟨xs,h1,h2,h3,h4⟩:=h;exact zYL pins s σ H _ _ v u Q I rx ry ⟨_,_,xs,rfl,rfl,h1,h2.1,h2.2,h3,h4⟩)
  |exact qAa h
def extM:V->List V->Hp->VK->Prop:=fun x vs H Q=>match x,vs with
 |.ref l,[.ref b]=>∃xs zs,H l=some (.lst xs)/\H b=some (.lst zs)/\xs.length+zs.length<=sizeLine/\Q .non (upd H l (.lst (xs++zs)))
 |_,_=>False
noncomputable def posI(k:Int):List Int->Option Nat
 |[]=>none
 |x::r=>if x=k then some 0 else(posI k r).map (·+1)
theorem zPS:∀{ns:List Int}{us:List Value},Vals (ns.map V.int) us->qGs us=true
 |[],_,.nil=>rfl
 |n::r,_,.cons a t=>by obtain⟨k,rfl⟩:=a;have:=zPS (ns:=r) t;simpa[qGs]using this
theorem zU1{k:Int}:∀{ns:List Int}{us:List Value}{j:Nat},Vals (ns.map V.int) us->posI k ns=some j->qI2 k us=some j
 |[],_,_,.nil,h=>by cases h
 |n::r,_,j,.cons a t,h=>by
  obtain⟨q,rfl⟩:=a;unfold posI at h;unfold qI2;by_cases e:n=k
  ·rw[if_pos e]at h;cases h;subst e;simp[qE7]
  ·rw[if_neg e]at h;cases h':posI k r with
   |none=>rw[h']at h;cases h
   |some z=>
    rw[h']at h;cases h;rw[zU1 t h'];have hb:(n==k)=false:=by simpa using e
    simp[qE7,hb]
def lixM:V->List V->Hp->VK->Prop:=fun x vs H Q=>match x,vs with
 |.ref l,[.int k]=>∃ns j,H l=some (.lst (ns.map V.int))/\posI k ns=some j/\Q (.int j) H
 |_,_=>False
theorem zVX:MtR X "list.index" lixM:=by
 intro pins s σ H x vs v us Q I rx rv h;cases x with
 |ref l=>
  cases vs with
  |nil=>exact qAa h
  |cons hd1 tl1=>
   cases hd1 with
   |int k=>
    cases tl1 with
    |nil=>
     obtain⟨ns,j,h1,h2,h3⟩:=h;cases rx;obtain⟨u,rfl,ru⟩:=zEU rv;obtain⟨t,rfl⟩:=ru;obtain⟨z,its,n,r,hl,e⟩:=I.lstM h1;obtain⟨a,b,c⟩:=PySem.W.kf_at_spec (zU1 r h2);rw[qJa]at z;refine call_meets qEm ⟨_,e,rfl⟩ PySem.F.entry_list_index (PySem.F.args_list_index_2 _ _)
      (MeetsSeq.list_index l its.toArray n (.int k t) (qE7 k) (fun y hy=>PySem.W.kf_eq (zPS r) y (by simpa using hy)) j (by simpa using a) (by lia) (by simpa using b) (fun i hi hlt=>by simpa using c i (by simpa using hi) hlt)) ⟨e,?_⟩
     exact⟨.int _,H,I.tok _,⟨_,rfl⟩,h3⟩
    |cons _ _=>exact qAa h
   |_=>exact qAa h
 |_=>exact qAa h
end
noncomputable def Itv(K:qA1)(a:Addr)(n:Nat):It:=
 ⟨fun i H=>∃xs x,SqL K H a xs/\i<n/\xs[n-1-i]?=some x,fun i H x H'=>H'=H/\∀xs,SqL K H a xs->xs[n-1-i]?=some x,fun i H=>n<=i⟩
theorem zRC{P:qIy}{w:World}{K:qA1}{tg:Expr}(a it:Addr)(n:Nat):Turn P w K tg (Itv K a n) [it] it (fun i h=>h.IsRevIter it a (((n-i:Nat):Int)-1)) where
 mem:=by simp
 obj:=fun i h st b hb=>by
  have e:b=it:=by simpa using hb
  subst e;obtain⟨o,e,c,d⟩:=st;exact⟨o,e,fun v z=>by rw[d]at z;cases z⟩
 keep:=fun i h h' st k=>st.at fun o e=>k it (by simp) o e
 item:=by
  intro X hP hw hK hc i pins s σ H E I hf st hg;subst hP hw hK;obtain⟨xs,x,hq,hi,hx⟩:=hg;obtain⟨its,rv,p,hz⟩:=I.list hq;obtain⟨u,hu,ru⟩:=rv.get hx;obtain⟨f0,f1,f2,f3,f4,f5⟩:=hf it (by simp);have e1:(((n-i:Nat):Int)-1)=((n-1-i:Nat):Int):=by lia
  rw[e1]at st;refine wpAny_pyNext_rev_item st p.isList (x:=u) (by simpa using hu) fun h' st' sb=>?_
  have I1:Inv X pins σ H { s with heap:=h' }:=I.turned (t':=s.toks) (fun b o hb e=>(sb.2 b hb).trans e) f0 f1 f3 f4 f5;have e2:(((n-1-i:Nat):Int)-1)=((n-(i+1):Nat):Int)-1:=by lia
  rw[e2]at st';obtain⟨o,e,c,d⟩:=id st';exact⟨u,rfl,zNS (s:={ s with heap:=h' }) e c d (by decide) ⟨x,H,I1,ru,⟨rfl,fun ys hy=>by rw[I.list_inj hy hq];exact hx⟩,st',fun b hb=>(hf b hb).1⟩⟩
 done:=by
  intro X hP hw hK hc i pins s σ H E I hf st hg;subst hP hw hK;obtain⟨f0,f1,f2,f3,f4,f5⟩:=hf it (by simp);have e1:(((n-i:Nat):Int)-1) = -1:=by have:n<=i:=hg;lia
  rw[e1]at st;exact wpAny_pyNext_rev_end (I.ok.hd hc) st fun h' eb=>⟨rfl,I.turned (t':=s.toks) (fun b o hb e=>eb b o hb e) f0 f1 f3 f4 f5⟩
 self:=fun _ _ _ _ _ st h=>qE1 st h
section
variable{X:Cx}{K:qA1}
def iRev(K:qA1)(tl:TA):TI:=fun σ H R=>tl σ H fun vs H1=>match vs with
 |[.ref a]=>∃xs,SqL K H1 a xs/\R (Itv K a xs.length) H1
 |_=>False
theorem zYA{tg:Expr}{p pos:Pos}{a:Expr}{ta:TA}(hg:Gl X "reversed")(hm:X.mg "reversed" = none)(ha:PA X [a] ta)(hs:starEach [a] X.env=(false,eval a X.env)::starEach [] X.env:=by rfl)(hpl:(backTo pos (starEach [] X.env)).any (·.1)=false:=by rfl)(hK:X.K=K:=by rfl) :
  PI X tg (.Call (.Name "reversed" p) [a] [] pos) (iRev K ta):=by
 subst hK;intro pins s σ H R I h;refine Call_ (zG5 I hg hm boot_reversed (qC3 (thn (ha pos pins s σ H _ I h) fun us s1 z0=>?_) hs hpl));obtain⟨vs,H1,I1,r1,q1⟩:=z0;cases vs with
 |nil=>exact qAa q1
 |cons hd1 tl1=>
  cases hd1 with
  |ref l1=>
   cases tl1 with
   |nil=>
    obtain⟨xs,hq1,q⟩:=q1;obtain⟨u1,rfl,rx⟩:=zEU r1;cases rx;obtain⟨its1,rv1,p1,hz1⟩:=I1.list hq1;refine qM7 p1.isList ?_;refine qE1 (l:=l1) (i:=(its1.toArray.size:Int)-1) ⟨_,qIw _ rfl,rfl,rfl⟩ ?_;refine⟨s1.heap.objs.size,[s1.heap.objs.size],_,_,H1,rfl,I1.kept (t':=s1.toks) fun b o e=>qIu _ e,zRC l1 _ xs.length,⟨_,qIw _ rfl,rfl,?_⟩,fun b hb=>?_,q⟩
    ·show(revObj l1 _).data=_
     have:=rv1.length;unfold revObj;simp[this]
    have e:b=s1.heap.objs.size:=by simpa using hb
    subst e;exact I1.fpOk (qA6 _) (I1.hok.fresh (qA6 _))
   |cons _ _=>exact qAa q1
  |_=>exact qAa q1
end
section
variable{prog:qIy}{w:World}{A:qJ2}{R:qLr->qIv->Prop}{I:Addr}{fp wr:List Addr}{G:Array qKh->Array qKh->Prop}{n:Nat}{St:Nat->qIv->Prop}{led:Bool}{z:Str}
end
end L2
namespace L3
open PySem PySem.Spec
open L2 hiding Rep RepL
open Mi (Dt Xn R okR zA2 optR zA0 zA4 zA9 zA7 zA8 Rh Sl Ro EM TM AM FM IM SM Tg Out zAO zAN zAQ full frz frz1 frzAt)
section
variable[Kc]{mg:Str->Option Value}{E:XK}{L n n1:Nat}{t1 t2:TE}{e1 e2:EM}
end
section
variable[Kc]{mg:Str->Option Value}{E:XK}{L n:Nat}{te:TE}{e:EM}
end
end L3
namespace L3
open PySem PySem.Spec PyProof.Rows
open L2 hiding Rep RepL
open Mi (Dt R Rh EM TM SM AM IM Xn Sl Ro Out okR zA2 optR full frz frzAt)
section
variable[Kc]{mg:Str->Option Value}{E:XK}{n L:Nat}{te ta tb:TE}{e:EM}{m m':SM}
end
end L3
namespace Mi
open PySem
noncomputable def xorD:Dt->Dt->Option Dt
 |.int i,.int j=>some (.int (qKi i j))
 |_,_=>none
noncomputable def repD:Dt->Dt->Option Dt
 |.lst xs,.int k=>@ite _ ((-4611686018427387904<=k/\k<4611686018427387904)/\xs.length*k.toNat<=100000) (qA2 _) (some (.lst (qA4 k.toNat xs).flatten)) none
 |_,_=>none
def tL(a:EM):TM:=fun ρ=>zA2 (a ρ) fun x=>match x with
 |.bl k=>okR k
 |.int i=>okR (i != 0)
 |.non=>okR false
 |.lst xs=>okR (!xs.isEmpty)
 |.tup xs=>okR (!xs.isEmpty)
 |_=>none
def iRv(e:AM):IM:=fun ρ=>zA2 (e ρ) fun vs=>match vs with
 |[.lst xs]=>okR xs.reverse
 |_=>none
noncomputable def intsD:List Dt->Option (List Int)
 |[]=>some []
 |.int i::r=>(intsD r).map (i::·)
 |_::_=>none
def posI(k:Int):List Int->Option Nat
 |[]=>none
 |x::r=>if x=k then some 0 else(posI k r).map (·+1)
def eMl(f:List Dt->List Dt->Option Dt)(a:EM)(am:AM):EM:=fun ρ=>zA2 (a ρ) fun x=>match x with
 |.lst xs=>zA2 (am ρ) fun ds=>optR (f xs ds)
 |_=>none
def lixD(xs ds:List Dt):Option Dt:=match ds with
 |[.int k]=>match intsD xs with
  |some ns=>(posI k ns).map fun j=>.int (j:Int)
  |none=>none
 |_=>none
def sExt(i n:Nat)(e:EM):SM:=fun ρ=>match ρ[i]? with
 |some (some (.lst ds,k+1))=>zA2 (e (full ρ)) fun d=>match d with
  |.lst es=>@ite _ (ds.length+es.length<=100000/\Dt.depL es<=n/\Dt.depL es<=k) (qA2 _) (okR (.nx (ρ.set i (some (.lst (ds++es),k+1))))) none
  |_=>none
 |_=>none
noncomputable def low(i:Nat)(ρ:Ro):Ro:=match ρ[i]? with
 |some (some (.lst ds,_+1))=>ρ.set i (some (.lst ds,1))
 |_=>ρ
def zXN(i:Nat)(vs:List Nat)(e:EM):SM:=fun ρ=>match(frzAt vs (low i ρ))[i]? with
 |some (some (.lst ds,1))=>zA2 (e (frz (frzAt vs (low i ρ)))) fun d=>@ite _ (ds.length<=100000) (qA2 _) (okR (.nx ((frzAt vs (low i ρ)).set i (some (.lst (ds++[d]),1))))) none
 |_=>none
end Mi
namespace L3
open PySem PySem.Spec
open L2 hiding Rep RepL
open Mi (Dt Xn R okR zA2 optR zA0 zA4 zA9 zA7 zA8 Rh Sl Ro EM TM AM FM IM SM Tg Out zAO zAN zAQ full frz frz1 frzAt)
section
variable[Kc]{mg:Str->Option Value}{E:XK}{L n k l:Nat}{te ta tb:TE}{e ea eb ma:EM}{t:TA}{m:AM}
theorem zXP:ROp zXV Mi.xorD n:=by
 intro mg E G H d e x y Q s h1 h2 p;cases d with
 |int i=>
  cases e with
  |int j=>cases(show x=.int i from h1);cases(show y=.int j from h2);exact zRV s p rfl rfl rfl
  |_=>exact p.elim
 |_=>exact p.elim
theorem zM1{G:Hp}{ds es:List Dt}{xs ys:List V}(ra:RepL G ds xs)(rb:RepL G es ys):RepL G (ds++es) (xs++ys):=by
 refine zD4 (by simp[ra.length,rb.length]) fun j d' x' e1 e2=>?_
 by_cases hj:j<ds.length
 ·rw[qA9 hj]at e1;rw[qA9 (by rw[ra.length];exact hj)]at e2;exact zBI ra e1 e2
 ·rw[qAd (by lia)]at e1;rw[qAd (by rw[ra.length];lia),ra.length]at e2;exact zBI rb e1 e2
theorem zM0{G:Hp}{ds:List Dt}{xs:List V}(r:RepL G ds xs):∀k:Nat,RepL G (qA4 k ds).flatten (qA4 k xs).flatten
 |0=>rfl
 |k+1=>by rw[qB3,qB3,qBr,qBr];exact zM1 r (zM0 r k)
theorem zGT:ROp zXZ Mi.repD 1:=by
 intro mg E G H d e x y Q s h1 h2 p;cases d with
 |lst ds=>
  cases e with
  |int j=>
   obtain⟨a,xs,rfl,ha,ra⟩:=h1;cases(show y=.int j from h2)
   rw[Mi.repD]at p;split at p
   ·rename_i hz
    exact⟨xs,s _ _ ha,⟨by lia,by lia⟩,by rw[ra.length];exact big' hz.2,fun q hq=>PostE.lst p (Ext.refl s) (zM0 ra _) hq⟩
   ·exact p.elim
  |_=>exact p.elim
 |_=>exact p.elim
theorem zLZ{G:Hp}{ds:List Dt}{xs:List V}(r:RepL G ds xs):RepL G ds.reverse xs.reverse:=by
 induction ds generalizing xs with
 |nil=>cases r;rfl
 |cons d q ih=>
  obtain⟨x,t,rfl,a,b⟩:=r;rw[qCs,qCs];exact zM1 (ih b) ⟨x,[],rfl,a,rfl⟩
theorem zZA{K:qA1}{G:Hp}{a:Addr}{xs:List V}{ds:List Dt}(ha:G a=some (.lst xs))(r:RepL G ds xs):ItOk (Itv K a xs.length) G ds.reverse:=by
 intro i G1 H1 s1 s2;have hS:SqL K H1 a xs:=SqL.of (s2 _ _ (s1 _ _ ha));have hl:=r.length;rw[List.length_reverse];refine⟨fun hi=>⟨xs,xs[xs.length-1-i]'(by lia),hS,by lia,by simp⟩,fun hi=>(by show xs.length<=i;lia),fun x H2 d hd hy=>?_⟩;obtain⟨rfl,hy⟩:=hy;have hi:i<ds.length:=by
  have:=(qA3.mp hd).1;simpa using this
 rw[qDj hi]at hd;exact⟨G1,Ext.refl s2,Rep.mono s1 (zBI r hd (by rw[<- hl];exact hy xs hS))⟩
theorem zZV(A:DA mg E t m 0):DI mg E (iRev Kc.K t) (Mi.iRv m) false:=by
 intro G H σ ρ Q s w p;refine A.step errI s w p fun ds vs G1 H1 S T _ fr o p1=>?_
 have r:=o.repL;cases ds with
 |nil=>exact qAa p1
 |cons hd1 tl1=>
  cases hd1 with
  |lst es=>
   cases tl1 with
   |nil=>
    obtain⟨x,rfl,a,xs,rfl,ha,ra⟩:=zD5 r;exact⟨xs,SqL.of (fr.ext.in' _ _ ha),p1 _ G1 H1 fr.ext (zZA ha ra)⟩
   |cons _ _=>exact qAa p1
  |_=>exact qAa p1
def RMl(r:V->List V->Hp->VK->Prop)(f:List Dt->List Dt->Option Dt)(n:Nat):Prop:=∀(mg:Str->Option Value)(E:XK)(G H:Hp)(a:Addr)(es ds:List Dt)(xs vs:List V)(Q:VK),Same G H->G a=some (.lst xs)->RepL G es xs->RepL G ds vs->PostE mg E G H n (optR (f es ds)) Q->r (.ref a) vs H Q
theorem zbS{r:V->List V->Hp->VK->Prop}{f:List Dt->List Dt->Option Dt}(hr:RMl r f n)(A:DE mg E te e k)(B:DA mg E t m 0):DE mg E (tML r te t) (Mi.eMl f e m) n:=by
 intro G H σ ρ Q s w p;refine(zAS A).step errE s w p fun d v G1 H1 S _ fr o p1=>?_
 cases d with
 |lst es=>
  obtain⟨a,xs,rfl,ha,ra⟩:=o;refine⟨xs,fr.ext.in' _ _ ha,?_⟩;have p2:PostE mg E G H n (zA2 (m ρ) fun ds=>optR (f es ds)) Q:=p1;refine B.step (errE.from fr.ext) fr.ext.in' (w.mono fr.ext.g) p2 fun ds vs G2 H2 S2 T2 _ fr2 o2 p3=>?_
  exact hr mg E G2 H2 a es ds xs vs Q fr2.ext.in' (fr2.ext.g _ _ ha) (RepL.mono fr2.ext.g ra) o2.repL (PostE.from p3 (fr.ext.trans fr2.ext))
 |_=>exact p1.elim
theorem zOW(k:Int):∀ns:List Int,Mi.posI k ns=L2.posI k ns
 |[]=>rfl
 |x::r=>by unfold Mi.posI L2.posI;rw[zOW k r]
theorem zJJ{G:Hp}:∀{ds:List Dt}{ns:List Int}{xs:List V},Mi.intsD ds=some ns->RepL G ds xs->xs=ns.map V.int
 |[],ns,xs,h,r=>by cases h;exact r
 |d::q,ns,xs,h,r=>by
  cases d with
  |int i=>
   rw[Mi.intsD]at h;cases e:Mi.intsD q with
   |none=>rw[e]at h;cases h
   |some ms=>
    rw[e]at h;cases h;obtain⟨x,t,rfl,a,b⟩:=r;cases(show x=.int i from a)
    rw[zJJ e b];rfl
  |_=>cases h
theorem zRP:RMl lixM Mi.lixD n:=by
 intro mg E G H a es ds xs vs Q s ha ra rv p;cases ds with
 |nil=>exact qAa p
 |cons hd1 tl1=>
  cases hd1 with
  |int k=>
   cases tl1 with
   |nil=>
    obtain⟨x,rfl,hx⟩:=zD5 rv;cases(show x=.int k from hx)
    unfold Mi.lixD at p;cases ei:Mi.intsD es with
    |none=>rw[ei]at p;exact p.elim
    |some ns=>
     rw[ei]at p;dsimp only at p;cases ej:Mi.posI k ns with
     |none=>rw[ej]at p;exact p.elim
     |some j=>
      rw[ej]at p;refine⟨ns,j,?_,by rw[<- zOW];exact ej,PostE.val p (Ext.refl s) rfl rfl⟩;rw[s _ _ ha,zJJ ei ra]
   |cons _ _=>exact qAa p
  |_=>exact qAa p
end
section
variable[Kc]{G0 H0 S0:Hp}{σ:St}{ρ:Ro}{G H:Hp}{As:Nat->Addr->Prop}
end
section
variable[Kc]{mg:Str->Option Value}{E:XK}{L n k l:Nat}{te ta tb:TE}{e ea eb ma:EM}{t:TA}{m:AM}
end
structure XNo(K:qA1)(mg:Str->Option Value)(c:Str)(C:Addr):Prop extends XCls K mg c C where
 kp:qB5 K (.ref C)=true
 ini:qB4 K (.ref C) "__init__" = some (some (.builtin "ValueError.__init__"))
theorem zYF{X:Cx}{c:Str}{C:Addr}{e:Expr}{es:List Expr}{t:TA}{p pos:Pos}(h:XNo X.K X.mg c C)(hg:Gl X c)(ha:PA X (e::es) t)(hdb:(c==("__debug__":Str))=false:=by decide)
  (he:starEach (e::es) X.env=(false,eval e X.env)::starEach es X.env:=by rfl) (hpl:(backTo pos (starEach es X.env)).any (·.1)=false:=by rfl):PE X (.Call (.Name c p) (e::es) [] pos) (zKF C t):=
 zOZ h.is.xc h.ini hg h.gm h.kp ha hdb he hpl
section
variable[Kc]{mg:Str->Option Value}{E:XK}{L n k l:Nat}{te ta tb:TE}{e ea eb ma:EM}{t:TA}{m:AM}
theorem zQA{c:Str}{C:Addr}(h:XNo Kc.K mg c C)(A:DA mg E t m 0):DS mg E L (zTQ Kc.K E (zKF C t)) (Mi.sRaise0 c m):=by
 intro G0 H0 S0 σ ρ G H As D a p;obtain⟨J,x,s,w⟩:=a.full;refine A.step (errS.from x) x.in' w p fun ds vs G1 H1 S T _ fr o p1=>?_
 split at p1
 ·rename_i hz
  refine⟨by rw[o.len];exact big' (by lia),fun e he=>⟨e,C,none,rfl,zAG,h.is.xc,?_⟩⟩;have hu:upd (upd H1 e (xn e (.ref C) none)) e (xo e (.ref C) none)=upd H1 e (xo e (.ref C) none):=by
   funext z;by_cases h1:z=e
   ·rw[h1,zAG,zAG]
   ·rw[zAE h1,zAE h1,zAE h1]
  rw[hu];exact p1 (.ref e) none _ _ ((x.trans fr.ext).trans (Ext.new fr.ext.in' he _)) ⟨e,C,rfl,zAG,h.cl,.inl ⟨rfl,rfl⟩⟩
 ·exact p1.elim
def KTup(K:qA1)(a:Addr)(ns:List Int):Prop:=KTP K a (ns.map V.int)
theorem zWP{a:Addr}{ns:List Int}(h:KTup Kc.K a ns):DE mg E (tC (.ref a)) (Mi.eC (.scr ns)) 0:=by
 intro G H σ ρ Q s w p;exact PostE.kept p (Ext.refl s) ⟨a,rfl,.inr h⟩
end
theorem zW3{K:qA1}{a:Addr}{o:Obj}{its:Array Value}{n:Nat}{ns:List Int}(h:K.lookup a=some o)(h1:o.cls=.type "tuple")(h2:o.data=.seq its n)(h3:its.size<=sizeLine)(h4:Vals (ns.map V.int) its.toList)(hne:ns≠[]:=by decide):KTup K a ns:=
 ⟨fun z=>hne (qFi.mp z),o,its,n,h,h1,h2,h3,h4⟩
section
variable[Kc]{mg:Str->Option Value}{E:XK}{L n k l:Nat}{te ta tb:TE}{e ea eb ma:EM}{t:TA}{m:AM}
theorem zND{G:Hp}(z:Str):RepL G (Mi.signsD z) (zEC z):=by
 unfold Mi.signsD zEC;induction z.cps.toList with
 |nil=>rfl
 |cons c r ih=>exact⟨_,_,rfl,rfl,ih⟩
end
section
variable[Kc]{G0 H0 S0:Hp}{σ:St}{ρ:Ro}{G H:Hp}{As:Nat->Addr->Prop}
end
section
variable[Kc]{mg:Str->Option Value}{E:XK}{L n k l:Nat}{te ta tb:TE}{e ea eb ma:EM}{t:TA}{m:AM}
end
end L3
namespace L3
open PySem PySem.Spec
open L2 hiding Rep RepL
open Mi (Dt Xn R okR zA2 optR zA0 zA4 zA9 zA7 zA8 Rh Sl Ro EM TM AM FM IM SM OM Tg Out zAO zAN zAQ full frz frz1 frzAt)
section
variable{X:Cx}{c:Str}{fl:List Str}{C:Addr}{k:Nat}{E:XK}{e:Expr}{es:List Expr}{t:TA}{p pos:Pos}
end
section
variable[Kc]{mg:Str->Option Value}{E:XK}{L n k l:Nat}{te ta tb:TE}{e ea eb ma:EM}{t:TA}{m:AM}
end
section
variable[Kc]{mg:Str->Option Value}{E:XK}{L n k l:Nat}
end
abbrev wk(kvs:List (Sum Int Str×Mi.Sw)):List (Key×V):=kvs.map fun p=>(p.1,swV p.2)
section
variable[Kc]{mg:Str->Option Value}{E:XK}{L n k l:Nat}{te ta tb tx td:TE}{e ea eb ex ed ma:EM}{t:TA}{m:AM}
end
section
variable[Kc]{mg:Str->Option Value}{E:XK}{L n k l:Nat}{te ta tb:TE}{e ea eb ma:EM}{t:TA}{m:AM}
end
section
variable[Kc]{mg:Str->Option Value}{E:XK}{L n k l:Nat}
end
section
variable[Kc]{mg:Str->Option Value}{E:XK}{L n k l:Nat}{te ta tb tx td:TE}{e ea eb ex ed ma:EM}{t:TA}{m:AM}
end
end L3
namespace Mi
open PySem
noncomputable def revD:Dt->Dt->Option Dt
 |.str z,.int j=>@ite _ (j = -1/\z.length<=100000) (qA2 _) (some (.str ⟨z.cps.toList.reverse.toArray⟩)) none
 |_,_=>none
noncomputable def svD:Dt->Option Sv
 |.int i=>some (.i i)
 |.str x=>some (.s x)
 |_=>none
def svsD:List Dt->Option (List Sv)
 |[]=>some []
 |d::r=>match svD d,svsD r with
  |some v,some vs=>some (v::vs)
  |_,_=>none
noncomputable def dSv:Sv->Dt
 |.i n=>.int n
 |.s x=>.str x
def eNew(c:Str)(fl:List Str)(am:AM):EM:=fun ρ=>zA2 (am ρ) fun ds=>match svsD ds with
 |some vs=>if vs.length=fl.length then okR (.ins c (fl.zip vs))else none
 |none=>none
def zZN(c:Str):EM:=fun _=>okR (.ins c [])
def eFld(hs:List Str)(f:Str)(e:EM):EM:=fun ρ=>zA2 (e ρ) fun d=>match d with
 |.ins c fs=>if c∈hs then(match fs.lookup f with|some v=>okR (dSv v)|none=>none)else none
 |_=>none
def zbP(tb:List (Str×FM))(m:Str)(e:EM)(am:AM):EM:=fun ρ=>zA2 (e ρ) fun d=>match d with
 |.ins c fs=>match tb.lookup c with
  |some g=>match fs.lookup m with
   |none=>zA2 (am ρ) fun ds=>g (d::ds)
   |some _=>none
  |none=>none
 |_=>none
def eIsO(ys ns:List Str)(e:EM):EM:=fun ρ=>zA2 (e ρ) fun d=>match d with
 |.ins c _=>if c∈ys then okR (.bl true)else if c∈ns then okR (.bl false)else none
 |_=>none
def zbB(c:Nat)(l:List Nat):Option Nat:=(posC c l.reverse).map fun i=>l.length-1-i
def zXR(x:Dt)(ys:List Dt):Option Dt:=match x,ys with
 |.str z,[.str y]=>match y.cps.toList with
  |[c]=>some (.int (match zbB c z.cps.toList with|some i=>(i:Int)|none=>-1))
  |_=>none
 |_,_=>none
def sadD(x y:Dt):Option Dt:=match x,y with
 |.tup as,.tup bs=>match intsD as,intsD bs with
  |some ns,some ms=>@ite _ (ns≠[]/\ms≠[]/\ns.length+ms.length<64) (qA2 _) (some (.lst ((sortI (ns++ms)).map .int))) none
  |_,_=>none
 |_,_=>none
def rvsD:List Dt->Option Dt
 |[.lst xs]=>some (.lst xs.reverse)
 |[.str z]=>@ite _ (z.length<=1000) (qA2 _) (some (.lst (signsD z).reverse)) none
 |_=>none
end Mi
namespace L2
open PySem PySem.Spec PyProof.Rows
section
variable{X:Cx}{x:Str}{j k:Nat}{ps:List Str}{sp:Sp}{e:Expr}{es:List Expr}{t:TA}{p pos:Pos}
end
section
variable{X:Cx}{x:Str}{C:Addr}{p pos:Pos}
end
def spIns(K:qA1)(fl:List Str):Sp:=fun vs H Q _=>∃(x C dx:Addr)(ys:List V),vs=.ref x::ys/\ys.length=fl.length/\H x=some (.ins C dx [])/\Cls K C/\(∀f∈fl,zaG K C f)/\Q .non (upd H x (.ins C dx (fl.zip ys)))
section
variable{X:Cx}{m:Str}{k:Nat}{E:XK}{o e:Expr}{es:List Expr}{ta:TE}{t:TA}{apos pos:Pos}{tb:List (Addr×Sp)}
end
section
variable{X:Cx}{m:Str}{k:Nat}{o e:Expr}{es:List Expr}{ta:TE}{t:TA}{apos pos:Pos}{tb:List (Addr×Sp)}
end
section
variable{prog:qIy}{w:World}{A:qJ2}{E:Value->qIv->Prop}{s:qIv}
end
section
variable{X:Cx}{pos:Pos}
end
theorem zFU:Manifest.owners.lookup (String.ofList ['d','e','s','r','e','v','e','r'].reverse)=some Manifest.sig_reversed:=by kernel_rfl
theorem rvd_slot_next:Slot "reversed" "__next__" "reversed.__next__":=
 qNc (owner:="reversed") (n:="__next__") (by rw[qJn,qJ8];kernel_rfl) (by decide +kernel) (by decide +kernel) (by decide +kernel) (by first|exact .inl (by decide +kernel)|exact .inr (by decide +kernel)) (by rw[qJu];kernel_rfl)
theorem zDP:entryFor table "reversed.__next__" = some qKm.«reversed.__next__»:=entryFor_of_tree (by kernel_rfl)
theorem zEF(a:Value):qN9 "reversed.__next__" ⟨[a],[]⟩:=by
 unfold qN9;rw[qM8 (id:="reversed.__next__") (n:=['_','_','t','x','e','n','_','_']) (o:=['d','e','s','r','e','v','e','r']) (by kernel_rfl) zFU];kernel_rfl
theorem zEE:Slot "reversed" "__iter__" "reversed.__iter__":=
 qNc (owner:="reversed") (n:="__iter__") (by rw[qJn,qJ8];kernel_rfl) (by decide +kernel) (by decide +kernel) (by decide +kernel) (by first|exact .inl (by decide +kernel)|exact .inr (by decide +kernel)) (by rw[qJu];kernel_rfl)
theorem zHL(a:Value):qN9 "reversed.__iter__" ⟨[a],[]⟩:=by
 unfold qN9;rw[qM8 (id:="reversed.__iter__") (n:=['_','_','r','e','t','i','_','_']) (o:=['d','e','s','r','e','v','e','r']) (by kernel_rfl) zFU];kernel_rfl
theorem zGL:entryFor table "reversed.__iter__" = some qKm.«dict_keyiterator.__iter__»:=
 entryFor_alias (id':="dict_keyiterator.__iter__") (by kernel_rfl) (by first|rfl|decide +kernel|(unfold String.splitOn;simp +decide [String.splitOnAux])) (by decide +kernel) (by kernel_rfl)
theorem rvd_slot_hint:Slot "reversed" "__length_hint__" "reversed.__length_hint__":=
 qNc (owner:="reversed") (n:="__length_hint__") (by rw[qJn,qJ8];kernel_rfl) (by decide +kernel) (by decide +kernel) (by decide +kernel) (by first|exact .inl (by decide +kernel)|exact .inr (by decide +kernel)) (by rw[qJu];kernel_rfl)
theorem zGM:entryFor table "reversed.__length_hint__" = some qKm.«reversed.__length_hint__»:=entryFor_of_tree (by kernel_rfl)
theorem zHM(a:Value):qN9 "reversed.__length_hint__" ⟨[a],[]⟩:=by
 unfold qN9;rw[qM8 (id:="reversed.__length_hint__") (n:=['_','_','t','n','i','h','_','h','t','g','n','e','l','_','_']) (o:=['d','e','s','r','e','v','e','r']) (by kernel_rfl) zFU];kernel_rfl
theorem zNB:typeLookup (.type "reversed") "__len__" = pure none:=by rw[qJn,qJ8];kernel_rfl
theorem rvd_called:TypeCalled "reversed" "reversed.__new__" "object.__init__" where
 notType:=by decide +kernel
 canCreate:=PySem.F.create_reversed
 mro:=⟨_,_,PySem.F.mro_reversed⟩
 made:=PySem.F.made_reversed
 plain:=qCt
 sub:=PySem.F.sub_reversed_self
 init:=qNc (owner:="object") (n:="__init__") (by rw[qJn,qJ8];kernel_rfl) (by decide +kernel) (by decide +kernel) (by decide +kernel) (by first|exact .inl (by decide +kernel)|exact .inr (by decide +kernel)) (by rw[qJu];kernel_rfl)
theorem zNN:typeLookup (.type "list_reverseiterator") "__len__" = pure none:=by rw[qJn,qJ8];kernel_rfl
theorem zSG:typeLookup (.type "list_reverseiterator") "__length_hint__" = pure (some (.builtin "list_reverseiterator.__length_hint__")):=by rw[qJn,qJ8];kernel_rfl
theorem zNA:typeLookup (.type "str") "__reversed__" = pure none:=by rw[qJn,qJ8];kernel_rfl
structure Walk1(prog:qIy)(w:World)(A:qJ2)(I:Addr)(fp:List Addr)(n:Nat)(P:Nat->Value->Prop)(St:Nat->Heap->Prop):Prop where
 me:I∈fp
 frame:∀i h h',St i h->(∀b∈fp,∀o,h.get? b=some o->h'.get? b=some o)->St i h'
 item:∀i (s:qIv) (Q:Option Value->qIv->Prop) (E:Value->qIv->Prop),i<n->St i s.heap ->
  (∀v h' tk,P i v->St (i+1) h'->(∀b o,b≠I->s.heap.get? b=some o->h'.get? b=some o)->Q (some v) { s with heap:=h',toks:=tk })->wpAny (model prog w) A (pyNext (.ref I)) Q E s
 done:∀(s:qIv)(Q:Option Value->qIv->Prop)(E:Value->qIv->Prop),St n s.heap ->
  (∀h' tk,(∀b o,b≠I->s.heap.get? b=some o->h'.get? b=some o)->(∃u,h'.get? I=some u)->Q none { s with heap:=h',toks:=tk })->wpAny (model prog w) A (pyNext (.ref I)) Q E s
 self:∀i (s:qIv) (Q:Value->qIv->Prop) (E:Value->qIv->Prop),St i s.heap->Q (.ref I) s->wpAny (model prog w) A (pyIter (.ref I)) Q E s
theorem zN4{prog:qIy}{w:World}{A:qJ2}{I:Addr}{fp:List Addr}{n:Nat}{P:Nat->Value->Prop}{St:Nat->Heap->Prop}{R:qLr->qIv->Prop}(W:Walk1 prog w A.in1 I fp n P St)(hn:n<=sizeLine)(S:Addr)(hSf:S∉fp)(res:Value) :
  ∀(k i:Nat)(s:qIv)(acc:Array Value)(c:Nat),n-i=k->i<=n->St i s.heap->s.heap.get? S=some { cls:=.type "list",dict:=none,data:=.seq acc c,slots:=#[] }->qN6 P acc i ->
  (∀h' tk acc' c',(∀b o,b≠S->b≠I->s.heap.get? b=some o->h'.get? b=some o)->(∃u,h'.get? I=some u)->h'.get? S=some { cls:=.type "list",dict:=none,data:=.seq acc' c',slots:=#[] }->qN6 P acc' n->R (.ok (.ret res)) { s with heap:=h',toks:=tk }) ->
  qKf (model prog w) A (.builtin "list.extend.loop" ⟨[.ref S,.ref I,res],[]⟩) R s:=by
 have hSI:S≠I:=fun h=>hSf (h▸W.me)
 intro k;induction k with
 |zero=>
  intro i s acc c hk hi hst hS hacc hR;have hin:i=n:=by lia
  subst hin;refine codeAny_builtin qEa ?_;rw[qJq qBt _];show wpAny _ A.in1 (pyNext (.ref I) >>= _) _ _ s;refine wpAny_bind (W.done s _ _ hst fun h' tk hk hu=>?_);exact wpAny_pure (hR h' tk acc c (fun b o _ hb e=>hk b o hb e) hu (hk S _ hSI hS) hacc)
 |succ k ih=>
  intro i s acc c hk hi hst hS hacc hR;have hlt:i<n:=by lia
  refine codeAny_builtin qEa ?_;rw[qJq qBt _];show wpAny _ A.in1 (pyNext (.ref I) >>= _) _ _ s;refine wpAny_bind (W.item i s _ _ hlt hst fun v h1 t1 hP hst' hk1=>?_);have hS':=hk1 S _ hSI hS;show wpAny _ A.in1 (updateSeq S (·.push v) >>= _) _ _ _;refine wpAny_bind ?_;refine wpAny_updateSeq hS' rfl (wpAny_pure ⟨qKo qBt _,ih (i+1) _ (acc.push v) _ (by lia) hlt (W.frame _ h1 _ hst' fun b hb o e=>?_) (qJ3 _ hS' rfl) (hacc.push hP) fun h'' tk acc' c' hk2 hu hS'' hacc'=>?_⟩)
   (by rw[hacc.1];lia) (by show(acc.push v).size<=sizeLine+1;rw[qGt,hacc.1];lia)
  ·exact(qIz _ _ (fun h:S=b=>hSf (by rw[h];exact hb))).trans e
  ·refine hR h'' tk acc' c' (fun b o hb hb2 e=>hk2 b o hb hb2 ?_) hu hS'' hacc';exact(qIz _ _ (qCe hb)).trans (hk1 b o hb2 e)
structure Once(prog:qIy)(w:World)(T:String)(r:Addr)(fp:List Addr)(n:Nat)(P:Nat->Value->Prop)(St:Nat->Heap->Prop):Prop where
 ty:∀(s:qIv) i,St i s.heap->s.TypeIs (.ref r) T
 nl:(qKq T==qKq "list")=false
 nt:(qKq T==qKq "tuple")=false
 me:r∈fp
 hint:∀(A:qJ2)(E:Value->qIv->Prop)(s:qIv)(Q:Bool->qIv->Prop),A.handled=none->St 0 s.heap->(∀b tk,Q b { s with toks:=tk })->wpAny (model prog w) A (qJy (.ref r)) Q E s
 walk:∀(A:qJ2),A.handled=none->Walk1 prog w A r fp n P St
section
variable{prog:qIy}{w:World}{A:qJ2}{E:Value->qIv->Prop}{s:qIv}{T:String}{r:Addr}{fp:List Addr}{n:Nat}{P:Nat->Value->Prop}{St:Nat->Heap->Prop}
theorem zKR{R:qLr->qIv->Prop}(K:Once prog w T r fp n P St)(hh:A.handled=none)(st:St 0 s.heap)(S:Addr)(hSf:S∉fp)(res:Value)(c₀:Nat)(hS:s.heap.get? S=some { cls:=.type "list",data:=.seq #[] c₀ })
  (hR:∀h' tk acc' c',(∀b o,b≠S->b≠r->s.heap.get? b=some o->h'.get? b=some o)->(∃u,h'.get? r=some u)->h'.get? S=some { cls:=.type "list",dict:=none,data:=.seq acc' c',slots:=#[] }->qN6 P acc' n->R (.ok (.ret res)) { s with heap:=h',toks:=tk }) (hn:n<=sizeLine) :
  wpAny (model prog w) A.in1 (qJf (.ref S) (.ref r) res)
   (fun fin s'=>match fin with | .done f=>R (.ok f) s' | .again c'=>c'.quiet=true/\qKf (model prog w) A c' R s') (fun e s'=>R (.error e) s') s:=by
 have W:=K.walk A.in1 hh;have hSr:S≠r:=fun z=>hSf (z▸K.me)
 have key:∀(h:Heap)(c₁ tk:Nat),St 0 h->(∀b o,b≠S->s.heap.get? b=some o->h.get? b=some o) ->
   h.get? S=some { cls:=.type "list",data:=.seq #[] c₁ }->qKf (model prog w) A (.builtin "list.extend.loop" ⟨[.ref S,.ref r,res],[]⟩) R { s with heap:=h,toks:=tk }:=by
  intro h c₁ tk hst hk hS₁;refine zN4 W hn S hSf res n 0 _ #[] c₁ rfl (qAu _) hst hS₁ (ItemsOf.nil _) fun h' tk' acc' c' hm hu hS' hacc=>?_
  exact hR h' tk' acc' c' (fun b o hb hb2 e=>hm b o hb hb2 (hk b o hb e)) hu hS' hacc
 unfold qJf;refine wpAny_bind (wpAny_typeOf (T:=T) (K.ty s 0 st) ?_);have h1:qL6 (.ref S) (.ref r)=false:=by simp[qL6,hSr]
 simp only[h1,K.nl,K.nt,qFo,qC8,if_false];refine wpAny_bind (W.self 0 s _ _ st ?_);refine wpAny_bind (wpAny_holding (K.hint _ _ _ _ hh st fun b tk=>?_));refine qJi (fun _=>?_) (fun _=>wpAny_pure ⟨qKo qBt _,key _ c₀ _ st (fun b o _ e=>e) hS⟩);refine wpAny_bind (wpAny_rule ?_);refine wpAny_bind ?_;show wpAny _ _ (updateSeq S (·.push .none) >>= fun _=>updateSeq S (·.pop)) _ _ _;refine wpAny_bind (wpAny_updateSeq hS rfl ?_);have hS₂:=qJ3 (qJh (·.push qJ4)) hS rfl;refine wpAny_updateSeq (hz:=by seq_fits) hS₂ rfl ?_;have hS₃:=qJ3 (qJh (·.pop)) hS₂ rfl;refine wpAny_pure ⟨qKo qBt _,key _ _ _ ?_ (fun b o hb e=>?_) hS₃⟩
 ·refine W.frame 0 _ _ st fun b hb o e=>?_
  have hbS:b≠S:=fun h=>hSf (h▸hb)
  exact(qIz _ _ (qCe hbS)).trans ((qIz _ _ (qCe hbS)).trans e)
 ·exact(qIz _ _ (qCe hb)).trans ((qIz _ _ (qCe hb)).trans e)
theorem zJA{Q:Value->qIv->Prop}(K:Once prog w T r fp n P St)(hh:A.handled=none)(st:St 0 s.heap)(hfp:∀b∈fp,b<s.heap.objs.size)(hn:n<=sizeLine)
  (hQ:∀h' tk acc' c',(∀b o,b≠r->s.heap.get? b=some o->h'.get? b=some o)->(∃u,h'.get? r=some u)->h'.get? s.heap.objs.size=some { cls:=.type "list",dict:=none,data:=.seq acc' c',slots:=#[] }->qN6 P acc' n->Q (.ref s.heap.objs.size) { s with heap:=h',toks:=tk }) :
  wpAny (model prog w) A (call (.type "list") [.ref r]) Q E s:=by
 refine callType_codes (Q₁:=fun obj s₁=>obj=.ref s.heap.objs.size/\s₁={ s with heap:=s.heap.push { cls:=.type "list",data:=.seq #[] } }) PySem.F.called_list (PySem.F.typeCall_list_1 _) PySem.F.entry_list_init (code_list_new _ ⟨rfl,rfl⟩) fun obj s₁ h₁=>?_
 obtain⟨rfl,rfl⟩:=h₁;have hS:(s.heap.push { cls:=.type "list",data:=.seq #[] }).get? s.heap.objs.size=some { cls:=.type "list",data:=.seq #[] }:=qIw _ rfl;have hSf:s.heap.objs.size∉fp:=fun hm=>qC7 _ (hfp _ hm)
 refine⟨⟨_,hS,rfl⟩,PySem.F.args_list_init_2 _ _,?_⟩;generalize hg:s.heap.push { cls:=.type "list",data:=.seq #[] }=g at hS ⊢;show wpAny _ _ (do let old <- qLd (.ref s.heap.objs.size);Builtin.List.listUpdate (.ref s.heap.objs.size) (fun _=>#[]);letGo old.toList.reverse;qJf (.ref s.heap.objs.size) (.ref r) .none) _ _ _;refine wpAny_bind ?_;unfold qLd;refine wpAny_bind (wpAny_seqItems hS rfl (wpAny_pure ?_));show wpAny _ _ (updateSeq s.heap.objs.size (fun _=>#[]) >>= fun _=>letGo (#[]:Array Value).toList.reverse >>= fun _=>qJf (.ref s.heap.objs.size) (.ref r) .none) _ _ _;refine wpAny_bind (wpAny_updateSeq hS rfl ?_);have hS₂:=qJ3 (qJh (fun _=>(#[]:Array Value))) hS rfl;have oth:∀b o,b≠s.heap.objs.size->s.heap.get? b=some o->(g.update s.heap.objs.size (qJh (fun _=>(#[]:Array Value)))).get? b=some o:=
  fun b o hb e=>(qIz _ _ (qCe hb)).trans (by rw[<- hg];exact qIu _ e)
 refine wpAny_bind (wpAny_letGo ?_);refine zKR (A:=A.in1) K hh ((K.walk A hh).frame 0 _ _ st fun b hb o e=>oth b o (qAq (hfp b hb)) e) _ hSf .none _ hS₂ (fun h' tk acc' c' hk hu hS' hacc=>?_) hn;exact⟨rfl,hQ h' tk acc' c' (fun b o hb e=>hk b o (qAq (qIx e)) hb (oth b o (qAq (qIx e)) e)) hu hS' hacc⟩
end
theorem zW0{prog:qIy}{w:World}{A:qJ2}{E:Value->qIv->Prop}{s:qIv}{it l:Addr}{Q:Option Value->qIv->Prop}(hh:A.handled=none)(hit:s.heap.IsRevIter it l (-1))
  (hQ:∀h',(∀b o,s.heap.get? b=some o->h'.get? b=some o)->Q none { s with heap:=h' }):wpAny (model prog w) A (pyNext (.ref it)) Q E s:=by
 obtain⟨o,ho,hc,hd⟩:=id hit;unfold pyNext;refine wpAny_bind (wpAny_attempt (wpAny_callSpecial?_slot (name:=qJj "__next__") hit.typeIs qF2 (wpAny_call_entry qF2 hit.typeIs PySem.F.entry_lri_next ?_ (PySem.F.args_lri_next_1 _))));unfold qKm.«list_reverseiterator.__next__»;refine wpAny_bind (wpAny_of_eq (a:=(qJ0 it,[])) rfl ?_)
 try dsimp only
 refine wpAny_bind (wpAny_field ho hd (x:=rawInt (-1)) rfl ?_);show wpAny _ _ (if(-1:Int)<0 then _ else _) _ _ s;rw[if_pos (by decide)];refine wpAny_bind (wpAny_rule ?_)
 first
 |show wpAny _ _ (newExc (.type "StopIteration") [] >>= _) _ _ _
 |(refine wpAny_bind ?_;show wpAny _ _ (newExc (.type "StopIteration") [] >>= _) _ _ _)
 refine wpAny_bind ?_;simp only[newExc,newTuple];refine wpAny_bind (wpAny_newObj_type ?_ (by size_fits));refine wpAny_bind (m:=qK3 _ _) (wpAny_of_eq (a:=qJ4) (by first|rfl|(simp only[qK3];rfl)) ?_);refine wpAny_newObj_type ?_ (by size_fits);simp only[raiseNew];refine wpAny_bind (wpAny_handled ?_)
 first|rw[show A.in1.handled=none from hh]|rw[hh]
 refine wpAny_bind (wpAny_pure (wpAny_throw ?_));refine wpAny_bind (wpAny_isInstance (T:="StopIteration") (b:=true) ⟨_,qIw _ rfl,rfl⟩ qLs ?_);exact wpAny_pure (hQ _ fun b o e=>qIu _ (qIu _ e))
theorem zS9{prog:qIy}{w:World}(I l:Addr)(hne:l≠I)(items:Array Value) :
  Once prog w "list_reverseiterator" I [I,l] items.size (fun i v=>items[items.size-1-i]?=some v) (fun i h=>i<=items.size/\h.IsRevIter I l ((items.size:Int)-1-(i:Int))/\h.IsList l items) where
 ty:=fun s i st=>st.2.1.typeIs
 nl:=by decide
 nt:=by decide
 me:=by simp
 hint:=fun A E s Q hh st hQ=>by
  have hT:=st.2.1.typeIs;unfold qJy;refine wpAny_bind (wpAny_specialOf hT zNN ?_);show wpAny _ _ (specialOf (qJ0 I) (qJj "__length_hint__") >>= _) _ _ _;refine wpAny_bind (wpAny_specialOf hT zSG ?_);generalize hid:("list_reverseiterator.__length_hint__":String)=id0
  wp_delta
  rw[show splitId id0=some ("list_reverseiterator","__length_hint__") from by subst hid;decide +kernel];subst hid;refine wpAny_bind (wpAny_isInstance (T:="list_reverseiterator") (b:=true) hT (by rw[qJu];kernel_rfl) ?_);refine qJi (fun hab=>absurd hab (by decide)) (fun _=>?_);refine qJi (fun _=>?_) (fun hab=>absurd (by decide +kernel) hab);refine qJi (fun hab=>absurd hab (by decide +kernel)) (fun _=>?_);exact wpAny_pure (hQ false s.toks)
 walk:=fun A hh=>{
  me:=by simp
  frame:=(qM9 (prog:=prog) (w:=w) hh I l hne items).frame
  item:=fun i s Q E hi st hQ=>(qM9 (prog:=prog) (w:=w) hh I l hne items).item i s Q E hi st fun v h' tk hv hs hk=>hQ v h' tk hv hs fun b o hb e=>hk b o (fun z=>hb (qAt.mp z)) e
  done:=fun s Q E st hQ=>by
   have e:(items.size:Int)-1-(items.size:Int) = -1:=by lia
   have hit:=st.2.1;rw[e]at hit;obtain⟨o,ho,_⟩:=id hit;exact zW0 hh hit fun h' he'=>hQ h' s.toks (fun b o _ eo=>he' b o eo) ⟨o,he' _ _ ho⟩
  self:=(qM9 (prog:=prog) (w:=w) hh I l hne items).self }
noncomputable def zLU(x:Str)(t:Tok)(i:Int):Obj:={ cls:=.type "reversed",data:=.fields #[.str x t,rawInt i] }
def IsRvd(h:Heap)(a:Addr)(x:Str)(t:Tok)(i:Int):Prop:=∃o,h.get? a=some o/\o.cls=.type "reversed"/\o.data=.fields #[.str x t,rawInt i]
section
variable{prog:qIy}{w:World}{A:qJ2}{E:Value->qIv->Prop}{s:qIv}{x:Str}{t:Tok}
theorem IsRvd.type{a:Addr}{i:Int}(h:IsRvd s.heap a x t i):s.TypeIs (.ref a) "reversed":=let⟨o,ho,hc,_⟩:=h;⟨o,ho,hc⟩
theorem IsRvd.at{h h':Heap}{a:Addr}{i:Int}(z:IsRvd h a x t i)(e:∀o,h.get? a=some o->h'.get? a=some o):IsRvd h' a x t i:=let⟨o,ho,r⟩:=z;⟨o,e _ ho,r⟩
theorem zV7{Q₁:Value->qIv->Prop}(hx:x.length<=sizeLine)
  (h:∀tk,Q₁ (.ref s.heap.objs.size) { s with heap:=s.heap.push (zLU x t ((x.length:Int)-1)),toks:=tk }) :
  qKf (model prog w) A (.call (.builtin "reversed.__new__") ⟨[.type "reversed",.str x t],[]⟩) (wants Q₁ E) s:=by
 have hn:=zDV;refine codeAny_of_tree ?_;show wpAny _ A.in1 (do checkBuiltinCall "reversed.__new__" ⟨[.type "reversed",.str x t],[]⟩;again (.builtin "reversed.__new__" ⟨[.type "reversed",.str x t],[]⟩)) _ _ s;refine wpAny_bind (wpAny_of_eq (PySem.F.newCall_reversed_1 _) (wpAny_pure ⟨qKo qCt _,codeAny_builtin PySem.F.entry_reversed_new ?_⟩));rw[qJq qCt _];unfold qKm.«reversed.__new__»;refine wpAny_bind (wpAny_of_eq (newClass_reversed _) ?_)
 try dsimp only
 refine wpAny_bind (wpAny_of_eq (a:=()) (by first|rfl|kernel_rfl) ?_);refine wpAny_bind (wpAny_of_eq (a:=()) (by first|rfl|kernel_rfl) ?_)
 try dsimp only
 refine wpAny_bind (wpAny_specialOf (typeIs_str s x t) zNA ?_);refine wpAny_bind ?_;show wpAny _ _ (isInstance (.str x t) (.type "dict") >>= _) _ _ _;refine wpAny_bind (wpAny_isInstance (T:="str") (v:=.str x t) (b:=false) rfl (by rw[qJu];kernel_rfl) ?_);show wpAny _ _ (specialOf (.str x t) "__getitem__" >>= _) _ _ _;refine wpAny_bind (wpAny_specialOf (typeIs_str s x t) slot_str_getitem.lookup ?_);refine wpAny_of_eq (a:=true) (by first|rfl|kernel_rfl) ?_;show wpAny _ _ (call (qL7 "len") [qK8 x t] >>= _) _ _ _;refine wpAny_bind (len_str (by lia) ?_);refine wpAny_bind (wpAny_of_eq (a:=some (x.length:Int)) (by first|rfl|kernel_rfl) ?_);refine wpAny_bind ?_;show wpAny _ _ (newObj (.type "reversed") (.fields #[qK8 x t,rawInt ((x.length:Int)-1)])) _ _ _;refine wpAny_newObj_type ?_;exact wpAny_pure (h _)
theorem zRM{Q:Value->qIv->Prop}(hx:x.length<=sizeLine)
  (h:∀tk,Q (.ref s.heap.objs.size) { s with heap:=s.heap.push (zLU x t ((x.length:Int)-1)),toks:=tk }):wpAny (model prog w) A (call (.type "reversed") [.str x t]) Q E s:=by
 refine callType_codes (Q₁:=fun obj s₁=>obj=.ref s.heap.objs.size/\∃tk,s₁={ s with heap:=s.heap.push (zLU x t ((x.length:Int)-1)),toks:=tk }) rvd_called (PySem.F.typeCall_reversed_1 _) PySem.F.entry_object_init (zV7 hx fun tk=>⟨rfl,tk,rfl⟩) fun obj s₁ h₁=>?_
 obtain⟨rfl,tk,rfl⟩:=h₁;have hT:Shared.TypeIs { s with heap:=s.heap.push (zLU x t ((x.length:Int)-1)),toks:=tk } (.ref s.heap.objs.size) "reversed":=⟨_,qIw _ rfl,rfl⟩
 exact⟨hT,PySem.F.args_object_init_2 _ _,object_init_meets rvd_called.init.lookup rvd_called.made (by decide) prog w A.in1 _ _ ⟨hT,rfl,h tk⟩⟩
theorem zIZ{i n:Nat}(h:i<n):qLg (i:Int) n=some i:=by
 unfold qLg;simp;lia
theorem zRL{it:Addr}{i:Nat}{c:Nat}{Q:Option Value->qIv->Prop}(hit:IsRvd s.heap it x t (i:Int))(hx:x.length<=sizeLine)(hc:x.cps[i]?=some c)
  (hQ:∀h' u tk,IsRvd h' it x t ((i:Int)-1)->qKj it s.heap h'->Q (some (.str ⟨#[c]⟩ u)) { s with heap:=h',toks:=tk }):wpAny (model prog w) A (pyNext (.ref it)) Q E s:=by
 obtain⟨o,ho,hcl,hd⟩:=id hit;have hn:=zDV;have hlt:i<x.length:=(qBc.mp hc).1;unfold pyNext;refine wpAny_bind (wpAny_attempt (wpAny_callSpecial?_slot (name:=qJj "__next__") hit.type rvd_slot_next
  (wpAny_call_entry rvd_slot_next hit.type zDP ?_ (zEF _))))
 unfold qKm.«reversed.__next__»;refine wpAny_bind (wpAny_of_eq (a:=(qJ0 it,[])) rfl ?_)
 try dsimp only
 refine wpAny_bind (wpAny_field ho hd (x:=.str x t) rfl ?_);refine wpAny_bind (wpAny_field ho hd (x:=rawInt (i:Int)) rfl ?_);show wpAny _ _ (if(i:Int)<0 then _ else _) _ _ s;rw[if_neg (by lia)];show wpAny _ _ (specialOf (.str x t) "__getitem__" >>= _) _ _ _;refine wpAny_bind (wpAny_specialOf (typeIs_str s x t) slot_str_getitem.lookup ?_);show wpAny _ _ (mkInt (i:Int) >>= _) _ _ _;refine wpAny_bind (wpAny_mkInt ?_);have e1:decide ((i:Int) < -(2 ^ 63:Int))=false:=decide_eq_false (by lia);have e2:decide ((i:Int)>=2 ^ 63)=false:=decide_eq_false (by lia);refine wpAny_bind (wpAny_attempt (getItem_str (c:=c) (by rw[e1,e2,qFo]) (by rw[zIZ hlt];exact hc) ?_));show wpAny _ _ (field (qJ0 it) 1 >>= _) _ _ _;refine wpAny_bind (wpAny_field ho hd (x:=rawInt (i:Int)) rfl ?_);show wpAny _ _ (setField (qJ0 it) 1 (rawInt ((i:Int)-1)) >>= _) _ _ _;refine wpAny_bind (wpAny_setField ho hd (by simp) ?_);refine wpAny_pure ⟨_,rfl,wpAny_pure (hQ _ _ _ ?_ (qJb ..))⟩;exact⟨_,qJ3 _ ho (qJc (qJ7 hd _)),(qL5 ..).trans hcl,by
  rw[qJ7 hd];simp⟩
theorem zRK{it:Addr}{i:Int}{Q:Value->qIv->Prop}(hit:IsRvd s.heap it x t i)(h:Q (.ref it) s):wpAny (model prog w) A (pyIter (.ref it)) Q E s:=by
 refine qMi hit.type zEE (wpAny_call_entry zEE hit.type zGL ?_ (zHL _));show wpAny _ _ (ret (.ref it)) _ _ s;exact wpAny_pure ⟨_,rfl,"reversed",_,hit.type,rvd_slot_next.lookup,h⟩
theorem zV8{it:Addr}{Q:Option Value->qIv->Prop}(hh:A.handled=none)(hit:IsRvd s.heap it x t (-1))
  (hQ:∀h',qM1 it s.heap h'->(∃u,h'.get? it=some u)->Q none { s with heap:=h' }):wpAny (model prog w) A (pyNext (.ref it)) Q E s:=by
 obtain⟨o,ho,hc,hd⟩:=id hit;unfold pyNext;refine wpAny_bind (wpAny_attempt (wpAny_callSpecial?_slot (name:=qJj "__next__") hit.type rvd_slot_next
  (wpAny_call_entry rvd_slot_next hit.type zDP ?_ (zEF _))))
 unfold qKm.«reversed.__next__»;refine wpAny_bind (wpAny_of_eq (a:=(qJ0 it,[])) rfl ?_)
 try dsimp only
 refine wpAny_bind (wpAny_field ho hd (x:=.str x t) rfl ?_);refine wpAny_bind (wpAny_field ho hd (x:=rawInt (-1)) rfl ?_);show wpAny _ _ (if(-1:Int)<0 then _ else _) _ _ s;rw[if_pos (by decide)];refine wpAny_bind (wpAny_rule ?_);refine wpAny_bind ?_;show wpAny _ _ (setField (.ref it) 1 (rawInt (-1)) >>= fun _=>setField (.ref it) 0 .none) _ _ _;refine wpAny_bind (wpAny_setField ho hd (by simp) ?_);have ho2:=qJ3 (qJ6 fun x=>x.setIfInBounds 1 (rawInt (-1))) ho (qJc (qJ7 hd _));refine wpAny_setField ho2 (qJ7 hd _) (by simp) ?_;refine wpAny_bind ?_;have hB:qM1 it s.heap ((s.heap.update it (qJ6 fun x=>x.setIfInBounds 1 (rawInt (-1)))).update it (qJ6 fun x=>x.setIfInBounds 0 qJ4)):=
  fun b o hb e=>(qIz _ _ (qCe hb)).trans ((qIz _ _ (qCe hb)).trans e)
 have hU:=qJ3 (qJ6 fun x=>x.setIfInBounds 0 qJ4) ho2 (qJc (qJ7 (qJ7 hd _) _))
 generalize((s.heap.update it (qJ6 fun x=>x.setIfInBounds 1 (rawInt (-1)))).update it (qJ6 fun x=>x.setIfInBounds 0 qJ4))=g at hB hU ⊢
 show wpAny _ _ (newExc (.type "StopIteration") [] >>= _) _ _ _;refine wpAny_bind ?_;simp only[newExc,newTuple];refine wpAny_bind (wpAny_newObj_type ?_ (by size_fits));refine wpAny_bind (m:=qK3 _ _) (wpAny_of_eq (a:=qJ4) (by first|rfl|(simp only[qK3];rfl)) ?_);refine wpAny_newObj_type ?_ (by size_fits);simp only[raiseNew];refine wpAny_bind (wpAny_handled ?_);rw[show A.in1.handled=none from hh];refine wpAny_bind (wpAny_pure (wpAny_throw ?_));refine wpAny_bind (wpAny_isInstance (T:="StopIteration") (b:=true) ⟨_,qIw _ rfl,rfl⟩ qLs ?_);exact wpAny_pure (hQ _ ((hB.push _).push _) ⟨_,qIu _ (qIu _ hU)⟩)
theorem zS8{I:Addr}(hx:x.length<=sizeLine) :
  Once prog w "reversed" I [I] x.length (fun i v=>∃c u,x.cps[x.length-1-i]?=some c/\v=.str ⟨#[c]⟩ u) (fun i h=>i<=x.length/\IsRvd h I x t ((x.length:Int)-1-(i:Int))) where
 ty:=fun s i st=>st.2.type
 nl:=by decide
 nt:=by decide
 me:=by simp
 hint:=fun A E s Q hh st hQ=>by
  have hn:=zDV;have hT:=st.2.type;obtain⟨o,ho,hc,hd⟩:=st.2;unfold qJy;refine wpAny_bind (wpAny_specialOf hT zNB ?_);show wpAny _ _ (specialOf (qJ0 I) (qJj "__length_hint__") >>= _) _ _ _;refine wpAny_bind (wpAny_specialOf hT rvd_slot_hint.lookup ?_);generalize hid:("reversed.__length_hint__":String)=id0
  wp_delta
  rw[show splitId id0=some ("reversed","__length_hint__") from by subst hid;decide +kernel];subst hid;refine wpAny_bind (wpAny_isInstance (T:="reversed") (b:=true) hT (by rw[qJu];kernel_rfl) ?_);refine qJi (fun hab=>absurd hab (by decide)) (fun _=>?_);refine qJi (fun hab=>absurd hab (by decide +kernel)) (fun _=>?_);refine wpAny_bind (wpAny_rule ?_);refine wpAny_bind (wpAny_of_eq (rvd_slot_hint.bind _) ?_)
  try dsimp only
  refine wpAny_bind (wpAny_attempt (wpAny_call_entry rvd_slot_hint hT zGM ?_ (zHM _)));unfold qKm.«reversed.__length_hint__»;refine wpAny_bind (wpAny_of_eq (a:=qJ0 I) rfl ?_);refine wpAny_bind (wpAny_field ho hd (x:=.str x t) rfl ?_);show wpAny _ _ (call (qL7 "len") [qK8 x t] >>= _) _ _ _;refine wpAny_bind (len_str (by lia) ?_);refine wpAny_bind (wpAny_of_eq (a:=some (x.length:Int)) (by first|rfl|kernel_rfl) ?_)
  try dsimp only
  refine wpAny_bind (wpAny_field ho hd (x:=rawInt ((x.length:Int)-1-((0:Nat):Int))) rfl ?_);show wpAny _ _ (if(x.length:Int)<(x.length:Int)-1-((0:Nat):Int)+1 then _ else _) _ _ _;rw[if_neg (by lia)];refine wpAny_bind (wpAny_mkInt (wpAny_pure ⟨_,rfl,?_⟩));have hF:qKv ((x.length:Int)-1-((0:Nat):Int)+1)=true:=by unfold qKv;simp;lia
  have hL:qJk ((x.length:Int)-1-((0:Nat):Int)+1).toNat=false:=by unfold qJk;simp;lia
  show wpAny _ _ (asInt? (qJw ((x.length:Int)-1-((0:Nat):Int)+1) _) >>= _) _ _ _;refine wpAny_bind (wpAny_of_eq (a:=some ((x.length:Int)-1-((0:Nat):Int)+1)) (by first|rfl|kernel_rfl) ?_)
  try dsimp only
  rw[hF,hL];refine qJi (fun hab=>absurd hab (by decide)) (fun _=>?_);refine qJi (fun hab=>absurd hab (by lia)) (fun _=>?_);refine qJi (fun hab=>absurd hab (by decide)) (fun _=>?_);exact wpAny_pure (hQ _ _)
 walk:=fun A hh=>{
  me:=by simp
  frame:=fun i h h' st hk=>⟨st.1,st.2.at fun o e=>hk I (by simp) o e⟩
  item:=fun i s Q E hi st hQ=>by
   have e:(x.length:Int)-1-(i:Int)=((x.length-1-i:Nat):Int):=by lia
   have hit:=st.2;rw[e]at hit;have hlt:x.length-1-i<x.cps.size:=by show _<x.length;lia
   have hc:x.cps[x.length-1-i]?=some (x.cps[x.length-1-i]'hlt):=qCd hlt;refine zRL hit hx hc fun h' u tk hit' hs'=>?_
   have e2:((x.length-1-i:Nat):Int)-1=(x.length:Int)-1-((i+1:Nat):Int):=by lia
   rw[e2]at hit';exact hQ _ h' tk ⟨_,u,hc,rfl⟩ ⟨hi,hit'⟩ fun b o hb eo=>hs'.extBut b o hb eo
  done:=fun s Q E st hQ=>by
   have e:(x.length:Int)-1-(x.length:Int) = -1:=by lia
   have hit:=st.2;rw[e]at hit;exact zV8 hh hit fun h' he' hu=>hQ h' s.toks (fun b o hb eo=>he' b o hb eo) hu
  self:=fun _ _ _ _ st hQ=>zRK st.2 hQ }
end
noncomputable def zSH(p a:Addr)(n:Nat):HO:=.ext fun h=>h.IsRevIter p a ((n:Int)-1)
noncomputable def zRN(p:Addr)(z:Str):HO:=.ext fun h=>∃t,IsRvd h p z t ((z.length:Int)-1)
noncomputable def zDW(p:Addr):HO:=.ext fun h=>∃o,h.get? p=some o
section
variable{X:Cx}{pins:List (Addr×Obj)}{σ:List (Option V)}{H:Hp}{s:qIv}
theorem Inv.spent{p:Addr}{h':Heap}{t':Nat}(I:Inv X pins σ H s)(mu:Mut (H p))(k:∀b u,b≠p->s.heap.get? b=some u->h'.get? b=some u)(hp:∃u,h'.get? p=some u) :
  Inv X pins σ (upd H p (zDW p)) { s with heap:=h',toks:=t' }:=
 I.write mu (.inl rfl) k hp ⟨hp,hp,fun h1 h2 z f=>let⟨o,e⟩:=z;⟨o,f o e⟩⟩
theorem Inv.walked{p l:Addr}{h':Heap}{t':Nat}{o:HO}(I:Inv X pins σ H s)(mu:Mut (H p))(hl:s.heap.objs.size<=l)(k:∀b u,b≠p->s.heap.get? b=some u->h'.get? b=some u)(hp:∃u,h'.get? p=some u)
  (new:ObjOk X.prog X.w (upd (upd H p (zDW p)) l o) h' l o):Inv X pins σ (upd (upd H p (zDW p)) l o) { s with heap:=h',toks:=t' }:=by
 have hn:H l=none:=I.hok.fresh hl;have hpl:l≠p:=fun z=>by subst z;rw[hn]at mu;exact mu
 have w:Un X.fs [] H (upd H p (zDW p)) s.heap h':=Un.write mu (.inl rfl) k hp;have hn2:upd H p (zDW p) l=none:=by rw[zAE hpl];exact hn
 refine I.un ⟨w.keep,w.slot,fun b u q n x=>?_,w.there,fun b xs q=>?_,fun b u xs q=>?_,fun b ps q=>?_⟩ fun b u e=>?_
 ·rw[zAE (qAq (qAg (qIx q) hl))];exact w.free b u q n x
 ·rw[zAE (zAH q hn)];exact w.tups b xs q
 ·rw[zAE (zAH q hn)];exact w.frzs b u xs q
 ·rw[zAE (zAH q hn)];exact w.tbls b ps q
 ·by_cases hb:b=l
  ·subst hb;rw[zAG]at e;cases e;exact new
  ·rw[zAE hb]at e;have h0:HOk X.prog X.w (upd H p (zDW p)) h':=I.hok.write mu (.inl rfl) k hp ⟨hp,hp,fun h1 h2 z f=>let⟨o,e⟩:=z;⟨o,f o e⟩⟩;exact(h0 b u e).stay (fun c v _ q=>q) (fun c q=>by rw[zAE (zAH q hn2)];exact q) (fun c xs q=>by rw[zAE (zAH q hn2)];exact q) fun c _ _ q _=>by rw[zAE (zAH q hn2)];exact q
def zXY(K:qA1):List V->Hp->VK->Prop:=fun vs H Q=>match vs with
 |[.ref a]=>∃xs,SqL K H a xs/\∀p,H p=none->Q (.ref p) (upd H p (zSH p a xs.length))
 |[.str z]=>z.length<=sizeLine/\∀p,H p=none->Q (.ref p) (upd H p (zRN p z))
 |_=>False
theorem zbH{K:qA1}(hK:X.K=K:=by rfl):zCO X (.type "reversed") (zXY K):=by
 subst hK;intro pins s σ H vs us Q I r h
 match vs,r,h with
 |[.ref a],r,h=>
  obtain⟨xs,hq,q⟩:=h;obtain⟨u,rfl,rx⟩:=zEU r;cases rx;obtain⟨its,rv,pl,hz⟩:=I.list hq;have hlen:=rv.length;refine qM7 pl.isList ?_;have e:((its.toArray.size:Nat):Int)-1=(xs.length:Int)-1:=by simp;lia
  rw[e];exact⟨.ref _,_,I.laid (t':=s.toks) (o:=zSH s.heap.objs.size a xs.length) (fun b o e=>qIu _ e) (qA6 _) ⟨⟨_,qIw _ rfl,rfl,rfl⟩,⟨_,qIw _ rfl⟩,fun h1 h2 z f=>z.at f⟩,rfl,q _ I.fresh⟩
 |[.str z],r,h=>
  obtain⟨hz,q⟩:=h;obtain⟨u,rfl,rx⟩:=zEU r;obtain⟨t,rfl⟩:=rx;refine zRM hz fun tk=>?_
  exact⟨.ref _,_,I.laid (t':=tk) (o:=zRN s.heap.objs.size z) (fun b o e=>qIu _ e) (qA6 _) ⟨⟨t,_,qIw _ rfl,rfl,rfl⟩,⟨_,qIw _ rfl⟩,fun h1 h2 z f=>let⟨t,y⟩:=z;⟨t,y.at f⟩⟩,rfl,q _ I.fresh⟩
theorem zKC:∀{xs:List V}{us:List Value},us.length=xs.length->(∀(j:Nat)(u:Value)(x:V),us[j]?=some u->xs[j]?=some x->RelV x u)->Vals xs us
 |[],[],_,_=>.nil
 |x::xs,u::us,e,h=>.cons (h 0 u x rfl rfl) (zKC (by simpa using e) fun j u' x' h1 h2=>h (j+1) u' x' (by simpa using h1) (by simpa using h2))
 |[],_::_,e,_=>by simp at e
 |_::_,[],e,_=>by simp at e
theorem zLO:∀{xs:List V}{us:List Value},Vals xs us->∀(j:Nat)(u:Value)(x:V),us[j]?=some u->xs[j]?=some x->RelV x u
 |_,_,.nil,j,u,x,h1,h2=>by simp at h1
 |_,_,.cons a b,0,u,x,h1,h2=>by simp at h1 h2;subst h1;subst h2;exact a
 |_,_,.cons a b,j+1,u,x,h1,h2=>zLO b j u x (by simpa using h1) (by simpa using h2)
def zTZ(K:qA1):List V->Hp->VK->Prop:=fun vs H Q=>match vs with
 |[.ref p]=>(∃a xs,H p=some (zSH p a xs.length)/\a≠p/\SqL K H a xs/\∀l,upd H p (zDW p) l=none->Q (.ref l) (upd (upd H p (zDW p)) l (.lst xs.reverse))) \/
   ∃z,H p=some (zRN p z)/\z.length<=sizeLine/\∀l,upd H p (zDW p) l=none->Q (.ref l) (upd (upd H p (zDW p)) l (.lst (zEC z).reverse))
 |_=>False
theorem zW4{K:qA1}(hc:X.calm=true)(hK:X.K=K:=by rfl):zCO X (.type "list") (zTZ K):=by
 subst hK;intro pins s σ H vs us Q I r h;cases vs with
 |nil=>exact qAa h
 |cons hd1 tl1=>
  cases hd1 with
  |ref p=>
   cases tl1 with
   |nil=>
    obtain⟨u,rfl,rx⟩:=zEU r;cases rx;rcases h with⟨a,xs,hp,hap,hq,q⟩|⟨z,hp,hz,q⟩
    ·obtain⟨its,rv,pl,hz⟩:=I.list hq;have hlen:=rv.length;have hok:ObjOk X.prog X.w H s.heap p (zSH p a xs.length):=I.hok p _ hp;have hit:s.heap.IsRevIter p a ((xs.length:Int)-1):=hok.1;have hpl:p<s.heap.objs.size:=hok.lt;have hal:a<s.heap.objs.size:=by obtain⟨o,ho,_⟩:=pl.isList;exact qIx ho
     have mu:Mut (H p):=by rw[hp];trivial
     have st:0<=its.toArray.size/\s.heap.IsRevIter p a ((its.toArray.size:Int)-1-((0:Nat):Int))/\s.heap.IsList a its.toArray:=⟨qAu _,by
      have e:((its.toArray.size:Nat):Int)-1-((0:Nat):Int)=(xs.length:Int)-1:=by simp;lia
      rw[e];exact hit,pl.isList⟩
     refine zJA (zS9 p a hap its.toArray) (I.ok.hd hc) st (fun b hb=>by
      rcases qAf.mp hb with e|e
      ·rw[e];exact hpl
      ·rw[qAt.mp e];exact hal) (by simp;lia) fun h' tk acc' c' hk hu hl hi=>?_
     have hv:Vals xs.reverse acc'.toList:=by
      refine zKC (by simp[hi.1];lia) fun j u x h1 h2=>?_
      have hj:j<xs.length:=by have:=(qA3.mp h2).1;simpa using this
      have e1:=hi.2 j u (by rw[<- qB9];exact h1);rw[qDj hj]at h2;refine zLO rv _ u x ?_ h2;have e2:its.toArray.size-1-j=xs.length-1-j:=by simp;lia
      rw[e2]at e1;simpa using e1
     have hl0:H s.heap.objs.size=none:=I.fresh;exact⟨.ref _,_,I.walked (t':=tk) (o:=.lst xs.reverse) mu (qA6 _) (fun b o hb e=>hk b o hb e) hu ⟨by simpa using hz,acc'.toList,c',hv,by simpa using hl⟩,rfl,q _ (by rw[zAE (qBm hpl)];exact hl0)⟩
    ·have hok:ObjOk X.prog X.w H s.heap p (zRN p z):=I.hok p _ hp;obtain⟨t,hit⟩:∃t,IsRvd s.heap p z t ((z.length:Int)-1):=hok.1;have hpl:p<s.heap.objs.size:=hok.lt;have mu:Mut (H p):=by rw[hp];trivial
     have st:0<=z.length/\IsRvd s.heap p z t ((z.length:Int)-1-((0:Nat):Int)):=⟨qAu _,by simpa using hit⟩
     refine zJA (zS8 (I:=p) hz) (I.ok.hd hc) st (fun b hb=>by rw[qAt.mp hb];exact hpl) hz fun h' tk acc' c' hk hu hl hi=>?_
     have hsl:(zEC z).length=z.length:=by simp[zEC,qN0]
     have hv:Vals (zEC z).reverse acc'.toList:=by
      refine zKC (by simp[hi.1,hsl]) fun j u x h1 h2=>?_
      have hj:j<(zEC z).length:=by have:=(qA3.mp h2).1;simpa using this
      obtain⟨c,w,e1,rfl⟩:=hi.2 j u (by rw[<- qB9];exact h1);rw[qDj hj,hsl]at h2;unfold zEC at h2;rw[qA8,qB9,e1]at h2;cases h2;exact⟨w,rfl⟩
     have hl0:H s.heap.objs.size=none:=I.fresh;exact⟨.ref _,_,I.walked (t':=tk) (o:=.lst (zEC z).reverse) mu (qA6 _) (fun b o hb e=>hk b o hb e) hu ⟨by simpa[hsl]using hz,acc'.toList,c',hv,by simpa using hl⟩,rfl,q _ (by rw[zAE (qBm hpl)];exact hl0)⟩
   |cons _ _=>exact qAa h
  |_=>exact qAa h
theorem zGR:qJx "reversed" = some (.type "reversed"):=by decide +kernel
end
section
variable{X:Cx}{m:Str}{k:Nat}{E:XK}{o:Expr}{ta:TE}{apos pos:Pos}{tb:List (Addr×Sp)}
end
end L2
namespace L3
open PySem PySem.Spec
open PyProof.Rows (risingS sortedS ltCps_eq)
open L2 hiding Rep RepL
open Mi (Dt Xn R okR zA2 optR zA0 zA4 zA9 zA7 zA8 Rh Sl Ro EM TM AM FM IM SM OM Tg Out zAO zAN zAQ full frz frz1 frzAt)
section
variable[Kc]{mg:Str->Option Value}{E:XK}{L n k l:Nat}{te ta tb:TE}{e ea eb ma:EM}{t:TA}{m:AM}
end
section
variable[Kc]{mg:Str->Option Value}{E:XK}{L n k l:Nat}{t:TA}{m:AM}
end
end L3
namespace L3
open PySem PySem.Spec
open L2 hiding Rep RepL
open Mi (Dt Xn R okR zA2 optR zA0 zA4 zA9 zA7 zA8 Rh Sl Ro EM TM AM FM IM SM OM Tg Out zAO zAN zAQ full frz frz1 frzAt)
section
variable[Kc]{mg:Str->Option Value}{E:XK}{L n k l:Nat}{te ta tb:TE}{e ea eb ma:EM}{t:TA}{m:AM}
theorem zJ0{H:Hp}{p:Addr}(h:H p=none)(o u:HO):L2.Same H (upd (upd H p o) p u):=fun b w q=>by
 have hb:b≠p:=fun z=>by rw[z,h]at q;cases q
 rw[zAE hb,zAE hb];exact q
theorem za3(A:DA mg E t m 0):DE mg E (tCB (zTZ Kc.K) (zEA (tCB (zXY Kc.K) t) tNil)) (Mi.eBi Mi.rvsD m) 1:=by
 intro G H σ ρ Q s w p;refine A.step errE s w p fun ds vs G1 H1 S T _ fr o p1=>?_
 have p2:=PostE.from p1 fr.ext;have r:=o.repL;have s1:=fr.ext.in'
 match ds,r,p2 with
 |[.lst es],r,p2=>
  obtain⟨x,rfl,a,xs,rfl,ha,ra⟩:=zD5 r;have hs:SqL Kc.K H1 a xs:=SqL.of (s1 _ _ ha);refine⟨xs,hs,fun q hq=>.inl ⟨a,xs,zAG,fun z=>?_,hs.sq (L2.same_new hq _),fun l hl=>?_⟩⟩
  ·have:=s1 _ _ ha
   rw[z,hq]at this;cases this
  ·exact PostE.lst p2 (Ext.same s1 (zJ0 hq _ _)) (zLZ ra) hl
 |[.str z],r,p2=>
  obtain⟨x,rfl,hx⟩:=zD5 r;cases(show x=.str z from hx)
  rw[Mi.rvsD]at p2;split at p2
  ·rename_i hz
   have hzl:z.length<=sizeLine:=by rw[qJa];lia
   refine⟨hzl,fun q hq=>.inr ⟨z,zAG,hzl,fun l hl=>?_⟩⟩;exact PostE.lst p2 (Ext.same s1 (zJ0 hq _ _)) (zLZ (zND z)) hl
  ·exact p2.elim
 |[],_,p=>exact p.elim
 |[.non],_,p=>exact p.elim
 |[.bl _],_,p=>exact p.elim
 |[.int _],_,p=>exact p.elim
 |[.tup _],_,p=>exact p.elim
 |[.scr _],_,p=>exact p.elim
 |[.exc _ _ _],_,p=>exact p.elim
 |[.fn _ _],_,p=>exact p.elim
 |[.dsk _ _],_,p=>exact p.elim
 |[.fnc _],_,p=>exact p.elim
 |[.dtt _ _],_,p=>exact p.elim
 |[.loc _ _],_,p=>exact p.elim
 |[.ins _ _],_,p=>exact p.elim
 |[.dct _],_,p=>exact p.elim
 |x::_::_,_,p=>cases x<;>exact p.elim
end
end L3
namespace Mi
open PySem
noncomputable def kyD:Dt->Option (Sum Int Str)
 |.int i=>some (.inl i)
 |.str x=>some (.inr x)
 |_=>none
noncomputable def swD:Dt->Option Sw
 |.non=>some .non
 |.bl b=>some (.bl b)
 |.int i=>some (.int i)
 |.str x=>some (.str x)
 |_=>none
noncomputable def swT:Sw->Dt
 |.non=>.non
 |.bl b=>.bl b
 |.int i=>.int i
 |.str x=>.str x
noncomputable def getW(kvs:List (Sum Int Str×Sw))(k:Sum Int Str):Option Sw:=(kvs.find? fun p=>decide (p.1=k)).map (·.2)
noncomputable def putW(kvs:List (Sum Int Str×Sw))(k:Sum Int Str)(v:Sw):List (Sum Int Str×Sw):=
 if(kvs.any fun p=>decide (p.1=k))=true then kvs.map (fun p=>if p.1=k then(p.1,v)else p)else kvs++[(k,v)]
def zZO:EM:=fun _=>okR (.dct [])
def dinD(ng:Bool)(x y:Dt):Option Dt:=match y with
 |.dct kvs=>match kyD x with
  |some k=>some (.bl (if ng=true then !(getW kvs k).isSome else(getW kvs k).isSome))
  |none=>none
 |_=>none
def zaW(i:Nat)(e1 e2:EM):SM:=fun ρ=>zA2 (e2 (full ρ)) fun v=>match ρ[i]? with
 |some (some (.dct kvs,k+1))=>zA2 (e1 (full ρ)) fun y=>match kyD y,swD v with
  |some q,some u=>@ite _ (kvs.length<=100000) (qA2 _) (okR (.nx (ρ.set i (some (.dct (putW kvs q u),k+1))))) none
  |_,_=>none
 |_=>none
def zU2:List Dt->Option (List (Sum Int Str×Sw))
 |[]=>some []
 |.tup [a,b]::r=>match kyD a,swD b,zU2 r with
  |some k,some v,some q=>some ((k,v)::q)
  |_,_,_=>none
 |_::_=>none
def zaU(i:Nat)(e:EM):SM:=fun ρ=>match ρ[i]? with
 |some (some (.dct kvs,k+1))=>zA2 (e (full ρ)) fun d=>match d with
  |.lst ds=>match zU2 ds with
   |some ps=>@ite _ (kvs.length+ps.length<=50000) (qA2 _) (okR (.nx (ρ.set i (some (.dct (ps.foldl (fun m p=>putW m p.1 p.2) kvs),k+1))))) none
   |none=>none
  |_=>none
 |_=>none
end Mi
namespace L2
open PySem PySem.Spec PyProof.Rows
section
variable{prog:qIy}{w:World}{A:qJ2}{E:Value->qIv->Prop}{s:qIv}
end
section
variable{X:Cx}
theorem zH2:∀{ns:List Int}{us:List Value},Vals (ns.map V.int) us->qKg us ns
 |[],[],.nil=>.nil
 |n::ns,u::us,.cons ⟨t,e⟩ r=>by subst e;exact .cons _ _ (zH2 r)
theorem zH3:∀{ns:List Int}{us:List Value},qKg us ns->Vals (ns.map V.int) us
 |_,_,.nil=>.nil
 |_,_,.cons n t r=>.cons ⟨t,rfl⟩ (zH3 r)
end
section
variable{prog:qIy}{w:World}{A:qJ2}{E:Value->qIv->Prop}{s:qIv}
end
section
variable{prog:qIy}{w:World}{A:qJ2}{R:qLr->qIv->Prop}{I:Addr}{fp wr:List Addr}{G:Array qKh->Array qKh->Prop}{n:Nat}{St:Nat->qIv->Prop}{led:Bool}{items:Array Value}{ns:List Int}
end
section
variable{prog:qIy}{w:World}{A:qJ2}{R:qLr->qIv->Prop}{I:Addr}{fp wr:List Addr}{G:Array qKh->Array qKh->Prop}{n:Nat}{St:Nat->qIv->Prop}{led:Bool}{items:Array Value}{zs:List Str}
end
end L2
namespace L3
open PySem PySem.Spec
open L2 hiding Rep RepL
open Mi (Dt Xn R okR zA2 optR zA0 zA4 zA9 zA7 zA8 Rh Sl Ro EM TM AM FM IM SM OM Tg Out zAO zAN zAQ full frz frz1 frzAt)
section
variable[Kc]{mg:Str->Option Value}{E:XK}{L n k l:Nat}{te:TE}{e:EM}
section
variable{G0 H0 S0:Hp}{σ:St}{ρ:Ro}{G H:Hp}{As:Nat->Addr->Prop}
end
noncomputable def both(J G:Hp):Hp:=fun b=>match J b with
 |some o=>some o
 |none=>G b
end
section
variable[Kc]{mg:Str->Option Value}{E:XK}{L n k l:Nat}
end
section
variable[Kc]{mg:Str->Option Value}{E:XK}{L n k l:Nat}{te ta tb:TE}{e ea eb ma:EM}{t:TA}{m:AM}
end
end L3
namespace L2
open PySem
theorem uw1{P:List Value->Prop}(h:∀a,P [a]):∀us:List Value,us.length=1->P us
 |[a],_=>h a
theorem uw2{P:List Value->Prop}(h:∀a b,P [a,b]):∀us:List Value,us.length=2->P us
 |a::us,hl=>uw1 (P:=fun us=>P (a::us)) (h a) us (qIa hl)
theorem uw3{P:List Value->Prop}(h:∀a b c,P [a,b,c]):∀us:List Value,us.length=3->P us
 |a::us,hl=>uw2 (P:=fun us=>P (a::us)) (h a) us (qIa hl)
theorem oi{p q:Prop}(h:p\/q:=by first|exact qIs rfl|exact qIm rfl):p\/q:=h
end L2
namespace L3
open PySem PySem.Spec
open L2 hiding Rep RepL
open Mi (Dt Xn R okR zA2 optR zA0 zA4 zA9 zA7 zA8 Rh Sl Ro EM TM AM FM IM SM Tg Out zAO zAN zAQ full frz frz1 frzAt)
section
variable[Kc]
theorem Own.keep{G H H':Hp}:∀{n:Nat}{S:Addr->Prop}{d:Dt}{v:V},Own G H n S d v->(∀b o,S b->H b=some o->H' b=some o)->Own G H' n S d v
 |0,S,d,v,h,_=>h
 |n+1,S,d,v,h,hp=>by
  cases d with
  |lst ds=>obtain⟨a,xs,T,e,ha,k⟩:=h;exact⟨a,xs,T,e,hp _ _ k.top ha,k.imp (fun q _ _ _ w=>Own.keep w fun b o z=>hp b o (k.sub q _ z)) fun _ z=>z⟩
  |tup ds=>obtain⟨a,xs,T,e,ha,k⟩:=h;exact⟨a,xs,T,e,hp _ _ k.top ha,k.imp (fun q _ _ _ w=>Own.keep w fun b o z=>hp b o (k.sub q _ z)) fun _ z=>z⟩
  |dct kvs=>obtain⟨a,e,ha,hs⟩:=h;exact⟨a,e,hp _ _ hs ha,hs⟩
  |dtt ks ds=>obtain⟨a,T0,e0,xs,T,e,ha,hl,ht,k⟩:=h;exact⟨a,T0,e0,xs,T,e,hp _ _ k.top ha,hl,ht,k.imp (fun q _ _ _ w=>Own.keep w fun b o z=>hp b o (k.sub q _ z)) fun _ z=>z⟩
  |loc a d=>exact⟨h.1,Own.keep h.2 hp⟩
  |dsk w ws=>obtain⟨a,e,b,C,dx,h1,⟨h2,h3⟩,h4,h5⟩:=h;exact⟨a,e,b,C,dx,h1,⟨hp _ _ h4 h2,hp _ _ h5 h3⟩,h4,h5⟩
  |_=>exact h
section
variable{G0 H0 S0:Hp}{σ:St}{ρ:Ro}{G H:Hp}{As:Nat->Addr->Prop}
end
variable{mg:Str->Option Value}{E:XK}{L n k l:Nat}{te ta tb:TE}{e ea eb ma:EM}{t:TA}{m:AM}
end
section
variable[Kc]
section
variable{G H:Hp}{cl:Addr}{co:Obj}
mutual
theorem Rep.del(hc:G cl=some (cel co)):∀{d:Dt}{v:V},d.dep<=40->Rep G d v->Rep (del G cl) d v
 |.non,_,_,h=>h
 |.bl _,_,_,h=>h
 |.int _,_,_,h=>h
 |.str _,_,_,h=>h
 |.lst ds,_,hd,h=>by
  obtain⟨a,xs,e,e',r⟩:=h;exact⟨a,xs,e,(zUH (zNI e' hc (by simp))).trans e',RepL.del hc (by rw[Dt.dep]at hd;lia) r⟩
 |.tup ds,_,hd,h=>by
  obtain⟨a,xs,e,e',r⟩:=h;exact⟨a,xs,e,(zUH (zNI e' hc (by simp))).trans e',RepL.del hc (by rw[Dt.dep]at hd;lia) r⟩
 |.scr _,_,h,_=>by rw[Dt.dep]at h;lia
 |.exc _ _ _,_,h,_=>by rw[Dt.dep]at h;lia
 |.ins _ _,_,h,_=>by rw[Dt.dep]at h;lia
 |.dct _,_,h,_=>by rw[Dt.dep]at h;lia
 |.fn _ _,_,h,_=>by rw[Dt.dep]at h;lia
 |.dsk _ _,_,h,_=>by rw[Dt.dep]at h;lia
 |.fnc _,_,h,_=>by rw[Dt.dep]at h;lia
 |.dtt _ _,_,h,_=>by rw[Dt.dep]at h;lia
 |.loc _ _,_,h,_=>by rw[Dt.dep]at h;lia
theorem RepL.del(hc:G cl=some (cel co)):∀{ds:List Dt}{xs:List V},Dt.depL ds<=40->RepL G ds xs->RepL (del G cl) ds xs
 |[],_,_,h=>h
 |d::r,_,hd,h=>by
  rw[Dt.depL]at hd;obtain⟨x,q,e,a,b⟩:=h;exact⟨x,q,e,Rep.del hc (by lia) a,RepL.del hc (by lia) b⟩
end
end
variable{mg:Str->Option Value}{E:XK}{n:Nat}
end
end L3
namespace L3
open PySem PySem.Spec
open L2 hiding Rep RepL
open Mi (Dt okR)
section
variable[Kc]{mg:Str->Option Value}{E:XK}{L:Nat}
end
section
variable[Kc]{n:Nat}
end
end L3
namespace L3
open PySem PyProof.Rows
open L2 hiding Rep RepL
theorem fsc{N P:List Str}{sc:Scope}(a:sc.kind=.function:=by rfl)(b:sc.isCoroutine=false:=by rfl)(c:sc.isGenerator=false:=by rfl)(d:N.Nodup:=by decide +kernel)(e:N.take P.length=P:=by rfl)
  (f:∀x∈P,sc.names.lookup x=some .local\/sc.names.lookup x=some .cell:=by decide +kernel) (g:∀y∈sc.names,y.2≠.free:=by decide +kernel):FnScope N P sc:=⟨a,b,c,d,e,f,g⟩
section
variable{P:qIy}{w:World}{K:qA1}{mg:Str->Option Value}{base:Heap}{x:Str}{st:Stmt}{N ps:List Str}{k:Nat}{sp:Sp}
theorem dfM{L n:Nat}{m:Mi.SM}(D:Def K mg x st)(S:FnScope N ps (zAB st))
  (hb:∀(kV doc pm:Value)(an:Option Addr)(cdv ct:Value)(us:List Value),us.length=ps.length->bindArgs (qB7 x x (zAW st) (zAT st) (zAB st) .none kV doc pm an cdv ct) ⟨us,[]⟩=pure (ps.zip us))
  (hbody:∀{f:Addr}{cdv:Value}{A:qJ2}{outer:List Env}{s:qIv}{H:Hp}{vs:List V}{Q:VK}{E:XK},Room k (A.deeper (envOfC x (zAB st) s.heap.objs.size f cdv))->(A.deeper (envOfC x (zAB st) s.heap.objs.size f cdv)).units+64<cLine->sp0 K mg L (Mi.runF ps.length n m) vs H Q E ->
   ∃t,PSs (cxOf CX0 P w K mg base N x (zAB st) f cdv A outer s H E).nox (zAT st) t/\t { nx:=fun _ H'=>Q .non H',rt:=Q } (start N vs) H):Has P w K mg base x (k+1) ps (sp0 K mg L (Mi.runF ps.length n m)):=
 D.ok S hb (fun _ _ _ _ h=>@zHJ ⟨K⟩ _ _ _ _ _ _ _ _ _ h) fun _ _ _ _ _ _ _ _ _ hr h=>hbody hr hr.units h
theorem mkD{K:qA1}{h:Heap}{mg:Str->Option Value}{nm:Str}{st:Stmt}{f:Addr}{oc kV dc pm cd ct:Value}{od an:Option Addr}{sl:Array (Option Value)}(X:K.In h)(G:h.Ns qJ1 mg)(a:qBg K qJ1 nm=some (some (.ref f)))(l:K.lookup f=some ⟨oc,od,.func (qB7 nm nm (zAW st) (zAT st) (zAB st) .none kV dc pm an cd ct),sl⟩)(c:qCc K cd nm=true)(k:qB5 K (.ref f)=true):Def K mg nm st:=⟨f,_,zQ0 (st:=st) l c k,qC9 X G a⟩
end
section
variable{X:Cx}{pos:Pos}
theorem pgn(i:Nat){x:Str}(hN:decide X.N.Nodup=true:=by kernel_rfl)(hi:X.N[i]?=some x:=by rfl)(hx:Loc X.env.scope x:=by exact oi)(hf:X.fn x=true\/X.env.scope.names.lookup x=some .local:=by first|exact .inl rfl|exact .inr rfl|assumption):PG X (.Name x pos) (zEN i):=zBM (of_decide_eq_true hN) hi hx hf
theorem pst(i:Nat){x:Str}{e:Expr}{te:TE}{pos':Pos}(hN:X.N.Nodup)(he:PE X e te)(hi:X.N[i]?=some x:=by rfl)(hx:Loc X.env.scope x:=by exact oi)(hs:qM4 e (some (.Name x pos')) pos.line X.env=pure false:=by rfl)(hf:X.fn x=true\/X.env.scope.names.lookup x=some .local:=by first|exact .inl rfl|exact .inr rfl|assumption):PS X (.Assign [.Name x pos'] e pos) (tAsg te (zEN i)):=zY8 hN hi hx he hs hf
end
end L3
namespace L3
open PySem PySem.Spec PyProof.Rows
open L2 hiding Rep RepL
structure Tabs(K:qA1)(ts:List Addr):Prop where
 no:∀P∈ts,K.lookup P=none
 «in»:∀x∈makers,∀P,codP K x=some P->(lamK K x).isSome=true->P∈ts/\∃c,qBb K c P=true
theorem zIT{K:qA1}{ts:List Addr}(T:Tabs K ts){P:Addr}{u:HO}(h:tabK K P=some u):P∈ts/\(∃q,u=.lam q)/\∃c,qBb K c P=true:=by
 unfold tabK at h;cases e:makers.find? fun x=>codP K x==some P&&(lamK K x).isSome with
 |none=>rw[e]at h;cases h
 |some x=>
  rw[e]at h;cases h;have h1:=List.mem_of_find?_eq_some e;have h2:=List.find?_some e;simp only[qC6,beq_iff_eq]at h2;obtain⟨a,b⟩:=T.in x h1 P h2.1 h2.2;exact⟨a,⟨_,rfl⟩,b⟩
theorem zPH{P:qIy}{w:World}{K:qA1}{mg mb:Str->Option Value}{CX:CXT}{k:Nat}{fa a:Addr}{fd:qJl}{x:Str}{sp:Sp}{s₁:qIv}{vs:List Value}{ns:List Int}{ts:List Addr}
  (KX:K.In s₁.heap) (hT:∀P∈ts,s₁.heap.get? P=some (qFb #[])) (T:Tabs K ts) (hns:s₁.heap.Ns qJ1 mg) (hb:s₁.heap.Ns qKr mb) (hbb:∀x:Str,x≠"__name__"->mb x=qJx x) (hlim:s₁.heap.NoLimit)
  (hbm:∃bm ob,mg "__builtins__" = some (.ref bm)/\bm≠qKr/\s₁.heap.get? bm=some ob/\ob.cls=.type "module"/\ob.dict=some qKr/\ob.data=.plain) (hg:s₁.gens=#[])
  (ha:s₁.heap.get? a=some { cls:=.type "list",data:=.seq vs.toArray }) (hi:qKg vs ns) (hl:ns.length<=sizeLine) (hr:Room k qM3)
  (F:∀base:Heap,K.In base->base.Ns qJ1 mg->FnOk P w K mg base CX k fa fd [x] sp) (hbind:∀(s:qIv)(u:Value),qMd s fd ⟨[u],[]⟩ [(x,u)])
  (hsp:∀H:Hp,Same (tabK K) H->SqL K H a (ns.map V.int)->sp [.ref a] H (fun v H'=>v=.bl true/\Same (tabK K) H') fun _ _ _=>False)
  (hCX:∀H e s',CX [] H s₁ (fun _ _ _=>False) e s'->False) :
  qKf (model P w) qM3 (.call (.ref fa) ⟨[.ref a],[]⟩) (fun r s'=>r=.ok (.ret (.bool true))/\OldK s₁.heap s'.heap/\s'.os=s₁.os/\qL8 s'.gens) s₁:=by
 have rv:=zIR hi;have lenV:=hi.length;have tabO:∀{b:Addr}{u:HO},tabK K b=some u->s₁.heap.get? b=some (qFb #[]):=fun e=>hT _ (zIT T e).1
 have core:∀H:Hp,(∀b u,H b=some u->(b=a/\∃o xs,u=.frz o (.lst xs))\/tabK K b=some u)->Same (tabK K) H->SqL K H a (ns.map V.int)->HOk P w H s₁.heap->(∀b,H b≠none->K.lookup b=none) ->
   qKf (model P w) qM3 (.call (.ref fa) ⟨[.ref a],[]⟩) (fun r s'=>r=.ok (.ret (.bool true))/\OldK s₁.heap s'.heap/\s'.os=s₁.os/\qL8 s'.gens) s₁:=by
  intro H hO hTab hS hok hK;have base_of:∀{b:Addr}{o:Obj},s₁.heap.get? b=some o->H b=none->(hidT s₁.heap H).get? b=some o:=fun e n=>zSU e n
  have noA:∀{b:Addr}{o:Obj},s₁.heap.get? b=some o->(∀v,o.data≠.fields v)->(∀v n,o.data≠.seq v n)->H b=none:=fun{b o} e d1 d2=>by
   cases q:H b with
   |none=>rfl
   |some u=>
    rcases hO b u q with⟨z,_⟩|z
    ·subst z;rw[ha]at e;cases e;exact absurd rfl (d2 _ _)
    ·rw[tabO z]at e;cases e;exact absurd rfl (d1 _)
  have nsK:∀{b:Addr}{m:Str->Option Value},s₁.heap.Ns b m->(hidT s₁.heap H).Ns b m:=fun{b m} ⟨o,es,ep,e,d,r⟩=>⟨o,es,ep,base_of e (noA e (fun v z=>by rw[d]at z;cases z) fun v n z=>by rw[d]at z;cases z),d,r⟩
  have hKb:K.In (hidT s₁.heap H):=fun b o e=>base_of (KX b o e) (by
   cases q:H b with
   |none=>rfl
   |some u=>rw[hK b (by rw[q];simp)]at e;cases e)
  have hM:Mod K mg (hidT s₁.heap H):=⟨hKb,nsK hns,⟨mb,nsK hb,hbb⟩,let⟨mc,h1,h2⟩:=hlim;⟨mc,nsK h1,h2⟩,let⟨bm,ob,e1,e2,e3,e4,e5,e6⟩:=hbm;⟨bm,ob,e1,e2,base_of e3 (noA e3 (fun v z=>by rw[e6]at z;cases z) fun v n z=>by rw[e6]at z;cases z),e4,e5,e6⟩⟩
  have e0:Env0 P w K mg (hidT s₁.heap H) qM3 [] s₁ H:=⟨rfl,hM,fun b o e=>zVT e,qDk (zPU _ _),trivial,fun b hb=>absurd (show b∈([]:List Addr) from hb) (by simp),hok,.of_eq hg⟩
  refine codeAny_mono ((F _ hKb (nsK hns)).run qM3 [] s₁ H ⟨[.ref a],[]⟩ [.ref a] [.ref a] _ _ hr e0 (hbind s₁ (.ref a)) (.cons rfl .nil) (hsp H hTab hS)) fun r s' h=>?_
  cases r with
  |error e=>exact(hCX H e s' h).elim
  |ok fl=>
   cases fl with
   |next=>exact qAa h
   |brk=>exact qAa h
   |cont=>exact qAa h
   |ret u=>
    obtain⟨v,H',os,bare,un,hok',r',q,qT⟩:=h;subst q;obtain rfl:u=qLl true:=r';refine⟨rfl,⟨fun b o e=>?_,fun b o e=>un.there b o e (by simp)⟩,os,bare⟩;cases q:H b with
    |none=>exact .inl (un.keep b o e q (by intro z;exact absurd (show b∈([]:List Addr) from z) (by simp)) (by simp))
    |some u=>
     rcases hO b u q with⟨_,ob,xs,rfl⟩|z
     ·have z2:=un.frzs b ob _ q;obtain⟨e1,_⟩:=hok b _ q;obtain⟨e2,_⟩:=hok' b _ z2;rw[e]at e1;cases e1;exact .inl e2
     ·obtain⟨hts,⟨qq,rfl⟩,c,hc⟩:=zIT T z;obtain⟨ps,e2,_⟩:=hok' b _ (qT _ _ z);have e3:=hT b hts;rw[e3]at e;cases e;exact .inr (.inl ⟨((qFj KX hc).tab e3).isCodeTable,rfl,#[],ps,rfl,by rw[e2];simp⟩)
 have tOk:∀{H:Hp}{b:Addr}{u:HO},tabK K b=some u->ObjOk P w H s₁.heap b u:=fun{H b u} z=>by
  obtain⟨hts,⟨q,rfl⟩,_⟩:=zIT T z;exact⟨#[],hT b hts,trivial,fun pos cv y=>by simp[qL2]at y⟩
 have nta:tabK K a=none:=by
  cases z:tabK K a with
  |none=>rfl
  |some u=>have:=tabO z;rw[ha]at this;cases this
 cases hk:K.lookup a with
 |some o=>
  have e:=KX a o hk;rw[ha]at e;cases e;exact core (tabK K) (fun b u z=>.inr z) (Same.refl _) (.inr ⟨_,vs.toArray,_,hk,rfl,rfl,rfl,by rw[qAh,lenV];exact hl,by simpa using rv⟩) (fun b u z=>tOk z) fun b z=>by
   cases y:tabK K b with
   |none=>exact absurd y z
   |some u=>exact T.no b (zIT T y).1
 |none=>
  refine core (upd (tabK K) a (.frz { cls:=.type "list",data:=.seq vs.toArray } (.lst (ns.map V.int)))) (fun b u z=>?_) (fun b u z=>?_) (.inl (.inr ⟨{ cls:=.type "list",data:=.seq vs.toArray },zAG⟩)) (fun b u z=>?_) fun b z=>?_
  ·by_cases hb:b=a
   ·subst hb;rw[zAG]at z;cases z;exact .inl ⟨rfl,_,_,rfl⟩
   ·rw[zAE hb]at z;exact .inr z
  ·rw[zAE (zAH z nta)];exact z
  ·by_cases hb:b=a
   ·subst hb;rw[zAG]at z;cases z;exact⟨ha,by rw[qAi];exact hl,vs,_,rv,ha⟩
   ·rw[zAE hb]at z;exact tOk z
  ·by_cases hb:b=a
   ·subst hb;exact hk
   ·rw[zAE hb]at z;cases y:tabK K b with
    |none=>exact absurd y z
    |some u=>exact T.no b (zIT T y).1
theorem zR7{l:qDy}{n k:Nat}{q:qIy}{loose:List Str}{XP:(Str->Option Value)->Heap->Prop}{YP:World->Heap->Prop}{d:DefRec}{K:qN1->qA1}{CX:World->CXT}{sp:World->Sp}{x:Str}{ts:List Addr}
  (hn:l.most=some n) (hn2:n<=sizeLine) (hdf:d.params.defaults=[]) (hr:Room k qM3)
  (hY:∀(w:World)(h:Heap),YP w h->(K w.params).In h/\∀P∈ts,h.get? P=some (qFb #[]))
  (F:∀(w:World)(mg:Str->Option Value)(fa:Addr)(h:Heap),(K w.params).In h->h.Ns qJ1 mg->mg d.name=some (.ref fa) ->
   Tabs (K w.params) ts/\∃fd:qJl,(∀(s:qIv)(u:Value),qMd s fd ⟨[u],[]⟩ [(x,u)]) /\
    ∀base:Heap,(K w.params).In base->base.Ns qJ1 mg->FnOk l.prog w (K w.params) mg base (CX w) k fa fd [x] (sp w))
  (hsp:∀(w:World)(H:Hp)(a:Addr)(ns:List Int),ns.length<=n->(∀i∈ns,i.natAbs.log2<2 ^ 20)->Same (tabK (K w.params)) H->SqL (K w.params) H a (ns.map V.int)->sp w [.ref a] H (fun v H'=>v=.bl true/\Same (tabK (K w.params)) H') fun _ _ _=>False)
  (hCX:∀(w:World)(H:Hp)(s:qIv)(e:Value)(s':qIv),CX w [] H s (fun _ _ _=>False) e s'->False) :
  qFt q loose XP YP l.row.toRowW d [] (fun f vs=>qG5 f vs):=by
 refine Att.attach_callW hn hdf fun w s₀ s₁ mg mb fa o pm cd doc a vs ns G Y ho hd hcd hmg hobj hints hlen hw hg=>?_
 obtain⟨KX,hT⟩:=hY w _ Y;obtain⟨T,fd,hb,hF⟩:=F w mg fa _ KX G.T.g hmg;exact zPH KX hT T G.T.g G.T.b G.T.builtins G.T.nolimit G.T.bmain hg hobj hints (qAs hlen hn2) hr hF hb (fun H hO hS=>hsp w H a ns hlen hw hO hS) fun H e s'=>hCX w H s₁ e s'
end L3
namespace L2
open PySem PySem.Spec PyProof.Rows
section
variable{X:Cx}
theorem zVN{params:Arguments}{body:Expr}{scope:Scope}{pos:Pos}{c P:Addr}{q:Str}{clos:List (Str×Addr)}(hC:qBb X.K c P=true)(hdef:defaultsOf params X.env=([],[]):=by rfl)(hcode:X.env.code=.ref c:=by rfl)
  (hq:X.env.qual ++ "<lambda>" = q:=by rfl) (hcl:qMf scope X.env=pure clos:=by rfl):PE X (.Lambda params body scope pos) (tLam P q params body scope clos):=fun pins s σ H Q I h=>
 zYG hdef hcode (qFj I.ok.mod.kin hC) hq hcl pins s σ H Q I h
end
end L2
namespace L3
open PySem PySem.Spec
open L2 hiding Rep RepL
section
variable[Kc]{mg:Str->Option Value}{E:XK}{L:Nat}
end
end L3
namespace L3
open PySem PySem.Spec
open L2 hiding Rep RepL
open Mi (Dt Xn R okR zA2 optR zA0 zA4 zA9 zA7 zA8 Rh Sl Ro EM TM AM FM IM SM Tg Out full frz frz1 frzAt)
section
variable[Kc]{mg:Str->Option Value}{E:XK}{L:Nat}{tA tB:TT}{A B:TM}
end
end L3
namespace L3
open PySem PySem.Spec
open PyProof.Rows (risingS sortedS ltCps_eq)
open L2 hiding Rep RepL
open Mi (Dt Xn R okR zA2 optR zA0 zA4 zA9 zA7 zA8 Rh Sl Ro EM TM AM FM IM SM OM Tg Out zAO zAN zAQ full frz frz1 frzAt)
section
variable[Kc]{mg:Str->Option Value}{E:XK}{L n k l:Nat}{te ta td:TE}{e ea ed:EM}
end
end L3
namespace Mi
open PySem
noncomputable def lamF(n:Nat)(e:EM):FM:=fun ds=>if ds.length=n then e (ds.map some)else none
end Mi
namespace L3
open PySem PySem.Spec
open L2 hiding Rep RepL
open Mi (Dt EM FM okR)
structure LamOk(K:qA1)(mg:Str->Option Value)(k:Nat)(x:Str)(fm:FM):Prop where
 ex:∃(L:Arguments×Expr×Scope×Str)(ps:List Str)(e:EM),lamK K x=some L/\LamScope ps L.2.2.2 L.2.2.1 /\
  (∀(q:Str)(cl:Addr)(pm cdv ctv:Value)(us:List Value),us.length=ps.length->bindArgs (qCw "<lambda>" q L.1 L.2.1 L.2.2.1 [(L.2.2.2,cl)] pm cdv ctv) ⟨us,[]⟩=pure (ps.zip us)) /\
  fm=Mi.lamF (ps.length+1) e/\∀(X:Cx)(q:Str)(f:Addr)(cdv:Value)(cl:Addr)(s:qIv)(H:Hp),X.K=K->X.mg=mg->Room k (X.A.deeper (qE5 q L.2.2.1 s.heap.objs.size f cdv [(L.2.2.2,cl)])) ->
   ∃t,PE (zTD X (ps++[L.2.2.2]) q L.2.2.1 f cdv [(L.2.2.2,cl)] s H) L.2.1 t/\@DE ⟨K⟩ mg E0 t e 0
end L3
namespace L3
open PySem PyProof.Rows
open L2 hiding Rep RepL
structure Mkr(K:qA1)(mg:Str->Option Value)(x:Str)(st:Stmt)(P:Addr):Prop where
 ex:∃f fd c,Fun K x x st f fd/\mg x=some (.ref f)/\fd.code=.ref c/\qBb K c P=true
 lam:lamK K x=zKX (zAT st)
 tab:tabK K P=some (.lam (lamQ x))
section
variable{P:qIy}{w:World}{K:qA1}{mg:Str->Option Value}{base:Heap}{x:Str}{st:Stmt}{N ps:List Str}{k:Nat}{sp:Sp}{T:Addr}
theorem dfL{L n:Nat}{m:Mi.SM}(D:Mkr K mg x st T)(S:FnScope N ps (zAB st))
  (hb:∀(kV doc pm:Value)(an:Option Addr)(cdv ct:Value)(us:List Value),us.length=ps.length->bindArgs (qB7 x x (zAW st) (zAT st) (zAB st) .none kV doc pm an cdv ct) ⟨us,[]⟩=pure (ps.zip us))
  (hbody:∀{f c:Addr}{A:qJ2}{outer:List Env}{s:qIv}{H:Hp}{vs:List V}{Q:VK}{E:XK},qBb K c T=true->Room k (A.deeper (envOfC x (zAB st) s.heap.objs.size f (.ref c)))->(A.deeper (envOfC x (zAB st) s.heap.objs.size f (.ref c))).units+64<cLine->sp0 K mg L (Mi.runF ps.length n m) vs H Q E ->
   ∃t,PSs (cxOf CX0 P w K mg base N x (zAB st) f (.ref c) A outer s H E).nox (zAT st) t/\t { nx:=fun _ H'=>Q .non H',rt:=Q } (start N vs) H):Has P w K mg base x (k+1) ps (sp0 K mg L (Mi.runF ps.length n m)):=by
 obtain⟨f,fd,c,F,hm,hc,hC⟩:=D.ex;refine⟨f,fd,?_,hm,F.kp,F.binds hb⟩;obtain⟨oc,od,kV,doc,pm,an,cdv,ct,osl,rfl,lk,hcd⟩:=F.ex;have hc':cdv=.ref c:=hc;subst hc';refine zWI lk hcd S (fun _ _ _ _ h=>@zHJ ⟨K⟩ _ _ _ _ _ _ _ _ _ h) fun A outer s H vs Q E hr hsp=>?_
 obtain⟨t,h,q⟩:=hbody hC hr hr.units hsp;exact⟨t,h.nox,q⟩
end
theorem lsc{ps:List Str}{nm:Str}{sc:Scope}(a:sc.kind=.function:=by rfl)(b:sc.isCoroutine=false:=by rfl)(c:sc.isGenerator=false:=by rfl)(d:(ps++[nm]).Nodup:=by decide +kernel)
  (f:∀x∈ps,sc.names.lookup x=some .local:=by decide +kernel) (g:sc.names.lookup nm=some .free:=by rfl) (h:∀y∈sc.names,y.2≠.cell:=by decide +kernel) (i:∀y∈sc.names,y.2=.free->y.1=nm:=by decide +kernel):LamScope ps nm sc:=
 ⟨a,b,c,d,f,g,h,fun x hx=>i (x,.free) (qBq hx) rfl⟩
theorem lam1{K:qA1}{mg:Str->Option Value}{k:Nat}{x:Str}{fm:Mi.FM}(h:LamOk K mg k x fm):∀y gm,([(x,fm)]:List (Str×Mi.FM)).lookup y=some gm->LamOk K mg k y gm:=fun y gm e=>by
 simp only[qCo]at e;split at e
 ·rename_i z
  cases e;rw[beq_iff_eq.mp z];exact h
 ·cases e
structure Mk1(K:qA1)(ts:List Addr)(x:Str)(r:Option Addr):Prop where
 cod:codP K x=r
 lam:(lamK K x).isSome=r.isSome
 hd:∀P,r=some P->P∈ts/\∃c,qBb K c P=true
theorem mk1_none{K:qA1}{ts:List Addr}{x:Str}(a:qBg K qJ1 x=some none):Mk1 K ts x none:=
 ⟨by unfold codP;rw[a],by unfold lamK;rw[a];rfl,fun _ z=>by cases z⟩
structure Tb(K:qA1)(ts:List Addr)(r1 r2 r3 r4:Option Addr):Prop where
 m1:Mk1 K ts "turned_at" r1
 m2:Mk1 K ts "exchanged_at" r2
 m3:Mk1 K ts "pivoted" r3
 m4:Mk1 K ts "_law_beside" r4
section
variable{K:qA1}{ts:List Addr}{r1 r2 r3 r4:Option Addr}
theorem Tb.eq(T:Tb K ts r1 r2 r3 r4)(P:Addr):tabK K P=if(r1==some P&&r1.isSome)=true then some (.lam (lamQ "turned_at"))else if(r2==some P&&r2.isSome)=true then some (.lam (lamQ "exchanged_at"))else if(r3==some P&&r3.isSome)=true then some (.lam (lamQ "pivoted"))else if(r4==some P&&r4.isSome)=true then some (.lam (lamQ "_law_beside"))else none:=by
 unfold tabK makers;simp only[List.find?,T.m1.cod,T.m1.lam,T.m2.cod,T.m2.lam,T.m3.cod,T.m3.lam,T.m4.cod,T.m4.lam];split
 ·rename_i h;rw[if_pos h];rfl
 ·rename_i h
  rw[if_neg (by rw[h];simp)]
  split
  ·rename_i h;rw[if_pos h];rfl
  ·rename_i h
   rw[if_neg (by rw[h];simp)]
   split
   ·rename_i h;rw[if_pos h];rfl
   ·rename_i h
    rw[if_neg (by rw[h];simp)]
    split
    ·rename_i h;rw[if_pos h];rfl
    ·rename_i h;rw[if_neg (by rw[h];simp)];rfl
theorem Tb.tabs(T:Tb K ts r1 r2 r3 r4)(no:∀P∈ts,K.lookup P=none):Tabs K ts:=⟨no,fun x hx P h _=>by
 unfold makers at hx;simp only[qAf,qEr,or_false]at hx;rcases hx with rfl|rfl|rfl|rfl
 ·exact T.m1.hd P (T.m1.cod.symm.trans h)
 ·exact T.m2.hd P (T.m2.cod.symm.trans h)
 ·exact T.m3.hd P (T.m3.cod.symm.trans h)
 ·exact T.m4.hd P (T.m4.cod.symm.trans h)⟩
end
def TbE(K:qA1)(ts:List Addr):Prop:=∃r1 r2 r3 r4,Tb K ts r1 r2 r3 r4
theorem zbL{K:qA1}{c P:Addr}{d:Option Addr}{vs:Array Value}{s:Array (Option Value)}(lc:K.lookup c=some ⟨.type "code",d,.fields vs,s⟩)(h:qBb [(c,⟨.type "code",d,.fields vs,s⟩)] c P=true):qBb K c P=true:=by
 unfold qBb at h ⊢;rw[lc];simpa using h
structure MkS(K:qA1)(mg:Str->Option Value)(ts:List Addr)(x:Str)(st:Stmt)(P:Addr):Prop where
 ex:∃f fd c,Fun K x x st f fd/\mg x=some (.ref f)/\fd.code=.ref c/\qBb K c P=true
 lam:lamK K x=zKX (zAT st)
 mk1:Mk1 K ts x (some P)
theorem mkS{K:qA1}{h:Heap}{mg:Str->Option Value}{ts:List Addr}{nm:Str}{st:Stmt}{f c P:Addr}{oc kV dc pm ct:Value}{od an d:Option Addr}{sl s:Array (Option Value)}{vs:Array Value}(X:K.In h)(G:h.Ns qJ1 mg)(a:qBg K qJ1 nm=some (some (.ref f)))
  (l:K.lookup f=some ⟨oc,od,.func (qB7 nm nm (zAW st) (zAT st) (zAB st) .none kV dc pm an (.ref c) ct),sl⟩) (e:qCc K (.ref c) nm=true) (k:qB5 K (.ref f)=true)
  (lc:K.lookup c=some ⟨.type "code",d,.fields vs,s⟩) (h11:vs[11]?=some (.ref P)) (hh:qBb [(c,⟨.type "code",d,.fields vs,s⟩)] c P=true) (hl:(zKX (zAT st)).isSome=true) (hP:P∈ts):MkS K mg ts nm st P:=by
 have hC:=zbL lc hh;have hlam:lamK K nm=zKX (zAT st):=by unfold lamK;rw[a];dsimp only;rw[l]
 refine⟨⟨f,_,c,zQ0 (st:=st) l e k,qC9 X G a,rfl,hC⟩,hlam,⟨?_,by rw[hlam,hl];rfl,fun P' z=>by cases z;exact⟨hP,c,hC⟩⟩⟩;unfold codP;rw[a];dsimp only;rw[l];dsimp only;rw[lc];dsimp only;rw[h11]
theorem with1{K:qA1}{mg:Str->Option Value}{ts:List Addr}{x:Str}{st:Stmt}{P:Addr}{C:Prop}(M:MkS K mg ts x st P)(r:MkS K mg ts x st P->TbE K ts/\C):TbE K ts/\C:=r M
def MkrE(K:qA1)(mg:Str->Option Value)(x:Str)(st:Stmt):Prop:=∃P,Mkr K mg x st P
theorem MkS.mkr{K:qA1}{mg:Str->Option Value}{ts:List Addr}{x:Str}{st:Stmt}{P:Addr}(S:MkS K mg ts x st P)(h:tabK K P=some (.lam (lamQ x))):MkrE K mg x st:=⟨P,S.ex,S.lam,h⟩
theorem zb9{K:qN1->qA1}{as ts:List Addr}(e:∀P,as=(K P).map (·.1))(h:∀P∈ts,P∉as)(q:qN1):∀P∈ts,(K q).lookup P=none:=fun P hP=>by
 rw[qEl];intro p hp;have:p.1∈as:=by rw[e q];exact qFg hp
 have ne:P≠p.1:=fun z=>h P hP (z▸this)
 simpa using ne
theorem walk_ofM{l:qDy}{n k:Nat}{q:qIy}{loose:List Str}{XP:(Str->Option Value)->Heap->Prop}{d:DefRec}{K:qN1->qA1}{x:Str}{as ts:List Addr}{e:∀P,as=(K P).map (·.1)}
  (hn:l.most=some n) (h63:n<=63) (hdf:d.params.defaults=[]) (hr:Room k qM3) (hts:∀P∈ts,P∉as)
  (F:∀(w:World)(mg:Str->Option Value)(fa:Addr)(h:Heap),(K w.params).In h->h.Ns qJ1 mg->mg d.name=some (.ref fa) ->
   TbE (K w.params) ts/\∃fd:qJl,(∀(s:qIv)(u:Value),qMd s fd ⟨[u],[]⟩ [(x,u)]) /\
    ∀base:Heap,(K w.params).In base->base.Ns qJ1 mg->FnOk l.prog w (K w.params) mg base CX0 k fa fd [x] (zGS (K w.params))) :
  qFt q loose XP (qHg K as e ts).says l.row.toRowW d [] (fun f vs=>qG5 f vs):=
 zR7 (K:=K) (ts:=ts) (CX:=fun _=>CX0) (sp:=fun w=>zGS (K w.params)) hn (qAs h63 (by decide)) hdf hr (fun w h Y=>⟨PySem.W.km_in_of Y,PySem.W.km_tabs_of Y⟩)
  (fun w mg fa h KX G hm=>let⟨⟨_,_,_,_,T⟩,r⟩:=F w mg fa h KX G hm;⟨T.tabs (zb9 e hts w.params),r⟩)
  (fun _ _ a ns hl hw hT hS=>⟨a,ns,rfl,hT,hS,qAs hl h63,hw,fun _ z=>⟨rfl,z⟩⟩) fun _ _ _ _ _ z=>z
end L3
namespace PySem
open Sem (wp)
section
variable{prog:qIy}{w:World}{A:qJ2}{K:Type}[DecidableEq K]{knd:KeyKind prog w K}
end
end PySem
namespace Mi
noncomputable def slZ:Dt->Option Int->Option Int->Option Dt
 |.scr ns,none,some b=>@ite _ ((ns.length:Int)<=b) (qA2 _) (some (.scr ns)) none
 |_,_,_=>none
def eSlZ(a:EM)(lo hi:OM):EM:=fun ρ=>zA2 (a ρ) fun x=>zA2 (lo ρ) fun l=>zA2 (hi ρ) fun h=>optR (slZ x l h)
end Mi
namespace L2
open PySem PySem.Spec PyProof.Rows
section
variable{X:Cx}
theorem zWY{n:Nat}{b:Int}(h:(n:Int)<=b):qK4 none (some b) 1 (n:Int)=(0,(n:Int)):=by
 unfold qK4;have h1:¬((1:Int)<0):=by decide
 have h2:¬(b<0):=by lia
 simp only[h1,h2,if_false];congr 1;lia
theorem zVL(n:Nat):qJp 0 (n:Int) 1=n:=by
 unfold qJp;have h1:(1:Int)>0:=by decide
 simp only[h1,if_true,qI9];split<;>lia
theorem zXK{prog:qIy}{w:World}{A:qJ2}{E:Value->qIv->Prop}{s:qIv}{sl:Addr}{n:Nat}{b:Int}{u:Tok}{Q:Int×Int×Nat->qIv->Prop}(hs:s.heap.IsSliceOf sl .none (.int b u) .none)(hb:(n:Int)<=b)(h:Q (0,1,n) s):wpAny (model prog w) A (qKw (.ref sl) (pure (n:Int))) Q E s:=by
 obtain⟨os,hos,hcs,hds⟩:=id hs;unfold qKw qMx;refine wpAny_bind (wpAny_bind (wpAny_field hos hds (x:=.none) rfl (wpAny_bind (wpAny_field hos hds (x:=.int b u) rfl (wpAny_bind (wpAny_field hos hds (x:=.none) rfl (wpAny_pure ?_)))))));refine wpAny_bind (slicePart_none ?_);show wpAny _ _ (if((1:Int)==0)=true then _ else _) _ _ s;rw[if_neg (by decide)];refine wpAny_bind (slicePart_none (wpAny_bind (slicePart_int (wpAny_bind (wpAny_pure ?_)))));show wpAny _ _ (match qK4 none (some b) 1 (n:Int)with|(lo,hi)=>pure (lo,(1:Int),qJp lo hi 1)) _ _ s;rw[zWY hb];show wpAny _ _ (pure ((0:Int),(1:Int),qJp (0:Int) (n:Int) 1)) _ _ s;rw[zVL];exact wpAny_pure h
theorem zWG{prog:qIy}{w:World}{A:qJ2}{E:Value->qIv->Prop}{s:qIv}{t sl:Addr}{items:Array Value}{b:Int}{u:Tok}{Q:Value->qIv->Prop}(ht:IsTup s.heap t items)(hs:s.heap.IsSliceOf sl .none (.int b u) .none)(hb:(items.size:Int)<=b)(h:Q (.ref t) s) :
  wpAny (model prog w) A (getItem (.ref t) (.ref sl)) Q E s:=by
 obtain⟨os,hos,hcs,hds⟩:=id hs;have hTs:s.TypeIs (.ref sl) "slice":=⟨os,hos,hcs⟩;unfold getItem
 try with_reducible refine wpAny_holding ?_
 first|refine wpAny_bind (wpAny_pure ?_)|skip
 refine wpAny_bind (wpAny_sequenceKey ht.typeIs (by decide) ?_);refine wpAny_bind (wpAny_callSpecial?_slot (name:=qJj "__getitem__") ht.typeIs qKb
  (wpAny_call_entry qKb ht.typeIs entry_tuple_getitem ?_ (args_tuple_getitem _ _)))
 show wpAny _ _ (qMv (.ref t) >>= _) _ _ s;refine wpAny_bind (tupleItemsOf_ ht ?_);refine wpAny_bind (wpAny_typeOf hTs ?_);rw[if_pos (by decide)];refine wpAny_bind (zXK hs hb ?_);show wpAny _ _ (if((0:Int)==0&&(1:Int)==1&&items.size==items.size)=true then _ else _) _ _ s;rw[if_pos (by simp)];unfold qMw;refine wpAny_bind (wpAny_bind (wpAny_typeOf ht.typeIs (wpAny_pure ?_)));rw[if_pos (by decide)];refine wpAny_bind (wpAny_rule ?_);exact wpAny_pure ⟨_,rfl,wpAny_pure h⟩
def rSlZ(K:qA1):V->Option Int->Option Int->Hp->VK->Prop:=fun x lo hi H Q=>∃a xs b,x=.ref a/\lo=none/\hi=some b/\(xs.length:Int)<=b/\((SqL K H a xs/\∀p,H p=none->Q (.ref p) (upd H p (.lst xs)))\/(SqT K H a xs/\Q (.ref a) H))
theorem zWS{xs:List V}{b:Int}(h:(xs.length:Int)<=b):cutV xs none (some b)=xs:=by
 unfold cutV HT.sIx;have:¬b<0:=by lia
 simp only[this,if_false,qCv,qIb];exact qC5 (by lia)
theorem zaO{K:qA1}(hK:X.K=K:=by rfl):SlR X (rSlZ K):=by
 subst hK;intro pins s σ H x v vl vu lo hi sl Q I rx hs pl pu h;obtain⟨a,xs,b,rfl,rfl,rfl,hb,h|⟨h,q⟩⟩:=h
 ·refine zOH pins s σ H _ v vl vu none (some b) sl Q I rx hs pl pu ⟨a,xs,rfl,h.1,fun p hp=>?_⟩;rw[zWS hb];exact h.2 p hp
 ·cases rx;cases pl;cases pu;obtain⟨its,r,ht,hz⟩:=I.tuple h;have hlen:=r.length;refine⟨"tuple",_,qKb.lookup,ht.typeIs,zWG ht hs (by rw[qAh,<- hlen];exact hb) ⟨.ref a,H,I,rfl,q⟩⟩
end
end L2
namespace L3
open PySem PySem.Spec
open L2 hiding Rep RepL
open Mi (Dt Xn R okR zA2 optR zA0 zA4 zA9 zA7 zA8 Rh Sl Ro EM TM AM FM IM SM OM Tg Out zAO zAN zAQ full frz frz1 frzAt)
section
variable[Kc]{mg:Str->Option Value}{E:XK}{n k:Nat}{te:TE}{e:EM}
theorem za1{tl th:TO}{ml mh:OM}(A:DE mg E te e k)(B:DO mg E tl ml)(C:DO mg E th mh):DE mg E (tSl (rSlZ Kc.K) te tl th) (Mi.eSlZ e ml mh) 0:=by
 intro G H σ ρ Q s w p;refine(zAS A).step errE s w p fun d v G1 H1 S _ fr o p1=>?_
 refine B.step (errE.from fr.ext) fr.ext.in' (w.mono fr.ext.g) p1 fun lo H2 _ s2 p2=>?_
 have x2:=fr.ext.trans (Ext.same fr.ext.in' s2);refine C.step (errE.from x2) x2.in' (w.mono fr.ext.g) p2 fun hi H3 _ s3 p3=>?_
 have x3:=x2.trans (Ext.same x2.in' s3);have p4:=PostE.from p3 x3;cases d with
 |scr ns=>
  cases lo with
  |some _=>exact p4.elim
  |none=>
   cases hi with
   |none=>exact p4.elim
   |some b=>
    rw[Mi.slZ]at p4;by_cases hb:(ns.length:Int)<=b
    ·rw[if_pos hb]at p4;obtain⟨a,rfl,ha⟩:=o;refine⟨a,ns.map V.int,b,rfl,rfl,rfl,by rw[qAi];exact hb,?_⟩
     rcases ha with ha|hk
     ·exact .inl ⟨x3.in'.seq ha,fun q hq=>PostE.kept p4 (Ext.new x3.in' hq _) ⟨q,rfl,.inl (SqL.of zAG)⟩⟩
     ·exact .inr ⟨hk.t,PostE.kept p4 (Ext.refl x3.in') ⟨a,rfl,.inr hk⟩⟩
    ·rw[if_neg hb]at p4;exact p4.elim
 |_=>exact p4.elim
end
end L3
namespace Mi
end Mi
namespace Mi
open PySem
end Mi
namespace L2
open PySem PySem.Spec PyProof.Rows
section
variable{prog:qIy}{w:World}{A:qJ2}{E:Value->qIv->Prop}{s:qIv}
theorem zSP{d:Addr}{o:Obj}{es:Array DictEntry}{ep:Nat}{Q:Value->qIv->Prop}(hd:(d==qJz)=false)(ho:s.heap.get? d=some o)(hc:o.ExactDict)(hdat:o.data=.dict es ep)
  (hQ:Q (.ref s.heap.objs.size) { s with heap:=s.heap.push { cls:=.type "dict_keyiterator",data:=.fields #[.ref d,.int 0 0,.int es.size 0,.int ep 0] } }) :
  wpAny (model prog w) A (pyIter (.ref d)) Q E s:=by
 have hT:s.TypeIs (.ref d) "dict":=⟨o,ho,hc.1⟩;refine qMi hT qMp (wpAny_call_entry qMp hT F.entry_dict_iter ?_ (F.args_dict_iter_1 _));unfold qKm.«dict.__iter__» Builtin.Dict.dictSlotNone;refine wpAny_bind (wpAny_bind (wpAny_notOrdered_dict hT (wpAny_pure ?_)));show wpAny _ _ (qLk d >>= _) _ _ s;unfold qLk;rw[if_neg (by rw[hd];exact qAe)];refine wpAny_bind (wpAny_pure (wpAny_bind (wpAny_dictEntries ho hdat (wpAny_bind (wpAny_dictEpoch ho hdat ?_)))));refine wpAny_bind (wpAny_newObj_type (wpAny_pure ⟨_,rfl,"dict_keyiterator",_,⟨_,qIw _ rfl,rfl⟩,qJe.lookup,?_⟩))
 simpa[rawInt]using hQ
theorem zSC{it d:Addr}{o:Obj}{es:Array DictEntry}{i ep:Nat}{Q:Option Value->qIv->Prop}(hit:s.heap.IsKeyIter it d i es.size ep)(ho:s.heap.get? d=some o)(hdat:o.data=.dict es ep)(hlt:i<es.size)
  (hQ:∀h',h'.IsKeyIter it d (i+1) es.size ep->qKj it s.heap h'->Q (some es[i].key) { s with heap:=h' }) :
  wpAny (model prog w) A (pyNext (.ref it)) Q E s:=by
 obtain⟨oi,hoi,hci,hdi⟩:=id hit;unfold pyNext;refine wpAny_bind (wpAny_attempt (wpAny_callSpecial?_slot (name:=qJj "__next__") hit.typeIs qJe
  (wpAny_call_entry qJe hit.typeIs qKn ?_ (qKk _))))
 refine wpAny_bind (wpAny_pure (wpAny_bind (wpAny_bind ?_)))
 first|refine wpAny_bind (wpAny_typeNameOfWhole_keyiter hit.typeIs (wpAny_pure ?_))|refine wpAny_bind (wpAny_typeNameOf_keyiter hit.typeIs (wpAny_pure ?_))
 refine wpAny_bind (wpAny_fieldsOf hoi hdi ?_);simp only[show qKp "dict_keyiterator" = false by decide,qC8,if_false];show wpAny _ _ (if(qJ0 d==qJ4)=true then _ else _) _ _ s;rw[if_neg (show ¬((qJ0 d==qJ4)=true) from qAe)];refine wpAny_bind (wpAny_pure (wpAny_bind (wpAny_dictEntries ho hdat ?_)));rw[if_neg (by simp)];refine wpAny_bind (wpAny_pure (wpAny_bind (wpAny_dictEpoch ho hdat ?_)));rw[if_neg (by simp)];refine wpAny_pure ?_;simp only[show ¬((i:Int)<0) from by lia,if_false,qB0,qCd hlt];refine wpAny_bind ?_
 first|refine wpAny_bind (wpAny_typeNameOfWhole_keyiter hit.typeIs (wpAny_pure ?_))|refine wpAny_bind (wpAny_typeNameOf_keyiter hit.typeIs (wpAny_pure ?_))
 refine wpAny_bind (wpAny_isOneOf_keyiter hit.typeIs ?_);show wpAny _ _ (setField (.ref it) 1 (rawInt ((i:Int)+1)) >>= _) _ _ s;refine wpAny_bind (wpAny_setField hoi hdi (by simp) ?_);have hit':(s.heap.update it (qJ6 (·.setIfInBounds 1 (rawInt ((i:Int)+1))))).IsKeyIter it d (i+1) es.size ep:=
  ⟨_,qJ3 _ hoi (qJc (qJ7 hdi _)),(qL5 ..).trans hci,by rw[qJ7 hdi];simp[rawInt]⟩
 refine wpAny_bind (wpAny_holding ?_);refine wpAny_bind (wpAny_isOneOf_keyiter (s:={ s with heap:=s.heap.update it (qJ6 (·.setIfInBounds 1 (rawInt ((i:Int)+1)))) }) hit'.typeIs ?_);exact wpAny_pure (wpAny_pure ⟨_,rfl,wpAny_pure (hQ _ hit' (qJb ..))⟩)
theorem zWK{it d:Addr}{o:Obj}{es:Array DictEntry}{i ep:Nat}{Q:Option Value->qIv->Prop}(hh:A.handled=none)(hit:s.heap.IsKeyIter it d i es.size ep)(ho:s.heap.get? d=some o)(hdat:o.data=.dict es ep)(hge:es.size<=i)
  (hQ:∀h',qM1 it s.heap h'->Q none { s with heap:=h' }):wpAny (model prog w) A (pyNext (.ref it)) Q E s:=by
 obtain⟨oi,hoi,hci,hdi⟩:=id hit;unfold pyNext;refine wpAny_bind (wpAny_attempt (wpAny_callSpecial?_slot (name:=qJj "__next__") hit.typeIs qJe
  (wpAny_call_entry qJe hit.typeIs qKn ?_ (qKk _))))
 refine wpAny_bind (wpAny_pure (wpAny_bind (wpAny_bind ?_)))
 first|refine wpAny_bind (wpAny_typeNameOfWhole_keyiter hit.typeIs (wpAny_pure ?_))|refine wpAny_bind (wpAny_typeNameOf_keyiter hit.typeIs (wpAny_pure ?_))
 refine wpAny_bind (wpAny_fieldsOf hoi hdi ?_);simp only[show qKp "dict_keyiterator" = false by decide,qC8,if_false];show wpAny _ _ (if(qJ0 d==qJ4)=true then _ else _) _ _ s;rw[if_neg (show ¬((qJ0 d==qJ4)=true) from qAe)];refine wpAny_bind (wpAny_pure (wpAny_bind (wpAny_dictEntries ho hdat ?_)));rw[if_neg (by simp)];refine wpAny_bind (wpAny_pure (wpAny_bind (wpAny_dictEpoch ho hdat ?_)));rw[if_neg (by simp)];refine wpAny_pure ?_;simp only[show ¬((i:Int)<0) from by lia,if_false,qB0,qEw hge];refine wpAny_bind ?_
 first|refine wpAny_bind (wpAny_typeNameOfWhole_keyiter hit.typeIs (wpAny_pure ?_))|refine wpAny_bind (wpAny_typeNameOf_keyiter hit.typeIs (wpAny_pure ?_))
 show wpAny _ _ (setField (.ref it) 0 .none >>= _) _ _ s;refine wpAny_bind (wpAny_setField hoi hdi (by simp) ?_);show wpAny _ _ (newExc (.type "StopIteration") [] >>= _) _ _ _;refine wpAny_bind ?_;simp only[newExc,newTuple];refine wpAny_bind (wpAny_newObj_type ?_ (by size_fits));refine wpAny_bind (m:=qK3 _ _) (wpAny_of_eq (a:=qJ4) (by first|rfl|(simp only[qK3];rfl)) ?_);refine wpAny_newObj_type ?_ (by size_fits);simp only[raiseNew];refine wpAny_bind (wpAny_handled ?_);rw[show A.in1.handled=none from hh];refine wpAny_bind (wpAny_pure (wpAny_throw ?_));refine wpAny_bind (wpAny_isInstance (T:="StopIteration") (b:=true) ⟨_,qIw _ rfl,rfl⟩ qLs ?_);exact wpAny_pure (hQ _ (((qJb ..).extBut.push _).push _))
end
noncomputable def Itd(a:Addr)(e0 n:Nat):It:=
 ⟨fun i H=>i<n/\∃T kvs,H a=some (.dT T e0 kvs)/\kvs.length=n,
  fun i H x H'=>H'=H/\∀T kvs,H a=some (.dT T e0 kvs)->kvs.length=n->∃b p,x=.ref b/\kvs[i]?=some p/\TupK H b p.1/\T b,
  fun i H=>n<=i/\∃T kvs,H a=some (.dT T e0 kvs)/\kvs.length=n⟩
theorem zbE{H:Hp}{T:Addr->Prop}{kvs:List (List KeyN×V)}{xs:List (List KeyN×Addr×Value)}(r:KT H T kvs xs):∀{i:Nat}{q:List KeyN×Addr×Value},xs[i]?=some q->∃p,kvs[i]?=some p/\TupK H q.2.1 p.1/\T q.2.1:=by
 induction r with
 |nil=>intro i q h;simp at h
 |@cons p q ps qs h t ih=>
  intro i c e;cases i with
  |zero=>simp at e;subst e;exact⟨p,rfl,h.2.1⟩
  |succ i=>simp at e;obtain⟨p',h1,h2⟩:=ih e;exact⟨p',by simpa using h1,h2⟩
section
variable{P:qIy}{w:World}{K:qA1}{tg:Expr}
theorem zO7(a it:Addr)(e0 n:Nat):Turn P w K tg (Itd a e0 n) [it] it (fun i h=>h.IsKeyIter it a i n e0) where
 mem:=by simp
 obj:=fun i h st b hb=>by
  have e:b=it:=by simpa using hb
  subst e;obtain⟨o,e,c,d⟩:=st;exact⟨o,e,fun v z=>by rw[d]at z;cases z⟩
 keep:=fun i h h' st k=>by
  obtain⟨o,e,c,d⟩:=st;exact⟨o,k it (by simp) o e,c,d⟩
 item:=by
  intro X hP hw hK hc i pins s σ H E I hf st hg;subst hP hw hK;obtain⟨hi,T,kvs,hq,hn⟩:=hg;obtain⟨z,y,xs,r,o,es,ep,h1,h2,h3,h4,h5,rfl⟩:=(show ObjOk X.prog X.w H s.heap a (.dT T e0 kvs) from I.hok a _ hq)
  have hl:=qK9 r;have hes:es.size=n:=by
   have:=congrArg qD9 h4;simp at this;lia
  subst hes;obtain⟨f0,f1,f2,f3,f4,f5⟩:=hf it (by simp);refine zSC st h1 h3 hi fun h' st' sb=>?_
  have I1:Inv X pins σ H { s with heap:=h' }:=I.turned (t':=s.toks) (fun b o hb e=>(sb.2 b hb).trans e) f0 f1 f3 f4 f5;obtain⟨o',e',c',d'⟩:=id st';have hx:xs[i]?=some (xs[i]'(by lia)):=qA5 (by lia);obtain⟨p,hp,htk,hT⟩:=zbE r hx;have hk:es[i].key=.ref (xs[i]'(by lia)).2.1:=by
   have h6:es.toList[i]?=some es[i]:=by rw[qB9];exact qCd hi
   rw[h4,qA8,hx]at h6;simp at h6;rw[<- h6];rfl
  refine⟨es[i].key,rfl,zNS (s:={ s with heap:=h' }) e' c' d' (by decide) ⟨.ref (xs[i]'(by lia)).2.1,H,I1,by rw[hk];rfl,⟨rfl,fun T2 kvs2 q2 _=>?_⟩,st',fun b hb=>(hf b hb).1⟩⟩;rw[hq]at q2;cases q2;exact⟨_,p,rfl,hp,htk,hT⟩
 done:=by
  intro X hP hw hK hc i pins s σ H E I hf st hg;subst hP hw hK;obtain⟨hi,T,kvs,hq,hn⟩:=hg;obtain⟨z,y,xs,r,o,es,ep,h1,h2,h3,h4,h5,rfl⟩:=(show ObjOk X.prog X.w H s.heap a (.dT T e0 kvs) from I.hok a _ hq)
  have hl:=qK9 r;have hes:es.size=n:=by
   have:=congrArg qD9 h4;simp at this;lia
  subst hes;obtain⟨f0,f1,f2,f3,f4,f5⟩:=hf it (by simp);exact zWK (I.ok.hd hc) st h1 h3 hi fun h' eb=>⟨rfl,I.turned (t':=s.toks) (fun b o hb e=>eb b o hb e) f0 f1 f3 f4 f5⟩
 self:=fun A i s Q E st h=>by
  obtain⟨o,e,c,d⟩:=st;exact wpAny_pyIter_keyiter ⟨o,e,c,d⟩ h
variable{X:Cx}
def iDct(tl:TE):TI:=fun σ H R=>tl σ H fun x H1=>∃a T e0 kvs,x=.ref a/\H1 a=some (.dT T e0 kvs)/\R (Itd a e0 kvs.length) H1
theorem zYB{l:Expr}{tl:TE}(hl:PE X l tl):PI X tg l (iDct tl):=by
 intro pins s σ H R I h;refine thn (hl pins s σ H _ I h) fun v s1 z0=>?_
 obtain⟨x,H1,I1,r1,q1⟩:=z0;obtain⟨a,T,e0,kvs,e,hq,q⟩:=q1;subst e;cases r1;obtain⟨z,y,xs,r,o,es,ep,h1,h2,h3,h4,h5,rfl⟩:=(show ObjOk X.prog X.w H1 s1.heap a (.dT T e0 kvs) from I1.hok a _ hq)
 have hl:=qK9 r;have hes:es.size=kvs.length:=by
  have:=congrArg qD9 h4;simp at this;lia
 refine zSP y h1 h2 h3 ?_;refine⟨s1.heap.objs.size,[s1.heap.objs.size],_,_,H1,rfl,I1.kept (t':=s1.toks) fun b o e=>qIu _ e,zO7 a _ _ _,⟨_,qIw _ rfl,rfl,by rw[<- hes];rfl⟩,fun b hb=>?_,q⟩;have e:b=s1.heap.objs.size:=by simpa using hb
 subst e;exact I1.fpOk (qA6 _) (I1.hok.fresh (qA6 _))
end
def zV6(td ty tv:TE):TS:=fun D σ H=>tv σ H fun v H1=>td σ H1 fun x H2=>ty σ H2 fun y H3=>∃a T e0 kvs k b,x=.ref a/\H3 a=some (.dT T e0 kvs)/\y=.ref b/\TupK H3 b k/\kvs.length<sizeLine /\
 ∀e1,D.nx σ (upd H3 a (.dT (fun c=>T c\/c=b) e1 (putK kvs k v)))
section
variable{X:Cx}{pins:List (Addr×Obj)}{σ:St}{H:Hp}{s:qIv}{a b:Addr}{v:V}{r:Value}{A:qJ2}{E:Value->qIv->Prop}
theorem zO9{T:Addr->Prop}{e0:Nat}{kvs:List (List KeyN×V)}{k:List KeyN}{Q:Unit->qIv->Prop}(hu:A.units+1<cLine)(I:Inv X pins σ H s)(e:H a=some (.dT T e0 kvs))(eb:TupK H b k)(l:kvs.length<sizeLine)(rv:RelV v r)
  (h:∀e1 s',Inv X pins σ (upd H a (.dT (fun c=>T c\/c=b) e1 (putK kvs k v))) s'->Q () s'):wpAny (model X.prog X.w) A (setItem (.ref a) (.ref b) r) Q E s:=by
 obtain⟨z,hd,xs,rel,dd⟩:=zZQ I.hok e;have hz:xs.length<=sizeLine:=by rw[<- qK9 rel];exact z
 have hl:(putK kvs k v).length<=sizeLine:=by have:=zG4 kvs k v;lia
 refine wpAny_setItem_heap (hsz:=hz) (tupleKind_room_in1 hu) (zJG I.hok eb) dd fun h' dd' hs=>?_
 obtain⟨q,es,ep,hq,h2,h3,h4,_,h5⟩:=dd';refine h ep _ (zQI I (by rw[e];exact qD2) hs ⟨q,hq⟩ ⟨hl,hd,_,(rel.put k eb rv).keeps fun c ys ec=>?_,q,es,ep,hq,h2,h3,h4,h5,rfl⟩);rw[zAE (zNI ec e (fun z=>nomatch z))];exact ec
theorem zVI{X:Cx}{o i value:Expr}{td ty tv:TE}{pos pos':Pos}(hu:X.A.units+1<cLine)(ho:PE X o td)(hi:PE X i ty)(hv:PE X value tv)(hs:qM4 value (some (.Subscript o i pos')) pos.line X.env=pure false) :
  PS X (.Assign [.Subscript o i pos'] value pos) (zV6 td ty tv):=by
 intro pins s σ H D I h;refine wpAny_Assign_Subscript (thn (hv pins s σ H _ I h) fun r s1 ⟨v,H1,I1,rv,q1⟩=>thn (ho pins s1 σ H1 _ I1 q1) fun u s2 ⟨x,H2,I2,rx,q2⟩=>thn (hi pins s2 σ H2 _ I2 q2) fun iv s3 z0=>?_) hs;obtain⟨y,H3,I3,ry,a,T,e0,kvs,k,b,ex,hq,ey,eb,hl,q3⟩:=z0;subst ex ey
 cases(show u=qJ0 a from rx)
 cases(show iv=qJ0 b from ry)
 exact zO9 hu I3 hq eb hl rv fun e1 s4 I4=>⟨σ,_,I4,q3 e1⟩
def zTR(tk tv:TE):TE:=fun σ H Q=>∀p,H p=none->tk σ (upd H p (.dT (fun _=>False) 0 [])) fun x H1=>tv σ H1 fun y H2=>∃b k,x=.ref b/\TupK H2 b k/\H2 p=some (.dT (fun _=>False) 0 []) /\
 ∀e1,Q (.ref p) (upd H2 p (.dT (fun c=>False\/c=b) e1 (putK [] k y)))
theorem zS5{X:Cx}{pos:Pos}{k v:Expr}{tk tv:TE}(hu:X.A.units+1<cLine)(hk:PE X k tk)(hv:PE X v tv):PE X (.Dict [some k] [v] pos) (zTR tk tv):=by
 intro pins s σ H Q I q;have hn:=I.hok.fresh (qA6 s.heap.objs.size);have I1:=I.laid (a:=s.heap.objs.size) (o:=.dT (fun _=>False) 0 []) (h':=s.heap.push { cls:=.type "dict",data:=.dict #[] }) (t':=s.toks) (fun _ _ q=>qIu _ q) (qA6 _) (zMM s.heap I.big);have hp:PPs X pos [some k] [v] [(tk,tv)]:=zS2 hk hv zVK;have q1:zOB [(tk,tv)] σ (upd H s.heap.objs.size (.dT (fun _=>False) 0 [])) (fun ps H2=>match ps with
   |[(x,y)]=>∃b k,x=.ref b/\TupK H2 b k/\H2 s.heap.objs.size=some (.dT (fun _=>False) 0 []) /\
    ∀e1,Q (.ref s.heap.objs.size) (upd H2 s.heap.objs.size (.dT (fun c=>False\/c=b) e1 (putK [] k y)))
   |_=>False):=q _ hn
 unfold eval;refine wpAny_bind (wpAny_standAt ?_);have e:(evalEachOpt [some k] X.env).zip (qIn (fun v=>do let x <- v;qN4 pos;pure x) (evalEach [v] X.env))=qIn (fun p=>(some p.1,p.2)) (pairTrees [some k] [v] X.env pos):=rfl;rw[e,dictDisplay_pairs _ (by intro z;cases z) (by exact(by decide:(1:Nat)<17))];refine wpAny_bind ?_;unfold subDict;refine wpAny_bind (wpAny_alloc ?_);refine wpAny_bind (wpAny_holding ?_);rw[if_pos (by exact(by decide:(1:Nat)<=15))];refine wpAny_bind (thn (hp pins _ σ _ _ I1 q1) fun vs s2 z0=>?_);obtain⟨ps,H2,I2,rel,q2⟩:=z0;cases rel with
 |nil=>exact q2.elim
 |@cons a u as us h t=>
  cases t with
  |cons _ _=>exact q2.elim
  |nil=>
   obtain⟨x,y⟩:=a;obtain⟨u1,u2⟩:=u;obtain⟨b,kk,rfl,eb,e2,q3⟩:=q2;obtain⟨r1,r2⟩:=h;cases(show u1=qJ0 b from r1)
   refine wpAny_holding ?_;obtain⟨z,hd,xs,rel,dd⟩:=zZQ I2.hok e2;cases rel;rw[qGp];refine wpAny_bind (wpAny_bind (wpAny_bind (wpAny_dictSet_heap (knd:=tupleKind (mixN X.prog X.w)) (show X.A.units<cLine by lia) (zJG I2.hok eb) dd (fun h' dd' hs=>?_) (qAu _))));obtain⟨qo,es,ep,hq,h2,h3,h4,_,h5⟩:=dd';refine wpAny_pure ?_;show wpAny _ _ (forIn [] _ _) _ _ _;rw[qHf];refine wpAny_pure (wpAny_pure (wpAny_pure (wpAny_pure ⟨.ref s.heap.objs.size,_,zQI (ob:=.dT (fun c=>False\/c=b) ep (putK [] kk y)) I2 (by rw[e2];exact qD2) hs ⟨qo,hq⟩ ⟨?_,hd,_,(KT.put (T:=fun _=>False) .nil kk eb r2).keeps fun c ys ec=>?_,qo,es,ep,hq,h2,h3,h4,h5,rfl⟩,rfl,q3 ep⟩)))
   ·have:=zG4 ([]:List (List KeyN×V)) kk y;rw[qJa];simp at this ⊢;lia
   ·rw[zAE (zNI ec e2 (fun z=>nomatch z))];exact ec
end
section
variable{X:Cx}{i k:Nat}{x:Str}{p pos:Pos}{e:Expr}{es:List Expr}{t:TA}{tb:List (Addr×Sp×List V)}
end
section
variable{X:Cx}
end
end L2
namespace Mi
open PySem
noncomputable def kNo:Sw->Option (Sum Int Str)
 |.non=>none
 |.bl b=>some (.inl (if b then 1 else 0))
 |.int i=>some (.inl i)
 |.str x=>some (.inr x)
abbrev kNs(k:List Sw):List (Option (Sum Int Str)):=k.map kNo
def swsD:List Dt->Option (List Sw)
 |[]=>some []
 |d::r=>match swD d,swsD r with
  |some a,some q=>some (a::q)
  |_,_=>none
def kyU:Dt->Option (List Sw)
 |.tup ds=>swsD ds
 |_=>none
noncomputable def posT(ks:List (List Sw))(k:List Sw):Option Nat:=ks.findIdx? fun q=>decide (kNs q=kNs k)
def getT(ks:List (List Sw))(ds:List Dt)(k:List Sw):Option Dt:=match posT ks k with
 |some j=>ds[j]?
 |none=>none
noncomputable def noB1:Sw->Bool
 |.bl _=>false
 |_=>true
def noBs(ks:List (List Sw)):Bool:=ks.all fun k=>k.all noB1
def fitT(ks:List (List Sw))(k:List Sw):Bool:=(posT ks k).isNone || !noBs ks||k.all noB1
def putKs(ks:List (List Sw))(k:List Sw):List (List Sw):=match posT ks k with
 |some _=>ks
 |none=>ks++[k]
def putDs(ks:List (List Sw))(ds:List Dt)(k:List Sw)(v:Dt):List Dt:=match posT ks k with
 |some j=>ds.set j v
 |none=>ds++[v]
def eDtt0:EM:=fun _=>okR (.dtt [] [])
def eTOne(k v:EM):EM:=fun ρ=>zA2 (k ρ) fun y=>zA2 (v ρ) fun z=>match kyU y with
 |some q=>okR (.dtt [q] [z])
 |none=>none
def dinT(ng:Bool)(x y:Dt):Option Dt:=match y with
 |.dtt ks _=>match kyU x with
  |some k=>some (.bl (if ng=true then !(posT ks k).isSome else(posT ks k).isSome))
  |none=>none
 |_=>none
def eTGet(d k x:EM):EM:=fun ρ=>zA2 (d ρ) fun D=>match D with
 |.dtt ks ds=>zA2 (k ρ) fun y=>zA2 (x ρ) fun z=>match kyU y with
  |some q=>okR (match getT ks ds q with|some w=>w|none=>z)
  |none=>none
 |_=>none
def eTIx(d k:EM):EM:=fun ρ=>zA2 (d ρ) fun D=>match D with
 |.dtt ks ds=>zA2 (k ρ) fun y=>match kyU y with
  |some q=>optR (getT ks ds q)
  |none=>none
 |_=>none
def putGo(i n:Nat)(e1:EM)(ρ:Ro)(ρ':Rh)(v:Dt):R Ro:=match ρ[i]? with
 |some (some (.dtt ks ds,k+1))=>zA2 (e1 ρ') fun y=>match kyU y with
  |some q=>@ite _ (v.dep<=n/\v.dep<=k/\ks.length<=100000/\fitT ks q=true) (qA2 _) (okR (ρ.set i (some (.dtt (putKs ks q) (putDs ks ds q v),k+1)))) none
  |none=>none
 |_=>none
def sTput(i n:Nat)(e1 e2:EM):SM:=fun ρ=>zA2 (e2 (full ρ)) fun v=>zA2 (putGo i n e1 ρ (full ρ) v) fun ρ2=>okR (.nx ρ2)
def sTmpPut(j i n:Nat)(e e1 e2:EM):SM:=fun ρ=>if i=j then none else zA2 (e (full ρ)) fun a=>zA2 (e2 ((full ρ).set j (some a))) fun v=>zA2 (putGo i n e1 ρ ((full ρ).set j (some a)) v) fun ρ2=>okR (.nx (ρ2.set j none))
def sRetTIx(L i:Nat)(e:EM):SM:=fun ρ=>match ρ[i]? with
 |some (some (.dtt ks ds,k+1))=>zA2 (e (full ρ)) fun y=>match kyU y with
  |some q=>match getT ks ds q with
   |some d=>if k=L then okR (.rt d)else none
   |none=>none
  |none=>none
 |_=>none
noncomputable def tupD:List Dt->Option Dt
 |[.lst xs]=>some (.tup xs)
 |_=>none
def iDk(e:EM):IM:=fun ρ=>zA2 (e ρ) fun d=>match d with
 |.dtt ks ds=>if noBs ks=true/\ks.length=ds.length then okR (ks.map fun k=>.tup (k.map swT))else none
 |_=>none
def eVL(i:Nat):EM:=fun ρ=>match ρ[i]? with
 |some (some (.loc _ d))=>okR d
 |_=>none
def sItemL(i n:Nat)(e1 e2:EM):SM:=fun ρ=>zA2 (e2 (full ρ)) fun d=>match ρ[i]? with
 |some (some (.loc p (.lst ds),k+2))=>zA2 (e1 (full ρ)) fun z=>match z with
  |.int z=>match ixA ds.length z with
   |some q=>if d.dep<=n/\d.dep<=k then okR (.nx (ρ.set i (some (.loc p (.lst (ds.set q d)),k+2))))else none
   |none=>none
  |_=>none
 |_=>none
inductive OutM where
 |nx (ρ:Ro)|rt (ρ:Ro) (d:Dt)|rv (ρ:Ro) (i:Nat)
abbrev SMM:=Ro->R OutM
def mLift(s:SM):SMM:=fun ρ=>zA2 (s ρ) fun o=>match o with
 |.nx ρ'=>okR (.nx ρ')
 |_=>none
def mSeq(a b:SMM):SMM:=fun ρ=>zA2 (a ρ) fun o=>match o with
 |.nx ρ'=>b ρ'
 |o=>okR o
def mIf(c:TM)(a b:SMM):SMM:=fun ρ=>zA2 (c (full ρ)) fun k=>if k=true then a ρ else b ρ
def mRet(e:EM):SMM:=fun ρ=>zA2 (e (full ρ)) fun d=>if d.dep=0 then okR (.rt ρ d)else none
noncomputable def heldAt(i0 k a:Nat)(ρ:Ro):Option Dt:=match ρ[i0]? with
 |some (some (.loc b d,l))=>if b=a/\l=k+1 then some d else none
 |_=>none
def endM(L i0 k a:Nat):OutM->R (Dt×Dt)
 |.nx ρ=>optR ((heldAt i0 k a ρ).map fun d0=>(.non,d0))
 |.rt ρ d=>optR ((heldAt i0 k a ρ).map fun d0=>(d,d0))
 |.rv ρ i=>match ρ[i]? with
  |some (some (d,l))=>if l=L/\i≠i0 then optR ((heldAt i0 k a ρ).map fun d0=>(d,d0))else none
  |_=>none
def startM(N i0 k a:Nat)(ds:List Dt):Ro:=match ds[i0]? with
 |some d0=>(startO N ds).set i0 (some (.loc a d0,k+1))
 |none=>[]
def runM(L P N i0 k:Nat)(m:SMM)(a:Nat)(ds:List Dt):R (Dt×Dt):=if ds.length=P/\i0<P then zA2 (m (startM N i0 k a ds)) (endM L i0 k a)else none
abbrev FW:=List Dt->R (Dt×Dt)
noncomputable def uniM(f:Nat->FW):FW:=fun ds=>@ite _ (∀a,f a ds=f 0 ds) (qA2 _) (f 0 ds) none
theorem zO4{f:Nat->FW}{ds:List Dt}{r:R (Dt×Dt)}(h:∀a,f a ds=r):uniM f ds=r:=by
 unfold uniM;rw[if_pos fun a=>(h a).trans (h 0).symm];exact h 0
noncomputable def zbK:Dt->Bool
 |.lst _=>true
 |.dtt _ _=>true
 |_=>false
def sCallW(j i k L:Nat)(am:AM)(f:FW):SM:=fun ρ=>match ρ[i]? with
 |some (some (d0,l))=>if l=k/\i≠j/\zbK d0=true then zA2 (am (frz ρ)) fun es=>zA2 (f (d0::es)) fun r=>okR (.nx ((ρ.set i (some (r.2,k))).set j (some (r.1,L))))else none
 |_=>none
def sAddW(j i k:Nat)(am:AM)(f:FW):SM:=fun ρ=>match ρ[i]?,ρ[j]? with
 |some (some (.loc p d0,l)),some (some (.int s,_))=>if l=k+1/\i≠j then zA2 (am (frz ρ)) fun es=>zA2 (f (d0::es)) fun r=>match r.1 with
  |.int c=>okR (.nx ((ρ.set i (some (.loc p r.2,k+1))).set j (some (.int (s+c),0))))
  |_=>none else none
 |_,_=>none
def eCallD(f:FM)(a:AM):EM:=fun ρ=>zA2 (a ρ) fun xs=>f (xs++[.non])
end Mi
namespace Mp
open Mi PySem
noncomputable def wrd(ls row:List Nat):List Nat:=row.map fun p=>ls.getD p 0
end Mp
namespace Mp
noncomputable def ords(row:List Nat):List Nat:=row.foldl (fun o p=>if p∈o then o else o++[p]) []
noncomputable def puts(S:List (Nat×Int))(N:List Int):List Int:=S.foldl (fun N p=>N.set p.1 p.2) N
def inA(row:List Nat)(a:Nat):Nat:=4*(ords row).idxOf (row.getD a 0)+2*(row.take a).count (row.getD a 0)
def tieP(row:List Nat)(a:Nat):List (Nat×Int):=[(inA row ((a+row.length-1)%row.length)+1,(inA row a:Int)),(inA row a,((inA row ((a+row.length-1)%row.length)+1:Nat):Int))]
noncomputable def sh(s:Nat)(cs:List Nat):List Nat:=cs.drop s++cs.take s
def wr(cs:List Nat):List Nat:=cs.map fun c=>97+(ords cs).idxOf c
end Mp
namespace L2
open PySem PySem.Spec PyProof.Rows
def zXW(K:qA1):List V->Hp->VK->Prop:=fun xs H Q=>∃p ys,xs=[.ref p]/\((SqL K H p ys/\∀l,H l=none->Q (.ref l) (upd H l (.tup ys)))\/(SqT K H p ys/\Q (.ref p) H))
theorem zMD{X:Cx}{K:qA1}(hK:X.K=K:=by rfl):zCO X (.type "tuple") (zXW K):=hK▸zIC
end L2
namespace L3
open PySem PySem.Spec
open L2 hiding Rep RepL
open Mi (Dt Xn R okR zA2 optR zA0 zA4 zA9 zA7 zA8 Rh Sl Ro EM TM AM FM IM SM OM Tg Out zAO zAN zAQ full frz frz1 frzAt)
section
variable[Kc]{mg:Str->Option Value}{E:XK}{n k:Nat}{te:TE}{e:EM}
end
theorem zI4(k:List Mi.Sw):k.map kNw=Mi.kNs k:=qAo fun w _=>by cases w<;>rfl
theorem zP8:noBw=Mi.noB1:=by funext w;cases w<;>rfl
theorem zU4(ks:List (List Mi.Sw)):noBk ks=Mi.noBs ks:=by unfold noBk Mi.noBs;rw[zP8]
theorem zVW(k:List Mi.Sw):k.all noBw=k.all Mi.noB1:=by rw[zP8]
theorem zOE[Kc]{G:Hp}:∀{ds:List Dt}{xs:List V}{q:List Mi.Sw},RepL G ds xs->Mi.swsD ds=some q->xs=q.map swV
 |[],_,q,h,e=>by cases e;exact h
 |d::ds,_,q,h,e=>by
  obtain⟨x,r,rfl,h1,h2⟩:=h;unfold Mi.swsD at e;cases e1:Mi.swD d with
  |none=>rw[e1]at e;cases e
  |some a=>
   cases e2:Mi.swsD ds with
   |none=>rw[e1,e2]at e;cases e
   |some b=>
    rw[e1,e2]at e;cases e;rw[zOE h2 e2];have:x=swV a:=by
     cases d with
     |non=>cases e1;exact h1
     |bl _=>cases e1;exact h1
     |int _=>cases e1;exact h1
     |str _=>cases e1;exact h1
     |_=>cases e1
    rw[this];rfl
theorem zbF(q:List Mi.Sw):KsOf (q.map swV) (q.map kNw):=by
 induction q with
 |nil=>exact .nil
 |cons w r ih=>exact .cons (by cases w<;>rfl) ih
theorem zP7{q:List Mi.Sw}(h:q.all noBw=true):∀y∈q.map swV,isBl y=false:=by
 intro y hy;obtain⟨w,hw,rfl⟩:=qAb.mp hy;have:=qBo.mp h w hw;cases w<;>first|rfl|cases this
theorem zWW{ys:List V}{q:List Mi.Sw}(h:KsOf ys (q.map kNw))(hn:∀y∈ys,isBl y=false)(hq:q.all noBw=true):ys=q.map swV:=by
 induction q generalizing ys with
 |nil=>cases h;rfl
 |cons w r ih=>
  cases h with
  |cons h1 h2=>
   rename_i y ys;have e1:=hn y (qAj ..);have hq':=qBo.mp hq;have e2:=hq' w (qAj ..);rw[ih h2 (fun z hz=>hn z (qAc _ hz)) (qBo.mpr fun z hz=>hq' z (qAc _ hz))]
   have:y=swV w:=by
    cases y<;>cases w<;>first|(simp[isBl]at e1;done)|(simp[noBw]at e2;done)|(cases h1;rfl)|cases h1
   rw[this];rfl
theorem zFW{ks:List (List Mi.Sw)}{k:List Mi.Sw}{j:Nat}(h:Mi.posT ks k=some j):∃q,ks[j]?=some q/\Mi.kNs q=Mi.kNs k:=by
 unfold Mi.posT at h;obtain⟨h1,h2,_⟩:=List.findIdx?_eq_some_iff_getElem.mp h;exact⟨ks[j],qA5 h1,by simpa using h2⟩
theorem zJ9{ks:List (List Mi.Sw)}{k:List Mi.Sw}(h:Mi.posT ks k=none):∀q∈ks,Mi.kNs q≠Mi.kNs k:=by
 unfold Mi.posT at h;intro q hq;have:=List.findIdx?_eq_none_iff.mp h q hq;simpa using this
theorem zR9(k:List Mi.Sw):∀(ks:List (List Mi.Sw))(xs:List V),ks.length=xs.length->valV (kzip ks xs) (k.map kNw)=(Mi.posT ks k).bind fun j=>xs[j]?
 |[],[],_=>rfl
 |[],_::_,h=>by simp at h
 |_::_,[],h=>by simp at h
 |q::ks,x::xs,h=>by
  have ih:=zR9 k ks xs (by simpa using h);unfold valV kzip at ih ⊢;unfold Mi.posT at ih ⊢;simp only[qAk,qE6,qCh,qFu];rw[zI4 q,zI4 k]
  by_cases e:Mi.kNs q=Mi.kNs k
  ·simp[e]
  ·simp only[e,decide_false];rw[zI4 k]at ih;rw[ih];cases List.findIdx? (fun q=>decide (Mi.kNs q=Mi.kNs k)) ks<;>simp
section
variable[Kc]{mg:Str->Option Value}{E:XK}{L n k l:Nat}{te ta tb tx td tk tv:TE}{e ea eb ex ed mk mv:EM}{t:TA}{m:AM}
theorem zH0{G:Hp}{d:Dt}{v:V}{q:List Mi.Sw}(h:Rep G d v)(e:Mi.kyU d=some q):∃b,v=.ref b/\G b=some (.tup (q.map swV)):=by
 cases d with
 |tup ds=>
  obtain⟨a,xs,rfl,ha,r⟩:=h;exact⟨a,rfl,by rw[ha,zOE r e]⟩
 |_=>cases e
theorem zEV{H:Hp}{b:Addr}{q:List Mi.Sw}(h:H b=some (.tup (q.map swV))):TupK H b (q.map kNw):=⟨_,h,zbF q⟩
theorem zWQ:DE mg E zTS Mi.eDtt0 (n+1):=by
 intro G H σ ρ Q s w p a ha;have fr:Fr G H G H (fun _=>False):=⟨Ext.refl s,fun _ z=>z.elim⟩
 exact p (.ref a) G _ _ (fr.add ha (.dT (fun _=>False) 0 [])) ⟨a,fun _=>False,0,[],fun _ _=>False,rfl,zAG,rfl,⟨qHe,fun _ z=>z.elim⟩,⟨rfl,fun q d x h=>by simp at h,.inl rfl,fun _ z=>z,fun _ _ _ z=>z.elim,fun _ _ z=>z.elim⟩⟩
theorem zWN(K:DE mg E tk mk k)(V:DE mg E tv mv n):DE mg E (zTR tk tv) (Mi.eTOne mk mv) (n+1):=by
 intro G H σ ρ Q s w p pa hp;have sn:=L2.same_new hp (.dT (fun _=>False) 0 []);have x0:Ext G H G _:=Ext.same s sn;refine(zAS K).step (errE.from x0) x0.in' w p fun d u G1 H1 S _ fr o p1=>?_
 refine V.step ((errE.from x0).from fr.ext) fr.ext.in' (w.mono fr.ext.g) p1 fun z v2 G2 H2 S2 _ fr2 o2 p2=>?_
 cases ek:Mi.kyU d with
 |none=>rw[ek]at p2;exact p2.elim
 |some q=>
  rw[ek]at p2;obtain⟨b,rfl,hb⟩:=zH0 (Rep.mono fr2.ext.g o) ek;have x2:=x0.trans (fr.ext.trans fr2.ext);have hpa:H2 pa=some (.dT (fun _=>False) 0 []):=fr2.ext.h _ _ (fr.ext.h _ _ zAG);have gpa:G2 pa=none:=by
   rw[(fr.ext.trans fr2.ext).old pa (by rw[zAG];simp)];exact s.free hp
  have nS2:¬S2 pa:=fun z=>by
   have:=(fr2.new pa z).1;rw[fr.ext.h _ _ zAG]at this;cases this
  refine⟨b,q.map kNw,rfl,zEV (fr2.ext.in' _ _ hb),hpa,fun e1=>?_⟩;refine p2 (.ref pa) G2 _ (fun a=>a=pa\/S2 a) ⟨⟨x2.g,fun c o hc=>?_,fun c o hc=>?_,x2.old⟩,fun a ha=>?_⟩ ⟨pa,_,e1,[v2],fun r c=>r=0/\S2 c,rfl,zAG,rfl,⟨by simp,fun c hc=>?_⟩,⟨rfl,fun r d' x' h1 h2=>?_,.inl rfl,fun r z=>nS2 z.2,fun r r' c z1 z2=>by rw[z1.1,z2.1],fun r c z=>.inr z.2⟩⟩
  ·have:c≠pa:=fun z=>by rw[z,hp]at hc;cases hc
   rw[zAE this];exact x2.h _ _ hc
  ·have:c≠pa:=fun z=>by rw[z,gpa]at hc;cases hc
   rw[zAE this];exact x2.in' _ _ hc
  ·rcases ha with rfl|ha
   ·exact⟨hp,gpa,by rw[zAG];simp⟩
   ·obtain⟨n1,n2,n3⟩:=fr2.new a ha;refine⟨(sn.trans fr.ext.h).free n1,n2,?_⟩
    by_cases z:a=pa
    ·subst z;rw[zAG];simp
    ·rw[zAE z];exact n3
  ·rcases hc with hc|rfl
   ·exact hc.elim
   ·exact⟨_,hb,fun hn=>zP7 (by simpa[noBk]using hn)⟩
  ·cases r with
   |zero=>
    simp at h1 h2;subst h1 h2;exact(o2.upd nS2).sub fun c hc=>⟨rfl,hc⟩
   |succ r=>simp at h1
theorem de_tin(A:DE mg E ta ea k)(B:DE mg E tb eb l):DE mg E (tDIn ta tb) (Mi.eB (Mi.dinT false) ea eb) n:=by
 intro G H σ ρ Q s w p;refine(zAS A).step errE s w p fun d v G1 H1 S _ fr o p1=>?_
 refine(zAS B).step (errE.from fr.ext) fr.ext.in' (w.mono fr.ext.g) p1 fun e u G2 H2 S2 _ fr2 o2 p2=>?_
 cases e with
 |dtt ks ds=>
  obtain⟨a,T,e0,xs,rfl,ha,hl,ht,r⟩:=o2;have p3:PostE mg E G H n (optR (match Mi.kyU d with|some k=>some (.bl (if false=true then !(Mi.posT ks k).isSome else(Mi.posT ks k).isSome))|none=>none)) Q:=p2;cases ek:Mi.kyU d with
  |none=>rw[ek]at p3;exact p3.elim
  |some q=>
   rw[ek]at p3;obtain⟨b,rfl,hb⟩:=zH0 (Rep.mono fr2.ext.g o) ek;refine⟨a,_,rfl,DGet.t (fr2.ext.in' _ _ ha) (zEV (fr2.ext.in' _ _ hb)),?_⟩;have hx:ks.length=xs.length:=by rw[r.length];exact hl
   have e:(valV (kzip ks xs) (q.map kNw)).isSome=(Mi.posT ks q).isSome:=by
    rw[zR9 q ks xs hx];cases ej:Mi.posT ks q with
    |none=>rfl
    |some j=>
     obtain⟨q',h1,_⟩:=zFW ej;have hj:j<xs.length:=by rw[<- hx];exact(qA3.mp h1).1
     show(xs[j]?).isSome=true;rw[qA5 hj];rfl
   rw[e];exact PostE.val (PostE.from p3 (fr.ext.trans fr2.ext)) (Ext.refl fr2.ext.in') rfl rfl
 |_=>exact p2.elim
theorem zL4{G:Hp}{ks:List (List Mi.Sw)}{ds:List Dt}{xs:List V}{q:List Mi.Sw}(hl:ks.length=ds.length)(r:RepL G ds xs) :
  (Mi.getT ks ds q=none->valV (kzip ks xs) (q.map kNw)=none)/\∀d,Mi.getT ks ds q=some d->∃x,valV (kzip ks xs) (q.map kNw)=some x/\Rep G d x:=by
 have hx:ks.length=xs.length:=by rw[r.length];exact hl
 rw[zR9 q ks xs hx];unfold Mi.getT;cases ej:Mi.posT ks q with
 |none=>exact⟨fun _=>rfl,fun d z=>nomatch z⟩
 |some j=>
  obtain⟨q',h1,_⟩:=zFW ej;have hj:j<ks.length:=(qA3.mp h1).1;have e1:ds[j]?=some (ds[j]'(by lia)):=qA5 _;have e2:xs[j]?=some (xs[j]'(by lia)):=qA5 _;refine⟨fun z=>?_,fun d z=>⟨_,e2,zBI r z e2⟩⟩;have z':ds[j]?=none:=z;rw[e1]at z';cases z'
theorem zZZ(D:DE mg E td ed k)(A:DE mg E ta ea l):DE mg E (zOD td ta) (Mi.eTIx ed ea) 0:=by
 intro G H σ ρ Q s w p;refine(zAS D).step errE s w p fun d v G1 H1 S _ fr o p1=>?_
 cases d with
 |dtt ks ds=>
  obtain⟨a,T,e0,xs,rfl,ha,hl,ht,r⟩:=o;have p1':PostE mg E G H 0 (zA2 (ea ρ) fun y=>match Mi.kyU y with|some q=>optR (Mi.getT ks ds q)|none=>none) Q:=p1;refine(zAS A).step (errE.from fr.ext) fr.ext.in' (w.mono fr.ext.g) p1' fun y u G2 H2 S2 _ fr2 o2 p2=>?_
  cases ek:Mi.kyU y with
  |none=>rw[ek]at p2;exact p2.elim
  |some q=>
   rw[ek]at p2;obtain⟨b,rfl,hb⟩:=zH0 o2 ek;cases eg:Mi.getT ks ds q with
   |none=>dsimp only at p2;rw[eg]at p2;exact p2.elim
   |some c=>
    dsimp only at p2;rw[eg]at p2;obtain⟨x,h1,h2⟩:=(zL4 hl r).2 c eg;refine⟨a,x,rfl,?_,PostE.kept (PostE.from p2 (fr.ext.trans fr2.ext)) (Ext.refl fr2.ext.in') (Rep.mono fr2.ext.g h2)⟩;rw[<- h1];exact DGet.t (fr2.ext.h _ _ (fr.ext.in' _ _ ha)) (zEV (fr2.ext.in' _ _ hb))
 |_=>exact p1.elim
theorem zWO(D:DE mg E td ed k)(A:DE mg E ta ea l){j:Nat}(X:DE mg E tx ex j):DE mg E (zTT td ta tx) (Mi.eTGet ed ea ex) 0:=by
 intro G H σ ρ Q s w p;refine(zAS D).step errE s w p fun d v G1 H1 S _ fr o p1=>?_
 cases d with
 |dtt ks ds=>
  obtain⟨a,T,e0,xs,rfl,ha,hl,ht,r⟩:=o;refine⟨a,rfl,.inr ⟨_,_,_,.inl (fr.ext.in' _ _ ha)⟩,?_⟩;have p1':PostE mg E G H 0 (zA2 (ea ρ) fun y=>zA2 (ex ρ) fun z=>match Mi.kyU y with|some q=>okR (match Mi.getT ks ds q with|some w=>w|none=>z)|none=>none) Q:=p1;refine(zAS A).step (errE.from fr.ext) fr.ext.in' (w.mono fr.ext.g) p1' fun y u G2 H2 S2 _ fr2 o2 p2=>?_
  have x2:=fr.ext.trans fr2.ext;refine(zAS X).step (errE.from x2) fr2.ext.in' (w.mono x2.g) p2 fun z u3 G3 H3 S3 _ fr3 o3 p3=>?_
  cases ek:Mi.kyU y with
  |none=>rw[ek]at p3;exact p3.elim
  |some q=>
   rw[ek]at p3;obtain⟨b,rfl,hb⟩:=zH0 (Rep.mono fr3.ext.g o2) ek;dsimp only at p3;refine⟨_,DGet.t (fr3.ext.h _ _ (fr2.ext.h _ _ (fr.ext.in' _ _ ha))) (zEV (fr3.ext.in' _ _ hb)),?_⟩;have p4:=PostE.from p3 (x2.trans fr3.ext);cases eg:Mi.getT ks ds q with
   |none=>
    rw[eg]at p4;rw[(zL4 hl r).1 eg];exact PostE.kept p4 (Ext.refl fr3.ext.in') o3
   |some c=>
    rw[eg]at p4;obtain⟨x,h1,h2⟩:=(zL4 hl r).2 c eg;rw[h1];exact PostE.kept p4 (Ext.refl fr3.ext.in') (Rep.mono (fr2.ext.g.trans fr3.ext.g) h2)
 |_=>exact p1.elim
theorem zMY:CBi (zXW Kc.K) Mi.tupD 1:=by
 intro mg E G H ds vs Q s h p;cases ds with
 |nil=>exact p.elim
 |cons a0 r0=>
  cases r0 with
  |cons _ _=>cases a0<;>exact p.elim
  |nil=>
   cases a0 with
   |lst es=>
    obtain⟨x,rfl,a,xs,rfl,ha,ra⟩:=zD5 h;refine⟨a,xs,rfl,.inl ⟨SqL.of (s _ _ ha),fun l hl=>?_⟩⟩;have fr:Fr G H G H (fun _=>False):=⟨Ext.refl s,fun _ z=>z.elim⟩
    exact p (.ref l) G _ _ (fr.add hl (.tup xs)) ⟨l,xs,fun _ _=>False,rfl,zAG,⟨ra.length,fun q d y h1 h2=>zBI ra h1 h2,.inl rfl,fun _ z=>z,fun _ _ _ z=>z.elim,fun _ _ z=>z.elim⟩⟩
   |_=>exact p.elim
theorem rep_key{G:Hp}:∀(q:List Mi.Sw),RepL G (q.map Mi.swT) (q.map swV)
 |[]=>rfl
 |w::r=>⟨swV w,r.map swV,rfl,by cases w<;>rfl,rep_key r⟩
theorem zZE{G:Hp}{a:Addr}{T:Addr->Prop}{e0:Nat}{ks:List (List Mi.Sw)}{xs:List V}(hl:ks.length=xs.length)(ha:G a=some (.dT T e0 (kzip ks xs)))(ht:KeyT G T ks)(hn:noBk ks=true) :
  ItOk (Itd a e0 (kzip ks xs).length) G (ks.map fun k=>.tup (k.map Mi.swT)):=by
 have hz:(kzip ks xs).length=ks.length:=by simp[kzip,hl]
 intro i G1 H1 s1 s2;have hS:=s2 _ _ (s1 _ _ ha);refine⟨fun hi=>⟨by rw[hz];simpa using hi,T,_,hS,rfl⟩,fun hi=>⟨by rw[hz];simpa using hi,T,_,hS,rfl⟩,fun x H2 d hd hy=>?_⟩;obtain⟨rfl,hy⟩:=hy;obtain⟨b,p,rfl,hp,⟨ys,hb,hk⟩,hT⟩:=hy T _ hS rfl;obtain⟨ys',hb',hno⟩:=ht.2 b hT;have e1:H2 b=some (.tup ys'):=s2 _ _ (s1 _ _ hb');rw[hb]at e1;cases e1;rw[qA8]at hd;cases ek:ks[i]? with
 |none=>rw[ek]at hd;cases hd
 |some kk=>
  rw[ek]at hd;cases hd;have hp':=hp;unfold kzip at hp';have hi:i<ks.length:=(qA3.mp ek).1;have e3:p.1=kk.map kNw:=by
   have h1:=qA3.mp hp;obtain⟨hi1,rfl⟩:=h1;have h2:=qA3.mp ek;obtain⟨hi2,rfl⟩:=h2;simp[kzip]
  rw[e3]at hk;have hkk:kk.all noBw=true:=qBo.mp hn kk (qAw ek);rw[zWW hk (hno hn) hkk]at hb';exact⟨G1,Ext.refl s2,b,_,rfl,s1 _ _ hb',rep_key kk⟩
theorem zbR(A:DE mg E ta ea k):DI mg E (iDct ta) (Mi.iDk ea) false:=by
 intro G H σ ρ Q s w p;refine(zAS A).step errI s w p fun d v G1 H1 S _ fr o p1=>?_
 cases d with
 |dtt ks ds=>
  obtain⟨a,T,e0,xs,rfl,ha,hl,ht,r⟩:=o;dsimp only at p1;split at p1
  ·rename_i hz
   exact⟨a,T,e0,_,rfl,fr.ext.in' _ _ ha,p1 _ G1 H1 fr.ext (zZE (by rw[r.length];exact hl) ha ht (by rw[zU4];exact hz.1))⟩
  ·exact p1.elim
 |_=>exact p1.elim
end
theorem zRY{ks:List (List Mi.Sw)}{xs:List V}{k:List Mi.Sw}{y:V}(hl:ks.length=xs.length)(h:Mi.posT ks k=none):putK (kzip ks xs) (k.map kNw) y=kzip (ks++[k]) (xs++[y]):=by
 unfold putK;have e:((kzip ks xs).any fun kv=>decide (kv.1=k.map kNw))=false:=by
  rw[qFz]
  rintro⟨a,b⟩ hm hd
  have ha:=(qC4 hm).1;obtain⟨q,hq,rfl⟩:=qAb.mp ha;have:=zJ9 h q hq;rw[<- zI4,<- zI4]at this;exact this (by simpa using hd)
 rw[e,if_neg (by simp)];unfold kzip;rw[qBa,List.zip_append (by simpa using hl)];rfl
theorem zRX{ks:List (List Mi.Sw)}{xs:List V}{k:List Mi.Sw}{y:V}{j:Nat}(hl:ks.length=xs.length)(hn:(ks.map fun k=>k.map kNw).Nodup)(h:Mi.posT ks k=some j):putK (kzip ks xs) (k.map kNw) y=kzip ks (xs.set j y):=by
 obtain⟨q,hq,hk⟩:=zFW h;rw[<- zI4,<- zI4]at hk;have hj:j<ks.length:=(qA3.mp hq).1;have hqj:ks[j]=q:=(qA3.mp hq).2;unfold putK;have e:((kzip ks xs).any fun kv=>decide (kv.1=k.map kNw))=true:=by
  rw[qGf];refine⟨((ks.map fun k=>k.map kNw)[j]'(by simpa using hj),xs[j]'(by lia)),?_,?_⟩
  ·unfold kzip;rw[qDs];exact⟨j,by simp;lia,by simp⟩
  ·simp[hqj,hk]
 rw[e,if_pos rfl];unfold kzip;apply qAx
 ·simp
 ·intro i h1 h2;have hi:i<ks.length:=by simp at h1;lia
  simp only[qCj,qGh];by_cases hij:i=j
  ·subst hij;rw[if_pos (by rw[hqj];exact hk)];simp
  ·have hne:¬(ks[i].map kNw=k.map kNw):=fun z=>by
    have z2:(ks.map fun k=>k.map kNw)[i]'(by simpa using hi)=(ks.map fun k=>k.map kNw)[j]'(by simpa using hj):=by
     simp only[qCj];rw[z,hqj,hk]
    exact hij ((qEp hn).mp z2)
   rw[if_neg hne];rw[List.getElem_set_ne (fun z=>hij z.symm)]
theorem zOF:∀{es:List Dt}{c:List Mi.Sw},Mi.swsD es=some c->Dt.depL es=0
 |[],_,_=>rfl
 |d::es,c,ek=>by
  unfold Mi.swsD at ek;cases g1:Mi.swD d with
  |none=>rw[g1]at ek;cases ek
  |some a1=>
   cases g2:Mi.swsD es with
   |none=>rw[g1,g2]at ek;cases ek
   |some b1=>
    rw[Dt.depL,zOF g2];cases d<;>first|rfl|cases g1
section
variable[Kc]{mg:Str->Option Value}{E:XK}{L n k l:Nat}{te ta tb tx td t1 t2:TE}{e ea eb ex ed e1 e2:EM}{u:TS}{m m':SM}
theorem Kids.snoc{G H:Hp}{S:Addr->Prop}{a p:Addr}{ds:List Dt}{xs:List V}{T:Nat->Addr->Prop}{S':Addr->Prop}{d:Dt}{v:V}{o:HO}(kd:Kids (Own G H n) S a ds xs T)(w:Own G (upd H p o) n S' d v)(hp:∀r,¬T r p)(ha:¬S' a)
  (hd:∀r b,T r b->S' b->False):Kids (Own G (upd H p o) n) (fun b=>S b\/S' b) a (ds++[d]) (xs++[v]) (fun r b=>(r<ds.length/\T r b)\/(r=ds.length/\S' b)):=by
 refine⟨by simp[kd.len],fun r d' z g1 g2=>?_,.inl kd.top,fun r z=>?_,fun r r' b z1 z2=>?_,fun r b z=>?_⟩
 ·by_cases hr:r<ds.length
  ·rw[qA9 hr]at g1;rw[qA9 (by rw[kd.len];exact hr)]at g2;exact((kd.own r d' z g1 g2).upd (hp r)).sub fun b z=>.inl ⟨hr,z⟩
  ·rw[qAd (by lia)]at g1;rw[qAd (by rw[kd.len];lia),kd.len]at g2;have hq0:r-ds.length=0:=by
    have:=(qA3.mp g1).1;simp at this;lia
   rw[hq0]at g1 g2;simp at g1 g2;subst g1;subst g2;exact w.sub fun b z=>.inr ⟨by lia,z⟩
 ·rcases z with⟨_,z⟩|⟨_,z⟩
  ·exact kd.out r z
  ·exact ha z
 ·rcases z1 with⟨c1,t1⟩|⟨c1,t1⟩<;>rcases z2 with⟨c2,t2⟩|⟨c2,t2⟩
  ·exact kd.dis r r' b t1 t2
  ·exact(hd r b t1 t2).elim
  ·exact(hd r' b t2 t1).elim
  ·lia
 ·rcases z with⟨_,z⟩|⟨_,z⟩
  ·exact .inl (kd.sub r b z)
  ·exact .inr z
theorem Sat.forgetT{G0 H0 S0:Hp}{σ:St}{ρ:Ro}{G H:Hp}{As:Nat->Addr->Prop}(a:Sat G0 H0 S0 σ ρ G H As)(j:Nat)(v:V):Sat G0 H0 S0 (σ.set j (some v)) (ρ.set j none) G H As:=by
 refine⟨a.ext,a.stb,a.tab,by simp[a.len],fun i d n h=>?_,a.dis,a.new⟩
 by_cases z:j=i
 ·subst z;have hj:j<ρ.length:=by
   have:=(qA3.mp h).1;simpa using this
  rw[qAl hj]at h;cases h
 ·rw[qAm z]at h ⊢;exact a.at i d n h
theorem zSN{G G' H:Hp}{T:Addr->Prop}{ks:List (List Mi.Sw)}{q:List Mi.Sw}{b:Addr}(s:Same G G')(ht:KeyT G T ks)(hb:G' b=some (.tup (q.map swV)))(hf:Mi.fitT ks q=true):KeyT G' (fun c=>T c\/c=b) (Mi.putKs ks q):=by
 unfold Mi.putKs;cases ep:Mi.posT ks q with
 |some j=>
  dsimp only;refine⟨ht.1,fun c hc=>?_⟩
  rcases hc with hc|rfl
  ·obtain⟨ys,h1,h2⟩:=ht.2 c hc;exact⟨ys,s _ _ h1,h2⟩
  ·refine⟨_,hb,fun hn=>zP7 ?_⟩;unfold Mi.fitT at hf;rw[ep,<- zU4,hn]at hf;rw[zVW]
   simpa using hf
 |none=>
  dsimp only;refine⟨?_,fun c hc=>?_⟩
  ·rw[qBa,qC1];refine⟨ht.1,by simp,fun a ha b hb=>?_⟩;obtain⟨q',hq',rfl⟩:=qAb.mp ha;simp at hb;subst hb;rw[zI4,zI4];exact zJ9 ep q' hq'
  ·rcases hc with hc|rfl
   ·obtain⟨ys,h1,h2⟩:=ht.2 c hc;refine⟨ys,s _ _ h1,fun hn=>h2 ?_⟩;unfold noBk at hn ⊢;rw[qGu]at hn;simp at hn ⊢;exact hn.1
   ·refine⟨_,hb,fun hn=>zP7 ?_⟩;unfold noBk at hn;rw[qGu]at hn;simp at hn ⊢;exact hn.2
theorem zU0{G0 H0 S0:Hp}{σ σ':St}{ρ:Ro}{ρ':Rh}{G H J H1:Hp}{As:Nat->Addr->Prop}{S:Addr->Prop}{d:Dt}{y:V}{D:Ends}{i:Nat}{f:Ro->R Out}(a:Sat G0 H0 S0 σ ρ G H As)(A:DE mg E t1 e1 l)(hl1:1<=l)(hl2:l<1000)
  (x:Ext G0 H0 J H1) (sH:Same H H1) (hs:σ'[i]?=σ[i]?) (w:View J σ' ρ')
  (o:d.dep<=n->d.dep<=k->True) (oS:d.dep<=n->∀k,d.dep<=k->Own G H1 k S d y) (nS:∀b,S b->H b=none/\G b=none/\H1 b≠none)
  (p:zE8 mg E G0 H0 S0 L (zA2 (Mi.putGo i n e1 ρ ρ' d) f) D)
  (fin:∀ρ2 G2 H2 As2,Sat G0 H0 S0 σ ρ2 G2 H2 As2->zE8 mg E G0 H0 S0 L (f ρ2) D->D.nx σ' H2) :
  (vM i σ' H1 fun x H2=>t1 σ' H2 fun y' H3=>∃a T e0 kvs k b,x=.ref a/\H3 a=some (.dT T e0 kvs)/\y'=.ref b/\TupK H3 b k/\kvs.length<sizeLine /\
   ∀e1,D.nx σ' (upd H3 a (.dT (fun c=>T c\/c=b) e1 (putK kvs k y)))):=by
 unfold Mi.putGo at p;cases er:ρ[i]? with
 |none=>rw[er]at p;exact p.elim
 |some sl=>
  rw[er]at p
  match sl,er,p with
  |none,_,p=>exact p.elim
  |some (.dtt ks ds,k+1),er,p=>
   obtain⟨v,h1,q,T0,e0,xs,T,rfl,hq,hl,ht,kd⟩:=a.at i _ _ er;unfold vM;rw[hs,h1];have p':zE8 mg E G0 H0 S0 L (zA2 (e1 ρ') fun y=>zA2 (match Mi.kyU y with
    |some q=>@ite _ (d.dep<=n/\d.dep<=k/\ks.length<=100000/\Mi.fitT ks q=true) (qA2 _) (okR (ρ.set i (some (.dtt (Mi.putKs ks q) (Mi.putDs ks ds q d),k+1)))) none
    |none=>none) f) D:=by
    cases ee:e1 ρ' with
    |none=>rw[ee]at p;exact p
    |some r=>cases r<;>(rw[ee]at p;exact p)
   refine A.step (errS.from x) x.in' w p' fun z u G2 H2 S2 _ fr2 o2 p2=>?_
   cases ek:Mi.kyU z with
   |none=>rw[ek]at p2;exact p2.elim
   |some c=>
    rw[ek]at p2;dsimp only at p2;split at p2
    ·rename_i hz
     have hzd:z.dep<=1:=by
      cases z with
      |tup es=>
       rw[Dt.dep,zOF (show Mi.swsD es=some c from ek)];exact qA6 _
      |_=>cases ek
     have nS2:∀b,S2 b->H1 b=none/\G b=none/\H2 b≠none:=fun b hb=>by
      obtain⟨n1,n2,n3⟩:=fr2.new b hb;exact⟨n1,a.ext.in'.free (sH.free n1),n3⟩
     have a0:=a.grow sH;have frk:Fr G H1 G H2 S2:=⟨Ext.same a0.ext.in' fr2.ext.h,nS2⟩;have ok:Own G H2 1 S2 z u:=o2.at (qAs hzd hl1) hzd hl2;obtain⟨xE,rK⟩:=frk.frz ok;obtain⟨b,rfl,hb⟩:=zH0 rK ek;have a1:=a0.wider xE;have hx:ks.length=xs.length:=by rw[kd.len];exact hl
     have hq2:H2 q=some (.dT T0 e0 (kzip ks xs)):=xE.h _ _ (sH _ _ hq);refine⟨q,T0,e0,kzip ks xs,c.map kNw,b,rfl,hq2,rfl,zEV (xE.in' _ _ hb),?_,fun ep=>?_⟩
     ·have:(kzip ks xs).length=ks.length:=by simp[kzip,hx]
      rw[this,qJa];lia
     have q1:=oS hz.1 k hz.2.1;have q1':Own (over G H2 S2) H2 k S d y:=q1.mono xE.g xE.h;have nSq:¬S q:=fun z=>(a.new i q kd.top).2.2 (nS q z).1
     have apart:∀r b,T r b->S b->False:=fun r b z1 z2=>(a.new i b (kd.sub r b z1)).2.2 (nS b z2).1
     have kd1:Kids (Own (over G H2 S2) H2 k) (As i) q ds xs T:=kd.imp (fun _ _ _ _ w=>w.mono xE.g (sH.trans xE.h)) fun _ z=>z
     have kT:=zSN (H:=H) xE.g ht hb hz.2.2.2;have hS:∀b,(As i b\/S b)->As i b\/(H0 b=none/\over G H2 S2 b=none/\H2 b≠none/\∀j,¬As j b):=fun b z=>by
      rcases z with z|z
      ·exact .inl z
      ·obtain⟨n1,n2,n3⟩:=nS b z;refine .inr ⟨a.ext.h.free n1,?_,xE.h.some n3,fun j y=>(a.new j b y).2.2 n1⟩;rw[zCK fun z2=>n3 (nS2 b z2).1];exact n2
     have key:Sat G0 H0 S0 σ (ρ.set i (some (.dtt (Mi.putKs ks c) (Mi.putDs ks ds c d),k+1))) (over G H2 S2) (upd H2 q (.dT (fun c=>T0 c\/c=b) ep (putK (kzip ks xs) (c.map kNw) y))) (fun j=>if j=i then(fun b=>As i b\/S b)else As j):=by
      refine a1.store (S:=fun b=>As i b\/S b) kd.top h1 ?_ hS;unfold Mi.putDs;cases ep':Mi.posT ks c with
      |none=>
       dsimp only;have e3:Mi.putKs ks c=ks++[c]:=by unfold Mi.putKs;rw[ep']
       rw[e3]at kT ⊢;exact⟨q,_,ep,_,_,rfl,by rw[zAG,zRY hx ep'],by simp[hl],kT,kd1.snoc (q1'.upd nSq) kd.out nSq apart⟩
      |some j=>
       dsimp only;have e3:Mi.putKs ks c=ks:=by unfold Mi.putKs;rw[ep']
       rw[e3]at kT ⊢;exact⟨q,_,ep,_,_,rfl,by rw[zAG,zRX hx ht.1 ep'],by simp[hl],kT,kd1.set j (q1'.upd nSq) (fun r _=>kd.out r) nSq fun r b _=>apart r b⟩
     exact fin _ _ _ _ key p2
    ·exact p2.elim
  |some (.dtt ds _,0),_,p=>exact p.elim
  |some (.lst ds,_),_,p=>exact p.elim
  |some (.non,_),_,p=>exact p.elim
  |some (.bl _,_),_,p=>exact p.elim
  |some (.int _,_),_,p=>exact p.elim
  |some (.str _,_),_,p=>exact p.elim
  |some (.tup _,_),_,p=>exact p.elim
  |some (.scr _,_),_,p=>exact p.elim
  |some (.exc _ _ _,_),_,p=>exact p.elim
  |some (.fn _ _,_),_,p=>exact p.elim
  |some (.dsk _ _,_),_,p=>exact p.elim
  |some (.fnc _,_),_,p=>exact p.elim
  |some (.loc _ _,_),_,p=>exact p.elim
  |some (.ins _ _,_),_,p=>exact p.elim
  |some (.dct _,_),_,p=>exact p.elim
theorem ds_tput(i:Nat)(A:DE mg E t1 e1 l)(B:DE mg E t2 e2 n)(hl1:1<=l:=by decide)(hl2:l<1000:=by decide)(hn:n<1000:=by decide):DS mg E L (zV6 (vM i) t1 t2) (Mi.sTput i n e1 e2):=by
 intro G0 H0 S0 σ ρ G H As D a p;obtain⟨J,x,s,w⟩:=a.full;refine B.step (errS.from x) x.in' w p fun d y G1 H1 S _ fr o p1=>?_
 have x1:Ext J H J H1:=Ext.same x.in' fr.ext.h;exact zU0 (k:=0) a A hl1 hl2 (x.trans x1) fr.ext.h rfl w (fun _ _=>trivial) (fun hd k hk=>o.at hd hk hn) (fun b hb=>let⟨n1,n2,n3⟩:=fr.new b hb;⟨n1,a.ext.in'.free n1,n3⟩) p1 fun ρ2 G2 H2 As2 a2 p2=>p2 σ G2 H2 As2 a2
theorem zQ8(j i:Nat)(C:DE mg E te e 0)(A:DE mg E t1 e1 l)(B:DE mg E t2 e2 n)(hl1:1<=l:=by decide)(hl2:l<1000:=by decide)(hn:n<1000:=by decide):DS mg E L (tSeq (tAsg te (zEN j)) (zV6 (vM i) t1 t2)) (Mi.sTmpPut j i n e e1 e2):=by
 intro G0 H0 S0 σ ρ G H As D a p;unfold Mi.sTmpPut at p;by_cases hij:i=j
 ·rw[if_pos hij]at p;exact p.elim
 rw[if_neg hij]at p;obtain⟨J,x,s,w⟩:=a.full;refine C.step (errS.from x) x.in' w p fun c v0 G1 H1 S1 _ fr o p1=>?_
 have x1:=x.trans fr.ext;have w1:View G1 (σ.set j (some v0)) ((full ρ).set j (some c)):=(w.mono fr.ext.g).set o;refine B.step (errS.from x1) x1.in' w1 p1 fun d y G2 H2 S _ fr2 o2 p2=>?_
 have x2:Ext G1 H1 G1 H2:=Ext.same fr.ext.in' fr2.ext.h;exact zU0 (k:=0) a A hl1 hl2 (x1.trans x2) (fr.ext.h.trans fr2.ext.h) (qAm fun z=>hij z.symm) w1 (fun _ _=>trivial) (fun hd k hk=>o2.at hd hk hn)
  (fun b hb=>let⟨n1,n2,n3⟩:=fr2.new b hb;⟨fr.ext.h.free n1,a.ext.in'.free (fr.ext.h.free n1),n3⟩) p2 fun ρ2 G2 H2 As2 a2 p3=>p3 _ G2 H2 As2 (a2.forgetT j v0)
theorem zQ9(i:Nat)(A:DE mg E te e l):DS mg E L (tRet (zOD (vM i) te)) (Mi.sRetTIx L i e):=by
 intro G0 H0 S0 σ ρ G H As D a p;obtain⟨J,x,s,w⟩:=a.full;unfold Mi.sRetTIx at p;split at p
 ·rename_i ks ds k e1
  obtain⟨v,h1,q,T0,e0,xs,T,rfl,hq,hl,ht,kd⟩:=a.at i _ _ e1;show zOD (vM i) te σ H D.rt;unfold zOD vM;rw[h1];refine(zAS A).step (errS.from x) x.in' w p fun d y G1 H1 S _ fr o p1=>?_
  split at p1
  ·rename_i c ek
   split at p1
   ·rename_i d' eg
    by_cases hk:k=L
    ·rw[if_pos hk]at p1;subst hk;obtain⟨b,rfl,hb⟩:=zH0 o ek;have hx:ks.length=xs.length:=by rw[kd.len];exact hl
     unfold Mi.getT at eg;cases ej:Mi.posT ks c with
     |none=>rw[ej]at eg;cases eg
     |some j=>
      rw[ej]at eg;have h':ds[j]?=some d':=eg;have hj:j<xs.length:=by rw[kd.len];exact(qA3.mp h').1
      have hxj:xs[j]?=some xs[j]:=qA5 hj;refine⟨q,xs[j],rfl,?_,p1 _ G H1 (T j) ⟨a.ext.trans (Ext.same a.ext.in' fr.ext.h),fun b hb=>?_⟩ ((kd.own j d' _ h' hxj).mono (Same.refl _) fr.ext.h)⟩
      ·have e5:valV (kzip ks xs) (c.map kNw)=some xs[j]:=by
        rw[zR9 c ks xs hx,ej];exact hxj
       rw[<- e5];exact DGet.t (fr.ext.h _ _ hq) (zEV (fr.ext.in' _ _ hb))
      ·obtain⟨n1,n2,n3⟩:=a.new i b (kd.sub j b hb);exact⟨n1,n2,fr.ext.h.some n3⟩
    ·rw[if_neg hk]at p1;exact p1.elim
   ·exact p1.elim
  ·exact p1.elim
 ·exact p.elim
end
end L3
namespace L2
open PySem PySem.Spec PyProof.Rows
section
variable{prog:qIy}{w:World}{A:qJ2}{E:Value->qIv->Prop}{s:qIv}
end
section
variable{X:Cx}{pins:List (Addr×Obj)}{σ:List (Option V)}{H:Hp}{s:qIv}
end
section
variable{prog:qIy}{w:World}{A:qJ2}{E:Value->qIv->Prop}{s:qIv}
end
section
variable{X:Cx}
end
section
variable{prog:qIy}{w:World}{A:qJ2}{E:Value->qIv->Prop}{s:qIv}
end
section
variable{X:Cx}{pins:List (Addr×Obj)}{σ:List (Option V)}{H:Hp}{s:qIv}
end
end L2
namespace L3
open PySem PySem.Spec
open L2 hiding Rep RepL
open Mi (Dt Xn R okR zA2 optR zA0 zA4 zA9 zA7 zA8 Rh Sl Ro EM TM AM FM IM SM OM Tg Out zAO zAN zAQ full frz frz1 frzAt OutM SMM FW)
section
variable[Kc]{mg:Str->Option Value}{E:XK}{L n k l:Nat}{te ta tb tx td t1 t2:TE}{e ea eb ex ed e1 e2:EM}{t u:TS}{m m':SMM}{s:SM}
theorem zZY(i:Nat):DE mg E (vM i) (Mi.eVL i) 0:=by
 intro G H σ ρ Q s w p;unfold Mi.eVL at p;split at p
 ·rename_i q d e
  obtain⟨v,h1,h2⟩:=w.at i _ e;unfold vM;rw[h1];exact PostE.kept p (Ext.refl s) h2.2
 ·exact p.elim
theorem zFL(i:Nat){n1:Nat}(A:DE mg E t1 e1 n1)(B:DE mg E t2 e2 n)(hn:n<1000:=by decide):DS mg E L (tAsg t2 (gSub (vM i) t1 setM)) (Mi.sItemL i n e1 e2):=by
 intro G0 H0 S0 σ ρ G H As D a p;obtain⟨J,x,s,w⟩:=a.full;refine B.step (errS.from x) x.in' w p fun d y G1 H1 S _ fr o p1=>?_
 split at p1
 ·rename_i pl ds k er
  obtain⟨v,h1,hpl,q,xs,T,hv,hq,kd⟩:=a.at i _ _ er;subst hv;unfold gSub vM;rw[h1];have x1:Ext J H J H1:=Ext.same x.in' fr.ext.h;refine(zAS A).step (errS.from (x.trans x1)) x1.in' w p1 fun z u G2 H2 S2 _ fr2 o2 p2=>?_
  cases z with
  |int z=>
   cases(show u=.int z from o2)
   try dsimp only at p2
   cases ei:Mi.ixA ds.length z with
   |none=>rw[ei]at p2;exact p2.elim
   |some c=>
    rw[ei]at p2
    try dsimp only at p2
    split at p2
    ·rename_i hz
     rw[zPN]at ei;obtain⟨q1,q2⟩:=whole (k:=k) a s fr o hn hz.1 hz.2;have sH:=fr.ext.h.trans fr2.ext.h;refine⟨xs,c,sH _ _ hq,by rw[kd.len];exact ei,?_⟩;have a1:=a.grow sH;have nS:¬S q:=fun z=>(a.new i q kd.top).2.2 (q2 q z).1
     have kd1:Kids (Own G H2 k) (As i) q ds xs T:=kd.imp (fun _ _ _ _ w=>w.mono (Same.refl _) sH) fun _ z=>z
     refine p2 σ G _ _ (a1.store (S:=fun b=>As i b\/S b) kd.top h1 ⟨hpl,q,_,_,rfl,zAG,kd1.set c ((q1.mono (Same.refl _) fr2.ext.h).upd nS) (fun r _=>kd.out r) nS fun r b _ z1 z2=>(a.new i b (kd.sub r b z1)).2.2 (q2 b z2).1⟩ fun b z=>?_)
     rcases z with z|z
     ·exact .inl z
     ·obtain⟨n1,n2,n3⟩:=q2 b z;exact .inr ⟨a.ext.h.free n1,n2,fr2.ext.h.some n3,fun j y=>(a.new j b y).2.2 n1⟩
    ·exact p2.elim
  |_=>exact p2.elim
 ·exact p1.elim
def zaD(mg:Str->Option Value)(E:XK)(G0 H0 S0:Hp)(r:R OutM)(D:Ends):Prop:=match r with
 |none=>False
 |some (.error x)=>∀c da G' H',Ext G0 H0 G' H'->XRep mg x c da G' H'->E c da H'
 |some (.ok (.nx ρ))=>∀σ G H As,Sat G0 H0 S0 σ ρ G H As->D.nx σ H
 |some (.ok (.rt ρ d))=>∀σ v G H As,Sat G0 H0 S0 σ ρ G H As->d.dep=0->Rep G d v->D.rt v H
 |some (.ok (.rv ρ i))=>∀σ v G H As,Sat G0 H0 S0 σ ρ G H As->σ[i]?=some (some v)->D.rt v H
def DM(mg:Str->Option Value)(E:XK)(t:TS)(m:SMM):Prop:=∀(G0 H0 S0:Hp)(σ:St)(ρ:Ro)(G H:Hp)(As:Nat->Addr->Prop)(D:Ends),Sat G0 H0 S0 σ ρ G H As->zaD mg E G0 H0 S0 (m ρ) D->t D σ H
theorem errM{G0 H0 S0:Hp}{D:Ends}:Err mg E G0 H0 (fun r=>zaD mg E G0 H0 S0 r D):=⟨fun h=>h,fun _ h=>h⟩
theorem zCV(A:DS mg E L t s):DM mg E t (Mi.mLift s):=by
 intro G0 H0 S0 σ ρ G H As D a p;refine A G0 H0 S0 σ ρ G H As D a ?_;unfold Mi.mLift at p;cases e:s ρ with
 |none=>rw[e]at p;exact p
 |some r=>
  rw[e]at p;cases r with
  |error x=>exact p
  |ok o=>cases o<;>first|exact p|exact p.elim
theorem zEP(A:DM mg E t m)(B:DM mg E u m'):DM mg E (tSeq t u) (Mi.mSeq m m'):=by
 intro G0 H0 S0 σ ρ G H As D a p;refine A G0 H0 S0 σ ρ G H As _ a ?_;unfold Mi.mSeq at p;cases e:m ρ with
 |none=>rw[e]at p;exact p
 |some r=>
  rw[e]at p;cases r with
  |error x=>exact p
  |ok o=>
   cases o with
   |nx ρ'=>exact fun σ' G' H' As' a'=>B G0 H0 S0 σ' ρ' G' H' As' D a' p
   |rt ρ' d=>exact p
   |rv ρ' i=>exact p
theorem zbQ{tc:TT}{c:TM}(C:DT mg E tc c)(A:DM mg E t m)(B:DM mg E u m'):DM mg E (tIfS tc t u) (Mi.mIf c m m'):=by
 intro G0 H0 S0 σ ρ G H As D a p;obtain⟨J,x,s,w⟩:=a.full;refine C.step (errM.from x) x.in' w p fun b H' _ sH p1=>?_
 cases b with
 |true=>exact A G0 H0 S0 σ ρ G H' As D (a.grow sH) p1
 |false=>exact B G0 H0 S0 σ ρ G H' As D (a.grow sH) p1
theorem zQC(A:DE mg E te e n):DM mg E (tRet te) (Mi.mRet e):=by
 intro G0 H0 S0 σ ρ G H As D a p;obtain⟨J,x,s,w⟩:=a.full;refine(zAS A).step (errM.from x) x.in' w p fun d v G1 H1 S _ fr o p1=>?_
 split at p1
 ·rename_i hd
  exact p1 σ v G H1 As (a.grow fr.ext.h) hd (Rep.scalar o hd)
 ·exact p1.elim
open Classical in
noncomputable def cutH(H:Hp)(S:Addr->Prop):Hp:=fun b=>if S b then none else H b
theorem zUJ{H:Hp}{S:Addr->Prop}{b:Addr}(h:S b):cutH H S b=none:=by unfold cutH;rw[if_pos h]
theorem zDD{H:Hp}{S:Addr->Prop}{b:Addr}(h:¬S b):cutH H S b=H b:=by unfold cutH;rw[if_neg h]
theorem zTE{H:Hp}{S:Addr->Prop}{b:Addr}{o:HO}(h:cutH H S b=some o):¬S b/\H b=some o:=by
 by_cases z:S b
 ·rw[zUJ z]at h;cases h
 ·rw[zDD z]at h;exact⟨z,h⟩
def zTM(mg:Str->Option Value)(E:XK)(G H0:Hp)(k L:Nat)(v0:V)(r:R (Dt×Dt))(Q:VK):Prop:=match r with
 |none=>False
 |some (.error x)=>∀c da G' H',Ext G H0 G' H'->XRep mg x c da G' H'->E c da H'
 |some (.ok (d,d0))=>∀v G' H' S0 S1,Ext G H0 G' H'->Own G' H' k S0 d0 v0->Own G' H' L S1 d v->(∀b,S0 b\/S1 b->H0 b=none/\G' b=none/\H' b≠none)->(∀b,S0 b->S1 b->False)->Q v H'
def spW(mg:Str->Option Value)(i0 k L:Nat)(f:FW):Sp:=fun vs H Q E=>∃(G:Hp)(S:Addr->Prop)(ds:List Dt)(p:Addr)(d0:Dt),Same (tabK Kc.K) G/\Same G H/\(∀b,S b->G b=none/\H b≠none)/\vs.length=ds.length /\
 (∀i d v,i≠i0->ds[i]?=some d->vs[i]?=some v->Rep G d v)/\vs[i0]?=some (.ref p)/\ds[i0]?=some d0/\Own G H k S d0 (.ref p)/\zTM mg E G (cutH H S) k L (.ref p) (f ds) Q
theorem zV2{i0 P N:Nat}{vs:List V}{H:Hp}{Q:VK}{E:XK}(h:spW mg i0 k L (Mi.uniM (Mi.runM L P N i0 k m)) vs H Q E):vs.length=P:=by
 obtain⟨G,S,ds,p,d0,_,_,_,hl,_,_,_,_,q⟩:=h;rw[hl];unfold Mi.uniM at q;split at q
 ·unfold Mi.runM at q
  split at q
  ·rename_i h;exact h.1
  ·exact q.elim
 ·exact q.elim
theorem zL3{G0 H0 S0:Hp}{σ:St}{ρ:Ro}{G H:Hp}{As:Nat->Addr->Prop}{i0 p:Nat}{d0:Dt}(a:Sat G0 H0 S0 σ ρ G H As)(h:Mi.heldAt i0 k p ρ=some d0):Own G H k (As i0) d0 (.ref p):=by
 unfold Mi.heldAt at h;split at h
 ·rename_i b d l e
  split at h
  ·rename_i hz
   cases h;obtain⟨rfl,rfl⟩:=hz;obtain⟨v,_,h2,h3⟩:=a.at i0 _ _ e;rw[h2]at h3;exact h3
  ·cases h
 ·cases h
theorem zOL{i0 P:Nat}{N:List Str}{vs:List V}{H:Hp}{Q:VK}(B:DM mg E t m)(h:spW mg i0 k L (Mi.uniM (Mi.runM L P N.length i0 k m)) vs H Q E):t { nx:=fun _ H'=>Q .non H',rt:=Q } (L2.start N vs) H:=by
 obtain⟨G,S,ds,p,d0,tb,sG,hS,hl,hr,hp,hd0,o0,q⟩:=h;unfold Mi.uniM at q;split at q
 ·rename_i hu
  rw[<- hu p]at q;unfold Mi.runM at q;split at q
  ·rename_i hP
   have e0:Mi.startM N.length i0 k p ds=(Mi.startO N.length ds).set i0 (some (.loc p d0,k+1)):=by unfold Mi.startM;rw[hd0]
   have hi0:i0<ds.length:=(qA3.mp hd0).1;have a:Sat G (cutH H S) G (L2.start N vs) (Mi.startM N.length i0 k p ds) G H (fun i b=>i=i0/\S b):=by
    rw[e0];refine⟨⟨Same.refl _,fun b o e=>(zTE e).2,sG,fun _ _=>rfl⟩,Same.refl _,tb,?_,fun i d n e=>?_,fun i j a h1 h2=>by rw[h1.1,h2.1],fun i b h=>⟨zUJ h.2,hS b h.2⟩⟩
    ·unfold Mi.startO L2.start;simp[hl]
    ·by_cases hi:i0=i
     ·subst hi;rw[qAl (by unfold Mi.startO;simp;lia)]at e;cases e;refine⟨.ref p,?_,rfl,o0.sub fun b hb=>⟨rfl,hb⟩⟩;unfold L2.start;rw[qA9 (by simp[hl];exact hi0),qA8,hp];rfl
     ·rw[qAm hi]at e;unfold Mi.startO at e
      by_cases hi2:i<ds.length
      ·rw[qA9 (by simpa using hi2),qA8]at e;cases e1:ds[i]? with
       |none=>rw[e1]at e;cases e
       |some d'=>
        rw[e1]at e;cases e;have hv:vs[i]?=some (vs[i]'(by rw[hl];exact hi2)):=by simp
        refine⟨vs[i]'(by rw[hl];exact hi2),?_,hr i _ _ (fun z=>hi z.symm) e1 hv⟩;unfold L2.start;rw[qA9 (by simpa[hl]using hi2),qA8,hv];rfl
      ·rw[qAd (by simpa using hi2),qBj]at e
       split at e<;>cases e
   refine B G (cutH H S) G _ _ G H _ _ a ?_;cases em:m (Mi.startM N.length i0 k p ds)with
   |none=>rw[em]at q;exact q
   |some r=>
    rw[em]at q;cases r with
    |error y=>exact q
    |ok o=>
     cases o with
     |nx ρ'=>
      intro σ' G' H' As' a';have q':zTM mg E G (cutH H S) k L (.ref p) (optR ((Mi.heldAt i0 k p ρ').map fun d0=>(.non,d0))) Q:=q;cases eh:Mi.heldAt i0 k p ρ' with
      |none=>rw[eh]at q';exact q'.elim
      |some d1=>
       rw[eh]at q';exact q' .non G' H' (As' i0) (fun _=>False) a'.ext (zL3 a' eh) (zM8 rfl rfl) (fun b hb=>hb.elim (a'.new i0 b) fun z=>z.elim) fun _ _ z=>z
     |rt ρ' d=>
      intro σ' v G' H' As' a' hd rd;have q':zTM mg E G (cutH H S) k L (.ref p) (optR ((Mi.heldAt i0 k p ρ').map fun d0=>(d,d0))) Q:=q;cases eh:Mi.heldAt i0 k p ρ' with
      |none=>rw[eh]at q';exact q'.elim
      |some d1=>
       rw[eh]at q';exact q' v G' H' (As' i0) (fun _=>False) a'.ext (zL3 a' eh) (zM8 rd hd) (fun b hb=>hb.elim (a'.new i0 b) fun z=>z.elim) fun _ _ z=>z
     |rv ρ' i=>
      intro σ' v G' H' As' a' hv;have q':zTM mg E G (cutH H S) k L (.ref p) (match ρ'[i]? with
       |some (some (d,l))=>if l=L/\i≠i0 then optR ((Mi.heldAt i0 k p ρ').map fun d0=>(d,d0))else none
       |_=>none) Q:=q
      split at q'
      ·rename_i d l er
       split at q'
       ·rename_i hz
        obtain⟨rfl,hne⟩:=hz;cases eh:Mi.heldAt i0 k p ρ' with
        |none=>rw[eh]at q';exact q'.elim
        |some d1=>
         rw[eh]at q';obtain⟨v',hv',ov⟩:=a'.at i _ _ er;rw[hv]at hv';cases hv';exact q' v G' H' (As' i0) (As' i) a'.ext (zL3 a' eh) ov (fun b hb=>hb.elim (a'.new i0 b) (a'.new i b)) fun b z1 z2=>hne (a'.dis _ _ b z2 z1)
       ·exact q'.elim
      ·exact q'.elim
  ·exact q.elim
 ·exact q.elim
theorem Sat.swap{G0 H0 S0:Hp}{σ:St}{ρ:Ro}{G H G' H':Hp}{As:Nat->Addr->Prop}{i K:Nat}{D:Dt}{v:V}{S:Addr->Prop}(a:Sat G0 H0 S0 σ ρ G H As)(x:Ext G (cutH H (As i)) G' H')(hv:σ[i]?=some (some v))(o:Own G' H' K S D v)
  (hS:∀b,S b->cutH H (As i) b=none/\G' b=none/\H' b≠none):Sat G0 H0 S0 σ (ρ.set i (some (D,K))) G' H' (fun j=>if j=i then S else As j):=by
 have inH:∀j b,j≠i->As j b->cutH H (As i) b=H b:=fun j b hj h=>zDD fun z=>hj (a.dis j i b h z)
 have h0:∀b,H0 b≠none->cutH H (As i) b=H b:=fun b hb=>zDD fun z=>hb (a.new i b z).1
 refine⟨⟨a.ext.g.trans x.g,fun b ob e=>?_,x.in',fun b hb=>?_⟩,a.stb.trans x.g,a.tab,by simp[a.len],fun j e n h=>?_,fun j l b h1 h2=>?_,fun j b h=>?_⟩
 ·exact x.h _ _ ((h0 b (by rw[e];simp)).trans (a.ext.h _ _ e))
 ·rw[x.old b (by rw[h0 b hb];exact a.ext.h.some hb)];exact a.ext.old b hb
 ·have hj:j<ρ.length:=by
   have:=(qA3.mp h).1;simpa using this
  by_cases z:i=j
  ·subst z;rw[qAl hj]at h;cases h;exact⟨v,hv,by rw[if_pos rfl];exact o⟩
  ·rw[qAm z]at h;obtain⟨u,h1,h2⟩:=a.at j e n h;refine⟨u,h1,?_⟩;rw[if_neg (fun q=>z q.symm)];exact(Own.keep h2 fun b ob hb e=>(inH j b (fun q=>z q.symm) hb).trans e).mono x.g x.h
 ·have key:∀j b,j≠i->As j b->S b->False:=fun j b hj h1 h2=>by
   have:=(hS b h2).1;rw[inH j b hj h1]at this;exact(a.new j b h1).2.2 this
  try dsimp only at h1 h2
  by_cases z1:j=i
  ·by_cases z2:l=i
   ·rw[z1,z2]
   ·rw[if_pos z1]at h1;rw[if_neg z2]at h2;exact(key l b z2 h2 h1).elim
  ·by_cases z2:l=i
   ·rw[if_neg z1]at h1;rw[if_pos z2]at h2;exact(key j b z1 h1 h2).elim
   ·rw[if_neg z1]at h1;rw[if_neg z2]at h2;exact a.dis j l b h1 h2
 ·try dsimp only at h
  by_cases z1:j=i
  ·rw[if_pos z1]at h;obtain⟨n1,n2,n3⟩:=hS b h;refine⟨?_,n2,n3⟩
   by_cases z:As i b
   ·exact(a.new i b z).1
   ·rw[zDD z]at n1;exact a.ext.h.free n1
  ·rw[if_neg z1]at h;obtain⟨n1,n2,n3⟩:=a.new j b h;have e:=inH j b z1 h;refine⟨n1,?_,x.h.some (by rw[e];exact n3)⟩;rw[x.old b (by rw[e];exact n3)];exact n2
theorem zQU{G0 H0 S0:Hp}{σ:St}{ρ:Ro}{G H:Hp}{As:Nat->Addr->Prop}{i i0:Nat}{p:Addr}{d0:Dt}{f:FW}{ds:List Dt}{vs:List V}{Q:VK}{β:Type}{P:R β->Prop}{g:Dt×Dt->R β}(a:Sat G0 H0 S0 σ ρ G H As)(hE:Err mg E G0 H0 P)
  (o0:Own G H k (As i) d0 (.ref p)) (hl:vs.length=ds.length) (hr:∀i d v,i≠i0->ds[i]?=some d->vs[i]?=some v->Rep G d v) (hp:vs[i0]?=some (.ref p)) (hd:ds[i0]?=some d0) (pq:P (zA2 (f ds) g))
  (fin:∀r v G' H' S S1,Ext G (cutH H (As i)) G' H'->Own G' H' k S r.2 (.ref p)->Own G' H' L S1 r.1 v->(∀b,S b\/S1 b->cutH H (As i) b=none/\G' b=none/\H' b≠none)->(∀b,S b->S1 b->False)->P (g r)->Q v H') :
  spW mg i0 k L f vs H Q E:=by
 refine⟨G,As i,ds,p,d0,a.tab.trans a.ext.g,a.ext.in',fun b hb=>(a.new i b hb).2,hl,hr,hp,hd,o0,?_⟩;cases ef:f ds with
 |none=>rw[ef]at pq;exact hE.no pq
 |some r=>
  rw[ef]at pq;cases r with
  |error x=>
   intro c da G' H' xt xr;refine hE.er x pq c da G' H' ⟨a.ext.g.trans xt.g,fun b ob e=>?_,xt.in',fun b hb=>?_⟩ xr
   ·have h0:cutH H (As i) b=H b:=zDD fun z=>by
     have:=(a.new i b z).1;rw[e]at this;cases this
    exact xt.h _ _ (h0.trans (a.ext.h _ _ e))
   ·have h0:cutH H (As i) b=H b:=zDD fun z=>hb (a.new i b z).1
    rw[xt.old b (by rw[h0];exact a.ext.h.some hb)];exact a.ext.old b hb
  |ok r=>
   obtain⟨d,d1⟩:=r;exact fun v G' H' S S1 xt oS o1 hS hdis=>fin (d,d1) v G' H' S S1 xt oS o1 hS hdis pq
theorem zOO{G:Hp}{ds:List Dt}{vs:List V}(r:RepL G ds vs){d0:Dt}{v0:V}:∀i d v,i≠0->(d0::ds)[i]?=some d->(v0::vs)[i]?=some v->Rep G d v:=fun i d v hi h1 h2=>by
 cases i with
 |zero=>exact absurd rfl hi
 |succ i=>exact zBI r (by simpa using h1) (by simpa using h2)
theorem zVO{G H:Hp}{S:Addr->Prop}{d:Dt}{v:V}(h:Own G H (k+1) S d v)(hd:(∃ds,d=.lst ds)\/∃ks ds,d=.dtt ks ds):∃p,v=.ref p:=by
 rcases hd with⟨ds,rfl⟩|⟨ks,ds,rfl⟩
 ·obtain⟨a,_,_,e,_⟩:=h;exact⟨a,e⟩
 ·obtain⟨a,_,_,_,_,e,_⟩:=h;exact⟨a,e⟩
theorem zT2(j i:Nat){t:TA}{am:AM}{f:FW}(A:DA mg E t am 0):DS mg E l (tAsg (zEB (spW mg 0 (k+1) L f) [] E (zEA (vM i) t)) (zEN j)) (Mi.sCallW j i (k+1) L am f):=by
 intro G0 H0 S0 σ ρ G H As D a p;unfold Mi.sCallW at p;split at p
 ·rename_i d0 l' er
  split at p
  ·rename_i hz
   obtain⟨rfl,hij,hbox⟩:=hz;obtain⟨v0,h1,o0⟩:=a.at i _ _ er;unfold tAsg zEB zEA vM;rw[h1];refine A.step (errS.from a.ext) a.ext.in' a.frz p fun es vs G1 H1 S T _ fr oA p1=>?_
   have xE:=fr.ext;have rA:=oA.repL;have a1:=a.wider xE;have o1:=o0.mono xE.g xE.h;have hr:∃p,v0=.ref p:=zVO o0 (by cases d0<;>first|exact .inl ⟨_,rfl⟩|exact .inr ⟨_,_,rfl⟩|cases hbox)
   ·obtain⟨q,rfl⟩:=hr;dsimp only;rw[qBu];refine zQU (P:=fun r=>zE8 mg E G0 H0 S0 l r D) (ds:=d0::es) a1 errS o1 (by simp[rA.length]) (zOO rA) rfl rfl p1 fun r v G' H' S' S1 xt oS oV hS hdis p2=>?_
    have a2:=a1.swap xt h1 oS fun b hb=>hS b (.inl hb)
    refine p2 _ G' H' _ (a2.put (i:=j) oV (fun b hb=>?_) fun r b hr h1 h2=>?_)
    ·obtain⟨n1,n2,n3⟩:=hS b (.inr hb);refine⟨?_,n2,n3⟩
     by_cases z:As i b
     ·exact(a1.new i b z).1
     ·rw[zDD z]at n1;exact a1.ext.h.free n1
    ·try dsimp only at h1
     by_cases z:r=i
     ·rw[if_pos z]at h1;exact hdis b h1 h2
     ·rw[if_neg z]at h1;have n1:=(hS b (.inr h2)).1;rw[zDD fun y=>z (a1.dis r i b h1 y)]at n1;exact(a1.new r b h1).2.2 n1
  ·exact p.elim
 ·exact p.elim
theorem zWL(j i:Nat){t:TA}{am:AM}{f:FW}(A:DA mg E t am 0):DS mg E l (tAsg (tOp zVF (vM j) (zEB (spW mg 0 k 0 f) [] E (zEA (vM i) t))) (zEN j)) (Mi.sAddW j i k am f):=by
 intro G0 H0 S0 σ ρ G H As D a p;unfold Mi.sAddW at p;split at p
 ·rename_i q d0 l' s' n' er ej
  split at p
  ·rename_i hz
   obtain⟨rfl,hij⟩:=hz;obtain⟨v0,h1,rfl,o0⟩:=a.at i _ _ er;obtain⟨vj,hj1,oj⟩:=a.at j _ _ ej;have:vj=.int s':=by cases n'<;>exact oj
   subst this;unfold tAsg tOp zEB zEA vM;rw[hj1]
   try dsimp only
   rw[h1];refine A.step (errS.from a.ext) a.ext.in' a.frz p fun es vs G1 H1 S T _ fr oA p1=>?_
   have xE:=fr.ext;have rA:=oA.repL;have a1:=a.wider xE;have o1:=o0.mono xE.g xE.h
   try dsimp only
   rw[qBu];refine zQU (P:=fun r=>zE8 mg E G0 H0 S0 l r D) (ds:=d0::es) a1 errS o1 (by simp[rA.length]) (zOO rA) rfl rfl p1 fun r v G' H' S' S1 xt oS oV hS hdis p2=>?_
   split at p2
   ·rename_i c ec
    rw[ec]at oV;cases(show v=.int c from oV)
    have a2:=a1.swap (K:=k+1) (D:=.loc q r.2) xt h1 ⟨rfl,oS⟩ fun b hb=>hS b (.inl hb)
    exact p2 _ G' H' _ (a2.put (i:=j) (S:=fun _=>False) (zM8 (n:=0) rfl rfl) (fun b hb=>hb.elim) fun r b hr h1 h2=>h2)
   ·exact p2.elim
  ·exact p.elim
 ·exact p.elim
end
end L3
namespace L2
open PySem PySem.Spec PyProof.Rows
structure FunD(K:qA1)(x qual:Str)(st:Stmt)(f:Addr)(fd:qJl):Prop where
 ex:∃(oc:Value)(od:Option Addr)(dt:Addr)(kV doc pm:Value)(an:Option Addr)(cdv ct:Value)(osl:Array (Option Value))(ot:Obj)(n:Nat),
  fd=qB7 x qual (zAW st) (zAT st) (zAB st) (.ref dt) kV doc pm an cdv ct/\K.lookup f=some ⟨oc,od,.func fd,osl⟩/\qCc K cdv qual=true/\K.lookup dt=some ot/\ot.data=.seq #[.none] n
 kp:qB5 K (.ref f)=true
def DefD(K:qA1)(mg:Str->Option Value)(x:Str)(st:Stmt):Prop:=∃f fd,FunD K x x st f fd/\mg x=some (.ref f)
def HasD(P:qIy)(w:World)(K:qA1)(mg:Str->Option Value)(base:Heap)(x:Str)(k:Nat)(ps:List Str)(sp:Sp):Prop:=
 ∃f fd,FnOk P w K mg base (CXe P w) k f fd ps sp/\mg x=some (.ref f)/\qB5 K (.ref f)=true/\Binds K fd ps []/\Binds K fd ps [.none]
theorem zQW{K:qA1}{fd:qJl}{a b:Str}{dt:Addr}{ot:Obj}{n:Nat}(hd:fd.defaults=.ref dt)(hk:K.lookup dt=some ot)(ho:ot.data=.seq #[.none] n)(h1:fd.params.posonlyargs=[])(h2:fd.params.args.map (·.arg)=[a,b])(h3:fd.params.kwonlyargs=[])(h4:fd.params.vararg=none)(h5:fd.params.kwarg=none)(hab:a≠b) :
  Binds K fd [a,b] []/\Binds K fd [a,b] [.none]:=by
 have hba:(b==a)=false:=by simpa using fun z=>hab z.symm
 have hab':(a==b)=false:=by simpa using hab
 constructor
 ·intro s us hK hl
  match us,hl with
  |[u,v],_=>
   intro M A E Q q;unfold bindArgs;dsimp only;rw[h1,h2,h3,h4,h5,hd];refine wpAny_bind (wpAny_pure ?_);dsimp only;refine wpAny_bind (wpAny_seqItems (hK dt ot hk) ho ?_);simp[qCo,hab',hba,qIh,List.zip,qIt,qIc];exact wpAny_pure q
 ·intro s us hK hl;obtain⟨u,rfl⟩:∃u,us=[u]:=by
   match us,hl with
   |[u],_=>exact⟨u,rfl⟩
   |[],hl=>simp at hl
   |_::_::_,hl=>simp at hl
  ·intro M A E Q q;unfold bindArgs;dsimp only;rw[h1,h2,h3,h4,h5,hd];refine wpAny_bind (wpAny_pure ?_);dsimp only;refine wpAny_bind (wpAny_seqItems (hK dt ot hk) ho ?_);simp[qCo,hab',hba,qIh,List.zip,qIt,qIc];exact wpAny_pure q
section
variable{P:qIy}{w:World}{K:qA1}{mg:Str->Option Value}{base:Heap}{x:Str}{k:Nat}{a b:Str}{N:List Str}{sp:Sp}{st:Stmt}
theorem DefD.okX(D:DefD K mg x st)(S:FnScope N [a,b] (zAB st))(h1:(zAW st).posonlyargs=[])(h2:(zAW st).args.map (·.arg)=[a,b])(h3:(zAW st).kwonlyargs=[])(h4:(zAW st).vararg=none)(h5:(zAW st).kwarg=none)(hab:a≠b)
  (len:∀vs H Q E,sp vs H Q E->vs.length=[a,b].length)
  (hbody:∀(f:Addr)(cdv:Value)(A:qJ2)(outer:List Env)(s:qIv)(H:Hp)(vs:List V)(Q:VK)(E:XK),Room k (A.deeper (envOfC x (zAB st) s.heap.objs.size f cdv))->sp vs H Q E ->
   ∃t,PSs (cxOf (CXe P w) P w K mg base N x (zAB st) f cdv A outer s H E) (zAT st) t/\t { nx:=fun _ H'=>Q .non H',rt:=Q } (start N vs) H):HasD P w K mg base x (k+1) [a,b] sp:=by
 obtain⟨f,fd,F,m⟩:=D;obtain⟨oc,od,dt,kV,doc,pm,an,cdv,ct,osl,ot,n,rfl,lk,hcd,hk,ho⟩:=F.ex;obtain⟨b1,b2⟩:=zQW (K:=K) (fd:=qB7 x x (zAW st) (zAT st) (zAB st) (.ref dt) kV doc pm an cdv ct) rfl hk ho h1 h2 h3 h4 h5 hab;exact⟨f,_,zWI lk hcd S len fun A outer s H vs Q E hr hsp=>hbody f cdv A outer s H vs Q E hr hsp,m,F.kp,b1,b2⟩
end
section
variable{X:Cx}{x:Str}{j k:Nat}{ps:List Str}{sp:Sp}{e:Expr}{es:List Expr}{t:TA}{p pos:Pos}{E:XK}
theorem HasD.full{P:qIy}{w:World}{K:qA1}{mg:Str->Option Value}{base:Heap}(h:HasD P w K mg base x j ps sp):HasX P w K mg base x j ps sp:=let⟨f,fd,G,m,kp,b,_⟩:=h;⟨f,fd,G,m,kp,b⟩
theorem zM7(h:HasD X.prog X.w X.K X.mg X.base x j ps sp)(hjk:j<=k)(hr:Room k X.A)(hf:Flies X E)(hg:Gl X x)(ha:PA X (e::es) t)(hdb:(x==("__debug__":Str))=false:=by decide)
  (he:starEach (e::es) X.env=(false,eval e X.env)::starEach es X.env:=by rfl) (hpl:(backTo pos (starEach es X.env)).any (·.1)=false:=by rfl):PE X (.Call (.Name x p) (e::es) [] pos) (zEB sp [.non] E t):=by
 obtain⟨f,fd,G,m,kp,_,b⟩:=h;exact zKQ G (hr.mono hjk) hg m kp b (.cons rfl .nil) hf.passes ha hdb he hpl
end
theorem mkDD{K:qA1}{h:Heap}{mg:Str->Option Value}{nm:Str}{st:Stmt}{f dt:Addr}{oc kV dc pm cd ct:Value}{od an:Option Addr}{sl:Array (Option Value)}{ot:Obj}{n:Nat}(X:K.In h)(G:h.Ns qJ1 mg)(a:qBg K qJ1 nm=some (some (.ref f)))
  (l:K.lookup f=some ⟨oc,od,.func (qB7 nm nm (zAW st) (zAT st) (zAB st) (.ref dt) kV dc pm an cd ct),sl⟩) (c:qCc K cd nm=true) (k:qB5 K (.ref f)=true) (l2:K.lookup dt=some ot) (e:ot.data=.seq #[.none] n):DefD K mg nm st:=
 ⟨f,_,⟨⟨oc,od,dt,kV,dc,pm,an,cd,ct,sl,ot,n,rfl,l,c,l2,e⟩,k⟩,qC9 X G a⟩
end L2
namespace L3
open PySem PySem.Spec
open L2 hiding Rep RepL
open Mi (Dt Xn R okR zA2 optR zA0 zA4 zA9 zA7 zA8 Rh Sl Ro EM TM AM FM IM SM OM Tg Out zAO zAN zAQ full frz frz1 frzAt)
section
variable[Kc]{mg:Str->Option Value}{E:XK}{L n k:Nat}{te:TE}{e:EM}{t:TS}{m:SM}
end
section
variable[Kc]{mg:Str->Option Value}{E:XK}{L n k l:Nat}{te ta tb:TE}{e ma mb:EM}{t:TA}{m:AM}
end
section
variable[Kc]{mg:Str->Option Value}{E:XK}{L n k l:Nat}{te ta tb:TE}{e ma mb:EM}{t:TS}{m:SM}
end
section
variable{P:qIy}{w:World}{K:qA1}{mg:Str->Option Value}{base:Heap}{x:Str}{st:Stmt}{N ps:List Str}{k:Nat}
open PyProof.Rows
end
end L3
namespace L3
open PySem PySem.Spec PyProof.Rows
open L2 hiding Rep RepL
open Mi (Dt Xn R okR zA2 optR zA0 zA4 zA9 zA7 zA8 Rh Sl Ro EM TM AM FM IM SM OM Tg Out zAO zAN zAQ full frz frz1 frzAt FW)
section
variable[Kc]{mg:Str->Option Value}{E:XK}{L n k l:Nat}{te ta tb:TE}{e ea eb ma:EM}{t:TA}{m:AM}
end
end L3
namespace L3
open PySem PySem.Spec PyProof.Rows
open L2 hiding Rep RepL
open Mi (Dt Xn R okR zA2 optR zA0 zA4 zA9 zA7 zA8 Rh Sl Ro EM TM AM FM IM SM OM Tg Out zAO zAN zAQ full frz frz1 frzAt FW SMM OutM)
section
variable[Kc]{mg:Str->Option Value}{E:XK}{L n k l:Nat}{te ta tb t1 t2:TE}{e ea eb e1 e2:EM}
end
end L3
namespace L3
open PySem PySem.Spec PyProof.Rows
open L2 hiding Rep RepL
open Mi (Dt Xn R okR zA2 optR zA0 zA4 zA9 zA7 zA8 Rh Sl Ro EM TM AM FM IM SM OM Tg Out zAO zAN zAQ full frz frz1 frzAt)
section
variable[Kc]{mg:Str->Option Value}{E:XK}{L n k l:Nat}{te ta tb:TE}{e ea eb ma:EM}{t:TA}{m:AM}
end
end L3
namespace L3
open PySem PySem.Spec
open L2 hiding Rep RepL
open Mi (Dt Xn R okR zA2 optR zA0 zA4 zA9 zA7 zA8 Rh Sl Ro EM TM AM FM IM SM OM Tg Out zAO zAN zAQ full frz frz1 frzAt FW)
section
variable[Kc]{mg:Str->Option Value}{E:XK}{n:Nat}{t:TA}{m:AM}
theorem zGV{G:Hp}:∀{ds:List Dt}{vs:List V}{d:Dt}{v:V},RepL G ds vs->Rep G d v->RepL G (ds++[d]) (vs++[v])
 |[],_,d,v,h,r=>by cases h;exact⟨v,[],rfl,r,rfl⟩
 |_::_,_,d,v,h,r=>by obtain⟨x,q,rfl,h1,h2⟩:=h;exact⟨x,_,rfl,h1,zGV h2 r⟩
theorem zTB{f:FM}(A:DA mg E t m 0):DE mg E (zEB (spM mg n f) [.non] E t) (Mi.eCallD f m) n:=by
 intro G H σ ρ Q s w p;refine A.step errE s w p fun ds vs G1 H1 S T _ fr o p1=>?_
 exact⟨G1,ds++[.non],w.tab.trans fr.ext.g,fr.ext.in',zGV (d:=.non) (v:=.non) o.repL rfl,PostE.from p1 fr.ext⟩
theorem zEQ{f:FM}(A:DA mg E t m 0):DE mg E (zEB (spE Kc.K mg n f) [.non] E t) (Mi.eCallD f m) n:=zTB A
end
def spW0(K:qA1)(mg:Str->Option Value)(i0 k L:Nat)(f:FW):Sp:=fun vs H Q _=>@spW ⟨K⟩ mg i0 k L f vs H Q E0
end L3
namespace L2
open PySem PySem.Spec PyProof.Rows
section
variable{prog:qIy}{w:World}{A:qJ2}{E:Value->qIv->Prop}{s:qIv}
theorem zLA{r:Addr}{a b:Int}{t u v:Tok}{n:Nat}(hh:A.handled=none)(hr:IsRange s.heap r a b 1 t u v)(hsm:qNd a b 1=true)(hn:qJr a b 1=n)(hl:n<=2 ^ 24){Q:List Value->qIv->Prop}
  (hQ:∀(h':Heap)(tk:Nat)(acc:Array Value),qN6 (fun i v=>∃t,v=.int (a+i*1) t) acc n->s.heap.objs.size<h'.objs.size->(∀b o,s.heap.get? b=some o->h'.get? b=some o)->Q acc.toList { s with heap:=h',toks:=tk }) :
  wpAny (model prog w) A (collect (.ref r)) Q E s:=by
 unfold collect;refine wpAny_bind (wpAny_runValue (codeAny_builtin PySem.F.entry_proto_collect ?_));rw[qJq PySem.F.plain_proto_collect _];show wpAny _ A.in1 (newList [] >>= fun l=>again (.builtin "list.__iadd__" ⟨[l,.ref r],[]⟩)) _ _ s;refine wpAny_bind (wpAny_newObj_type ?_);refine wpAny_pure ⟨qKo qEn _,codeAny_builtin PySem.F.entry_list_iadd ?_⟩;rw[qJq qEn _];show wpAny _ A.in1 (qJf (.ref s.heap.objs.size) (.ref r) (.ref s.heap.objs.size)) _ _ _;have hL1:(s.heap.push { cls:=.type "list",data:=.seq ([]:List Value).toArray }).get? s.heap.objs.size=some { cls:=.type "list",data:=.seq ([]:List Value).toArray }:=qIw _ rfl;refine wpAny_extend_range (R:=fun(x:qLr) s'=>match x with | .ok (.ret v)=>wpAny (model prog w) A (match v with|qJ0 a=>do { let o <- load a;match o.data with | .seq xs _=>pure xs.toList|_=>unsupported "internal:collect" }|_=>unsupported "internal:collect") Q E s' | .ok _=>False | .error e=>E e s') (s:={ s with heap:=s.heap.push { cls:=.type "list",data:=.seq ([]:List Value).toArray } }) hh (qIu _ hr) hsm hn hl s.heap.objs.size (.ref s.heap.objs.size) 0 hL1 (fun h' tk acc c' hk hS' hacc=>?_);show wpAny _ A (load s.heap.objs.size >>= _) _ _ _;refine wpAny_bind (wpAny_load hS' ?_);refine wpAny_pure (hQ h' tk acc hacc (qIx hS') fun b o e=>hk b o (qAq (qIx e)) (qIu _ e))
theorem zOI{a kS:Addr}{vs:List Value}{kz:List Int}{keys:Array Value}{e e1:Nat}{st:SortSt}{P:qId->qIv->Prop}(nk:s.heap.get? kS=some (seqObj "list" keys e))(na:s.heap.get? a=some (seqObj "list" #[] e1))(hka:kS≠a)
  (hk:qKg keys.toList kz) (hlen:kz.length=vs.length) (h64:vs.length<64) (hp:(arrOf st).Perm (keys.zip vs.toArray)) (hs:SortedTo (arrOf st) (arrOf st).size) (hfl:failedOf st=none)
  (h:∀h' out c,h'.get? a=some (seqObj "list" out c)->(∀b o,b≠a->b≠kS->s.heap.get? b=some o->h'.get? b=some o)->KskOut false kz vs out.toList->P (.done (.ret .none)) { s with heap:=h' }) :
  wpAny (model prog w) A (ksk_tail a false e1 (.ref kS) st) P E s:=by
 have hsz:keys.size=vs.length:=by
  have h1:=hk.length;rw[qC2]at h1;lia
 have hsz2:(arrOf st).size=vs.length:=by rw[hp.size_eq,qHh,hsz,qAh,qDi]
 have hout:((arrOf st).map (·.2)).size=vs.length:=by rw[Array.size_map];exact hsz2
 have na1:(s.heap.update kS (qJh fun _=>(#[]:Array Value))).get? a=some (seqObj "list" #[] e1):=((qJb s.heap kS _).2 a hka.symm).trans na;unfold ksk_tail
 try dsimp only
 refine wpAny_bind (listUpdate_at nk rfl ?_ (by rw[hsz,qJa];lia) (qAu _));refine wpAny_bind (wpAny_letGo ?_);refine wpAny_bind (seqEpoch_at na1 rfl ?_);refine wpAny_bind (listUpdate_at na1 rfl ?_ (qAu _) (qAs (qDk hout) (by rw[qJa];lia)));rw[hfl];simp only[bne_self_eq_false,qC8,if_false];refine wpAny_pure (h _ ((arrOf st).map (·.2)) _ (get?_update_seq na1 fun _=>(arrOf st).map (·.2)) (fun b o h1 h2 q=>?_) ?_)
 ·exact((qJb _ a _).2 b h1).trans (((qJb s.heap kS _).2 b h2).trans q)
 ·exact ksk_out (b:=false) hk hp hs
theorem zXH{a kS:Addr}{vs:List Value}{kz:List Int}{keys:Array Value}{e e1:Nat}{P:qId->qIv->Prop}(nk:s.heap.get? kS=some (seqObj "list" keys e))(na:s.heap.get? a=some (seqObj "list" #[] e1))(hka:kS≠a)
  (hk:qKg keys.toList kz) (hlen:kz.length=vs.length) (h64:vs.length<64)
  (h:∀h' out c,h'.get? a=some (seqObj "list" out c)->(∀b o,b≠a->b≠kS->s.heap.get? b=some o->h'.get? b=some o)->KskOut false kz vs out.toList->P (.done (.ret .none)) { s with heap:=h' }) :
  wpAny (model prog w) A (ksk_end a false vs.toArray e1 (.ref kS) keys) P E s:=by
 have hsz:keys.size=vs.length:=by
  have h1:=hk.length;rw[qC2]at h1;lia
 have hzs:(keys.zip vs.toArray).size=vs.length:=by rw[qHh,hsz,qAh,qDi]
 unfold ksk_end;simp only[qC8,if_false];by_cases h2:vs.toArray.size<2
 ·rw[if_pos h2,if_pos h2];refine wpAny_bind (wpAny_pure ?_);rw[StateT.run_pure];refine wpAny_bind (wpAny_pure ?_)
  try dsimp only
  refine zOI (st:=qNg general' (keys.zip vs.toArray) #[] 7 none) nk na hka hk hlen h64 (qGv _) ?_ rfl h;intro i j hij hj;have hj2:j<(keys.zip vs.toArray).size:=hj;rw[hzs]at hj2;rw[qAh]at h2;have:i=j:=by lia
  subst this;exact qIi _
 ·rw[if_neg h2,if_neg h2];rw[qAh]at h2;rw[ksk_kind hk (by rw[hsz];lia)];refine wpAny_bind (wpAny_pure ?_);refine wpAny_bind (wpAny_mono (wpS_sortRuns (a₀:=keys.zip vs.toArray) (st:=qNg oneType' (keys.zip vs.toArray) #[] 7 none)
   (Q:=fun _ st'=>(arrOf st').Perm (keys.zip vs.toArray)/\failedOf st'=none/\SortedTo (arrOf st') (keys.zip vs.toArray).size)
   (ksk_intKeys hk) ⟨qGv _,rfl,rfl,rfl⟩ (by rw[hzs];lia) (by rw[hzs];exact h64) fun st' a1 a2 a3=>⟨a1,a2,a3⟩) ?_ fun _ _ e=>e)
  rintro⟨⟨⟩,st'⟩ s' ⟨rfl,hp,hf,hs⟩
  try dsimp only
  exact zOI nk na hka hk hlen h64 hp (by rw[hp.size_eq];exact hs) hf h
end
noncomputable def Cx.inK(X:Cx):Cx:={ X with A:=X.A.in1.in1,xe:=fun _ _=>False }
section
variable{X:Cx}{pins:List (Addr×Obj)}{σ:St}{H:Hp}{s:qIv}
theorem Inv.inK(I:Inv X pins σ H s):Inv X.inK pins σ H s:=⟨⟨I.ok.mod,I.ok.kind,I.ok.glob,I.ok.blt,I.ok.above,I.ok.inj,I.ok.has,I.ok.cab,I.ok.hd,I.ok.frames,I.ok.stk,I.ok.exf,I.ok.bs,I.ok.bsz,I.ok.noex,I.ok.exfs,I.ok.funs,I.ok.frf⟩,I.os,I.bare,I.base,I.loc,I.cell,I.free,I.freeC,I.pin,I.hok,I.len⟩
theorem Inv.outK(ok:X.Ok)(I:Inv X.inK pins σ H s):Inv X pins σ H s:=⟨ok,I.os,I.bare,I.base,I.loc,I.cell,I.free,I.freeC,I.pin,I.hok,I.len⟩
def zbU(X:Cx)(σ:St)(H:Hp)(f:Value)(vs:List Value)(kz:List Int):Prop:=∀(i:Nat)(u:Value)(k:Int),vs[i]?=some u->kz[i]?=some k->∀(pins':List (Addr×Obj))(s':qIv)(H':Hp),Inv X.inK pins' σ H' s'->Same H H' ->
 wpAny (model X.prog X.w) X.A.in1.in1 (call f [u]) (EP X.inK pins' σ fun v H''=>v=.int k/\Same H' H'') (fun _ _=>False) s'
structure Skp(X:Cx)(pins:List (Addr×Obj))(H:Hp)(s:qIv)(a:Addr):Prop where
 fr:H a=none
 loc:a≠X.env.locals
 fs:a∉X.fs
 pin:∀p∈X.pn++pins,p.1≠a
 new:X.s₀.heap.objs.size<=a
 cel:∀x c,X.env.cells.lookup x=some c->c≠a
theorem Inv.skp{a:Addr}(I:Inv X pins σ H s)(h:s.heap.objs.size<=a):Skp X pins H s a:=
 ⟨I.hok.fresh h,qBm (qAg I.lt h),I.nofs h,fun p hp=>qAq (qAg (qIx (I.pin p hp).1) h),qAs I.sz h,fun x c e=>by
  obtain⟨v,o,ho,_⟩:=I.cell x c e;exact qAq (qAg (qIx ho) h)⟩
theorem zV4{a kS:Addr}{f:Value}{vs:List Value}{kz:List Int}{e1:Nat}{P:qId->qIv->Prop}{E:Value->qIv->Prop}(I:Inv X pins σ H s)(K:zbU X σ H f vs kz)(ha:Skp X pins H s a)(hk:Skp X pins H s kS)(hka:kS≠a)
  (na:s.heap.get? a=some (seqObj "list" #[] e1)) (nk:s.heap.get? kS=some (seqObj "list" #[] 0)) (hlen:kz.length=vs.length) (h64:vs.length<64)
  (h:∀s' H' out c,Inv X pins σ H' s'->Same H H'->H' a=none->s'.heap.get? a=some (seqObj "list" out c)->KskOut false kz vs out.toList->P (.done (.ret .none)) s') :
  wpAny (model X.prog X.w) X.A.in1.in1 (ksk_rest a f false vs.toArray e1 (.ref kS)) P E s:=by
 unfold ksk_rest;refine wpAny_bind (wpAny_rule ?_);rw[List.forIn_toArray];have pn2:∀{s':qIv}{H':Hp}{kA:Array Value}{e:Nat},Inv X pins σ H' s'->Same H H'->H' a=none->H' kS=none->s'.heap.get? a=some (seqObj "list" #[] e1)->s'.heap.get? kS=some (seqObj "list" kA e)->Inv X (pins++[(kS,seqObj "list" kA e),(a,seqObj "list" #[] e1)]) σ H' s':=fun{s' H' kA e} J sm f1 f2 g1 g2=>J.pins_of fun p hp=>by
  rcases qAz.mp hp with hp|hp
  ·exact J.pin p (qAp _ hp)
  ·rcases qAf.mp hp with rfl|hp
   ·exact⟨g2,f2,hk.loc,hk.fs,fun v z=>by cases z⟩
   ·rw[qAt.mp hp];exact⟨g1,f1,ha.loc,ha.fs,fun v z=>by cases z⟩
 refine wpAny_bind (ksk_fold (fun i s'=>∃H' kA e,Inv X pins σ H' s'/\Same H H'/\H' a=none/\H' kS=none/\s'.heap.get? a=some (seqObj "list" #[] e1)/\s'.heap.get? kS=some (seqObj "list" kA e)/\qKg kA.toList (kz.take i)) vs 0 s
  ⟨H,#[],0,I,Same.refl _,ha.fr,hk.fr,na,nk,by simpa using IntsAre.nil⟩ ?step ?done)
 case step=>
  rintro j x s' hx ⟨H',kA,e,J,sm,f1,f2,g1,g2,hkA⟩
  simp only[qB8]at hkA ⊢;have hj:j<vs.length:=(qA3.mp hx).1;obtain⟨k,hkj⟩:∃k,kz[j]?=some k:=⟨_,qA5 (by lia)⟩
  have hz:kA.size<=vs.length:=by
   have h1:=hkA.length;rw[qC2,qCz]at h1;lia
  refine wpAny_bind (wpAny_attempt (wpAny_mono (K j x k hx hkj _ s' H' (pn2 J sm f1 f2 g1 g2).inK sm) (fun v s'' he=>?_) fun _ _ hF=>hF.elim));obtain⟨w,H2,J2,rw',rfl,sm2⟩:=he;obtain⟨t2,rfl⟩:=(show ∃t,v=.int k t from rw')
  have J3:=J2.outK I.ok;obtain⟨pk,fk,_⟩:=J3.pin (kS,seqObj "list" kA e) (qAp _ (qAp _ (.head _)));obtain⟨pa,fa,_⟩:=J3.pin (a,seqObj "list" #[] e1) (qAp _ (qAp _ (.tail _ (.head _))));have J4:Inv X pins σ H2 s'':=J3.unpinned;have ek:kz.take (j+1)=kz.take j++[k]:=by rw[qG4,hkj];simp
  have ea:(kA.push (qJw k t2)).toList=kA.toList++[qJw k t2]:=by simp
  have sb:=qJb s''.heap kS (qJh (·.push (qJw k t2)));refine wpAny_bind (listUpdate_at pk rfl ?_ (by rw[qJa];lia) (qAs (qDk (qGt ..)) (by rw[qJa];lia)));refine wpAny_pure ⟨rfl,H2,kA.push (.int k t2),_,J4.turned (t':=s''.toks) (it:=kS) (fun b o hb q=>(sb.2 b hb).trans q) fk hk.loc (.inr hk.new) hk.cel hk.pin,sm.trans sm2,fa,fk,(sb.2 a hka.symm).trans pa,get?_update_seq pk (·.push (.int k t2)),by rw[ea,ek];exact ksk_snoc hkA⟩
 case done=>
  rintro s' ⟨H',kA,e,J,sm,f1,f2,g1,g2,hkA⟩
  have hk':qKg kA.toList kz:=by
   have e3:kz.take (0+vs.length)=kz:=qC5 (by lia);rw[e3]at hkA;exact hkA
  try dsimp only
  refine wpAny_bind (listItems_at g2 rfl ?_);refine zXH g2 g1 hka hk' hlen h64 fun h' out c q1 q2 q3=>?_
  have J5:Inv X pins σ H' { s' with heap:=h' }:=by
   refine J.turnedL (t':=s'.toks) (fp:=[a,kS]) (fun b hb=>?_) fun b u hb q=>?_
   ·rcases qAf.mp hb with rfl|hb
    ·exact⟨f1,ha.loc,ha.fs,.inr ha.new,ha.cel,ha.pin⟩
    ·rw[qAt.mp hb];exact⟨f2,hk.loc,hk.fs,.inr hk.new,hk.cel,hk.pin⟩
   ·exact q2 b u (fun z=>hb (by rw[z];simp)) (fun z=>hb (by rw[z];simp)) q
  exact h _ H' out c J5 sm f1 q1 q3
end
section
variable{X:Cx}{pins:List (Addr×Obj)}{σ:St}{H:Hp}{s:qIv}{Q:VK}{us:List Value}{vs:List V}{f cl:Addr}{q nm:Str}{params:Arguments}{body:Expr}{scope:Scope}{pm cdv ctv:Value}{co:Obj}{val:Value}{v:V}{ps:List Str}
theorem zRO{k:Nat}(hr:Room k X.A)(I:Inv X pins σ H s)(hf:H f=some (.fn (lamO q params body scope [(nm,cl)] pm cdv ctv) q))(gcl:s.heap.get? cl=some co)(hcn:H cl=none)(hco:co.data=.cell (some val))(rv:RelV v val)(r:Vals vs us)
  (S:LamScope ps nm scope) (hbind:∀us:List Value,us.length=ps.length->bindArgs (qCw "<lambda>" q params body scope [(nm,cl)] pm cdv ctv) ⟨us,[]⟩=pure (ps.zip us)) (hl:vs.length=ps.length)
  (hbody:∃t,PE (zTD X (ps++[nm]) q scope f cdv [(nm,cl)] s H) body t/\t (vs.map some++[some v]) H Q) :
  wpAny (model X.prog X.w) X.A (call (.ref f) us) (EP X pins σ Q) X.xe s:=by
 obtain⟨ef,fd,c,oc,u,e1,e2,e3,e4⟩:=I.hok f _ hf;have e1':fd=qCw "<lambda>" q params body scope [(nm,cl)] pm cdv ctv:=by
  have e1:Data.func (qCw "<lambda>" q params body scope [(nm,cl)] pm cdv ctv)=Data.func fd:=e1;injection e1 with e1
  exact e1.symm
 subst e1';have hrec:s.heap.CodeRec cdv q:=let⟨ws,t,h1,h2⟩:=e4;⟨c,oc,ws,t,e2,(I.hok c _ e3).1,h1,h2⟩;have hul:us.length=ps.length:=by rw[<- r.length];exact hl
 obtain⟨t,ht,hq⟩:=hbody;refine wpAny_call (codeAny_mono (R:=fun r s'=>match r with | .ok (.ret u)=>EP X pins σ Q u s' | .ok _=>False | .error _=>False) (PySem.W.kla_callFunE (by have:=hr.dp;lia) ef rfl S.co S.gen rfl hrec ?_) fun r s' hq=>?_)
 ·show wpAny _ _ (bindArgs (qCw "<lambda>" q params body scope [(nm,cl)] pm cdv ctv) ⟨us,[]⟩) _ _ s;rw[hbind us hul];have hloc:∀y∈ps.zip us,scope.names.lookup y.1=some .local:=fun y hy=>S.par _ (qC4 (a:=y.1) (b:=y.2) hy).1
  refine wpAny_pure (wpAny_newFunctionEnv S.nocell hloc (fun h₁ hns hsb=>⟨(I.nolimit).fresh _ hsb,?_⟩) S.kind);show qKf _ _ (.expr body (qE5 q scope s.heap.objs.size f cdv [(nm,cl)])) _ _;have hk₁:∀b o,s.heap.get? b=some o->h₁.get? b=some o:=fun b o e=>hsb.extBut b o (qAq (qIx e)) (qIu _ e)
  have cells:∀{y:Str}{c:Addr},([(nm,cl)]:List (Str×Addr)).lookup y=some c->y=nm/\c=cl:=fun{y c} e=>by
   simp only[qCo]at e;split at e
   ·rename_i z;cases e;exact⟨by simpa using z,rfl⟩
   ·cases e
  have noA:∀b:Addr,b∉(zTD X (ps++[nm]) q scope f cdv [(nm,cl)] s H).ex:=fun b z=>absurd (show b∈([]:List Addr) from z) (by simp)
  have J:Inv (zTD X (ps++[nm]) q scope f cdv [(nm,cl)] s H) [] (vs.map some++[some v]) H { s with heap:=h₁,toks:=s.toks+(ps.zip us).length }:=by
   refine⟨⟨I.ok.mod,S.kind,rfl,rfl,qA6 _,fun y z c h1 h2=>?_,fun y hy=>?_,fun y c z _=>(by cases z),fun _=>hr.hd,qLp I.ok.frames,.inr ⟨rfl,rfl⟩,fun b z=>absurd z (noA b),fun b o z=>⟨(I.bs b o z).1,(I.bs b o z).2⟩,qAs I.ok.bsz I.sz,fun b _ _=>noA b,fun b z=>absurd z (noA b),I.stack,fun b z=>I.stkFree b z⟩,
    rfl,I.bare,Un.kept hk₁,⟨_,hns,fun i y w' h1 h2 h3=>?_⟩,fun y c h=>?_,I.hok.fresh (qA6 _),fun y c h=>?_,fun p hp=>absurd (show p∈([]:List (Addr×Obj)) from hp) (by simp),I.hok.kept hk₁,?_⟩
   ·rw[(cells h1).1,(cells h2).1]
   ·have hy:scope.names.lookup y=some .cell\/scope.names.lookup y=some .free:=hy
    rcases hy with hy|hy
    ·exact absurd rfl (S.nocell _ (qBq hy))
    ·rw[S.only y hy];exact⟨cl,by show([(nm,cl)]:List (Str×Addr)).lookup nm=_;simp⟩
   ·have h1:(ps++[nm])[i]?=some y:=h1
    by_cases hi:i<ps.length
    ·rw[qA9 hi]at h1;rw[qA9 (by simpa[hl]using hi),qA8]at h2;cases ew:vs[i]? with
     |none=>rw[ew]at h2;cases h2
     |some a=>
      rw[ew]at h2;cases h2;obtain⟨u',hu',ru'⟩:=r.get ew;exact⟨u',ru',.inl ⟨S.par y (qAw h1),zO1 (qC1.mp S.nd).1 h1 hu'⟩⟩
    ·rw[qAd (by lia)]at h1;rw[qAd (by simpa[hl]using hi)]at h2;have hi2:i-ps.length=0:=by
      cases z:i-ps.length with
      |zero=>rfl
      |succ n=>rw[z]at h1;simp at h1
     rw[hi2]at h1;rw[qAi,hl,hi2]at h2;cases h1;cases h2;exact⟨val,rv,.inr ⟨.inr S.held,cl,by show([(nm,cl)]:List (Str×Addr)).lookup nm=_;simp,co,hk₁ _ _ gcl,hco⟩⟩
   ·obtain⟨_,rfl⟩:=cells h;exact⟨some val,co,hk₁ _ _ gcl,hco⟩
   ·obtain⟨_,rfl⟩:=cells h;exact hcn
   ·show(vs.map some++[some v]).length=(ps++[nm]).length
    simp[hl]
  refine PySem.W.kla_codeExpr (wpAny_mono (ht [] _ _ _ _ J hq) (fun u s' z=>?_) fun _ _ z=>z.elim);obtain⟨w2,H2,J2,ru,q2⟩:=z;exact I.after ⟨w2,H2,J2.os,J2.bare,J2.base,J2.hok,ru,q2⟩
 ·cases r with
  |error e=>exact hq.elim
  |ok fl=>
   cases fl with
   |ret u=>exact hq
   |next=>exact qAa hq
   |brk=>exact qAa hq
   |cont=>exact qAa hq
end
theorem Inv.track{X:Cx}{pins:List (Addr×Obj)}{σ:St}{H:Hp}{s:qIv}{a:Addr}{o:HO}(I:Inv X pins σ H s)(hn:H a=none)(hl:a≠X.env.locals)(h0:X.s₀.heap.objs.size<=a)(hc:∀x c,X.env.cells.lookup x=some c->c≠a)(hp:∀p∈X.pn++pins,p.1≠a)(new:ObjOk X.prog X.w (upd H a o) s.heap a o):Inv X pins σ (upd H a o) s:=by
 have nz:∀{b:Addr}{u:HO},H b=some u->b≠a:=fun e=>zAH e hn
 refine⟨I.ok,I.os,I.bare,⟨I.base.keep,I.base.slot,fun b o q n hx=>?_,I.base.there,fun b xs q=>?_,fun b o v q=>?_,fun b ps q=>?_⟩,I.loc,I.cell,?_,fun x c e=>?_,fun p q=>?_,fun b u e=>?_,I.len⟩
 ·rw[zAE (qAq (qAg (qIx q) h0))];exact I.base.free b o q n hx
 ·have:=I.base.tups b xs q;rw[zAE (nz this)];exact this
 ·have:=I.base.frzs b o v q;rw[zAE (nz this)];exact this
 ·obtain⟨z,e⟩:=I.base.tbls b ps q;exact⟨z,by rw[zAE (nz e)];exact e⟩
 ·rw[zAE hl.symm];exact I.free
 ·rw[zAE (hc x c e)];exact I.freeC x c e
 ·rw[zAE (hp p q)];exact I.pin p q
 ·by_cases hb:b=a
  ·subst hb;rw[zAG]at e;cases e;exact new
  ·rw[zAE hb]at e;exact(I.hok b u e).stay (fun _ _ _ q=>q) (fun c q=>by rw[zAE (nz q)];exact q) (fun c xs q=>by rw[zAE (nz q)];exact q) fun c _ _ q _=>by rw[zAE (nz q)];exact q
def zX0(X:Cx)(i:Nat)(R:Addr->List V->V->Hp->VK->Prop):Prop:=∀(pins:List (Addr×Obj))(s:qIv)(σ:St)(H:Hp)(f:Addr)(vs:List V)(us:List Value)(v:V)(Q:VK),Inv X pins σ H s->Vals vs us->σ[i]?=some (some v)->R f vs v H Q ->
 wpAny (model X.prog X.w) X.A (call (.ref f) us) (EP X pins σ Q) X.xe s
def zaC(n:Nat)(kz out:List Int):Prop:=∃ps:List (Int×Int),ps.Perm (kz.zip ((qA7 n).map fun i:Nat=>(i:Int)))/\out=ps.map qF8/\ps.Pairwise fun p q=>p.1<=q.1
def zOA(tr:TA)(tl:TE)(i:Nat)(R:Addr->List V->V->Hp->VK->Prop):TE:=fun σ H Q=>tr σ H fun vs H1=>∃r n,vs=[.ref r]/\H1 r=some (.rng 0 ((n:Nat):Int))/\n<64/\tl σ H1 fun fv H2=>∃f v kz,fv=.ref f/\H2 r=some (.rng 0 ((n:Nat):Int)) /\
 σ[i]?=some (some v)/\kz.length=n/\(∀(j:Nat)(k:Int),kz[j]?=some k->∀H',Same H2 H'->R f [.int (j:Int)] v H' fun v H''=>v=.int k/\Same H' H'')/\∀H3 l out,Same H2 H3->H3 l=none->zaC n kz out->Q (.ref l) (upd H3 l (.lst (out.map V.int)))
theorem zR5:∀{us:List Value}{zs kz:List Int}{ps:List (Int×Value)},qKg us zs->ps.Perm (kz.zip us)->(ps.map fun p:Int×Value=>(p.1,numOf p.2)).Perm (kz.zip zs)/\qKg (ps.map qF8) ((ps.map fun p:Int×Value=>(p.1,numOf p.2)).map qF8):=fun{us zs kz ps} hi hp=>by
 have h1:(kz.zip us).map (fun p:Int×Value=>(p.1,numOf p.2))=kz.zip zs:=by
  rw[<- hi.nums,List.zip_map_right];exact qAo fun⟨x,y⟩ _=>rfl
 refine⟨h1▸hp.map _,?_⟩;have hall:∀p∈ps,∃n t,p.2=qJw n t:=fun p hm=>hi.all _ (qC4 (a:=p.1) (b:=p.2) (hp.mem_iff.mp hm)).2
 clear hp h1 hi
 induction ps with
 |nil=>exact .nil
 |cons p r ih=>
  obtain⟨n,t,e⟩:=hall p (qAj ..);have:=ih fun x hx=>hall x (qAc _ hx)
  simp only[qAk];rw[e];exact .cons n t this
section
variable{X:Cx}{x:Str}{p pos kp:Pos}{re le:Expr}{tr:TA}{tl:TE}{i:Nat}{R:Addr->List V->V->Hp->VK->Prop}
theorem zS3(hc:X.calm=true)(hL:zX0 X.inK i R)(hg:Gl X "sorted")(hm:X.mg "sorted" = none)(hv:qJx "sorted" = some (.builtin "sorted"))(ha:PA X [re] tr)(hl:PE X le tl)
  (he:backTo pos (starEach [re] X.env)=(false,eval re X.env)::backTo pos (starEach [] X.env):=by rfl) (hpl:(backTo pos (starEach [re] X.env)).any (·.1)=false:=by rfl) :
  PE X (.Call (.Name "sorted" p) [re] [⟨some "key",le,kp⟩] pos) (zOA tr tl i R):=by
 intro pins s σ H Q I h;refine qJv (zG5 I hg hm hv ?_);refine callWith_kw (thn (ha pos pins s σ H _ I h) fun us s1 ⟨vs,H1,I1,r1,r,n,ev,hr1,h64,q1⟩=>kws_cons (thn (hl pins s1 σ H1 _ I1 q1) fun u s2 ⟨fv,H2,I2,r2,f,v,kz,ef,hr2,hσ,hlen,hR,hQ⟩=>kws_nil ?_)) he hpl rfl rfl;subst ev;obtain⟨u1,rfl,rx⟩:=zEU r1;cases rx;subst ef;cases r2;show wpAny _ _ (call (.builtin "sorted") [.ref r] [(qJj "key",.ref f)]) _ _ s2;refine call_function_entry_kw kind_sorted plain_sorted entry_sorted (ksk_s1 _ _) ?_;unfold qKm.«sorted»;refine wpAny_bind (m:=checkCount "sorted" 1 1 _) (wpAny_pure ?_);obtain⟨t,u,w,er⟩:=(show ObjOk X.prog X.w H2 s2.heap r (.rng 0 (n:Int)) from I2.hok r _ hr2)
 have hn:qJr 0 (n:Int) 1=((n:Nat):Int):=by rw[qM5];split<;>lia
 refine wpAny_bind (zLA (A:=X.A.in1) (I2.ok.hd hc) er (small_one (by decide) (by decide) (by lia) (by lia)) hn (by lia) fun h' tk acc hit hgr hkeep=>?_);have hal:acc.toList.length=n:=by rw[qC2];exact hit.1
 have hI:qKg acc.toList ((qA7 n).map fun i:Nat=>(i:Int)):=by
  have:=zH2 (ns:=(qA7 n).map fun i:Nat=>(i:Int)) (us:=acc.toList) (by
   have:=zIQ (lo:=0) hal fun j v e=>hit.2 j v (by rw[<- qB9];exact e)
   unfold zFE at this;rw[qAn];simpa[qDb]using this)
  exact this
 have I3:Inv X pins σ H2 { s2 with heap:=h',toks:=tk }:=I2.kept hkeep;refine wpAny_bind (wpAny_newList ?_ (hsz:=by rw[hal,qJa];lia));have hoL:(h'.push (seqObj "list" acc.toList.toArray 0)).get? h'.objs.size=some (seqObj "list" acc.toList.toArray 0):=qIw _ rfl;have I4:Inv X pins σ H2 { s2 with heap:=h'.push (seqObj "list" acc.toList.toArray 0),toks:=tk }:=I3.kept (t':=tk) fun b o e=>qIu _ e
 have SA:Skp X pins H2 { s2 with heap:=h'.push (seqObj "list" acc.toList.toArray 0),toks:=tk } h'.objs.size:=let S0:=I3.skp (qA6 _);⟨S0.fr,S0.loc,S0.fs,S0.pin,S0.new,S0.cel⟩
 refine wpAny_bind (wpAny_holding (wpAny_call_entry_kw slot_list_sort ⟨_,hoL,rfl⟩ entry_list_sort ?body (ksk_l1 _ _)));show wpAny (model X.prog X.w) X.A.in1.in1 (qKm.«list.sort» ⟨[.ref h'.objs.size],[(qJj "key",.ref f)]⟩) _ _ _;rw[ksk_t1];unfold ksk_tree;refine wpAny_bind (listItems_at hoL rfl ?_);refine wpAny_bind (listUpdate_at hoL rfl ?_ (by rw[qAh,hal,qJa];lia) (qAu _));have sb:=qJb (h'.push (seqObj "list" acc.toList.toArray 0)) h'.objs.size (qJh fun _=>(#[]:Array Value));have ho1:=get?_update_seq hoL fun _=>(#[]:Array Value)
 have I5:=I4.turned (t':=tk) (it:=h'.objs.size) (fun b o hb q=>(sb.2 b hb).trans q) SA.fr SA.loc (.inr SA.new) SA.cel SA.pin;refine wpAny_bind (seqEpoch_at ho1 rfl ?_);refine wpAny_bind (wpAny_newTuple ?_ (by rw[List.toList_toArray,hal,qJa];lia));have I6:=I5.kept (t':=tk) (h':=((h'.push (seqObj "list" acc.toList.toArray 0)).update h'.objs.size (qJh fun _=>(#[]:Array Value))).push { cls:=.type "tuple",data:=.seq acc.toList.toArray.toList.toArray }) fun b o e=>qIu _ e
 refine wpAny_bind (wpAny_newList ?_ (qAu _));refine wpAny_holding ?_;have I7:=I6.kept (t':=tk) (h':=(((h'.push (seqObj "list" acc.toList.toArray 0)).update h'.objs.size (qJh fun _=>(#[]:Array Value))).push { cls:=.type "tuple",data:=.seq acc.toList.toArray.toList.toArray }).push { cls:=.type "list",data:=.seq ([]:List Value).toArray }) fun b o e=>qIu _ e
 have SK:=I6.skp (a:=(((h'.push (seqObj "list" acc.toList.toArray 0)).update h'.objs.size (qJh fun _=>(#[]:Array Value))).push { cls:=.type "tuple",data:=.seq acc.toList.toArray.toList.toArray }).objs.size) (qA6 _);have lt1:h'.objs.size<((h'.push (seqObj "list" acc.toList.toArray 0)).update h'.objs.size (qJh fun _=>(#[]:Array Value))).objs.size:=by rw[Heap.size_update,size_push'];lia
 refine zV4 (X:=X) (vs:=acc.toList) (kz:=kz) I7 (fun j u k hu hk pins' s' H' J sm=>?_) ⟨SA.fr,SA.loc,SA.fs,SA.pin,SA.new,SA.cel⟩ ⟨SK.fr,SK.loc,SK.fs,SK.pin,SK.new,SK.cel⟩ ?_ (qIu _ (qIu _ ho1)) (qIw _ rfl) (by rw[hlen,hal]) (by rw[hal];exact h64) fun s' H' out c J sm fa ga ko=>?_
 ·obtain⟨t,eu⟩:=hit.2 j u (by rw[<- qB9];exact hu);have eu':RelV (.int (j:Int)) u:=⟨t,by rw[eu];congr 1;lia⟩
  exact hL pins' s' σ H' f [.int (j:Int)] [u] v _ J (.cons eu' .nil) hσ (hR j k hk H' sm)
 ·rw[size_push'];exact qBm (qEh lt1)
 ·refine⟨_,rfl,wpAny_pure ⟨_,rfl,?_⟩⟩;obtain⟨ps,p1,p2,p3⟩:=ko;obtain⟨z1,z2⟩:=zR5 hI p1;have hol:out.toList.length=n:=by rw[p2,qAi,p1.length_eq,qGw,hlen,hal,qDi]
  have hz':((ps.map fun p:Int×Value=>(p.1,numOf p.2)).map qF8).length<=sizeLine:=by
   have:=congrArg qD9 p2;rw[qAi,hol]at this;rw[qAi,qAi,<- this,qJa];lia
  refine⟨.ref _,_,J.track (o:=.lst (((ps.map fun p:Int×Value=>(p.1,numOf p.2)).map qF8).map V.int)) fa SA.loc SA.new SA.cel SA.pin ⟨by rw[qAi];exact hz',out.toList,c,zH3 (p2▸z2),by simpa[seqObj]using ga⟩,rfl,hQ H' _ _ sm fa ⟨_,z1,rfl,?_⟩⟩;rw[qDc];simpa using p3
end
end L2
namespace L3
open PySem PySem.Spec PyProof.Rows
open L2 hiding Rep RepL
section
variable{P:qIy}{w:World}{K:qA1}{mg:Str->Option Value}{base:Heap}{x:Str}{st:Stmt}{N ps:List Str}{k:Nat}
theorem dfW{L n i0 j:Nat}{m:Mi.SMM}(D:Def K mg x st)(S:FnScope N ps (zAB st))
  (hb:∀(kV doc pm:Value)(an:Option Addr)(cdv ct:Value)(us:List Value),us.length=ps.length->bindArgs (qB7 x x (zAW st) (zAT st) (zAB st) .none kV doc pm an cdv ct) ⟨us,[]⟩=pure (ps.zip us))
  (hbody:∀{f:Addr}{cdv:Value}{A:qJ2}{outer:List Env}{s:qIv}{H:Hp}{vs:List V}{Q:VK}{E:XK},Room k (A.deeper (envOfC x (zAB st) s.heap.objs.size f cdv))->(A.deeper (envOfC x (zAB st) s.heap.objs.size f cdv)).units+64<cLine->spW0 K mg i0 j L (Mi.uniM (Mi.runM L ps.length n i0 j m)) vs H Q E ->
   ∃t,PSs (cxOf CX0 P w K mg base N x (zAB st) f cdv A outer s H E).nox (zAT st) t/\t { nx:=fun _ H'=>Q .non H',rt:=Q } (start N vs) H):Has P w K mg base x (k+1) ps (spW0 K mg i0 j L (Mi.uniM (Mi.runM L ps.length n i0 j m))):=
 D.ok S hb (fun _ _ _ _ h=>@zV2 ⟨K⟩ _ _ _ _ _ _ _ _ _ _ _ h) fun _ _ _ _ _ _ _ _ _ hr h=>hbody hr hr.units h
theorem dfD{a b:Str}{L n:Nat}{m:Mi.SM}(D:DefD K mg x st)(S:FnScope N [a,b] (zAB st))(h1:(zAW st).posonlyargs=[])(h2:(zAW st).args.map (·.arg)=[a,b])(h3:(zAW st).kwonlyargs=[])(h4:(zAW st).vararg=none)(h5:(zAW st).kwarg=none)(hab:a≠b)
  (hbody:∀{f:Addr}{cdv:Value}{A:qJ2}{outer:List Env}{s:qIv}{H:Hp}{vs:List V}{Q:VK}{E:XK},Room k (A.deeper (envOfC x (zAB st) s.heap.objs.size f cdv))->(A.deeper (envOfC x (zAB st) s.heap.objs.size f cdv)).units+64<cLine->spE K mg L (Mi.runF 2 n m) vs H Q E ->
   ∃t,PSs (cxOf (CXe P w) P w K mg base N x (zAB st) f cdv A outer s H E) (zAT st) t/\t { nx:=fun _ H'=>Q .non H',rt:=Q } (start N vs) H):HasD P w K mg base x (k+1) [a,b] (spE K mg L (Mi.runF 2 n m)):=
 D.okX S h1 h2 h3 h4 h5 hab (fun _ _ _ _ h=>@zHJ ⟨K⟩ _ _ _ _ _ _ _ _ _ h) fun _ _ _ _ _ _ _ _ _ hr h=>hbody hr hr.units h
end
end L3
namespace L3
open PySem PySem.Spec
open PyProof.Rows (risingS sortedS ltCps_eq)
open L2 hiding Rep RepL
open Mi (Dt Xn R okR zA2 optR zA0 zA4 zA9 zA7 zA8 Rh Sl Ro EM TM AM FM IM SM OM Tg Out zAO zAN zAQ full frz frz1 frzAt)
section
variable[Kc]{mg:Str->Option Value}{E:XK}{L n k l:Nat}{te ta tb:TE}{e ea eb ma:EM}{t:TA}{m:AM}
end
end L3
namespace Mi
open PySem
noncomputable def keysF(f:FM)(c:Dt):Nat->Nat->Option (List Int)
 |_,0=>some []
 |j,n+1=>match f [.int (j:Int),c]with
  |some (.ok (.int z))=>(keysF f c (j+1) n).map (z::·)
  |_=>none
def srtK(f:FM)(c:Dt)(n:Nat):R Dt:=match keysF f c 0 n with
 |some ks=>@ite _ ks.Nodup (qA2 _) (okR (.lst ((sortI ks).map fun z=>.int ((ks.idxOf z:Nat):Int)))) none
 |none=>none
def eSortK(m:AM)(f:FM)(i:Nat):EM:=fun ρ=>zA2 (m ρ) fun ds=>match ds with
 |[.int n]=>match ρ[i]? with
  |some (some c)=>@ite _ (0<=n/\n<64/\c.dep=0) (qA2 _) (srtK f c n.toNat) none
  |_=>none
 |_=>none
theorem keysF_len{f:FM}{c:Dt}:∀{n j:Nat}{ks:List Int},keysF f c j n=some ks->ks.length=n
 |0,_,_,h=>by cases h;rfl
 |n+1,j,ks,h=>by
  rw[keysF]at h;split at h
  ·cases e:keysF f c (j+1) n with
   |none=>rw[e]at h;cases h
   |some r=>rw[e]at h;cases h;rw[qAr,keysF_len e]
  ·cases h
theorem keysF_at{f:FM}{c:Dt}:∀{n j:Nat}{ks:List Int},keysF f c j n=some ks->∀(i:Nat)(k:Int),ks[i]?=some k->f [.int ((j+i:Nat):Int),c]=okR (.int k)
 |0,_,_,h,i,k,e=>by cases h;simp at e
 |n+1,j,ks,h,i,k,e=>by
  rw[keysF]at h;split at h
  ·rename_i z hz
   cases e1:keysF f c (j+1) n with
   |none=>rw[e1]at h;cases h
   |some r=>
    rw[e1]at h;cases h;cases i with
    |zero=>simp at e;subst e;rw[qF3];exact hz
    |succ i=>
     have:=keysF_at e1 i k (by simpa using e)
     rw[show j+1+i=j+(i+1) by omega]at this;exact this
  ·cases h
end Mi
namespace Mp
open Mi PySem
structure Twice(n:Nat)(row:List Nat):Prop where
 len:row.length=2*n
 cnt:∀v,row.count v=if v<n then 2 else 0
section
variable{n:Nat}{row:List Nat}(t:Twice n row)
include t
end
def fm(cs:List Nat)(s:Nat)(b:Bool):List Nat:=if b=true then(sh s cs).reverse else sh s cs
end Mp
namespace L3
open PySem PySem.Spec PyProof.Rows
open L2 hiding Rep RepL
open Mi (Dt Xn R okR zA2 optR zA0 zA4 zA9 zA7 zA8 Rh Sl Ro EM TM AM FM IM SM OM Tg Out zAO zAN zAQ full frz frz1 frzAt)
def zRW(K:qA1)(x:Str)(fm:FM)(cl:Addr):Addr->List V->V->Hp->VK->Prop:=fun f vs w H Q=>∃c G L pm cdv ctv ds r,lamK K x=some L /\
 H f=some (.fn (lamO (lamQ x) L.1 L.2.1 L.2.2.1 [(L.2.2.2,cl)] pm cdv ctv) (lamQ x))/\Same (tabK K) G/\Same G H/\@RepL ⟨K⟩ G (ds++[c]) (vs++[w]) /\
 fm (ds++[c])=okR r/\r.dep=0/\∀v H',@Rep ⟨K⟩ (fun _=>none) r v->Same H H'->Q v H'
theorem zbD{K:qA1}{mg:Str->Option Value}{k i:Nat}{x nm:Str}{fm:FM}{cl:Addr}{X:Cx}(hK:X.K=K)(hm:X.mg=mg)(hr:Room (k+1) X.A)(h:LamOk K mg k x fm)(hnm:∀L,lamK K x=some L->L.2.2.2=nm)
  (hN:X.N[i]?=some nm) (hv:X.env.scope.names.lookup nm=some .cell) (hc:X.env.cells.lookup nm=some cl):zX0 X i (zRW K x fm cl):=by
 letI:Kc:=⟨K⟩;intro pins s σ H f vs us w Q I r hσ ⟨c,G,L,pm,cdv,ctv,ds,d,h2,h3,h7,h8,h9,h10,h11,h12⟩;obtain⟨L',ps,e,g1,g2,g3,g4,g5⟩:=h.ex;rw[h2]at g1;cases g1;subst g4;have hLn:=hnm L h2;obtain⟨m,hn,hl⟩:=id I.loc;obtain⟨u,ru,look⟩:=hl i nm w hN hσ (.inr (.inl hv));have hcell:s.heap.IsCell cl (some u):=by
  rcases look with⟨z,_⟩|⟨_,c,hc2,z⟩
  ·have z':X.env.scope.names.lookup nm=some .local:=z;rw[hv]at z';cases z'
  ·rw[hc]at hc2;cases hc2;exact z
 obtain⟨co,hco,hd⟩:=hcell;obtain⟨t,ht,D⟩:=g5 X (lamQ x) f cdv cl s H hK hm (hr.deeper _);unfold Mi.lamF at h10;split at h10
 ·rename_i hlen
  have hl:vs.length=ps.length:=by
   have:=RepL.length h9;simp only[qB2,qAr,qF0]at this hlen;lia
  refine zRO hr I h3 hco (I.freeC nm cl hc) hd ru r g2 (fun us hu=>g3 _ _ _ _ _ us hu) hl ⟨t,ht,?_⟩;refine D G H _ ((ds++[c]).map some) _ h8 ⟨?_,fun i d' e1=>?_,h7⟩ ?_
  ·have:=RepL.length h9
   simp only[qB2,qAi,qAr,qF0]at this ⊢;lia
  ·rw[qA8]at e1;cases e2:(ds++[c])[i]? with
   |none=>rw[e2]at e1;cases e1
   |some d2=>
    rw[e2]at e1;cases e1;have hi:i<(vs++[w]).length:=by rw[RepL.length h9];exact(qA3.mp e2).1
    refine⟨(vs++[w])[i],?_,zBI h9 e2 (qA5 hi)⟩;rw[show vs.map some++[some w]=(vs++[w]).map some by simp,qA8,qA5 hi];rfl
  ·rw[h10];intro v G' H' S fr o;exact h12 v _ (Rep.scalar o h11) fr.ext.h
 ·cases h10
theorem zV3{n:Nat}{kz out:List Int}(hn:kz.Nodup)(hl:kz.length=n)(h:zaC n kz out):out=(Mi.sortI kz).map fun z=>((kz.idxOf z:Nat):Int):=by
 obtain⟨ps,h1,h2,h3⟩:=h;have e1:(ps.map qF7).Perm kz:=by
  have:=h1.map qF7;rw[List.map_fst_zip (by simp[hl])]at this;exact this
 have e2:ps.map qF7=Mi.sortI kz:=PySem.W.lks_uniq (e1.trans (qFk kz _).symm) (by rw[qDc];exact h3) (qIp (fun h=>by simpa using h) (List.pairwise_mergeSort (by simp;intro a b c h1 h2;lia) (by simp;intro a b;lia) kz));rw[<- e2,h2,qAn];refine qAo fun p hp=>?_
 obtain⟨i,hi,e⟩:=qDs.mp (h1.mem_iff.mp hp);rw[qGh]at e;have hi':i<kz.length:=by rw[qGw]at hi;lia
 have ea:kz[i]=p.1:=congrArg qF7 e;have eb:((i:Nat):Int)=p.2:=by have:=congrArg qF8 e;simpa using this
 show p.2=_;rw[<- eb];show _=((kz.idxOf p.1:Nat):Int);rw[<- ea,hn.idxOf_getElem i hi']
section
variable[Kc]{mg:Str->Option Value}{E:XK}{n:Nat}{t:TA}{m:AM}
theorem zT7{f:FM}{x:Str}{L:Arguments×Expr×Scope×Str}{P cl:Addr}{i:Nat}(hL:lamK Kc.K x=some L)(hP:tabK Kc.K P=some (.lam (lamQ x)))(A:DA mg E t m 0) :
  DE mg E (zOA (zEA (tCB zHR t) tNil) (tLam P (lamQ x) L.1 L.2.1 L.2.2.1 [(L.2.2.2,cl)]) i (zRW Kc.K x f cl)) (Mi.eSortK m f i) 1:=by
 intro G H σ ρ Q s w p;refine A.step errE s w p fun ds vs G1 H1 S T _ fr o p1=>?_
 have p2:=PostE.from p1 fr.ext;have r:=o.repL;have s1:=fr.ext.in';cases ds with
 |nil=>exact p2.elim
 |cons a0 r0=>
  cases a0 with
  |int j=>
   cases r0 with
   |nil=>
    obtain⟨y,rfl,hy⟩:=zD5 r;cases(show y=.int j from hy)
    dsimp only at p2;cases e1:ρ[i]? with
    |none=>rw[e1]at p2;exact p2.elim
    |some oc=>
     cases oc with
     |none=>rw[e1]at p2;exact p2.elim
     |some c=>
      rw[e1]at p2;dsimp only at p2;split at p2
      ·rename_i hz
       obtain⟨z0,z1,z2⟩:=hz;obtain⟨n,rfl⟩:∃n:Nat,j=(n:Int):=⟨j.toNat,by lia⟩
       rw[qB0]at p2;unfold Mi.srtK at p2;cases e2:Mi.keysF f c 0 n with
       |none=>rw[e2]at p2;exact p2.elim
       |some ks=>
        rw[e2]at p2;dsimp only at p2;split at p2
        ·rename_i hnd
         obtain⟨wv,hσ,rc⟩:=w.at i c e1;intro q hq;refine⟨q,n,rfl,zAG,by lia,?_⟩;have sn:Same H1 (upd H1 q (.rng 0 (n:Int))):=L2.same_new hq (.rng 0 (n:Int));refine⟨sn _ _ (fr.ext.in' _ _ (fr.ext.g _ _ (w.tab _ _ hP))),fun g pm cdv ctv H2 hf sm h2=>?_⟩;refine⟨g,wv,ks,rfl,sm _ _ zAG,hσ,Mi.keysF_len e2,fun j k hk H' sm'=>?_,fun H3 l out sm3 hl3 hout=>?_⟩
         ·refine⟨c,tabK Kc.K,L,pm,cdv,ctv,[.int (j:Int)],.int k,hL,sm' _ _ h2,Same.refl _,fun b u e=>sm' _ _ (sm _ _ (sn _ _ (fr.ext.in' _ _ (fr.ext.g _ _ (w.tab _ _ e))))),⟨.int (j:Int),[wv],rfl,rfl,wv,[],rfl,Rep.mono (H:=fun _=>none) (fun b u e=>by cases e) (Rep.scalar rc z2),rfl⟩,?_,rfl,fun v H'' hv s4=>⟨hv,s4⟩⟩
          have:=Mi.keysF_at e2 j k hk;rw[qB8]at this;exact this
         ·rw[zV3 hnd (Mi.keysF_len e2) hout,qAn];have sall:Same H1 H3:=(sn.trans sm).trans sm3;have rr:=zCD (G:=G1) ((Mi.sortI ks).map fun z=>((ks.idxOf z:Nat):Int));rw[qAn,qAn]at rr;exact PostE.lst p2 (Ext.same s1 sall) rr hl3
        ·exact p2.elim
      ·exact p2.elim
   |cons _ _=>exact p2.elim
  |_=>exact p2.elim
end
end L3
namespace L3
open PySem PyProof.Rows
open L2 hiding Rep RepL
theorem zbC{X:Cx}{i:Nat}{mg':Str->Option Value}{x nm:Str}{st:Stmt}{P cl:Addr}{ps:Arguments}{b:Expr}{sc:Scope}{fm:Mi.FM}(D:Mkr X.K mg' x st P)(hr:Room 3 X.A)(h:LamOk X.K X.mg 0 x fm)(h2:zKX (zAT st)=some (ps,b,sc,nm):=by rfl)
  (hN:X.N[i]?=some nm:=by rfl) (hv:X.env.scope.names.lookup nm=some .cell:=by rfl) (hc:X.env.cells.lookup nm=some cl:=by rfl):zX0 X.inK i (zRW X.K x fm cl):=
 zbD (X:=X.inK) rfl rfl hr.in1.in1 h (fun L e=>by rw[D.lam.trans h2]at e;cases e;rfl) hN hv hc
theorem zT6[Kc]{mg mg':Str->Option Value}{E:XK}{f:Mi.FM}{t:TA}{m:Mi.AM}{x:Str}{st:Stmt}{ps:Arguments}{b:Expr}{sc:Scope}{nm:Str}{P cl:Addr}{i:Nat}(D:Mkr Kc.K mg' x st P)(A:DA mg E t m 0)(h:zKX (zAT st)=some (ps,b,sc,nm):=by rfl) :
  DE mg E (zOA (zEA (tCB zHR t) tNil) (tLam P (lamQ x) ps b sc [(nm,cl)]) i (zRW Kc.K x f cl)) (Mi.eSortK m f i) 1:=zT7 (L:=(ps,b,sc,nm)) (D.lam.trans h) D.tab A
end L3
namespace Mi
open PySem
section
variable(ρ:Rh)(r:Ro)(a:EM)(am:AM)
@[simp] theorem x_tL:tL a ρ=zA2 (a ρ) fun x=>match x with | .bl k=>okR k | .int i=>okR (i != 0) | .non=>okR false | .lst xs=>okR (!xs.isEmpty) | .tup xs=>okR (!xs.isEmpty)|_=>none:=rfl
@[simp] theorem x_eMl(f:List Dt->List Dt->Option Dt):eMl f a am ρ=zA2 (a ρ) fun x=>match x with | .lst xs=>zA2 (am ρ) fun ds=>optR (f xs ds)|_=>none:=rfl
@[simp] theorem x_iRv:iRv am ρ=zA2 (am ρ) fun vs=>match vs with|[.lst xs]=>okR xs.reverse|_=>none:=rfl
@[simp] theorem v_xor(i j:Int):xorD (.int i) (.int j)=some (.int (qKi i j)):=rfl
@[simp] theorem zaK(xs:List Dt)(k:Int):repD (.lst xs) (.int k)=@ite _ ((-4611686018427387904<=k/\k<4611686018427387904)/\xs.length*k.toNat<=100000) (qA2 _) (some (.lst (qA4 k.toNat xs).flatten)) none:=rfl
end
end Mi
namespace Mp
open Mi PySem
theorem zEJ(n:Nat):nums 0 n=((qA7 n).map fun i:Nat=>(i:Int)).map Dt.int:=by
 unfold nums;rw[qAn];exact qAo fun i _=>by simp
theorem zLT(ms:List Int)(q:Nat)(v:Int):(ms.map Dt.int).set q (.int v)=(ms.set q v).map Dt.int:=by
 rw[qE4]
theorem zNU(ms:List Int)(q:Nat):(ms.map Dt.int).eraseIdx q=(ms.eraseIdx q).map Dt.int:=by
 induction ms generalizing q with
 |nil=>rfl
 |cons a r ih=>
  cases q with
  |zero=>rfl
  |succ q=>simp[ih]
theorem zFH{r:Ro}{j i l:Nat}{ls:List Int}{e:EM}{z:Int}(h:r[i]?=some (some (.lst (ls.map .int),l+1)))(he:e (full r)=okR (.int z))(h0:0<=z)(h1:z<ls.length)(hij:i≠j)(hle:ls.length<=1000000) :
  sPop j i e r=okR (.nx ((r.set i (some (.lst ((ls.eraseIdx z.toNat).map .int),l+1))).set j (some (.int (ls.getD z.toNat 0),l)))):=by
 have hi:ixA (ls.map Dt.int).length z=some z.toNat:=zPM h0 (by simpa using h1);have hg:(ls.map Dt.int)[z.toNat]?=some (.int (ls.getD z.toNat 0)):=by
  have:z.toNat<ls.length:=by lia
  rw[qA8,qA5 this,qA0,qA5 this];rfl
 unfold sPop;rw[h];dsimp only;rw[he,zA0];dsimp only;rw[hi];dsimp only;rw[hg];dsimp only;rw[if_pos ⟨hij,by simpa using hle⟩,zNU]
theorem zCQ{r:Ro}{i n l:Nat}{ls:List Int}{e1 e2:EM}{z v:Int}(h:r[i]?=some (some (.lst (ls.map .int),l+1)))(he2:e2 (full r)=okR (.int v))(he1:e1 (full r)=okR (.int z))(h0:0<=z)(h1:z<ls.length) :
  sItem i n e1 e2 r=okR (.nx (r.set i (some (.lst ((ls.set z.toNat v).map .int),l+1)))):=by
 have hi:ixA (ls.map Dt.int).length z=some z.toNat:=zPM h0 (by simpa using h1);unfold sItem;rw[he2,zA0,h];dsimp only;rw[he1,zA0];dsimp only;rw[hi];dsimp only;rw[if_pos ⟨qAu _,qAu _⟩,zLT]
end Mp
namespace Mi
open PySem
@[simp] theorem okR_inj{α:Type}{a b:α}:okR a=okR b↔a=b:=⟨fun h=>by cases h;rfl,fun h=>by rw[h]⟩
@[simp] theorem x_sFor(vs:List Nat)(it:IM)(tg:Tg)(b:SM)(r:Ro):sFor vs it tg b r=zA2 (it (frz (frzAt vs r))) fun ds=>forGo tg b ds (frzAt vs r):=rfl
@[simp] theorem zFO(it:IM)(i:Nat)(b:SM)(r:Ro):sForR it i b r=zA2 (it (full r)) fun ds=>forGo (.one i) b ds r:=rfl
@[simp] theorem x_iSq(e:EM)(ρ:Rh):iSq e ρ=zA2 (e ρ) fun d=>match d with | .lst xs=>okR xs | .tup xs=>okR xs | .scr ns=>okR (ns.map .int) | .str z=>okR (signsD z)|_=>none:=rfl
@[simp] theorem x_iEn(e:AM)(ρ:Rh):iEn e ρ=zA2 (e ρ) fun vs=>match vs with|[.lst xs]=>okR (enumD 0 xs)|_=>none:=rfl
@[simp] theorem x_iZi(e:AM)(ρ:Rh):iZi e ρ=zA2 (e ρ) fun vs=>match vs with|[.lst xs,.lst ys]=>okR (zipD xs ys)|_=>none:=rfl
theorem zN3{e:AM}{ρ:Rh}{n:Nat}(h:e ρ=okR [.int n])(hn:n<=100000):iR1 e ρ=okR (nums 0 n):=by
 unfold iR1;rw[h,zA0];dsimp only;rw[if_pos (by lia)];simp
theorem zEJ(n:Nat):nums 0 n=((qA7 n).map fun i:Nat=>(i:Int)).map Dt.int:=by
 unfold nums;rw[qAn];exact qAo fun i _=>by simp
theorem zDJ(n:Nat):nums 0 n=(qA7 n).map fun i:Nat=>Dt.int (i:Int):=by
 unfold nums;exact qAo fun i _=>by simp
theorem zJL{α β:Type}{j:Nat}{b:SM}(en:β->Dt)(Enc:α->Ro->Prop)(f:α->β->α):∀(ns:List β)(a:α)(r:Ro),Enc a r->(∀n∈ns,∀a r,Enc a r->∃r',b (r.set j (some (en n,0)))=okR (.nx r')/\Enc (f a n) r')->∃r',forGo (.one j) b (ns.map en) r=okR (.nx r')/\Enc (ns.foldl f a) r'
 |[],a,r,h,_=>⟨r,by simp[forGo],h⟩
 |d::ds,a,r,h,hs=>by
  obtain⟨r1,h2,h3⟩:=hs d (by simp) a r h;obtain⟨r2,h4,h5⟩:=zJL en Enc f ds (f a d) r1 h3 fun e he=>hs e (by simp[he])
  refine⟨r2,?_,h5⟩;rw[qAk,forGo];show zA2 (b (zAQ r [(j,en d)])) _=_;show zA2 (b (r.set j (some (en d,0)))) _=_;rw[h2,zA0];exact h4
theorem zNX{α β γ:Type}(x:R α)(f:α->R β)(g:β->R γ):zA2 (zA2 x f) g=zA2 x fun a=>zA2 (f a) g:=by
 cases x with
 |none=>rfl
 |some r=>cases r<;>rfl
def nxR(x:R Out)(P:Ro->Prop):Prop:=match x with
 |some (.ok (.nx r))=>P r
 |_=>False
@[simp] theorem x_nxR(r:Ro)(P:Ro->Prop):nxR (okR (.nx r)) P=P r:=rfl
theorem zD6{x:R Out}{P:Ro->Prop}(h:nxR x P):∃r',x=okR (.nx r')/\P r':=by
 unfold nxR at h;split at h
 ·exact⟨_,rfl,h⟩
 ·exact h.elim
theorem zB1{x:R Out}{P:Ro->Prop}{r:Ro}(h:x=okR (.nx r))(hp:P r):nxR x P:=by rw[h];exact hp
theorem zQX{α β γ:Type}{j:Nat}{b:SM}{r:Ro}{K:Out->R β}{X:R β}(en:γ->Dt)(ns:List γ)(Enc:α->Ro->Prop)(f:α->γ->α)(a:α)(h:Enc a r)(hs:∀n∈ns,∀a r,Enc a r->nxR (b (r.set j (some (en n,0)))) (Enc (f a n)))(hK:∀r',Enc (ns.foldl f a) r'->K (.nx r')=X):zA2 (forGo (.one j) b (ns.map en) r) K=X:=by
 obtain⟨r',h1,h2⟩:=zJL en Enc f ns a r h fun n hn a r hr=>zD6 (hs n hn a r hr)
 rw[h1,zA0];exact hK r' h2
theorem zEM{i j:Int}(h:-18446744073709551616<i)(h':i<18446744073709551616):mulD (.int i) (.int j)=some (.int (i*j)):=by
 rw[zUW,if_pos (.inl (.inl ⟨h,h'⟩))]
theorem zNJ{i j:Int}(h:-18446744073709551616<j)(h':j<18446744073709551616):mulD (.int i) (.int j)=some (.int (i*j)):=by
 rw[zUW,if_pos (.inl (.inr ⟨h,h'⟩))]
theorem zH6{ρ:Rh}{c:TM}{e:EM}{i:Nat}{β:Type}(en:β->Dt)(g:β->Dt)(ns:List β)(hc:c=tYes)(hi:i=ρ.length)(h:∀k,k∈ns->e (ρ++[some (en k)])=okR (g k))(it:IM)(hit:it ρ=okR (ns.map en))(hn:ns.length<=100000):eComp it 1 (.one i) c e ρ=okR (.lst (ns.map g)):=by
 subst hc hi;unfold eComp;rw[hit,zA0,if_pos ⟨by simpa using hn,by simp[Tg.idx]⟩]
 have:∀(ns:List β)(acc:List Dt),(∀k,k∈ns->e (ρ++[some (en k)])=okR (g k))->compGo ρ 1 (.one ρ.length) tYes e (ns.map en) acc=okR (acc++ns.map g):=by
  intro ns;induction ns with
  |nil=>intro acc _;simp[compGo]
  |cons d r ih=>
   intro acc h;rw[qAk,compGo];have e1:zAN (ρ++qA4 1 none) [(ρ.length,en d)]=ρ++[some (en d)]:=by simp[zAN]
   show zA2 (tYes _) _=_;simp only[zX3,zA0,if_true];show zA2 (e (zAN (ρ++qA4 1 none) [(ρ.length,en d)])) _=_;rw[e1,h d (by simp),zA0,ih _ fun k hk=>h k (by simp[hk])];simp
 rw[this ns [] h,zA0];simp
theorem zXJ{a b:SM}{r:Ro}{X:R Out}(h:∀bb:SM,bb=b->nxR (a r) fun r1=>bb r1=X):sSeq a b r=X:=by
 obtain⟨r1,h1,h2⟩:=zD6 (h b rfl);unfold sSeq;rw[h1,zA0];exact h2
theorem zF7{a b:SM}{r:Ro}{P:Ro->Prop}(h:∀bb:SM,bb=b->nxR (a r) fun r1=>nxR (bb r1) P):nxR (sSeq a b r) P:=by
 obtain⟨r1,h1,h2⟩:=zD6 (h b rfl);unfold sSeq;rw[h1,zA0];exact h2
theorem zD3{P n:Nat}{b:SM}{ds:List Dt}{d:Dt}(h:ds.length=P)(hb:b (startO n ds)=okR (.rt d)):runF P n b ds=okR d:=by
 unfold runF;rw[if_pos h,hb];rfl
theorem zP5{j n:Nat}{b:SM}{r:Ro}{X:Ro->Prop}(Pv:Nat->Ro->Prop)(h:Pv 0 r)(hs:∀k,k<n->∀r,Pv k r->nxR (b (r.set j (some (.int (k:Nat),0)))) (Pv (k+1)))(hK:∀r',Pv n r'->X r'):nxR (forGo (.one j) b (nums 0 n) r) X:=by
 obtain⟨r',h1,h2⟩:∃r',forGo (.one j) b (nums 0 n) r=okR (.nx r')/\Pv n r':=by
  obtain⟨r',h1,h2⟩:=zE5 (tg:=.one j) (b:=b) Pv (nums 0 n) 0 r h fun k d r hd hp=>by
   rw[zDJ,qA8]at hd;cases e:(qA7 n)[k]? with
   |none=>rw[e]at hd;cases hd
   |some q=>
    rw[e]at hd;cases hd;obtain⟨h1,h2⟩:=qA3.mp e;rw[qBw]at h2;subst h2;rw[qB8]at hp;obtain⟨r',g1,g2⟩:=zD6 (hs k (by simpa using h1) r hp);exact⟨_,r',rfl,g1,by rw[qB8];exact g2⟩
  exact⟨r',h1,by simpa[nums]using h2⟩
 rw[h1];exact hK r' h2
theorem zP6{γ:Type}{j:Nat}{b:SM}{r:Ro}{X:Ro->Prop}(en:γ->Dt)(ns:List γ)(Pv:Nat->Ro->Prop)(h:Pv 0 r)(hs:∀k x,ns[k]?=some x->∀r,Pv k r->nxR (b (r.set j (some (en x,0)))) (Pv (k+1)))(hK:∀r',Pv ns.length r'->X r'):nxR (forGo (.one j) b (ns.map en) r) X:=by
 obtain⟨r',h1,h2⟩:=zE5 (tg:=.one j) (b:=b) Pv (ns.map en) 0 r h fun k d r hd hp=>by
  rw[qA8]at hd;cases e:ns[k]? with
  |none=>rw[e]at hd;cases hd
  |some q=>
   rw[e]at hd;cases hd;rw[qB8]at hp;obtain⟨r',g1,g2⟩:=zD6 (hs k q e r hp);exact⟨_,r',rfl,g1,by rw[qB8];exact g2⟩
 rw[h1];exact hK r' (by simpa using h2)
theorem zJC:∀(a b:List Char),a.map qIq=b.map qIq->a=b
 |[],[],_=>rfl
 |[],_::_,h=>by simp at h
 |_::_,[],h=>by simp at h
 |x::r,y::q,h=>by
  simp only[qAk,qGx]at h;rw[zJC r q h.2];have:x=y:=Char.toNat_inj.mp h.1;rw[this]
@[simp] theorem str_inj(a b:String):(qJj a=qJj b)↔a=b:=by
 constructor
 ·intro h;rw[qLe,qLe]at h;simp only[Str.mk.injEq,List.toArray_inj]at h
  have:=zJC _ _ (by simpa using h)
  exact String.toList_inj.mp this
 ·intro h;rw[h]
theorem zMK:∀(ds:List Dt)(n i:Nat)(d:Dt),(enumD n ds)[i]?=some d->∃e,ds[i]?=some e/\d=.tup [.int ((n+i:Nat):Int),e]
 |[],_,_,_,h=>by simp[enumD]at h
 |x::r,n,0,d,h=>by simp[enumD]at h;exact⟨x,by simp,by rw[<- h];rfl⟩
 |x::r,n,i+1,d,h=>by
  rw[enumD]at h;obtain⟨e,h1,h2⟩:=zMK r (n+1) i d (by simpa using h);exact⟨e,by simpa using h1,by rw[h2,show n+1+i=n+(i+1) by lia]⟩
theorem zI6:∀(ds:List Dt)(n:Nat),(enumD n ds).length=ds.length
 |[],_=>rfl
 |_::r,n=>by rw[enumD,qAr,qAr,zI6 r]
theorem zVU{a b:Nat}{s:SM}{r:Ro}{X:Ro->Prop}(xs:List Dt)(Pv:Nat->Ro->Prop)(h:Pv 0 r)(hs:∀k x,xs[k]?=some x->∀r,Pv k r->nxR (s ((r.set a (some (.int (k:Nat),0))).set b (some (x,0)))) (Pv (k+1)))(hK:∀r',Pv xs.length r'->X r'):nxR (forGo (.tup [a,b]) s (enumD 0 xs) r) X:=by
 obtain⟨r',h1,h2⟩:=zE5 (tg:=.tup [a,b]) (b:=s) Pv (enumD 0 xs) 0 r h fun k d r hd hp=>by
  obtain⟨e,g1,rfl⟩:=zMK xs 0 k d hd;rw[qB8]at hp;obtain⟨r',g2,g3⟩:=zD6 (hs k e g1 r hp);refine⟨_,r',rfl,?_,by rw[qB8];exact g3⟩;rw[qB8];exact g2
 rw[h1];exact hK r' (by simpa[zI6]using h2)
section
variable(ρ:Rh)(a:EM)(am:AM)(lo hi:OM)
@[simp] theorem zUT:eSl a lo hi ρ=zA2 (a ρ) fun x=>zA2 (lo ρ) fun l=>zA2 (hi ρ) fun h=>optR (slD x l h):=rfl
@[simp] theorem zX7:oNo ρ=okR none:=rfl
@[simp] theorem x_oE:oE a ρ=zA2 (a ρ) fun d=>match d with | .int i=>okR (some i)|_=>none:=rfl
@[simp] theorem x_eMt(f:Dt->List Dt->Option Dt):eMt f a am ρ=zA2 (a ρ) fun x=>if zPQ x=true then zA2 (am ρ) fun xs=>optR (f x xs)else none:=rfl
@[simp] theorem v_isStr(z:Str):zPQ (.str z)=true:=rfl
end
@[simp] theorem v_slL(xs:List Dt)(l h:Option Int):slD (.lst xs) l h=some (.lst (cutA xs l h)):=rfl
@[simp] theorem v_slS(z:Str)(l h:Option Int):slD (.str z) l h=@ite _ (z.length<=100000) (qA2 _) (some (.str ⟨(cutA z.cps.toList l h).toArray⟩)) none:=rfl
@[simp] theorem v_ixSt(z:Str)(i:Int):ixD (.str z) (.int i)=@ite _ (z.length<=100000) (qA2 _) ((itA z.cps.toList i).map fun c=>.str ⟨#[c]⟩) none:=rfl
@[simp] theorem v_lenSt(z:Str):lenD [.str z]=@ite _ (z.length<=100000) (qA2 _) (some (.int z.length)) none:=rfl
@[simp] theorem v_count1(z:Str)(c:Nat):zUK (.str z) [.str ⟨#[c]⟩]=some (.int (z.cps.toList.count c:Nat)):=rfl
@[simp] theorem v_in1(ng:Bool)(z:Str)(c:Nat):inD ng (.str ⟨#[c]⟩) (.str z)=some (.bl (if ng=true then !decide (c∈z.cps.toList)else decide (c∈z.cps.toList))):=rfl
@[simp] theorem v_find1(z:Str)(c:Nat):zZK (.str z) [.str ⟨#[c]⟩]=some (.int (match posC c z.cps.toList with|some i=>(i:Int)|none=>-1)):=rfl
theorem za5{α:Type}(xs:List α)(k:Nat):cutA xs none (some (k:Int))=xs.take k:=by
 unfold cutA cutIx;simp only[qCv,qIb];rw[if_neg (by lia)]
 by_cases h:k<=xs.length
 ·rw[show min (k:Int).toNat xs.length=k by lia]
 ·rw[show min (k:Int).toNat xs.length=xs.length by lia,qD0,qC5 (by lia)]
theorem zTF{α:Type}(xs:List α)(k:Nat):cutA xs (some (k:Int)) none=xs.drop k:=by
 unfold cutA cutIx;dsimp only;rw[if_neg (by lia)]
 by_cases h:k<=xs.length
 ·rw[show min (k:Int).toNat xs.length=k by lia];exact qC5 (by simp)
 ·rw[show min (k:Int).toNat xs.length=xs.length by lia];simp
  lia
theorem zV1(a b:Str):(a++b).cps.toList=a.cps.toList++b.cps.toList:=by
 show(Str.mk (a.cps++b.cps)).cps.toList=_;simp
theorem zW2(z:Str):z.length=z.cps.toList.length:=by
 unfold qN0;simp
theorem zPF(l:List Nat):(Str.mk l.toArray).length=l.length:=by rw[zW2]
end Mi
namespace Mp
open Mi PySem
theorem sg{i n:Nat}{vs:List Nat}{e:EM}{b:SM}{r:Ro}{d:Dt}{X:R Out}(he:e (full r)=okR d)(hd:d.dep<=n)(h:b (r.set i (some (d,n)))=X):sSeq (sSet i n vs e) b r=X:=by
 rw[zDO,zIL,he,zA0,if_pos hd,zA0];exact h
theorem sgf{i n:Nat}{vs:List Nat}{e:EM}{b:SM}{r:Ro}{d:Dt}{X:R Out}(he:e (full r)=okR d)(hd:¬d.dep<=n)(he2:e (frz (frzAt vs r))=okR d)(h:b ((frzAt vs r).set i (some (d,n)))=X):sSeq (sSet i n vs e) b r=X:=by
 rw[zDO,zIL,he,zA0,if_neg hd,he2,zA0,zA0];exact h
theorem sp{c:TM}{a b:SM}{r:Ro}{X:R Out}(hc:c (full r)=okR false)(h:b r=X):sSeq (sIf c a sNil) b r=X:=by
 rw[zDO,zIM,hc,zA0,if_neg (by simp),zTO,zA0];exact h
theorem st{c:TM}{a b:SM}{r r':Ro}{X:R Out}(hc:c (full r)=okR true)(ha:a r=okR (.nx r'))(h:b r'=X):sSeq (sIf c a sNil) b r=X:=by
 rw[zDO,zIM,hc,zA0,if_pos rfl,ha,zA0];exact h
theorem c2{m:FM}{e1 e2:EM}{ρ:Rh}{d1 d2:Dt}{X:R Dt}(h1:e1 ρ=okR d1)(h2:e2 ρ=okR d2)(h:m [d1,d2]=X):eCall m (aCons e1 (aCons e2 aNil)) ρ=X:=by
 simp only[zKB,zB8,zC8,h1,h2,zA0];exact h
theorem c1{m:FM}{e1:EM}{ρ:Rh}{d1:Dt}{X:R Dt}(h1:e1 ρ=okR d1)(h:m [d1]=X):eCall m (aCons e1 aNil) ρ=X:=by
 simp only[zKB,zB8,zC8,h1,zA0];exact h
theorem b2{o:Dt->Dt->Option Dt}{e1 e2:EM}{ρ:Rh}{d1 d2 d:Dt}(h1:e1 ρ=okR d1)(h2:e2 ρ=okR d2)(h:o d1 d2=some d):eB o e1 e2 ρ=okR d:=by
 rw[x_eB,h1,zA0,h2,zA0,h];rfl
theorem bi1{o:List Dt->Option Dt}{e1:EM}{ρ:Rh}{d1 d:Dt}(h1:e1 ρ=okR d1)(h:o [d1]=some d):eBi o (aCons e1 aNil) ρ=okR d:=by
 simp only[zX8,zB8,zC8,h1,zA0,h];rfl
theorem el2{e1 e2:EM}{ρ:Rh}{d1 d2:Dt}(h1:e1 ρ=okR d1)(h2:e2 ρ=okR d2):eLst (aCons e1 (aCons e2 aNil)) ρ=okR (.lst [d1,d2]):=by simp[h1,h2]
theorem el1{e1:EM}{ρ:Rh}{d1:Dt}(h1:e1 ρ=okR d1):eLst (aCons e1 aNil) ρ=okR (.lst [d1]):=by simp[h1]
theorem tb1{e:EM}{ρ:Rh}{k:Bool}(h:e ρ=okR (.bl k)):tB e ρ=okR k:=by rw[x_tB,h,zA0]
theorem tm1{e:EM}{ρ:Rh}{k:Bool}(h:e ρ=okR (.bl k)):tM e ρ=okR k:=by rw[x_tM,h,zA0]
theorem tn1{t:TM}{ρ:Rh}{k:Bool}(h:t ρ=okR k):tNo t ρ=okR (!k):=by rw[zaJ,h,zA0]
theorem to0{t t':TM}{ρ:Rh}{k:Bool}(h:t ρ=okR false)(h':t' ρ=okR k):Mi.tOr t t' ρ=okR k:=by rw[zX4,h,zA0,if_neg (by simp),h']
theorem to1{t t':TM}{ρ:Rh}(h:t ρ=okR true):Mi.tOr t t' ρ=okR true:=by rw[zX4,h,zA0,if_pos rfl]
theorem ta1{t t':TM}{ρ:Rh}{k:Bool}(h:t ρ=okR true)(h':t' ρ=okR k):tAn t t' ρ=okR k:=by rw[zX5,h,zA0,if_pos rfl,h']
theorem ta0{t t':TM}{ρ:Rh}(h:t ρ=okR false):tAn t t' ρ=okR false:=by rw[zX5,h,zA0,if_neg (by simp)]
theorem ss{i n:Nat}{vs:List Nat}{e:EM}{r:Ro}{d:Dt}(he:e (full r)=okR d)(hd:d.dep<=n):sSet i n vs e r=okR (.nx (r.set i (some (d,n)))):=by
 rw[zIL,he,zA0,if_pos hd]
theorem sr{L n:Nat}{vs:List Nat}{e:EM}{r:Ro}{d:Dt}(he:e (full r)=okR d)(hd:d.dep<=n/\d.dep<=L):sRet L n vs e r=okR (.rt d):=by
 rw[zX6,he,zA0,if_pos hd]
theorem tl{k k':Bool}{x:Option Dt}(h:x=some (.bl k))(e:k=k'):x=some (.bl k'):=e▸h
theorem bi2{o:List Dt->Option Dt}{e1 e2:EM}{ρ:Rh}{d1 d2 d:Dt}(h1:e1 ρ=okR d1)(h2:e2 ρ=okR d2)(h:o [d1,d2]=some d):eBi o (aCons e1 (aCons e2 aNil)) ρ=okR d:=by
 simp only[zX8,zB8,zC8,h1,h2,zA0,h];rfl
theorem sl0{a b:EM}{ρ:Rh}{x d:Dt}{i:Int}(h1:a ρ=okR x)(h2:b ρ=okR (.int i))(h:slD x none (some i)=some d):eSl a oNo (oE b) ρ=okR d:=by
 rw[zUT,h1,zA0,zX7,zA0,x_oE,h2,zA0,zA0,h];rfl
theorem sl1{a b:EM}{ρ:Rh}{x d:Dt}{i:Int}(h1:a ρ=okR x)(h2:b ρ=okR (.int i))(h:slD x (some i) none=some d):eSl a (oE b) oNo ρ=okR d:=by
 rw[zUT,h1,zA0,x_oE,h2,zA0,zA0,zX7,zA0,h];rfl
theorem sl2{a b c:EM}{ρ:Rh}{x d:Dt}{i j:Int}(h1:a ρ=okR x)(h2:b ρ=okR (.int i))(h3:c ρ=okR (.int j))(h:slD x (some i) (some j)=some d):eSl a (oE b) (oE c) ρ=okR d:=by
 rw[zUT,h1,zA0,x_oE,h2,zA0,zA0,x_oE,h3,zA0,zA0,h];rfl
theorem sf{c:TM}{a:SM}{r:Ro}(hc:c (full r)=okR false):sIf c a sNil r=okR (.nx r):=by
 rw[zIM,hc,zA0,if_neg (by simp),zTO]
theorem et2{e1 e2:EM}{ρ:Rh}{d1 d2:Dt}(h1:e1 ρ=okR d1)(h2:e2 ρ=okR d2):eTup (aCons e1 (aCons e2 aNil)) ρ=okR (.tup [d1,d2]):=by simp[h1,h2]
theorem eqi{e1 e2:EM}{ρ:Rh}{a b:Int}{k:Bool}(h1:e1 ρ=okR (.int a))(h2:e2 ρ=okR (.int b))(h:decide (a=b)=k):tB (eB eqD e1 e2) ρ=okR k:=by
 refine tb1 (b2 h1 h2 ?_);rw[<- h];simp[Dt.eq];rfl
theorem sx{c:TM}{a b:SM}{r:Ro}{d:Dt}(hc:c (full r)=okR true)(ha:a r=okR (.rt d)):sSeq (sIf c a sNil) b r=okR (.rt d):=by
 rw[zDO,zIM,hc,zA0,if_pos rfl,ha,zA0]
theorem mdi{i j k:Int}(h:0<j)(e:i%j=k):modD (.int i) (.int j)=some (.int k):=by rw[<- e];exact if_pos h
theorem dvi{i j:Int}(h:0<j/\j<1000000000000000000000000):divD (.int i) (.int j)=some (.int (i/j)):=@if_pos _ (qA2 _) h _ _ _
theorem c3{m:FM}{e1 e2 e3:EM}{ρ:Rh}{d1 d2 d3:Dt}{X:R Dt}(h1:e1 ρ=okR d1)(h2:e2 ρ=okR d2)(h3:e3 ρ=okR d3)(h:m [d1,d2,d3]=X):eCall m (aCons e1 (aCons e2 (aCons e3 aNil))) ρ=X:=by
 simp only[zKB,zB8,zC8,h1,h2,h3,zA0];exact h
theorem sw{s t:SM}{r r':Ro}{X:R Out}(h:s r=okR (.nx r'))(h2:t r'=X):sSeq s t r=X:=by rw[zDO,h,zA0];exact h2
theorem if1{c:TM}{a b:EM}{ρ:Rh}{X:R Dt}(hc:c ρ=okR true)(h:a ρ=X):eIf c a b ρ=X:=by unfold eIf;rw[hc,zA0,if_pos rfl];exact h
theorem if0{c:TM}{a b:EM}{ρ:Rh}{X:R Dt}(hc:c ρ=okR false)(h:b ρ=X):eIf c a b ρ=X:=by unfold eIf;rw[hc,zA0,if_neg qAe];exact h
theorem nif1{c:TM}{a b:SM}{r:Ro}{P:Ro->Prop}(hc:c (full r)=okR true)(h:nxR (a r) P):nxR (sIf c a b r) P:=by rw[zIM,hc,zA0,if_pos rfl];exact h
theorem nif0{c:TM}{a b:SM}{r:Ro}{P:Ro->Prop}(hc:c (full r)=okR false)(h:nxR (b r) P):nxR (sIf c a b r) P:=by rw[zIM,hc,zA0,if_neg qAe];exact h
theorem nsw{s t:SM}{r r':Ro}{P:Ro->Prop}(h:s r=okR (.nx r'))(h2:nxR (t r') P):nxR (sSeq s t r) P:=by rw[zDO,h,zA0];exact h2
theorem v1{i:Nat}{ρ:Rh}{d:Dt}(h:ρ[i]?=some (some d)):eV i ρ=okR d:=by rw[x_eV,h]
theorem al0{e:EM}{ρ:Rh}{d:Dt}(h:e ρ=okR d):aCons e aNil ρ=okR [d]:=by rw[zB8,h];rfl
theorem adi{a b c:Int}(h:a+b=c):addD (.int a) (.int b)=some (.int c):=by rw[<- h];rfl
theorem sbi{a b c:Int}(h:a-b=c):subD (.int a) (.int b)=some (.int c):=by rw[<- h];rfl
theorem k1{d d':Dt}{ρ:Rh}(h:d=d'):eC d ρ=okR d':=by rw[<- h];rfl
theorem cmi{p:Int->Int->Bool}{a b:Int}{k:Bool}(h:p a b=k):cmpD p (.int a) (.int b)=some (.bl k):=by rw[<- h];rfl
noncomputable def rowD(r:List Int):Dt:=.lst (r.map .int)
def mat(A:List (List Int)):Dt:=.lst (A.map rowD)
noncomputable def tab(n:Nat)(f:Nat->Nat->Int):List (List Int):=(qA7 n).map fun i=>(qA7 n).map fun j=>f i j
def Bits(n:Nat)(f:Nat->Nat->Int):Prop:=∀i j,i<n->j<n->f i j=0\/f i j=1
def Sym(n:Nat)(f:Nat->Nat->Int):Prop:=∀i j,i<n->j<n->f i j=f j i
@[simp] theorem zC0(r:List Int):(rowD r).dep=1:=by simp[rowD]
@[simp] theorem lenR(r:List Int):lenD [rowD r]=some (.int r.length):=by
 show some (Dt.int ((r.map Dt.int).length:Int))=_;rw[qAi]
@[simp] theorem listR(r:List Int):listD [rowD r]=some (rowD r):=rfl
@[simp] theorem lenM(A:List (List Int)):lenD [mat A]=some (.int A.length):=by
 show some (Dt.int ((A.map rowD).length:Int))=_;rw[qAi]
theorem zZL(a b:List Int):Dt.eq (rowD a) (rowD b)=decide (a=b):=by
 unfold rowD;rw[v_e4,zFK]
def Bit(x:Int):Prop:=x=0\/x=1
def RowN(n:Nat)(r:List Int):Prop:=r.length=n/\∀x∈r,Bit x
theorem zGE(r:List Int)(l h:Option Int):slD (rowD r) l h=some (rowD (cutA r l h)):=by
 show some (Dt.lst (cutA (r.map Dt.int) l h))=_;unfold cutA rowD;simp
theorem zPL(r:List Int)(i:Nat)(h:i<r.length):ixD (rowD r) (.int (i:Int))=some (.int (r.getD i 0)):=by
 have:=zMF (ns:=r) (i:=(i:Int)) (by lia) (by lia)
 rw[qB0]at this;exact this
noncomputable def sumN(n:Nat)(f:Nat->Int):Int:=((qA7 n).map f).sum
theorem zbM{ds:List Dt}(h:∀d∈ds,d.dep=0):Dt.depL ds=0:=by
 induction ds with
 |nil=>simp
 |cons a r ih=>rw[zHE,h a (by simp),ih fun d hd=>h d (by simp[hd])];rfl
noncomputable def numL(ks:List Nat):List Int:=ks.map fun k:Nat=>(k:Int)
theorem zG9{ks:List Nat}{n a:Nat}(hk:∀k∈ks,k<n)(ha:a<ks.length):ks.getD a 0<n:=by
 refine hk _ ?_;rw[qA0,qA5 ha];simp
noncomputable def sub(ks:List Nat)(f:Nat->Nat->Int):Nat->Nat->Int:=fun a b=>f (ks.getD a 0) (ks.getD b 0)
theorem zL2(l:List Int):intsD (l.map Dt.int)=some l:=by
 induction l with
 |nil=>rfl
 |cons a r ih=>simp[intsD,ih]
noncomputable def sgn(c:Nat):Dt:=.str ⟨#[c]⟩
theorem zSZ(cs:List Nat):∀d∈cs.map sgn,d.dep=0:=by
 intro d hd;obtain⟨c,_,rfl⟩:=qAb.mp hd;rfl
@[simp] theorem depL_sgn(cs:List Nat):Dt.depL (cs.map sgn)=0:=zbM (zSZ cs)
theorem zM3{x:Nat}:∀{o:List Nat},x∈o->posI (x:Int) (numL o)=some (o.idxOf x)
 |a::r,h=>by
  show(if(a:Int)=(x:Int)then some 0 else(posI (x:Int) (numL r)).map (·+1))=_
  by_cases z:a=x
  ·subst z;simp
  ·have:=zM3 (o:=r) ((qAf.mp h).elim (fun y=>absurd y.symm z) fun y=>y)
   rw[if_neg (by lia),this,List.idxOf_cons,show(a==x)=false by simpa using z];rfl
theorem zSI{x:Nat}{o:List Nat}(h:x∈o):lixD ((numL o).map Dt.int) [.int (x:Nat)]=some (.int (o.idxOf x:Nat)):=by
 unfold lixD;dsimp only;rw[zL2];dsimp only;rw[zM3 h];rfl
theorem zEG(n:Nat)(hn:n<=10000):repD (.lst [.int 0]) (.int (n:Int))=some (rowD (qA4 n 0)):=by
 rw[zaK,if_pos (by simp;lia)]
 have:∀m:Nat,(qA4 m [Dt.int 0]).flatten=qA4 m (Dt.int 0):=by
  intro m;induction m with
  |zero=>rfl
  |succ m ih=>rw[qB3,qBr,ih];rfl
 rw[qB0,this];unfold rowD;rw[List.map_replicate]
def lawS(row:List Nat)(k:Nat):List (Nat×Int):=((qA7 k).map fun k=>tieP row ((k+1)%row.length)).flatten
def zbV(ls row:List Nat):Prop:=∀x∈row,∀y∈row,ls.getD x 0=ls.getD y 0->x=y
theorem zSJ{cs:List Nat}(h:cs.length<=1000):lenD [.str ⟨cs.toArray⟩]=some (.int (cs.length:Int)):=by
 have:=zPF cs;simp[lenD,this]
 try lia
noncomputable def addB:List Int->List Int->List Int
 |a::r,b::s=>(a+b)%2::addB r s
 |_,_=>[]
noncomputable def dot:List Int->List Int->Int
 |a::r,b::x=>a*b+dot r x
 |_,_=>0
def Ker(A:List (List Int))(x:List Int):Prop:=∀r∈A,dot r x%2=0
noncomputable def ent(A:List (List Int))(i k:Nat):Int:=(A.getD i []).getD k 0
theorem zFI{α:Type}{l:List α}{d:α}{i:Nat}(h:i<l.length):l.getD i d∈l:=by
 rw[qA0,qA5 h];simp
theorem zSY{α:Type}{l:List α}{d a:α}{i j:Nat}(h:i<l.length):(l.set i a).getD j d=if i=j then a else l.getD j d:=by
 simp only[qA0,qG6];by_cases z:i=j
 ·subst z;simp[h]
 ·simp[z]
def oth(A:List (List Int))(c:Nat)(lead:List Int):List (List Int):=A.map fun r=>if r.getD c 0=1 then addB r lead else r
section
variable{A:List (List Int)}{c t m:Nat}(hm:∀r∈A,RowN m r)(ht:t<A.length)(hc:c<=t)(hl:ent A t c=1)(hcm:c<m)
include hm ht in
include hm ht hc in
include ht hc in
include hm ht hc in
end
def zbT(A:List (List Int))(c:Nat):Prop:=∀i k,i<A.length->k<c->ent A i k=if i=k then 1 else 0
theorem zB3(n:Nat)(f:Nat->Int):sumN (n+1) f=sumN n f+f n:=by
 unfold sumN;rw[qGr,qBa,List.sum_append];simp
theorem zC2{n:Nat}{f:Nat->Int}(h:∀k,k<n->f k=0):sumN n f=0:=by
 induction n with
 |zero=>rfl
 |succ n ih=>rw[zB3,ih fun k hk=>h k (by lia),h n (by lia)];rfl
theorem zHG{n:Nat}{f:Nat->Int}{j:Nat}(hj:j<n)(h:∀k,k<n->k≠j->f k=0):sumN n f=f j:=by
 induction n with
 |zero=>lia
 |succ n ih=>
  rw[zB3];by_cases z:j=n
  ·subst z;rw[zC2 fun k hk=>h k (by lia) (by lia)];lia
  ·rw[ih (by lia) fun k hk=>h k (by lia),h n (by lia) (fun y=>z y.symm)];lia
theorem zN9(n:Nat)(f:Nat->Int):sumN (n+1) f=f 0+sumN n fun k=>f (k+1):=by
 induction n with
 |zero=>simp[sumN]
 |succ n ih=>rw[zB3,ih,zB3];lia
theorem zVA{n p:Nat}{x:List Int}{v:Int}(hx:RowN n x)(hv:Bit v):RowN n (x.set p v):=
 ⟨by simp[hx.1],fun y hy=>(qEb hy).elim (hx.2 y) fun z=>z▸hv⟩
theorem zON{n k:Nat}{x:List Int}(hx:RowN n x):Bit (x.getD k 0):=by
 by_cases h:k<x.length
 ·exact hx.2 _ (zFI h)
 ·left;simp[qA0,qCa (by lia:x.length<=k)]
theorem zJ1{n:Nat}{a:List Int}(h:a.length=n):a=(qA7 n).map fun j=>a.getD j 0:=by
 apply qAx
 ·simp[h]
 ·intro i h1 h2;simp[qA0,qA5 h1]
noncomputable def zaM(n i:Nat):List Int:=(qA7 n).map fun j=>if j=i then 1 else 0
def aug(n:Nat)(T:List (List Int)):List (List Int):=(qA7 n).map fun i=>T.getD i []++zaM n i
structure Un(n:Nat)(T A:List (List Int))(c:Nat):Prop where
 len:A.length=n
 rows:∀r∈A,RowN (n+n) r
 unit:zbT A c
 ker:∀x,(∀y∈x,Bit y)->(Ker A x↔Ker (aug n T) x)
def eiR(x:R Out)(P:Ro->Prop)(Q:Dt->Prop):Prop:=(∃r,x=okR (.nx r)/\P r)\/∃d,x=okR (.rt d)/\Q d
theorem zD2{x:R Out}{P:Ro->Prop}{Q:Dt->Prop}(h:nxR x P):eiR x P Q:=.inl (zD6 h)
theorem zBR{a b:SM}{r:Ro}{P P':Ro->Prop}{Q:Dt->Prop}(h:eiR (a r) P Q)(hb:∀r',P r'->eiR (b r') P' Q):eiR (sSeq a b r) P' Q:=by
 unfold sSeq;rcases h with⟨r',e,h'⟩|⟨d,e,hq⟩
 ·rw[e,zA0];exact hb r' h'
 ·rw[e,zA0];exact .inr ⟨d,rfl,hq⟩
theorem zQ5{α β:Type}(f:α->β):∀(l:List α)(i:Nat),(l.map f).eraseIdx i=(l.eraseIdx i).map f
 |[],_=>rfl
 |a::r,0=>rfl
 |a::r,i+1=>by simp[zQ5 f r i]
theorem zXG{z:Str}{l:List Nat}(h:z.cps.toList=l):z=⟨l.toArray⟩:=by
 cases z with
 |mk a=>subst h;simp
theorem add_str{a b:List Nat}(h:a.length+b.length<=1000):addD (.str ⟨a.toArray⟩) (.str ⟨b.toArray⟩)=some (.str ⟨(a++b).toArray⟩):=by
 rw[zX9,if_pos (by rw[zPF,zPF];lia)]
 congr 2;exact zXG (by rw[zV1])
@[simp] theorem x_eNew0(c:Str)(ρ:Rh):zZN c ρ=okR (.ins c []):=rfl
@[simp] theorem x_eNew(c:Str)(fl:List Str)(am:AM)(ρ:Rh):eNew c fl am ρ=zA2 (am ρ) fun ds=>match svsD ds with
 |some vs=>if vs.length=fl.length then okR (.ins c (fl.zip vs))else none
 |none=>none:=rfl
@[simp] theorem x_eFld(hs:List Str)(f:Str)(e:EM)(ρ:Rh):eFld hs f e ρ=zA2 (e ρ) fun d=>match d with
 |.ins c fs=>if c∈hs then(match fs.lookup f with|some v=>okR (dSv v)|none=>none)else none
 |_=>none:=rfl
@[simp] theorem x_eMeth(tb:List (Str×FM))(m:Str)(e:EM)(am:AM)(ρ:Rh):zbP tb m e am ρ=zA2 (e ρ) fun d=>match d with
 |.ins c fs=>match tb.lookup c with
  |some g=>match fs.lookup m with
   |none=>zA2 (am ρ) fun ds=>g (d::ds)
   |some _=>none
  |none=>none
 |_=>none:=rfl
@[simp] theorem x_eIsO(ys ns:List Str)(e:EM)(ρ:Rh):eIsO ys ns e ρ=zA2 (e ρ) fun d=>match d with
 |.ins c _=>if c∈ys then okR (.bl true)else if c∈ns then okR (.bl false)else none
 |_=>none:=rfl
@[simp] theorem v_dins(c:Str)(fs:List (Str×Sv)):(Dt.ins c fs).dep=1000:=rfl
theorem zWR{α:Type}(xs:List α){i j:Nat}(hi:i<=xs.length)(hj:j<=xs.length):cutA xs (some (i:Int)) (some (j:Int))=(xs.drop i).take (j-i):=by
 unfold cutA cutIx;dsimp only;rw[if_neg (by lia),if_neg (by lia)];simp only[qB0];rw[qGy hi,qGy hj]
theorem len1(x:Nat):lenD [sgn x]=some (.int 1):=zSJ (cs:=[x]) (by simp)
def rowsD(R:List (List Nat)):Dt:=.lst (R.map fun l=>rowD (numL l))
end Mp
namespace FW
structure NetL(ns:List Int)(n:Nat):Prop where
 len:ns.length=n
 tie:∀i:Nat,i<n->∃j:Nat,j<n/\j≠i/\ns[i]?=some (j:Int)/\ns[j]?=some (i:Int)
structure Part(left:List Nat)(ns:List Int)(n:Nat):Prop where
 len:ns.length=n
 nd:left.Nodup
 lt:∀i∈left,i<n
 ev:left.length%2=0
 tie:∀i:Nat,i<n->i∉left->∃j:Nat,j<n/\j∉left/\j≠i/\ns[i]?=some (j:Int)/\ns[j]?=some (i:Int)
theorem Part.start(n:Nat)(h:n%2=0):Part (qA7 n) (qA4 n 0) n:=
 ⟨by simp,qBy,fun i hi=>qBh.mp hi,by simpa using h,fun i hi hn=>absurd (qBh.mpr hi) hn⟩
theorem Part.done{ns:List Int}{n:Nat}(h:Part [] ns n):NetL ns n:=⟨h.len,fun i hi=>by
 obtain⟨j,h1,_,h2,h3,h4⟩:=h.tie i hi (by simp);exact⟨j,h1,h2,h3,h4⟩⟩
theorem zG3{l:List Nat}{k:Nat}{x:Nat}:x∈l.eraseIdx k->x∈l:=fun h=>List.mem_of_mem_eraseIdx h
theorem zEK:∀{l:List Nat}{k:Nat}{b:Nat},l.Nodup->l[k]?=some b->b∉l.eraseIdx k
 |[],_,_,_,h=>by simp at h
 |a::r,0,b,nd,h=>by
  simp at h;subst h;simpa using(qAv.mp nd).1
 |a::r,k+1,b,nd,h=>by
  obtain⟨h1,h2⟩:=qAv.mp nd;have h':r[k]?=some b:=by simpa using h
  intro hm;simp only[qD4]at hm;rcases qAf.mp hm with e|hm
  ·subst e;exact h1 (qAw h')
  ·exact zEK h2 h' hm
theorem zF9:∀{l:List Nat}{k:Nat}{b x:Nat},l[k]?=some b->x∈l->x≠b->x∈l.eraseIdx k
 |[],_,_,_,h,_,_=>by simp at h
 |a::r,0,b,x,h,hx,hne=>by
  simp at h;subst h;rcases qAf.mp hx with e|hx
  ·exact absurd e hne
  ·simpa using hx
 |a::r,k+1,b,x,h,hx,hne=>by
  have h':r[k]?=some b:=by simpa using h
  simp only[qD4];rcases qAf.mp hx with e|hx
  ·exact qAf.mpr (.inl e)
  ·exact qAf.mpr (.inr (zF9 h' hx hne))
theorem len_erase{l:List Nat}{k:Nat}(h:k<l.length):(l.eraseIdx k).length+1=l.length:=by
 rw[List.length_eraseIdx_of_lt h];lia
theorem Part.turn{a b k:Nat}{l:List Nat}{ns:List Int}{n:Nat}(h:Part (a::l) ns n)(hb:l[k]?=some b):Part (l.eraseIdx k) ((ns.set a (b:Int)).set b (a:Int)) n:=by
 obtain⟨ha,nd⟩:=qAv.mp h.nd;have hk:k<l.length:=(qA3.mp hb).1;have hbl:b∈l:=qAw hb;have hab:a≠b:=fun e=>ha (e▸hbl)
 have han:a<n:=h.lt a (by simp);have hbn:b<n:=h.lt b (by simp[hbl]);have hl:=h.len;refine⟨by simp[hl],nd.sublist (List.eraseIdx_sublist l k),fun i hi=>h.lt i (qAc _ (zG3 hi)),?_,fun i hi hn=>?_⟩
 ·have e:=h.ev
  have:=len_erase hk;simp at e;lia
 ·have nb:b∉l.eraseIdx k:=zEK nd hb;have na:a∉l.eraseIdx k:=fun z=>ha (zG3 z)
  by_cases e1:i=a
  ·subst e1;refine⟨b,hbn,nb,fun z=>hab z.symm,?_,?_⟩
   ·rw[qAm (fun z=>hab z.symm),qAl (by lia)]
   ·rw[qAl (by simp[hl];lia)]
  ·by_cases e2:i=b
   ·subst e2;refine⟨a,han,na,hab,?_,?_⟩
    ·rw[qAl (by simp[hl];lia)]
    ·rw[qAm (fun z=>hab z.symm),qAl (by lia)]
   ·have hi':i∉a::l:=fun z=>by
     rcases qAf.mp z with z|z
     ·exact e1 z
     ·exact hn (zF9 hb z e2)
    obtain⟨j,hj,hjl,hji,g1,g2⟩:=h.tie i hi hi';have ja:j≠a:=fun z=>hjl (by simp[z])
    have jb:j≠b:=fun z=>hjl (by simp[z,hbl])
    refine⟨j,hj,fun z=>hjl (qAc _ (zG3 z)),hji,?_,?_⟩
    ·rw[qAm (fun z=>e2 z.symm),qAm (fun z=>e1 z.symm)];exact g1
    ·rw[qAm (fun z=>jb z.symm),qAm (fun z=>ja z.symm)];exact g2
end FW
namespace Mp
open Mi PySem
noncomputable def itr(f:Nat->Nat):Nat->Nat->Nat
 |0,x=>x
 |k+1,x=>f (itr f k x)
noncomputable def jn(cs:List Nat)(e:Nat):Nat:=e/4*4+(e%4^^^(cs.getD (e/4) 0+1))
theorem xor4:∀s,s<4->∀w,w<3->(s^^^(w+1))<4/\((s^^^(w+1))^^^(w+1))=s:=by decide
theorem zW5{cs:List Nat}{n e:Nat}(hl:cs.length=n)(hw:∀c∈cs,c<3)(he:e<4*n):jn cs e<4*n/\jn cs (jn cs e)=e:=by
 have hc:cs.getD (e/4) 0<3:=zG9 hw (by lia);obtain⟨h1,h2⟩:=xor4 (e%4) (by lia) _ hc;have hq:jn cs e/4=e/4:=by unfold jn;omega
 have hr:jn cs e%4=(e%4^^^(cs.getD (e/4) 0+1)):=by unfold jn;omega
 refine⟨by unfold jn;lia,?_⟩;show jn cs e/4*4+(jn cs e%4^^^(cs.getD (jn cs e/4) 0+1))=e;rw[hq,hr,h2]
 lia
noncomputable def nt(ts:List Nat)(e:Nat):Nat:=ts.getD e 0
structure NetN(ts:List Nat)(M:Nat):Prop where
 len:ts.length=M
 lt:∀e,e<M->nt ts e<M
 inv:∀e,e<M->nt ts (nt ts e)=e
def stp(ts cs:List Nat)(e:Nat):Nat:=nt ts (jn cs e)
theorem zaR{ns:List Int}{M:Nat}(h:FW.NetL ns M):∃ts:List Nat,numL ts=ns/\NetN ts M:=by
 have key:∀i,i<M->∃j:Nat,j<M/\ns[i]?=some (j:Int)/\ns[j]?=some (i:Int):=fun i hi=>by
  obtain⟨j,h1,_,h2,h3⟩:=h.tie i hi;exact⟨j,h1,h2,h3⟩
 have hnt:∀(i j:Nat),ns[i]?=some (j:Int)->nt (ns.map Int.toNat) i=j:=fun i j h1=>by
  unfold nt;rw[qA0,qA8,h1];rfl
 refine⟨ns.map Int.toNat,?_,⟨by simp[h.len],fun i hi=>?_,fun i hi=>?_⟩⟩
 ·unfold numL;rw[qAn];refine Eq.trans (qAo fun x hx=>?_) (qIj ns);obtain⟨i,hi,e⟩:=List.getElem_of_mem hx;obtain⟨j,_,h2,_⟩:=key i (by rw[<- h.len];exact hi);rw[qA5 hi,e]at h2;simp at h2;rw[h2];rfl
 ·obtain⟨j,h1,h2,_⟩:=key i hi;rw[hnt i j h2];exact h1
 ·obtain⟨j,h1,h2,h3⟩:=key i hi;rw[hnt i j h2,hnt j i h3]
structure Seats(R:List (List Nat))(n:Nat):Prop where
 len:R.length=n
 per:∀l∈R,l.Perm [0,1,2,3]
section
variable{R:List (List Nat)}{row:List Nat}{n:Nat}(hS:Seats R n)(tw:Twice n row)
include hS
include tw
omit hS in
omit hS in
omit hS in
omit hS in
omit hS tw in
omit hS tw in
end
section
variable{ts cs:List Nat}{n e:Nat}(hN:NetN ts (4*n))(hne:∀x,x<4*n->nt ts x≠x)(hl:cs.length=n)(hw:∀c∈cs,c<3)(he:e<4*n)
include hN hne hl hw he
variable{p:Nat}(p3:itr (stp ts cs) p e=e)(p4:∀q,1<=q->q<p->itr (stp ts cs) q e≠e)
include p3 p4
omit hN hne hl hw he p3 p4 in
end
theorem zTP{ns:List Int}{M:Nat}(h:FW.NetL ns M):∃ts:List Nat,numL ts=ns/\NetN ts M/\∀x,x<M->nt ts x≠x:=by
 obtain⟨ts,e,hN⟩:=zaR h;refine⟨ts,e,hN,fun x hx=>?_⟩;obtain⟨j,h1,h2,h3,_⟩:=h.tie x hx;rw[<- e]at h3;unfold numL at h3;rw[qA8]at h3;unfold nt;rw[qA0];cases hq:ts[x]? with
 |none=>rw[hq]at h3;cases h3
 |some y=>
  rw[hq]at h3;simp at h3;simp;lia
def rowW(cs:List Nat):List Nat:=cs.map fun c=>(ords cs).idxOf c
structure Wd(n:Nat)(cs:List Nat):Prop where
 tw:Twice n (rowW cs)
 wr:wrd (ords cs) (rowW cs)=cs
 ap:zbV (ords cs) (rowW cs)
 od:ords (rowW cs)=qA7 n
 ol:(ords cs).length=n
 len:cs.length=2*n
noncomputable def zN(n:Nat):List Int:=qA4 (4*n) 0
def tsW(n:Nat)(row:List Nat):List Nat:=(qA7 (4*n)).map fun e=>((puts (lawS row row.length) (zN n)).getD e 0).toNat
section
variable{n:Nat}{row:List Nat}(t:Twice n row)
include t
end
noncomputable def cbW(c ls O:List Nat):List Nat:=O.map fun x=>c.getD (ls.idxOf x) 0
theorem jn4(c:List Nat){p s:Nat}(hs:s<4):jn c (4*p+s)=4*p+(s^^^(c.getD p 0+1)):=by
 unfold jn;rw[show(4*p+s)/4=p by lia,show(4*p+s)%4=s by lia]
 lia
theorem ml1{f:List Dt->List Dt->Option Dt}{a e:EM}{ρ:Rh}{ds:List Dt}{y d:Dt}(h1:a ρ=okR (.lst ds))(h2:e ρ=okR y)(h:f ds [y]=some d):eMl f a (aCons e aNil) ρ=okR d:=by
 unfold eMl;rw[h1,zA0];dsimp only;rw[zB8,h2,zA0,zC8,zA0,zA0,h];rfl
section
variable{ts C':List Nat}{n:Nat}(hN:NetN ts (4*n))(hne:∀x,x<4*n->nt ts x≠x)(hl:C'.length=n)(hw:∀c∈C',c<3)(hn:n<=10)(n1:1<=n)
include hN hne hl hw hn n1
end
theorem zGF{ρ:Rh}{e:EM}{i j:Nat}(xs:List Dt)(g:Nat->Dt)(hi:i=ρ.length)(hj:j=ρ.length+1)(it:IM)(hit:it ρ=okR (enumD 0 xs))(hn:xs.length<=100000)(h:∀k x,xs[k]?=some x->e (ρ++[some (.int (k:Nat)),some x])=okR (g k)):eComp it 2 (.tup [i,j]) tYes e ρ=okR (.lst ((qA7 xs.length).map g)):=by
 subst hi hj;unfold eComp;rw[hit,zA0,if_pos ⟨by rw[zI6];exact hn,by simp[Tg.idx]⟩];have go:∀(m k:Nat)(acc:List Dt),k+m=xs.length->compGo ρ 2 (.tup [ρ.length,ρ.length+1]) tYes e (enumD k (xs.drop k)) acc=okR (acc++(qBk k m).map g):=by
  intro m;induction m with
  |zero=>
   intro k acc hk;rw[qD8 (by lia)];simp[enumD,compGo]
  |succ m ih=>
   intro k acc hk;have hx:xs[k]?=some xs[k]:=qA5 (by lia);rw[qCx (by lia),enumD,compGo];have es:zAN (ρ++qA4 2 none) [(ρ.length,.int (k:Nat)),(ρ.length+1,xs[k])]=ρ++[some (.int (k:Nat)),some xs[k]]:=by
    simp[zAN]
   show zA2 (tYes (zAN (ρ++qA4 2 none) [(ρ.length,.int (k:Nat)),(ρ.length+1,xs[k])])) _=_;rw[es];show zA2 (okR true) _=_;rw[zA0,if_pos rfl];show zA2 (e (zAN (ρ++qA4 2 none) [(ρ.length,.int (k:Nat)),(ρ.length+1,xs[k])])) _=_;rw[es,h k _ hx,zA0,ih (k+1) _ (by lia),qEs];simp
 have:=go xs.length 0 [] (by lia)
 rw[qCv]at this;rw[this,zA0,qCu];simp
theorem zB0{n:Nat}{f g:Nat->Int}(h:∀k,k<n->f k=g k):sumN n f=sumN n g:=by
 unfold sumN;congr 1;exact qAo fun k hk=>h k (by simpa using hk)
noncomputable def allv:Nat->List (List Int)
 |0=>[[]]
 |n+1=>(allv n).map (qEi 0)++(allv n).map (qEi 1)
theorem zN0:∀n,(allv n).length=2 ^ n
 |0=>rfl
 |n+1=>by simp[allv,zN0 n];lia
theorem zCH{α β:Type}{l:List α}{f:α->β}(h:l.Nodup)(hi:∀x∈l,∀y∈l,f x=f y->x=y):(l.map f).Nodup:=by
 unfold qIr;rw[qDc];exact qHx (fun{a b} ha hb hab z=>hab (hi a ha b hb z)) h
theorem zF6:∀n,(allv n).Nodup
 |0=>by simp[allv]
 |n+1=>by
  have ih:=zF6 n;rw[allv,qC1];refine⟨zCH ih fun x _ y _ h=>by simpa using h,zCH ih fun x _ y _ h=>by simpa using h,fun a ha b hb=>?_⟩;obtain⟨x,_,rfl⟩:=qAb.mp ha;obtain⟨y,_,rfl⟩:=qAb.mp hb;simp
theorem allv_mem:∀{n:Nat}{x:List Int},x∈allv n↔RowN n x
 |0,x=>by
  simp only[allv,qAt];constructor
  ·rintro rfl;exact⟨rfl,fun y hy=>by simp at hy⟩
  ·rintro⟨h,_⟩;exact qCk h
 |n+1,x=>by
  rw[allv,qAz];constructor
  ·rintro(h|h)
   all_goals
    obtain⟨y,hy,rfl⟩:=qAb.mp h;have:=allv_mem.mp hy;refine⟨by simp[this.1],fun z hz=>?_⟩
    rcases qAf.mp hz with rfl|hz
    ·simp[Bit]
    ·exact this.2 z hz
  ·rintro⟨h1,h2⟩
   cases x with
   |nil=>simp at h1
   |cons a r=>
    have hr:r∈allv n:=allv_mem.mpr ⟨by simpa using h1,fun z hz=>h2 z (by simp[hz])⟩
    rcases h2 a (by simp)with rfl|rfl
    ·exact .inl (qAb.mpr ⟨r,hr,rfl⟩)
    ·exact .inr (qAb.mpr ⟨r,hr,rfl⟩)
theorem zG1{α:Type}[DecidableEq α]:∀(l1 l2:List α),l1.Nodup->(∀x∈l1,x∈l2)->l1.length<=l2.length
 |[],_,_,_=>by simp
 |a::r,l2,h,hs=>by
  have ha:=hs a (by simp);rw[qAv]at h
  have:=zG1 r (l2.erase a) h.2 fun x hx=>(List.mem_erase_of_ne (fun z:x=a=>h.1 (by rw[<- z];exact hx))).mpr (hs x (by simp[hx]))
  rw[List.length_erase_of_mem ha]at this;have:=List.length_pos_of_mem ha;simp;lia
noncomputable def cnt(n:Nat)(P:List Int->Prop):Nat:=by
 classical exact((allv n).filter fun x=>decide (P x)).length
theorem zWT(n:Nat):cnt n (fun _=>True)=2 ^ n:=by
 unfold cnt;rw[List.filter_eq_self.mpr (by simp),zN0]
theorem zBL{n:Nat}{P Q:List Int->Prop}(h:∀x,RowN n x->(P x↔Q x)):cnt n P=cnt n Q:=by
 unfold cnt;congr 1;refine List.filter_congr fun x hx=>?_
 have:=h x (allv_mem.mp hx);simp[this]
theorem zUL{n:Nat}{P Q:List Int->Prop}(f:List Int->List Int)(hf:∀x,RowN n x->P x->RowN n (f x)/\Q (f x))(hi:∀x y,RowN n x->RowN n y->f x=f y->x=y):cnt n P<=cnt n Q:=by
 classical
 unfold cnt;have h1:(((allv n).filter fun x=>decide (P x)).map f).Nodup:=zCH ((zF6 n).filter _) fun x hx y hy=>hi x y (allv_mem.mp (qBi.mp hx).1) (allv_mem.mp (qBi.mp hy).1)
 have h2:=zG1 _ ((allv n).filter fun x=>decide (Q x)) h1 fun z hz=>by
  obtain⟨x,hx,rfl⟩:=qAb.mp hz;obtain⟨g1,g2⟩:=qBi.mp hx;obtain⟨k1,k2⟩:=hf x (allv_mem.mp g1) (by simpa using g2);exact qBi.mpr ⟨allv_mem.mpr k1,by simpa using k2⟩
 rw[qAi]at h2;exact h2
theorem zJU{n:Nat}(P E:List Int->Prop):cnt n P=cnt n (fun x=>P x/\E x)+cnt n (fun x=>P x/\¬E x):=by
 classical
 unfold cnt;generalize allv n=l;induction l with
 |nil=>simp
 |cons a r ih=>
  simp only[qEq];by_cases h1:P a
  ·by_cases h2:E a
   ·simp[h1,h2,ih];lia
   ·simp[h1,h2,ih];lia
  ·simp[h1,ih]
noncomputable def flp(p:Nat)(x:List Int):List Int:=x.set p (1-x.getD p 0)
theorem zQ1{n p:Nat}{x:List Int}(h:RowN n x):RowN n (flp p x):=zVA h (by rcases zON (k:=p) h with z|z<;>rw[z]<;>simp[Bit])
theorem zI5{n p:Nat}{x:List Int}(h:RowN n x)(hp:p<n)(k:Nat):(flp p x).getD k 0=if p=k then 1-x.getD p 0 else x.getD k 0:=zSY (by rw[h.1];exact hp)
theorem zKK{n:Nat}{x y:List Int}(hx:x.length=n)(hy:y.length=n)(h:∀k,k<n->x.getD k 0=y.getD k 0):x=y:=by
 rw[zJ1 hx,zJ1 hy];exact qAo fun k hk=>h k (by simpa using hk)
theorem zQ2{n p:Nat}(hp:p<n){x y:List Int}(hx:RowN n x)(hy:RowN n y)(h:flp p x=flp p y):x=y:=by
 refine zKK hx.1 hy.1 fun k hk=>?_
 have e:(flp p x).getD k 0=(flp p y).getD k 0:=by rw[h]
 rw[zI5 hx hp,zI5 hy hp]at e;by_cases z:p=k
 ·subst z;rw[if_pos rfl,if_pos rfl]at e;lia
 ·rw[if_neg z,if_neg z]at e;exact e
theorem zTI{n p:Nat}(hp:p<n)(P E:List Int->Prop)(h1:∀x,RowN n x->P x->P (flp p x))(h2:∀x,RowN n x->(E (flp p x)↔¬E x)):cnt n P=2*cnt n (fun x=>P x/\E x):=by
 have a:=zJU (n:=n) P E;have b:cnt n (fun x=>P x/\E x)<=cnt n (fun x=>P x/\¬E x):=zUL (flp p) (fun x hx h=>⟨zQ1 hx,h1 x hx h.1,fun z=>(h2 x hx).mp z h.2⟩) fun x y hx hy=>zQ2 hp hx hy
 have c:cnt n (fun x=>P x/\¬E x)<=cnt n (fun x=>P x/\E x):=zUL (flp p) (fun x hx h=>⟨zQ1 hx,h1 x hx h.1,(h2 x hx).mpr h.2⟩) fun x y hx hy=>zQ2 hp hx hy
 lia
def Ev(n:Nat)(g:Nat->Int)(x:List Int):Prop:=sumN n (fun k=>g k*x.getD k 0)%2=0
def KerF(n:Nat)(f:Nat->Nat->Int)(x:List Int):Prop:=∀a,a<n->Ev n (f a) x
section
variable{n i j:Nat}{f:Nat->Nat->Int}(hb:Bits n f)(hi:i<n)(hj:j<n)(hij:i≠j)
include hi in
include hi hij in
include hb hi hj hij in
include hb hi hj hij in
end
noncomputable def fst1:List Int->Nat
 |[]=>0
 |a::r=>if a=1 then 0 else fst1 r+1
section
variable{n:Nat}
def Lds(ls:List (List Int)):Prop:=ls.Pairwise fun l s=>s.getD (fst1 l) 0=0
end
theorem zMT{n:Nat}:∀{ks:List Nat},ks.Nodup->(∀k∈ks,k<n)->cnt n (fun x=>∀k∈ks,x.getD k 0=0)*2 ^ ks.length=2 ^ n
 |[],_,_=>by
  rw[zBL (Q:=fun _=>True) fun x _=>⟨fun _=>trivial,fun _ r hr=>by simp at hr⟩,zWT];simp
 |a::r,hd,hk=>by
  rw[qAv]at hd;have ha:=hk a (by simp);have ih:=zMT (n:=n) (ks:=r) hd.2 fun k hk'=>hk k (by simp[hk'])
  have hh:=zTI ha (fun x=>∀k∈r,x.getD k 0=0) (fun x=>x.getD a 0=0) (fun x hx h k hk'=>by
   rw[zI5 hx ha,if_neg fun z=>hd.1 (by rw[z];exact hk')];exact h k hk') fun x hx=>by
   rw[zI5 hx ha,if_pos rfl];rcases zON (k:=a) hx with w|w<;>rw[w]<;>simp
  have hc:cnt n (fun x=>∀k∈a::r,x.getD k 0=0)=cnt n (fun x=>(∀k∈r,x.getD k 0=0)/\x.getD a 0=0):=zBL fun x _=>⟨fun h=>⟨fun s hs=>h s (by simp[hs]),h a (by simp)⟩,fun h s hs=>(qAf.mp hs).elim (fun z=>by rw[z];exact h.2) (h.1 s)⟩
  rw[hc,qAr,qF4,<- ih,hh];rw[qG9 (2 ^ r.length) 2,<- qFv,qG9 _ 2]
theorem zHI(n:Nat)(f g:Nat->Int):sumN n (fun k=>f k+g k)=sumN n f+sumN n g:=by
 induction n with
 |zero=>rfl
 |succ n ih=>rw[zB3,zB3,zB3,ih];lia
theorem zHH(n:Nat)(c:Int)(f:Nat->Int):sumN n (fun k=>c*f k)=c*sumN n f:=by
 induction n with
 |zero=>simp[sumN]
 |succ n ih=>rw[zB3,zB3,ih,Int.mul_add]
theorem zIU(n m:Nat)(G:Nat->Nat->Int):sumN n (fun i=>sumN m fun b=>G b i)=sumN m fun b=>sumN n fun i=>G b i:=by
 induction n with
 |zero=>rw[zC2 fun k hk=>by lia,zC2 fun b _=>zC2 fun k hk=>by lia]
 |succ n ih=>
  rw[zB3,ih,<- zHI];exact zB0 fun b _=>(zB3 n fun i=>G b i).symm
section
variable{n p q:Nat}{T A:List (List Int)}{ps:List (List Int×Nat)}
end
noncomputable def ext1(ws:List Int)(c:List Int):List (List Int):=ws.map fun w=>c++[w]
def lng(ws:List Int)(A:List (List Int)):List (List Int):=(A.map (ext1 ws)).flatten
def chW(ws:List Int):Nat->List (List Int)
 |0=>[[]]
 |n+1=>lng ws (chW ws n)
noncomputable def dg(v:Nat->Int)(q:Nat)(ks:List Nat)(g:Nat->Nat->Int):Nat->Nat->Int:=fun a b=>if a=b/\a<q then v (ks.getD a 0)else g a b
noncomputable def kept(n:Nat)(c:List Int):List Nat:=(qA7 n).filter fun k=>decide (c.getD k 0≠0)
def cpF(n:Nat)(c:List Int)(f:Nat->Nat->Int):Nat->Nat->Int:=dg (fun k=>if c.getD k 0=1 then 1 else 0) (kept n c).length (kept n c) (sub (kept n c) f)
theorem zE7{n m:Nat}{P Q:List Int->Prop}(f:List Int->List Int)(hf:∀x,RowN n x->P x->RowN m (f x)/\Q (f x))(hi:∀x y,RowN n x->P x->RowN n y->P y->f x=f y->x=y):cnt n P<=cnt m Q:=by
 classical
 unfold cnt;have h1:(((allv n).filter fun x=>decide (P x)).map f).Nodup:=zCH ((zF6 n).filter _) fun x hx y hy=>by
  obtain⟨a1,a2⟩:=qBi.mp hx;obtain⟨b1,b2⟩:=qBi.mp hy;exact hi x y (allv_mem.mp a1) (by simpa using a2) (allv_mem.mp b1) (by simpa using b2)
 have h2:=zG1 _ ((allv m).filter fun x=>decide (Q x)) h1 fun z hz=>by
  obtain⟨x,hx,rfl⟩:=qAb.mp hz;obtain⟨g1,g2⟩:=qBi.mp hx;obtain⟨k1,k2⟩:=hf x (allv_mem.mp g1) (by simpa using g2);exact qBi.mpr ⟨allv_mem.mpr k1,by simpa using k2⟩
 rw[qAi]at h2;exact h2
theorem zTG{m:Nat}{P:List Int->Prop}:cnt (m+1) (fun z=>P z.tail)=2*cnt m P:=by
 classical
 unfold cnt;rw[allv,List.filter_append,qB2,qGz,qGz,qAi,qAi];have e:∀b:Int,((fun z:List Int=>decide (P z.tail))∘qEi b)=fun x=>decide (P x):=fun b=>rfl
 rw[e,e];lia
structure Cst(ts C:List Nat)(n:Nat)(F:Nat->Int):Prop where
 hb:∀e,Bit (F e)
 hn:∀e,e<4*n->F (nt ts e)=F e
 hj:∀e,e<4*n->F (jn C e)=F e
theorem zZ3{C:List Nat}{p n:Nat}{F:Nat->Int}(hp:p<n)(hw:C.getD p 0<3):(∀e,e<4*n->e/4=p->F (jn C e)=F e)↔(C.getD p 0=0->F (4*p)=F (4*p+1)/\F (4*p+2)=F (4*p+3))/\(C.getD p 0=1->F (4*p)=F (4*p+2)/\F (4*p+1)=F (4*p+3))/\(C.getD p 0=2->F (4*p)=F (4*p+3)/\F (4*p+1)=F (4*p+2)):=by
 have hs:∀s,s<4->jn C (4*p+s)=4*p+(s^^^(C.getD p 0+1)):=fun s h=>jn4 C h
 generalize C.getD p 0=w at hw hs;constructor
 ·intro h;have g:∀s,s<4->F (4*p+(s^^^(w+1)))=F (4*p+s):=fun s hs4=>by rw[<- hs s hs4];exact h _ (by lia) (by lia)
  have hw':w=0\/w=1\/w=2:=by lia
  rcases hw' with rfl|rfl|rfl
  ·exact⟨fun _=>⟨(g 0 (by lia)).symm,(g 2 (by lia)).symm⟩,fun z=>by lia,fun z=>by lia⟩
  ·exact⟨fun z=>by lia,fun _=>⟨(g 0 (by lia)).symm,(g 1 (by lia)).symm⟩,fun z=>by lia⟩
  ·exact⟨fun z=>by lia,fun z=>by lia,fun _=>⟨(g 0 (by lia)).symm,(g 1 (by lia)).symm⟩⟩
 ·intro h e he hep;have hw':w=0\/w=1\/w=2:=by lia
  have hs4:e%4=0\/e%4=1\/e%4=2\/e%4=3:=by lia
  have ee:e=4*p+e%4:=by lia
  rw[ee,hs _ (by lia)]
  rcases hw' with rfl|rfl|rfl
  ·obtain⟨a,b⟩:=h.1 rfl
   rcases hs4 with z|z|z|z<;>rw[z]
   ·exact a.symm
   ·exact a
   ·exact b.symm
   ·exact b
  ·obtain⟨a,b⟩:=h.2.1 rfl
   rcases hs4 with z|z|z|z<;>rw[z]
   ·exact a.symm
   ·exact b.symm
   ·exact a
   ·exact b
  ·obtain⟨a,b⟩:=h.2.2 rfl
   rcases hs4 with z|z|z|z<;>rw[z]
   ·exact a.symm
   ·exact b.symm
   ·exact b
   ·exact a
section
variable{n:Nat}{cs:List Nat}(w:Wd n cs)(h2:∀x∈cs,cs.count x=2)
include w h2
end
section
variable{n:Nat}{cs c:List Nat}(w:Wd n cs)(h2:∀x∈cs,cs.count x=2)(n1:1<=n)(hc:c.length=n)(hw:∀x∈c,x<3)(hsl:(sosL cs).length=n)
include w h2 n1 hc hw hsl
end
section
variable{n:Nat}{cs c:List Nat}{F:Nat->Int}(w:Wd n cs)(h2:∀x∈cs,cs.count x=2)(n1:1<=n)(hc:c.length=n)(hw:∀x∈c,x<3)(hsl:(sosL cs).length=n)(hF:Cst (tsW n (rowW cs)) (cbW c (sosL cs) (ords cs)) n F)
include w h2 n1 hc hw hsl hF
end
section
variable{ts C:List Nat}{n:Nat}(hN:NetN ts (4*n))(hl:C.length=n)(hw:∀c∈C,c<3)
include hN hl hw
end
noncomputable def rI(R:List (List Nat))(e:Nat):Nat:=(R.map fun l=>decide (e∈l)).idxOf true
section
variable{n:Nat}{cs c:List Nat}(w:Wd n cs)
include w
end
section
variable{n:Nat}{cs c:List Nat}{F:Nat->Int}(w:Wd n cs)(h2:∀x∈cs,cs.count x=2)(n1:1<=n)(hc:c.length=n)(hw:∀x∈c,x<3)(hsl:(sosL cs).length=n)(hF:Cst (tsW n (rowW cs)) (cbW c (sosL cs) (ords cs)) n F)
include w h2 n1 hc hw hsl hF
end
section
variable{n:Nat}{cs c:List Nat}(w:Wd n cs)(h2:∀x∈cs,cs.count x=2)(n1:1<=n)(hc:c.length=n)(hw:∀x∈c,x<3)(hsl:(sosL cs).length=n)
include w h2 n1 hc hw hsl
end
theorem zFG{m:Nat}{x y:List Int}(hx:RowN m x)(hy:RowN m y)(h:∀r,r<m->x.getD r 0=y.getD r 0):x=y:=by
 have h1:=hx.1;have h2:=hy.1;refine qAx (by lia) fun i g1 g2=>?_
 have:=h i (by lia)
 rw[qA0,qA5 g1,qA0,qA5 g2]at this;exact this
theorem zDH{m:Nat}{x:List Int}(hx:RowN m x)(r:Nat):Bit (x.getD r 0):=by
 rw[qA0];cases h:x[r]? with
 |none=>exact .inl rfl
 |some y=>exact hx.2 y (qAw h)
structure Hds(ts C:List Nat)(n:Nat)(R:List (List Nat))(hd:Nat->Nat):Prop where
 lt:∀r,r<R.length->hd r<4*n
 mem:∀r,r<R.length->hd r∈R.getD r []
 fst:∀r,r<R.length->∀i,i<r->hd r∉R.getD i []
 same:∀r,r<R.length->∀e,e∈R.getD r []->∀F,Cst ts C n F->F e=F (hd r)
 cls:∀r,r<R.length->∀e,e∈R.getD r []->nt ts e∈R.getD r []/\jn C e∈R.getD r []
 cov:∀e,e<4*n->∃r,r<R.length/\e∈R.getD r []
section
variable{ts C:List Nat}{n:Nat}(hN:NetN ts (4*n))(hl:C.length=n)(hw:∀c∈C,c<3)
include hN hl hw
variable{R:List (List Nat)}{hd:Nat->Nat}(H:Hds ts C n R hd)
include H
end
theorem zZH{α:Type}{x:List α}{a e:Nat}{u d:α}(ha:a<x.length):(x.set a u).getD e d=if e=a then u else x.getD e d:=by
 rw[qA0,qA0,qG6];by_cases h:a=e
 ·subst h;simp[ha]
 ·have:¬e=a:=fun z=>h z.symm
  simp[h,this]
theorem zSV{α:Type}{x:List α}{a b e:Nat}{u v d:α}(ha:a<x.length)(hb:b<x.length):((x.set a u).set b v).getD e d=if e=b then v else if e=a then u else x.getD e d:=by
 rw[zZH (by simpa using hb),zZH ha]
theorem zCJ{n:Nat}{x:List Int}{a:Nat}{u:Int}(hx:RowN n x)(hu:Bit u):RowN n (x.set a u):=
 ⟨by simp[hx.1],fun y hy=>(qEb hy).elim (hx.2 y) fun z=>z▸hu⟩
abbrev Ty:=List (Option Nat)
noncomputable def jE(t:Ty)(a b:Nat):Ty×Nat:=if(t.getD a none).getD 0=b then((t.set a none).set b none,1)else((((t.set a none).set b none).set ((t.getD a none).getD 0) (some ((t.getD b none).getD 0))).set ((t.getD b none).getD 0) (some ((t.getD a none).getD 0)),0)
structure Mt(M:Nat)(t:Ty):Prop where
 len:t.length=M
 inv:∀e f,t.getD e none=some f->f<M/\f≠e/\t.getD f none=some e
theorem Mt.lt{M:Nat}{t:Ty}(h:Mt M t){e f:Nat}(he:t.getD e none=some f):e<M:=((h.inv f e (h.inv e f he).2.2)).1
def InvT(M:Nat)(t:Ty)(x:List Int):Prop:=∀e,e<M->(t.getD e none=none->x.getD e 0=0)/\∀f,t.getD e none=some f->x.getD f 0=x.getD e 0
def InJ(Js:List (Nat×Nat))(x:List Int):Prop:=∀p∈Js,x.getD p.1 0=x.getD p.2 0
section
variable{M:Nat}{t:Ty}{a b far near:Nat}(h:Mt M t)(ha:t.getD a none=some far)(hb:t.getD b none=some near)(hab:a≠b)
include h ha hb hab
theorem zL0:(far=b->(jE t a b).2=1/\∀e,(jE t a b).1.getD e none=if e=b then none else if e=a then none else t.getD e none) /\
  (far≠b->(jE t a b).2=0/\∀e,(jE t a b).1.getD e none=if e=near then some far else if e=far then some near else if e=b then none else if e=a then none else t.getD e none):=by
 have la:=h.lt ha;have lb:=h.lt hb;have lf:=(h.inv a far ha).1;have ln:=(h.inv b near hb).1;have hl:=h.len;refine⟨fun z=>?_,fun z=>?_⟩
 ·have e1:jE t a b=((t.set a none).set b none,1):=by unfold jE;rw[ha];exact if_pos z
  rw[e1];exact⟨rfl,fun e=>zSV (by lia) (by lia)⟩
 ·have e1:jE t a b=((((t.set a none).set b none).set far (some near)).set near (some far),0):=by unfold jE;rw[ha,hb];exact if_neg z
  rw[e1];refine⟨rfl,fun e=>?_⟩;dsimp only;rw[zSV (by simp;lia) (by simp;lia),zSV (by lia) (by lia)]
theorem zZ6:(jE t a b).1.length=M:=by
 unfold jE;split<;>simp[h.len]
theorem zQ4:far≠a/\near≠b/\(far≠b->near≠a/\far≠near)/\(far=b->near=a):=by
 obtain⟨_,f1,f2⟩:=h.inv a far ha;obtain⟨_,n1,n2⟩:=h.inv b near hb;refine⟨f1,n1,fun z=>⟨fun y=>?_,fun y=>?_⟩,fun z=>?_⟩
 ·subst y;rw[ha]at n2;cases n2;exact z rfl
 ·subst y;rw[f2]at n2;cases n2;exact hab rfl
 ·subst z;rw[hb]at f2;cases f2;rfl
theorem zW8:Mt M (jE t a b).1:=by
 refine⟨zZ6 h ha hb hab,fun e f he=>?_⟩;obtain⟨f1,n1,f2,f3⟩:=zQ4 h ha hb hab;have lf:=(h.inv a far ha).1;have ln:=(h.inv b near hb).1
 by_cases z:far=b
 ·obtain⟨_,g⟩:=(zL0 h ha hb hab).1 z;rw[g]at he ⊢;have hna:=f3 z
  by_cases e1:e=b
  ·rw[if_pos e1]at he;cases he
  ·rw[if_neg e1]at he
   by_cases e2:e=a
   ·rw[if_pos e2]at he;cases he
   ·rw[if_neg e2]at he;obtain⟨q1,q2,q3⟩:=h.inv e f he;refine⟨q1,q2,?_⟩;rw[if_neg (fun y=>?_),if_neg (fun y=>?_)]
    ·exact q3
    ·subst y;rw[ha]at q3;cases q3;exact e1 z
    ·subst y;rw[hb]at q3;cases q3;exact e2 hna
 ·obtain⟨_,g⟩:=(zL0 h ha hb hab).2 z;obtain⟨f4,f5⟩:=f2 z;rw[g]at he ⊢
  by_cases e1:e=near
  ·rw[if_pos e1]at he;cases he;subst e1;exact⟨lf,f5,by rw[if_neg f5,if_pos rfl]⟩
  ·rw[if_neg e1]at he
   by_cases e2:e=far
   ·rw[if_pos e2]at he;cases he;subst e2;exact⟨ln,fun y=>e1 y.symm,by rw[if_pos rfl]⟩
   ·rw[if_neg e2]at he
    by_cases e3:e=b
    ·rw[if_pos e3]at he;cases he
    ·rw[if_neg e3]at he
     by_cases e4:e=a
     ·rw[if_pos e4]at he;cases he
     ·rw[if_neg e4]at he;obtain⟨q1,q2,q3⟩:=h.inv e f he;refine⟨q1,q2,?_⟩;have r1:f≠near:=fun y=>by
       subst y;have:=(h.inv b f hb).2.2;rw[this]at q3;cases q3;exact e3 rfl
      have r2:f≠far:=fun y=>by
       subst y;have:=(h.inv a f ha).2.2;rw[this]at q3;cases q3;exact e4 rfl
      have r3:f≠b:=fun y=>by subst y;rw[hb]at q3;cases q3;exact e1 rfl
      have r4:f≠a:=fun y=>by subst y;rw[ha]at q3;cases q3;exact e2 rfl
      rw[if_neg r1,if_neg r2,if_neg r3,if_neg r4];exact q3
theorem zKZ(e:Nat):(jE t a b).1.getD e none=none↔e=a\/e=b\/t.getD e none=none:=by
 obtain⟨f1,n1,f2,f3⟩:=zQ4 h ha hb hab;have hf:=(h.inv a far ha).2.2;have hn:=(h.inv b near hb).2.2;by_cases z:far=b
 ·obtain⟨_,g⟩:=(zL0 h ha hb hab).1 z;rw[g]
  by_cases e1:e=b
  ·simp[-qA0,e1]
  ·by_cases e2:e=a
   ·simp[-qA0,e2]
   ·simp[-qA0,e1,e2]
 ·obtain⟨_,g⟩:=(zL0 h ha hb hab).2 z;obtain⟨f4,f5⟩:=f2 z;rw[g]
  by_cases e1:e=near
  ·subst e1;simp[-qA0,hn,f4,n1]
  ·by_cases e2:e=far
   ·subst e2;simp[-qA0,e1,hf,f1,z]
   ·by_cases e3:e=b
    ·simp[-qA0,e1,e2,e3];rw[if_neg (fun y=>n1 y.symm),if_neg (fun y=>z y.symm)]
    ·by_cases e4:e=a
     ·simp[-qA0,e4];rw[if_neg (fun y=>f4 y.symm),if_neg (fun y=>f1 y.symm)]
     ·simp[-qA0,e1,e2,e3,e4]
theorem zU9{Js:List (Nat×Nat)}(hJ:∀p∈Js,(p.1≠a/\p.1≠b)/\p.2≠a/\p.2≠b) :
  cnt M (fun x=>InvT M t x/\InJ ((a,b)::Js) x)=2 ^ (jE t a b).2*cnt M (fun x=>InvT M (jE t a b).1 x/\InJ Js x):=by
 obtain⟨f1,n1,f2,f3⟩:=zQ4 h ha hb hab;have la:=h.lt ha;have lb:=h.lt hb;have lf:=(h.inv a far ha).1;have ln:=(h.inv b near hb).1;have hf:=(h.inv a far ha).2.2;have hn:=(h.inv b near hb).2.2;have gx:∀{x:List Int}{u v:Int}{e:Nat},x.length=M->((x.set a u).set b v).getD e 0=if e=b then v else if e=a then u else x.getD e 0:=fun hx=>zSV (by lia) (by lia)
 have jx:∀{x:List Int}{u v:Int},x.length=M->(InJ Js ((x.set a u).set b v)↔InJ Js x):=fun{x u v} hx=>by
  unfold InJ;refine⟨fun q p hp=>?_,fun q p hp=>?_⟩
  ·obtain⟨⟨h1,h2⟩,h3,h4⟩:=hJ p hp
   have:=q p hp;rw[gx hx,gx hx,if_neg h2,if_neg h1,if_neg h4,if_neg h3]at this;exact this
  ·obtain⟨⟨h1,h2⟩,h3,h4⟩:=hJ p hp;rw[gx hx,gx hx,if_neg h2,if_neg h1,if_neg h4,if_neg h3];exact q p hp
 have oth:∀{e f:Nat},e≠far->e≠near->t.getD e none=some f->f≠a/\f≠b:=fun{e f} h1 h2 he=>by
  have q:=(h.inv e f he).2.2;exact⟨fun z=>by subst z;rw[ha]at q;cases q;exact h1 rfl,fun z=>by subst z;rw[hb]at q;cases q;exact h2 rfl⟩
 by_cases z:far=b
 ·have hna:=f3 z;obtain⟨c1,g⟩:=(zL0 h ha hb hab).1 z;rw[c1,Nat.pow_one,<- zTG];have inv':∀{x:List Int}{u:Int},x.length=M->InvT M (jE t a b).1 x->InvT M t ((x.set a u).set b u):=fun{x u} hx q e he=>by
   refine⟨fun z1=>?_,fun f z1=>?_⟩
   ·have e1:e≠b:=fun y=>by subst y;rw[hb]at z1;cases z1
    have e2:e≠a:=fun y=>by subst y;rw[ha]at z1;cases z1
    rw[gx hx,if_neg e1,if_neg e2];exact(q e he).1 (by rw[g,if_neg e1,if_neg e2];exact z1)
   ·rw[gx hx,gx hx]
    by_cases e1:e=b
    ·subst e1;rw[hb]at z1;cases z1;rw[hna,if_neg hab,if_pos rfl,if_pos rfl]
    ·by_cases e2:e=a
     ·subst e2;rw[ha]at z1;cases z1;rw[if_pos z,if_neg e1,if_pos rfl]
     ·obtain⟨r1,r2⟩:=oth (e:=e) (by rw[z];exact e1) (by rw[hna];exact e2) z1;rw[if_neg e1,if_neg e2,if_neg r2,if_neg r1];exact(q e he).2 f (by rw[g,if_neg e1,if_neg e2];exact z1)
  refine qD5 (zE7 (fun x=>x.getD a 0::(x.set a 0).set b 0) (fun x hx ⟨p1,p2⟩=>⟨?_,?_,?_⟩) fun x y hx ⟨p1,p2⟩ hy ⟨r1,r2⟩ e=>?_) (zE7 (fun w=>(w.tail.set a (w.getD 0 0)).set b (w.getD 0 0)) (fun w hw ⟨p1,p2⟩=>?_) fun w v hw ⟨p1,p2⟩ hv ⟨r1,r2⟩ e=>?_)
  ·refine⟨by simp[hx.1],fun y hy=>?_⟩
   rcases qAf.mp hy with rfl|hy
   ·exact zDH hx a
   ·exact(zCJ (zCJ hx (.inl rfl)) (.inl rfl)).2 y hy
  ·intro e he
   show(_->((x.set a 0).set b 0).getD e 0=0)/\∀f,_->((x.set a 0).set b 0).getD f 0=((x.set a 0).set b 0).getD e 0
   rw[g,gx hx.1];by_cases e1:e=b
   ·simp[e1]
   ·by_cases e2:e=a
    ·simp[e2]
    ·rw[if_neg e1,if_neg e2,if_neg e1,if_neg e2];refine⟨(p1 e he).1,fun f z1=>?_⟩;obtain⟨r1,r2⟩:=oth (e:=e) (by rw[z];exact e1) (by rw[hna];exact e2) z1;rw[gx hx.1,if_neg r2,if_neg r1];exact(p1 e he).2 f z1
  ·exact(jx hx.1).mpr fun p hp=>p2 p (qAc _ hp)
  ·injection e with e1 e2
   have xab:=p2 _ (qAj ..);have yab:=r2 _ (qAj ..);refine zFG hx hy fun r hr=>?_
   have e3:((x.set a 0).set b 0).getD r 0=((y.set a 0).set b 0).getD r 0:=by rw[e2]
   rw[gx hx.1,gx hy.1]at e3;by_cases q1:r=b
   ·subst q1;exact xab.symm.trans (e1.trans yab)
   ·by_cases q2:r=a
    ·subst q2;exact e1
    ·rw[if_neg q1,if_neg q2,if_neg q1,if_neg q2]at e3;exact e3
  ·have hw':RowN M w.tail:=⟨by simp[hw.1],fun y hy=>hw.2 y (qDt hy)⟩
   refine⟨zCJ (zCJ hw' (zDH hw 0)) (zDH hw 0),inv' hw'.1 p1,fun p hp=>?_⟩
   rcases qAf.mp hp with rfl|hp
   ·show((w.tail.set a _).set b _).getD a 0=((w.tail.set a _).set b _).getD b 0
    rw[gx hw'.1,gx hw'.1,if_neg hab,if_pos rfl,if_pos rfl]
   ·exact(jx hw'.1).mpr p2 p hp
  ·have hw':RowN M w.tail:=⟨by simp[hw.1],fun y hy=>hw.2 y (qDt hy)⟩
   have hv':RowN M v.tail:=⟨by simp[hv.1],fun y hy=>hv.2 y (qDt hy)⟩
   have e3:∀r,((w.tail.set a (w.getD 0 0)).set b (w.getD 0 0)).getD r 0=((v.tail.set a (v.getD 0 0)).set b (v.getD 0 0)).getD r 0:=fun r=>by rw[e]
   have e0:w.getD 0 0=v.getD 0 0:=by
    have:=e3 b;rw[gx hw'.1,gx hv'.1,if_pos rfl,if_pos rfl]at this;exact this
   have et:w.tail=v.tail:=zFG hw' hv' fun r hr=>by
    have:=e3 r;rw[gx hw'.1,gx hv'.1]at this;by_cases q1:r=b
    ·subst q1;rw[(p1 r hr).1 (by rw[g,if_pos rfl]),(r1 r hr).1 (by rw[g,if_pos rfl])]
    ·by_cases q2:r=a
     ·subst q2;rw[(p1 r hr).1 (by rw[g,if_neg q1,if_pos rfl]),(r1 r hr).1 (by rw[g,if_neg q1,if_pos rfl])]
     ·rw[if_neg q1,if_neg q2,if_neg q1,if_neg q2]at this;exact this
   match w,v,hw.1,hv.1,e0,et with
   |[],_,z1,_,_,_=>simp at z1
   |_::_,[],_,z2,_,_=>simp at z2
   |c::w,c'::v,_,_,e0,et=>simp at e0 et;rw[e0,et]
 ·obtain⟨c1,g⟩:=(zL0 h ha hb hab).2 z;obtain⟨f4,f5⟩:=f2 z;rw[c1,qIe,qH0];refine qD5 (zE7 (fun x=>(x.set a 0).set b 0) (fun x hx ⟨p1,p2⟩=>⟨zCJ (zCJ hx (.inl rfl)) (.inl rfl),?_,?_⟩) fun x y hx ⟨p1,p2⟩ hy ⟨r1,r2⟩ e=>?_) (zE7 (fun x=>(x.set a (x.getD far 0)).set b (x.getD far 0)) (fun x hx ⟨p1,p2⟩=>⟨zCJ (zCJ hx (zDH hx _)) (zDH hx _),?_,?_⟩) fun x y hx ⟨p1,p2⟩ hy ⟨r1,r2⟩ e=>?_)
  ·have xab:x.getD a 0=x.getD b 0:=p2 _ (qAj ..);have xfa:=(p1 a la).2 far ha;have xnb:=(p1 b lb).2 near hb;intro e he;rw[g,gx hx.1]
   by_cases e1:e=near
   ·subst e1;refine⟨fun y=>?_,fun f y=>?_⟩
    ·rw[if_pos rfl]at y;cases y
    ·rw[if_pos rfl]at y;cases y;rw[gx hx.1,if_neg z,if_neg f1,if_neg n1,if_neg f4];rw[xfa,xnb,xab]
   ·rw[if_neg e1]
    by_cases e2:e=far
    ·subst e2;refine⟨fun y=>?_,fun f y=>?_⟩
     ·rw[if_pos rfl]at y;cases y
     ·rw[if_pos rfl]at y;cases y;rw[gx hx.1,if_neg n1,if_neg f4,if_neg z,if_neg f1];rw[xfa,xnb,xab]
    ·rw[if_neg e2]
     by_cases e3:e=b
     ·simp[e3]
     ·by_cases e4:e=a
      ·simp[e4]
      ·rw[if_neg e3,if_neg e4,if_neg e3,if_neg e4];refine⟨(p1 e he).1,fun f z1=>?_⟩;obtain⟨q1,q2⟩:=oth e2 e1 z1;rw[gx hx.1,if_neg q2,if_neg q1];exact(p1 e he).2 f z1
  ·exact(jx hx.1).mpr fun p hp=>p2 p (qAc _ hp)
  ·have xab:x.getD a 0=x.getD b 0:=p2 _ (qAj ..);have yab:y.getD a 0=y.getD b 0:=r2 _ (qAj ..);have xfa:=(p1 a la).2 far ha;have yfa:=(r1 a la).2 far ha;have e3:∀r,((x.set a 0).set b 0).getD r 0=((y.set a 0).set b 0).getD r 0:=fun r=>by rw[e]
   have ef:=e3 far;rw[gx hx.1,gx hy.1,if_neg z,if_neg f1,if_neg z,if_neg f1]at ef;refine zFG hx hy fun r hr=>?_
   have er:=e3 r;rw[gx hx.1,gx hy.1]at er;by_cases q1:r=b
   ·subst q1;rw[<- xab,<- yab,<- xfa,<- yfa];exact ef
   ·by_cases q2:r=a
    ·subst q2;rw[<- xfa,<- yfa];exact ef
    ·rw[if_neg q1,if_neg q2,if_neg q1,if_neg q2]at er;exact er
  ·have xnf:x.getD near 0=x.getD far 0:=(p1 far lf).2 near (by rw[g,if_neg f5,if_pos rfl]);intro e he;rw[gx hx.1];refine⟨fun z1=>?_,fun f z1=>?_⟩
   ·have e1:e≠b:=fun y=>by subst y;rw[hb]at z1;cases z1
    have e2:e≠a:=fun y=>by subst y;rw[ha]at z1;cases z1
    have e3:e≠far:=fun y=>by subst y;rw[hf]at z1;cases z1
    have e4:e≠near:=fun y=>by subst y;rw[hn]at z1;cases z1
    rw[if_neg e1,if_neg e2];exact(p1 e he).1 (by rw[g,if_neg e4,if_neg e3,if_neg e1,if_neg e2];exact z1)
   ·rw[gx hx.1]
    by_cases e1:e=b
    ·subst e1;rw[hb]at z1;cases z1;rw[if_neg n1,if_neg f4,if_pos rfl,xnf]
    ·by_cases e2:e=a
     ·subst e2;rw[ha]at z1;cases z1;rw[if_neg z,if_neg f1,if_neg e1,if_pos rfl]
     ·by_cases e3:e=far
      ·subst e3;rw[hf]at z1;cases z1;rw[if_neg hab,if_pos rfl,if_neg e1,if_neg e2]
      ·by_cases e4:e=near
       ·subst e4;rw[hn]at z1;cases z1;rw[if_pos rfl,if_neg e1,if_neg e2,xnf]
       ·obtain⟨q1,q2⟩:=oth e3 e4 z1;rw[if_neg q2,if_neg q1,if_neg e1,if_neg e2];exact(p1 e he).2 f (by rw[g,if_neg e4,if_neg e3,if_neg e1,if_neg e2];exact z1)
  ·intro p hp
   rcases qAf.mp hp with rfl|hp
   ·show((x.set a _).set b _).getD a 0=((x.set a _).set b _).getD b 0
    rw[gx hx.1,gx hx.1,if_neg hab,if_pos rfl,if_pos rfl]
   ·exact(jx hx.1).mpr p2 p hp
  ·have e3:∀r,((x.set a (x.getD far 0)).set b (x.getD far 0)).getD r 0=((y.set a (y.getD far 0)).set b (y.getD far 0)).getD r 0:=fun r=>by rw[e]
   refine zFG hx hy fun r hr=>?_
   have er:=e3 r;rw[gx hx.1,gx hy.1]at er;by_cases q1:r=b
   ·subst q1;have g1:(jE t a r).1.getD r none=none:=by rw[g,if_neg (fun y=>n1 y.symm),if_neg (fun y=>z y.symm),if_pos rfl]
    rw[(p1 r hr).1 g1,(r1 r hr).1 g1]
   ·by_cases q2:r=a
    ·subst q2;have g1:(jE t r b).1.getD r none=none:=by rw[g,if_neg (fun y=>f4 y.symm),if_neg (fun y=>f1 y.symm),if_neg q1,if_pos rfl]
     rw[(p1 r hr).1 g1,(r1 r hr).1 g1]
    ·rw[if_neg q1,if_neg q2,if_neg q1,if_neg q2]at er;exact er
end
noncomputable def sa9(w:Nat):Nat:=if w=0 then 2 else 1
noncomputable def sb9(w:Nat):Nat:=if w=2 then 2 else 3
def jP(t:Ty)(p w:Nat):Ty×Nat:=((jE (jE t (4*p) (4*p+(w+1))).1 (4*p+sa9 w) (4*p+sb9 w)).1,(jE t (4*p) (4*p+(w+1))).2+(jE (jE t (4*p) (4*p+(w+1))).1 (4*p+sa9 w) (4*p+sb9 w)).2)
def pr9(p w:Nat):List (Nat×Nat):=[(4*p,4*p+(w+1)),(4*p+sa9 w,4*p+sb9 w)]
theorem zKJ:∀w,w<3->sa9 w<4/\sb9 w<4/\sa9 w≠sb9 w/\sa9 w≠0/\sb9 w≠0/\sa9 w≠w+1/\sb9 w≠w+1/\∀s,s<4->s=0\/s=w+1\/s=sa9 w\/s=sb9 w:=by decide
theorem zZ5{M:Nat}{t:Ty}{p w:Nat}(h:Mt M t)(hal:∀s,s<4->t.getD (4*p+s) none≠none)(hw:w<3) :
  Mt M (jP t p w).1/\(∀e,(jP t p w).1.getD e none=none↔e/4=p\/t.getD e none=none)/\∀Js:List (Nat×Nat),(∀q∈Js,q.1/4≠p/\q.2/4≠p) ->
   cnt M (fun x=>InvT M t x/\InJ (pr9 p w++Js) x)=2 ^ (jP t p w).2*cnt M (fun x=>InvT M (jP t p w).1 x/\InJ Js x):=by
 obtain⟨a1,a2,a3,a4,a5,a6,a7,a8⟩:=zKJ w hw;have some_of:∀{o:Option Nat},o≠none->∃f,o=some f:=fun{o} ho=>by cases o with|none=>exact absurd rfl ho|some f=>exact⟨f,rfl⟩
 obtain⟨f,hf⟩:=some_of (hal 0 (by lia));obtain⟨g,hg⟩:=some_of (hal (w+1) (by lia));rw[qF3]at hf;have n1:4*p≠4*p+(w+1):=by lia
 have m1:=zW8 h hf hg n1;have d1:=zKZ h hf hg n1;have al:∀s,s<4->s≠0->s≠w+1->(jE t (4*p) (4*p+(w+1))).1.getD (4*p+s) none≠none:=fun s hs h0 h1 z=>by
  rcases(d1 _).mp z with z|z|z
  ·lia
  ·lia
  ·exact hal s hs z
 obtain⟨f',hf'⟩:=some_of (al (sa9 w) a1 a4 a6);obtain⟨g',hg'⟩:=some_of (al (sb9 w) a2 a5 a7);have n2:4*p+sa9 w≠4*p+sb9 w:=by lia
 refine⟨zW8 m1 hf' hg' n2,fun e=>?_,fun Js hJ=>?_⟩
 ·show(jE (jE t (4*p) (4*p+(w+1))).1 (4*p+sa9 w) (4*p+sb9 w)).1.getD e none=none↔_
  rw[zKZ m1 hf' hg' n2,d1];constructor
  ·rintro(z|z|z|z|z)
   ·left;lia
   ·left;lia
   ·left;lia
   ·left;lia
   ·exact .inr z
  ·rintro(z|z)
   ·have:=a8 (e%4) (by lia)
    rcases this with y|y|y|y
    ·right;right;left;lia
    ·right;right;right;left;lia
    ·left;lia
    ·right;left;lia
   ·exact .inr (.inr (.inr (.inr z)))
 ·have e1:=zU9 h hf hg n1 (Js:=(4*p+sa9 w,4*p+sb9 w)::Js) fun q hq=>by
   rcases qAf.mp hq with rfl|hq
   ·dsimp only;lia
   ·obtain⟨q1,q2⟩:=hJ q hq
    lia
  have e2:=zU9 m1 hf' hg' n2 (Js:=Js) fun q hq=>by
   obtain⟨q1,q2⟩:=hJ q hq;lia
  show cnt M (fun x=>InvT M t x/\InJ ((4*p,4*p+(w+1))::(4*p+sa9 w,4*p+sb9 w)::Js) x)=_;rw[e1,e2];show _=2 ^ ((jE t (4*p) (4*p+(w+1))).2+(jE (jE t (4*p) (4*p+(w+1))).1 (4*p+sa9 w) (4*p+sb9 w)).2)*_;rw[qH1,qFv];rfl
def runP(t:Ty):List (Nat×Nat)->Ty×Nat
 |[]=>(t,0)
 |q::r=>((runP (jP t q.1 q.2).1 r).1,(jP t q.1 q.2).2+(runP (jP t q.1 q.2).1 r).2)
theorem zOM{M:Nat}:∀(ps:List (Nat×Nat)){t:Ty},Mt M t->(ps.map (·.1)).Nodup->(∀q∈ps,q.2<3/\∀s,s<4->t.getD (4*q.1+s) none≠none) ->
  Mt M (runP t ps).1/\(∀e,(runP t ps).1.getD e none=none↔e/4∈ps.map (·.1)\/t.getD e none=none) /\
   cnt M (fun x=>InvT M t x/\InJ (ps.flatMap fun q=>pr9 q.1 q.2) x)=2 ^ (runP t ps).2*cnt M (fun x=>InvT M (runP t ps).1 x)
 |[],t,h,_,_=>⟨h,fun e=>by simp[runP],by
   show _=2 ^ 0*_;rw[qIe,qH0];exact zBL fun x _=>⟨fun z=>z.1,fun z=>⟨z,fun p hp=>by simp at hp⟩⟩⟩
 |q::r,t,h,hn,ha=>by
  obtain⟨hw,hal⟩:=ha q (qAj ..);obtain⟨m1,d1,c1⟩:=zZ5 h hal hw;rw[qAk,qAv]at hn;obtain⟨m2,d2,c2⟩:=zOM r m1 hn.2 fun z hz=>by
   obtain⟨z1,z2⟩:=ha z (qAc _ hz);refine⟨z1,fun s hs y=>?_⟩
   rcases(d1 _).mp y with y|y
   ·exact hn.1 (qAb.mpr ⟨z,hz,by lia⟩)
   ·exact z2 s hs y
  refine⟨m2,fun e=>?_,?_⟩
  ·show(runP (jP t q.1 q.2).1 r).1.getD e none=none↔_
   rw[d2,d1,qAk,qAf];constructor
   ·rintro(z|z|z)
    ·exact .inl (.inr z)
    ·exact .inl (.inl z)
    ·exact .inr z
   ·rintro((z|z)|z)
    ·exact .inr (.inl z)
    ·exact .inl z
    ·exact .inr (.inr z)
  ·rw[qB1,c1 _ fun z hz=>?_,c2]
   ·show _=2 ^ ((jP t q.1 q.2).2+(runP (jP t q.1 q.2).1 r).2)*_;rw[qH1,qFv];rfl
   ·obtain⟨y,hy,hz⟩:=qBf.mp hz;have hne:y.1≠q.1:=fun e=>hn.1 (qAb.mpr ⟨y,hy,e⟩)
    obtain⟨a1,a2,_⟩:=zKJ y.2 (ha y (qAc _ hy)).1;have hy3:=(ha y (qAc _ hy)).1;unfold pr9 at hz;rcases qAf.mp hz with rfl|hz
    ·dsimp only;lia
    ·rw[qAt]at hz;subst hz;dsimp only;lia
noncomputable def KN(ts C:List Nat)(n:Nat):Nat:=cnt (4*n) (fun x=>Cst ts C n (fun e=>x.getD e 0))
theorem zU5{ts:List Nat}{M:Nat}(hN:NetN ts M)(hne:∀x,x<M->nt ts x≠x):Mt M (ts.map some):=by
 have g:∀e,e<M->(ts.map some).getD e none=some (nt ts e):=fun e he=>by
  have:e<ts.length:=by rw[hN.len];exact he
  unfold nt;simp[this]
 refine⟨by simp[hN.len],fun e f he=>?_⟩
 by_cases hM:e<M
 ·rw[g e hM]at he;cases he;refine⟨hN.lt e hM,hne e hM,?_⟩;rw[g _ (hN.lt e hM),hN.inv e hM]
 ·have:¬e<ts.length:=by rw[hN.len];exact hM
  rw[qA0,qCa (by simp;lia)]at he;cases he
theorem zEL{ts:List Nat}{M:Nat}(hN:NetN ts M){e:Nat}(he:e<M):(ts.map some).getD e none=some (nt ts e):=by
 have:e<ts.length:=by rw[hN.len];exact he
 unfold nt;simp[this]
theorem zLV{ts C:List Nat}{n:Nat}{ps:List (Nat×Nat)}(hN:NetN ts (4*n))(hne:∀x,x<4*n->nt ts x≠x)(hl:C.length=n)(hw:∀c∈C,c<3)(hp:(ps.map (·.1)).Perm (qA7 n))(hC:∀q∈ps,q.2=C.getD q.1 0) :
  2 ^ (runP (ts.map some) ps).2=KN ts C n/\(runP (ts.map some) ps).1=qA4 (4*n) none:=by
 have hin:∀q∈ps,q.1<n:=fun q hq=>by
  have:=hp.mem_iff.mp (qAb.mpr ⟨q,hq,rfl⟩);simpa using this
 have hm:=zU5 hN hne;have hw3:∀q∈ps,q.2<3:=fun q hq=>by
  rw[hC q hq];have hlt:=hin q hq;rw[qA0,qA5 (by lia)];exact hw _ (qAy _)
 obtain⟨m1,d1,c1⟩:=zOM ps hm (hp.nodup_iff.mpr qBy) fun q hq=>⟨hw3 q hq,fun s hs z=>by
  rw[zEL hN (by have:=hin q hq;lia)]at z;cases z⟩
 have dead:∀e,e<4*n->(runP (ts.map some) ps).1.getD e none=none:=fun e he=>(d1 e).mpr (.inl (hp.mem_iff.mpr (by simp;lia)))
 have hrep:(runP (ts.map some) ps).1=qA4 (4*n) none:=by
  refine qAx (by simp[m1.len]) fun i h1 h2=>?_
  have:=dead i (by rw[<- m1.len];exact h1)
  rw[qA0,qA5 h1]at this;simp at this ⊢;exact this
 refine⟨?_,hrep⟩;have one:cnt (4*n) (fun x=>InvT (4*n) (runP (ts.map some) ps).1 x)=1:=by
  have z:=zMT (n:=4*n) (ks:=qA7 (4*n)) qBy fun k hk=>by simpa using hk
  rw[qDd]at z;have z1:cnt (4*n) (fun x=>∀k∈qA7 (4*n),x.getD k 0=0)=1:=Nat.eq_of_mul_eq_mul_right (Nat.pow_pos (n:=4*n) (show 0<2 by decide)) (by rw[z,qH0]);rw[<- z1];refine zBL fun x _=>⟨fun h k hk=>(h k (by simpa using hk)).1 (dead k (by simpa using hk)),fun h e he=>⟨fun _=>h e (by simpa using he),fun f hf=>?_⟩⟩
  rw[dead e he]at hf;cases hf
 rw[one,qIk]at c1;rw[<- c1];unfold KN;refine zBL fun x hx=>⟨fun⟨h1,h2⟩=>⟨fun e=>zDH hx e,fun e he=>?_,fun e he=>?_⟩,fun h=>⟨fun e he=>⟨fun z=>?_,fun f hf=>?_⟩,fun p hp'=>?_⟩⟩
 ·exact(h1 e he).2 _ (zEL hN he)
 ·have hpl:e/4<n:=by lia
  obtain⟨q,hq,hq1⟩:=qAb.mp (hp.mem_iff.mpr (by simpa using hpl:e/4∈qA7 n));have hcw:C.getD (e/4) 0<3:=by rw[<- hq1,<- hC q hq];exact hw3 q hq
  refine(zZ3 (F:=fun e=>x.getD e 0) hpl hcw).mpr ?_ e he rfl;have p1:=h2 (4*q.1,4*q.1+(q.2+1)) (qBf.mpr ⟨q,hq,by simp[pr9]⟩);have p2:=h2 (4*q.1+sa9 q.2,4*q.1+sb9 q.2) (qBf.mpr ⟨q,hq,by simp[pr9]⟩);rw[hq1,hC q hq,hq1]at p1 p2;dsimp only at p1 p2 ⊢;refine⟨fun z=>?_,fun z=>?_,fun z=>?_⟩<;>(rw[z]at p1 p2;exact⟨p1,p2⟩)
 ·rw[zEL hN he]at z;cases z
 ·rw[zEL hN he]at hf;cases hf;exact h.hn e he
 ·obtain⟨q,hq,hz⟩:=qBf.mp hp';have hpl:=hin q hq;have hcw:C.getD q.1 0<3:=by rw[<- hC q hq];exact hw3 q hq
  obtain⟨j0,j1,j2⟩:=(zZ3 (F:=fun e=>x.getD e 0) hpl hcw).mp fun e he _=>h.hj e he
  rw[<- hC q hq]at j0 j1 j2;have h3:=hw3 q hq;have c3:q.2=0\/q.2=1\/q.2=2:=by lia
  unfold pr9 at hz;rcases c3 with c|c|c<;>rw[c]at hz
  ·obtain⟨k1,k2⟩:=j0 c
   rcases qAf.mp hz with rfl|hz
   ·exact k1
   ·rw[qAt]at hz;subst hz;exact k2
  ·obtain⟨k1,k2⟩:=j1 c
   rcases qAf.mp hz with rfl|hz
   ·exact k1
   ·rw[qAt]at hz;subst hz;exact k2
  ·obtain⟨k1,k2⟩:=j2 c
   rcases qAf.mp hz with rfl|hz
   ·exact k1
   ·rw[qAt]at hz;subst hz;exact k2
abbrev Ad:=List (Ty×List Nat)
noncomputable def putA:Ad->Ty->List Nat->Ad
 |[],k,xs=>[(k,xs)]
 |q::r,k,xs=>if q.1=k then(q.1,q.2++xs)::r else q::putA r k xs
noncomputable def allA(L:Ad):List (Ty×Nat):=L.flatMap fun q=>q.2.map fun c=>(q.1,c)
theorem zFN(k:Ty)(xs:List Nat):∀L:Ad,(allA (putA L k xs)).Perm (allA L++xs.map fun c=>(k,c))
 |[]=>by simp[putA,allA]
 |q::r=>by
  unfold putA;split
  ·rename_i h
   subst h;show((q.2++xs).map (fun c=>(q.1,c))++allA r).Perm ((q.2.map fun c=>(q.1,c))++allA r++xs.map fun c=>(q.1,c))
   rw[qBa,qB6,qB6];exact qDl _ qF5
  ·show((q.2.map fun c=>(q.1,c))++allA (putA r k xs)).Perm ((q.2.map fun c=>(q.1,c))++allA r++xs.map fun c=>(k,c))
   rw[qB6];exact qDl _ (zFN k xs r)
theorem zJ7(k:Ty)(xs:List Nat):∀L:Ad,(putA L k xs).map (·.1)=if k∈L.map (·.1)then L.map (·.1)else L.map (·.1)++[k]
 |[]=>by simp[putA]
 |q::r=>by
  unfold putA;by_cases h:q.1=k
  ·rw[if_pos h];simp[h]
  ·have h':¬k=q.1:=fun z=>h z.symm
   rw[if_neg h,qAk,zJ7 k xs r];by_cases h2:k∈r.map (·.1)
   ·rw[if_pos h2,if_pos (by rw[qAk];exact qAc _ h2)];rfl
   ·rw[if_neg h2,if_neg (by simp only[qAk,qAf,not_or];exact⟨h',h2⟩)];rfl
theorem zNF{k:Ty}{xs:List Nat}{L:Ad}(h:(L.map (·.1)).Nodup):((putA L k xs).map (·.1)).Nodup:=by
 rw[zJ7];split
 ·exact h
 ·rename_i z
  rw[qC1];exact⟨h,by simp,fun a ha b hb=>by simp at hb;subst hb;exact fun y=>z (y▸ha)⟩
theorem zOS{k:Ty}{xs:List Nat}(hx:xs≠[]):∀{L:Ad},(∀q∈L,q.2≠[])->∀q∈putA L k xs,q.2≠[]
 |[],_,q,hq=>by simp[putA]at hq;subst hq;exact hx
 |z::r,h,q,hq=>by
  unfold putA at hq;split at hq
  ·rcases qAf.mp hq with rfl|hq
   ·simp[hx]
   ·exact h q (qAc _ hq)
  ·rcases qAf.mp hq with rfl|hq
   ·exact h _ (qAj ..)
   ·exact zOS hx (fun q hq=>h q (qAc _ hq)) q hq
def putw(p:Nat)(q:Ty×List Nat)(acc:Ad)(w:Nat):Ad:=putA acc (jP q.1 p w).1 (q.2.map (·+(jP q.1 p w).2))
def stpw(p:Nat)(acc:Ad)(q:Ty×List Nat):Ad:=[0,1,2].foldl (putw p q) acc
def stepA(L:Ad)(p:Nat):Ad:=L.foldl (stpw p) []
abbrev nxt9(p:Nat)(z:Ty×Nat):List (Ty×Nat):=[0,1,2].map fun w=>((jP z.1 p w).1,z.2+(jP z.1 p w).2)
theorem zJO{α β:Type}(a b c:α->β):∀xs:List α,(xs.map a++(xs.map b++xs.map c)).Perm (xs.flatMap fun x=>[a x,b x,c x])
 |[]=>by simp
 |x::xs=>by
  have ih:=zJO a b c xs;simp only[qAk,qDn,qB1,qCg];refine qFc _ ?_;refine(qGi (l₁:=xs.map a) (a:=b x) (l₂:=xs.map b++c x::xs.map c)).trans (qFc _ ?_);have e:(xs.map a++(xs.map b++c x::xs.map c)).Perm (c x::(xs.map a++(xs.map b++xs.map c))):=by
   rw[<- qB6,<- qB6];exact qGi
  exact e.trans (qFc _ ih)
theorem zR4(p:Nat)(acc:Ad)(q:Ty×List Nat):(allA (stpw p acc q)).Perm (allA acc++(q.2.map fun c=>(q.1,c)).flatMap (nxt9 p)):=by
 unfold stpw;simp only[qCf,qEc];refine(zFN _ _ _).trans ?_;refine((zFN _ _ _).append_right _).trans ?_;refine(((zFN _ _ _).append_right _).append_right _).trans ?_;rw[qB6,qB6];refine qDl _ ?_;rw[qAn,qAn,qAn,qEt];exact zJO (fun c=>((jP q.1 p 0).1,c+(jP q.1 p 0).2)) (fun c=>((jP q.1 p 1).1,c+(jP q.1 p 1).2)) (fun c=>((jP q.1 p 2).1,c+(jP q.1 p 2).2)) q.2
theorem zKA(p:Nat):∀(L acc:Ad),(allA (L.foldl (stpw p) acc)).Perm (allA acc++(allA L).flatMap (nxt9 p))
 |[],acc=>by simp[allA]
 |q::r,acc=>by
  rw[qCf];refine(zKA p r _).trans ?_;refine((zR4 p acc q).append_right _).trans ?_;show(allA acc++(q.2.map fun c=>(q.1,c)).flatMap (nxt9 p)++(allA r).flatMap (nxt9 p)).Perm (allA acc++((q.2.map fun c=>(q.1,c))++allA r).flatMap (nxt9 p))
  rw[List.flatMap_append,qB6]
theorem zK9(L:Ad)(p:Nat):(allA (stepA L p)).Perm ((allA L).flatMap (nxt9 p)):=by
 have:=zKA p L [];unfold stepA;rw[show allA []=[] from rfl,qCg]at this;exact this
structure Gd(L:Ad):Prop where
 nd:(L.map (·.1)).Nodup
 ne:∀q∈L,q.2≠[]
theorem zPY{L:Ad}{k:Ty}{xs:List Nat}(h:Gd L)(hx:xs≠[]):Gd (putA L k xs):=⟨zNF h.nd,zOS hx h.ne⟩
theorem zWH{p:Nat}{acc:Ad}{q:Ty×List Nat}(h:Gd acc)(hq:q.2≠[]):Gd (stpw p acc q):=by
 have m:∀c:Nat,q.2.map (·+c)≠[]:=fun c=>by simpa using hq
 exact zPY (zPY (zPY h (m _)) (m _)) (m _)
theorem zPZ{p:Nat}:∀{L acc:Ad},(∀q∈L,q.2≠[])->Gd acc->Gd (L.foldl (stpw p) acc)
 |[],_,_,h=>h
 |q::r,acc,hL,h=>zPZ (L:=r) (fun z hz=>hL z (qAc _ hz)) (zWH h (hL q (qAj ..)))
theorem zPX{L:Ad}{p:Nat}(h:Gd L):Gd (stepA L p):=zPZ h.ne ⟨by simp,fun q hq=>by simp at hq⟩
noncomputable def allW:List Nat->List (List (Nat×Nat))
 |[]=>[[]]
 |p::r=>[0,1,2].flatMap fun w=>(allW r).map ((p,w)::·)
theorem zN1:∀(o:List Nat)(L:Ad),(allA (o.foldl stepA L)).Perm ((allA L).flatMap fun z=>(allW o).map fun ps=>((runP z.1 ps).1,z.2+(runP z.1 ps).2))
 |[],L=>by
  simp[allW,runP]
 |p::r,L=>by
  rw[qCf];refine(zN1 r _).trans ?_;refine((zK9 L p).flatMap_right _).trans ?_;rw[qFw];refine List.Perm.of_eq ?_;congr 1;funext z;simp only[nxt9,qAk,qI8,qB1,qDo,qBu,allW,qBa,qAn];simp only[qDb,runP,qFx]
theorem zUD:∀(o:List Nat){L:Ad},Gd L->Gd (o.foldl stepA L)
 |[],_,h=>h
 |p::r,L,h=>zUD r (zPX h)
theorem allW_mem:∀{o:List Nat}{ps:List (Nat×Nat)},ps∈allW o↔ps.map (·.1)=o/\∀q∈ps,q.2<3
 |[],ps=>by
  simp only[allW,qAt];exact⟨fun h=>by subst h;simp,fun h=>by simpa using h.1⟩
 |p::r,ps=>by
  simp only[allW,qBf,qAb];constructor
  ·rintro⟨w,hw,qs,hq,rfl⟩
   obtain⟨h1,h2⟩:=allW_mem.mp hq;refine⟨by simp[h1],fun q hq=>?_⟩
   rcases qAf.mp hq with rfl|hq
   ·simp at hw;show w<3
    lia
   ·exact h2 q hq
  ·rintro⟨h1,h2⟩
   match ps,h1,h2 with
   |[],h1,_=>simp at h1
   |q::qs,h1,h2=>
    simp at h1;have hq:=h2 q (qAj ..);refine⟨q.2,by simp;lia,qs,allW_mem.mpr ⟨h1.2,fun z hz=>h2 z (qAc _ hz)⟩,?_⟩;rw[<- h1.1]
theorem zHA:∀o:List Nat,(allW o).Nodup
 |[]=>by simp[allW]
 |p::r=>by
  have ih:=zHA r;have inj:∀w:Nat,((allW r).map ((p,w)::·)).Nodup:=fun w=>zCH ih fun x _ y _ e=>by simpa using e
  simp only[allW,qB1,qDo,qBu];have ne:∀{w v:Nat},w≠v->∀a∈(allW r).map ((p,w)::·),∀b∈(allW r).map ((p,v)::·),a≠b:=fun{w v} h a ha b hb e=>by
   obtain⟨x,_,rfl⟩:=qAb.mp ha;obtain⟨y,_,rfl⟩:=qAb.mp hb;simp at e;exact h e.1
  rw[qC1,qC1];refine⟨inj 0,⟨inj 1,inj 2,ne (by decide)⟩,fun a ha b hb=>?_⟩
  rcases qAz.mp hb with hb|hb
  ·exact ne (by decide) a ha b hb
  ·exact ne (by decide) a ha b hb
noncomputable def toC(n:Nat)(ps:List (Nat×Nat)):List Nat:=(qA7 n).map fun p=>(ps.lookup p).getD 0
theorem zD8:∀{ps:List (Nat×Nat)},(ps.map (·.1)).Nodup->∀q∈ps,ps.lookup q.1=some q.2
 |[],_,q,hq=>by simp at hq
 |z::r,hn,q,hq=>by
  rw[qAk,qAv]at hn;rcases qAf.mp hq with rfl|hq
  ·simp[qCo]
  ·have:(q.1==z.1)=false:=by
    simpa using fun e=>hn.1 (qAb.mpr ⟨q,hq,e⟩)
   simp[qCo,this];exact zD8 hn.2 q hq
noncomputable def chA:Nat->List (List Nat)
 |0=>[[]]
 |n+1=>(chA n).flatMap fun c=>[c++[0],c++[1],c++[2]]
theorem chA_mem:∀{n:Nat}{c:List Nat},c∈chA n↔c.length=n/\∀w∈c,w<3
 |0,c=>by
  simp only[chA,qAt];exact⟨fun h=>by subst h;simp,fun h=>by simpa using h.1⟩
 |n+1,c=>by
  simp only[chA,qBf];constructor
  ·rintro⟨d,hd,hc⟩
   obtain⟨h1,h2⟩:=chA_mem.mp hd;simp at hc;have:∃w,w<3/\c=d++[w]:=by
    rcases hc with rfl|rfl|rfl
    ·exact⟨0,by decide,rfl⟩
    ·exact⟨1,by decide,rfl⟩
    ·exact⟨2,by decide,rfl⟩
   obtain⟨w,hw,rfl⟩:=this;refine⟨by simp[h1],fun v hv=>?_⟩
   rcases qAz.mp hv with hv|hv
   ·exact h2 v hv
   ·simp at hv;lia
  ·rintro⟨h1,h2⟩
   have hne:c≠[]:=fun z=>by rw[z]at h1;simp at h1
   have e:=List.dropLast_concat_getLast hne;have hl:=h2 _ (List.getLast_mem hne);refine⟨c.dropLast,chA_mem.mpr ⟨by simp[h1],fun w hw=>h2 w (List.dropLast_subset _ hw)⟩,?_⟩
   generalize c.getLast hne=w at e hl;generalize c.dropLast=d at e;subst e;have:w=0\/w=1\/w=2:=by lia
   rcases this with rfl|rfl|rfl<;>simp
theorem zET:∀n,(chA n).Nodup
 |0=>by simp[chA]
 |n+1=>by
  have ih:=zET n;have g:∀l:List (List Nat),l.Nodup->(l.flatMap fun c=>[c++[0],c++[1],c++[2]]).Nodup:=by
   intro l;induction l with
   |nil=>intro _;simp
   |cons c l ih2=>
    intro h;rw[qAv]at h;rw[qB1,qC1];refine⟨by simp,ih2 h.2,fun a ha b hb e=>?_⟩;subst e;obtain⟨d,hd,hb⟩:=qBf.mp hb;have k:∀{x y:List Nat}{u v:Nat},x++[u]=y++[v]->x=y:=fun{x y u v} e=>by
     have:=congrArg List.dropLast e;simpa using this
    have:c=d:=by
     simp at ha hb;rcases ha with rfl|rfl|rfl<;>rcases hb with z|z|z<;>exact k z
    exact h.1 (this▸hd)
  exact g _ ih
theorem zHF{n:Nat}{o:List Nat}(ho:o.Perm (qA7 n)):((allW o).map (toC n)).Perm (chA n):=by
 have hn:o.Nodup:=ho.nodup_iff.mpr qBy;refine(qE2 (zCH (zHA o) fun x hx y hy e=>?_) (zET n)).mpr fun c=>?_
 ·obtain⟨x1,_⟩:=allW_mem.mp hx;obtain⟨y1,_⟩:=allW_mem.mp hy;have lk:∀p∈o,x.lookup p=y.lookup p:=fun p hp=>by
   have hpn:p<n:=by simpa using ho.mem_iff.mp hp
   have:=congrArg (fun l=>l[p]?) e
   simp[toC,hpn]at this;have hx':p∈x.map (·.1):=x1▸hp;have hy':p∈y.map (·.1):=y1▸hp;obtain⟨q,hq,rfl⟩:=qAb.mp hx';obtain⟨z,hz,hzq⟩:=qAb.mp hy';rw[zD8 (x1▸hn) q hq]at this ⊢;rw[<- hzq]at this ⊢;rw[zD8 (y1▸hn) z hz]at this ⊢;simpa using this
  have len:x.length=y.length:=by
   have:=congrArg qD9 (x1.trans y1.symm);simpa using this
  refine qAx len fun i h1 h2=>?_
  have f1:x[i].1=y[i].1:=by
   have:=congrArg (fun l:List Nat=>l[i]?) (x1.trans y1.symm)
   simp[h1,h2]at this;exact this
  have f2:=lk x[i].1 (x1▸qAb.mpr ⟨x[i],qAy _,rfl⟩);rw[zD8 (x1▸hn) _ (qAy h1),f1,zD8 (y1▸hn) _ (qAy h2)]at f2;exact Prod.ext f1 (by simpa using f2)
 ·rw[chA_mem,qAb];constructor
  ·rintro⟨ps,hp,rfl⟩
   obtain⟨h1,h2⟩:=allW_mem.mp hp;refine⟨by simp[toC],fun w hw=>?_⟩;obtain⟨p,hpn,rfl⟩:=qAb.mp hw
   have:p∈ps.map (·.1):=h1▸ho.mem_iff.mpr hpn;obtain⟨q,hq,rfl⟩:=qAb.mp this;rw[zD8 (h1▸hn) q hq];exact h2 q hq
  ·rintro⟨h1,h2⟩
   have hm:(o.map fun p=>(p,c.getD p 0)).map (·.1)=o:=by simp[qAn,qDb]
   refine⟨o.map fun p=>(p,c.getD p 0),allW_mem.mpr ⟨hm,fun q hq=>?_⟩,?_⟩
   ·obtain⟨p,hp,rfl⟩:=qAb.mp hq;have hpn:p<n:=by simpa using ho.mem_iff.mp hp
    show c.getD p 0<3;rw[qA0,qA5 (by lia)];exact h2 _ (qAy _)
   ·refine qAx (by simp[toC,h1]) fun i g1 g2=>?_
    simp[toC]at g1;have hio:i∈o:=ho.mem_iff.mpr (by simpa using g1)
    have:=zD8 (ps:=o.map fun p=>(p,c.getD p 0)) (by rw[hm];exact hn) (i,c.getD i 0) (qAb.mpr ⟨i,hio,rfl⟩)
    simp only[toC,qCj,qBw];dsimp only at this;rw[this];simp[g2]
noncomputable def rN(ts:List Nat)(n:Nat)(C:List Nat):Nat:=qGm (KN ts C n)
theorem zTY{ts:List Nat}{n:Nat}{o:List Nat}{ps:List (Nat×Nat)}(hN:NetN ts (4*n))(hne:∀x,x<4*n->nt ts x≠x)(ho:o.Perm (qA7 n))(hp:ps∈allW o):runP (ts.map some) ps=(qA4 (4*n) none,rN ts n (toC n ps)):=by
 obtain⟨h1,h2⟩:=allW_mem.mp hp;have hn:o.Nodup:=ho.nodup_iff.mpr qBy;have hc:=chA_mem.mp ((zHF ho).mem_iff.mp (qAb.mpr ⟨ps,hp,rfl⟩));obtain⟨e1,e2⟩:=zLV (C:=toC n ps) (ps:=ps) hN hne hc.1 hc.2 (h1▸ho) fun q hq=>by
  have hq1:q.1<n:=by
   have:=ho.mem_iff.mp (h1▸qAb.mpr ⟨q,hq,rfl⟩);simpa using this
  have:=zD8 (h1▸hn) q hq;simp[toC,hq1,this]
 refine Prod.ext e2 ?_;show _=qGm (KN ts (toC n ps) n);rw[<- e1,qEu]
theorem zV9{ts:List Nat}{n:Nat}{o:List Nat}(hN:NetN ts (4*n))(hne:∀x,x<4*n->nt ts x≠x)(ho:o.Perm (qA7 n)):∃cs,o.foldl stepA [(ts.map some,[0])]=[(qA4 (4*n) none,cs)]/\cs.Perm ((chA n).map (rN ts n)):=by
 have g:=zUD o (L:=[(ts.map some,[0])]) ⟨by simp,by simp⟩;have a:=zN1 o [(ts.map some,[0])];have e0:allA [(ts.map some,[0])]=[(ts.map some,0)]:=rfl;rw[e0,qB1,qDo,qBu]at a;have e1:((allW o).map fun ps=>((runP (ts.map some) ps).1,0+(runP (ts.map some) ps).2))=(allW o).map fun ps=>(qA4 (4*n) none,rN ts n (toC n ps)):=qAo fun ps hp=>by rw[zTY hN hne ho hp];simp
 rw[e1]at a;have a2:(allA (o.foldl stepA [(ts.map some,[0])])).Perm (((chA n).map (rN ts n)).map fun c=>(qA4 (4*n) none,c)):=by
  refine a.trans ?_;have:=((zHF ho).map (rN ts n)).map fun c=>((qA4 (4*n) none:Ty),c)
  rw[qAn,qAn]at this;exact this
 generalize o.foldl stepA [(ts.map some,[0])]=L at g a2;have keys:∀q∈L,q.1=qA4 (4*n) none:=fun q hq=>by
  have hne:=g.ne q hq;obtain⟨c,hc⟩:=qEd _ hne;have:(q.1,c)∈allA L:=qBf.mpr ⟨q,hq,qAb.mpr ⟨c,hc,rfl⟩⟩;obtain⟨d,_,e⟩:=qAb.mp (a2.mem_iff.mp this);exact(congrArg qF7 e).symm
 match L,g,a2,keys with
 |[],_,a2,_=>
  have h3:=a2.length_eq;have:(chA n)≠[]:=fun z=>by
   have:=chA_mem (n:=n) (c:=qA4 n 0);rw[z]at this;simp at this
  simp[allA]at h3;exact absurd (List.length_eq_zero_iff.mp h3.symm) this
 |[q],_,a2,keys=>
  have hk:=keys q (qAj ..);refine⟨q.2,by rw[<- hk],?_⟩;have h4:allA [q]=q.2.map fun c=>(q.1,c):=by simp[allA]
  rw[h4,hk]at a2;have:=a2.map qF8;simpa[qAn,qDb]using this
 |q::z::r,g,_,keys=>
  have h5:=g.nd;rw[qAk,qAk,keys q (by simp),keys z (by simp)]at h5;simp at h5
noncomputable def mxL(cs:List Nat):Nat:=cs.foldr max 0
def hst(cs:List Nat):List Int:=if cs=[]then[]else(qA7 (mxL cs+1)).map fun k=>((cs.count k:Nat):Int)
theorem zPB(a b:List Nat):mxL (a++b)=max (mxL a) (mxL b):=by
 induction a with
 |nil=>simp[mxL]
 |cons x r ih=>
  show max x (mxL (r++b))=max (max x (mxL r)) (mxL b);rw[ih,qI1]
theorem zG2{cs:List Nat}{c:Nat}(h:c∈cs):c<=mxL cs:=by
 induction cs with
 |nil=>simp at h
 |cons x r ih=>
  simp[mxL]at ih ⊢;rcases qAf.mp h with rfl|h
  ·lia
  ·have:=ih h;lia
theorem zF0{cs:List Nat}(h:cs≠[]):mxL cs∈cs:=by
 induction cs with
 |nil=>exact absurd rfl h
 |cons x r ih=>
  show max x (mxL r)∈x::r;by_cases hr:r=[]
  ·subst hr;simp[mxL]
  ·have:=ih hr
   by_cases hx:mxL r<=x
   ·rw[Nat.max_eq_left hx];exact qAj ..
   ·rw[Nat.max_eq_right (by lia)];exact qAc _ this
theorem zSD{a b:List Nat}(h:a.Perm b):mxL a=mxL b:=by
 by_cases ha:a=[]
 ·subst ha;rw[qI3.mp h]
 ·have hb:b≠[]:=fun z=>by subst z;exact ha (qI4.mp h)
  exact qD5 (zG2 (h.mem_iff.mp (zF0 ha))) (zG2 (h.mem_iff.mpr (zF0 hb)))
theorem zMH{a b:List Nat}(h:a.Perm b):hst a=hst b:=by
 unfold hst;by_cases ha:a=[]
 ·subst ha;rw[qI3.mp h]
 ·have hb:b≠[]:=fun z=>by subst z;exact ha (qI4.mp h)
  rw[if_neg ha,if_neg hb,zSD h];exact qAo fun k _=>by rw[h.count_eq]
theorem zCI{cs:List Nat}(h:cs≠[]):(hst cs).length=mxL cs+1:=by unfold hst;rw[if_neg h];simp
theorem zE4{cs:List Nat}(h:cs≠[])(k:Nat):(hst cs).getD k 0=((cs.count k:Nat):Int):=by
 unfold hst;rw[if_neg h];by_cases hk:k<mxL cs+1
 ·simp[hk]
 ·have:cs.count k=0:=qD6.mpr fun z=>hk (by have:=zG2 z;lia)
  rw[qA0,qCa (by simp;lia),this];rfl
noncomputable def sumL(a b:List Int):List Int:=(qA7 (max a.length b.length)).map fun k=>a.getD k 0+b.getD k 0
theorem zUZ{a b:List Nat}(hb:b≠[]):sumL (hst a) (hst b)=hst (a++b):=by
 have hab:a++b≠[]:=by simp[hb]
 by_cases ha:a=[]
 ·subst ha;unfold sumL;rw[show hst []=[] from rfl,qCg];refine qAx (by simp) fun i h1 h2=>?_
  have e:(hst b)[i]=(hst b).getD i 0:=by simp[h2]
  rw[e,qCj,qBw];simp
 ·unfold sumL;rw[zCI ha,zCI hb];refine qAx (by rw[qAi,qDd,zCI hab,zPB];lia) fun i h1 h2=>?_
  have e:(hst (a++b))[i]=(hst (a++b)).getD i 0:=by simp[h2]
  rw[e,zE4 hab,qCj,zE4 ha,zE4 hb,qBw,qG7]
  push_cast
  rfl
theorem zQM(b:List Nat)(c k:Nat):(b.map (·+c)).count (k+c)=b.count k:=by
 induction b with
 |nil=>rfl
 |cons x r ih=>
  rw[qAk,qDz,qDz,ih];by_cases h:x=k
  ·subst h;simp
  ·simp[h]
theorem zOJ{b:List Nat}(hb:b≠[])(c:Nat):qA4 c (0:Int)++hst b=hst (b.map (·+c)):=by
 have hb':b.map (·+c)≠[]:=by simpa using hb
 have hm:mxL (b.map (·+c))=mxL b+c:=by
  have h1:=zF0 hb';obtain⟨x,hx,hx2⟩:=qAb.mp h1;have h2:=zG2 hx;have h3:mxL b+c<=mxL (b.map (·+c)):=zG2 (qAb.mpr ⟨_,zF0 hb,rfl⟩);lia
 refine qAx (by simp[zCI hb,zCI hb',hm];lia) fun i h1 h2=>?_
 have e:(hst (b.map (·+c)))[i]=(hst (b.map (·+c))).getD i 0:=by simp[h2]
 rw[e,zE4 hb'];by_cases hi:i<c
 ·rw[List.getElem_append_left (by simpa using hi)]
  have:(b.map (·+c)).count i=0:=qD6.mpr fun z=>by
   obtain⟨x,_,hx⟩:=qAb.mp z;lia
  simp[this]
 ·rw[List.getElem_append_right (by simpa using hi)];have e2:∀h,(hst b)[i-(qA4 c (0:Int)).length]'h=(hst b).getD (i-c) 0:=fun h=>by simp at h ⊢;simp[h]
  rw[e2,zE4 hb];congr 1;have:i=i-c+c:=by lia
  conv=>rhs;rw[this]
  exact(zQM b c (i-c)).symm
noncomputable def zYX(n:Nat)(f:Nat->Nat->Int)(p:Nat):List Nat:=(qA7 n).filter fun k=>decide (f p k=1) && !decide ((k:Int)=(p:Int))
noncomputable def chg(f:Nat->Nat->Int)(b:Nat->Nat->Bool):Nat->Nat->Int:=fun i j=>if b i j=true then 1-f i j else f i j
def pvA(n:Nat)(f:Nat->Nat->Int)(v:Nat):Nat->Nat->Int:=chg f fun i j=>decide (i∈zYX n f v)&&decide (j∈zYX n f v)
noncomputable def off(a:Nat->Int)(u:Nat):Nat->Int:=fun i=>if i=u then 0 else a i
noncomputable def exB(a b:Nat->Int)(i j:Nat):Bool:=(decide (a i=1)||decide (b i=1))&&((decide (a j=1)||decide (b j=1)) && !(decide (a i=a j)&&decide (b i=b j)))
noncomputable def swq(n u v:Nat):List Nat:=((qA7 n).set u v).set v u
def sdA(f:Nat->Nat->Int)(u v:Nat)(w:Nat):Nat->Int:=off (off (f w) u) v
def pvB(n:Nat)(f:Nat->Nat->Int)(u v:Nat):Nat->Nat->Int:=sub (swq n u v) (chg f (exB (sdA f u v u) (sdA f u v v)))
noncomputable def rst(m:Nat)(g:Nat->Nat->Int):Nat:=(cnt m (KerF m g)).log2
noncomputable def rv(ws:List Int)(n:Nat)(f:Nat->Nat->Int):List Nat:=(chW ws n).map fun c=>rst (kept n c).length (cpF n c f)
noncomputable def mx(rs:List Nat):Nat:=rs.foldr max 0
def cv(rs:List Nat):List Int:=(qA7 (mx rs+1)).map fun k=>((rs.count k:Nat):Int)
section
variable{n:Nat}{cs c:List Nat}(w:Wd n cs)(n1:1<=n)(hn:n<=10)(hc:c.length=n)(hsl:(sosL cs).length=n)
include w n1 hn hc hsl
end
end Mp
namespace Mp
open Mi PySem
def zGG:SM:=(sRet 0 0 [0] (eB divD (eBi lenD (aCons (eV 0) aNil)) (eC (.int 4))))
def zBD:FM:=runF 1 1 zGG
def zH8:SM:=(sSeq (sSet 2 0 [] (eC (.int 0)))
 (sSeq (sFor [0] (iRv (aCons (eV 0) aNil)) (.one 3) (sSet 2 1 [3,2,1] (eB addD (eB mulD (eV 2) (eV 1)) (eV 3))))
 (sRetV 1 2)))
def zCA:FM:=runF 2 4 zH8
def zCW:SM:=(sSeq (sIf (Mi.tOr (tNo (tM (eIsi "list" (eV 0)))) (tB (eB neD (eBi lenD (aCons (eV 0) aNil)) (eBi lenD (aCons (eV 1) aNil))))) (sRet 0 0 [] (eC (.bl false))) sNil)
 (sSeq (sFor [0] (iSq (eV 0)) (.one 2) (sIf (Mi.tOr (tNo (tM (eIsi "int" (eV 2)))) (tM (eIsi "bool" (eV 2)))) (sRet 0 0 [] (eC (.bl false))) sNil))
 (sRet 0 0 [0,1] (eB eqD (eV 0) (eV 1)))))
def zBG:FM:=runF 2 3 zCW
def zR1:SM:=(sSeq (sSet 2 0 [1,0] (eB modD (eV 1) (eBi lenD (aCons (eV 0) aNil))))
 (sRet 1 1 [0,2] (eB addD (eSl (eV 0) (oE (eV 2)) oNo) (eSl (eV 0) oNo (oE (eV 2))))))
def zPD:FM:=runF 2 3 zR1
def zIJ:SM:=(sRet 0 0 [1] (eB revD (eV 1) (eU negD (eC (.int 1)))))
def m_Mirror_done:FM:=runF 2 2 zIJ
def zK7:SM:=(sRet 0 0 [1,0] (eCallN zPD (aCons (eV 1) (aCons (eFld ["Shift"] "by" (eV 0)) aNil))))
def m_Shift_done:FM:=runF 2 2 zK7
def zIF:SM:=(sSeq (sIf (Mi.tOr (tB (eB neD (eBi lenD (aCons (eV 1) aNil)) (eC (.int 1)))) (tB (eB (inD true) (eV 1) (eV 0)))) (zTX "NoLetter" "letter" (aCons (eV 1) aNil)) sNil)
 (sRet 0 0 [1,0] (eMt zZK (eV 0) (aCons (eV 1) aNil))))
def zI0:FM:=runF 2 2 zIF
def zLF:SM:=(sRet 1 1 [0,1] (eTup (aCons (eCall zI0 (aCons (eV 0) (aCons (eV 1) aNil))) (aCons (eMt zXR (eV 0) (aCons (eV 1) aNil)) aNil))))
def zCU:FM:=runF 2 2 zLF
def zLH:SM:=(sSeq (sSet 2 1 [1,0] (eCall zCU (aCons (eV 1) (aCons (eFld ["Turn"] "letter" (eV 0)) aNil))))
 (sSeq (sSet 3 1 [2] (eB addD (eB ixD (eV 2) (eC (.int 0))) (eC (.int 1))))
 (sRet 0 0 [1,3,2] (eB addD (eB addD (eSl (eV 1) oNo (oE (eV 3))) (eB revD (eSl (eV 1) (oE (eV 3)) (oE (eB ixD (eV 2) (eC (.int 1))))) (eU negD (eC (.int 1))))) (eSl (eV 1) (oE (eB ixD (eV 2) (eC (.int 1)))) oNo)))))
def m_Turn_done:FM:=runF 2 4 zLH
def zNZ:SM:=(sSeq (sSet 3 1 [0,1] (eCall zCU (aCons (eV 0) (aCons (eV 1) aNil))))
 (sRet 0 0 [2,0,3] (eB eqD (eMt zUK (eSl (eV 0) (oE (eB addD (eB ixD (eV 3) (eC (.int 0))) (eC (.int 1)))) (oE (eB ixD (eV 3) (eC (.int 1))))) (aCons (eV 2) aNil)) (eC (.int 1)))))
def zNM:FM:=runF 3 4 zNZ
def zLG:SM:=(sSeq (sSet 2 1 [0,1] (eSl (eV 0) (oE (eB addD (eB ixD (eV 1) (eC (.int 0))) (eC (.int 1)))) (oE (eB ixD (eV 1) (eC (.int 1))))))
 (sSeq (sSet 3 1 [0,1] (eSl (eV 0) (oE (eB ixD (eV 1) (eC (.int 1)))) (oE (eB addD (eB ixD (eV 1) (eC (.int 2))) (eC (.int 1))))))
 (sSeq (sSet 4 1 [0,1] (eSl (eV 0) (oE (eB addD (eB ixD (eV 1) (eC (.int 2))) (eC (.int 1)))) (oE (eB ixD (eV 1) (eC (.int 3))))))
 (sRet 1 1 [2,0,3,4,1] (eB addD (eB addD (eB addD (eB addD (eSl (eV 0) oNo (oE (eB addD (eB ixD (eV 1) (eC (.int 0))) (eC (.int 1))))) (eV 4)) (eV 3)) (eV 2)) (eSl (eV 0) (oE (eB ixD (eV 1) (eC (.int 3)))) oNo))))))
def zKV:FM:=runF 2 5 zLG
def zLJ:SM:=(sSeq (sSet 2 1 [1,0] (eB sadD (eCall zCU (aCons (eV 1) (aCons (eFld ["Swap"] "one" (eV 0)) aNil))) (eCall zCU (aCons (eV 1) (aCons (eFld ["Swap"] "other" (eV 0)) aNil)))))
 (sSeq (sIf (tNo (tM (eCall zNM (aCons (eV 1) (aCons (eFld ["Swap"] "one" (eV 0)) (aCons (eFld ["Swap"] "other" (eV 0)) aNil)))))) (sRaise0 "NoCross" (aCons (eC (.str "the letters do not cross in the word")) aNil)) sNil)
 (sRet 0 0 [1,2] (eCallN zKV (aCons (eV 1) (aCons (eV 2) aNil))))))
def m_Swap_done:FM:=runF 2 3 zLJ
def zII:SM:=(sSeq (sSet 2 0 [0,1] (eB ixD (eLst (aCons (eTup (aCons (eC (.int 1)) (aCons (eC (.int 0)) (aCons (eC (.int 3)) (aCons (eC (.int 2)) aNil))))) (aCons (eTup (aCons (eC (.int 2)) (aCons (eC (.int 3)) (aCons (eC (.int 0)) (aCons (eC (.int 1)) aNil))))) (aCons (eTup (aCons (eC (.int 3)) (aCons (eC (.int 2)) (aCons (eC (.int 1)) (aCons (eC (.int 0)) aNil))))) aNil)))) (eB ixD (eV 0) (eB divD (eV 1) (eC (.int 4))))))
 (sRet 1 1 [1,2] (eB addD (eB subD (eV 1) (eB modD (eV 1) (eC (.int 4)))) (eB ixD (eV 2) (eB modD (eV 1) (eC (.int 4)))))))
def zI1:FM:=runF 2 3 zII
def zK5:SM:=(sSeq (sSet 3 9 [] (eLst aNil))
 (sSeq (sSet 4 0 [2] (eV 2))
 (sSeq (zTW (Mi.tOr (tB (eB eqD (eV 3) (eLst aNil))) (tB (eB neD (eV 4) (eV 2)))) (sSeq (sApp 3 0 (eV 4))
 (sSeq (sApp 3 1 (eCall zI1 (aCons (eV 1) (aCons (eV 4) aNil))))
 (sSet 4 0 [0,3] (eB ixD (eV 0) (eB ixD (eV 3) (eU negD (eC (.int 1)))))))))
 (sRetV 9 3))))
def zJE:FM:=runF 3 5 zK5
def zIH:SM:=(sSeq (sSet 2 1 [] zZO)
 (sSeq (sSet 3 9 [] (eLst aNil))
 (sSeq (sForR (iR1 (aCons (eBi lenD (aCons (eV 0) aNil)) aNil)) 4 (sIf (tB (eB (dinD true) (eV 4) (eV 2))) (sSeq (sSet 5 9 [0,1,4] (eCall zJE (aCons (eV 0) (aCons (eV 1) (aCons (eV 4) aNil)))))
 (sSeq (sFor [5] (iSq (eV 5)) (.one 6) (zaW 2 (eV 6) (eC (.bl true))))
 (zXN 3 [5] (eV 5)))) sNil))
 (sRetV 1 3))))
def m__law_rounds:FM:=runF 2 7 zIH
def zIE:SM:=(sRet 0 0 [1,0] (eB xorD (eV 1) (eB addD (eV 0) (eC (.int 1)))))
def zCL:FM:=runF 2 2 zIE
def zK4:SM:=(sSeq (sSet 2 0 [1] (eB divD (eV 1) (eC (.int 4))))
 (sRet 1 1 [2,0,1] (eB addD (eB mulD (eV 2) (eC (.int 4))) (eCall zCL (aCons (eB ixD (eV 0) (eV 2)) (aCons (eB modD (eV 1) (eC (.int 4))) aNil))))))
def zFA:FM:=runF 2 3 zK4
def zNY:SM:=(sSeq (sSet 3 1 [2,1] (eLst (aCons (eV 2) (aCons (eCall zFA (aCons (eV 1) (aCons (eV 2) aNil))) aNil))))
 (sSeq (zTW (tB (eB neD (eB ixD (eV 0) (eB ixD (eV 3) (eU negD (eC (.int 1))))) (eV 2))) (sSeq (sSet 4 0 [0,3] (eB ixD (eV 0) (eB ixD (eV 3) (eU negD (eC (.int 1))))))
 (sExt 3 0 (eLst (aCons (eV 4) (aCons (eCall zFA (aCons (eV 1) (aCons (eV 4) aNil))) aNil))))))
 (sRetV 1 3)))
def zNL:FM:=runF 3 5 zNY
def zLE:SM:=(sSeq (sSet 2 9 [] (eLst aNil))
 (sSeq (sSet 3 1 [] zZO)
 (sSeq (sForR (iR1 (aCons (eBi lenD (aCons (eV 0) aNil)) aNil)) 4 (sIf (tB (eB (dinD true) (eV 4) (eV 3))) (sSeq (sSet 5 1 [0,1,4] (eCall zNL (aCons (eV 0) (aCons (eV 1) (aCons (eV 4) aNil)))))
 (sSeq (zXN 2 [5] (eV 5))
 (zaU 3 (eComp (iSq (eV 5)) 1 (.one 6) Mi.tYes (eTup (aCons (eV 6) (aCons (eC (.bl true)) aNil))))))) sNil))
 (sRetV 1 2))))
def m_rounds_of:FM:=runF 2 6 zLE
def zIK:SM:=(sRet 0 0 [] (zZN "Mirror"))
def m_Mirror_back:FM:=runF 1 1 zIK
def zK8:SM:=(sRet 0 0 [0] (eNew "Shift" ["by"] (aCons (eU negD (eFld ["Shift"] "by" (eV 0))) aNil)))
def m_Shift_back:FM:=runF 1 1 zK8
def zLK:SM:=(sRet 0 0 [0] (eNew "Swap" ["one","other"] (aCons (eFld ["Swap"] "one" (eV 0)) (aCons (eFld ["Swap"] "other" (eV 0)) aNil))))
def m_Swap_back:FM:=runF 1 1 zLK
def zLI:SM:=(sRet 0 0 [0] (eNew "Turn" ["letter"] (aCons (eFld ["Turn"] "letter" (eV 0)) aNil)))
def m_Turn_back:FM:=runF 1 1 zLI
def zIG:SM:=(sSeq (sIf (tM (eIsO ["Turn"] ["Change","Swap","Mirror","Shift"] (eV 0))) (sRet 1 1 [0] (eTup (aCons (eC (.str "turn")) (aCons (eFld ["Turn"] "letter" (eV 0)) aNil)))) sNil)
 (sSeq (sIf (tM (eIsO ["Swap"] ["Change","Turn","Mirror","Shift"] (eV 0))) (sRet 1 1 [0] (eTup (aCons (eC (.str "swap")) (aCons (eFld ["Swap"] "one" (eV 0)) (aCons (eFld ["Swap"] "other" (eV 0)) aNil))))) sNil)
 (sSeq (sIf (tM (eIsO ["Mirror"] ["Change","Turn","Swap","Shift"] (eV 0))) (sRet 1 1 [] (eTup (aCons (eC (.str "mirror")) aNil))) sNil)
 (sSeq (sIf (tM (eIsO ["Shift"] ["Change","Turn","Swap","Mirror"] (eV 0))) (sRet 1 1 [0] (eTup (aCons (eC (.str "shift")) (aCons (eFld ["Shift"] "by" (eV 0)) aNil)))) sNil)
 (sRet 1 1 [] (eTup (aCons (eC (.str "none")) aNil)))))))
def m__law_values:FM:=runF 1 1 zIG
def zGJ:SM:=(sSeq (sSet 2 9 [] (eLst aNil))
 (sSeq (sForR (iR1 (aCons (eBi maxD (aCons (eV 1) (aCons (eBi minD (aCons (eC (.int 63)) (aCons (eBi lenD (aCons (eV 0) aNil)) aNil))) aNil))) aNil)) 3 (sSeq (sSet 4 1 [3] (eB addD (eB mulD (eC (.int 7)) (eV 3)) (eC (.int 3))))
 (sSeq (sIf (tB (eB (cmpD fun i j=>decide (j<i)) (eBi lenD (aCons (eV 0) aNil)) (eC (.int 0)))) (sSet 4 0 [0,3] (eB modD (eB ixD (eV 0) (eB modD (eV 3) (eBi lenD (aCons (eV 0) aNil)))) (eC (.int 1000003)))) sNil)
 (sSeq (sSet 5 0 [4,3] (eB modD (eB mulD (eB modD (eB addD (eB mulD (eB addD (eV 4) (eC (.int 1))) (eC (.int 48271))) (eB mulD (eB mulD (eV 3) (eV 3)) (eC (.int 7919)))) (eC (.int 1000000007))) (eC (.int 40692))) (eC (.int 2147483399))))
 (sApp 2 1 (eB addD (eB mulD (eV 5) (eC (.int 2147483647))) (eB modD (eB addD (eB mulD (eV 5) (eC (.int 69621))) (eV 3)) (eC (.int 2147483647)))))))))
 (sRetV 9 2)))
def zBQ:FM:=runF 2 6 zGJ
def zK6:SM:=(sSeq (sIf (Mi.tOr (tB (eB eqD (eBi lenD (aCons (eV 0) aNil)) (eC (.int 0)))) (tB (eB eqD (eB modD (eB ixD (eV 0) (eC (.int 0))) (eC (.int 2))) (eC (.int 0))))) (sRet 1 9 [0,1] (eCall zBQ (aCons (eV 0) (aCons (eV 1) aNil)))) sNil)
 (sSeq (sSet 2 1 [0] (eComp (iSq (eSlZ (eV 0) oNo (oE (eC (.int 63))))) 1 (.one 3) Mi.tYes (eB modD (eV 3) (eB powD (eC (.int 10)) (eC (.int 60))))))
 (sRet 1 1 [2,1] (eB addD (eV 2) (eB repD (eLst (aCons (eC (.int 0)) aNil)) (eB subD (eV 1) (eBi lenD (aCons (eV 2) aNil))))))))
def zD7:FM:=runF 2 3 zK6
def zCX:SM:=(sSeq (sSet 2 1 [1] (eBi rangeD (aCons (eB mulD (eC (.int 4)) (eV 1)) aNil)))
 (sSeq (sSet 3 1 [1] (eB repD (eLst (aCons (eC (.int 0)) aNil)) (eB mulD (eC (.int 4)) (eV 1))))
 (sSeq (sForR (iR1 (aCons (eB mulD (eC (.int 2)) (eV 1)) aNil)) 4 (sSeq (sPop 5 2 (eC (.int 0)))
 (sSeq (sSet 6 0 [0,4] (eB divD (eB ixD (eV 0) (eB modD (eV 4) (eBi lenD (aCons (eV 0) aNil)))) (eB addD (eC (.int 1)) (eB divD (eV 4) (eBi lenD (aCons (eV 0) aNil))))))
 (sSeq (sPop 7 2 (eB modD (eV 6) (eBi lenD (aCons (eV 2) aNil))))
 (sSeq (sItem 3 0 (eV 5) (eV 7))
 (sItem 3 0 (eV 7) (eV 5)))))))
 (sRetV 1 3))))
def zBP:FM:=runF 2 8 zCX
def zGH:SMM:=(mSeq (mLift (sSet 3 0 [0,1] (eB ixD (eVL 0) (eV 1))))
 (mSeq (mLift (sSet 4 0 [0,2] (eB ixD (eVL 0) (eV 2))))
 (mSeq (mLift (sItemL 0 0 (eV 1) (eC .non)))
 (mSeq (mLift (sItemL 0 0 (eV 2) (eC .non)))
 (mSeq (mIf (tB (eB eqD (eV 3) (eV 2))) (mRet (eC (.int 1))) (mLift sNil))
 (mSeq (mLift (sItemL 0 0 (eV 3) (eV 4)))
 (mSeq (mLift (sItemL 0 0 (eV 4) (eV 3)))
 (mRet (eC (.int 0))))))))))
def zB4:FW:=uniM (runM 0 3 5 0 1 zGH)
def zFB:SMM:=(mSeq (mLift (sSet 3 0 [] (eC (.int 0))))
 (mSeq (mLift (sForR (iR1 (aCons (eC (.int 4)) aNil)) 4 (sSeq (sSet 5 0 [2,4] (eCall zCL (aCons (eV 2) (aCons (eV 4) aNil))))
 (sIf (tB (eB (cmpD fun i j=>decide (i<j)) (eV 4) (eV 5))) (sAddW 3 0 1 (aCons (eB addD (eB mulD (eV 1) (eC (.int 4))) (eV 4)) (aCons (eB addD (eB mulD (eV 1) (eC (.int 4))) (eV 5)) aNil)) zB4) sNil))))
 (mRet (eV 3))))
def zBE:FW:=uniM (runM 0 3 6 0 1 zFB)
def zH9:SM:=(sRet 0 0 [1,0] (eIf (tB (eB (cmpD fun i j=>decide (i<j)) (eV 1) (eBi lenD (aCons (eV 0) aNil)))) (eB ixD (eV 0) (eV 1)) (eC (.int 0))))
def zBY:FM:=runF 2 2 zH9
def zMZ:SM:=(sSeq (sSet 2 0 [0,1] (eBi maxD (aCons (eBi lenD (aCons (eV 0) aNil)) (aCons (eBi lenD (aCons (eV 1) aNil)) aNil))))
 (sRet 2 2 [0,1,2] (eComp (iR1 (aCons (eV 2) aNil)) 1 (.one 3) Mi.tYes (eB addD (eCall zBY (aCons (eV 0) (aCons (eV 3) aNil))) (eCall zBY (aCons (eV 1) (aCons (eV 3) aNil)))))))
def zCT:FM:=runF 2 3 zMZ
def zDF:SM:=(sSeq (sSet 2 2 [] eDtt0)
 (sSeq (sFor [0] (iDk (eV 0)) (.one 3) (sFor [] (iSq (eC (.scr [0,1,2]))) (.one 4) (sSeq (sSet 5 1 [3] (eBi listD (aCons (eV 3) aNil)))
 (sSeq (sCallW 6 5 1 0 (aCons (eV 1) (aCons (eV 4) aNil)) zBE)
 (sTmpPut 7 2 2 (eTGet (eV 2) (eBi tupD (aCons (eV 5) aNil)) (eLst aNil)) (eBi tupD (aCons (eV 5) aNil)) (eCall zCT (aCons (eV 7) (aCons (eB addD (eB repD (eLst (aCons (eC (.int 0)) aNil)) (eV 6)) (eTIx (eV 0) (eV 3))) aNil))))))))
 (sRetV 2 2)))
def zAR:FM:=runF 2 8 zDF
def zGI:SM:=(sSeq (sIf (tB (eB (cmpD fun i j=>decide (j<i)) (eCallN zBD (aCons (eV 0) aNil)) (eC (.int 6)))) (sRaise0 "TooMany" (aCons (eC (.str "counts are told of nets of at most six places")) aNil)) sNil)
 (sSeq (sSet 2 0 [1,0] (eIf (tB (eB isD (eV 1) (eC .non))) (eBi rangeD (aCons (eCallN zBD (aCons (eV 0) aNil)) aNil)) (eV 1)))
 (sSeq (sSet 3 2 [0] (eTOne (eBi tupD (aCons (eV 0) aNil)) (eLst (aCons (eC (.int 1)) aNil))))
 (sSeq (sFor [2] (iSq (eV 2)) (.one 4) (sSet 3 2 [3,4] (eCallN zAR (aCons (eV 3) (aCons (eV 4) aNil)))))
 (sRetTIx 1 3 (eBi tupD (aCons (eComp (iSq (eV 0)) 1 (.one 5) Mi.tYes (eC .non)) aNil)))))))
def zAU:FM:=runF 2 5 zGI
def zC6:SM:=(sSeq (sSet 2 1 [1] (eBi rangeD (aCons (eB mulD (eC (.int 4)) (eV 1)) aNil)))
 (sSeq (sSet 3 1 [1] (eB repD (eLst (aCons (eC (.int 0)) aNil)) (eB mulD (eC (.int 4)) (eV 1))))
 (sSeq (sForR (iR1 (aCons (eB mulD (eC (.int 2)) (eV 1)) aNil)) 4 (sSeq (sPop 5 2 (eC (.int 0)))
 (sSeq (sPop 6 2 (eB modD (eV 0) (eBi lenD (aCons (eV 2) aNil))))
 (sSeq (sSet 0 0 [0,2] (eB divD (eV 0) (eB addD (eBi lenD (aCons (eV 2) aNil)) (eC (.int 1)))))
 (sSeq (sItem 3 0 (eV 5) (eV 6))
 (sItem 3 0 (eV 6) (eV 5)))))))
 (sRetV 1 3))))
def zAV:FM:=runF 2 7 zC6
def zAX:FM:=lamF 2 (eIf (tB (eB (cmpD fun i j=>decide (i<j)) (eV 0) (eV 1))) (eB mulD (eC (.int 2)) (eV 0)) (eB addD (eB mulD (eC (.int 2)) (eB subD (eV 0) (eV 1))) (eC (.int 1))))
def zC7:SM:=(sSeq (sSet 3 0 [0] (eB divD (eBi lenD (aCons (eV 0) aNil)) (eC (.int 4))))
 (sSeq (sSet 4 1 [3,1] (eB addD (eV 3) (eB divD (eBi lenD (aCons (eV 1) aNil)) (eC (.int 4)))))
 (sSeq (sSet 5 1 [4] (eBi rangeD (aCons (eV 4) aNil)))
 (sSeq (sIf (tM (eV 2)) (sSeq (sSet 5 1 [4,3] (eSortK (aCons (eV 4) aNil) zAX 3))
 (sSet 5 1 [5,4] (eComp (iR1 (aCons (eV 4) aNil)) 1 (.one 10) Mi.tYes (eMl lixD (eV 5) (aCons (eV 10) aNil))))) sNil)
 (sSeq (sSet 6 1 [4] (eB repD (eLst (aCons (eC (.int 0)) aNil)) (eB mulD (eC (.int 4)) (eV 4))))
 (sSeq (sSet 7 2 [8,9,0] (eComp (iEn (aCons (eV 0) aNil)) 2 (.tup [10,11]) Mi.tYes (eTup (aCons (eV 10) (aCons (eV 11) aNil)))))
 (sSeq (sSet 7 1 [7,8,9,1,3] (eB addD (eV 7) (eComp (iEn (aCons (eV 1) aNil)) 2 (.tup [10,11]) Mi.tYes (eTup (aCons (eB addD (eB mulD (eC (.int 4)) (eV 3)) (eV 10)) (aCons (eB addD (eB mulD (eC (.int 4)) (eV 3)) (eV 11)) aNil))))))
 (sSeq (sFor [7] (iSq (eV 7)) (.tup [8,9]) (sItem 6 1 (eB addD (eB mulD (eC (.int 4)) (eB ixD (eV 5) (eB divD (eV 8) (eC (.int 4))))) (eB modD (eV 8) (eC (.int 4)))) (eB addD (eB mulD (eC (.int 4)) (eB ixD (eV 5) (eB divD (eV 9) (eC (.int 4))))) (eB modD (eV 9) (eC (.int 4))))))
 (sRetV 1 6)))))))))
def zC5:FM:=runF 3 10 zC7
def zC1:SM:=(sSeq (sSet 2 1 [0,1] (eB repD (eLst (aCons (eC (.int 0)) aNil)) (eB subD (eB addD (eBi lenD (aCons (eV 0) aNil)) (eBi lenD (aCons (eV 1) aNil))) (eC (.int 1)))))
 (sSeq (sForR (iR1 (aCons (eBi lenD (aCons (eV 0) aNil)) aNil)) 3 (sForR (iR1 (aCons (eBi lenD (aCons (eV 1) aNil)) aNil)) 4 (sItem 2 1 (eB addD (eV 3) (eV 4)) (eB addD (eB ixD (eV 2) (eB addD (eV 3) (eV 4))) (eB mulD (eB ixD (eV 0) (eV 3)) (eB ixD (eV 1) (eV 4)))))))
 (sRetV 1 2)))
def zBZ:FM:=runF 2 5 zC1
def zR2:SM:=(sSeq (sSet 1 1 [0] (eCall zD7 (aCons (eV 0) (aCons (eC (.int 18)) aNil))))
 (sSeq (sSet 2 2 [1] (eTup (aCons (eB addD (eC (.int 1)) (eB modD (eB divD (eB ixD (eV 1) (eC (.int 0))) (eC (.int 2))) (eC (.int 3)))) (aCons (eB addD (eC (.int 1)) (eB modD (eB divD (eB ixD (eV 1) (eC (.int 0))) (eC (.int 6))) (eC (.int 3)))) aNil))))
 (sSeq (sSet 3 1 [1,2] (eCall zBP (aCons (eSl (eV 1) (oE (eC (.int 3))) (oE (eC (.int 9)))) (aCons (eB ixD (eV 2) (eC (.int 0))) aNil))))
 (sSeq (sSet 4 1 [1,2] (eCall zBP (aCons (eSl (eV 1) (oE (eC (.int 9))) (oE (eC (.int 15)))) (aCons (eB ixD (eV 2) (eC (.int 1))) aNil))))
 (sSeq (sIf (tAn (tB (eB (cmpD fun i j=>decide (j<i)) (eBi lenD (aCons (eV 0) aNil)) (eC (.int 0)))) (tB (eB eqD (eB modD (eB ixD (eV 0) (eC (.int 0))) (eC (.int 2))) (eC (.int 1))))) (sSeq (sSet 3 1 [1,2] (eCall zAV (aCons (eB ixD (eV 1) (eC (.int 3))) (aCons (eB ixD (eV 2) (eC (.int 0))) aNil))))
 (sSet 4 1 [1,2] (eCall zAV (aCons (eB ixD (eV 1) (eC (.int 4))) (aCons (eB ixD (eV 2) (eC (.int 1))) aNil))))) sNil)
 (sSeq (sSet 5 1 [3,4,1] (eCall zC5 (aCons (eV 3) (aCons (eV 4) (aCons (eB eqD (eB modD (eB divD (eB ixD (eV 1) (eC (.int 0))) (eC (.int 18))) (eC (.int 2))) (eC (.int 1))) aNil)))))
 (sSeq (sSet 6 2 [3,4] (eLst (aCons (eCallD zAU (aCons (eV 3) aNil)) (aCons (eCallD zAU (aCons (eV 4) aNil)) aNil))))
 (sSeq (sFor [6] (iSq (eV 6)) (.one 7) (sIf (Mi.tOr (tNo (tM (eIsi "list" (eV 7)))) (tNo (tM (eCall zBG (aCons (eV 7) (aCons (eBi listD (aCons (eV 7) aNil)) aNil)))))) (sRet 0 0 [] (eC (.bl false))) sNil))
 (sSeq (sSet 8 1 [6] (eCall zBZ (aCons (eB ixD (eV 6) (eC (.int 0))) (aCons (eB ixD (eV 6) (eC (.int 1))) aNil))))
 (sSeq (sSet 9 0 [5] (eB divD (eBi lenD (aCons (eV 5) aNil)) (eC (.int 4))))
 (sSeq (sSet 10 0 [9,1] (eB modD (eB ixD (eV 1) (eC (.int 1))) (eV 9)))
 (sSeq (sSet 11 1 [10,9] (eB addD (eSl (eBi rangeD (aCons (eV 9) aNil)) (oE (eV 10)) oNo) (eBi rvsD (aCons (eSl (eBi rangeD (aCons (eV 9) aNil)) oNo (oE (eV 10))) aNil))))
 (sSeq (sIf (Mi.tOr (tNo (tM (eCall zBG (aCons (eCallD zAU (aCons (eV 5) aNil)) (aCons (eV 8) aNil))))) (tNo (tM (eCall zBG (aCons (eCall zAU (aCons (eV 5) (aCons (eV 11) aNil))) (aCons (eV 8) aNil)))))) (sRet 0 0 [] (eC (.bl false))) sNil)
 (sSeq (sSet 12 0 [1] (eB subD (eB modD (eB ixD (eV 1) (eC (.int 2))) (eC (.int 41))) (eC (.int 20))))
 (sRet 0 0 [12,5,6] (eB eqD (eCall zCA (aCons (eCallD zAU (aCons (eV 5) aNil)) (aCons (eV 12) aNil))) (eB mulD (eCall zCA (aCons (eB ixD (eV 6) (eC (.int 0))) (aCons (eV 12) aNil))) (eCall zCA (aCons (eB ixD (eV 6) (eC (.int 1))) (aCons (eV 12) aNil))))))))))))))))))))
def zJD:FM:=runF 1 13 zR2
end Mp
namespace Mp
open Mi PySem
theorem bx4:∀s:Nat,s<4->∀w:Nat,w<3->qKi (s:Int) ((w:Int)+1)=((s^^^(w+1):Nat):Int):=by decide
theorem zKY{w s:Nat}(hw:w<3)(hs:s<4):zCL [.int (w:Int),.int (s:Int)]=okR (.int ((s^^^(w+1):Nat):Int)):=by
 refine zD3 rfl ?_;show zIE [some (.int (w:Int),0),some (.int (s:Int),0)]=_;unfold zIE;simp[bx4 s hs w hw]
noncomputable def oD:Option Nat->Dt
 |none=>.non
 |some k=>.int (k:Nat)
abbrev tyR(t:Ty):List Dt:=t.map oD
theorem zMO(o:Option Nat):(oD o).dep=0:=by cases o<;>rfl
theorem zL7:∀t:Ty,Dt.depL (tyR t)=0
 |[]=>rfl
 |o::r=>by show Dt.depL (oD o::tyR r)=0;rw[Dt.depL,zMO,zL7 r];rfl
theorem zZX(t:Ty):(Dt.lst (tyR t)).dep=1/\(Dt.tup (tyR t)).dep=1:=⟨by rw[Dt.dep,zL7],by rw[Dt.dep,zL7]⟩
theorem zZ7{t:Ty}{a:Nat}(h:a<t.length):ixD (.lst (tyR t)) (.int (a:Int))=some (oD (t.getD a none)):=by
 show itA (tyR t) (a:Int)=_;refine zME (j:=a) rfl ?_;simp[h]
theorem zXI(t:Ty)(a:Nat)(o:Option Nat):(tyR t).set a (oD o)=tyR (t.set a o):=by
 show(t.map oD).set a (oD o)=(t.set a o).map oD;rw[qE4]
theorem mnx{s:SM}{m:SMM}{ρ ρ':Ro}(h:s ρ=okR (.nx ρ')):mSeq (mLift s) m ρ=m ρ':=by
 unfold mSeq mLift;rw[h];rfl
theorem zSQ{i n k p:Nat}{e1 e2:EM}{t:Ty}{ρ:Ro}{a:Nat}{o:Option Nat}(hr:ρ[i]?=some (some (.loc p (.lst (tyR t)),k+2)))(h2:e2 (full ρ)=okR (oD o))(h1:e1 (full ρ)=okR (.int (a:Int)))(ha:a<t.length) :
  sItemL i n e1 e2 ρ=okR (.nx (ρ.set i (some (.loc p (.lst (tyR (t.set a o))),k+2)))):=by
 unfold sItemL;rw[h2,zA0,hr];dsimp only;rw[h1,zA0];dsimp only;rw[zPM (n:=(tyR t).length) (by lia) (by simpa using ha)];dsimp only;rw[zMO,if_pos ⟨qAu _,qAu _⟩]
 have:(a:Int).toNat=a:=rfl;rw[this,zXI]
theorem eqo(o:Option Nat)(b:Nat):eqD (oD o) (.int (b:Int))=some (.bl (decide (o=some b))):=by
 cases o with
 |none=>simp[oD,eqD,Dt.dep,Dt.eq]
 |some a=>
  simp[oD,eqD,Dt.dep,Dt.eq];lia
theorem mend{l:Nat}{ρ:Ro}{X d:Dt}{e:EM}(h0:ρ[0]?=some (some (.loc l X,2)))(he:e (full ρ)=okR d)(hd:d.dep=0):zA2 (mRet e ρ) (endM 0 0 1 l)=okR (d,X):=by
 unfold mRet;rw[he,zA0,if_pos hd,zA0];unfold endM heldAt;dsimp only;rw[h0];dsimp only;rw[if_pos ⟨rfl,rfl⟩];rfl
theorem zGP{M:Nat}{t:Ty}{a b far near:Nat}(h:Mt M t)(ha:t.getD a none=some far)(hb:t.getD b none=some near)(hab:a≠b):zB4 [.lst (tyR t),.int (a:Int),.int (b:Int)]=okR (.int ((jE t a b).2:Int),.lst (tyR (jE t a b).1)):=by
 have la:=h.lt ha;have lb:=h.lt hb;have lf:=(h.inv a far ha).1;have ln:=(h.inv b near hb).1;have hl:=h.len;refine zO4 fun l=>?_
 unfold runM;rw[if_pos ⟨rfl,by decide⟩];have e0:startM 5 0 1 l [.lst (tyR t),.int (a:Int),.int (b:Int)]=[some (.loc l (.lst (tyR t)),2),some (.int (a:Int),0),some (.int (b:Int),0),none,none]:=rfl;rw[e0];unfold zGH;rw[mnx (ρ':=[some (.loc l (.lst (tyR t)),2),some (.int (a:Int),0),some (.int (b:Int),0),some (oD (some far),0),none]) (ss (b2 rfl rfl (by rw[zZ7 (by lia),ha])) (qDk (zMO _)))];rw[mnx (ρ':=[some (.loc l (.lst (tyR t)),2),some (.int (a:Int),0),some (.int (b:Int),0),some (oD (some far),0),some (oD (some near),0)]) (ss (b2 rfl rfl (by rw[zZ7 (by lia),hb])) (qDk (zMO _)))];rw[mnx (zSQ (o:=none) (t:=t) (k:=0) rfl rfl rfl (by lia))];rw[mnx (zSQ (o:=none) (t:=t.set a none) (k:=0) rfl rfl rfl (by simp;lia))];have tb:tB (eB eqD (eV 3) (eV 2)) (full [some (.loc l (.lst (tyR ((t.set a none).set b none))),2),some (.int (a:Int),0),some (.int (b:Int),0),some (oD (some far),0),some (oD (some near),0)])=okR (decide (some far=some b)):=tb1 (b2 (d1:=oD (some far)) (d2:=.int (b:Int)) rfl rfl (eqo (some far) b));have j:=zL0 h ha hb hab
 by_cases z:far=b
 ·have e1:jE t a b=((t.set a none).set b none,1):=by unfold jE;rw[ha];exact if_pos z
  rw[e1];unfold mSeq mIf;dsimp only[List.set];rw[tb,zA0,if_pos (by simp[z])];show zA2 (mRet (eC (.int 1)) _) _=_;exact mend rfl rfl rfl
 ·have e1:jE t a b=((((t.set a none).set b none).set far (some near)).set near (some far),0):=by unfold jE;rw[ha,hb];exact if_neg z
  rw[e1];have em:∀m:SMM,mSeq (mIf (tB (eB eqD (eV 3) (eV 2))) (mRet (eC (.int 1))) (mLift sNil)) m ([some (.loc l (.lst (tyR ((t.set a none).set b none))),2),some (.int (a:Int),0),some (.int (b:Int),0),some (oD (some far),0),some (oD (some near),0)])=m ([some (.loc l (.lst (tyR ((t.set a none).set b none))),2),some (.int (a:Int),0),some (.int (b:Int),0),some (oD (some far),0),some (oD (some near),0)]):=fun m=>by
   unfold mSeq mIf;rw[tb,zA0,if_neg (by simp[z])];rfl
  dsimp only[List.set];rw[em];rw[mnx (zSQ (o:=some near) (t:=(t.set a none).set b none) (a:=far) (k:=0) rfl rfl rfl (by simp;lia))];rw[mnx (zSQ (o:=some far) (t:=((t.set a none).set b none).set far (some near)) (a:=near) (k:=0) rfl rfl rfl (by simp;lia))];exact mend rfl rfl rfl
theorem addW{M:Nat}{t:Ty}{a b far near l c:Nat}{s:Int}{ρ:Ro}{e1 e2:EM}(h:Mt M t)(ha:t.getD a none=some far)(hb:t.getD b none=some near)(hab:a≠b)(h0:ρ[0]?=some (some (.loc l (.lst (tyR t)),2)))(h3:ρ[3]?=some (some (.int s,c)))
  (q1:e1 (frz ρ)=okR (.int (a:Int))) (q2:e2 (frz ρ)=okR (.int (b:Int))):sAddW 3 0 1 (aCons e1 (aCons e2 aNil)) zB4 ρ=okR (.nx ((ρ.set 0 (some (.loc l (.lst (tyR (jE t a b).1)),2))).set 3 (some (.int (s+(jE t a b).2),0)))):=by
 unfold sAddW;rw[h0,h3];dsimp only;rw[if_pos ⟨rfl,by decide⟩,zB8,q1,zA0,zB8,q2,zA0,zC8,zA0,zA0,zA0,zGP h ha hb hab,zA0]
theorem zR6:∀w,w<3->∀s,s<4->(s<(s^^^(w+1))↔s=0\/s=sa9 w)/\(s=0->(s^^^(w+1))=w+1)/\(s=sa9 w->(s^^^(w+1))=sb9 w):=by decide
theorem zG7{M:Nat}{t:Ty}{p w:Nat}(h:Mt M t)(hal:∀s,s<4->t.getD (4*p+s) none≠none)(hw:w<3):zBE [.lst (tyR t),.int (p:Int),.int (w:Int)]=okR (.int ((jP t p w).2:Int),.lst (tyR (jP t p w).1)):=by
 obtain⟨a1,a2,a3,a4,a5,a6,a7,a8⟩:=zKJ w hw;have some_of:∀{o:Option Nat},o≠none->∃f,o=some f:=fun{o} ho=>by cases o with|none=>exact absurd rfl ho|some f=>exact⟨f,rfl⟩
 obtain⟨f,hf⟩:=some_of (hal 0 (by lia));obtain⟨g,hg⟩:=some_of (hal (w+1) (by lia));rw[qF3]at hf;have n1:4*p≠4*p+(w+1):=by lia
 have m1:=zW8 h hf hg n1;have d1:=zKZ h hf hg n1;have al:∀s,s<4->s≠0->s≠w+1->(jE t (4*p) (4*p+(w+1))).1.getD (4*p+s) none≠none:=fun s hs h0 h1 z=>by
  rcases(d1 _).mp z with z|z|z
  ·lia
  ·lia
  ·exact hal s hs z
 obtain⟨f',hf'⟩:=some_of (al (sa9 w) a1 a4 a6);obtain⟨g',hg'⟩:=some_of (al (sb9 w) a2 a5 a7);have n2:4*p+sa9 w≠4*p+sb9 w:=by lia
 refine zO4 fun l=>?_
 unfold runM;rw[if_pos ⟨rfl,by decide⟩];have e0:startM 6 0 1 l [.lst (tyR t),.int (p:Int),.int (w:Int)]=[some (.loc l (.lst (tyR t)),2),some (.int (p:Int),0),some (.int (w:Int),0),none,none,none]:=rfl;rw[e0];unfold zFB;rw[mnx (ρ':=[some (.loc l (.lst (tyR t)),2),some (.int (p:Int),0),some (.int (w:Int),0),some (.int 0,0),none,none]) rfl]
 let T:Nat->Ty:=fun k=>if k=0 then t else if k<=sa9 w then(jE t (4*p) (4*p+(w+1))).1 else(jP t p w).1
 let Cn:Nat->Nat:=fun k=>if k=0 then 0 else if k<=sa9 w then(jE t (4*p) (4*p+(w+1))).2 else(jP t p w).2
 have hbody:∀(j:Nat)(d:Dt)(r:Ro),(nums 0 4)[j]?=some d->(∃x y,r=[some (.loc l (.lst (tyR (T (0+j)))),2),some (.int (p:Int),0),some (.int (w:Int),0),some (.int (Cn (0+j):Int),0),x,y]) ->
   ∃bs r',zAO (.one 4) d=some bs/\(sSeq (sSet 5 0 [2,4] (eCall zCL (aCons (eV 2) (aCons (eV 4) aNil)))) (sIf (tB (eB (cmpD fun i j=>decide (i<j)) (eV 4) (eV 5))) (sAddW 3 0 1 (aCons (eB addD (eB mulD (eV 1) (eC (.int 4))) (eV 4)) (aCons (eB addD (eB mulD (eV 1) (eC (.int 4))) (eV 5)) aNil)) zB4) sNil)) (zAQ r bs)=okR (.nx r')/\∃x y,r'=[some (.loc l (.lst (tyR (T (0+j+1)))),2),some (.int (p:Int),0),some (.int (w:Int),0),some (.int (Cn (0+j+1):Int),0),x,y]:=by
  rintro s d r hd ⟨x,y,rfl⟩
  rw[zDJ,qA8]at hd;have hs:s<4:=by
   cases hq:(qA7 4)[s]? with
   |none=>rw[hq]at hd;cases hd
   |some q=>simpa using(qA3.mp hq).1
  have hd':d=.int (s:Int):=by
   rw[qBs hs]at hd;simp at hd;exact hd.symm
  subst hd';rw[qB8];refine⟨[(4,.int (s:Int))],?_⟩;obtain⟨x1,x2,x3⟩:=zR6 w hw s hs;have hset:zAQ [some (.loc l (.lst (tyR (T s))),2),some (.int (p:Int),0),some (.int (w:Int),0),some (.int (Cn s:Int),0),x,y] [(4,.int (s:Int))]=[some (.loc l (.lst (tyR (T s))),2),some (.int (p:Int),0),some (.int (w:Int),0),some (.int (Cn s:Int),0),some (.int (s:Int),0),y]:=rfl;rw[hset];have hst:∀{X:R Out},(sIf (tB (eB (cmpD fun i j=>decide (i<j)) (eV 4) (eV 5))) (sAddW 3 0 1 (aCons (eB addD (eB mulD (eV 1) (eC (.int 4))) (eV 4)) (aCons (eB addD (eB mulD (eV 1) (eC (.int 4))) (eV 5)) aNil)) zB4) sNil) [some (.loc l (.lst (tyR (T s))),2),some (.int (p:Int),0),some (.int (w:Int),0),some (.int (Cn s:Int),0),some (.int (s:Int),0),some (.int ((s^^^(w+1):Nat):Int),0)]=X->(sSeq (sSet 5 0 [2,4] (eCall zCL (aCons (eV 2) (aCons (eV 4) aNil)))) (sIf (tB (eB (cmpD fun i j=>decide (i<j)) (eV 4) (eV 5))) (sAddW 3 0 1 (aCons (eB addD (eB mulD (eV 1) (eC (.int 4))) (eV 4)) (aCons (eB addD (eB mulD (eV 1) (eC (.int 4))) (eV 5)) aNil)) zB4) sNil)) [some (.loc l (.lst (tyR (T s))),2),some (.int (p:Int),0),some (.int (w:Int),0),some (.int (Cn s:Int),0),some (.int (s:Int),0),y]=X:=fun hX=>sg (c2 rfl rfl (zKY hw hs)) (qA6 0) hX
  have cmp:tB (eB (cmpD fun i j=>decide (i<j)) (eV 4) (eV 5)) (full [some (.loc l (.lst (tyR (T s))),2),some (.int (p:Int),0),some (.int (w:Int),0),some (.int (Cn s:Int),0),some (.int (s:Int),0),some (.int ((s^^^(w+1):Nat):Int),0)])=okR (decide ((s:Int)<((s^^^(w+1):Nat):Int))):=tb1 (b2 rfl rfl rfl)
  by_cases hlt:s<(s^^^(w+1))
  ·have go:∀{a b far near:Nat}{t0:Ty},Mt M t0->T s=t0->a=4*p+s->b=4*p+(s^^^(w+1))->t0.getD a none=some far->t0.getD b none=some near->a≠b->T (s+1)=(jE t0 a b).1->Cn (s+1)=Cn s+(jE t0 a b).2 ->
     ∃r',zAO (.one 4) (.int (s:Int))=some [(4,.int (s:Int))]/\(sSeq (sSet 5 0 [2,4] (eCall zCL (aCons (eV 2) (aCons (eV 4) aNil)))) (sIf (tB (eB (cmpD fun i j=>decide (i<j)) (eV 4) (eV 5))) (sAddW 3 0 1 (aCons (eB addD (eB mulD (eV 1) (eC (.int 4))) (eV 4)) (aCons (eB addD (eB mulD (eV 1) (eC (.int 4))) (eV 5)) aNil)) zB4) sNil)) [some (.loc l (.lst (tyR (T s))),2),some (.int (p:Int),0),some (.int (w:Int),0),some (.int (Cn s:Int),0),some (.int (s:Int),0),y]=okR (.nx r')/\∃x y,r'=[some (.loc l (.lst (tyR (T (s+1)))),2),some (.int (p:Int),0),some (.int (w:Int),0),some (.int (Cn (s+1):Int),0),x,y]:=by
    intro a b far near t0 hM hTs ea eb qa qb qab hT1 hC1;refine⟨_,rfl,hst ?_,some (.int (s:Int),0),some (.int ((s^^^(w+1):Nat):Int),0),rfl⟩;have hmul:∀(v:Int)(q:Nat)(z:EM)(ρ:Rh),z ρ=okR (.int v)->ρ[1]?=some (some (.int (p:Int)))->v=(q:Int)->eB addD (eB mulD (eV 1) (eC (.int 4))) z ρ=okR (.int ((4*p+q:Nat):Int)):=fun v q z ρ hz h1 hv=>by
     have e1:eV 1 ρ=okR (.int (p:Int)):=by unfold eV;rw[h1]
     refine b2 (b2 e1 rfl (d:=.int ((p:Int)*4)) ?_) hz ?_
     ·show mulD _ _=_;unfold mulD;dsimp only;rw[if_pos (.inl (.inr ⟨by decide,by decide⟩))]
     ·show some (Dt.int ((p:Int)*4+v))=_;rw[hv]
      congr 2
      push_cast
      lia
    have hadd:=addW (l:=l) (s:=(Cn s:Int)) (c:=0) (ρ:=[some (.loc l (.lst (tyR t0)),2),some (.int (p:Int),0),some (.int (w:Int),0),some (.int (Cn s:Int),0),some (.int (s:Int),0),some (.int ((s^^^(w+1):Nat):Int),0)]) (e1:=eB addD (eB mulD (eV 1) (eC (.int 4))) (eV 4)) (e2:=eB addD (eB mulD (eV 1) (eC (.int 4))) (eV 5)) hM qa qb qab rfl rfl (by rw[ea];exact hmul _ s _ _ rfl rfl rfl) (by rw[eb];exact hmul _ (s^^^(w+1)) _ _ rfl rfl rfl);rw[zIM,cmp,zA0,if_pos (by simpa using(by exact_mod_cast hlt:(s:Int)<((s^^^(w+1):Nat):Int)))];rw[hTs,hadd,hT1,hC1];simp
   rcases x1.mp hlt with z|z
   ·refine go (a:=4*p) (b:=4*p+(w+1)) (t0:=t) h (by show(if s=0 then _ else _)=_;rw[if_pos z]) (by lia) (by rw[x2 z]) hf hg n1 ?_ ?_
    ·show(if s+1=0 then _ else if s+1<=sa9 w then _ else _)=_
     rw[if_neg (by lia),if_pos (by lia)]
    ·show(if s+1=0 then _ else if s+1<=sa9 w then _ else _)=(if s=0 then _ else _)+_
     rw[if_neg (by lia),if_pos (by lia),if_pos z,qB8]
   ·have s0:s≠0:=by lia
    refine go (a:=4*p+sa9 w) (b:=4*p+sb9 w) (t0:=(jE t (4*p) (4*p+(w+1))).1) m1 (by show(if s=0 then _ else if s<=sa9 w then _ else _)=_;rw[if_neg s0,if_pos (by lia)]) (by rw[z]) (by rw[x3 z]) hf' hg' n2 ?_ ?_
    ·show(if s+1=0 then _ else if s+1<=sa9 w then _ else _)=_
     rw[if_neg (by lia),if_neg (by lia)];rfl
    ·show(if s+1=0 then _ else if s+1<=sa9 w then _ else _)=(if s=0 then _ else if s<=sa9 w then _ else _)+_
     rw[if_neg (by lia),if_neg (by lia),if_neg s0,if_pos (by lia)];rfl
  ·have hn1:s≠0/\s≠sa9 w:=⟨fun z=>hlt (x1.mpr (.inl z)),fun z=>hlt (x1.mpr (.inr z))⟩
   refine⟨_,rfl,hst (sf (cmp.trans (by rw[decide_eq_false (by lia)]))),some (.int (s:Int),0),some (.int ((s^^^(w+1):Nat):Int),0),?_⟩;have eT:T (s+1)=T s:=by
    show(if s+1=0 then _ else if s+1<=sa9 w then _ else _)=(if s=0 then _ else if s<=sa9 w then _ else _)
    rw[if_neg (by lia),if_neg hn1.1]
    by_cases q:s<=sa9 w
    ·rw[if_pos (by lia),if_pos q]
    ·rw[if_neg (by lia),if_neg q]
   have eC':Cn (s+1)=Cn s:=by
    show(if s+1=0 then _ else if s+1<=sa9 w then _ else _)=(if s=0 then _ else if s<=sa9 w then _ else _)
    rw[if_neg (by lia),if_neg hn1.1]
    by_cases q:s<=sa9 w
    ·rw[if_pos (by lia),if_pos q]
    ·rw[if_neg (by lia),if_neg q]
   rw[eT,eC']
 obtain⟨r,hr,x,y,hx⟩:=zE5 (fun k r=>∃x y,r=[some (.loc l (.lst (tyR (T k))),2),some (.int (p:Int),0),some (.int (w:Int),0),some (.int (Cn k:Int),0),x,y]) (nums 0 4) 0 [some (.loc l (.lst (tyR t)),2),some (.int (p:Int),0),some (.int (w:Int),0),some (.int 0,0),none,none] ⟨none,none,rfl⟩ hbody
 ·have hlen:0+(nums 0 4).length=4:=rfl;rw[hlen]at hx;have hT4:T 4=(jP t p w).1:=by show(if(4:Nat)=0 then _ else if 4<=sa9 w then _ else _)=_;rw[if_neg (by decide),if_neg (by lia)]
  have hC4:Cn 4=(jP t p w).2:=by show(if(4:Nat)=0 then _ else if 4<=sa9 w then _ else _)=_;rw[if_neg (by decide),if_neg (by lia)]
  rw[hT4,hC4]at hx;have hR:sForR (iR1 (aCons (eC (.int 4)) aNil)) 4 (sSeq (sSet 5 0 [2,4] (eCall zCL (aCons (eV 2) (aCons (eV 4) aNil)))) (sIf (tB (eB (cmpD fun i j=>decide (i<j)) (eV 4) (eV 5))) (sAddW 3 0 1 (aCons (eB addD (eB mulD (eV 1) (eC (.int 4))) (eV 4)) (aCons (eB addD (eB mulD (eV 1) (eC (.int 4))) (eV 5)) aNil)) zB4) sNil)) [some (.loc l (.lst (tyR t)),2),some (.int (p:Int),0),some (.int (w:Int),0),some (.int 0,0),none,none]=okR (.nx r):=by
   unfold sForR;have:iR1 (aCons (eC (.int 4)) aNil) (full [some (.loc l (.lst (tyR t)),2),some (.int (p:Int),0),some (.int (w:Int),0),some (.int 0,0),none,none])=okR (nums 0 4):=by simp[iR1]
   rw[this,zA0];exact hr
  rw[mnx hR,hx];exact mend rfl rfl rfl
theorem zER(ls:List Int)(k:Nat)(hl:ls.length<=1000):zBY [rowD ls,.int (k:Int)]=okR (.int (ls.getD k 0)):=by
 have hlen:lenD [rowD ls]=some (.int (ls.length:Int)):=by simp[rowD,lenD]
 unfold zBY zH9 runF;rw[if_pos (show([_,_]:List Dt).length=2 from rfl)];have key:eIf (tB (eB (cmpD fun i j=>decide (i<j)) (eV 1) (eBi lenD (aCons (eV 0) aNil)))) (eB ixD (eV 0) (eV 1)) (eC (.int 0)) (full (startO 2 [rowD ls,.int (k:Int)]))=okR (.int (ls.getD k 0)):=by
  unfold eIf;rw[tb1 (b2 (d1:=.int (k:Int)) (d2:=.int (ls.length:Int)) rfl (bi1 rfl hlen) rfl),zA0];by_cases h:k<ls.length
  ·rw[if_pos (by simpa using(by exact_mod_cast h:(k:Int)<ls.length))];refine b2 (d1:=rowD ls) (d2:=.int (k:Int)) rfl rfl ?_;show itA (ls.map Dt.int) (k:Int)=_;refine zME (j:=k) rfl ?_;simp[h]
  ·rw[if_neg (by simpa using h)];simp[h]
 rw[sr key ⟨qAu _,qAu _⟩,zA0];rfl
theorem zKG{a b:List Int}(ha:a.length<=1000)(hb:b.length<=1000):zCT [rowD a,rowD b]=okR (rowD (sumL a b)):=by
 unfold zCT zMZ runF;rw[if_pos (show([_,_]:List Dt).length=2 from rfl)];have e0:startO 3 [rowD a,rowD b]=[some (rowD a,0),some (rowD b,0),none]:=rfl;have hmx:maxD [.int (a.length:Int),.int (b.length:Int)]=some (.int ((max a.length b.length:Nat):Int)):=by
  show some (Dt.int (if(b.length:Int)>a.length then(b.length:Int)else a.length))=_
  congr 2;split<;>lia
 rw[e0,sg (bi2 (bi1 (d1:=rowD a) (d:=.int (a.length:Int)) rfl (by simp[rowD,lenD])) (bi1 (d1:=rowD b) (d:=.int (b.length:Int)) rfl (by simp[rowD,lenD])) hmx) (qA6 0) rfl];have hdep:(rowD (sumL a b)).dep<=2:=by
  show Dt.depL ((sumL a b).map Dt.int)+1<=2;have:∀l:List Int,Dt.depL (l.map Dt.int)=0:=fun l=>by
   induction l with
   |nil=>rfl
   |cons x r ih=>show max 0 (Dt.depL (r.map Dt.int))=0;rw[ih];rfl
  rw[this];lia
 have hc:eComp (iR1 (aCons (eV 2) aNil)) 1 (.one 3) Mi.tYes (eB addD (eCall zBY (aCons (eV 0) (aCons (eV 3) aNil))) (eCall zBY (aCons (eV 1) (aCons (eV 3) aNil)))) (full [some (rowD a,0),some (rowD b,0),some (.int ((max a.length b.length:Nat):Int),0)])=okR (rowD (sumL a b)):=by
  unfold eComp;have hi:iR1 (aCons (eV 2) aNil) (full [some (rowD a,0),some (rowD b,0),some (.int ((max a.length b.length:Nat):Int),0)])=okR (nums 0 (max a.length b.length)):=by
   unfold iR1;rw[zB8,show eV 2 (full [some (rowD a,0),some (rowD b,0),some (.int ((max a.length b.length:Nat):Int),0)])=okR (.int ((max a.length b.length:Nat):Int)) from rfl,zA0,zC8,zA0,zA0];dsimp only;rw[if_pos ⟨by lia,by lia⟩];rfl
  rw[hi,zA0,if_pos ⟨by simp[nums];lia,by rfl⟩];rw[zI9 (f:=fun d=>match d with | .int i=>.int (a.getD i.toNat 0+b.getD i.toNat 0)|_=>.non) _ _ fun d hd=>?_,zA0]
  ·congr 1
   unfold rowD sumL;rw[qCg,zDJ,qAn,qAn];rfl
  ·rw[zDJ]at hd;obtain⟨k,hk,rfl⟩:=qAb.mp hd;refine⟨_,rfl,rfl,?_⟩;exact b2 (c2 (d1:=rowD a) (d2:=.int (k:Int)) rfl rfl (zER a k ha)) (c2 (d1:=rowD b) (d2:=.int (k:Int)) rfl rfl (zER b k hb)) rfl
 have e9:[some (rowD a,0),some (rowD b,0),none].set 2 (some (Dt.int ((max a.length b.length:Nat):Int),0))=[some (rowD a,0),some (rowD b,0),some (.int ((max a.length b.length:Nat):Int),0)]:=rfl;rw[e9,sr hc ⟨hdep,hdep⟩,zA0];rfl
noncomputable def oS:Option Nat->Sw
 |none=>.non
 |some k=>.int (k:Nat)
abbrev kSw(t:Ty):List Sw:=t.map oS
abbrev keyA(L:Ad):List (List Sw):=L.map fun q=>kSw q.1
abbrev valA(L:Ad):List Dt:=L.map fun q=>rowD (hst q.2)
abbrev dctA(L:Ad):Dt:=.dtt (keyA L) (valA L)
theorem zTV:∀t:Ty,swsD (tyR t)=some (kSw t)
 |[]=>rfl
 |o::r=>by
  show swsD (oD o::tyR r)=_;unfold swsD;rw[zTV r];cases o<;>rfl
theorem zPI(t:Ty):kyU (.tup (tyR t))=some (kSw t):=zTV t
theorem zYU{a b:Option Nat}(h:kNo (oS a)=kNo (oS b)):a=b:=by
 cases a<;>cases b
 ·rfl
 ·cases h
 ·cases h
 ·rename_i x y
  have:(x:Int)=y:=by simpa[kNo,oS]using h
  have:x=y:=by lia
  rw[this]
theorem zPK:∀{s t:Ty},kNs (kSw s)=kNs (kSw t)->s=t
 |[],[],_=>rfl
 |[],_::_,h=>by simp at h
 |_::_,[],h=>by simp at h
 |a::s,b::t,h=>by
  simp only[qAk,qGx]at h;rw[zYU h.1,zPK h.2]
noncomputable def findA:Ad->Ty->Option (List Nat)
 |[],_=>none
 |q::r,k=>if q.1=k then some q.2 else findA r k
theorem zM4(q:List Sw)(ks:List (List Sw))(k:List Sw):posT (q::ks) k=if kNs q=kNs k then some 0 else(posT ks k).map (·+1):=by
 unfold posT;rw[qFu];by_cases h:kNs q=kNs k
 ·simp[h]
 ·simp[h]
theorem zSX(k:Ty):∀L:Ad,getT (keyA L) (valA L) (kSw k)=(findA L k).map fun ys=>rowD (hst ys)
 |[]=>rfl
 |q::r=>by
  have ih:=zSX k r;unfold getT at ih ⊢;rw[show keyA (q::r)=kSw q.1::keyA r from rfl,zM4,findA]
  by_cases h:q.1=k
  ·rw[if_pos (by rw[h]),if_pos h];rfl
  ·rw[if_neg fun z=>h (zPK z),if_neg h,<- ih];cases posT (keyA r) (kSw k)<;>rfl
theorem zVH(k:Ty)(xs:List Nat):∀L:Ad,putKs (keyA L) (kSw k)=keyA (putA L k xs)/\putDs (keyA L) (valA L) (kSw k) (rowD (hst ((findA L k).getD []++xs)))=valA (putA L k xs)
 |[]=>⟨rfl,rfl⟩
 |q::r=>by
  obtain⟨i1,i2⟩:=zVH k xs r;unfold putKs at i1;unfold putDs at i2;unfold putKs putDs;rw[show keyA (q::r)=kSw q.1::keyA r from rfl,zM4,findA]
  by_cases h:q.1=k
  ·have e:putA (q::r) k xs=(q.1,q.2++xs)::r:=by rw[putA,if_pos h]
   rw[if_pos (by rw[h]),if_pos h,e];exact⟨rfl,rfl⟩
  ·have e:putA (q::r) k xs=q::putA r k xs:=by rw[putA,if_neg h]
   rw[if_neg fun z=>h (zPK z),if_neg h,e];cases ep:posT (keyA r) (kSw k)with
   |none=>
    rw[ep]at i1 i2;dsimp only[qHw]at i1 i2 ⊢;exact⟨congrArg (qEi (kSw q.1)) i1,congrArg (qEi (rowD (hst q.2))) i2⟩
   |some j=>
    rw[ep]at i1 i2;dsimp only[qHw]at i1 i2 ⊢;exact⟨congrArg (qEi (kSw q.1)) i1,congrArg (qEi (rowD (hst q.2))) i2⟩
theorem zU3(t:Ty):(kSw t).all noB1=true:=by
 rw[qBo];intro w hw;obtain⟨o,_,rfl⟩:=qAb.mp hw;cases o<;>rfl
theorem zbA(L:Ad):noBs (keyA L)=true:=by
 unfold noBs;rw[qBo];intro k hk;obtain⟨q,_,rfl⟩:=qAb.mp hk;exact zU3 q.1
theorem zbN(L:Ad)(k:Ty):fitT (keyA L) (kSw k)=true:=by unfold fitT;rw[zU3];simp
theorem zXF(t:Ty):(kSw t).map swT=tyR t:=by
 rw[qAn];exact qAo fun o _=>by cases o<;>rfl
theorem zMI{L:Ad}(h:(L.map (·.1)).Nodup){q:Ty×List Nat}(hq:q∈L):findA L q.1=some q.2:=by
 induction L with
 |nil=>simp at hq
 |cons z r ih=>
  rw[qAk,qAv]at h;rw[findA];rcases qAf.mp hq with rfl|hq
  ·rw[if_pos rfl]
  ·rw[if_neg fun e:z.1=q.1=>h.1 (by rw[e];exact qAb.mpr ⟨q,hq,rfl⟩)];exact ih h.2 hq
theorem zT4(l:List Int):(rowD l).dep=1:=by
 show Dt.depL (l.map Dt.int)+1=1;have:∀l:List Int,Dt.depL (l.map Dt.int)=0:=fun l=>by
  induction l with
  |nil=>rfl
  |cons x r ih=>show max 0 (Dt.depL (r.map Dt.int))=0;rw[ih];rfl
 rw[this]
theorem zHB{M:Nat}{L acc:Ad}{q:Ty×List Nat}{p w:Nat}{x5 x6 x7:Option (Dt×Nat)}(hq:findA L q.1=some q.2)(hne:q.2≠[])(hm:Mt M q.1)(hal:∀s,s<4->q.1.getD (4*p+s) none≠none)(hw:w<3)(hb:∀c∈q.2,c<=100)(hacc:∀z∈acc,∀c∈z.2,c<=200)(hlen:acc.length<=100000) :
  ∃y5 y6,(sSeq (sSet 5 1 [3] (eBi listD (aCons (eV 3) aNil))) (sSeq (sCallW 6 5 1 0 (aCons (eV 1) (aCons (eV 4) aNil)) zBE) (sTmpPut 7 2 2 (eTGet (eV 2) (eBi tupD (aCons (eV 5) aNil)) (eLst aNil)) (eBi tupD (aCons (eV 5) aNil)) (eCall zCT (aCons (eV 7) (aCons (eB addD (eB repD (eLst (aCons (eC (.int 0)) aNil)) (eV 6)) (eTIx (eV 0) (eV 3))) aNil))))))
   [some (dctA L,0),some (.int (p:Int),0),some (dctA acc,2),some (.tup (tyR q.1),0),some (.int (w:Int),0),x5,x6,x7]=okR (.nx [some (dctA L,0),some (.int (p:Int),0),some (dctA (putw p q acc w),2),some (.tup (tyR q.1),0),some (.int (w:Int),0),y5,y6,none]):=by
 refine⟨some (.lst (tyR (jP q.1 p w).1),1),some (.int ((jP q.1 p w).2:Int),0),?_⟩;refine sg (bi1 (d1:=.tup (tyR q.1)) (d:=.lst (tyR q.1)) rfl rfl) (qDk (zZX _).1) ?_;rw[zDO];have hcall:sCallW 6 5 1 0 (aCons (eV 1) (aCons (eV 4) aNil)) zBE ([some (dctA L,0),some (.int (p:Int),0),some (dctA acc,2),some (.tup (tyR q.1),0),some (.int (w:Int),0),some (.lst (tyR q.1),1),x6,x7])=okR (.nx ([some (dctA L,0),some (.int (p:Int),0),some (dctA acc,2),some (.tup (tyR q.1),0),some (.int (w:Int),0),some (.lst (tyR (jP q.1 p w).1),1),some (.int ((jP q.1 p w).2:Int),0),x7])):=by
  unfold sCallW;dsimp only[qBz,qC0];rw[if_pos ⟨rfl,by decide,rfl⟩];have hargs:aCons (eV 1) (aCons (eV 4) aNil) (frz [some (dctA L,0),some (.int (p:Int),0),some (dctA acc,2),some (.tup (tyR q.1),0),some (.int (w:Int),0),some (.lst (tyR q.1),1),x6,x7])=okR [.int (p:Int),.int (w:Int)]:=rfl;rw[hargs,zA0,zG7 hm hal hw,zA0];rfl
 show zA2 (sCallW 6 5 1 0 (aCons (eV 1) (aCons (eV 4) aNil)) zBE ([some (dctA L,0),some (.int (p:Int),0),some (dctA acc,2),some (.tup (tyR q.1),0),some (.int (w:Int),0),some (.lst (tyR q.1),1),x6,x7])) _=_;rw[hcall,zA0];dsimp only;unfold sTmpPut;rw[if_neg (by decide)];have c2b:(jP q.1 p w).2<=2:=by
  have:∀(t:Ty)(a b:Nat),(jE t a b).2<=1:=fun t a b=>by unfold jE;split<;>simp
  have h1:=this q.1 (4*p) (4*p+(w+1));have h2:=this (jE q.1 (4*p) (4*p+(w+1))).1 (4*p+sa9 w) (4*p+sb9 w);show _+_<=2;lia
 generalize hc:(jP q.1 p w).2=c at c2b;generalize ht:(jP q.1 p w).1=t';have key5:∀(z:Option (Dt×Nat)),eBi tupD (aCons (eV 5) aNil) (full [some (dctA L,0),some (.int (p:Int),0),some (dctA acc,2),some (.tup (tyR q.1),0),some (.int (w:Int),0),some (.lst (tyR t'),1),some (.int (c:Int),0),z])=okR (.tup (tyR t')):=fun z=>bi1 (d1:=.lst (tyR t')) rfl rfl
 have hget:eTGet (eV 2) (eBi tupD (aCons (eV 5) aNil)) (eLst aNil) (full [some (dctA L,0),some (.int (p:Int),0),some (dctA acc,2),some (.tup (tyR q.1),0),some (.int (w:Int),0),some (.lst (tyR t'),1),some (.int (c:Int),0),x7])=okR (rowD (hst ((findA acc t').getD []))):=by
  unfold eTGet;rw[show eV 2 (full [some (dctA L,0),some (.int (p:Int),0),some (dctA acc,2),some (.tup (tyR q.1),0),some (.int (w:Int),0),some (.lst (tyR t'),1),some (.int (c:Int),0),x7])=okR (dctA acc) from rfl,zA0];dsimp only;rw[key5,zA0,show eLst aNil (full [some (dctA L,0),some (.int (p:Int),0),some (dctA acc,2),some (.tup (tyR q.1),0),some (.int (w:Int),0),some (.lst (tyR t'),1),some (.int (c:Int),0),x7])=okR (.lst []) by simp,zA0,zPI];dsimp only;rw[zSX];cases findA acc t'<;>rfl
 rw[hget,zA0];have hset:(full [some (dctA L,0),some (.int (p:Int),0),some (dctA acc,2),some (.tup (tyR q.1),0),some (.int (w:Int),0),some (.lst (tyR t'),1),some (.int (c:Int),0),x7]).set 7 (some (rowD (hst ((findA acc t').getD []))))=full [some (dctA L,0),some (.int (p:Int),0),some (dctA acc,2),some (.tup (tyR q.1),0),some (.int (w:Int),0),some (.lst (tyR t'),1),some (.int (c:Int),0),some (rowD (hst ((findA acc t').getD [])),0)]:=rfl;rw[hset];have mxb:∀{cs:List Nat}{B:Nat},(∀x∈cs,x<=B)->(hst cs).length<=B+1:=fun{cs B} h=>by
  by_cases z:cs=[]
  ·subst z;exact qAu _
  ·rw[zCI z];have:=h _ (zF0 z);lia
 have hold:(hst ((findA acc t').getD [])).length<=1000:=by
  have hf:∀(l:Ad),(∀z∈l,∀c∈z.2,c<=200)->(∀x∈(findA l t').getD [],x<=200):=fun l=>by
   induction l with
   |nil=>intro _ x hx;simp[findA]at hx
   |cons z r ih=>
    intro h;rw[findA];by_cases e:z.1=t'
    ·rw[if_pos e];exact h z (qAj ..)
    ·rw[if_neg e];exact ih fun y hy=>h y (qAc _ hy)
  have:=mxb (hf acc hacc);lia
 have hrow:eB addD (eB repD (eLst (aCons (eC (.int 0)) aNil)) (eV 6)) (eTIx (eV 0) (eV 3)) (full [some (dctA L,0),some (.int (p:Int),0),some (dctA acc,2),some (.tup (tyR q.1),0),some (.int (w:Int),0),some (.lst (tyR t'),1),some (.int (c:Int),0),some (rowD (hst ((findA acc t').getD [])),0)])=okR (rowD (hst (q.2.map (·+c)))):=by
  refine b2 (d1:=rowD (qA4 c 0)) (d2:=rowD (hst q.2)) (b2 (d1:=.lst [.int 0]) (d2:=.int (c:Int)) (el1 rfl) rfl ?_) ?_ ?_
  ·rw[zEG c (by lia)]
  ·unfold eTIx;rw[show eV 0 (full [some (dctA L,0),some (.int (p:Int),0),some (dctA acc,2),some (.tup (tyR q.1),0),some (.int (w:Int),0),some (.lst (tyR t'),1),some (.int (c:Int),0),some (rowD (hst ((findA acc t').getD [])),0)])=okR (dctA L) from rfl,zA0];dsimp only;rw[show eV 3 (full [some (dctA L,0),some (.int (p:Int),0),some (dctA acc,2),some (.tup (tyR q.1),0),some (.int (w:Int),0),some (.lst (tyR t'),1),some (.int (c:Int),0),some (rowD (hst ((findA acc t').getD [])),0)])=okR (.tup (tyR q.1)) from rfl,zA0,zPI];dsimp only;rw[zSX,hq];rfl
  ·have:=mxb hb
   unfold rowD addD;dsimp only;rw[if_pos (by simp;lia),<- qBa,zOJ hne]
 have hrl:(hst (q.2.map (·+c))).length<=1000:=by
  have:=mxb (cs:=q.2.map (·+c)) (B:=102) fun x hx=>by
   obtain⟨y,hy,rfl⟩:=qAb.mp hx;have:=hb y hy;lia
  lia
 have hsum:eCall zCT (aCons (eV 7) (aCons (eB addD (eB repD (eLst (aCons (eC (.int 0)) aNil)) (eV 6)) (eTIx (eV 0) (eV 3))) aNil)) (full [some (dctA L,0),some (.int (p:Int),0),some (dctA acc,2),some (.tup (tyR q.1),0),some (.int (w:Int),0),some (.lst (tyR t'),1),some (.int (c:Int),0),some (rowD (hst ((findA acc t').getD [])),0)])=okR (rowD (hst ((findA acc t').getD []++q.2.map (·+c)))):=by
  refine c2 rfl hrow ?_;rw[zKG hold hrl,zUZ (by simpa using hne)]
 rw[hsum,zA0];unfold putGo;dsimp only[qBz,qC0];rw[key5,zA0,zPI];dsimp only;rw[zT4,if_pos ⟨by decide,by decide,by simpa using hlen,zbN acc t'⟩,zA0,(zVH t' (q.2.map (·+c)) acc).1,(zVH t' (q.2.map (·+c)) acc).2];unfold putw;rw[hc,ht];rfl
theorem zM2(k:Ty)(xs:List Nat):∀L:Ad,(putA L k xs).length<=L.length+1
 |[]=>by simp[putA]
 |q::r=>by
  unfold putA;split
  ·simp
  ·have:=zM2 k xs r
   simp only[qAr];lia
theorem zOT{B:Nat}{k:Ty}{xs:List Nat}(hx:∀c∈xs,c<=B):∀{L:Ad},(∀z∈L,∀c∈z.2,c<=B)->∀z∈putA L k xs,∀c∈z.2,c<=B
 |[],_,z,hz=>by simp[putA]at hz;subst hz;exact hx
 |q::r,h,z,hz=>by
  unfold putA at hz;split at hz
  ·rcases qAf.mp hz with rfl|hz
   ·intro c hc
    rcases qAz.mp hc with hc|hc
    ·exact h _ (qAj ..) c hc
    ·exact hx c hc
   ·exact h z (qAc _ hz)
  ·rcases qAf.mp hz with rfl|hz
   ·exact h _ (qAj ..)
   ·exact zOT hx (fun z hz=>h z (qAc _ hz)) z hz
theorem zW7(t:Ty)(p w:Nat):(jP t p w).2<=2:=by
 have:∀(t:Ty)(a b:Nat),(jE t a b).2<=1:=fun t a b=>by unfold jE;split<;>simp
 have h1:=this t (4*p) (4*p+(w+1));have h2:=this (jE t (4*p) (4*p+(w+1))).1 (4*p+sa9 w) (4*p+sb9 w);show _+_<=2;lia
noncomputable abbrev wayB:SM:=sSeq (sSet 5 1 [3] (eBi listD (aCons (eV 3) aNil))) (sSeq (sCallW 6 5 1 0 (aCons (eV 1) (aCons (eV 4) aNil)) zBE) (sTmpPut 7 2 2 (eTGet (eV 2) (eBi tupD (aCons (eV 5) aNil)) (eLst aNil)) (eBi tupD (aCons (eV 5) aNil)) (eCall zCT (aCons (eV 7) (aCons (eB addD (eB repD (eLst (aCons (eC (.int 0)) aNil)) (eV 6)) (eTIx (eV 0) (eV 3))) aNil)))))
theorem zIP{M:Nat}{L acc:Ad}{q:Ty×List Nat}{p:Nat}{x4 x5 x6 x7:Option (Dt×Nat)}(hq:findA L q.1=some q.2)(hne:q.2≠[])(hm:Mt M q.1)(hal:∀s,s<4->q.1.getD (4*p+s) none≠none)(hb:∀c∈q.2,c<=100)(hacc:∀z∈acc,∀c∈z.2,c<=200)(hlen:acc.length<=10000) :
  (∃y4 y5 y6,sFor [] (iSq (eC (.scr [0,1,2]))) (.one 4) wayB [some (dctA L,0),some (.int (p:Int),0),some (dctA acc,2),some (.tup (tyR q.1),0),x4,x5,x6,x7]=okR (.nx [some (dctA L,0),some (.int (p:Int),0),some (dctA (stpw p acc q),2),some (.tup (tyR q.1),0),y4,y5,y6,none])) /\
   (∀z∈stpw p acc q,∀c∈z.2,c<=200)/\(stpw p acc q).length<=acc.length+3:=by
 have bd:∀(a:Ad)(w:Nat),(∀z∈a,∀c∈z.2,c<=200)->∀z∈putw p q a w,∀c∈z.2,c<=200:=fun a w ha=>zOT (fun c hc=>by
  obtain⟨d,hd,rfl⟩:=qAb.mp hc;have:=hb d hd;have:=zW7 q.1 p w;lia) ha
 have ln:∀(a:Ad)(w:Nat),(putw p q a w).length<=a.length+1:=fun a w=>zM2 _ _ _
 have b1:=bd acc 0 hacc;have l1:=ln acc 0;have b2':=bd _ 1 b1;have l2:=ln (putw p q acc 0) 1;have b3:=bd _ 2 b2';have l3:=ln (putw p q (putw p q acc 0) 1) 2;refine⟨?_,b3,by show(putw p q (putw p q (putw p q acc 0) 1) 2).length<=_;lia⟩;obtain⟨u5,u6,e1⟩:=zHB (x5:=x5) (x6:=x6) (x7:=x7) hq hne hm hal (w:=0) (by decide) hb hacc (by lia);obtain⟨v5,v6,e2⟩:=zHB (x5:=u5) (x6:=u6) (x7:=none) hq hne hm hal (w:=1) (by decide) hb b1 (by lia);obtain⟨w5,w6,e3⟩:=zHB (x5:=v5) (x6:=v6) (x7:=none) hq hne hm hal (w:=2) (by decide) hb b2' (by lia);refine⟨some (.int (2:Nat),0),w5,w6,?_⟩;unfold sFor;rw[show iSq (eC (.scr [0,1,2])) (frz (frzAt [] [some (dctA L,0),some (.int (p:Int),0),some (dctA acc,2),some (.tup (tyR q.1),0),x4,x5,x6,x7]))=okR [.int (0:Nat),.int (1:Nat),.int (2:Nat)] from rfl,zA0];show forGo (.one 4) wayB [.int (0:Nat),.int (1:Nat),.int (2:Nat)] [some (dctA L,0),some (.int (p:Int),0),some (dctA acc,2),some (.tup (tyR q.1),0),x4,x5,x6,x7]=_;rw[forGo];show zA2 (wayB [some (dctA L,0),some (.int (p:Int),0),some (dctA acc,2),some (.tup (tyR q.1),0),some (.int (0:Nat),0),x5,x6,x7]) _=_;rw[show wayB _=_ from e1,zA0];dsimp only;rw[forGo];show zA2 (wayB [some (dctA L,0),some (.int (p:Int),0),some (dctA (putw p q acc 0),2),some (.tup (tyR q.1),0),some (.int (1:Nat),0),u5,u6,none]) _=_;rw[show wayB _=_ from e2,zA0];dsimp only;rw[forGo];show zA2 (wayB [some (dctA L,0),some (.int (p:Int),0),some (dctA (putw p q (putw p q acc 0) 1),2),some (.tup (tyR q.1),0),some (.int (2:Nat),0),v5,v6,none]) _=_;rw[show wayB _=_ from e3,zA0];dsimp only;rw[forGo];rfl
theorem zIO{M:Nat}{L:Ad}{p:Nat}(hg:Gd L)(hz:∀q∈L,Mt M q.1/\(∀s,s<4->q.1.getD (4*p+s) none≠none)/\∀c∈q.2,c<=100)(hlen:L.length<=1000):zAR [dctA L,.int (p:Int)]=okR (dctA (stepA L p))/\(stepA L p).length<=3*L.length:=by
 have tk:∀i,i<=L.length->(∀z∈(L.take i).foldl (stpw p) [],∀c∈z.2,c<=200)/\((L.take i).foldl (stpw p) []).length<=3*i:=by
  intro i;induction i with
  |zero=>intro _;simp
  |succ i ih=>
   intro hi;obtain⟨h1,h2⟩:=ih (by lia);have hlt:i<L.length:=by lia
   rw[qBp hlt,qDe,qCf,qEc];obtain⟨g1,g2,g3⟩:=hz L[i] (qAy _);obtain⟨_,k1,k2⟩:=zIP (L:=L) (x4:=none) (x5:=none) (x6:=none) (x7:=none) (zMI hg.nd (qAy hlt)) (hg.ne _ (qAy hlt)) g1 g2 g3 h1 (by lia);exact⟨k1,by lia⟩
 refine⟨?_,by have:=(tk L.length (qA6 _)).2;rw[qD0]at this;exact this⟩;unfold zAR zDF runF;rw[if_pos (show([_,_]:List Dt).length=2 from rfl)];rw[show startO 8 [dctA L,.int (p:Int)]=[some (dctA L,0),some (.int (p:Int),0),none,none,none,none,none,none] from rfl];rw[sgf (d:=dctA []) rfl (by show ¬(1000<=2);decide) rfl rfl];show zA2 (sSeq (sFor [0] (iDk (eV 0)) (.one 3) (sFor [] (iSq (eC (.scr [0,1,2]))) (.one 4) wayB)) (sRetV 2 2) [some (dctA L,0),some (.int (p:Int),0),some (dctA [],2),none,none,none,none,none]) endF=_;obtain⟨r,hr,x3,x4,x5,x6,x7,hx⟩:=zE5 (tg:=.one 3) (b:=sFor [] (iSq (eC (.scr [0,1,2]))) (.one 4) wayB) (fun i r=>∃x3 x4 x5 x6 x7,r=[some (dctA L,0),some (.int (p:Int),0),some (dctA ((L.take i).foldl (stpw p) []),2),x3,x4,x5,x6,x7]) (L.map fun q=>.tup (tyR q.1)) 0 [some (dctA L,0),some (.int (p:Int),0),some (dctA [],2),none,none,none,none,none] ⟨_,_,_,_,_,rfl⟩ (by
  rintro j d r hd ⟨x3,x4,x5,x6,x7,rfl⟩
  rw[qB8]at *;rw[qA8]at hd;have hj:j<L.length:=by
   cases hq:L[j]? with
   |none=>rw[hq]at hd;cases hd
   |some q=>exact(qA3.mp hq).1
  rw[qA5 hj]at hd;cases hd;obtain⟨h1,h2⟩:=tk j (by lia);obtain⟨g1,g2,g3⟩:=hz L[j] (qAy _);obtain⟨⟨y4,y5,y6,e⟩,_,_⟩:=zIP (L:=L) (x4:=x4) (x5:=x5) (x6:=x6) (x7:=x7) (zMI hg.nd (qAy hj)) (hg.ne _ (qAy hj)) g1 g2 g3 h1 (by lia);refine⟨_,_,rfl,e,some (.tup (tyR L[j].1),0),y4,y5,y6,none,?_⟩;rw[qBp hj,qDe,qCf,qEc])
 have hk:iDk (eV 0) (frz (frzAt [0] [some (dctA L,0),some (.int (p:Int),0),some (dctA [],2),none,none,none,none,none]))=okR (L.map fun q=>.tup (tyR q.1)):=by
  unfold iDk;rw[show eV 0 (frz (frzAt [0] [some (dctA L,0),some (.int (p:Int),0),some (dctA [],2),none,none,none,none,none]))=okR (dctA L) from rfl,zA0];dsimp only;rw[if_pos ⟨zbA L,by simp⟩,qAn]
  congr 1;exact qAo fun q _=>by show Dt.tup ((kSw q.1).map swT)=_;rw[zXF]
 rw[zDO];unfold sFor at hr ⊢;rw[hk,zA0];show zA2 (zA2 (forGo (.one 3) (sFor [] (iSq (eC (.scr [0,1,2]))) (.one 4) wayB) (L.map fun q=>.tup (tyR q.1)) [some (dctA L,0),some (.int (p:Int),0),some (dctA [],2),none,none,none,none,none]) _) endF=_;unfold sFor;rw[hr,zA0];dsimp only;rw[hx,qB8,qAi,qD0];rfl
abbrev rowN(l:List Nat):Dt:=rowD (l.map fun k:Nat=>(k:Int))
theorem zYV(ts:List Nat):(ts.map fun k:Nat=>(k:Int)).map Dt.int=tyR (ts.map some):=by
 show _=(ts.map some).map oD;rw[qAn,qAn];rfl
structure Iv(n j:Nat)(o:List Nat)(L:Ad):Prop where
 gd:Gd L
 st:∀z∈allA L,Mt (4*n) z.1/\(∀e,e<4*n->(z.1.getD e none=none↔e/4∈o.take j))/\z.2<=2*j
 len:L.length<=3 ^ j
theorem zWA{ts:List Nat}{n:Nat}{o:List Nat}(hN:NetN ts (4*n))(hne:∀x,x<4*n->nt ts x≠x):Iv n 0 o [(ts.map some,[0])]:=by
 refine⟨⟨by simp,by simp⟩,fun z hz=>?_,by simp⟩
 have:z=(ts.map some,0):=by simpa[allA]using hz
 subst this;refine⟨zU5 hN hne,fun e he=>?_,by simp⟩
 show(ts.map some).getD e none=none↔_;rw[zEL hN he];simp
theorem zWB{n j:Nat}{o:List Nat}{L:Ad}(h:Iv n j o L)(hj:j<o.length)(hnd:o.Nodup)(hin:∀p∈o,p<n)(hj6:j<=6):zAR [dctA L,.int ((o[j]:Nat):Int)]=okR (dctA (stepA L o[j]))/\Iv n (j+1) o (stepA L o[j]):=by
 have hp:=hin _ (qAy hj);have hnot:o[j]∉o.take j:=fun z=>by
  obtain⟨i,hi,e⟩:=qDs.mp z;rw[List.getElem_take]at e;have:=(qEp hnd).mp e;simp at hi;lia
 have alive:∀z∈allA L,∀s,s<4->z.1.getD (4*o[j]+s) none≠none:=fun z hz s hs y=>by
  have:=((h.st z hz).2.1 (4*o[j]+s) (by lia)).mp y
  rw[show(4*o[j]+s)/4=o[j] by lia]at this;exact hnot this
 have hall:∀q∈L,∀c∈q.2,(q.1,c)∈allA L:=fun q hq c hc=>qBf.mpr ⟨q,hq,qAb.mpr ⟨c,hc,rfl⟩⟩
 have hL:L.length<=1000:=by
  have:=h.len;have h2:3 ^ j<=3 ^ 6:=qDu (by decide) hj6;have h3:(3:Nat) ^ 6=729:=by decide
  lia
 obtain⟨e1,e2⟩:=zIO (M:=4*n) (p:=o[j]) h.gd (fun q hq=>by
  obtain⟨c,hc⟩:=qEd _ (h.gd.ne q hq);have hm:=hall q hq c hc;refine⟨(h.st _ hm).1,alive _ hm,fun d hd=>?_⟩
  have:=(h.st _ (hall q hq d hd)).2.2;dsimp only at this;lia) hL
 refine⟨e1,zPX h.gd,fun z hz=>?_,?_⟩
 ·have hz':=(zK9 L o[j]).mem_iff.mp hz;obtain⟨y,hy,hz2⟩:=qBf.mp hz';obtain⟨w,hw,rfl⟩:=qAb.mp hz2;have hw3:w<3:=by simp at hw;lia
  obtain⟨q1,q2,q3⟩:=h.st y hy;obtain⟨m1,d1,_⟩:=zZ5 q1 (alive y hy) hw3;refine⟨m1,fun e he=>?_,?_⟩
  ·show(jP y.1 o[j] w).1.getD e none=none↔_
   rw[d1,q2 e he,qBp hj,qAz,qAt];exact Or.comm
  ·have:=zW7 y.1 o[j] w
   show y.2+(jP y.1 o[j] w).2<=_;lia
 ·have:=h.len
  rw[qF4];lia
theorem zGN{l:List Int}(hl:l.length<=1000):zBD [rowD l]=okR (.int ((l.length/4:Nat):Int)):=by
 unfold zBD zGG runF;rw[if_pos (show([_]:List Dt).length=1 from rfl)]
 have:eB divD (eBi lenD (aCons (eV 0) aNil)) (eC (.int 4)) (full (startO 1 [rowD l]))=okR (.int ((l.length/4:Nat):Int)):=by
  refine b2 (bi1 (d1:=rowD l) (d:=.int (l.length:Int)) rfl (by simp[rowD,lenD])) rfl ?_;unfold divD;dsimp only;rw[if_pos ⟨by decide,by decide⟩]
  congr 2
 rw[sr this ⟨qAu _,qAu _⟩,zA0];rfl
theorem zDE{ts:List Nat}{n:Nat}{o:List Nat}{od:Dt}(hN:NetN ts (4*n))(hne:∀x,x<4*n->nt ts x≠x)(hn:n<=6)(ho:o.Perm (qA7 n))(hod:(od=.non/\o=qA7 n)\/od=rowN o):zAU [rowN ts,od]=okR (rowD (hst ((chA n).map (rN ts n)))):=by
 have hlt:(ts.map fun k:Nat=>(k:Int)).length=4*n:=by simp[hN.len]
 have hol:o.length=n:=by rw[ho.length_eq];simp
 have hpl:zBD [rowN ts]=okR (.int (n:Int)):=by
  rw[zGN (by lia),hlt]
  congr 3;lia
 obtain⟨cs,hcs,hperm⟩:=zV9 hN hne ho;unfold zAU zGI runF;rw[if_pos (show([_,_]:List Dt).length=2 from rfl)];rw[show startO 5 [rowN ts,od]=[some (rowN ts,0),some (od,0),none,none,none] from rfl];have hcN:∀(ρ:Rh),ρ[0]?=some (some (rowN ts))->eCallN zBD (aCons (eV 0) aNil) ρ=okR (.int (n:Int)):=fun ρ h=>by
  have e1:eV 0 ρ=okR (rowN ts):=by unfold eV;rw[h]
  simp only[zLN,zB8,zC8,e1,zA0,hpl];rfl
 rw[sp (tb1 (b2 (d1:=.int (n:Int)) (d2:=.int 6) (hcN _ rfl) rfl (by show some (Dt.bl (decide ((6:Int)<n)))=some (.bl false);rw[decide_eq_false (by lia)]))) rfl];have hplaces:∀ρ:Rh,ρ[0]?=some (some (rowN ts))->ρ[1]?=some (some od)->eIf (tB (eB isD (eV 1) (eC .non))) (eBi rangeD (aCons (eCallN zBD (aCons (eV 0) aNil)) aNil)) (eV 1) ρ=okR (rowN o):=fun ρ h0 h1=>by
  have e1:eV 1 ρ=okR od:=by unfold eV;rw[h1]
  unfold eIf;rcases hod with⟨rfl,rfl⟩|rfl
  ·rw[tb1 (b2 e1 rfl (d:=.bl true) rfl),zA0,if_pos rfl];refine bi1 (hcN ρ h0) ?_;unfold rangeD;dsimp only;rw[if_pos ⟨⟨by lia,by lia⟩,by lia⟩]
   congr 1;unfold rowN rowD;rw[show((n:Int)).toNat=n from rfl,zDJ,qAn];rfl
  ·rw[tb1 (b2 e1 rfl (d:=.bl false) rfl),zA0,if_neg (by decide)];exact e1
 rw[sgf (d:=rowN o) (hplaces _ rfl rfl) (by rw[zC0];decide) (hplaces _ rfl rfl) rfl];have hone:∀ρ:Rh,ρ[0]?=some (some (rowN ts))->eTOne (eBi tupD (aCons (eV 0) aNil)) (eLst (aCons (eC (.int 1)) aNil)) ρ=okR (dctA [(ts.map some,[0])]):=fun ρ h0=>by
  have e1:eV 0 ρ=okR (rowN ts):=by unfold eV;rw[h0]
  unfold eTOne;rw[bi1 (d:=.tup (tyR (ts.map some))) e1 (by show some (Dt.tup _)=_;rw[zYV]),zA0,el1 rfl,zA0,zPI];rfl
 rw[sgf (d:=dctA [(ts.map some,[0])]) (hone _ rfl) (by show ¬(1000<=2);decide) (hone _ rfl) rfl];show zA2 (sSeq (sFor [2] (iSq (eV 2)) (.one 4) (sSet 3 2 [3,4] (eCallN zAR (aCons (eV 3) (aCons (eV 4) aNil))))) (sRetTIx 1 3 (eBi tupD (aCons (eComp (iSq (eV 0)) 1 (.one 5) Mi.tYes (eC .non)) aNil))) [some (rowN ts,0),some (od,0),some (rowN o,0),some (dctA [(ts.map some,[0])],2),none]) endF=_;have hnd:o.Nodup:=ho.nodup_iff.mpr qBy;have hin:∀p∈o,p<n:=fun p hp=>by simpa using ho.mem_iff.mp hp
 obtain⟨r,hr,x,hx,_⟩:=zE5 (tg:=.one 4) (b:=sSet 3 2 [3,4] (eCallN zAR (aCons (eV 3) (aCons (eV 4) aNil)))) (fun j r=>∃x,r=[some (rowN ts,0),some (od,0),some (rowN o,0),some (dctA ((o.take j).foldl stepA [(ts.map some,[0])]),2),x]/\Iv n j o ((o.take j).foldl stepA [(ts.map some,[0])])) (o.map fun p=>Dt.int ((p:Nat):Int)) 0 [some (rowN ts,0),some (od,0),some (rowN o,0),some (dctA [(ts.map some,[0])],2),none] ⟨none,rfl,zWA hN hne⟩ (by
  rintro j d r hd ⟨x,rfl,hiv⟩
  rw[qB8]at *;rw[qA8]at hd;have hj:j<o.length:=by
   cases hq:o[j]? with
   |none=>rw[hq]at hd;cases hd
   |some q=>exact(qA3.mp hq).1
  rw[qA5 hj]at hd;cases hd;obtain⟨e1,e2⟩:=zWB hiv hj hnd hin (by lia);have ef:(o.take (j+1)).foldl stepA [(ts.map some,[0])]=stepA ((o.take j).foldl stepA [(ts.map some,[0])]) o[j]:=by
   rw[qBp hj,qDe,qCf,qEc]
  have hcw:∀ρ:Rh,ρ[3]?=some (some (dctA ((o.take j).foldl stepA [(ts.map some,[0])])))->ρ[4]?=some (some (.int ((o[j]:Nat):Int)))->eCallN zAR (aCons (eV 3) (aCons (eV 4) aNil)) ρ=okR (dctA (stepA ((o.take j).foldl stepA [(ts.map some,[0])]) o[j])):=fun ρ h3 h4=>by
   have f3:eV 3 ρ=okR (dctA ((o.take j).foldl stepA [(ts.map some,[0])])):=by unfold eV;rw[h3]
   have f4:eV 4 ρ=okR (.int ((o[j]:Nat):Int)):=by unfold eV;rw[h4]
   simp only[zLN,zB8,zC8,f3,f4,zA0,e1];rfl
  refine⟨_,[some (rowN ts,0),some (od,0),some (rowN o,0),some (dctA (stepA ((o.take j).foldl stepA [(ts.map some,[0])]) o[j]),2),some (.int ((o[j]:Nat):Int),0)],rfl,?_,some (.int ((o[j]:Nat):Int),0),?_,?_⟩
  ·show sSet 3 2 [3,4] _ [some (rowN ts,0),some (od,0),some (rowN o,0),some (dctA ((o.take j).foldl stepA [(ts.map some,[0])]),2),some (.int ((o[j]:Nat):Int),0)]=_;rw[zIL,hcw _ rfl rfl,zA0,if_neg (by show ¬(1000<=2);decide),hcw _ rfl rfl,zA0];rfl
  ·rw[ef]
  ·rw[ef];exact e2)
 have hF:sFor [2] (iSq (eV 2)) (.one 4) (sSet 3 2 [3,4] (eCallN zAR (aCons (eV 3) (aCons (eV 4) aNil)))) [some (rowN ts,0),some (od,0),some (rowN o,0),some (dctA [(ts.map some,[0])],2),none]=okR (.nx r):=by
  unfold sFor;rw[show iSq (eV 2) (frz (frzAt [2] [some (rowN ts,0),some (od,0),some (rowN o,0),some (dctA [(ts.map some,[0])],2),none]))=okR (o.map fun p=>Dt.int ((p:Nat):Int)) by
   show okR ((o.map fun k:Nat=>(k:Int)).map Dt.int)=_;rw[qAn];rfl,zA0]
  exact hr
 rw[zDO,hF,zA0];dsimp only;rw[hx,qB8,qAi,qD0,hcs];have hkey:eBi tupD (aCons (eComp (iSq (eV 0)) 1 (.one 5) Mi.tYes (eC .non)) aNil) (full [some (rowN ts,0),some (od,0),some (rowN o,0),some (dctA [(qA4 (4*n) none,cs)],2),x])=okR (.tup (tyR (qA4 (4*n) none))):=by
  refine bi1 (d1:=.lst (tyR (qA4 (4*n) none))) ?_ rfl;unfold eComp;rw[show iSq (eV 0) (full [some (rowN ts,0),some (od,0),some (rowN o,0),some (dctA [(qA4 (4*n) none,cs)],2),x])=okR ((ts.map fun k:Nat=>(k:Int)).map Dt.int) from rfl,zA0,if_pos ⟨by rw[qAi,hlt];lia,by rfl⟩];rw[zI9 (f:=fun _=>.non) _ _ fun d _=>⟨_,rfl,rfl,rfl⟩,zA0]
  congr 2;rw[qCg,qAn];refine qAx (by simp[hN.len]) fun i h1 h2=>?_
  simp[oD]
 have hret:sRetTIx 1 3 (eBi tupD (aCons (eComp (iSq (eV 0)) 1 (.one 5) Mi.tYes (eC .non)) aNil)) [some (rowN ts,0),some (od,0),some (rowN o,0),some (dctA [(qA4 (4*n) none,cs)],2),x]=okR (.rt (rowD (hst cs))):=by
  unfold sRetTIx;dsimp only[qBz,qC0];rw[hkey,zA0,zPI];dsimp only;rw[zSX];show(match(findA [(qA4 (4*n) none,cs)] (qA4 (4*n) none)).map fun ys=>rowD (hst ys)with|some d=>if 1=1 then okR (Out.rt d)else none|none=>none)=_
  rw[findA,if_pos rfl];rfl
 rw[hret,zA0,<- zMH hperm];rfl
theorem zP9(cs:List Int)(n:Nat)(hn:n<=20)(hc:0<cs.length)(hcl:cs.length<=1000):∃ms,FW.NetL ms (4*n)/\zBP [rowD cs,.int (n:Int)]=okR (rowD ms):=by
 suffices h:eiR (zCX [some (rowD cs,0),some (.int (n:Int),0),none,none,none,none,none,none]) (fun _=>False) (fun d=>∃ms,d=rowD ms/\FW.NetL ms (4*n)) by
  rcases h with⟨_,_,z⟩|⟨d,h1,ms,rfl,h2⟩
  ·exact z.elim
  ·exact⟨ms,h2,zD3 rfl h1⟩
 have m0:mulD (.int 4) (.int (n:Int))=some (.int ((4*n:Nat):Int)):=by
  rw[zEM (by lia) (by lia)]
  congr 2
 have m2:mulD (.int 2) (.int (n:Int))=some (.int ((2*n:Nat):Int)):=by
  rw[zEM (by lia) (by lia)]
  congr 2
 have hra:rangeD [.int ((4*n:Nat):Int)]=some (rowD (numL (qA7 (4*n)))):=by
  rw[zKD (by lia) (by lia),show(((4*n:Nat):Int)).toNat=4*n by lia,zEJ];rfl
 have hrp:=zEG (4*n) (by lia);have hlc:lenD [rowD cs]=some (.int (cs.length:Int)):=by simp[rowD,lenD]
 unfold zCX;refine zBR (P:=fun r=>r=[some (rowD cs,0),some (.int (n:Int),0),some (rowD (numL (qA7 (4*n))),1),none,none,none,none,none]) (zD2 ?_) ?_
 ·rw[ss (d:=rowD (numL (qA7 (4*n)))) (bi1 (b2 rfl rfl m0) hra) (by rw[zC0];exact qA6 _)];exact zB1 rfl rfl
 rintro r rfl
 refine zBR (P:=fun r=>r=[some (rowD cs,0),some (.int (n:Int),0),some (rowD (numL (qA7 (4*n))),1),some (rowD (qA4 (4*n) 0),1),none,none,none,none]) (zD2 ?_) ?_
 ·rw[ss (d:=rowD (qA4 (4*n) 0)) (b2 (el1 rfl) (b2 rfl rfl m0) hrp) (by rw[zC0];exact qA6 _)];exact zB1 rfl rfl
 rintro r rfl
 refine zBR (P:=fun r=>∃left:List Nat,∃ms:List Int,∃o4 o5 o6 o7,r=[some (rowD cs,0),some (.int (n:Int),0),some (rowD (numL left),1),some (rowD ms,1),o4,o5,o6,o7]/\FW.Part left ms (4*n)/\left.length+2*(2*n)=4*n) (zD2 ?_) ?_
 ·have hit:iR1 (aCons (eB mulD (eC (.int 2)) (eV 1)) aNil) (full [some (rowD cs,0),some (.int (n:Int),0),some (rowD (numL (qA7 (4*n))),1),some (rowD (qA4 (4*n) 0),1),none,none,none,none])=okR (nums 0 (2*n)):=zN3 (n:=2*n) (by
   rw[zB8,b2 (d:=.int ((2*n:Nat):Int)) rfl rfl m2,zA0,zC8,zA0]) (by lia)
  rw[zFO,hit,zA0];refine zP5 (fun k r=>∃left:List Nat,∃ms:List Int,∃o4 o5 o6 o7,r=[some (rowD cs,0),some (.int (n:Int),0),some (rowD (numL left),1),some (rowD ms,1),o4,o5,o6,o7]/\FW.Part left ms (4*n)/\left.length+2*k=4*n) ⟨_,_,_,_,_,_,rfl,FW.Part.start (4*n) (by lia),by simp⟩ (fun k hk r hr=>?_) fun r hr=>?_
  ·obtain⟨left,ms,o4,o5,o6,o7,rfl,hP,hll⟩:=hr
   match left,hll,hP with
   |[],hll,_=>simp at hll;lia
   |[x],hll,hP=>have:=hP.ev;simp at this
   |x::y::l,hll,hP=>
    simp only[qAr]at hll;have hx:=hP.lt x (by simp);have hml:=hP.len;have g0:(numL (x::y::l)).getD 0 0=(x:Int):=rfl;refine zF7 fun bb hb=>?_
    refine zB1 (r:=[some (rowD cs,0),some (.int (n:Int),0),some (rowD (numL (y::l)),1),some (rowD ms,1),some (.int (k:Nat),0),some (.int (x:Int),0),o6,o7]) (zFH (i:=2) (j:=5) (l:=0) (ls:=numL (x::y::l)) (z:=0) rfl rfl (by lia) (by simp[numL];lia) (by lia) (by simp[numL];lia)) ?_;subst hb;have q0:=qBv (k:Int) (show((cs.length:Nat):Int)≠0 by lia);have q1:=qCl (k:Int) (show(0:Int)<((cs.length:Nat):Int) by lia);have i1:ixD (rowD cs) (.int ((k:Int)%(cs.length:Int)))=some (.int (cs.getD ((k:Int)%(cs.length:Int)).toNat 0)):=zMF q0 q1;have d0:divD (.int (k:Int)) (.int (cs.length:Int))=some (.int ((k:Int)/(cs.length:Int))):=by
     unfold divD;dsimp only;rw[if_pos ⟨by lia,by lia⟩]
    have d00:(0:Int)<=(k:Int)/(cs.length:Int):=Int.ediv_nonneg (by lia) (by lia);have d01:(k:Int)/(cs.length:Int)<=k:=Int.ediv_le_self _ (by lia);have md:modD (.int (k:Int)) (.int (cs.length:Int))=some (.int ((k:Int)%(cs.length:Int))):=by
     unfold modD;dsimp only;rw[if_pos (by lia)]
    generalize(k:Int)/(cs.length:Int)=dv at d0 d00 d01;generalize(k:Int)%(cs.length:Int)=rm at md i1;generalize cs.getD rm.toNat 0=cl at i1;have d1:divD (.int cl) (.int (1+dv))=some (.int (cl/(1+dv))):=by
     unfold divD;dsimp only;rw[if_pos ⟨by lia,by lia⟩]
    refine zF7 fun bb hb=>?_
    refine zB1 (r:=[some (rowD cs,0),some (.int (n:Int),0),some (rowD (numL (y::l)),1),some (rowD ms,1),some (.int (k:Nat),0),some (.int (x:Int),0),some (.int (cl/(1+dv)),0),o7]) (ss (b2 (b2 rfl (b2 rfl (bi1 rfl hlc) md) i1) (b2 rfl (b2 rfl (bi1 rfl hlc) d0) rfl) d1) (qA6 0)) ?_;subst hb;generalize cl/(1+dv)=w2;have hnl:(numL (y::l)).length=l.length+1:=by simp[numL]
    obtain⟨z,hz⟩:∃z,w2%((l.length+1:Nat):Int)=z:=⟨_,rfl⟩
    have z0:0<=z:=by rw[<- hz];exact qBv _ (by lia)
    have z1:z<((l.length+1:Nat):Int):=by rw[<- hz];exact qCl _ (by lia)
    have hmod:modD (.int w2) (.int ((l.length+1:Nat):Int))=some (.int z):=by
     rw[<- hz];unfold modD;dsimp only;rw[if_pos (by lia)]
    have hly:lenD [rowD (numL (y::l))]=some (.int ((l.length+1:Nat):Int)):=by simp[rowD,lenD,numL]
    have he:eB modD (eV 6) (eBi lenD (aCons (eV 2) aNil)) (full [some (rowD cs,0),some (.int (n:Int),0),some (rowD (numL (y::l)),1),some (rowD ms,1),some (.int (k:Nat),0),some (.int (x:Int),0),some (.int w2,0),o7])=okR (.int z):=b2 rfl (bi1 rfl hly) hmod;have hzt:z.toNat<(y::l).length:=by simp;lia
    obtain⟨b',hb'⟩:∃b',(y::l)[z.toNat]?=some b':=⟨_,qA5 hzt⟩
    have gz:(numL (y::l)).getD z.toNat 0=(b':Int):=by
     unfold numL;rw[qA0,qA8,hb'];rfl
    have hbl:=hP.lt b' (by have:=qAw hb';simp at this ⊢;exact .inr this);have her:(numL (y::l)).eraseIdx z.toNat=numL ((y::l).eraseIdx z.toNat):=zQ5 _ _ _;refine zF7 fun bb hb=>?_
    have hpop:=zFH (i:=2) (j:=7) (l:=0) (ls:=numL (y::l)) (z:=z) (r:=[some (rowD cs,0),some (.int (n:Int),0),some (rowD (numL (y::l)),1),some (rowD ms,1),some (.int (k:Nat),0),some (.int (x:Int),0),some (.int w2,0),o7]) rfl he z0 (by rw[hnl];exact z1) (by lia) (by rw[hnl];lia);rw[gz,her]at hpop;refine zB1 (r:=[some (rowD cs,0),some (.int (n:Int),0),some (rowD (numL ((y::l).eraseIdx z.toNat)),1),some (rowD ms,1),some (.int (k:Nat),0),some (.int (x:Int),0),some (.int w2,0),some (.int (b':Int),0)]) hpop ?_;subst hb;have hT:=FW.Part.turn (a:=x) (b:=b') (k:=z.toNat) (l:=y::l) hP hb';have s4:=zCQ (i:=3) (n:=0) (l:=0) (ls:=ms) (e1:=eV 5) (e2:=eV 7) (z:=(x:Int)) (v:=(b':Int)) (r:=[some (rowD cs,0),some (.int (n:Int),0),some (rowD (numL ((y::l).eraseIdx z.toNat)),1),some (rowD ms,1),some (.int (k:Nat),0),some (.int (x:Int),0),some (.int w2,0),some (.int (b':Int),0)]) rfl rfl rfl (by lia) (by lia);have s5:=zCQ (i:=3) (n:=0) (l:=0) (ls:=ms.set x (b':Int)) (e1:=eV 7) (e2:=eV 5) (z:=(b':Int)) (v:=(x:Int)) (r:=[some (rowD cs,0),some (.int (n:Int),0),some (rowD (numL ((y::l).eraseIdx z.toNat)),1),some (rowD (ms.set x (b':Int)),1),some (.int (k:Nat),0),some (.int (x:Int),0),some (.int w2,0),some (.int (b':Int),0)]) rfl rfl rfl (by lia) (by rw[qCn];lia);rw[qB0]at s4 s5;refine zF7 fun bb hb=>zB1 s4 ?_
    subst hb;refine zB1 s5 ⟨(y::l).eraseIdx z.toNat,(ms.set x (b':Int)).set b' (x:Int),_,_,_,_,rfl,hT,?_⟩;have:=FW.len_erase hzt;simp only[qAr]at this;lia
  ·obtain⟨left,ms,o4,o5,o6,o7,rfl,hP,hll⟩:=hr;exact⟨left,ms,_,_,_,_,rfl,hP,hll⟩
 rintro r ⟨left,ms,o4,o5,o6,o7,rfl,hP,hll⟩
 have hle:left=[]:=qCk (by lia);subst hle;refine .inr ⟨rowD ms,?_,ms,rfl,hP.done⟩;unfold sRetV;dsimp only[qBz,qC0];rw[if_pos (.inl rfl)]
theorem zYW(cs:List Int)(n:Nat)(hn:n<=20)(hc:0<cs.length)(hcl:cs.length<=1000):∃ts,NetN ts (4*n)/\(∀x,x<4*n->nt ts x≠x)/\zBP [rowD cs,.int (n:Int)]=okR (rowN ts):=by
 obtain⟨ms,h1,h2⟩:=zP9 cs n hn hc hcl;obtain⟨ts,rfl,h3,h4⟩:=zTP h1;exact⟨ts,h3,h4,h2⟩
theorem zb1{ts C:List Nat}{n:Nat}(hN:NetN ts (4*n))(hne:∀x,x<4*n->nt ts x≠x)(hc:C∈chA n):rN ts n C<=2*n:=by
 have hp:=(zHF (qCy (qA7 n))).mem_iff.mpr hc;obtain⟨ps,h1,rfl⟩:=qAb.mp hp;have:=zTY hN hne (qCy (qA7 n)) h1;have h2:rN ts n (toC n ps)=(runP (ts.map some) ps).2:=by rw[this]
 rw[h2];have h3:∀(ps:List (Nat×Nat))(t:Ty),(runP t ps).2<=2*ps.length:=fun ps=>by
  induction ps with
  |nil=>intro t;exact qA6 _
  |cons q r ih=>
   intro t;have:=ih (jP t q.1 q.2).1;have:=zW7 t q.1 q.2;show(jP t q.1 q.2).2+(runP (jP t q.1 q.2).1 r).2<=_;simp only[qAr];lia
 have h4:=h3 ps (ts.map some);have h5:ps.length=n:=by
  have:=congrArg qD9 (allW_mem.mp h1).1;simpa using this
 rw[h5]at h4;exact h4
section
variable{n:Nat}{cs c:List Nat}(w:Wd n cs)(n1:1<=n)(hn:n<=10)(hc:c.length=n)(hw:∀x∈c,x<3)(hsl:(sosL cs).length=n)
include w n1 hn hc hw hsl
end
theorem za8(n:Nat):chA n≠[]:=fun z=>by
 have:=chA_mem (n:=n) (c:=qA4 n 0);rw[z]at this;exact qEr (this.mpr ⟨by simp,fun w hw=>by rw[qD3 hw];decide⟩)
theorem zQO:∀n,(chA n).length=3 ^ n
 |0=>rfl
 |n+1=>by
  rw[chA];have:∀L:List (List Nat),(L.flatMap fun c=>[c++[0],c++[1],c++[2]]).length=3*L.length:=fun L=>by
   induction L with
   |nil=>rfl
   |cons a r ih=>rw[qB1,qB2,ih];simp;lia
  rw[this,zQO n,qF4];lia
def GdA(n:Nat)(f:Nat->Nat->Int)(v:Nat):Prop:=v<n/\f v v=1
def GdB(n:Nat)(f:Nat->Nat->Int)(u v:Nat):Prop:=u<n/\v<n/\u≠v/\f u v=1/\f u u=0/\f v v=0
inductive Du(n:Nat)(f:Nat->Nat->Int):List Int->Option (Nat->Nat->Int)->Prop where
 |one {v:Nat} (h:GdA n f v):Du n f [(v:Int)] (some (pvA n f v))
 |two {u v:Nat} (h:GdB n f u v):Du n f [(u:Int),(v:Int)] (some (pvB n f u v))
 |no {l:List Int} (h1:∀v:Nat,l=[(v:Int)]->¬GdA n f v) (h2:∀u v:Nat,l=[(u:Int),(v:Int)]->¬GdB n f u v):Du n f l none
theorem oo:(("other":Str)==("one":Str))=false:=by decide +kernel
noncomputable def fv(P0 P1 P2 P3 P4:List Nat)(a b c d:Nat):List Nat:=P0++a::(P1++b::(P2++c::(P3++d::P4)))
section
variable{P0 P1 P2 P3 P4:List Nat}{a b c d x y:Nat}
noncomputable def q0(P0:List Nat):Nat:=P0.length
noncomputable def q1(P0 P1:List Nat):Nat:=P0.length+1+P1.length
noncomputable def q2(P0 P1 P2:List Nat):Nat:=P0.length+1+P1.length+1+P2.length
noncomputable def q3(P0 P1 P2 P3:List Nat):Nat:=P0.length+1+P1.length+1+P2.length+1+P3.length
end
section
variable{cs u v:List Nat}
end
section
variable{P0 P1 P2 P3 P4:List Nat}{a b c d x y:Nat}
end
theorem app4{r:Ro}{i n k:Nat}{e:EM}{ds:List Dt}{d:Dt}(h:r[i]?=some (some (.lst ds,k+1)))(he:e (full r)=okR d)(hl:ds.length<=100000)(h1:d.dep<=n)(h2:d.dep<=k):sApp i n e r=okR (.nx (r.set i (some (.lst (ds++[d]),k+1)))):=by
 unfold sApp;rw[h];dsimp only;rw[he,zA0];exact if_pos ⟨hl,h1,h2⟩
theorem st4{c:TM}{a:SM}{r:Ro}{X:R Out}(hc:c (full r)=okR true)(ha:a r=X):sIf c a sNil r=X:=by
 rw[zIM,hc,zA0,if_pos rfl,ha]
noncomputable def sh4(b:Int):Dt:=.ins "Shift" [("by",.i b)]
theorem n1:(("Swap":Str)==("Turn":Str))=false:=by decide +kernel
theorem n2:(("Mirror":Str)==("Turn":Str))=false:=by decide +kernel
theorem n3:(("Mirror":Str)==("Swap":Str))=false:=by decide +kernel
theorem m1:(("done":Str)==("letter":Str))=false:=by decide +kernel
theorem m2:(("done":Str)==("one":Str))=false:=by decide +kernel
theorem m3:(("done":Str)==("other":Str))=false:=by decide +kernel
theorem m4:(("done":Str)==("by":Str))=false:=by decide +kernel
theorem o1:(("other":Str)==("one":Str))=false:=by decide +kernel
section
variable{P0 P1 P2 P3 P4:List Nat}{a b x y:Nat}
end
theorem cmpl{ns:List Int}{ρ:Rh}{i:Nat}(h:ρ[i]?=some (some (.scr ns))):eBi lenD (aCons (eV i) aNil) ρ=okR (.int (ns.length:Int)):=bi1 (v1 h) rfl
theorem ixS{ns:List Int}{k:Nat}(h:k<ns.length):ixD (.scr ns) (.int (k:Int))=some (.int (ns.getD k 0)):=by
 have:=zWC (ns:=ns) (i:=(k:Int)) (by lia) (by lia)
 rw[qB0]at this;show(itA ns (k:Int)).map Dt.int=_;rw[this];rfl
theorem zYZ(L:Nat)(hL:L<=63)(ns:List Int)(hl:ns.length<=63):∃cl:List Int,zBQ [.scr ns,.int (L:Int)]=okR (rowD cl)/\L<=cl.length/\cl.length<=63/\∀c∈cl,0<=c:=by
 have hmin:minD [.int 63,.int (ns.length:Int)]=some (.int (ns.length:Int)):=by
  show some (Dt.int (if(ns.length:Int)<63 then(ns.length:Int)else 63))=_
  split
  ·rfl
  ·rw[show(63:Int)=(ns.length:Int) by lia]
 have hmax:maxD [.int (L:Int),.int (ns.length:Int)]=some (.int ((max L ns.length:Nat):Int)):=by
  show some (Dt.int (if(ns.length:Int)>(L:Int)then(ns.length:Int)else(L:Int)))=_;rw[show(if(ns.length:Int)>(L:Int)then(ns.length:Int)else(L:Int))=((max L ns.length:Nat):Int) by split<;>lia]
 have hm1:L<=max L ns.length:=by lia
 have hm2:max L ns.length<=63:=by lia
 generalize max L ns.length=m at hmax hm1 hm2
 suffices key:nxR (sForR (iR1 (aCons (eBi maxD (aCons (eV 1) (aCons (eBi minD (aCons (eC (.int 63)) (aCons (eBi lenD (aCons (eV 0) aNil)) aNil))) aNil))) aNil)) 3 (sSeq (sSet 4 1 [3] (eB addD (eB mulD (eC (.int 7)) (eV 3)) (eC (.int 3))))
 (sSeq (sIf (tB (eB (cmpD fun i j=>decide (j<i)) (eBi lenD (aCons (eV 0) aNil)) (eC (.int 0)))) (sSet 4 0 [0,3] (eB modD (eB ixD (eV 0) (eB modD (eV 3) (eBi lenD (aCons (eV 0) aNil)))) (eC (.int 1000003)))) sNil)
 (sSeq (sSet 5 0 [4,3] (eB modD (eB mulD (eB modD (eB addD (eB mulD (eB addD (eV 4) (eC (.int 1))) (eC (.int 48271))) (eB mulD (eB mulD (eV 3) (eV 3)) (eC (.int 7919)))) (eC (.int 1000000007))) (eC (.int 40692))) (eC (.int 2147483399))))
 (sApp 2 1 (eB addD (eB mulD (eV 5) (eC (.int 2147483647))) (eB modD (eB addD (eB mulD (eV 5) (eC (.int 69621))) (eV 3)) (eC (.int 2147483647)))))))) [some (.scr ns,0),some (.int (L:Int),0),some (.lst [],8+1),none,none,none]) (fun r=>∃(l:List Int)(o3 o4 o5:Option Sl),l.length=m/\(∀c∈l,0<=c)/\r=[some (.scr ns,0),some (.int (L:Int),0),some (.lst (l.map .int),8+1),o3,o4,o5]) by
  obtain⟨r',g,l,o3,o4,o5,h1,h2,rfl⟩:=zD6 key;refine⟨l,zD3 rfl (sg (d:=.lst []) (by simp) (by decide) (sw g ?_)),by lia,by lia,h2⟩;show sRetV 9 2 [some (.scr ns,0),some (.int (L:Int),0),some (.lst (l.map .int),8+1),o3,o4,o5]=_;simp[rowD]
 rw[zFO,zN3 (n:=m) (al0 (bi2 rfl (bi2 rfl (bi1 rfl rfl) hmin) hmax)) (by lia),zA0];refine zP5 (fun k r=>∃(l:List Int)(o3 o4 o5:Option Sl),l.length=k/\(∀c∈l,0<=c)/\r=[some (.scr ns,0),some (.int (L:Int),0),some (.lst (l.map .int),8+1),o3,o4,o5]) ⟨[],none,none,none,rfl,fun c hc=>by simp at hc,rfl⟩ (fun k hk r hr=>?_) fun r hr=>hr
 obtain⟨l,o3,o4,o5,hlk,hl0,rfl⟩:=hr;refine nsw (ss (b2 (b2 rfl rfl (zEM (by decide) (by decide))) rfl (adi rfl)) (qAu _)) ?_;obtain⟨c,lv,hc,hif⟩:∃(c:Int)(lv:Nat),0<=c/\sIf (tB (eB (cmpD fun i j=>decide (j<i)) (eBi lenD (aCons (eV 0) aNil)) (eC (.int 0)))) (sSet 4 0 [0,3] (eB modD (eB ixD (eV 0) (eB modD (eV 3) (eBi lenD (aCons (eV 0) aNil)))) (eC (.int 1000003)))) sNil [some (.scr ns,0),some (.int (L:Int),0),some (.lst (l.map .int),8+1),some (.int (k:Nat),0),some (.int (7*(k:Int)+3),1),o5]=okR (.nx [some (.scr ns,0),some (.int (L:Int),0),some (.lst (l.map .int),8+1),some (.int (k:Nat),0),some (.int c,lv),o5]):=by
  by_cases h:0<ns.length
  ·have a1:=qBv (k:Int) (show(ns.length:Int)≠0 by lia);have a2:=qCl (k:Int) (show(0:Int)<ns.length by lia);obtain⟨q,hq⟩:∃q:Nat,(k:Int)%(ns.length:Int)=(q:Int):=⟨((k:Int)%(ns.length:Int)).toNat,by lia⟩
   refine⟨ns.getD q 0%1000003,0,qBv _ (by decide),st4 (tb1 (b2 (cmpl rfl) rfl (cmi (decide_eq_true (show(0:Int)<ns.length by lia))))) (ss (b2 (b2 rfl (b2 rfl (cmpl rfl) (mdi (by lia) hq)) (ixS (by lia))) rfl (mdi (by decide) rfl)) (qA6 0))⟩
  ·exact⟨7*(k:Int)+3,1,by lia,sf (tb1 (b2 (cmpl rfl) rfl (cmi (decide_eq_false (show ¬(0:Int)<ns.length by lia)))))⟩
 refine nsw hif ?_;have h1:mulD (.int (k:Int)) (.int (k:Int))=some (.int ((k:Int)*k)):=zEM (by lia) (by lia);refine nsw (ss (b2 (b2 (b2 (b2 (b2 (b2 rfl rfl (adi rfl)) rfl (zNJ (by decide) (by decide))) (b2 (b2 rfl rfl h1) rfl (zNJ (by decide) (by decide))) (adi rfl)) rfl (mdi (by decide) rfl)) rfl (zNJ (by decide) (by decide))) rfl (mdi (by decide) rfl)) (qA6 0)) ?_;have hf:0<=((c+1)*48271+(k:Int)*k*7919)%1000000007*40692%2147483399:=qBv _ (by decide)
 generalize((c+1)*48271+(k:Int)*k*7919)%1000000007*40692%2147483399=f at hf;refine zB1 (app4 (d:=.int (f*2147483647+(f*69621+(k:Int))%2147483647)) rfl (b2 (b2 rfl rfl (zNJ (by decide) (by decide))) (b2 (b2 (b2 rfl rfl (zNJ (by decide) (by decide))) rfl (adi rfl)) rfl (mdi (by decide) rfl)) (adi rfl)) (by simp;lia) (qAu _) (qAu _)) ⟨l++[f*2147483647+(f*69621+(k:Int))%2147483647],_,_,_,by simp;lia,fun z hz=>?_,by rw[qBa];rfl⟩
 rcases qAz.mp hz with h|h
 ·exact hl0 z h
 ·rw[qAt]at h
  have:=qBv (f*69621+(k:Int)) (show(2147483647:Int)≠0 by decide)
  lia
theorem za9(L:Nat)(hL:L<=63)(ns:List Int)(hl:ns.length<=63):∃cl:List Int,zD7 [.scr ns,.int (L:Int)]=okR (rowD cl)/\L<=cl.length/\cl.length<=63/\∀c∈cl,0<=c:=by
 obtain⟨cm,em,m1,m2,m3⟩:=zYZ L hL ns hl;have hrm:sRet 1 9 [0,1] (eCall zBQ (aCons (eV 0) (aCons (eV 1) aNil))) [some (.scr ns,0),some (.int (L:Int),0),none]=okR (.rt (rowD cm)):=sr (c2 rfl rfl em) ⟨by rw[zC0];decide,by rw[zC0];decide⟩
 by_cases h0:ns.length=0
 ·exact⟨cm,zD3 rfl (sx (to1 (eqi (cmpl rfl) rfl (decide_eq_true (by lia)))) hrm),m1,m2,m3⟩
 ·have x0:tB (eB eqD (eBi lenD (aCons (eV 0) aNil)) (eC (.int 0))) (full [some (.scr ns,0),some (.int (L:Int),0),none])=okR false:=eqi (cmpl rfl) rfl (decide_eq_false (by lia))
  by_cases h1:ns.getD 0 0%2=0
  ·exact⟨cm,zD3 rfl (sx (to0 x0 (eqi (b2 (b2 rfl rfl (ixS (k:=0) (by lia))) rfl (mdi (by decide) rfl)) rfl (decide_eq_true h1))) hrm),m1,m2,m3⟩
  ·obtain⟨T,hT,hpw⟩:∃T:Int,0<T/\powD (.int 10) (.int 60)=some (.int T):=⟨10 ^ (60:Int).toNat,by decide,@if_pos _ (qA2 _) ⟨by decide,by decide,by decide⟩ _ _ _⟩
   have hit:∀o:Option Dt,iSq (eSlZ (eV 0) oNo (oE (eC (.int 63)))) [some (.scr ns),some (.int (L:Int)),o]=okR (ns.map Dt.int):=fun o=>by
    show zA2 (optR (slZ (.scr ns) none (some 63))) _=_;rw[show slZ (.scr ns) none (some 63)=some (.scr ns) from @if_pos _ (qA2 _) (show(ns.length:Int)<=63 by lia) _ _ _];rfl
   have hc:eComp (iSq (eSlZ (eV 0) oNo (oE (eC (.int 63))))) 1 (.one 3) Mi.tYes (eB modD (eV 3) (eB powD (eC (.int 10)) (eC (.int 60)))) [some (.scr ns),some (.int (L:Int)),none]=okR (rowD (ns.map (·%T))):=by
    refine(zH6 Dt.int (fun x=>Dt.int (x%T)) ns rfl rfl (fun x _=>b2 rfl (b2 rfl rfl hpw) (mdi hT rfl)) _ (hit none) (by lia)).trans ?_;unfold rowD;rw[qAn];rfl
   have hrep:repD (.lst [.int 0]) (.int ((L:Int)-((ns.map (·%T)).length:Int)))=some (rowD (qA4 (L-ns.length) 0)):=by
    rw[qAi];unfold repD;dsimp only;rw[if_pos ⟨⟨by lia,by lia⟩,by simp;lia⟩,show((L:Int)-(ns.length:Int)).toNat=L-ns.length by lia]
    have:∀m:Nat,(qA4 m [Dt.int 0]).flatten=(qA4 m (0:Int)).map Dt.int:=fun m=>by
     induction m with
     |zero=>rfl
     |succ m ih=>rw[qB3,qBr,ih,qB3];rfl
    rw[this];rfl
   have hadd:addD (rowD (ns.map (·%T))) (rowD (qA4 (L-ns.length) 0))=some (rowD (ns.map (·%T)++qA4 (L-ns.length) 0)):=by
    unfold rowD;rw[qBa];exact @if_pos _ (qA2 _) (by simp;lia) _ _ _
   refine⟨ns.map (·%T)++qA4 (L-ns.length) 0,zD3 rfl (sp (to0 x0 (eqi (b2 (b2 rfl rfl (ixS (k:=0) (by lia))) rfl (mdi (by decide) rfl)) rfl (decide_eq_false h1))) (sg hc (by rw[zC0];exact qA6 1) (sr (b2 rfl (b2 (el1 rfl) (b2 rfl (bi1 rfl (lenR _)) (sbi rfl)) hrep) hadd) ⟨by rw[zC0];exact qA6 1,by rw[zC0];exact qA6 1⟩))),by simp;lia,by simp;lia,fun c hc=>?_⟩
   rcases qAz.mp hc with h|h
   ·obtain⟨x,_,rfl⟩:=qAb.mp h;exact qBv _ (by lia)
   ·rw[qD3 h];exact qIi 0
abbrev dst(c:Int)(n:Nat)(left:List Nat)(ms:List Int)(o4 o5 o6:Option Sl):Ro:=[some (.int c,0),some (.int (n:Int),0),some (rowD (numL left),1),some (rowD ms,1),o4,o5,o6]
theorem zQB(c0:Int)(n:Nat)(hn:n<=20):∃ms,FW.NetL ms (4*n)/\zAV [.int c0,.int (n:Int)]=okR (rowD ms):=by
 suffices h:eiR (zC6 [some (.int c0,0),some (.int (n:Int),0),none,none,none,none,none]) (fun _=>False) (fun d=>∃ms,d=rowD ms/\FW.NetL ms (4*n)) by
  rcases h with⟨_,_,z⟩|⟨d,h1,ms,rfl,h2⟩
  ·exact z.elim
  ·exact⟨ms,h2,zD3 rfl h1⟩
 have m0:mulD (.int 4) (.int (n:Int))=some (.int ((4*n:Nat):Int)):=by
  rw[zEM (by lia) (by lia)]
  congr 2
 have m2:mulD (.int 2) (.int (n:Int))=some (.int ((2*n:Nat):Int)):=by
  rw[zEM (by lia) (by lia)]
  congr 2
 have hra:rangeD [.int ((4*n:Nat):Int)]=some (rowD (numL (qA7 (4*n)))):=by
  rw[zKD (by lia) (by lia),show(((4*n:Nat):Int)).toNat=4*n by lia,zEJ];rfl
 have hrp:=zEG (4*n) (by lia);unfold zC6;refine zBR (P:=fun r=>r=[some (.int c0,0),some (.int (n:Int),0),some (rowD (numL (qA7 (4*n))),1),none,none,none,none]) (zD2 ?_) ?_
 ·rw[ss (d:=rowD (numL (qA7 (4*n)))) (bi1 (b2 rfl rfl m0) hra) (by rw[zC0];exact qA6 _)];exact zB1 rfl rfl
 rintro r rfl
 refine zBR (P:=fun r=>r=dst c0 n (qA7 (4*n)) (qA4 (4*n) 0) none none none) (zD2 ?_) ?_
 ·rw[ss (d:=rowD (qA4 (4*n) 0)) (b2 (el1 rfl) (b2 rfl rfl m0) hrp) (by rw[zC0];exact qA6 _)];exact zB1 rfl rfl
 rintro r rfl
 refine zBR (P:=fun r=>∃(c:Int)(left:List Nat)(ms:List Int)(o4 o5 o6:Option Sl),r=dst c n left ms o4 o5 o6/\FW.Part left ms (4*n)/\left.length+2*(2*n)=4*n) (zD2 ?_) ?_
 ·have hit:iR1 (aCons (eB mulD (eC (.int 2)) (eV 1)) aNil) (full (dst c0 n (qA7 (4*n)) (qA4 (4*n) 0) none none none))=okR (nums 0 (2*n)):=zN3 (n:=2*n) (by
   rw[zB8,b2 (d:=.int ((2*n:Nat):Int)) rfl rfl m2,zA0,zC8,zA0]) (by lia)
  rw[zFO,hit,zA0];refine zP5 (fun k r=>∃(c:Int)(left:List Nat)(ms:List Int)(o4 o5 o6:Option Sl),r=dst c n left ms o4 o5 o6/\FW.Part left ms (4*n)/\left.length+2*k=4*n) ⟨_,_,_,_,_,_,rfl,FW.Part.start (4*n) (by lia),by simp⟩ (fun k hk r hr=>?_) fun r hr=>?_
  ·obtain⟨c,left,ms,o4,o5,o6,rfl,hP,hll⟩:=hr
   match left,hll,hP with
   |[],hll,_=>simp at hll;lia
   |[x],hll,hP=>have:=hP.ev;simp at this
   |x::y::l,hll,hP=>
    simp only[qAr]at hll;have hx:=hP.lt x (by simp);have hml:=hP.len;refine zF7 fun bb hb=>?_
    refine zB1 (r:=dst c n (y::l) ms (some (.int (k:Nat),0)) (some (.int (x:Int),0)) o6) (zFH (i:=2) (j:=5) (l:=0) (ls:=numL (x::y::l)) (z:=0) rfl rfl (by lia) (by simp[numL];lia) (by lia) (by simp[numL];lia)) ?_;subst hb;have hnl:(numL (y::l)).length=l.length+1:=by simp[numL]
    obtain⟨z,hz⟩:∃z,c%((l.length+1:Nat):Int)=z:=⟨_,rfl⟩
    have z0:0<=z:=by rw[<- hz];exact qBv _ (by lia)
    have z1:z<((l.length+1:Nat):Int):=by rw[<- hz];exact qCl _ (by lia)
    have hmod:modD (.int c) (.int ((l.length+1:Nat):Int))=some (.int z):=by
     rw[<- hz];unfold modD;dsimp only;rw[if_pos (by omega)]
    have hly:lenD [rowD (numL (y::l))]=some (.int ((l.length+1:Nat):Int)):=by simp[rowD,lenD,numL]
    have he:eB modD (eV 0) (eBi lenD (aCons (eV 2) aNil)) (full (dst c n (y::l) ms (some (.int (k:Nat),0)) (some (.int (x:Int),0)) o6))=okR (.int z):=b2 rfl (bi1 rfl hly) hmod;have hzt:z.toNat<(y::l).length:=by simp;lia
    obtain⟨b',hb'⟩:∃b',(y::l)[z.toNat]?=some b':=⟨_,qA5 hzt⟩
    have gz:(numL (y::l)).getD z.toNat 0=(b':Int):=by
     unfold numL;rw[qA0,qA8,hb'];rfl
    have hbl:=hP.lt b' (by have:=qAw hb';simp at this ⊢;exact .inr this);have her:(numL (y::l)).eraseIdx z.toNat=numL ((y::l).eraseIdx z.toNat):=zQ5 _ _ _;refine zF7 fun bb hb=>?_
    have hpop:=zFH (i:=2) (j:=6) (l:=0) (ls:=numL (y::l)) (z:=z) (r:=dst c n (y::l) ms (some (.int (k:Nat),0)) (some (.int (x:Int),0)) o6) rfl he z0 (by rw[hnl];exact z1) (by lia) (by rw[hnl];lia);rw[gz,her]at hpop;refine zB1 (r:=dst c n ((y::l).eraseIdx z.toNat) ms (some (.int (k:Nat),0)) (some (.int (x:Int),0)) (some (.int (b':Int),0))) hpop ?_;subst hb;have hel:=FW.len_erase hzt;simp only[qAr]at hel;have hl2:lenD [rowD (numL ((y::l).eraseIdx z.toNat))]=some (.int (((y::l).eraseIdx z.toNat).length:Int)):=by simp[rowD,lenD,numL]
    refine zF7 fun bb hb=>?_
    refine zB1 (ss (b2 rfl (b2 (bi1 rfl hl2) rfl (adi rfl)) (dvi ⟨by lia,by lia⟩)) (qA6 0)) ?_;subst hb
    generalize c/(((y::l).eraseIdx z.toNat).length+1:Int)=c';have hT:=FW.Part.turn (a:=x) (b:=b') (k:=z.toNat) (l:=y::l) hP hb';have s4:=zCQ (i:=3) (n:=0) (l:=0) (ls:=ms) (e1:=eV 5) (e2:=eV 6) (z:=(x:Int)) (v:=(b':Int)) (r:=dst c' n ((y::l).eraseIdx z.toNat) ms (some (.int (k:Nat),0)) (some (.int (x:Int),0)) (some (.int (b':Int),0))) rfl rfl rfl (by lia) (by lia);have s5:=zCQ (i:=3) (n:=0) (l:=0) (ls:=ms.set x (b':Int)) (e1:=eV 6) (e2:=eV 5) (z:=(b':Int)) (v:=(x:Int)) (r:=dst c' n ((y::l).eraseIdx z.toNat) (ms.set x (b':Int)) (some (.int (k:Nat),0)) (some (.int (x:Int),0)) (some (.int (b':Int),0))) rfl rfl rfl (by lia) (by rw[qCn];lia);rw[qB0]at s4 s5;refine zF7 fun bb hb=>zB1 s4 ?_
    subst hb;refine zB1 s5 ⟨c',(y::l).eraseIdx z.toNat,(ms.set x (b':Int)).set b' (x:Int),_,_,_,rfl,hT,?_⟩;lia
  ·exact hr
 rintro r ⟨c,left,ms,o4,o5,o6,rfl,hP,hll⟩
 have hle:left=[]:=qCk (by lia);subst hle;refine .inr ⟨rowD ms,?_,ms,rfl,hP.done⟩;unfold sRetV;dsimp only[qBz,qC0];rw[if_pos (.inl rfl)]
theorem zZU(c:Int)(n:Nat)(hn:n<=20):∃ts,NetN ts (4*n)/\(∀x,x<4*n->nt ts x≠x)/\zAV [.int c,.int (n:Int)]=okR (rowN ts):=by
 obtain⟨ms,h1,h2⟩:=zQB c n hn;obtain⟨ts,rfl,h3,h4⟩:=zTP h1;exact⟨ts,h3,h4,h2⟩
abbrev iN(k:Nat):Dt:=.int (k:Int)
theorem zLW(l:List Nat):rowN l=.lst (l.map iN):=by
 show rowD (l.map fun k:Nat=>(k:Int))=_;unfold rowD;rw[qAn];rfl
noncomputable def f0(f:Nat->Nat->Int):Nat->Nat->Int:=fun i j=>if i=j then 0 else f i j
theorem bitD{m:Nat}{x:List Int}(hx:RowN m x)(a:Nat):Bit (x.getD a 0):=by
 by_cases h:a<m
 ·exact hx.2 _ (zFI (by rw[hx.1];exact h))
 ·rw[qA0,qCa (by rw[hx.1];lia)];exact .inl rfl
inductive Spn(n:Nat)(A:List (List Int)):List Int->Prop
 |zero:Spn n A (qA4 n 0)
 |add {r v:List Int} (h:r∈A) (s:Spn n A v):Spn n A (addB r v)
theorem zJ2{n:Nat}{x:List Int}{b:Int}(hx:RowN n x)(hb:Bit b):RowN (n+1) (x++[b]):=⟨by simp[hx.1],fun z hz=>by
 rcases qAz.mp hz with h|h
 ·exact hx.2 z h
 ·rw[qAt.mp h];exact hb⟩
theorem zSW{n:Nat}{x:List Int}{b:Int}(hx:x.length=n){k:Nat}(hk:k<n):(x++[b]).getD k 0=x.getD k 0:=by
 rw[qA0,qA0,qA9 (by lia)]
theorem zJK{n:Nat}{x:List Int}{b:Int}(hx:x.length=n):(x++[b]).getD n 0=b:=by
 subst hx;simp
theorem zKH{n:Nat}{x:List Int}(hx:RowN (n+1) x):x=x.take n++[x.getD n 0]/\RowN n (x.take n):=by
 have hl:(x.take n).length=n:=by rw[qCz,hx.1];lia
 refine⟨zKK hx.1 (by simp[hl]) fun k hk=>?_,hl,fun z hz=>hx.2 z (List.mem_of_mem_take hz)⟩
 by_cases h:k<n
 ·rw[zSW hl h,qA0,qA0,qE8,if_pos h]
 ·rw[show k=n by lia,zJK hl]
theorem zRG{n:Nat}{x y:List Int}{b:Int}(hx:x.length=n)(hy:y.length=n)(h:x++[b]=y++[b]):x=y:=(List.append_inj h (by rw[hx,hy])).1
theorem zMV(n:Nat)(P:List Int->Prop):cnt (n+1) P=cnt n (fun x=>P (x++[0]))+cnt n (fun x=>P (x++[1])):=by
 have part:∀(b:Int)(E:List Int->Prop),Bit b->(∀x,RowN (n+1) x->(E x↔x.getD n 0=b))->cnt (n+1) (fun x=>P x/\E x)=cnt n (fun x=>P (x++[b])):=fun b E hb hE=>by
  refine qD5 ?_ ?_
  ·refine zE7 (qIc n) (fun x hx h=>?_) fun x y hx h hy h' e=>?_
   ·obtain⟨e,hr⟩:=zKH hx;rw[(hE x hx).mp h.2]at e;exact⟨hr,by rw[<- e];exact h.1⟩
   ·rw[(zKH hx).1,(zKH hy).1,e,(hE x hx).mp h.2,(hE y hy).mp h'.2]
  ·refine zE7 (fun x=>x++[b]) (fun x hx h=>⟨zJ2 hx hb,h,(hE _ (zJ2 hx hb)).mpr (zJK hx.1)⟩) fun x y hx _ hy _ e=>zRG hx.1 hy.1 e
 rw[zJU P fun x=>x.getD n 0=0,part 0 _ (.inl rfl) fun x _=>Iff.rfl,part 1 _ (.inr rfl) fun x hx=>?_]
 rcases bitD hx n with z|z<;>rw[z]<;>simp
theorem zMU(P:List Int->Prop):(P []->cnt 0 P=1)/\(¬P []->cnt 0 P=0):=by
 classical
 unfold cnt;constructor<;>intro h<;>simp[allv,h]
theorem zIA(m:Nat)(P:List Int->Prop):∀(k:Nat)(Q:List Int->Prop),cnt (m+k) (fun x=>P (x.take m)/\Q (x.drop m))=cnt m P*cnt k Q
 |0,Q=>by
  by_cases h:Q []
  ·rw[(zMU Q).1 h,qIk];refine zBL fun x hx=>?_
   have hl:x.length=m:=hx.1;rw[qC5 (by omega),qD8 (by omega)];exact⟨fun z=>z.1,fun z=>⟨z,h⟩⟩
  ·rw[(zMU Q).2 h,Nat.mul_zero]
   have:cnt (m+0) (fun x=>P (x.take m)/\Q (x.drop m))=cnt m (fun _=>False):=by
    refine zBL fun x hx=>?_
    have hl:x.length=m:=hx.1;rw[qD8 (show x.length<=m by omega)];exact⟨fun z=>h z.2,fun z=>z.elim⟩
   rw[this];unfold cnt;simp
 |k+1,Q=>by
  rw[<- qFx,zMV,zMV k Q,qIl,<- zIA m P k (fun y=>Q (y++[0])),<- zIA m P k (fun y=>Q (y++[1]))]
  congr 1
  ·refine zBL fun x hx=>?_
   have hl:x.length=m+k:=hx.1;rw[qDp (by omega),qDq (by omega)]
  ·refine zBL fun x hx=>?_
   have hl:x.length=m+k:=hx.1;rw[qDp (by omega),qDq (by omega)]
theorem zZ4(cs:List Nat){n e:Nat}(hl:cs.length=n)(hw:∀c∈cs,c<3)(he:e<4*n):jn cs e/4=e/4:=by
 have hc:cs.getD (e/4) 0<3:=zG9 hw (by omega);obtain⟨h1,_⟩:=xor4 (e%4) (by omega) _ hc;unfold jn;omega
theorem zW6{C1 C2:List Nat}{e:Nat}(he:e/4<C1.length):jn (C1++C2) e=jn C1 e:=by
 unfold jn;rw[qA0,qA0,qA9 he]
theorem zSO{C1 C2:List Nat}{e:Nat}:jn (C1++C2) (4*C1.length+e)=4*C1.length+jn C2 e:=by
 unfold jn;have h1:(4*C1.length+e)/4=C1.length+e/4:=by omega
 have h2:(4*C1.length+e)%4=e%4:=by omega
 rw[h1,h2,qA0,qA0,qAd (by omega),show C1.length+e/4-C1.length=e/4 by omega];omega
noncomputable def sideN(n1:Nat)(t1 t2:List Nat):List Nat:=t1++t2.map (4*n1 + ·)
theorem zE1{n1:Nat}{t1 t2:List Nat}{e:Nat}(he:e<t1.length):nt (sideN n1 t1 t2) e=nt t1 e:=by
 unfold nt sideN;rw[qA0,qA0,qA9 he]
theorem zCS{n1:Nat}{t1 t2:List Nat}{e:Nat}(hl:t1.length=4*n1)(he:e<t2.length):nt (sideN n1 t1 t2) (4*n1+e)=4*n1+nt t2 e:=by
 unfold nt sideN;rw[qA0,qA0,qAd (by omega),hl,show 4*n1+e-4*n1=e by omega,qA8];simp[he]
theorem zLS{n1 n2:Nat}{t1 t2:List Nat}(h1:NetN t1 (4*n1))(h2:NetN t2 (4*n2)):NetN (sideN n1 t1 t2) (4*(n1+n2)):=by
 refine⟨by unfold sideN;simp[h1.len,h2.len];omega,fun e he=>?_,fun e he=>?_⟩
 ·by_cases z:e<4*n1
  ·rw[zE1 (by rw[h1.len];exact z)];have:=h1.lt e z;omega
  ·obtain⟨f,rfl⟩:∃f,e=4*n1+f:=⟨e-4*n1,by omega⟩
   rw[zCS h1.len (by rw[h2.len];omega)];have:=h2.lt f (by omega);omega
 ·by_cases z:e<4*n1
  ·rw[zE1 (e:=e) (by rw[h1.len];exact z),zE1 (e:=nt t1 e) (by rw[h1.len];exact h1.lt e z),h1.inv e z]
  ·obtain⟨f,rfl⟩:∃f,e=4*n1+f:=⟨e-4*n1,by omega⟩
   rw[zCS (e:=f) h1.len (by rw[h2.len];omega),zCS (e:=nt t2 f) h1.len (by rw[h2.len];exact h2.lt f (by omega)),h2.inv f (by omega)]
theorem zX1{n1 n2:Nat}{t1 t2 C1 C2:List Nat}(h1:NetN t1 (4*n1))(h2:NetN t2 (4*n2))(l1:C1.length=n1)(l2:C2.length=n2)(w1:∀c∈C1,c<3)(w2:∀c∈C2,c<3):KN (sideN n1 t1 t2) (C1++C2) (n1+n2)=KN t1 C1 n1*KN t2 C2 n2:=by
 unfold KN;rw[show 4*(n1+n2)=4*n1+4*n2 by omega,<- zIA (4*n1) (fun x=>Cst t1 C1 n1 fun e=>x.getD e 0) (4*n2) fun x=>Cst t2 C2 n2 fun e=>x.getD e 0];refine zBL fun x hx=>?_
 have tk:∀e,e<4*n1->(x.take (4*n1)).getD e 0=x.getD e 0:=fun e he=>by
  rw[qA0,qA0,qE8,if_pos he]
 have dr:∀e,(x.drop (4*n1)).getD e 0=x.getD (4*n1+e) 0:=fun e=>by
  rw[qA0,qA0,qFq]
 have j1:∀e,e<4*n1->jn (C1++C2) e=jn C1 e:=fun e he=>zW6 (by omega)
 have j2:∀e,jn (C1++C2) (4*n1+e)=4*n1+jn C2 e:=fun e=>by rw[<- l1];exact zSO
 have j1l:∀e,e<4*n1->jn C1 e<4*n1:=fun e he=>(zW5 l1 w1 he).1
 constructor
 ·intro c;refine⟨⟨fun e=>?_,fun e he=>?_,fun e he=>?_⟩,⟨fun e=>?_,fun e he=>?_,fun e he=>?_⟩⟩
  ·by_cases z:e<4*n1
   ·rw[tk e z];exact c.hb e
   ·have:(x.take (4*n1)).getD e 0=0:=by
     rw[qA0,qE8,if_neg z];rfl
    rw[this];exact .inl rfl
  ·have:=c.hn e (by omega)
   rw[zE1 (by rw[h1.len];exact he)]at this;rw[tk _ (h1.lt e he),tk e he];exact this
  ·have:=c.hj e (by omega)
   rw[j1 e he]at this;rw[tk _ (j1l e he),tk e he];exact this
  ·rw[dr];exact c.hb _
  ·have:=c.hn (4*n1+e) (by omega)
   rw[zCS h1.len (by rw[h2.len];exact he)]at this;rw[dr,dr];exact this
  ·have:=c.hj (4*n1+e) (by omega)
   rw[j2]at this;rw[dr,dr];exact this
 ·rintro⟨c1,c2⟩
  refine⟨fun e=>?_,fun e he=>?_,fun e he=>?_⟩
  ·by_cases z:e<4*n1
   ·rw[<- tk e z];exact c1.hb e
   ·have:=c2.hb (e-4*n1)
    rw[dr,show 4*n1+(e-4*n1)=e by omega]at this;exact this
  ·by_cases z:e<4*n1
   ·rw[zE1 (by rw[h1.len];exact z),<- tk _ (h1.lt e z),<- tk e z];exact c1.hn e z
   ·obtain⟨f,rfl⟩:∃f,e=4*n1+f:=⟨e-4*n1,by omega⟩
    rw[zCS h1.len (by rw[h2.len];omega),<- dr,<- dr];exact c2.hn f (by omega)
  ·by_cases z:e<4*n1
   ·rw[j1 e z,<- tk _ (j1l e z),<- tk e z];exact c1.hj e z
   ·obtain⟨f,rfl⟩:∃f,e=4*n1+f:=⟨e-4*n1,by omega⟩
    rw[j2,<- dr,<- dr];exact c2.hj f (by omega)
theorem zaH{n:Nat}{ts ts' C C':List Nat}{σ τ:Nat->Nat}(hN:NetN ts (4*n))(hl:C.length=n)(hw:∀c∈C,c<3)(s1:∀e,e<4*n->σ e<4*n)(t1:∀e,e<4*n->τ e<4*n)(st:∀e,e<4*n->σ (τ e)=e)(ts1:∀e,e<4*n->τ (σ e)=e)
  (hn:∀e,e<4*n->nt ts' (σ e)=σ (nt ts e)) (hj:∀e,e<4*n->jn C' (σ e)=σ (jn C e)):KN ts C n<=KN ts' C' n:=by
 unfold KN;have get:∀(x:List Int) e,((qA7 (4*n)).map fun e=>x.getD (τ e) 0).getD e 0=if e<4*n then x.getD (τ e) 0 else 0:=fun x e=>by
  rw[qA0,qA8];by_cases z:e<4*n
  ·rw[if_pos z,qBs z];rfl
  ·rw[if_neg z,qCa (by simp;omega)];rfl
 refine zE7 (fun x=>(qA7 (4*n)).map fun e=>x.getD (τ e) 0) (fun x hx c=>⟨⟨by simp,fun y hy=>?_⟩,⟨fun e=>?_,fun e he=>?_,fun e he=>?_⟩⟩) fun x y hx _ hy _ e=>?_
 ·obtain⟨e,_,rfl⟩:=qAb.mp hy;exact c.hb _
 ·rw[get]
  split
  ·exact c.hb _
  ·exact .inl rfl
 ·have e1:nt ts' e=σ (nt ts (τ e)):=by rw[<- hn _ (t1 e he),st e he]
  have l1:=hN.lt _ (t1 e he);rw[get,get,if_pos he,e1,if_pos (s1 _ l1),ts1 _ l1];exact c.hn _ (t1 e he)
 ·have e1:jn C' e=σ (jn C (τ e)):=by rw[<- hj _ (t1 e he),st e he]
  have l1:=(zW5 hl hw (t1 e he)).1;rw[get,get,if_pos he,e1,if_pos (s1 _ l1),ts1 _ l1];exact c.hj _ (t1 e he)
 ·refine zKK hx.1 hy.1 fun k hk=>?_
  have:=congrArg (fun z:List Int=>z.getD (σ k) 0) e
  try dsimp only at this
  rw[get,get,if_pos (s1 k hk),if_pos (s1 k hk),ts1 k hk]at this;exact this
theorem zTN{n:Nat}{ts ts' C C':List Nat}{σ τ:Nat->Nat}(hN:NetN ts (4*n))(hN':NetN ts' (4*n))(hl:C.length=n)(hw:∀c∈C,c<3)(hl':C'.length=n)(hw':∀c∈C',c<3)(s1:∀e,e<4*n->σ e<4*n)(t1:∀e,e<4*n->τ e<4*n)(st:∀e,e<4*n->σ (τ e)=e)(ts1:∀e,e<4*n->τ (σ e)=e)
  (hn:∀e,e<4*n->nt ts' (σ e)=σ (nt ts e)) (hj:∀e,e<4*n->jn C' (σ e)=σ (jn C e)):KN ts C n=KN ts' C' n:=by
 refine qD5 (zaH hN hl hw s1 t1 st ts1 hn hj) (zaH hN' hl' hw' t1 s1 ts1 st (fun e he=>?_) fun e he=>?_)
 ·have l1:=hN.lt _ (t1 e he)
  have:=hn _ (t1 e he);rw[st e he]at this;rw[this,ts1 _ l1]
 ·have l1:=(zW5 hl hw (t1 e he)).1
  have:=hj _ (t1 e he);rw[st e he]at this;rw[this,ts1 _ l1]
theorem zUQ{ts C:List Nat}{n:Nat}(hN:NetN ts (4*n))(hne:∀x,x<4*n->nt ts x≠x)(hl:C.length=n)(hw:∀c∈C,c<3):KN ts C n=2 ^ rN ts n C:=by
 obtain⟨h,_⟩:=zLV (ps:=(qA7 n).map fun p=>(p,C.getD p 0)) hN hne hl hw (by rw[qAn,show((fun q:Nat×Nat=>q.1)∘fun p=>(p,C.getD p 0))=id from rfl,qIj]) fun q hq=>by
  obtain⟨p,_,rfl⟩:=qAb.mp hq;rfl
 unfold rN;rw[<- h,qEu]
theorem zVB{n1 n2:Nat}{t1 t2 C1 C2:List Nat}(h1:NetN t1 (4*n1))(h2:NetN t2 (4*n2))(e1:∀x,x<4*n1->nt t1 x≠x)(e2:∀x,x<4*n2->nt t2 x≠x)(l1:C1.length=n1)(l2:C2.length=n2)(w1:∀c∈C1,c<3)(w2:∀c∈C2,c<3):rN (sideN n1 t1 t2) (n1+n2) (C1++C2)=rN t1 n1 C1+rN t2 n2 C2:=by
 show qGm (KN (sideN n1 t1 t2) (C1++C2) (n1+n2))=_;rw[zX1 h1 h2 l1 l2 w1 w2,zUQ h1 e1 l1 w1,zUQ h2 e2 l2 w2,<- qH1,qEu]
theorem zQP(n1:Nat):∀n2,chA (n1+n2)=(chA n1).flatMap fun c=>(chA n2).map (c++·)
 |0=>by simp[chA]
 |k+1=>by
  rw[<- qFx,chA,zQP n1 k,qFw];congr 1;funext c;rw[chA,qEt,qGj];congr 1;funext d;simp
theorem zY2{n1 n2:Nat}{t1 t2:List Nat}(h1:NetN t1 (4*n1))(h2:NetN t2 (4*n2))(e1:∀x,x<4*n1->nt t1 x≠x)(e2:∀x,x<4*n2->nt t2 x≠x):(chA (n1+n2)).map (rN (sideN n1 t1 t2) (n1+n2))=((chA n1).map (rN t1 n1)).flatMap fun a=>((chA n2).map (rN t2 n2)).map (a + ·):=by
 rw[zQP,qGj,qEt];have:∀l:List (List Nat),(∀c∈l,c∈chA n1)->(l.flatMap fun a=>((chA n2).map (a++·)).map (rN (sideN n1 t1 t2) (n1+n2)))=l.flatMap fun a=>((chA n2).map (rN t2 n2)).map (rN t1 n1 a + ·):=by
  intro l;induction l with
  |nil=>intro _;rfl
  |cons a r ih=>
   intro h;rw[qB1,qB1,ih fun c hc=>h c (by simp[hc])]
   congr 1;rw[qAn,qAn];refine qAo fun c hc=>?_
   have ha:=chA_mem.mp (h a (by simp));have hc':=chA_mem.mp hc;exact zVB h1 h2 e1 e2 ha.1 hc'.1 ha.2 hc'.2
 exact this _ fun c hc=>hc
def prdF(a b:List Int)(k:Nat):Int:=sumN a.length fun i=>sumN b.length fun j=>if i+j=k then a.getD i 0*b.getD j 0 else 0
def prdL(a b:List Int):List Int:=(qA7 (a.length+b.length-1)).map (prdF a b)
theorem zTH(l:List Nat)(a k m:Nat)(hm:∀x∈l,x<m):(((l.map (a + ·)).count k:Nat):Int)=sumN m fun j=>if a+j=k then((l.count j:Nat):Int)else 0:=by
 by_cases h:a<=k
 ·obtain⟨c,rfl⟩:∃c,k=a+c:=⟨k-a,by omega⟩
  have e:(l.map (a + ·)).count (a+c)=l.count c:=by
   induction l with
   |nil=>rfl
   |cons x t ih=>
    rw[qAk,qDz,qDz,ih fun y hy=>hm y (by simp[hy])]
    by_cases z:x=c
    ·subst z;simp
    ·have:¬a+x=a+c:=by omega
     simp[z,this]
  rw[e];by_cases hc:c<m
  ·rw[zHG hc fun j _ hj=>if_neg (by omega),if_pos rfl]
  ·rw[zC2 fun j hj=>if_neg (by omega),qD6.mpr fun z=>hc (hm c z)];rfl
 ·rw[zC2 fun j hj=>if_neg (by omega),qD6.mpr fun z=>?_]
  ·rfl
  ·obtain⟨x,_,e⟩:=qAb.mp z
   have:a+x=k:=e;omega
theorem zMW{m1 m2:Nat}{l2:List Nat}(h2:∀x∈l2,x<m2)(k:Nat):∀{l1:List Nat},(∀x∈l1,x<m1)->(((l1.flatMap fun a=>l2.map (a + ·)).count k:Nat):Int)=sumN m1 fun i=>sumN m2 fun j=>if i+j=k then((l1.count i:Nat):Int)*((l2.count j:Nat):Int)else 0
 |[],_=>by
  rw[zC2 fun i _=>zC2 fun j _=>by simp];rfl
 |a::r,h1=>by
  have ha:=h1 a (by simp);rw[qB1,qG7,qH2,zMW h2 k fun x hx=>h1 x (by simp[hx]),zTH l2 a k m2 h2];have e:(sumN m1 fun i=>sumN m2 fun j=>if i+j=k then(((a::r).count i:Nat):Int)*((l2.count j:Nat):Int)else 0)=sumN m1 fun i=>(sumN m2 fun j=>if i+j=k then((r.count i:Nat):Int)*((l2.count j:Nat):Int)else 0)+if i=a then sumN m2 fun j=>if a+j=k then((l2.count j:Nat):Int)else 0 else 0:=by
   refine zB0 fun i hi=>?_
   by_cases z:i=a
   ·subst z;rw[if_pos rfl,<- zHI];refine zB0 fun j hj=>?_
    rw[List.count_cons_self];split
    ·rw[qH2,Int.add_mul];simp
    ·rfl
   ·rw[if_neg z,qIf];refine zB0 fun j hj=>?_
    rw[List.count_cons_of_ne (fun y=>z y.symm)]
  rw[e,zHI,zHG (f:=fun i=>if i=a then sumN m2 fun j=>if a+j=k then((l2.count j:Nat):Int)else 0 else 0) ha fun i _ hi=>if_neg hi,if_pos rfl,qIg]
theorem zKS(a:Nat):∀{l:List Nat},l≠[]->mxL (l.map (a + ·))=a+mxL l
 |[x],_=>by simp[mxL]
 |x::y::t,_=>by
  have:=zKS a (l:=y::t) (by simp)
  show max (a+x) (mxL ((y::t).map (a + ·)))=a+max x (mxL (y::t));rw[this];omega
theorem zMA{l2:List Nat}(h2:l2≠[]):∀{l1:List Nat},l1≠[]->mxL (l1.flatMap fun a=>l2.map (a + ·))=mxL l1+mxL l2
 |[x],_=>by
  rw[qB1,qDo,qBu,zKS x h2];simp[mxL]
 |x::y::t,_=>by
  rw[qB1,zPB,zKS x h2,zMA h2 (l1:=y::t) (by simp)];show max (x+mxL l2) (mxL (y::t)+mxL l2)=max x (mxL (y::t))+mxL l2;omega
theorem zST{l1 l2:List Nat}(h1:l1≠[])(h2:l2≠[]):hst (l1.flatMap fun a=>l2.map (a + ·))=prdL (hst l1) (hst l2):=by
 have hne:(l1.flatMap fun a=>l2.map (a + ·))≠[]:=by
  obtain⟨x,t,rfl⟩:∃x t,l1=x::t:=⟨l1.head h1,l1.tail,by simp⟩
  obtain⟨y,u,rfl⟩:∃x t,l2=x::t:=⟨l2.head h2,l2.tail,by simp⟩
  simp
 unfold prdL;rw[zCI h1,zCI h2]
 conv=>lhs;unfold hst
 rw[if_neg hne,zMA h2 h1,show mxL l1+1+(mxL l2+1)-1=mxL l1+mxL l2+1 by omega];refine qAo fun k _=>?_
 rw[zMW (m1:=mxL l1+1) (m2:=mxL l2+1) (fun x hx=>by have:=zG2 hx;omega) k fun x hx=>by have:=zG2 hx;omega];unfold prdF;rw[zCI h1,zCI h2];refine zB0 fun i _=>zB0 fun j _=>?_
 rw[zE4 h1,zE4 h2]
theorem zQN(n:Nat):chA n≠[]:=fun h=>by
 have:qA4 n 0∈chA n:=chA_mem.mpr ⟨by simp,fun w hw=>by rw[qD3 hw];decide⟩
 rw[h]at this;cases this
theorem zL9{n1 n2:Nat}{t1 t2:List Nat}(h1:NetN t1 (4*n1))(h2:NetN t2 (4*n2))(e1:∀x,x<4*n1->nt t1 x≠x)(e2:∀x,x<4*n2->nt t2 x≠x):hst ((chA (n1+n2)).map (rN (sideN n1 t1 t2) (n1+n2)))=prdL (hst ((chA n1).map (rN t1 n1))) (hst ((chA n2).map (rN t2 n2))):=by
 rw[zY2 h1 h2 e1 e2,zST (by simp[zQN]) (by simp[zQN])]
noncomputable def sgE(q:List Nat)(e:Nat):Nat:=4*q.getD (e/4) 0+e%4
noncomputable def tuE(q:List Nat)(e:Nat):Nat:=4*q.idxOf (e/4)+e%4
noncomputable def renC(q:List Nat)(n:Nat)(C:List Nat):List Nat:=(qA7 n).map fun p=>C.getD (q.idxOf p) 0
theorem zPA{a b:List Nat}{n:Nat}(ha:a.length=n)(hb:b.length=n)(h:∀i,i<n->a.getD i 0=b.getD i 0):a=b:=by
 refine qAx (by omega) fun i h1 h2=>?_
 have:=h i (by omega)
 rw[qA0,qA0,qA5 h1,qA5 h2]at this;exact this
section
variable{q:List Nat}{n:Nat}(hq:q.Perm (qA7 n))
include hq
theorem zOQ:q.length=n:=by rw[hq.length_eq,qDd]
theorem q_lt{p:Nat}(hp:p<n):q.getD p 0<n:=by
 rw[qA0,qA5 (by rw[zOQ hq];exact hp),qCi];exact qBh.mp (hq.mem_iff.mp (qAy _))
theorem q_ix{p:Nat}(hp:p<n):q.idxOf (q.getD p 0)=p:=by
 rw[qA0,qA5 (by rw[zOQ hq];exact hp),qCi];exact(hq.nodup_iff.mpr qBy).idxOf_getElem p (by rw[zOQ hq];exact hp)
theorem i_lt{p:Nat}(hp:p<n):q.idxOf p<n:=by
 have:=qE0 (hq.mem_iff.mpr (qBh.mpr hp));rw[zOQ hq]at this;exact this
theorem i_q{p:Nat}(hp:p<n):q.getD (q.idxOf p) 0=p:=by
 have:=qE0 (hq.mem_iff.mpr (qBh.mpr hp));rw[qA0,qA5 this,qCi,List.getElem_idxOf this]
theorem zKI{e:Nat}(he:e<4*n):sgE q e<4*n/\tuE q (sgE q e)=e:=by
 have h1:=q_lt hq (show e/4<n by omega);have h2:=q_ix hq (show e/4<n by omega);have h3:sgE q e/4=q.getD (e/4) 0:=by unfold sgE;omega
 have h4:sgE q e%4=e%4:=by unfold sgE;omega
 refine⟨by unfold sgE;omega,?_⟩;show 4*q.idxOf (sgE q e/4)+sgE q e%4=e;rw[h3,h4,h2];omega
theorem zIS{e:Nat}(he:e<4*n):tuE q e<4*n/\sgE q (tuE q e)=e:=by
 have h1:=i_lt hq (show e/4<n by omega);have h2:=i_q hq (show e/4<n by omega);have h3:tuE q e/4=q.idxOf (e/4):=by unfold tuE;omega
 have h4:tuE q e%4=e%4:=by unfold tuE;omega
 refine⟨by unfold tuE;omega,?_⟩;show 4*q.getD (tuE q e/4) 0+tuE q e%4=e;rw[h3,h4,h2];omega
theorem zHQ(C:List Nat){p:Nat}(hp:p<n):(renC q n C).getD p 0=C.getD (q.idxOf p) 0:=by
 unfold renC;rw[qA0,qA8,qBs hp];rfl
theorem zOP{C:List Nat}(h:C∈chA n):renC q n C∈chA n:=by
 obtain⟨h1,h2⟩:=chA_mem.mp h;refine chA_mem.mpr ⟨by simp[renC],fun w hw=>?_⟩;unfold renC at hw;obtain⟨p,hp,rfl⟩:=qAb.mp hw;exact zG9 h2 (by rw[h1];exact i_lt hq (qBh.mp hp))
theorem zXT{C:List Nat}(h:C∈chA n){e:Nat}(he:e<4*n):jn (renC q n C) (sgE q e)=sgE q (jn C e):=by
 obtain⟨h1,h2⟩:=chA_mem.mp h;have hd:=zZ4 C h1 h2 he;have h3:sgE q e/4=q.getD (e/4) 0:=by unfold sgE;omega
 have h4:sgE q e%4=e%4:=by unfold sgE;omega
 have hc:C.getD (e/4) 0<3:=zG9 h2 (by omega);obtain⟨x1,_⟩:=xor4 (e%4) (by omega) _ hc;show sgE q e/4*4+(sgE q e%4^^^((renC q n C).getD (sgE q e/4) 0+1))=4*q.getD (jn C e/4) 0+jn C e%4;rw[hd,h3,h4,zHQ hq C (q_lt hq (by omega)),q_ix hq (by omega)]
 have:jn C e%4=(e%4^^^(C.getD (e/4) 0+1)):=by unfold jn;omega
 rw[this];omega
theorem zRS:((chA n).map (renC q n)).Perm (chA n):=by
 have inj:∀C∈chA n,∀D∈chA n,renC q n C=renC q n D->C=D:=fun C hC D hD e=>by
  have c1:=(chA_mem.mp hC).1;have d1:=(chA_mem.mp hD).1;refine zPA c1 d1 fun i hi=>?_
  have e1:(renC q n C).getD (q.getD i 0) 0=(renC q n D).getD (q.getD i 0) 0:=by rw[e]
  rw[zHQ hq C (q_lt hq hi),zHQ hq D (q_lt hq hi),q_ix hq hi]at e1;exact e1
 have nd:((chA n).map (renC q n)).Nodup:=zCH (zET n) inj;refine(qE2 nd (zET n)).mpr fun C=>⟨fun h=>?_,fun h=>?_⟩
 ·obtain⟨D,hD,rfl⟩:=qAb.mp h;exact zOP hq hD
 ·obtain⟨h1,h2⟩:=chA_mem.mp h;refine qAb.mpr ⟨(qA7 n).map fun p=>C.getD (q.getD p 0) 0,chA_mem.mpr ⟨by simp,fun w hw=>?_⟩,?_⟩
  ·obtain⟨p,hp,rfl⟩:=qAb.mp hw;exact zG9 h2 (by rw[h1];exact q_lt hq (qBh.mp hp))
  ·refine zPA (by simp[renC]) h1 fun i hi=>?_
   rw[zHQ hq _ hi,qA0,qA8,qBs (i_lt hq hi)];show C.getD (q.getD (q.idxOf i) 0) 0=C.getD i 0;rw[i_q hq hi]
theorem zJS{ts ts':List Nat}(hN:NetN ts (4*n))(hN':NetN ts' (4*n))(h:∀e,e<4*n->nt ts' (sgE q e)=sgE q (nt ts e)):hst ((chA n).map (rN ts' n))=hst ((chA n).map (rN ts n)):=by
 refine(zMH ?_).symm;have e:(chA n).map (rN ts n)=((chA n).map (renC q n)).map (rN ts' n):=by
  rw[qAn];refine qAo fun C hC=>?_
  have h1:=chA_mem.mp hC;have h2:=chA_mem.mp (zOP hq hC);show qGm (KN ts C n)=qGm (KN ts' (renC q n C) n);rw[zTN hN hN' h1.1 h1.2 h2.1 h2.2 (fun e he=>(zKI hq he).1) (fun e he=>(zIS hq he).1) (fun e he=>(zIS hq he).2) (fun e he=>(zKI hq he).2) h fun e he=>zXT hq hC he]
 rw[e];exact(zRS hq).map _
end
def worL(a:List Int)(x:Int):Int:=sumN a.length fun k=>a.getD k 0*x ^ k
theorem zFS(n:Nat)(c:Int)(f:Nat->Int):sumN n f*c=sumN n fun k=>f k*c:=by
 rw[qDm,<- zHH];exact zB0 fun k _=>qDm _ _
theorem zUU{a b:List Int}(ha:a≠[])(hb:b≠[])(x:Int):worL (prdL a b) x=worL a x*worL b x:=by
 have la:=qD1.mpr ha;have lb:=qD1.mpr hb;unfold worL;have hl:(prdL a b).length=a.length+b.length-1:=by unfold prdL;simp
 rw[hl];have e1:(sumN (a.length+b.length-1) fun k=>(prdL a b).getD k 0*x ^ k)=sumN (a.length+b.length-1) fun k=>sumN a.length fun i=>(sumN b.length fun j=>if i+j=k then a.getD i 0*b.getD j 0 else 0)*x ^ k:=by
  refine zB0 fun k hk=>?_
  have:(prdL a b).getD k 0=prdF a b k:=by
   unfold prdL;rw[qA0,qA8,qBs hk];rfl
  rw[this];unfold prdF;rw[zFS]
 rw[e1,zIU (a.length+b.length-1) a.length fun i k=>(sumN b.length fun j=>if i+j=k then a.getD i 0*b.getD j 0 else 0)*x ^ k,zFS];refine zB0 fun i hi=>?_
 have e2:(sumN (a.length+b.length-1) fun k=>(sumN b.length fun j=>if i+j=k then a.getD i 0*b.getD j 0 else 0)*x ^ k)=sumN (a.length+b.length-1) fun k=>sumN b.length fun j=>(if i+j=k then a.getD i 0*b.getD j 0 else 0)*x ^ k:=zB0 fun k _=>zFS _ _ _
 rw[e2,zIU (a.length+b.length-1) b.length fun j k=>(if i+j=k then a.getD i 0*b.getD j 0 else 0)*x ^ k,<- zHH];refine zB0 fun j hj=>?_
 rw[zHG (j:=i+j) (by omega) fun k _ hk=>by rw[if_neg (fun z=>hk z.symm),Int.zero_mul],if_pos rfl,Int.pow_add];simp only[qFy,Int.mul_left_comm,qDm]
def prdP(a b:List Int)(i j k:Nat):Int:=(sumN i fun p=>sumN b.length fun q=>if p+q=k then a.getD p 0*b.getD q 0 else 0)+sumN j fun q=>if i+q=k then a.getD i 0*b.getD q 0 else 0
def prdR(a b:List Int)(i j:Nat):List Int:=(qA7 (a.length+b.length-1)).map (prdP a b i j)
theorem zOU(a b:List Int)(i j k:Nat):prdP a b i (j+1) k=prdP a b i j k+if i+j=k then a.getD i 0*b.getD j 0 else 0:=by
 unfold prdP;rw[zB3];lia
theorem zS1(a b:List Int)(i k:Nat):prdP a b i b.length k=prdP a b (i+1) 0 k:=by
 unfold prdP;rw[zB3];simp[sumN]
theorem zHZ{α:Type}(f:Nat->α){m k:Nat}(h:k<((qA7 m).map f).length):((qA7 m).map f)[k]=f k:=by simp
theorem zS0{a b:List Int}{i j:Nat}(hi:i<a.length)(hj:j<b.length):(prdR a b i j).set (i+j) ((prdR a b i j).getD (i+j) 0+a.getD i 0*b.getD j 0)=prdR a b i (j+1):=by
 have hl:∀x y,(prdR a b x y).length=a.length+b.length-1:=fun x y=>by unfold prdR;simp
 have hg:∀x y k,k<a.length+b.length-1->(prdR a b x y).getD k 0=prdP a b x y k:=fun x y k h=>by
  unfold prdR;rw[qA0,qA8,qBs h];rfl
 refine qAx (by rw[qCn,hl,hl]) fun k h1 h2=>?_
 rw[hl]at h2;have e1:(prdR a b i (j+1))[k]=prdP a b i (j+1) k:=zHZ _ _;rw[e1,zOU,qGk];by_cases z:i+j=k
 ·rw[if_pos z,if_pos z,hg _ _ _ (by lia),z]
 ·rw[if_neg z,if_neg z,qIf];exact zHZ _ _
abbrev prS(a b f:List Int)(o3 o4:Option Sl):Ro:=[some (rowD a,0),some (rowD b,0),some (rowD f,1),o3,o4]
theorem zJ8{a b:List Int}(ha:a≠[])(hb:b≠[])(la:a.length<=100)(lb:b.length<=100)(hs:∀x∈a,-1000<=x/\x<=1000):zBZ [rowD a,rowD b]=okR (rowD (prdL a b)):=by
 suffices h:eiR (zC1 [some (rowD a,0),some (rowD b,0),none,none,none]) (fun _=>False) (fun d=>d=rowD (prdL a b)) by
  rcases h with⟨_,_,z⟩|⟨d,h1,rfl⟩
  ·exact z.elim
  ·exact zD3 rfl h1
 have a1:=qD1.mpr ha;have b1:=qD1.mpr hb;have hla:lenD [rowD a]=some (.int (a.length:Int)):=by simp[rowD,lenD]
 have hlb:lenD [rowD b]=some (.int (b.length:Int)):=by simp[rowD,lenD]
 unfold zC1;have hz:prdR a b 0 0=qA4 (a.length+b.length-1) 0:=by
  unfold prdR;rw[qF6];refine⟨by simp,fun x hx=>?_⟩;obtain⟨k,_,rfl⟩:=qAb.mp hx;simp[prdP,sumN]
 refine zBR (P:=fun r=>r=prS a b (prdR a b 0 0) none none) (zD2 ?_) ?_
 ·rw[ss (d:=rowD (qA4 (a.length+b.length-1) 0)) (b2 (el1 rfl) (b2 (b2 (bi1 rfl hla) (bi1 rfl hlb) (adi rfl)) rfl (sbi (show(a.length:Int)+(b.length:Int)-1=((a.length+b.length-1:Nat):Int) by lia))) (zEG _ (by lia))) (by rw[zC0];exact qA6 _),<- hz];exact zB1 rfl rfl
 rintro r rfl
 refine zBR (P:=fun r=>∃o3 o4,r=prS a b (prdR a b a.length 0) o3 o4) (zD2 ?_) ?_
 ·have hit:iR1 (aCons (eBi lenD (aCons (eV 0) aNil)) aNil) (full (prS a b (prdR a b 0 0) none none))=okR (nums 0 a.length):=zN3 (by rw[zB8,bi1 rfl hla,zA0,zC8,zA0]) (by lia);rw[zFO,hit,zA0];refine zP5 (fun i r=>∃o3 o4,r=prS a b (prdR a b i 0) o3 o4) ⟨none,none,rfl⟩ (fun i hi r hr=>?_) fun r h=>h
  obtain⟨o3,o4,rfl⟩:=hr;have hit2:iR1 (aCons (eBi lenD (aCons (eV 1) aNil)) aNil) (full (prS a b (prdR a b i 0) (some (.int (i:Int),0)) o4))=okR (nums 0 b.length):=zN3 (by rw[zB8,bi1 rfl hlb,zA0,zC8,zA0]) (by lia);show nxR (sForR (iR1 (aCons (eBi lenD (aCons (eV 1) aNil)) aNil)) 4 _ (prS a b (prdR a b i 0) (some (.int (i:Int),0)) o4)) _;rw[zFO,hit2,zA0];refine zP5 (fun j r=>∃o4,r=prS a b (prdR a b i j) (some (.int (i:Int),0)) o4) ⟨o4,rfl⟩ (fun j hj r hr=>?_) fun r hr=>?_
  ·obtain⟨o4,rfl⟩:=hr;have hl:(prdR a b i j).length=a.length+b.length-1:=by unfold prdR;simp
   have hm:=hs _ (zFI (d:=0) hi);have hx:ixD (rowD (prdR a b i j)) (.int ((i:Int)+(j:Int)))=some (.int ((prdR a b i j).getD (i+j) 0)):=zPL _ (i+j) (by lia);have s:=zCQ (i:=2) (n:=1) (l:=0) (ls:=prdR a b i j) (e1:=eB addD (eV 3) (eV 4)) (e2:=eB addD (eB ixD (eV 2) (eB addD (eV 3) (eV 4))) (eB mulD (eB ixD (eV 0) (eV 3)) (eB ixD (eV 1) (eV 4)))) (z:=(i:Int)+(j:Int)) (v:=(prdR a b i j).getD (i+j) 0+a.getD i 0*b.getD j 0) (r:=prS a b (prdR a b i j) (some (.int (i:Int),0)) (some (.int (j:Int),0))) rfl
    (b2 (b2 rfl (b2 rfl rfl rfl) hx) (b2 (b2 rfl rfl (zPL _ _ hi)) (b2 rfl rfl (zPL _ _ hj)) (zEM (by lia) (by lia))) rfl) (b2 rfl rfl rfl) (by lia) (by lia)
   rw[show((i:Int)+(j:Int)).toNat=i+j by lia,zS0 hi hj]at s;exact zB1 s ⟨_,rfl⟩
  ·obtain⟨o4,rfl⟩:=hr;refine⟨some (.int (i:Int),0),o4,?_⟩;rw[show prdR a b i b.length=prdR a b (i+1) 0 by unfold prdR;exact qAo fun k _=>zS1 a b i k]
 rintro r ⟨o3,o4,rfl⟩
 refine .inr ⟨_,rfl,?_⟩;show rowD (prdR a b a.length 0)=rowD (prdL a b);congr 1;unfold prdR prdL;refine qAo fun k _=>?_
 unfold prdP prdF;simp[sumN]
noncomputable def kfB(n1 j:Nat):Int:=if j<n1 then 2*(j:Int)else 2*((j:Int)-(n1:Int))+1
theorem zSM(n1 j:Nat):zAX [.int (j:Int),.int (n1:Int)]=okR (.int (kfB n1 j)):=by
 unfold zAX lamF;rw[if_pos (show([.int (j:Int),.int (n1:Int)]:List Dt).length=2 from rfl)];unfold kfB
 by_cases h:j<n1
 ·rw[if_pos h];exact if1 (tb1 (b2 rfl rfl (cmi (decide_eq_true (show(j:Int)<n1 by lia))))) (b2 rfl rfl (zEM (by decide) (by decide)))
 ·rw[if_neg h];exact if0 (tb1 (b2 rfl rfl (cmi (decide_eq_false (show ¬(j:Int)<n1 by lia))))) (b2 (b2 rfl (b2 rfl rfl rfl) (zEM (by decide) (by decide))) rfl rfl)
theorem zJF{f:FM}{c:Dt}{g:Nat->Int}(h:∀j:Nat,f [.int (j:Int),c]=okR (.int (g j))):∀(n j:Nat),keysF f c j n=some ((qBk j n).map g)
 |0,_=>rfl
 |n+1,j=>by
  rw[keysF,h j];show(keysF f c (j+1) n).map _=_;rw[zJF h n (j+1)];rfl
theorem zZ0{n1 i j:Nat}(h:kfB n1 i=kfB n1 j):i=j:=by
 unfold kfB at h;split at h<;>split at h<;>lia
theorem zMB(n1 n:Nat):((qBk 0 n).map (kfB n1)).Nodup:=by
 rw[qIr,qDc];exact(List.nodup_range' (step:=1) (s:=0) (n:=n)).imp fun h z=>h (zZ0 z)
theorem zMG{α:Type}[BEq α][LawfulBEq α]{l:List α}(h:l.Nodup):l.map l.idxOf=qA7 l.length:=by
 refine qAx (by simp) fun i h1 h2=>?_
 rw[qCj,qBw];exact h.idxOf_getElem i (by simpa using h1)
def srtB(n1 n:Nat):List Nat:=(sortI ((qBk 0 n).map (kfB n1))).map fun z=>((qBk 0 n).map (kfB n1)).idxOf z
theorem zRF(n1 n:Nat):(srtB n1 n).Perm (qA7 n):=by
 have h:=(qFk ((qBk 0 n).map (kfB n1)) fun a b=>decide (a<=b)).map ((qBk 0 n).map (kfB n1)).idxOf;rw[zMG (zMB n1 n)]at h;rw[qAi,List.length_range']at h;exact h
theorem zRE{n1 n:Nat}(hn:n<64){ρ:Rh}{i:Nat}{e:EM}(he:e ρ=okR (.int (n:Int)))(hi:ρ[i]?=some (some (.int (n1:Int)))):eSortK (aCons e aNil) zAX i ρ=okR (rowN (srtB n1 n)):=by
 unfold eSortK;rw[zB8,he,zA0,zC8,zA0,zA0];dsimp only;rw[hi];dsimp only;refine(@if_pos _ (qA2 _) ⟨by lia,by lia,rfl⟩ _ _ _).trans ?_;unfold srtK;rw[qB0,zJF (zSM n1) n 0];dsimp only;refine(@if_pos _ (qA2 _) (zMB n1 n) _ _ _).trans ?_;rw[zLW];unfold srtB;rw[qAn];rfl
def besL(q s:List Nat)(n j:Nat):List Nat:=(qA7 (4*n)).map fun p=>if tuE q p<j then sgE q (nt s (tuE q p))else 0
theorem zF4(q s:List Nat)(n j:Nat):(besL q s n j).length=4*n:=by unfold besL;simp
theorem zWU{q s:List Nat}{n j:Nat}(hq:q.Perm (qA7 n))(hj:j<4*n):(besL q s n j).set (sgE q j) (sgE q (nt s j))=besL q s n (j+1):=by
 obtain⟨s1,s2⟩:=zKI hq hj;refine qAx (by rw[qCn,zF4,zF4]) fun p h1 h2=>?_
 rw[zF4]at h2;have ge:∀k,(besL q s n k)[p]'(by rw[zF4];exact h2)=if tuE q p<k then sgE q (nt s (tuE q p))else 0:=fun k=>zHZ _ _
 rw[qGk,ge,ge];obtain⟨t1,t2⟩:=zIS hq h2;by_cases z:sgE q j=p
 ·rw[if_pos z,<- z,s2,if_pos (qGe _)]
 ·rw[if_neg z]
  have:tuE q p≠j:=fun e=>z (by rw[<- e,t2])
  by_cases z2:tuE q p<j
  ·rw[if_pos z2,if_pos (by lia)]
  ·rw[if_neg z2,if_neg (by lia)]
theorem zQZ{q s:List Nat}{n e:Nat}(hq:q.Perm (qA7 n))(he:e<4*n):nt (besL q s n (4*n)) (sgE q e)=sgE q (nt s e):=by
 obtain⟨s1,s2⟩:=zKI hq he;unfold nt besL;rw[qA0,qA8,qBs s1];show(if tuE q (sgE q e)<4*n then _ else 0)=_
 rw[s2,if_pos he];rfl
theorem zWV{q s:List Nat}{n:Nat}(hq:q.Perm (qA7 n))(hs:NetN s (4*n))(hne:∀x,x<4*n->nt s x≠x):NetN (besL q s n (4*n)) (4*n)/\∀x,x<4*n->nt (besL q s n (4*n)) x≠x:=by
 have key:∀p,p<4*n->nt (besL q s n (4*n)) p=sgE q (nt s (tuE q p)):=fun p hp=>by
  obtain⟨t1,t2⟩:=zIS hq hp;have:=zQZ (s:=s) hq t1;rw[t2]at this;exact this
 refine⟨⟨zF4 _ _ _ _,fun e he=>?_,fun e he=>?_⟩,fun x hx z=>?_⟩
 ·rw[key e he];exact(zKI hq (hs.lt _ (zIS hq he).1)).1
 ·have h1:=(zIS hq he).1;have h2:=hs.lt _ h1;rw[key e he,zQZ hq h2,hs.inv _ h1,(zIS hq he).2]
 ·have h1:=(zIS hq hx).1;rw[key x hx]at z
  have:=(zKI hq (hs.lt _ h1)).2;rw[z]at this;exact hne _ h1 this.symm
theorem zV5{n1 n2:Nat}{t1 t2:List Nat}(h1:NetN t1 (4*n1))(h2:NetN t2 (4*n2))(e1:∀x,x<4*n1->nt t1 x≠x)(e2:∀x,x<4*n2->nt t2 x≠x):∀x,x<4*(n1+n2)->nt (sideN n1 t1 t2) x≠x:=fun x hx=>by
 by_cases z:x<4*n1
 ·rw[zE1 (by rw[h1.len];exact z)];exact e1 x z
 ·obtain⟨f,rfl⟩:∃f,x=4*n1+f:=⟨x-4*n1,by lia⟩
  rw[zCS h1.len (by rw[h2.len];lia)]
  have:=e2 f (by lia)
  lia
abbrev tieF(s:List Nat)(e:Nat):Dt:=Dt.tup [.int (e:Int),.int ((nt s e:Nat):Int)]
abbrev tieD(n1:Nat)(s:List Nat)(a k:Nat):List Dt:=(qBk a k).map (tieF s)
abbrev bsS(t1 t2:List Nat)(b:Bool)(n1 n:Nat)(l4:Nat)(q:List Nat)(l5:Nat)(o6 o7 o8 o9:Option Sl):Ro:=[some (rowN t1,0),some (rowN t2,0),some (.bl b,0),some (.int (n1:Int),0),some (.int (n:Int),l4),some (rowN q,l5),o6,o7,o8,o9]
theorem zI2{t:List Nat}:lenD [rowN t]=some (.int (t.length:Int)):=by simp[rowD,lenD]
theorem zEW{n:Nat}(h:n<=1000):rangeD [.int (n:Int)]=some (rowN (qA7 n)):=by
 rw[zKD (by lia) (by lia),qB0,zEJ];rfl
theorem ixN(q:List Nat)(i:Nat)(h:i<q.length):ixD (rowN q) (.int (i:Int))=some (.int ((q.getD i 0:Nat):Int)):=by
 have:=zPL (q.map fun k:Nat=>(k:Int)) i (by simpa using h)
 rw[this];congr 2;simp[qA0,h]
theorem zML{q:List Nat}{n e i j:Nat}{ρ:Rh}(hq:q.Perm (qA7 n))(he:e<4*n)(h1:ρ[i]?=some (some (rowN q)))(h2:ρ[j]?=some (some (.int (e:Int)))):eB addD (eB mulD (eC (.int 4)) (eB ixD (eV i) (eB divD (eV j) (eC (.int 4))))) (eB modD (eV j) (eC (.int 4))) ρ=okR (.int ((sgE q e:Nat):Int)):=by
 have hl:e/4<q.length:=by rw[zOQ hq];lia
 refine b2 (b2 rfl (b2 (v1 h1) (b2 (v1 h2) rfl (dvi (by decide))) (ixN q (e/4) hl)) (zEM (by decide) (by decide))) (b2 (v1 h2) rfl (mdi (by decide) rfl)) (adi ?_);unfold sgE
 lia
theorem zMJ:∀(l:List Nat)(a:Nat)(s:List Nat),(∀i,i<l.length->nt s (a+i)=l.getD i 0)->(qBk a l.length).map (tieF s)=enumD a (l.map fun k:Nat=>Dt.int (k:Int))
 |[],_,_,_=>rfl
 |x::l,a,s,h=>by
  rw[qAr,qEs,qAk,qAk,enumD,zMJ l (a+1) s fun i hi=>by
   have:=h (i+1) (by rw[qAr];lia)
   rw[show a+1+i=a+(i+1) by lia,this]
   rfl]
  have:=h 0 (by simp)
  rw[qF3]at this;unfold tieF;rw[this];rfl
theorem zLD{t1 t2:List Nat}{n1 n2:Nat}(b:Bool)(h1:NetN t1 (4*n1))(h2:NetN t2 (4*n2))(e1:∀x,x<4*n1->nt t1 x≠x)(e2:∀x,x<4*n2->nt t2 x≠x)(hn1:n1<=3)(hn2:n2<=3) :
  ∃(q:List Nat),q.Perm (qA7 (n1+n2))/\zC5 [rowN t1,rowN t2,.bl b]=okR (rowN (besL q (sideN n1 t1 t2) (n1+n2) (4*(n1+n2)))):=by
 obtain⟨n,hn⟩:∃n,n=n1+n2:=⟨_,rfl⟩
 rw[<- hn];have hS:NetN (sideN n1 t1 t2) (4*n):=hn▸zLS h1 h2
 suffices h:eiR (zC7 [some (rowN t1,0),some (rowN t2,0),some (.bl b,0),none,none,none,none,none,none,none]) (fun _=>False) (fun d=>∃q:List Nat,q.Perm (qA7 n)/\d=rowN (besL q (sideN n1 t1 t2) n (4*n))) by
  rcases h with⟨_,_,z⟩|⟨d,h1,q,hq,rfl⟩
  ·exact z.elim
  ·exact⟨q,hq,zD3 rfl h1⟩
 have dl:∀(l:List Nat),(rowN l).dep<=1:=fun l=>by rw[zC0];exact qA6 1
 unfold zC7;refine zBR (P:=fun r=>r=[some (rowN t1,0),some (rowN t2,0),some (.bl b,0),some (.int (n1:Int),0),none,none,none,none,none,none]) (zD2 ?_) ?_
 ·rw[ss (d:=.int (n1:Int)) (b2 (bi1 rfl zI2) rfl (by rw[dvi (by decide),h1.len];congr 2;lia)) (qA6 0)];exact zB1 rfl rfl
 rintro r rfl
 refine zBR (P:=fun r=>r=[some (rowN t1,0),some (rowN t2,0),some (.bl b,0),some (.int (n1:Int),0),some (.int (n:Int),1),none,none,none,none,none]) (zD2 ?_) ?_
 ·rw[ss (d:=.int (n:Int)) (b2 rfl (b2 (d:=.int (n2:Int)) (bi1 rfl zI2) rfl (by rw[dvi (by decide),h2.len];congr 2;lia)) (adi (by lia))) (qAu 1)];exact zB1 rfl rfl
 rintro r rfl
 refine zBR (P:=fun r=>r=bsS t1 t2 b n1 n 1 (qA7 n) 1 none none none none) (zD2 ?_) ?_
 ·rw[ss (d:=rowN (qA7 n)) (bi1 rfl (zEW (by lia))) (dl _)];exact zB1 rfl rfl
 rintro r rfl
 refine zBR (P:=fun r=>∃q:List Nat,q.Perm (qA7 n)/\r=bsS t1 t2 b n1 n 1 q 1 none none none none) (zD2 ?_) ?_
 ·cases b with
  |false=>exact nif0 (tm1 rfl) (zB1 rfl ⟨_,qCy _,rfl⟩)
  |true=>
   refine nif1 (tm1 rfl) (nsw (ss (d:=rowN (srtB n1 n)) (zRE (n1:=n1) (n:=n) (by lia) rfl rfl) (dl _)) ?_);have hp:=zRF n1 n;have hm:∀k,k<n->k∈srtB n1 n:=fun k hk=>hp.mem_iff.mpr (qBh.mpr hk)
   have cm:eComp (iR1 (aCons (eV 4) aNil)) 1 (.one 10) Mi.tYes (eMl lixD (eV 5) (aCons (eV 10) aNil)) (full (bsS t1 t2 true n1 n 1 (srtB n1 n) 1 none none none none))=okR (.lst ((qA7 n).map fun k=>Dt.int (((srtB n1 n).idxOf k:Nat):Int))):=by
    refine zH6 (c:=Mi.tYes) (i:=10) (fun k:Nat=>Dt.int (k:Int)) _ (qA7 n) rfl rfl (fun k hk=>?_) _ ?_ (by simp;lia)
    ·exact ml1 (ds:=(numL (srtB n1 n)).map Dt.int) rfl rfl (zSI (hm k (qBh.mp hk)))
    ·rw[zN3 (n:=n) (al0 rfl) (by lia),zDJ]
   have e:(Dt.lst ((qA7 n).map fun k=>Dt.int (((srtB n1 n).idxOf k:Nat):Int)))=rowN ((qA7 n).map (srtB n1 n).idxOf):=by
    rw[zLW,qAn];rfl
   rw[e]at cm;refine zB1 (ss cm (dl _)) ⟨(qA7 n).map (srtB n1 n).idxOf,?_,rfl⟩;have h3:=hp.symm.map (srtB n1 n).idxOf;rw[zMG (hp.nodup_iff.mpr qBy),hp.length_eq,qDd]at h3;exact h3
 rintro r ⟨q,hq,rfl⟩
 have h0:besL q (sideN n1 t1 t2) n 0=qA4 (4*n) 0:=by
  unfold besL;rw[qF6];refine⟨by simp,fun x hx=>?_⟩;obtain⟨k,_,rfl⟩:=qAb.mp hx;simp
 refine zBR (P:=fun r=>r=bsS t1 t2 b n1 n 1 q 1 (some (rowN (besL q (sideN n1 t1 t2) n 0),1)) none none none) (zD2 ?_) ?_
 ·have hr:=zEG (4*n) (by lia);have e:rowD (qA4 (4*n) 0)=rowN (besL q (sideN n1 t1 t2) n 0):=by rw[h0];show rowD _=rowD _;congr 1;simp
  rw[e]at hr;rw[ss (d:=rowN (besL q (sideN n1 t1 t2) n 0)) (b2 (el1 rfl) (b2 rfl rfl (by rw[zEM (by decide) (by decide)];rfl)) hr) (dl _)];exact zB1 rfl rfl
 rintro r rfl
 have dT:∀(a k:Nat),(Dt.lst (tieD n1 (sideN n1 t1 t2) a k)).dep<=2:=fun a k=>by
  show Dt.depL _+1<=2;have:∀l:List Nat,Dt.depL (l.map (tieF (sideN n1 t1 t2)))<=1:=fun l=>by
   induction l with
   |nil=>simp[Dt.depL]
   |cons a r ih=>simp only[qAk,Dt.depL,Dt.dep];lia
  have:=this (qBk a k);lia
 refine zBR (P:=fun r=>r=bsS t1 t2 b n1 n 1 q 1 (some (rowN (besL q (sideN n1 t1 t2) n 0),1)) (some (.lst (tieD n1 (sideN n1 t1 t2) 0 (4*n1)),2)) none none) (zD2 ?_) ?_
 ·have cm:eComp (iEn (aCons (eV 0) aNil)) 2 (.tup [10,11]) Mi.tYes (eTup (aCons (eV 10) (aCons (eV 11) aNil))) (full (bsS t1 t2 b n1 n 1 q 1 (some (rowN (besL q (sideN n1 t1 t2) n 0),1)) none none none))=okR (.lst ((qA7 ((t1.map fun k:Nat=>(k:Int)).map Dt.int).length).map (tieF (sideN n1 t1 t2)))):=by
   refine zGF ((t1.map fun k:Nat=>(k:Int)).map Dt.int) (tieF (sideN n1 t1 t2)) rfl rfl (iEn (aCons (eV 0) aNil)) (by unfold iEn;rw[al0 rfl,zA0];rfl) (by simp[h1.len];lia) fun k x hk=>?_
   have hk':k<t1.length:=by simpa using(qA3.mp hk).1
   refine(et2 rfl rfl).trans ?_;unfold tieF;rw[zE1 hk'];rw[qA8,qA8,qA5 hk']at hk;cases hk;unfold nt;rw[qA0,qA5 hk'];rfl
  have e:(qA7 ((t1.map fun k:Nat=>(k:Int)).map Dt.int).length).map (tieF (sideN n1 t1 t2))=tieD n1 (sideN n1 t1 t2) 0 (4*n1):=by
   rw[qAi,qAi,h1.len,qCu]
  rw[e]at cm;rw[ss cm (dT _ _)];exact zB1 rfl rfl
 rintro r rfl
 have hties:∀ρ:Rh,ρ.length=10->ρ[1]?=some (some (rowN t2))->ρ[3]?=some (some (.int (n1:Int)))->ρ[7]?=some (some (.lst (tieD n1 (sideN n1 t1 t2) 0 (4*n1))))->eB addD (eV 7) (eComp (iEn (aCons (eV 1) aNil)) 2 (.tup [10,11]) Mi.tYes (eTup (aCons (eB addD (eB mulD (eC (.int 4)) (eV 3)) (eV 10)) (aCons (eB addD (eB mulD (eC (.int 4)) (eV 3)) (eV 11)) aNil)))) ρ=okR (.lst (tieD n1 (sideN n1 t1 t2) 0 (4*n))):=fun ρ hρ g1 g3 g7=>by
  have cm:eComp (iEn (aCons (eV 1) aNil)) 2 (.tup [10,11]) Mi.tYes (eTup (aCons (eB addD (eB mulD (eC (.int 4)) (eV 3)) (eV 10)) (aCons (eB addD (eB mulD (eC (.int 4)) (eV 3)) (eV 11)) aNil))) ρ=okR (.lst ((qA7 ((t2.map fun k:Nat=>(k:Int)).map Dt.int).length).map fun e:Nat=>tieF (sideN n1 t1 t2) (4*n1+e))):=by
   refine zGF ((t2.map fun k:Nat=>(k:Int)).map Dt.int) _ hρ.symm (by rw[hρ]) _ (by unfold iEn;rw[al0 (v1 g1),zA0];rfl) (by simp[h2.len];lia) fun k x hk=>?_
   have hk':k<t2.length:=by simpa using(qA3.mp hk).1
   have w3:eV 3 (ρ++[some (.int (k:Int)),some x])=okR (.int (n1:Int)):=v1 (by rw[qA9 (by lia)];exact g3);have w10:eV 10 (ρ++[some (.int (k:Int)),some x])=okR (.int (k:Int)):=v1 (by rw[qAd (by lia),hρ];rfl);have w11:eV 11 (ρ++[some (.int (k:Int)),some x])=okR x:=v1 (by rw[qAd (by lia),hρ];rfl);rw[qA8,qA8,qA5 hk']at hk;cases hk;show _=okR (Dt.tup _);rw[zCS h1.len hk'];have hg:nt t2 k=t2[k]:=by unfold nt;rw[qA0,qA5 hk'];rfl
   rw[hg];exact et2 (b2 (b2 rfl w3 (zEM (by decide) (by decide))) w10 (adi (by lia))) (b2 (b2 rfl w3 (zEM (by decide) (by decide))) w11 (adi (by lia)))
  refine b2 (v1 g7) cm ?_;refine(@if_pos _ (qA2 _) (by simp[h2.len];lia) _ _ _).trans ?_
  congr 2;rw[qAi,qAi,h2.len];have e:qBk 0 (4*n)=qBk 0 (4*n1)++(qA7 (4*n2)).map (4*n1 + ·):=by
   rw[hn,qIl,<- qCu,<- qCu,List.range_add]
  show(qBk 0 (4*n1)).map (tieF (sideN n1 t1 t2))++_=(qBk 0 (4*n)).map (tieF (sideN n1 t1 t2));rw[e,qBa,qAn];rfl
 have ndep:¬(Dt.lst (tieD n1 (sideN n1 t1 t2) 0 (4*n))).dep<=1\/n=0:=by
  cases hz:4*n with
  |zero=>exact .inr (by lia)
  |succ m=>
   left
   show ¬Dt.depL ((qBk 0 (m+1)).map (tieF (sideN n1 t1 t2)))+1<=1;rw[qEs,qAk];simp only[Dt.depL,Dt.dep];lia
 refine zBR (P:=fun r=>∃l,r=bsS t1 t2 b n1 n 1 q 1 (some (rowN (besL q (sideN n1 t1 t2) n 0),1)) (some (.lst (tieD n1 (sideN n1 t1 t2) 0 (4*n)),l)) none none) (zD2 ?_) ?_
 ·rcases ndep with hd|rfl
  ·rw[zIL,hties _ rfl rfl rfl rfl,zA0,if_neg hd,hties _ rfl rfl rfl rfl,zA0];exact zB1 rfl ⟨1,rfl⟩
  ·rw[ss (hties _ rfl rfl rfl rfl) (by show Dt.depL []+1<=1;simp[Dt.depL])];exact zB1 rfl ⟨1,rfl⟩
 rintro r ⟨l,rfl⟩
 have het:tieD n1 (sideN n1 t1 t2) 0 (4*n)=enumD 0 ((sideN n1 t1 t2).map fun k:Nat=>Dt.int (k:Int)):=by
  have:=zMJ (sideN n1 t1 t2) 0 (sideN n1 t1 t2) fun i _=>by rw[qB8];rfl
  rw[hS.len]at this;exact this
 refine zBR (P:=fun r=>∃l o8 o9,r=bsS t1 t2 b n1 n 1 q 1 (some (rowN (besL q (sideN n1 t1 t2) n (4*n)),1)) (some (.lst (tieD n1 (sideN n1 t1 t2) 0 (4*n)),l)) o8 o9) (zD2 ?_) ?_
 ·unfold sFor;have hit:iSq (eV 7) (frz (frzAt [7] (bsS t1 t2 b n1 n 1 q 1 (some (rowN (besL q (sideN n1 t1 t2) n 0),1)) (some (.lst (tieD n1 (sideN n1 t1 t2) 0 (4*n)),l)) none none)))=okR (enumD 0 ((sideN n1 t1 t2).map fun k:Nat=>Dt.int (k:Int))):=by
   rw[<- het];rfl
  rw[hit,zA0];show nxR (forGo (.tup [8,9]) _ _ (bsS t1 t2 b n1 n 1 q 1 (some (rowN (besL q (sideN n1 t1 t2) n 0),1)) (some (.lst (tieD n1 (sideN n1 t1 t2) 0 (4*n)),0)) none none)) _;refine zVU ((sideN n1 t1 t2).map fun k:Nat=>Dt.int (k:Int)) (fun j r=>∃o8 o9,r=bsS t1 t2 b n1 n 1 q 1 (some (rowN (besL q (sideN n1 t1 t2) n j),1)) (some (.lst (tieD n1 (sideN n1 t1 t2) 0 (4*n)),0)) o8 o9) ⟨none,none,rfl⟩ (fun k x hk r hr=>?_) fun r hr=>?_
  ·obtain⟨o8,o9,rfl⟩:=hr;have hk':k<4*n:=by
    have:=(qA3.mp hk).1;rw[qAi,hS.len]at this;exact this
   have hx:x=.int ((nt (sideN n1 t1 t2) k:Nat):Int):=by
    rw[qA8,qA5 (by rw[hS.len];exact hk')]at hk;cases hk;unfold nt;rw[qA0,qA5 (by rw[hS.len];exact hk')];rfl
   subst hx;have hm:=hS.lt k hk';have s:=zCQ (i:=6) (n:=1) (l:=0) (ls:=(besL q (sideN n1 t1 t2) n k).map fun k:Nat=>(k:Int)) (z:=((sgE q k:Nat):Int)) (v:=((sgE q (nt (sideN n1 t1 t2) k):Nat):Int)) (r:=bsS t1 t2 b n1 n 1 q 1 (some (rowN (besL q (sideN n1 t1 t2) n k),1)) (some (.lst (tieD n1 (sideN n1 t1 t2) 0 (4*n)),0)) (some (.int (k:Int),0)) (some (.int ((nt (sideN n1 t1 t2) k:Nat):Int),0))) rfl
    (zML (i:=5) (j:=9) hq hm rfl rfl) (zML (i:=5) (j:=8) hq hk' rfl rfl) (by lia) (by rw[qAi,zF4];have:=(zKI hq hk').1;lia)
   rw[qB0,<- qE4 (f:=fun k:Nat=>(k:Int)),zWU hq hk']at s;exact zB1 s ⟨_,_,rfl⟩
  ·obtain⟨o8,o9,rfl⟩:=hr;refine⟨0,o8,o9,?_⟩;rw[qAi,hS.len]
 rintro r ⟨l,o8,o9,rfl⟩
 exact .inr ⟨_,rfl,q,hq,rfl⟩
noncomputable def wor(x:Int):List Int->Int
 |[]=>0
 |n::r=>n+x*wor x r
theorem zO3(x:Int):∀(ns:List Int),ns.reverse.foldl (fun w c=>w*x+c) 0=wor x ns
 |[]=>rfl
 |n::r=>by
  rw[qCs,qDe,zO3 x r];show wor x r*x+n=n+x*wor x r;rw[qDm,qIg]
theorem zFP(ns:List Int)(x:Int)(hx:-1000000000001<x/\x<1000000000001):zCA [.lst (ns.map .int),.int x]=okR (.int (wor x ns)):=by
 unfold zCA zH8;simp[zNX];rw[<- qGl];have hm:∀w,mulD (.int w) (.int x)=some (.int (w*x)):=fun w=>zNJ (by omega) (by omega)
 refine zQX Dt.int ns.reverse (fun(w:Int) r=>∃o l,l<=1/\r=[some (.lst (ns.map .int),0),some (.int x,0),some (.int w,l),o]) (fun w c=>w*x+c) 0 ⟨none,0,by omega,rfl⟩ (fun n _ w r hr=>?_) fun r hr=>?_
 ·obtain⟨o,l,_,rfl⟩:=hr;simp[hm,-zUW];exact⟨_,_,by omega,rfl,rfl⟩
 ·obtain⟨o,l,hl,rfl⟩:=hr;rw[zO3];simp[show l<1000 by omega]
theorem zHN(a:List Int)(hz:a.length<=10000):zBG [rowD a,rowD a]=okR (.bl true):=by
 suffices h:eiR (zCW [some (rowD a,0),some (rowD a,0),none]) (fun _=>False) (fun d=>d=.bl true) by
  rcases h with⟨_,_,z⟩|⟨d,h1,rfl⟩
  ·exact z.elim
  ·exact zD3 rfl h1
 have hl:isiD "list" (rowD a)=some (.bl true):=rfl;have hi:∀k,isiD "int" (.int k)=some (.bl true):=fun _=>rfl
 have hbo:∀k,isiD "bool" (.int k)=some (.bl false):=fun _=>rfl
 have he:=zZL a a;unfold zCW;refine zBR (P:=fun r=>r=[some (rowD a,0),some (rowD a,0),none]) (zD2 (by simp[hl])) ?_
 rintro r rfl
 refine zBR (P:=fun r=>∃o2,r=[some (rowD a,0),some (rowD a,0),o2]) (zD2 ?_) ?_
 ·unfold sFor;rw[show iSq (eV 0) (frz (frzAt [0] [some (rowD a,0),some (rowD a,0),none]))=okR (a.map Dt.int) by simp[rowD],zA0];show nxR (forGo (.one 2) _ (a.map Dt.int) [some (rowD a,0),some (rowD a,0),none]) _;refine zP6 Dt.int a (fun _ r=>∃o2,r=[some (rowD a,0),some (rowD a,0),o2]) ⟨none,rfl⟩ (fun q x hx r hr=>?_) fun r h=>h
  obtain⟨o2,rfl⟩:=hr;refine zB1 (r:=[some (rowD a,0),some (rowD a,0),some (.int x,0)]) (by simp[hi,hbo]) ⟨_,rfl⟩
 rintro r ⟨o2,rfl⟩
 exact .inr ⟨.bl true,by simp[he],rfl⟩
theorem zFF(x:Int):∀l:List Int,wor x l=worL l x
 |[]=>rfl
 |n::r=>by
  show n+x*wor x r=worL (n::r) x;rw[zFF x r];unfold worL;rw[qAr,zN9];show n+x*_=n*x ^ 0+_;rw[Int.pow_zero,qGn];congr 1;rw[<- zHH];refine zB0 fun k _=>?_
  show x*(r.getD k 0*x ^ k)=r.getD k 0*x ^ (k+1);rw[Int.pow_succ];rw[<- qFy,qDm x,qFy,qDm x]
theorem zIN{x:Int}(hx:x.natAbs<=20):∀l:List Int,(∀d∈l,d.natAbs<=1000)->(wor x l).natAbs<=1000*21 ^ l.length
 |[],_=>qAu _
 |n::r,h=>by
  have h1:=zIN hx r fun d hd=>h d (qAc _ hd)
  have h2:=h n (qAj ..);show(n+x*wor x r).natAbs<=_;have h3:(x*wor x r).natAbs<=20*(1000*21 ^ r.length):=by rw[Int.natAbs_mul];exact Nat.mul_le_mul hx h1
  have h4:=Int.natAbs_add_le n (x*wor x r);have h5:1<=21 ^ r.length:=Nat.one_le_pow _ _ (by decide);rw[qAr,qF4]
  lia
theorem za6{ts:List Nat}{n:Nat}(hN:NetN ts (4*n))(hne:∀x,x<4*n->nt ts x≠x)(hn:n<=3):hst ((chA n).map (rN ts n))≠[]/\(hst ((chA n).map (rN ts n))).length<=7/\∀d∈hst ((chA n).map (rN ts n)),d.natAbs<=1000:=by
 have hne':(chA n).map (rN ts n)≠[]:=fun z=>za8 n (qFi.mp z)
 have hrl:((chA n).map (rN ts n)).length=3 ^ n:=by rw[qAi,zQO]
 have hle:∀x∈(chA n).map (rN ts n),x<=6:=fun x hx=>by
  obtain⟨C,hC,rfl⟩:=qAb.mp hx;have:=zb1 hN hne hC;lia
 have h27:3 ^ n<=27:=qAs (qDu (by decide) hn) (by decide);have hm:=hle _ (zF0 hne');have hl:=zCI hne';refine⟨fun z=>by rw[z]at hl;simp at hl,by lia,fun d hd=>?_⟩;unfold hst at hd;rw[if_neg hne']at hd;obtain⟨k,_,rfl⟩:=qAb.mp hd
 have:=List.count_le_length (a:=k) (l:=(chA n).map (rN ts n));lia
theorem zVQ{n k:Nat}(hk:k<=n):((qA7 n).drop k++((qA7 n).take k).reverse).Perm (qA7 n):=by
 refine(qF5).trans ?_;refine((List.reverse_perm _).append_right _).trans ?_;rw[List.take_append_drop]
theorem zOG(l:List Nat)(k:Nat):slD (rowN l) (some (k:Int)) none=some (rowN (l.drop k))/\slD (rowN l) none (some (k:Int))=some (rowN (l.take k)):=by
 refine⟨?_,?_⟩
 ·rw[zGE,zTF,<- List.map_drop]
 ·rw[zGE,za5,<- List.map_take]
theorem zRJ(l:List Nat):rvsD [rowN l]=some (rowN l.reverse):=by
 rw[zLW,zLW];show some (Dt.lst _)=_;rw[<- qGl]
theorem zTJ{a b:List Nat}(h:a.length+b.length<=1000):addD (rowN a) (rowN b)=some (rowN (a++b)):=by
 refine(@if_pos _ (qA2 _) (by simp;lia) _ _ _).trans ?_;show some (Dt.lst _)=some (Dt.lst _);rw[<- qBa,<- qBa]
theorem zbO(a b:Int):eqD (.int a) (.int b)=some (.bl (decide (a=b))):=by
 simp[Dt.eq];rfl
theorem eq77(a:Int):eqD (.int a) (.int a)=some (.bl true):=by simp[Dt.eq]
theorem zSK(ns:List Int)(hl:ns.length<=63)(hw:∀i∈ns,i.natAbs.log2<2 ^ 20):zJD [.scr ns]=okR (.bl true):=by
 obtain⟨cl,ec,c18,c63,cn⟩:=za9 18 (by decide) ns hl;have cix:∀{k:Nat},k<cl.length->ixD (rowD cl) (.int (k:Int))=some (.int (cl.getD k 0)):=fun h=>zPL _ _ h
 have g0:=cn _ (zFI (d:=0) (show 0<cl.length by lia));obtain⟨n1,hn1⟩:∃n:Nat,1+cl.getD 0 0/2%3=(n:Int):=⟨(1+cl.getD 0 0/2%3).toNat,by lia⟩
 obtain⟨n2,hn2⟩:∃n:Nat,1+cl.getD 0 0/6%3=(n:Int):=⟨(1+cl.getD 0 0/6%3).toNat,by lia⟩
 have a1:1<=n1/\n1<=3:=by lia
 have a2:1<=n2/\n2<=3:=by lia
 have cm:∀i:Nat,i+6<=18->∃l:List Int,l.length=6/\∀{a b c:EM}{ρ:Rh},a ρ=okR (rowD cl)->b ρ=okR (.int (i:Int))->c ρ=okR (.int ((i+6:Nat):Int))->eSl a (oE b) (oE c) ρ=okR (rowD l):=fun i hi=>⟨(cl.drop i).take 6,by rw[qCz,qGb];lia,fun ha hb hc=>sl2 ha hb hc (by rw[zGE,zWR cl (by lia) (by lia),show i+6-i=6 by lia])⟩
 obtain⟨l1,ll1,es1⟩:=cm 3 (by decide);obtain⟨l2,ll2,es2⟩:=cm 9 (by decide);obtain⟨u1,hu1,hue1,enet1⟩:=zYW l1 n1 (by lia) (by lia) (by lia);obtain⟨u2,hu2,hue2,enet2⟩:=zYW l2 n2 (by lia) (by lia) (by lia);obtain⟨sz,hsz⟩:∃sz:Dt,sz=.tup [.int (n1:Int),.int (n2:Int)]:=⟨_,rfl⟩
 have z0:ixD sz (.int 0)=some (.int (n1:Int)):=by rw[hsz];rfl
 have z1:ixD sz (.int 1)=some (.int (n2:Int)):=by rw[hsz];rfl
 have dl:∀(l:List Int),(rowD l).dep<=1:=fun l=>by rw[zC0];exact qA6 1
 obtain⟨t1,t2,hif,hN1,hne1,hN2,hne2⟩:∃(t1 t2:List Nat),(sIf (tAn (tB (eB (cmpD fun i j=>decide (j<i)) (eBi lenD (aCons (eV 0) aNil)) (eC (.int 0)))) (tB (eB eqD (eB modD (eB ixD (eV 0) (eC (.int 0))) (eC (.int 2))) (eC (.int 1))))) (sSeq (sSet 3 1 [1,2] (eCall zAV (aCons (eB ixD (eV 1) (eC (.int 3))) (aCons (eB ixD (eV 2) (eC (.int 0))) aNil)))) (sSet 4 1 [1,2] (eCall zAV (aCons (eB ixD (eV 1) (eC (.int 4))) (aCons (eB ixD (eV 2) (eC (.int 1))) aNil))))) sNil) [some (.scr ns,0),some (rowD cl,1),some (sz,2),some (rowN u1,1),some (rowN u2,1),none,none,none,none,none,none,none,none]=okR (.nx [some (.scr ns,0),some (rowD cl,1),some (sz,2),some (rowN t1,1),some (rowN t2,1),none,none,none,none,none,none,none,none])/\NetN t1 (4*n1)/\(∀x,x<4*n1->nt t1 x≠x)/\NetN t2 (4*n2)/\∀x,x<4*n2->nt t2 x≠x:=by
  by_cases h0:0<ns.length
  ·have c1:tB (eB (cmpD fun i j=>decide (j<i)) (eBi lenD (aCons (eV 0) aNil)) (eC (.int 0))) (full [some (.scr ns,0),some (rowD cl,1),some (sz,2),some (rowN u1,1),some (rowN u2,1),none,none,none,none,none,none,none,none])=okR true:=tb1 (b2 (cmpl rfl) rfl (cmi (decide_eq_true (show(0:Int)<ns.length by lia))));have c2':∀k,decide (ns.getD 0 0%2=1)=k->tB (eB eqD (eB modD (eB ixD (eV 0) (eC (.int 0))) (eC (.int 2))) (eC (.int 1))) (full [some (.scr ns,0),some (rowD cl,1),some (sz,2),some (rowN u1,1),some (rowN u2,1),none,none,none,none,none,none,none,none])=okR k:=fun k h=>eqi (b2 (b2 rfl rfl (ixS (k:=0) (by lia))) rfl (mdi (by decide) rfl)) rfl h
   by_cases h1:ns.getD 0 0%2=1
   ·obtain⟨v1',p1,p2,p3⟩:=zZU (cl.getD 3 0) n1 (by lia);obtain⟨v2',q1,q2,q3⟩:=zZU (cl.getD 4 0) n2 (by lia);exact⟨v1',v2',st4 (ta1 c1 (c2' true (decide_eq_true h1))) (sw (ss (c2 (b2 rfl rfl (cix (k:=3) (by lia))) (b2 rfl rfl z0) p3) (dl _)) (ss (c2 (b2 rfl rfl (cix (k:=4) (by lia))) (b2 rfl rfl z1) q3) (dl _))),p1,p2,q1,q2⟩
   ·exact⟨u1,u2,sf (ta1 c1 (c2' false (decide_eq_false h1))),hu1,hue1,hu2,hue2⟩
  ·exact⟨u1,u2,sf (ta0 (tb1 (b2 (cmpl rfl) rfl (cmi (decide_eq_false (show ¬(0:Int)<ns.length by lia)))))),hu1,hue1,hu2,hue2⟩
 obtain⟨q,hq,ebes⟩:=zLD (decide (cl.getD 0 0/18%2=1)) hN1 hN2 hne1 hne2 a1.2 a2.2;obtain⟨n,hn⟩:∃n,n=n1+n2:=⟨_,rfl⟩
 rw[<- hn]at hq ebes;have hS:NetN (sideN n1 t1 t2) (4*n):=hn▸zLS hN1 hN2;have hSe:∀x,x<4*n->nt (sideN n1 t1 t2) x≠x:=hn▸zV5 hN1 hN2 hne1 hne2;obtain⟨hB,hBe⟩:=zWV hq hS hSe;have hcount:hst ((chA n).map (rN (besL q (sideN n1 t1 t2) n (4*n)) n))=prdL (hst ((chA n1).map (rN t1 n1))) (hst ((chA n2).map (rN t2 n2))):=by
  rw[zJS hq hS hB fun e he=>zQZ hq he,hn];exact zL9 hN1 hN2 hne1 hne2
 have hc1:zAU [rowN t1,.non]=okR (rowD (hst ((chA n1).map (rN t1 n1)))):=zDE hN1 hne1 (by lia) (qCy _) (.inl ⟨rfl,rfl⟩);have hc2:zAU [rowN t2,.non]=okR (rowD (hst ((chA n2).map (rN t2 n2)))):=zDE hN2 hne2 (by lia) (qCy _) (.inl ⟨rfl,rfl⟩);have hc3:∀od o,o.Perm (qA7 n)->((od=.non/\o=qA7 n)\/od=rowN o)->zAU [rowN (besL q (sideN n1 t1 t2) n (4*n)),od]=okR (rowD (prdL (hst ((chA n1).map (rN t1 n1))) (hst ((chA n2).map (rN t2 n2))))):=fun od o ho h=>by
  rw[zDE hB hBe (by lia) ho h,hcount]
 obtain⟨d1,d2,d3⟩:=za6 hN1 hne1 a1.2;obtain⟨f1,f2,f3⟩:=za6 hN2 hne2 a2.2;have hBl:=hB.len;clear hcount;generalize hst ((chA n1).map (rN t1 n1))=D1 at hc1 hc3 d1 d2 d3;generalize hst ((chA n2).map (rN t2 n2))=D2 at hc2 hc3 f1 f2 f3;generalize besL q (sideN n1 t1 t2) n (4*n)=tb at ebes hc3 hBl;have hprd:=zJ8 d1 f1 (by lia) (by lia) fun x hx=>by have:=d3 x hx;lia
 have sD1:=zHN D1 (by lia);have sD2:=zHN D2 (by lia);have hPl:(prdL D1 D2).length<=1000:=by unfold prdL;simp;lia
 have sP:=zHN (prdL D1 D2) (by lia);have eD:∀{t:List Nat}{D:List Int}{ρ:Rh}{i:Nat},zAU [rowN t,.non]=okR (rowD D)->ρ[i]?=some (some (rowN t))->eCallD zAU (aCons (eV i) aNil) ρ=okR (rowD D):=fun{t D ρ i} hc h=>by
  unfold eCallD;rw[zB8,v1 h,zA0,zC8,zA0,zA0];exact hc
 have hcb:=hc3 .non (qA7 n) (qCy _) (.inl ⟨rfl,rfl⟩);have n0:1<=n/\n<=6:=by lia
 obtain⟨k,hk⟩:∃k:Nat,cl.getD 1 0%(n:Int)=(k:Int):=⟨(cl.getD 1 0%(n:Int)).toNat,by have:=qBv (cl.getD 1 0) (show(n:Int)≠0 by lia);lia⟩
 have hkn:k<=n:=by have:=qCl (cl.getD 1 0) (show(0:Int)<n by lia);lia
 have hod:=hc3 _ _ (zVQ hkn) (.inr rfl);have x0:(cl.getD 2 0%41-20).natAbs<=20:=by lia
 generalize hx:cl.getD 2 0%41-20=x at x0;have w1:=zFP D1 x (by lia);have w2:=zFP D2 x (by lia);have w3:=zFP (prdL D1 D2) x (by lia);have hwp:wor x (prdL D1 D2)=wor x D1*wor x D2:=by rw[zFF,zFF,zFF];exact zUU d1 f1 x
 have wb:=zIN x0 D1 d3;have wb2:1000*21 ^ D1.length<=1000*21 ^ 7:=Nat.mul_le_mul_left _ (qDu (by decide) d2);have wm:mulD (.int (wor x D1)) (.int (wor x D2))=some (.int (wor x (prdL D1 D2))):=by rw[zEM (by lia) (by lia),hwp]
 rw[hwp]at w3;rw[hwp]at wm;obtain⟨both,hbo⟩:∃both:Dt,both=.lst [rowD D1,rowD D2]:=⟨_,rfl⟩
 have i0:ixD both (.int 0)=some (rowD D1):=by rw[hbo];rfl
 have i1:ixD both (.int 1)=some (rowD D2):=by rw[hbo];rfl
 have dsz:sz.dep<=2:=by rw[hsz];simp[Dt.dep,Dt.depL]
 have dbo:both.dep<=2:=by
  rw[hbo];show Dt.depL [rowD D1,rowD D2]+1<=2;have y1:=dl D1;have y2:=dl D2;simp only[Dt.depL];lia
 refine zD3 rfl (sg (c2 rfl rfl ec) (dl _) (sg (d:=sz) (by rw[hsz];exact et2 (b2 rfl (b2 (b2 (b2 rfl rfl (cix (k:=0) (by lia))) rfl (dvi (by decide))) rfl (mdi (by decide) rfl)) (adi hn1)) (b2 rfl (b2 (b2 (b2 rfl rfl (cix (k:=0) (by lia))) rfl (dvi (by decide))) rfl (mdi (by decide) rfl)) (adi hn2))) dsz
  (sg (c2 (es1 rfl rfl rfl) (b2 rfl rfl z0) enet1) (dl _) (sg (c2 (es2 rfl rfl rfl) (b2 rfl rfl z1) enet2) (dl _) (sw hif (sg (d:=rowN tb) (c3 rfl rfl (d3:=.bl (decide (cl.getD 0 0/18%2=1))) (b2 (b2 (b2 (b2 rfl rfl (cix (k:=0) (by lia))) rfl (dvi (by decide))) rfl (mdi (by decide) rfl)) rfl (zbO _ _)) ebes) (dl _)
  (sg (d:=both) (by rw[hbo];exact el2 (eD hc1 rfl) (eD hc2 rfl)) dbo (zXJ fun bb hb=>?_))))))))
 show nxR (sFor [6] (iSq (eV 6)) (.one 7) _ [some (.scr ns,0),some (rowD cl,1),some (sz,2),some (rowN t1,1),some (rowN t2,1),some (rowN tb,1),some (both,2),none,none,none,none,none,none]) _;unfold sFor;rw[show iSq (eV 6) (frz (frzAt [6] [some (.scr ns,0),some (rowD cl,1),some (sz,2),some (rowN t1,1),some (rowN t2,1),some (rowN tb,1),some (both,2),none,none,none,none,none,none]))=okR (([D1,D2]:List (List Int)).map fun l=>rowD l) by rw[hbo];rfl,zA0];show nxR (forGo (.one 7) _ (([D1,D2]:List (List Int)).map fun l=>rowD l) [some (.scr ns,0),some (rowD cl,1),some (sz,2),some (rowN t1,1),some (rowN t2,1),some (rowN tb,1),some (both,0),none,none,none,none,none,none]) _;refine zP6 (fun l=>rowD l) [D1,D2] (fun _ r=>∃o7,r=[some (.scr ns,0),some (rowD cl,1),some (sz,2),some (rowN t1,1),some (rowN t2,1),some (rowN tb,1),some (both,0),o7,none,none,none,none,none]) ⟨none,rfl⟩ (fun i D hD r hr=>?_) fun r hr=>?_
 ·obtain⟨o7,rfl⟩:=hr;have sD:zBG [rowD D,rowD D]=okR (.bl true):=by
   have:=qAw hD;simp only[qAf,qEr,or_false]at this;rcases this with rfl|rfl
   ·exact sD1
   ·exact sD2
  exact zB1 (sf (to0 (tn1 (k:=true) (tm1 rfl)) (tn1 (k:=true) (tm1 (c2 rfl (bi1 rfl rfl) sD))))) ⟨_,rfl⟩
 obtain⟨o7,rfl⟩:=hr;subst hb;have hlt:lenD [rowN tb]=some (.int ((4*n:Nat):Int)):=by rw[zI2,hBl]
 refine sg (c2 (b2 rfl rfl i0) (b2 rfl rfl i1) hprd) (dl _) (sg (d:=.int (n:Int)) (b2 (bi1 rfl hlt) rfl (by rw[dvi (by decide)];congr 2;lia)) (qA6 0) (sg (d:=.int (k:Int)) (b2 (b2 rfl rfl (cix (k:=1) (by lia))) rfl (mdi (by lia) hk)) (qA6 0)
  (sg (d:=rowN ((qA7 n).drop k++((qA7 n).take k).reverse)) (b2 (sl1 (bi1 rfl (zEW (by lia))) rfl (zOG _ k).1) (bi1 (sl0 (bi1 rfl (zEW (by lia))) rfl (zOG _ k).2) (zRJ _)) (zTJ (by simp;lia))) (dl _)
  (sp (to0 (tn1 (k:=true) (tm1 (c2 (eD hcb rfl) rfl sP))) (tn1 (k:=true) (tm1 (c2 (c2 rfl rfl hod) rfl sP)))) (sg (d:=.int x) (b2 (b2 (b2 rfl rfl (cix (k:=2) (by lia))) rfl (mdi (by decide) rfl)) rfl (sbi hx)) (qA6 0)
  (sr (d:=.bl true) (b2 (c2 (eD hcb rfl) rfl w3) (b2 (c2 (b2 rfl rfl i0) rfl w1) (c2 (b2 rfl rfl i1) rfl w2) wm) (eq77 _)) ⟨qA6 0,qA6 0⟩))))))
end Mp
set_option maxHeartbeats 4000000
namespace Q77
open PySem PyProof.Rows
open L2 hiding Rep RepL
open L3
open Mp
noncomputable def top(i:Nat):Stmt:=qE9.main.body.getD i (.Pass ⟨0,0,0,0⟩)
theorem wB:FnScope ["_law_one","_law_other","_law_turns","_law_size","_law_many","_law_spots","_law_net_here","_law_ties","_law_end","_law_mate"] ["_law_one","_law_other","_law_turns"] (zAB (top 24)):=fsc
theorem wE:FnScope ["_law_script","_law_least","_law_made","_law_k","_law_cell","_law_first"] ["_law_script","_law_least"] (zAB (top 19)):=fsc
theorem wS:FnScope ["_law_script","_law_least","_law_made"] ["_law_script","_law_least"] (zAB (top 20)):=fsc
theorem wC:FnScope ["_law_cell","_law_size","_law_ends","_law_net_here","_law_k","_law_one","_law_other"] ["_law_cell","_law_size"] (zAB (top 22)):=fsc
theorem wF:FnScope ["_law_cells_here","_law_size","_law_ends","_law_net_here","_law_k","_law_one","_law_cell","_law_other"] ["_law_cells_here","_law_size"] (zAB (top 21)):=fsc
theorem wH:FnScope ["_law_one","_law_other","_law_found","_law_i","_law_j"] ["_law_one","_law_other"] (zAB (top 25)):=fsc
theorem wP:FnScope ["_law_found","_law_due","_law_number"] ["_law_found","_law_due"] (zAB (top 23)):=fsc
theorem zLM:FnScope ["net"] ["net"] (zAB (top 5)):=fsc
theorem wN:FnScope ["ties","one","other","far","near"] ["ties","one","other"] (zAB (top 15)):=fsc
theorem zTL:FnScope ["way","seat"] ["way","seat"] (zAB (top 9)):=fsc
theorem wG:FnScope ["ties","place","way","closed","seat","mate"] ["ties","place","way"] (zAB (top 14)):=fsc
theorem zO0:FnScope ["counts","k"] ["counts","k"] (zAB (top 17)):=fsc
theorem uE:FnScope ["one","other","longest"] ["one","other"] (zAB (top 16)):=fsc
theorem wD:FnScope ["counted","place","left","ties","way","joint","closed","ahead"] ["counted","place"] (zAB (top 13)):=fsc
theorem wJ:FnScope ["net","order","places","counted","place"] ["net","order"] (zAB (top 11)):=fsc
theorem wM:FnScope ["counts","x","worth","count"] ["counts","x"] (zAB (top 12)):=fsc
theorem wK:FnScope ["_law_script","_law_cells_here","_law_sizes","_law_one","_law_other","_law_net_here","_law_both","_law_some","_law_due","_law_many","_law_turn","_law_order","_law_x"] ["_law_script"] (zAB (top 26)):=fsc
section
variable{P:qIy}{w:World}{K:qA1}{mg:Str->Option Value}{base:Heap}
structure Bd(K:qA1)(mg:Str->Option Value):Prop where
 d0:MkrE K mg "_law_beside" (top 24)
 d1:Def K mg "_law_mixed" (top 19)
 d2:Def K mg "_law_cells" (top 20)
 d3:Def K mg "_law_digit_net" (top 22)
 d4:Def K mg "_law_net" (top 21)
 d5:Def K mg "_law_product" (top 25)
 d6:Def K mg "_law_row_is" (top 23)
 d7:Def K mg "places_in" (top 5)
 d8:Def K mg "join_ends" (top 15)
 d9:Def K mg "joined" (top 9)
 d10:Def K mg "join_place" (top 14)
 d11:Def K mg "count_at" (top 17)
 d12:Def K mg "summed" (top 16)
 d13:Def K mg "without_place" (top 13)
 d14:DefD K mg "counts_of" (top 11)
 d15:Def K mg "worth_at" (top 12)
 e0:mg "bool" = none
 e1:mg "enumerate" = none
 e2:mg "int" = none
 e3:mg "isinstance" = none
 e4:mg "len" = none
 e5:mg "list" = none
 e6:mg "max" = none
 e7:mg "min" = none
 e8:mg "range" = none
 e9:mg "reversed" = none
 e10:mg "sorted" = none
 e11:mg "tuple" = none
structure Bn(P:qIy)(w:World)(K:qA1)(mg:Str->Option Value)(base:Heap):Type where
 S:Bd K mg
 uP:Value
 u_ALL_WAYS:Addr
 wA:Addr
 wQ:Value
 c_SEATS:RelV (V.int 4) uP/\mg "SEATS" = some uP
 c_ALL_WAYS:KTup K u_ALL_WAYS [0,1,2]/\mg "ALL_WAYS" = some (.ref u_ALL_WAYS)
 c_MOST_CHOSEN:RelV (V.int 6) wQ/\mg "MOST_CHOSEN" = some wQ
 z_TooMany:XNo K mg "TooMany" wA
variable(B:Bn P w K mg base)
include B
theorem zD9:LamOk K mg 0 "_law_beside" zAX:=by
 obtain⟨T,g⟩:=B.S.d0;refine⟨⟨(_,_,_,"_law_size"),["_law_k"],_,g.lam.trans rfl,lsc,fun _ _ _ _ _=>uw1 fun _=>rfl,rfl,?_⟩⟩;intro X q f cdv cl s H hK hm hr;subst hK hm
 letI:Kc:=⟨X.K⟩;have hu:=hr.units;exact⟨_,(zHS (zFC u_lt (pn 0) (pn 1) (zCG _)) (zAI zB6 zAC (pn 0)) (zAI zBO (zAI zB6 zAC (zAI zRA (pn 0) (pn 1))) zAC)),(zAS (zQH (dt_b (dz (zAF zGU (de_v 0) (de_v 1)))) (zAF zB7 (dz zAA) (de_v 0)) (zAF zB2 (dz (zAF zB7 (dz zAA) (dz (zAF zLX (de_v 0) (de_v 1))))) (dz zAA))))⟩
theorem lams:∀y gm,([("_law_beside",zAX)]:List (Str×Mi.FM)).lookup y=some gm->LamOk K mg 0 y gm:=lam1 (zD9 B)
theorem zGO:Has P w K mg base "_law_beside" 4 ["_law_one","_law_other","_law_turns"] (sp0 K mg 1 zC5):=by
 obtain⟨T,g⟩:=B.S.d0;letI:Kc:=⟨K⟩;exact dfL g wB (fun _ _ _ _ _ _=>uw3 fun _ _ _=>rfl) fun hC hr hu h=>⟨_,(zA5 (pst 3 wB.nd (zAI zCY (zAL (zBA (K:=K)) rfl B.S.e4 qJg (zA1 (pn 0) zA6)) zAC))
   (zA5 (pst 4 wB.nd (zAI zBO (pn 3) (zAI zCY (zAL (zBA (K:=K)) rfl B.S.e4 qJg (zA1 (pn 1) zA6)) zAC)))
   (zA5 (pst 5 wB.nd (zAP (zDA (K:=K) rfl) rfl B.S.e5 qK5 (zA1 (zAP zE3 rfl B.S.e8 qKd (zA1 (pn 4) zA6)) zA6)))
   (zA5 (zFV (pt_m (pn 2)) (zA5 (pst 5 wB.nd (zS3 rfl (zbC g (hr.mono (by decide)) (zD9 B)) rfl B.S.e10 boot_sorted (zA1 (zAP zE3 rfl B.S.e8 qKd (zA1 (pn 4) zA6)) zA6) (zVN hC)))
   (zAK (pst 5 wB.nd (zHT rfl (cn ["0","1","2","3","4","_law_spots","6","7","8","9","_law_k"] 1 (by kernel_rfl)) (zC3 rfl B.S.e8 (zA1 (pn 4) zA6)) (fun _ _ _ _=>(pgn 10)) (fun _ _ _ _=>zEX) (fun _ _ _ _=>(zNG qBl qEm PySem.F.type_list_index zVX (pn 5) (zA1 (pn 10) zA6))))))) zCE)
   (zA5 (pst 6 wB.nd (zAI zN5 (zDS (zA1 zAC zA6)) (zAI zB6 zAC (pn 4))))
   (zA5 (zGX (i:=7) wB.nd rfl oi rfl (cn ["0","1","2","3","4","5","6","7","8","9","_law_end","_law_mate"] 2 (by kernel_rfl)) (zM5 (K:=K) rfl B.S.e1 (zA1 (pn 0) zA6)) (fun _ _ _ _=>zKO (K:=K) rfl (zDI (pgn 10) (zDI (pgn 11) zKN))) (fun _ _ _ _=>zEX) (fun _ _ _ _=>(zOY (zA1 (pn 10) (zA1 (pn 11) zA6)))))
   (zA5 (pst 7 wB.nd (zAI zBO (pn 7) (zHT rfl (cn ["0","1","2","_law_size","4","5","6","7","8","9","_law_end","_law_mate"] 2 (by kernel_rfl)) (zM5 (K:=K) rfl B.S.e1 (zA1 (pn 1) zA6)) (fun _ _ _ _=>zKO (K:=K) rfl (zDI (pgn 10) (zDI (pgn 11) zKN))) (fun _ _ _ _=>zEX) (fun _ _ _ _=>(zOY (zA1 (zAI zBO (zAI zB6 zAC (pn 3)) (pn 10)) (zA1 (zAI zBO (zAI zB6 zAC (pn 3)) (pn 11)) zA6)))))))
   (zA5 (zBV qJ9 rfl (zFX (K:=K) (pn 7)) (zKO (K:=K) rfl (zDI (zBM (i:=8) wB.nd rfl oi) (zDI (zBM (i:=9) wB.nd rfl oi) zKN))) (zAK (zDQ (zAI zBO (zAI zB6 zAC (zBW (zBT (K:=K)) (pn 5) (zAI zCY (pn 9) zAC) (fun _ _=>rfl))) (zAI zD1 (pn 9) zAC)) (zDR (pn 6) (zAI zBO (zAI zB6 zAC (zBW (zBT (K:=K)) (pn 5) (zAI zCY (pn 8) zAC) (fun _ _=>rfl))) (zAI zD1 (pn 8) zAC)) zGK))))
   (zAK (zBC (pn 6))))))))))),(zCC (zAJ (zAM (n:=0) [0] (zAF zCZ (dz (zBJ zBB (zA3 (de_v 0) zAD))) (dz zAA)))
   (zAJ (zAM (n:=1) [3,1] (zAF zB2 (de_v 3) (dz (zAF zCZ (dz (zBJ zBB (zA3 (de_v 1) zAD))) (dz zAA)))))
   (zAJ (zAM (n:=1) [4] (zBN (zA3 (de_v 4) zAD)))
   (zAJ (zGQ (dt_m (de_v 2)) (zAJ (zAM (n:=1) [4,3] (zT6 g (zA3 (de_v 4) zAD)))
   (zAM (n:=1) [5,4] (zF3 (n:=0) (zJR (zA3 (de_v 4) zAD)) (zCB 10) zH4 (zbS zRP (de_v 5) (zA3 (de_v 10) zAD))))) zDC)
   (zAJ (zAM (n:=1) [4] (zAF zGT (zDX (n:=0) (zA3 zAA zAD)) (dz (zAF zB7 (dz zAA) (de_v 4)))))
   (zAJ (zAM (n:=2) [8,9,0] (zF3 (n:=1) (zZW (zA3 (de_v 0) zAD)) (zO8 (zDG 10 (zDG 11 zKE)) rfl) zH4 (zQG (n:=0) (zA3 (de_v 10) (zA3 (de_v 11) zAD)))))
   (zAJ (zAM (n:=1) [7,8,9,1,3] (zAF zB2 (de_v 7) (zF3 (n:=2) (zZW (zA3 (de_v 1) zAD)) (zO8 (zDG 10 (zDG 11 zKE)) rfl) zH4 (zQG (n:=1) (zA3 (zAF zB2 (dz (zAF zB7 (dz zAA) (de_v 3))) (de_v 10)) (zA3 (zAF zB2 (dz (zAF zB7 (dz zAA) (de_v 3))) (de_v 11)) zAD))))))
   (zAJ (zGA [7] (zGB (de_v 7)) (zO8 (zDG 8 (zDG 9 zKE)) rfl) (zF1 6 (n:=1) (zAF zB2 (dz (zAF zB7 (dz zAA) (zAF zBU (de_v 5) (dz (zAF zCZ (de_v 8) (dz zAA)))))) (dz (zAF zBS (de_v 8) (dz zAA)))) (zAF zB2 (dz (zAF zB7 (dz zAA) (zAF zBU (de_v 5) (dz (zAF zCZ (de_v 9) (dz zAA)))))) (dz (zAF zBS (de_v 9) (dz zAA))))))
   (zE6 6))))))))) h)⟩
theorem zHW:Has P w K mg base "_law_mixed" 1 ["_law_script","_law_least"] (sp0 K mg 9 zBQ):=by
 letI:Kc:=⟨K⟩;exact dfM B.S.d1 wE (fun _ _ _ _ _ _=>uw2 fun _ _=>rfl) fun hr hu h=>⟨_,(zA5 (pst 2 wE.nd (zDS zA6))
   (zA5 (zBV qJ9 rfl (zC3 rfl B.S.e8 (zA1 (zAL (zJV rfl) rfl B.S.e6 boot_max (zA1 (pn 1) (zA1 (zAL (zQT rfl) rfl B.S.e7 boot_min (zA1 zAC (zA1 (zAL (zBA (K:=K)) rfl B.S.e4 qJg (zA1 (pn 0) zA6)) zA6))) zA6))) zA6)) (zBM (i:=3) wE.nd rfl oi) (zA5 (pst 4 wE.nd (zAI zBO (zAI zB6 zAC (pn 3)) zAC))
   (zA5 (zFV (zFC u_gt (zAL (zBA (K:=K)) rfl B.S.e4 qJg (zA1 (pn 0) zA6)) zAC (zCG _)) (zAK (pst 4 wE.nd (zAI zD1 (zBW (zBT (K:=K)) (pn 0) (zAI zD1 (pn 3) (zAL (zBA (K:=K)) rfl B.S.e4 qJg (zA1 (pn 0) zA6))) (fun _ _=>rfl)) zAC))) zCE)
   (zA5 (pst 5 wE.nd (zAI zD1 (zAI zB6 (zAI zD1 (zAI zBO (zAI zB6 (zAI zBO (pn 4) zAC) zAC) (zAI zB6 (zAI zB6 (pn 3) (pn 3)) zAC)) zAC) zAC) zAC))
   (zAK (zVJ (zNG qBl PySem.F.slot_list_append PySem.F.type_list_append zVY (pn 2) (zA1 (zAI zBO (zAI zB6 (pn 5) zAC) (zAI zD1 (zAI zBO (zAI zB6 (pn 5) zAC) (pn 3)) zAC)) zA6))))))))
   (zAK (zBC (pn 2))))),(zCC (zAJ (zAM (n:=9) [] (zDX (n:=8) zAD))
   (zAJ (zF2 (zJR (zA3 (zBJ zUN (zA3 (de_v 1) (zA3 (zBJ zaB (zA3 zAA (zA3 (zBJ zBB (zA3 (de_v 0) zAD)) zAD))) zAD))) zAD)) (zAJ (zAM (n:=1) [3] (zAF zB2 (dz (zAF zB7 (dz zAA) (de_v 3))) (dz zAA)))
   (zAJ (zGQ (dt_b (dz (zAF zGU (dz (zBJ zBB (zA3 (de_v 0) zAD))) (dz zAA)))) (zAM (n:=0) [0,3] (zAF zBS (zAF zBU (de_v 0) (dz (zAF zBS (de_v 3) (dz (zBJ zBB (zA3 (de_v 0) zAD)))))) (dz zAA))) zDC)
   (zAJ (zAM (n:=0) [4,3] (zAF zBS (dz (zAF zB7 (dz (zAF zBS (zAF zB2 (dz (zAF zB7 (zAF zB2 (de_v 4) (dz zAA)) (dz zAA))) (dz (zAF zB7 (dz (zAF zB7 (de_v 3) (de_v 3))) (dz zAA)))) (dz zAA))) (dz zAA))) (dz zAA)))
   (zZS 2 (n:=1) (zAF zB2 (dz (zAF zB7 (de_v 5) (dz zAA))) (dz (zAF zBS (zAF zB2 (dz (zAF zB7 (de_v 5) (dz zAA))) (de_v 3)) (dz zAA)))))))))
   (zE6 2))) h)⟩
theorem zHX:Has P w K mg base "_law_cells" 2 ["_law_script","_law_least"] (sp0 K mg 1 zD7):=by
 letI:Kc:=⟨K⟩;exact dfM B.S.d2 wS (fun _ _ _ _ _ _=>uw2 fun _ _=>rfl) fun hr hu h=>⟨_,(zA5 (zFV (pt_w (zOR (zFC (u_eq hu) (zAL (zBA (K:=K)) rfl B.S.e4 qJg (zA1 (pn 0) zA6)) zAC (zCG _)) (zJ6 (zFC (u_eq hu) (zAI zD1 (zBW (zBT (K:=K)) (pn 0) zAC (fun _ _=>rfl)) zAC) zAC (zCG _))))) (zAK (zBC (zCF (zHW B) (by decide) hr rfl (zA1 (pn 0) (zA1 (pn 1) zA6))))) zCE)
   (zA5 (zGX (i:=2) wS.nd rfl oi rfl (cn ["0","1","2","_law_cell"] 1 (by kernel_rfl)) (zFX (K:=K) (zEH (zaO (K:=K)) (pn 0) zKM (zDZ zAC))) (fun _ _ _ _=>(pgn 3)) (fun _ _ _ _=>zEX) (fun _ _ _ _=>(zAI zD1 (pn 3) (zAI zaP zAC zAC))))
   (zAK (zBC (zAI zBO (pn 2) (zAI zN5 (zDS (zA1 zAC zA6)) (zAI zRA (pn 1) (zAL (zBA (K:=K)) rfl B.S.e4 qJg (zA1 (pn 2) zA6))))))))),(zCC (zAJ (zGQ (zQ7 (dt_b (dz (zAF zKL (dz (zBJ zBB (zA3 (de_v 0) zAD))) (dz zAA)))) (dt_b (dz (zAF zKL (dz (zAF zBS (zAF zBU (de_v 0) (dz zAA)) (dz zAA))) (dz zAA))))) (zD0 (n:=9) [0,1] (zB5 (zA3 (de_v 0) (zA3 (de_v 1) zAD)))) zDC)
   (zAJ (zAM (n:=1) [0] (zF3 (n:=0) (zGB (za1 (de_v 0) zWM (do_e (dz zAA)))) (zCB 3) zH4 (zAF zBS (de_v 3) (dz (zAF zXQ (dz zAA) (dz zAA))))))
   (zD0 (n:=1) [2,1] (zAF zB2 (de_v 2) (zAF zGT (zDX (n:=0) (zA3 zAA zAD)) (dz (zAF zLX (de_v 1) (dz (zBJ zBB (zA3 (de_v 2) zAD)))))))))) h)⟩
theorem zCP:Has P w K mg base "_law_digit_net" 1 ["_law_cell","_law_size"] (sp0 K mg 1 zAV):=by
 letI:Kc:=⟨K⟩;exact dfM B.S.d3 wC (fun _ _ _ _ _ _=>uw2 fun _ _=>rfl) fun hr hu h=>⟨_,(zA5 (pst 2 wC.nd (zAP (zDA (K:=K) rfl) rfl B.S.e5 qK5 (zA1 (zAP zE3 rfl B.S.e8 qKd (zA1 (zAI zB6 zAC (pn 1)) zA6)) zA6)))
   (zA5 (pst 3 wC.nd (zAI zN5 (zDS (zA1 zAC zA6)) (zAI zB6 zAC (pn 1))))
   (zA5 (zBV qJ9 rfl (zC3 rfl B.S.e8 (zA1 (zAI zB6 zAC (pn 1)) zA6)) (zBM (i:=4) wC.nd rfl oi) (zA5 (pst 5 wC.nd (zNG qBl qCq qCr zHY (pn 2) (zA1 zAC zA6)))
   (zA5 (pst 6 wC.nd (zNG qBl qCq qCr zHY (pn 2) (zA1 (zAI zD1 (pn 0) (zAL (zBA (K:=K)) rfl B.S.e4 qJg (zA1 (pn 2) zA6))) zA6)))
   (zA5 (pst 0 wC.nd (zAI zCY (pn 0) (zAI zBO (zAL (zBA (K:=K)) rfl B.S.e4 qJg (zA1 (pn 2) zA6)) zAC)))
   (zA5 (zDQ (pn 6) (zDR (pn 3) (pn 5) zGK))
   (zAK (zDQ (pn 5) (zDR (pn 3) (pn 6) zGK))))))))
   (zAK (zBC (pn 3)))))),(zCC (zAJ (zAM (n:=1) [1] (zBN (zA3 (zAF zB7 (dz zAA) (de_v 1)) zAD)))
   (zAJ (zAM (n:=1) [1] (zAF zGT (zDX (n:=0) (zA3 zAA zAD)) (dz (zAF zB7 (dz zAA) (de_v 1)))))
   (zAJ (zF2 (zJR (zA3 (zAF zB7 (dz zAA) (de_v 1)) zAD)) (zAJ (zMN 5 2 (dz zAA))
   (zAJ (zMN 6 2 (dz (zAF zBS (de_v 0) (dz (zBJ zBB (zA3 (de_v 2) zAD))))))
   (zAJ (zAM (n:=0) [0,2] (zAF zCZ (de_v 0) (zAF zB2 (dz (zBJ zBB (zA3 (de_v 2) zAD))) (dz zAA))))
   (zAJ (zF1 3 (n:=0) (de_v 5) (de_v 6))
   (zF1 3 (n:=0) (de_v 6) (de_v 5)))))))
   (zE6 3)))) h)⟩
theorem zG0:Has P w K mg base "_law_net" 1 ["_law_cells_here","_law_size"] (sp0 K mg 1 zBP):=by
 letI:Kc:=⟨K⟩;exact dfM B.S.d4 wF (fun _ _ _ _ _ _=>uw2 fun _ _=>rfl) fun hr hu h=>⟨_,(zA5 (pst 2 wF.nd (zAP (zDA (K:=K) rfl) rfl B.S.e5 qK5 (zA1 (zAP zE3 rfl B.S.e8 qKd (zA1 (zAI zB6 zAC (pn 1)) zA6)) zA6)))
   (zA5 (pst 3 wF.nd (zAI zN5 (zDS (zA1 zAC zA6)) (zAI zB6 zAC (pn 1))))
   (zA5 (zBV qJ9 rfl (zC3 rfl B.S.e8 (zA1 (zAI zB6 zAC (pn 1)) zA6)) (zBM (i:=4) wF.nd rfl oi) (zA5 (pst 5 wF.nd (zNG qBl qCq qCr zHY (pn 2) (zA1 zAC zA6)))
   (zA5 (pst 6 wF.nd (zAI zCY (zBW (zBT (K:=K)) (pn 0) (zAI zD1 (pn 4) (zAL (zBA (K:=K)) rfl B.S.e4 qJg (zA1 (pn 0) zA6))) (fun _ _=>rfl)) (zAI zBO zAC (zAI zCY (pn 4) (zAL (zBA (K:=K)) rfl B.S.e4 qJg (zA1 (pn 0) zA6))))))
   (zA5 (pst 7 wF.nd (zNG qBl qCq qCr zHY (pn 2) (zA1 (zAI zD1 (pn 6) (zAL (zBA (K:=K)) rfl B.S.e4 qJg (zA1 (pn 2) zA6))) zA6)))
   (zA5 (zDQ (pn 7) (zDR (pn 3) (pn 5) zGK))
   (zAK (zDQ (pn 5) (zDR (pn 3) (pn 7) zGK))))))))
   (zAK (zBC (pn 3)))))),(zCC (zAJ (zAM (n:=1) [1] (zBN (zA3 (zAF zB7 (dz zAA) (de_v 1)) zAD)))
   (zAJ (zAM (n:=1) [1] (zAF zGT (zDX (n:=0) (zA3 zAA zAD)) (dz (zAF zB7 (dz zAA) (de_v 1)))))
   (zAJ (zF2 (zJR (zA3 (zAF zB7 (dz zAA) (de_v 1)) zAD)) (zAJ (zMN 5 2 (dz zAA))
   (zAJ (zAM (n:=0) [0,4] (zAF zCZ (zAF zBU (de_v 0) (dz (zAF zBS (de_v 4) (dz (zBJ zBB (zA3 (de_v 0) zAD)))))) (zAF zB2 (dz zAA) (dz (zAF zCZ (de_v 4) (dz (zBJ zBB (zA3 (de_v 0) zAD))))))))
   (zAJ (zMN 7 2 (dz (zAF zBS (de_v 6) (dz (zBJ zBB (zA3 (de_v 2) zAD))))))
   (zAJ (zF1 3 (n:=0) (de_v 5) (de_v 7))
   (zF1 3 (n:=0) (de_v 7) (de_v 5)))))))
   (zE6 3)))) h)⟩
theorem zFZ:Has P w K mg base "_law_product" 1 ["_law_one","_law_other"] (sp0 K mg 1 zBZ):=by
 letI:Kc:=⟨K⟩;exact dfM B.S.d5 wH (fun _ _ _ _ _ _=>uw2 fun _ _=>rfl) fun hr hu h=>⟨_,(zA5 (pst 2 wH.nd (zAI zN5 (zDS (zA1 zAC zA6)) (zAI zRA (zAI zBO (zAL (zBA (K:=K)) rfl B.S.e4 qJg (zA1 (pn 0) zA6)) (zAL (zBA (K:=K)) rfl B.S.e4 qJg (zA1 (pn 1) zA6))) zAC)))
   (zA5 (zBV qJ9 rfl (zC3 rfl B.S.e8 (zA1 (zAL (zBA (K:=K)) rfl B.S.e4 qJg (zA1 (pn 0) zA6)) zA6)) (zBM (i:=3) wH.nd rfl oi) (zAK (zBV qJ9 rfl (zC3 rfl B.S.e8 (zA1 (zAL (zBA (K:=K)) rfl B.S.e4 qJg (zA1 (pn 1) zA6)) zA6)) (zBM (i:=4) wH.nd rfl oi) (zAK (zDQ (zAI zBO (zBW (zBT (K:=K)) (pn 2) (zAI zBO (pn 3) (pn 4)) (fun _ _=>rfl)) (zAI zB6 (zBW (zBT (K:=K)) (pn 0) (pn 3) (fun _ _=>rfl)) (zBW (zBT (K:=K)) (pn 1) (pn 4) (fun _ _=>rfl)))) (zDR (pn 2) (zAI zBO (pn 3) (pn 4)) zGK))))))
   (zAK (zBC (pn 2))))),(zCC (zAJ (zAM (n:=1) [0,1] (zAF zGT (zDX (n:=0) (zA3 zAA zAD)) (dz (zAF zLX (zAF zB2 (dz (zBJ zBB (zA3 (de_v 0) zAD))) (dz (zBJ zBB (zA3 (de_v 1) zAD)))) (dz zAA)))))
   (zAJ (zF2 (zJR (zA3 (zBJ zBB (zA3 (de_v 0) zAD)) zAD)) (zF2 (zJR (zA3 (zBJ zBB (zA3 (de_v 1) zAD)) zAD)) (zF1 2 (n:=1) (zAF zB2 (de_v 3) (de_v 4)) (zAF zB2 (zAF zBU (de_v 2) (zAF zB2 (de_v 3) (de_v 4))) (dz (zAF zB7 (zAF zBU (de_v 0) (de_v 3)) (zAF zBU (de_v 1) (de_v 4))))))))
   (zE6 2))) h)⟩
theorem zCN:Has P w K mg base "_law_row_is" 1 ["_law_found","_law_due"] (sp0 K mg 0 zBG):=by
 letI:Kc:=⟨K⟩;exact dfM B.S.d6 wP (fun _ _ _ _ _ _=>uw2 fun _ _=>rfl) fun hr hu h=>⟨_,(zA5 (zFV (pt_w (zOR (zGW (pt_m (zAL zCM rfl B.S.e3 qKt (zA1 (pn 0) (zA1 (zHU (v:=.ty "list") rfl B.S.e5 qK5 rfl) zA6))))) (zJ6 (zFC (u_ne hu) (zAL (zBA (K:=K)) rfl B.S.e4 qJg (zA1 (pn 0) zA6)) (zAL (zBA (K:=K)) rfl B.S.e4 qJg (zA1 (pn 1) zA6)) (zCG _))))) (zAK (zBC zS7)) zCE)
   (zA5 (zBV qJ9 rfl (zFX (K:=K) (pn 0)) (zBM (i:=2) wP.nd rfl oi) (zAK (zFV (pt_w (zOR (zGW (pt_m (zAL zCM rfl B.S.e3 qKt (zA1 (pn 2) (zA1 (zHU (v:=.ty "int") rfl B.S.e2 boot_int rfl) zA6))))) (zJ6 (pt_m (zAL zCM rfl B.S.e3 qKt (zA1 (pn 2) (zA1 (zHU (v:=.ty "bool") rfl B.S.e0 boot_bool rfl) zA6))))))) (zAK (zBC zS7)) zCE)))
   (zAK (zBC (zKP (u_eq hu) (pn 0) (pn 1) (zCG _)))))),(zCC (zAJ (zGQ (zQ7 (zH5 (dt_m (dz (zMQ (by decide) (de_v 0))))) (dt_b (dz (zAF zaY (dz (zBJ zBB (zA3 (de_v 0) zAD))) (dz (zBJ zBB (zA3 (de_v 1) zAD))))))) (zD0 (n:=0) [] zTC) zDC)
   (zAJ (zGA [0] (zGB (de_v 0)) (zCB 2) (zGQ (zQ7 (zH5 (dt_m (dz (zMQ (by decide) (de_v 2))))) (dt_m (dz (zMQ (by decide) (de_v 2))))) (zD0 (n:=0) [] zTC) zDC))
   (zD0 (n:=0) [0,1] (zAF zKL (de_v 0) (de_v 1))))) h)⟩
theorem zF8:Has P w K mg base "places_in" 1 ["net"] (sp0 K mg 0 zBD):=by
 letI:Kc:=⟨K⟩;exact dfM B.S.d7 zLM (fun _ _ _ _ _ _=>uw1 fun _=>rfl) fun hr hu h=>⟨_,(zAK (zBC (zAI zCY (zAL (zBA (K:=K)) rfl B.S.e4 qJg (zA1 (pn 0) zA6)) (zEY rfl B.c_SEATS.2 B.c_SEATS.1)))),(zCC (zD0 (n:=0) [0] (zAF zCZ (dz (zBJ zBB (zA3 (de_v 0) zAD))) (dz zAA))) h)⟩
theorem zJB:Has P w K mg base "join_ends" 1 ["ties","one","other"] (spW0 K mg 0 1 0 zB4):=by
 letI:Kc:=⟨K⟩;exact dfW B.S.d8 wN (fun _ _ _ _ _ _=>uw3 fun _ _ _=>rfl) fun hr hu h=>⟨_,(zA5 (pst 3 wN.nd (zBW (zBT (K:=K)) (pn 0) (pn 1) (fun _ _=>rfl)))
   (zA5 (pst 4 wN.nd (zBW (zBT (K:=K)) (pn 0) (pn 2) (fun _ _=>rfl)))
   (zA5 (zDQ zM6 (zDR (pn 0) (pn 1) zGK))
   (zA5 (zDQ zM6 (zDR (pn 0) (pn 2) zGK))
   (zA5 (zFV (zFC (u_eq hu) (pn 3) (pn 2) (zCG _)) (zAK (zBC zAC)) zCE)
   (zA5 (zDQ (pn 4) (zDR (pn 0) (pn 3) zGK))
   (zA5 (zDQ (pn 3) (zDR (pn 0) (pn 4) zGK))
   (zAK (zBC zAC))))))))),(zOL (zEP (zCV (L:=0) (zAM (n:=0) [0,1] (zAF zBU (zZY 0) (de_v 1))))
   (zEP (zCV (L:=0) (zAM (n:=0) [0,2] (zAF zBU (zZY 0) (de_v 2))))
   (zEP (zCV (L:=0) (zFL 0 (n:=0) (de_v 1) zMP))
   (zEP (zCV (L:=0) (zFL 0 (n:=0) (de_v 2) zMP))
   (zEP (zbQ (dt_b (dz (zAF zKL (de_v 3) (de_v 2)))) (zQC (dz zAA)) (zCV (L:=0) zDC))
   (zEP (zCV (L:=0) (zFL 0 (n:=0) (de_v 3) (de_v 4)))
   (zEP (zCV (L:=0) (zFL 0 (n:=0) (de_v 4) (de_v 3)))
   (zQC (dz zAA))))))))) h)⟩
theorem zP3:Has P w K mg base "joined" 1 ["way","seat"] (sp0 K mg 0 zCL):=by
 letI:Kc:=⟨K⟩;exact dfM B.S.d9 zTL (fun _ _ _ _ _ _=>uw2 fun _ _=>rfl) fun hr hu h=>⟨_,(zAK (zBC (zAI zaN (pn 1) (zAI zBO (pn 0) zAC)))),(zCC (zD0 (n:=0) [1,0] (zAF zXP (de_v 1) (zAF zB2 (de_v 0) (dz zAA)))) h)⟩
theorem zHV:Has P w K mg base "join_place" 2 ["ties","place","way"] (spW0 K mg 0 1 0 zBE):=by
 letI:Kc:=⟨K⟩;exact dfW B.S.d10 wG (fun _ _ _ _ _ _=>uw3 fun _ _ _=>rfl) fun hr hu h=>⟨_,(zA5 (pst 3 wG.nd zAC)
   (zA5 (zBV qJ9 rfl (zC3 rfl B.S.e8 (zA1 (zEY rfl B.c_SEATS.2 B.c_SEATS.1) zA6)) (zBM (i:=4) wG.nd rfl oi) (zA5 (pst 5 wG.nd (zCF (zP3 B) (by decide) hr rfl (zA1 (pn 2) (zA1 (pn 4) zA6))))
   (zAK (zFV (zFC u_lt (pn 4) (pn 5) (zCG _)) (zAK (pst 3 wG.nd (zAI zBO (pn 3) (zCF (zJB B) (by decide) hr rfl (zA1 (pn 0) (zA1 (zAI zBO (zAI zB6 (pn 1) (zEY rfl B.c_SEATS.2 B.c_SEATS.1)) (pn 4)) (zA1 (zAI zBO (zAI zB6 (pn 1) (zEY rfl B.c_SEATS.2 B.c_SEATS.1)) (pn 5)) zA6))))))) zCE))))
   (zAK (zBC (pn 3))))),(zOL (zEP (zCV (L:=0) (zAM (n:=0) [] zAA))
   (zEP (zCV (L:=0) (zF2 (zJR (zA3 zAA zAD)) (zAJ (zAM (n:=0) [2,4] (zB5 (zA3 (de_v 2) (zA3 (de_v 4) zAD))))
   (zGQ (dt_b (dz (zAF zGU (de_v 4) (de_v 5)))) (zWL 3 0 (zA3 (zAS (zAF zB2 (dz (zAF zB7 (de_v 1) (dz zAA))) (de_v 4))) (zA3 (zAS (zAF zB2 (dz (zAF zB7 (de_v 1) (dz zAA))) (de_v 5))) zAD))) zDC))))
   (zQC (de_v 3)))) h)⟩
theorem zFY:Has P w K mg base "count_at" 1 ["counts","k"] (sp0 K mg 0 zBY):=by
 letI:Kc:=⟨K⟩;exact dfM B.S.d11 zO0 (fun _ _ _ _ _ _=>uw2 fun _ _=>rfl) fun hr hu h=>⟨_,(zAK (zBC (zHS (zFC u_lt (pn 1) (zAL (zBA (K:=K)) rfl B.S.e4 qJg (zA1 (pn 0) zA6)) (zCG _)) (zBW (zBT (K:=K)) (pn 0) (pn 1) (fun _ _=>rfl)) zAC))),(zCC (zD0 (n:=0) [1,0] (zQH (dt_b (dz (zAF zGU (de_v 1) (dz (zBJ zBB (zA3 (de_v 0) zAD)))))) (zAF zBU (de_v 0) (de_v 1)) zAA)) h)⟩
theorem zP2:Has P w K mg base "summed" 2 ["one","other"] (sp0 K mg 2 zCT):=by
 letI:Kc:=⟨K⟩;exact dfM B.S.d12 uE (fun _ _ _ _ _ _=>uw2 fun _ _=>rfl) fun hr hu h=>⟨_,(zA5 (pst 2 uE.nd (zAL (zJV rfl) rfl B.S.e6 boot_max (zA1 (zAL (zBA (K:=K)) rfl B.S.e4 qJg (zA1 (pn 0) zA6)) (zA1 (zAL (zBA (K:=K)) rfl B.S.e4 qJg (zA1 (pn 1) zA6)) zA6))))
   (zAK (zBC (zHT rfl (cn ["one","other","2","k"] 1 (by kernel_rfl)) (zC3 rfl B.S.e8 (zA1 (pn 2) zA6)) (fun _ _ _ _=>(pgn 3)) (fun _ _ _ _=>zEX) (fun _ _ _ _=>(zAI zBO (zCF (zFY B) (by decide) hr rfl (zA1 (pn 0) (zA1 (pn 3) zA6))) (zCF (zFY B) (by decide) hr rfl (zA1 (pn 1) (zA1 (pn 3) zA6))))))))),(zCC (zAJ (zAM (n:=0) [0,1] (zBJ zUN (zA3 (zBJ zBB (zA3 (de_v 0) zAD)) (zA3 (zBJ zBB (zA3 (de_v 1) zAD)) zAD))))
   (zD0 (n:=2) [0,1,2] (zF3 (n:=1) (zJR (zA3 (de_v 2) zAD)) (zCB 3) zH4 (zAF zB2 (zB5 (zA3 (de_v 0) (zA3 (de_v 3) zAD))) (zB5 (zA3 (de_v 1) (zA3 (de_v 3) zAD))))))) h)⟩
theorem zFD:Has P w K mg base "without_place" 3 ["counted","place"] (sp0 K mg 2 zAR):=by
 letI:Kc:=⟨K⟩;exact dfM B.S.d13 wD (fun _ _ _ _ _ _=>uw2 fun _ _=>rfl) fun hr hu h=>⟨_,(zA5 (pst 2 wD.nd zS4)
   (zA5 (zBV qJ9 rfl (zYB (pn 0)) (zBM (i:=3) wD.nd rfl oi) (zAK (zBV qJ9 rfl (zFX (K:=K) (zEY (v:=.ref B.u_ALL_WAYS) rfl B.c_ALL_WAYS.2 rfl)) (zBM (i:=4) wD.nd rfl oi) (zA5 (pst 5 wD.nd (zAP (zDA (K:=K) rfl) rfl B.S.e5 qK5 (zA1 (pn 3) zA6)))
   (zA5 (pst 6 wD.nd (zCF (zHV B) (by decide) hr rfl (zA1 (pn 5) (zA1 (pn 1) (zA1 (pn 4) zA6)))))
   (zA5 (pst 7 wD.nd (zS6 (zPT hr) (pn 2) (zAP (zMD (K:=K)) rfl B.S.e11 qMj (zA1 (pn 5) zA6)) (zDS zA6) ⟨rfl,rfl,rfl,rfl⟩))
   (zAK (zVI (zPT hr) (pn 2) (zAP (zMD (K:=K)) rfl B.S.e11 qMj (zA1 (pn 5) zA6)) (zCF (zP2 B) (by decide) hr rfl (zA1 (pn 7) (zA1 (zAI zBO (zAI zN5 (zDS (zA1 zAC zA6)) (pn 6)) (zP0 (zPT hr) (pn 0) (pn 3) (fun _ _=>rfl))) zA6))) rfl))))))))
   (zAK (zBC (pn 2))))),(zCC (zAJ (zAM (n:=2) [] (zWQ (n:=1)))
   (zAJ (zGA [0] (zbR (de_v 0)) (zCB 3) (zGA [] (zGB (zWP B.c_ALL_WAYS.1)) (zCB 4) (zAJ (zAM (n:=1) [3] (zBJ zQQ (zA3 (de_v 3) zAD)))
   (zAJ (zT2 (k:=0) 6 5 (zA3 (de_v 1) (zA3 (de_v 4) zAD)))
   (zQ8 7 2 (zWO (de_v 2) (zBJ zMY (zA3 (de_v 5) zAD)) (zDX (n:=8) zAD)) (zBJ zMY (zA3 (de_v 5) zAD)) (n:=2) (zB5 (zA3 (de_v 7) (zA3 (zAS (zAF zB2 (zAF zGT (zDX (n:=0) (zA3 zAA zAD)) (de_v 6)) (zZZ (de_v 0) (de_v 3)))) zAD))))))))
   (zE6 2))) h)⟩
theorem zC4:HasD P w K mg base "counts_of" 4 ["net","order"] (spE K mg 1 zAU):=by
 letI:Kc:=⟨K⟩;exact dfD B.S.d14 wJ rfl rfl rfl rfl rfl (by decide) fun hr hu h=>⟨_,(zA5 (zFV (zFC u_gt (zCF (zF8 B) (by decide) hr rfl (zA1 (pn 0) zA6)) (zEY rfl B.c_MOST_CHOSEN.2 B.c_MOST_CHOSEN.1) (zCG _)) (zAK (zRZ (zYF B.z_TooMany rfl (zA1 zYE zA6)) zQ3 rfl)) zCE)
   (zA5 (pst 2 wJ.nd (zHS (zFC zYP (pn 1) zM6 (zCG _)) (zAP (zDA (K:=K) rfl) rfl B.S.e5 qK5 (zA1 (zAP zE3 rfl B.S.e8 qKd (zA1 (zCF (zF8 B) (by decide) hr rfl (zA1 (pn 0) zA6)) zA6)) zA6)) (pn 1)))
   (zA5 (pst 3 wJ.nd (zS5 (zPT hr) (zAP (zMD (K:=K)) rfl B.S.e11 qMj (zA1 (pn 0) zA6)) (zDS (zA1 zAC zA6))))
   (zA5 (zBV zVP rfl (zFX (K:=K) (pn 2)) (zBM (i:=4) wJ.nd rfl oi) (zAK (pst 3 wJ.nd (zCF (zFD B) (by decide) hr rfl (zA1 (pn 3) (zA1 (pn 4) zA6))))))
   (zAK (zBC (zP0 (zPT hr) (pn 3) (zAP (zMD (K:=K)) rfl B.S.e11 qMj (zA1 (zHT rfl (cn ["0","1","2","3","4","end"] 1 (by kernel_rfl)) (zFX (K:=K) (pn 0)) (fun _ _ _ _=>(pgn 5)) (fun _ _ _ _=>zEX) (fun _ _ _ _=>zM6)) zA6)) (fun _ _=>rfl)))))))),(zCC (zAJ (zGQ (dt_b (dz (zAF zGU (zI7 (zA3 (de_v 0) zAD)) (dz zAA)))) (zQA B.z_TooMany (zA3 za0 zAD)) zDC)
   (zAJ (zAM (n:=0) [1,0] (zQH (dt_b (dz (zAF zaZ (de_v 1) (dz zMP)))) (zAS (zBN (zA3 (zI7 (zA3 (de_v 0) zAD)) zAD))) (de_v 1)))
   (zAJ (zAM (n:=2) [0] (zWN (n:=1) (zBJ zMY (zA3 (de_v 0) zAD)) (zDX (n:=0) (zA3 zAA zAD))))
   (zAJ (zGA [2] (zGB (de_v 2)) (zCB 4) (zAM (n:=2) [3,4] (zI7 (zA3 (de_v 3) (zA3 (de_v 4) zAD)))))
   (zQ9 3 (zBJ zMY (zA3 (zAS (zF3 (n:=0) (zGB (de_v 0)) (zCB 5) zH4 zMP)) zAD))))))) h)⟩
theorem zE0:Has P w K mg base "worth_at" 1 ["counts","x"] (sp0 K mg 1 zCA):=by
 letI:Kc:=⟨K⟩;exact dfM B.S.d15 wM (fun _ _ _ _ _ _=>uw2 fun _ _=>rfl) fun hr hu h=>⟨_,(zA5 (pst 2 wM.nd zAC)
   (zA5 (zBV qJ9 rfl (zYA (K:=K) rfl B.S.e9 (zA1 (pn 0) zA6)) (zBM (i:=3) wM.nd rfl oi) (zAK (pst 2 wM.nd (zAI zBO (zAI zB6 (pn 2) (pn 1)) (pn 3)))))
   (zAK (zBC (pn 2))))),(zCC (zAJ (zAM (n:=0) [] zAA)
   (zAJ (zGA [0] (zZV (zA3 (de_v 0) zAD)) (zCB 3) (zAM (n:=1) [3,2,1] (zAF zB2 (dz (zAF zB7 (de_v 2) (de_v 1))) (de_v 3))))
   (zE6 2))) h)⟩
theorem zYT{f:Addr}{fd:qJl}(F:Fun K "law" "law" (top 26) f fd):FnOk P w K mg base CX0 5 f fd ["_law_script"] (zGS K):=by
 letI:Kc:=⟨K⟩;refine(F.ok wK (sp:=sp0 K mg 0 zJD) (fun vs H Q E h=>zHJ h) (fun cdv A outer s H vs Q E hr h=>?_)).imp (zSL zSK);have hu:=hr.units;exact⟨_,(zA5 (pst 1 wK.nd (zCF (zHX B) (by decide) hr rfl (zA1 (pn 0) (zA1 zAC zA6))))
   (zA5 (pst 2 wK.nd (zOY (zA1 (zAI zBO zAC (zAI zD1 (zAI zCY (zBW (zBT (K:=K)) (pn 1) zAC (fun _ _=>rfl)) zAC) zAC)) (zA1 (zAI zBO zAC (zAI zD1 (zAI zCY (zBW (zBT (K:=K)) (pn 1) zAC (fun _ _=>rfl)) zAC) zAC)) zA6))))
   (zA5 (pst 3 wK.nd (zCF (zG0 B) (by decide) hr rfl (zA1 (zEH (u_sl (K:=K)) (pn 1) (zDZ zAC) (zDZ zAC)) (zA1 (zBW (zBT (K:=K)) (pn 2) zAC (fun _ _=>rfl)) zA6))))
   (zA5 (pst 4 wK.nd (zCF (zG0 B) (by decide) hr rfl (zA1 (zEH (u_sl (K:=K)) (pn 1) (zDZ zAC) (zDZ zAC)) (zA1 (zBW (zBT (K:=K)) (pn 2) zAC (fun _ _=>rfl)) zA6))))
   (zA5 (zFV (pt_w (zY7 (zFC u_gt (zAL (zBA (K:=K)) rfl B.S.e4 qJg (zA1 (pn 0) zA6)) zAC (zCG _)) (zVG (zFC (u_eq hu) (zAI zD1 (zBW (zBT (K:=K)) (pn 0) zAC (fun _ _=>rfl)) zAC) zAC (zCG _))))) (zA5 (pst 3 wK.nd (zCF (zCP B) (by decide) hr rfl (zA1 (zBW (zBT (K:=K)) (pn 1) zAC (fun _ _=>rfl)) (zA1 (zBW (zBT (K:=K)) (pn 2) zAC (fun _ _=>rfl)) zA6))))
   (zAK (pst 4 wK.nd (zCF (zCP B) (by decide) hr rfl (zA1 (zBW (zBT (K:=K)) (pn 1) zAC (fun _ _=>rfl)) (zA1 (zBW (zBT (K:=K)) (pn 2) zAC (fun _ _=>rfl)) zA6)))))) zCE)
   (zA5 (pst 5 wK.nd (zCF (zGO B) (by decide) hr rfl (zA1 (pn 3) (zA1 (pn 4) (zA1 (zKP (u_eq hu) (zAI zD1 (zAI zCY (zBW (zBT (K:=K)) (pn 1) zAC (fun _ _=>rfl)) zAC) zAC) zAC (zCG _)) zA6)))))
   (zA5 (pst 6 wK.nd (zDS (zA1 (zM7 (zC4 B) (by decide) hr zJN rfl (zA1 (pn 3) zA6)) (zA1 (zM7 (zC4 B) (by decide) hr zJN rfl (zA1 (pn 4) zA6)) zA6))))
   (zA5 (zBV qJ9 rfl (zFX (K:=K) (pn 6)) (zBM (i:=7) wK.nd rfl oi) (zAK (zFV (pt_w (zOR (zGW (pt_m (zAL zCM rfl B.S.e3 qKt (zA1 (pn 7) (zA1 (zHU (v:=.ty "list") rfl B.S.e5 qK5 rfl) zA6))))) (zJ6 (zGW (pt_m (zCF (zCN B) (by decide) hr rfl (zA1 (pn 7) (zA1 (zAP (zDA (K:=K) rfl) rfl B.S.e5 qK5 (zA1 (pn 7) zA6)) zA6)))))))) (zAK (zBC zS7)) zCE)))
   (zA5 (pst 8 wK.nd (zCF (zFZ B) (by decide) hr rfl (zA1 (zBW (zBT (K:=K)) (pn 6) zAC (fun _ _=>rfl)) (zA1 (zBW (zBT (K:=K)) (pn 6) zAC (fun _ _=>rfl)) zA6))))
   (zA5 (pst 9 wK.nd (zAI zCY (zAL (zBA (K:=K)) rfl B.S.e4 qJg (zA1 (pn 5) zA6)) zAC))
   (zA5 (pst 10 wK.nd (zAI zD1 (zBW (zBT (K:=K)) (pn 1) zAC (fun _ _=>rfl)) (pn 9)))
   (zA5 (pst 11 wK.nd (zAI zBO (zEH (u_sl (K:=K)) (zAP (zDA (K:=K) rfl) rfl B.S.e5 qK5 (zA1 (zAP zE3 rfl B.S.e8 qKd (zA1 (pn 9) zA6)) zA6)) (zDZ (pn 10)) zKM) (zAP (zW4 (K:=K) rfl) rfl B.S.e5 qK5 (zA1 (zAP (zbH (K:=K)) rfl B.S.e9 zGR (zA1 (zEH (u_sl (K:=K)) (zAP (zDA (K:=K) rfl) rfl B.S.e5 qK5 (zA1 (zAP zE3 rfl B.S.e8 qKd (zA1 (pn 9) zA6)) zA6)) zKM (zDZ (pn 10))) zA6)) zA6))))
   (zA5 (zFV (pt_w (zOR (zGW (pt_m (zCF (zCN B) (by decide) hr rfl (zA1 (zM7 (zC4 B) (by decide) hr zJN rfl (zA1 (pn 5) zA6)) (zA1 (pn 8) zA6))))) (zJ6 (zGW (pt_m (zCF (zCN B) (by decide) hr rfl (zA1 (zYH (HasD.full (zC4 B)) (by decide) hr zJN rfl (zA1 (pn 5) (zA1 (pn 11) zA6))) (zA1 (pn 8) zA6)))))))) (zAK (zBC zS7)) zCE)
   (zA5 (pst 12 wK.nd (zAI zRA (zAI zD1 (zBW (zBT (K:=K)) (pn 1) zAC (fun _ _=>rfl)) zAC) zAC))
   (zAK (zBC (zKP (u_eq hu) (zCF (zE0 B) (by decide) hr rfl (zA1 (zM7 (zC4 B) (by decide) hr zJN rfl (zA1 (pn 5) zA6)) (zA1 (pn 12) zA6))) (zAI zB6 (zCF (zE0 B) (by decide) hr rfl (zA1 (zBW (zBT (K:=K)) (pn 6) zAC (fun _ _=>rfl)) (zA1 (pn 12) zA6))) (zCF (zE0 B) (by decide) hr rfl (zA1 (zBW (zBT (K:=K)) (pn 6) zAC (fun _ _=>rfl)) (zA1 (pn 12) zA6)))) (zCG _)))))))))))))))))),(zCC (zAJ (zAM (n:=1) [0] (zB5 (zA3 (de_v 0) (zA3 zAA zAD))))
   (zAJ (zAM (n:=2) [1] (zQG (n:=1) (zA3 (zAF zB2 (dz zAA) (dz (zAF zBS (dz (zAF zCZ (zAF zBU (de_v 1) (dz zAA)) (dz zAA))) (dz zAA)))) (zA3 (zAF zB2 (dz zAA) (dz (zAF zBS (dz (zAF zCZ (zAF zBU (de_v 1) (dz zAA)) (dz zAA))) (dz zAA)))) zAD))))
   (zAJ (zAM (n:=1) [1,2] (zB5 (zA3 (zAS (zT8 (de_v 1) (do_e (dz zAA)) (do_e (dz zAA)))) (zA3 (zAF zBU (de_v 2) (dz zAA)) zAD))))
   (zAJ (zAM (n:=1) [1,2] (zB5 (zA3 (zAS (zT8 (de_v 1) (do_e (dz zAA)) (do_e (dz zAA)))) (zA3 (zAF zBU (de_v 2) (dz zAA)) zAD))))
   (zAJ (zGQ (zZR (dt_b (dz (zAF zGU (dz (zBJ zBB (zA3 (de_v 0) zAD))) (dz zAA)))) (dt_b (dz (zAF zKL (dz (zAF zBS (zAF zBU (de_v 0) (dz zAA)) (dz zAA))) (dz zAA))))) (zAJ (zAM (n:=1) [1,2] (zB5 (zA3 (zAF zBU (de_v 1) (dz zAA)) (zA3 (zAF zBU (de_v 2) (dz zAA)) zAD))))
   (zAM (n:=1) [1,2] (zB5 (zA3 (zAF zBU (de_v 1) (dz zAA)) (zA3 (zAF zBU (de_v 2) (dz zAA)) zAD))))) zDC)
   (zAJ (zAM (n:=1) [3,4,1] (zB5 (zA3 (de_v 3) (zA3 (de_v 4) (zA3 (zAF zKL (dz (zAF zBS (dz (zAF zCZ (zAF zBU (de_v 1) (dz zAA)) (dz zAA))) (dz zAA))) (dz zAA)) zAD)))))
   (zAJ (zAM (n:=2) [3,4] (zDX (n:=1) (zA3 (zEQ (zA3 (de_v 3) zAD)) (zA3 (zEQ (zA3 (de_v 4) zAD)) zAD))))
   (zAJ (zGA [6] (zGB (de_v 6)) (zCB 7) (zGQ (zQ7 (zH5 (dt_m (dz (zMQ (by decide) (de_v 7))))) (zH5 (dt_m (zB5 (zA3 (de_v 7) (zA3 (zAS (zBJ zQQ (zA3 (de_v 7) zAD))) zAD)))))) (zD0 (n:=0) [] zTC) zDC))
   (zAJ (zAM (n:=1) [6] (zB5 (zA3 (zAF zBU (de_v 6) (dz zAA)) (zA3 (zAF zBU (de_v 6) (dz zAA)) zAD))))
   (zAJ (zAM (n:=0) [5] (zAF zCZ (dz (zBJ zBB (zA3 (de_v 5) zAD))) (dz zAA)))
   (zAJ (zAM (n:=0) [9,1] (zAF zBS (zAF zBU (de_v 1) (dz zAA)) (de_v 9)))
   (zAJ (zAM (n:=1) [10,9] (zAF zB2 (zT8 (zBN (zA3 (de_v 9) zAD)) (do_e (de_v 10)) zWM) (za3 (zA3 (zAS (zT8 (zBN (zA3 (de_v 9) zAD)) zWM (do_e (de_v 10)))) zAD))))
   (zAJ (zGQ (zQ7 (zH5 (dt_m (zB5 (zA3 (zAS (zEQ (zA3 (de_v 5) zAD))) (zA3 (de_v 8) zAD))))) (zH5 (dt_m (zB5 (zA3 (zAS (zTA (zA3 (de_v 5) (zA3 (de_v 11) zAD)))) (zA3 (de_v 8) zAD)))))) (zD0 (n:=0) [] zTC) zDC)
   (zAJ (zAM (n:=0) [1] (zAF zLX (dz (zAF zBS (zAF zBU (de_v 1) (dz zAA)) (dz zAA))) (dz zAA)))
   (zD0 (n:=0) [12,5,6] (zAF zKL (zB5 (zA3 (zAS (zEQ (zA3 (de_v 5) zAD))) (zA3 (de_v 12) zAD))) (dz (zAF zB7 (zB5 (zA3 (zAF zBU (de_v 6) (dz zAA)) (zA3 (de_v 12) zAD))) (zB5 (zA3 (zAF zBU (de_v 6) (dz zAA)) (zA3 (de_v 12) zAD))))))))))))))))))))) h)⟩
end
theorem all_mk{l:qDy}{w:World}{K:qA1}{h:Heap}{mg:Str->Option Value}{fa f16 a_RoundError wA:Addr}{wW uI:Option Addr}{wI wL:ClassData}{wO wT:Array (Option Value)}(X:K.In h)(G:h.Ns qJ1 mg)(hfa:mg "law" = some (.ref fa))
  {od16 an16:Option Addr} {sl16:Array (Option Value)} {oc16 kV16 dc16 pm16 cd16 ct16:Value} {t1 t2:Tok} {ut0:Addr} {ud0:Option Addr} {un0:Nat} {us0:Array (Option Value)} {yE yD yF:Tok}
  (S:Bd K mg)
  (a16:qBg K qJ1 "law" = some (some (.ref f16)))
  (l16:K.lookup f16=some ⟨oc16,od16,.func (qB7 "law" "law" (zAW (top 26)) (zAT (top 26)) (zAB (top 26)) .none kV16 dc16 pm16 an16 cd16 ct16),sl16⟩)
  (c16:qCc K cd16 "law" = true)
  (k16:qB5 K (.ref f16)=true)
  (y0:qBg K qJ1 "ALL_WAYS" = some (some (.ref ut0)))
  (yl0:K.lookup ut0=some ⟨.type "tuple",ud0,.seq #[.int 0 yE,.int 1 yD,.int 2 yF] un0,us0⟩)
  (y1:qBg K qJ1 "MOST_CHOSEN" = some (some (.int 6 t1)))
  (y2:qBg K qJ1 "SEATS" = some (some (.int 4 t2)))
  (wR:qBg K qJ1 "RoundError" = some (some (.ref a_RoundError)))
  (wX:K.lookup a_RoundError=some ⟨.type "type",wW,.cls wI,wO⟩)
  (wV:xcD a_RoundError wI wO=true)
  (uU:qFr K a_RoundError=some wI)
  (uV:PySem.W.excTail wI.mro=true)
  (uW:qHi K (.ref a_RoundError)=some (.type "type"))
  (wY:qB4 K (.ref a_RoundError) "__getattribute__" = some (some (.builtin "BaseException.__getattribute__")))
  (uA:qB4 K (.ref a_RoundError) "__getattr__" = some none)
  (wZ:qEf K a_RoundError=true)
  (uC:qB4 K (.ref a_RoundError) "__class__" = some (some (.builtin "object.__class__")))
  (uB:qFm K a_RoundError (.type "object")=some true)
  (uS:qEo K (.ref a_RoundError) (.type "ValueError")=some true)
  (uT:qEo K (.ref a_RoundError) (.type "BaseException")=some true)
  (wU:qBg K qJ1 "TooMany" = some (some (.ref wA)))
  (uL:K.lookup wA=some ⟨.type "type",uI,.cls wL,wT⟩)
  (uH:xcD wA wL wT=true)
  (yB:qFr K wA=some wL)
  (uZ:PySem.W.excTail wL.mro=true)
  (yC:qHi K (.ref wA)=some (.type "type"))
  (uJ:qB4 K (.ref wA) "__getattribute__" = some (some (.builtin "BaseException.__getattribute__")))
  (uF:qB4 K (.ref wA) "__getattr__" = some none)
  (uO:qEf K wA=true)
  (uK:qB4 K (.ref wA) "__class__" = some (some (.builtin "object.__class__")))
  (uM:qFm K wA (.type "object")=some true)
  (uY:qEo K (.ref wA) (.type "ValueError")=some true)
  (yA:qEo K (.ref wA) (.type "BaseException")=some true)
  (ycg:qG0 K (.builtin "object.__class__") "__get__" = some (some (.builtin "getset_descriptor.__get__")))
  (yct:qGo K (.builtin "object.__class__")=some true)
  (uG:qB5 K (.ref wA)=true)
  (uN:qB4 K (.ref wA) "__init__" = some (some (.builtin "ValueError.__init__")))
  :∃fd:qJl,(∀(s:qIv)(v:Value),qMd s fd ⟨[v],[]⟩ [("_law_script",v)])/\∀base:Heap,K.In base->base.Ns qJ1 mg->FnOk l.prog w K mg base CX0 5 fa fd ["_law_script"] (zGS K):=by
 have e:=hfa.symm.trans (qC9 X G a16);cases e;have c_ALL_WAYS:KTup K ut0 [0,1,2]/\mg "ALL_WAYS" = some (.ref ut0):=⟨zW3 yl0 rfl rfl (by show 3<=sizeLine;decide) ((.cons ⟨_,rfl⟩ (.cons ⟨_,rfl⟩ (.cons ⟨_,rfl⟩ .nil)))),qC9 X G y0⟩
 have c_MOST_CHOSEN:RelV (V.int 6) (.int 6 t1)/\mg "MOST_CHOSEN" = some (.int 6 t1):=⟨⟨_,rfl⟩,qC9 X G y1⟩;have c_SEATS:RelV (V.int 4) (.int 4 t2)/\mg "SEATS" = some (.int 4 t2):=⟨⟨_,rfl⟩,qC9 X G y2⟩;have uD:Xc.XIs K a_RoundError:=⟨zO2 wX wV,wY,uA,wZ,uC,ycg,yct,uB⟩;have uQ:Xc.XIs K wA:=⟨zO2 uL uH,uJ,uF,uO,uK,ycg,yct,uM⟩;have uX:XCls K mg "RoundError" a_RoundError:=⟨za7 wR,qC9 X G wR,uD⟩;have uR:XCls K mg "TooMany" wA:=⟨za7 wU,qC9 X G wU,uQ⟩;have z_TooMany:XNo K mg "TooMany" wA:=⟨uR,uG,uN⟩;refine⟨qB7 "law" "law" (zAW (top 26)) (zAT (top 26)) (zAB (top 26)) .none kV16 dc16 pm16 an16 cd16 ct16,fun s v=>.of_eq rfl,fun base _ _=>?_⟩;exact zYT ⟨S,_,_,_,_,c_SEATS,c_ALL_WAYS,c_MOST_CHOSEN,z_TooMany⟩ (zQ0 (st:=(top 26)) l16 c16 k16)
theorem walk{l:qDy}{q:qIy}{loose:List Str}{XP:(Str->Option Value)->Heap->Prop}{d:DefRec}{K:qN1->qA1}{as ts:List Addr}{e:∀P,as=(K P).map (·.1)}(hn:l.most=some 63)(hdf:d.params.defaults=[])(hts:∀P∈ts,P∉as)
  (F:∀(w:World)(mg:Str->Option Value)(fa:Addr)(h:Heap),(K w.params).In h->h.Ns qJ1 mg->mg d.name=some (.ref fa) ->
   TbE (K w.params) ts/\∃fd:qJl,(∀(s:qIv)(u:Value),qMd s fd ⟨[u],[]⟩ [("_law_script",u)])/\∀base:Heap,(K w.params).In base->base.Ns qJ1 mg->FnOk l.prog w (K w.params) mg base CX0 5 fa fd ["_law_script"] (zGS (K w.params))) :
  qFt q loose XP (qHg K as e ts).says l.row.toRowW d [] (fun f vs=>qG5 f vs):=
 L3.walk_ofM (n:=63) (k:=5) (x:="_law_script") hn (by decide) hdf ⟨rfl,by decide,by decide⟩ hts F
end Q77
open PySem PySem.W PyProof.Rows
set_option maxRecDepth 100000 in
set_option maxHeartbeats 0 in
theorem PySem.Challenge.cw_fourway_k77_whole_parted_nets_holds : PySem.Challenge.rw_fourway_k77_whole_parted_nets.Holds := by
 refine hdZ.2 ?_;dsimp only[hdZ]
 k_fill
 refine Q77.walk (l:=qCb) rfl rfl (by decide) ?F
 case F=>
  intro w mg fa h KX G hmg;refine' L3.with1 (L3.mkS (nm:="_law_beside") (st:=Q77.top 24) KX G (by k_is) (by k_is) (by k_is) (by k_is) (by k_is) (by rfl) (by rfl) (by rfl) (by decide)) ?_;intro M0;have T:=L3.Tb.mk (L3.mk1_none (by k_is)) (L3.mk1_none (by k_is)) (L3.mk1_none (by k_is)) (M0.mk1);refine' ⟨⟨_,_,_,_,T⟩,Q77.all_mk KX G hmg (by constructor<;>first|exact L3.mkD KX G (by k_is) (by k_is) (by k_is) (by k_is)|exact PySem.W.mg_none_of KX G (by k_is)|exact L2.mkDD KX G (by k_is) (by k_is) (by k_is) (by k_is) (by k_is) (by rfl)|exact M0.mkr ((T.eq _).trans rfl)) (by k_is) (by k_is) (by k_is) (by k_is) (by k_is) (by k_is) (by k_is) (by k_is) (by k_is) (by k_is) (by rfl) (by k_is) (by rfl) (by k_is) (by k_is) (by k_is) (by k_is) (by k_is) (by k_is) (by k_is) (by k_is) (by k_is) (by k_is) (by rfl) (by k_is) (by rfl) (by k_is) (by k_is) (by k_is) (by k_is) (by k_is) (by k_is) (by k_is) (by k_is) (by k_is) (by k_is) (by k_is) (by k_is)⟩
